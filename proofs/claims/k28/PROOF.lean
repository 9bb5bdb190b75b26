import PyProof.Rows.All
import Wide.All
import OpenK.AllK
import Wide.FinOn
import Lean
import PyProof.EqAt
import PyProof.EqKinds
import PyProof.TupleCall
import PyProof.ListRange
import PyProof.NeKinds
import KE.KUnpack
import KE.KSortTup
import PyProof.ZipIter
import PyProof.Rows.CallKwBuiltin
import KE.KFind
import PySem.Challenge.RW_signpoly_k28_whole_most_stays
set_option Elab.async false
set_option linter.all false
set_option maxRecDepth 100000
set_option genSizeOf false
noncomputable section
open And renaming left -> qg5
open Array renaming length_toList -> qc3, toList -> qfg
open Bool renaming false_ne_true -> qaH, and_eq_true -> qa4, false_eq_true -> qbE, eq_iff_iff -> qcJ, or_eq_true -> qgt, and_self -> qgN, not_not -> qg4
open False renaming elim -> qb4
open Int renaming mul_left_comm -> qao, mul_comm -> qaC, one_mul -> qaT, mul_le_mul_of_nonneg_left -> qaY, mul_assoc -> qa0, mul_zero -> qa8, mul_right_comm -> qbb, zero_mul -> qbk, toNat_natCast -> qbA, mul_add -> qbG, mul_pos -> qca, add_zero -> qck, le_refl -> qcA, mul_sub -> qcS, natAbs_mul -> qcU, mul_le_mul_of_nonneg_right -> qcW, neg_mul -> qc6, mul_lt_mul_of_pos_right -> qc7, lt_of_mul_lt_mul_right -> qde, zero_add -> qdm, eq_of_mul_eq_mul_left -> qdq, reduceNeg -> qdz, eq_ofNat_of_zero_le -> qdA, add_mul -> qdB, ediv_nonneg -> qdL, mul_nonneg -> qdW, mul_one -> qd7, emod_lt_of_pos -> qef, emod_nonneg -> qeR, fdiv_eq_ediv_of_nonneg -> qeV, eq_of_mul_eq_mul_right -> qeW, le_of_mul_le_mul_left -> qe2, mul_ediv_cancel_left -> qe7, sub_zero -> qfv, toNat_of_nonneg -> qfU, sub_mul -> qfV, mul_neg -> qfW, ofNat_dvd_left -> qf5, lt_or_eq_of_le -> qf6, natAbs_add_le -> qgk, lt_or_le -> qhV, le_of_eq -> qhW
open List renaming range -> qac, mem_cons_self -> qaf, length_range -> qah, length_map -> qai, mem_singleton -> qaj, mem_cons_of_mem -> qal, length_append -> qap, getElem?_eq_some_iff -> qar, getElem?_append_left -> qas, length_cons -> qat, getElem?_append_right -> qau, mem_append_right -> qav, map_cons -> qay, size_toArray -> qaz, replicate -> qaB, mem_range -> qaK, getElem?_eq_getElem -> qaL, mem_append -> qaM, getElem?_map -> qaO, mem_cons -> qaP, getElem?_eq_none -> qaQ, Nodup -> qaR, mem_append_left -> qa1, all_eq_true -> qa3, getElem?_set_self -> qba, replicate_succ -> qbc, mem_map -> qbe, ext_getElem? -> qbg, getElem?_range -> qbm, lookup_cons -> qbn, getElem?_set_ne -> qbp, map_map -> qbs, length_set -> qbw, not_mem_nil -> qbx, append_assoc -> qbz, all_cons -> qbD, mem_of_getElem? -> qbF, length_take -> qbH, append_nil -> qbO, range_succ_eq_map -> qbW, length_singleton -> qbZ, forall_mem_cons -> qb3, nodup_cons -> qb5, map_congr_left -> qb7, getD_cons_zero -> qb8, getD_cons_succ -> qb9, set_append_right -> qce, nil_append -> qcf, map_append -> qcg, length_replicate -> qch, length_nil -> qci, nodup_append -> qcm, flatten_cons -> qcn, getElem?_eq_none_iff -> qcq, replicate_zero -> qcx, map_nil -> qcy, getElem?_take_of_lt -> qcz, set_cons_zero -> qcF, set_cons_succ -> qcG, mem_filter -> qcH, getElem?_replicate -> qcI, take_of_length_le -> qcO, singleton_append -> qcT, take_length -> qcY, length_drop -> qcZ, cons_append -> qc0, lookup -> qc4, getD_eq_getElem?_getD -> qc9, nodup_nil -> qdk, drop_eq_getElem_cons -> qdl, filter_cons_of_pos -> qdu, filter_cons_of_neg -> qdv, any_cons -> qdw, of_mem_zip -> qdF, mem_iff_getElem -> qdO, take_left -> qdP, forIn_nil -> qdQ, range' -> qdU, filterMap_cons -> qdV, zip_cons_cons -> qeb, sum_cons -> qec, set_set -> qer, take_append_of_le_length -> qev, getElem_mem -> qew, getElem_inj -> qex, drop_length -> qey, range_succ -> qeE, getD -> qeF, forIn_cons -> qeG, take_zero -> qeT, foldl -> qe1, idxOf?_eq_some_iff -> qe5, getElem?_cons_succ -> qe6, zipWith_cons_cons -> qfd, replicate_succ' -> qft, range_eq_range' -> qfu, mem_map_of_mem -> qfD, flatten_append -> qfE, filter_eq_self -> qfF, pairwise_cons -> qfO, mem_filterMap -> qfP, getElem_range -> qfQ, getElem?_drop -> qfR, push_toArray -> qf3, any_eq_false -> qf4, zipIdx_cons -> qgf, range'_succ -> qgg, isEmpty_iff -> qgh, getElem_map -> qgi, filter_cons -> qgj, zipIdx_nil -> qgq, length_zip -> qgr, drop_zero -> qgy, all_map -> qgW
open List.Pairwise renaming sublist -> qgX
open List.Perm renaming refl -> qfG
open Nat renaming le_refl -> qan, lt_of_lt_of_le -> qaU, ne_of_lt -> qaW, lt_irrefl -> qa2, le_trans -> qa6, lt_succ_of_lt -> qbo, lt_succ_self -> qbI, add_sub_cancel -> qbR, mul_le_mul_right -> qbS, zero_add -> qbT, sub_self -> qbU, lt_of_le_of_lt -> qb0, zero_le -> qb2, ne_of_gt -> qb6, mul_le_mul -> qcv, le_add_right -> qcw, le_of_eq -> qcB, not_lt_zero -> qcK, add_sub_cancel_left -> qcL, le_of_lt -> qcV, le_succ -> qc5, reduceSub -> qdx, reduceAdd -> qdy, lt_trans -> qdK, pow_pos -> qeO, pow_add -> qeP, gcd -> qeQ, lt_of_succ_lt_succ -> qfl, mul_comm -> qfr, lt_or_ge -> qfs, pow_lt_pow_right -> qfB, pow_le_pow_right -> qfC, one_mul -> qfN, not_lt -> qge, succ_ne_self -> qgn, mod_eq_of_lt -> qgo, min_eq_right -> qgp, min_eq_left -> qgx, dvd_trans -> qgV, succ_mul -> qhP, sub_zero -> qhQ, pow_succ -> qhR, le_total -> qhS, gcd_comm -> qhT, add_zero -> qhU, pow_mul -> qh4, add_mul -> qh5
open Ne renaming symm -> qbu
open Option renaming bind_some -> qaa, bind_eq_some_iff -> qab, map_eq_some_iff -> qae, map_some -> qaq, isSome_iff_exists -> qcu, getD_none -> qfM
open Option.some renaming inj -> qaZ
open PyProof.Rows renaming boot_tuple -> qaF, slot_tuple_getitem -> qbr, boot_isinstance -> qbN, callWith_type1 -> qbQ, boot_list -> qct, boot_int -> qdh, boot_all -> qdi, boot_abs -> qdj, envOfC -> qej, boot_range -> qel, AllBare -> qet, boot_sum -> qeu, SortKind -> qeB, KeyOrd -> qfe, IntsAre -> qfS, subscriptTail_builtinR -> qfY, SortSt -> qgb, entry_tuple_getitem -> qgw, args_tuple_getitem -> qgG, envOfC -> qhK, callWith_builtin1 -> qhL, boot_str -> qhM, boot_min -> qhN, boot_bool -> qhO, slicePart_none -> qh7, boot_enumerate -> qic
open PySem renaming wpAny_bind -> qag, Shared -> qam, mainGlobals -> qaw, wpAny_pure -> qaE, sizeLine -> qaS, boot_len -> qaV, FuncData -> qaX, Program -> qa5, Around -> qbd, IntMulOk -> qbh, mem_of_lookup -> qbj, starEach -> qbl, compareOp -> qbv, Spec -> qby, assignEach -> qbB, binaryOp -> qbC, NameKind -> qbK, cellsFrom -> qbM, wpAny_field -> qbP, wpAny_callSpecial?_slot -> qbV, wpAny_newObj_type -> qbX, foldedSetIterable -> qbY, bootBuiltins -> qcb, wpAny_seqItems -> qcd, wpAny_setField_rec -> qcl, wpAny_passesOwn -> qco, pushCells_keeps -> qcp, attributeBase -> qcs, swapsWith -> qcC, wpAny_call_entry -> qcD, wpAny_mono -> qcM, call_meets -> qcN, wpAny_pyIter_tuple -> qcQ, wpAny_truthy_bool -> qc1, wpAny_holding -> qda, behindInMarks -> qdb, sliceBounds -> qdn, wpAny_Call_Name_kw -> qdt, wpAny_rule -> qdC, wpAny_pyIter_enum -> qdD, swapsWithSole -> qdH, swappedStores -> qdI, sizeLine_eq -> qdJ, backTo -> qdM, wpAny_ite_false -> qd0, wpAny_execs_nil -> qd1, pushCells -> qd2, letOwnedTupleGo -> qd3, wpAny_updateSeq_pair -> qed, list_append -> qee, assign -> qek, codeAny -> qem, wpAny_standAt -> qez, wpAny_onRaise -> qeA, wpAny_pyIter_list -> qeJ, typeIs_int -> qeK, holding -> qeL, codeAny_mono -> qeS, IsPart -> qeU, noFill_tuple_add -> qeY, keywordEach -> qe8, getItem -> qe9, callerA -> qfa, Within -> qfc, IsPair -> qff, intBits_le_iff -> qfi, wpAny_binaryOp_repeat_ref -> qfo, wpAny_comprehension_free -> qfw, rawInt -> qfx, builtinsNs -> qfy, Paired -> qfA, wpAny_pyNext_enum_itemD -> qfH, seq_tuple_add -> qfI, rangeSize_one -> qfJ, compEnvC -> qfK, call -> qfL, IntMulOk -> qfT, BindsTo -> qfX, codeAny_compStart_list -> qfZ, seqSlot_of -> qf0, wpAny_typeOf -> qf7, seqIndex_neg -> qf8, pyNext -> qf9, concat_meets -> qga, PassesOwn -> qgd, wpAny_letGo -> qgu, seqIndex_of -> qgv, Keyword -> qgz, Builtin -> qgE, backToKw -> qgF, wpAny_sequenceKey -> qgO, wpAny_assign_Name -> qgP, wpAny_Name -> qgQ, sysModules -> qgR, slot_list_getitem -> qgS, wpAny_pyIter_zip -> qg6, wpAny_execs_cons -> qg7, standAt -> qh0, seqIndex? -> qh1, isTrue -> qh2, wpAny_setField -> qh6, recursionLimit -> qh8, newFunctionEnv -> qh9, fitsIndex_both -> qia, firstArgMember -> qib
open PySem.Around renaming under -> qei
open PySem.Builtin.List renaming listTooLong -> qc2
open PySem.Builtin.Range renaming rangeFitsLong -> qdT, rangeSize -> qeh, small -> qg3
open PySem.Builtin.Slice renaming slicePlaces -> qcc, sliceAdjust -> qcX, sliceApplied -> qdZ, slicePartIndex -> qg1, sliceFields -> qg2
open PySem.Builtin.SmallTypes renaming nextOf -> qa7, ownedTupleIsFree -> qbL, ownedTupleHandOut -> qc8
open PySem.Builtin.Tuple renaming tupleExact -> qcj, tupleTooMany -> qdX, tupleItemsOf -> qdY, tupleIsExact -> qg0
open PySem.Calls renaming Name_function_global -> qeI
open PySem.Code renaming isFrame -> qfn, isGuard -> qgZ, frames -> qhZ
open PySem.Draws renaming list -> qhY
open PySem.Env renaming kindOf -> qjg
open PySem.F renaming slot_tuple_iterator_next -> qcr, args_tuple_add_2 -> qdd, entry_tuple_add -> qdp, slot_tuple_add -> qds, slot_tuple_mul -> qdG, slot_zip_next -> qdR, slot_int_rmul -> qdS, args_list_append_2 -> qd8, entry_list_append -> qeg, slot_list_append -> qes, slot_list_index -> qeM, plainAttrs_list -> qeN, args_tuple_iterator_next_1 -> qeX, entry_tuple_iterator_next -> qe3, args_tuple_mul_2 -> qgs, slot_tuple_rmul -> qgA, entry_tuple_mul -> qgB, args_zip_next_1 -> qgC, args_int_rmul_2 -> qgD, slot_int_index -> qgK, entry_zip_next -> qgL, entry_int_rmul -> qgM, fills_int_mul -> qgY
open PySem.Heap renaming get?_push_of_some -> qak, lt_size -> qaG, get?_push_size -> qaI, size_push -> qbi, get?_update_other -> qcP, SameBut -> qdf, get?_update_self -> qfm, ExtBut -> qhX
open PySem.Heap.IsSliceOf renaming new -> qgJ
open PySem.Heap.SameBut renaming update -> qeH
open PySem.IntMulOk renaming of_le -> qgI
open PySem.IsL renaming update -> qd6
open PySem.Obj renaming mapSeq -> qcR, data_mapFields -> qf2
open PySem.Paired renaming length -> qgm
open PySem.PassesOwn renaming never -> qbq
open PySem.SeqAt renaming EqAt -> qdo, ne_of_list_tuple -> qe4, RcNeAt -> qgH, RcAt -> qhI, list_indexAt -> qh3
open PySem.SeqAt.EqAt renaming of_refs -> qdE, same -> qea, str_int -> qeZ, int_str -> qe0, tuple_str -> qiL, tuple_none -> qiM, tuple_list -> qiN, tuple_int -> qiO, tuple_bool -> qiP, str_tuple -> qiQ, str_str -> qiR, str_none -> qiS, str_list -> qiT, str_bool -> qiU, none_tuple -> qiV, none_str -> qiW, none_list -> qiX, none_int -> qiY, none_bool -> qiZ, list_tuple -> qi0, list_str -> qi1, list_none -> qi2, list_int -> qi3, list_bool -> qi4, int_tuple -> qi5, int_none -> qi6, int_list -> qi7, int_int -> qi8, int_bool -> qi9, bool_tuple -> qja, bool_str -> qjb, bool_none -> qjc, bool_list -> qjd, bool_int -> qje, bool_bool -> qjf
open PySem.SeqAt.RcAt renaming tuples -> qdN, lists_lengths -> qen, lists -> qfb, tuple_str -> qid, tuple_none -> qie, tuple_list -> qif, tuple_int -> qig, tuple_bool -> qih, str_tuple -> qii, str_str -> qij, str_none -> qik, str_list -> qil, str_int -> qim, str_bool -> qin, none_tuple -> qio, none_str -> qip, none_none -> qiq, none_list -> qir, none_int -> qis, none_bool -> qit, list_tuple -> qiu, list_str -> qiv, list_none -> qiw, list_int -> qix, list_bool -> qiy, int_tuple -> qiz, int_str -> qiA, int_none -> qiB, int_list -> qiC, int_int -> qiD, int_bool -> qiE, bool_tuple -> qiF, bool_str -> qiG, bool_none -> qiH, bool_list -> qiI, bool_int -> qiJ, bool_bool -> qiK
open PySem.SeqAt.RcNeAt renaming tuples -> qeD, tuple_str -> qg8, tuple_none -> qg9, tuple_list -> qha, tuple_int -> qhb, tuple_bool -> qhc, str_tuple -> qhd, str_str -> qhe, str_none -> qhf, str_list -> qhg, str_int -> qhh, str_bool -> qhi, none_tuple -> qhj, none_str -> qhk, none_none -> qhl, none_list -> qhm, none_int -> qhn, none_bool -> qho, lists_lengths -> qhp, lists -> qhq, list_tuple -> qhr, list_str -> qhs, list_none -> qht, list_int -> qhu, list_bool -> qhv, int_tuple -> qhw, int_str -> qhx, int_none -> qhy, int_list -> qhz, int_int -> qhA, int_bool -> qhB, bool_tuple -> qhC, bool_str -> qhD, bool_none -> qhE, bool_list -> qhF, bool_int -> qhG, bool_bool -> qhH
open PySem.Shared renaming heap -> qfh
open PySem.Str renaming ofString -> qdg
open PySem.W renaming Frag -> qad, keepIn -> qax, nsIn -> qaA, codeIn -> qaD, fnOf -> qaJ, mg_of -> qaN, mg_none_of -> qa9, findIn -> qbf, kia_one -> qbt, emptyDict -> qbJ, instObj -> qb1, cellsFrom_some -> qcE, hasDictIn -> qdc, plainGet -> qdr, plainOver -> qd4, methodObj -> qd5, takerIn -> qeo, makesIn -> qep, OpenLaw -> qeq, lookIn -> qeC, kitx_tuple -> qfj, callWith_K -> qfk, kitx_list -> qfp, kitx_dict -> qfq, handedIn -> qfz, kitOne -> qf1, WalkO -> qgc, isFn -> qgl
open PySem.W.Looks renaming here -> qgU
open PySem.W.WShape renaming has -> qgT
open PySem.WalksT renaming enumerateD -> qd9
open PySem.Within renaming cons -> qhJ
namespace L2
open PySem PySem.Spec PyProof.Rows
abbrev Key:=Sum Int Str
def zV:Key->Value->Bool
 |.inl k,v=>Value.isInt k v
 |.inr x,v=>Value.isStrOf x v
def Dr (w:World):Key->Int
 |.inl k=>hashInt k
 |.inr x=>hashStr w x
theorem cB:∀ {k:Key}{v:Value},zV k v=true->(∃ i t,k=Sum.inl i/\v=Value.int i t)\/(∃ x t,k=Sum.inr x/\v=Value.str x t)
 |.inl i,v,h=>by
  obtain⟨t,e⟩:=Value.isInt_shape (k:=i) (v:=v) h
  exact .inl ⟨i,t,rfl,e⟩
 |.inr x,v,h=>by
  obtain⟨t,e⟩:=Value.isStrOf_shape (x:=x) (v:=v) h
  exact .inr ⟨x,t,rfl,e⟩
theorem AR (a b:Int):decide ((Sum.inl a:Key)=Sum.inl b)=(a==b):=by
 by_cases e:a=b
 ·subst e;simp
 ·have h:¬ (Sum.inl a:Key)=Sum.inl b:=λq=>e (Sum.inl.inj q)
  rw[decide_eq_false h]
  exact (beq_eq_false_iff_ne.mpr e).symm
theorem Bo (a b:Str):decide ((Sum.inr a:Key)=Sum.inr b)=decide (a=b):=by
 by_cases e:a=b
 ·subst e;simp
 ·have h:¬ (Sum.inr a:Key)=Sum.inr b:=λq=>e (Sum.inr.inj q)
  rw[decide_eq_false h,decide_eq_false e]
theorem BA (a:Int) (b:Str):decide ((Sum.inl a:Key)=Sum.inr b)=false:=decide_eq_false (λq=>nomatch q)
theorem Aw (a:Str) (b:Int):decide ((Sum.inr a:Key)=Sum.inl b)=false:=decide_eq_false (λq=>nomatch q)
def qi (prog:qa5) (w:World):PySem.KeyKind prog w Key where
 is:=zV
 hash:=Dr w
 inj:=λv a b ha hb=>by
  rcases cB ha with⟨i,t,rfl,rfl⟩|⟨x,t,rfl,rfl⟩
  ·rcases cB hb with⟨j,u,rfl,e⟩|⟨y,u,rfl,e⟩
   ·injection e with e1 _;rw[e1]
   ·exact nomatch e
  ·rcases cB hb with⟨j,u,rfl,e⟩|⟨y,u,rfl,e⟩
   ·exact nomatch e
   ·injection e with e1 _;rw[e1]
 byValue:=λk v h=>by
  rcases cB h with⟨i,t,rfl,rfl⟩|⟨x,t,rfl,rfl⟩<;>rfl
 pyHash:=λhv h=>by
  rcases cB hv with⟨i,t,rfl,rfl⟩|⟨x,t,rfl,rfl⟩
  ·exact wpAny_pyHash_int h
  ·exact wpAny_pyHash_str h
 eqBool:=λhu hv h=>by
  rcases cB hu with⟨i,t,rfl,rfl⟩|⟨x,t,rfl,rfl⟩
  ·rcases cB hv with⟨j,u,rfl,rfl⟩|⟨y,u,rfl,rfl⟩
   ·rw[AR]at h;exact wpAny_eqBool_int h
   ·rw[BA]at h;exact qe0 i t y u _ _ _ _ h
  ·rcases cB hv with⟨j,u,rfl,rfl⟩|⟨y,u,rfl,rfl⟩
   ·rw[Aw]at h;exact qeZ x t j u _ _ _ _ h
   ·rw[Bo]at h;exact wpAny_eqBool_str h
 «strs»:=λk x t v h=>by
  rcases cB h with⟨i,u,rfl,e⟩|⟨y,u,rfl,e⟩
  ·exact nomatch e
  ·injection e with e1 _
   subst e1
   cases v<;>rfl
inductive V where
 |non|bl (b:Bool)|int (i:Int)|str (x:Str)|byt (b:Array UInt8)|flt (b:UInt64)|ref (a:Addr)|ty (n:String)
 deriving DecidableEq
def bJ:V->Value->Prop
 |.non,u=>u=Value.none
 |.bl b,u=>u=Value.bool b
 |.int i,u=>∃ t,u=Value.int i t
 |.str x,u=>∃ t,u=Value.str x t
 |.byt b,u=>∃ t,u=Value.bytes b t
 |.flt b,u=>∃ t,u=Value.float b t
 |.ref a,u=>u=Value.ref a
 |.ty n,u=>u=Value.type n
abbrev bf:List V->List Value->Prop:=qfA bJ
theorem bf.length {xs:List V}{us:List Value} (r:bf xs us):xs.length=us.length:=qgm r
theorem bf.get:∀ {xs:List V}{us:List Value}{i:Nat}{x:V},bf xs us->xs[i]?=some x->∃ u,us[i]?=some u/\bJ x u
 |_,_,_,_,.nil,e=>by simp at e
 |_,_,0,_,.cons r _,e=>by simp at e;subst e;exact⟨_,rfl,r⟩
 |_,_,i+1,x,.cons _ t,e=>by
  obtain⟨u,h1,h2⟩:=bf.get (i:=i) (x:=x) t (by simpa using e)
  exact⟨u,by simpa using h1,h2⟩
theorem bf.set {x:V}{u:Value} (r:bJ x u):∀ {xs:List V}{us:List Value} (i:Nat),bf xs us->bf (xs.set i x) (us.set i u)
 |_,_,_,.nil=>.nil
 |_,_,0,.cons _ t=>.cons r t
 |_,_,i+1,.cons q t=>.cons q (bf.set r i t)
theorem bf.append:∀ {xs ys:List V}{us ws:List Value},bf xs us->bf ys ws->bf (xs++ys) (us++ws)
 |_,_,_,_,.nil,s=>s
 |_,_,_,_,.cons r t,s=>.cons r (bf.append t s)
theorem bf.take:∀ {xs:List V}{us:List Value} (n:Nat),bf xs us->bf (xs.take n) (us.take n)
 |_,_,0,_=>.nil
 |_,_,_+1,.nil=>.nil
 |_,_,n+1,.cons r t=>.cons r (bf.take n t)
theorem bf.drop:∀ {xs:List V}{us:List Value} (n:Nat),bf xs us->bf (xs.drop n) (us.drop n)
 |_,_,0,r=>r
 |_,_,_+1,.nil=>.nil
 |_,_,n+1,.cons _ t=>bf.drop n t
def tU:Option V->Option Value->Prop
 |some v,some u=>bJ v u
 |none,none=>True
 |_,_=>False
def KV {κ:Type}:List (κ×V)->List (κ×Value)->Prop:=qfA λ(p:κ×V) (q:κ×Value)=>p.1=q.1/\bJ p.2 q.2
def kV:Key->V
 |.inl i=>.int i
 |.inr x=>.str x
inductive HO where
 |lst (xs:List V)
 |tup (xs:List V)
 |dK (kvs:List (Key×V))|dT (kvs:List (List Key×V))
 |set (S:Int->Bool) (n:Nat)
 |ins (C dx:Addr) (fs:List (Str×V))
 |own (x:Addr)
 |xd (fs:List (Str×V))
 |met (f x:Addr)
 |rng (lo hi:Int)
 |frz (o:Obj) (u:HO)
 |tbl (ps:Array Value)
 |ext (φ:Heap->Prop)
abbrev Hp:=Addr->Option HO
def upd (H:Hp) (a:Addr) (o:HO):Hp:=λb=>if b=a then some o else H b
theorem upd_same {H:Hp}{a:Addr}{o:HO}:upd H a o a=some o:=by unfold upd;rw[if_pos rfl]
theorem upd_ne {H:Hp}{a b:Addr}{o:HO} (h:b≠a):upd H a o b=H b:=by unfold upd;rw[if_neg h]
theorem aV {H:Hp}{a b:Addr}{o:HO} (h:H a=some o) (h':H b=none):a≠b:=by
 intro e;subst e;rw[h]at h';cases h'
def eL (h:Heap) (a:Addr) (its:Array Value):Prop:=∃ o:Obj,h.get? a=some o/\o.cls=.type "tuple"/\(∃ n,o.data=.seq its n)/\o.dict=none
theorem eL.tup {h:Heap}{a:Addr}{its:Array Value} (x:eL h a its):IsTup h a its:=let ⟨o,e,c,n,_⟩:=x;⟨o,e,c,n⟩
theorem eL.new (h:Heap) (its:Array Value):eL (h.push { cls:=.type "tuple",data:=.seq its }) h.objs.size its:=⟨_,qaI _ rfl,rfl,⟨_,rfl⟩,rfl⟩
section
variable (P:qa5) (w:World)
def dl (H:Hp) (h:Heap) (a:Addr):HO->Prop
 |.lst xs=>xs.length<=qaS/\∃ (its:List Value) (n:Nat),bf xs its/\h.get? a=some { cls:=.type "list",data:=.seq its.toArray n }
 |.tup xs=>xs.length<=qaS/\∃ its:List Value,bf xs its/\eL h a its.toArray
 |.dK kvs=>kvs.length<=qaS/\(a==qgR)=false/\∃ vs,KV kvs vs/\h.DictOf (qi P w) a vs
 |.dT kvs=>kvs.length<=qaS/\(a==qgR)=false/\∃ xs:List (List Key×Addr×Value),
   qfA (λ(p:List Key×V) (q:List Key×Addr×Value)=>p.1=q.1/\H q.2.1=some (.tup (p.1.map kV))/\bJ p.2 q.2.2) kvs xs/\
   ∃ o es ep,h.get? a=some o/\o.ExactDict/\o.data=.dict es ep/\es.toList=xs.map (entryOfKey (tupleKind (qi P w)))/\(xs.map (·.1)).Nodup
 |.set S n=>h.SetOf (intKind P w) a S n
 |.ins C dx fs=>H dx=some (.own a)/\fs.length<=1000/\dx≠a/\h.get? a=some (qb1 C dx)/\
   ∃ mA,h.Ns1 dx mA/\(∀ f,tU (fs.lookup f) (mA f))/\qfc mA (fs.map (·.1))
 |.own _=>∃ o,h.get? a=some o
 |.xd fs=>∃ mA,h.Ns1 a mA/\∀ f,tU (fs.lookup f) (mA f)
 |.rng lo hi=>∃ t u v,h.get? a=some { cls:=.type "range",data:=.fields #[.int lo t,.int hi u,.int 1 v] }
 |.frz o u=>h.get? a=some o/\dl H h a u
 |.tbl ps=>h.get? a=some { cls:=.none,data:=.fields ps }
 |.met f x=>h.get? a=some (qd5 (.ref f) (.ref x))
 |.ext φ=>φ h/\(∃ o,h.get? a=some o)/\∀ h1 h2:Heap,φ h1->(∀ o,h1.get? a=some o->h2.get? a=some o)->φ h2
def HOk (H:Hp) (h:Heap):Prop:=∀ a o,H a=some o->dl P w H h a o
end
section
variable {P:qa5}{w:World}{H H':Hp}{h h':Heap}{a:Addr}{o:HO}
theorem dl.lt (x:dl P w H h a o):a<h.objs.size:=by
 cases o with
 |lst xs=>obtain⟨_,_,_,_,e⟩:=x;exact qaG e
 |tup xs=>obtain⟨_,_,_,p⟩:=x;exact p.tup.lt
 |dK kvs=>obtain⟨_,_,_,_,o,_,_,e,_⟩:=x;exact qaG e
 |dT kvs=>obtain⟨_,_,_,_,o,_,_,e,_⟩:=x;exact qaG e
 |set S n=>obtain⟨o,_,_,_,e,_⟩:=x;exact qaG e
 |ins C dx fs=>obtain⟨_,_,_,e,_⟩:=x;exact qaG e
 |own y=>obtain⟨_,e⟩:=x;exact qaG e
 |xd fs=>obtain⟨_,⟨_,_,_,e,_⟩,_⟩:=x;exact qaG e
 |rng lo hi=>obtain⟨_,_,_,e⟩:=x;exact qaG e
 |frz ob u=>obtain⟨e,_⟩:=x;exact qaG e
 |tbl ps=>exact qaG (show h.get? a=some _ from x)
 |met f y=>exact qaG (show h.get? a=some _ from x)
 |ext φ=>obtain⟨_,⟨_,e⟩,_⟩:=x;exact qaG e
theorem qfA.mapP {α β:Type}{F G:α->β->Prop}:∀ {l₁:List α}{l₂:List β},qfA F l₁ l₂->(∀ a b,F a b->G a b)->qfA G l₁ l₂
 |_,_,.nil,_=>.nil
 |_,_,.cons r t,f=>.cons (f _ _ r) (qfA.mapP t f)
theorem dl.stay (x:dl P w H h a o) (k:∀ b u,(b=a\/H b=some (.own a))->h.get? b=some u->h'.get? b=some u)
  (ho:∀ b,H b=some (.own a)->H' b=some (.own a)) (ht:∀ b xs,H b=some (.tup xs)->H' b=some (.tup xs)):dl P w H' h' a o:=by
 induction o with
 |lst xs=>obtain⟨z,its,n,r,e⟩:=x;exact⟨z,its,n,r,k _ _ (.inl rfl) e⟩
 |tup xs=>obtain⟨z,its,r,ob,e,c⟩:=x;exact⟨z,its,r,ob,k _ _ (.inl rfl) e,c⟩
 |dK kvs=>obtain⟨z,y,vs,r,ob,es,ep,e,c⟩:=x;exact⟨z,y,vs,r,ob,es,ep,k _ _ (.inl rfl) e,c⟩
 |dT kvs=>
  obtain⟨z,y,xs,r,ob,es,ep,e,c⟩:=x
  exact⟨z,y,xs,qfA.mapP r λp q z=>⟨z.1,ht _ _ z.2.1,z.2.2⟩,ob,es,ep,k _ _ (.inl rfl) e,c⟩
 |set S n=>obtain⟨ob,es,ep,t,e,c⟩:=x;exact⟨ob,es,ep,t,k _ _ (.inl rfl) e,c⟩
 |ins C dx fs=>
  obtain⟨d,z,ne,e,mA,⟨od,es,ep,e2,c⟩,r⟩:=x
  exact⟨ho _ d,z,ne,k _ _ (.inl rfl) e,mA,⟨od,es,ep,k _ _ (.inr d) e2,c⟩,r⟩
 |own y=>obtain⟨ob,e⟩:=x;exact⟨ob,k _ _ (.inl rfl) e⟩
 |xd fs=>obtain⟨mA,⟨od,es,ep,e,c⟩,r⟩:=x;exact⟨mA,⟨od,es,ep,k _ _ (.inl rfl) e,c⟩,r⟩
 |rng lo hi=>obtain⟨t,u,v,e⟩:=x;exact⟨t,u,v,k _ _ (.inl rfl) e⟩
 |frz ob u ih=>obtain⟨e,q⟩:=x;exact⟨k _ _ (.inl rfl) e,ih q⟩
 |tbl ps=>
  have e:h.get? a=some { cls:=.none,data:=.fields ps }:=x
  show h'.get? a=some { cls:=.none,data:=.fields ps }
  exact k a _ (.inl rfl) e
 |met f y=>
  have e:h.get? a=some (qd5 (.ref f) (.ref y)):=x
  show h'.get? a=some (qd5 (.ref f) (.ref y))
  exact k a _ (.inl rfl) e
 |ext φ=>obtain⟨p,⟨o,e⟩,st⟩:=x;exact⟨st _ _ p λo q=>k _ _ (.inl rfl) q,⟨o,k _ _ (.inl rfl) e⟩,st⟩
theorem HOk.lt (x:HOk P w H h) (e:H a=some o):a<h.objs.size:=(x a o e).lt
theorem HOk.fresh (x:HOk P w H h) (e:h.objs.size<=a):H a=none:=by
 cases q:H a with
 |none=>rfl
 |some u=>exact absurd (qaU (x.lt q) e) (qa2 _)
theorem HOk.kept (x:HOk P w H h) (k:∀ b u,h.get? b=some u->h'.get? b=some u):HOk P w H h':=λa o e=>
 (x a o e).stay (λb u _ q=>k b u q) (λ_ q=>q) λ_ _ q=>q
theorem HOk.laid (x:HOk P w H h) (k:∀ b u,h.get? b=some u->h'.get? b=some u) (hp:h.objs.size<=a) (new:dl P w (upd H a o) h' a o):HOk P w (upd H a o) h':=λb u e=>by
 have hn:=x.fresh hp
 by_cases hb:b=a
 ·subst hb;rw[upd_same]at e;cases e;exact new
 ·rw[upd_ne hb]at e
  exact (x b u e).stay (λc v _ q=>k c v q) (λc q=>by rw[upd_ne (aV q hn)];exact q) λc xs q=>by rw[upd_ne (aV q hn)];exact q
end
def Rd (H:Hp) (a:Addr) (u:HO):Prop:=H a=some u\/∃ o,H a=some (.frz o u)
theorem Rd.of {H:Hp}{a:Addr}{u:HO} (h:H a=some u):Rd H a u:=.inl h
theorem Rd.ok {P:qa5}{w:World}{H:Hp}{h:Heap}{a:Addr}{u:HO} (r:Rd H a u) (x:HOk P w H h):dl P w H h a u:=by
 rcases r with r|⟨o,r⟩
 ·exact x a u r
 ·obtain⟨_,q⟩:=x a _ r
  exact q
def Mut:Option HO->Prop
 |some (.lst _)=>True
 |some (.dK _)=>True
 |some (.dT _)=>True
 |some (.set _ _)=>True
 |some (.ins _ _ _)=>True
 |some (.ext _)=>True
 |_=>False
section
variable {P:qa5}{w:World}{H:Hp}{h h':Heap}{x e:Addr}{o':HO}
theorem HOk.write (ok:HOk P w H h) (mu:Mut (H x)) (he:e=x\/H e=some (.own x)) (k:∀ b u,b≠e->h.get? b=some u->h'.get? b=some u) (heo:∃ u,h'.get? e=some u)
  (new:dl P w (upd H x o') h' x o'):HOk P w (upd H x o') h':=λb u q=>by
 have nown:∀ c y,H c=some (.own y)->c≠x:=λc y r z=>by subst z;rw[r]at mu;exact mu
 have ntup:∀ c xs,H c=some (.tup xs)->c≠x:=λc xs r z=>by subst z;rw[r]at mu;exact mu
 by_cases hb:b=x
 ·subst hb;rw[upd_same]at q;cases q;exact new
 ·rw[upd_ne hb]at q
  by_cases hbe:b=e
  ·have q':H b=some (.own x):=by
    rcases he with z|z
    ·exact absurd (hbe.trans z) hb
    ·rw[hbe];exact z
   rw[q]at q';cases q'
   obtain⟨v,hv⟩:=heo
   exact⟨v,by rw[hbe];exact hv⟩
  ·refine (ok b u q).stay (λc v hc r=>k c v ?_ r) (λc r=>by rw[upd_ne (nown c b r)];exact r) λc xs r=>by rw[upd_ne (ntup c xs r)];exact r
   rcases hc with rfl|hc
   ·exact hbe
   ·rintro rfl
    rcases he with z|z
    ·exact nown c b hc z
    ·rw[hc]at z;cases z;exact hb rfl
end
structure Un (fs ex:List Addr) (H H':Hp) (h h':Heap):Prop where
 keep:∀ b o,h.get? b=some o->H b=none->b∉fs->b∉ex->h'.get? b=some o
 slot:∀ b o,h.get? b=some o->H b=none->b∈fs->b∉ex->∃ sl,h'.get? b=some { o with slots:=sl }
 free:∀ b o,h.get? b=some o->H b=none->b∉ex->H' b=none
 there:∀ b o,h.get? b=some o->b∉ex->∃ o',h'.get? b=some o'
 tups:∀ b xs,H b=some (.tup xs)->H' b=some (.tup xs)
 frzs:∀ b o u,H b=some (.frz o u)->H' b=some (.frz o u)
 tbls:∀ b ps,H b=some (.tbl ps)->∃ more,H' b=some (.tbl (ps++more))
section
variable {fs fs' ex ex':List Addr}{H H1 H2:Hp}{h h1 h2 h':Heap}{a x e:Addr}{o:HO}
theorem Un.any (u:Un fs ex H H1 h h1) {b:Addr}{ob:Obj} (q:h.get? b=some ob) (n:H b=none) (hx:b∉ex):∃ sl,h1.get? b=some { ob with slots:=sl }:=by
 by_cases hb:b∈fs
 ·exact u.slot b ob q n hb hx
 ·exact⟨ob.slots,u.keep b ob q n hb hx⟩
theorem Un.kept (k:∀ b u,h.get? b=some u->h'.get? b=some u):Un fs ex H H h h':=
 ⟨λb ob q _ _ _=>k b ob q,λb ob q _ _ _=>⟨ob.slots,k b ob q⟩,λ_ _ _ n _=>n,λb ob q _=>⟨ob,k b ob q⟩,λ_ _ q=>q,λ_ _ _ q=>q,λ_ ps q=>⟨#[],by rw[q];simp⟩⟩
theorem Un.refl:Un fs ex H H h h:=Un.kept λ_ _ q=>q
theorem Un.laid (k:∀ b u,h.get? b=some u->h'.get? b=some u) (hp:h.objs.size<=a) (hn:H a=none):Un fs ex H (upd H a o) h h' where
 keep:=λb u q _ _ _=>k b u q
 slot:=λb u q _ _ _=>⟨u.slots,k b u q⟩
 free:=λb u q n _=>by rw[upd_ne (qaW (qaU (qaG q) hp))];exact n
 there:=λb u q _=>⟨u,k b u q⟩
 tups:=λb xs q=>by rw[upd_ne (aV q hn)];exact q
 frzs:=λb u xs q=>by rw[upd_ne (aV q hn)];exact q
 tbls:=λb ps q=>⟨#[],by rw[upd_ne (aV q hn),q];simp⟩
theorem Un.write (mu:Mut (H x)) (he:e=x\/H e=some (.own x)) (k:∀ b u,b≠e->h.get? b=some u->h'.get? b=some u) (heo:∃ u,h'.get? e=some u):Un fs ex H (upd H x o) h h':=by
 have hx:∀ b,H b=none->b≠x:=λb n z=>by subst z;rw[n]at mu;exact mu
 have hb:∀ b,H b=none->b≠e:=λb n z=>by
  subst z
  rcases he with r|r
  ·exact hx b n r
  ·rw[n]at r;cases r
 have hm:∀ b u,H b=some u->¬ Mut (some u)->b≠x:=λb u q nm z=>by subst z;rw[q]at mu;exact nm mu
 refine⟨λb u q n _ _=>k b u (hb b n) q,λb u q n _ _=>⟨u.slots,k b u (hb b n) q⟩,λb u q n _=>by rw[upd_ne (hx b n)];exact n,λb u q _=>?_,
  λb xs q=>by rw[upd_ne (hm b _ q λz=>z)];exact q,λb u xs q=>by rw[upd_ne (hm b _ q λz=>z)];exact q,λb ps q=>⟨#[],by rw[upd_ne (hm b _ q λz=>z),q];simp⟩⟩
 by_cases hbe:b=e
 ·subst hbe;exact heo
 ·exact⟨u,k b u hbe q⟩
end
def trk (h:Heap) (H:Hp):List Addr:=(qac h.objs.size).filter λa=>(H a).isSome
def qw (h:Heap) (H:Hp):Heap:=PySem.W.hideAll h (trk h H)
theorem wa (h:Heap) (H:Hp):(qw h H).objs.size=h.objs.size:=PySem.W.hideAll_size _ _
theorem xZ {h:Heap}{H:Hp}{b:Addr}{o:Obj} (e:h.get? b=some o) (n:H b=none):(qw h H).get? b=some o:=
 PySem.W.hideAll_get _ e λhm=>by
  have q:(H b).isSome=true:=(qcH.mp hm).2
  rw[n]at q;simp at q
theorem yR {h:Heap}{H:Hp}{b:Addr}{o:Obj} (e:(qw h H).get? b=some o):h.get? b=some o/\H b=none:=by
 have e':h.get? b=some o:=PySem.W.of_hideAll (trk h H) e
 refine⟨e',?_⟩
 cases q:H b with
 |none=>rfl
 |some x=>
  have hm:b∈trk h H:=qcH.mpr ⟨qaK.mpr (qaG e'),by simp[q]⟩
  have z:(qw h H).get? b=none:=PySem.W.hideAll_none (trk h H) hm
  rw[z]at e;cases e
structure Mod (K:qad) (mg:Str->Option Value) (base:Heap):Prop where
 kin:K.In base
 glob:base.Ns qaw mg
 blt:∃ mb,base.Ns qfy mb/\∀ x:Str,x≠"__name__"->mb x=qcb x
 nolimit:base.NoLimit
structure Cx where
 prog:qa5
 w:World
 K:qad
 mg:Str->Option Value
 base:Heap
 A:qbd
 N:List Str
 s₀:qam
 H₀:Hp
 env:Env
 outer:List Env
 stack:List Env
 ex:List Addr
 fn:Str->Bool
 calm:Bool
 pn:List (Addr×Obj)
 xe:Value->qam->Prop
def frs (l:List Env):List Addr:=l.filterMap (·.frame)
abbrev Cx.fs (X:Cx):List Addr:=frs X.outer
def Vis (sc:Scope) (x:Str):Prop:=sc.names.lookup x=some .local\/sc.names.lookup x=some .cell\/sc.names.lookup x=some .free
def Loc (sc:Scope) (x:Str):Prop:=sc.names.lookup x=some .local\/sc.names.lookup x=some .cell
def Db (env:Env) (h:Heap) (m:Str->Option Value) (x:Str) (u:Value):Prop:=
 (env.kindOf x=some .local/\m x=some u)\/((env.kindOf x=some .cell\/env.kindOf x=some .free)/\∃ c,env.cells.lookup x=some c/\h.IsCell c (some u))
structure Cx.Ok (X:Cx):Prop where
 mod:Mod X.K X.mg X.base
 kind:X.env.scope.kind=.function
 glob:X.env.globals=qaw
 blt:X.env.builtins=qfy
 above:X.s₀.heap.objs.size<=X.env.locals
 inj:∀ x y c,X.env.cells.lookup x=some c->X.env.cells.lookup y=some c->x=y
 has:∀ x,(X.env.kindOf x=some .cell\/X.env.kindOf x=some .free)->∃ c,X.env.cells.lookup x=some c
 cab:∀ x c,X.fn x=true->X.env.cells.lookup x=some c->X.s₀.heap.objs.size<=c
 hd:X.calm=true->X.A.handled=none
 frames:X.A.frames=some X.stack
 stk:X.stack=X.outer\/(X.stack=X.env::X.outer/\X.env.frame=some X.env.locals)
 exf:∀ b∈X.ex,b≠X.env.locals/\∀ x c,X.env.cells.lookup x=some c->c≠b
 bs:∀ b o,X.base.get? b=some o->X.s₀.heap.get? b=some o/\X.H₀ b=none
 bsz:X.base.objs.size<=X.s₀.heap.objs.size
 noex:∀ b o,X.base.get? b=some o->b∉X.ex
 exfs:∀ b∈X.ex,b∉X.fs
 funs:X.s₀.heap.FunFrames X.base X.outer
 frf:∀ b∈X.fs,X.H₀ b=none
structure Inv (X:Cx) (pins:List (Addr×Obj)) (σ:List (Option V)) (H:Hp) (s:qam):Prop where
 ok:X.Ok
 os:s.os=X.s₀.os
 bare:qet s.gens
 base:Un X.fs X.ex X.H₀ H X.s₀.heap s.heap
 loc:∃ m,s.heap.Ns X.env.locals m/\∀ (i:Nat) (x:Str) (v:V),X.N[i]?=some x->σ[i]?=some (some v)->Vis X.env.scope x->∃ u,bJ v u/\Db X.env s.heap m x u
 cell:∀ x c,X.env.cells.lookup x=some c->∃ v,s.heap.IsCell c v
 free:H X.env.locals=none
 freeC:∀ x c,X.env.cells.lookup x=some c->H c=none
 pin:∀ p∈X.pn++pins,s.heap.get? p.1=some p.2/\H p.1=none/\p.1≠X.env.locals/\p.1∉X.fs/\∀ v,p.2.data≠.cell v
 hok:HOk X.prog X.w H s.heap
 len:σ.length=X.N.length
section
variable {X:Cx}{pins:List (Addr×Obj)}{σ:List (Option V)}{H H':Hp}{s:qam}{h':Heap}
theorem Cx.Ok.nofr (ok:X.Ok) {b:Addr}{o:Obj} (e:X.base.get? b=some o):b∉X.fs:=λhb=>by
 have:=(ok.funs.mem hb).1
 rw[e]at this;cases this
theorem Inv.bs (I:Inv X pins σ H s):∀ b o,X.base.get? b=some o->s.heap.get? b=some o/\H b=none:=λb o e=>
 ⟨I.base.keep b o (I.ok.bs b o e).1 (I.ok.bs b o e).2 (I.ok.nofr e) (I.ok.noex b o e),I.base.free b o (I.ok.bs b o e).1 (I.ok.bs b o e).2 (I.ok.noex b o e)⟩
theorem Inv.bk (I:Inv X pins σ H s):∀ b o,X.base.get? b=some o->s.heap.get? b=some o:=λb o e=>(I.bs b o e).1
theorem Inv.mod (I:Inv X pins σ H s):Mod X.K X.mg X.base:=I.ok.mod
theorem Inv.kIn (I:Inv X pins σ H s):X.K.In s.heap:=I.ok.mod.kin.keeps I.bk
theorem Inv.fr (I:Inv X pins σ H s):∃ m,Fr X.base X.env.locals s.heap m:=
 let ⟨m,hn,_⟩:=I.loc
 ⟨m,hn,I.bk,qa6 I.ok.bsz I.ok.above⟩
theorem Inv.lt (I:Inv X pins σ H s):X.env.locals<s.heap.objs.size:=let ⟨_,hn,_⟩:=I.loc;hn.lt
theorem Inv.sz (I:Inv X pins σ H s):X.s₀.heap.objs.size<=s.heap.objs.size:=qa6 I.ok.above (qcV I.lt)
theorem Inv.nofs (I:Inv X pins σ H s) {a:Addr} (h:s.heap.objs.size<=a):a∉X.fs:=λhb=>by
 obtain⟨_,o,ho,_⟩:=I.ok.funs.mem hb
 exact absurd (qaU (qaG ho) (qa6 I.sz h)) (qa2 _)
theorem Inv.cne (I:Inv X pins σ H s):∀ x c,X.env.cells.lookup x=some c->c≠X.env.locals:=λx c e z=>by
 obtain⟨v,o,ho,hd⟩:=I.cell x c e
 obtain⟨m,⟨o',es,ep,ho',hd',_⟩,_⟩:=I.loc
 rw[z,ho']at ho;cases ho;rw[hd']at hd;cases hd
theorem Inv.funs (I:Inv X pins σ H s):s.heap.FunFrames X.base X.outer:=by
 have all:∀ (l:List Env),(∀ b∈frs l,b∈X.fs)->X.s₀.heap.FunFrames X.base l->s.heap.FunFrames X.base l:=by
  intro l
  induction l with
  |nil=>intro _ _;trivial
  |cons env r ih=>
   intro hs hl
   obtain⟨hk,⟨L,o,hf,hn,ho,hd⟩,hr⟩:=hl
   have hL:L∈X.fs:=hs L (by unfold frs;rw[qdV,hf];exact qaf)
   obtain⟨sl,e⟩:=I.base.slot L o ho (I.ok.frf L hL) hL λz=>I.ok.exfs L z hL
   exact⟨hk,⟨L,_,hf,hn,e,hd⟩,ih (λb hb=>hs b (by unfold frs;rw[qdV,hf];exact qal _ hb)) hr⟩
 exact all X.outer (λ_ hb=>hb) I.ok.funs
theorem Inv.stack (I:Inv X pins σ H s):s.heap.FunFrames X.base X.stack:=by
 rcases I.ok.stk with e|⟨e,hf⟩
 ·rw[e];exact I.funs
 ·rw[e]
  obtain⟨m,hn,_⟩:=I.loc
  refine .cons (by rw[I.ok.kind];decide) hf hn ?_ I.funs
  exact Heap.get?_none_of_le (qa6 I.ok.bsz I.ok.above)
theorem Inv.stkSub (I:Inv X pins σ H s):∀ b∈frs X.stack,b∈X.env.locals::X.fs:=λb hb=>by
 rcases I.ok.stk with e|⟨e,hf⟩
 ·rw[e]at hb;exact qal _ hb
 ·rw[e]at hb
  unfold frs at hb
  rw[qdV,hf]at hb
  exact hb
theorem Inv.stkFree (I:Inv X pins σ H s):∀ b∈frs X.stack,H b=none:=λb hb=>by
 rcases qaP.mp (I.stkSub b hb) with e|hb
 ·rw[e];exact I.free
 ·obtain⟨_,o,ho,_⟩:=I.ok.funs.mem hb
  exact I.base.free b o ho (I.ok.frf b hb) λz=>I.ok.exfs b z hb
theorem Inv.step {g':Array GenState}{t':Nat}{d':Drawn}{ch:List Addr} (I:Inv X pins σ H s)
  (hch:∀ b∈ch,(b∈X.ex\/X.s₀.heap.objs.size<=b)/\b≠X.env.locals/\(∀ x c,X.env.cells.lookup x=some c->c≠b)/\∀ p∈X.pn++pins,p.1≠b)
  (keep:∀ b o,b≠X.env.locals->b∉X.fs->b∉ch->s.heap.get? b=some o->H b=none->h'.get? b=some o)
  (slot:∀ b o,b≠X.env.locals->b∈X.fs->b∉ch->s.heap.get? b=some o->H b=none->∃ sl,h'.get? b=some { o with slots:=sl }) (free:∀ b o,b∉ch->s.heap.get? b=some o->H b=none->H' b=none)
  (there:∀ b o,b∉ch->s.heap.get? b=some o->∃ o',h'.get? b=some o')
  (tups:∀ b xs,H b=some (.tup xs)->H' b=some (.tup xs)) (frzs:∀ b o u,H b=some (.frz o u)->H' b=some (.frz o u)) (tbls:∀ b ps,H b=some (.tbl ps)->∃ more,H' b=some (.tbl (ps++more)))
  (ns:∀ m,s.heap.Ns X.env.locals m->h'.Ns X.env.locals m) (hok:HOk X.prog X.w H' h') (hg:qet g') :
  Inv X pins σ H' { s with heap:=h',gens:=g',drawn:=d',toks:=t' }:=by
 have neL:∀ b o,X.s₀.heap.get? b=some o->b≠X.env.locals:=λb o e=>qaW (qaU (qaG e) I.ok.above)
 have neC:∀ b o,X.s₀.heap.get? b=some o->b∉X.ex->b∉ch:=λb o e hx hb=>by
  rcases (hch b hb).1 with z|z
  ·exact hx z
  ·exact absurd (qaU (qaG e) z) (qa2 _)
 have cellK:∀ x c,X.env.cells.lookup x=some c->∀ v,s.heap.IsCell c v->h'.IsCell c v:=λx c e v ⟨o,ho,hd⟩=>by
  have nch:c∉ch:=λz=>(hch c z).2.2.1 x c e rfl
  by_cases hc:c∈X.fs
  ·obtain⟨sl,q⟩:=slot c o (I.cne x c e) hc nch ho (I.freeC x c e)
   exact⟨_,q,hd⟩
  ·exact⟨o,keep c o (I.cne x c e) hc nch ho (I.freeC x c e),hd⟩
 refine⟨I.ok,I.os,hg,⟨λb o e n hb hx=>?_,λb o e n hb hx=>?_,λb o e n hx=>?_,λb o e hx=>?_,λb xs e=>tups b xs (I.base.tups b xs e),λb o xs e=>frzs b o xs (I.base.frzs b o xs e),λb ps e=>?_⟩,?_,λx c e=>?_,?_,λx c e=>?_,λp hp=>?_,hok,I.len⟩
 ·exact keep b o (neL b o e) hb (neC b o e hx) (I.base.keep b o e n hb hx) (I.base.free b o e n hx)
 ·obtain⟨sl,e1⟩:=I.base.slot b o e n hb hx
  obtain⟨sl',e2⟩:=slot b _ (neL b o e) hb (neC b o e hx) e1 (I.base.free b o e n hx)
  exact⟨sl',e2⟩
 ·obtain⟨o',e1⟩:=I.base.there b o e hx
  exact free b o' (neC b o e hx) e1 (I.base.free b o e n hx)
 ·obtain⟨o',e1⟩:=I.base.there b o e hx
  exact there b o' (neC b o e hx) e1
 ·obtain⟨m1,e1⟩:=I.base.tbls b ps e
  obtain⟨m2,e2⟩:=tbls b _ e1
  exact⟨m1++m2,by rw[e2,Array.append_assoc]⟩
 ·obtain⟨m,hn,hl⟩:=I.loc
  refine⟨m,ns m hn,λi x v e1 e2 e3=>?_⟩
  obtain⟨u,r,l⟩:=hl i x v e1 e2 e3
  refine⟨u,r,?_⟩
  rcases l with l|⟨k,c,e,z⟩
  ·exact .inl l
  ·exact .inr ⟨k,c,e,cellK x c e _ z⟩
 ·obtain⟨v,z⟩:=I.cell x c e
  exact⟨v,cellK x c e v z⟩
 ·obtain⟨m,⟨o,_,_,ho,_⟩,_⟩:=I.loc
  exact free _ o (λz=>(hch _ z).2.1 rfl) ho I.free
 ·obtain⟨v,o,ho,hd⟩:=I.cell x c e
  exact free c o (λz=>(hch c z).2.2.1 x c e rfl) ho (I.freeC x c e)
 ·obtain⟨e,n,ne,nf,d⟩:=I.pin p hp
  have nch:p.1∉ch:=λz=>(hch p.1 z).2.2.2 p hp rfl
  exact⟨keep p.1 p.2 ne nf nch e n,free p.1 p.2 nch e n,ne,nf,d⟩
theorem Inv.un {t':Nat} (I:Inv X pins σ H s) (u:Un X.fs [] H H' s.heap h') (hok:HOk X.prog X.w H' h'):Inv X pins σ H' { s with heap:=h',toks:=t' }:=by
 obtain⟨m,⟨o,es,ep,ho,r⟩,_⟩:=id I.loc
 obtain⟨sl,hL⟩:=u.any ho I.free (by simp)
 exact I.step (g':=s.gens) (d':=s.drawn) (ch:=[]) (λ_ z=>nomatch z) (λb o _ hb _ e n=>u.keep b o e n hb (by simp)) (λb o _ hb _ e n=>u.slot b o e n hb (by simp)) (λb o _ e n=>u.free b o e n (by simp)) (λb o _ e=>u.there b o e (by simp)) u.tups u.frzs u.tbls (λm' hm=>by
  obtain⟨o',es',ep',ho',r'⟩:=hm
  rw[ho]at ho';cases ho'
  exact⟨_,es',ep',hL,r'⟩) hok I.bare
theorem Inv.call {g':Array GenState}{t':Nat}{d':Drawn}{ch:List Addr} (I:Inv X pins σ H s) (u:Un (frs X.stack) ch H H' s.heap h') (hok:HOk X.prog X.w H' h') (hg:qet g')
  (hch:∀ b∈ch,(b∈X.ex\/X.s₀.heap.objs.size<=b)/\b≠X.env.locals/\(∀ x c,X.env.cells.lookup x=some c->c≠b)/\∀ p∈X.pn++pins,p.1≠b) :
  Inv X pins σ H' { s with heap:=h',gens:=g',drawn:=d',toks:=t' }:=by
 obtain⟨m,⟨o,es,ep,ho,r⟩,_⟩:=id I.loc
 obtain⟨sl,hL⟩:=u.any ho I.free λz=>(hch _ z).2.1 rfl
 exact I.step (ch:=ch) hch (λb o hL hb hc e n=>u.keep b o e n (λz=>(qaP.mp (I.stkSub b z)).elim hL hb) hc) (λb o _ _ hc e n=>u.any e n hc) (λb o hc e n=>u.free b o e n hc) (λb o hc e=>u.there b o e hc) u.tups u.frzs u.tbls (λm' hm=>by
  obtain⟨o',es',ep',ho',r'⟩:=hm
  rw[ho]at ho';cases ho'
  exact⟨_,es',ep',hL,r'⟩) hok hg
theorem Inv.turned {t':Nat}{it:Addr} (I:Inv X pins σ H s) (k:∀ b o,b≠it->s.heap.get? b=some o->h'.get? b=some o) (hn:H it=none) (hL:it≠X.env.locals)
  (h1:it∈X.ex\/X.s₀.heap.objs.size<=it) (h2:∀ x c,X.env.cells.lookup x=some c->c≠it) (h3:∀ p∈X.pn++pins,p.1≠it):Inv X pins σ H { s with heap:=h',toks:=t' }:=by
 have nit:∀ b u,H b=some u->b≠it:=λb u e z=>by rw[z,hn]at e;cases e
 refine I.step (g':=s.gens) (d':=s.drawn) (ch:=[it]) (λb hb=>?_) (λb o _ _ hc e _=>k b o (λz=>hc (by simp[z])) e) (λb o _ _ hc e _=>⟨o.slots,k b o (λz=>hc (by simp[z])) e⟩) (λ_ _ _ _ n=>n)
  (λb o hc e=>⟨o,k b o (λz=>hc (by simp[z])) e⟩) (λ_ _ e=>e) (λ_ _ _ e=>e) (λb ps e=>⟨#[],by rw[e];simp⟩) (λm hm=>?_) (λb u e=>?_) I.bare
 ·have e:b=it:=by simpa using hb
  subst e
  exact⟨h1,hL,h2,h3⟩
 ·obtain⟨o,es,ep,ho,r⟩:=hm
  exact⟨o,es,ep,k _ o (qbu hL) ho,r⟩
 ·refine (I.hok b u e).stay (λc v hc q=>k c v ?_ q) (λ_ q=>q) λ_ _ q=>q
  rcases hc with z|z
  ·rw[z];exact nit b u e
  ·exact nit c _ z
theorem Inv.tok (I:Inv X pins σ H s) (t:Nat):Inv X pins σ H { s with toks:=t }:=I.un (h':=s.heap) (t':=t) Un.refl I.hok
theorem Inv.kept {t':Nat} (I:Inv X pins σ H s) (k:∀ b u,s.heap.get? b=some u->h'.get? b=some u):Inv X pins σ H { s with heap:=h',toks:=t' }:=I.un (Un.kept k) (I.hok.kept k)
theorem Inv.laid {a:Addr}{o:HO}{t':Nat} (I:Inv X pins σ H s) (k:∀ b u,s.heap.get? b=some u->h'.get? b=some u) (hp:s.heap.objs.size<=a) (new:dl X.prog X.w (upd H a o) h' a o) :
  Inv X pins σ (upd H a o) { s with heap:=h',toks:=t' }:=I.un (Un.laid k hp (I.hok.fresh hp)) (I.hok.laid k hp new)
theorem Inv.write {x e:Addr}{o:HO}{t':Nat} (I:Inv X pins σ H s) (mu:Mut (H x)) (he:e=x\/H e=some (.own x)) (k:∀ b u,b≠e->s.heap.get? b=some u->h'.get? b=some u) (heo:∃ u,h'.get? e=some u)
  (new:dl X.prog X.w (upd H x o) h' x o):Inv X pins σ (upd H x o) { s with heap:=h',toks:=t' }:=I.un (Un.write mu he k heo) (I.hok.write mu he k heo new)
theorem Inv.weak {σ':List (Option V)} (I:Inv X pins σ H s) (hl:σ'.length=σ.length) (w:∀ (i:Nat) v,σ'[i]?=some (some v)->σ[i]?=some (some v)):Inv X pins σ' H s:=
 ⟨I.ok,I.os,I.bare,I.base,let ⟨m,hn,hl'⟩:=I.loc;⟨m,hn,λi x v e1 e2 e3=>hl' i x v e1 (w i v e2) e3⟩,I.cell,I.free,I.freeC,I.pin,I.hok,hl.trans I.len⟩
theorem Inv.pins_of {pins':List (Addr×Obj)} (I:Inv X pins σ H s) (h:∀ p∈pins',s.heap.get? p.1=some p.2/\H p.1=none/\p.1≠X.env.locals/\p.1∉X.fs/\∀ v,p.2.data≠.cell v):Inv X pins' σ H s:=
 ⟨I.ok,I.os,I.bare,I.base,I.loc,I.cell,I.free,I.freeC,λp hp=>(qaM.mp hp).elim (λz=>I.pin p (qa1 _ z)) (h p),I.hok,I.len⟩
theorem su {N:List Str} (hN:N.Nodup) {i j:Nat}{x:Str} (a:N[i]?=some x) (b:N[j]?=some x):i=j:=by
 obtain⟨h1,e1⟩:=qar.mp a
 obtain⟨h2,e2⟩:=qar.mp b
 exact (qex hN).mp (e1.trans e2.symm)
theorem vR {M:Model}{A:qbd}{E:Value->qam->Prop}{i:Nat}{x:Str}{v:V}{u:Value}{Q:Unit->qam->Prop} (I:Inv X pins σ H s) (hN:X.N.Nodup) (hi:X.N[i]?=some x) (hx:Loc X.env.scope x) (r:bJ v u)
  (h:∀ s',Inv X pins (σ.set i (some v)) H s'->(∃ a,qdf a s.heap s'.heap/\(a=X.env.locals\/X.env.cells.lookup x=some a))->Q () s') (hf:X.fn x=true\/X.env.scope.names.lookup x=some .local:=by first|exact .inl rfl|exact .inr rfl|assumption):wpAny M A (storeName X.env x u) Q E s:=by
 obtain⟨m,hn,hl⟩:=id I.loc
 have hcls:(X.env.scope.kind==.class||(X.env.scope.kind==.module&&X.env.locals != X.env.globals))=false:=by rw[I.ok.kind];rfl
 have hiσ:i<σ.length:=by rw[I.len];exact (qar.mp hi).1
 have cne:=I.cne
 have tracked:∀ {a:Addr}{h':Heap},(∃ o,s.heap.get? a=some o/\H a=none)->qdf a s.heap h'->HOk X.prog X.w H h':=λ{a h'} ha hs b ob e=>by
  obtain⟨_,_,hfree⟩:=ha
  refine (I.hok b ob e).stay (λc w' hc q=>(hs.2 c ?_).trans q) (λ_ q=>q) λ_ _ q=>q
  rintro rfl
  rcases hc with rfl|hc
  ·rw[hfree]at e;cases e
  ·rw[hfree]at hc;cases hc
 rcases hx with hk|hk
 ·refine wpAny_storeName_local hk hn (λh' hn' hs=>?_) hcls
  obtain⟨oL,_,_,hoL,_⟩:=id hn
  refine h _ ⟨I.ok,I.os,I.bare,⟨λb o e n hb hx=>?_,λb o e n hb hx=>?_,I.base.free,λb o e hx=>?_,I.base.tups,I.base.frzs,I.base.tbls⟩,⟨_,hn',λj y v' e1 e2 e3=>?_⟩,λy c e=>?_,I.free,I.freeC,λp hp=>?_,tracked ⟨oL,hoL,I.free⟩ hs,by simpa using I.len⟩ ⟨_,hs,.inl rfl⟩
  ·exact (hs.2 b (qaW (qaU (qaG e) I.ok.above))).trans (I.base.keep b o e n hb hx)
  ·obtain⟨sl,e1⟩:=I.base.slot b o e n hb hx
   exact⟨sl,(hs.2 b (qaW (qaU (qaG e) I.ok.above))).trans e1⟩
  ·obtain⟨o',e1⟩:=I.base.there b o e hx
   exact⟨o',(hs.2 b (qaW (qaU (qaG e) I.ok.above))).trans e1⟩
  ·by_cases hj:j=i
   ·subst hj
    rw[hi]at e1;cases e1
    rw[qba hiσ]at e2
    cases e2
    exact⟨u,r,.inl ⟨hk,by simp⟩⟩
   ·rw[qbp (qbu hj)]at e2
    obtain⟨u',r',q⟩:=hl j y v' e1 e2 e3
    refine⟨u',r',?_⟩
    rcases q with⟨k,e⟩|⟨k,c,e,z⟩
    ·refine .inl ⟨k,?_⟩
     have:y≠x:=λe=>hj (su hN e1 (e ▸ hi))
     simp[this,e]
    ·exact .inr ⟨k,c,e,z.sameBut hs (cne y c e)⟩
  ·obtain⟨w',z⟩:=I.cell y c e
   exact⟨w',z.sameBut hs (cne y c e)⟩
  ·obtain⟨e,n,ne,nf,d⟩:=I.pin p hp
   exact⟨(hs.2 p.1 ne).trans e,n,ne,nf,d⟩
 ·have hfn:X.fn x=true:=by
   rcases hf with z|z
   ·exact z
   ·rw[z]at hk;cases hk
  obtain⟨c,hc⟩:=I.ok.has x (.inl hk)
  obtain⟨w',z⟩:=I.cell x c hc
  refine wpAny_storeName_cell I.ok.kind hk hc z (λh' hc' hs=>?_)
  obtain⟨oc,hoc,hocd⟩:=id z
  refine h { s with heap:=h' } ⟨I.ok,I.os,I.bare,⟨λb o e n hb hx=>?_,λb o e n hb hx=>?_,I.base.free,λb o e hx=>?_,I.base.tups,I.base.frzs,I.base.tbls⟩,⟨m,hn.sameBut hs (qbu (cne x c hc)),λj y v' e1 e2 e3=>?_⟩,λy c' e=>?_,I.free,I.freeC,λp hp=>?_,tracked ⟨oc,hoc,I.freeC x c hc⟩ hs,by simpa using I.len⟩ ⟨c,hs,.inr hc⟩
  ·exact (hs.2 b (qaW (qaU (qaG e) (I.ok.cab x c hfn hc)))).trans (I.base.keep b o e n hb hx)
  ·obtain⟨sl,e1⟩:=I.base.slot b o e n hb hx
   exact⟨sl,(hs.2 b (qaW (qaU (qaG e) (I.ok.cab x c hfn hc)))).trans e1⟩
  ·obtain⟨o',e1⟩:=I.base.there b o e hx
   exact⟨o',(hs.2 b (qaW (qaU (qaG e) (I.ok.cab x c hfn hc)))).trans e1⟩
  ·by_cases hj:j=i
   ·subst hj
    rw[hi]at e1;cases e1
    rw[qba hiσ]at e2
    cases e2
    exact⟨u,r,.inr ⟨.inl hk,c,hc,hc'⟩⟩
   ·rw[qbp (qbu hj)]at e2
    obtain⟨u',r',q⟩:=hl j y v' e1 e2 e3
    refine⟨u',r',?_⟩
    rcases q with q|⟨k,c',e,z'⟩
    ·exact .inl q
    ·refine .inr ⟨k,c',e,z'.sameBut hs ?_⟩
     rintro rfl
     exact hj (su hN e1 (I.ok.inj _ _ _ e hc ▸ hi))
  ·by_cases hcc:c'=c
   ·subst hcc;exact⟨_,hc'⟩
   ·obtain⟨w2,z2⟩:=I.cell y c' e
    exact⟨w2,z2.sameBut hs hcc⟩
  ·obtain⟨e,n,ne,nf,d⟩:=I.pin p hp
   refine⟨(hs.2 p.1 ?_).trans e,n,ne,nf,d⟩
   intro q
   rw[q,hoc]at e
   have q':oc=p.2:=qaZ e
   exact d w' (by rw[<-q'];exact hocd)
theorem nY {M:Model}{A:qbd}{E:Value->qam->Prop}{i:Nat}{x:Str}{v:V}{u:Value}{Q:Unit->qam->Prop} (I:Inv X pins σ H s) (hN:X.N.Nodup) (hi:X.N[i]?=some x) (hx:Loc X.env.scope x) (r:bJ v u)
  (h:∀ s',Inv X pins (σ.set i (some v)) H s'->Q () s') (hf:X.fn x=true\/X.env.scope.names.lookup x=some .local:=by first|exact .inl rfl|exact .inr rfl|assumption):wpAny M A (storeName X.env x u) Q E s:=
 vR I hN hi hx r (λs' I' _=>h s' I') hf
theorem Inv.call' {s':qam}{ch:List Addr} (I:Inv X pins σ H s) (ho:s'.os=s.os) (u:Un (frs X.stack) ch H H' s.heap s'.heap) (hok:HOk X.prog X.w H' s'.heap) (hg:qet s'.gens)
  (hch:∀ b∈ch,(b∈X.ex\/X.s₀.heap.objs.size<=b)/\b≠X.env.locals/\(∀ x c,X.env.cells.lookup x=some c->c≠b)/\∀ p∈X.pn++pins,p.1≠b):Inv X pins σ H' s':=by
 obtain⟨h',g',d',t',o'⟩:=s'
 have e:o'=s.os:=ho
 subst e
 exact I.call (g':=g') (t':=t') (d':=d') u hok hg hch
end
abbrev XK:=Value->Option Addr->Hp->Prop
abbrev St:=List (Option V)
abbrev VK:=V->Hp->Prop
abbrev TE:=St->Hp->VK->Prop
abbrev TT:=St->Hp->(Bool->Hp->Prop)->Prop
abbrev TA:=St->Hp->(List V->Hp->Prop)->Prop
structure oQ where
 nx:St->Hp->Prop
 rt:VK
 bk:St->Hp->Prop:=λ_ _=>False
 ct:St->Hp->Prop:=λ_ _=>False
abbrev TS:=oQ->St->Hp->Prop
def EP (X:Cx) (pins:List (Addr×Obj)) (σ:St) (Q:VK) (u:Value) (s':qam):Prop:=∃ v H',Inv X pins σ H' s'/\bJ v u/\Q v H'
def TP (X:Cx) (pins:List (Addr×Obj)) (σ:St) (Q:Bool->Hp->Prop) (b:Bool) (s':qam):Prop:=∃ H',Inv X pins σ H' s'/\Q b H'
def AP (X:Cx) (pins:List (Addr×Obj)) (σ:St) (Q:List V->Hp->Prop) (us:List Value) (s':qam):Prop:=∃ vs H',Inv X pins σ H' s'/\bf vs us/\Q vs H'
def SP (X:Cx) (pins:List (Addr×Obj)) (D:oQ) (f:Flow) (s':qam):Prop:=
 match f with
 |.next=>∃ σ' H',Inv X pins σ' H' s'/\D.nx σ' H'
 |.brk=>∃ σ' H',Inv X pins σ' H' s'/\D.bk σ' H'
 |.cont=>∃ σ' H',Inv X pins σ' H' s'/\D.ct σ' H'
 |.ret u=>∃ v σ' H',Inv X pins σ' H' s'/\bJ v u/\D.rt v H'
def PE (X:Cx) (e:Expr) (t:TE):Prop:=
 ∀ (pins:List (Addr×Obj)) (s:qam) (σ:St) (H:Hp) (Q:VK),Inv X pins σ H s->t σ H Q->wpAny (model X.prog X.w) X.A (eval e X.env) (EP X pins σ Q) X.xe s
def PT (X:Cx) (e:Expr) (t:TT):Prop:=
 ∀ (pins:List (Addr×Obj)) (s:qam) (σ:St) (H:Hp) (Q:Bool->Hp->Prop),Inv X pins σ H s->t σ H Q->wpAny (model X.prog X.w) X.A (qh2 e X.env (eval e X.env)) (TP X pins σ Q) X.xe s
def PW (X:Cx) (e:Expr) (t:TT):Prop:=
 ∀ (whole:Sem Value) (pins:List (Addr×Obj)) (s:qam) (σ:St) (H:Hp) (Q:Bool->Hp->Prop),Inv X pins σ H s->t σ H Q->wpAny (model X.prog X.w) X.A (qh2 e X.env whole) (TP X pins σ Q) X.xe s
theorem PW.pt {X:Cx}{e:Expr}{t:TT} (h:PW X e t):PT X e t:=h _
def PA (X:Cx) (es:List Expr) (t:TA):Prop:=
 ∀ (pos:Pos) (pins:List (Addr×Obj)) (s:qam) (σ:St) (H:Hp) (Q:List V->Hp->Prop),Inv X pins σ H s->t σ H Q->wpAny (model X.prog X.w) X.A (spliced (qdM pos (qbl es X.env))) (AP X pins σ Q) X.xe s
def PS (X:Cx) (st:Stmt) (t:TS):Prop:=
 ∀ (pins:List (Addr×Obj)) (s:qam) (σ:St) (H:Hp) (D:oQ),Inv X pins σ H s->t D σ H->wpAny (model X.prog X.w) X.A (exec st X.env) (SP X pins D) X.xe s
def PSs (X:Cx) (st:List Stmt) (t:TS):Prop:=
 ∀ (pins:List (Addr×Obj)) (s:qam) (σ:St) (H:Hp) (D:oQ),Inv X pins σ H s->t D σ H->wpAny (model X.prog X.w) X.A (execs st X.env) (SP X pins D) X.xe s
theorem thn {α:Type}{t:Sem α}{Q Q':α->qam->Prop}{M:Model}{A:qbd}{E:Value->qam->Prop}{s:qam} (h:wpAny M A t Q E s) (hQ:∀ a s,Q a s->Q' a s):wpAny M A t Q' E s:=qcM h hQ λ_ _ x=>x
section
variable {X:Cx}
def rh (i:Nat):TE:=λσ H Q=>∃ v,σ[i]?=some (some v)/\Q v H
def tC (v:V):TE:=λ_ H Q=>Q v H
theorem kt {i:Nat}{x:Str}{pos:Pos} (hN:X.N[i]?=some x) (hv:Vis X.env.scope x) (hd:(x==("__debug__" : Str))=false:=by decide) (hcd:(x==("__classdict__" : Str))=false:=by decide):PE X (.Name x pos) (rh i):=by
 intro pins s σ H Q I h
 obtain⟨v,e,h⟩:=h
 obtain⟨m,hn,hl⟩:=I.loc
 obtain⟨u,r,l⟩:=hl i x v hN e hv
 have fin:EP X pins σ Q u s:=⟨v,H,I,r,h⟩
 rcases l with⟨hk,hm⟩|⟨hk,c,hc,hcell⟩
 ·exact qgQ (wpAny_loadName_local I.ok.kind hk hn hm fin) hd
 ·rcases hk with hk|hk
  ·exact qgQ (wpAny_loadName_cell I.ok.kind hk hc hcell fin) hd
  ·exact qgQ (wpAny_loadName_free I.ok.kind hk hc hcell fin hcd) hd
theorem Ak {i j pos}:PE X (.Constant (.int i) j pos) (tC (.int i)):=λ_ _ _ H _ I h=>wpAny_Constant_int ⟨.int i,H,I.tok _,⟨_,rfl⟩,h⟩
theorem CL {b j pos}:PE X (.Constant (.bool b) j pos) (tC (.bl b)):=λ_ _ _ H _ I h=>Constant_bool ⟨.bl b,H,I,rfl,h⟩
theorem AF {j pos}:PE X (.Constant .none j pos) (tC .non):=λ_ _ _ H _ I h=>Constant_none ⟨.non,H,I,rfl,h⟩
theorem Ad {x j pos}:PE X (.Constant (.str x) j pos) (tC (.str x)):=λ_ _ _ H _ I h=>Calls.Constant_str ⟨.str x,H,I.tok _,⟨_,rfl⟩,h⟩
def Gl (X:Cx) (x:Str):Prop:=X.env.kindOf x=some .globalImplicit
theorem uH {E:Value->qam->Prop}{pins:List (Addr×Obj)}{s:qam}{σ:St}{H:Hp}{x:Str}{u:Value}{pos:Pos}{Q:Value->qam->Prop} (I:Inv X pins σ H s) (hg:Gl X x) (hm:X.mg x=some u) (h:Q u s)
  (hd:(x==("__debug__" : Str))=false:=by decide):wpAny (model X.prog X.w) X.A (eval (.Name x pos) X.env) Q E s:=
 qeI I.ok.kind hg (Calls.loadGlobal_global (by rw[I.ok.glob];exact I.mod.glob.keeps I.bk) hm h) hd
theorem kH {E:Value->qam->Prop}{pins:List (Addr×Obj)}{s:qam}{σ:St}{H:Hp}{x:Str}{u:Value}{pos:Pos}{Q:Value->qam->Prop} (I:Inv X pins σ H s) (hg:Gl X x) (hm:X.mg x=none) (hv:qcb x=some u) (h:Q u s)
  (hn:x≠"__name__":=by decide) (hd:(x==("__debug__" : Str))=false:=by decide):wpAny (model X.prog X.w) X.A (eval (.Name x pos) X.env) Q E s:=by
 obtain⟨mb,h1,h2⟩:=I.mod.blt
 exact qeI I.ok.kind hg (Calls.loadGlobal_builtin (by rw[I.ok.glob];exact I.mod.glob.keeps I.bk) hm (by rw[I.ok.blt];exact h1.keeps I.bk) ((h2 x hn).trans hv) h) hd
theorem zw {x:Str}{v:V}{u:Value}{pos:Pos} (hg:Gl X x) (hm:X.mg x=none) (hv:qcb x=some u) (r:bJ v u) (hn:x≠"__name__":=by decide) (hd:(x==("__debug__" : Str))=false:=by decide):PE X (.Name x pos) (tC v):=
 λ_ _ _ H _ I h=>kH I hg hm hv ⟨v,H,I,r,h⟩ hn hd
variable {a b:Expr}{ta tb:TE}{pos:Pos}
variable {tA tB':TT}{rest:List Expr}
def C0 (t u:TT):TT:=λσ H Q=>t σ H λc H1=>if c=true then u σ H1 Q else Q false H1
def tOr (t u:TT):TT:=λσ H Q=>t σ H λc H1=>if c=true then Q true H1 else u σ H1 Q
def Dk (t:TT):TT:=λσ H Q=>t σ H λc H1=>Q (!c) H1
theorem zF (ha:PT X a tA):PW X (.BoolOp .And [a] pos) tA:=by
 intro wh pins s σ H Q I h
 refine isTrue_and (thn (ha pins s σ H Q I h) λc s1 e=>?_)
 cases c with
 |true=>exact isTrue_and_nil e
 |false=>exact e
theorem AO (ha:PT X a tA):PW X (.BoolOp .Or [a] pos) tA:=by
 intro wh pins s σ H Q I h
 refine isTrue_or (thn (ha pins s σ H Q I h) λc s1 e=>?_)
 cases c with
 |false=>exact isTrue_or_nil e
 |true=>exact e
theorem wW (ha:PT X a tA) (hb:PW X (.BoolOp .And (b::rest) pos) tB'):PW X (.BoolOp .And (a::b::rest) pos) (C0 tA tB'):=by
 intro wh pins s σ H Q I h
 refine isTrue_and (thn (ha pins s σ H _ I h) λc s1 ⟨H1,I1,q1⟩=>?_)
 cases c with
 |true=>exact hb wh pins s1 σ H1 Q I1 q1
 |false=>exact⟨H1,I1,q1⟩
theorem zU (ha:PT X a tA) (hb:PW X (.BoolOp .Or (b::rest) pos) tB'):PW X (.BoolOp .Or (a::b::rest) pos) (tOr tA tB'):=by
 intro wh pins s σ H Q I h
 refine isTrue_or (thn (ha pins s σ H _ I h) λc s1 ⟨H1,I1,q1⟩=>?_)
 cases c with
 |true=>exact⟨H1,I1,q1⟩
 |false=>exact hb wh pins s1 σ H1 Q I1 q1
theorem Bn (ha:PT X a tA):PT X (.UnaryOp .Not a pos) (Dk tA):=by
 intro pins s σ H Q I h
 exact isTrue_not (ha pins s σ H (λc H1=>Q (!c) H1) I h)
def Cz (ta tb:TE):TE:=λσ H Q=>ta σ H λx H1=>∃ c,x=.bl c/\if c=true then tb σ H1 Q else Q (.bl false) H1
def BS (ta:TE):TE:=λσ H Q=>ta σ H λx H1=>∃ c,x=.bl c/\Q (.bl (!c)) H1
theorem Bw {op}{t:TE} (h:PE X a t):PE X (.BoolOp op [a] pos) t:=λpins s σ H Q I hw=>BoolOp_one (h pins s σ H Q I hw)
theorem wP (ha:PE X a ta) (hb:PE X (.BoolOp .And (b::rest) pos) tb):PE X (.BoolOp .And (a::b::rest) pos) (Cz ta tb):=by
 intro pins s σ H Q I h
 refine BoolOp_and (thn (ha pins s σ H _ I h) λv s1 ⟨x,H1,I1,r1,q1⟩=>?_)
 obtain⟨c,rfl,q1⟩:=q1
 cases r1
 refine qc1 ?_
 cases c with
 |true=>exact hb pins s1 σ H1 Q I1 q1
 |false=>exact⟨.bl false,H1,I1,rfl,q1⟩
theorem A1 (ha:PE X a ta):PE X (.UnaryOp .Not a pos) (BS ta):=by
 intro pins s σ H Q I h
 refine UnaryOp_ (thn (ha pins s σ H _ I h) λv s1 ⟨x,H1,I1,r1,q1⟩=>?_)
 obtain⟨c,rfl,q1⟩:=q1
 cases r1
 exact not_of (qc1 ⟨.bl (!c),H1,I1,rfl,q1⟩)
def tIf (t:TT) (ta tb:TE):TE:=λσ H Q=>t σ H λc H1=>if c=true then ta σ H1 Q else tb σ H1 Q
theorem qS {c:Expr} (hc:PT X c tA) (ha:PE X a ta) (hb:PE X b tb):PE X (.IfExp c a b pos) (tIf tA ta tb):=by
 intro pins s σ H Q I h
 refine wpAny_IfExp (thn (hc pins s σ H _ I h) λd s1 ⟨H1,I1,q1⟩=>?_)
 cases d with
 |true=>exact ha pins s1 σ H1 Q I1 q1
 |false=>exact hb pins s1 σ H1 Q I1 q1
end
def SqL (K:qad) (H:Hp) (a:Addr) (xs:List V):Prop:=
 Rd H a (.lst xs)\/
  ∃ (o:Obj) (its:Array Value) (n:Nat),K.lookup a=some o/\o.cls=.type "list"/\o.dict=none/\o.data=.seq its n/\its.size<=qaS/\bf xs its.toList
def SqT (K:qad) (H:Hp) (a:Addr) (xs:List V):Prop:=
 H a=some (.tup xs)\/
  ∃ (o:Obj) (its:Array Value) (n:Nat),K.lookup a=some o/\o.cls=.type "tuple"/\o.data=.seq its n/\its.size<=qaS/\bf xs its.toList/\o.dict=none
def Df:Value->Option V
 |.none=>some .non
 |.bool b=>some (.bl b)
 |.int i _=>some (.int i)
 |.str x _=>some (.str x)
 |.bytes b _=>some (.byt b)
 |.float b _=>some (.flt b)
 |.ref a=>some (.ref a)
 |.type n=>some (.ty n)
 |_=>none
theorem bJ.abs {x:V}{u:Value} (r:bJ x u):Df u=some x:=by
 cases x with
 |non=>cases r;rfl
 |bl _=>cases r;rfl
 |int _=>obtain⟨t,rfl⟩:=r;rfl
 |str _=>obtain⟨t,rfl⟩:=r;rfl
 |byt _=>obtain⟨t,rfl⟩:=r;rfl
 |flt _=>obtain⟨t,rfl⟩:=r;rfl
 |ref _=>cases r;rfl
 |ty _=>cases r;rfl
theorem bJ.inj {x y:V}{u:Value} (r:bJ x u) (q:bJ y u):x=y:=qaZ (r.abs.symm.trans q.abs)
theorem bf.inj:∀ {xs ys:List V}{us:List Value},bf xs us->bf ys us->xs=ys
 |_,_,_,.nil,.nil=>rfl
 |_,_,_,.cons r t,.cons r' t'=>by rw[r.inj r',bf.inj t t']
section
variable {X:Cx}{pins:List (Addr×Obj)}{σ:St}{H:Hp}{s:qam}{a:Addr}{xs ys:List V}
theorem SqL.of {K:qad} (h:H a=some (.lst xs)):SqL K H a xs:=.inl (.inl h)
theorem SqT.of {K:qad} (h:H a=some (.tup xs)):SqT K H a xs:=.inl h
theorem Inv.list (I:Inv X pins σ H s) (h:SqL X.K H a xs):∃ its:List Value,bf xs its/\PlainL s.heap a its.toArray/\xs.length<=qaS:=by
 rcases h with h|⟨o,its,n,hk,hc,hd,hs,hz,r⟩
 ·obtain⟨z,its,n,r,e⟩:=h.ok I.hok
  exact⟨its,r,⟨_,n,e,rfl,rfl,rfl⟩,z⟩
 ·refine⟨its.toList,r,⟨o,n,I.kIn a o hk,hc,hd,by simpa using hs⟩,?_⟩
  have e:=r.length
  simp only[qc3]at e
  lia
theorem Inv.tuple (I:Inv X pins σ H s) (h:SqT X.K H a xs):∃ its:List Value,bf xs its/\IsTup s.heap a its.toArray/\xs.length<=qaS:=by
 rcases h with h|⟨o,its,n,hk,hc,hs,hz,r,_⟩
 ·obtain⟨z,its,r,p⟩:=(Rd.of h).ok I.hok
  exact⟨its,r,p.tup,z⟩
 ·refine⟨its.toList,r,⟨o,I.kIn a o hk,hc,n,by simpa using hs⟩,?_⟩
  have e:=r.length
  simp only[qc3]at e
  lia
theorem Inv.tuple1 (I:Inv X pins σ H s) (h:SqT X.K H a xs):∃ o:Obj,s.heap.get? a=some o/\o.cls=.type "tuple"/\o.dict=none:=by
 rcases h with h|⟨o,its,n,hk,hc,hs,hz,r,hd⟩
 ·obtain⟨z,its,r,o,e,c,_,hd⟩:=(Rd.of h).ok I.hok
  exact⟨o,e,c,hd⟩
 ·exact⟨o,I.kIn a o hk,hc,hd⟩
theorem Inv.list_inj (I:Inv X pins σ H s) (h:SqL X.K H a xs) (h':SqL X.K H a ys):xs=ys:=by
 obtain⟨its,r,⟨o,n,e,_,_,d⟩,_⟩:=I.list h
 obtain⟨its',r',⟨o',n',e',_,_,d'⟩,_⟩:=I.list h'
 rw[e]at e';cases e'
 rw[d]at d'
 injection d' with d1 _
 have:its=its':=by simpa using congrArg qfg d1
 subst this
 exact r.inj r'
theorem Inv.tuple_inj (I:Inv X pins σ H s) (h:SqT X.K H a xs) (h':SqT X.K H a ys):xs=ys:=by
 obtain⟨its,r,⟨o,e,_,n,d⟩,_⟩:=I.tuple h
 obtain⟨its',r',⟨o',e',_,n',d'⟩,_⟩:=I.tuple h'
 rw[e]at e';cases e'
 rw[d]at d'
 injection d' with d1 _
 have:its=its':=by simpa using congrArg qfg d1
 subst this
 exact r.inj r'
end
abbrev Cx.wish (X:Cx) (E:Value->qam->Prop):Cx:={ X with xe:=E }
abbrev Cx.nox (X:Cx):Cx:=X.wish λ_ _=>False
theorem Cx.Ok.wish {X:Cx} (ok:X.Ok) (E:Value->qam->Prop):(X.wish E).Ok:=
 ⟨ok.mod,ok.kind,ok.glob,ok.blt,ok.above,ok.inj,ok.has,ok.cab,ok.hd,ok.frames,ok.stk,ok.exf,ok.bs,ok.bsz,ok.noex,ok.exfs,ok.funs,ok.frf⟩
theorem Cx.Ok.unwish {X:Cx}{E:Value->qam->Prop} (ok:(X.wish E).Ok):X.Ok:=
 ⟨ok.mod,ok.kind,ok.glob,ok.blt,ok.above,ok.inj,ok.has,ok.cab,ok.hd,ok.frames,ok.stk,ok.exf,ok.bs,ok.bsz,ok.noex,ok.exfs,ok.funs,ok.frf⟩
section
variable {X:Cx}{pins:List (Addr×Obj)}{σ:St}{H:Hp}{s:qam}{E:Value->qam->Prop}
theorem Inv.wish (I:Inv X pins σ H s) (E:Value->qam->Prop):Inv (X.wish E) pins σ H s:=⟨I.ok.wish E,I.os,I.bare,I.base,I.loc,I.cell,I.free,I.freeC,I.pin,I.hok,I.len⟩
theorem Inv.unwish (I:Inv (X.wish E) pins σ H s):Inv X pins σ H s:=⟨I.ok.unwish,I.os,I.bare,I.base,I.loc,I.cell,I.free,I.freeC,I.pin,I.hok,I.len⟩
theorem SP.unwish {D:oQ}{f:Flow}{s':qam} (h:SP (X.wish E) pins D f s'):SP X pins D f s':=by
 cases f with
 |next=>obtain⟨σ',H',I,q⟩:=h;exact⟨σ',H',I.unwish,q⟩
 |brk=>obtain⟨σ',H',I,q⟩:=h;exact⟨σ',H',I.unwish,q⟩
 |cont=>obtain⟨σ',H',I,q⟩:=h;exact⟨σ',H',I.unwish,q⟩
 |ret u=>obtain⟨v,σ',H',I,r,q⟩:=h;exact⟨v,σ',H',I.unwish,r,q⟩
theorem PSs.nox {st:List Stmt}{t:TS} (h:PSs X.nox st t):PSs X st t:=λpins s σ H D I hw=>
 qcM (h pins s σ H D (I.wish _) hw) (λ_ _ q=>q.unwish) λ_ _ z=>qb4 z
end
section
variable {X:Cx}{st:Stmt}{rest:List Stmt}{t u:TS}{e:Expr}{te:TE}{pos:Pos}
def Co:TS:=λD σ H=>D.nx σ H
def C6 (t u:TS):TS:=λD σ H=>t { D with nx:=u D } σ H
theorem yQ:PSs X [] Co:=λ_ _ σ H _ I h=>qd1 ⟨σ,H,I,h⟩
theorem fM (h1:PS X st t) (h2:PSs X rest u):PSs X (st::rest) (C6 t u):=by
 intro pins s σ H D I h
 refine qg7 (thn (h1 pins s σ H { D with nx:=u D } I h) λf s1 q=>?_)
 cases f with
 |next=>
  obtain⟨σ',H',I',q⟩:=q
  exact h2 pins s1 σ' H' D I' q
 |ret v=>exact q
 |brk=>exact q
 |cont=>exact q
theorem vB (h1:PS X st t):PSs X [st] t:=by
 intro pins s σ H D I h
 refine qg7 (thn (h1 pins s σ H D I h) λf s1 q=>?_)
 cases f with
 |next=>exact qd1 q
 |ret v=>exact q
 |brk=>exact q
 |cont=>exact q
def Bq:TS:=λD σ H=>D.bk σ H
def Cs:TS:=λD σ H=>D.ct σ H
theorem xN:PS X (.Break pos) Bq:=λ_ _ σ H _ I h=>wpAny_Break ⟨σ,H,I,h⟩
theorem qY:PS X (.Continue pos) Cs:=λ_ _ σ H _ I h=>wpAny_Continue ⟨σ,H,I,h⟩
theorem Inv.quiet {pins:List (Addr×Obj)}{σ:St}{H:Hp}{s:qam} (I:Inv X pins σ H s):interactive X.env=false:=by simp[interactive,I.ok.kind]
def BG (te:TE):TS:=λD σ H=>te σ H λ_ H1=>D.nx σ H1
theorem zl (he:PE X e te) (hs:qcC e none pos.line X.env=pure false:=by rfl):PS X (.Expr e pos) (BG te):=by
 intro pins s σ H D I h
 exact wpAny_Expr_any (thn (he pins s σ H _ I h) λv s1 ⟨x,H1,I1,r1,q1⟩=>⟨σ,H1,I1,q1⟩) I.quiet hs
def Dj (te:TE):TS:=λD σ H=>te σ H D.rt
theorem AA (he:PE X e te):PS X (.Return (some e) pos) (Dj te):=by
 intro pins s σ H D I h
 exact wpAny_Return_some (thn (he pins s σ H _ I h) λv s1 ⟨x,H1,I1,r1,q1⟩=>⟨x,σ,H1,I1,r1,q1⟩)
def C2 (c:TT) (t u:TS):TS:=λD σ H=>c σ H λb H1=>if b=true then t D σ H1 else u D σ H1
theorem zG {c:Expr}{a b:List Stmt}{tc:TT} (hc:PT X c tc) (ha:PSs X a t) (hb:PSs X b u):PS X (.If c a b pos) (C2 tc t u):=by
 intro pins s σ H D I h
 refine wpAny_If (thn (hc pins s σ H _ I h) λd s1 ⟨H1,I1,q1⟩=>?_)
 cases d with
 |true=>exact ha pins s1 σ H1 D I1 q1
 |false=>exact hb pins s1 σ H1 D I1 q1
def Bc:TS:=λ_ _ _=>False
theorem iG {sts:List Stmt}:PSs X sts Bc:=λ_ _ _ _ _ _ h=>h.elim
end
abbrev TG:=V->St->Hp->(St->Hp->Prop)->Prop
abbrev TGs:=List V->St->Hp->(St->Hp->Prop)->Prop
def PG (X:Cx) (target:Expr) (t:TG):Prop:=
 ∀ (pins:List (Addr×Obj)) (s:qam) (σ:St) (H:Hp) (v:V) (u:Value) (Q:St->Hp->Prop),Inv X pins σ H s->bJ v u->t v σ H Q->
  wpAny (model X.prog X.w) X.A (qek target X.env u) (λ_ s'=>∃ σ' H',Inv X pins σ' H' s'/\Q σ' H') X.xe s
def PGs (X:Cx) (ts:List Expr) (t:TGs):Prop:=
 ∀ (pins:List (Addr×Obj)) (s:qam) (σ:St) (H:Hp) (vs:List V) (us:List Value) (Q:St->Hp->Prop),Inv X pins σ H s->bf vs us->t vs σ H Q->
  wpAny (model X.prog X.w) X.A (assignInOrder ((qbB ts X.env).map (·.2)) us) (λ_ s'=>∃ σ' H',Inv X pins σ' H' s'/\Q σ' H') X.xe s
abbrev Ab:=V->V->V->Hp->(Hp->Prop)->Prop
def BF (X:Cx) (t:Ab):Prop:=
 ∀ (pins:List (Addr×Obj)) (s:qam) (σ:St) (H:Hp) (o i v:V) (ov iv u:Value) (Q:Hp->Prop),Inv X pins σ H s->bJ o ov->bJ i iv->bJ v u->t o i v H Q->
  wpAny (model X.prog X.w) X.A (setItem ov iv u) (λ_ s'=>∃ H',Inv X pins σ H' s'/\Q H') X.xe s
section
variable {X:Cx}{pos:Pos}
def rN (i:Nat):TG:=λv σ H Q=>Q (σ.set i (some v)) H
theorem au {i:Nat}{x:Str} (hN:X.N.Nodup) (hi:X.N[i]?=some x) (hx:Loc X.env.scope x) (hf:X.fn x=true\/X.env.scope.names.lookup x=some .local:=by first|exact .inl rfl|exact .inr rfl|assumption):PG X (.Name x pos) (rN i):=by
 intro pins s σ H v u Q I r h
 exact qgP (nY I hN hi hx r (λs' I'=>⟨_,H,I',h⟩) hf)
def C3:TGs:=λvs σ H Q=>vs=[]/\Q σ H
def Ck (t:TG) (u:TGs):TGs:=λvs σ H Q=>∃ v r,vs=v::r/\t v σ H λσ' H'=>u r σ' H' Q
theorem yF:PGs X [] C3:=by
 intro pins s σ H vs us Q I r h
 obtain⟨e,h⟩:=h
 subst e
 cases r
 exact assignInOrder_nil ⟨σ,H,I,h⟩
theorem wY {e:Expr}{es:List Expr}{t:TG}{u:TGs} (h1:PG X e t) (h2:PGs X es u)
  (hs:(qbB (e::es) X.env).map (·.2)=qek e X.env::(qbB es X.env).map (·.2):=by rfl):PGs X (e::es) (Ck t u):=by
 intro pins s σ H vs us Q I r h
 obtain⟨v,vr,e1,h⟩:=h
 subst e1
 cases r with
 |cons r rr=>
  rw[hs]
  refine assignInOrder_cons (thn (h1 pins s σ H _ _ _ I r h) λ_ s1 ⟨σ1,H1,I1,q1⟩=>?_)
  exact h2 pins s1 σ1 H1 _ _ Q I1 rr q1
def CV (K:qad) (n:Nat) (t:TGs):TG:=λv σ H Q=>∃ a xs,v=.ref a/\SqT K H a xs/\xs.length=n/\t xs σ H Q
theorem AN {es:List Expr}{k:Nat}{t:TGs}{n:Nat} (hc:X.calm=true) (h:PGs X es t)
  (hn:(qbB es X.env).length=n:=by rfl) (hst:(qbB es X.env).findIdx? (·.1)=none:=by rfl):PG X (.Tuple es k pos) (CV X.K n t):=by
 intro pins s σ H v u Q I r hw
 obtain⟨a,xs,e1,hq,hl,hw⟩:=hw
 subst e1
 cases r
 obtain⟨its,rv,ht,hz⟩:=I.tuple hq
 refine assign_Tuple_tuple (I.ok.hd hc) ht (by simp[hn,<-hl,rv.length]) hst λh' hx=>?_
 have I1:Inv X pins σ H { s with heap:=h' }:=I.kept (t':=s.toks) λb o e=>hx b o (qaW (qaG e)) e
 exact h pins _ σ H xs _ Q I1 (by simpa using rv) hw
def Dg (to ti:TE) (t:Ab):TG:=λv σ H Q=>to σ H λo H1=>ti σ H1 λi H2=>t o i v H2 λH3=>Q σ H3
theorem uC {o i:Expr}{to ti:TE}{t:Ab} (ho:PE X o to) (hi:PE X i ti) (hs:BF X t)
  (ha:∀ v,qek (.Subscript o i pos) X.env v=(do
    let ov <-qeL [v] (eval o X.env)
    let iv <-qeL [v,ov] (eval i X.env)
    qh0 pos
    qeL [v,ov,iv] (setItem ov iv v)
    release [v,ov,iv] []):=by intro _;rfl):PG X (.Subscript o i pos) (Dg to ti t):=by
 intro pins s σ H v u Q I r h
 rw[ha]
 refine qag (qda (thn (ho pins s σ H _ I h) λov s1 ⟨x,H1,I1,r1,q1⟩=>?_))
 refine qag (qda (thn (hi pins s1 σ H1 _ I1 q1) λiv s2 ⟨y,H2,I2,r2,q2⟩=>?_))
 refine qag (qez (qag (qda (thn (hs pins s2 σ H2 x y v ov iv u _ I2 r1 r2 r q2) λ_ s3 ⟨H3,I3,q3⟩=>?_))))
 exact wpAny_release ⟨σ,H3,I3,q3⟩
def Ba (te:TE) (g:TG):TS:=λD σ H=>te σ H λx H1=>g x σ H1 D.nx
theorem qE {tg e:Expr}{te:TE}{g:TG} (he:PE X e te) (hg:PG X tg g) (hs:qdH [tg] e pos.line X.env=pure false:=by rfl) (hw:qdI [tg] e X.env=pure none:=by rfl)
  (h1:(qbB [tg] X.env).map (·.2)=[qek tg X.env]:=by rfl):PS X (.Assign [tg] e pos) (Ba te g):=by
 intro pins s σ H D I h
 refine wpAny_Assign_stores (thn (he pins s σ H _ I h) λv s1 ⟨x,H1,I1,r1,q1⟩=>?_) hs hw
 rw[h1]
 exact thn (hg pins s1 σ H1 x v _ I1 r1 q1) λ_ s2 q=>q
theorem z6 {i:Nat}{x:Str}{e:Expr}{te:TE}{pos':Pos} (hN:X.N.Nodup) (hi:X.N[i]?=some x) (hx:Loc X.env.scope x) (he:PE X e te) (hs:qcC e (some (.Name x pos')) pos.line X.env=pure false:=by rfl) (hf:X.fn x=true\/X.env.scope.names.lookup x=some .local:=by first|exact .inl rfl|exact .inr rfl|assumption) :
  PS X (.Assign [.Name x pos'] e pos) (Ba te (rN i)):=by
 intro pins s σ H D I h
 refine wpAny_Assign_Name (thn (he pins s σ H _ I h) λv s1 ⟨y,H1,I1,r1,q1⟩=>?_) hs
 exact nY I1 hN hi hx r1 (λs2 I2=>⟨_,H1,I2,q1⟩) hf
end
section
variable {X:Cx}{pos:Pos}
def z8 (c:TT) (tb:TS):TS:=λD σ H=>∃ W:Nat->St->Hp->Prop,(∃ m,W m σ H)/\∀ m σ H,W m σ H->
 c σ H λb H1=>if b=true then ∃ N:St->Hp->Prop,(∀ σ' H',N σ' H'->∃ m',m'<m/\W m' σ' H')/\tb { D with nx:=N,ct:=N,bk:=D.nx } σ H1 else D.nx σ H1
theorem ww {c:Expr}{body:List Stmt}{tc:TT}{tb:TS} (hp:qgd (model X.prog X.w) X.A X.env X.xe) (hc:PT X c tc) (hb:PSs X body tb):PS X (.While c body [] pos) (z8 tc tb):=by
 intro pins s σ H D I h
 obtain⟨W,⟨m0,w0⟩,turn⟩:=h
 refine wpAny_While (codeAny_whileLoop (λn s'=>∃ σ' H',Inv X pins σ' H' s'/\W n σ' H') ?_ m0 ⟨σ,H,I,w0⟩)
 rintro n s1 ⟨σ1,H1,I1,w1⟩
 refine qco hp (thn (hc pins s1 σ1 H1 _ I1 (turn n σ1 H1 w1)) λb s2 ⟨H2,I2,q2⟩=>?_)
 cases b with
 |true=>
  obtain⟨N,hN,q2⟩:=q2
  rw[if_pos rfl]
  refine qco hp (thn (hb pins s2 σ1 H2 _ I2 q2) λf s3 q3=>?_)
  cases f with
  |next=>
   obtain⟨σ3,H3,I3,n3⟩:=q3
   obtain⟨m',hm,w3⟩:=hN σ3 H3 n3
   exact⟨m',hm,σ3,H3,I3,w3⟩
  |cont=>
   obtain⟨σ3,H3,I3,n3⟩:=q3
   obtain⟨m',hm,w3⟩:=hN σ3 H3 n3
   exact⟨m',hm,σ3,H3,I3,w3⟩
  |brk=>exact q3
  |ret v=>exact q3
 |false=>
  rw[if_neg qaH]
  exact qd1 ⟨σ1,H2,I2,q2⟩
end
structure It where
 go:Nat->Hp->Prop
 yld:Nat->Hp->V->Hp->Prop
 stop:Nat->Hp->Prop
def j5 (X:Cx) (pins:List (Addr×Obj)) (H:Hp) (b:Addr):Prop:=
 H b=none/\b≠X.env.locals/\b∉X.fs/\(b∈X.ex\/X.s₀.heap.objs.size<=b)/\(∀ x c,X.env.cells.lookup x=some c->c≠b)/\∀ p∈X.pn++pins,p.1≠b
theorem Inv.fpOk {X:Cx}{pins:List (Addr×Obj)}{σ:St}{H H':Hp}{s:qam}{b:Addr} (I:Inv X pins σ H s) (hb:s.heap.objs.size<=b) (hn:H' b=none):j5 X pins H' b:=by
 refine⟨hn,qb6 (qaU I.lt hb),I.nofs hb,.inr (qa6 I.sz hb),λx c e z=>?_,λp hp z=>?_⟩
 ·obtain⟨v,q⟩:=I.cell x c e
  exact absurd (qaU q.lt (by rw[z];exact hb)) (qa2 _)
 ·exact absurd (qaU (qaG (I.pin p hp).1) (by rw[z];exact hb)) (qa2 _)
structure uw (P:qa5) (w:World) (K:qad) (tg:Expr) (J:It) (fp:List Addr) (it:Addr) (tn:Nat->Heap->Prop):Prop where
 mem:it∈fp
 obj:∀ i h,tn i h->∀ b∈fp,∃ o,h.get? b=some o/\∀ v,o.data≠.cell v
 keep:∀ i h h',tn i h->(∀ b∈fp,∀ o,h.get? b=some o->h'.get? b=some o)->tn i h'
 item:∀ (X:Cx),X.prog=P->X.w=w->X.K=K->X.calm=true->∀ (i:Nat) (pins:List (Addr×Obj)) (s:qam) (σ:St) (H:Hp) (E:Value->qam->Prop),Inv X pins σ H s->(∀ b∈fp,j5 X pins H b)->tn i s.heap->J.go i H->
  wpAny (model P w) X.A (qf9 (.ref it)) (λr s1=>∃ u,r=some u/\
   wpAny (model P w) X.A (qd3 tg (.ref it) u) (λ_ s2=>∃ x H',Inv X pins σ H' s2/\bJ x u/\J.yld i H x H'/\tn (i+1) s2.heap/\∀ b∈fp,H' b=none) E s1) E s
 done:∀ (X:Cx),X.prog=P->X.w=w->X.K=K->X.calm=true->∀ (i:Nat) (pins:List (Addr×Obj)) (s:qam) (σ:St) (H:Hp) (E:Value->qam->Prop),Inv X pins σ H s->(∀ b∈fp,j5 X pins H b)->tn i s.heap->J.stop i H->
  wpAny (model P w) X.A (qf9 (.ref it)) (λr s1=>r=none/\Inv X pins σ H s1) E s
 self:∀ (A:qbd) (i:Nat) (s:qam) (Q:Value->qam->Prop) (E:Value->qam->Prop),tn i s.heap->Q (.ref it) s->wpAny (model P w) A (pyIter (.ref it)) Q E s
abbrev TI:=St->Hp->(It->Hp->Prop)->Prop
def PIE (X:Cx) (pins:List (Addr×Obj)) (σ:St) (tg:Expr) (R:It->Hp->Prop) (itv:Value) (s2:qam):Prop:=
 ∃ (it:Addr) (fp:List Addr) (tn:Nat->Heap->Prop) (J:It) (H':Hp),itv=.ref it/\Inv X pins σ H' s2/\uw X.prog X.w X.K tg J fp it tn/\tn 0 s2.heap/\(∀ b∈fp,j5 X pins H' b)/\R J H'
def PI (X:Cx) (tg iter:Expr) (wi:TI):Prop:=
 ∀ (pins:List (Addr×Obj)) (s:qam) (σ:St) (H:Hp) (R:It->Hp->Prop),Inv X pins σ H s->wi σ H R->
  wpAny (model X.prog X.w) X.A (eval iter X.env) (λv s1=>wpAny (model X.prog X.w) X.A (pyIter v) (PIE X pins σ tg R) X.xe s1) X.xe s
theorem yn {M:Model}{A:qbd}{E:Value->qam->Prop}{s:qam}{tg:Expr}{it:Addr}{u:Value}{o:Obj}{n:String}{vs:Array Value}{Q:Unit->qam->Prop} (ho:s.heap.get? it=some o) (hc:o.cls=.type n) (hd:o.data=.fields vs)
  (hn:["enumerate","zip","dict_itemiterator","dict_reverseitemiterator","odict_iterator","itertools.zip_longest","itertools.pairwise"].contains n=false) (hQ:Q () s):wpAny M A (qd3 tg (.ref it) u) Q E s:=by
 unfold qd3
 cases tg<;>first
  |exact qaE hQ
  | (cases u<;>first
      |exact qaE hQ
      | (refine qag (wpAny_load ho ?_)
         rw[hc,hd]
         show wpAny M A (if (["enumerate","zip","dict_itemiterator","dict_reverseitemiterator","odict_iterator","itertools.zip_longest","itertools.pairwise"].contains n&&vs[0]?==some (qfx _))=true then _ else _) Q E s
         rw[if_neg (by intro h;rw[hn,Bool.false_and]at h;cases h)]
         exact qaE hQ))
def Itl (K:qad) (a:Addr):It:=
 ⟨λi H=>∃ xs x,SqL K H a xs/\xs[i]?=some x,λi H x H'=>H'=H/\∀ xs,SqL K H a xs->xs[i]?=some x,λi H=>∃ xs,SqL K H a xs/\xs.length<=i⟩
def Itt (K:qad) (a:Addr):It:=
 ⟨λi H=>∃ xs x,SqT K H a xs/\xs[i]?=some x,λi H x H'=>H'=H/\∀ xs,SqT K H a xs->xs[i]?=some x,λi H=>∃ xs,SqT K H a xs/\xs.length<=i⟩
def Itr (lo:Int) (n:Nat):It:=⟨λi _=>i<n,λi H x H'=>H'=H/\x=.int (lo+i),λi _=>n<=i⟩
theorem wn {P:qa5}{w:World}{K:qad}{tg:Expr} (a it:Addr):uw P w K tg (Itl K a) [it] it (λi h=>h.IsListIter it a i) where
 mem:=by simp
 obj:=λi h st b hb=>by
  have e:b=it:=by simpa using hb
  subst e
  obtain⟨o,e,c,d⟩:=st
  exact⟨o,e,λv z=>by rw[d]at z;cases z⟩
 keep:=λi h h' st k=>st.at λo e=>k it (by simp) o e
 item:=by
  intro X hP hw hK hc i pins s σ H E I hf st hg
  subst hP hw hK
  obtain⟨xs,x,hq,hx⟩:=hg
  obtain⟨its,rv,p,hz⟩:=I.list hq
  obtain⟨u,hu,ru⟩:=rv.get hx
  obtain⟨f0,f1,f2,f3,f4,f5⟩:=hf it (by simp)
  refine wpAny_pyNext_list_item st p.isList (x:=u) (by simpa using hu) λh' st' sb=>?_
  have I1:Inv X pins σ H { s with heap:=h' }:=I.turned (t':=s.toks) (λb o hb e=>(sb.2 b hb).trans e) f0 f1 f3 f4 f5
  obtain⟨o,e,c,d⟩:=id st'
  exact⟨u,rfl,yn (s:={ s with heap:=h' }) e c d (by decide) ⟨x,H,I1,ru,⟨rfl,λys hy=>by rw[I.list_inj hy hq];exact hx⟩,st',λb hb=>(hf b hb).1⟩⟩
 done:=by
  intro X hP hw hK hc i pins s σ H E I hf st hg
  subst hP hw hK
  obtain⟨xs,hq,hx⟩:=hg
  obtain⟨its,rv,p,hz⟩:=I.list hq
  obtain⟨f0,f1,f2,f3,f4,f5⟩:=hf it (by simp)
  have hl:=rv.length
  exact wpAny_pyNext_list_end (I.ok.hd hc) st p.isList (by simp;lia) λh' eb=>⟨rfl,I.turned (t':=s.toks) (λb o hb e=>eb b o hb e) f0 f1 f3 f4 f5⟩
 self:=λ_ _ _ _ _ st h=>wpAny_pyIter_listiter st h
theorem sX {P:qa5}{w:World}{K:qad}{tg:Expr} (a it:Addr):uw P w K tg (Itt K a) [it] it (λi h=>h.IsTupleIter it a i) where
 mem:=by simp
 obj:=λi h st b hb=>by
  have e:b=it:=by simpa using hb
  subst e
  obtain⟨o,e,c,d⟩:=st
  exact⟨o,e,λv z=>by rw[d]at z;cases z⟩
 keep:=λi h h' st k=>st.at λo e=>k it (by simp) o e
 item:=by
  intro X hP hw hK hc i pins s σ H E I hf st hg
  subst hP hw hK
  obtain⟨xs,x,hq,hx⟩:=hg
  obtain⟨its,rv,p,hz⟩:=I.tuple hq
  obtain⟨u,hu,ru⟩:=rv.get hx
  obtain⟨f0,f1,f2,f3,f4,f5⟩:=hf it (by simp)
  refine wpAny_pyNext_tuple_item st (show s.heap.IsTuple a its.toArray from p) (x:=u) (by simpa using hu) λh' st' sb=>?_
  have I1:Inv X pins σ H { s with heap:=h' }:=I.turned (t':=s.toks) (λb o hb e=>(sb.2 b hb).trans e) f0 f1 f3 f4 f5
  obtain⟨o,e,c,d⟩:=id st'
  exact⟨u,rfl,yn (s:={ s with heap:=h' }) e c d (by decide) ⟨x,H,I1,ru,⟨rfl,λys hy=>by rw[I.tuple_inj hy hq];exact hx⟩,st',λb hb=>(hf b hb).1⟩⟩
 done:=by
  intro X hP hw hK hc i pins s σ H E I hf st hg
  subst hP hw hK
  obtain⟨xs,hq,hx⟩:=hg
  obtain⟨its,rv,p,hz⟩:=I.tuple hq
  obtain⟨f0,f1,f2,f3,f4,f5⟩:=hf it (by simp)
  have hl:=rv.length
  exact wpAny_pyNext_tuple_end (I.ok.hd hc) st (show s.heap.IsTuple a its.toArray from p) (by simp;lia) λh' eb=>⟨rfl,I.turned (t':=s.toks) (λb o hb e=>eb b o hb e) f0 f1 f3 f4 f5⟩
 self:=λ_ _ _ _ _ st h=>wpAny_pyIter_tupleiter st h
theorem sQ {P:qa5}{w:World}{K:qad}{tg:Expr} (it:Addr) (lo:Int) (n:Nat):uw P w K tg (Itr lo n) [it] it (λi h=>IsRangeIter h it (lo+(i:Nat)*1) ((n:Int) - (i:Nat)) 1) where
 mem:=by simp
 obj:=λi h st b hb=>by
  have e:b=it:=by simpa using hb
  subst e
  exact⟨_,st,λv z=>by
   have z':Data.fields _=Data.cell v:=z
   cases z'⟩
 keep:=λi h h' st k=>k it (by simp) _ st
 item:=by
  intro X hP hw hK hc i pins s σ H E I hf st hg
  subst hP hw hK
  obtain⟨f0,f1,f2,f3,f4,f5⟩:=hf it (by simp)
  have W:=Walks.range (prog:=X.prog) (w:=X.w) (I.ok.hd hc) it lo 1 n
  refine W.item i s _ _ hg st λv h' tk hv st' kk=>?_
  obtain⟨t,rfl⟩:=hv
  have I1:Inv X pins σ H { s with heap:=h',toks:=tk }:=I.turned (λb o hb e=>kk b o (by simpa using hb) e) f0 f1 f3 f4 f5
  refine⟨_,rfl,yn (s:={ s with heap:=h',toks:=tk }) (n:="range_iterator") st' rfl rfl (by decide) ⟨.int (lo+i),H,I1,⟨t,?_⟩,⟨rfl,rfl⟩,st',λb hb=>(hf b hb).1⟩⟩
  rw[qd7]
 done:=by
  intro X hP hw hK hc i pins s σ H E I hf st hg
  subst hP hw hK
  obtain⟨f0,f1,f2,f3,f4,f5⟩:=hf it (by simp)
  exact wpAny_pyNext_range_end (I.ok.hd hc) st (by have:n<=i:=hg;lia) λh' eb=>⟨rfl,I.turned (t':=s.toks) (λb o hb e=>eb b o hb e) f0 f1 f3 f4 f5⟩
 self:=λ_ _ _ _ _ st h=>wpAny_pyIter_rangeiter st h
section
variable {X:Cx}{tg:Expr}
def Ca (K:qad) (tl:TE):TI:=λσ H R=>tl σ H λx H1=>∃ a,x=.ref a/\(∃ xs,SqL K H1 a xs)/\R (Itl K a) H1
def Dq (K:qad) (tl:TE):TI:=λσ H R=>tl σ H λx H1=>∃ a,x=.ref a/\(∃ xs,SqT K H1 a xs)/\R (Itt K a) H1
theorem vJ {l:Expr}{tl:TE} (hl:PE X l tl):PI X tg l (Ca X.K tl):=by
 intro pins s σ H R I h
 refine thn (hl pins s σ H _ I h) λv s1 ⟨x,H1,I1,r1,q1⟩=>?_
 obtain⟨a,e,⟨xs,hq⟩,q⟩:=q1
 subst e
 cases r1
 obtain⟨its,rv,p,hz⟩:=I1.list hq
 refine qeJ p.isList ?_
 refine⟨s1.heap.objs.size,[s1.heap.objs.size],_,_,H1,rfl,I1.kept (t':=s1.toks) λb o e=>qak _ e,wn a _,⟨_,qaI _ rfl,rfl,rfl⟩,λb hb=>?_,q⟩
 have e:b=s1.heap.objs.size:=by simpa using hb
 subst e
 exact I1.fpOk (qan _) (I1.hok.fresh (qan _))
theorem AV {l:Expr}{tl:TE} (hl:PE X l tl):PI X tg l (Dq X.K tl):=by
 intro pins s σ H R I h
 refine thn (hl pins s σ H _ I h) λv s1 ⟨x,H1,I1,r1,q1⟩=>?_
 obtain⟨a,e,⟨xs,hq⟩,q⟩:=q1
 subst e
 cases r1
 obtain⟨its,rv,p,hz⟩:=I1.tuple hq
 refine qcQ (show s1.heap.IsTuple a its.toArray from p) ?_
 refine⟨s1.heap.objs.size,[s1.heap.objs.size],_,_,H1,rfl,I1.kept (t':=s1.toks) λb o e=>qak _ e,sX a _,⟨_,qaI _ rfl,rfl,rfl⟩,λb hb=>?_,q⟩
 have e:b=s1.heap.objs.size:=by simpa using hb
 subst e
 exact I1.fpOk (qan _) (I1.hok.fresh (qan _))
theorem wI {pins:List (Addr×Obj)}{σ:St}{H:Hp}{s:qam}{R:It->Hp->Prop}{E:Value->qam->Prop}{lo hi:Int}{t u v:Tok}{tk:Nat} (I:Inv X pins σ H s) (h1:-(2^62)<=lo) (h2:lo<2^62) (h3:-(2^62)<=hi) (h4:hi<2^62)
  (q:R (Itr lo (hi - lo).toNat) H):wpAny (model X.prog X.w) X.A (pyIter (.ref s.heap.objs.size)) (PIE X pins σ tg R) E { s with heap:=s.heap.push { cls:=.type "range",data:=.fields #[.int lo t,.int hi u,.int 1 v] },toks:=tk }:=by
 refine wpAny_pyIter_range (IsRange.new ..) (small_one h1 h2 h3 h4) ?_
 have I1:Inv X pins σ H { s with heap:=s.heap.push { cls:=.type "range",data:=.fields #[.int lo t,.int hi u,.int 1 v] },toks:=tk }:=I.kept λb o e=>qak _ e
 refine⟨(s.heap.push { cls:=.type "range",data:=.fields #[.int lo t,.int hi u,.int 1 v] }).objs.size,[(s.heap.push { cls:=.type "range",data:=.fields #[.int lo t,.int hi u,.int 1 v] }).objs.size],_,_,H,rfl,
  I1.kept (t':=tk) λb o e=>qak _ e,sQ _ lo (hi - lo).toNat,?_,λb hb=>?_,q⟩
 ·have e1:lo+((0:Nat):Int)*1=lo:=by simp
  have e2:(((hi - lo).toNat:Nat):Int) - ((0:Nat):Int)=qeh lo hi 1:=by rw[qfJ];split<;>lia
  show IsRangeIter _ _ (lo+((0:Nat):Int)*1) ((((hi - lo).toNat:Nat):Int) - ((0:Nat):Int)) 1
  rw[e1,e2]
  exact qaI _ rfl
 ·have e:b=(s.heap.push { cls:=.type "range",data:=.fields #[.int lo t,.int hi u,.int 1 v] }).objs.size:=by simpa using hb
  subst e
  exact I1.fpOk (qan _) (I1.hok.fresh (qan _))
def CP (ta:TA):TI:=λσ H R=>ta σ H λvs H1=>∃ j:Int,vs=[.int j]/\-(2^62)<=j/\j<2^62/\R (Itr 0 j.toNat) H1
theorem vP {a:Expr}{ta:TA}{p pos:Pos} (hg:Gl X "range") (hm:X.mg "range" = none) (ha:PA X [a] ta) (hs:qbl [a] X.env=[(false,eval a X.env)]:=by rfl):PI X tg (.Call (.Name "range" p) [a] [] pos) (CP ta):=by
 intro pins s σ H R I h
 refine Call_ (kH I hg hm boot_range (qbQ (thn (ha pos pins s σ H _ I h) λus s1 ⟨vs,H1,I1,r1,q1⟩=>?_) hs rfl))
 obtain⟨j,e,q1,q2,q⟩:=q1
 subst e
 cases r1 with
 |cons r rr=>
  cases rr
  obtain⟨t,rfl⟩:=r
  exact call_range_1 (wI I1 (by lia) (by lia) q1 q2 (by simpa using q))
def Di (wi:TI) (g:TG) (tb:TS):TS:=λD σ H=>wi σ H λJ H1=>∃ W:Nat->Nat->St->Hp->Prop,(∃ m,W 0 m σ H1)/\∀ i m σ H,W i m σ H->
 (J.stop i H/\D.nx σ H)\/(J.go i H/\∃ N:St->Hp->Prop,(∀ σ' H',N σ' H'->∃ m',m'<m/\W (i+1) m' σ' H')/\∀ x H',J.yld i H x H'->g x σ H' λσ2 H2=>tb { D with nx:=N,ct:=N,bk:=D.nx } σ2 H2)
def lz (fp:List Addr) (h:Heap):List (Addr×Obj):=fp.filterMap λb=>(h.get? b).map λo=>(b,o)
theorem d8 {fp:List Addr}{h:Heap}{b:Addr}{o:Obj} (hb:b∈fp) (e:h.get? b=some o):(b,o)∈lz fp h:=qfP.mpr ⟨b,hb,by rw[e];rfl⟩
theorem vU {fp:List Addr}{h:Heap}{p:Addr×Obj} (hp:p∈lz fp h):p.1∈fp/\h.get? p.1=some p.2:=by
 obtain⟨b,hb,e⟩:=qfP.mp hp
 cases q:h.get? b with
 |none=>rw[q]at e;cases e
 |some o=>
  rw[q]at e
  have e':(b,o)=p:=qaZ e
  subst e'
  exact⟨hb,q⟩
theorem Inv.pinned {pins:List (Addr×Obj)}{σ:St}{H:Hp}{s:qam}{fp:List Addr} (I:Inv X pins σ H s) (hf:∀ b∈fp,j5 X pins H b) (ho:∀ b∈fp,∃ o,s.heap.get? b=some o/\∀ v,o.data≠.cell v):Inv X (pins++lz fp s.heap) σ H s:=
 I.pins_of λp hp=>(qaM.mp hp).elim (λz=>I.pin p (qav _ z)) λz=>by
  obtain⟨hb,e⟩:=vU z
  obtain⟨f0,f1,f2,_⟩:=hf p.1 hb
  obtain⟨o,e',d⟩:=ho p.1 hb
  rw[e]at e';cases e'
  exact⟨e,f0,f1,f2,d⟩
theorem Inv.unpinned {pins pl:List (Addr×Obj)}{σ:St}{H:Hp}{s:qam} (I:Inv X (pins++pl) σ H s):Inv X pins σ H s:=I.pins_of λp hp=>I.pin p (qav _ (qa1 _ hp))
theorem Bv {iter:Expr}{body:List Stmt}{wi:TI}{g:TG}{tb:TS}{pos:Pos} (hp:qgd (model X.prog X.w) X.A X.env X.xe) (hc:X.calm=true) (hi:PI X tg iter wi) (hg:PG X tg g) (hb:PSs X body tb)
  (hs:∀ x,qbY iter X.env x=pure x:=by intro _;rfl):PS X (.For tg iter body [] pos) (Di wi g tb):=by
 intro pins s σ H D I h
 refine wpAny_For (thn (hi pins s σ H _ I h) λv s1 h1=>thn h1 λitv s2 h2=>?_) hs
 obtain⟨it,fp,tn,J,H2,e,I2,T,st2,f2,W,⟨m0,w0⟩,turn⟩:=h2
 subst e
 -- what stays true of the iterator's objects through the loop
 have stat:∀ {H':Hp},(∀ b∈fp,H' b=none)->∀ b∈fp,j5 X pins H' b:=λhn b hb=>⟨hn b hb,(f2 b hb).2⟩
 refine codeAny_forLoop_any (λn s'=>∃ i σ' H',Inv X pins σ' H' s'/\tn i s'.heap/\(∀ b∈fp,H' b=none)/\W i n σ' H') ?_ m0 ⟨0,σ,H2,I2,st2,λb hb=>(f2 b hb).1,w0⟩
 rintro n s3 ⟨i,σ3,H3,I3,st3,fr3,w3⟩
 rcases turn i n σ3 H3 w3 with⟨stop,qn⟩|⟨go,N,hN,step⟩
 ·refine qco hp (thn (T.done X rfl rfl rfl hc i pins s3 σ3 H3 X.xe I3 (stat fr3) st3 stop) λr s4 ⟨hr,I4⟩=>?_)
  subst hr
  exact qd1 ⟨σ3,H3,I4,qn⟩
 ·refine qco hp (thn (T.item X rfl rfl rfl hc i pins s3 σ3 H3 X.xe I3 (stat fr3) st3 go) λr s4 ⟨u,hr,h4⟩=>?_)
  subst hr
  refine qco hp (thn h4 λ_ s5 ⟨x,H5,I5,r5,y5,st5,fr5⟩=>?_)
  have I5':=I5.pinned (stat fr5) (T.obj _ _ st5)
  refine qco hp (thn (hg _ s5 σ3 H5 x u _ I5' r5 (step x H5 y5)) λ_ s6 ⟨σ6,H6,I6,q6⟩=>?_)
  refine qco hp (thn (hb _ s6 σ6 H6 _ I6 q6) λf s7 q7=>?_)
  have again:∀ {σ7:St}{H7:Hp},Inv X (pins++lz fp s5.heap) σ7 H7 s7->N σ7 H7->∃ m,m<n/\∃ i σ' H',Inv X pins σ' H' s7/\tn i s7.heap/\(∀ b∈fp,H' b=none)/\W i m σ' H':=λ{σ7 H7} I7 n7=>by
   obtain⟨m',hm,w7⟩:=hN σ7 H7 n7
   refine⟨m',hm,i+1,σ7,H7,I7.unpinned,T.keep _ _ _ st5 λb hb o e=>(I7.pin (b,o) (qav _ (qav _ (d8 hb e)))).1,λb hb=>?_,w7⟩
   obtain⟨o,e,d⟩:=T.obj _ _ st5 b hb
   exact (I7.pin (b,o) (qav _ (qav _ (d8 hb e)))).2.1
  cases f with
  |next=>obtain⟨σ7,H7,I7,n7⟩:=q7;exact again I7 n7
  |cont=>obtain⟨σ7,H7,I7,n7⟩:=q7;exact again I7 n7
  |brk=>obtain⟨σ7,H7,I7,q7⟩:=q7;exact⟨σ7,H7,I7.unpinned,q7⟩
  |ret v=>obtain⟨x7,σ7,H7,I7,r7,q7⟩:=q7;exact⟨x7,σ7,H7,I7.unpinned,r7,q7⟩
end
abbrev R2:=V->V->Hp->VK->Prop
def OpR (X:Cx) (f:Value->Value->Sem Value) (r:R2):Prop:=
 ∀ (pins:List (Addr×Obj)) (s:qam) (σ:St) (H:Hp) (x y:V) (v u:Value) (Q:VK),Inv X pins σ H s->bJ x v->bJ y u->r x y H Q->
  wpAny (model X.prog X.w) X.A (f v u) (EP X pins σ Q) X.xe s
def UnR (X:Cx) (f:Value->Sem Value) (r:V->Hp->VK->Prop):Prop:=
 ∀ (pins:List (Addr×Obj)) (s:qam) (σ:St) (H:Hp) (x:V) (v:Value) (Q:VK),Inv X pins σ H s->bJ x v->r x H Q->
  wpAny (model X.prog X.w) X.A (f v) (EP X pins σ Q) X.xe s
def dD (X:Cx) (f:Value) (r:List V->Hp->VK->Prop):Prop:=
 ∀ (pins:List (Addr×Obj)) (s:qam) (σ:St) (H:Hp) (xs:List V) (us:List Value) (Q:VK),Inv X pins σ H s->bf xs us->r xs H Q->
  wpAny (model X.prog X.w) X.A (call f us) (EP X pins σ Q) X.xe s
def Dw (X:Cx) (r:V->Hp->(Bool->Hp->Prop)->Prop):Prop:=
 ∀ (pins:List (Addr×Obj)) (s:qam) (σ:St) (H:Hp) (x:V) (v:Value) (Q:Bool->Hp->Prop),Inv X pins σ H s->bJ x v->r x H Q->
  wpAny (model X.prog X.w) X.A (truthy v) (TP X pins σ Q) X.xe s
def tOp (r:R2) (ta tb:TE):TE:=λσ H Q=>ta σ H λx H1=>tb σ H1 λy H2=>r x y H2 Q
def tUn (r:V->Hp->VK->Prop) (ta:TE):TE:=λσ H Q=>ta σ H λx H1=>r x H1 Q
def rI (C:Int->Int->Prop) (g:Int->Int->V):R2:=λx y H Q=>∃ i j,x=.int i/\y=.int j/\C i j/\Q (g i j) H
def rI0 (g:Int->Int->V):R2:=λx y H Q=>∃ i j,x=.int i/\y=.int j/\Q (g i j) H
def rU (g:Int->V):V->Hp->VK->Prop:=λx H Q=>∃ i,x=.int i/\Q (g i) H
section
variable {X:Cx}{a b c:Expr}{ta tb tc:TE}{pos:Pos}
theorem AW (ha:PE X a ta) (hb:PE X b tb) {pins:List (Addr×Obj)}{s:qam}{σ:St}{H:Hp}{R:V->V->Hp->Prop} (I:Inv X pins σ H s)
  (h:ta σ H λx H1=>tb σ H1 λy H2=>R x y H2) {Q:Value->qam->Prop}{f:Value->Value->Sem Value}
  (hf:∀ v u s2 x y H2,Inv X pins σ H2 s2->bJ x v->bJ y u->R x y H2->wpAny (model X.prog X.w) X.A (f v u) Q X.xe s2) :
  wpAny (model X.prog X.w) X.A (eval a X.env) (λv s₁=>wpAny (model X.prog X.w) X.A (eval b X.env) (λu s₂=>wpAny (model X.prog X.w) X.A (f v u) Q X.xe s₂) X.xe s₁) X.xe s:=by
 refine thn (ha pins s σ H _ I h) λv s1 ⟨x,H1,I1,r1,q1⟩=>?_
 refine thn (hb pins s1 σ H1 _ I1 q1) λu s2 ⟨y,H2,I2,r2,q2⟩=>?_
 exact hf v u s2 x y H2 I2 r1 r2 q2
theorem zR {op:Operator}{r:R2} (ho:OpR X (qbC op) r) (ha:PE X a ta) (hb:PE X b tb):PE X (.BinOp a op b pos) (tOp r ta tb):=by
 intro pins s σ H Q I h
 exact wpAny_BinOp (AW ha hb I h λv u s2 x y H2 I2 rx ry q=>ho pins s2 σ H2 x y v u Q I2 rx ry q)
theorem CB {op:UnaryOp}{r:V->Hp->VK->Prop} (ho:UnR X (unaryOp op) r) (ha:PE X a ta):PE X (.UnaryOp op a pos) (tUn r ta):=by
 intro pins s σ H Q I h
 exact UnaryOp_ (thn (ha pins s σ H _ I h) λv s1 ⟨x,H1,I1,r1,q1⟩=>ho pins s1 σ H1 x v Q I1 r1 q1)
theorem opI {f:Value->Value->Sem Value}{C:Int->Int->Prop}{g:Int->Int->Int}
  (rule:∀ (i j:Int) (t u:Tok) (s:qam) (Q:Value->qam->Prop) (E:Value->qam->Prop),C i j->Q (.int (g i j) s.toks) { s with toks:=s.toks+1 }->wpAny (model X.prog X.w) X.A (f (.int i t) (.int j u)) Q E s) :
  OpR X f (rI C λi j=>.int (g i j)):=by
 intro pins s σ H x y v u Q I rx ry h
 obtain⟨i,j,rfl,rfl,hc,q⟩:=h
 obtain⟨t,rfl⟩:=rx
 obtain⟨t',rfl⟩:=ry
 exact rule i j t t' s _ _ hc ⟨.int (g i j),H,I.tok _,⟨_,rfl⟩,q⟩
theorem B7 {f:Value->Value->Sem Value}{g:Int->Int->Int}
  (rule:∀ (i j:Int) (t u:Tok) (s:qam) (Q:Value->qam->Prop) (E:Value->qam->Prop),Q (.int (g i j) s.toks) { s with toks:=s.toks+1 }->wpAny (model X.prog X.w) X.A (f (.int i t) (.int j u)) Q E s) :
  OpR X f (rI0 λi j=>.int (g i j)):=by
 intro pins s σ H x y v u Q I rx ry h
 obtain⟨i,j,rfl,rfl,q⟩:=h
 obtain⟨t,rfl⟩:=rx
 obtain⟨t',rfl⟩:=ry
 exact rule i j t t' s _ _ ⟨.int (g i j),H,I.tok _,⟨_,rfl⟩,q⟩
theorem zr {f:Value->Value->Sem Value}{g:Int->Int->Bool}
  (rule:∀ (i j:Int) (t u:Tok) (s:qam) (Q:Value->qam->Prop) (E:Value->qam->Prop),Q (.bool (g i j)) s->wpAny (model X.prog X.w) X.A (f (.int i t) (.int j u)) Q E s) :
  OpR X f (rI0 λi j=>.bl (g i j)):=by
 intro pins s σ H x y v u Q I rx ry h
 obtain⟨i,j,rfl,rfl,q⟩:=h
 obtain⟨t,rfl⟩:=rx
 obtain⟨t',rfl⟩:=ry
 exact rule i j t t' s _ _ ⟨.bl (g i j),H,I,rfl,q⟩
def C4 (i j:Int):Prop:=0<j/\j<1073741824
def uf (i j:Int):Prop:=0<=j/\j<=1000000/\i.natAbs<2^64
def zi (i j:Int):Prop:=(-(2^64)<i/\i<2^64)\/(-(2^64)<j/\j<2^64)
theorem zi.ok {i j:Int} (h:zi i j):qfT i j:=by
 rcases h with⟨h1,h2⟩|⟨h1,h2⟩
 ·exact .of_left (intBits_le_64 h1 h2)
 ·exact .of_right (intBits_le_64 h1 h2)
theorem An:OpR X (qbC .Add) (rI0 λi j=>.int (i+j)):=B7 λ_ _ _ _ _ _ _ q=>add_int q
theorem AU:OpR X (qbC .Sub) (rI0 λi j=>.int (i - j)):=B7 λ_ _ _ _ _ _ _ q=>sub_int q
theorem yZ:OpR X (qbC .FloorDiv) (rI C4 λi j=>.int (i / j)):=opI λi j _ _ _ _ _ hc q=>by
 have h1:(0:Int)<j:=hc.1
 have h2:j<1073741824:=hc.2
 exact floordiv_int (by lia) (by rw[qeV i (by lia)];exact q) (.inl (PyProof.noPylong_small (by lia)))
theorem AX:OpR X (qbC .Mod) (rI (λ_ j=>0<j) λi j=>.int (i%j)):=opI λi j _ _ _ _ _ hc q=>by
 have h1:(0:Int)<j:=hc
 exact mod_int' (by lia) (by rw[Int.fmod_eq_emod_of_nonneg i (by lia)];exact q)
theorem Aj:OpR X (qbC .Pow) (rI uf λi j=>.int (i^j.toNat)):=opI λ_ _ _ _ _ _ _ hc q=>pow_int_small hc.1 hc.2.1 hc.2.2 q
theorem unI {f:Value->Sem Value}{g:Int->Int}
  (rule:∀ (i:Int) (t:Tok) (s:qam) (Q:Value->qam->Prop) (E:Value->qam->Prop),Q (.int (g i) s.toks) { s with toks:=s.toks+1 }->wpAny (model X.prog X.w) X.A (f (.int i t)) Q E s) :
  UnR X f (rU λi=>.int (g i)):=by
 intro pins s σ H x v Q I rx h
 obtain⟨i,rfl,q⟩:=h
 obtain⟨t,rfl⟩:=rx
 exact rule i t s _ _ ⟨.int (g i),H,I.tok _,⟨_,rfl⟩,q⟩
theorem AI:UnR X (unaryOp .USub) (rU λi=>.int (-i)):=unI λ_ _ _ _ _ q=>neg_int q
end
section
variable {X:Cx}{a b c:Expr}{ta tb tc:TE}{pos:Pos}
theorem tE {pins:List (Addr×Obj)}{σ:St}{H:Hp}{s:qam}{Q:VK}{k k':Bool} (I:Inv X pins σ H s) (q:Q (.bl k) H) (e:k=k'):EP X pins σ Q (.bool k') s:=by
 subst e
 exact⟨.bl k,H,I,rfl,q⟩
theorem BV:OpR X (qbv .Lt) (rI0 λi j=>.bl (decide (i<j))):=zr λ_ _ _ _ _ _ _ q=>lt_int q
theorem B0:OpR X (qbv .LtE) (rI0 λi j=>.bl (decide (i<=j))):=zr λ_ _ _ _ _ _ _ q=>le_int q
theorem CT:OpR X (qbv .Gt) (rI0 λi j=>.bl (decide (j<i))):=zr λ_ _ _ _ _ _ _ q=>gt_int q
theorem B4:OpR X (qbv .GtE) (rI0 λi j=>.bl (decide (j<=i))):=zr λ_ _ _ _ _ _ _ q=>ge_int q
theorem A6:OpR X (qbv .Is) (λx y H Q=>y=.non/\Q (.bl (decide (x=.non))) H):=by
 intro pins s σ H x y v u Q I rx ry h
 obtain⟨rfl,q⟩:=h
 cases ry
 refine is_none_gen (tE I q ?_)
 cases x<;>first
  |(cases rx;rfl)
  |(obtain⟨t,rfl⟩:=rx;rfl)
theorem za:OpR X (qbv .IsNot) (λx y H Q=>y=.non/\Q (.bl (!decide (x=.non))) H):=by
 intro pins s σ H x y v u Q I rx ry h
 obtain⟨rfl,q⟩:=h
 cases ry
 refine isnot_none_gen (tE I q ?_)
 cases x<;>first
  |(cases rx;rfl)
  |(obtain⟨t,rfl⟩:=rx;rfl)
theorem aZ (b:Expr) {op:CmpOp} (h:op≠.In:=by decide) (h2:op≠.NotIn:=by decide):qdb op b=false:=by
 have e1:(op==CmpOp.In)=false:=by cases op<;>first|rfl|exact absurd rfl h
 have e2:(op==CmpOp.NotIn)=false:=by cases op<;>first|rfl|exact absurd rfl h2
 cases b<;>simp[qdb,e1,e2]
theorem yE {op:CmpOp}{r:R2} (ho:OpR X (qbv op) r) (ha:PE X a ta) (hb:PE X b tb) (hm:qdb op b=false):PE X (.Compare a [op] [b] pos) (tOp r ta tb):=by
 intro pins s σ H Q I h
 exact wpAny_Compare1 (AW ha hb I h λv u s2 x y H2 I2 rx ry q=>ho pins s2 σ H2 x y v u Q I2 rx ry q) hm
def B5 (t:TE):TT:=λσ H Q=>t σ H λx H'=>∃ k,x=.bl k/\Q k H'
theorem yU {op:CmpOp}{r:R2} (ho:OpR X (qbv op) r) (ha:PE X a ta) (hb:PE X b tb) (hm:qdb op b=false):PT X (.Compare a [op] [b] pos) (B5 (tOp r ta tb)):=by
 intro pins s σ H Q I h
 refine wpAny_isTrue_Compare1 (thn (ha pins s σ H _ I h) λv s1 ⟨x,H1,I1,r1,q1⟩=>thn (hb pins s1 σ H1 _ I1 q1) λu s2 ⟨y,H2,I2,r2,q2⟩=>
  thn (ho pins s2 σ H2 x y v u _ I2 r1 r2 q2) λc s3 ⟨z,H3,I3,r3,k,e,q3⟩=>?_) hm
 subst e
 cases r3
 exact qc1 ⟨H3,I3,q3⟩
def zm (K:qad) (x:V) (H:Hp) (k:Bool):Prop:=
 match x with
 |.non=>k=false
 |.bl b=>k=b
 |.int i=>k=(i != 0)
 |.str y=>y.length<=qaS/\k=((y.length:Int) != 0)
 |.byt y=>y.size<=qaS/\k=((y.size:Int) != 0)
 |.ref p=>(∃ xs,SqL K H p xs/\k=!xs.isEmpty)\/(∃ xs,SqT K H p xs/\k=!xs.isEmpty)\/∃ kvs,H p=some (.dK kvs)/\k=!kvs.isEmpty
 |_=>False
theorem tj {κ:Type}{kvs:List (κ×V)}{vs:List (κ×Value)} (r:KV kvs vs):(!vs.isEmpty)=!kvs.isEmpty:=by
 cases r<;>rfl
theorem nE {xs:List V}{its:List Value} (r:bf xs its):(!its.toArray.isEmpty)=!xs.isEmpty:=by
 cases r<;>simp
theorem kK:(qaS:Nat)<2^63:=by rw[qdJ];decide
theorem A5:Dw X (λx H Q=>∃ k,zm X.K x H k/\Q k H):=by
 intro pins s σ H x v Q I rx h
 obtain⟨k,e,q⟩:=h
 have hl:=kK
 have hs:qaS=16777216:=qdJ
 cases x with
 |non=>
  cases rx
  have e':k=false:=e
  subst e'
  exact truthy_none ⟨H,I,q⟩
 |bl b=>
  cases rx
  have e':k=b:=e
  subst e'
  exact qc1 ⟨H,I,q⟩
 |int i=>
  obtain⟨t,rfl⟩:=rx
  have e':k=(i != 0):=e
  subst e'
  exact PySem.P.truthy_int ⟨H,I,q⟩
 |str y=>
  obtain⟨t,rfl⟩:=rx
  obtain⟨hy,e'⟩:y.length<=qaS/\k=((y.length:Int) != 0):=e
  subst e'
  exact PySem.P.truthy_str (by lia) ⟨H,I.tok _,q⟩
 |byt y=>
  obtain⟨t,rfl⟩:=rx
  obtain⟨hy,e'⟩:y.size<=qaS/\k=((y.size:Int) != 0):=e
  subst e'
  exact PySem.W.truthy_bytes (by lia) ⟨H,I.tok _,q⟩
 |ref p=>
  cases rx
  have e':(∃ xs,SqL X.K H p xs/\k=!xs.isEmpty)\/(∃ xs,SqT X.K H p xs/\k=!xs.isEmpty)\/∃ kvs,H p=some (.dK kvs)/\k=!kvs.isEmpty:=e
  rcases e' with⟨xs,hx,e'⟩|⟨xs,hx,e'⟩|⟨kvs,hx,e'⟩
  ·subst e'
   obtain⟨its,r,pl,hz⟩:=I.list hx
   have hlen:=r.length
   exact wpAny_truthy_list pl.isList (by simp only[qaz];lia) ⟨H,I.tok _,by rw[nE r];exact q⟩
  ·subst e'
   obtain⟨its,r,pl,hz⟩:=I.tuple hx
   have hlen:=r.length
   exact truthy_tuple pl (by simp only[qaz];lia) ⟨H,I.tok _,by rw[nE r];exact q⟩
  ·subst e'
   obtain⟨hz,hS,vs,r,m⟩:kvs.length<=qaS/\(p==qgR)=false/\∃ vs,KV kvs vs/\s.heap.DictOf (qi X.prog X.w) p vs:=I.hok p _ hx
   have hlen:kvs.length=vs.length:=qgm r
   exact wpAny_truthy_dict hS m (by lia) ⟨H,I.tok _,by rw[tj r];exact q⟩
 |_=>exact (show False from e).elim
theorem wT (ha:PE X a ta) (he:∀ whole,qh2 a X.env whole=(do let v <-whole;qh0 a.pos;qeL [v] (truthy v))) :
  PT X a (λσ H Q=>ta σ H λx H'=>∃ k,zm X.K x H' k/\Q k H'):=by
 intro pins s σ H Q I h
 exact isTrue_plain (thn (ha pins s σ H _ I h) λv s1 ⟨x,H1,I1,r1,q1⟩=>A5 pins s1 σ H1 x v Q I1 r1 q1) (he _)
theorem uj:OpR X (qbC .Add) (λx y H Q=>∃ i j,x=.str i/\y=.str j/\i.length+j.length<=qaS/\Q (.str (i++j)) H):=by
 intro pins s σ H x y v u Q I rx ry h
 obtain⟨i,j,rfl,rfl,hz,q⟩:=h
 obtain⟨t,rfl⟩:=rx
 obtain⟨t',rfl⟩:=ry
 exact add_str (λt' tk=>⟨.str (i++j),H,I.tok _,⟨_,rfl⟩,q⟩) hz
theorem nu {x:V}{us:List Value} (r:bf [x] us):∃ u,us=[u]/\bJ x u:=by
 cases r with
 |cons r1 r2=>cases r2;exact⟨_,rfl,r1⟩
theorem Cg {x y:V}{us:List Value} (r:bf [x,y] us):∃ u w',us=[u,w']/\bJ x u/\bJ y w':=by
 cases r with
 |cons r1 r2=>
  cases r2 with
  |cons r3 r4=>cases r4;exact⟨_,_,rfl,r1,r3⟩
theorem ye:dD X (.builtin "abs") (λxs H Q=>∃ i,xs=[.int i]/\Q (.int (if i<0 then -i else i)) H):=by
 intro pins s σ H xs us Q I r h
 obtain⟨i,rfl,q⟩:=h
 obtain⟨u,rfl,t,rfl⟩:=nu r
 exact call_abs_int λu tk=>⟨.int (if i<0 then -i else i),H,I.tok _,⟨_,rfl⟩,q⟩
theorem wm (hc:X.calm=true):dD X (.builtin "min") (λxs H Q=>∃ i j,xs=[.int i,.int j]/\Q (.int (if j<i then j else i)) H):=by
 intro pins s σ H xs us Q I r h
 obtain⟨i,j,rfl,q⟩:=h
 obtain⟨u,w',rfl,⟨t,rfl⟩,⟨t',rfl⟩⟩:=Cg r
 refine min_two_ints (I.ok.hd hc) λh' tk k=>⟨_,H,I.kept k,?_,q⟩
 by_cases hj:j<i
 ·rw[if_pos hj,if_pos hj];exact⟨_,rfl⟩
 ·rw[if_neg hj,if_neg hj];exact⟨_,rfl⟩
theorem pb:dD X (.type "int") (λxs H Q=>(∃ i,xs=[.int i]/\Q (.int i) H)\/∃ k,xs=[.bl k]/\Q (.int (if k then 1 else 0)) H):=by
 intro pins s σ H xs us Q I r h
 rcases h with⟨i,rfl,q⟩|⟨k,rfl,q⟩
 ·obtain⟨u,rfl,t,rfl⟩:=nu r
  exact call_int_int ⟨.int i,H,I,⟨_,rfl⟩,q⟩
 ·obtain⟨u,rfl,r1⟩:=nu r
  cases r1
  exact call_int_bool ⟨.int (if k then 1 else 0),H,I.tok _,⟨_,rfl⟩,q⟩
end
structure vX (h:Heap) (x dx C:Addr) (mA:Str->Option Value):Prop where
 obj:h.get? x=some (qb1 C dx)
 ns:h.Ns1 dx mA
 ne:dx≠x
theorem vK {h:Heap}{dx:Addr}{mA:Str->Option Value} (n:h.Ns1 dx mA):∃ od,h.get? dx=some od/\∀ name,qeC name od=some (mA name):=by
 obtain⟨o,es,ep,ho,hd,hk,_,hm⟩:=n
 refine⟨o,ho,λname=>?_⟩
 have e:=hm name
 unfold nsFind findBy at e
 rw[<-Array.find?_toList]at e
 unfold qeC
 rw[hd]
 dsimp only
 split
 ·rename_i y q
  rw[q]at e
  exact congrArg some e
 ·rename_i q
  rw[q]at e
  have a:es.toList.any (·.refKey)=false:=by
   rw[qf4]
   intro y hy
   obtain⟨z,t,hkey⟩:=hk y (Array.mem_toList_iff.mp hy)
   simp[DictEntry.refKey,hkey]
  have a':¬ es.toList.any (·.refKey)=true:=by rw[a];exact qaH
  rw[if_neg a']
  exact congrArg some e
theorem vX.look {h:Heap}{x dx C:Addr}{mA:Str->Option Value} (I:vX h x dx C mA):∃ od,PySem.W.InstAt h x (qb1 C dx) C (some od)/\∀ name,qeC name od=some (mA name):=
 let ⟨od,ho,hl⟩:=vK I.ns
 ⟨od,⟨I.obj,rfl,rfl,ho⟩,hl⟩
section
variable {prog:qa5}{w:World}{A:qbd}{E:Value->qam->Prop}{s:qam}{K:qad}{x dx C f:Addr}{mA:Str->Option Value}{name:Str}{v:Value}
theorem zz {expr:Bool}{Q:Value->qam->Prop} (X:K.In s.heap) (I:vX s.heap x dx C mA) (hg:qdr K C name=true) (hh:qdc K C=true)
  (ha:qbf K (.ref C) name=some none) (hv:mA name=some v) (hv':qfz v=true) (h:Q v { s with toks:=s.toks+1 }) :
  wpAny (model prog w) A (getAttr (.ref x) name expr) Q E s:=by
 obtain⟨od,J,hl⟩:=I.look
 exact PySem.W.get_value X J (PySem.W.plainGet_of hg).1 (PySem.W.findObj_own hh ha rfl (by rw[hl,hv])) hv' h
theorem pB {ns:List Str}{Q:Unit->qam->Prop} (X:K.In s.heap) (I:vX s.heap x dx C mA)
  (hs:qbf K (.ref C) "__setattr__" = some (some (.builtin "object.__setattr__"))) (hp:qd4 K C=true) (ht:qeo K C name=some none) (hh:qdc K C=true)
  (hw:qfc mA ns) (hsz:ns.length<=qaS)
  (h:∀ h',vX h' x dx C (λy=>if y=name then some v else mA y)->qdf dx s.heap h'->Q () { s with heap:=h',toks:=s.toks+2 }) :
  wpAny (model prog w) A (setAttr (.ref x) name v) Q E s:=by
 obtain⟨od,J,hl⟩:=I.look
 refine PySem.W.set_plain X J hs (PySem.W.osa_open (s:={ s with toks:=s.toks+1 }) (r:=none) X J hp ht λb=>?_)
 obtain⟨cd,hc,hd'⟩:=PySem.W.any_some hh
 have hx:s.heap.get? x=some ⟨.ref C,some dx,.plain,#[]⟩:=I.obj
 refine qag (qaE (qag (qag (wpAny_loadPart hx (qag (qgU (s:={ s with toks:=s.toks+1 }) (PySem.W.looks_clsIn X hc) ?_))))))
 rw[hd']
 refine qaE (a:=some dx) (qag (qaE (qag ?_)))
 refine wpAny_nsSet1 (s:={ s with toks:=s.toks+1 }) I.ns λh' hn2 hs2=>?_
 obtain⟨oD,esD,epD,hoD,hdD,hcD⟩:=hn2.count (qhJ name v hw)
 refine qag (wpAny_lookBehind hoD (by rw[hdD];exact pastItsLine_dict (qa6 hcD (by rw[qat];lia))) ?_)
 exact qaE (h _ ⟨(hs2.2 _ (qbu I.ne)).trans I.obj,hn2,I.ne⟩ hs2)
theorem yb {R:Result->qam->Prop}{vs:List Value}{kw:List (Str×Value)} (X:K.In s.heap) (hm:qep K C=true)
  (hi:qbf K (.ref C) "__init__" = some (some (.ref f))) (hf:PySem.W.typeIn K (.ref f)=some (.type "function"))
  (h:qem (model prog w) (A.under (.builtin "type.__call__" ⟨.ref C::vs,kw⟩)) (.call (.ref f) ⟨.ref (s.heap.objs.size+1)::vs,kw⟩) (PySem.W.InitBack (s.heap.objs.size+1) R)
    { s with heap:=(s.heap.push qbJ).push (qb1 C s.heap.objs.size) }) :
  qem (model prog w) A (.call (.ref C) ⟨vs,kw⟩) R s:=by
 obtain⟨hh,g,d,t,os⟩:=s
 exact PySem.W.make_core (PySem.W.makes_of X hm) (PySem.W.looks_findIn X hi) (λself=>PySem.W.bind_fn X self hf) (.inl rfl) h
end
def iF (f:Str) (v:V):List (Str×V)->List (Str×V)
 |[]=>[(f,v)]
 |(g,x)::r=>if g=f then (g,v)::r else (g,x)::iF f v r
theorem ma (f g:Str) (v:V):∀ fs:List (Str×V),(iF f v fs).lookup g=if g=f then some v else fs.lookup g
 |[]=>by
  show qc4 g [(f,v)]=_
  by_cases h:g=f
  ·have hb:(g==f)=true:=beq_iff_eq.mpr h
   simp only[qc4,hb,if_pos h]
  ·have hb:(g==f)=false:=beq_eq_false_iff_ne.mpr h
   simp only[qc4,hb,if_neg h]
 |(k,x)::r=>by
  have ih:=ma f g v r
  rw[show iF f v ((k,x)::r)=(if k=f then (k,v)::r else (k,x)::iF f v r) from rfl]
  by_cases hk:k=f
  ·rw[if_pos hk]
   by_cases h:g=k
   ·have hb:(g==k)=true:=beq_iff_eq.mpr h
    simp only[qc4,hb,if_pos (h.trans hk)]
   ·have hb:(g==k)=false:=beq_eq_false_iff_ne.mpr h
    simp only[qc4,hb,if_neg (λe:g=f=>h (e.trans hk.symm))]
  ·rw[if_neg hk]
   by_cases h:g=k
   ·have hb:(g==k)=true:=beq_iff_eq.mpr h
    simp only[qc4,hb,if_neg (λe:g=f=>hk (h.symm.trans e))]
   ·have hb:(g==k)=false:=beq_eq_false_iff_ne.mpr h
    simp only[qc4,hb]
    exact ih
theorem lB (f:Str) (v:V):∀ fs:List (Str×V),f∈(iF f v fs).map (·.1)/\∀ g,g∈fs.map (·.1)->g∈(iF f v fs).map (·.1)
 |[]=>⟨by simp[iF],λg h=>by simp at h⟩
 |(k,x)::r=>by
  obtain⟨i1,i2⟩:=lB f v r
  rw[show iF f v ((k,x)::r)=(if k=f then (k,v)::r else (k,x)::iF f v r) from rfl]
  by_cases hk:k=f
  ·rw[if_pos hk]
   subst hk
   exact⟨by simp,λg h=>by simpa using h⟩
  ·rw[if_neg hk]
   refine⟨?_,λg h=>?_⟩
   ·rw[qay]
    exact qal _ i1
   ·rw[qay]at h ⊢
    rcases qaP.mp h with e|e
    ·exact qaP.mpr (.inl e)
    ·exact qal _ (i2 g e)
theorem lT (f:Str) (v:V):∀ fs:List (Str×V),(iF f v fs).length<=fs.length+1
 |[]=>by simp[iF]
 |(k,x)::r=>by
  have ih:=lT f v r
  rw[show iF f v ((k,x)::r)=(if k=f then (k,v)::r else (k,x)::iF f v r) from rfl]
  by_cases hk:k=f
  ·rw[if_pos hk,qat,qat];lia
  ·rw[if_neg hk,qat,qat];lia
theorem tU.some_of {v:V}{o:Option Value} (r:tU (some v) o):∃ u,o=some u/\bJ v u:=by
 cases o with
 |none=>exact (show False from r).elim
 |some u=>exact⟨u,rfl,r⟩
theorem v5 {v:V}{u:Value} (r:bJ v u):qfz u=true:=by
 cases v with
 |non=>cases (show u=Value.none from r);rfl
 |bl b=>cases (show u=Value.bool b from r);rfl
 |int i=>obtain⟨t,e⟩:=(show ∃ t,u=Value.int i t from r);cases e;rfl
 |str x=>obtain⟨t,e⟩:=(show ∃ t,u=Value.str x t from r);cases e;rfl
 |byt b=>obtain⟨t,e⟩:=(show ∃ t,u=Value.bytes b t from r);cases e;rfl
 |flt b=>obtain⟨t,e⟩:=(show ∃ t,u=Value.float b t from r);cases e;rfl
 |ref a=>cases (show u=Value.ref a from r);rfl
 |ty n=>cases (show u=Value.type n from r);rfl
section
variable {P:qa5}{w:World}{H H':Hp}{h h':Heap}{a C dx:Addr}{fs fs':List (Str×V)}
theorem qO (hok:HOk P w H h) (e:H a=some (.ins C dx fs)):∃ mA,vX h a dx C mA/\(∀ f,tU (fs.lookup f) (mA f))/\qfc mA (fs.map (·.1))/\fs.length<=1000/\H dx=some (.own a):=by
 obtain⟨d,z,ne,ob,mA,n,r,q⟩:=(show dl P w H h a (.ins C dx fs) from hok a _ e)
 exact⟨mA,⟨ob,n,ne⟩,r,q,z,d⟩
end
structure Cls (K:qad) (C:Addr):Prop where
 pg:qdr K C Str.empty=true
 hd:qdc K C=true
 po:qd4 K C=true
 sa:qbf K (.ref C) "__setattr__" = some (some (.builtin "object.__setattr__"))
theorem Cls.get {K:qad}{C:Addr} (c:Cls K C) (f:Str):qdr K C f=true:=c.pg
def dM (K:qad) (C:Addr) (f:Str):Prop:=qbf K (.ref C) f=some none
theorem dM.taker {K:qad}{C:Addr}{f:Str} (n:dM K C f):qeo K C f=some none:=by
 unfold qeo
 rw[show qbf K (.ref C) f=some none from n]
 rfl
section
variable {X:Cx}{pins:List (Addr×Obj)}{σ:St}{H:Hp}{s:qam}{a C dx:Addr}{fs:List (Str×V)}{f:Str}{v:V}{A:qbd}{E:Value->qam->Prop}
theorem sS {b:Bool}{Q:Value->qam->Prop} (I:Inv X pins σ H s) (e:H a=some (.ins C dx fs)) (c:Cls X.K C) (n:dM X.K C f) (l:fs.lookup f=some v)
  (h:∀ u s',Inv X pins σ H s'->bJ v u->Q u s'):wpAny (model X.prog X.w) A (getAttr (.ref a) f b) Q E s:=by
 obtain⟨mA,O,r,_,_,_⟩:=qO I.hok e
 obtain⟨u,hu,ru⟩:=tU.some_of (v:=v) (o:=mA f) (by rw[<-l];exact r f)
 exact zz I.kIn O (c.get f) c.hd n hu (v5 ru) (h u _ (I.tok _) ru)
theorem ut {y:V}{u:Value}{Q:Unit->qam->Prop} (I:Inv X pins σ H s) (e:H a=some (.ins C dx fs)) (c:Cls X.K C) (n:dM X.K C f) (hl:fs.length<1000) (ry:bJ y u)
  (h:∀ s',Inv X pins σ (upd H a (.ins C dx (iF f y fs))) s'->Q () s'):wpAny (model X.prog X.w) A (setAttr (.ref a) f u) Q E s:=by
 obtain⟨mA,O,r,wi,_,ho⟩:=qO I.hok e
 have hz:(fs.map (·.1)).length<=qaS:=by rw[qai,qdJ];lia
 refine pB I.kIn O c.sa c.po n.taker c.hd wi hz λh' O' sb=>h _ ?_
 have hd:∃ o,h'.get? dx=some o:=let ⟨o,_,_,e',_⟩:=O'.ns;⟨o,e'⟩
 refine I.write (x:=a) (e:=dx) (by rw[e];exact True.intro) (.inr ho) (λb q hb z=>(sb.2 b hb).trans z) hd ?_
 refine⟨by rw[upd_ne O.ne];exact ho,?_,O.ne,O'.obj,_,O'.ns,λg=>?_,λg hg=>?_⟩
 ·have:=lT f y fs;lia
 ·show tU ((iF f y fs).lookup g) (if g=f then some u else mA g)
  rw[ma]
  by_cases q:g=f
  ·rw[if_pos q,if_pos q];exact ry
  ·rw[if_neg q,if_neg q];exact r g
 ·by_cases q:g=f
  ·rw[q];exact (lB f y fs).1
  ·refine (lB f y fs).2 g (wi g λz=>hg ?_)
   show (if g=f then some u else mA g)=none
   rw[if_neg q];exact z
theorem Inv.made (I:Inv X pins σ H s):Inv X pins σ (upd (upd H s.heap.objs.size (.own (s.heap.objs.size+1))) (s.heap.objs.size+1) (.ins C s.heap.objs.size []))
  { s with heap:=(s.heap.push qbJ).push (qb1 C s.heap.objs.size) }:=by
 have e1:(s.heap.push qbJ).get? s.heap.objs.size=some qbJ:=qaI s.heap rfl
 have e2:((s.heap.push qbJ).push (qb1 C s.heap.objs.size)).get? (s.heap.objs.size+1)=some (qb1 C s.heap.objs.size):=by
  have:=qaI (s.heap.push qbJ) (o:=qb1 C s.heap.objs.size) rfl
  rwa [qbi]at this
 have e3:(s.heap.push qbJ).Ns s.heap.objs.size (λ_=>none):=⟨qbJ,#[],_,e1,rfl,(λe he=>absurd he (by simp)),λ_=>rfl⟩
 have I1:=I.laid (a:=s.heap.objs.size) (o:=.own (s.heap.objs.size+1)) (h':=s.heap.push qbJ) (t':=s.toks) (λb u q=>qak _ q) (qan _) ⟨_,e1⟩
 refine I1.laid (a:=s.heap.objs.size+1) (o:=.ins C s.heap.objs.size []) (t':=s.toks) (λb u q=>qak _ q) (qcB (qbi _ _)) ?_
 have ne:s.heap.objs.size≠s.heap.objs.size+1:=qaW (qbI _)
 refine⟨by rw[upd_ne ne,upd_same],qb2 _,ne,e2,λ_=>none,(Heap.Ns1.of_empty e3).at λo q=>qak _ q,λ_=>True.intro,λy hy=>absurd rfl hy⟩
theorem zq {prog:qa5}{w:World}{env:Env}{e:Expr}{f:Str}{pos:Pos}{s:qam}{Q:Value->qam->Prop} (hb:qcs e f env (eval e env)=eval e env)
  (h:wpAny (model prog w) A (eval e env) (λo s₁=>wpAny (model prog w) A (getAttr o f true) Q E s₁) E s):wpAny (model prog w) A (eval (.Attribute e f pos) env) Q E s:=
 Attribute_any_ h (by rw[arm_eval_Attribute,hb])
end
def Du (K:qad) (ta:TE) (f:Str):TE:=λσ H Q=>ta σ H λx H1=>∃ a C dx fs v,x=.ref a/\H1 a=some (.ins C dx fs)/\Cls K C/\dM K C f/\fs.lookup f=some v/\Q v H1
def C7 (K:qad) (ta tv:TE) (f:Str):TS:=λD σ H=>tv σ H λy H1=>ta σ H1 λx H2=>∃ a C dx fs,x=.ref a/\H2 a=some (.ins C dx fs)/\Cls K C/\dM K C f/\fs.length<1000/\
 D.nx σ (upd H2 a (.ins C dx (iF f y fs)))
section
variable {X:Cx}{o e value:Expr}{f:Str}{pos pos' tpos:Pos}{ta tv:TE}
theorem Al (he:PE X e ta) (hb:qcs e f X.env (eval e X.env)=eval e X.env):PE X (.Attribute e f pos) (Du X.K ta f):=by
 intro pins s σ H Q I h
 refine zq hb (thn (he pins s σ H _ I h) λu s1 ⟨x,H1,I1,rx,a,C,dx,fs,v,ex,ea,c,n,l,q⟩=>?_)
 subst ex
 obtain rfl:u=Value.ref a:=rx
 exact sS I1 ea c n l λu' s2 I2 ru=>⟨v,H1,I2,ru,q⟩
theorem xS (ha:PE X o ta) (hv:PE X value tv) (hs:qcC value (some (.Attribute o f pos')) pos.line X.env=pure false):PS X (.Assign [.Attribute o f pos'] value pos) (C7 X.K ta tv f):=by
 intro pins s σ H D I h
 refine plainObj_wpAny_Assign_Attribute (thn (hv pins s σ H _ I h) λu s1 ⟨y,H1,I1,ry,q⟩=>thn (ha pins s1 σ H1 _ I1 q) λov s2 ⟨x,H2,I2,rx,a,C,dx,fs,ex,ea,c,n,l,q2⟩=>?_) hs
 subst ex
 obtain rfl:ov=Value.ref a:=rx
 exact ut I2 ea c n l ry λs3 I3=>⟨σ,_,I3,q2⟩
end
section
variable {X:Cx}{pins:List (Addr×Obj)}{σ:St}{H:Hp}{s:qam}{A:qbd}{E:Value->qam->Prop}{Q:Value->qam->Prop}{c:Value}{b:Bool}
inductive mt (K:qad) (H:Hp):V->Value->Prop where
 |non:mt K H .non (.type "NoneType")
 |bl (x:Bool):mt K H (.bl x) (.type "bool")
 |int (i:Int):mt K H (.int i) (.type "int")
 |str (x:Str):mt K H (.str x) (.type "str")
 |flt (x:UInt64):mt K H (.flt x) (.type "float")
 |lst {a:Addr}{xs:List V} (e:H a=some (.lst xs)):mt K H (.ref a) (.type "list")
 |frz {a:Addr}{o:Obj}{xs:List V} (e:H a=some (.frz o (.lst xs))):mt K H (.ref a) (.type "list")
 |tup {a:Addr}{xs:List V} (e:H a=some (.tup xs)):mt K H (.ref a) (.type "tuple")
 |dK {a:Addr}{kvs:List (Key×V)} (e:H a=some (.dK kvs)):mt K H (.ref a) (.type "dict")
 |dT {a:Addr}{kvs:List (List Key×V)} (e:H a=some (.dT kvs)):mt K H (.ref a) (.type "dict")
 |ins {a C dx:Addr}{fs:List (Str×V)} (e:H a=some (.ins C dx fs)) (cl:Cls K C) (ha:qbf K (.ref C) "__class__" = some (some (.builtin "object.__class__")))
   (hn:PySem.W.specialIn K (.builtin "object.__class__") "__get__" = some (some (.builtin "getset_descriptor.__get__"))) (htk:PySem.W.takesIn K (.builtin "object.__class__")=some true)
   (hm:PySem.W.mroIn K C (.type "object")=some true):mt K H (.ref a) (.ref C)
theorem dC {x:V}{u t:Value} (I:Inv X pins σ H s) (rx:bJ x u) (ty:mt X.K H x t) (e:qf1 X.K t c=some b) (h:∀ tk,Q (.bool b) { s with toks:=tk }) :
  wpAny (model X.prog X.w) A (call (.builtin "isinstance") [u,c]) Q E s:=by
 cases ty with
 |non=>cases (show u=Value.none from rx);exact qbt PySem.W.kitx_none I.kIn True.intro e (λz=>nomatch z) h
 |bl y=>cases (show u=Value.bool y from rx);exact qbt PySem.W.kitx_bool I.kIn True.intro e (λz=>nomatch z) h
 |int i=>obtain⟨t,q⟩:=(show ∃ t,u=Value.int i t from rx);cases q;exact qbt PySem.W.kitx_int I.kIn True.intro e (λz=>nomatch z) h
 |str y=>obtain⟨t,q⟩:=(show ∃ t,u=Value.str y t from rx);cases q;exact qbt PySem.W.kitx_str I.kIn True.intro e (λz=>nomatch z) h
 |flt y=>obtain⟨t,q⟩:=(show ∃ t,u=Value.float y t from rx);cases q;exact qbt PySem.W.kitx_float I.kIn True.intro e (λz=>nomatch z) h
 |@lst a xs ea=>
  cases (show u=Value.ref a from rx)
  obtain⟨_,_,n,_,h1⟩:=(show dl X.prog X.w H s.heap a (.lst xs) from I.hok a _ ea)
  exact qbt qfp I.kIn ⟨_,h1,rfl⟩ e (λz=>nomatch z) h
 |@frz a ob xs ea=>
  cases (show u=Value.ref a from rx)
  obtain⟨_,_,_,n,_,h1⟩:=(show dl X.prog X.w H s.heap a (.frz ob (.lst xs)) from I.hok a _ ea)
  exact qbt qfp I.kIn ⟨_,h1,rfl⟩ e (λz=>nomatch z) h
 |@tup a xs ea=>
  cases (show u=Value.ref a from rx)
  obtain⟨_,_,_,p⟩:=(show dl X.prog X.w H s.heap a (.tup xs) from I.hok a _ ea)
  obtain⟨o,h1,h2,_⟩:=p
  exact qbt qfj I.kIn ⟨o,h1,h2⟩ e (λz=>nomatch z) h
 |@dK a kvs ea=>
  cases (show u=Value.ref a from rx)
  obtain⟨_,_,vs,_,p⟩:=(show dl X.prog X.w H s.heap a (.dK kvs) from I.hok a _ ea)
  obtain⟨o,es,ep,h1,h2,_⟩:=p
  exact qbt qfq I.kIn ⟨o,h1,h2.1⟩ e (λz=>nomatch z) h
 |@dT a kvs ea=>
  cases (show u=Value.ref a from rx)
  obtain⟨_,_,xs,_,o,es,ep,h1,h2,_⟩:=(show dl X.prog X.w H s.heap a (.dT kvs) from I.hok a _ ea)
  exact qbt qfq I.kIn ⟨o,h1,h2.1⟩ e (λz=>nomatch z) h
 |@ins a C dx fs ea cl ha hn htk hm=>
  cases (show u=Value.ref a from rx)
  obtain⟨mA,O,_⟩:=qO I.hok ea
  obtain⟨od,J,_⟩:=O.look
  exact qbt (PySem.W.kitx_own (cl.get _) cl.hd ha hn htk hm) I.kIn J e (λz=>nomatch z) h
end
structure dN (k:Nat) (A:qbd):Prop where
 hd:A.handled=none
 dp:A.depth+3*k+5<qh8
 un:A.units+16*k+200<cLine
 gd:A.guards=some []
theorem dN.mono {j k:Nat}{A:qbd} (r:dN k A) (h:j<=k):dN j A:=⟨r.hd,by have:=r.dp;lia,by have:=r.un;lia,r.gd⟩
theorem dN.deeper {k:Nat}{A:qbd} (r:dN (k+1) A) (env:Env):dN k (A.deeper env):=
 ⟨r.hd,by have:=r.dp;show A.depth+1+3*k+5<_;lia,by have:=r.un;show A.units+3+16*k+200<_;lia,r.gd⟩
theorem tK {A:qbd}{C:Addr}{us:List Value}{kw:List (Str×Value)}:(A.under (.builtin "type.__call__" ⟨.ref C::us,kw⟩)).depth=A.depth+1:=by
 first|rfl|simp[qei,Code.weight,Code.isCreation,qgZ,Code.isCaller,qhZ,qfn,guardIds]
theorem tZ {A:qbd}{C:Addr}{us:List Value}{kw:List (Str×Value)}:(A.under (.builtin "type.__call__" ⟨.ref C::us,kw⟩)).units=A.units+1:=by
 first|rfl|simp[qei,Code.cUnits,qhZ,qfn]
theorem dN.make {k:Nat}{A:qbd} (r:dN (k+1) A) (C:Addr) (us:List Value) (kw:List (Str×Value)):dN k (A.under (.builtin "type.__call__" ⟨.ref C::us,kw⟩)):=
 ⟨r.hd,by have:=r.dp;rw[tK];lia,by have:=r.un;rw[tZ];lia,by
  unfold qei
  simp[r.gd,pushGuards,Code.guards,qgZ,guardIds]⟩
theorem dN.depth {k:Nat}{A:qbd} (r:dN k A):A.depth<qh8:=by have:=r.dp;lia
theorem dN.units0 {k:Nat}{A:qbd} (r:dN k A):A.units<cLine:=by have:=r.un;lia
def CY:TA:=λ_ H Q=>Q [] H
def BY (ta:TE) (tr:TA):TA:=λσ H Q=>ta σ H λx H1=>tr σ H1 λxs H2=>Q (x::xs) H2
section
variable {X:Cx}{e:Expr}{es:List Expr}{te:TE}{t:TA}{pos:Pos}
theorem qL:PA X [] CY:=λ_ _ _ _ H Q I h=>Calls.spliced_nil ⟨[],H,I,.nil,h⟩
theorem mK (ha:PE X e te) (hr:PA X es t) (hs:qbl (e::es) X.env=(false,eval e X.env)::qbl es X.env:=by rfl):PA X (e::es) (BY te t):=by
 intro pos pins s σ H Q I h
 rw[hs]
 show wpAny _ _ (spliced ((false,eval e X.env)::qdM pos (qbl es X.env))) _ _ s
 refine Calls.spliced_cons (thn (ha pins s σ H _ I h) λu s1 ⟨x,H1,I1,r1,q1⟩=>?_)
 exact thn (hr pos pins s1 σ H1 _ I1 q1) λus s2 ⟨xs,H2,I2,r2,q2⟩=>⟨x::xs,H2,I2,.cons r1 r2,q2⟩
def Ds (t:TA):TE:=λσ H Q=>t σ H λxs H1=>xs.length<=qaS/\∀ p,H1 p=none->Q (.ref p) (upd H1 p (.tup xs))
def Da (t:TA):TE:=λσ H Q=>t σ H λxs H1=>xs.length<=qaS/\∀ p,H1 p=none->Q (.ref p) (upd H1 p (.lst xs))
theorem Bx {x1} (h:PA X es t):PE X (.Tuple es x1 pos) (Ds t):=by
 intro pins s σ H Q I hq
 refine wpAny_Tuple_spliced (thn (h pos pins s σ H _ I hq) λus s1 ⟨xs,H1,I1,r,z,q⟩=>⟨by rw[<-r.length];exact z,?_⟩)
 have hf:H1 s1.heap.objs.size=none:=I1.hok.fresh (qan _)
 refine⟨.ref s1.heap.objs.size,upd H1 s1.heap.objs.size (.tup xs),I1.laid (t':=s1.toks) (λb u e=>qak _ e) (qan _) ?_,rfl,q _ hf⟩
 exact⟨z,us,r,eL.new _ _⟩
theorem Av (h:PA X es t):PE X (.List es pos) (Da t):=by
 intro pins s σ H Q I hq
 refine wpAny_List_spliced (thn (h pos pins s σ H _ I hq) λus s1 ⟨xs,H1,I1,r,z,q⟩=>⟨by rw[<-r.length];exact z,?_⟩)
 have hf:H1 s1.heap.objs.size=none:=I1.hok.fresh (qan _)
 refine⟨.ref s1.heap.objs.size,upd H1 s1.heap.objs.size (.lst xs),I1.laid (t':=s1.toks) (λb u e=>qak _ e) (qan _) ?_,rfl,q _ hf⟩
 exact⟨z,us,0,r,qaI _ rfl⟩
end
abbrev Sp:=List V->Hp->VK->XK->Prop
abbrev CXT:=List Env->Hp->qam->XK->Value->qam->Prop
structure um (P:qa5) (w:World) (K:qad) (mg:Str->Option Value) (base:Heap) (A:qbd) (outer:List Env) (s:qam) (H:Hp):Prop where
 frames:A.frames=some outer
 mod:Mod K mg base
 bs:∀ b o,base.get? b=some o->s.heap.get? b=some o/\H b=none
 bsz:base.objs.size<=s.heap.objs.size
 funs:s.heap.FunFrames base outer
 frf:∀ b∈frs outer,H b=none
 hok:HOk P w H s.heap
 bare:qet s.gens
def CE (outer:List Env) (P:qa5) (w:World) (H:Hp) (s:qam) (Q:VK) (u:Value) (s':qam):Prop:=
 ∃ v H',s'.os=s.os/\qet s'.gens/\Un (frs outer) [] H H' s.heap s'.heap/\HOk P w H' s'.heap/\bJ v u/\Q v H'
def CR (CX:CXT) (outer:List Env) (P:qa5) (w:World) (H:Hp) (s:qam) (Q:VK) (E:XK) (r:Result) (s':qam):Prop:=
 match r with
 |.ok (.ret u)=>CE outer P w H s Q u s'
 |.ok _=>False
 |.error e=>CX outer H s E e s'
structure bW (P:qa5) (w:World) (K:qad) (mg:Str->Option Value) (base:Heap) (CX:CXT) (k:Nat) (f:Addr) (fd:qaX) (ps:List Str) (sp:Sp):Prop where
 len:∀ vs H Q E,sp vs H Q E->vs.length=ps.length
 run:∀ (A:qbd) (outer:List Env) (s:qam) (H:Hp) (args:Args) (us:List Value) (vs:List V) (Q:VK) (E:XK),dN k A->um P w K mg base A outer s H->qfX s fd args (ps.zip us)->bf vs us->sp vs H Q E->
  qem (model P w) A (.call (.ref f) args) (CR CX outer P w H s Q E) s
theorem bW.mono {P:qa5}{w:World}{K:qad}{mg:Str->Option Value}{base:Heap}{CX:CXT}{j k:Nat}{f:Addr}{fd:qaX}{ps:List Str}{sp:Sp} (F:bW P w K mg base CX j f fd ps sp) (h:j<=k) :
  bW P w K mg base CX k f fd ps sp:=⟨F.len,λA outer s H args us vs Q E hr=>F.run A outer s H args us vs Q E (hr.mono h)⟩
theorem um.make {P:qa5}{w:World}{K:qad}{mg:Str->Option Value}{base:Heap}{A:qbd}{outer:List Env}{s:qam}{H:Hp} (e:um P w K mg base A outer s H) (C:Addr) (us:List Value) (kw:List (Str×Value)) :
  um P w K mg base (A.under (.builtin "type.__call__" ⟨.ref C::us,kw⟩)) outer s H:=⟨by first|exact e.frames|(simpa [qei,Code.envs,qfn,pushEnvs] using e.frames),e.mod,e.bs,e.bsz,e.funs,e.frf,e.hok,e.bare⟩
section
variable {X:Cx}{pins:List (Addr×Obj)}{σ:St}{H:Hp}{s s':qam}
theorem Inv.env0 (I:Inv X pins σ H s):um X.prog X.w X.K X.mg X.base X.A X.stack s H:=
 ⟨I.ok.frames,I.ok.mod,I.bs,qa6 I.ok.bsz I.sz,I.stack,I.stkFree,I.hok,I.bare⟩
theorem Inv.after {Q:VK}{u:Value} (I:Inv X pins σ H s) (h:CE X.stack X.prog X.w H s Q u s'):EP X pins σ Q u s':=by
 obtain⟨v,H',os,bare,un,hok,r,q⟩:=h
 obtain⟨hh,g,d,t,os'⟩:=s'
 obtain rfl:os'=s.os:=os
 exact⟨v,H',I.call (h':=hh) (g':=g) (d':=d) (t':=t) (ch:=[]) un hok bare (λb z=>absurd z (by simp)),r,q⟩
end
def B3 (sp:Sp) (dvs:List V) (E:XK) (t:TA):TE:=λσ H Q=>t σ H λvs H1=>sp (vs++dvs) H1 Q E
def Ci (C:Addr) (sp:Sp) (dvs:List V) (E:XK) (t:TA):TE:=λσ H Q=>t σ H λvs H1=>∀ x dx,H1 x=none->H1 dx=none->dx≠x->
 sp (.ref x::(vs++dvs)) (upd (upd H1 dx (.own x)) x (.ins C dx [])) (λv H2=>v=.non/\Q (.ref x) H2) E
def bA (K:qad) (fd:qaX) (ps:List Str) (ds:List Value):Prop:=
 ∀ (s:qam) (us:List Value),K.In s.heap->(us++ds).length=ps.length->qfX s fd ⟨us,[]⟩ (ps.zip (us++ds))
theorem bA.all {K:qad}{fd:qaX}{ps:List Str} (h:∀ us:List Value,us.length=ps.length->bindArgs fd ⟨us,[]⟩=pure (ps.zip us)):bA K fd ps []:=λs us _ hl=>by
 rw[qbO]at hl ⊢
 exact .of_eq (h us hl)
def nq (CX:CXT) (X:Cx) (E:XK):Prop:=∀ (pins:List (Addr×Obj)) (σ:St) (H:Hp) (s:qam) (e:Value) (s':qam),Inv X pins σ H s->CX X.stack H s E e s'->X.xe e s'
section
variable {X:Cx}{CX:CXT}{k:Nat}{f C:Addr}{fd:qaX}{ps:List Str}{sp:Sp}{dvs:List V}{ds:List Value}{E:XK}{x m:Str}{p pos apos:Pos}{e o:Expr}{es:List Expr}{ta:TE}{t:TA}
theorem Ah {pins:List (Addr×Obj)}{σ:St}{H:Hp}{s:qam}{Q:VK}{us:List Value}{vs:List V} (F:bW X.prog X.w X.K X.mg X.base CX k f fd ps sp) (hr:dN k X.A) (hb:bA X.K fd ps ds) (hd:bf dvs ds) (hx:nq CX X E)
  (I:Inv X pins σ H s) (r:bf vs us) (h:sp (vs++dvs) H Q E):wpAny (model X.prog X.w) X.A (call (.ref f) us) (EP X pins σ Q) X.xe s:=by
 have r2:bf (vs++dvs) (us++ds):=r.append hd
 have hl:(us++ds).length=ps.length:=by rw[<-r2.length];exact F.len _ _ _ _ h
 refine wpAny_call (qeS (F.run X.A X.stack s H ⟨us,[]⟩ (us++ds) (vs++dvs) Q E hr I.env0 (hb s us I.kIn hl) r2 h) λr s' hq=>?_)
 cases r with
 |error e=>exact hx pins σ H s e s' I hq
 |ok fl=>
  cases fl with
  |ret u=>exact I.after hq
  |next=>exact qb4 hq
  |brk=>exact qb4 hq
  |cont=>exact qb4 hq
theorem vg (F:bW X.prog X.w X.K X.mg X.base CX k f fd ps sp) (hr:dN k X.A) (hg:Gl X x) (hm:X.mg x=some (.ref f)) (hk:qax X.K (.ref f)=true) (hb:bA X.K fd ps ds) (hd:bf dvs ds) (hx:nq CX X E)
  (ha:PA X (e::es) t) (hdb:(x==("__debug__" : Str))=false:=by decide) (he:qbl (e::es) X.env=(false,eval e X.env)::qbl es X.env:=by rfl) (hpl:(qdM pos (qbl es X.env)).any (·.1)=false:=by rfl) :
  PE X (.Call (.Name x p) (e::es) [] pos) (B3 sp dvs E t):=by
 intro pins s σ H Q I h
 refine qdt (uH I hg hm ?_ hdb)
 refine qfk (h₀:=X.base) I.ok.mod.kin hk (thn (ha pos pins s σ H _ I h) λus s1 ⟨vs,H1,I1,r,q⟩=>⟨I1.kIn,?_⟩) he hpl
 exact Ah F hr hb hd hx I1 r q
structure Mk (K:qad) (C f:Addr):Prop where
 makes:qep K C=true
 init:qbf K (.ref C) "__init__" = some (some (.ref f))
 fn:qgl K (.ref f)=true
 kp:qax K (.ref C)=true
theorem ya {pins:List (Addr×Obj)}{σ:St}{H:Hp}{s:qam}{Q:VK}{us:List Value}{vs:List V} (M:Mk X.K C f) (F:bW X.prog X.w X.K X.mg X.base CX k f fd ps sp) (hr:dN (k+1) X.A) (hb:bA X.K fd ps ds) (hd:bf dvs ds)
  (hx:nq CX X E) (I:Inv X pins σ H s) (r:bf vs us)
  (h:∀ x dx,H x=none->H dx=none->dx≠x->sp (.ref x::(vs++dvs)) (upd (upd H dx (.own x)) x (.ins C dx [])) (λv H2=>v=.non/\Q (.ref x) H2) E) :
  wpAny (model X.prog X.w) X.A (call (.ref C) us) (EP X pins σ Q) X.xe s:=by
 have hq:=h (s.heap.objs.size+1) s.heap.objs.size (I.hok.fresh (qc5 _)) (I.hok.fresh (qan _)) (qaW (qbI _))
 have I2:=Inv.made (C:=C) I
 have r2:bf (V.ref (s.heap.objs.size+1)::(vs++dvs)) (Value.ref (s.heap.objs.size+1)::(us++ds)):=.cons rfl (r.append hd)
 have hl:(Value.ref (s.heap.objs.size+1)::us++ds).length=ps.length:=by
  have e:=r2.length
  rw[F.len _ _ _ _ hq]at e
  exact e.symm
 refine wpAny_call (yb (f:=f) I.kIn M.makes M.init (beq_iff_eq.mp M.fn) (qeS (F.run _ X.stack _ _ ⟨Value.ref (s.heap.objs.size+1)::us,[]⟩ (Value.ref (s.heap.objs.size+1)::(us++ds)) _ _ E (hr.make C us [])
  (I2.env0.make C us []) (hb _ (Value.ref (s.heap.objs.size+1)::us) I2.kIn hl) r2 hq) λr s' hq'=>?_))
 cases r with
 |error e=>exact hx pins σ _ _ e s' I2 hq'
 |ok fl=>
  cases fl with
  |ret u=>
   obtain⟨v,H',I3,rv,ev,q3⟩:=I2.after hq'
   subst ev
   exact⟨rv,⟨V.ref (s.heap.objs.size+1),H',I3,rfl,q3⟩⟩
  |next=>exact qb4 hq'
  |brk=>exact qb4 hq'
  |cont=>exact qb4 hq'
theorem yD (M:Mk X.K C f) (F:bW X.prog X.w X.K X.mg X.base CX k f fd ps sp) (hr:dN (k+1) X.A) (hg:Gl X x) (hm:X.mg x=some (.ref C)) (hb:bA X.K fd ps ds) (hd:bf dvs ds) (hx:nq CX X E)
  (ha:PA X (e::es) t) (hdb:(x==("__debug__" : Str))=false:=by decide) (he:qbl (e::es) X.env=(false,eval e X.env)::qbl es X.env:=by rfl) (hpl:(qdM pos (qbl es X.env)).any (·.1)=false:=by rfl) :
  PE X (.Call (.Name x p) (e::es) [] pos) (Ci C sp dvs E t):=by
 intro pins s σ H Q I h
 refine qdt (uH I hg hm ?_ hdb)
 refine qfk (h₀:=X.base) I.ok.mod.kin M.kp (thn (ha pos pins s σ H _ I h) λus s1 ⟨vs,H1,I1,r,q⟩=>⟨I1.kIn,?_⟩) he hpl
 exact ya M F hr hb hd hx I1 r q
end
section
variable {X:Cx}{CX:CXT}{k:Nat}{f C:Addr}{fd:qaX}{ps ks:List Str}{sp:Sp}{E:XK}{x m:Str}{p pos apos kpos:Pos}{e o:Expr}{es:List Expr}{kws:List qgz}{te ta:TE}{t tk:TA}{nm:Option Str}
variable {g:List Value->List Value->List Value}{gV:List V->List V->List V}
end
structure aP (N P:List Str) (sc:Scope):Prop where
 kind:sc.kind=.function
 co:sc.isCoroutine=false
 gen:sc.isGenerator=false
 nd:N.Nodup
 pre:N.take P.length=P
 par:∀ x∈P,sc.names.lookup x=some .local\/sc.names.lookup x=some .cell
 nofree:∀ y∈sc.names,y.2≠.free
theorem pk {kindOf:Str->Option qbK}{x:Str}:∀ {binds:List (Str×Value)}{m:Str->Option Value},(∀ v,(x,v)∉binds)->bindL kindOf binds m x=m x
 |[],_,_=>rfl
 |(n,v)::r,m,h=>by
  unfold bindL
  rw[pk λw hw=>h w (qal _ hw)]
  split
  ·have:x≠n:=by rintro rfl;exact h v qaf
   simp[this]
  ·rfl
theorem oV {kindOf:Str->Option qbK}{x:Str}:∀ {binds:List (Str×Value)}{m:Str->Option Value},(∀ v,(x,v)∉binds)->bindC kindOf binds m x=m x
 |[],_,_=>rfl
 |(n,v)::r,m,h=>by
  unfold bindC
  rw[oV λw hw=>h w (qal _ hw)]
  split
  ·rfl
  ·have:x≠n:=by rintro rfl;exact h v qaf
   simp[this]
theorem pf {kindOf:Str->Option qbK}{x:Str}{v:Value}:∀ {P:List Str}{vs:List Value}{i:Nat}{m:Str->Option Value},P.Nodup->P[i]?=some x->vs[i]?=some v->kindOf x=some .local->
  bindL kindOf (P.zip vs) m x=some v
 |[],_,_,_,_,h,_,_=>by simp at h
 |_::_,[],_,_,_,_,h,_=>by simp at h
 |p::P,w::vs,0,m,nd,h1,h2,hk=>by
  simp at h1 h2;subst h1;subst h2
  show bindL kindOf ((p,w)::P.zip vs) m p=_
  unfold bindL
  rw[pk λv hv=>(qb5.mp nd).1 (qdF hv).1,if_pos hk]
  simp
 |p::P,w::vs,i+1,m,nd,h1,h2,hk=>by
  show bindL kindOf ((p,w)::P.zip vs) m x=_
  unfold bindL
  exact pf (i:=i) (qb5.mp nd).2 (by simpa using h1) (by simpa using h2) hk
theorem pj {kindOf:Str->Option qbK}{x:Str}{v:Value}:∀ {P:List Str}{vs:List Value}{i:Nat}{m:Str->Option Value},P.Nodup->P[i]?=some x->vs[i]?=some v->kindOf x≠some .local->
  bindC kindOf (P.zip vs) m x=some v
 |[],_,_,_,_,h,_,_=>by simp at h
 |_::_,[],_,_,_,_,h,_=>by simp at h
 |p::P,w::vs,0,m,nd,h1,h2,hk=>by
  simp at h1 h2;subst h1;subst h2
  show bindC kindOf ((p,w)::P.zip vs) m p=_
  unfold bindC
  rw[oV λv hv=>(qb5.mp nd).1 (qdF hv).1,if_neg hk]
  simp
 |p::P,w::vs,i+1,m,nd,h1,h2,hk=>by
  show bindC kindOf ((p,w)::P.zip vs) m x=_
  unfold bindC
  exact pj (i:=i) (qb5.mp nd).2 (by simpa using h1) (by simpa using h2) hk
def gY (N:List Str) (vs:List V):St:=vs.map some++qaB (N.length - vs.length) none
def oj (CX:CXT) (P:qa5) (w:World) (K:qad) (mg:Str->Option Value) (base:Heap) (N:List Str) (qual:Str) (scope:Scope) (f:Addr) (cd:Value) (A:qbd) (outer:List Env) (s:qam) (H:Hp) (E:XK):Cx where
 prog:=P
 w:=w
 K:=K
 mg:=mg
 base:=base
 A:=A.deeper (qej qual scope s.heap.objs.size f cd)
 N:=N
 s₀:=s
 H₀:=H
 env:=qej qual scope s.heap.objs.size f cd
 outer:=outer
 stack:=qej qual scope s.heap.objs.size f cd::outer
 ex:=[]
 calm:=true
 fn:=λ_=>true
 pn:=[]
 xe:=λe s'=>wpAny (model P w) (A.deeper (qej qual scope s.heap.objs.size f cd)) (leaving (qej qual scope s.heap.objs.size f cd) e) (λ_ s''=>CX outer H s E e s'') (λe' s''=>CX outer H s E e' s'') s'
theorem re {sc:Scope}{n:Nat}{x:Str} (h:sc.names.lookup x=some .cell):∃ c,(qbM n sc.names []).lookup x=some c:=by
 have q:=qcE sc.names n [] (.inl h)
 exact qcu.mp q
theorem wj {CX:CXT}{P:qa5}{w:World}{K:qad}{mg:Str->Option Value}{base:Heap}{N ps:List Str}{qual:Str}{scope:Scope}{f:Addr}{cd:Value}{A:qbd}{outer:List Env}{s s1:qam}{H:Hp}{E:XK}{us:List Value}{vs:List V}
  (S:aP N ps scope) (hd:A.handled=none) (e0:um P w K mg base A outer s H) (hl:vs.length=ps.length) (r:bf vs us)
  (x:InCallC s s.heap.objs.size (bindL (qej qual scope s.heap.objs.size f cd).kindOf (ps.zip us) λ_=>none) (qbM (s.heap.objs.size+1) scope.names []) (bindC (qej qual scope s.heap.objs.size f cd).kindOf (ps.zip us) λ_=>none) s1) :
  Inv (oj CX P w K mg base N qual scope f cd A outer s H E) [] (gY N vs) H s1:=by
 have hpl:ps.length<=N.length:=by have:=congrArg List.length S.pre;rw[qbH]at this;lia
 obtain⟨h1,tk,rfl,hk⟩:=x.done
 have noA:∀ b:Addr,b∉(oj CX P w K mg base N qual scope f cd A outer s H E).ex:=λb z=>absurd (show b∈([]:List Addr) from z) (by simp)
 refine⟨⟨e0.mod,S.kind,rfl,rfl,qan _,λy z c h1 h2=>?_,λy hy=>?_,λy c _ h=>?_,λ_=>hd,Around.frames_deeper e0.frames,.inr ⟨rfl,rfl⟩,λb z=>absurd z (noA b),e0.bs,e0.bsz,λb _ _=>noA b,λb z=>absurd z (noA b),e0.funs,e0.frf⟩,
  rfl,e0.bare,Un.kept hk,⟨_,x.toInCall.ns,λi y v h1 h2 h3=>?_⟩,λy c h=>⟨_,x.cell y c h⟩,e0.hok.fresh (qan _),λy c h=>?_,λp hp=>absurd (show p∈([]:List (Addr×Obj)) from hp) (by simp),e0.hok.kept hk,?_⟩
 ·exact name_of_addr x.apart (qbj h1) (qbj h2)
 ·have hy:scope.names.lookup y=some .cell\/scope.names.lookup y=some .free:=hy
  rcases hy with hy|hy
  ·exact re hy
  ·exact absurd rfl (S.nofree _ (qbj hy))
 ·exact qcV (x.above y c (qbj h))
 ·have hi:i<vs.length:=by
   unfold gY at h2
   by_cases hi:i<vs.length
   ·exact hi
   ·rw[qau (by simpa using hi)]at h2
    rw[qcI]at h2
    split at h2<;>cases h2
  have ha:vs[i]?=some v:=by
   unfold gY at h2
   rw[qas (by simpa using hi),qaO]at h2
   cases e:vs[i]? with
   |none=>rw[e]at h2;cases h2
   |some a=>rw[e]at h2;cases h2;rfl
  obtain⟨u,hu,rv⟩:=r.get ha
  have hp:ps[i]?=some y:=by
   rw[<-S.pre,qcz (by lia)];exact h1
  have ndP:ps.Nodup:=by rw[<-S.pre];exact S.nd.sublist (List.take_sublist _ _)
  refine⟨u,rv,?_⟩
  rcases S.par y (qbF hp) with k|k
  ·exact .inl ⟨k,pf ndP hp hu k⟩
  ·obtain⟨c,e⟩:=re (n:=s.heap.objs.size+1) k
   refine .inr ⟨.inl k,c,e,?_⟩
   have q:=x.cell y c e
   rw[pj ndP hp hu (by show scope.names.lookup y≠_;rw[k];decide)]at q
   exact q
 ·exact e0.hok.fresh (qcV (x.above y c (qbj h)))
 ·unfold gY
  show _=N.length
  rw[qap,qai,qch]
  lia
theorem Cq {CX:CXT}{P:qa5}{w:World}{K:qad}{mg:Str->Option Value}{base:Heap}{k:Nat}{f:Addr}{name qual:Str}{params:Arguments}{body:List Stmt}{scope:Scope}{dV kV doc pm cdv ct oc:Value}{an od:Option Addr}
  {osl:Array (Option Value)}{N ps:List Str}{sp:Sp} (lk:K.lookup f=some ⟨oc,od,.func (qaJ name qual params body scope dV kV doc pm an cdv ct),osl⟩) (hcd:qaD K cdv qual=true) (S:aP N ps scope)
  (len:∀ vs H Q E,sp vs H Q E->vs.length=ps.length)
  (hbody:∀ (A:qbd) (outer:List Env) (s:qam) (H:Hp) (vs:List V) (Q:VK) (E:XK),dN k (A.deeper (qej qual scope s.heap.objs.size f cdv))->sp vs H Q E->
    ∃ t,PSs (oj CX P w K mg base N qual scope f cdv A outer s H E) body t/\t { nx:=λ_ H'=>Q .non H',rt:=Q } (gY N vs) H) :
  bW P w K mg base CX (k+1) f (qaJ name qual params body scope dV kV doc pm an cdv ct) ps sp:=by
 refine⟨len,λA outer s H args us vs Q E hr e0 hb r hsp=>?_⟩
 have hl:=len _ _ _ _ hsp
 have KX:K.In s.heap:=e0.mod.kin.keeps λb o e=>(e0.bs b o e).1
 have lim:s.heap.NoLimit:=e0.mod.nolimit.keeps λb o e=>(e0.bs b o e).1
 have hkind:∀ y∈ps.zip us,scope.names.lookup y.1=some .local\/(scope.names.lookup y.1=some .cell/\((qbM (s.heap.objs.size+1) scope.names []).lookup y.1).isSome=true):=λ⟨n,v⟩ hy=>by
  rcases S.par n (qdF hy).1 with q|q
  ·exact .inl q
  ·exact .inr ⟨q,qcE _ _ _ (.inl q)⟩
 refine codeAny_call_function hr.depth (KX _ _ lk) rfl S.co S.gen rfl (PySem.W.codeRec_of KX hcd) (hb _ _ _ _ ?_)
 refine wpAny_newFunctionEnv_cells S.kind hkind λenv he s1 x=>?_
 subst he
 refine⟨lim.keeps x.toInCall.keep,codeAny_func ?_⟩
 obtain⟨t,ht,hq⟩:=hbody A outer s H vs Q E (hr.deeper _) hsp
 have I:Inv (oj CX P w K mg base N qual scope f cdv A outer s H E) [] (gY N vs) H s1:=wj S hr.hd e0 hl r x
 refine qcM (ht [] s1 (gY N vs) H _ I hq) (λfl s' hs=>?_) λe s' hs=>hs
 have fin:∀ {σ':St}{H':Hp}{v:V}{u:Value},Inv (oj CX P w K mg base N qual scope f cdv A outer s H E) [] σ' H' s'->bJ v u->Q v H'->CE outer P w H s Q u s':=
  λ{σ' H' v u} J rv q=>⟨v,H',J.os,J.bare,J.base,J.hok,rv,q⟩
 cases fl with
 |ret u=>
  obtain⟨v,σ',H',J,rv,q⟩:=hs
  exact fin J rv q
 |next=>
  obtain⟨σ',H',J,q⟩:=hs
  exact fin (v:=V.non) (u:=Value.none) J rfl q
 |brk=>
  obtain⟨_,_,_,q⟩:=hs
  exact qb4 q
 |cont=>
  obtain⟨_,_,_,q⟩:=hs
  exact qb4 q
section
variable {X:Cx}{x:Str}{p pos:Pos}{e:Expr}{es:List Expr}{t:TA}{id T:String}{r:List V->Hp->VK->Prop}
def tCB (r:List V->Hp->VK->Prop) (t:TA):TE:=λσ H Q=>t σ H λvs H1=>r vs H1 Q
theorem xn (hc:dD X (.builtin id) r) (hg:Gl X x) (hm:X.mg x=none) (hv:qcb x=some (.builtin id)) (ha:PA X (e::es) t) (hn:x≠"__name__":=by decide) (hdb:(x==("__debug__" : Str))=false:=by decide)
  (he:qbl (e::es) X.env=(false,eval e X.env)::qbl es X.env:=by rfl) (hpl:(qdM pos (qbl es X.env)).any (·.1)=false:=by rfl):PE X (.Call (.Name x p) (e::es) [] pos) (tCB r t):=by
 intro pins s σ H Q I h
 refine qdt (kH I hg hm hv ?_ hn hdb)
 exact qhL (thn (ha pos pins s σ H _ I h) λus s1 ⟨vs,H1,I1,r1,q1⟩=>hc pins s1 σ H1 vs us Q I1 r1 q1) he hpl
theorem fq (hc:dD X (.type T) r) (hg:Gl X x) (hm:X.mg x=none) (hv:qcb x=some (.type T)) (ha:PA X (e::es) t) (hn:x≠"__name__":=by decide) (hdb:(x==("__debug__" : Str))=false:=by decide)
  (he:qbl (e::es) X.env=(false,eval e X.env)::qbl es X.env:=by rfl) (hpl:(qdM pos (qbl es X.env)).any (·.1)=false:=by rfl):PE X (.Call (.Name x p) (e::es) [] pos) (tCB r t):=by
 intro pins s σ H Q I h
 refine qdt (kH I hg hm hv ?_ hn hdb)
 exact qbQ (thn (ha pos pins s σ H _ I h) λus s1 ⟨vs,H1,I1,r1,q1⟩=>hc pins s1 σ H1 vs us Q I1 r1 q1) he hpl
end
end L2
namespace HT
open PySem PyProof.Rows
section
open PySem.SeqAt
open PySem.AutoSeq1 (wpAny_loadPart')
open PySem.MeetsSeq PySem.MeetsSeq2 PySem.MeetsSeq3
end
section
variable {prog:qa5}{w:World}{A:qbd}{E:Value->qam->Prop}{s:qam}
theorem cat_tup {t b:Addr}{vs ws:List Value}{Q:Value->qam->Prop} (ht:IsTup s.heap t vs.toArray) (hb:IsTup s.heap b ws.toArray) (hv:vs≠[])
  (h1:ws=[]->Q (.ref t) s) (h2:ws≠[]->Q (.ref s.heap.objs.size) { s with heap:=s.heap.push { cls:=.type "tuple",data:=.seq (vs++ws).toArray } })
  (hsz:vs.length+ws.length<=qaS):wpAny (model prog w) A (qbC .Add (.ref t) (.ref b)) Q E s:=by
 obtain⟨⟨cls,dd,data,sl⟩,ho,hc,n,hd⟩:=id ht
 obtain⟨⟨cls2,dd2,data2,sl2⟩,ho2,hc2,n2,hd2⟩:=id hb
 simp only at hc hd hc2 hd2
 subst hc hd hc2 hd2
 have e:vs.toArray++ws.toArray=(vs++ws).toArray:=by simp
 by_cases hw:ws=[]
 ·exact qga ⟨_,ho,rfl⟩ ⟨_,ho2,rfl⟩ qeY qfI qds qdp (qdd _ _)
   (tuple_addW1 t b vs.toArray ws.toArray n n2 dd dd2 sl sl2 (by simpa using hv) (by simp[hw])) ⟨ho,ho2,h1 hw⟩
 ·refine qga ⟨_,ho,rfl⟩ ⟨_,ho2,rfl⟩ qeY qfI qds qdp (qdd _ _)
   (tuple_addW2 t b vs.toArray ws.toArray n n2 dd dd2 sl sl2 (by simpa using hv) (by simpa using hw) (by rw[qaz,qaz];exact hsz)) ⟨ho,ho2,?_⟩
  rw[e]
  exact h2 hw
def sIx (n d:Nat):Option Int->Nat
 |none=>d
 |some v=>if v<0 then (v+(n:Int)).toNat else min v.toNat n
theorem sIx_none (n d:Nat):sIx n d none=d:=rfl
theorem sIx_nat (n d k:Nat):sIx n d (some (k:Int))=min k n:=by
 show (if (k:Int)<0 then ((k:Int)+(n:Int)).toNat else min (k:Int).toNat n)=min k n
 rw[if_neg (by lia),qbA]
theorem Bm (n d:Nat) (hd:d<=n) (o:Option Int):sIx n d o<=n:=by
 cases o with
 |none=>exact hd
 |some v=>
  show (if v<0 then (v+(n:Int)).toNat else min v.toNat n)<=n
  by_cases hv:v<0
  ·rw[if_pos hv];lia
  ·rw[if_neg hv];exact Nat.min_le_right _ _
theorem uN (v:Int) (n d:Nat):(if v<0 then max (v+(n:Int)) 0 else min v (n:Int))=((sIx n d (some v):Nat):Int):=by
 show (if v<0 then max (v+(n:Int)) 0 else min v (n:Int))=(((if v<0 then (v+(n:Int)).toNat else min v.toNat n):Nat):Int)
 by_cases hv:v<0
 ·simp only[if_pos hv];lia
 ·simp only[if_neg hv];lia
theorem uo (lo hi:Option Int) (n:Nat):qcX lo hi 1 (n:Int)=(((sIx n 0 lo:Nat):Int),((sIx n n hi:Nat):Int)):=by
 have h1:¬ ((1:Int)<0):=by lia
 unfold qcX
 simp only[h1,if_false]
 refine Prod.ext ?_ ?_
 ·cases lo with
  |none=>rfl
  |some v=>exact uN v n 0
 ·cases hi with
  |none=>rfl
  |some v=>exact uN v n n
theorem uA (i j:Nat):qcc (i:Int) (j:Int) 1=j - i:=by
 unfold qcc
 have h1:(1:Int) > 0:=by lia
 simp only[h1,if_true,Int.ediv_one]
 split<;>lia
theorem nA {v:Value}{o:Option Int}{Q:Option Int->qam->Prop} (p:qeU v o) (h:Q o s):wpAny (model prog w) A (qg1 v) Q E s:=by
 cases p with
 |none=>exact qh7 h
 |int i t=>exact slicePart_int h
theorem iN {sl:Addr}{vl vu:Value}{lo hi:Option Int}{n:Nat}{Q:Int×Int×Nat->qam->Prop} (hs:s.heap.IsSliceOf sl vl vu .none) (pl:qeU vl lo) (pu:qeU vu hi)
  (h:Q (((sIx n 0 lo:Nat):Int),1,sIx n n hi - sIx n 0 lo) s):wpAny (model prog w) A (qdZ (.ref sl) (pure (n:Int))) Q E s:=by
 obtain⟨os,hos,hcs,hds⟩:=id hs
 unfold qdZ qg2
 refine qag (qag (qbP hos hds (x:=vl) rfl (qag (qbP hos hds (x:=vu) rfl (qag (qbP hos hds (x:=.none) rfl (qaE ?_)))))))
 refine qag (qh7 ?_)
 show wpAny _ _ (if ((1:Int)==0)=true then _ else _) _ _ s
 rw[if_neg (by decide)]
 refine qag (nA pl (qag (nA pu (qag (qaE ?_)))))
 show wpAny _ _ (match qcX lo hi 1 (n:Int) with|(lo,hi)=>pure (lo,(1:Int),qcc lo hi 1)) _ _ s
 rw[uo lo hi n]
 show wpAny _ _ (pure (((sIx n 0 lo:Nat):Int),(1:Int),qcc ((sIx n 0 lo:Nat):Int) ((sIx n n hi:Nat):Int) 1)) _ _ s
 rw[uA]
 exact qaE h
theorem wE (xs:Array Value) (i k:Nat):((qac k).filterMap λ(m:Nat)=>xs[((i:Int)+(m:Int)*1).toNat]?).toArray=((xs.toList.drop i).take k).toArray:=by
 have e:(λ(m:Nat)=>xs[((i:Int)+(m:Int)*1).toNat]?)=λm=>xs[i+m]?:=by
  funext m
  have:((i:Int)+(m:Int)*1).toNat=i+m:=by lia
  rw[this]
 rw[e]
 have:=pick_run xs i k
 rw[List.filterMap_map]at this
 have e2:((λx=>xs[x]?) ∘ λx=>i+x)=λm=>xs[i+m]?:=rfl
 rw[e2]at this
 rw[this]
theorem getItem_tuple_cut {t sl:Addr}{items:Array Value}{vl vu:Value}{lo hi:Option Int}{Q:Value->qam->Prop} (ht:IsTup s.heap t items) (hs:s.heap.IsSliceOf sl vl vu .none) (pl:qeU vl lo) (pu:qeU vu hi)
  (hw:¬ (sIx items.size 0 lo=0/\sIx items.size items.size hi=items.size))
  (h:Q (.ref s.heap.objs.size) { s with heap:=s.heap.push { cls:=.type "tuple",data:=.seq ((items.toList.drop (sIx items.size 0 lo)).take (sIx items.size items.size hi - sIx items.size 0 lo)).toArray } })
  (hsz:items.size<=qaS):wpAny (model prog w) A (qe9 (.ref t) (.ref sl)) Q E s:=by
 have htake:sizeOk (.seq ((items.toList.drop (sIx items.size 0 lo)).take (sIx items.size items.size hi - sIx items.size 0 lo)).toArray):=by
  show ((items.toList.drop (sIx items.size 0 lo)).take (sIx items.size items.size hi - sIx items.size 0 lo)).toArray.size<=qaS
  rw[qaz,qbH,qcZ,qc3]
  lia
 have hj:sIx items.size items.size hi<=items.size:=Bm _ _ (qan _) hi
 obtain⟨os,hos,hcs,hds⟩:=id hs
 have hTs:s.TypeIs (.ref sl) "slice":=⟨os,hos,hcs⟩
 unfold qe9
 try with_reducible refine qda ?_
 first|refine qag (qaE ?_)|skip
 refine qag (qgO ht.typeIs (by decide) ?_)
 refine qag (qbV (name:=qdg "__getitem__") ht.typeIs qbr
  (qcD qbr ht.typeIs qgw ?_ (qgG _ _)))
 show wpAny _ _ (qdY (.ref t) >>= _) _ _ s
 refine qag (tupleItemsOf_ ht ?_)
 refine qag (qf7 hTs ?_)
 rw[if_pos (by decide)]
 refine qag (iN hs pl pu ?_)
 have hno:¬ ((((sIx items.size 0 lo:Nat):Int)==0&&(1:Int)==1&&(sIx items.size items.size hi - sIx items.size 0 lo)==items.size)=true):=by
  intro q
  rw[qa4,qa4]at q
  have q1:((sIx items.size 0 lo:Nat):Int)=0:=eq_of_beq q.1.1
  have q2:sIx items.size items.size hi - sIx items.size 0 lo=items.size:=eq_of_beq q.2
  exact hw ⟨by lia,by lia⟩
 show wpAny _ _ (if (((sIx items.size 0 lo:Nat):Int)==0&&(1:Int)==1&&(sIx items.size items.size hi - sIx items.size 0 lo)==items.size)=true then _ else _) _ _ s
 rw[if_neg hno,wE]
 first
  |exact qag (m:=qcj _) (qbX (qaE ⟨_,rfl,qaE h⟩) htake)
  |exact qag (m:=qcj _) (qbX (qag (qaE (qaE ⟨_,rfl,qaE h⟩))) htake)
  |exact qag (qag (m:=qcj _) (qbX (qaE (qaE ⟨_,rfl,qaE h⟩)) htake))
  |exact qag (qag (m:=qcj _) (qbX (qaE ⟨_,rfl,qaE h⟩) htake))
end
end HT
namespace L2
open PySem PySem.Spec PyProof.Rows
abbrev TO:=St->Hp->(Option Int->Hp->Prop)->Prop
def PO (X:Cx) (e:Option Expr) (t:TO):Prop:=
 ∀ (pins:List (Addr×Obj)) (s:qam) (σ:St) (H:Hp) (Q:Option Int->Hp->Prop),Inv X pins σ H s->t σ H Q->
  wpAny (model X.prog X.w) X.A (evalPart e X.env) (λu s'=>∃ o H',Inv X pins σ H' s'/\qeU u o/\Q o H') X.xe s
def yr:TO:=λ_ H Q=>Q none H
def BL (t:TE):TO:=λσ H Q=>t σ H λx H1=>∃ i,x=.int i/\Q (some i) H1
theorem ui {ns:List Int}:∀ {us:List Value},bf (ns.map V.int) us->qfS us ns:=by
 induction ns with
 |nil=>intro us r;rw[qcy]at r;cases r;exact .nil
 |cons n ns ih=>
  intro us r
  rw[qay]at r
  cases r with
  |cons r1 r2=>
   obtain⟨t,e⟩:=r1
   subst e
   exact .cons n t (ih r2)
section
variable {X:Cx}{e:Expr}{te:TE}{lo hi:Option Expr}{tl th:TO}{pos p2:Pos}
theorem yw:PO X none yr:=by
 intro pins s σ H Q I h
 rw[evalPart_none]
 exact qaE ⟨none,H,I,.none,h⟩
theorem yM (h:PE X e te):PO X (some e) (BL te):=by
 intro pins s σ H Q I hw
 rw[evalPart_some]
 refine thn (h pins s σ H _ I hw) λu s1 ⟨x,H1,I1,r1,q1⟩=>?_
 obtain⟨i,rfl,q⟩:=q1
 obtain⟨t,rfl⟩:=r1
 exact⟨some i,H1,I1,.int i t,q⟩
def SlR (X:Cx) (r:V->Option Int->Option Int->Hp->VK->Prop):Prop:=
 ∀ (pins:List (Addr×Obj)) (s:qam) (σ:St) (H:Hp) (x:V) (v vl vu:Value) (lo hi:Option Int) (sl:Addr) (Q:VK),Inv X pins σ H s->bJ x v->s.heap.IsSliceOf sl vl vu .none->qeU vl lo->qeU vu hi->r x lo hi H Q->
  ∃ T id,typeLookup (.type T) "__getitem__" = pure (some (.builtin id))/\s.TypeIs v T/\wpAny (model X.prog X.w) X.A (qe9 v (.ref sl)) (EP X pins σ Q) X.xe s
def tSl (r:V->Option Int->Option Int->Hp->VK->Prop) (te:TE) (tl th:TO):TE:=λσ H Q=>te σ H λx H1=>tl σ H1 λl H2=>th σ H2 λu H3=>r x l u H3 Q
theorem so {r:V->Option Int->Option Int->Hp->VK->Prop} (hr:SlR X r) (he:PE X e te) (hl:PO X lo tl) (hu:PO X hi th):PE X (.Subscript e (.Slice lo hi none p2) pos) (tSl r te tl th):=by
 intro pins s σ H Q I h
 refine Subscript_ (thn (he pins s σ H _ I h) λv s1 ⟨x,H1,I1,r1,q1⟩=>?_)
 refine wpAny_Slice (thn (hl pins s1 σ H1 _ I1 q1) λvl s2 ⟨l,H2,I2,pl,q2⟩=>thn (hu pins s2 σ H2 _ I2 q2) λvu s3 ⟨u,H3,I3,pu,q3⟩=>?_)
 rw[evalPart_none]
 refine qaE ?_
 have I4:Inv X pins σ H3 { s3 with heap:=s3.heap.push { cls:=.type "slice",data:=.fields #[vl,vu,.none] } }:=I3.kept (t':=s3.toks) λb ob q=>qak _ q
 obtain⟨T,id,hT,ht,hg⟩:=hr pins { s3 with heap:=s3.heap.push { cls:=.type "slice",data:=.fields #[vl,vu,.none] } } σ H3 x v vl vu l u s3.heap.objs.size Q I4 r1 (qgJ ..) pl pu q3
 show wpAny (model X.prog X.w) X.A (subscriptTail e (.Slice lo hi none p2) v (.ref s3.heap.objs.size)) (EP X pins σ Q) X.xe { s3 with heap:=s3.heap.push { cls:=.type "slice",data:=.fields #[vl,vu,.none] } }
 exact tail_any (ops:=[.ref s3.heap.objs.size,v]) ht hT hg (by with_unfolding_all rfl)
def pO (xs:List V) (lo hi:Option Int):List V:=(xs.drop (HT.sIx xs.length 0 lo)).take (HT.sIx xs.length xs.length hi - HT.sIx xs.length 0 lo)
theorem lZ (xs:List V) (lo hi:Option Int):(pO xs lo hi).length<=xs.length:=by
 unfold pO
 rw[qbH,qcZ]
 lia
def De (K:qad):V->Option Int->Option Int->Hp->VK->Prop:=λx lo hi H Q=>∃ a xs,x=.ref a/\SqT K H a xs/\
 ¬ (HT.sIx xs.length 0 lo=0/\HT.sIx xs.length xs.length hi=xs.length)/\∀ p,H p=none->Q (.ref p) (upd H p (.tup (pO xs lo hi)))
theorem As:SlR X (De X.K):=by
 intro pins s σ H x v vl vu lo hi sl Q I rx hs pl pu h
 obtain⟨a,xs,rfl,hx,hw,q⟩:=h
 cases rx
 obtain⟨its,r,ht,hz⟩:=I.tuple hx
 have hlen:its.toArray.size=xs.length:=by rw[qaz];exact r.length.symm
 refine⟨"tuple",_,qbr.lookup,ht.typeIs,?_⟩
 refine HT.getItem_tuple_cut ht hs pl pu (by rw[hlen];exact hw) ?_ (by rw[hlen];exact hz)
 rw[hlen]
 refine⟨.ref s.heap.objs.size,_,I.laid (t':=s.toks) (o:=.tup (pO xs lo hi)) (λb ob q=>qak _ q) (qan _) ?_,rfl,q _ (I.hok.fresh (qan _))⟩
 exact⟨qa6 (lZ xs lo hi) hz,_,(r.drop (HT.sIx xs.length 0 lo)).take (HT.sIx xs.length xs.length hi - HT.sIx xs.length 0 lo),eL.new _ _⟩
def BK (K:qad):R2:=λx y H Q=>∃ a b xs ys,x=.ref a/\y=.ref b/\SqT K H a xs/\SqT K H b ys/\xs≠[]/\xs.length+ys.length<=qaS/\
 (ys=[]->Q (.ref a) H)/\(ys≠[]->∀ p,H p=none->Q (.ref p) (upd H p (.tup (xs++ys))))
theorem bf.nil_iff {xs:List V}{us:List Value} (r:bf xs us):us=[]↔xs=[]:=by
 cases r with
 |nil=>simp
 |cons _ _=>simp
theorem zv:OpR X (qbC .Add) (BK X.K):=by
 intro pins s σ H x y v u Q I rx ry h
 obtain⟨a,b,xs,ys,rfl,rfl,ha,hb,hx,hz,q1,q2⟩:=h
 cases rx
 cases ry
 obtain⟨its,r1,p1,_⟩:=I.tuple ha
 obtain⟨its2,r2,p2,_⟩:=I.tuple hb
 refine HT.cat_tup p1 p2 (λz=>hx (r1.nil_iff.mp z)) (λz=>⟨.ref a,H,I,rfl,q1 (r2.nil_iff.mp z)⟩) (λz=>?_) (by rw[<-r1.length,<-r2.length];exact hz)
 refine⟨.ref s.heap.objs.size,_,I.laid (t':=s.toks) (o:=.tup (xs++ys)) (λb ob q=>qak _ q) (qan _) ?_,rfl,q2 (λw=>z (r2.nil_iff.mpr w)) _ (I.hok.fresh (qan _))⟩
 exact⟨by rw[qap];exact hz,_,r1.append r2,eL.new _ _⟩
end
def ixN (n:Nat) (i:Int):Option Nat:=if 0<=i then (if i<n then some i.toNat else none) else if -(n:Int)<=i then some (i+n).toNat else none
def atI {α:Type} (xs:List α) (i:Int):Option α:=(ixN xs.length i).bind λj=>xs[j]?
theorem mC {n:Nat}{i:Int}{j:Nat} (h:ixN n i=some j):qh1 i n=some j/\j<n/\-(n:Int)<=i/\i<n:=by
 unfold ixN at h
 by_cases h0:0<=i
 ·rw[if_pos h0]at h
  by_cases h1:i<n
  ·rw[if_pos h1]at h
   have e:i.toNat=j:=qaZ h
   exact⟨by rw[qgv h0 h1,e],by lia,by lia,h1⟩
  ·rw[if_neg h1]at h;cases h
 ·rw[if_neg h0]at h
  by_cases h1:-(n:Int)<=i
  ·rw[if_pos h1]at h
   have e:(i+n).toNat=j:=qaZ h
   exact⟨by rw[qf8 (by lia) h1,e],by lia,h1,by lia⟩
  ·rw[if_neg h1]at h;cases h
theorem qK {α:Type}{xs:List α}{i:Int}{v:α} (h:atI xs i=some v):∃ j,qh1 i xs.length=some j/\xs[j]?=some v/\j<xs.length/\-(xs.length:Int)<=i/\i<xs.length:=by
 unfold atI at h
 cases e:ixN xs.length i with
 |none=>rw[e]at h;cases h
 |some j=>
  rw[e]at h
  obtain⟨h1,h2,h3,h4⟩:=mC e
  exact⟨j,h1,h,h2,h3,h4⟩
theorem eM {α:Type}{xs:List α}{j:Nat}{v:α} (h:xs[j]?=some v):atI xs (j:Int)=some v:=by
 have hj:j<xs.length:=(qar.mp h).1
 have e:ixN xs.length (j:Int)=some j:=by
  unfold ixN
  rw[if_pos (by lia),if_pos (by lia)];simp
 unfold atI;rw[e];exact h
theorem wR {α:Type} (xs:List α) (v:α):atI (xs++[v]) (-1)=some v:=by
 have hl:(xs++[v]).length=xs.length+1:=by simp
 have e:ixN (xs++[v]).length (-1)=some xs.length:=by
  unfold ixN
  rw[hl,if_neg (by decide),if_pos (by lia)]
  congr 1
  lia
 unfold atI
 rw[e]
 show (xs++[v])[xs.length]?=some v
 simp
def vo (b:Expr):Prop:=∀ o i,subscripted b false o i=operate [o,i] (qe9 o i)
def IxR (X:Cx) (r:R2):Prop:=
 ∀ (value slice:Expr) (pins:List (Addr×Obj)) (s:qam) (σ:St) (H:Hp) (x y:V) (v u:Value) (Q:VK),Inv X pins σ H s->bJ x v->bJ y u->r x y H Q->
  subscripted slice false v u=operate [v,u] (qe9 v u)->wpAny (model X.prog X.w) X.A (subscriptTail value slice v u) (EP X pins σ Q) X.xe s
def MtR (X:Cx) (id:String) (r:V->List V->Hp->VK->Prop):Prop:=
 ∀ (pins:List (Addr×Obj)) (s:qam) (σ:St) (H:Hp) (x:V) (xs:List V) (v:Value) (us:List Value) (Q:VK),Inv X pins σ H s->bJ x v->bf xs us->r x xs H Q->
  wpAny (model X.prog X.w) X.A (call (.builtin id) (v::us)) (EP X pins σ Q) X.xe s
section
variable {X:Cx}{a b:Expr}{ta tb:TE}{pos:Pos}
theorem IxR.or {r r':R2} (h:IxR X r) (h':IxR X r'):IxR X (λx y H Q=>r x y H Q\/r' x y H Q):=by
 intro value slice pins s σ H x y v u Q I rx ry q hs
 rcases q with q|q
 ·exact h value slice pins s σ H x y v u Q I rx ry q hs
 ·exact h' value slice pins s σ H x y v u Q I rx ry q hs
theorem zK {r:R2} (hr:IxR X r) (ha:PE X a ta) (hb:PE X b tb) (hs:vo b):PE X (.Subscript a b pos) (tOp r ta tb):=by
 intro pins s σ H Q I h
 exact Subscript_ (AW ha hb I h λv u s2 x y H2 I2 rx ry q=>hr a b pins s2 σ H2 x y v u Q I2 rx ry q (hs _ _))
def CK (K:qad):R2:=λx y H Q=>∃ p xs i v,x=.ref p/\y=.int i/\SqL K H p xs/\atI xs i=some v/\Q v H
def CG (K:qad):R2:=λx y H Q=>∃ p xs i v,x=.ref p/\y=.int i/\SqT K H p xs/\atI xs i=some v/\Q v H
def BX:R2:=λx y H Q=>∃ z i c,x=.str z/\y=.int i/\z.length<=qaS/\atI z.cps.toList i=some c/\Q (.str ⟨#[c]⟩) H
theorem yW:IxR X (CK X.K):=by
 intro value slice pins s σ H x y v u Q I rx ry h hs
 obtain⟨p,xs,i,z,rfl,rfl,hq,he,q⟩:=h
 cases rx
 obtain⟨t,rfl⟩:=ry
 obtain⟨its,r,pl,hz⟩:=I.list hq
 obtain⟨j,h1,h2,h3,h4,h5⟩:=qK he
 obtain⟨w,ew,rw'⟩:=r.get h2
 have hl:=r.length
 have hn:=kK
 have fin:EP X pins σ Q w s:=⟨z,H,I,rw',q⟩
 by_cases h0:0<=i
 ·have hj:i.toNat=j:=by
   rw[qgv h0 h5]at h1
   exact qaZ h1
  exact item_listR pl.isList h0 (by lia) (by rw[hj];simpa using ew) fin hs
 ·have hj:(i+(its.toArray.size:Int)).toNat=j:=by
   rw[qf8 (by lia) h4]at h1
   rw[qaz,<-hl]
   exact qaZ h1
  exact qfY (x:=w) pl.isList.typeIs qgS.lookup
   (wpAny_getItem_list_neg (Q:=λr s'=>r=w/\EP X pins σ Q r s') pl.isList (by lia) (by rw[qaz]<;>lia) (by lia) (by rw[hj];simpa using ew) ⟨rfl,fin⟩) hs
theorem lL:IxR X (CG X.K):=by
 intro value slice pins s σ H x y v u Q I rx ry h hs
 obtain⟨p,xs,i,z,rfl,rfl,hq,he,q⟩:=h
 cases rx
 obtain⟨t,rfl⟩:=ry
 obtain⟨its,r,pl,hz⟩:=I.tuple hq
 obtain⟨j,h1,h2,h3,h4,h5⟩:=qK he
 obtain⟨w,ew,rw'⟩:=r.get h2
 have hl:=r.length
 have hn:=kK
 have fin:EP X pins σ Q w s:=⟨z,H,I,rw',q⟩
 exact qfY (x:=w) pl.typeIs slot_tuple_getitem.lookup
  (getItem_tuple (j:=j) (Q:=λr s'=>r=w/\EP X pins σ Q r s') pl (by lia) (by lia) (by rw[qaz,<-hl];exact h1) (by simpa using ew) ⟨rfl,fin⟩) hs
theorem A0:IxR X BX:=by
 intro value slice pins s σ H x y v u Q I rx ry h hs
 obtain⟨z,i,c,rfl,rfl,hz,he,q⟩:=h
 obtain⟨t,rfl⟩:=rx
 obtain⟨t',rfl⟩:=ry
 obtain⟨j,h1,h2,h3,h4,h5⟩:=qK he
 have hl:z.cps.toList.length=z.length:=by simp[Str.length]
 rw[hl]at h1 h4 h5
 have hn:=kK
 exact tail_any (typeIs_str s z t) slot_str_getitem.lookup (getItem_str (c:=c) (by
  have e1:decide (i < -(2^63:Int))=false:=decide_eq_false (by lia)
  have e2:decide (i>=2^63)=false:=decide_eq_false (by lia)
  rw[e1,e2,Bool.or_false]) (by rw[h1];simpa using h2) ⟨.str ⟨#[c]⟩,H,I.tok _,⟨_,rfl⟩,q⟩) hs
def rIx (K:qad):R2:=λx y H Q=>CK K x y H Q\/CG K x y H Q\/BX x y H Q
theorem uh:IxR X (rIx X.K):=yW.or (lL.or A0)
theorem tq (its:List Value) (n j:Nat) (u:Value):qcR (·.setIfInBounds j u) { cls:=.type "list",data:=.seq its.toArray n }={ cls:=.type "list",data:=.seq (its.set j u).toArray n }:=by
 simp[qcR]
theorem Inv.lst {pins:List (Addr×Obj)}{σ:St}{H:Hp}{s:qam}{p:Addr}{xs:List V} (I:Inv X pins σ H s) (h:H p=some (.lst xs)) :
  ∃ (its:List Value) (n:Nat),bf xs its/\s.heap.get? p=some { cls:=.type "list",data:=.seq its.toArray n }/\xs.length<=qaS:=by
 obtain⟨z,its,n,r,e⟩:=I.hok p _ h
 exact⟨its,n,r,e,z⟩
theorem Inv.lstUpd {pins:List (Addr×Obj)}{σ:St}{H:Hp}{s:qam}{p:Addr}{xs ys:List V}{its its':List Value}{n n':Nat}{f:Obj->Obj} (I:Inv X pins σ H s) (h:H p=some (.lst xs))
  (ho:s.heap.get? p=some { cls:=.type "list",data:=.seq its.toArray n }) (hf:f { cls:=.type "list",data:=.seq its.toArray n }={ cls:=.type "list",data:=.seq its'.toArray n' }) (r:bf ys its') (hz:ys.length<=qaS) (t:Nat) :
  Inv X pins σ (upd H p (.lst ys)) { s with heap:=s.heap.update p f,toks:=t }:=by
 have e:(s.heap.update p f).get? p=some { cls:=.type "list",data:=.seq its'.toArray n' }:=by
  rw[qfm f ho (by rw[hf]<;>rfl),hf]
 refine I.write (x:=p) (e:=p) (by rw[h];trivial) (.inl rfl) (λb u hb q=>(qcP _ _ (qbu hb)).trans q) ⟨_,e⟩ ?_
 exact⟨hz,its',n',r,e⟩
def CO:V->V->V->Hp->(Hp->Prop)->Prop:=λo i v H Q=>∃ p xs k j,o=.ref p/\i=.int k/\H p=some (.lst xs)/\ixN xs.length k=some j/\Q (upd H p (.lst (xs.set j v)))
theorem mV:BF X CO:=by
 intro pins s σ H o i v ov iv u Q I ro ri rv h
 obtain⟨p,xs,k,j,rfl,rfl,hp,hj,q⟩:=h
 cases ro
 obtain⟨t,rfl⟩:=ri
 obtain⟨its,n,r,ho,hz⟩:=I.lst hp
 obtain⟨h1,h2,h3,h4⟩:=mC hj
 have hl:=r.length
 have hn:=kK
 have I':Inv X pins σ (upd H p (.lst (xs.set j v))) { s with heap:=s.heap.update p (qcR (·.setIfInBounds j u)) }:=
  I.lstUpd hp ho (tq its n j u) (r.set rv j) (by rw[qbw];exact hz) s.toks
 by_cases h0:0<=k
 ·have hk:k.toNat=j:=by
   rw[qgv h0 h4]at h1
   exact qaZ h1
  exact PySem.W.ki_setAt ho h0 (by lia) (by rw[qaz,<-hl];exact h4) (by rw[hk];exact⟨_,I',q⟩)
 ·have hk:(k+(its.toArray.size:Int)).toNat=j:=by
   rw[qf8 (by lia) h3]at h1
   rw[qaz,<-hl]
   exact qaZ h1
  exact PySem.W.ki_setBack ho (by lia) (by rw[qaz,<-hl];exact h3) (by lia) (by rw[hk];exact⟨_,I',q⟩)
theorem qu (lo hi:Option Int) (n:Nat):(qdn lo hi none n).1=((HT.sIx n 0 lo:Nat):Int)/\(qdn lo hi none n).2.1=((HT.sIx n n hi:Nat):Int)/\(qdn lo hi none n).2.2=1:=by
 refine⟨?_,?_,rfl⟩
 ·cases lo with
  |none=>simp[qdn,HT.sIx]
  |some i=>
   simp only[qdn,HT.sIx,qfM,show (1:Int) > 0 by decide,if_true]
   by_cases h:i<0
   ·simp only[h,if_true]<;>lia
   ·simp only[h,if_false]<;>lia
 ·cases hi with
  |none=>simp[qdn,HT.sIx]
  |some i=>
   simp only[qdn,HT.sIx,qfM,show (1:Int) > 0 by decide,if_true]
   by_cases h:i<0
   ·simp only[h,if_true]<;>lia
   ·simp only[h,if_false]<;>lia
theorem oo (its:List Value) (lo hi:Option Int):slicePick its.toArray lo hi none=((its.drop (HT.sIx its.length 0 lo)).take (HT.sIx its.length its.length hi - HT.sIx its.length 0 lo)).toArray:=by
 obtain⟨h1,h2,h3⟩:=qu lo hi its.toArray.size
 unfold slicePick
 rw[h1,h2,h3]
 simp only[sliceRange_one,pick_run,qaz]<;>rfl
def C5 (K:qad):V->Option Int->Option Int->Hp->VK->Prop:=λx lo hi H Q=>∃ a xs,x=.ref a/\SqL K H a xs/\∀ p,H p=none->Q (.ref p) (upd H p (.lst (pO xs lo hi)))
theorem zx:SlR X (C5 X.K):=by
 intro pins s σ H x v vl vu lo hi sl Q I rx hs pl pu h
 obtain⟨a,xs,rfl,hx,q⟩:=h
 cases rx
 obtain⟨its,r,ht,hz⟩:=I.list hx
 have hlen:=r.length
 refine⟨"list",_,qgS.lookup,ht.isList.typeIs,?_⟩
 refine wpAny_getItem_list_slice ht.isList hs pl pu .none (by simp) ?_ (by rw[qaz]<;>lia)
 rw[oo,<-hlen]
 refine⟨.ref s.heap.objs.size,_,I.laid (t':=s.toks) (o:=.lst (pO xs lo hi)) (λb ob q=>qak _ q) (qan _) ?_,rfl,q _ (I.hok.fresh (qan _))⟩
 exact⟨qa6 (lZ xs lo hi) hz,_,0,(r.drop (HT.sIx xs.length 0 lo)).take (HT.sIx xs.length xs.length hi - HT.sIx xs.length 0 lo),qaI _ rfl⟩
def iq:V->Bool
 |.non=>true
 |.bl _=>true
 |.int _=>true
 |.str _=>true
 |_=>false
def eqV:V->V->Bool
 |.non,.non=>true
 |.bl a,.bl b=>a==b
 |.bl a,.int b=>(if a then 1 else 0)==b
 |.int a,.bl b=>a==(if b then 1 else 0)
 |.int a,.int b=>a==b
 |.str a,.str b=>a==b
 |_,_=>false
theorem yp {A:qbd}{s:qam}{y x:V}{u v:Value} (ry:bJ y u) (rx:bJ x v) (fy:iq y=true) (fx:iq x=true):qdo A s u v (eqV y x):=by
 cases y with
 |non=>
  cases ry
  cases x with
  |non=>cases rx;exact qea _
  |bl b=>cases rx;exact qiZ b
  |int b=>obtain⟨t,rfl⟩:=rx;exact qiY b t
  |str b=>obtain⟨t,rfl⟩:=rx;exact qiW b t
  |_=>exact absurd (show false=true from fx) qaH
 |bl a=>
  cases ry
  cases x with
  |non=>cases rx;exact qjc a
  |bl b=>cases rx;exact qjf a b
  |int b=>obtain⟨t,rfl⟩:=rx;exact qje a b t
  |str b=>obtain⟨t,rfl⟩:=rx;exact qjb a b t
  |_=>exact absurd (show false=true from fx) qaH
 |int a=>
  obtain⟨t',rfl⟩:=ry
  cases x with
  |non=>cases rx;exact qi6 a t'
  |bl b=>cases rx;exact qi9 a t' b
  |int b=>obtain⟨t,rfl⟩:=rx;exact qi8 a t' b t
  |str b=>obtain⟨t,rfl⟩:=rx;exact qe0 a t' b t
  |_=>exact absurd (show false=true from fx) qaH
 |str a=>
  obtain⟨t',rfl⟩:=ry
  cases x with
  |non=>cases rx;exact qiS a t'
  |bl b=>cases rx;exact qiU a t' b
  |int b=>obtain⟨t,rfl⟩:=rx;exact qeZ a t' b t
  |str b=>obtain⟨t,rfl⟩:=rx;exact qiR a t' b t
  |_=>exact absurd (show false=true from fx) qaH
 |_=>exact absurd (show false=true from fy) qaH
def eqU (x:V) (u:Value):Bool:=match u with
 |.none=>eqV .non x
 |.bool b=>eqV (.bl b) x
 |.int i _=>eqV (.int i) x
 |.str z _=>eqV (.str z) x
 |_=>false
theorem wZ {x y:V}{u:Value} (r:bJ y u) (f:iq y=true):eqU x u=eqV y x:=by
 cases y with
 |non=>cases r;rfl
 |bl b=>cases r;rfl
 |int i=>obtain⟨t,rfl⟩:=r;rfl
 |str z=>obtain⟨t,rfl⟩:=r;rfl
 |_=>exact absurd (show false=true from f) qaH
theorem kW {x:V}:∀ {xs:List V}{us:List Value},bf xs us->xs.all iq=true->us.any (eqU x)=xs.any λy=>eqV y x
 |_,_,.nil,_=>rfl
 |y::xs,u::us,.cons r t,f=>by
  rw[qbD,qa4]at f
  rw[qdw,qdw,wZ r f.1,kW t f.2]
theorem jH {A:qbd}{s:qam}{x:V}{v:Value} (rx:bJ x v) (fx:iq x=true):∀ {xs:List V}{us:List Value},bf xs us->xs.all iq=true->∀ u∈us,qdo A s u v (eqU x u)
 |_,_,.nil,_=>λu hu=>by cases hu
 |y::xs,u::us,.cons r t,f=>λu' hu=>by
  rw[qbD,qa4]at f
  rcases qaP.mp hu with rfl|hu
  ·rw[wZ r f.1];exact yp r rx f.1 fx
  ·exact jH rx fx t f.2 u' hu
def inV (x:V) (xs:List V):Bool:=xs.any λy=>eqV y x
def rIn (K:qad) (neg:Bool):R2:=λx y H Q=>∃ p xs,y=.ref p/\(SqL K H p xs\/SqT K H p xs)/\iq x=true/\xs.all iq=true/\Q (.bl (if neg then !inV x xs else inV x xs)) H
theorem wt:OpR X (qbv .In) (rIn X.K false):=by
 intro pins s σ H x y v u Q I rx ry h
 obtain⟨p,xs,rfl,hq,fx,fs,q⟩:=h
 cases ry
 rcases hq with hq|hq
 ·obtain⟨its,r,pl,hz⟩:=I.list hq
  refine SeqAt.in_listAt (eqU x) pl.isList (λw hw=>jH rx fx r fs w (by simpa using hw)) ⟨.bl _,H,I,rfl,?_⟩
  rw[show its.toArray.any (eqU x)=its.any (eqU x) by simp,kW r fs]
  exact q
 ·obtain⟨its,r,pl,hz⟩:=I.tuple hq
  refine SeqAt.in_tupleAt (eqU x) pl (λw hw=>jH rx fx r fs w (by simpa using hw)) ⟨.bl _,H,I,rfl,?_⟩
  rw[show its.toArray.any (eqU x)=its.any (eqU x) by simp,kW r fs]
  exact q
theorem qj:OpR X (qbv .NotIn) (rIn X.K true):=by
 intro pins s σ H x y v u Q I rx ry h
 obtain⟨p,xs,rfl,hq,fx,fs,q⟩:=h
 cases ry
 rcases hq with hq|hq
 ·obtain⟨its,r,pl,hz⟩:=I.list hq
  refine SeqAt.notIn_listAt (eqU x) pl.isList (λw hw=>jH rx fx r fs w (by simpa using hw)) ⟨.bl _,H,I,rfl,?_⟩
  rw[show its.toArray.any (eqU x)=its.any (eqU x) by simp,kW r fs]
  exact q
 ·obtain⟨its,r,pl,hz⟩:=I.tuple hq
  refine SeqAt.notIn_tupleAt (eqU x) pl (λw hw=>jH rx fx r fs w (by simpa using hw)) ⟨.bl _,H,I,rfl,?_⟩
  rw[show its.toArray.any (eqU x)=its.any (eqU x) by simp,kW r fs]
  exact q
theorem qH:dD X (.builtin "len") (λxs H Q=>∃ p ys,xs=[.ref p]/\(SqL X.K H p ys\/SqT X.K H p ys)/\Q (.int ys.length) H):=by
 intro pins s σ H xs us Q I r h
 obtain⟨p,ys,rfl,hq,q⟩:=h
 obtain⟨u,rfl,rx⟩:=nu r
 cases rx
 have hn:=kK
 rcases hq with hq|hq
 ·obtain⟨its,r',pl,hz⟩:=I.list hq
  have hlen:=r'.length
  exact Calls.call_len_list pl.isList (by simp only[qaz]<;>lia) ⟨.int ys.length,H,I.tok _,⟨s.toks+1,by rw[qaz,hlen]⟩,q⟩
 ·obtain⟨its,r',pl,hz⟩:=I.tuple hq
  have hlen:=r'.length
  exact len_tuple pl (by simp only[qaz]<;>lia) ⟨.int ys.length,H,I.tok _,⟨s.toks+1,by rw[qaz,hlen]⟩,q⟩
theorem qI:dD X (.builtin "len") (λxs H Q=>∃ z,xs=[.str z]/\z.length<=qaS/\Q (.int z.length) H):=by
 intro pins s σ H xs us Q I r h
 obtain⟨z,rfl,hz,q⟩:=h
 obtain⟨u,rfl,t,rfl⟩:=nu r
 have hn:=kK
 exact len_str (by lia) ⟨.int z.length,H,I.tok _,⟨_,rfl⟩,q⟩
theorem qc:dD X (.type "list") (λxs H Q=>∃ p ys,xs=[.ref p]/\(SqL X.K H p ys\/SqT X.K H p ys)/\∀ l,H l=none->Q (.ref l) (upd H l (.lst ys))):=by
 intro pins s σ H xs us Q I r h
 obtain⟨p,ys,rfl,hq,q⟩:=h
 obtain⟨u,rfl,rx⟩:=nu r
 cases rx
 have fin:∀ (its:List Value),bf ys its->ys.length<=qaS->∀ (h':Heap) (c':Nat),(∀ b o',s.heap.get? b=some o'->h'.get? b=some o')->
   h'.get? s.heap.objs.size=some { cls:=.type "list",dict:=none,data:=.seq its.toArray c',slots:=#[] }->EP X pins σ Q (.ref s.heap.objs.size) { s with heap:=h' }:=λits r' hz h' c' kp e=>
  ⟨.ref s.heap.objs.size,_,I.laid (t':=s.toks) kp (qan _) (show dl X.prog X.w _ h' _ (.lst ys) from ⟨hz,its,c',r',e⟩),rfl,q _ (I.hok.fresh (qan _))⟩
 rcases hq with hq|hq
 ·obtain⟨its,r',pl,hz⟩:=I.list hq
  have hlen:=r'.length
  obtain⟨o,ho,hc,n,hd⟩:=pl.isList
  exact call_list_seq p (.inl rfl) ho hc hd (λh' c' kp e=>fin its r' hz h' c' kp e) (by simp only[qaz]<;>lia)
 ·obtain⟨its,r',pl,hz⟩:=I.tuple hq
  have hlen:=r'.length
  obtain⟨o,ho,hc,n,hd⟩:=pl
  exact call_list_seq p (.inr rfl) ho hc hd (λh' c' kp e=>fin its r' hz h' c' kp e) (by simp only[qaz]<;>lia)
theorem oO:dD X (.type "tuple") (λxs H Q=>∃ p ys,xs=[.ref p]/\((SqL X.K H p ys/\∀ l,H l=none->Q (.ref l) (upd H l (.tup ys)))\/(SqT X.K H p ys/\Q (.ref p) H))):=by
 intro pins s σ H xs us Q I r h
 obtain⟨p,ys,rfl,h⟩:=h
 obtain⟨u,rfl,rx⟩:=nu r
 cases rx
 rcases h with⟨hq,q⟩|⟨hq,q⟩
 ·obtain⟨its,r',pl,hz⟩:=I.list hq
  have hlen:=r'.length
  refine call_tuple_list pl.isList (λh' kp=>?_) (by simp only[qaz]<;>lia)
  have I1:Inv X pins σ H { s with heap:=h' }:=I.kept (t':=s.toks) kp
  have I2:Inv X pins σ (upd H h'.objs.size (.tup ys)) { s with heap:=h'.push { cls:=.type "tuple",data:=.seq its.toArray } }:=
   I1.laid (t':=s.toks) (λb o e=>qak _ e) (qan _) (show dl X.prog X.w _ _ _ (.tup ys) from ⟨hz,its,r',eL.new _ _⟩)
  exact⟨.ref h'.objs.size,_,I2,rfl,q _ (I1.hok.fresh (qan _))⟩
 ·obtain⟨its,r',pl,hz⟩:=I.tuple hq
  exact call_tuple_same pl ⟨.ref p,H,I,rfl,q⟩
def tyV (K:qad) (T:String) (x:V) (H:Hp):Prop:=match x with
 |.str _=>T = "str"
 |.int _=>T = "int"
 |.ref p=>(T = "list"/\∃ xs,SqL K H p xs)\/(T = "tuple"/\((∃ o,K.lookup p=some o/\o.cls=.type "tuple"/\o.dict=none)\/∃ xs,SqT K H p xs))\/
   (T = "dict"/\((∃ kvs,H p=some (.dK kvs))\/∃ kvs,H p=some (.dT kvs)))\/(T = "set"/\∃ S n,H p=some (.set S n))
 |_=>False
theorem Bj {pins:List (Addr×Obj)}{σ:St}{H:Hp}{s:qam}{T:String}{x:V}{v:Value} (I:Inv X pins σ H s) (r:bJ x v) (ty:tyV X.K T x H) :
  s.TypeIs v T/\∀ a,v=.ref a->∃ ob,s.heap.get? a=some ob/\ob.dict=none:=by
 cases x with
 |str z=>
  obtain⟨t,rfl⟩:=r
  cases (show T = "str" from ty)
  exact⟨typeIs_str s z t,λ_ e=>nomatch e⟩
 |int i=>
  obtain⟨t,rfl⟩:=r
  cases (show T = "int" from ty)
  exact⟨qeK s i t,λ_ e=>nomatch e⟩
 |ref p=>
  cases r
  rcases ty with⟨rfl,xs,hq⟩|⟨rfl,ht⟩|⟨rfl,hk⟩|⟨rfl,S,n,hk⟩
  ·obtain⟨its,_,pl,_⟩:=I.list hq
   refine⟨pl.isList.typeIs,λa e=>?_⟩
   cases e
   obtain⟨o,n,e,c,hd,_⟩:=pl
   exact⟨o,e,hd⟩
  ·have z:∃ o:Obj,s.heap.get? p=some o/\o.cls=.type "tuple"/\o.dict=none:=by
    rcases ht with⟨o,hk,hc,hd⟩|⟨xs,hq⟩
    ·exact⟨o,I.kIn p o hk,hc,hd⟩
    ·exact I.tuple1 hq
   obtain⟨o,e1,hc,hd⟩:=z
   refine⟨⟨o,e1,hc⟩,λa e=>?_⟩
   cases e
   exact⟨o,e1,hd⟩
  ·have z:∃ o,s.heap.get? p=some o/\o.ExactDict:=by
    rcases hk with⟨kvs,hk⟩|⟨kvs,hk⟩
    ·obtain⟨_,_,_,_,o,_,_,e,ex,_⟩:=I.hok p _ hk
     exact⟨o,e,ex⟩
    ·obtain⟨_,_,_,_,o,_,_,e,ex,_⟩:=I.hok p _ hk
     exact⟨o,e,ex⟩
   obtain⟨o,e,ex⟩:=z
   refine⟨⟨o,e,ex.1⟩,λa e2=>?_⟩
   cases e2
   exact⟨o,e,ex.2.1⟩
  ·obtain⟨o,_,_,_,e,ex,_⟩:=I.hok p _ hk
   refine⟨⟨o,e,ex.1⟩,λa e2=>?_⟩
   cases e2
   exact⟨o,e,ex.2.1⟩
 |_=>exact qb4 ty
def tBM (K:qad) (T:String) (r:V->List V->Hp->VK->Prop) (to:TE) (t:TA):TE:=λσ H Q=>to σ H λx H1=>tyV K T x H1/\t σ H1 λxs H2=>r x xs H2 Q
variable {o e:Expr}{es:List Expr}{to:TE}{t:TA}{name:Str}{apos cpos:Pos}{T id:String}{r:V->List V->Hp->VK->Prop}
theorem zW (pa:PlainAttrs T) (slot:Slot T name id) (hty:typeOf (.builtin id)=pure (.type "method_descriptor")) (hm:MtR X id r) (ho:PE X o to) (ha:PA X (e::es) t)
  (hbase:qcs o name X.env (eval o X.env)=eval o X.env:=by rfl)
  (hfew:((qdM cpos (qbl (e::es) X.env)).all (λx=>!x.1) && (qgF cpos (qe8 [] X.env)).all (λx=>x.1.isSome)
    && decide ((e::es).length+([]:List qgz).length+(if ([]:List qgz).isEmpty then 0 else 1)<30))=true:=by rfl)
  (hline:(apos.endLine==cpos.line)=true:=by rfl) (hs:qbl (e::es) X.env=(false,eval e X.env)::qbl es X.env:=by rfl) (hplain:(qdM cpos (qbl es X.env)).any (·.1)=false:=by rfl) :
  PE X (.Call (.Attribute o name apos) (e::es) [] cpos) (tBM X.K T r to t):=by
 intro pins s σ H Q I h
 refine wpAny_Call_method_late hbase hfew hline rfl (thn (ho pins s σ H _ I h) λv s1 ⟨x,H1,I1,r1,ty,q1⟩=>?_)
 obtain⟨h1,h2⟩:=Bj I1 r1 ty
 refine⟨T,id,pa,slot,hty,h1,h2,?_⟩
 have hA:=ha cpos pins s1 σ H1 _ I1 q1
 rw[hs]at hA ⊢
 refine Calls.callWith_builtin (by show (false||(qdM cpos (qbl es X.env)).any (·.1))=false;rw[hplain]<;>rfl) (Calls.evalArgs_plain ?_)
 exact thn hA λus s2 ⟨vs,H2,I2,r2,q2⟩=>hm pins s2 σ H2 x vs v us Q I2 r1 r2 q2
end
def MtM (X:Cx) (id:String) (r:V->List V->Hp->VK->Prop):Prop:=
 ∀ (pins:List (Addr×Obj)) (s:qam) (σ:St) (H:Hp) (x:V) (xs:List V) (v:Value) (us:List Value) (Q:VK),Inv X pins σ H s->bJ x v->bf xs us->r x xs H Q->
  wpAny (model X.prog X.w) X.A (call (.builtin id) (v::us)) (EP X pins σ Q) X.xe s
theorem bf.one:∀ {x:V}{us:List Value},bf [x] us->∃ u,us=[u]/\bJ x u
 |_,_,.cons r .nil=>⟨_,rfl,r⟩
theorem bf.two {x y:V}{us:List Value} (h:bf [x,y] us):∃ u v,us=[u,v]/\bJ x u/\bJ y v:=by
 cases h with
 |cons r t=>cases t with
  |cons q t2=>cases t2;exact⟨_,_,rfl,r,q⟩
theorem bf.eraseIdx:∀ {xs:List V}{us:List Value} (i:Nat),bf xs us->bf (xs.eraseIdx i) (us.eraseIdx i)
 |_,_,_,.nil=>.nil
 |_,_,0,.cons _ t=>t
 |_,_,i+1,.cons r t=>.cons r (bf.eraseIdx i t)
theorem bf.rep {xs:List V}{us:List Value} (h:bf xs us):∀ k:Nat,bf (qaB k xs).flatten (qaB k us).flatten
 |0=>.nil
 |k+1=>by
  rw[qbc,qbc,qcn,qcn]
  exact bf.append h (bf.rep h k)
theorem pw {α:Type}:∀ (l:List α) (i:Nat),(l.eraseIdx i).length<=l.length
 |[],_=>qan _
 |_::_,0=>qc5 _
 |_::r,i+1=>Nat.succ_le_succ (pw r i)
theorem lp (its:List Value):∀ (k:Nat) (acc:List Value),
  qe1 (λx1 x2=>x1++x2) acc.toArray (qaB k its.toArray)=(acc++(qaB k its).flatten).toArray
 |0,acc=>by simp
 |k+1,acc=>by
  have e:acc.toArray++its.toArray=(acc++its).toArray:=by simp
  have e2:(acc++its)++(qaB k its).flatten=acc++(qaB (k+1) its).flatten:=by
   rw[qbc,qcn,qbz]
  rw[<-e2,<-lp its k (acc++its),<-e,qbc,List.foldl_cons]
section
variable {X:Cx}{pins:List (Addr×Obj)}{σ:St}{H:Hp}{s:qam}{l b:Addr}{xs ys zs:List V}
theorem Inv.lset {its its':List Value}{n:Nat}{f:Array Value->Array Value}{t':Nat} (I:Inv X pins σ H s) (hH:H l=some (.lst xs))
  (e:s.heap.get? l=some { cls:=.type "list",data:=.seq its.toArray n }) (hf:f its.toArray=its'.toArray) (hv:bf ys its') (hz:ys.length<=qaS) :
  Inv X pins σ (upd H l (.lst ys)) { s with heap:=s.heap.update l (qcR f),toks:=t' }:=by
 have q:=qd6 e f
 rw[hf]at q
 refine I.write (x:=l) (e:=l) (by rw[hH];exact trivial) (.inl rfl) (λb' u hb hu=>(qcP s.heap (qcR f) (qbu hb)).trans hu) ⟨_,q⟩ ?_
 exact⟨hz,its',_,hv,q⟩
theorem Inv.lnew {its:List Value}{t':Nat} (I:Inv X pins σ H s) (hv:bf ys its) (hz:ys.length<=qaS) :
  Inv X pins σ (upd H s.heap.objs.size (.lst ys)) { s with heap:=s.heap.push { cls:=.type "list",data:=.seq its.toArray },toks:=t' }:=
 I.laid (λ_ _ q=>qak _ q) (qan _) ⟨hz,its,0,hv,qaI _ rfl⟩
theorem Inv.fresh (I:Inv X pins σ H s):H s.heap.objs.size=none:=I.hok.fresh (qan _)
theorem Inv.lstM (I:Inv X pins σ H s) (hH:H l=some (.lst xs)):xs.length<=qaS/\∃ (its:List Value) (n:Nat),bf xs its/\xs.length=its.length/\s.heap.get? l=some { cls:=.type "list",data:=.seq its.toArray n }:=by
 obtain⟨z,its,n,r,e⟩:=I.hok l _ hH
 exact⟨z,its,n,r,r.length,e⟩
theorem xO {n:Nat} (h:n<=qaS):qc2 n=false:=by
 unfold qc2
 exact decide_eq_false (by lia)
end
section
variable {X:Cx}
def zj:V->List V->Hp->VK->Prop:=λx vs H Q=>∃ l xs y,x=.ref l/\vs=[y]/\H l=some (.lst xs)/\xs.length<qaS/\Q .non (upd H l (.lst (xs++[y])))
theorem wu:MtM X "list.append" zj:=by
 intro pins s σ H x vs v us Q I rx rv h
 obtain⟨l,xs,y,rfl,rfl,hH,hz,q⟩:=h
 cases rx
 obtain⟨u,rfl,ru⟩:=rv.one
 obtain⟨z,its,n,r,hl,e⟩:=I.lstM hH
 refine qcN qes ⟨_,e,rfl⟩ qeg (qd8 _ _) (qee l its.toArray n u (by rw[qaz];lia)) ⟨e,?_⟩
 refine⟨.non,_,I.lset (its':=its++[u]) hH e (by simp) (r.append (.cons ru .nil)) ?_,rfl,q⟩
 rw[qap,qbZ]
 lia
def Bf:V->List V->Hp->VK->Prop:=λx vs H Q=>∃ l xs i k y,x=.ref l/\vs=[.int i]/\H l=some (.lst xs)/\-(2^63)<=i/\i<2^63/\qh1 i xs.length=some k/\xs[k]?=some y/\Q y (upd H l (.lst (xs.eraseIdx k)))
theorem xU:MtM X "list.pop" Bf:=by
 intro pins s σ H x vs v us Q I rx rv h
 obtain⟨l,xs,i,k,y,rfl,rfl,hH,h1,h2,hk,hy,q⟩:=h
 cases rx
 obtain⟨u,rfl,ru⟩:=rv.one
 obtain⟨t,rfl⟩:=ru
 obtain⟨z,its,n,r,hl,e⟩:=I.lstM hH
 obtain⟨w,hw,rw'⟩:=r.get hy
 refine qcN F.slot_list_pop ⟨_,e,rfl⟩ F.entry_list_pop (F.args_list_pop_2 _ _)
  (MeetsSeq.list_pop_at l its.toArray n i t k w (qia h1 h2) (by rw[qaz,<-hl];exact hk) (by rw[<-Array.getElem?_toList];exact hw) (by rw[qaz];lia)) ⟨e,?_⟩
 refine⟨y,_,I.lset (its':=its.eraseIdx k) hH e ?_ (r.eraseIdx k) ?_,rw',q⟩
 ·show its.toArray.eraseIdxIfInBounds k=(its.eraseIdx k).toArray
  rw[List.eraseIdxIfInBounds_toArray]
 ·have:=pw xs k
  lia
theorem pS {α:Type} (xs:List α) (k:Nat):(qaB k xs).flatten.length=k*xs.length:=by
 induction k with
 |zero=>simp
 |succ k ih=>rw[qbc,qcn,qap,ih,qhP,Nat.add_comm]
end
section
variable {prog:qa5}{w:World}{A:qbd}{E:Value->qam->Prop}{s:qam}
end
section
variable {X:Cx}
end
end L2
namespace Att
open PySem PySem.W PySem.Calls PyProof.Rows
theorem mm {P:Params}{h:Heap}:∀ (ns:List Int) (vs:List Value),WellAll P h vs (ns.map WData.int)->qfS vs ns:=by
 intro ns
 induction ns with
 |nil=>
  intro vs w
  rw[qcy]at w
  cases w
  exact .nil
 |cons n ns ih=>
  intro vs w
  rw[qay]at w
  cases w with
  |cons a b=>
   cases a
   exact .cons _ _ (ih _ b)
theorem wp {l:OpenLaw}{n:Nat} (hn:l.most=some n) {P:Params}{h:Heap}{args:List WData}{vals:List Value}
  (hpre:l.row.toRowW.claim.pre args=true) (hwl:WellAll P h vals args) :
  ∃ a vs ns,vals=[Value.ref a]/\args=[WData.list (ns.map WData.int)]/\h.get? a=some { cls:=.type "list",data:=.seq vs.toArray }/\qfS vs ns/\ns.length<=n:=by
 have hsh:WShape.hasAll [] args [.list .int]=true:=(pre_splitW hpre).1
 have hc:l.pre.holds [] { args:=args }=true:=(pre_splitW hpre).2
 obtain⟨d,r,rfl,h1,h2⟩:=hasAllW_cons hsh
 obtain rfl:=hasAllW_nil h2
 obtain⟨xs,rfl,h3⟩:=hasW_list h1
 obtain⟨ns,rfl⟩:=items_int h3
 have hlen:ns.length<=n:=by
  unfold OpenLaw.pre at hc
  have h4:(WTm.not (.lt (.lit (.int (n:Int))) (.len (.arg 0)))).holds [] { args:=[.list (ns.map .int)] }=true:=by
   have h4:=(holds_andW hc).1
   rw[hn]at h4
   exact h4
  have h5:=condW_of h4 (w_not (w_lt w_lit (w_len_list (w_arg rfl))))
  rw[qai]at h5
  refine Nat.le_of_not_lt λq=>?_
  have q':(n:Int)<((ns.length:Nat):Int):=by lia
  first
   |(rw[decide_eq_true q']at h5;exact absurd h5 (by decide))
   |(simp at h5;lia)
 cases hwl with
 |cons w1 w2=>
  cases w2
  cases w1 with
  |list ho hall=>exact⟨_,_,ns,rfl,rfl,ho,mm ns _ hall,hlen⟩
theorem wr (l:OpenLaw) (args:List WData):l.row.toRowW.claim.post args (.bool true) args=true:=
 postW_of (r:=l.row.toRowW) (X:=(true==true))
  (show qgT [] (.bool true) .bool=true by first|rfl|decide|simp[qgT,WShape.arms,WShape.armsAll])
  (show (WTm.eq .res (.lit (.bool true))).value [] { args:=args,res:=some (.bool true),after:=args }=some (.bool (true==true)) from w_eq_bool (w_res rfl) w_lit) rfl
theorem attach_call {l:OpenLaw}{n:Nat}{q:qa5}{loose:List Str}{XP:(Str->Option Value)->Heap->Prop}{YP:World->Heap->Prop}{d:DefRec}
  (hn:l.most=some n) (hdf:d.params.defaults=[])
  (call:∀ (w:World) (s₀ s₁:qam) (mg mb:Str->Option Value) (fa:Addr) (o:Obj) (pm cd doc:Value) (a:Addr) (vs:List Value) (ns:List Int),
    Ground q loose [] XP w s₀ mg mb s₁.heap->YP w s₁.heap->
    s₁.heap.get? fa=some o->o.data=.func (docDef d.name d.params d.body d.scope pm cd doc)->s₁.heap.CodeRec cd d.name->mg d.name=some (.ref fa)->
    s₁.heap.get? a=some { cls:=.type "list",data:=.seq vs.toArray }->qfS vs ns->ns.length<=n->s₁.gens=#[]->
    qem (model l.prog w) qfa (.call (.ref fa) ⟨[.ref a],[]⟩) (λr s'=>r=.ok (.ret (.bool true))/\OldK s₁.heap s'.heap/\s'.os=s₁.os/\qet s'.gens) s₁) :
  WalkO q loose XP YP l.row.toRowW d [] (λf vs=>qfL f vs):=by
 intro w s₀ s₁ mg mb G Y fa o pm cd doc dV kV ho hd hcd hD hmg hg args vals as hpre hlay hrd hwl hlo
 obtain rfl:dV=.none:=Dflts.none hD hdf
 obtain rfl:kV=.none:=Dflts.noKw hD
 obtain⟨a,vs,ns,rfl,rfl,hobj,hints,hlen⟩:=wp hn hpre hwl
 refine enter_call (qeS (call w s₀ s₁ mg mb fa o pm cd doc a vs ns G Y ho (fd_plain hd) hcd hmg hobj hints hlen hg) λr s' hq=>?_)
 obtain⟨rfl,h2,h3,h4⟩:=hq
 exact⟨.inl ⟨.bool true,.bool true,[],rfl,λ_=>rfl,.bool true,wr l _,λ_=>⟨List.Pairwise.nil,λ_ hm=>(nomatch hm)⟩⟩,h2,h3,h4⟩
section
variable {prog:qa5}{w:World}{A:qbd}{E:Value->qam->Prop}{s:qam}{K:Frag}
end
end Att
namespace L2
open PySem PySem.Spec PyProof.Rows
theorem o0:∀ {vs:List Value}{ns:List Int},qfS vs ns->bf (ns.map V.int) vs
 |_,_,.nil=>.nil
 |_,_,.cons n t h=>.cons ⟨t,rfl⟩ (o0 h)
def zt (H:Hp):Prop:=∀ b,H b=none\/∃ o xs,H b=some (.frz o (.lst xs))
theorem wL {P:qa5}{w:World}{K:qad}{mg mb:Str->Option Value}{CX:CXT}{k:Nat}{fa a:Addr}{fd:qaX}{x:Str}{sp:Sp}{s₁:qam}{vs:List Value}{ns:List Int}
  (KX:K.In s₁.heap) (hns:s₁.heap.Ns qaw mg) (hb:s₁.heap.Ns qfy mb) (hbb:∀ x:Str,x≠"__name__"->mb x=qcb x) (hlim:s₁.heap.NoLimit) (hg:s₁.gens=#[])
  (ha:s₁.heap.get? a=some { cls:=.type "list",data:=.seq vs.toArray }) (hi:qfS vs ns) (hl:ns.length<=qaS) (hr:dN k qfa)
  (F:∀ base:Heap,K.In base->base.Ns qaw mg->bW P w K mg base CX k fa fd [x] sp) (hbind:∀ (s:qam) (u:Value),qfX s fd ⟨[u],[]⟩ [(x,u)])
  (hsp:∀ H:Hp,zt H->SqL K H a (ns.map V.int)->sp [.ref a] H (λv _=>v=.bl true) λ_ _ _=>False)
  (hCX:∀ H e s',CX [] H s₁ (λ_ _ _=>False) e s'->False) :
  qem (model P w) qfa (.call (.ref fa) ⟨[.ref a],[]⟩) (λr s'=>r=.ok (.ret (.bool true))/\OldK s₁.heap s'.heap/\s'.os=s₁.os/\qet s'.gens) s₁:=by
 have rv:=o0 hi
 have lenV:=hi.length
 -- from an abstract heap in which nothing but the script may be tracked
 have core:∀ H:Hp,zt H->SqL K H a (ns.map V.int)->HOk P w H s₁.heap->(∀ b,H b≠none->b=a)->(H a≠none->K.lookup a=none)->
   qem (model P w) qfa (.call (.ref fa) ⟨[.ref a],[]⟩) (λr s'=>r=.ok (.ret (.bool true))/\OldK s₁.heap s'.heap/\s'.os=s₁.os/\qet s'.gens) s₁:=by
  intro H hO hS hok hA hK
  have base_of:∀ {b:Addr}{o:Obj},s₁.heap.get? b=some o->H b=none->(qw s₁.heap H).get? b=some o:=λe n=>xZ e n
  have noA:∀ {b:Addr}{o:Obj}{es:Array DictEntry}{ep:Nat},s₁.heap.get? b=some o->o.data=.dict es ep->H b=none:=λ{b o es ep} e d=>by
   cases q:H b with
   |none=>rfl
   |some u=>
    have e':b=a:=hA b (by rw[q];simp)
    subst e'
    rw[ha]at e;cases e
    have d':Data.seq vs.toArray _=Data.dict es ep:=d
    cases d'
  have nsK:∀ {b:Addr}{m:Str->Option Value},s₁.heap.Ns b m->(qw s₁.heap H).Ns b m:=λ{b m} ⟨o,es,ep,e,d,r⟩=>⟨o,es,ep,base_of e (noA e d),d,r⟩
  have hKb:K.In (qw s₁.heap H):=λb o e=>base_of (KX b o e) (by
   cases q:H b with
   |none=>rfl
   |some u=>
    have e':b=a:=hA b (by rw[q];simp)
    subst e'
    rw[hK (by rw[q];simp)]at e;cases e)
  have hM:Mod K mg (qw s₁.heap H):=⟨hKb,nsK hns,⟨mb,nsK hb,hbb⟩,let ⟨mc,h1,h2⟩:=hlim;⟨mc,nsK h1,h2⟩⟩
  have e0:um P w K mg (qw s₁.heap H) qfa [] s₁ H:=⟨rfl,hM,λb o e=>yR e,qcB (wa _ _),trivial,λb hb=>absurd (show b∈([]:List Addr) from hb) (by simp),hok,.of_eq hg⟩
  refine qeS ((F _ hKb (nsK hns)).run qfa [] s₁ H ⟨[.ref a],[]⟩ [.ref a] [.ref a] _ _ hr e0 (hbind s₁ (.ref a)) (.cons rfl .nil) (hsp H hO hS)) λr s' h=>?_
  cases r with
  |error e=>exact (hCX H e s' h).elim
  |ok fl=>
   cases fl with
   |next=>exact qb4 h
   |brk=>exact qb4 h
   |cont=>exact qb4 h
   |ret u=>
    obtain⟨v,H',os,bare,un,hok',r',q⟩:=h
    have q':v=.bl true:=q
    subst q'
    obtain rfl:u=Value.bool true:=r'
    refine⟨rfl,OldK.of_keep λb o e=>?_,os,bare⟩
    cases q:H b with
    |none=>exact un.keep b o e q (by intro z;exact absurd (show b∈([]:List Addr) from z) (by simp)) (by simp)
    |some u=>
     rcases hO b with z|⟨ob,xs,z⟩
     ·rw[q]at z;cases z
     ·have z2:=un.frzs b ob _ z
      obtain⟨e1,_⟩:=hok b _ z
      obtain⟨e2,_⟩:=hok' b _ z2
      rw[e]at e1;cases e1
      exact e2
 cases hk:K.lookup a with
 |some o=>
  -- the script is one of the module's own objects
  have e:=KX a o hk
  rw[ha]at e
  cases e
  refine core (λ_=>none) (λ_=>.inl rfl) (.inr ⟨_,vs.toArray,_,hk,rfl,rfl,rfl,by rw[qaz,lenV];exact hl,by simpa using rv⟩) (λb u z=>by have z':(none:Option HO)=some u:=z;cases z') (λb z=>absurd rfl z) λz=>absurd rfl z
 |none=>
  refine core (λb=>if b=a then some (.frz { cls:=.type "list",data:=.seq vs.toArray } (.lst (ns.map V.int))) else none) (λb=>?_) (.inl (.inr ⟨{ cls:=.type "list",data:=.seq vs.toArray },if_pos rfl⟩)) (λb u z=>?_) (λb z=>?_) λ_=>hk
  ·by_cases hb:b=a
   ·exact .inr ⟨_,_,if_pos hb⟩
   ·exact .inl (if_neg hb)
  ·by_cases hb:b=a
   ·have z':=(if_pos hb).symm.trans z
    cases z'
    subst hb
    exact⟨ha,by rw[qai];exact hl,vs,_,rv,ha⟩
   ·have z':=(if_neg hb).symm.trans z
    cases z'
  ·by_cases hb:b=a
   ·exact hb
   ·exact absurd (if_neg hb) z
theorem walk_of {l:qeq}{n k:Nat}{q:qa5}{loose:List Str}{XP:(Str->Option Value)->Heap->Prop}{YP:World->Heap->Prop}{d:DefRec}{K:Params->qad}{CX:World->CXT}{sp:World->Sp}{x:Str}
  (hn:l.most=some n) (hn2:n<=qaS) (hdf:d.params.defaults=[]) (hr:dN k qfa)
  (hY:∀ (w:World) (h:Heap),YP w h->(K w.params).In h)
  (F:∀ (w:World) (mg:Str->Option Value) (fa:Addr) (h:Heap),(K w.params).In h->h.Ns qaw mg->mg d.name=some (.ref fa)->
    ∃ fd:qaX,(∀ (s:qam) (u:Value),qfX s fd ⟨[u],[]⟩ [(x,u)])/\
     ∀ base:Heap,(K w.params).In base->base.Ns qaw mg->bW l.prog w (K w.params) mg base (CX w) k fa fd [x] (sp w))
  (hsp:∀ (w:World) (H:Hp) (a:Addr) (ns:List Int),ns.length<=n->zt H->SqL (K w.params) H a (ns.map V.int)->sp w [.ref a] H (λv _=>v=.bl true) λ_ _ _=>False)
  (hCX:∀ (w:World) (H:Hp) (s:qam) (e:Value) (s':qam),CX w [] H s (λ_ _ _=>False) e s'->False) :
  qgc q loose XP YP l.row.toRowW d [] (λf vs=>qfL f vs):=by
 refine Att.attach_call hn hdf λw s₀ s₁ mg mb fa o pm cd doc a vs ns G Y ho hd hcd hmg hobj hints hlen hg=>?_
 have KX:=hY w _ Y
 obtain⟨fd,hb,hF⟩:=F w mg fa _ KX G.T.g hmg
 exact wL KX G.T.g G.T.b G.T.builtins G.T.nolimit hg hobj hints (qa6 hlen hn2) hr hF hb (λH hO hS=>hsp w H a ns hlen hO hS) λH e s'=>hCX w H s₁ e s'
def aT (s:Stmt):Arguments:=match s with
 |.FunctionDef _ a _ _ _ _ _ _ _ _=>a
 |_=>{ posonlyargs:=[],args:=[],vararg:=none,kwonlyargs:=[],kw_defaults:=[],kwarg:=none,defaults:=[] }
def aH (s:Stmt):List Stmt:=match s with
 |.FunctionDef _ _ b _ _ _ _ _ _ _=>b
 |_=>[]
def ah (s:Stmt):Scope:=match s with
 |.FunctionDef _ _ _ _ _ _ sc _ _ _=>sc
 |_=>{ kind:=.function,names:=[],isGenerator:=false,isCoroutine:=false }
abbrev CX0:CXT:=λ_ _ _ _ _ _=>False
abbrev E0:XK:=λ_ _ _=>False
theorem wJ {X:Cx}:nq CX0 X E0:=λ_ _ _ _ _ _ _ h=>h.elim
structure Fun (K:qad) (x qual:Str) (st:Stmt) (f:Addr) (fd:qaX):Prop where
 ex:∃ (oc:Value) (od:Option Addr) (kV doc pm:Value) (an:Option Addr) (cdv ct:Value) (osl:Array (Option Value)),
  fd=qaJ x qual (aT st) (aH st) (ah st) .none kV doc pm an cdv ct/\K.lookup f=some ⟨oc,od,.func fd,osl⟩/\qaD K cdv qual=true
 kp:qax K (.ref f)=true
section
variable {P:qa5}{w:World}{K:qad}{mg:Str->Option Value}{base:Heap}
theorem Fun.ok {x qual:Str}{st:Stmt}{f:Addr}{fd:qaX}{N ps:List Str}{k:Nat}{sp:Sp} (F:Fun K x qual st f fd) (S:aP N ps (ah st)) (len:∀ vs H Q E,sp vs H Q E->vs.length=ps.length)
  (hbody:∀ (cdv:Value) (A:qbd) (outer:List Env) (s:qam) (H:Hp) (vs:List V) (Q:VK) (E:XK),dN k (A.deeper (qej qual (ah st) s.heap.objs.size f cdv))->sp vs H Q E->
    ∃ t,PSs (oj CX0 P w K mg base N qual (ah st) f cdv A outer s H E).nox (aH st) t/\t { nx:=λ_ H'=>Q .non H',rt:=Q } (gY N vs) H):bW P w K mg base CX0 (k+1) f fd ps sp:=by
 obtain⟨oc,od,kV,doc,pm,an,cdv,ct,osl,rfl,lk,hcd⟩:=F.ex
 refine Cq lk hcd S len λA outer s H vs Q E hr hsp=>?_
 obtain⟨t,h,q⟩:=hbody cdv A outer s H vs Q E hr hsp
 exact⟨t,h.nox,q⟩
theorem Fun.binds {x qual:Str}{st:Stmt}{f:Addr}{fd:qaX}{ps:List Str} (F:Fun K x qual st f fd)
  (h:∀ (kV doc pm:Value) (an:Option Addr) (cdv ct:Value) (us:List Value),us.length=ps.length->bindArgs (qaJ x qual (aT st) (aH st) (ah st) .none kV doc pm an cdv ct) ⟨us,[]⟩=pure (ps.zip us)):bA K fd ps []:=by
 obtain⟨oc,od,kV,doc,pm,an,cdv,ct,osl,rfl,lk,hcd⟩:=F.ex
 exact .all (h kV doc pm an cdv ct)
theorem bx {x qual:Str}{st:Stmt}{f:Addr}{oc:Value}{od an:Option Addr}{osl:Array (Option Value)}{kV doc pm cdv ct:Value} (l:K.lookup f=some ⟨oc,od,.func (qaJ x qual (aT st) (aH st) (ah st) .none kV doc pm an cdv ct),osl⟩)
  (c:qaD K cdv qual=true) (k:qax K (.ref f)=true):Fun K x qual st f (qaJ x qual (aT st) (aH st) (ah st) .none kV doc pm an cdv ct):=⟨⟨oc,od,kV,doc,pm,an,cdv,ct,osl,rfl,l,c⟩,k⟩
end
theorem we {n:Nat} (h:n<=1000):n<qaS:=qb0 h (by decide)
section
variable {X:Cx}
end
theorem uy {A B:Prop} (h:B):if false=true then A else B:=by
 rw[if_neg qaH]
 exact h
theorem uc {A B:Prop} (h:A):if true=true then A else B:=by
 rw[if_pos rfl]
 exact h
def bv (H H':Hp):Prop:=∀ b o,H b=some o->H' b=some o
theorem bv.refl (H:Hp):bv H H:=λ_ _ h=>h
theorem bv.trans {H H1 H2:Hp} (a:bv H H1) (b:bv H1 H2):bv H H2:=λc o h=>b c o (a c o h)
def cw (cells:List (Str×Addr)):List (Str×qbK)->List (Str×Addr)->List (Str×Addr)
 |[],acc=>acc
 |(n,k)::r,acc=>if k==.free then cw cells r ((n,(cells.lookup n).getD 0)::acc) else cw cells r acc
theorem kD {env:Env} (f:Str×qbK->List (Str×Addr)->Sem (ForInStep (List (Str×Addr))))
  (hf:∀ n k cs,f (n,k) cs=if k==.free then (do let c <-cellOf env n;pure (.yield ((n,c)::cs))) else pure (.yield cs)) :
  ∀ (names:List (Str×qbK)) (acc:List (Str×Addr)),(∀ x∈names,x.2=.free->∃ c,env.cells.lookup x.1=some c)->
   forIn names acc f=pure (cw env.cells names acc)
 |[],acc,_=>by rw[qdQ];rfl
 |(n,k)::r,acc,h=>by
  rw[qeG,hf]
  unfold cw
  by_cases hk:(k==.free)=true
  ·obtain⟨c,hc⟩:=h (n,k) qaf (beq_iff_eq.mp hk)
   have hc':env.cells.lookup n=some c:=hc
   rw[if_pos hk,if_pos hk]
   have:cellOf env n=pure c:=by unfold cellOf;rw[hc']
   rw[this,hc']
   simp only[pure_bind,Option.getD_some]
   exact kD f hf r _ λx hx=>h x (qal _ hx)
  ·rw[if_neg hk,if_neg hk]
   simp only[pure_bind]
   exact kD f hf r _ λx hx=>h x (qal _ hx)
theorem kl {scope:Scope}{env:Env} (h:∀ x∈scope.names,x.2=.free->∃ c,env.cells.lookup x.1=some c) :
  closureFor scope env=pure (cw env.cells scope.names []):=by
 simp only[closureFor]
 rw[kD (env:=env) _ (λn k cs=>by cases hk:k==NameKind.free<;>simp[hk]) scope.names [] h]
 simp
theorem iA {cells:List (Str×Addr)}:∀ (names:List (Str×qbK)) (acc:List (Str×Addr)) {x:Str}{c:Addr},(cw cells names acc).lookup x=some c->
  acc.lookup x=some c\/((x,NameKind.free)∈names/\c=(cells.lookup x).getD 0)
 |[],_,_,_,h=>.inl h
 |(n,k)::r,acc,x,c,h=>by
  unfold cw at h
  by_cases hk:(k==.free)=true
  ·rw[if_pos hk]at h
   rcases iA r _ h with q|⟨q1,q2⟩
   ·rw[qbn]at q
    cases hx:x==n with
    |true=>
     rw[hx]at q
     have e:=beq_iff_eq.mp hx
     subst e
     exact .inr ⟨by rw[<-beq_iff_eq.mp hk];exact qaf,(qaZ q).symm⟩
    |false=>rw[hx]at q;exact .inl q
   ·exact .inr ⟨qal _ q1,q2⟩
  ·rw[if_neg hk]at h
   rcases iA r _ h with q|⟨q1,q2⟩
   ·exact .inl q
   ·exact .inr ⟨qal _ q1,q2⟩
theorem gW {cells:List (Str×Addr)}{x:Str}:∀ (names:List (Str×qbK)) (acc:List (Str×Addr)),((x,NameKind.free)∈names\/(acc.lookup x).isSome=true)->((cw cells names acc).lookup x).isSome=true
 |[],_,h=>h.elim (λz=>nomatch z) id
 |(n,k)::r,acc,h=>by
  unfold cw
  by_cases hk:(k==.free)=true
  ·rw[if_pos hk]
   refine gW r _ ?_
   rcases h with h|h
   ·rcases qaP.mp h with e|h
    ·cases e
     exact .inr (by rw[qbn,beq_self_eq_true];rfl)
    ·exact .inl h
   ·refine .inr ?_
    rw[qbn]
    cases x==n
    ·exact h
    ·rfl
  ·rw[if_neg hk]
   refine gW r _ ?_
   rcases h with h|h
   ·rcases qaP.mp h with e|h
    ·cases e;exact absurd rfl hk
    ·exact .inl h
   ·exact .inr h
theorem fm:∀ (names:List (Str×qbK)) (n:Nat) (acc:List (Str×Addr)) {x:Str}{c:Addr},(qbM n names acc).lookup x=some c->acc.lookup x=some c\/((x,NameKind.cell)∈names/\n<=c)
 |[],_,_,_,_,h=>.inl h
 |(m,k)::r,n,acc,x,c,h=>by
  unfold qbM at h
  by_cases hk:(k==.cell)=true
  ·rw[if_pos hk]at h
   rcases fm r _ _ h with q|⟨q1,q2⟩
   ·rw[qbn]at q
    cases hx:x==m with
    |true=>
     rw[hx]at q
     have e:=beq_iff_eq.mp hx
     subst e
     exact .inr ⟨by rw[<-beq_iff_eq.mp hk];exact qaf,by rw[qaZ q];exact qan _⟩
    |false=>rw[hx]at q;exact .inl q
   ·exact .inr ⟨qal _ q1,Nat.le_of_succ_le q2⟩
  ·rw[if_neg hk]at h
   rcases fm r _ _ h with q|⟨q1,q2⟩
   ·exact .inl q
   ·exact .inr ⟨qal _ q1,q2⟩
theorem oz:∀ (names:List (Str×qbK)) (n:Nat) (acc:List (Str×Addr)),(∀ p∈acc,p.2<n)->∀ {x y:Str}{c:Addr},(qbM n names acc).lookup x=some c->(qbM n names acc).lookup y=some c->n<=c->x=y:=by
 have key:∀ (names:List (Str×qbK)) (n:Nat) (acc:List (Str×Addr)) (lo:Nat),lo<=n->(∀ p∈acc,p.2<n)->(∀ p∈acc,∀ q∈acc,lo<=p.2->p.2=q.2->p.1=q.1)->
   ∀ p∈qbM n names acc,∀ q∈qbM n names acc,lo<=p.2->p.2=q.2->p.1=q.1:=by
  intro names
  induction names with
  |nil=>intro n acc lo _ _ h;exact h
  |cons z r ih=>
   intro n acc lo hlo hlt h
   obtain⟨m,k⟩:=z
   unfold qbM
   by_cases hk:(k==.cell)=true
   ·rw[if_pos hk]
    refine ih _ _ lo (Nat.le_succ_of_le hlo) (λp hp=>?_) (λp hp q hq l e=>?_)
    ·rcases qaP.mp hp with e|hp
     ·rw[e];exact qbI _
     ·exact qbo (hlt p hp)
    ·rcases qaP.mp hp with e1|hp<;>rcases qaP.mp hq with e2|hq
     ·rw[e1,e2]
     ·rw[e1]at e;exact absurd (hlt q hq) (by rw[<-e];exact qa2 _)
     ·rw[e2]at e;exact absurd (hlt p hp) (by rw[e];exact qa2 _)
     ·exact h p hp q hq l e
   ·rw[if_neg hk]
    exact ih _ _ lo hlo hlt h
 intro names n acc hlt x y c hx hy hc
 exact key names n acc n (qan _) hlt (λp hp q hq l _=>absurd (hlt p hp) (qge.mpr l)) _ (qbj hx) _ (qbj hy) hc rfl
theorem fV:∀ (names:List (Str×qbK)) (h:Heap) (acc:List (Str×Addr)),(∀ p∈acc,∃ v,h.IsCell p.2 v)->∀ p∈qbM h.objs.size names acc,∃ v,(qd2 h names).IsCell p.2 v
 |[],_,_,h=>h
 |(m,k)::r,h,acc,hc=>by
  unfold qbM qd2
  by_cases hk:(k==.cell)=true
  ·rw[if_pos hk,if_pos hk]
   have:=fV r (h.push { cls:=.type "cell",data:=.cell none }) ((m,h.objs.size)::acc) (λp hp=>by
    rcases qaP.mp hp with e|hp
    ·rw[e];exact⟨none,_,qaI _ rfl,rfl⟩
    ·obtain⟨v,z⟩:=hc p hp
     exact⟨v,z.keeps λb o e=>qak _ e⟩)
   rwa [qbi]at this
  ·rw[if_neg hk,if_neg hk]
   exact fV r h acc hc
theorem gj {names:List (Str×qbK)} (nd:(names.map (·.1)).Nodup):∀ {x:Str}{k:qbK},(x,k)∈names->names.lookup x=some k:=by
 induction names with
 |nil=>intro x k h;cases h
 |cons z r ih=>
  intro x k h
  obtain⟨m,k'⟩:=z
  rw[qay,qb5]at nd
  rw[qbn]
  rcases qaP.mp h with e|h
  ·cases e;rw[beq_self_eq_true]
  ·have:(x==m)=false:=beq_eq_false_iff_ne.mpr λe=>nd.1 (e ▸ qbe.mpr ⟨(x,k),by assumption,rfl⟩)
   rw[this]
   exact ih nd.2 h
theorem eO {env:Env}:∀ {names:List (Str×qbK)}{x:Str}{k:qbK},
  (names.map λ(n,k)=>if (k==NameKind.free&&env.scope.kind==.function&&env.kindOf n==some .cell) then (n,NameKind.cell) else (n,k)).lookup x=some k->
  ∃ k0,names.lookup x=some k0/\(k=k0\/(k0=.free/\k=.cell))
 |[],_,_,h=>by cases h
 |(n,k0)::r,x,k,h=>by
  rw[qay]at h
  dsimp only at h
  rw[qbn]
  by_cases hc:(k0==NameKind.free&&env.scope.kind==.function&&env.kindOf n==some .cell)=true
  ·rw[if_pos hc,qbn]at h
   cases hx:x==n with
   |true=>
    rw[hx]at h
    refine⟨k0,rfl,.inr ⟨?_,(qaZ h).symm⟩⟩
    simp only[qa4]at hc
    exact beq_iff_eq.mp hc.1.1
   |false=>rw[hx]at h;exact eO h
  ·rw[if_neg hc,qbn]at h
   cases hx:x==n with
   |true=>rw[hx]at h;exact⟨k0,rfl,.inl (qaZ h).symm⟩
   |false=>rw[hx]at h;exact eO h
theorem iR {env:Env}:∀ {names:List (Str×qbK)}{x:Str},names.lookup x=some .free->
  (names.map λ(n,k)=>if (k==NameKind.free&&env.scope.kind==.function&&env.kindOf n==some .cell) then (n,NameKind.cell) else (n,k)).lookup x=some .free\/
  (names.map λ(n,k)=>if (k==NameKind.free&&env.scope.kind==.function&&env.kindOf n==some .cell) then (n,NameKind.cell) else (n,k)).lookup x=some .cell
 |[],_,h=>by cases h
 |(n,k0)::r,x,h=>by
  rw[qay]
  dsimp only
  rw[qbn]at h
  by_cases hc:(k0==NameKind.free&&env.scope.kind==.function&&env.kindOf n==some .cell)=true
  ·rw[if_pos hc,qbn]
   cases hx:x==n with
   |true=>exact .inr rfl
   |false=>rw[hx]at h;exact iR h
  ·rw[if_neg hc,qbn]
   cases hx:x==n with
   |true=>rw[hx]at h;exact .inl h
   |false=>rw[hx]at h;exact iR h
theorem kN {M:Model}{A:qbd}{E:Value->qam->Prop}{s:qam}{scope:Scope}{env:Env}{cl:List (Str×Addr)}{Q:Env->qam->Prop}
  (hQ:Q (newEnv scope s.heap.objs.size env.globals (qbM (s.heap.objs.size+1) scope.names cl) env.qual none .none (some env) qfy)
    { s with heap:=qd2 (s.heap.push { cls:=.type "dict",data:=.dict #[] }) scope.names }) :
  wpAny M A (qh9 scope env.globals cl [] env.qual none .none (some env)) Q E s:=by
 simp only[qh9,Option.isSome_some,if_true]
 refine qag (wpAny_alloc ?_)
 refine qag (wpAny_layCells _ (λname kind cells=>by cases hkc:kind==NameKind.cell<;>simp[hkc]) _ _ _ _ ?_)
 rw[show ({ s with heap:=s.heap.push { cls:=.type "dict",data:=.dict #[] } }:qam).heap.objs.size=s.heap.objs.size+1 from qbi ..]
 refine qag ?_
 rw[qdQ]
 exact qaE (qaE hQ)
theorem fO {prog:qa5}{w:World}{A:qbd}{R:Result->qam->Prop}{s:qam}{elt target iter:Expr}{ifs:List Expr}{scope:Scope}{pos:Pos}{it acc:Value}{env:Env} (I:Nat->qam->Prop)
  (turn:∀ n s,I n s->wpAny (model prog w) A (qf9 it) (λr s₁=>match r with
    |none=>R (.ok .next) s₁
    | some v=>wpAny (model prog w) A (qd3 target it v) (λ_ s₁'=>wpAny (model prog w) A (qek target env v) (λ_ s₂=>
      wpAny (model prog w) A (forIn ifs true λc r=>if r=true then do let ok <-qh2 c env (eval c env);pure (ForInStep.yield ok) else pure (ForInStep.yield r)) (λok s₃=>
       if ok=true then wpAny (model prog w) A (eval elt env) (λx s₄=>
        wpAny (model prog w) A (call (.builtin "list.append") [acc,x]) (λ_ s₅=>∃ m,m<n/\I m s₅) (λ_ _=>False) s₄) (λ_ _=>False) s₃
       else ∃ m,m<n/\I m s₃) (λ_ _=>False) s₂) (λ_ _=>False) s₁') (λ_ _=>False) s₁) (λ_ _=>False) s)
  (n:Nat) (h:I n s) :
  qem (model prog w) A (.compLoop (.ListComp elt [⟨target,iter,ifs,0⟩] scope pos) 0 it acc env) R s:=by
 refine codeAny_loop rfl I (λn s hI=>?_) n h
 show wpAny _ A ((compTurn (.ListComp elt [⟨target,iter,ifs,0⟩] scope pos) 0 it acc env).onRaise (λx=>do noteFrame x env;theTreesLotGoes x)) _ _ s
 refine wpAny_noted ?_
 rw[compTurn_list]
 refine qag (qez (qag (qcM (turn n s hI) (λr s₁ h₁=>?_) λ_ _ h'=>h'.elim)))
 cases r with
 |none=>exact qaE h₁
 |some v=>
  refine qag (qcM h₁ (λ_ s₁' h₁'=>?_) λ_ _ h'=>h'.elim)
  refine qag (qcM h₁' (λ_ s₂ h₂=>qag (qcM h₂ (λok s₃ h₃=>?_) λ_ _ h'=>h'.elim)) λ_ _ h'=>h'.elim)
  cases ok with
  |false=>exact qaE ⟨rfl,h₃⟩
  |true=>
   exact qag (qag (qcM h₃ (λx s₄ h₄=>qag (qcM h₄ (λ_ s₅ h₅=>qaE (qaE ⟨rfl,h₅⟩)) λ_ _ h'=>h'.elim)) λ_ _ h'=>h'.elim))
def lcX (X:Cx) (scope:Scope) (cells:List (Str×Addr)) (Nc:List Str) (s:qam) (H:Hp) (C:Addr) (fp:List Addr):Cx where
 prog:=X.prog
 w:=X.w
 K:=X.K
 mg:=X.mg
 base:=X.base
 A:=X.A
 N:=Nc
 s₀:=s
 H₀:=H
 env:=qfK scope cells C X.env
 outer:=X.stack
 stack:=X.stack
 ex:=fp
 fn:=λx=>scope.names.lookup x==some .cell
 calm:=X.calm
 pn:=[]
 xe:=λ_ _=>False
structure fE (X:Cx) (scope:Scope) (Nc:List Str) (emb:St->St):Prop where
 kind:scope.kind=.function
 nd:(scope.names.map (·.1)).Nodup
 nN:Nc.Nodup
 free:∀ x∈scope.names,x.2=.free->X.env.kindOf x.1=some .cell\/X.env.kindOf x.1=some .free
 len:∀ σ:St,σ.length=X.N.length->(emb σ).length=Nc.length
 emb:∀ σ:St,σ.length=X.N.length->∀ (i:Nat) (x:Str) (v:V),Nc[i]?=some x->(emb σ)[i]?=some (some v)->∃ j:Nat,X.N[j]?=some x/\σ[j]?=some (some v)/\scope.names.lookup x=some .free
section
variable {X:Cx}{pins:List (Addr×Obj)}{σ:St}{H:Hp}{s:qam}{scope:Scope}{Nc:List Str}{emb:St->St}
theorem fE.clos (S:fE X scope Nc emb) (ok:X.Ok):∀ x∈scope.names,x.2=.free->∃ c,X.env.cells.lookup x.1=some c:=λx hx h=>ok.has x.1 (S.free x hx h)
theorem rH (S:fE X scope Nc emb) (I:Inv X pins σ H s) {fp:List Addr} (hf:∀ b∈fp,j5 X pins H b) (hfo:∀ b∈fp,∃ o,s.heap.get? b=some o) {lo:Obj} (hlo:∀ v,lo.data≠.cell v) (hfr:lo.isFreed=false) :
  Inv (lcX X scope (qbM (s.heap.objs.size+2) scope.names (cw X.env.cells scope.names [])) Nc s H (s.heap.objs.size+1) fp) [(s.heap.objs.size,lo)] (emb σ) H
   { s with heap:=qd2 ((s.heap.push lo).push { cls:=.type "dict",data:=.dict #[] }) scope.names }:=by
 have hsz2:((s.heap.push lo).push { cls:=.type "dict",data:=.dict #[] }).objs.size=s.heap.objs.size+2:=by rw[qbi,qbi]
 have hsz1:(s.heap.push lo).objs.size=s.heap.objs.size+1:=by rw[qbi]
 have hk:∀ b o,s.heap.get? b=some o->(qd2 ((s.heap.push lo).push { cls:=.type "dict",data:=.dict #[] }) scope.names).get? b=some o:=λb o e=>
  qcp _ _ b o (qak _ (qak _ e))
 have has:=S.clos I.ok
 have cl_old:∀ {x:Str}{c:Addr},(cw X.env.cells scope.names []).lookup x=some c->X.env.cells.lookup x=some c/\(x,NameKind.free)∈scope.names:=λ{x c} h=>by
  rcases iA _ _ h with q|⟨q1,q2⟩
  ·cases q
  ·obtain⟨c',hc'⟩:=has _ q1 rfl
   have hc'':X.env.cells.lookup x=some c':=hc'
   rw[hc'']at q2
   exact⟨by rw[hc'',q2];rfl,q1⟩
 have cells_cases:∀ {x:Str}{c:Addr},(qbM (s.heap.objs.size+2) scope.names (cw X.env.cells scope.names [])).lookup x=some c->
   (X.env.cells.lookup x=some c/\(x,NameKind.free)∈scope.names)\/((x,NameKind.cell)∈scope.names/\s.heap.objs.size+2<=c):=λ{x c} h=>by
  rcases fm _ _ _ h with q|q
  ·exact .inl (cl_old q)
  ·exact .inr q
 have oldlt:∀ {x:Str}{c:Addr},X.env.cells.lookup x=some c->c<s.heap.objs.size:=λ{x c} h=>by
  obtain⟨v,z⟩:=I.cell x c h
  exact z.lt
 have fplt:∀ b∈fp,b<s.heap.objs.size:=λb hb=>by obtain⟨o,e⟩:=hfo b hb;exact qaG e
 have accmem:∀ p∈cw X.env.cells scope.names [],∃ x,X.env.cells.lookup x=some p.2:=by
  have key:∀ (names:List (Str×qbK)) (acc:List (Str×Addr)),(∀ x∈names,x.2=.free->∃ c,X.env.cells.lookup x.1=some c)->(∀ p∈acc,∃ x,X.env.cells.lookup x=some p.2)->∀ p∈cw X.env.cells names acc,∃ x,X.env.cells.lookup x=some p.2:=by
   intro names
   induction names with
   |nil=>intro acc _ h;exact h
   |cons z r ih=>
    intro acc hn h
    obtain⟨m,k⟩:=z
    unfold cw
    by_cases hk:(k==.free)=true
    ·rw[if_pos hk]
     refine ih _ (λx hx=>hn x (qal _ hx)) λp hp=>?_
     rcases qaP.mp hp with e|hp
     ·obtain⟨c,hc⟩:=hn _ qaf (beq_iff_eq.mp hk)
      have hc':X.env.cells.lookup m=some c:=hc
      exact⟨m,by rw[e,hc'];rfl⟩
     ·exact h p hp
    ·rw[if_neg hk]
     exact ih _ (λx hx=>hn x (qal _ hx)) h
  exact key _ _ has λp hp=>nomatch hp
 refine⟨⟨I.ok.mod,S.kind,I.ok.glob,I.ok.blt,qc5 _,λx y c h1 h2=>?_,λx hx=>?_,λx c hx h=>?_,I.ok.hd,I.ok.frames,.inl rfl,λb hb=>?_,I.bs,qa6 I.ok.bsz I.sz,λb o e hb=>?_,λb hb=>?_,I.stack,I.stkFree⟩,
  rfl,I.bare,Un.kept hk,⟨_,(Heap.Ns.new (s.heap.push lo) (.type "dict")).keeps (qcp _ _) |> λq=>by rw[hsz1]at q;exact q,λi x v h1 h2 _=>?_⟩,λx c h=>?_,I.hok.fresh (qc5 _),λx c h=>?_,λp hp=>?_,I.hok.kept hk,S.len σ I.len⟩
 ·-- inj
  have h1':(qbM (s.heap.objs.size+2) scope.names (cw X.env.cells scope.names [])).lookup x=some c:=h1
  have h2':(qbM (s.heap.objs.size+2) scope.names (cw X.env.cells scope.names [])).lookup y=some c:=h2
  rcases cells_cases h1' with⟨q1,_⟩|⟨_,q1⟩
  ·rcases cells_cases h2' with⟨q2,_⟩|⟨_,q2⟩
   ·exact I.ok.inj x y c q1 q2
   ·exact absurd (qaU (qbo (qbo (oldlt q1))) q2) (qa2 _)
  ·refine oz scope.names _ _ (λp hp=>?_) h1' h2' q1
   obtain⟨z,hz⟩:=accmem p hp
   exact qbo (qbo (oldlt hz))
 ·-- has
  have hx':(relabel scope X.env).names.lookup x=some .cell\/(relabel scope X.env).names.lookup x=some .free:=hx
  have:∃ k0,scope.names.lookup x=some k0/\(k0=.cell\/k0=.free):=by
   rcases hx' with q|q
   ·obtain⟨k0,h1,h2⟩:=eO q
    exact⟨k0,h1,h2.elim (λe=>.inl e.symm) λe=>.inr e.1⟩
   ·obtain⟨k0,h1,h2⟩:=eO q
    exact⟨k0,h1,h2.elim (λe=>.inr e.symm) λe=>by cases e.2⟩
  obtain⟨k0,h1,h2⟩:=this
  refine qcu.mp (qcE scope.names _ _ ?_)
  rcases h2 with rfl|rfl
  ·exact .inl h1
  ·exact .inr (gW _ _ (.inl (qbj h1)))
 ·-- cab
  have hx':scope.names.lookup x=some .cell:=beq_iff_eq.mp hx
  rcases cells_cases h with⟨_,q⟩|⟨_,q⟩
  ·have:=gj S.nd q
   rw[hx']at this;cases this
  ·exact qa6 (qcw _ 2) q
 ·-- exf
  refine⟨qaW (qbo (fplt b hb)),λx c h=>?_⟩
  rcases cells_cases h with⟨q,_⟩|⟨_,q⟩
  ·exact (hf b hb).2.2.2.2.1 x c q
  ·intro e
   exact absurd (qaU (qbo (qbo (fplt b hb))) (e ▸ q)) (qa2 _)
 ·-- noex
  have hb':b∈fp:=hb
  rcases (hf b hb').2.2.2.1 with q|q
  ·exact I.ok.noex b o e q
  ·exact absurd (qaU (qaG (I.ok.bs b o e).1) q) (qa2 _)
 ·-- exfs
  intro hb2
  rcases qaP.mp (I.stkSub b hb2) with q|q
  ·exact (hf b hb).2.1 q
  ·exact (hf b hb).2.2.1 q
 ·-- loc
  obtain⟨j,e1,e2,e3⟩:=S.emb σ I.len i x v h1 h2
  have kx:=S.free (x,.free) (qbj e3) rfl
  have kx':X.env.kindOf x=some .cell\/X.env.kindOf x=some .free:=kx
  obtain⟨m,hn,hl⟩:=I.loc
  obtain⟨u,ru,lk⟩:=hl j x v e1 e2 (.inr kx')
  refine⟨u,ru,.inr ⟨?_,?_⟩⟩
  ·rcases iR (env:=X.env) e3 with q|q
   ·exact .inr q
   ·exact .inl q
  ·rcases lk with⟨z,_⟩|⟨_,c,hc,hcell⟩
   ·rcases kx' with q|q<;>(rw[z]at q;cases q)
   ·obtain⟨c',hc'⟩:=qcu.mp (qcE scope.names (s.heap.objs.size+2) (cw X.env.cells scope.names []) (x:=x) (.inr (gW _ _ (.inl (qbj e3)))))
    rcases cells_cases hc' with⟨q,_⟩|⟨q,_⟩
    ·rw[hc]at q
     cases q
     exact⟨c,hc',hcell.keeps hk⟩
    ·have:=gj S.nd q
     rw[e3]at this;cases this
 ·-- cell
  have h':(qbM (s.heap.objs.size+2) scope.names (cw X.env.cells scope.names [])).lookup x=some c:=h
  have:=fV scope.names ((s.heap.push lo).push { cls:=.type "dict",data:=.dict #[] }) (cw X.env.cells scope.names []) (λp hp=>by
   obtain⟨z,hz⟩:=accmem p hp
   obtain⟨v,q⟩:=I.cell z p.2 hz
   exact⟨v,q.keeps λb o e=>qak _ (qak _ e)⟩) (x,c) (by rw[hsz2];exact qbj h')
  exact this
 ·-- freeC
  rcases cells_cases h with⟨q,_⟩|⟨_,q⟩
  ·exact I.freeC x c q
  ·exact I.hok.fresh (qa6 (qcw _ 2) q)
 ·-- pin
  have hp':p=(s.heap.objs.size,lo):=by
   have:p∈([]:List (Addr×Obj))++[(s.heap.objs.size,lo)]:=hp
   simpa using this
  subst hp'
  refine⟨qcp _ _ _ _ (qak _ (qaI _ hfr)),I.hok.fresh (qan _),qaW (qbI _),λhb=>?_,hlo⟩
  rcases qaP.mp (I.stkSub _ hb) with q|q
  ·exact absurd I.lt (by rw[<-q];exact qa2 _)
  ·exact I.nofs (qan _) q
end
def PTs (X:Cx) (ifs:List Expr) (t:TT):Prop:=
 ∀ (pins:List (Addr×Obj)) (s:qam) (σ:St) (H:Hp) (Q:Bool->Hp->Prop),Inv X pins σ H s->t σ H Q->
  wpAny (model X.prog X.w) X.A (forIn ifs true λc r=>if r=true then do let ok <-qh2 c X.env (eval c X.env);pure (ForInStep.yield ok) else pure (ForInStep.yield r)) (TP X pins σ Q) X.xe s
def C9:TT:=λ_ H Q=>Q true H
theorem ze {X:Cx}:PTs X [] C9:=λ_ _ _ H _ I h=>wpAny_tests_nil ⟨H,I,h⟩
theorem yx {X:Cx}{c:Expr}{t:TT} (hc:PT X c t):PTs X [c] t:=λpins s σ H Q I h=>wpAny_tests_one (hc pins s σ H Q I h)
def Sub (σ σ':St):Prop:=σ.length=σ'.length/\∀ (i:Nat) (v:V),σ[i]?=some (some v)->σ'[i]?=some (some v)
def Cw (J:It) (σe:St) (g:TG) (tt:TT) (te:TE) (H1:Hp) (Q:VK):Prop:=∃ W:Nat->Nat->List V->Hp->Prop,(∃ m,W 0 m [] H1)/\∀ i m ys H,W i m ys H->
 (J.stop i H/\∀ D,H D=none->Q (.ref D) (upd H D (.lst ys)))\/
 (J.go i H/\ys.length<qaS/\∃ N:List V->Hp->Prop,(∀ ys' H',N ys' H'->∃ m',m'<m/\W (i+1) m' ys' H')/\∀ x H',J.yld i H x H'->g x σe H' λσ2 H2=>Sub σe σ2/\tt σ2 H2 λb H3=>if b=true then te σ2 H3 λv H4=>N (ys++[v]) H4 else N ys H3)
def tLc (emb:St->St) (wi:TI) (g:TG) (tt:TT) (te:TE):TE:=λσ H Q=>wi σ H λJ H1=>Cw J (emb σ) g tt te H1 Q
section
variable {X:Cx}{scope:Scope}{Nc:List Str}{emb:St->St}{elt iter tg:Expr}{ifs:List Expr}{pos:Pos}{wi:TI}{g:TG}{tt:TT}{te:TE}
theorem zQ (S:fE X scope Nc emb) (hc:X.calm=true) (hi:PI X tg iter wi)
  (hg:∀ cells s H C fp,PG (lcX X scope cells Nc s H C fp) tg g) (ht:∀ cells s H C fp,PTs (lcX X scope cells Nc s H C fp) ifs tt) (he:∀ cells s H C fp,PE (lcX X scope cells Nc s H C fp) elt te)
  (hs:∀ x,qbY iter X.env x=pure x:=by intro _;rfl):PE X (.ListComp elt [⟨tg,iter,ifs,0⟩] scope pos) (tLc emb wi g tt te):=by
 intro pins s σ H Q I h
 rw[eval_ListComp]
 refine qfw (use:=none) rfl hs (kl (S.clos I.ok)) S.kind (λx hx hl=>gj S.nd (by rw[<-hl];exact hx)) ?_
 refine thn (hi pins s σ H _ I h) λv s1 h1=>thn h1 λitv s2 h2=>?_
 obtain⟨it,fp,tn,J,H2,e,I2,T,st2,f2,W,⟨m0,w0⟩,turn⟩:=h2
 subst e
 refine qbX (kN ?_)
 rw[show (s2.heap.push { cls:=.type "list",dict:=none,data:=.seq ([]:List Value).toArray }).objs.size=s2.heap.objs.size+1 from qbi ..]
 generalize hD:s2.heap.objs.size=D
 generalize hlo:({ cls:=.type "list",dict:=none,data:=.seq ([]:List Value).toArray }:Obj)=lo
 have fplt:∀ b∈fp,b<s2.heap.objs.size:=λb hb=>by obtain⟨o,e,_⟩:=T.obj _ _ st2 b hb;exact qaG e
 have I3:=rH (lo:=lo) S I2 f2 (λb hb=>by obtain⟨o,e,_⟩:=T.obj _ _ st2 b hb;exact⟨o,e⟩) (by rw[<-hlo];intro v z;cases z) (by rw[<-hlo];rfl)
 rw[hD]at I3
 generalize hcells:qbM (D+2) scope.names (cw X.env.cells scope.names [])=cells at I3
 generalize hX':lcX X scope cells Nc s2 H2 (D+1) fp=X' at I3
 have hfpX:∀ {H':Hp}{ps:List (Addr×Obj)},(∀ b∈fp,H' b=none)->(∀ p∈ps,p.1=D)->∀ b∈fp,j5 X' ps H' b:=λ{H' ps} hn hps b hb=>by
  have ok:=I3.ok
  refine⟨hn b hb,?_,?_,.inl (by rw[<-hX'];exact hb),?_,λp hp=>?_⟩
  ·exact (ok.exf b (by rw[<-hX'];exact hb)).1
  ·exact ok.exfs b (by rw[<-hX'];exact hb)
  ·exact (ok.exf b (by rw[<-hX'];exact hb)).2
  ·have hp':p∈([]:List (Addr×Obj))++ps:=by rw[<-hX']at hp;exact hp
   have e:p.1=D:=hps p (by simpa using hp')
   rw[e,<-hD]
   exact qb6 (fplt b hb)
 have Dex:D∈X'.ex\/X'.s₀.heap.objs.size<=D:=.inr (by rw[<-hX',<-hD];exact qan _)
 have Dloc:D≠X'.env.locals:=by rw[<-hX'];exact qaW (qbI _)
 have pD:=I3.pin (D,lo) (by rw[<-hX'];exact qav _ qaf)
 have Dfs:D∉X'.fs:=pD.2.2.2.1
 have Dcell:∀ x c,X'.env.cells.lookup x=some c->c≠D:=λx c hc' e=>by
  obtain⟨v,o,ho,hd⟩:=I3.cell x c hc'
  rw[e,pD.1]at ho
  cases ho
  exact pD.2.2.2.2 v hd
 -- the loop
 have loop:∀ s3:qam,s3={ s2 with heap:=qd2 ((s2.heap.push lo).push { cls:=.type "dict",data:=.dict #[] }) scope.names }->
   qem (model X.prog X.w) X.A (.compLoop (.ListComp elt [⟨tg,iter,ifs,0⟩] scope pos) 0 (.ref it) (.ref D) (qfK scope cells (D+1) X.env))
    (compPost (model X.prog X.w) X.A X.xe none (EP X pins σ Q) (.ref D) (D+1)) s3:=by
  rintro s3 rfl
  refine fO (λn s'=>∃ i ys its k H',Inv X' [(D,{ cls:=.type "list",data:=.seq its.toArray k })] (emb σ) H' s'/\bf ys its/\tn i s'.heap/\(∀ b∈fp,H' b=none)/\ys.length<=qaS/\W i n ys H') ?_ m0
   ⟨0,[],[],0,H2,?_,.nil,?_,λb hb=>(f2 b hb).1,qb2 _,w0⟩
  ·rintro n s4 ⟨i,ys,its,k,H4,I4,rv,st4,fr4,hlen,w4⟩
   have hps:∀ p∈[(D,({ cls:=.type "list",data:=.seq its.toArray k }:Obj))],p.1=D:=λp hp=>by
    have:=qaj.mp hp
    rw[this]
   rcases turn i n ys H4 w4 with⟨stop,qn⟩|⟨go,hlt,N,hN,step⟩
   ·-- the end
    have TD:=T.done X' (by rw[<-hX'];rfl) (by rw[<-hX'];rfl) (by rw[<-hX'];rfl) (by rw[<-hX'];exact hc) i _ s4 (emb σ) H4 (λ_ _=>False) I4 (hfpX fr4 hps) st4 stop
    rw[show X'.A=X.A by rw[<-hX'];rfl]at TD
    refine thn TD λr s5 ⟨hr,I5⟩=>?_
    subst hr
    obtain⟨m5,hn5,_⟩:=id I5.loc
    have eC:X'.env.locals=D+1:=by rw[<-hX'];rfl
    rw[eC]at hn5
    refine⟨m5,hn5,λh' hsb=>?_⟩
    have pD5:=I5.pin (D,{ cls:=.type "list",data:=.seq its.toArray k }) (by rw[<-hX'];exact qav _ qaf)
    have neC:∀ b u,H4 b=some u->b≠D+1:=λb u e z=>by
     have:=I5.free
     rw[eC,<-z,e]at this
     cases this
    have hD4:H4 D=none:=pD5.2.1
    have un:=I5.base
    have un':Un (frs X.stack) fp H2 H4 s2.heap s5.heap:=by rw[<-hX']at un;exact un
    have old_ne:∀ b o,s2.heap.get? b=some o->b≠D/\b≠D+1:=λb o e=>by
     have q:=qaG e
     rw[hD]at q
     exact⟨qaW q,qaW (qbo q)⟩
    have h2D:H2 D=none:=by rw[<-hD];exact I2.fresh
    have hok':HOk X.prog X.w H4 h':=λb u e=>by
     have ob:dl X.prog X.w H4 s5.heap b u:=by have:=I5.hok b u e;rw[<-hX']at this;exact this
     refine ob.stay (λc v hcv q=>(hsb.2 c ?_).trans q) (λ_ q=>q) λ_ _ q=>q
     rcases hcv with z|z
     ·rw[z];exact neC b u e
     ·exact neC c _ z
    have hokD:HOk X.prog X.w (upd H4 D (.lst ys)) h':=λb u e=>by
     by_cases hb:b=D
     ·subst hb
      rw[upd_same]at e
      cases e
      exact⟨hlen,its,k,rv,(hsb.2 b (qaW (qbI _))).trans pD5.1⟩
     ·rw[upd_ne hb]at e
      refine (hok' b u e).stay (λ_ _ _ q=>q) (λc q=>?_) λc z q=>?_
      all_goals first
       |(rw[upd_ne (aV q hD4)];exact q)
       |(rw[upd_ne (aV z hD4)];exact z)
    refine⟨.ref D,upd H4 D (.lst ys),?_,rfl,qn D hD4⟩
    refine I2.call' (s':={ s5 with heap:=h' }) (ch:=fp) ?_ ⟨λb o e nb hb hx=>?_,λb o e nb hb hx=>?_,λb o e nb hx=>?_,λb o e hx=>?_,λb xs e=>?_,λb o u e=>?_,λb ps e=>?_⟩ hokD I5.bare (λb hb=>?_)
    ·have:=I5.os
     rw[<-hX']at this
     exact this
    ·exact (hsb.2 b (old_ne b o e).2).trans (un'.keep b o e nb hb hx)
    ·obtain⟨sl,q⟩:=un'.slot b o e nb hb hx
     exact⟨sl,(hsb.2 b (old_ne b o e).2).trans q⟩
    ·rw[upd_ne (old_ne b o e).1]
     exact un'.free b o e nb hx
    ·obtain⟨o',q⟩:=un'.there b o e hx
     exact⟨o',(hsb.2 b (old_ne b o e).2).trans q⟩
    ·rw[upd_ne (aV e h2D)]
     exact un'.tups b xs e
    ·rw[upd_ne (aV e h2D)]
     exact un'.frzs b o u e
    ·obtain⟨m,q⟩:=un'.tbls b ps e
     exact⟨m,by rw[upd_ne (aV e h2D)];exact q⟩
    ·obtain⟨q0,q1,q2,q3,q4,q5⟩:=f2 b hb
     exact⟨q3,q1,q4,q5⟩
   ·-- a turn
    have hA:X'.A=X.A:=by rw[<-hX'];rfl
    have hP:X'.prog=X.prog:=by rw[<-hX'];rfl
    have hw:X'.w=X.w:=by rw[<-hX'];rfl
    have hE:X'.env=qfK scope cells (D+1) X.env:=by rw[<-hX'];rfl
    have hxe:X'.xe=λ_ _=>False:=by rw[<-hX'];rfl
    have TI':=T.item X' hP hw (by rw[<-hX'];rfl) (by rw[<-hX'];exact hc) i _ s4 (emb σ) H4 (λ_ _=>False) I4 (hfpX fr4 hps) st4 go
    rw[hA]at TI'
    refine thn TI' λr s5 ⟨u,hr,h5⟩=>?_
    subst hr
    refine thn h5 λ_ s6 ⟨x,H6,I6,r6,y6,st6,fr6⟩=>?_
    have I6':=I6.pinned (hfpX fr6 hps) (T.obj _ _ st6)
    have G:=hg cells s2 H2 (D+1) fp
    have TT':=ht cells s2 H2 (D+1) fp
    have EE:=he cells s2 H2 (D+1) fp
    rw[hX']at G TT' EE
    have G':=G _ s6 (emb σ) H6 x u _ I6' r6 (step x H6 y6)
    rw[hA,hP,hw,hE,hxe]at G'
    refine thn G' λ_ s7 ⟨σ7,H7,I7,sb7,q7⟩=>?_
    have T':=TT' _ s7 σ7 H7 _ I7 q7
    rw[hA,hP,hw,hE,hxe]at T'
    refine thn T' λok s8 ⟨H8,I8,q8⟩=>?_
    -- what is pinned
    have pin_fp:∀ {σ9:St}{H9:Hp}{s9:qam},Inv X' ([(D,({ cls:=.type "list",data:=.seq its.toArray k }:Obj))]++lz fp s6.heap) σ9 H9 s9->tn (i+1) s9.heap/\∀ b∈fp,H9 b=none:=λ{σ9 H9 s9} I9=>
     ⟨T.keep _ _ _ st6 λb hb o e=>(I9.pin (b,o) (qav _ (qav _ (d8 hb e)))).1,λb hb=>by
      obtain⟨o,e,_⟩:=T.obj _ _ st6 b hb
      exact (I9.pin (b,o) (qav _ (qav _ (d8 hb e)))).2.1⟩
    cases ok with
    |false=>
     rw[if_neg (by decide)]at q8
     rw[if_neg (by decide)]
     obtain⟨m',hm,w8⟩:=hN _ _ q8
     exact⟨m',hm,i+1,ys,its,k,H8,I8.unpinned.weak sb7.1 sb7.2,rv,(pin_fp I8).1,(pin_fp I8).2,hlen,w8⟩
    |true=>
     rw[if_pos rfl]at q8
     rw[if_pos rfl]
     have E':=EE _ s8 σ7 H8 _ I8 q8
     rw[hA,hP,hw,hE,hxe]at E'
     refine thn E' λy s9 ⟨v9,H9,I9,r9,n9⟩=>?_
     obtain⟨m',hm,w9⟩:=hN _ _ n9
     have pD9:=I9.pin (D,{ cls:=.type "list",data:=.seq its.toArray k }) (qav _ (qa1 _ qaf))
     have hl:=rv.length
     have I9n:Inv X' [] σ7 H9 s9:=I9.pins_of λp hp=>nomatch hp
     refine qcN qes ⟨_,pD9.1,rfl⟩ qeg (qd8 _ _) (qee D its.toArray k y (by rw[qaz];lia)) ⟨pD9.1,?_⟩
     have up:∃ k':Nat,(s9.heap.update D (qcR λxs=>xs.push y)).get? D=some { cls:=.type "list",data:=.seq (its++[y]).toArray k' }:=by
      have q:=qd6 pD9.1 (λxs:Array Value=>xs.push y)
      simp only[qf3]at q
      exact⟨_,q⟩
     obtain⟨k',up⟩:=up
     have hoth:∀ b o,b≠D->s9.heap.get? b=some o->(s9.heap.update D (qcR λxs=>xs.push y)).get? b=some o:=λb o hb e=>(qcP s9.heap _ (qbu hb)).trans e
     have I10:=I9n.turned (t':=s9.toks) hoth pD9.2.1 Dloc Dex Dcell (λp hp=>absurd (show p∈([]:List (Addr×Obj)) by rw[<-hX']at hp;exact hp) (by simp))
     refine⟨m',hm,i+1,ys++[v9],its++[y],k',H9,(I10.weak sb7.1 sb7.2).pins_of (λp hp=>?_),rv.append (.cons r9 .nil),T.keep _ _ _ (pin_fp I9).1 (λb hb o e=>hoth b o (by rw[<-hD];exact qaW (fplt b hb)) e),(pin_fp I9).2,?_,w9⟩
     ·have:=qaj.mp hp
      subst this
      exact⟨up,pD9.2.1,Dloc,Dfs,λv z=>by cases z⟩
     ·rw[qap,qbZ]
      lia
  ·have q:lo={ cls:=.type "list",data:=.seq ([]:List Value).toArray 0 }:=hlo.symm
   rw[<-q]
   exact I3
  ·exact T.keep _ _ _ st2 λb hb o e=>qcp _ _ b o (qak _ (qak _ e))
 refine qfZ ?_ ?_
 ·exact loop _ rfl
 ·refine T.self X.A 0 _ _ _ (T.keep _ _ _ st2 λb hb o e=>qcp _ _ b o (qak _ (qak _ e))) ?_
  exact loop _ rfl
end
end L2
namespace L2
open PySem PySem.Spec PyProof.Rows
open PySem.AutoSeq1 (wpAny_loadPart')
section
variable {prog:qa5}{w:World}{A:qbd}{E:Value->qam->Prop}{s:qam}
theorem gX {it l:Addr}{i:Nat}{items}{x:Value}{Q:Value->qam->Prop} (hit:s.heap.IsTupleIter it l i)
  (hl:s.heap.IsTuple l items) (hx:items[i]?=some x)
  (hQ:∀ h',h'.IsTupleIter it l (i+1)->qdf it s.heap h'->Q x { s with heap:=h' }) :
  wpAny (model prog w) A (qa7 (.ref it)) Q E s:=by
 obtain⟨o,ho,hc,hd⟩:=id hit
 obtain⟨ol,hol,_,nl,hdl⟩:=hl
 unfold qa7
 refine qag (qbV (name:=qdg "__next__") hit.typeIs qcr
  (qcD qcr hit.typeIs qe3 ?_ (qeX _)))
 show wpAny _ _ (field (.ref it) 0 >>= _) _ _ s
 refine qag (qbP ho hd (x:=.ref l) rfl ?_)
 show wpAny _ _ (if (Value.ref l==Value.none)=true then _ else _) _ _ s
 rw[if_neg (show ¬ ((Value.ref l==Value.none)=true) from qaH)]
 show wpAny _ _ (field (.ref it) 1 >>= _) _ _ s
 refine qag (qbP ho hd (x:=.int i 0) rfl ?_)
 show wpAny _ _ (seqItems? (.ref l) >>= _) _ _ s
 refine qag (qcd hol hdl ?_)
 simp only[qbA,hx]
 refine qag (qh6 ho hd (by simp) (qaE ⟨x,rfl,qaE (hQ _ ?_ (qeH ..))⟩))
 exact⟨_,qfm _ ho (Obj.isFreed_of_fields (qf2 hd _)),(Obj.cls_mapFields ..).trans hc,by
  rw[qf2 hd];simp[qfx]⟩
theorem iK {it l:Addr}{i:Nat}{items}{Q:Value->qam->Prop} (hh:A.handled=none)
  (hit:s.heap.IsTupleIter it l i) (hl:s.heap.IsTuple l items) (hx:items[i]?=none)
  (hE:∀ h' e,qhX it s.heap h'->(∃ o,h'.get? e=some o/\o.cls=.type "StopIteration")->E (.ref e) { s with heap:=h' }) :
  wpAny (model prog w) A (qa7 (.ref it)) Q E s:=by
 obtain⟨o,ho,hc,hd⟩:=id hit
 obtain⟨ol,hol,_,nl,hdl⟩:=hl
 unfold qa7
 refine qag (qbV (name:=qdg "__next__") hit.typeIs qcr
  (qcD qcr hit.typeIs qe3 ?_ (qeX _)))
 show wpAny _ _ (field (.ref it) 0 >>= _) _ _ s
 refine qag (qbP ho hd (x:=.ref l) rfl ?_)
 show wpAny _ _ (if (Value.ref l==Value.none)=true then _ else _) _ _ s
 rw[if_neg (show ¬ ((Value.ref l==Value.none)=true) from qaH)]
 show wpAny _ _ (field (.ref it) 1 >>= _) _ _ s
 refine qag (qbP ho hd (x:=.int i 0) rfl ?_)
 show wpAny _ _ (seqItems? (.ref l) >>= _) _ _ s
 refine qag (qcd hol hdl ?_)
 simp only[qbA,hx]
 refine qag (qdC (qag (qh6 ho hd (by simp) ?_)))
 show wpAny _ _ (newExc (.type "StopIteration") [] >>= _) _ _ _
 refine qag ?_
 simp only[newExc,newTuple]
 refine qag (qbX ?_ (by size_fits))
 refine qag (m:=qib _ _) (wpAny_of_eq (a:=Value.none) (by first|rfl|(simp only[qib];rfl)) ?_)
 refine qbX ?_ (by size_fits)
 simp only[raiseNew]
 refine qag (wpAny_handled ?_)
 first|rw[show A.in1.handled=none from hh]|rw[hh]
 refine qag (qaE (wpAny_throw ?_))
 exact hE _ _ (((qeH ..).extBut.push _).push _) ⟨_,qaI _ rfl,rfl⟩
theorem jF (hh:A.handled=none) (it l:Addr) (hne:l≠it) (items:Array Value) :
  Draws prog w A it [it,l] items.size (λi v=>items[i]?=some v) (λi h=>h.IsTupleIter it l i/\h.IsTuple l items) where
 live:=λ_ _ st=>let ⟨o,ho,_⟩:=st.1;⟨o,ho⟩
 frame:=λ_ _ _ st hk=>⟨st.1.at λo e=>hk it (by simp) o e,by
  obtain⟨o,e,r⟩:=st.2
  exact⟨o,hk l (by simp) o e,r⟩⟩
 item:=λi s Q E hi st hQ=>by
  refine gX st.1 st.2 (x:=items[i]) (by simp[hi]) λh' hit' hs'=>?_
  refine hQ _ h' s.toks (by simp[hi]) ⟨hit',?_⟩ hs'
  obtain⟨o,e,r⟩:=st.2
  exact⟨o,(hs'.2 l hne).trans e,r⟩
 done:=λs Q E st hE=>iK hh st.1 st.2 (by simp) hE
end
theorem jA (l:Addr) (items:Array Value) (n:Nat) (dct:Option Addr) (sl:Array (Option Value)) :
  Meets (qgE.«enumerate.__new__» ⟨[.type "enumerate",.ref l],[]⟩) (λ_ R s=>s.heap.get? l=some { cls:=.type "tuple",dict:=dct,data:=.seq items n,slots:=sl }/\
   R (.ok (.ret (.ref (s.heap.push { cls:=.type "tuple_iterator",data:=.fields #[.ref l,.int 0 0] }).objs.size)))
    { s with heap:=(s.heap.push { cls:=.type "tuple_iterator",data:=.fields #[.ref l,.int 0 0] }).push { cls:=.type "enumerate",data:=.fields #[.none,.bool false,.ref s.heap.objs.size,qfx 0,.none,.none] } }):=
 .of_wp λprog w A R s h=>by
  obtain⟨hp,g,d,tk,os⟩:=s;obtain⟨hl,h⟩:=h
  have hsub:=sub_enumerate
  have hL:Heap.IsTuple (qfh ⟨hp,g,d,tk,os⟩) l items:=⟨_,hl,rfl,n,rfl⟩
  wp_walk using wpAny_loadPart' hl
  refine wpAny_stack_any λst=>qaE ?_
  split
  ·rename_i c _ _ _ _ _
   cases (c==Value.type "enumerate")
   ·wp_walk using wpAny_loadPart' hl,qcQ hL
    exact⟨_,rfl,h⟩
   ·wp_walk using wpAny_loadPart' hl,qcQ hL
    exact⟨_,rfl,h⟩
  ·wp_walk using wpAny_loadPart' hl,qcQ hL
   exact⟨_,rfl,h⟩
theorem jI {prog:qa5}{w:World}{A:qbd}{E:Value->qam->Prop}{s:qam}{l:Addr}{items:Array Value}{Q:Value->qam->Prop} (hL:s.heap.IsTuple l items)
  (h:∀ h',IsEnum h' (s.heap.objs.size+1) s.heap.objs.size 0 .none->h'.IsTupleIter s.heap.objs.size l 0->h'.objs.size=s.heap.objs.size+2->
    (∀ b o,s.heap.get? b=some o->h'.get? b=some o)->Q (.ref (s.heap.objs.size+1)) { s with heap:=h' }) :
  wpAny (model prog w) A (call (.type "enumerate") [.ref l]) Q E s:=by
 obtain⟨⟨c,dct,dt,sl⟩,hl,hc,n,hd⟩:=hL
 replace hc:c=.type "tuple":=hc
 replace hd:dt=.seq items n:=hd
 subst hc hd
 refine callType_new F.called_enumerate (by decide) (F.typeCall_enumerate_1 _) (F.newCall_enumerate_1 _) (λobj=>F.args_object_init_2 obj _) F.entry_enumerate_new
  (jA l items n dct sl) ⟨hl,?_⟩
 have hz:(s.heap.push { cls:=.type "tuple_iterator",data:=.fields #[.ref l,.int 0 0] }).objs.size=s.heap.objs.size+1:=qbi ..
 show _/\_
 rw[hz]
 have he:IsEnum ((s.heap.push { cls:=.type "tuple_iterator",data:=.fields #[.ref l,.int 0 0] }).push
   { cls:=.type "enumerate",data:=.fields #[.none,.bool false,.ref s.heap.objs.size,qfx 0,.none,.none] }) (s.heap.objs.size+1) s.heap.objs.size 0 .none:=by
  have:=qaI (s.heap.push { cls:=.type "tuple_iterator",data:=.fields #[.ref l,.int 0 0] })
   (o:={ cls:=.type "enumerate",data:=.fields #[.none,.bool false,.ref s.heap.objs.size,qfx 0,.none,.none] }) rfl
  rw[hz]at this;exact this
 refine⟨⟨_,he,rfl⟩,h _ he ⟨_,qak _ (qaI _ rfl),rfl,rfl⟩ (by rw[qbi,hz]) λb o x=>qak _ (qak _ x)⟩
section
variable {X:Cx}{pins:List (Addr×Obj)}{σ:St}{H:Hp}{s:qam}{h':Heap}{fp:List Addr}
theorem j5.ch (hf:∀ b∈fp,j5 X pins H b):∀ b∈fp,(b∈X.ex\/X.s₀.heap.objs.size<=b)/\b≠X.env.locals/\(∀ x c,X.env.cells.lookup x=some c->c≠b)/\∀ p∈X.pn++pins,p.1≠b:=λb hb=>
 let ⟨_,f1,_,f3,f4,f5⟩:=hf b hb
 ⟨f3,f1,f4,f5⟩
theorem Inv.turns {t':Nat} (I:Inv X pins σ H s) (hf:∀ b∈fp,j5 X pins H b) (k:∀ b o,b∉fp->s.heap.get? b=some o->h'.get? b=some o):Inv X pins σ H { s with heap:=h',toks:=t' }:=by
 have nit:∀ b u,H b=some u->b∉fp:=λb u e z=>by have:=(hf b z).1;rw[e]at this;cases this
 refine I.step (g':=s.gens) (d':=s.drawn) (ch:=fp) (j5.ch hf) (λb o _ _ hc e _=>k b o hc e) (λb o _ _ hc e _=>⟨o.slots,k b o hc e⟩) (λ_ _ _ _ n=>n)
  (λb o hc e=>⟨o,k b o hc e⟩) (λ_ _ e=>e) (λ_ _ _ e=>e) (λb ps e=>⟨#[],by rw[e];simp⟩) (λm hm=>?_) (λb u e=>?_) I.bare
 ·obtain⟨o,es,ep,ho,r⟩:=hm
  exact⟨o,es,ep,k _ o (λz=>(hf _ z).2.1 rfl) ho,r⟩
 ·refine (I.hok b u e).stay (λc v hc q=>k c v ?_ q) (λ_ q=>q) λ_ _ q=>q
  rcases hc with z|z
  ·rw[z];exact nit b u e
  ·exact nit c _ z
theorem Inv.turnsT {t':Nat}{T:Addr}{xs:List V}{its:Array Value} (I:Inv X pins σ H s) (hf:∀ b∈fp,j5 X pins H b) (k:∀ b o,b∉fp->s.heap.get? b=some o->h'.get? b=some o)
  (hT:s.heap.objs.size<=T) (ht:eL h' T its) (rv:bf xs its.toList) (hz:xs.length<=qaS):Inv X pins σ (upd H T (.tup xs)) { s with heap:=h',toks:=t' }:=by
 have nit:∀ b u,H b=some u->b∉fp:=λb u e z=>by have:=(hf b z).1;rw[e]at this;cases this
 have hTn:H T=none:=I.hok.fresh hT
 have lt:∀ b o,s.heap.get? b=some o->b≠T:=λb o e=>qaW (qaU (qaG e) hT)
 refine I.step (g':=s.gens) (d':=s.drawn) (ch:=fp) (j5.ch hf) (λb o _ _ hc e _=>k b o hc e) (λb o _ _ hc e _=>⟨o.slots,k b o hc e⟩) (λb o _ e n=>by rw[upd_ne (lt b o e)];exact n)
  (λb o hc e=>⟨o,k b o hc e⟩) (λb _ e=>by rw[upd_ne (aV e hTn)];exact e) (λb _ _ e=>by rw[upd_ne (aV e hTn)];exact e) (λb ps e=>⟨#[],by rw[upd_ne (aV e hTn),e];simp⟩) (λm hm=>?_) (λb u e=>?_) I.bare
 ·obtain⟨o,es,ep,ho,r⟩:=hm
  exact⟨o,es,ep,k _ o (λz=>(hf _ z).2.1 rfl) ho,r⟩
 ·by_cases hb:b=T
  ·subst hb
   rw[upd_same]at e
   cases e
   refine⟨hz,its.toList,rv,?_⟩
   show eL h' b its.toList.toArray
   simpa using ht
  ·rw[upd_ne hb]at e
   refine (I.hok b u e).stay (λc v hc q=>k c v ?_ q) (λc q=>?_) λc z q=>?_
   ·rcases hc with z|z
    ·rw[z];exact nit b u e
    ·exact nit c _ z
   all_goals first
    |(rw[upd_ne (aV q hTn)];exact q)
    |(rw[upd_ne (aV z hTn)];exact z)
end
def Ite (S:Hp->List V->Prop):It:=
 ⟨λi H=>∃ xs x,S H xs/\xs[i]?=some x,λi H x H'=>∃ T v,(∀ xs,S H xs->xs[i]?=some v)/\H T=none/\x=.ref T/\H'=upd H T (.tup [.int i,v]),λi H=>∃ xs,S H xs/\xs.length=i⟩
theorem tT {P:qa5}{w:World}{K:qad}{elts:List Expr}{k:Nat}{pos:Pos} (a it e:Addr) (hei:e≠it) (hae:a≠e) (hai:a≠it) :
  uw P w K (.Tuple elts k pos) (Ite λH xs=>SqL K H a xs) [e,it] e (λi h=>(∃ old,IsEnum h e it i old)/\h.IsListIter it a i) where
 mem:=by simp
 obj:=λi h st b hb=>by
  rcases qaP.mp hb with rfl|hb
  ·obtain⟨⟨old,q⟩,_⟩:=st
   exact⟨_,q,λv z=>by cases z⟩
  ·rw[qaj.mp hb]
   obtain⟨_,o,e,c,d⟩:=st
   exact⟨o,e,λv z=>by rw[d]at z;cases z⟩
 keep:=λi h h' st kk=>⟨let ⟨old,q⟩:=st.1;⟨old,kk e (by simp) _ q⟩,st.2.at λo q=>kk it (by simp) o q⟩
 item:=by
  intro X hP hw hK hc i pins s σ H E I hf st hg
  subst hP hw hK
  obtain⟨xs,x,hq,hx⟩:=hg
  obtain⟨its,rv,p,hz⟩:=I.list hq
  obtain⟨u,hu,ru⟩:=rv.get hx
  have W:=qd9 (qhY (prog:=X.prog) (w:=X.w) (A:=X.A.in1) (I.ok.hd hc) it a hai its.toArray) e hei (by simp[hei,qbu hae]) (by simp)
  have hi:i<its.toArray.size:=by
   have:=(qar.mp hu).1
   simpa using this
  obtain⟨⟨ol,he0⟩,hit0⟩:=st
  refine qfH (qhY (prog:=X.prog) (w:=X.w) (A:=X.A.in1) (I.ok.hd hc) it a hai its.toArray) he0 ⟨hit0,p.isList⟩ hi hei (by simp[hei,qbu hae]) λy h1 t hy ho hs' ht hsz hk=>⟨_,rfl,?_⟩
  have hm:(λ(i:Nat) (T:Addr) (h:Heap)=>(∃ x,IsEnumOut h e it ((i:Int)+1) x T)/\_/\T≠e/\T≠it) i s.heap.objs.size h1:=⟨⟨_,ho⟩,hs',qb6 (qaG he0),qb6 (let ⟨_,q,_⟩:=hit0;qaG q)⟩
  have kk:∀ b o,b∉[e,it]->s.heap.get? b=some o->h1.get? b=some o:=λb o hb q=>hk b o (λz=>hb (by simp[z])) (λz=>hb (by simp[z])) q
  generalize eT:s.heap.objs.size=T at ht ho hm ⊢
  have hT:s.heap.objs.size<=T:=qcB eT
  have etk:∃ tk,tk=t+1:=⟨_,rfl⟩
  obtain⟨tk,etk⟩:=etk
  rw[<-etk]
  have ey:y=u:=by
   have hy':its[i]?=some y:=by simpa using hy
   rw[hu]at hy'
   exact (qaZ hy').symm
  subst ey
  refine W.go elts k pos i T _ _ _ hm λh2 hst kk2=>?_
  have nT:T∉[e,it]:=W.apart i T _ hm
  refine⟨.ref T,upd H T (.tup [.int i,x]),?_,rfl,⟨T,x,λys hy=>by rw[I.list_inj hy hq];exact hx,I.hok.fresh hT,rfl,rfl⟩,⟨hst.1,hst.2.1⟩,λb hb=>?_⟩
  ·have ht2:eL h2 T #[.int i t,y]:=⟨_,kk2 T _ nT ht,rfl,⟨_,rfl⟩,rfl⟩
   have I2:Inv X pins σ (upd H T (.tup [.int i,x])) { s with heap:=h2,toks:=tk }:=
    I.turnsT (fp:=[e,it]) (h':=h2) (t':=tk) (its:=#[.int i t,y]) hf (λb o hb q=>kk2 b o hb (kk b o hb q)) hT ht2 (.cons ⟨t,rfl⟩ (.cons ru .nil)) (by show 2<=qaS;decide)
   exact I2
  ·rw[upd_ne (show b≠T from λz=>nT (z ▸ hb))]
   exact (hf b hb).1
 done:=by
  intro X hP hw hK hc i pins s σ H E I hf st hg
  subst hP hw hK
  obtain⟨xs,hq,hx⟩:=hg
  obtain⟨its,rv,p,hz⟩:=I.list hq
  have hl:=rv.length
  have hx':its.toArray[i]?=none:=by simp;lia
  obtain⟨⟨old,he⟩,hit⟩:=st
  -- the end at place i
  obtain⟨f0,f1,f2,f3,f4,f5⟩:=hf e (by simp)
  refine wpAny_pyNext_enum_end (I.ok.hd hc) he hit p.isList hx' λh' eb=>⟨rfl,?_⟩
  exact I.turns (t':=s.toks) (fp:=[e,it]) hf λb o hb q=>eb b o (by simp at hb;exact hb.2) q
 self:=λ_ _ _ _ _ st h=>let ⟨⟨_,he⟩,_⟩:=st;qdD he h
theorem tH {P:qa5}{w:World}{K:qad}{elts:List Expr}{k:Nat}{pos:Pos} (a it e:Addr) (hei:e≠it) (hae:a≠e) (hai:a≠it) :
  uw P w K (.Tuple elts k pos) (Ite λH xs=>SqT K H a xs) [e,it] e (λi h=>(∃ old,IsEnum h e it i old)/\h.IsTupleIter it a i) where
 mem:=by simp
 obj:=λi h st b hb=>by
  rcases qaP.mp hb with rfl|hb
  ·obtain⟨⟨old,q⟩,_⟩:=st
   exact⟨_,q,λv z=>by cases z⟩
  ·rw[qaj.mp hb]
   obtain⟨_,o,e,c,d⟩:=st
   exact⟨o,e,λv z=>by rw[d]at z;cases z⟩
 keep:=λi h h' st kk=>⟨let ⟨old,q⟩:=st.1;⟨old,kk e (by simp) _ q⟩,st.2.at λo q=>kk it (by simp) o q⟩
 item:=by
  intro X hP hw hK hc i pins s σ H E I hf st hg
  subst hP hw hK
  obtain⟨xs,x,hq,hx⟩:=hg
  obtain⟨its,rv,p,hz⟩:=I.tuple hq
  obtain⟨u,hu,ru⟩:=rv.get hx
  have W:=qd9 (jF (prog:=X.prog) (w:=X.w) (A:=X.A.in1) (I.ok.hd hc) it a hai its.toArray) e hei (by simp[hei,qbu hae]) (by simp)
  have hi:i<its.toArray.size:=by
   have:=(qar.mp hu).1
   simpa using this
  obtain⟨⟨ol,he0⟩,hit0⟩:=st
  refine qfH (jF (prog:=X.prog) (w:=X.w) (A:=X.A.in1) (I.ok.hd hc) it a hai its.toArray) he0 ⟨hit0,p⟩ hi hei (by simp[hei,qbu hae]) λy h1 t hy ho hs' ht hsz hk=>⟨_,rfl,?_⟩
  have hm:(λ(i:Nat) (T:Addr) (h:Heap)=>(∃ x,IsEnumOut h e it ((i:Int)+1) x T)/\_/\T≠e/\T≠it) i s.heap.objs.size h1:=⟨⟨_,ho⟩,hs',qb6 (qaG he0),qb6 (let ⟨_,q,_⟩:=hit0;qaG q)⟩
  have kk:∀ b o,b∉[e,it]->s.heap.get? b=some o->h1.get? b=some o:=λb o hb q=>hk b o (λz=>hb (by simp[z])) (λz=>hb (by simp[z])) q
  generalize eT:s.heap.objs.size=T at ht ho hm ⊢
  have hT:s.heap.objs.size<=T:=qcB eT
  have etk:∃ tk,tk=t+1:=⟨_,rfl⟩
  obtain⟨tk,etk⟩:=etk
  rw[<-etk]
  have ey:y=u:=by
   have hy':its[i]?=some y:=by simpa using hy
   rw[hu]at hy'
   exact (qaZ hy').symm
  subst ey
  refine W.go elts k pos i T _ _ _ hm λh2 hst kk2=>?_
  have nT:T∉[e,it]:=W.apart i T _ hm
  refine⟨.ref T,upd H T (.tup [.int i,x]),?_,rfl,⟨T,x,λys hy=>by rw[I.tuple_inj hy hq];exact hx,I.hok.fresh hT,rfl,rfl⟩,⟨hst.1,hst.2.1⟩,λb hb=>?_⟩
  ·have ht2:eL h2 T #[.int i t,y]:=⟨_,kk2 T _ nT ht,rfl,⟨_,rfl⟩,rfl⟩
   have I2:Inv X pins σ (upd H T (.tup [.int i,x])) { s with heap:=h2,toks:=tk }:=
    I.turnsT (fp:=[e,it]) (h':=h2) (t':=tk) (its:=#[.int i t,y]) hf (λb o hb q=>kk2 b o hb (kk b o hb q)) hT ht2 (.cons ⟨t,rfl⟩ (.cons ru .nil)) (by show 2<=qaS;decide)
   exact I2
  ·rw[upd_ne (show b≠T from λz=>nT (z ▸ hb))]
   exact (hf b hb).1
 done:=by
  intro X hP hw hK hc i pins s σ H E I hf st hg
  subst hP hw hK
  obtain⟨xs,hq,hx⟩:=hg
  obtain⟨its,rv,p,hz⟩:=I.tuple hq
  have hl:=rv.length
  have W:=qd9 (jF (prog:=X.prog) (w:=X.w) (A:=X.A.in1) (I.ok.hd hc) it a hai its.toArray) e hei (by simp[hei,qbu hae]) (by simp)
  have hi:i=its.toArray.size:=by simp;lia
  subst hi
  refine W.done s _ _ ⟨st.1,st.2,p⟩ λh' tk kk=>⟨rfl,I.turns (fp:=[e,it]) hf kk⟩
 self:=λ_ _ _ _ _ st h=>let ⟨⟨_,he⟩,_⟩:=st;qdD he h
end L2
namespace L2
open PySem PySem.Spec PyProof.Rows
section
variable {X:Cx}
def AK (K:qad) (ta:TA):TI:=λσ H R=>ta σ H λvs H1=>∃ a,vs=[.ref a]/\(∃ xs,SqL K H1 a xs)/\R (Ite λH xs=>SqL K H a xs) H1
theorem wz {elts:List Expr}{k:Nat}{tpos:Pos}{a:Expr}{ta:TA}{p pos:Pos} (hg:Gl X "enumerate") (hm:X.mg "enumerate" = none) (ha:PA X [a] ta) (hs:qbl [a] X.env=[(false,eval a X.env)]:=by rfl) :
  PI X (.Tuple elts k tpos) (.Call (.Name "enumerate" p) [a] [] pos) (AK X.K ta):=by
 intro pins s σ H R I h
 refine Call_ (kH I hg hm qic (qbQ (thn (ha pos pins s σ H _ I h) λus s1 ⟨vs,H1,I1,r1,q1⟩=>?_) hs rfl))
 obtain⟨l,e,⟨xs,hq⟩,q⟩:=q1
 subst e
 cases r1 with
 |cons r rr=>
  cases rr
  cases r
  obtain⟨its,rv,p',hz⟩:=I1.list hq
  refine call_enumerate_list p'.isList λh' he hit hsz hk=>qdD he ?_
  have hlt:l<s1.heap.objs.size:=by obtain⟨_,_,e,_⟩:=p';exact qaG e
  refine⟨_,[s1.heap.objs.size+1,s1.heap.objs.size],_,_,H1,rfl,I1.kept (t':=s1.toks) hk,tT l s1.heap.objs.size (s1.heap.objs.size+1) (qgn _) (qaW (qbo hlt)) (qaW hlt),⟨⟨_,he⟩,hit⟩,λb hb=>?_,q⟩
  have hb':s1.heap.objs.size<=b:=by
   rcases qaP.mp hb with e|hb
   ·rw[e];exact qc5 _
   ·rw[qaj.mp hb];exact qan _
  exact I1.fpOk hb' (I1.hok.fresh hb')
def AZ (K:qad) (ta:TA):TI:=λσ H R=>ta σ H λvs H1=>∃ a,vs=[.ref a]/\(∃ xs,SqT K H1 a xs)/\R (Ite λH xs=>SqT K H a xs) H1
theorem xA {elts:List Expr}{k:Nat}{tpos:Pos}{a:Expr}{ta:TA}{p pos:Pos} (hg:Gl X "enumerate") (hm:X.mg "enumerate" = none) (ha:PA X [a] ta) (hs:qbl [a] X.env=[(false,eval a X.env)]:=by rfl) :
  PI X (.Tuple elts k tpos) (.Call (.Name "enumerate" p) [a] [] pos) (AZ X.K ta):=by
 intro pins s σ H R I h
 refine Call_ (kH I hg hm qic (qbQ (thn (ha pos pins s σ H _ I h) λus s1 ⟨vs,H1,I1,r1,q1⟩=>?_) hs rfl))
 obtain⟨l,e,⟨xs,hq⟩,q⟩:=q1
 subst e
 cases r1 with
 |cons r rr=>
  cases rr
  cases r
  obtain⟨its,rv,p',hz⟩:=I1.tuple hq
  refine jI p' λh' he hit hsz hk=>qdD he ?_
  have hlt:l<s1.heap.objs.size:=by obtain⟨_,e,_⟩:=p';exact qaG e
  refine⟨_,[s1.heap.objs.size+1,s1.heap.objs.size],_,_,H1,rfl,I1.kept (t':=s1.toks) hk,tH l s1.heap.objs.size (s1.heap.objs.size+1) (qgn _) (qaW (qbo hlt)) (qaW hlt),⟨⟨_,he⟩,hit⟩,λb hb=>?_,q⟩
  have hb':s1.heap.objs.size<=b:=by
   rcases qaP.mp hb with e|hb
   ·rw[e];exact qc5 _
   ·rw[qaj.mp hb];exact qan _
  exact I1.fpOk hb' (I1.hok.fresh hb')
theorem sY {ns:List Int}:∀ {us:List Value},bf (ns.map V.int) us->∃ xs:Array (Int×Tok),us.toArray=intItems xs/\xs.toList.map (·.1)=ns:=by
 induction ns with
 |nil=>intro us r;cases r;exact⟨#[],by simp[intItems],rfl⟩
 |cons n ns ih=>
  intro us r
  rw[qay]at r
  cases r with
  |cons r rr=>
   obtain⟨t,rfl⟩:=r
   obtain⟨xs,e,e2⟩:=ih rr
   refine⟨#[(n,t)]++xs,?_,by simp[e2]⟩
   apply Array.toList_inj.mp
   have e':=congrArg qfg e
   simp[intItems]at e' ⊢
   exact e'
theorem yf:dD X (.builtin "sum") (λxs H Q=>X.calm=true/\∃ (a:Addr) (ns:List Int),xs=[.ref a]/\SqL X.K H a (ns.map V.int)/\Q (.int ns.sum) H):=by
 intro pins s σ H xs us Q I rv h
 obtain⟨hc,a,ns,rfl,hq,q⟩:=h
 cases rv with
 |cons r rr=>
  cases rr
  cases r
  obtain⟨its,rv,p,hz⟩:=I.list hq
  obtain⟨ps,e1,e2⟩:=sY rv
  have hl:=p.isList
  rw[e1]at hl
  refine sum_intListG (I.ok.hd hc) hl λh' tk t' hk=>?_
  refine⟨.int ns.sum,H,I.kept (t':=tk) hk,⟨t',?_⟩,q⟩
  rw[preSum_eq,qcO (by simp),e2]
theorem xJ:dD X (.builtin "all") (λxs H Q=>X.calm=true/\∃ (a:Addr) (bs:List Bool),xs=[.ref a]/\SqL X.K H a (bs.map V.bl)/\Q (.bl (bs.all id)) H):=by
 intro pins s σ H xs us Q I rv h
 obtain⟨hc,a,bs,rfl,hq,q⟩:=h
 cases rv with
 |cons r rr=>
  cases rr
  cases r
  obtain⟨its,rv,p,hz⟩:=I.list hq
  have hlt:a<s.heap.objs.size:=by obtain⟨_,_,e,_⟩:=p;exact qaG e
  have hlen:its.length=bs.length:=by have:=rv.length;simpa using this.symm
  refine call_all_walk (qeJ p.isList ?_)
  refine⟨s.heap.objs.size,_,_,_,_,_,λi=>(bs[i]?).getD true,rfl,Walks.list (A:=X.A.in1) (I.ok.hd hc) s.heap.objs.size a (qaW hlt) its.toArray,⟨⟨_,qaI _ rfl,rfl,rfl⟩,p.isList.push _⟩,?_,λh' tk hk=>?_⟩
  ·intro i v s' Q' E' hv hQ'
   have hv':its[i]?=some v:=by simpa using hv
   have hi:i<its.length:=(qar.mp hv').1
   obtain⟨b,hb⟩:∃ b,bs[i]?=some b:=⟨bs[i]'(by lia),by simp[show i<bs.length by lia]⟩
   have:(bs.map V.bl)[i]?=some (.bl b):=by rw[qaO,hb];rfl
   obtain⟨u,hu,ru⟩:=rv.get this
   rw[hv']at hu
   cases hu
   cases ru
   have hQ2:Q' ((bs[i]?).getD true) s':=hQ'
   rw[hb]at hQ2
   exact qc1 hQ2
  ·refine⟨.bl (bs.all id),H,I.kept (t':=tk) (λb o e=>hk b o (λz=>absurd (qaG e) (by rw[qaj.mp z];exact qa2 _)) (qak _ e)),?_,q⟩
   show Value.bool _=Value.bool _
   congr 1
   have:∀ n,n=bs.length->((qac n).all λi=>(bs[i]?).getD true)=bs.all id:=by
    intro n hn
    rw[qcJ,qa3,qa3]
    constructor
    ·intro h b hb
     obtain⟨i,hi,e⟩:=qdO.mp hb
     have:=h i (qaK.mpr (by lia))
     simp[hi,e]at this
     exact this
    ·intro h i hi
     have hi':=qaK.mp hi
     have hlt':i<bs.length:=by lia
     simp[hlt']
     exact h _ (qew _)
   exact this _ (by simpa using hlen)
end
def gy (k:Nat) (js:List Nat) (σ:St):St:=qaB k none++js.map λj=>(σ[j]?).getD none
def B9 (scope:Scope) (ns:List (Str×qbK)) (N Nc:List Str) (k:Nat) (js:List Nat):Bool:=
 decide ((scope.names.map (·.1)).Nodup)&&decide Nc.Nodup&&decide (Nc.length=k+js.length) &&
 (scope.names.all λx=>x.2 != .free||ns.lookup x.1==some .cell||ns.lookup x.1==some .free) &&
 ((qac js.length).all λi=>match Nc[k+i]?,js[i]? with|some x,some j=>N[j]?==some x&&scope.names.lookup x==some .free|_,_=>false)
theorem bV {X:Cx}{scope:Scope} (ns:List (Str×qbK)) (N Nc:List Str) (k:Nat) (js:List Nat) (hns:X.env.scope.names=ns) (hN:X.N=N) (hk:scope.kind=.function) (h:B9 scope ns N Nc k js=true):fE X scope Nc (gy k js):=by
 unfold B9 at h
 simp only[qa4,decide_eq_true_eq]at h
 obtain⟨⟨⟨⟨h1,h2⟩,h3⟩,h4⟩,h5⟩:=h
 refine⟨hk,h1,h2,λx hx hf=>?_,λσ _=>?_,λσ _ i x v e1 e2=>?_⟩
 ·have:=qa3.mp h4 x hx
  rw[hf]at this
  simp only[qgt,beq_iff_eq,bne_self_eq_false,qbE,false_or]at this
  unfold qjg
  rw[hns]
  exact this
 ·unfold gy
  rw[qap,qch,qai,h3]
 ·unfold gy at e2
  by_cases hi:i<k
  ·rw[qas (by simpa using hi),qcI,if_pos hi]at e2
   cases e2
  ·rw[qau (by simpa using hi),qch,qaO]at e2
   cases ej:js[i - k]? with
   |none=>rw[ej]at e2;cases e2
   |some j=>
    rw[ej]at e2
    have hlt:=(qar.mp ej).1
    have:=qa3.mp h5 (i - k) (qaK.mpr hlt)
    rw[show k+(i - k)=i by lia,e1,ej]at this
    simp only[qa4,beq_iff_eq]at this
    refine⟨j,by rw[hN];exact this.1,?_,this.2⟩
    have e3:(σ[j]?).getD none=some v:=qaZ e2
    cases eq:σ[j]? with
    |none=>rw[eq]at e3;cases e3
    |some o=>rw[eq]at e3;rw[show o=some v from e3]
def Cr (names ns:List (Str×qbK)):List (Str×qbK):=names.map λx=>if (x.2==NameKind.free&&ns.lookup x.1==some .cell) then (x.1,.cell) else x
theorem zB {X:Cx}{scope:Scope}{cells:List (Str×Addr)}{Nc:List Str}{s:qam}{H:Hp}{C:Addr}{fp:List Addr}{ns:List (Str×qbK)} (hk:X.env.scope.kind=.function) (hns:X.env.scope.names=ns) :
  (lcX X scope cells Nc s H C fp).env.scope.names=Cr scope.names ns:=by
 show (scope.names.map _)=_
 unfold Cr
 congr 1
 funext x
 obtain⟨n,k⟩:=x
 show (if (k==.free&&X.env.scope.kind==.function&&X.env.kindOf n==some .cell)=true then (n,NameKind.cell) else (n,k))=(if (k==.free&&ns.lookup n==some .cell)=true then (n,NameKind.cell) else (n,k))
 unfold qjg
 rw[hk,hns,show (ScopeKind.function==ScopeKind.function)=true from rfl,Bool.and_true]
section
variable {σe tl:St}{tt:TT}{te:TE}{H:Hp}{Q:VK}
end
section
variable {X:Cx}
theorem yT:OpR X (qbC .Mult) (rI qfT λi j=>.int (i*j)):=opI λ_ _ _ _ _ _ _ hc q=>mul_int q hc
end
theorem bv.new {H:Hp}{p:Addr} (h:H p=none) (o:HO):bv H (upd H p o):=λb u q=>by rw[upd_ne (aV q h)];exact q
theorem qg {n:Nat} (h:n<=1000):n<=qaS:=qcV (we h)
theorem p18:uf 10 18:=⟨by decide,by decide,by decide⟩
end L2
namespace L2
open PySem PySem.Spec PyProof.Rows
open PySem.AutoSeq1 (wpAny_loadPart')
theorem wH (l:Addr) (items:Array Value) (n:Nat) (dct:Option Addr) (sl:Array (Option Value)) (u:Tok) :
  Meets (qgE.«tuple.__mul__» ⟨[.ref l,.int 1 u],[]⟩) (λ_ R s=>s.heap.get? l=some { cls:=.type "tuple",dict:=dct,data:=.seq items n,slots:=sl }/\R (.ok (.ret (.ref l))) s):=
 .of_wp λprog w A R s h=>by
  obtain⟨hp,g,d,tk,os⟩:=s;obtain⟨hl,h⟩:=h
  wp_walk using wpAny_loadPart' hl
  exact⟨_,rfl,h⟩
theorem wl (l:Addr) (items:Array Value) (n:Nat) (dct:Option Addr) (sl:Array (Option Value)) (x:Int) (u:Tok) (h2:2<=x) (h3:x<1000) (he:items.isEmpty=false) (hz:items.size<=1000)
  (hsz:((qaB x.toNat items).foldl (λx1 x2=>x1++x2) #[]).size<=qaS) :
  Meets (qgE.«tuple.__mul__» ⟨[.ref l,.int x u],[]⟩) (λ_ R s=>s.heap.get? l=some { cls:=.type "tuple",dict:=dct,data:=.seq items n,slots:=sl }/\
   R (.ok (.ret (.ref s.heap.objs.size))) { s with heap:=s.heap.push { cls:=.type "tuple",data:=.seq ((qaB x.toNat items).foldl (λx1 x2=>x1++x2) #[]) } }):=
 .of_wp λprog w A R s h=>by
  obtain⟨hp,g,d,tk,os⟩:=s;obtain⟨hl,h⟩:=h
  have c1:(x < -(2^63)||x>=2^63)=false:=by simp;lia
  have c2:(items.isEmpty||x==1)=false:=by rw[he];simp;lia
  have c3:(x<=0||items.isEmpty)=false:=by rw[he];simp;lia
  have hpr:(items.size:Int)*x<=1000000:=by
   have a1:(items.size:Int)*x<=1000*x:=qcW (by lia) (by lia)
   lia
  have c4:¬ ((items.size:Int)*x > (2^63 - 1) / 8):=by lia
  have c5:qdX ((items.size:Int)*x)=false:=by
   unfold qdX
   exact decide_eq_false (by have:(qaS:Nat)=16777216:=rfl
                             lia)
  wp_walk using wpAny_loadPart' hl
  refine qd0 (decide_eq_false (by rw[c1];exact qaH)) ?_
  wp_walk using wpAny_loadPart' hl
  refine qd0 (decide_eq_false (by rw[c2];exact qaH)) ?_
  wp_walk using wpAny_loadPart' hl
  refine qd0 (decide_eq_false (by rw[c3];exact qaH)) ?_
  wp_walk using wpAny_loadPart' hl
  refine qd0 (decide_eq_false c4) ?_
  wp_walk using wpAny_loadPart' hl
  exact⟨_,rfl,h⟩
theorem lH:fillsNumberSlot (.type "tuple") "mul" = pure false:=
 PySem.fillsNumberSlot_seq (id:="tuple.__mul__") (r:=some (.builtin "tuple.__rmul__")) qdG.lookup (by decide +kernel) qgA.lookup (by decide +kernel)
theorem pZ:seqRepeat? (.type "tuple")=pure (some (.builtin "tuple.__mul__")):=by
 unfold seqRepeat?
 rw[qf0 (T:="tuple") (name:="__mul__") (id:="tuple.__mul__") qdG.lookup (by decide +kernel),qf0 (T:="tuple") (name:="__rmul__") (id:="tuple.__rmul__") qgA.lookup (by decide +kernel)]
 rfl
theorem nM (a:Int) (t:Tok) (l:Addr) (items:Array Value) (n:Nat) (dct:Option Addr) (sl:Array (Option Value)) :
  Meets (qgE.«int.__rmul__» ⟨[.int a t,.ref l],[]⟩) (λ_ R s=>s.heap.get? l=some { cls:=.type "tuple",dict:=dct,data:=.seq items n,slots:=sl }/\R (.ok (.ret Value.notImplemented)) s):=
 .of_wp λprog w A R s h=>by obtain⟨hp,g,d,tk,os⟩:=s;obtain⟨hl,h⟩:=h;wp_walk using wpAny_loadPart' hl;exact⟨_,rfl,h⟩
section
variable {X:Cx}
def CN (K:qad):R2:=λx y H Q=>∃ l k xs,x=.ref l/\y=.int k/\SqT K H l xs/\xs≠[]/\xs.length<=1000/\1<=k/\k<1000/\(k=1->Q (.ref l) H)/\
 (k≠1->∀ p,H p=none->Q (.ref p) (upd H p (.tup (qaB k.toNat xs).flatten)))
theorem yH:OpR X (qbC .Mult) (CN X.K):=by
 intro pins s σ H x y v u Q I rx ry h
 obtain⟨l,k,xs,rfl,rfl,hq,hne,hl1,h1,h2,q1,q2⟩:=h
 cases rx
 obtain⟨t,rfl⟩:=ry
 obtain⟨its,rv,p,hz⟩:=I.tuple hq
 obtain⟨⟨c,dct,dt,sl⟩,e,hc,n,hd⟩:=p
 replace hc:c=.type "tuple":=hc
 replace hd:dt=.seq its.toArray n:=hd
 subst hc hd
 have hlen:=rv.length
 refine qfo (T:="tuple") (U:="int") (by decide) ⟨_,e,rfl⟩ (λs'=>qeK s' k t) lH qgY qdS pZ qgK.lookup
  (qcN qdS (qeK s k t) qgM (qgD _ _) (nM k t l its.toArray n dct sl) ⟨e,rfl,⟨_,e,rfl⟩,?_⟩)
 by_cases hk:k=1
 ·subst hk
  exact qcN qdG ⟨_,e,rfl⟩ qgB (qgs _ _) (wH l its.toArray n dct sl t) ⟨e,.ref l,H,I,rfl,q1 rfl⟩
 ·have f0:qe1 (λx1 x2=>x1++x2) #[] (qaB k.toNat its.toArray)=(qaB k.toNat its).flatten.toArray:=by
   have:=lp its k.toNat []
   rw[qcf]at this
   exact this
  have hsz:(qaB k.toNat xs).flatten.length<=qaS:=by
   rw[pS]
   have:k.toNat*xs.length<=1000*1000:=qcv (by lia) hl1
   have hs:qaS=16777216:=rfl
   lia
  have hsz2:(qaB k.toNat its).flatten.length<=qaS:=by
   rw[pS]at hsz ⊢
   rw[<-hlen];exact hsz
  refine qcN qdG ⟨_,e,rfl⟩ qgB (qgs _ _) (wl l its.toArray n dct sl k t (by lia) h2 ?_ (by rw[qaz];lia) (by rw[f0,qaz];exact hsz2)) ⟨e,?_⟩
  ·cases its with
   |nil=>cases xs with
    |nil=>exact absurd rfl hne
    |cons _ _=>cases hlen
   |cons _ _=>rfl
  ·rw[f0]
   refine⟨.ref _,_,I.laid (t':=s.toks) (o:=.tup (qaB k.toNat xs).flatten) (λ_ _ q=>qak _ q) (qan _) ⟨hsz,(qaB k.toNat its).flatten,rv.rep k.toNat,⟨_,qaI _ rfl,rfl,⟨0,rfl⟩,rfl⟩⟩,rfl,q2 hk _ I.fresh⟩
end
end L2
namespace L2
open PySem PySem.Spec PyProof.Rows
section
variable {X:Cx}{K:qad}
theorem CJ (hc:X.calm=true:=by rfl) (hK:X.K=K:=by rfl):dD X (.builtin "sum") (λxs H Q=>∃ (a:Addr) (ns:List Int),xs=[.ref a]/\SqL K H a (ns.map V.int)/\Q (.int ns.sum) H):=by
 subst hK
 intro pins s σ H xs us Q I rv h
 exact yf pins s σ H xs us Q I rv ⟨hc,h⟩
theorem Ct (hc:X.calm=true:=by rfl) (hK:X.K=K:=by rfl):dD X (.builtin "all") (λxs H Q=>∃ (a:Addr) (bs:List Bool),xs=[.ref a]/\SqL K H a (bs.map V.bl)/\Q (.bl (bs.all id)) H):=by
 subst hK
 intro pins s σ H xs us Q I rv h
 exact xJ pins s σ H xs us Q I rv ⟨hc,h⟩
end
section
variable {X:Cx}
end
theorem fI {n j:Nat} (h:j<n):ixN n (j:Int)=some j:=by
 unfold ixN
 rw[if_pos (by lia),if_pos (by lia),qbA]
section
variable {X:Cx}{e:Expr}{ty:TE}{p1 p2 p3 p4 dpos apos cpos:Pos}{j1 j2 j3 j4:Nat}
end
end L2
namespace L2
open PySem PySem.Spec PyProof.Rows
open PySem.AutoSeq1 (wpAny_loadPart')
section
variable {prog:qa5}{w:World}{A:qbd}{E:Value->qam->Prop}{s:qam}
end
section
variable {X:Cx}
theorem yN:dD X (.type "range") (λxs H Q=>∃ j:Int,xs=[.int j]/\∀ p,H p=none->Q (.ref p) (upd H p (.rng 0 j))):=by
 intro pins s σ H xs us Q I rv h
 obtain⟨j,rfl,q⟩:=h
 cases rv with
 |cons r rr=>
  cases rr
  obtain⟨t,rfl⟩:=r
  exact call_range_1 ⟨.ref _,_,I.laid (o:=.rng 0 j) (λ_ _ q=>qak _ q) (qan _) ⟨_,_,_,qaI _ rfl⟩,rfl,q _ I.fresh⟩
end
section
variable {prog:qa5}{w:World}{A:qbd}{E:Value->qam->Prop}{s:qam}
end
section
variable {X:Cx}{e:Expr}{te:TE}{p1 p2 p3 pos:Pos}{j:Nat}
end
end L2
namespace L2
open PySem PySem.Spec PyProof.Rows
theorem bf.at {xs:List V}{us:List Value} (r:bf xs us):∀ (j:Nat) (h:j<us.length) ,∃ h':j<xs.length,bJ xs[j] us[j]:=by
 induction r with
 |nil=>intro j h;exact absurd h (qcK j)
 |cons a t ih=>
  intro j h
  cases j with
  |zero=>exact⟨Nat.zero_lt_succ _,a⟩
  |succ j=>
   obtain⟨h1,r1⟩:=ih j (qfl h)
   exact⟨Nat.succ_lt_succ h1,r1⟩
theorem nw (e:Nat->Bool) (n:Nat):(qac (n+1)).all e=(e 0&&(qac n).all λj=>e (j+1)):=by
 rw[qbW,qbD,qgW];rfl
section
variable {X:Cx}{K:qad}{pins:List (Addr×Obj)}{σ:St}{H:Hp}{s:qam}{A:qbd}{a b:Addr}{xs ys:List V}
end
section
variable {X:Cx}{pos p1 p2:Pos}{j1 j2:Nat}
end
section
variable {K:qad}{H:Hp}
end
section
variable {X:Cx}{K:qad}
end
end L2
namespace HT
open PySem PySem.Spec PyProof.Rows L2
section
variable {prog:qa5}{w:World}{A:qbd}{E:Value->qam->Prop}{s:qam}
theorem getItem_tuple_all {t sl:Addr}{items:Array Value}{vl vu:Value}{lo hi:Option Int}{Q:Value->qam->Prop} (ht:IsTup s.heap t items) (hs:s.heap.IsSliceOf sl vl vu .none) (pl:qeU vl lo) (pu:qeU vu hi)
  (hw:sIx items.size 0 lo=0/\sIx items.size items.size hi=items.size) (h:Q (.ref t) s):wpAny (model prog w) A (qe9 (.ref t) (.ref sl)) Q E s:=by
 obtain⟨os,hos,hcs,hds⟩:=id hs
 have hTs:s.TypeIs (.ref sl) "slice":=⟨os,hos,hcs⟩
 unfold qe9
 try with_reducible refine qda ?_
 first|refine qag (qaE ?_)|skip
 refine qag (qgO ht.typeIs (by decide) ?_)
 refine qag (qbV (name:=qdg "__getitem__") ht.typeIs qbr
  (qcD qbr ht.typeIs qgw ?_ (qgG _ _)))
 show wpAny _ _ (qdY (.ref t) >>= _) _ _ s
 refine qag (tupleItemsOf_ ht ?_)
 refine qag (qf7 hTs ?_)
 rw[if_pos (by decide)]
 refine qag (iN hs pl pu ?_)
 have hyes:(((sIx items.size 0 lo:Nat):Int)==0&&(1:Int)==1&&(sIx items.size items.size hi - sIx items.size 0 lo)==items.size)=true:=by
  rw[hw.1,hw.2]
  simp
 show wpAny _ _ (if (((sIx items.size 0 lo:Nat):Int)==0&&(1:Int)==1&&(sIx items.size items.size hi - sIx items.size 0 lo)==items.size)=true then _ else _) _ _ s
 rw[if_pos hyes]
 unfold qg0
 refine qag (qag (qf7 ht.typeIs (qaE ?_)))
 show wpAny _ _ (if ((Value.type "tuple")==(Value.type "tuple"))=true then _ else _) _ _ s
 rw[if_pos (beq_self_eq_true _)]
 first
  |exact qag (qdC (qaE ⟨_,rfl,qaE h⟩))
  |exact qag (qag (qdC (qaE (qaE ⟨_,rfl,qaE h⟩))))
  |exact qag (qdC (qag (qaE (qaE ⟨_,rfl,qaE h⟩))))
  |exact qag (qdC (qag (qaE ⟨_,rfl,qaE h⟩)))
end
end HT
namespace L2
open PySem PySem.Spec PyProof.Rows
def BR (K:qad):V->Option Int->Option Int->Hp->VK->Prop:=λx lo hi H Q=>∃ a xs,x=.ref a/\SqT K H a xs/\
 ((¬ (HT.sIx xs.length 0 lo=0/\HT.sIx xs.length xs.length hi=xs.length)/\∀ p,H p=none->Q (.ref p) (upd H p (.tup (pO xs lo hi))))\/
   ((HT.sIx xs.length 0 lo=0/\HT.sIx xs.length xs.length hi=xs.length)/\Q (.ref a) H))
theorem BC {X:Cx}{K:qad} (hK:X.K=K:=by rfl):SlR X (BR K):=by
 subst hK
 intro pins s σ H x v vl vu lo hi sl Q I rx hs pl pu h
 obtain⟨a,xs,rfl,hx,h⟩:=h
 rcases h with⟨hw,q⟩|⟨hw,q⟩
 ·exact As pins s σ H _ v vl vu lo hi sl Q I rx hs pl pu ⟨a,xs,rfl,hx,hw,q⟩
 ·cases rx
  obtain⟨its,r,ht,hz⟩:=I.tuple hx
  have hlen:its.toArray.size=xs.length:=by rw[qaz];exact r.length.symm
  refine⟨"tuple",_,qbr.lookup,ht.typeIs,?_⟩
  exact HT.getItem_tuple_all ht hs pl pu (by rw[hlen];exact hw) ⟨.ref a,H,I,rfl,q⟩
section
variable {X:Cx}{scope:Scope}{Nc:List Str}{emb:St->St}{elt iter tg:Expr}{ifs:List Expr}{pos:Pos}{wi:TI}{g:TG}{tt:TT}{te:TE}
theorem zH {i0:Nat}{x0:Str}{py spos:Pos} (hN0:X.N.Nodup) (hi0:X.N[i0]?=some x0) (hx0:Loc X.env.scope x0) (S:fE X scope Nc emb) (hc:X.calm=true) (hi:PI X tg iter wi)
  (hg:∀ cells s H C fp,PG (lcX X scope cells Nc s H C fp) tg g) (ht:∀ cells s H C fp,PTs (lcX X scope cells Nc s H C fp) ifs tt) (he:∀ cells s H C fp,PE (lcX X scope cells Nc s H C fp) elt te)
  (hsw:qcC (.ListComp elt [⟨tg,iter,ifs,0⟩] scope pos) (some (.Name x0 py)) spos.line X.env=pure true:=by rfl)
  (hf0:X.fn x0=true\/X.env.scope.names.lookup x0=some .local:=by first|exact .inl rfl|exact .inr rfl|assumption)
  (hs:∀ x,qbY iter X.env x=pure x:=by intro _;rfl):PS X (.Assign [.Name x0 py] (.ListComp elt [⟨tg,iter,ifs,0⟩] scope pos) spos) (Ba (tLc emb wi g tt te) (rN i0)):=by
 intro pins s σ H DD I h
 rw[exec_Assign_Name_used _ _ _ _ hsw]
 refine qag (qez (qag ?_))
 show wpAny _ X.A (do let _ <-comprehension (.ListComp elt [⟨tg,iter,ifs,0⟩] scope pos) scope X.env _ (newList []) false (eval iter X.env) (some (qek (.Name x0 py) X.env))) _ _ s
 refine qag (qcM (qfw (use:=some (qek (.Name x0 py) X.env)) (Q:=λ_ s'=>SP X pins DD .next s') rfl hs (kl (S.clos I.ok)) S.kind (λx hx hl=>gj S.nd (by rw[<-hl];exact hx)) ?_) (λ_ s' hq=>qaE (qaE hq)) λ_ _ e=>e)
 refine thn (hi pins s σ H _ I h) λv s1 h1=>thn h1 λitv s2 h2=>?_
 obtain⟨it,fp,tn,J,H2,e,I2,T,st2,f2,W,⟨m0,w0⟩,turn⟩:=h2
 subst e
 refine qbX (kN ?_)
 rw[show (s2.heap.push { cls:=.type "list",dict:=none,data:=.seq ([]:List Value).toArray }).objs.size=s2.heap.objs.size+1 from qbi ..]
 generalize hD:s2.heap.objs.size=D
 generalize hlo:({ cls:=.type "list",dict:=none,data:=.seq ([]:List Value).toArray }:Obj)=lo
 have fplt:∀ b∈fp,b<s2.heap.objs.size:=λb hb=>by obtain⟨o,e,_⟩:=T.obj _ _ st2 b hb;exact qaG e
 have I3:=rH (lo:=lo) S I2 f2 (λb hb=>by obtain⟨o,e,_⟩:=T.obj _ _ st2 b hb;exact⟨o,e⟩) (by rw[<-hlo];intro v z;cases z) (by rw[<-hlo];rfl)
 rw[hD]at I3
 generalize hcells:qbM (D+2) scope.names (cw X.env.cells scope.names [])=cells at I3
 generalize hX':lcX X scope cells Nc s2 H2 (D+1) fp=X' at I3
 have hfpX:∀ {H':Hp}{ps:List (Addr×Obj)},(∀ b∈fp,H' b=none)->(∀ p∈ps,p.1=D)->∀ b∈fp,j5 X' ps H' b:=λ{H' ps} hn hps b hb=>by
  have ok:=I3.ok
  refine⟨hn b hb,?_,?_,.inl (by rw[<-hX'];exact hb),?_,λp hp=>?_⟩
  ·exact (ok.exf b (by rw[<-hX'];exact hb)).1
  ·exact ok.exfs b (by rw[<-hX'];exact hb)
  ·exact (ok.exf b (by rw[<-hX'];exact hb)).2
  ·have hp':p∈([]:List (Addr×Obj))++ps:=by rw[<-hX']at hp;exact hp
   have e:p.1=D:=hps p (by simpa using hp')
   rw[e,<-hD]
   exact qb6 (fplt b hb)
 have Dex:D∈X'.ex\/X'.s₀.heap.objs.size<=D:=.inr (by rw[<-hX',<-hD];exact qan _)
 have Dloc:D≠X'.env.locals:=by rw[<-hX'];exact qaW (qbI _)
 have pD:=I3.pin (D,lo) (by rw[<-hX'];exact qav _ qaf)
 have Dfs:D∉X'.fs:=pD.2.2.2.1
 have Dcell:∀ x c,X'.env.cells.lookup x=some c->c≠D:=λx c hc' e=>by
  obtain⟨v,o,ho,hd⟩:=I3.cell x c hc'
  rw[e,pD.1]at ho
  cases ho
  exact pD.2.2.2.2 v hd
 -- the loop
 have loop:∀ s3:qam,s3={ s2 with heap:=qd2 ((s2.heap.push lo).push { cls:=.type "dict",data:=.dict #[] }) scope.names }->
   qem (model X.prog X.w) X.A (.compLoop (.ListComp elt [⟨tg,iter,ifs,0⟩] scope pos) 0 (.ref it) (.ref D) (qfK scope cells (D+1) X.env))
    (compPost (model X.prog X.w) X.A X.xe (some (qek (.Name x0 py) X.env)) (λ_ s'=>SP X pins DD .next s') (.ref D) (D+1)) s3:=by
  rintro s3 rfl
  refine fO (λn s'=>∃ i ys its k H',Inv X' [(D,{ cls:=.type "list",data:=.seq its.toArray k })] (emb σ) H' s'/\bf ys its/\tn i s'.heap/\(∀ b∈fp,H' b=none)/\ys.length<=qaS/\W i n ys H') ?_ m0
   ⟨0,[],[],0,H2,?_,.nil,?_,λb hb=>(f2 b hb).1,qb2 _,w0⟩
  ·rintro n s4 ⟨i,ys,its,k,H4,I4,rv,st4,fr4,hlen,w4⟩
   have hps:∀ p∈[(D,({ cls:=.type "list",data:=.seq its.toArray k }:Obj))],p.1=D:=λp hp=>by
    have:=qaj.mp hp
    rw[this]
   rcases turn i n ys H4 w4 with⟨stop,qn⟩|⟨go,hlt,N,hN,step⟩
   ·-- the end
    have TD:=T.done X' (by rw[<-hX'];rfl) (by rw[<-hX'];rfl) (by rw[<-hX'];rfl) (by rw[<-hX'];exact hc) i _ s4 (emb σ) H4 (λ_ _=>False) I4 (hfpX fr4 hps) st4 stop
    rw[show X'.A=X.A by rw[<-hX'];rfl]at TD
    refine thn TD λr s5 ⟨hr,I5⟩=>?_
    subst hr
    obtain⟨m5,hn5,_⟩:=id I5.loc
    have eC:X'.env.locals=D+1:=by rw[<-hX'];rfl
    rw[eC]at hn5
    suffices inv5:∀ h',qdf (D+1) s5.heap h'->Inv X pins σ (upd H4 D (.lst ys)) { s5 with heap:=h' } by
     have I5X:Inv X pins σ (upd H4 D (.lst ys)) s5:=inv5 s5.heap ⟨rfl,λ_ _=>rfl⟩
     have hD4':H4 D=none:=(I5.pin (D,{ cls:=.type "list",data:=.seq its.toArray k }) (by rw[<-hX'];exact qav _ qaf)).2.1
     have hC4:upd H4 D (.lst ys) (D+1)=none:=by
      have:=I5.free
      rw[eC]at this
      rw[upd_ne (qb6 (qbI D))]
      exact this
     have fpC:∀ b∈[D+1],j5 X pins (upd H4 D (.lst ys)) b:=λb hb=>by
      have e:=qaj.mp hb
      subst e
      exact I2.fpOk (by rw[hD];exact qc5 D) hC4
     obtain⟨oC,esC,epC,getC,datC,relC⟩:=id hn5
     have I5p:=I5X.pinned fpC λb hb=>by
      have e:=qaj.mp hb
      subst e
      exact⟨oC,getC,λv z=>by rw[datC]at z;cases z⟩
     refine qgP (nY I5p hN0 hi0 hx0 (v:=.ref D) rfl (λs6 I6=>?_) hf0)
     have pC:=(I6.pin (D+1,oC) (qav _ (qav _ (d8 qaf getC)))).1
     refine⟨m5,⟨oC,esC,epC,pC,datC,relC⟩,λh' hsb=>?_⟩
     have I6u:=I6.unpinned
     exact⟨_,_,I6u.turns (t':=s6.toks) fpC (λb o hb e=>(hsb.2 b (λz=>hb (by rw[z];exact qaf))).trans e),qn D hD4'⟩
    intro h' hsb
    have pD5:=I5.pin (D,{ cls:=.type "list",data:=.seq its.toArray k }) (by rw[<-hX'];exact qav _ qaf)
    have neC:∀ b u,H4 b=some u->b≠D+1:=λb u e z=>by
     have:=I5.free
     rw[eC,<-z,e]at this
     cases this
    have hD4:H4 D=none:=pD5.2.1
    have un:=I5.base
    have un':Un (frs X.stack) fp H2 H4 s2.heap s5.heap:=by rw[<-hX']at un;exact un
    have old_ne:∀ b o,s2.heap.get? b=some o->b≠D/\b≠D+1:=λb o e=>by
     have q:=qaG e
     rw[hD]at q
     exact⟨qaW q,qaW (qbo q)⟩
    have h2D:H2 D=none:=by rw[<-hD];exact I2.fresh
    have hok':HOk X.prog X.w H4 h':=λb u e=>by
     have ob:dl X.prog X.w H4 s5.heap b u:=by have:=I5.hok b u e;rw[<-hX']at this;exact this
     refine ob.stay (λc v hcv q=>(hsb.2 c ?_).trans q) (λ_ q=>q) λ_ _ q=>q
     rcases hcv with z|z
     ·rw[z];exact neC b u e
     ·exact neC c _ z
    have hokD:HOk X.prog X.w (upd H4 D (.lst ys)) h':=λb u e=>by
     by_cases hb:b=D
     ·subst hb
      rw[upd_same]at e
      cases e
      exact⟨hlen,its,k,rv,(hsb.2 b (qaW (qbI _))).trans pD5.1⟩
     ·rw[upd_ne hb]at e
      refine (hok' b u e).stay (λ_ _ _ q=>q) (λc q=>?_) λc z q=>?_
      all_goals first
       |(rw[upd_ne (aV q hD4)];exact q)
       |(rw[upd_ne (aV z hD4)];exact z)
    refine I2.call' (s':={ s5 with heap:=h' }) (ch:=fp) ?_ ⟨λb o e nb hb hx=>?_,λb o e nb hb hx=>?_,λb o e nb hx=>?_,λb o e hx=>?_,λb xs e=>?_,λb o u e=>?_,λb ps e=>?_⟩ hokD I5.bare (λb hb=>?_)
    ·have:=I5.os
     rw[<-hX']at this
     exact this
    ·exact (hsb.2 b (old_ne b o e).2).trans (un'.keep b o e nb hb hx)
    ·obtain⟨sl,q⟩:=un'.slot b o e nb hb hx
     exact⟨sl,(hsb.2 b (old_ne b o e).2).trans q⟩
    ·rw[upd_ne (old_ne b o e).1]
     exact un'.free b o e nb hx
    ·obtain⟨o',q⟩:=un'.there b o e hx
     exact⟨o',(hsb.2 b (old_ne b o e).2).trans q⟩
    ·rw[upd_ne (aV e h2D)]
     exact un'.tups b xs e
    ·rw[upd_ne (aV e h2D)]
     exact un'.frzs b o u e
    ·obtain⟨m,q⟩:=un'.tbls b ps e
     exact⟨m,by rw[upd_ne (aV e h2D)];exact q⟩
    ·obtain⟨q0,q1,q2,q3,q4,q5⟩:=f2 b hb
     exact⟨q3,q1,q4,q5⟩
   ·-- a turn
    have hA:X'.A=X.A:=by rw[<-hX'];rfl
    have hP:X'.prog=X.prog:=by rw[<-hX'];rfl
    have hw:X'.w=X.w:=by rw[<-hX'];rfl
    have hE:X'.env=qfK scope cells (D+1) X.env:=by rw[<-hX'];rfl
    have hxe:X'.xe=λ_ _=>False:=by rw[<-hX'];rfl
    have TI':=T.item X' hP hw (by rw[<-hX'];rfl) (by rw[<-hX'];exact hc) i _ s4 (emb σ) H4 (λ_ _=>False) I4 (hfpX fr4 hps) st4 go
    rw[hA]at TI'
    refine thn TI' λr s5 ⟨u,hr,h5⟩=>?_
    subst hr
    refine thn h5 λ_ s6 ⟨x,H6,I6,r6,y6,st6,fr6⟩=>?_
    have I6':=I6.pinned (hfpX fr6 hps) (T.obj _ _ st6)
    have G:=hg cells s2 H2 (D+1) fp
    have TT':=ht cells s2 H2 (D+1) fp
    have EE:=he cells s2 H2 (D+1) fp
    rw[hX']at G TT' EE
    have G':=G _ s6 (emb σ) H6 x u _ I6' r6 (step x H6 y6)
    rw[hA,hP,hw,hE,hxe]at G'
    refine thn G' λ_ s7 ⟨σ7,H7,I7,sb7,q7⟩=>?_
    have T':=TT' _ s7 σ7 H7 _ I7 q7
    rw[hA,hP,hw,hE,hxe]at T'
    refine thn T' λok s8 ⟨H8,I8,q8⟩=>?_
    -- what is pinned
    have pin_fp:∀ {σ9:St}{H9:Hp}{s9:qam},Inv X' ([(D,({ cls:=.type "list",data:=.seq its.toArray k }:Obj))]++lz fp s6.heap) σ9 H9 s9->tn (i+1) s9.heap/\∀ b∈fp,H9 b=none:=λ{σ9 H9 s9} I9=>
     ⟨T.keep _ _ _ st6 λb hb o e=>(I9.pin (b,o) (qav _ (qav _ (d8 hb e)))).1,λb hb=>by
      obtain⟨o,e,_⟩:=T.obj _ _ st6 b hb
      exact (I9.pin (b,o) (qav _ (qav _ (d8 hb e)))).2.1⟩
    cases ok with
    |false=>
     rw[if_neg (by decide)]at q8
     rw[if_neg (by decide)]
     obtain⟨m',hm,w8⟩:=hN _ _ q8
     exact⟨m',hm,i+1,ys,its,k,H8,I8.unpinned.weak sb7.1 sb7.2,rv,(pin_fp I8).1,(pin_fp I8).2,hlen,w8⟩
    |true=>
     rw[if_pos rfl]at q8
     rw[if_pos rfl]
     have E':=EE _ s8 σ7 H8 _ I8 q8
     rw[hA,hP,hw,hE,hxe]at E'
     refine thn E' λy s9 ⟨v9,H9,I9,r9,n9⟩=>?_
     obtain⟨m',hm,w9⟩:=hN _ _ n9
     have pD9:=I9.pin (D,{ cls:=.type "list",data:=.seq its.toArray k }) (qav _ (qa1 _ qaf))
     have hl:=rv.length
     have I9n:Inv X' [] σ7 H9 s9:=I9.pins_of λp hp=>nomatch hp
     refine qcN qes ⟨_,pD9.1,rfl⟩ qeg (qd8 _ _) (qee D its.toArray k y (by rw[qaz];lia)) ⟨pD9.1,?_⟩
     have up:∃ k':Nat,(s9.heap.update D (qcR λxs=>xs.push y)).get? D=some { cls:=.type "list",data:=.seq (its++[y]).toArray k' }:=by
      have q:=qd6 pD9.1 (λxs:Array Value=>xs.push y)
      simp only[qf3]at q
      exact⟨_,q⟩
     obtain⟨k',up⟩:=up
     have hoth:∀ b o,b≠D->s9.heap.get? b=some o->(s9.heap.update D (qcR λxs=>xs.push y)).get? b=some o:=λb o hb e=>(qcP s9.heap _ (qbu hb)).trans e
     have I10:=I9n.turned (t':=s9.toks) hoth pD9.2.1 Dloc Dex Dcell (λp hp=>absurd (show p∈([]:List (Addr×Obj)) by rw[<-hX']at hp;exact hp) (by simp))
     refine⟨m',hm,i+1,ys++[v9],its++[y],k',H9,(I10.weak sb7.1 sb7.2).pins_of (λp hp=>?_),rv.append (.cons r9 .nil),T.keep _ _ _ (pin_fp I9).1 (λb hb o e=>hoth b o (by rw[<-hD];exact qaW (fplt b hb)) e),(pin_fp I9).2,?_,w9⟩
     ·have:=qaj.mp hp
      subst this
      exact⟨up,pD9.2.1,Dloc,Dfs,λv z=>by cases z⟩
     ·rw[qap,qbZ]
      lia
  ·have q:lo={ cls:=.type "list",data:=.seq ([]:List Value).toArray 0 }:=hlo.symm
   rw[<-q]
   exact I3
  ·exact T.keep _ _ _ st2 λb hb o e=>qcp _ _ b o (qak _ (qak _ e))
 refine qfZ ?_ ?_
 ·exact loop _ rfl
 ·refine T.self X.A 0 _ _ _ (T.keep _ _ _ st2 λb hb o e=>qcp _ _ b o (qak _ (qak _ e))) ?_
  exact loop _ rfl
end
def aR:Expr->Bool
 |.Starred _ _=>false
 |_=>true
theorem bI {e:Expr}{es:List Expr}{env:Env} (h:aR e=true):qbl (e::es) env=(false,eval e env)::qbl es env:=by
 cases e<;>first|(cases h;done)|rfl
theorem cA {pos:Pos}{env:Env}:∀ {es:List Expr},es.all aR=true->(qdM pos (qbl es env)).any (·.1)=false
 |[],_=>by simp[qbl,qdM]
 |e::es,h=>by
  rw[qbD,qa4]at h
  rw[bI h.1]
  have:=cA (pos:=pos) (env:=env) h.2
  unfold qdM at this ⊢
  rw[qay,qdw,this]
  rfl
theorem rZ {pos:Pos}{env:Env}{es:List Expr} (h:es.all aR=true) (hl:es.length < 30):((qdM pos (qbl es env)).all (λx=>!x.1) && (qgF pos (qe8 [] env)).all (λx=>x.1.isSome)
   && decide (es.length+([]:List qgz).length+(if ([]:List qgz).isEmpty then 0 else 1)<30))=true:=by
 have h1:(qdM pos (qbl es env)).all (λx=>!x.1)=true:=by
  have:=cA (pos:=pos) (env:=env) h
  rw[qa3]
  intro x hx
  rw[qf4]at this
  simpa using this x hx
 have h2:(qgF pos (qe8 [] env)).all (λx=>x.1.isSome)=true:=by simp[qe8,qgF]
 rw[h1,h2]
 simpa using hl
theorem jC {e:Expr}{env:Env} (h:aR e=true):qbl [e] env=[(false,eval e env)]:=by rw[bI h];rfl
theorem xE {e e2:Expr}{env:Env} (h:aR e=true) (h2:aR e2=true):qbl [e,e2] env=[(false,eval e env),(false,eval e2 env)]:=by rw[bI h,jC h2]
def wU:Expr->Bool
 |.UnaryOp .Not _ _=>false
 |.BoolOp _ _ _=>false
 |.IfExp _ _ _ _=>false
 |.Compare _ _ _ _=>false
 |_=>true
theorem wd {a:Expr}{env:Env} (h:wU a=true):∀ whole,PySem.isTrue a env whole=(do let v <-whole;qh0 a.pos;qeL [v] (truthy v)):=by
 intro whole
 cases a with
 |UnaryOp op x p=>cases op<;>first|(cases h;done)|rfl
 |BoolOp _ _ _=>cases h
 |IfExp _ _ _ _=>cases h
 |Compare _ _ _ _=>cases h
 |_=>rfl
theorem nr {t:Expr}{ts:List Expr}{env:Env} (h:aR t=true):qbB (t::ts) env=(false,qek t env)::qbB ts env:=by
 cases t<;>first|(cases h;done)|rfl
theorem pR {env:Env}:∀ {ts:List Expr},ts.all aR=true->(qbB ts env).length=ts.length
 |[],_=>by simp[qbB]
 |t::ts,h=>by
  rw[qbD,qa4]at h
  rw[nr h.1,qat,pR h.2,qat]
theorem nL {env:Env}:∀ {ts:List Expr},ts.all aR=true->(qbB ts env).findIdx? (·.1)=none
 |[],_=>by simp[qbB]
 |t::ts,h=>by
  rw[qbD,qa4]at h
  rw[nr h.1,List.findIdx?_cons,nL h.2]
  rfl
theorem vA {t:Expr}{ts:List Expr}{env:Env} (h:aR t=true):(qbB (t::ts) env).map (·.2)=qek t env::(qbB ts env).map (·.2):=by rw[nr h];rfl
theorem mM {t:Expr}{env:Env} (h:aR t=true):(qbB [t] env).map (·.2)=[qek t env]:=by rw[vA h];simp[qbB]
def pV:Expr->Bool
 |.Slice _ _ _ _=>false
 |_=>true
theorem pP {o i:Expr}{pos:Pos}{env:Env} (h:pV i=true) (v:Value):qek (.Subscript o i pos) env v=(do
   let ov <-qeL [v] (eval o env)
   let iv <-qeL [v,ov] (eval i env)
   qh0 pos
   qeL [v,ov,iv] (setItem ov iv v)
   release [v,ov,iv] []):=by
 cases i<;>first|(cases h;done)|rfl
theorem qX {i:Expr} (h:pV i=true):vo i:=by
 intro o j
 cases i<;>first|(cases h;done)|rfl
inductive D where
 |non|bl (b:Bool)|int (i:Int)|str (x:Str)|ty (n:String)|dct|scr (ns:List Int)|tup (ds:List D)|lst (ds:List D)|ob (ns:List Str) (ds:List D)
 deriving Inhabited
inductive W where
 |d (x:D)|h (n:Nat)
 deriving Inhabited
inductive C where
 |l (ds:List D)|n (ws:List W)|m (kvs:List (List Int×D))|k (kvs:List (Int×D))|o (fs:List (Str×W))
 deriving Inhabited
abbrev Sto:=List C
def lg (st:Sto) (n:Nat):Option (List D):=match st[n]? with
 |some (.l ds)=>some ds
 |_=>none
def CW (l:List Int):List Key:=l.map Sum.inl
abbrev Ev:=List (Option W)
def KLs (K:qad) (a:Addr) (xs:List V):Prop:=
 ∃ (o:Obj) (its:Array Value) (n:Nat),K.lookup a=some o/\o.cls=.type "list"/\o.dict=none/\o.data=.seq its n/\its.size<=qaS/\bf xs its.toList
section
variable (K:qad) (H:Hp) (φ:List Addr)
mutual
def Rl:D->V->Prop
 |.non,v=>v=.non
 |.bl b,v=>v=.bl b
 |.int i,v=>v=.int i
 |.str x,v=>v=.str x
 |.ty n,v=>v=.ty n
 |.dct,v=>∃ a,v=.ref a/\a∉φ/\((∃ d,H a=some (.dK d))\/∃ d,H a=some (.dT d))
 |.scr ns,v=>∃ a,v=.ref a/\((∃ o,H a=some (.frz o (.lst (ns.map V.int))))\/KLs K a (ns.map V.int))
 |.tup ds,v=>∃ a vs,v=.ref a/\H a=some (.tup vs)/\Rls ds vs
 |.lst ds,v=>∃ a vs,v=.ref a/\a∉φ/\Rd H a (.lst vs)/\Rls ds vs
 |.ob ns ds,v=>∃ a Cl dx fs vs,v=.ref a/\a∉φ/\H a=some (.ins Cl dx fs)/\fs=ns.zip vs/\ns.length=vs.length/\5<ns.length/\Cls K Cl/\(∀ f∈ns,dM K Cl f)/\Rls ds vs
def Rls:List D->List V->Prop
 |[],vs=>vs=[]
 |d::ds,vs=>∃ v r,vs=v::r/\Rl d v/\Rls ds r
end
def Rw:W->V->Prop
 |.d x,v=>Rl K H φ x v
 |.h n,v=>∃ a,φ[n]?=some a/\v=.ref a
def Rws:List W->List V->Prop
 |[],vs=>vs=[]
 |d::ds,vs=>∃ v r,vs=v::r/\Rw K H φ d v/\Rws ds r
def Rkv:List (List Int×D)->List (List Key×V)->Prop
 |[],vs=>vs=[]
 |(k,d)::ds,vs=>∃ v r,vs=(CW k,v)::r/\Rl K H φ d v/\Rkv ds r
def Rkk:List (Int×D)->List (Key×V)->Prop
 |[],vs=>vs=[]
 |(k,d)::ds,vs=>∃ v r,vs=(Sum.inl k,v)::r/\Rl K H φ d v/\Rkk ds r
def Rfs:List (Str×W)->List (Str×V)->Prop
 |[],vs=>vs=[]
 |(k,d)::ds,vs=>∃ v r,vs=(k,v)::r/\Rw K H φ d v/\Rfs ds r
def Rc (k:Nat) (a:Addr):C->Prop
 |.l ds=>∃ vs,H a=some (.lst vs)/\Rls K H φ ds vs
 |.n ws=>∃ vs,H a=some (.lst vs)/\Rws K H φ ws vs/\∀ m,W.h m∈ws->m<k
 |.m kvs=>∃ vs,H a=some (.dT vs)/\Rkv K H φ kvs vs
 |.k kvs=>∃ vs,H a=some (.dK vs)/\Rkk K H φ kvs vs
 |.o fs=>∃ Cl dx vs,H a=some (.ins Cl dx vs)/\Rfs K H φ fs vs/\(∀ m,W.h m∈fs.map (·.2)->m<k)/\Cls K Cl/\∀ p∈fs,dM K Cl p.1
structure Sr (st:Sto):Prop where
 nd:φ.Nodup
 len:φ.length=st.length
 at_:∀ (n:Nat) a c,φ[n]?=some a->st[n]?=some c->Rc K H φ n a c
structure Er (env:Ev) (σ:St):Prop where
 len:env.length=σ.length
 at_:∀ (i:Nat) w,env[i]?=some (some w)->∃ v,σ[i]?=some (some v)/\Rw K H φ w v
end
structure Fw (φ φ':List Addr) (H H':Hp):Prop where
 ext:∃ ψ,φ'=φ++ψ/\∀ a∈ψ,H a=none
 keep:∀ b o,b∉φ->H b=some o->H' b=some o
 there:∀ b o,H b=some o->∃ o',H' b=some o'
section
variable {K:qad}{H H1 H2 H':Hp}{φ φ1 φ2 φ':List Addr}{st st':Sto}
theorem Fw.refl (φ:List Addr) (H:Hp):Fw φ φ H H:=⟨⟨[],by simp,by simp⟩,λ_ _ _ h=>h,λ_ o h=>⟨o,h⟩⟩
theorem Fw.trans (a:Fw φ φ1 H H1) (b:Fw φ1 φ2 H1 H2):Fw φ φ2 H H2:=by
 obtain⟨ψ,rfl,e1⟩:=a.ext
 obtain⟨ψ2,rfl,e2⟩:=b.ext
 refine⟨⟨ψ++ψ2,by rw[qbz],λc hc=>?_⟩,λc o hc h=>?_,λc o h=>?_⟩
 ·rcases qaM.mp hc with z|z
  ·exact e1 c z
  ·cases q:H c with
   |none=>rfl
   |some o=>
    obtain⟨o',q'⟩:=a.there c o q
    rw[e2 c z]at q';cases q'
 ·refine b.keep c o (λz=>?_) (a.keep c o hc h)
  rcases qaM.mp z with z|z
  ·exact hc z
  ·rw[e1 c z]at h;cases h
 ·obtain⟨o',q⟩:=a.there c o h
  exact b.there c o' q
theorem Fw.same (s:bv H H'):Fw φ φ H H':=⟨⟨[],by simp,by simp⟩,λb o _ h=>s b o h,λb o h=>⟨o,s b o h⟩⟩
theorem Fw.new {p:Addr}{o:HO} (hp:H p=none):Fw φ φ H (upd H p o):=.same (bv.new hp o)
theorem Fw.get (f:Fw φ φ' H H') {n:Nat}{a:Addr} (h:φ[n]?=some a):φ'[n]?=some a:=by
 obtain⟨ψ,rfl,_⟩:=f.ext
 rw[qas (qar.mp h).1];exact h
theorem Fw.nin (f:Fw φ φ' H H') {a:Addr}{o:HO} (h:a∉φ) (q:H a=some o):a∉φ':=by
 obtain⟨ψ,rfl,e⟩:=f.ext
 intro z
 rcases qaM.mp z with z|z
 ·exact h z
 ·rw[e a z]at q;cases q
def Cc:HO->Bool
 |.lst _=>true
 |.dT _=>true
 |.dK _=>true
 |.ins _ _ _=>true
 |_=>false
theorem Rc.ob {k:Nat}{a:Addr}{c:C} (h:Rc K H φ k a c):∃ o,H a=some o/\Cc o=true:=by
 cases c with
 |l ds=>obtain⟨vs,q,_⟩:=h;exact⟨_,q,rfl⟩
 |n ds=>obtain⟨vs,q,_⟩:=h;exact⟨_,q,rfl⟩
 |m ds=>obtain⟨vs,q,_⟩:=h;exact⟨_,q,rfl⟩
 |k ds=>obtain⟨vs,q,_⟩:=h;exact⟨_,q,rfl⟩
 |o ds=>obtain⟨_,_,vs,q,_⟩:=h;exact⟨_,q,rfl⟩
theorem Sr.lst (S:Sr K H φ st) {a:Addr} (h:a∈φ):∃ o,H a=some o/\Cc o=true:=by
 obtain⟨n,hn,e⟩:=qdO.mp h
 have hs:n<st.length:=by rw[<-S.len];exact hn
 exact (S.at_ n a st[n] (by rw[qaL hn,e]) (by rw[qaL hs])).ob
theorem vi {st:Sto}{n:Nat}{ds:List D} (h:lg st n=some ds):st[n]?=some (.l ds):=by
 unfold lg at h
 split at h
 ·rename_i q;cases h;exact q
 ·cases h
theorem Sr.atl (S:Sr K H φ st) (n:Nat) (a:Addr) (ds:List D) (e1:φ[n]?=some a) (e2:lg st n=some ds):∃ vs,H a=some (.lst vs)/\Rls K H φ ds vs:=S.at_ n a _ e1 (vi e2)
theorem Sr.nin (S:Sr K H φ st) {a:Addr} (h:H a=none):a∉φ:=λz=>by
 obtain⟨vs,q,_⟩:=S.lst z
 rw[q]at h;cases h
theorem Rd.nin (S:Sr K H φ st) {a:Addr}{vs:List V} (h:Rd H a (.tup vs)):a∉φ:=λz=>by
 obtain⟨ws,q,qm⟩:=S.lst z
 rcases h with h|⟨o,h⟩<;>(rw[q]at h;cases h;cases qm)
theorem Rd.fw (f:Fw φ φ' H H') {a:Addr}{u:HO} (hn:a∉φ) (h:Rd H a u):Rd H' a u:=by
 rcases h with h|⟨o,h⟩
 ·exact .inl (f.keep _ _ hn h)
 ·exact .inr ⟨o,f.keep _ _ hn h⟩
theorem SqT.fw (S:Sr K H φ st) (f:Fw φ φ' H H') {a:Addr}{vs:List V} (h:SqT K H a vs):SqT K H' a vs:=by
 rcases h with h|h
 ·exact .inl (f.keep _ _ (Rd.nin S (.inl h)) h)
 ·exact .inr h
theorem Rd.some {a:Addr}{u:HO} (h:Rd H a u):∃ o,H a=some o:=by
 rcases h with h|⟨o,h⟩
 ·exact⟨_,h⟩
 ·exact⟨_,h⟩
mutual
theorem Rl.fw (S:Sr K H φ st) (f:Fw φ φ' H H'):∀ {d:D}{v:V},Rl K H φ d v->Rl K H' φ' d v
 |.non,_,h=>h
 |.bl _,_,h=>h
 |.int _,_,h=>h
 |.str _,_,h=>h
 |.ty _,_,h=>h
 |.dct,_,h=>by
  obtain⟨a,rfl,hn,h⟩:=h
  rcases h with⟨d,h⟩|⟨d,h⟩
  ·exact⟨a,rfl,f.nin hn h,.inl ⟨d,f.keep _ _ hn h⟩⟩
  ·exact⟨a,rfl,f.nin hn h,.inr ⟨d,f.keep _ _ hn h⟩⟩
 |.scr ns,_,h=>by
  obtain⟨a,rfl,h⟩:=h
  refine⟨a,rfl,?_⟩
  rcases h with⟨o,h⟩|h
  ·refine .inl ⟨o,f.keep _ _ (λz=>?_) h⟩
   obtain⟨ws,q,qm⟩:=S.lst z
   rw[q]at h;cases h;cases qm
  ·exact .inr h
 |.tup ds,_,h=>by
  obtain⟨a,vs,rfl,h1,h2⟩:=h
  exact⟨a,vs,rfl,f.keep _ _ (Rd.nin S (.inl h1)) h1,Rls.fw S f h2⟩
 |.lst ds,_,h=>by
  obtain⟨a,vs,rfl,h0,h1,h2⟩:=h
  obtain⟨o,e⟩:=h1.some
  exact⟨a,vs,rfl,f.nin h0 e,h1.fw f h0,Rls.fw S f h2⟩
 |.ob ns ds,_,h=>by
  obtain⟨a,Cl,dx,fs,vs,rfl,h0,h1,h2,h3,h4,h5,h7,h6⟩:=h
  exact⟨a,Cl,dx,fs,vs,rfl,f.nin h0 h1,f.keep _ _ h0 h1,h2,h3,h4,h5,h7,Rls.fw S f h6⟩
theorem Rls.fw (S:Sr K H φ st) (f:Fw φ φ' H H'):∀ {ds:List D}{vs:List V},Rls K H φ ds vs->Rls K H' φ' ds vs
 |[],_,h=>h
 |d::ds,_,h=>by
  obtain⟨v,r,rfl,h1,h2⟩:=h
  exact⟨v,r,rfl,Rl.fw S f h1,Rls.fw S f h2⟩
end
theorem Rw.fw (S:Sr K H φ st) (f:Fw φ φ' H H') {w:W}{v:V} (h:Rw K H φ w v):Rw K H' φ' w v:=by
 cases w with
 |d x=>exact Rl.fw S f h
 |h n=>obtain⟨a,e,rfl⟩:=h;exact⟨a,f.get e,rfl⟩
theorem Rws.fw (S:Sr K H φ st) (f:Fw φ φ' H H'):∀ {ws:List W}{vs:List V},Rws K H φ ws vs->Rws K H' φ' ws vs
 |[],_,h=>h
 |d::ds,_,h=>by
  obtain⟨v,r,rfl,h1,h2⟩:=h
  exact⟨v,r,rfl,h1.fw S f,Rws.fw S f h2⟩
theorem Er.fw (S:Sr K H φ st) (f:Fw φ φ' H H') {env:Ev}{σ:St} (h:Er K H φ env σ):Er K H' φ' env σ:=
 ⟨h.len,λi w e=>let ⟨v,e1,r⟩:=h.at_ i w e;⟨v,e1,r.fw S f⟩⟩
theorem Rkv.fw (S:Sr K H φ st) (f:Fw φ φ' H H'):∀ {ds:List (List Int×D)}{vs:List (List Key×V)},Rkv K H φ ds vs->Rkv K H' φ' ds vs
 |[],_,h=>h
 |(k,d)::ds,_,h=>by
  obtain⟨v,r,rfl,h1,h2⟩:=h
  exact⟨v,r,rfl,Rl.fw S f h1,Rkv.fw S f h2⟩
theorem Rkk.fw (S:Sr K H φ st) (f:Fw φ φ' H H'):∀ {ds:List (Int×D)}{vs:List (Key×V)},Rkk K H φ ds vs->Rkk K H' φ' ds vs
 |[],_,h=>h
 |(k,d)::ds,_,h=>by
  obtain⟨v,r,rfl,h1,h2⟩:=h
  exact⟨v,r,rfl,Rl.fw S f h1,Rkk.fw S f h2⟩
theorem Rfs.fw (S:Sr K H φ st) (f:Fw φ φ' H H'):∀ {ds:List (Str×W)}{vs:List (Str×V)},Rfs K H φ ds vs->Rfs K H' φ' ds vs
 |[],_,h=>h
 |(k,d)::ds,_,h=>by
  obtain⟨v,r,rfl,h1,h2⟩:=h
  exact⟨v,r,rfl,h1.fw S f,Rfs.fw S f h2⟩
theorem Rc.fw (S:Sr K H φ st) (f:Fw φ φ' H H') {k:Nat}{a:Addr}{c:C} (e:∀ o,H a=some o->H' a=some o) (h:Rc K H φ k a c):Rc K H' φ' k a c:=by
 cases c with
 |l ds=>obtain⟨vs,q,r⟩:=h;exact⟨vs,e _ q,r.fw S f⟩
 |n ds=>obtain⟨vs,q,r,b⟩:=h;exact⟨vs,e _ q,r.fw S f,b⟩
 |m ds=>obtain⟨vs,q,r⟩:=h;exact⟨vs,e _ q,r.fw S f⟩
 |k ds=>obtain⟨vs,q,r⟩:=h;exact⟨vs,e _ q,r.fw S f⟩
 |o ds=>obtain⟨Cl,dx,vs,q,r,b⟩:=h;exact⟨Cl,dx,vs,e _ q,r.fw S f,b⟩
theorem Sr.same (S:Sr K H φ st) (s:bv H H'):Sr K H' φ st:=
 ⟨S.nd,S.len,λn a c e1 e2=>(S.at_ n a c e1 e2).fw S (Fw.same s) λo h=>s _ _ h⟩
theorem Sr.new (S:Sr K H φ st) {p:Addr}{o:HO} (hp:H p=none):Sr K (upd H p o) φ st:=S.same (bv.new hp o)
theorem Rls.length:∀ {ds:List D}{vs:List V},Rls K H φ ds vs->ds.length=vs.length
 |[],_,h=>by cases h;rfl
 |d::ds,_,h=>by
  obtain⟨v,r,rfl,h1,h2⟩:=h
  rw[qat,qat,Rls.length h2]
theorem Rws.length:∀ {ds:List W}{vs:List V},Rws K H φ ds vs->ds.length=vs.length
 |[],_,h=>by cases h;rfl
 |d::ds,_,h=>by
  obtain⟨v,r,rfl,h1,h2⟩:=h
  rw[qat,qat,Rws.length h2]
theorem Rls.append:∀ {ds es:List D}{vs us:List V},Rls K H φ ds vs->Rls K H φ es us->Rls K H φ (ds++es) (vs++us)
 |[],_,_,_,h,h'=>by cases h;exact h'
 |d::ds,_,_,_,h,h'=>by
  obtain⟨v,r,rfl,h1,h2⟩:=h
  exact⟨v,r++_,rfl,h1,Rls.append h2 h'⟩
theorem Rls.get:∀ {ds:List D}{vs:List V},Rls K H φ ds vs->∀ {i:Nat}{d:D},ds[i]?=some d->∃ v,vs[i]?=some v/\Rl K H φ d v
 |[],_,h,i,d,e=>by simp at e
 |d::ds,_,h,i,e,q=>by
  obtain⟨v,r,rfl,h1,h2⟩:=h
  cases i with
  |zero=>simp at q;subst q;exact⟨v,rfl,h1⟩
  |succ i=>simpa using Rls.get h2 (i:=i) (d:=e) (by simpa using q)
theorem Rls.take:∀ {ds:List D}{vs:List V} (n:Nat),Rls K H φ ds vs->Rls K H φ (ds.take n) (vs.take n)
 |_,_,0,_=>by rw[qeT,qeT];exact rfl
 |[],_,n+1,h=>by cases h;exact rfl
 |d::ds,_,n+1,h=>by
  obtain⟨v,r,rfl,h1,h2⟩:=h
  exact⟨v,_,rfl,h1,Rls.take n h2⟩
theorem Rls.drop:∀ {ds:List D}{vs:List V} (n:Nat),Rls K H φ ds vs->Rls K H φ (ds.drop n) (vs.drop n)
 |_,_,0,h=>h
 |[],_,n+1,h=>by cases h;exact rfl
 |d::ds,_,n+1,h=>by
  obtain⟨v,r,rfl,h1,h2⟩:=h
  exact Rls.drop n h2
theorem Rls.set:∀ {ds:List D}{vs:List V} (n:Nat) {d:D}{v:V},Rls K H φ ds vs->Rl K H φ d v->Rls K H φ (ds.set n d) (vs.set n v)
 |[],_,_,_,_,h,_=>by cases h;exact rfl
 |e::ds,_,0,d,v,h,hd=>by
  obtain⟨u,r,rfl,h1,h2⟩:=h
  exact⟨v,r,rfl,hd,h2⟩
 |e::ds,_,n+1,d,v,h,hd=>by
  obtain⟨u,r,rfl,h1,h2⟩:=h
  exact⟨u,_,rfl,h1,Rls.set n h2 hd⟩
theorem Rls.rep {ds:List D}{vs:List V} (h:Rls K H φ ds vs):∀ k:Nat,Rls K H φ (qaB k ds).flatten (qaB k vs).flatten
 |0=>rfl
 |k+1=>by rw[qbc,qbc,qcn,qcn];exact h.append (Rls.rep h k)
theorem Rls.ints:∀ {ns:List Int}{vs:List V},Rls K H φ (ns.map D.int) vs->vs=ns.map V.int
 |[],_,h=>h
 |n::ns,_,h=>by
  obtain⟨v,r,rfl,h1,h2⟩:=h
  rw[show v=.int n from h1,Rls.ints h2];rfl
theorem Rls.bools:∀ {ns:List Bool}{vs:List V},Rls K H φ (ns.map D.bl) vs->vs=ns.map V.bl
 |[],_,h=>h
 |n::ns,_,h=>by
  obtain⟨v,r,rfl,h1,h2⟩:=h
  rw[show v=.bl n from h1,Rls.bools h2];rfl
theorem Rls.of_ints:∀ (ns:List Int),Rls K H φ (ns.map D.int) (ns.map V.int)
 |[]=>rfl
 |n::ns=>⟨_,_,rfl,rfl,Rls.of_ints ns⟩
theorem Rl.less {ψ:List Addr}:∀ {d:D}{v:V},Rl K H (φ++ψ) d v->Rl K H φ d v:=by
 intro d v
 refine (?_:∀ v,Rl K H (φ++ψ) d v->Rl K H φ d v) v
 refine D.rec (motive_1:=λd=>∀ v,Rl K H (φ++ψ) d v->Rl K H φ d v) (motive_2:=λds=>∀ vs,Rls K H (φ++ψ) ds vs->Rls K H φ ds vs) ?_ ?_ ?_ ?_ ?_ ?_ ?_ ?_ ?_ ?_ ?_ ?_ d
 ·exact λv h=>h
 ·exact λb v h=>h
 ·exact λb v h=>h
 ·exact λb v h=>h
 ·exact λb v h=>h
 ·rintro v ⟨a,e,hn,h⟩;exact⟨a,e,λz=>hn (qa1 _ z),h⟩
 ·exact λns v h=>h
 ·rintro ds ih v ⟨a,vs,rfl,h1,h2⟩;exact⟨a,vs,rfl,h1,ih vs h2⟩
 ·rintro ds ih v ⟨a,vs,rfl,h0,h1,h2⟩;exact⟨a,vs,rfl,λz=>h0 (qa1 _ z),h1,ih vs h2⟩
 ·rintro ns ds ih v ⟨a,Cl,dx,fs,vs,rfl,h0,h1,h2,h3,h4,h5,h7,h6⟩;exact⟨a,Cl,dx,fs,vs,rfl,λz=>h0 (qa1 _ z),h1,h2,h3,h4,h5,h7,ih vs h6⟩
 ·exact λvs h=>h
 ·rintro d ds ih1 ih2 vs ⟨v,r,rfl,h1,h2⟩;exact⟨v,r,rfl,ih1 v h1,ih2 r h2⟩
theorem Rls.less {ψ:List Addr}:∀ {ds:List D}{vs:List V},Rls K H (φ++ψ) ds vs->Rls K H φ ds vs
 |[],_,h=>h
 |d::ds,_,h=>by
  obtain⟨v,r,rfl,h1,h2⟩:=h
  exact⟨v,r,rfl,Rl.less h1,Rls.less h2⟩
theorem Rkv.less {ψ:List Addr}:∀ {ds:List (List Int×D)}{vs:List (List Key×V)},Rkv K H (φ++ψ) ds vs->Rkv K H φ ds vs
 |[],_,h=>h
 |(k,d)::ds,_,h=>by
  obtain⟨v,r,rfl,h1,h2⟩:=h
  exact⟨v,r,rfl,Rl.less h1,Rkv.less h2⟩
theorem Rkk.less {ψ:List Addr}:∀ {ds:List (Int×D)}{vs:List (Key×V)},Rkk K H (φ++ψ) ds vs->Rkk K H φ ds vs
 |[],_,h=>h
 |(k,d)::ds,_,h=>by
  obtain⟨v,r,rfl,h1,h2⟩:=h
  exact⟨v,r,rfl,Rl.less h1,Rkk.less h2⟩
theorem Rws.less {ψ:List Addr}:∀ {ds:List W}{vs:List V},(∀ m,W.h m∈ds->m<φ.length)->Rws K H (φ++ψ) ds vs->Rws K H φ ds vs
 |[],_,_,h=>h
 |d::ds,_,hm,h=>by
  obtain⟨v,r,rfl,h1,h2⟩:=h
  refine⟨v,r,rfl,?_,Rws.less (λm z=>hm m (qal _ z)) h2⟩
  cases d with
  |d x=>exact Rl.less h1
  |h m=>
   obtain⟨a,e,rfl⟩:=h1
   rw[qas (hm m qaf)]at e
   exact⟨a,e,rfl⟩
theorem Rfs.less {ψ:List Addr}:∀ {ds:List (Str×W)}{vs:List (Str×V)},(∀ m,W.h m∈ds.map (·.2)->m<φ.length)->Rfs K H (φ++ψ) ds vs->Rfs K H φ ds vs
 |[],_,_,h=>h
 |(k,d)::ds,_,hm,h=>by
  obtain⟨v,r,rfl,h1,h2⟩:=h
  refine⟨v,r,rfl,?_,Rfs.less (λm z=>hm m (qal _ z)) h2⟩
  cases d with
  |d x=>exact Rl.less h1
  |h m=>
   obtain⟨a,e,rfl⟩:=h1
   rw[qas (hm m qaf)]at e
   exact⟨a,e,rfl⟩
theorem Rc.less {ψ:List Addr}{k:Nat}{a:Addr}{c:C} (hk:k<φ.length) (h:Rc K H (φ++ψ) k a c):Rc K H φ k a c:=by
 cases c with
 |l ds=>obtain⟨vs,q,r⟩:=h;exact⟨vs,q,r.less⟩
 |n ds=>obtain⟨vs,q,r,b⟩:=h;exact⟨vs,q,r.less λm z=>qdK (b m z) hk,b⟩
 |m ds=>obtain⟨vs,q,r⟩:=h;exact⟨vs,q,r.less⟩
 |k ds=>obtain⟨vs,q,r⟩:=h;exact⟨vs,q,r.less⟩
 |o ds=>obtain⟨Cl,dx,vs,q,r,b,c⟩:=h;exact⟨Cl,dx,vs,q,r.less λm z=>qdK (b m z) hk,b,c⟩
theorem Sr.less {ψ:List Addr} (S:Sr K H (φ++ψ) st):Sr K H φ (st.take φ.length):=by
 have hl:=S.len
 rw[qap]at hl
 refine⟨(qcm.mp S.nd).1,by rw[qbH];lia,λn a ds e1 e2=>?_⟩
 have hn:=(qar.mp e1).1
 rw[qcz hn]at e2
 exact (S.at_ n a ds (by rw[qas hn];exact e1) e2).less hn
end
end L2
namespace L2
open PySem PySem.Spec PyProof.Rows
abbrev Ef:=Ev->Sto->Option (W×Sto)
abbrev Af:=Ev->Sto->Option (List W×Sto)
abbrev Tf:=Ev->Sto->Option (Bool×Sto)
abbrev Lf:=Ev->Sto->Option (List D×Sto)
abbrev Fn:=List W->Sto->Option (W×Sto)
section
variable (K:qad)
def tI (env:Ev) (st:Sto) (r:W×Sto):TE:=λσ H Q=>∃ φ,Er K H φ env σ/\Sr K H φ st/\∀ v H' φ',Fw φ φ' H H'->Sr K H' φ' r.2->Rw K H' φ' r.1 v->Q v H'
def tIA (env:Ev) (st:Sto) (r:List W×Sto):TA:=λσ H Q=>∃ φ,Er K H φ env σ/\Sr K H φ st/\∀ vs H' φ',Fw φ φ' H H'->Sr K H' φ' r.2->Rws K H' φ' r.1 vs->Q vs H'
def tIT (env:Ev) (st:Sto) (r:Bool×Sto):TT:=λσ H Q=>∃ φ,Er K H φ env σ/\Sr K H φ st/\∀ H' φ',Fw φ φ' H H'->Sr K H' φ' r.2->Q r.1 H'
def tIL (env:Ev) (st:Sto) (r:List D×Sto):TE:=λσ H Q=>∃ φ,Er K H φ env σ/\Sr K H φ st/\∀ a vs H1 φ',Fw φ φ' H H1->Sr K H1 φ' r.2->H1 a=none->Rls K H1 φ' r.1 vs->Q (.ref a) (upd H1 a (.lst vs))
structure IE (X:Cx) (e:Expr) (f:Ef):Prop where
 run:∀ env st r,f env st=some r->PE X e (tI K env st r)
structure IA (X:Cx) (es:List Expr) (f:Af):Prop where
 run:∀ env st r,f env st=some r->PA X es (tIA K env st r)
structure IT (X:Cx) (e:Expr) (f:Tf):Prop where
 run:∀ env st r,f env st=some r->PT X e (tIT K env st r)
structure ITW (X:Cx) (e:Expr) (f:Tf):Prop where
 run:∀ env st r,f env st=some r->PW X e (tIT K env st r)
structure IL (X:Cx) (e:Expr) (f:Lf):Prop where
 run:∀ env st r,f env st=some r->PE X e (tIL K env st r)
def rD (st:Sto) (x y:W) (d:D):R2:=λvx vy H Q=>∃ φ,Sr K H φ st/\Rw K H φ x vx/\Rw K H φ y vy/\∀ v H',bv H H'->Rl K H' φ d v->Q v H'
structure OpD (X:Cx) (f:Value->Value->Sem Value) (g:Sto->W->W->Option D):Prop where
 run:∀ st x y d,g st x y=some d->OpR X f (rD K st x y d)
def rCD (st:Sto) (ws:List W) (d:D):List V->Hp->VK->Prop:=λvs H Q=>∃ φ,Sr K H φ st/\Rws K H φ ws vs/\∀ v H',bv H H'->Rl K H' φ d v->Q v H'
structure kj (X:Cx) (f:Value) (g:Sto->List W->Option D):Prop where
 run:∀ st ws d,g st ws=some d->dD X f (rCD K st ws d)
def rCL (st:Sto) (ws:List W) (ds:List D):List V->Hp->VK->Prop:=λvs H Q=>∃ φ,Sr K H φ st/\Rws K H φ ws vs/\∀ a us H1,bv H H1->H1 a=none->Rls K H1 φ ds us->Q (.ref a) (upd H1 a (.lst us))
structure zP (X:Cx) (f:Value) (g:Sto->List W->Option (List D)):Prop where
 run:∀ st ws d,g st ws=some d->dD X f (rCL K st ws d)
end
def iV (i:Nat):Ef
 |env,st=>(env.getD i none).map λw=>(w,st)
def iC (d:D):Ef
 |_,st=>some (.d d,st)
def iOp (g:Sto->W->W->Option D) (a b:Ef):Ef
 |env,st=>(a env st).bind λx=>(b env x.2).bind λy=>(g y.2 x.1 y.1).map λd=>(.d d,y.2)
def qV:D->Option Bool
 |.bl b=>some b
 |_=>none
def blW:W->Option Bool
 |.d (.bl b)=>some b
 |_=>none
def bD (g:Sto->W->W->Option D) (a b:Ef):Tf
 |env,st=>(a env st).bind λx=>(b env x.2).bind λy=>(g y.2 x.1 y.1).bind λd=>(qV d).map λk=>(k,y.2)
def iUn (g:W->Option D) (a:Ef):Ef
 |env,st=>(a env st).bind λx=>(g x.1).map λd=>(.d d,x.2)
def xg (a:Ef):Ef
 |env,st=>(a env st).bind λx=>(blW x.1).map λk=>(.d (.bl (!k)),x.2)
def gR (a b:Ef):Ef
 |env,st=>(a env st).bind λx=>(blW x.1).bind λk=>if k=true then b env x.2 else some (.d (.bl false),x.2)
def lN (c:Tf) (a b:Ef):Ef
 |env,st=>(c env st).bind λr=>if r.1=true then a env r.2 else b env r.2
def dh (c:Tf):Tf
 |env,st=>(c env st).map λr=>(!r.1,r.2)
def px (a b:Tf):Tf
 |env,st=>(a env st).bind λr=>if r.1=true then b env r.2 else some (false,r.2)
def fR (a b:Tf):Tf
 |env,st=>(a env st).bind λr=>if r.1=true then some (true,r.2) else b env r.2
def dm (g:Sto->W->Option Bool) (a:Ef):Tf
 |env,st=>(a env st).bind λx=>(g x.2 x.1).map λk=>(k,x.2)
def ag:Af
 |_,st=>some ([],st)
def aa (a:Ef) (r:Af):Af
 |env,st=>(a env st).bind λx=>(r env x.2).map λy=>(x.1::y.1,y.2)
def iCB (g:Sto->List W->Option D) (a:Af):Ef
 |env,st=>(a env st).bind λr=>(g r.2 r.1).map λd=>(.d d,r.2)
def iCL (g:Sto->List W->Option (List D)) (a:Af):Lf
 |env,st=>(a env st).bind λr=>(g r.2 r.1).map λd=>(d,r.2)
def ay (m:Fn) (a:Af):Ef
 |env,st=>(a env st).bind λr=>m r.1 r.2
def ly:List W->Option (List D)
 |[]=>some []
 |.d x::ws=>(ly ws).map λr=>x::r
 |.h _::_=>none
def bm (a:Af):Ef
 |env,st=>(a env st).bind λr=>(ly r.1).bind λds=>if ds.length<=1000 then some (.d (.tup ds),r.2) else none
def cI (a:Af):Lf
 |env,st=>(a env st).bind λr=>(ly r.1).bind λds=>if ds.length<=1000 then some (ds,r.2) else none
def aD (a:Lf):Ef
 |env,st=>(a env st).map λr=>(.d (.lst r.1),r.2)
def dH (a:Lf):Ef
 |env,st=>(a env st).map λr=>(.h r.2.length,r.2++[.l r.1])
section
variable {K:qad}{X:Cx}{e a b c:Expr}{es:List Expr}{pos:Pos}{f fa fb fc:Ef}
theorem PE.imp {t t':TE} (h:PE X e t) (m:∀ σ H Q,t' σ H Q->t σ H Q):PE X e t':=λpins s σ H Q I q=>h pins s σ H Q I (m σ H Q q)
theorem PT.imp {t t':TT} (h:PT X e t) (m:∀ σ H Q,t' σ H Q->t σ H Q):PT X e t':=λpins s σ H Q I q=>h pins s σ H Q I (m σ H Q q)
theorem PW.imp {t t':TT} (h:PW X e t) (m:∀ σ H Q,t' σ H Q->t σ H Q):PW X e t':=λwh pins s σ H Q I q=>h wh pins s σ H Q I (m σ H Q q)
theorem PA.imp {t t':TA} (h:PA X es t) (m:∀ σ H Q,t' σ H Q->t σ H Q):PA X es t':=λpos pins s σ H Q I q=>h pos pins s σ H Q I (m σ H Q q)
theorem OpR.imp {g:Value->Value->Sem Value}{r r':R2} (h:OpR X g r) (m:∀ x y H Q,r' x y H Q->r x y H Q):OpR X g r':=λpins s σ H x y v u Q I rx ry q=>h pins s σ H x y v u Q I rx ry (m _ _ _ _ q)
theorem dD.imp {g:Value}{r r':List V->Hp->VK->Prop} (h:dD X g r) (m:∀ xs H Q,r' xs H Q->r xs H Q):dD X g r':=λpins s σ H xs us Q I rx q=>h pins s σ H xs us Q I rx (m _ _ _ q)
theorem nH:PE X e (λ_ _ _=>False):=λ_ _ _ _ _ _ q=>q.elim
theorem qT:PW X e (λ_ _ _=>False):=λ_ _ _ _ _ _ _ q=>q.elim
theorem A7 {i:Nat}{x:Str}{t:TE} (h:PE X (.Name x pos) (rh i)):IE K X (.Name x pos) (iV i):=by
 refine⟨λenv st r hr=>?_⟩
 unfold iV at hr
 obtain⟨w,hw,rfl⟩:=qae.mp hr
 refine h.imp ?_
 rintro σ H Q ⟨φ,hE,hS,q⟩
 have hi:env[i]?=some (some w):=by
  rw[qeF]at hw
  cases q:env[i]? with
  |none=>rw[q]at hw;cases hw
  |some o=>rw[q]at hw;rw[show o=some w from hw]
 obtain⟨v,e1,r⟩:=hE.at_ i w hi
 exact⟨v,e1,q v H φ (Fw.refl φ H) hS r⟩
theorem iv (i:Nat) {x:Str} (hN:X.N[i]?=some x:=by rfl) (hv:Vis X.env.scope x:=by first|exact Or.inl rfl|exact Or.inr (Or.inl rfl)|exact Or.inr (Or.inr rfl)) (hd:(x==("__debug__" : Str))=false:=by decide)
  (hcd:(x==("__classdict__" : Str))=false:=by decide):IE K X (.Name x pos) (iV i):=A7 (t:=rh i) (kt hN hv hd hcd)
theorem wG {d:D}{v:V} (h:PE X e (tC v)) (r:∀ H φ,Rl K H φ d v):IE K X e (iC d):=by
 refine⟨λenv st r hr=>?_⟩
 cases hr
 refine h.imp ?_
 rintro σ H Q ⟨φ,hE,hS,q⟩
 exact q v H φ (Fw.refl φ H) hS (r H φ)
theorem ak {i j}:IE K X (.Constant (.int i) j pos) (iC (.int i)):=wG Ak λ_ _=>rfl
theorem ji {i j}:IE K X (.Constant (.bool i) j pos) (iC (.bl i)):=wG CL λ_ _=>rfl
theorem dL {j}:IE K X (.Constant .none j pos) (iC .non):=wG AF λ_ _=>rfl
theorem nD {x j}:IE K X (.Constant (.str x) j pos) (iC (.str x)):=wG Ad λ_ _=>rfl
theorem pY {env:Ev}{st:Sto}{x y:W×Sto}{d:D}{σ:St}{H:Hp}{Q:VK} (h:tI K env st (.d d,y.2) σ H Q):tOp (rD K y.2 x.1 y.1 d) (tI K env st x) (tI K env x.2 y) σ H Q:=by
 obtain⟨φ,hE,hS,q⟩:=h
 refine⟨φ,hE,hS,λv H1 φ1 f1 s1 w1=>⟨φ1,hE.fw hS f1,s1,λu H2 φ2 f2 s2 w2=>⟨φ2,s2,w1.fw s1 f2,w2,λv3 H3 f3 w3=>?_⟩⟩⟩
 exact q v3 H3 φ2 ((f1.trans f2).trans (Fw.same f3)) (s2.same f3) w3
theorem aA {op:Operator}{g:Sto->W->W->Option D} (ho:OpD K X (qbC op) g) (ha:IE K X a fa) (hb:IE K X b fb):IE K X (.BinOp a op b pos) (iOp g fa fb):=by
 refine⟨λenv st r hr=>?_⟩
 simp only[iOp,qab,qae]at hr
 obtain⟨x,hx,y,hy,d,hd,rfl⟩:=hr
 exact (zR (ho.run _ _ _ _ hd) (ha.run _ _ _ hx) (hb.run _ _ _ hy)).imp λσ H Q h=>pY h
theorem fo {op:CmpOp}{g:Sto->W->W->Option D} (ho:OpD K X (qbv op) g) (ha:IE K X a fa) (hb:IE K X b fb) (hm:qdb op b=false):IE K X (.Compare a [op] [b] pos) (iOp g fa fb):=by
 refine⟨λenv st r hr=>?_⟩
 simp only[iOp,qab,qae]at hr
 obtain⟨x,hx,y,hy,d,hd,rfl⟩:=hr
 exact (yE (ho.run _ _ _ _ hd) (ha.run _ _ _ hx) (hb.run _ _ _ hy) hm).imp λσ H Q h=>pY h
theorem vV {d:D}{k:Bool} (h:qV d=some k):d=.bl k:=by
 cases d<;>first|(cases h;done)|(injection h with h;subst h;rfl)
theorem rz {d:W}{k:Bool} (h:blW d=some k):d=.d (.bl k):=by
 cases d with
 |h n=>cases h
 |d x=>cases x<;>first|(cases h;done)|(injection h with h;subst h;rfl)
theorem bC {op:CmpOp}{g:Sto->W->W->Option D} (ho:OpD K X (qbv op) g) (ha:IE K X a fa) (hb:IE K X b fb) (hm:qdb op b=false):IT K X (.Compare a [op] [b] pos) (bD g fa fb):=by
 refine⟨λenv st r hr=>?_⟩
 simp only[bD,qab,qae]at hr
 obtain⟨x,hx,y,hy,d,hd,k,hk,rfl⟩:=hr
 cases vV hk
 refine (yU (ho.run _ _ _ _ hd) (ha.run _ _ _ hx) (hb.run _ _ _ hy) hm).imp λσ H Q h=>?_
 obtain⟨φ,hE,hS,q⟩:=h
 refine pY ⟨φ,hE,hS,λv H1 φ1 f1 s1 w1=>⟨k,w1,q H1 φ1 f1 s1⟩⟩
def ou:W->Option D
 |.d (.int i)=>some (.int (-i))
 |_=>none
theorem nj (ha:IE K X a fa):IE K X (.UnaryOp .USub a pos) (iUn ou fa):=by
 refine⟨λenv st r hr=>?_⟩
 simp only[iUn,qab,qae]at hr
 obtain⟨⟨x,s1⟩,hx,d,hd,rfl⟩:=hr
 cases x with
 |h n=>cases hd
 |d x=>
  cases x with
  |int i=>
   cases hd
   refine (CB AI (ha.run _ _ _ hx)).imp ?_
   rintro σ H Q ⟨φ,hE,hS,q⟩
   exact⟨φ,hE,hS,λv H1 φ1 f1 s1 w1=>⟨i,w1,q _ H1 φ1 f1 s1 rfl⟩⟩
  |_=>cases hd
theorem A4 (ha:IE K X a fa):IE K X (.UnaryOp .Not a pos) (xg fa):=by
 refine⟨λenv st r hr=>?_⟩
 simp only[xg,qab,qae]at hr
 obtain⟨x,hx,k,hk,rfl⟩:=hr
 have e:=rz hk
 refine (A1 (ha.run _ _ _ hx)).imp ?_
 rintro σ H Q ⟨φ,hE,hS,q⟩
 exact⟨φ,hE,hS,λv H1 φ1 f1 s1 w1=>⟨k,by rw[e]at w1;exact w1,q _ H1 φ1 f1 s1 rfl⟩⟩
theorem lv {op} (h:IE K X a fa):IE K X (.BoolOp op [a] pos) fa:=⟨λenv st r hr=>Bw (h.run env st r hr)⟩
theorem lQ {rest:List Expr} (ha:IE K X a fa) (hb:IE K X (.BoolOp .And (b::rest) pos) fb):IE K X (.BoolOp .And (a::b::rest) pos) (gR fa fb):=by
 refine⟨λenv st r hr=>?_⟩
 simp only[gR,qab]at hr
 obtain⟨x,hx,k,hk,hr⟩:=hr
 have e:=rz hk
 cases k with
 |false=>
  rw[if_neg qaH]at hr
  cases hr
  refine (wP (ha.run _ _ _ hx) nH).imp ?_
  rintro σ H Q ⟨φ,hE,hS,q⟩
  refine⟨φ,hE,hS,λv H1 φ1 f1 s1 w1=>⟨false,by rw[e]at w1;exact w1,?_⟩⟩
  rw[if_neg qaH]
  exact q _ H1 φ1 f1 s1 rfl
 |true=>
  rw[if_pos rfl]at hr
  refine (wP (ha.run _ _ _ hx) (hb.run _ _ _ hr)).imp ?_
  rintro σ H Q ⟨φ,hE,hS,q⟩
  refine⟨φ,hE,hS,λv H1 φ1 f1 s1 w1=>⟨true,by rw[e]at w1;exact w1,?_⟩⟩
  rw[if_pos rfl]
  exact⟨φ1,hE.fw hS f1,s1,λu H2 φ2 f2 s2 w2=>q u H2 φ2 (f1.trans f2) s2 w2⟩
variable {ta tb:Tf}
theorem gM (ha:IT K X a ta):IT K X (.UnaryOp .Not a pos) (dh ta):=by
 refine⟨λenv st r hr=>?_⟩
 simp only[dh,qae]at hr
 obtain⟨x,hx,rfl⟩:=hr
 refine (Bn (ha.run _ _ _ hx)).imp ?_
 rintro σ H Q ⟨φ,hE,hS,q⟩
 exact⟨φ,hE,hS,λH1 φ1 f1 s1=>q H1 φ1 f1 s1⟩
theorem jb (h:ITW K X a ta):IT K X a ta:=⟨λenv st r hr=>(h.run env st r hr).pt⟩
theorem wF (h:IT K X a ta):ITW K X (.BoolOp .And [a] pos) ta:=⟨λenv st r hr=>zF (h.run env st r hr)⟩
theorem ik (h:IT K X a ta):ITW K X (.BoolOp .Or [a] pos) ta:=⟨λenv st r hr=>AO (h.run env st r hr)⟩
theorem zA {rest:List Expr} (ha:IT K X a ta) (hb:ITW K X (.BoolOp .And (b::rest) pos) tb):ITW K X (.BoolOp .And (a::b::rest) pos) (px ta tb):=by
 refine⟨λenv st r hr=>?_⟩
 simp only[px,qab]at hr
 obtain⟨⟨k,s1⟩,hx,hr⟩:=hr
 cases k with
 |false=>
  rw[if_neg qaH]at hr
  cases hr
  refine (wW (ha.run _ _ _ hx) qT).imp ?_
  rintro σ H Q ⟨φ,hE,hS,q⟩
  refine⟨φ,hE,hS,λH1 φ1 f1 s1=>?_⟩
  refine uy ?_
  exact q H1 φ1 f1 s1
 |true=>
  rw[if_pos rfl]at hr
  refine (wW (ha.run _ _ _ hx) (hb.run _ _ _ hr)).imp ?_
  rintro σ H Q ⟨φ,hE,hS,q⟩
  refine⟨φ,hE,hS,λH1 φ1 f1 s1=>?_⟩
  refine uc ?_
  exact⟨φ1,hE.fw hS f1,s1,λH2 φ2 f2 s2=>q H2 φ2 (f1.trans f2) s2⟩
theorem jc {rest:List Expr} (ha:IT K X a ta) (hb:ITW K X (.BoolOp .Or (b::rest) pos) tb):ITW K X (.BoolOp .Or (a::b::rest) pos) (fR ta tb):=by
 refine⟨λenv st r hr=>?_⟩
 simp only[fR,qab]at hr
 obtain⟨⟨k,s1⟩,hx,hr⟩:=hr
 cases k with
 |true=>
  rw[if_pos rfl]at hr
  cases hr
  refine (zU (ha.run _ _ _ hx) qT).imp ?_
  rintro σ H Q ⟨φ,hE,hS,q⟩
  refine⟨φ,hE,hS,λH1 φ1 f1 s1=>?_⟩
  refine uc ?_
  exact q H1 φ1 f1 s1
 |false=>
  rw[if_neg qaH]at hr
  refine (zU (ha.run _ _ _ hx) (hb.run _ _ _ hr)).imp ?_
  rintro σ H Q ⟨φ,hE,hS,q⟩
  refine⟨φ,hE,hS,λH1 φ1 f1 s1=>?_⟩
  refine uy ?_
  exact⟨φ1,hE.fw hS f1,s1,λH2 φ2 f2 s2=>q H2 φ2 (f1.trans f2) s2⟩
theorem vG {tc:Tf} (hc:IT K X c tc) (ha:IE K X a fa) (hb:IE K X b fb):IE K X (.IfExp c a b pos) (lN tc fa fb):=by
 refine⟨λenv st r hr=>?_⟩
 simp only[lN,qab]at hr
 obtain⟨⟨k,s1⟩,hx,hr⟩:=hr
 cases k with
 |true=>
  rw[if_pos rfl]at hr
  refine (qS (hc.run _ _ _ hx) (ha.run _ _ _ hr) nH).imp ?_
  rintro σ H Q ⟨φ,hE,hS,q⟩
  refine⟨φ,hE,hS,λH1 φ1 f1 s1=>?_⟩
  refine uc ?_
  exact⟨φ1,hE.fw hS f1,s1,λu H2 φ2 f2 s2 w2=>q u H2 φ2 (f1.trans f2) s2 w2⟩
 |false=>
  rw[if_neg qaH]at hr
  refine (qS (hc.run _ _ _ hx) nH (hb.run _ _ _ hr)).imp ?_
  rintro σ H Q ⟨φ,hE,hS,q⟩
  refine⟨φ,hE,hS,λH1 φ1 f1 s1=>?_⟩
  refine uy ?_
  exact⟨φ1,hE.fw hS f1,s1,λu H2 φ2 f2 s2 w2=>q u H2 φ2 (f1.trans f2) s2 w2⟩
def iZ (st:Sto):W->Option (List D)
 |.d (.tup ds)=>some ds
 |.d (.lst ds)=>some ds
 |.d (.scr ns)=>some (ns.map D.int)
 |.h n=>lg st n
 |_=>none
theorem qR {st:Sto}{H:Hp}{φ:List Addr}{w:W}{v:V}{ds:List D} (S:Sr K H φ st) (r:Rw K H φ w v) (e:iZ st w=some ds):∃ a vs,v=.ref a/\(SqL K H a vs\/H a=some (.tup vs))/\Rls K H φ ds vs:=by
 cases w with
 |h n=>
  obtain⟨a,ea,rfl⟩:=r
  obtain⟨vs,q,rl⟩:=S.atl n a ds ea e
  exact⟨a,vs,rfl,.inl (SqL.of q),rl⟩
 |d x=>
  cases x with
  |tup es=>cases e;obtain⟨a,vs,rfl,h1,h2⟩:=r;exact⟨a,vs,rfl,.inr h1,h2⟩
  |lst es=>cases e;obtain⟨a,vs,rfl,h0,h1,h2⟩:=r;exact⟨a,vs,rfl,.inl (.inl h1),h2⟩
  |scr ns=>
   cases e
   obtain⟨a,rfl,h⟩:=r
   refine⟨a,_,rfl,.inl ?_,Rls.of_ints ns⟩
   rcases h with⟨o,h⟩|h
   ·exact .inl (.inr ⟨o,h⟩)
   ·exact .inr h
  |_=>cases e
theorem jR {st:Sto}{H:Hp}{φ:List Addr}{w:W}{v:V}{ds:List D} (S:Sr K H φ st) (r:Rw K H φ w v) (e:iZ st w=some ds):∃ a vs,v=.ref a/\(SqL K H a vs\/SqT K H a vs)/\Rls K H φ ds vs:=by
 obtain⟨a,vs,h0,h1,h2⟩:=qR S r e
 exact⟨a,vs,h0,h1.imp id SqT.of,h2⟩
def dF (st:Sto):W->Option Bool
 |.d .non=>some false
 |.d (.bl b)=>some b
 |.d (.int i)=>some (i != 0)
 |w=>(iZ st w).map λds=>!ds.isEmpty
theorem zp {st:Sto}{H:Hp}{φ:List Addr}{w:W}{v:V}{k:Bool} (S:Sr K H φ st) (r:Rw K H φ w v) (e:dF st w=some k):zm K v H k:=by
 have seq:∀ ds,iZ st w=some ds->k=!ds.isEmpty->zm K v H k:=λds h hk=>by
  obtain⟨a,vs,rfl,h1,h2⟩:=jR S r h
  have hl:=h2.length
  have e':k=!vs.isEmpty:=by
   rw[hk]
   cases ds<;>cases vs<;>first|rfl|cases hl
  rcases h1 with h1|h1
  ·exact .inl ⟨vs,h1,e'⟩
  ·exact .inr (.inl ⟨vs,h1,e'⟩)
 cases w with
 |h n=>
  obtain⟨ds,h1,h2⟩:=qae.mp e
  exact seq ds h1 h2.symm
 |d x=>
  cases x with
  |non=>have r':v=.non:=r;subst r';cases e;exact rfl
  |bl b=>have r':v=.bl b:=r;subst r';cases e;exact rfl
  |int i=>have r':v=.int i:=r;subst r';cases e;exact rfl
  |tup ds=>exact seq ds rfl (qaZ e).symm
  |lst ds=>exact seq ds rfl (qaZ e).symm
  |scr ds=>exact seq _ rfl (qaZ e).symm
  |_=>cases e
theorem eN (ha:IE K X a fa) (he:wU a=true:=by rfl) (hK:X.K=K:=by rfl):IT K X a (dm dF fa):=by
 subst hK
 refine⟨λenv st r hr=>?_⟩
 simp only[dm,qab,qae]at hr
 obtain⟨x,hx,k,hk,rfl⟩:=hr
 refine (wT (ha.run _ _ _ hx) (wd he)).imp ?_
 rintro σ H Q ⟨φ,hE,hS,q⟩
 exact⟨φ,hE,hS,λv H1 φ1 f1 s1 w1=>⟨k,zp s1 w1 hk,q H1 φ1 f1 s1⟩⟩
variable {af:Af}
theorem ae:IA K X [] ag:=by
 refine⟨λenv st r hr=>?_⟩
 cases hr
 refine qL.imp ?_
 rintro σ H Q ⟨φ,hE,hS,q⟩
 exact q [] H φ (Fw.refl φ H) hS rfl
theorem ab (ha:IE K X e fa) (hr:IA K X es af) (hs:aR e=true:=by rfl):IA K X (e::es) (aa fa af):=by
 refine⟨λenv st r h=>?_⟩
 simp only[aa,qab,qae]at h
 obtain⟨x,hx,y,hy,rfl⟩:=h
 refine (mK (ha.run _ _ _ hx) (hr.run _ _ _ hy) (bI hs)).imp ?_
 rintro σ H Q ⟨φ,hE,hS,q⟩
 refine⟨φ,hE,hS,λv H1 φ1 f1 s1 w1=>⟨φ1,hE.fw hS f1,s1,λu H2 φ2 f2 s2 w2=>?_⟩⟩
 exact q _ H2 φ2 (f1.trans f2) s2 ⟨v,u,rfl,w1.fw s1 f2,w2⟩
theorem bP {x:Str}{id:String}{p:Pos}{g:Sto->List W->Option D} (hc:kj K X (.builtin id) g) (hg:Gl X x) (hm:X.mg x=none) (hv:qcb x=some (.builtin id)) (ha:IA K X (e::es) af)
  (hn:x≠"__name__":=by decide) (hdb:(x==("__debug__" : Str))=false:=by decide) (hs:aR e=true:=by rfl) (hp:es.all aR=true:=by rfl) :
  IE K X (.Call (.Name x p) (e::es) [] pos) (iCB g af):=by
 refine⟨λenv st r hr=>?_⟩
 simp only[iCB,qab,qae]at hr
 obtain⟨y,hy,d,hd,rfl⟩:=hr
 refine (xn (hc.run _ _ _ hd) hg hm hv (ha.run _ _ _ hy) hn hdb (bI hs) (cA hp)).imp ?_
 rintro σ H Q ⟨φ,hE,hS,q⟩
 exact⟨φ,hE,hS,λv H1 φ1 f1 s1 w1=>⟨φ1,s1,w1,λu H2 f2 w2=>q u H2 φ1 (f1.trans (Fw.same f2)) (s1.same f2) w2⟩⟩
theorem dP {x:Str}{T:String}{p:Pos}{g:Sto->List W->Option D} (hc:kj K X (.type T) g) (hg:Gl X x) (hm:X.mg x=none) (hv:qcb x=some (.type T)) (ha:IA K X (e::es) af)
  (hn:x≠"__name__":=by decide) (hdb:(x==("__debug__" : Str))=false:=by decide) (hs:aR e=true:=by rfl) (hp:es.all aR=true:=by rfl) :
  IE K X (.Call (.Name x p) (e::es) [] pos) (iCB g af):=by
 refine⟨λenv st r hr=>?_⟩
 simp only[iCB,qab,qae]at hr
 obtain⟨y,hy,d,hd,rfl⟩:=hr
 refine (fq (hc.run _ _ _ hd) hg hm hv (ha.run _ _ _ hy) hn hdb (bI hs) (cA hp)).imp ?_
 rintro σ H Q ⟨φ,hE,hS,q⟩
 exact⟨φ,hE,hS,λv H1 φ1 f1 s1 w1=>⟨φ1,s1,w1,λu H2 f2 w2=>q u H2 φ1 (f1.trans (Fw.same f2)) (s1.same f2) w2⟩⟩
theorem Cy {x:Str}{T:String}{p:Pos}{g:Sto->List W->Option (List D)} (hc:zP K X (.type T) g) (hg:Gl X x) (hm:X.mg x=none) (hv:qcb x=some (.type T)) (ha:IA K X (e::es) af)
  (hn:x≠"__name__":=by decide) (hdb:(x==("__debug__" : Str))=false:=by decide) (hs:aR e=true:=by rfl) (hp:es.all aR=true:=by rfl) :
  IL K X (.Call (.Name x p) (e::es) [] pos) (iCL g af):=by
 refine⟨λenv st r hr=>?_⟩
 simp only[iCL,qab,qae]at hr
 obtain⟨y,hy,d,hd,rfl⟩:=hr
 refine (fq (hc.run _ _ _ hd) hg hm hv (ha.run _ _ _ hy) hn hdb (bI hs) (cA hp)).imp ?_
 rintro σ H Q ⟨φ,hE,hS,q⟩
 exact⟨φ,hE,hS,λv H1 φ1 f1 s1 w1=>⟨φ1,s1,w1,λa us H2 f2 n2 w2=>q a us H2 φ1 (f1.trans (Fw.same f2)) (s1.same f2) n2 w2⟩⟩
theorem mP {H:Hp}{φ:List Addr}:∀ {ws:List W}{vs:List V}{ds:List D},ly ws=some ds->Rws K H φ ws vs->Rls K H φ ds vs
 |[],_,_,e,h=>by cases e;exact h
 |.d x::ws,_,_,e,h=>by
  obtain⟨v,r,rfl,h1,h2⟩:=h
  obtain⟨es,e1,rfl⟩:=qae.mp e
  exact⟨v,r,rfl,h1,mP e1 h2⟩
 |.h n::ws,_,_,e,h=>by cases e
theorem bS {x1} (h:IA K X es af):IE K X (.Tuple es x1 pos) (bm af):=by
 refine⟨λenv st r hr=>?_⟩
 simp only[bm,qab]at hr
 obtain⟨y,hy,ds,hd,hr⟩:=hr
 split at hr
 ·cases hr
  rename_i hl
  refine (Bx (h.run _ _ _ hy)).imp ?_
  rintro σ H Q ⟨φ,hE,hS,q⟩
  refine⟨φ,hE,hS,λvs H1 φ1 f1 s1 w1=>?_⟩
  have w:=mP hd w1
  refine⟨by rw[<-w.length];exact qg hl,λp hp=>?_⟩
  exact q _ _ φ1 (f1.trans (Fw.new hp)) (s1.new hp) ⟨p,vs,rfl,upd_same,w.fw s1 (Fw.new hp)⟩
 ·cases hr
theorem dJ (h:IA K X es af):IL K X (.List es pos) (cI af):=by
 refine⟨λenv st r hr=>?_⟩
 simp only[cI,qab]at hr
 obtain⟨y,hy,ds,hd,hr⟩:=hr
 split at hr
 ·cases hr
  rename_i hl
  refine (Av (h.run _ _ _ hy)).imp ?_
  rintro σ H Q ⟨φ,hE,hS,q⟩
  refine⟨φ,hE,hS,λvs H1 φ1 f1 s1 w1=>?_⟩
  have w:=mP hd w1
  exact⟨by rw[<-w.length];exact qg hl,λp hp=>q p vs H1 φ1 f1 s1 hp w⟩
 ·cases hr
theorem aI {lf:Lf} (h:IL K X e lf):IE K X e (aD lf):=by
 refine⟨λenv st r hr=>?_⟩
 simp only[aD,qae]at hr
 obtain⟨y,hy,rfl⟩:=hr
 refine (h.run _ _ _ hy).imp ?_
 rintro σ H Q ⟨φ,hE,hS,q⟩
 refine⟨φ,hE,hS,λa vs H1 φ1 f1 s1 n1 w1=>?_⟩
 exact q _ _ φ1 (f1.trans (Fw.new n1)) (s1.new n1) ⟨a,vs,rfl,s1.nin n1,.inl upd_same,w1.fw s1 (Fw.new n1)⟩
theorem Sr.moreC {H:Hp}{φ:List Addr}{st:Sto}{a:Addr}{o:HO}{c:C} (S:Sr K H φ st) (n:H a=none) (w:Rc K (upd H a o) (φ++[a]) φ.length a c):Sr K (upd H a o) (φ++[a]) (st++[c]):=by
 have f:Fw φ (φ++[a]) H (upd H a o):=⟨⟨[a],rfl,λb hb=>by rw[qaj.mp hb];exact n⟩,λb o _ h=>bv.new n _ b o h,λb o h=>⟨o,bv.new n _ b o h⟩⟩
 refine⟨?_,by rw[qap,qap,S.len];rfl,λi b es e1 e2=>?_⟩
 ·rw[qcm]
  refine⟨S.nd,by simp,λx hx y hy e=>?_⟩
  rw[qaj.mp hy]at e
  rw[e]at hx
  exact S.nin n hx
 ·by_cases hi:i<φ.length
  ·rw[qas hi]at e1
   rw[qas (by rw[<-S.len];exact hi)]at e2
   exact (S.at_ i b es e1 e2).fw S f λo h=>bv.new n _ _ _ h
  ·have e:i=φ.length:=by
    have:=(qar.mp e1).1
    rw[qap]at this
    simp at this
    lia
   subst e
   rw[qau (qan _)]at e1
   rw[S.len,qau (qan _)]at e2
   simp at e1 e2
   subst e1 e2
   exact w
theorem Fw.moreO {H:Hp}{φ:List Addr}{a:Addr}{o:HO} (n:H a=none):Fw φ (φ++[a]) H (upd H a o):=
 ⟨⟨[a],rfl,λb hb=>by rw[qaj.mp hb];exact n⟩,λb o _ h=>bv.new n _ b o h,λb o h=>⟨o,bv.new n _ b o h⟩⟩
theorem Fw.more {H:Hp}{φ:List Addr}{a:Addr}{vs:List V} (n:H a=none):Fw φ (φ++[a]) H (upd H a (.lst vs)):=Fw.moreO n
theorem Sr.more {H:Hp}{φ:List Addr}{st:Sto}{a:Addr}{vs:List V}{ds:List D} (S:Sr K H φ st) (n:H a=none) (w:Rls K H φ ds vs):Sr K (upd H a (.lst vs)) (φ++[a]) (st++[.l ds]):=
 S.moreC n ⟨vs,upd_same,w.fw S (Fw.moreO n)⟩
theorem gA {lf:Lf} (h:IL K X e lf):IE K X e (dH lf):=by
 refine⟨λenv st r hr=>?_⟩
 simp only[dH,qae]at hr
 obtain⟨y,hy,rfl⟩:=hr
 refine (h.run _ _ _ hy).imp ?_
 rintro σ H Q ⟨φ,hE,hS,q⟩
 refine⟨φ,hE,hS,λa vs H1 φ1 f1 s1 n1 w1=>?_⟩
 exact q _ _ (φ1++[a]) (f1.trans (Fw.more n1)) (s1.more n1 w1) ⟨a,by rw[<-s1.len];simp,rfl⟩
def spI (K:qad) (m:Fn):Sp:=λvs H Q _=>∃ φ st ws r,m ws st=some r/\Rws K H φ ws vs/\Sr K H φ st/\∀ v H' φ',Fw φ φ' H H'->Sr K H' φ' r.2->Rw K H' φ' r.1 v->Q v H'
theorem ax {x:Str}{k j:Nat}{ff:Addr}{fd:qaX}{ps:List Str}{m:Fn}{p:Pos} (F:bW X.prog X.w X.K X.mg X.base CX0 j ff fd ps (spI K m)) (hjk:j<=k) (hr:dN k X.A) (hg:Gl X x) (hm:X.mg x=some (.ref ff)) (hk:qax X.K (.ref ff)=true) (hb:bA X.K fd ps [])
  (ha:IA K X (e::es) af) (hdb:(x==("__debug__" : Str))=false:=by decide) (hs:aR e=true:=by rfl) (hp:es.all aR=true:=by rfl) :
  IE K X (.Call (.Name x p) (e::es) [] pos) (ay m af):=by
 refine⟨λenv st r h=>?_⟩
 simp only[ay,qab]at h
 obtain⟨y,hy,h⟩:=h
 refine (vg (F.mono hjk) hr hg hm hk hb .nil wJ (ha.run _ _ _ hy) hdb (bI hs) (cA hp)).imp ?_
 rintro σ H Q ⟨φ,hE,hS,q⟩
 refine⟨φ,hE,hS,λvs H1 φ1 f1 s1 w1=>?_⟩
 show spI K m (vs++[]) H1 Q E0
 rw[qbO]
 exact⟨φ1,y.2,y.1,r,h,w1,s1,λv H2 φ2 f2 s2 w2=>q v H2 φ2 (f1.trans f2) s2 w2⟩
end
inductive Fl where
 |nx (env:Ev) (st:Sto)|rt (w:W) (st:Sto)|bk (env:Ev) (st:Sto)|ct (env:Ev) (st:Sto)
abbrev Sf:=Ev->Sto->Option Fl
def xQ (K:qad) (φ:List Addr) (H:Hp) (D:oQ):Fl->Prop
 |.nx e s=>∀ σ' H' φ',Fw φ φ' H H'->Er K H' φ' e σ'->Sr K H' φ' s->D.nx σ' H'
 |.rt w s=>∀ v H' φ',Fw φ φ' H H'->Sr K H' φ' s->Rw K H' φ' w v->D.rt v H'
 |.bk e s=>∀ σ' H' φ',Fw φ φ' H H'->Er K H' φ' e σ'->Sr K H' φ' s->D.bk σ' H'
 |.ct e s=>∀ σ' H' φ',Fw φ φ' H H'->Er K H' φ' e σ'->Sr K H' φ' s->D.ct σ' H'
theorem xQ.fw {K:qad}{φ φ1:List Addr}{H H1:Hp}{D:oQ}{r:Fl} (h:xQ K φ H D r) (f:Fw φ φ1 H H1):xQ K φ1 H1 D r:=by
 cases r with
 |nx e s=>exact λσ' H' φ' f'=>h σ' H' φ' (f.trans f')
 |rt w s=>exact λv H' φ' f'=>h v H' φ' (f.trans f')
 |bk e s=>exact λσ' H' φ' f'=>h σ' H' φ' (f.trans f')
 |ct e s=>exact λσ' H' φ' f'=>h σ' H' φ' (f.trans f')
def tS (K:qad) (env:Ev) (st:Sto) (r:Fl):TS:=λD σ H=>∃ φ,Er K H φ env σ/\Sr K H φ st/\xQ K φ H D r
structure IS (K:qad) (X:Cx) (s:Stmt) (g:Sf):Prop where
 run:∀ env st r,g env st=some r->PS X s (tS K env st r)
structure ISs (K:qad) (X:Cx) (s:List Stmt) (g:Sf):Prop where
 run:∀ env st r,g env st=some r->PSs X s (tS K env st r)
inductive Tg where
 |nm (i:Nat)|tp (is:List Nat)
def sW:Tg->List Nat
 |.nm i=>[i]
 |.tp is=>is
def oX:List Nat->List D->Ev->Ev
 |i::is,d::ds,env=>oX is ds (env.set i (some (.d d)))
 |_,_,env=>env
def eH:Tg->W->Ev->Option Ev
 |.nm i,w,env=>some (env.set i (some w))
 |.tp is,.d (.tup ds),env=>if is.length=ds.length then some (oX is ds env) else none
 |.tp is,.d (.lst ds),env=>if is.length=ds.length then some (oX is ds env) else none
 |_,_,_=>none
def zn (is:List Nat) (σ σ':St):Prop:=σ'.length=σ.length/\∀ j,j∉is->σ'[j]?=σ[j]?
def tG (K:qad) (g:Tg):TG:=λv σ H Q=>∃ φ st env w env',Er K H φ env σ/\Sr K H φ st/\Rw K H φ w v/\eH g w env=some env'/\∀ σ',Er K H φ env' σ'->zn (sW g) σ σ'->Q σ' H
def tGs (K:qad) (is:List Nat):TGs:=λvs σ H Q=>∃ φ st env ds,Er K H φ env σ/\Sr K H φ st/\Rls K H φ ds vs/\is.length=ds.length/\∀ σ',Er K H φ (oX is ds env) σ'->zn is σ σ'->Q σ' H
def bK:Sf
 |env,st=>some (.nx env st)
def ao (a b:Sf):Sf
 |env,st=>(a env st).bind λr=>match r with
 |.nx e s=>b e s
 |r=>some r
def aG (g:Tg) (f:Ef):Sf
 |env,st=>(f env st).bind λr=>(eH g r.1 env).map λe=>.nx e r.2
def io (st:Sto) (o i v:W):Option Sto:=match o,i,v with
 |.h n,.d (.int k),.d x=>(lg st n).bind λds=>(ixN ds.length k).map λj=>st.set n (.l (ds.set j x))
 |_,_,_=>none
def cg (o i v:Ef):Sf
 |env,st=>(v env st).bind λrv=>(o env rv.2).bind λro=>(i env ro.2).bind λri=>(io ri.2 ro.1 ri.1 rv.1).map λs=>.nx env s
def bH (f:Ef):Sf
 |env,st=>(f env st).map λr=>.rt r.1 r.2
def fg (f:Ef):Sf
 |env,st=>(f env st).map λr=>.nx env r.2
def cv (c:Tf) (a b:Sf):Sf
 |env,st=>(c env st).bind λr=>if r.1=true then a env r.2 else b env r.2
def sR:Sf
 |env,st=>some (.bk env st)
def pq:Sf
 |env,st=>some (.ct env st)
def eJ (g:Tg) (body:Sf):List D->Ev->Sto->Option Fl
 |[],env,st=>some (.nx env st)
 |d::ds,env,st=>(eH g (.d d) env).bind λe=>(body e st).bind λr=>match r with
  |.nx e s=>eJ g body ds e s
  |.ct e s=>eJ g body ds e s
  |.bk e s=>some (.nx e s)
  |.rt w s=>some (.rt w s)
def kq (fi:Lf) (g:Tg) (body:Sf):Sf
 |env,st=>(fi env st).bind λr=>eJ g body r.1 env r.2
def dI (c:Tf) (body:Sf):Nat->Ev->Sto->Option Fl
 |0,_,_=>none
 |n+1,env,st=>(c env st).bind λk=>if k.1=true then (body env k.2).bind λr=>match r with
   |.nx e s=>dI c body n e s
   |.ct e s=>dI c body n e s
   |.bk e s=>some (.nx e s)
   |.rt w s=>some (.rt w s)
  else some (.nx env k.2)
def lcI (g:Tg) (tt:Tf) (te:Ef) (env:Ev):List D->Sto->Option (List D×Sto)
 |[],st=>some ([],st)
 |d::ds,st=>(eH g (.d d) env).bind λe=>(tt e st).bind λb=>if b.1=true then (te e b.2).bind λx=>(ly [x.1]).bind λys=>(lcI g tt te env ds x.2).map λr=>(ys++r.1,r.2)
   else lcI g tt te env ds b.2
def gQ (k:Nat) (js:List Nat) (env:Ev):Ev:=qaB k none++js.map λj=>env.getD j none
def iLc (k:Nat) (js:List Nat) (fi:Lf) (g:Tg) (tt:Tf) (te:Ef):Lf
 |env,st=>(fi env st).bind λr=>if r.1.length<=1000000 then lcI g tt te (gQ k js env) r.1 r.2 else none
def aS:Tf
 |_,st=>some (true,st)
def aE (f:Ef):Lf
 |env,st=>(f env st).bind λr=>match r.1 with
 |.d (.tup ds)=>some (ds,r.2)
 |.d (.lst ds)=>some (ds,r.2)
 |_=>none
def cV (lo:Int) (n:Nat):List D:=(qac n).map λk:Nat=>D.int (lo+k)
def cH (a:Af):Lf
 |env,st=>(a env st).bind λr=>match r.1 with
 |[.d (.int j)]=>if -(2^62)<=j/\j<2^62 then some (cV 0 j.toNat,r.2) else none
 |_=>none
def jz:Nat->List D->List D
 |_,[]=>[]
 |k,d::ds=>.tup [.int k,d]::jz (k+1) ds
def fX (a:Af):Lf
 |env,st=>(a env st).bind λr=>match r.1 with
 |[.d (.tup ds)]=>some (jz 0 ds,r.2)
 |[.d (.lst ds)]=>some (jz 0 ds,r.2)
 |_=>none
section
variable {K:qad}{X:Cx}{pos:Pos}
theorem PS.imp {s:Stmt}{t t':TS} (h:PS X s t) (m:∀ D σ H,t' D σ H->t D σ H):PS X s t':=λpins s σ H D I q=>h pins s σ H D I (m D σ H q)
theorem PSs.imp {s:List Stmt}{t t':TS} (h:PSs X s t) (m:∀ D σ H,t' D σ H->t D σ H):PSs X s t':=λpins s σ H D I q=>h pins s σ H D I (m D σ H q)
theorem Er.set {H:Hp}{φ:List Addr}{env:Ev}{σ:St} (h:Er K H φ env σ) (i:Nat) {w:W}{v:V} (r:Rw K H φ w v):Er K H φ (env.set i (some w)) (σ.set i (some v)):=by
 refine⟨by rw[qbw,qbw,h.len],λj w' e=>?_⟩
 by_cases hj:i=j
 ·subst hj
  have hi:i<env.length:=by
   have:=(qar.mp e).1
   rwa [qbw]at this
  rw[qba hi]at e
  cases e
  exact⟨v,by rw[qba (by rw[<-h.len];exact hi)],r⟩
 ·rw[qbp hj]at e
  obtain⟨v',e1,r1⟩:=h.at_ j w' e
  exact⟨v',by rw[qbp hj];exact e1,r1⟩
theorem yj (i:Nat) (σ:St) (v:Option V):zn [i] σ (σ.set i v):=⟨by rw[qbw],λj hj=>by rw[qbp (by rintro rfl;simp at hj)]⟩
theorem aX {i:Nat}{x:Str} (h:PG X (.Name x pos) (rN i)):PG X (.Name x pos) (tG K (.nm i)):=by
 intro pins s σ H v u Q I rv q
 obtain⟨φ,st,env,w,env',hE,hS,r,e,q⟩:=q
 cases e
 exact h pins s σ H v u Q I rv (q _ (hE.set i r) (yj i σ _))
theorem cM:PGs X [] (tGs K []):=by
 intro pins s σ H vs us Q I rv q
 obtain⟨φ,st,env,ds,hE,hS,r,e,q⟩:=q
 cases ds with
 |nil=>cases r;exact yF pins s σ H [] us Q I rv ⟨rfl,q σ hE ⟨rfl,λ_ _=>rfl⟩⟩
 |cons _ _=>cases e
theorem aO {i:Nat}{is:List Nat}{x:Str}{es:List Expr} (h1:PG X (.Name x pos) (rN i)) (h2:PGs X es (tGs K is)):PGs X (.Name x pos::es) (tGs K (i::is)):=by
 intro pins s σ H vs us Q I rv q
 obtain⟨φ,st,env,ds,hE,hS,r,e,q⟩:=q
 cases ds with
 |nil=>cases e
 |cons d ds=>
  obtain⟨v,vr,rfl,r1,r2⟩:=r
  refine wY h1 h2 (vA rfl) pins s σ H _ us Q I rv ⟨v,vr,rfl,φ,st,_,ds,hE.set i (w:=.d d) r1,hS,r2,by simpa using e,λσ' e' s'=>q σ' e' ?_⟩
  refine⟨by rw[s'.1,qbw],λj hj=>?_⟩
  rw[s'.2 j (λz=>hj (qal _ z)),qbp (by rintro rfl;exact hj qaf)]
def Dh (K:qad) (n:Nat) (t:TGs):TG:=λv σ H Q=>∃ a xs,v=.ref a/\SqL K H a xs/\xs.length=n/\t xs σ H Q
theorem Ai {es:List Expr}{k:Nat}{t:TGs}{n:Nat} (hc:X.calm=true) (h:PGs X es t) (hn:(qbB es X.env).length=n) (hst:(qbB es X.env).findIdx? (·.1)=none):PG X (.Tuple es k pos) (Dh X.K n t):=by
 intro pins s σ H v u Q I r hw
 obtain⟨a,xs,e1,hq,hl,hw⟩:=hw
 subst e1
 cases r
 obtain⟨its,rv,p,hz⟩:=I.list hq
 rw[assign_Tuple]
 refine qag (qez ?_)
 unfold unpack
 rw[show (qbB es X.env).length=its.toArray.size by simp[hn,<-hl,rv.length],hst]
 refine qag (qda (PySem.W.kun_itemsOf (I.ok.hd hc) p.isList λh' hx=>?_))
 have I1:Inv X pins σ H { s with heap:=h' }:=I.kept (t':=s.toks) λb o e=>hx b o (qaW (qaG e)) e
 exact h pins _ σ H xs _ Q I1 (by simpa using rv) hw
theorem eh {es:List Expr}{k n:Nat}{is:List Nat} (h:PGs X es (tGs K is)) (hes:es.all aR=true:=by rfl) (hn:es.length=n:=by rfl) (hi:is.length=n:=by rfl) (hc:X.calm=true:=by rfl) (hK:X.K=K:=by rfl):PG X (.Tuple es k pos) (tG K (.tp is)):=by
 subst hK
 intro pins s σ H v u Q I rv q
 obtain⟨φ,st,env,w,env',hE,hS,r,e,q⟩:=q
 cases w with
 |h n=>cases e
 |d x=>
  cases x with
  |tup ds=>
   have e':(if is.length=ds.length then some (oX is ds env) else none)=some env':=e
   by_cases hl:is.length=ds.length
   ·rw[if_pos hl]at e'
    cases e'
    obtain⟨a,vs,rfl,hq,hr⟩:=r
    exact AN hc h ((pR hes).trans hn) (nL hes) pins s σ H _ u Q I rv ⟨a,vs,rfl,(SqT.of hq),by rw[<-hr.length,<-hl,hi],φ,st,env,ds,hE,hS,hr,hl,q⟩
   ·rw[if_neg hl]at e'
    cases e'
  |lst ds=>
   have e':(if is.length=ds.length then some (oX is ds env) else none)=some env':=e
   by_cases hl:is.length=ds.length
   ·rw[if_pos hl]at e'
    cases e'
    obtain⟨a,vs,rfl,_,hq,hr⟩:=r
    exact Ai hc h ((pR hes).trans hn) (nL hes) pins s σ H _ u Q I rv ⟨a,vs,rfl,.inl hq,by rw[<-hr.length,<-hl,hi],φ,st,env,ds,hE,hS,hr,hl,q⟩
   ·rw[if_neg hl]at e'
    cases e'
  |_=>cases e
variable {s:Stmt}{ss rest:List Stmt}{e a b c:Expr}{ga gb:Sf}{f fa fb fc:Ef}
theorem bo:ISs K X [] bK:=by
 refine⟨λenv st r hr=>?_⟩
 cases hr
 exact yQ.imp λD σ H ⟨φ,hE,hS,q⟩=>q σ H φ (Fw.refl φ H) hE hS
theorem aq (h:IS K X s ga):ISs K X [s] ga:=⟨λenv st r hr=>vB (h.run env st r hr)⟩
theorem aj (h1:IS K X s ga) (h2:ISs K X rest gb):ISs K X (s::rest) (ao ga gb):=by
 refine⟨λenv st r hr=>?_⟩
 simp only[ao,qab]at hr
 obtain⟨r1,e1,hr⟩:=hr
 cases r1 with
 |nx e s1=>
  refine (fM (h1.run _ _ _ e1) (h2.run _ _ _ hr)).imp ?_
  rintro D σ H ⟨φ,hE,hS,q⟩
  exact⟨φ,hE,hS,λσ' H' φ' f' e' s'=>⟨φ',e',s',q.fw f'⟩⟩
 |rt w s1=>
  cases hr
  exact (fM (h1.run _ _ _ e1) iG).imp λD σ H ⟨φ,hE,hS,q⟩=>⟨φ,hE,hS,q⟩
 |bk w s1=>
  cases hr
  exact (fM (h1.run _ _ _ e1) iG).imp λD σ H ⟨φ,hE,hS,q⟩=>⟨φ,hE,hS,q⟩
 |ct w s1=>
  cases hr
  exact (fM (h1.run _ _ _ e1) iG).imp λD σ H ⟨φ,hE,hS,q⟩=>⟨φ,hE,hS,q⟩
theorem aF {i:Nat}{x:Str}{pos':Pos} (hN:X.N.Nodup) (hi:X.N[i]?=some x) (hx:Loc X.env.scope x) (he:IE K X e f) (hs:qcC e (some (.Name x pos')) pos.line X.env=pure false:=by rfl) (hf:X.fn x=true\/X.env.scope.names.lookup x=some .local:=by first|exact .inl rfl|exact .inr rfl|assumption) :
  IS K X (.Assign [.Name x pos'] e pos) (aG (.nm i) f):=by
 refine⟨λenv st r hr=>?_⟩
 simp only[aG,eH,qab,qae]at hr
 obtain⟨y,hy,e',ee,rfl⟩:=hr
 cases ee
 refine (z6 hN hi hx (he.run _ _ _ hy) hs hf).imp ?_
 rintro D σ H ⟨φ,hE,hS,q⟩
 exact⟨φ,hE,hS,λv H1 φ1 f1 s1 w1=>q _ H1 φ1 f1 ((hE.fw hS f1).set i w1) s1⟩
theorem tJ {tg:Expr}{g:Tg} (he:IE K X e f) (hg:PG X tg (tG K g)) (hs:qdH [tg] e pos.line X.env=pure false:=by rfl) (hw:qdI [tg] e X.env=pure none:=by rfl)
  (h1:aR tg=true:=by rfl):IS K X (.Assign [tg] e pos) (aG g f):=by
 refine⟨λenv st r hr=>?_⟩
 simp only[aG,qab,qae]at hr
 obtain⟨y,hy,e',ee,rfl⟩:=hr
 refine (qE (he.run _ _ _ hy) hg hs hw (mM h1)).imp ?_
 rintro D σ H ⟨φ,hE,hS,q⟩
 exact⟨φ,hE,hS,λv H1 φ1 f1 s1 w1=>⟨φ1,y.2,env,y.1,e',hE.fw hS f1,s1,w1,ee,λσ' e'' _=>q σ' H1 φ1 f1 e'' s1⟩⟩
theorem Sr.putC {H:Hp}{φ:List Addr}{st:Sto}{n:Nat}{a:Addr}{o:HO}{c:C} (S:Sr K H φ st) (hn:φ[n]?=some a) (w:Fw φ φ H (upd H a o)->Rc K (upd H a o) φ n a c) :
  Fw φ φ H (upd H a o)/\Sr K (upd H a o) φ (st.set n c):=by
 have ha:a∈φ:=qbF hn
 have f:Fw φ φ H (upd H a o):=⟨⟨[],by simp,by simp⟩,λb o hb h=>by rw[upd_ne (λz=>hb (by rw[z];exact ha))];exact h,λb o h=>by
  by_cases z:b=a
  ·subst z;exact⟨_,upd_same⟩
  ·exact⟨o,by rw[upd_ne z];exact h⟩⟩
 refine⟨f,S.nd,by rw[qbw];exact S.len,λm b es e1 e2=>?_⟩
 by_cases hm:n=m
 ·subst hm
  rw[e1]at hn;cases hn
  have hl:n<st.length:=by rw[<-S.len];exact (qar.mp e1).1
  rw[qba hl]at e2
  cases e2
  exact w f
 ·rw[qbp hm]at e2
  have q:=S.at_ m b es e1 e2
  have hne:b≠a:=by
   rintro rfl
   obtain⟨h1,h1'⟩:=qar.mp hn
   obtain⟨h2,h2'⟩:=qar.mp e1
   exact hm ((qex S.nd).mp (h1'.trans h2'.symm))
  exact q.fw S f λo h=>by rw[upd_ne hne];exact h
theorem Sr.put {H:Hp}{φ:List Addr}{st:Sto}{n:Nat}{a:Addr}{vs:List V}{ds:List D} (S:Sr K H φ st) (hn:φ[n]?=some a) (w:Rls K H φ ds vs) :
  Fw φ φ H (upd H a (.lst vs))/\Sr K (upd H a (.lst vs)) φ (st.set n (.l ds)):=S.putC hn λf=>⟨vs,upd_same,w.fw S f⟩
theorem uk {st s':Sto}{o i v:W} (h:io st o i v=some s'):∃ n k x ds j,o=.h n/\i=.d (.int k)/\v=.d x/\lg st n=some ds/\ixN ds.length k=some j/\s'=st.set n (.l (ds.set j x)):=by
 unfold io at h
 split at h
 ·obtain⟨ds,e1,h⟩:=qab.mp h
  obtain⟨j,e2,h⟩:=qae.mp h
  exact⟨_,_,_,ds,j,rfl,rfl,rfl,e1,e2,h.symm⟩
 ·cases h
theorem dO {tpos:Pos} (ho:IE K X a fa) (hi:IE K X b fb) (hv:IE K X e f) (hb:pV b=true:=by rfl) (hs:qdH [.Subscript a b tpos] e pos.line X.env=pure false:=by rfl) (hw:qdI [.Subscript a b tpos] e X.env=pure none:=by rfl) :
  IS K X (.Assign [.Subscript a b tpos] e pos) (cg fa fb f):=by
 refine⟨λenv st r hr=>?_⟩
 simp only[cg,qab,qae]at hr
 obtain⟨rv,ev,ro,eo,ri,ei,s',es,rfl⟩:=hr
 refine (qE (hv.run _ _ _ ev) (uC (ho.run _ _ _ eo) (hi.run _ _ _ ei) mV (pP hb)) hs hw (mM rfl)).imp ?_
 rintro D σ H ⟨φ,hE,hS,q⟩
 refine⟨φ,hE,hS,λv H1 φ1 f1 s1 w1=>⟨φ1,hE.fw hS f1,s1,λo H2 φ2 f2 s2 w2=>⟨φ2,(hE.fw hS f1).fw s1 f2,s2,λi H3 φ3 f3 s3 w3=>?_⟩⟩⟩
 have e3:=((hE.fw hS f1).fw s1 f2).fw s2 f3
 have w1':=(w1.fw s1 f2).fw s2 f3
 have w2':=w2.fw s2 f3
 obtain⟨ro1,ro2⟩:=ro
 obtain⟨rv1,rv2⟩:=rv
 obtain⟨ri1,ri2⟩:=ri
 obtain⟨n,k,x,ds,j,rfl,rfl,rfl,eds,ej,rfl⟩:=uk es
 obtain⟨p,ep,rfl⟩:=w2'
 obtain⟨vs,hp,rl⟩:=s3.atl n p ds ep eds
 have w3':i=.int k:=w3
 subst w3'
 obtain⟨f4,s4⟩:=s3.put ep (Rls.set j rl w1')
 refine⟨p,vs,k,j,rfl,rfl,hp,by rw[<-rl.length];exact ej,?_⟩
 exact q _ _ φ3 (((f1.trans f2).trans f3).trans f4) (e3.fw s3 f4) s4
theorem aN (h:IE K X e f):IS K X (.Return (some e) pos) (bH f):=by
 refine⟨λenv st r hr=>?_⟩
 simp only[bH,qae]at hr
 obtain⟨y,hy,rfl⟩:=hr
 exact (AA (h.run _ _ _ hy)).imp λD σ H ⟨φ,hE,hS,q⟩=>⟨φ,hE,hS,q⟩
theorem fF (h:IE K X e f) (hs:qcC e none pos.line X.env=pure false:=by rfl):IS K X (.Expr e pos) (fg f):=by
 refine⟨λenv st r hr=>?_⟩
 simp only[fg,qae]at hr
 obtain⟨y,hy,rfl⟩:=hr
 exact (zl (h.run _ _ _ hy) hs).imp λD σ H ⟨φ,hE,hS,q⟩=>⟨φ,hE,hS,λv H1 φ1 f1 s1 w1=>q σ H1 φ1 f1 (hE.fw hS f1) s1⟩
theorem cu {tc:Tf}{sa sb:List Stmt} (hc:IT K X c tc) (ha:ISs K X sa ga) (hb:ISs K X sb gb):IS K X (.If c sa sb pos) (cv tc ga gb):=by
 refine⟨λenv st r hr=>?_⟩
 simp only[cv,qab]at hr
 obtain⟨⟨k,s1⟩,hx,hr⟩:=hr
 cases k with
 |true=>
  rw[if_pos rfl]at hr
  refine (zG (hc.run _ _ _ hx) (ha.run _ _ _ hr) iG).imp ?_
  rintro D σ H ⟨φ,hE,hS,q⟩
  refine⟨φ,hE,hS,λH1 φ1 f1 s1=>uc ?_⟩
  exact⟨φ1,hE.fw hS f1,s1,q.fw f1⟩
 |false=>
  rw[if_neg qaH]at hr
  refine (zG (hc.run _ _ _ hx) iG (hb.run _ _ _ hr)).imp ?_
  rintro D σ H ⟨φ,hE,hS,q⟩
  refine⟨φ,hE,hS,λH1 φ1 f1 s1=>uy ?_⟩
  exact⟨φ1,hE.fw hS f1,s1,q.fw f1⟩
theorem xx:IS K X (.Break pos) sR:=by
 refine⟨λenv st r hr=>?_⟩
 cases hr
 exact xN.imp λD σ H ⟨φ,hE,hS,q⟩=>q σ H φ (Fw.refl φ H) hE hS
theorem uQ:IS K X (.Continue pos) pq:=by
 refine⟨λenv st r hr=>?_⟩
 cases hr
 exact qY.imp λD σ H ⟨φ,hE,hS,q⟩=>q σ H φ (Fw.refl φ H) hE hS
def Cv (K:qad) (g:Sf):TS:=λD σ H=>∃ env st r,g env st=some r/\tS K env st r D σ H
def wK (K:qad) (f:Ef):TE:=λσ H Q=>∃ env st r,f env st=some r/\tI K env st r σ H Q
def uX (K:qad) (f:Tf):TT:=λσ H Q=>∃ env st r,f env st=some r/\tIT K env st r σ H Q
theorem ISs.any (h:ISs K X ss ga):PSs X ss (Cv K ga):=λpins s σ H D I ⟨env,st,r,e,q⟩=>h.run env st r e pins s σ H D I q
theorem IE.any (h:IE K X e f):PE X e (wK K f):=λpins s σ H D I ⟨env,st,r,e,q⟩=>h.run env st r e pins s σ H D I q
theorem IT.any {tf:Tf} (h:IT K X e tf):PT X e (uX K tf):=λpins s σ H D I ⟨env,st,r,e,q⟩=>h.run env st r e pins s σ H D I q
def Yl (K:qad) (φ0:List Addr) (H0:Hp) (J:It) (ds:List D):Prop:=∀ (H:Hp) (φ:List Addr) (st:Sto) (i:Nat),Fw φ0 φ H0 H->Sr K H φ st->
 (∀ d,ds[i]?=some d->J.go i H/\∀ x H',J.yld i H x H'->bv H H'/\Rl K H' φ d x)/\(ds.length=i->J.stop i H)
def tII (K:qad) (env:Ev) (st:Sto) (r:List D×Sto):TI:=λσ H R=>∃ φ,Er K H φ env σ/\Sr K H φ st/\∀ J H' φ',Fw φ φ' H H'->Sr K H' φ' r.2->Yl K φ' H' J r.1->R J H'
structure II (K:qad) (X:Cx) (tg iter:Expr) (f:Lf):Prop where
 run:∀ env st r,f env st=some r->PI X tg iter (tII K env st r)
theorem PI.imp {tg iter:Expr}{t t':TI} (h:PI X tg iter t) (m:∀ σ H R,t' σ H R->t σ H R):PI X tg iter t':=λpins s σ H R I q=>h pins s σ H R I (m σ H R q)
variable {tg:Expr}
end
section
variable {K:qad}{X:Cx}{pos:Pos}{tg e a b:Expr}{f:Ef}{af:Af}
theorem bT (h:IE K X e f) (hK:X.K=K:=by rfl):II K X tg e (aE f):=by
 subst hK
 refine⟨λenv st r hr=>?_⟩
 simp only[aE,qab]at hr
 obtain⟨⟨w,s1⟩,hy,hr⟩:=hr
 match w,hr with
 |.d (.tup ds),hr=>
  cases hr
  refine (AV (h.run _ _ _ hy)).imp ?_
  rintro σ H R ⟨φ,hE,hS,q⟩
  refine⟨φ,hE,hS,λv H1 φ1 f1 s1 w1=>?_⟩
  obtain⟨a,vs,rfl,hq,hr⟩:=w1
  refine⟨a,rfl,⟨vs,(SqT.of hq)⟩,q _ H1 φ1 f1 s1 λH2 φ2 st2 i f2 s2=>?_⟩
  have hq2:=(SqT.of hq).fw s1 f2
  have hr2:=hr.fw s1 f2
  refine⟨λd hd=>?_,λhi=>⟨vs,hq2,by rw[<-hr2.length];exact qcB hi⟩⟩
  obtain⟨v,ev,rv⟩:=hr2.get hd
  refine⟨⟨vs,v,hq2,ev⟩,λx H' y=>?_⟩
  obtain⟨rfl,y⟩:=y
  have:=y vs hq2
  rw[ev]at this
  cases this
  exact⟨bv.refl _,rv⟩
 |.d (.lst ds),hr=>
  cases hr
  refine (vJ (h.run _ _ _ hy)).imp ?_
  rintro σ H R ⟨φ,hE,hS,q⟩
  refine⟨φ,hE,hS,λv H1 φ1 f1 s1 w1=>?_⟩
  obtain⟨a,vs,rfl,h0,hq,hr⟩:=w1
  refine⟨a,rfl,⟨vs,.inl hq⟩,q _ H1 φ1 f1 s1 λH2 φ2 st2 i f2 s2=>?_⟩
  have hq2:SqL X.K H2 a vs:=.inl (hq.fw f2 h0)
  have hr2:=hr.fw s1 f2
  refine⟨λd hd=>?_,λhi=>⟨vs,hq2,by rw[<-hr2.length];exact qcB hi⟩⟩
  obtain⟨v,ev,rv⟩:=hr2.get hd
  refine⟨⟨vs,v,hq2,ev⟩,λx H' y=>?_⟩
  obtain⟨rfl,y⟩:=y
  have:=y vs hq2
  rw[ev]at this
  cases this
  exact⟨bv.refl _,rv⟩
theorem xr (lo:Int) (n i:Nat):(cV lo n)[i]?=if i<n then some (.int (lo+i)) else none:=by
 unfold cV
 rw[qaO]
 by_cases h:i<n
 ·rw[qbm h,if_pos h];rfl
 ·rw[qaQ (by simpa using h),if_neg h];rfl
theorem rO (lo:Int) (n:Nat):(cV lo n).length=n:=by unfold cV;rw[qai,qah]
theorem Br (lo:Int) (n:Nat) {φ:List Addr}{H:Hp}:Yl K φ H (Itr lo n) (cV lo n):=by
 intro H2 φ2 st2 i f2 s2
 refine⟨λd hd=>?_,λhi=>by rw[rO]at hi;exact qcB hi⟩
 rw[xr]at hd
 by_cases h:i<n
 ·rw[if_pos h]at hd
  cases hd
  refine⟨h,λx H' y=>?_⟩
  obtain⟨rfl,rfl⟩:=y
  exact⟨bv.refl _,rfl⟩
 ·rw[if_neg h]at hd;cases hd
theorem iX {p:Pos} (hg:Gl X "range") (hm:X.mg "range" = none) (ha:IA K X [a] af) (hs:aR a=true:=by rfl):II K X tg (.Call (.Name "range" p) [a] [] pos) (cH af):=by
 refine⟨λenv st r hr=>?_⟩
 simp only[cH,qab]at hr
 obtain⟨⟨ws,s1⟩,hy,hr⟩:=hr
 match ws,hr with
 |[.d (.int j)],hr=>
  have hr':(if -(2^62)<=j/\j<2^62 then some (cV 0 j.toNat,s1) else none)=some r:=hr
  by_cases hj:-(2^62)<=j/\j<2^62
  ·rw[if_pos hj]at hr'
   cases hr'
   refine (vP hg hm (ha.run _ _ _ hy) (jC hs)).imp ?_
   rintro σ H R ⟨φ,hE,hS,q⟩
   refine⟨φ,hE,hS,λvs H1 φ1 f1 s1 w1=>?_⟩
   obtain⟨v,r,rfl,r1,rfl⟩:=w1
   exact⟨j,by rw[show v=.int j from r1],hj.1,hj.2,q _ H1 φ1 f1 s1 (Br 0 _)⟩
  ·rw[if_neg hj]at hr';cases hr'
theorem lK:∀ (ds:List D) (k i:Nat),(jz k ds)[i]?=(ds[i]?).map λd=>D.tup [.int ((k+i:Nat):Int),d]
 |[],k,i=>by simp[jz]
 |d::ds,k,0=>by simp[jz]
 |d::ds,k,i+1=>by
  have:=lK ds (k+1) i
  rw[show k+1+i=k+(i+1) by lia]at this
  simpa [jz] using this
theorem oY:∀ (ds:List D) (k:Nat),(jz k ds).length=ds.length
 |[],_=>rfl
 |d::ds,k=>by rw[jz,qat,qat,oY ds]
theorem uF {S:Hp->List V->Prop}{ds:List D}{vs:List V}{φ:List Addr}{H:Hp} (hS:∀ H' φ',Fw φ φ' H H'->S H' vs) (hr:∀ H' φ',Fw φ φ' H H'->Rls K H' φ' ds vs):Yl K φ H (Ite S) (jz 0 ds):=by
 intro H2 φ2 st2 i f2 s2
 have q2:=hS H2 φ2 f2
 have r2:=hr H2 φ2 f2
 refine⟨λd hd=>?_,λhi=>⟨vs,q2,by rw[<-r2.length,<-oY ds 0];exact hi⟩⟩
 rw[lK,qae]at hd
 obtain⟨d',hd',rfl⟩:=hd
 obtain⟨v,ev,rv⟩:=r2.get hd'
 refine⟨⟨vs,v,q2,ev⟩,λx H' y=>?_⟩
 obtain⟨T,v',y1,hT,rfl,rfl⟩:=y
 have:=y1 vs q2
 rw[ev]at this
 cases this
 refine⟨bv.new hT _,T,_,rfl,upd_same,_,_,rfl,?_,_,_,rfl,rv.fw s2 (Fw.new hT),rfl⟩
 show V.int (i:Int)=V.int ((0+i:Nat):Int)
 rw[qbT]
theorem kM {elts:List Expr}{k:Nat}{tpos p:Pos} (hg:Gl X "enumerate") (hm:X.mg "enumerate" = none) (ha:IA K X [a] af) (hs:aR a=true:=by rfl) (hK:X.K=K:=by rfl) :
  II K X (.Tuple elts k tpos) (.Call (.Name "enumerate" p) [a] [] pos) (fX af):=by
 subst hK
 refine⟨λenv st r hr=>?_⟩
 simp only[fX,qab]at hr
 obtain⟨⟨ws,s1⟩,hy,hr⟩:=hr
 match ws,hr with
 |[.d (.tup ds)],hr=>
  cases hr
  refine (xA hg hm (ha.run _ _ _ hy) (jC hs)).imp ?_
  rintro σ H R ⟨φ,hE,hS,q⟩
  refine⟨φ,hE,hS,λvs H1 φ1 f1 s1 w1=>?_⟩
  obtain⟨v,r,rfl,⟨a,us,rfl,hq,hr⟩,rfl⟩:=w1
  exact⟨a,rfl,⟨us,(SqT.of hq)⟩,q _ H1 φ1 f1 s1 (uF (λH' φ' f=>(SqT.of hq).fw s1 f) λH' φ' f=>hr.fw s1 f)⟩
 |[.d (.lst ds)],hr=>
  cases hr
  refine (wz hg hm (ha.run _ _ _ hy) (jC hs)).imp ?_
  rintro σ H R ⟨φ,hE,hS,q⟩
  refine⟨φ,hE,hS,λvs H1 φ1 f1 s1 w1=>?_⟩
  obtain⟨v,r,rfl,⟨a,us,rfl,h0,hq,hr⟩,rfl⟩:=w1
  exact⟨a,rfl,⟨us,.inl hq⟩,q _ H1 φ1 f1 s1 (uF (λH' φ' f=>.inl (hq.fw f h0)) λH' φ' f=>hr.fw s1 f)⟩
theorem gB {iter:Expr}{body:List Stmt}{fi:Lf}{g:Tg}{gb:Sf} (hi:II K X tg iter fi) (hg:PG X tg (tG K g)) (hb:ISs K X body gb) (hp:qgd (model X.prog X.w) X.A X.env X.xe) (hc:X.calm=true:=by rfl)
  (hs:∀ x,qbY iter X.env x=pure x:=by intro _;rfl):IS K X (.For tg iter body [] pos) (kq fi g gb):=by
 refine⟨λenv st r hr=>?_⟩
 simp only[kq,qab]at hr
 obtain⟨⟨ds,s1⟩,hy,hr⟩:=hr
 refine (Bv hp hc (hi.run _ _ _ hy) hg hb.any hs).imp ?_
 rintro D σ H ⟨φ,hE,hS,q⟩
 refine⟨φ,hE,hS,λJ H1 φ1 f1 S1 yl=>?_⟩
 refine⟨λi m σ H=>m=ds.length - i/\i<=ds.length/\∃ env st φ2,Fw φ1 φ2 H1 H/\Er K H φ2 env σ/\Sr K H φ2 st/\eJ g gb (ds.drop i) env st=some r,⟨ds.length,by simp,qb2 _,env,s1,φ1,Fw.refl _ _,hE.fw hS f1,S1,hr⟩,?_⟩
 rintro i m σ H2 ⟨rfl,hi,env2,st2,φ2,f2,e2,S2,h2⟩
 obtain⟨y1,y2⟩:=yl H2 φ2 st2 i f2 S2
 by_cases hlt:i<ds.length
 ·obtain⟨go,yld⟩:=y1 ds[i] (qaL hlt)
  rw[qdl hlt]at h2
  simp only[eJ,qab]at h2
  obtain⟨e3,he3,r3,hr3,h3⟩:=h2
  refine .inr ⟨go,λσ' H'=>i+1<=ds.length/\∃ env st φ2,Fw φ1 φ2 H1 H'/\Er K H' φ2 env σ'/\Sr K H' φ2 st/\eJ g gb (ds.drop (i+1)) env st=some r,λσ' H' ⟨hn,p'⟩=>⟨ds.length - (i+1),by lia,rfl,hn,p'⟩,λx H' y=>?_⟩
  obtain⟨sm,rx⟩:=yld x H' y
  have S3:=S2.same sm
  have f3:=f2.trans (Fw.same (φ:=φ2) sm)
  refine⟨φ2,st2,env2,.d ds[i],e3,e2.fw S2 (Fw.same sm),S3,rx,he3,λσ' e' _=>?_⟩
  refine⟨e3,st2,r3,hr3,φ2,e',S3,?_⟩
  cases r3 with
  |nx e4 s4=>exact λσ4 H4 φ4 f4 e4' s4'=>⟨hlt,e4,s4,φ4,f3.trans f4,e4',s4',h3⟩
  |ct e4 s4=>exact λσ4 H4 φ4 f4 e4' s4'=>⟨hlt,e4,s4,φ4,f3.trans f4,e4',s4',h3⟩
  |bk e4 s4=>
   cases h3
   exact λσ4 H4 φ4 f4 e4' s4'=>q σ4 H4 φ4 (f1.trans (f3.trans f4)) e4' s4'
  |rt w s4=>
   cases h3
   exact λv H4 φ4 f4 s4' w4=>q v H4 φ4 (f1.trans (f3.trans f4)) s4' w4
 ·have hi':i=ds.length:=by lia
  subst hi'
  rw[qey]at h2
  cases h2
  exact .inl ⟨y2 rfl,q σ H2 φ2 (f1.trans f2) e2 S2⟩
def ub (n:Nat) (c:Tf) (b:Sf):Sf
 |env,st=>dI c b n env st
theorem rA {c:Expr}{body:List Stmt}{tc:Tf}{gb:Sf} (n:Nat) (hc:IT K X c tc) (hb:ISs K X body gb) (hp:qgd (model X.prog X.w) X.A X.env X.xe):IS K X (.While c body [] pos) (ub n tc gb):=by
 refine⟨λenv st r hr=>?_⟩
 refine (ww hp hc.any hb.any).imp ?_
 rintro D σ H ⟨φ,hE,hS,q⟩
 refine⟨λm σ H'=>∃ env st φ2,Fw φ φ2 H H'/\Er K H' φ2 env σ/\Sr K H' φ2 st/\dI tc gb m env st=some r,⟨n,env,st,φ,Fw.refl _ _,hE,hS,hr⟩,?_⟩
 rintro m σ H2 ⟨env2,st2,φ2,f2,e2,S2,h2⟩
 cases m with
 |zero=>cases h2
 |succ m=>
  simp only[dI,qab]at h2
  obtain⟨⟨k,s3⟩,hk,h2⟩:=h2
  refine⟨env2,st2,_,hk,φ2,e2,S2,λH3 φ3 f3 S3=>?_⟩
  cases k with
  |false=>
   rw[if_neg qaH]at h2
   cases h2
   exact uy (q σ H3 φ3 (f2.trans f3) (e2.fw S2 f3) S3)
  |true=>
   simp only[if_true,qab]at h2
   obtain⟨r3,hr3,h3⟩:=h2
   refine uc ⟨λσ' H'=>∃ env st φ2,Fw φ φ2 H H'/\Er K H' φ2 env σ'/\Sr K H' φ2 st/\dI tc gb m env st=some r,λσ' H' p'=>⟨m,qbI _,p'⟩,?_⟩
   refine⟨env2,s3,r3,hr3,φ3,e2.fw S2 f3,S3,?_⟩
   have f3':=f2.trans f3
   cases r3 with
   |nx e4 s4=>exact λσ4 H4 φ4 f4 e4' s4'=>⟨e4,s4,φ4,f3'.trans f4,e4',s4',h3⟩
   |ct e4 s4=>exact λσ4 H4 φ4 f4 e4' s4'=>⟨e4,s4,φ4,f3'.trans f4,e4',s4',h3⟩
   |bk e4 s4=>
    cases h3
    exact λσ4 H4 φ4 f4 e4' s4'=>q σ4 H4 φ4 (f3'.trans f4) e4' s4'
   |rt w s4=>
    cases h3
    exact λv H4 φ4 f4 s4' w4=>q v H4 φ4 (f3'.trans f4) s4' w4
structure ITs (K:qad) (X:Cx) (ifs:List Expr) (t:Tf):Prop where
 run:PTs X ifs (uX K t)
theorem aY:ITs K X [] aS:=by
 refine⟨λpins s σ H Q I ⟨env,st,r,e,φ,hE,hS,q⟩=>?_⟩
 cases e
 exact ze pins s σ H Q I (q H φ (Fw.refl φ H) hS)
theorem zh {c:Expr}{t:Tf} (h:IT K X c t):ITs K X [c] t:=⟨yx h.any⟩
theorem Er.emb {H:Hp}{φ:List Addr}{env:Ev}{σ:St} (h:Er K H φ env σ) (k:Nat) (js:List Nat):Er K H φ (gQ k js env) (gy k js σ):=by
 refine⟨by unfold gQ gy;simp,λi w e=>?_⟩
 unfold gQ at e
 unfold gy
 by_cases hi:i<k
 ·rw[qas (by simpa using hi),qcI,if_pos hi]at e
  cases e
 ·rw[qau (by simpa using hi),qch,qaO,qae]at e
  obtain⟨j,ej,e⟩:=e
  have ej2:env[j]?=some (some w):=by
   rw[qeF]at e
   cases q:env[j]? with
   |none=>rw[q]at e;cases e
   |some o=>rw[q]at e;rw[show o=some w from e]
  obtain⟨v,ev,rv⟩:=h.at_ j w ej2
  refine⟨v,?_,rv⟩
  rw[qau (by simpa using hi),qch,qaO,ej]
  show some ((σ[j]?).getD none)=_
  rw[ev];rfl
theorem Sub.stay {k:Nat}{js is:List Nat}{σ σ':St} (h:zn is (gy k js σ) σ') (hi:∀ j∈is,j<k):Sub (gy k js σ) σ':=by
 refine⟨h.1.symm,λj v e=>?_⟩
 by_cases hj:j∈is
 ·have:=hi j hj
  unfold gy at e
  rw[qas (by simpa using this),qcI,if_pos this]at e
  cases e
 ·rw[h.2 j hj];exact e
theorem uB {k:Nat}{js:List Nat}{g:Tg}{tt:Tf}{te:Ef}{env:Ev}{st s1:Sto}{ds:List D}{r:List D×Sto} (hgi:∀ j∈sW g,j<k) (hdl:ds.length<=1000000) (hr':lcI g tt te (gQ k js env) ds s1=some r) :
  ∀ σ H Q,tIL K env st r σ H Q->tLc (gy k js) (tII K env st (ds,s1)) (tG K g) (uX K tt) (wK K te) σ H Q:=by
 rintro σ H Q ⟨φ,hE,hS,q⟩
 refine⟨φ,hE,hS,λJ H1 φ1 f1 S1 yl=>?_⟩
 have hE1:=(hE.fw hS f1).emb k js
 refine⟨λi m ys H2=>m=ds.length - i/\i<=ds.length/\∃ st φ2 es r2,Fw φ1 φ2 H1 H2/\Sr K H2 φ2 st/\Rls K H2 φ2 es ys/\es.length<=i/\lcI g tt te (gQ k js env) (ds.drop i) st=some r2/\r=(es++r2.1,r2.2),⟨ds.length,by simp,qb2 _,s1,φ1,[],r,Fw.refl _ _,S1,rfl,qan _,hr',rfl⟩,?_⟩
 rintro i m ys H2 ⟨rfl,hi,st2,φ2,es,r2,f2,S2,rl2,hle,h2,rfl⟩
 obtain⟨y1,y2⟩:=yl H2 φ2 st2 i f2 S2
 by_cases hlt:i<ds.length
 ·obtain⟨go,yld⟩:=y1 ds[i] (qaL hlt)
  rw[qdl hlt]at h2
  simp only[lcI,qab]at h2
  obtain⟨e3,he3,⟨kb,s3⟩,hb3,h3⟩:=h2
  have hz:ys.length<qaS:=by
   rw[<-rl2.length]
   have:qaS=16777216:=qdJ
   lia
  refine .inr ⟨go,hz,λys' H'=>i+1<=ds.length/\∃ st φ2 es' r2',Fw φ1 φ2 H1 H'/\Sr K H' φ2 st/\Rls K H' φ2 es' ys'/\es'.length<=i+1/\lcI g tt te (gQ k js env) (ds.drop (i+1)) st=some r2'/\(es++r2.1,r2.2)=(es'++r2'.1,r2'.2),λys' H' ⟨hn,p'⟩=>⟨ds.length - (i+1),by lia,rfl,hn,p'⟩,λx H' y=>?_⟩
  obtain⟨sm,rx⟩:=yld x H' y
  have S3:=S2.same sm
  have f3:=f2.trans (Fw.same (φ:=φ2) sm)
  refine⟨φ2,st2,gQ k js env,.d ds[i],e3,hE1.fw S1 f3,S3,rx,he3,λσ' e' stay=>⟨Sub.stay stay hgi,?_⟩⟩
  refine⟨e3,st2,_,hb3,φ2,e',S3,λH4 φ4 f4 S4=>?_⟩
  cases kb with
  |false=>
   rw[if_neg qaH]at h3
   exact uy ⟨hlt,s3,φ4,es,r2,f3.trans f4,S4,(rl2.fw S2 (Fw.same sm)).fw S3 f4,by lia,h3,rfl⟩
  |true=>
   simp only[if_true,qab,qae]at h3
   obtain⟨x5,hx5,zs,hzs,r5,hr5,rfl⟩:=h3
   refine uc ⟨e3,s3,x5,hx5,φ4,e'.fw S3 f4,S4,λv H5 φ5 f5 S5 w5=>?_⟩
   obtain⟨x5,s5⟩:=x5
   cases x5 with
   |h n=>cases hzs
   |d z=>
    cases hzs
    refine⟨hlt,s5,φ5,es++[z],r5,(f3.trans f4).trans f5,S5,(((rl2.fw S2 (Fw.same sm)).fw S3 f4).fw S4 f5).append ⟨v,[],rfl,w5,rfl⟩,by rw[qap];simp;lia,hr5,?_⟩
    simp
 ·have hi':i=ds.length:=by lia
  subst hi'
  rw[qey]at h2
  cases h2
  refine .inl ⟨y2 rfl,λDn hD=>?_⟩
  have:=q Dn ys H2 φ2 (f1.trans f2) S2 hD
  exact this (by simpa using rl2)
theorem cr {scope:Scope}{Nc:List Str}{k:Nat}{js:List Nat}{elt iter:Expr}{ifs:List Expr}{fi:Lf}{g:Tg}{tt:Tf}{te:Ef}
  (S:fE X scope Nc (gy k js)) (hc:X.calm=true) (hgi:∀ j∈sW g,j<k) (hi:II K X tg iter fi)
  (hg:∀ cells s H C fp,PG (lcX X scope cells Nc s H C fp) tg (tG K g)) (ht:∀ cells s H C fp,ITs K (lcX X scope cells Nc s H C fp) ifs tt) (he:∀ cells s H C fp,IE K (lcX X scope cells Nc s H C fp) elt te)
  (hs:∀ x,qbY iter X.env x=pure x:=by intro _;rfl):IL K X (.ListComp elt [⟨tg,iter,ifs,0⟩] scope pos) (iLc k js fi g tt te):=by
 refine⟨λenv st r hr=>?_⟩
 simp only[iLc,qab]at hr
 obtain⟨⟨ds,s1⟩,hy,hr⟩:=hr
 have hr':(if ds.length<=1000000 then lcI g tt te (gQ k js env) ds s1 else none)=some r:=hr
 by_cases hdn:¬ ds.length<=1000000
 ·rw[if_neg hdn]at hr';cases hr'
 have hdl:ds.length<=1000000:=by lia
 rw[if_pos hdl]at hr'
 refine (zQ S hc (hi.run _ _ _ hy) hg (λcells s H C fp=>(ht cells s H C fp).run) (λcells s H C fp=>(he cells s H C fp).any) hs).imp (uB hgi hdl hr')
theorem uJ {scope:Scope}{Nc:List Str}{k:Nat}{js:List Nat}{elt iter:Expr}{ifs:List Expr}{fi:Lf}{g:Tg}{tt:Tf}{te:Ef}{i0:Nat}{x0:Str}{py spos:Pos}
  (hN0:X.N.Nodup) (hi0:X.N[i0]?=some x0) (hx0:Loc X.env.scope x0) (S:fE X scope Nc (gy k js)) (hc:X.calm=true) (hgi:∀ j∈sW g,j<k) (hi:II K X tg iter fi)
  (hg:∀ cells s H C fp,PG (lcX X scope cells Nc s H C fp) tg (tG K g)) (ht:∀ cells s H C fp,ITs K (lcX X scope cells Nc s H C fp) ifs tt) (he:∀ cells s H C fp,IE K (lcX X scope cells Nc s H C fp) elt te)
  (hsw:qcC (.ListComp elt [⟨tg,iter,ifs,0⟩] scope pos) (some (.Name x0 py)) spos.line X.env=pure true:=by rfl)
  (hf0:X.fn x0=true\/X.env.scope.names.lookup x0=some .local:=by first|exact .inl rfl|exact .inr rfl|assumption)
  (hs:∀ x,qbY iter X.env x=pure x:=by intro _;rfl):IS K X (.Assign [.Name x0 py] (.ListComp elt [⟨tg,iter,ifs,0⟩] scope pos) spos) (aG (.nm i0) (aD (iLc k js fi g tt te)))/\
   IS K X (.Assign [.Name x0 py] (.ListComp elt [⟨tg,iter,ifs,0⟩] scope pos) spos) (aG (.nm i0) (dH (iLc k js fi g tt te))):=by
 have key:∀ env st r0 r,iLc k js fi g tt te env st=some r->(∀ σ φ H (D:oQ),Er K H φ env σ->Sr K H φ st->xQ K φ H D r0->∀ a vs H1 φ',Fw φ φ' H H1->Sr K H1 φ' r.2->H1 a=none->Rls K H1 φ' r.1 vs->D.nx (σ.set i0 (some (.ref a))) (upd H1 a (.lst vs)))->
   PS X (.Assign [.Name x0 py] (.ListComp elt [⟨tg,iter,ifs,0⟩] scope pos) spos) (tS K env st r0):=by
  intro env st r0 r hr h
  simp only[iLc,qab]at hr
  obtain⟨⟨ds,s1⟩,hy,hr⟩:=hr
  have hr':(if ds.length<=1000000 then lcI g tt te (gQ k js env) ds s1 else none)=some r:=hr
  by_cases hdn:¬ ds.length<=1000000
  ·rw[if_neg hdn]at hr';cases hr'
  have hdl:ds.length<=1000000:=by lia
  rw[if_pos hdl]at hr'
  refine (zH hN0 hi0 hx0 S hc (hi.run _ _ _ hy) hg (λcells s H C fp=>(ht cells s H C fp).run) (λcells s H C fp=>(he cells s H C fp).any) hsw hf0 hs).imp ?_
  rintro D σ H ⟨φ,hE,hS,q⟩
  exact uB hgi hdl hr' σ H _ ⟨φ,hE,hS,h σ φ H D hE hS q⟩
 constructor
 ·refine⟨λenv st r hr=>?_⟩
  simp only[aG,aD,eH,qab,qae]at hr
  obtain⟨y,⟨r2,hy,rfl⟩,e',ee,rfl⟩:=hr
  cases ee
  refine key _ _ _ _ hy λσ φ H D hE hS q a vs H1 φ1 f1 s1 n1 w1=>?_
  exact q _ _ φ1 (f1.trans (Fw.new n1)) ((((hE.fw hS f1).fw s1 (Fw.new n1))).set i0 (w:=.d (.lst r2.1)) ⟨a,vs,rfl,s1.nin n1,.inl upd_same,w1.fw s1 (Fw.new n1)⟩) (s1.new n1)
 ·refine⟨λenv st r hr=>?_⟩
  simp only[aG,dH,eH,qab,qae]at hr
  obtain⟨y,⟨r2,hy,rfl⟩,e',ee,rfl⟩:=hr
  cases ee
  refine key _ _ _ _ hy λσ φ H D hE hS q a vs H1 φ1 f1 s1 n1 w1=>?_
  exact q _ _ (φ1++[a]) (f1.trans (Fw.more n1)) (((hE.fw hS f1).fw s1 (Fw.more n1)).set i0 (w:=.h r2.2.length) ⟨a,by rw[<-s1.len];simp,rfl⟩) (s1.more n1 w1)
end
def cT (n k:Nat) (b:Sf):Fn
 |ws,st=>if ws.length=k then (b (ws.map some++qaB (n - k) none) st).bind λr=>match r with
 |.nx _ s=>some (.d .non,s)
 |.rt w s=>some (w,s)
 |_=>none
 else none
def tm (n:Nat) (w:W) (s:Sto):Option (W×Sto):=match w with
 |.d x=>some (.d x,s.take n)
 |.h m=>if m<n then some (.h m,s.take n) else (lg s m).map λds=>(.d (.lst ds),s.take n)
def iM (n k:Nat) (b:Sf):Fn
 |ws,st=>if ws.length=k then (b (ws.map some++qaB (n - k) none) st).bind λr=>match r with
 |.nx _ s=>some (.d .non,s.take st.length)
 |.rt w s=>tm st.length w s
 |_=>none
 else none
section
variable {P:qa5}{w:World}{K:qad}{mg:Str->Option Value}{base:Heap}
theorem og {H:Hp}{φ:List Addr}{N:List Str}{k:Nat}:∀ {ws:List W}{vs:List V},Rws K H φ ws vs->ws.length=k->Er K H φ (ws.map some++qaB (N.length - k) none) (gY N vs):=by
 intro ws vs r hk
 have hl:=r.length
 refine⟨by unfold gY;simp;lia,λi x e=>?_⟩
 unfold gY
 by_cases hi:i<ws.length
 ·rw[qas (by simpa using hi),qaO,qae]at e
  obtain⟨y,ey,e⟩:=e
  have:∃ v,vs[i]?=some v/\Rw K H φ y v:=by
   clear hk hl hi e
   induction ws generalizing vs i with
   |nil=>simp at ey
   |cons w ws ih=>
    obtain⟨v,r',rfl,r1,r2⟩:=r
    cases i with
    |zero=>simp at ey;subst ey;exact⟨v,rfl,r1⟩
    |succ i=>simpa using ih r2 i (by simpa using ey)
  obtain⟨v,ev,rv⟩:=this
  cases e
  refine⟨v,?_,rv⟩
  rw[qas (by rw[qai,<-hl];exact hi),qaO,ev];rfl
 ·rw[qau (by simpa using hi)]at e
  have:=qbF e
  have:=(List.mem_replicate.mp this).2
  cases this
theorem gf {x qual:Str}{st:Stmt}{f:Addr}{fd:qaX}{N ps:List Str}{k:Nat}{b:Sf} (F:Fun K x qual st f fd) (S:aP N ps (ah st))
  (hb:∀ (cdv:Value) (A:qbd) (outer:List Env) (s:qam) (H:Hp) (E:XK),dN k (A.deeper (qej qual (ah st) s.heap.objs.size f cdv))->ISs K (oj CX0 P w K mg base N qual (ah st) f cdv A outer s H E).nox (aH st) b) :
  bW P w K mg base CX0 (k+1) f fd ps (spI K (cT N.length ps.length b)):=by
 refine F.ok S (λvs H Q E h=>?_) λcdv A outer s H vs Q E hr h=>?_
 ·obtain⟨φ,st,ws,r,e,rw,_⟩:=h
  rw[cT]at e
  by_cases hl:ws.length=ps.length
  ·rw[<-rw.length,hl]
  ·rw[if_neg hl]at e;cases e
 ·obtain⟨φ,st',ws,r,e,rw,S',q⟩:=h
  rw[cT]at e
  by_cases hl:ws.length=ps.length
  ·rw[if_pos hl]at e
   obtain⟨fl,e1,e2⟩:=qab.mp e
   refine⟨_,(hb cdv A outer s H E hr).run _ _ _ e1,φ,og rw hl,S',?_⟩
   cases fl with
   |nx e s=>cases e2;exact λσ' H' φ' f' e' s'=>q .non H' φ' f' s' rfl
   |rt w s=>cases e2;exact λv H' φ' f' s' w'=>q v H' φ' f' s' w'
   |bk e s=>cases e2
   |ct e s=>cases e2
  ·rw[if_neg hl]at e;cases e
theorem Fw.less {φ φ':List Addr}{H H':Hp} (f:Fw φ φ' H H'):Fw φ φ H H':=⟨⟨[],by simp,by simp⟩,f.keep,f.there⟩
theorem oM {x qual:Str}{st:Stmt}{f:Addr}{fd:qaX}{N ps:List Str}{k:Nat}{b:Sf} (F:Fun K x qual st f fd) (S:aP N ps (ah st))
  (hb:∀ (cdv:Value) (A:qbd) (outer:List Env) (s:qam) (H:Hp) (E:XK),dN k (A.deeper (qej qual (ah st) s.heap.objs.size f cdv))->ISs K (oj CX0 P w K mg base N qual (ah st) f cdv A outer s H E).nox (aH st) b) :
  bW P w K mg base CX0 (k+1) f fd ps (spI K (iM N.length ps.length b)):=by
 refine F.ok S (λvs H Q E h=>?_) λcdv A outer s H vs Q E hr h=>?_
 ·obtain⟨φ,st,ws,r,e,rw,_⟩:=h
  rw[iM]at e
  by_cases hl:ws.length=ps.length
  ·rw[<-rw.length,hl]
  ·rw[if_neg hl]at e;cases e
 ·obtain⟨φ,st',ws,r,e,rw,S',q⟩:=h
  rw[iM]at e
  by_cases hl:ws.length=ps.length
  ·rw[if_pos hl]at e
   obtain⟨fl,e1,e2⟩:=qab.mp e
   refine⟨_,(hb cdv A outer s H E hr).run _ _ _ e1,φ,og rw hl,S',?_⟩
   have less:∀ {H':Hp}{φ':List Addr}{s':Sto},Fw φ φ' H H'->Sr K H' φ' s'->Sr K H' φ (s'.take st'.length):=λ{H' φ' s'} f' S2=>by
    obtain⟨ψ,rfl,_⟩:=f'.ext
    rw[<-S'.len]
    exact S2.less
   cases fl with
   |nx e s=>cases e2;exact λσ' H' φ' f' e' s'=>q .non H' φ f'.less (less f' s') rfl
   |rt w s=>
    intro v H' φ' f' s' w'
    have e3:tm st'.length w s=some r:=e2
    obtain⟨ψ,eψ,_⟩:=f'.ext
    cases w with
    |d x=>
     cases e3
     subst eψ
     exact q v H' φ f'.less (less f' s') (Rl.less w')
    |h m=>
     obtain⟨a,ea,rfl⟩:=w'
     unfold tm at e3
     by_cases hm:m<st'.length
     ·have e4:some (W.h m,s.take st'.length)=some r:=by
       have:=e3
       simp only[hm,if_true]at this
       exact this
      cases e4
      subst eψ
      rw[qas (by rw[S'.len];exact hm)]at ea
      exact q _ H' φ f'.less (less f' s') ⟨a,ea,rfl⟩
     ·simp only[hm,if_false]at e3
      obtain⟨ds,eds,rfl⟩:=qae.mp e3
      obtain⟨vs,hv,rl⟩:=s'.atl m a ds ea eds
      have hn:a∉φ:=λz=>by
       obtain⟨i,hi,ei⟩:=qdO.mp z
       have h1:φ'[i]?=some a:=by subst eψ;rw[qas hi,qaL hi,ei]
       obtain⟨h2,h2'⟩:=qar.mp h1
       obtain⟨h3,h3'⟩:=qar.mp ea
       have:=(qex s'.nd).mp (h2'.trans h3'.symm)
       rw[S'.len]at hi
       lia
      subst eψ
      exact q _ H' φ f'.less (less f' s') ⟨a,vs,rfl,hn,.inl hv,rl.less⟩
   |bk e s=>cases e2
   |ct e s=>cases e2
  ·rw[if_neg hl]at e;cases e
end
def dR:D->Bool
 |.non=>true
 |.bl _=>true
 |.int _=>true
 |.str _=>true
 |_=>false
def vOf:D->V
 |.bl b=>.bl b
 |.int i=>.int i
 |.str x=>.str x
 |_=>.non
mutual
def eqD:D->D->Bool
 |.non,.non=>true
 |.bl a,.bl b=>a==b
 |.bl a,.int b=>(if a then 1 else 0)==b
 |.int a,.bl b=>a==(if b then 1 else 0)
 |.int a,.int b=>a==b
 |.str a,.str b=>a==b
 |.tup as,.tup bs=>j6 as bs
 |.lst as,.lst bs=>j6 as bs
 |_,_=>false
def j6:List D->List D->Bool
 |[],[]=>true
 |a::as,b::bs=>eqD a b&&j6 as bs
 |_,_=>false
end
def okD:Nat->D->Bool
 |_,.non=>true
 |_,.bl _=>true
 |_,.int _=>true
 |_,.str _=>true
 |n+1,.tup ds=>ds.all (okD n)
 |n+1,.lst ds=>ds.all (okD n)
 |_,_=>false
def lsD (st:Sto):W->Option (List D)
 |.d (.lst ds)=>some ds
 |.h n=>lg st n
 |_=>none
def bu (st:Sto) (x y:W):Option D:=match x,y with
 |.d (.int i),.d (.int j)=>some (.int (i+j))
 |.d (.tup a),.d (.tup b)=>if a.length+b.length<=1000000 then some (.tup (a++b)) else none
 |.d (.str a),.d (.str b)=>if a.length+b.length<=1000000 then some (.str (a++b)) else none
 |x,y=>(lsD st x).bind λa=>(lsD st y).bind λb=>if a.length+b.length<=1000000 then some (.lst (a++b)) else none
def qk (_:Sto):W->W->Option D
 |.d (.int i),.d (.int j)=>some (.int (i - j))
 |_,_=>none
instance (a b:Int):Decidable (qfT a b):=by unfold qfT;infer_instance
def bO (_:Sto):W->W->Option D
 |.d (.int i),.d (.int j)=>if qfT i j then some (.int (i*j)) else none
 |.d (.tup a),.d (.int k)=>if a≠[]/\a.length<=1000/\1<=k/\k<1000 then some (.tup (qaB k.toNat a).flatten) else none
 |.d (.lst a),.d (.int k)=>if a.length<=1000/\-1000<=k/\k<1000 then some (.lst (qaB k.toNat a).flatten) else none
 |_,_=>none
def ny (_:Sto):W->W->Option D
 |.d (.int i),.d (.int j)=>if 0<j/\j<1073741824 then some (.int (i / j)) else none
 |_,_=>none
def jM (_:Sto):W->W->Option D
 |.d (.int i),.d (.int j)=>if 0<j then some (.int (i%j)) else none
 |_,_=>none
instance (i j:Int):Decidable (uf i j):=by unfold uf;infer_instance
def pN (_:Sto):W->W->Option D
 |.d (.int i),.d (.int j)=>if uf i j then some (.int (i^j.toNat)) else none
 |_,_=>none
def dLt (_:Sto):W->W->Option D
 |.d (.int i),.d (.int j)=>some (.bl (decide (i<j)))
 |_,_=>none
def dLe (_:Sto):W->W->Option D
 |.d (.int i),.d (.int j)=>some (.bl (decide (i<=j)))
 |_,_=>none
def dGt (_:Sto):W->W->Option D
 |.d (.int i),.d (.int j)=>some (.bl (decide (j<i)))
 |_,_=>none
def dGe (_:Sto):W->W->Option D
 |.d (.int i),.d (.int j)=>some (.bl (decide (j<=i)))
 |_,_=>none
def wx:D->Bool
 |.non=>true
 |_=>false
def iy (_:Sto):W->W->Option D
 |.d x,.d .non=>some (.bl (wx x))
 |_,_=>none
def zO (_:Sto):W->W->Option D
 |.d x,.d .non=>some (.bl (!wx x))
 |_,_=>none
def inD (x:D) (ds:List D):Bool:=ds.any λy=>eqD y x
def dIn (st:Sto) (x y:W):Option D:=match x with
 |.d x=>(iZ st y).bind λds=>if dR x=true/\ds.all dR=true then some (.bl (inD x ds)) else none
 |_=>none
def ux (st:Sto) (x y:W):Option D:=match x with
 |.d x=>(iZ st y).bind λds=>if dR x=true/\ds.all dR=true then some (.bl (!inD x ds)) else none
 |_=>none
section
variable {K:qad}{X:Cx}
theorem hJ {H:Hp}{φ:List Addr}{d:D}{v:V} (h:dR d=true) (r:Rl K H φ d v):v=vOf d/\iq v=true:=by
 cases d with
 |non=>cases (show v=.non from r);exact⟨rfl,rfl⟩
 |bl b=>cases (show v=.bl b from r);exact⟨rfl,rfl⟩
 |int b=>cases (show v=.int b from r);exact⟨rfl,rfl⟩
 |str b=>cases (show v=.str b from r);exact⟨rfl,rfl⟩
 |_=>cases h
theorem pJ {a b:D} (ha:dR a=true) (hb:dR b=true):eqV (vOf a) (vOf b)=eqD a b:=by
 cases a<;>cases b<;>first|rfl|(cases ha;done)|(cases hb;done)|(simp[eqV,vOf,eqD];done)
theorem nZ {H:Hp}{φ:List Addr}:∀ {ds:List D}{vs:List V},ds.all dR=true->Rls K H φ ds vs->vs=ds.map vOf/\vs.all iq=true
 |[],_,_,h=>by cases h;exact⟨rfl,rfl⟩
 |d::ds,_,h,r=>by
  rw[qbD,qa4]at h
  obtain⟨v,vr,rfl,r1,r2⟩:=r
  obtain⟨e1,e2⟩:=hJ h.1 r1
  obtain⟨e3,e4⟩:=nZ h.2 r2
  exact⟨by rw[e1,e3];rfl,by rw[qbD,e2,e4];rfl⟩
theorem qM {x:D} (hx:dR x=true):∀ {ds:List D},ds.all dR=true->inV (vOf x) (ds.map vOf)=inD x ds
 |[],_=>rfl
 |d::ds,h=>by
  rw[qbD,qa4]at h
  have ih:=qM hx h.2
  unfold inV inD at ih ⊢
  rw[qay,qdw,qdw,ih,pJ h.1 hx]
theorem iW {f:Value->Value->Sem Value}{g:Sto->W->W->Option D} (h:∀ st x y d,g st x y=some d->∃ i j,x=.d (.int i)/\y=.d (.int j)/\OpR X f (λvx vy H Q=>vx=.int i/\vy=.int j/\Q (vOf d) H)/\dR d=true):OpD K X f g:=by
 refine⟨λst x y d hd=>?_⟩
 obtain⟨i,j,rfl,rfl,ho,hf⟩:=h st x y d hd
 refine ho.imp ?_
 rintro vx vy H Q ⟨φ,S,r1,r2,q⟩
 refine⟨r1,r2,q _ H (bv.refl H) ?_⟩
 cases d<;>first|rfl|cases hf
theorem nk:OpD K X (qbC .Sub) qk:=iW λst x y d h=>by
 match x,y,h with
 |.d (.int i),.d (.int j),h=>cases h;exact⟨i,j,rfl,rfl,AU.imp λvx vy H Q ⟨a,b,q⟩=>⟨i,j,a,b,q⟩,rfl⟩
theorem ng:OpD K X (qbv .Lt) dLt:=iW λst x y d h=>by
 match x,y,h with
 |.d (.int i),.d (.int j),h=>cases h;exact⟨i,j,rfl,rfl,BV.imp λvx vy H Q ⟨a,b,q⟩=>⟨i,j,a,b,q⟩,rfl⟩
theorem zJ:OpD K X (qbv .LtE) dLe:=iW λst x y d h=>by
 match x,y,h with
 |.d (.int i),.d (.int j),h=>cases h;exact⟨i,j,rfl,rfl,B0.imp λvx vy H Q ⟨a,b,q⟩=>⟨i,j,a,b,q⟩,rfl⟩
theorem oZ:OpD K X (qbv .Gt) dGt:=iW λst x y d h=>by
 match x,y,h with
 |.d (.int i),.d (.int j),h=>cases h;exact⟨i,j,rfl,rfl,CT.imp λvx vy H Q ⟨a,b,q⟩=>⟨i,j,a,b,q⟩,rfl⟩
theorem qW:OpD K X (qbv .GtE) dGe:=iW λst x y d h=>by
 match x,y,h with
 |.d (.int i),.d (.int j),h=>cases h;exact⟨i,j,rfl,rfl,B4.imp λvx vy H Q ⟨a,b,q⟩=>⟨i,j,a,b,q⟩,rfl⟩
theorem ve:OpD K X (qbC .FloorDiv) ny:=iW λst x y d h=>by
 match x,y,h with
 |.d (.int i),.d (.int j),h=>
  simp only[ny]at h
  split at h
  ·rename_i hc
   cases h;exact⟨i,j,rfl,rfl,yZ.imp λvx vy H Q ⟨a,b,q⟩=>⟨i,j,a,b,hc,q⟩,rfl⟩
  ·cases h
theorem jQ:OpD K X (qbC .Mod) jM:=iW λst x y d h=>by
 match x,y,h with
 |.d (.int i),.d (.int j),h=>
  simp only[jM]at h
  split at h
  ·rename_i hc
   cases h;exact⟨i,j,rfl,rfl,AX.imp λvx vy H Q ⟨a,b,q⟩=>⟨i,j,a,b,hc,q⟩,rfl⟩
  ·cases h
theorem wD:OpD K X (qbC .Pow) pN:=iW λst x y d h=>by
 match x,y,h with
 |.d (.int i),.d (.int j),h=>
  simp only[pN]at h
  split at h
  ·rename_i hc
   cases h;exact⟨i,j,rfl,rfl,Aj.imp λvx vy H Q ⟨a,b,q⟩=>⟨i,j,a,b,hc,q⟩,rfl⟩
  ·cases h
theorem xu {H:Hp}{φ:List Addr}{d:D}{v:V} (r:Rl K H φ d v):decide (v=.non)=wx d:=by
 cases d with
 |non=>cases (show v=.non from r);rfl
 |bl b=>cases (show v=.bl b from r);rfl
 |int b=>cases (show v=.int b from r);rfl
 |str b=>cases (show v=.str b from r);rfl
 |ty b=>cases (show v=.ty b from r);rfl
 |dct=>obtain⟨a,rfl,_⟩:=r;rfl
 |scr ns=>obtain⟨a,rfl,_⟩:=r;rfl
 |tup ds=>obtain⟨a,vs,rfl,_⟩:=r;rfl
 |lst ds=>obtain⟨a,vs,rfl,_⟩:=r;rfl
 |ob ns ds=>obtain⟨a,_,_,_,vs,rfl,_⟩:=r;rfl
theorem iu:OpD K X (qbv .Is) iy:=by
 refine⟨λst x y d h=>?_⟩
 match x,y,h with
 |.d x,.d .non,h=>
  cases h
  refine A6.imp ?_
  rintro vx vy H Q ⟨φ,S,r1,r2,q⟩
  refine⟨r2,q _ H (bv.refl H) ?_⟩
  rw[xu r1];rfl
theorem zf:OpD K X (qbv .IsNot) zO:=by
 refine⟨λst x y d h=>?_⟩
 match x,y,h with
 |.d x,.d .non,h=>
  cases h
  refine za.imp ?_
  rintro vx vy H Q ⟨φ,S,r1,r2,q⟩
  refine⟨r2,q _ H (bv.refl H) ?_⟩
  rw[xu r1];rfl
theorem CS (hK:X.K=K:=by rfl):OpD K X (qbv .In) dIn:=by
 subst hK
 refine⟨λst x y d h=>?_⟩
 match x,h with
 |.d x,h=>
  simp only[dIn,qab]at h
  obtain⟨ds,hs,h⟩:=h
  split at h
  ·rename_i hc
   cases h
   refine wt.imp ?_
   rintro vx vy H Q ⟨φ,S,r1,r2,q⟩
   obtain⟨a,vs,rfl,h1,h2⟩:=jR S r2 hs
   obtain⟨e1,e2⟩:=hJ hc.1 r1
   obtain⟨e3,e4⟩:=nZ hc.2 h2
   refine⟨a,vs,rfl,h1,e2,e4,q _ H (bv.refl H) ?_⟩
   rw[e1,e3,qM hc.1 hc.2];rfl
  ·cases h
theorem x3 (hK:X.K=K:=by rfl):OpD K X (qbv .NotIn) ux:=by
 subst hK
 refine⟨λst x y d h=>?_⟩
 match x,h with
 |.d x,h=>
  simp only[ux,qab]at h
  obtain⟨ds,hs,h⟩:=h
  split at h
  ·rename_i hc
   cases h
   refine qj.imp ?_
   rintro vx vy H Q ⟨φ,S,r1,r2,q⟩
   obtain⟨a,vs,rfl,h1,h2⟩:=jR S r2 hs
   obtain⟨e1,e2⟩:=hJ hc.1 r1
   obtain⟨e3,e4⟩:=nZ hc.2 h2
   refine⟨a,vs,rfl,h1,e2,e4,q _ H (bv.refl H) ?_⟩
   rw[e1,e3,qM hc.1 hc.2];rfl
  ·cases h
end
end L2
namespace L2
open PySem PySem.Spec PyProof.Rows
section
variable {K:qad}{X:Cx}
theorem y4:OpR X (qbC .Add) (λx y H Q=>∃ l b xs zs,x=.ref l/\y=.ref b/\Rd H l (.lst xs)/\Rd H b (.lst zs)/\xs.length+zs.length<=qaS/\∀ p,H p=none->Q (.ref p) (upd H p (.lst (xs++zs)))):=by
 intro pins s σ H x y v u Q I rx ry h
 obtain⟨l,b,xs,zs,rfl,rfl,hH,hB,hz,q⟩:=h
 cases rx
 cases ry
 obtain⟨z,its,n,r,e⟩:=hH.ok I.hok
 obtain⟨z2,its2,n2,r2,e2⟩:=hB.ok I.hok
 have hl:=r.length
 have hl2:=r2.length
 refine PySem.P.add_list e e2 ?_ (by rw[qaz,qaz];lia)
 have ea:its.toArray++its2.toArray=(its++its2).toArray:=by simp
 rw[ea]
 exact⟨.ref _,_,I.lnew (t':=s.toks) (r.append r2) (by rw[qap];lia),rfl,q _ I.fresh⟩
theorem wO:OpR X (qbC .Add) (λx y H Q=>∃ a b xs ys,x=.ref a/\y=.ref b/\SqT X.K H a xs/\SqT X.K H b ys/\xs.length+ys.length<=qaS/\
  (xs=[]->Q (.ref b) H)/\(ys=[]->Q (.ref a) H)/\∀ p,H p=none->Q (.ref p) (upd H p (.tup (xs++ys)))):=by
 intro pins s σ H x y v u Q I rx ry h
 obtain⟨a,b,xs,ys,rfl,rfl,ha,hb,hz,q0,q1,q2⟩:=h
 by_cases hx:xs=[]
 ·cases rx
  cases ry
  obtain⟨its,r1,p1,_⟩:=I.tuple ha
  obtain⟨its2,r2,p2,_⟩:=I.tuple hb
  obtain⟨⟨cls,dd,data,sl⟩,ho,hc,n,hd⟩:=id p1
  obtain⟨⟨cls2,dd2,data2,sl2⟩,ho2,hc2,n2,hd2⟩:=id p2
  simp only at hc hd hc2 hd2
  subst hc hd hc2 hd2
  exact qga ⟨_,ho,rfl⟩ ⟨_,ho2,rfl⟩ qeY qfI qds qdp (qdd _ _)
   (tuple_addW0 a b its.toArray its2.toArray n n2 dd dd2 sl sl2 (by simp[r1.nil_iff.mpr hx])) ⟨ho,ho2,.ref b,H,I,rfl,q0 hx⟩
 ·exact zv pins s σ H _ _ v u Q I rx ry ⟨a,b,xs,ys,rfl,rfl,ha,hb,hx,hz,q1,λ_ p hp=>q2 p hp⟩
theorem qp {st:Sto}{H:Hp}{φ:List Addr}{w:W}{v:V}{ds:List D} (S:Sr K H φ st) (r:Rw K H φ w v) (e:lsD st w=some ds):∃ a vs,v=.ref a/\Rd H a (.lst vs)/\Rls K H φ ds vs:=by
 cases w with
 |h n=>
  obtain⟨a,ea,rfl⟩:=r
  obtain⟨vs,q,rl⟩:=S.atl n a ds ea e
  exact⟨a,vs,rfl,.inl q,rl⟩
 |d x=>
  cases x with
  |lst es=>cases e;obtain⟨a,vs,rfl,h0,h1,h2⟩:=r;exact⟨a,vs,rfl,h1,h2⟩
  |_=>cases e
theorem mil:(1000000:Nat)<=qaS:=by rw[qdJ];decide
theorem bn (hK:X.K=K:=by rfl):OpD K X (qbC .Add) bu:=by
 subst hK
 refine⟨λst x y d h=>?_⟩
 have lists:(lsD st x).bind (λa=>(lsD st y).bind λb=>if a.length+b.length<=1000000 then some (.lst (a++b)) else none)=some d->OpR X (qbC .Add) (rD X.K st x y d):=λh=>by
  simp only[qab]at h
  obtain⟨as,ha,bs,hb,h⟩:=h
  split at h
  ·rename_i hl
   cases h
   refine y4.imp ?_
   rintro vx vy H Q ⟨φ,S,r1,r2,q⟩
   obtain⟨a,us,rfl,h1,h2⟩:=qp S r1 ha
   obtain⟨b,vs,rfl,h3,h4⟩:=qp S r2 hb
   refine⟨a,b,us,vs,rfl,rfl,h1,h3,by rw[<-h2.length,<-h4.length];exact qa6 hl mil,λp hp=>q _ _ (bv.new hp _) ?_⟩
   exact⟨p,_,rfl,S.nin hp,.inl upd_same,(h2.append h4).fw S (Fw.new hp)⟩
  ·cases h
 match x,y,h with
 |.d (.int i),.d (.int j),h=>
  cases h
  refine An.imp ?_
  rintro vx vy H Q ⟨φ,S,r1,r2,q⟩
  exact⟨i,j,r1,r2,q _ H (bv.refl H) rfl⟩
 |.d (.tup as),.d (.tup bs),h=>
  simp only[bu]at h
  split at h
  ·rename_i hl
   cases h
   refine wO.imp ?_
   rintro vx vy H Q ⟨φ,S,⟨a,us,rfl,h1,h2⟩,⟨b,vs,rfl,h3,h4⟩,q⟩
   refine⟨a,b,us,vs,rfl,rfl,(SqT.of h1),(SqT.of h3),by rw[<-h2.length,<-h4.length];exact qa6 hl mil,λe=>?_,λe=>?_,λp hp=>?_⟩
   ·subst e
    have:as=[]:=by cases as with|nil=>rfl|cons _ _=>cases h2.length
    subst this
    exact q _ H (bv.refl H) ⟨b,vs,rfl,h3,h4⟩
   ·subst e
    have:bs=[]:=by cases bs with|nil=>rfl|cons _ _=>cases h4.length
    subst this
    exact q _ H (bv.refl H) ⟨a,us,rfl,h1,by rw[qbO];exact h2⟩
   ·exact q _ _ (bv.new hp _) ⟨p,_,rfl,upd_same,(h2.append h4).fw S (Fw.new hp)⟩
  ·cases h
 |.d (.str as),.d (.str bs),h=>
  simp only[bu]at h
  split at h
  ·rename_i hl
   cases h
   refine uj.imp ?_
   rintro vx vy H Q ⟨φ,S,r1,r2,q⟩
   exact⟨as,bs,r1,r2,qa6 hl mil,q _ H (bv.refl H) rfl⟩
  ·cases h
 |.d (.lst as),y,h=>exact lists (by cases y with|h n=>exact h|d y=>cases y<;>exact h)
 |.h n,y,h=>exact lists (by cases y with|h n=>exact h|d y=>cases y<;>exact h)
theorem vE:OpR X (qbC .Mult) (λx y H Q=>∃ l k xs,x=.ref l/\y=.int k/\Rd H l (.lst xs)/\-(2 ^ 63)<=k/\k < 2 ^ 63/\xs.length*k.toNat<=qaS/\
 ∀ p,H p=none->Q (.ref p) (upd H p (.lst (qaB k.toNat xs).flatten))):=by
 intro pins s σ H x y v u Q I rx ry h
 obtain⟨l,k,xs,rfl,rfl,hH,h1,h2,hz,q⟩:=h
 cases rx
 obtain⟨t,rfl⟩:=ry
 obtain⟨z,its,n,r,e⟩:=hH.ok I.hok
 have hl:=r.length
 have hlen:its.toArray.size*k.toNat<=qaS:=by rw[qaz,<-hl];exact hz
 have hcap:¬ its.toArray.size*k.toNat > (2^63 - 1) / 8:=by
  have:(qaS:Nat)<=(2^63 - 1) / 8:=by decide
  lia
 have hfit:¬ (!Builtin.List.listFitsIndex k)=true:=by
  rw[qia h1 h2]
  exact qaH
 have hlong:¬ qc2 (its.toArray.size*k.toNat)=true:=by
  rw[xO hlen]
  exact qaH
 have hnew:qe1 (λx1 x2=>x1++x2) #[] (qaB (if its.toArray.isEmpty=true then 0 else k.toNat) its.toArray)=(qaB k.toNat its).flatten.toArray:=by
  have f0:∀ m:Nat,qe1 (λx1 x2=>x1++x2) #[] (qaB m its.toArray)=(qaB m its).flatten.toArray:=λm=>by
   have:=lp its m []
   rw[qcf]at this
   exact this
  rw[f0]
  cases its with
  |nil=>simp
  |cons a r'=>rw[if_neg (by simp)]
 refine qfo (T:="list") (U:="int") (by decide) ⟨_,e,rfl⟩ (λs'=>qeK s' k t) noFill_list_mul qgY qdS repeat_list qgK.lookup
  (qcN qdS (qeK s k t) qgM (qgD _ _) (int___rmul___int_list k t l its.toArray n)
    ⟨e,rfl,⟨_,e,rfl⟩,qcN F.slot_list_mul ⟨_,e,rfl⟩ F.entry_list_mul (F.args_list_mul_2 _ _) (AutoListH.list___mul___list_int_3 l its.toArray n k t hfit hcap hlong) ⟨e,?_⟩⟩)
 rw[hnew]
 exact⟨.ref _,_,I.lnew (t':=s.toks) (r.rep k.toNat) (by rw[pS,qfr];exact hz),rfl,q _ I.fresh⟩
theorem bB (hK:X.K=K:=by rfl):OpD K X (qbC .Mult) bO:=by
 subst hK
 refine⟨λst x y d h=>?_⟩
 match x,y,h with
 |.d (.int i),.d (.int j),h=>
  simp only[bO]at h
  split at h
  ·rename_i hl
   cases h
   refine yT.imp ?_
   rintro vx vy H Q ⟨φ,S,r1,r2,q⟩
   exact⟨i,j,r1,r2,hl,q _ H (bv.refl H) rfl⟩
  ·cases h
 |.d (.tup as),.d (.int k),h=>
  simp only[bO]at h
  split at h
  ·rename_i hl
   cases h
   refine yH.imp ?_
   rintro vx vy H Q ⟨φ,S,⟨a,us,rfl,h1,h2⟩,r2,q⟩
   have hne:us≠[]:=by rintro rfl;cases as with|nil=>exact hl.1 rfl|cons _ _=>cases h2.length
   refine⟨a,k,us,rfl,r2,(SqT.of h1),hne,by rw[<-h2.length];exact hl.2.1,hl.2.2.1,hl.2.2.2,λe=>?_,λ_ p hp=>?_⟩
   ·subst e
    exact q _ H (bv.refl H) ⟨a,us,rfl,h1,by simpa using h2⟩
   ·exact q _ _ (bv.new hp _) ⟨p,_,rfl,upd_same,(h2.rep _).fw S (Fw.new hp)⟩
  ·cases h
 |.d (.lst as),.d (.int k),h=>
  simp only[bO]at h
  split at h
  ·rename_i hl
   cases h
   refine vE.imp ?_
   rintro vx vy H Q ⟨φ,S,⟨a,us,rfl,h0,h1,h2⟩,r2,q⟩
   refine⟨a,k,us,rfl,r2,h1,by lia,by lia,?_,λp hp=>?_⟩
   ·rw[<-h2.length]
    have:as.length*k.toNat<=1000*1000:=qcv hl.1 (by lia)
    exact qa6 this mil
   ·exact q _ _ (bv.new hp _) ⟨p,_,rfl,S.nin hp,.inl upd_same,(h2.rep _).fw S (Fw.new hp)⟩
  ·cases h
def dIx (st:Sto) (x y:W):Option D:=match x,y with
 |.d (.str z),.d (.int i)=>if z.length<=1000000 then (atI z.cps.toList i).map λc=>.str ⟨#[c]⟩ else none
 |x,.d (.int i)=>(iZ st x).bind λds=>atI ds i
 |_,_=>none
theorem Ac {H:Hp}{φ:List Addr}{ds:List D}{vs:List V}{i:Int}{d:D} (r:Rls K H φ ds vs) (e:atI ds i=some d):∃ v,atI vs i=some v/\Rl K H φ d v:=by
 unfold atI at e ⊢
 rw[<-r.length]
 obtain⟨j,e1,e2⟩:=qab.mp e
 obtain⟨v,ev,rv⟩:=r.get e2
 exact⟨v,by rw[e1];exact ev,rv⟩
theorem IxR.imp {r r':R2} (h:IxR X r) (m:∀ x y H Q,r' x y H Q->r x y H Q):IxR X r':=λvalue slice pins s σ H x y v u Q I rx ry q hs=>h value slice pins s σ H x y v u Q I rx ry (m _ _ _ _ q) hs
theorem Cn (st:Sto) (x y:W) (d:D) (h:dIx st x y=some d) (hK:X.K=K):IxR X (rD K st x y d):=by
 subst hK
 match y,h with
 |.d (.int i),h=>
  have seq:(iZ st x).bind (λds=>atI ds i)=some d->IxR X (rD X.K st x (.d (.int i)) d):=λh=>by
   obtain⟨ds,e1,e2⟩:=qab.mp h
   refine uh.imp ?_
   rintro vx vy H Q ⟨φ,S,r1,r2,q⟩
   obtain⟨a,vs,rfl,h1,h2⟩:=jR S r1 e1
   obtain⟨v,ev,rv⟩:=Ac h2 e2
   rcases h1 with h1|h1
   ·exact .inl ⟨a,vs,i,v,rfl,r2,h1,ev,q _ H (bv.refl H) rv⟩
   ·exact .inr (.inl ⟨a,vs,i,v,rfl,r2,h1,ev,q _ H (bv.refl H) rv⟩)
  match x,h with
  |.d (.str z),h=>
   simp only[dIx]at h
   split at h
   ·rename_i hl
    obtain⟨c,e1,rfl⟩:=qae.mp h
    refine uh.imp ?_
    rintro vx vy H Q ⟨φ,S,r1,r2,q⟩
    exact .inr (.inr ⟨z,i,c,r1,r2,qa6 hl mil,e1,q _ H (bv.refl H) rfl⟩)
   ·cases h
  |.d (.tup z),h=>exact seq h
  |.d (.lst z),h=>exact seq h
  |.d (.scr z),h=>exact seq h
  |.h z,h=>exact seq h
 |.d .non,h=>cases x with|h n=>cases h|d x=>cases x<;>cases h
 |.d (.ob _ _),h=>cases x with|h n=>cases h|d x=>cases x<;>cases h
 |.d (.bl _),h=>cases x with|h n=>cases h|d x=>cases x<;>cases h
 |.d (.str _),h=>cases x with|h n=>cases h|d x=>cases x<;>cases h
 |.d (.ty _),h=>cases x with|h n=>cases h|d x=>cases x<;>cases h
 |.d (.scr _),h=>cases x with|h n=>cases h|d x=>cases x<;>cases h
 |.d .dct,h=>cases x with|h n=>cases h|d x=>cases x<;>cases h
 |.d (.tup _),h=>cases x with|h n=>cases h|d x=>cases x<;>cases h
 |.d (.lst _),h=>cases x with|h n=>cases h|d x=>cases x<;>cases h
 |.h _,h=>cases x with|h n=>cases h|d x=>cases x<;>cases h
variable {e a b:Expr}{pos p2:Pos}{f fa fb:Ef}
theorem av (ha:IE K X a fa) (hb:IE K X b fb) (hs:pV b=true:=by rfl) (hK:X.K=K:=by rfl):IE K X (.Subscript a b pos) (iOp dIx fa fb):=by
 refine⟨λenv st r hr=>?_⟩
 simp only[iOp,qab,qae]at hr
 obtain⟨x,hx,y,hy,d,hd,rfl⟩:=hr
 exact (zK (Cn _ _ _ _ hd hK) (ha.run _ _ _ hx) (hb.run _ _ _ hy) (qX hs)).imp λσ H Q h=>pY h
abbrev Pf:=Ev->Sto->Option (Option Int×Sto)
def iPn:Pf
 |_,st=>some (none,st)
def A9:W->Option Int
 |.d (.int i)=>some i
 |_=>none
theorem wc {w:W}{i:Int} (h:A9 w=some i):w=.d (.int i):=by
 cases w with
 |h n=>cases h
 |d x=>cases x<;>first|(cases h;done)|(injection h with h;subst h;rfl)
def iPs (f:Ef):Pf
 |env,st=>(f env st).bind λr=>(A9 r.1).map λi=>(some i,r.2)
def tIO (K:qad) (env:Ev) (st:Sto) (r:Option Int×Sto):TO:=λσ H Q=>∃ φ,Er K H φ env σ/\Sr K H φ st/\∀ H' φ',Fw φ φ' H H'->Sr K H' φ' r.2->Q r.1 H'
structure IO (K:qad) (X:Cx) (e:Option Expr) (f:Pf):Prop where
 run:∀ env st r,f env st=some r->PO X e (tIO K env st r)
theorem PO.imp {e:Option Expr}{t t':TO} (h:PO X e t) (m:∀ σ H Q,t' σ H Q->t σ H Q):PO X e t':=λpins s σ H Q I q=>h pins s σ H Q I (m σ H Q q)
theorem ig:IO K X none iPn:=by
 refine⟨λenv st r hr=>?_⟩
 cases hr
 exact yw.imp λσ H Q ⟨φ,hE,hS,q⟩=>q H φ (Fw.refl φ H) hS
theorem hZ (h:IE K X e f):IO K X (some e) (iPs f):=by
 refine⟨λenv st r hr=>?_⟩
 simp only[iPs,qab,qae]at hr
 obtain⟨⟨x,s1⟩,hx,i,hi,rfl⟩:=hr
 cases wc hi
 refine (yM (h.run _ _ _ hx)).imp ?_
 rintro σ H Q ⟨φ,hE,hS,q⟩
 exact⟨φ,hE,hS,λv H1 φ1 f1 s1 w1=>⟨i,w1,q H1 φ1 f1 s1⟩⟩
def kI (xs:List D) (lo hi:Option Int):List D:=(xs.drop (HT.sIx xs.length 0 lo)).take (HT.sIx xs.length xs.length hi - HT.sIx xs.length 0 lo)
theorem uU {H:Hp}{φ:List Addr}{ds:List D}{vs:List V} (r:Rls K H φ ds vs) (lo hi:Option Int):Rls K H φ (kI ds lo hi) (pO vs lo hi):=by
 unfold kI pO
 rw[r.length]
 exact (r.drop _).take _
def dSl (st:Sto) (x:W) (lo hi:Option Int):Option D:=match x with
 |.d (.tup ds)=>some (.tup (kI ds lo hi))
 |.d (.lst ds)=>some (.lst (kI ds lo hi))
 |.h n=>(lg st n).map λds=>.lst (kI ds lo hi)
 |.d (.scr ns)=>some (.lst (kI (ns.map D.int) lo hi))
 |_=>none
def iSl (f:Ef) (lo hi:Pf):Ef
 |env,st=>(f env st).bind λx=>(lo env x.2).bind λl=>(hi env l.2).bind λu=>(dSl u.2 x.1 l.1 u.1).map λd=>(.d d,u.2)
theorem lS {lo hi:Option Expr}{fl fh:Pf} (h:IE K X e f) (hl:IO K X lo fl) (hh:IO K X hi fh) (hK:X.K=K:=by rfl):IE K X (.Subscript e (.Slice lo hi none p2) pos) (iSl f fl fh):=by
 subst hK
 refine⟨λenv st r hr=>?_⟩
 simp only[iSl,qab,qae]at hr
 obtain⟨⟨x,s1⟩,hx,l,hl',u,hu',d,hd,rfl⟩:=hr
 have list:(∀ {H:Hp}{φ:List Addr}{v:V},Sr X.K H φ u.2->Rw X.K H φ x v->∃ a vs ds,v=.ref a/\SqL X.K H a vs/\Rls X.K H φ ds vs/\d=.lst (kI ds l.1 u.1))->PE X (.Subscript e (.Slice lo hi none p2) pos) (tI X.K env st (.d d,u.2)):=λhq=>by
  refine (so zx (h.run _ _ _ hx) (hl.run _ _ _ hl') (hh.run _ _ _ hu')).imp ?_
  rintro σ H Q ⟨φ,hE,hS,q⟩
  refine⟨φ,hE,hS,λv H1 φ1 f1 s1 w1=>⟨φ1,hE.fw hS f1,s1,λH2 φ2 f2 s2=>⟨φ2,(hE.fw hS f1).fw s1 f2,s2,λH3 φ3 f3 s3=>?_⟩⟩⟩
  obtain⟨a,vs,ds,rfl,h1,h2,rfl⟩:=hq s3 ((w1.fw s1 f2).fw s2 f3)
  refine⟨a,vs,rfl,h1,λp hp=>q _ _ φ3 (((f1.trans f2).trans f3).trans (Fw.new hp)) (s3.new hp) ?_⟩
  exact⟨p,_,rfl,s3.nin hp,.inl upd_same,(uU h2 _ _).fw s3 (Fw.new hp)⟩
 match x,hd with
 |.d (.tup ds),hd=>
  cases hd
  refine (so (BC (K:=X.K) rfl) (h.run _ _ _ hx) (hl.run _ _ _ hl') (hh.run _ _ _ hu')).imp ?_
  rintro σ H Q ⟨φ,hE,hS,q⟩
  refine⟨φ,hE,hS,λv H1 φ1 f1 s1 w1=>⟨φ1,hE.fw hS f1,s1,λH2 φ2 f2 s2=>⟨φ2,(hE.fw hS f1).fw s1 f2,s2,λH3 φ3 f3 s3=>?_⟩⟩⟩
  obtain⟨a,vs,rfl,h1,h2⟩:=(w1.fw s1 f2).fw s2 f3
  refine⟨a,vs,rfl,(SqT.of h1),?_⟩
  by_cases hc:HT.sIx vs.length 0 l.1=0/\HT.sIx vs.length vs.length u.1=vs.length
  ·refine .inr ⟨hc,q _ _ φ3 ((f1.trans f2).trans f3) s3 ⟨a,vs,rfl,h1,?_⟩⟩
   have e:kI ds l.1 u.1=ds:=by
    unfold kI
    rw[h2.length,hc.1,hc.2,qgy,qhQ,<-h2.length,qcY]
   rw[e]
   exact h2
  ·exact .inl ⟨hc,λp hp=>q _ _ φ3 (((f1.trans f2).trans f3).trans (Fw.new hp)) (s3.new hp) ⟨p,_,rfl,upd_same,(uU h2 _ _).fw s3 (Fw.new hp)⟩⟩
 |.d (.lst ds),hd=>
  cases hd
  refine list λ{H φ v} S w=>?_
  obtain⟨a,vs,rfl,h0,h1,h2⟩:=w
  exact⟨a,vs,ds,rfl,.inl h1,h2,rfl⟩
 |.d (.scr ns),hd=>
  cases hd
  refine list λ{H φ v} S w=>?_
  obtain⟨a,rfl,h⟩:=w
  refine⟨a,_,_,rfl,?_,Rls.of_ints ns,rfl⟩
  rcases h with⟨o,h⟩|h
  ·exact .inl (.inr ⟨o,h⟩)
  ·exact .inr h
 |.h n,hd=>
  obtain⟨ds,e1,rfl⟩:=qae.mp hd
  refine list λ{H φ v} S w=>?_
  obtain⟨a,ea,rfl⟩:=w
  obtain⟨vs,q,rl⟩:=S.atl n a ds ea e1
  exact⟨a,vs,ds,rfl,SqL.of q,rl,rfl⟩
end
section
variable {K:qad}{X:Cx}{pins:List (Addr×Obj)}{σ:St}{H:Hp}{s:qam}{φ:List Addr}{st:Sto}
theorem gC:∀ (xs ys:List D),((qac (min xs.length ys.length)).all (λj=>eqD (xs.getD j .non) (ys.getD j .non))&&xs.length==ys.length)=j6 xs ys
 |[],[]=>rfl
 |[],y::ys=>by simp[j6]
 |x::xs,[]=>by simp[j6]
 |x::xs,y::ys=>by
  show ((qac (min (xs.length+1) (ys.length+1))).all (λj=>eqD ((x::xs).getD j .non) ((y::ys).getD j .non))&&(xs.length+1==ys.length+1))=(eqD x y&&j6 xs ys)
  rw[show min (xs.length+1) (ys.length+1)=min xs.length ys.length+1 by lia,nw,<-gC xs ys]
  have e:(xs.length+1==ys.length+1)=(xs.length==ys.length):=by rw[qcJ];simp
  rw[e,Bool.and_assoc]
  rfl
theorem j7 {xs ys:List D} (h:xs.length=ys.length):(qac xs.length).all (λj=>eqD (xs.getD j .non) (ys.getD j .non))=j6 xs ys:=by
 rw[<-gC xs ys,<-h,Nat.min_self];simp
theorem rd:∀ {xs ys:List D},xs.length≠ys.length->j6 xs ys=false
 |[],[],h=>absurd rfl h
 |[],_::_,_=>rfl
 |_::_,[],_=>rfl
 |x::xs,y::ys,h=>by
  show (eqD x y&&j6 xs ys)=false
  rw[rd (by intro e;apply h;rw[qat,qat,e]),Bool.and_false]
theorem yz (I:Inv X pins σ H s) {a:Addr}{vs ws:List V} (h:Rd H a (.lst vs)) (h':Rd H a (.lst ws)):vs=ws:=I.list_inj (.inl h) (.inl h')
theorem vF (I:Inv X pins σ H s):∀ (n:Nat) {d e:D}{v:V},Rl X.K H φ d v->Rl X.K H φ e v->okD n d=true->okD n e=true->eqD d e=true:=by
 intro n
 induction n with
 |zero=>
  intro d e v r1 r2 o1 o2
  cases d<;>first|(cases o1;done)|skip
  all_goals (cases e<;>first|(cases o2;done)|skip)
  all_goals (first|rfl|(cases r1.symm.trans r2;done)|(cases r1.symm.trans r2;simp[eqD]))
 |succ n ih=>
  have lists:∀ {ds es:List D}{vs:List V},Rls X.K H φ ds vs->Rls X.K H φ es vs->(∀ d∈ds,okD n d=true)->(∀ d∈es,okD n d=true)->j6 ds es=true:=by
   intro ds
   induction ds with
   |nil=>
    intro es vs r1 r2 _ _
    cases r1
    cases es with
    |nil=>rfl
    |cons e es=>obtain⟨_,_,q,_⟩:=r2;cases q
   |cons d ds ihd=>
    intro es vs r1 r2 o1 o2
    obtain⟨v,r,rfl,a1,a2⟩:=r1
    cases es with
    |nil=>cases r2
    |cons e es=>
     obtain⟨v',r',q,b1,b2⟩:=r2
     cases q
     show (eqD d e&&j6 ds es)=true
     rw[ih a1 b1 (o1 d qaf) (o2 e qaf),ihd a2 b2 (λx hx=>o1 x (qal _ hx)) (λx hx=>o2 x (qal _ hx))]
     rfl
  intro d e v r1 r2 o1 o2
  cases d with
  |tup ds=>
   obtain⟨a,vs,rfl,h1,h2⟩:=r1
   cases e with
   |tup es=>
    obtain⟨b,us,q,h3,h4⟩:=r2
    cases q
    rw[I.tuple_inj (SqT.of h3) (SqT.of h1)]at h4
    exact lists h2 h4 (qa3.mp o1) (qa3.mp o2)
   |lst es=>
    obtain⟨b,us,q,_,h3,h4⟩:=r2
    cases q
    obtain⟨_,_,p1,_⟩:=I.tuple (SqT.of h1)
    obtain⟨_,_,p2,_⟩:=I.list (.inl h3)
    exact absurd rfl (qe4 p2.isList p1)
   |_=>first|(cases o2;done)|(cases r2;done)
  |lst ds=>
   obtain⟨a,vs,rfl,h0,h1,h2⟩:=r1
   cases e with
   |lst es=>
    obtain⟨b,us,q,_,h3,h4⟩:=r2
    cases q
    rw[yz I h3 h1]at h4
    exact lists h2 h4 (qa3.mp o1) (qa3.mp o2)
   |tup es=>
    obtain⟨b,us,q,h3,h4⟩:=r2
    cases q
    obtain⟨_,_,p1,_⟩:=I.tuple (SqT.of h3)
    obtain⟨_,_,p2,_⟩:=I.list (.inl h1)
    exact absurd rfl (qe4 p2.isList p1)
   |_=>first|(cases o2;done)|(cases r2;done)
  |non=>cases e<;>first|rfl|(cases o2;done)|(cases r1.symm.trans r2;done)|(cases r1;obtain⟨_,_,q,_⟩:=r2;cases q)
  |bl b=>cases e<;>first|(cases o2;done)|(cases r1.symm.trans r2;simp[eqD];done)|(cases r1.symm.trans r2;done)|(cases r1;obtain⟨_,_,q,_⟩:=r2;cases q)
  |int b=>cases e<;>first|(cases o2;done)|(cases r1.symm.trans r2;simp[eqD];done)|(cases r1.symm.trans r2;done)|(cases r1;obtain⟨_,_,q,_⟩:=r2;cases q)
  |str b=>cases e<;>first|(cases o2;done)|(cases r1.symm.trans r2;simp[eqD];done)|(cases r1.symm.trans r2;done)|(cases r1;obtain⟨_,_,q,_⟩:=r2;cases q)
  |ty b=>cases o1
  |scr b=>cases o1
  |dct=>cases o1
  |ob _ _=>cases o1
theorem gu {ds:List D}{vs:List V}{us:List Value} (r:Rls K H φ ds vs) (rv:bf vs us):∀ (j:Nat) (h:j<us.length),∃ v,Rl K H φ (ds.getD j .non) v/\bJ v us[j]/\ds.getD j .non∈ds:=by
 intro j h
 obtain⟨h',q⟩:=rv.at j h
 have hd:j<ds.length:=by rw[r.length];exact h'
 have e:ds[j]?=some ds[j]:=qaL hd
 obtain⟨v,ev,rl⟩:=r.get e
 rw[qaL h']at ev
 cases ev
 refine⟨_,?_,q,?_⟩
 ·rw[qeF,e];exact rl
 ·rw[qeF,e];exact qew hd
theorem AT (I:Inv X pins σ H s):∀ (n:Nat) {A:qbd}{d e:D}{v u:V}{vv uu:Value},Rl X.K H φ d v->Rl X.K H φ e u->bJ v vv->bJ u uu->okD n d=true->okD n e=true->A.units+n<cLine->qdo A s vv uu (eqD d e):=by
 have flat:∀ {A:qbd}{d e:D}{v u:V}{vv uu:Value},dR d=true->dR e=true->Rl X.K H φ d v->Rl X.K H φ e u->bJ v vv->bJ u uu->qdo A s vv uu (eqD d e):=by
  intro A d e v u vv uu f1 f2 r1 r2 q1 q2
  obtain⟨e1,g1⟩:=hJ f1 r1
  obtain⟨e2,g2⟩:=hJ f2 r2
  rw[<-pJ f1 f2,<-e1,<-e2]
  exact yp q1 q2 g1 g2
 intro n
 induction n with
 |zero=>
  intro A d e v u vv uu r1 r2 q1 q2 o1 o2 hu
  refine flat ?_ ?_ r1 r2 q1 q2
  ·cases d<;>first|rfl|cases o1
  ·cases e<;>first|rfl|cases o2
 |succ n ih=>
  intro A d e v u vv uu r1 r2 q1 q2 o1 o2 hu
  have hu0:A.units<cLine:=by lia
  have hu1:A.in1.units+n<cLine:=by show A.units+1+n<cLine;lia
  cases d with
  |tup ds=>
   obtain⟨a,vs,rfl,h1,h2⟩:=r1
   cases q1
   obtain⟨its,rv,p1,_⟩:=I.tuple (SqT.of h1)
   cases e with
   |tup es=>
    obtain⟨b,us,rfl,h3,h4⟩:=id r2
    cases q2
    by_cases hab:a=b
    ·subst hab
     rw[vF I (n+1) (d:=.tup ds) ⟨a,vs,rfl,h1,h2⟩ r2 o1 o2]
     exact qea _
    ·obtain⟨its2,rv2,p2,_⟩:=I.tuple (SqT.of h3)
     have z:=qdN (A:=A) (e:=λj=>eqD (ds.getD j .non) (es.getD j .non)) p1 p2 hu0 λj g1 g2=>by
      obtain⟨v1,k1,k2,k3⟩:=gu h2 rv j (by simpa using g1)
      obtain⟨v2,k4,k5,k6⟩:=gu h4 rv2 j (by simpa using g2)
      exact ih k1 k4 (by simpa using k2) (by simpa using k5) (qa3.mp o1 _ k3) (qa3.mp o2 _ k6) hu1
     have e1:its.toArray.size=ds.length:=by simp[<-rv.length,h2.length]
     have e2:its2.toArray.size=es.length:=by simp[<-rv2.length,h4.length]
     rw[e1,e2,gC]at z
     exact qdE hab z
   |lst es=>
    obtain⟨b,us,rfl,_,h3,h4⟩:=id r2
    cases q2
    obtain⟨its2,rv2,p2,_⟩:=I.list (.inl h3)
    exact qiN p1 p2.isList hu0
   |non=>cases r2;cases q2;exact qiM p1 hu0
   |bl x=>cases r2;cases q2;exact qiP x p1 hu0
   |int x=>cases r2;obtain⟨t,rfl⟩:=q2;exact qiO x t p1 hu0
   |str x=>cases r2;obtain⟨t,rfl⟩:=q2;exact qiL x t p1 hu0
   |ty _=>cases o2
   |scr _=>cases o2
   |dct=>cases o2
   |ob _ _=>cases o2
  |lst ds=>
   obtain⟨a,vs,rfl,h0,h1,h2⟩:=r1
   cases q1
   obtain⟨its,rv,p1,_⟩:=I.list (.inl h1)
   cases e with
   |lst es=>
    obtain⟨b,us,rfl,_,h3,h4⟩:=id r2
    cases q2
    by_cases hab:a=b
    ·subst hab
     rw[vF I (n+1) (d:=.lst ds) ⟨a,vs,rfl,h0,h1,h2⟩ r2 o1 o2]
     exact qea _
    ·obtain⟨its2,rv2,p2,_⟩:=I.list (.inl h3)
     have e1:its.toArray.size=ds.length:=by simp[<-rv.length,h2.length]
     have e2:its2.toArray.size=es.length:=by simp[<-rv2.length,h4.length]
     by_cases hl:ds.length=es.length
     ·have z:=qfb (A:=A) (e:=λj=>eqD (ds.getD j .non) (es.getD j .non)) p1.isList p2.isList (by rw[e1,e2,hl]) hu0 λj g1 g2=>by
       obtain⟨v1,k1,k2,k3⟩:=gu h2 rv j (by simpa using g1)
       obtain⟨v2,k4,k5,k6⟩:=gu h4 rv2 j (by simpa using g2)
       exact ih k1 k4 (by simpa using k2) (by simpa using k5) (qa3.mp o1 _ k3) (qa3.mp o2 _ k6) hu1
      rw[e1,j7 hl]at z
      exact qdE hab z
     ·have z:=qen (A:=A) p1.isList p2.isList (by rw[e1,e2];simpa using hl) hu0
      show qdo A s _ _ (j6 ds es)
      rw[rd hl]
      exact qdE hab z
   |tup es=>
    obtain⟨b,us,rfl,h3,h4⟩:=id r2
    cases q2
    obtain⟨its2,rv2,p2,_⟩:=I.tuple (SqT.of h3)
    exact qi0 p1.isList p2 hu0
   |non=>cases r2;cases q2;exact qi2 p1.isList hu0
   |bl x=>cases r2;cases q2;exact qi4 x p1.isList hu0
   |int x=>cases r2;obtain⟨t,rfl⟩:=q2;exact qi3 x t p1.isList hu0
   |str x=>cases r2;obtain⟨t,rfl⟩:=q2;exact qi1 x t p1.isList hu0
   |ty _=>cases o2
   |scr _=>cases o2
   |dct=>cases o2
   |ob _ _=>cases o2
  |non=>
   cases r1;cases q1
   cases e with
   |tup es=>obtain⟨b,us,rfl,h3,h4⟩:=r2;cases q2;obtain⟨_,_,p2,_⟩:=I.tuple (SqT.of h3);exact qiV p2 hu0
   |lst es=>obtain⟨b,us,rfl,_,h3,h4⟩:=r2;cases q2;obtain⟨_,_,p2,_⟩:=I.list (.inl h3);exact qiX p2.isList hu0
   |_=>first|(cases o2;done)|exact flat rfl rfl (d:=.non) rfl r2 (v:=.non) rfl q2
  |bl x=>
   cases r1;cases q1
   cases e with
   |tup es=>obtain⟨b,us,rfl,h3,h4⟩:=r2;cases q2;obtain⟨_,_,p2,_⟩:=I.tuple (SqT.of h3);exact qja x p2 hu0
   |lst es=>obtain⟨b,us,rfl,_,h3,h4⟩:=r2;cases q2;obtain⟨_,_,p2,_⟩:=I.list (.inl h3);exact qjd x p2.isList hu0
   |_=>first|(cases o2;done)|exact flat rfl rfl (d:=.bl x) rfl r2 (v:=.bl x) rfl q2
  |int x=>
   cases r1;obtain⟨t1,rfl⟩:=q1
   cases e with
   |tup es=>obtain⟨b,us,rfl,h3,h4⟩:=r2;cases q2;obtain⟨_,_,p2,_⟩:=I.tuple (SqT.of h3);exact qi5 x t1 p2 hu0
   |lst es=>obtain⟨b,us,rfl,_,h3,h4⟩:=r2;cases q2;obtain⟨_,_,p2,_⟩:=I.list (.inl h3);exact qi7 x t1 p2.isList hu0
   |_=>first|(cases o2;done)|exact flat rfl rfl (d:=.int x) rfl r2 (v:=.int x) ⟨t1,rfl⟩ q2
  |str x=>
   cases r1;obtain⟨t1,rfl⟩:=q1
   cases e with
   |tup es=>obtain⟨b,us,rfl,h3,h4⟩:=r2;cases q2;obtain⟨_,_,p2,_⟩:=I.tuple (SqT.of h3);exact qiQ x t1 p2 hu0
   |lst es=>obtain⟨b,us,rfl,_,h3,h4⟩:=r2;cases q2;obtain⟨_,_,p2,_⟩:=I.list (.inl h3);exact qiT x t1 p2.isList hu0
   |_=>first|(cases o2;done)|exact flat rfl rfl (d:=.str x) rfl r2 (v:=.str x) ⟨t1,rfl⟩ q2
  |ty _=>cases o1
  |scr _=>cases o1
  |dct=>cases o1
  |ob _ _=>cases o1
theorem Bg {A:qbd}{y x:V}{u v:Value} (ry:bJ y u) (rx:bJ x v) (fy:iq y=true) (fx:iq x=true):qhI A s u v (eqV y x):=by
 cases y with
 |non=>
  cases ry
  cases x with
  |non=>cases rx;exact qiq
  |bl b=>cases rx;exact qit b
  |int b=>obtain⟨t,rfl⟩:=rx;exact qis b t
  |str b=>obtain⟨t,rfl⟩:=rx;exact qip b t
  |_=>cases fx
 |bl a=>
  cases ry
  cases x with
  |non=>cases rx;exact qiH a
  |bl b=>cases rx;exact qiK a b
  |int b=>obtain⟨t,rfl⟩:=rx;exact qiJ a b t
  |str b=>obtain⟨t,rfl⟩:=rx;exact qiG a b t
  |_=>cases fx
 |int a=>
  obtain⟨t',rfl⟩:=ry
  cases x with
  |non=>cases rx;exact qiB a t'
  |bl b=>cases rx;exact qiE a t' b
  |int b=>obtain⟨t,rfl⟩:=rx;exact qiD a t' b t
  |str b=>obtain⟨t,rfl⟩:=rx;exact qiA a t' b t
  |_=>cases fx
 |str a=>
  obtain⟨t',rfl⟩:=ry
  cases x with
  |non=>cases rx;exact qik a t'
  |bl b=>cases rx;exact qin a t' b
  |int b=>obtain⟨t,rfl⟩:=rx;exact qim a t' b t
  |str b=>obtain⟨t,rfl⟩:=rx;exact qij a t' b t
  |_=>cases fx
 |_=>cases fy
theorem wS {A:qbd}{y x:V}{u v:Value} (ry:bJ y u) (rx:bJ x v) (fy:iq y=true) (fx:iq x=true):qgH A s u v (!eqV y x):=by
 cases y with
 |non=>
  cases ry
  cases x with
  |non=>cases rx;exact qhl
  |bl b=>cases rx;exact qho b
  |int b=>obtain⟨t,rfl⟩:=rx;exact qhn b t
  |str b=>obtain⟨t,rfl⟩:=rx;exact qhk b t
  |_=>cases fx
 |bl a=>
  cases ry
  cases x with
  |non=>cases rx;exact qhE a
  |bl b=>cases rx;exact qhH a b
  |int b=>obtain⟨t,rfl⟩:=rx;exact qhG a b t
  |str b=>obtain⟨t,rfl⟩:=rx;exact qhD a b t
  |_=>cases fx
 |int a=>
  obtain⟨t',rfl⟩:=ry
  cases x with
  |non=>cases rx;exact qhy a t'
  |bl b=>cases rx;exact qhB a t' b
  |int b=>obtain⟨t,rfl⟩:=rx;exact qhA a t' b t
  |str b=>obtain⟨t,rfl⟩:=rx;exact qhx a t' b t
  |_=>cases fx
 |str a=>
  obtain⟨t',rfl⟩:=ry
  cases x with
  |non=>cases rx;exact qhf a t'
  |bl b=>cases rx;exact qhi a t' b
  |int b=>obtain⟨t,rfl⟩:=rx;exact qhh a t' b t
  |str b=>obtain⟨t,rfl⟩:=rx;exact qhe a t' b t
  |_=>cases fx
 |_=>cases fy
inductive Kin where
 |fl (d:D)|tp (ds:List D)|ls (ds:List D)
def rE (st:Sto):W->Option Kin
 |.d (.tup ds)=>some (.tp ds)
 |.d (.lst ds)=>some (.ls ds)
 |.h n=>(lg st n).map .ls
 |.d .non=>some (.fl .non)
 |.d (.bl b)=>some (.fl (.bl b))
 |.d (.int i)=>some (.fl (.int i))
 |.d (.str x)=>some (.fl (.str x))
 |_=>none
def eqK:Kin->Kin->Option Bool
 |.fl a,.fl b=>some (eqD a b)
 |.tp as,.tp bs=>if (as.isEmpty||bs.isEmpty)=true then some (as.isEmpty&&bs.isEmpty) else if as.all (okD 60)=true/\bs.all (okD 60)=true then some (j6 as bs) else none
 |.ls as,.ls bs=>if as.length=bs.length then (if as.all (okD 60)=true/\bs.all (okD 60)=true then some (j6 as bs) else none) else some false
 |.fl _,.tp _=>some false
 |.tp _,.fl _=>some false
 |.fl _,.ls _=>some false
 |.ls _,.fl _=>some false
 |.tp _,.ls _=>some false
 |.ls _,.tp _=>some false
def dEq (st:Sto) (x y:W):Option D:=(rE st x).bind λa=>(rE st y).bind λb=>(eqK a b).map λk=>.bl k
def dNe (st:Sto) (x y:W):Option D:=(rE st x).bind λa=>(rE st y).bind λb=>(eqK a b).map λk=>.bl (!k)
def Bz (K:qad) (H:Hp) (φ:List Addr):Kin->V->Prop
 |.fl d,v=>dR d=true/\Rl K H φ d v
 |.tp ds,v=>∃ a vs,v=.ref a/\SqT K H a vs/\Rls K H φ ds vs
 |.ls ds,v=>∃ a vs,v=.ref a/\Rd H a (.lst vs)/\Rls K H φ ds vs
theorem mI {w:W}{v:V}{k:Kin} (S:Sr K H φ st) (r:Rw K H φ w v) (e:rE st w=some k):Bz K H φ k v:=by
 cases w with
 |h n=>
  obtain⟨a,ea,rfl⟩:=r
  obtain⟨ds,e1,rfl⟩:=qae.mp e
  obtain⟨vs,q,rl⟩:=S.atl n a ds ea e1
  exact⟨a,vs,rfl,.inl q,rl⟩
 |d x=>
  cases x with
  |tup es=>cases e;obtain⟨a,vs,rfl,h1,h2⟩:=r;exact⟨a,vs,rfl,SqT.of h1,h2⟩
  |lst es=>cases e;obtain⟨a,vs,rfl,h0,h1,h2⟩:=r;exact⟨a,vs,rfl,h1,h2⟩
  |non=>cases e;exact⟨rfl,r⟩
  |bl b=>cases e;exact⟨rfl,r⟩
  |int b=>cases e;exact⟨rfl,r⟩
  |str b=>cases e;exact⟨rfl,r⟩
  |_=>cases e
theorem Ao {A:qbd}{k:Nat} (hr:dN k A):A.in1.units+60<cLine:=by
 have:=hr.un
 show A.units+1+60<cLine
 lia
theorem x9 {k:Nat} (hr:dN k X.A) (I:Inv X pins σ H s) {a b:Kin}{v u:V}{vv uu:Value}{r:Bool} (ra:Bz X.K H φ a v) (rb:Bz X.K H φ b u) (qa:bJ v vv) (qb:bJ u uu) (e:eqK a b=some r) :
  qhI X.A s vv uu r/\qgH X.A s vv uu (!r):=by
 have hu0:=hr.units0
 have items:∀ {ds es:List D}{vs us:List V}{its its2:List Value},Rls X.K H φ ds vs->Rls X.K H φ es us->bf vs its->bf us its2->ds.all (okD 60)=true->es.all (okD 60)=true->
   ∀ j (g1:j<its.toArray.size) (g2:j<its2.toArray.size),qdo X.A.in1 s its.toArray[j] its2.toArray[j] (eqD (ds.getD j .non) (es.getD j .non)):=by
  intro ds es vs us its its2 h2 h4 rv rv2 o1 o2 j g1 g2
  obtain⟨v1,k1,k2,k3⟩:=gu h2 rv j (by simpa using g1)
  obtain⟨v2,k4,k5,k6⟩:=gu h4 rv2 j (by simpa using g2)
  exact AT I 60 k1 k4 (by simpa using k2) (by simpa using k5) (qa3.mp o1 _ k3) (qa3.mp o2 _ k6) (Ao hr)
 match a,b,e with
 |.fl d,.fl d',e=>
  cases e
  obtain⟨f1,r1⟩:=ra
  obtain⟨f2,r2⟩:=rb
  obtain⟨e1,g1⟩:=hJ f1 r1
  obtain⟨e2,g2⟩:=hJ f2 r2
  rw[<-pJ f1 f2,<-e1,<-e2]
  exact⟨Bg qa qb g1 g2,wS qa qb g1 g2⟩
 |.tp ds,.tp es,e=>
  simp only[eqK]at e
  obtain⟨a,vs,rfl,h1,h2⟩:=ra
  obtain⟨b,us,rfl,h3,h4⟩:=rb
  cases qa;cases qb
  obtain⟨its,rv,p1,_⟩:=I.tuple h1
  obtain⟨its2,rv2,p2,_⟩:=I.tuple h3
  have e1:its.toArray.size=ds.length:=by simp[<-rv.length,h2.length]
  have e2:its2.toArray.size=es.length:=by simp[<-rv2.length,h4.length]
  split at e
  ·rename_i hc
   cases e
   have hv:∀ j (g1:j<its.toArray.size) (g2:j<its2.toArray.size),qdo X.A.in1 s its.toArray[j] its2.toArray[j] (eqD (ds.getD j .non) (es.getD j .non)):=λj g1 g2=>by
    rw[e1]at g1
    rw[e2]at g2
    rw[qgt]at hc
    rcases hc with hc|hc
    ·rw[qgh.mp hc]at g1;exact absurd g1 (qcK _)
    ·rw[qgh.mp hc]at g2;exact absurd g2 (qcK _)
   have z:=qdN (A:=X.A) p1 p2 hu0 hv
   have z':=qeD (A:=X.A) p1 p2 hu0 hv
   rw[e1,e2,gC]at z z'
   have e3:j6 ds es=(ds.isEmpty&&es.isEmpty):=by
    cases ds with
    |nil=>cases es<;>rfl
    |cons _ _=>cases es with
     |nil=>rfl
     |cons _ _=>cases hc
   rw[e3]at z z'
   exact⟨z,z'⟩
  ·split at e
   ·rename_i hc
    cases e
    have z:=qdN (A:=X.A) p1 p2 hu0 (items h2 h4 rv rv2 hc.1 hc.2)
    have z':=qeD (A:=X.A) p1 p2 hu0 (items h2 h4 rv rv2 hc.1 hc.2)
    rw[e1,e2,gC]at z z'
    exact⟨z,z'⟩
   ·cases e
 |.ls ds,.ls es,e=>
  simp only[eqK]at e
  obtain⟨a,vs,rfl,h1,h2⟩:=ra
  obtain⟨b,us,rfl,h3,h4⟩:=rb
  cases qa;cases qb
  obtain⟨its,rv,p1,_⟩:=I.list (.inl h1)
  obtain⟨its2,rv2,p2,_⟩:=I.list (.inl h3)
  have e1:its.toArray.size=ds.length:=by simp[<-rv.length,h2.length]
  have e2:its2.toArray.size=es.length:=by simp[<-rv2.length,h4.length]
  split at e
  ·rename_i hl
   split at e
   ·rename_i hc
    cases e
    have z:=qfb (A:=X.A) p1.isList p2.isList (by rw[e1,e2,hl]) hu0 (items h2 h4 rv rv2 hc.1 hc.2)
    have z':=qhq (A:=X.A) p1.isList p2.isList (by rw[e1,e2,hl]) hu0 (items h2 h4 rv rv2 hc.1 hc.2)
    rw[e1,j7 hl]at z z'
    exact⟨z,z'⟩
   ·cases e
  ·rename_i hl
   cases e
   have z:=qen (A:=X.A) p1.isList p2.isList (by rw[e1,e2];simpa using hl) hu0
   have z':=qhp (A:=X.A) p1.isList p2.isList (by rw[e1,e2];simpa using hl) hu0
   exact⟨z,z'⟩
 |.fl d,.tp es,e=>
  cases e
  obtain⟨f1,r1⟩:=ra
  obtain⟨b,us,rfl,h3,h4⟩:=rb
  cases qb
  obtain⟨its2,rv2,p2,_⟩:=I.tuple h3
  cases d with
  |non=>cases r1;cases qa;exact⟨qio p2 hu0,qhj p2 hu0⟩
  |bl x=>cases r1;cases qa;exact⟨qiF x p2 hu0,qhC x p2 hu0⟩
  |int x=>cases r1;obtain⟨t,rfl⟩:=qa;exact⟨qiz x t p2 hu0,qhw x t p2 hu0⟩
  |str x=>cases r1;obtain⟨t,rfl⟩:=qa;exact⟨qii x t p2 hu0,qhd x t p2 hu0⟩
  |_=>cases f1
 |.tp es,.fl d,e=>
  cases e
  obtain⟨f1,r1⟩:=rb
  obtain⟨b,us,rfl,h3,h4⟩:=ra
  cases qa
  obtain⟨its2,rv2,p2,_⟩:=I.tuple h3
  cases d with
  |non=>cases r1;cases qb;exact⟨qie p2 hu0,qg9 p2 hu0⟩
  |bl x=>cases r1;cases qb;exact⟨qih x p2 hu0,qhc x p2 hu0⟩
  |int x=>cases r1;obtain⟨t,rfl⟩:=qb;exact⟨qig x t p2 hu0,qhb x t p2 hu0⟩
  |str x=>cases r1;obtain⟨t,rfl⟩:=qb;exact⟨qid x t p2 hu0,qg8 x t p2 hu0⟩
  |_=>cases f1
 |.fl d,.ls es,e=>
  cases e
  obtain⟨f1,r1⟩:=ra
  obtain⟨b,us,rfl,h3,h4⟩:=rb
  cases qb
  obtain⟨its2,rv2,p2,_⟩:=I.list (.inl h3)
  replace p2:=p2.isList
  cases d with
  |non=>cases r1;cases qa;exact⟨qir p2 hu0,qhm p2 hu0⟩
  |bl x=>cases r1;cases qa;exact⟨qiI x p2 hu0,qhF x p2 hu0⟩
  |int x=>cases r1;obtain⟨t,rfl⟩:=qa;exact⟨qiC x t p2 hu0,qhz x t p2 hu0⟩
  |str x=>cases r1;obtain⟨t,rfl⟩:=qa;exact⟨qil x t p2 hu0,qhg x t p2 hu0⟩
  |_=>cases f1
 |.ls es,.fl d,e=>
  cases e
  obtain⟨f1,r1⟩:=rb
  obtain⟨b,us,rfl,h3,h4⟩:=ra
  cases qa
  obtain⟨its2,rv2,p2,_⟩:=I.list (.inl h3)
  replace p2:=p2.isList
  cases d with
  |non=>cases r1;cases qb;exact⟨qiw p2 hu0,qht p2 hu0⟩
  |bl x=>cases r1;cases qb;exact⟨qiy x p2 hu0,qhv x p2 hu0⟩
  |int x=>cases r1;obtain⟨t,rfl⟩:=qb;exact⟨qix x t p2 hu0,qhu x t p2 hu0⟩
  |str x=>cases r1;obtain⟨t,rfl⟩:=qb;exact⟨qiv x t p2 hu0,qhs x t p2 hu0⟩
  |_=>cases f1
 |.tp ds,.ls es,e=>
  cases e
  obtain⟨a,vs,rfl,h1,h2⟩:=ra
  obtain⟨b,us,rfl,h3,h4⟩:=rb
  cases qa;cases qb
  obtain⟨its,rv,p1,_⟩:=I.tuple h1
  obtain⟨its2,rv2,p2,_⟩:=I.list (.inl h3)
  exact⟨qif p1 p2.isList hu0,qha p1 p2.isList hu0⟩
 |.ls ds,.tp es,e=>
  cases e
  obtain⟨a,vs,rfl,h1,h2⟩:=ra
  obtain⟨b,us,rfl,h3,h4⟩:=rb
  cases qa;cases qb
  obtain⟨its,rv,p1,_⟩:=I.list (.inl h1)
  obtain⟨its2,rv2,p2,_⟩:=I.tuple h3
  exact⟨qiu p1.isList p2 hu0,qhr p1.isList p2 hu0⟩
theorem lR {k:Nat} (hr:dN k X.A) (hK:X.K=K:=by rfl):OpD K X (qbv .Eq) dEq:=by
 subst hK
 refine⟨λst x y d h=>?_⟩
 simp only[dEq,qab,qae]at h
 obtain⟨a,ha,b,hb,r,e,rfl⟩:=h
 intro pins s σ H vx vy v u Q I rx ry q
 obtain⟨φ,S,r1,r2,q⟩:=q
 exact (x9 hr I (mI S r1 ha) (mI S r2 hb) rx ry e).1 _ _ _ _ ⟨.bl r,H,I,rfl,q _ H (bv.refl H) rfl⟩
theorem u7 {k:Nat} (hr:dN k X.A) (hK:X.K=K:=by rfl):OpD K X (qbv .NotEq) dNe:=by
 subst hK
 refine⟨λst x y d h=>?_⟩
 simp only[dNe,qab,qae]at h
 obtain⟨a,ha,b,hb,r,e,rfl⟩:=h
 intro pins s σ H vx vy v u Q I rx ry q
 obtain⟨φ,S,r1,r2,q⟩:=q
 exact (x9 hr I (mI S r1 ha) (mI S r2 hb) rx ry e).2 _ _ _ _ ⟨.bl (!r),H,I,rfl,q _ H (bv.refl H) rfl⟩
end
section
variable {K:qad}{X:Cx}
def jP:List D->Option (List Int)
 |[]=>some []
 |.int i::ds=>(jP ds).map λr=>i::r
 |_=>none
theorem jx:∀ {ds:List D}{ns:List Int},jP ds=some ns->ds=ns.map D.int
 |[],_,h=>by cases h;rfl
 |.int i::ds,_,h=>by
  obtain⟨r,e,rfl⟩:=qae.mp h
  rw[jx e];rfl
 |.non::_,_,h=>by cases h
 |.bl _::_,_,h=>by cases h
 |.str _::_,_,h=>by cases h
 |.ty _::_,_,h=>by cases h
 |.dct::_,_,h=>by cases h
 |.scr _::_,_,h=>by cases h
 |.tup _::_,_,h=>by cases h
 |.lst _::_,_,h=>by cases h
theorem kJ:∀ (ns:List Int),jP (ns.map D.int)=some ns
 |[]=>rfl
 |n::ns=>by rw[qay,jP,kJ ns];rfl
def lF:List D->Option (List Bool)
 |[]=>some []
 |.bl i::ds=>(lF ds).map λr=>i::r
 |_=>none
theorem me:∀ {ds:List D}{ns:List Bool},lF ds=some ns->ds=ns.map D.bl
 |[],_,h=>by cases h;rfl
 |.bl i::ds,_,h=>by
  obtain⟨r,e,rfl⟩:=qae.mp h
  rw[me e];rfl
 |.non::_,_,h=>by cases h
 |.int _::_,_,h=>by cases h
 |.str _::_,_,h=>by cases h
 |.ty _::_,_,h=>by cases h
 |.dct::_,_,h=>by cases h
 |.scr _::_,_,h=>by cases h
 |.tup _::_,_,h=>by cases h
 |.lst _::_,_,h=>by cases h
theorem ni:∀ (ns:List Bool),lF (ns.map D.bl)=some ns
 |[]=>rfl
 |n::ns=>by rw[qay,lF,ni ns];rfl
def bE (st:Sto):List W->Option D
 |[.d (.str x)]=>if x.length<=1000000 then some (.int x.length) else none
 |[w]=>(iZ st w).map λds=>.int ds.length
 |_=>none
def tY (_:Sto):List W->Option D
 |[.d (.int i)]=>some (.int (if i<0 then -i else i))
 |_=>none
def yI (_:Sto):List W->Option D
 |[.d (.int i),.d (.int j)]=>some (.int (if j<i then j else i))
 |_=>none
def v4 (_:Sto):List W->Option D
 |[.d (.int i)]=>some (.int i)
 |[.d (.bl k)]=>some (.int (if k then 1 else 0))
 |_=>none
def vT (_:Sto):List W->Option D
 |[.d (.lst ds)]=>(jP ds).map λns=>.int ns.sum
 |_=>none
def tR (_:Sto):List W->Option D
 |[.d (.lst ds)]=>(lF ds).map λns=>.bl (ns.all id)
 |_=>none
def db (st:Sto):List W->Option D
 |[w]=>(iZ st w).map λds=>.tup ds
 |_=>none
def vj (st:Sto):List W->Option (List D)
 |[w]=>iZ st w
 |_=>none
def Az (st:Sto):W->Option String
 |.d .non=>some "NoneType"
 |.d (.bl _)=>some "bool"
 |.d (.int _)=>some "int"
 |.d (.str _)=>some "str"
 |.d (.tup _)=>some "tuple"
 |.d (.lst _)=>some "list"
 |.d .dct=>some "dict"
 |.h n=>(lg st n).map λ_=>"list"
 |_=>none
def Be (t c:String):Option Bool:=
 if c = "int" then some (t=="int" || t=="bool")
 else if c = "bool"\/c = "str"\/c = "tuple"\/c = "list" then some (t==c)
 else none
def pA (st:Sto):List W->Option D
 |[w,.d (.ty c)]=>(Az st w).bind λt=>(Be t c).map λb=>.bl b
 |_=>none
theorem ca (hK:X.K=K:=by rfl):kj K X (.builtin "len") bE:=by
 subst hK
 refine⟨λst ws d h=>?_⟩
 have seq:∀ w,(iZ st w).map (λds=>D.int ds.length)=some d->dD X (.builtin "len") (rCD X.K st [w] d):=λw h=>by
  obtain⟨ds,e,rfl⟩:=qae.mp h
  refine qH.imp ?_
  rintro vs H Q ⟨φ,S,⟨v,r,rfl,r1,rfl⟩,q⟩
  obtain⟨a,us,rfl,h1,h2⟩:=jR S r1 e
  exact⟨a,us,rfl,h1,q _ H (bv.refl H) (by rw[<-h2.length];rfl)⟩
 cases ws with
 |nil=>cases h
 |cons w tl=>
  cases tl with
  |cons _ _=>
   cases w with
   |h n=>cases h
   |d x=>cases x<;>cases h
  |nil=>
   cases w with
   |h n=>exact seq _ h
   |d x=>
    cases x with
    |str x=>
     simp only[bE]at h
     split at h
     ·rename_i hl
      cases h
      refine qI.imp ?_
      rintro vs H Q ⟨φ,S,⟨v,r,rfl,r1,rfl⟩,q⟩
      exact⟨x,by rw[show v=.str x from r1],qa6 hl mil,q _ H (bv.refl H) rfl⟩
     ·cases h
    |tup ds=>exact seq _ h
    |lst ds=>exact seq _ h
    |scr ds=>exact seq _ h
    |_=>cases h
theorem t9:kj K X (.builtin "abs") tY:=by
 refine⟨λst ws d h=>?_⟩
 match ws,h with
 |[.d (.int i)],h=>
  cases h
  refine ye.imp ?_
  rintro vs H Q ⟨φ,S,⟨v,r,rfl,r1,rfl⟩,q⟩
  exact⟨i,by rw[show v=.int i from r1],q _ H (bv.refl H) rfl⟩
theorem Ag (hc:X.calm=true:=by rfl):kj K X (.builtin "min") yI:=by
 refine⟨λst ws d h=>?_⟩
 match ws,h with
 |[.d (.int i),.d (.int j)],h=>
  cases h
  refine (wm hc).imp ?_
  rintro vs H Q ⟨φ,S,⟨v,r,rfl,r1,u,r',rfl,r2,rfl⟩,q⟩
  exact⟨i,j,by rw[show v=.int i from r1,show u=.int j from r2],q _ H (bv.refl H) rfl⟩
theorem wN:kj K X (.type "int") v4:=by
 refine⟨λst ws d h=>?_⟩
 match ws,h with
 |[.d (.int i)],h=>
  cases h
  refine pb.imp ?_
  rintro vs H Q ⟨φ,S,⟨v,r,rfl,r1,rfl⟩,q⟩
  exact .inl ⟨i,by rw[show v=.int i from r1],q _ H (bv.refl H) rfl⟩
 |[.d (.bl i)],h=>
  cases h
  refine pb.imp ?_
  rintro vs H Q ⟨φ,S,⟨v,r,rfl,r1,rfl⟩,q⟩
  exact .inr ⟨i,by rw[show v=.bl i from r1],q _ H (bv.refl H) rfl⟩
theorem xq (hc:X.calm=true:=by rfl) (hK:X.K=K:=by rfl):kj K X (.builtin "sum") vT:=by
 subst hK
 refine⟨λst ws d h=>?_⟩
 match ws,h with
 |[.d (.lst ds)],h=>
  obtain⟨ns,e,rfl⟩:=qae.mp h
  cases jx e
  refine (CJ (K:=X.K) hc rfl).imp ?_
  rintro vs H Q ⟨φ,S,⟨v,r,rfl,⟨a,us,rfl,h0,h1,h2⟩,rfl⟩,q⟩
  cases h2.ints
  exact⟨a,ns,rfl,.inl h1,q _ H (bv.refl H) rfl⟩
theorem tW (hc:X.calm=true:=by rfl) (hK:X.K=K:=by rfl):kj K X (.builtin "all") tR:=by
 subst hK
 refine⟨λst ws d h=>?_⟩
 match ws,h with
 |[.d (.lst ds)],h=>
  obtain⟨ns,e,rfl⟩:=qae.mp h
  cases me e
  refine (Ct (K:=X.K) hc rfl).imp ?_
  rintro vs H Q ⟨φ,S,⟨v,r,rfl,⟨a,us,rfl,h0,h1,h2⟩,rfl⟩,q⟩
  cases h2.bools
  exact⟨a,ns,rfl,.inl h1,q _ H (bv.refl H) rfl⟩
theorem cQ (hK:X.K=K:=by rfl):kj K X (.type "tuple") db:=by
 subst hK
 refine⟨λst ws d h=>?_⟩
 match ws,h with
 |[w],h=>
  obtain⟨ds,e,rfl⟩:=qae.mp h
  refine oO.imp ?_
  rintro vs H Q ⟨φ,S,⟨v,r,rfl,r1,rfl⟩,q⟩
  obtain⟨a,us,rfl,h1,h2⟩:=qR S r1 e
  refine⟨a,us,rfl,?_⟩
  rcases h1 with h1|h1
  ·exact .inl ⟨h1,λl hl=>q _ _ (bv.new hl _) ⟨l,us,rfl,upd_same,h2.fw S (Fw.new hl)⟩⟩
  ·exact .inr ⟨SqT.of h1,q _ H (bv.refl H) ⟨a,us,rfl,h1,h2⟩⟩
theorem vn (hK:X.K=K:=by rfl):zP K X (.type "list") vj:=by
 subst hK
 refine⟨λst ws d h=>?_⟩
 match ws,h with
 |[w],h=>
  refine qc.imp ?_
  rintro vs H Q ⟨φ,S,⟨v,r,rfl,r1,rfl⟩,q⟩
  obtain⟨a,us,rfl,h1,h2⟩:=jR S r1 h
  exact⟨a,us,rfl,h1,λl hl=>q l us H (bv.refl H) hl h2⟩
theorem iw {t c:String}{b:Bool} (ht:t = "NoneType"\/t = "bool"\/t = "int"\/t = "str"\/t = "tuple"\/t = "list"\/t = "dict") (h:Be t c=some b):qf1 K (.type t) (.type c)=some b:=by
 unfold Be at h
 split at h
 ·rename_i hc
  subst hc
  rcases ht with rfl|rfl|rfl|rfl|rfl|rfl|rfl<;>(cases h;rfl)
 ·split at h
  ·rename_i _ hc
   rcases hc with rfl|rfl|rfl|rfl<;>rcases ht with rfl|rfl|rfl|rfl|rfl|rfl|rfl<;>(cases h;rfl)
  ·cases h
theorem mS (hK:X.K=K:=by rfl):kj K X (.builtin "isinstance") pA:=by
 subst hK
 refine⟨λst ws d h=>?_⟩
 match ws,h with
 |[w,.d (.ty c)],h=>
  simp only[pA,qab,qae]at h
  obtain⟨t,ht,b,hb,rfl⟩:=h
  intro pins s σ H xs us Q I rv q
  obtain⟨φ,S,⟨v,r,rfl,r1,u,r',rfl,r2,rfl⟩,q⟩:=q
  cases (show u=.ty c from r2)
  obtain⟨vv,uu,rfl,rv1,rv2⟩:=rv.two
  cases rv2
  have fin:∀ tk,EP X pins σ Q (.bool b) { s with toks:=tk }:=λtk=>⟨.bl b,H,I.tok tk,rfl,q _ H (bv.refl H) rfl⟩
  cases w with
  |h n=>
   obtain⟨a,ea,rfl⟩:=r1
   obtain⟨ds,eds,rfl⟩:=qae.mp ht
   obtain⟨vs,hv,_⟩:=S.atl n a ds ea eds
   exact dC I rv1 (.lst hv) (iw (by simp) hb) fin
  |d x=>
   cases x with
   |non=>cases ht;cases r1;exact dC I rv1 .non (iw (by simp) hb) fin
   |ob _ _=>cases ht
   |bl x=>cases ht;cases r1;exact dC I rv1 (.bl x) (iw (by simp) hb) fin
   |int x=>cases ht;cases r1;exact dC I rv1 (.int x) (iw (by simp) hb) fin
   |str x=>cases ht;cases r1;exact dC I rv1 (.str x) (iw (by simp) hb) fin
   |lst ds=>
    cases ht
    obtain⟨a,vs,rfl,h0,h1,h2⟩:=r1
    rcases h1 with h1|⟨o,h1⟩
    ·exact dC I rv1 (.lst h1) (iw (by simp) hb) fin
    ·exact dC I rv1 (.frz h1) (iw (by simp) hb) fin
   |tup ds=>
    cases ht
    obtain⟨a,vs,rfl,h1,h2⟩:=r1
    cases rv1
    obtain⟨its,_,p,_⟩:=I.tuple (SqT.of h1)
    obtain⟨o,e1,e2,_⟩:=p
    exact qbt qfj I.kIn ⟨o,e1,e2⟩ (iw (by simp) hb) (λz=>nomatch z) fin
   |dct=>
    cases ht
    obtain⟨a,rfl,_,h1⟩:=r1
    rcases h1 with⟨d,h1⟩|⟨d,h1⟩
    ·exact dC I rv1 (.dK h1) (iw (by simp) hb) fin
    ·exact dC I rv1 (.dT h1) (iw (by simp) hb) fin
   |ty x=>cases ht
   |scr x=>cases ht
variable {e a b:Expr}{es:List Expr}{pos:Pos}{f fa fb:Ef}{af:Af}
theorem sH {x:Str}{c:String} (hg:Gl X x) (hm:X.mg x=none) (hv:qcb x=some (.type c)) (hn:x≠"__name__":=by decide) (hd:(x==("__debug__" : Str))=false:=by decide):IE K X (.Name x pos) (iC (.ty c)):=
 wG (v:=.ty c) (zw hg hm hv rfl hn hd) λ_ _=>rfl
def dQ (g:List D->List W->Option (D×List D)) (o:Ef) (a:Af):Ef
 |env,st=>(o env st).bind λx=>(a env x.2).bind λr=>match x.1 with
 |.h n=>(lg x.2 n).bind λ_=>(lg r.2 n).bind λds=>(g ds r.1).map λy=>(.d y.1,r.2.set n (.l y.2))
 |_=>none
def cy (ds:List D):List W->Option (D×List D)
 |[.d x]=>if ds.length<1000000 then some (.non,ds++[x]) else none
 |_=>none
theorem xT {name:Str}{id:String}{apos:Pos}{rr:V->List V->Hp->VK->Prop}{g:List D->List W->Option (D×List D)} (slot:Slot "list" name id) (hty:typeOf (.builtin id)=pure (.type "method_descriptor")) (hm:MtR X id rr)
  (hg:∀ (H:Hp) (φ:List Addr) (st:Sto) (n:Nat) (ad:Addr) (ds:List D) (vs:List V) (ws:List W) (us:List V) (y:D×List D) (Q:VK),Sr K H φ st->φ[n]?=some ad->lg st n=some ds->H ad=some (.lst vs)->Rls K H φ ds vs->Rws K H φ ws us->g ds ws=some y->
    (∀ v vs',Rl K H φ y.1 v->Rls K H φ y.2 vs'->(∀ b,v≠.ref b)->Q v (upd H ad (.lst vs')))->rr (.ref ad) us H Q)
  (hfl:∀ ds ws y,g ds ws=some y->dR y.1=true)
  (ho:IE K X a fa) (ha:IA K X (e::es) af) (hbase:qcs a name X.env (eval a X.env)=eval a X.env:=by rfl)
  (hall:(e::es).all aR=true:=by rfl) (hfl30:(e::es).length<30:=by decide) (hline:(apos.endLine==pos.line)=true:=by rfl) (hK:X.K=K:=by rfl) :
  IE K X (.Call (.Attribute a name apos) (e::es) [] pos) (dQ g fa af):=by
 subst hK
 have hall2:aR e=true/\es.all aR=true:=by rw[qbD,qa4]at hall;exact hall
 refine⟨λenv st r hr=>?_⟩
 simp only[dQ,qab]at hr
 obtain⟨⟨x,s1⟩,hx,⟨ws,s2⟩,hw,hr⟩:=hr
 cases x with
 |d x=>cases hr
 |h n=>
  simp only[qab,qae]at hr
  obtain⟨ds1,hds1,ds,hds,y,hy,rfl⟩:=hr
  refine (zW qeN slot hty hm (ho.run _ _ _ hx) (ha.run _ _ _ hw) hbase (rZ hall hfl30) hline (bI hall2.1) (cA hall2.2)).imp ?_
  rintro σ H Q ⟨φ,hE,hS,q⟩
  refine⟨φ,hE,hS,λv H1 φ1 f1 S1 w1=>?_⟩
  obtain⟨ad,ea,rfl⟩:=w1
  obtain⟨vs1,hv1,_⟩:=S1.atl n ad _ ea hds1
  refine⟨.inl ⟨rfl,vs1,SqL.of hv1⟩,φ1,hE.fw hS f1,S1,λus H2 φ2 f2 S2 w2=>?_⟩
  have ea2:=f2.get ea
  obtain⟨vs2,hv2,rl2⟩:=S2.atl n ad ds ea2 hds
  refine hg H2 φ2 s2 n ad ds vs2 ws us y _ S2 ea2 hds hv2 rl2 w2 hy λv vs' r1 r2 hb=>?_
  obtain⟨f3,S3⟩:=S2.put ea2 r2
  exact q v _ φ2 ((f1.trans f2).trans f3) S3 (r1.fw S2 f3)
theorem dA {apos:Pos} (ho:IE K X a fa) (ha:IA K X (e::es) af) (hbase:qcs a "append" X.env (eval a X.env)=eval a X.env:=by rfl)
  (hall:(e::es).all aR=true:=by rfl) (hfl30:(e::es).length<30:=by decide) (hline:(apos.endLine==pos.line)=true:=by rfl) (hK:X.K=K:=by rfl) :
  IE K X (.Call (.Attribute a "append" apos) (e::es) [] pos) (dQ cy fa af):=by
 refine xT PySem.F.slot_list_append PySem.F.type_list_append wu (λH φ st n ad ds vs ws us y Q S ea eds hv rl rw hy q=>?_) (λds ws y h=>?_) ho ha hbase hall hfl30 hline hK
 ·match ws,hy with
  |[.d x],hy=>
   simp only[cy]at hy
   split at hy
   ·rename_i hl
    cases hy
    obtain⟨v,r,rfl,r1,rfl⟩:=rw
    exact⟨ad,vs,v,rfl,rfl,hv,by rw[<-rl.length];exact qaU hl mil,q _ _ rfl (rl.append ⟨v,[],rfl,r1,rfl⟩) (λb z=>nomatch z)⟩
   ·cases hy
 ·match ws,h with
  |[.d x],h=>
   simp only[cy]at h
   split at h
   ·cases h;rfl
   ·cases h
end
section
variable {K:qad}{X:Cx}{e a b:Expr}{es:List Expr}{pos:Pos}{f fa fb:Ef}{af:Af}
def rL (K:qad) (st:Sto) (x y:W) (ds:List D):R2:=λvx vy H Q=>∃ φ,Sr K H φ st/\Rw K H φ x vx/\Rw K H φ y vy/\∀ p us,H p=none->Rls K H φ ds us->Q (.ref p) (upd H p (.lst us))
structure OpL (K:qad) (X:Cx) (f:Value->Value->Sem Value) (g:Sto->W->W->Option (List D)):Prop where
 run:∀ st x y d,g st x y=some d->OpR X f (rL K st x y d)
def sP (g:Sto->W->W->Option (List D)) (a b:Ef):Lf
 |env,st=>(a env st).bind λx=>(b env x.2).bind λy=>(g y.2 x.1 y.1).map λd=>(d,y.2)
theorem x6 {op:Operator}{g:Sto->W->W->Option (List D)} (ho:OpL K X (qbC op) g) (ha:IE K X a fa) (hb:IE K X b fb):IL K X (.BinOp a op b pos) (sP g fa fb):=by
 refine⟨λenv st r hr=>?_⟩
 simp only[sP,qab,qae]at hr
 obtain⟨x,hx,y,hy,d,hd,rfl⟩:=hr
 refine (zR (ho.run _ _ _ _ hd) (ha.run _ _ _ hx) (hb.run _ _ _ hy)).imp ?_
 rintro σ H Q ⟨φ,hE,hS,q⟩
 exact⟨φ,hE,hS,λv H1 φ1 f1 s1 w1=>⟨φ1,hE.fw hS f1,s1,λu H2 φ2 f2 s2 w2=>⟨φ2,s2,w1.fw s1 f2,w2,λp us hp r=>q p us H2 φ2 (f1.trans f2) s2 hp r⟩⟩⟩
def oG (_:Sto):W->W->Option (List D)
 |.d (.lst a),.d (.int k)=>if a.length<=1000/\-1000<=k/\k<1000 then some (qaB k.toNat a).flatten else none
 |_,_=>none
theorem tX:OpL K X (qbC .Mult) oG:=by
 refine⟨λst x y d h=>?_⟩
 match x,y,h with
 |.d (.lst as),.d (.int k),h=>
  simp only[oG]at h
  split at h
  ·rename_i hl
   cases h
   refine vE.imp ?_
   rintro vx vy H Q ⟨φ,S,⟨a,us,rfl,h0,h1,h2⟩,r2,q⟩
   refine⟨a,k,us,rfl,r2,h1,by lia,by lia,?_,λp hp=>q p _ hp (h2.rep _)⟩
   rw[<-h2.length]
   have:as.length*k.toNat<=1000*1000:=qcv hl.1 (by lia)
   exact qa6 this mil
  ·cases h
theorem yV {H:Hp}{ad:Addr}{ns:List Int}{m:Fn} (hO:zt H) (hS:SqL K H ad (ns.map V.int)) (h:∃ st,m [.d (.scr ns)] []=some (.d (.bl true),st)):spI K m [.ref ad] H (λv _=>v=.bl true) λ_ _ _=>False:=by
 obtain⟨st,h⟩:=h
 refine⟨[],[],[.d (.scr ns)],_,h,⟨_,[],rfl,⟨ad,rfl,?_⟩,rfl⟩,⟨qdk,rfl,λn a ds e=>by simp at e⟩,λv H' φ' _ _ r=>r⟩
 rcases hS with (h|h)|h
 ·rcases hO ad with z|⟨o,xs,z⟩
  ·rw[h]at z;cases z
  ·rw[h]at z;cases z
 ·exact .inl h
 ·exact .inr h
end
end L2
namespace L2
open PySem
theorem fL {g:Tg}{body:Sf}:∀ {ds:List D} (Pv:Nat->Ev->Sto->Prop) {env:Ev}{st:Sto},Pv 0 env st->
  (∀ i d env st,ds[i]?=some d->Pv i env st->∃ e1 e2 s2,eH g (.d d) env=some e1/\(body e1 st=some (.nx e2 s2)\/body e1 st=some (.ct e2 s2))/\Pv (i+1) e2 s2)->
  ∃ env' st',eJ g body ds env st=some (.nx env' st')/\Pv ds.length env' st'
 |[],Pv,env,st,h0,_=>⟨env,st,rfl,h0⟩
 |d::ds,Pv,env,st,h0,hs=>by
  obtain⟨e1,e2,s2,h1,h2,h3⟩:=hs 0 d env st rfl h0
  obtain⟨e',s',h4,h5⟩:=fL (g:=g) (body:=body) (ds:=ds) (λi=>Pv (i+1)) h3 λi d' env' st' hd p=>hs (i+1) d' env' st' (by simpa using hd) p
  refine⟨e',s',?_,h5⟩
  unfold eJ
  rw[h1,qaa]
  rcases h2 with h2|h2<;>(rw[h2,qaa];exact h4)
theorem mH {g:Tg}{tt:Tf}{te:Ef}{env:Ev}:∀ {ds:List D} (Pv:Nat->List D->Sto->Prop) {st:Sto}{ys0:List D},Pv 0 ys0 st->
  (∀ i d ys st,ds[i]?=some d->Pv i ys st->∃ e1,eH g (.d d) env=some e1/\((∃ s1 x s2,tt e1 st=some (true,s1)/\te e1 s1=some (.d x,s2)/\Pv (i+1) (ys++[x]) s2)\/∃ s1,tt e1 st=some (false,s1)/\Pv (i+1) ys s1))->
  ∃ ys st',lcI g tt te env ds st=some (ys,st')/\Pv ds.length (ys0++ys) st'
 |[],Pv,st,ys0,h0,_=>⟨[],st,rfl,by rw[qbO];exact h0⟩
 |d::ds,Pv,st,ys0,h0,hs=>by
  obtain⟨e1,h1,h2⟩:=hs 0 d ys0 st rfl h0
  rcases h2 with⟨s1,x,s2,h2,h3,h4⟩|⟨s1,h2,h4⟩
  ·obtain⟨ys,s',h5,h6⟩:=mH (g:=g) (tt:=tt) (te:=te) (env:=env) (ds:=ds) (λi=>Pv (i+1)) h4 λi d' ys' st' hd p=>hs (i+1) d' ys' st' (by simpa using hd) p
   refine⟨x::ys,s',?_,by simpa using h6⟩
   unfold lcI
   rw[h1,qaa,h2,qaa,if_pos rfl,h3,qaa,h5]
   rfl
  ·obtain⟨ys,s',h5,h6⟩:=mH (g:=g) (tt:=tt) (te:=te) (env:=env) (ds:=ds) (λi=>Pv (i+1)) h4 λi d' ys' st' hd p=>hs (i+1) d' ys' st' (by simpa using hd) p
   refine⟨ys,s',?_,by simpa using h6⟩
   unfold lcI
   rw[h1,qaa,h2,qaa,if_neg qaH,h5]
theorem rG {g:Tg}{tt:Tf}{te:Ef}{env:Ev}{st:Sto} (p:D->Bool) (F:D->D):∀ {ds:List D},(∀ d∈ds,∃ e1,eH g (.d d) env=some e1/\tt e1 st=some (p d,st)/\(p d=true->te e1 st=some (.d (F d),st)))->
  lcI g tt te env ds st=some ((ds.filter p).map F,st)
 |[],_=>rfl
 |d::ds,h=>by
  obtain⟨e1,h1,h2,h3⟩:=h d qaf
  have ih:=rG (g:=g) (tt:=tt) (te:=te) (env:=env) (st:=st) p F (ds:=ds) λx hx=>h x (qal _ hx)
  unfold lcI
  rw[h1,qaa,h2,qaa]
  cases hp:p d with
  |true=>rw[if_pos rfl,h3 hp,qaa,ih,qgj,hp];rfl
  |false=>rw[if_neg qaH,ih,qgj,hp];rfl
theorem zo {g:Tg}{te:Ef}{env:Ev}{st:Sto} (F:D->D) {ds:List D} (h:∀ d∈ds,∃ e1,eH g (.d d) env=some e1/\te e1 st=some (.d (F d),st)):lcI g aS te env ds st=some (ds.map F,st):=by
 have:=rG (g:=g) (tt:=aS) (te:=te) (env:=env) (st:=st) (λ_=>true) F (ds:=ds) λd hd=>by
  obtain⟨e1,h1,h2⟩:=h d hd
  exact⟨e1,h1,rfl,λ_=>h2⟩
 rw[this,qfF.mpr λ_ _=>rfl]
def bZ (st:Sto) (n:Nat):Prop:=∃ x y z:Int,0<=x/\st[n]?=some (.l [.int x,.int y,.int z])
def Stp (n:Nat) (st st':Sto):Prop:=(∃ v,st'=st.set n v)/\bZ st' n
theorem bZ.lt {st:Sto}{n:Nat} (h:bZ st n):n<st.length:=by
 obtain⟨x,y,z,_,e⟩:=h
 exact (qar.mp e).1
theorem Stp.refl {st:Sto}{n:Nat} (h:bZ st n):Stp n st st:=by
 obtain⟨x,y,z,h0,e⟩:=id h
 exact⟨⟨_,(List.set_getElem_self (h.lt)).symm⟩,h⟩
theorem Stp.trans {n:Nat}{a b c:Sto} (h:Stp n a b) (h':Stp n b c):Stp n a c:=by
 obtain⟨⟨v,rfl⟩,_⟩:=h
 obtain⟨⟨u,rfl⟩,q⟩:=h'
 exact⟨⟨u,by rw[qer]⟩,q⟩
theorem Stp.hand {n:Nat}{a b:Sto} (h:Stp n a b):bZ b n:=h.2
theorem Stp.len {n:Nat}{a b:Sto} (h:Stp n a b):b.length=a.length:=by obtain⟨⟨v,rfl⟩,_⟩:=h;rw[qbw]
theorem Stp.take {n:Nat}{a b:Sto} (h:Stp n a b):b.take a.length=b:=by rw[<-h.len,qcY]
theorem gT {a b:Int} (h:-(2^64)<a/\a<2^64):qbh a b:=zi.ok (.inl h)
theorem mL {a b:Int} (h:-(2^64)<b/\b<2^64):qbh a b:=zi.ok (.inr h)
theorem kR {st:Sto}{n:Nat}{v:C} (h:n<st.length):(st.set n v)[n]?=some v:=qba h
theorem xj {α:Type} (a:α) (l:List α):atI (a::l) 0=some a:=eM (j:=0) rfl
theorem Cu {α:Type} (a b:α) (l:List α):atI (a::b::l) 1=some b:=eM (j:=1) rfl
theorem AL {α:Type} (a b c:α) (l:List α):atI (a::b::c::l) 2=some c:=eM (j:=2) rfl
theorem Dc (n:Nat):ixN (n+1) 0=some 0:=fI (j:=0) (by lia)
theorem CA (n:Nat):ixN (n+2) 1=some 1:=fI (j:=1) (by lia)
theorem Au (n:Nat):ixN (n+3) 2=some 2:=fI (j:=2) (by lia)
theorem bZ.app {st:Sto}{n:Nat} (h:bZ st n) (u:Sto):bZ (st++u) n:=by
 obtain⟨x,y,z,h0,e⟩:=id h
 exact⟨x,y,z,h0,by rw[qas h.lt];exact e⟩
theorem Stp.unapp {n:Nat}{a s:Sto}{u:Sto} (hn:n<a.length) (h:Stp n (a++u) s):∃ b,s=b++u/\Stp n a b:=by
 obtain⟨⟨v,rfl⟩,x,y,z,h0,e⟩:=h
 rw[List.set_append_left _ _ hn]at e ⊢
 exact⟨_,rfl,⟨v,rfl⟩,x,y,z,h0,by rw[qas (by rw[qbw];exact hn)]at e;exact e⟩
end L2
namespace L2
open PySem PySem.Spec PyProof.Rows
section
variable {prog:qa5}{w:World}{A:qbd}{E:Value->qam->Prop}{s:qam}{κ:qeB}{O:qfe}{rk:Keyed->O.α}{S:Keyed->Prop}
variable {a0:Array Keyed}{lo:Nat}{p0:Array (Nat×Nat×Nat)}{g0:Nat}{st:qgb}
end
section
variable {prog:qa5}{w:World}{A:qbd}{E:Value->qam->Prop}{s:qam}{κ:qeB}{O:qfe}{rk:Keyed->O.α}{S:Keyed->Prop}
variable {a0:Array Keyed}{lo:Nat}{p0:Array (Nat×Nat×Nat)}{g0:Nat}{st:qgb}
end
section
variable {prog:qa5}{w:World}{A:qbd}{E:Value->qam->Prop}{s:qam}{κ:qeB}{O:qfe}{rk:Keyed->O.α}{S:Keyed->Prop}
variable {a0:Array Keyed}{lo:Nat}{p0:Array (Nat×Nat×Nat)}{g0:Nat}{st:qgb}
end
section
variable {O:qfe}{rk:Keyed->O.α}
variable {a b out:Array Keyed}{ia ib:Nat}
variable {na nb:Nat}
end
section
variable {prog:qa5}{w:World}{A:qbd}{E:Value->qam->Prop}{s:qam}{κ:qeB}{O:qfe}{rk:Keyed->O.α}{S:Keyed->Prop}{st:qgb}{a b:Array Keyed}
end
section
variable {prog:qa5}{w:World}{A:qbd}{E:Value->qam->Prop}{s:qam}{κ:qeB}{O:qfe}{rk:Keyed->O.α}{S:Keyed->Prop}{st:qgb}{a b out:Array Keyed}{na nb:Nat}
end
section
variable {prog:qa5}{w:World}{A:qbd}{E:Value->qam->Prop}{s:qam}{κ:qeB}{O:qfe}{rk:Keyed->O.α}{S:Keyed->Prop}{st:qgb}{arr:Array Keyed}{n1 n2:Nat}
end
section
variable {prog:qa5}{w:World}{A:qbd}{E:Value->qam->Prop}{s:qam}{κ:qeB}{O:qfe}{rk:Keyed->O.α}{S:Keyed->Prop}{st:qgb}{a0:Array Keyed}
end
end L2
namespace L2
open PySem PySem.Spec PyProof.Rows PySem.SeqAt
open MeetsSeq MeetsSeq2 MeetsSeq3 SeqRoads2
open AutoSeq1 (wpAny_loadPart')
section
variable {A:qbd}{s:qam}{p q:Addr}{us vs:Array Value}{e l:Nat->Bool}
end
end L2
namespace L2
open PySem PySem.Spec PyProof.Rows PySem.SeqAt PySem.W
section
variable {prog:qa5}{w:World}{A:qbd}{E:Value->qam->Prop}{s:qam}{x y:Value}{l m:List Int}
end
section
variable {prog:qa5}{w:World}{A:qbd}{E:Value->qam->Prop}{s:qam}{O:qfe}{rk:Keyed->O.α}{S:Keyed->Prop}{vs:List Value}
end
section
variable {prog:qa5}{w:World}{A:qbd}{E:Value->qam->Prop}{s:qam}
end
section
variable {K:qad}{X:Cx}{pins:List (Addr×Obj)}{σ:St}{H:Hp}{s:qam}{φ:List Addr}
end
end L2
namespace L2
open PySem PySem.Spec PyProof.Rows
open PySem.AutoSeq1 (wpAny_loadPart')
def SIt (k:Bool) (h:Heap) (it l:Addr) (i:Nat):Prop:=match k with
 |true=>h.IsTupleIter it l i
 |false=>h.IsListIter it l i
def SIs (k:Bool) (h:Heap) (l:Addr) (xs:Array Value):Prop:=match k with
 |true=>h.IsTuple l xs
 |false=>h.IsList l xs
theorem SIt.to {k:Bool}{h h':Heap}{it l:Addr}{i:Nat} (a:SIt k h it l i) (f:∀ o,h.get? it=some o->h'.get? it=some o):SIt k h' it l i:=by
 cases k with
 |true=>exact Heap.IsTupleIter.at a f
 |false=>exact Heap.IsListIter.at a f
theorem SIs.to {k:Bool}{h h':Heap}{l:Addr}{xs:Array Value} (a:SIs k h l xs) (f:∀ o,h.get? l=some o->h'.get? l=some o):SIs k h' l xs:=by
 cases k with
 |true=>obtain⟨o,e,r⟩:=a;exact⟨o,f o e,r⟩
 |false=>exact Heap.IsList.at a f
theorem SIt.live {k:Bool}{h:Heap}{it l:Addr}{i:Nat} (a:SIt k h it l i):∃ o vs,h.get? it=some o/\o.data=.fields vs:=by
 cases k with
 |true=>obtain⟨o,e,_,d⟩:=a;exact⟨o,_,e,d⟩
 |false=>obtain⟨o,e,_,d⟩:=a;exact⟨o,_,e,d⟩
section
variable {prog:qa5}{w:World}{A:qbd}{E:Value->qam->Prop}{s:qam}{k k2:Bool}
theorem pT {it l:Addr}{i:Nat}{xs:Array Value}{x:Value}{Q:Value->qam->Prop} (hit:SIt k s.heap it l i) (hl:SIs k s.heap l xs) (hx:xs[i]?=some x)
  (hQ:∀ h',SIt k h' it l (i+1)->qdf it s.heap h'->Q x { s with heap:=h' }):wpAny (model prog w) A (qa7 (.ref it)) Q E s:=by
 cases k with
 |true=>exact gX hit hl hx hQ
 |false=>exact wpAny_nextOf_list_item hit hl hx hQ
theorem xy {it l:Addr}{i:Nat}{xs:Array Value}{Q:Value->qam->Prop} (hh:A.handled=none) (hit:SIt k s.heap it l i) (hl:SIs k s.heap l xs) (hx:xs[i]?=none)
  (hE:∀ h' e,qhX it s.heap h'->(∃ o,h'.get? e=some o/\o.cls=.type "StopIteration")->E (.ref e) { s with heap:=h' }):wpAny (model prog w) A (qa7 (.ref it)) Q E s:=by
 cases k with
 |true=>exact iK hh hit hl hx hE
 |false=>exact wpAny_nextOf_list_end hh hit hl hx hE
variable {z TI TO i1 i2 l1 l2:Addr}{n:Nat}{xs ys:Array Value}{a b:Value}
structure ZSt (k k2:Bool) (z TI TO i1 i2 l1 l2:Addr) (f0:Value) (n:Nat) (h:Heap):Prop where
 z:IsZip h z TI TO f0
 ti:qff h TI (.ref i1) (.ref i2)
 to:∃ a b,qff h TO a b
 t1:SIt k h i1 l1 n
 t2:SIt k2 h i2 l2 n
set_option maxHeartbeats 1000000 in
theorem yc {x y:Value}{Q:Option Value->qam->Prop} (D:ZipApart z TI TO i1 i2 l1 l2) (hs:ZSt k k2 z TI TO i1 i2 l1 l2 .none n s.heap) (hl1:SIs k s.heap l1 xs) (hl2:SIs k2 s.heap l2 ys) (hx:xs[n]?=some x) (hy:ys[n]?=some y)
  (hQ:∀ h',ZSt k k2 z TI TO i1 i2 l1 l2 (qfx s.heap.objs.size) (n+1) h'->qff h' s.heap.objs.size x y->h'.objs.size=s.heap.objs.size+1->
    (∀ c o,c≠z->c≠TO->c≠i1->c≠i2->s.heap.get? c=some o->h'.get? c=some o)->Q (some (.ref s.heap.objs.size)) { s with heap:=h' }) :
  wpAny (model prog w) A (qf9 (.ref z)) Q E s:=by
 obtain⟨hz,hTI,⟨a,b,hTO⟩,h1,h2⟩:=hs
 have hT:s.TypeIs (.ref z) "zip":=⟨_,hz,rfl⟩
 unfold qf9
 refine qag (wpAny_attempt (qbV (name:=qdg "__next__") hT qdR (qcD qdR hT qgL ?_ (qgC _))))
 show wpAny _ _ (field (.ref z) 2 >>= _) _ _ _
 refine qag (qbP hz rfl (x:=.bool false) rfl ?_)
 show wpAny _ _ (field (.ref z) 3 >>= _) _ _ _
 refine qag (qbP hz rfl (x:=.ref TI) rfl (qag (qcd hTI rfl ?_)))
 show wpAny _ _ (qbL (.ref z) >>= _) _ _ _
 refine qag ?_
 unfold qbL
 refine qag (qbP hz rfl (x:=.none) rfl (qaE ?_))
 simp only[if_true]
 refine qag (qdC (qag (qbP hz rfl (x:=.ref TO) rfl ?_)))
 refine qag (qcl hz (by simp) λg1 hz1 s1=>?_)
 replace hz1:IsZip g1 z TI TO .ellipsis:=hz1
 refine qag ?_
 simp only[qgf,qgq,qeG,qdQ]
 have e1:=s1.extBut
 refine qag (qag (qeA ?_))
 show wpAny _ _ (qa7 (.ref i1) >>= _) _ _ _
 refine qag (pT (h1.to λo q=>e1 _ o D.i1z q) (hl1.to λo q=>e1 _ o D.l1z q) hx λg2 h12 s2=>qaE ?_)
 have e2:=s2.extBut
 have hTO2:qff g2 TO a b:=e2 _ _ D.TOi1 (e1 _ _ D.TOz hTO)
 refine qag (qcd hTO2 rfl (qag (qed hTO2 λg3 hTO3 s3=>?_)))
 replace hTO3:qff g3 TO x b:=hTO3
 have e3:=s3.extBut
 refine qag (qgu (qaE ?_))
 refine qag (qag (qeA ?_))
 show wpAny _ _ (qa7 (.ref i2) >>= _) _ _ _
 refine qag (pT (h2.to λo q=>e3 _ o D.TOi2.symm (e2 _ o D.i12.symm (e1 _ o D.i2z q))) (hl2.to λo q=>e3 _ o D.l2TO (e2 _ o D.l2i1 (e1 _ o D.l2z q))) hy λg4 h24 s4=>qaE ?_)
 have e4:=s4.extBut
 have hTO4:qff g4 TO x b:=e4 _ _ D.TOi2 hTO3
 refine qag (qcd hTO4 rfl (qag (qed hTO4 λg5 hTO5 s5=>?_)))
 replace hTO5:qff g5 TO x y:=hTO5
 have e5:=s5.extBut
 refine qag (qgu (qaE (qaE ?_)))
 refine qag (qcd hTO5 rfl (qag (wpAny_newTuple ?_)))
 have hsz:g5.objs.size=s.heap.objs.size:=by rw[s5.1,s4.1,s3.1,s2.1,s1.1]
 have hz5:IsZip g5 z TI TO .ellipsis:=e5 _ _ D.TOz.symm (e4 _ _ D.i2z.symm (e3 _ _ D.TOz.symm (e2 _ _ D.i1z.symm hz1)))
 have kp:∀ c o,c≠z->c≠TO->c≠i1->c≠i2->s.heap.get? c=some o->g5.get? c=some o:=λc o c1 c2 c3 c4 e=>e5 _ _ c2 (e4 _ _ c4 (e3 _ _ c2 (e2 _ _ c3 (e1 _ _ c1 e))))
 have h15:SIt k g5 i1 l1 (n+1):=h12.to λo q=>e5 _ o D.TOi1.symm (e4 _ o D.i12 (e3 _ o D.TOi1.symm q))
 have h25:SIt k2 g5 i2 l2 (n+1):=h24.to λo q=>e5 _ o D.TOi2.symm q
 have hzlt:z<g5.objs.size:=qaG hz5
 show wpAny _ _ (qc8 (.ref z) (.ref g5.objs.size) >>= _) _ _ _
 refine qag ?_
 unfold qc8
 have hz6:IsZip (g5.push { cls:=.type "tuple",data:=.seq #[x,y] }) z TI TO .ellipsis:=qak _ hz5
 refine qag (qcl hz6 (by simp) λg7 hz7 s7=>?_)
 replace hz7:IsZip g7 z TI TO (qfx g5.objs.size):=hz7
 refine qcl hz7 (by simp) λg8 hz8 s8=>?_
 replace hz8:IsZip g8 z TI TO (qfx g5.objs.size):=hz8
 have up:∀ c o,c≠z->g5.get? c=some o->g8.get? c=some o:=λc o c1 e=>s8.extBut _ _ c1 (s7.extBut _ _ c1 (qak _ e))
 have hT8:qff g8 g5.objs.size x y:=s8.extBut _ _ (qb6 hzlt) (s7.extBut _ _ (qb6 hzlt) (qaI _ rfl))
 have hz9:g8.objs.size=g5.objs.size+1:=by rw[s8.1,s7.1,qbi]
 rw[hsz]at hz8 hT8 hz9
 refine qaE ⟨_,rfl,qaE ?_⟩
 show Q (some (.ref g5.objs.size)) _
 rw[hsz]
 exact hQ g8 ⟨hz8,up _ _ D.TIz (kp _ _ D.TIz D.TITO D.TIi1 D.TIi2 hTI),⟨_,_,up _ _ D.TOz hTO5⟩,h15.to λo q=>up _ o D.i1z q,h25.to λo q=>up _ o D.i2z q⟩ hT8 hz9 λc o c1 c2 c3 c4 e=>up c o c1 (kp c o c1 c2 c3 c4 e)
set_option maxHeartbeats 1000000 in
theorem yy {Q:Option Value->qam->Prop} (hh:A.in1.handled=none) (D:ZipApart z TI TO i1 i2 l1 l2) (hs:ZSt k k2 z TI TO i1 i2 l1 l2 .none n s.heap) (hl1:SIs k s.heap l1 xs) (hl2:SIs k2 s.heap l2 ys) (hend:xs[n]?=none\/ys[n]?=none)
  (hQ:∀ h',(∀ c o,c≠z->c≠TO->c≠i1->c≠i2->s.heap.get? c=some o->h'.get? c=some o)->Q none { s with heap:=h' }):wpAny (model prog w) A (qf9 (.ref z)) Q E s:=by
 obtain⟨hz,hTI,⟨a,b,hTO⟩,h1,h2⟩:=hs
 have hT:s.TypeIs (.ref z) "zip":=⟨_,hz,rfl⟩
 have fin:∀ (h':Heap) (e:Addr),(∀ c o,c≠z->c≠TO->c≠i1->c≠i2->s.heap.get? c=some o->h'.get? c=some o)->(∃ o,h'.get? e=some o/\o.cls=.type "StopIteration")->
   wpAny (model prog w) A (do if (<-isInstance (.ref e) (.type "StopIteration")) then pure none else throw (.ref e)) Q E { s with heap:=h' }:=λh' e hk ⟨o,ho,hc⟩=>
  qag (wpAny_isInstance (T:="StopIteration") (b:=true) ⟨o,ho,hc⟩ isSubtype_stop (qaE (hQ _ hk)))
 unfold qf9
 refine qag (wpAny_attempt (qbV (name:=qdg "__next__") hT qdR (qcD qdR hT qgL ?_ (qgC _))))
 show wpAny _ _ (field (.ref z) 2 >>= _) _ _ _
 refine qag (qbP hz rfl (x:=.bool false) rfl ?_)
 show wpAny _ _ (field (.ref z) 3 >>= _) _ _ _
 refine qag (qbP hz rfl (x:=.ref TI) rfl (qag (qcd hTI rfl ?_)))
 show wpAny _ _ (qbL (.ref z) >>= _) _ _ _
 refine qag ?_
 unfold qbL
 refine qag (qbP hz rfl (x:=.none) rfl (qaE ?_))
 simp only[if_true]
 refine qag (qdC (qag (qbP hz rfl (x:=.ref TO) rfl ?_)))
 refine qag (qcl hz (by simp) λg1 hz1 s1=>?_)
 replace hz1:IsZip g1 z TI TO .ellipsis:=hz1
 refine qag ?_
 simp only[qgf,qgq,qeG,qdQ]
 have e1:=s1.extBut
 refine qag (qag (qeA ?_))
 show wpAny _ _ (qa7 (.ref i1) >>= _) _ _ _
 cases hx:xs[n]? with
 |none=>
  refine qag (xy hh (h1.to λo q=>e1 _ o D.i1z q) (hl1.to λo q=>e1 _ o D.l1z q) hx λg2 e s2 he=>?_)
  obtain⟨oe,hoe,hce⟩:=he
  have hz2:IsZip g2 z TI TO .ellipsis:=s2 _ _ D.i1z.symm hz1
  have hez:e≠z:=λx=>by subst x;rw[hz2]at hoe;cases hoe;simp at hce
  exact qcl hz2 (by simp) λg3 _ s3=>fin g3 e (λc o c1 _ c3 _ x=>s3.extBut _ _ c1 (s2 _ _ c3 (e1 _ _ c1 x))) ⟨oe,s3.extBut _ _ hez hoe,hce⟩
 |some x=>
  have hy:ys[n]?=none:=by rcases hend with h|h;rw[hx]at h;cases h;exact h
  refine qag (pT (h1.to λo q=>e1 _ o D.i1z q) (hl1.to λo q=>e1 _ o D.l1z q) hx λg2 h12 s2=>qaE ?_)
  have e2:=s2.extBut
  have hTO2:qff g2 TO a b:=e2 _ _ D.TOi1 (e1 _ _ D.TOz hTO)
  refine qag (qcd hTO2 rfl (qag (qed hTO2 λg3 hTO3 s3=>?_)))
  have e3:=s3.extBut
  refine qag (qgu (qaE ?_))
  refine qag (qag (qeA ?_))
  show wpAny _ _ (qa7 (.ref i2) >>= _) _ _ _
  refine qag (xy hh (h2.to λo q=>e3 _ o D.TOi2.symm (e2 _ o D.i12.symm (e1 _ o D.i2z q))) (hl2.to λo q=>e3 _ o D.l2TO (e2 _ o D.l2i1 (e1 _ o D.l2z q))) hy λg4 e s4 he=>?_)
  obtain⟨oe,hoe,hce⟩:=he
  have hz4:IsZip g4 z TI TO .ellipsis:=s4 _ _ D.i2z.symm (e3 _ _ D.TOz.symm (e2 _ _ D.i1z.symm hz1))
  have hez:e≠z:=λx=>by subst x;rw[hz4]at hoe;cases hoe;simp at hce
  exact qcl hz4 (by simp) λg5 _ s5=>fin g5 e (λc o c1 c2 c3 c4 x=>s5.extBut _ _ c1 (s4 _ _ c4 (e3 _ _ c2 (e2 _ _ c3 (e1 _ _ c1 x))))) ⟨oe,s5.extBut _ _ hez hoe,hce⟩
end
def Cd (k:Bool):Value:=if k=true then .type "tuple_iterator" else .type "list_iterator"
def mQ (k:Bool) (l:Addr):Obj:={ cls:=Cd k,data:=.fields #[.ref l,.int 0 0] }
abbrev zH1 (k:Bool) (h:Heap) (l1:Addr):Heap:=h.push (mQ k l1)
abbrev zH2 (k k2:Bool) (h:Heap) (l1 l2:Addr):Heap:=(zH1 k h l1).push (mQ k2 l2)
abbrev zH3 (k k2:Bool) (h:Heap) (l1 l2:Addr):Heap:=(zH2 k k2 h l1 l2).push { cls:=.type "tuple",data:=.seq #[.ref h.objs.size,.ref (zH1 k h l1).objs.size] }
abbrev zH4 (k k2:Bool) (h:Heap) (l1 l2:Addr):Heap:=(zH3 k k2 h l1 l2).push { cls:=.type "tuple",data:=.seq #[.none,.none] }
abbrev zH5 (k k2:Bool) (h:Heap) (l1 l2:Addr):Heap:=(zH4 k k2 h l1 l2).push { cls:=.type "zip",data:=.fields #[.none,.bool false,.bool false,.ref (zH2 k k2 h l1 l2).objs.size,.ref (zH3 k k2 h l1 l2).objs.size] }
section
variable {prog:qa5}{w:World}{A:qbd}{E:Value->qam->Prop}{s:qam}{k k2:Bool}
theorem rS {l:Addr}{xs:Array Value}{Q:Value->qam->Prop} (hl:SIs k s.heap l xs) (h:Q (.ref s.heap.objs.size) { s with heap:=s.heap.push (mQ k l) }):wpAny (model prog w) A (pyIter (.ref l)) Q E s:=by
 cases k with
 |true=>exact qcQ hl h
 |false=>exact qeJ hl h
theorem oS (l1 l2:Addr) (xs ys:Array Value) (k k2:Bool) :
  Meets (qgE.«zip.__new__» ⟨[.type "zip",.ref l1,.ref l2],[]⟩) (λ_ R s=>SIs k s.heap l1 xs/\SIs k2 s.heap l2 ys/\R (.ok (.ret (.ref (zH4 k k2 s.heap l1 l2).objs.size))) { s with heap:=zH5 k k2 s.heap l1 l2 }):=
 .of_wp λprog w A R s h=>by
  obtain⟨hp,g,d,tk,os⟩:=s
  obtain⟨hl1,hl2,h⟩:=h
  have hsub:=sub_zip
  have hL1:SIs k (qfh ⟨hp,g,d,tk,os⟩) l1 xs:=hl1
  have hL2:SIs k2 (qfh ⟨hp.push (mQ k l1),g,d,tk,os⟩) l2 ys:=hl2.to λo q=>qak _ q
  wp_walk using rS hL1,rS hL2
  exact⟨_,rfl,h⟩
theorem rB (k:Bool) {h:Heap}{it l:Addr} (e:h.get? it=some (mQ k l)):SIt k h it l 0:=by
 cases k with
 |true=>exact⟨_,e,rfl,rfl⟩
 |false=>exact⟨_,e,rfl,rfl⟩
theorem qA {l1 l2:Addr}{xs ys:Array Value}{Q:Value->qam->Prop} (hl1:SIs k s.heap l1 xs) (hl2:SIs k2 s.heap l2 ys)
  (h:∀ h',ZSt k k2 (s.heap.objs.size+4) (s.heap.objs.size+2) (s.heap.objs.size+3) s.heap.objs.size (s.heap.objs.size+1) l1 l2 .none 0 h'->
    (∀ c o,s.heap.get? c=some o->h'.get? c=some o)->Q (.ref (s.heap.objs.size+4)) { s with heap:=h' }) :
  wpAny (model prog w) A (call (.type "zip") [.ref l1,.ref l2]) Q E s:=by
 refine callType_new F.called_zip (by decide) (F.typeCall_zip_2 _ _) (F.newCall_zip_2 _ _) (λobj=>F.args_object_init_3 obj _ _) F.entry_zip_new (oS l1 l2 xs ys k k2) ⟨hl1,hl2,?_⟩
 have z1:(zH1 k s.heap l1).objs.size=s.heap.objs.size+1:=qbi ..
 have z2:(zH2 k k2 s.heap l1 l2).objs.size=s.heap.objs.size+2:=by rw[qbi,z1]
 have z3:(zH3 k k2 s.heap l1 l2).objs.size=s.heap.objs.size+3:=by rw[qbi,z2]
 have z4:(zH4 k k2 s.heap l1 l2).objs.size=s.heap.objs.size+4:=by rw[qbi,z3]
 have up:∀ {h:Heap}{o':Obj}{c:Addr}{o:Obj},h.get? c=some o->(h.push o').get? c=some o:=λe=>qak _ e
 have g5:(zH5 k k2 s.heap l1 l2).get? (zH4 k k2 s.heap l1 l2).objs.size=some _:=qaI _ rfl
 have g4:(zH5 k k2 s.heap l1 l2).get? (zH3 k k2 s.heap l1 l2).objs.size=some _:=up (qaI _ rfl)
 have g3:(zH5 k k2 s.heap l1 l2).get? (zH2 k k2 s.heap l1 l2).objs.size=some _:=up (up (qaI _ rfl))
 have g2:(zH5 k k2 s.heap l1 l2).get? (zH1 k s.heap l1).objs.size=some (mQ k2 l2):=up (up (up (qaI _ rfl)))
 have g1:(zH5 k k2 s.heap l1 l2).get? s.heap.objs.size=some (mQ k l1):=up (up (up (up (qaI _ rfl))))
 show _/\_
 rw[z2,z3,z4]at g5
 rw[z1,z2]at g3
 rw[z3]at g4
 rw[z1]at g2
 rw[z4]
 exact⟨⟨_,g5,rfl⟩,h _ ⟨g5,g3,⟨_,_,g4⟩,rB k g1,rB k2 g2⟩ λc o x=>up (up (up (up (up x))))⟩
end
def SqK (k:Bool) (K:qad) (H:Hp) (a:Addr) (xs:List V):Prop:=match k with
 |true=>SqT K H a xs
 |false=>SqL K H a xs
def Itz (S1 S2:Hp->List V->Prop):It:=
 ⟨λi H=>∃ xs ys x y,S1 H xs/\S2 H ys/\xs[i]?=some x/\ys[i]?=some y,λi H x H'=>∃ T v u,(∀ xs,S1 H xs->xs[i]?=some v)/\(∀ ys,S2 H ys->ys[i]?=some u)/\H T=none/\x=.ref T/\H'=upd H T (.tup [v,u]),
  λi H=>∃ xs ys,S1 H xs/\S2 H ys/\(xs[i]?=none\/ys[i]?=none)⟩
theorem Inv.seqK {X:Cx}{pins:List (Addr×Obj)}{σ:St}{H:Hp}{s:qam}{k:Bool}{a:Addr}{xs:List V} (I:Inv X pins σ H s) (h:SqK k X.K H a xs):∃ its:List Value,bf xs its/\SIs k s.heap a its.toArray:=by
 cases k with
 |true=>obtain⟨its,r,p,_⟩:=I.tuple h;exact⟨its,r,p⟩
 |false=>obtain⟨its,r,p,_⟩:=I.list h;exact⟨its,r,p.isList⟩
theorem Inv.seqK_inj {X:Cx}{pins:List (Addr×Obj)}{σ:St}{H:Hp}{s:qam}{k:Bool}{a:Addr}{xs ys:List V} (I:Inv X pins σ H s) (h:SqK k X.K H a xs) (h':SqK k X.K H a ys):xs=ys:=by
 cases k with
 |true=>exact I.tuple_inj h h'
 |false=>exact I.list_inj h h'
theorem xC {P:qa5}{w:World}{K:qad}{elts:List Expr}{kk:Nat}{pos:Pos}{k k2:Bool}{z TI TO i1 i2 l1 l2:Addr} (D:ZipApart z TI TO i1 i2 l1 l2) :
  uw P w K (.Tuple elts kk pos) (Itz (λH xs=>SqK k K H l1 xs) λH xs=>SqK k2 K H l2 xs) [z,TI,TO,i1,i2] z (λi h=>ZSt k k2 z TI TO i1 i2 l1 l2 .none i h) where
 mem:=by simp
 obj:=λi h st b hb=>by
  simp only[qaP,qbx,or_false]at hb
  rcases hb with rfl|rfl|rfl|rfl|rfl
  ·exact⟨_,st.z,λv z=>by cases z⟩
  ·exact⟨_,st.ti,λv z=>by cases z⟩
  ·obtain⟨a,b,e⟩:=st.to;exact⟨_,e,λv z=>by cases z⟩
  ·obtain⟨o,vs,e,d⟩:=st.t1.live;exact⟨o,e,λv z=>by rw[d]at z;cases z⟩
  ·obtain⟨o,vs,e,d⟩:=st.t2.live;exact⟨o,e,λv z=>by rw[d]at z;cases z⟩
 keep:=λi h h' st kp=>by
  obtain⟨a,b,e⟩:=st.to
  exact⟨kp z (by simp) _ st.z,kp TI (by simp) _ st.ti,⟨a,b,kp TO (by simp) _ e⟩,st.t1.to λo q=>kp i1 (by simp) o q,st.t2.to λo q=>kp i2 (by simp) o q⟩
 item:=by
  intro X hP hw hK hc i pins s σ H E I hf st hg
  subst hP hw hK
  obtain⟨xs,ys,x,y,hq1,hq2,hx,hy⟩:=hg
  obtain⟨us,rv1,p1⟩:=I.seqK hq1
  obtain⟨vs,rv2,p2⟩:=I.seqK hq2
  obtain⟨u,hu,ru⟩:=rv1.get hx
  obtain⟨v,hv,rv⟩:=rv2.get hy
  refine yc D st p1 p2 (x:=u) (y:=v) (by simpa using hu) (by simpa using hv) λh1 st1 hT hsz kp=>⟨_,rfl,?_⟩
  refine wpAny_letOwnedTupleGo_zip st1.z λh2 hz2 s2=>?_
  have e2:=s2.extBut
  obtain⟨c1,c2,hto⟩:=st1.to
  have nz:∀ b∈[z,TI,TO,i1,i2],b≠s.heap.objs.size:=λb hb e=>by
   obtain⟨o,ho,_⟩:=(show ∃ o,s.heap.get? b=some o/\True by
    simp only[qaP,qbx,or_false]at hb
    obtain⟨a',b',e'⟩:=st.to
    obtain⟨o1,_,q1,_⟩:=st.t1.live
    obtain⟨o2,_,q2,_⟩:=st.t2.live
    rcases hb with rfl|rfl|rfl|rfl|rfl
    ·exact⟨_,st.z,trivial⟩
    ·exact⟨_,st.ti,trivial⟩
    ·exact⟨_,e',trivial⟩
    ·exact⟨_,q1,trivial⟩
    ·exact⟨_,q2,trivial⟩)
   have:=qaG ho
   rw[e]at this
   exact qa2 _ this
  have hT2:eL h2 s.heap.objs.size #[u,v]:=⟨_,e2 _ _ (qbu (nz z (by simp))) hT,rfl,⟨_,rfl⟩,rfl⟩
  refine⟨.ref s.heap.objs.size,upd H s.heap.objs.size (.tup [x,y]),?_,rfl,⟨s.heap.objs.size,x,y,λzs hz=>by rw[I.seqK_inj hz hq1];exact hx,λzs hz=>by rw[I.seqK_inj hz hq2];exact hy,I.hok.fresh (qan _),rfl,rfl⟩,?_,λb hb=>?_⟩
  ·have I2:Inv X pins σ (upd H s.heap.objs.size (.tup [x,y])) { s with heap:=h2,toks:=s.toks }:=I.turnsT (fp:=[z,TI,TO,i1,i2]) (h':=h2) (t':=s.toks) (its:=#[u,v]) hf (λb o hb q=>by
    simp only[qaP,qbx,or_false,not_or]at hb
    exact e2 b o hb.1 (kp b o hb.1 hb.2.2.1 hb.2.2.2.1 hb.2.2.2.2 q)) (qan _) hT2 (.cons ru (.cons rv .nil)) (by show 2<=qaS;decide)
   exact I2
  ·exact⟨hz2,e2 _ _ D.TIz st1.ti,⟨c1,c2,e2 _ _ D.TOz hto⟩,st1.t1.to λo q=>e2 _ o D.i1z q,st1.t2.to λo q=>e2 _ o D.i2z q⟩
  ·rw[upd_ne (nz b hb)];exact (hf b hb).1
 done:=by
  intro X hP hw hK hc i pins s σ H E I hf st hg
  subst hP hw hK
  obtain⟨xs,ys,hq1,hq2,hend⟩:=hg
  obtain⟨us,rv1,p1⟩:=I.seqK hq1
  obtain⟨vs,rv2,p2⟩:=I.seqK hq2
  have hl1:=rv1.length
  have hl2:=rv2.length
  refine yy (I.ok.hd hc) D st p1 p2 (by
   rcases hend with h|h
   ·left;rw[qcq]at h;simp;lia
   ·right;rw[qcq]at h;simp;lia) λh' kp=>⟨rfl,I.turns (t':=s.toks) (fp:=[z,TI,TO,i1,i2]) hf λb o hb q=>?_⟩
  simp only[qaP,qbx,or_false,not_or]at hb
  exact kp b o hb.1 hb.2.2.1 hb.2.2.2.1 hb.2.2.2.2 q
 self:=λ_ _ _ _ _ st h=>qg6 st.z h
def C1 (K:qad) (k k2:Bool) (ta:TA):L2.TI:=λσ H R=>ta σ H λvs H1=>∃ a b,vs=[.ref a,.ref b]/\(∃ xs,SqK k K H1 a xs)/\(∃ xs,SqK k2 K H1 b xs)/\R (Itz (λH xs=>SqK k K H a xs) λH xs=>SqK k2 K H b xs) H1
theorem Bp {X:Cx}{elts:List Expr}{kk:Nat}{tpos:Pos}{a b:Expr}{ta:TA}{p pos:Pos}{k k2:Bool} (hg:Gl X "zip") (hm:X.mg "zip" = none) (ha:PA X [a,b] ta) (hs:qbl [a,b] X.env=[(false,eval a X.env),(false,eval b X.env)]:=by rfl) (hs2:qbl [b] X.env=[(false,eval b X.env)]:=by rfl) :
  PI X (.Tuple elts kk tpos) (.Call (.Name "zip" p) [a,b] [] pos) (C1 X.K k k2 ta):=by
 intro pins s σ H R I h
 refine Call_ (kH I hg hm boot_zip (qbQ (thn (ha pos pins s σ H _ I h) λus s1 ⟨vs,H1,I1,r1,q1⟩=>?_) (by rw[hs,hs2]) (by rw[hs2];rfl)))
 obtain⟨l,m,e,⟨xs,hq⟩,⟨ys,hq2⟩,q⟩:=q1
 subst e
 cases r1 with
 |cons r rr=>
  cases rr with
  |cons r' rr=>
   cases rr
   cases r
   cases r'
   obtain⟨us,rv1,p1⟩:=I1.seqK hq
   obtain⟨vs,rv2,p2⟩:=I1.seqK hq2
   have lt:∀ {k:Bool}{l:Addr}{us:Array Value},SIs k s1.heap l us->l<s1.heap.objs.size:=λ{k l us} hl=>by
    cases k with
    |true=>obtain⟨_,he,_⟩:=hl;exact qaG he
    |false=>obtain⟨_,he,_⟩:=hl;exact qaG he
   refine qA p1 p2 λh' hst hk=>qg6 hst.z ?_
   refine⟨_,[s1.heap.objs.size+4,s1.heap.objs.size+2,s1.heap.objs.size+3,s1.heap.objs.size,s1.heap.objs.size+1],_,_,H1,rfl,I1.kept (t':=s1.toks) hk,xC (zipApart_new (lt p1) (lt p2)),hst,λb hb=>?_,q⟩
   have hb':s1.heap.objs.size<=b:=by
    simp only[qaP,qbx,or_false]at hb
    rcases hb with rfl|rfl|rfl|rfl|rfl
    ·exact qcw _ 4
    ·exact qcw _ 2
    ·exact qcw _ 3
    ·exact qan _
    ·exact qcw _ 1
   exact I1.fpOk hb' (I1.hok.fresh hb')
def jr:List D->List D->List D
 |d::ds,e::es=>.tup [d,e]::jr ds es
 |_,_=>[]
def Ap:W->Option (Bool×List D)
 |.d (.tup ds)=>some (true,ds)
 |.d (.lst ds)=>some (false,ds)
 |_=>none
def eF (af:Af):Lf
 |env,st=>(af env st).bind λr=>match r.1 with
  |[x,y]=>(Ap x).bind λa=>(Ap y).map λb=>(jr a.2 b.2,r.2)
  |_=>none
theorem iI:∀ (ds es:List D) (i:Nat),(jr ds es)[i]?=(ds[i]?).bind λd=>(es[i]?).map λe=>D.tup [d,e]
 |[],es,i=>by simp[jr]
 |d::ds,[],i=>by cases i<;>simp[jr]
 |d::ds,e::es,0=>by simp[jr]
 |d::ds,e::es,i+1=>by simpa [jr] using iI ds es i
theorem rK:∀ (ds es:List D),(jr ds es).length=min ds.length es.length
 |[],es=>by simp[jr]
 |d::ds,[]=>by simp[jr]
 |d::ds,e::es=>by simp[jr,rK ds es]
section
variable {K:qad}{X:Cx}{a b:Expr}{pos:Pos}{af:Af}
theorem uM {st:Sto}{H:Hp}{φ:List Addr}{w:W}{v:V}{p:Bool×List D} (r:Rw K H φ w v) (e:Ap w=some p) (S:Sr K H φ st):∃ a vs,v=.ref a/\SqK p.1 K H a vs/\(∀ H' φ',Fw φ φ' H H'->SqK p.1 K H' a vs)/\Rls K H φ p.2 vs:=by
 cases w with
 |h n=>cases e
 |d x=>
  cases x with
  |tup ds=>
   cases e
   obtain⟨a,us,rfl,hq,hr⟩:=r
   exact⟨a,us,rfl,(SqT.of hq),λH' φ' f=>(SqT.of hq).fw S f,hr⟩
  |lst ds=>
   cases e
   obtain⟨a,us,rfl,h0,hq,hr⟩:=r
   exact⟨a,us,rfl,.inl hq,λH' φ' f=>.inl (hq.fw f h0),hr⟩
  |_=>cases e
theorem Ar {S1 S2:Hp->List V->Prop}{ds es:List D}{vs us:List V}{φ:List Addr}{H:Hp} (h1:∀ H' φ',Fw φ φ' H H'->S1 H' vs) (h2:∀ H' φ',Fw φ φ' H H'->S2 H' us) (r1:∀ H' φ',Fw φ φ' H H'->Rls K H' φ' ds vs) (r2:∀ H' φ',Fw φ φ' H H'->Rls K H' φ' es us) :
  Yl K φ H (Itz S1 S2) (jr ds es):=by
 intro H2 φ2 st2 i f2 s2
 have q1:=h1 H2 φ2 f2
 have q2:=h2 H2 φ2 f2
 have w1:=r1 H2 φ2 f2
 have w2:=r2 H2 φ2 f2
 refine⟨λd hd=>?_,λhi=>⟨vs,us,q1,q2,?_⟩⟩
 ·rw[iI,qab]at hd
  obtain⟨d1,hd1,hd⟩:=hd
  obtain⟨d2,hd2,rfl⟩:=qae.mp hd
  obtain⟨v,ev,rv⟩:=w1.get hd1
  obtain⟨u,eu,ru⟩:=w2.get hd2
  refine⟨⟨vs,us,v,u,q1,q2,ev,eu⟩,λx H' y=>?_⟩
  obtain⟨T,v',u',y1,y2,hT,rfl,rfl⟩:=y
  have z1:=y1 vs q1
  have z2:=y2 us q2
  rw[ev]at z1
  rw[eu]at z2
  cases z1
  cases z2
  exact⟨bv.new hT _,T,_,rfl,upd_same,_,_,rfl,rv.fw s2 (Fw.new hT),_,_,rfl,ru.fw s2 (Fw.new hT),rfl⟩
 ·rw[rK]at hi
  have l1:=w1.length
  have l2:=w2.length
  rw[qcq,qcq]
  lia
theorem lO {elts:List Expr}{k:Nat}{tpos p:Pos} (hg:Gl X "zip") (hm:X.mg "zip" = none) (ha:IA K X [a,b] af) (hs:aR a=true:=by rfl) (hs2:aR b=true:=by rfl) (hK:X.K=K:=by rfl) :
  II K X (.Tuple elts k tpos) (.Call (.Name "zip" p) [a,b] [] pos) (eF af):=by
 subst hK
 refine⟨λenv st r hr=>?_⟩
 simp only[eF,qab]at hr
 obtain⟨⟨ws,s1⟩,hy,hr⟩:=hr
 match ws,hr with
 |[x,y],hr=>
  simp only[qab,qae]at hr
  obtain⟨p1,hp1,p2,hp2,rfl⟩:=hr
  refine (Bp (k:=p1.1) (k2:=p2.1) hg hm (ha.run _ _ _ hy) (xE hs hs2) (jC hs2)).imp ?_
  rintro σ H R ⟨φ,hE,hS,q⟩
  refine⟨φ,hE,hS,λvs H1 φ1 f1 s1 w1=>?_⟩
  obtain⟨v,r,rfl,rx,v2,r',rfl,ry,rfl⟩:=w1
  obtain⟨a,us,rfl,hq,hq',hr⟩:=uM rx hp1 s1
  obtain⟨b,us2,rfl,hq2,hq2',hr2⟩:=uM ry hp2 s1
  exact⟨a,b,rfl,⟨us,hq⟩,⟨us2,hq2⟩,q _ H1 φ1 f1 s1 (Ar hq' hq2' (λH' φ' f=>hr.fw s1 f) λH' φ' f=>hr2.fw s1 f)⟩
end
end L2
namespace L2
open PySem PySem.Spec PyProof.Rows
section
variable {prog:qa5}{w:World}{A:qbd}{s:qam}{I l S:Addr}{items:Array Value}{ns:List Int}{kw:List (Str×Value)}{R:Result->qam->Prop}
variable {E:Value->qam->Prop}
end
section
variable {K:qad}{X:Cx}{e a b:Expr}{es:List Expr}{pos:Pos}{f fa fb:Ef}{af:Af}
end
section
variable {K:qad}{X:Cx}
def CM (b:Bool):D->Bool
 |.bl c=>c==b
 |_=>false
def zS (_:Sto):W->W->Option D
 |.d x,.d (.bl b)=>some (.bl (!CM b x))
 |_,_=>none
theorem mW {M:Model}{A:qbd}{E:Value->qam->Prop}{s:qam}{Q:Value->qam->Prop}{v:Value}{b:Bool} (hb:∀ id,v≠.builtin id) (h:Q (.bool (!(v==.bool b))) s):wpAny M A (qbv .IsNot v (.bool b)) Q E s:=by
 cases v<;>first|exact qaE h|exact absurd rfl (hb _)
theorem CU {H:Hp}{φ:List Addr}{d:D}{v:V}{u:Value}{b:Bool} (r:Rl K H φ d v) (q:bJ v u):CM b d=(u==.bool b):=by
 cases d with
 |bl c=>
  have r':v=.bl c:=r
  subst r'
  have q':u=.bool c:=q
  subst q'
  cases c<;>cases b<;>rfl
 |non=>have r':v=.non:=r;subst r';have q':u=.none:=q;subst q';rfl
 |int i=>have r':v=.int i:=r;subst r';obtain⟨t,rfl⟩:=q;rfl
 |str i=>have r':v=.str i:=r;subst r';obtain⟨t,rfl⟩:=q;rfl
 |ty i=>have r':v=.ty i:=r;subst r';have q':u=.type i:=q;subst q';rfl
 |dct=>obtain⟨a,rfl,_⟩:=r;have q':u=.ref a:=q;subst q';rfl
 |scr ns=>obtain⟨a,rfl,_⟩:=r;have q':u=.ref a:=q;subst q';rfl
 |tup ds=>obtain⟨a,vs,rfl,_⟩:=r;have q':u=.ref a:=q;subst q';rfl
 |lst ds=>obtain⟨a,vs,rfl,_⟩:=r;have q':u=.ref a:=q;subst q';rfl
 |ob ns ds=>obtain⟨a,_,_,_,vs,rfl,_⟩:=r;have q':u=.ref a:=q;subst q';rfl
theorem yL {H:Hp}{φ:List Addr}{d:D}{v:V}{u:Value} (r:Rl K H φ d v) (q:bJ v u):∀ id,u≠.builtin id:=by
 intro id e
 subst e
 cases d with
 |bl c=>have r':v=.bl c:=r;subst r';cases q
 |non=>have r':v=.non:=r;subst r';cases q
 |int i=>have r':v=.int i:=r;subst r';obtain⟨t,h⟩:=q;cases h
 |str i=>have r':v=.str i:=r;subst r';obtain⟨t,h⟩:=q;cases h
 |ty i=>have r':v=.ty i:=r;subst r';cases q
 |dct=>obtain⟨a,rfl,_⟩:=r;cases q
 |scr ns=>obtain⟨a,rfl,_⟩:=r;cases q
 |tup ds=>obtain⟨a,vs,rfl,_⟩:=r;cases q
 |lst ds=>obtain⟨a,vs,rfl,_⟩:=r;cases q
 |ob ns ds=>obtain⟨a,_,_,_,vs,rfl,_⟩:=r;cases q
theorem zu:OpD K X (qbv .IsNot) zS:=by
 refine⟨λst x y d h=>?_⟩
 match x,y,h with
 |.d x,.d (.bl b),h=>
  cases h
  intro pins s σ H vx vy v u Q I rx ry hq
  obtain⟨φ,S,r1,r2,q⟩:=hq
  have r2':vy=.bl b:=r2
  subst r2'
  have ry':u=.bool b:=ry
  subst ry'
  exact mW (yL r1 rx) (tE I (q _ H (bv.refl H) rfl) (by rw[CU r1 rx]))
end
section
variable {K:qad}{X:Cx}{pos:Pos}{a b:Expr}{af:Af}
end
def tV (ds:List D):List W->Option (D×List D)
 |[.d (.int i)]=>(ixN ds.length i).bind λk=>(ds[k]?).bind λd=>if dR d=true/\-(2^62)<=i/\i<2^62 then some (d,ds.eraseIdx k) else none
 |_=>none
section
variable {K:qad}{X:Cx}{pos:Pos}{e a b c:Expr}{es:List Expr}{f fa fb:Ef}{af:Af}
theorem Rls.erase {H:Hp}{φ:List Addr}:∀ {ds:List D}{vs:List V} (n:Nat),Rls K H φ ds vs->Rls K H φ (ds.eraseIdx n) (vs.eraseIdx n)
 |[],_,_,h=>by cases h;exact rfl
 |d::ds,_,0,h=>by
  obtain⟨v,r,rfl,h1,h2⟩:=h
  exact h2
 |d::ds,_,n+1,h=>by
  obtain⟨v,r,rfl,h1,h2⟩:=h
  exact⟨v,_,rfl,h1,Rls.erase n h2⟩
theorem AC {apos:Pos} (ho:IE K X a fa) (ha:IA K X (e::es) af) (hbase:qcs a "pop" X.env (eval a X.env)=eval a X.env:=by rfl)
  (hall:(e::es).all aR=true:=by rfl) (hfl30:(e::es).length<30:=by decide) (hline:(apos.endLine==pos.line)=true:=by rfl) (hK:X.K=K:=by rfl) :
  IE K X (.Call (.Attribute a "pop" apos) (e::es) [] pos) (dQ tV fa af):=by
 refine xT PySem.F.slot_list_pop PySem.F.type_list_pop xU (λH φ st n ad ds vs ws us y Q S ea eds hv rl rw hy q=>?_) (λds ws y h=>?_) ho ha hbase hall hfl30 hline hK
 ·match ws,hy with
  |[.d (.int i)],hy=>
   simp only[tV,qab]at hy
   obtain⟨k,hk,d,hd,hy⟩:=hy
   split at hy
   ·rename_i hl
    cases hy
    obtain⟨v,r,rfl,r1,rfl⟩:=rw
    obtain⟨x,ex,rx⟩:=rl.get hd
    refine⟨ad,vs,i,k,x,rfl,by rw[show v=.int i from r1],hv,by lia,by lia,by rw[<-rl.length];exact (mC hk).1,ex,q _ _ rx (rl.erase k) λb z=>?_⟩
    obtain⟨z1,z2⟩:=hJ hl.1 rx
    rw[z]at z2
    cases z2
   ·cases hy
 ·match ws,h with
  |[.d (.int i)],h=>
   simp only[tV,qab]at h
   obtain⟨k,hk,d,hd,h⟩:=h
   split at h
   ·rename_i hl
    cases h;exact hl.1
   ·cases h
end
def aw (f:Str) (a:Ef):Ef
 |env,st=>(a env st).bind λx=>match x.1 with
 |.d (.ob ns ds)=>((ns.zip ds).lookup f).map λd=>(.d d,x.2)
 | .h n=>(match x.2[n]? with
  |some (.o fs)=>(fs.lookup f).map λw=>(w,x.2)
  |_=>none)
 |_=>none
section
variable {K:qad}{H:Hp}{φ:List Addr}
theorem rP {f:Str}{d:D}:∀ {ns:List Str}{ds:List D}{vs:List V},Rls K H φ ds vs->(ns.zip ds).lookup f=some d->∃ v,(ns.zip vs).lookup f=some v/\Rl K H φ d v/\f∈ns
 |[],ds,vs,r,h=>by rw[List.zip_nil_left]at h;cases h
 |n::ns,[],vs,r,h=>by rw[List.zip_nil_right]at h;cases h
 |n::ns,x::ds,vs,r,h=>by
  obtain⟨v,r',rfl,r1,r2⟩:=r
  rw[qeb,qbn]at h ⊢
  by_cases e:(f==n)=true
  ·rw[e]at h ⊢
   cases h
   exact⟨v,rfl,r1,by rw[beq_iff_eq.mp e];exact qaf⟩
  ·rw[show (f==n)=false by simpa using e]at h ⊢
   obtain⟨v',h1,h2,h3⟩:=rP r2 h
   exact⟨v',h1,h2,qal _ h3⟩
theorem Rfs.look {f:Str}{w:W}:∀ {fs:List (Str×W)}{vs:List (Str×V)},Rfs K H φ fs vs->fs.lookup f=some w->∃ v,vs.lookup f=some v/\Rw K H φ w v/\∃ p∈fs,p.1=f
 |[],vs,r,h=>by cases h
 |(n,x)::fs,vs,r,h=>by
  obtain⟨v,r',rfl,r1,r2⟩:=r
  rw[qbn]at h ⊢
  by_cases e:(f==n)=true
  ·rw[e]at h ⊢
   cases h
   exact⟨v,rfl,r1,_,qaf,(beq_iff_eq.mp e).symm⟩
  ·rw[show (f==n)=false by simpa using e]at h ⊢
   obtain⟨v',h1,h2,p,hp,h3⟩:=Rfs.look r2 h
   exact⟨v',h1,h2,p,qal _ hp,h3⟩
theorem Rfs.length:∀ {fs:List (Str×W)}{vs:List (Str×V)},Rfs K H φ fs vs->fs.length=vs.length
 |[],vs,r=>by cases r;rfl
 |(n,x)::fs,vs,r=>by
  obtain⟨v,r',rfl,r1,r2⟩:=r
  rw[qat,qat,Rfs.length r2]
theorem Rfs.mem {m:Nat}:∀ {fs:List (Str×W)}{vs:List (Str×V)},Rfs K H φ fs vs->W.h m∈fs.map (·.2)->m<φ.length
 |[],_,_,hm=>nomatch hm
 |(n,x)::fs,_,r,hm=>by
  obtain⟨v,r',rfl,r1,r2⟩:=r
  rcases qaP.mp hm with z|z
  ·dsimp only at z
   subst z
   obtain⟨a,e,_⟩:=r1
   exact (qar.mp e).1
  ·exact Rfs.mem r2 z
def lM (f:Str) (w:W):List (Str×W)->List (Str×W)
 |[]=>[(f,w)]
 |(g,x)::r=>if g=f then (g,w)::r else (g,x)::lM f w r
theorem Rfs.put {f:Str}{w:W}{v:V} (rw':Rw K H φ w v):∀ {fs:List (Str×W)}{vs:List (Str×V)},Rfs K H φ fs vs->Rfs K H φ (lM f w fs) (iF f v vs)
 |[],_,r=>by cases r;exact⟨v,[],rfl,rw',rfl⟩
 |(g,x)::fs,_,r=>by
  obtain⟨v',r',rfl,r1,r2⟩:=r
  unfold lM iF
  by_cases e:g=f
  ·rw[if_pos e,if_pos e];exact⟨v,r',rfl,rw',r2⟩
  ·rw[if_neg e,if_neg e];exact⟨v',_,rfl,r1,Rfs.put rw' r2⟩
theorem mO {f:Str}{w:W}:∀ {fs:List (Str×W)}{p:Str×W},p∈lM f w fs->p∈fs\/p=(f,w)
 |[],p,h=>.inr (qaj.mp h)
 |(g,x)::fs,p,h=>by
  unfold lM at h
  by_cases e:g=f
  ·rw[if_pos e]at h
   rcases qaP.mp h with z|z
   ·rw[e]at z;exact .inr z
   ·exact .inl (qal _ z)
  ·rw[if_neg e]at h
   rcases qaP.mp h with z|z
   ·exact .inl (z ▸ qaf)
   ·rcases mO z with z|z
    ·exact .inl (qal _ z)
    ·exact .inr z
theorem sM {f:Str}{v:V}:∀ {vs:List (Str×V)},f∉vs.map (·.1)->iF f v vs=vs++[(f,v)]
 |[],_=>rfl
 |(g,x)::vs,h=>by
  unfold iF
  rw[if_neg (by intro e;exact h (e ▸ qaf)),sM λz=>h (qal _ z)];rfl
theorem Rfs.keys:∀ {fs:List (Str×W)}{vs:List (Str×V)},Rfs K H φ fs vs->vs.map (·.1)=fs.map (·.1)
 |[],vs,r=>by cases r;rfl
 |(n,x)::fs,vs,r=>by
  obtain⟨v,r',rfl,r1,r2⟩:=r
  rw[qay,qay,Rfs.keys r2]
theorem Rfs.snoc {f:Str}{w:W}{v:V} (rw':Rw K H φ w v):∀ {fs:List (Str×W)}{vs:List (Str×V)},Rfs K H φ fs vs->Rfs K H φ (fs++[(f,w)]) (vs++[(f,v)])
 |[],_,r=>by cases r;exact⟨v,[],rfl,rw',rfl⟩
 |(g,x)::fs,_,r=>by
  obtain⟨v',r',rfl,r1,r2⟩:=r
  exact⟨v',_,rfl,r1,Rfs.snoc rw' r2⟩
end
section
variable {K:qad}{X:Cx}{pos pos':Pos}{e o:Expr}{fa fb:Ef}{f:Str}
theorem aJ (h:IE K X e fa) (hb:qcs e f X.env (eval e X.env)=eval e X.env:=by rfl) (hK:X.K=K:=by rfl):IE K X (.Attribute e f pos) (aw f fa):=by
 subst hK
 refine⟨λenv st r hr=>?_⟩
 simp only[aw,qab]at hr
 obtain⟨⟨x,s1⟩,hx,hr⟩:=hr
 refine (Al (h.run _ _ _ hx) hb).imp ?_
 rintro σ H Q ⟨φ,hE,hS,q⟩
 refine⟨φ,hE,hS,λv H1 φ1 f1 s1' w1=>?_⟩
 cases x with
 |d x=>
  cases x with
  |ob ns ds=>
   obtain⟨d,hd,rfl⟩:=qae.mp hr
   obtain⟨a,Cl,dx,fs,vs,rfl,h0,h1,rfl,h3,h4,h5,h6,h7⟩:=w1
   obtain⟨u,hu,ru,hf⟩:=rP h7 hd
   exact⟨a,Cl,dx,_,u,rfl,h1,h5,h6 f hf,hu,q u H1 φ1 f1 s1' ru⟩
  |_=>cases hr
 |h n=>
  dsimp only at hr
  split at hr
  ·rename_i fs hfs
   obtain⟨w,hw,rfl⟩:=qae.mp hr
   obtain⟨a,ea,rfl⟩:=w1
   obtain⟨Cl,dx,vs,h1,h2,h3,h4,h5⟩:=s1'.at_ n a _ ea hfs
   obtain⟨u,hu,ru,p,hp,rfl⟩:=h2.look hw
   exact⟨a,Cl,dx,vs,u,rfl,h1,h4,h5 p hp,hu,q u H1 φ1 f1 s1' ru⟩
  ·cases hr
def j9 (f:Str) (o v:Ef):Sf
 |env,st=>(v env st).bind λrv=>(o env rv.2).bind λro=>match ro.1,rv.1 with
 | .h n,.d x=>(match ro.2[n]? with
  |some (.o fs)=>if fs.length<1000/\(fs.lookup f).isSome=true then some (.nx env (ro.2.set n (.o (lM f (.d x) fs)))) else none
  |_=>none)
 |_,_=>none
theorem qN (ho:IE K X o fa) (hv:IE K X e fb) (hs:qcC e (some (.Attribute o f pos')) pos.line X.env=pure false:=by rfl) (hK:X.K=K:=by rfl):IS K X (.Assign [.Attribute o f pos'] e pos) (j9 f fa fb):=by
 subst hK
 refine⟨λenv st r hr=>?_⟩
 simp only[j9,qab]at hr
 obtain⟨⟨rv,s1⟩,ev,⟨ro,s2⟩,eo,hr⟩:=hr
 cases ro with
 |d x=>cases hr
 |h n=>
  cases rv with
  |h m=>cases hr
  |d x=>
   dsimp only at hr
   split at hr
   case h_2=>cases hr
   rename_i fs hfs
   split at hr
   case isFalse=>cases hr
   rename_i hc
   cases hr
   refine (xS (ho.run _ _ _ eo) (hv.run _ _ _ ev) hs).imp ?_
   rintro D σ H ⟨φ,hE,hS,q⟩
   refine⟨φ,hE,hS,λv H1 φ1 f1 s1 w1=>⟨φ1,hE.fw hS f1,s1,λu H2 φ2 f2 s2 w2=>?_⟩⟩
   obtain⟨a,ea,rfl⟩:=w2
   obtain⟨Cl,dx,vs,h1,h2,h3,h4,h5⟩:=s2.at_ n a _ ea hfs
   obtain⟨w0,hw0⟩:=qcu.mp hc.2
   obtain⟨u0,hu0,ru0,p,hp,hpf⟩:=h2.look hw0
   have na:dM X.K Cl f:=hpf ▸ h5 p hp
   refine⟨a,Cl,dx,vs,rfl,h1,h4,na,by rw[<-h2.length];exact hc.1,?_⟩
   have w1':=w1.fw s1 f2
   have k1:∀ m,W.h m∈(lM f (.d x) fs).map (·.2)->m<n:=λm hm=>by
    obtain⟨p',hp',e'⟩:=qbe.mp hm
    rcases mO hp' with z|z
    ·exact h3 m (e' ▸ qfD (f:=(·.2)) z)
    ·rw[z]at e';cases e'
   have k2:∀ p'∈lM f (.d x) fs,dM X.K Cl p'.1:=λp' hp'=>by
    rcases mO hp' with z|z
    ·exact h5 p' z
    ·rw[z];exact na
   obtain⟨f3,s3⟩:=s2.putC (o:=.ins Cl dx (iF f v vs)) (c:=.o (lM f (.d x) fs)) ea λg=>⟨Cl,dx,_,upd_same,(Rfs.put w1' h2).fw s2 g,k1,h4,k2⟩
   exact q σ _ φ2 ((f1.trans f2).trans f3) (((hE.fw hS f1).fw s1 f2).fw s2 f3) s3
end
section
variable {K:qad}{X:Cx}{pos:Pos}{a e:Expr}{fa:Ef}{af:Af}
def xK (o:Ef) (a:Af):Ef
 |env,st=>(o env st).bind λx=>(a env x.2).bind λr=>match x.1,r.1 with
 |.d (.lst ds),[.d (.int k)]=>(jP ds).bind λns=>if ns.length<=1000 then (ns.idxOf? k).map λj=>(.d (.int (j:Nat)),r.2) else none
 |_,_=>none
def Dd (X:Cx):V->List V->Hp->VK->Prop:=λx xs H Q=>∃ (p:Addr) (ns:List Int) (k:Int) (j:Nat),x=.ref p/\xs=[.int k]/\SqL X.K H p (ns.map V.int)/\ns.length<=1000/\ns.idxOf? k=some j/\Q (.int (j:Nat)) H
theorem AD:∀ {ns:List Int}{k:Int}{j:Nat},ns.idxOf? k=some j->j<ns.length/\ns[j]?=some k/\∀ i,i<j->ns[i]?≠some k:=by
 intro ns k j h
 have h1:=qe5.mp h
 obtain⟨h2,h3,h4⟩:=h1
 refine⟨h2,by rw[qaL h2,h3],λi hi z=>?_⟩
 have hi':i<ns.length:=qdK hi h2
 rw[qaL hi']at z
 exact h4 i hi (qaZ z)
theorem AJ:MtR X "list.index" (Dd X):=by
 intro pins s σ H x xs v us Q I rx rv h
 obtain⟨p,ns,k,j,rfl,rfl,hq,hl,hj,q⟩:=h
 cases rx
 obtain⟨u,rfl,ru⟩:=rv.one
 obtain⟨t,rfl⟩:=ru
 obtain⟨its,r,pl,hz⟩:=I.list hq
 obtain⟨j1,j2,j3⟩:=AD hj
 have hlen:its.length=ns.length:=by rw[<-r.length,qai]
 have at_:∀ (i:Nat) (hi:i<its.length),∃ t,∃ hn:i<ns.length,its[i]=.int ns[i] t:=λi hi=>by
  obtain⟨h',q'⟩:=r.at i hi
  have hn:i<ns.length:=by rw[<-hlen];exact hi
  have e:(ns.map V.int)[i]=V.int ns[i]:=qgi ..
  rw[e]at q'
  obtain⟨t,e'⟩:=q'
  exact⟨t,hn,e'⟩
 obtain⟨⟨c,dd,dt,sl⟩,eo,hc,n,hd⟩:=pl.isList
 simp only at hc hd
 subst hc hd
 have hj2:j<its.length:=by rw[hlen];exact j1
 refine qcN qeM ⟨_,eo,rfl⟩ PySem.F.entry_list_index (PySem.F.args_list_index_2 _ _) (qh3 p its.toArray n dd sl (.int k t) (isInt k) j (by simpa using hj2) (by lia) ?_ (λm hm hlt=>?_)) ⟨eo,λy hy=>(eq_isInt k t (ui r) y (by simpa using hy)).at _ _,?_⟩
 ·obtain⟨t',hn,e⟩:=at_ j hj2
  rw[qaL hn]at j2
  have:its.toArray[j]'(by simpa using hj2)=.int k t':=by simpa [qaZ j2] using e
  rw[this]
  simp[isInt]
 ·have hm2:m<its.length:=by simpa using hm
  obtain⟨t',hn,e⟩:=at_ m hm2
  have:its.toArray[m]'hm=.int ns[m] t':=by simpa using e
  rw[this]
  have:=j3 m hlt
  rw[qaL hn]at this
  have hne:ns[m]≠k:=λz=>this (by rw[z])
  simp[isInt,hne]
 ·exact⟨.int (j:Nat),H,I.kept (t':=s.toks+1) λb o e=>e,⟨_,rfl⟩,q⟩
theorem Bh {apos:Pos} (ho:IE K X a fa) (ha:IA K X [e] af) (hbase:qcs a "index" X.env (eval a X.env)=eval a X.env:=by rfl)
  (hall:[e].all aR=true:=by rfl) (hline:(apos.endLine==pos.line)=true:=by rfl) (hK:X.K=K:=by rfl) :
  IE K X (.Call (.Attribute a "index" apos) [e] [] pos) (xK fa af):=by
 subst hK
 have hall2:aR e=true:=by rw[qbD,qa4]at hall;exact hall.1
 refine⟨λenv st r hr'=>?_⟩
 simp only[xK,qab]at hr'
 obtain⟨⟨x,s1⟩,hx,⟨ws,s2⟩,hw,hr'⟩:=hr'
 match x,ws,hr' with
 |.d (.lst ds),[.d (.int k)],hr'=>
  simp only[qab]at hr'
  obtain⟨ns,hns,hr'⟩:=hr'
  split at hr'
  case isFalse=>cases hr'
  rename_i hl
  obtain⟨j,hj,rfl⟩:=qae.mp hr'
  have hds:=jx hns
  subst hds
  refine (zW qeN qeM PySem.F.type_list_index AJ (ho.run _ _ _ hx) (ha.run _ _ _ hw) hbase (rZ hall (by show 1<30;decide)) hline (bI hall2) (cA rfl)).imp ?_
  rintro σ H Q ⟨φ,hE,hS,q⟩
  refine⟨φ,hE,hS,λv H1 φ1 f1 S1 w1=>?_⟩
  obtain⟨p,vs,rfl,h0,hq,hrl⟩:=w1
  have ev:=Rls.ints hrl
  subst ev
  refine⟨.inl ⟨rfl,_,.inl hq⟩,φ1,hE.fw hS f1,S1,λus H2 φ2 f2 S2 w2=>?_⟩
  obtain⟨y,us',rfl,ry,rfl⟩:=w2
  cases (show y=.int k from ry)
  exact⟨p,ns,k,j,rfl,rfl,.inl (hq.fw f2 h0),hl,hj,q _ H2 φ2 (f1.trans f2) S2 rfl⟩
end
section
variable {K:qad}{H:Hp}{φ ψ:List Addr}{x Cl dx:Addr}{xs:List (Str×V)}{o:HO}
theorem Rl.chx (hx:H x=some (.ins Cl dx xs)) (hl:xs.length<=5) (hψ:∀ a∈ψ,a=x):∀ {d:D}{v:V},Rl K H φ d v->Rl K (upd H x o) (φ++ψ) d v:=by
 have ne:∀ {a:Addr}{u:HO},H a=some u->(∀ C d f,u≠.ins C d f)->a≠x:=λ{a u} h q z=>by
  subst z
  rw[hx]at h
  cases h
  exact q _ _ _ rfl
 have nin:∀ {a:Addr},a≠x->a∉φ->a∉φ++ψ:=λ{a} n h z=>by
  rcases qaM.mp z with z|z
  ·exact h z
  ·exact n (hψ a z)
 intro d v
 refine (?_:∀ v,Rl K H φ d v->Rl K (upd H x o) (φ++ψ) d v) v
 refine D.rec (motive_1:=λd=>∀ v,Rl K H φ d v->Rl K (upd H x o) (φ++ψ) d v) (motive_2:=λds=>∀ vs,Rls K H φ ds vs->Rls K (upd H x o) (φ++ψ) ds vs) ?_ ?_ ?_ ?_ ?_ ?_ ?_ ?_ ?_ ?_ ?_ ?_ d
 ·exact λv h=>h
 ·exact λb v h=>h
 ·exact λb v h=>h
 ·exact λb v h=>h
 ·exact λb v h=>h
 ·rintro v ⟨a,e,hn,h⟩
  rcases h with⟨d,h⟩|⟨d,h⟩
  ·have n:=ne h (by intros;simp)
   exact⟨a,e,nin n hn,.inl ⟨d,by rw[upd_ne n];exact h⟩⟩
  ·have n:=ne h (by intros;simp)
   exact⟨a,e,nin n hn,.inr ⟨d,by rw[upd_ne n];exact h⟩⟩
 ·rintro ns v ⟨a,e,h⟩
  rcases h with⟨ob,h⟩|h
  ·have n:=ne h (by intros;simp)
   exact⟨a,e,.inl ⟨ob,by rw[upd_ne n];exact h⟩⟩
  ·exact⟨a,e,.inr h⟩
 ·rintro ds ih v ⟨a,vs,rfl,h1,h2⟩
  have n:=ne h1 (by intros;simp)
  exact⟨a,vs,rfl,by rw[upd_ne n];exact h1,ih vs h2⟩
 ·rintro ds ih v ⟨a,vs,rfl,h0,h1,h2⟩
  rcases h1 with h1|⟨ob,h1⟩
  ·have n:=ne h1 (by intros;simp)
   exact⟨a,vs,rfl,nin n h0,.inl (by rw[upd_ne n];exact h1),ih vs h2⟩
  ·have n:=ne h1 (by intros;simp)
   exact⟨a,vs,rfl,nin n h0,.inr ⟨ob,by rw[upd_ne n];exact h1⟩,ih vs h2⟩
 ·rintro ns ds ih v ⟨a,C',dx',fs,vs,rfl,h0,h1,h2,h3,h4,h5,h7,h6⟩
  have n:a≠x:=λz=>by
   subst z
   rw[hx]at h1
   cases h1
   rw[h2,qgr]at hl
   lia
  exact⟨a,C',dx',fs,vs,rfl,nin n h0,by rw[upd_ne n];exact h1,h2,h3,h4,h5,h7,ih vs h6⟩
 ·exact λvs h=>h
 ·rintro d ds ih1 ih2 vs ⟨v,r,rfl,h1,h2⟩;exact⟨v,r,rfl,ih1 v h1,ih2 r h2⟩
variable (hx:H x=some (.ins Cl dx xs)) (hl:xs.length<=5) (hψ:∀ a∈ψ,a=x)
include hx hl hψ
theorem Rls.chx:∀ {ds:List D}{vs:List V},Rls K H φ ds vs->Rls K (upd H x o) (φ++ψ) ds vs
 |[],_,h=>h
 |d::ds,_,h=>by
  obtain⟨v,r,rfl,h1,h2⟩:=h
  exact⟨v,r,rfl,Rl.chx hx hl hψ h1,Rls.chx h2⟩
theorem Rw.chx {w:W}{v:V} (h:Rw K H φ w v):Rw K (upd H x o) (φ++ψ) w v:=by
 cases w with
 |d y=>exact Rl.chx hx hl hψ h
 |h n=>
  obtain⟨a,e,rfl⟩:=h
  exact⟨a,by rw[qas (qar.mp e).1];exact e,rfl⟩
theorem Rws.chx:∀ {ds:List W}{vs:List V},Rws K H φ ds vs->Rws K (upd H x o) (φ++ψ) ds vs
 |[],_,h=>h
 |d::ds,_,h=>by
  obtain⟨v,r,rfl,h1,h2⟩:=h
  exact⟨v,r,rfl,Rw.chx hx hl hψ h1,Rws.chx h2⟩
theorem Rkv.chx:∀ {ds:List (List Int×D)}{vs:List (List Key×V)},Rkv K H φ ds vs->Rkv K (upd H x o) (φ++ψ) ds vs
 |[],_,h=>h
 |(k,d)::ds,_,h=>by
  obtain⟨v,r,rfl,h1,h2⟩:=h
  exact⟨v,r,rfl,Rl.chx hx hl hψ h1,Rkv.chx h2⟩
theorem Rkk.chx:∀ {ds:List (Int×D)}{vs:List (Key×V)},Rkk K H φ ds vs->Rkk K (upd H x o) (φ++ψ) ds vs
 |[],_,h=>h
 |(k,d)::ds,_,h=>by
  obtain⟨v,r,rfl,h1,h2⟩:=h
  exact⟨v,r,rfl,Rl.chx hx hl hψ h1,Rkk.chx h2⟩
theorem Rfs.chx:∀ {ds:List (Str×W)}{vs:List (Str×V)},Rfs K H φ ds vs->Rfs K (upd H x o) (φ++ψ) ds vs
 |[],_,h=>h
 |(k,d)::ds,_,h=>by
  obtain⟨v,r,rfl,h1,h2⟩:=h
  exact⟨v,r,rfl,Rw.chx hx hl hψ h1,Rfs.chx h2⟩
theorem Rc.chx {k:Nat}{a:Addr}{c:C} (ha:a≠x) (h:Rc K H φ k a c):Rc K (upd H x o) (φ++ψ) k a c:=by
 cases c with
 |l ds=>obtain⟨vs,q,r⟩:=h;exact⟨vs,by rw[upd_ne ha];exact q,Rls.chx hx hl hψ r⟩
 |n ds=>obtain⟨vs,q,r,b⟩:=h;exact⟨vs,by rw[upd_ne ha];exact q,Rws.chx hx hl hψ r,b⟩
 |m ds=>obtain⟨vs,q,r⟩:=h;exact⟨vs,by rw[upd_ne ha];exact q,Rkv.chx hx hl hψ r⟩
 |k ds=>obtain⟨vs,q,r⟩:=h;exact⟨vs,by rw[upd_ne ha];exact q,Rkk.chx hx hl hψ r⟩
 |o ds=>obtain⟨C',d',vs,q,r,b⟩:=h;exact⟨C',d',vs,by rw[upd_ne ha];exact q,Rfs.chx hx hl hψ r,b⟩
theorem Er.chx {env:Ev}{σ:St} (h:Er K H φ env σ):Er K (upd H x o) (φ++ψ) env σ:=
 ⟨h.len,λi w e=>let ⟨v,e1,r⟩:=h.at_ i w e;⟨v,e1,Rw.chx hx hl hψ r⟩⟩
end
section
variable {K:qad}{H:Hp}{φ:List Addr}{x Cl dx:Addr}{xs:List (Str×V)}{o:HO}{st:Sto}
theorem Sr.chx0 (S:Sr K H φ st) (hx:H x=some (.ins Cl dx xs)) (hl:xs.length<=5) (hn:x∉φ):Sr K (upd H x o) φ st:=by
 have e0:φ++[]=φ:=qbO _
 refine⟨S.nd,S.len,λn a c e1 e2=>?_⟩
 have:=Rc.chx (o:=o) (ψ:=[]) hx hl (λa z=>nomatch z) (λz=>hn (z ▸ qbF e1)) (S.at_ n a c e1 e2)
 rw[e0]at this
 exact this
theorem Sr.chx1 (S:Sr K H φ st) (hx:H x=some (.ins Cl dx xs)) (hl:xs.length<=5) (hn:x∉φ) {c:C} (hc:Rc K (upd H x o) (φ++[x]) st.length x c):Sr K (upd H x o) (φ++[x]) (st++[c]):=by
 refine⟨qcm.mpr ⟨S.nd,qb5.mpr ⟨qbx,qdk⟩,λa ha b hb z=>by rw[qaj.mp hb]at z;exact hn (z ▸ ha)⟩,by rw[qap,qap,S.len];rfl,λn a c' e1 e2=>?_⟩
 by_cases h:n<φ.length
 ·rw[qas h]at e1
  rw[qas (by rw[<-S.len];exact h)]at e2
  exact Rc.chx hx hl (λa z=>qaj.mp z) (λz=>hn (z ▸ qbF e1)) (S.at_ n a c' e1 e2)
 ·have h1:n<(φ++[x]).length:=(qar.mp e1).1
  rw[qap,qbZ]at h1
  have hn':n=φ.length:=by lia
  subst hn'
  rw[qau (qan _),qbU]at e1
  rw[S.len,qau (qan _),qbU]at e2
  cases e1
  cases e2
  rw[S.len]
  exact hc
end
def pF:List (Str×Ef)->Ev->Sto->Option (List (Str×W)×Sto)
 |[],_,st=>some ([],st)
 |(f,g)::r,env,st=>(g env st).bind λx=>(pF r env x.2).map λy=>((f,x.1)::y.1,y.2)
structure FwX (x:Addr) (φ φ':List Addr) (H H':Hp):Prop where
 ext:∃ ψ,φ'=φ++ψ/\∀ a∈ψ,H a=none\/a=x
 keep:∀ b o,b∉φ->b≠x->H b=some o->H' b=some o
 there:∀ b o,H b=some o->∃ o',H' b=some o'
theorem FwX.pre {x:Addr}{φ φ1 φ2:List Addr}{H H1 H2:Hp}{o o':HO} (hx:H x=some o') (hn:x∉φ1) (f:Fw φ φ1 H H1) (g:FwX x φ1 φ2 (upd H1 x o) H2):FwX x φ φ2 H H2:=by
 obtain⟨ψ,rfl,e1⟩:=f.ext
 obtain⟨ψ2,rfl,e2⟩:=g.ext
 have th:∀ b u,H b=some u->∃ u',upd H1 x o b=some u':=λb u h=>by
  by_cases z:b=x
  ·exact⟨o,by rw[z,upd_same]⟩
  ·obtain⟨u',h'⟩:=f.there b u h
   exact⟨u',by rw[upd_ne z];exact h'⟩
 refine⟨⟨ψ++ψ2,by rw[qbz],λc hc=>?_⟩,λc u hc hcx h=>?_,λc u h=>?_⟩
 ·rcases qaM.mp hc with z|z
  ·exact .inl (e1 c z)
  ·rcases e2 c z with q|q
   ·left
    cases q':H c with
    |none=>rfl
    |some u=>
     obtain⟨u',h'⟩:=th c u q'
     rw[q]at h';cases h'
   ·exact .inr q
 ·refine g.keep c u (λz=>?_) hcx (by rw[upd_ne hcx];exact f.keep c u hc h)
  rcases qaM.mp z with z|z
  ·exact hc z
  ·rw[e1 c z]at h;cases h
 ·obtain⟨u',h'⟩:=th c u h
  exact g.there c u' h'
def Dp (K:qad) (g:List (Str×Ef)) (env:Ev) (st:Sto) (y:List (Str×W)×Sto):TS:=λD σ H=>∃ φ x Cl dx xs fs,Er K H φ env σ/\Sr K H φ st/\σ[0]?=some (some (.ref x))/\x∉φ/\H x=some (.ins Cl dx xs)/\Rfs K H φ fs xs/\
 Cls K Cl/\(∀ p∈fs,dM K Cl p.1)/\(∀ p∈g,dM K Cl p.1)/\fs.length+g.length=6/\(∀ p∈g,p.1∉fs.map (·.1))/\(g.map (·.1)).Nodup/\
 ∀ H' φ',FwX x φ φ' H H'->Sr K H' φ' (y.2++[.o (fs++y.1)])->φ'[y.2.length]?=some x->D.nx σ H'
structure INI (K:qad) (X:Cx) (ss:List Stmt) (g:List (Str×Ef)):Prop where
 run:∀ env st y,pF g env st=some y->PSs X ss (Dp K g env st y)
section
variable {K:qad}{X:Cx}{e:Expr}{fe:Ef}{f:Str}{ss:List Stmt}{g:List (Str×Ef)}{pos pos' p1:Pos}
theorem sh {env:Ev}{st:Sto}{w:W}{s1:Sto} (h0:X.N[0]?=some ("self" : Str)) (hv:Vis X.env.scope "self") (he:IE K X e fe) (hx:fe env st=some (w,s1)) (hK:X.K=K)
  (hs:qcC e (some (.Attribute (.Name "self" p1) f pos')) pos.line X.env=pure false) :
  PS X (.Assign [.Attribute (.Name "self" p1) f pos'] e pos) (λD σ H=>∃ φ x Cl dx xs,Er K H φ env σ/\Sr K H φ st/\σ[0]?=some (some (.ref x))/\x ∉ φ/\H x=some (.ins Cl dx xs)/\Cls K Cl/\dM K Cl f/\xs.length<=5/\f ∉ xs.map (·.1)/\
   ∀ v H1 φ1,Fw φ φ1 H H1->Sr K H1 φ1 s1->Rw K H1 φ1 w v->x∉φ1->H1 x=some (.ins Cl dx xs)->D.nx σ (upd H1 x (.ins Cl dx (xs++[(f,v)])))):=by
 subst hK
 refine (xS (kt h0 hv) (he.run _ _ _ hx) hs).imp ?_
 rintro D σ H ⟨φ,x,Cl,dx,xs,hE,hS,h1,h2,h3,h4,h5,h6,h7,q⟩
 refine⟨φ,hE,hS,λv H1 φ1 f1 s1' w1=>⟨_,h1,x,Cl,dx,xs,rfl,f1.keep _ _ h2 h3,h4,h5,by lia,?_⟩⟩
 rw[sM h7]
 exact q v H1 φ1 f1 s1' w1 (f1.nin h2 h3) (f1.keep _ _ h2 h3)
theorem yO (h0:X.N[0]?=some ("self" : Str)) (hv:Vis X.env.scope "self") (he:IE K X e fe) (hK:X.K=K:=by rfl)
  (hs:qcC e (some (.Attribute (.Name "self" p1) f pos')) pos.line X.env=pure false:=by rfl):INI K X [.Assign [.Attribute (.Name "self" p1) f pos'] e pos] [(f,fe)]:=by
 refine⟨λenv st y hy=>?_⟩
 simp only[pF,qab,qaq]at hy
 obtain⟨⟨w,s1⟩,hx,hy⟩:=hy
 cases hy
 refine (vB (sh h0 hv he hx hK hs)).imp ?_
 rintro D σ H ⟨φ,x,Cl,dx,xs,fs,hE,hS,h1,h2,h3,h4,h5,h6,h7,h8,h9,h10,q⟩
 have hl:xs.length=5:=by rw[<-h4.length];simpa using h8
 have nf:f∉xs.map (·.1):=by rw[h4.keys];exact h9 _ qaf
 refine⟨φ,x,Cl,dx,xs,hE,hS,h1,h2,h3,h5,h7 _ qaf,by lia,nf,λv H1 φ1 f1 s1' w1 hn hx1=>?_⟩
 have r1:=h4.fw hS f1
 have r2:=Rfs.chx (o:=.ins Cl dx (xs++[(f,v)])) (ψ:=[x]) hx1 (by lia) (λa z=>qaj.mp z) r1
 have w2:=Rw.chx (o:=.ins Cl dx (xs++[(f,v)])) (ψ:=[x]) hx1 (by lia) (λa z=>qaj.mp z) w1
 have r3:=Rfs.snoc (f:=f) w1 r1
 have hc:Rc K (upd H1 x (.ins Cl dx (xs++[(f,v)]))) (φ1++[x]) s1.length x (.o (fs++[(f,w)])):=⟨Cl,dx,_,upd_same,Rfs.snoc w2 r2,λm hm=>by rw[<-s1'.len];exact r3.mem hm,h5,λp hp=>by
  rcases qaM.mp hp with z|z
  ·exact h6 p z
  ·rw[qaj.mp z];exact h7 _ qaf⟩
 refine q _ (φ1++[x]) ?_ (s1'.chx1 hx1 (by lia) hn hc) (by rw[<-s1'.len,qau (qan _),qbU];rfl)
 refine FwX.pre h3 hn f1 ⟨⟨[x],rfl,λa z=>.inr (qaj.mp z)⟩,λb o _ _ h=>h,λb o h=>⟨o,h⟩⟩
theorem jv (h0:X.N[0]?=some ("self" : Str)) (hv:Vis X.env.scope "self") (he:IE K X e fe) (hr:INI K X ss g) (hg:g≠[]:=by intro z;cases z) (hK:X.K=K:=by rfl)
  (hs:qcC e (some (.Attribute (.Name "self" p1) f pos')) pos.line X.env=pure false:=by rfl):INI K X (.Assign [.Attribute (.Name "self" p1) f pos'] e pos::ss) ((f,fe)::g):=by
 refine⟨λenv st y hy=>?_⟩
 simp only[pF,qab]at hy
 obtain⟨⟨w,s1⟩,hx,hy⟩:=hy
 obtain⟨y',hy',rfl⟩:=qae.mp hy
 refine (fM (sh h0 hv he hx hK hs) (hr.run _ _ _ hy')).imp ?_
 rintro D σ H ⟨φ,x,Cl,dx,xs,fs,hE,hS,h1,h2,h3,h4,h5,h6,h7,h8,h9,h10,q⟩
 have hg1:1<=g.length:=List.length_pos_iff.mpr hg
 have hl:xs.length<=4:=by rw[<-h4.length];rw[qat]at h8;lia
 have nf:f∉xs.map (·.1):=by rw[h4.keys];exact h9 _ qaf
 refine⟨φ,x,Cl,dx,xs,hE,hS,h1,h2,h3,h5,h7 _ qaf,by lia,nf,λv H1 φ1 f1 s1' w1 hn hx1=>?_⟩
 have e0:φ1++[]=φ1:=qbO _
 have r2:=Rfs.chx (o:=.ins Cl dx (xs++[(f,v)])) (ψ:=[]) hx1 (by lia) (λa z=>nomatch z) (h4.fw hS f1)
 have w2:=Rw.chx (o:=.ins Cl dx (xs++[(f,v)])) (ψ:=[]) hx1 (by lia) (λa z=>nomatch z) w1
 have hE2:=Er.chx (o:=.ins Cl dx (xs++[(f,v)])) (ψ:=[]) hx1 (by lia) (λa z=>nomatch z) (hE.fw hS f1)
 rw[e0]at r2 w2 hE2
 rw[qay,qb5]at h10
 refine⟨φ1,x,Cl,dx,_,fs++[(f,w)],hE2,s1'.chx0 hx1 (by lia) hn,h1,hn,upd_same,Rfs.snoc w2 r2,h5,λp hp=>?_,λp hp=>h7 p (qal _ hp),by rw[qap,qbZ];rw[qat]at h8;lia,λp hp z=>?_,h10.2,λH' φ' fx S' ex=>?_⟩
 ·rcases qaM.mp hp with z|z
  ·exact h6 p z
  ·rw[qaj.mp z];exact h7 _ qaf
 ·rw[qcg]at z
  rcases qaM.mp z with z|z
  ·exact h9 p (qal _ hp) z
  ·rw[qay,qcy,qaj]at z
   exact h10.1 (z ▸ qfD (f:=(·.1)) hp)
 ·rw[qbz,qcT]at S'
  exact q H' φ' (FwX.pre h3 hn f1 fx) S' ex
end
def zy (K:qad) (n:Nat) (ps:Nat) (g:List (Str×Ef)):Sp:=λvs H Q _=>∃ φ st ws y x dx Cl rest H1,vs=.ref x::rest/\ws.length+1=ps/\pF g (none::(ws.map some++qaB (n - ps) none)) st=some y/\Rws K H1 φ ws rest/\Sr K H1 φ st/\H1 x=none/\H1 dx=none/\dx≠x/\
 H=upd (upd H1 dx (.own x)) x (.ins Cl dx [])/\Cls K Cl/\(∀ p∈g,dM K Cl p.1)/\g.length=6/\(g.map (·.1)).Nodup/\∀ H' φ',Fw φ φ' H1 H'->Sr K H' φ' (y.2++[.o y.1])->φ'[y.2.length]?=some x->Q .non H'
theorem BO {P:qa5}{w:World}{K:qad}{mg:Str->Option Value}{base:Heap}{x qual:Str}{st:Stmt}{f:Addr}{fd:qaX}{N ps:List Str}{k:Nat}{g:List (Str×Ef)} (F:Fun K x qual st f fd) (S:aP N ps (ah st)) (hN:ps.length<=N.length)
  (hb:∀ (cdv:Value) (A:qbd) (outer:List Env) (s:qam) (H:Hp) (E:XK),dN k (A.deeper (qej qual (ah st) s.heap.objs.size f cdv))->INI K (oj CX0 P w K mg base N qual (ah st) f cdv A outer s H E).nox (aH st) g) :
  bW P w K mg base CX0 (k+1) f fd ps (zy K N.length ps.length g):=by
 refine F.ok S (λvs H Q E h=>?_) λcdv A outer s H vs Q E hr h=>?_
 ·obtain⟨φ,st,ws,y,x,dx,Cl,rest,H1,rfl,hl,e,rw,_⟩:=h
  rw[qat,<-rw.length,hl]
 ·obtain⟨φ,st',ws,y,x,dx,Cl,rest,H1,rfl,hl,e,rw,S',hx,hd,hne,rfl,hC,hA,h6,hnd,q⟩:=h
  refine⟨_,(hb cdv A outer s _ E hr).run _ _ _ e,φ,x,Cl,dx,[],[],?_,?_,?_,?_,upd_same,rfl,hC,λp hp=>(nomatch hp),hA,by simpa using h6,λp _ z=>(nomatch z),hnd,λH' φ' fx S2 ex=>?_⟩
  ·have sm:bv H1 (upd (upd H1 dx (.own x)) x (.ins Cl dx [])):=(bv.new hd _).trans (bv.new (by rw[upd_ne (qbu hne)];exact hx) _)
   have r0:=rw.fw S' (Fw.same sm)
   have he:=og (N:=N) (k:=ps.length) (ws:=.d .non::ws) (vs:=.non::rest) ⟨.non,rest,rfl,rfl,r0⟩ (by rw[qat];exact hl)
   refine⟨?_,λi w ei=>?_⟩
   ·have:=he.len
    unfold gY at this ⊢
    simp at this ⊢
    lia
   ·cases i with
    |zero=>cases ei
    |succ i=>
     obtain⟨v,ev,rv⟩:=he.at_ (i+1) w ei
     refine⟨v,?_,rv⟩
     unfold gY at ev ⊢
     simpa using ev
  ·have sm:bv H1 (upd (upd H1 dx (.own x)) x (.ins Cl dx [])):=(bv.new hd _).trans (bv.new (by rw[upd_ne (qbu hne)];exact hx) _)
   exact S'.same sm
  ·unfold gY;rfl
  ·exact S'.nin hx
  ·refine q H' φ' ?_ S2 ex
   obtain⟨ψ,rfl,e1⟩:=fx.ext
   have sm:bv H1 (upd (upd H1 dx (.own x)) x (.ins Cl dx [])):=(bv.new hd _).trans (bv.new (by rw[upd_ne (qbu hne)];exact hx) _)
   refine⟨⟨ψ,rfl,λa ha=>?_⟩,λb o hb h=>?_,λb o h=>fx.there b o (sm b o h)⟩
   ·rcases e1 a ha with z|z
    ·cases q':H1 a with
     |none=>rfl
     |some o=>rw[sm a o q']at z;cases z
    ·rw[z];exact hx
   ·exact fx.keep b o hb (λz=>by rw[z,hx]at h;cases h) (sm b o h)
def pi (n ps:Nat) (g:List (Str×Ef)) (a:Af):Ef
 |env,st=>(a env st).bind λr=>if r.1.length+1=ps then (pF g (none::(r.1.map some++qaB (n - ps) none)) r.2).map λy=>(.h y.2.length,y.2++[.o y.1]) else none
theorem yK {K:qad}{X:Cx}{x:Str}{k j:Nat}{ff Cl:Addr}{fd:qaX}{N ps:List Str}{g:List (Str×Ef)}{p pos:Pos}{e:Expr}{es:List Expr}{af:Af} (M:Mk X.K Cl ff) (F:bW X.prog X.w X.K X.mg X.base CX0 j ff fd ps (zy K N.length ps.length g)) (hjk:j<=k) (hr:dN (k+1) X.A) (hg:Gl X x) (hm:X.mg x=some (.ref Cl)) (hb:bA X.K fd ps [])
  (hC:Cls K Cl) (hA:∀ p∈g,dM K Cl p.1) (h6:g.length=6) (hnd:(g.map (·.1)).Nodup)
  (ha:IA K X (e::es) af) (hdb:(x==("__debug__" : Str))=false:=by decide) (hs:aR e=true:=by rfl) (hp:es.all aR=true:=by rfl) :
  IE K X (.Call (.Name x p) (e::es) [] pos) (pi N.length ps.length g af):=by
 refine⟨λenv st r h=>?_⟩
 simp only[pi,qab]at h
 obtain⟨y,hy,h⟩:=h
 split at h
 case isFalse=>cases h
 rename_i hl
 obtain⟨z,hz,rfl⟩:=qae.mp h
 refine (yD M (F.mono hjk) hr hg hm hb .nil wJ (ha.run _ _ _ hy) hdb (bI hs) (cA hp)).imp ?_
 rintro σ H Q ⟨φ,hE,hS,q⟩
 refine⟨φ,hE,hS,λvs H1 φ1 f1 s1 w1=>λx dx hx hd hne=>?_⟩
 show zy K N.length ps.length g (.ref x::(vs++[])) _ _ _
 rw[qbO]
 refine⟨φ1,y.2,y.1,z,x,dx,Cl,vs,H1,rfl,hl,hz,w1,s1,hx,hd,hne,rfl,hC,hA,h6,hnd,λH' φ' f2 S2 ex=>⟨rfl,?_⟩⟩
 exact q _ H' φ' (f1.trans f2) S2 ⟨x,ex,rfl⟩
def vwF (st:Sto):List (Str×W)->Option (List D)
 |[]=>some []
 |(_,.d x)::r=>(vwF st r).map λy=>x::y
 |(_,.h m)::r=>(lg st m).bind λds=>(vwF st r).map λy=>.lst ds::y
def vwW (st:Sto):W->Option W
 |.d x=>some (.d x)
 |.h n=>match st[n]? with
  |some (.o fs)=>if 5<fs.length then (vwF st fs).map λds=>.d (.ob (fs.map (·.1)) ds) else none
  |some (.l ds)=>some (.d (.lst ds))
  |_=>none
def vwA (st:Sto):List W->Option (List W)
 |[]=>some []
 |w::ws=>(vwW st w).bind λx=>(vwA st ws).map λy=>x::y
mutual
def okT:D->Bool
 |.non=>true
 |.bl _=>true
 |.int _=>true
 |.str _=>true
 |.tup ds=>uz ds
 |_=>false
def uz:List D->Bool
 |[]=>true
 |d::ds=>okT d&&uz ds
end
section
variable {K:qad}{H:Hp}{φ φ':List Addr}
mutual
theorem Rl.any:∀ {d:D}{v:V},okT d=true->Rl K H φ d v->Rl K H φ' d v
 |.non,_,_,h=>h
 |.bl _,_,_,h=>h
 |.int _,_,_,h=>h
 |.str _,_,_,h=>h
 |.tup ds,_,o,h=>by
  obtain⟨a,vs,rfl,h1,h2⟩:=h
  exact⟨a,vs,rfl,h1,Rls.any (by rw[okT]at o;exact o) h2⟩
 |.ty _,_,o,_=>by rw[okT]at o<;>first|cases o|(intros;simp)
 |.dct,_,o,_=>by rw[okT]at o<;>first|cases o|(intros;simp)
 |.scr _,_,o,_=>by rw[okT]at o<;>first|cases o|(intros;simp)
 |.lst _,_,o,_=>by rw[okT]at o<;>first|cases o|(intros;simp)
 |.ob _ _,_,o,_=>by rw[okT]at o<;>first|cases o|(intros;simp)
theorem Rls.any:∀ {ds:List D}{vs:List V},uz ds=true->Rls K H φ ds vs->Rls K H φ' ds vs
 |[],_,_,h=>h
 |d::ds,_,o,h=>by
  rw[uz,qa4]at o
  obtain⟨v,r,rfl,h1,h2⟩:=h
  exact⟨v,r,rfl,Rl.any o.1 h1,Rls.any o.2 h2⟩
end
theorem Rl.bare {d:D}{v:V} (h:Rl K H φ d v):Rl K H [] d v:=Rl.less (φ:=[]) (ψ:=φ) h
theorem Rls.bare {d:List D}{v:List V} (h:Rls K H φ d v):Rls K H [] d v:=Rls.less (φ:=[]) (ψ:=φ) h
theorem oW:∀ {fs:List (Str×W)}{vs:List (Str×V)},Rfs K H φ fs vs->vs=(fs.map (·.1)).zip (vs.map (·.2))
 |[],vs,r=>by cases r;rfl
 |(n,x)::fs,vs,r=>by
  obtain⟨v,r',rfl,r1,r2⟩:=r
  rw[qay,qay,qeb,<-oW r2]
theorem qt {st:Sto} (S:Sr K H φ st):∀ {fs:List (Str×W)}{vs:List (Str×V)}{ds:List D},Rfs K H φ fs vs->vwF st fs=some ds->Rls K H [] ds (vs.map (·.2))
 |[],vs,ds,r,h=>by cases r;cases h;rfl
 |(n,.d x)::fs,vs,ds,r,h=>by
  obtain⟨v,r',rfl,r1,r2⟩:=r
  obtain⟨y,hy,rfl⟩:=qae.mp h
  exact⟨v,_,rfl,Rl.bare r1,qt S r2 hy⟩
 |(n,.h m)::fs,vs,ds,r,h=>by
  obtain⟨v,r',rfl,r1,r2⟩:=r
  obtain⟨es,hes,h⟩:=qab.mp h
  obtain⟨y,hy,rfl⟩:=qae.mp h
  obtain⟨a,ea,rfl⟩:=r1
  obtain⟨us,hu,ru⟩:=S.atl m a es ea hes
  exact⟨_,_,rfl,⟨a,us,rfl,qbx,.inl hu,Rls.bare ru⟩,qt S r2 hy⟩
theorem vm {st:Sto} (S:Sr K H φ st):∀ {ws:List W}{vs:List V}{ws':List W},Rws K H φ ws vs->vwA st ws=some ws'->Rws K H [] ws' vs
 |[],vs,ws',r,h=>by cases h;exact r
 |w::ws,vs,ws',r,h=>by
  obtain⟨v,r',rfl,r1,r2⟩:=r
  obtain⟨x,hx,h⟩:=qab.mp h
  obtain⟨y,hy,rfl⟩:=qae.mp h
  refine⟨v,r',rfl,?_,vm S r2 hy⟩
  cases w with
  |d z=>cases hx;exact Rl.bare r1
  |h n=>
   unfold vwW at hx
   dsimp only at hx
   split at hx
   ·rename_i fs hfs
    split at hx
    ·rename_i h5
     obtain⟨ds,hds,rfl⟩:=qae.mp hx
     obtain⟨a,ea,rfl⟩:=r1
     obtain⟨Cl,dx,us,q,rf,b,hC,hA⟩:=S.at_ n a _ ea hfs
     refine⟨a,Cl,dx,us,us.map (·.2),rfl,qbx,q,oW rf,by rw[qai,qai,rf.length],by rw[qai];exact h5,hC,λf hf=>?_,qt S rf hds⟩
     obtain⟨p,hp,rfl⟩:=qbe.mp hf
     exact hA p hp
    ·cases hx
   ·rename_i ds hds
    cases hx
    obtain⟨a,ea,rfl⟩:=r1
    obtain⟨us,hu,ru⟩:=S.at_ n a _ ea hds
    exact⟨a,us,rfl,qbx,.inl hu,Rls.bare ru⟩
   ·cases hx
end
def fU (m:Fn) (a:Af):Ef
 |env,st=>(a env st).bind λr=>(vwA r.2 r.1).bind λws=>(m ws []).bind λy=>match y.1 with
 |.d x=>if okT x=true then some (.d x,r.2) else none
 |_=>none
theorem jw {K:qad}{X:Cx}{e:Expr}{es:List Expr}{pos:Pos}{af:Af}{x:Str}{k j:Nat}{ff:Addr}{fd:qaX}{ps:List Str}{m:Fn}{p:Pos} (F:bW X.prog X.w X.K X.mg X.base CX0 j ff fd ps (spI K m)) (hjk:j<=k) (hr:dN k X.A) (hg:Gl X x) (hm:X.mg x=some (.ref ff)) (hk:qax X.K (.ref ff)=true) (hb:bA X.K fd ps [])
  (ha:IA K X (e::es) af) (hdb:(x==("__debug__" : Str))=false:=by decide) (hs:aR e=true:=by rfl) (hp:es.all aR=true:=by rfl) :
  IE K X (.Call (.Name x p) (e::es) [] pos) (fU m af):=by
 refine⟨λenv st r h=>?_⟩
 simp only[fU,qab]at h
 obtain⟨y,hy,ws,hws,⟨w,s2⟩,hz,h⟩:=h
 cases w with
 |h n=>cases h
 |d z=>
  dsimp only at h
  split at h
  case isFalse=>cases h
  rename_i hok
  cases h
  refine (vg (F.mono hjk) hr hg hm hk hb .nil wJ (ha.run _ _ _ hy) hdb (bI hs) (cA hp)).imp ?_
  rintro σ H Q ⟨φ,hE,hS,q⟩
  refine⟨φ,hE,hS,λvs H1 φ1 f1 s1 w1=>?_⟩
  show spI K m (vs++[]) H1 Q E0
  rw[qbO]
  refine⟨[],[],ws,_,hz,vm s1 w1 hws,⟨qdk,rfl,λn a c e1 _=>by cases e1⟩,λv H2 φ2 f2 s2' w2=>?_⟩
  have sm:bv H1 H2:=λb o h=>f2.keep b o qbx h
  exact q v H2 φ1 (f1.trans (Fw.same sm)) (s1.same sm) (Rl.any hok w2)
theorem Rls.flat {K:qad}{H H':Hp}{φ φ':List Addr}:∀ {ds:List D}{vs:List V},ds.all dR=true->Rls K H φ ds vs->Rls K H' φ' ds vs
 |[],_,_,h=>h
 |d::ds,_,o,h=>by
  rw[qbD,qa4]at o
  obtain⟨v,r,rfl,h1,h2⟩:=h
  refine⟨v,r,rfl,?_,Rls.flat o.2 h2⟩
  cases d with
  |non=>exact h1
  |bl b=>exact h1
  |int b=>exact h1
  |str b=>exact h1
  |_=>exact absurd o.1 (by simp[dR])
def i3 (il ip ic it ia:Nat) (fl:Lf):Sf
 |env,st=>(fl env st).bind λr=>match env.getD ip none,env.getD ic none,env.getD it none,env.getD ia none with
 |some (.d (.int p)),some (.d (.int c)),some (.d (.lst ts)),some (.d a)=>(ixN r.1.length p).bind λj=>(ixN ts.length c).bind λi=>if ts.length<=1000000/\il<env.length/\ts.all dR=true then some (.nx (env.set il (some (.d (.lst (r.1.set j (.lst (ts.set i a))))))) r.2) else none
 |_,_,_,_=>none
theorem mB {env:Ev}{i:Nat}{w:W} (h:env.getD i none=some w):env[i]?=some (some w):=by
 rw[qeF]at h
 cases q:env[i]? with
 |none=>rw[q]at h;cases h
 |some o=>rw[q]at h;rw[show o=some w from h]
theorem yB {α:Type}{xs:List α}{i:Int}{j:Nat}{v:α} (h:ixN xs.length i=some j) (hv:xs[j]?=some v):atI xs i=some v:=by
 unfold atI;rw[h];exact hv
theorem z9 {n:Nat}{i:Int}{j:Nat} (h:ixN n i=some j):j<n:=(mC h).2.1
structure ISL (K:qad) (X:Cx) (s:Stmt) (i0:Nat) (fl:Lf):Prop where
 run:∀ env st r,fl env st=some r->PS X s (λD σ H=>∃ φ,Er K H φ env σ/\Sr K H φ st/\∀ a vs H1 φ',Fw φ φ' H H1->Sr K H1 φ' r.2->H1 a=none->Rls K H1 φ' r.1 vs->D.nx (σ.set i0 (some (.ref a))) (upd H1 a (.lst vs)))
theorem Am {K:qad}{X:Cx}{pos:Pos}{tg:Expr}{scope:Scope}{Nc:List Str}{k:Nat}{js:List Nat}{elt iter:Expr}{ifs:List Expr}{fi:Lf}{g:Tg}{tt:Tf}{te:Ef}{i0:Nat}{x0:Str}{py spos:Pos}
  (hN0:X.N.Nodup) (hi0:X.N[i0]?=some x0) (hx0:Loc X.env.scope x0) (S:fE X scope Nc (gy k js)) (hc:X.calm=true) (hgi:∀ j∈sW g,j<k) (hi:II K X tg iter fi)
  (hg:∀ cells s H C fp,PG (lcX X scope cells Nc s H C fp) tg (tG K g)) (ht:∀ cells s H C fp,ITs K (lcX X scope cells Nc s H C fp) ifs tt) (he:∀ cells s H C fp,IE K (lcX X scope cells Nc s H C fp) elt te)
  (hsw:qcC (.ListComp elt [⟨tg,iter,ifs,0⟩] scope pos) (some (.Name x0 py)) spos.line X.env=pure true:=by rfl)
  (hf0:X.fn x0=true\/X.env.scope.names.lookup x0=some .local:=by first|exact .inl rfl|exact .inr rfl|assumption)
  (hs:∀ x,qbY iter X.env x=pure x:=by intro _;rfl):ISL K X (.Assign [.Name x0 py] (.ListComp elt [⟨tg,iter,ifs,0⟩] scope pos) spos) i0 (iLc k js fi g tt te):=by
 refine⟨λenv st r hr=>?_⟩
 simp only[iLc,qab]at hr
 obtain⟨⟨ds,s1⟩,hy,hr⟩:=hr
 have hr':(if ds.length<=1000000 then lcI g tt te (gQ k js env) ds s1 else none)=some r:=hr
 by_cases hdn:¬ ds.length<=1000000
 ·rw[if_neg hdn]at hr';cases hr'
 have hdl:ds.length<=1000000:=by lia
 rw[if_pos hdl]at hr'
 refine (zH hN0 hi0 hx0 S hc (hi.run _ _ _ hy) hg (λcells s H C fp=>(ht cells s H C fp).run) (λcells s H C fp=>(he cells s H C fp).any) hsw hf0 hs).imp ?_
 rintro D σ H ⟨φ,hE,hS,q⟩
 exact uB hgi hdl hr' σ H _ ⟨φ,hE,hS,q⟩
section
variable {K:qad}{X:Cx}{s1':Stmt}{xl xp xc xt xa:Str}{il ip ic it ia:Nat}{comp:Expr}{fl:Lf}{ss:List Stmt}{gb:Sf}{p1 p2 p3 p4 p5 p6 p7 p8 p9 q1 q2 q3 q4 q5 q6 q7:Pos}
theorem v8 (hN:X.N.Nodup) (nl:X.N[il]?=some xl) (np:X.N[ip]?=some xp) (nc:X.N[ic]?=some xc) (nt:X.N[it]?=some xt) (na:X.N[ia]?=some xa)
  (ll:Loc X.env.scope xl) (vl:Vis X.env.scope xl) (vp:Vis X.env.scope xp) (vc:Vis X.env.scope xc) (vt:Vis X.env.scope xt) (va:Vis X.env.scope xa) (d1:il≠ip) (d2:il≠ic) (d3:il≠it) (d4:il≠ia)
  (bl:(xl==("__debug__" : Str))=false) (bp:(xp==("__debug__" : Str))=false) (bc:(xc==("__debug__" : Str))=false) (bt:(xt==("__debug__" : Str))=false) (ba:(xa==("__debug__" : Str))=false)
  (el:(xl==("__classdict__" : Str))=false) (ep:(xp==("__classdict__" : Str))=false) (ec:(xc==("__classdict__" : Str))=false) (et:(xt==("__classdict__" : Str))=false) (ea:(xa==("__classdict__" : Str))=false)
  (hcomp:ISL K X s1' il fl) (hgL:Gl X "list") (hmL:X.mg "list" = none) (hrest:ISs K X ss gb)
  (hs2:qdH [.Subscript (.Name xl p3) (.Name xp p4) p5] (.Call (.Name "list" p6) [.Name xt p7] [] p8) p9.line X.env=pure false) (hw2:qdI [.Subscript (.Name xl p3) (.Name xp p4) p5] (.Call (.Name "list" p6) [.Name xt p7] [] p8) X.env=pure none)
  (hs3:qdH [.Subscript (.Subscript (.Name xl q1) (.Name xp q2) q3) (.Name xc q4) q5] (.Name xa q6) q7.line X.env=pure false) (hw3:qdI [.Subscript (.Subscript (.Name xl q1) (.Name xp q2) q3) (.Name xc q4) q5] (.Name xa q6) X.env=pure none) (hK:X.K=K) :
  ISs K X (s1'::.Assign [.Subscript (.Name xl p3) (.Name xp p4) p5] (.Call (.Name "list" p6) [.Name xt p7] [] p8) p9::.Assign [.Subscript (.Subscript (.Name xl q1) (.Name xp q2) q3) (.Name xc q4) q5] (.Name xa q6) q7::ss) (ao (i3 il ip ic it ia fl) gb):=by
 subst hK
 refine⟨λenv st r hr=>?_⟩
 simp only[ao,i3,qab]at hr
 obtain⟨r1,⟨⟨ds,s1⟩,hfl,hr1⟩,hr⟩:=hr
 split at hr1
 case h_2=>cases hr1
 rename_i p c ts a hp hc ht ha'
 simp only[qab]at hr1
 obtain⟨j,hj,i,hi,hr1⟩:=hr1
 split at hr1
 case isFalse=>cases hr1
 rename_i hz
 cases hr1
 dsimp only at hr
 have hll:vj s1 [.d (.lst ts)]=some ts:=rfl
 have pl:∀ {q:Pos},PE X (.Name xl q) (rh il):=λ{q}=>kt nl vl bl el
 have pp:∀ {q:Pos},PE X (.Name xp q) (rh ip):=λ{q}=>kt np vp bp ep
 have pc:∀ {q:Pos},PE X (.Name xc q) (rh ic):=λ{q}=>kt nc vc bc ec
 have pt:∀ {q:Pos},PE X (.Name xt q) (rh it):=λ{q}=>kt nt vt bt et
 have pa:∀ {q:Pos},PE X (.Name xa q) (rh ia):=λ{q}=>kt na va ba ea
 refine (fM (hcomp.run _ _ _ hfl) (fM (qE (fq ((vn (K:=X.K) rfl).run s1 [.d (.lst ts)] ts hll) hgL hmL qct (mK pt qL) (by decide) (by decide)) (uC pl pp mV (pP rfl)) hs2 hw2 (mM rfl))
  (fM (qE pa (uC (zK uh pl pp (qX rfl)) pc mV (pP rfl)) hs3 hw3 (mM rfl)) (hrest.run _ _ _ hr)))).imp ?_
 rintro D σ H ⟨φ,hE,hS,q⟩
 refine⟨φ,hE,hS,λal vs H1 φ1 f1 S1 hal rl=>?_⟩
 have hE1:=hE.fw hS f1
 obtain⟨vp',gp,rp⟩:=hE1.at_ ip _ (mB hp)
 obtain⟨vc',gc,rc⟩:=hE1.at_ ic _ (mB hc)
 obtain⟨vt',gt,rt⟩:=hE1.at_ it _ (mB ht)
 obtain⟨va',ga,ra⟩:=hE1.at_ ia _ (mB ha')
 have rp:vp'=.int p:=rp
 have rc:vc'=.int c:=rc
 subst rp rc
 have nep:il≠ip:=d1
 have set_at:∀ {k:Nat}{u:V}{v:V},il≠k->σ[k]?=some (some u)->(σ.set il (some v))[k]?=some (some u):=λ{k u v} h e=>by rw[qbp h];exact e
 -- the list's line
 refine⟨_,set_at d3 gt,φ1,S1.new hal,⟨vt',[],rfl,?_,rfl⟩,λbl us H2 sm hbl ru=>?_⟩
 ·exact (Rl.fw S1 (Fw.new hal) rt)
 have hal2:H2 al=some (.lst vs):=sm _ _ upd_same
 have hab:al≠bl:=aV hal2 hbl
 have hlen:vs.length=ds.length:=rl.length.symm
 have hul:us.length=ts.length:=ru.length.symm
 have hil:(σ.set il (some (.ref al)))[il]?=some (some (.ref al)):=by
  rw[qba]
  rw[<-hE.len]
  exact hz.2.1
 refine⟨_,hil,_,set_at d1 gp,al,vs,p,j,rfl,rfl,by rw[upd_ne hab];exact hal2,by rw[hlen];exact hj,?_⟩
 have hjl:j<vs.length:=by rw[hlen];exact z9 hj
 refine⟨_,set_at d4 ga,_,hil,_,set_at d1 gp,.inl ⟨al,vs.set j (.ref bl),p,.ref bl,rfl,rfl,SqL.of upd_same,yB (j:=j) (by rw[qbw,hlen];exact hj) (by rw[qba hjl]),?_⟩⟩
 refine⟨_,set_at d2 gc,bl,us,c,i,rfl,rfl,by rw[upd_ne (qbu hab),upd_same],by rw[hul];exact hi,?_⟩
 have sm5:bv H1 (upd (upd (upd H2 bl (.lst us)) al (.lst (vs.set j (.ref bl)))) bl (.lst (us.set i va'))):=λb o h=>by
  have e1:b≠al:=λz=>by rw[z,hal]at h;cases h
  have h2:H2 b=some o:=sm b o (by rw[upd_ne e1];exact h)
  have e2:b≠bl:=λz=>by rw[z,hbl]at h2;cases h2
  rw[upd_ne e2,upd_ne e1,upd_ne e2];exact h2
 have nal:al∉φ1:=S1.nin hal
 have nbl:bl∉φ1:=λz=>by
  obtain⟨o,ho,_⟩:=S1.lst z
  have:bl≠al:=qbu hab
  have h2:H2 bl=some o:=sm bl o (by rw[upd_ne this];exact ho)
  rw[hbl]at h2;cases h2
 dsimp only
 generalize hH:upd (upd (upd H2 bl (.lst us)) al (.lst (vs.set j (.ref bl)))) bl (.lst (us.set i va'))=H5 at sm5 ⊢
 have ha5:H5 al=some (.lst (vs.set j (.ref bl))):=by rw[<-hH,upd_ne hab,upd_same]
 have hb5:H5 bl=some (.lst (us.set i va')):=by rw[<-hH,upd_same]
 have fw5:Fw φ1 φ1 H1 H5:=Fw.same sm5
 have ru5:Rls X.K H5 φ1 ts us:=Rls.flat hz.2.2 ru
 refine⟨φ1,(hE1.fw S1 fw5).set il (w:=.d (.lst (ds.set j (.lst (ts.set i a))))) ?_,S1.same sm5,?_⟩
 ·exact⟨al,_,rfl,nal,.inl ha5,Rls.set j (rl.fw S1 fw5) ⟨bl,_,rfl,nbl,.inl hb5,Rls.set i ru5 (Rl.fw S1 fw5 ra)⟩⟩
 ·exact q.fw (f1.trans fw5)
end
end L2
namespace L2
open PySem PySem.Spec PyProof.Rows
section
variable {K:qad}{X:Cx}
def BQ (_ j:Int):Prop:=0<j/\j.natAbs.log2<9000
theorem wV:OpR X (qbC .FloorDiv) (rI BQ λi j=>.int (i / j)):=opI λi j _ _ _ _ _ hc q=>by
 obtain⟨h0,h1⟩:=hc
 exact floordiv_int (by lia) (by rw[qeV i (by lia)];exact q) (.inl (PyProof.noPylong_of_log2 h1))
def nB (_:Sto):W->W->Option D
 |.d (.int i),.d (.int j)=>if 0<j/\j.natAbs.log2<9000 then some (.int (i / j)) else none
 |_,_=>none
theorem mY:OpD K X (qbC .FloorDiv) nB:=iW λst x y d h=>by
 match x,y,h with
 |.d (.int i),.d (.int j),h=>
  simp only[nB]at h
  split at h
  ·rename_i hc
   cases h;exact⟨i,j,rfl,rfl,wV.imp λvx vy H Q ⟨a,b,q⟩=>⟨i,j,a,b,hc,q⟩,rfl⟩
  ·cases h
theorem w6:dD X (.type "range") (λxs H Q=>∃ i j:Int,xs=[.int i,.int j]/\∀ p,H p=none->Q (.ref p) (upd H p (.rng i j))):=by
 intro pins s σ H xs us Q I rv h
 obtain⟨i,j,rfl,q⟩:=h
 cases rv with
 |cons r rr=>
  cases rr with
  |cons r' rr=>
   cases rr
   obtain⟨t,rfl⟩:=r
   obtain⟨t',rfl⟩:=r'
   exact call_range_2 ⟨.ref _,_,I.laid (o:=.rng i j) (λ_ _ q=>qak _ q) (qan _) ⟨_,_,_,qaI _ rfl⟩,rfl,q _ I.fresh⟩
theorem xk {acc:Array Value}{lo:Int}{n:Nat} (h:ItemsOf (λi v=>∃ t,v=Value.int (lo+(i:Int)*1) t) acc n):bf ((qac n).map λk:Nat=>V.int (lo+k)) acc.toList:=by
 obtain⟨hz,hi⟩:=h
 have key:∀ (l:List Value) (k:Nat),(∀ j v,l[j]?=some v->∃ t,v=Value.int (lo+((k+j:Nat):Int)) t)->bf ((qdU k l.length).map λk:Nat=>V.int (lo+k)) l:=by
  intro l
  induction l with
  |nil=>intro k _;exact .nil
  |cons x l ih=>
   intro k h
   obtain⟨t,e⟩:=h 0 x rfl
   rw[qat,qgg,qay]
   refine .cons ⟨t,e⟩ (ih (k+1) λj v hv=>?_)
   obtain⟨t,e⟩:=h (j+1) v (by simpa using hv)
   exact⟨t,by rw[e,show k+(j+1)=k+1+j by lia]⟩
 have:=key acc.toList 0 λj v hv=>by
  obtain⟨t,e⟩:=hi j v (by simpa using hv)
  exact⟨t,by rw[e,qd7,qbT]⟩
 rw[qfu]
 rw[qc3,hz]at this
 exact this
theorem vh (hc:X.calm=true:=by rfl):dD X (.type "list") (λxs H Q=>∃ (p:Addr) (lo:Int) (n:Nat),xs=[.ref p]/\H p=some (.rng lo (lo+(n:Int)))/\n<=1000/\-1000000<=lo/\lo<=1000000/\∀ l,H l=none->Q (.ref l) (upd H l (.lst ((qac n).map λk:Nat=>V.int (lo+k))))):=by
 intro pins s σ H xs us Q I rv h
 obtain⟨p,lo,n,rfl,hp,hn,l1,l2,q⟩:=h
 cases rv with
 |cons r rr=>
  cases rr
  cases r
  obtain⟨t,u,v,e⟩:=I.hok p _ hp
  refine call_list_range (I.ok.hd hc) e ?_ (n:=n) ?_ (by lia) λh' tk acc c kp e' hacc=>?_
  ·have fl:∀ z:Int,-2000000<=z->z<=2000000->qdT z=true:=λz h1 h2=>by
    unfold qdT
    simp only[qa4,decide_eq_true_eq]
    omega
   have hsz:qeh lo (lo+(n:Int)) 1=(n:Int):=by rw[qfJ];split<;>lia
   unfold qg3
   rw[hsz]
   simp[fl lo (by lia) (by lia),fl (lo+(n:Int)) (by lia) (by lia),fl 1 (by lia) (by lia),fl (n:Int) (by lia) (by lia)]
  ·rw[qfJ];split<;>lia
  ·exact⟨.ref s.heap.objs.size,_,I.laid (t':=tk) kp (qan _) (show dl X.prog X.w _ h' _ (.lst ((qac n).map λk:Nat=>V.int (lo+k))) from ⟨by rw[qai,qah];exact qg hn,acc.toList,c,xk hacc,by simpa using e'⟩),rfl,q _ (I.hok.fresh (qan _))⟩
def ox (a:Af):Lf
 |env,st=>(a env st).bind λr=>match r.1 with
 |[.d (.int j)]=>if 0<=j/\j<=1000 then some (cV 0 j.toNat,r.2) else none
 |_=>none
def qz (a:Af):Lf
 |env,st=>(a env st).bind λr=>match r.1 with
 |[.d (.int i),.d (.int j)]=>if 0<=j - i/\j - i<=1000/\-1000000<=i/\i<=1000000 then some (cV i (j - i).toNat,r.2) else none
 |_=>none
theorem Rls.rng {H:Hp}{φ:List Addr} (lo:Int) (n:Nat):Rls K H φ (cV lo n) ((qac n).map λk:Nat=>V.int (lo+k)):=by
 have:cV lo n=((qac n).map λk:Nat=>lo+(k:Int)).map D.int:=by unfold cV;rw[qbs];rfl
 rw[this,show ((qac n).map λk:Nat=>V.int (lo+k))=((qac n).map λk:Nat=>lo+(k:Int)).map V.int by rw[qbs];rfl]
 exact Rls.of_ints _
variable {a b:Expr}{af:Af}{p1 p2 p3 p4:Pos}
theorem wM (hgL:Gl X "list") (hmL:X.mg "list" = none) (hgR:Gl X "range") (hmR:X.mg "range" = none) (ha:IA K X [a] af) (hc:X.calm=true:=by rfl) (hs:aR a=true:=by rfl) :
  IL K X (.Call (.Name "list" p1) [.Call (.Name "range" p2) [a] [] p3] [] p4) (ox af):=by
 refine⟨λenv st r hr=>?_⟩
 simp only[ox,qab]at hr
 obtain⟨⟨ws,s1⟩,hw,hr⟩:=hr
 dsimp only at hr
 split at hr
 case h_2=>cases hr
 rename_i j
 split at hr
 case isFalse=>cases hr
 rename_i hj
 cases hr
 refine (fq (vh hc) hgL hmL qct (mK (fq yN hgR hmR qel (ha.run _ _ _ hw) (by decide) (by decide) (bI hs) (cA rfl)) qL (bI rfl)) (by decide) (by decide) (bI rfl) (cA rfl)).imp ?_
 rintro σ H Q ⟨φ,hE,hS,q⟩
 refine⟨φ,hE,hS,λvs H1 φ1 f1 s1' w1=>?_⟩
 obtain⟨v,r,rfl,r1,rfl⟩:=w1
 have r1:v=.int j:=r1
 subst r1
 refine⟨j,rfl,λp hp=>⟨p,0,j.toNat,rfl,?_,by lia,by lia,by lia,λl hl=>?_⟩⟩
 ·rw[upd_same,qdm,qfU hj.1]
 ·exact q l _ _ φ1 (f1.trans (Fw.new hp)) (s1'.new hp) hl (Rls.rng 0 j.toNat)
theorem yh (hgL:Gl X "list") (hmL:X.mg "list" = none) (hgR:Gl X "range") (hmR:X.mg "range" = none) (ha:IA K X [a,b] af) (hc:X.calm=true:=by rfl) (hs:aR a=true:=by rfl) (hs2:aR b=true:=by rfl) :
  IL K X (.Call (.Name "list" p1) [.Call (.Name "range" p2) [a,b] [] p3] [] p4) (qz af):=by
 refine⟨λenv st r hr=>?_⟩
 simp only[qz,qab]at hr
 obtain⟨⟨ws,s1⟩,hw,hr⟩:=hr
 dsimp only at hr
 split at hr
 case h_2=>cases hr
 rename_i i j
 split at hr
 case isFalse=>cases hr
 rename_i hj
 cases hr
 refine (fq (vh hc) hgL hmL qct (mK (fq w6 hgR hmR qel (ha.run _ _ _ hw) (by decide) (by decide) (bI hs) (cA (by rw[qbD,hs2];rfl))) qL (bI rfl)) (by decide) (by decide) (bI rfl) (cA rfl)).imp ?_
 rintro σ H Q ⟨φ,hE,hS,q⟩
 refine⟨φ,hE,hS,λvs H1 φ1 f1 s1' w1=>?_⟩
 obtain⟨v,r,rfl,r1,u,r',rfl,r2,rfl⟩:=w1
 have r1:v=.int i:=r1
 have r2:u=.int j:=r2
 subst r1 r2
 refine⟨i,j,rfl,λp hp=>⟨p,i,(j - i).toNat,rfl,?_,by lia,by lia,by lia,λl hl=>?_⟩⟩
 ·rw[upd_same,qfU hj.1,show i+(j - i)=j by lia]
 ·exact q l _ _ φ1 (f1.trans (Fw.new hp)) (s1'.new hp) hl (Rls.rng i (j - i).toNat)
end
open Classical in
def lcH (n:Nat) (all:List D) (g:Tg) (tt:Tf) (te:Ef) (env:Ev):List D->Sto->Option (List D×Sto)
 |[],st=>if lg st n=some all then some ([],st) else none
 | d::ds,st=>if lg st n=some all then ((eH g (.d d) env).bind λe=>(tt e st).bind λb=>if b.1=true then (te e b.2).bind λx=>(ly [x.1]).bind λys=>(lcH n all g tt te env ds x.2).map λr=>(ys++r.1,r.2)
   else lcH n all g tt te env ds b.2) else none
def tF (k:Nat) (js:List Nat) (fe:Ef) (g:Tg) (tt:Tf) (te:Ef):Lf
 |env,st=>(fe env st).bind λr=>match r.1 with
  |.h n=>(lg r.2 n).bind λds=>if ds.length<=1000000 then lcH n ds g tt te (gQ k js env) ds r.2 else none
  |_=>none
section
variable {K:qad}{X:Cx}{pos:Pos}{tg:Expr}
def YlH (K:qad) (φ0:List Addr) (H0:Hp) (J:It) (n:Nat) (ds:List D):Prop:=∀ (H:Hp) (φ:List Addr) (st:Sto) (i:Nat),Fw φ0 φ H0 H->Sr K H φ st->lg st n=some ds->
 (∀ d,ds[i]?=some d->J.go i H/\∀ x H',J.yld i H x H'->bv H H'/\Rl K H' φ d x)/\(ds.length=i->J.stop i H)
def CF (K:qad) (env:Ev) (st:Sto) (n:Nat) (ds:List D) (s1:Sto):TI:=λσ H R=>∃ φ,Er K H φ env σ/\Sr K H φ st/\∀ J H' φ',Fw φ φ' H H'->Sr K H' φ' s1->YlH K φ' H' J n ds->R J H'
theorem zc {e:Expr}{f:Ef}{env:Ev}{st s1:Sto}{n:Nat}{ds:List D} (h:IE K X e f) (hK:X.K=K) (hf:f env st=some (.h n,s1)) (hn:lg s1 n=some ds):PI X tg e (CF K env st n ds s1):=by
 subst hK
 refine (vJ (h.run _ _ _ hf)).imp ?_
 rintro σ H R ⟨φ,hE,hS,q⟩
 refine⟨φ,hE,hS,λv H1 φ1 f1 S1 w1=>?_⟩
 obtain⟨a,vs,rfl,hq,hr⟩:=qp S1 w1 (show lsD s1 (.h n)=some ds from hn)
 refine⟨a,rfl,⟨vs,.inl hq⟩,q _ H1 φ1 f1 S1 λH2 φ2 st2 i f2 S2 hn2=>?_⟩
 obtain⟨a2,vs2,ea,hq2,hr2⟩:=qp S2 (Rw.fw S1 f2 w1) (show lsD st2 (.h n)=some ds from hn2)
 cases ea
 have hq3:SqL X.K H2 a vs2:=.inl hq2
 refine⟨λd hd=>?_,λhi=>⟨vs2,hq3,by rw[<-hr2.length];exact qcB hi⟩⟩
 obtain⟨v,ev,rv⟩:=hr2.get hd
 refine⟨⟨vs2,v,hq3,ev⟩,λx H' y=>?_⟩
 obtain⟨rfl,y⟩:=y
 have:=y vs2 hq3
 rw[ev]at this
 cases this
 exact⟨bv.refl _,rv⟩
theorem zC {k n:Nat}{js:List Nat}{g:Tg}{tt:Tf}{te:Ef}{env:Ev}{st s1:Sto}{ds:List D}{r:List D×Sto} (hgi:∀ j∈sW g,j<k) (hdl:ds.length<=1000000) (hr':lcH n ds g tt te (gQ k js env) ds s1=some r) :
  ∀ σ H Q,tIL K env st r σ H Q->tLc (gy k js) (CF K env st n ds s1) (tG K g) (uX K tt) (wK K te) σ H Q:=by
 rintro σ H Q ⟨φ,hE,hS,q⟩
 refine⟨φ,hE,hS,λJ H1 φ1 f1 S1 yl=>?_⟩
 have hE1:=(hE.fw hS f1).emb k js
 refine⟨λi m ys H2=>m=ds.length - i/\i<=ds.length/\∃ st φ2 es r2,Fw φ1 φ2 H1 H2/\Sr K H2 φ2 st/\Rls K H2 φ2 es ys/\es.length<=i/\lcH n ds g tt te (gQ k js env) (ds.drop i) st=some r2/\r=(es++r2.1,r2.2),⟨ds.length,by simp,qb2 _,s1,φ1,[],r,Fw.refl _ _,S1,rfl,qan _,hr',rfl⟩,?_⟩
 rintro i m ys H2 ⟨rfl,hi,st2,φ2,es,r2,f2,S2,rl2,hle,h2,rfl⟩
 by_cases hlt:i<ds.length
 ·rw[qdl hlt]at h2
  rw[lcH]at h2
  by_cases hg2:lg st2 n=some ds
  ·rw[if_pos hg2]at h2
   obtain⟨y1,y2⟩:=yl H2 φ2 st2 i f2 S2 hg2
   obtain⟨go,yld⟩:=y1 ds[i] (qaL hlt)
   simp only[qab]at h2
   obtain⟨e3,he3,⟨kb,s3⟩,hb3,h3⟩:=h2
   have hz:ys.length<qaS:=by
    rw[<-rl2.length]
    have:qaS=16777216:=qdJ
    lia
   refine .inr ⟨go,hz,λys' H'=>i+1<=ds.length/\∃ st φ2 es' r2',Fw φ1 φ2 H1 H'/\Sr K H' φ2 st/\Rls K H' φ2 es' ys'/\es'.length<=i+1/\lcH n ds g tt te (gQ k js env) (ds.drop (i+1)) st=some r2'/\(es++r2.1,r2.2)=(es'++r2'.1,r2'.2),λys' H' ⟨hn,p'⟩=>⟨ds.length - (i+1),by lia,rfl,hn,p'⟩,λx H' y=>?_⟩
   obtain⟨sm,rx⟩:=yld x H' y
   have S3:=S2.same sm
   have f3:=f2.trans (Fw.same (φ:=φ2) sm)
   refine⟨φ2,st2,gQ k js env,.d ds[i],e3,hE1.fw S1 f3,S3,rx,he3,λσ' e' stay=>⟨Sub.stay stay hgi,?_⟩⟩
   refine⟨e3,st2,_,hb3,φ2,e',S3,λH4 φ4 f4 S4=>?_⟩
   cases kb with
   |false=>
    rw[if_neg qaH]at h3
    exact uy ⟨hlt,s3,φ4,es,r2,f3.trans f4,S4,(rl2.fw S2 (Fw.same sm)).fw S3 f4,by lia,h3,rfl⟩
   |true=>
    simp only[if_true,qab,qae]at h3
    obtain⟨x5,hx5,zs,hzs,r5,hr5,rfl⟩:=h3
    refine uc ⟨e3,s3,x5,hx5,φ4,e'.fw S3 f4,S4,λv H5 φ5 f5 S5 w5=>?_⟩
    obtain⟨x5,s5⟩:=x5
    cases x5 with
    |h n=>cases hzs
    |d z=>
     cases hzs
     refine⟨hlt,s5,φ5,es++[z],r5,(f3.trans f4).trans f5,S5,(((rl2.fw S2 (Fw.same sm)).fw S3 f4).fw S4 f5).append ⟨v,[],rfl,w5,rfl⟩,by rw[qap];simp;lia,hr5,?_⟩
     simp
  ·rw[if_neg hg2]at h2;cases h2
 ·have hi':i=ds.length:=by lia
  subst hi'
  rw[qey,lcH]at h2
  by_cases hg2:lg st2 n=some ds
  ·rw[if_pos hg2]at h2
   obtain⟨y1,y2⟩:=yl H2 φ2 st2 _ f2 S2 hg2
   cases h2
   refine .inl ⟨y2 rfl,λDn hD=>?_⟩
   have:=q Dn ys H2 φ2 (f1.trans f2) S2 hD
   exact this (by simpa using rl2)
  ·rw[if_neg hg2]at h2;cases h2
theorem wk {k:Nat}{js:List Nat}{fe:Ef}{g:Tg}{tt:Tf}{te:Ef}{env:Ev}{st:Sto}{r:List D×Sto} (hr:tF k js fe g tt te env st=some r):∃ n s1 ds,fe env st=some (.h n,s1)/\lg s1 n=some ds/\ds.length<=1000000/\lcH n ds g tt te (gQ k js env) ds s1=some r:=by
 simp only[tF,qab]at hr
 obtain⟨⟨w,s1⟩,hy,hr⟩:=hr
 cases w with
 |d x=>cases hr
 |h n=>
  obtain⟨ds,hds,hr⟩:=qab.mp hr
  by_cases hdl:ds.length<=1000000
  ·rw[if_pos hdl]at hr
   exact⟨n,s1,ds,hy,hds,hdl,hr⟩
  ·rw[if_neg hdl]at hr;cases hr
theorem A8 {scope:Scope}{Nc:List Str}{k:Nat}{js:List Nat}{elt iter:Expr}{ifs:List Expr}{fe:Ef}{g:Tg}{tt:Tf}{te:Ef}
  (S:fE X scope Nc (gy k js)) (hc:X.calm=true) (hgi:∀ j∈sW g,j<k) (hi:IE K X iter fe) (hK:X.K=K)
  (hg:∀ cells s H C fp,PG (lcX X scope cells Nc s H C fp) tg (tG K g)) (ht:∀ cells s H C fp,ITs K (lcX X scope cells Nc s H C fp) ifs tt) (he:∀ cells s H C fp,IE K (lcX X scope cells Nc s H C fp) elt te)
  (hs:∀ x,qbY iter X.env x=pure x:=by intro _;rfl):IL K X (.ListComp elt [⟨tg,iter,ifs,0⟩] scope pos) (tF k js fe g tt te):=by
 refine⟨λenv st r hr=>?_⟩
 obtain⟨n,s1,ds,hy,hds,hdl,hr'⟩:=wk hr
 exact (zQ S hc (zc hi hK hy hds) hg (λcells s H C fp=>(ht cells s H C fp).run) (λcells s H C fp=>(he cells s H C fp).any) hs).imp (zC hgi hdl hr')
end
end L2
namespace Own
open PySem L2
noncomputable section
def kE:Sf:=(bH (gR (iCB pA (aa (iV 0) (aa (iC (.ty "int")) ag))) (xg (iCB pA (aa (iV 0) (aa (iC (.ty "bool")) ag))))))
def gF:Fn:=cT 1 1 kE
def ms:Ef:=(gR (ay gF (aa (iV 0) ag)) (iOp dGe (iV 0) (iC (.int 0))))
def iB:Sf:=(ao (cv (fR (dh (dm dF (iCB pA (aa (iV 0) (aa (iC (.ty "tuple")) ag))))) (bD dNe (iCB bE (aa (iV 0) ag)) (iV 1))) (bH (iC (.bl false))) bK) (bH (iCB tR (aa (aD (iLc 1 [] (aE (iV 0)) (.nm 0) aS ms)) ag))))
def cj:Fn:=cT 2 2 iB
def gx:Tf:=(bD dNe (iV 3) (iC (.int 0)))
def hW:Sf:=(ao (aG (.nm 4) (iOp jM (iV 1) (iV 3))) (ao (aG (.nm 1) (iV 3)) (aG (.nm 3) (iV 4))))
def ii:Sf:=(ao (aG (.nm 3) (iCB tY (aa (iV 2) ag))) (ub (2^8000) gx hW))
def dU:Sf:=(ao (aG (.nm 1) (iC (.int 0))) (ao (kq (aE (iV 0)) (.nm 2) ii) (bH (iV 1))))
def cU:Fn:=cT 5 1 dU
def mh:Ef:=(iOp nB (iV 0) (iV 1))
def jX:Sf:=(ao (aG (.nm 1) (ay cU (aa (iV 0) ag))) (ao (cv (bD dEq (iV 1) (iC (.int 0))) (bH (iCB db (aa (iV 0) ag))) bK) (bH (iCB db (aa (aD (iLc 1 [1] (aE (iV 0)) (.nm 0) aS mh)) ag)))))
def iQ:Fn:=cT 2 1 jX
def jo:Ef:=(iOp bO (iV 0) (iV 1))
def dG:Sf:=(bH (iCB vT (aa (aD (iLc 2 [] (eF (aa (iV 0) (aa (iV 1) ag))) (.tp [0,1]) aS jo)) ag)))
def bh:Fn:=cT 2 2 dG
def ju:Ef:=(iOp bu (aD (iCL vj (aa (iV 0) ag))) (aD (cI (aa (iV 1) ag))))
def jE:Ef:=(iUn ou (iV 0))
def dn:List (Str×Ef):=[("amounts",(iCB bE (aa (iV 3) ag))),("lines",(aD (iLc 2 [] (eF (aa (iV 1) (aa (iV 2) ag))) (.tp [0,1]) aS ju))),("goal",(iOp bu (aD (iLc 1 [] (aE (iV 3)) (.nm 0) aS jE)) (aD (cI (aa (iC (.int 0)) ag))))),("part",(iC (.int 1))),("free",(dH (ox (aa (iCB bE (aa (iV 3) ag)) ag)))),("kept",(dH (qz (aa (iCB bE (aa (iV 3) ag)) (aa (iOp bu (iCB bE (aa (iV 3) ag)) (iCB bE (aa (iV 1) ag))) ag)))))]
def bz:Sf:=(ao (cv (dm dF (iV 3)) (ao (aG (.nm 5) (iOp bO (iOp dIx (iV 1) (iV 4)) (iOp dIx (iV 2) (iOp dIx (iV 3) (iC (.int 0)))))) (ao (aG (.nm 6) (iOp bO (iOp dIx (iV 1) (iOp dIx (iV 3) (iC (.int 0)))) (iOp dIx (iV 2) (iV 4)))) (ao (cv (bD dGt (iV 5) (iV 6)) pq bK) (cv (bD dLt (iV 5) (iV 6)) (aG (.nm 3) (dH (cI ag))) bK)))) bK) (fg (dQ cy (iV 3) (aa (iV 4) ag))))
def fB:Sf:=(ao (aG (.nm 3) (dH (cI ag))) (ao (kq (aE (iV 0)) (.nm 4) bz) (bH (iV 3))))
def ir:Fn:=iM 7 3 fB
def jY:Sf:=(bH (iOp bu (aD (cI (aa (iC .non) ag))) (aD (qz (aa (aw "amounts" (iV 0)) (aa (iOp bu (aw "amounts" (iV 0)) (iCB bE (aa (aw "lines" (iV 0)) ag))) ag))))))
def gv:Fn:=cT 1 1 jY
def oh:Ef:=(lN (bD dEq (iV 0) (iV 1)) (aw "part" (iV 2)) (iC (.int 0)))
def nP:Ef:=(iOp dIx (iV 0) (iV 1))
def nU:Ef:=(iOp dIx (iV 0) (iUn ou (iC (.int 1))))
def eQ:Sf:=(ao (cv (bD iy (iV 1) (iC .non)) (bH (aD (iLc 1 [] (aE (aw "lines" (iV 0))) (.nm 0) aS nU))) bK) (ao (cv (bD dIn (iV 1) (aw "free" (iV 0))) (ao (aG (.nm 2) (xK (aw "free" (iV 0)) (aa (iV 1) ag))) (bH (aD (iLc 1 [2] (aE (aw "lines" (iV 0))) (.nm 0) aS nP)))) bK) (bH (aD (iLc 1 [1,0] (aE (aw "kept" (iV 0))) (.nm 0) aS oh)))))
def eU:Fn:=cT 3 2 eQ
def im:Sf:=(ao (cv (bD dLt (iCB bE (aa (iV 3) ag)) (iC (.int 2))) sR bK) (aG (.nm 3) (ay ir (aa (iV 3) (aa (ay eU (aa (iV 0) (aa (iV 4) ag))) (aa (iV 2) ag))))))
def lX:Ef:=(iV 0)
def lW:Tf:=(bD dGt (iV 1) (iC (.int 0)))
def lY:Ef:=(iOp dIx (iV 0) (iV 1))
def jW:Sf:=(ao (aG (.nm 2) (aD (iLc 1 [1] (aE (aw "lines" (iV 0))) (.nm 0) aS lY))) (ao (aG (.nm 3) (aD (iLc 2 [] (fX (aa (iV 2) ag)) (.tp [0,1]) lW lX))) (ao (kq (aE (ay gv (aa (iV 0) ag))) (.nm 4) im) (bH (lN (dm dF (iV 3)) (iOp dIx (iV 3) (iC (.int 0))) (iC .non))))))
def jU:Fn:=cT 5 2 jW
def dc:Sf:=(ao (aG (.nm 6) (ay eU (aa (iV 0) (aa (iV 5) ag)))) (ao (aG (.nm 7) (iOp qk (iOp bO (iV 4) (iOp dIx (iV 6) (iOp dIx (iV 2) (iC (.int 1))))) (iOp bO (iV 3) (iOp dIx (iV 6) (iOp dIx (iV 1) (iC (.int 1))))))) (cv (bD dNe (iV 7) (iC (.int 0))) (bH (iOp dGt (iV 7) (iC (.int 0)))) bK)))
def fj:Sf:=(ao (aG (.nm 3) (iOp bO (iOp dIx (aw "goal" (iV 0)) (iOp dIx (iV 1) (iC (.int 0)))) (iOp dIx (iOp dIx (aw "lines" (iV 0)) (iOp dIx (iV 2) (iC (.int 1)))) (iOp dIx (iV 2) (iC (.int 0)))))) (ao (aG (.nm 4) (iOp bO (iOp dIx (aw "goal" (iV 0)) (iOp dIx (iV 2) (iC (.int 0)))) (iOp dIx (iOp dIx (aw "lines" (iV 0)) (iOp dIx (iV 1) (iC (.int 1)))) (iOp dIx (iV 1) (iC (.int 0)))))) (ao (kq (aE (ay gv (aa (iV 0) ag))) (.nm 5) dc) (bH (iC (.bl false))))))
def dw:Fn:=cT 8 3 fj
def cZ:Sf:=(ao (cv (bD dGe (iOp dIx (aw "goal" (iV 0)) (iV 2)) (iC (.int 0))) pq bK) (ao (aG (.nm 3) (bm (aa (iV 2) (aa (ay jU (aa (iV 0) (aa (iV 2) ag))) ag)))) (ao (cv (bD iy (iOp dIx (iV 3) (iC (.int 1))) (iC .non)) (bH (iV 3)) bK) (cv (fR (bD iy (iV 1) (iC .non)) (dm dF (ay dw (aa (iV 0) (aa (iV 3) (aa (iV 1) ag)))))) (aG (.nm 1) (iV 3)) bK))))
def fP:Sf:=(ao (aG (.nm 1) (iC .non)) (ao (kq (cH (aa (iCB bE (aa (aw "free" (iV 0)) ag)) ag)) (.nm 2) cZ) (bH (iV 1))))
def cJ:Fn:=cT 4 1 fP
def lq:Ef:=(iOp nB (iOp qk (iOp bO (iV 2) (iV 0)) (iOp bO (iV 3) (iV 1))) (iV 4))
def mz:Sf:=(ao (aG (.nm 4) (iOp dIx (iV 1) (iV 2))) (ao (aG (.nm 5) (iOp dIx (iV 0) (iV 2))) (ao (aG (.nm 6) (dH (iLc 2 [4,5,3] (eF (aa (iV 0) (aa (iV 1) ag))) (.tp [0,1]) aS lq))) (ao (cg (iV 6) (iV 2) (iUn ou (iV 5))) (bH (iV 6))))))
def jZ:Fn:=iM 7 4 mz
def fZ:Ef:=(ay jZ (aa (iV 0) (aa (iV 1) (aa (iV 2) (aa (iV 3) ag)))))
def gz:Sf:=(ao (aG (.nm 3) (iOp dIx (aw "lines" (iV 0)) (iV 1))) (ao (aG (.nm 4) (aw "part" (iV 0))) (ao (i3 5 1 2 3 4 (iLc 1 [3,2,4] (aE (aw "lines" (iV 0))) (.nm 0) aS fZ)) (ao (j9 "goal" (iV 0) (ay jZ (aa (aw "goal" (iV 0)) (aa (iV 3) (aa (iV 2) (aa (iV 4) ag)))))) (ao (j9 "lines" (iV 0) (iV 5)) (ao (j9 "part" (iV 0) (iOp dIx (iV 3) (iV 2))) (ao (aG (.nm 6) (iOp dIx (aw "free" (iV 0)) (iV 2))) (ao (cg (aw "free" (iV 0)) (iV 2) (iOp dIx (aw "kept" (iV 0)) (iV 1))) (cg (aw "kept" (iV 0)) (iV 1) (iV 6))))))))))
def fu:Fn:=iM 7 3 gz
def nR:Sf:=(cv (bD dLt (iV 4) (aw "amounts" (iV 0))) (cg (iV 2) (iV 4) (iUn ou (iOp dIx (iOp dIx (aw "lines" (iV 0)) (iV 3)) (iV 1)))) bK)
def kU:Sf:=(ao (aG (.nm 2) (dH (sP oG (aD (cI (aa (iC (.int 0)) ag))) (aw "amounts" (iV 0))))) (ao (kq (fX (aa (aw "kept" (iV 0)) ag)) (.tp [3,4]) nR) (ao (cv (bD dLt (iOp dIx (aw "free" (iV 0)) (iV 1)) (aw "amounts" (iV 0))) (cg (iV 2) (iOp dIx (aw "free" (iV 0)) (iV 1)) (aw "part" (iV 0))) bK) (bH (fU iQ (aa (iV 2) ag))))))
def kY:Fn:=iM 5 2 kU
def jG:Sf:=(cv (bD dLt (iV 3) (aw "amounts" (iV 0))) (cg (iV 1) (iV 3) (iOp dIx (iOp dIx (aw "lines" (iV 0)) (iV 2)) (iUn ou (iC (.int 1))))) bK)
def gn:Sf:=(ao (aG (.nm 1) (dH (sP oG (aD (cI (aa (iC (.int 0)) ag))) (aw "amounts" (iV 0))))) (ao (kq (fX (aa (aw "kept" (iV 0)) ag)) (.tp [2,3]) jG) (bH (iV 1))))
def i6:Fn:=iM 4 1 gn
def kg:Sf:=(cv (bD dGe (iV 3) (aw "amounts" (iV 0))) (cg (iV 1) (iOp qk (iV 3) (aw "amounts" (iV 0))) (iOp dIx (aw "goal" (iV 0)) (iV 2))) bK)
def hU:Sf:=(ao (aG (.nm 1) (dH (sP oG (aD (cI (aa (iC (.int 0)) ag))) (iCB bE (aa (aw "lines" (iV 0)) ag))))) (ao (kq (fX (aa (aw "free" (iV 0)) ag)) (.tp [2,3]) kg) (bH (iV 1))))
def jB:Fn:=iM 4 1 hU
def eS:Ef:=(iOp nB (iV 0) (iV 1))
def eK:Ef:=(iOp nB (iV 0) (iV 1))
def gk:Sf:=(ao (aG (.nm 1) (ay i6 (aa (iV 0) ag))) (ao (aG (.nm 2) (ay jB (aa (iV 0) ag))) (ao (aG (.nm 3) (ay cU (aa (iOp bu (iOp bu (aD (cI (aa (aw "part" (iV 0)) ag))) (iV 1)) (iV 2)) ag))) (bH (bm (aa (iC (.str "most")) (aa (iOp nB (aw "part" (iV 0)) (iV 3)) (aa (iCB db (aa (aD (iLc 1 [3] (aE (iV 1)) (.nm 0) aS eK)) ag)) (aa (iCB db (aa (aD (iLc 1 [3] (aE (iV 2)) (.nm 0) aS eS)) ag)) ag)))))))))
def iY:Fn:=cT 4 1 gk
def ja:Tf:=(bD zO (iV 4) (iC .non))
def gZ:Sf:=(ao (cv (bD iy (iOp dIx (iV 4) (iC (.int 1))) (iC .non)) (bH (bm (aa (iC (.str "beyond")) (aa (fU kY (aa (iV 3) (aa (iOp dIx (iV 4) (iC (.int 0))) ag))) ag)))) bK) (ao (fg (ay fu (aa (iV 3) (aa (iOp dIx (iV 4) (iC (.int 1))) (aa (iOp dIx (iV 4) (iC (.int 0))) ag))))) (aG (.nm 4) (fU cJ (aa (iV 3) ag)))))
def iJ:Sf:=(ao (aG (.nm 3) (pi 4 4 dn (aa (iV 0) (aa (iV 1) (aa (iV 2) ag))))) (ao (aG (.nm 4) (fU cJ (aa (iV 3) ag))) (ao (ub (2^8000) ja gZ) (bH (fU iY (aa (iV 3) ag))))))
def gr:Fn:=cT 5 3 iJ
def kf:Ef:=(iOp dIx (iV 0) (iV 1))
def ij:Sf:=(bH (aD (iLc 1 [1] (aE (iV 0)) (.nm 0) aS kf)))
def jD:Fn:=cT 2 2 ij
def gU:Ef:=(iOp dLe (ay bh (aa (iV 0) (aa (iV 2) ag))) (iOp bO (iV 1) (iV 3)))
def dZ:Sf:=(bH (iCB tR (aa (aD (iLc 2 [2,3] (eF (aa (iV 0) (aa (iV 1) ag))) (.tp [0,1]) aS gU)) ag)))
def cx:Fn:=cT 4 4 dZ
def jd:Ef:=(iOp dGe (ay bh (aa (ay jD (aa (iV 2) (aa (iV 0) ag))) (aa (iV 3) ag))) (iOp bO (iV 1) (iV 4)))
def fD:Sf:=(bH (iCB tR (aa (aD (iLc 2 [0,2,3] (fX (aa (iV 1) ag)) (.tp [0,1]) aS jd)) ag)))
def fJ:Fn:=cT 4 4 fD
def gJ:Sf:=(ao (cv (fR (dh (dm dF (ay gF (aa (iV 3) ag)))) (bD dLt (iV 3) (iC (.int 1)))) (bH (iC (.bl false))) bK) (ao (cv (fR (dh (dm dF (ay cj (aa (iV 4) (aa (iCB bE (aa (iV 2) ag)) ag))))) (dh (dm dF (ay cj (aa (iV 5) (aa (iCB bE (aa (iV 0) ag)) ag)))))) (bH (iC (.bl false))) bK) (ao (cv (fR (dh (dm dF (ay cx (aa (iV 0) (aa (iV 1) (aa (iV 4) (aa (iV 3) ag))))))) (dh (dm dF (ay fJ (aa (iV 0) (aa (iV 2) (aa (iV 5) (aa (iV 3) ag)))))))) (bH (iC (.bl false))) bK) (bH (iOp dEq (ay bh (aa (iV 1) (aa (iV 5) ag))) (ay bh (aa (iV 2) (aa (iV 4) ag))))))))
def ky:Fn:=cT 6 6 gJ
def jO:Sf:=(ao (cv (dh (dm dF (ay cj (aa (iV 2) (aa (iCB bE (aa (iV 1) ag)) ag))))) (bH (iC (.bl false))) bK) (bH (gR (ay cx (aa (iV 0) (aa (iOp bO (aD (cI (aa (iC (.int 0)) ag))) (iCB bE (aa (iV 0) ag))) (aa (iV 2) (aa (iC (.int 1)) ag))))) (iOp dGt (ay bh (aa (iV 1) (aa (iV 2) ag))) (iC (.int 0))))))
def nX:Fn:=cT 3 3 jO
def eR:Sf:=(ao (cv (fR (dh (dm dF (iCB pA (aa (iV 3) (aa (iC (.ty "tuple")) ag))))) (fR (bD ux (iCB bE (aa (iV 3) ag)) (bm (aa (iC (.int 2)) (aa (iC (.int 4)) ag)))) (dh (dm dF (iCB pA (aa (iOp dIx (iV 3) (iC (.int 0))) (aa (iC (.ty "str")) ag))))))) (bH (iC (.bl false))) bK) (ao (cv (bD dEq (iCB bE (aa (iV 3) ag)) (iC (.int 4))) (bH (gR (iOp dEq (iOp dIx (iV 3) (iC (.int 0))) (iC (.str "most"))) (ay ky (aa (iV 0) (aa (iV 1) (aa (iV 2) (aa (iOp dIx (iV 3) (iC (.int 1))) (aa (iOp dIx (iV 3) (iC (.int 2))) (aa (iOp dIx (iV 3) (iC (.int 3))) ag))))))))) bK) (bH (gR (iOp dEq (iOp dIx (iV 3) (iC (.int 0))) (iC (.str "beyond"))) (ay nX (aa (iV 0) (aa (iV 2) (aa (iOp dIx (iV 3) (iC (.int 1))) ag))))))))
def eZ:Fn:=cT 4 4 eR
def gw:Sf:=(ao (aG (.nm 2) (lN (bD dLt (iV 1) (iCB bE (aa (iV 0) ag))) (iOp dIx (iV 0) (iV 1)) (iC (.int 0)))) (ao (aG (.nm 3) (iOp bO (iCB tY (aa (iV 2) ag)) (iCB v4 (aa (iOp dGe (iCB tY (aa (iV 2) ag)) (iOp pN (iC (.int 10)) (iC (.int 18)))) ag)))) (bH (dH (cI (aa (iV 3) (aa (iOp jM (iOp bO (iOp bu (iOp bu (iOp jM (iV 2) (iC (.int 2147483629))) (iOp bO (iOp bO (iC (.int 5303)) (iV 1)) (iV 1))) (iC (.int 17))) (iC (.int 48271))) (iC (.int 2147483647))) (aa (iC (.int 0)) ag))))))))
def fk:Fn:=cT 4 2 gw
def eE:Sf:=(ao (cg (iV 0) (iC (.int 2)) (iOp bu (iOp dIx (iV 0) (iC (.int 2))) (iC (.int 1)))) (ao (cv (px (bD dGt (iOp dIx (iV 0) (iC (.int 0))) (iC (.int 0))) (bD dLe (iOp dIx (iV 0) (iC (.int 2))) (iC (.int 400)))) (ao (aG (.nm 2) (iOp jM (iOp dIx (iV 0) (iC (.int 0))) (iV 1))) (ao (cg (iV 0) (iC (.int 0)) (iOp ny (iOp dIx (iV 0) (iC (.int 0))) (iV 1))) (bH (iV 2)))) bK) (ao (cg (iV 0) (iC (.int 1)) (iOp jM (iOp bu (iOp bu (iOp bO (iOp dIx (iV 0) (iC (.int 1))) (iC (.int 48271))) (iC (.int 12345))) (iOp dIx (iV 0) (iC (.int 2)))) (iC (.int 2147483647)))) (bH (iOp jM (iOp ny (iOp jM (iOp bO (iOp dIx (iV 0) (iC (.int 1))) (iOp bu (iOp jM (iOp dIx (iV 0) (iC (.int 1))) (iC (.int 39373))) (iC (.int 7)))) (iC (.int 2147483629))) (iC (.int 64))) (iV 1))))))
def aM:Fn:=cT 3 2 eE
def iE:Ef:=(iOp qk (ay aM (aa (iV 1) (aa (iC (.int 9)) ag))) (iC (.int 3)))
def fH:Ef:=(iOp bO (ay aM (aa (iV 1) (aa (iC (.int 8)) ag))) (iV 2))
def om:Sf:=(ao (aG (.nm 5) (iOp dIx (aD (cI (aa (iC (.int 1)) (aa (iC (.int 1)) (aa (iC (.int 1)) (aa (iOp pN (iC (.int 10)) (iC (.int 12))) ag)))))) (ay aM (aa (iV 0) (aa (iC (.int 4)) ag))))) (ao (aG (.nm 6) (iCB db (aa (aD (tF 1 [0,5] (iV 3) (.nm 0) aS fH)) ag))) (bH (bm (aa (iCB db (aa (iV 3) ag)) (aa (iV 6) (aa (iCB db (aa (aD (iLc 1 [0] (cH (aa (iV 1) ag)) (.nm 0) aS iE)) ag)) ag)))))))
def fK:Ef:=(iOp bO (iOp qk (ay aM (aa (iV 1) (aa (iC (.int 7)) ag))) (iV 2)) (iCB v4 (aa (iOp dGt (ay aM (aa (iV 1) (aa (iC (.int 4)) ag))) (iC (.int 0))) ag)))
def kc:Sf:=(fg (dQ cy (iV 3) (aa (iCB db (aa (aD (iLc 1 [0,2] (cH (aa (iV 1) ag)) (.nm 0) aS fK)) ag)) ag)))
def fN:Sf:=(ao (aG (.nm 1) (iOp bu (iC (.int 1)) (ay aM (aa (iV 0) (aa (iC (.int 5)) ag))))) (ao (aG (.nm 2) (iOp dIx (aD (cI (aa (iC (.int 0)) (aa (iC (.int 3)) (aa (iC (.int 1)) ag))))) (ay aM (aa (iV 0) (aa (iC (.int 3)) ag))))) (ao (aG (.nm 3) (dH (cI ag))) (ao (kq (cH (aa (ay aM (aa (iV 0) (aa (iC (.int 6)) ag))) ag)) (.nm 4) kc) om))))
def eB:Fn:=iM 7 1 fN
def qy:Ef:=(iOp bO (iV 0) (iV 1))
def kG:Sf:=(bH (iCB vT (aa (aD (iLc 2 [] (eF (aa (iV 0) (aa (iV 1) ag))) (.tp [0,1]) aS qy)) ag)))
def kC:Fn:=cT 2 2 kG
def jJ:Ef:=(dQ tV (iV 1) (aa (ay aM (aa (iV 2) (aa (iCB bE (aa (iV 1) ag)) ag))) ag))
def ge:Sf:=(ao (aG (.nm 2) (dH (ox (aa (iV 1) ag)))) (bH (aD (iLc 1 [2,0] (cH (aa (iV 1) ag)) (.nm 0) aS jJ))))
def dy:Fn:=iM 3 2 ge
def mk:Sf:=(bH (iV 6))
def jf:Ef:=(iOp bO (iV 1) (iV 0))
def fT:Sf:=(ao (aG (.nm 15) (iCB db (aa (aD (iLc 1 [8] (aE (iOp dIx (iV 2) (iV 10))) (.nm 0) aS jf)) ag))) (ao (aG (.nm 14) (iOp bu (iOp bu (iSl (iV 3) iPn (iPs (iV 10))) (bm (aa (iOp bO (iV 8) (iOp dIx (iV 3) (iV 10))) ag))) (iSl (iV 3) (iPs (iOp bu (iV 10) (iC (.int 1)))) iPn))) (ao (fg (dQ cy (iV 6) (aa (bm (aa (iOp bu (iOp bu (iSl (iV 2) iPn (iPs (iV 10))) (bm (aa (iV 15) ag))) (iSl (iV 2) (iPs (iOp bu (iV 10) (iC (.int 1)))) iPn)) (aa (iV 14) (aa (iV 4) (aa (iC (.int 1)) ag))))) ag))) (fg (dQ cy (iV 6) (aa (bm (aa (iOp bu (iV 2) (bm (aa (iOp dIx (iV 2) (iV 10)) ag))) (aa (iOp bu (iV 3) (bm (aa (iOp dIx (iV 3) (iV 10)) ag))) (aa (iV 4) (aa (iC (.int 1)) ag))))) ag))))))
def dW:Ef:=(iOp bu (iV 0) (iV 1))
def dY:Ef:=(ay aM (aa (iV 1) (aa (iCB bE (aa (iV 2) ag)) ag)))
def fW:Ef:=(iOp bu (iV 0) (bm (aa (iOp dIx (iV 0) (iV 1)) ag)))
def jl:Ef:=(iOp bO (iV 1) (iV 0))
def jj:Sf:=(ao (fg (dQ cy (iV 6) (aa (bm (aa (iV 2) (aa (iCB db (aa (aD (iLc 1 [8] (aE (iV 3)) (.nm 0) aS jl)) ag)) (aa (iV 4) (aa (iV 8) ag))))) ag))) (ao (aG (.nm 9) (ay aM (aa (iV 0) (aa (iCB bE (aa (iV 4) ag)) ag)))) (ao (fg (dQ cy (iV 6) (aa (bm (aa (iCB db (aa (aD (iLc 1 [9] (aE (iV 2)) (.nm 0) aS fW)) ag)) (aa (iV 3) (aa (iOp bu (iV 4) (bm (aa (iOp dIx (iV 4) (iV 9)) ag))) (aa (iC (.int 1)) ag))))) ag))) (ao (cv (bD dNe (iV 2) (bm ag)) (ao (aG (.tp [10,11,12]) (aD (iLc 1 [0,2] (cH (aa (iC (.int 3)) ag)) (.nm 0) aS dY))) (ao (aG (.nm 13) (iCB db (aa (aD (iLc 2 [] (eF (aa (iOp dIx (iV 2) (iV 10)) (aa (iOp dIx (iV 2) (iV 11)) ag))) (.tp [0,1]) aS dW)) ag))) (ao (aG (.nm 14) (iOp bu (iOp bu (iSl (iV 3) iPn (iPs (iV 12))) (bm (aa (iOp bu (iOp dIx (iV 3) (iV 10)) (iOp dIx (iV 3) (iV 11))) ag))) (iSl (iV 3) (iPs (iV 12)) iPn))) (ao (fg (dQ cy (iV 6) (aa (bm (aa (iOp bu (iOp bu (iSl (iV 2) iPn (iPs (iV 12))) (bm (aa (iV 13) ag))) (iSl (iV 2) (iPs (iV 12)) iPn)) (aa (iV 14) (aa (iV 4) (aa (iC (.int 1)) ag))))) ag))) fT)))) bK) mk))))
def jh:Ef:=(iOp bO (iV 1) (iV 0))
def jm:Ef:=(iOp dIx (iV 1) (iV 0))
def jk:Ef:=(iOp dIx (iV 1) (iV 0))
def fY:Ef:=(iCB db (aa (aD (iLc 1 [0] (aE (iV 1)) (.nm 0) aS jk)) ag))
def je:Sf:=(ao (aG (.nm 7) (iCB db (aa (aD (iLc 1 [5] (aE (iV 2)) (.nm 0) aS fY)) ag))) (ao (fg (dQ cy (iV 6) (aa (bm (aa (iV 7) (aa (iV 3) (aa (iCB db (aa (aD (iLc 1 [4] (aE (iV 5)) (.nm 0) aS jm)) ag)) (aa (iC (.int 1)) ag))))) ag))) (ao (aG (.nm 8) (iOp bu (iC (.int 2)) (ay aM (aa (iV 0) (aa (iC (.int 2)) ag))))) (ao (fg (dQ cy (iV 6) (aa (bm (aa (iV 2) (aa (iV 3) (aa (iCB db (aa (aD (iLc 1 [8] (aE (iV 4)) (.nm 0) aS jh)) ag)) (aa (iV 8) ag))))) ag))) jj))))
def fz:Ef:=(iOp dIx (iV 1) (iV 0))
def fA:Ef:=(iOp dIx (iV 1) (iV 0))
def cY:Sf:=(ao (aG (.tp [2,3,4]) (iV 1)) (ao (aG (.nm 5) (ay dy (aa (iV 0) (aa (iCB bE (aa (iV 2) ag)) ag)))) (ao (aG (.nm 6) (dH (cI (aa (bm (aa (iCB db (aa (aD (iLc 1 [2] (aE (iV 5)) (.nm 0) aS fA)) ag)) (aa (iCB db (aa (aD (iLc 1 [3] (aE (iV 5)) (.nm 0) aS fz)) ag)) (aa (iV 4) (aa (iC (.int 1)) ag))))) ag)))) (ao (aG (.nm 5) (ay dy (aa (iV 0) (aa (iCB bE (aa (iV 4) ag)) ag)))) je))))
def iD:Fn:=iM 16 2 cY
def eP:Sf:=(bH (lN (bD dEq (iOp dIx (iV 1) (iC (.int 0))) (iC (.str "beyond"))) (iC .non) (bm (aa (ay kC (aa (iOp dIx (iV 0) (iC (.int 2))) (aa (iOp dIx (iV 1) (iC (.int 2))) ag))) (aa (iOp dIx (iV 1) (iC (.int 1))) ag)))))
def du:Fn:=cT 2 2 eP
def gi:Sf:=(ao (cv (fR (bD iy (iV 0) (iC .non)) (bD iy (iV 1) (iC .non))) (bH (gR (iOp iy (iV 0) (iC .non)) (iOp iy (iV 1) (iC .non)))) bK) (bH (iOp dEq (iOp bO (iOp bO (iV 2) (iOp dIx (iV 0) (iC (.int 0)))) (iOp dIx (iV 1) (iC (.int 1)))) (iOp bO (iOp dIx (iV 1) (iC (.int 0))) (iOp dIx (iV 0) (iC (.int 1)))))))
def gm:Fn:=cT 3 3 gi
def iU:Sf:=(ao (cv (fR (bD iy (iV 0) (iC .non)) (bD iy (iV 1) (iC .non))) (bH (iC .non)) bK) (bH (bm (aa (iOp bu (iOp bO (iOp dIx (iV 0) (iC (.int 0))) (iOp dIx (iV 1) (iC (.int 1)))) (iOp bO (iOp dIx (iV 1) (iC (.int 0))) (iOp dIx (iV 0) (iC (.int 1))))) (aa (iOp bO (iOp dIx (iV 0) (iC (.int 1))) (iOp dIx (iV 1) (iC (.int 1)))) ag)))))
def kA:Fn:=cT 2 2 iU
def pM:Ef:=(iOp bu (iV 0) (iOp bO (bm (aa (iC (.int 0)) ag)) (iCB bE (aa (iOp dIx (iV 1) (iC (.int 2))) ag))))
def qv:Ef:=(iOp bu (iOp bO (bm (aa (iC (.int 0)) ag)) (iCB bE (aa (iOp dIx (iV 1) (iC (.int 2))) ag))) (iV 0))
def uT:Sf:=(ao (aG (.tp [10,11]) (iV 3)) (ao (aG (.nm 5) (iOp bu (aD (iLc 1 [11] (aE (iOp dIx (iV 10) (iC (.int 0)))) (.nm 0) aS pM)) (aD (iLc 1 [10] (aE (iOp dIx (iV 11) (iC (.int 0)))) (.nm 0) aS qv)))) (ao (aG (.nm 12) (bm (aa (iCB db (aa (iV 5) ag)) (aa (iOp bu (iOp dIx (iV 10) (iC (.int 1))) (iOp dIx (iV 11) (iC (.int 1)))) (aa (iOp bu (iOp dIx (iV 10) (iC (.int 2))) (iOp dIx (iV 11) (iC (.int 2)))) ag))))) (cv (dh (dm dF (ay gm (aa (ay kA (aa (iOp dIx (iV 4) (iC (.int 0))) (aa (iOp dIx (iV 4) (iC (.int 1))) ag))) (aa (ay du (aa (iV 12) (aa (ay gr (aa (iOp dIx (iV 12) (iC (.int 0))) (aa (iOp dIx (iV 12) (iC (.int 1))) (aa (iOp dIx (iV 12) (iC (.int 2))) ag)))) ag))) (aa (iC (.int 1)) ag)))))) (bH (iC (.bl false))) bK))))
def pz:Sf:=(ao (aG (.nm 9) (ay gr (aa (iV 5) (aa (iV 6) (aa (iV 7) ag))))) (ao (cv (dh (dm dF (ay gm (aa (iOp dIx (iV 4) (iC (.int 0))) (aa (ay du (aa (bm (aa (iV 5) (aa (iV 6) (aa (iV 7) ag)))) (aa (iV 9) ag))) (aa (iV 8) ag)))))) (bH (iC (.bl false))) bK) (cv (bD zS (ay eZ (aa (iV 5) (aa (iV 6) (aa (iV 7) (aa (iV 9) ag))))) (iC (.bl true))) (bH (iC (.bl false))) bK)))
def jT:Ef:=(ay du (aa (iV 0) (aa (ay gr (aa (iOp dIx (iV 0) (iC (.int 0))) (aa (iOp dIx (iV 0) (iC (.int 1))) (aa (iOp dIx (iV 0) (iC (.int 2))) ag)))) ag)))
def qq:Sf:=(ao (aG (.nm 2) (ay fk (aa (iV 0) (aa (iV 1) ag)))) (ao (aG (.nm 3) (aD (cI (aa (ay eB (aa (iV 2) ag)) (aa (ay eB (aa (iV 2) ag)) ag))))) (ao (aG (.nm 4) (aD (iLc 1 [] (aE (iV 3)) (.nm 0) aS jT))) (ao (kq (aE (ay iD (aa (iV 2) (aa (iOp dIx (iV 3) (iC (.int 0))) ag)))) (.tp [5,6,7,8]) pz) uT))))
def uI:Sf:=(ao (kq (cH (aa (iOp bu (iC (.int 1)) (iCB yI (aa (iC (.int 6)) (aa (iCB bE (aa (iV 0) ag)) ag)))) ag)) (.nm 1) qq) (bH (iC (.bl true))))
def rJ:Fn:=iM 13 1 uI
end
end Own
section
set_option maxHeartbeats 2000000
namespace Own
open PySem L2
def top (i:Nat):Stmt:=PySem.Challenge.pw_signpoly_k28_whole_most_stays.main.body.getD i (.Pass ⟨0,0,0,0⟩)
def zb (s:Stmt):List Stmt:=match s with
 |.ClassDef _ _ _ b _ _ _ _ _ _ _=>b
 |_=>[]
abbrev d7:Stmt:=top 1
abbrev ci:Stmt:=top 2
abbrev cc:Stmt:=top 3
abbrev eA:Stmt:=top 4
abbrev br:Stmt:=top 5
abbrev cz:Stmt:=(zb (top 7)).getD 0 (.Pass ⟨0,0,0,0⟩)
abbrev cE:Stmt:=top 8
abbrev fv:Stmt:=top 9
abbrev bX:Stmt:=top 10
abbrev dq:Stmt:=top 11
abbrev cN:Stmt:=top 12
abbrev de:Stmt:=top 13
abbrev ie:Stmt:=top 14
abbrev di:Stmt:=top 15
abbrev gD:Stmt:=top 16
abbrev cP:Stmt:=top 17
abbrev dg:Stmt:=top 18
abbrev cf:Stmt:=top 19
abbrev ft:Stmt:=top 20
abbrev cK:Stmt:=top 22
abbrev bR:Stmt:=top 23
abbrev cm:Stmt:=top 24
abbrev d6:Stmt:=top 25
abbrev gH:Stmt:=top 26
abbrev cL:Stmt:=top 27
abbrev d5:Stmt:=top 29
abbrev dj:Stmt:=top 30
abbrev ck:Stmt:=top 31
abbrev dk:Stmt:=top 32
abbrev cD:Stmt:=top 33
abbrev aQ:Stmt:=top 34
abbrev cR:Stmt:=top 35
abbrev cS:Stmt:=top 36
abbrev en:Stmt:=top 37
abbrev ke:Stmt:=top 38
theorem rQ:aP ["thing"] ["thing"] (ah d7):=⟨rfl,rfl,rfl,by decide +kernel,rfl,by decide +kernel,by decide +kernel⟩
theorem n0:aP ["thing","many"] ["thing","many"] (ah ci):=⟨rfl,rfl,rfl,by decide +kernel,rfl,by decide +kernel,by decide +kernel⟩
theorem bU:aP ["numbers","found","number","rest","over"] ["numbers"] (ah cc):=⟨rfl,rfl,rfl,by decide +kernel,rfl,by decide +kernel,by decide +kernel⟩
theorem nG:aP ["numbers","shared"] ["numbers"] (ah eA):=⟨rfl,rfl,rfl,by decide +kernel,rfl,by decide +kernel,by decide +kernel⟩
theorem jL:aP ["numbers","others"] ["numbers","others"] (ah br):=⟨rfl,rfl,rfl,by decide +kernel,rfl,by decide +kernel,by decide +kernel⟩
theorem oq:aP ["self","rows","bounds","gains"] ["self","rows","bounds","gains"] (ah cz):=⟨rfl,rfl,rfl,by decide +kernel,rfl,by decide +kernel,by decide +kernel⟩
theorem cG:aP ["places","tops","bottoms","least","place","mine","best"] ["places","tops","bottoms"] (ah cE):=⟨rfl,rfl,rfl,by decide +kernel,rfl,by decide +kernel,by decide +kernel⟩
theorem ua:aP ["table"] ["table"] (ah fv):=⟨rfl,rfl,rfl,by decide +kernel,rfl,by decide +kernel,by decide +kernel⟩
theorem j8:aP ["table","name","column"] ["table","name"] (ah bX):=⟨rfl,rfl,rfl,by decide +kernel,rfl,by decide +kernel,by decide +kernel⟩
theorem gK:aP ["table","column","entries","places","name"] ["table","column"] (ah dq):=⟨rfl,rfl,rfl,by decide +kernel,rfl,by decide +kernel,by decide +kernel⟩
theorem cW:aP ["table","one","other","mine","best","name","numbers","more"] ["table","one","other"] (ah cN):=⟨rfl,rfl,rfl,by decide +kernel,rfl,by decide +kernel,by decide +kernel⟩
theorem eW:aP ["table","best","column","step"] ["table"] (ah de):=⟨rfl,rfl,rfl,by decide +kernel,rfl,by decide +kernel,by decide +kernel⟩
theorem ld:aP ["line","turning","column","part","pivot","entry","told"] ["line","turning","column","part"] (ah ie):=⟨rfl,rfl,rfl,by decide +kernel,rfl,by decide +kernel,by decide +kernel⟩
theorem eG:aP ["table","place","column","turning","part","lines","name"] ["table","place","column"] (ah di):=⟨rfl,rfl,rfl,by decide +kernel,rfl,by decide +kernel,by decide +kernel⟩
theorem jV:aP ["table","column","way","place","name"] ["table","column"] (ah gD):=⟨rfl,rfl,rfl,by decide +kernel,rfl,by decide +kernel,by decide +kernel⟩
theorem fG:aP ["table","amounts","place","name"] ["table"] (ah cP):=⟨rfl,rfl,rfl,by decide +kernel,rfl,by decide +kernel,by decide +kernel⟩
theorem gh:aP ["table","prices","column","name"] ["table"] (ah dg):=⟨rfl,rfl,rfl,by decide +kernel,rfl,by decide +kernel,by decide +kernel⟩
theorem fC:aP ["table","amounts","prices","shared"] ["table"] (ah cf):=⟨rfl,rfl,rfl,by decide +kernel,rfl,by decide +kernel,by decide +kernel⟩
theorem iS:aP ["rows","bounds","gains","table","step"] ["rows","bounds","gains"] (ah ft):=⟨rfl,rfl,rfl,by decide +kernel,rfl,by decide +kernel,by decide +kernel⟩
theorem qo:aP ["rows","place"] ["rows","place"] (ah cK):=⟨rfl,rfl,rfl,by decide +kernel,rfl,by decide +kernel,by decide +kernel⟩
theorem lE:aP ["rows","bounds","amounts","part"] ["rows","bounds","amounts","part"] (ah bR):=⟨rfl,rfl,rfl,by decide +kernel,rfl,by decide +kernel,by decide +kernel⟩
theorem nQ:aP ["rows","gains","prices","part"] ["rows","gains","prices","part"] (ah cm):=⟨rfl,rfl,rfl,by decide +kernel,rfl,by decide +kernel,by decide +kernel⟩
theorem rF:aP ["rows","bounds","gains","part","amounts","prices"] ["rows","bounds","gains","part","amounts","prices"] (ah d6):=⟨rfl,rfl,rfl,by decide +kernel,rfl,by decide +kernel,by decide +kernel⟩
theorem vL:aP ["rows","gains","way"] ["rows","gains","way"] (ah gH):=⟨rfl,rfl,rfl,by decide +kernel,rfl,by decide +kernel,by decide +kernel⟩
theorem oJ:aP ["rows","bounds","gains","thing"] ["rows","bounds","gains","thing"] (ah cL):=⟨rfl,rfl,rfl,by decide +kernel,rfl,by decide +kernel,by decide +kernel⟩
theorem jy:aP ["_law_script","_law_k","_law_cell","_law_great"] ["_law_script","_law_k"] (ah d5):=⟨rfl,rfl,rfl,by decide +kernel,rfl,by decide +kernel,by decide +kernel⟩
theorem kL:aP ["_law_pot_here","_law_many","_law_digit"] ["_law_pot_here","_law_many"] (ah dj):=⟨rfl,rfl,rfl,by decide +kernel,rfl,by decide +kernel,by decide +kernel⟩
theorem cO:aP ["_law_pot_here","_law_many","_law_low","_law_rows","_law_row","_law_far","_law_bounds"] ["_law_pot_here"] (ah ck):=⟨rfl,rfl,rfl,by decide +kernel,rfl,by decide +kernel,by decide +kernel⟩
theorem rj:aP ["_law_one","_law_other"] ["_law_one","_law_other"] (ah dk):=⟨rfl,rfl,rfl,by decide +kernel,rfl,by decide +kernel,by decide +kernel⟩
theorem ki:aP ["_law_pot_here","_law_many","_law_left"] ["_law_pot_here","_law_many"] (ah cD):=⟨rfl,rfl,rfl,by decide +kernel,rfl,by decide +kernel,by decide +kernel⟩
theorem aL:aP ["_law_pot_here","_law_case_here","_law_rows","_law_bounds","_law_gains_here","_law_order_here","_law_found","_law_exchanged_rows","_law_by","_law_at","_law_one","_law_other","_law_spot","_law_line","_law_more","_law_longer"] ["_law_pot_here","_law_case_here"] (ah aQ):=⟨rfl,rfl,rfl,by decide +kernel,rfl,by decide +kernel,by decide +kernel⟩
theorem oI:aP ["_law_case_here","_law_told"] ["_law_case_here","_law_told"] (ah cR):=⟨rfl,rfl,rfl,by decide +kernel,rfl,by decide +kernel,by decide +kernel⟩
theorem oA:aP ["_law_one","_law_other","_law_by"] ["_law_one","_law_other","_law_by"] (ah cS):=⟨rfl,rfl,rfl,by decide +kernel,rfl,by decide +kernel,by decide +kernel⟩
theorem sI:aP ["_law_one","_law_other"] ["_law_one","_law_other"] (ah en):=⟨rfl,rfl,rfl,by decide +kernel,rfl,by decide +kernel,by decide +kernel⟩
theorem eY:aP ["_law_script","_law_k","_law_pot_here","_law_cases","_law_due","_law_rows","_law_bounds","_law_gains_here","_law_by","_law_told","_law_one","_law_other","_law_both"] ["_law_script"] (ah ke):=⟨rfl,rfl,rfl,by decide +kernel,rfl,by decide +kernel,by decide +kernel⟩
set_option genSizeOf false in
set_option genInjectivity false in
structure Adr where
 f0:Addr
 g0:qaX
 f1:Addr
 g1:qaX
 f2:Addr
 g2:qaX
 f3:Addr
 g3:qaX
 f4:Addr
 g4:qaX
 f5:Addr
 g5:qaX
 f6:Addr
 g6:qaX
 f7:Addr
 g7:qaX
 f8:Addr
 g8:qaX
 f9:Addr
 g9:qaX
 f10:Addr
 g10:qaX
 f11:Addr
 g11:qaX
 f12:Addr
 g12:qaX
 f13:Addr
 g13:qaX
 f14:Addr
 g14:qaX
 f15:Addr
 g15:qaX
 f16:Addr
 g16:qaX
 f17:Addr
 g17:qaX
 f18:Addr
 g18:qaX
 f19:Addr
 g19:qaX
 f20:Addr
 g20:qaX
 f21:Addr
 g21:qaX
 f22:Addr
 g22:qaX
 f23:Addr
 g23:qaX
 f24:Addr
 g24:qaX
 f25:Addr
 g25:qaX
 f26:Addr
 g26:qaX
 f27:Addr
 g27:qaX
 f28:Addr
 g28:qaX
 f29:Addr
 g29:qaX
 f30:Addr
 g30:qaX
 f31:Addr
 g31:qaX
 f32:Addr
 g32:qaX
 f33:Addr
 g33:qaX
 f34:Addr
 g34:qaX
 ca_Table:Addr
structure Txt (K:qad) (mg:Str->Option Value) (t:Adr):Prop where
 cm_Table:mg "Table" = some (.ref t.ca_Table)
 F0:Fun K "is_whole" "is_whole" d7 t.f0 t.g0
 m0:mg "is_whole" = some (.ref t.f0)
 b0:bA K t.g0 ["thing"] []
 F1:Fun K "are_amounts" "are_amounts" ci t.f1 t.g1
 m1:mg "are_amounts" = some (.ref t.f1)
 b1:bA K t.g1 ["thing","many"] []
 F2:Fun K "greatest_part" "greatest_part" cc t.f2 t.g2
 m2:mg "greatest_part" = some (.ref t.f2)
 b2:bA K t.g2 ["numbers"] []
 F3:Fun K "lowered" "lowered" eA t.f3 t.g3
 m3:mg "lowered" = some (.ref t.f3)
 b3:bA K t.g3 ["numbers"] []
 F4:Fun K "products_together" "products_together" br t.f4 t.g4
 m4:mg "products_together" = some (.ref t.f4)
 b4:bA K t.g4 ["numbers","others"] []
 F5:Fun K "__init__" "Table.__init__" cz t.f5 t.g5
 b5:bA K t.g5 ["self","rows","bounds","gains"] []
 mk_Table:Mk K t.ca_Table t.f5
 cl_Table:Cls K t.ca_Table
 na_Table:∀ p∈dn,dM K t.ca_Table p.1
 F6:Fun K "least_ratio" "least_ratio" cE t.f6 t.g6
 m6:mg "least_ratio" = some (.ref t.f6)
 b6:bA K t.g6 ["places","tops","bottoms"] []
 F7:Fun K "weighed" "weighed" fv t.f7 t.g7
 m7:mg "weighed" = some (.ref t.f7)
 b7:bA K t.g7 ["table"] []
 F8:Fun K "numbers_by" "numbers_by" bX t.f8 t.g8
 m8:mg "numbers_by" = some (.ref t.f8)
 b8:bA K t.g8 ["table","name"] []
 F9:Fun K "leaving" "leaving" dq t.f9 t.g9
 m9:mg "leaving" = some (.ref t.f9)
 b9:bA K t.g9 ["table","column"] []
 F10:Fun K "gains_more" "gains_more" cN t.f10 t.g10
 m10:mg "gains_more" = some (.ref t.f10)
 b10:bA K t.g10 ["table","one","other"] []
 F11:Fun K "best_step" "best_step" de t.f11 t.g11
 m11:mg "best_step" = some (.ref t.f11)
 b11:bA K t.g11 ["table"] []
 F12:Fun K "swept" "swept" ie t.f12 t.g12
 m12:mg "swept" = some (.ref t.f12)
 b12:bA K t.g12 ["line","turning","column","part"] []
 F13:Fun K "exchange" "exchange" di t.f13 t.g13
 m13:mg "exchange" = some (.ref t.f13)
 b13:bA K t.g13 ["table","place","column"] []
 F14:Fun K "way_of" "way_of" gD t.f14 t.g14
 m14:mg "way_of" = some (.ref t.f14)
 b14:bA K t.g14 ["table","column"] []
 F15:Fun K "amounts_of" "amounts_of" cP t.f15 t.g15
 m15:mg "amounts_of" = some (.ref t.f15)
 b15:bA K t.g15 ["table"] []
 F16:Fun K "prices_of" "prices_of" dg t.f16 t.g16
 m16:mg "prices_of" = some (.ref t.f16)
 b16:bA K t.g16 ["table"] []
 F17:Fun K "found_most" "found_most" cf t.f17 t.g17
 m17:mg "found_most" = some (.ref t.f17)
 b17:bA K t.g17 ["table"] []
 F18:Fun K "most_of" "most_of" ft t.f18 t.g18
 m18:mg "most_of" = some (.ref t.f18)
 b18:bA K t.g18 ["rows","bounds","gains"] []
 F19:Fun K "column_of" "column_of" cK t.f19 t.g19
 m19:mg "column_of" = some (.ref t.f19)
 b19:bA K t.g19 ["rows","place"] []
 F20:Fun K "within_bounds" "within_bounds" bR t.f20 t.g20
 m20:mg "within_bounds" = some (.ref t.f20)
 b20:bA K t.g20 ["rows","bounds","amounts","part"] []
 F21:Fun K "cover_gains" "cover_gains" cm t.f21 t.g21
 m21:mg "cover_gains" = some (.ref t.f21)
 b21:bA K t.g21 ["rows","gains","prices","part"] []
 F22:Fun K "are_most" "are_most" d6 t.f22 t.g22
 m22:mg "are_most" = some (.ref t.f22)
 b22:bA K t.g22 ["rows","bounds","gains","part","amounts","prices"] []
 F23:Fun K "is_way" "is_way" gH t.f23 t.g23
 m23:mg "is_way" = some (.ref t.f23)
 b23:bA K t.g23 ["rows","gains","way"] []
 F24:Fun K "shows_most" "shows_most" cL t.f24 t.g24
 m24:mg "shows_most" = some (.ref t.f24)
 b24:bA K t.g24 ["rows","bounds","gains","thing"] []
 F25:Fun K "_law_pot" "_law_pot" d5 t.f25 t.g25
 m25:mg "_law_pot" = some (.ref t.f25)
 b25:bA K t.g25 ["_law_script","_law_k"] []
 F26:Fun K "_law_pick" "_law_pick" dj t.f26 t.g26
 m26:mg "_law_pick" = some (.ref t.f26)
 b26:bA K t.g26 ["_law_pot_here","_law_many"] []
 F27:Fun K "_law_case" "_law_case" ck t.f27 t.g27
 m27:mg "_law_case" = some (.ref t.f27)
 b27:bA K t.g27 ["_law_pot_here"] []
 F28:Fun K "_law_dot" "_law_dot" dk t.f28 t.g28
 m28:mg "_law_dot" = some (.ref t.f28)
 b28:bA K t.g28 ["_law_one","_law_other"] []
 F29:Fun K "_law_order" "_law_order" cD t.f29 t.g29
 m29:mg "_law_order" = some (.ref t.f29)
 b29:bA K t.g29 ["_law_pot_here","_law_many"] []
 F30:Fun K "_law_others" "_law_others" aQ t.f30 t.g30
 m30:mg "_law_others" = some (.ref t.f30)
 b30:bA K t.g30 ["_law_pot_here","_law_case_here"] []
 F31:Fun K "_law_gains" "_law_gains" cR t.f31 t.g31
 m31:mg "_law_gains" = some (.ref t.f31)
 b31:bA K t.g31 ["_law_case_here","_law_told"] []
 F32:Fun K "_law_alike" "_law_alike" cS t.f32 t.g32
 m32:mg "_law_alike" = some (.ref t.f32)
 b32:bA K t.g32 ["_law_one","_law_other","_law_by"] []
 F33:Fun K "_law_sum" "_law_sum" en t.f33 t.g33
 m33:mg "_law_sum" = some (.ref t.f33)
 b33:bA K t.g33 ["_law_one","_law_other"] []
 F34:Fun K "law" "law" ke t.f34 t.g34
 m34:mg "law" = some (.ref t.f34)
 b34:bA K t.g34 ["_law_script"] []
 z_abs:mg "abs" = none
 z_all:mg "all" = none
 z_bool:mg "bool" = none
 z_enumerate:mg "enumerate" = none
 z_int:mg "int" = none
 z_isinstance:mg "isinstance" = none
 z_len:mg "len" = none
 z_list:mg "list" = none
 z_min:mg "min" = none
 z_range:mg "range" = none
 z_str:mg "str" = none
 z_sum:mg "sum" = none
 z_tuple:mg "tuple" = none
 z_zip:mg "zip" = none
abbrev Bdy (P:qa5) (w:World) (K:qad) (mg:Str->Option Value) (base:Heap) (k:Nat) (N:List Str) (x:Str) (sd:Stmt) (f:Addr) (b:Sf):Prop:=∀ (cdv:Value) (A:qbd) (outer:List Env) (s:qam) (H:Hp) (E:XK),dN k (A.deeper (qhK x (ah sd) s.heap.objs.size f cdv))->ISs K (oj CX0 P w K mg base N x (ah sd) f cdv A outer s H E).nox (aH sd) b
section
variable {P:qa5}{w:World}{K:qad}{mg:Str->Option Value}{base:Heap}{t:Adr}
theorem oN (T:Txt K mg t):Bdy P w K mg base 0 ["thing"] "is_whole" d7 t.f0 kE:=
 λ_ _ _ _ _ _ hr=>(aq (aN (lQ (bP (mS rfl) rfl T.z_isinstance qbN (ab (iv 0) (ab (sH rfl T.z_int qdh (by decide) (by decide)) ae rfl) rfl) (by decide) (by decide) rfl rfl) (lv (A4 (bP (mS rfl) rfl T.z_isinstance qbN (ab (iv 0) (ab (sH rfl T.z_bool qhO (by decide) (by decide)) ae rfl) rfl) (by decide) (by decide) rfl rfl))))))
theorem mj (T:Txt K mg t):bW P w K mg base CX0 1 t.f0 t.g0 ["thing"] (spI K gF):=
 gf (N:=["thing"]) (b:=kE) T.F0 rQ (oN T)
theorem lG (T:Txt K mg t):Bdy P w K mg base 1 ["thing","many"] "are_amounts" ci t.f1 iB:=
 λ_ _ _ _ _ _ hr=>(aj (cu (jb (jc (gM (eN (bP (mS rfl) rfl T.z_isinstance qbN (ab (iv 0) (ab (sH rfl T.z_tuple qaF (by decide) (by decide)) ae rfl) rfl) (by decide) (by decide) rfl rfl) rfl rfl)) (ik (bC (u7 hr rfl) (bP (ca rfl) rfl T.z_len qaV (ab (iv 0) ae rfl) (by decide) (by decide) rfl rfl) (iv 1) (aZ _))))) (aq (aN ji)) bo) (aq (aN (bP (tW rfl rfl) rfl T.z_all qdi (ab (aI (cr (bV (ah ci).names ["thing","many"] ["number"] 1 [] rfl rfl rfl (by decide +kernel)) rfl (by decide) (bT (iv 0) rfl) (λ_ _ _ _ _=>(aX (au (i:=0) (show qaR (α:=Str) ["number"] by decide +kernel) rfl (.inl rfl)))) (λ_ _ _ _ _=>aY) (λ_ _ _ _ _=>(lQ (ax (mj T) (by decide) hr rfl T.m0 T.F0.kp T.b0 (ab (iv 0) ae rfl) (by decide) rfl rfl) (lv (fo qW (iv 0) ak (aZ _))))) (λ_=>rfl))) ae rfl) (by decide) (by decide) rfl rfl))))
theorem gN (T:Txt K mg t):bW P w K mg base CX0 2 t.f1 t.g1 ["thing","many"] (spI K cj):=
 gf (N:=["thing","many"]) (b:=iB) T.F1 n0 (lG T)
theorem ku (T:Txt K mg t):Bdy P w K mg base 0 ["numbers","found","number","rest","over"] "greatest_part" cc t.f2 dU:=
 λ_ _ _ _ _ _ hr=>(aj (aF (i:=1) bU.nd rfl (.inl rfl) ak rfl (.inl rfl)) (aj (gB (bT (iv 0) rfl) (aX (au (i:=2) bU.nd rfl (.inl rfl))) (aj (aF (i:=3) bU.nd rfl (.inl rfl) (bP t9 rfl T.z_abs qdj (ab (iv 2) ae rfl) (by decide) (by decide) rfl rfl) rfl (.inl rfl)) (aq (rA (2^8000) (bC (u7 hr rfl) (iv 3) ak (aZ _)) (aj (aF (i:=4) bU.nd rfl (.inl rfl) (aA jQ (iv 1) (iv 3)) rfl (.inl rfl)) (aj (aF (i:=1) bU.nd rfl (.inl rfl) (iv 3) rfl (.inl rfl)) (aq (aF (i:=3) bU.nd rfl (.inl rfl) (iv 4) rfl (.inl rfl))))) qbq))) qbq rfl (λ_=>rfl)) (aq (aN (iv 1)))))
theorem iP (T:Txt K mg t):bW P w K mg base CX0 1 t.f2 t.g2 ["numbers"] (spI K cU):=
 gf (N:=["numbers","found","number","rest","over"]) (b:=dU) T.F2 bU (ku T)
theorem pU (T:Txt K mg t):Bdy P w K mg base 1 ["numbers","shared"] "lowered" eA t.f3 jX:=
 λ_ _ _ _ _ _ hr=>(aj (aF (i:=1) nG.nd rfl (.inr rfl) (ax (iP T) (by decide) hr rfl T.m2 T.F2.kp T.b2 (ab (iv 0) ae rfl) (by decide) rfl rfl) rfl (.inl rfl)) (aj (cu (bC (lR hr rfl) (iv 1) ak (aZ _)) (aq (aN (dP (cQ rfl) rfl T.z_tuple qaF (ab (iv 0) ae rfl) (by decide) (by decide) rfl rfl))) bo) (aq (aN (dP (cQ rfl) rfl T.z_tuple qaF (ab (aI (cr (bV (ah eA).names ["numbers","shared"] ["number","shared"] 1 [1] rfl rfl rfl (by decide +kernel)) rfl (by decide) (bT (iv 0) rfl) (λ_ _ _ _ _=>(aX (au (i:=0) (show qaR (α:=Str) ["number","shared"] by decide +kernel) rfl (.inl rfl)))) (λ_ _ _ _ _=>aY) (λ_ _ _ _ _=>(aA mY (iv 0) (iv 1))) (λ_=>rfl))) ae rfl) (by decide) (by decide) rfl rfl)))))
theorem td (T:Txt K mg t):bW P w K mg base CX0 2 t.f3 t.g3 ["numbers"] (spI K iQ):=
 gf (N:=["numbers","shared"]) (b:=jX) T.F3 nG (pU T)
theorem iT (T:Txt K mg t):Bdy P w K mg base 0 ["numbers","others"] "products_together" br t.f4 dG:=
 λ_ _ _ _ _ _ hr=>(aq (aN (bP (xq rfl rfl) rfl T.z_sum qeu (ab (aI (cr (bV (ah br).names ["numbers","others"] ["number","other"] 2 [] rfl rfl rfl (by decide +kernel)) rfl (by decide) (lO rfl T.z_zip (ab (iv 0) (ab (iv 1) ae rfl) rfl) rfl rfl rfl) (λ_ _ _ _ _=>(eh (aO (au (i:=0) (show qaR (α:=Str) ["number","other"] by decide +kernel) rfl (.inl rfl)) (aO (au (i:=1) (show qaR (α:=Str) ["number","other"] by decide +kernel) rfl (.inl rfl)) cM)) rfl rfl rfl rfl rfl)) (λ_ _ _ _ _=>aY) (λ_ _ _ _ _=>(aA (bB rfl) (iv 0) (iv 1))) (λ_=>rfl))) ae rfl) (by decide) (by decide) rfl rfl)))
theorem bY (T:Txt K mg t):bW P w K mg base CX0 1 t.f4 t.g4 ["numbers","others"] (spI K bh):=
 gf (N:=["numbers","others"]) (b:=dG) T.F4 jL (iT T)
theorem oU (T:Txt K mg t):bW P w K mg base CX0 1 t.f5 t.g5 ["self","rows","bounds","gains"] (zy K 4 4 dn):=
 BO (N:=["self","rows","bounds","gains"]) (ps:=["self","rows","bounds","gains"]) (k:=0) (g:=dn) T.F5 oq (by decide) (λ_ _ _ _ _ _ hr=>(jv rfl (by first|exact Or.inl rfl|exact Or.inr (Or.inl rfl)|exact Or.inr (Or.inr rfl)) (bP (ca rfl) rfl T.z_len qaV (ab (iv 3) ae rfl) (by decide) (by decide) rfl rfl) (jv rfl (by first|exact Or.inl rfl|exact Or.inr (Or.inl rfl)|exact Or.inr (Or.inr rfl)) (aI (cr (bV (ah cz).names ["self","rows","bounds","gains"] ["row","bound"] 2 [] rfl rfl rfl (by decide +kernel)) rfl (by decide) (lO rfl T.z_zip (ab (iv 1) (ab (iv 2) ae rfl) rfl) rfl rfl rfl) (λ_ _ _ _ _=>(eh (aO (au (i:=0) (show qaR (α:=Str) ["row","bound"] by decide +kernel) rfl (.inl rfl)) (aO (au (i:=1) (show qaR (α:=Str) ["row","bound"] by decide +kernel) rfl (.inl rfl)) cM)) rfl rfl rfl rfl rfl)) (λ_ _ _ _ _=>aY) (λ_ _ _ _ _=>(aA (bn rfl) (aI (Cy (vn rfl) rfl T.z_list qct (ab (iv 0) ae rfl) (by decide) (by decide) rfl rfl)) (aI (dJ (ab (iv 1) ae rfl))))) (λ_=>rfl))) (jv rfl (by first|exact Or.inl rfl|exact Or.inr (Or.inl rfl)|exact Or.inr (Or.inr rfl)) (aA (bn rfl) (aI (cr (bV (ah cz).names ["self","rows","bounds","gains"] ["gain"] 1 [] rfl rfl rfl (by decide +kernel)) rfl (by decide) (bT (iv 3) rfl) (λ_ _ _ _ _=>(aX (au (i:=0) (show qaR (α:=Str) ["gain"] by decide +kernel) rfl (.inl rfl)))) (λ_ _ _ _ _=>aY) (λ_ _ _ _ _=>(nj (iv 0))) (λ_=>rfl))) (aI (dJ (ab ak ae rfl)))) (jv rfl (by first|exact Or.inl rfl|exact Or.inr (Or.inl rfl)|exact Or.inr (Or.inr rfl)) ak (jv rfl (by first|exact Or.inl rfl|exact Or.inr (Or.inl rfl)|exact Or.inr (Or.inr rfl)) (gA (wM rfl T.z_list rfl T.z_range (ab (bP (ca rfl) rfl T.z_len qaV (ab (iv 3) ae rfl) (by decide) (by decide) rfl rfl) ae rfl) rfl rfl)) (yO rfl (by first|exact Or.inl rfl|exact Or.inr (Or.inl rfl)|exact Or.inr (Or.inr rfl)) (gA (yh rfl T.z_list rfl T.z_range (ab (bP (ca rfl) rfl T.z_len qaV (ab (iv 3) ae rfl) (by decide) (by decide) rfl rfl) (ab (aA (bn rfl) (bP (ca rfl) rfl T.z_len qaV (ab (iv 3) ae rfl) (by decide) (by decide) rfl rfl) (bP (ca rfl) rfl T.z_len qaV (ab (iv 1) ae rfl) (by decide) (by decide) rfl rfl)) ae rfl) rfl) rfl rfl rfl)) rfl rfl) (by intro z;cases z) rfl rfl) (by intro z;cases z) rfl rfl) (by intro z;cases z) rfl rfl) (by intro z;cases z) rfl rfl) (by intro z;cases z) rfl rfl))
theorem lA (T:Txt K mg t):Bdy P w K mg base 0 ["places","tops","bottoms","least","place","mine","best"] "least_ratio" cE t.f6 fB:=
 λ_ _ _ _ _ _ hr=>(aj (aF (i:=3) cG.nd rfl (.inl rfl) (gA (dJ ae)) rfl (.inl rfl)) (aj (gB (bT (iv 0) rfl) (aX (au (i:=4) cG.nd rfl (.inl rfl))) (aj (cu (eN (iv 3) rfl rfl) (aj (aF (i:=5) cG.nd rfl (.inl rfl) (aA (bB rfl) (av (iv 1) (iv 4) rfl rfl) (av (iv 2) (av (iv 3) ak rfl rfl) rfl rfl)) rfl (.inl rfl)) (aj (aF (i:=6) cG.nd rfl (.inl rfl) (aA (bB rfl) (av (iv 1) (av (iv 3) ak rfl rfl) rfl rfl) (av (iv 2) (iv 4) rfl rfl)) rfl (.inl rfl)) (aj (cu (bC oZ (iv 5) (iv 6) (aZ _)) (aq uQ) bo) (aq (cu (bC ng (iv 5) (iv 6) (aZ _)) (aq (aF (i:=3) cG.nd rfl (.inl rfl) (gA (dJ ae)) rfl (.inl rfl))) bo))))) bo) (aq (fF (dA (iv 3) (ab (iv 4) ae rfl) rfl rfl (by decide) rfl rfl) rfl))) qbq rfl (λ_=>rfl)) (aq (aN (iv 3)))))
theorem nK (T:Txt K mg t):bW P w K mg base CX0 1 t.f6 t.g6 ["places","tops","bottoms"] (spI K ir):=
 oM (N:=["places","tops","bottoms","least","place","mine","best"]) (b:=fB) T.F6 cG (lA T)
theorem pE (T:Txt K mg t):Bdy P w K mg base 0 ["table"] "weighed" fv t.f7 jY:=
 λ_ _ _ _ _ _ hr=>(aq (aN (aA (bn rfl) (aI (dJ (ab dL ae rfl))) (aI (yh rfl T.z_list rfl T.z_range (ab (aJ (iv 0) rfl rfl) (ab (aA (bn rfl) (aJ (iv 0) rfl rfl) (bP (ca rfl) rfl T.z_len qaV (ab (aJ (iv 0) rfl rfl) ae rfl) (by decide) (by decide) rfl rfl)) ae rfl) rfl) rfl rfl rfl)))))
theorem nF (T:Txt K mg t):bW P w K mg base CX0 1 t.f7 t.g7 ["table"] (spI K gv):=
 gf (N:=["table"]) (b:=jY) T.F7 ua (pE T)
theorem mv (T:Txt K mg t):Bdy P w K mg base 0 ["table","name","column"] "numbers_by" bX t.f8 eQ:=
 λ_ _ _ _ _ _ hr=>(aj (cu (bC iu (iv 1) dL (aZ _)) (aq (aN (aI (cr (bV (ah bX).names ["table","name","column"] ["line"] 1 [] rfl rfl rfl (by decide +kernel)) rfl (by decide) (bT (aJ (iv 0) rfl rfl) rfl) (λ_ _ _ _ _=>(aX (au (i:=0) (show qaR (α:=Str) ["line"] by decide +kernel) rfl (.inl rfl)))) (λ_ _ _ _ _=>aY) (λ_ _ _ _ _=>(av (iv 0) (nj ak) rfl rfl)) (λ_=>rfl))))) bo) (aj (cu (bC (CS rfl) (iv 1) (aJ (iv 0) rfl rfl) rfl) (aj (aF (i:=2) j8.nd rfl (.inr rfl) (Bh (aJ (iv 0) rfl rfl) (ab (iv 1) ae rfl) rfl rfl rfl rfl) rfl (.inl rfl)) (aq (aN (aI (cr (bV (ah bX).names ["table","name","column"] ["line","column"] 1 [2] rfl rfl rfl (by decide +kernel)) rfl (by decide) (bT (aJ (iv 0) rfl rfl) rfl) (λ_ _ _ _ _=>(aX (au (i:=0) (show qaR (α:=Str) ["line","column"] by decide +kernel) rfl (.inl rfl)))) (λ_ _ _ _ _=>aY) (λ_ _ _ _ _=>(av (iv 0) (iv 1) rfl rfl)) (λ_=>rfl)))))) bo) (aq (aN (aI (cr (bV (ah bX).names ["table","name","column"] ["kept","name","table"] 1 [1,0] rfl rfl rfl (by decide +kernel)) rfl (by decide) (bT (aJ (iv 0) rfl rfl) rfl) (λ_ _ _ _ _=>(aX (au (i:=0) (show qaR (α:=Str) ["kept","name","table"] by decide +kernel) rfl (.inl rfl)))) (λ_ _ _ _ _=>aY) (λ_ _ _ _ _=>(vG (bC (lR hr rfl) (iv 0) (iv 1) (aZ _)) (aJ (iv 2) rfl rfl) ak)) (λ_=>rfl)))))))
theorem km (T:Txt K mg t):bW P w K mg base CX0 1 t.f8 t.g8 ["table","name"] (spI K eU):=
 gf (N:=["table","name","column"]) (b:=eQ) T.F8 j8 (mv T)
theorem pL (T:Txt K mg t):Bdy P w K mg base 1 ["table","column","entries","places","name"] "leaving" dq t.f9 jW:=
 λ_ _ _ _ _ _ hr=>(aj (qg5 (uJ (i0:=2) gK.nd rfl (.inl rfl) (bV (ah dq).names ["table","column","entries","places","name"] ["line","column"] 1 [1] rfl rfl rfl (by decide +kernel)) rfl (by decide) (bT (aJ (iv 0) rfl rfl) rfl) (λ_ _ _ _ _=>(aX (au (i:=0) (show qaR (α:=Str) ["line","column"] by decide +kernel) rfl (.inl rfl)))) (λ_ _ _ _ _=>aY) (λ_ _ _ _ _=>(av (iv 0) (iv 1) rfl rfl)) rfl (.inl rfl) (λ_=>rfl))) (aj (qg5 (uJ (i0:=3) gK.nd rfl (.inl rfl) (bV (ah dq).names ["table","column","entries","places","name"] ["place","entry"] 2 [] rfl rfl rfl (by decide +kernel)) rfl (by decide) (kM rfl T.z_enumerate (ab (iv 2) ae rfl) rfl rfl) (λ_ _ _ _ _=>(eh (aO (au (i:=0) (show qaR (α:=Str) ["place","entry"] by decide +kernel) rfl (.inl rfl)) (aO (au (i:=1) (show qaR (α:=Str) ["place","entry"] by decide +kernel) rfl (.inl rfl)) cM)) rfl rfl rfl rfl rfl)) (λ_ _ _ _ _=>(zh (bC oZ (iv 1) ak (aZ _)))) (λ_ _ _ _ _=>(iv 0)) rfl (.inl rfl) (λ_=>rfl))) (aj (gB (bT (ax (nF T) (by decide) hr rfl T.m7 T.F7.kp T.b7 (ab (iv 0) ae rfl) (by decide) rfl rfl) rfl) (aX (au (i:=4) gK.nd rfl (.inl rfl))) (aj (cu (bC ng (bP (ca rfl) rfl T.z_len qaV (ab (iv 3) ae rfl) (by decide) (by decide) rfl rfl) ak (aZ _)) (aq xx) bo) (aq (aF (i:=3) gK.nd rfl (.inl rfl) (ax (nK T) (by decide) hr rfl T.m6 T.F6.kp T.b6 (ab (iv 3) (ab (ax (km T) (by decide) hr rfl T.m8 T.F8.kp T.b8 (ab (iv 0) (ab (iv 4) ae rfl) rfl) (by decide) rfl rfl) (ab (iv 2) ae rfl) rfl) rfl) (by decide) rfl rfl) rfl (.inl rfl)))) qbq rfl (λ_=>rfl)) (aq (aN (vG (eN (iv 3) rfl rfl) (av (iv 3) ak rfl rfl) dL))))))
theorem tO (T:Txt K mg t):bW P w K mg base CX0 2 t.f9 t.g9 ["table","column"] (spI K jU):=
 gf (N:=["table","column","entries","places","name"]) (b:=jW) T.F9 gK (pL T)
theorem mx (T:Txt K mg t):Bdy P w K mg base 1 ["table","one","other","mine","best","name","numbers","more"] "gains_more" cN t.f10 fj:=
 λ_ _ _ _ _ _ hr=>(aj (aF (i:=3) cW.nd rfl (.inl rfl) (aA (bB rfl) (av (aJ (iv 0) rfl rfl) (av (iv 1) ak rfl rfl) rfl rfl) (av (av (aJ (iv 0) rfl rfl) (av (iv 2) ak rfl rfl) rfl rfl) (av (iv 2) ak rfl rfl) rfl rfl)) rfl (.inl rfl)) (aj (aF (i:=4) cW.nd rfl (.inl rfl) (aA (bB rfl) (av (aJ (iv 0) rfl rfl) (av (iv 2) ak rfl rfl) rfl rfl) (av (av (aJ (iv 0) rfl rfl) (av (iv 1) ak rfl rfl) rfl rfl) (av (iv 1) ak rfl rfl) rfl rfl)) rfl (.inl rfl)) (aj (gB (bT (ax (nF T) (by decide) hr rfl T.m7 T.F7.kp T.b7 (ab (iv 0) ae rfl) (by decide) rfl rfl) rfl) (aX (au (i:=5) cW.nd rfl (.inl rfl))) (aj (aF (i:=6) cW.nd rfl (.inl rfl) (ax (km T) (by decide) hr rfl T.m8 T.F8.kp T.b8 (ab (iv 0) (ab (iv 5) ae rfl) rfl) (by decide) rfl rfl) rfl (.inl rfl)) (aj (aF (i:=7) cW.nd rfl (.inl rfl) (aA nk (aA (bB rfl) (iv 4) (av (iv 6) (av (iv 2) ak rfl rfl) rfl rfl)) (aA (bB rfl) (iv 3) (av (iv 6) (av (iv 1) ak rfl rfl) rfl rfl))) rfl (.inl rfl)) (aq (cu (bC (u7 hr rfl) (iv 7) ak (aZ _)) (aq (aN (fo oZ (iv 7) ak (aZ _)))) bo)))) qbq rfl (λ_=>rfl)) (aq (aN ji)))))
theorem oH (T:Txt K mg t):bW P w K mg base CX0 2 t.f10 t.g10 ["table","one","other"] (spI K dw):=
 gf (N:=["table","one","other","mine","best","name","numbers","more"]) (b:=fj) T.F10 cW (mx T)
theorem mZ (T:Txt K mg t):Bdy P w K mg base 2 ["table","best","column","step"] "best_step" de t.f11 fP:=
 λ_ _ _ _ _ _ hr=>(aj (aF (i:=1) eW.nd rfl (.inl rfl) dL rfl (.inl rfl)) (aj (gB (iX rfl T.z_range (ab (bP (ca rfl) rfl T.z_len qaV (ab (aJ (iv 0) rfl rfl) ae rfl) (by decide) (by decide) rfl rfl) ae rfl) rfl) (aX (au (i:=2) eW.nd rfl (.inl rfl))) (aj (cu (bC qW (av (aJ (iv 0) rfl rfl) (iv 2) rfl rfl) ak (aZ _)) (aq uQ) bo) (aj (aF (i:=3) eW.nd rfl (.inl rfl) (bS (ab (iv 2) (ab (ax (tO T) (by decide) hr rfl T.m9 T.F9.kp T.b9 (ab (iv 0) (ab (iv 2) ae rfl) rfl) (by decide) rfl rfl) ae rfl) rfl)) rfl (.inl rfl)) (aj (cu (bC iu (av (iv 3) ak rfl rfl) dL (aZ _)) (aq (aN (iv 3))) bo) (aq (cu (jb (jc (bC iu (iv 1) dL (aZ _)) (ik (eN (ax (oH T) (by decide) hr rfl T.m10 T.F10.kp T.b10 (ab (iv 0) (ab (iv 3) (ab (iv 1) ae rfl) rfl) rfl) (by decide) rfl rfl) rfl rfl)))) (aq (aF (i:=1) eW.nd rfl (.inl rfl) (iv 3) rfl (.inl rfl))) bo))))) qbq rfl (λ_=>rfl)) (aq (aN (iv 1)))))
theorem kX (T:Txt K mg t):bW P w K mg base CX0 3 t.f11 t.g11 ["table"] (spI K cJ):=
 gf (N:=["table","best","column","step"]) (b:=fP) T.F11 eW (mZ T)
theorem sZ (T:Txt K mg t):Bdy P w K mg base 0 ["line","turning","column","part","pivot","entry","told"] "swept" ie t.f12 mz:=
 λ_ _ _ _ _ _ hr=>(aj (aF (i:=4) ld.nd rfl (.inr rfl) (av (iv 1) (iv 2) rfl rfl) rfl (.inl rfl)) (aj (aF (i:=5) ld.nd rfl (.inr rfl) (av (iv 0) (iv 2) rfl rfl) rfl (.inl rfl)) (aj (And.right (uJ (i0:=6) ld.nd rfl (.inl rfl) (bV (ah ie).names ["line","turning","column","part","pivot","entry","told"] ["number","other","pivot","entry","part"] 2 [4,5,3] rfl rfl rfl (by decide +kernel)) rfl (by decide) (lO rfl T.z_zip (ab (iv 0) (ab (iv 1) ae rfl) rfl) rfl rfl rfl) (λ_ _ _ _ _=>(eh (aO (au (i:=0) (show qaR (α:=Str) ["number","other","pivot","entry","part"] by decide +kernel) rfl (.inl rfl)) (aO (au (i:=1) (show qaR (α:=Str) ["number","other","pivot","entry","part"] by decide +kernel) rfl (.inl rfl)) cM)) rfl rfl rfl rfl rfl)) (λ_ _ _ _ _=>aY) (λ_ _ _ _ _=>(aA mY (aA nk (aA (bB rfl) (iv 2) (iv 0)) (aA (bB rfl) (iv 3) (iv 1))) (iv 4))) rfl (.inl rfl) (λ_=>rfl))) (aj (dO (iv 6) (iv 2) (nj (iv 5)) rfl rfl rfl) (aq (aN (iv 6)))))))
theorem sE (T:Txt K mg t):bW P w K mg base CX0 1 t.f12 t.g12 ["line","turning","column","part"] (spI K jZ):=
 oM (N:=["line","turning","column","part","pivot","entry","told"]) (b:=mz) T.F12 ld (sZ T)
theorem oK (T:Txt K mg t):Bdy P w K mg base 1 ["table","place","column","turning","part","lines","name"] "exchange" di t.f13 gz:=
 λ_ _ _ _ _ _ hr=>(aj (aF (i:=3) eG.nd rfl (.inr rfl) (av (aJ (iv 0) rfl rfl) (iv 1) rfl rfl) rfl (.inl rfl)) (aj (aF (i:=4) eG.nd rfl (.inr rfl) (aJ (iv 0) rfl rfl) rfl (.inl rfl)) (v8 (il:=5) (ip:=1) (ic:=2) (it:=3) (ia:=4) eG.nd rfl rfl rfl rfl rfl (.inl rfl) (by first|exact Or.inl rfl|exact Or.inr (Or.inl rfl)|exact Or.inr (Or.inr rfl)) (by first|exact Or.inl rfl|exact Or.inr (Or.inl rfl)|exact Or.inr (Or.inr rfl)) (by first|exact Or.inl rfl|exact Or.inr (Or.inl rfl)|exact Or.inr (Or.inr rfl)) (by first|exact Or.inl rfl|exact Or.inr (Or.inl rfl)|exact Or.inr (Or.inr rfl)) (by first|exact Or.inl rfl|exact Or.inr (Or.inl rfl)|exact Or.inr (Or.inr rfl)) (by decide) (by decide) (by decide) (by decide) (by decide) (by decide) (by decide) (by decide) (by decide) (by decide) (by decide) (by decide) (by decide) (by decide) (Am (i0:=5) eG.nd rfl (.inl rfl) (bV (ah di).names ["table","place","column","turning","part","lines","name"] ["line","turning","column","part"] 1 [3,2,4] rfl rfl rfl (by decide +kernel)) rfl (by decide) (bT (aJ (iv 0) rfl rfl) rfl) (λ_ _ _ _ _=>(aX (au (i:=0) (show qaR (α:=Str) ["line","turning","column","part"] by decide +kernel) rfl (.inl rfl)))) (λ_ _ _ _ _=>aY) (λ_ _ _ _ _=>(ax (sE T) (by decide) hr rfl T.m12 T.F12.kp T.b12 (ab (iv 0) (ab (iv 1) (ab (iv 2) (ab (iv 3) ae rfl) rfl) rfl) rfl) (by decide) rfl rfl)) rfl (.inl rfl) (λ_=>rfl)) (by exact rfl) T.z_list (aj (qN (iv 0) (ax (sE T) (by decide) hr rfl T.m12 T.F12.kp T.b12 (ab (aJ (iv 0) rfl rfl) (ab (iv 3) (ab (iv 2) (ab (iv 4) ae rfl) rfl) rfl) rfl) (by decide) rfl rfl) rfl rfl) (aj (qN (iv 0) (iv 5) rfl rfl) (aj (qN (iv 0) (av (iv 3) (iv 2) rfl rfl) rfl rfl) (aj (aF (i:=6) eG.nd rfl (.inl rfl) (av (aJ (iv 0) rfl rfl) (iv 2) rfl rfl) rfl (.inl rfl)) (aj (dO (aJ (iv 0) rfl rfl) (iv 2) (av (aJ (iv 0) rfl rfl) (iv 1) rfl rfl) rfl rfl rfl) (aq (dO (aJ (iv 0) rfl rfl) (iv 1) (iv 6) rfl rfl rfl))))))) (by exact rfl) (by exact rfl) (by exact rfl) (by exact rfl) rfl)))
theorem sj (T:Txt K mg t):bW P w K mg base CX0 2 t.f13 t.g13 ["table","place","column"] (spI K fu):=
 oM (N:=["table","place","column","turning","part","lines","name"]) (b:=gz) T.F13 eG (oK T)
theorem qU (T:Txt K mg t):Bdy P w K mg base 2 ["table","column","way","place","name"] "way_of" gD t.f14 kU:=
 λ_ _ _ _ _ _ hr=>(aj (aF (i:=2) jV.nd rfl (.inl rfl) (gA (x6 tX (aI (dJ (ab ak ae rfl))) (aJ (iv 0) rfl rfl))) rfl (.inl rfl)) (aj (gB (kM rfl T.z_enumerate (ab (aJ (iv 0) rfl rfl) ae rfl) rfl rfl) (eh (aO (au (i:=3) jV.nd rfl (.inl rfl)) (aO (au (i:=4) jV.nd rfl (.inl rfl)) cM)) rfl rfl rfl rfl rfl) (aq (cu (bC ng (iv 4) (aJ (iv 0) rfl rfl) (aZ _)) (aq (dO (iv 2) (iv 4) (nj (av (av (aJ (iv 0) rfl rfl) (iv 3) rfl rfl) (iv 1) rfl rfl)) rfl rfl rfl)) bo)) qbq rfl (λ_=>rfl)) (aj (cu (bC ng (av (aJ (iv 0) rfl rfl) (iv 1) rfl rfl) (aJ (iv 0) rfl rfl) (aZ _)) (aq (dO (iv 2) (av (aJ (iv 0) rfl rfl) (iv 1) rfl rfl) (aJ (iv 0) rfl rfl) rfl rfl rfl)) bo) (aq (aN (jw (td T) (by decide) hr rfl T.m3 T.F3.kp T.b3 (ab (iv 2) ae rfl) (by decide) rfl rfl))))))
theorem vN (T:Txt K mg t):bW P w K mg base CX0 3 t.f14 t.g14 ["table","column"] (spI K kY):=
 oM (N:=["table","column","way","place","name"]) (b:=kU) T.F14 jV (qU T)
theorem mr (T:Txt K mg t):Bdy P w K mg base 0 ["table","amounts","place","name"] "amounts_of" cP t.f15 gn:=
 λ_ _ _ _ _ _ hr=>(aj (aF (i:=1) fG.nd rfl (.inl rfl) (gA (x6 tX (aI (dJ (ab ak ae rfl))) (aJ (iv 0) rfl rfl))) rfl (.inl rfl)) (aj (gB (kM rfl T.z_enumerate (ab (aJ (iv 0) rfl rfl) ae rfl) rfl rfl) (eh (aO (au (i:=2) fG.nd rfl (.inl rfl)) (aO (au (i:=3) fG.nd rfl (.inl rfl)) cM)) rfl rfl rfl rfl rfl) (aq (cu (bC ng (iv 3) (aJ (iv 0) rfl rfl) (aZ _)) (aq (dO (iv 1) (iv 3) (av (av (aJ (iv 0) rfl rfl) (iv 2) rfl rfl) (nj ak) rfl rfl) rfl rfl rfl)) bo)) qbq rfl (λ_=>rfl)) (aq (aN (iv 1)))))
theorem on (T:Txt K mg t):bW P w K mg base CX0 1 t.f15 t.g15 ["table"] (spI K i6):=
 oM (N:=["table","amounts","place","name"]) (b:=gn) T.F15 fG (mr T)
theorem mT (T:Txt K mg t):Bdy P w K mg base 0 ["table","prices","column","name"] "prices_of" dg t.f16 hU:=
 λ_ _ _ _ _ _ hr=>(aj (aF (i:=1) gh.nd rfl (.inl rfl) (gA (x6 tX (aI (dJ (ab ak ae rfl))) (bP (ca rfl) rfl T.z_len qaV (ab (aJ (iv 0) rfl rfl) ae rfl) (by decide) (by decide) rfl rfl))) rfl (.inl rfl)) (aj (gB (kM rfl T.z_enumerate (ab (aJ (iv 0) rfl rfl) ae rfl) rfl rfl) (eh (aO (au (i:=2) gh.nd rfl (.inl rfl)) (aO (au (i:=3) gh.nd rfl (.inl rfl)) cM)) rfl rfl rfl rfl rfl) (aq (cu (bC qW (iv 3) (aJ (iv 0) rfl rfl) (aZ _)) (aq (dO (iv 1) (aA nk (iv 3) (aJ (iv 0) rfl rfl)) (av (aJ (iv 0) rfl rfl) (iv 2) rfl rfl) rfl rfl rfl)) bo)) qbq rfl (λ_=>rfl)) (aq (aN (iv 1)))))
theorem qJ (T:Txt K mg t):bW P w K mg base CX0 1 t.f16 t.g16 ["table"] (spI K jB):=
 oM (N:=["table","prices","column","name"]) (b:=hU) T.F16 gh (mT T)
theorem mn (T:Txt K mg t):Bdy P w K mg base 1 ["table","amounts","prices","shared"] "found_most" cf t.f17 gk:=
 λ_ _ _ _ _ _ hr=>(aj (aF (i:=1) fC.nd rfl (.inl rfl) (ax (on T) (by decide) hr rfl T.m15 T.F15.kp T.b15 (ab (iv 0) ae rfl) (by decide) rfl rfl) rfl (.inl rfl)) (aj (aF (i:=2) fC.nd rfl (.inl rfl) (ax (qJ T) (by decide) hr rfl T.m16 T.F16.kp T.b16 (ab (iv 0) ae rfl) (by decide) rfl rfl) rfl (.inl rfl)) (aj (aF (i:=3) fC.nd rfl (.inr rfl) (ax (iP T) (by decide) hr rfl T.m2 T.F2.kp T.b2 (ab (aA (bn rfl) (aA (bn rfl) (aI (dJ (ab (aJ (iv 0) rfl rfl) ae rfl))) (iv 1)) (iv 2)) ae rfl) (by decide) rfl rfl) rfl (.inl rfl)) (aq (aN (bS (ab nD (ab (aA mY (aJ (iv 0) rfl rfl) (iv 3)) (ab (dP (cQ rfl) rfl T.z_tuple qaF (ab (aI (cr (bV (ah cf).names ["table","amounts","prices","shared"] ["number","shared"] 1 [3] rfl rfl rfl (by decide +kernel)) rfl (by decide) (bT (iv 1) rfl) (λ_ _ _ _ _=>(aX (au (i:=0) (show qaR (α:=Str) ["number","shared"] by decide +kernel) rfl (.inl rfl)))) (λ_ _ _ _ _=>aY) (λ_ _ _ _ _=>(aA mY (iv 0) (iv 1))) (λ_=>rfl))) ae rfl) (by decide) (by decide) rfl rfl) (ab (dP (cQ rfl) rfl T.z_tuple qaF (ab (aI (cr (bV (ah cf).names ["table","amounts","prices","shared"] ["number","shared"] 1 [3] rfl rfl rfl (by decide +kernel)) rfl (by decide) (bT (iv 2) rfl) (λ_ _ _ _ _=>(aX (au (i:=0) (show qaR (α:=Str) ["number","shared"] by decide +kernel) rfl (.inl rfl)))) (λ_ _ _ _ _=>aY) (λ_ _ _ _ _=>(aA mY (iv 0) (iv 1))) (λ_=>rfl))) ae rfl) (by decide) (by decide) rfl rfl) ae rfl) rfl) rfl) rfl)))))))
theorem oR (T:Txt K mg t):bW P w K mg base CX0 2 t.f17 t.g17 ["table"] (spI K iY):=
 gf (N:=["table","amounts","prices","shared"]) (b:=gk) T.F17 fC (mn T)
theorem qD (T:Txt K mg t):Bdy P w K mg base 3 ["rows","bounds","gains","table","step"] "most_of" ft t.f18 iJ:=
 λ_ _ _ _ _ _ hr=>(aj (aF (i:=3) iS.nd rfl (.inl rfl) (yK (N:=["self","rows","bounds","gains"]) (ps:=["self","rows","bounds","gains"]) (k:=2) T.mk_Table (oU T) (by decide) hr rfl T.cm_Table T.b5 T.cl_Table T.na_Table rfl (by decide) (ab (iv 0) (ab (iv 1) (ab (iv 2) ae rfl) rfl) rfl) (by decide) rfl rfl) rfl (.inl rfl)) (aj (aF (i:=4) iS.nd rfl (.inl rfl) (jw (kX T) (by decide) hr rfl T.m11 T.F11.kp T.b11 (ab (iv 3) ae rfl) (by decide) rfl rfl) rfl (.inl rfl)) (aj (rA (2^8000) (bC zf (iv 4) dL (aZ _)) (aj (cu (bC iu (av (iv 4) ak rfl rfl) dL (aZ _)) (aq (aN (bS (ab nD (ab (jw (vN T) (by decide) hr rfl T.m14 T.F14.kp T.b14 (ab (iv 3) (ab (av (iv 4) ak rfl rfl) ae rfl) rfl) (by decide) rfl rfl) ae rfl) rfl)))) bo) (aj (fF (ax (sj T) (by decide) hr rfl T.m13 T.F13.kp T.b13 (ab (iv 3) (ab (av (iv 4) ak rfl rfl) (ab (av (iv 4) ak rfl rfl) ae rfl) rfl) rfl) (by decide) rfl rfl) rfl) (aq (aF (i:=4) iS.nd rfl (.inl rfl) (jw (kX T) (by decide) hr rfl T.m11 T.F11.kp T.b11 (ab (iv 3) ae rfl) (by decide) rfl rfl) rfl (.inl rfl))))) qbq) (aq (aN (jw (oR T) (by decide) hr rfl T.m17 T.F17.kp T.b17 (ab (iv 3) ae rfl) (by decide) rfl rfl))))))
theorem kv (T:Txt K mg t):bW P w K mg base CX0 4 t.f18 t.g18 ["rows","bounds","gains"] (spI K gr):=
 gf (N:=["rows","bounds","gains","table","step"]) (b:=iJ) T.F18 iS (qD T)
theorem nv (T:Txt K mg t):Bdy P w K mg base 0 ["rows","place"] "column_of" cK t.f19 ij:=
 λ_ _ _ _ _ _ hr=>(aq (aN (aI (cr (bV (ah cK).names ["rows","place"] ["row","place"] 1 [1] rfl rfl rfl (by decide +kernel)) rfl (by decide) (bT (iv 0) rfl) (λ_ _ _ _ _=>(aX (au (i:=0) (show qaR (α:=Str) ["row","place"] by decide +kernel) rfl (.inl rfl)))) (λ_ _ _ _ _=>aY) (λ_ _ _ _ _=>(av (iv 0) (iv 1) rfl rfl)) (λ_=>rfl)))))
theorem qC (T:Txt K mg t):bW P w K mg base CX0 1 t.f19 t.g19 ["rows","place"] (spI K jD):=
 gf (N:=["rows","place"]) (b:=ij) T.F19 qo (nv T)
theorem kF (T:Txt K mg t):Bdy P w K mg base 1 ["rows","bounds","amounts","part"] "within_bounds" bR t.f20 dZ:=
 λ_ _ _ _ _ _ hr=>(aq (aN (bP (tW rfl rfl) rfl T.z_all qdi (ab (aI (cr (bV (ah bR).names ["rows","bounds","amounts","part"] ["row","bound","amounts","part"] 2 [2,3] rfl rfl rfl (by decide +kernel)) rfl (by decide) (lO rfl T.z_zip (ab (iv 0) (ab (iv 1) ae rfl) rfl) rfl rfl rfl) (λ_ _ _ _ _=>(eh (aO (au (i:=0) (show qaR (α:=Str) ["row","bound","amounts","part"] by decide +kernel) rfl (.inl rfl)) (aO (au (i:=1) (show qaR (α:=Str) ["row","bound","amounts","part"] by decide +kernel) rfl (.inl rfl)) cM)) rfl rfl rfl rfl rfl)) (λ_ _ _ _ _=>aY) (λ_ _ _ _ _=>(fo zJ (ax (bY T) (by decide) hr rfl T.m4 T.F4.kp T.b4 (ab (iv 0) (ab (iv 2) ae rfl) rfl) (by decide) rfl rfl) (aA (bB rfl) (iv 1) (iv 3)) (aZ _))) (λ_=>rfl))) ae rfl) (by decide) (by decide) rfl rfl)))
theorem iO (T:Txt K mg t):bW P w K mg base CX0 2 t.f20 t.g20 ["rows","bounds","amounts","part"] (spI K cx):=
 gf (N:=["rows","bounds","amounts","part"]) (b:=dZ) T.F20 lE (kF T)
theorem lw (T:Txt K mg t):Bdy P w K mg base 1 ["rows","gains","prices","part"] "cover_gains" cm t.f21 fD:=
 λ_ _ _ _ _ _ hr=>(aq (aN (bP (tW rfl rfl) rfl T.z_all qdi (ab (aI (cr (bV (ah cm).names ["rows","gains","prices","part"] ["place","gain","rows","prices","part"] 2 [0,2,3] rfl rfl rfl (by decide +kernel)) rfl (by decide) (kM rfl T.z_enumerate (ab (iv 1) ae rfl) rfl rfl) (λ_ _ _ _ _=>(eh (aO (au (i:=0) (show qaR (α:=Str) ["place","gain","rows","prices","part"] by decide +kernel) rfl (.inl rfl)) (aO (au (i:=1) (show qaR (α:=Str) ["place","gain","rows","prices","part"] by decide +kernel) rfl (.inl rfl)) cM)) rfl rfl rfl rfl rfl)) (λ_ _ _ _ _=>aY) (λ_ _ _ _ _=>(fo qW (ax (bY T) (by decide) hr rfl T.m4 T.F4.kp T.b4 (ab (ax (qC T) (by decide) hr rfl T.m19 T.F19.kp T.b19 (ab (iv 2) (ab (iv 0) ae rfl) rfl) (by decide) rfl rfl) (ab (iv 3) ae rfl) rfl) (by decide) rfl rfl) (aA (bB rfl) (iv 1) (iv 4)) (aZ _))) (λ_=>rfl))) ae rfl) (by decide) (by decide) rfl rfl)))
theorem oi (T:Txt K mg t):bW P w K mg base CX0 2 t.f21 t.g21 ["rows","gains","prices","part"] (spI K fJ):=
 gf (N:=["rows","gains","prices","part"]) (b:=fD) T.F21 nQ (lw T)
theorem oT (T:Txt K mg t):Bdy P w K mg base 2 ["rows","bounds","gains","part","amounts","prices"] "are_most" d6 t.f22 gJ:=
 λ_ _ _ _ _ _ hr=>(aj (cu (jb (jc (gM (eN (ax (mj T) (by decide) hr rfl T.m0 T.F0.kp T.b0 (ab (iv 3) ae rfl) (by decide) rfl rfl) rfl rfl)) (ik (bC ng (iv 3) ak (aZ _))))) (aq (aN ji)) bo) (aj (cu (jb (jc (gM (eN (ax (gN T) (by decide) hr rfl T.m1 T.F1.kp T.b1 (ab (iv 4) (ab (bP (ca rfl) rfl T.z_len qaV (ab (iv 2) ae rfl) (by decide) (by decide) rfl rfl) ae rfl) rfl) (by decide) rfl rfl) rfl rfl)) (ik (gM (eN (ax (gN T) (by decide) hr rfl T.m1 T.F1.kp T.b1 (ab (iv 5) (ab (bP (ca rfl) rfl T.z_len qaV (ab (iv 0) ae rfl) (by decide) (by decide) rfl rfl) ae rfl) rfl) (by decide) rfl rfl) rfl rfl))))) (aq (aN ji)) bo) (aj (cu (jb (jc (gM (eN (ax (iO T) (by decide) hr rfl T.m20 T.F20.kp T.b20 (ab (iv 0) (ab (iv 1) (ab (iv 4) (ab (iv 3) ae rfl) rfl) rfl) rfl) (by decide) rfl rfl) rfl rfl)) (ik (gM (eN (ax (oi T) (by decide) hr rfl T.m21 T.F21.kp T.b21 (ab (iv 0) (ab (iv 2) (ab (iv 5) (ab (iv 3) ae rfl) rfl) rfl) rfl) (by decide) rfl rfl) rfl rfl))))) (aq (aN ji)) bo) (aq (aN (fo (lR hr rfl) (ax (bY T) (by decide) hr rfl T.m4 T.F4.kp T.b4 (ab (iv 1) (ab (iv 5) ae rfl) rfl) (by decide) rfl rfl) (ax (bY T) (by decide) hr rfl T.m4 T.F4.kp T.b4 (ab (iv 2) (ab (iv 4) ae rfl) rfl) (by decide) rfl rfl) (aZ _)))))))
theorem sB (T:Txt K mg t):bW P w K mg base CX0 3 t.f22 t.g22 ["rows","bounds","gains","part","amounts","prices"] (spI K ky):=
 gf (N:=["rows","bounds","gains","part","amounts","prices"]) (b:=gJ) T.F22 rF (oT T)
theorem rC (T:Txt K mg t):Bdy P w K mg base 2 ["rows","gains","way"] "is_way" gH t.f23 jO:=
 λ_ _ _ _ _ _ hr=>(aj (cu (gM (eN (ax (gN T) (by decide) hr rfl T.m1 T.F1.kp T.b1 (ab (iv 2) (ab (bP (ca rfl) rfl T.z_len qaV (ab (iv 1) ae rfl) (by decide) (by decide) rfl rfl) ae rfl) rfl) (by decide) rfl rfl) rfl rfl)) (aq (aN ji)) bo) (aq (aN (lQ (ax (iO T) (by decide) hr rfl T.m20 T.F20.kp T.b20 (ab (iv 0) (ab (aA (bB rfl) (aI (dJ (ab ak ae rfl))) (bP (ca rfl) rfl T.z_len qaV (ab (iv 0) ae rfl) (by decide) (by decide) rfl rfl)) (ab (iv 2) (ab ak ae rfl) rfl) rfl) rfl) (by decide) rfl rfl) (lv (fo oZ (ax (bY T) (by decide) hr rfl T.m4 T.F4.kp T.b4 (ab (iv 1) (ab (iv 2) ae rfl) rfl) (by decide) rfl rfl) ak (aZ _)))))))
theorem vZ (T:Txt K mg t):bW P w K mg base CX0 3 t.f23 t.g23 ["rows","gains","way"] (spI K nX):=
 gf (N:=["rows","gains","way"]) (b:=jO) T.F23 vL (rC T)
theorem mw (T:Txt K mg t):Bdy P w K mg base 3 ["rows","bounds","gains","thing"] "shows_most" cL t.f24 eR:=
 λ_ _ _ _ _ _ hr=>(aj (cu (jb (jc (gM (eN (bP (mS rfl) rfl T.z_isinstance qbN (ab (iv 3) (ab (sH rfl T.z_tuple qaF (by decide) (by decide)) ae rfl) rfl) (by decide) (by decide) rfl rfl) rfl rfl)) (jc (bC (x3 rfl) (bP (ca rfl) rfl T.z_len qaV (ab (iv 3) ae rfl) (by decide) (by decide) rfl rfl) (bS (ab ak (ab ak ae rfl) rfl)) rfl) (ik (gM (eN (bP (mS rfl) rfl T.z_isinstance qbN (ab (av (iv 3) ak rfl rfl) (ab (sH rfl T.z_str qhM (by decide) (by decide)) ae rfl) rfl) (by decide) (by decide) rfl rfl) rfl rfl)))))) (aq (aN ji)) bo) (aj (cu (bC (lR hr rfl) (bP (ca rfl) rfl T.z_len qaV (ab (iv 3) ae rfl) (by decide) (by decide) rfl rfl) ak (aZ _)) (aq (aN (lQ (fo (lR hr rfl) (av (iv 3) ak rfl rfl) nD (aZ _)) (lv (ax (sB T) (by decide) hr rfl T.m22 T.F22.kp T.b22 (ab (iv 0) (ab (iv 1) (ab (iv 2) (ab (av (iv 3) ak rfl rfl) (ab (av (iv 3) ak rfl rfl) (ab (av (iv 3) ak rfl rfl) ae rfl) rfl) rfl) rfl) rfl) rfl) (by decide) rfl rfl))))) bo) (aq (aN (lQ (fo (lR hr rfl) (av (iv 3) ak rfl rfl) nD (aZ _)) (lv (ax (vZ T) (by decide) hr rfl T.m23 T.F23.kp T.b23 (ab (iv 0) (ab (iv 2) (ab (av (iv 3) ak rfl rfl) ae rfl) rfl) rfl) (by decide) rfl rfl)))))))
theorem ot (T:Txt K mg t):bW P w K mg base CX0 4 t.f24 t.g24 ["rows","bounds","gains","thing"] (spI K eZ):=
 gf (N:=["rows","bounds","gains","thing"]) (b:=eR) T.F24 oJ (mw T)
theorem oP (T:Txt K mg t):Bdy P w K mg base 0 ["_law_script","_law_k","_law_cell","_law_great"] "_law_pot" d5 t.f25 gw:=
 λ_ _ _ _ _ _ hr=>(aj (aF (i:=2) jy.nd rfl (.inl rfl) (vG (bC ng (iv 1) (bP (ca rfl) rfl T.z_len qaV (ab (iv 0) ae rfl) (by decide) (by decide) rfl rfl) (aZ _)) (av (iv 0) (iv 1) rfl rfl) ak) rfl (.inl rfl)) (aj (aF (i:=3) jy.nd rfl (.inl rfl) (aA (bB rfl) (bP t9 rfl T.z_abs qdj (ab (iv 2) ae rfl) (by decide) (by decide) rfl rfl) (dP wN rfl T.z_int qdh (ab (fo qW (bP t9 rfl T.z_abs qdj (ab (iv 2) ae rfl) (by decide) (by decide) rfl rfl) (aA wD ak ak) (aZ _)) ae rfl) (by decide) (by decide) rfl rfl)) rfl (.inl rfl)) (aq (aN (gA (dJ (ab (iv 3) (ab (aA jQ (aA (bB rfl) (aA (bn rfl) (aA (bn rfl) (aA jQ (iv 2) ak) (aA (bB rfl) (aA (bB rfl) ak (iv 1)) (iv 1))) ak) ak) ak) (ab ak ae rfl) rfl) rfl)))))))
theorem sK (T:Txt K mg t):bW P w K mg base CX0 1 t.f25 t.g25 ["_law_script","_law_k"] (spI K fk):=
 gf (N:=["_law_script","_law_k","_law_cell","_law_great"]) (b:=gw) T.F25 jy (oP T)
theorem nV (T:Txt K mg t):Bdy P w K mg base 0 ["_law_pot_here","_law_many","_law_digit"] "_law_pick" dj t.f26 eE:=
 λ_ _ _ _ _ _ hr=>(aj (dO (iv 0) ak (aA (bn rfl) (av (iv 0) ak rfl rfl) ak) rfl rfl rfl) (aj (cu (jb (zA (bC oZ (av (iv 0) ak rfl rfl) ak (aZ _)) (wF (bC zJ (av (iv 0) ak rfl rfl) ak (aZ _))))) (aj (aF (i:=2) kL.nd rfl (.inl rfl) (aA jQ (av (iv 0) ak rfl rfl) (iv 1)) rfl (.inl rfl)) (aj (dO (iv 0) ak (aA ve (av (iv 0) ak rfl rfl) (iv 1)) rfl rfl rfl) (aq (aN (iv 2))))) bo) (aj (dO (iv 0) ak (aA jQ (aA (bn rfl) (aA (bn rfl) (aA (bB rfl) (av (iv 0) ak rfl rfl) ak) ak) (av (iv 0) ak rfl rfl)) ak) rfl rfl rfl) (aq (aN (aA jQ (aA ve (aA jQ (aA (bB rfl) (av (iv 0) ak rfl rfl) (aA (bn rfl) (aA jQ (av (iv 0) ak rfl rfl) ak) ak)) ak) ak) (iv 1)))))))
theorem bM (T:Txt K mg t):bW P w K mg base CX0 1 t.f26 t.g26 ["_law_pot_here","_law_many"] (spI K aM):=
 gf (N:=["_law_pot_here","_law_many","_law_digit"]) (b:=eE) T.F26 kL (nV T)
theorem mR (T:Txt K mg t):Bdy P w K mg base 1 ["_law_pot_here","_law_many","_law_low","_law_rows","_law_row","_law_far","_law_bounds"] "_law_case" ck t.f27 fN:=
 λ_ _ _ _ _ _ hr=>(aj (aF (i:=1) cO.nd rfl (.inl rfl) (aA (bn rfl) ak (ax (bM T) (by decide) hr rfl T.m26 T.F26.kp T.b26 (ab (iv 0) (ab ak ae rfl) rfl) (by decide) rfl rfl)) rfl (.inl rfl)) (aj (aF (i:=2) cO.nd rfl (.inr rfl) (av (aI (dJ (ab ak (ab ak (ab ak ae rfl) rfl) rfl))) (ax (bM T) (by decide) hr rfl T.m26 T.F26.kp T.b26 (ab (iv 0) (ab ak ae rfl) rfl) (by decide) rfl rfl) rfl rfl) rfl (.inl rfl)) (aj (aF (i:=3) cO.nd rfl (.inl rfl) (gA (dJ ae)) rfl (.inl rfl)) (aj (gB (iX rfl T.z_range (ab (ax (bM T) (by decide) hr rfl T.m26 T.F26.kp T.b26 (ab (iv 0) (ab ak ae rfl) rfl) (by decide) rfl rfl) ae rfl) rfl) (aX (au (i:=4) cO.nd rfl (.inl rfl))) (aq (fF (dA (iv 3) (ab (dP (cQ rfl) rfl T.z_tuple qaF (ab (aI (cr (bV (ah ck).names ["_law_pot_here","_law_many","_law_low","_law_rows","_law_row","_law_far","_law_bounds"] ["_law_k","_law_pot_here","_law_low"] 1 [0,2] rfl rfl rfl (by decide +kernel)) rfl (by decide) (iX rfl T.z_range (ab (iv 1) ae rfl) rfl) (λ_ _ _ _ _=>(aX (au (i:=0) (show qaR (α:=Str) ["_law_k","_law_pot_here","_law_low"] by decide +kernel) rfl (.inl rfl)))) (λ_ _ _ _ _=>aY) (λ_ _ _ _ _=>(aA (bB rfl) (aA nk (ax (bM T) (by decide) hr rfl T.m26 T.F26.kp T.b26 (ab (iv 1) (ab ak ae rfl) rfl) (by decide) rfl rfl) (iv 2)) (dP wN rfl T.z_int qdh (ab (fo oZ (ax (bM T) (by decide) hr rfl T.m26 T.F26.kp T.b26 (ab (iv 1) (ab ak ae rfl) rfl) (by decide) rfl rfl) ak (aZ _)) ae rfl) (by decide) (by decide) rfl rfl))) (λ_=>rfl))) ae rfl) (by decide) (by decide) rfl rfl) ae rfl) rfl rfl (by decide) rfl rfl) rfl)) qbq rfl (λ_=>rfl)) (aj (aF (i:=5) cO.nd rfl (.inr rfl) (av (aI (dJ (ab ak (ab ak (ab ak (ab (aA wD ak ak) ae rfl) rfl) rfl) rfl))) (ax (bM T) (by decide) hr rfl T.m26 T.F26.kp T.b26 (ab (iv 0) (ab ak ae rfl) rfl) (by decide) rfl rfl) rfl rfl) rfl (.inl rfl)) (aj (aF (i:=6) cO.nd rfl (.inl rfl) (dP (cQ rfl) rfl T.z_tuple qaF (ab (aI (A8 (bV (ah ck).names ["_law_pot_here","_law_many","_law_low","_law_rows","_law_row","_law_far","_law_bounds"] ["_law_row","_law_pot_here","_law_far"] 1 [0,5] rfl rfl rfl (by decide +kernel)) rfl (by decide) (iv 3) rfl (λ_ _ _ _ _=>(aX (au (i:=0) (show qaR (α:=Str) ["_law_row","_law_pot_here","_law_far"] by decide +kernel) rfl (.inl rfl)))) (λ_ _ _ _ _=>aY) (λ_ _ _ _ _=>(aA (bB rfl) (ax (bM T) (by decide) hr rfl T.m26 T.F26.kp T.b26 (ab (iv 1) (ab ak ae rfl) rfl) (by decide) rfl rfl) (iv 2))) (λ_=>rfl))) ae rfl) (by decide) (by decide) rfl rfl) rfl (.inl rfl)) (aq (aN (bS (ab (dP (cQ rfl) rfl T.z_tuple qaF (ab (iv 3) ae rfl) (by decide) (by decide) rfl rfl) (ab (iv 6) (ab (dP (cQ rfl) rfl T.z_tuple qaF (ab (aI (cr (bV (ah ck).names ["_law_pot_here","_law_many","_law_low","_law_rows","_law_row","_law_far","_law_bounds"] ["_law_k","_law_pot_here"] 1 [0] rfl rfl rfl (by decide +kernel)) rfl (by decide) (iX rfl T.z_range (ab (iv 1) ae rfl) rfl) (λ_ _ _ _ _=>(aX (au (i:=0) (show qaR (α:=Str) ["_law_k","_law_pot_here"] by decide +kernel) rfl (.inl rfl)))) (λ_ _ _ _ _=>aY) (λ_ _ _ _ _=>(aA nk (ax (bM T) (by decide) hr rfl T.m26 T.F26.kp T.b26 (ab (iv 1) (ab ak ae rfl) rfl) (by decide) rfl rfl) ak)) (λ_=>rfl))) ae rfl) (by decide) (by decide) rfl rfl) ae rfl) rfl) rfl))))))))))
theorem le (T:Txt K mg t):bW P w K mg base CX0 2 t.f27 t.g27 ["_law_pot_here"] (spI K eB):=
 oM (N:=["_law_pot_here","_law_many","_law_low","_law_rows","_law_row","_law_far","_law_bounds"]) (b:=fN) T.F27 cO (mR T)
theorem ow (T:Txt K mg t):Bdy P w K mg base 0 ["_law_one","_law_other"] "_law_dot" dk t.f28 kG:=
 λ_ _ _ _ _ _ hr=>(aq (aN (bP (xq rfl rfl) rfl T.z_sum qeu (ab (aI (cr (bV (ah dk).names ["_law_one","_law_other"] ["_law_number","_law_by"] 2 [] rfl rfl rfl (by decide +kernel)) rfl (by decide) (lO rfl T.z_zip (ab (iv 0) (ab (iv 1) ae rfl) rfl) rfl rfl rfl) (λ_ _ _ _ _=>(eh (aO (au (i:=0) (show qaR (α:=Str) ["_law_number","_law_by"] by decide +kernel) rfl (.inl rfl)) (aO (au (i:=1) (show qaR (α:=Str) ["_law_number","_law_by"] by decide +kernel) rfl (.inl rfl)) cM)) rfl rfl rfl rfl rfl)) (λ_ _ _ _ _=>aY) (λ_ _ _ _ _=>(aA (bB rfl) (iv 0) (iv 1))) (λ_=>rfl))) ae rfl) (by decide) (by decide) rfl rfl)))
theorem rq (T:Txt K mg t):bW P w K mg base CX0 1 t.f28 t.g28 ["_law_one","_law_other"] (spI K kC):=
 gf (N:=["_law_one","_law_other"]) (b:=kG) T.F28 rj (ow T)
theorem mo (T:Txt K mg t):Bdy P w K mg base 1 ["_law_pot_here","_law_many","_law_left"] "_law_order" cD t.f29 ge:=
 λ_ _ _ _ _ _ hr=>(aj (aF (i:=2) ki.nd rfl (.inr rfl) (gA (wM rfl T.z_list rfl T.z_range (ab (iv 1) ae rfl) rfl rfl)) rfl (.inl rfl)) (aq (aN (aI (cr (bV (ah cD).names ["_law_pot_here","_law_many","_law_left"] ["_law_turn","_law_left","_law_pot_here"] 1 [2,0] rfl rfl rfl (by decide +kernel)) rfl (by decide) (iX rfl T.z_range (ab (iv 1) ae rfl) rfl) (λ_ _ _ _ _=>(aX (au (i:=0) (show qaR (α:=Str) ["_law_turn","_law_left","_law_pot_here"] by decide +kernel) rfl (.inl rfl)))) (λ_ _ _ _ _=>aY) (λ_ _ _ _ _=>(AC (iv 1) (ab (ax (bM T) (by decide) hr rfl T.m26 T.F26.kp T.b26 (ab (iv 2) (ab (bP (ca rfl) rfl T.z_len qaV (ab (iv 1) ae rfl) (by decide) (by decide) rfl rfl) ae rfl) rfl) (by decide) rfl rfl) ae rfl) rfl rfl (by decide) rfl rfl)) (λ_=>rfl))))))
theorem ko (T:Txt K mg t):bW P w K mg base CX0 2 t.f29 t.g29 ["_law_pot_here","_law_many"] (spI K dy):=
 oM (N:=["_law_pot_here","_law_many","_law_left"]) (b:=ge) T.F29 ki (mo T)
theorem lm (T:Txt K mg t):Bdy P w K mg base 2 ["_law_pot_here","_law_case_here","_law_rows","_law_bounds","_law_gains_here","_law_order_here","_law_found","_law_exchanged_rows","_law_by","_law_at","_law_one","_law_other","_law_spot","_law_line","_law_more","_law_longer"] "_law_others" aQ t.f30 cY:=
 λ_ _ _ _ _ _ hr=>(aj (tJ (iv 1) (eh (aO (au (i:=2) aL.nd rfl (.inr rfl)) (aO (au (i:=3) aL.nd rfl (.inr rfl)) (aO (au (i:=4) aL.nd rfl (.inr rfl)) cM))) rfl rfl rfl rfl rfl) rfl rfl rfl) (aj (aF (i:=5) aL.nd rfl (.inr rfl) (ax (ko T) (by decide) hr rfl T.m29 T.F29.kp T.b29 (ab (iv 0) (ab (bP (ca rfl) rfl T.z_len qaV (ab (iv 2) ae rfl) (by decide) (by decide) rfl rfl) ae rfl) rfl) (by decide) rfl rfl) rfl (.inl rfl)) (aj (aF (i:=6) aL.nd rfl (.inl rfl) (gA (dJ (ab (bS (ab (dP (cQ rfl) rfl T.z_tuple qaF (ab (aI (cr (bV (ah aQ).names ["_law_pot_here","_law_case_here","_law_rows","_law_bounds","_law_gains_here","_law_order_here","_law_found","_law_exchanged_rows","_law_by","_law_at","_law_one","_law_other","_law_spot","_law_line","_law_more","_law_longer"] ["_law_k","_law_rows"] 1 [2] rfl rfl rfl (by decide +kernel)) rfl (by decide) (bT (iv 5) rfl) (λ_ _ _ _ _=>(aX (au (i:=0) (show qaR (α:=Str) ["_law_k","_law_rows"] by decide +kernel) rfl (.inl rfl)))) (λ_ _ _ _ _=>aY) (λ_ _ _ _ _=>(av (iv 1) (iv 0) rfl rfl)) (λ_=>rfl))) ae rfl) (by decide) (by decide) rfl rfl) (ab (dP (cQ rfl) rfl T.z_tuple qaF (ab (aI (cr (bV (ah aQ).names ["_law_pot_here","_law_case_here","_law_rows","_law_bounds","_law_gains_here","_law_order_here","_law_found","_law_exchanged_rows","_law_by","_law_at","_law_one","_law_other","_law_spot","_law_line","_law_more","_law_longer"] ["_law_k","_law_bounds"] 1 [3] rfl rfl rfl (by decide +kernel)) rfl (by decide) (bT (iv 5) rfl) (λ_ _ _ _ _=>(aX (au (i:=0) (show qaR (α:=Str) ["_law_k","_law_bounds"] by decide +kernel) rfl (.inl rfl)))) (λ_ _ _ _ _=>aY) (λ_ _ _ _ _=>(av (iv 1) (iv 0) rfl rfl)) (λ_=>rfl))) ae rfl) (by decide) (by decide) rfl rfl) (ab (iv 4) (ab ak ae rfl) rfl) rfl) rfl)) ae rfl))) rfl (.inl rfl)) (aj (aF (i:=5) aL.nd rfl (.inr rfl) (ax (ko T) (by decide) hr rfl T.m29 T.F29.kp T.b29 (ab (iv 0) (ab (bP (ca rfl) rfl T.z_len qaV (ab (iv 4) ae rfl) (by decide) (by decide) rfl rfl) ae rfl) rfl) (by decide) rfl rfl) rfl (.inl rfl)) (aj (aF (i:=7) aL.nd rfl (.inl rfl) (dP (cQ rfl) rfl T.z_tuple qaF (ab (aI (cr (bV (ah aQ).names ["_law_pot_here","_law_case_here","_law_rows","_law_bounds","_law_gains_here","_law_order_here","_law_found","_law_exchanged_rows","_law_by","_law_at","_law_one","_law_other","_law_spot","_law_line","_law_more","_law_longer"] ["_law_row","_law_order_here"] 1 [5] rfl rfl rfl (by decide +kernel)) rfl (by decide) (bT (iv 2) rfl) (λ_ _ _ _ _=>(aX (au (i:=0) (show qaR (α:=Str) ["_law_row","_law_order_here"] by decide +kernel) rfl (.inr rfl)))) (λ_ _ _ _ _=>aY) (λ_ _ _ _ _=>(dP (cQ rfl) rfl T.z_tuple qaF (ab (aI (cr (bV _ ["_law_row","_law_order_here"] ["_law_k","_law_row"] 1 [0] (zB (ns:=(ah aQ).names) rfl rfl) rfl rfl (by decide +kernel)) rfl (by decide) (bT (iv 1) rfl) (λ_ _ _ _ _=>(aX (au (i:=0) (show qaR (α:=Str) ["_law_k","_law_row"] by decide +kernel) rfl (.inl rfl)))) (λ_ _ _ _ _=>aY) (λ_ _ _ _ _=>(av (iv 1) (iv 0) rfl rfl)) (λ_=>rfl))) ae rfl) (by decide) (by decide) rfl rfl)) (λ_=>rfl))) ae rfl) (by decide) (by decide) rfl rfl) rfl (.inl rfl)) (aj (fF (dA (iv 6) (ab (bS (ab (iv 7) (ab (iv 3) (ab (dP (cQ rfl) rfl T.z_tuple qaF (ab (aI (cr (bV (ah aQ).names ["_law_pot_here","_law_case_here","_law_rows","_law_bounds","_law_gains_here","_law_order_here","_law_found","_law_exchanged_rows","_law_by","_law_at","_law_one","_law_other","_law_spot","_law_line","_law_more","_law_longer"] ["_law_k","_law_gains_here"] 1 [4] rfl rfl rfl (by decide +kernel)) rfl (by decide) (bT (iv 5) rfl) (λ_ _ _ _ _=>(aX (au (i:=0) (show qaR (α:=Str) ["_law_k","_law_gains_here"] by decide +kernel) rfl (.inl rfl)))) (λ_ _ _ _ _=>aY) (λ_ _ _ _ _=>(av (iv 1) (iv 0) rfl rfl)) (λ_=>rfl))) ae rfl) (by decide) (by decide) rfl rfl) (ab ak ae rfl) rfl) rfl) rfl)) ae rfl) rfl rfl (by decide) rfl rfl) rfl) (aj (aF (i:=8) aL.nd rfl (.inr rfl) (aA (bn rfl) ak (ax (bM T) (by decide) hr rfl T.m26 T.F26.kp T.b26 (ab (iv 0) (ab ak ae rfl) rfl) (by decide) rfl rfl)) rfl (.inl rfl)) (aj (fF (dA (iv 6) (ab (bS (ab (iv 2) (ab (iv 3) (ab (dP (cQ rfl) rfl T.z_tuple qaF (ab (aI (cr (bV (ah aQ).names ["_law_pot_here","_law_case_here","_law_rows","_law_bounds","_law_gains_here","_law_order_here","_law_found","_law_exchanged_rows","_law_by","_law_at","_law_one","_law_other","_law_spot","_law_line","_law_more","_law_longer"] ["_law_gain","_law_by"] 1 [8] rfl rfl rfl (by decide +kernel)) rfl (by decide) (bT (iv 4) rfl) (λ_ _ _ _ _=>(aX (au (i:=0) (show qaR (α:=Str) ["_law_gain","_law_by"] by decide +kernel) rfl (.inl rfl)))) (λ_ _ _ _ _=>aY) (λ_ _ _ _ _=>(aA (bB rfl) (iv 1) (iv 0))) (λ_=>rfl))) ae rfl) (by decide) (by decide) rfl rfl) (ab (iv 8) ae rfl) rfl) rfl) rfl)) ae rfl) rfl rfl (by decide) rfl rfl) rfl) (aj (fF (dA (iv 6) (ab (bS (ab (iv 2) (ab (dP (cQ rfl) rfl T.z_tuple qaF (ab (aI (cr (bV (ah aQ).names ["_law_pot_here","_law_case_here","_law_rows","_law_bounds","_law_gains_here","_law_order_here","_law_found","_law_exchanged_rows","_law_by","_law_at","_law_one","_law_other","_law_spot","_law_line","_law_more","_law_longer"] ["_law_bound","_law_by"] 1 [8] rfl rfl rfl (by decide +kernel)) rfl (by decide) (bT (iv 3) rfl) (λ_ _ _ _ _=>(aX (au (i:=0) (show qaR (α:=Str) ["_law_bound","_law_by"] by decide +kernel) rfl (.inl rfl)))) (λ_ _ _ _ _=>aY) (λ_ _ _ _ _=>(aA (bB rfl) (iv 1) (iv 0))) (λ_=>rfl))) ae rfl) (by decide) (by decide) rfl rfl) (ab (iv 4) (ab (iv 8) ae rfl) rfl) rfl) rfl)) ae rfl) rfl rfl (by decide) rfl rfl) rfl) (aj (aF (i:=9) aL.nd rfl (.inr rfl) (ax (bM T) (by decide) hr rfl T.m26 T.F26.kp T.b26 (ab (iv 0) (ab (bP (ca rfl) rfl T.z_len qaV (ab (iv 4) ae rfl) (by decide) (by decide) rfl rfl) ae rfl) rfl) (by decide) rfl rfl) rfl (.inl rfl)) (aj (fF (dA (iv 6) (ab (bS (ab (dP (cQ rfl) rfl T.z_tuple qaF (ab (aI (cr (bV (ah aQ).names ["_law_pot_here","_law_case_here","_law_rows","_law_bounds","_law_gains_here","_law_order_here","_law_found","_law_exchanged_rows","_law_by","_law_at","_law_one","_law_other","_law_spot","_law_line","_law_more","_law_longer"] ["_law_row","_law_at"] 1 [9] rfl rfl rfl (by decide +kernel)) rfl (by decide) (bT (iv 2) rfl) (λ_ _ _ _ _=>(aX (au (i:=0) (show qaR (α:=Str) ["_law_row","_law_at"] by decide +kernel) rfl (.inl rfl)))) (λ_ _ _ _ _=>aY) (λ_ _ _ _ _=>(aA (bn rfl) (iv 0) (bS (ab (av (iv 0) (iv 1) rfl rfl) ae rfl)))) (λ_=>rfl))) ae rfl) (by decide) (by decide) rfl rfl) (ab (iv 3) (ab (aA (bn rfl) (iv 4) (bS (ab (av (iv 4) (iv 9) rfl rfl) ae rfl))) (ab ak ae rfl) rfl) rfl) rfl)) ae rfl) rfl rfl (by decide) rfl rfl) rfl) (aj (cu (bC (u7 hr rfl) (iv 2) (bS ae) (aZ _)) (aj (tJ (aI (cr (bV (ah aQ).names ["_law_pot_here","_law_case_here","_law_rows","_law_bounds","_law_gains_here","_law_order_here","_law_found","_law_exchanged_rows","_law_by","_law_at","_law_one","_law_other","_law_spot","_law_line","_law_more","_law_longer"] ["_law_turn","_law_pot_here","_law_rows"] 1 [0,2] rfl rfl rfl (by decide +kernel)) rfl (by decide) (iX rfl T.z_range (ab ak ae rfl) rfl) (λ_ _ _ _ _=>(aX (au (i:=0) (show qaR (α:=Str) ["_law_turn","_law_pot_here","_law_rows"] by decide +kernel) rfl (.inl rfl)))) (λ_ _ _ _ _=>aY) (λ_ _ _ _ _=>(ax (bM T) (by decide) hr rfl T.m26 T.F26.kp T.b26 (ab (iv 1) (ab (bP (ca rfl) rfl T.z_len qaV (ab (iv 2) ae rfl) (by decide) (by decide) rfl rfl) ae rfl) rfl) (by decide) rfl rfl)) (λ_=>rfl))) (eh (aO (au (i:=10) aL.nd rfl (.inl rfl)) (aO (au (i:=11) aL.nd rfl (.inl rfl)) (aO (au (i:=12) aL.nd rfl (.inl rfl)) cM))) rfl rfl rfl rfl rfl) rfl rfl rfl) (aj (aF (i:=13) aL.nd rfl (.inl rfl) (dP (cQ rfl) rfl T.z_tuple qaF (ab (aI (cr (bV (ah aQ).names ["_law_pot_here","_law_case_here","_law_rows","_law_bounds","_law_gains_here","_law_order_here","_law_found","_law_exchanged_rows","_law_by","_law_at","_law_one","_law_other","_law_spot","_law_line","_law_more","_law_longer"] ["_law_here","_law_there"] 2 [] rfl rfl rfl (by decide +kernel)) rfl (by decide) (lO rfl T.z_zip (ab (av (iv 2) (iv 10) rfl rfl) (ab (av (iv 2) (iv 11) rfl rfl) ae rfl) rfl) rfl rfl rfl) (λ_ _ _ _ _=>(eh (aO (au (i:=0) (show qaR (α:=Str) ["_law_here","_law_there"] by decide +kernel) rfl (.inl rfl)) (aO (au (i:=1) (show qaR (α:=Str) ["_law_here","_law_there"] by decide +kernel) rfl (.inl rfl)) cM)) rfl rfl rfl rfl rfl)) (λ_ _ _ _ _=>aY) (λ_ _ _ _ _=>(aA (bn rfl) (iv 0) (iv 1))) (λ_=>rfl))) ae rfl) (by decide) (by decide) rfl rfl) rfl (.inl rfl)) (aj (aF (i:=14) aL.nd rfl (.inl rfl) (aA (bn rfl) (aA (bn rfl) (lS (iv 3) ig (hZ (iv 12)) rfl) (bS (ab (aA (bn rfl) (av (iv 3) (iv 10) rfl rfl) (av (iv 3) (iv 11) rfl rfl)) ae rfl))) (lS (iv 3) (hZ (iv 12)) ig rfl)) rfl (.inl rfl)) (aj (fF (dA (iv 6) (ab (bS (ab (aA (bn rfl) (aA (bn rfl) (lS (iv 2) ig (hZ (iv 12)) rfl) (bS (ab (iv 13) ae rfl))) (lS (iv 2) (hZ (iv 12)) ig rfl)) (ab (iv 14) (ab (iv 4) (ab ak ae rfl) rfl) rfl) rfl)) ae rfl) rfl rfl (by decide) rfl rfl) rfl) (aj (aF (i:=15) aL.nd rfl (.inl rfl) (dP (cQ rfl) rfl T.z_tuple qaF (ab (aI (cr (bV (ah aQ).names ["_law_pot_here","_law_case_here","_law_rows","_law_bounds","_law_gains_here","_law_order_here","_law_found","_law_exchanged_rows","_law_by","_law_at","_law_one","_law_other","_law_spot","_law_line","_law_more","_law_longer"] ["_law_number","_law_by"] 1 [8] rfl rfl rfl (by decide +kernel)) rfl (by decide) (bT (av (iv 2) (iv 10) rfl rfl) rfl) (λ_ _ _ _ _=>(aX (au (i:=0) (show qaR (α:=Str) ["_law_number","_law_by"] by decide +kernel) rfl (.inl rfl)))) (λ_ _ _ _ _=>aY) (λ_ _ _ _ _=>(aA (bB rfl) (iv 1) (iv 0))) (λ_=>rfl))) ae rfl) (by decide) (by decide) rfl rfl) rfl (.inl rfl)) (aj (aF (i:=14) aL.nd rfl (.inl rfl) (aA (bn rfl) (aA (bn rfl) (lS (iv 3) ig (hZ (iv 10)) rfl) (bS (ab (aA (bB rfl) (iv 8) (av (iv 3) (iv 10) rfl rfl)) ae rfl))) (lS (iv 3) (hZ (aA (bn rfl) (iv 10) ak)) ig rfl)) rfl (.inl rfl)) (aj (fF (dA (iv 6) (ab (bS (ab (aA (bn rfl) (aA (bn rfl) (lS (iv 2) ig (hZ (iv 10)) rfl) (bS (ab (iv 15) ae rfl))) (lS (iv 2) (hZ (aA (bn rfl) (iv 10) ak)) ig rfl)) (ab (iv 14) (ab (iv 4) (ab ak ae rfl) rfl) rfl) rfl)) ae rfl) rfl rfl (by decide) rfl rfl) rfl) (aq (fF (dA (iv 6) (ab (bS (ab (aA (bn rfl) (iv 2) (bS (ab (av (iv 2) (iv 10) rfl rfl) ae rfl))) (ab (aA (bn rfl) (iv 3) (bS (ab (av (iv 3) (iv 10) rfl rfl) ae rfl))) (ab (iv 4) (ab ak ae rfl) rfl) rfl) rfl)) ae rfl) rfl rfl (by decide) rfl rfl) rfl))))))))) bo) (aq (aN (iv 6)))))))))))))))
theorem nO (T:Txt K mg t):bW P w K mg base CX0 3 t.f30 t.g30 ["_law_pot_here","_law_case_here"] (spI K iD):=
 oM (N:=["_law_pot_here","_law_case_here","_law_rows","_law_bounds","_law_gains_here","_law_order_here","_law_found","_law_exchanged_rows","_law_by","_law_at","_law_one","_law_other","_law_spot","_law_line","_law_more","_law_longer"]) (b:=cY) T.F30 aL (lm T)
theorem mq (T:Txt K mg t):Bdy P w K mg base 1 ["_law_case_here","_law_told"] "_law_gains" cR t.f31 eP:=
 λ_ _ _ _ _ _ hr=>(aq (aN (vG (bC (lR hr rfl) (av (iv 1) ak rfl rfl) nD (aZ _)) dL (bS (ab (ax (rq T) (by decide) hr rfl T.m28 T.F28.kp T.b28 (ab (av (iv 0) ak rfl rfl) (ab (av (iv 1) ak rfl rfl) ae rfl) rfl) (by decide) rfl rfl) (ab (av (iv 1) ak rfl rfl) ae rfl) rfl)))))
theorem iz (T:Txt K mg t):bW P w K mg base CX0 2 t.f31 t.g31 ["_law_case_here","_law_told"] (spI K du):=
 gf (N:=["_law_case_here","_law_told"]) (b:=eP) T.F31 oI (mq T)
theorem my (T:Txt K mg t):Bdy P w K mg base 0 ["_law_one","_law_other","_law_by"] "_law_alike" cS t.f32 gi:=
 λ_ _ _ _ _ _ hr=>(aj (cu (jb (jc (bC iu (iv 0) dL (aZ _)) (ik (bC iu (iv 1) dL (aZ _))))) (aq (aN (lQ (fo iu (iv 0) dL (aZ _)) (lv (fo iu (iv 1) dL (aZ _)))))) bo) (aq (aN (fo (lR hr rfl) (aA (bB rfl) (aA (bB rfl) (iv 2) (av (iv 0) ak rfl rfl)) (av (iv 1) ak rfl rfl)) (aA (bB rfl) (av (iv 1) ak rfl rfl) (av (iv 0) ak rfl rfl)) (aZ _)))))
theorem kh (T:Txt K mg t):bW P w K mg base CX0 1 t.f32 t.g32 ["_law_one","_law_other","_law_by"] (spI K gm):=
 gf (N:=["_law_one","_law_other","_law_by"]) (b:=gi) T.F32 oA (my T)
theorem oF (T:Txt K mg t):Bdy P w K mg base 0 ["_law_one","_law_other"] "_law_sum" en t.f33 iU:=
 λ_ _ _ _ _ _ hr=>(aj (cu (jb (jc (bC iu (iv 0) dL (aZ _)) (ik (bC iu (iv 1) dL (aZ _))))) (aq (aN dL)) bo) (aq (aN (bS (ab (aA (bn rfl) (aA (bB rfl) (av (iv 0) ak rfl rfl) (av (iv 1) ak rfl rfl)) (aA (bB rfl) (av (iv 1) ak rfl rfl) (av (iv 0) ak rfl rfl))) (ab (aA (bB rfl) (av (iv 0) ak rfl rfl) (av (iv 1) ak rfl rfl)) ae rfl) rfl)))))
theorem rR (T:Txt K mg t):bW P w K mg base CX0 1 t.f33 t.g33 ["_law_one","_law_other"] (spI K kA):=
 gf (N:=["_law_one","_law_other"]) (b:=iU) T.F33 sI (oF T)
theorem xY (T:Txt K mg t):Bdy P w K mg base 4 ["_law_script","_law_k","_law_pot_here","_law_cases","_law_due","_law_rows","_law_bounds","_law_gains_here","_law_by","_law_told","_law_one","_law_other","_law_both"] "law" ke t.f34 uI:=
 λ_ _ _ _ _ _ hr=>(aj (gB (iX rfl T.z_range (ab (aA (bn rfl) ak (bP (Ag rfl) rfl T.z_min qhN (ab ak (ab (bP (ca rfl) rfl T.z_len qaV (ab (iv 0) ae rfl) (by decide) (by decide) rfl rfl) ae rfl) rfl) (by decide) (by decide) rfl rfl)) ae rfl) rfl) (aX (au (i:=1) eY.nd rfl (.inl rfl))) (aj (aF (i:=2) eY.nd rfl (.inl rfl) (ax (sK T) (by decide) hr rfl T.m25 T.F25.kp T.b25 (ab (iv 0) (ab (iv 1) ae rfl) rfl) (by decide) rfl rfl) rfl (.inl rfl)) (aj (aF (i:=3) eY.nd rfl (.inl rfl) (aI (dJ (ab (ax (le T) (by decide) hr rfl T.m27 T.F27.kp T.b27 (ab (iv 2) ae rfl) (by decide) rfl rfl) (ab (ax (le T) (by decide) hr rfl T.m27 T.F27.kp T.b27 (ab (iv 2) ae rfl) (by decide) rfl rfl) ae rfl) rfl))) rfl (.inl rfl)) (aj (qg5 (uJ (i0:=4) eY.nd rfl (.inl rfl) (bV (ah ke).names ["_law_script","_law_k","_law_pot_here","_law_cases","_law_due","_law_rows","_law_bounds","_law_gains_here","_law_by","_law_told","_law_one","_law_other","_law_both"] ["_law_case_here"] 1 [] rfl rfl rfl (by decide +kernel)) rfl (by decide) (bT (iv 3) rfl) (λ_ _ _ _ _=>(aX (au (i:=0) (show qaR (α:=Str) ["_law_case_here"] by decide +kernel) rfl (.inl rfl)))) (λ_ _ _ _ _=>aY) (λ_ _ _ _ _=>(ax (iz T) (by decide) hr rfl T.m31 T.F31.kp T.b31 (ab (iv 0) (ab (ax (kv T) (by decide) hr rfl T.m18 T.F18.kp T.b18 (ab (av (iv 0) ak rfl rfl) (ab (av (iv 0) ak rfl rfl) (ab (av (iv 0) ak rfl rfl) ae rfl) rfl) rfl) (by decide) rfl rfl) ae rfl) rfl) (by decide) rfl rfl)) rfl (.inl rfl) (λ_=>rfl))) (aj (gB (bT (ax (nO T) (by decide) hr rfl T.m30 T.F30.kp T.b30 (ab (iv 2) (ab (av (iv 3) ak rfl rfl) ae rfl) rfl) (by decide) rfl rfl) rfl) (eh (aO (au (i:=5) eY.nd rfl (.inl rfl)) (aO (au (i:=6) eY.nd rfl (.inl rfl)) (aO (au (i:=7) eY.nd rfl (.inl rfl)) (aO (au (i:=8) eY.nd rfl (.inl rfl)) cM)))) rfl rfl rfl rfl rfl) (aj (aF (i:=9) eY.nd rfl (.inl rfl) (ax (kv T) (by decide) hr rfl T.m18 T.F18.kp T.b18 (ab (iv 5) (ab (iv 6) (ab (iv 7) ae rfl) rfl) rfl) (by decide) rfl rfl) rfl (.inl rfl)) (aj (cu (gM (eN (ax (kh T) (by decide) hr rfl T.m32 T.F32.kp T.b32 (ab (av (iv 4) ak rfl rfl) (ab (ax (iz T) (by decide) hr rfl T.m31 T.F31.kp T.b31 (ab (bS (ab (iv 5) (ab (iv 6) (ab (iv 7) ae rfl) rfl) rfl)) (ab (iv 9) ae rfl) rfl) (by decide) rfl rfl) (ab (iv 8) ae rfl) rfl) rfl) (by decide) rfl rfl) rfl rfl)) (aq (aN ji)) bo) (aq (cu (bC zu (ax (ot T) (by decide) hr rfl T.m24 T.F24.kp T.b24 (ab (iv 5) (ab (iv 6) (ab (iv 7) (ab (iv 9) ae rfl) rfl) rfl) rfl) (by decide) rfl rfl) ji (aZ _)) (aq (aN ji)) bo)))) qbq rfl (λ_=>rfl)) (aj (tJ (iv 3) (eh (aO (au (i:=10) eY.nd rfl (.inr rfl)) (aO (au (i:=11) eY.nd rfl (.inr rfl)) cM)) rfl rfl rfl rfl rfl) rfl rfl rfl) (aj (aF (i:=5) eY.nd rfl (.inl rfl) (aA (bn rfl) (aI (cr (bV (ah ke).names ["_law_script","_law_k","_law_pot_here","_law_cases","_law_due","_law_rows","_law_bounds","_law_gains_here","_law_by","_law_told","_law_one","_law_other","_law_both"] ["_law_row","_law_other"] 1 [11] rfl rfl rfl (by decide +kernel)) rfl (by decide) (bT (av (iv 10) ak rfl rfl) rfl) (λ_ _ _ _ _=>(aX (au (i:=0) (show qaR (α:=Str) ["_law_row","_law_other"] by decide +kernel) rfl (.inl rfl)))) (λ_ _ _ _ _=>aY) (λ_ _ _ _ _=>(aA (bn rfl) (iv 0) (aA (bB rfl) (bS (ab ak ae rfl)) (bP (ca rfl) rfl T.z_len qaV (ab (av (iv 1) ak rfl rfl) ae rfl) (by decide) (by decide) rfl rfl)))) (λ_=>rfl))) (aI (cr (bV (ah ke).names ["_law_script","_law_k","_law_pot_here","_law_cases","_law_due","_law_rows","_law_bounds","_law_gains_here","_law_by","_law_told","_law_one","_law_other","_law_both"] ["_law_row","_law_one"] 1 [10] rfl rfl rfl (by decide +kernel)) rfl (by decide) (bT (av (iv 11) ak rfl rfl) rfl) (λ_ _ _ _ _=>(aX (au (i:=0) (show qaR (α:=Str) ["_law_row","_law_one"] by decide +kernel) rfl (.inl rfl)))) (λ_ _ _ _ _=>aY) (λ_ _ _ _ _=>(aA (bn rfl) (aA (bB rfl) (bS (ab ak ae rfl)) (bP (ca rfl) rfl T.z_len qaV (ab (av (iv 1) ak rfl rfl) ae rfl) (by decide) (by decide) rfl rfl)) (iv 0))) (λ_=>rfl)))) rfl (.inl rfl)) (aj (aF (i:=12) eY.nd rfl (.inl rfl) (bS (ab (dP (cQ rfl) rfl T.z_tuple qaF (ab (iv 5) ae rfl) (by decide) (by decide) rfl rfl) (ab (aA (bn rfl) (av (iv 10) ak rfl rfl) (av (iv 11) ak rfl rfl)) (ab (aA (bn rfl) (av (iv 10) ak rfl rfl) (av (iv 11) ak rfl rfl)) ae rfl) rfl) rfl)) rfl (.inl rfl)) (aq (cu (gM (eN (ax (kh T) (by decide) hr rfl T.m32 T.F32.kp T.b32 (ab (ax (rR T) (by decide) hr rfl T.m33 T.F33.kp T.b33 (ab (av (iv 4) ak rfl rfl) (ab (av (iv 4) ak rfl rfl) ae rfl) rfl) (by decide) rfl rfl) (ab (ax (iz T) (by decide) hr rfl T.m31 T.F31.kp T.b31 (ab (iv 12) (ab (ax (kv T) (by decide) hr rfl T.m18 T.F18.kp T.b18 (ab (av (iv 12) ak rfl rfl) (ab (av (iv 12) ak rfl rfl) (ab (av (iv 12) ak rfl rfl) ae rfl) rfl) rfl) (by decide) rfl rfl) ae rfl) rfl) (by decide) rfl rfl) (ab ak ae rfl) rfl) rfl) (by decide) rfl rfl) rfl rfl)) (aq (aN ji)) bo))))))))) qbq rfl (λ_=>rfl)) (aq (aN ji)))
theorem BB (T:Txt K mg t):bW P w K mg base CX0 5 t.f34 t.g34 ["_law_script"] (spI K rJ):=
 oM (N:=["_law_script","_law_k","_law_pot_here","_law_cases","_law_due","_law_rows","_law_bounds","_law_gains_here","_law_by","_law_told","_law_one","_law_other","_law_both"]) (b:=uI) T.F34 eY (xY T)
end
end Own
end
namespace L2
open PySem
end L2
namespace L2
end L2
namespace L2
open PySem
def gO:Nat->List Int->Nat
 |g,[]=>g
 |g,n::ns=>gO (qeQ g n.natAbs) ns
theorem rg (n:Int):∀ (g:Nat) (ns:List Int),gO g (ns++[n])=qeQ (gO g ns) n.natAbs
 |g,[]=>rfl
 |g,m::ns=>rg n _ ns
theorem kS:∀ (g:Nat) (ns:List Int),gO g ns∣g/\∀ n∈ns,gO g ns∣n.natAbs
 |g,[]=>⟨Nat.dvd_refl _,λ_ h=>by cases h⟩
 |g,m::ns=>by
  have ih:=kS (qeQ g m.natAbs) ns
  refine⟨qgV ih.1 (Nat.gcd_dvd_left _ _),λn hn=>?_⟩
  rcases qaP.mp hn with rfl|hn
  ·exact qgV ih.1 (Nat.gcd_dvd_right _ _)
  ·exact ih.2 n hn
theorem xh {ns:List Int}{n:Int} (hn:n∈ns) (h0:n≠0):0<gO 0 ns/\gO 0 ns<=n.natAbs:=by
 have h:=(kS 0 ns).2 n hn
 have hp:0<n.natAbs:=by lia
 exact⟨Nat.pos_of_dvd_of_pos h hp,Nat.le_of_dvd hp h⟩
theorem ai {g:Sto->W->W->Option D}{a b:Ef}{env:Ev}{st s1 s2:Sto}{x y:W}{d:D} (ha:a env st=some (x,s1)) (hb:b env s1=some (y,s2)) (hg:g s2 x y=some d):iOp g a b env st=some (.d d,s2):=by
 simp only[iOp,ha,hb,hg,qaa,qaq]
theorem bG {g:Sto->W->W->Option D}{a b:Ef}{env:Ev}{st s1 s2:Sto}{x y:W}{k:Bool} (ha:a env st=some (x,s1)) (hb:b env s1=some (y,s2)) (hg:g s2 x y=some (.bl k)):bD g a b env st=some (k,s2):=by
 simp only[bD,ha,hb,hg,qaa,qV,qaq]
theorem aC {i:Nat}{f:Ef}{env:Ev}{st s:Sto}{w:W} (h:f env st=some (w,s)):aG (.nm i) f env st=some (.nx (env.set i (some w)) s):=by
 simp only[aG,h,qaa,eH,qaq]
theorem az {m:Fn}{a:Af}{env:Ev}{st s:Sto}{ws:List W}{r:W×Sto} (ha:a env st=some (ws,s)) (hm:m ws s=some r):ay m a env st=some r:=by
 simp only[ay,ha,hm,qaa]
theorem bi {g:Sto->List W->Option D}{a:Af}{env:Ev}{st s:Sto}{ws:List W}{d:D} (ha:a env st=some (ws,s)) (hm:g s ws=some d):iCB g a env st=some (.d d,s):=by
 simp only[iCB,ha,hm,qaa,qaq]
theorem ac {a:Ef}{b:Af}{env:Ev}{st s1 s2:Sto}{x:W}{y:List W} (ha:a env st=some (x,s1)) (hb:b env s1=some (y,s2)):aa a b env st=some (x::y,s2):=by
 simp only[aa,ha,hb,qaa,qaq]
theorem dz {fi:Lf}{g:Tg}{b:Sf}{env:Ev}{st s:Sto}{ds:List D}{r:Fl} (h:fi env st=some (ds,s)) (hf:eJ g b ds env s=some r):kq fi g b env st=some r:=by
 simp only[kq,h,hf,qaa]
theorem bF {f:Ef}{env:Ev}{st s:Sto}{w:W} (h:f env st=some (w,s)):bH f env st=some (.rt w s):=by
 simp only[bH,h,qaq]
theorem bQ {k:Nat}{js:List Nat}{fi:Lf}{g:Tg}{tt:Tf}{te:Ef}{env:Ev}{st s s2:Sto}{ds ys:List D} (h:fi env st=some (ds,s)) (hl:ds.length<=1000000) (hc:lcI g tt te (gQ k js env) ds s=some (ys,s2)):iLc k js fi g tt te env st=some (ys,s2):=by
 simp only[iLc,h,hc,hl,qaa,if_true]
theorem aK {a:Lf}{env:Ev}{st s:Sto}{ds:List D} (h:a env st=some (ds,s)):aD a env st=some (.d (.lst ds),s):=by
 simp only[aD,h,qaq]
theorem bj {n k:Nat}{b:Sf}{ws:List W}{st s:Sto}{w:W} (hl:ws.length=k) (h:b (ws.map some++qaB (n - k) none) st=some (.rt w s)):cT n k b ws st=some (w,s):=by
 simp only[cT,hl,if_true,h,qaa]
theorem lb {n k:Nat}{b:Sf}{ws:List W}{st s:Sto}{x:D} (hl:ws.length=k) (h:b (ws.map some++qaB (n - k) none) st=some (.rt (.d x) s)):iM n k b ws st=some (.d x,s.take st.length):=by
 simp only[iM,hl,if_true,h,qaa,tm]
end L2
namespace Sx
abbrev Vec:=Nat->Int
def sumN:Nat->(Nat->Int)->Int
 |0,_=>0
 |n+1,f=>sumN n f+f n
theorem sumN_congr {n:Nat}{f g:Nat->Int} (h:∀ k,k<n->f k=g k):sumN n f=sumN n g:=by
 induction n with
 |zero=>rfl
 |succ n ih=>rw[sumN,sumN,ih λk hk=>h k (by omega),h n (by omega)]
theorem sumN_add (n:Nat) (f g:Nat->Int):sumN n (λk=>f k+g k)=sumN n f+sumN n g:=by
 induction n with
 |zero=>rfl
 |succ n ih=>rw[sumN,sumN,sumN,ih];omega
theorem sumN_mul (n:Nat) (c:Int) (f:Nat->Int):sumN n (λk=>c*f k)=c*sumN n f:=by
 induction n with
 |zero=>simp[sumN]
 |succ n ih=>rw[sumN,sumN,ih,qbG]
theorem sumN_zero (n:Nat):sumN n (λ_=>0)=0:=by
 induction n with
 |zero=>rfl
 |succ n ih=>rw[sumN,ih];rfl
theorem sumN_single {n i:Nat} (hi:i<n) {f:Nat->Int} (h:∀ k,k<n->k≠i->f k=0):sumN n f=f i:=by
 induction n with
 |zero=>omega
 |succ n ih=>
  rw[sumN]
  by_cases e:i=n
  ·subst e
   rw[sumN_congr (g:=λ_=>0) λk hk=>h k (by omega) (by omega),sumN_zero];omega
  ·rw[ih (by omega) λk hk hne=>h k (by omega) hne,h n (by omega) (by omega)];omega
theorem sumN_pair {n i j:Nat} (hi:i<n) (hj:j<n) (hij:i≠j) {f:Nat->Int} (h:∀ k,k<n->k≠i->k≠j->f k=0):sumN n f=f i+f j:=by
 have e:sumN n f=sumN n (λk=>(if k=i then f i else 0)+(if k=j then f j else 0)):=by
  refine sumN_congr λk hk=>?_
  by_cases h1:k=i
  ·subst h1;rw[if_pos rfl,if_neg hij];omega
  ·by_cases h2:k=j
   ·subst h2;rw[if_neg h1,if_pos rfl];omega
   ·rw[if_neg h1,if_neg h2,h k hk h1 h2];rfl
 rw[e,sumN_add,sumN_single hi λk _ hne=>if_neg hne,sumN_single hj λk _ hne=>if_neg hne,if_pos rfl,if_pos rfl]
def skip (k j:Nat):Nat:=if j<k then j else j+1
def sg (k:Nat):Int:=if k%2=0 then 1 else -1
theorem sg_succ (k:Nat):sg (k+1)=- sg k:=by
 unfold sg
 by_cases h:k%2=0
 ·rw[if_pos h,if_neg (by omega)]
 ·rw[if_neg h,if_pos (by omega)];rfl
def det:Nat->(Nat->Vec)->Int
 |0,_=>1
 |m+1,C=>sumN (m+1) λk=>sg k*C k 0*det m (λj t=>C (skip k j) (t+1))
theorem det_congr:∀ (m:Nat) {C E:Nat->Vec},(∀ k t,k<m->t<m->C k t=E k t)->det m C=det m E:=by
 intro m
 induction m with
 |zero=>intros;rfl
 |succ m ih=>
  intro C E h
  rw[det,det]
  refine sumN_congr λk hk=>?_
  rw[h k 0 hk (by omega),ih (C:=λj t=>C (skip k j) (t+1)) (E:=λj t=>E (skip k j) (t+1)) λj t hj ht=>h (skip k j) (t+1) (by unfold skip;split<;>omega) (by omega)]
def upd (C:Nat->Vec) (i:Nat) (v:Vec):Nat->Vec:=λj=>if j=i then v else C j
theorem upd_same (C:Nat->Vec) (i:Nat) (v:Vec):upd C i v i=v:=if_pos rfl
theorem upd_ne {C:Nat->Vec}{i j:Nat}{v:Vec} (h:j≠i):upd C i v j=C j:=if_neg h
theorem upd_self (C:Nat->Vec) (i:Nat):upd C i (C i)=C:=by
 funext j
 by_cases h:j=i
 ·rw[h,upd_same]
 ·rw[upd_ne h]
theorem upd_upd (C:Nat->Vec) (i:Nat) (u v:Vec):upd (upd C i u) i v=upd C i v:=by
 funext j
 by_cases h:j=i
 ·rw[h,upd_same,upd_same]
 ·rw[upd_ne h,upd_ne h,upd_ne h]
theorem upd_comm {C:Nat->Vec}{i j:Nat}{u v:Vec} (h:i≠j):upd (upd C i u) j v=upd (upd C j v) i u:=by
 funext k
 by_cases h1:k=i
 ·subst h1;rw[upd_ne h,upd_same,upd_same]
 ·by_cases h2:k=j
  ·subst h2;rw[upd_same,upd_ne h1,upd_same]
  ·rw[upd_ne h2,upd_ne h1,upd_ne h1,upd_ne h2]
def unskip (k i:Nat):Nat:=if i<k then i else i - 1
theorem skip_upd {C:Nat->Vec}{k i:Nat}{v:Vec} (h:k≠i):(λj t=>upd C i v (skip k j) (t+1))=upd (λj t=>C (skip k j) (t+1)) (unskip k i) (λt=>v (t+1)):=by
 funext j t
 unfold upd skip unskip
 by_cases h1:j<k<;>by_cases h2:i<k<;>simp only[h1,h2,if_true,if_false]
 ·by_cases e:j=i
  ·rw[if_pos e,if_pos e]
  ·rw[if_neg e,if_neg e]
 ·rw[if_neg (by omega),if_neg (by omega)]
 ·rw[if_neg (by omega),if_neg (by omega)]
 ·by_cases e:j+1=i
  ·rw[if_pos e,if_pos (by omega)]
  ·rw[if_neg e,if_neg (by omega)]
theorem skip_self {C:Nat->Vec}{i:Nat}{v:Vec}:(λj t=>upd C i v (skip i j) (t+1))=λj t=>C (skip i j) (t+1):=by
 funext j t
 rw[upd_ne]
 unfold skip
 split<;>omega
theorem det_add:∀ (m:Nat) (C:Nat->Vec) (i:Nat) (u v:Vec),i<m->det m (upd C i λt=>u t+v t)=det m (upd C i u)+det m (upd C i v):=by
 intro m
 induction m with
 |zero=>intros;omega
 |succ m ih=>
  intro C i u v hi
  rw[det,det,det,<-sumN_add]
  refine sumN_congr λk hk=>?_
  by_cases e:k=i
  ·subst e
   rw[skip_self,skip_self,skip_self,upd_same,upd_same,upd_same,qbG,qdB]
  ·rw[skip_upd e,skip_upd e,skip_upd e,upd_ne e,upd_ne e,upd_ne e,ih _ _ (λt=>u (t+1)) (λt=>v (t+1)) (by unfold unskip;split<;>omega),qbG]
theorem det_mul:∀ (m:Nat) (C:Nat->Vec) (i:Nat) (c:Int) (u:Vec),i<m->det m (upd C i λt=>c*u t)=c*det m (upd C i u):=by
 intro m
 induction m with
 |zero=>intros;omega
 |succ m ih=>
  intro C i c u hi
  rw[det,det,<-sumN_mul]
  refine sumN_congr λk hk=>?_
  by_cases e:k=i
  ·subst e
   rw[skip_self,skip_self,upd_same,upd_same]
   rw[show sg k*(c*u 0)=c*(sg k*u 0) by rw[qao],qa0]
  ·rw[skip_upd e,skip_upd e,upd_ne e,upd_ne e,ih _ _ c (λt=>u (t+1)) (by unfold unskip;split<;>omega),qao]
theorem det_adj:∀ (m:Nat) (C:Nat->Vec) (i:Nat),i+1<m->C i=C (i+1)->det m C=0:=by
 intro m
 induction m with
 |zero=>intros;omega
 |succ m ih=>
  intro C i hi h
  rw[det,sumN_pair (i:=i) (j:=i+1) (by omega) (by omega) (by omega) λk hk h1 h2=>?_]
  ·have e:(λj t=>C (skip i j) (t+1))=λj t=>C (skip (i+1) j) (t+1):=by
    funext j t
    by_cases e:j=i
    ·subst e
     have a1:skip j j=j+1:=by unfold skip;rw[if_neg (by omega)]
     have a2:skip (j+1) j=j:=by unfold skip;rw[if_pos (by omega)]
     rw[a1,a2,h]
    ·have:skip i j=skip (i+1) j:=by
      unfold skip
      by_cases h1:j<i
      ·rw[if_pos h1,if_pos (by omega)]
      ·rw[if_neg h1,if_neg (by omega)]
     rw[this]
   rw[e,h,sg_succ]
   rw[<-qdB,<-qdB]
   rw[show sg i+-sg i=0 by omega]
   simp
  ·have hz:det m (λj t=>C (skip k j) (t+1))=0:=by
    by_cases hk':k<i
    ·refine ih _ (i - 1) (by omega) ?_
     funext t
     have a1:skip k (i - 1)=i:=by unfold skip;rw[if_neg (by omega)];omega
     have a2:skip k (i - 1+1)=i+1:=by unfold skip;rw[if_neg (by omega)];omega
     rw[a1,a2,h]
    ·refine ih _ i (by omega) ?_
     funext t
     have a1:skip k i=i:=by unfold skip;rw[if_pos (by omega)]
     have a2:skip k (i+1)=i+1:=by unfold skip;rw[if_pos (by omega)]
     rw[a1,a2,h]
   rw[hz,qa8]
theorem det_swap {m:Nat} (C:Nat->Vec) {i:Nat} (hi:i+1<m):det m (upd (upd C i (C (i+1))) (i+1) (C i))=- det m C:=by
 have key:∀ u v:Vec,det m (upd (upd C i u) (i+1) v)+det m (upd (upd C i v) (i+1) u)=0:=λu v=>by
  have h0:det m (upd (upd C i λt=>u t+v t) (i+1) λt=>u t+v t)=0:=det_adj m _ i hi (by rw[upd_ne (by omega),upd_same,upd_same])
  have hu:det m (upd (upd C i u) (i+1) u)=0:=det_adj m _ i hi (by rw[upd_ne (by omega),upd_same,upd_same])
  have hv:det m (upd (upd C i v) (i+1) v)=0:=det_adj m _ i hi (by rw[upd_ne (by omega),upd_same,upd_same])
  rw[det_add m _ (i+1) u v hi,upd_comm (by omega),upd_comm (v:=v) (by omega),det_add m _ i u v (by omega),det_add m _ i u v (by omega)]at h0
  rw[<-upd_comm (C:=C) (i:=i) (j:=i+1) (u:=u) (v:=u) (by omega),<-upd_comm (C:=C) (i:=i) (j:=i+1) (u:=v) (v:=u) (by omega),<-upd_comm (C:=C) (i:=i) (j:=i+1) (u:=u) (v:=v) (by omega),<-upd_comm (C:=C) (i:=i) (j:=i+1) (u:=v) (v:=v) (by omega),hu,hv]at h0
  omega
 have:=key (C i) (C (i+1))
 have e:upd (upd C i (C i)) (i+1) (C (i+1))=C:=by rw[upd_self,upd_self]
 rw[e]at this
 omega
theorem det_same {m:Nat}:∀ (d:Nat) (C:Nat->Vec) (i j:Nat),j=i+d+1->j<m->C i=C j->det m C=0:=by
 intro d
 induction d with
 |zero=>intro C i j hj hm h;subst hj;exact det_adj m C i hm h
 |succ d ih=>
  intro C i j hj hm h
  have hs:=det_swap (m:=m) C (i:=j - 1) (by omega)
  have e1:j - 1+1=j:=by omega
  rw[e1]at hs
  have:=ih (upd (upd C (j - 1) (C j)) j (C (j - 1))) i (j - 1) (by omega) (by omega) (by rw[upd_ne (by omega),upd_ne (by omega),upd_ne (by omega),upd_same,h])
  rw[this]at hs
  omega
theorem det_eq0 {m:Nat} (C:Nat->Vec) {i j:Nat} (hi:i<m) (hj:j<m) (hij:i≠j) (h:C i=C j):det m C=0:=by
 rcases Nat.lt_or_gt_of_ne hij with h1|h1
 ·exact det_same (j - i - 1) C i j (by omega) hj h
 ·exact det_same (i - j - 1) C j i (by omega) hi h.symm
theorem det_zero {m:Nat} (C:Nat->Vec) {i:Nat} (hi:i<m):det m (upd C i λ_=>0)=0:=by
 have:=det_mul m C i 0 (λ_=>0) hi
 simpa using this
theorem det_sum {m:Nat} (C:Nat->Vec) {i:Nat} (hi:i<m) (x:Nat->Int) (V:Nat->Vec):∀ n,det m (upd C i λt=>sumN n λk=>x k*V k t)=sumN n λk=>x k*det m (upd C i (V k)):=by
 intro n
 induction n with
 |zero=>exact det_zero C hi
 |succ n ih=>
  have e:(λt=>sumN (n+1) λk=>x k*V k t)=λt=>(sumN n λk=>x k*V k t)+x n*V n t:=rfl
  rw[e,det_add m C i _ _ hi,ih,det_mul m C i (x n) (V n) hi]
  rfl
theorem cramer {m:Nat} (B:Nat->Vec) (a:Vec) (p:Int) (x:Nat->Int) (h:∀ t,p*a t=sumN m λk=>x k*B k t) {i:Nat} (hi:i<m):p*det m (upd B i a)=x i*det m B:=by
 rw[<-det_mul m B i p a hi]
 have e:(λt=>p*a t)=λt=>sumN m λk=>x k*B k t:=funext h
 rw[e,det_sum B hi x B m,sumN_single hi λk hk hne=>?_,upd_self]
 rw[det_eq0 (upd B i (B k)) hi hk (qbu hne) (by rw[upd_same,upd_ne hne]),qa8]
theorem cramer2 {m:Nat} (B:Nat->Vec) (a b:Vec) (p:Int) (hp:p=det m B) (hp0:p≠0) (x y:Nat->Int) (hx:∀ t,p*a t=sumN m λk=>x k*B k t) (hy:∀ t,p*b t=sumN m λk=>y k*B k t) {i r:Nat} (hi:i<m) (hr:r<m) (hir:i≠r) :
  p*det m (upd (upd B r a) i b)=x r*y i - x i*y r:=by
 have h1:p*det m (upd (upd B r a) i b)=sumN m λk=>y k*det m (upd (upd B r a) i (B k)):=by
  rw[<-det_mul m _ i p b hi]
  have e:(λt=>p*b t)=λt=>sumN m λk=>y k*B k t:=funext hy
  rw[e,det_sum _ hi y B m]
 rw[h1,sumN_pair hi hr hir λk hk h2 h3=>?_]
 ·have e1:upd (upd B r a) i (B i)=upd B r a:=by
   have:(upd B r a) i=B i:=upd_ne hir
   rw[<-this,upd_self]
  have e2:p*det m (upd B r a)=x r*p:=by rw[cramer B a p x hx hr,<-hp]
  have e3:p*det m (upd (upd B r a) i (B r))=- (x i*p):=by
   have hc:upd (upd B r a) i (B r)=upd (upd B i (B r)) r a:=upd_comm (qbu hir)
   rw[hc,<-det_mul m _ r p a hr]
   have e:(λt=>p*a t)=λt=>sumN m λk=>x k*B k t:=funext hx
   rw[e,det_sum _ hr x B m,sumN_single hi λk hk hne=>?_]
   ·-- columns i and r exchanged
    have hsw:det m (upd (upd B i (B r)) r (B i))=- det m B:=by
     have key:∀ u v:Vec,det m (upd (upd B i u) r v)+det m (upd (upd B i v) r u)=0:=λu v=>by
      have z:∀ w:Vec,det m (upd (upd B i w) r w)=0:=λw=>det_eq0 _ hi hr hir (by rw[upd_ne hir,upd_same,upd_same])
      have h0:=z λt=>u t+v t
      rw[det_add m _ r u v hr,upd_comm hir,upd_comm (v:=v) hir,det_add m _ i u v hi,det_add m _ i u v hi]at h0
      rw[<-upd_comm (C:=B) (i:=i) (j:=r) (u:=u) (v:=u) hir,<-upd_comm (C:=B) (i:=i) (j:=r) (u:=v) (v:=u) hir,<-upd_comm (C:=B) (i:=i) (j:=r) (u:=u) (v:=v) hir,<-upd_comm (C:=B) (i:=i) (j:=r) (u:=v) (v:=v) hir,z u,z v]at h0
      omega
     have:=key (B i) (B r)
     rw[show upd (upd B i (B i)) r (B r)=B by rw[upd_self,upd_self]]at this
     omega
    rw[hsw,<-hp,qfW]
   ·by_cases hkr:k=r
    ·subst hkr
     rw[det_eq0 _ hi hr hir (by rw[upd_ne hir,upd_same,upd_same]),qa8]
    ·rw[det_eq0 (upd (upd B i (B r)) r (B k)) hr hk (qbu hkr) (by rw[upd_same,upd_ne hkr,upd_ne hne]),qa8]
  rw[e1]
  have:p*(y i*det m (upd B r a)+y r*det m (upd (upd B r a) i (B r)))=p*(x r*y i - x i*y r):=by
   rw[qbG,qao,e2,qao p (y r),e3,qcS,qfW]
   rw[show y i*(x r*p)=p*(x r*y i) by rw[qaC (y i),qbb,qaC]]
   rw[show y r*(x i*p)=p*(x i*y r) by rw[qaC (y r),qa0,qaC p (y r),<-qa0,qaC (x i*y r) p]]
   omega
  exact qdq hp0 this
 ·rw[det_eq0 (upd (upd B r a) i (B k)) hi hk (qbu h2) (by rw[upd_same,upd_ne h2,upd_ne h3]),qa8]
def unit (k:Nat):Vec:=λt=>if t=k then 1 else 0
theorem det_unit:∀ m,det m unit=1:=by
 intro m
 induction m with
 |zero=>rfl
 |succ m ih=>
  rw[det,sumN_single (i:=0) (by omega) λk hk hne=>by rw[show unit k 0=0 by unfold unit;rw[if_neg (by omega)]];simp]
  have e:(λj t=>unit (skip 0 j) (t+1))=unit:=by
   funext j t
   unfold unit skip
   rw[if_neg (by omega:¬ j<0)]
   by_cases h:t=j
   ·rw[if_pos (by omega),if_pos h]
   ·rw[if_neg (by omega),if_neg h]
  rw[e,ih]
  rfl
structure Pb where
 m:Nat
 n:Nat
 A:Nat->Vec
 b:Vec
 g:Nat->Int
structure Tb where
 p:Int
 kept:Nat->Nat
 free:Nat->Nat
 T:Nat->Nat->Int
 G:Nat->Int
variable (P:Pb)
def colV (S:Tb) (c:Nat):Vec:=if c<P.n then P.A (S.free c) else P.b
def gainC (S:Tb) (c:Nat):Int:=if c<P.n then P.g (S.free c) else 0
def basis (S:Tb):Nat->Vec:=λi=>P.A (S.kept i)
structure Good (S:Tb):Prop where
 pos:0<S.p
 dt:S.p=det P.m (basis P S)
 eq:∀ c,c<=P.n->∀ t,S.p*colV P S c t=sumN P.m λi=>S.T i c*P.A (S.kept i) t
 goal:∀ c,c<=P.n->S.G c=(sumN P.m λi=>P.g (S.kept i)*S.T i c) - S.p*gainC P S c
def piv (S:Tb) (r e:Nat):Tb where
 p:=S.T r e
 kept:=λi=>if i=r then S.free e else S.kept i
 free:=λc=>if c=e then S.kept r else S.free c
 T:=λi c=>if i=r then (if c=e then S.p else S.T r c) else (if c=e then - S.T i e else (S.T r e*S.T i c - S.T i e*S.T r c) / S.p)
 G:=λc=>if c=e then - S.G e else (S.T r e*S.G c - S.G e*S.T r c) / S.p
variable {P}
theorem Good.entry {S:Tb} (h:Good P S) {c i:Nat} (hc:c<=P.n) (hi:i<P.m):S.T i c=det P.m (upd (basis P S) i (colV P S c)):=by
 have:=cramer (basis P S) (colV P S c) S.p (λk=>S.T k c) (λt=>h.eq c hc t) hi
 rw[<-h.dt,qaC]at this
 exact (qeW (by have:=h.pos;omega) this).symm
theorem Good.whole {S:Tb} (h:Good P S) {r e c i:Nat} (he:e<=P.n) (hc:c<=P.n) (hi:i<P.m) (hr:r<P.m) (hir:i≠r):∃ d,S.T r e*S.T i c - S.T i e*S.T r c=S.p*d:=
 ⟨_,(cramer2 (basis P S) (colV P S e) (colV P S c) S.p h.dt (by have:=h.pos;omega) (λk=>S.T k e) (λk=>S.T k c) (λt=>h.eq e he t) (λt=>h.eq c hc t) hi hr hir).symm⟩
theorem ediv_of {p a d:Int} (hp:0<p) (h:a=p*d):p*(a / p)=a:=by
 rw[h,qe7 _ (by omega)]
theorem piv_T {S:Tb} (h:Good P S) {r e c i:Nat} (he:e<=P.n) (hc:c<=P.n) (hi:i<P.m) (hr:r<P.m) (hir:i≠r) (hce:c≠e):S.p*(piv S r e).T i c=S.T r e*S.T i c - S.T i e*S.T r c:=by
 obtain⟨d,hd⟩:=h.whole (c:=c) he hc hi hr hir
 show S.p*(if i=r then _ else (if c=e then _ else _))=_
 rw[if_neg hir,if_neg hce]
 exact ediv_of h.pos hd
theorem sumN_split {n r:Nat} (hr:r<n) (f:Nat->Int):sumN n f=f r+sumN n (λk=>if k=r then 0 else f k):=by
 have e:sumN n f=sumN n (λk=>(if k=r then f r else 0)+(if k=r then 0 else f k)):=by
  refine sumN_congr λk hk=>?_
  by_cases h:k=r
  ·rw[if_pos h,if_pos h,h];omega
  ·rw[if_neg h,if_neg h];omega
 rw[e,sumN_add,sumN_single hr λk _ hne=>if_neg hne,if_pos rfl]
theorem sumN_sub (n:Nat) (f g:Nat->Int):sumN n (λk=>f k - g k)=sumN n f - sumN n g:=by
 induction n with
 |zero=>rfl
 |succ n ih=>rw[sumN,sumN,sumN,ih];omega
theorem piv_eq {S:Tb} (h:Good P S) {r e:Nat} (he:e<P.n) (hr:r<P.m):∀ c,c<=P.n->∀ t,(piv S r e).p*colV P (piv S r e) c t=sumN P.m λi=>(piv S r e).T i c*P.A ((piv S r e).kept i) t:=by
 intro c hc t
 have hp:=h.pos
 have hE:=h.eq e (by omega) t
 have hcE:colV P S e=P.A (S.free e):=if_pos he
 rw[hcE,sumN_split hr]at hE
 have kr:(piv S r e).kept r=S.free e:=if_pos rfl
 have kn:∀ i,i≠r->(piv S r e).kept i=S.kept i:=λi hi=>if_neg hi
 rw[sumN_split hr,kr]
 by_cases hce:c=e
 ·subst hce
  have c1:colV P (piv S r c) c=P.A (S.kept r):=by
   unfold colV;rw[if_pos he];show P.A (if c=c then _ else _)=_;rw[if_pos rfl]
  have t1:(piv S r c).T r c=S.p:=by show (if r=r then (if c=c then _ else _) else _)=_;rw[if_pos rfl,if_pos rfl]
  have t2:(sumN P.m λk=>if k=r then 0 else (piv S r c).T k c*P.A ((piv S r c).kept k) t)=- sumN P.m λk=>if k=r then 0 else S.T k c*P.A (S.kept k) t:=by
   have:(sumN P.m λk=>if k=r then 0 else (piv S r c).T k c*P.A ((piv S r c).kept k) t)=sumN P.m λk=>(-1)*(if k=r then 0 else S.T k c*P.A (S.kept k) t):=by
    refine sumN_congr λk hk=>?_
    by_cases hk':k=r
    ·rw[if_pos hk',if_pos hk'];rfl
    ·rw[if_neg hk',if_neg hk',kn k hk']
     show (if k=r then _ else (if c=c then - S.T k c else _))*_=_
     rw[if_neg hk',if_pos rfl,qc6,qc6,qaT]
   rw[this,sumN_mul];omega
  rw[c1,t1,t2]
  show S.T r c*P.A (S.kept r) t=_
  omega
 ·have c1:colV P (piv S r e) c=colV P S c:=by
   unfold colV
   by_cases hcn:c<P.n
   ·rw[if_pos hcn,if_pos hcn];show P.A (if c=e then _ else _)=_;rw[if_neg hce]
   ·rw[if_neg hcn,if_neg hcn]
  have t1:(piv S r e).T r c=S.T r c:=by show (if r=r then (if c=e then _ else _) else _)=_;rw[if_pos rfl,if_neg hce]
  have hC:=h.eq c hc t
  rw[sumN_split hr]at hC
  rw[c1,t1]
  refine qdq (a:=S.p) (by omega) ?_
  have t2:S.p*(sumN P.m λk=>if k=r then 0 else (piv S r e).T k c*P.A ((piv S r e).kept k) t)=(sumN P.m λk=>S.T r e*(if k=r then 0 else S.T k c*P.A (S.kept k) t)) - sumN P.m λk=>S.T r c*(if k=r then 0 else S.T k e*P.A (S.kept k) t):=by
   rw[<-sumN_mul,<-sumN_sub]
   refine sumN_congr λk hk=>?_
   by_cases hk':k=r
   ·rw[if_pos hk',if_pos hk',if_pos hk'];simp
   ·rw[if_neg hk',if_neg hk',if_neg hk',kn k hk',<-qa0,piv_T h (by omega) hc hk hr hk' hce,qfV]
    rw[qa0,qaC (S.T k e),qa0]
  rw[qbG,t2,sumN_mul,sumN_mul]
  show S.p*(S.T r e*colV P S c t)=_
  rw[qao,hC,<-qa0 S.p,qaC S.p (S.T r c),qa0,hE,qbG,qbG]
  generalize (sumN P.m λk=>if k=r then 0 else S.T k c*P.A (S.kept k) t)=X
  generalize (sumN P.m λk=>if k=r then 0 else S.T k e*P.A (S.kept k) t)=Y
  rw[show S.T r e*(S.T r c*P.A (S.kept r) t)=S.T r c*(S.T r e*P.A (S.kept r) t) by rw[qao]]
  omega
theorem piv_goal {S:Tb} (h:Good P S) {r e:Nat} (he:e<P.n) (hr:r<P.m):∀ c,c<=P.n->(piv S r e).G c=(sumN P.m λi=>P.g ((piv S r e).kept i)*(piv S r e).T i c) - (piv S r e).p*gainC P (piv S r e) c:=by
 intro c hc
 have hp:=h.pos
 have hE:=h.goal e (by omega)
 have gE:gainC P S e=P.g (S.free e):=if_pos he
 rw[gE,sumN_split hr]at hE
 have kr:(piv S r e).kept r=S.free e:=if_pos rfl
 have kn:∀ i,i≠r->(piv S r e).kept i=S.kept i:=λi hi=>if_neg hi
 rw[sumN_split hr,kr]
 by_cases hce:c=e
 ·subst hce
  have c1:gainC P (piv S r c) c=P.g (S.kept r):=by
   unfold gainC;rw[if_pos he];show P.g (if c=c then _ else _)=_;rw[if_pos rfl]
  have t1:(piv S r c).T r c=S.p:=by show (if r=r then (if c=c then _ else _) else _)=_;rw[if_pos rfl,if_pos rfl]
  have t2:(sumN P.m λk=>if k=r then 0 else P.g ((piv S r c).kept k)*(piv S r c).T k c)=- sumN P.m λk=>if k=r then 0 else P.g (S.kept k)*S.T k c:=by
   have:(sumN P.m λk=>if k=r then 0 else P.g ((piv S r c).kept k)*(piv S r c).T k c)=sumN P.m λk=>(-1)*(if k=r then 0 else P.g (S.kept k)*S.T k c):=by
    refine sumN_congr λk hk=>?_
    by_cases hk':k=r
    ·rw[if_pos hk',if_pos hk'];rfl
    ·rw[if_neg hk',if_neg hk',kn k hk']
     show _*(if k=r then _ else (if c=c then - S.T k c else _))=_
     rw[if_neg hk',if_pos rfl,qfW,qc6,qaT]
   rw[this,sumN_mul];omega
  rw[c1,t1,t2]
  show (if c=c then - S.G c else _)=_ - S.T r c*_
  rw[if_pos rfl,hE,qaC (S.T r c),qaC S.p]
  omega
 ·have c1:gainC P (piv S r e) c=gainC P S c:=by
   unfold gainC
   by_cases hcn:c<P.n
   ·rw[if_pos hcn,if_pos hcn];show P.g (if c=e then _ else _)=_;rw[if_neg hce]
   ·rw[if_neg hcn,if_neg hcn]
  have t1:(piv S r e).T r c=S.T r c:=by show (if r=r then (if c=e then _ else _) else _)=_;rw[if_pos rfl,if_neg hce]
  have hC:=h.goal c hc
  rw[sumN_split hr]at hC
  rw[c1,t1]
  have t2:S.p*(sumN P.m λk=>if k=r then 0 else P.g ((piv S r e).kept k)*(piv S r e).T k c)=(sumN P.m λk=>S.T r e*(if k=r then 0 else P.g (S.kept k)*S.T k c)) - sumN P.m λk=>S.T r c*(if k=r then 0 else P.g (S.kept k)*S.T k e):=by
   rw[<-sumN_mul,<-sumN_sub]
   refine sumN_congr λk hk=>?_
   by_cases hk':k=r
   ·rw[if_pos hk',if_pos hk',if_pos hk'];simp
   ·rw[if_neg hk',if_neg hk',if_neg hk',kn k hk',qao,piv_T h (by omega) hc hk hr hk' hce,qcS]
    rw[qao,qaC (S.T k e),qao (S.T r c)]
  rw[sumN_mul,sumN_mul]at t2
  have key:S.T r e*S.G c - S.G e*S.T r c=S.p*(P.g (S.free e)*S.T r c+(sumN P.m λk=>if k=r then 0 else P.g ((piv S r e).kept k)*(piv S r e).T k c) - S.T r e*gainC P S c):=by
   rw[qcS,qbG,t2,hC,hE]
   generalize (sumN P.m λk=>if k=r then 0 else P.g (S.kept k)*S.T k c)=X
   generalize (sumN P.m λk=>if k=r then 0 else P.g (S.kept k)*S.T k e)=Y
   rw[qcS,qbG,qfV,qdB]
   rw[show S.T r e*(P.g (S.kept r)*S.T r c)=P.g (S.kept r)*S.T r e*S.T r c by rw[qao,qa0]]
   rw[show S.T r e*(S.p*gainC P S c)=S.p*(S.T r e*gainC P S c) by rw[qao]]
   rw[show S.p*(P.g (S.free e)*S.T r c)=S.p*P.g (S.free e)*S.T r c by rw[qa0]]
   rw[qaC Y]
   omega
  show (if c=e then _ else (S.T r e*S.G c - S.G e*S.T r c) / S.p)=_
  rw[if_neg hce,key,qe7 _ (by omega)]
  rfl
theorem Good.piv {S:Tb} (h:Good P S) {r e:Nat} (he:e<P.n) (hr:r<P.m) (hq:0<S.T r e):Good P (piv S r e):=by
 refine⟨hq,?_,piv_eq h he hr,piv_goal h he hr⟩
 show S.T r e=_
 rw[h.entry (by omega) hr]
 refine congrArg _ ?_
 funext i
 unfold basis
 by_cases hi:i=r
 ·rw[hi,upd_same]
  show colV P S e=P.A (if r=r then _ else _)
  rw[if_pos rfl];exact if_pos he
 ·rw[upd_ne hi]
  show _=P.A (if i=r then _ else _)
  rw[if_neg hi]
end Sx
namespace Sx
def lexP (M:Nat) (v:Nat->Int):Prop:=∃ j,j<M/\0<v j/\∀ l,l<j->v l=0
theorem lexP_congr {M:Nat}{v w:Nat->Int} (h:∀ s,s<M->v s=w s) (hv:lexP M v):lexP M w:=by
 obtain⟨j,h1,h2,h3⟩:=hv
 exact⟨j,h1,by rw[<-h j h1];exact h2,λl hl=>by rw[<-h l (by omega)];exact h3 l hl⟩
theorem lexP_mul {M:Nat}{v:Nat->Int}{c:Int} (hc:0<c) (hv:lexP M v):lexP M λs=>c*v s:=by
 obtain⟨j,h1,h2,h3⟩:=hv
 exact⟨j,h1,qca hc h2,λl hl=>by show c*v l=0;rw[h3 l hl,qa8]⟩
theorem lexP_unmul {M:Nat}{v:Nat->Int}{c:Int} (hc:0<c) (hv:lexP M λs=>c*v s):lexP M v:=by
 obtain⟨j,h1,h2,h3⟩:=hv
 have h2':0<v j*c:=by rw[qaC];exact h2
 refine⟨j,h1,Int.pos_of_mul_pos_left h2' hc,λl hl=>?_⟩
 have:=h3 l hl
 rcases Int.mul_eq_zero.mp this with h|h
 ·omega
 ·exact h
theorem lexP_add {M:Nat}{v w:Nat->Int} (hv:lexP M v) (hw:lexP M w):lexP M λs=>v s+w s:=by
 obtain⟨j,h1,h2,h3⟩:=hv
 obtain⟨k,k1,k2,k3⟩:=hw
 rcases Nat.lt_trichotomy j k with h|h|h
 ·exact⟨j,h1,by show 0<v j+w j;rw[k3 j h];omega,λl hl=>by show v l+w l=0;rw[h3 l hl,k3 l (by omega)];rfl⟩
 ·subst h
  exact⟨j,h1,by show 0<v j+w j;omega,λl hl=>by show v l+w l=0;rw[h3 l hl,k3 l hl];rfl⟩
 ·exact⟨k,k1,by show 0<v k+w k;rw[h3 k h];omega,λl hl=>by show v l+w l=0;rw[h3 l (by omega),k3 l hl];rfl⟩
theorem lexP_addn {M:Nat}{v w:Nat->Int}{c:Int} (hc:0<=c) (hv:lexP M v) (hw:lexP M w):lexP M λs=>v s+c*w s:=by
 rcases qf6 hc with h|h
 ·exact lexP_add hv (lexP_mul h hw)
 ·subst h
  exact lexP_congr (λs _=>by rw[qbk,qck]) hv
theorem lexP_not0 {M:Nat}{v:Nat->Int} (h:∀ s,s<M->v s=0):¬ lexP M v:=λ⟨j,h1,h2,_⟩=>by rw[h j h1]at h2;omega
theorem lexP_first {M:Nat}{v:Nat->Int} (hM:0<M) (h:lexP M v):0<=v 0:=by
 obtain⟨j,h1,h2,h3⟩:=h
 rcases Nat.eq_zero_or_pos j with e|e
 ·subst e;omega
 ·rw[h3 0 e];exact qcA _
variable (P:Pb)
def XV (s:Nat):Vec:=if s=0 then P.b else unit (s - 1)
def LV (S:Tb) (i s:Nat):Int:=det P.m (upd (basis P S) i (XV P s))
def ZV (S:Tb) (s:Nat):Int:=sumN P.m λi=>P.g (S.kept i)*LV P S i s
structure Named (S:Tb):Prop where
 one:∀ r,r<P.m->P.A (P.n+r)=unit r
 all:∀ k,k<P.n+P.m->(∃ c,c<P.n/\S.free c=k)\/∃ i,i<P.m/\S.kept i=k
 bound:(∀ c,c<P.n->S.free c<P.n+P.m)/\∀ i,i<P.m->S.kept i<P.n+P.m
def Fe (S:Tb):Prop:=∀ i,i<P.m->lexP (P.m+1) (LV P S i)
variable {P}
theorem Good.rep_free {S:Tb} (h:Good P S) {c:Nat} (hc:c<=P.n) (t:Nat):S.p*colV P S c t=sumN P.m λi=>det P.m (upd (basis P S) i (colV P S c))*P.A (S.kept i) t:=by
 rw[h.eq c hc t]
 exact sumN_congr λi hi=>by rw[h.entry hc hi]
theorem det_kept {S:Tb} (h:Good P S) {i j:Nat} (hi:i<P.m) (hj:j<P.m):det P.m (upd (basis P S) i (basis P S j))=if i=j then S.p else 0:=by
 by_cases e:i=j
 ·subst e;rw[upd_self,if_pos rfl,h.dt]
 ·rw[if_neg e]
  exact det_eq0 _ hi hj e (by rw[upd_same,upd_ne (qbu e)])
theorem Good.rep_kept {S:Tb} (h:Good P S) {j:Nat} (hj:j<P.m) (t:Nat):S.p*P.A (S.kept j) t=sumN P.m λi=>det P.m (upd (basis P S) i (P.A (S.kept j)))*P.A (S.kept i) t:=by
 rw[sumN_single hj λi hi hne=>?_]
 ·have:=det_kept h hj hj
  rw[if_pos rfl]at this
  have e:det P.m (upd (basis P S) j (P.A (S.kept j)))=S.p:=this
  rw[e]
 ·have:=det_kept h hi hj
  rw[if_neg hne]at this
  have e:det P.m (upd (basis P S) i (P.A (S.kept j)))=0:=this
  rw[e,qbk]
theorem Good.rep {S:Tb} (h:Good P S) (hn:Named P S) {s:Nat} (hs:s<P.m+1) (t:Nat):S.p*XV P s t=sumN P.m λi=>LV P S i s*P.A (S.kept i) t:=by
 unfold LV
 by_cases h0:s=0
 ·subst h0
  have e:XV P 0=colV P S P.n:=by unfold XV colV;rw[if_pos rfl,if_neg (qa2 _)]
  rw[e]
  exact h.rep_free (qan _) t
 ·have e:XV P s=P.A (P.n+(s - 1)):=by unfold XV;rw[if_neg h0,hn.one (s - 1) (by omega)]
  rw[e]
  rcases hn.all (P.n+(s - 1)) (by omega) with⟨c,hc,hk⟩|⟨j,hj,hk⟩
  ·have e2:P.A (P.n+(s - 1))=colV P S c:=by unfold colV;rw[if_pos hc,hk]
   rw[e2]
   exact h.rep_free (by omega) t
  ·rw[<-hk]
   exact h.rep_kept hj t
theorem piv_basis {S:Tb}{r e:Nat} (he:e<P.n):basis P (piv S r e)=upd (basis P S) r (colV P S e):=by
 funext i
 unfold basis
 by_cases hi:i=r
 ·rw[hi,upd_same]
  show P.A (if r=r then _ else _)=colV P S e
  rw[if_pos rfl];exact (if_pos he).symm
 ·rw[upd_ne hi]
  show P.A (if i=r then _ else _)=_
  rw[if_neg hi]
theorem LV_r {S:Tb}{r e s:Nat} (he:e<P.n):LV P (piv S r e) r s=LV P S r s:=by
 unfold LV
 rw[piv_basis he,upd_upd]
theorem LV_i {S:Tb} (h:Good P S) (hn:Named P S) {r e s i:Nat} (he:e<P.n) (hs:s<P.m+1) (hi:i<P.m) (hr:r<P.m) (hir:i≠r):S.p*LV P (piv S r e) i s=S.T r e*LV P S i s - S.T i e*LV P S r s:=by
 unfold LV
 rw[piv_basis he]
 exact cramer2 (basis P S) (colV P S e) (XV P s) S.p h.dt (by have:=h.pos;omega) (λk=>S.T k e) (λk=>LV P S k s) (λt=>h.eq e (by omega) t) (λt=>h.rep hn hs t) hi hr hir
theorem ZV_piv {S:Tb} (h:Good P S) (hn:Named P S) {r e s:Nat} (he:e<P.n) (hs:s<P.m+1) (hr:r<P.m):S.p*ZV P (piv S r e) s=S.T r e*ZV P S s - S.G e*LV P S r s:=by
 have hE:=h.goal e (by omega)
 have gE:gainC P S e=P.g (S.free e):=if_pos he
 rw[gE,sumN_split hr]at hE
 unfold ZV
 have kr:(piv S r e).kept r=S.free e:=if_pos rfl
 have kn:∀ i,i≠r->(piv S r e).kept i=S.kept i:=λi hi=>if_neg hi
 rw[sumN_split hr,kr,LV_r he,qbG]
 have t2:S.p*(sumN P.m λk=>if k=r then 0 else P.g ((piv S r e).kept k)*LV P (piv S r e) k s)=(sumN P.m λk=>S.T r e*(if k=r then 0 else P.g (S.kept k)*LV P S k s)) - sumN P.m λk=>LV P S r s*(if k=r then 0 else P.g (S.kept k)*S.T k e):=by
  rw[<-sumN_mul,<-sumN_sub]
  refine sumN_congr λk hk=>?_
  by_cases hk':k=r
  ·rw[if_pos hk',if_pos hk',if_pos hk'];simp
  ·rw[if_neg hk',if_neg hk',if_neg hk',kn k hk',qao,LV_i h hn he hs hk hr hk',qcS]
   rw[qao,qaC (S.T k e),qao (LV P S r s)]
 rw[t2,sumN_mul,sumN_mul,sumN_split hr (λi=>P.g (S.kept i)*LV P S i s),hE]
 generalize (sumN P.m λk=>if k=r then 0 else P.g (S.kept k)*LV P S k s)=X
 generalize (sumN P.m λk=>if k=r then 0 else P.g (S.kept k)*S.T k e)=Y
 generalize LV P S r s=L
 rw[qfV,qdB,qbG]
 rw[show S.T r e*(P.g (S.kept r)*L)=P.g (S.kept r)*S.T r e*L by rw[qao,qa0]]
 rw[show S.p*(P.g (S.free e)*L)=S.p*P.g (S.free e)*L by rw[qa0]]
 rw[qaC Y]
 omega
def less (P:Pb) (S S':Tb):Prop:=lexP (P.m+1) λs=>S.p*ZV P S' s - S'.p*ZV P S s
theorem less_trans {S1 S2 S3:Tb} (h1:0<S1.p) (h2:0<S2.p) (h3:0<S3.p) (a:less P S1 S2) (b:less P S2 S3):less P S1 S3:=by
 refine lexP_unmul h2 (lexP_congr (λs _=>?_) (lexP_add (lexP_mul h1 b) (lexP_mul h3 a)))
 generalize ZV P S1 s=x
 generalize ZV P S2 s=y
 generalize ZV P S3 s=z
 rw[qcS,qcS,qcS]
 rw[show S1.p*(S3.p*y)=S3.p*(S1.p*y) by rw[qao],show S1.p*(S2.p*z)=S2.p*(S1.p*z) by rw[qao],show S3.p*(S2.p*x)=S2.p*(S3.p*x) by rw[qao]]
 omega
theorem same_kept {S S':Tb} (h:Good P S) (h':Good P S') (e:∀ i,i<P.m->S.kept i=S'.kept i):S.p=S'.p/\∀ s,ZV P S s=ZV P S' s:=by
 have hb:∀ i,i<P.m->basis P S i=basis P S' i:=λi hi=>by unfold basis;rw[e i hi]
 have hL:∀ i s,i<P.m->LV P S i s=LV P S' i s:=λi s hi=>by
  unfold LV
  refine det_congr P.m λk t hk _=>?_
  by_cases hki:k=i
  ·rw[hki,upd_same,upd_same]
  ·rw[upd_ne hki,upd_ne hki,hb k hk]
 refine⟨?_,λs=>?_⟩
 ·rw[h.dt,h'.dt]
  exact det_congr P.m λk t hk _=>by rw[hb k hk]
 ·unfold ZV
  exact sumN_congr λi hi=>by rw[e i hi,hL i s hi]
theorem less_kept {S S':Tb} (h:Good P S) (h':Good P S') (l:less P S S'):¬ ∀ i,i<P.m->S.kept i=S'.kept i:=λe=>by
 obtain⟨e1,e2⟩:=same_kept h h' e
 refine lexP_not0 (λs _=>?_) l
 rw[e1,e2 s];omega
theorem lines_unlike {S:Tb} (h:Good P S) (hA:∀ i,i<P.m->∀ t,P.m<=t->P.A (S.kept i) t=0) {i r:Nat} (hi:i<P.m) (hr:r<P.m) (hir:i≠r) {a b:Int} (ha:0<a) (hs:∀ s,s<P.m+1->a*LV P S i s=b*LV P S r s):False:=by
 have key:∀ k,k<P.m->det P.m (upd (basis P S) k (basis P S i))=sumN P.m λs=>basis P S i s*LV P S k (s+1):=λk hk=>by
  have e:basis P S i=λt=>sumN P.m λs=>basis P S i s*unit s t:=by
   funext t
   by_cases ht:t<P.m
   ·rw[sumN_single ht λs _ hne=>by unfold unit;rw[if_neg (qbu hne),qa8]]
    unfold unit
    rw[if_pos rfl,qd7]
   ·rw[sumN_congr (g:=λ_=>0) λs hs'=>by unfold unit;rw[if_neg (by omega),qa8],sumN_zero]
    exact hA i hi t (by omega)
  have e2:=det_sum (m:=P.m) (basis P S) hk (λs=>basis P S i s) unit P.m
  rw[<-e]at e2
  rw[e2]
  refine sumN_congr λs hs'=>?_
  unfold LV XV
  rw[if_neg (by omega),qbR]
 have k1:=key i hi
 have k2:=key r hr
 rw[det_kept h hi hi,if_pos rfl]at k1
 rw[det_kept h hr hi,if_neg (qbu hir)]at k2
 have:a*S.p=b*0:=by
  rw[k1,k2,<-sumN_mul,<-sumN_mul]
  refine sumN_congr λs hs'=>?_
  rw[qao,hs (s+1) (by omega),qao]
 have:=qca ha h.pos
 omega
theorem Named.piv {S:Tb} (hn:Named P S) {r e:Nat} (he:e<P.n) (hr:r<P.m):Named P (piv S r e):=by
 refine⟨hn.one,λk hk=>?_,λc hc=>?_,λi hi=>?_⟩
 ·rcases hn.all k hk with⟨c,hc,e1⟩|⟨i,hi,e1⟩
  ·by_cases hce:c=e
   ·subst hce;exact .inr ⟨r,hr,by show (if r=r then _ else _)=_;rw[if_pos rfl];exact e1⟩
   ·exact .inl ⟨c,hc,by show (if c=e then _ else _)=_;rw[if_neg hce];exact e1⟩
  ·by_cases hir:i=r
   ·subst hir;exact .inl ⟨e,he,by show (if e=e then _ else _)=_;rw[if_pos rfl];exact e1⟩
   ·exact .inr ⟨i,hi,by show (if i=r then _ else _)=_;rw[if_neg hir];exact e1⟩
 ·show (if c=e then _ else _)<_
  split
  ·exact hn.bound.2 r hr
  ·exact hn.bound.1 c hc
 ·show (if i=r then _ else _)<_
  split
  ·exact hn.bound.1 e he
  ·exact hn.bound.2 i hi
theorem step {S:Tb} (h:Good P S) (hn:Named P S) (hf:Fe P S) {r e:Nat} (he:e<P.n) (hr:r<P.m) (hq:0<S.T r e) (hg:S.G e<0)
  (hmin:∀ i,i<P.m->i≠r->0<S.T i e->lexP (P.m+1) λs=>S.T r e*LV P S i s - S.T i e*LV P S r s) :
  Good P (piv S r e)/\Named P (piv S r e)/\Fe P (piv S r e)/\less P S (piv S r e):=by
 refine⟨h.piv he hr hq,hn.piv he hr,λi hi=>?_,?_⟩
 ·by_cases hir:i=r
  ·subst hir
   exact lexP_congr (λs _=>(LV_r he).symm) (hf i hi)
  ·refine lexP_unmul h.pos (lexP_congr (λs hs=>(LV_i h hn he hs hi hr hir).symm) ?_)
   by_cases ht:0<S.T i e
   ·exact hmin i hi hir ht
   ·refine lexP_congr (λs _=>?_) (lexP_addn (c:=- S.T i e) (by omega) (lexP_mul hq (hf i hi)) (hf r hr))
    show S.T r e*LV P S i s+- S.T i e*LV P S r s=_
    rw[qc6];omega
 ·refine lexP_congr (λs hs=>?_) (lexP_mul (c:=- S.G e) (by omega) (hf r hr))
  show - S.G e*LV P S r s=S.p*ZV P (piv S r e) s - S.T r e*ZV P S s
  rw[ZV_piv h hn he hs hr,qc6];omega
theorem filt_len (N:Nat):∀ l:List Nat,(l.filter λx=>decide (x=N)).length+(l.filter λx=>decide (x≠N)).length=l.length
 |[]=>rfl
 |x::l=>by
  have ih:=filt_len N l
  by_cases h:x=N
  ·rw[qdu (by simpa using h),qdv (by simpa using h),qat,qat];omega
  ·rw[qdv (by simpa using h),qdu (by simpa using h),qat,qat];omega
theorem nodup_le:∀ (N:Nat) (l:List Nat),l.Nodup->(∀ x∈l,x<N)->l.length<=N:=by
 intro N
 induction N with
 |zero=>
  intro l _ h
  cases l with
  |nil=>exact qan _
  |cons x l=>exact absurd (h x qaf) (by omega)
 |succ N ih=>
  intro l hl h
  have h1:=ih (l.filter λx=>decide (x≠N)) (hl.filter _) λx hx=>by
   have:=qcH.mp hx
   have h2:=h x this.1
   have h3:x≠N:=by simpa using this.2
   omega
  have h2:(l.filter λx=>decide (x=N)).length<=1:=by
   have hn:=hl.filter λx=>decide (x=N)
   have hall:∀ x∈l.filter (λx=>decide (x=N)),x=N:=λx hx=>by simpa using (qcH.mp hx).2
   match l.filter (λx=>decide (x=N)),hn,hall with
   |[],_,_=>exact qb2 _
   |[x],_,_=>exact qan _
   |x::y::r,hn,hall=>
    have e1:=hall x qaf
    have e2:=hall y (qal _ qaf)
    exact absurd (e1.trans e2.symm) ((qfO.mp hn).1 y qaf)
  have h3:=filt_len N l
  omega
def code (b:Nat) (f:Nat->Nat):Nat->Nat
 |0=>0
 |m+1=>code b f m*b+f m
theorem code_lt {b:Nat}{f:Nat->Nat}:∀ {m:Nat},(∀ i,i<m->f i<b)->code b f m<b^m
 |0,_=>Nat.one_pos
 |m+1,h=>by
  have ih:=code_lt (m:=m) λi hi=>h i (by omega)
  have h1:=h m (by omega)
  rw[code,qhR]
  calc code b f m*b+f m<code b f m*b+b:=by omega
   _=(code b f m+1)*b:=by rw[qh5,qfN]
   _<=b^m*b:=qbS b ih
theorem code_inj {b:Nat}{f g:Nat->Nat}:∀ {m:Nat},(∀ i,i<m->f i<b)->(∀ i,i<m->g i<b)->code b f m=code b g m->∀ i,i<m->f i=g i
 |0,_,_,_,i,hi=>absurd hi (by omega)
 |m+1,hf,hg,e,i,hi=>by
  rw[code,code]at e
  have h1:=hf m (by omega)
  have h2:=hg m (by omega)
  have e1:f m=g m:=by
   have:=congrArg (·%b) e
   simp only[Nat.mul_add_mod_self_right]at this
   rw[qgo h1,qgo h2]at this
   exact this
  have e2:code b f m=code b g m:=by
   rw[e1]at e
   exact Nat.eq_of_mul_eq_mul_right (by omega:0<b) (by omega)
  by_cases him:i=m
  ·rw[him];exact e1
  ·exact code_inj (m:=m) (λi hi=>hf i (by omega)) (λi hi=>hg i (by omega)) e2 i (by omega)
end Sx
namespace Sx
def leastR (tops bots:Nat->Int):List Nat->List Nat->List Nat
 |[],least=>least
 |p::ps,[]=>leastR tops bots ps [p]
 |p::ps,l0::r=>if tops p*bots l0 > tops l0*bots p then leastR tops bots ps (l0::r) else if tops p*bots l0<tops l0*bots p then leastR tops bots ps [p] else leastR tops bots ps ((l0::r)++[p])
structure Least (tops bots:Nat->Int) (ps out:List Nat):Prop where
 ne:ps≠[]->out≠[]
 sub:∀ x∈out,x∈ps
 nd:ps.Nodup->out.Nodup
 eq:∀ x∈out,∀ y∈out,tops x*bots y=tops y*bots x
 lt:∀ x∈out,∀ y∈ps,y∉out->tops x*bots y<tops y*bots x
theorem ratio_lt {a b c p q r:Int} (hp:0<p) (hq:0<q) (hr:0<r) (h1:a*q<b*p) (h2:b*r<=c*q):a*r<c*p:=by
 have e1:a*q*r<b*p*r:=qc7 h1 hr
 have e2:b*r*p<=c*q*p:=qcW h2 (by omega)
 rw[qbb b p r]at e1
 have e3:a*r*q<c*p*q:=by rw[qbb a r q,qbb c p q];omega
 exact qde e3 (by omega)
theorem leastR_ok {tops bots:Nat->Int}:∀ (ps done least:List Nat),(∀ x∈done++ps,0<bots x)->(done++ps).Nodup->Least tops bots done least->Least tops bots (done++ps) (leastR tops bots ps least):=by
 intro ps
 induction ps with
 |nil=>intro done least _ _ h;rw[qbO];cases least<;>exact h
 |cons p ps ih=>
  intro done least hb hnd h
  have hp:0<bots p:=hb p (qav _ qaf)
  have hpd:p∉done:=λhm=>by
   rw[qcm]at hnd
   exact hnd.2.2 p hm p qaf rfl
  have e:done++p::ps=(done++[p])++ps:=by simp
  have hdn:done.Nodup:=(qcm.mp hnd).1
  rw[e]at hb hnd ⊢
  cases least with
  |nil=>
   have hd:done=[]:=by
    cases done with
    |nil=>rfl
    |cons x d=>exact absurd rfl (h.ne (by simp))
   subst hd
   rw[leastR]
   refine ih _ _ hb hnd ⟨λ_=>by simp,λx hx=>by simpa using hx,λ_=>by simp,λx hx y hy=>?_,λx hx y hy hn=>absurd (by simpa using hy) (by simpa using hn)⟩
   rw[qaj.mp hx,qaj.mp hy]
  |cons l0 r=>
   have hl0:l0∈l0::r:=qaf
   have hl0d:=h.sub l0 hl0
   have hb0:0<bots l0:=hb l0 (qa1 _ (qa1 _ hl0d))
   have hbd:∀ y∈done,0<bots y:=λy hy=>hb y (qa1 _ (qa1 _ hy))
   rw[leastR]
   by_cases c1:tops p*bots l0 > tops l0*bots p
   ·rw[if_pos c1]
    refine ih _ _ hb hnd ⟨λ_=>by simp,λx hx=>qa1 _ (h.sub x hx),λ_=>h.nd hdn,h.eq,λx hx y hy hn=>?_⟩
    rcases qaM.mp hy with hy|hy
    ·exact h.lt x hx y hy hn
    ·rw[qaj.mp hy]
     have hx0:=h.eq l0 hl0 x hx
     have hxb:0<bots x:=hbd x (h.sub x hx)
     -- x is as l0,l0 is below p
     exact Int.lt_of_lt_of_le (by
      have e1:tops x*bots l0*bots p=tops l0*bots p*bots x:=by rw[<-hx0,qbb]
      have e2:tops l0*bots p*bots x<tops p*bots l0*bots x:=qc7 c1 hxb
      have e3:tops x*bots p*bots l0<tops p*bots x*bots l0:=by rw[qbb,e1,qbb (tops p)];exact e2
      exact qde e3 (by omega)) (qcA _)
   ·rw[if_neg c1]
    by_cases c2:tops p*bots l0<tops l0*bots p
    ·rw[if_pos c2]
     refine ih _ _ hb hnd ⟨λ_=>by simp,λx hx=>by rw[qaj.mp hx];simp,λ_=>by simp,λx hx y hy=>by rw[qaj.mp hx,qaj.mp hy],λx hx y hy hn=>?_⟩
     rw[qaj.mp hx]
     rcases qaM.mp hy with hy|hy
     ·have hyb:=hbd y hy
      have hle:tops l0*bots y<=tops y*bots l0:=by
       by_cases hm:y∈l0::r
       ·exact qhW (h.eq l0 hl0 y hm)
       ·exact Int.le_of_lt (h.lt l0 hl0 y hy hm)
      exact ratio_lt hp hb0 hyb c2 hle
     ·exact absurd (by simpa using hy) (by simpa using hn)
    ·rw[if_neg c2]
     have ceq:tops p*bots l0=tops l0*bots p:=by omega
     have hpx:∀ x∈l0::r,tops p*bots x=tops x*bots p:=λx hx=>by
      have hx0:=h.eq l0 hl0 x hx
      have hxb:0<bots x:=hbd x (h.sub x hx)
      have e1:tops p*bots x*bots l0=tops x*bots p*bots l0:=by
       rw[qbb,ceq,qbb,hx0,qbb]
      exact qeW (by omega) e1
     refine ih _ _ hb hnd ⟨λ_=>by simp,λx hx=>?_,λ_=>?_,λx hx y hy=>?_,λx hx y hy hn=>?_⟩
     ·rcases qaM.mp hx with hx|hx
      ·exact qa1 _ (h.sub x hx)
      ·exact qav _ hx
     ·rw[qcm]
      refine⟨h.nd hdn,by simp,λx hx y hy e=>?_⟩
      rw[qaj.mp hy]at e
      rw[e]at hx
      exact hpd (h.sub p hx)
     ·rcases qaM.mp hx with hx|hx<;>rcases qaM.mp hy with hy|hy
      ·exact h.eq x hx y hy
      ·rw[qaj.mp hy];exact (hpx x hx).symm
      ·rw[qaj.mp hx];exact hpx y hy
      ·rw[qaj.mp hx,qaj.mp hy]
     ·have hyd:y∈done:=by
       rcases qaM.mp hy with hy|hy
       ·exact hy
       ·exact absurd (qav _ hy) hn
      have hyn:y∉l0::r:=λhm=>hn (qa1 _ hm)
      rcases qaM.mp hx with hx|hx
      ·exact h.lt x hx y hyd hyn
      ·rw[qaj.mp hx]
       have hl:=h.lt l0 hl0 y hyd hyn
       have hyb:=hbd y hyd
       have e1:tops p*bots y*bots l0<tops y*bots p*bots l0:=by
        rw[qbb,ceq,qbb (tops l0),qbb (tops y)]
        exact qc7 hl hp
       exact qde e1 (by omega)
theorem least_of {tops bots:Nat->Int}{ps:List Nat} (hb:∀ x∈ps,0<bots x) (hnd:ps.Nodup):Least tops bots ps (leastR tops bots ps []):=by
 have:=leastR_ok (tops:=tops) (bots:=bots) ps [] [] (by simpa using hb) (by simpa using hnd) ⟨λh=>absurd rfl h,λx hx=>(nomatch hx),λ_=>qdk,λx hx=>(nomatch hx),λx hx=>(nomatch hx)⟩
 simpa using this
def leaveL (W:Nat->Nat->Int) (bots:Nat->Int):List Nat->List Nat->List Nat
 |[],ps=>ps
 |s::ss,ps=>if ps.length<2 then ps else leaveL W bots ss (leastR (W s) bots ps [])
structure Lv (W:Nat->Nat->Int) (bots:Nat->Int) (C:List Nat) (s:Nat) (ps:List Nat):Prop where
 ne:ps≠[]
 nd:ps.Nodup
 sub:∀ x∈ps,x∈C
 eq:∀ x∈ps,∀ y∈ps,∀ l,l<s->bots x*W l y - bots y*W l x=0
 lt:∀ x∈ps,∀ y∈C,y∉ps->lexP s λl=>bots x*W l y - bots y*W l x
theorem lexP_mono {M N:Nat}{v:Nat->Int} (h:M<=N) (hv:lexP M v):lexP N v:=let ⟨j,h1,h2,h3⟩:=hv;⟨j,by omega,h2,h3⟩
theorem Lv.step {W:Nat->Nat->Int}{bots:Nat->Int}{C ps:List Nat}{s:Nat} (hb:∀ x∈C,0<bots x) (h:Lv W bots C s ps):Lv W bots C (s+1) (leastR (W s) bots ps []):=by
 have L:=least_of (tops:=W s) (bots:=bots) (ps:=ps) (λx hx=>hb x (h.sub x hx)) h.nd
 refine⟨L.ne h.ne,L.nd h.nd,λx hx=>h.sub x (L.sub x hx),λx hx y hy l hl=>?_,λx hx y hy hn=>?_⟩
 ·rcases qfs l s with h1|h1
  ·exact h.eq x (L.sub x hx) y (L.sub y hy) l h1
  ·have:l=s:=by omega
   subst this
   have:=L.eq y hy x hx
   rw[qaC (bots x),qaC (bots y),this];omega
 ·by_cases hm:y∈ps
  ·have hl:=L.lt x hx y hm hn
   refine⟨s,by omega,?_,λl hl'=>h.eq x (L.sub x hx) y hm l hl'⟩
   show 0<bots x*W s y - bots y*W s x
   rw[qaC (bots x),qaC (bots y)];omega
  ·exact lexP_mono (by omega) (h.lt x (L.sub x hx) y hy hm)
theorem leaveL_ok {W:Nat->Nat->Int}{bots:Nat->Int}{C:List Nat} (hb:∀ x∈C,0<bots x):∀ (k s:Nat) (ps:List Nat),Lv W bots C s ps->∃ s',s<=s'/\s'<=s+k/\Lv W bots C s' (leaveL W bots ((qac k).map λj=>s+j) ps)/\(s'<s+k->(leaveL W bots ((qac k).map λj=>s+j) ps).length<2):=by
 intro k
 induction k with
 |zero=>intro s ps h;exact⟨s,qan _,qan _,h,λh=>absurd h (by omega)⟩
 |succ k ih=>
  intro s ps h
  have e:(qac (k+1)).map (λj=>s+j)=s::(qac k).map λj=>(s+1)+j:=by
   rw[qbW,qay,qbs]
   congr 1
   refine qb7 λj _=>?_
   show s+(j+1)=_
   omega
  rw[e,leaveL]
  by_cases hl:ps.length<2
  ·rw[if_pos hl]
   exact⟨s,qan _,by omega,h,λ_=>hl⟩
  ·rw[if_neg hl]
   obtain⟨s',h1,h2,h3,h4⟩:=ih (s+1) _ (h.step hb)
   exact⟨s',by omega,by omega,h3,λh=>h4 (by omega)⟩
variable {P:Pb}
theorem leaving_ok {S:Tb} (h:Good P S) (hA:∀ i,i<P.m->∀ t,P.m<=t->P.A (S.kept i) t=0) {e:Nat}{C:List Nat} (hC:∀ i,i∈C↔i<P.m/\0<S.T i e) (hn:C.Nodup) (hne:C≠[]) :
  ∃ r,leaveL (λs i=>LV P S i s) (λi=>S.T i e) ((qac (P.m+1)).map λj=>0+j) C=[r]/\r<P.m/\0<S.T r e/\∀ i,i<P.m->i≠r->0<S.T i e->lexP (P.m+1) λs=>S.T r e*LV P S i s - S.T i e*LV P S r s:=by
 have hb:∀ x∈C,0<S.T x e:=λx hx=>((hC x).mp hx).2
 have h0:Lv (λs i=>LV P S i s) (λi=>S.T i e) C 0 C:=⟨hne,hn,λx hx=>hx,λx _ y _ l hl=>absurd hl (by omega),λx _ y hy hm=>absurd hy hm⟩
 obtain⟨s',h1,h2,h3,h4⟩:=leaveL_ok hb (P.m+1) 0 C h0
 generalize leaveL (λs i=>LV P S i s) (λi=>S.T i e) ((qac (P.m+1)).map λj=>0+j) C=out at h3 h4
 have hone:out.length<2:=by
  rcases qfs out.length 2 with hl|hl
  ·exact hl
  ·exfalso
   have hs:s'=P.m+1:=by
    rcases qfs s' (0+(P.m+1)) with hlt|hge
    ·exact absurd (h4 hlt) (by omega)
    ·omega
   match out,hl,h3 with
   |x::y::r,_,h3=>
    have hx:=(hC x).mp (h3.sub x qaf)
    have hy:=(hC y).mp (h3.sub y (qal _ qaf))
    have hxy:x≠y:=λe=>by
     have:=(qfO.mp h3.nd).1 y qaf
     exact this e
    refine lines_unlike h hA hy.1 hx.1 (qbu hxy) (a:=S.T x e) (b:=S.T y e) hx.2 λs hs'=>?_
    have:=h3.eq x qaf y (qal _ qaf) s (by omega)
    omega
 match out,hone,h3 with
 |[],_,h3=>exact absurd rfl h3.ne
 |[r],_,h3=>
  have hr:=(hC r).mp (h3.sub r qaf)
  refine⟨r,rfl,hr.1,hr.2,λi hi hir hT=>?_⟩
  exact lexP_mono (by omega) (h3.lt r qaf i ((hC i).mpr ⟨hi,hT⟩) (by simpa using hir))
end Sx
namespace Sx
variable {P:Pb}
theorem sumN_swap (n m:Nat) (f:Nat->Nat->Int):(sumN n λi=>sumN m λk=>f i k)=sumN m λk=>sumN n λi=>f i k:=by
 induction n with
 |zero=>rw[sumN];exact (sumN_zero m).symm
 |succ n ih=>
  rw[sumN,ih]
  rw[<-sumN_add]
  rfl
theorem sumN_nonneg {n:Nat}{f:Nat->Int} (h:∀ k,k<n->0<=f k):0<=sumN n f:=by
 induction n with
 |zero=>exact qcA _
 |succ n ih=>rw[sumN];have:=ih λk hk=>h k (by omega);have:=h n (by omega);omega
theorem sumN_append (a b:Nat) (f:Nat->Int):sumN (a+b) f=sumN a f+sumN b λk=>f (a+k):=by
 induction b with
 |zero=>rw[sumN];simp
 |succ b ih=>rw[<-Nat.add_assoc,sumN,ih,sumN];omega
theorem sumN_right (n:Nat) (c:Int) (f:Nat->Int):sumN n (λk=>f k*c)=sumN n f*c:=by
 rw[qaC,<-sumN_mul]
 exact sumN_congr λk _=>qaC _ _
def byName (P:Pb) (S:Tb) (y:Nat->Int) (k:Nat):Int:=sumN P.m λi=>if S.kept i=k then y i else 0
theorem byName_sum (S:Tb) (y:Nat->Int) {N:Nat} (hN:∀ i,i<P.m->S.kept i<N) (f:Nat->Int):(sumN N λk=>byName P S y k*f k)=sumN P.m λi=>y i*f (S.kept i):=by
 have e:(sumN N λk=>byName P S y k*f k)=sumN N λk=>sumN P.m λi=>(if S.kept i=k then y i else 0)*f k:=sumN_congr λk _=>(sumN_right _ _ _).symm
 rw[e,sumN_swap]
 refine sumN_congr λi hi=>?_
 rw[sumN_single (hN i hi) λk _ hne=>by rw[if_neg (qbu hne),qbk],if_pos rfl]
theorem byName_nonneg {S:Tb}{y:Nat->Int} (h:∀ i,i<P.m->0<=y i) (k:Nat):0<=byName P S y k:=sumN_nonneg λi hi=>by split;exact h i hi;exact qcA _
theorem byName_at {S:Tb}{y:Nat->Int} (hinj:∀ i j,i<P.m->j<P.m->S.kept i=S.kept j->i=j) {i:Nat} (hi:i<P.m):byName P S y (S.kept i)=y i:=by
 unfold byName
 rw[sumN_single hi λj hj hne=>if_neg λe=>hne (hinj j i hj hi e),if_pos rfl]
theorem byName_not {S:Tb}{y:Nat->Int}{k:Nat} (h:∀ i,i<P.m->S.kept i≠k):byName P S y k=0:=by
 unfold byName
 rw[sumN_congr (g:=λ_=>0) λi hi=>if_neg (h i hi),sumN_zero]
theorem unit_sum {m:Nat}{v:Vec}{r:Nat} (hr:r<m):(sumN m λk=>v k*unit k r)=v r:=by
 rw[sumN_single hr λk _ hne=>by unfold unit;rw[if_neg (qbu hne),qa8]]
 unfold unit
 rw[if_pos rfl,qd7]
theorem amounts_ok {S:Tb} (h:Good P S) (hn:Named P S) (hT:∀ i,i<P.m->0<=S.T i P.n) {r:Nat} (hr:r<P.m):(sumN P.n λj=>byName P S (λi=>S.T i P.n) j*P.A j r)<=S.p*P.b r:=by
 have e1:=h.eq P.n (qan _) r
 have c1:colV P S P.n=P.b:=by unfold colV;rw[if_neg (qa2 _)]
 rw[c1]at e1
 have e2:=byName_sum (P:=P) S (λi=>S.T i P.n) (N:=P.n+P.m) hn.bound.2 λk=>P.A k r
 rw[<-e1,sumN_append]at e2
 have e3:(sumN P.m λk=>byName P S (λi=>S.T i P.n) (P.n+k)*P.A (P.n+k) r)=byName P S (λi=>S.T i P.n) (P.n+r):=by
  rw[sumN_congr (g:=λk=>byName P S (λi=>S.T i P.n) (P.n+k)*unit k r) λk hk=>by rw[hn.one k hk]]
  exact unit_sum (v:=λk=>byName P S (λi=>S.T i P.n) (P.n+k)) hr
 have e4:=byName_nonneg (P:=P) (S:=S) (y:=λi=>S.T i P.n) hT (P.n+r)
 omega
theorem gains_amounts {S:Tb} (h:Good P S) (hn:Named P S) (hg:∀ r,r<P.m->P.g (P.n+r)=0):(sumN P.n λj=>byName P S (λi=>S.T i P.n) j*P.g j)=S.G P.n:=by
 have e2:=byName_sum (P:=P) S (λi=>S.T i P.n) (N:=P.n+P.m) hn.bound.2 P.g
 rw[sumN_append,sumN_congr (n:=P.m) (g:=λ_=>0) λk hk=>by rw[hg k hk,qa8],sumN_zero,qck]at e2
 rw[e2,h.goal P.n (qan _)]
 have:gainC P S P.n=0:=by unfold gainC;rw[if_neg (qa2 _)]
 rw[this,qa8,qfv]
 exact sumN_congr λi _=>qaC _ _
theorem det_by_units {S:Tb}{v:Vec} (hv:∀ t,P.m<=t->v t=0) {i:Nat} (hi:i<P.m):det P.m (upd (basis P S) i v)=sumN P.m λs=>v s*LV P S i (s+1):=by
 have e:v=λt=>sumN P.m λs=>v s*unit s t:=by
  funext t
  by_cases ht:t<P.m
  ·exact (unit_sum (v:=v) ht).symm
  ·rw[sumN_congr (g:=λ_=>0) λs hs'=>by unfold unit;rw[if_neg (by omega),qa8],sumN_zero]
   exact hv t (by omega)
 have e2:=det_sum (m:=P.m) (basis P S) hi (λs=>v s) unit P.m
 rw[<-e]at e2
 rw[e2]
 refine sumN_congr λs hs'=>?_
 unfold LV XV
 rw[if_neg (by omega),qbR]
theorem prices_col {S:Tb}{v:Vec} (hv:∀ t,P.m<=t->v t=0):(sumN P.m λr=>v r*ZV P S (r+1))=sumN P.m λi=>P.g (S.kept i)*det P.m (upd (basis P S) i v):=by
 have e:(sumN P.m λr=>v r*ZV P S (r+1))=sumN P.m λr=>sumN P.m λi=>P.g (S.kept i)*(v r*LV P S i (r+1)):=sumN_congr λr _=>by
  unfold ZV
  rw[<-sumN_mul]
  exact sumN_congr λi _=>by rw[qao]
 rw[e,sumN_swap]
 refine sumN_congr λi hi=>?_
 rw[sumN_mul,det_by_units hv hi]
theorem prices_ok {S:Tb} (h:Good P S) (hn:Named P S) (hA:∀ k,k<P.n+P.m->∀ t,P.m<=t->P.A k t=0) (hG:∀ c,c<P.n->0<=S.G c) {j:Nat} (hj:j<P.n):S.p*P.g j<=sumN P.m λr=>P.A j r*ZV P S (r+1):=by
 rw[prices_col (hA j (by omega))]
 rcases hn.all j (by omega) with⟨c,hc,e⟩|⟨i,hi,e⟩
 ·have e1:=h.goal c (by omega)
  have g1:gainC P S c=P.g j:=by unfold gainC;rw[if_pos hc,e]
  have c1:colV P S c=P.A j:=by unfold colV;rw[if_pos hc,e]
  have e2:(sumN P.m λi=>P.g (S.kept i)*det P.m (upd (basis P S) i (P.A j)))=sumN P.m λi=>P.g (S.kept i)*S.T i c:=sumN_congr λi hi=>by rw[<-c1,<-h.entry (by omega) hi]
  rw[g1]at e1
  rw[e2]
  have:=hG c hc
  omega
 ·rw[sumN_single hi λk hk hne=>?_]
  ·have:=det_kept h hi hi
   rw[if_pos rfl]at this
   have e2:det P.m (upd (basis P S) i (P.A j))=S.p:=by rw[<-e];exact this
   rw[e2,e,qaC]
   exact qcA _
  ·have:=det_kept h hk hi
   rw[if_neg hne]at this
   have e2:det P.m (upd (basis P S) k (P.A j))=0:=by rw[<-e];exact this
   rw[e2,qa8]
theorem bounds_prices {S:Tb} (h:Good P S) (hb:∀ t,P.m<=t->P.b t=0):(sumN P.m λr=>P.b r*ZV P S (r+1))=S.G P.n:=by
 have c1:colV P S P.n=P.b:=by unfold colV;rw[if_neg (qa2 _)]
 have:gainC P S P.n=0:=by unfold gainC;rw[if_neg (qa2 _)]
 rw[prices_col hb,h.goal P.n (qan _),this,qa8,qfv]
 exact sumN_congr λi hi=>by rw[h.entry (qan _) hi,c1]
theorem price_free {S:Tb} (h:Good P S) (hn:Named P S) (hg:∀ r,r<P.m->P.g (P.n+r)=0) {r c:Nat} (hr:r<P.m) (hc:c<P.n) (e:S.free c=P.n+r):ZV P S (r+1)=S.G c:=by
 have g1:gainC P S c=0:=by unfold gainC;rw[if_pos hc,e,hg r hr]
 have c1:colV P S c=unit r:=by unfold colV;rw[if_pos hc,e,hn.one r hr]
 rw[h.goal c (by omega),g1,qa8,qfv]
 unfold ZV
 refine sumN_congr λi hi=>?_
 rw[h.entry (by omega) hi,c1]
 unfold LV XV
 rw[if_neg (by omega),qbR]
theorem price_kept {S:Tb} (h:Good P S) (hn:Named P S) (hg:∀ r,r<P.m->P.g (P.n+r)=0) {r j:Nat} (hr:r<P.m) (hj:j<P.m) (e:S.kept j=P.n+r):ZV P S (r+1)=0:=by
 unfold ZV
 rw[sumN_single hj λk hk hne=>?_]
 ·rw[e,hg r hr,qbk]
 ·have:=det_kept h hk hj
  rw[if_neg hne]at this
  have e2:LV P S k (r+1)=0:=by
   unfold LV XV
   rw[if_neg (by omega),qbR,<-hn.one r hr,<-e]
   exact this
  rw[e2,qa8]
def wayN (P:Pb) (S:Tb) (e k:Nat):Int:=byName P S (λi=>- S.T i e) k+if S.free e=k then S.p else 0
theorem way_sum {S:Tb} (hn:Named P S) {e:Nat} (he:e<P.n) (f:Nat->Int):(sumN (P.n+P.m) λk=>wayN P S e k*f k)=S.p*f (S.free e) - sumN P.m λi=>S.T i e*f (S.kept i):=by
 have e1:=byName_sum (P:=P) S (λi=>- S.T i e) (N:=P.n+P.m) hn.bound.2 f
 have e2:(sumN (P.n+P.m) λk=>(if S.free e=k then S.p else 0)*f k)=S.p*f (S.free e):=by
  rw[sumN_single (hn.bound.1 e he) λk _ hne=>by rw[if_neg (qbu hne),qbk],if_pos rfl]
 have e3:(sumN (P.n+P.m) λk=>wayN P S e k*f k)=sumN (P.n+P.m) λk=>byName P S (λi=>- S.T i e) k*f k+(if S.free e=k then S.p else 0)*f k:=sumN_congr λk _=>by unfold wayN;rw[qdB]
 rw[e3,sumN_add,e1,e2]
 have e4:(sumN P.m λi=>- S.T i e*f (S.kept i))=- sumN P.m λi=>S.T i e*f (S.kept i):=by
  have:(sumN P.m λi=>- S.T i e*f (S.kept i))=sumN P.m λi=>(-1)*(S.T i e*f (S.kept i)):=sumN_congr λi _=>by rw[qc6,qc6,qaT]
  rw[this,sumN_mul];omega
 rw[e4];omega
theorem way_nonneg {S:Tb} (h:Good P S) {e:Nat} (ht:∀ i,i<P.m->S.T i e<=0) (k:Nat):0<=wayN P S e k:=by
 unfold wayN
 have:=byName_nonneg (P:=P) (S:=S) (y:=λi=>- S.T i e) (λi hi=>by have:=ht i hi;show 0<=- S.T i e;omega) k
 have:=h.pos
 split<;>omega
theorem way_rows {S:Tb} (h:Good P S) (hn:Named P S) {e:Nat} (he:e<P.n) (ht:∀ i,i<P.m->S.T i e<=0) {r:Nat} (hr:r<P.m):(sumN P.n λk=>wayN P S e k*P.A k r)<=0:=by
 have e1:=way_sum (S:=S) hn he λk=>P.A k r
 have e2:=h.eq e (by omega) r
 have c1:colV P S e=P.A (S.free e):=by unfold colV;rw[if_pos he]
 rw[c1]at e2
 rw[e2,Int.sub_self,sumN_append]at e1
 have e3:(sumN P.m λk=>wayN P S e (P.n+k)*P.A (P.n+k) r)=wayN P S e (P.n+r):=by
  rw[sumN_congr (g:=λk=>wayN P S e (P.n+k)*unit k r) λk hk=>by rw[hn.one k hk]]
  exact unit_sum (v:=λk=>wayN P S e (P.n+k)) hr
 have:=way_nonneg h ht (P.n+r)
 omega
theorem way_gains {S:Tb} (h:Good P S) (hn:Named P S) (hg:∀ r,r<P.m->P.g (P.n+r)=0) {e:Nat} (he:e<P.n) (hG:S.G e<0):0<sumN P.n λk=>wayN P S e k*P.g k:=by
 have e1:=way_sum (S:=S) hn he P.g
 rw[sumN_append,sumN_congr (n:=P.m) (g:=λ_=>0) λk hk=>by rw[hg k hk,qa8],sumN_zero,qck]at e1
 have e2:=h.goal e (by omega)
 have g1:gainC P S e=P.g (S.free e):=by unfold gainC;rw[if_pos he]
 rw[g1]at e2
 have e3:(sumN P.m λi=>S.T i e*P.g (S.kept i))=sumN P.m λi=>P.g (S.kept i)*S.T i e:=sumN_congr λi _=>qaC _ _
 rw[e1,e3]
 omega
def tb0 (P:Pb) (T:Nat->Nat->Int) (G:Nat->Int):Tb:=⟨1,λi=>P.n+i,λc=>c,T,G⟩
theorem good0 {T:Nat->Nat->Int}{G:Nat->Int} (h1:∀ r,r<P.m->P.A (P.n+r)=unit r) (hA:∀ k,k<P.n->∀ t,P.m<=t->P.A k t=0) (hb:∀ t,P.m<=t->P.b t=0) (hg:∀ r,r<P.m->P.g (P.n+r)=0)
  (hT:∀ i c,i<P.m->c<P.n->T i c=P.A c i) (hL:∀ i,i<P.m->T i P.n=P.b i) (hG:∀ c,c<P.n->G c=- P.g c) (hGn:G P.n=0):Good P (tb0 P T G)/\Named P (tb0 P T G)/\((∀ t,t<P.m->0<=P.b t)->Fe P (tb0 P T G)):=by
 have hbas:∀ i,i<P.m->basis P (tb0 P T G) i=unit i:=λi hi=>h1 i hi
 have hdet:det P.m (basis P (tb0 P T G))=1:=by
  rw[det_congr P.m (E:=unit) λk t hk _=>by rw[hbas k hk],det_unit]
 have heq:∀ c,c<=P.n->∀ t,(1:Int)*colV P (tb0 P T G) c t=sumN P.m λi=>T i c*P.A (P.n+i) t:=λc hc t=>by
  rw[qaT,sumN_congr (g:=λi=>T i c*unit i t) λi hi=>by rw[h1 i hi]]
  have hcol:∀ t',P.m<=t'->colV P (tb0 P T G) c t'=0:=λt' ht'=>by
   unfold colV
   by_cases hcn:c<P.n
   ·rw[if_pos hcn];exact hA c hcn t' ht'
   ·rw[if_neg hcn];exact hb t' ht'
  by_cases ht:t<P.m
  ·rw[unit_sum (v:=λi=>T i c) ht]
   unfold colV
   by_cases hcn:c<P.n
   ·rw[if_pos hcn,hT t c ht hcn];rfl
   ·have:c=P.n:=by omega
    subst this
    rw[if_neg hcn,hL t ht]
  ·rw[hcol t (by omega),sumN_congr (g:=λ_=>0) λi hi=>by unfold unit;rw[if_neg (by omega),qa8],sumN_zero]
 have hgood:Good P (tb0 P T G):=by
  refine⟨by show (0:Int)<1;decide,hdet.symm,heq,λc hc=>?_⟩
  show G c=(sumN P.m λi=>P.g (P.n+i)*T i c) - 1*gainC P (tb0 P T G) c
  rw[sumN_congr (g:=λ_=>0) λi hi=>by rw[hg i hi,qbk],sumN_zero]
  unfold gainC
  by_cases hcn:c<P.n
  ·rw[if_pos hcn,hG c hcn]
   show - P.g c=0 - 1*P.g c
   omega
  ·have:c=P.n:=by omega
   subst this
   rw[if_neg hcn,hGn];rfl
 refine⟨hgood,⟨h1,λk hk=>?_,λc hc=>by show c<_;omega,λi hi=>by show P.n+i<_;omega⟩,λhbn i hi=>?_⟩
 ·by_cases hkn:k<P.n
  ·exact .inl ⟨k,hkn,rfl⟩
  ·exact .inr ⟨k - P.n,by omega,by show P.n+(k - P.n)=k;omega⟩
 ·have l0:LV P (tb0 P T G) i 0=P.b i:=by
   have e:=hgood.entry (c:=P.n) (qan _) hi
   have c1:colV P (tb0 P T G) P.n=P.b:=by unfold colV;rw[if_neg (qa2 _)]
   rw[c1]at e
   unfold LV XV
   rw[if_pos rfl,<-e]
   exact hL i hi
  have ls:∀ s,s<P.m->LV P (tb0 P T G) i (s+1)=if i=s then 1 else 0:=λs hs=>by
   have:=det_kept hgood hi hs
   unfold LV XV
   rw[if_neg (by omega),qbR,<-hbas s hs]
   exact this
  have hb0:=hbn i hi
  rcases qf6 hb0 with hp|hp
  ·exact⟨0,by omega,by rw[l0];exact hp,λl hl=>absurd hl (by omega)⟩
  ·refine⟨i+1,by omega,by rw[ls i hi,if_pos rfl];decide,λl hl=>?_⟩
   cases l with
   |zero=>rw[l0,<-hp]
   |succ l=>rw[ls l (by omega),if_neg (by omega)]
end Sx
set_option maxHeartbeats 1000000
namespace Own
open PySem L2
open Sx (Pb Tb Good Named Fe LV ZV piv lexP leastR leaveL sumN unit colV basis)
theorem lD {e:Ef}{z:Int}{m:Nat}{env:Ev}{st s:Sto} (he:e env st=some (.d (.int z),s)) (h0:0<=z) (h1:z<=1000) (hm:z.toNat=m):cH (aa e ag) env st=some (cV 0 m,s):=by
 have hb:-(2^62)<=z/\z<2^62:=⟨Int.le_trans (by decide) h0,Int.lt_of_le_of_lt h1 (by decide)⟩
 have h2:=ac (b:=ag) he rfl
 simp only[cH,h2,qaa,hb,and_self,if_true,hm]
theorem bN {f:Ef}{env:Ev}{st s:Sto}{ds:List D} (h:f env st=some (.d (.lst ds),s)):aE f env st=some (ds,s):=by
 simp only[aE,h,qaa]
theorem cX {f:Ef}{env:Ev}{st s:Sto}{ds:List D} (h:f env st=some (.d (.tup ds),s)):aE f env st=some (ds,s):=by
 simp only[aE,h,qaa]
theorem uE {c:Tf}{a b:Ef}{env:Ev}{st s:Sto}{r:Option (W×Sto)} (h:c env st=some (true,s)) (ha:a env s=r):lN c a b env st=r:=by
 simp only[lN,h,qaa,if_true,ha]
theorem xb {c:Tf}{a b:Ef}{env:Ev}{st s:Sto}{r:Option (W×Sto)} (h:c env st=some (false,s)) (hb:b env s=r):lN c a b env st=r:=by
 simp only[lN,h,qaa,qbE,if_false,hb]
theorem BT (s:Sto) (ns:List Int):vT s [.d (.lst (ns.map D.int))]=some (.int ns.sum):=by
 show (jP (ns.map D.int)).map (λns=>D.int ns.sum)=_
 rw[kJ];rfl
theorem uV (s:Sto) (a b:Int):dEq s (.d (.int a)) (.d (.int b))=some (.bl (a==b)):=by
 show ((eqK (.fl (.int a)) (.fl (.int b))).map λk=>D.bl k)=_
 rfl
theorem x8 (s:Sto) (a b:Str):dEq s (.d (.str a)) (.d (.str b))=some (.bl (a==b)):=by
 show ((eqK (.fl (.str a)) (.fl (.str b))).map λk=>D.bl k)=_
 rfl
theorem lI (s:Sto) {a b:List D} (h:a.length+b.length<=1000000):bu s (.d (.lst a)) (.d (.lst b))=some (.lst (a++b)):=if_pos h
theorem i8 (s:Sto) {a b:List D} (h:a.length+b.length<=1000000):bu s (.d (.tup a)) (.d (.tup b))=some (.tup (a++b)):=if_pos h
def mpI (n:Nat) (f:Nat->Int):List D:=(qac n).map λk=>D.int (f k)
def lnD (n:Nat) (T:Nat->Nat->Int) (i:Nat):D:=.lst (mpI (n+1) (T i))
def bg (m n:Nat) (T:Nat->Nat->Int):List D:=(qac m).map (lnD n T)
def nI (f:Nat->Nat):Nat->Int:=λk=>((f k:Nat):Int)
abbrev obN:List Str:=["amounts","lines","goal","part","free","kept"]
def obD (P:Pb) (S:Tb):D:=.ob obN [.int (P.n:Int),.lst (bg P.m P.n S.T),.lst (mpI (P.n+1) S.G),.int S.p,.lst (mpI P.n (nI S.free)),.lst (mpI P.m (nI S.kept))]
theorem aU (n:Nat) (f:Nat->Int):(mpI n f).length=n:=by unfold mpI;rw[qai,qah]
theorem d9 (m n:Nat) (T:Nat->Nat->Int):(bg m n T).length=m:=by unfold bg;rw[qai,qah]
theorem cp {n:Nat}{f:Nat->Int}{k:Nat} (h:k<n):(mpI n f)[k]?=some (.int (f k)):=by
 unfold mpI;rw[qaO,qbm h];rfl
theorem n8 {m n:Nat}{T:Nat->Nat->Int}{k:Nat} (h:k<m):(bg m n T)[k]?=some (lnD n T k):=by
 unfold bg;rw[qaO,qbm h];rfl
theorem cn {n:Nat}{f g:Nat->Int} (h:∀ k,k<n->f k=g k):mpI n f=mpI n g:=by
 unfold mpI
 refine qb7 λk hk=>?_
 rw[h k (qaK.mp hk)]
theorem nW (n:Nat) (f:Nat->Int):mpI (n+1) f=mpI n f++[.int (f n)]:=by
 unfold mpI;rw[qeE,qcg];rfl
theorem cC (n:Nat) (f:Nat->Int):mpI n f=((qac n).map f).map D.int:=by unfold mpI;rw[qbs];rfl
theorem se (n:Nat) (f:Nat->Int):(mpI n f).all dR=true:=by
 rw[qa3]
 intro d hd
 obtain⟨k,_,rfl⟩:=qbe.mp hd
 rfl
theorem i5 {n:Nat}{f:Nat->Int}{k:Nat}{x:Int}:(mpI n f).set k (.int x)=mpI n λj=>if j=k then x else f j:=by
 apply qbg
 intro j
 by_cases hj:j<n
 ·rw[cp hj]
  by_cases e:j=k
  ·subst e;rw[if_pos rfl,qba (by rw[aU];exact hj)]
  ·rw[if_neg e,qbp (qbu e),cp hj]
 ·rw[qaQ (by rw[qbw,aU];lia),qaQ (by rw[aU];lia)]
theorem gG (st:Sto) {n:Nat}{f:Nat->Int}{k:Nat} (h:k<n):dIx st (.d (.lst (mpI n f))) (.d (.int (k:Int)))=some (.int (f k)):=eM (cp h)
theorem sC (st:Sto) {m n:Nat}{T:Nat->Nat->Int}{k:Nat} (h:k<m):dIx st (.d (.lst (bg m n T))) (.d (.int (k:Int)))=some (lnD n T k):=eM (n8 h)
theorem sN (st:Sto) {n:Nat}{T:Nat->Nat->Int}{i c:Nat} (h:c<=n):dIx st (.d (lnD n T i)) (.d (.int (c:Int)))=some (.int (T i c)):=gG st (by lia)
theorem vb (st:Sto) {n:Nat}{T:Nat->Nat->Int}{i:Nat}:dIx st (.d (lnD n T i)) (.d (.int (-1)))=some (.int (T i n)):=by
 show atI (mpI (n+1) (T i)) (-1)=_
 rw[nW];exact wR _ _
section
variable {P:Pb}{S:Tb}{a:Ef}{env:Ev}{st s:Sto}
theorem df (h:a env st=some (.d (obD P S),s)):aw "amounts" a env st=some (.d (.int (P.n:Int)),s):=by simp only[aw,h,qaa,obD];rfl
theorem eV (h:a env st=some (.d (obD P S),s)):aw "lines" a env st=some (.d (.lst (bg P.m P.n S.T)),s):=by simp only[aw,h,qaa,obD];rfl
theorem mJ (h:a env st=some (.d (obD P S),s)):aw "goal" a env st=some (.d (.lst (mpI (P.n+1) S.G)),s):=by simp only[aw,h,qaa,obD];rfl
theorem mG (h:a env st=some (.d (obD P S),s)):aw "part" a env st=some (.d (.int S.p),s):=by simp only[aw,h,qaa,obD];rfl
theorem mF (h:a env st=some (.d (obD P S),s)):aw "free" a env st=some (.d (.lst (mpI P.n (nI S.free))),s):=by simp only[aw,h,qaa,obD];rfl
theorem pW (h:a env st=some (.d (obD P S),s)):aw "kept" a env st=some (.d (.lst (mpI P.m (nI S.kept))),s):=by simp only[aw,h,qaa,obD];rfl
end
theorem iH {te:Ef}{l:Ev}{st:Sto}{g:Nat->D} (F:Nat->D):∀ {ks:List Nat},(∀ k∈ks,te (some (.d (g k))::l) st=some (.d (F k),st))->lcI (.nm 0) aS te (none::l) (ks.map g) st=some (ks.map F,st)
 |[],_=>rfl
 |k::ks,h=>by
  have ih:=iH (te:=te) (l:=l) (st:=st) (g:=g) F (ks:=ks) λx hx=>h x (qal _ hx)
  have h1:=h k qaf
  rw[qay,qay]
  unfold lcI
  rw[show eH (.nm 0) (.d (g k)) (none::l)=some (some (.d (g k))::l) from rfl,qaa,show aS (some (.d (g k))::l) st=some (true,st) from rfl,qaa,if_pos rfl,h1,qaa,ih];rfl
def Sm (z:Int):Prop:=z.natAbs<2^4000
theorem mulOk {a b:Int} (x y:Nat) (ha:a.natAbs<2^x) (hb:b.natAbs<2^y) (h:x+y<=134217728):qbh a b:=
 qgI (qfi.mpr ha) (qfi.mpr hb) h
theorem oa {a b:Int}{x y:Nat} (ha:a.natAbs<2^x) (hb:b.natAbs<2^y):(a*b).natAbs<2^(x+y):=by
 rw[qcU,qeP]
 exact Nat.mul_lt_mul'' ha hb
theorem Sm.mulOk {a b:Int} (ha:Sm a) (hb:Sm b):qbh a b:=Own.mulOk 4000 4000 ha hb (by decide)
theorem cF (st:Sto) {a b:Int} (h:qbh a b):bO st (.d (.int a)) (.d (.int b))=some (.int (a*b)):=if_pos h
theorem Sm.log {a:Int} (h:Sm a):a.natAbs.log2<9000:=by
 by_cases h0:a.natAbs=0
 ·rw[h0];decide
 ·have:=(Nat.log2_lt h0).mpr h
  lia
theorem ud (st:Sto) {a b:Int} (h0:0<b) (h:Sm b):nB st (.d (.int a)) (.d (.int b))=some (.int (a / b)):=if_pos ⟨h0,h.log⟩
end Own
set_option maxHeartbeats 1000000
namespace Own
open PySem L2
open Sx (Pb Tb Good Named Fe LV ZV piv lexP leastR leaveL sumN unit colV basis)
theorem kZ {a b:Sf}{env:Ev}{st s:Sto}{w:W} (h:a env st=some (.rt w s)):ao a b env st=some (.rt w s):=by simp only[ao,h,qaa]
theorem ar {a b:Sf}{env e:Ev}{st s:Sto}{r:Option Fl} (h:a env st=some (.nx e s)) (hb:b e s=r):ao a b env st=r:=by simp only[ao,h,qaa,hb]
theorem ix {c:Tf}{a b:Sf}{env:Ev}{st s:Sto}{r:Option Fl} (h:c env st=some (true,s)) (ha:a env s=r):cv c a b env st=r:=by simp only[cv,h,qaa,if_true,ha]
theorem dS {c:Tf}{a b:Sf}{env:Ev}{st s:Sto}{r:Option Fl} (h:c env st=some (false,s)) (hb:b env s=r):cv c a b env st=r:=by simp only[cv,h,qaa,qbE,if_false,hb]
theorem Bu {o a:Ef}{env:Ev}{st s1 s2:Sto}{n:Nat}{d:D}{ds0 ds:List D} (ho:o env st=some (.h n,s1)) (ha:a env s1=some (.d d,s2)) (h0:lg s1 n=some ds0) (hg:lg s2 n=some ds) (hz:ds.length<1000000):fg (dQ cy o (aa a ag)) env st=some (.nx env (s2.set n (.l (ds++[d])))):=by
 have hc:=ac (b:=ag) ha rfl
 simp only[fg,dQ,ho,hc,h0,hg,cy,hz,if_true,qaa,qaq]
theorem rn (st:Sto) (a b:C):(st++[a]).set st.length b=st++[b]:=by
 rw[List.set_append];simp
structure Okt (P:Pb) (S:Tb):Prop where
 good:Good P S
 named:Named P S
 m64:P.m<=100
 n64:P.n<=100
 sT:∀ i c,i<P.m->c<=P.n->Sm (S.T i c)
 sL:∀ i s,i<P.m->s<=P.m->Sm (LV P S i s)
 sG:∀ c,c<=P.n->Sm (S.G c)
 sp:Sm S.p
def psD (ps:List Nat):List D:=ps.map λk=>D.int ((k:Nat):Int)
theorem vk (ps:List Nat):(psD ps).length=ps.length:=by unfold psD;rw[qai]
theorem mE {n k:Nat}{b:Sf}{ws:List W}{st s:Sto}{h:Nat}{ds:List D} (hl:ws.length=k) (hb:b (ws.map some++qaB (n - k) none) st=some (.rt (.h h) s)) (hh:st.length<=h) (hd:lg s h=some ds):iM n k b ws st=some (.d (.lst ds),s.take st.length):=by
 simp only[iM,hl,if_true,hb,qaa,tm,if_neg (qge.mpr hh),hd,qaq]
theorem vw {st u:Sto}{h:Nat}{c:C} (hh:st.length<=h):(st++u).set h c=st++u.set (h - st.length) c:=by
 rw[qce _ _ hh]
theorem Bs {s:Sto}{h:Nat}{ds es:List D} (hg:lg s h=some ds):lg (s.set h (.l es)) h=some es:=by
 have:=(qar.mp (vi hg)).1
 unfold lg
 rw[qba this]
theorem kz (s:Sto) (ds:List D):lg (s++[.l ds]) s.length=some ds:=by unfold lg;simp
theorem zI (s:Sto) {h:Nat}{ds:List D} (hg:lg s h=some ds):dF s (.h h)=some (!ds.isEmpty):=by
 show (iZ s (.h h)).map _=_
 show (lg s h).map _=_
 rw[hg];rfl
theorem Cj (s:Sto) {h:Nat}{d:D}{ds:List D} (hg:lg s h=some (d::ds)):dIx s (.h h) (.d (.int 0))=some d:=by
 show (lg s h).bind (λds=>atI ds 0)=_
 rw[hg,qaa,xj]
theorem v7 (s:Sto) (a b:Int):dLt s (.d (.int a)) (.d (.int b))=some (.bl (decide (a<b))):=rfl
theorem wA (s:Sto) (a b:Int):dGt s (.d (.int a)) (.d (.int b))=some (.bl (decide (a > b))):=rfl
theorem zk (s:Sto) (a b:Int):dGe s (.d (.int a)) (.d (.int b))=some (.bl (decide (a>=b))):=rfl
section
variable {tops bots:Nat->Int}{m:Nat}{st:Sto}{x0:Option W}
theorem kQ (ht:∀ i,i<m->Sm (tops i)) (hb:∀ i,i<m->Sm (bots i)):∀ (ps least:List Nat) (u:Sto) (h:Nat) (o4 o5 o6:Option W),(∀ x∈ps,x<m)->(∀ x∈least,x<m)->lg (st++u) h=some (psD least)->st.length<=h->least.length+ps.length<=1000->
  ∃ u' h' o4' o5' o6',eJ (.nm 4) bz (psD ps) [x0,some (.d (.lst (mpI m tops))),some (.d (.lst (mpI m bots))),some (.h h),o4,o5,o6] (st++u)=some (.nx [x0,some (.d (.lst (mpI m tops))),some (.d (.lst (mpI m bots))),some (.h h'),o4',o5',o6'] (st++u'))/\
   lg (st++u') h'=some (psD (leastR tops bots ps least))/\st.length<=h'
 |[],least,u,h,o4,o5,o6,_,_,hg,hh,_=>⟨u,h,o4,o5,o6,rfl,by rw[leastR];exact hg,hh⟩
 |p::ps,least,u,h,o4,o5,o6,hp,hl,hg,hh,hz=>by
  have hp0:p<m:=hp p qaf
  have hps:∀ x∈ps,x<m:=λx hx=>hp x (qal _ hx)
  rw[qat]at hz
  have hs:∀ o5 o6 hh',eH (.nm 4) (.d (.int ((p:Nat):Int))) [x0,some (.d (.lst (mpI m tops))),some (.d (.lst (mpI m bots))),some (.h hh'),o4,o5,o6]=some [x0,some (.d (.lst (mpI m tops))),some (.d (.lst (mpI m bots))),some (.h hh'),some (.d (.int ((p:Nat):Int))),o5,o6]:=λ_ _ _=>rfl
  have app:∀ (u:Sto) (h:Nat) (ls:List Nat) (o5 o6:Option W),lg (st++u) h=some (psD ls)->st.length<=h->ls.length<1000->fg (dQ cy (iV 3) (aa (iV 4) ag)) [x0,some (.d (.lst (mpI m tops))),some (.d (.lst (mpI m bots))),some (.h h),some (.d (.int ((p:Nat):Int))),o5,o6] (st++u)=some (.nx [x0,some (.d (.lst (mpI m tops))),some (.d (.lst (mpI m bots))),some (.h h),some (.d (.int ((p:Nat):Int))),o5,o6] (st++u.set (h - st.length) (.l (psD (ls++[p])))))/\lg (st++u.set (h - st.length) (.l (psD (ls++[p])))) h=some (psD (ls++[p])):=λu h ls o5 o6 hg hh hl=>by
   have e:=Bu (o:=iV 3) (a:=iV 4) (env:=[x0,some (.d (.lst (mpI m tops))),some (.d (.lst (mpI m bots))),some (.h h),some (.d (.int ((p:Nat):Int))),o5,o6]) (st:=st++u) (n:=h) (d:=.int ((p:Nat):Int)) rfl rfl hg hg (by rw[vk];lia)
   have e2:psD ls++[.int ((p:Nat):Int)]=psD (ls++[p]):=by unfold psD;rw[qcg];rfl
   rw[e2,vw hh]at e
   refine⟨e,?_⟩
   rw[<-vw hh]
   exact Bs hg
  cases least with
  |nil=>
   have t0:dm dF (iV 3) [x0,some (.d (.lst (mpI m tops))),some (.d (.lst (mpI m bots))),some (.h h),some (.d (.int ((p:Nat):Int))),o5,o6] (st++u)=some (false,st++u):=by
    have:=zI (st++u) hg
    simp only[dm,show iV 3 [x0,some (.d (.lst (mpI m tops))),some (.d (.lst (mpI m bots))),some (.h h),some (.d (.int ((p:Nat):Int))),o5,o6] (st++u)=some (.h h,st++u) from rfl,qaa,this];rfl
   obtain⟨a1,a2⟩:=app u h [] o5 o6 hg hh (by decide)
   obtain⟨u',h',o4',o5',o6',i1,i2,i3⟩:=kQ ht hb ps [p] _ h (some (.d (.int ((p:Nat):Int)))) o5 o6 hps (λx hx=>by rw[qaj.mp hx];exact hp0) a2 hh (by simp at hz ⊢;lia)
   refine⟨u',h',o4',o5',o6',?_,by rw[leastR];exact i2,i3⟩
   have hb':bz [x0,some (.d (.lst (mpI m tops))),some (.d (.lst (mpI m bots))),some (.h h),some (.d (.int ((p:Nat):Int))),o5,o6] (st++u)=_:=ar (dS t0 rfl) a1
   show eJ (.nm 4) bz (.int ((p:Nat):Int)::psD ps) _ _=_
   simp only[eJ,hs,qaa,hb']
   exact i1
  |cons l0 r=>
   have hl0:l0<m:=hl l0 qaf
   have t0:dm dF (iV 3) [x0,some (.d (.lst (mpI m tops))),some (.d (.lst (mpI m bots))),some (.h h),some (.d (.int ((p:Nat):Int))),o5,o6] (st++u)=some (true,st++u):=by
    have:=zI (st++u) hg
    simp only[dm,show iV 3 [x0,some (.d (.lst (mpI m tops))),some (.d (.lst (mpI m bots))),some (.h h),some (.d (.int ((p:Nat):Int))),o5,o6] (st++u)=some (.h h,st++u) from rfl,qaa,this];rfl
   have i0:∀ o5 o6,iOp dIx (iV 3) (iC (.int 0)) [x0,some (.d (.lst (mpI m tops))),some (.d (.lst (mpI m bots))),some (.h h),some (.d (.int ((p:Nat):Int))),o5,o6] (st++u)=some (.d (.int ((l0:Nat):Int)),st++u):=λ_ _=>ai rfl rfl (Cj (st++u) hg)
   have s5:aG (.nm 5) (iOp bO (iOp dIx (iV 1) (iV 4)) (iOp dIx (iV 2) (iOp dIx (iV 3) (iC (.int 0))))) [x0,some (.d (.lst (mpI m tops))),some (.d (.lst (mpI m bots))),some (.h h),some (.d (.int ((p:Nat):Int))),o5,o6] (st++u)=some (.nx [x0,some (.d (.lst (mpI m tops))),some (.d (.lst (mpI m bots))),some (.h h),some (.d (.int ((p:Nat):Int))),some (.d (.int (tops p*bots l0))),o6] (st++u)):=
    aC (ai (ai rfl rfl (gG _ hp0)) (ai rfl (i0 _ _) (gG _ hl0)) (cF _ (Sm.mulOk (ht p hp0) (hb l0 hl0))))
   have s6:aG (.nm 6) (iOp bO (iOp dIx (iV 1) (iOp dIx (iV 3) (iC (.int 0)))) (iOp dIx (iV 2) (iV 4))) [x0,some (.d (.lst (mpI m tops))),some (.d (.lst (mpI m bots))),some (.h h),some (.d (.int ((p:Nat):Int))),some (.d (.int (tops p*bots l0))),o6] (st++u)=some (.nx [x0,some (.d (.lst (mpI m tops))),some (.d (.lst (mpI m bots))),some (.h h),some (.d (.int ((p:Nat):Int))),some (.d (.int (tops p*bots l0))),some (.d (.int (tops l0*bots p)))] (st++u)):=
    aC (ai (ai rfl (i0 _ _) (gG _ hl0)) (ai rfl rfl (gG _ hp0)) (cF _ (Sm.mulOk (ht l0 hl0) (hb p hp0))))
   generalize hM:tops p*bots l0=M at *
   generalize hB:tops l0*bots p=B at *
   have tg:bD dGt (iV 5) (iV 6) [x0,some (.d (.lst (mpI m tops))),some (.d (.lst (mpI m bots))),some (.h h),some (.d (.int ((p:Nat):Int))),some (.d (.int M)),some (.d (.int B))] (st++u)=some (decide (M > B),st++u):=bG rfl rfl (wA _ _ _)
   have tl:bD dLt (iV 5) (iV 6) [x0,some (.d (.lst (mpI m tops))),some (.d (.lst (mpI m bots))),some (.h h),some (.d (.int ((p:Nat):Int))),some (.d (.int M)),some (.d (.int B))] (st++u)=some (decide (M<B),st++u):=bG rfl rfl (v7 _ _ _)
   by_cases c1:M > B
   ·rw[decide_eq_true c1]at tg
    obtain⟨u',h',o4',o5',o6',i1,i2,i3⟩:=kQ ht hb ps (l0::r) u h (some (.d (.int ((p:Nat):Int)))) (some (.d (.int M))) (some (.d (.int B))) hps hl hg hh (by lia)
    refine⟨u',h',o4',o5',o6',?_,by rw[leastR,hM,hB,if_pos c1];exact i2,i3⟩
    have hb':bz [x0,some (.d (.lst (mpI m tops))),some (.d (.lst (mpI m bots))),some (.h h),some (.d (.int ((p:Nat):Int))),o5,o6] (st++u)=some (.ct [x0,some (.d (.lst (mpI m tops))),some (.d (.lst (mpI m bots))),some (.h h),some (.d (.int ((p:Nat):Int))),some (.d (.int M)),some (.d (.int B))] (st++u)):=by
     have inner:cv (dm dF (iV 3)) (ao (aG (.nm 5) (iOp bO (iOp dIx (iV 1) (iV 4)) (iOp dIx (iV 2) (iOp dIx (iV 3) (iC (.int 0)))))) (ao (aG (.nm 6) (iOp bO (iOp dIx (iV 1) (iOp dIx (iV 3) (iC (.int 0)))) (iOp dIx (iV 2) (iV 4)))) (ao (cv (bD dGt (iV 5) (iV 6)) pq bK) (cv (bD dLt (iV 5) (iV 6)) (aG (.nm 3) (dH (cI ag))) bK)))) bK [x0,some (.d (.lst (mpI m tops))),some (.d (.lst (mpI m bots))),some (.h h),some (.d (.int ((p:Nat):Int))),o5,o6] (st++u)=some (.ct [x0,some (.d (.lst (mpI m tops))),some (.d (.lst (mpI m bots))),some (.h h),some (.d (.int ((p:Nat):Int))),some (.d (.int M)),some (.d (.int B))] (st++u)):=by
      refine ix t0 (ar s5 (ar s6 ?_))
      have:=ix (a:=pq) (b:=bK) tg rfl
      simp only[ao,this];rfl
     show ao _ _ _ _=_
     simp only[ao,inner];rfl
    show eJ (.nm 4) bz (.int ((p:Nat):Int)::psD ps) _ _=_
    simp only[eJ,hs,qaa,hb']
    exact i1
   ·rw[decide_eq_false c1]at tg
    by_cases c2:M<B
    ·rw[decide_eq_true c2]at tl
     have hn:lg (st++(u++[.l []])) (st++u).length=some (psD []):=by rw[<-qbz];exact kz _ _
     have hlen:st.length<=(st++u).length:=by rw[qap];lia
     obtain⟨a1,a2⟩:=app (u++[.l []]) (st++u).length [] (some (.d (.int M))) (some (.d (.int B))) hn hlen (by decide)
     obtain⟨u',h',o4',o5',o6',i1,i2,i3⟩:=kQ ht hb ps [p] _ (st++u).length (some (.d (.int ((p:Nat):Int)))) (some (.d (.int M))) (some (.d (.int B))) hps (λx hx=>by rw[qaj.mp hx];exact hp0) a2 hlen (by simp at hz ⊢;lia)
     refine⟨u',h',o4',o5',o6',?_,by rw[leastR,hM,hB,if_neg c1,if_pos c2];exact i2,i3⟩
     have sn:aG (.nm 3) (dH (cI ag)) [x0,some (.d (.lst (mpI m tops))),some (.d (.lst (mpI m bots))),some (.h h),some (.d (.int ((p:Nat):Int))),some (.d (.int M)),some (.d (.int B))] (st++u)=some (.nx [x0,some (.d (.lst (mpI m tops))),some (.d (.lst (mpI m bots))),some (.h (st++u).length),some (.d (.int ((p:Nat):Int))),some (.d (.int M)),some (.d (.int B))] (st++(u++[.l []]))):=by rw[<-qbz];rfl
     have hb':bz [x0,some (.d (.lst (mpI m tops))),some (.d (.lst (mpI m bots))),some (.h h),some (.d (.int ((p:Nat):Int))),o5,o6] (st++u)=_:=ar (ix t0 (ar s5 (ar s6 (ar (dS tg rfl) (ix tl sn))))) a1
     show eJ (.nm 4) bz (.int ((p:Nat):Int)::psD ps) _ _=_
     simp only[eJ,hs,qaa,hb']
     exact i1
    ·rw[decide_eq_false c2]at tl
     obtain⟨a1,a2⟩:=app u h (l0::r) (some (.d (.int M))) (some (.d (.int B))) hg hh (by rw[qat]at hz ⊢;lia)
     obtain⟨u',h',o4',o5',o6',i1,i2,i3⟩:=kQ ht hb ps ((l0::r)++[p]) _ h (some (.d (.int ((p:Nat):Int)))) (some (.d (.int M))) (some (.d (.int B))) hps (λx hx=>by
      rcases qaM.mp hx with z|z
      ·exact hl x z
      ·rw[qaj.mp z];exact hp0) a2 hh (by rw[qap,qbZ];lia)
     refine⟨u',h',o4',o5',o6',?_,by rw[leastR,hM,hB,if_neg c1,if_neg c2];exact i2,i3⟩
     have hb':bz [x0,some (.d (.lst (mpI m tops))),some (.d (.lst (mpI m bots))),some (.h h),some (.d (.int ((p:Nat):Int))),o5,o6] (st++u)=_:=ar (ix t0 (ar s5 (ar s6 (ar (dS tg rfl) (dS tl rfl))))) a1
     show eJ (.nm 4) bz (.int ((p:Nat):Int)::psD ps) _ _=_
     simp only[eJ,hs,qaa,hb']
     exact i1
theorem CI (ht:∀ i,i<m->Sm (tops i)) (hb:∀ i,i<m->Sm (bots i)) {ps:List Nat} (hp:∀ x∈ps,x<m) (hz:ps.length<=1000):ir [.d (.lst (psD ps)),.d (.lst (mpI m tops)),.d (.lst (mpI m bots))] st=some (.d (.lst (psD (leastR tops bots ps []))),st):=by
 obtain⟨u',h',o4',o5',o6',i1,i2,i3⟩:=kQ (st:=st) (x0:=some (.d (.lst (psD ps)))) ht hb ps [] [.l []] st.length none none none hp (λx hx=>nomatch hx) (kz st []) (qan _) (by simpa using hz)
 have hit:aE (iV 0) [some (.d (.lst (psD ps))),some (.d (.lst (mpI m tops))),some (.d (.lst (mpI m bots))),some (.h st.length),none,none,none] (st++[.l []])=some (psD ps,st++[.l []]):=rfl
 have:=mE (n:=7) (k:=3) (b:=fB) (ws:=[.d (.lst (psD ps)),.d (.lst (mpI m tops)),.d (.lst (mpI m bots))]) (st:=st) (h:=h') rfl (ar (s:=st++[.l []]) (e:=[some (.d (.lst (psD ps))),some (.d (.lst (mpI m tops))),some (.d (.lst (mpI m bots))),some (.h st.length),none,none,none]) rfl (ar (dz hit i1) rfl)) i3 i2
 rw[qdP]at this
 exact this
end
end Own
set_option maxHeartbeats 1000000
namespace Own
open PySem L2
open Sx (Pb Tb Good Named Fe LV ZV piv lexP leastR leaveL sumN unit colV basis)
theorem vz (s:Sto) (i:Int):iy s (.d (.int i)) (.d .non)=some (.bl false):=rfl
theorem qh (s:Sto):iy s (.d .non) (.d .non)=some (.bl true):=rfl
theorem zD (s:Sto) (l:List D):iy s (.d (.tup l)) (.d .non)=some (.bl false):=rfl
def cq (n:Nat):Nat->D
 |0=>.non
 |r+1=>.int (((n+r:Nat)):Int)
theorem vY (n m:Nat):D.non::cV (n:Int) m=(qac (m+1)).map (cq n):=by
 rw[qbW,qay,qbs]
 show _=D.non::_
 unfold cV
 congr 1
theorem kO (st:Sto) (ds:List D):bE st [.d (.lst ds)]=some (.int (ds.length:Nat)):=rfl
theorem no {P:Pb}{S:Tb}{st:Sto} (h:Okt P S):gv [.d (obD P S)] st=some (.d (.lst ((qac (P.m+1)).map (cq P.n))),st):=by
 have hm:=h.m64
 have hn:=h.n64
 have v0:iV 0 [some (.d (obD P S))] st=some (.d (obD P S),st):=rfl
 have a1:=df (P:=P) (S:=S) v0
 have a2:=eV (P:=P) (S:=S) v0
 refine bj (n:=1) (k:=1) (b:=jY) rfl (bF (ai (x:=.d (.lst [.non])) (y:=.d (.lst (cV (P.n:Int) P.m))) (s1:=st) rfl (aK ?_) ?_))
 ·show qz _ [some (.d (obD P S))] st=_
  have e:aa (aw "amounts" (iV 0)) (aa (iOp bu (aw "amounts" (iV 0)) (iCB bE (aa (aw "lines" (iV 0)) ag))) ag) [some (.d (obD P S))] st=some ([.d (.int (P.n:Int)),.d (.int ((P.n:Int)+(P.m:Int)))],st):=by
   refine ac a1 (ac (ai a1 (bi (ac a2 rfl) (kO _ _)) ?_) rfl)
   rw[d9];rfl
  simp only[qz,e,qaa]
  rw[if_pos (by lia),show ((P.n:Int)+(P.m:Int) - (P.n:Int)).toNat=P.m by lia]
 ·rw[<-vY]
  exact lI st (by rw[rO];simp;lia)
theorem By {n k:Nat}{f:Nat->Nat}:inD (.int (k:Int)) (mpI n (nI f))=decide (∃ c,c<n/\f c=k):=by
 rw[qcJ]
 unfold inD mpI
 rw[List.any_map,List.any_eq_true,decide_eq_true_eq]
 constructor
 ·rintro⟨c,hc,e⟩
  refine⟨c,qaK.mp hc,?_⟩
  have e:(((f c:Nat):Int)==(k:Int))=true:=e
  have:=beq_iff_eq.mp e
  lia
 ·rintro⟨c,hc,e⟩
  refine⟨c,qaK.mpr hc,?_⟩
  show (((f c:Nat):Int)==(k:Int))=true
  rw[e];exact beq_self_eq_true _
theorem AG {n k:Nat}{f:Nat->Nat} (h:∃ c,c<n/\f c=k):∃ c,c<n/\f c=k/\((qac n).map (nI f)).idxOf? (k:Int)=some c:=by
 obtain⟨c,hc,e⟩:=h
 cases q:((qac n).map (nI f)).idxOf? (k:Int) with
 |none=>
  have:=List.idxOf?_eq_none_iff.mp q
  exact absurd (qbe.mpr ⟨c,qaK.mpr hc,by unfold nI;rw[e]⟩) this
 |some j=>
  obtain⟨h1,h2,_⟩:=qe5.mp q
  rw[qai,qah]at h1
  refine⟨j,h1,?_,rfl⟩
  rw[qgi,qfQ]at h2
  have h2:((f j:Nat):Int)=(k:Int):=h2
  lia
theorem jN {P:Pb}{S:Tb} (h:Good P S) {i j:Nat} (hi:i<P.m) (hj:j<P.m) (e:S.kept i=S.kept j):i=j:=by
 rcases Nat.decEq i j with hne|he
 ·exfalso
  have h0:=Sx.det_eq0 (basis P S) hi hj hne (by unfold basis;rw[e])
  have:=h.pos
  rw[h.dt,h0]at this
  exact absurd this (by decide)
 ·exact he
theorem zN {P:Pb}{S:Tb}{st:Sto} (h:Okt P S) {s:Nat} (hs:s<=P.m):eU [.d (obD P S),.d (cq P.n s)] st=some (.d (.lst (mpI P.m λi=>LV P S i s)),st):=by
 have hg:=h.good
 have hm:=h.m64
 have hn:=h.n64
 cases s with
 |zero=>
  have e:mpI P.m (λi=>LV P S i 0)=mpI P.m λi=>S.T i P.n:=cn λi hi=>by
   have e:=hg.entry (c:=P.n) (qan _) hi
   have c1:colV P S P.n=P.b:=by unfold Sx.colV;rw[if_neg (qa2 _)]
   rw[c1]at e
   unfold LV Sx.XV
   rw[if_pos rfl,<-e]
  rw[e]
  have a2:=eV (P:=P) (S:=S) (env:=[some (.d (obD P S)),some (.d .non),none]) (st:=st) (a:=iV 0) rfl
  refine bj (n:=3) (k:=2) (b:=eQ) rfl (kZ (ix (s:=st) (bG (x:=.d .non) rfl rfl (qh st)) (bF (aK (bQ (bN a2) (by rw[d9];lia) ?_)))))
  exact iH (g:=lnD P.n S.T) (λi=>D.int (S.T i P.n)) λi _=>ai rfl rfl (vb st)
 |succ r=>
  have hr:r<P.m:=by lia
  have v0:∀ o,iV 0 [some (.d (obD P S)),some (.d (.int ((P.n+r:Nat):Int))),o] st=some (.d (obD P S),st):=λ_=>rfl
  have af:=mF (P:=P) (S:=S) (v0 none)
  have hXV:Sx.XV P (r+1)=unit r:=by unfold Sx.XV;rw[if_neg (by lia),qbR]
  have tI:bD dIn (iV 1) (aw "free" (iV 0)) [some (.d (obD P S)),some (.d (.int ((P.n+r:Nat):Int))),none] st=some (decide (∃ c,c<P.n/\S.free c=P.n+r),st):=by
   refine bG rfl af ?_
   simp only[dIn,iZ,dR,se,qaa,and_self,if_true,By]
  have t0:bD iy (iV 1) (iC .non) [some (.d (obD P S)),some (.d (.int ((P.n+r:Nat):Int))),none] st=some (false,st):=bG rfl rfl (vz st _)
  refine bj (n:=3) (k:=2) (b:=eQ) rfl (ar (dS t0 rfl) ?_)
  by_cases hf:∃ c,c<P.n/\S.free c=P.n+r
  ·rw[decide_eq_true hf]at tI
   obtain⟨c,hc,ec,hidx⟩:=AG hf
   have e:mpI P.m (λi=>LV P S i (r+1))=mpI P.m λi=>S.T i c:=cn λi hi=>by
    have e:=hg.entry (c:=c) (by lia) hi
    have c1:colV P S c=unit r:=by unfold Sx.colV;rw[if_pos hc,ec,h.named.one r hr]
    rw[c1]at e
    unfold LV
    rw[hXV,<-e]
   rw[e]
   have sx:aG (.nm 2) (xK (aw "free" (iV 0)) (aa (iV 1) ag)) [some (.d (obD P S)),some (.d (.int ((P.n+r:Nat):Int))),none] st=some (.nx [some (.d (obD P S)),some (.d (.int ((P.n+r:Nat):Int))),some (.d (.int (c:Int)))] st):=by
    refine aC ?_
    have ei:jP (mpI P.n (nI S.free))=some ((qac P.n).map (nI S.free)):=by rw[cC];exact kJ _
    simp only[xK,af,qaa,show aa (iV 1) ag [some (.d (obD P S)),some (.d (.int ((P.n+r:Nat):Int))),none] st=some ([.d (.int ((P.n+r:Nat):Int))],st) from rfl,ei]
    rw[if_pos (by rw[qai,qah];lia),hidx];rfl
   have a2:=eV (P:=P) (S:=S) (v0 (some (.d (.int (c:Int)))))
   refine kZ (ix tI (ar sx (bF (aK (bQ (bN a2) (by rw[d9];lia) ?_)))))
   exact iH (g:=lnD P.n S.T) (λi=>D.int (S.T i c)) λi _=>ai rfl rfl (sN st (by lia))
  ·rw[decide_eq_false hf]at tI
   obtain⟨j,hj,ej⟩:∃ j,j<P.m/\S.kept j=P.n+r:=(h.named.all (P.n+r) (by lia)).elim (λz=>absurd z hf) id
   have e:mpI P.m (λi=>LV P S i (r+1))=mpI P.m λi=>if S.kept i=P.n+r then S.p else 0:=cn λi hi=>by
    have e:=Sx.det_kept hg hi hj
    have c1:basis P S j=unit r:=by unfold Sx.basis;rw[ej,h.named.one r hr]
    rw[c1]at e
    unfold LV
    rw[hXV,e]
    by_cases hij:i=j
    ·rw[if_pos hij,if_pos (by rw[hij];exact ej)]
    ·rw[if_neg hij,if_neg λz=>hij (jN hg hi hj (z.trans ej.symm))]
   rw[e]
   have a2:=pW (P:=P) (S:=S) (v0 none)
   refine ar (dS tI rfl) (bF (aK (bQ (bN a2) (by rw[aU];lia) ?_)))
   refine iH (g:=λi=>D.int (nI S.kept i)) (λi=>D.int (if S.kept i=P.n+r then S.p else 0)) λi _=>?_
   have ap:=mG (P:=P) (S:=S) (env:=[some (.d (.int (nI S.kept i))),some (.d (.int ((P.n+r:Nat):Int))),some (.d (obD P S))]) (st:=st) (a:=iV 2) rfl
   have te:bD dEq (iV 0) (iV 1) [some (.d (.int (nI S.kept i))),some (.d (.int ((P.n+r:Nat):Int))),some (.d (obD P S))] st=some (decide (S.kept i=P.n+r),st):=by
    refine bG rfl rfl ?_
    rw[uV]
    congr 2
    rw[qcJ,beq_iff_eq,decide_eq_true_eq]
    unfold nI;lia
   by_cases hk:S.kept i=P.n+r
   ·rw[decide_eq_true hk]at te
    rw[if_pos hk]
    exact uE te ap
   ·rw[decide_eq_false hk]at te
    rw[if_neg hk]
    exact xb te rfl
theorem qx (m:Nat) (f:Nat->Int):jz 0 (mpI m f)=(qac m).map λi=>D.tup [.int ((i:Nat):Int),.int (f i)]:=by
 apply qbg
 intro i
 rw[lK,qaO]
 by_cases hi:i<m
 ·rw[cp hi,qbm hi,qbT];rfl
 ·rw[qaQ (by rw[aU];lia),qaQ (by rw[qah];lia)];rfl
theorem ug {tt:Tf}{te:Ef}{l:Ev}{st:Sto}{g:Nat->D×D} (p:Nat->Bool) (F:Nat->D):∀ {ks:List Nat},(∀ k∈ks,tt (some (.d (g k).1)::some (.d (g k).2)::l) st=some (p k,st)/\(p k=true->te (some (.d (g k).1)::some (.d (g k).2)::l) st=some (.d (F k),st)))->
  lcI (.tp [0,1]) tt te (none::none::l) (ks.map λk=>D.tup [(g k).1,(g k).2]) st=some ((ks.filter p).map F,st)
 |[],_=>rfl
 |k::ks,h=>by
  have ih:=ug (tt:=tt) (te:=te) (l:=l) (st:=st) (g:=g) p F (ks:=ks) λx hx=>h x (qal _ hx)
  obtain⟨h1,h2⟩:=h k qaf
  rw[qay]
  unfold lcI
  rw[show eH (.tp [0,1]) (.d (.tup [(g k).1,(g k).2])) (none::none::l)=some (some (.d (g k).1)::some (.d (g k).2)::l) from rfl,qaa,h1,qaa]
  cases hp:p k with
  |true=>rw[if_pos rfl,h2 hp,qaa,ih,qdu hp];rfl
  |false=>rw[if_neg (show ¬ (false=true) by decide),ih,qdv (by rw[hp];decide)]
def jn (P:Pb) (S:Tb) (c:Nat):List Nat:=(qac P.m).filter λi=>decide (S.T i c > 0)
def i7 (P:Pb) (S:Tb) (c:Nat):List Nat:=leaveL (λs i=>LV P S i s) (λi=>S.T i c) (qac (P.m+1)) (jn P S c)
theorem gI {tops bots:Nat->Int}{m:Nat}:∀ {ps least:List Nat},(∀ x∈ps,x<m)->(∀ x∈least,x<m)->(∀ x∈leastR tops bots ps least,x<m)/\(leastR tops bots ps least).length<=ps.length+least.length
 |[],least,_,h=>by rw[leastR];exact⟨h,by simp⟩
 |p::ps,[],hp,_=>by
  rw[leastR]
  have:=gI (tops:=tops) (bots:=bots) (ps:=ps) (least:=[p]) (λx hx=>hp x (qal _ hx)) λx hx=>by rw[qaj.mp hx];exact hp p qaf
  exact⟨this.1,by have:=this.2;simp at this ⊢;lia⟩
 |p::ps,l0::r,hp,hl=>by
  have hps:∀ x∈ps,x<m:=λx hx=>hp x (qal _ hx)
  have hp0:=hp p qaf
  rw[leastR]
  split
  ·have:=gI (tops:=tops) (bots:=bots) hps hl
   exact⟨this.1,by have:=this.2;simp at this ⊢;lia⟩
  ·split
   ·have:=gI (tops:=tops) (bots:=bots) (ps:=ps) (least:=[p]) hps λx hx=>by rw[qaj.mp hx];exact hp0
    exact⟨this.1,by have:=this.2;simp at this ⊢;lia⟩
   ·have:=gI (tops:=tops) (bots:=bots) (ps:=ps) (least:=(l0::r)++[p]) hps λx hx=>by
     rcases qaM.mp hx with z|z
     ·exact hl x z
     ·rw[qaj.mp z];exact hp0
    exact⟨this.1,by have:=this.2;simp at this ⊢;lia⟩
section
variable {P:Pb}{S:Tb}{st:Sto}{c:Nat}
theorem uZ (h:Okt P S) (hc:c<=P.n):∀ (ss ps:List Nat) (o4:Option W),(∀ s∈ss,s<=P.m)->(∀ x∈ps,x<P.m)->ps.length<=1000->
  ∃ o4',eJ (.nm 4) im (ss.map (cq P.n)) [some (.d (obD P S)),some (.d (.int (c:Int))),some (.d (.lst (mpI P.m λi=>S.T i c))),some (.d (.lst (psD ps))),o4] st=some (.nx [some (.d (obD P S)),some (.d (.int (c:Int))),some (.d (.lst (mpI P.m λi=>S.T i c))),some (.d (.lst (psD (leaveL (λs i=>LV P S i s) (λi=>S.T i c) ss ps)))),o4'] st)
 |[],ps,o4,_,_,_=>⟨o4,rfl⟩
 |s::ss,ps,o4,hs,hp,hz=>by
  have hset:eH (.nm 4) (.d (cq P.n s)) [some (.d (obD P S)),some (.d (.int (c:Int))),some (.d (.lst (mpI P.m λi=>S.T i c))),some (.d (.lst (psD ps))),o4]=some [some (.d (obD P S)),some (.d (.int (c:Int))),some (.d (.lst (mpI P.m λi=>S.T i c))),some (.d (.lst (psD ps))),some (.d (cq P.n s))]:=rfl
  have t0:bD dLt (iCB bE (aa (iV 3) ag)) (iC (.int 2)) [some (.d (obD P S)),some (.d (.int (c:Int))),some (.d (.lst (mpI P.m λi=>S.T i c))),some (.d (.lst (psD ps))),some (.d (cq P.n s))] st=some (decide (ps.length<2),st):=by
   refine bG (bi (ws:=[.d (.lst (psD ps))]) rfl (kO _ _)) rfl ?_
   rw[vk,v7]
   congr 2
   rw[qcJ,decide_eq_true_eq,decide_eq_true_eq]
   lia
  rw[qay,leaveL]
  by_cases h2:ps.length<2
  ·rw[decide_eq_true h2]at t0
   rw[if_pos h2]
   refine⟨some (.d (cq P.n s)),?_⟩
   have hb:im [some (.d (obD P S)),some (.d (.int (c:Int))),some (.d (.lst (mpI P.m λi=>S.T i c))),some (.d (.lst (psD ps))),some (.d (cq P.n s))] st=some (.bk [some (.d (obD P S)),some (.d (.int (c:Int))),some (.d (.lst (mpI P.m λi=>S.T i c))),some (.d (.lst (psD ps))),some (.d (cq P.n s))] st):=by
    have:=ix (a:=sR) (b:=bK) t0 rfl
    show ao _ _ _ _=_
    simp only[ao,this];rfl
   simp only[eJ,hset,qaa,hb]
  ·rw[decide_eq_false h2]at t0
   rw[if_neg h2]
   have e1:=zN (st:=st) h (hs s qaf)
   have e2:=CI (st:=st) (tops:=λi=>LV P S i s) (bots:=λi=>S.T i c) (m:=P.m) (λi hi=>h.sL i s hi (hs s qaf)) (λi hi=>h.sT i c hi hc) hp hz
   have hmem:=gI (tops:=λi=>LV P S i s) (bots:=λi=>S.T i c) (m:=P.m) (ps:=ps) (least:=[]) hp (λx hx=>nomatch hx)
   obtain⟨o4',ih⟩:=uZ h hc ss (leastR (λi=>LV P S i s) (λi=>S.T i c) ps []) (some (.d (cq P.n s))) (λx hx=>hs x (qal _ hx)) hmem.1 (by have:=hmem.2;simp at this;lia)
   refine⟨o4',?_⟩
   have hb:im [some (.d (obD P S)),some (.d (.int (c:Int))),some (.d (.lst (mpI P.m λi=>S.T i c))),some (.d (.lst (psD ps))),some (.d (cq P.n s))] st=some (.nx [some (.d (obD P S)),some (.d (.int (c:Int))),some (.d (.lst (mpI P.m λi=>S.T i c))),some (.d (.lst (psD (leastR (λi=>LV P S i s) (λi=>S.T i c) ps [])))),some (.d (cq P.n s))] st):=
    ar (dS t0 rfl) (aC (az (ac rfl (ac (az (ws:=[.d (obD P S),.d (cq P.n s)]) rfl e1) (ac rfl rfl))) e2))
   simp only[eJ,hset,qaa,hb]
   exact ih
def t5 (l:List Nat):D:=match l with
 |[]=>.non
 |r::_=>.int ((r:Nat):Int)
theorem ue (h:Okt P S) (hc:c<=P.n):jU [.d (obD P S),.d (.int (c:Int))] st=some (.d (t5 (i7 P S c)),st):=by
 have hm:=h.m64
 have a1:=eV (P:=P) (S:=S) (env:=[some (.d (obD P S)),some (.d (.int (c:Int))),none,none,none]) (st:=st) (a:=iV 0) rfl
 have s2:aG (.nm 2) (aD (iLc 1 [1] (aE (aw "lines" (iV 0))) (.nm 0) aS lY)) [some (.d (obD P S)),some (.d (.int (c:Int))),none,none,none] st=some (.nx [some (.d (obD P S)),some (.d (.int (c:Int))),some (.d (.lst (mpI P.m λi=>S.T i c))),none,none] st):=
  aC (aK (bQ (bN a1) (by rw[d9];lia) (iH (g:=lnD P.n S.T) (λi=>D.int (S.T i c)) λi _=>ai rfl rfl (sN st hc))))
 have hen:fX (aa (iV 2) ag) [some (.d (obD P S)),some (.d (.int (c:Int))),some (.d (.lst (mpI P.m λi=>S.T i c))),none,none] st=some ((qac P.m).map λi=>D.tup [.int ((i:Nat):Int),.int (S.T i c)],st):=by
  rw[<-qx];rfl
 have s3:aG (.nm 3) (aD (iLc 2 [] (fX (aa (iV 2) ag)) (.tp [0,1]) lW lX)) [some (.d (obD P S)),some (.d (.int (c:Int))),some (.d (.lst (mpI P.m λi=>S.T i c))),none,none] st=some (.nx [some (.d (obD P S)),some (.d (.int (c:Int))),some (.d (.lst (mpI P.m λi=>S.T i c))),some (.d (.lst (psD (jn P S c)))),none] st):=
  aC (aK (bQ hen (by rw[qai,qah];lia) (ug (g:=λi=>(D.int ((i:Nat):Int),.int (S.T i c))) (λi=>decide (S.T i c > 0)) (λi=>D.int ((i:Nat):Int)) λi _=>⟨bG rfl rfl (wA _ _ _),λ_=>rfl⟩)))
 have hcm:∀ x∈jn P S c,x<P.m:=λx hx=>qaK.mp (qcH.mp hx).1
 have hcl:(jn P S c).length<=1000:=by
  have:(jn P S c).length<=(qac P.m).length:=List.length_filter_le ..
  rw[qah]at this
  lia
 obtain⟨o4,hl⟩:=uZ (st:=st) h hc (qac (P.m+1)) (jn P S c) none (λs hs=>by have:=qaK.mp hs;lia) hcm hcl
 have hw:=no (st:=st) h
 have hit:aE (ay gv (aa (iV 0) ag)) [some (.d (obD P S)),some (.d (.int (c:Int))),some (.d (.lst (mpI P.m λi=>S.T i c))),some (.d (.lst (psD (jn P S c)))),none] st=some ((qac (P.m+1)).map (cq P.n),st):=bN (az (ws:=[.d (obD P S)]) rfl hw)
 refine bj (n:=5) (k:=2) (b:=jW) rfl (ar s2 (ar s3 (ar (dz hit hl) (bF ?_))))
 show lN (dm dF (iV 3)) (iOp dIx (iV 3) (iC (.int 0))) (iC .non) [some (.d (obD P S)),some (.d (.int (c:Int))),some (.d (.lst (mpI P.m λi=>S.T i c))),some (.d (.lst (psD (i7 P S c)))),o4] st=_
 cases i7 P S c with
 |nil=>rfl
 |cons r l=>exact uE (s:=st) rfl (ai rfl rfl (show atI (.int ((r:Nat):Int)::psD l) 0=_ from xj _ _))
theorem sV (hz:∀ i,i<P.m->S.T i c<=0):i7 P S c=[]:=by
 have:jn P S c=[]:=by
  unfold jn
  rw[List.filter_eq_nil_iff]
  intro i hi
  have:=hz i (qaK.mp hi)
  simp;lia
 unfold i7
 rw[this,qbW,leaveL,if_pos (by decide)]
theorem tL (h:Okt P S) (hA:∀ i,i<P.m->∀ t,P.m<=t->P.A (S.kept i) t=0) (hz:¬ ∀ i,i<P.m->S.T i c<=0) :
  ∃ r,i7 P S c=[r]/\r<P.m/\0<S.T r c/\∀ i,i<P.m->i≠r->0<S.T i c->lexP (P.m+1) λs=>S.T r c*LV P S i s - S.T i c*LV P S r s:=by
 have hC:∀ i,i∈jn P S c↔i<P.m/\0<S.T i c:=λi=>by
  unfold jn
  rw[qcH,qaK,decide_eq_true_eq]
 have hne:jn P S c≠[]:=λe=>hz λi hi=>by
  have:¬ (i<P.m/\0<S.T i c):=λz=>by
   have:=(hC i).mpr z
   rw[e]at this
   exact absurd this qbx
  lia
 obtain⟨r,h1,h2⟩:=Sx.leaving_ok h.good hA hC (qgX List.filter_sublist List.nodup_range) hne
 refine⟨r,?_,h2⟩
 rw[<-h1]
 unfold i7
 congr 1
 rw[show (λj=>0+j)=id by funext j;simp,List.map_id]
end
end Own
set_option maxHeartbeats 1000000
namespace Own
open PySem L2
open Sx (Pb Tb Good Named Fe LV ZV piv lexP leastR leaveL sumN unit colV basis)
theorem lJ (s:Sto) (a b:D):dIx s (.d (.tup [a,b])) (.d (.int 0))=some a:=rfl
theorem kT (s:Sto) (a b:D):dIx s (.d (.tup [a,b])) (.d (.int 1))=some b:=rfl
theorem oE {a:Af}{env:Ev}{st s:Sto}{ws:List W}{ds:List D} (ha:a env st=some (ws,s)) (h:ly ws=some ds) (hl:ds.length<=1000):bm a env st=some (.d (.tup ds),s):=by
 simp only[bm,ha,qaa,h,hl,if_true]
section
variable {P:Pb}{S:Tb}{st:Sto}
theorem zT (s:Sto) (a:Int):dNe s (.d (.int a)) (.d (.int 0))=some (.bl (!(a==0))):=rfl
theorem Sm.two {a b:Int} (ha:Sm a) (hb:Sm b):(a*b).natAbs<2^8000:=oa (x:=4000) (y:=4000) ha hb
theorem vD (h:Okt P S) {c1 r1 c2 r2:Nat}{M B:Int} (hr1:r1<P.m) (hr2:r2<P.m) (hM:M.natAbs<2^8000) (hB:B.natAbs<2^8000):∀ (ss:List Nat) (o5 o6 o7:Option W),(∀ s∈ss,s<=P.m)->
  (∃ b,eJ (.nm 5) dc (ss.map (cq P.n)) [some (.d (obD P S)),some (.d (.tup [.int (c1:Int),.int (r1:Int)])),some (.d (.tup [.int (c2:Int),.int (r2:Int)])),some (.d (.int M)),some (.d (.int B)),o5,o6,o7] st=some (.rt (.d (.bl b)) st))\/
  ∃ e,eJ (.nm 5) dc (ss.map (cq P.n)) [some (.d (obD P S)),some (.d (.tup [.int (c1:Int),.int (r1:Int)])),some (.d (.tup [.int (c2:Int),.int (r2:Int)])),some (.d (.int M)),some (.d (.int B)),o5,o6,o7] st=some (.nx e st)
 |[],o5,o6,o7,_=>.inr ⟨_,rfl⟩
 |s::ss,o5,o6,o7,hs=>by
  have hsm:=hs s qaf
  have e1:=zN (st:=st) h hsm
  have hset:eH (.nm 5) (.d (cq P.n s)) [some (.d (obD P S)),some (.d (.tup [.int (c1:Int),.int (r1:Int)])),some (.d (.tup [.int (c2:Int),.int (r2:Int)])),some (.d (.int M)),some (.d (.int B)),o5,o6,o7]=some [some (.d (obD P S)),some (.d (.tup [.int (c1:Int),.int (r1:Int)])),some (.d (.tup [.int (c2:Int),.int (r2:Int)])),some (.d (.int M)),some (.d (.int B)),some (.d (cq P.n s)),o6,o7]:=rfl
  have s6:aG (.nm 6) (ay eU (aa (iV 0) (aa (iV 5) ag))) [some (.d (obD P S)),some (.d (.tup [.int (c1:Int),.int (r1:Int)])),some (.d (.tup [.int (c2:Int),.int (r2:Int)])),some (.d (.int M)),some (.d (.int B)),some (.d (cq P.n s)),o6,o7] st=some (.nx [some (.d (obD P S)),some (.d (.tup [.int (c1:Int),.int (r1:Int)])),some (.d (.tup [.int (c2:Int),.int (r2:Int)])),some (.d (.int M)),some (.d (.int B)),some (.d (cq P.n s)),some (.d (.lst (mpI P.m λi=>LV P S i s))),o7] st):=aC (az (ws:=[.d (obD P S),.d (cq P.n s)]) rfl e1)
  have m1:qbh B (LV P S r2 s):=mulOk 8000 4000 hB (h.sL r2 s hr2 hsm) (by decide)
  have m2:qbh M (LV P S r1 s):=mulOk 8000 4000 hM (h.sL r1 s hr1 hsm) (by decide)
  have s7:aG (.nm 7) (iOp qk (iOp bO (iV 4) (iOp dIx (iV 6) (iOp dIx (iV 2) (iC (.int 1))))) (iOp bO (iV 3) (iOp dIx (iV 6) (iOp dIx (iV 1) (iC (.int 1)))))) [some (.d (obD P S)),some (.d (.tup [.int (c1:Int),.int (r1:Int)])),some (.d (.tup [.int (c2:Int),.int (r2:Int)])),some (.d (.int M)),some (.d (.int B)),some (.d (cq P.n s)),some (.d (.lst (mpI P.m λi=>LV P S i s))),o7] st=some (.nx [some (.d (obD P S)),some (.d (.tup [.int (c1:Int),.int (r1:Int)])),some (.d (.tup [.int (c2:Int),.int (r2:Int)])),some (.d (.int M)),some (.d (.int B)),some (.d (cq P.n s)),some (.d (.lst (mpI P.m λi=>LV P S i s))),some (.d (.int (B*LV P S r2 s - M*LV P S r1 s)))] st):=
   aC (ai (ai rfl (ai rfl (ai rfl rfl (kT st _ _)) (gG st hr2)) (cF st m1)) (ai rfl (ai rfl (ai rfl rfl (kT st _ _)) (gG st hr1)) (cF st m2)) rfl)
  generalize B*LV P S r2 s - M*LV P S r1 s=Z at s7
  have tz:bD dNe (iV 7) (iC (.int 0)) [some (.d (obD P S)),some (.d (.tup [.int (c1:Int),.int (r1:Int)])),some (.d (.tup [.int (c2:Int),.int (r2:Int)])),some (.d (.int M)),some (.d (.int B)),some (.d (cq P.n s)),some (.d (.lst (mpI P.m λi=>LV P S i s))),some (.d (.int Z))] st=some (!(Z==0),st):=bG rfl rfl (zT st Z)
  rw[qay]
  cases hz:(Z==0) with
  |false=>
   rw[hz]at tz
   left
   refine⟨decide (Z > 0),?_⟩
   have hb:dc [some (.d (obD P S)),some (.d (.tup [.int (c1:Int),.int (r1:Int)])),some (.d (.tup [.int (c2:Int),.int (r2:Int)])),some (.d (.int M)),some (.d (.int B)),some (.d (cq P.n s)),o6,o7] st=some (.rt (.d (.bl (decide (Z > 0)))) st):=ar s6 (ar s7 (ix tz (bF (ai rfl rfl (wA st _ _)))))
   simp only[eJ,hset,qaa,hb]
  |true=>
   rw[hz]at tz
   have hb:dc [some (.d (obD P S)),some (.d (.tup [.int (c1:Int),.int (r1:Int)])),some (.d (.tup [.int (c2:Int),.int (r2:Int)])),some (.d (.int M)),some (.d (.int B)),some (.d (cq P.n s)),o6,o7] st=some (.nx [some (.d (obD P S)),some (.d (.tup [.int (c1:Int),.int (r1:Int)])),some (.d (.tup [.int (c2:Int),.int (r2:Int)])),some (.d (.int M)),some (.d (.int B)),some (.d (cq P.n s)),some (.d (.lst (mpI P.m λi=>LV P S i s))),some (.d (.int Z))] st):=ar s6 (ar s7 (dS tz rfl))
   have ih:=vD h (c1:=c1) (c2:=c2) hr1 hr2 hM hB ss (some (.d (cq P.n s))) (some (.d (.lst (mpI P.m λi=>LV P S i s)))) (some (.d (.int Z))) λx hx=>hs x (qal _ hx)
   simp only[eJ,hset,qaa,hb]
   exact ih
theorem B6 (h:Okt P S) {c1 r1 c2 r2:Nat} (hc1:c1<P.n) (hr1:r1<P.m) (hc2:c2<P.n) (hr2:r2<P.m):∃ b,dw [.d (obD P S),.d (.tup [.int (c1:Int),.int (r1:Int)]),.d (.tup [.int (c2:Int),.int (r2:Int)])] st=some (.d (.bl b),st):=by
 have v0:∀ o3 o4 o5 o6 o7,iV 0 [some (.d (obD P S)),some (.d (.tup [.int (c1:Int),.int (r1:Int)])),some (.d (.tup [.int (c2:Int),.int (r2:Int)])),o3,o4,o5,o6,o7] st=some (.d (obD P S),st):=λ_ _ _ _ _=>rfl
 have s3:aG (.nm 3) (iOp bO (iOp dIx (aw "goal" (iV 0)) (iOp dIx (iV 1) (iC (.int 0)))) (iOp dIx (iOp dIx (aw "lines" (iV 0)) (iOp dIx (iV 2) (iC (.int 1)))) (iOp dIx (iV 2) (iC (.int 0))))) [some (.d (obD P S)),some (.d (.tup [.int (c1:Int),.int (r1:Int)])),some (.d (.tup [.int (c2:Int),.int (r2:Int)])),none,none,none,none,none] st=some (.nx [some (.d (obD P S)),some (.d (.tup [.int (c1:Int),.int (r1:Int)])),some (.d (.tup [.int (c2:Int),.int (r2:Int)])),some (.d (.int (S.G c1*S.T r2 c2))),none,none,none,none] st):=
  aC (ai (ai (mJ (v0 _ _ _ _ _)) (ai rfl rfl (lJ st _ _)) (gG st (by lia))) (ai (ai (eV (v0 _ _ _ _ _)) (ai rfl rfl (kT st _ _)) (sC st hr2)) (ai rfl rfl (lJ st _ _)) (sN st (by lia))) (cF st (Sm.mulOk (h.sG c1 (by lia)) (h.sT r2 c2 hr2 (by lia)))))
 have s4:aG (.nm 4) (iOp bO (iOp dIx (aw "goal" (iV 0)) (iOp dIx (iV 2) (iC (.int 0)))) (iOp dIx (iOp dIx (aw "lines" (iV 0)) (iOp dIx (iV 1) (iC (.int 1)))) (iOp dIx (iV 1) (iC (.int 0))))) [some (.d (obD P S)),some (.d (.tup [.int (c1:Int),.int (r1:Int)])),some (.d (.tup [.int (c2:Int),.int (r2:Int)])),some (.d (.int (S.G c1*S.T r2 c2))),none,none,none,none] st=some (.nx [some (.d (obD P S)),some (.d (.tup [.int (c1:Int),.int (r1:Int)])),some (.d (.tup [.int (c2:Int),.int (r2:Int)])),some (.d (.int (S.G c1*S.T r2 c2))),some (.d (.int (S.G c2*S.T r1 c1))),none,none,none] st):=
  aC (ai (ai (mJ (v0 _ _ _ _ _)) (ai rfl rfl (lJ st _ _)) (gG st (by lia))) (ai (ai (eV (v0 _ _ _ _ _)) (ai rfl rfl (kT st _ _)) (sC st hr1)) (ai rfl rfl (lJ st _ _)) (sN st (by lia))) (cF st (Sm.mulOk (h.sG c2 (by lia)) (h.sT r1 c1 hr1 (by lia)))))
 have hit:aE (ay gv (aa (iV 0) ag)) [some (.d (obD P S)),some (.d (.tup [.int (c1:Int),.int (r1:Int)])),some (.d (.tup [.int (c2:Int),.int (r2:Int)])),some (.d (.int (S.G c1*S.T r2 c2))),some (.d (.int (S.G c2*S.T r1 c1))),none,none,none] st=some ((qac (P.m+1)).map (cq P.n),st):=bN (az (ws:=[.d (obD P S)]) rfl (no h))
 rcases vD (st:=st) h (c1:=c1) (c2:=c2) hr1 hr2 (Sm.two (h.sG c1 (by lia)) (h.sT r2 c2 hr2 (by lia))) (Sm.two (h.sG c2 (by lia)) (h.sT r1 c1 hr1 (by lia))) (qac (P.m+1)) none none none (λs hs=>by have:=qaK.mp hs;lia) with⟨b,e⟩|⟨e,he⟩
 ·exact⟨b,bj (n:=8) (k:=3) (b:=fj) rfl (ar s3 (ar s4 (kZ (dz hit e))))⟩
 ·exact⟨false,bj (n:=8) (k:=3) (b:=fj) rfl (ar s3 (ar s4 (ar (dz hit he) rfl)))⟩
def lu (P:Pb) (S:Tb) (x:D):Prop:=x=.non\/∃ c r,c<P.n/\S.G c<0/\i7 P S c=[r]/\r<P.m/\0<S.T r c/\(∀ i,i<P.m->i≠r->0<S.T i c->lexP (P.m+1) λs=>S.T r c*LV P S i s - S.T i c*LV P S r s)/\x=.tup [.int (c:Int),.int (r:Int)]
theorem pK (h:Okt P S) (hA:∀ i,i<P.m->∀ t,P.m<=t->P.A (S.kept i) t=0):∀ (j k:Nat) (x:D) (o2 o3:Option W),k+j=P.n->lu P S x->(x=.non->∀ c,c<k->0<=S.G c)->
  (∃ c,c<P.n/\S.G c<0/\(∀ i,i<P.m->S.T i c<=0)/\eJ (.nm 2) cZ ((qdU k j).map λc=>D.int ((c:Nat):Int)) [some (.d (obD P S)),some (.d x),o2,o3] st=some (.rt (.d (.tup [.int (c:Int),.non])) st))\/
  ∃ y o2' o3',lu P S y/\(y=.non->∀ c,c<P.n->0<=S.G c)/\eJ (.nm 2) cZ ((qdU k j).map λc=>D.int ((c:Nat):Int)) [some (.d (obD P S)),some (.d x),o2,o3] st=some (.nx [some (.d (obD P S)),some (.d y),o2',o3'] st)
 |0,k,x,o2,o3,hk,hx,hxn=>.inr ⟨x,o2,o3,hx,by rw[<-hk,qhU];exact hxn,rfl⟩
 |j+1,k,x,o2,o3,hk,hx,hxn=>by
  have hkn:k<P.n:=by lia
  have hset:eH (.nm 2) (.d (.int ((k:Nat):Int))) [some (.d (obD P S)),some (.d x),o2,o3]=some [some (.d (obD P S)),some (.d x),some (.d (.int ((k:Nat):Int))),o3]:=rfl
  have v0:∀ a b d,iV 0 [some (.d (obD P S)),a,b,d] st=some (.d (obD P S),st):=λ_ _ _=>rfl
  have tg:bD dGe (iOp dIx (aw "goal" (iV 0)) (iV 2)) (iC (.int 0)) [some (.d (obD P S)),some (.d x),some (.d (.int ((k:Nat):Int))),o3] st=some (decide (S.G k>=0),st):=bG (ai (mJ (v0 _ _ _)) rfl (gG st (by lia))) rfl (zk st _ _)
  rw[qgg,qay]
  by_cases hg:S.G k>=0
  ·rw[decide_eq_true hg]at tg
   have hb:cZ [some (.d (obD P S)),some (.d x),some (.d (.int ((k:Nat):Int))),o3] st=some (.ct [some (.d (obD P S)),some (.d x),some (.d (.int ((k:Nat):Int))),o3] st):=by
    have:=ix (a:=pq) (b:=bK) tg rfl
    show ao _ _ _ _=_
    simp only[ao,this];rfl
   have ih:=pK h hA j (k+1) x (some (.d (.int ((k:Nat):Int)))) o3 (by lia) hx λe c hc=>by
    by_cases z:c=k
    ·rw[z];exact hg
    ·exact hxn e c (by lia)
   simp only[eJ,hset,qaa,hb]
   exact ih
  ·rw[decide_eq_false hg]at tg
   have hgl:S.G k<0:=by lia
   have el:=ue (st:=st) (c:=k) h (by lia)
   have s3:aG (.nm 3) (bm (aa (iV 2) (aa (ay jU (aa (iV 0) (aa (iV 2) ag))) ag))) [some (.d (obD P S)),some (.d x),some (.d (.int ((k:Nat):Int))),o3] st=some (.nx [some (.d (obD P S)),some (.d x),some (.d (.int ((k:Nat):Int))),some (.d (.tup [.int ((k:Nat):Int),t5 (i7 P S k)]))] st):=
    aC (oE (ac rfl (ac (az (ws:=[.d (obD P S),.d (.int ((k:Nat):Int))]) rfl el) rfl)) rfl (by show 2<=1000;decide))
   by_cases hz:∀ i,i<P.m->S.T i k<=0
   ·rw[sV hz]at s3
    left
    refine⟨k,hkn,hgl,hz,?_⟩
    have tn:bD iy (iOp dIx (iV 3) (iC (.int 1))) (iC .non) [some (.d (obD P S)),some (.d x),some (.d (.int ((k:Nat):Int))),some (.d (.tup [.int ((k:Nat):Int),t5 []]))] st=some (true,st):=bG (ai rfl rfl (kT st _ _)) rfl (qh st)
    have hb:cZ [some (.d (obD P S)),some (.d x),some (.d (.int ((k:Nat):Int))),o3] st=some (.rt (.d (.tup [.int ((k:Nat):Int),.non])) st):=ar (dS tg rfl) (ar s3 (kZ (ix tn rfl)))
    simp only[eJ,hset,qaa,hb]
   ·obtain⟨r,l1,l2,l3,l4⟩:=tL h hA hz
    rw[l1]at s3
    have tn:bD iy (iOp dIx (iV 3) (iC (.int 1))) (iC .non) [some (.d (obD P S)),some (.d x),some (.d (.int ((k:Nat):Int))),some (.d (.tup [.int ((k:Nat):Int),.int ((r:Nat):Int)]))] st=some (false,st):=bG (ai rfl rfl (kT st _ _)) rfl (vz st _)
    have hnew:lu P S (.tup [.int ((k:Nat):Int),.int ((r:Nat):Int)]):=.inr ⟨k,r,hkn,hgl,l1,l2,l3,l4,rfl⟩
    have key:∃ y,lu P S y/\y≠.non/\cZ [some (.d (obD P S)),some (.d x),some (.d (.int ((k:Nat):Int))),o3] st=some (.nx [some (.d (obD P S)),some (.d y),some (.d (.int ((k:Nat):Int))),some (.d (.tup [.int ((k:Nat):Int),.int ((r:Nat):Int)]))] st):=by
     rcases hx with rfl|⟨c,r',c1,c2,c3,c4,c5,c6,rfl⟩
     ·have t1:bD iy (iV 1) (iC .non) [some (.d (obD P S)),some (.d .non),some (.d (.int ((k:Nat):Int))),some (.d (.tup [.int ((k:Nat):Int),.int ((r:Nat):Int)]))] st=some (true,st):=bG rfl rfl (qh st)
      have t2:fR (bD iy (iV 1) (iC .non)) (dm dF (ay dw (aa (iV 0) (aa (iV 3) (aa (iV 1) ag))))) [some (.d (obD P S)),some (.d .non),some (.d (.int ((k:Nat):Int))),some (.d (.tup [.int ((k:Nat):Int),.int ((r:Nat):Int)]))] st=some (true,st):=by simp only[fR,t1,qaa,if_true]
      exact⟨_,hnew,by simp,ar (dS tg rfl) (ar s3 (ar (dS tn rfl) (ix t2 rfl)))⟩
     ·obtain⟨b,eb⟩:=B6 (st:=st) h hkn l2 c1 c4
      have t1:bD iy (iV 1) (iC .non) [some (.d (obD P S)),some (.d (.tup [.int (c:Int),.int (r':Int)])),some (.d (.int ((k:Nat):Int))),some (.d (.tup [.int ((k:Nat):Int),.int ((r:Nat):Int)]))] st=some (false,st):=bG rfl rfl (zD st _)
      have t3:ay dw (aa (iV 0) (aa (iV 3) (aa (iV 1) ag))) [some (.d (obD P S)),some (.d (.tup [.int (c:Int),.int (r':Int)])),some (.d (.int ((k:Nat):Int))),some (.d (.tup [.int ((k:Nat):Int),.int ((r:Nat):Int)]))] st=some (.d (.bl b),st):=az (ws:=[.d (obD P S),.d (.tup [.int ((k:Nat):Int),.int ((r:Nat):Int)]),.d (.tup [.int (c:Int),.int (r':Int)])]) rfl eb
      have t2:fR (bD iy (iV 1) (iC .non)) (dm dF (ay dw (aa (iV 0) (aa (iV 3) (aa (iV 1) ag))))) [some (.d (obD P S)),some (.d (.tup [.int (c:Int),.int (r':Int)])),some (.d (.int ((k:Nat):Int))),some (.d (.tup [.int ((k:Nat):Int),.int ((r:Nat):Int)]))] st=some (b,st):=by simp only[fR,t1,dm,t3,qaa,qbE,if_false,dF,qaq]
      cases b with
      |true=>exact⟨_,hnew,by simp,ar (dS tg rfl) (ar s3 (ar (dS tn rfl) (ix t2 rfl)))⟩
      |false=>exact⟨_,.inr ⟨c,r',c1,c2,c3,c4,c5,c6,rfl⟩,by simp,ar (dS tg rfl) (ar s3 (ar (dS tn rfl) (dS t2 rfl)))⟩
    obtain⟨y,hy,hyn,hb⟩:=key
    have ih:=pK h hA j (k+1) y (some (.d (.int ((k:Nat):Int)))) (some (.d (.tup [.int ((k:Nat):Int),.int ((r:Nat):Int)]))) (by lia) hy λe=>absurd e hyn
    simp only[eJ,hset,qaa,hb]
    exact ih
theorem Cf (h:Okt P S) (hA:∀ i,i<P.m->∀ t,P.m<=t->P.A (S.kept i) t=0) :
  (∃ c,c<P.n/\S.G c<0/\(∀ i,i<P.m->S.T i c<=0)/\cJ [.d (obD P S)] st=some (.d (.tup [.int (c:Int),.non]),st))\/
  ∃ y,lu P S y/\(y=.non->∀ c,c<P.n->0<=S.G c)/\cJ [.d (obD P S)] st=some (.d y,st):=by
 have hn:=h.n64
 have af:=mF (P:=P) (S:=S) (env:=[some (.d (obD P S)),some (.d .non),none,none]) (st:=st) (a:=iV 0) rfl
 have hr:cH (aa (iCB bE (aa (aw "free" (iV 0)) ag)) ag) [some (.d (obD P S)),some (.d .non),none,none] st=some ((qdU 0 P.n).map λc=>D.int ((c:Nat):Int),st):=by
  have this:=lD (z:=(P.n:Int)) (m:=P.n) (bi (ac (b:=ag) af rfl) (show bE st [.d (.lst (mpI P.n (nI S.free)))]=some (.int (P.n:Int)) by rw[kO,aU])) (by lia) (by lia) (by lia)
  have e2:cV 0 P.n=(qdU 0 P.n).map λc=>D.int ((c:Nat):Int):=by
   unfold cV
   rw[qfu]
   exact qb7 λk _=>by rw[qdm]
  rw[<-e2]
  exact this
 rcases pK (st:=st) h hA P.n 0 .non none none (by lia) (.inl rfl) (λ_ c hc=>absurd hc (by lia)) with⟨c,c1,c2,c3,e⟩|⟨y,o2,o3,y1,y2,e⟩
 ·exact .inl ⟨c,c1,c2,c3,bj (n:=4) (k:=1) (b:=fP) rfl (ar (s:=st) (e:=[some (.d (obD P S)),some (.d .non),none,none]) rfl (kZ (dz hr e)))⟩
 ·exact .inr ⟨y,y1,y2,bj (n:=4) (k:=1) (b:=fP) rfl (ar (s:=st) (e:=[some (.d (obD P S)),some (.d .non),none,none]) rfl (ar (dz hr e) rfl))⟩
end
end Own
set_option maxHeartbeats 1000000
namespace Own
open PySem L2
open Sx (Pb Tb Good Named Fe LV ZV piv lexP leastR leaveL sumN unit colV basis)
theorem fI {n k:Nat} (h:k<n):ixN n (k:Int)=some k:=by
 unfold ixN
 rw[if_pos (by lia),if_pos (by lia)]
 rfl
theorem Ax (n:Nat) (f g:Nat->Int):jr (mpI n f) (mpI n g)=(qac n).map λc=>D.tup [.int (f c),.int (g c)]:=by
 apply qbg
 intro i
 rw[iI,qaO]
 by_cases hi:i<n
 ·rw[cp hi,cp hi,qbm hi];rfl
 ·rw[qaQ (l:=mpI n f) (by rw[aU];lia),qaQ (l:=qac n) (by rw[qah];lia)];rfl
theorem rW {te:Ef}{l:Ev}{st:Sto}{g:Nat->D×D} (F:Nat->D) {ks:List Nat} (h:∀ k∈ks,te (some (.d (g k).1)::some (.d (g k).2)::l) st=some (.d (F k),st)) :
  lcI (.tp [0,1]) aS te (none::none::l) (ks.map λk=>D.tup [(g k).1,(g k).2]) st=some (ks.map F,st):=by
 have:=ug (tt:=aS) (te:=te) (l:=l) (st:=st) (g:=g) (λ_=>true) F (ks:=ks) λk hk=>⟨rfl,λ_=>h k hk⟩
 rw[this,qfF.mpr λ_ _=>rfl]
theorem rT {st:Sto}{n e:Nat}{f g:Nat->Int}{p:Int} (he:e<=n) (p0:0<p) (sp:Sm p) (sf:∀ c,c<=n->Sm (f c)) (sg:∀ c,c<=n->Sm (g c)) (hn:n<=1000) :
  jZ [.d (.lst (mpI (n+1) f)),.d (.lst (mpI (n+1) g)),.d (.int (e:Int)),.d (.int p)] st=some (.d (.lst (mpI (n+1) λc=>if c=e then - f e else (g e*f c - f e*g c) / p)),st):=by
 have he1:e<n+1:=by lia
 have hz:eF (aa (iV 0) (aa (iV 1) ag)) [some (.d (.lst (mpI (n+1) f))),some (.d (.lst (mpI (n+1) g))),some (.d (.int (e:Int))),some (.d (.int p)),some (.d (.int (g e))),some (.d (.int (f e))),none] st=some ((qac (n+1)).map λc=>D.tup [.int (f c),.int (g c)],st):=by
  rw[<-Ax];rfl
 have hl:lcI (.tp [0,1]) aS lq [none,none,some (.d (.int (g e))),some (.d (.int (f e))),some (.d (.int p))] ((qac (n+1)).map λc=>D.tup [.int (f c),.int (g c)]) st=some (mpI (n+1) λc=>(g e*f c - f e*g c) / p,st):=by
  refine rW (g:=λc=>(D.int (f c),.int (g c))) (λc=>D.int ((g e*f c - f e*g c) / p)) λc hc=>?_
  have hc':c<=n:=by have:=qaK.mp hc;lia
  exact ai (ai (ai rfl rfl (cF st (Sm.mulOk (sg e he) (sf c hc')))) (ai rfl rfl (cF st (Sm.mulOk (sf e he) (sg c hc')))) rfl) rfl (ud st p0 sp)
 have s6:aG (.nm 6) (dH (iLc 2 [4,5,3] (eF (aa (iV 0) (aa (iV 1) ag))) (.tp [0,1]) aS lq)) [some (.d (.lst (mpI (n+1) f))),some (.d (.lst (mpI (n+1) g))),some (.d (.int (e:Int))),some (.d (.int p)),some (.d (.int (g e))),some (.d (.int (f e))),none] st=some (.nx [some (.d (.lst (mpI (n+1) f))),some (.d (.lst (mpI (n+1) g))),some (.d (.int (e:Int))),some (.d (.int p)),some (.d (.int (g e))),some (.d (.int (f e))),some (.h st.length)] (st++[.l (mpI (n+1) λc=>(g e*f c - f e*g c) / p)])):=by
  refine aC ?_
  have:=bQ (k:=2) (js:=[4,5,3]) hz (by rw[qai,qah];lia) hl
  simp only[dH,this,qaq]
 have s7:cg (iV 6) (iV 2) (iUn ou (iV 5)) [some (.d (.lst (mpI (n+1) f))),some (.d (.lst (mpI (n+1) g))),some (.d (.int (e:Int))),some (.d (.int p)),some (.d (.int (g e))),some (.d (.int (f e))),some (.h st.length)] (st++[.l (mpI (n+1) λc=>(g e*f c - f e*g c) / p)])=some (.nx [some (.d (.lst (mpI (n+1) f))),some (.d (.lst (mpI (n+1) g))),some (.d (.int (e:Int))),some (.d (.int p)),some (.d (.int (g e))),some (.d (.int (f e))),some (.h st.length)] (st++[.l (mpI (n+1) λc=>if c=e then - f e else (g e*f c - f e*g c) / p)])):=by
  have hs:io (st++[.l (mpI (n+1) λc=>(g e*f c - f e*g c) / p)]) (.h st.length) (.d (.int (e:Int))) (.d (.int (- f e)))=some (st++[.l (mpI (n+1) λc=>if c=e then - f e else (g e*f c - f e*g c) / p)]):=by
   simp only[io,kz,qaa,aU,fI he1,qaq,rn,i5]
  have v:iUn ou (iV 5) [some (.d (.lst (mpI (n+1) f))),some (.d (.lst (mpI (n+1) g))),some (.d (.int (e:Int))),some (.d (.int p)),some (.d (.int (g e))),some (.d (.int (f e))),some (.h st.length)] (st++[.l (mpI (n+1) λc=>(g e*f c - f e*g c) / p)])=some (.d (.int (- f e)),st++[.l (mpI (n+1) λc=>(g e*f c - f e*g c) / p)]):=rfl
  have v6:iV 6 [some (.d (.lst (mpI (n+1) f))),some (.d (.lst (mpI (n+1) g))),some (.d (.int (e:Int))),some (.d (.int p)),some (.d (.int (g e))),some (.d (.int (f e))),some (.h st.length)] (st++[.l (mpI (n+1) λc=>(g e*f c - f e*g c) / p)])=some (.h st.length,st++[.l (mpI (n+1) λc=>(g e*f c - f e*g c) / p)]):=rfl
  have v2:iV 2 [some (.d (.lst (mpI (n+1) f))),some (.d (.lst (mpI (n+1) g))),some (.d (.int (e:Int))),some (.d (.int p)),some (.d (.int (g e))),some (.d (.int (f e))),some (.h st.length)] (st++[.l (mpI (n+1) λc=>(g e*f c - f e*g c) / p)])=some (.d (.int (e:Int)),st++[.l (mpI (n+1) λc=>(g e*f c - f e*g c) / p)]):=rfl
  simp only[cg,v,v6,v2,qaa,hs,qaq]
 have:=mE (n:=7) (k:=4) (b:=mz) (ws:=[.d (.lst (mpI (n+1) f)),.d (.lst (mpI (n+1) g)),.d (.int (e:Int)),.d (.int p)]) (st:=st) (h:=st.length) rfl (ar (aC (ai rfl rfl (gG st he1))) (ar (aC (ai rfl rfl (gG st he1))) (ar s6 (ar s7 rfl)))) (qan _) (kz _ _)
 rw[qdP]at this
 exact this
abbrev stG (st0:Sto) (fr kp:List D) (fs:List (Str×W)):Sto:=st0++[.l fr,.l kp,.o fs]
def fsO (n:Nat) (ln:List D) (gl:List D) (p:Int) (L:Nat):List (Str×W):=[("amounts",.d (.int (n:Int))),("lines",.d (.lst ln)),("goal",.d (.lst gl)),("part",.d (.int p)),("free",.h L),("kept",.h (L+1))]
section
variable {st0:Sto}{fr kp:List D}{fs:List (Str×W)}
theorem sg2:(stG st0 fr kp fs)[st0.length+2]?=some (.o fs):=by rw[qau (by lia)];simp
theorem sg0:lg (stG st0 fr kp fs) st0.length=some fr:=by unfold lg;rw[qau (by lia)];simp
theorem sg1:lg (stG st0 fr kp fs) (st0.length+1)=some kp:=by unfold lg;rw[qau (by lia)];simp
theorem ss2 {gs:List (Str×W)}:(stG st0 fr kp fs).set (st0.length+2) (.o gs)=stG st0 fr kp gs:=by rw[qce _ _ (by lia)];simp
theorem ss0 {x:List D}:(stG st0 fr kp fs).set st0.length (.l x)=stG st0 x kp fs:=by rw[qce _ _ (by lia)];simp
theorem ss1 {x:List D}:(stG st0 fr kp fs).set (st0.length+1) (.l x)=stG st0 fr x fs:=by rw[qce _ _ (by lia)];simp
theorem mf {f:Str}{w:W}{a:Ef}{env:Ev} (h:a env (stG st0 fr kp fs)=some (.h (st0.length+2),stG st0 fr kp fs)) (hl:fs.lookup f=some w):aw f a env (stG st0 fr kp fs)=some (w,stG st0 fr kp fs):=by
 simp only[aw,h,qaa,sg2,hl,qaq]
theorem qG {f:Str}{x:D}{o v:Ef}{env:Ev} (hv:v env (stG st0 fr kp fs)=some (.d x,stG st0 fr kp fs)) (ho:o env (stG st0 fr kp fs)=some (.h (st0.length+2),stG st0 fr kp fs)) (hz:fs.length<1000) (hl:(fs.lookup f).isSome=true):j9 f o v env (stG st0 fr kp fs)=some (.nx env (stG st0 fr kp (lM f (.d x) fs))):=by
 simp only[j9,hv,ho,qaa,sg2,hz,hl,and_self,if_true,ss2]
end
section
variable {n L:Nat}{ln gl ln' gl':List D}{p p':Int}
theorem yS:lM ("goal" : Str) (.d (.lst gl')) (fsO n ln gl p L)=fsO n ln gl' p L:=rfl
theorem wQ:lM ("lines" : Str) (.d (.lst ln')) (fsO n ln gl p L)=fsO n ln' gl p L:=rfl
theorem yu:lM ("part" : Str) (.d (.int p')) (fsO n ln gl p L)=fsO n ln gl p' L:=rfl
theorem sJ:(fsO n ln gl p L).lookup ("lines" : Str)=some (.d (.lst ln)):=rfl
theorem yG:(fsO n ln gl p L).lookup ("goal" : Str)=some (.d (.lst gl)):=rfl
theorem yY:(fsO n ln gl p L).lookup ("part" : Str)=some (.d (.int p)):=rfl
end
def stO (st0:Sto) (P:Pb) (S:Tb):Sto:=stG st0 (mpI P.n (nI S.free)) (mpI P.m (nI S.kept)) (fsO P.n (bg P.m P.n S.T) (mpI (P.n+1) S.G) S.p st0.length)
theorem xi {st0:Sto}{P:Pb}{S:Tb}{ws:List W}{ws':List W} (h:vwA (stO st0 P S) ws=some ws'):vwA (stO st0 P S) (.h (st0.length+2)::ws)=some (.d (obD P S)::ws'):=by
 have e:vwW (stO st0 P S) (.h (st0.length+2))=some (.d (obD P S)):=by
  unfold vwW stO
  dsimp only
  rw[sg2]
  dsimp only
  rw[if_pos (by show 5<6;decide)]
  have:vwF (stG st0 (mpI P.n (nI S.free)) (mpI P.m (nI S.kept)) (fsO P.n (bg P.m P.n S.T) (mpI (P.n+1) S.G) S.p st0.length)) (fsO P.n (bg P.m P.n S.T) (mpI (P.n+1) S.G) S.p st0.length)=some [.int (P.n:Int),.lst (bg P.m P.n S.T),.lst (mpI (P.n+1) S.G),.int S.p,.lst (mpI P.n (nI S.free)),.lst (mpI P.m (nI S.kept))]:=by
   simp only[fsO,vwF,qaq]
   rw[show lg (stG st0 (mpI P.n (nI S.free)) (mpI P.m (nI S.kept)) [("amounts",W.d (.int (P.n:Int))),("lines",.d (.lst (bg P.m P.n S.T))),("goal",.d (.lst (mpI (P.n+1) S.G))),("part",.d (.int S.p)),("free",.h st0.length),("kept",.h (st0.length+1))]) st0.length=some (mpI P.n (nI S.free)) from sg0,show lg (stG st0 (mpI P.n (nI S.free)) (mpI P.m (nI S.kept)) [("amounts",W.d (.int (P.n:Int))),("lines",.d (.lst (bg P.m P.n S.T))),("goal",.d (.lst (mpI (P.n+1) S.G))),("part",.d (.int S.p)),("free",.h st0.length),("kept",.h (st0.length+1))]) (st0.length+1)=some (mpI P.m (nI S.kept)) from sg1]
   rfl
  rw[this];rfl
 simp only[vwA,e,h,qaa,qaq]
theorem vQ {m n r:Nat}{F:Nat->Nat->Int}{g:Nat->Int}:((qac m).map λi=>D.lst (mpI (n+1) (F i))).set r (.lst (mpI (n+1) g))=bg m n λi=>if i=r then g else F i:=by
 apply qbg
 intro i
 by_cases hi:i<m
 ·rw[n8 hi]
  by_cases e:i=r
  ·subst e
   rw[qba (by rw[qai,qah];exact hi)]
   unfold lnD;dsimp only;rw[if_pos rfl]
  ·rw[qbp (qbu e),qaO,qbm hi]
   unfold lnD;dsimp only;rw[if_neg e];rfl
 ·rw[qaQ (by rw[qbw,qai,qah];lia),qaQ (by rw[d9];lia)]
theorem y7 {st0:Sto}{P:Pb}{S:Tb} (h:Okt P S) {r e:Nat} (hr:r<P.m) (he:e<P.n):fu [.h (st0.length+2),.d (.int (r:Int)),.d (.int (e:Int))] (stO st0 P S)=some (.d .non,stO st0 P (piv S r e)):=by
 have hm:=h.m64
 have hn:=h.n64
 have hp:=h.good.pos
 -- turning,part
 generalize hT:S.T=T at *
 have fin:∀ (env:Ev) (s:Sto),gz [some (.h (st0.length+2)),some (.d (.int (r:Int))),some (.d (.int (e:Int))),none,none,none,none] (stO st0 P S)=some (.nx env s)->s.take (stO st0 P S).length=s->fu [.h (st0.length+2),.d (.int (r:Int)),.d (.int (e:Int))] (stO st0 P S)=some (.d .non,s):=λenv s h1 h2=>by
  show (gz [some (.h (st0.length+2)),some (.d (.int (r:Int))),some (.d (.int (e:Int))),none,none,none,none] (stO st0 P S)).bind _=_
  rw[h1]
  show some (W.d .non,s.take (stO st0 P S).length)=_
  rw[h2]
 have v0:∀ (a b c d g i:Option W) (s:Sto),iV 0 [some (.h (st0.length+2)),a,b,c,d,g,i] s=some (.h (st0.length+2),s):=λ_ _ _ _ _ _ _=>rfl
 have s3:aG (.nm 3) (iOp dIx (aw ("lines" : Str) (iV 0)) (iV 1)) [some (.h (st0.length+2)),some (.d (.int (r:Int))),some (.d (.int (e:Int))),none,none,none,none] (stO st0 P S)=some (.nx [some (.h (st0.length+2)),some (.d (.int (r:Int))),some (.d (.int (e:Int))),some (.d (.lst (mpI (P.n+1) (T r)))),none,none,none] (stO st0 P S)):=by
  refine aC (ai (mf (v0 _ _ _ _ _ _ _) sJ) rfl ?_)
  rw[hT];exact sC _ hr
 have s4:aG (.nm 4) (aw ("part" : Str) (iV 0)) [some (.h (st0.length+2)),some (.d (.int (r:Int))),some (.d (.int (e:Int))),some (.d (.lst (mpI (P.n+1) (T r)))),none,none,none] (stO st0 P S)=some (.nx [some (.h (st0.length+2)),some (.d (.int (r:Int))),some (.d (.int (e:Int))),some (.d (.lst (mpI (P.n+1) (T r)))),some (.d (.int S.p)),none,none] (stO st0 P S)):=aC (mf (v0 _ _ _ _ _ _ _) yY)
 have sT:∀ i c,i<P.m->c<=P.n->Sm (T i c):=λi c hi hc=>by rw[<-hT];exact h.sT i c hi hc
 have hfl:iLc 1 [3,2,4] (aE (aw ("lines" : Str) (iV 0))) (.nm 0) aS fZ [some (.h (st0.length+2)),some (.d (.int (r:Int))),some (.d (.int (e:Int))),some (.d (.lst (mpI (P.n+1) (T r)))),some (.d (.int S.p)),none,none] (stO st0 P S)=some ((qac P.m).map λi=>D.lst (mpI (P.n+1) λc=>if c=e then - T i e else (T r e*T i c - T i e*T r c) / S.p),stO st0 P S):=by
  have a1:=mf (f:=("lines" : Str)) (a:=iV 0) (st0:=st0) (fr:=mpI P.n (nI S.free)) (kp:=mpI P.m (nI S.kept)) (fs:=fsO P.n (bg P.m P.n S.T) (mpI (P.n+1) S.G) S.p st0.length) (v0 (some (.d (.int (r:Int)))) (some (.d (.int (e:Int)))) (some (.d (.lst (mpI (P.n+1) (T r))))) (some (.d (.int S.p))) none none _) sJ
  refine bQ (bN a1) (by rw[d9];lia) ?_
  show lcI (.nm 0) aS fZ [none,some (.d (.lst (mpI (P.n+1) (T r)))),some (.d (.int (e:Int))),some (.d (.int S.p))] (bg P.m P.n S.T) (stO st0 P S)=_
  rw[show bg P.m P.n S.T=(qac P.m).map (lnD P.n T) by rw[hT];rfl]
  refine iH (g:=lnD P.n T) _ λi hi=>?_
  have hi':=qaK.mp hi
  exact az (ws:=[.d (lnD P.n T i),.d (.lst (mpI (P.n+1) (T r))),.d (.int (e:Int)),.d (.int S.p)]) rfl (rT (f:=T i) (g:=T r) (by lia) hp h.sp (λc hc=>sT i c hi' hc) (λc hc=>sT r c hr hc) (by lia))
 have s5:i3 5 1 2 3 4 (iLc 1 [3,2,4] (aE (aw ("lines" : Str) (iV 0))) (.nm 0) aS fZ) [some (.h (st0.length+2)),some (.d (.int (r:Int))),some (.d (.int (e:Int))),some (.d (.lst (mpI (P.n+1) (T r)))),some (.d (.int S.p)),none,none] (stO st0 P S)=some (.nx [some (.h (st0.length+2)),some (.d (.int (r:Int))),some (.d (.int (e:Int))),some (.d (.lst (mpI (P.n+1) (T r)))),some (.d (.int S.p)),some (.d (.lst (bg P.m P.n (piv S r e).T))),none] (stO st0 P S)):=by
  simp only[i3,hfl,qaa,qb9,qb8]
  rw[qai,qah,fI hr,aU,fI (by lia:e<P.n+1),qaa,qaa,if_pos ⟨by lia,by show 5<7;decide,se _ _⟩,i5,vQ]
  show some (Fl.nx [_,_,_,_,_,some (W.d (.lst (bg P.m P.n _))),none] _)=_
  have:(λi=>if i=r then (λj=>if j=e then S.p else T r j) else λc=>if c=e then - T i e else (T r e*T i c - T i e*T r c) / S.p)=(piv S r e).T:=by
   funext i c
   show _=if i=r then (if c=e then S.p else S.T r c) else (if c=e then - S.T i e else (S.T r e*S.T i c - S.T i e*S.T r c) / S.p)
   rw[hT]
   by_cases hi:i=r
   ·rw[if_pos hi,if_pos hi]
   ·rw[if_neg hi,if_neg hi]
  rw[this]
 have s6:j9 ("goal" : Str) (iV 0) (ay jZ (aa (aw ("goal" : Str) (iV 0)) (aa (iV 3) (aa (iV 2) (aa (iV 4) ag))))) [some (.h (st0.length+2)),some (.d (.int (r:Int))),some (.d (.int (e:Int))),some (.d (.lst (mpI (P.n+1) (T r)))),some (.d (.int S.p)),some (.d (.lst (bg P.m P.n (piv S r e).T))),none] (stO st0 P S)=some (.nx [some (.h (st0.length+2)),some (.d (.int (r:Int))),some (.d (.int (e:Int))),some (.d (.lst (mpI (P.n+1) (T r)))),some (.d (.int S.p)),some (.d (.lst (bg P.m P.n (piv S r e).T))),none] (stG st0 (mpI P.n (nI S.free)) (mpI P.m (nI S.kept)) (fsO P.n (bg P.m P.n S.T) (mpI (P.n+1) (piv S r e).G) S.p st0.length))):=by
  have e0:(λc=>if c=e then - S.G e else (T r e*S.G c - S.G e*T r c) / S.p)=(piv S r e).G:=by
   funext c
   show _=if c=e then - S.G e else (S.T r e*S.G c - S.G e*S.T r c) / S.p
   rw[hT]
  have e1:=rT (st:=stO st0 P S) (f:=S.G) (g:=T r) (n:=P.n) (e:=e) (by lia) hp h.sp (λc hc=>h.sG c hc) (λc hc=>sT r c hr hc) (by lia)
  rw[e0]at e1
  have a1:=mf (f:=("goal" : Str)) (a:=iV 0) (st0:=st0) (fr:=mpI P.n (nI S.free)) (kp:=mpI P.m (nI S.kept)) (fs:=fsO P.n (bg P.m P.n S.T) (mpI (P.n+1) S.G) S.p st0.length) (v0 (some (.d (.int (r:Int)))) (some (.d (.int (e:Int)))) (some (.d (.lst (mpI (P.n+1) (T r))))) (some (.d (.int S.p))) (some (.d (.lst (bg P.m P.n (piv S r e).T)))) none _) yG
  have:=qG (f:=("goal" : Str)) (o:=iV 0) (v:=ay jZ (aa (aw ("goal" : Str) (iV 0)) (aa (iV 3) (aa (iV 2) (aa (iV 4) ag))))) (st0:=st0) (fr:=mpI P.n (nI S.free)) (kp:=mpI P.m (nI S.kept)) (fs:=fsO P.n (bg P.m P.n S.T) (mpI (P.n+1) S.G) S.p st0.length) (az (ac a1 (ac rfl (ac rfl (ac rfl rfl)))) e1) (v0 _ _ _ _ _ _ _) (by show 6<1000;decide) rfl
  rw[yS]at this
  exact this
 have s7:j9 ("lines" : Str) (iV 0) (iV 5) [some (.h (st0.length+2)),some (.d (.int (r:Int))),some (.d (.int (e:Int))),some (.d (.lst (mpI (P.n+1) (T r)))),some (.d (.int S.p)),some (.d (.lst (bg P.m P.n (piv S r e).T))),none] (stG st0 (mpI P.n (nI S.free)) (mpI P.m (nI S.kept)) (fsO P.n (bg P.m P.n S.T) (mpI (P.n+1) (piv S r e).G) S.p st0.length))=some (.nx [some (.h (st0.length+2)),some (.d (.int (r:Int))),some (.d (.int (e:Int))),some (.d (.lst (mpI (P.n+1) (T r)))),some (.d (.int S.p)),some (.d (.lst (bg P.m P.n (piv S r e).T))),none] (stG st0 (mpI P.n (nI S.free)) (mpI P.m (nI S.kept)) (fsO P.n (bg P.m P.n (piv S r e).T) (mpI (P.n+1) (piv S r e).G) S.p st0.length))):=by
  have:=qG (f:=("lines" : Str)) (o:=iV 0) (v:=iV 5) (x:=.lst (bg P.m P.n (piv S r e).T)) (env:=[some (.h (st0.length+2)),some (.d (.int (r:Int))),some (.d (.int (e:Int))),some (.d (.lst (mpI (P.n+1) (T r)))),some (.d (.int S.p)),some (.d (.lst (bg P.m P.n (piv S r e).T))),none]) (st0:=st0) (fr:=mpI P.n (nI S.free)) (kp:=mpI P.m (nI S.kept)) (fs:=fsO P.n (bg P.m P.n S.T) (mpI (P.n+1) (piv S r e).G) S.p st0.length) rfl rfl (by show 6<1000;decide) rfl
  rw[wQ]at this
  exact this
 have s8:j9 ("part" : Str) (iV 0) (iOp dIx (iV 3) (iV 2)) [some (.h (st0.length+2)),some (.d (.int (r:Int))),some (.d (.int (e:Int))),some (.d (.lst (mpI (P.n+1) (T r)))),some (.d (.int S.p)),some (.d (.lst (bg P.m P.n (piv S r e).T))),none] (stG st0 (mpI P.n (nI S.free)) (mpI P.m (nI S.kept)) (fsO P.n (bg P.m P.n (piv S r e).T) (mpI (P.n+1) (piv S r e).G) S.p st0.length))=some (.nx [some (.h (st0.length+2)),some (.d (.int (r:Int))),some (.d (.int (e:Int))),some (.d (.lst (mpI (P.n+1) (T r)))),some (.d (.int S.p)),some (.d (.lst (bg P.m P.n (piv S r e).T))),none] (stG st0 (mpI P.n (nI S.free)) (mpI P.m (nI S.kept)) (fsO P.n (bg P.m P.n (piv S r e).T) (mpI (P.n+1) (piv S r e).G) (piv S r e).p st0.length))):=by
  have ep:(piv S r e).p=T r e:=by show S.T r e=_;rw[hT]
  have:=qG (f:=("part" : Str)) (o:=iV 0) (v:=iOp dIx (iV 3) (iV 2)) (x:=.int (T r e)) (env:=[some (.h (st0.length+2)),some (.d (.int (r:Int))),some (.d (.int (e:Int))),some (.d (.lst (mpI (P.n+1) (T r)))),some (.d (.int S.p)),some (.d (.lst (bg P.m P.n (piv S r e).T))),none]) (st0:=st0) (fr:=mpI P.n (nI S.free)) (kp:=mpI P.m (nI S.kept)) (fs:=fsO P.n (bg P.m P.n (piv S r e).T) (mpI (P.n+1) (piv S r e).G) S.p st0.length) (ai rfl rfl (gG _ (by lia))) rfl (by show 6<1000;decide) rfl
  rw[yu]at this
  rw[ep]
  exact this
 generalize hfs:fsO P.n (bg P.m P.n (piv S r e).T) (mpI (P.n+1) (piv S r e).G) (piv S r e).p st0.length=FS at s8
 generalize hLN:W.d (.lst (bg P.m P.n (piv S r e).T))=LN at *
 generalize hTR:W.d (.lst (mpI (P.n+1) (T r)))=TR at *
 have ixh0:∀ {fr kp:List D}{k:Nat}{d:D},fr[k]?=some d->dIx (stG st0 fr kp FS) (.h st0.length) (.d (.int (k:Int)))=some d:=λ{fr kp k d} hk=>by
  show (lg (stG st0 fr kp FS) st0.length).bind (λds=>atI ds (k:Int))=_
  rw[sg0,qaa,eM hk]
 have ixh1:∀ {fr kp:List D}{k:Nat}{d:D},kp[k]?=some d->dIx (stG st0 fr kp FS) (.h (st0.length+1)) (.d (.int (k:Int)))=some d:=λ{fr kp k d} hk=>by
  show (lg (stG st0 fr kp FS) (st0.length+1)).bind (λds=>atI ds (k:Int))=_
  rw[sg1,qaa,eM hk]
 have lf:FS.lookup ("free" : Str)=some (.h st0.length):=by rw[<-hfs];rfl
 have lk:FS.lookup ("kept" : Str)=some (.h (st0.length+1)):=by rw[<-hfs];rfl
 have s9:aG (.nm 6) (iOp dIx (aw ("free" : Str) (iV 0)) (iV 2)) [some (.h (st0.length+2)),some (.d (.int (r:Int))),some (.d (.int (e:Int))),some TR,some (.d (.int S.p)),some LN,none] (stG st0 (mpI P.n (nI S.free)) (mpI P.m (nI S.kept)) FS)=some (.nx [some (.h (st0.length+2)),some (.d (.int (r:Int))),some (.d (.int (e:Int))),some TR,some (.d (.int S.p)),some LN,some (.d (.int (nI S.free e)))] (stG st0 (mpI P.n (nI S.free)) (mpI P.m (nI S.kept)) FS)):=aC (ai (mf (v0 _ _ _ _ _ _ _) lf) rfl (ixh0 (cp he)))
 have s10:cg (aw ("free" : Str) (iV 0)) (iV 2) (iOp dIx (aw ("kept" : Str) (iV 0)) (iV 1)) [some (.h (st0.length+2)),some (.d (.int (r:Int))),some (.d (.int (e:Int))),some TR,some (.d (.int S.p)),some LN,some (.d (.int (nI S.free e)))] (stG st0 (mpI P.n (nI S.free)) (mpI P.m (nI S.kept)) FS)=some (.nx [some (.h (st0.length+2)),some (.d (.int (r:Int))),some (.d (.int (e:Int))),some TR,some (.d (.int S.p)),some LN,some (.d (.int (nI S.free e)))] (stG st0 (mpI P.n (nI (piv S r e).free)) (mpI P.m (nI S.kept)) FS)):=by
  have q1:iOp dIx (aw ("kept" : Str) (iV 0)) (iV 1) [some (.h (st0.length+2)),some (.d (.int (r:Int))),some (.d (.int (e:Int))),some TR,some (.d (.int S.p)),some LN,some (.d (.int (nI S.free e)))] (stG st0 (mpI P.n (nI S.free)) (mpI P.m (nI S.kept)) FS)=some (.d (.int (nI S.kept r)),stG st0 (mpI P.n (nI S.free)) (mpI P.m (nI S.kept)) FS):=ai (mf (v0 _ _ _ _ _ _ _) lk) rfl (ixh1 (cp hr))
  have q2:=mf (f:=("free" : Str)) (a:=iV 0) (st0:=st0) (fr:=mpI P.n (nI S.free)) (kp:=mpI P.m (nI S.kept)) (fs:=FS) (v0 (some (.d (.int (r:Int)))) (some (.d (.int (e:Int)))) (some TR) (some (.d (.int S.p))) (some LN) (some (.d (.int (nI S.free e)))) _) lf
  have q3:iV 2 [some (.h (st0.length+2)),some (.d (.int (r:Int))),some (.d (.int (e:Int))),some TR,some (.d (.int S.p)),some LN,some (.d (.int (nI S.free e)))] (stG st0 (mpI P.n (nI S.free)) (mpI P.m (nI S.kept)) FS)=some (.d (.int (e:Int)),stG st0 (mpI P.n (nI S.free)) (mpI P.m (nI S.kept)) FS):=rfl
  have hs:io (stG st0 (mpI P.n (nI S.free)) (mpI P.m (nI S.kept)) FS) (.h st0.length) (.d (.int (e:Int))) (.d (.int (nI S.kept r)))=some (stG st0 (mpI P.n (nI (piv S r e).free)) (mpI P.m (nI S.kept)) FS):=by
   simp only[io,sg0,qaa,aU,fI he,qaq,ss0,i5]
   congr 3
   funext j
   show _=(((if j=e then S.kept r else S.free j:Nat)):Int)
   by_cases hj:j=e
   ·rw[if_pos hj,if_pos hj];rfl
   ·rw[if_neg hj,if_neg hj];rfl
  simp only[cg,q1,q2,q3,qaa,hs,qaq]
 have s11:cg (aw ("kept" : Str) (iV 0)) (iV 1) (iV 6) [some (.h (st0.length+2)),some (.d (.int (r:Int))),some (.d (.int (e:Int))),some TR,some (.d (.int S.p)),some LN,some (.d (.int (nI S.free e)))] (stG st0 (mpI P.n (nI (piv S r e).free)) (mpI P.m (nI S.kept)) FS)=some (.nx [some (.h (st0.length+2)),some (.d (.int (r:Int))),some (.d (.int (e:Int))),some TR,some (.d (.int S.p)),some LN,some (.d (.int (nI S.free e)))] (stG st0 (mpI P.n (nI (piv S r e).free)) (mpI P.m (nI (piv S r e).kept)) FS)):=by
  have q1:iV 6 [some (.h (st0.length+2)),some (.d (.int (r:Int))),some (.d (.int (e:Int))),some TR,some (.d (.int S.p)),some LN,some (.d (.int (nI S.free e)))] (stG st0 (mpI P.n (nI (piv S r e).free)) (mpI P.m (nI S.kept)) FS)=some (.d (.int (nI S.free e)),stG st0 (mpI P.n (nI (piv S r e).free)) (mpI P.m (nI S.kept)) FS):=rfl
  have q2:=mf (f:=("kept" : Str)) (a:=iV 0) (st0:=st0) (fr:=mpI P.n (nI (piv S r e).free)) (kp:=mpI P.m (nI S.kept)) (fs:=FS) (v0 (some (.d (.int (r:Int)))) (some (.d (.int (e:Int)))) (some TR) (some (.d (.int S.p))) (some LN) (some (.d (.int (nI S.free e)))) _) lk
  have q3:iV 1 [some (.h (st0.length+2)),some (.d (.int (r:Int))),some (.d (.int (e:Int))),some TR,some (.d (.int S.p)),some LN,some (.d (.int (nI S.free e)))] (stG st0 (mpI P.n (nI (piv S r e).free)) (mpI P.m (nI S.kept)) FS)=some (.d (.int (r:Int)),stG st0 (mpI P.n (nI (piv S r e).free)) (mpI P.m (nI S.kept)) FS):=rfl
  have hs:io (stG st0 (mpI P.n (nI (piv S r e).free)) (mpI P.m (nI S.kept)) FS) (.h (st0.length+1)) (.d (.int (r:Int))) (.d (.int (nI S.free e)))=some (stG st0 (mpI P.n (nI (piv S r e).free)) (mpI P.m (nI (piv S r e).kept)) FS):=by
   simp only[io,sg1,qaa,aU,fI hr,qaq,ss1,i5]
   congr 3
   congr 1
   funext j
   show _=(((if j=r then S.free e else S.kept j:Nat)):Int)
   by_cases hj:j=r
   ·rw[if_pos hj,if_pos hj];rfl
   ·rw[if_neg hj,if_neg hj];rfl
  simp only[cg,q1,q2,q3,qaa,hs,qaq]
 have:=fin _ _ (ar s3 (ar s4 (ar s5 (ar s6 (ar s7 (ar s8 (ar s9 (ar s10 s11)))))))) ?_
 ·rw[this,<-hfs];rfl
 ·refine qcO ?_
  unfold stO stG
  rw[qap,qap];exact qan _
end Own
namespace Sx
theorem sumN_abs {n:Nat}{f:Nat->Int}{B:Nat} (h:∀ k,k<n->(f k).natAbs<=B):(sumN n f).natAbs<=n*B:=by
 induction n with
 |zero=>rw[sumN];omega
 |succ n ih=>
  rw[sumN,qh5,qfN]
  have h1:=ih λk hk=>h k (by omega)
  have h2:=h n (by omega)
  have h3:=qgk (sumN n f) (f n)
  omega
theorem sg_abs (k:Nat):(sg k).natAbs=1:=by unfold sg;split<;>rfl
theorem det_le {B X:Nat}:∀ (m:Nat) {C:Nat->Vec},m*B<=X->(∀ k t,k<m->t<m->(C k t).natAbs<=B)->(det m C).natAbs<=X^m
 |0,C,_,_=>by rw[det];exact qan _
 |m+1,C,hX,h=>by
  rw[det]
  have hm:m*B<=X:=qa6 (qbS B (by omega)) hX
  have:=sumN_abs (n:=m+1) (f:=λk=>sg k*C k 0*det m (λj t=>C (skip k j) (t+1))) (B:=B*X^m) λk hk=>by
   have ih:=det_le m (C:=λj t=>C (skip k j) (t+1)) hm λj t hj ht=>h _ _ (by unfold skip;split<;>omega) (by omega)
   rw[qcU,qcU,sg_abs,qfN]
   exact qcv (h k 0 hk (by omega)) ih
  refine qa6 this ?_
  rw[<-Nat.mul_assoc,qhR,qfr (X^m)]
  exact qbS _ hX
structure Bd (P:Pb):Prop where
 m64:P.m<=64
 n64:P.n<=100
 A:∀ k,k<P.n+P.m->∀ t,t<P.m->(P.A k t).natAbs<=2^50
 b:∀ t,t<P.m->(P.b t).natAbs<=2^50
 g:∀ k,k<P.n+P.m->(P.g k).natAbs<=2^50
variable {P:Pb}
theorem Bd.det (h:Bd P) {C:Nat->Vec} (hC:∀ k t,k<P.m->t<P.m->(C k t).natAbs<=2^50):(det P.m C).natAbs<=2^3584:=by
 have hm:=h.m64
 have h1:=det_le (B:=2 ^ 50) (X:=2 ^ 56) P.m (C:=C) (by
  have:P.m*2^50<=64*2^50:=qbS _ hm
  exact qa6 this (by decide)) hC
 refine qa6 h1 ?_
 rw[<-qh4]
 exact qfC (by decide) (by omega)
theorem unit_le (r t:Nat):(unit r t).natAbs<=2^50:=by unfold unit;split<;>decide
theorem Bd.basis (h:Bd P) {S:Tb} (hn:Named P S) {v:Vec} (hv:∀ t,t<P.m->(v t).natAbs<=2^50) (i k t:Nat) (hk:k<P.m) (ht:t<P.m):(upd (basis P S) i v k t).natAbs<=2^50:=by
 unfold upd
 split
 ·exact hv t ht
 ·exact h.A _ (hn.bound.2 k hk) t ht
theorem Bd.T (h:Bd P) {S:Tb} (hg:Good P S) (hn:Named P S) {i c:Nat} (hi:i<P.m) (hc:c<=P.n):(S.T i c).natAbs<=2^3584:=by
 rw[hg.entry hc hi]
 refine h.det λk t hk ht=>h.basis hn (λt ht=>?_) i k t hk ht
 unfold colV
 by_cases hcn:c<P.n
 ·rw[if_pos hcn];exact h.A _ (hn.bound.1 c hcn) t ht
 ·rw[if_neg hcn];exact h.b t ht
theorem Bd.L (h:Bd P) {S:Tb} (hn:Named P S) (i s:Nat):(LV P S i s).natAbs<=2^3584:=by
 refine h.det λk t hk ht=>h.basis hn (λt ht=>?_) i k t hk ht
 unfold XV
 split
 ·exact h.b t ht
 ·exact unit_le _ _
theorem Bd.p (h:Bd P) {S:Tb} (hg:Good P S) (hn:Named P S):S.p.natAbs<=2^3584:=by
 rw[hg.dt]
 exact h.det λk t hk ht=>h.A _ (hn.bound.2 k hk) t ht
theorem Bd.G (h:Bd P) {S:Tb} (hg:Good P S) (hn:Named P S) {c:Nat} (hc:c<=P.n):(S.G c).natAbs<=65*(2^50*2^3584):=by
 rw[hg.goal c hc]
 have h1:=sumN_abs (n:=P.m) (f:=λi=>P.g (S.kept i)*S.T i c) (B:=2^50*2^3584) λi hi=>by
  rw[qcU]
  exact qcv (h.g _ (hn.bound.2 i hi)) (h.T hg hn hi hc)
 have h2:(S.p*gainC P S c).natAbs<=2^50*2^3584:=by
  rw[qcU,qfr]
  refine qcv ?_ (h.p hg hn)
  unfold gainC
  by_cases hcn:c<P.n
  ·rw[if_pos hcn];exact h.g _ (hn.bound.1 c hcn)
  ·rw[if_neg hcn];decide
 have h3:=Int.natAbs_sub_le (sumN P.m λi=>P.g (S.kept i)*S.T i c) (S.p*gainC P S c)
 have h4:P.m*(2^50*2^3584)<=64*(2^50*2^3584):=qbS _ h.m64
 generalize 2^50*2^3584=Z at *
 omega
end Sx
set_option maxHeartbeats 1000000
namespace Own
open PySem L2
open Sx (Pb Tb Good Named Fe LV ZV piv lexP leastR leaveL sumN unit colV basis)
theorem uG {a b:Nat} (h:a<b):2^a<2^b:=qfB (by decide) h
theorem xw {z:Int} (h:z.natAbs<=2^3584):Sm z:=qb0 h (uG (by decide))
theorem Bt {z:Int} (h:z.natAbs<=65*(2^50*2^3584)):Sm z:=by
 refine qb0 h ?_
 refine qb0 (qbS (2^50*2^3584) (by decide:65<=2^7)) ?_
 rw[<-qeP,<-qeP]
 exact uG (by decide)
theorem Bi {P:Pb}{S:Tb} (b:Sx.Bd P) (g:Good P S) (n:Named P S):Okt P S:=by
 have h1:=b.m64
 exact⟨g,n,by lia,b.n64,λi c hi hc=>xw (b.T g n hi hc),λi s _ _=>xw (b.L n i s),λc hc=>Bt (b.G g n hc),xw (b.p g n)⟩
theorem zM {c:Tf}{b:Sf}{m:Nat}{env:Ev}{st s:Sto} (h:c env st=some (false,s)):dI c b (m+1) env st=some (.nx env s):=by
 rw[dI,h];rfl
theorem yg {c:Tf}{b:Sf}{m:Nat}{env e:Ev}{st s s2:Sto}{r:Option Fl} (h:c env st=some (true,s)) (hb:b env s=some (.nx e s2)) (hr:dI c b m e s2=r):dI c b (m+1) env st=r:=by
 rw[dI,h]
 show ((b env s).bind _)=_
 rw[hb];exact hr
theorem BZ {c:Tf}{b:Sf}{m:Nat}{env:Ev}{st s s2:Sto}{w:W} (h:c env st=some (true,s)) (hb:b env s=some (.rt w s2)):dI c b (m+1) env st=some (.rt w s2):=by
 rw[dI,h]
 show ((b env s).bind _)=_
 rw[hb];rfl
theorem md {st:Sto}{a0 a2:Option W}:∀ (n a b:Nat) (o:Option W),b<n->∃ o',dI gx hW n [a0,some (.d (.int (a:Int))),a2,some (.d (.int (b:Int))),o] st=some (.nx [a0,some (.d (.int ((qeQ a b:Nat):Int))),a2,some (.d (.int 0)),o'] st)
 |0,a,b,o,h=>by lia
 |n+1,a,b,o,h=>by
  by_cases hb:b=0
  ·subst hb
   refine⟨o,?_⟩
   rw[Nat.gcd_zero_right]
   exact zM rfl
  ·have hf:(!((b:Int)==(0:Int)))=true:=by simp;lia
   obtain⟨o',ih⟩:=md n b (a%b) (some (.d (.int ((a%b:Nat):Int)))) (by have:=Nat.mod_lt a (Nat.pos_of_ne_zero hb);lia)
   refine⟨o',?_⟩
   have eg:qeQ a b=qeQ b (a%b):=by rw[qhT a b,Nat.gcd_rec b a,qhT]
   have hp:(0:Int)<(b:Int):=by lia
   have em:jM st (.d (.int (a:Int))) (.d (.int (b:Int)))=some (.int ((a%b:Nat):Int)):=by
    simp only[jM,hp,if_true];rfl
   rw[eg,<-ih]
   exact yg (s:=st) (bG rfl rfl ((zT st _).trans (by rw[hf]))) (ar (aC (ai rfl rfl em)) rfl) rfl
theorem rV {st:Sto}{ns:List Int} (hn:∀ n∈ns,Sm n):cU [.d (.lst (ns.map D.int))] st=some (.d (.int ((gO 0 ns:Nat):Int)),st):=by
 obtain⟨env',s2,e2,⟨o2,o3,o4,rfl⟩,rfl⟩:=fL (g:=.nm 2) (body:=ii) (ds:=ns.map D.int) (λi env s=>(∃ o2 o3 o4,env=[some (.d (.lst (ns.map D.int))),some (.d (.int ((gO 0 (ns.take i):Nat):Int))),o2,o3,o4])/\s=st)
  (env:=[some (.d (.lst (ns.map D.int))),some (.d (.int 0)),none,none,none]) (st:=st) ⟨⟨_,_,_,rfl⟩,rfl⟩ (λi d env s hd ⟨⟨o2,o3,o4,e⟩,es⟩=>by
   subst e es
   rw[qaO,qae]at hd
   obtain⟨n,hk,rfl⟩:=hd
   obtain⟨hi,hk'⟩:=qar.mp hk
   have hb:=hn n (qbF hk)
   have ea:tY s [.d (.int n)]=some (.int ((n.natAbs:Nat):Int)):=by
    show some (D.int (if n<0 then -n else n))=_
    rw[show (if n<0 then -n else n)=((n.natAbs:Nat):Int) by split<;>lia]
   have eg:gO 0 (ns.take (i+1))=qeQ (gO 0 (ns.take i)) n.natAbs:=by
    rw[List.take_succ_eq_append_getElem hi,hk',rg]
   obtain⟨o',ew⟩:=md (st:=s) (a0:=some (.d (.lst (ns.map D.int)))) (a2:=some (.d (.int n))) (2^8000) (gO 0 (ns.take i)) n.natAbs o4 (qdK hb (uG (by decide)))
   refine⟨_,[some (.d (.lst (ns.map D.int))),some (.d (.int ((gO 0 (ns.take (i+1)):Nat):Int))),some (.d (.int n)),some (.d (.int 0)),o'],s,rfl,.inl ?_,⟨_,_,_,rfl⟩,rfl⟩
   rw[eg]
   generalize ns.map D.int=L at ew ⊢
   exact ar (aC (bi (ac rfl rfl) ea)) ew)
 rw[qai,qcY]at e2
 generalize ns.map D.int=L at e2 ⊢
 exact bj (n:=5) (k:=1) (b:=dU) rfl (ar rfl (ar (dz (bN rfl) e2) rfl))
theorem tD {te:Ef}{st:Sto}{ns:List Int}{g:Int} (h0:0<g) (hg:Sm g) (ht:te=iOp nB (iV 0) (iV 1)):lcI (.nm 0) aS te [none,some (.d (.int g))] (ns.map D.int) st=some ((ns.map λx=>x / g).map D.int,st):=by
 subst ht
 have h:=zo (g:=.nm 0) (te:=iOp nB (iV 0) (iV 1)) (env:=[none,some (.d (.int g))]) (st:=st) (λd=>match d with|.int x=>.int (x / g)|d=>d) (ds:=ns.map D.int) λd hd=>by
  obtain⟨y,hy,rfl⟩:=qbe.mp hd
  exact⟨_,rfl,ai rfl rfl (ud st h0 hg)⟩
 rw[h,qbs,qbs];rfl
theorem sU {ns:List Int}{x:Int} (hx:x∈ns) (x0:x≠0) (hs:Sm x):0<((gO 0 ns:Nat):Int)/\Sm ((gO 0 ns:Nat):Int):=by
 obtain⟨g0,g1⟩:=xh hx x0
 refine⟨by lia,?_⟩
 show ((gO 0 ns:Nat):Int).natAbs<_
 rw[Int.natAbs_natCast]
 exact qb0 g1 hs
theorem tQ {st:Sto}{ns:List Int} (hb:∀ x∈ns,Sm x) (hp:∃ x∈ns,x≠0) (hl:ns.length<=1000):iQ [.d (.lst (ns.map D.int))] st=some (.d (.tup ((ns.map λx=>x / ((gO 0 ns:Nat):Int)).map D.int)),st):=by
 obtain⟨x,hx,x0⟩:=hp
 have e1:=rV (st:=st) hb
 obtain⟨g0,g1⟩:=sU hx x0 (hb x hx)
 generalize ((gO 0 ns:Nat):Int)=g at *
 have f0:(g==(0:Int))=false:=by simp;lia
 have key:=tD (te:=mh) (st:=st) (ns:=ns) g0 g1 rfl
 have hz:(ns.map D.int).length<=1000000:=by rw[qai];lia
 generalize (ns.map λx=>x / g).map D.int=G at *
 generalize ns.map D.int=N at *
 exact bj (n:=2) (k:=1) (b:=jX) rfl (ar (aC (i:=1) (az rfl e1)) (ar (dS (bG rfl rfl (by rw[uV,f0])) rfl) (bF (bi (ac (aK (bQ (bN rfl) hz key)) rfl) rfl))))
def acc (e:Nat->Nat) (y:Nat->Int) (i k:Nat):Int:=sumN i λj=>if e j=k then y j else 0
theorem sA (e:Nat->Nat) (y:Nat->Int) (i k:Nat):acc e y (i+1) k=acc e y i k+if e i=k then y i else 0:=rfl
theorem qs {e:Nat->Nat}{y:Nat->Int}{i k:Nat} (h:∀ j,j<i->e j≠k):acc e y i k=0:=by
 unfold acc
 rw[Sx.sumN_congr (g:=λ_=>0) λj hj=>if_neg (h j hj),Sx.sumN_zero]
theorem u6 {e:Nat->Nat}{y:Nat->Int}{d N i:Nat} (hd:d<=e i) (hj:∀ j,j<i->e j≠e i):(mpI N λr=>acc e y i (d+r)).set (e i - d) (.int (y i))=mpI N λr=>acc e y (i+1) (d+r):=by
 rw[i5]
 refine cn λr _=>?_
 rw[sA]
 by_cases hr:r=e i - d
 ·rw[if_pos hr,if_pos (by lia),qs λj hj'=>by have:=hj j hj';lia];lia
 ·rw[if_neg hr,if_neg (by lia)];lia
theorem si {e:Nat->Nat}{y:Nat->Int}{d N i:Nat} (h:∀ r,r<N->e i≠d+r):(mpI N λr=>acc e y i (d+r))=mpI N λr=>acc e y (i+1) (d+r):=by
 refine cn λr hr=>?_
 rw[sA,if_neg (h r hr)];lia
theorem sO (n:Nat) (e:Nat->Nat) (y:Nat->Int) (d:Nat):(qaB n [D.int 0]).flatten=mpI n λr=>acc e y 0 (d+r):=by
 show _=(qac n).map λ_=>D.int 0
 induction n with
 |zero=>rfl
 |succ n ih=>rw[qft,qfE,ih,qeE,qcg];rfl
theorem li {f:Ef}{env:Ev}{st:Sto}{n:Nat} (hf:f env st=some (.d (.int (n:Int)),st)) (hn:n<=900) (e:Nat->Nat) (y:Nat->Int) (d:Nat):dH (sP oG (aD (cI (aa (iC (.int 0)) ag))) f) env st=some (.h st.length,st++[.l (mpI n λr=>acc e y 0 (d+r))]):=by
 have h0:sP oG (aD (cI (aa (iC (.int 0)) ag))) f env st=some (mpI n λr=>acc e y 0 (d+r),st):=by
  show ((f env st).bind λq=>(oG q.2 (.d (.lst [.int 0])) q.1).map λl=>(l,q.2))=_
  rw[hf]
  show (oG st (.d (.lst [.int 0])) (.d (.int (n:Int)))).map (λl=>(l,st))=_
  unfold oG;dsimp only
  rw[if_pos ⟨by show 1<=1000;decide,by lia,by lia⟩,qbA,sO n e y d];rfl
 simp only[dH,h0,qaq]
end Own
set_option maxHeartbeats 1000000
namespace Own
open PySem L2
open Sx (Pb Tb Good Named Fe LV ZV piv lexP leastR leaveL sumN unit colV basis)
theorem sIx {o i v:Ef}{env:Ev}{st:Sto}{xs:List D}{k:Nat}{d:D} (hv:v env (st++[.l xs])=some (.d d,st++[.l xs])) (ho:o env (st++[.l xs])=some (.h st.length,st++[.l xs])) (hi:i env (st++[.l xs])=some (.d (.int (k:Int)),st++[.l xs])) (hk:k<xs.length):cg o i v env (st++[.l xs])=some (.nx env (st++[.l (xs.set k d)])):=by
 have hs:io (st++[.l xs]) (.h st.length) (.d (.int (k:Int))) (.d d)=some (st++[.l (xs.set k d)]):=by
  simp only[io,kz,qaa,fI hk,qaq,rn]
 simp only[cg,hv,ho,hi,qaa,hs,qaq]
theorem qr {a:Ef}{env:Ev}{st:Sto}{m:Nat}{f:Nat->Nat} (h:a env st=some (.d (.lst (mpI m (nI f))),st)):fX (aa a ag) env st=some ((qac m).map λi=>D.tup [.int ((i:Nat):Int),.int (nI f i)],st):=by
 have:=ac (b:=ag) h rfl
 rw[<-qx]
 simp only[fX,this,qaa]
theorem lx {m:Nat}{g:Nat->D}{i:Nat}{d:D} (h:((qac m).map g)[i]?=some d):i<m/\d=g i:=by
 rw[qaO,qae]at h
 obtain⟨k,hk,rfl⟩:=h
 obtain⟨hi,hk'⟩:=qar.mp hk
 rw[qfQ]at hk'
 rw[qah]at hi
 exact⟨hi,by rw[hk']⟩
theorem jS:∀ ns:List Int,uz (ns.map D.int)=true
 |[]=>rfl
 |n::ns=>jS ns
theorem xM (n:Nat) (f:Nat->Int):okT (.tup (mpI n f))=true:=by
 rw[cC];exact jS _
section
variable {P:Pb}{S:Tb}{st:Sto}
theorem Cp (h:Okt P S):i6 [.d (obD P S)] st=some (.d (.lst (mpI P.n λk=>acc S.kept (λi=>S.T i P.n) P.m k)),st):=by
 have hm:=h.m64
 have hn:=h.n64
 generalize hy:(λi=>S.T i P.n)=y
 have v0:∀ (a b c:Option W) (s:Sto),iV 0 [some (.d (obD P S)),a,b,c] s=some (.d (obD P S),s):=λ_ _ _ _=>rfl
 have s1:=li (st:=st) (df (v0 none none none st)) (by lia) S.kept y 0
 obtain⟨env',s2,e2,⟨o2,o3,rfl⟩,rfl⟩:=fL (g:=.tp [2,3]) (body:=jG) (ds:=(qac P.m).map λi=>D.tup [.int ((i:Nat):Int),.int (nI S.kept i)])
  (λi env s=>(∃ o2 o3,env=[some (.d (obD P S)),some (.h st.length),o2,o3])/\s=st++[.l (mpI P.n λr=>acc S.kept y i (0+r))])
  (env:=[some (.d (obD P S)),some (.h st.length),none,none]) (st:=st++[.l (mpI P.n λr=>acc S.kept y 0 (0+r))]) ⟨⟨_,_,rfl⟩,rfl⟩ (λi d env s hd ⟨⟨o2,o3,e⟩,es⟩=>by
   subst e es
   obtain⟨hi,rfl⟩:=lx hd
   refine⟨_,_,_,rfl,.inl ?_,⟨some (.d (.int ((i:Nat):Int))),some (.d (.int (nI S.kept i))),rfl⟩,rfl⟩
   generalize hX:(mpI P.n λr=>acc S.kept y i (0+r))=xs
   have tl:bD dLt (iV 3) (aw ("amounts" : Str) (iV 0)) [some (.d (obD P S)),some (.h st.length),some (.d (.int ((i:Nat):Int))),some (.d (.int (nI S.kept i)))] (st++[.l xs])=some (decide (nI S.kept i<(P.n:Int)),st++[.l xs]):=bG rfl (df (v0 _ _ _ _)) (v7 _ _ _)
   by_cases hk:S.kept i<P.n
   ·rw[decide_eq_true (by show ((S.kept i:Nat):Int)<_;lia)]at tl
    have hv:iOp dIx (iOp dIx (aw ("lines" : Str) (iV 0)) (iV 2)) (iUn ou (iC (.int 1))) [some (.d (obD P S)),some (.h st.length),some (.d (.int ((i:Nat):Int))),some (.d (.int (nI S.kept i)))] (st++[.l xs])=some (.d (.int (y i)),st++[.l xs]):=by
     rw[<-hy]
     exact ai (ai (eV (v0 _ _ _ _)) rfl (sC _ hi)) rfl (vb _)
    have:=sIx (k:=S.kept i) hv (o:=iV 1) (i:=iV 3) rfl rfl (by rw[<-hX,aU];exact hk)
    rw[<-hX]at this ⊢ tl
    rw[<-u6 (d:=0) (N:=P.n) (e:=S.kept) (y:=y) (i:=i) (by lia) λj hj e=>by have:=jN h.good (by lia) hi e;lia]
    exact ix tl this
   ·rw[decide_eq_false (by show ¬ ((S.kept i:Nat):Int)<_;lia)]at tl
    rw[<-si (d:=0) (N:=P.n) (e:=S.kept) (y:=y) (i:=i) λr hr=>by lia,hX]
    exact dS tl rfl)
 rw[qai,qah]at e2
 have:=mE (n:=4) (k:=1) (b:=gn) (ws:=[.d (obD P S)]) (st:=st) (h:=st.length) rfl (ar (aC s1) (ar (dz (qr (pW (v0 _ _ _ _))) e2) rfl)) (qan _) (kz _ _)
 rw[qdP]at this
 simp only[qbT]at this
 exact this
def pr (P:Pb) (S:Tb) (i r:Nat):Int:=if ∃ c,c<i/\S.free c=P.n+r then ZV P S (r+1) else 0
theorem CD (h:Okt P S) (hg:∀ r,r<P.m->P.g (P.n+r)=0):jB [.d (obD P S)] st=some (.d (.lst (mpI P.m λr=>ZV P S (r+1))),st):=by
 have hm:=h.m64
 have hn:=h.n64
 have v0:∀ (a b c:Option W) (s:Sto),iV 0 [some (.d (obD P S)),a,b,c] s=some (.d (obD P S),s):=λ_ _ _ _=>rfl
 have hz:(mpI P.m λr=>acc S.free S.G 0 (0+r))=mpI P.m λr=>pr P S 0 r:=cn λr _=>by
  unfold pr
  rw[if_neg λ⟨c,hc,_⟩=>by lia];rfl
 have hlen:iCB bE (aa (aw ("lines" : Str) (iV 0)) ag) [some (.d (obD P S)),none,none,none] st=some (.d (.int ((P.m:Nat):Int)),st):=by
  have:=bi (g:=bE) (ac (b:=ag) (eV (v0 none none none st)) rfl) (kO _ _)
  rw[d9]at this
  exact this
 have s1:=li (st:=st) hlen (by lia) S.free S.G 0
 rw[hz]at s1
 obtain⟨env',s2,e2,⟨o2,o3,rfl⟩,rfl⟩:=fL (g:=.tp [2,3]) (body:=kg) (ds:=(qac P.n).map λi=>D.tup [.int ((i:Nat):Int),.int (nI S.free i)])
  (λi env s=>(∃ o2 o3,env=[some (.d (obD P S)),some (.h st.length),o2,o3])/\s=st++[.l (mpI P.m λr=>pr P S i r)])
  (env:=[some (.d (obD P S)),some (.h st.length),none,none]) (st:=st++[.l (mpI P.m λr=>pr P S 0 r)]) ⟨⟨_,_,rfl⟩,rfl⟩ (λi d env s hd ⟨⟨o2,o3,e⟩,es⟩=>by
   subst e es
   obtain⟨hi,rfl⟩:=lx hd
   refine⟨_,_,_,rfl,.inl ?_,⟨some (.d (.int ((i:Nat):Int))),some (.d (.int (nI S.free i))),rfl⟩,rfl⟩
   have hb:=h.named.bound.1 i hi
   generalize hX:(mpI P.m λr=>pr P S i r)=xs
   have tl:bD dGe (iV 3) (aw ("amounts" : Str) (iV 0)) [some (.d (obD P S)),some (.h st.length),some (.d (.int ((i:Nat):Int))),some (.d (.int (nI S.free i)))] (st++[.l xs])=some (decide (nI S.free i>=(P.n:Int)),st++[.l xs]):=bG rfl (df (v0 _ _ _ _)) (zk _ _ _)
   by_cases hk:P.n<=S.free i
   ·rw[decide_eq_true (by show ((S.free i:Nat):Int)>=_;lia)]at tl
    have ho:iOp qk (iV 3) (aw ("amounts" : Str) (iV 0)) [some (.d (obD P S)),some (.h st.length),some (.d (.int ((i:Nat):Int))),some (.d (.int (nI S.free i)))] (st++[.l xs])=some (.d (.int ((S.free i - P.n:Nat):Int)),st++[.l xs]):=by
     rw[show ((S.free i - P.n:Nat):Int)=nI S.free i - (P.n:Int) by show _=((S.free i:Nat):Int) - _;lia]
     exact ai rfl (df (v0 _ _ _ _)) rfl
    have hv:iOp dIx (aw ("goal" : Str) (iV 0)) (iV 2) [some (.d (obD P S)),some (.h st.length),some (.d (.int ((i:Nat):Int))),some (.d (.int (nI S.free i)))] (st++[.l xs])=some (.d (.int (S.G i)),st++[.l xs]):=ai (mJ (v0 _ _ _ _)) rfl (gG _ (by lia))
    have:=sIx (k:=S.free i - P.n) hv (o:=iV 1) (i:=iOp qk (iV 3) (aw ("amounts" : Str) (iV 0))) rfl ho (by rw[<-hX,aU];lia)
    have eX:xs.set (S.free i - P.n) (.int (S.G i))=mpI P.m λr=>pr P S (i+1) r:=by
     rw[<-hX,i5]
     refine cn λr hr=>?_
     by_cases er:r=S.free i - P.n
     ·rw[if_pos er]
      unfold pr
      rw[if_pos ⟨i,by lia,by lia⟩]
      exact (Sx.price_free h.good h.named hg hr hi (by lia)).symm
     ·rw[if_neg er]
      unfold pr
      by_cases ex:∃ c,c<i/\S.free c=P.n+r
      ·rw[if_pos ex];obtain⟨c,h1,h2⟩:=ex;rw[if_pos ⟨c,by lia,h2⟩]
      ·rw[if_neg ex,if_neg λ⟨c,h1,h2⟩=>ex ⟨c,by
        by_cases z:c=i
        ·subst z;lia
        ·lia,h2⟩]
    rw[<-eX]
    exact ix tl this
   ·rw[decide_eq_false (by show ¬ ((S.free i:Nat):Int)>=_;lia)]at tl
    have eX:xs=mpI P.m λr=>pr P S (i+1) r:=by
     rw[<-hX]
     refine cn λr hr=>?_
     unfold pr
     by_cases ex:∃ c,c<i/\S.free c=P.n+r
     ·rw[if_pos ex];obtain⟨c,h1,h2⟩:=ex;rw[if_pos ⟨c,by lia,h2⟩]
     ·rw[if_neg ex,if_neg λ⟨c,h1,h2⟩=>ex ⟨c,by
        by_cases z:c=i
        ·subst z;lia
        ·lia,h2⟩]
    rw[<-eX]
    exact dS tl rfl)
 rw[qai,qah]at e2
 have:=mE (n:=4) (k:=1) (b:=hU) (ws:=[.d (obD P S)]) (st:=st) (h:=st.length) rfl (ar (aC s1) (ar (dz (qr (mF (v0 _ _ _ _))) e2) rfl)) (qan _) (kz _ _)
 rw[qdP]at this
 rw[cn (f:=λr=>pr P S P.n r) (g:=λr=>ZV P S (r+1)) λr hr=>by
  unfold pr
  by_cases ex:∃ c,c<P.n/\S.free c=P.n+r
  ·rw[if_pos ex]
  ·rw[if_neg ex]
   rcases h.named.all (P.n+r) (by lia) with hc|⟨j,hj,e⟩
   ·exact absurd hc ex
   ·exact (Sx.price_kept h.good h.named hg hr hj e).symm]at this
 exact this
theorem BI (h:Okt P S) {e:Nat} (he:e<P.n) (ht:∀ i,i<P.m->S.T i e<=0) (hp:∃ k,k<P.n/\Sx.wayN P S e k≠0):∃ g:Int,0<g/\(∀ k,k<P.n->g∣Sx.wayN P S e k)/\kY [.d (obD P S),.d (.int (e:Int))] []=some (.d (.tup (mpI P.n λk=>Sx.wayN P S e k / g)),[]):=by
 have hm:=h.m64
 have hn:=h.n64
 have v0:∀ (a b c d:Option W) (s:Sto),iV 0 [some (.d (obD P S)),a,b,c,d] s=some (.d (obD P S),s):=λ_ _ _ _ _=>rfl
 have hnk:∀ i,i<P.m->S.kept i≠S.free e:=λi hi e1=>by
  have h1:=h.good.entry (c:=e) (by lia) hi
  have h2:colV P S e=basis P S i:=by unfold colV basis;rw[if_pos he,e1]
  rw[h2,Sx.upd_self,<-h.good.dt]at h1
  have:=ht i hi
  have:=h.good.pos
  lia
 generalize hy:(λi=>- S.T i e)=y
 have hw:∀ k,Sx.wayN P S e k=if k=S.free e then S.p else acc S.kept y P.m k:=λk=>by
  show Sx.byName P S (λi=>- S.T i e) k+(if S.free e=k then S.p else 0)=_
  rw[hy]
  by_cases hk:k=S.free e
  ·rw[if_pos hk,if_pos hk.symm,Sx.byName_not λi hi=>by rw[hk];exact hnk i hi];lia
  ·rw[if_neg hk,if_neg (qbu hk)]
   show acc S.kept y P.m k+0=_
   lia
 have s1:=li (st:=[]) (df (v0 (some (.d (.int (e:Int)))) none none none [])) (by lia) S.kept y 0
 obtain⟨env',s2,e2,⟨o2,o3,rfl⟩,rfl⟩:=fL (g:=.tp [3,4]) (body:=nR) (ds:=(qac P.m).map λi=>D.tup [.int ((i:Nat):Int),.int (nI S.kept i)])
  (λi env s=>(∃ o2 o3,env=[some (.d (obD P S)),some (.d (.int (e:Int))),some (.h 0),o2,o3])/\s=[]++[.l (mpI P.n λr=>acc S.kept y i (0+r))])
  (env:=[some (.d (obD P S)),some (.d (.int (e:Int))),some (.h 0),none,none]) (st:=[]++[.l (mpI P.n λr=>acc S.kept y 0 (0+r))]) ⟨⟨_,_,rfl⟩,rfl⟩ (λi d env s hd ⟨⟨o2,o3,e0⟩,es⟩=>by
   subst e0 es
   obtain⟨hi,rfl⟩:=lx hd
   refine⟨_,_,_,rfl,.inl ?_,⟨some (.d (.int ((i:Nat):Int))),some (.d (.int (nI S.kept i))),rfl⟩,rfl⟩
   generalize hX:(mpI P.n λr=>acc S.kept y i (0+r))=xs
   have tl:bD dLt (iV 4) (aw ("amounts" : Str) (iV 0)) [some (.d (obD P S)),some (.d (.int (e:Int))),some (.h 0),some (.d (.int ((i:Nat):Int))),some (.d (.int (nI S.kept i)))] ([]++[.l xs])=some (decide (nI S.kept i<(P.n:Int)),[]++[.l xs]):=bG rfl (df (v0 _ _ _ _ _)) (v7 _ _ _)
   by_cases hk:S.kept i<P.n
   ·rw[decide_eq_true (by show ((S.kept i:Nat):Int)<_;lia)]at tl
    have hv:iUn ou (iOp dIx (iOp dIx (aw ("lines" : Str) (iV 0)) (iV 3)) (iV 1)) [some (.d (obD P S)),some (.d (.int (e:Int))),some (.h 0),some (.d (.int ((i:Nat):Int))),some (.d (.int (nI S.kept i)))] ([]++[.l xs])=some (.d (.int (y i)),[]++[.l xs]):=by
     rw[<-hy]
     have:=ai (g:=dIx) (ai (g:=dIx) (eV (v0 (some (.d (.int (e:Int)))) (some (.h 0)) (some (.d (.int ((i:Nat):Int)))) (some (.d (.int (nI S.kept i)))) ([]++[C.l xs]))) (b:=iV 3) rfl (sC _ hi)) (b:=iV 1) rfl (sN (c:=e) _ (by lia))
     simp only[iUn,this,qaa];rfl
    have:=sIx (st:=[]) (k:=S.kept i) hv (o:=iV 2) (i:=iV 4) rfl rfl (by rw[<-hX,aU];exact hk)
    rw[<-hX]at this ⊢ tl
    rw[<-u6 (d:=0) (N:=P.n) (e:=S.kept) (y:=y) (i:=i) (by lia) λj hj e=>by have:=jN h.good (by lia) hi e;lia]
    exact ix tl this
   ·rw[decide_eq_false (by show ¬ ((S.kept i:Nat):Int)<_;lia)]at tl
    rw[<-si (d:=0) (N:=P.n) (e:=S.kept) (y:=y) (i:=i) λr hr=>by lia,hX]
    exact dS tl rfl)
 rw[qai,qah]at e2
 have s3:cv (bD dLt (iOp dIx (aw ("free" : Str) (iV 0)) (iV 1)) (aw ("amounts" : Str) (iV 0))) (cg (iV 2) (iOp dIx (aw ("free" : Str) (iV 0)) (iV 1)) (aw ("part" : Str) (iV 0))) bK [some (.d (obD P S)),some (.d (.int (e:Int))),some (.h 0),o2,o3] ([]++[.l (mpI P.n λr=>acc S.kept y P.m (0+r))])=some (.nx [some (.d (obD P S)),some (.d (.int (e:Int))),some (.h 0),o2,o3] ([]++[.l (mpI P.n λk=>Sx.wayN P S e k)])):=by
  have qf:∀ s,iOp dIx (aw ("free" : Str) (iV 0)) (iV 1) [some (.d (obD P S)),some (.d (.int (e:Int))),some (.h 0),o2,o3] s=some (.d (.int (nI S.free e)),s):=λs=>ai (mF (v0 _ _ _ _ _)) rfl (gG _ he)
  generalize hX:(mpI P.n λr=>acc S.kept y P.m (0+r))=xs
  have tl:bD dLt (iOp dIx (aw ("free" : Str) (iV 0)) (iV 1)) (aw ("amounts" : Str) (iV 0)) [some (.d (obD P S)),some (.d (.int (e:Int))),some (.h 0),o2,o3] ([]++[.l xs])=some (decide (nI S.free e<(P.n:Int)),[]++[.l xs]):=bG (qf _) (df (v0 _ _ _ _ _)) (v7 _ _ _)
  by_cases hk:S.free e<P.n
  ·rw[decide_eq_true (by show ((S.free e:Nat):Int)<_;lia)]at tl
   have:=sIx (st:=[]) (k:=S.free e) (mG (v0 (some (.d (.int (e:Int)))) (some (.h 0)) o2 o3 ([]++[C.l xs]))) (o:=iV 2) (i:=iOp dIx (aw ("free" : Str) (iV 0)) (iV 1)) rfl (qf _) (by rw[<-hX,aU];exact hk)
   have eX:xs.set (S.free e) (.int S.p)=mpI P.n λk=>Sx.wayN P S e k:=by
    rw[<-hX,i5]
    refine cn λk _=>?_
    rw[hw k,qbT]
   rw[eX]at this
   exact ix tl this
  ·rw[decide_eq_false (by show ¬ ((S.free e:Nat):Int)<_;lia)]at tl
   have eX:xs=mpI P.n λk=>Sx.wayN P S e k:=by
    rw[<-hX]
    refine cn λk hk'=>?_
    rw[hw k,qbT,if_neg (by lia)]
   rw[<-eX]
   exact dS tl rfl
 obtain⟨k0,hk0,hk1⟩:=hp
 have hsm:∀ x∈(qac P.n).map (Sx.wayN P S e),Sm x:=λx hx=>by
  obtain⟨k,hk,rfl⟩:=qbe.mp hx
  rw[hw k]
  by_cases z:k=S.free e
  ·rw[if_pos z];exact h.sp
  ·rw[if_neg z]
   by_cases ex:∃ i,i<P.m/\S.kept i=k
   ·obtain⟨i,hi,rfl⟩:=ex
    have:acc S.kept y P.m (S.kept i)=y i:=Sx.byName_at (λi j hi hj=>jN h.good hi hj) hi
    rw[this,<-hy]
    show (- S.T i e).natAbs<_
    rw[Int.natAbs_neg]
    exact h.sT i e hi (by lia)
   ·rw[qs λj hj e=>ex ⟨j,hj,e⟩]
    exact qeO (by decide)
 have hlo:=tQ (st:=[]) hsm ⟨_,qbe.mpr ⟨k0,qaK.mpr hk0,rfl⟩,hk1⟩ (by rw[qai,qah];lia)
 obtain⟨g0,g1⟩:=sU (ns:=(qac P.n).map (Sx.wayN P S e)) (qbe.mpr ⟨k0,qaK.mpr hk0,rfl⟩) hk1 (hsm _ (qbe.mpr ⟨k0,qaK.mpr hk0,rfl⟩))
 have gd:∀ k,k<P.n->((gO 0 ((qac P.n).map (Sx.wayN P S e)):Nat):Int)∣Sx.wayN P S e k:=λk hk=>qf5.mpr ((kS 0 _).2 _ (qbe.mpr ⟨k,qaK.mpr hk,rfl⟩))
 generalize hG:((gO 0 ((qac P.n).map (Sx.wayN P S e)):Nat):Int)=g at *
 refine⟨g,g0,gd,?_⟩
 rw[<-cC,qbs,qbs]at hlo
 have hc:fU iQ (aa (iV 2) ag) [some (.d (obD P S)),some (.d (.int (e:Int))),some (.h 0),o2,o3] ([]++[.l (mpI P.n λk=>Sx.wayN P S e k)])=some (.d (.tup (mpI P.n λk=>Sx.wayN P S e k / g)),[]++[.l (mpI P.n λk=>Sx.wayN P S e k)]):=by
  have ha:aa (iV 2) ag [some (.d (obD P S)),some (.d (.int (e:Int))),some (.h 0),o2,o3] ([]++[.l (mpI P.n λk=>Sx.wayN P S e k)])=some ([.h 0],[]++[.l (mpI P.n λk=>Sx.wayN P S e k)]):=rfl
  have hvw:vwA ([]++[.l (mpI P.n λk=>Sx.wayN P S e k)]) [.h 0]=some [.d (.lst (mpI P.n λk=>Sx.wayN P S e k))]:=rfl
  have hl2:iQ [.d (.lst (mpI P.n λk=>Sx.wayN P S e k))] []=some (.d (.tup (mpI P.n λk=>Sx.wayN P S e k / g)),[]):=hlo
  simp only[fU,ha,qaa,hvw,hl2]
  rw[if_pos]
  exact xM _ _
 have:=lb (n:=5) (k:=2) (b:=kU) (ws:=[.d (obD P S),.d (.int (e:Int))]) (st:=[]) rfl (ar (aC s1) (ar (dz (qr (pW (v0 _ _ _ _ _))) e2) (ar s3 (bF hc))))
 exact this
end
end Own
set_option maxHeartbeats 1000000
namespace Own
open PySem L2
open Sx (Pb Tb Good Named Fe LV ZV piv lexP leastR leaveL sumN unit colV basis)
theorem mU {m:Fn}{a:Af}{env:Ev}{st:Sto}{ws vs:List W}{x:D} (ha:a env st=some (ws,st)) (hv:vwA st ws=some vs) (hm:m vs []=some (.d x,[])) (hx:okT x=true):fU m a env st=some (.d x,st):=by
 simp only[fU,ha,qaa,hv,hm]
 rw[if_pos hx]
structure Pd (P:Pb):Prop where
 bd:Sx.Bd P
 hA:∀ k,k<P.n+P.m->∀ t,P.m<=t->P.A k t=0
 hb:∀ t,P.m<=t->P.b t=0
 hg:∀ r,r<P.m->P.g (P.n+r)=0
section
variable {P:Pb}{S:Tb}
theorem Pd.okt (d:Pd P) (g:Good P S) (n:Named P S):Okt P S:=Bi d.bd g n
theorem Pd.kept (d:Pd P) (n:Named P S):∀ i,i<P.m->∀ t,P.m<=t->P.A (S.kept i) t=0:=λi hi t ht=>d.hA _ (n.bound.2 i hi) t ht
theorem CZ (g:Good P S) (f:Fe P S):∀ i,i<P.m->0<=S.T i P.n:=λi hi=>by
 have h1:=Sx.lexP_first (by lia) (f i hi)
 rw[g.entry (qan _) hi]
 have:colV P S P.n=Sx.XV P 0:=by unfold colV Sx.XV;rw[if_neg (qa2 _),if_pos rfl]
 rw[this]
 exact h1
structure qF (P:Pb) (p:Int) (am pr:Nat->Int):Prop where
 p1:1<=p
 am0:∀ k,k<P.n->0<=am k
 pr0:∀ r,r<P.m->0<=pr r
 rows:∀ r,r<P.m->(sumN P.n λj=>am j*P.A j r)<=p*P.b r
 cols:∀ j,j<P.n->p*P.g j<=sumN P.m λr=>P.A j r*pr r
 same:(sumN P.m λr=>P.b r*pr r)=sumN P.n λj=>am j*P.g j
 sp:Sm p
 sa:∀ k,k<P.n->Sm (am k)
 sr:∀ r,r<P.m->Sm (pr r)
structure jK (P:Pb) (way:Nat->Int):Prop where
 w0:∀ k,k<P.n->0<=way k
 rows:∀ r,r<P.m->(sumN P.n λj=>way j*P.A j r)<=0
 gain:0<sumN P.n λj=>way j*P.g j
theorem nJ {g a:Int} (h:g∣a):g*(a / g)=a:=Int.mul_ediv_cancel' h
theorem pH {n:Nat}{g:Int}{f h:Nat->Int} (hd:∀ k,k<n->g∣f k):g*(sumN n λk=>f k / g*h k)=sumN n λk=>f k*h k:=by
 rw[<-Sx.sumN_mul]
 refine Sx.sumN_congr λk hk=>?_
 rw[<-qa0,nJ (hd k hk)]
theorem uO {n:Nat}{g:Int}{f h:Nat->Int} (hd:∀ k,k<n->g∣f k):g*(sumN n λk=>h k*(f k / g))=sumN n λk=>h k*f k:=by
 rw[<-Sx.sumN_mul]
 refine Sx.sumN_congr λk hk=>?_
 rw[qao,nJ (hd k hk)]
theorem CH (h:Okt P S) (hg:∀ r,r<P.m->P.g (P.n+r)=0) (hG:∀ c,c<P.n->0<=S.G c) {r:Nat} (hr:r<P.m):Sm (ZV P S (r+1))/\0<=ZV P S (r+1):=by
 rcases h.named.all (P.n+r) (by lia) with⟨c,hc,e⟩|⟨j,hj,e⟩
 ·rw[Sx.price_free h.good h.named hg hr hc e];exact⟨h.sG c (by lia),hG c hc⟩
 ·rw[Sx.price_kept h.good h.named hg hr hj e];exact⟨qeO (by decide),qcA _⟩
theorem CC (h:Okt P S) (k:Nat):Sm (acc S.kept (λi=>S.T i P.n) P.m k):=by
 by_cases ex:∃ i,i<P.m/\S.kept i=k
 ·obtain⟨i,hi,rfl⟩:=ex
  have:acc S.kept (λi=>S.T i P.n) P.m (S.kept i)=S.T i P.n:=Sx.byName_at (λi j hi hj=>jN h.good hi hj) hi
  rw[this]
  exact h.sT i P.n hi (qan _)
 ·rw[qs λj hj e=>ex ⟨j,hj,e⟩]
  exact qeO (by decide)
theorem uD {g a b:Int} (g0:0<g) (h:g*a<=g*b):a<=b:=qe2 h g0
theorem Sm.dv {a:Int} (h:Sm a) (q:Int):Sm (a / q):=qb0 (Int.natAbs_ediv_le_natAbs a q) h
theorem BU (d:Pd P) (g:Good P S) (n:Named P S) (f:Fe P S) (hG:∀ c,c<P.n->0<=S.G c):∃ p am pr,qF P p am pr/\iY [.d (obD P S)] []=some (.d (.tup [.str "most",.int p,.tup (mpI P.n am),.tup (mpI P.m pr)]),[]):=by
 have h:=d.okt g n
 have hm:=h.m64
 have hn:=h.n64
 have hT:=CZ g f
 have e1:=Cp (st:=[]) h
 have e2:=CD (st:=[]) h d.hg
 have hg:=d.hg
 have M1:=λr hr=>Sx.amounts_ok g n hT (r:=r) hr
 have M2:=Sx.gains_amounts g n d.hg
 have M3:=λj hj=>Sx.prices_ok g n d.hA hG (j:=j) hj
 have M4:=Sx.bounds_prices g d.hb
 have M5:∀ k,0<=acc S.kept (λi=>S.T i P.n) P.m k:=λk=>Sx.byName_nonneg (P:=P) (S:=S) (y:=λi=>S.T i P.n) hT k
 have M6:=CC h
 have M7:=λr hr=>CH h d.hg hG (r:=r) hr
 have M8:(λj=>Sx.byName P S (λi=>S.T i P.n) j)=acc S.kept (λi=>S.T i P.n) P.m:=rfl
 have M9:∀ j,Sx.byName P S (λi=>S.T i P.n) j=acc S.kept (λi=>S.T i P.n) P.m j:=λ_=>rfl
 simp only[M9]at M1 M2
 generalize acc S.kept (λi=>S.T i P.n) P.m=am at *
 generalize hpr:(λr=>ZV P S (r+1))=pr at *
 have hpr':∀ r,ZV P S (r+1)=pr r:=λr=>by rw[<-hpr]
 simp only[hpr']at M3 M4 M7
 have hns:D.int S.p::(mpI P.n am++mpI P.m pr)=(S.p::((qac P.n).map am++(qac P.m).map pr)).map D.int:=by
  rw[qay,qcg,cC,cC]
 have hsm:∀ x∈S.p::((qac P.n).map am++(qac P.m).map pr),Sm x:=λx hx=>by
  rcases qaP.mp hx with rfl|hx
  ·exact h.sp
  ·rcases qaM.mp hx with hx|hx
   ·obtain⟨k,_,rfl⟩:=qbe.mp hx;exact M6 k
   ·obtain⟨k,hk,rfl⟩:=qbe.mp hx;exact (M7 k (qaK.mp hk)).1
 have e3:=rV (st:=[]) hsm
 have hp:=g.pos
 obtain⟨q0,q1⟩:=sU (ns:=S.p::((qac P.n).map am++(qac P.m).map pr)) qaf (by lia) h.sp
 have qd:∀ x∈S.p::((qac P.n).map am++(qac P.m).map pr),((gO 0 (S.p::((qac P.n).map am++(qac P.m).map pr)):Nat):Int)∣x:=λx hx=>qf5.mpr ((kS 0 _).2 _ hx)
 rw[<-hns]at e3
 generalize ((gO 0 (S.p::((qac P.n).map am++(qac P.m).map pr)):Nat):Int)=q at *
 have dp:q∣S.p:=qd _ qaf
 have da:∀ k,k<P.n->q∣am k:=λk hk=>qd _ (qal _ (qa1 _ (qbe.mpr ⟨k,qaK.mpr hk,rfl⟩)))
 have dr:∀ k,k<P.m->q∣pr k:=λk hk=>qd _ (qal _ (qav _ (qbe.mpr ⟨k,qaK.mpr hk,rfl⟩)))
 refine⟨S.p / q,λk=>am k / q,λr=>pr r / q,⟨?_,λk _=>qdL (M5 k) (by lia),λr hr=>qdL (M7 r hr).2 (by lia),λr hr=>?_,λj hj=>?_,?_,h.sp.dv _,λk _=>(M6 k).dv _,λr hr=>(M7 r hr).1.dv _⟩,?_⟩
 ·have:=nJ dp
  rcases qhV (S.p / q) 1 with z|z
  ·have:q*(S.p / q)<=q*0:=qaY (by lia) (by lia)
   lia
  ·exact z
 ·refine uD q0 ?_
  rw[pH (h:=λj=>P.A j r) da,<-qa0,nJ dp]
  exact M1 r hr
 ·refine uD q0 ?_
  rw[uO (h:=λr=>P.A j r) dr,<-qa0,nJ dp]
  exact M3 j hj
 ·refine qdq (a:=q) (by lia) ?_
  rw[uO (h:=λr=>P.b r) dr,pH (h:=λj=>P.g j) da,M4,M2]
 ·have v0:∀ (a b c:Option W) (s:Sto),iV 0 [some (.d (obD P S)),a,b,c] s=some (.d (obD P S),s):=λ_ _ _ _=>rfl
  have ka:lcI (.nm 0) aS eK [none,some (.d (.int q))] (mpI P.n am) []=some (mpI P.n λk=>am k / q,[]):=by
   have:=tD (te:=eK) (st:=[]) (ns:=(qac P.n).map am) q0 q1 rfl
   rw[<-cC,qbs,qbs]at this
   exact this
  have kr:lcI (.nm 0) aS eS [none,some (.d (.int q))] (mpI P.m pr) []=some (mpI P.m λk=>pr k / q,[]):=by
   have:=tD (te:=eS) (st:=[]) (ns:=(qac P.m).map pr) q0 q1 rfl
   rw[<-cC,qbs,qbs]at this
   exact this
  have la:(mpI P.n am).length<=1000000:=by rw[aU];lia
  have lr:(mpI P.m pr).length<=1000000:=by rw[aU];lia
  have ls1:[D.int S.p].length+(mpI P.n am).length<=1000000:=by rw[aU];show 1+_<=_;lia
  have ls2:([D.int S.p]++mpI P.n am).length+(mpI P.m pr).length<=1000000:=by rw[qap,aU,aU];show 1+_+_<=_;lia
  generalize mpI P.n am=AM at *
  generalize mpI P.m pr=PR at *
  generalize (mpI P.n λk=>am k / q)=AQ at *
  generalize (mpI P.m λk=>pr k / q)=RQ at *
  have s3:aG (.nm 3) (ay cU (aa (iOp bu (iOp bu (aD (cI (aa (aw ("part" : Str) (iV 0)) ag))) (iV 1)) (iV 2)) ag)) [some (.d (obD P S)),some (.d (.lst AM)),some (.d (.lst PR)),none] []=some (.nx [some (.d (obD P S)),some (.d (.lst AM)),some (.d (.lst PR)),some (.d (.int q))] []):=by
   have hl:cI (aa (aw ("part" : Str) (iV 0)) ag) [some (.d (obD P S)),some (.d (.lst AM)),some (.d (.lst PR)),none] []=some ([.int S.p],[]):=by
    have:=ac (b:=ag) (mG (v0 (some (.d (.lst AM))) (some (.d (.lst PR))) none [])) rfl
    simp only[cI,this,qaa];rfl
   exact aC (az (ac (ai (ai (aK hl) rfl (lI _ ls1)) rfl (lI _ ls2)) rfl) e3)
  have s4:bm (aa (iC (.str "most")) (aa (iOp nB (aw ("part" : Str) (iV 0)) (iV 3)) (aa (iCB db (aa (aD (iLc 1 [3] (aE (iV 1)) (.nm 0) aS eK)) ag)) (aa (iCB db (aa (aD (iLc 1 [3] (aE (iV 2)) (.nm 0) aS eS)) ag)) ag)))) [some (.d (obD P S)),some (.d (.lst AM)),some (.d (.lst PR)),some (.d (.int q))] []=some (.d (.tup [.str "most",.int (S.p / q),.tup AQ,.tup RQ]),[]):=
   oE (ac rfl (ac (ai (mG (v0 _ _ _ _)) rfl (ud _ q0 q1)) (ac (bi (ac (aK (bQ (bN rfl) la ka)) rfl) rfl) (ac (bi (ac (aK (bQ (bN rfl) lr kr)) rfl) rfl) rfl)))) rfl (by show 4<=1000;decide)
  exact bj (n:=4) (k:=1) (b:=gk) rfl (ar (aC (az (ac (v0 _ _ _ _) rfl) e1)) (ar (aC (az (ac (v0 _ _ _ _) rfl) e2)) (ar s3 (bF s4))))
theorem BJ (d:Pd P) (g:Good P S) (n:Named P S) {e:Nat} (he:e<P.n) (ht:∀ i,i<P.m->S.T i e<=0) (hG:S.G e<0):∃ way,jK P way/\kY [.d (obD P S),.d (.int (e:Int))] []=some (.d (.tup (mpI P.n way)),[]):=by
 have h:=d.okt g n
 have W1:=Sx.way_gains g n d.hg he hG
 have hp:∃ k,k<P.n/\Sx.wayN P S e k≠0:=by
  by_cases z:∃ k,k<P.n/\Sx.wayN P S e k≠0
  ·exact z
  ·exfalso
   rw[Sx.sumN_congr (g:=λ_=>0) λk hk=>by
    by_cases z':Sx.wayN P S e k=0
    ·rw[z',qbk]
    ·exact absurd ⟨k,hk,z'⟩ z,Sx.sumN_zero]at W1
   lia
 obtain⟨q,q0,qd,ew⟩:=BI h he ht hp
 refine⟨λk=>Sx.wayN P S e k / q,⟨λk _=>qdL (Sx.way_nonneg g ht k) (by lia),λr hr=>?_,?_⟩,ew⟩
 ·refine uD q0 ?_
  rw[pH (h:=λj=>P.A j r) qd,qa8]
  exact Sx.way_rows g n he ht hr
 ·refine Int.lt_of_mul_lt_mul_left (a:=q) ?_ (by lia)
  rw[pH (h:=λj=>P.g j) qd,qa8]
  exact W1
end
end Own
set_option maxHeartbeats 1000000
namespace Own
open PySem L2
open Sx (Pb Tb Good Named Fe LV ZV piv lexP leastR leaveL sumN unit colV basis)
theorem Dl (n:Nat) (f:Nat->Int):okT (.tup [.str "beyond",.tup (mpI n f)])=true:=by
 simp only[okT,uz,cC,jS,qgN]
theorem Cm (n m:Nat) (p:Int) (f g:Nat->Int):okT (.tup [.str "most",.int p,.tup (mpI n f),.tup (mpI m g)])=true:=by
 simp only[okT,uz,cC,jS,qgN]
def Ce (P:Pb) (S:Tb) (x:D):Prop:=(∃ c,c<P.n/\S.G c<0/\(∀ i,i<P.m->S.T i c<=0)/\x=.tup [.int (c:Int),.non])\/(lu P S x/\(x=.non->∀ c,c<P.n->0<=S.G c))
section
variable {P:Pb}{S:Tb}
theorem xV (d:Pd P) (g:Good P S) (n:Named P S):∃ x,Ce P S x/\okT x=true/\cJ [.d (obD P S)] []=some (.d x,[]):=by
 rcases Cf (st:=[]) (d.okt g n) (d.kept n) with⟨c,hc,hg,ht,e⟩|⟨y,hy,hn,e⟩
 ·exact⟨_,.inl ⟨c,hc,hg,ht,rfl⟩,rfl,e⟩
 ·refine⟨y,.inr ⟨hy,hn⟩,?_,e⟩
  rcases hy with rfl|⟨c,r,_,_,_,_,_,_,rfl⟩<;>rfl
theorem lC {st0:Sto}{a b c o:Option W}{x:D} (e:cJ [.d (obD P S)] []=some (.d x,[])) (hx:okT x=true):fU cJ (aa (iV 3) ag) [a,b,c,some (.h (st0.length+2)),o] (stO st0 P S)=some (.d x,stO st0 P S):=
 mU (ws:=[.h (st0.length+2)]) rfl (xi (ws:=[]) (ws':=[]) rfl) e hx
def oQ (P:Pb) (f:Nat) (S:Tb) (x:D):Prop:=
 (∃ S' way,jK P way/\∀ (st0:Sto) (a b c:Option W),dI ja gZ f [a,b,c,some (.h (st0.length+2)),some (.d x)] (stO st0 P S)=some (.rt (.d (.tup [.str "beyond",.tup (mpI P.n way)])) (stO st0 P S')))\/
 ∃ S',Good P S'/\Named P S'/\Fe P S'/\(∀ c,c<P.n->0<=S'.G c)/\∀ (st0:Sto) (a b c:Option W),dI ja gZ f [a,b,c,some (.h (st0.length+2)),some (.d x)] (stO st0 P S)=some (.nx [a,b,c,some (.h (st0.length+2)),some (.d .non)] (stO st0 P S'))
theorem uP (d:Pd P):∀ (f:Nat) (V:List Nat) (S:Tb) (x:D),Good P S->Named P S->Fe P S->Ce P S x->V.Nodup->(∀ v∈V,v<(P.n+P.m)^P.m)->(∀ v∈V,∃ S',Good P S'/\Named P S'/\Sx.code (P.n+P.m) S'.kept P.m=v/\Sx.less P S' S)->(P.n+P.m)^P.m<f+V.length->oQ P f S x
 |0,V,S,x,_,_,_,_,hV,hb,_,hf=>by
  have:=Sx.nodup_le _ V hV hb
  lia
 |f+1,V,S,x,hg,hn,hF,hx,hV,hb,hl,hf=>by
  have h:=d.okt hg hn
  rcases hx with⟨c,hc,hG,ht,rfl⟩|⟨hx,hxn⟩
  ·obtain⟨way,bw,ew⟩:=BJ d hg hn hc ht hG
   refine .inl ⟨S,way,bw,λst0 a b o=>?_⟩
   refine BZ (s:=stO st0 P S) rfl (kZ (ix (s:=stO st0 P S) rfl (bF (oE (ws:=[.d (.str "beyond"),.d (.tup (mpI P.n way))]) (ac rfl (ac ?_ rfl)) rfl (by show 2<=1000;decide)))))
   refine mU (ws:=[.h (st0.length+2),.d (.int (c:Int))]) (ac rfl (ac (ai rfl rfl (lJ _ _ _)) rfl)) (xi (ws:=[.d (.int (c:Int))]) (ws':=[.d (.int (c:Int))]) rfl) ew ?_
   exact xM _ _
  ·rcases hx with rfl|⟨c,r,hc,hG,_,hr,hT,hmin,rfl⟩
   ·exact .inr ⟨S,hg,hn,hF,hxn rfl,λst0 a b o=>zM rfl⟩
   ·obtain⟨g2,n2,f2,l2⟩:=Sx.step hg hn hF hc hr hT hG hmin
    obtain⟨y,sy,oy,ey⟩:=xV d g2 n2
    have hcode:∀ {S':Tb},Named P S'->∀ i,i<P.m->S'.kept i<P.n+P.m:=λn' i hi=>n'.bound.2 i hi
    have ih:=uP d f (Sx.code (P.n+P.m) S.kept P.m::V) (piv S r c) y g2 n2 f2 sy
     (qb5.mpr ⟨λhm=>by
       obtain⟨S',g',n',e',l'⟩:=hl _ hm
       exact Sx.less_kept g' hg l' (Sx.code_inj (hcode n') (hcode hn) e'),hV⟩)
     (λv hv=>by
       rcases qaP.mp hv with rfl|hv
       ·exact Sx.code_lt (hcode hn)
       ·exact hb v hv)
     (λv hv=>by
       rcases qaP.mp hv with rfl|hv
       ·exact⟨S,hg,hn,rfl,l2⟩
       ·obtain⟨S',g',n',e',l'⟩:=hl v hv
        exact⟨S',g',n',e',Sx.less_trans g'.pos hg.pos g2.pos l' l2⟩)
     (by rw[qat];lia)
    have key:∀ (st0:Sto) (a b o:Option W),gZ [a,b,o,some (.h (st0.length+2)),some (.d (.tup [.int (c:Int),.int (r:Int)]))] (stO st0 P S)=some (.nx [a,b,o,some (.h (st0.length+2)),some (.d y)] (stO st0 P (piv S r c))):=λst0 a b o=>by
     have ed:fg (ay fu (aa (iV 3) (aa (iOp dIx (iV 4) (iC (.int 1))) (aa (iOp dIx (iV 4) (iC (.int 0))) ag)))) [a,b,o,some (.h (st0.length+2)),some (.d (.tup [.int (c:Int),.int (r:Int)]))] (stO st0 P S)=some (.nx [a,b,o,some (.h (st0.length+2)),some (.d (.tup [.int (c:Int),.int (r:Int)]))] (stO st0 P (piv S r c))):=by
      have:=az (m:=fu) (a:=aa (iV 3) (aa (iOp dIx (iV 4) (iC (.int 1))) (aa (iOp dIx (iV 4) (iC (.int 0))) ag))) (env:=[a,b,o,some (.h (st0.length+2)),some (.d (.tup [.int (c:Int),.int (r:Int)]))]) (st:=stO st0 P S) (ac rfl (ac (ai rfl rfl (kT _ _ _)) (ac (ai rfl rfl (lJ _ _ _)) rfl))) (y7 h hr hc)
      simp only[fg,this,qaq]
     exact ar (dS (s:=stO st0 P S) rfl rfl) (ar ed (aC (lC ey oy)))
    rcases ih with⟨S',way,bw,hw⟩|⟨S',gS,nS,fS,hS,hw⟩
    ·exact .inl ⟨S',way,bw,λst0 a b o=>yg (s:=stO st0 P S) rfl (key st0 a b o) (hw st0 a b o)⟩
    ·exact .inr ⟨S',gS,nS,fS,hS,λst0 a b o=>yg (s:=stO st0 P S) rfl (key st0 a b o) (hw st0 a b o)⟩
end
def eI (m n:Nat) (R:Nat->Nat->Int) (b g:Nat->Int):Pb where
 m:=m
 n:=n
 A:=λk t=>if k<n then (if t<m then R t k else 0) else unit (k - n) t
 b:=λt=>if t<m then b t else 0
 g:=λk=>if k<n then g k else 0
def wX (m n:Nat) (R:Nat->Nat->Int) (b g:Nat->Int):Tb:=Sx.tb0 (eI m n R b g) (λi c=>if c<n then R i c else b i) (λc=>if c<n then - g c else 0)
def aB (m n:Nat) (R:Nat->Nat->Int):D:=.tup ((qac m).map λi=>D.tup (mpI n (R i)))
structure Inp (m n:Nat) (R:Nat->Nat->Int) (b g:Nat->Int):Prop where
 m64:m<=64
 n64:n<=100
 R:∀ i c,i<m->c<n->(R i c).natAbs<=2^50
 b:∀ i,i<m->(b i).natAbs<=2^50/\0<=b i
 g:∀ c,c<n->(g c).natAbs<=2^50
section
variable {m n:Nat}{R:Nat->Nat->Int}{b g:Nat->Int}
theorem zL (h:Inp m n R b g):Pd (eI m n R b g) where
 bd:={
  m64:=h.m64
  n64:=h.n64
  A:=λk _ t ht=>by
   show (if k<n then (if t<m then R t k else 0) else unit (k - n) t).natAbs<=_
   by_cases hk:k<n
   ·rw[if_pos hk,if_pos (show t<m from ht)];exact h.R t k ht hk
   ·rw[if_neg hk];exact Sx.unit_le _ _
  b:=λt ht=>by
   show (if t<m then b t else 0).natAbs<=_
   rw[if_pos (show t<m from ht)];exact (h.b t ht).1
  g:=λk _=>by
   show (if k<n then g k else 0).natAbs<=_
   by_cases hk:k<n
   ·rw[if_pos hk];exact h.g k hk
   ·rw[if_neg hk];exact qb2 _ }
 hA:=λk hk t ht=>by
  have hk':k<n+m:=hk
  have ht':m<=t:=ht
  show (if k<n then (if t<m then R t k else 0) else unit (k - n) t)=0
  by_cases hkn:k<n
  ·rw[if_pos hkn,if_neg (by lia)]
  ·rw[if_neg hkn];unfold unit;rw[if_neg (by lia)]
 hb:=λt ht=>if_neg (qge.mpr ht)
 hg:=λr _=>if_neg (by show ¬ n+r<n;lia)
theorem yv (h:Inp m n R b g):Good (eI m n R b g) (wX m n R b g)/\Named (eI m n R b g) (wX m n R b g)/\Fe (eI m n R b g) (wX m n R b g):=by
 have d:=zL h
 have:=Sx.good0 (P:=eI m n R b g) (T:=λi c=>if c<n then R i c else b i) (G:=λc=>if c<n then - g c else 0)
  (λr _=>by
    funext t
    show (if n+r<n then _ else unit (n+r - n) t)=_
    rw[if_neg (by lia),qcL])
  (λk hk=>d.hA k (by show k<n+m;have:k<n:=hk;lia)) d.hb d.hg
  (λi c hi hc=>by
    show (if c<n then R i c else b i)=if c<n then (if i<m then R i c else 0) else _
    rw[if_pos (show c<n from hc),if_pos (show c<n from hc),if_pos (show i<m from hi)])
  (λi hi=>by
    show (if n<n then _ else b i)=if i<m then b i else 0
    rw[if_neg (qa2 _),if_pos (show i<m from hi)])
  (λc hc=>by
    show (if c<n then - g c else 0)=- (if c<n then g c else 0)
    rw[if_pos (show c<n from hc),if_pos (show c<n from hc)])
  (by show (if n<n then _ else (0:Int))=0;rw[if_neg (qa2 _)])
 refine⟨this.1,this.2.1,this.2.2 λt ht=>?_⟩
 show 0<=if t<m then b t else 0
 rw[if_pos (show t<m from ht)]
 exact (h.b t ht).2
theorem vI (f:Nat->Int) (x:Int):mpI n f++[.int x]=mpI (n+1) λc=>if c<n then f c else x:=by
 rw[nW,if_neg (qa2 _)]
 rw[cn (n:=n) (g:=λc=>if c<n then f c else x) λk hk=>by rw[if_pos hk]]
theorem wy (lo:Nat) (m:Nat):cV (lo:Int) m=mpI m (nI λi=>lo+i):=by
 unfold cV mpI
 refine qb7 λk _=>?_
 show D.int ((lo:Int)+(k:Int))=D.int (((lo+k:Nat)):Int)
 rw[Int.natCast_add]
theorem Ch {st0:Sto}{o3 o4:Option W} (h:Inp m n R b g):pi 4 4 dn (aa (iV 0) (aa (iV 1) (aa (iV 2) ag))) [some (.d (aB m n R)),some (.d (.tup (mpI m b))),some (.d (.tup (mpI n g))),o3,o4] st0=some (.h (st0.length+2),stO st0 (eI m n R b g) (wX m n R b g)):=by
 have hm:=h.m64
 have hn:=h.n64
 have ev:∀ {o:Option W},[o,some (.d (aB m n R)),some (.d (.tup (mpI m b))),some (.d (.tup (mpI n g)))]=o::([W.d (aB m n R),.d (.tup (mpI m b)),.d (.tup (mpI n g))].map some++qaB (4 - 4) none):=rfl
 generalize hE:([none,some (.d (aB m n R)),some (.d (.tup (mpI m b))),some (.d (.tup (mpI n g)))]:Ev)=E
 have v1:∀ s,iV 1 E s=some (.d (aB m n R),s):=λs=>by rw[<-hE];rfl
 have v2:∀ s,iV 2 E s=some (.d (.tup (mpI m b)),s):=λs=>by rw[<-hE];rfl
 have v3:∀ s,iV 3 E s=some (.d (.tup (mpI n g)),s):=λs=>by rw[<-hE];rfl
 have lenG:∀ s,iCB bE (aa (iV 3) ag) E s=some (.d (.int (n:Int)),s):=λs=>by
  have:=bi (g:=bE) (d:=.int ((mpI n g).length:Nat)) (ac (b:=ag) (v3 s) rfl) rfl
  rw[aU]at this;exact this
 have lenR:∀ s,iCB bE (aa (iV 1) ag) E s=some (.d (.int (m:Int)),s):=λs=>by
  have:=bi (g:=bE) (d:=.int (((qac m).map λi=>D.tup (mpI n (R i))).length:Nat)) (ac (b:=ag) (v1 s) rfl) rfl
  rw[qai,qah]at this;exact this
 have f2:aD (iLc 2 [] (eF (aa (iV 1) (aa (iV 2) ag))) (.tp [0,1]) aS ju) E st0=some (.d (.lst (bg m n λi c=>if c<n then R i c else b i)),st0):=by
  have hz:eF (aa (iV 1) (aa (iV 2) ag)) E st0=some ((qac m).map λi=>D.tup [.tup (mpI n (R i)),.int (b i)],st0):=by
   have e1:jr ((qac m).map λi=>D.tup (mpI n (R i))) (mpI m b)=(qac m).map λi=>D.tup [.tup (mpI n (R i)),.int (b i)]:=by
    apply qbg
    intro i
    rw[iI,qaO,qaO]
    by_cases hi:i<m
    ·rw[cp hi,qbm hi];rfl
    ·rw[qaQ (l:=qac m) (by rw[qah];lia)];rfl
   rw[<-e1]
   have:=ac (v1 st0) (ac (b:=ag) (v2 st0) rfl)
   simp only[eF,this,qaa];rfl
  refine aK (bQ hz (by rw[qai,qah];lia) ?_)
  refine rW (g:=λi=>(D.tup (mpI n (R i)),.int (b i))) (lnD n λi c=>if c<n then R i c else b i) λi hi=>?_
  unfold lnD
  rw[<-vI (R i) (b i)]
  exact ai (aK (show iCL vj (aa (iV 0) ag) _ _=some (mpI n (R i),_) from rfl)) (aK (show cI (aa (iV 1) ag) _ _=some ([.int (b i)],_) from rfl)) (lI _ (by rw[aU];show _+1<=_;lia))
 have f3:iOp bu (aD (iLc 1 [] (aE (iV 3)) (.nm 0) aS jE)) (aD (cI (aa (iC (.int 0)) ag))) E st0=some (.d (.lst (mpI (n+1) λc=>if c<n then - g c else 0)),st0):=by
  rw[<-vI (λc=>- g c) 0]
  refine ai (aK (bQ (cX (v3 st0)) (by rw[aU];lia) (iH (g:=λk=>D.int (g k)) (λk=>D.int (- g k)) λk _=>rfl))) (aK (show cI (aa (iC (.int 0)) ag) E st0=some ([.int 0],st0) from rfl)) (lI _ ?_)
  rw[qai,qah];show _+1<=_;lia
 have f5:dH (ox (aa (iCB bE (aa (iV 3) ag)) ag)) E st0=some (.h st0.length,st0++[.l (mpI n (nI λc=>c))]):=by
  have:=ac (b:=ag) (lenG st0) rfl
  have e1:ox (aa (iCB bE (aa (iV 3) ag)) ag) E st0=some (mpI n (nI λc=>c),st0):=by
   simp only[ox,this,qaa]
   rw[if_pos ⟨by lia,by lia⟩,qbA,show cV 0 n=cV ((0:Nat):Int) n from rfl,wy]
   simp only[qbT]
  simp only[dH,e1,qaq]
 have f6:dH (qz (aa (iCB bE (aa (iV 3) ag)) (aa (iOp bu (iCB bE (aa (iV 3) ag)) (iCB bE (aa (iV 1) ag))) ag))) E (st0++[.l (mpI n (nI λc=>c))])=some (.h (st0.length+1),st0++[.l (mpI n (nI λc=>c)),.l (mpI m (nI λi=>n+i))]):=by
  generalize hs:(st0++[C.l (mpI n (nI λc=>c))])=s1
  have h2:iOp bu (iCB bE (aa (iV 3) ag)) (iCB bE (aa (iV 1) ag)) E s1=some (.d (.int ((n:Int)+(m:Int))),s1):=ai (lenG s1) (lenR s1) rfl
  have:=ac (lenG s1) (ac (b:=ag) h2 rfl)
  have e1:qz (aa (iCB bE (aa (iV 3) ag)) (aa (iOp bu (iCB bE (aa (iV 3) ag)) (iCB bE (aa (iV 1) ag))) ag)) E s1=some (mpI m (nI λi=>n+i),s1):=by
   simp only[qz,this,qaa]
   rw[if_pos ⟨by lia,by lia,by lia,by lia⟩,show (((n:Int)+(m:Int)) - (n:Int)).toNat=m by lia,wy]
  simp only[dH,e1,qaq]
  rw[<-hs,qap]
  simp
 have hini:pF dn E st0=some (fsO n (bg m n λi c=>if c<n then R i c else b i) (mpI (n+1) λc=>if c<n then - g c else 0) 1 st0.length,st0++[.l (mpI n (nI λc=>c)),.l (mpI m (nI λi=>n+i))]):=by
  unfold dn
  simp only[pF,lenG st0,f2,f3,f5,f6,qaa,qaq,show iC (.int 1) E st0=some (.d (.int 1),st0) from rfl]
  rfl
 have ha:aa (iV 0) (aa (iV 1) (aa (iV 2) ag)) [some (.d (aB m n R)),some (.d (.tup (mpI m b))),some (.d (.tup (mpI n g))),o3,o4] st0=some ([.d (aB m n R),.d (.tup (mpI m b)),.d (.tup (mpI n g))],st0):=rfl
 simp only[pi,ha,qaa]
 rw[if_pos (show [W.d (aB m n R),W.d (D.tup (mpI m b)),W.d (D.tup (mpI n g))].length+1=4 from rfl)]
 show (pF dn [none,some (.d (aB m n R)),some (.d (.tup (mpI m b))),some (.d (.tup (mpI n g)))] st0).map _=_
 rw[hE,hini,qaq]
 show some (W.h (st0++[C.l (mpI n (nI λc=>c)),.l (mpI m (nI λi=>n+i))]).length,(st0++[C.l (mpI n (nI λc=>c)),.l (mpI m (nI λi=>n+i))])++[_])=_
 rw[qap,qbz]
 rfl
inductive xF (P:Pb):D->Prop
 |most (p:Int) (am pr:Nat->Int):qF P p am pr->xF P (.tup [.str "most",.int p,.tup (mpI P.n am),.tup (mpI P.m pr)])
 |beyond (way:Nat->Int):jK P way->xF P (.tup [.str "beyond",.tup (mpI P.n way)])
theorem ym {m n:Nat} (hm:m<=64) (hn:n<=100):(n+m)^m<2^8000:=by
 have h1:(n+m)^m<=(2^8)^m:=Nat.pow_le_pow_left (by show n+m<=256;lia) m
 rw[<-qh4]at h1
 exact qb0 h1 (uG (by lia))
theorem qP (h:Inp m n R b g):∃ x,xF (eI m n R b g) x/\okT x=true/\∀ st:Sto,∃ u,gr [.d (aB m n R),.d (.tup (mpI m b)),.d (.tup (mpI n g))] st=some (.d x,st++u):=by
 have d:=zL h
 obtain⟨g1,n1,f1⟩:=yv h
 obtain⟨y,sy,oy,ey⟩:=xV d g1 n1
 have hl:=uP d (2^8000) [] _ y g1 n1 f1 sy qdk (λv hv=>nomatch hv) (λv hv=>nomatch hv) (by rw[qci,qhU];exact ym h.m64 h.n64)
 generalize hM:(aB m n R)=A at *
 generalize hB:D.tup (mpI m b)=B at *
 generalize hC:D.tup (mpI n g)=C at *
 have s3:∀ st0,aG (.nm 3) (pi 4 4 dn (aa (iV 0) (aa (iV 1) (aa (iV 2) ag)))) [some (.d A),some (.d B),some (.d C),none,none] st0=some (.nx [some (.d A),some (.d B),some (.d C),some (.h (st0.length+2)),none] (stO st0 (eI m n R b g) (wX m n R b g))):=λst0=>by
  rw[<-hM,<-hB,<-hC]
  exact aC (Ch h)
 rcases hl with⟨S',way,bw,hw⟩|⟨S',gS,nS,fS,hS,hw⟩
 ·refine⟨_,.beyond way bw,Dl _ _,λst0=>⟨_,bj (n:=5) (k:=3) (b:=iJ) rfl (ar (s3 st0) (ar (aC (lC ey oy)) (kZ (hw st0 _ _ _))))⟩⟩
 ·obtain⟨p,am,pr,mi,em⟩:=BU d gS nS fS hS
  refine⟨_,.most p am pr mi,Cm _ _ _ _ _,λst0=>⟨_,bj (n:=5) (k:=3) (b:=iJ) rfl (ar (s3 st0) (ar (aC (lC ey oy)) (ar (hw st0 _ _ _) (bF (mU (ws:=[.h (st0.length+2)]) rfl (xi (ws:=[]) (ws':=[]) rfl) em (Cm _ _ _ _ _))))))⟩⟩
end
end Own
set_option maxHeartbeats 1000000
namespace Own
open PySem L2
open Sx (Pb Tb Good Named Fe LV ZV piv lexP leastR leaveL sumN unit colV basis)
theorem yX {st:Sto}{n:Nat}{m:Int} (h:bZ st n) (m0:0<m) (m1:m<=1000):∃ r st',0<=r/\r<m/\Stp n st st'/\aM [.h n,.d (.int m)] st=some (.d (.int r),st'):=by
 have hn:=h.lt
 obtain⟨x,y,z,h0,h⟩:=h
 have m2:m<1073741824:=by lia
 have slow:(x > 0/\z+1<=400->False)->∃ r st',0<=r/\r<m/\Stp n st st'/\aM [.h n,.d (.int m)] st=some (.d (.int r),st'):=λhne=>by
  have hy0:0<=(y*48271+12345+(z+1))%2147483647:=qeR _ (by decide)
  have hy1:(y*48271+12345+(z+1))%2147483647<2147483647:=qef _ (by decide)
  have k1:qbh y 48271:=mL (by decide)
  have k3:∀ q,qbh ((y*48271+12345+(z+1))%2147483647) q:=λq=>gT (by lia)
  have hw:∃ w:Int,(y*48271+12345+(z+1))%2147483647=w:=⟨_,rfl⟩
  obtain⟨w,hw⟩:=hw
  rw[hw]at hy0 hy1 k3
  refine⟨w*(w%39373+7)%2147483629 / 64%m,st.set n (.l [.int x,.int w,.int (z+1)]),qeR _ (by lia),qef _ m0,⟨⟨_,rfl⟩,_,_,_,h0,kR hn⟩,?_⟩
  by_cases hx:x > 0
  ·have hz:¬ z+1<=400:=λq=>hne ⟨hx,q⟩
   simp only[aM,eE,iV,iC,iOp,bD,px,bK,ao,aG,io,cg,bH,cv,cT,eH,qV,iZ,lsD,dIx,bu,bO,ny,jM,dLe,dGt,qaa,qaq,qb8,qb9,qcF,qcG,qay,qcy,qat,qci,qbc,qcx,qc0,qcf,qdy,qdx,if_true,if_false,qbE,xj,Cu,AL,CA,Au,qbT,and_self,decide_true,decide_false,lg,qdz,h,hx,hz,m0,decide_false,and_self,kR hn,qer,k1,k3,hw,show (0:Int)<2147483647 by decide,show (0:Int)<39373 by decide,show (0:Int)<2147483629 by decide,show (0:Int)<64 by decide,show (64:Int)<1073741824 by decide]
  ·simp only[aM,eE,iV,iC,iOp,bD,px,bK,ao,aG,io,cg,bH,cv,cT,eH,qV,iZ,lsD,dIx,bu,bO,ny,jM,dLe,dGt,qaa,qaq,qb8,qb9,qcF,qcG,qay,qcy,qat,qci,qbc,qcx,qc0,qcf,qdy,qdx,if_true,if_false,qbE,xj,Cu,AL,CA,Au,qbT,and_self,decide_false,lg,qdz,h,hx,m0,decide_false,and_self,kR hn,qer,k1,k3,hw,show (0:Int)<2147483647 by decide,show (0:Int)<39373 by decide,show (0:Int)<2147483629 by decide,show (0:Int)<64 by decide,show (64:Int)<1073741824 by decide]
 by_cases hq:x > 0/\z+1<=400
 ·obtain⟨hx,hz⟩:=hq
  refine⟨x%m,st.set n (.l [.int (x / m),.int y,.int (z+1)]),qeR _ (by lia),qef _ m0,⟨⟨_,rfl⟩,_,_,_,qdL h0 (by lia),kR hn⟩,?_⟩
  simp only[aM,eE,iV,iC,iOp,bD,px,bK,ao,aG,io,cg,bH,cv,cT,eH,qV,iZ,lsD,dIx,bu,bO,ny,jM,dLe,dGt,qaa,qaq,qb8,qb9,qcF,qcG,qay,qcy,qat,qci,qbc,qcx,qc0,qcf,qdy,qdx,if_true,xj,AL,Dc,Au,qbT,and_self,decide_true,lg,qdz,h,hx,hz,m0,m2,decide_true,and_self,kR hn,qer]
 ·exact slow hq
theorem Cb (b:Bool):(0:Int)<=if b=true then 1 else 0:=by cases b<;>decide
theorem BH (b:Bool):(if b=true then (1:Int) else 0)<2^64:=by cases b<;>decide
theorem BW (b:Bool):-(2^64)<(if b=true then (1:Int) else 0):=by cases b<;>decide
theorem AS {st:Sto}{ns:List Int}{k:Nat} (hk8:k<=1000):∃ x y:Int,0<=x/\fk [.d (.scr ns),.d (.int k)] st=some (.h st.length,st++[.l [.int x,.int y,.int 0]]):=by
 have p18':uf 10 18:=p18
 have k1:∀ q,qbh 5303 q:=λq=>gT (by decide)
 have k2:∀ q,qbh q 48271:=λq=>mL (by decide)
 have k4:∀ q,qbh q (k:Int):=λq=>mL (by lia)
 have k3:∀ (q:Int) (b:Bool),qbh q (if b=true then 1 else 0):=λq b=>mL ⟨BW b,BH b⟩
 have key:∀ c:Int,(if (k:Int)<((ns.map D.int).length:Nat) then atI (ns.map D.int) (k:Int)=some (.int c) else c=0)->∃ x y:Int,0<=x/\fk [.d (.scr ns),.d (.int k)] st=some (.h st.length,st++[.l [.int x,.int y,.int 0]]):=λc hc=>by
  have ha:∃ a:Int,(if c<0 then -c else c)=a/\0<=a:=⟨_,rfl,by split<;>lia⟩
  obtain⟨a,ha,a0⟩:=ha
  obtain⟨g,hg⟩:∃ g,decide (a>=10^Int.toNat 18)=g:=⟨_,rfl⟩
  refine⟨a*(if g=true then 1 else 0),(c%2147483629+5303*(k:Int)*k+17)*48271%2147483647,qdW a0 (Cb _),?_⟩
  by_cases hk:(k:Int)<((ns.map D.int).length:Nat)
  ·rw[if_pos hk]at hc
   simp only[fk,gw,iV,iC,iOp,bD,lN,ag,aa,iCB,cI,dH,ao,aG,bH,cT,eH,ly,qV,iZ,lsD,dIx,bu,bO,jM,pN,dLt,dGe,bE,tY,v4,qaa,qaq,qb8,qb9,qcF,qcG,qay,qcy,qat,qci,qbc,qcx,qc0,qcf,qdy,qdx,if_true,qbT,decide_true,lg,qdz,hk,hc,ha,hg,p18',k1,k2,k3,k4,show (0:Int)<2147483629 by decide,show (0:Int)<2147483647 by decide,show (3:Nat)<=1000 by decide]
  ·rw[if_neg hk]at hc
   subst hc
   have ha0:a=0:=by rw[<-ha];rfl
   subst ha0
   rw[<-hg]
   simp only[fk,gw,iV,iC,iOp,bD,lN,ag,aa,iCB,cI,dH,ao,aG,bH,cT,eH,ly,qV,iZ,lsD,dIx,bu,bO,jM,pN,dLt,dGe,bE,tY,v4,qaa,qaq,qb8,qb9,qcF,qcG,qay,qcy,qat,qci,qbc,qcx,qc0,qcf,qdy,qdx,if_true,if_false,qbE,qbT,decide_false,lg,Int.reduceLT,qdz,hk,p18',k1,k2,k3,k4,show (0:Int)<2147483629 by decide,show (0:Int)<2147483647 by decide,show (3:Nat)<=1000 by decide]
 by_cases hk:(k:Int)<((ns.map D.int).length:Nat)
 ·have hk':k<ns.length:=by rw[qai]at hk;lia
  exact key ns[k] (by rw[if_pos hk];exact eM (by rw[qaO,qaL hk'];rfl))
 ·exact key 0 (by rw[if_neg hk])
theorem xX {te:Ef}{st:Sto}{n:Nat}{a:Option W}{l:Ev} (Q:D->Prop) {ds:List D} (h:bZ st n) (hte:∀ s d,d∈ds->bZ s n->∃ x s',Q x/\Stp n s s'/\te (some (.d d)::l) s=some (.d x,s')) :
  ∃ us st',us.length=ds.length/\(∀ u∈us,Q u)/\Stp n st st'/\lcI (.nm 0) aS te (a::l) ds st=some (us,st'):=by
 obtain⟨us,s2,e2,t2,hl,hv⟩:=mH (g:=.nm 0) (tt:=aS) (te:=te) (env:=a::l) (ds:=ds)
  (λi ys s=>Stp n st s/\ys.length=i/\∀ u ∈ ys,Q u) (st:=st) (ys0:=[]) ⟨Stp.refl h,rfl,(λ_ h=>nomatch h)⟩ (λi d ys s hd ⟨p1,p3,p4⟩=>by
   obtain⟨x,s2,hx,t2,e2⟩:=hte s d (qbF hd) p1.hand
   exact⟨_,rfl,.inl ⟨s,x,s2,rfl,e2,p1.trans t2,by rw[qap,p3];rfl,λu hu=>by
    rcases qaM.mp hu with z|z
    ·exact p4 u z
    ·rw[qaj.mp z];exact hx⟩⟩)
 exact⟨us,s2,by simpa using hl,by simpa using hv,t2,e2⟩
end Own
set_option maxHeartbeats 1000000
namespace Own
open PySem L2
open Sx (Pb Tb Good Named Fe LV ZV piv lexP leastR leaveL sumN unit colV basis)
theorem kP {f:Tf}{env:Ev}{st s:Sto}{k:Bool} (h:f env st=some (k,s)):dh f env st=some (!k,s):=by
 simp only[dh,h,qaq]
theorem lU {a b:Tf}{env:Ev}{st s s':Sto}{k:Bool} (ha:a env st=some (false,s)) (hb:b env s=some (k,s')):fR a b env st=some (k,s'):=by
 simp only[fR,ha,qaa,qbE,if_false,hb]
theorem BN {a b:Tf}{env:Ev}{st s:Sto} (ha:a env st=some (true,s)):fR a b env st=some (true,s):=by
 simp only[fR,ha,qaa,if_true]
theorem yi {a b:Tf}{env:Ev}{st:Sto}{k j:Bool} (ha:a env st=some (k,st)) (hb:b env st=some (j,st)):fR a b env st=some (k||j,st):=by
 cases k with
 |true=>exact BN ha
 |false=>exact lU ha hb
theorem pQ {a b:Ef}{env:Ev}{st:Sto}{k j:Bool} (ha:a env st=some (.d (.bl k),st)) (hb:b env st=some (.d (.bl j),st)):gR a b env st=some (.d (.bl (k&&j)),st):=by
 cases k with
 |true=>simp only[gR,ha,qaa,blW,if_true,hb];rfl
 |false=>simp only[gR,ha,qaa,blW,qbE,if_false];rfl
theorem qZ {c:Tf}{r:Sf}{env:Ev}{st:Sto}{k j:Bool} (hc:c env st=some (k,st)) (hr:r env st=some (.rt (.d (.bl j)) st)):ao (cv c (bH (iC (.bl false))) bK) r env st=some (.rt (.d (.bl (!k&&j))) st):=by
 cases k with
 |true=>exact kZ (ix (s:=st) hc rfl)
 |false=>exact ar (dS (s:=st) hc rfl) hr
theorem qB {f:Ef}{env:Ev}{st s:Sto}{k:Bool} (h:f env st=some (.d (.bl k),s)):dm dF f env st=some (k,s):=by
 simp only[dm,h,qaa];rfl
def ti (xs:List Int):D:=.tup (xs.map D.int)
def jp (xs ys:List Int):Int:=(List.zipWith (λa b=>a*b) xs ys).sum
def Sml (xs:List Int):Prop:=xs.length<=1000/\∀ x∈xs,x.natAbs<=2^50
theorem xG {α:Type}{te:Ef}{l:Ev}{st:Sto}{g:α->D×D} (F:α->D):∀ {ks:List α},(∀ k∈ks,te (some (.d (g k).1)::some (.d (g k).2)::l) st=some (.d (F k),st))->
  lcI (.tp [0,1]) aS te (none::none::l) (ks.map λk=>D.tup [(g k).1,(g k).2]) st=some (ks.map F,st)
 |[],_=>rfl
 |k::ks,h=>by
  have ih:=xG (te:=te) (l:=l) (st:=st) (g:=g) F (ks:=ks) λx hx=>h x (qal _ hx)
  have h1:=h k qaf
  rw[qay,qay]
  unfold lcI
  rw[show eH (.tp [0,1]) (.d (.tup [(g k).1,(g k).2])) (none::none::l)=some (some (.d (g k).1)::some (.d (g k).2)::l) from rfl,qaa,show aS (some (.d (g k).1)::some (.d (g k).2)::l) st=some (true,st) from rfl,qaa,if_pos rfl,h1,qaa,ih];rfl
theorem tu {α:Type}{te:Ef}{l:Ev}{st:Sto}{g:α->D} (F:α->D):∀ {ks:List α},(∀ k∈ks,te (some (.d (g k))::l) st=some (.d (F k),st))->lcI (.nm 0) aS te (none::l) (ks.map g) st=some (ks.map F,st)
 |[],_=>rfl
 |k::ks,h=>by
  have ih:=tu (te:=te) (l:=l) (st:=st) (g:=g) F (ks:=ks) λx hx=>h x (qal _ hx)
  have h1:=h k qaf
  rw[qay,qay]
  unfold lcI
  rw[show eH (.nm 0) (.d (g k)) (none::l)=some (some (.d (g k))::l) from rfl,qaa,show aS (some (.d (g k))::l) st=some (true,st) from rfl,qaa,if_pos rfl,h1,qaa,ih];rfl
theorem rm {α β:Type} (f:α->D) (g:β->D):∀ (xs:List α) (ys:List β),jr (xs.map f) (ys.map g)=(xs.zip ys).map λq=>D.tup [f q.1,g q.2]
 |[],ys=>by cases ys<;>rfl
 |x::xs,[]=>rfl
 |x::xs,y::ys=>by rw[qay,qay,jr,rm f g xs ys];rfl
theorem uS {α:Type} (f:α->Int):∀ (xs:List α) (ys:List Int),((xs.zip ys).map λq=>f q.1*q.2).sum=jp (xs.map f) ys
 |[],ys=>by cases ys<;>rfl
 |x::xs,[]=>rfl
 |x::xs,y::ys=>by
  have ih:=uS f xs ys
  unfold jp at ih ⊢
  rw[qeb,qay,qay,qfd,qec,qec,ih]
theorem tP {a b:Int} (h:a.natAbs<=2^50):qbh a b:=gT (by lia)
abbrev CQ:Sf:=bH (iCB vT (aa (aD (iLc 2 [] (eF (aa (iV 0) (aa (iV 1) ag))) (.tp [0,1]) aS (iOp bO (iV 0) (iV 1)))) ag))
theorem vH {st:Sto}{d:D}{xs ys:List Int} (hd:d=.tup (xs.map D.int)\/d=.lst (xs.map D.int)) (hx:Sml xs):cT 2 2 CQ [.d d,.d (ti ys)] st=some (.d (.int (jp xs ys)),st):=by
 have hz:eF (aa (iV 0) (aa (iV 1) ag)) [some (.d d),some (.d (ti ys))] st=some ((xs.zip ys).map λq=>D.tup [.int q.1,.int q.2],st):=by
  rw[<-rm D.int D.int]
  rcases hd with rfl|rfl<;>rfl
 have hl:lcI (.tp [0,1]) aS (iOp bO (iV 0) (iV 1)) [none,none] ((xs.zip ys).map λq=>D.tup [.int q.1,.int q.2]) st=some ((xs.zip ys).map λq=>D.int (q.1*q.2),st):=
  xG (g:=λq:Int×Int=>(D.int q.1,D.int q.2)) (λq=>D.int (q.1*q.2)) λq hq=>ai rfl rfl (cF st (tP (hx.2 q.1 (qdF hq).1)))
 have hs:vT st [.d (.lst ((xs.zip ys).map λq=>D.int (q.1*q.2)))]=some (.int (jp xs ys)):=by
  have:=BT st ((xs.zip ys).map λq=>q.1*q.2)
  rw[uS (λx=>x),qbs,List.map_id']at this
  exact this
 have hlen:((xs.zip ys).map λq=>D.tup [.int q.1,.int q.2]).length<=1000000:=by
  rw[qai,qgr];have:=hx.1;lia
 exact bj (n:=2) (k:=2) (b:=CQ) rfl (bF (bi (ac (aK (bQ hz hlen hl)) rfl) hs))
theorem rX {st:Sto}{d:D}{xs ys:List Int} (hd:d=.tup (xs.map D.int)\/d=.lst (xs.map D.int)) (hx:Sml xs):bh [.d d,.d (ti ys)] st=some (.d (.int (jp xs ys)),st):=vH hd hx
theorem BD {st:Sto}{xs ys:List Int} (hx:Sml xs):kC [.d (ti xs),.d (ti ys)] st=some (.d (.int (jp xs ys)),st):=vH (.inl rfl) hx
theorem xz (s:Sto) {α:Type} (f:α->Bool) (ks:List α):tR s [.d (.lst (ks.map λk=>D.bl (f k)))]=some (.bl (ks.all f)):=by
 show (lF _).map _=_
 rw[show (ks.map λk=>D.bl (f k))=(ks.map f).map D.bl by rw[qbs];rfl,ni]
 show some (D.bl ((ks.map f).all id))=_
 rw[qgW];rfl
def jg (xs:List Int) (k:Nat):Bool:=(xs.length==k)&&xs.all λx=>decide (x>=0)
theorem Do (s:Sto) (xs:List Int):bE s [.d (ti xs)]=some (.int (xs.length:Int)):=by
 show some (D.int ((xs.map D.int).length:Nat))=_
 rw[qai]
theorem xW {w:Fn}{st:Sto}{xs:List Int}{k:Nat} (hw:∀ (i:Int) (s:Sto),w [.d (.int i)] s=some (.d (.bl true),s)) (hl:xs.length<=1000):cT 2 2 (ao (cv (fR (dh (dm dF (iCB pA (aa (iV 0) (aa (iC (.ty "tuple")) ag))))) (bD dNe (iCB bE (aa (iV 0) ag)) (iV 1))) (bH (iC (.bl false))) bK) (bH (iCB tR (aa (aD (iLc 1 [] (aE (iV 0)) (.nm 0) aS (gR (ay w (aa (iV 0) ag)) (iOp dGe (iV 0) (iC (.int 0)))))) ag)))) [.d (ti xs),.d (.int (k:Int))] st=some (.d (.bl (jg xs k)),st):=by
 have h1:fR (dh (dm dF (iCB pA (aa (iV 0) (aa (iC (.ty "tuple")) ag))))) (bD dNe (iCB bE (aa (iV 0) ag)) (iV 1)) [some (.d (ti xs)),some (.d (.int (k:Int)))] st=some (!(xs.length==k),st):=by
  refine lU (s:=st) rfl (bG (bi (ac rfl rfl) (Do st xs)) rfl ?_)
  show some (D.bl (!((xs.length:Int)==(k:Int))))=_
  rw[show ((xs.length:Int)==(k:Int))=(xs.length==k) by rw[qcJ];simp;lia]
 have hlc:lcI (.nm 0) aS (gR (ay w (aa (iV 0) ag)) (iOp dGe (iV 0) (iC (.int 0)))) [none] (xs.map D.int) st=some (xs.map λx=>D.bl (decide (x>=0)),st):=
  tu (g:=D.int) (λx=>D.bl (decide (x>=0))) λx _=>pQ (k:=true) (az rfl (hw x st)) (ai rfl rfl (zk st _ _))
 have:=qZ (r:=bH (iCB tR (aa (aD (iLc 1 [] (aE (iV 0)) (.nm 0) aS (gR (ay w (aa (iV 0) ag)) (iOp dGe (iV 0) (iC (.int 0)))))) ag))) h1 (bF (bi (ac (aK (bQ (cX rfl) (by rw[qai];lia) hlc)) rfl) (xz st (λx:Int=>decide (x>=0)) xs)))
 rw[qg4]at this
 exact bj (n:=2) (k:=2) rfl this
theorem zZ {st:Sto}{xs:List Int}{k:Nat} (hl:xs.length<=1000):cj [.d (ti xs),.d (.int (k:Int))] st=some (.d (.bl (jg xs k)),st):=xW (w:=gF) (λ_ _=>rfl) hl
end Own
set_option maxHeartbeats 1000000
namespace Own
open PySem L2
open Sx (Pb Tb Good Named Fe LV ZV piv lexP leastR leaveL sumN unit colV basis)
def rlL (n:Nat) (R:Nat->Nat->Int) (i:Nat):List Int:=(qac n).map (R i)
def clL (m:Nat) (R:Nat->Nat->Int) (k:Nat):List Int:=(qac m).map λr=>R r k
theorem nC (n:Nat) (f:Nat->Int):D.tup (mpI n f)=ti ((qac n).map f):=by unfold ti;rw[cC]
theorem A3 (m n:Nat) (R:Nat->Nat->Int) (b:Nat->Int):jr ((qac m).map λi=>D.tup (mpI n (R i))) (mpI m b)=(qac m).map λi=>D.tup [.tup (mpI n (R i)),.int (b i)]:=by
 apply qbg
 intro i
 rw[iI,qaO,qaO]
 by_cases hi:i<m
 ·rw[cp hi,qbm hi];rfl
 ·rw[qaQ (l:=qac m) (by rw[qah];lia)];rfl
section
variable {m n:Nat}{R:Nat->Nat->Int}{b g:Nat->Int}
theorem Inp.row (h:Inp m n R b g) {i:Nat} (hi:i<m):Sml (rlL n R i):=by
 have:=h.n64
 refine⟨by unfold rlL;rw[qai,qah];lia,λx hx=>?_⟩
 obtain⟨c,hc,rfl⟩:=qbe.mp hx
 exact h.R i c hi (qaK.mp hc)
theorem Inp.col (h:Inp m n R b g) {k:Nat} (hk:k<n):Sml (clL m R k):=by
 have:=h.m64
 refine⟨by unfold clL;rw[qai,qah];lia,λx hx=>?_⟩
 obtain⟨c,hc,rfl⟩:=qbe.mp hx
 exact h.R c k (qaK.mp hc) hk
theorem Inp.bL (h:Inp m n R b g):Sml ((qac m).map b):=by
 have:=h.m64
 refine⟨by rw[qai,qah];lia,λx hx=>?_⟩
 obtain⟨c,hc,rfl⟩:=qbe.mp hx
 exact (h.b c (qaK.mp hc)).1
theorem Inp.gL (h:Inp m n R b g):Sml ((qac n).map g):=by
 have:=h.n64
 refine⟨by rw[qai,qah];lia,λx hx=>?_⟩
 obtain⟨c,hc,rfl⟩:=qbe.mp hx
 exact h.g c (qaK.mp hc)
def lV (m n:Nat) (R:Nat->Nat->Int) (b:Nat->Int) (am:List Int) (p:Int):Bool:=(qac m).all λr=>decide (jp (rlL n R r) am<=b r*p)
def xH (m n:Nat) (R:Nat->Nat->Int) (g:Nat->Int) (pr:List Int) (p:Int):Bool:=(qac n).all λk=>decide (jp (clL m R k) pr>=g k*p)
def eqB (m n:Nat) (b g:Nat->Int) (am pr:List Int):Bool:=jp ((qac m).map b) pr==jp ((qac n).map g) am
def rY (m n:Nat) (R:Nat->Nat->Int) (b g:Nat->Int) (p:Int) (am pr:List Int):Bool:=!(decide (p<1))&&(jg am n&&(jg pr m&&(lV m n R b am p&&(xH m n R g pr p&&eqB m n b g am pr))))
def yq (m n:Nat) (R:Nat->Nat->Int) (g:Nat->Int) (way:List Int):Bool:=jg way n&&(lV m n R (λ_=>0) way 1&&decide (jp ((qac n).map g) way > 0))
theorem C8 (s:Sto) (a b:Int):dLe s (.d (.int a)) (.d (.int b))=some (.bl (decide (a<=b))):=rfl
theorem u9 {st:Sto}{B:D}{am:List Int}{p:Int} (hm:m<=64) (hB:B=.tup (mpI m b)\/B=.lst (mpI m b)) (hR:∀ i,i<m->Sml (rlL n R i)) (hb:∀ i,i<m->(b i).natAbs<=2^50):cx [.d (aB m n R),.d B,.d (ti am),.d (.int p)] st=some (.d (.bl (lV m n R b am p)),st):=by
 have hz:eF (aa (iV 0) (aa (iV 1) ag)) [some (.d (aB m n R)),some (.d B),some (.d (ti am)),some (.d (.int p))] st=some ((qac m).map λi=>D.tup [.tup (mpI n (R i)),.int (b i)],st):=by
  rw[<-A3]
  rcases hB with rfl|rfl<;>rfl
 have hl:lcI (.tp [0,1]) aS gU [none,none,some (.d (ti am)),some (.d (.int p))] ((qac m).map λi=>D.tup [.tup (mpI n (R i)),.int (b i)]) st=some ((qac m).map λr=>D.bl (decide (jp (rlL n R r) am<=b r*p)),st):=
  rW (g:=λi=>(D.tup (mpI n (R i)),.int (b i))) (λr=>D.bl (decide (jp (rlL n R r) am<=b r*p))) λi hi=>by
   have hi':=qaK.mp hi
   exact ai (az (ws:=[.d (.tup (mpI n (R i))),.d (ti am)]) rfl (rX (xs:=rlL n R i) (.inl (by unfold rlL;rw[<-cC])) (hR i hi'))) (ai rfl rfl (cF st (tP (hb i hi')))) (C8 _ _ _)
 exact bj (n:=4) (k:=4) (b:=dZ) rfl (bF (bi (ac (aK (bQ hz (by rw[qai,qah];lia) hl)) rfl) (xz st _ _)))
theorem Bk {st:Sto}{k:Nat} (hm:m<=64) (hk:k<n):jD [.d (aB m n R),.d (.int (k:Int))] st=some (.d (.lst ((clL m R k).map D.int)),st):=by
 have hl:lcI (.nm 0) aS kf [none,some (.d (.int (k:Int)))] ((qac m).map λi=>D.tup (mpI n (R i))) st=some ((qac m).map λr=>D.int (R r k),st):=
  iH (g:=λi=>D.tup (mpI n (R i))) (λr=>D.int (R r k)) λi _=>ai rfl rfl (show dIx st (.d (.tup (mpI n (R i)))) (.d (.int (k:Int)))=some (.int (R i k)) from eM (cp hk))
 unfold clL
 rw[qbs]
 exact bj (n:=2) (k:=2) (b:=ij) rfl (bF (aK (bQ (cX rfl) (by rw[qai,qah];lia) hl)))
theorem Aq {st:Sto}{pr:List Int}{p:Int} (h:Inp m n R b g):fJ [.d (aB m n R),.d (.tup (mpI n g)),.d (ti pr),.d (.int p)] st=some (.d (.bl (xH m n R g pr p)),st):=by
 have hm:=h.m64
 have hn:=h.n64
 have hz:fX (aa (iV 1) ag) [some (.d (aB m n R)),some (.d (.tup (mpI n g))),some (.d (ti pr)),some (.d (.int p))] st=some ((qac n).map λi=>D.tup [.int ((i:Nat):Int),.int (g i)],st):=by
  rw[<-qx];rfl
 have hl:lcI (.tp [0,1]) aS jd [none,none,some (.d (aB m n R)),some (.d (ti pr)),some (.d (.int p))] ((qac n).map λi=>D.tup [.int ((i:Nat):Int),.int (g i)]) st=some ((qac n).map λk=>D.bl (decide (jp (clL m R k) pr>=g k*p)),st):=
  rW (g:=λi=>(D.int ((i:Nat):Int),.int (g i))) (λk=>D.bl (decide (jp (clL m R k) pr>=g k*p))) λi hi=>by
   have hi':=qaK.mp hi
   exact ai (az (ac (az (ws:=[.d (aB m n R),.d (.int ((i:Nat):Int))]) rfl (Bk hm hi')) (ac rfl rfl)) (rX (.inr rfl) (h.col hi'))) (ai rfl rfl (cF st (tP (h.g i hi')))) (zk _ _ _)
 exact bj (n:=4) (k:=4) (b:=fD) rfl (bF (bi (ac (aK (bQ hz (by rw[qai,qah];lia) hl)) rfl) (xz st _ _)))
theorem pv (s:Sto) (f:Nat->Int):bE s [.d (.tup (mpI n f))]=some (.int (n:Int)):=by
 show some (D.int ((mpI n f).length:Nat))=_
 rw[aU]
theorem uY (s:Sto):bE s [.d (aB m n R)]=some (.int (m:Int)):=by
 show some (D.int (((qac m).map λi=>D.tup (mpI n (R i))).length:Nat))=_
 rw[qai,qah]
theorem Ay {st:Sto}{p:Int}{am pr:List Int} (h:Inp m n R b g) (ha:am.length<=1000) (hp:pr.length<=1000):ky [.d (aB m n R),.d (.tup (mpI m b)),.d (.tup (mpI n g)),.d (.int p),.d (ti am),.d (ti pr)] st=some (.d (.bl (rY m n R b g p am pr)),st):=by
 have k1:=zZ (st:=st) (xs:=am) (k:=n) ha
 have k2:=zZ (st:=st) (xs:=pr) (k:=m) hp
 have k3:=u9 (st:=st) (m:=m) (n:=n) (R:=R) (b:=b) (am:=am) (p:=p) h.m64 (.inl rfl) (λi hi=>h.row hi) (λi hi=>(h.b i hi).1)
 have k4:=Aq (st:=st) (pr:=pr) (p:=p) h
 have k5:=rX (st:=st) (d:=.tup (mpI m b)) (xs:=(qac m).map b) (ys:=pr) (.inl (by rw[cC])) h.bL
 have k6:=rX (st:=st) (d:=.tup (mpI n g)) (xs:=(qac n).map g) (ys:=am) (.inl (by rw[cC])) h.gL
 have l1:=pv (n:=n) st g
 have l2:=uY (m:=m) (n:=n) (R:=R) st
 generalize aB m n R=rs at *
 generalize D.tup (mpI m b)=bs at *
 generalize D.tup (mpI n g)=gs at *
 generalize ti am=ta at *
 generalize ti pr=tp at *
 have c1:fR (dh (dm dF (ay gF (aa (iV 3) ag)))) (bD dLt (iV 3) (iC (.int 1))) [some (.d rs),some (.d bs),some (.d gs),some (.d (.int p)),some (.d ta),some (.d tp)] st=some (false||decide (p<1),st):=yi (k:=false) rfl (bG rfl rfl (v7 _ _ _))
 have c2:fR (dh (dm dF (ay cj (aa (iV 4) (aa (iCB bE (aa (iV 2) ag)) ag))))) (dh (dm dF (ay cj (aa (iV 5) (aa (iCB bE (aa (iV 0) ag)) ag))))) [some (.d rs),some (.d bs),some (.d gs),some (.d (.int p)),some (.d ta),some (.d tp)] st=some (!(jg am n)||!(jg pr m),st):=yi (kP (qB (az (ac rfl (ac (bi (ac rfl rfl) l1) rfl)) k1))) (kP (qB (az (ac rfl (ac (bi (ac rfl rfl) l2) rfl)) k2)))
 have c3:fR (dh (dm dF (ay cx (aa (iV 0) (aa (iV 1) (aa (iV 4) (aa (iV 3) ag))))))) (dh (dm dF (ay fJ (aa (iV 0) (aa (iV 2) (aa (iV 5) (aa (iV 3) ag))))))) [some (.d rs),some (.d bs),some (.d gs),some (.d (.int p)),some (.d ta),some (.d tp)] st=some (!(lV m n R b am p)||!(xH m n R g pr p),st):=yi (kP (qB (az rfl k3))) (kP (qB (az rfl k4)))
 have c4:iOp dEq (ay bh (aa (iV 1) (aa (iV 5) ag))) (ay bh (aa (iV 2) (aa (iV 4) ag))) [some (.d rs),some (.d bs),some (.d gs),some (.d (.int p)),some (.d ta),some (.d tp)] st=some (.d (.bl (eqB m n b g am pr)),st):=ai (az rfl k5) (az rfl k6) (uV _ _ _)
 have:=bj (n:=6) (k:=6) (b:=gJ) (ws:=[.d rs,.d bs,.d gs,.d (.int p),.d ta,.d tp]) rfl (qZ c1 (qZ c2 (qZ c3 (bF c4))))
 show cT 6 6 gJ _ st=_
 rw[this]
 unfold rY
 cases decide (p<1)<;>cases jg am n<;>cases jg pr m<;>cases lV m n R b am p<;>cases xH m n R g pr p<;>rfl
theorem At {st:Sto}{way:List Int} (h:Inp m n R b g) (hw:way.length<=1000):nX [.d (aB m n R),.d (.tup (mpI n g)),.d (ti way)] st=some (.d (.bl (yq m n R g way)),st):=by
 have hm:=h.m64
 have k1:=zZ (st:=st) (xs:=way) (k:=n) hw
 have k3:=u9 (st:=st) (m:=m) (n:=n) (R:=R) (b:=λ_=>0) (am:=way) (p:=1) h.m64 (.inr rfl) (λi hi=>h.row hi) (λi hi=>qb2 _)
 have k6:=rX (st:=st) (d:=.tup (mpI n g)) (xs:=(qac n).map g) (ys:=way) (.inl (by rw[cC])) h.gL
 have l1:=pv (n:=n) st g
 have l2:=uY (m:=m) (n:=n) (R:=R) st
 have hz:bO st (.d (.lst [.int 0])) (.d (.int (m:Int)))=some (.lst (mpI m λ_=>0)):=by
  unfold bO;dsimp only
  rw[if_pos ⟨by show 1<=1000;decide,by lia,by lia⟩,qbA,sO m (λ_=>0) (λ_=>0) 0]
  rw[cn (g:=λ_=>0) λk _=>qs λj hj=>absurd hj (qcK _)]
 generalize aB m n R=rs at *
 generalize D.tup (mpI n g)=gs at *
 generalize ti way=tw at *
 have c1:dh (dm dF (ay cj (aa (iV 2) (aa (iCB bE (aa (iV 1) ag)) ag)))) [some (.d rs),some (.d gs),some (.d tw)] st=some (!(jg way n),st):=kP (qB (az (ac rfl (ac (bi (ac rfl rfl) l1) rfl)) k1))
 have c2:ay cx (aa (iV 0) (aa (iOp bO (aD (cI (aa (iC (.int 0)) ag))) (iCB bE (aa (iV 0) ag))) (aa (iV 2) (aa (iC (.int 1)) ag)))) [some (.d rs),some (.d gs),some (.d tw)] st=some (.d (.bl (lV m n R (λ_=>0) way 1)),st):=az (ac rfl (ac (ai rfl (bi (ac rfl rfl) l2) hz) rfl)) k3
 have:=bj (n:=3) (k:=3) (b:=jO) (ws:=[.d rs,.d gs,.d tw]) rfl (qZ c1 (bF (pQ c2 (ai (az rfl k6) rfl (wA _ _ _)))))
 show cT 3 3 jO _ st=_
 rw[this,qg4];rfl
end
end Own
set_option maxHeartbeats 1000000
namespace Own
open PySem L2
open Sx (Pb Tb Good Named Fe LV ZV piv lexP leastR leaveL sumN unit colV basis)
def aW (m n:Nat) (R:Nat->Nat->Int) (b g:Nat->Int):D:=.tup [aB m n R,.tup (mpI m b),.tup (mpI n g)]
theorem zY (s:Sto) (a b:Str):dEq s (.d (.str a)) (.d (.str b))=some (.bl (a==b)):=x8 s a b
section
variable {m n:Nat}{R:Nat->Nat->Int}{b g:Nat->Int}
theorem AY {st:Sto}{w:Str}{xs:List Int} (h:Inp m n R b g) (hx:xs.length<=1000):eZ [.d (aB m n R),.d (.tup (mpI m b)),.d (.tup (mpI n g)),.d (.tup [.str w,ti xs])] st=some (.d (.bl ((w=="beyond")&&yq m n R g xs)),st):=by
 have k:=At (st:=st) (way:=xs) h hx
 generalize aB m n R=rs at *
 generalize D.tup (mpI m b)=bs at *
 generalize D.tup (mpI n g)=gs at *
 generalize ti xs=tx at *
 exact bj (n:=4) (k:=4) (b:=eR) rfl (ar (dS (s:=st) (lU (s:=st) rfl (lU (s:=st) rfl (kP (k:=true) (qB (bi (ac (ai rfl rfl (lJ _ _ _)) (ac rfl rfl)) rfl))))) rfl) (ar (dS (s:=st) rfl rfl) (bF (pQ (ai (ai rfl rfl (lJ _ _ _)) rfl (zY _ _ _)) (az (ac rfl (ac rfl (ac (ai rfl rfl (kT _ _ _)) rfl))) k)))))
theorem Ae {st:Sto}{w:Str}{p:Int}{xs ys:List Int} (h:Inp m n R b g) (hx:xs.length<=1000) (hy:ys.length<=1000):eZ [.d (aB m n R),.d (.tup (mpI m b)),.d (.tup (mpI n g)),.d (.tup [.str w,.int p,ti xs,ti ys])] st=some (.d (.bl ((w=="most")&&rY m n R b g p xs ys)),st):=by
 have k:=Ay (st:=st) (p:=p) (am:=xs) (pr:=ys) h hx hy
 generalize aB m n R=rs at *
 generalize D.tup (mpI m b)=bs at *
 generalize D.tup (mpI n g)=gs at *
 generalize ti xs=tx at *
 generalize ti ys=ty at *
 have i0:dIx st (.d (.tup [.str w,.int p,tx,ty])) (.d (.int 0))=some (.str w):=rfl
 have i1:dIx st (.d (.tup [.str w,.int p,tx,ty])) (.d (.int 1))=some (.int p):=rfl
 have i2:dIx st (.d (.tup [.str w,.int p,tx,ty])) (.d (.int 2))=some tx:=rfl
 have i3:dIx st (.d (.tup [.str w,.int p,tx,ty])) (.d (.int 3))=some ty:=rfl
 exact bj (n:=4) (k:=4) (b:=eR) rfl (ar (dS (s:=st) (lU (s:=st) rfl (lU (s:=st) rfl (kP (k:=true) (qB (bi (ac (ai rfl rfl i0) (ac rfl rfl)) rfl))))) rfl) (kZ (ix (s:=st) rfl (bF (pQ (ai (ai rfl rfl i0) rfl (zY _ _ _)) (az (ac rfl (ac rfl (ac rfl (ac (ai rfl rfl i1) (ac (ai rfl rfl i2) (ac (ai rfl rfl i3) rfl)))))) k))))))
end
theorem vC (f h:Nat->Int):∀ l:List Nat,jp (l.map f) (l.map h)=(l.map λk=>f k*h k).sum
 |[]=>rfl
 |k::l=>by
  have ih:=vC f h l
  unfold jp at ih ⊢
  rw[qay,qay,qay,qfd,qec,qec,ih]
theorem AE (n:Nat) (f:Nat->Int):((qac n).map f).sum=sumN n f:=by
 induction n with
 |zero=>rfl
 |succ n ih=>rw[qeE,qcg,List.sum_append,ih,Sx.sumN];simp
theorem kB (n:Nat) (f h:Nat->Int):jp ((qac n).map f) ((qac n).map h)=sumN n λk=>f k*h k:=by rw[vC,AE]
theorem ql {n:Nat}{f:Nat->Int} (h:∀ k,k<n->0<=f k):jg ((qac n).map f) n=true:=by
 unfold jg
 rw[qa4]
 refine⟨by rw[qai,qah];simp,?_⟩
 rw[qa3]
 intro x hx
 obtain⟨k,hk,rfl⟩:=qbe.mp hx
 exact decide_eq_true (h k (qaK.mp hk))
section
variable {m n:Nat}{R:Nat->Nat->Int}{b g:Nat->Int}
theorem pbA (hr:r<m) (hj:j<n):(eI m n R b g).A j r=R r j:=by
 show (if j<n then (if r<m then R r j else 0) else _)=_
 rw[if_pos hj,if_pos hr]
theorem pbb (hr:r<m):(eI m n R b g).b r=b r:=by show (if r<m then _ else _)=_;rw[if_pos hr]
theorem pbg (hj:j<n):(eI m n R b g).g j=g j:=by show (if j<n then _ else _)=_;rw[if_pos hj]
theorem ur {n:Nat}{P:Nat->Prop} [∀ k,Decidable (P k)] (h:∀ k,k<n->P k):((qac n).all λk=>decide (P k))=true:=by
 rw[qa3]
 intro k hk
 exact decide_eq_true (h k (qaK.mp hk))
theorem wb {p:Int}{am pr:Nat->Int} (M:qF (eI m n R b g) p am pr):rY m n R b g p ((qac n).map am) ((qac m).map pr)=true:=by
 have c1:∀ r,r<m->(sumN n λj=>R r j*am j)<=b r*p:=λr hr=>by
  have:=M.rows r hr
  rw[pbb hr,qaC p]at this
  rw[Sx.sumN_congr (g:=λj=>am j*(eI m n R b g).A j r) λj hj=>by rw[pbA hr hj,qaC]]
  exact this
 have c2:∀ j,j<n->(sumN m λr=>R r j*pr r)>=g j*p:=λj hj=>by
  have:=M.cols j hj
  rw[pbg hj,qaC p]at this
  rw[Sx.sumN_congr (g:=λr=>(eI m n R b g).A j r*pr r) λr hr=>by rw[pbA hr hj]]
  exact this
 have c3:(sumN m λr=>b r*pr r)=sumN n λj=>g j*am j:=by
  have:=M.same
  rw[Sx.sumN_congr (g:=λr=>(eI m n R b g).b r*pr r) λr hr=>by rw[pbb hr],Sx.sumN_congr (n:=n) (g:=λj=>am j*(eI m n R b g).g j) λj hj=>by rw[pbg hj,qaC]]
  exact this
 have p1:=M.p1
 have e1:lV m n R b ((qac n).map am) p=true:=ur λr hr=>by unfold rlL;rw[kB];exact c1 r hr
 have e2:xH m n R g ((qac m).map pr) p=true:=ur λk hk=>by unfold clL;rw[kB];exact c2 k hk
 have e3:eqB m n b g ((qac n).map am) ((qac m).map pr)=true:=by unfold eqB;rw[kB,kB,c3];simp
 unfold rY
 rw[decide_eq_false (by lia),ql (n:=n) (f:=am) M.am0,ql (n:=m) (f:=pr) M.pr0,e1,e2,e3];rfl
theorem wC {way:Nat->Int} (M:jK (eI m n R b g) way):yq m n R g ((qac n).map way)=true:=by
 have c1:∀ r,r<m->(sumN n λj=>R r j*way j)<=0*1:=λr hr=>by
  have:=M.rows r hr
  rw[Sx.sumN_congr (g:=λj=>way j*(eI m n R b g).A j r) λj hj=>by rw[pbA hr hj,qaC]]
  exact this
 have c2:(sumN n λj=>g j*way j) > 0:=by
  have:=M.gain
  rw[Sx.sumN_congr (n:=n) (g:=λj=>way j*(eI m n R b g).g j) λj hj=>by rw[pbg hj,qaC]]
  exact this
 have e1:lV m n R (λ_=>0) ((qac n).map way) 1=true:=ur λr hr=>by unfold rlL;rw[kB];exact c1 r hr
 unfold yq
 rw[ql (n:=n) (f:=way) M.w0,e1,kB,decide_eq_true c2];rfl
theorem xI {x:D} (h:Inp m n R b g) (M:xF (eI m n R b g) x) (st:Sto):eZ [.d (aB m n R),.d (.tup (mpI m b)),.d (.tup (mpI n g)),.d x] st=some (.d (.bl true),st):=by
 have hm:=h.m64
 have hn:=h.n64
 cases M with
 |most p am pr M=>
  have:=Ae (st:=st) (w:="most") (p:=p) (xs:=(qac n).map am) (ys:=(qac m).map pr) h (by rw[qai,qah];lia) (by rw[qai,qah];lia)
  rw[wb M,<-nC,<-nC]at this
  exact this
 |beyond way M=>
  have:=AY (st:=st) (w:="beyond") (xs:=(qac n).map way) h (by rw[qai,qah];lia)
  rw[wC M,<-nC]at this
  exact this
end
end Own
set_option maxHeartbeats 1000000
namespace Own
open PySem L2
open Sx (Pb Tb Good Named Fe LV ZV piv lexP leastR leaveL sumN unit colV basis)
def BP (z:Int):Prop:=z.natAbs<=2^46
theorem tM {α:Type} [Inhabited α] {Q:α->Prop}{G:α->D}:∀ {us:List D},(∀ u∈us,∃ x,Q x/\u=G x)->∃ F:Nat->α,us=(qac us.length).map (λi=>G (F i))/\∀ i,i<us.length->Q (F i)
 |[],_=>⟨λ_=>default,rfl,λi hi=>absurd hi (qcK _)⟩
 |u::us,h=>by
  obtain⟨x,hx,e⟩:=h u qaf
  obtain⟨F,e2,h2⟩:=tM (us:=us) λv hv=>h v (qal _ hv)
  refine⟨λi=>match i with|0=>x|i+1=>F i,?_,λi hi=>?_⟩
  ·rw[qat,qbW,qay,qbs,e]
   congr 1
  ·match i,hi with
   |0,_=>exact hx
   |i+1,hi=>exact h2 i (by rw[qat]at hi;lia)
theorem xf {Q:Int->Prop}{us:List D}{n:Nat} (h:∀ u∈us,∃ z,Q z/\u=.int z) (hn:us.length=n):∃ f,us=mpI n f/\∀ k,k<n->Q (f k):=by
 obtain⟨F,e,h2⟩:=tM h
 rw[hn]at e h2
 exact⟨F,e,h2⟩
def uv (lo hi:Int) (u:D):Prop:=∃ z,(lo<=z/\z<=hi)/\u=.int z
def Bb (n:Nat) (u:D):Prop:=∃ f:Nat->Int,(∀ c,c<n->BP (f c))/\u=.tup (mpI n f)
theorem z7 {us:List D}{n:Nat}{lo hi:Int} (h:∀ u∈us,uv lo hi u) (hl:-10000000000000<=lo) (hh:hi<=10000000000000) (hn:us.length=n):Bb n (.tup us):=by
 obtain⟨f,e,hf⟩:=xf h hn
 refine⟨f,λc hc=>?_,by rw[e]⟩
 have:=hf c hc
 unfold BP
 lia
structure Ins (m n:Nat) (R:Nat->Nat->Int) (b g:Nat->Int):Prop where
 m5:m<=5
 n5:n<=5
 R:∀ i c,i<m->c<n->(R i c).natAbs<=2^46
 b:∀ i,i<m->(b i).natAbs<=2^46/\0<=b i
 g:∀ c,c<n->(g c).natAbs<=2^46
theorem Aa {rs bs gs:List D}{m n:Nat} (hm:m<=5) (hn:n<=5) (hr:rs.length=m) (h1:∀ u∈rs,Bb n u) (hb:bs.length=m) (h2:∀ u∈bs,uv 0 10000000000000 u) (hg:gs.length=n) (h3:∀ u∈gs,uv (-1000000) 1000000 u):∃ R b g,Ins m n R b g/\D.tup [.tup rs,.tup bs,.tup gs]=aW m n R b g:=by
 obtain⟨F,e,hF⟩:=tM (α:=Nat->Int) h1
 obtain⟨b,eb,hB⟩:=xf h2 hb
 obtain⟨g,eg,hG⟩:=xf h3 hg
 rw[hr]at e hF
 refine⟨F,b,g,⟨hm,hn,λi c hi hc=>hF i hi c hc,λi hi=>⟨?_,(hB i hi).1⟩,λc hc=>?_⟩,by rw[e,eb,eg];rfl⟩
 ·have:=hB i hi;lia
 ·have:=hG c hc;lia
theorem eD {a b:Ef}{env:Ev}{st:Sto}{p:Nat}{m:Int} (ha:a env st=some (.h p,st)) (hb:b env st=some (.d (.int m),st)) (h:bZ st p) (m0:0<m) (m1:m<=1000):∃ r st',0<=r/\r<m/\Stp p st st'/\ay aM (aa a (aa b ag)) env st=some (.d (.int r),st'):=by
 obtain⟨r,st',r0,r1,t,e⟩:=yX h m0 m1
 exact⟨r,st',r0,r1,t,az (ac ha (ac hb rfl)) e⟩
theorem jt {a b:Ef}{env:Ev}{st u:Sto}{p:Nat}{m:Int} (ha:a env (st++u)=some (.h p,st++u)) (hb:b env (st++u)=some (.d (.int m),st++u)) (h:bZ st p) (m0:0<m) (m1:m<=1000):∃ r st',0<=r/\r<m/\Stp p st st'/\ay aM (aa a (aa b ag)) env (st++u)=some (.d (.int r),st'++u):=by
 obtain⟨r,s,r0,r1,t,e⟩:=eD ha hb (h.app u) m0 m1
 obtain⟨st',rfl,t'⟩:=t.unapp h.lt
 exact⟨r,st',r0,r1,t',e⟩
theorem lP {te:Ef}{st u:Sto}{n:Nat}{a:Option W}{l:Ev} (Q:D->Prop) {ds:List D} (h:bZ st n) (hte:∀ s d,d∈ds->bZ s n->∃ x s',Q x/\Stp n s s'/\te (some (.d d)::l) s=some (.d x,s')) :
  ∃ us st',us.length=ds.length/\(∀ u∈us,Q u)/\Stp n st st'/\lcI (.nm 0) aS te (a::l) ds (st++u)=some (us,st'++u):=by
 obtain⟨us,s,h1,h2,t,e⟩:=xX (a:=a) Q (h.app u) hte
 obtain⟨st',rfl,t'⟩:=t.unapp h.lt
 exact⟨us,st',h1,h2,t',e⟩
theorem wv {te:Ef}{p L:Nat}{all:List D}{l:Ev}{u:Sto} (Q:D->Prop) (hte:∀ s d,d∈all->bZ s p->∃ x s',Q x/\Stp p s s'/\te (some (.d d)::l) s=some (.d x,s')):∀ (ds:List D) (a:Option W) (st:Sto),(∀ d∈ds,d∈all)->st.length=L->bZ st p->
  ∃ us st',us.length=ds.length/\(∀ u∈us,Q u)/\Stp p st st'/\lcH L all (.nm 0) aS te (a::l) ds (st++.l all::u)=some (us,st'++.l all::u)
 |[],a,st,_,hL,h=>by
  refine⟨[],st,rfl,(λ_ h=>nomatch h),Stp.refl h,?_⟩
  unfold lcH
  rw[if_pos (by unfold lg;rw[qau (by lia),hL,qbU];rfl)]
 |d::ds,a,st,hm,hL,h=>by
  obtain⟨x,s,hx,t,e⟩:=hte (st++.l all::u) d (hm d qaf) (h.app _)
  obtain⟨b,rfl,t'⟩:=t.unapp h.lt
  obtain⟨us,st',h1,h2,t2,e2⟩:=wv Q hte ds a b (λv hv=>hm v (qal _ hv)) (by rw[t'.len,hL]) t'.hand
  refine⟨x::us,st',by rw[qat,qat,h1],λv hv=>?_,t'.trans t2,?_⟩
  ·rcases qaP.mp hv with rfl|hv
   ·exact hx
   ·exact h2 v hv
  ·unfold lcH
   rw[if_pos (by unfold lg;rw[qau (by lia),hL,qbU];rfl)]
   rw[show eH (.nm 0) (.d d) (a::l)=some (some (.d d)::l) from rfl,qaa,show aS (some (.d d)::l) (st++.l all::u)=some (true,st++.l all::u) from rfl,qaa,if_pos rfl,e,qaa,show ly [W.d x]=some [x] from rfl,qaa,e2]
   rfl
theorem i9 {b u:Sto}{L:Nat}{xs:List D} (h:b.length=L):lg (b++.l xs::u) L=some xs:=by
 unfold lg;rw[qau (by lia),h,qbU];rfl
theorem qQ {b u:Sto}{L:Nat}{c c':C} (h:b.length=L):(b++c::u).set L c'=b++c'::u:=by
 rw[qce _ _ (by lia),h,qbU];rfl
theorem wq {a b lo hi:Int} (h0:lo<=a) (h1:a<=hi) (hl:lo<=0) (hh:0<=hi) (hb:b=0\/b=1):lo<=a*b/\a*b<=hi:=by
 rcases hb with rfl|rfl
 ·rw[qa8];lia
 ·rw[qd7];lia
theorem vf {st:Sto}{p:Nat} (h:bZ st p):∃ m n R b g st',1<=n/\Ins m n R b g/\Stp p st st'/\eB [.h p] st=some (.d (aW m n R b g),st'):=by
 -- many
 obtain⟨r1,a1,q0,q1,t1,e1⟩:=eD (a:=iV 0) (b:=iC (.int 5)) (env:=[some (.h p),none,none,none,none,none,none]) rfl rfl h (by decide) (by decide)
 obtain⟨many,hmany⟩:∃ many:Nat,(many:Int)=1+r1:=⟨(1+r1).toNat,by lia⟩
 have s1:aG (.nm 1) (iOp bu (iC (.int 1)) (ay aM (aa (iV 0) (aa (iC (.int 5)) ag)))) [some (.h p),none,none,none,none,none,none] st=some (.nx [some (.h p),some (.d (.int (many:Int))),none,none,none,none,none] a1):=by
  rw[hmany];exact aC (ai rfl e1 rfl)
 -- low
 obtain⟨r2,a2,q2,q3,t2,e2⟩:=eD (a:=iV 0) (b:=iC (.int 3)) (env:=[some (.h p),some (.d (.int (many:Int))),none,none,none,none,none]) (st:=a1) rfl rfl t1.hand (by decide) (by decide)
 have hlow:∃ low:Int,0<=low/\low<=3/\∀ s,dIx s (.d (.lst [.int 0,.int 3,.int 1])) (.d (.int r2))=some (.int low):=by
  have:r2=0\/r2=1\/r2=2:=by lia
  rcases this with rfl|rfl|rfl
  ·exact⟨0,by decide,by decide,λ_=>rfl⟩
  ·exact⟨3,by decide,by decide,λ_=>rfl⟩
  ·exact⟨1,by decide,by decide,λ_=>rfl⟩
 obtain⟨low,l0,l1,hlow⟩:=hlow
 have s2:aG (.nm 2) (iOp dIx (aD (cI (aa (iC (.int 0)) (aa (iC (.int 3)) (aa (iC (.int 1)) ag))))) (ay aM (aa (iV 0) (aa (iC (.int 3)) ag)))) [some (.h p),some (.d (.int (many:Int))),none,none,none,none,none] a1=some (.nx [some (.h p),some (.d (.int (many:Int))),some (.d (.int low)),none,none,none,none] a2):=aC (ai rfl e2 (hlow _))
 have t12:=t1.trans t2
 have s3:aG (.nm 3) (dH (cI ag)) [some (.h p),some (.d (.int (many:Int))),some (.d (.int low)),none,none,none,none] a2=some (.nx [some (.h p),some (.d (.int (many:Int))),some (.d (.int low)),some (.h a2.length),none,none,none] (a2++[.l []])):=rfl
 obtain⟨r4,a4,q4,q5,t4,e4⟩:=jt (a:=iV 0) (b:=iC (.int 6)) (env:=[some (.h p),some (.d (.int (many:Int))),some (.d (.int low)),some (.h a2.length),none,none,none]) (st:=a2) (u:=[.l []]) rfl rfl t2.hand (by decide) (by decide)
 obtain⟨m,hm⟩:∃ m:Nat,r4.toNat=m:=⟨_,rfl⟩
 have hit:=lD e4 q4 (by lia) hm
 have rngM:∀ (o3 o4 o5 o6:Option W) (s:Sto),cH (aa (iV 1) ag) [some (.h p),some (.d (.int (many:Int))),some (.d (.int low)),o3,o4,o5,o6] s=some (cV 0 many,s):=λo3 o4 o5 o6 s=>lD (e:=iV 1) (z:=(many:Int)) rfl (by lia) (by lia) (by lia)
 have rlen:(cV 0 many).length=many:=by unfold cV;rw[qai,qah]
 have row1:∀ s d,d∈cV 0 many->bZ s p->∃ x s',uv (-9) 9 x/\Stp p s s'/\fK (some (.d d)::[some (.h p),some (.d (.int low))]) s=some (.d x,s'):=λs d _ hs=>by
  obtain⟨x1,c1,y0,y1,v1,f1⟩:=eD (a:=iV 1) (b:=iC (.int 7)) (env:=[some (.d d),some (.h p),some (.d (.int low))]) (st:=s) rfl rfl hs (by decide) (by decide)
  obtain⟨x2,c2,y2,y3,v2,f2⟩:=eD (a:=iV 1) (b:=iC (.int 4)) (env:=[some (.d d),some (.h p),some (.d (.int low))]) (st:=c1) rfl rfl v1.hand (by decide) (by decide)
  have hi:∃ k:Int,(k=0\/k=1)/\v4 c2 [.d (.bl (decide (x2 > 0)))]=some (.int k):=by
   cases decide (x2 > 0) with
   |true=>exact⟨1,.inr rfl,rfl⟩
   |false=>exact⟨0,.inl rfl,rfl⟩
  obtain⟨k,hk,ek⟩:=hi
  have sm:=wq (lo:=-9) (hi:=9) (a:=x1 - low) (b:=k) (by lia) (by lia) (by decide) (by decide) hk
  exact⟨_,c2,⟨_,sm,rfl⟩,v1.trans v2,ai (ai f1 rfl rfl) (bi (ac (ai f2 rfl (wA _ _ _)) rfl) ek) (cF _ (gT (by lia)))⟩
 obtain⟨env',s5,e5,⟨o4,rfl⟩,us,b5,rfl,tb5,ul,uq⟩:=fL (g:=.nm 4) (body:=kc) (ds:=cV 0 m)
  (λi env s=>(∃ o4,env=[some (.h p),some (.d (.int (many:Int))),some (.d (.int low)),some (.h a2.length),o4,none,none])/\∃ us b,s=b++[.l us]/\Stp p a2 b/\us.length=i/\∀ u∈us,Bb many u)
  (env:=[some (.h p),some (.d (.int (many:Int))),some (.d (.int low)),some (.h a2.length),none,none,none]) (st:=a4++[.l []]) ⟨⟨_,rfl⟩,[],a4,rfl,t4,rfl,λ_ h=>nomatch h⟩ (λi d env s hd ⟨⟨o4,e0⟩,us,b,es,tb,hl,hq⟩=>by
   subst e0 es
   obtain⟨hi,rfl⟩:=lx hd
   obtain⟨vs,b',vl,vq,tv,ev⟩:=lP (a:=none) (u:=[.l us]) (uv (-9) 9) tb.hand row1
   refine⟨_,[some (.h p),some (.d (.int (many:Int))),some (.d (.int low)),some (.h a2.length),some (.d (.int (0+((i:Nat):Int)))),none,none],b'++[.l (us++[.tup vs])],rfl,.inl ?_,⟨_,rfl⟩,us++[.tup vs],b',rfl,tb.trans tv,by rw[qap,hl];rfl,λu hu=>?_⟩
   ·have hb':b'.length=a2.length:=by rw[tv.len,tb.len]
    have ha:iCB db (aa (aD (iLc 1 [0,2] (cH (aa (iV 1) ag)) (.nm 0) aS fK)) ag) [some (.h p),some (.d (.int (many:Int))),some (.d (.int low)),some (.h a2.length),some (.d (.int (0+((i:Nat):Int)))),none,none] (b++[C.l us])=some (.d (.tup vs),b'++[C.l us]):=bi (ac (aK (bQ (rngM _ _ _ _ _) (by rw[rlen];lia) ev)) rfl) rfl
    have:=Bu (o:=iV 3) (a:=iCB db (aa (aD (iLc 1 [0,2] (cH (aa (iV 1) ag)) (.nm 0) aS fK)) ag)) (env:=[some (.h p),some (.d (.int (many:Int))),some (.d (.int low)),some (.h a2.length),some (.d (.int (0+((i:Nat):Int)))),none,none]) (st:=b++[C.l us]) (s1:=b++[C.l us]) (s2:=b'++[C.l us]) (d:=.tup vs) rfl ha (i9 tb.len) (i9 hb') (by lia)
    rw[qQ hb']at this
    exact this
   ·rcases qaM.mp hu with hu|hu
    ·exact hq u hu
    ·rw[qaj.mp hu]
     exact z7 vq (by decide) (by decide) (by rw[vl,rlen]))
 have ml:(cV 0 m).length=m:=by unfold cV;rw[qai,qah]
 rw[ml]at ul
 have hb5:b5.length=a2.length:=tb5.len
 -- far
 obtain⟨r6,b6,q6,q7,t6,e6⟩:=jt (a:=iV 0) (b:=iC (.int 4)) (env:=[some (.h p),some (.d (.int (many:Int))),some (.d (.int low)),some (.h a2.length),o4,none,none]) (st:=b5) (u:=[.l us]) rfl rfl tb5.hand (by decide) (by decide)
 have hpow:∀ s,pN s (.d (.int 10)) (.d (.int 12))=some (.int 1000000000000):=λs=>by
  show (if uf 10 12 then some (D.int (10^Int.toNat 12)) else none)=_
  rw[if_pos ⟨by decide,by decide,by decide⟩];rfl
 have hfar:∃ far:Int,(0<=far/\far<=1000000000000)/\∀ s,dIx s (.d (.lst [.int 1,.int 1,.int 1,.int 1000000000000])) (.d (.int r6))=some (.int far):=by
  have:r6=0\/r6=1\/r6=2\/r6=3:=by lia
  rcases this with rfl|rfl|rfl|rfl
  ·exact⟨1,by decide,λ_=>rfl⟩
  ·exact⟨1,by decide,λ_=>rfl⟩
  ·exact⟨1,by decide,λ_=>rfl⟩
  ·exact⟨1000000000000,by decide,λ_=>rfl⟩
 obtain⟨far,hf,efar⟩:=hfar
 have s6:aG (.nm 5) (iOp dIx (aD (cI (aa (iC (.int 1)) (aa (iC (.int 1)) (aa (iC (.int 1)) (aa (iOp pN (iC (.int 10)) (iC (.int 12))) ag)))))) (ay aM (aa (iV 0) (aa (iC (.int 4)) ag)))) [some (.h p),some (.d (.int (many:Int))),some (.d (.int low)),some (.h a2.length),o4,none,none] (b5++[.l us])=some (.nx [some (.h p),some (.d (.int (many:Int))),some (.d (.int low)),some (.h a2.length),o4,some (.d (.int far)),none] (b6++[.l us])):=by
  have hl:cI (aa (iC (.int 1)) (aa (iC (.int 1)) (aa (iC (.int 1)) (aa (iOp pN (iC (.int 10)) (iC (.int 12))) ag)))) [some (.h p),some (.d (.int (many:Int))),some (.d (.int low)),some (.h a2.length),o4,none,none] (b5++[.l us])=some ([.int 1,.int 1,.int 1,.int 1000000000000],b5++[.l us]):=by
   have:=ac (a:=iC (.int 1)) (env:=[some (.h p),some (.d (.int (many:Int))),some (.d (.int low)),some (.h a2.length),o4,none,none]) (st:=b5++[.l us]) rfl (ac (a:=iC (.int 1)) rfl (ac (a:=iC (.int 1)) rfl (ac (b:=ag) (ai (a:=iC (.int 10)) (b:=iC (.int 12)) rfl rfl (hpow _)) rfl)))
   simp only[cI,this,qaa];rfl
  exact aC (ai (aK hl) e6 (efar _))
 have t56:=tb5.trans t6
 -- bounds
 obtain⟨bs,b7,bl,bq,t7,e7⟩:=wv (p:=p) (L:=a2.length) (all:=us) (te:=fH) (l:=[some (.h p),some (.d (.int far))]) (u:=[]) (uv 0 10000000000000) (λs d _ hs=>by
  obtain⟨x1,c1,y0,y1,v1,f1⟩:=eD (a:=iV 1) (b:=iC (.int 8)) (env:=[some (.d d),some (.h p),some (.d (.int far))]) (st:=s) rfl rfl hs (by decide) (by decide)
  refine⟨_,c1,⟨x1*far,⟨qdW y0 hf.1,?_⟩,rfl⟩,v1,ai f1 rfl (cF _ (gT (by lia)))⟩
  have h1:x1*far<=7*far:=qcW (by lia) hf.1
  lia) us none b6 (λ_ h=>h) (by rw[t6.len,hb5]) t6.hand
 have hb6:b6.length=a2.length:=by rw[t6.len,hb5]
 have s7:aG (.nm 6) (iCB db (aa (aD (tF 1 [0,5] (iV 3) (.nm 0) aS fH)) ag)) [some (.h p),some (.d (.int (many:Int))),some (.d (.int low)),some (.h a2.length),o4,some (.d (.int far)),none] (b6++[.l us])=some (.nx [some (.h p),some (.d (.int (many:Int))),some (.d (.int low)),some (.h a2.length),o4,some (.d (.int far)),some (.d (.tup bs))] (b7++[.l us])):=by
  have hlc:tF 1 [0,5] (iV 3) (.nm 0) aS fH [some (.h p),some (.d (.int (many:Int))),some (.d (.int low)),some (.h a2.length),o4,some (.d (.int far)),none] (b6++[.l us])=some (bs,b7++[.l us]):=by
   have hv:iV 3 [some (.h p),some (.d (.int (many:Int))),some (.d (.int low)),some (.h a2.length),o4,some (.d (.int far)),none] (b6++[.l us])=some (.h a2.length,b6++[.l us]):=rfl
   simp only[tF,hv,qaa,i9 hb6]
   rw[if_pos (by lia)]
   exact e7
  exact aC (bi (ac (aK hlc) rfl) rfl)
 -- gains
 obtain⟨gs,b8,gl,gq,t8,e8⟩:=lP (te:=iE) (a:=none) (l:=[some (.h p)]) (ds:=cV 0 many) (u:=[.l us]) (uv (-1000000) 1000000) t7.hand (λs d _ hs=>by
  obtain⟨x1,c1,y0,y1,v1,f1⟩:=eD (a:=iV 1) (b:=iC (.int 9)) (env:=[some (.d d),some (.h p)]) (st:=s) rfl rfl hs (by decide) (by decide)
  exact⟨_,c1,⟨x1 - 3,⟨by lia,by lia⟩,rfl⟩,v1,ai f1 rfl rfl⟩)
 have hb7:b7.length=a2.length:=by rw[t7.len,hb6]
 have s8:bm (aa (iCB db (aa (iV 3) ag)) (aa (iV 6) (aa (iCB db (aa (aD (iLc 1 [0] (cH (aa (iV 1) ag)) (.nm 0) aS iE)) ag)) ag))) [some (.h p),some (.d (.int (many:Int))),some (.d (.int low)),some (.h a2.length),o4,some (.d (.int far)),some (.d (.tup bs))] (b7++[.l us])=some (.d (.tup [.tup us,.tup bs,.tup gs]),b8++[.l us]):=by
  have hd:db (b7++[.l us]) [.h a2.length]=some (.tup us):=by
   show (lg (b7++[.l us]) a2.length).map _=_
   rw[i9 hb7];rfl
  exact oE (ac (bi (ac rfl rfl) hd) (ac rfl (ac (bi (ac (aK (bQ (rngM _ _ _ _ _) (by rw[rlen];lia) e8)) rfl) rfl) rfl))) rfl (by show 3<=1000;decide)
 obtain⟨R,bb,gg,hinp,hcase⟩:=Aa (m:=m) (n:=many) (by lia) (by lia) ul uq (by rw[bl,ul]) bq (by rw[gl,rlen]) gq
 refine⟨m,many,R,bb,gg,b8,by lia,hinp,t12.trans (t56.trans (t7.trans t8)),?_⟩
 rw[<-hcase]
 have:=lb (n:=7) (k:=1) (b:=fN) (ws:=[.h p]) (st:=st) rfl (ar s1 (ar s2 (ar s3 (ar (dz hit e5) (ar s6 (ar s7 (bF s8)))))))
 show iM 7 1 fN [.h p] st=_
 rw[this,List.take_left' (by rw[t8.len,hb7,t12.len])]
end Own
namespace Sx
theorem sumN_le {n:Nat}{f h:Nat->Int} (hl:∀ k,k<n->f k<=h k):sumN n f<=sumN n h:=by
 induction n with
 |zero=>exact qcA _
 |succ n ih=>
  rw[sumN,sumN]
  have:=ih λk hk=>hl k (by omega)
  have:=hl n (by omega)
  omega
theorem weak {m n:Nat}{A:Nat->Nat->Int}{b g am pr:Nat->Int}{p q:Int} (am0:∀ j,j<n->0<=am j) (pr0:∀ r,r<m->0<=pr r) (rows:∀ r,r<m->(sumN n λj=>am j*A j r)<=p*b r) (cols:∀ j,j<n->q*g j<=sumN m λr=>A j r*pr r) :
  q*(sumN n λj=>am j*g j)<=p*sumN m λr=>b r*pr r:=by
 have e1:q*(sumN n λj=>am j*g j)=sumN n λj=>am j*(q*g j):=by
  rw[<-sumN_mul]
  exact sumN_congr λj _=>qao _ _ _
 have e2:(sumN n λj=>am j*(q*g j))<=sumN n λj=>am j*sumN m λr=>A j r*pr r:=sumN_le λj hj=>qaY (cols j hj) (am0 j hj)
 have e3:(sumN n λj=>am j*sumN m λr=>A j r*pr r)=sumN m λr=>pr r*sumN n λj=>am j*A j r:=by
  have:(sumN n λj=>am j*sumN m λr=>A j r*pr r)=sumN n λj=>sumN m λr=>pr r*(am j*A j r):=sumN_congr λj _=>by
   rw[<-sumN_mul]
   exact sumN_congr λr _=>by rw[<-qa0,qaC]
  rw[this,sumN_swap]
  exact sumN_congr λr _=>sumN_mul _ _ _
 have e4:(sumN m λr=>pr r*sumN n λj=>am j*A j r)<=sumN m λr=>pr r*(p*b r):=sumN_le λr hr=>qaY (rows r hr) (pr0 r hr)
 have e5:(sumN m λr=>pr r*(p*b r))=p*sumN m λr=>b r*pr r:=by
  rw[<-sumN_mul]
  exact sumN_congr λr _=>by rw[qao,qaC (pr r)]
 omega
structure Feas (m n:Nat) (R:Nat->Nat->Int) (b:Nat->Int) (p:Int) (x:Nat->Int):Prop where
 nn:∀ j,j<n->0<=x j
 rws:∀ r,r<m->(sumN n λj=>x j*R r j)<=p*b r
def gain (n:Nat) (g x:Nat->Int):Int:=sumN n λj=>x j*g j
def Val (m n:Nat) (R:Nat->Nat->Int) (b g:Nat->Int):Option (Int×Int)->Prop
 |none=>∃ x,Feas m n R b 0 x/\0<gain n g x
 |some v=>1<=v.2/\(∃ x,Feas m n R b v.2 x/\gain n g x=v.1)/\∀ q x,Feas m n R b q x->v.2*gain n g x<=q*v.1
def Alk (k:Int):Option (Int×Int)->Option (Int×Int)->Prop
 |none,none=>True
 |some v,some w=>k*v.1*w.2=w.1*v.2
 |_,_=>False
theorem mul_le_cancel {c a b:Int} (c0:0<c) (h:c*a<=c*b):a<=b:=qe2 h c0
section
variable {m n m' n':Nat}{R R':Nat->Nat->Int}{b g b' g':Nat->Int}{k:Int}
theorem sim (k0:0<k) (fw:∀ q x,Feas m n R b q x->∃ c x',0<c/\Feas m' n' R' b' (c*q) x'/\gain n' g' x'=c*(k*gain n g x))
  (bw:∀ q x,Feas m' n' R' b' q x->∃ c x',0<c/\Feas m n R b (c*q) x'/\k*gain n g x'=c*gain n' g' x) :
  ∀ {v v':Option (Int×Int)},Val m n R b g v->Val m' n' R' b' g' v'->Alk k v v'
 |none,none,_,_=>trivial
 |some ⟨G,p⟩,none,⟨p1,_,ho⟩,⟨x,hx,x0⟩=>by
  obtain⟨c,y,c0,hy,e⟩:=bw 0 x hx
  have h1:=ho _ y hy
  dsimp only at h1 p1
  rw[qa8,qbk]at h1
  have h2:0<c*gain n' g' x:=qca c0 x0
  rw[<-e]at h2
  have h3:0<p*(k*gain n g y):=qca (by omega) h2
  rw[qao]at h3
  have h4:k*(p*gain n g y)<=k*0:=qaY h1 (by omega)
  omega
 |none,some ⟨G,p⟩,⟨x,hx,x0⟩,⟨p1,_,ho⟩=>by
  obtain⟨c,y,c0,hy,e⟩:=fw 0 x hx
  have h1:=ho _ y hy
  dsimp only at h1 p1
  rw[qa8,qbk,e]at h1
  have h2:0<p*(c*(k*gain n g x)):=qca (by omega) (qca c0 (qca k0 x0))
  omega
 |some ⟨G,p⟩,some ⟨G',p'⟩,⟨p1,⟨x,hx,ex⟩,ho⟩,⟨p1',⟨y,hy,ey⟩,ho'⟩=>by
  obtain⟨c,z,c0,hz,e⟩:=fw _ x hx
  obtain⟨d,w,d0,hw,e2⟩:=bw _ y hy
  have h1:=ho' _ z hz
  have h2:=ho _ w hw
  dsimp only at h1 h2 ex ey p1 p1'
  rw[e,ex]at h1
  rw[ey]at e2
  show k*G*p'=G'*p
  have a1:p'*(k*G)<=p*G':=by
   refine mul_le_cancel c0 ?_
   rw[qao,<-qa0 c p G'];exact h1
  have a2:p*G'<=p'*(k*G):=by
   refine mul_le_cancel d0 ?_
   have h3:k*(p*gain n g w)<=k*(d*p'*G):=qaY h2 (by omega)
   rw[qao k p,e2]at h3
   have e3:k*(d*p'*G)=d*(p'*(k*G)):=by
    rw[qa0,qao k d,qao k p']
   rw[e3,qao]at h3
   exact h3
  rw[qaC (k*G),qaC G']
  omega
theorem sim_rows (fw:∀ r,r<m'->∃ i l,i<m/\l<m/\∃ s t:Int,0<=s/\0<=t/\(∀ j,j<n->R' r j=s*R i j+t*R l j)/\b' r=s*b i+t*b l)
  (bw:∀ r,r<m->∃ i,i<m'/\∃ s:Int,0<s/\(∀ j,j<n->R' i j=s*R r j)/\b' i=s*b r) {v v':Option (Int×Int)} (hv:Val m n R b g v) (hv':Val m' n R' b' g v'):Alk 1 v v':=by
 refine sim (by decide) (λq x hx=>⟨1,x,by decide,⟨hx.nn,λr hr=>?_⟩,by rw[qaT,qaT]⟩) (λq x hx=>⟨1,x,by decide,⟨hx.nn,λr hr=>?_⟩,rfl⟩) hv hv'
 ·obtain⟨i,l,hi,hl,s,t,s0,t0,e,eb⟩:=fw r hr
  have h1:=qaY (hx.rws i hi) s0
  have h2:=qaY (hx.rws l hl) t0
  have e1:(sumN n λj=>x j*R' r j)=s*(sumN n λj=>x j*R i j)+t*sumN n λj=>x j*R l j:=by
   rw[<-sumN_mul,<-sumN_mul,<-sumN_add]
   refine sumN_congr λj hj=>?_
   rw[e j hj,qbG,qao,qao (x j)]
  rw[e1,eb,qaT,qbG,qao q,qao q]
  omega
 ·obtain⟨i,hi,s,s0,e,eb⟩:=bw r hr
  have h1:=hx.rws i hi
  have e1:(sumN n λj=>x j*R' i j)=s*sumN n λj=>x j*R r j:=by
   rw[<-sumN_mul]
   refine sumN_congr λj hj=>?_
   rw[e j hj,qao]
  rw[e1,eb,qao q]at h1
  rw[qaT]
  exact mul_le_cancel s0 h1
def push (n:Nat) (f:Nat->Nat) (x:Nat->Int) (k:Nat):Int:=sumN n λi=>if f i=k then x i else 0
theorem push_sum {n N:Nat}{f:Nat->Nat} (x h:Nat->Int) (hN:∀ i,i<n->f i<N):(sumN N λk=>push n f x k*h k)=sumN n λi=>x i*h (f i):=by
 have e:(sumN N λk=>push n f x k*h k)=sumN N λk=>sumN n λi=>(if f i=k then x i else 0)*h k:=sumN_congr λk _=>(sumN_right _ _ _).symm
 rw[e,sumN_swap]
 refine sumN_congr λi hi=>?_
 rw[sumN_single (hN i hi) λk _ hne=>by rw[if_neg (qbu hne),qbk],if_pos rfl]
theorem push_nn {n:Nat}{f:Nat->Nat}{x:Nat->Int} (h:∀ i,i<n->0<=x i) (k:Nat):0<=push n f x k:=sumN_nonneg λi hi=>by split;exact h i hi;exact qcA _
theorem sim_cols (f h:Nat->Nat) (hf:∀ i,i<n'->f i<n) (hh:∀ j,j<n->h j<n'/\f (h j)=j) (hR:∀ r i,r<m->i<n'->R' r i=R r (f i)) (hg:∀ i,i<n'->g' i=g (f i)) {v v':Option (Int×Int)} (hv:Val m n R b g v) (hv':Val m n' R' b g' v'):Alk 1 v v':=by
 refine sim (by decide) (λq x hx=>⟨1,push n h x,by decide,⟨λj _=>push_nn hx.nn j,λr hr=>?_⟩,?_⟩) (λq x hx=>⟨1,push n' f x,by decide,⟨λj _=>push_nn hx.nn j,λr hr=>?_⟩,?_⟩) hv hv'
 ·rw[push_sum x (R' r) λj hj=>(hh j hj).1,qaT,sumN_congr (g:=λj=>x j*R r j) λj hj=>by rw[hR r (h j) hr (hh j hj).1,(hh j hj).2]]
  exact hx.rws r hr
 ·unfold gain
  rw[push_sum x g' λj hj=>(hh j hj).1,qaT,qaT]
  exact sumN_congr λj hj=>by rw[hg (h j) (hh j hj).1,(hh j hj).2]
 ·rw[push_sum x (R r) hf,qaT,sumN_congr (g:=λj=>x j*R' r j) λj hj=>by rw[hR r j hr hj]]
  exact hx.rws r hr
 ·unfold gain
  rw[push_sum x g hf,qaT,qaT]
  exact sumN_congr λj hj=>by rw[hg j hj]
theorem sim_gains (k0:0<k) (hg:∀ i,i<n->g' i=k*g i) {v v':Option (Int×Int)} (hv:Val m n R b g v) (hv':Val m n R b g' v'):Alk k v v':=by
 have e:∀ x,gain n g' x=k*gain n g x:=λx=>by
  unfold gain
  rw[<-sumN_mul]
  exact sumN_congr λj hj=>by rw[hg j hj,qao]
 exact sim k0 (λq x hx=>⟨1,x,by decide,by rw[qaT];exact hx,by rw[e,qaT]⟩) (λq x hx=>⟨1,x,by decide,by rw[qaT];exact hx,by rw[e,qaT]⟩) hv hv'
theorem sim_bounds (k0:0<k) (hb:∀ r,r<m->b' r=k*b r) {v v':Option (Int×Int)} (hv:Val m n R b g v) (hv':Val m n R b' g v'):Alk k v v':=by
 refine sim k0 (λq x hx=>⟨1,λj=>k*x j,by decide,⟨λj hj=>qdW (by omega) (hx.nn j hj),λr hr=>?_⟩,?_⟩) (λq x hx=>⟨k,x,k0,⟨hx.nn,λr hr=>?_⟩,rfl⟩) hv hv'
 ·rw[sumN_congr (g:=λj=>k*(x j*R r j)) λj _=>qa0 _ _ _,sumN_mul,hb r hr,qaT,qao q]
  exact qaY (hx.rws r hr) (by omega)
 ·unfold gain
  rw[sumN_congr (g:=λj=>k*(x j*g j)) λj _=>qa0 _ _ _,sumN_mul,qaT]
 ·have:=hx.rws r hr
  rw[hb r hr,<-qa0,qaC q k]at this
  exact this
end
def sumV:Option (Int×Int)->Option (Int×Int)->Option (Int×Int)
 |some v,some w=>some (v.1*w.2+w.1*v.2,v.2*w.2)
 |_,_=>none
def cat (n:Nat) (x y:Nat->Int) (j:Nat):Int:=if j<n then x j else y (j - n)
theorem cat_sum (n k:Nat) (x y f:Nat->Int):(sumN (n+k) λj=>cat n x y j*f j)=(sumN n λj=>x j*f j)+sumN k λj=>y j*f (n+j):=by
 rw[sumN_append]
 congr 1
 ·exact sumN_congr λj hj=>by unfold cat;rw[if_pos hj]
 ·exact sumN_congr λj _=>by unfold cat;rw[if_neg (by omega),qcL]
theorem sumN_nil {n:Nat}{x f:Nat->Int} (h:∀ j,j<n->f j=0):(sumN n λj=>x j*f j)=0:=by
 rw[sumN_congr (g:=λ_=>0) λj hj=>by rw[h j hj,qa8],sumN_zero]
section
variable {m n k l:Nat}{R S T:Nat->Nat->Int}{b g c h d e:Nat->Int}
structure Side (m n k l:Nat) (R S T:Nat->Nat->Int) (b g c h d e:Nat->Int):Prop where
 t1:∀ r j,r<m->j<n->T r j=R r j
 t2:∀ r j,r<m->j<l->T r (n+j)=0
 t3:∀ r j,r<k->j<n->T (m+r) j=0
 t4:∀ r j,r<k->j<l->T (m+r) (n+j)=S r j
 d1:∀ r,r<m->d r=b r
 d2:∀ r,r<k->d (m+r)=c r
 e1:∀ j,j<n->e j=g j
 e2:∀ j,j<l->e (n+j)=h j
theorem Side.join (H:Side m n k l R S T b g c h d e) {p:Int}{x y:Nat->Int} (hx:Feas m n R b p x) (hy:Feas k l S c p y):Feas (m+k) (n+l) T d p (cat n x y)/\gain (n+l) e (cat n x y)=gain n g x+gain l h y:=by
 refine⟨⟨λj hj=>?_,λr hr=>?_⟩,?_⟩
 ·unfold cat
  by_cases q:j<n
  ·rw[if_pos q];exact hx.nn j q
  ·rw[if_neg q];exact hy.nn _ (by omega)
 ·rw[cat_sum]
  by_cases q:r<m
  ·rw[sumN_nil (f:=λj=>T r (n+j)) λj hj=>H.t2 r j q hj,qck,H.d1 r q,sumN_congr (g:=λj=>x j*R r j) λj hj=>by rw[H.t1 r j q hj]]
   exact hx.rws r q
  ·obtain⟨s,rfl⟩:∃ s,r=m+s:=⟨r - m,by omega⟩
   have hs:s<k:=by omega
   rw[sumN_nil (f:=λj=>T (m+s) j) λj hj=>H.t3 s j hs hj,qdm,H.d2 s hs,sumN_congr (g:=λj=>y j*S s j) λj hj=>by rw[H.t4 s j hs hj]]
   exact hy.rws s hs
 ·unfold gain
  rw[cat_sum]
  congr 1
  ·exact sumN_congr λj hj=>by rw[H.e1 j hj]
  ·exact sumN_congr λj hj=>by rw[H.e2 j hj]
theorem Side.part (H:Side m n k l R S T b g c h d e) {p:Int}{z:Nat->Int} (hz:Feas (m+k) (n+l) T d p z):Feas m n R b p z/\Feas k l S c p (λj=>z (n+j))/\gain (n+l) e z=gain n g z+gain l h λj=>z (n+j):=by
 refine⟨⟨λj hj=>hz.nn j (by omega),λr hr=>?_⟩,⟨λj hj=>hz.nn _ (by omega),λr hr=>?_⟩,?_⟩
 ·have:=hz.rws r (by omega)
  rw[sumN_append,sumN_nil (x:=λj=>z (n+j)) (f:=λj=>T r (n+j)) λj hj=>H.t2 r j hr hj,qck,H.d1 r hr,sumN_congr (g:=λj=>z j*R r j) λj hj=>by rw[H.t1 r j hr hj]]at this
  exact this
 ·have:=hz.rws (m+r) (by omega)
  rw[sumN_append,sumN_nil (x:=z) (f:=λj=>T (m+r) j) λj hj=>H.t3 r j hr hj,qdm,H.d2 r hr,sumN_congr (g:=λj=>z (n+j)*S r j) λj hj=>by rw[H.t4 r j hr hj]]at this
  exact this
 ·unfold gain
  rw[sumN_append]
  congr 1
  ·exact sumN_congr λj hj=>by rw[H.e1 j hj]
  ·exact sumN_congr λj hj=>by rw[H.e2 j hj]
theorem Feas.times {p c:Int}{x:Nat->Int} (hx:Feas m n R b p x) (c0:0<=c):Feas m n R b (c*p) (λj=>c*x j)/\gain n g (λj=>c*x j)=c*gain n g x:=by
 refine⟨⟨λj hj=>qdW c0 (hx.nn j hj),λr hr=>?_⟩,?_⟩
 ·rw[sumN_congr (g:=λj=>c*(x j*R r j)) λj _=>qa0 _ _ _,sumN_mul,qa0]
  exact qaY (hx.rws r hr) c0
 ·unfold gain
  rw[sumN_congr (g:=λj=>c*(x j*g j)) λj _=>qa0 _ _ _,sumN_mul]
theorem gain_zero:gain n g (λ_=>0)=0:=by
 unfold gain
 rw[sumN_congr (g:=λ_=>0) λj _=>qbk _,sumN_zero]
theorem Feas.zero:Feas m n R b 0 (λ_=>0):=
 ⟨λ_ _=>qcA _,λr _=>by rw[qbk];exact qhW (gain_zero (g:=R r))⟩
theorem side_alk (H:Side m n k l R S T b g c h d e):∀ {v w u:Option (Int×Int)},Val m n R b g v->Val k l S c h w->Val (m+k) (n+l) T d e u->Alk 1 (sumV v w) u
 |none,w,none,_,_,_=>by cases w<;>trivial
 |some _,none,none,_,_,_=>trivial
 |some v,some w,none,⟨p1,_,ho⟩,⟨q1,_,ho'⟩,⟨z,hz,z0⟩=>by
  obtain⟨h1,h2,h3⟩:=H.part hz
  have a1:=ho _ _ h1
  have a2:=ho' _ _ h2
  rw[qbk]at a1 a2
  rw[h3]at z0
  rcases qhV 0 (gain n g z) with q|q
  ·have:=qca (show 0<v.2 by omega) q
   omega
  ·have:=qca (show 0<w.2 by omega) (show 0<gain l h λj=>z (n+j) by omega)
   omega
 |none,w,some u,⟨x,hx,x0⟩,_,⟨u1,_,ho⟩=>by
  obtain⟨h1,h2⟩:=H.join hx Feas.zero
  have:=ho _ _ h1
  rw[h2,gain_zero,qbk,qck]at this
  have:=qca (show 0<u.2 by omega) x0
  omega
 |some v,none,some u,_,⟨y,hy,y0⟩,⟨u1,_,ho⟩=>by
  obtain⟨h1,h2⟩:=H.join Feas.zero hy
  have:=ho _ _ h1
  rw[h2,gain_zero,qbk,qdm]at this
  have:=qca (show 0<u.2 by omega) y0
  omega
 |some ⟨G,p⟩,some ⟨G',q⟩,some ⟨U,u⟩,⟨p1,⟨x,hx,ex⟩,ho⟩,⟨q1,⟨y,hy,ey⟩,ho'⟩,⟨u1,⟨z,hz,ez⟩,hou⟩=>by
  dsimp only at p1 ex ho q1 ey ho' u1 ez hou hx hy hz
  show 1*(G*q+G'*p)*u=U*(p*q)
  obtain⟨f1,e1⟩:=hx.times (c:=q) (g:=g) (by omega)
  obtain⟨f2,e2⟩:=hy.times (c:=p) (g:=h) (by omega)
  rw[qaC p q]at f2
  obtain⟨j1,j2⟩:=H.join f1 f2
  have a1:=hou _ _ j1
  rw[j2,e1,e2,ex,ey]at a1
  obtain⟨h1,h2,h3⟩:=H.part hz
  have b1:=ho _ _ h1
  have b2:=ho' _ _ h2
  rw[ez]at h3
  have c1:q*(p*gain n g z)<=q*(u*G):=qaY b1 (by omega)
  have c2:p*(q*gain l h λj=>z (n+j))<=p*(u*G'):=qaY b2 (by omega)
  have k1:q*(p*gain n g z)+p*(q*gain l h λj=>z (n+j))=U*(p*q):=by
   rw[h3,qao q p,<-qbG,<-qbG,qaC (gain n g z+_),qa0]
  have k2:q*(u*G)+p*(u*G')=1*(G*q+G'*p)*u:=by
   rw[qaT,qao q u,qao p u,<-qbG,qaC u,qaC q,qaC p]
  have k3:u*(q*G+p*G')=1*(G*q+G'*p)*u:=by
   rw[qaT,qaC u,qaC q,qaC p]
  have k4:q*p*U=U*(p*q):=by rw[qaC (q*p),qaC q]
  omega
end
end Sx
set_option maxHeartbeats 1000000
namespace Own
open PySem L2
open Sx (Pb Tb Good Named Fe LV ZV piv lexP leastR leaveL sumN unit colV basis)
def gnD:Option (Int×Int)->D
 |none=>.non
 |some v=>.tup [.int v.1,.int v.2]
def SzV (e:Nat):Option (Int×Int)->Prop
 |none=>True
 |some v=>v.1.natAbs<2^e/\v.2.natAbs<2^e
theorem AB {n B:Nat}{f:Nat->Int} (h:∀ k,k<n->(f k).natAbs<=B):(sumN n f).natAbs<=n*B:=by
 induction n with
 |zero=>exact qb2 _
 |succ n ih=>
  have h1:=ih λk hk=>h k (by lia)
  have h2:=h n (by lia)
  rw[Sx.sumN,qhP]
  lia
section
variable {m n:Nat}{R:Nat->Nat->Int}{b g:Nat->Int}
theorem wB {p:Int}{am pr:Nat->Int} (M:qF (eI m n R b g) p am pr):Sx.Val m n R b g (some (sumN n λj=>g j*am j,p)):=by
 have c1:Sx.Feas m n R b p am:=⟨M.am0,λr hr=>by
  have:=M.rows r hr
  rw[pbb hr]at this
  rw[Sx.sumN_congr (g:=λj=>am j*(eI m n R b g).A j r) λj hj=>by rw[pbA hr hj]]
  exact this⟩
 have c2:∀ j,j<n->p*g j<=sumN m λr=>R r j*pr r:=λj hj=>by
  have:=M.cols j hj
  rw[pbg hj]at this
  rw[Sx.sumN_congr (g:=λr=>(eI m n R b g).A j r*pr r) λr hr=>by rw[pbA hr hj]]
  exact this
 have c3:(sumN m λr=>b r*pr r)=sumN n λj=>g j*am j:=by
  have:=M.same
  rw[Sx.sumN_congr (g:=λr=>(eI m n R b g).b r*pr r) λr hr=>by rw[pbb hr],Sx.sumN_congr (n:=n) (g:=λj=>am j*(eI m n R b g).g j) λj hj=>by rw[pbg hj,qaC]]
  exact this
 refine⟨M.p1,⟨am,c1,Sx.sumN_congr λj _=>qaC _ _⟩,λq x hx=>?_⟩
 have:=Sx.weak (m:=m) (n:=n) (A:=λj r=>R r j) hx.nn M.pr0 hx.rws c2
 rw[c3]at this
 exact this
theorem y8 {way:Nat->Int} (M:jK (eI m n R b g) way):Sx.Val m n R b g none:=by
 refine⟨way,⟨M.w0,λr hr=>?_⟩,?_⟩
 ·have:=M.rows r hr
  rw[Sx.sumN_congr (g:=λj=>way j*(eI m n R b g).A j r) λj hj=>by rw[pbA hr hj],qbk]
  exact this
 ·have:=M.gain
  unfold Sx.gain
  rw[Sx.sumN_congr (n:=n) (g:=λj=>way j*(eI m n R b g).g j) λj hj=>by rw[pbg hj]]
  exact this
theorem nh {x:D} (h:Inp m n R b g) (M:xF (eI m n R b g) x):∃ v,Sx.Val m n R b g v/\SzV 4100 v/\∀ st,du [.d (aW m n R b g),.d x] st=some (.d (gnD v),st):=by
 have hn:=h.n64
 have j2:∀ st,dIx st (.d (aW m n R b g)) (.d (.int 2))=some (.tup (mpI n g)):=λst=>rfl
 cases M with
 |beyond way M=>
  refine⟨none,y8 M,trivial,λst=>?_⟩
  generalize aW m n R b g=cs at *
  exact bj (n:=2) (k:=2) (b:=eP) rfl (bF (uE (s:=st) (bG (ai rfl rfl (lJ _ _ _)) rfl ((x8 _ _ _).trans (by rw[show (("beyond" : Str)=="beyond")=true by decide]))) rfl))
 |most p am pr M=>
  refine⟨_,wB M,⟨?_,?_⟩,λst=>?_⟩
  ·have hs:(sumN n λj=>g j*am j).natAbs<=n*(2^50*2^4000):=AB λk hk=>by
    rw[qcU]
    exact qcv (h.g k hk) (qcV (M.sa k hk))
   have hx:n*(2^50*2^4000)<=100*(2^50*2^4000):=qbS _ hn
   have hp:0<2^4000:=qeO (by decide)
   show (sumN n λj=>g j*am j).natAbs<2^(100+4000)
   rw[qeP]
   generalize 2^4000=X at *
   lia
  ·exact qdK M.sp (qfB (by decide) (by decide))
  ·have kd:=BD (st:=st) (xs:=(qac n).map g) (ys:=(qac n).map am) h.gL
   rw[kB,<-nC,<-nC]at kd
   have i0:dIx st (.d (.tup [.str "most",.int p,.tup (mpI n am),.tup (mpI m pr)])) (.d (.int 0))=some (.str "most"):=rfl
   have i1:dIx st (.d (.tup [.str "most",.int p,.tup (mpI n am),.tup (mpI m pr)])) (.d (.int 1))=some (.int p):=rfl
   have i2:dIx st (.d (.tup [.str "most",.int p,.tup (mpI n am),.tup (mpI m pr)])) (.d (.int 2))=some (.tup (mpI n am)):=rfl
   show du [.d (aW m n R b g),.d (.tup [.str "most",.int p,.tup (mpI n am),.tup (mpI m pr)])] st=some (.d (.tup [.int (sumN n λj=>g j*am j),.int p]),st)
   generalize aW m n R b g=cs at *
   generalize D.tup [.str "most",.int p,.tup (mpI n am),.tup (mpI m pr)]=it at *
   exact bj (n:=2) (k:=2) (b:=eP) rfl (bF (xb (s:=st) (bG (ai rfl rfl i0) rfl ((x8 _ _ _).trans (by rw[show (("most" : Str)=="beyond")=false by decide]))) (oE (ac (az (ac (ai rfl rfl (j2 _)) (ac (ai rfl rfl i2) rfl)) kd) (ac (ai rfl rfl i1) rfl)) rfl (by show 2<=1000;decide))))
end
theorem rM {e f:Nat}{k:Int}{v w:Option (Int×Int)}{st:Sto} (hv:SzV e v) (hw:SzV f w) (he:e<=10000) (hf:f<=10000) (k0:1<=k) (k3:k<=3) (h:Sx.Alk k v w):gm [.d (gnD v),.d (gnD w),.d (.int k)] st=some (.d (.bl true),st):=by
 match v,w,hv,hw,h with
 |none,none,_,_,_=>rfl
 |none,some _,_,_,h=>exact h.elim
 |some _,none,_,_,h=>exact h.elim
 |some (a,b),some (c,d),⟨a1,b1⟩,⟨c1,d1⟩,h=>
  have hk:k.natAbs<2^2:=by show k.natAbs<4;lia
  have h':k*a*d=c*b:=h
  have m1:=oa hk a1
  have m2:qbh (k*a) d:=mulOk _ _ m1 d1 (by lia)
  have m3:qbh c b:=mulOk _ _ c1 b1 (by lia)
  have q:dEq st (.d (.int (k*a*d))) (.d (.int (c*b)))=some (.bl true):=by rw[uV,h'];simp
  exact bj (n:=3) (k:=3) (b:=gi) rfl (ar (dS (s:=st) (lU (s:=st) rfl rfl) rfl) (bF (ai (ai (ai rfl (ai rfl rfl (lJ _ _ _)) (cF st (gT (by lia)))) (ai rfl rfl (kT _ _ _)) (cF st m2)) (ai (ai rfl rfl (lJ _ _ _)) (ai rfl rfl (kT _ _ _)) (cF st m3)) q)))
theorem zd {v w:Option (Int×Int)}{st:Sto} (hv:SzV 4100 v) (hw:SzV 4100 w):SzV 9000 (Sx.sumV v w)/\kA [.d (gnD v),.d (gnD w)] st=some (.d (gnD (Sx.sumV v w)),st):=by
 match v,w,hv,hw with
 |none,none,_,_=>exact⟨trivial,rfl⟩
 |none,some _,_,_=>exact⟨trivial,rfl⟩
 |some _,none,_,_=>exact⟨trivial,rfl⟩
 |some (a,b),some (c,d),⟨a1,b1⟩,⟨c1,d1⟩=>
  have m1:=oa a1 d1
  have m2:=oa c1 b1
  have m3:=oa b1 d1
  have hp:(2:Nat)^(4100+4100)+2^(4100+4100)<=2^9000:=by
   rw[<-Nat.two_mul,<-Nat.pow_succ']
   exact qfC (by decide) (by decide)
  refine⟨⟨?_,qaU m3 (qa6 (Nat.le_add_left _ _) hp)⟩,?_⟩
  ·show (a*d+c*b).natAbs<_
   have:=qgk (a*d) (c*b)
   generalize (2:Nat)^(4100+4100)=X at *
   generalize (2:Nat)^9000=Y at *
   lia
  ·exact bj (n:=2) (k:=2) (b:=iU) rfl (ar (dS (s:=st) (lU (s:=st) rfl rfl) rfl) (bF (oE (ac (ai (ai (ai rfl rfl (lJ _ _ _)) (ai rfl rfl (kT _ _ _)) (cF st (mulOk _ _ a1 d1 (by decide)))) (ai (ai rfl rfl (lJ _ _ _)) (ai rfl rfl (kT _ _ _)) (cF st (mulOk _ _ c1 b1 (by decide)))) rfl) (ac (ai (ai rfl rfl (kT _ _ _)) (ai rfl rfl (kT _ _ _)) (cF st (mulOk _ _ b1 d1 (by decide)))) rfl)) rfl (by show 2<=1000;decide))))
end Own
set_option maxHeartbeats 1000000
namespace Own
open PySem L2
open Sx (Pb Tb Good Named Fe LV ZV piv lexP leastR leaveL sumN unit colV basis)
def ce (k:Nat):D:=.int (k:Int)
theorem xB {l:List Nat}{r:Nat} (h:r<l.length):(l.map ce)[r]?=some (ce l[r]):=by
 rw[qaO,qaL h];rfl
theorem vd:∀ (l:List Nat) (r:Nat),(l.map ce).eraseIdx r=(l.eraseIdx r).map ce
 |[],_=>rfl
 |_::_,0=>rfl
 |a::l,r+1=>by
  show ce a::(l.map ce).eraseIdx r=ce a::(l.eraseIdx r).map ce
  rw[vd l r]
theorem sD:∀ {l:List Nat}{r:Nat} (h:r<l.length),(l[r]::l.eraseIdx r).Perm l
 |[],_,h=>absurd h (qcK _)
 |a::l,0,_=>qfG _
 |a::l,r+1,h=>(List.Perm.swap a _ _).trans ((sD (l:=l) (r:=r) (qfl h)).cons a)
theorem Dm {o a:Ef}{env:Ev}{st s1 s2:Sto}{n r:Nat}{l l0:List Nat} (ho:o env st=some (.h n,s1)) (ha:a env s1=some (.d (.int (r:Int)),s2)) (h0:lg s1 n=some (l0.map ce)) (hg:lg s2 n=some (l.map ce)) (hr:r<l.length) (hl:l.length<=1000):dQ tV o (aa a ag) env st=some (.d (ce l[r]),s2.set n (.l ((l.eraseIdx r).map ce))):=by
 have hc:=ac (b:=ag) ha rfl
 have hi:ixN (l.map ce).length (r:Int)=some r:=by
  unfold ixN
  rw[qai,if_pos (by lia),if_pos (by lia),qbA]
 have e1:(l.map ce).eraseIdx r=(l.eraseIdx r).map ce:=vd l r
 have hm:tV (l.map ce) [.d (.int (r:Int))]=some (ce l[r],(l.eraseIdx r).map ce):=by
  unfold tV
  dsimp only
  rw[hi,qaa,xB hr,qaa,if_pos ⟨rfl,by lia,by lia⟩,e1]
 simp only[dQ,ho,hc,h0,hg,hm,qaa,qaq]
theorem vM {done left L:List Nat}{r:Nat} (h:(done++left).Perm L) (hr:r<left.length):((done++[left[r]])++left.eraseIdx r).Perm L:=by
 rw[qbz]
 exact ((sD hr).append_left done).trans h
theorem pX (k:Nat):cV 0 k=(qac k).map ce:=by
 unfold cV
 refine qb7 λi _=>?_
 show D.int (0+(i:Int))=.int (i:Int)
 rw[qdm]
theorem sF {st:Sto}{p k:Nat} (h:bZ st p) (hk:k<=100):∃ (l:List Nat) (st':Sto),l.Perm (qac k)/\Stp p st st'/\dy [.h p,.d (.int (k:Int))] st=some (.d (.lst (l.map ce)),st'):=by
 have hlr:ox (aa (iV 1) ag) [some (.h p),some (.d (.int (k:Int))),none] st=some (cV 0 k,st):=by
  have:=ac (a:=iV 1) (b:=ag) (env:=[some (.h p),some (.d (.int (k:Int))),none]) (st:=st) (x:=.d (.int (k:Int))) rfl rfl
  simp only[ox,this,qaa]
  rw[if_pos ⟨by lia,by lia⟩,qbA]
 have s1:aG (.nm 2) (dH (ox (aa (iV 1) ag))) [some (.h p),some (.d (.int (k:Int))),none] st=some (.nx [some (.h p),some (.d (.int (k:Int))),some (.h st.length)] (st++[.l ((qac k).map ce)])):=by
  rw[<-pX]
  refine aC (w:=.h st.length) ?_
  simp only[dH,hlr,qaq]
 obtain⟨ys,s2,e2,done,left,b,rfl,rfl,tb,hp,hd⟩:=mH (g:=.nm 0) (tt:=aS) (te:=jJ) (env:=[none,some (.h st.length),some (.h p)]) (ds:=cV 0 k)
  (λi ys s=>∃ done left b,ys=done.map ce/\s=b++[.l (left.map ce)]/\Stp p st b/\(done++left).Perm (qac k)/\done.length=i) (st:=st++[.l ((qac k).map ce)]) (ys0:=[]) ⟨[],qac k,st,rfl,rfl,Stp.refl h,qfG _,rfl⟩ (λi d ys s hd ⟨done,left,b,ey,es,tb,hp,hl⟩=>by
   subst ey es
   obtain⟨hi,rfl⟩:=lx hd
   have hlen:=hp.length_eq
   rw[qap,qah,hl]at hlen
   have hbl:=tb.len
   have hlg:lg (b++[.l (left.map ce)]) st.length=some (left.map ce):=i9 hbl
   have hcl:iCB bE (aa (iV 1) ag) [some (.d (.int (0+((i:Nat):Int)))),some (.h st.length),some (.h p)] (b++[.l (left.map ce)])=some (.d (.int (left.length:Int)),b++[.l (left.map ce)]):=by
    refine bi (ac (x:=.h st.length) rfl rfl) ?_
    show (lg (b++[.l (left.map ce)]) st.length).map _=_
    rw[hlg,qaq,qai]
   obtain⟨r,b2,r0,r1,t2,e2⟩:=jt (a:=iV 2) (b:=iCB bE (aa (iV 1) ag)) (env:=[some (.d (.int (0+((i:Nat):Int)))),some (.h st.length),some (.h p)]) (st:=b) (u:=[.l (left.map ce)]) (m:=(left.length:Int)) rfl hcl tb.hand (by lia) (by lia)
   obtain⟨q,rfl⟩:=qdA r0
   have hq:q<left.length:=by lia
   have hbl2:b2.length=st.length:=by rw[t2.len,hbl]
   have:=Dm (o:=iV 1) (env:=[some (.d (.int (0+((i:Nat):Int)))),some (.h st.length),some (.h p)]) (n:=st.length) rfl e2 hlg (i9 hbl2) hq (by lia)
   rw[qQ hbl2]at this
   exact⟨_,rfl,.inl ⟨_,_,_,rfl,this,done++[left[q]],left.eraseIdx q,b2,by rw[qcg];rfl,rfl,tb.trans t2,vM hp hq,by rw[qap,hl];rfl⟩⟩)
 have hlen:=hp.length_eq
 rw[qap,qah,hd,pX,qai,qah]at hlen
 have hnil:left=[]:=List.length_eq_zero_iff.mp (by lia)
 subst hnil
 rw[qbO]at hp
 refine⟨done,b,hp,tb,?_⟩
 have hr:cH (aa (iV 1) ag) [some (.h p),some (.d (.int (k:Int))),some (.h st.length)] (st++[.l ((qac k).map ce)])=some (cV 0 k,st++[.l ((qac k).map ce)]):=lD (e:=iV 1) (z:=(k:Int)) rfl (by lia) (by lia) (by lia)
 have:=lb (n:=3) (k:=2) (b:=ge) (ws:=[.h p,.d (.int (k:Int))]) (st:=st) rfl (ar s1 (bF (aK (bQ hr (by rw[pX,qai,qah];lia) e2))))
 rw[qev (by rw[tb.len];exact qan _),tb.take]at this
 exact this
end Own
set_option maxHeartbeats 1000000
namespace Own
open PySem L2
open Sx (Pb Tb Good Named Fe LV ZV piv lexP leastR leaveL sumN unit colV basis)
def iL (m n:Nat) (R:Nat->Nat->Int) (b g:Nat->Int) (k:Int):D:=.tup [aB m n R,.tup (mpI m b),.tup (mpI n g),.int k]
def Oth (m n:Nat) (R:Nat->Nat->Int) (b g:Nat->Int) (d:D):Prop:=∃ m' n' R' b' g' k,Inp m' n' R' b' g'/\1<=k/\k<=3/\d=iL m' n' R' b' g' k/\∀ v v',Sx.Val m n R b g v->Sx.Val m' n' R' b' g' v'->Sx.Alk k v v'
theorem mD {l:List Nat}{m:Nat} (hp:l.Perm (qac m)):l.length=m/\(∀ i,i<m->l.getD i 0<m)/\∀ r,r<m->l.idxOf r<m/\l.getD (l.idxOf r) 0=r:=by
 have hl:l.length=m:=by rw[hp.length_eq,qah]
 refine⟨hl,λi hi=>?_,λr hr=>?_⟩
 ·have h1:i<l.length:=by lia
  rw[qc9,qaL h1]
  exact qaK.mp (hp.subset (qew h1))
 ·have h1:r∈l:=hp.symm.subset (qaK.mpr hr)
  have h2:=List.idxOf_lt_length_of_mem h1
  refine⟨by lia,?_⟩
  rw[qc9,qaL h2,List.getElem_idxOf];rfl
def lj {α:Type} (s:Nat) (x:α) (F:Nat->α) (i:Nat):α:=if i<s then F i else if i=s then x else F (i - 1)
def jq {α:Type} (s:Nat) (x:α) (F:Nat->α) (i:Nat):α:=if i=s then x else F i
def gP {α:Type} (s:Nat) (x:α) (F:Nat->α) (i:Nat):α:=if i<s then F i else x
section
variable {m n:Nat}{R:Nat->Nat->Int}{b g:Nat->Int}
theorem dX (x y:Int):x=1*x+0*y:=by rw[qaT,qbk,qck]
theorem Ins.inp (h:Ins m n R b g):Inp m n R b g:=by
 have h1:=h.m5
 have h2:=h.n5
 refine⟨by lia,by lia,λi c hi hc=>?_,λi hi=>?_,λc hc=>?_⟩
 ·have:=h.R i c hi hc;lia
 ·have:=h.b i hi;lia
 ·have:=h.g c hc;lia
theorem ph {a k:Int} (h:a.natAbs<=2^46) (k1:1<=k) (k3:k<=3):(k*a).natAbs<=2^50/\(0<=a->0<=k*a):=by
 have:k=1\/k=2\/k=3:=by lia
 rcases this with rfl|rfl|rfl<;>lia
theorem yo (h:Ins m n R b g) {l:List Nat} (hp:l.Perm (qac m)):Oth m n R b g (iL m n (λi=>R (l.getD i 0)) (λi=>b (l.getD i 0)) g 1):=by
 obtain⟨hl,hf,hi⟩:=mD hp
 have h':=h.inp
 refine⟨m,n,_,_,g,1,⟨h'.m64,h'.n64,λi c hi hc=>h'.R _ c (hf i hi) hc,λi hi=>h'.b _ (hf i hi),h'.g⟩,by decide,by decide,rfl,λv v' hv hv'=>?_⟩
 refine Sx.sim_rows (λr hr=>⟨_,_,hf r hr,hf r hr,1,0,by decide,by decide,λj _=>dX _ _,dX _ _⟩) (λr hr=>⟨_,(hi r hr).1,1,by decide,λj _=>?_,?_⟩) hv hv'
 ·rw[(hi r hr).2,qaT]
 ·rw[(hi r hr).2,qaT]
theorem xm (h:Ins m n R b g) {l:List Nat} (hp:l.Perm (qac n)):Oth m n R b g (iL m n (λr i=>R r (l.getD i 0)) b (λi=>g (l.getD i 0)) 1):=by
 obtain⟨hl,hf,hi⟩:=mD hp
 have h':=h.inp
 refine⟨m,n,_,b,_,1,⟨h'.m64,h'.n64,λi c hi hc=>h'.R i _ hi (hf c hc),h'.b,λc hc=>h'.g _ (hf c hc)⟩,by decide,by decide,rfl,λv v' hv hv'=>?_⟩
 exact Sx.sim_cols (λi=>l.getD i 0) (λj=>l.idxOf j) hf hi (λ_ _ _ _=>rfl) (λ_ _=>rfl) hv hv'
theorem vW (h:Ins m n R b g) {k:Int} (k1:1<=k) (k3:k<=3):Oth m n R b g (iL m n R b (λi=>k*g i) k):=by
 have h':=h.inp
 exact⟨m,n,R,b,_,k,⟨h'.m64,h'.n64,h'.R,h'.b,λc hc=>(ph (h.g c hc) k1 k3).1⟩,k1,k3,rfl,λv v' hv hv'=>Sx.sim_gains (by lia) (λ_ _=>rfl) hv hv'⟩
theorem tN (h:Ins m n R b g) {k:Int} (k1:1<=k) (k3:k<=3):Oth m n R b g (iL m n R (λi=>k*b i) g k):=by
 have h':=h.inp
 exact⟨m,n,R,_,g,k,⟨h'.m64,h'.n64,h'.R,λi hi=>⟨(ph (h.b i hi).1 k1 k3).1,(ph (h.b i hi).1 k1 k3).2 (h.b i hi).2⟩,h'.g⟩,k1,k3,rfl,λv v' hv hv'=>Sx.sim_bounds (by lia) (λ_ _=>rfl) hv hv'⟩
theorem wo (h:Ins m n R b g) {s:Nat} (hs:s<n):Oth m n R b g (iL m (n+1) (λr=>gP n (R r s) (R r)) b (gP n (g s) g) 1):=by
 have h':=h.inp
 have hn:=h.n5
 refine⟨m,n+1,_,b,_,1,⟨h'.m64,by lia,λi c hi hc=>?_,h'.b,λc hc=>?_⟩,by decide,by decide,rfl,λv v' hv hv'=>?_⟩
 ·unfold gP;split
  ·exact h'.R i c hi (by lia)
  ·exact h'.R i s hi hs
 ·unfold gP;split
  ·exact h'.g c (by lia)
  ·exact h'.g s hs
 ·refine Sx.sim_cols (λi=>if i<n then i else s) (λj=>j) (λi hi=>?_) (λj hj=>⟨by lia,if_pos hj⟩) (λr i _ _=>?_) (λi _=>?_) hv hv'
  ·split<;>lia
  ·unfold gP;split<;>rfl
  ·unfold gP;split<;>rfl
theorem zE (h:Ins m n R b g) {i l s:Nat} (hi:i<m) (hl:l<m) (hs:s<m):Oth m n R b g (iL (m+1) n (lj s (λj=>R i j+R l j) R) (lj s (b i+b l) b) g 1):=by
 have h':=h.inp
 have hm:=h.m5
 refine⟨m+1,n,_,_,g,1,⟨by lia,h'.n64,λr c hr hc=>?_,λr hr=>?_,h'.g⟩,by decide,by decide,rfl,λv v' hv hv'=>?_⟩
 ·unfold lj;split
  ·exact h'.R r c (by lia) hc
  ·split
   ·have:=h.R i c hi hc
    have:=h.R l c hl hc
    try dsimp only
    lia
   ·exact h'.R _ c (by lia) hc
 ·unfold lj;split
  ·exact h'.b r (by lia)
  ·split
   ·have:=h.b i hi
    have:=h.b l hl
    lia
   ·exact h'.b _ (by lia)
 ·refine Sx.sim_rows (λr hr=>?_) (λr hr=>?_) hv hv'
  ·unfold lj
   by_cases q:r<s
   ·exact⟨r,r,by lia,by lia,1,0,by decide,by decide,λj _=>by rw[if_pos q];exact dX _ _,by rw[if_pos q];exact dX _ _⟩
   ·by_cases q2:r=s
    ·exact⟨i,l,hi,hl,1,1,by decide,by decide,λj _=>by rw[if_neg q,if_pos q2,qaT,qaT],by rw[if_neg q,if_pos q2,qaT,qaT]⟩
    ·exact⟨r - 1,r - 1,by lia,by lia,1,0,by decide,by decide,λj _=>by rw[if_neg q,if_neg q2];exact dX _ _,by rw[if_neg q,if_neg q2];exact dX _ _⟩
  ·unfold lj
   by_cases q:r<s
   ·exact⟨r,by lia,1,by decide,λj _=>by rw[if_pos q,qaT],by rw[if_pos q,qaT]⟩
   ·exact⟨r+1,by lia,1,by decide,λj _=>by rw[if_neg (by lia),if_neg (by lia),qbR,qaT],by rw[if_neg (by lia),if_neg (by lia),qbR,qaT]⟩
theorem x4 (h:Ins m n R b g) {i:Nat} (hi:i<m) {k:Int} (k1:1<=k) (k3:k<=3):Oth m n R b g (iL m n (jq i (λj=>k*R i j) R) (jq i (k*b i) b) g 1):=by
 have h':=h.inp
 refine⟨m,n,_,_,g,1,⟨h'.m64,h'.n64,λr c hr hc=>?_,λr hr=>?_,h'.g⟩,by decide,by decide,rfl,λv v' hv hv'=>?_⟩
 ·unfold jq;split
  ·exact (ph (h.R i c hi hc) k1 k3).1
  ·exact h'.R r c hr hc
 ·unfold jq;split
  ·exact⟨(ph (h.b i hi).1 k1 k3).1,(ph (h.b i hi).1 k1 k3).2 (h.b i hi).2⟩
  ·exact h'.b r hr
 ·refine Sx.sim_rows (λr hr=>?_) (λr hr=>?_) hv hv'
  ·unfold jq
   by_cases q:r=i
   ·exact⟨i,i,hi,hi,k,0,by lia,by decide,λj _=>by rw[if_pos q,qbk,qck],by rw[if_pos q,qbk,qck]⟩
   ·exact⟨r,r,hr,hr,1,0,by decide,by decide,λj _=>by rw[if_neg q];exact dX _ _,by rw[if_neg q];exact dX _ _⟩
  ·unfold jq
   by_cases q:r=i
   ·exact⟨r,hr,k,by lia,λj _=>by rw[if_pos q,q],by rw[if_pos q,q]⟩
   ·exact⟨r,hr,1,by decide,λj _=>by rw[if_neg q,qaT],by rw[if_neg q,qaT]⟩
theorem vO (h:Ins m n R b g) {i:Nat} (hi:i<m):Oth m n R b g (iL (m+1) n (gP m (R i) R) (gP m (b i) b) g 1):=by
 have h':=h.inp
 have hm:=h.m5
 refine⟨m+1,n,_,_,g,1,⟨by lia,h'.n64,λr c hr hc=>?_,λr hr=>?_,h'.g⟩,by decide,by decide,rfl,λv v' hv hv'=>?_⟩
 ·unfold gP;split
  ·exact h'.R r c (by lia) hc
  ·exact h'.R i c hi hc
 ·unfold gP;split
  ·exact h'.b r (by lia)
  ·exact h'.b i hi
 ·refine Sx.sim_rows (λr hr=>?_) (λr hr=>?_) hv hv'
  ·unfold gP
   by_cases q:r<m
   ·exact⟨r,r,q,q,1,0,by decide,by decide,λj _=>by rw[if_pos q];exact dX _ _,by rw[if_pos q];exact dX _ _⟩
   ·exact⟨i,i,hi,hi,1,0,by decide,by decide,λj _=>by rw[if_neg q];exact dX _ _,by rw[if_neg q];exact dX _ _⟩
  ·unfold gP
   exact⟨r,by lia,1,by decide,λj _=>by rw[if_pos hr,qaT],by rw[if_pos hr,qaT]⟩
end
section
variable {α:Type}{G:α->D}{F:Nat->α}{m:Nat}
theorem A2 (F:Nat->D) (l:List Nat):l.map F=(qac l.length).map λi=>F (l.getD i 0):=by
 apply qbg
 intro i
 rw[qaO,qaO]
 by_cases h:i<l.length
 ·rw[qbm h,qaL h,qaq,qaq,qc9,qaL h];rfl
 ·rw[qaQ (by lia),qaQ (by rw[qah];lia)];rfl
theorem fQ (F:Nat->D) (i:Nat):((qac m).map F)[i]?=if i<m then some (F i) else none:=by
 rw[qaO]
 split
 ·next h=>rw[qbm h];rfl
 ·next h=>rw[qaQ (by rw[qah];lia)];rfl
theorem y9 {s:Nat}{x:α} (h:s<=m):(((qac m).map λi=>G (F i)).take s++[G x])++((qac m).map λi=>G (F i)).drop s=(qac (m+1)).map λi=>G (lj s x F i):=by
 apply qbg
 intro i
 have hl:(((qac m).map λi=>G (F i)).take s).length=s:=by rw[qbH,qai,qah];lia
 rw[fQ,qbz]
 unfold lj
 by_cases q:i<s
 ·rw[qas (by lia),qcz q,fQ,if_pos (by lia),if_pos (by lia),if_pos q]
 ·rw[qau (by lia),hl]
  by_cases q2:i=s
  ·subst q2;rw[qbU,if_pos (by lia),if_neg q,if_pos rfl];rfl
  ·obtain⟨t,rfl⟩:∃ t,i=s+(t+1):=⟨i - s - 1,by lia⟩
   rw[show s+(t+1) - s=t+1 by lia,qcT,qe6,qfR,fQ,if_neg q,if_neg q2]
   by_cases q3:s+t<m
   ·rw[if_pos q3,if_pos (by lia)];rfl
   ·rw[if_neg q3,if_neg (by lia)]
theorem pB {s:Nat}{x:α} (h:s<m):(((qac m).map λi=>G (F i)).take s++[G x])++((qac m).map λi=>G (F i)).drop (s+1)=(qac m).map λi=>G (jq s x F i):=by
 apply qbg
 intro i
 have hl:(((qac m).map λi=>G (F i)).take s).length=s:=by rw[qbH,qai,qah];lia
 rw[fQ,qbz]
 unfold jq
 by_cases q:i<s
 ·rw[qas (by lia),qcz q,fQ,if_pos (by lia),if_pos (by lia),if_neg (by lia)]
 ·rw[qau (by lia),hl]
  by_cases q2:i=s
  ·subst q2;rw[qbU,if_pos h,if_pos rfl];rfl
  ·obtain⟨t,rfl⟩:∃ t,i=s+(t+1):=⟨i - s - 1,by lia⟩
   rw[show s+(t+1) - s=t+1 by lia,qcT,qe6,qfR,fQ,if_neg q2,show s+1+t=s+(t+1) by lia]
theorem yC {x:α}:((qac m).map λi=>G (F i))++[G x]=(qac (m+1)).map λi=>G (gP m x F i):=by
 apply qbg
 intro i
 have hl:((qac m).map λi=>G (F i)).length=m:=by rw[qai,qah]
 rw[fQ]
 unfold gP
 by_cases q:i<m
 ·rw[qas (by lia),fQ,if_pos q,if_pos (by lia),if_pos q]
 ·rw[qau (by lia),hl]
  by_cases q2:i=m
  ·subst q2;rw[qbU,if_pos (by lia),if_neg q];rfl
  ·rw[if_neg (by lia),qaQ (by show 1<=_;lia)]
end
theorem xP (ds:List D) (k:Nat):kI ds none (some (k:Int))=ds.take k:=by
 unfold kI
 rw[HT.sIx_nat,HT.sIx_none,qgy,qhQ]
 rcases qhS k ds.length with h|h
 ·rw[qgx h]
 ·rw[qgp h,qcY,qcO h]
theorem xv (ds:List D) (k:Nat):kI ds (some (k:Int)) none=ds.drop k:=by
 unfold kI
 rw[HT.sIx_nat,HT.sIx_none]
 rcases qhS k ds.length with h|h
 ·rw[qgx h,qcO (by rw[qcZ];lia)]
 ·rw[qgp h,qbU,qeT,List.drop_eq_nil_of_le h]
theorem B8 {f:Ef}{env:Ev}{st:Sto}{i:Int} (h:f env st=some (.d (.int i),st)):iPs f env st=some (some i,st):=by
 simp only[iPs,h,qaa,A9,qaq]
theorem uL {f pe:Ef}{env:Ev}{st:Sto}{ds:List D}{k:Nat} (hf:f env st=some (.d (.tup ds),st)) (hp:pe env st=some (.d (.int (k:Int)),st)):iSl f iPn (iPs pe) env st=some (.d (.tup (ds.take k)),st):=by
 have h1:iPn env st=some (none,st):=rfl
 simp only[iSl,hf,h1,B8 hp,qaa]
 show (some (D.tup (kI ds none (some (k:Int))))).map _=_
 rw[xP];rfl
theorem uK {f pe:Ef}{env:Ev}{st:Sto}{ds:List D}{k:Nat} (hf:f env st=some (.d (.tup ds),st)) (hp:pe env st=some (.d (.int (k:Int)),st)):iSl f (iPs pe) iPn env st=some (.d (.tup (ds.drop k)),st):=by
 have h1:iPn env st=some (none,st):=rfl
 simp only[iSl,hf,h1,B8 hp,qaa]
 show (some (D.tup (kI ds (some (k:Int)) none))).map _=_
 rw[xv];rfl
end Own
set_option maxHeartbeats 1000000
namespace Own
open PySem L2
open Sx (Pb Tb Good Named Fe LV ZV piv lexP leastR leaveL sumN unit colV basis)
abbrev dB (p:Nat) (cs rs bs gs:D) (o5 o6 o7 o8 o9 o10 o11 o12 o13 o14 o15:Option W):Ev:=[some (.h p),some (.d cs),some (.d rs),some (.d bs),some (.d gs),o5,o6,o7,o8,o9,o10,o11,o12,o13,o14,o15]
theorem mX {a:Ef}{env:Ev}{b b':Sto}{fs:List D}{d:D}{L:Nat} (h6:∀ s,iV 6 env s=some (.h L,s)) (hb:b.length=L) (hb':b'.length=L) (hf:fs.length<100) (ha:a env (b++[.l fs])=some (.d d,b'++[.l fs])):fg (dQ cy (iV 6) (aa a ag)) env (b++[.l fs])=some (.nx env (b'++[.l (fs++[d])])):=by
 have:=Bu (o:=iV 6) (h6 _) ha (i9 hb) (i9 hb') (by lia)
 rw[qQ hb']at this
 exact this
section
variable {env:Ev}{S:Sto}{m n s:Nat}
theorem qe {fi:Lf}{js:List Nat}{te:Ef}{f:Nat->Int}{k:Int} (hte:te=iOp bO (iV 1) (iV 0)) (hfi:fi env S=some (mpI n f,S)) (he:gQ 1 js env=[none,some (.d (.int k))]) (hn:n<=100) (k1:1<=k) (k3:k<=3):iCB db (aa (aD (iLc 1 js fi (.nm 0) aS te)) ag) env S=some (.d (.tup (mpI n λj=>k*f j)),S):=by
 subst hte
 have hl:lcI (.nm 0) aS (iOp bO (iV 1) (iV 0)) [none,some (.d (.int k))] (mpI n f) S=some (mpI n λj=>k*f j,S):=
  iH (g:=λj=>D.int (f j)) (λj=>D.int (k*f j)) λj _=>ai rfl rfl (cF S (gT (by lia)))
 rw[<-he]at hl
 exact bi (ac (aK (bQ hfi (by rw[aU];lia) hl)) rfl) rfl
theorem lL {fi:Lf}{js:List Nat}{te:Ef}{T:D}{l:List Nat}{F:Nat->D} (hte:te=iOp dIx (iV 1) (iV 0)) (hfi:fi env S=some (l.map ce,S)) (he:gQ 1 js env=[none,some (.d T)]) (hn:l.length<=100) (hF:∀ k∈l,dIx S (.d T) (.d (ce k))=some (F k)):iCB db (aa (aD (iLc 1 js fi (.nm 0) aS te)) ag) env S=some (.d (.tup ((qac l.length).map λi=>F (l.getD i 0))),S):=by
 subst hte
 have hl:lcI (.nm 0) aS (iOp dIx (iV 1) (iV 0)) [none,some (.d T)] (l.map ce) S=some (l.map F,S):=
  tu (g:=ce) F λk hk=>ai rfl rfl (hF k hk)
 rw[<-he]at hl
 rw[<-A2 F l]
 exact bi (ac (aK (bQ hfi (by rw[qai];lia) hl)) rfl) rfl
theorem ixR (st:Sto) {R:Nat->Nat->Int}{k:Nat} (hk:k<m):dIx st (.d (aB m n R)) (.d (.int (k:Int)))=some (.tup (mpI n (R k))):=eM (by rw[qaO,qbm hk];rfl)
theorem ixT (st:Sto) {f:Nat->Int}{k:Nat} (hk:k<n):dIx st (.d (.tup (mpI n f))) (.d (.int (k:Int)))=some (.int (f k)):=eM (cp hk)
section
variable {α:Type}{G:α->D}{F:Nat->α}{y:α}{a pe pe1 x:Ef}{ds:List D}
theorem uW (ha:a env S=some (.d (.tup ds),S)) (hd:ds=(qac m).map λi=>G (F i)) (hp:pe env S=some (.d (.int (s:Int)),S)) (hp1:pe1 env S=some (.d (.int ((s+1:Nat):Int)),S)) (hx:x env S=some (.d (.tup [G y]),S)) (hs:s<m) (hm:m<=100):iOp bu (iOp bu (iSl a iPn (iPs pe)) x) (iSl a (iPs pe1) iPn) env S=some (.d (.tup ((qac m).map λi=>G (jq s y F i))),S):=by
 subst hd
 have hl:((qac m).map λi=>G (F i)).length=m:=by rw[qai,qah]
 rw[<-pB hs]
 exact ai (ai (uL ha hp) hx (i8 _ (by rw[qbH,hl];show _+1<=_;lia))) (uK ha hp1) (i8 _ (by rw[qap,qbH,qcZ,hl];show _+1+_<=_;lia))
theorem uR (ha:a env S=some (.d (.tup ds),S)) (hd:ds=(qac m).map λi=>G (F i)) (hp:pe env S=some (.d (.int (s:Int)),S)) (hx:x env S=some (.d (.tup [G y]),S)) (hs:s<=m) (hm:m<=100):iOp bu (iOp bu (iSl a iPn (iPs pe)) x) (iSl a (iPs pe) iPn) env S=some (.d (.tup ((qac (m+1)).map λi=>G (lj s y F i))),S):=by
 subst hd
 have hl:((qac m).map λi=>G (F i)).length=m:=by rw[qai,qah]
 rw[<-y9 hs]
 exact ai (ai (uL ha hp) hx (i8 _ (by rw[qbH,hl];show _+1<=_;lia))) (uK ha hp) (i8 _ (by rw[qap,qbH,qcZ,hl];show _+1+_<=_;lia))
theorem mN (ha:a env S=some (.d (.tup ds),S)) (hd:ds=(qac m).map λi=>G (F i)) (hx:x env S=some (.d (.tup [G y]),S)) (hm:m<=100):iOp bu a x env S=some (.d (.tup ((qac (m+1)).map λi=>G (gP m y F i))),S):=by
 subst hd
 have hl:((qac m).map λi=>G (F i)).length=m:=by rw[qai,qah]
 rw[<-yC]
 exact ai ha hx (i8 _ (by rw[hl];show _+1<=_;lia))
end
theorem sq {a:Ef}{d:D} (h:a env S=some (.d d,S)):bm (aa a ag) env S=some (.d (.tup [d]),S):=oE (ac h rfl) rfl (by show 1<=1000;decide)
theorem sk {a b c e:Ef}{x y z w:D} (h1:a env S=some (.d x,S)) (h2:b env S=some (.d y,S)) (h3:c env S=some (.d z,S)) (h4:e env S=some (.d w,S)):bm (aa a (aa b (aa c (aa e ag)))) env S=some (.d (.tup [x,y,z,w]),S):=oE (ac h1 (ac h2 (ac h3 (ac h4 rfl)))) rfl (by show 4<=1000;decide)
end
section
variable {m n:Nat}{R:Nat->Nat->Int}{b g:Nat->Int}{p L:Nat}{cs:D}{B:Sto}{fs:List D}{k:Int}{o5 o7 o9 o11 o12 o13 o14 o15:Option W}
theorem BE (hi:Ins m n R b g) (hB:B.length=L) {i:Nat} (him:i<m) (k1:1<=k) (k3:k<=3) (hf:fs.length<=50) (hO:∀ d∈fs,Oth m n R b g d):∃ fs' q14 q15,(∀ d∈fs',Oth m n R b g d)/\fT (dB p cs (aB m n R) (.tup (mpI m b)) (.tup (mpI n g)) o5 (some (.h L)) o7 (some (.d (.int k))) o9 (some (.d (.int (i:Int)))) o11 o12 o13 o14 o15) (B++[.l fs])=some (.nx (dB p cs (aB m n R) (.tup (mpI m b)) (.tup (mpI n g)) o5 (some (.h L)) o7 (some (.d (.int k))) o9 (some (.d (.int (i:Int)))) o11 o12 o13 q14 q15) (B++[.l fs'])):=by
 have hm:=hi.m5
 have hn:=hi.n5
 have e15:=qe (env:=dB p cs (aB m n R) (.tup (mpI m b)) (.tup (mpI n g)) o5 (some (.h L)) o7 (some (.d (.int k))) o9 (some (.d (.int (i:Int)))) o11 o12 o13 o14 o15) (S:=B++[.l fs]) (fi:=aE (iOp dIx (iV 2) (iV 10))) (js:=[8]) (te:=jf) (f:=R i) rfl (cX (ai rfl rfl (ixR _ him))) rfl (by lia) k1 k3
 have e14:=uW (env:=dB p cs (aB m n R) (.tup (mpI m b)) (.tup (mpI n g)) o5 (some (.h L)) o7 (some (.d (.int k))) o9 (some (.d (.int (i:Int)))) o11 o12 o13 o14 (some (.d (.tup (mpI n λj=>k*R i j))))) (S:=B++[.l fs]) (a:=iV 3) (pe:=iV 10) (pe1:=iOp bu (iV 10) (iC (.int 1))) (x:=bm (aa (iOp bO (iV 8) (iOp dIx (iV 3) (iV 10))) ag)) (G:=D.int) (F:=b) (y:=k*b i) rfl rfl rfl rfl (sq (ai rfl (ai rfl rfl (ixT _ him)) (cF _ (gT (by lia))))) him (by lia)
 have e7:=uW (env:=dB p cs (aB m n R) (.tup (mpI m b)) (.tup (mpI n g)) o5 (some (.h L)) o7 (some (.d (.int k))) o9 (some (.d (.int (i:Int)))) o11 o12 o13 (some (.d (.tup ((qac m).map λj=>D.int (jq i (k*b i) b j))))) (some (.d (.tup (mpI n λj=>k*R i j))))) (S:=B++[.l fs]) (a:=iV 2) (pe:=iV 10) (pe1:=iOp bu (iV 10) (iC (.int 1))) (x:=bm (aa (iV 15) ag)) (G:=λf:Nat->Int=>D.tup (mpI n f)) (F:=R) (y:=λj=>k*R i j) rfl rfl rfl rfl (sq rfl) him (by lia)
 have a7:=mX (L:=L) (λs=>rfl) hB hB (by lia) (sk e7 (b:=iV 14) rfl (c:=iV 4) rfl (e:=iC (.int 1)) rfl)
 have e8:=mN (env:=dB p cs (aB m n R) (.tup (mpI m b)) (.tup (mpI n g)) o5 (some (.h L)) o7 (some (.d (.int k))) o9 (some (.d (.int (i:Int)))) o11 o12 o13 (some (.d (.tup ((qac m).map λj=>D.int (jq i (k*b i) b j))))) (some (.d (.tup (mpI n λj=>k*R i j))))) (S:=B++[.l (fs++[iL m n (jq i (λj=>k*R i j) R) (jq i (k*b i) b) g 1])]) (a:=iV 2) (x:=bm (aa (iOp dIx (iV 2) (iV 10)) ag)) (G:=λf:Nat->Int=>D.tup (mpI n f)) (F:=R) (y:=R i) rfl rfl (sq (ai rfl rfl (ixR _ him))) (by lia)
 have e9:=mN (env:=dB p cs (aB m n R) (.tup (mpI m b)) (.tup (mpI n g)) o5 (some (.h L)) o7 (some (.d (.int k))) o9 (some (.d (.int (i:Int)))) o11 o12 o13 (some (.d (.tup ((qac m).map λj=>D.int (jq i (k*b i) b j))))) (some (.d (.tup (mpI n λj=>k*R i j))))) (S:=B++[.l (fs++[iL m n (jq i (λj=>k*R i j) R) (jq i (k*b i) b) g 1])]) (a:=iV 3) (x:=bm (aa (iOp dIx (iV 3) (iV 10)) ag)) (G:=D.int) (F:=b) (y:=b i) rfl rfl (sq (ai rfl rfl (ixT _ him))) (by lia)
 have a8:=mX (L:=L) (λs=>rfl) hB hB (by rw[qap];show _+1<_;lia) (sk e8 e9 (c:=iV 4) rfl (e:=iC (.int 1)) rfl)
 refine⟨(fs++[iL m n (jq i (λj=>k*R i j) R) (jq i (k*b i) b) g 1])++[iL (m+1) n (gP m (R i) R) (gP m (b i) b) g 1],_,_,λd hd=>?_,ar (aC e15) (ar (aC e14) (ar a7 a8))⟩
 rcases qaM.mp hd with hd|hd
 ·rcases qaM.mp hd with hd|hd
  ·exact hO d hd
  ·rw[qaj.mp hd];exact x4 hi him k1 k3
 ·rw[qaj.mp hd];exact vO hi him
end
end Own
set_option maxHeartbeats 1000000
namespace Own
open PySem L2
open Sx (Pb Tb Good Named Fe LV ZV piv lexP leastR leaveL sumN unit colV basis)
theorem zg (s:Sto) (m n:Nat) (R:Nat->Nat->Int):dNe s (.d (aB m n R)) (.d (.tup []))=some (.bl (decide (0<m))):=by
 cases m with
 |zero=>rfl
 |succ m=>
  have e:aB (m+1) n R=.tup (D.tup (mpI n (R 0))::((qac m).map Nat.succ).map λi=>D.tup (mpI n (R i))):=by
   unfold aB;rw[qbW,qay]
  rw[e,decide_eq_true (Nat.succ_pos m)];rfl
theorem yJ (n:Nat) (f h:Nat->Int):jr (mpI n f) (mpI n h)=(qac n).map λi=>D.tup [.int (f i),.int (h i)]:=by
 apply qbg
 intro i
 rw[iI,fQ]
 by_cases hi:i<n
 ·rw[cp hi,cp hi,if_pos hi];rfl
 ·rw[qaQ (l:=mpI n f) (by rw[aU];lia),if_neg hi];rfl
theorem zX {a:Af}{env:Ev}{st s:Sto}{ws:List W}{ds:List D} (h:a env st=some (ws,s)) (hd:ly ws=some ds) (hl:ds.length<=1000):cI a env st=some (ds,s):=by
 simp only[cI,h,qaa,hd,hl,if_true]
section
variable {m n:Nat}{R:Nat->Nat->Int}{b g:Nat->Int}{p L:Nat}{cs:D}{B:Sto}{fs:List D}{k:Int}{o5 o7 o8 o9 o10 o11 o12 o13 o14 o15:Option W}
theorem Bl (hi:Ins m n R b g) (hB:B.length=L) (hh:bZ B p) (hm0:0<m) (k1:1<=k) (k3:k<=3) (hf:fs.length<=40) (hO:∀ d∈fs,Oth m n R b g d):∃ fs' B' q10 q11 q12 q13 q14 q15,(∀ d∈fs',Oth m n R b g d)/\Stp p B B'/\(ao (aG (.tp [10,11,12]) (aD (iLc 1 [0,2] (cH (aa (iC (.int 3)) ag)) (.nm 0) aS dY))) (ao (aG (.nm 13) (iCB db (aa (aD (iLc 2 [] (eF (aa (iOp dIx (iV 2) (iV 10)) (aa (iOp dIx (iV 2) (iV 11)) ag))) (.tp [0,1]) aS dW)) ag))) (ao (aG (.nm 14) (iOp bu (iOp bu (iSl (iV 3) iPn (iPs (iV 12))) (bm (aa (iOp bu (iOp dIx (iV 3) (iV 10)) (iOp dIx (iV 3) (iV 11))) ag))) (iSl (iV 3) (iPs (iV 12)) iPn))) (ao (fg (dQ cy (iV 6) (aa (bm (aa (iOp bu (iOp bu (iSl (iV 2) iPn (iPs (iV 12))) (bm (aa (iV 13) ag))) (iSl (iV 2) (iPs (iV 12)) iPn)) (aa (iV 14) (aa (iV 4) (aa (iC (.int 1)) ag))))) ag))) fT)))) (dB p cs (aB m n R) (.tup (mpI m b)) (.tup (mpI n g)) o5 (some (.h L)) o7 (some (.d (.int k))) o9 o10 o11 o12 o13 o14 o15) (B++[.l fs])=some (.nx (dB p cs (aB m n R) (.tup (mpI m b)) (.tup (mpI n g)) o5 (some (.h L)) o7 (some (.d (.int k))) o9 q10 q11 q12 q13 q14 q15) (B'++[.l fs'])):=by
 have hm:=hi.m5
 have hn:=hi.n5
 obtain⟨us,B',ul,uq,tB,e3⟩:=lP (te:=dY) (a:=none) (l:=[some (.h p),some (.d (aB m n R))]) (u:=[.l fs]) (ds:=cV 0 3) (λu=>∃ r:Nat,r < m/\u=.int (r:Int)) hh (λs d _ hs=>by
  obtain⟨r,s',r0,r1,t,e⟩:=eD (a:=iV 1) (b:=iCB bE (aa (iV 2) ag)) (env:=[some (.d d),some (.h p),some (.d (aB m n R))]) (st:=s) (m:=(m:Int)) rfl (bi (ac rfl rfl) (uY s)) hs (by lia) (by lia)
  obtain⟨q,rfl⟩:=qdA r0
  exact⟨_,s',⟨q,by lia,rfl⟩,t,e⟩)
 have hB':B'.length=L:=by rw[tB.len,hB]
 match us,ul,uq,e3 with
 |[u1,u2,u3],_,uq,e3=>
  obtain⟨i,him,rfl⟩:=uq u1 (by simp)
  obtain⟨l,hlm,rfl⟩:=uq u2 (by simp)
  obtain⟨s,hsm,rfl⟩:=uq u3 (by simp)
  have c10:aG (.tp [10,11,12]) (aD (iLc 1 [0,2] (cH (aa (iC (.int 3)) ag)) (.nm 0) aS dY)) (dB p cs (aB m n R) (.tup (mpI m b)) (.tup (mpI n g)) o5 (some (.h L)) o7 (some (.d (.int k))) o9 o10 o11 o12 o13 o14 o15) (B++[.l fs])=some (.nx (dB p cs (aB m n R) (.tup (mpI m b)) (.tup (mpI n g)) o5 (some (.h L)) o7 (some (.d (.int k))) o9 (some (.d (.int (i:Int)))) (some (.d (.int (l:Int)))) (some (.d (.int (s:Int)))) o13 o14 o15) (B'++[.l fs])):=by
   have hr:=lD (e:=iC (.int 3)) (z:=3) (m:=3) (env:=dB p cs (aB m n R) (.tup (mpI m b)) (.tup (mpI n g)) o5 (some (.h L)) o7 (some (.d (.int k))) o9 o10 o11 o12 o13 o14 o15) (st:=B++[.l fs]) rfl (by decide) (by decide) rfl
   have:=aK (bQ (k:=1) (js:=[0,2]) hr (by show 3<=1000000;decide) e3)
   simp only[aG,this,qaa]
   rfl
  have hz:∀ (o13 o14:Option W),eF (aa (iOp dIx (iV 2) (iV 10)) (aa (iOp dIx (iV 2) (iV 11)) ag)) (dB p cs (aB m n R) (.tup (mpI m b)) (.tup (mpI n g)) o5 (some (.h L)) o7 (some (.d (.int k))) o9 (some (.d (.int (i:Int)))) (some (.d (.int (l:Int)))) (some (.d (.int (s:Int)))) o13 o14 o15) (B'++[.l fs])=some ((qac n).map λj=>D.tup [.int (R i j),.int (R l j)],B'++[.l fs]):=λo13 o14=>by
   rw[<-yJ]
   have:=ac (ai (g:=dIx) (a:=iV 2) (b:=iV 10) (env:=dB p cs (aB m n R) (.tup (mpI m b)) (.tup (mpI n g)) o5 (some (.h L)) o7 (some (.d (.int k))) o9 (some (.d (.int (i:Int)))) (some (.d (.int (l:Int)))) (some (.d (.int (s:Int)))) o13 o14 o15) (st:=B'++[.l fs]) rfl rfl (ixR _ him)) (ac (b:=ag) (ai (g:=dIx) (a:=iV 2) (b:=iV 11) rfl rfl (ixR _ hlm)) rfl)
   simp only[eF,this,qaa];rfl
  have hl:lcI (.tp [0,1]) aS dW [none,none] ((qac n).map λj=>D.tup [.int (R i j),.int (R l j)]) (B'++[.l fs])=some (mpI n λj=>R i j+R l j,B'++[.l fs]):=rW (g:=λj=>(D.int (R i j),.int (R l j))) (λj=>D.int (R i j+R l j)) λj _=>rfl
  have c13:iCB db (aa (aD (iLc 2 [] (eF (aa (iOp dIx (iV 2) (iV 10)) (aa (iOp dIx (iV 2) (iV 11)) ag))) (.tp [0,1]) aS dW)) ag) (dB p cs (aB m n R) (.tup (mpI m b)) (.tup (mpI n g)) o5 (some (.h L)) o7 (some (.d (.int k))) o9 (some (.d (.int (i:Int)))) (some (.d (.int (l:Int)))) (some (.d (.int (s:Int)))) o13 o14 o15) (B'++[.l fs])=some (.d (.tup (mpI n λj=>R i j+R l j)),B'++[.l fs]):=bi (ac (aK (bQ (hz _ _) (by rw[qai,qah];lia) hl)) rfl) rfl
  have e14:=uR (env:=dB p cs (aB m n R) (.tup (mpI m b)) (.tup (mpI n g)) o5 (some (.h L)) o7 (some (.d (.int k))) o9 (some (.d (.int (i:Int)))) (some (.d (.int (l:Int)))) (some (.d (.int (s:Int)))) (some (.d (.tup (mpI n λj=>R i j+R l j)))) o14 o15) (S:=B'++[.l fs]) (a:=iV 3) (pe:=iV 12) (x:=bm (aa (iOp bu (iOp dIx (iV 3) (iV 10)) (iOp dIx (iV 3) (iV 11))) ag)) (G:=D.int) (F:=b) (y:=b i+b l) rfl rfl rfl (sq (ai (ai rfl rfl (ixT _ him)) (ai rfl rfl (ixT _ hlm)) rfl)) (qcV hsm) (by lia)
  have e6:=uR (env:=dB p cs (aB m n R) (.tup (mpI m b)) (.tup (mpI n g)) o5 (some (.h L)) o7 (some (.d (.int k))) o9 (some (.d (.int (i:Int)))) (some (.d (.int (l:Int)))) (some (.d (.int (s:Int)))) (some (.d (.tup (mpI n λj=>R i j+R l j)))) (some (.d (.tup ((qac (m+1)).map λj=>D.int (lj s (b i+b l) b j))))) o15) (S:=B'++[.l fs]) (a:=iV 2) (pe:=iV 12) (x:=bm (aa (iV 13) ag)) (G:=λf:Nat->Int=>D.tup (mpI n f)) (F:=R) (y:=λj=>R i j+R l j) rfl rfl rfl (sq rfl) (qcV hsm) (by lia)
  have a6:=mX (L:=L) (λs=>rfl) hB' hB' (by lia) (sk e6 (b:=iV 14) rfl (c:=iV 4) rfl (e:=iC (.int 1)) rfl)
  obtain⟨fs',q14,q15,hO',e2⟩:=BE (p:=p) (cs:=cs) (o5:=o5) (o7:=o7) (o9:=o9) (o11:=some (.d (.int (l:Int)))) (o12:=some (.d (.int (s:Int)))) (o13:=some (.d (.tup (mpI n λj=>R i j+R l j)))) (o14:=some (.d (.tup ((qac (m+1)).map λj=>D.int (lj s (b i+b l) b j))))) (o15:=o15) (fs:=fs++[iL (m+1) n (lj s (λj=>R i j+R l j) R) (lj s (b i+b l) b) g 1]) hi hB' him k1 k3 (by rw [qap];show _+1<=_;lia) (λd hd=>by
   rcases qaM.mp hd with hd|hd
   ·exact hO d hd
   ·rw[qaj.mp hd];exact zE hi him hlm hsm)
  exact⟨fs',B',_,_,_,_,_,_,hO',tB,ar c10 (ar (aC c13) (ar (aC e14) (ar a6 e2)))⟩
theorem BM (hi:Ins m n R b g) (n1:1<=n) (hB:B.length=L) (hh:bZ B p) (k1:1<=k) (k3:k<=3) (hf:fs.length<=30) (hO:∀ d∈fs,Oth m n R b g d):∃ fs' B',(∀ d∈fs',Oth m n R b g d)/\Stp p B B'/\jj (dB p cs (aB m n R) (.tup (mpI m b)) (.tup (mpI n g)) o5 (some (.h L)) o7 (some (.d (.int k))) none none none none none none none) (B++[.l fs])=some (.rt (.h L) (B'++[.l fs'])):=by
 have hm:=hi.m5
 have hn:=hi.n5
 have e4:=qe (env:=dB p cs (aB m n R) (.tup (mpI m b)) (.tup (mpI n g)) o5 (some (.h L)) o7 (some (.d (.int k))) none none none none none none none) (S:=B++[.l fs]) (fi:=aE (iV 3)) (js:=[8]) (te:=jl) (f:=b) rfl (cX rfl) rfl (by lia) k1 k3
 have a4:=mX (L:=L) (λs=>rfl) hB hB (by lia) (sk (a:=iV 2) rfl e4 (c:=iV 4) rfl (e:=iV 8) rfl)
 generalize hfs2:fs++[D.tup [aB m n R,.tup (mpI m λj=>k*b j),.tup (mpI n g),.int k]]=fs2 at a4
 have hO2:∀ d∈fs2,Oth m n R b g d:=λd hd=>by
  rw[<-hfs2]at hd
  rcases qaM.mp hd with hd|hd
  ·exact hO d hd
  ·rw[qaj.mp hd];exact tN hi k1 k3
 have hf2:fs2.length=fs.length+1:=by rw[<-hfs2,qap];rfl
 obtain⟨r,B2,r0,r1,t2,e9⟩:=jt (a:=iV 0) (b:=iCB bE (aa (iV 4) ag)) (env:=dB p cs (aB m n R) (.tup (mpI m b)) (.tup (mpI n g)) o5 (some (.h L)) o7 (some (.d (.int k))) none none none none none none none) (st:=B) (u:=[.l fs2]) (m:=(n:Int)) rfl (bi (ac rfl rfl) (pv _ g)) hh (by lia) (by lia)
 obtain⟨s,rfl⟩:=qdA r0
 have hs:s<n:=by lia
 have hB2:B2.length=L:=by rw[t2.len,hB]
 have l5:lcI (.nm 0) aS fW [none,some (.d (.int (s:Int)))] ((qac m).map λi=>D.tup (mpI n (R i))) (B2++[.l fs2])=some ((qac m).map λi=>D.tup (mpI (n+1) (gP n (R i s) (R i))),B2++[.l fs2]):=
  iH (g:=λi=>D.tup (mpI n (R i))) (λi=>D.tup (mpI (n+1) (gP n (R i s) (R i)))) λi _=>mN (env:=[some (.d (.tup (mpI n (R i)))),some (.d (.int (s:Int)))]) (a:=iV 0) (x:=bm (aa (iOp dIx (iV 0) (iV 1)) ag)) (G:=D.int) (F:=R i) (y:=R i s) rfl rfl (sq (ai rfl rfl (ixT _ hs))) (by lia)
 have e5:iCB db (aa (aD (iLc 1 [9] (aE (iV 2)) (.nm 0) aS fW)) ag) (dB p cs (aB m n R) (.tup (mpI m b)) (.tup (mpI n g)) o5 (some (.h L)) o7 (some (.d (.int k))) (some (.d (.int (s:Int)))) none none none none none none) (B2++[.l fs2])=some (.d (aB m (n+1) λi=>gP n (R i s) (R i)),B2++[.l fs2]):=bi (ac (aK (bQ (cX rfl) (by rw[qai,qah];lia) l5)) rfl) rfl
 have g5:=mN (env:=dB p cs (aB m n R) (.tup (mpI m b)) (.tup (mpI n g)) o5 (some (.h L)) o7 (some (.d (.int k))) (some (.d (.int (s:Int)))) none none none none none none) (S:=B2++[.l fs2]) (a:=iV 4) (x:=bm (aa (iOp dIx (iV 4) (iV 9)) ag)) (G:=D.int) (F:=g) (y:=g s) rfl rfl (sq (ai rfl rfl (ixT _ hs))) (by lia)
 have a5:=mX (L:=L) (λs=>rfl) hB2 hB2 (by lia) (sk e5 (b:=iV 3) rfl g5 (e:=iC (.int 1)) rfl)
 generalize hfs3:fs2++[D.tup [aB m (n+1) λi=>gP n (R i s) (R i),.tup (mpI m b),.tup ((qac (n+1)).map λi=>D.int (gP n (g s) g i)),.int 1]]=fs3 at a5
 have hO3:∀ d∈fs3,Oth m n R b g d:=λd hd=>by
  rw[<-hfs3]at hd
  rcases qaM.mp hd with hd|hd
  ·exact hO2 d hd
  ·rw[qaj.mp hd];exact wo hi hs
 have hf3:fs3.length=fs.length+2:=by rw[<-hfs3,qap,hf2];rfl
 have hc:bD dNe (iV 2) (bm ag) (dB p cs (aB m n R) (.tup (mpI m b)) (.tup (mpI n g)) o5 (some (.h L)) o7 (some (.d (.int k))) (some (.d (.int (s:Int)))) none none none none none none) (B2++[.l fs3])=some (decide (0<m),B2++[.l fs3]):=bG rfl (y:=.d (.tup [])) rfl (zg _ m n R)
 by_cases hm0:0<m
 ·rw[decide_eq_true hm0]at hc
  obtain⟨fs',B',q10,q11,q12,q13,q14,q15,hO',t',e'⟩:=Bl (p:=p) (cs:=cs) (o5:=o5) (o7:=o7) (o9:=some (.d (.int (s:Int)))) (o10:=none) (o11:=none) (o12:=none) (o13:=none) (o14:=none) (o15:=none) (fs:=fs3) hi hB2 t2.hand hm0 k1 k3 (by lia) hO3
  exact⟨fs',B',hO',t2.trans t',ar a4 (ar (aC e9) (ar a5 (ar (ix hc e') rfl)))⟩
 ·rw[decide_eq_false hm0]at hc
  exact⟨fs3,B2,hO3,t2,ar a4 (ar (aC e9) (ar a5 (ar (dS hc rfl) rfl)))⟩
theorem B1 (hi:Ins m n R b g) (n1:1<=n) (hB:B.length=L) (hh:bZ B p) {l:List Nat} (hp:l.Perm (qac n)) (hf:fs.length<=20) (hO:∀ d∈fs,Oth m n R b g d):∃ fs' B',(∀ d∈fs',Oth m n R b g d)/\Stp p B B'/\je (dB p cs (aB m n R) (.tup (mpI m b)) (.tup (mpI n g)) (some (.d (.lst (l.map ce)))) (some (.h L)) none none none none none none none none none) (B++[.l fs])=some (.rt (.h L) (B'++[.l fs'])):=by
 have hm:=hi.m5
 have hn:=hi.n5
 obtain⟨hl,hlf,_⟩:=mD hp
 have hmem:∀ k∈l,k<n:=λk hk=>qaK.mp (hp.subset hk)
 have l7:lcI (.nm 0) aS fY [none,some (.d (.lst (l.map ce)))] ((qac m).map λi=>D.tup (mpI n (R i))) (B++[.l fs])=some ((qac m).map λi=>D.tup (mpI n λc=>R i (l.getD c 0)),B++[.l fs]):=
  iH (g:=λi=>D.tup (mpI n (R i))) (λi=>D.tup (mpI n λc=>R i (l.getD c 0))) λi _=>by
   have:=lL (env:=[some (.d (.tup (mpI n (R i)))),some (.d (.lst (l.map ce)))]) (S:=B++[.l fs]) (fi:=aE (iV 1)) (js:=[0]) (te:=jk) (T:=.tup (mpI n (R i))) (l:=l) (F:=λc=>D.int (R i c)) rfl (bN rfl) rfl (by lia) (λk hk=>ixT _ (hmem k hk))
   rw[hl]at this
   exact this
 have e7:iCB db (aa (aD (iLc 1 [5] (aE (iV 2)) (.nm 0) aS fY)) ag) (dB p cs (aB m n R) (.tup (mpI m b)) (.tup (mpI n g)) (some (.d (.lst (l.map ce)))) (some (.h L)) none none none none none none none none none) (B++[.l fs])=some (.d (aB m n λi c=>R i (l.getD c 0)),B++[.l fs]):=bi (ac (aK (bQ (cX rfl) (by rw[qai,qah];lia) l7)) rfl) rfl
 have g7:=lL (env:=dB p cs (aB m n R) (.tup (mpI m b)) (.tup (mpI n g)) (some (.d (.lst (l.map ce)))) (some (.h L)) (some (.d (aB m n λi c=>R i (l.getD c 0)))) none none none none none none none none) (S:=B++[.l fs]) (fi:=aE (iV 5)) (js:=[4]) (te:=jm) (T:=.tup (mpI n g)) (l:=l) (F:=λc=>D.int (g c)) rfl (bN rfl) rfl (by lia) (λk hk=>ixT _ (hmem k hk))
 rw[hl]at g7
 have a2:=mX (L:=L) (λs=>rfl) hB hB (by lia) (sk (a:=iV 7) rfl (b:=iV 3) rfl g7 (e:=iC (.int 1)) rfl)
 generalize hfs2:fs++[D.tup [aB m n λi c=>R i (l.getD c 0),.tup (mpI m b),.tup ((qac n).map λi=>D.int (g (l.getD i 0))),.int 1]]=fs2 at a2
 have hO2:∀ d∈fs2,Oth m n R b g d:=λd hd=>by
  rw[<-hfs2]at hd
  rcases qaM.mp hd with hd|hd
  ·exact hO d hd
  ·rw[qaj.mp hd];exact xm hi hp
 have hf2:fs2.length=fs.length+1:=by rw[<-hfs2,qap];rfl
 obtain⟨r,B2,r0,r1,t2,e8⟩:=jt (a:=iV 0) (b:=iC (.int 2)) (env:=dB p cs (aB m n R) (.tup (mpI m b)) (.tup (mpI n g)) (some (.d (.lst (l.map ce)))) (some (.h L)) (some (.d (aB m n λi c=>R i (l.getD c 0)))) none none none none none none none none) (st:=B) (u:=[.l fs2]) rfl rfl hh (by decide) (by decide)
 have hB2:B2.length=L:=by rw[t2.len,hB]
 have k1:1<=2+r:=by lia
 have k3:2+r<=3:=by lia
 have e3:=qe (env:=dB p cs (aB m n R) (.tup (mpI m b)) (.tup (mpI n g)) (some (.d (.lst (l.map ce)))) (some (.h L)) (some (.d (aB m n λi c=>R i (l.getD c 0)))) (some (.d (.int (2+r)))) none none none none none none none) (S:=B2++[.l fs2]) (fi:=aE (iV 4)) (js:=[8]) (te:=jh) (f:=g) rfl (cX rfl) rfl (by lia) k1 k3
 have a3:=mX (L:=L) (λs=>rfl) hB2 hB2 (by lia) (sk (a:=iV 2) rfl (b:=iV 3) rfl e3 (e:=iV 8) rfl)
 generalize hfs3:fs2++[D.tup [aB m n R,.tup (mpI m b),.tup (mpI n λj=>(2+r)*g j),.int (2+r)]]=fs3 at a3
 have hO3:∀ d∈fs3,Oth m n R b g d:=λd hd=>by
  rw[<-hfs3]at hd
  rcases qaM.mp hd with hd|hd
  ·exact hO2 d hd
  ·rw[qaj.mp hd];exact vW hi k1 k3
 have hf3:fs3.length=fs.length+2:=by rw[<-hfs3,qap,hf2];rfl
 obtain⟨fs',B',hO',t',e'⟩:=BM (p:=p) (cs:=cs) (o5:=some (.d (.lst (l.map ce)))) (o7:=some (.d (aB m n λi c=>R i (l.getD c 0)))) (fs:=fs3) hi n1 hB2 t2.hand k1 k3 (by lia) hO3
 exact⟨fs',B',hO',t2.trans t',ar (aC e7) (ar a2 (ar (aC (ai rfl e8 rfl)) (ar a3 e')))⟩
theorem vS {st:Sto} (hi:Ins m n R b g) (n1:1<=n) (h:bZ st p):∃ fs st',(∀ d∈fs,Oth m n R b g d)/\Stp p st st'/\iD [.h p,.d (aW m n R b g)] st=some (.d (.lst fs),st'):=by
 have hm:=hi.m5
 have hn:=hi.n5
 have un:aG (.tp [2,3,4]) (iV 1) [some (.h p),some (.d (aW m n R b g)),none,none,none,none,none,none,none,none,none,none,none,none,none,none] st=some (.nx (dB p (aW m n R b g) (aB m n R) (.tup (mpI m b)) (.tup (mpI n g)) none none none none none none none none none none none) st):=rfl
 generalize aW m n R b g=cs at *
 obtain⟨l,s1,hp,t1,e1⟩:=sF (k:=m) h (by lia)
 obtain⟨hl,hlf,_⟩:=mD hp
 have hmem:∀ k∈l,k<m:=λk hk=>qaK.mp (hp.subset hk)
 have c5:ay dy (aa (iV 0) (aa (iCB bE (aa (iV 2) ag)) ag)) (dB p cs (aB m n R) (.tup (mpI m b)) (.tup (mpI n g)) none none none none none none none none none none none) st=some (.d (.lst (l.map ce)),s1):=az (ac rfl (ac (bi (ac rfl rfl) (uY st)) rfl)) e1
 have r6:=lL (env:=dB p cs (aB m n R) (.tup (mpI m b)) (.tup (mpI n g)) (some (.d (.lst (l.map ce)))) none none none none none none none none none none) (S:=s1) (fi:=aE (iV 5)) (js:=[2]) (te:=fA) (T:=aB m n R) (l:=l) (F:=λc=>D.tup (mpI n (R c))) rfl (bN rfl) rfl (by lia) (λk hk=>ixR _ (hmem k hk))
 have b6:=lL (env:=dB p cs (aB m n R) (.tup (mpI m b)) (.tup (mpI n g)) (some (.d (.lst (l.map ce)))) none none none none none none none none none none) (S:=s1) (fi:=aE (iV 5)) (js:=[3]) (te:=fz) (T:=.tup (mpI m b)) (l:=l) (F:=λc=>D.int (b c)) rfl (bN rfl) rfl (by lia) (λk hk=>ixT _ (hmem k hk))
 rw[hl]at r6 b6
 have e6:=zX (ac (b:=ag) (sk r6 b6 (c:=iV 4) rfl (e:=iC (.int 1)) rfl) rfl) rfl (by show 1<=1000;decide)
 have n6:dH (cI (aa (bm (aa (iCB db (aa (aD (iLc 1 [2] (aE (iV 5)) (.nm 0) aS fA)) ag)) (aa (iCB db (aa (aD (iLc 1 [3] (aE (iV 5)) (.nm 0) aS fz)) ag)) (aa (iV 4) (aa (iC (.int 1)) ag))))) ag)) (dB p cs (aB m n R) (.tup (mpI m b)) (.tup (mpI n g)) (some (.d (.lst (l.map ce)))) none none none none none none none none none none) s1=some (.h s1.length,s1++[.l [iL m n (λi=>R (l.getD i 0)) (λi=>b (l.getD i 0)) g 1]]):=by
  simp only[dH,e6,qaq];rfl
 obtain⟨l2,s2,hp2,t2,e2⟩:=sF (k:=n) (t1.hand.app [.l [iL m n (λi=>R (l.getD i 0)) (λi=>b (l.getD i 0)) g 1]]) (by lia)
 obtain⟨B,rfl,tB⟩:=t2.unapp t1.hand.lt
 have c5b:ay dy (aa (iV 0) (aa (iCB bE (aa (iV 4) ag)) ag)) (dB p cs (aB m n R) (.tup (mpI m b)) (.tup (mpI n g)) (some (.d (.lst (l.map ce)))) (some (.h s1.length)) none none none none none none none none none) (s1++[.l [iL m n (λi=>R (l.getD i 0)) (λi=>b (l.getD i 0)) g 1]])=some (.d (.lst (l2.map ce)),B++[.l [iL m n (λi=>R (l.getD i 0)) (λi=>b (l.getD i 0)) g 1]]):=az (ac rfl (ac (bi (ac rfl rfl) (pv _ g)) rfl)) e2
 obtain⟨fs',B',hO',t',e'⟩:=B1 (p:=p) (cs:=cs) (L:=s1.length) (fs:=[iL m n (λi=>R (l.getD i 0)) (λi=>b (l.getD i 0)) g 1]) hi n1 tB.len tB.hand hp2 (by show 1<=20;decide) (λd hd=>by rw[qaj.mp hd];exact yo hi hp)
 have tt:=t1.trans (tB.trans t')
 refine⟨fs',B',hO',tt,?_⟩
 have hb:cY [some (.h p),some (.d cs),none,none,none,none,none,none,none,none,none,none,none,none,none,none] st=some (.rt (.h s1.length) (B'++[.l fs'])):=ar un (ar (aC c5) (ar (aC n6) (ar (aC c5b) e')))
 have hL:s1.length=st.length:=t1.len
 have hB':B'.length=st.length:=tt.len
 show iM 16 2 cY [.h p,.d cs] st=_
 simp only[iM,qat,qci,if_true]
 show (cY [some (.h p),some (.d cs),none,none,none,none,none,none,none,none,none,none,none,none,none,none] st).bind _=_
 rw[hb,qaa]
 show tm st.length (.h s1.length) (B'++[.l fs'])=_
 unfold tm
 dsimp only
 rw[if_neg (by lia),i9 (by lia),qaq,qev (by lia),<-hB',qcY]
end
end Own
section
set_option maxHeartbeats 1000000
namespace Own
open PySem L2
open Sx (Pb Tb Good Named Fe LV ZV piv lexP leastR leaveL sumN unit colV basis)
section
variable {m n:Nat}{R:Nat->Nat->Int}{b g:Nat->Int}
theorem xL {te:Ef}{d:Option W}{st:Sto} (hte:te=jT) (h:Inp m n R b g):∃ v u,Sx.Val m n R b g v/\SzV 4100 v/\te [some (.d (aW m n R b g))] st=some (.d (gnD v),st++u):=by
 subst hte
 obtain⟨x,M,_,hx⟩:=qP h
 obtain⟨v,hv,sv,ev⟩:=nh h M
 obtain⟨u,e⟩:=hx st
 have j0:dIx st (.d (aW m n R b g)) (.d (.int 0))=some (aB m n R):=rfl
 have j1:dIx st (.d (aW m n R b g)) (.d (.int 1))=some (.tup (mpI m b)):=rfl
 have j2:dIx st (.d (aW m n R b g)) (.d (.int 2))=some (.tup (mpI n g)):=rfl
 refine⟨v,u,hv,sv,?_⟩
 have ev':=ev (st++u)
 generalize aW m n R b g=cs at *
 exact az (ac rfl (ac (az (ac (ai rfl rfl j0) (ac (ai rfl rfl j1) (ac (ai rfl rfl j2) rfl))) e) rfl)) ev'
end
theorem AH (s:Sto) (x y:D):dIx s (.d (.lst [x,y])) (.d (.int 0))=some x:=rfl
theorem Dt (s:Sto) (x y:D):dIx s (.d (.lst [x,y])) (.d (.int 1))=some y:=rfl
section
variable {m n m' n':Nat}{R R':Nat->Nat->Int}{b g b' g':Nat->Int}{S ks c1 d1:D}{p:Nat}{s:Sto}{v w:Option (Int×Int)}{o5 o6 o7 o8 o9 o10 o11 o12:Option W}
theorem yd {d:D} (hO:Oth m n R b g d) (hv:Sx.Val m n R b g v) (sv:SzV 4100 v):∃ e1 q5 q6 q7 q8 q9 u,eH (.tp [5,6,7,8]) (.d d) [some (.d S),some (.d ks),some (.h p),some (.d c1),some (.d (.lst [gnD v,d1])),o5,o6,o7,o8,o9,o10,o11,o12]=some e1/\pz e1 s=some (.nx [some (.d S),some (.d ks),some (.h p),some (.d c1),some (.d (.lst [gnD v,d1])),q5,q6,q7,q8,q9,o10,o11,o12] (s++u)):=by
 obtain⟨m',n',R',b',g',k,hi,k1,k3,rfl,ha⟩:=hO
 obtain⟨x,M,_,hx⟩:=qP hi
 obtain⟨v',hv',sv',ev⟩:=nh hi M
 obtain⟨u,e⟩:=hx s
 have ef:=xI hi M (s++u)
 have al:=rM (st:=s++u) sv sv' (by decide) (by decide) k1 k3 (ha v v' hv hv')
 have ev':=ev (s++u)
 have tc:∀ (o9:Option W) (S':Sto),bm (aa (iV 5) (aa (iV 6) (aa (iV 7) ag))) [some (.d S),some (.d ks),some (.h p),some (.d c1),some (.d (.lst [gnD v,d1])),some (.d (aB m' n' R')),some (.d (.tup (mpI m' b'))),some (.d (.tup (mpI n' g'))),some (.d (.int k)),o9,o10,o11,o12] S'=some (.d (aW m' n' R' b' g'),S'):=λo9 S'=>oE (ac rfl (ac rfl (ac rfl rfl))) rfl (by show 3<=1000;decide)
 have un:eH (.tp [5,6,7,8]) (.d (iL m' n' R' b' g' k)) [some (.d S),some (.d ks),some (.h p),some (.d c1),some (.d (.lst [gnD v,d1])),o5,o6,o7,o8,o9,o10,o11,o12]=some [some (.d S),some (.d ks),some (.h p),some (.d c1),some (.d (.lst [gnD v,d1])),some (.d (aB m' n' R')),some (.d (.tup (mpI m' b'))),some (.d (.tup (mpI n' g'))),some (.d (.int k)),o9,o10,o11,o12]:=rfl
 generalize aW m' n' R' b' g'=cs at *
 generalize aB m' n' R'=rs at *
 generalize D.tup (mpI m' b')=bs at *
 generalize D.tup (mpI n' g')=gs at *
 refine⟨_,some (.d rs),some (.d bs),some (.d gs),some (.d (.int k)),some (.d x),u,un,?_⟩
 have c9:aG (.nm 9) (ay gr (aa (iV 5) (aa (iV 6) (aa (iV 7) ag)))) [some (.d S),some (.d ks),some (.h p),some (.d c1),some (.d (.lst [gnD v,d1])),some (.d rs),some (.d bs),some (.d gs),some (.d (.int k)),o9,o10,o11,o12] s=some (.nx [some (.d S),some (.d ks),some (.h p),some (.d c1),some (.d (.lst [gnD v,d1])),some (.d rs),some (.d bs),some (.d gs),some (.d (.int k)),some (.d x),o10,o11,o12] (s++u)):=aC (az rfl e)
 exact ar c9 (ar (dS (s:=s++u) (kP (k:=true) (qB (az (ac (ai rfl rfl (AH _ _ _)) (ac (az (ac (tc _ _) (ac rfl rfl)) ev') (ac rfl rfl))) al))) rfl) (dS (s:=s++u) (bG (az rfl ef) rfl rfl) rfl))
end
theorem pd {n l:Nat} (f:Nat->Int) (s:Sto) (hn:n<=100) (hl:1<=l) (hl2:l<=100):bO s (.d (.tup [.int 0])) (.d (.int (l:Int)))=some (.tup (mpI l λ_=>0)):=by
 show (if _ then some (D.tup (qaB (l:Int).toNat [D.int 0]).flatten) else none)=_
 rw[if_pos ⟨by simp,by show 1<=1000;decide,by lia,by lia⟩,qbA]
 congr 2
 clear hl hl2
 induction l with
 |zero=>rfl
 |succ l ih=>rw[nW,qft,qfE,ih];rfl
theorem pI (n l:Nat) (f h:Nat->Int):mpI n f++mpI l h=mpI (n+l) (Sx.cat n f h):=by
 apply qbg
 intro i
 by_cases q:i<n
 ·rw[qas (by rw[aU];exact q),cp q,cp (by lia)]
  unfold Sx.cat;rw[if_pos q]
 ·rw[qau (by rw[aU];lia),aU]
  by_cases q2:i<n+l
  ·rw[cp (by lia),cp q2]
   unfold Sx.cat;rw[if_neg q]
  ·rw[qaQ (by rw[aU];lia),qaQ (by rw[aU];lia)]
theorem xo (m k:Nat) (F G:Nat->D):(qac m).map F++(qac k).map G=(qac (m+k)).map λi=>if i<m then F i else G (i - m):=by
 apply qbg
 intro i
 rw[fQ]
 by_cases q:i<m
 ·rw[qas (by rw[qai,qah];exact q),fQ,if_pos q,if_pos (by lia),if_pos q]
 ·rw[qau (by rw[qai,qah];lia),fQ,qai,qah,if_neg q]
  by_cases q2:i<m+k
  ·rw[if_pos q2,if_pos (by lia)]
  ·rw[if_neg q2,if_neg (by lia)]
def dE (m n:Nat) (R S:Nat->Nat->Int) (i:Nat):Nat->Int:=if i<m then Sx.cat n (R i) (λ_=>0) else Sx.cat n (λ_=>0) (S (i - m))
section
variable {m n k l:Nat}{R S:Nat->Nat->Int}{b g c h:Nat->Int}
theorem yP:Sx.Side m n k l R S (dE m n R S) b g c h (Sx.cat m b c) (Sx.cat n g h):=by
 have l1:∀ {a:Nat}{x y:Nat->Int}{j:Nat},j<a->Sx.cat a x y j=x j:=λq=>if_pos q
 have l2:∀ {a:Nat}{x y:Nat->Int}{j:Nat},Sx.cat a x y (a+j)=y j:=λ{a x y j}=>by unfold Sx.cat;rw[if_neg (by lia),qcL]
 have r1:∀ {r:Nat},r<m->dE m n R S r=Sx.cat n (R r) λ_=>0:=λq=>if_pos q
 have r2:∀ {r:Nat},dE m n R S (m+r)=Sx.cat n (λ_=>0) (S r):=λ{r}=>by unfold dE;rw[if_neg (by lia),qcL]
 exact⟨λr j hr hj=>by rw[r1 hr,l1 hj],λr j hr _=>by rw[r1 hr,l2],λr j _ hj=>by rw[r2,l1 hj],λr j _ _=>by rw[r2,l2],λr hr=>l1 hr,λr _=>l2,λj hj=>l1 hj,λj _=>l2⟩
theorem pG {n l B:Nat}{x y:Nat->Int} (hx:∀ j,j<n->(x j).natAbs<=B) (hy:∀ j,j<l->(y j).natAbs<=B) {j:Nat} (hj:j<n+l):(Sx.cat n x y j).natAbs<=B:=by
 unfold Sx.cat
 split
 ·next q=>exact hx j q
 ·next q=>exact hy _ (by lia)
theorem yk (h1:Ins m n R b g) (h2:Ins k l S c h):Inp (m+k) (n+l) (dE m n R S) (Sx.cat m b c) (Sx.cat n g h):=by
 have a1:=h1.m5
 have a2:=h2.m5
 have a3:=h1.n5
 have a4:=h2.n5
 have i1:=h1.inp
 have i2:=h2.inp
 refine⟨by lia,by lia,λi j hi hj=>?_,λi hi=>⟨pG (λj hj=>(i1.b j hj).1) (λj hj=>(i2.b j hj).1) hi,?_⟩,λj hj=>pG i1.g i2.g hj⟩
 ·unfold dE
  split
  ·next q=>exact pG (λj hj=>i1.R i j q hj) (λj hj=>qb2 _) hj
  ·next q=>exact pG (λj hj=>qb2 _) (λj hj=>i2.R (i - m) j (by lia) hj) hj
 ·unfold Sx.cat
  split
  ·next q=>exact (i1.b i q).2
  ·next q=>exact (i2.b _ (by lia)).2
theorem wf {env:Ev}{s:Sto}{e1 e2:Ef} (h1:Ins m n R b g) (h2:Ins k l S c h) (n1:1<=n) (l1:1<=l) (v1:e1 env s=some (.d (aW m n R b g),s)) (v2:e2 env s=some (.d (aW k l S c h),s)) (j1 j2:List Nat) (w1:gQ 1 j1 env=[none,some (.d (aW k l S c h))]) (w2:gQ 1 j2 env=[none,some (.d (aW m n R b g))]) :
  iOp bu (aD (iLc 1 j1 (aE (iOp dIx e1 (iC (.int 0)))) (.nm 0) aS pM)) (aD (iLc 1 j2 (aE (iOp dIx e2 (iC (.int 0)))) (.nm 0) aS qv)) env s=some (.d (.lst ((qac (m+k)).map λi=>D.tup (mpI (n+l) (dE m n R S i)))),s):=by
 have a1:=h1.m5
 have a2:=h2.m5
 have a3:=h1.n5
 have a4:=h2.n5
 have f1:lcI (.nm 0) aS pM [none,some (.d (aW k l S c h))] ((qac m).map λi=>D.tup (mpI n (R i))) s=some ((qac m).map λi=>D.tup (mpI (n+l) (Sx.cat n (R i) λ_=>0)),s):=
  iH (g:=λi=>D.tup (mpI n (R i))) (λi=>D.tup (mpI (n+l) (Sx.cat n (R i) λ_=>0))) λi _=>by
   rw[<-pI]
   have j2:dIx s (.d (aW k l S c h)) (.d (.int 2))=some (.tup (mpI l h)):=rfl
   generalize aW k l S c h=cs at *
   exact ai rfl (ai rfl (bi (ac (ai rfl rfl j2) rfl) (pv _ h)) (pd (n:=1) h s (by decide) l1 (by lia))) (i8 _ (by rw[aU,aU];lia))
 have f2:lcI (.nm 0) aS qv [none,some (.d (aW m n R b g))] ((qac k).map λi=>D.tup (mpI l (S i))) s=some ((qac k).map λi=>D.tup (mpI (n+l) (Sx.cat n (λ_=>0) (S i))),s):=
  iH (g:=λi=>D.tup (mpI l (S i))) (λi=>D.tup (mpI (n+l) (Sx.cat n (λ_=>0) (S i)))) λi _=>by
   rw[<-pI]
   have j2:dIx s (.d (aW m n R b g)) (.d (.int 2))=some (.tup (mpI n g)):=rfl
   generalize aW m n R b g=cs at *
   exact ai (ai rfl (bi (ac (ai rfl rfl j2) rfl) (pv _ g)) (pd (n:=1) h s (by decide) n1 (by lia))) rfl (i8 _ (by rw[aU,aU];lia))
 rw[<-w1]at f1
 rw[<-w2]at f2
 have er:((qac (m+k)).map λi=>D.tup (mpI (n+l) (dE m n R S i)))=((qac m).map λi=>D.tup (mpI (n+l) (Sx.cat n (R i) λ_=>0)))++(qac k).map λi=>D.tup (mpI (n+l) (Sx.cat n (λ_=>0) (S i))):=by
  rw[xo]
  refine qb7 λi _=>?_
  unfold dE
  split<;>rfl
 rw[er]
 exact ai (aK (bQ (cX (ai v1 rfl (show dIx s (.d (aW m n R b g)) (.d (.int 0))=some (aB m n R) from rfl))) (by rw[qai,qah];lia) f1)) (aK (bQ (cX (ai v2 rfl (show dIx s (.d (aW k l S c h)) (.d (.int 0))=some (aB k l S) from rfl))) (by rw[qai,qah];lia) f2)) (lI _ (by rw[qai,qah,qai,qah];lia))
theorem yt {Sc ks:D}{p:Nat}{s:Sto}{v w:Option (Int×Int)}{o5 o6 o7 o8 o9 o10 o11 o12:Option W} (h1:Ins m n R b g) (h2:Ins k l S c h) (n1:1<=n) (l1:1<=l) (hv:Sx.Val m n R b g v) (sv:SzV 4100 v) (hw:Sx.Val k l S c h w) (sw:SzV 4100 w):∃ q5 q10 q11 q12 u,uT [some (.d Sc),some (.d ks),some (.h p),some (.d (.lst [aW m n R b g,aW k l S c h])),some (.d (.lst [gnD v,gnD w])),o5,o6,o7,o8,o9,o10,o11,o12] s=some (.nx [some (.d Sc),some (.d ks),some (.h p),some (.d (.lst [aW m n R b g,aW k l S c h])),some (.d (.lst [gnD v,gnD w])),q5,o6,o7,o8,o9,q10,q11,q12] (s++u)):=by
 have a1:=h1.m5
 have a2:=h2.m5
 have a3:=h1.n5
 have a4:=h2.n5
 have hi:=yk h1 h2
 obtain⟨x,M,_,hx⟩:=qP hi
 obtain⟨z,hz,sz,ez⟩:=nh hi M
 obtain⟨u,e⟩:=hx s
 obtain⟨ss,es⟩:=zd (st:=s) sv sw
 have al:=rM (st:=s++u) ss sz (by decide) (by decide) (by decide) (by decide) (Sx.side_alk yP hv hw hz)
 have ez':=ez (s++u)
 have rw5:=wf (env:=[some (.d Sc),some (.d ks),some (.h p),some (.d (.lst [aW m n R b g,aW k l S c h])),some (.d (.lst [gnD v,gnD w])),o5,o6,o7,o8,o9,some (.d (aW m n R b g)),some (.d (aW k l S c h)),o12]) (s:=s) (e1:=iV 10) (e2:=iV 11) h1 h2 n1 l1 rfl rfl [11] [10] rfl rfl
 have un:aG (.tp [10,11]) (iV 3) [some (.d Sc),some (.d ks),some (.h p),some (.d (.lst [aW m n R b g,aW k l S c h])),some (.d (.lst [gnD v,gnD w])),o5,o6,o7,o8,o9,o10,o11,o12] s=some (.nx [some (.d Sc),some (.d ks),some (.h p),some (.d (.lst [aW m n R b g,aW k l S c h])),some (.d (.lst [gnD v,gnD w])),o5,o6,o7,o8,o9,some (.d (aW m n R b g)),some (.d (aW k l S c h)),o12] s):=rfl
 have i1:∀ s,dIx s (.d (aW m n R b g)) (.d (.int 1))=some (.tup (mpI m b)):=λs=>rfl
 have i2:∀ s,dIx s (.d (aW m n R b g)) (.d (.int 2))=some (.tup (mpI n g)):=λs=>rfl
 have i3:∀ s,dIx s (.d (aW k l S c h)) (.d (.int 1))=some (.tup (mpI k c)):=λs=>rfl
 have i4:∀ s,dIx s (.d (aW k l S c h)) (.d (.int 2))=some (.tup (mpI l h)):=λs=>rfl
 have j0:∀ s,dIx s (.d (aW (m+k) (n+l) (dE m n R S) (Sx.cat m b c) (Sx.cat n g h))) (.d (.int 0))=some (aB (m+k) (n+l) (dE m n R S)):=λs=>rfl
 have j1:∀ s,dIx s (.d (aW (m+k) (n+l) (dE m n R S) (Sx.cat m b c) (Sx.cat n g h))) (.d (.int 1))=some (.tup (mpI (m+k) (Sx.cat m b c))):=λs=>rfl
 have j2:∀ s,dIx s (.d (aW (m+k) (n+l) (dE m n R S) (Sx.cat m b c) (Sx.cat n g h))) (.d (.int 2))=some (.tup (mpI (n+l) (Sx.cat n g h))):=λs=>rfl
 have b1:∀ s,bu s (.d (.tup (mpI m b))) (.d (.tup (mpI k c)))=some (.tup (mpI (m+k) (Sx.cat m b c))):=λs=>by rw[i8 s (by rw[aU,aU];lia),pI]
 have g1:∀ s,bu s (.d (.tup (mpI n g))) (.d (.tup (mpI l h)))=some (.tup (mpI (n+l) (Sx.cat n g h))):=λs=>by rw[i8 s (by rw[aU,aU];lia),pI]
 have c12:ly [W.d (aB (m+k) (n+l) (dE m n R S)),.d (.tup (mpI (m+k) (Sx.cat m b c))),.d (.tup (mpI (n+l) (Sx.cat n g h)))]=some [aB (m+k) (n+l) (dE m n R S),.tup (mpI (m+k) (Sx.cat m b c)),.tup (mpI (n+l) (Sx.cat n g h))]:=rfl
 have ed:D.tup [aB (m+k) (n+l) (dE m n R S),.tup (mpI (m+k) (Sx.cat m b c)),.tup (mpI (n+l) (Sx.cat n g h))]=aW (m+k) (n+l) (dE m n R S) (Sx.cat m b c) (Sx.cat n g h):=rfl
 have hr:aB (m+k) (n+l) (dE m n R S)=.tup ((qac (m+k)).map λi=>D.tup (mpI (n+l) (dE m n R S i))):=rfl
 generalize aW m n R b g=cs1 at *
 generalize aW k l S c h=cs2 at *
 generalize ((qac (m+k)).map λi=>D.tup (mpI (n+l) (dE m n R S i)))=rl at *
 have s12:aG (.nm 12) (bm (aa (iCB db (aa (iV 5) ag)) (aa (iOp bu (iOp dIx (iV 10) (iC (.int 1))) (iOp dIx (iV 11) (iC (.int 1)))) (aa (iOp bu (iOp dIx (iV 10) (iC (.int 2))) (iOp dIx (iV 11) (iC (.int 2)))) ag)))) [some (.d Sc),some (.d ks),some (.h p),some (.d (.lst [cs1,cs2])),some (.d (.lst [gnD v,gnD w])),some (.d (.lst rl)),o6,o7,o8,o9,some (.d cs1),some (.d cs2),o12] s=some (.nx [some (.d Sc),some (.d ks),some (.h p),some (.d (.lst [cs1,cs2])),some (.d (.lst [gnD v,gnD w])),some (.d (.lst rl)),o6,o7,o8,o9,some (.d cs1),some (.d cs2),some (.d (aW (m+k) (n+l) (dE m n R S) (Sx.cat m b c) (Sx.cat n g h)))] s):=by
  rw[<-ed]
  exact aC (oE (ac (bi (ac (x:=.d (.lst rl)) rfl rfl) (by rw[hr];rfl)) (ac (ai (ai rfl rfl (i1 _)) (ai rfl rfl (i3 _)) (b1 _)) (ac (ai (ai rfl rfl (i2 _)) (ai rfl rfl (i4 _)) (g1 _)) rfl))) c12 (by show 3<=1000;decide))
 generalize aW (m+k) (n+l) (dE m n R S) (Sx.cat m b c) (Sx.cat n g h)=cb at *
 refine⟨_,_,_,_,u,ar un (ar (aC rw5) (ar s12 (dS (s:=s++u) (kP (k:=true) (qB (az (ac (az (ac (ai rfl rfl (AH _ _ _)) (ac (ai rfl rfl (Dt _ _ _)) rfl)) es) (ac (az (ac rfl (ac (az (ac (ai rfl rfl (j0 _)) (ac (ai rfl rfl (j1 _)) (ac (ai rfl rfl (j2 _)) rfl))) e) rfl)) ez') (ac rfl rfl))) al))) rfl)))⟩
end
theorem yA {ns:List Int}{i:Nat}{s:Sto}{o2 o3 o4 o5 o6 o7 o8 o9 o10 o11 o12:Option W} (hi:i<=1000):∃ q2 q3 q4 q5 q6 q7 q8 q9 q10 q11 q12 s',qq [some (.d (.scr ns)),some (.d (.int (i:Int))),o2,o3,o4,o5,o6,o7,o8,o9,o10,o11,o12] s=some (.nx [some (.d (.scr ns)),some (.d (.int (i:Int))),q2,q3,q4,q5,q6,q7,q8,q9,q10,q11,q12] s'):=by
 obtain⟨x,y,x0,e1⟩:=AS (st:=s) (ns:=ns) (k:=i) hi
 have h1:bZ (s++[.l [.int x,.int y,.int 0]]) s.length:=⟨x,y,0,x0,by rw[qau (qan _),qbU];rfl⟩
 generalize s++[C.l [.int x,.int y,.int 0]]=s1 at *
 generalize s.length=p at *
 obtain⟨m,n,R,b,g,s2,n1,hA,t2,e2⟩:=vf h1
 obtain⟨k,l,S,c,h,s3,l1,hB,t3,e3⟩:=vf t2.hand
 obtain⟨v,u4,hv,sv,e4⟩:=xL (st:=s3) (te:=jT) (d:=none) rfl hA.inp
 obtain⟨w,u5,hw,sw,e5⟩:=xL (st:=s3++u4) (te:=jT) (d:=none) rfl hB.inp
 have h5:bZ ((s3++u4)++u5) p:=(t3.hand.app u4).app u5
 obtain⟨fs,s6,hO,t6,e6⟩:=vS hA n1 h5
 have sd:=λ{s:Sto}{o5 o6 o7 o8 o9 o10 o11 o12:Option W}=>yt (Sc:=.scr ns) (ks:=.int (i:Int)) (p:=p) (s:=s) (o5:=o5) (o6:=o6) (o7:=o7) (o8:=o8) (o9:=o9) (o10:=o10) (o11:=o11) (o12:=o12) hA hB n1 l1 hv sv hw sw
 have lc:lcI (.nm 0) aS jT [none] [aW m n R b g,aW k l S c h] s3=some ([gnD v,gnD w],(s3++u4)++u5):=by
  simp only[lcI,show ∀ d:D,eH (.nm 0) (.d d) [none]=some [some (.d d)] from λ_=>rfl,show ∀ (e:Ev) (s:Sto),aS e s=some (true,s) from λ_ _=>rfl,qaa,if_true,e4,e5,show ∀ d:D,ly [W.d d]=some [d] from λ_=>rfl,qaq,qcT]
 generalize aW m n R b g=c1 at *
 generalize aW k l S c h=c2 at *
 obtain⟨env',s7,e7,⟨q5,q6,q7,q8,q9,rfl⟩,h7⟩:=fL (g:=.tp [5,6,7,8]) (body:=pz) (ds:=fs)
  (λj env s=>(∃ q5 q6 q7 q8 q9,env=[some (.d (.scr ns)),some (.d (.int (i:Int))),some (.h p),some (.d (.lst [c1,c2])),some (.d (.lst [gnD v,gnD w])),q5,q6,q7,q8,q9,o10,o11,o12])/\True)
  (env:=[some (.d (.scr ns)),some (.d (.int (i:Int))),some (.h p),some (.d (.lst [c1,c2])),some (.d (.lst [gnD v,gnD w])),o5,o6,o7,o8,o9,o10,o11,o12]) (st:=s6) ⟨⟨_,_,_,_,_,rfl⟩,trivial⟩ (λj d env s hd ⟨⟨q5,q6,q7,q8,q9,e0⟩,_⟩=>by
   subst e0
   obtain⟨ea,r5,r6,r7,r8,r9,u,a1,a2⟩:=yd (S:=.scr ns) (ks:=.int (i:Int)) (p:=p) (c1:=.lst [c1,c2]) (d1:=gnD w) (s:=s) (o5:=q5) (o6:=q6) (o7:=q7) (o8:=q8) (o9:=q9) (o10:=o10) (o11:=o11) (o12:=o12) (hO d (qbF hd)) hv sv
   exact⟨_,_,_,a1,.inl a2,⟨_,_,_,_,_,rfl⟩,trivial⟩)
 obtain⟨z5,z10,z11,z12,u8,e8⟩:=sd (s:=s7) (o5:=q5) (o6:=q6) (o7:=q7) (o8:=q8) (o9:=q9) (o10:=o10) (o11:=o11) (o12:=o12)
 have n3:aD (cI (aa (ay eB (aa (iV 2) ag)) (aa (ay eB (aa (iV 2) ag)) ag))) [some (.d (.scr ns)),some (.d (.int (i:Int))),some (.h p),o3,o4,o5,o6,o7,o8,o9,o10,o11,o12] s1=some (.d (.lst [c1,c2]),s3):=aK (zX (ac (az rfl e2) (ac (az rfl e3) rfl)) rfl (by show 2<=1000;decide))
 have n4:aD (iLc 1 [] (aE (iV 3)) (.nm 0) aS jT) [some (.d (.scr ns)),some (.d (.int (i:Int))),some (.h p),some (.d (.lst [c1,c2])),o4,o5,o6,o7,o8,o9,o10,o11,o12] s3=some (.d (.lst [gnD v,gnD w]),(s3++u4)++u5):=aK (bQ (bN rfl) (by show 2<=1000000;decide) lc)
 exact⟨_,_,_,_,_,_,_,_,_,_,_,_,ar (aC (az rfl e1)) (ar (aC n3) (ar (aC n4) (ar (dz (bN (az (ac rfl (ac (ai rfl rfl (AH _ _ _)) rfl)) e6)) e7) e8)))⟩
theorem xR (ns:List Int) (hl:ns.length<=63):∃ st,rJ [.d (.scr ns)] []=some (.d (.bl true),st):=by
 obtain⟨m,hm,em⟩:∃ m:Nat,m<=9/\∀ s,cH (aa (iOp bu (iC (.int 1)) (iCB yI (aa (iC (.int 6)) (aa (iCB bE (aa (iV 0) ag)) ag)))) ag) [some (.d (.scr ns)),none,none,none,none,none,none,none,none,none,none,none,none] s=some (cV 0 m,s):=by
  have hlen:∀ s,bE s [.d (.scr ns)]=some (.int (((ns.map D.int).length:Nat):Int)):=λs=>rfl
  have hmin:∃ z:Int,(0<=z/\z<=6)/\∀ s,yI s [.d (.int 6),.d (.int (((ns.map D.int).length:Nat):Int))]=some (.int z):=by
   rw[qai]
   refine⟨if ((ns.length:Nat):Int)<6 then ((ns.length:Nat):Int) else 6,by split<;>lia,λs=>?_⟩
   rfl
  obtain⟨z,hz,ez⟩:=hmin
  exact⟨(1+z).toNat,by lia,λs=>lD (ai rfl (bi (ac rfl (ac (bi (ac rfl rfl) (hlen s)) rfl)) (ez s)) rfl) (by lia) (by lia) rfl⟩
 obtain⟨env',s2,e2,o1,o2,o3,o4,o5,o6,o7,o8,o9,o10,o11,o12,rfl⟩:=fL (g:=.nm 1) (body:=qq) (ds:=cV 0 m)
  (λi env s=>∃ o1 o2 o3 o4 o5 o6 o7 o8 o9 o10 o11 o12,env=[some (.d (.scr ns)),o1,o2,o3,o4,o5,o6,o7,o8,o9,o10,o11,o12])
  (env:=[some (.d (.scr ns)),none,none,none,none,none,none,none,none,none,none,none,none]) (st:=[]) ⟨_,_,_,_,_,_,_,_,_,_,_,_,rfl⟩ (λi d env s hd ⟨o1,o2,o3,o4,o5,o6,o7,o8,o9,o10,o11,o12,e0⟩=>by
   subst e0
   obtain⟨hi,rfl⟩:=lx hd
   have ei:(0:Int)+((i:Nat):Int)=((i:Nat):Int):=by lia
   obtain⟨q2,q3,q4,q5,q6,q7,q8,q9,q10,q11,q12,s',e⟩:=yA (ns:=ns) (i:=i) (s:=s) (o2:=o2) (o3:=o3) (o4:=o4) (o5:=o5) (o6:=o6) (o7:=o7) (o8:=o8) (o9:=o9) (o10:=o10) (o11:=o11) (o12:=o12) (by lia)
   refine⟨[some (.d (.scr ns)),some (.d (.int (0+((i:Nat):Int)))),o2,o3,o4,o5,o6,o7,o8,o9,o10,o11,o12],[some (.d (.scr ns)),some (.d (.int (i:Int))),q2,q3,q4,q5,q6,q7,q8,q9,q10,q11,q12],s',rfl,.inl ?_,⟨_,_,_,_,_,_,_,_,_,_,_,_,rfl⟩⟩
   rw[ei];exact e)
 exact⟨_,lb (n:=13) (k:=1) (b:=uI) rfl (ar (dz (em []) e2) rfl)⟩
end Own
end
namespace Own
open PySem L2
theorem oB {us:List Value} (h:us.length=1):∃ a0,us=[a0]:=match us,h with|[a0],_=>⟨a0,rfl⟩
theorem lh {us:List Value} (h:us.length=2):∃ a0 a1,us=[a0,a1]:=match us,h with|[a0,a1],_=>⟨a0,a1,rfl⟩
theorem wg {us:List Value} (h:us.length=3):∃ a0 a1 a2,us=[a0,a1,a2]:=match us,h with|[a0,a1,a2],_=>⟨a0,a1,a2,rfl⟩
theorem xD {us:List Value} (h:us.length=4):∃ a0 a1 a2 a3,us=[a0,a1,a2,a3]:=match us,h with|[a0,a1,a2,a3],_=>⟨a0,a1,a2,a3,rfl⟩
theorem Dv {us:List Value} (h:us.length=6):∃ a0 a1 a2 a3 a4 a5,us=[a0,a1,a2,a3,a4,a5]:=match us,h with|[a0,a1,a2,a3,a4,a5],_=>⟨a0,a1,a2,a3,a4,a5,rfl⟩
theorem txt_mk {K:qad}{h:Heap}{mg:Str->Option Value} (X:K.In h) (G:h.Ns qaw mg)
  {f0:Addr}{od0 an0:Option Addr}{sl0:Array (Option Value)}{oc0 kV0 dc0 pm0 cd0 ct0:Value}
  (a0:qaA K qaw "is_whole" = some (some (.ref f0))) (l0:K.lookup f0=some ⟨oc0,od0,.func (qaJ "is_whole" "is_whole" (aT d7) (aH d7) (ah d7) .none kV0 dc0 pm0 an0 cd0 ct0),sl0⟩) (c0:qaD K cd0 "is_whole" = true) (k0:qax K (.ref f0)=true)
  {f1:Addr}{od1 an1:Option Addr}{sl1:Array (Option Value)}{oc1 kV1 dc1 pm1 cd1 ct1:Value}
  (a1:qaA K qaw "are_amounts" = some (some (.ref f1))) (l1:K.lookup f1=some ⟨oc1,od1,.func (qaJ "are_amounts" "are_amounts" (aT ci) (aH ci) (ah ci) .none kV1 dc1 pm1 an1 cd1 ct1),sl1⟩) (c1:qaD K cd1 "are_amounts" = true) (k1:qax K (.ref f1)=true)
  {f2:Addr}{od2 an2:Option Addr}{sl2:Array (Option Value)}{oc2 kV2 dc2 pm2 cd2 ct2:Value}
  (a2:qaA K qaw "greatest_part" = some (some (.ref f2))) (l2:K.lookup f2=some ⟨oc2,od2,.func (qaJ "greatest_part" "greatest_part" (aT cc) (aH cc) (ah cc) .none kV2 dc2 pm2 an2 cd2 ct2),sl2⟩) (c2:qaD K cd2 "greatest_part" = true) (k2:qax K (.ref f2)=true)
  {f3:Addr}{od3 an3:Option Addr}{sl3:Array (Option Value)}{oc3 kV3 dc3 pm3 cd3 ct3:Value}
  (a3:qaA K qaw "lowered" = some (some (.ref f3))) (l3:K.lookup f3=some ⟨oc3,od3,.func (qaJ "lowered" "lowered" (aT eA) (aH eA) (ah eA) .none kV3 dc3 pm3 an3 cd3 ct3),sl3⟩) (c3:qaD K cd3 "lowered" = true) (k3:qax K (.ref f3)=true)
  {f4:Addr}{od4 an4:Option Addr}{sl4:Array (Option Value)}{oc4 kV4 dc4 pm4 cd4 ct4:Value}
  (a4:qaA K qaw "products_together" = some (some (.ref f4))) (l4:K.lookup f4=some ⟨oc4,od4,.func (qaJ "products_together" "products_together" (aT br) (aH br) (ah br) .none kV4 dc4 pm4 an4 cd4 ct4),sl4⟩) (c4:qaD K cd4 "products_together" = true) (k4:qax K (.ref f4)=true)
  {f5:Addr}{od5 an5:Option Addr}{sl5:Array (Option Value)}{oc5 kV5 dc5 pm5 cd5 ct5:Value}
  {ca_Table:Addr} (cm_Table:qaA K qaw "Table" = some (some (.ref ca_Table)))
  (a5:qbf K (.ref ca_Table) "__init__" = some (some (.ref f5))) (l5:K.lookup f5=some ⟨oc5,od5,.func (qaJ "__init__" "Table.__init__" (aT cz) (aH cz) (ah cz) .none kV5 dc5 pm5 an5 cd5 ct5),sl5⟩) (c5:qaD K cd5 "Table.__init__" = true) (k5:qax K (.ref f5)=true)
  {f6:Addr}{od6 an6:Option Addr}{sl6:Array (Option Value)}{oc6 kV6 dc6 pm6 cd6 ct6:Value}
  (a6:qaA K qaw "least_ratio" = some (some (.ref f6))) (l6:K.lookup f6=some ⟨oc6,od6,.func (qaJ "least_ratio" "least_ratio" (aT cE) (aH cE) (ah cE) .none kV6 dc6 pm6 an6 cd6 ct6),sl6⟩) (c6:qaD K cd6 "least_ratio" = true) (k6:qax K (.ref f6)=true)
  {f7:Addr}{od7 an7:Option Addr}{sl7:Array (Option Value)}{oc7 kV7 dc7 pm7 cd7 ct7:Value}
  (a7:qaA K qaw "weighed" = some (some (.ref f7))) (l7:K.lookup f7=some ⟨oc7,od7,.func (qaJ "weighed" "weighed" (aT fv) (aH fv) (ah fv) .none kV7 dc7 pm7 an7 cd7 ct7),sl7⟩) (c7:qaD K cd7 "weighed" = true) (k7:qax K (.ref f7)=true)
  {f8:Addr}{od8 an8:Option Addr}{sl8:Array (Option Value)}{oc8 kV8 dc8 pm8 cd8 ct8:Value}
  (a8:qaA K qaw "numbers_by" = some (some (.ref f8))) (l8:K.lookup f8=some ⟨oc8,od8,.func (qaJ "numbers_by" "numbers_by" (aT bX) (aH bX) (ah bX) .none kV8 dc8 pm8 an8 cd8 ct8),sl8⟩) (c8:qaD K cd8 "numbers_by" = true) (k8:qax K (.ref f8)=true)
  {f9:Addr}{od9 an9:Option Addr}{sl9:Array (Option Value)}{oc9 kV9 dc9 pm9 cd9 ct9:Value}
  (a9:qaA K qaw "leaving" = some (some (.ref f9))) (l9:K.lookup f9=some ⟨oc9,od9,.func (qaJ "leaving" "leaving" (aT dq) (aH dq) (ah dq) .none kV9 dc9 pm9 an9 cd9 ct9),sl9⟩) (c9:qaD K cd9 "leaving" = true) (k9:qax K (.ref f9)=true)
  {f10:Addr}{od10 an10:Option Addr}{sl10:Array (Option Value)}{oc10 kV10 dc10 pm10 cd10 ct10:Value}
  (a10:qaA K qaw "gains_more" = some (some (.ref f10))) (l10:K.lookup f10=some ⟨oc10,od10,.func (qaJ "gains_more" "gains_more" (aT cN) (aH cN) (ah cN) .none kV10 dc10 pm10 an10 cd10 ct10),sl10⟩) (c10:qaD K cd10 "gains_more" = true) (k10:qax K (.ref f10)=true)
  {f11:Addr}{od11 an11:Option Addr}{sl11:Array (Option Value)}{oc11 kV11 dc11 pm11 cd11 ct11:Value}
  (a11:qaA K qaw "best_step" = some (some (.ref f11))) (l11:K.lookup f11=some ⟨oc11,od11,.func (qaJ "best_step" "best_step" (aT de) (aH de) (ah de) .none kV11 dc11 pm11 an11 cd11 ct11),sl11⟩) (c11:qaD K cd11 "best_step" = true) (k11:qax K (.ref f11)=true)
  {f12:Addr}{od12 an12:Option Addr}{sl12:Array (Option Value)}{oc12 kV12 dc12 pm12 cd12 ct12:Value}
  (a12:qaA K qaw "swept" = some (some (.ref f12))) (l12:K.lookup f12=some ⟨oc12,od12,.func (qaJ "swept" "swept" (aT ie) (aH ie) (ah ie) .none kV12 dc12 pm12 an12 cd12 ct12),sl12⟩) (c12:qaD K cd12 "swept" = true) (k12:qax K (.ref f12)=true)
  {f13:Addr}{od13 an13:Option Addr}{sl13:Array (Option Value)}{oc13 kV13 dc13 pm13 cd13 ct13:Value}
  (a13:qaA K qaw "exchange" = some (some (.ref f13))) (l13:K.lookup f13=some ⟨oc13,od13,.func (qaJ "exchange" "exchange" (aT di) (aH di) (ah di) .none kV13 dc13 pm13 an13 cd13 ct13),sl13⟩) (c13:qaD K cd13 "exchange" = true) (k13:qax K (.ref f13)=true)
  {f14:Addr}{od14 an14:Option Addr}{sl14:Array (Option Value)}{oc14 kV14 dc14 pm14 cd14 ct14:Value}
  (a14:qaA K qaw "way_of" = some (some (.ref f14))) (l14:K.lookup f14=some ⟨oc14,od14,.func (qaJ "way_of" "way_of" (aT gD) (aH gD) (ah gD) .none kV14 dc14 pm14 an14 cd14 ct14),sl14⟩) (c14:qaD K cd14 "way_of" = true) (k14:qax K (.ref f14)=true)
  {f15:Addr}{od15 an15:Option Addr}{sl15:Array (Option Value)}{oc15 kV15 dc15 pm15 cd15 ct15:Value}
  (a15:qaA K qaw "amounts_of" = some (some (.ref f15))) (l15:K.lookup f15=some ⟨oc15,od15,.func (qaJ "amounts_of" "amounts_of" (aT cP) (aH cP) (ah cP) .none kV15 dc15 pm15 an15 cd15 ct15),sl15⟩) (c15:qaD K cd15 "amounts_of" = true) (k15:qax K (.ref f15)=true)
  {f16:Addr}{od16 an16:Option Addr}{sl16:Array (Option Value)}{oc16 kV16 dc16 pm16 cd16 ct16:Value}
  (a16:qaA K qaw "prices_of" = some (some (.ref f16))) (l16:K.lookup f16=some ⟨oc16,od16,.func (qaJ "prices_of" "prices_of" (aT dg) (aH dg) (ah dg) .none kV16 dc16 pm16 an16 cd16 ct16),sl16⟩) (c16:qaD K cd16 "prices_of" = true) (k16:qax K (.ref f16)=true)
  {f17:Addr}{od17 an17:Option Addr}{sl17:Array (Option Value)}{oc17 kV17 dc17 pm17 cd17 ct17:Value}
  (a17:qaA K qaw "found_most" = some (some (.ref f17))) (l17:K.lookup f17=some ⟨oc17,od17,.func (qaJ "found_most" "found_most" (aT cf) (aH cf) (ah cf) .none kV17 dc17 pm17 an17 cd17 ct17),sl17⟩) (c17:qaD K cd17 "found_most" = true) (k17:qax K (.ref f17)=true)
  {f18:Addr}{od18 an18:Option Addr}{sl18:Array (Option Value)}{oc18 kV18 dc18 pm18 cd18 ct18:Value}
  (a18:qaA K qaw "most_of" = some (some (.ref f18))) (l18:K.lookup f18=some ⟨oc18,od18,.func (qaJ "most_of" "most_of" (aT ft) (aH ft) (ah ft) .none kV18 dc18 pm18 an18 cd18 ct18),sl18⟩) (c18:qaD K cd18 "most_of" = true) (k18:qax K (.ref f18)=true)
  {f19:Addr}{od19 an19:Option Addr}{sl19:Array (Option Value)}{oc19 kV19 dc19 pm19 cd19 ct19:Value}
  (a19:qaA K qaw "column_of" = some (some (.ref f19))) (l19:K.lookup f19=some ⟨oc19,od19,.func (qaJ "column_of" "column_of" (aT cK) (aH cK) (ah cK) .none kV19 dc19 pm19 an19 cd19 ct19),sl19⟩) (c19:qaD K cd19 "column_of" = true) (k19:qax K (.ref f19)=true)
  {f20:Addr}{od20 an20:Option Addr}{sl20:Array (Option Value)}{oc20 kV20 dc20 pm20 cd20 ct20:Value}
  (a20:qaA K qaw "within_bounds" = some (some (.ref f20))) (l20:K.lookup f20=some ⟨oc20,od20,.func (qaJ "within_bounds" "within_bounds" (aT bR) (aH bR) (ah bR) .none kV20 dc20 pm20 an20 cd20 ct20),sl20⟩) (c20:qaD K cd20 "within_bounds" = true) (k20:qax K (.ref f20)=true)
  {f21:Addr}{od21 an21:Option Addr}{sl21:Array (Option Value)}{oc21 kV21 dc21 pm21 cd21 ct21:Value}
  (a21:qaA K qaw "cover_gains" = some (some (.ref f21))) (l21:K.lookup f21=some ⟨oc21,od21,.func (qaJ "cover_gains" "cover_gains" (aT cm) (aH cm) (ah cm) .none kV21 dc21 pm21 an21 cd21 ct21),sl21⟩) (c21:qaD K cd21 "cover_gains" = true) (k21:qax K (.ref f21)=true)
  {f22:Addr}{od22 an22:Option Addr}{sl22:Array (Option Value)}{oc22 kV22 dc22 pm22 cd22 ct22:Value}
  (a22:qaA K qaw "are_most" = some (some (.ref f22))) (l22:K.lookup f22=some ⟨oc22,od22,.func (qaJ "are_most" "are_most" (aT d6) (aH d6) (ah d6) .none kV22 dc22 pm22 an22 cd22 ct22),sl22⟩) (c22:qaD K cd22 "are_most" = true) (k22:qax K (.ref f22)=true)
  {f23:Addr}{od23 an23:Option Addr}{sl23:Array (Option Value)}{oc23 kV23 dc23 pm23 cd23 ct23:Value}
  (a23:qaA K qaw "is_way" = some (some (.ref f23))) (l23:K.lookup f23=some ⟨oc23,od23,.func (qaJ "is_way" "is_way" (aT gH) (aH gH) (ah gH) .none kV23 dc23 pm23 an23 cd23 ct23),sl23⟩) (c23:qaD K cd23 "is_way" = true) (k23:qax K (.ref f23)=true)
  {f24:Addr}{od24 an24:Option Addr}{sl24:Array (Option Value)}{oc24 kV24 dc24 pm24 cd24 ct24:Value}
  (a24:qaA K qaw "shows_most" = some (some (.ref f24))) (l24:K.lookup f24=some ⟨oc24,od24,.func (qaJ "shows_most" "shows_most" (aT cL) (aH cL) (ah cL) .none kV24 dc24 pm24 an24 cd24 ct24),sl24⟩) (c24:qaD K cd24 "shows_most" = true) (k24:qax K (.ref f24)=true)
  {f25:Addr}{od25 an25:Option Addr}{sl25:Array (Option Value)}{oc25 kV25 dc25 pm25 cd25 ct25:Value}
  (a25:qaA K qaw "_law_pot" = some (some (.ref f25))) (l25:K.lookup f25=some ⟨oc25,od25,.func (qaJ "_law_pot" "_law_pot" (aT d5) (aH d5) (ah d5) .none kV25 dc25 pm25 an25 cd25 ct25),sl25⟩) (c25:qaD K cd25 "_law_pot" = true) (k25:qax K (.ref f25)=true)
  {f26:Addr}{od26 an26:Option Addr}{sl26:Array (Option Value)}{oc26 kV26 dc26 pm26 cd26 ct26:Value}
  (a26:qaA K qaw "_law_pick" = some (some (.ref f26))) (l26:K.lookup f26=some ⟨oc26,od26,.func (qaJ "_law_pick" "_law_pick" (aT dj) (aH dj) (ah dj) .none kV26 dc26 pm26 an26 cd26 ct26),sl26⟩) (c26:qaD K cd26 "_law_pick" = true) (k26:qax K (.ref f26)=true)
  {f27:Addr}{od27 an27:Option Addr}{sl27:Array (Option Value)}{oc27 kV27 dc27 pm27 cd27 ct27:Value}
  (a27:qaA K qaw "_law_case" = some (some (.ref f27))) (l27:K.lookup f27=some ⟨oc27,od27,.func (qaJ "_law_case" "_law_case" (aT ck) (aH ck) (ah ck) .none kV27 dc27 pm27 an27 cd27 ct27),sl27⟩) (c27:qaD K cd27 "_law_case" = true) (k27:qax K (.ref f27)=true)
  {f28:Addr}{od28 an28:Option Addr}{sl28:Array (Option Value)}{oc28 kV28 dc28 pm28 cd28 ct28:Value}
  (a28:qaA K qaw "_law_dot" = some (some (.ref f28))) (l28:K.lookup f28=some ⟨oc28,od28,.func (qaJ "_law_dot" "_law_dot" (aT dk) (aH dk) (ah dk) .none kV28 dc28 pm28 an28 cd28 ct28),sl28⟩) (c28:qaD K cd28 "_law_dot" = true) (k28:qax K (.ref f28)=true)
  {f29:Addr}{od29 an29:Option Addr}{sl29:Array (Option Value)}{oc29 kV29 dc29 pm29 cd29 ct29:Value}
  (a29:qaA K qaw "_law_order" = some (some (.ref f29))) (l29:K.lookup f29=some ⟨oc29,od29,.func (qaJ "_law_order" "_law_order" (aT cD) (aH cD) (ah cD) .none kV29 dc29 pm29 an29 cd29 ct29),sl29⟩) (c29:qaD K cd29 "_law_order" = true) (k29:qax K (.ref f29)=true)
  {f30:Addr}{od30 an30:Option Addr}{sl30:Array (Option Value)}{oc30 kV30 dc30 pm30 cd30 ct30:Value}
  (a30:qaA K qaw "_law_others" = some (some (.ref f30))) (l30:K.lookup f30=some ⟨oc30,od30,.func (qaJ "_law_others" "_law_others" (aT aQ) (aH aQ) (ah aQ) .none kV30 dc30 pm30 an30 cd30 ct30),sl30⟩) (c30:qaD K cd30 "_law_others" = true) (k30:qax K (.ref f30)=true)
  {f31:Addr}{od31 an31:Option Addr}{sl31:Array (Option Value)}{oc31 kV31 dc31 pm31 cd31 ct31:Value}
  (a31:qaA K qaw "_law_gains" = some (some (.ref f31))) (l31:K.lookup f31=some ⟨oc31,od31,.func (qaJ "_law_gains" "_law_gains" (aT cR) (aH cR) (ah cR) .none kV31 dc31 pm31 an31 cd31 ct31),sl31⟩) (c31:qaD K cd31 "_law_gains" = true) (k31:qax K (.ref f31)=true)
  {f32:Addr}{od32 an32:Option Addr}{sl32:Array (Option Value)}{oc32 kV32 dc32 pm32 cd32 ct32:Value}
  (a32:qaA K qaw "_law_alike" = some (some (.ref f32))) (l32:K.lookup f32=some ⟨oc32,od32,.func (qaJ "_law_alike" "_law_alike" (aT cS) (aH cS) (ah cS) .none kV32 dc32 pm32 an32 cd32 ct32),sl32⟩) (c32:qaD K cd32 "_law_alike" = true) (k32:qax K (.ref f32)=true)
  {f33:Addr}{od33 an33:Option Addr}{sl33:Array (Option Value)}{oc33 kV33 dc33 pm33 cd33 ct33:Value}
  (a33:qaA K qaw "_law_sum" = some (some (.ref f33))) (l33:K.lookup f33=some ⟨oc33,od33,.func (qaJ "_law_sum" "_law_sum" (aT en) (aH en) (ah en) .none kV33 dc33 pm33 an33 cd33 ct33),sl33⟩) (c33:qaD K cd33 "_law_sum" = true) (k33:qax K (.ref f33)=true)
  {f34:Addr}{od34 an34:Option Addr}{sl34:Array (Option Value)}{oc34 kV34 dc34 pm34 cd34 ct34:Value}
  (a34:qaA K qaw "law" = some (some (.ref f34))) (l34:K.lookup f34=some ⟨oc34,od34,.func (qaJ "law" "law" (aT ke) (aH ke) (ah ke) .none kV34 dc34 pm34 an34 cd34 ct34),sl34⟩) (c34:qaD K cd34 "law" = true) (k34:qax K (.ref f34)=true)
  (z_abs:qaA K qaw "abs" = some none)
  (z_all:qaA K qaw "all" = some none)
  (z_bool:qaA K qaw "bool" = some none)
  (z_enumerate:qaA K qaw "enumerate" = some none)
  (z_int:qaA K qaw "int" = some none)
  (z_isinstance:qaA K qaw "isinstance" = some none)
  (z_len:qaA K qaw "len" = some none)
  (z_list:qaA K qaw "list" = some none)
  (z_min:qaA K qaw "min" = some none)
  (z_range:qaA K qaw "range" = some none)
  (z_str:qaA K qaw "str" = some none)
  (z_sum:qaA K qaw "sum" = some none)
  (z_tuple:qaA K qaw "tuple" = some none)
  (z_zip:qaA K qaw "zip" = some none)
  (mk0_Table:qep K ca_Table=true)
  (mk2_Table:qgl K (.ref f5)=true)
  (mk3_Table:qax K (.ref ca_Table)=true)
  (cl0_Table:qdr K ca_Table Str.empty=true)
  (cl1_Table:qdc K ca_Table=true)
  (cl2_Table:qd4 K ca_Table=true)
  (cl3_Table:qbf K (.ref ca_Table) "__setattr__" = some (some (.builtin "object.__setattr__")))
  (na0_Table:qbf K (.ref ca_Table) "amounts" = some none)
  (na1_Table:qbf K (.ref ca_Table) "lines" = some none)
  (na2_Table:qbf K (.ref ca_Table) "goal" = some none)
  (na3_Table:qbf K (.ref ca_Table) "part" = some none)
  (na4_Table:qbf K (.ref ca_Table) "free" = some none)
  (na5_Table:qbf K (.ref ca_Table) "kept" = some none)
  : ∃ t,Txt K mg t/\t.f34=f34:=by
 have F0:=bx (st:=d7) l0 c0 k0
 have F1:=bx (st:=ci) l1 c1 k1
 have F2:=bx (st:=cc) l2 c2 k2
 have F3:=bx (st:=eA) l3 c3 k3
 have F4:=bx (st:=br) l4 c4 k4
 have F5:=bx (st:=cz) l5 c5 k5
 have F6:=bx (st:=cE) l6 c6 k6
 have F7:=bx (st:=fv) l7 c7 k7
 have F8:=bx (st:=bX) l8 c8 k8
 have F9:=bx (st:=dq) l9 c9 k9
 have F10:=bx (st:=cN) l10 c10 k10
 have F11:=bx (st:=de) l11 c11 k11
 have F12:=bx (st:=ie) l12 c12 k12
 have F13:=bx (st:=di) l13 c13 k13
 have F14:=bx (st:=gD) l14 c14 k14
 have F15:=bx (st:=cP) l15 c15 k15
 have F16:=bx (st:=dg) l16 c16 k16
 have F17:=bx (st:=cf) l17 c17 k17
 have F18:=bx (st:=ft) l18 c18 k18
 have F19:=bx (st:=cK) l19 c19 k19
 have F20:=bx (st:=bR) l20 c20 k20
 have F21:=bx (st:=cm) l21 c21 k21
 have F22:=bx (st:=d6) l22 c22 k22
 have F23:=bx (st:=gH) l23 c23 k23
 have F24:=bx (st:=cL) l24 c24 k24
 have F25:=bx (st:=d5) l25 c25 k25
 have F26:=bx (st:=dj) l26 c26 k26
 have F27:=bx (st:=ck) l27 c27 k27
 have F28:=bx (st:=dk) l28 c28 k28
 have F29:=bx (st:=cD) l29 c29 k29
 have F30:=bx (st:=aQ) l30 c30 k30
 have F31:=bx (st:=cR) l31 c31 k31
 have F32:=bx (st:=cS) l32 c32 k32
 have F33:=bx (st:=en) l33 c33 k33
 have F34:=bx (st:=ke) l34 c34 k34
 refine⟨⟨f0,_,f1,_,f2,_,f3,_,f4,_,f5,_,f6,_,f7,_,f8,_,f9,_,f10,_,f11,_,f12,_,f13,_,f14,_,f15,_,f16,_,f17,_,f18,_,f19,_,f20,_,f21,_,f22,_,f23,_,f24,_,f25,_,f26,_,f27,_,f28,_,f29,_,f30,_,f31,_,f32,_,f33,_,f34,_,ca_Table⟩,⟨qaN X G cm_Table,F0,qaN X G a0,F0.binds λ_ _ _ _ _ _ us hl=>(by obtain⟨_,rfl⟩:=oB hl;rfl),F1,qaN X G a1,F1.binds λ_ _ _ _ _ _ us hl=>(by obtain⟨_,_,rfl⟩:=lh hl;rfl),F2,qaN X G a2,F2.binds λ_ _ _ _ _ _ us hl=>(by obtain⟨_,rfl⟩:=oB hl;rfl),F3,qaN X G a3,F3.binds λ_ _ _ _ _ _ us hl=>(by obtain⟨_,rfl⟩:=oB hl;rfl),F4,qaN X G a4,F4.binds λ_ _ _ _ _ _ us hl=>(by obtain⟨_,_,rfl⟩:=lh hl;rfl),F5,F5.binds λ_ _ _ _ _ _ us hl=>(by obtain⟨_,_,_,_,rfl⟩:=xD hl;rfl),⟨mk0_Table,a5,mk2_Table,mk3_Table⟩,⟨cl0_Table,cl1_Table,cl2_Table,cl3_Table⟩,qb3.mpr ⟨na0_Table,qb3.mpr ⟨na1_Table,qb3.mpr ⟨na2_Table,qb3.mpr ⟨na3_Table,qb3.mpr ⟨na4_Table,qb3.mpr ⟨na5_Table,λ_ h=>nomatch h⟩⟩⟩⟩⟩⟩,F6,qaN X G a6,F6.binds λ_ _ _ _ _ _ us hl=>(by obtain⟨_,_,_,rfl⟩:=wg hl;rfl),F7,qaN X G a7,F7.binds λ_ _ _ _ _ _ us hl=>(by obtain⟨_,rfl⟩:=oB hl;rfl),F8,qaN X G a8,F8.binds λ_ _ _ _ _ _ us hl=>(by obtain⟨_,_,rfl⟩:=lh hl;rfl),F9,qaN X G a9,F9.binds λ_ _ _ _ _ _ us hl=>(by obtain⟨_,_,rfl⟩:=lh hl;rfl),F10,qaN X G a10,F10.binds λ_ _ _ _ _ _ us hl=>(by obtain⟨_,_,_,rfl⟩:=wg hl;rfl),F11,qaN X G a11,F11.binds λ_ _ _ _ _ _ us hl=>(by obtain⟨_,rfl⟩:=oB hl;rfl),F12,qaN X G a12,F12.binds λ_ _ _ _ _ _ us hl=>(by obtain⟨_,_,_,_,rfl⟩:=xD hl;rfl),F13,qaN X G a13,F13.binds λ_ _ _ _ _ _ us hl=>(by obtain⟨_,_,_,rfl⟩:=wg hl;rfl),F14,qaN X G a14,F14.binds λ_ _ _ _ _ _ us hl=>(by obtain⟨_,_,rfl⟩:=lh hl;rfl),F15,qaN X G a15,F15.binds λ_ _ _ _ _ _ us hl=>(by obtain⟨_,rfl⟩:=oB hl;rfl),F16,qaN X G a16,F16.binds λ_ _ _ _ _ _ us hl=>(by obtain⟨_,rfl⟩:=oB hl;rfl),F17,qaN X G a17,F17.binds λ_ _ _ _ _ _ us hl=>(by obtain⟨_,rfl⟩:=oB hl;rfl),F18,qaN X G a18,F18.binds λ_ _ _ _ _ _ us hl=>(by obtain⟨_,_,_,rfl⟩:=wg hl;rfl),F19,qaN X G a19,F19.binds λ_ _ _ _ _ _ us hl=>(by obtain⟨_,_,rfl⟩:=lh hl;rfl),F20,qaN X G a20,F20.binds λ_ _ _ _ _ _ us hl=>(by obtain⟨_,_,_,_,rfl⟩:=xD hl;rfl),F21,qaN X G a21,F21.binds λ_ _ _ _ _ _ us hl=>(by obtain⟨_,_,_,_,rfl⟩:=xD hl;rfl),F22,qaN X G a22,F22.binds λ_ _ _ _ _ _ us hl=>(by obtain⟨_,_,_,_,_,_,rfl⟩:=Dv hl;rfl),F23,qaN X G a23,F23.binds λ_ _ _ _ _ _ us hl=>(by obtain⟨_,_,_,rfl⟩:=wg hl;rfl),F24,qaN X G a24,F24.binds λ_ _ _ _ _ _ us hl=>(by obtain⟨_,_,_,_,rfl⟩:=xD hl;rfl),F25,qaN X G a25,F25.binds λ_ _ _ _ _ _ us hl=>(by obtain⟨_,_,rfl⟩:=lh hl;rfl),F26,qaN X G a26,F26.binds λ_ _ _ _ _ _ us hl=>(by obtain⟨_,_,rfl⟩:=lh hl;rfl),F27,qaN X G a27,F27.binds λ_ _ _ _ _ _ us hl=>(by obtain⟨_,rfl⟩:=oB hl;rfl),F28,qaN X G a28,F28.binds λ_ _ _ _ _ _ us hl=>(by obtain⟨_,_,rfl⟩:=lh hl;rfl),F29,qaN X G a29,F29.binds λ_ _ _ _ _ _ us hl=>(by obtain⟨_,_,rfl⟩:=lh hl;rfl),F30,qaN X G a30,F30.binds λ_ _ _ _ _ _ us hl=>(by obtain⟨_,_,rfl⟩:=lh hl;rfl),F31,qaN X G a31,F31.binds λ_ _ _ _ _ _ us hl=>(by obtain⟨_,_,rfl⟩:=lh hl;rfl),F32,qaN X G a32,F32.binds λ_ _ _ _ _ _ us hl=>(by obtain⟨_,_,_,rfl⟩:=wg hl;rfl),F33,qaN X G a33,F33.binds λ_ _ _ _ _ _ us hl=>(by obtain⟨_,_,rfl⟩:=lh hl;rfl),F34,qaN X G a34,F34.binds λ_ _ _ _ _ _ us hl=>(by obtain⟨_,rfl⟩:=oB hl;rfl),qa9 X G z_abs,qa9 X G z_all,qa9 X G z_bool,qa9 X G z_enumerate,qa9 X G z_int,qa9 X G z_isinstance,qa9 X G z_len,qa9 X G z_list,qa9 X G z_min,qa9 X G z_range,qa9 X G z_str,qa9 X G z_sum,qa9 X G z_tuple,qa9 X G z_zip⟩,rfl⟩
theorem txt_ex {K:qad}{mg:Str->Option Value}{f:Addr} (h:∃ t,Txt K mg t/\t.f34=f):∃ t,Txt K mg t:=let ⟨t,a,_⟩:=h;⟨t,a⟩
theorem walk {l:qeq}{q:qa5}{loose:List Str}{XP:(Str->Option Value)->Heap->Prop}{YP:World->Heap->Prop}{d:DefRec}{K:Params->qad} (hn:l.most=some 63) (hdf:d.params.defaults=[])
  (hY:∀ (w:World) (h:Heap),YP w h->(K w.params).In h)
  (F:∀ (w:World) (mg:Str->Option Value) (fa:Addr) (h:Heap),(K w.params).In h->h.Ns qaw mg->mg d.name=some (.ref fa)->
    ∃ fd:qaX,(∀ (s:qam) (u:Value),qfX s fd ⟨[u],[]⟩ [("_law_script",u)])/\∀ base:Heap,(K w.params).In base->base.Ns qaw mg->bW l.prog w (K w.params) mg base CX0 5 fa fd ["_law_script"] (spI (K w.params) rJ)) :
  qgc q loose XP YP l.row.toRowW d [] (λf vs=>qfL f vs):=
 L2.walk_of (n:=63) (k:=5) (x:="_law_script") (CX:=λ_=>CX0) (sp:=λw=>spI (K w.params) rJ) hn (by decide) hdf ⟨rfl,by decide,by decide,rfl⟩ hY F (λ_ _ a ns hl hO hS=>yV hO hS (xR ns hl)) λ_ _ _ _ _ z=>z
theorem law_mk {l:qeq}{w:World}{K:qad}{h:Heap}{mg:Str->Option Value}{fa:Addr} (hfa:mg "law" = some (.ref fa)) (T0:∃ t,Txt K mg t) :
  ∃ fd:qaX,(∀ (s:qam) (v:Value),qfX s fd ⟨[v],[]⟩ [("_law_script",v)])/\∀ base:Heap,K.In base->base.Ns qaw mg->bW l.prog w K mg base CX0 5 fa fd ["_law_script"] (spI K rJ):=by
 obtain⟨t,T⟩:=T0
 have e:=hfa.symm.trans T.m34
 cases e
 refine⟨t.g34,λs v=>?_,λbase _ _=>BB T⟩
 obtain⟨oc,od,kV,doc,pm,an,cdv,ct,osl,e,_⟩:=T.F34.ex
 rw[e]
 exact .of_eq rfl
end Own
theorem PySem.W.Fast.tw15314419353254063770:True:=trivial
theorem PySem.W.Fast.tw11434010963002183153:True:=trivial
theorem PySem.W.Fast.tw13993705756109770182:True:=trivial
theorem PySem.W.Fast.tw4733937390882981745:True:=trivial
theorem PySem.W.Fast.tw2100051356846961418:True:=trivial
theorem PySem.W.Fast.tw11106886328264949771:True:=trivial
theorem PySem.W.Fast.tw9981263846059588539:True:=trivial
theorem PySem.W.Fast.tw8049117343452511059:True:=trivial
theorem PySem.W.Fast.tw589476970858486528:True:=trivial
theorem PySem.W.Fast.tw1363677378755587898:True:=trivial
theorem PySem.W.Fast.tw3109959364077942003:True:=trivial
theorem PySem.W.Fast.tw5569309567760409661:True:=trivial
theorem PySem.W.Fast.tw3102549819908858510:True:=trivial
theorem PySem.W.Fast.tw13315735762751504537:True:=trivial
theorem PySem.W.Fast.tw15358372372196051795:True:=trivial
theorem PySem.W.Fast.tw4011912151980364549:True:=trivial
theorem PySem.W.Fast.tw14963112131872996152:True:=trivial
theorem PySem.W.Fast.tw13288825336848908991:True:=trivial
theorem PySem.W.Fast.tw335877727511502810:True:=trivial
theorem PySem.W.Fast.tw7433391675017099592:True:=trivial
theorem PySem.W.Fast.tw10774505325064742465:True:=trivial
theorem PySem.W.Fast.tw1314928121834979435:True:=trivial
theorem PySem.W.Fast.tw11264190421690652159:True:=trivial
theorem PySem.W.Fast.tw15942562996215620705:True:=trivial
theorem PySem.W.Fast.tw510710977033813927:True:=trivial
theorem PySem.W.Fast.tw3806159887029899568:True:=trivial
theorem PySem.W.Fast.tw13015581537270422458:True:=trivial
theorem PySem.W.Fast.tw17531776685523836535:True:=trivial
theorem PySem.W.Fast.tw7420001471874002231:True:=trivial
theorem PySem.W.Fast.tw409364432896481132:True:=trivial
theorem PySem.W.Fast.tw7978708910147228099:True:=trivial
theorem PySem.W.Fast.tw909811425803447162:True:=trivial
theorem PySem.W.Fast.tw12207468662873562239:True:=trivial
theorem PySem.W.Fast.tw5685130936315097105:True:=trivial
theorem PySem.W.Fast.tw9062958945724111956:True:=trivial
theorem PySem.W.Fast.tw3913856175392361914:True:=trivial
theorem PySem.W.Fast.tw1225584233942937097:True:=trivial
theorem PySem.W.Fast.tw17611355087458658095:True:=trivial
theorem PySem.W.Fast.tw11514384052392387974:True:=trivial
theorem PySem.W.Fast.tw6932153031368419129:True:=trivial
theorem PySem.W.Fast.tw15484801145393659906:True:=trivial
theorem PySem.W.Fast.tw3809643914209014774:True:=trivial
theorem PySem.W.Fast.tw2770548213756371430:True:=trivial
theorem PySem.W.Fast.tw3624107214727608351:True:=trivial
theorem PySem.W.Fast.tw6257303815588349375:True:=trivial
theorem PySem.W.Fast.tw14536700777204715621:True:=trivial
theorem PySem.W.Fast.tw3175204575606097658:True:=trivial
theorem PySem.W.Fast.tw3199522151360603810:True:=trivial
theorem PySem.W.Fast.tw7687285198076365860:True:=trivial
theorem PySem.W.Fast.tw12602526766966474568:True:=trivial
theorem PySem.W.Fast.tw64778720769149586:True:=trivial
theorem PySem.W.Fast.tw13909864732132673231:True:=trivial
theorem PySem.W.Fast.tw12109300071203578913:True:=trivial
theorem PySem.W.Fast.tw12642674019265720536:True:=trivial
theorem PySem.W.Fast.tw14167884258358418667:True:=trivial
theorem PySem.W.Fast.tw12937373933023709154:True:=trivial
theorem PySem.W.Fast.tw6160940025902037775:True:=trivial
theorem PySem.W.Fast.tw17453147130958120633:True:=trivial
theorem PySem.W.Fast.tw18251046516330319656:True:=trivial
theorem PySem.W.Fast.tw9212502993413592577:True:=trivial
theorem PySem.W.Fast.tw17853529381289597676:True:=trivial
theorem PySem.W.Fast.tw9334749744927915895:True:=trivial
theorem PySem.W.Fast.tw13448766382745919123:True:=trivial
theorem PySem.W.Fast.tw15770571203635555375:True:=trivial
theorem PySem.W.Fast.tw3698142333997227336:True:=trivial
theorem PySem.W.Fast.tw8659074268844295642:True:=trivial
theorem PySem.W.Fast.tw12408892140355377076:True:=trivial
theorem PySem.W.Fast.tw12119990861717607897:True:=trivial
theorem PySem.W.Fast.tw14564113250029578339:True:=trivial
theorem PySem.W.Fast.tw16758116261210149351:True:=trivial
theorem PySem.W.Fast.tw14031839463107948749:True:=trivial
theorem PySem.W.Fast.tw2193704840478911397:True:=trivial
theorem PySem.W.Fast.tw1680644265508881366:True:=trivial
open PySem PySem.W PyProof.Rows
set_option maxRecDepth 100000 in
set_option maxHeartbeats 0 in
theorem PySem.Challenge.cw_signpoly_k28_whole_most_stays_holds : PySem.Challenge.rw_signpoly_k28_whole_most_stays.Holds := by
 w_on;o_law;k_head;(case hw=>w_witness2)
 k_fill
 refine Own.walk (l:=PySem.Challenge.rw_signpoly_k28_whole_most_stays) rfl rfl (λw h Y=>PySem.W.kIn_of Y) ?F
 case F=>
  intro w mg fa h KX G hmg
  refine Own.law_mk (h:=h) hmg ?T
  case T=>
   refine' Own.txt_ex (Own.txt_mk KX G ?a0 ?l0 ?c0 ?k0 ?a1 ?l1 ?c1 ?k1 ?a2 ?l2 ?c2 ?k2 ?a3 ?l3 ?c3 ?k3 ?a4 ?l4 ?c4 ?k4 ?cm_Table ?a5 ?l5 ?c5 ?k5 ?a6 ?l6 ?c6 ?k6 ?a7 ?l7 ?c7 ?k7 ?a8 ?l8 ?c8 ?k8 ?a9 ?l9 ?c9 ?k9 ?a10 ?l10 ?c10 ?k10 ?a11 ?l11 ?c11 ?k11 ?a12 ?l12 ?c12 ?k12 ?a13 ?l13 ?c13 ?k13 ?a14 ?l14 ?c14 ?k14 ?a15 ?l15 ?c15 ?k15 ?a16 ?l16 ?c16 ?k16 ?a17 ?l17 ?c17 ?k17 ?a18 ?l18 ?c18 ?k18 ?a19 ?l19 ?c19 ?k19 ?a20 ?l20 ?c20 ?k20 ?a21 ?l21 ?c21 ?k21 ?a22 ?l22 ?c22 ?k22 ?a23 ?l23 ?c23 ?k23 ?a24 ?l24 ?c24 ?k24 ?a25 ?l25 ?c25 ?k25 ?a26 ?l26 ?c26 ?k26 ?a27 ?l27 ?c27 ?k27 ?a28 ?l28 ?c28 ?k28 ?a29 ?l29 ?c29 ?k29 ?a30 ?l30 ?c30 ?k30 ?a31 ?l31 ?c31 ?k31 ?a32 ?l32 ?c32 ?k32 ?a33 ?l33 ?c33 ?k33 ?a34 ?l34 ?c34 ?k34 ?z_abs ?z_all ?z_bool ?z_enumerate ?z_int ?z_isinstance ?z_len ?z_list ?z_min ?z_range ?z_str ?z_sum ?z_tuple ?z_zip ?mk0_Table ?mk2_Table ?mk3_Table ?cl0_Table ?cl1_Table ?cl2_Table ?cl3_Table ?na0_Table ?na1_Table ?na2_Table ?na3_Table ?na4_Table ?na5_Table)
   case a0=>k_is
   case l0=>k_is
   case c0=>k_is
   case k0=>k_is
   case a1=>k_is
   case l1=>k_is
   case c1=>k_is
   case k1=>k_is
   case a2=>k_is
   case l2=>k_is
   case c2=>k_is
   case k2=>k_is
   case a3=>k_is
   case l3=>k_is
   case c3=>k_is
   case k3=>k_is
   case a4=>k_is
   case l4=>k_is
   case c4=>k_is
   case k4=>k_is
   case cm_Table=>k_is
   case a5=>k_is
   case l5=>k_is
   case c5=>k_is
   case k5=>k_is
   case a6=>k_is
   case l6=>k_is
   case c6=>k_is
   case k6=>k_is
   case a7=>k_is
   case l7=>k_is
   case c7=>k_is
   case k7=>k_is
   case a8=>k_is
   case l8=>k_is
   case c8=>k_is
   case k8=>k_is
   case a9=>k_is
   case l9=>k_is
   case c9=>k_is
   case k9=>k_is
   case a10=>k_is
   case l10=>k_is
   case c10=>k_is
   case k10=>k_is
   case a11=>k_is
   case l11=>k_is
   case c11=>k_is
   case k11=>k_is
   case a12=>k_is
   case l12=>k_is
   case c12=>k_is
   case k12=>k_is
   case a13=>k_is
   case l13=>k_is
   case c13=>k_is
   case k13=>k_is
   case a14=>k_is
   case l14=>k_is
   case c14=>k_is
   case k14=>k_is
   case a15=>k_is
   case l15=>k_is
   case c15=>k_is
   case k15=>k_is
   case a16=>k_is
   case l16=>k_is
   case c16=>k_is
   case k16=>k_is
   case a17=>k_is
   case l17=>k_is
   case c17=>k_is
   case k17=>k_is
   case a18=>k_is
   case l18=>k_is
   case c18=>k_is
   case k18=>k_is
   case a19=>k_is
   case l19=>k_is
   case c19=>k_is
   case k19=>k_is
   case a20=>k_is
   case l20=>k_is
   case c20=>k_is
   case k20=>k_is
   case a21=>k_is
   case l21=>k_is
   case c21=>k_is
   case k21=>k_is
   case a22=>k_is
   case l22=>k_is
   case c22=>k_is
   case k22=>k_is
   case a23=>k_is
   case l23=>k_is
   case c23=>k_is
   case k23=>k_is
   case a24=>k_is
   case l24=>k_is
   case c24=>k_is
   case k24=>k_is
   case a25=>k_is
   case l25=>k_is
   case c25=>k_is
   case k25=>k_is
   case a26=>k_is
   case l26=>k_is
   case c26=>k_is
   case k26=>k_is
   case a27=>k_is
   case l27=>k_is
   case c27=>k_is
   case k27=>k_is
   case a28=>k_is
   case l28=>k_is
   case c28=>k_is
   case k28=>k_is
   case a29=>k_is
   case l29=>k_is
   case c29=>k_is
   case k29=>k_is
   case a30=>k_is
   case l30=>k_is
   case c30=>k_is
   case k30=>k_is
   case a31=>k_is
   case l31=>k_is
   case c31=>k_is
   case k31=>k_is
   case a32=>k_is
   case l32=>k_is
   case c32=>k_is
   case k32=>k_is
   case a33=>k_is
   case l33=>k_is
   case c33=>k_is
   case k33=>k_is
   case a34=>k_is
   case l34=>k_is
   case c34=>k_is
   case k34=>k_is
   case z_abs=>k_is
   case z_all=>k_is
   case z_bool=>k_is
   case z_enumerate=>k_is
   case z_int=>k_is
   case z_isinstance=>k_is
   case z_len=>k_is
   case z_list=>k_is
   case z_min=>k_is
   case z_range=>k_is
   case z_str=>k_is
   case z_sum=>k_is
   case z_tuple=>k_is
   case z_zip=>k_is
   case mk0_Table=>kernel_rfl
   case mk2_Table=>kernel_rfl
   case mk3_Table=>kernel_rfl
   case cl0_Table=>kernel_rfl
   case cl1_Table=>kernel_rfl
   case cl2_Table=>kernel_rfl
   case cl3_Table=>kernel_rfl
   case na0_Table=>kernel_rfl
   case na1_Table=>kernel_rfl
   case na2_Table=>kernel_rfl
   case na3_Table=>kernel_rfl
   case na4_Table=>kernel_rfl
   case na5_Table=>kernel_rfl
