import PyProof.Rows.All
import Wide.All
import OpenK.AllK
import Wide.FinOn
import Lean
import PyProof.EqAt
import PyProof.EqKinds
import PyProof.TupleCall
import PyProof.ListRange
import PyProof.NeKinds
import KE.KUnpack
import KE.KSortTup
import PyProof.ZipIter
import PyProof.Rows.CallKwBuiltin
import KE.KFind
import PyProof.Rows.SortStr
import KE.KDictLaws
import KE.KDictList
import PyProof.SetKind
import PyProof.SetRoads
import PyProof.Rows.SetFrom
import PyProof.WalksMore
import PyProof.FactsAll.tuple_0
import PyProof.FactsAll.tuple_2
import PyProof.FactsAll.tuple_3
import PyProof.FactsAll.list_3
import PyProof.Rows.SeqMore
import PyProof.AutoSeq1
import PyProof.FactsAll.int_0
import PyProof.FactsAll.int_6
import PyProof.Rows.RuleM_int
import PySem.Challenge.RW_signpoly_k48_fewest_told
set_option Elab.async false
set_option linter.all false
set_option maxRecDepth 100000
set_option genSizeOf false
set_option compiler.extract_closed false
set_option bootstrap.genMatcherCode false
set_option compiler.reuse false
set_option autoImplicit true
noncomputable section
open And renaming right -> qdz, left -> qd6
open Array renaming getElem?_eq_getElem -> qbQ, length_toList -> qc3, getElem?_eq_none -> qdm, getElem?_toList -> qez, getElem_toList -> qeO, perm_iff_toList_perm -> qfY, toList -> qgM
open Bool renaming and_eq_true -> qa0, false_ne_true -> qa1, false_eq_true -> qbC, not_eq_true -> qer, or_eq_true -> qfW, eq_iff_iff -> qfX, and_false -> qh9, and_true -> qir, and_self -> qis
open Classical renaming byContradiction -> qfw
open Decidable renaming byContradiction -> qdJ
open False renaming elim -> qcw
open Int renaming mul_left_comm -> qaT, mul_comm -> qaW, mul_zero -> qa9, toNat_natCast -> qbf, mul_assoc -> qbj, mul_right_comm -> qbn, zero_mul -> qbp, zero_add -> qbO, le_refl -> qck, mul_add -> qco, mul_eq_zero -> qcB, mul_sub -> qcG, ofNat_dvd_left -> qcL, natAbs_mul -> qc2, one_mul -> qc7, mul_one -> qc8, lt_or_eq_of_le -> qdj, neg_mul -> qdw, mul_le_mul_of_nonneg_left -> qdG, mul_ediv_cancel' -> qdI, mul_lt_mul_of_pos_right -> qdS, ediv_nonneg -> qdT, lt_of_mul_lt_mul_right -> qdZ, fdiv_eq_ediv_of_nonneg -> qd0, mul_nonneg -> qea, eq_of_mul_eq_mul_left -> qeb, add_mul -> qeq, le_trans -> qeN, mul_le_mul_of_nonneg_right -> qfB, add_zero -> qfC, sub_mul -> qf7, mul_neg -> qf8, eq_of_mul_eq_mul_right -> qgh, mul_neg_of_pos_of_neg -> qgo, mul_ediv_cancel_left -> qgv, reduceNeg -> qgK, eq_ofNat_of_zero_le -> qgL, sub_zero -> qgY, le_of_lt -> qgZ, emod_lt_of_pos -> qhC, emod_nonneg -> qh6, natAbs_neg -> qil, mul_pos -> qjU
open List renaming length_map -> qaf, mem_cons_self -> qag, mem_cons_of_mem -> qah, range -> qai, getElem?_eq_getElem -> qal, length_cons -> qam, mem_singleton -> qao, length_range -> qar, getElem?_eq_some_iff -> qas, map_cons -> qat, length_append -> qau, mem_cons -> qav, mem_append_right -> qay, getElem?_map -> qaz, getD_eq_getElem?_getD -> qaA, size_toArray -> qaB, getElem?_append_left -> qaC, mem_range -> qaE, getElem?_eq_none -> qaF, mem_map -> qaI, replicate -> qaJ, getElem?_append_right -> qaK, map_map -> qaQ, all_eq_true -> qaU, mem_append -> qaV, pairwise_cons -> qbc, mem_append_left -> qbd, getElem?_range -> qbe, append_assoc -> qbl, mem_filter -> qbm, getElem?_set_self -> qbo, ext_getElem? -> qbq, getD_cons_zero -> qbv, all_cons -> qbw, not_mem_nil -> qbx, lookup_cons -> qby, getElem?_set_ne -> qbA, map_append -> qbI, getElem_mem -> qbJ, mem_of_getElem? -> qbK, append_nil -> qbR, map_congr_left -> qbS, getD_cons_succ -> qbT, length_filter_le -> qbV, nodup_cons -> qb0, filter_cons -> qb1, drop_eq_getElem_cons -> qb4, length_set -> qb6, length_nil -> qb7, any_cons -> qcg, take_left -> qch, sum_cons -> qcl, length_singleton -> qcm, mem_iff_getElem -> qcv, nodup_append -> qcy, take_of_length_le -> qcH, range' -> qcP, length_replicate -> qcQ, forall_mem_cons -> qcU, nodup_nil -> qcX, getElem?_eq_none_iff -> qcY, getElem_map -> qc1, zip_cons_cons -> qde, idxOf?_eq_some_iff -> qdf, getElem?_replicate -> qdg, find?_cons -> qdh, range_succ_eq_map -> qdn, mapM_toArray -> qdq, take_length -> qdA, length_take -> qdB, length_drop -> qdC, getElem_inj -> qdD, cons_append -> qdE, range_eq_range' -> qdF, replicate_zero -> qdL, replicate_succ -> qdM, range_succ -> qdN, nil_append -> qdO, mem_map_of_mem -> qdP, lookup -> qdQ, map_nil -> qdY, pairwise_map -> qee, getElem?_take_of_lt -> qef, filter_congr -> qeg, filter_cons_of_pos -> qel, filter_cons_of_neg -> qem, drop_length -> qep, find?_cons_of_pos -> qes, find?_cons_of_neg -> qet, drop_eq_nil_of_le -> qeu, all_map -> qeC, length -> qeU, filterMap_cons -> qeV, mem_filterMap -> qfb, getElem_range -> qfc, any_eq_false -> qfm, any_eq_true -> qfy, all_toArray -> qfz, of_mem_zip -> qfS, getD -> qfT, forIn_cons -> qfU, drop_zero -> qgf, pairwise_singleton -> qgr, map -> qgs, length_eq_zero_iff -> qgt, filter_eq_nil_iff -> qgJ, replicate_succ' -> qgX, map_id -> qg7, flatten_append -> qg8, filter_sublist -> qg9, filter_eq_self -> qha, set_cons_zero -> qhr, set_cons_succ -> qhs, push_toArray -> qhz, flatten_cons -> qhA, Nodup -> qhB, zipIdx_cons -> qhO, isEmpty_iff -> qhP, zipIdx_nil -> qhU, sum_append -> qhV, filter_map -> qhW, forIn_nil -> qh4, map_drop -> qik, foldl -> qjT
open List.Pairwise renaming sublist -> qft, map -> qiG
open List.Perm renaming refl -> qdi, eq_of_pairwise -> qfA
open List.Sublist renaming refl -> qeD
open Nat renaming le_refl -> qan, le_trans -> qaD, ne_of_lt -> qaH, add_sub_cancel_left -> qaL, lt_of_lt_of_le -> qaO, pow_le_pow_right -> qba, lt_irrefl -> qbb, zero_add -> qbg, lt_succ_of_lt -> qbi, zero_le -> qbr, lt_of_le_of_lt -> qbD, lt_succ_self -> qb2, not_lt_zero -> qca, ne_of_gt -> qci, mul_le_mul_right -> qcx, le_succ -> qcF, add_sub_cancel -> qcJ, mul_le_mul -> qc0, le_add_right -> qc4, le_of_eq -> qdb, sub_self -> qd4, lt_trans -> qd5, two_pow_pos -> qeJ, lt_or_ge -> qeK, le_of_lt -> qeL, add_comm -> qeM, reduceSub -> qfg, min_eq_right -> qfN, pow_pos -> qf4, min_eq_left -> qf5, gcd -> qf6, reduceAdd -> qgI, sub_zero -> qgV, mul_comm -> qgW, pow_lt_pow_right -> qg6, pow_add -> qhp, log2_lt -> qhq, not_lt -> qhN, succ_ne_self -> qhS, mod_eq_of_lt -> qhT, dvd_trans -> qiF, le_total -> qjy, gcd_comm -> qjz, add_zero -> qjA, pow_mul -> qjQ, one_mul -> qjR, add_mul -> qjS
open Nat.succ renaming inj -> qek
open Ne renaming symm -> qbF
open Option renaming bind_eq_some_iff -> qaa, bind_some -> qab, map_eq_some_iff -> qad, map_some -> qap, isSome_iff_exists -> qcs, getD_none -> qho
open Option.some renaming inj -> qaP
open Prod renaming fst -> qb3, snd -> qfM
open PyProof.Rows renaming boot_isinstance -> qaM, boot_list -> qaN, boot_sorted -> qaS, boot_tuple -> qaX, boot_repr -> qaY, boot_bool -> qaZ, boot_sum -> qa3, boot_str -> qa4, boot_int -> qa5, boot_any -> qa6, boot_all -> qa7, boot_abs -> qa8, wpS_bind -> qbz, slot_tuple_getitem -> qbE, SortSt -> qbY, wpS_pure -> qcb, callWith_type1 -> qcd, IntsAre -> qcn, SortKind -> qdc, wpS_forRange -> qei, envOfC -> qex, pendingOf -> qe0, boot_range -> qfl, KeyOrd -> qfn, AllBare -> qfx, seqObj -> qfG, assignInOrder_cons -> qfI, lt_int -> qfR, wpS_modify -> qg0, wpS_get -> qhe, listUpdate_at -> qhj, failedOf -> qhk, subscriptTail_builtinR -> qhu, seqEpoch_at -> qhZ, keyKind'_eq -> qh0, getElem?_mirror_all -> qh1, entry_tuple_getitem -> qh2, wpS_mono -> qia, oneType' -> qic, keyKind' -> qid, gallopOf -> qie, args_tuple_getitem -> qig, size_push' -> qix, assignInOrder_nil -> qiz, Subscript_ -> qiC, truthy_int -> qju, gt_int -> qjv, envOfC -> qjw, callWith_builtin1 -> qjx, sortedAll -> qjE, oneTypeOnly'_eq -> qjI, mirror -> qjJ, getElem?_bubble -> qjM, entry_list_sort -> qjN, slot_list_sort -> qjZ, slicePart_none -> qj0, boot_enumerate -> qj6, args_list_sort -> qj7
open PyProof.Rows.KeyOrd renaming kle_refl -> qcK, kle_of_klt -> qdk, kle_trans -> qdx, kle_antisymm -> qgQ
open PyProof.Rows.SortSt renaming mk' -> qiD
open PySem renaming wpAny_bind -> qac, Shared -> qak, wpAny_pure -> qaq, sizeLine -> qaG, Program -> qaR, Around -> qa2, boot_len -> qbh, Spec -> qbk, foldedSetIterable -> qbt, mem_of_lookup -> qbu, starEach -> qbB, binaryOp -> qbG, IntMulOk -> qbH, wpAny_callSpecial?_slot -> qbL, compareOp -> qbP, wpAny_call_entry -> qbW, assignEach -> qbX, NameKind -> qbZ, FuncData -> qb5, wpAny_field -> qb8, mainGlobals -> qb9, attributeBase -> qcc, bootBuiltins -> qce, swapsWith -> qcj, wpAny_mono -> qcp, sysModules -> qcq, call_meets -> qcr, wpAny_holding -> qct, cellsFrom -> qcu, sizeLine_eq -> qcz, wpAny_newObj_type -> qcE, wpAny_typeNameOfWhole_keyiter -> qcM, wpAny_seqItems -> qcO, wpAny_setField_rec -> qcS, wpAny_pyIter_tuple -> qcT, wpAny_passesOwn -> qcV, pushCells_keeps -> qcW, swapsWithSole -> qdt, swappedStores -> qdu, strLen_append -> qdv, wpAny_rule -> qd1, sliceBounds -> qd7, DictEntry -> qec, wpAny_Call_Name_kw -> qej, wpAny_truthy_bool -> qev, wpAny_pyIter_enum -> qew, wpAny_standAt -> qeG, wpAny_attempt -> qeH, wpAny_ite_false -> qeX, wpAny_execs_nil -> qeY, pushCells -> qeZ, getItem -> qe1, backTo -> qe2, Builtin -> qe7, typeIs_int -> qe8, wpAny_updateSeq_pair -> qfd, list_append -> qfe, wpAny_setField -> qfj, codeAny -> qfo, wpAny_onRaise -> qfE, wpAny_newList -> qfF, behindInMarks -> qfH, wpAny_pyIter_list -> qfZ, wpAny_dictEntries -> qf0, holding -> qf1, codeAny_mono -> qga, assign -> qgb, Paired -> qge, IsPart -> qgg, noFill_tuple_add -> qgj, IntMulOk -> qgu, wpAny_dictEpoch -> qgy, tupleKind -> qgz, subscripted -> qgA, rawInt -> qgB, letOwnedTupleGo -> qgC, keywordEach -> qgD, ofString_length -> qgF, Within -> qgG, PassesOwn -> qgH, intBits_le_iff -> qgN, wpAny_binaryOp_repeat_ref -> qgR, wpAny_comprehension_free -> qg1, pyNext -> qg2, builtinsNs -> qg3, IsPair -> qhb, wpAny_pyNext_enum_itemD -> qhf, valueAt -> qhg, seq_tuple_add -> qhh, rangeSize_one -> qhi, compEnvC -> qhl, callerA -> qhm, call -> qhn, BindsTo -> qht, richCompare_meets_room -> qhv, codeAny_compStart_list -> qhw, wpAny_typeOf -> qhE, wpAny_isOneOf_keyiter -> qhF, tupleText -> qhG, seqIndex_neg -> qhH, concat_meets -> qhI, wpAny_letGo -> qhX, seqIndex_of -> qhY, Keyword -> qh5, tupleKind_room_in1 -> qib, backToKw -> qif, GenState -> qin, wpAny_sequenceKey -> qit, wpAny_assign_Name -> qiu, wpAny_Name -> qiv, slot_list_getitem -> qiw, piled_cons -> qiy, wpAny_pyIter_zip -> qiO, wpAny_isInstance -> qiP, wpAny_forIn_list -> qiQ, wpAny_execs_cons -> qiR, standAt -> qjD, setItem -> qjF, seqIndex? -> qjG, pyIter -> qjH, join_length_add -> qjK, isTrue -> qjL, codeAny_builtin -> qjO, Result -> qjP, wpAny_newTuple -> qjW, wpAny_fieldsOf -> qjX, wpAny_bindName -> qjY, repr_of_reads' -> qj1, recursionLimit -> qj2, isSubtype_stop -> qj3, fitsIndex_both -> qj4, firstArgMember -> qj5
open PySem.Around renaming under -> qgx
open PySem.AutoSeq1 renaming sub_tuple_tuple -> qdV
open PySem.Builtin renaming bitAnd -> qdl
open PySem.Builtin.Dict renaming showsAll -> qfD
open PySem.Builtin.Int renaming intBits -> qjV
open PySem.Builtin.List renaming listTooLong -> qcR
open PySem.Builtin.Range renaming rangeFitsLong -> qeS, rangeSize -> qfi, small -> qiN
open PySem.Builtin.Slice renaming slicePlaces -> qcI, sliceAdjust -> qe6, slicePartIndex -> qiL, sliceApplied -> qiM
open PySem.Builtin.SmallTypes renaming nextOf -> qcD, ownedTupleHandOut -> qdU, ownedTupleIsFree -> qhD
open PySem.Builtin.Tuple renaming tupleCompareSizes -> qey, tupleItemsOf -> qeW, tupleTooMany -> qiK
open PySem.Calls renaming Name_function_global -> qfV, call_function_entry -> qf9, callWith_builtin -> qgw
open PySem.Code renaming isGuard -> qiI, isFrame -> qiJ, frames -> qjC
open PySem.Draws renaming list -> qjB
open PySem.Env renaming kindOf -> qk9
open PySem.F renaming slot_dict_keyiterator_next -> qbU, slot_tuple_iterator_next -> qcZ, slot_list_index -> qc6, args_tuple_add_2 -> qdX, plainAttrs_list -> qd8, entry_tuple_add -> qd9, slot_tuple_add -> qeh, slot_tuple_lt -> qeo, args_dict_keyiterator_next_1 -> qeB, slot_tuple_mul -> qeF, entry_dict_keyiterator_next -> qeI, slot_zip_next -> qeQ, slot_int_rmul -> qeR, args_list_append_2 -> qe5, entry_list_append -> qfh, slot_list_append -> qfu, args_tuple_mul_2 -> qfv, args_list_index_2 -> qfL, entry_tuple_mul -> qfO, entry_list_index -> qfQ, type_list_index -> qf2, args_tuple_lt_2 -> qf3, slot_dict_iter -> qgc, entry_tuple_lt -> qgd, args_tuple_iterator_next_1 -> qgi, entry_tuple_iterator_next -> qgp, args_zip_next_1 -> qh7, args_int_rmul_2 -> qh8, slot_int_index -> qio, entry_zip_next -> qip, entry_int_rmul -> qiq, fills_int_mul -> qiH
open PySem.Heap renaming get?_push_of_some -> qaj, get?_push_size -> qaw, lt_size -> qax, size_push -> qbs, SameBut -> qc9, get?_update_other -> qdo, get?_push_ne -> qdr, get?_update_self -> qeE, get?_update_ne -> qhc, ExtBut -> qhd, size_update -> qhQ
open PySem.Heap.IsSliceOf renaming new -> qim
open PySem.Heap.SameBut renaming update -> qds
open PySem.IntMulOk renaming of_le -> qii
open PySem.IsL renaming update -> qe4
open PySem.Obj renaming mapSeq -> qcA, data_mapFields -> qd3, isFreed_of_fields -> qgU, cls_mapFields -> qhM
open PySem.Paired renaming length -> qeT, snoc -> qij
open PySem.PassesOwn renaming never -> qdy
open PySem.PyData renaming shownAll -> qbN, depthAll -> qda, depth -> qdp, showableAll -> qdR, hasDictAll -> qd2, shown -> qff, noDict_hsm -> qg5, showable -> qhy, hasDict -> qhL
open PySem.SeqAt renaming EqAt -> qdH, list_indexAt -> qfk, ne_of_list_tuple -> qgq, RcNeAt -> qih, RcAt -> qjs
open PySem.SeqAt.EqAt renaming of_refs -> qeA, same -> qfa, str_str -> qgk, str_int -> qgl, int_str -> qgm, int_int -> qgn, tuple_str -> qkG, tuple_none -> qkH, tuple_list -> qkI, tuple_int -> qkJ, tuple_bool -> qkK, str_tuple -> qkL, str_none -> qkM, str_list -> qkN, str_bool -> qkO, none_tuple -> qkP, none_str -> qkQ, none_list -> qkR, none_int -> qkS, none_bool -> qkT, list_tuple -> qkU, list_str -> qkV, list_none -> qkW, list_int -> qkX, list_bool -> qkY, int_tuple -> qkZ, int_none -> qk0, int_list -> qk1, int_bool -> qk2, bool_tuple -> qk3, bool_str -> qk4, bool_none -> qk5, bool_list -> qk6, bool_int -> qk7, bool_bool -> qk8
open PySem.SeqAt.RcAt renaming tuples -> qeP, lists_lengths -> qfp, lists -> qgE, tuple_str -> qj8, tuple_none -> qj9, tuple_list -> qka, tuple_int -> qkb, tuple_bool -> qkc, str_tuple -> qkd, str_str -> qke, str_none -> qkf, str_list -> qkg, str_int -> qkh, str_bool -> qki, none_tuple -> qkj, none_str -> qkk, none_none -> qkl, none_list -> qkm, none_int -> qkn, none_bool -> qko, list_tuple -> qkp, list_str -> qkq, list_none -> qkr, list_int -> qks, list_bool -> qkt, int_tuple -> qku, int_str -> qkv, int_none -> qkw, int_list -> qkx, int_int -> qky, int_bool -> qkz, bool_tuple -> qkA, bool_str -> qkB, bool_none -> qkC, bool_list -> qkD, bool_int -> qkE, bool_bool -> qkF
open PySem.SeqAt.RcNeAt renaming tuples -> qfP, tuple_str -> qiS, tuple_none -> qiT, tuple_list -> qiU, tuple_int -> qiV, tuple_bool -> qiW, str_tuple -> qiX, str_str -> qiY, str_none -> qiZ, str_list -> qi0, str_int -> qi1, str_bool -> qi2, none_tuple -> qi3, none_str -> qi4, none_none -> qi5, none_list -> qi6, none_int -> qi7, none_bool -> qi8, lists_lengths -> qi9, lists -> qja, list_tuple -> qjb, list_str -> qjc, list_none -> qjd, list_int -> qje, list_bool -> qjf, int_tuple -> qjg, int_str -> qjh, int_none -> qji, int_list -> qjj, int_int -> qjk, int_bool -> qjl, bool_tuple -> qjm, bool_str -> qjn, bool_none -> qjo, bool_list -> qjp, bool_int -> qjq, bool_bool -> qjr
open PySem.Value renaming isStrOf -> qh3, isInt -> qiB
open PySem.W renaming Frag -> qae, kia_one -> qbM, findIn -> qcf, keepIn -> qcC, emptyDict -> qcN, instObj -> qc5, cellsFrom_some -> qdd, fnOf -> qdK, hasDictIn -> qdW, plainGet -> qed, nsIn -> qen, plainOver -> qe3, takerIn -> qfq, makesIn -> qfr, OpenLaw -> qfs, lookIn -> qfJ, codeIn -> qfK, kitx_tuple -> qgO, callWith_K -> qgP, kitx_list -> qgS, kitx_dict -> qgT, handedIn -> qg4, kitOne -> qhx, mg_of -> qhJ, WalkO -> qhK, isFn -> qhR
open PySem.W.Looks renaming here -> qiE
open PySem.W.WShape renaming has -> qiA
open PySem.WalksT renaming enumerateD -> qe9
open PySem.Within renaming cons -> qjt
def U{α:Sort u}{a:α}:a=a:=rfl
def iFN{d:Decidable c}(h:¬c){α:Sort u}{t e:α}:ite c t e=e :=if_neg h
def iFP{d:Decidable c}(h:c){α:Sort u}{t e:α}:ite c t e=t :=if_pos h
namespace L2
open PySem PySem.Spec PyProof.Rows
abbrev Key:=Sum Int Str
noncomputable def qI:Key->Value->Bool
 |.inl k,v=>qiB k v
 |.inr x,v=>qh3 x v
noncomputable def HZ (w:World):Key->Int
 |.inl k=>hashInt k
 |.inr x=>hashStr w x
theorem bD:∀ {k:Key}{v:Value},qI k v=true->(∃ i t,k=Sum.inl i/\v=Value.int i t)\/(∃ x t,k=Sum.inr x/\v=Value.str x t)
 |.inl i,v,h=>by
  obtain⟨t,e⟩:=Value.isInt_shape h;exact .inl ⟨i,t,U,e⟩
 |.inr x,v,h=>by
  obtain⟨t,e⟩:=Value.isStrOf_shape h;exact .inr ⟨x,t,U,e⟩
theorem yG (i) (t):qI (.inl i) (.int i t)=true :=by simp[qI,qiB]
theorem yH (x) (t):qI (.inr x) (.str x t)=true :=by simp[qI,qh3]
theorem EI (a b):decide ((Sum.inl a:Key)=Sum.inl b)=(a==b) :=by
 by_cases e:a=b
 ·subst e;simp
 ·rw[decide_eq_false (λq=>e (Sum.inl.inj q))]
  exact (beq_eq_false_iff_ne.mpr e).symm
theorem EL (a b):decide ((Sum.inr a:Key)=Sum.inr b)=decide (a=b) :=by
 by_cases e:a=b
 ·simp
 ·rw[decide_eq_false (λq=>e (Sum.inr.inj q)),decide_eq_false e]
theorem EJ (a) (b):decide ((Sum.inl a:Key)=Sum.inr b)=false :=decide_eq_false (λq=>nomatch q)
theorem EK (a) (b):decide ((Sum.inr a:Key)=Sum.inl b)=false :=decide_eq_false (λq=>nomatch q)
def b5 (prog:qaR) (w:World):PySem.KeyKind prog w Key where
 is:=qI
 hash:=HZ w
 inj:=λv a b g hb=>by
  rcases bD g with⟨i,t,rfl,rfl⟩|⟨x,t,rfl,rfl⟩
  ·rcases bD hb with⟨j,u,rfl,e⟩|⟨y,u,rfl,e⟩
   ·injection e with c _;rw[c]
   ·exact nomatch e
  ·rcases bD hb with⟨j,u,rfl,e⟩|⟨y,u,rfl,e⟩
   ·exact nomatch e
   ·injection e with c _;rw[c]
 byValue:=λk v h=>by
  rcases bD h with⟨i,t,rfl,rfl⟩|⟨x,t,rfl,rfl⟩<;>rfl
 pyHash:=λd h=>by
  rcases bD d with⟨i,t,rfl,rfl⟩|⟨x,t,rfl,rfl⟩
  ·exact wpAny_pyHash_int h
  ·exact wpAny_pyHash_str h
 eqBool:=λf d h=>by
  rcases bD f with⟨i,t,rfl,rfl⟩|⟨x,t,rfl,rfl⟩
  ·rcases bD d with⟨j,u,rfl,rfl⟩|⟨y,u,rfl,rfl⟩
   ·rw[EI]at h;exact wpAny_eqBool_int h
   ·rw[EJ]at h;exact qgm i t y u _ _ _ _ h
  ·rcases bD d with⟨j,u,rfl,rfl⟩|⟨y,u,rfl,rfl⟩
   ·rw[EK]at h;exact qgl x t j u _ _ _ _ h
   ·rw[EL]at h;exact wpAny_eqBool_str h
 «strs»:=λk x t v h=>by
  rcases bD h with⟨i,u,rfl,e⟩|⟨y,u,rfl,e⟩
  ·exact nomatch e
  ·injection e with c _
   subst c;cases v<;>rfl
theorem uK (prog) (w) (i) (t):(b5 prog w).is (.inl i) (.int i t)=true :=yG i t
theorem uL (prog) (w) (x) (t):(b5 prog w).is (.inr x) (.str x t)=true :=yH x t
inductive V where
 |non|bl (b:Bool)|int (i:Int)|str (x:Str)|byt (b:Array UInt8)|flt (b:UInt64)|ref (a:Addr)|ty (n:String)
 deriving DecidableEq
def aN:V->Value->Prop
 |.non,u=>u=Value.none
 |.bl b,u=>u=Value.bool b
 |.int i,u=>∃ t,u=Value.int i t
 |.str x,u=>∃ t,u=Value.str x t
 |.byt b,u=>∃ t,u=Value.bytes b t
 |.flt b,u=>∃ t,u=Value.float b t
 |.ref a,u=>u=Value.ref a
 |.ty n,u=>u=Value.type n
abbrev aI:List V->List Value->Prop:=qge aN
theorem aI.length (r:aI xs a):xs.length=a.length :=qeT r
theorem aI.get:∀ {xs:List V}{a:List Value}{i:Nat}{x:V},aI xs a->xs[i]?=some x->∃ u,a[i]?=some u/\aN x u
 |_,_,_,_,.nil,e=>by simp at e
 |_,_,0,_,.cons r _,e=>by simp at e;subst e;exact⟨_,U,r⟩
 |_,_,i+1,x,.cons _ t,e=>by
  obtain⟨u,c,b⟩:=aI.get t (by simpa using e);exact⟨u,by simpa using c,b⟩
theorem aI.set {x:V}{u:Value} (r:aN x u):∀ {xs:List V}{a:List Value} (i:Nat),aI xs a->aI (xs.set i x) (a.set i u)
 |_,_,_,.nil=>.nil
 |_,_,0,.cons _ t=>.cons r t
 |_,_,i+1,.cons q t=>.cons q (aI.set r i t)
theorem aI.append:∀ {xs a:List V}{b ws:List Value},aI xs b->aI a ws->aI (xs++a) (b++ws)
 |_,_,_,_,.nil,s=>s
 |_,_,_,_,.cons r t,s=>.cons r (aI.append t s)
theorem aI.take:∀ {xs:List V}{a:List Value} (n:Nat),aI xs a->aI (xs.take n) (a.take n)
 |_,_,0,_=>.nil
 |_,_,_+1,.nil=>.nil
 |_,_,n+1,.cons r t=>.cons r (aI.take n t)
theorem aI.drop:∀ {xs:List V}{a:List Value} (n:Nat),aI xs a->aI (xs.drop n) (a.drop n)
 |_,_,0,r=>r
 |_,_,_+1,.nil=>.nil
 |_,_,n+1,.cons _ t=>aI.drop n t
def mo:Option V->Option Value->Prop
 |some v,some u=>aN v u
 |none,none=>True
 |_,_=>False
def KV {a:Type}:List (a×V)->List (a×Value)->Prop:=qge λ(p:a×V) (q:a×Value)=>p.1=q.1/\aN p.2 q.2
noncomputable def kV:Key->V
 |.inl i=>.int i
 |.inr x=>.str x
inductive HO where
 |lst (xs:List V)
 |tup (xs:List V)
 |dK (kvs:List (Key×V))|dT (kvs:List (List Key×V))
 |set (S:Int->Bool) (n:Nat)
 |ins (C dx:Addr) (fs:List (Str×V))
 |own (x:Addr)
 |xd (fs:List (Str×V))
 |met (f x:Addr)
 |rng (lo hi:Int)
 |frz (o:Obj) (u:HO)
 |tbl (ps:Array Value)
 |ext (φ:Heap->Prop)
abbrev Hp:=Addr->Option HO
noncomputable def upd (H:Hp) (a:Addr) (o:HO):Hp:=λb=>if b=a then some o else H b
theorem upd_same :upd H a o a=some o :=by unfold upd;rw[iFP U]
theorem upd_ne (h:b≠a):upd H a o b=H b :=by unfold upd;rw[iFN h]
theorem GL {H:Hp}(h:H a=some o) (h':H b=some u) (d:o≠u):a≠b :=by
 intro e;subst e;rw[h]at h';exact d (qaP h')
theorem aK {H:Hp}(h:H a=some o) (h':H b=none):a≠b :=by
 intro e;subst e;rw[h]at h';cases h'
def eR (h:Heap) (a:Addr) (b:Array Value):Prop:=∃ o:Obj,h.get? a=some o/\o.cls=.type "tuple"/\(∃ n,o.data=.seq b n)/\o.dict=none
theorem eR.tup (x:eR h a b):IsTup h a b :=let ⟨o,e,c,n,_⟩:=x;⟨o,e,c,n⟩
theorem eR.new (h:Heap) (a):eR (h.push { cls:=.type "tuple",data:=.seq a }) h.objs.size a :=⟨_,qaw _ U,U,⟨_,U⟩,U⟩
section
variable (P:qaR) (w:World)
def cb (H:Hp) (h:Heap) (a:Addr):HO->Prop
 |.lst xs=>xs.length<=qaG/\∃ (c:List Value) (n:Nat),aI xs c/\h.get? a=some { cls:=.type "list",data:=.seq c.toArray n }
 |.tup xs=>xs.length<=qaG/\∃ c:List Value,aI xs c/\eR h a c.toArray
 |.dK b=>b.length<=qaG/\(a==qcq)=false/\∃ j,KV b j/\h.DictOf (b5 P w) a j
 |.dT b=>b.length<=qaG/\(a==qcq)=false/\∃ xs:List (List Key×Addr×Value),
   qge (λ(p:List Key×V) (q:List Key×Addr×Value)=>p.1=q.1/\H q.2.1=some (.tup (p.1.map kV))/\aN p.2 q.2.2) b xs/\
   ∃ o es k,h.get? a=some o/\o.ExactDict/\o.data=.dict es k/\es.toList=xs.map (entryOfKey (qgz (b5 P w)))/\(xs.map (·.1)).Nodup
 |.set S n=>h.SetOf (intKind P w) a S n
 |.ins C e fs=>H e=some (.own a)/\fs.length<=1000/\e≠a/\h.get? a=some (qc5 C e)/\
   ∃ d,h.Ns1 e d/\(∀ f,mo (fs.lookup f) (d f))/\qgG d (fs.map (·.1))
 |.own _=>∃ o,h.get? a=some o
 |.xd fs=>∃ d,h.Ns1 a d/\∀ f,mo (fs.lookup f) (d f)
 |.rng lo hi=>∃ t u v,h.get? a=some { cls:=.type "range",data:=.fields #[.int lo t,.int hi u,.int 1 v] }
 |.frz o u=>h.get? a=some o/\cb H h a u
 |.tbl ps=>h.get? a=some { cls:=.none,data:=.fields ps }
 |.met f x=>h.get? a=some (PySem.W.methodObj (.ref f) (.ref x))
 |.ext φ=>φ h/\(∃ o,h.get? a=some o)/\∀ g i:Heap,φ g->(∀ o,g.get? a=some o->i.get? a=some o)->φ i
def HOk (H:Hp) (h:Heap):Prop:=∀ a o,H a=some o->cb P w H h a o
end
section
variable {P:qaR}{w:World}{H H':Hp}{h h':Heap}{a:Addr}{o:HO}
theorem cb.lt (x:cb P w H h a o):a<h.objs.size:=by
 cases o with
 |lst xs=>obtain⟨_,_,_,_,e⟩:=x;exact qax e
 |tup xs=>obtain⟨_,_,_,p⟩:=x;exact p.tup.lt
 |dK l=>obtain⟨_,_,_,_,o,_,_,e,_⟩:=x;exact qax e
 |dT l=>obtain⟨_,_,_,_,o,_,_,e,_⟩:=x;exact qax e
 |set S n=>obtain⟨o,_,_,_,e,_⟩:=x;exact qax e
 |ins C I fs=>obtain⟨_,_,_,e,_⟩:=x;exact qax e
 |own y=>obtain⟨_,e⟩:=x;exact qax e
 |xd fs=>obtain⟨_,⟨_,_,_,e,_⟩,_⟩:=x;exact qax e
 |rng lo hi=>obtain⟨_,_,_,e⟩:=x;exact qax e
 |frz ob u=>obtain⟨e,_⟩:=x;exact qax e
 |tbl ps=>exact qax (x)
 |met f y=>exact qax (x)
 |ext φ=>obtain⟨_,⟨_,e⟩,_⟩:=x;exact qax e
theorem qge.mapP :∀ {j:List α}{i},qge F j i->(∀ a b,F a b->G a b)->qge G j i
 |_,_,.nil,_=>.nil
 |_,_,.cons r t,f=>.cons (f _ _ r) (qge.mapP t f)
theorem cb.stay (x:cb P w H h a o) (k:∀ b u,(b=a\/H b=some (.own a))->h.get? b=some u->h'.get? b=some u)
  (M:∀ b,H b=some (.own a)->H' b=some (.own a)) (E:∀ b xs,H b=some (.tup xs)->H' b=some (.tup xs)):cb P w H' h' a o:=by
 induction o with
 |lst xs=>obtain⟨z,m,n,r,e⟩:=x;exact⟨z,m,n,r,k _ _ (.inl U) e⟩
 |tup xs=>obtain⟨z,m,r,ob,e,c⟩:=x;exact⟨z,m,r,ob,k _ _ (.inl U) e,c⟩
 |dK l=>obtain⟨z,y,L,r,ob,es,g,e,c⟩:=x;exact⟨z,y,L,r,ob,es,g,k _ _ (.inl U) e,c⟩
 |dT l=>
  obtain⟨z,y,xs,r,ob,es,g,e,c⟩:=x;exact⟨z,y,xs,qge.mapP r λp q z=>⟨z.1,E _ _ z.2.1,z.2.2⟩,ob,es,g,k _ _ (.inl U) e,c⟩
 |set S n=>obtain⟨ob,es,g,t,e,c⟩:=x;exact⟨ob,es,g,t,k _ _ (.inl U) e,c⟩
 |ins C I fs=>
  obtain⟨d,z,ne,e,s,⟨A,es,g,D,c⟩,r⟩:=x;exact⟨M _ d,z,ne,k _ _ (.inl U) e,s,⟨A,es,g,k _ _ (.inr d) D,c⟩,r⟩
 |own y=>obtain⟨ob,e⟩:=x;exact⟨ob,k _ _ (.inl U) e⟩
 |xd fs=>obtain⟨s,⟨A,es,g,e,c⟩,r⟩:=x;exact⟨s,⟨A,es,g,k _ _ (.inl U) e,c⟩,r⟩
 |rng lo hi=>obtain⟨t,u,v,e⟩:=x;exact⟨t,u,v,k _ _ (.inl U) e⟩
 |frz ob u J=>obtain⟨e,q⟩:=x;exact⟨k _ _ (.inl U) e,J q⟩
 |tbl ps=>
  exact k a _ (.inl U) x
 |met f y=>
  exact k a _ (.inl U) x
 |ext φ=>obtain⟨p,⟨o,e⟩,st⟩:=x;exact⟨st _ _ p λo q=>k _ _ (.inl U) q,⟨o,k _ _ (.inl U) e⟩,st⟩
theorem HOk.lt (x:HOk P w H h) (e:H a=some o):a<h.objs.size:=(x a o e).lt
theorem HOk.fresh (x:HOk P w H h) (e:h.objs.size<=a):H a=none:=by
 cases q:H a with
 |none=>rfl
 |some u=>exact absurd (qaO (x.lt q) e) (qbb _)
theorem HOk.kept (x:HOk P w H h) (k:∀ b u,h.get? b=some u->h'.get? b=some u):HOk P w H h':=λa o e=>
 (x a o e).stay (λb u _ q=>k b u q) (λ_ q=>q) λ_ _ q=>q
theorem HOk.laid (x:HOk P w H h) (k:∀ b u,h.get? b=some u->h'.get? b=some u) (K:h.objs.size<=a) (new:cb P w (upd H a o) h' a o):HOk P w (upd H a o) h':=λb u e=>by
 have hn:=x.fresh K;by_cases hb:b=a
 ·subst hb;rw[upd_same]at e;cases e;exact new
 ·rw[upd_ne hb]at e
  exact (x b u e).stay (λc v _ q=>k c v q) (λc q=>by rw[upd_ne (aK q hn)];exact q) λc xs q=>by rw[upd_ne (aK q hn)];exact q
end
def Rd (H:Hp) (a:Addr) (u:HO):Prop:=H a=some u\/∃ o,H a=some (.frz o u)
theorem Rd.of (h:H a=some u):Rd H a u :=.inl h
theorem Rd.ok (r:Rd H a u) (x:HOk P w H h):cb P w H h a u :=by
 rcases r with r|⟨o,r⟩
 ·exact x a u r
 ·obtain⟨_,q⟩:=x a _ r
  exact q
def Mut:Option HO->Prop
 |some (.lst _)=>True
 |some (.dK _)=>True
 |some (.dT _)=>True
 |some (.set _ _)=>True
 |some (.ins _ _ _)=>True
 |some (.ext _)=>True
 |_=>False
section
variable {P:qaR}{w:World}{H:Hp}{h h':Heap}{x e:Addr}{i:HO}
theorem HOk.write (ok:HOk P w H h) (f:Mut (H x)) (m:e=x\/H e=some (.own x)) (k:∀ b u,b≠e->h.get? b=some u->h'.get? b=some u) (j:∃ u,h'.get? e=some u)
  (new:cb P w (upd H x i) h' x i):HOk P w (upd H x i) h':=λb u q=>by
 have d:∀ c y,H c=some (.own y)->c≠x:=λc y r z=>by subst z;rw[r]at f;exact f
 by_cases hb:b=x
 ·subst hb;rw[upd_same]at q;cases q;exact new
 ·rw[upd_ne hb]at q
  by_cases a:b=e
  ·have l:H b=some (.own x):=by
    rcases m with z|z
    ·exact absurd (a.trans z) hb
    ·rw[a];exact z
   rw[q]at l;cases l;obtain⟨v,n⟩:=j;exact⟨v,by rw[a];exact n⟩
  ·refine (ok b u q).stay (λc v g r=>k c v ?_ r) (λc r=>by rw[upd_ne (d c b r)];exact r) λc xs r=>by rw[upd_ne ((λc xs r z=>by subst z;rw[r]at f;exact f) c xs r)];exact r
   rcases g with rfl|g
   ·exact a
   ·rintro rfl
    rcases m with z|z
    ·exact d c b g z
    ·rw[g]at z;cases z;exact hb U
end
structure Un (fs ex:List Addr) (H H':Hp) (h h':Heap):Prop where
 keep:∀ b o,h.get? b=some o->H b=none->b∉fs->b∉ex->h'.get? b=some o
 slot:∀ b o,h.get? b=some o->H b=none->b∈fs->b∉ex->∃ sl,h'.get? b=some { o with slots:=sl }
 free:∀ b o,h.get? b=some o->H b=none->b∉ex->H' b=none
 there:∀ b o,h.get? b=some o->b∉ex->∃ o',h'.get? b=some o'
 tups:∀ b xs,H b=some (.tup xs)->H' b=some (.tup xs)
 frzs:∀ b o u,H b=some (.frz o u)->H' b=some (.frz o u)
 tbls:∀ b ps,H b=some (.tbl ps)->∃ more,H' b=some (.tbl (ps++more))
section
variable {fs j ex i:List Addr}{H H1 H2:Hp}{h g s h':Heap}{a x e:Addr}{o:HO}
theorem Un.any (u:Un fs ex H H1 h g) (q:h.get? b=some ob) (n:H b=none) (hx:b∉ex):∃ l,g.get? b=some { ob with slots:=l } :=by
 by_cases hb:b∈fs
 ·exact u.slot b ob q n hb hx
 ·exact⟨ob.slots,u.keep b ob q n hb hx⟩
theorem Un.kept (k:∀ b u,h.get? b=some u->h'.get? b=some u):Un fs ex H H h h':=
 ⟨λb ob q _ _ _=>k b ob q,λb ob q _ _ _=>⟨ob.slots,k b ob q⟩,λ_ _ _ n _=>n,λb ob q _=>⟨ob,k b ob q⟩,λ_ _ q=>q,λ_ _ _ q=>q,λ_ ps q=>⟨#[],by rw[q];simp⟩⟩
theorem Un.refl:Un fs ex H H h h:=Un.kept λ_ _ q=>q
theorem Un.laid (k:∀ b u,h.get? b=some u->h'.get? b=some u) (m:h.objs.size<=a) (hn:H a=none):Un fs ex H (upd H a o) h h' where
 keep:=λb u q _ _ _=>k b u q
 slot:=λb u q _ _ _=>⟨u.slots,k b u q⟩
 free:=λb u q n _=>by rw[upd_ne (qaH (qaO (qax q) m))];exact n
 there:=λb u q _=>⟨u,k b u q⟩
 tups:=λb xs q=>by rw[upd_ne (aK q hn)];exact q
 frzs:=λb u xs q=>by rw[upd_ne (aK q hn)];exact q
 tbls:=λb ps q=>⟨#[],by rw[upd_ne (aK q hn),q];simp⟩
theorem Un.write (d:Mut (H x)) (p:e=x\/H e=some (.own x)) (k:∀ b u,b≠e->h.get? b=some u->h'.get? b=some u) (f:∃ u,h'.get? e=some u):Un fs ex H (upd H x o) h h':=by
 have hx:∀ b,H b=none->b≠x:=λb n z=>by subst z;rw[n]at d;exact d
 have hb:∀ b,H b=none->b≠e:=λb n z=>by
  subst z;rcases p with r|r
  ·exact hx b n r
  ·rw[n]at r;cases r
 have hm:∀ b u,H b=some u->¬ Mut (some u)->b≠x:=λb u q nm z=>by subst z;rw[q]at d;exact nm d
 refine⟨λb u q n _ _=>k b u (hb b n) q,λb u q n _ _=>⟨u.slots,k b u (hb b n) q⟩,λb u q n _=>by rw[upd_ne (hx b n)];exact n,λb u q _=>?_,
  λb xs q=>by rw[upd_ne (hm b _ q λz=>z)];exact q,λb u xs q=>by rw[upd_ne (hm b _ q λz=>z)];exact q,λb ps q=>⟨#[],by rw[upd_ne (hm b _ q λz=>z),q];simp⟩⟩
 by_cases c:b=e
 ·subst c;exact f
 ·exact⟨u,k b u c q⟩
end
noncomputable def trk (h:Heap) (H:Hp):List Addr:=(qai h.objs.size).filter λa=>(H a).isSome
def yw (h:Heap) (H:Hp):Heap:=PySem.W.hideAll h (trk h H)
theorem yx (h) (H):(yw h H).objs.size=h.objs.size :=PySem.W.hideAll_size _ _
theorem zL (e:h.get? b=some o) (n:H b=none):(yw h H).get? b=some o :=
 PySem.W.hideAll_get _ e λhm=>by
  have q:=(qbm.mp hm).2;rw[n]at q;simp at q
theorem Cy (e:(yw h H).get? b=some o):h.get? b=some o/\H b=none :=by
 have a:=PySem.W.of_hideAll _ e;refine⟨a,?_⟩;cases q:H b with
 |none=>rfl
 |some x=>
  have z:(yw h H).get? b=none:=PySem.W.hideAll_none _ (qbm.mpr ⟨qaE.mpr (qax a),by simp[q]⟩);rw[z]at e;cases e
structure Mod (K:qae) (mg:Str->Option Value) (base:Heap):Prop where
 kin:K.In base
 glob:base.Ns qb9 mg
 blt:∃ mb,base.Ns qg3 mb/\∀ x:Str,x≠"__name__"->mb x=qce x
 nolimit:base.NoLimit
structure Cx where
 prog:qaR
 w:World
 K:qae
 mg:Str->Option Value
 base:Heap
 A:qa2
 N:List Str
 s₀:qak
 H₀:Hp
 env:Env
 outer:List Env
 stack:List Env
 ex:List Addr
 fn:Str->Bool
 calm:Bool
 pn:List (Addr×Obj)
 xe:Value->qak->Prop
noncomputable def frs (l:List Env):List Addr:=l.filterMap (·.frame)
abbrev Cx.fs (X:Cx):List Addr:=frs X.outer
def Vis (a:Scope) (x:Str):Prop:=a.names.lookup x=some .local\/a.names.lookup x=some .cell\/a.names.lookup x=some .free
def Loc (a:Scope) (x:Str):Prop:=a.names.lookup x=some .local\/a.names.lookup x=some .cell
def HF (env:Env) (h:Heap) (m:Str->Option Value) (x:Str) (u:Value):Prop:=
 (env.kindOf x=some .local/\m x=some u)\/((env.kindOf x=some .cell\/env.kindOf x=some .free)/\∃ c,env.cells.lookup x=some c/\h.IsCell c (some u))
structure Cx.Ok (X:Cx):Prop where
 mod:Mod X.K X.mg X.base
 kind:X.env.scope.kind=.function
 glob:X.env.globals=qb9
 blt:X.env.builtins=qg3
 above:X.s₀.heap.objs.size<=X.env.locals
 inj:∀ x y c,X.env.cells.lookup x=some c->X.env.cells.lookup y=some c->x=y
 has:∀ x,(X.env.kindOf x=some .cell\/X.env.kindOf x=some .free)->∃ c,X.env.cells.lookup x=some c
 cab:∀ x c,X.fn x=true->X.env.cells.lookup x=some c->X.s₀.heap.objs.size<=c
 hd:X.calm=true->X.A.handled=none
 frames:X.A.frames=some X.stack
 stk:X.stack=X.outer\/(X.stack=X.env::X.outer/\X.env.frame=some X.env.locals)
 exf:∀ b∈X.ex,b≠X.env.locals/\∀ x c,X.env.cells.lookup x=some c->c≠b
 bs:∀ b o,X.base.get? b=some o->X.s₀.heap.get? b=some o/\X.H₀ b=none
 bsz:X.base.objs.size<=X.s₀.heap.objs.size
 noex:∀ b o,X.base.get? b=some o->b∉X.ex
 exfs:∀ b∈X.ex,b∉X.fs
 funs:X.s₀.heap.FunFrames X.base X.outer
 frf:∀ b∈X.fs,X.H₀ b=none
structure Inv (X:Cx) (pins:List (Addr×Obj)) (σ:List (Option V)) (H:Hp) (s:qak):Prop where
 ok:X.Ok
 os:s.os=X.s₀.os
 bare:qfx s.gens
 base:Un X.fs X.ex X.H₀ H X.s₀.heap s.heap
 loc:∃ m,s.heap.Ns X.env.locals m/\∀ (i:Nat) (x:Str) (v:V),X.N[i]?=some x->σ[i]?=some (some v)->Vis X.env.scope x->∃ u,aN v u/\HF X.env s.heap m x u
 cell:∀ x c,X.env.cells.lookup x=some c->∃ v,s.heap.IsCell c v
 free:H X.env.locals=none
 freeC:∀ x c,X.env.cells.lookup x=some c->H c=none
 pin:∀ p∈X.pn++pins,s.heap.get? p.1=some p.2/\H p.1=none/\p.1≠X.env.locals/\p.1∉X.fs/\∀ v,p.2.data≠.cell v
 hok:HOk X.prog X.w H s.heap
 len:σ.length=X.N.length
section
variable {X:Cx}{f:List (Addr×Obj)}{g:List (Option V)}{H H':Hp}{s:qak}{h':Heap}
theorem Cx.Ok.nofr (ok:X.Ok) (e:X.base.get? b=some o):b∉X.fs :=λhb=>by
 have:=(ok.funs.mem hb).1
 rw[e]at this;cases this
theorem Inv.bs (I:Inv X f g H s):∀ b o,X.base.get? b=some o->s.heap.get? b=some o/\H b=none:=λb o e=>
 ⟨I.base.keep b o (I.ok.bs b o e).1 (I.ok.bs b o e).2 (I.ok.nofr e) (I.ok.noex b o e),I.base.free b o (I.ok.bs b o e).1 (I.ok.bs b o e).2 (I.ok.noex b o e)⟩
theorem Inv.bk (I:Inv X f g H s):∀ b o,X.base.get? b=some o->s.heap.get? b=some o:=λb o e=>(I.bs b o e).1
theorem Inv.mod (I:Inv X f g H s):Mod X.K X.mg X.base:=I.ok.mod
theorem Inv.kIn (I:Inv X f g H s):X.K.In s.heap:=I.ok.mod.kin.keeps I.bk
theorem Inv.fr (I:Inv X f g H s):∃ m,Fr X.base X.env.locals s.heap m:=
 let ⟨m,hn,_⟩:=I.loc
 ⟨m,hn,I.bk,qaD I.ok.bsz I.ok.above⟩
theorem Inv.lt (I:Inv X f g H s):X.env.locals<s.heap.objs.size:=let ⟨_,hn,_⟩:=I.loc;hn.lt
theorem Inv.sz (I:Inv X f g H s):X.s₀.heap.objs.size<=s.heap.objs.size:=qaD I.ok.above (qeL I.lt)
theorem Inv.nofs (I:Inv X f g H s) {a:Addr} (h:s.heap.objs.size<=a):a∉X.fs:=λhb=>by
 obtain⟨_,o,D,_⟩:=I.ok.funs.mem hb;exact absurd (qaO (qax D) (qaD I.sz h)) (qbb _)
theorem Inv.cne (I:Inv X f g H s):∀ x c,X.env.cells.lookup x=some c->c≠X.env.locals:=λx c e z=>by
 obtain⟨v,o,D,hd⟩:=I.cell x c e;obtain⟨m,⟨P,es,ep,O,hd',_⟩,_⟩:=I.loc;rw[z,O]at D;cases D;rw[hd']at hd;cases hd
theorem Inv.funs (I:Inv X f g H s):s.heap.FunFrames X.base X.outer:=by
 have all:∀ (l:List Env),(∀ b∈frs l,b∈X.fs)->X.s₀.heap.FunFrames X.base l->s.heap.FunFrames X.base l:=by
  intro l
  induction l with
  |nil=>intro _ _;trivial
  |cons env r ih=>
   intro F hl;obtain⟨hk,⟨L,o,Y,hn,D,hd⟩,hr⟩:=hl;have R:=F L (by unfold frs;rw[qeV,Y];exact qag);obtain⟨sl,e⟩:=I.base.slot L o D (I.ok.frf L R) R λz=>I.ok.exfs L z R;exact⟨hk,⟨L,_,Y,hn,e,hd⟩,ih (λb hb=>F b (by unfold frs;rw[qeV,Y];exact qah _ hb)) hr⟩
 exact all X.outer (λ_ hb=>hb) I.ok.funs
theorem Inv.stack (I:Inv X f g H s):s.heap.FunFrames X.base X.stack:=by
 rcases I.ok.stk with e|⟨e,Y⟩
 ·rw[e];exact I.funs
 ·rw[e]
  obtain⟨m,hn,_⟩:=I.loc;refine .cons (by rw[I.ok.kind];decide) Y hn ?_ I.funs;exact Heap.get?_none_of_le (qaD I.ok.bsz I.ok.above)
theorem Inv.stkSub (I:Inv X f g H s):∀ b∈frs X.stack,b∈X.env.locals::X.fs:=λb hb=>by
 rcases I.ok.stk with e|⟨e,Y⟩
 ·rw[e]at hb;exact qah _ hb
 ·rw[e]at hb
  unfold frs at hb;rw[qeV,Y]at hb;exact hb
theorem Inv.stkFree (I:Inv X f g H s):∀ b∈frs X.stack,H b=none:=λb hb=>by
 rcases qav.mp (I.stkSub b hb) with e|hb
 ·rw[e];exact I.free
 ·obtain⟨_,o,D,_⟩:=I.ok.funs.mem hb
  exact I.base.free b o D (I.ok.frf b hb) λz=>I.ok.exfs b z hb
theorem Inv.step {ch:List Addr} (I:Inv X f g H s)
  (G:∀ b∈ch,(b∈X.ex\/X.s₀.heap.objs.size<=b)/\b≠X.env.locals/\(∀ x c,X.env.cells.lookup x=some c->c≠b)/\∀ p∈X.pn++f,p.1≠b)
  (keep:∀ b o,b≠X.env.locals->b∉X.fs->b∉ch->s.heap.get? b=some o->H b=none->h'.get? b=some o)
  (slot:∀ b o,b≠X.env.locals->b∈X.fs->b∉ch->s.heap.get? b=some o->H b=none->∃ sl,h'.get? b=some { o with slots:=sl }) (free:∀ b o,b∉ch->s.heap.get? b=some o->H b=none->H' b=none)
  (there:∀ b o,b∉ch->s.heap.get? b=some o->∃ P,h'.get? b=some P)
  (tups:∀ b xs,H b=some (.tup xs)->H' b=some (.tup xs)) (frzs:∀ b o u,H b=some (.frz o u)->H' b=some (.frz o u)) (tbls:∀ b ps,H b=some (.tbl ps)->∃ more,H' b=some (.tbl (ps++more)))
  (ns:∀ m,s.heap.Ns X.env.locals m->h'.Ns X.env.locals m) (hok:HOk X.prog X.w H' h') (hg:qfx g') :
  Inv X f g H' { s with heap:=h',gens:=g',drawn:=d',toks:=t' } :=by
 have neL:∀ b o,X.s₀.heap.get? b=some o->b≠X.env.locals:=λb o e=>qaH (qaO (qax e) I.ok.above);have neC:∀ b o,X.s₀.heap.get? b=some o->b∉X.ex->b∉ch:=λb o e hx hb=>by
  rcases (G b hb).1 with z|z
  ·exact hx z
  ·exact absurd (qaO (qax e) z) (qbb _)
 have cellK:∀ x c,X.env.cells.lookup x=some c->∀ v,s.heap.IsCell c v->h'.IsCell c v:=λx c e v ⟨o,D,hd⟩=>by
  have W:=λz=>(G c z).2.2.1 x c e U;by_cases B:c∈X.fs
  ·obtain⟨sl,q⟩:=slot c o (I.cne x c e) B W D (I.freeC x c e)
   exact⟨_,q,hd⟩
  ·exact⟨o,keep c o (I.cne x c e) B W D (I.freeC x c e),hd⟩
 refine⟨I.ok,I.os,hg,⟨λb o e n hb hx=>?_,λb o e n hb hx=>?_,λb o e n hx=>?_,λb o e hx=>?_,λb xs e=>tups b xs (I.base.tups b xs e),λb o xs e=>frzs b o xs (I.base.frzs b o xs e),λb ps e=>?_⟩,?_,λx c e=>?_,?_,λx c e=>?_,λp S=>?_,hok,I.len⟩
 ·exact keep b o (neL b o e) hb (neC b o e hx) (I.base.keep b o e n hb hx) (I.base.free b o e n hx)
 ·obtain⟨sl,C⟩:=I.base.slot b o e n hb hx
  obtain⟨sl',J⟩:=slot b _ (neL b o e) hb (neC b o e hx) C (I.base.free b o e n hx);exact⟨sl',J⟩
 ·obtain⟨P,C⟩:=I.base.there b o e hx
  exact free b P (neC b o e hx) C (I.base.free b o e n hx)
 ·obtain⟨P,C⟩:=I.base.there b o e hx
  exact there b P (neC b o e hx) C
 ·obtain⟨m1,C⟩:=I.base.tbls b ps e
  obtain⟨m2,J⟩:=tbls b _ C;exact⟨_,by rw[J,Array.append_assoc]⟩
 ·obtain⟨m,hn,hl⟩:=I.loc
  refine⟨m,ns m hn,λi x v C J e3=>?_⟩;obtain⟨u,r,l⟩:=hl i x v C J e3;refine⟨u,r,?_⟩;rcases l with l|⟨k,c,e,z⟩
  ·exact .inl l
  ·exact .inr ⟨k,c,e,cellK x c e _ z⟩
 ·obtain⟨v,z⟩:=I.cell x c e
  exact⟨v,cellK x c e v z⟩
 ·obtain⟨m,⟨o,_,_,D,_⟩,_⟩:=I.loc
  exact free _ o (λz=>(G _ z).2.1 U) D I.free
 ·obtain⟨v,o,D,hd⟩:=I.cell x c e
  exact free c o (λz=>(G c z).2.2.1 x c e U) D (I.freeC x c e)
 ·obtain⟨e,n,ne,nf,d⟩:=I.pin p S
  have W:=λz=>(G p.1 z).2.2.2 p S U;exact⟨keep p.1 p.2 ne nf W e n,free p.1 p.2 W e n,ne,nf,d⟩
theorem Inv.un (I:Inv X f g H s) (u:Un X.fs [] H H' s.heap h') (hok:HOk X.prog X.w H' h'):Inv X f g H' { s with heap:=h',toks:=t' } :=by
 obtain⟨m,⟨o,es,ep,D,r⟩,_⟩:=id I.loc;obtain⟨sl,R⟩:=u.any D I.free (by simp)
 exact I.step (ch:=[]) (λ_ z=>nomatch z) (λb o _ hb _ e n=>u.keep b o e n hb (by simp)) (λb o _ hb _ e n=>u.slot b o e n hb (by simp)) (λb o _ e n=>u.free b o e n (by simp)) (λb o _ e=>u.there b o e (by simp)) u.tups u.frzs u.tbls (λm' hm=>by
  obtain⟨P,es',ep',O,r'⟩:=hm;rw[D]at O;cases O
  exact⟨_,es',ep',R,r'⟩) hok I.bare
theorem Inv.call (I:Inv X f g H s) (u:Un (frs X.stack) ch H H' s.heap h') (hok:HOk X.prog X.w H' h') (hg:qfx g')
  (G:∀ b∈ch,(b∈X.ex\/X.s₀.heap.objs.size<=b)/\b≠X.env.locals/\(∀ x c,X.env.cells.lookup x=some c->c≠b)/\∀ p∈X.pn++f,p.1≠b) :
  Inv X f g H' { s with heap:=h',gens:=g',drawn:=d',toks:=t' } :=by
 obtain⟨m,⟨o,es,ep,D,r⟩,_⟩:=id I.loc;obtain⟨sl,R⟩:=u.any D I.free λz=>(G _ z).2.1 U
 exact I.step G (λb o R hb B e n=>u.keep b o e n (λz=>(qav.mp (I.stkSub b z)).elim R hb) B) (λb o _ _ B e n=>u.any e n B) (λb o B e n=>u.free b o e n B) (λb o B e=>u.there b o e B) u.tups u.frzs u.tbls (λm' hm=>by
  obtain⟨P,es',ep',O,r'⟩:=hm;rw[D]at O;cases O
  exact⟨_,es',ep',R,r'⟩) hok hg
theorem Inv.turned (I:Inv X f g H s) (k:∀ b o,b≠it->s.heap.get? b=some o->h'.get? b=some o) (hn:H it=none) (R:it≠X.env.locals)
  (h1:it∈X.ex\/X.s₀.heap.objs.size<=it) (h2:∀ x c,X.env.cells.lookup x=some c->c≠it) (h3:∀ p∈X.pn++f,p.1≠it):Inv X f g H { s with heap:=h',toks:=t' } :=by
 have nit:∀ b u,H b=some u->b≠it:=λb u e z=>by rw[z,hn]at e;cases e
 refine I.step (ch:=[it]) (λb hb=>?_) (λb o _ _ B e _=>k b o (λz=>B (by simp[z])) e) (λb o _ _ B e _=>⟨o.slots,k b o (λz=>B (by simp[z])) e⟩) (λ_ _ _ _ n=>n)
  (λb o B e=>⟨o,k b o (λz=>B (by simp[z])) e⟩) (λ_ _ e=>e) (λ_ _ _ e=>e) (λb ps e=>⟨#[],by rw[e];simp⟩) (λm hm=>?_) (λb u e=>?_) I.bare
 ·have e:=by simpa using hb
  subst e;exact⟨h1,R,h2,h3⟩
 ·obtain⟨o,es,ep,D,r⟩:=hm
  exact⟨o,es,ep,k _ o (qbF R) D,r⟩
 ·refine (I.hok b u e).stay (λc v B q=>k c v ?_ q) (λ_ q=>q) λ_ _ q=>q
  rcases B with z|z
  ·rw[z];exact nit b u e
  ·exact nit c _ z
theorem Inv.tok (I:Inv X f g H s) (t):Inv X f g H { s with toks:=t } :=I.un Un.refl I.hok
theorem Inv.kept (I:Inv X f g H s) (k:∀ b u,s.heap.get? b=some u->h'.get? b=some u):Inv X f g H { s with heap:=h',toks:=t' } :=I.un (Un.kept k) (I.hok.kept k)
theorem Inv.laid {a:Addr}(I:Inv X f g H s) (k:∀ b u,s.heap.get? b=some u->h'.get? b=some u) (S:s.heap.objs.size<=a) (new:cb X.prog X.w (upd H a o) h' a o) :
  Inv X f g (upd H a o) { s with heap:=h',toks:=t' } :=I.un (Un.laid k S (I.hok.fresh S)) (I.hok.laid k S new)
theorem Inv.write (I:Inv X f g H s) (mu:Mut (H x)) (he:e=x\/H e=some (.own x)) (k:∀ b u,b≠e->s.heap.get? b=some u->h'.get? b=some u) (heo:∃ u,h'.get? e=some u)
  (new:cb X.prog X.w (upd H x o) h' x o):Inv X f g (upd H x o) { s with heap:=h',toks:=t' } :=I.un (Un.write mu he k heo) (I.hok.write mu he k heo new)
theorem Inv.weak (I:Inv X f g H s) (hl:σ'.length=g.length) (w:∀ (i:Nat) v,σ'[i]?=some (some v)->g[i]?=some (some v)):Inv X f σ' H s :=
 ⟨I.ok,I.os,I.bare,I.base,let ⟨m,hn,hl'⟩:=I.loc;⟨m,hn,λi x v C J e3=>hl' i x v C (w i v J) e3⟩,I.cell,I.free,I.freeC,I.pin,I.hok,hl.trans I.len⟩
theorem Inv.pins_of (I:Inv X f g H s) (h:∀ p∈T,s.heap.get? p.1=some p.2/\H p.1=none/\p.1≠X.env.locals/\p.1∉X.fs/\∀ v,p.2.data≠.cell v):Inv X T g H s :=
 ⟨I.ok,I.os,I.bare,I.base,I.loc,I.cell,I.free,I.freeC,λp S=>(qaV.mp S).elim (λz=>I.pin p (qbd _ z)) (h p),I.hok,I.len⟩
theorem uN {N:List Str} (hN:N.Nodup) { j:Nat}(a:N[i]?=some x) (b:N[j]?=some x):i=j :=by
 obtain⟨h1,C⟩:=qas.mp a;obtain⟨h2,J⟩:=qas.mp b;exact (qdD hN).mp (C.trans J.symm)
theorem y7 (I:Inv X f g H s) (hN:X.N.Nodup) (hi:X.N[i]?=some x) (hx:Loc X.env.scope x) (r:aN v u)
  (h:∀ s',Inv X f (g.set i (some v)) H s'->(∃ a,qc9 a s.heap s'.heap/\(a=X.env.locals\/X.env.cells.lookup x=some a))->Q () s') (Y:X.fn x=true\/X.env.scope.names.lookup x=some .local:=by first|exact .inl U|exact .inr U|assumption):wpAny M A (storeName X.env x u) Q E s :=by
 obtain⟨m,hn,hl⟩:=id I.loc;have hcls:(X.env.scope.kind==.class||(X.env.scope.kind==.module&&X.env.locals != X.env.globals))=false:=by rw[I.ok.kind];rfl
 have hiσ:i<g.length:=by rw[I.len];exact (qas.mp hi).1
 have cne:=I.cne;have K:∀ {a:Addr}{h':Heap},(∃ o,s.heap.get? a=some o/\H a=none)->qc9 a s.heap h'->HOk X.prog X.w H h':=λ{a h'} ha F b ob e=>by
  obtain⟨_,_,hfree⟩:=ha;refine (I.hok b ob e).stay (λc w' B q=>(F.2 c ?_).trans q) (λ_ q=>q) λ_ _ q=>q
  rintro rfl
  rcases B with rfl|B
  ·rw[hfree]at e;cases e
  ·rw[hfree]at B;cases B
 rcases hx with hk|hk
 ·refine wpAny_storeName_local hk hn (λh' hn' F=>?_) hcls
  obtain⟨oL,_,_,hoL,_⟩:=id hn;refine h _ ⟨I.ok,I.os,I.bare,⟨λb o e n hb hx=>?_,λb o e n hb hx=>?_,I.base.free,λb o e hx=>?_,I.base.tups,I.base.frzs,I.base.tbls⟩,⟨_,hn',λj y v' C J e3=>?_⟩,λy c e=>?_,I.free,I.freeC,λp S=>?_,K ⟨oL,hoL,I.free⟩ F,by simpa using I.len⟩ ⟨_,F,.inl U⟩
  ·exact (F.2 b (qaH (qaO (qax e) I.ok.above))).trans (I.base.keep b o e n hb hx)
  ·obtain⟨sl,C⟩:=I.base.slot b o e n hb hx
   exact⟨sl,(F.2 b (qaH (qaO (qax e) I.ok.above))).trans C⟩
  ·obtain⟨P,C⟩:=I.base.there b o e hx
   exact⟨P,(F.2 b (qaH (qaO (qax e) I.ok.above))).trans C⟩
  ·by_cases hj:j=i
   ·subst hj
    rw[hi]at C;cases C;rw[qbo hiσ]at J;cases J;exact⟨u,r,.inl ⟨hk,by simp⟩⟩
   ·rw[qbA (qbF hj)]at J
    obtain⟨u',r',q⟩:=hl j y v' C J e3;refine⟨u',r',?_⟩;rcases q with⟨k,e⟩|⟨k,c,e,z⟩
    ·refine .inl ⟨k,?_⟩
     have:y≠x:=λe=>hj (uN hN C (e ▸ hi))
     simp[this,e]
    ·exact .inr ⟨k,c,e,z.sameBut F (cne y c e)⟩
  ·obtain⟨w',z⟩:=I.cell y c e
   exact⟨w',z.sameBut F (cne y c e)⟩
  ·obtain⟨e,n,ne,nf,d⟩:=I.pin p S
   exact⟨(F.2 p.1 ne).trans e,n,ne,nf,d⟩
 ·have hfn:X.fn x=true:=by
   rcases Y with z|z
   ·exact z
   ·rw[z]at hk;cases hk
  obtain⟨c,B⟩:=I.ok.has x (.inl hk);obtain⟨w',z⟩:=I.cell x c B;refine wpAny_storeName_cell I.ok.kind hk B z (λh' hc' F=>?_);obtain⟨oc,hoc,hocd⟩:=id z;refine h { s with heap:=h' } ⟨I.ok,I.os,I.bare,⟨λb o e n hb hx=>?_,λb o e n hb hx=>?_,I.base.free,λb o e hx=>?_,I.base.tups,I.base.frzs,I.base.tbls⟩,⟨m,hn.sameBut F (qbF (cne x c B)),λj y v' C J e3=>?_⟩,λy c' e=>?_,I.free,I.freeC,λp S=>?_,K ⟨oc,hoc,I.freeC x c B⟩ F,by simpa using I.len⟩ ⟨c,F,.inr B⟩
  ·exact (F.2 b (qaH (qaO (qax e) (I.ok.cab x c hfn B)))).trans (I.base.keep b o e n hb hx)
  ·obtain⟨sl,C⟩:=I.base.slot b o e n hb hx
   exact⟨sl,(F.2 b (qaH (qaO (qax e) (I.ok.cab x c hfn B)))).trans C⟩
  ·obtain⟨P,C⟩:=I.base.there b o e hx
   exact⟨P,(F.2 b (qaH (qaO (qax e) (I.ok.cab x c hfn B)))).trans C⟩
  ·by_cases hj:j=i
   ·subst hj
    rw[hi]at C;cases C;rw[qbo hiσ]at J;cases J;exact⟨u,r,.inr ⟨.inl hk,c,B,hc'⟩⟩
   ·rw[qbA (qbF hj)]at J
    obtain⟨u',r',q⟩:=hl j y v' C J e3;refine⟨u',r',?_⟩;rcases q with q|⟨k,c',e,z'⟩
    ·exact .inl q
    ·refine .inr ⟨k,c',e,z'.sameBut F ?_⟩
     rintro rfl
     exact hj (uN hN C (I.ok.inj _ _ _ e B ▸ hi))
  ·by_cases hcc:c'=c
   ·subst hcc;exact⟨_,hc'⟩
   ·obtain⟨w2,z2⟩:=I.cell y c' e
    exact⟨w2,z2.sameBut F hcc⟩
  ·obtain⟨e,n,ne,nf,d⟩:=I.pin p S
   refine⟨(F.2 p.1 ?_).trans e,n,ne,nf,d⟩;intro q;rw[q,hoc]at e;exact d w' (by rw[<-(qaP e)];exact hocd)
theorem iQ (I:Inv X f g H s) (hN:X.N.Nodup) (hi:X.N[i]?=some x) (hx:Loc X.env.scope x) (r:aN v u)
  (h:∀ s',Inv X f (g.set i (some v)) H s'->Q () s') (Y:X.fn x=true\/X.env.scope.names.lookup x=some .local:=by first|exact .inl U|exact .inr U|assumption):wpAny M A (storeName X.env x u) Q E s :=
 y7 I hN hi hx r (λs' I' _=>h s' I') Y
theorem Inv.call' (I:Inv X f g H s) (D:s'.os=s.os) (u:Un (frs X.stack) ch H H' s.heap s'.heap) (hok:HOk X.prog X.w H' s'.heap) (hg:qfx s'.gens)
  (G:∀ b∈ch,(b∈X.ex\/X.s₀.heap.objs.size<=b)/\b≠X.env.locals/\(∀ x c,X.env.cells.lookup x=some c->c≠b)/\∀ p∈X.pn++f,p.1≠b):Inv X f g H' s' :=by
 obtain⟨h',g',d',t',P⟩:=s';subst D;exact I.call u hok hg G
end
abbrev XK:=Value->Option Addr->Hp->Prop
abbrev St:=List (Option V)
abbrev VK:=V->Hp->Prop
abbrev TE:=St->Hp->VK->Prop
abbrev TT:=St->Hp->(Bool->Hp->Prop)->Prop
abbrev TA:=St->Hp->(List V->Hp->Prop)->Prop
structure mU where
 nx:St->Hp->Prop
 rt:VK
 bk:St->Hp->Prop:=λ_ _=>False
 ct:St->Hp->Prop:=λ_ _=>False
abbrev TS:=mU->St->Hp->Prop
def EP (X:Cx) (a:List (Addr×Obj)) (b:St) (Q:VK) (u:Value) (s':qak):Prop:=∃ v H',Inv X a b H' s'/\aN v u/\Q v H'
def TP (X:Cx) (a:List (Addr×Obj)) (c:St) (Q:Bool->Hp->Prop) (b:Bool) (s':qak):Prop:=∃ H',Inv X a c H' s'/\Q b H'
def AP (X:Cx) (a:List (Addr×Obj)) (c:St) (Q:List V->Hp->Prop) (d:List Value) (s':qak):Prop:=∃ b H',Inv X a c H' s'/\aI b d/\Q b H'
def SP (X:Cx) (b:List (Addr×Obj)) (D:mU) (f:Flow) (s':qak):Prop:=
 match f with
 |.next=>∃ a H',Inv X b a H' s'/\D.nx a H'
 |.brk=>∃ a H',Inv X b a H' s'/\D.bk a H'
 |.cont=>∃ a H',Inv X b a H' s'/\D.ct a H'
 |.ret u=>∃ v a H',Inv X b a H' s'/\aN v u/\D.rt v H'
def PE (X:Cx) (e:Expr) (t:TE):Prop:=
 ∀ (a:List (Addr×Obj)) (s:qak) (b:St) (H:Hp) (Q:VK),Inv X a b H s->t b H Q->wpAny (model X.prog X.w) X.A (eval e X.env) (EP X a b Q) X.xe s
def PT (X:Cx) (e:Expr) (t:TT):Prop:=
 ∀ (a:List (Addr×Obj)) (s:qak) (b:St) (H:Hp) (Q:Bool->Hp->Prop),Inv X a b H s->t b H Q->wpAny (model X.prog X.w) X.A (qjL e X.env (eval e X.env)) (TP X a b Q) X.xe s
def PW (X:Cx) (e:Expr) (t:TT):Prop:=
 ∀ (whole:Sem Value) (a:List (Addr×Obj)) (s:qak) (b:St) (H:Hp) (Q:Bool->Hp->Prop),Inv X a b H s->t b H Q->wpAny (model X.prog X.w) X.A (qjL e X.env whole) (TP X a b Q) X.xe s
theorem PW.pt (h:PW X e t):PT X e t :=h _
def PA (X:Cx) (es:List Expr) (t:TA):Prop:=
 ∀ (pos:Pos) (a:List (Addr×Obj)) (s:qak) (b:St) (H:Hp) (Q:List V->Hp->Prop),Inv X a b H s->t b H Q->wpAny (model X.prog X.w) X.A (spliced (qe2 pos (qbB es X.env))) (AP X a b Q) X.xe s
def PS (X:Cx) (st:Stmt) (t:TS):Prop:=
 ∀ (a:List (Addr×Obj)) (s:qak) (b:St) (H:Hp) (D:mU),Inv X a b H s->t D b H->wpAny (model X.prog X.w) X.A (exec st X.env) (SP X a D) X.xe s
def PSs (X:Cx) (st:List Stmt) (t:TS):Prop:=
 ∀ (a:List (Addr×Obj)) (s:qak) (b:St) (H:Hp) (D:mU),Inv X a b H s->t D b H->wpAny (model X.prog X.w) X.A (execs st X.env) (SP X a D) X.xe s
theorem thn {t:Sem α}(h:wpAny M A t Q E s) (b:∀ a s,Q a s->Q' a s):wpAny M A t Q' E s :=qcp h b λ_ _ x=>x
section
variable {X:Cx}
def vh (i:Nat):TE:=λg H Q=>∃ v,g[i]?=some (some v)/\Q v H
def tC (v:V):TE:=λ_ H Q=>Q v H
theorem jO {pos} (hN:X.N[i]?=some x) (z:Vis X.env.scope x) (hd:(x==("__debug__"))=false:=by decide) (F:(x==("__classdict__"))=false:=by decide):PE X (.Name x pos) (vh i) :=by
 intro f s g H Q I h;obtain⟨v,e,h⟩:=h;obtain⟨m,hn,G⟩:=I.loc;obtain⟨u,r,l⟩:=G i x v hN e z;have fin:EP X f g Q u s:=⟨v,H,I,r,h⟩;rcases l with⟨y,hm⟩|⟨y,c,D,o⟩
 ·exact qiv (wpAny_loadName_local I.ok.kind y hn hm fin) hd
 ·rcases y with y|y
  ·exact qiv (wpAny_loadName_cell I.ok.kind y D o fin) hd
  ·exact qiv (wpAny_loadName_free I.ok.kind y D o fin F) hd
theorem Fb :PE X (.Constant (.int i) j pos) (tC (.int i)) :=λ_ _ _ H _ I h=>wpAny_Constant_int ⟨.int i,H,I.tok _,⟨_,U⟩,h⟩
theorem GT :PE X (.Constant (.bool b) j pos) (tC (.bl b)) :=λ_ _ _ H _ I h=>Constant_bool ⟨.bl b,H,I,U,h⟩
theorem Fc :PE X (.Constant .none j pos) (tC .non) :=λ_ _ _ H _ I h=>Constant_none ⟨.non,H,I,U,h⟩
theorem Fd :PE X (.Constant (.str x) j pos) (tC (.str x)) :=λ_ _ _ H _ I h=>Calls.Constant_str ⟨.str x,H,I.tok _,⟨_,U⟩,h⟩
def Gl (X:Cx) (x:Str):Prop:=X.env.kindOf x=some .globalImplicit
theorem xw {g:St}(I:Inv X f g H s) (hg:Gl X x) (hm:X.mg x=some u) (h:Q u s)
  (hd:(x==("__debug__"))=false:=by decide):wpAny (model X.prog X.w) X.A (eval (.Name x pos) X.env) Q E s :=
 qfV I.ok.kind hg (Calls.loadGlobal_global (by rw[I.ok.glob];exact I.mod.glob.keeps I.bk) hm h) hd
theorem jI {E}{g:St}{pos}(I:Inv X f g H s) (hg:Gl X x) (hm:X.mg x=none) (z:qce x=some u) (h:Q u s)
  (hn:x≠"__name__":=by decide) (hd:(x==("__debug__"))=false:=by decide):wpAny (model X.prog X.w) X.A (eval (.Name x pos) X.env) Q E s :=by
 obtain⟨L,J,K⟩:=I.mod.blt;exact qfV I.ok.kind hg (Calls.loadGlobal_builtin (by rw[I.ok.glob];exact I.mod.glob.keeps I.bk) hm (by rw[I.ok.blt];exact J.keeps I.bk) ((K x hn).trans z) h) hd
theorem CJ {pos} (hg:Gl X x) (hm:X.mg x=none) (z:qce x=some u) (r:aN v u) (hn:x≠"__name__":=by decide) (hd:(x==("__debug__"))=false:=by decide):PE X (.Name x pos) (tC v) :=
 λ_ _ _ H _ I h=>jI I hg hm z ⟨v,H,I,r,h⟩ hn hd
variable {a b:Expr}{C B:TE}{pos:Pos}
variable {n q:TT}{k:List Expr}
def Ir (t u:TT):TT:=λg H Q=>t g H λc H1=>if c=true then u g H1 Q else Q false H1
def tOr (t u:TT):TT:=λg H Q=>t g H λc H1=>if c=true then Q true H1 else u g H1 Q
def IC (t:TT):TT:=λg H Q=>t g H λc H1=>Q (!c) H1
theorem CZ (p:PT X a n):PW X (.BoolOp .And [a] pos) n:=by
 intro A f s g H Q I h;refine isTrue_and (thn (p f s g H Q I h) λc s1 e=>?_);cases c with
 |true=>exact isTrue_and_nil e
 |false=>exact e
theorem Fp (p:PT X a n):PW X (.BoolOp .Or [a] pos) n:=by
 intro A f s g H Q I h;refine isTrue_or (thn (p f s g H Q I h) λc s1 e=>?_);cases c with
 |false=>exact isTrue_or_nil e
 |true=>exact e
theorem AQ (p:PT X a n) (hb:PW X (.BoolOp .And (b::k) pos) q):PW X (.BoolOp .And (a::b::k) pos) (Ir n q):=by
 intro A f s g H Q I h;refine isTrue_and (thn (p f s g H _ I h) λc s1 ⟨H1,I1,w⟩=>?_);cases c with
 |true=>exact hb A f s1 g H1 Q I1 w
 |false=>exact⟨H1,I1,w⟩
theorem DK (p:PT X a n) (hb:PW X (.BoolOp .Or (b::k) pos) q):PW X (.BoolOp .Or (a::b::k) pos) (tOr n q):=by
 intro A f s g H Q I h;refine isTrue_or (thn (p f s g H _ I h) λc s1 ⟨H1,I1,w⟩=>?_);cases c with
 |true=>exact⟨H1,I1,w⟩
 |false=>exact hb A f s1 g H1 Q I1 w
theorem Fm (p:PT X a n):PT X (.UnaryOp .Not a pos) (IC n):=by
 intro f s g H Q I h;exact isTrue_not (p f s g H _ I h)
def tIf (t:TT) (C B:TE):TE:=λg H Q=>t g H λc H1=>if c=true then C g H1 Q else B g H1 Q
theorem uV (D:PT X c n) (p:PE X a C) (hb:PE X b B):PE X (.IfExp c a b pos) (tIf n C B) :=by
 intro f s g H Q I h;refine wpAny_IfExp (thn (D f s g H _ I h) λd s1 ⟨H1,I1,w⟩=>?_);cases d with
 |true=>exact p f s1 g H1 Q I1 w
 |false=>exact hb f s1 g H1 Q I1 w
end
def SqL (K:qae) (H:Hp) (a:Addr) (xs:List V):Prop:=
 Rd H a (.lst xs)\/
  ∃ (o:Obj) (b:Array Value) (n:Nat),K.lookup a=some o/\o.cls=.type "list"/\o.dict=none/\o.data=.seq b n/\b.size<=qaG/\aI xs b.toList
def SqT (K:qae) (H:Hp) (a:Addr) (xs:List V):Prop:=
 H a=some (.tup xs)\/
  ∃ (o:Obj) (b:Array Value) (n:Nat),K.lookup a=some o/\o.cls=.type "tuple"/\o.data=.seq b n/\b.size<=qaG/\aI xs b.toList/\o.dict=none
noncomputable def HH:Value->Option V
 |.none=>some .non
 |.bool b=>some (.bl b)
 |.int i _=>some (.int i)
 |.str x _=>some (.str x)
 |.bytes b _=>some (.byt b)
 |.float b _=>some (.flt b)
 |.ref a=>some (.ref a)
 |.type n=>some (.ty n)
 |_=>none
theorem aN.abs (r:aN x u):HH u=some x :=by
 cases x with
 |non=>cases r;rfl
 |bl _=>cases r;rfl
 |int _=>obtain⟨t,rfl⟩:=r;rfl
 |str _=>obtain⟨t,rfl⟩:=r;rfl
 |byt _=>obtain⟨t,rfl⟩:=r;rfl
 |flt _=>obtain⟨t,rfl⟩:=r;rfl
 |ref _=>cases r;rfl
 |ty _=>cases r;rfl
theorem aN.inj (r:aN x u) (q:aN y u):x=y :=qaP (r.abs.symm.trans q.abs)
theorem aI.inj:∀ {xs a:List V}{b:List Value},aI xs b->aI a b->xs=a
 |_,_,_,.nil,.nil=>rfl
 |_,_,_,.cons r t,.cons c t'=>by rw[r.inj c,aI.inj t t']
section
variable {X:Cx}{f:List (Addr×Obj)}{l:St}{H:Hp}{s:qak}{a:Addr}{xs q:List V}
theorem SqL.of {K} (h:H a=some (.lst xs)):SqL K H a xs :=.inl (.inl h)
theorem SqT.of {K} (h:H a=some (.tup xs)):SqT K H a xs :=.inl h
theorem Inv.list (I:Inv X f l H s) (h:SqL X.K H a xs):∃ b,aI xs b/\PlainL s.heap a b.toArray/\xs.length<=qaG :=by
 rcases h with h|⟨o,b,n,j,k,hd,m,hz,r⟩
 ·obtain⟨z,b,n,r,e⟩:=h.ok I.hok
  exact⟨b,r,⟨_,n,e,U,U,U⟩,z⟩
 ·refine⟨b.toList,r,⟨o,n,I.kIn a o j,k,hd,by simpa using m⟩,?_⟩
  have e:=r.length;simp only[qc3]at e;lia
theorem Inv.tuple (I:Inv X f l H s) (h:SqT X.K H a xs):∃ b,aI xs b/\IsTup s.heap a b.toArray/\xs.length<=qaG :=by
 rcases h with h|⟨o,b,n,j,k,m,hz,r,_⟩
 ·obtain⟨z,b,r,p⟩:=(Rd.of h).ok I.hok
  exact⟨b,r,p.tup,z⟩
 ·refine⟨b.toList,r,⟨o,I.kIn a o j,k,n,by simpa using m⟩,?_⟩
  have e:=r.length;simp only[qc3]at e;lia
theorem Inv.tuple1 (I:Inv X f l H s) (h:SqT X.K H a xs):∃ o,s.heap.get? a=some o/\o.cls=.type "tuple"/\o.dict=none :=by
 rcases h with h|⟨o,b,n,j,k,m,hz,r,hd⟩
 ·obtain⟨z,b,r,o,e,c,_,hd⟩:=(Rd.of h).ok I.hok
  exact⟨o,e,c,hd⟩
 ·exact⟨o,I.kIn a o j,k,hd⟩
theorem Inv.list_inj (I:Inv X f l H s) (h:SqL X.K H a xs) (h':SqL X.K H a q):xs=q:=by
 obtain⟨b,r,⟨o,n,e,_,_,d⟩,_⟩:=I.list h;obtain⟨its',t,⟨u,v,i,_,_,g⟩,_⟩:=I.list h';rw[e]at i;cases i;rw[d]at g;injection g with d1 _
 have:=by simpa using congrArg qgM d1
 subst this;exact r.inj t
theorem Inv.tuple_inj (I:Inv X f l H s) (h:SqT X.K H a xs) (h':SqT X.K H a q):xs=q:=by
 obtain⟨b,r,⟨o,e,_,n,d⟩,_⟩:=I.tuple h;obtain⟨its',t,⟨u,i,_,v,g⟩,_⟩:=I.tuple h';rw[e]at i;cases i;rw[d]at g;injection g with d1 _
 have:=by simpa using congrArg qgM d1
 subst this;exact r.inj t
end
abbrev Cx.wish (X:Cx) (E:Value->qak->Prop):Cx:={ X with xe:=E }
abbrev Cx.nox (X:Cx):Cx:=X.wish λ_ _=>False
theorem Cx.Ok.wish {X:Cx} (ok:X.Ok) (E):(X.wish E).Ok :=
 ⟨ok.mod,ok.kind,ok.glob,ok.blt,ok.above,ok.inj,ok.has,ok.cab,ok.hd,ok.frames,ok.stk,ok.exf,ok.bs,ok.bsz,ok.noex,ok.exfs,ok.funs,ok.frf⟩
theorem Cx.Ok.unwish {X:Cx}(ok:(X.wish E).Ok):X.Ok :=
 ⟨ok.mod,ok.kind,ok.glob,ok.blt,ok.above,ok.inj,ok.has,ok.cab,ok.hd,ok.frames,ok.stk,ok.exf,ok.bs,ok.bsz,ok.noex,ok.exfs,ok.funs,ok.frf⟩
section
variable {X:Cx}{a:List (Addr×Obj)}{c:St}{H:Hp}{s:qak}{E:Value->qak->Prop}
theorem Inv.wish (I:Inv X a c H s) (E):Inv (X.wish E) a c H s :=⟨I.ok.wish E,I.os,I.bare,I.base,I.loc,I.cell,I.free,I.freeC,I.pin,I.hok,I.len⟩
theorem Inv.unwish (I:Inv (X.wish E) a c H s):Inv X a c H s:=⟨I.ok.unwish,I.os,I.bare,I.base,I.loc,I.cell,I.free,I.freeC,I.pin,I.hok,I.len⟩
theorem SP.unwish (h:SP (X.wish E) a D f s'):SP X a D f s' :=by
 cases f with
 |next=>obtain⟨b,H',I,q⟩:=h;exact⟨b,H',I.unwish,q⟩
 |brk=>obtain⟨b,H',I,q⟩:=h;exact⟨b,H',I.unwish,q⟩
 |cont=>obtain⟨b,H',I,q⟩:=h;exact⟨b,H',I.unwish,q⟩
 |ret u=>obtain⟨v,b,H',I,r,q⟩:=h;exact⟨v,b,H',I.unwish,r,q⟩
theorem PSs.nox {st}(h:PSs X.nox st t):PSs X st t :=λa s c H D I hw=>
 qcp (h a s c H D (I.wish _) hw) (λ_ _ q=>q.unwish) λ_ _ z=>qcw z
end
section
variable {X:Cx}{st:Stmt}{j:List Stmt}{t u:TS}{e:Expr}{te:TE}{pos:Pos}
def Hu:TS:=λD i H=>D.nx i H
def IF (t u:TS):TS:=λD i H=>t { D with nx:=u D } i H
theorem CU:PSs X [] Hu:=λ_ _ i H _ I h=>qeY ⟨i,H,I,h⟩
theorem dc (l:PS X st t) (y:PSs X j u):PSs X (st::j) (IF t u):=by
 intro g s i H D I h;refine qiR (thn (l g s i H { D with nx:=u D } I h) λf s1 q=>?_);cases f with
 |next=>
  obtain⟨m,H',I',q⟩:=q;exact y g s1 m H' D I' q
 |ret v=>exact q
 |brk=>exact q
 |cont=>exact q
theorem xK (l:PS X st t):PSs X [st] t:=by
 intro g s i H D I h;refine qiR (thn (l g s i H D I h) λf s1 q=>?_);cases f with
 |next=>exact qeY q
 |ret v=>exact q
 |brk=>exact q
 |cont=>exact q
def FJ:TS:=λD i H=>D.bk i H
def Ho:TS:=λD i H=>D.ct i H
theorem AH:PS X (.Break pos) FJ:=λ_ _ i H _ I h=>wpAny_Break ⟨i,H,I,h⟩
theorem u4:PS X (.Continue pos) Ho:=λ_ _ i H _ I h=>wpAny_Continue ⟨i,H,I,h⟩
theorem Inv.quiet {i:St}(I:Inv X g i H s):interactive X.env=false :=by simp[interactive,I.ok.kind]
def Hr (te:TE):TS:=λD i H=>te i H λ_ H1=>D.nx i H1
theorem CT (n:PE X e te) (A:qcj e none pos.line X.env=pure false:=by rfl):PS X (.Expr e pos) (Hr te):=by
 intro g s i H D I h;exact wpAny_Expr_any (thn (n g s i H _ I h) λv s1 ⟨x,H1,I1,p,k⟩=>⟨i,H1,I1,k⟩) I.quiet A
def ID (te:TE):TS:=λD i H=>te i H D.rt
theorem Fj (n:PE X e te):PS X (.Return (some e) pos) (ID te):=by
 intro g s i H D I h;exact wpAny_Return_some (thn (n g s i H _ I h) λv s1 ⟨x,H1,I1,p,k⟩=>⟨x,i,H1,I1,p,k⟩)
def Ix (c:TT) (t u:TS):TS:=λD i H=>c i H λb H1=>if b=true then t D i H1 else u D i H1
theorem DJ (z:PT X c r) (w:PSs X a t) (hb:PSs X b u):PS X (.If c a b pos) (Ix r t u) :=by
 intro g s i H D I h;refine wpAny_If (thn (z g s i H _ I h) λd s1 ⟨H1,I1,k⟩=>?_);cases d with
 |true=>exact w g s1 i H1 D I1 k
 |false=>exact hb g s1 i H1 D I1 k
def FL:TS:=λ_ _ _=>False
theorem fO :PSs X o FL :=λ_ _ _ _ _ _ h=>h.elim
end
abbrev TG:=V->St->Hp->(St->Hp->Prop)->Prop
abbrev TGs:=List V->St->Hp->(St->Hp->Prop)->Prop
def PG (X:Cx) (a:Expr) (t:TG):Prop:=
 ∀ (b:List (Addr×Obj)) (s:qak) (d:St) (H:Hp) (v:V) (u:Value) (Q:St->Hp->Prop),Inv X b d H s->aN v u->t v d H Q->
  wpAny (model X.prog X.w) X.A (qgb a X.env u) (λ_ s'=>∃ c H',Inv X b c H' s'/\Q c H') X.xe s
def PGs (X:Cx) (ts:List Expr) (t:TGs):Prop:=
 ∀ (a:List (Addr×Obj)) (s:qak) (e:St) (H:Hp) (d:List V) (c:List Value) (Q:St->Hp->Prop),Inv X a e H s->aI d c->t d e H Q->
  wpAny (model X.prog X.w) X.A (assignInOrder ((qbX ts X.env).map (·.2)) c) (λ_ s'=>∃ b H',Inv X a b H' s'/\Q b H') X.xe s
abbrev D4:=V->V->V->Hp->(Hp->Prop)->Prop
def FZ (X:Cx) (t:D4):Prop:=
 ∀ (a:List (Addr×Obj)) (s:qak) (c:St) (H:Hp) (o i v:V) (b iv u:Value) (Q:Hp->Prop),Inv X a c H s->aN o b->aN i iv->aN v u->t o i v H Q->
  wpAny (model X.prog X.w) X.A (qjF b iv u) (λ_ s'=>∃ H',Inv X a c H' s'/\Q H') X.xe s
section
variable {X:Cx}{pos:Pos}
def lY (i:Nat):TG:=λv d H Q=>Q (d.set i (some v)) H
theorem eI (hN:X.N.Nodup) (hi:X.N[i]?=some x) (hx:Loc X.env.scope x) (O:X.fn x=true\/X.env.scope.names.lookup x=some .local:=by first|exact .inl U|exact .inr U|assumption):PG X (.Name x pos) (lY i) :=by
 intro c s d H v u Q I r h;exact qiu (iQ I hN hi hx r (λs' I'=>⟨_,H,I',h⟩) O)
def HR:TGs:=λm d H Q=>m=[]/\Q d H
def Gj (t:TG) (u:TGs):TGs:=λm d H Q=>∃ v r,m=v::r/\t v d H λW H'=>u r W H' Q
theorem xE:PGs X [] HR:=by
 intro c s d H m N Q I r h;obtain⟨e,h⟩:=h;exact qiz ⟨d,H,I,h⟩
theorem kT (V:PG X e t) (h2:PGs X es u)
  (l:(qbX (e::es) X.env).map (·.2)=qgb e X.env::(qbX es X.env).map (·.2):=by rfl):PGs X (e::es) (Gj t u) :=by
 intro c s d H m N Q I r h;obtain⟨v,vr,C,h⟩:=h;subst C;cases r with
 |cons r rr=>
  rw[l];refine qfI (thn (V c s d H _ _ _ I r h) λ_ s1 ⟨S,H1,I1,f⟩=>?_);exact h2 c s1 S H1 _ _ Q I1 rr f
def HU (K:qae) (n:Nat) (t:TGs):TG:=λv d H Q=>∃ a xs,v=.ref a/\SqT K H a xs/\xs.length=n/\t xs d H Q
theorem Ay {k}(hc:X.calm=true) (h:PGs X es t)
  (hn:(qbX es X.env).length=n:=by rfl) (M:(qbX es X.env).findIdx? (·.1)=none:=by rfl):PG X (.Tuple es k pos) (HU X.K n t) :=by
 intro c s d H v u Q I r hw;obtain⟨a,xs,C,hq,hl,hw⟩:=hw;subst C;cases r;obtain⟨its,E,ht,hz⟩:=I.tuple hq;refine assign_Tuple_tuple (I.ok.hd hc) ht (by simp[hn,<-hl,E.length]) M λh' hx=>?_;exact h c _ d H xs _ Q (I.kept λb o e=>hx b o (qaH (qax e)) e) (by simpa using E) hw
def HS (to ti:TE) (t:D4):TG:=λv d H Q=>to d H λo H1=>ti d H1 λi H2=>t o i v H2 λH3=>Q d H3
theorem sC (ho:PE X o to) (hi:PE X i ti) (l:FZ X t)
  (T:∀ v,qgb (.Subscript o i pos) X.env v=(do
    let B <-qf1 [v] (eval o X.env)
    let iv <-qf1 [v,B] (eval i X.env)
    qjD pos
    qf1 [v,B,iv] (qjF B iv v)
    release [v,B,iv] []):=by intro _;rfl):PG X (.Subscript o i pos) (HS to ti t) :=by
 intro c s d H v u Q I r h;rw[T];refine qac (qct (thn (ho c s d H _ I h) λB s1 ⟨x,H1,I1,A,f⟩=>?_));refine qac (qct (thn (hi c s1 d H1 _ I1 f) λiv J ⟨y,H2,I2,r2,q2⟩=>?_));refine qac (qeG (qac (qct (thn (l c J d H2 x y v B iv u _ I2 A r2 r q2) λ_ s3 ⟨H3,I3,q3⟩=>?_))));exact wpAny_release ⟨d,H3,I3,q3⟩
def FI (te:TE) (g:TG):TS:=λD d H=>te d H λx H1=>g x d H1 D.nx
theorem pi (P:PE X e te) (hg:PG X tg g) (l:qdt [tg] e pos.line X.env=pure false:=by rfl) (hw:qdu [tg] e X.env=pure none:=by rfl)
  (V:(qbX [tg] X.env).map (·.2)=[qgb tg X.env]:=by rfl):PS X (.Assign [tg] e pos) (FI te g) :=by
 intro c s d H D I h;refine wpAny_Assign_stores (thn (P c s d H _ I h) λv s1 ⟨x,H1,I1,A,f⟩=>?_) l hw;rw[V];exact thn (hg c s1 d H1 x v _ I1 A f) λ_ J q=>q
theorem Fk (hN:X.N.Nodup) (hi:X.N[i]?=some x) (hx:Loc X.env.scope x) (P:PE X e te) (l:qcj e (some (.Name x z)) pos.line X.env=pure false:=by rfl) (O:X.fn x=true\/X.env.scope.names.lookup x=some .local:=by first|exact .inl U|exact .inr U|assumption) :
  PS X (.Assign [.Name x z] e pos) (FI te (lY i)) :=by
 intro c s d H D I h;refine wpAny_Assign_Name (thn (P c s d H _ I h) λv s1 ⟨y,H1,I1,A,f⟩=>?_) l;exact iQ I1 hN hi hx A (λJ I2=>⟨_,H1,I2,f⟩) O
def Hv (i j:Nat) (L:TA):TS:=λD d H=>L d H λm H1=>∃ v w,m=[v,w]/\D.nx ((d.set i (some v)).set j (some w)) H1
theorem pj (hc:X.calm=true) (hN:X.N.Nodup) (hi:X.N[i]?=some x) (hj:X.N[j]?=some y) (hij:i≠j)
  (hx:X.env.scope.names.lookup x=some .local) (hy:X.env.scope.names.lookup y=some .local) (T:PA X [a,b] L)
  (hw:qdu [.Tuple [.Name x px,.Name y R] kt pt] (.Tuple [a,b] k2 pt2) X.env=pure (some [x,y]))
  (l:qdt [.Tuple [.Name x px,.Name y R] kt pt] (.Tuple [a,b] k2 pt2) pos.line X.env=pure false:=by rfl) :
  PS X (.Assign [.Tuple [.Name x px,.Name y R] kt pt] (.Tuple [a,b] k2 pt2) pos) (Hv i j L) :=by
 intro c s d H D I h;refine qac (qeG ?_);refine qac (qaq ?_);refine qac (Tuple_ (thn (T _ c s d H _ I h) λN s1 ⟨m,H1,I1,A,f⟩=>?_));obtain⟨v,w,C,f⟩:=f;subst C;obtain⟨G,F,rfl,E,Y⟩:∃ G F,N=[G,F]/\aN v G/\aN w F:=by
  cases A with
  |cons p q=>
   cases q with
   |cons p' q'=>
    cases q';exact⟨_,_,U,p,p'⟩
 refine qcE ?_ (by show 2<=qaG;decide);rw[hw];refine qac (qaq ?_);refine qac (qd1 (qac (unpackItems_tuple (items:=#[G,F]) (I.ok.hd hc) (IsTup.new s1.heap _) λh' hx'=>?_)));refine qac (qfI (qjY (iQ ((I1.kept λb o e=>qaj _ e).kept λb o e=>hx' b o (qaH (qax e)) e) hN hj (.inl hy) Y (λJ I4=>?_) (.inr hy))));refine qfI (qjY (iQ I4 hN hi (.inl hx) E (λs3 I5=>qiz (qaq ?_)) (.inr hx)));rw[List.set_comm _ _ (qbF hij)]at I5;exact⟨_,H1,I5,f⟩
end
section
variable {X:Cx}{pos:Pos}
def FM (c:TT) (o:TS):TS:=λD i H=>∃ W:Nat->St->Hp->Prop,(∃ m,W m i H)/\∀ m i H,W m i H->
 c i H λb H1=>if b=true then ∃ N:St->Hp->Prop,(∀ d H',N d H'->∃ j,j<m/\W j d H')/\o { D with nx:=N,ct:=N,bk:=D.nx } i H1 else D.nx i H1
theorem AL (r:qgH (model X.prog X.w) X.A X.env X.xe) (x:PT X c t) (hb:PSs X body o):PS X (.While c body [] pos) (FM t o) :=by
 intro a s i H D I h;obtain⟨W,⟨m0,w0⟩,turn⟩:=h;refine wpAny_While (codeAny_whileLoop (λn s'=>∃ d H',Inv X a d H' s'/\W n d H') ?_ m0 ⟨i,H,I,w0⟩)
 rintro n s1 ⟨g,H1,I1,w⟩
 refine qcV r (thn (x a s1 g H1 _ I1 (turn n g H1 w)) λb u ⟨H2,I2,k⟩=>?_);cases b with
 |true=>
  obtain⟨N,hN,k⟩:=k;refine qcV r (thn (hb a u g H2 _ I2 k) λf y l=>?_);cases f with
  |next=>
   obtain⟨e,H3,I3,p⟩:=l;obtain⟨j,hm,q⟩:=hN e H3 p;exact⟨j,hm,e,H3,I3,q⟩
  |cont=>
   obtain⟨e,H3,I3,p⟩:=l;obtain⟨j,hm,q⟩:=hN e H3 p;exact⟨j,hm,e,H3,I3,q⟩
  |brk=>exact l
  |ret v=>exact l
 |false=>
  exact qeY ⟨g,H2,I2,k⟩
end
structure It where
 go:Nat->Hp->Prop
 yld:Nat->Hp->V->Hp->Prop
 stop:Nat->Hp->Prop
def je (X:Cx) (a:List (Addr×Obj)) (H:Hp) (b:Addr):Prop:=
 H b=none/\b≠X.env.locals/\b∉X.fs/\(b∈X.ex\/X.s₀.heap.objs.size<=b)/\(∀ x c,X.env.cells.lookup x=some c->c≠b)/\∀ p∈X.pn++a,p.1≠b
theorem Inv.fpOk {d:St}{b:Addr} (I:Inv X a d H s) (hb:s.heap.objs.size<=b) (hn:H' b=none):je X a H' b :=by
 refine⟨hn,qci (qaO I.lt hb),I.nofs hb,.inr (qaD I.sz hb),λx c e z=>?_,λp f z=>?_⟩
 ·obtain⟨v,q⟩:=I.cell x c e
  exact absurd (qaO q.lt (by rw[z];exact hb)) (qbb _)
 ·exact absurd (qaO (qax (I.pin p f).1) (by rw[z];exact hb)) (qbb _)
structure vC (P:qaR) (w:World) (K:qae) (tg:Expr) (J:It) (fp:List Addr) (it:Addr) (tn:Nat->Heap->Prop):Prop where
 mem:it∈fp
 obj:∀ i h,tn i h->∀ b∈fp,∃ o,h.get? b=some o/\∀ v,o.data≠.cell v
 keep:∀ i h h',tn i h->(∀ b∈fp,∀ o,h.get? b=some o->h'.get? b=some o)->tn i h'
 item:∀ (X:Cx),X.prog=P->X.w=w->X.K=K->X.calm=true->∀ (i:Nat) (pins:List (Addr×Obj)) (s:qak) (σ:St) (H:Hp) (E:Value->qak->Prop),Inv X pins σ H s->(∀ b∈fp,je X pins H b)->tn i s.heap->J.go i H->
  wpAny (model P w) X.A (qg2 (.ref it)) (λr s1=>∃ u,r=some u/\
   wpAny (model P w) X.A (qgC tg (.ref it) u) (λ_ s2=>∃ x H',Inv X pins σ H' s2/\aN x u/\J.yld i H x H'/\tn (i+1) s2.heap/\∀ b∈fp,H' b=none) E s1) E s
 done:∀ (X:Cx),X.prog=P->X.w=w->X.K=K->X.calm=true->∀ (i:Nat) (pins:List (Addr×Obj)) (s:qak) (σ:St) (H:Hp) (E:Value->qak->Prop),Inv X pins σ H s->(∀ b∈fp,je X pins H b)->tn i s.heap->J.stop i H->
  wpAny (model P w) X.A (qg2 (.ref it)) (λr s1=>r=none/\Inv X pins σ H s1) E s
 self:∀ (A:qa2) (i:Nat) (s:qak) (Q:Value->qak->Prop) (E:Value->qak->Prop),tn i s.heap->Q (.ref it) s->wpAny (model P w) A (qjH (.ref it)) Q E s
abbrev TI:=St->Hp->(It->Hp->Prop)->Prop
def PIE (X:Cx) (a:List (Addr×Obj)) (h:St) (tg:Expr) (R:It->Hp->Prop) (c:Value) (g:qak):Prop:=
 ∃ (f:Addr) (d:List Addr) (e:Nat->Heap->Prop) (J:It) (H':Hp),c=.ref f/\Inv X a h H' g/\vC X.prog X.w X.K tg J d f e/\e 0 g.heap/\(∀ b∈d,je X a H' b)/\R J H'
def PI (X:Cx) (tg iter:Expr) (c:TI):Prop:=
 ∀ (a:List (Addr×Obj)) (s:qak) (b:St) (H:Hp) (R:It->Hp->Prop),Inv X a b H s->c b H R->
  wpAny (model X.prog X.w) X.A (eval iter X.env) (λv s1=>wpAny (model X.prog X.w) X.A (qjH v) (PIE X a b tg R) X.xe s1) X.xe s
theorem zK (e:s.heap.get? b=some o) (c:o.cls=.type n) (hd:o.data=.fields d)
  (hn:["enumerate","zip","dict_itemiterator","dict_reverseitemiterator","odict_iterator","itertools.zip_longest","itertools.pairwise"].contains n=false) (a:Q () s):wpAny M A (qgC tg (.ref b) u) Q E s :=by
 cases tg<;>first
  |exact qaq a
  | (cases u<;>first
      |exact qaq a
      | (refine qac (wpAny_load e ?_)
         rw[c,hd];show wpAny M A (if _=true then _ else _) Q E s;rw[iFN (by intro h;rw[hn]at h;cases h)]
         exact qaq a))
noncomputable def Itl (K:qae) (a:Addr):It:=
 ⟨λi H=>∃ xs x,SqL K H a xs/\xs[i]?=some x,λi H x H'=>H'=H/\∀ xs,SqL K H a xs->xs[i]?=some x,λi H=>∃ xs,SqL K H a xs/\xs.length<=i⟩
noncomputable def Itt (K:qae) (a:Addr):It:=
 ⟨λi H=>∃ xs x,SqT K H a xs/\xs[i]?=some x,λi H x H'=>H'=H/\∀ xs,SqT K H a xs->xs[i]?=some x,λi H=>∃ xs,SqT K H a xs/\xs.length<=i⟩
noncomputable def Itr (lo:Int) (n:Nat):It:=⟨λi _=>i<n,λi H x H'=>H'=H/\x=.int (lo+i),λi _=>n<=i⟩
theorem zd {K}(a f):vC P w K tg (Itl K a) [f] f (λi h=>h.IsListIter f a i)  where
 mem:=by simp
 obj:=λi h st b hb=>by
  have e:=by simpa using hb
  subst e;obtain⟨o,e,c,d⟩:=st;exact⟨o,e,λv z=>by rw[d]at z;cases z⟩
 keep:=λi h h' st k=>st.at λo e=>k f (by simp) o e
 item:=by
  intro X q hw r F i j s Q H E I l st hg;subst q hw r;obtain⟨xs,x,m,hx⟩:=hg;obtain⟨B,n,p,hz⟩:=I.list m;obtain⟨u,O,J⟩:=n.get hx;obtain⟨t,A,L,C,y,D⟩:=l f (by simp);refine wpAny_pyNext_list_item st p.isList (by simpa using O) λh' g N=>?_;obtain⟨o,e,c,d⟩:=id g;exact⟨u,U,zK e c d (by decide) ⟨x,H,(I.turned (λb o hb e=>(N.2 b hb).trans e) t A C y D),J,⟨U,λR M=>by rw[I.list_inj M m];exact hx⟩,g,λb hb=>(l b hb).1⟩⟩
 done:=by
  intro X q hw r F i j s Q H E I l st hg;subst q hw r;obtain⟨xs,m,hx⟩:=hg;obtain⟨B,n,p,hz⟩:=I.list m;obtain⟨t,A,L,C,y,D⟩:=l f (by simp);have S:=n.length;exact wpAny_pyNext_list_end (I.ok.hd F) st p.isList (by simp;lia) λh' G=>⟨U,I.turned (λb o hb e=>G b o hb e) t A C y D⟩
 self:=λ_ _ _ _ _ st h=>wpAny_pyIter_listiter st h
theorem wN {K}(a f):vC P w K tg (Itt K a) [f] f (λi h=>h.IsTupleIter f a i)  where
 mem:=by simp
 obj:=λi h st b hb=>by
  have e:=by simpa using hb
  subst e;obtain⟨o,e,c,d⟩:=st;exact⟨o,e,λv z=>by rw[d]at z;cases z⟩
 keep:=λi h h' st k=>st.at λo e=>k f (by simp) o e
 item:=by
  intro X q hw r F i j s Q H E I l st hg;subst q hw r;obtain⟨xs,x,m,hx⟩:=hg;obtain⟨B,n,p,hz⟩:=I.tuple m;obtain⟨u,O,J⟩:=n.get hx;obtain⟨t,A,L,C,y,D⟩:=l f (by simp);refine wpAny_pyNext_tuple_item st (p) (by simpa using O) λh' g N=>?_;obtain⟨o,e,c,d⟩:=id g;exact⟨u,U,zK e c d (by decide) ⟨x,H,(I.turned (λb o hb e=>(N.2 b hb).trans e) t A C y D),J,⟨U,λR M=>by rw[I.tuple_inj M m];exact hx⟩,g,λb hb=>(l b hb).1⟩⟩
 done:=by
  intro X q hw r F i j s Q H E I l st hg;subst q hw r;obtain⟨xs,m,hx⟩:=hg;obtain⟨B,n,p,hz⟩:=I.tuple m;obtain⟨t,A,L,C,y,D⟩:=l f (by simp);have S:=n.length;exact wpAny_pyNext_tuple_end (I.ok.hd F) st (p) (by simp;lia) λh' G=>⟨U,I.turned (λb o hb e=>G b o hb e) t A C y D⟩
 self:=λ_ _ _ _ _ st h=>wpAny_pyIter_tupleiter st h
theorem wM {K}(a) (lo) (n):vC P w K tg (Itr lo n) [a] a (λi h=>IsRangeIter h a (lo+(i)*1) ((n) - (i)) 1)  where
 mem:=by simp
 obj:=λi h st b hb=>by
  have e:=by simpa using hb
  subst e
  exact⟨_,st,λv z=>by
   cases z⟩
 keep:=λi h h' st k=>k a (by simp) _ st
 item:=by
  intro X r hw u m i c s B H E I f st hg;obtain⟨p,j,A,l,g,q⟩:=f a (by simp);refine (Walks.range (I.ok.hd m) a lo 1 n).item i s _ _ hg st λv h' D C d x=>?_;obtain⟨t,rfl⟩:=C;refine⟨_,U,zK d U U (by decide) ⟨.int _,H,(I.turned (λb o hb e=>x b o (by simpa using hb) e) p j l g q),⟨t,?_⟩,⟨U,U⟩,d,λb hb=>(f b hb).1⟩⟩;rw[qc8]
 done:=by
  intro X r hw u m i c s B H E I f st hg;obtain⟨p,j,A,l,g,q⟩:=f a (by simp);exact wpAny_pyNext_range_end (I.ok.hd m) st (by have:n<=i:=hg;lia) λh' y=>⟨U,I.turned (λb o hb e=>y b o hb e) p j l g q⟩
 self:=λ_ _ _ _ _ st h=>wpAny_pyIter_rangeiter st h
section
variable {X:Cx}{tg:Expr}
def Go (K:qae) (tl:TE):TI:=λk H R=>tl k H λx H1=>∃ a,x=.ref a/\(∃ xs,SqL K H1 a xs)/\R (Itl K a) H1
def HW (K:qae) (tl:TE):TI:=λk H R=>tl k H λx H1=>∃ a,x=.ref a/\(∃ xs,SqT K H1 a xs)/\R (Itt K a) H1
theorem xG (hl:PE X l tl):PI X tg l (Go X.K tl) :=by
 intro c s k H R I h;refine thn (hl c s k H _ I h) λv s1 ⟨x,H1,I1,Q,M⟩=>?_;obtain⟨a,e,⟨xs,hq⟩,q⟩:=M;subst e;cases Q;obtain⟨its,rv,p,hz⟩:=I1.list hq;refine qfZ p.isList ?_;refine⟨s1.heap.objs.size,_,_,_,H1,U,I1.kept λb o e=>qaj _ e,zd a _,⟨_,qaw _ U,U,U⟩,λb hb=>?_,q⟩;have e:=by simpa using hb
 subst e;exact I1.fpOk (qan _) (I1.hok.fresh (qan _))
theorem Fg (hl:PE X l tl):PI X tg l (HW X.K tl) :=by
 intro c s k H R I h;refine thn (hl c s k H _ I h) λv s1 ⟨x,H1,I1,Q,M⟩=>?_;obtain⟨a,e,⟨xs,hq⟩,q⟩:=M;subst e;cases Q;obtain⟨its,rv,p,hz⟩:=I1.tuple hq;refine qcT (p) ?_;refine⟨s1.heap.objs.size,_,_,_,H1,U,I1.kept λb o e=>qaj _ e,wN a _,⟨_,qaw _ U,U,U⟩,λb hb=>?_,q⟩;have e:=by simpa using hb
 subst e;exact I1.fpOk (qan _) (I1.hok.fresh (qan _))
theorem AT {k:St}{lo }(I:Inv X c k H s) (h1:-(2^62)<=lo) (h2:lo<2^62) (h3:-(2^62)<=hi) (h4:hi<2^62)
  (q:R (Itr lo (hi - lo).toNat) H):wpAny (model X.prog X.w) X.A (qjH (.ref s.heap.objs.size)) (PIE X c k tg R) E { s with heap:=s.heap.push { cls:=.type "range",data:=.fields #[.int lo t,.int hi u,.int 1 v] },toks:=tk } :=by
 refine wpAny_pyIter_range (IsRange.new ..) (small_one h1 h2 h3 h4) ?_;have I1:Inv X c k H { s with heap:=s.heap.push { cls:=.type "range",data:=.fields #[.int lo t,.int hi u,.int 1 v] },toks:=tk }:=I.kept λb o e=>qaj _ e
 refine⟨_,_,_,_,H,U,
  I1.kept λb o e=>qaj _ e,wM _ lo (hi - lo).toNat,?_,λb hb=>?_,q⟩
 ·have e1:lo+((0:Nat))*1=lo:=by simp
  have e2:(((hi - lo).toNat)) - ((0:Nat))=qfi lo hi 1:=by rw[qhi];split<;>lia
  rw[e1,e2];exact qaw _ U
 ·have e:b=(s.heap.push { cls:=.type "range",data:=.fields #[.int lo t,.int hi u,.int 1 v] }).objs.size:=by simpa using hb
  subst e;exact I1.fpOk (qan _) (I1.hok.fresh (qan _))
def Gp (ta:TA):TI:=λk H R=>ta k H λvs H1=>∃ j:Int,vs=[.int j]/\-(2^62)<=j/\j<2^62/\R (Itr 0 j.toNat) H1
theorem yS (hg:Gl X "range") (hm:X.mg "range" = none) (ha:PA X [a] ta) (hs:qbB [a] X.env=[(false,eval a X.env)]:=by rfl):PI X tg (.Call (.Name "range" p) [a] [] pos) (Gp ta) :=by
 intro c s k H R I h;refine Call_ (jI I hg hm boot_range (qcd (thn (ha pos c s k H _ I h) λus s1 ⟨vs,H1,I1,Q,M⟩=>?_) hs U));obtain⟨j,e,M,q2,q⟩:=M;subst e;cases Q with
 |cons r rr=>
  cases rr;obtain⟨t,rfl⟩:=r;exact call_range_1 (AT I1 (by lia) (by lia) M q2 (by simpa using q))
def Iw (wi:TI) (g:TG) (Y:TS):TS:=λD k H=>wi k H λJ H1=>∃ W:Nat->Nat->St->Hp->Prop,(∃ m,W 0 m k H1)/\∀ i m k H,W i m k H->
 (J.stop i H/\D.nx k H)\/(J.go i H/\∃ N:St->Hp->Prop,(∀ y H',N y H'->∃ m',m'<m/\W (i+1) m' y H')/\∀ x H',J.yld i H x H'->g x k H' λσ2 H2=>Y { D with nx:=N,ct:=N,bk:=D.nx } σ2 H2)
noncomputable def ph (A:List Addr) (h:Heap):List (Addr×Obj):=A.filterMap λb=>(h.get? b).map λo=>(b,o)
theorem cp (hb:b∈A) (e:h.get? b=some o):(b,o)∈ph A h :=qfb.mpr ⟨b,hb,by rw[e];rfl⟩
theorem yP (F:p∈ph A h):p.1∈A/\h.get? p.1=some p.2 :=by
 obtain⟨b,hb,e⟩:=qfb.mp F;cases q:h.get? b with
 |none=>rw[q]at e;cases e
 |some o=>
  rw[q]at e;have e':=qaP e;subst e';exact⟨hb,q⟩
theorem Inv.pinned {k:St}(I:Inv X c k H s) (hf:∀ b∈A,je X c H b) (ho:∀ b∈A,∃ o,s.heap.get? b=some o/\∀ v,o.data≠.cell v):Inv X (c++ph A s.heap) k H s :=
 I.pins_of λp F=>(qaV.mp F).elim (λz=>I.pin p (qay _ z)) λz=>by
  obtain⟨hb,e⟩:=yP z;obtain⟨f0,f1,V,_⟩:=hf p.1 hb;obtain⟨o,e',d⟩:=ho p.1 hb;rw[e]at e';cases e';exact⟨e,f0,f1,V,d⟩
theorem Inv.unpinned {k:St}(I:Inv X (c++pl) k H s):Inv X c k H s :=I.pins_of λp F=>I.pin p (qay _ (qbd _ F))
theorem AJ (F:qgH (model X.prog X.w) X.A X.env X.xe) (hc:X.calm=true) (hi:PI X tg iter wi) (hg:PG X tg g) (hb:PSs X body Y)
  (hs:∀ x,qbt iter X.env x=pure x:=by intro _;rfl):PS X (.For tg iter body [] pos) (Iw wi g Y) :=by
 intro c s k H D I h;refine wpAny_For (thn (hi c s k H _ I h) λv s1 h1=>thn h1 λitv s2 h2=>?_) hs;obtain⟨it,A,tn,J,H2,e,I2,T,st2,V,W,⟨m0,w0⟩,turn⟩:=h2;subst e
 -- what stays true of the iterator's objects through the loop
 have B:∀ {H':Hp},(∀ b∈A,H' b=none)->∀ b∈A,je X c H' b:=λhn b hb=>⟨hn b hb,(V b hb).2⟩;refine codeAny_forLoop_any (λn s'=>∃ i y H',Inv X c y H' s'/\tn i s'.heap/\(∀ b∈A,H' b=none)/\W i n y H') ?_ m0 ⟨0,k,H2,I2,st2,λb hb=>(V b hb).1,w0⟩
 rintro n s3 ⟨i,C,H3,I3,O,P,w3⟩
 rcases turn i n C H3 w3 with⟨stop,qn⟩|⟨go,N,hN,step⟩
 ·refine qcV F (thn (T.done X U U U hc i c s3 C H3 X.xe I3 (B P) O stop) λr s4 ⟨hr,I4⟩=>?_)
  subst hr;exact qeY ⟨C,H3,I4,qn⟩
 ·refine qcV F (thn (T.item X U U U hc i c s3 C H3 X.xe I3 (B P) O go) λr s4 ⟨u,hr,h4⟩=>?_)
  subst hr;refine qcV F (thn h4 λ_ s5 ⟨x,H5,I5,r5,y5,L,fr5⟩=>?_);refine qcV F (thn (hg _ s5 C H5 x u _ (I5.pinned (B fr5) (T.obj _ _ L)) r5 (step x H5 y5)) λ_ s6 ⟨σ6,H6,I6,q6⟩=>?_);refine qcV F (thn (hb _ s6 σ6 H6 _ I6 q6) λf s7 G=>?_);have again:∀ {w:St}{H7:Hp},Inv X _ w H7 s7->N w H7->∃ m,m<n/\∃ i y H',Inv X c y H' s7/\tn i s7.heap/\(∀ b∈A,H' b=none)/\W i m y H':=λ{w H7} I7 S=>by
   obtain⟨m',hm,w7⟩:=hN w H7 S;refine⟨m',hm,_,w,H7,I7.unpinned,T.keep _ _ _ L λb hb o e=>(I7.pin (b,o) (qay _ (qay _ (cp hb e)))).1,λb hb=>?_,w7⟩;obtain⟨o,e,d⟩:=T.obj _ _ L b hb;exact (I7.pin (b,o) (qay _ (qay _ (cp hb e)))).2.1
  cases f with
  |next=>obtain⟨w,H7,I7,S⟩:=G;exact again I7 S
  |cont=>obtain⟨w,H7,I7,S⟩:=G;exact again I7 S
  |brk=>obtain⟨w,H7,I7,G⟩:=G;exact⟨w,H7,I7.unpinned,G⟩
  |ret v=>obtain⟨x7,w,H7,I7,r7,G⟩:=G;exact⟨x7,w,H7,I7.unpinned,r7,G⟩
end
abbrev R2:=V->V->Hp->VK->Prop
def OpR (X:Cx) (f:Value->Value->Sem Value) (r:R2):Prop:=
 ∀ (a:List (Addr×Obj)) (s:qak) (b:St) (H:Hp) (x y:V) (v u:Value) (Q:VK),Inv X a b H s->aN x v->aN y u->r x y H Q->
  wpAny (model X.prog X.w) X.A (f v u) (EP X a b Q) X.xe s
def UnR (X:Cx) (f:Value->Sem Value) (r:V->Hp->VK->Prop):Prop:=
 ∀ (a:List (Addr×Obj)) (s:qak) (b:St) (H:Hp) (x:V) (v:Value) (Q:VK),Inv X a b H s->aN x v->r x H Q->
  wpAny (model X.prog X.w) X.A (f v) (EP X a b Q) X.xe s
def bh (X:Cx) (f:Value) (r:List V->Hp->VK->Prop):Prop:=
 ∀ (a:List (Addr×Obj)) (s:qak) (b:St) (H:Hp) (xs:List V) (c:List Value) (Q:VK),Inv X a b H s->aI xs c->r xs H Q->
  wpAny (model X.prog X.w) X.A (call f c) (EP X a b Q) X.xe s
def HG (X:Cx) (r:V->Hp->(Bool->Hp->Prop)->Prop):Prop:=
 ∀ (a:List (Addr×Obj)) (s:qak) (b:St) (H:Hp) (x:V) (v:Value) (Q:Bool->Hp->Prop),Inv X a b H s->aN x v->r x H Q->
  wpAny (model X.prog X.w) X.A (truthy v) (TP X a b Q) X.xe s
def tOp (r:R2) (c b:TE):TE:=λa H Q=>c a H λx H1=>b a H1 λy H2=>r x y H2 Q
def tUn (r:V->Hp->VK->Prop) (b:TE):TE:=λa H Q=>b a H λx H1=>r x H1 Q
def rI (C:Int->Int->Prop) (g:Int->Int->V):R2:=λx y H Q=>∃ i j,x=.int i/\y=.int j/\C i j/\Q (g i j) H
def rI0 (g:Int->Int->V):R2:=λx y H Q=>∃ i j,x=.int i/\y=.int j/\Q (g i j) H
def rU (g:Int->V):V->Hp->VK->Prop:=λx H Q=>∃ i,x=.int i/\Q (g i) H
section
variable {X:Cx}{a b c:Expr}{p F O:TE}{pos:Pos}
theorem Eb (A:PE X a p) (hb:PE X b F) {l:St}{R:V->V->Hp->Prop} (I:Inv X d l H s)
  (h:p l H λx H1=>F l H1 λy H2=>R x y H2) {f:Value->Value->Sem Value}
  (M:∀ v u o x y H2,Inv X d l H2 o->aN x v->aN y u->R x y H2->wpAny (model X.prog X.w) X.A (f v u) Q X.xe o) :
  wpAny (model X.prog X.w) X.A (eval a X.env) (λv z=>wpAny (model X.prog X.w) X.A (eval b X.env) (λu w=>wpAny (model X.prog X.w) X.A (f v u) Q X.xe w) X.xe z) X.xe s :=by
 refine thn (A d s l H _ I h) λv s1 ⟨x,H1,I1,K,J⟩=>?_;refine thn (hb d s1 l H1 _ I1 J) λu o ⟨y,H2,I2,N,L⟩=>?_;exact M v u o x y H2 I2 K N L
theorem DI (G:OpR X (qbG op) r) (A:PE X a p) (hb:PE X b F):PE X (.BinOp a op b pos) (tOp r p F) :=by
 intro d s l H Q I h;exact wpAny_BinOp (Eb A hb I h λv u o x y H2 I2 m n q=>G d o l H2 x y v u Q I2 m n q)
theorem GV (G:UnR X (unaryOp op) r) (A:PE X a p):PE X (.UnaryOp op a pos) (tUn r p) :=by
 intro d s l H Q I h;exact UnaryOp_ (thn (A d s l H _ I h) λv s1 ⟨x,H1,I1,K,J⟩=>G d s1 l H1 x v Q I1 K J)
theorem opI {g:Int->Int->Int}
  (rule:∀ (i j) (t u) (s) (Q) (E),C i j->Q (.int (g i j) s.toks) { s with toks:=s.toks+1 }->wpAny (model X.prog X.w) X.A (f (.int i t) (.int j u)) Q E s) :
  OpR X f (rI C λi j=>.int (g i j)) :=by
 intro d s l H x y v u Q I m n h;obtain⟨i,j,rfl,rfl,e,q⟩:=h;obtain⟨t,rfl⟩:=m;obtain⟨t',rfl⟩:=n;exact rule i j t t' s _ _ e ⟨.int _,H,I.tok _,⟨_,U⟩,q⟩
theorem EX {g:Int->Int->Int}
  (rule:∀ (i j) (t u) (s) (Q) (E),Q (.int (g i j) s.toks) { s with toks:=s.toks+1 }->wpAny (model X.prog X.w) X.A (f (.int i t) (.int j u)) Q E s) :
  OpR X f (rI0 λi j=>.int (g i j)) :=by
 intro d s l H x y v u Q I m n h;obtain⟨i,j,rfl,rfl,q⟩:=h;obtain⟨t,rfl⟩:=m;obtain⟨t',rfl⟩:=n;exact rule i j t t' s _ _ ⟨.int _,H,I.tok _,⟨_,U⟩,q⟩
theorem EW {g:Int->Int->Bool}
  (rule:∀ (i j) (t u) (s) (Q) (E),Q (.bool (g i j)) s->wpAny (model X.prog X.w) X.A (f (.int i t) (.int j u)) Q E s) :
  OpR X f (rI0 λi j=>.bl (g i j)) :=by
 intro d s l H x y v u Q I m n h;obtain⟨i,j,rfl,rfl,q⟩:=h;obtain⟨t,rfl⟩:=m;obtain⟨t',rfl⟩:=n;exact rule i j t t' s _ _ ⟨.bl _,H,I,U,q⟩
def HE (i j:Int):Prop:=0<j/\j<1073741824
def vB (i j:Int):Prop:=0<=j/\j<=1000000/\i.natAbs<2^64
def BF (i j:Int):Prop:=(-(2^64)<i/\i<2^64)\/(-(2^64)<j/\j<2^64)
theorem BF.ok (h:BF i j):qgu i j :=by
 rcases h with⟨B,D⟩|⟨B,D⟩
 ·exact .of_left (intBits_le_64 B D)
 ·exact .of_right (intBits_le_64 B D)
theorem wO (k):(0:Int)<=2^k :=by
 exact Int.natCast_nonneg _
theorem EY:OpR X (qbG .Add) (rI0 λi j=>.int (i+j)):=EX λ_ _ _ _ _ _ _ q=>add_int q
theorem E7:OpR X (qbG .Sub) (rI0 λi j=>.int (i - j)):=EX λ_ _ _ _ _ _ _ q=>sub_int q
theorem CF:OpR X (qbG .FloorDiv) (rI HE λi j=>.int (i / j)):=opI λi j _ _ _ _ _ e q=>by
 have B:=e.1;have D:=e.2;exact floordiv_int (by lia) (by rw[qd0 i (by lia)];exact q) (.inl (PyProof.noPylong_small (by lia)))
theorem E3:OpR X (qbG .Mod) (rI (λ_ j=>0<j) λi j=>.int (i%j)):=opI λi j _ _ _ _ _ e q=>by
 exact mod_int' (by lia) (by rw[Int.fmod_eq_emod_of_nonneg i (by lia)];exact q)
theorem E4:OpR X (qbG .Pow) (rI vB λi j=>.int (i^j.toNat)):=opI λ_ _ _ _ _ _ _ e q=>pow_int_small e.1 e.2.1 e.2.2 q
theorem E5:OpR X (qbG .LShift) (rI vB λi j=>.int (i*2^j.toNat)):=opI λ_ _ _ _ _ _ _ e q=>lshift_int_small e.1 e.2.1 e.2.2 q
theorem E6:OpR X (qbG .RShift) (rI (λ_ j=>0<=j) λi j=>.int (i / 2^j.toNat)):=opI λi j _ _ _ _ _ e q=>
 rshift_int e (by rw[qd0 i (wO _)];exact q)
theorem EZ:OpR X (qbG .BitAnd) (rI0 λi j=>.int (qdl i j)):=EX λ_ _ _ _ _ _ _ q=>and_int q
theorem unI {g:Int->Int}
  (rule:∀ (i) (t) (s) (Q) (E),Q (.int (g i) s.toks) { s with toks:=s.toks+1 }->wpAny (model X.prog X.w) X.A (f (.int i t)) Q E s) :
  UnR X f (rU λi=>.int (g i)) :=by
 intro d s l H x v Q I m h;obtain⟨i,rfl,q⟩:=h;obtain⟨t,rfl⟩:=m;exact rule i t s _ _ ⟨.int _,H,I.tok _,⟨_,U⟩,q⟩
theorem FR:UnR X (unaryOp .USub) (rU λi=>.int (-i)):=unI λ_ _ _ _ _ q=>neg_int q
end
section
variable {X:Cx}{a b c:Expr}{D G tc:TE}{pos:Pos}
theorem zH {f:St}(I:Inv X d f H s) (q:Q (.bl k) H) (e:k=P):EP X d f Q (.bool P) s :=by
 subst e;exact⟨.bl k,H,I,U,q⟩
theorem GR:OpR X (qbP .Lt) (rI0 λi j=>.bl (decide (i<j))):=EW λ_ _ _ _ _ _ _ q=>lt_int q
theorem GQ:OpR X (qbP .Gt) (rI0 λi j=>.bl (decide (j<i))):=EW λ_ _ _ _ _ _ _ q=>gt_int q
theorem GP:OpR X (qbP .GtE) (rI0 λi j=>.bl (decide (j<=i))):=EW λ_ _ _ _ _ _ _ q=>ge_int q
theorem E2:OpR X (qbP .Is) (λx y H Q=>y=.non/\Q (.bl (decide (x=.non))) H):=by
 intro d s f H x y v u Q I l A h;obtain⟨rfl,q⟩:=h;cases A;refine is_none_gen (zH I q ?_);cases x<;>first
  |(rfl)
  |(obtain⟨t,rfl⟩:=l;rfl)
theorem CH:OpR X (qbP .IsNot) (λx y H Q=>y=.non/\Q (.bl (!decide (x=.non))) H):=by
 intro d s f H x y v u Q I l A h;obtain⟨rfl,q⟩:=h;cases A;refine isnot_none_gen (zH I q ?_);cases x<;>first
  |(rfl)
  |(obtain⟨t,rfl⟩:=l;rfl)
theorem CK (L:OpR X (qbP op) r) (E:PE X a D) (hb:PE X b G) (hm:qfH op b=false):PE X (.Compare a [op] [b] pos) (tOp r D G) :=by
 intro d s f H Q I h;exact wpAny_Compare1 (Eb E hb I h λv u J x y H2 I2 l A q=>L d J f H2 x y v u Q I2 l A q) hm
def Hx (t:TE):TT:=λf H Q=>t f H λx H'=>∃ k,x=.bl k/\Q k H'
theorem CV (L:OpR X (qbP op) r) (E:PE X a D) (hb:PE X b G) (hm:qfH op b=false):PT X (.Compare a [op] [b] pos) (Hx (tOp r D G)) :=by
 intro d s f H Q I h
 refine wpAny_isTrue_Compare1 (thn (E d s f H _ I h) λv s1 ⟨x,H1,I1,B,N⟩=>thn (hb d s1 f H1 _ I1 N) λu J ⟨y,H2,I2,M,T⟩=>
  thn (L d J f H2 x y v u _ I2 B M T) λc s3 ⟨z,H3,I3,r3,k,e,Y⟩=>?_) hm
 subst e;cases r3;exact qev ⟨H3,I3,Y⟩
def BJ (K:qae) (x:V) (H:Hp) (k:Bool):Prop:=
 match x with
 |.non=>k=false
 |.bl b=>k=b
 |.int i=>k=(i != 0)
 |.str y=>y.length<=qaG/\k=((y.length:Int) != 0)
 |.byt y=>y.size<=qaG/\k=((y.size:Int) != 0)
 |.ref p=>(∃ xs,SqL K H p xs/\k=!xs.isEmpty)\/(∃ xs,SqT K H p xs/\k=!xs.isEmpty)\/∃ g,H p=some (.dK g)/\k=!g.isEmpty
 |_=>False
theorem vX (r:KV g C):(!C.isEmpty)=!g.isEmpty :=by
 cases r<;>rfl
theorem og (r:aI xs o):(!o.toArray.isEmpty)=!xs.isEmpty :=by
 cases r<;>simp
theorem lJ:(qaG)<2^63 :=by decide
theorem FP:HG X (λx H Q=>∃ k,BJ X.K x H k/\Q k H):=by
 intro d s f H x v Q I l h;obtain⟨k,e,q⟩:=h;have hs:=qcz;cases x with
 |non=>
  cases l;subst e;exact truthy_none ⟨H,I,q⟩
 |bl b=>
  cases l;subst e;exact qev ⟨H,I,q⟩
 |int i=>
  obtain⟨t,rfl⟩:=l;subst e;exact PySem.P.truthy_int ⟨H,I,q⟩
 |str y=>
  obtain⟨t,rfl⟩:=l;obtain⟨hy,n⟩:y.length<=qaG/\k=_:=e;subst n;exact PySem.P.truthy_str (by lia) ⟨H,I.tok _,q⟩
 |byt y=>
  obtain⟨t,rfl⟩:=l;obtain⟨hy,n⟩:y.size<=qaG/\k=_:=e;subst n;exact PySem.W.truthy_bytes (by lia) ⟨H,I.tok _,q⟩
 |ref p=>
  cases l;have n:=e;rcases n with⟨xs,hx,n⟩|⟨xs,hx,n⟩|⟨g,hx,n⟩
  ·subst n
   obtain⟨o,r,O,hz⟩:=I.list hx;have w:=r.length;exact wpAny_truthy_list O.isList (by simp only[qaB];lia) ⟨H,I.tok _,by rw[og r];exact q⟩
  ·subst n
   obtain⟨o,r,O,hz⟩:=I.tuple hx;have w:=r.length;exact truthy_tuple O (by simp only[qaB];lia) ⟨H,I.tok _,by rw[og r];exact q⟩
  ·subst n
   obtain⟨hz,hS,C,r,m⟩:g.length<=qaG/\(p==qcq)=false/\∃ C,KV g C/\s.heap.DictOf _ p C:=I.hok p _ hx;have w:=qeT r;exact wpAny_truthy_dict hS m (by lia) ⟨H,I.tok _,by rw[vX r];exact q⟩
 |_=>exact (show False from e).elim
theorem AN (E:PE X a D) (W:∀ whole,qjL a X.env whole=(do let v <-whole;qjD a.pos;qf1 [v] (truthy v))) :
  PT X a (λf H Q=>D f H λx H'=>∃ k,BJ X.K x H' k/\Q k H'):=by
 intro d s f H Q I h;exact isTrue_plain (thn (E d s f H _ I h) λv s1 ⟨x,H1,I1,B,N⟩=>FP d s1 f H1 x v Q I1 B N) (W _)
theorem wl:OpR X (qbG .Add) (λx y H Q=>∃ i j,x=.str i/\y=.str j/\i.length+j.length<=qaG/\Q (.str (i++j)) H):=by
 intro d s f H x y v u Q I l A h;obtain⟨i,j,rfl,rfl,hz,q⟩:=h;obtain⟨t,rfl⟩:=l;obtain⟨t',rfl⟩:=A;exact add_str (λt' S=>⟨.str _,H,I.tok _,⟨_,U⟩,q⟩) hz
theorem iR (r:aI [x] F):∃ u,F=[u]/\aN x u :=by
 cases r with
 |cons B M=>cases M;exact⟨_,U,B⟩
theorem zr:bh X (.builtin "abs") (λxs H Q=>∃ i,xs=[.int i]/\Q (.int (if i<0 then -i else i)) H):=by
 intro d s f H xs F Q I r h;obtain⟨i,rfl,q⟩:=h;obtain⟨u,rfl,t,rfl⟩:=iR r;exact call_abs_int λu S=>⟨.int _,H,I.tok _,⟨_,U⟩,q⟩
theorem qz:bh X (.type "int") (λxs H Q=>(∃ i,xs=[.int i]/\Q (.int i) H)\/∃ k,xs=[.bl k]/\Q (.int (if k then 1 else 0)) H):=by
 intro d s f H xs F Q I r h;rcases h with⟨i,rfl,q⟩|⟨k,rfl,q⟩
 ·obtain⟨u,rfl,t,rfl⟩:=iR r
  exact call_int_int ⟨.int i,H,I,⟨_,U⟩,q⟩
 ·obtain⟨u,rfl,B⟩:=iR r
  cases B;exact call_int_bool ⟨.int _,H,I.tok _,⟨_,U⟩,q⟩
end
structure ye (h:Heap) (x dx C:Addr) (mA:Str->Option Value):Prop where
 obj:h.get? x=some (qc5 C dx)
 ns:h.Ns1 dx mA
 ne:dx≠x
theorem yL {h:Heap}(n:h.Ns1 d c):∃ f,h.get? d=some f/\∀ name,qfJ name f=some (c name) :=by
 obtain⟨o,es,l,k,hd,j,_,hm⟩:=n;refine⟨o,k,λname=>?_⟩;have e:=hm name;unfold nsFind findBy at e;rw[<-Array.find?_toList]at e;unfold qfJ;rw[hd];dsimp only;split
 ·rename_i y q
  rw[q]at e;exact congrArg some e
 ·rename_i q
  rw[q]at e;have a:es.toList.any (·.refKey)=false:=by
   rw[qfm];intro y g;obtain⟨z,t,b⟩:=j y (Array.mem_toList_iff.mp g);simp[DictEntry.refKey,b]
  have i:¬ es.toList.any (·.refKey)=true:=by rw[a];exact qa1
  rw[iFN i];exact congrArg some e
theorem ye.look (I:ye h x b C c):∃ a,PySem.W.InstAt h x (qc5 C b) C (some a)/\∀ name,qfJ name a=some (c name) :=
 let ⟨a,ho,hl⟩:=yL I.ns
 ⟨a,⟨I.obj,U,U,ho⟩,hl⟩
section
variable {prog:qaR}{w:World}{A:qa2}{E:Value->qak->Prop}{s:qak}{K:qae}{x g C f:Addr}{c:Str->Option Value}{name:Str}{v:Value}
theorem B0 (X:K.In s.heap) (I:ye s.heap x g C c) (hg:qed K C name=true) (j:qdW K C=true)
  (F:qcf K (.ref C) name=some none) (u:c name=some v) (m:qg4 v=true) (h:Q v { s with toks:=s.toks+1 }) :
  wpAny (model prog w) A (getAttr (.ref x) name e) Q E s :=by
 obtain⟨B,J,q⟩:=I.look;exact PySem.W.get_value X J (PySem.W.plainGet_of hg).1 (PySem.W.findObj_own j F U (by rw[q,u])) m h
theorem Dd (X:K.In s.heap) (I:ye s.heap x g C c)
  (r:qcf K (.ref C) "__setattr__" = some (some (.builtin "object.__setattr__"))) (L:qe3 K C=true) (G:qfq K C name=some none) (j:qdW K C=true)
  (hw:qgG c ns) (D:ns.length<=qaG)
  (h:∀ h',ye h' x g C (λy=>if y=name then some v else c y)->qc9 g s.heap h'->Q () { s with heap:=h',toks:=s.toks+2 }) :
  wpAny (model prog w) A (setAttr (.ref x) name v) Q E s :=by
 obtain⟨B,J,q⟩:=I.look;refine PySem.W.set_plain X J r (PySem.W.osa_open X J L G λb=>?_);obtain⟨O,M,l⟩:=PySem.W.any_some j;refine qac (qaq (qac (qac (wpAny_loadPart I.obj (qac (qiE (PySem.W.looks_clsIn X M) ?_))))));rw[l];refine qaq (qac (qaq (qac ?_)));refine wpAny_nsSet1 I.ns λh' a d=>?_;obtain⟨N,H,z,n,o,i⟩:=a.count (qjt name v hw);refine qac (wpAny_lookBehind n (by rw[o];exact pastItsLine_dict (qaD i (by rw[qam];lia))) ?_);exact qaq (h _ ⟨(d.2 _ (qbF I.ne)).trans I.obj,a,I.ne⟩ d)
theorem Ab (X:K.In s.heap) (hm:qfr K C=true)
  (hi:qcf K (.ref C) "__init__" = some (some (.ref f))) (t:PySem.W.typeIn K (.ref f)=some (.type "function"))
  (h:qfo (model prog w) (A.under (.builtin "type.__call__" ⟨.ref C::k,p⟩)) (.call (.ref f) ⟨.ref (s.heap.objs.size+1)::k,p⟩) (PySem.W.InitBack (s.heap.objs.size+1) R)
    { s with heap:=(s.heap.push qcN).push (qc5 C s.heap.objs.size) }) :
  qfo (model prog w) A (.call (.ref C) ⟨k,p⟩) R s :=by
 exact PySem.W.make_core (PySem.W.makes_of X hm) (PySem.W.looks_findIn X hi) (λself=>PySem.W.bind_fn X self t) (.inl U) h
end
noncomputable def fP (f:Str) (v:V):List (Str×V)->List (Str×V)
 |[]=>[(f,v)]
 |(g,x)::r=>if g=f then (g,v)::r else (g,x)::fP f v r
theorem me (f g:Str) (v:V):∀ fs:List (Str×V),(fP f v fs).lookup g=if g=f then some v else fs.lookup g
 |[]=>by
  show qdQ g [(f,v)]=_;by_cases h:g=f
  ·simp only[qdQ,(beq_iff_eq.mpr h),iFP h]
  ·simp only[qdQ,(beq_eq_false_iff_ne.mpr h),iFN h]
 |(k,x)::r=>by
  rw[show fP f v _=(if k=f then (k,v)::r else (k,x)::fP f v r) from U];by_cases a:k=f
  ·rw[iFP a]
   by_cases h:g=k
   ·simp only[qdQ,(beq_iff_eq.mpr h),iFP (h.trans a)]
   ·simp only[qdQ,(beq_eq_false_iff_ne.mpr h),iFN (λe:g=f=>h (e.trans a.symm))]
  ·rw[iFN a]
   by_cases h:g=k
   ·simp only[qdQ,(beq_iff_eq.mpr h),iFN (λe=>a (h.symm.trans e))]
   ·simp only[qdQ,(beq_eq_false_iff_ne.mpr h)]
    exact (me f g v r)
theorem lI (f:Str) (v:V):∀ fs:List (Str×V),f∈(fP f v fs).map (·.1)/\∀ g,g∈fs.map (·.1)->g∈(fP f v fs).map (·.1)
 |[]=>⟨by simp[fP],λg h=>by simp at h⟩
 |(k,x)::r=>by
  obtain⟨c,b⟩:=lI f v r;rw[show fP f v _=(if k=f then (k,v)::r else (k,x)::fP f v r) from U];by_cases a:k=f
  ·subst a
   exact⟨by simp,λg h=>by simpa using h⟩
  ·rw[iFN a]
   refine⟨?_,λg h=>?_⟩
   ·exact qah _ c
   ·rcases qav.mp h with e|e
    ·exact qav.mpr (.inl e)
    ·exact qah _ (b g e)
theorem ma (f:Str) (v:V):∀ fs:List (Str×V),(fP f v fs).length<=fs.length+1
 |[]=>by simp[fP]
 |(k,x)::r=>by
  have b:=ma f v r;rw[show fP f v _=(if k=f then (k,v)::r else (k,x)::fP f v r) from U];by_cases a:k=f
  ·rw[iFP a,qam,qam];lia
  ·rw[iFN a,qam,qam];lia
theorem mo.some_of (r:mo (some v) o):∃ u,o=some u/\aN v u :=by
 cases o with
 |none=>exact (r).elim
 |some u=>exact⟨u,U,r⟩
theorem yv (r:aN v u):qg4 u=true :=by
 cases v with
 |non=>cases (r);rfl
 |bl b=>cases (r);rfl
 |int i=>obtain⟨t,e⟩:=(r);cases e;rfl
 |str x=>obtain⟨t,e⟩:=(r);cases e;rfl
 |byt b=>obtain⟨t,e⟩:=(r);cases e;rfl
 |flt b=>obtain⟨t,e⟩:=(r);cases e;rfl
 |ref a=>cases (r);rfl
 |ty n=>cases (r);rfl
section
variable {P:qaR}{w:World}{H H':Hp}{h h':Heap}{a C c:Addr}{fs g:List (Str×V)}
theorem rV (hok:HOk P w H h) (e:H a=some (.ins C c fs)):∃ b,ye h a c C b/\(∀ f,mo (fs.lookup f) (b f))/\qgG b (fs.map (·.1))/\fs.length<=1000/\H c=some (.own a):=by
 obtain⟨d,z,ne,ob,b,n,r,q⟩:=(hok a _ e);exact⟨b,⟨ob,n,ne⟩,r,q,z,d⟩
end
structure Cls (K:qae) (C:Addr):Prop where
 pg:qed K C Str.empty=true
 hd:qdW K C=true
 po:qe3 K C=true
 sa:qcf K (.ref C) "__setattr__" = some (some (.builtin "object.__setattr__"))
theorem Cls.get {K}(c:Cls K C) (f):qed K C f=true :=c.pg
def cj (K:qae) (C:Addr) (f:Str):Prop:=qcf K (.ref C) f=some none
theorem cj.taker {K}(n:cj K C f):qfq K C f=some none :=by
 unfold qfq;rw[n];rfl
section
variable {X:Cx}{d:List (Addr×Obj)}{i:St}{H:Hp}{s:qak}{a C k:Addr}{fs:List (Str×V)}{f:Str}{v:V}{A:qa2}{E:Value->qak->Prop}
theorem vQ (I:Inv X d i H s) (e:H a=some (.ins C k fs)) (c:Cls X.K C) (n:cj X.K C f) (l:fs.lookup f=some v)
  (h:∀ u s',Inv X d i H s'->aN v u->Q u s'):wpAny (model X.prog X.w) A (getAttr (.ref a) f b) Q E s :=by
 obtain⟨p,O,r,_,_,_⟩:=rV I.hok e;obtain⟨u,K,t⟩:=mo.some_of (by rw[<-l];exact r f);exact B0 I.kIn O (c.get f) c.hd n K (yv t) (h u _ (I.tok _) t)
theorem wD (I:Inv X d i H s) (e:H a=some (.ins C k fs)) (c:Cls X.K C) (n:cj X.K C f) (M:fs.length<1000) (D:aN y u)
  (h:∀ s',Inv X d i (upd H a (.ins C k (fP f y fs))) s'->Q () s'):wpAny (model X.prog X.w) A (setAttr (.ref a) f u) Q E s :=by
 obtain⟨p,O,r,x,_,B⟩:=rV I.hok e;have hz:(fs.map (·.1)).length<=qaG:=by rw[qaf,qcz];lia
 refine Dd I.kIn O c.sa c.po n.taker c.hd x hz λh' O' J=>h _ ?_;refine I.write (by rw[e];exact True.intro) (.inr B) (λb q hb z=>(J.2 b hb).trans z) (let ⟨o,_,_,e',_⟩:=O'.ns;⟨o,e'⟩) ?_;refine⟨by rw[upd_ne O.ne];exact B,?_,O.ne,O'.obj,_,O'.ns,λg=>?_,λg hg=>?_⟩
 ·have:=ma f y fs;lia
 ·rw[me]
  by_cases q:g=f
  ·rw[iFP q,iFP q];exact D
  ·rw[iFN q,iFN q];exact r g
 ·by_cases q:g=f
  ·rw[q];exact (lI f y fs).1
  ·refine (lI f y fs).2 g (x g λz=>hg ?_)
   show (if g=f then some u else p g)=none;rw[iFN q];exact z
theorem Inv.made (I:Inv X d i H s):Inv X d i (upd (upd H s.heap.objs.size (.own (s.heap.objs.size+1))) (s.heap.objs.size+1) (.ins C s.heap.objs.size []))
  { s with heap:=(s.heap.push qcN).push (qc5 C s.heap.objs.size) }:=by
 have m:(s.heap.push qcN).get? s.heap.objs.size=some qcN:=qaw s.heap U;have G:=by
  have:=qaw (s.heap.push qcN) (o:=qc5 C s.heap.objs.size) U
  rwa [qbs]at this
 refine (I.laid (o:=.own _) (t':=s.toks) (λb u q=>qaj _ q) (qan _) ⟨_,m⟩).laid (λb u q=>qaj _ q) (qdb (qbs _ _)) ?_;have ne:s.heap.objs.size≠s.heap.objs.size+1:=qaH (qb2 _);refine⟨by rw[upd_ne ne,upd_same],qbr _,ne,G,_,(Heap.Ns1.of_empty ⟨qcN,_,_,m,U,(λe L=>absurd L (by simp)),λ_=>rfl⟩).at λo q=>qaj _ q,λ_=>True.intro,λy F=>absurd U F⟩
theorem BN (hb:qcc e f env (eval e env)=eval e env)
  (h:wpAny (model prog w) A (eval e env) (λo j=>wpAny (model prog w) A (getAttr o f true) Q E j) E s):wpAny (model prog w) A (eval (.Attribute e f pos) env) Q E s :=
 Attribute_any_ h (by rw[arm_eval_Attribute,hb])
end
def Iv (K:qae) (d:TE) (f:Str):TE:=λc H Q=>d c H λx H1=>∃ a C b fs v,x=.ref a/\H1 a=some (.ins C b fs)/\Cls K C/\cj K C f/\fs.lookup f=some v/\Q v H1
def Ip (K:qae) (d e:TE) (f:Str):TS:=λD b H=>e b H λy H1=>d b H1 λx H2=>∃ a C c fs,x=.ref a/\H2 a=some (.ins C c fs)/\Cls K C/\cj K C f/\fs.length<1000/\
 D.nx b (upd H2 a (.ins C c (fP f y fs)))
section
variable {X:Cx}{o e b:Expr}{f:Str}{pos g p:Pos}{j r:TE}
theorem Fa (z:PE X e j) (hb:qcc e f X.env (eval e X.env)=eval e X.env):PE X (.Attribute e f pos) (Iv X.K j f):=by
 intro d s i H Q I h;refine BN hb (thn (z d s i H _ I h) λu s1 ⟨x,H1,I1,m,a,C,K,fs,v,ex,k,c,n,l,q⟩=>?_);subst ex;obtain rfl:u=Value.ref a:=m;exact vQ I1 k c n l λM B I2 G=>⟨v,H1,I2,G,q⟩
theorem AI (J:PE X o j) (A:PE X b r) (w:qcj b (some (.Attribute o f g)) pos.line X.env=pure false):PS X (.Assign [.Attribute o f g] b pos) (Ip X.K j r f):=by
 intro d s i H D I h;refine plainObj_wpAny_Assign_Attribute (thn (A d s i H _ I h) λu s1 ⟨y,H1,I1,F,q⟩=>thn (J d s1 i H1 _ I1 q) λE B ⟨x,H2,I2,m,a,C,K,fs,ex,k,c,n,l,t⟩=>?_) w;subst ex;obtain rfl:E=Value.ref a:=m;exact wD I2 k c n l F λL I3=>⟨i,_,I3,t⟩
end
section
variable {X:Cx}{k:List (Addr×Obj)}{m:St}{H:Hp}{s:qak}{A:qa2}{E:Value->qak->Prop}{Q:Value->qak->Prop}{c:Value}{b:Bool}
inductive mv (K:qae) (H:Hp):V->Value->Prop where
 |non:mv K H .non (.type "NoneType")
 |bl (x:Bool):mv K H (.bl x) (.type "bool")
 |int (i:Int):mv K H (.int i) (.type "int")
 |str (x:Str):mv K H (.str x) (.type "str")
 |flt (x:UInt64):mv K H (.flt x) (.type "float")
 |lst {a:Addr}{xs:List V} (e:H a=some (.lst xs)):mv K H (.ref a) (.type "list")
 |frz {a:Addr}{o:Obj}{xs:List V} (e:H a=some (.frz o (.lst xs))):mv K H (.ref a) (.type "list")
 |tup {a:Addr}{xs:List V} (e:H a=some (.tup xs)):mv K H (.ref a) (.type "tuple")
 |dK {a:Addr}{kvs:List (Key×V)} (e:H a=some (.dK kvs)):mv K H (.ref a) (.type "dict")
 |dT {a:Addr}{kvs:List (List Key×V)} (e:H a=some (.dT kvs)):mv K H (.ref a) (.type "dict")
 |ins {a C dx:Addr}{fs:List (Str×V)} (e:H a=some (.ins C dx fs)) (cl:Cls K C) (ha:qcf K (.ref C) "__class__" = some (some (.builtin "object.__class__")))
   (hn:PySem.W.specialIn K (.builtin "object.__class__") "__get__" = some (some (.builtin "getset_descriptor.__get__"))) (htk:PySem.W.takesIn K (.builtin "object.__class__")=some true)
   (hm:PySem.W.mroIn K C (.type "object")=some true):mv K H (.ref a) (.ref C)
theorem bZ (I:Inv X k m H s) (d:aN x u) (ty:mv X.K H x t) (e:qhx X.K t c=some b) (h:∀ l,Q (.bool b) { s with toks:=l }) :
  wpAny (model X.prog X.w) A (call (.builtin "isinstance") [u,c]) Q E s :=by
 cases ty with
 |non=>cases (d);exact qbM PySem.W.kitx_none I.kIn True.intro e (λz=>nomatch z) h
 |bl y=>cases (d);exact qbM PySem.W.kitx_bool I.kIn True.intro e (λz=>nomatch z) h
 |int i=>obtain⟨t,q⟩:=(d);cases q;exact qbM PySem.W.kitx_int I.kIn True.intro e (λz=>nomatch z) h
 |str y=>obtain⟨t,q⟩:=(d);cases q;exact qbM PySem.W.kitx_str I.kIn True.intro e (λz=>nomatch z) h
 |flt y=>obtain⟨t,q⟩:=(d);cases q;exact qbM PySem.W.kitx_float I.kIn True.intro e (λz=>nomatch z) h
 |@lst a xs f=>
  cases (show u=Value.ref a from d);obtain⟨_,_,n,_,g⟩:=(I.hok a _ f);exact qbM qgS I.kIn ⟨_,g,U⟩ e (λz=>nomatch z) h
 |@frz a ob xs f=>
  cases (d);obtain⟨_,_,_,n,_,g⟩:=(I.hok a _ f);exact qbM qgS I.kIn ⟨_,g,U⟩ e (λz=>nomatch z) h
 |@tup a xs f=>
  cases (show u=Value.ref a from d);obtain⟨_,_,_,p⟩:=(I.hok a _ f);obtain⟨o,g,j,_⟩:=p;exact qbM qgO I.kIn ⟨o,g,j⟩ e (λz=>nomatch z) h
 |@dK a kvs f=>
  cases (show u=Value.ref a from d);obtain⟨_,_,w,_,p⟩:=(I.hok a _ f);obtain⟨o,es,r,g,j,_⟩:=p;exact qbM qgT I.kIn ⟨o,g,j.1⟩ e (λz=>nomatch z) h
 |@dT a kvs f=>
  cases (show u=Value.ref a from d);obtain⟨_,_,xs,_,o,es,r,g,j,_⟩:=(I.hok a _ f);exact qbM qgT I.kIn ⟨o,g,j.1⟩ e (λz=>nomatch z) h
 |@ins a C dx fs f cl ha hn htk hm=>
  cases (d);obtain⟨v,O,_⟩:=rV I.hok f;obtain⟨B,J,_⟩:=O.look;exact qbM (PySem.W.kitx_own (cl.get _) cl.hd ha hn htk hm) I.kIn J e (λz=>nomatch z) h
end
structure bj (k:Nat) (A:qa2):Prop where
 hd:A.handled=none
 dp:A.depth+3*k+5<qj2
 un:A.units+16*k+200<cLine
 gd:A.guards=some []
theorem bj.mono (r:bj k A) (h:j<=k):bj j A :=⟨r.hd,by have:=r.dp;lia,by have:=r.un;lia,r.gd⟩
theorem bj.deeper (r:bj (k+1) A) (env):bj k (A.deeper env) :=
 ⟨r.hd,by have:=r.dp;show A.depth+1+3*k+5<_;lia,by have:=r.un;show A.units+3+16*k+200<_;lia,r.gd⟩
theorem wf {A:qa2}:(A.under (.builtin "type.__call__" ⟨.ref C::a,b⟩)).depth=A.depth+1 :=by
 first|rfl|simp[qgx,Code.weight,Code.isCreation,qiI,Code.isCaller,qjC,qiJ,guardIds]
theorem wg {A:qa2}:(A.under (.builtin "type.__call__" ⟨.ref C::a,b⟩)).units=A.units+1 :=by
 first|rfl|simp[qgx,Code.cUnits,qjC,qiJ]
theorem bj.make (r:bj (k+1) A) (C) (a) (b):bj k (A.under (.builtin "type.__call__" ⟨.ref C::a,b⟩)) :=
 ⟨r.hd,by have:=r.dp;rw[wf];lia,by have:=r.un;rw[wg];lia,by
  unfold qgx
  simp[r.gd,pushGuards,Code.guards,qiI,guardIds]⟩
theorem bj.depth (r:bj k A):A.depth<qj2 :=by have:=r.dp;lia
theorem bj.units (r:bj k A):A.units+64<cLine :=by have:=r.un;lia
theorem bj.units0 (r:bj k A):A.units<cLine :=by have:=r.un;lia
def IB:TA:=λ_ H Q=>Q [] H
def Hn (c:TE) (b:TA):TA:=λa H Q=>c a H λx H1=>b a H1 λxs H2=>Q (x::xs) H2
section
variable {X:Cx}{e:Expr}{es:List Expr}{te:TE}{t:TA}{pos:Pos}
theorem sB:PA X [] IB:=λ_ _ _ _ H Q I h=>Calls.spliced_nil ⟨_,H,I,.nil,h⟩
theorem mS (j:PE X e te) (g:PA X es t) (m:qbB (e::es) X.env=(false,eval e X.env)::qbB es X.env:=by rfl):PA X (e::es) (Hn te t):=by
 intro pos a s c H Q I h;rw[m];refine Calls.spliced_cons (thn (j a s c H _ I h) λu s1 ⟨x,H1,I1,l,n⟩=>?_);exact thn (g pos a s1 c H1 _ I1 n) λd o ⟨xs,H2,I2,i,k⟩=>⟨_,H2,I2,.cons l i,k⟩
def IG (t:TA):TE:=λc H Q=>t c H λxs H1=>xs.length<=qaG/\∀ p,H1 p=none->Q (.ref p) (upd H1 p (.tup xs))
def Iz (t:TA):TE:=λc H Q=>t c H λxs H1=>xs.length<=qaG/\∀ p,H1 p=none->Q (.ref p) (upd H1 p (.lst xs))
theorem Aw (h:PA X es t):PE X (.Tuple es x1 pos) (IG t) :=by
 intro a s c H Q I f;refine wpAny_Tuple_spliced (thn (h pos a s c H _ I f) λd s1 ⟨xs,H1,I1,r,z,q⟩=>⟨by rw[<-r.length];exact z,?_⟩);refine⟨.ref s1.heap.objs.size,_,I1.laid (λb u e=>qaj _ e) (qan _) ?_,U,q _ (I1.hok.fresh (qan _))⟩;exact⟨z,d,r,eR.new _ _⟩
theorem Av (h:PA X es t):PE X (.List es pos) (Iz t):=by
 intro a s c H Q I f;refine wpAny_List_spliced (thn (h pos a s c H _ I f) λd s1 ⟨xs,H1,I1,r,z,q⟩=>⟨by rw[<-r.length];exact z,?_⟩);refine⟨.ref s1.heap.objs.size,_,I1.laid (λb u e=>qaj _ e) (qan _) ?_,U,q _ (I1.hok.fresh (qan _))⟩;exact⟨z,d,0,r,qaw _ U⟩
end
abbrev Sp:=List V->Hp->VK->XK->Prop
abbrev CXT:=List Env->Hp->qak->XK->Value->qak->Prop
structure yd (P:qaR) (w:World) (K:qae) (mg:Str->Option Value) (base:Heap) (A:qa2) (outer:List Env) (s:qak) (H:Hp):Prop where
 frames:A.frames=some outer
 mod:Mod K mg base
 bs:∀ b o,base.get? b=some o->s.heap.get? b=some o/\H b=none
 bsz:base.objs.size<=s.heap.objs.size
 funs:s.heap.FunFrames base outer
 frf:∀ b∈frs outer,H b=none
 hok:HOk P w H s.heap
 bare:qfx s.gens
def CE (outer:List Env) (P:qaR) (w:World) (H:Hp) (s:qak) (Q:VK) (u:Value) (s':qak):Prop:=
 ∃ v H',s'.os=s.os/\qfx s'.gens/\Un (frs outer) [] H H' s.heap s'.heap/\HOk P w H' s'.heap/\aN v u/\Q v H'
def CR (CX:CXT) (outer:List Env) (P:qaR) (w:World) (H:Hp) (s:qak) (Q:VK) (E:XK) (r:qjP) (s':qak):Prop:=
 match r with
 |.ok (.ret u)=>CE outer P w H s Q u s'
 |.ok _=>False
 |.error e=>CX outer H s E e s'
structure dm (P:qaR) (w:World) (K:qae) (mg:Str->Option Value) (base:Heap) (CX:CXT) (k:Nat) (f:Addr) (fd:qb5) (ps:List Str) (sp:Sp):Prop where
 len:∀ vs H Q E,sp vs H Q E->vs.length=ps.length
 run:∀ (A:qa2) (outer:List Env) (s:qak) (H:Hp) (args:Args) (us:List Value) (vs:List V) (Q:VK) (E:XK),bj k A->yd P w K mg base A outer s H->qht s fd args (ps.zip us)->aI vs us->sp vs H Q E->
  qfo (model P w) A (.call (.ref f) args) (CR CX outer P w H s Q E) s
theorem dm.mono {K}(F:dm P w K mg base CX j f fd ps sp) (h:j<=k) :
  dm P w K mg base CX k f fd ps sp :=⟨F.len,λA outer s H args c b Q E a=>F.run A outer s H args c b Q E (a.mono h)⟩
theorem yd.make {K}(e:yd P w K mg base A outer s H) (C) (b) (a) :
  yd P w K mg base (A.under (.builtin "type.__call__" ⟨.ref C::b,a⟩)) outer s H :=⟨by first|exact e.frames|(simpa  using e.frames),e.mod,e.bs,e.bsz,e.funs,e.frf,e.hok,e.bare⟩
section
variable {X:Cx}{a:List (Addr×Obj)}{e:St}{H:Hp}{s s':qak}
theorem Inv.env0 (I:Inv X a e H s):yd X.prog X.w X.K X.mg X.base X.A X.stack s H:=
 ⟨I.ok.frames,I.ok.mod,I.bs,qaD I.ok.bsz I.sz,I.stack,I.stkFree,I.hok,I.bare⟩
theorem Inv.after (I:Inv X a e H s) (h:CE X.stack X.prog X.w H s Q u s'):EP X a e Q u s' :=by
 obtain⟨v,H',os,bare,un,hok,r,q⟩:=h;obtain⟨f,g,d,t,c⟩:=s';obtain rfl:c=s.os:=os;exact⟨v,H',I.call un hok bare (λb z=>absurd z (by simp)),r,q⟩
end
def Hm (sp:Sp) (a:List V) (E:XK) (t:TA):TE:=λc H Q=>t c H λb H1=>sp (b++a) H1 Q E
def Ht (C:Addr) (sp:Sp) (b:List V) (E:XK) (t:TA):TE:=λd H Q=>t d H λc H1=>∀ x a,H1 x=none->H1 a=none->a≠x->
 sp (.ref x::(c++b)) (upd (upd H1 a (.own x)) x (.ins C a [])) (λv H2=>v=.non/\Q (.ref x) H2) E
def cY (K:qae) (fd:qb5) (ps:List Str) (ds:List Value):Prop:=
 ∀ (s:qak) (a:List Value),K.In s.heap->(a++ds).length=ps.length->qht s fd ⟨a,[]⟩ (ps.zip (a++ds))
theorem cY.all {K}(h:∀ a,a.length=ps.length->bindArgs fd ⟨a,[]⟩=pure (ps.zip a)):cY K fd ps [] :=λs a _ b=>by
 rw[qbR]at b ⊢;exact .of_eq (h a b)
def mV (CX:CXT) (X:Cx) (E:XK):Prop:=∀ (a:List (Addr×Obj)) (b:St) (H:Hp) (s:qak) (e:Value) (s':qak),Inv X a b H s->CX X.stack H s E e s'->X.xe e s'
section
variable {X:Cx}{CX:CXT}{k:Nat}{f C:Addr}{fd:qb5}{ps:List Str}{sp:Sp}{b:List V}{ds:List Value}{E:XK}{x m:Str}{p pos G:Pos}{e o:Expr}{es:List Expr}{P:TE}{t:TA}
theorem Fz {g:St}(F:dm X.prog X.w X.K X.mg X.base CX k f fd ps sp) (n:bj k X.A) (hb:cY X.K fd ps ds) (hd:aI b ds) (hx:mV CX X E)
  (I:Inv X a g H s) (r:aI l c) (h:sp (l++b) H Q E):wpAny (model X.prog X.w) X.A (call (.ref f) c) (EP X a g Q) X.xe s :=by
 have y:=r.append hd;have B:(c++ds).length=ps.length:=by rw[<-y.length];exact F.len _ _ _ _ h
 refine wpAny_call (qga (F.run X.A X.stack s H _ _ _ Q E n I.env0 (hb s c I.kIn B) y h) λr s' i=>?_);cases r with
 |error e=>exact hx a g H s e s' I i
 |ok fl=>
  cases fl with
  |ret u=>exact I.after i
  |next=>exact qcw i
  |brk=>exact qcw i
  |cont=>exact qcw i
theorem xD (F:dm X.prog X.w X.K X.mg X.base CX k f fd ps sp) (n:bj k X.A) (hg:Gl X x) (hm:X.mg x=some (.ref f)) (O:qcC X.K (.ref f)=true) (hb:cY X.K fd ps ds) (hd:aI b ds) (hx:mV CX X E)
  (D:PA X (e::es) t) (w:(x==("__debug__"))=false:=by decide) (A:qbB (e::es) X.env=(false,eval e X.env)::qbB es X.env:=by rfl) (j:(qe2 pos (qbB es X.env)).any (·.1)=false:=by rfl) :
  PE X (.Call (.Name x p) (e::es) [] pos) (Hm sp b E t) :=by
 intro a s g H Q I h;refine qej (xw I hg hm ?_ w);refine qgP I.ok.mod.kin O (thn (D pos a s g H _ I h) λc s1 ⟨l,H1,I1,r,q⟩=>⟨I1.kIn,?_⟩) A j;exact Fz F n hb hd hx I1 r q
structure Mk (K:qae) (C f:Addr):Prop where
 makes:qfr K C=true
 init:qcf K (.ref C) "__init__" = some (some (.ref f))
 fn:qhR K (.ref f)=true
 kp:qcC K (.ref C)=true
theorem A7 {g:St}(M:Mk X.K C f) (F:dm X.prog X.w X.K X.mg X.base CX k f fd ps sp) (n:bj (k+1) X.A) (hb:cY X.K fd ps ds) (hd:aI b ds)
  (hx:mV CX X E) (I:Inv X a g H s) (r:aI l c)
  (h:∀ x z,H x=none->H z=none->z≠x->sp (.ref x::(l++b)) (upd (upd H z (.own x)) x (.ins C z [])) (λv H2=>v=.non/\Q (.ref x) H2) E) :
  wpAny (model X.prog X.w) X.A (call (.ref C) c) (EP X a g Q) X.xe s :=by
 have i:=h _ s.heap.objs.size (I.hok.fresh (qcF _)) (I.hok.fresh (qan _)) (qaH (qb2 _));have I2:=Inv.made (C:=C) I;have y:aI (V.ref (s.heap.objs.size+1)::_) _:=.cons U (r.append hd);have B:=by
  have e:=y.length;rw[F.len _ _ _ _ i]at e;exact e.symm
 refine wpAny_call (Ab I.kIn M.makes M.init (beq_iff_eq.mp M.fn) (qga (F.run _ X.stack _ _ _ _ _ _ E (n.make C c [])
  (I2.env0.make C c []) (hb _ _ I2.kIn B) y i) λr s' d=>?_))
 cases r with
 |error e=>exact hx a g _ _ e s' I2 d
 |ok fl=>
  cases fl with
  |ret u=>
   obtain⟨v,H',I3,J,N,L⟩:=I2.after d;subst N;exact⟨J,⟨V.ref _,H',I3,U,L⟩⟩
  |next=>exact qcw d
  |brk=>exact qcw d
  |cont=>exact qcw d
theorem CM (M:Mk X.K C f) (F:dm X.prog X.w X.K X.mg X.base CX k f fd ps sp) (n:bj (k+1) X.A) (hg:Gl X x) (hm:X.mg x=some (.ref C)) (hb:cY X.K fd ps ds) (hd:aI b ds) (hx:mV CX X E)
  (D:PA X (e::es) t) (w:(x==("__debug__"))=false:=by decide) (A:qbB (e::es) X.env=(false,eval e X.env)::qbB es X.env:=by rfl) (j:(qe2 pos (qbB es X.env)).any (·.1)=false:=by rfl) :
  PE X (.Call (.Name x p) (e::es) [] pos) (Ht C sp b E t) :=by
 intro a s g H Q I h;refine qej (xw I hg hm ?_ w);refine qgP I.ok.mod.kin M.kp (thn (D pos a s g H _ I h) λc s1 ⟨l,H1,I1,r,q⟩=>⟨I1.kIn,?_⟩) A j;exact A7 M F n hb hd hx I1 r q
end
section
variable {X:Cx}{CX:CXT}{k:Nat}{f C:Addr}{fd:qb5}{ps d:List Str}{sp:Sp}{E:XK}{x m:Str}{p pos a b:Pos}{e o:Expr}{es:List Expr}{c:List qh5}{te j:TE}{t h:TA}{nm:Option Str}
variable {g:List Value->List Value->List Value}{i:List V->List V->List V}
end
structure cf (N P:List Str) (sc:Scope):Prop where
 kind:sc.kind=.function
 co:sc.isCoroutine=false
 gen:sc.isGenerator=false
 nd:N.Nodup
 pre:N.take P.length=P
 par:∀ x∈P,sc.names.lookup x=some .local\/sc.names.lookup x=some .cell
 nofree:∀ y∈sc.names,y.2≠.free
theorem qx {kindOf:Str->Option qbZ}{x:Str}:∀ {binds:List (Str×Value)}{m:Str->Option Value},(∀ v,(x,v)∉binds)->bindL kindOf binds m x=m x
 |[],_,_=>rfl
 |(n,v)::r,m,h=>by
  unfold bindL;rw[qx λw hw=>h w (qah _ hw)];split
  ·have:x≠n:=by rintro rfl;exact h v qag
   simp[this]
  ·rfl
theorem qv {kindOf:Str->Option qbZ}{x:Str}:∀ {binds:List (Str×Value)}{m:Str->Option Value},(∀ v,(x,v)∉binds)->bindC kindOf binds m x=m x
 |[],_,_=>rfl
 |(n,v)::r,m,h=>by
  unfold bindC;rw[qv λw hw=>h w (qah _ hw)];split
  ·rfl
  ·have:x≠n:=by rintro rfl;exact h v qag
   simp[this]
theorem qw {kindOf}{x}{v}:∀ {P:List Str}{a}{i:Nat}{m},P.Nodup->P[i]?=some x->a[i]?=some v->kindOf x=some .local->
  bindL kindOf (P.zip a) m x=some v
 |[],_,_,_,_,h,_,_=>by simp at h
 |_::_,[],_,_,_,_,h,_=>by simp at h
 |p::P,w::a,0,m,nd,b,c,d=>by
  simp at b c;subst b;subst c
  show bindL kindOf ((p,w)::P.zip a) m p=_;unfold bindL;rw[qx λv e=>(qb0.mp nd).1 (qfS e).1,iFP d]
  simp
 |p::P,w::a,i+1,m,nd,b,c,d=>by
  unfold bindL;exact qw (qb0.mp nd).2 (by simpa using b) (by simpa using c) d
theorem qu {kindOf}{x}{v}:∀ {P:List Str}{a}{i:Nat}{m},P.Nodup->P[i]?=some x->a[i]?=some v->kindOf x≠some .local->
  bindC kindOf (P.zip a) m x=some v
 |[],_,_,_,_,h,_,_=>by simp at h
 |_::_,[],_,_,_,_,h,_=>by simp at h
 |p::P,w::a,0,m,nd,b,c,d=>by
  simp at b c;subst b;subst c
  show bindC kindOf ((p,w)::P.zip a) m p=_;unfold bindC;rw[qv λv e=>(qb0.mp nd).1 (qfS e).1,iFN d]
  simp
 |p::P,w::a,i+1,m,nd,b,c,d=>by
  unfold bindC;exact qu (qb0.mp nd).2 (by simpa using b) (by simpa using c) d
noncomputable def iP (N:List Str) (a:List V):St:=a.map some++qaJ (N.length - a.length) none
noncomputable def fq (CX:CXT) (P:qaR) (w:World) (K:qae) (mg:Str->Option Value) (base:Heap) (N:List Str) (b:Str) (a:Scope) (f:Addr) (d:Value) (A:qa2) (outer:List Env) (s:qak) (H:Hp) (E:XK):Cx where
 prog:=P
 w:=w
 K:=K
 mg:=mg
 base:=base
 A:=A.deeper (qex b a s.heap.objs.size f d)
 N:=N
 s₀:=s
 H₀:=H
 env:=qex b a s.heap.objs.size f d
 outer:=outer
 stack:=qex b a s.heap.objs.size f d::outer
 ex:=[]
 calm:=true
 fn:=λ_=>true
 pn:=[]
 xe:=λe s'=>wpAny (model P w) (A.deeper (qex b a s.heap.objs.size f d)) (leaving (qex b a s.heap.objs.size f d) e) (λ_ c=>CX outer H s E e c) (λg c=>CX outer H s E g c) s'
theorem tO {a:Scope}(h:a.names.lookup x=some .cell):∃ c,(qcu n a.names []).lookup x=some c :=by
 exact qcs.mp (qdd a.names n [] (.inl h))
theorem yE {K}(S:cf N ps d) (hd:A.handled=none) (e0:yd P w K mg base A outer s H) (O:l.length=ps.length) (r:aI l D)
  (x:InCallC s s.heap.objs.size (bindL (qex g d s.heap.objs.size f C).kindOf (ps.zip D) λ_=>none) (qcu (s.heap.objs.size+1) d.names []) (bindC (qex g d s.heap.objs.size f C).kindOf (ps.zip D) λ_=>none) s1) :
  Inv (fq CX P w K mg base N g d f C A outer s H E) [] (iP N l) H s1 :=by
 have J:ps.length<=N.length:=by have:=congrArg qeU S.pre;rw[qdB]at this;lia
 obtain⟨B,M,rfl,F⟩:=x.done;have m:∀ b ,b∉(fq CX P w K mg base N g d f C A outer s H E).ex:=λb z=>absurd (show b∈([]) from z) (by simp)
 refine⟨⟨e0.mod,S.kind,U,U,qan _,λy z c B j=>?_,λy o=>?_,λy c _ h=>?_,λ_=>hd,Around.frames_deeper e0.frames,.inr ⟨U,U⟩,λb z=>absurd z (m b),e0.bs,e0.bsz,λb _ _=>m b,λb z=>absurd z (m b),e0.funs,e0.frf⟩,
  rfl,e0.bare,Un.kept F,⟨_,x.toInCall.ns,λi y v B j Q=>?_⟩,λy c h=>⟨_,x.cell y c h⟩,e0.hok.fresh (qan _),λy c h=>?_,λp t=>absurd (show p∈([]) from t) (by simp),e0.hok.kept F,?_⟩
 ·exact name_of_addr x.apart (qbu B) (qbu j)
 ·rcases o with o|o
  ·exact tO o
  ·exact absurd U (S.nofree _ (qbu o))
 ·exact qeL (x.above y c (qbu h))
 ·have hi:i<l.length:=by
   unfold iP at j;by_cases hi:i<l.length
   ·exact hi
   ·rw[qaK (by simpa using hi)]at j
    rw[qdg]at j;split at j<;>cases j
  have L:l[i]?=some v:=by
   unfold iP at j;rw[qaC (by simpa using hi),qaz]at j;cases e:l[i]? with
   |none=>rw[e]at j;cases j
   |some a=>rw[e]at j;cases j;rfl
  obtain⟨u,G,I⟩:=r.get L;have t:ps[i]?=some y:=by
   rw[<-S.pre,qef (by lia)];exact B
  have n:ps.Nodup:=by rw[<-S.pre];exact S.nd.sublist (List.take_sublist _ _)
  refine⟨u,I,?_⟩;rcases S.par y (qbK t) with k|k
  ·exact .inl ⟨k,qw n t G k⟩
  ·obtain⟨c,e⟩:=tO k
   refine .inr ⟨.inl k,c,e,?_⟩;have q:=x.cell y c e;rw[qu n t G (by show d.names.lookup y≠_;rw[k];decide)]at q;exact q
 ·exact e0.hok.fresh (qeL (x.above y c (qbu h)))
 ·unfold iP
  show _=N.length;rw[qau,qaf,qcQ];lia
theorem Gh {K}{ kV     }(O:K.lookup f=some ⟨I,M,.func (qdK name c d body a D kV p F G g ct),B⟩) (z:qfK K g c=true) (S:cf N ps a)
  (len:∀ i H Q E,sp i H Q E->i.length=ps.length)
  (j:∀ (A) (outer) (s) (H) (i) (Q) (E),bj k (A.deeper (qex c a s.heap.objs.size f g))->sp i H Q E->
    ∃ t,PSs (fq CX P w K mg base N c a f g A outer s H E) body t/\t { nx:=λ_ H'=>Q .non H',rt:=Q } (iP N i) H) :
  dm P w K mg base CX (k+1) f (qdK name c d body a D kV p F G g ct) ps sp :=by
 refine⟨len,λA outer s H args X i Q E C e0 hb r m=>?_⟩;have KX:=e0.mod.kin.keeps λb o e=>(e0.bs b o e).1;refine codeAny_call_function C.depth (KX _ _ O) U S.co S.gen U (PySem.W.codeRec_of KX z) (hb _ _ _ _ ?_)
 refine wpAny_newFunctionEnv_cells S.kind (λ⟨n,v⟩ W=>by
  rcases S.par n (qfS W).1 with q|q
  ·exact .inl q
  ·exact .inr ⟨q,qdd _ _ _ (.inl q)⟩) λenv L s1 x=>?_
 subst L;refine⟨(e0.mod.nolimit.keeps λb o e=>(e0.bs b o e).1).keeps x.toInCall.keep,codeAny_func ?_⟩;obtain⟨t,R,T⟩:=j A outer s H i Q E (C.deeper _) m;refine qcp (R [] s1 _ H _ (yE S C.hd e0 (len _ _ _ _ m) r x) T) (λfl s' l=>?_) λe s' l=>l;have fin:∀ {h:St}{H':Hp}{v:V}{u:Value},Inv (fq CX P w K mg base N c a f g A outer s H E) [] h H' s'->aN v u->Q v H'->CE outer P w H s Q u s':=
  λ{h H' v u} J y q=>⟨v,H',J.os,J.bare,J.base,J.hok,y,q⟩
 cases fl with
 |ret u=>
  obtain⟨v,h,H',J,y,q⟩:=l;exact fin J y q
 |next=>
  obtain⟨h,H',J,q⟩:=l;exact fin (v:=V.non) J U q
 |brk=>
  obtain⟨_,_,_,q⟩:=l;exact qcw q
 |cont=>
  obtain⟨_,_,_,q⟩:=l;exact qcw q
section
variable {X:Cx}{x:Str}{p pos:Pos}{e:Expr}{es:List Expr}{t:TA}{id T:String}{r:List V->Hp->VK->Prop}
def tCB (r:List V->Hp->VK->Prop) (t:TA):TE:=λc H Q=>t c H λf H1=>r f H1 Q
theorem pf (k:bh X (.builtin id) r) (hg:Gl X x) (hm:X.mg x=none) (n:qce x=some (.builtin id)) (g:PA X (e::es) t) (hn:x≠"__name__":=by decide) (b:(x==("__debug__"))=false:=by decide)
  (m:qbB (e::es) X.env=(false,eval e X.env)::qbB es X.env:=by rfl) (d:(qe2 pos (qbB es X.env)).any (·.1)=false:=by rfl):PE X (.Call (.Name x p) (e::es) [] pos) (tCB r t) :=by
 intro a s c H Q I h;refine qej (jI I hg hm n ?_ hn b);exact qjx (thn (g pos a s c H _ I h) λj s1 ⟨f,H1,I1,i,l⟩=>k a s1 c H1 f j Q I1 i l) m d
theorem cR (k:bh X (.type T) r) (hg:Gl X x) (hm:X.mg x=none) (n:qce x=some (.type T)) (g:PA X (e::es) t) (hn:x≠"__name__":=by decide) (b:(x==("__debug__"))=false:=by decide)
  (m:qbB (e::es) X.env=(false,eval e X.env)::qbB es X.env:=by rfl) (d:(qe2 pos (qbB es X.env)).any (·.1)=false:=by rfl):PE X (.Call (.Name x p) (e::es) [] pos) (tCB r t) :=by
 intro a s c H Q I h;refine qej (jI I hg hm n ?_ hn b);exact qcd (thn (g pos a s c H _ I h) λj s1 ⟨f,H1,I1,i,l⟩=>k a s1 c H1 f j Q I1 i l) m d
end
end L2
namespace HT
open PySem PyProof.Rows
noncomputable def lexLt:List Int->List Int->Bool
 |[],[]=>false
 |[],_::_=>true
 |_::_,[]=>false
 |x::xs,y::a=>if x=y then lexLt xs a else decide (x<y)
theorem lexLt_cons (x y) (xs a):lexLt (x::xs) (y::a)=if x=y then lexLt xs a else decide (x<y) :=rfl
theorem qh:lexLt [] []=false:=rfl
theorem oG (y) (a):lexLt [] (y::a)=true :=rfl
theorem oF (x) (xs):lexLt (x::xs) []=false :=rfl
theorem zE (A) (s) (a) (t) (c) (u):∃ e,qdH A s (.int a t) (.int c u) e/\(e=true↔a=c) :=
 ⟨_,qgn a t c u,by simp⟩
section
open PySem.SeqAt
open PySem.AutoSeq1 (wpAny_loadPart')
open PySem.MeetsSeq PySem.MeetsSeq2 PySem.MeetsSeq3
end
section
variable {prog:qaR}{w:World}{A:qa2}{E:Value->qak->Prop}{s:qak}
theorem cat_tup (z:IsTup s.heap t l.toArray) (hb:IsTup s.heap b ws.toArray) (C:l≠[])
  (T:ws=[]->Q (.ref t) s) (V:ws≠[]->Q (.ref s.heap.objs.size) { s with heap:=s.heap.push { cls:=.type "tuple",data:=.seq (l++ws).toArray } })
  (F:l.length+ws.length<=qaG):wpAny (model prog w) A (qbG .Add (.ref t) (.ref b)) Q E s :=by
 obtain⟨⟨cls,P,data,g⟩,I,W,n,hd⟩:=id z;obtain⟨⟨R,B,data2,D⟩,c,K,O,L⟩:=id hb;subst W hd K L;have e:l.toArray++ws.toArray=(l++ws).toArray:=by simp
 by_cases hw:ws=[]
 ·exact qhI ⟨_,I,U⟩ ⟨_,c,U⟩ qgj qhh qeh qd9 (qdX _ _)
   (tuple_addW1 t b l.toArray ws.toArray n O P B g D (by simpa using C) (by simp[hw])) ⟨I,c,T hw⟩
 ·refine qhI ⟨_,I,U⟩ ⟨_,c,U⟩ qgj qhh qeh qd9 (qdX _ _)
   (tuple_addW2 t b l.toArray ws.toArray n O P B g D (by simpa using C) (by simpa using hw) (by exact F)) ⟨I,c,?_⟩
  rw[e];exact V hw
noncomputable def sIx (n d:Nat):Option Int->Nat
 |none=>d
 |some v=>if v<0 then (v+(n:Int)).toNat else min v.toNat n
theorem sIx_none (n d):sIx n d none=d :=rfl
theorem sIx_nat (n d k:Nat):sIx n d (some (k))=min k n :=by
 show (if (k)<0 then ((k)+(n:Int)).toNat else min (k:Int).toNat n)=min k n;rw[iFN (by lia),qbf]
theorem Iq (n d) (hd:d<=n) (o):sIx n d o<=n :=by
 cases o with
 |none=>exact hd
 |some v=>
  show (if v<0 then (v+_).toNat else min v.toNat n)<=n;by_cases C:v<0
  ·lia
  ·rw[iFN C];exact Nat.min_le_right _ _
theorem wW (v) (n d:Nat):(if v<0 then max (v+(n:Int)) 0 else min v (n))=((sIx n d (some v))) :=by
 show _=(((if v<0 then (v+_).toNat else min v.toNat n):Nat):Int);by_cases C:v<0
 ·lia
 ·lia
theorem vD (lo hi) (n:Nat):qe6 lo hi 1 (n)=(((sIx n 0 lo):Int),((sIx n n hi):Int)) :=by
 refine Prod.ext ?_ ?_
 ·cases lo with
  |none=>rfl
  |some v=>exact wW v n 0
 ·cases hi with
  |none=>rfl
  |some v=>exact wW v n n
theorem wm (i j:Nat):qcI (i) (j) 1=j - i :=by
 unfold qcI;split<;>lia
theorem pJ (p:qgg v o) (h:Q o s):wpAny (model prog w) A (qiL v) Q E s :=by
 cases p with
 |none=>exact qj0 h
 |int i t=>exact slicePart_int h
theorem fQ {lo }{n:Nat}(H:s.heap.IsSliceOf g y u .none) (N:qgg y lo) (M:qgg u hi)
  (h:Q (((sIx n 0 lo)),1,sIx n n hi - sIx n 0 lo) s):wpAny (model prog w) A (qiM (.ref g) (pure (n))) Q E s :=by
 obtain⟨os,a,G,f⟩:=id H;refine qac (qac (qb8 a f (x:=y) U (qac (qb8 a f (x:=u) U (qac (qb8 a f U (qaq ?_)))))));refine qac (qj0 ?_);refine qac (pJ N (qac (pJ M (qac (qaq ?_)))));show wpAny _ _ (match qe6 lo hi 1 _ with|(lo,hi)=>pure (lo,_,qcI lo hi 1)) _ _ s
 rw[vD lo hi n];show wpAny _ _ (pure (_,_,qcI _ _ 1)) _ _ s;rw[wm];exact qaq h
theorem AB (xs:Array Value) (i k:Nat):((qai k).filterMap λ(m:Nat)=>xs[((i)+(m:Int)*1).toNat]?).toArray=((xs.toList.drop i).take k).toArray :=by
 have e:(λ(m:Nat)=>xs[((i)+(m:Int)*1).toNat]?)=λm=>xs[i+m]?:=by
  funext m
  have:((i)+(m:Int)*1).toNat=i+m:=by lia
  rw[this]
 rw[e]
 have:=pick_run xs i k
 rw[List.filterMap_map]at this;have S:(_ ∘ λx=>i+x)=λm=>xs[i+m]?:=rfl;rw[S]at this;rw[this]
theorem getItem_tuple_cut {lo }(z:IsTup s.heap t items) (H:s.heap.IsSliceOf g y u .none) (N:qgg y lo) (M:qgg u hi)
  (hw:¬ (sIx items.size 0 lo=0/\sIx items.size items.size hi=items.size))
  (h:Q (.ref s.heap.objs.size) { s with heap:=s.heap.push { cls:=.type "tuple",data:=.seq ((items.toList.drop (sIx items.size 0 lo)).take (sIx items.size items.size hi - sIx items.size 0 lo)).toArray } })
  (F:items.size<=qaG):wpAny (model prog w) A (qe1 (.ref t) (.ref g)) Q E s :=by
 have r:=by
  show ((items.toList.drop (sIx items.size 0 lo)).take (sIx items.size items.size hi - sIx items.size 0 lo)).toArray.size<=qaG;rw[qaB,qdB,qdC,qc3];lia
 obtain⟨os,a,G,f⟩:=id H;unfold qe1
 try with_reducible refine qct ?_
 refine qac (qit z.typeIs (by decide) ?_)
 refine qac (qbL z.typeIs qbE
  (qbW qbE z.typeIs qh2 ?_ (qig _ _)))
 show wpAny _ _ (qeW _ >>= _) _ _ s;refine qac (tupleItemsOf_ z ?_);refine qac (qhE ⟨os,a,G⟩ ?_);refine qac (fQ H N M ?_);have J:¬ ((((sIx items.size 0 lo):Int)==0&&(1:Int)==1&&(sIx items.size items.size hi - sIx items.size 0 lo)==items.size)=true):=by
  intro q;exact hw ⟨by lia,by lia⟩
 show wpAny _ _ (if _=true then _ else _) _ _ s;rw[iFN J,AB]
 first
  |exact qac (qcE (qaq ⟨_,rfl,qaq h⟩) r)
  |exact qac _
  |exact qac _
  |exact qac _
end
end HT
namespace L2
open PySem PySem.Spec PyProof.Rows
abbrev TO:=St->Hp->(Option Int->Hp->Prop)->Prop
def PO (X:Cx) (e:Option Expr) (t:TO):Prop:=
 ∀ (a:List (Addr×Obj)) (s:qak) (b:St) (H:Hp) (Q:Option Int->Hp->Prop),Inv X a b H s->t b H Q->
  wpAny (model X.prog X.w) X.A (evalPart e X.env) (λu s'=>∃ o H',Inv X a b H' s'/\qgg u o/\Q o H') X.xe s
def Dl:TO:=λ_ H Q=>Q none H
def Hw (t:TE):TO:=λa H Q=>t a H λx H1=>∃ i,x=.int i/\Q (some i) H1
theorem dM :∀ {a},aI (ns.map V.int) a->qcn a ns :=by
 induction ns with
 |nil=>intro a r;cases r;exact .nil
 |cons n ns d=>
  intro a r;cases r with
  |cons b c=>
   obtain⟨t,e⟩:=b;subst e;exact .cons n t (d c)
section
variable {X:Cx}{e:Expr}{te:TE}{lo hi:Option Expr}{tl C:TO}{pos F:Pos}
theorem CO:PO X none Dl:=by
 intro c s d H Q I h;exact qaq ⟨none,H,I,.none,h⟩
theorem CP (h:PE X e te):PO X (some e) (Hw te):=by
 intro c s d H Q I hw;refine thn (h c s d H _ I hw) λu s1 ⟨x,H1,I1,g,o⟩=>?_;obtain⟨i,rfl,q⟩:=o;obtain⟨t,rfl⟩:=g;exact⟨_,H1,I1,.int i t,q⟩
def SlR (X:Cx) (r:V->Option Int->Option Int->Hp->VK->Prop):Prop:=
 ∀ (c:List (Addr×Obj)) (s:qak) (d:St) (H:Hp) (x:V) (v m j:Value) (lo hi:Option Int) (D:Addr) (Q:VK),Inv X c d H s->aN x v->s.heap.IsSliceOf D m j .none->qgg m lo->qgg j hi->r x lo hi H Q->
  ∃ T id,typeLookup (.type T) "__getitem__" = pure (some (.builtin id))/\s.TypeIs v T/\wpAny (model X.prog X.w) X.A (qe1 v (.ref D)) (EP X c d Q) X.xe s
def tSl (r:V->Option Int->Option Int->Hp->VK->Prop) (te:TE) (tl C:TO):TE:=λd H Q=>te d H λx H1=>tl d H1 λl H2=>C d H2 λu H3=>r x l u H3 Q
theorem uX (hr:SlR X r) (R:PE X e te) (hl:PO X lo tl) (hu:PO X hi C):PE X (.Subscript e (.Slice lo hi none F) pos) (tSl r te tl C) :=by
 intro c s d H Q I h;refine qiC (thn (R c s d H _ I h) λv s1 ⟨x,H1,I1,g,o⟩=>?_);refine wpAny_Slice (thn (hl c s1 d H1 _ I1 o) λm S ⟨l,H2,I2,M,E⟩=>thn (hu c S d H2 _ I2 E) λj J ⟨u,H3,I3,L,Y⟩=>?_);refine qaq ?_;obtain⟨T,id,hT,B,hg⟩:=hr c { J with heap:=J.heap.push { cls:=.type "slice",data:=.fields #[m,j,.none] } } d H3 x v m j l u J.heap.objs.size Q (I3.kept λb ob q=>qaj _ q) g (qim ..) M L Y
 exact tail_any B hT hg (by with_unfolding_all rfl)
def vK (xs:List V) (lo hi:Option Int):List V:=(xs.drop (HT.sIx xs.length 0 lo)).take (HT.sIx xs.length xs.length hi - HT.sIx xs.length 0 lo)
theorem lX (xs) (lo hi):(vK xs lo hi).length<=xs.length :=by
 unfold vK;rw[qdB,qdC];lia
def Io (K:qae):V->Option Int->Option Int->Hp->VK->Prop:=λx lo hi H Q=>∃ a xs,x=.ref a/\SqT K H a xs/\
 ¬ (HT.sIx xs.length 0 lo=0/\HT.sIx xs.length xs.length hi=xs.length)/\∀ p,H p=none->Q (.ref p) (upd H p (.tup (vK xs lo hi)))
theorem FA:SlR X (Io X.K):=by
 intro c s d H x v m j lo hi D Q I G P M L h;obtain⟨a,xs,rfl,hx,hw,q⟩:=h;cases G;obtain⟨n,r,B,hz⟩:=I.tuple hx;have f:n.toArray.size=xs.length:=by exact r.length.symm
 refine⟨"tuple",_,qbE.lookup,B.typeIs,?_⟩
 refine HT.getItem_tuple_cut B P M L (by rw[f];exact hw) ?_ (by rw[f];exact hz);rw[f];refine⟨.ref s.heap.objs.size,_,I.laid (λb ob q=>qaj _ q) (qan _) ?_,U,q _ (I.hok.fresh (qan _))⟩;exact⟨qaD (lX xs lo hi) hz,_,(r.drop _).take _,eR.new _ _⟩
def G6 (K:qae):R2:=λx y H Q=>∃ a b xs k,x=.ref a/\y=.ref b/\SqT K H a xs/\SqT K H b k/\xs≠[]/\xs.length+k.length<=qaG/\
 (k=[]->Q (.ref a) H)/\(k≠[]->∀ p,H p=none->Q (.ref p) (upd H p (.tup (xs++k))))
theorem aI.nil_iff (r:aI xs O):O=[]↔xs=[] :=by
 cases r with
 |nil=>simp
 |cons _ _=>simp
theorem CC:OpR X (qbG .Add) (G6 X.K):=by
 intro c s d H x y v u Q I G W h;obtain⟨a,b,xs,k,rfl,rfl,ha,hb,hx,hz,o,E⟩:=h;cases G;cases W;obtain⟨n,g,p1,_⟩:=I.tuple ha;obtain⟨N,A,F,_⟩:=I.tuple hb;refine HT.cat_tup p1 F (λz=>hx (g.nil_iff.mp z)) (λz=>⟨.ref a,H,I,U,o (A.nil_iff.mp z)⟩) (λz=>?_) (by rw[<-g.length,<-A.length];exact hz);refine⟨.ref s.heap.objs.size,_,I.laid (λb ob q=>qaj _ q) (qan _) ?_,U,E (λw=>z (A.nil_iff.mpr w)) _ (I.hok.fresh (qan _))⟩;exact⟨by rw[qau];exact hz,_,g.append A,eR.new _ _⟩
end
noncomputable def ixN (n:Nat) (i:Int):Option Nat:=if 0<=i then (if i<n then some i.toNat else none) else if -(n:Int)<=i then some (i+n).toNat else none
def atI {α:Type} (xs:List α) (i:Int):Option α:=(ixN xs.length i).bind λj=>xs[j]?
theorem mN (h:ixN n i=some j):qjG i n=some j/\j<n/\-(n)<=i/\i<n :=by
 unfold ixN at h;by_cases b:0<=i
 ·rw[iFP b]at h
  by_cases a:i<n
  ·rw[iFP a]at h
   exact⟨by rw[qhY b a,(qaP h)],by lia,by lia,a⟩
  ·rw[iFN a]at h;cases h
 ·rw[iFN b]at h
  by_cases a:-(n)<=i
  ·rw[iFP a]at h
   exact⟨by rw[qhH (by lia) a,(qaP h)],by lia,a,by lia⟩
  ·rw[iFN a]at h;cases h
theorem qV {v} (h:atI xs i=some v):∃ j,qjG i xs.length=some j/\xs[j]?=some v/\j<xs.length/\-(xs.length)<=i/\i<xs.length :=by
 unfold atI at h;cases e:ixN xs.length i with
 |none=>rw[e]at h;cases h
 |some j=>
  rw[e]at h;obtain⟨d,c,a,b⟩:=mN e;exact⟨j,d,h,c,a,b⟩
theorem cT {j:Nat}{v} (h:xs[j]?=some v):atI xs (j)=some v :=by
 have a:=(qas.mp h).1;have e:ixN xs.length (j)=some j:=by
  unfold ixN;rw[iFP (by lia),iFP (by lia)];simp
 unfold atI;rw[e];exact h
theorem zj (xs) (v:α):atI (xs++[v]) (-1)=some v :=by
 have a:(xs++[v]).length=xs.length+1:=by simp
 have e:ixN (xs++[v]).length (-1)=some xs.length:=by
  unfold ixN;rw[iFN (by decide),iFP (by lia)]
  congr 1
  lia
 unfold atI;rw[e]
 simp
def wQ (b:Expr):Prop:=∀ o i,qgA b false o i=operate [o,i] (qe1 o i)
def IxR (X:Cx) (r:R2):Prop:=
 ∀ (c a:Expr) (b:List (Addr×Obj)) (s:qak) (d:St) (H:Hp) (x y:V) (v u:Value) (Q:VK),Inv X b d H s->aN x v->aN y u->r x y H Q->
  qgA a false v u=operate [v,u] (qe1 v u)->wpAny (model X.prog X.w) X.A (subscriptTail c a v u) (EP X b d Q) X.xe s
def MtR (X:Cx) (id:String) (r:V->List V->Hp->VK->Prop):Prop:=
 ∀ (a:List (Addr×Obj)) (s:qak) (b:St) (H:Hp) (x:V) (xs:List V) (v:Value) (c:List Value) (Q:VK),Inv X a b H s->aN x v->aI xs c->r x xs H Q->
  wpAny (model X.prog X.w) X.A (call (.builtin id) (v::c)) (EP X a b Q) X.xe s
section
variable {X:Cx}{a b:Expr}{ta tb:TE}{pos:Pos}
theorem IxR.or (h:IxR X r) (h':IxR X M):IxR X (λx y H Q=>r x y H Q\/M x y H Q) :=by
 intro J L g s B H x y v u Q I m O q R;rcases q with q|q
 ·exact h J L g s B H x y v u Q I m O q R
 ·exact h' J L g s B H x y v u Q I m O q R
theorem Au (hr:IxR X r) (ha:PE X a ta) (hb:PE X b tb) (R:wQ b):PE X (.Subscript a b pos) (tOp r ta tb) :=by
 intro g s B H Q I h;exact qiC (Eb ha hb I h λv u s2 x y H2 I2 m O q=>hr a b g s2 B H2 x y v u Q I2 m O q (R _ _))
def G9 (K:qae):R2:=λx y H Q=>∃ p xs i v,x=.ref p/\y=.int i/\SqL K H p xs/\atI xs i=some v/\Q v H
def Hb (K:qae):R2:=λx y H Q=>∃ p xs i v,x=.ref p/\y=.int i/\SqT K H p xs/\atI xs i=some v/\Q v H
def Ha:R2:=λx y H Q=>∃ z i c,x=.str z/\y=.int i/\z.length<=qaG/\atI z.cps.toList i=some c/\Q (.str ⟨#[c]⟩) H
theorem Cb:IxR X (G9 X.K):=by
 intro J L g s B H x y v u Q I m O h R;obtain⟨p,xs,i,z,rfl,rfl,C,he,q⟩:=h;cases m;obtain⟨t,rfl⟩:=O;obtain⟨d,r,D,hz⟩:=I.list C;obtain⟨j,N,h2,h3,h4,h5⟩:=qV he;obtain⟨w,ew,rw'⟩:=r.get h2;have hl:=r.length;have hn:=lJ;have fin:EP X g B Q w s:=⟨z,H,I,rw',q⟩;by_cases h0:0<=i
 ·have hj:=by
   rw[qhY h0 h5]at N;exact qaP N
  exact item_listR D.isList h0 (by lia) (by rw[hj];simpa using ew) fin R
 ·have hj:(i+(d.toArray.size)).toNat=j:=by
   rw[qhH (by lia) h4]at N;rw[qaB,<-hl];exact qaP N
  exact qhu D.isList.typeIs qiw.lookup
   (wpAny_getItem_list_neg D.isList (by lia) (by rw[qaB]<;>lia) (by lia) (by rw[hj];simpa using ew) ⟨U,fin⟩) R
theorem EG:IxR X (Hb X.K):=by
 intro J L g s B H x y v u Q I m O h R;obtain⟨p,xs,i,z,rfl,rfl,C,he,q⟩:=h;cases m;obtain⟨t,rfl⟩:=O;obtain⟨d,r,D,hz⟩:=I.tuple C;obtain⟨j,N,h2,h3,h4,h5⟩:=qV he;obtain⟨w,ew,rw'⟩:=r.get h2;have hn:=lJ;exact qhu D.typeIs slot_tuple_getitem.lookup
  (getItem_tuple D (by lia) (by lia) (by rw[qaB,<-r.length];exact N) (by simpa using ew) ⟨U,⟨z,H,I,rw',q⟩⟩) R
theorem EF:IxR X Ha:=by
 intro J L g s B H x y v u Q I m O h R;obtain⟨z,i,c,rfl,rfl,hz,he,q⟩:=h;obtain⟨t,rfl⟩:=m;obtain⟨t',rfl⟩:=O;obtain⟨j,N,h2,h3,h4,h5⟩:=qV he;have hl:z.cps.toList.length=z.length:=by simp[Str.length]
 rw[hl]at N h4 h5;have hn:=lJ
 exact tail_any (typeIs_str s z t) slot_str_getitem.lookup (getItem_str (by
  rw[(decide_eq_false (by lia)),(decide_eq_false (by lia)),Bool.or_false]) (by rw[N];simpa using h2) ⟨.str _,H,I.tok _,⟨_,U⟩,q⟩) R
def rIx (K:qae):R2:=λx y H Q=>G9 K x y H Q\/Hb K x y H Q\/Ha x y H Q
theorem rY:IxR X (rIx X.K):=Cb.or (EG.or EF)
theorem wj (d:List Value) (n j) (u):qcA (·.setIfInBounds j u) { cls:=.type "list",data:=.seq d.toArray n }={ cls:=.type "list",data:=.seq (d.set j u).toArray n } :=by
 simp[qcA]
theorem Inv.lst {B:St}(I:Inv X g B H s) (h:H p=some (.lst xs)) :
  ∃ (d:List Value) (n:Nat),aI xs d/\s.heap.get? p=some { cls:=.type "list",data:=.seq d.toArray n }/\xs.length<=qaG :=by
 obtain⟨z,d,n,r,e⟩:=I.hok p _ h;exact⟨d,n,r,e,z⟩
theorem Inv.lstUpd {B:St}{d :List Value}(I:Inv X g B H s) (h:H p=some (.lst xs))
  (ho:s.heap.get? p=some { cls:=.type "list",data:=.seq d.toArray n }) (hf:f { cls:=.type "list",data:=.seq d.toArray n }={ cls:=.type "list",data:=.seq its'.toArray n' }) (r:aI G its') (hz:G.length<=qaG) (t) :
  Inv X g B (upd H p (.lst G)) { s with heap:=s.heap.update p f,toks:=t } :=by
 have e:(s.heap.update p f).get? p=some { cls:=.type "list",data:=.seq its'.toArray n' }:=by
  rw[qeE f ho (by rw[hf]<;>rfl),hf]
 refine I.write (by rw[h];trivial) (.inl U) (λb u hb q=>(qdo _ _ (qbF hb)).trans q) ⟨_,e⟩ ?_;exact⟨hz,its',n',r,e⟩
def Hd:V->V->V->Hp->(Hp->Prop)->Prop:=λo i v H Q=>∃ p xs k j,o=.ref p/\i=.int k/\H p=some (.lst xs)/\ixN xs.length k=some j/\Q (upd H p (.lst (xs.set j v)))
theorem kZ:FZ X Hd:=by
 intro g s B H o i v ov iv u Q I ro ri rv h;obtain⟨p,xs,k,j,rfl,rfl,hp,hj,q⟩:=h;cases ro;obtain⟨t,rfl⟩:=ri;obtain⟨d,n,r,ho,hz⟩:=I.lst hp;obtain⟨N,h2,h3,h4⟩:=mN hj;have hl:=r.length;have hn:=lJ;have I':=
  I.lstUpd hp ho (wj d n j u) (r.set rv j) (by rw[qb6];exact hz) s.toks
 by_cases h0:0<=k
 ·have hk:=by
   rw[qhY h0 h4]at N;exact qaP N
  exact PySem.W.ki_setAt ho h0 (by lia) (by rw[qaB,<-hl];exact h4) (by rw[hk];exact⟨_,I',q⟩)
 ·have hk:(k+(d.toArray.size)).toNat=j:=by
   rw[qhH (by lia) h3]at N;rw[qaB,<-hl];exact qaP N
  exact PySem.W.ki_setBack ho (by lia) (by rw[qaB,<-hl];exact h3) (by lia) (by rw[hk];exact⟨_,I',q⟩)
theorem sM (lo hi) (n):(qd7 lo hi none n).1=((HT.sIx n 0 lo))/\(qd7 lo hi none n).2.1=((HT.sIx n n hi))/\(qd7 lo hi none n).2.2=1 :=by
 refine⟨?_,?_,U⟩
 ·cases lo with
  |none=>simp[qd7,HT.sIx]
  |some i=>
   simp only[qd7,HT.sIx,qho,show (1:Int) > 0 by decide,if_true];by_cases h:i<0
   ·simp only[h,if_true]<;>lia
   ·simp only[h,if_false]<;>lia
 ·cases hi with
  |none=>simp[qd7,HT.sIx]
  |some i=>
   simp only[qd7,HT.sIx,qho,show (1:Int) > 0 by decide,if_true];by_cases h:i<0
   ·simp only[h,if_true]<;>lia
   ·simp only[h,if_false]<;>lia
theorem qk (d:List Value) (lo hi):slicePick d.toArray lo hi none=((d.drop (HT.sIx d.length 0 lo)).take (HT.sIx d.length d.length hi - HT.sIx d.length 0 lo)).toArray :=by
 obtain⟨N,h2,h3⟩:=sM lo hi d.toArray.size;unfold slicePick;rw[N,h2,h3];simp only[sliceRange_one,pick_run,qaB]<;>rfl
def Im (K:qae):V->Option Int->Option Int->Hp->VK->Prop:=λx lo hi H Q=>∃ a xs,x=.ref a/\SqL K H a xs/\∀ p,H p=none->Q (.ref p) (upd H p (.lst (vK xs lo hi)))
theorem Df:SlR X (Im X.K):=by
 intro g s B H x v vl vu lo hi sl Q I m R D pu h;obtain⟨a,xs,rfl,hx,q⟩:=h;cases m;obtain⟨d,r,ht,hz⟩:=I.list hx;have F:=r.length;refine⟨"list",_,qiw.lookup,ht.isList.typeIs,?_⟩
 refine wpAny_getItem_list_slice ht.isList R D pu .none (by simp) ?_ (by rw[qaB]<;>lia);rw[qk,<-F];refine⟨.ref s.heap.objs.size,_,I.laid (λb ob q=>qaj _ q) (qan _) ?_,U,q _ (I.hok.fresh (qan _))⟩;exact⟨qaD (lX xs lo hi) hz,_,0,(r.drop _).take _,qaw _ U⟩
noncomputable def d9:V->Bool
 |.non=>true
 |.bl _=>true
 |.int _=>true
 |.str _=>true
 |_=>false
noncomputable def eqV:V->V->Bool
 |.non,.non=>true
 |.bl a,.bl b=>a==b
 |.bl a,.int b=>(if a then 1 else 0)==b
 |.int a,.bl b=>a==(if b then 1 else 0)
 |.int a,.int b=>a==b
 |.str a,.str b=>a==b
 |_,_=>false
theorem vP (O:aN y u) (m:aN x v) (fy:d9 y=true) (fx:d9 x=true):qdH A s u v (eqV y x) :=by
 cases y with
 |non=>
  cases O;cases x with
  |non=>cases m;exact qfa _
  |bl b=>cases m;exact qkT b
  |int b=>obtain⟨t,rfl⟩:=m;exact qkS b t
  |str b=>obtain⟨t,rfl⟩:=m;exact qkQ b t
  |_=>exact absurd (fx) qa1
 |bl a=>
  cases O;cases x with
  |non=>cases m;exact qk5 a
  |bl b=>cases m;exact qk8 a b
  |int b=>obtain⟨t,rfl⟩:=m;exact qk7 a b t
  |str b=>obtain⟨t,rfl⟩:=m;exact qk4 a b t
  |_=>exact absurd (fx) qa1
 |int a=>
  obtain⟨t',rfl⟩:=O;cases x with
  |non=>cases m;exact qk0 a t'
  |bl b=>cases m;exact qk2 a t' b
  |int b=>obtain⟨t,rfl⟩:=m;exact qgn a t' b t
  |str b=>obtain⟨t,rfl⟩:=m;exact qgm a t' b t
  |_=>exact absurd (fx) qa1
 |str a=>
  obtain⟨t',rfl⟩:=O;cases x with
  |non=>cases m;exact qkM a t'
  |bl b=>cases m;exact qkO a t' b
  |int b=>obtain⟨t,rfl⟩:=m;exact qgl a t' b t
  |str b=>obtain⟨t,rfl⟩:=m;exact qgk a t' b t
  |_=>exact absurd (fx) qa1
 |_=>exact absurd (fy) qa1
def eqU (x:V) (u:Value):Bool:=match u with
 |.none=>eqV .non x
 |.bool b=>eqV (.bl b) x
 |.int i _=>eqV (.int i) x
 |.str z _=>eqV (.str z) x
 |_=>false
theorem zF (r:aN y u) (f:d9 y=true):eqU x u=eqV y x :=by
 cases y with
 |non=>cases r;rfl
 |bl b=>cases r;rfl
 |int i=>obtain⟨t,rfl⟩:=r;rfl
 |str z=>obtain⟨t,rfl⟩:=r;rfl
 |_=>exact absurd (f) qa1
theorem jR :∀ {xs}{P},aI xs P->xs.all d9=true->P.any (eqU x)=xs.any λy=>eqV y x
 |_,_,.nil,_=>rfl
 |y::xs,u::P,.cons r t,f=>by
  rw[qbw,qa0]at f;rw[qcg,qcg,zF r f.1,jR t f.2]
theorem iE {x}{v} (m:aN x v) (fx:d9 x=true):∀ {xs}{P},aI xs P->xs.all d9=true->∀ u∈P,qdH A s u v (eqU x u)
 |_,_,.nil,_=>λu hu=>by cases hu
 |y::xs,u::P,.cons r t,f=>λu' hu=>by
  rw[qbw,qa0]at f;rcases qav.mp hu with rfl|hu
  ·rw[zF r f.1];exact vP r m f.1 fx
  ·exact iE m fx t f.2 u' hu
def inV (x:V) (xs:List V):Bool:=xs.any λy=>eqV y x
def rIn (K:qae) (neg:Bool):R2:=λx y H Q=>∃ p xs,y=.ref p/\(SqL K H p xs\/SqT K H p xs)/\d9 x=true/\xs.all d9=true/\Q (.bl (if neg then !inV x xs else inV x xs)) H
theorem yQ:OpR X (qbP .In) (rIn X.K false):=by
 intro g s B H x y v u Q I m O h;obtain⟨p,xs,rfl,C,fx,fs,q⟩:=h;cases O;rcases C with C|C
 ·obtain⟨d,r,D,hz⟩:=I.list C
  refine SeqAt.in_listAt _ D.isList (λw hw=>iE m fx r fs w (by simpa using hw)) ⟨.bl _,H,I,U,?_⟩;rw[show d.toArray.any _=d.any (eqU x) by simp,jR r fs];exact q
 ·obtain⟨d,r,D,hz⟩:=I.tuple C
  refine SeqAt.in_tupleAt _ D (λw hw=>iE m fx r fs w (by simpa using hw)) ⟨.bl _,H,I,U,?_⟩;rw[show d.toArray.any _=d.any (eqU x) by simp,jR r fs];exact q
theorem sA:OpR X (qbP .NotIn) (rIn X.K true):=by
 intro g s B H x y v u Q I m O h;obtain⟨p,xs,rfl,C,fx,fs,q⟩:=h;cases O;rcases C with C|C
 ·obtain⟨d,r,D,hz⟩:=I.list C
  refine SeqAt.notIn_listAt _ D.isList (λw hw=>iE m fx r fs w (by simpa using hw)) ⟨.bl _,H,I,U,?_⟩;rw[show d.toArray.any _=d.any (eqU x) by simp,jR r fs];exact q
 ·obtain⟨d,r,D,hz⟩:=I.tuple C
  refine SeqAt.notIn_tupleAt _ D (λw hw=>iE m fx r fs w (by simpa using hw)) ⟨.bl _,H,I,U,?_⟩;rw[show d.toArray.any _=d.any (eqU x) by simp,jR r fs];exact q
theorem rh:bh X (.builtin "len") (λxs H Q=>∃ p G,xs=[.ref p]/\(SqL X.K H p G\/SqT X.K H p G)/\Q (.int G.length) H):=by
 intro g s B H xs P Q I r h;obtain⟨p,G,rfl,C,q⟩:=h;obtain⟨u,rfl,m⟩:=iR r;cases m;have hn:=lJ;rcases C with C|C
 ·obtain⟨d,M,D,hz⟩:=I.list C
  have F:=M.length;exact Calls.call_len_list D.isList (by simp only[qaB]<;>lia) ⟨.int G.length,H,I.tok _,⟨_,by rw[qaB,F]⟩,q⟩
 ·obtain⟨d,M,D,hz⟩:=I.tuple C
  have F:=M.length;exact len_tuple D (by simp only[qaB]<;>lia) ⟨.int G.length,H,I.tok _,⟨_,by rw[qaB,F]⟩,q⟩
theorem rj:bh X (.builtin "len") (λxs H Q=>∃ z,xs=[.str z]/\z.length<=qaG/\Q (.int z.length) H):=by
 intro g s B H xs P Q I r h;obtain⟨z,rfl,hz,q⟩:=h;obtain⟨u,rfl,t,rfl⟩:=iR r;have hn:=lJ;exact len_str (by lia) ⟨.int z.length,H,I.tok _,⟨_,U⟩,q⟩
theorem bh.or (h:bh X f r) (h':bh X f M):bh X f (λxs H Q=>r xs H Q\/M xs H Q) :=by
 intro g s B H xs P Q I rs q;rcases q with q|q
 ·exact h g s B H xs P Q I rs q
 ·exact h' g s B H xs P Q I rs q
theorem rm:bh X (.type "list") (λxs H Q=>∃ p G,xs=[.ref p]/\(SqL X.K H p G\/SqT X.K H p G)/\∀ l,H l=none->Q (.ref l) (upd H l (.lst G))):=by
 intro g s B H xs P Q I r h;obtain⟨p,G,rfl,C,q⟩:=h;obtain⟨u,rfl,m⟩:=iR r;cases m;have fin:∀ (d:List Value),aI G d->G.length<=qaG->∀ (h':Heap) (c':Nat),_->
   h'.get? s.heap.objs.size=some { cls:=.type "list",dict:=none,data:=.seq d.toArray c',slots:=#[] }->EP X g B Q _ { s with heap:=h' }:=λd M hz h' c' kp e=>
  ⟨.ref s.heap.objs.size,_,I.laid kp (qan _) (show cb X.prog X.w _ h' _ (.lst G) from ⟨hz,d,c',M,e⟩),U,q _ (I.hok.fresh (qan _))⟩
 rcases C with C|C
 ·obtain⟨d,M,D,hz⟩:=I.list C
  have F:=M.length;obtain⟨o,ho,hc,n,hd⟩:=D.isList;exact call_list_seq p (.inl U) ho hc hd (λh' c' kp e=>fin d M hz h' c' kp e) (by simp only[qaB]<;>lia)
 ·obtain⟨d,M,D,hz⟩:=I.tuple C
  have F:=M.length;obtain⟨o,ho,hc,n,hd⟩:=D;exact call_list_seq p (.inr U) ho hc hd (λh' c' kp e=>fin d M hz h' c' kp e) (by simp only[qaB]<;>lia)
theorem qe:bh X (.type "tuple") (λxs H Q=>∃ p G,xs=[.ref p]/\((SqL X.K H p G/\∀ l,H l=none->Q (.ref l) (upd H l (.tup G)))\/(SqT X.K H p G/\Q (.ref p) H))):=by
 intro g s B H xs P Q I r h;obtain⟨p,G,rfl,h⟩:=h;obtain⟨u,rfl,m⟩:=iR r;cases m;rcases h with⟨C,q⟩|⟨C,q⟩
 ·obtain⟨d,M,D,hz⟩:=I.list C
  have F:=M.length;refine call_tuple_list D.isList (λh' kp=>?_) (by simp only[qaB]<;>lia);have I1:=I.kept (t':=s.toks) kp;exact⟨.ref h'.objs.size,_,(I1.laid (λb o e=>qaj _ e) (qan _) (show cb X.prog X.w _ _ _ (.tup G) from ⟨hz,d,M,eR.new _ _⟩)),U,q _ (I1.hok.fresh (qan _))⟩
 ·obtain⟨d,M,D,hz⟩:=I.tuple C
  exact call_tuple_same D ⟨.ref p,H,I,U,q⟩
def tyV (K:qae) (T:String) (x:V) (H:Hp):Prop:=match x with
 |.str _=>T = "str"
 |.int _=>T = "int"
 |.ref p=>(T = "list"/\∃ xs,SqL K H p xs)\/(T = "tuple"/\((∃ o,K.lookup p=some o/\o.cls=.type "tuple"/\o.dict=none)\/∃ xs,SqT K H p xs))\/
   (T = "dict"/\((∃ kvs,H p=some (.dK kvs))\/∃ kvs,H p=some (.dT kvs)))\/(T = "set"/\∃ S n,H p=some (.set S n))
 |_=>False
theorem Br {B:St}(I:Inv X g B H s) (r:aN x v) (ty:tyV X.K T x H) :
  s.TypeIs v T/\∀ a,v=.ref a->∃ ob,s.heap.get? a=some ob/\ob.dict=none :=by
 cases x with
 |str z=>
  obtain⟨t,rfl⟩:=r;cases (ty);exact⟨typeIs_str s z t,λ_ e=>nomatch e⟩
 |int i=>
  obtain⟨t,rfl⟩:=r;cases (ty);exact⟨qe8 s i t,λ_ e=>nomatch e⟩
 |ref p=>
  cases r;rcases ty with⟨rfl,xs,C⟩|⟨rfl,ht⟩|⟨rfl,hk⟩|⟨rfl,S,n,hk⟩
  ·obtain⟨d,_,D,_⟩:=I.list C
   refine⟨D.isList.typeIs,λa e=>?_⟩;cases e;obtain⟨o,n,e,c,hd,_⟩:=D;exact⟨o,e,hd⟩
  ·have z:∃ o:Obj,s.heap.get? p=some o/\o.cls=.type "tuple"/\o.dict=none:=by
    rcases ht with⟨o,hk,hc,hd⟩|⟨xs,C⟩
    ·exact⟨o,I.kIn p o hk,hc,hd⟩
    ·exact I.tuple1 C
   obtain⟨o,e1,hc,hd⟩:=z;refine⟨⟨o,e1,hc⟩,λa e=>?_⟩;cases e;exact⟨o,e1,hd⟩
  ·have z:∃ o,s.heap.get? p=some o/\o.ExactDict:=by
    rcases hk with⟨kvs,hk⟩|⟨kvs,hk⟩
    ·obtain⟨_,_,_,_,o,_,_,e,ex,_⟩:=I.hok p _ hk
     exact⟨o,e,ex⟩
    ·obtain⟨_,_,_,_,o,_,_,e,ex,_⟩:=I.hok p _ hk
     exact⟨o,e,ex⟩
   obtain⟨o,e,ex⟩:=z;refine⟨⟨o,e,ex.1⟩,λa e2=>?_⟩;cases e2;exact⟨o,e,ex.2.1⟩
  ·obtain⟨o,_,_,_,e,ex,_⟩:=I.hok p _ hk
   refine⟨⟨o,e,ex.1⟩,λa e2=>?_⟩;cases e2;exact⟨o,e,ex.2.1⟩
 |_=>exact qcw ty
def Iu (K:qae) (T:String) (r:V->List V->Hp->VK->Prop) (to:TE):TE:=λB H Q=>to B H λx H1=>tyV K T x H1/\r x [] H1 Q
def tBM (K:qae) (T:String) (r:V->List V->Hp->VK->Prop) (to:TE) (t:TA):TE:=λB H Q=>to B H λx H1=>tyV K T x H1/\t B H1 λxs H2=>r x xs H2 Q
variable {o e:Expr}{es:List Expr}{to:TE}{t:TA}{name:Str}{apos E:Pos}{T id:String}{r:V->List V->Hp->VK->Prop}
theorem E9 (pa:PlainAttrs T) (slot:Slot T name id) (hty:typeOf (.builtin id)=pure (.type "method_descriptor")) (hm:MtR X id r) (ho:PE X o to)
  (W:qcc o name X.env (eval o X.env)=eval o X.env:=by rfl) (Y:(apos.endLine==E.line)=true:=by rfl):PE X (.Call (.Attribute o name apos) [] [] E) (Iu X.K T r to):=by
 intro g s B H Q I h;refine wpAny_Call_method0_late W Y (thn (ho g s B H _ I h) λv s1 ⟨x,H1,I1,r1,ty,q1⟩=>?_);obtain⟨N,h2⟩:=Br I1 r1 ty;exact⟨T,id,pa,slot,hty,N,h2,qgw U (PySem.evalArgs_none (hm g s1 B H1 x [] v [] Q I1 r1 .nil q1))⟩
theorem Ar (pa:PlainAttrs T) (slot:Slot T name id) (hty:typeOf (.builtin id)=pure (.type "method_descriptor")) (hm:MtR X id r) (ho:PE X o to) (ha:PA X (e::es) t)
  (W:qcc o name X.env (eval o X.env)=eval o X.env:=by rfl)
  (hfew:((qe2 E (qbB (e::es) X.env)).all (λx=>!x.1) && (qif E (qgD [] X.env)).all (λx=>x.1.isSome)
    && decide ((e::es).length+([]:List qh5).length+(if ([]:List qh5).isEmpty then 0 else 1)<30))=true:=by rfl)
  (Y:(apos.endLine==E.line)=true:=by rfl) (R:qbB (e::es) X.env=(false,eval e X.env)::qbB es X.env:=by rfl) (hplain:(qe2 E (qbB es X.env)).any (·.1)=false:=by rfl) :
  PE X (.Call (.Attribute o name apos) (e::es) [] E) (tBM X.K T r to t):=by
 intro g s B H Q I h;refine wpAny_Call_method_late W hfew Y U (thn (ho g s B H _ I h) λv s1 ⟨x,H1,I1,r1,ty,q1⟩=>?_);obtain⟨N,h2⟩:=Br I1 r1 ty;refine⟨T,id,pa,slot,hty,N,h2,?_⟩;have hA:=ha E g s1 B H1 _ I1 q1;rw[R]at hA ⊢;refine qgw (by show (false||(qe2 E _).any _)=false;rw[hplain]<;>rfl) (Calls.evalArgs_plain ?_);exact thn hA λP s2 ⟨vs,H2,I2,r2,q2⟩=>hm g s2 B H2 x vs v P Q I2 r1 r2 q2
end
def MtM (X:Cx) (id:String) (r:V->List V->Hp->VK->Prop):Prop:=
 ∀ (a:List (Addr×Obj)) (s:qak) (b:St) (H:Hp) (x:V) (xs:List V) (v:Value) (c:List Value) (Q:VK),Inv X a b H s->aN x v->aI xs c->r x xs H Q->
  wpAny (model X.prog X.w) X.A (call (.builtin id) (v::c)) (EP X a b Q) X.xe s
theorem aI.one (h:aI [x] a):∃ u,a=[u]/\aN x u :=by
 cases h with
 |cons r t=>cases t;exact⟨_,U,r⟩
theorem aI.two (h:aI [x,y] a):∃ u v,a=[u,v]/\aN x u/\aN y v :=by
 cases h with
 |cons r t=>cases t with
  |cons q t2=>cases t2;exact⟨_,_,U,r,q⟩
theorem aI.eraseIdx:∀ {xs:List V}{a:List Value} (i:Nat),aI xs a->aI (xs.eraseIdx i) (a.eraseIdx i)
 |_,_,_,.nil=>.nil
 |_,_,0,.cons _ t=>t
 |_,_,i+1,.cons r t=>.cons r (aI.eraseIdx i t)
theorem aI.rep (h:aI xs a):∀ k,aI (qaJ k xs).flatten (qaJ k a).flatten
 |0=>.nil
 |k+1=>by
  exact aI.append h (aI.rep h k)
theorem qL {α:Type}:∀ (l:List α) (i),(l.eraseIdx i).length<=l.length
 |[],_=>qan _
 |_::_,0=>qcF _
 |_::r,i+1=>Nat.succ_le_succ (qL r i)
theorem lv (a):∀ (k) (acc:List Value),
  qjT (λx1 x2=>x1++x2) acc.toArray (qaJ k a.toArray)=(acc++(qaJ k a).flatten).toArray
 |0,acc=>by simp
 |k+1,acc=>by
  have e:acc.toArray++a.toArray=(acc++a).toArray:=by simp
  have b:(acc++a)++(qaJ k a).flatten=acc++(qaJ (k+1) a).flatten:=by
   rw[qdM,qhA,qbl]
  rw[<-b,<-lv a k _,<-e,qdM,List.foldl_cons]
section
variable {X:Cx}{c:List (Addr×Obj)}{d:St}{H:Hp}{s:qak}{l b:Addr}{xs g o:List V}
theorem Inv.lset {a :List Value}(I:Inv X c d H s) (i:H l=some (.lst xs))
  (e:s.heap.get? l=some { cls:=.type "list",data:=.seq a.toArray n }) (m:f a.toArray=its'.toArray) (j:aI g its') (hz:g.length<=qaG) :
  Inv X c d (upd H l (.lst g)) { s with heap:=s.heap.update l (qcA f),toks:=t' } :=by
 have q:=qe4 e f;rw[m]at q;refine I.write (by rw[i];exact trivial) (.inl U) (λp u hb k=>(qdo s.heap _ (qbF hb)).trans k) ⟨_,q⟩ ?_;exact⟨hz,its',_,j,q⟩
theorem Inv.lnew (I:Inv X c d H s) (j:aI g a) (hz:g.length<=qaG) :
  Inv X c d (upd H s.heap.objs.size (.lst g)) { s with heap:=s.heap.push { cls:=.type "list",data:=.seq a.toArray },toks:=t' } :=
 I.laid (λ_ _ q=>qaj _ q) (qan _) ⟨hz,a,0,j,qaw _ U⟩
theorem Inv.fresh (I:Inv X c d H s):H s.heap.objs.size=none:=I.hok.fresh (qan _)
theorem Inv.lstM (I:Inv X c d H s) (i:H l=some (.lst xs)):xs.length<=qaG/\∃ (a:List Value) (n:Nat),aI xs a/\xs.length=a.length/\s.heap.get? l=some { cls:=.type "list",data:=.seq a.toArray n }:=by
 obtain⟨z,a,n,r,e⟩:=I.hok l _ i;exact⟨z,a,n,r,r.length,e⟩
theorem uO (h:n<=qaG):qcR n=false :=by
 exact decide_eq_false (by lia)
end
section
variable {X:Cx}
def C4:V->List V->Hp->VK->Prop:=λx d H Q=>∃ l xs y,x=.ref l/\d=[y]/\H l=some (.lst xs)/\xs.length<qaG/\Q .non (upd H l (.lst (xs++[y])))
theorem yO:MtM X "list.append" C4:=by
 intro c s G H x d v D Q I j f h;obtain⟨l,xs,y,rfl,rfl,b,hz,q⟩:=h;cases j;obtain⟨u,rfl,m⟩:=f.one;obtain⟨z,a,n,r,o,e⟩:=I.lstM b;refine qcr qfu ⟨_,e,U⟩ qfh (qe5 _ _) (qfe l a.toArray n u (by rw[qaB];lia)) ⟨e,?_⟩;refine⟨.non,_,I.lset b e (by simp) (r.append (.cons m .nil)) ?_,U,q⟩;rw[qau,qcm];lia
def Ft:V->List V->Hp->VK->Prop:=λx d H Q=>∃ l xs i k y,x=.ref l/\d=[.int i]/\H l=some (.lst xs)/\-(2^63)<=i/\i<2^63/\qjG i xs.length=some k/\xs[k]?=some y/\Q y (upd H l (.lst (xs.eraseIdx k)))
theorem Ae:MtM X "list.pop" Ft:=by
 intro c s G H x d v D Q I j f h;obtain⟨l,xs,i,k,y,rfl,rfl,b,p,B,C,A,q⟩:=h;cases j;obtain⟨u,rfl,m⟩:=f.one;obtain⟨t,rfl⟩:=m;obtain⟨z,a,n,r,o,e⟩:=I.lstM b;obtain⟨w,hw,g⟩:=r.get A;refine qcr F.slot_list_pop ⟨_,e,U⟩ F.entry_list_pop (F.args_list_pop_2 _ _)
  (MeetsSeq.list_pop_at l a.toArray n i t k w (qj4 p B) (by rw[qaB,<-o];exact C) (by rw[<-qez];exact hw) (by rw[qaB];lia)) ⟨e,?_⟩
 refine⟨y,_,I.lset b e ?_ (r.eraseIdx k) ?_,g,q⟩
 ·rw[List.eraseIdxIfInBounds_toArray]
 ·have:=qL xs k
  lia
theorem si {α:Type} (xs:List α) (k):(qaJ k xs).flatten.length=k*xs.length :=by
 induction k with
 |zero=>simp
 |succ k E=>rw[qdM,qhA,qau,E,Nat.succ_mul,qeM]
end
section
variable {prog:qaR}{w:World}{A:qa2}{E:Value->qak->Prop}{s:qak}
end
section
variable {X:Cx}
end
end L2
namespace Att
open PySem PySem.W PySem.Calls PyProof.Rows
theorem mE :∀ (ns) (c),WellAll P h c (ns.map WData.int)->qcn c ns :=by
 intro ns
 induction ns with
 |nil=>
  intro c w;cases w;exact .nil
 |cons n ns d=>
  intro c w;cases w with
  |cons a b=>
   cases a;exact .cons _ _ (d _ b)
theorem yX {l:OpenLaw}(hn:l.most=some n) (c:l.row.toRowW.claim.pre args=true) (i:WellAll P h b args) :
  ∃ a k ns,b=[Value.ref a]/\args=[WData.list (ns.map WData.int)]/\h.get? a=some { cls:=.type "list",data:=.seq k.toArray }/\qcn k ns/\ns.length<=n :=by
 obtain⟨d,r,rfl,o,p⟩:=hasAllW_cons ((pre_splitW c).1);obtain rfl:=hasAllW_nil p;obtain⟨xs,rfl,m⟩:=hasW_list o;obtain⟨ns,rfl⟩:=items_int m;have f:ns.length<=n:=by
  have g:=by
   have g:=(holds_andW ((pre_splitW c).2)).1;rw[hn]at g;exact g
  have j:=condW_of g (w_not (w_lt w_lit (w_len_list (w_arg U))))
  first
   |(exact absurd j _)
   |(simp at j;lia)
 cases i with
 |cons q w2=>
  cases w2;cases q with
  |list s e=>exact⟨_,_,ns,U,U,s,mE ns _ e,f⟩
theorem yT (l:OpenLaw) (args):l.row.toRowW.claim.post args (.bool true) args=true :=
 postW_of
  (show qiA [] _ .bool=true by first|rfl|decide|simp[qiA,WShape.arms,WShape.armsAll])
  (w_eq_bool (w_res U) w_lit) U
theorem attach_call {l:OpenLaw}(hn:l.most=some n) (u:d.params.defaults=[])
  (call:∀ (w) (s₀ b) (mg v) (i) (o) (y p g) (a) (h) (ns),
    Ground q c [] XP w s₀ mg v b.heap->YP w b.heap->
    b.heap.get? i=some o->o.data=.func (docDef d.name d.params d.body d.scope y p g)->b.heap.CodeRec p d.name->mg d.name=some (.ref i)->
    b.heap.get? a=some { cls:=.type "list",data:=.seq h.toArray }->qcn h ns->ns.length<=n->b.gens=#[]->
    qfo (model l.prog w) qhm (.call (.ref i) ⟨[.ref a],[]⟩) (λr s'=>r=.ok (.ret (.bool true))/\OldK b.heap s'.heap/\s'.os=b.os/\qfx s'.gens) b) :
  WalkO q c XP YP l.row.toRowW d [] (λf h=>qhn f h) :=by
 intro w s₀ b mg v G Y i o y p g D kV F hd s B x hg args z as m A H t E;obtain rfl:D=.none:=Dflts.none B u;obtain rfl:kV=.none:=Dflts.noKw B;obtain⟨a,h,ns,rfl,rfl,j,e,k⟩:=yX hn m t;refine enter_call (qga (call w s₀ b mg v i o y p g a h ns G Y F (fd_plain hd) s x j e k hg) λr s' K=>?_);obtain⟨rfl,I,J,C⟩:=K;exact⟨.inl ⟨_,_,_,U,λ_=>rfl,.bool true,yT l _,λ_=>⟨List.Pairwise.nil,λ_ hm=>(nomatch hm)⟩⟩,I,J,C⟩
section
variable {prog:qaR}{w:World}{A:qa2}{E:Value->qak->Prop}{s:qak}{K:Frag}
end
end Att
namespace L2
open PySem PySem.Spec PyProof.Rows
theorem qQ:∀ {a:List Value}{ns:List Int},qcn a ns->aI (ns.map V.int) a
 |_,_,.nil=>.nil
 |_,_,.cons n t h=>.cons ⟨t,U⟩ (qQ h)
def BH (H:Hp):Prop:=∀ b,H b=none\/∃ o xs,H b=some (.frz o (.lst xs))
theorem zY {K}(KX:K.In c.heap) (hns:c.heap.Ns qb9 mg) (hb:c.heap.Ns qg3 G) (J:∀ x:Str,x≠"__name__"->G x=qce x) (y:c.heap.NoLimit) (hg:c.gens=#[])
  (B:c.heap.get? a=some { cls:=.type "list",data:=.seq p.toArray }) (hi:qcn p ns) (Q:ns.length<=qaG) (X:bj k qhm)
  (F:∀ base,K.In base->base.Ns qb9 mg->dm P w K mg base CX k D fd [x] sp) (j:∀ (s) (u),qht s fd ⟨[u],[]⟩ [(x,u)])
  (C:∀ H,BH H->SqL K H a (ns.map V.int)->sp [.ref a] H (λv _=>v=.bl true) λ_ _ _=>False)
  (I:∀ H e s',CX [] H c (λ_ _ _=>False) e s'->False) :
  qfo (model P w) qhm (.call (.ref D) ⟨[.ref a],[]⟩) (λr s'=>r=.ok (.ret (.bool true))/\OldK c.heap s'.heap/\s'.os=c.os/\qfx s'.gens) c :=by
 have N:=qQ hi;have i:∀ H ,BH H->SqL K H a (ns.map V.int)->HOk P w H c.heap->(∀ b,H b≠none->b=a)->(H a≠none->K.lookup a=none)->
   qfo (model P w) qhm (.call (.ref D) ⟨[.ref a],[]⟩) (λr s'=>r=.ok (.ret (.bool true))/\OldK c.heap s'.heap/\s'.os=c.os/\qfx s'.gens) c:=by
  intro H R W hok hA S;have f:∀ {b:Addr}{o:Obj},c.heap.get? b=some o->H b=none->(yw c.heap H).get? b=some o:=λe n=>zL e n;have M:∀ {b:Addr}{o:Obj}{es:Array qec}{A:Nat},c.heap.get? b=some o->o.data=.dict es A->H b=none:=λ{b o es A} e d=>by
   cases q:H b with
   |none=>rfl
   |some u=>
    have L:=hA b (by rw[q];simp);subst L;rw[B]at e;cases e;cases d
  have g:∀ {b:Addr}{m:Str->Option Value},c.heap.Ns b m->(yw c.heap H).Ns b m:=λ{b m} ⟨o,es,A,e,d,r⟩=>⟨o,es,A,f e (M e d),d,r⟩
  have l:=λb o e=>f (KX b o e) (by
   cases q:H b with
   |none=>rfl
   |some u=>
    have L:=hA b (by rw[q];simp);subst L
    rw[S (by rw[q];simp)]at e;cases e)
  refine qga ((F _ l (g hns)).run qhm [] c H ⟨[.ref a],[]⟩ [.ref a] [.ref a] _ _ X ⟨U,⟨l,g hns,⟨G,g hb,J⟩,let ⟨mc,h1,h2⟩:=y;⟨mc,g h1,h2⟩⟩,λb o e=>Cy e,qdb (yx _ _),trivial,λb hb=>absurd (show b∈([]) from hb) (by simp),hok,.of_eq hg⟩ (j c _) (.cons U .nil) (C H R W)) λr s' h=>?_;cases r with
  |error e=>exact (I H e s' h).elim
  |ok fl=>
   cases fl with
   |next=>exact qcw h
   |brk=>exact qcw h
   |cont=>exact qcw h
   |ret u=>
    obtain⟨v,H',os,bare,un,t,Y,q⟩:=h;subst q;obtain rfl:u=Value.bool true:=Y;refine⟨U,OldK.of_keep λb o e=>?_,os,bare⟩;cases q:H b with
    |none=>exact un.keep b o e q (by intro z;exact absurd (show b∈([]) from z) (by simp)) (by simp)
    |some u=>
     rcases R b with z|⟨ob,xs,z⟩
     ·rw[q]at z;cases z
     ·obtain⟨O,_⟩:=hok b _ z
      obtain⟨T,_⟩:=t b _ (un.frzs b ob _ z);rw[e]at O;cases O;exact T
 cases hk:K.lookup a with
 |some o=>
  -- the script is one of the module's own objects
  have e:=KX a o hk;rw[B]at e;cases e;refine i _ (λ_=>.inl U) (.inr ⟨_,p.toArray,_,hk,U,U,U,by rw[qaB,hi.length];exact Q,by simpa using N⟩) (λb u z=>by cases z) (λb z=>absurd U z) λz=>absurd U z
 |none=>
  refine i (λb=>if b=a then some _ else none) (λb=>?_) (.inl (.inr ⟨{ cls:=.type "list",data:=.seq p.toArray },iFP U⟩)) (λb u z=>?_) (λb z=>?_) λ_=>hk
  ·by_cases hb:b=a
   ·exact .inr ⟨_,_,iFP hb⟩
   ·exact .inl (iFN hb)
  ·by_cases hb:b=a
   ·have E:=(iFP hb).symm.trans z
    cases E;subst hb;exact⟨B,by rw[qaf];exact Q,p,_,N,B⟩
   ·have E:=(iFN hb).symm.trans z
    cases E
  ·by_cases hb:b=a
   ·exact hb
   ·exact absurd (iFN hb) z
theorem walk_of {l:qfs}{K:Params->qae}{CX:World->CXT}{sp:World->Sp}(hn:l.most=some n) (t:n<=qaG) (r:d.params.defaults=[]) (I:bj k qhm)
  (L:∀ (w) (h),YP w h->(K w.params).In h)
  (F:∀ (w) (mg) (m) (h),(K w.params).In h->h.Ns qb9 mg->mg d.name=some (.ref m)->
    ∃ fd,(∀ (s) (u),qht s fd ⟨[u],[]⟩ [(x,u)])/\
     ∀ base,(K w.params).In base->base.Ns qb9 mg->dm l.prog w (K w.params) mg base (CX w) k m fd [x] (sp w))
  (p:∀ (w) (H) (a) (ns:List Int),ns.length<=n->BH H->SqL (K w.params) H a (ns.map V.int)->sp w [.ref a] H (λv _=>v=.bl true) λ_ _ _=>False)
  (y:∀ (w) (H) (s) (e) (s'),CX w [] H s (λ_ _ _=>False) e s'->False) :
  qhK q c XP YP l.row.toRowW d [] (λf A=>qhn f A) :=by
 refine Att.attach_call hn r λw s₀ j mg M m o O P D a A ns G Y N hd B z i g b hg=>?_;have KX:=L w _ Y;obtain⟨fd,hb,C⟩:=F w mg m _ KX G.T.g z;exact zY KX G.T.g G.T.b G.T.builtins G.T.nolimit hg i g (qaD b t) I C hb (λH J E=>p w H a ns b J E) λH e s'=>y w H j e s'
noncomputable def mK (s:Stmt):Arguments:=match s with
 |.FunctionDef _ a _ _ _ _ _ _ _ _=>a
 |_=>{ posonlyargs:=[],args:=[],vararg:=none,kwonlyargs:=[],kw_defaults:=[],kwarg:=none,defaults:=[] }
noncomputable def aW (s:Stmt):List Stmt:=match s with
 |.FunctionDef _ _ b _ _ _ _ _ _ _=>b
 |_=>[]
noncomputable def ao (s:Stmt):Scope:=match s with
 |.FunctionDef _ _ _ _ _ _ a _ _ _=>a
 |_=>{ kind:=.function,names:=[],isGenerator:=false,isCoroutine:=false }
abbrev CX0:CXT:=λ_ _ _ _ _ _=>False
abbrev E0:XK:=λ_ _ _=>False
theorem Aq :mV CX0 X E0 :=λ_ _ _ _ _ _ _ h=>h.elim
structure Fun (K:qae) (x qual:Str) (st:Stmt) (f:Addr) (fd:qb5):Prop where
 ex:∃ (oc:Value) (od:Option Addr) (kV doc pm:Value) (an:Option Addr) (cdv ct:Value) (osl:Array (Option Value)),
  fd=qdK x qual (mK st) (aW st) (ao st) .none kV doc pm an cdv ct/\K.lookup f=some ⟨oc,od,.func fd,osl⟩/\qfK K cdv qual=true
 kp:qcC K (.ref f)=true
section
variable {P:qaR}{w:World}{K:qae}{mg:Str->Option Value}{base:Heap}
theorem Fun.ok {st}(F:Fun K x a st f fd) (S:cf N ps (ao st)) (len:∀ m H Q E,sp m H Q E->m.length=ps.length)
  (j:∀ (b) (A) (outer) (s) (H) (m) (Q) (E),bj k (A.deeper (qex a (ao st) s.heap.objs.size f b))->sp m H Q E->
    ∃ t,PSs (fq CX0 P w K mg base N a (ao st) f b A outer s H E).nox (aW st) t/\t { nx:=λ_ H'=>Q .non H',rt:=Q } (iP N m) H):dm P w K mg base CX0 (k+1) f fd ps sp :=by
 obtain⟨o,p,kV,d,i,g,b,ct,e,rfl,v,n⟩:=F.ex;refine Gh v n S len λA outer s H m Q E y r=>?_;obtain⟨t,h,q⟩:=j b A outer s H m Q E y r;exact⟨t,h.nox,q⟩
theorem Fun.binds {st}(F:Fun K x a st f fd)
  (h:∀ (kV d i) (g) (b ct) (u),u.length=ps.length->bindArgs (qdK x a (mK st) (aW st) (ao st) .none kV d i g b ct) ⟨u,[]⟩=pure (ps.zip u)):cY K fd ps [] :=by
 obtain⟨o,p,kV,d,i,g,b,ct,e,rfl,v,n⟩:=F.ex;exact .all (h kV d i g b ct)
theorem fun_mk {st}{kV    } (l:K.lookup f=some ⟨o,p,.func (qdK x a (mK st) (aW st) (ao st) .none kV d i g b ct),e⟩)
  (c:qfK K b a=true) (k:qcC K (.ref f)=true):Fun K x a st f (qdK x a (mK st) (aW st) (ao st) .none kV d i g b ct) :=⟨⟨o,p,kV,d,i,g,b,ct,e,U,l,c⟩,k⟩
end
theorem Dx (a:bj k A):A.units+1<cLine :=qbD (Nat.add_le_add_left (by decide) _) a.units
theorem y4 (h:n<=1000):n<qaG :=qbD h (by decide)
section
variable {X:Cx}
end
theorem B8 { B:Prop} (h:B):if false=true then A else B :=by
 exact h
theorem B9 { B:Prop} (h:A):if true=true then A else B :=by
 exact h
def aQ (H H':Hp):Prop:=∀ b o,H b=some o->H' b=some o
theorem aQ.refl (H):aQ H H :=λ_ _ h=>h
theorem aQ.trans (a:aQ H H1) (b:aQ H1 H2):aQ H H2 :=λc o h=>b c o (a c o h)
noncomputable def ck (a:List (Str×Addr)):List (Str×qbZ)->List (Str×Addr)->List (Str×Addr)
 |[],acc=>acc
 |(n,k)::r,acc=>if k==.free then ck a r ((n,(a.lookup n).getD 0)::acc) else ck a r acc
theorem jy (f)
  (e:∀ n k d,f (n,k) d=if k==.free then (do let c <-cellOf env n;pure (.yield ((n,c)::d))) else pure (.yield d)) :
  ∀ (names) (acc),(∀ x∈names,x.2=.free->∃ c,env.cells.lookup x.1=some c)->
   forIn names acc f=pure (ck env.cells names acc)
 |[],acc,_=>by rfl
 |(n,k)::r,acc,h=>by
  rw[qfU,e];unfold ck;by_cases a:(k==.free)=true
  ·obtain⟨c,g⟩:=h (n,k) qag (beq_iff_eq.mp a)
   have b:=g;rw[iFP a,iFP a]
   have:cellOf env n=pure c:=by unfold cellOf;rw[b]
   rw[this,b];exact jy f e r _ λx hx=>h x (qah _ hx)
  ·rw[iFN a,iFN a]
   exact jy f e r _ λx hx=>h x (qah _ hx)
theorem jk (h:∀ x∈a.names,x.2=.free->∃ c,env.cells.lookup x.1=some c) :
  closureFor a env=pure (ck env.cells a.names []) :=by
 simp only[closureFor];rw[jy _ (λn k b=>by cases hk:k==NameKind.free<;>simp[hk]) a.names [] h]
 simp
theorem eU {a:List (Str×Addr)}:∀ (names:List (Str×qbZ)) (acc:List (Str×Addr)) {x:Str}{c:Addr},(ck a names acc).lookup x=some c->
  acc.lookup x=some c\/((x,NameKind.free)∈names/\c=(a.lookup x).getD 0)
 |[],_,_,_,h=>.inl h
 |(n,k)::r,acc,x,c,h=>by
  unfold ck at h;by_cases d:(k==.free)=true
  ·rw[iFP d]at h
   rcases eU r _ h with q|⟨f,b⟩
   ·rw[qby]at q
    cases hx:x==n with
    |true=>
     rw[hx]at q;have e:=beq_iff_eq.mp hx;subst e;exact .inr ⟨by rw[<-beq_iff_eq.mp d];exact qag,(qaP q).symm⟩
    |false=>rw[hx]at q;exact .inl q
   ·exact .inr ⟨qah _ f,b⟩
  ·rw[iFN d]at h
   rcases eU r _ h with q|⟨f,b⟩
   ·exact .inl q
   ·exact .inr ⟨qah _ f,b⟩
theorem d5 :∀ (names) (acc),((x,NameKind.free)∈names\/(acc.lookup x).isSome=true)->((ck a names acc).lookup x).isSome=true
 |[],_,h=>h.elim (λz=>nomatch z) id
 |(n,k)::r,acc,h=>by
  unfold ck;by_cases b:(k==.free)=true
  ·rw[iFP b]
   refine d5 r _ ?_;rcases h with h|h
   ·rcases qav.mp h with e|h
    ·cases e
     exact .inr (by rw[qby,beq_self_eq_true];rfl)
    ·exact .inl h
   ·refine .inr ?_
    rw[qby];cases x==n
    ·exact h
    ·rfl
  ·rw[iFN b]
   refine d5 r _ ?_;rcases h with h|h
   ·rcases qav.mp h with e|h
    ·cases e;exact absurd U b
    ·exact .inl h
   ·exact .inr h
theorem cJ:∀ (names:List (Str×qbZ)) (n:Nat) (acc:List (Str×Addr)) {x:Str}{c:Addr},(qcu n names acc).lookup x=some c->acc.lookup x=some c\/((x,NameKind.cell)∈names/\n<=c)
 |[],_,_,_,_,h=>.inl h
 |(m,k)::r,n,acc,x,c,h=>by
  unfold qcu at h;by_cases b:(k==.cell)=true
  ·rw[iFP b]at h
   rcases cJ r _ _ h with q|⟨d,a⟩
   ·rw[qby]at q
    cases hx:x==m with
    |true=>
     rw[hx]at q;have e:=beq_iff_eq.mp hx;subst e;exact .inr ⟨by rw[<-beq_iff_eq.mp b];exact qag,by rw[qaP q];exact qan _⟩
    |false=>rw[hx]at q;exact .inl q
   ·exact .inr ⟨qah _ d,Nat.le_of_succ_le a⟩
  ·rw[iFN b]at h
   rcases cJ r _ _ h with q|⟨d,a⟩
   ·exact .inl q
   ·exact .inr ⟨qah _ d,a⟩
theorem qg:∀ (names) (n:Nat) (acc:List (Str×Addr)),(∀ p∈acc,p.2<n)->∀ {x y}{c},(qcu n names acc).lookup x=some c->(qcu n names acc).lookup y=some c->n<=c->x=y :=by
 have g:∀ (names:List _) (n:Nat) (acc:List _) (lo:Nat),lo<=n->(∀ p∈acc,p.2<n)->(∀ p∈acc,∀ q∈acc,lo<=p.2->p.2=q.2->p.1=q.1)->
   ∀ p∈qcu n names acc,∀ q∈qcu n names acc,lo<=p.2->p.2=q.2->p.1=q.1:=by
  intro names
  induction names with
  |nil=>intro n acc lo _ _ h;exact h
  |cons z r s=>
   intro n acc lo f a h;obtain⟨m,k⟩:=z;unfold qcu;by_cases o:(k==.cell)=true
   ·rw[iFP o]
    refine s _ _ lo (Nat.le_succ_of_le f) (λp b=>?_) (λp b q d l e=>?_)
    ·rcases qav.mp b with e|b
     ·rw[e];exact qb2 _
     ·exact qbi (a p b)
    ·rcases qav.mp b with i|b<;>rcases qav.mp d with j|d
     ·rw[i,j]
     ·rw[i]at e;exact absurd (a q d) (by rw[<-e];exact qbb _)
     ·rw[j]at e;exact absurd (a p b) (by rw[e];exact qbb _)
     ·exact h p b q d l e
   ·rw[iFN o]
    exact s _ _ lo f a h
 intro names n acc a x y c hx t u;exact g names n acc n (qan _) a (λp b q d l _=>absurd (a p b) (qhN.mpr l)) _ (qbu hx) _ (qbu t) u U
theorem dj:∀ (names) (h) (acc),(∀ p∈acc,∃ v,h.IsCell p.2 v)->∀ p∈qcu h.objs.size names acc,∃ v,(qeZ h names).IsCell p.2 v
 |[],_,_,h=>h
 |(m,k)::r,h,acc,d=>by
  unfold qcu qeZ;by_cases a:(k==.cell)=true
  ·rw[iFP a,iFP a]
   have:=dj r (h.push { cls:=.type "cell",data:=.cell none }) ((m,h.objs.size)::acc) (λp c=>by
    rcases qav.mp c with e|c
    ·rw[e];exact⟨none,_,qaw _ U,U⟩
    ·obtain⟨v,z⟩:=d p c
     exact⟨v,z.keeps λb o e=>qaj _ e⟩)
   rwa [qbs]at this
  ·rw[iFN a,iFN a]
   exact dj r h acc d
theorem dA {names:List _} (nd:(names.map (·.1)).Nodup):∀ {x:Str}{k:qbZ},(x,k)∈names->names.lookup x=some k :=by
 induction names with
 |nil=>intro x k h;cases h
 |cons z r a=>
  intro x k h;obtain⟨m,b⟩:=z;rw[qat,qb0]at nd;rw[qby];rcases qav.mp h with e|h
  ·cases e;rw[beq_self_eq_true]
  ·have:(x==m)=false:=beq_eq_false_iff_ne.mpr λe=>nd.1 (e ▸ qaI.mpr ⟨(x,k),by assumption,U⟩)
   rw[this];exact a nd.2 h
theorem cC {env:Env}:∀ {names:List (Str×qbZ)}{x:Str}{k:qbZ},
  (names.map λ(n,k)=>if (k==NameKind.free&&env.scope.kind==.function&&env.kindOf n==some .cell) then (n,NameKind.cell) else (n,k)).lookup x=some k->
  ∃ a,names.lookup x=some a/\(k=a\/(a=.free/\k=.cell))
 |[],_,_,h=>by cases h
 |(n,a)::r,x,k,h=>by
  rw[qat]at h;dsimp only at h;rw[qby];by_cases b:(a==NameKind.free&&env.scope.kind==.function&&env.kindOf n==some .cell)=true
  ·rw[iFP b,qby]at h
   cases hx:x==n with
   |true=>
    rw[hx]at h;refine⟨a,U,.inr ⟨?_,(qaP h).symm⟩⟩;simp only[qa0]at b;exact beq_iff_eq.mp b.1.1
   |false=>rw[hx]at h;exact cC h
  ·rw[iFN b,qby]at h
   cases hx:x==n with
   |true=>rw[hx]at h;exact⟨a,U,.inl (qaP h).symm⟩
   |false=>rw[hx]at h;exact cC h
theorem gr {env:Env}:∀ {names:List _}{x},names.lookup x=some .free->
  (names.map λ(n,k)=>if (k==NameKind.free&&env.scope.kind==.function&&env.kindOf n==some .cell) then (n,NameKind.cell) else (n,k)).lookup x=some .free\/
  (names.map λ(n,k)=>if (k==NameKind.free&&env.scope.kind==.function&&env.kindOf n==some .cell) then (n,NameKind.cell) else (n,k)).lookup x=some .cell
 |[],_,h=>by cases h
 |(n,b)::r,x,h=>by
  rw[qat];dsimp only;rw[qby]at h;by_cases a:(b==NameKind.free&&env.scope.kind==.function&&env.kindOf n==some .cell)=true
  ·rw[iFP a,qby]
   cases hx:x==n with
   |true=>exact .inr U
   |false=>rw[hx]at h;exact gr h
  ·rw[iFN a,qby]
   cases hx:x==n with
   |true=>rw[hx]at h;exact .inl h
   |false=>rw[hx]at h;exact gr h
theorem kP (d:Q (newEnv a s.heap.objs.size env.globals (qcu (s.heap.objs.size+1) a.names c) env.qual none .none (some env) qg3)
    { s with heap:=qeZ (s.heap.push { cls:=.type "dict",data:=.dict #[] }) a.names }) :
  wpAny M A (newFunctionEnv a env.globals c [] env.qual none .none (some env)) Q E s :=by
 refine qac (wpAny_alloc ?_);refine qac (wpAny_layCells _ (λname kind b=>by cases hkc:kind==NameKind.cell<;>simp[hkc]) _ _ _ _ ?_);rw[qbs ..];refine qac ?_;exact qaq (qaq d)
theorem cZ (I:Nat->qak->Prop)
  (turn:∀ n s,I n s->wpAny (model prog w) A (qg2 z) (λr d=>match r with
    |none=>R (.ok .next) d
    | some v=>wpAny (model prog w) A (qgC a z v) (λ_ e=>wpAny (model prog w) A (qgb a env v) (λ_ i=>
      wpAny (model prog w) A (forIn p true λc r=>if r=true then do let ok <-qjL c env (eval c env);pure (ForInStep.yield ok) else pure (ForInStep.yield r)) (λok b=>
       if ok=true then wpAny (model prog w) A (eval t env) (λx j=>
        wpAny (model prog w) A (call (.builtin "list.append") [acc,x]) (λ_ k=>∃ m,m<n/\I m k) (λ_ _=>False) j) (λ_ _=>False) b
       else ∃ m,m<n/\I m b) (λ_ _=>False) i) (λ_ _=>False) e) (λ_ _=>False) d) (λ_ _=>False) s)
  (n) (h:I n s) :
  qfo (model prog w) A (.compLoop (.ListComp t [⟨a,iter,p,0⟩] l pos) 0 z acc env) R s :=by
 refine codeAny_loop U I (λn s B=>?_) n h;refine wpAny_noted ?_;rw[compTurn_list];refine qac (qeG (qac (qcp (turn n s B) (λr d f=>?_) λ_ _ h'=>h'.elim)));cases r with
 |none=>exact qaq f
 |some v=>
  refine qac (qcp f (λ_ e o=>?_) λ_ _ h'=>h'.elim);refine qac (qcp o (λ_ i y=>qac (qcp y (λok b g=>?_) λ_ _ h'=>h'.elim)) λ_ _ h'=>h'.elim);cases ok with
  |false=>exact qaq ⟨U,g⟩
  |true=>
   exact qac (qac (qcp g (λx j u=>qac (qcp u (λ_ k q=>qaq (qaq ⟨U,q⟩)) λ_ _ h'=>h'.elim)) λ_ _ h'=>h'.elim))
noncomputable def lcX (X:Cx) (a:Scope) (b:List (Str×Addr)) (Nc:List Str) (s:qak) (H:Hp) (C:Addr) (c:List Addr):Cx where
 prog:=X.prog
 w:=X.w
 K:=X.K
 mg:=X.mg
 base:=X.base
 A:=X.A
 N:=Nc
 s₀:=s
 H₀:=H
 env:=qhl a b C X.env
 outer:=X.stack
 stack:=X.stack
 ex:=c
 fn:=λx=>a.names.lookup x==some .cell
 calm:=X.calm
 pn:=[]
 xe:=λ_ _=>False
structure cS (X:Cx) (scope:Scope) (Nc:List Str) (emb:St->St):Prop where
 kind:scope.kind=.function
 nd:(scope.names.map (·.1)).Nodup
 nN:Nc.Nodup
 free:∀ x∈scope.names,x.2=.free->X.env.kindOf x.1=some .cell\/X.env.kindOf x.1=some .free
 len:∀ σ:St,σ.length=X.N.length->(emb σ).length=Nc.length
 emb:∀ σ:St,σ.length=X.N.length->∀ (i:Nat) (x:Str) (v:V),Nc[i]?=some x->(emb σ)[i]?=some (some v)->∃ j:Nat,X.N[j]?=some x/\σ[j]?=some (some v)/\scope.names.lookup x=some .free
section
variable {X:Cx}{C:List (Addr×Obj)}{V:St}{H:Hp}{s:qak}{a:Scope}{Nc:List Str}{emb:St->St}
theorem cS.clos (S:cS X a Nc emb) (ok:X.Ok):∀ x∈a.names,x.2=.free->∃ c,X.env.cells.lookup x.1=some c:=λx hx h=>ok.has x.1 (S.free x hx h)
theorem uE (S:cS X a Nc emb) (I:Inv X C V H s) (Q:∀ b∈R,je X C H b) (W:∀ b∈R,∃ o,s.heap.get? b=some o) {lo} (hlo:∀ v,lo.data≠.cell v) (hfr:lo.isFreed=false) :
  Inv (lcX X a (qcu (s.heap.objs.size+2) a.names (ck X.env.cells a.names [])) Nc s H (s.heap.objs.size+1) R) [(s.heap.objs.size,lo)] (emb V) H
   { s with heap:=qeZ ((s.heap.push lo).push { cls:=.type "dict",data:=.dict #[] }) a.names } :=by
 have P:((s.heap.push lo).push { cls:=.type "dict",data:=.dict #[] }).objs.size=s.heap.objs.size+2:=by rw[qbs,qbs]
 have L:(s.heap.push lo).objs.size=s.heap.objs.size+1:=by rw[qbs]
 have G:∀ b o,s.heap.get? b=some o->(qeZ ((s.heap.push lo).push { cls:=.type "dict",data:=.dict #[] }) a.names).get? b=some o:=λb o e=>
  qcW _ _ b o (qaj _ (qaj _ e))
 have has:=S.clos I.ok;have A:∀ {x:Str}{c:Addr},(ck X.env.cells a.names []).lookup x=some c->X.env.cells.lookup x=some c/\(x,NameKind.free)∈a.names:=λ{x c} h=>by
  rcases eU _ _ h with q|⟨J,K⟩
  ·cases q
  ·obtain⟨c',w⟩:=has _ J U
   have D:=w;rw[D]at K;exact⟨by rw[D,K];rfl,J⟩
 have d:∀ {x:Str}{c:Addr},(qcu (s.heap.objs.size+2) a.names _).lookup x=some c->
   _\/_:=λ{x c} h=>by
  rcases cJ _ _ _ h with q|q
  ·exact .inl (A q)
  ·exact .inr q
 have g:∀ {x:Str}{c:Addr},X.env.cells.lookup x=some c->c<s.heap.objs.size:=λ{x c} h=>by
  obtain⟨v,z⟩:=I.cell x c h;exact z.lt
 have E:∀ b∈R,b<s.heap.objs.size:=λb hb=>by obtain⟨o,e⟩:=W b hb;exact qax e
 have f:∀ p∈ck X.env.cells a.names [],∃ x,X.env.cells.lookup x=some p.2:=by
  have Y:∀ (names:List _) (acc:List _),(∀ x∈names,x.2=.free->∃ c,X.env.cells.lookup x.1=some c)->(∀ p∈acc,∃ x,X.env.cells.lookup x=some p.2)->∀ p∈ck X.env.cells names acc,∃ x,X.env.cells.lookup x=some p.2:=by
   intro names
   induction names with
   |nil=>intro acc _ h;exact h
   |cons z r ih=>
    intro acc hn h;obtain⟨m,k⟩:=z;unfold ck;by_cases G:(k==.free)=true
    ·rw[iFP G]
     refine ih _ (λx hx=>hn x (qah _ hx)) λp l=>?_;rcases qav.mp l with e|l
     ·obtain⟨c,hc⟩:=hn _ qag (beq_iff_eq.mp G)
      exact⟨m,by rw[e,hc];rfl⟩
     ·exact h p l
    ·rw[iFN G]
     exact ih _ (λx hx=>hn x (qah _ hx)) h
  exact Y _ _ has λp l=>nomatch l
 refine⟨⟨I.ok.mod,S.kind,I.ok.glob,I.ok.blt,qcF _,λx y c n t=>?_,λx hx=>?_,λx c hx h=>?_,I.ok.hd,I.ok.frames,.inl U,λb hb=>?_,I.bs,qaD I.ok.bsz I.sz,λb o e hb=>?_,λb hb=>?_,I.stack,I.stkFree⟩,
  rfl,I.bare,Un.kept G,⟨_,(Heap.Ns.new _ _).keeps (qcW _ _) |> λq=>by rw[L]at q;exact q,λi x v n t _=>?_⟩,λx c h=>?_,I.hok.fresh (qcF _),λx c h=>?_,λp l=>?_,I.hok.kept G,S.len V I.len⟩
 ·-- inj
  have O:=n;have N:=t;rcases d O with⟨J,_⟩|⟨_,J⟩
  ·rcases d N with⟨K,_⟩|⟨_,K⟩
   ·exact I.ok.inj x y c J K
   ·exact absurd (qaO (qbi (qbi (g J))) K) (qbb _)
  ·refine qg a.names _ _ (λp l=>?_) O N J
   obtain⟨z,hz⟩:=f p l;exact qbi (qbi (g hz))
 ·-- has
  have:∃ B,a.names.lookup x=some B/\(B=.cell\/B=.free):=by
   rcases hx with q|q
   ·obtain⟨B,n,t⟩:=cC q
    exact⟨B,n,t.elim (λe=>.inl e.symm) λe=>.inr e.1⟩
   ·obtain⟨B,n,t⟩:=cC q
    exact⟨B,n,t.elim (λe=>.inr e.symm) λe=>by cases e.2⟩
  obtain⟨B,n,t⟩:=this;refine qcs.mp (qdd a.names _ _ ?_);rcases t with rfl|rfl
  ·exact .inl n
  ·exact .inr (d5 _ _ (.inl (qbu n)))
 ·-- cab
  rcases d h with⟨_,q⟩|⟨_,q⟩
  ·have:=dA S.nd q
   rw[(beq_iff_eq.mp hx)]at this;cases this
  ·exact qaD (qc4 _ 2) q
 ·-- exf
  refine⟨qaH (qbi (E b hb)),λx c h=>?_⟩;rcases d h with⟨q,_⟩|⟨_,q⟩
  ·exact (Q b hb).2.2.2.2.1 x c q
  ·intro e
   exact absurd (qaO (qbi (qbi (E b hb))) (e ▸ q)) (qbb _)
 ·-- noex
  rcases (Q b hb).2.2.2.1 with q|q
  ·exact I.ok.noex b o e q
  ·exact absurd (qaO (qax (I.ok.bs b o e).1) q) (qbb _)
 ·-- exfs
  intro hb2;rcases qav.mp (I.stkSub b hb2) with q|q
  ·exact (Q b hb).2.1 q
  ·exact (Q b hb).2.2.1 q
 ·-- loc
  obtain⟨j,e1,e2,T⟩:=S.emb V I.len i x v n t;have M:=(S.free (x,.free) (qbu T) U);obtain⟨m,hn,hl⟩:=I.loc;obtain⟨u,ru,lk⟩:=hl j x v e1 e2 (.inr M);refine⟨u,ru,.inr ⟨?_,?_⟩⟩
  ·rcases gr T with q|q
   ·exact .inr q
   ·exact .inl q
  ·rcases lk with⟨z,_⟩|⟨_,c,hc,F⟩
   ·rcases M with q|q<;>(rw[z]at q;cases q)
   ·obtain⟨c',w⟩:=qcs.mp (qdd a.names _ _ (.inr (d5 _ _ (.inl (qbu T)))))
    rcases d w with⟨q,_⟩|⟨q,_⟩
    ·rw[hc]at q
     cases q;exact⟨c,w,F.keeps G⟩
    ·have:=dA S.nd q
     rw[T]at this;cases this
 ·-- cell
  exact (dj a.names _ (ck X.env.cells a.names []) (λp l=>by
   obtain⟨z,hz⟩:=f p l;obtain⟨v,q⟩:=I.cell z p.2 hz
   exact⟨v,q.keeps λb o e=>qaj _ (qaj _ e)⟩) (x,c) (by rw[P];exact qbu h))
 ·-- freeC
  rcases d h with⟨q,_⟩|⟨_,q⟩
  ·exact I.freeC x c q
  ·exact I.hok.fresh (qaD (qc4 _ 2) q)
 ·-- pin
  have hp':=by
   have:p∈([])++[(s.heap.objs.size,lo)]:=l
   simpa using this
  subst hp';refine⟨qcW _ _ _ _ (qaj _ (qaw _ hfr)),I.hok.fresh (qan _),qaH (qb2 _),λhb=>?_,hlo⟩;rcases qav.mp (I.stkSub _ hb) with q|q
  ·exact absurd I.lt (by rw[<-q];exact qbb _)
  ·exact I.nofs (qan _) q
end
def PTs (X:Cx) (b:List Expr) (t:TT):Prop:=
 ∀ (a:List (Addr×Obj)) (s:qak) (d:St) (H:Hp) (Q:Bool->Hp->Prop),Inv X a d H s->t d H Q->
  wpAny (model X.prog X.w) X.A (forIn b true λc r=>if r=true then do let ok <-qjL c X.env (eval c X.env);pure (ForInStep.yield ok) else pure (ForInStep.yield r)) (TP X a d Q) X.xe s
def IH:TT:=λ_ H Q=>Q true H
theorem CW :PTs X [] IH :=λ_ _ _ H _ I h=>wpAny_tests_nil ⟨H,I,h⟩
theorem CY (b:PT X c t):PTs X [c] t :=λa s d H Q I h=>wpAny_tests_one (b a s d H Q I h)
def Sub (b a:St):Prop:=b.length=a.length/\∀ (i:Nat) (v:V),b[i]?=some (some v)->a[i]?=some (some v)
def FY (J:It) (d:St) (g:TG) (tt:TT) (te:TE) (H1:Hp) (Q:VK):Prop:=∃ W:Nat->Nat->List V->Hp->Prop,(∃ m,W 0 m [] H1)/\∀ i m e H,W i m e H->
 (J.stop i H/\∀ D,H D=none->Q (.ref D) (upd H D (.lst e)))\/
 (J.go i H/\e.length<qaG/\∃ N:List V->Hp->Prop,(∀ c H',N c H'->∃ f,f<m/\W (i+1) f c H')/\∀ x H',J.yld i H x H'->g x d H' λa H2=>Sub d a/\tt a H2 λb H3=>if b=true then te a H3 λv H4=>N (e++[v]) H4 else N e H3)
def tLc (emb:St->St) (b:TI) (g:TG) (tt:TT) (te:TE):TE:=λa H Q=>b a H λJ H1=>FY J (emb a) g tt te H1 Q
section
variable {X:Cx}{j:Scope}{Nc:List Str}{emb:St->St}{elt iter tg:Expr}{ifs:List Expr}{pos:Pos}{wi:TI}{g:TG}{tt:TT}{te:TE}
theorem GU (S:cS X j Nc emb) (hc:X.calm=true) (hi:PI X tg iter wi)
  (hg:∀ f s H C A,PG (lcX X j f Nc s H C A) tg g) (ht:∀ f s H C A,PTs (lcX X j f Nc s H C A) ifs tt) (he:∀ f s H C A,PE (lcX X j f Nc s H C A) elt te)
  (hs:∀ x,qbt iter X.env x=pure x:=by intro _;rfl):PE X (.ListComp elt [⟨tg,iter,ifs,0⟩] j pos) (tLc emb wi g tt te):=by
 intro pins s σ H Q I h;refine qg1 U hs (jk (S.clos I.ok)) S.kind (λx hx hl=>dA S.nd (by rw[<-hl];exact hx)) ?_;refine thn (hi pins s σ H _ I h) λv s1 h1=>thn h1 λitv R h2=>?_;obtain⟨it,A,tn,J,H2,e,I2,T,V,f2,W,⟨m0,w0⟩,turn⟩:=h2;subst e;refine qcE (kP ?_);rw[qbs ..];generalize hD:R.heap.objs.size=D;generalize hlo:({ cls:=.type "list",dict:=none,data:=.seq ([]:List Value).toArray }:Obj)=lo
 have fplt:∀ b∈A,b<R.heap.objs.size:=λb hb=>by obtain⟨o,e,_⟩:=T.obj _ _ V b hb;exact qax e
 have I3:=uE (lo:=lo) S I2 f2 (λb hb=>by obtain⟨o,e,_⟩:=T.obj _ _ V b hb;exact⟨o,e⟩) (by rw[<-hlo];intro v z;cases z) (by rw[<-hlo];rfl);rw[hD]at I3;generalize hcells:qcu (D+2) j.names _=f at I3;generalize d:lcX X j f Nc R H2 (D+1) A=X' at I3;have E:∀ {H':Hp}{ps:List (Addr×Obj)},(∀ b∈A,H' b=none)->(∀ p∈ps,p.1=D)->∀ b∈A,je X' ps H' b:=λ{H' ps} hn F b hb=>by
  have ok:=I3.ok;refine⟨hn b hb,?_,?_,.inl (by rw[<-d];exact hb),?_,λp O=>?_⟩
  ·exact (ok.exf b (by rw[<-d];exact hb)).1
  ·exact ok.exfs b (by rw[<-d];exact hb)
  ·exact (ok.exf b (by rw[<-d];exact hb)).2
  ·have hp':p∈([])++ps:=by rw[<-d]at O;exact O
   rw[(F p (by simpa using hp')),<-hD];exact qci (fplt b hb)
 have Dex:D∈X'.ex\/X'.s₀.heap.objs.size<=D:=.inr (by rw[<-d,<-hD];exact qan _);have Dloc:D≠X'.env.locals:=by rw[<-d];exact qaH (qb2 _)
 have pD:=I3.pin (D,lo) (by rw[<-d];exact qay _ qag);have Dcell:∀ x c,X'.env.cells.lookup x=some c->c≠D:=λx c hc' e=>by
  obtain⟨v,o,ho,hd⟩:=I3.cell x c hc';rw[e,pD.1]at ho;cases ho;exact pD.2.2.2.2 v hd
 -- the M
 have M:∀ s3:qak,s3={ R with heap:=qeZ ((R.heap.push lo).push { cls:=.type "dict",data:=.dict #[] }) j.names }->
   qfo (model X.prog X.w) X.A (.compLoop (.ListComp elt [⟨tg,iter,ifs,0⟩] j pos) 0 (.ref it) (.ref D) (qhl j f (D+1) X.env))
    (compPost (model X.prog X.w) X.A X.xe none (EP X pins σ Q) (.ref D) (D+1)) s3:=by
  rintro s3 rfl
  refine cZ (λn s'=>∃ i ys l k H',Inv X' [(D,{ cls:=.type "list",data:=.seq l.toArray k })] (emb σ) H' s'/\aI ys l/\tn i s'.heap/\(∀ b∈A,H' b=none)/\ys.length<=qaG/\W i n ys H') ?_ m0
   ⟨0,[],[],0,H2,?_,.nil,?_,λb hb=>(f2 b hb).1,qbr _,w0⟩
  ·rintro n s4 ⟨i,ys,l,k,H4,I4,rv,st4,fr4,hlen,w4⟩
   have F:∀ p∈[(D,({ cls:=.type "list",data:=.seq l.toArray k }:Obj))],p.1=D:=λp O=>by
    have:=qao.mp O
    rw[this]
   rcases turn i n ys H4 w4 with⟨stop,qn⟩|⟨go,hlt,N,hN,step⟩
   ·-- the end
    have TD:=T.done X' (by rw[<-d];rfl) (by rw[<-d];rfl) (by rw[<-d];rfl) (by rw[<-d];exact hc) i _ s4 (emb σ) H4 (λ_ _=>False) I4 (E fr4 F) st4 stop;rw[show X'.A=X.A by rw[<-d];rfl]at TD;refine thn TD λr s5 ⟨hr,I5⟩=>?_;subst hr;obtain⟨m5,hn5,_⟩:=id I5.loc;have eC:X'.env.locals=D+1:=by rw[<-d];rfl
    rw[eC]at hn5;refine⟨m5,hn5,λh' K=>?_⟩;have pD5:=I5.pin (D,{ cls:=.type "list",data:=.seq l.toArray k }) (by rw[<-d];exact qay _ qag)
    have neC:∀ b u,H4 b=some u->b≠D+1:=λb u e z=>by
     have:=I5.free
     rw[eC,<-z,e]at this;cases this
    have hD4:H4 D=none:=pD5.2.1;have un:=I5.base;have B:Un (frs X.stack) A H2 H4 R.heap s5.heap:=by rw[<-d]at un;exact un
    have w:∀ b o,R.heap.get? b=some o->b≠D/\b≠D+1:=λb o e=>by
     have q:=qax e;rw[hD]at q;exact⟨qaH q,qaH (qbi q)⟩
    have h2D:H2 D=none:=by rw[<-hD];exact I2.fresh
    have hok':HOk X.prog X.w H4 h':=λb u e=>by
     have ob:cb X.prog X.w H4 s5.heap b u:=by have:=I5.hok b u e;rw[<-d]at this;exact this
     refine ob.stay (λc v hcv q=>(K.2 c ?_).trans q) (λ_ q=>q) λ_ _ q=>q;rcases hcv with z|z
     ·rw[z];exact neC b u e
     ·exact neC c _ z
    have hokD:HOk X.prog X.w (upd H4 D (.lst ys)) h':=λb u e=>by
     by_cases hb:b=D
     ·subst hb
      rw[upd_same]at e;cases e;exact⟨hlen,l,k,rv,(K.2 b (qaH (qb2 _))).trans pD5.1⟩
     ·rw[upd_ne hb]at e
      refine (hok' b u e).stay (λ_ _ _ q=>q) (λc q=>?_) λc z q=>?_
      all_goals first
       |(rw[upd_ne (aK q hD4)];exact q)
       |(rw[upd_ne (aK z hD4)];exact z)
    refine⟨.ref D,upd H4 D (.lst ys),?_,U,qn D hD4⟩;refine I2.call' (s':={ s5 with heap:=h' }) (ch:=A) ?_ ⟨λb o e nb hb hx=>?_,λb o e nb hb hx=>?_,λb o e nb hx=>?_,λb o e hx=>?_,λb xs e=>?_,λb o u e=>?_,λb ps e=>?_⟩ hokD I5.bare (λb hb=>?_)
    ·have:=I5.os
     rw[<-d]at this;exact this
    ·exact (K.2 b (w b o e).2).trans (B.keep b o e nb hb hx)
    ·obtain⟨sl,q⟩:=B.slot b o e nb hb hx
     exact⟨sl,(K.2 b (w b o e).2).trans q⟩
    ·rw[upd_ne (w b o e).1]
     exact B.free b o e nb hx
    ·obtain⟨o',q⟩:=B.there b o e hx
     exact⟨o',(K.2 b (w b o e).2).trans q⟩
    ·rw[upd_ne (aK e h2D)]
     exact B.tups b xs e
    ·rw[upd_ne (aK e h2D)]
     exact B.frzs b o u e
    ·obtain⟨m,q⟩:=B.tbls b ps e
     exact⟨m,by rw[upd_ne (aK e h2D)];exact q⟩
    ·obtain⟨q0,q1,q2,q3,q4,q5⟩:=f2 b hb
     exact⟨q3,q1,q4,q5⟩
   ·-- a turn
    have hA:X'.A=X.A:=by rw[<-d];rfl
    have hP:X'.prog=X.prog:=by rw[<-d];rfl
    have hw:X'.w=X.w:=by rw[<-d];rfl
    have hE:X'.env=qhl j f (D+1) X.env:=by rw[<-d];rfl
    have hxe:X'.xe=λ_ _=>False:=by rw[<-d];rfl
    have TI':=T.item X' hP hw (by rw[<-d];rfl) (by rw[<-d];exact hc) i _ s4 (emb σ) H4 (λ_ _=>False) I4 (E fr4 F) st4 go;rw[hA]at TI';refine thn TI' λr s5 ⟨u,hr,h5⟩=>?_;subst hr;refine thn h5 λ_ s6 ⟨x,H6,I6,r6,y6,st6,fr6⟩=>?_;have I6':=I6.pinned (E fr6 F) (T.obj _ _ st6);have G:=hg f R H2 (D+1) A;have TT':=ht f R H2 (D+1) A;have EE:=he f R H2 (D+1) A;rw[d]at G TT' EE;have G':=G _ s6 (emb σ) H6 x u _ I6' r6 (step x H6 y6);rw[hA,hP,hw,hE,hxe]at G';refine thn G' λ_ s7 ⟨σ7,H7,I7,Y,q7⟩=>?_;have T':=TT' _ s7 σ7 H7 _ I7 q7;rw[hA,hP,hw,hE,hxe]at T';refine thn T' λok s8 ⟨H8,I8,q8⟩=>?_
    -- what is pinned
    have t:∀ {σ9:St}{H9:Hp}{P:qak},Inv X' ([(D,({ cls:=.type "list",data:=.seq l.toArray k }:Obj))]++ph A s6.heap) σ9 H9 P->tn (i+1) P.heap/\∀ b∈A,H9 b=none:=λ{σ9 H9 P} I9=>
     ⟨T.keep _ _ _ st6 λb hb o e=>(I9.pin (b,o) (qay _ (qay _ (cp hb e)))).1,λb hb=>by
      obtain⟨o,e,_⟩:=T.obj _ _ st6 b hb
      exact (I9.pin (b,o) (qay _ (qay _ (cp hb e)))).2.1⟩
    cases ok with
    |false=>
     rw[iFN (by decide)]at q8;rw[iFN (by decide)];obtain⟨m',hm,w8⟩:=hN _ _ q8;exact⟨m',hm,i+1,ys,l,k,H8,I8.unpinned.weak Y.1 Y.2,rv,(t I8).1,(t I8).2,hlen,w8⟩
    |true=>
     rw[iFP U]at q8;rw[iFP U];have E':=EE _ s8 σ7 H8 _ I8 q8;rw[hA,hP,hw,hE,hxe]at E';refine thn E' λy P ⟨v9,H9,I9,r9,n9⟩=>?_;obtain⟨m',hm,w9⟩:=hN _ _ n9;have L:=I9.pin (D,{ cls:=.type "list",data:=.seq l.toArray k }) (qay _ (qbd _ qag))
     have hl:=rv.length;have I9n:Inv X' [] σ7 H9 P:=I9.pins_of λp O=>nomatch O
     refine qcr qfu ⟨_,L.1,U⟩ qfh (qe5 _ _) (qfe D l.toArray k y (by rw[qaB];lia)) ⟨L.1,?_⟩;have up:∃ k':Nat,(P.heap.update D (qcA λxs=>xs.push y)).get? D=some { cls:=.type "list",data:=.seq (l++[y]).toArray k' }:=by
      have q:=qe4 L.1 (λxs:Array Value=>xs.push y);simp only[qhz]at q;exact⟨_,q⟩
     obtain⟨k',up⟩:=up;have hoth:∀ b o,b≠D->P.heap.get? b=some o->(P.heap.update D (qcA λxs=>xs.push y)).get? b=some o:=λb o hb e=>(qdo P.heap _ (qbF hb)).trans e;have I10:=I9n.turned (t':=P.toks) hoth L.2.1 Dloc Dex Dcell (λp O=>absurd (show p∈([]:List (Addr×Obj)) by rw[<-d]at O;exact O) (by simp));refine⟨m',hm,i+1,ys++[v9],l++[y],k',H9,(I10.weak Y.1 Y.2).pins_of (λp O=>?_),rv.append (.cons r9 .nil),T.keep _ _ _ (t I9).1 (λb hb o e=>hoth b o (by rw[<-hD];exact qaH (fplt b hb)) e),(t I9).2,?_,w9⟩
     ·have:=qao.mp O
      subst this;exact⟨up,L.2.1,Dloc,(pD.2.2.2.1),λv z=>by cases z⟩
     ·rw[qau,qcm]
      lia
  ·rw[<-hlo.symm]
   exact I3
  ·exact T.keep _ _ _ V λb hb o e=>qcW _ _ b o (qaj _ (qaj _ e))
 refine qhw ?_ ?_
 ·exact M _ U
 ·refine T.self X.A 0 _ _ _ (T.keep _ _ _ V λb hb o e=>qcW _ _ b o (qaj _ (qaj _ e))) ?_
  exact M _ U
end
end L2
namespace L2
open PySem PySem.Spec PyProof.Rows
open PySem.AutoSeq1 (wpAny_loadPart')
section
variable {prog:qaR}{w:World}{A:qa2}{E:Value->qak->Prop}{s:qak}
theorem eG (b:s.heap.IsTupleIter c l i)
  (t:s.heap.IsTuple l items) (hx:items[i]?=some x)
  (p:∀ h',h'.IsTupleIter c l (i+1)->qc9 c s.heap h'->Q x { s with heap:=h' }) :
  wpAny (model prog w) A (qcD (.ref c)) Q E s :=by
 obtain⟨o,d,z,hd⟩:=id b;obtain⟨C,f,_,B,g⟩:=t
 refine qac (qbL b.typeIs qcZ
  (qbW qcZ b.typeIs qgp ?_ (qgi _)))
 show wpAny _ _ (field _ 0 >>= _) _ _ s;refine qac (qb8 d hd (x:=.ref l) U ?_);refine qac (qb8 d hd U ?_);refine qac (qcO f g ?_);simp only[qbf,hx];refine qac (qfj d hd (by simp) (qaq ⟨x,U,qaq (p _ ?_ (qds ..))⟩))
 exact⟨_,qeE _ d (qgU (qd3 hd _)),(qhM ..).trans z,by
  rw[qd3 hd];simp[qgB]⟩
theorem fN (n:A.handled=none)
  (b:s.heap.IsTupleIter c l i) (t:s.heap.IsTuple l items) (hx:items[i]?=none)
  (q:∀ h' e,qhd c s.heap h'->(∃ o,h'.get? e=some o/\o.cls=.type "StopIteration")->E (.ref e) { s with heap:=h' }) :
  wpAny (model prog w) A (qcD (.ref c)) Q E s :=by
 obtain⟨o,d,z,hd⟩:=id b;obtain⟨C,f,_,B,g⟩:=t
 refine qac (qbL b.typeIs qcZ
  (qbW qcZ b.typeIs qgp ?_ (qgi _)))
 show wpAny _ _ (field _ 0 >>= _) _ _ s;refine qac (qb8 d hd (x:=.ref l) U ?_);refine qac (qb8 d hd U ?_);refine qac (qcO f g ?_);simp only[qbf,hx];refine qac (qd1 (qac (qfj d hd (by simp) ?_)));refine qac ?_;refine qac (m:=qj5 _ _) (wpAny_of_eq (a:=Value.none) (by first|rfl|(rfl)) ?_)
 refine qcE ?_ (by size_fits);refine qac (wpAny_handled ?_)
 first|rw[n]|rw[n]
 refine qac (qaq (wpAny_throw ?_));exact q _ _ (((qds ..).extBut.push _).push _) ⟨_,qaw _ U,U⟩
theorem gW (n:A.handled=none) (c l) (u:l≠c) (items) :
  Draws prog w A c [c,l] items.size (λi v=>items[i]?=some v) (λi h=>h.IsTupleIter c l i/\h.IsTuple l items)  where
 live:=λ_ _ st=>let ⟨o,d,_⟩:=st.1;⟨o,d⟩
 frame:=λ_ _ _ st y=>⟨st.1.at λo e=>y c (by simp) o e,by
  obtain⟨o,e,r⟩:=st.2
  exact⟨o,y l (by simp) o e,r⟩⟩
 item:=λi s Q E hi st p=>by
  refine eG st.1 st.2 (x:=items[i]) (by simp[hi]) λh' j k=>?_;refine p _ h' s.toks (by simp[hi]) ⟨j,?_⟩ k;obtain⟨o,e,r⟩:=st.2;exact⟨o,(k.2 l u).trans e,r⟩
 done:=λs Q E st q=>fN n st.1 st.2 (by simp) q
end
theorem iD (l) (items) (n) (dct) (f) :
  Meets (qe7.«enumerate.__new__» ⟨[.type "enumerate",.ref l],[]⟩) (λ_ R s=>s.heap.get? l=some { cls:=.type "tuple",dict:=dct,data:=.seq items n,slots:=f }/\
   R (.ok (.ret (.ref (s.heap.push { cls:=.type "tuple_iterator",data:=.fields #[.ref l,.int 0 0] }).objs.size)))
    { s with heap:=(s.heap.push { cls:=.type "tuple_iterator",data:=.fields #[.ref l,.int 0 0] }).push { cls:=.type "enumerate",data:=.fields #[.none,.bool false,.ref s.heap.objs.size,qgB 0,.none,.none] } }) :=
 .of_wp λprog w A R s h=>by
  obtain⟨j,g,d,i,os⟩:=s;obtain⟨a,h⟩:=h;have e:=sub_enumerate;have b:Heap.IsTuple _ l items:=⟨_,a,U,n,U⟩
  wp_walk using wpAny_loadPart' a
  refine wpAny_stack_any λst=>qaq ?_;split
  ·rename_i c _ _ _ _ _
   cases (c==Value.type "enumerate")
   ·wp_walk using wpAny_loadPart' a,qcT b
    exact⟨_,U,h⟩
   ·wp_walk using wpAny_loadPart' a,qcT b
    exact⟨_,U,h⟩
  ·wp_walk using wpAny_loadPart' a,qcT b
   exact⟨_,U,h⟩
theorem gO {s:qak}(e:s.heap.IsTuple l items)
  (h:∀ h',IsEnum h' (s.heap.objs.size+1) s.heap.objs.size 0 .none->h'.IsTupleIter s.heap.objs.size l 0->h'.objs.size=s.heap.objs.size+2->
    (∀ b o,s.heap.get? b=some o->h'.get? b=some o)->Q (.ref (s.heap.objs.size+1)) { s with heap:=h' }) :
  wpAny (model prog w) A (call (.type "enumerate") [.ref l]) Q E s :=by
 obtain⟨⟨c,dct,dt,d⟩,g,f,n,hd⟩:=e;subst f hd;refine callType_new F.called_enumerate (by decide) (F.typeCall_enumerate_1 _) (F.newCall_enumerate_1 _) (λobj=>F.args_object_init_2 obj _) F.entry_enumerate_new
  (iD l items n dct d) ⟨g,?_⟩
 have hz:(s.heap.push { cls:=.type "tuple_iterator",data:=.fields #[.ref l,.int 0 0] }).objs.size=s.heap.objs.size+1:=qbs ..
 rw[hz];have a:=by
  have:=qaw (s.heap.push { cls:=.type "tuple_iterator",data:=.fields #[.ref l,.int 0 0] })
   (o:={ cls:=.type "enumerate",data:=.fields #[.none,.bool false,.ref s.heap.objs.size,qgB 0,.none,.none] }) U
  rw[hz]at this;exact this
 refine⟨⟨_,a,U⟩,h _ a ⟨_,qaj _ (qaw _ U),U,U⟩ (by rw[qbs,hz]) λb o x=>qaj _ (qaj _ x)⟩
section
variable {X:Cx}{a:List (Addr×Obj)}{l:St}{H:Hp}{s:qak}{h':Heap}{i:List Addr}
theorem je.ch (g:∀ b∈i,je X a H b):∀ b∈i,(b∈X.ex\/X.s₀.heap.objs.size<=b)/\b≠X.env.locals/\(∀ x c,X.env.cells.lookup x=some c->c≠b)/\∀ p∈X.pn++a,p.1≠b:=λb hb=>
 let ⟨_,f1,_,f3,f4,f5⟩:=g b hb
 ⟨f3,f1,f4,f5⟩
theorem Inv.turns (I:Inv X a l H s) (g:∀ b∈i,je X a H b) (k:∀ b o,b∉i->s.heap.get? b=some o->h'.get? b=some o):Inv X a l H { s with heap:=h',toks:=t' } :=by
 have f:∀ b u,H b=some u->b∉i:=λb u e z=>by have:=(g b z).1;rw[e]at this;cases this
 refine I.step (je.ch g) (λb o _ _ d e _=>k b o d e) (λb o _ _ d e _=>⟨o.slots,k b o d e⟩) (λ_ _ _ _ n=>n)
  (λb o d e=>⟨o,k b o d e⟩) (λ_ _ e=>e) (λ_ _ _ e=>e) (λb ps e=>⟨#[],by rw[e];simp⟩) (λm hm=>?_) (λb u e=>?_) I.bare
 ·obtain⟨o,es,t,w,r⟩:=hm
  exact⟨o,es,t,k _ o (λz=>(g _ z).2.1 U) w,r⟩
 ·refine (I.hok b u e).stay (λc v d q=>k c v ?_ q) (λ_ q=>q) λ_ _ q=>q
  rcases d with z|z
  ·rw[z];exact f b u e
  ·exact f c _ z
theorem Inv.turnsT {T:Addr}(I:Inv X a l H s) (g:∀ b∈i,je X a H b) (k:∀ b o,b∉i->s.heap.get? b=some o->h'.get? b=some o)
  (y:s.heap.objs.size<=T) (B:eR h' T j) (A:aI xs j.toList) (hz:xs.length<=qaG):Inv X a l (upd H T (.tup xs)) { s with heap:=h',toks:=t' } :=by
 have f:∀ b u,H b=some u->b∉i:=λb u e z=>by have:=(g b z).1;rw[e]at this;cases this
 have h:=I.hok.fresh y;refine I.step (je.ch g) (λb o _ _ d e _=>k b o d e) (λb o _ _ d e _=>⟨o.slots,k b o d e⟩) (λb o _ e n=>by rw[upd_ne ((λb o e=>qaH (qaO (qax e) y)) b o e)];exact n)
  (λb o d e=>⟨o,k b o d e⟩) (λb _ e=>by rw[upd_ne (aK e h)];exact e) (λb _ _ e=>by rw[upd_ne (aK e h)];exact e) (λb ps e=>⟨#[],by rw[upd_ne (aK e h),e];simp⟩) (λm hm=>?_) (λb u e=>?_) I.bare
 ·obtain⟨o,es,t,w,r⟩:=hm
  exact⟨o,es,t,k _ o (λz=>(g _ z).2.1 U) w,r⟩
 ·by_cases hb:b=T
  ·subst hb
   rw[upd_same]at e;cases e;refine⟨hz,j.toList,A,?_⟩;simpa using B
  ·rw[upd_ne hb]at e
   refine (I.hok b u e).stay (λc v d q=>k c v ?_ q) (λc q=>?_) λc z q=>?_
   ·rcases d with z|z
    ·rw[z];exact f b u e
    ·exact f c _ z
   all_goals first
    |(rw[upd_ne (aK q h)];exact q)
    |(exact z)
end
def Ite (S:Hp->List V->Prop):It:=
 ⟨λi H=>∃ xs x,S H xs/\xs[i]?=some x,λi H x H'=>∃ T v,(∀ xs,S H xs->xs[i]?=some v)/\H T=none/\x=.ref T/\H'=upd H T (.tup [.int i,v]),λi H=>∃ xs,S H xs/\xs.length=i⟩
theorem wK {K}(a f e) (j:e≠f) (J:a≠e) (F:a≠f) :
  vC P w K (.Tuple m k pos) (Ite λH xs=>SqL K H a xs) [e,f] e (λi h=>(∃ g,IsEnum h e f i g)/\h.IsListIter f a i)  where
 mem:=by simp
 obj:=λi h st b hb=>by
  rcases qav.mp hb with rfl|hb
  ·obtain⟨⟨g,q⟩,_⟩:=st
   exact⟨_,q,λv z=>by cases z⟩
  ·rw[qao.mp hb]
   obtain⟨_,o,e,c,d⟩:=st;exact⟨o,e,λv z=>by rw[d]at z;cases z⟩
 keep:=λi h h' st N=>⟨let ⟨g,q⟩:=st.1;⟨g,N e (by simp) _ q⟩,st.2.at λo q=>N f (by simp) o q⟩
 item:=by
  intro X S hw V Q i L s σ H E I M st hg;subst S hw V;obtain⟨xs,x,O,hx⟩:=hg;obtain⟨l,R,p,hz⟩:=I.list O;obtain⟨u,hu,ru⟩:=R.get hx;have W:=qe9 (qjB (prog:=X.prog) (w:=X.w) (A:=X.A.in1) (I.ok.hd Q) f a F l.toArray) e j (by simp[j,qbF J]) (by simp);have hi:=by
   simpa using ((qas.mp hu).1)
  obtain⟨⟨ol,G⟩,n⟩:=st;refine qhf (qjB (A:=X.A.in1) (I.ok.hd Q) f a F l.toArray) G ⟨n,p.isList⟩ hi j (by simp[j,qbF J]) λy h1 t hy ho hs' ht hsz hk=>⟨_,U,?_⟩;have hm:(λ_ (T) (h)=>(∃ x,IsEnumOut h e f _ x T)/\_/\T≠e/\T≠f) i s.heap.objs.size h1:=⟨⟨_,ho⟩,hs',qci (qax G),qci (let ⟨_,q,_⟩:=n;qax q)⟩;have N:∀ b o,b∉[e,f]->s.heap.get? b=some o->h1.get? b=some o:=λb o hb q=>hk b o (λz=>hb (by simp[z])) (λz=>hb (by simp[z])) q;generalize eT:s.heap.objs.size=T at ht ho hm ⊢;have hT:=qdb eT;have r:∃ tk,tk=t+1:=⟨_,U⟩;obtain⟨tk,r⟩:=r;rw[<-r];have ey:=by
   have D:=by simpa using hy
   rw[hu]at D;exact (qaP D).symm
  subst ey;refine W.go m k pos i T _ _ _ hm λh2 B C=>?_;have nT:=W.apart i T _ hm;refine⟨.ref T,_,?_,U,⟨T,x,λys hy=>by rw[I.list_inj hy O];exact hx,I.hok.fresh hT,U,U⟩,⟨B.1,B.2.1⟩,λb hb=>?_⟩
  ·exact (I.turnsT M (λb o hb q=>C b o hb (N b o hb q)) hT ⟨_,C T _ nT ht,U,⟨_,U⟩,U⟩ (.cons ⟨t,U⟩ (.cons ru .nil)) (by show 2<=qaG;decide))
  ·rw[upd_ne (show b≠T from λz=>nT (z ▸ hb))]
   exact (M b hb).1
 done:=by
  intro X S hw V Q i L s σ H E I M st hg;subst S hw V;obtain⟨xs,O,hx⟩:=hg;obtain⟨l,R,p,hz⟩:=I.list O;have hl:=R.length;have hx':l.toArray[i]?=none:=by simp;lia
  obtain⟨⟨g,Y⟩,hit⟩:=st
  -- the end at place i
  refine wpAny_pyNext_enum_end (I.ok.hd Q) Y hit p.isList hx' λh' eb=>⟨U,?_⟩;exact I.turns M λb o hb q=>eb b o (by simp at hb;exact hb.2) q
 self:=λ_ _ _ _ _ st h=>let ⟨⟨_,Y⟩,_⟩:=st;qew Y h
theorem wL {K}(a g e) (f:e≠g) (B:a≠e) (r:a≠g) :
  vC P w K (.Tuple m k pos) (Ite λH xs=>SqT K H a xs) [e,g] e (λi h=>(∃ l,IsEnum h e g i l)/\h.IsTupleIter g a i)  where
 mem:=by simp
 obj:=λi h st b hb=>by
  rcases qav.mp hb with rfl|hb
  ·obtain⟨⟨l,q⟩,_⟩:=st
   exact⟨_,q,λv z=>by cases z⟩
  ·rw[qao.mp hb]
   obtain⟨_,o,e,c,d⟩:=st;exact⟨o,e,λv z=>by rw[d]at z;cases z⟩
 keep:=λi h h' st C=>⟨let ⟨l,q⟩:=st.1;⟨l,C e (by simp) _ q⟩,st.2.at λo q=>C g (by simp) o q⟩
 item:=by
  intro X S hw Y Q i M s σ H E I N st hg;subst S hw Y;obtain⟨xs,x,O,hx⟩:=hg;obtain⟨j,R,p,hz⟩:=I.tuple O;obtain⟨u,hu,ru⟩:=R.get hx;have W:=qe9 (gW (prog:=X.prog) (w:=X.w) (A:=X.A.in1) (I.ok.hd Q) g a r j.toArray) e f (by simp[f,qbF B]) (by simp);have hi:=by
   simpa using ((qas.mp hu).1)
  obtain⟨⟨ol,L⟩,n⟩:=st;refine qhf (gW (A:=X.A.in1) (I.ok.hd Q) g a r j.toArray) L ⟨n,p⟩ hi f (by simp[f,qbF B]) λy h1 t hy ho hs' ht hsz hk=>⟨_,U,?_⟩;have hm:(λ_ (T) (h)=>(∃ x,IsEnumOut h e g _ x T)/\_/\T≠e/\T≠g) i s.heap.objs.size h1:=⟨⟨_,ho⟩,hs',qci (qax L),qci (let ⟨_,q,_⟩:=n;qax q)⟩;have C:∀ b o,b∉[e,g]->s.heap.get? b=some o->h1.get? b=some o:=λb o hb q=>hk b o (λz=>hb (by simp[z])) (λz=>hb (by simp[z])) q;generalize eT:s.heap.objs.size=T at ht ho hm ⊢;have hT:=qdb eT;have F:∃ V,V=t+1:=⟨_,U⟩;obtain⟨V,F⟩:=F;have ey:=by
   have J:=by simpa using hy
   rw[hu]at J;exact (qaP J).symm
  subst ey;refine W.go m k pos i T _ _ _ hm λh2 D G=>?_;have nT:=W.apart i T _ hm;refine⟨.ref T,_,?_,U,⟨T,x,λys hy=>by rw[I.tuple_inj hy O];exact hx,I.hok.fresh hT,U,U⟩,⟨D.1,D.2.1⟩,λb hb=>?_⟩
  ·exact (I.turnsT N (λb o hb q=>G b o hb (C b o hb q)) hT ⟨_,G T _ nT ht,U,⟨_,U⟩,U⟩ (.cons ⟨t,U⟩ (.cons ru .nil)) (by show 2<=qaG;decide))
  ·rw[upd_ne (show b≠T from λz=>nT (z ▸ hb))]
   exact (N b hb).1
 done:=by
  intro X S hw Y Q i M s σ H E I N st hg;subst S hw Y;obtain⟨xs,O,hx⟩:=hg;obtain⟨j,R,p,hz⟩:=I.tuple O;have hl:=R.length;have hi:i=j.toArray.size:=by simp;lia
  subst hi;refine (qe9 (gW (A:=X.A.in1) (I.ok.hd Q) g a r j.toArray) e f (by simp[f,qbF B]) (by simp)).done s _ _ ⟨st.1,st.2,p⟩ λh' V C=>⟨U,I.turns N C⟩
 self:=λ_ _ _ _ _ st h=>let ⟨⟨_,he⟩,_⟩:=st;qew he h
section
variable {X:Cx}
def En (K:qae) (M:TA):TI:=λG H R=>M G H λW H1=>∃ a,W=[.ref a]/\(∃ xs,SqL K H1 a xs)/\R (Ite λH xs=>SqL K H a xs) H1
theorem Az (hg:Gl X "enumerate") (hm:X.mg "enumerate" = none) (ha:PA X [a] M) (hs:qbB [a] X.env=[(false,eval a X.env)]:=by rfl) :
  PI X (.Tuple B k D) (.Call (.Name "enumerate" p) [a] [] pos) (En X.K M) :=by
 intro d s G H R I h;refine Call_ (jI I hg hm qj6 (qcd (thn (ha pos d s G H _ I h) λw s1 ⟨W,H1,I1,r1,q1⟩=>?_) hs U));obtain⟨l,e,⟨xs,L⟩,q⟩:=q1;subst e;cases r1 with
 |cons r m=>
  cases m;cases r;obtain⟨C,g,p',hz⟩:=I1.list L;refine call_enumerate_list p'.isList λh' T N Y J=>qew T ?_;have j:l<s1.heap.objs.size:=by obtain⟨_,_,e,_⟩:=p';exact qax e
  refine⟨_,_,_,_,H1,U,I1.kept J,wK l s1.heap.objs.size _ (qhS _) (qaH (qbi j)) (qaH j),⟨⟨_,T⟩,N⟩,λb hb=>?_,q⟩;have E:s1.heap.objs.size<=b:=by
   rcases qav.mp hb with e|hb
   ·rw[e];exact qcF _
   ·rw[qao.mp hb];exact qan _
  exact I1.fpOk E (I1.hok.fresh E)
def Eo (K:qae) (M:TA):TI:=λG H R=>M G H λW H1=>∃ a,W=[.ref a]/\(∃ xs,SqT K H1 a xs)/\R (Ite λH xs=>SqT K H a xs) H1
theorem AA (hg:Gl X "enumerate") (hm:X.mg "enumerate" = none) (ha:PA X [a] M) (hs:qbB [a] X.env=[(false,eval a X.env)]:=by rfl) :
  PI X (.Tuple B k D) (.Call (.Name "enumerate" p) [a] [] pos) (Eo X.K M) :=by
 intro d s G H R I h;refine Call_ (jI I hg hm qj6 (qcd (thn (ha pos d s G H _ I h) λw s1 ⟨W,H1,I1,r1,q1⟩=>?_) hs U));obtain⟨l,e,⟨xs,L⟩,q⟩:=q1;subst e;cases r1 with
 |cons r m=>
  cases m;cases r;obtain⟨C,g,p',hz⟩:=I1.tuple L;refine gO p' λh' T N Y J=>qew T ?_;have j:l<s1.heap.objs.size:=by obtain⟨_,e,_⟩:=p';exact qax e
  refine⟨_,_,_,_,H1,U,I1.kept J,wL l s1.heap.objs.size _ (qhS _) (qaH (qbi j)) (qaH j),⟨⟨_,T⟩,N⟩,λb hb=>?_,q⟩;have E:s1.heap.objs.size<=b:=by
   rcases qav.mp hb with e|hb
   ·rw[e];exact qcF _
   ·rw[qao.mp hb];exact qan _
  exact I1.fpOk E (I1.hok.fresh E)
theorem wP :∀ {w},aI (ns.map V.int) w->∃ xs,w.toArray=intItems xs/\xs.toList.map (·.1)=ns :=by
 induction ns with
 |nil=>intro w r;cases r;exact⟨#[],by simp[intItems],U⟩
 |cons n ns ih=>
  intro w r;cases r with
  |cons r m=>
   obtain⟨t,rfl⟩:=r;obtain⟨xs,e,e2⟩:=ih m;refine⟨#[(n,t)]++xs,?_,by simp[e2]⟩;have e':=congrArg qgM e;simp[intItems]at e' ⊢;exact e'
theorem zu:bh X (.builtin "sum") (λxs H Q=>X.calm=true/\∃ (a:Addr) (ns:List Int),xs=[.ref a]/\SqL X.K H a (ns.map V.int)/\Q (.int ns.sum) H):=by
 intro d s G H xs w Q I g h;obtain⟨hc,a,ns,rfl,L,q⟩:=h;cases g with
 |cons r m=>
  cases m;cases r;obtain⟨C,g,p,hz⟩:=I.list L;obtain⟨ps,e1,e2⟩:=wP g;have hl:=p.isList;rw[e1]at hl;refine sum_intListG (I.ok.hd hc) hl λh' tk t' J=>?_;refine⟨.int ns.sum,H,I.kept J,⟨t',?_⟩,q⟩;rw[preSum_eq,qcH (by simp),e2]
theorem zt:bh X (.builtin "all") (λxs H Q=>X.calm=true/\∃ (a:Addr) (bs:List Bool),xs=[.ref a]/\SqL X.K H a (bs.map V.bl)/\Q (.bl (bs.all id)) H):=by
 intro d s G H xs w Q I g h;obtain⟨hc,a,bs,rfl,L,q⟩:=h;cases g with
 |cons r m=>
  cases m;cases r;obtain⟨C,g,p,hz⟩:=I.list L;have j:a<s.heap.objs.size:=by obtain⟨_,_,e,_⟩:=p;exact qax e
  have S:=by have:=g.length;simpa using this.symm
  refine call_all_walk (qfZ p.isList ?_);refine⟨s.heap.objs.size,_,_,_,_,_,λi=>(bs[i]?).getD true,U,Walks.list (A:=X.A.in1) (I.ok.hd hc) s.heap.objs.size a (qaH j) C.toArray,⟨⟨_,qaw _ U,U,U⟩,p.isList.push _⟩,?_,λh' tk J=>?_⟩
  ·intro i v s' Q' E' hv hQ'
   have hv':=by simpa using hv
   have hi:=(qas.mp hv').1;obtain⟨b,hb⟩:∃ b,bs[i]?=some b:=⟨bs[i]'(by lia),by simp[show i<bs.length by lia]⟩
   have:(bs.map V.bl)[i]?=some (.bl b):=by rw[qaz,hb];rfl
   obtain⟨u,hu,ru⟩:=g.get this;rw[hv']at hu;cases hu;cases ru;have O:Q' ((bs[i]?).getD true) s':=hQ';rw[hb]at O;exact qev O
  ·refine⟨_,H,I.kept (λb o e=>J b o (λz=>absurd (qax e) (by rw[qao.mp z];exact qbb _)) (qaj _ e)),?_,q⟩
   congr 1
   have:∀ n,n=bs.length->((qai n).all λi=>(bs[i]?).getD true)=bs.all id:=by
    intro n hn;rw[qfX,qaU,qaU];constructor
    ·intro h b hb
     obtain⟨i,hi,e⟩:=qcv.mp hb
     have:=h i (qaE.mpr (by lia))
     simp[hi,e]at this;exact this
    ·intro h i hi
     have hi':=qaE.mp hi;have P:i<bs.length:=by lia
     simp[P];exact h _ (qbJ _)
   exact this _ (by simpa using S)
noncomputable def gw:V->PyData
 |.non=>.none
 |.bl b=>.bool b
 |.int i=>.int i
 |.str x=>.str x
 |_=>.none
def sK (c:List V):Str:=(PyData.tuple (c.map gw)).shown
def dE (y:V):Prop:=y=.non\/∃ i:Int,y=.int i/\0<=i/\i<1024
theorem vH:bh X (.builtin "repr") (λxs H Q=>∃ i,xs=[.int i]/\i.natAbs.log2<1920/\Q (.str (toString i)) H) :=by
 intro d s G H xs w Q I g h;obtain⟨i,rfl,hi,q⟩:=h;cases g with
 |cons r m=>
  cases m;obtain⟨t,rfl⟩:=r;exact call_repr_gives (qe8 s i t) F.slot_int_repr F.entry_int_repr (F.args_int_repr_1 _) (gives_int_repr i t hi) ⟨.str _,H,I.tok _,⟨_,U⟩,q⟩ (hx:=int_text_fits hi)
theorem iJ :∀ {c}{w},aI c w->(∀ y∈c,dE y)->ReadsAll h w (c.map gw) []
 |_,_,.nil,_=>.nil
 |_,_,.cons (a:=y) r m,f=>by
  have hr:=iJ (h:=h) m λz hz=>f z (qah _ hz);rcases f y qag with e|⟨i,e,_⟩
  ·subst e;cases r;exact .cons .none hr
  ·subst e;obtain⟨t,rfl⟩:=r;exact .cons (.int i t) hr
theorem yD {i:Int} (h0:0<=i) (h1:i<1024):((toString i):Str).length<=10 :=by
 obtain⟨n,rfl⟩:=qgL h0;have hn:n<2^10:=by lia
 have:=nat_repr_length_le (by decide) hn
 rw[qgF];exact this
theorem mh:∀ {c:List V},(∀ y∈c,dE y)->piled (qbN (c.map gw))<=12*c.length
 |[],_=>by simp[qbN,piled]
 |y::c,f=>by
  have ih:=mh λz hz=>f z (qah _ hz);rw[qat,qbN,qiy,qam]
  have:(gw y).shown.length<=10:=by
   rcases f y qag with e|⟨i,e,h0,h1⟩
   ·subst e;decide
   ·subst e;exact yD h0 h1
  lia
theorem iM:∀ {c:List V},(∀ y∈c,dE y)->qdR (c.map gw)=true
 |[],_=>rfl
 |y::c,f=>by
  rw[qat,qdR,(iM λz hz=>f z (qah _ hz)),qir];rcases f y qag with e|⟨i,e,h0,h1⟩
  ·subst e;rfl
  ·subst e
   refine decide_eq_true ?_;have hn0:i.natAbs<1024:=by lia
   by_cases hz:i.natAbs=0
   ·rw[hz];decide
   ·exact (qhq hz).mpr (qaO (show i.natAbs<2^10 from hn0) (qba (by decide) (by decide)))
theorem kQ:∀ {c:List V},(∀ y∈c,dE y)->qd2 (c.map gw)=false
 |[],_=>rfl
 |y::c,f=>by
  rw[qat,qd2,(kQ λz hz=>f z (qah _ hz))];rcases f y qag with e|⟨i,e,_⟩<;>subst e<;>rfl
theorem tX:∀ {c:List V},(∀ y∈c,dE y)->(PyData.tuple (c.map gw)).depth<=2:=by
 intro c f
 have:∀ {c:List V},(∀ y∈c,dE y)->qda (c.map gw)<=1:=by
  intro c
  induction c with
  |nil=>intro _;simp[qda]
  |cons y c ih=>
   intro f
   have:=ih λz hz=>f z (qah _ hz)
   rw[qat,qda]
   have:(gw y).depth<=1:=by
    rcases f y qag with e|⟨i,e,_⟩<;>subst e<;>simp[gw,qdp]
   lia
 have:=this f
 simp only[qdp];lia
theorem vI (hg:X.A.guards=some []) (hu:X.A.units+64<cLine):bh X (.builtin "repr") (λxs H Q=>∃ a c,xs=[.ref a]/\SqT X.K H a c/\(∀ y∈c,dE y)/\c.length<=1000/\Q (.str (sK c)) H):=by
 intro d s G H xs w Q I g h;obtain⟨a,c,rfl,L,f,hl,q⟩:=h;cases g with
 |cons r m=>
  cases m;cases r;obtain⟨C,g,p,hz⟩:=I.tuple L;obtain⟨o,ho,hc,n,hd⟩:=p;refine qj1 (.tuple ho hc hd (by simpa using iJ g f)) (iM f) (qg5 (kQ f)) hg (by have:=tX f;lia) (λ_ _ e=>e) (λh' u tk J=>⟨.str _,H,I.kept J,⟨u,U⟩,q⟩) ?_;show (qhG _).length<=qaG;have hs:=mh f;have hz2:(Str.join ", " (qbN (c.map gw))).length<=12*c.length:=by
   cases e:qbN _ with
   |nil=>exact qbr _
   |cons x r=>
    have:=qjK (qbN _) (by rw[e];simp)
    lia
  unfold qhG;rw[qdv,qdv];have h2:((if (qbN (c.map gw)).length==1 then ",)" else ")"):Str).length<=2:=by split<;>decide
  have Y:qaG=16777216:=rfl;have h1':(("(" : Str)).length=1:=rfl
  lia
end
noncomputable def dH (k:Nat) (js:List Nat) (a:St):St:=qaJ k none++js.map λj=>(a[j]?).getD none
noncomputable def uD (a:Scope) (ns:List (Str×qbZ)) (N Nc:List Str) (k:Nat) (js:List Nat):Bool:=
 decide ((a.names.map (·.1)).Nodup)&&decide Nc.Nodup&&decide (Nc.length=k+js.length) &&
 (a.names.all λx=>x.2 != .free||ns.lookup x.1==some .cell||ns.lookup x.1==some .free) &&
 ((qai js.length).all λi=>match Nc[k+i]?,js[i]? with|some x,some j=>N[j]?==some x&&a.names.lookup x==some .free|_,_=>false)
theorem qK (ns) (N Nc) (k) (js) (hns:X.env.scope.names=ns) (hN:X.N=N) (p:a.kind=.function) (h:uD a ns N Nc k js=true):cS X a Nc (dH k js) :=by
 unfold uD at h;simp only[qa0,decide_eq_true_eq]at h;obtain⟨⟨⟨⟨m,n⟩,f⟩,l⟩,r⟩:=h;refine⟨p,m,n,λx hx q=>?_,λe _=>?_,λe _ i x v g b=>?_⟩
 ·have:=qaU.mp l x hx
  rw[q]at this;simp only[qfW,beq_iff_eq,bne_self_eq_false,qbC,false_or]at this;unfold qk9;rw[hns];exact this
 ·unfold dH
  rw[qau,qcQ,qaf,f]
 ·unfold dH at b
  by_cases hi:i<k
  ·rw[qaC (by simpa using hi),qdg,iFP hi]at b
   cases b
  ·rw[qaK (by simpa using hi),qcQ,qaz]at b
   cases ej:js[i - k]? with
   |none=>rw[ej]at b;cases b
   |some j=>
    rw[ej]at b;have d:=(qas.mp ej).1
    have:=qaU.mp r _ (qaE.mpr d)
    rw[show k+_=i by lia,g,ej]at this;simp only[qa0,beq_iff_eq]at this;refine⟨j,by rw[hN];exact this.1,?_,this.2⟩;have c:(e[j]?).getD none=some v:=qaP b;cases eq:e[j]? with
    |none=>rw[eq]at c;cases c
    |some o=>rw[eq]at c;rw[show o=some v from c]
noncomputable def wv (names ns:List (Str×qbZ)):List (Str×qbZ):=names.map λx=>if (x.2==NameKind.free&&ns.lookup x.1==some .cell) then (x.1,.cell) else x
theorem ja (d:X.env.scope.kind=.function) (hns:X.env.scope.names=ns) :
  (lcX X a b Nc s H C c).env.scope.names=wv a.names ns :=by
 show (a.names.map _)=_
 congr 1
 funext x
 obtain⟨n,k⟩:=x;show (if _=true then (n,NameKind.cell) else (n,k))=_;unfold qk9;rw[d,hns,show (ScopeKind.function==ScopeKind.function)=true from U,qir]
section
variable {a tl:St}{tt:TT}{te:TE}{H:Hp}{Q:VK}
end
section
variable {X:Cx}
theorem CG:OpR X (qbG .Mult) (rI qgu λi j=>.int (i*j)):=opI λ_ _ _ _ _ _ _ a q=>mul_int q a
end
theorem aQ.new (h:H p=none) (o):aQ H (upd H p o) :=λb u q=>by rw[upd_ne (aK q h)];exact q
theorem yk (hg:X.A.guards=some []) (c:X.A.units+64 < cLine):bh X (.builtin "repr") (λxs H Q=>(∃ i,xs=[.int i]/\i.natAbs.log2 < 1920/\Q (.str (toString i)) H)\/
  (∃ a b,xs=[.ref a]/\SqT X.K H a b/\(∀ y∈b,dE y)/\b.length<=1000/\Q (.str (sK b)) H)) :=bh.or vH (vI hg c)
theorem jc (h:n<=1000):n<=qaG :=qeL (y4 h)
theorem Bo (l) (items) (n) (dct) (a) (u) :
  Meets (qe7.«tuple.__mul__» ⟨[.ref l,.int 1 u],[]⟩) (λ_ R s=>s.heap.get? l=some { cls:=.type "tuple",dict:=dct,data:=.seq items n,slots:=a }/\R (.ok (.ret (.ref l))) s) :=
 .of_wp λprog w A R s h=>by
  obtain⟨b,h⟩:=h
  wp_walk using wpAny_loadPart' b
  exact⟨_,U,h⟩
theorem za (l) (items) (n) (dct) (e) (x) (u) (i:2<=x) (g:x<1000) (b:items.isEmpty=false) (hz:items.size<=1000)
  (c:((qaJ x.toNat items).foldl (λx1 x2=>x1++x2) #[]).size<=qaG) :
  Meets (qe7.«tuple.__mul__» ⟨[.ref l,.int x u],[]⟩) (λ_ R s=>s.heap.get? l=some { cls:=.type "tuple",dict:=dct,data:=.seq items n,slots:=e }/\
   R (.ok (.ret (.ref s.heap.objs.size))) { s with heap:=s.heap.push { cls:=.type "tuple",data:=.seq ((qaJ x.toNat items).foldl (λx1 x2=>x1++x2) #[]) } }) :=
 .of_wp λprog w A R s h=>by
  obtain⟨a,h⟩:=h;have c1:(x < -(2^63)||x>=2^63)=false:=by simp;lia
  have c2:(items.isEmpty||x==1)=false:=by rw[b];simp;lia
  have c3:(x<=0||items.isEmpty)=false:=by rw[b];simp;lia
  have d:(items.size:Int)*x<=1000000:=by
   have j:(items.size:Int)*x<=1000*x:=qfB (by lia) (by lia);lia
  have f:¬ ((items.size:Int)*x > (2^63 - 1) / 8):=by lia
  have k:qiK ((items.size:Int)*x)=false:=by
   exact decide_eq_false (by have:(qaG:Nat)=16777216:=rfl
                             lia)
  refine qeX (decide_eq_false (by rw[c1];exact qa1)) ?_
  wp_walk using wpAny_loadPart' a
  refine qeX (decide_eq_false (by rw[c2];exact qa1)) ?_;refine qeX (decide_eq_false (by rw[c3];exact qa1)) ?_;refine qeX (decide_eq_false f) ?_
  wp_walk using wpAny_loadPart' a
  exact⟨_,U,h⟩
theorem zb (l) (items) (n) (dct) (a) (u) (c:items.isEmpty=false) :
  Meets (qe7.«tuple.__mul__» ⟨[.ref l,.int 0 u],[]⟩) (λ_ R s=>s.heap.get? l=some { cls:=.type "tuple",dict:=dct,data:=.seq items n,slots:=a }/\R (.ok (.ret (.ref s.heap.objs.size))) { s with heap:=s.heap.push { cls:=.type "tuple",data:=.seq #[] } }) :=
 .of_wp λprog w A R s h=>by
  obtain⟨b,h⟩:=h
  wp_walk using wpAny_loadPart' b
  exact⟨_,U,h⟩
theorem lK:fillsNumberSlot (.type "tuple") "mul" = pure false:=
 PySem.fillsNumberSlot_seq qeF.lookup (by decide +kernel) F.slot_tuple_rmul.lookup (by decide +kernel)
theorem sH:seqRepeat? (.type "tuple")=pure (some (.builtin "tuple.__mul__")):=by
 rfl
theorem n6 (a) (t) (l) (items) (n) (dct) (b) :
  Meets (qe7.«int.__rmul__» ⟨[.int a t,.ref l],[]⟩) (λ_ R s=>s.heap.get? l=some { cls:=.type "tuple",dict:=dct,data:=.seq items n,slots:=b }/\R (.ok (.ret Value.notImplemented)) s) :=
 .of_wp λprog w A R s h=>by obtain⟨c,h⟩:=h;wp_walk using wpAny_loadPart' c;exact⟨_,U,h⟩
section
variable {X:Cx}
def Hc (K:qae):R2:=λx y H Q=>∃ l k xs,x=.ref l/\y=.int k/\SqT K H l xs/\xs≠[]/\xs.length<=1000/\0<=k/\k<1000/\(k=1->Q (.ref l) H)/\
 (k≠1->∀ p,H p=none->Q (.ref p) (upd H p (.tup (qaJ k.toNat xs).flatten)))
theorem CI:OpR X (qbG .Mult) (Hc X.K):=by
 intro C s O H x y v u Q I F D h;obtain⟨l,k,xs,rfl,rfl,J,i,w,N,E,G,A⟩:=h;cases F;obtain⟨t,rfl⟩:=D;obtain⟨a,z,p,hz⟩:=I.tuple J;obtain⟨⟨c,dct,dt,j⟩,e,L,n,hd⟩:=p;subst L hd;have b:=z.length;refine qgR (by decide) ⟨_,e,U⟩ (λs'=>qe8 s' k t) lK qiH qeR sH qio.lookup
  (qcr qeR (qe8 s k t) qiq (qh8 _ _) (n6 k t l a.toArray n dct j) ⟨e,U,⟨_,e,U⟩,?_⟩)
 by_cases r:k=1
 ·subst r
  exact qcr qeF ⟨_,e,U⟩ qfO (qfv _ _) (Bo l a.toArray n dct j t) ⟨e,.ref l,H,I,U,G U⟩
 ·have B:=by
   exact (lv a k.toNat [])
  have d:(qaJ k.toNat xs).flatten.length<=qaG:=by
   rw[si]
   have:k.toNat*xs.length<=1000*1000:=qc0 (by lia) w
   have M:qaG=16777216:=rfl;lia
  have f:(qaJ k.toNat a).flatten.length<=qaG:=by
   rw[si]at d ⊢;rw[<-b];exact d
  have g:a.toArray.isEmpty=false:=by
   cases a with
   |nil=>cases xs with
    |nil=>exact absurd U i
    |cons _ _=>cases b
   |cons _ _=>rfl
  by_cases m:k=0
  ·subst m
   refine qcr qeF ⟨_,e,U⟩ qfO (qfv _ _) (zb l a.toArray n dct j t g) ⟨e,?_⟩;exact⟨.ref _,_,I.laid (o:=.tup []) (λ_ _ q=>qaj _ q) (qan _) ⟨qbr _,_,.nil,⟨_,qaw _ U,U,⟨0,U⟩,U⟩⟩,U,A r _ I.fresh⟩
  refine qcr qeF ⟨_,e,U⟩ qfO (qfv _ _) (za l a.toArray n dct j k t (by lia) E ?_ (by rw[qaB];lia) (by rw[B];exact f)) ⟨e,?_⟩
  ·cases a with
   |nil=>cases xs with
    |nil=>exact absurd U i
    |cons _ _=>cases b
   |cons _ _=>rfl
  ·rw[B]
   refine⟨.ref _,_,I.laid (o:=.tup (qaJ k.toNat xs).flatten) (λ_ _ q=>qaj _ q) (qan _) ⟨d,_,z.rep k.toNat,⟨_,qaw _ U,U,⟨0,U⟩,U⟩⟩,U,A r _ I.fresh⟩
end
section
variable {X:Cx}{K:qae}
theorem Gy (g:X.calm=true:=by rfl) (c:X.K=K:=by rfl):bh X (.builtin "sum") (λxs H Q=>∃ (a:Addr) (ns:List Int),xs=[.ref a]/\SqL K H a (ns.map V.int)/\Q (.int ns.sum) H):=by
 subst c;intro b s j H xs f Q I e h;exact zu b s j H xs f Q I e ⟨g,h⟩
theorem Gx (g:X.calm=true:=by rfl) (c:X.K=K:=by rfl):bh X (.builtin "all") (λxs H Q=>∃ (a:Addr) (bs:List Bool),xs=[.ref a]/\SqL K H a (bs.map V.bl)/\Q (.bl (bs.all id)) H):=by
 subst c;intro b s j H xs f Q I e h;exact zt b s j H xs f Q I e ⟨g,h⟩
theorem zW (l:bj k X.A) (c:X.K=K:=by rfl):bh X (.builtin "repr") (λxs H Q=>(∃ i,xs=[.int i]/\i.natAbs.log2 < 1920/\Q (.str (toString i)) H)\/
  (∃ a d,xs=[.ref a]/\SqT K H a d/\(∀ y∈d,dE y)/\d.length<=1000/\Q (.str (sK d)) H)) :=by subst c;exact yk l.gd l.units
end
section
variable {X:Cx}
end
theorem ef (h:j<n):ixN n (j)=some j :=by
 unfold ixN;rw[iFP (by lia),iFP (by lia),qbf]
section
variable {X:Cx}{e:Expr}{ty:TE}{p1 g j h c a b:Pos}{k i f d:Nat}
end
section
variable {prog:qaR}{w:World}{A:qa2}{E:Value->qak->Prop}{s:qak}
end
section
variable {X:Cx}
theorem Cc:bh X (.type "range") (λxs H Q=>∃ j,xs=[.int j]/\∀ p,H p=none->Q (.ref p) (upd H p (.rng 0 j))) :=by
 intro a s e H xs d Q I b h;obtain⟨j,rfl,q⟩:=h;cases b with
 |cons r c=>
  cases c;obtain⟨t,rfl⟩:=r;exact call_range_1 ⟨.ref _,_,I.laid (o:=.rng 0 j) (λ_ _ q=>qaj _ q) (qan _) ⟨_,_,_,qaw _ U⟩,U,q _ I.fresh⟩
end
section
variable {prog:qaR}{w:World}{A:qa2}{E:Value->qak->Prop}{s:qak}
end
section
variable {X:Cx}{e:Expr}{te:TE}{p1 b a pos:Pos}{j:Nat}
end
theorem aI.at (r:aI xs b):∀ (j:Nat) (h) ,∃ h',aN xs[j] b[j] :=by
 induction r with
 |nil=>intro j h;exact absurd h (qca j)
 |cons a t c=>
  intro j h;cases j with
  |zero=>exact⟨Nat.zero_lt_succ _,a⟩
  |succ j=>
   obtain⟨e,d⟩:=c j _;exact⟨Nat.succ_lt_succ e,d⟩
theorem mZ (e) (n):(qai (n+1)).all e=(e 0&&(qai n).all λj=>e (j+1)) :=by
 rw[qdn,qbw,qeC];rfl
section
variable {X:Cx}{K:qae}{c:List (Addr×Obj)}{e:St}{H:Hp}{s:qak}{A:qa2}{a b:Addr}{xs d:List V}
end
section
variable {X:Cx}{pos p1 b:Pos}{c a:Nat}
end
section
variable {K:qae}{H:Hp}
end
section
variable {X:Cx}{K:qae}
end
end L2
namespace HT
open PySem PySem.Spec PyProof.Rows L2
section
variable {prog:qaR}{w:World}{A:qa2}{E:Value->qak->Prop}{s:qak}
theorem getItem_tuple_all {lo }(a:IsTup s.heap t items) (i:s.heap.IsSliceOf f g e .none) (j:qgg g lo) (l:qgg e hi)
  (hw:sIx items.size 0 lo=0/\sIx items.size items.size hi=items.size) (h:Q (.ref t) s):wpAny (model prog w) A (qe1 (.ref t) (.ref f)) Q E s :=by
 obtain⟨os,c,d,k⟩:=id i;unfold qe1
 try with_reducible refine qct ?_
 refine qac (qit a.typeIs (by decide) ?_)
 refine qac (qbL a.typeIs qbE
  (qbW qbE a.typeIs qh2 ?_ (qig _ _)))
 show wpAny _ _ (qeW _ >>= _) _ _ s;refine qac (tupleItemsOf_ a ?_);refine qac (qhE ⟨os,c,d⟩ ?_);refine qac (fQ i j l ?_);have b:(((sIx items.size 0 lo):Int)==0&&(1:Int)==1&&(sIx items.size items.size hi - sIx items.size 0 lo)==items.size)=true:=by
  rw[hw.1,hw.2]
  simp
 show wpAny _ _ (if _=true then _ else _) _ _ s;rw[iFP b];refine qac (qac (qhE a.typeIs (qaq ?_)))
 first
  |exact qac (qd1 (qaq ⟨_,rfl,qaq h⟩))
  |exact qac _
  |exact qac _
  |exact qac _
end
end HT
namespace L2
open PySem PySem.Spec PyProof.Rows
def He (K:qae):V->Option Int->Option Int->Hp->VK->Prop:=λx lo hi H Q=>∃ a xs,x=.ref a/\SqT K H a xs/\
 ((¬ (HT.sIx xs.length 0 lo=0/\HT.sIx xs.length xs.length hi=xs.length)/\∀ p,H p=none->Q (.ref p) (upd H p (.tup (vK xs lo hi))))\/
   ((HT.sIx xs.length 0 lo=0/\HT.sIx xs.length xs.length hi=xs.length)/\Q (.ref a) H))
theorem EH {K} (l:X.K=K:=by rfl):SlR X (He K) :=by
 subst l;intro b s o H x v n k lo hi m Q I i g f j h;obtain⟨a,xs,rfl,hx,h⟩:=h;rcases h with⟨hw,q⟩|⟨hw,q⟩
 ·exact FA b s o H _ v n k lo hi m Q I i g f j ⟨a,xs,U,hx,hw,q⟩
 ·cases i
  obtain⟨d,r,e,hz⟩:=I.tuple hx;have c:d.toArray.size=xs.length:=by exact r.length.symm
  refine⟨"tuple",_,qbE.lookup,e.typeIs,?_⟩
  exact HT.getItem_tuple_all e g f j (by rw[c];exact hw) ⟨.ref a,H,I,U,q⟩
section
variable {X:Cx}{f:Scope}{Nc:List Str}{emb:St->St}{elt iter tg:Expr}{Y:List Expr}{pos:Pos}{wi:TI}{g:TG}{tt:TT}{te:TE}
theorem AK { spos} (hN0:X.N.Nodup) (hi0:X.N[i0]?=some x0) (hx0:Loc X.env.scope x0) (S:cS X f Nc emb) (hc:X.calm=true) (hi:PI X tg iter wi)
  (hg:∀ j s H C A,PG (lcX X f j Nc s H C A) tg g) (ht:∀ j s H C A,PTs (lcX X f j Nc s H C A) Y tt) (he:∀ j s H C A,PE (lcX X f j Nc s H C A) elt te)
  (hsw:qcj (.ListComp elt [⟨tg,iter,Y,0⟩] f pos) (some (.Name x0 py)) spos.line X.env=pure true:=by rfl)
  (hf0:X.fn x0=true\/X.env.scope.names.lookup x0=some .local:=by first|exact .inl U|exact .inr U|assumption)
  (hs:∀ x,qbt iter X.env x=pure x:=by intro _;rfl):PS X (.Assign [.Name x0 py] (.ListComp elt [⟨tg,iter,Y,0⟩] f pos) spos) (FI (tLc emb wi g tt te) (lY i0)) :=by
 intro B s σ H DD I h;rw[exec_Assign_Name_used _ _ _ _ hsw];refine qac (qeG (qac ?_));refine qac (qcp (qg1 U hs (jk (S.clos I.ok)) S.kind (λx hx hl=>dA S.nd (by rw[<-hl];exact hx)) ?_) (λ_ s' hq=>qaq (qaq hq)) λ_ _ e=>e);refine thn (hi B s σ H _ I h) λv s1 h1=>thn h1 λitv V h2=>?_;obtain⟨it,A,tn,J,H2,e,I2,T,st2,f2,W,⟨m0,w0⟩,turn⟩:=h2;subst e;refine qcE (kP ?_);rw[qbs ..];generalize hD:V.heap.objs.size=D;generalize hlo:({ cls:=.type "list",dict:=none,data:=.seq ([]:List Value).toArray }:Obj)=lo
 have fplt:∀ b∈A,b<V.heap.objs.size:=λb hb=>by obtain⟨o,e,_⟩:=T.obj _ _ st2 b hb;exact qax e
 have I3:=uE (lo:=lo) S I2 f2 (λb hb=>by obtain⟨o,e,_⟩:=T.obj _ _ st2 b hb;exact⟨o,e⟩) (by rw[<-hlo];intro v z;cases z) (by rw[<-hlo];rfl);rw[hD]at I3;generalize hcells:qcu (D+2) f.names _=j at I3;generalize d:lcX X f j Nc V H2 (D+1) A=X' at I3;have L:∀ {H':Hp}{ps:List (Addr×Obj)},(∀ b∈A,H' b=none)->(∀ p∈ps,p.1=D)->∀ b∈A,je X' ps H' b:=λ{H' ps} hn M b hb=>by
  have ok:=I3.ok;refine⟨hn b hb,?_,?_,.inl (by rw[<-d];exact hb),?_,λp Q=>?_⟩
  ·exact (ok.exf b (by rw[<-d];exact hb)).1
  ·exact ok.exfs b (by rw[<-d];exact hb)
  ·exact (ok.exf b (by rw[<-d];exact hb)).2
  ·have hp':p∈([])++ps:=by rw[<-d]at Q;exact Q
   rw[(M p (by simpa using hp')),<-hD];exact qci (fplt b hb)
 have Dex:D∈X'.ex\/X'.s₀.heap.objs.size<=D:=.inr (by rw[<-d,<-hD];exact qan _);have Dloc:D≠X'.env.locals:=by rw[<-d];exact qaH (qb2 _)
 have pD:=I3.pin (D,lo) (by rw[<-d];exact qay _ qag);have Dcell:∀ x c,X'.env.cells.lookup x=some c->c≠D:=λx c hc' e=>by
  obtain⟨v,o,ho,hd⟩:=I3.cell x c hc';rw[e,pD.1]at ho;cases ho;exact pD.2.2.2.2 v hd
 -- the P
 have P:∀ s3:qak,s3={ V with heap:=qeZ ((V.heap.push lo).push { cls:=.type "dict",data:=.dict #[] }) f.names }->
   qfo (model X.prog X.w) X.A (.compLoop (.ListComp elt [⟨tg,iter,Y,0⟩] f pos) 0 (.ref it) (.ref D) (qhl f j (D+1) X.env))
    (compPost (model X.prog X.w) X.A X.xe (some (qgb (.Name x0 py) X.env)) (λ_ s'=>SP X B DD .next s') (.ref D) (D+1)) s3:=by
  rintro s3 rfl
  refine cZ (λn s'=>∃ i K l k H',Inv X' [(D,{ cls:=.type "list",data:=.seq l.toArray k })] (emb σ) H' s'/\aI K l/\tn i s'.heap/\(∀ b∈A,H' b=none)/\K.length<=qaG/\W i n K H') ?_ m0
   ⟨0,[],[],0,H2,?_,.nil,?_,λb hb=>(f2 b hb).1,qbr _,w0⟩
  ·rintro n s4 ⟨i,K,l,k,H4,I4,rv,st4,fr4,hlen,w4⟩
   have M:∀ p∈[(D,({ cls:=.type "list",data:=.seq l.toArray k }:Obj))],p.1=D:=λp Q=>by
    have:=qao.mp Q
    rw[this]
   rcases turn i n K H4 w4 with⟨stop,qn⟩|⟨go,hlt,N,hN,step⟩
   ·-- the end
    have TD:=T.done X' (by rw[<-d];rfl) (by rw[<-d];rfl) (by rw[<-d];rfl) (by rw[<-d];exact hc) i _ s4 (emb σ) H4 (λ_ _=>False) I4 (L fr4 M) st4 stop;rw[show X'.A=X.A by rw[<-d];rfl]at TD;refine thn TD λr s5 ⟨hr,I5⟩=>?_;subst hr;obtain⟨m5,hn5,_⟩:=id I5.loc;have eC:X'.env.locals=D+1:=by rw[<-d];rfl
    rw[eC]at hn5
    suffices inv5:∀ h',qc9 (D+1) s5.heap h'->Inv X B σ (upd H4 D (.lst K)) { s5 with heap:=h' } by
     have I5X:Inv X B σ (upd H4 D (.lst K)) s5:=inv5 s5.heap ⟨U,λ_ _=>rfl⟩;have hD4':H4 D=none:=(I5.pin (D,{ cls:=.type "list",data:=.seq l.toArray k }) (by rw[<-d];exact qay _ qag)).2.1
     have hC4:upd H4 D (.lst K) (D+1)=none:=by
      have:=I5.free
      rw[eC]at this;rw[upd_ne (qci (qb2 D))];exact this
     have fpC:∀ b∈[D+1],je X B (upd H4 D (.lst K)) b:=λb hb=>by
      have e:=qao.mp hb;subst e;exact I2.fpOk (by rw[hD];exact qcF D) hC4
     obtain⟨oC,esC,epC,getC,datC,relC⟩:=id hn5;have I5p:=I5X.pinned fpC λb hb=>by
      have e:=qao.mp hb;subst e;exact⟨oC,getC,λv z=>by rw[datC]at z;cases z⟩
     refine qiu (iQ I5p hN0 hi0 hx0 (v:=.ref D) U (λs6 I6=>?_) hf0);have pC:=(I6.pin (D+1,oC) (qay _ (qay _ (cp qag getC)))).1;refine⟨m5,⟨oC,esC,epC,pC,datC,relC⟩,λh' F=>?_⟩;have I6u:=I6.unpinned;exact⟨_,_,I6u.turns (t':=s6.toks) fpC (λb o hb e=>(F.2 b (λz=>hb (by rw[z];exact qag))).trans e),qn D hD4'⟩
    intro h' F;have pD5:=I5.pin (D,{ cls:=.type "list",data:=.seq l.toArray k }) (by rw[<-d];exact qay _ qag)
    have neC:∀ b u,H4 b=some u->b≠D+1:=λb u e z=>by
     have:=I5.free
     rw[eC,<-z,e]at this;cases this
    have hD4:H4 D=none:=pD5.2.1;have un:=I5.base;have E:Un (frs X.stack) A H2 H4 V.heap s5.heap:=by rw[<-d]at un;exact un
    have w:∀ b o,V.heap.get? b=some o->b≠D/\b≠D+1:=λb o e=>by
     have q:=qax e;rw[hD]at q;exact⟨qaH q,qaH (qbi q)⟩
    have h2D:H2 D=none:=by rw[<-hD];exact I2.fresh
    have hok':HOk X.prog X.w H4 h':=λb u e=>by
     have ob:cb X.prog X.w H4 s5.heap b u:=by have:=I5.hok b u e;rw[<-d]at this;exact this
     refine ob.stay (λc v hcv q=>(F.2 c ?_).trans q) (λ_ q=>q) λ_ _ q=>q;rcases hcv with z|z
     ·rw[z];exact neC b u e
     ·exact neC c _ z
    have hokD:HOk X.prog X.w (upd H4 D (.lst K)) h':=λb u e=>by
     by_cases hb:b=D
     ·subst hb
      rw[upd_same]at e;cases e;exact⟨hlen,l,k,rv,(F.2 b (qaH (qb2 _))).trans pD5.1⟩
     ·rw[upd_ne hb]at e
      refine (hok' b u e).stay (λ_ _ _ q=>q) (λc q=>?_) λc z q=>?_
      all_goals first
       |(rw[upd_ne (aK q hD4)];exact q)
       |(rw[upd_ne (aK z hD4)];exact z)
    refine I2.call' (s':={ s5 with heap:=h' }) (ch:=A) ?_ ⟨λb o e nb hb hx=>?_,λb o e nb hb hx=>?_,λb o e nb hx=>?_,λb o e hx=>?_,λb xs e=>?_,λb o u e=>?_,λb ps e=>?_⟩ hokD I5.bare (λb hb=>?_)
    ·have:=I5.os
     rw[<-d]at this;exact this
    ·exact (F.2 b (w b o e).2).trans (E.keep b o e nb hb hx)
    ·obtain⟨sl,q⟩:=E.slot b o e nb hb hx
     exact⟨sl,(F.2 b (w b o e).2).trans q⟩
    ·rw[upd_ne (w b o e).1]
     exact E.free b o e nb hx
    ·obtain⟨o',q⟩:=E.there b o e hx
     exact⟨o',(F.2 b (w b o e).2).trans q⟩
    ·rw[upd_ne (aK e h2D)]
     exact E.tups b xs e
    ·rw[upd_ne (aK e h2D)]
     exact E.frzs b o u e
    ·obtain⟨m,q⟩:=E.tbls b ps e
     exact⟨m,by rw[upd_ne (aK e h2D)];exact q⟩
    ·obtain⟨q0,q1,q2,q3,q4,q5⟩:=f2 b hb
     exact⟨q3,q1,q4,q5⟩
   ·-- a turn
    have hA:X'.A=X.A:=by rw[<-d];rfl
    have hP:X'.prog=X.prog:=by rw[<-d];rfl
    have hw:X'.w=X.w:=by rw[<-d];rfl
    have hE:X'.env=qhl f j (D+1) X.env:=by rw[<-d];rfl
    have hxe:X'.xe=λ_ _=>False:=by rw[<-d];rfl
    have TI':=T.item X' hP hw (by rw[<-d];rfl) (by rw[<-d];exact hc) i _ s4 (emb σ) H4 (λ_ _=>False) I4 (L fr4 M) st4 go;rw[hA]at TI';refine thn TI' λr s5 ⟨u,hr,h5⟩=>?_;subst hr;refine thn h5 λ_ s6 ⟨x,H6,I6,r6,y6,st6,fr6⟩=>?_;have I6':=I6.pinned (L fr6 M) (T.obj _ _ st6);have G:=hg j V H2 (D+1) A;have TT':=ht j V H2 (D+1) A;have EE:=he j V H2 (D+1) A;rw[d]at G TT' EE;have G':=G _ s6 (emb σ) H6 x u _ I6' r6 (step x H6 y6);rw[hA,hP,hw,hE,hxe]at G';refine thn G' λ_ s7 ⟨σ7,H7,I7,sb7,q7⟩=>?_;have T':=TT' _ s7 σ7 H7 _ I7 q7;rw[hA,hP,hw,hE,hxe]at T';refine thn T' λok s8 ⟨H8,I8,q8⟩=>?_
    -- what is pinned
    have t:∀ {σ9:St}{H9:Hp}{R:qak},Inv X' ([(D,({ cls:=.type "list",data:=.seq l.toArray k }:Obj))]++ph A s6.heap) σ9 H9 R->tn (i+1) R.heap/\∀ b∈A,H9 b=none:=λ{σ9 H9 R} I9=>
     ⟨T.keep _ _ _ st6 λb hb o e=>(I9.pin (b,o) (qay _ (qay _ (cp hb e)))).1,λb hb=>by
      obtain⟨o,e,_⟩:=T.obj _ _ st6 b hb
      exact (I9.pin (b,o) (qay _ (qay _ (cp hb e)))).2.1⟩
    cases ok with
    |false=>
     rw[iFN (by decide)]at q8;rw[iFN (by decide)];obtain⟨m',hm,w8⟩:=hN _ _ q8;exact⟨m',hm,i+1,K,l,k,H8,I8.unpinned.weak sb7.1 sb7.2,rv,(t I8).1,(t I8).2,hlen,w8⟩
    |true=>
     rw[iFP U]at q8;rw[iFP U];have E':=EE _ s8 σ7 H8 _ I8 q8;rw[hA,hP,hw,hE,hxe]at E';refine thn E' λy R ⟨v9,H9,I9,r9,n9⟩=>?_;obtain⟨m',hm,w9⟩:=hN _ _ n9;have O:=I9.pin (D,{ cls:=.type "list",data:=.seq l.toArray k }) (qay _ (qbd _ qag))
     have hl:=rv.length;have I9n:Inv X' [] σ7 H9 R:=I9.pins_of λp Q=>nomatch Q
     refine qcr qfu ⟨_,O.1,U⟩ qfh (qe5 _ _) (qfe D l.toArray k y (by rw[qaB];lia)) ⟨O.1,?_⟩;have up:∃ k':Nat,(R.heap.update D (qcA λxs=>xs.push y)).get? D=some { cls:=.type "list",data:=.seq (l++[y]).toArray k' }:=by
      have q:=qe4 O.1 (λxs:Array Value=>xs.push y);simp only[qhz]at q;exact⟨_,q⟩
     obtain⟨k',up⟩:=up;have hoth:∀ b o,b≠D->R.heap.get? b=some o->(R.heap.update D (qcA λxs=>xs.push y)).get? b=some o:=λb o hb e=>(qdo R.heap _ (qbF hb)).trans e;have I10:=I9n.turned (t':=R.toks) hoth O.2.1 Dloc Dex Dcell (λp Q=>absurd (show p∈([]:List (Addr×Obj)) by rw[<-d]at Q;exact Q) (by simp));refine⟨m',hm,i+1,K++[v9],l++[y],k',H9,(I10.weak sb7.1 sb7.2).pins_of (λp Q=>?_),rv.append (.cons r9 .nil),T.keep _ _ _ (t I9).1 (λb hb o e=>hoth b o (by rw[<-hD];exact qaH (fplt b hb)) e),(t I9).2,?_,w9⟩
     ·have:=qao.mp Q
      subst this;exact⟨up,O.2.1,Dloc,(pD.2.2.2.1),λv z=>by cases z⟩
     ·rw[qau,qcm]
      lia
  ·rw[<-hlo.symm]
   exact I3
  ·exact T.keep _ _ _ st2 λb hb o e=>qcW _ _ b o (qaj _ (qaj _ e))
 refine qhw ?_ ?_
 ·exact P _ U
 ·refine T.self X.A 0 _ _ _ (T.keep _ _ _ st2 λb hb o e=>qcW _ _ b o (qaj _ (qaj _ e))) ?_
  exact P _ U
end
noncomputable def ay:Expr->Bool
 |.Starred _ _=>false
 |_=>true
theorem aP (h:ay e=true):qbB (e::es) env=(false,eval e env)::qbB es env :=by
 cases e<;>first|(cases h;done)|rfl
theorem bg :∀ {es},es.all ay=true->(qe2 pos (qbB es env)).any (·.1)=false
 |[],_=>by simp[qbB,qe2]
 |e::es,h=>by
  rw[qbw,qa0]at h;rw[aP h.1]
  have:=bg (pos:=pos) (env:=env) h.2
  unfold qe2 at this ⊢;rw[qat,qcg,this];rfl
theorem pL (h:es.all ay=true) (a:es.length < 30):((qe2 pos (qbB es env)).all (λx=>!x.1) && (qif pos (qgD [] env)).all (λx=>x.1.isSome)
   && decide (es.length+([]:List qh5).length+(if ([]:List qh5).isEmpty then 0 else 1)<30))=true :=by
 have c:(qe2 pos (qbB es env)).all (λx=>!x.1)=true:=by
  have:=bg (pos:=pos) (env:=env) h
  rw[qaU];intro x hx;rw[qfm]at this;simpa using this x hx
 have b:(qif pos (qgD [] env)).all (λx=>x.1.isSome)=true:=by simp[qgD,qif]
 rw[c,b];simpa using a
theorem iO (h:ay e=true):qbB [e] env=[(false,eval e env)] :=by rw[aP h];rfl
theorem Bg (h:ay e=true) (b:ay a=true):qbB [e,a] env=[(false,eval e env),(false,eval a env)] :=by rw[aP h,iO b]
noncomputable def AE:Expr->Bool
 |.UnaryOp .Not _ _=>false
 |.BoolOp _ _ _=>false
 |.IfExp _ _ _ _=>false
 |.Compare _ _ _ _=>false
 |_=>true
theorem zc (h:AE a=true):∀ whole,PySem.isTrue a env whole=(do let v <-whole;qjD a.pos;qf1 [v] (truthy v)) :=by
 intro whole;cases a with
 |UnaryOp op x p=>cases op<;>first|(cases h;done)|rfl
 |BoolOp _ _ _=>cases h
 |IfExp _ _ _ _=>cases h
 |Compare _ _ _ _=>cases h
 |_=>rfl
theorem m4 (h:ay t=true):qbX (t::ts) env=(false,qgb t env)::qbX ts env :=by
 cases t<;>first|(cases h;done)|rfl
theorem mF :∀ {ts},ts.all ay=true->(qbX ts env).length=ts.length
 |[],_=>by simp[qbX]
 |t::ts,h=>by
  rw[qbw,qa0]at h;rw[m4 h.1,qam,mF h.2,qam]
theorem jS :∀ {ts},ts.all ay=true->(qbX ts env).findIdx? (·.1)=none
 |[],_=>by simp[qbX]
 |t::ts,h=>by
  rw[qbw,qa0]at h;rw[m4 h.1,List.findIdx?_cons,jS h.2];rfl
theorem jT (h:ay t=true):(qbX (t::ts) env).map (·.2)=qgb t env::(qbX ts env).map (·.2) :=by rw[m4 h];rfl
theorem jU (h:ay t=true):(qbX [t] env).map (·.2)=[qgb t env] :=by rw[jT h];simp[qbX]
noncomputable def lM:Expr->Bool
 |.Slice _ _ _ _=>false
 |_=>true
theorem mG (h:lM i=true) (v):qgb (.Subscript o i pos) env v=(do
   let ov <-qf1 [v] (eval o env)
   let iv <-qf1 [v,ov] (eval i env)
   qjD pos
   qf1 [v,ov,iv] (qjF ov iv v)
   release [v,ov,iv] []) :=by
 cases i<;>first|(cases h;done)|rfl
theorem oq (h:lM i=true):wQ i :=by
 intro o j;cases i<;>first|(cases h;done)|rfl
inductive D where
 |non|bl (b:Bool)|int (i:Int)|str (x:Str)|ty (n:String)|dct|scr (ns:List Int)|tup (ds:List D)|lst (ds:List D)|ob (ns:List Str) (ds:List D)
 deriving Inhabited
inductive W where
 |d (x:D)|h (n:Nat)
 deriving Inhabited
inductive C where
 |l (ds:List D)|n (ws:List W)|m (kvs:List (List Int×D))|k (kvs:List (Int×D))|o (fs:List (Str×W))
 deriving Inhabited
abbrev Sto:=List C
noncomputable def lg (st:Sto) (n:Nat):Option (List D):=match st[n]? with
 |some (.l ds)=>some ds
 |_=>none
noncomputable def gF (l:List Int):List Key:=l.map Sum.inl
abbrev Ev:=List (Option W)
def KLs (K:qae) (a:Addr) (xs:List V):Prop:=
 ∃ (o:Obj) (b:Array Value) (n:Nat),K.lookup a=some o/\o.cls=.type "list"/\o.dict=none/\o.data=.seq b n/\b.size<=qaG/\aI xs b.toList
section
variable (K:qae) (H:Hp) (φ:List Addr)
mutual
def Rl:D->V->Prop
 |.non,v=>v=.non
 |.bl b,v=>v=.bl b
 |.int i,v=>v=.int i
 |.str x,v=>v=.str x
 |.ty n,v=>v=.ty n
 |.dct,v=>∃ a,v=.ref a/\a∉φ/\((∃ d,H a=some (.dK d))\/∃ d,H a=some (.dT d))
 |.scr ns,v=>∃ a,v=.ref a/\((∃ o,H a=some (.frz o (.lst (ns.map V.int))))\/KLs K a (ns.map V.int))
 |.tup ds,v=>∃ a vs,v=.ref a/\H a=some (.tup vs)/\Rls ds vs
 |.lst ds,v=>∃ a vs,v=.ref a/\a∉φ/\Rd H a (.lst vs)/\Rls ds vs
 |.ob ns ds,v=>∃ a Cl dx fs vs,v=.ref a/\a∉φ/\H a=some (.ins Cl dx fs)/\fs=ns.zip vs/\ns.length=vs.length/\5<ns.length/\Cls K Cl/\(∀ f∈ns,cj K Cl f)/\Rls ds vs
def Rls:List D->List V->Prop
 |[],vs=>vs=[]
 |d::ds,vs=>∃ v r,vs=v::r/\Rl d v/\Rls ds r
end
def Rw:W->V->Prop
 |.d x,v=>Rl K H φ x v
 |.h n,v=>∃ a,φ[n]?=some a/\v=.ref a
def Rws:List W->List V->Prop
 |[],vs=>vs=[]
 |d::ds,vs=>∃ v r,vs=v::r/\Rw K H φ d v/\Rws ds r
def Rkv:List (List Int×D)->List (List Key×V)->Prop
 |[],vs=>vs=[]
 |(k,d)::ds,vs=>∃ v r,vs=(gF k,v)::r/\Rl K H φ d v/\Rkv ds r
def Rkk:List (Int×D)->List (Key×V)->Prop
 |[],vs=>vs=[]
 |(k,d)::ds,vs=>∃ v r,vs=(Sum.inl k,v)::r/\Rl K H φ d v/\Rkk ds r
def Rfs:List (Str×W)->List (Str×V)->Prop
 |[],vs=>vs=[]
 |(k,d)::ds,vs=>∃ v r,vs=(k,v)::r/\Rw K H φ d v/\Rfs ds r
def Rc (k:Nat) (a:Addr):C->Prop
 |.l ds=>∃ vs,H a=some (.lst vs)/\Rls K H φ ds vs
 |.n ws=>∃ vs,H a=some (.lst vs)/\Rws K H φ ws vs/\∀ m,W.h m∈ws->m<k
 |.m e=>∃ vs,H a=some (.dT vs)/\Rkv K H φ e vs
 |.k e=>∃ vs,H a=some (.dK vs)/\Rkk K H φ e vs
 |.o fs=>∃ Cl dx vs,H a=some (.ins Cl dx vs)/\Rfs K H φ fs vs/\(∀ m,W.h m∈fs.map (·.2)->m<k)/\Cls K Cl/\∀ p∈fs,cj K Cl p.1
structure Sr (st:Sto):Prop where
 nd:φ.Nodup
 len:φ.length=st.length
 at_:∀ (n:Nat) a c,φ[n]?=some a->st[n]?=some c->Rc K H φ n a c
structure Er (env:Ev) (σ:St):Prop where
 len:env.length=σ.length
 at_:∀ (i:Nat) w,env[i]?=some (some w)->∃ v,σ[i]?=some (some v)/\Rw K H φ w v
end
structure Fw (φ φ':List Addr) (H H':Hp):Prop where
 ext:∃ ψ,φ'=φ++ψ/\∀ a∈ψ,H a=none
 keep:∀ b o,b∉φ->H b=some o->H' b=some o
 there:∀ b o,H b=some o->∃ o',H' b=some o'
section
variable {K:qae}{H H1 H2 H':Hp}{φ t A φ':List Addr}{st R:Sto}
theorem Fw.refl (φ) (H):Fw φ φ H H :=⟨⟨[],by simp,by simp⟩,λ_ _ _ h=>h,λ_ o h=>⟨o,h⟩⟩
theorem Fw.trans (a:Fw φ t H H1) (b:Fw t A H1 H2):Fw φ A H H2:=by
 obtain⟨ψ,rfl,g⟩:=a.ext;obtain⟨Q,rfl,j⟩:=b.ext;refine⟨⟨_,by rw[qbl],λc B=>?_⟩,λc o B h=>?_,λc o h=>?_⟩
 ·rcases qaV.mp B with z|z
  ·exact g c z
  ·cases q:H c with
   |none=>rfl
   |some o=>
    obtain⟨I,N⟩:=a.there c o q;rw[j c z]at N;cases N
 ·refine b.keep c o (λz=>?_) (a.keep c o B h)
  rcases qaV.mp z with z|z
  ·exact B z
  ·rw[g c z]at h;cases h
 ·obtain⟨I,q⟩:=a.there c o h
  exact b.there c I q
theorem Fw.same (s:aQ H H'):Fw φ φ H H':=⟨⟨[],by simp,by simp⟩,λb o _ h=>s b o h,λb o h=>⟨o,s b o h⟩⟩
theorem Fw.new (F:H p=none):Fw φ φ H (upd H p o) :=.same (aQ.new F o)
theorem Fw.get (f:Fw φ φ' H H') {n:Nat}(h:φ[n]?=some a):φ'[n]?=some a :=by
 obtain⟨ψ,rfl,_⟩:=f.ext;rw[qaC (qas.mp h).1];exact h
theorem Fw.nin (f:Fw φ φ' H H') (h:a∉φ) (q:H a=some o):a∉φ' :=by
 obtain⟨ψ,rfl,e⟩:=f.ext;intro z;rcases qaV.mp z with z|z
 ·exact h z
 ·rw[e a z]at q;cases q
noncomputable def GJ:HO->Bool
 |.lst _=>true
 |.dT _=>true
 |.dK _=>true
 |.ins _ _ _=>true
 |_=>false
theorem Rc.ob (h:Rc K H φ k a c):∃ o,H a=some o/\GJ o=true :=by
 cases c with
 |l ds=>obtain⟨vs,q,_⟩:=h;exact⟨_,q,U⟩
 |n ds=>obtain⟨vs,q,_⟩:=h;exact⟨_,q,U⟩
 |m ds=>obtain⟨vs,q,_⟩:=h;exact⟨_,q,U⟩
 |k ds=>obtain⟨vs,q,_⟩:=h;exact⟨_,q,U⟩
 |o ds=>obtain⟨_,_,vs,q,_⟩:=h;exact⟨_,q,U⟩
theorem Sr.lst (S:Sr K H φ st) (h:a∈φ):∃ o,H a=some o/\GJ o=true :=by
 obtain⟨n,hn,e⟩:=qcv.mp h;have P:n<st.length:=by rw[<-S.len];exact hn
 exact (S.at_ n a st[n] (by rw[qal hn,e]) (by rw[qal P])).ob
theorem sj (h:lg st n=some ds):st[n]?=some (.l ds) :=by
 unfold lg at h;split at h
 ·rename_i q;cases h;exact q
 ·cases h
theorem Sr.atl (S:Sr K H φ st) (n) (a) (ds) (g:φ[n]?=some a) (j:lg st n=some ds):∃ vs,H a=some (.lst vs)/\Rls K H φ ds vs :=S.at_ n a _ g (sj j)
theorem Sr.nin (S:Sr K H φ st) (h:H a=none):a∉φ :=λz=>by
 obtain⟨vs,q,_⟩:=S.lst z;rw[q]at h;cases h
theorem Rd.nin (S:Sr K H φ st) (h:Rd H a (.tup vs)):a∉φ :=λz=>by
 obtain⟨ws,q,qm⟩:=S.lst z;rcases h with h|⟨o,h⟩<;>(rw[q]at h;cases h;cases qm)
theorem Rd.fw (f:Fw φ φ' H H') (hn:a∉φ) (h:Rd H a u):Rd H' a u :=by
 rcases h with h|⟨o,h⟩
 ·exact .inl (f.keep _ _ hn h)
 ·exact .inr ⟨o,f.keep _ _ hn h⟩
theorem SqT.fw (S:Sr K H φ st) (f:Fw φ φ' H H') (h:SqT K H a vs):SqT K H' a vs :=by
 rcases h with h|h
 ·exact .inl (f.keep _ _ (Rd.nin S (.inl h)) h)
 ·exact .inr h
theorem Rd.some (h:Rd H a u):∃ o,H a=some o :=by
 rcases h with h|⟨o,h⟩
 ·exact⟨_,h⟩
 ·exact⟨_,h⟩
mutual
theorem Rl.fw (S:Sr K H φ st) (f:Fw φ φ' H H'):∀ {d:D}{v:V},Rl K H φ d v->Rl K H' φ' d v
 |.non,_,h=>h
 |.bl _,_,h=>h
 |.int _,_,h=>h
 |.str _,_,h=>h
 |.ty _,_,h=>h
 |.dct,_,h=>by
  obtain⟨a,rfl,hn,h⟩:=h;rcases h with⟨d,h⟩|⟨d,h⟩
  ·exact⟨a,U,f.nin hn h,.inl ⟨d,f.keep _ _ hn h⟩⟩
  ·exact⟨a,U,f.nin hn h,.inr ⟨d,f.keep _ _ hn h⟩⟩
 |.scr ns,_,h=>by
  obtain⟨a,rfl,h⟩:=h;refine⟨a,U,?_⟩;rcases h with⟨o,h⟩|h
  ·refine .inl ⟨o,f.keep _ _ (λz=>?_) h⟩
   obtain⟨ws,q,qm⟩:=S.lst z;rw[q]at h;cases h;cases qm
  ·exact .inr h
 |.tup ds,_,h=>by
  obtain⟨a,vs,rfl,h1,h2⟩:=h;exact⟨a,vs,U,f.keep _ _ (Rd.nin S (.inl h1)) h1,Rls.fw S f h2⟩
 |.lst ds,_,h=>by
  obtain⟨a,vs,rfl,h0,h1,h2⟩:=h;obtain⟨o,e⟩:=h1.some;exact⟨a,vs,U,f.nin h0 e,h1.fw f h0,Rls.fw S f h2⟩
 |.ob ns ds,_,h=>by
  obtain⟨a,Cl,dx,fs,vs,rfl,h0,h1,h2,h3,h4,h5,h7,h6⟩:=h;exact⟨a,Cl,dx,fs,vs,U,f.nin h0 h1,f.keep _ _ h0 h1,h2,h3,h4,h5,h7,Rls.fw S f h6⟩
theorem Rls.fw (S:Sr K H φ st) (f:Fw φ φ' H H'):∀ {ds:List D}{vs:List V},Rls K H φ ds vs->Rls K H' φ' ds vs
 |[],_,h=>h
 |d::ds,_,h=>by
  obtain⟨v,r,rfl,h1,h2⟩:=h;exact⟨v,r,U,Rl.fw S f h1,Rls.fw S f h2⟩
end
theorem Rw.fw (S:Sr K H φ st) (f:Fw φ φ' H H') (h:Rw K H φ w v):Rw K H' φ' w v :=by
 cases w with
 |d x=>exact Rl.fw S f h
 |h n=>obtain⟨a,e,rfl⟩:=h;exact⟨a,f.get e,U⟩
theorem Rws.fw (S:Sr K H φ st) (f:Fw φ φ' H H'):∀ {ws:List W}{vs:List V},Rws K H φ ws vs->Rws K H' φ' ws vs
 |[],_,h=>h
 |d::ds,_,h=>by
  obtain⟨v,r,rfl,h1,h2⟩:=h;exact⟨v,r,U,h1.fw S f,Rws.fw S f h2⟩
theorem Er.fw (S:Sr K H φ st) (f:Fw φ φ' H H') (h:Er K H φ env M):Er K H' φ' env M :=
 ⟨h.len,λi w e=>let ⟨v,g,r⟩:=h.at_ i w e;⟨v,g,r.fw S f⟩⟩
theorem Rkv.fw (S:Sr K H φ st) (f:Fw φ φ' H H'):∀ {ds:List (List Int×D)}{vs:List (List Key×V)},Rkv K H φ ds vs->Rkv K H' φ' ds vs
 |[],_,h=>h
 |(k,d)::ds,_,h=>by
  obtain⟨v,r,rfl,h1,h2⟩:=h;exact⟨v,r,U,Rl.fw S f h1,Rkv.fw S f h2⟩
theorem Rkk.fw (S:Sr K H φ st) (f:Fw φ φ' H H'):∀ {ds:List (Int×D)}{vs:List (Key×V)},Rkk K H φ ds vs->Rkk K H' φ' ds vs
 |[],_,h=>h
 |(k,d)::ds,_,h=>by
  obtain⟨v,r,rfl,h1,h2⟩:=h;exact⟨v,r,U,Rl.fw S f h1,Rkk.fw S f h2⟩
theorem Rfs.fw (S:Sr K H φ st) (f:Fw φ φ' H H'):∀ {ds:List (Str×W)}{vs:List (Str×V)},Rfs K H φ ds vs->Rfs K H' φ' ds vs
 |[],_,h=>h
 |(k,d)::ds,_,h=>by
  obtain⟨v,r,rfl,h1,h2⟩:=h;exact⟨v,r,U,h1.fw S f,Rfs.fw S f h2⟩
theorem Rc.fw (S:Sr K H φ st) (f:Fw φ φ' H H') (e:∀ o,H a=some o->H' a=some o) (h:Rc K H φ k a c):Rc K H' φ' k a c :=by
 cases c with
 |l ds=>obtain⟨vs,q,r⟩:=h;exact⟨vs,e _ q,r.fw S f⟩
 |n ds=>obtain⟨vs,q,r,b⟩:=h;exact⟨vs,e _ q,r.fw S f,b⟩
 |m ds=>obtain⟨vs,q,r⟩:=h;exact⟨vs,e _ q,r.fw S f⟩
 |k ds=>obtain⟨vs,q,r⟩:=h;exact⟨vs,e _ q,r.fw S f⟩
 |o ds=>obtain⟨Cl,dx,vs,q,r,b⟩:=h;exact⟨Cl,dx,vs,e _ q,r.fw S f,b⟩
theorem Sr.same (S:Sr K H φ st) (s:aQ H H'):Sr K H' φ st:=
 ⟨S.nd,S.len,λn a c g j=>(S.at_ n a c g j).fw S (Fw.same s) λo h=>s _ _ h⟩
theorem Sr.new (S:Sr K H φ st) (F:H p=none):Sr K (upd H p o) φ st :=S.same (aQ.new F o)
theorem Rls.length:∀ {ds:List D}{vs:List V},Rls K H φ ds vs->ds.length=vs.length
 |[],_,h=>by cases h;rfl
 |d::ds,_,h=>by
  obtain⟨v,r,rfl,h1,h2⟩:=h;rw[qam,qam,Rls.length h2]
theorem Rws.length:∀ {ds:List W}{vs:List V},Rws K H φ ds vs->ds.length=vs.length
 |[],_,h=>by cases h;rfl
 |d::ds,_,h=>by
  obtain⟨v,r,rfl,h1,h2⟩:=h;rw[qam,qam,Rws.length h2]
theorem Rls.append:∀ {ds es:List D}{vs L:List V},Rls K H φ ds vs->Rls K H φ es L->Rls K H φ (ds++es) (vs++L)
 |[],_,_,_,h,h'=>by cases h;exact h'
 |d::ds,_,_,_,h,h'=>by
  obtain⟨v,r,rfl,h1,h2⟩:=h;exact⟨v,_,U,h1,Rls.append h2 h'⟩
theorem Rls.get:∀ {ds:List D}{vs:List V},Rls K H φ ds vs->∀ {i:Nat}{d:D},ds[i]?=some d->∃ v,vs[i]?=some v/\Rl K H φ d v
 |[],_,h,i,d,e=>by simp at e
 |d::ds,_,h,i,e,q=>by
  obtain⟨v,r,rfl,h1,h2⟩:=h;cases i with
  |zero=>simp at q;subst q;exact⟨v,U,h1⟩
  |succ i=>simpa using Rls.get h2 (by simpa using q)
theorem Rls.take:∀ {ds:List D}{vs:List V} (n:Nat),Rls K H φ ds vs->Rls K H φ (ds.take n) (vs.take n)
 |_,_,0,_=>by exact U
 |[],_,n+1,h=>by cases h;exact U
 |d::ds,_,n+1,h=>by
  obtain⟨v,r,rfl,h1,h2⟩:=h;exact⟨v,_,U,h1,Rls.take n h2⟩
theorem Rls.drop:∀ {ds:List D}{vs:List V} (n:Nat),Rls K H φ ds vs->Rls K H φ (ds.drop n) (vs.drop n)
 |_,_,0,h=>h
 |[],_,n+1,h=>by cases h;exact U
 |d::ds,_,n+1,h=>by
  obtain⟨v,r,rfl,h1,h2⟩:=h;exact Rls.drop n h2
theorem Rls.set:∀ {ds:List D}{vs:List V} (n:Nat) {d:D}{v:V},Rls K H φ ds vs->Rl K H φ d v->Rls K H φ (ds.set n d) (vs.set n v)
 |[],_,_,_,_,h,_=>by cases h;exact U
 |e::ds,_,0,d,v,h,hd=>by
  obtain⟨u,r,rfl,h1,h2⟩:=h;exact⟨v,r,U,hd,h2⟩
 |e::ds,_,n+1,d,v,h,hd=>by
  obtain⟨u,r,rfl,h1,h2⟩:=h;exact⟨u,_,U,h1,Rls.set n h2 hd⟩
theorem Rls.rep (h:Rls K H φ ds vs):∀ k,Rls K H φ (qaJ k ds).flatten (qaJ k vs).flatten
 |0=>rfl
 |k+1=>by exact h.append (Rls.rep h k)
theorem Rls.ints:∀ {ns:List Int}{vs},Rls K H φ (ns.map D.int) vs->vs=ns.map V.int
 |[],_,h=>h
 |n::ns,_,h=>by
  obtain⟨v,r,rfl,h1,h2⟩:=h;rw[h1,Rls.ints h2];rfl
theorem Rls.bools:∀ {ns:List Bool}{vs},Rls K H φ (ns.map D.bl) vs->vs=ns.map V.bl
 |[],_,h=>h
 |n::ns,_,h=>by
  obtain⟨v,r,rfl,h1,h2⟩:=h;rw[h1,Rls.bools h2];rfl
theorem Rls.of_ints:∀ (ns:List Int),Rls K H φ (ns.map D.int) (ns.map V.int)
 |[]=>rfl
 |n::ns=>⟨_,_,U,U,Rls.of_ints ns⟩
theorem Rl.less {ψ:List Addr}:∀ {d:D}{v:V},Rl K H (φ++ψ) d v->Rl K H φ d v:=by
 intro d v;refine (?_:∀ v,Rl K H _ d v->Rl K H φ d v) v;refine D.rec (motive_2:=λds=>∀ vs,Rls K H (φ++ψ) ds vs->Rls K H φ ds vs) ?_ ?_ ?_ ?_ ?_ ?_ ?_ ?_ ?_ ?_ ?_ ?_ d
 ·exact λv h=>h
 ·exact λb v h=>h
 ·exact λb v h=>h
 ·exact λb v h=>h
 ·exact λb v h=>h
 ·rintro v ⟨a,e,hn,h⟩;exact⟨a,e,λz=>hn (qbd _ z),h⟩
 ·exact λns v h=>h
 ·rintro ds y v ⟨a,vs,rfl,h1,h2⟩;exact⟨a,vs,U,h1,y vs h2⟩
 ·rintro ds y v ⟨a,vs,rfl,h0,h1,h2⟩;exact⟨a,vs,U,λz=>h0 (qbd _ z),h1,y vs h2⟩
 ·rintro ns ds y v ⟨a,Cl,dx,fs,vs,rfl,h0,h1,h2,h3,h4,h5,h7,h6⟩;exact⟨a,Cl,dx,fs,vs,U,λz=>h0 (qbd _ z),h1,h2,h3,h4,h5,h7,y vs h6⟩
 ·exact λvs h=>h
 ·rintro d ds G E vs ⟨v,r,rfl,h1,h2⟩;exact⟨v,r,U,G v h1,E r h2⟩
theorem Rls.less {ψ:List Addr}:∀ {ds:List D}{vs:List V},Rls K H (φ++ψ) ds vs->Rls K H φ ds vs
 |[],_,h=>h
 |d::ds,_,h=>by
  obtain⟨v,r,rfl,h1,h2⟩:=h;exact⟨v,r,U,Rl.less h1,Rls.less h2⟩
theorem Rkv.less {ψ:List Addr}:∀ {ds:List (List Int×D)}{vs:List (List Key×V)},Rkv K H (φ++ψ) ds vs->Rkv K H φ ds vs
 |[],_,h=>h
 |(k,d)::ds,_,h=>by
  obtain⟨v,r,rfl,h1,h2⟩:=h;exact⟨v,r,U,Rl.less h1,Rkv.less h2⟩
theorem Rkk.less {ψ:List Addr}:∀ {ds:List (Int×D)}{vs:List (Key×V)},Rkk K H (φ++ψ) ds vs->Rkk K H φ ds vs
 |[],_,h=>h
 |(k,d)::ds,_,h=>by
  obtain⟨v,r,rfl,h1,h2⟩:=h;exact⟨v,r,U,Rl.less h1,Rkk.less h2⟩
theorem Rws.less :∀ {ds}{vs},(∀ m,W.h m∈ds->m<φ.length)->Rws K H (φ++ψ) ds vs->Rws K H φ ds vs
 |[],_,_,h=>h
 |d::ds,_,hm,h=>by
  obtain⟨v,r,rfl,h1,h2⟩:=h;refine⟨v,r,U,?_,Rws.less (λm z=>hm m (qah _ z)) h2⟩;cases d with
  |d x=>exact Rl.less h1
  |h m=>
   obtain⟨a,e,rfl⟩:=h1;rw[qaC (hm m qag)]at e;exact⟨a,e,U⟩
theorem Rfs.less {ψ:List Addr}:∀ {ds:List (Str×W)}{vs:List (Str×V)},(∀ m,W.h m∈ds.map (·.2)->m<φ.length)->Rfs K H (φ++ψ) ds vs->Rfs K H φ ds vs
 |[],_,_,h=>h
 |(k,d)::ds,_,hm,h=>by
  obtain⟨v,r,rfl,h1,h2⟩:=h;refine⟨v,r,U,?_,Rfs.less (λm z=>hm m (qah _ z)) h2⟩;cases d with
  |d x=>exact Rl.less h1
  |h m=>
   obtain⟨a,e,rfl⟩:=h1;rw[qaC (hm m qag)]at e;exact⟨a,e,U⟩
theorem Rc.less (J:k<φ.length) (h:Rc K H (φ++ψ) k a c):Rc K H φ k a c :=by
 cases c with
 |l ds=>obtain⟨vs,q,r⟩:=h;exact⟨vs,q,r.less⟩
 |n ds=>obtain⟨vs,q,r,b⟩:=h;exact⟨vs,q,r.less λm z=>qd5 (b m z) J,b⟩
 |m ds=>obtain⟨vs,q,r⟩:=h;exact⟨vs,q,r.less⟩
 |k ds=>obtain⟨vs,q,r⟩:=h;exact⟨vs,q,r.less⟩
 |o ds=>obtain⟨Cl,dx,vs,q,r,b,c⟩:=h;exact⟨Cl,dx,vs,q,r.less λm z=>qd5 (b m z) J,b,c⟩
theorem Sr.less (S:Sr K H (φ++ψ) st):Sr K H φ (st.take φ.length) :=by
 have O:=S.len;rw[qau]at O;refine⟨(qcy.mp S.nd).1,by rw[qdB];lia,λn a ds g j=>?_⟩;have hn:=(qas.mp g).1;rw[qef hn]at j;exact (S.at_ n a ds (by rw[qaC hn];exact g) j).less hn
end
abbrev Ef:=Ev->Sto->Option (W×Sto)
abbrev Af:=Ev->Sto->Option (List W×Sto)
abbrev Tf:=Ev->Sto->Option (Bool×Sto)
abbrev Lf:=Ev->Sto->Option (List D×Sto)
abbrev Fn:=List W->Sto->Option (W×Sto)
section
variable (K:qae)
def tI (env:Ev) (st:Sto) (r:W×Sto):TE:=λh H Q=>∃ φ,Er K H φ env h/\Sr K H φ st/\∀ v H' b,Fw φ b H H'->Sr K H' b r.2->Rw K H' b r.1 v->Q v H'
def tIA (env:Ev) (st:Sto) (r:List W×Sto):TA:=λh H Q=>∃ φ,Er K H φ env h/\Sr K H φ st/\∀ c H' b,Fw φ b H H'->Sr K H' b r.2->Rws K H' b r.1 c->Q c H'
def tIT (env:Ev) (st:Sto) (r:Bool×Sto):TT:=λh H Q=>∃ φ,Er K H φ env h/\Sr K H φ st/\∀ H' b,Fw φ b H H'->Sr K H' b r.2->Q r.1 H'
def tIL (env:Ev) (st:Sto) (r:List D×Sto):TE:=λh H Q=>∃ φ,Er K H φ env h/\Sr K H φ st/\∀ a c H1 b,Fw φ b H H1->Sr K H1 b r.2->H1 a=none->Rls K H1 b r.1 c->Q (.ref a) (upd H1 a (.lst c))
structure IE (X:Cx) (e:Expr) (f:Ef):Prop where
 run:∀ env st r,f env st=some r->PE X e (tI K env st r)
structure IA (X:Cx) (es:List Expr) (f:Af):Prop where
 run:∀ env st r,f env st=some r->PA X es (tIA K env st r)
structure IT (X:Cx) (e:Expr) (f:Tf):Prop where
 run:∀ env st r,f env st=some r->PT X e (tIT K env st r)
structure ITW (X:Cx) (e:Expr) (f:Tf):Prop where
 run:∀ env st r,f env st=some r->PW X e (tIT K env st r)
structure IL (X:Cx) (e:Expr) (f:Lf):Prop where
 run:∀ env st r,f env st=some r->PE X e (tIL K env st r)
def rD (st:Sto) (x y:W) (d:D):R2:=λj k H Q=>∃ φ,Sr K H φ st/\Rw K H φ x j/\Rw K H φ y k/\∀ v H',aQ H H'->Rl K H' φ d v->Q v H'
structure OpD (X:Cx) (f:Value->Value->Sem Value) (g:Sto->W->W->Option D):Prop where
 run:∀ st x y d,g st x y=some d->OpR X f (rD K st x y d)
def rCD (st:Sto) (ws:List W) (d:D):List V->Hp->VK->Prop:=λc H Q=>∃ φ,Sr K H φ st/\Rws K H φ ws c/\∀ v H',aQ H H'->Rl K H' φ d v->Q v H'
structure dZ (X:Cx) (f:Value) (g:Sto->List W->Option D):Prop where
 run:∀ st ws d,g st ws=some d->bh X f (rCD K st ws d)
def rCL (st:Sto) (ws:List W) (ds:List D):List V->Hp->VK->Prop:=λc H Q=>∃ φ,Sr K H φ st/\Rws K H φ ws c/\∀ a i H1,aQ H H1->H1 a=none->Rls K H1 φ ds i->Q (.ref a) (upd H1 a (.lst i))
structure sZ (X:Cx) (f:Value) (g:Sto->List W->Option (List D)):Prop where
 run:∀ st ws d,g st ws=some d->bh X f (rCL K st ws d)
end
noncomputable def iV (i:Nat):Ef
 |env,st=>(env.getD i none).map λw=>(w,st)
noncomputable def iC (d:D):Ef
 |_,st=>some (.d d,st)
noncomputable def iOp (g:Sto->W->W->Option D) (a b:Ef):Ef
 |env,st=>(a env st).bind λx=>(b env x.2).bind λy=>(g y.2 x.1 y.1).map λd=>(.d d,y.2)
noncomputable def yh:D->Option Bool
 |.bl b=>some b
 |_=>none
def aF (g:Sto->W->W->Option D) (a b:Ef):Tf
 |env,st=>(a env st).bind λx=>(b env x.2).bind λy=>(g y.2 x.1 y.1).bind λd=>(yh d).map λk=>(k,y.2)
noncomputable def iUn (g:W->Option D) (a:Ef):Ef
 |env,st=>(a env st).bind λx=>(g x.1).map λd=>(.d d,x.2)
noncomputable def dJ (c:Tf) (a b:Ef):Ef
 |env,st=>(c env st).bind λr=>if r.1=true then a env r.2 else b env r.2
noncomputable def ce (c:Tf):Tf
 |env,st=>(c env st).map λr=>(!r.1,r.2)
noncomputable def fB (a b:Tf):Tf
 |env,st=>(a env st).bind λr=>if r.1=true then b env r.2 else some (false,r.2)
noncomputable def cF (a b:Tf):Tf
 |env,st=>(a env st).bind λr=>if r.1=true then some (true,r.2) else b env r.2
noncomputable def bT (g:Sto->W->Option Bool) (a:Ef):Tf
 |env,st=>(a env st).bind λx=>(g x.2 x.1).map λk=>(k,x.2)
noncomputable def ac:Af
 |_,st=>some ([],st)
noncomputable def aa (a:Ef) (r:Af):Af
 |env,st=>(a env st).bind λx=>(r env x.2).map λy=>(x.1::y.1,y.2)
noncomputable def iCB (g:Sto->List W->Option D) (a:Af):Ef
 |env,st=>(a env st).bind λr=>(g r.2 r.1).map λd=>(.d d,r.2)
noncomputable def iCL (g:Sto->List W->Option (List D)) (a:Af):Lf
 |env,st=>(a env st).bind λr=>(g r.2 r.1).map λd=>(d,r.2)
noncomputable def ax (m:Fn) (a:Af):Ef
 |env,st=>(a env st).bind λr=>m r.1 r.2
noncomputable def rH:List W->Option (List D)
 |[]=>some []
 |.d x::ws=>(rH ws).map λr=>x::r
 |.h _::_=>none
def a5 (a:Af):Ef
 |env,st=>(a env st).bind λr=>(rH r.1).bind λds=>if ds.length<=1000 then some (.d (.tup ds),r.2) else none
def bf (a:Af):Lf
 |env,st=>(a env st).bind λr=>(rH r.1).bind λds=>if ds.length<=1000 then some (ds,r.2) else none
noncomputable def aq (a:Lf):Ef
 |env,st=>(a env st).map λr=>(.d (.lst r.1),r.2)
noncomputable def bM (a:Lf):Ef
 |env,st=>(a env st).map λr=>(.h r.2.length,r.2++[.l r.1])
section
variable {K:qae}{X:Cx}{e a b c:Expr}{es:List Expr}{pos:Pos}{f fa fb fc:Ef}
theorem PE.imp (h:PE X e t) (m:∀ B H Q,t' B H Q->t B H Q):PE X e t' :=λM s B H Q I q=>h M s B H Q I (m B H Q q)
theorem PT.imp (h:PT X e t) (m:∀ B H Q,t' B H Q->t B H Q):PT X e t' :=λM s B H Q I q=>h M s B H Q I (m B H Q q)
theorem PW.imp (h:PW X e t) (m:∀ B H Q,t' B H Q->t B H Q):PW X e t' :=λwh M s B H Q I q=>h wh M s B H Q I (m B H Q q)
theorem PA.imp (h:PA X es t) (m:∀ B H Q,t' B H Q->t B H Q):PA X es t' :=λpos M s B H Q I q=>h pos M s B H Q I (m B H Q q)
theorem OpR.imp (h:OpR X g r) (m:∀ x y H Q,r' x y H Q->r x y H Q):OpR X g r' :=λM s B H x y v u Q I rx ry q=>h M s B H x y v u Q I rx ry (m _ _ _ _ q)
theorem bh.imp (h:bh X g r) (m:∀ xs H Q,r' xs H Q->r xs H Q):bh X g r' :=λM s B H xs us Q I rx q=>h M s B H xs us Q I rx (m _ _ _ q)
theorem uW:PE X e (λ_ _ _=>False):=λ_ _ _ _ _ _ q=>q.elim
theorem u6:PW X e (λ_ _ _=>False):=λ_ _ _ _ _ _ _ q=>q.elim
theorem Eu {t:TE} (h:PE X (.Name x pos) (vh i)):IE K X (.Name x pos) (iV i) :=by
 refine⟨λenv st r A=>?_⟩;obtain⟨w,hw,rfl⟩:=qad.mp A;refine h.imp ?_
 rintro B H Q ⟨φ,G,E,q⟩
 have hi:env[i]?=some (some w):=by
  rw[qfT]at hw;cases q:env[i]? with
  |none=>rw[q]at hw;cases hw
  |some o=>rw[q]at hw;rw[show o=some w from hw]
 obtain⟨v,e1,r⟩:=G.at_ i w hi;exact⟨v,e1,q v H φ (Fw.refl φ H) E r⟩
theorem iv (i) (hN:X.N[i]?=some x:=by rfl) (hv:Vis X.env.scope x:=by first|exact Or.inl U|exact Or.inr _|exact Or.inr _) (hd:(x==("__debug__"))=false:=by decide)
  (hcd:(x==("__classdict__"))=false:=by decide):IE K X (.Name x pos) (iV i) :=Eu (t:=vh i) (jO hN hv hd hcd)
theorem zP (h:PE X e (tC v)) (r:∀ H φ,Rl K H φ d v):IE K X e (iC d) :=by
 refine⟨λenv st r A=>?_⟩;cases A;refine h.imp ?_
 rintro B H Q ⟨φ,G,E,q⟩
 exact q v H φ (Fw.refl φ H) E (r H φ)
theorem jC :IE K X (.Constant (.int i) j pos) (iC (.int i)) :=zP Fb λ_ _=>rfl
theorem ui :IE K X (.Constant (.bool i) j pos) (iC (.bl i)) :=zP GT λ_ _=>rfl
theorem nX :IE K X (.Constant .none j pos) (iC .non) :=zP Fc λ_ _=>rfl
theorem nZ :IE K X (.Constant (.str x) j pos) (iC (.str x)) :=zP Fd λ_ _=>rfl
theorem sO {st}(h:tI K env st (.d d,y.2) B H Q):tOp (rD K y.2 x.1 y.1 d) (tI K env st x) (tI K env x.2 y) B H Q :=by
 obtain⟨φ,G,E,q⟩:=h;refine⟨φ,G,E,λv H1 z J s1 R=>⟨z,G.fw E J,s1,λu H2 O P s2 w2=>⟨O,s2,R.fw s1 P,w2,λv3 H3 f3 w3=>?_⟩⟩⟩;exact q v3 H3 O ((J.trans P).trans (Fw.same f3)) (s2.same f3) w3
theorem l6 (ho:OpD K X (qbG op) g) (N:IE K X a fa) (hb:IE K X b fb):IE K X (.BinOp a op b pos) (iOp g fa fb) :=by
 refine⟨λenv st r A=>?_⟩;simp only[iOp,qaa,qad]at A;obtain⟨x,hx,y,Y,d,hd,rfl⟩:=A;exact (DI (ho.run _ _ _ _ hd) (N.run _ _ _ hx) (hb.run _ _ _ Y)).imp λB H Q h=>sO h
theorem nQ (ho:OpD K X (qbP op) g) (N:IE K X a fa) (hb:IE K X b fb) (hm:qfH op b=false):IE K X (.Compare a [op] [b] pos) (iOp g fa fb) :=by
 refine⟨λenv st r A=>?_⟩;simp only[iOp,qaa,qad]at A;obtain⟨x,hx,y,Y,d,hd,rfl⟩:=A;exact (CK (ho.run _ _ _ _ hd) (N.run _ _ _ hx) (hb.run _ _ _ Y) hm).imp λB H Q h=>sO h
theorem yi (h:yh d=some k):d=.bl k :=by
 cases d<;>first|(cases h;done)|(injection h with h;subst h;rfl)
theorem oj (ho:OpD K X (qbP op) g) (N:IE K X a fa) (hb:IE K X b fb) (hm:qfH op b=false):IT K X (.Compare a [op] [b] pos) (aF g fa fb) :=by
 refine⟨λenv st r A=>?_⟩;simp only[aF,qaa,qad]at A;obtain⟨x,hx,y,Y,d,hd,k,hk,rfl⟩:=A;cases yi hk;refine (CV (ho.run _ _ _ _ hd) (N.run _ _ _ hx) (hb.run _ _ _ Y) hm).imp λB H Q h=>?_;obtain⟨φ,G,E,q⟩:=h;refine sO ⟨φ,G,E,λv H1 z J s1 R=>⟨k,R,q H1 z J s1⟩⟩
noncomputable def gT:W->Option D
 |.d (.int i)=>some (.int (-i))
 |_=>none
theorem lz (N:IE K X a fa):IE K X (.UnaryOp .USub a pos) (iUn gT fa):=by
 refine⟨λenv st r A=>?_⟩;simp only[iUn,qaa,qad]at A;obtain⟨⟨x,s1⟩,hx,d,hd,rfl⟩:=A;cases x with
 |h n=>cases hd
 |d x=>
  cases x with
  |int i=>
   cases hd;refine (GV FR (N.run _ _ _ hx)).imp ?_
   rintro B H Q ⟨φ,G,E,q⟩
   exact⟨φ,G,E,λv H1 z J s1 R=>⟨i,R,q _ H1 z J s1 U⟩⟩
  |_=>cases hd
variable {ta tb:Tf}
theorem om (N:IT K X a ta):IT K X (.UnaryOp .Not a pos) (ce ta):=by
 refine⟨λenv st r A=>?_⟩;simp only[ce,qad]at A;obtain⟨x,hx,rfl⟩:=A;refine (Fm (N.run _ _ _ hx)).imp ?_
 rintro B H Q ⟨φ,G,E,q⟩
 exact⟨φ,G,E,λH1 z J s1=>q H1 z J s1⟩
theorem EC (h:ITW K X a ta):IT K X a ta:=⟨λenv st r A=>(h.run env st r A).pt⟩
theorem im (h:IT K X a ta):ITW K X (.BoolOp .And [a] pos) ta:=⟨λenv st r A=>CZ (h.run env st r A)⟩
theorem kF (h:IT K X a ta):ITW K X (.BoolOp .Or [a] pos) ta:=⟨λenv st r A=>Fp (h.run env st r A)⟩
theorem kE (N:IT K X a ta) (hb:ITW K X (.BoolOp .And (b::rest) pos) tb):ITW K X (.BoolOp .And (a::b::rest) pos) (fB ta tb) :=by
 refine⟨λenv st r A=>?_⟩;simp only[fB,qaa]at A;obtain⟨⟨k,s1⟩,hx,A⟩:=A;cases k with
 |false=>
  cases A;refine (AQ (N.run _ _ _ hx) u6).imp ?_
  rintro B H Q ⟨φ,G,E,q⟩
  refine⟨φ,G,E,λH1 z J s1=>?_⟩;exact q H1 z J s1
 |true=>
  refine (AQ (N.run _ _ _ hx) (hb.run _ _ _ A)).imp ?_
  rintro B H Q ⟨φ,G,E,q⟩
  refine⟨φ,G,E,λH1 z J s1=>?_⟩;exact⟨z,G.fw E J,s1,λH2 O P s2=>q H2 O (J.trans P) s2⟩
theorem oo (N:IT K X a ta) (hb:ITW K X (.BoolOp .Or (b::rest) pos) tb):ITW K X (.BoolOp .Or (a::b::rest) pos) (cF ta tb) :=by
 refine⟨λenv st r A=>?_⟩;simp only[cF,qaa]at A;obtain⟨⟨k,s1⟩,hx,A⟩:=A;cases k with
 |true=>
  cases A;refine (DK (N.run _ _ _ hx) u6).imp ?_
  rintro B H Q ⟨φ,G,E,q⟩
  refine⟨φ,G,E,λH1 z J s1=>?_⟩;exact q H1 z J s1
 |false=>
  refine (DK (N.run _ _ _ hx) (hb.run _ _ _ A)).imp ?_
  rintro B H Q ⟨φ,G,E,q⟩
  refine⟨φ,G,E,λH1 z J s1=>?_⟩;exact⟨z,G.fw E J,s1,λH2 O P s2=>q H2 O (J.trans P) s2⟩
theorem uk (hc:IT K X c tc) (N:IE K X a fa) (hb:IE K X b fb):IE K X (.IfExp c a b pos) (dJ tc fa fb) :=by
 refine⟨λenv st r A=>?_⟩;simp only[dJ,qaa]at A;obtain⟨⟨k,s1⟩,hx,A⟩:=A;cases k with
 |true=>
  refine (uV (hc.run _ _ _ hx) (N.run _ _ _ A) uW).imp ?_
  rintro B H Q ⟨φ,G,E,q⟩
  refine⟨φ,G,E,λH1 z J s1=>?_⟩;exact⟨z,G.fw E J,s1,λu H2 O P s2 w2=>q u H2 O (J.trans P) s2 w2⟩
 |false=>
  refine (uV (hc.run _ _ _ hx) uW (hb.run _ _ _ A)).imp ?_
  rintro B H Q ⟨φ,G,E,q⟩
  refine⟨φ,G,E,λH1 z J s1=>?_⟩;exact⟨z,G.fw E J,s1,λu H2 O P s2 w2=>q u H2 O (J.trans P) s2 w2⟩
def gI (st:Sto):W->Option (List D)
 |.d (.tup ds)=>some ds
 |.d (.lst ds)=>some ds
 |.d (.scr ns)=>some (ns.map D.int)
 |.h n=>lg st n
 |_=>none
theorem u9 {st}(S:Sr K H φ st) (r:Rw K H φ w v) (e:gI st w=some ds):∃ a L,v=.ref a/\(SqL K H a L\/H a=some (.tup L))/\Rls K H φ ds L :=by
 cases w with
 |h n=>
  obtain⟨a,ea,rfl⟩:=r;obtain⟨L,q,rl⟩:=S.atl n a ds ea e;exact⟨a,L,U,.inl (SqL.of q),rl⟩
 |d x=>
  cases x with
  |tup es=>cases e;obtain⟨a,L,rfl,h1,h2⟩:=r;exact⟨a,L,U,.inr h1,h2⟩
  |lst es=>cases e;obtain⟨a,L,rfl,h0,h1,h2⟩:=r;exact⟨a,L,U,.inl (.inl h1),h2⟩
  |scr ns=>
   cases e;obtain⟨a,rfl,h⟩:=r;refine⟨a,_,U,.inl ?_,Rls.of_ints ns⟩;rcases h with⟨o,h⟩|h
   ·exact .inl (.inr ⟨o,h⟩)
   ·exact .inr h
  |_=>cases e
theorem jb {st}(S:Sr K H φ st) (r:Rw K H φ w v) (e:gI st w=some ds):∃ a L,v=.ref a/\(SqL K H a L\/SqT K H a L)/\Rls K H φ ds L :=by
 obtain⟨a,L,h0,h1,h2⟩:=u9 S r e;exact⟨a,L,h0,h1.imp id SqT.of,h2⟩
def ca (st:Sto):W->Option Bool
 |.d .non=>some false
 |.d (.bl b)=>some b
 |.d (.int i)=>some (i != 0)
 |w=>(gI st w).map λds=>!ds.isEmpty
theorem Dm {st}(S:Sr K H φ st) (r:Rw K H φ w v) (e:ca st w=some k):BJ K v H k :=by
 have seq:∀ ds,gI st w=some ds->k=!ds.isEmpty->BJ K v H k:=λds h hk=>by
  obtain⟨a,L,rfl,h1,h2⟩:=jb S r h;have e':k=!L.isEmpty:=by
   rw[hk];cases ds<;>cases L<;>first|rfl|cases h2.length
  rcases h1 with h1|h1
  ·exact .inl ⟨L,h1,e'⟩
  ·exact .inr (.inl ⟨L,h1,e'⟩)
 cases w with
 |h n=>
  obtain⟨ds,h1,h2⟩:=qad.mp e;exact seq ds h1 h2.symm
 |d x=>
  cases x with
  |non=>subst r;cases e;exact U
  |bl b=>subst r;cases e;exact U
  |int i=>subst r;cases e;exact U
  |tup ds=>exact seq ds U (qaP e).symm
  |lst ds=>exact seq ds U (qaP e).symm
  |scr ds=>exact seq _ U (qaP e).symm
  |_=>cases e
theorem on (N:IE K X a fa) (he:AE a=true:=by rfl) (hK:X.K=K:=by rfl):IT K X a (bT ca fa):=by
 subst hK;refine⟨λenv st r A=>?_⟩;simp only[bT,qaa,qad]at A;obtain⟨x,hx,k,hk,rfl⟩:=A;refine (AN (N.run _ _ _ hx) (zc he)).imp ?_
 rintro B H Q ⟨φ,G,E,q⟩
 exact⟨φ,G,E,λv H1 z J s1 R=>⟨k,Dm s1 R hk,q H1 z J s1⟩⟩
variable {af:Af}
theorem bU:IA K X [] ac:=by
 refine⟨λenv st r A=>?_⟩;cases A;refine sB.imp ?_
 rintro B H Q ⟨φ,G,E,q⟩
 exact q [] H φ (Fw.refl φ H) E U
theorem br (N:IE K X e fa) (A:IA K X es af) (hs:ay e=true:=by rfl):IA K X (e::es) (aa fa af):=by
 refine⟨λenv st r h=>?_⟩;simp only[aa,qaa,qad]at h;obtain⟨x,hx,y,Y,rfl⟩:=h;refine (mS (N.run _ _ _ hx) (A.run _ _ _ Y) (aP hs)).imp ?_
 rintro B H Q ⟨φ,G,E,q⟩
 refine⟨φ,G,E,λv H1 z J s1 R=>⟨z,G.fw E J,s1,λu H2 O P s2 w2=>?_⟩⟩;exact q _ H2 O (J.trans P) s2 ⟨v,u,U,R.fw s1 P,w2⟩
theorem qE {id}{p}(hc:dZ K X (.builtin id) g) (hg:Gl X x) (hm:X.mg x=none) (hv:qce x=some (.builtin id)) (N:IA K X (e::es) af)
  (hn:x≠"__name__":=by decide) (hdb:(x==("__debug__"))=false:=by decide) (hs:ay e=true:=by rfl) (hp:es.all ay=true:=by rfl) :
  IE K X (.Call (.Name x p) (e::es) [] pos) (iCB g af) :=by
 refine⟨λenv st r A=>?_⟩;simp only[iCB,qaa,qad]at A;obtain⟨y,Y,d,hd,rfl⟩:=A;refine (pf (hc.run _ _ _ hd) hg hm hv (N.run _ _ _ Y) hn hdb (aP hs) (bg hp)).imp ?_
 rintro B H Q ⟨φ,G,E,q⟩
 exact⟨φ,G,E,λv H1 z J s1 R=>⟨z,s1,R,λu H2 P w2=>q u H2 z (J.trans (Fw.same P)) (s1.same P) w2⟩⟩
theorem Gq {p}(hc:dZ K X (.type T) g) (hg:Gl X x) (hm:X.mg x=none) (hv:qce x=some (.type T)) (N:IA K X (e::es) af)
  (hn:x≠"__name__":=by decide) (hdb:(x==("__debug__"))=false:=by decide) (hs:ay e=true:=by rfl) (hp:es.all ay=true:=by rfl) :
  IE K X (.Call (.Name x p) (e::es) [] pos) (iCB g af) :=by
 refine⟨λenv st r A=>?_⟩;simp only[iCB,qaa,qad]at A;obtain⟨y,Y,d,hd,rfl⟩:=A;refine (cR (hc.run _ _ _ hd) hg hm hv (N.run _ _ _ Y) hn hdb (aP hs) (bg hp)).imp ?_
 rintro B H Q ⟨φ,G,E,q⟩
 exact⟨φ,G,E,λv H1 z J s1 R=>⟨z,s1,R,λu H2 P w2=>q u H2 z (J.trans (Fw.same P)) (s1.same P) w2⟩⟩
theorem Gr {id}{p}(hc:sZ K X (.builtin id) g) (hg:Gl X x) (hm:X.mg x=none) (hv:qce x=some (.builtin id)) (N:IA K X (e::es) af)
  (hn:x≠"__name__":=by decide) (hdb:(x==("__debug__"))=false:=by decide) (hs:ay e=true:=by rfl) (hp:es.all ay=true:=by rfl) :
  IL K X (.Call (.Name x p) (e::es) [] pos) (iCL g af) :=by
 refine⟨λenv st r A=>?_⟩;simp only[iCL,qaa,qad]at A;obtain⟨y,Y,d,hd,rfl⟩:=A;refine (pf (hc.run _ _ _ hd) hg hm hv (N.run _ _ _ Y) hn hdb (aP hs) (bg hp)).imp ?_
 rintro B H Q ⟨φ,G,E,q⟩
 exact⟨φ,G,E,λv H1 z J s1 R=>⟨z,s1,R,λa us H2 P n2 w2=>q a us H2 z (J.trans (Fw.same P)) (s1.same P) n2 w2⟩⟩
theorem Dz {p}(hc:sZ K X (.type T) g) (hg:Gl X x) (hm:X.mg x=none) (hv:qce x=some (.type T)) (N:IA K X (e::es) af)
  (hn:x≠"__name__":=by decide) (hdb:(x==("__debug__"))=false:=by decide) (hs:ay e=true:=by rfl) (hp:es.all ay=true:=by rfl) :
  IL K X (.Call (.Name x p) (e::es) [] pos) (iCL g af) :=by
 refine⟨λenv st r A=>?_⟩;simp only[iCL,qaa,qad]at A;obtain⟨y,Y,d,hd,rfl⟩:=A;refine (cR (hc.run _ _ _ hd) hg hm hv (N.run _ _ _ Y) hn hdb (aP hs) (bg hp)).imp ?_
 rintro B H Q ⟨φ,G,E,q⟩
 exact⟨φ,G,E,λv H1 z J s1 R=>⟨z,s1,R,λa us H2 P n2 w2=>q a us H2 z (J.trans (Fw.same P)) (s1.same P) n2 w2⟩⟩
theorem nr :∀ {ws}{L}{ds},rH ws=some ds->Rws K H φ ws L->Rls K H φ ds L
 |[],_,_,e,h=>by cases e;exact h
 |.d x::ws,_,_,e,h=>by
  obtain⟨v,r,rfl,h1,h2⟩:=h;obtain⟨es,e1,rfl⟩:=qad.mp e;exact⟨v,r,U,h1,nr e1 h2⟩
 |.h n::ws,_,_,e,h=>by cases e
theorem n4 (h:IA K X es af):IE K X (.Tuple es x1 pos) (a5 af) :=by
 refine⟨λenv st r A=>?_⟩;simp only[a5,qaa]at A;obtain⟨y,Y,ds,hd,A⟩:=A;split at A
 ·cases A
  rename_i hl;refine (Aw (h.run _ _ _ Y)).imp ?_
  rintro B H Q ⟨φ,G,E,q⟩
  refine⟨φ,G,E,λL H1 z J s1 R=>?_⟩;have w:=nr hd R;refine⟨by rw[<-w.length];exact jc hl,λp hp=>?_⟩;exact q _ _ z (J.trans (Fw.new hp)) (s1.new hp) ⟨p,L,U,upd_same,w.fw s1 (Fw.new hp)⟩
 ·cases A
theorem jD (h:IA K X es af):IL K X (.List es pos) (bf af):=by
 refine⟨λenv st r A=>?_⟩;simp only[bf,qaa]at A;obtain⟨y,Y,ds,hd,A⟩:=A;split at A
 ·cases A
  rename_i hl;refine (Av (h.run _ _ _ Y)).imp ?_
  rintro B H Q ⟨φ,G,E,q⟩
  refine⟨φ,G,E,λL H1 z J s1 R=>?_⟩;have w:=nr hd R;exact⟨by rw[<-w.length];exact jc hl,λp hp=>q p L H1 z J s1 hp w⟩
 ·cases A
theorem cU (h:IL K X e lf):IE K X e (aq lf) :=by
 refine⟨λenv st r A=>?_⟩;simp only[aq,qad]at A;obtain⟨y,Y,rfl⟩:=A;refine (h.run _ _ _ Y).imp ?_
 rintro B H Q ⟨φ,G,E,q⟩
 refine⟨φ,G,E,λa L H1 z J s1 n1 R=>?_⟩;exact q _ _ z (J.trans (Fw.new n1)) (s1.new n1) ⟨a,L,U,s1.nin n1,.inl upd_same,R.fw s1 (Fw.new n1)⟩
theorem Sr.moreC {st}{a}{c} (S:Sr K H φ st) (n:H a=none) (w:Rc K (upd H a o) (φ++[a]) φ.length a c):Sr K (upd H a o) (φ++[a]) (st++[c]) :=by
 refine⟨?_,by rw[qau,qau,S.len];rfl,λi b es e1 e2=>?_⟩
 ·rw[qcy]
  refine⟨S.nd,by simp,λx hx y Y e=>?_⟩;rw[qao.mp Y]at e;rw[e]at hx;exact S.nin n hx
 ·by_cases hi:i<φ.length
  ·rw[qaC hi]at e1
   rw[qaC (by rw[<-S.len];exact hi)]at e2;exact (S.at_ i b es e1 e2).fw S ⟨⟨_,U,λb hb=>by rw[qao.mp hb];exact n⟩,λb o _ h=>aQ.new n _ b o h,λb o h=>⟨o,aQ.new n _ b o h⟩⟩ λo h=>aQ.new n _ _ _ h
  ·have e:i=φ.length:=by
    have:=(qas.mp e1).1
    simp at this
    lia
   subst e;rw[qaK (qan _)]at e1;rw[S.len,qaK (qan _)]at e2
   simp at e1 e2
   subst e1 e2;exact w
theorem Fw.moreO {a}(n:H a=none):Fw φ (φ++[a]) H (upd H a o) :=
 ⟨⟨_,U,λb hb=>by rw[qao.mp hb];exact n⟩,λb o _ h=>aQ.new n _ b o h,λb o h=>⟨o,aQ.new n _ b o h⟩⟩
theorem Fw.more {a}(n:H a=none):Fw φ (φ++[a]) H (upd H a (.lst L)) :=Fw.moreO n
theorem Sr.more {st}{a}(S:Sr K H φ st) (n:H a=none) (w:Rls K H φ ds L):Sr K (upd H a (.lst L)) (φ++[a]) (st++[.l ds]) :=
 S.moreC n ⟨L,upd_same,w.fw S (Fw.moreO n)⟩
theorem jE (h:IL K X e lf):IE K X e (bM lf) :=by
 refine⟨λenv st r A=>?_⟩;simp only[bM,qad]at A;obtain⟨y,Y,rfl⟩:=A;refine (h.run _ _ _ Y).imp ?_
 rintro B H Q ⟨φ,G,E,q⟩
 refine⟨φ,G,E,λa L H1 z J s1 n1 R=>?_⟩;exact q _ _ _ (J.trans (Fw.more n1)) (s1.more n1 R) ⟨a,by rw[<-s1.len];simp,U⟩
def spI (K:qae) (m:Fn):Sp:=λL H Q _=>∃ φ st ws r,m ws st=some r/\Rws K H φ ws L/\Sr K H φ st/\∀ v H' φ',Fw φ φ' H H'->Sr K H' φ' r.2->Rw K H' φ' r.1 v->Q v H'
theorem B4 {p} (F:dm X.prog X.w X.K X.mg X.base CX0 j ff fd ps (spI K m)) (hjk:j<=k) (A:bj k X.A) (hg:Gl X x) (hm:X.mg x=some (.ref ff)) (hk:qcC X.K (.ref ff)=true) (hb:cY X.K fd ps [])
  (N:IA K X (e::es) af) (hdb:(x==("__debug__"))=false:=by decide) (hs:ay e=true:=by rfl) (hp:es.all ay=true:=by rfl) :
  IE K X (.Call (.Name x p) (e::es) [] pos) (ax m af) :=by
 refine⟨λenv st r h=>?_⟩;simp only[ax,qaa]at h;obtain⟨y,Y,h⟩:=h;refine (xD (F.mono hjk) A hg hm hk hb .nil Aq (N.run _ _ _ Y) hdb (aP hs) (bg hp)).imp ?_
 rintro B H Q ⟨φ,G,E,q⟩
 refine⟨φ,G,E,λL H1 z J s1 R=>?_⟩;show spI K m _ H1 Q E0;rw[qbR];exact⟨z,_,_,r,h,R,s1,λv H2 O P s2 w2=>q v H2 O (J.trans P) s2 w2⟩
end
inductive Fl where
 |nx (env:Ev) (st:Sto)|rt (w:W) (st:Sto)|bk (env:Ev) (st:Sto)|ct (env:Ev) (st:Sto)
abbrev Sf:=Ev->Sto->Option Fl
def yc (K:qae) (φ:List Addr) (H:Hp) (D:mU):Fl->Prop
 |.nx e s=>∀ b H' a,Fw φ a H H'->Er K H' a e b->Sr K H' a s->D.nx b H'
 |.rt w s=>∀ v H' a,Fw φ a H H'->Sr K H' a s->Rw K H' a w v->D.rt v H'
 |.bk e s=>∀ b H' a,Fw φ a H H'->Er K H' a e b->Sr K H' a s->D.bk b H'
 |.ct e s=>∀ b H' a,Fw φ a H H'->Er K H' a e b->Sr K H' a s->D.ct b H'
theorem yc.fw {K}{D}(h:yc K φ H D r) (f:Fw φ d H H1):yc K d H1 D r :=by
 cases r with
 |nx e s=>exact λb H' a c=>h b H' a (f.trans c)
 |rt w s=>exact λv H' a c=>h v H' a (f.trans c)
 |bk e s=>exact λb H' a c=>h b H' a (f.trans c)
 |ct e s=>exact λb H' a c=>h b H' a (f.trans c)
def tS (K:qae) (env:Ev) (st:Sto) (r:Fl):TS:=λD a H=>∃ φ,Er K H φ env a/\Sr K H φ st/\yc K φ H D r
structure IS (K:qae) (X:Cx) (s:Stmt) (g:Sf):Prop where
 run:∀ env st r,g env st=some r->PS X s (tS K env st r)
structure ISs (K:qae) (X:Cx) (s:List Stmt) (g:Sf):Prop where
 run:∀ env st r,g env st=some r->PSs X s (tS K env st r)
inductive Tg where
 |nm (i:Nat)|tp (is:List Nat)|tq (i:Nat) (is:List Nat)
noncomputable def nP:Tg->List Nat
 |.nm i=>[i]
 |.tp is=>is
 |.tq i is=>i::is
noncomputable def pI:List Nat->List D->Ev->Ev
 |i::is,d::ds,env=>pI is ds (env.set i (some (.d d)))
 |_,_,env=>env
def cD:Tg->W->Ev->Option Ev
 |.nm i,w,env=>some (env.set i (some w))
 |.tp is,.d (.tup ds),env=>if is.length=ds.length then some (pI is ds env) else none
 |.tp is,.d (.lst ds),env=>if is.length=ds.length then some (pI is ds env) else none
 |.tq i is,.d (.tup [d,.tup ds]),env=>if is.length=ds.length then some (pI is ds (env.set i (some (.d d)))) else none
 |_,_,_=>none
def BI (is:List Nat) (b a:St):Prop:=a.length=b.length/\∀ j,j∉is->a[j]?=b[j]?
def tG (K:qae) (g:Tg):TG:=λv c H Q=>∃ φ st env w a,Er K H φ env c/\Sr K H φ st/\Rw K H φ w v/\cD g w env=some a/\∀ b,Er K H φ a b->BI (nP g) c b->Q b H
def tGs (K:qae) (is:List Nat):TGs:=λc b H Q=>∃ φ st env ds,Er K H φ env b/\Sr K H φ st/\Rls K H φ ds c/\is.length=ds.length/\∀ a,Er K H φ (pI is ds env) a->BI is b a->Q a H
noncomputable def aU:Sf
 |env,st=>some (.nx env st)
noncomputable def ag (a b:Sf):Sf
 |env,st=>(a env st).bind λr=>match r with
 |.nx e s=>b e s
 |r=>some r
def aA (g:Tg) (f:Ef):Sf
 |env,st=>(f env st).bind λr=>(cD g r.1 env).map λe=>.nx e r.2
noncomputable def rQ (i j:Nat) (a:Af):Sf
 |env,st=>(a env st).bind λr=>match r.1 with
 |[x,y]=>some (.nx ((env.set i (some x)).set j (some y)) r.2)
 |_=>none
def gB (st:Sto) (o i v:W):Option Sto:=match o,i,v with
 |.h n,.d (.int k),.d x=>(lg st n).bind λds=>(ixN ds.length k).map λj=>st.set n (.l (ds.set j x))
 |_,_,_=>none
def bz (o i v:Ef):Sf
 |env,st=>(v env st).bind λa=>(o env a.2).bind λb=>(i env b.2).bind λc=>(gB c.2 b.1 c.1 a.1).map λs=>.nx env s
noncomputable def aL (f:Ef):Sf
 |env,st=>(f env st).map λr=>.rt r.1 r.2
noncomputable def cw (f:Ef):Sf
 |env,st=>(f env st).map λr=>.nx env r.2
noncomputable def be (c:Tf) (a b:Sf):Sf
 |env,st=>(c env st).bind λr=>if r.1=true then a env r.2 else b env r.2
noncomputable def vR:Sf
 |env,st=>some (.bk env st)
noncomputable def qD:Sf
 |env,st=>some (.ct env st)
noncomputable def bu (g:Tg) (body:Sf):List D->Ev->Sto->Option Fl
 |[],env,st=>some (.nx env st)
 |d::ds,env,st=>(cD g (.d d) env).bind λe=>(body e st).bind λr=>match r with
  |.nx e s=>bu g body ds e s
  |.ct e s=>bu g body ds e s
  |.bk e s=>some (.nx e s)
  |.rt w s=>some (.rt w s)
def cE (a:Lf) (g:Tg) (body:Sf):Sf
 |env,st=>(a env st).bind λr=>bu g body r.1 env r.2
noncomputable def bq (c:Tf) (body:Sf):Nat->Ev->Sto->Option Fl
 |0,_,_=>none
 |n+1,env,st=>(c env st).bind λk=>if k.1=true then (body env k.2).bind λr=>match r with
   |.nx e s=>bq c body n e s
   |.ct e s=>bq c body n e s
   |.bk e s=>some (.nx e s)
   |.rt w s=>some (.rt w s)
  else some (.nx env k.2)
noncomputable def lcI (g:Tg) (tt:Tf) (te:Ef) (env:Ev):List D->Sto->Option (List D×Sto)
 |[],st=>some ([],st)
 |d::ds,st=>(cD g (.d d) env).bind λe=>(tt e st).bind λb=>if b.1=true then (te e b.2).bind λx=>(rH [x.1]).bind λa=>(lcI g tt te env ds x.2).map λr=>(a++r.1,r.2)
   else lcI g tt te env ds b.2
noncomputable def jB (k:Nat) (js:List Nat) (env:Ev):Ev:=qaJ k none++js.map λj=>env.getD j none
def iLc (k:Nat) (js:List Nat) (a:Lf) (g:Tg) (tt:Tf) (te:Ef):Lf
 |env,st=>(a env st).bind λr=>if r.1.length<=1000000 then lcI g tt te (jB k js env) r.1 r.2 else none
noncomputable def aM:Tf
 |_,st=>some (true,st)
noncomputable def aC (f:Ef):Lf
 |env,st=>(f env st).bind λr=>match r.1 with
 |.d (.tup ds)=>some (ds,r.2)
 |.d (.lst ds)=>some (ds,r.2)
 |_=>none
noncomputable def cG (lo:Int) (n:Nat):List D:=(qai n).map λk:Nat=>D.int (lo+k)
def bH (a:Af):Lf
 |env,st=>(a env st).bind λr=>match r.1 with
 |[.d (.int j)]=>if -(2^62)<=j/\j<2^62 then some (cG 0 j.toNat,r.2) else none
 |_=>none
noncomputable def bF:Nat->List D->List D
 |_,[]=>[]
 |k,d::ds=>.tup [.int k,d]::bF (k+1) ds
def bL (a:Af):Lf
 |env,st=>(a env st).bind λr=>match r.1 with
 |[.d (.tup ds)]=>some (bF 0 ds,r.2)
 |[.d (.lst ds)]=>some (bF 0 ds,r.2)
 |_=>none
section
variable {K:qae}{X:Cx}{pos:Pos}
theorem PS.imp (h:PS X s t) (m:∀ D A H,t' D A H->t D A H):PS X s t' :=λB s A H D I q=>h B s A H D I (m D A H q)
theorem PSs.imp (h:PSs X s t) (m:∀ D A H,t' D A H->t D A H):PSs X s t' :=λB s A H D I q=>h B s A H D I (m D A H q)
theorem Er.set (h:Er K H φ env A) (i) (r:Rw K H φ w v):Er K H φ (env.set i (some w)) (A.set i (some v)) :=by
 refine⟨by rw[qb6,qb6,h.len],λj w' e=>?_⟩;by_cases hj:i=j
 ·subst hj
  have hi:=by
   have:=(qas.mp e).1
   rwa [qb6]at this
  rw[qbo hi]at e;cases e;exact⟨v,by rw[qbo (by rw[<-h.len];exact hi)],r⟩
 ·rw[qbA hj]at e
  obtain⟨v',N,r1⟩:=h.at_ j w' e;exact⟨v',by rw[qbA hj];exact N,r1⟩
theorem Bh (i) (A) (v):BI [i] A (A.set i v) :=⟨by rw[qb6],λj hj=>by rw[qbA (by rintro rfl;simp at hj)]⟩
theorem iU (h:PG X (.Name x pos) (lY i)):PG X (.Name x pos) (tG K (.nm i)) :=by
 intro B s A H v u Q I T q;obtain⟨φ,st,env,w,env',E,F,r,e,q⟩:=q;cases e;exact h B s A H v u Q I T (q _ (E.set i r) (Bh i A _))
theorem iW:PGs X [] (tGs K []):=by
 intro B s A H Y us Q I T q;obtain⟨φ,st,env,ds,E,F,r,e,q⟩:=q;cases ds with
 |nil=>cases r;exact xE B s A H [] us Q I T ⟨U,q A E ⟨U,λ_ _=>rfl⟩⟩
 |cons _ _=>cases e
theorem dL (h1:PG X (.Name x pos) (lY i)) (h2:PGs X es (tGs K is)):PGs X (.Name x pos::es) (tGs K (i::is)) :=by
 intro B s A H Y us Q I T q;obtain⟨φ,st,env,ds,E,F,r,e,q⟩:=q;cases ds with
 |nil=>cases e
 |cons d ds=>
  obtain⟨v,vr,rfl,r1,r2⟩:=r;refine kT h1 h2 (jT U) B s A H _ us Q I T ⟨v,vr,U,φ,st,_,ds,E.set i (w:=.d d) r1,F,r2,by simpa using e,λσ' O s'=>q σ' O ?_⟩;refine⟨by rw[s'.1,qb6],λj hj=>?_⟩;rw[s'.2 j (λz=>hj (qah _ z)),qbA (by rintro rfl;exact hj qag)]
def HQ (K:qae) (n:Nat) (t:TGs):TG:=λv A H Q=>∃ a xs,v=.ref a/\SqL K H a xs/\xs.length=n/\t xs A H Q
theorem Ff (hc:X.calm=true) (h:PGs X es t) (hn:(qbX es X.env).length=n) (hst:(qbX es X.env).findIdx? (·.1)=none):PG X (.Tuple es k pos) (HQ X.K n t) :=by
 intro B s A H v u Q I r hw;obtain⟨a,xs,N,hq,P,hw⟩:=hw;subst N;cases r;obtain⟨its,T,p,hz⟩:=I.list hq;refine qac (qeG ?_);unfold unpack;rw[show (qbX es X.env).length=its.toArray.size by simp[hn,<-P,T.length],hst];refine qac (qct (PySem.W.kun_itemsOf (I.ok.hd hc) p.isList λh' hx=>?_));exact h B _ A H xs _ Q (I.kept λb o e=>hx b o (qaH (qax e)) e) (by simpa using T) hw
theorem lA {k n}(h:PGs X es (tGs K is)) (hes:es.all ay=true:=by rfl) (hn:es.length=n:=by rfl) (hi:is.length=n:=by rfl) (hc:X.calm=true:=by rfl) (hK:X.K=K:=by rfl):PG X (.Tuple es k pos) (tG K (.tp is)) :=by
 intro B s A H v u Q I T q;obtain⟨φ,st,env,w,env',E,F,r,e,q⟩:=q;cases w with
 |h n=>cases e
 |d x=>
  cases x with
  |tup ds=>
   have O:(if is.length=ds.length then some _ else none)=some env':=e;by_cases P:is.length=ds.length
   ·rw[iFP P]at O
    cases O;obtain⟨a,Y,rfl,hq,G⟩:=r;exact Ay hc h ((mF hes).trans hn) (jS hes) B s A H _ u Q I T ⟨a,Y,U,(SqT.of hq),by rw[<-G.length,<-P,hi],φ,st,env,ds,E,F,G,P,q⟩
   ·rw[iFN P]at O
    cases O
  |lst ds=>
   have O:(if is.length=ds.length then some _ else none)=some env':=e;by_cases P:is.length=ds.length
   ·rw[iFP P]at O
    cases O;obtain⟨a,Y,rfl,_,hq,G⟩:=r;exact Ff hc h ((mF hes).trans hn) (jS hes) B s A H _ u Q I T ⟨a,Y,U,.inl hq,by rw[<-G.length,<-P,hi],φ,st,env,ds,E,F,G,P,q⟩
   ·rw[iFN P]at O
    cases O
  |_=>cases e
variable {s:Stmt}{ss rest:List Stmt}{e a b c:Expr}{ga gb:Sf}{f fa fb fc:Ef}
theorem kB:ISs K X [] aU:=by
 refine⟨λenv st r G=>?_⟩;cases G;exact CU.imp λD A H ⟨φ,E,F,q⟩=>q A H φ (Fw.refl φ H) E F
theorem kC (h:IS K X s ga):ISs K X [s] ga:=⟨λenv st r G=>xK (h.run env st r G)⟩
theorem ik (h1:IS K X s ga) (h2:ISs K X rest gb):ISs K X (s::rest) (ag ga gb):=by
 refine⟨λenv st r G=>?_⟩;simp only[ag,qaa]at G;obtain⟨r1,N,G⟩:=G;cases r1 with
 |nx e s1=>
  refine (dc (h1.run _ _ _ N) (h2.run _ _ _ G)).imp ?_
  rintro D A H ⟨φ,E,F,q⟩
  exact⟨φ,E,F,λσ' H' φ' f' O s'=>⟨φ',O,s',q.fw f'⟩⟩
 |rt w s1=>
  cases G;exact (dc (h1.run _ _ _ N) fO).imp λD A H ⟨φ,E,F,q⟩=>⟨φ,E,F,q⟩
 |bk w s1=>
  cases G;exact (dc (h1.run _ _ _ N) fO).imp λD A H ⟨φ,E,F,q⟩=>⟨φ,E,F,q⟩
 |ct w s1=>
  cases G;exact (dc (h1.run _ _ _ N) fO).imp λD A H ⟨φ,E,F,q⟩=>⟨φ,E,F,q⟩
theorem oi (hN:X.N.Nodup) (hi:X.N[i]?=some x) (hx:Loc X.env.scope x) (he:IE K X e f) (hs:qcj e (some (.Name x pos')) pos.line X.env=pure false:=by rfl) (hf:X.fn x=true\/X.env.scope.names.lookup x=some .local:=by first|exact .inl U|exact .inr U|assumption) :
  IS K X (.Assign [.Name x pos'] e pos) (aA (.nm i) f) :=by
 refine⟨λenv st r G=>?_⟩;simp only[aA,cD,qaa,qad]at G;obtain⟨y,hy,O,ee,rfl⟩:=G;cases ee;refine (Fk hN hi hx (he.run _ _ _ hy) hs hf).imp ?_
 rintro D A H ⟨φ,E,F,q⟩
 exact⟨φ,E,F,λv H1 L M s1 w1=>q _ H1 L M ((E.fw F M).set i w1) s1⟩
theorem Sr.putC {st}{a}{c} (S:Sr K H φ st) (hn:φ[n]?=some a) (w:Fw φ φ H (upd H a o)->Rc K (upd H a o) φ n a c) :
  Fw φ φ H (upd H a o)/\Sr K (upd H a o) φ (st.set n c) :=by
 have f:Fw φ φ H (upd H a o):=⟨⟨[],by simp,by simp⟩,λb o hb h=>by rw[upd_ne (λz=>hb (by rw[z];exact (qbK hn)))];exact h,λb o h=>by
  by_cases z:b=a
  ·subst z;exact⟨_,upd_same⟩
  ·exact⟨o,by rw[upd_ne z];exact h⟩⟩
 refine⟨f,S.nd,by rw[qb6];exact S.len,λm b es N e2=>?_⟩;by_cases hm:n=m
 ·subst hm
  rw[N]at hn;cases hn;have P:n<st.length:=by rw[<-S.len];exact (qas.mp N).1
  rw[qbo P]at e2;cases e2;exact w f
 ·rw[qbA hm]at e2
  have hne:b≠a:=by
   rintro rfl
   obtain⟨h1,h1'⟩:=qas.mp hn;obtain⟨h2,h2'⟩:=qas.mp N;exact hm ((qdD S.nd).mp (h1'.trans h2'.symm))
  exact (S.at_ m b es N e2).fw S f λo h=>by rw[upd_ne hne];exact h
theorem Sr.put {st}{a}(S:Sr K H φ st) (hn:φ[n]?=some a) (w:Rls K H φ ds Y) :
  Fw φ φ H (upd H a (.lst Y))/\Sr K (upd H a (.lst Y)) φ (st.set n (.l ds)) :=S.putC hn λf=>⟨Y,upd_same,w.fw S f⟩
theorem wC {st }(h:gB st o i v=some s'):∃ n k x ds j,o=.h n/\i=.d (.int k)/\v=.d x/\lg st n=some ds/\ixN ds.length k=some j/\s'=st.set n (.l (ds.set j x)) :=by
 unfold gB at h;split at h
 ·obtain⟨ds,N,h⟩:=qaa.mp h
  obtain⟨j,e2,h⟩:=qad.mp h;exact⟨_,_,_,ds,j,U,U,U,N,e2,h.symm⟩
 ·cases h
theorem ii {tpos} (ho:IE K X a fa) (hi:IE K X b fb) (hv:IE K X e f) (hb:lM b=true:=by rfl) (hs:qdt [.Subscript a b tpos] e pos.line X.env=pure false:=by rfl) (hw:qdu [.Subscript a b tpos] e X.env=pure none:=by rfl) :
  IS K X (.Assign [.Subscript a b tpos] e pos) (bz fa fb f) :=by
 refine⟨λenv st r G=>?_⟩;simp only[bz,qaa,qad]at G;obtain⟨T,ev,ro,eo,ri,ei,s',es,rfl⟩:=G;refine (pi (hv.run _ _ _ ev) (sC (ho.run _ _ _ eo) (hi.run _ _ _ ei) kZ (mG hb)) hs hw (jU U)).imp ?_
 rintro D A H ⟨φ,E,F,q⟩
 refine⟨φ,E,F,λv H1 L M s1 w1=>⟨L,E.fw F M,s1,λo H2 φ2 f2 s2 w2=>⟨φ2,(E.fw F M).fw s1 f2,s2,λi H3 φ3 f3 s3 w3=>?_⟩⟩⟩;obtain⟨ro1,ro2⟩:=ro;obtain⟨rv1,rv2⟩:=T;obtain⟨ri1,ri2⟩:=ri;obtain⟨n,k,x,ds,j,rfl,rfl,rfl,eds,ej,rfl⟩:=wC es;obtain⟨p,ep,rfl⟩:=(w2.fw s2 f3);obtain⟨Y,hp,rl⟩:=s3.atl n p ds ep eds;subst w3;obtain⟨f4,s4⟩:=s3.put ep (Rls.set j rl ((w1.fw s1 f2).fw s2 f3));refine⟨p,Y,k,j,U,U,hp,by rw[<-rl.length];exact ej,?_⟩;exact q _ _ φ3 (((M.trans f2).trans f3).trans f4) ((((E.fw F M).fw s1 f2).fw s2 f3).fw s3 f4) s4
theorem oh (h:IE K X e f):IS K X (.Return (some e) pos) (aL f):=by
 refine⟨λenv st r G=>?_⟩;simp only[aL,qad]at G;obtain⟨y,hy,rfl⟩:=G;exact (Fj (h.run _ _ _ hy)).imp λD A H ⟨φ,E,F,q⟩=>⟨φ,E,F,q⟩
theorem ko (h:IE K X e f) (hs:qcj e none pos.line X.env=pure false:=by rfl):IS K X (.Expr e pos) (cw f):=by
 refine⟨λenv st r G=>?_⟩;simp only[cw,qad]at G;obtain⟨y,hy,rfl⟩:=G;exact (CT (h.run _ _ _ hy) hs).imp λD A H ⟨φ,E,F,q⟩=>⟨φ,E,F,λv H1 L M s1 w1=>q A H1 L M (E.fw F M) s1⟩
theorem uv (hc:IT K X c tc) (ha:ISs K X sa ga) (hb:ISs K X sb gb):IS K X (.If c sa sb pos) (be tc ga gb) :=by
 refine⟨λenv st r G=>?_⟩;simp only[be,qaa]at G;obtain⟨⟨k,s1⟩,hx,G⟩:=G;cases k with
 |true=>
  refine (DJ (hc.run _ _ _ hx) (ha.run _ _ _ G) fO).imp ?_
  rintro D A H ⟨φ,E,F,q⟩
  refine⟨φ,E,F,λH1 L M s1=>B9 ?_⟩;exact⟨L,E.fw F M,s1,q.fw M⟩
 |false=>
  refine (DJ (hc.run _ _ _ hx) fO (hb.run _ _ _ G)).imp ?_
  rintro D A H ⟨φ,E,F,q⟩
  refine⟨φ,E,F,λH1 L M s1=>B8 ?_⟩;exact⟨L,E.fw F M,s1,q.fw M⟩
theorem ig:IS K X (.Break pos) vR:=by
 refine⟨λenv st r G=>?_⟩;cases G;exact AH.imp λD A H ⟨φ,E,F,q⟩=>q A H φ (Fw.refl φ H) E F
theorem kl:IS K X (.Continue pos) qD:=by
 refine⟨λenv st r G=>?_⟩;cases G;exact u4.imp λD A H ⟨φ,E,F,q⟩=>q A H φ (Fw.refl φ H) E F
def Hl (K:qae) (g:Sf):TS:=λD A H=>∃ env st r,g env st=some r/\tS K env st r D A H
def Bl (K:qae) (f:Ef):TE:=λA H Q=>∃ env st r,f env st=some r/\tI K env st r A H Q
def xR (K:qae) (f:Tf):TT:=λA H Q=>∃ env st r,f env st=some r/\tIT K env st r A H Q
theorem ISs.any (h:ISs K X ss ga):PSs X ss (Hl K ga):=λB s A H D I ⟨env,st,r,e,q⟩=>h.run env st r e B s A H D I q
theorem IE.any (h:IE K X e f):PE X e (Bl K f):=λB s A H D I ⟨env,st,r,e,q⟩=>h.run env st r e B s A H D I q
theorem IT.any (h:IT K X e tf):PT X e (xR K tf) :=λB s A H D I ⟨env,st,r,e,q⟩=>h.run env st r e B s A H D I q
def Yl (K:qae) (φ0:List Addr) (H0:Hp) (J:It) (ds:List D):Prop:=∀ (H:Hp) (φ:List Addr) (st:Sto) (i:Nat),Fw φ0 φ H0 H->Sr K H φ st->
 (∀ d,ds[i]?=some d->J.go i H/\∀ x H',J.yld i H x H'->aQ H H'/\Rl K H' φ d x)/\(ds.length=i->J.stop i H)
def tII (K:qae) (env:Ev) (st:Sto) (r:List D×Sto):TI:=λA H R=>∃ φ,Er K H φ env A/\Sr K H φ st/\∀ J H' φ',Fw φ φ' H H'->Sr K H' φ' r.2->Yl K φ' H' J r.1->R J H'
structure II (K:qae) (X:Cx) (tg iter:Expr) (f:Lf):Prop where
 run:∀ env st r,f env st=some r->PI X tg iter (tII K env st r)
theorem PI.imp (h:PI X tg iter t) (m:∀ A H R,t' A H R->t A H R):PI X tg iter t' :=λB s A H R I q=>h B s A H R I (m A H R q)
variable {tg:Expr}
end
section
variable {K:qae}{X:Cx}{pos:Pos}{tg e a b:Expr}{f:Ef}{af:Af}
theorem lB (h:IE K X e f) (hK:X.K=K:=by rfl):II K X tg e (aC f):=by
 subst hK;refine⟨λenv st r B=>?_⟩;simp only[aC,qaa]at B;obtain⟨⟨w,s1⟩,hy,B⟩:=B;dsimp only at B;split at B
 ·rename_i ds
  cases B;refine (Fg (h.run _ _ _ hy)).imp ?_
  rintro G H R ⟨φ,Y,N,q⟩
  refine⟨φ,Y,N,λv H1 E f1 s1 w1=>?_⟩;obtain⟨a,P,rfl,hq,B⟩:=w1;refine⟨a,U,⟨P,(SqT.of hq)⟩,q _ H1 E f1 s1 λH2 u O i f2 s2=>?_⟩;have hq2:=(SqT.of hq).fw s1 f2;have hr2:=B.fw s1 f2;refine⟨λd hd=>?_,λhi=>⟨P,hq2,by rw[<-hr2.length];exact qdb hi⟩⟩;obtain⟨v,ev,rv⟩:=hr2.get hd;refine⟨⟨P,v,hq2,ev⟩,λx H' y=>?_⟩;obtain⟨rfl,y⟩:=y
  have:=y P hq2
  rw[ev]at this;cases this;exact⟨aQ.refl _,rv⟩
 ·rename_i ds
  cases B;refine (xG (h.run _ _ _ hy)).imp ?_
  rintro G H R ⟨φ,Y,N,q⟩
  refine⟨φ,Y,N,λv H1 E f1 s1 w1=>?_⟩;obtain⟨a,P,rfl,h0,hq,B⟩:=w1;refine⟨a,U,⟨P,.inl hq⟩,q _ H1 E f1 s1 λH2 u O i f2 s2=>?_⟩;have hq2:SqL X.K H2 a P:=.inl (hq.fw f2 h0);have hr2:=B.fw s1 f2;refine⟨λd hd=>?_,λhi=>⟨P,hq2,by rw[<-hr2.length];exact qdb hi⟩⟩;obtain⟨v,ev,rv⟩:=hr2.get hd;refine⟨⟨P,v,hq2,ev⟩,λx H' y=>?_⟩;obtain⟨rfl,y⟩:=y
  have:=y P hq2
  rw[ev]at this;cases this;exact⟨aQ.refl _,rv⟩
 all_goals cases B
theorem u8 (lo) (n i):(cG lo n)[i]?=if i<n then some (.int (lo+i)) else none :=by
 unfold cG;rw[qaz];by_cases h:i<n
 ·rw[qbe h,iFP h];rfl
 ·rw[qaF (by simpa using h),iFN h];rfl
theorem kX (lo) (n):(cG lo n).length=n :=by unfold cG;rw[qaf,qar]
theorem FU (lo) (n) :Yl K φ H (Itr lo n) (cG lo n) :=by
 intro H2 u O i f2 s2;refine⟨λd hd=>?_,λhi=>by rw[kX]at hi;exact qdb hi⟩;rw[u8]at hd;by_cases h:i<n
 ·rw[iFP h]at hd
  cases hd;refine⟨h,λx H' y=>?_⟩;obtain⟨rfl,rfl⟩:=y;exact⟨aQ.refl _,U⟩
 ·rw[iFN h]at hd;cases hd
theorem kh (hg:Gl X "range") (hm:X.mg "range" = none) (ha:IA K X [a] af) (hs:ay a=true:=by rfl):II K X tg (.Call (.Name "range" p) [a] [] pos) (bH af) :=by
 refine⟨λenv st r B=>?_⟩;simp only[bH,qaa]at B;obtain⟨⟨ws,s1⟩,hy,B⟩:=B;dsimp only at B;split at B
 case h_2=>cases B
 rename_i j;have L:(if -(2^62)<=j/\j<2^62 then some (cG 0 j.toNat,s1) else none)=some r:=B;by_cases hj:-(2^62)<=j/\j<2^62
 ·rw[iFP hj]at L
  cases L;refine (yS hg hm (ha.run _ _ _ hy) (iO hs)).imp ?_
  rintro G H R ⟨φ,Y,N,q⟩
  refine⟨φ,Y,N,λP H1 E f1 s1 w1=>?_⟩;obtain⟨v,r,rfl,r1,rfl⟩:=w1;exact⟨j,by rw[show v=.int j from r1],hj.1,hj.2,q _ H1 E f1 s1 (FU 0 _)⟩
 ·rw[iFN hj]at L;cases L
theorem dB:∀ (ds) (k i),(bF k ds)[i]?=(ds[i]?).map λd=>D.tup [.int ((k+i:Nat)),d]
 |[],k,i=>by simp[bF]
 |d::ds,k,0=>by simp[bF]
 |d::ds,k,i+1=>by
  have:=dB ds (k+1) i
  rw[show k+1+i=k+(i+1) by lia]at this;simpa [bF] using this
theorem lu:∀ (ds) (k),(bF k ds).length=ds.length
 |[],_=>rfl
 |d::ds,k=>by rw[bF,qam,qam,lu ds]
theorem ya (N:∀ H' W,Fw φ W H H'->S H' P) (B:∀ H' W,Fw φ W H H'->Rls K H' W ds P):Yl K φ H (Ite S) (bF 0 ds) :=by
 intro H2 u O i f2 s2;have q2:=N H2 u f2;have r2:=B H2 u f2;refine⟨λd hd=>?_,λhi=>⟨P,q2,by rw[<-r2.length,<-lu ds 0];exact hi⟩⟩;rw[dB,qad]at hd;obtain⟨d',hd',rfl⟩:=hd;obtain⟨v,ev,rv⟩:=r2.get hd';refine⟨⟨P,v,q2,ev⟩,λx H' y=>?_⟩;obtain⟨T,v',y1,hT,rfl,rfl⟩:=y
 have:=y1 P q2
 rw[ev]at this;cases this;refine⟨aQ.new hT _,T,_,U,upd_same,_,_,U,?_,_,_,U,rv.fw s2 (Fw.new hT),U⟩;show V.int _=V.int _;rw[qbg]
theorem kg {elts}{k}{tpos p} (hg:Gl X "enumerate") (hm:X.mg "enumerate" = none) (ha:IA K X [a] af) (hs:ay a=true:=by rfl) (hK:X.K=K:=by rfl) :
  II K X (.Tuple elts k tpos) (.Call (.Name "enumerate" p) [a] [] pos) (bL af) :=by
 subst hK;refine⟨λenv st r B=>?_⟩;simp only[bL,qaa]at B;obtain⟨⟨ws,s1⟩,hy,B⟩:=B;dsimp only at B;split at B
 ·rename_i ds
  cases B;refine (AA hg hm (ha.run _ _ _ hy) (iO hs)).imp ?_
  rintro G H R ⟨φ,Y,N,q⟩
  refine⟨φ,Y,N,λP H1 E f1 s1 w1=>?_⟩;obtain⟨v,r,rfl,⟨a,us,rfl,hq,B⟩,rfl⟩:=w1;exact⟨a,U,⟨us,(SqT.of hq)⟩,q _ H1 E f1 s1 (ya (λH' W f=>(SqT.of hq).fw s1 f) λH' W f=>B.fw s1 f)⟩
 ·rename_i ds
  cases B;refine (Az hg hm (ha.run _ _ _ hy) (iO hs)).imp ?_
  rintro G H R ⟨φ,Y,N,q⟩
  refine⟨φ,Y,N,λP H1 E f1 s1 w1=>?_⟩;obtain⟨v,r,rfl,⟨a,us,rfl,h0,hq,B⟩,rfl⟩:=w1;exact⟨a,U,⟨us,.inl hq⟩,q _ H1 E f1 s1 (ya (λH' W f=>.inl (hq.fw f h0)) λH' W f=>B.fw s1 f)⟩
 all_goals cases B
theorem lH (hi:II K X tg iter fi) (hg:PG X tg (tG K g)) (hb:ISs K X body gb) (hp:qgH (model X.prog X.w) X.A X.env X.xe) (hc:X.calm=true:=by rfl)
  (hs:∀ x,qbt iter X.env x=pure x:=by intro _;rfl):IS K X (.For tg iter body [] pos) (cE fi g gb) :=by
 refine⟨λenv st r B=>?_⟩;simp only[cE,qaa]at B;obtain⟨⟨ds,s1⟩,hy,B⟩:=B;refine (AJ hp hc (hi.run _ _ _ hy) hg hb.any hs).imp ?_
 rintro D G H ⟨φ,Y,N,q⟩
 refine⟨φ,Y,N,λJ H1 E f1 S1 yl=>?_⟩;refine⟨λi m G H=>m=ds.length - i/\i<=ds.length/\∃ env st u,Fw E u H1 H/\Er K H u env G/\Sr K H u st/\bu g gb (ds.drop i) env st=some r,⟨ds.length,by simp,qbr _,env,s1,E,Fw.refl _ _,Y.fw N f1,S1,B⟩,?_⟩
 rintro i m G H2 ⟨rfl,hi,env2,O,u,f2,e2,S2,h2⟩
 obtain⟨y1,y2⟩:=yl H2 u O i f2 S2;by_cases hlt:i<ds.length
 ·obtain⟨go,yld⟩:=y1 ds[i] (qal hlt)
  rw[qb4 hlt]at h2;simp only[bu,qaa]at h2;obtain⟨e3,he3,r3,hr3,h3⟩:=h2;refine .inr ⟨go,λσ' H'=>i+1<=ds.length/\∃ env st u,Fw E u H1 H'/\Er K H' u env σ'/\Sr K H' u st/\bu g gb _ env st=some r,λσ' H' ⟨hn,p'⟩=>⟨_,by lia,U,hn,p'⟩,λx H' y=>?_⟩;obtain⟨sm,rx⟩:=yld x H' y;have S3:=S2.same sm;have f3:=f2.trans (Fw.same sm);refine⟨u,O,env2,.d ds[i],e3,e2.fw S2 (Fw.same sm),S3,rx,he3,λσ' e' _=>?_⟩;refine⟨e3,O,r3,hr3,u,e',S3,?_⟩;cases r3 with
  |nx e4 s4=>exact λσ4 H4 F f4 e4' M=>⟨hlt,e4,s4,F,f3.trans f4,e4',M,h3⟩
  |ct e4 s4=>exact λσ4 H4 F f4 e4' M=>⟨hlt,e4,s4,F,f3.trans f4,e4',M,h3⟩
  |bk e4 s4=>
   cases h3;exact λσ4 H4 F f4 e4' M=>q σ4 H4 F (f1.trans (f3.trans f4)) e4' M
  |rt w s4=>
   cases h3;exact λv H4 F f4 M w4=>q v H4 F (f1.trans (f3.trans f4)) M w4
 ·have hi':i=ds.length:=by lia
  subst hi';rw[qep]at h2;cases h2;exact .inl ⟨y2 U,q G H2 u (f1.trans f2) e2 S2⟩
def ly (n:Nat) (c:Tf) (b:Sf):Sf
 |env,st=>bq c b n env st
theorem ij (n) (hc:IT K X c tc) (hb:ISs K X body gb) (hp:qgH (model X.prog X.w) X.A X.env X.xe):IS K X (.While c body [] pos) (ly n tc gb) :=by
 refine⟨λenv st r B=>?_⟩;refine (AL hp hc.any hb.any).imp ?_
 rintro D G H ⟨φ,Y,N,q⟩
 refine⟨λm G H'=>∃ env st u,Fw φ u H H'/\Er K H' u env G/\Sr K H' u st/\bq tc gb m env st=some r,⟨n,env,st,φ,Fw.refl _ _,Y,N,B⟩,?_⟩
 rintro m G H2 ⟨env2,O,u,f2,e2,S2,h2⟩
 cases m with
 |zero=>cases h2
 |succ m=>
  simp only[bq,qaa]at h2;obtain⟨⟨k,s3⟩,hk,h2⟩:=h2;refine⟨env2,O,_,hk,u,e2,S2,λH3 φ3 f3 S3=>?_⟩;cases k with
  |false=>
   cases h2;exact B8 (q G H3 φ3 (f2.trans f3) (e2.fw S2 f3) S3)
  |true=>
   simp only[if_true,qaa]at h2;obtain⟨r3,hr3,h3⟩:=h2;refine B9 ⟨_,λσ' H' p'=>⟨m,qb2 _,p'⟩,?_⟩;refine⟨env2,s3,r3,hr3,φ3,e2.fw S2 f3,S3,?_⟩;have f3':=f2.trans f3;cases r3 with
   |nx e4 s4=>exact λσ4 H4 F f4 e4' M=>⟨e4,s4,F,f3'.trans f4,e4',M,h3⟩
   |ct e4 s4=>exact λσ4 H4 F f4 e4' M=>⟨e4,s4,F,f3'.trans f4,e4',M,h3⟩
   |bk e4 s4=>
    cases h3;exact λσ4 H4 F f4 e4' M=>q σ4 H4 F (f3'.trans f4) e4' M
   |rt w s4=>
    cases h3;exact λv H4 F f4 M w4=>q v H4 F (f3'.trans f4) M w4
structure ITs (K:qae) (X:Cx) (ifs:List Expr) (t:Tf):Prop where
 run:PTs X ifs (xR K t)
theorem gg:ITs K X [] aM:=by
 refine⟨λpins s G H Q I ⟨env,st,r,e,φ,Y,N,q⟩=>?_⟩;cases e;exact CW pins s G H Q I (q H φ (Fw.refl φ H) N)
theorem kD (h:IT K X c t):ITs K X [c] t :=⟨CY h.any⟩
theorem Er.emb (h:Er K H φ env G) (k) (js):Er K H φ (jB k js env) (dH k js G) :=by
 refine⟨by unfold jB dH;simp,λi w e=>?_⟩;unfold jB at e;unfold dH;by_cases hi:i<k
 ·rw[qaC (by simpa using hi),qdg,iFP hi]at e
  cases e
 ·rw[qaK (by simpa using hi),qcQ,qaz,qad]at e
  obtain⟨j,ej,e⟩:=e;have ej2:env[j]?=some (some w):=by
   rw[qfT]at e;cases q:env[j]? with
   |none=>rw[q]at e;cases e
   |some o=>rw[q]at e;rw[show o=some w from e]
  obtain⟨v,ev,rv⟩:=h.at_ j w ej2;refine⟨v,?_,rv⟩;rw[qaK (by simpa using hi),qcQ,qaz,ej];show some ((G[j]?).getD none)=_;rw[ev];rfl
theorem Sub.stay (h:BI is (dH k js G) σ') (hi:∀ j∈is,j<k):Sub (dH k js G) σ' :=by
 refine⟨h.1.symm,λj v e=>?_⟩;by_cases hj:j∈is
 ·have:=hi j hj
  unfold dH at e;rw[qaC (by simpa using this),qdg,iFP this]at e;cases e
 ·rw[h.2 j hj];exact e
theorem v4 {st }(hgi:∀ j∈nP g,j<k) (hdl:ds.length<=1000000) (L:lcI g tt te (jB k js env) ds s1=some r) :
  ∀ G H Q,tIL K env st r G H Q->tLc (dH k js) (tII K env st (ds,s1)) (tG K g) (xR K tt) (Bl K te) G H Q :=by
 rintro G H Q ⟨φ,Y,N,q⟩
 refine⟨φ,Y,N,λJ H1 E f1 S1 yl=>?_⟩;refine⟨λi m ys H2=>m=ds.length - i/\i<=ds.length/\∃ st u es r2,Fw E u H1 H2/\Sr K H2 u st/\Rls K H2 u es ys/\es.length<=i/\lcI g tt te _ (ds.drop i) st=some r2/\r=(es++r2.1,r2.2),⟨ds.length,by simp,qbr _,s1,E,[],r,Fw.refl _ _,S1,U,qan _,L,U⟩,?_⟩
 rintro i m ys H2 ⟨rfl,hi,O,u,es,r2,f2,S2,rl2,hle,h2,rfl⟩
 obtain⟨y1,y2⟩:=yl H2 u O i f2 S2;by_cases hlt:i<ds.length
 ·obtain⟨go,yld⟩:=y1 ds[i] (qal hlt)
  rw[qb4 hlt]at h2;simp only[lcI,qaa]at h2;obtain⟨e3,he3,⟨kb,s3⟩,hb3,h3⟩:=h2;have hz:ys.length<qaG:=by
   rw[<-rl2.length]
   have:=qcz
   lia
  refine .inr ⟨go,hz,λys' H'=>i+1<=ds.length/\∃ st u es' r2',Fw E u H1 H'/\Sr K H' u st/\Rls K H' u es' ys'/\es'.length<=i+1/\lcI g tt te _ _ st=some r2'/\(es++r2.1,r2.2)=(es'++r2'.1,r2'.2),λys' H' ⟨hn,p'⟩=>⟨_,by lia,U,hn,p'⟩,λx H' y=>?_⟩;obtain⟨sm,rx⟩:=yld x H' y;have S3:=S2.same sm;have f3:=f2.trans (Fw.same sm);refine⟨u,O,_,.d ds[i],e3,((Y.fw N f1).emb k js).fw S1 f3,S3,rx,he3,λσ' e' stay=>⟨Sub.stay stay hgi,?_⟩⟩;refine⟨e3,O,_,hb3,u,e',S3,λH4 F f4 S4=>?_⟩;cases kb with
  |false=>
   exact B8 ⟨hlt,s3,F,es,r2,f3.trans f4,S4,(rl2.fw S2 (Fw.same sm)).fw S3 f4,by lia,h3,U⟩
  |true=>
   simp only[if_true,qaa,qad]at h3;obtain⟨x5,hx5,zs,hzs,r5,hr5,rfl⟩:=h3;refine B9 ⟨e3,s3,x5,hx5,F,e'.fw S3 f4,S4,λv H5 φ5 f5 S5 w5=>?_⟩;obtain⟨x5,s5⟩:=x5;cases x5 with
   |h n=>cases hzs
   |d z=>
    cases hzs;refine⟨hlt,s5,φ5,es++[z],r5,(f3.trans f4).trans f5,S5,(((rl2.fw S2 (Fw.same sm)).fw S3 f4).fw S4 f5).append ⟨v,_,U,w5,U⟩,by simp;lia,hr5,?_⟩
    simp
 ·have hi':i=ds.length:=by lia
  subst hi';rw[qep]at h2;cases h2;refine .inl ⟨y2 U,λDn hD=>?_⟩
  have:=q Dn ys H2 u (f1.trans f2) S2 hD
  exact this (by simpa using rl2)
theorem zR (S:cS X A Nc (dH k js)) (hc:X.calm=true) (hgi:∀ j∈nP g,j<k) (hi:II K X tg iter fi)
  (hg:∀ l s H C fp,PG (lcX X A l Nc s H C fp) tg (tG K g)) (ht:∀ l s H C fp,ITs K (lcX X A l Nc s H C fp) ifs tt) (he:∀ l s H C fp,IE K (lcX X A l Nc s H C fp) elt te)
  (hs:∀ x,qbt iter X.env x=pure x:=by intro _;rfl):IL K X (.ListComp elt [⟨tg,iter,ifs,0⟩] A pos) (iLc k js fi g tt te) :=by
 refine⟨λenv st r B=>?_⟩;simp only[iLc,qaa]at B;obtain⟨⟨ds,s1⟩,hy,B⟩:=B;have L:=B;by_cases hdn:¬ ds.length<=1000000
 ·rw[iFN hdn]at L;cases L
 have hdl:ds.length<=1000000:=by lia
 rw[iFP hdl]at L;refine (GU S hc (hi.run _ _ _ hy) hg (λl s H C fp=>(ht l s H C fp).run) (λl s H C fp=>(he l s H C fp).any) hs).imp (v4 hgi hdl L)
theorem Gu { spos}
  (hN0:X.N.Nodup) (hi0:X.N[i0]?=some x0) (hx0:Loc X.env.scope x0) (S:cS X A Nc (dH k js)) (hc:X.calm=true) (hgi:∀ j∈nP g,j<k) (hi:II K X tg iter fi)
  (hg:∀ l s H C fp,PG (lcX X A l Nc s H C fp) tg (tG K g)) (ht:∀ l s H C fp,ITs K (lcX X A l Nc s H C fp) ifs tt) (he:∀ l s H C fp,IE K (lcX X A l Nc s H C fp) elt te)
  (hsw:qcj (.ListComp elt [⟨tg,iter,ifs,0⟩] A pos) (some (.Name x0 py)) spos.line X.env=pure true:=by rfl)
  (hf0:X.fn x0=true\/X.env.scope.names.lookup x0=some .local:=by first|exact .inl U|exact .inr U|assumption)
  (hs:∀ x,qbt iter X.env x=pure x:=by intro _;rfl):IS K X (.Assign [.Name x0 py] (.ListComp elt [⟨tg,iter,ifs,0⟩] A pos) spos) (aA (.nm i0) (aq (iLc k js fi g tt te)))/\
   IS K X (.Assign [.Name x0 py] (.ListComp elt [⟨tg,iter,ifs,0⟩] A pos) spos) (aA (.nm i0) (bM (iLc k js fi g tt te))) :=by
 have key:∀ env st r0 r,iLc k js fi g tt te env st=some r->(∀ G φ H (D:mU),Er K H φ env G->Sr K H φ st->yc K φ H D r0->∀ a P H1 W,Fw φ W H H1->Sr K H1 W r.2->H1 a=none->Rls K H1 W r.1 P->D.nx (G.set i0 (some (.ref a))) (upd H1 a (.lst P)))->
   PS X (.Assign [.Name x0 py] (.ListComp elt [⟨tg,iter,ifs,0⟩] A pos) spos) (tS K env st r0):=by
  intro env st r0 r B h;simp only[iLc,qaa]at B;obtain⟨⟨ds,s1⟩,hy,B⟩:=B;have L:=B;by_cases hdn:¬ ds.length<=1000000
  ·rw[iFN hdn]at L;cases L
  have hdl:ds.length<=1000000:=by lia
  rw[iFP hdl]at L;refine (AK hN0 hi0 hx0 S hc (hi.run _ _ _ hy) hg (λl s H C fp=>(ht l s H C fp).run) (λl s H C fp=>(he l s H C fp).any) hsw hf0 hs).imp ?_
  rintro D G H ⟨φ,Y,N,q⟩
  exact v4 hgi hdl L G H _ ⟨φ,Y,N,h G φ H D Y N q⟩
 constructor
 ·refine⟨λenv st r B=>?_⟩
  simp only[aA,aq,cD,qaa,qad]at B;obtain⟨y,⟨r2,hy,rfl⟩,e',ee,rfl⟩:=B;cases ee;refine key _ _ _ _ hy λG φ H D Y N q a P H1 E f1 s1 n1 w1=>?_;exact q _ _ E (f1.trans (Fw.new n1)) ((((Y.fw N f1).fw s1 (Fw.new n1))).set i0 ⟨a,P,U,s1.nin n1,.inl upd_same,w1.fw s1 (Fw.new n1)⟩) (s1.new n1)
 ·refine⟨λenv st r B=>?_⟩
  simp only[aA,bM,cD,qaa,qad]at B;obtain⟨y,⟨r2,hy,rfl⟩,e',ee,rfl⟩:=B;cases ee;refine key _ _ _ _ hy λG φ H D Y N q a P H1 E f1 s1 n1 w1=>?_;exact q _ _ _ (f1.trans (Fw.more n1)) (((Y.fw N f1).fw s1 (Fw.more n1)).set i0 ⟨a,by rw[<-s1.len];simp,U⟩) (s1.more n1 w1)
end
noncomputable def bv (n k:Nat) (b:Sf):Fn
 |ws,st=>if ws.length=k then (b (ws.map some++qaJ (n - k) none) st).bind λr=>match r with
 |.nx _ s=>some (.d .non,s)
 |.rt w s=>some (w,s)
 |_=>none
 else none
def zG (n:Nat) (w:W) (s:Sto):Option (W×Sto):=match w with
 |.d x=>some (.d x,s.take n)
 |.h m=>if m<n then some (.h m,s.take n) else (lg s m).map λds=>(.d (.lst ds),s.take n)
def dW (n k:Nat) (b:Sf):Fn
 |ws,st=>if ws.length=k then (b (ws.map some++qaJ (n - k) none) st).bind λr=>match r with
 |.nx _ s=>some (.d .non,s.take st.length)
 |.rt w s=>zG st.length w s
 |_=>none
 else none
section
variable {P:qaR}{w:World}{K:qae}{mg:Str->Option Value}{base:Heap}
theorem nK {k}:∀ {ws}{o},Rws K H φ ws o->ws.length=k->Er K H φ (ws.map some++qaJ (N.length - k) none) (iP N o) :=by
 intro ws o r hk;have n:=r.length;refine⟨by unfold iP;simp;lia,λi x e=>?_⟩;unfold iP;by_cases hi:i<ws.length
 ·rw[qaC (by simpa using hi),qaz,qad]at e
  obtain⟨y,G,e⟩:=e
  have:∃ v,o[i]?=some v/\Rw K H φ y v:=by
   clear hk n hi e
   induction ws generalizing o i with
   |nil=>simp at G
   |cons w ws ih=>
    obtain⟨v,r',rfl,r1,r2⟩:=r;cases i with
    |zero=>simp at G;subst G;exact⟨v,U,r1⟩
    |succ i=>simpa using ih r2 i (by simpa using G)
  obtain⟨v,ev,T⟩:=this;cases e;refine⟨v,?_,T⟩;rw[qaC (by rw[qaf,<-n];exact hi),qaz,ev];rfl
 ·rw[qaK (by simpa using hi)]at e
  have:=qbK e
  have:=(List.mem_replicate.mp this).2
  cases this
theorem HP {st}(F:Fun K x g st f fd) (S:cf N ps (ao st))
  (hb:∀ (j) (A) (outer) (s) (H) (E),bj k (A.deeper (qex g (ao st) s.heap.objs.size f j))->ISs K (fq CX0 P w K mg base N g (ao st) f j A outer s H E).nox (aW st) b) :
  dm P w K mg base CX0 (k+1) f fd ps (spI K (bv N.length ps.length b)) :=by
 refine F.ok S (λo H Q E h=>?_) λj A outer s H o Q E O h=>?_
 ·obtain⟨φ,st,ws,r,e,rw,_⟩:=h
  rw[bv]at e;by_cases n:ws.length=ps.length
  ·rw[<-rw.length,n]
  ·rw[iFN n]at e;cases e
 ·obtain⟨φ,u,ws,r,e,rw,S',q⟩:=h
  rw[bv]at e;by_cases n:ws.length=ps.length
  ·rw[iFP n]at e
   obtain⟨fl,I,p⟩:=qaa.mp e;refine⟨_,(hb j A outer s H E O).run _ _ _ I,φ,nK rw n,S',?_⟩;cases fl with
   |nx e s=>cases p;exact λR H' c l e' s'=>q .non H' c l s' U
   |rt w s=>cases p;exact λv H' c l s' D=>q v H' c l s' D
   |bk e s=>cases p
   |ct e s=>cases p
  ·rw[iFN n]at e;cases e
theorem Fw.less (f:Fw φ c H H'):Fw φ φ H H' :=⟨⟨[],by simp,by simp⟩,f.keep,f.there⟩
theorem Gi {st}(F:Fun K x g st f fd) (S:cf N ps (ao st))
  (hb:∀ (j) (A) (outer) (s) (H) (E),bj k (A.deeper (qex g (ao st) s.heap.objs.size f j))->ISs K (fq CX0 P w K mg base N g (ao st) f j A outer s H E).nox (aW st) b) :
  dm P w K mg base CX0 (k+1) f fd ps (spI K (dW N.length ps.length b)) :=by
 refine F.ok S (λo H Q E h=>?_) λj A outer s H o Q E O h=>?_
 ·obtain⟨φ,st,ws,r,e,rw,_⟩:=h
  rw[dW]at e;by_cases n:ws.length=ps.length
  ·rw[<-rw.length,n]
  ·rw[iFN n]at e;cases e
 ·obtain⟨φ,u,ws,r,e,rw,S',q⟩:=h
  rw[dW]at e;by_cases n:ws.length=ps.length
  ·rw[iFP n]at e
   obtain⟨fl,I,p⟩:=qaa.mp e;refine⟨_,(hb j A outer s H E O).run _ _ _ I,φ,nK rw n,S',?_⟩;have less:∀ {H':Hp}{c:List Addr}{s':Sto},Fw φ c H H'->Sr K H' c s'->Sr K H' φ (s'.take u.length):=λ{H' c s'} l S2=>by
    obtain⟨ψ,rfl,_⟩:=l.ext;rw[<-S'.len];exact S2.less
   cases fl with
   |nx e s=>cases p;exact λR H' c l e' s'=>q .non H' φ l.less (less l s') U
   |rt w s=>
    intro v H' c l s' D;have B:zG u.length w s=some r:=p;obtain⟨ψ,t,_⟩:=l.ext;cases w with
    |d x=>
     cases B;subst t;exact q v H' φ l.less (less l s') (Rl.less D)
    |h m=>
     obtain⟨a,C,rfl⟩:=D;unfold zG at B;by_cases hm:m<u.length
     ·have e4:=by
       have:=B
       simp only[hm,if_true]at this;exact this
      cases e4;subst t;rw[qaC (by rw[S'.len];exact hm)]at C;exact q _ H' φ l.less (less l s') ⟨a,C,U⟩
     ·simp only[hm,if_false]at B
      obtain⟨ds,J,rfl⟩:=qad.mp B;obtain⟨o,hv,X⟩:=s'.atl m a ds C J;have hn:a∉φ:=λz=>by
       obtain⟨i,hi,Y⟩:=qcv.mp z;have h1:c[i]?=some a:=by subst t;rw[qaC hi,qal hi,Y]
       obtain⟨h2,L⟩:=qas.mp h1;obtain⟨h3,M⟩:=qas.mp C
       have:=(qdD s'.nd).mp (L.trans M.symm)
       rw[S'.len]at hi;lia
      subst t;exact q _ H' φ l.less (less l s') ⟨a,o,U,hn,.inl hv,X.less⟩
   |bk e s=>cases p
   |ct e s=>cases p
  ·rw[iFN n]at e;cases e
end
noncomputable def bN:D->Bool
 |.non=>true
 |.bl _=>true
 |.int _=>true
 |.str _=>true
 |_=>false
noncomputable def vOf:D->V
 |.bl b=>.bl b
 |.int i=>.int i
 |.str x=>.str x
 |_=>.non
mutual
noncomputable def eqD:D->D->Bool
 |.non,.non=>true
 |.bl a,.bl b=>a==b
 |.bl a,.int b=>(if a then 1 else 0)==b
 |.int a,.bl b=>a==(if b then 1 else 0)
 |.int a,.int b=>a==b
 |.str a,.str b=>a==b
 |.tup as,.tup bs=>jf as bs
 |.lst as,.lst bs=>jf as bs
 |_,_=>false
noncomputable def jf:List D->List D->Bool
 |[],[]=>true
 |a::as,b::bs=>eqD a b&&jf as bs
 |_,_=>false
end
noncomputable def okD:Nat->D->Bool
 |_,.non=>true
 |_,.bl _=>true
 |_,.int _=>true
 |_,.str _=>true
 |n+1,.tup ds=>ds.all (okD n)
 |n+1,.lst ds=>ds.all (okD n)
 |_,_=>false
def lsD (st:Sto):W->Option (List D)
 |.d (.lst ds)=>some ds
 |.h n=>lg st n
 |_=>none
def a9 (st:Sto) (x y:W):Option D:=match x,y with
 |.d (.int i),.d (.int j)=>some (.int (i+j))
 |.d (.tup a),.d (.tup b)=>if a.length+b.length<=1000000 then some (.tup (a++b)) else none
 |.d (.str a),.d (.str b)=>if a.length+b.length<=1000000 then some (.str (a++b)) else none
 |x,y=>(lsD st x).bind λa=>(lsD st y).bind λb=>if a.length+b.length<=1000000 then some (.lst (a++b)) else none
noncomputable def eW (_:Sto):W->W->Option D
 |.d (.int i),.d (.int j)=>some (.int (i - j))
 |_,_=>none
instance (a b:Int):Decidable (qgu a b):=by unfold qgu;infer_instance
noncomputable def aZ (_:Sto):W->W->Option D
 |.d (.int i),.d (.int j)=>if qgu i j then some (.int (i*j)) else none
 |.d (.tup a),.d (.int k)=>if a≠[]/\a.length<=1000/\0<=k/\k<1000 then some (.tup (qaJ k.toNat a).flatten) else none
 |.d (.lst a),.d (.int k)=>if a.length<=1000/\-1000<=k/\k<1000 then some (.lst (qaJ k.toNat a).flatten) else none
 |_,_=>none
noncomputable def gR (_:Sto):W->W->Option D
 |.d (.int i),.d (.int j)=>if 0<j/\j<1073741824 then some (.int (i / j)) else none
 |_,_=>none
noncomputable def f7 (_:Sto):W->W->Option D
 |.d (.int i),.d (.int j)=>if 0<j then some (.int (i%j)) else none
 |_,_=>none
instance (i j:Int):Decidable (vB i j):=by unfold vB;infer_instance
noncomputable def BU (_:Sto):W->W->Option D
 |.d (.int i),.d (.int j)=>if vB i j then some (.int (i^j.toNat)) else none
 |_,_=>none
noncomputable def BV (_:Sto):W->W->Option D
 |.d (.int i),.d (.int j)=>if vB i j then some (.int (i*2^j.toNat)) else none
 |_,_=>none
noncomputable def yo (_:Sto):W->W->Option D
 |.d (.int i),.d (.int j)=>if 0<=j then some (.int (i / 2^j.toNat)) else none
 |_,_=>none
noncomputable def dLt (_:Sto):W->W->Option D
 |.d (.int i),.d (.int j)=>some (.bl (decide (i<j)))
 |_,_=>none
noncomputable def dGt (_:Sto):W->W->Option D
 |.d (.int i),.d (.int j)=>some (.bl (decide (j<i)))
 |_,_=>none
noncomputable def dGe (_:Sto):W->W->Option D
 |.d (.int i),.d (.int j)=>some (.bl (decide (j<=i)))
 |_,_=>none
noncomputable def db:D->Bool
 |.non=>true
 |_=>false
def jz (_:Sto):W->W->Option D
 |.d x,.d .non=>some (.bl (db x))
 |_,_=>none
def tW (_:Sto):W->W->Option D
 |.d x,.d .non=>some (.bl (!db x))
 |_,_=>none
def inD (x:D) (ds:List D):Bool:=ds.any λy=>eqD y x
def dIn (st:Sto) (x y:W):Option D:=match x with
 |.d x=>(gI st y).bind λds=>if bN x=true/\ds.all bN=true then some (.bl (inD x ds)) else none
 |_=>none
def rA (st:Sto) (x y:W):Option D:=match x with
 |.d x=>(gI st y).bind λds=>if bN x=true/\ds.all bN=true then some (.bl (!inD x ds)) else none
 |_=>none
section
variable {K:qae}{X:Cx}
theorem eL (h:bN d=true) (r:Rl K H φ d v):v=vOf d/\d9 v=true :=by
 cases d with
 |non=>cases (r);exact⟨U,U⟩
 |bl b=>cases (r);exact⟨U,U⟩
 |int b=>cases (r);exact⟨U,U⟩
 |str b=>cases (r);exact⟨U,U⟩
 |_=>cases h
theorem rO (J:bN a=true) (hb:bN b=true):eqV (vOf a) (vOf b)=eqD a b :=by
 cases a<;>cases b<;>first|rfl|(cases J;done)|(cases hb)|(done)
theorem pF {H:Hp}{φ:List Addr}:∀ {ds:List D}{m:List V},ds.all bN=true->Rls K H φ ds m->m=ds.map vOf/\m.all d9=true
 |[],_,_,h=>by cases h;exact⟨U,U⟩
 |d::ds,_,h,r=>by
  rw[qbw,qa0]at h;obtain⟨v,L,rfl,l,k⟩:=r;obtain⟨s,t⟩:=eL h.1 l;obtain⟨w,u⟩:=pF h.2 k;exact⟨by rw[s,w];rfl,by rw[qbw,t,u];rfl⟩
theorem rR (hx:bN x=true):∀ {ds},ds.all bN=true->inV (vOf x) (ds.map vOf)=inD x ds
 |[],_=>rfl
 |d::ds,h=>by
  rw[qbw,qa0]at h;have E:=rR hx h.2;unfold inV inD at E ⊢;rw[qat,qcg,qcg,E,rO h.1 hx]
theorem ET (h:∀ st x y d,g st x y=some d->∃ i j,x=.d (.int i)/\y=.d (.int j)/\OpR X f (λp o H Q=>p=.int i/\o=.int j/\Q (vOf d) H)/\bN d=true):OpD K X f g :=by
 refine⟨λst x y d hd=>?_⟩;obtain⟨i,j,rfl,rfl,I,G⟩:=h st x y d hd;refine I.imp ?_
 rintro p o H Q ⟨φ,S,l,k,q⟩
 refine⟨l,k,q _ H (aQ.refl H) ?_⟩;cases d<;>first|rfl|cases G
theorem w2 {x y:W}{F:Int->Int->Option D} (h:(match x,y with|.d (.int i),.d (.int j)=>F i j|_,_=>none)=some d):∃ i j,x=.d (.int i)/\y=.d (.int j)/\F i j=some d :=by
 split at h
 ·exact⟨_,_,U,U,h⟩
 ·cases h
theorem ifS [Decidable c] {a d:D} (h:(if c then some a else none)=some d):c/\a=d :=by
 split at h
 ·rename_i q
  exact⟨q,qaP h⟩
 ·cases h
theorem iH {F:Int->Int->Option D} (e:∀ st x y,g st x y=match x,y with|.d (.int i),.d (.int j)=>F i j|_,_=>none) (h:∀ i j d,F i j=some d->OpR X f (λp o H Q=>p=.int i/\o=.int j/\Q (vOf d) H)/\bN d=true):OpD K X f g :=ET λst x y d hd=>by
 rw[e]at hd;obtain⟨i,j,rfl,rfl,hd⟩:=w2 hd;exact⟨i,j,U,U,h i j d hd⟩
theorem pd:OpD K X (qbG .Sub) eW:=iH (λ_ _ _=>rfl) λi j d h=>by cases h;exact⟨E7.imp λ_ _ _ _ q=>⟨i,j,q⟩,U⟩
theorem uS:OpD K X (qbP .Lt) dLt:=iH (λ_ _ _=>rfl) λi j d h=>by cases h;exact⟨GR.imp λ_ _ _ _ q=>⟨i,j,q⟩,U⟩
theorem qN:OpD K X (qbP .Gt) dGt:=iH (λ_ _ _=>rfl) λi j d h=>by cases h;exact⟨GQ.imp λ_ _ _ _ q=>⟨i,j,q⟩,U⟩
theorem uQ:OpD K X (qbP .GtE) dGe:=iH (λ_ _ _=>rfl) λi j d h=>by cases h;exact⟨GP.imp λ_ _ _ _ q=>⟨i,j,q⟩,U⟩
theorem kR:OpD K X (qbG .FloorDiv) gR:=iH (λ_ _ _=>rfl) λi j d h=>by obtain⟨c,rfl⟩:=ifS h;exact⟨CF.imp λ_ _ _ _ q=>⟨i,j,q.1,q.2.1,c,q.2.2⟩,U⟩
theorem oW:OpD K X (qbG .Mod) f7:=iH (λ_ _ _=>rfl) λi j d h=>by obtain⟨c,rfl⟩:=ifS h;exact⟨E3.imp λ_ _ _ _ q=>⟨i,j,q.1,q.2.1,c,q.2.2⟩,U⟩
theorem oY:OpD K X (qbG .Pow) BU:=iH (λ_ _ _=>rfl) λi j d h=>by obtain⟨c,rfl⟩:=ifS h;exact⟨E4.imp λ_ _ _ _ q=>⟨i,j,q.1,q.2.1,c,q.2.2⟩,U⟩
theorem oZ:OpD K X (qbG .LShift) BV:=iH (λ_ _ _=>rfl) λi j d h=>by obtain⟨c,rfl⟩:=ifS h;exact⟨E5.imp λ_ _ _ _ q=>⟨i,j,q.1,q.2.1,c,q.2.2⟩,U⟩
theorem o8:OpD K X (qbG .RShift) yo:=iH (λ_ _ _=>rfl) λi j d h=>by obtain⟨c,rfl⟩:=ifS h;exact⟨E6.imp λ_ _ _ _ q=>⟨i,j,q.1,q.2.1,c,q.2.2⟩,U⟩
theorem A0 (r:Rl K H φ d v):decide (v=.non)=db d :=by
 cases d with
 |non=>cases (r);rfl
 |bl b=>cases (r);rfl
 |int b=>cases (r);rfl
 |str b=>cases (r);rfl
 |ty b=>cases (r);rfl
 |dct=>obtain⟨a,rfl,_⟩:=r;rfl
 |scr ns=>obtain⟨a,rfl,_⟩:=r;rfl
 |tup ds=>obtain⟨a,m,rfl,_⟩:=r;rfl
 |lst ds=>obtain⟨a,m,rfl,_⟩:=r;rfl
 |ob ns ds=>obtain⟨a,_,_,_,m,rfl,_⟩:=r;rfl
theorem oV:OpD K X (qbP .Is) jz:=by
 refine⟨λst x y d h=>?_⟩
 match x,y,h with
 |.d x,.d .non,h=>
  cases h;refine E2.imp ?_
  rintro p o H Q ⟨φ,S,l,k,q⟩
  refine⟨k,q _ H (aQ.refl H) ?_⟩;rw[A0 l];rfl
theorem kS:OpD K X (qbP .IsNot) tW:=by
 refine⟨λst x y d h=>?_⟩
 match x,y,h with
 |.d x,.d .non,h=>
  cases h;refine CH.imp ?_
  rintro p o H Q ⟨φ,S,l,k,q⟩
  refine⟨k,q _ H (aQ.refl H) ?_⟩;rw[A0 l];rfl
theorem uR (z:X.K=K:=by rfl):OpD K X (qbP .In) dIn:=by
 subst z;refine⟨λst x y d h=>?_⟩
 match x,h with
 |.d x,h=>
  simp only[dIn,qaa]at h;obtain⟨ds,A,h⟩:=h;split at h
  ·rename_i n
   cases h;refine yQ.imp ?_
   rintro p o H Q ⟨φ,S,l,k,q⟩
   obtain⟨a,m,rfl,B,C⟩:=jb S k A;obtain⟨s,t⟩:=eL n.1 l;obtain⟨w,u⟩:=pF n.2 C;refine⟨a,m,U,B,t,u,q _ H (aQ.refl H) ?_⟩;rw[s,w,rR n.1 n.2];rfl
  ·cases h
theorem iI (z:X.K=K:=by rfl):OpD K X (qbP .NotIn) rA:=by
 subst z;refine⟨λst x y d h=>?_⟩
 match x,h with
 |.d x,h=>
  simp only[rA,qaa]at h;obtain⟨ds,A,h⟩:=h;split at h
  ·rename_i n
   cases h;refine sA.imp ?_
   rintro p o H Q ⟨φ,S,l,k,q⟩
   obtain⟨a,m,rfl,B,C⟩:=jb S k A;obtain⟨s,t⟩:=eL n.1 l;obtain⟨w,u⟩:=pF n.2 C;refine⟨a,m,U,B,t,u,q _ H (aQ.refl H) ?_⟩;rw[s,w,rR n.1 n.2];rfl
  ·cases h
end
section
variable {K:qae}{X:Cx}
theorem CB:OpR X (qbG .Add) (λx y H Q=>∃ l b xs zs,x=.ref l/\y=.ref b/\Rd H l (.lst xs)/\Rd H b (.lst zs)/\xs.length+zs.length<=qaG/\∀ p,H p=none->Q (.ref p) (upd H p (.lst (xs++zs)))):=by
 intro G s M H x y v u Q I rx ry h;obtain⟨l,b,xs,zs,rfl,rfl,hH,hB,hz,q⟩:=h;cases rx;cases ry;obtain⟨z,A,n,r,e⟩:=hH.ok I.hok;obtain⟨z2,N,n2,L,e2⟩:=hB.ok I.hok;have J:=r.length;have hl2:=L.length;refine PySem.P.add_list e e2 ?_ (by rw[qaB,qaB];lia);have ea:A.toArray++N.toArray=(A++N).toArray:=by simp
 rw[ea];exact⟨.ref _,_,I.lnew (r.append L) (by rw[qau];lia),U,q _ I.fresh⟩
theorem Am:OpR X (qbG .Add) (λx y H Q=>∃ a b xs ys,x=.ref a/\y=.ref b/\SqT X.K H a xs/\SqT X.K H b ys/\xs.length+ys.length<=qaG/\
  (xs=[]->Q (.ref b) H)/\(ys=[]->Q (.ref a) H)/\∀ p,H p=none->Q (.ref p) (upd H p (.tup (xs++ys)))):=by
 intro G s M H x y v u Q I rx ry h;obtain⟨a,b,xs,ys,rfl,rfl,ha,hb,hz,q0,q1,q2⟩:=h;by_cases hx:xs=[]
 ·cases rx
  cases ry;obtain⟨A,O,p1,_⟩:=I.tuple ha;obtain⟨N,L,p2,_⟩:=I.tuple hb;obtain⟨⟨cls,dd,data,sl⟩,ho,hc,n,hd⟩:=id p1;obtain⟨⟨cls2,dd2,data2,sl2⟩,ho2,hc2,n2,hd2⟩:=id p2;subst hc hd hc2 hd2;exact qhI ⟨_,ho,U⟩ ⟨_,ho2,U⟩ qgj qhh qeh qd9 (qdX _ _)
   (tuple_addW0 a b A.toArray N.toArray n n2 dd dd2 sl sl2 (by simp[O.nil_iff.mpr hx])) ⟨ho,ho2,.ref b,H,I,U,q0 hx⟩
 ·exact CC G s M H _ _ v u Q I rx ry ⟨a,b,xs,ys,U,U,ha,hb,hx,hz,q1,λ_ p E=>q2 p E⟩
theorem oK {st}(S:Sr K H φ st) (r:Rw K H φ w v) (e:lsD st w=some ds):∃ a g,v=.ref a/\Rd H a (.lst g)/\Rls K H φ ds g :=by
 cases w with
 |h n=>
  obtain⟨a,ea,rfl⟩:=r;obtain⟨g,q,rl⟩:=S.atl n a ds ea e;exact⟨a,g,U,.inl q,rl⟩
 |d x=>
  cases x with
  |lst es=>cases e;obtain⟨a,g,rfl,h0,C,B⟩:=r;exact⟨a,g,U,C,B⟩
  |_=>cases e
theorem mil:(1000000)<=qaG :=by decide
theorem iG (hK:X.K=K:=by rfl):OpD K X (qbG .Add) a9:=by
 subst hK;refine⟨λst x y d h=>?_⟩;have P:(lsD st x).bind (λa=>(lsD st y).bind λb=>if a.length+b.length<=1000000 then some (.lst (a++b)) else none)=some d->OpR X _ (rD X.K st x y d):=λh=>by
  simp only[qaa]at h;obtain⟨as,ha,bs,hb,h⟩:=h;split at h
  ·rename_i J
   cases h;refine CB.imp ?_
   rintro vx vy H Q ⟨φ,S,O,L,q⟩
   obtain⟨a,Y,rfl,C,B⟩:=oK S O ha;obtain⟨b,g,rfl,h3,h4⟩:=oK S L hb;refine⟨a,b,Y,g,U,U,C,h3,by rw[<-B.length,<-h4.length];exact qaD J mil,λp E=>q _ _ (aQ.new E _) ?_⟩;exact⟨p,_,U,S.nin E,.inl upd_same,(B.append h4).fw S (Fw.new E)⟩
  ·cases h
 match x,y,h with
 |.d (.int i),.d (.int j),h=>
  cases h;refine EY.imp ?_
  rintro vx vy H Q ⟨φ,S,O,L,q⟩
  exact⟨i,j,O,L,q _ H (aQ.refl H) U⟩
 |.d (.tup as),.d (.tup bs),h=>
  simp only[a9]at h;split at h
  ·rename_i J
   cases h;refine Am.imp ?_
   rintro vx vy H Q ⟨φ,S,⟨a,Y,rfl,C,B⟩,⟨b,g,rfl,h3,h4⟩,q⟩
   refine⟨a,b,Y,g,U,U,(SqT.of C),(SqT.of h3),by rw[<-B.length,<-h4.length];exact qaD J mil,λe=>?_,λe=>?_,λp E=>?_⟩
   ·subst e
    have:as=[]:=by cases as with|nil=>rfl|cons _ _=>cases B.length
    subst this;exact q _ H (aQ.refl H) ⟨b,g,U,h3,h4⟩
   ·subst e
    have:bs=[]:=by cases bs with|nil=>rfl|cons _ _=>cases h4.length
    subst this;exact q _ H (aQ.refl H) ⟨a,Y,U,C,by rw[qbR];exact B⟩
   ·exact q _ _ (aQ.new E _) ⟨p,_,U,upd_same,(B.append h4).fw S (Fw.new E)⟩
  ·cases h
 |.d (.str as),.d (.str bs),h=>
  simp only[a9]at h;split at h
  ·rename_i J
   cases h;refine wl.imp ?_
   rintro vx vy H Q ⟨φ,S,O,L,q⟩
   exact⟨as,bs,O,L,qaD J mil,q _ H (aQ.refl H) U⟩
  ·cases h
 |.d (.lst as),y,h=>exact P (by cases y with|h n=>exact h|d y=>cases y<;>exact h)
 |.h n,y,h=>exact P (by cases y with|h n=>exact h|d y=>cases y<;>exact h)
theorem xC:OpR X (qbG .Mult) (λx y H Q=>∃ l k xs,x=.ref l/\y=.int k/\Rd H l (.lst xs)/\-(2 ^ 63)<=k/\k < 2 ^ 63/\xs.length*k.toNat<=qaG/\
 ∀ p,H p=none->Q (.ref p) (upd H p (.lst (qaJ k.toNat xs).flatten))):=by
 intro G s M H x y v u Q I rx ry h;obtain⟨l,k,xs,rfl,rfl,hH,C,B,hz,q⟩:=h;cases rx;obtain⟨t,rfl⟩:=ry;obtain⟨z,A,n,r,e⟩:=hH.ok I.hok;have hlen:A.toArray.size*k.toNat<=qaG:=by rw[qaB,<-r.length];exact hz
 have hcap:¬ A.toArray.size*k.toNat > (2^63 - 1) / 8:=by
  have:(qaG)<=(2^63 - 1) / 8:=by decide
  lia
 have hfit:¬ (!Builtin.List.listFitsIndex k)=true:=by
  rw[qj4 C B];exact qa1
 have hlong:¬ qcR (A.toArray.size*k.toNat)=true:=by
  rw[uO hlen];exact qa1
 have hnew:qjT (λx1 x2=>x1++x2) #[] (qaJ (if A.toArray.isEmpty=true then 0 else k.toNat) A.toArray)=(qaJ k.toNat A).flatten.toArray:=by
  have f0:=λm=>by
   have:=lv A m []
   rw[qdO]at this;exact this
  rw[f0];cases A with
  |nil=>simp
  |cons a r'=>rw[iFN (by simp)]
 refine qgR (by decide) ⟨_,e,U⟩ (λs'=>qe8 s' k t) noFill_list_mul qiH qeR repeat_list qio.lookup
  (qcr qeR (qe8 s k t) qiq (qh8 _ _) (int___rmul___int_list k t l A.toArray n)
    ⟨e,U,⟨_,e,U⟩,qcr F.slot_list_mul ⟨_,e,U⟩ F.entry_list_mul (F.args_list_mul_2 _ _) (AutoListH.list___mul___list_int_3 l A.toArray n k t hfit hcap hlong) ⟨e,?_⟩⟩)
 rw[hnew];exact⟨.ref _,_,I.lnew (r.rep k.toNat) (by rw[si,qgW];exact hz),U,q _ I.fresh⟩
theorem oX (hK:X.K=K:=by rfl):OpD K X (qbG .Mult) aZ:=by
 refine⟨λst x y d h=>?_⟩
 match x,y,h with
 |.d (.int i),.d (.int j),h=>
  simp only[aZ]at h;split at h
  ·rename_i J
   cases h;refine CG.imp ?_
   rintro vx vy H Q ⟨φ,S,O,L,q⟩
   exact⟨i,j,O,L,J,q _ H (aQ.refl H) U⟩
  ·cases h
 |.d (.tup as),.d (.int k),h=>
  simp only[aZ]at h;split at h
  ·rename_i J
   cases h;refine CI.imp ?_
   rintro vx vy H Q ⟨φ,S,⟨a,Y,rfl,C,B⟩,L,q⟩
   have hne:Y≠[]:=by rintro rfl;cases as with|nil=>exact J.1 U|cons _ _=>cases B.length
   refine⟨a,k,Y,U,L,(SqT.of C),hne,by rw[<-B.length];exact J.2.1,J.2.2.1,J.2.2.2,λe=>?_,λ_ p E=>?_⟩
   ·subst e
    exact q _ H (aQ.refl H) ⟨a,Y,U,C,by simpa using B⟩
   ·exact q _ _ (aQ.new E _) ⟨p,_,U,upd_same,(B.rep _).fw S (Fw.new E)⟩
  ·cases h
 |.d (.lst as),.d (.int k),h=>
  simp only[aZ]at h;split at h
  ·rename_i J
   cases h;refine xC.imp ?_
   rintro vx vy H Q ⟨φ,S,⟨a,Y,rfl,h0,C,B⟩,L,q⟩
   refine⟨a,k,Y,U,L,C,by lia,by lia,?_,λp E=>?_⟩
   ·rw[<-B.length]
    have:as.length*k.toNat<=1000*1000:=qc0 J.1 (by lia)
    exact qaD this mil
   ·exact q _ _ (aQ.new E _) ⟨p,_,U,S.nin E,.inl upd_same,(B.rep _).fw S (Fw.new E)⟩
  ·cases h
def dIx (st:Sto) (x y:W):Option D:=match x,y with
 |.d (.str z),.d (.int i)=>if z.length<=1000000 then (atI z.cps.toList i).map λc=>.str ⟨#[c]⟩ else none
 |x,.d (.int i)=>(gI st x).bind λds=>atI ds i
 |_,_=>none
theorem D8 (r:Rls K H φ ds g) (e:atI ds i=some d):∃ v,atI g i=some v/\Rl K H φ d v :=by
 unfold atI at e ⊢;rw[<-r.length];obtain⟨j,e1,e2⟩:=qaa.mp e;obtain⟨v,ev,rv⟩:=r.get e2;exact⟨v,by rw[e1];exact ev,rv⟩
theorem IxR.imp (h:IxR X r) (m:∀ x y H Q,r' x y H Q->r x y H Q):IxR X r' :=λvalue slice G s M H x y v u Q I rx ry q hs=>h value slice G s M H x y v u Q I rx ry (m _ _ _ _ q) hs
theorem HC (st) (x y) (d) (h:dIx st x y=some d) (hK:X.K=K):IxR X (rD K st x y d) :=by
 subst hK
 match y,h with
 |.d (.int i),h=>
  have seq:(gI st x).bind _=some d->IxR X (rD X.K st x (.d (.int i)) d):=λh=>by
   obtain⟨ds,e1,e2⟩:=qaa.mp h;refine rY.imp ?_
   rintro vx vy H Q ⟨φ,S,O,L,q⟩
   obtain⟨a,g,rfl,C,B⟩:=jb S O e1;obtain⟨v,ev,rv⟩:=D8 B e2;rcases C with C|C
   ·exact .inl ⟨a,g,i,v,U,L,C,ev,q _ H (aQ.refl H) rv⟩
   ·exact .inr (.inl ⟨a,g,i,v,U,L,C,ev,q _ H (aQ.refl H) rv⟩)
  match x,h with
  |.d (.str z),h=>
   simp only[dIx]at h;split at h
   ·rename_i J
    obtain⟨c,e1,rfl⟩:=qad.mp h;refine rY.imp ?_
    rintro vx vy H Q ⟨φ,S,O,L,q⟩
    exact .inr (.inr ⟨z,i,c,O,L,qaD J mil,e1,q _ H (aQ.refl H) U⟩)
   ·cases h
  |.d (.tup z),h=>exact seq h
  |.d (.lst z),h=>exact seq h
  |.d (.scr z),h=>exact seq h
  |.h z,h=>exact seq h
 |.d .non,h=>cases x with|h n=>cases h|d x=>cases x<;>cases h
 |.d (.ob _ _),h=>cases x with|h n=>cases h|d x=>cases x<;>cases h
 |.d (.bl _),h=>cases x with|h n=>cases h|d x=>cases x<;>cases h
 |.d (.str _),h=>cases x with|h n=>cases h|d x=>cases x<;>cases h
 |.d (.ty _),h=>cases x with|h n=>cases h|d x=>cases x<;>cases h
 |.d (.scr _),h=>cases x with|h n=>cases h|d x=>cases x<;>cases h
 |.d .dct,h=>cases x with|h n=>cases h|d x=>cases x<;>cases h
 |.d (.tup _),h=>cases x with|h n=>cases h|d x=>cases x<;>cases h
 |.d (.lst _),h=>cases x with|h n=>cases h|d x=>cases x<;>cases h
 |.h _,h=>cases x with|h n=>cases h|d x=>cases x<;>cases h
variable {e a b:Expr}{pos p2:Pos}{f fa fb:Ef}
theorem ul (ha:IE K X a fa) (hb:IE K X b fb) (hs:lM b=true:=by rfl) (hK:X.K=K:=by rfl):IE K X (.Subscript a b pos) (iOp dIx fa fb):=by
 refine⟨λenv st r hr=>?_⟩;simp only[iOp,qaa,qad]at hr;obtain⟨x,hx,y,hy,d,hd,rfl⟩:=hr;exact (Au (HC _ _ _ _ hd hK) (ha.run _ _ _ hx) (hb.run _ _ _ hy) (oq hs)).imp λM H Q h=>sO h
abbrev Pf:=Ev->Sto->Option (Option Int×Sto)
noncomputable def iPn:Pf
 |_,st=>some (none,st)
noncomputable def Gs:W->Option Int
 |.d (.int i)=>some i
 |_=>none
theorem yC (h:Gs w=some i):w=.d (.int i) :=by
 cases w with
 |h n=>cases h
 |d x=>cases x<;>first|(cases h;done)|(injection h with h;subst h;rfl)
def iPs (f:Ef):Pf
 |env,st=>(f env st).bind λr=>(Gs r.1).map λi=>(some i,r.2)
def tIO (K:qae) (env:Ev) (st:Sto) (r:Option Int×Sto):TO:=λM H Q=>∃ φ,Er K H φ env M/\Sr K H φ st/\∀ H' φ',Fw φ φ' H H'->Sr K H' φ' r.2->Q r.1 H'
structure IO (K:qae) (X:Cx) (e:Option Expr) (f:Pf):Prop where
 run:∀ env st r,f env st=some r->PO X e (tIO K env st r)
theorem PO.imp {e}(h:PO X e t) (m:∀ M H Q,t' M H Q->t M H Q):PO X e t' :=λG s M H Q I q=>h G s M H Q I (m M H Q q)
theorem ki:IO K X none iPn:=by
 refine⟨λenv st r hr=>?_⟩;cases hr;exact CO.imp λM H Q ⟨φ,hE,T,q⟩=>q H φ (Fw.refl φ H) T
theorem kj (h:IE K X e f):IO K X (some e) (iPs f):=by
 refine⟨λenv st r hr=>?_⟩;simp only[iPs,qaa,qad]at hr;obtain⟨⟨x,s1⟩,hx,i,hi,rfl⟩:=hr;cases yC hi;refine (CP (h.run _ _ _ hx)).imp ?_
 rintro M H Q ⟨φ,hE,T,q⟩
 exact⟨φ,hE,T,λv H1 R f1 s1 w1=>⟨i,w1,q H1 R f1 s1⟩⟩
def fZ (xs:List D) (lo hi:Option Int):List D:=(xs.drop (HT.sIx xs.length 0 lo)).take (HT.sIx xs.length xs.length hi - HT.sIx xs.length 0 lo)
theorem wX (r:Rls K H φ ds g) (lo hi):Rls K H φ (fZ ds lo hi) (vK g lo hi) :=by
 unfold fZ vK;rw[r.length];exact (r.drop _).take _
def dSl (st:Sto) (x:W) (lo hi:Option Int):Option D:=match x with
 |.d (.tup ds)=>some (.tup (fZ ds lo hi))
 |.d (.lst ds)=>some (.lst (fZ ds lo hi))
 |.h n=>(lg st n).map λds=>.lst (fZ ds lo hi)
 |.d (.scr ns)=>some (.lst (fZ (ns.map D.int) lo hi))
 |_=>none
def iSl (f:Ef) (lo hi:Pf):Ef
 |env,st=>(f env st).bind λx=>(lo env x.2).bind λl=>(hi env l.2).bind λu=>(dSl u.2 x.1 l.1 u.1).map λd=>(.d d,u.2)
theorem um {lo }(h:IE K X e f) (J:IO K X lo fl) (hh:IO K X hi fh) (hK:X.K=K:=by rfl):IE K X (.Subscript e (.Slice lo hi none p2) pos) (iSl f fl fh) :=by
 subst hK;refine⟨λenv st r hr=>?_⟩;simp only[iSl,qaa,qad]at hr;obtain⟨⟨x,s1⟩,hx,l,hl',u,hu',d,hd,rfl⟩:=hr;have list:(∀ {H:Hp}{φ:List Addr}{v:V},Sr X.K H φ u.2->Rw X.K H φ x v->∃ a g ds,v=.ref a/\SqL X.K H a g/\Rls X.K H φ ds g/\d=.lst (fZ ds l.1 u.1))->PE X (.Subscript e (.Slice lo hi none p2) pos) (tI X.K env st (.d d,u.2)):=λhq=>by
  refine (uX Df (h.run _ _ _ hx) (J.run _ _ _ hl') (hh.run _ _ _ hu')).imp ?_
  rintro M H Q ⟨φ,hE,T,q⟩
  refine⟨φ,hE,T,λv H1 R f1 s1 w1=>⟨R,hE.fw T f1,s1,λH2 φ2 f2 s2=>⟨φ2,(hE.fw T f1).fw s1 f2,s2,λH3 φ3 f3 s3=>?_⟩⟩⟩;obtain⟨a,g,ds,rfl,C,B,rfl⟩:=hq s3 ((w1.fw s1 f2).fw s2 f3);refine⟨a,g,U,C,λp E=>q _ _ φ3 (((f1.trans f2).trans f3).trans (Fw.new E)) (s3.new E) ?_⟩;exact⟨p,_,U,s3.nin E,.inl upd_same,(wX B _ _).fw s3 (Fw.new E)⟩
 match x,hd with
 |.d (.tup ds),hd=>
  cases hd;refine (uX (EH U) (h.run _ _ _ hx) (J.run _ _ _ hl') (hh.run _ _ _ hu')).imp ?_
  rintro M H Q ⟨φ,hE,T,q⟩
  refine⟨φ,hE,T,λv H1 R f1 s1 w1=>⟨R,hE.fw T f1,s1,λH2 φ2 f2 s2=>⟨φ2,(hE.fw T f1).fw s1 f2,s2,λH3 φ3 f3 s3=>?_⟩⟩⟩;obtain⟨a,g,rfl,C,B⟩:=(w1.fw s1 f2).fw s2 f3;refine⟨a,g,U,(SqT.of C),?_⟩;by_cases hc:HT.sIx g.length 0 l.1=0/\HT.sIx g.length g.length u.1=g.length
  ·refine .inr ⟨hc,q _ _ φ3 ((f1.trans f2).trans f3) s3 ⟨a,g,U,C,?_⟩⟩
   have e:fZ ds l.1 u.1=ds:=by
    unfold fZ;rw[B.length,hc.1,hc.2,qgf,qgV,<-B.length,qdA]
   rw[e];exact B
  ·exact .inl ⟨hc,λp E=>q _ _ φ3 (((f1.trans f2).trans f3).trans (Fw.new E)) (s3.new E) ⟨p,_,U,upd_same,(wX B _ _).fw s3 (Fw.new E)⟩⟩
 |.d (.lst ds),hd=>
  cases hd;refine list λ{H φ v} S w=>?_;obtain⟨a,g,rfl,h0,C,B⟩:=w;exact⟨a,g,ds,U,.inl C,B,U⟩
 |.d (.scr ns),hd=>
  cases hd;refine list λ{H φ v} S w=>?_;obtain⟨a,rfl,h⟩:=w;refine⟨a,_,_,U,?_,Rls.of_ints ns,U⟩;rcases h with⟨o,h⟩|h
  ·exact .inl (.inr ⟨o,h⟩)
  ·exact .inr h
 |.h n,hd=>
  obtain⟨ds,e1,rfl⟩:=qad.mp hd;refine list λ{H φ v} S w=>?_;obtain⟨a,ea,rfl⟩:=w;obtain⟨g,q,rl⟩:=S.atl n a ds ea e1;exact⟨a,g,ds,U,SqL.of q,rl,U⟩
end
section
variable {K:qae}{X:Cx}{T:List (Addr×Obj)}{σ:St}{H:Hp}{s:qak}{φ:List Addr}{st:Sto}
theorem dI:∀ (xs O),((qai (min xs.length O.length)).all (λj=>eqD (xs.getD j .non) (O.getD j .non))&&xs.length==O.length)=jf xs O
 |[],[]=>rfl
 |[],y::O=>by simp[jf]
 |x::xs,[]=>by simp[jf]
 |x::xs,y::O=>by
  show ((qai (min (xs.length+1) (O.length+1))).all _&&(xs.length+1==O.length+1))=(eqD x y&&jf xs O);rw[show min _ _=min xs.length O.length+1 by lia,mZ,<-dI xs O];have e:(xs.length+1==O.length+1)=(xs.length==O.length):=by simp
  rw[e,Bool.and_assoc];rfl
theorem jo (h:xs.length=O.length):(qai xs.length).all (λj=>eqD (xs.getD j .non) (O.getD j .non))=jf xs O :=by
 rw[<-dI xs O,<-h,Nat.min_self];simp
theorem t8:∀ {xs O:List D},xs.length≠O.length->jf xs O=false
 |[],[],h=>absurd U h
 |[],_::_,_=>rfl
 |_::_,[],_=>rfl
 |x::xs,y::O,h=>by
  show (eqD x y&&jf xs O)=false;rw[t8 (by intro e;apply h;rw[qam,qam,e]),qh9]
theorem C6 (I:Inv X T σ H s) (h:Rd H a (.lst E)) (h':Rd H a (.lst ws)):E=ws :=I.list_inj (.inl h) (.inl h')
theorem xg (I:Inv X T σ H s):∀ (n) {d e}{v},Rl X.K H φ d v->Rl X.K H φ e v->okD n d=true->okD n e=true->eqD d e=true :=by
 intro n
 induction n with
 |zero=>
  intro d e v m l N F;cases d<;>first|(cases N;done)|skip
  all_goals (cases e<;>first|(cases F;done)|skip)
  all_goals (first|rfl|(cases m.symm.trans l;done)|(cases m.symm.trans l;simp[eqD]))
 |succ n ih=>
  have lists:∀ {ds es:List D}{E:List V},Rls X.K H φ ds E->Rls X.K H φ es E->(∀ d∈ds,okD n d=true)->(∀ d∈es,okD n d=true)->jf ds es=true:=by
   intro ds
   induction ds with
   |nil=>
    intro es E m l _ _;cases m;cases es with
    |nil=>rfl
    |cons e es=>obtain⟨_,_,q,_⟩:=l;cases q
   |cons d ds ihd=>
    intro es E m l N F;obtain⟨v,r,rfl,a1,a2⟩:=m;cases es with
    |nil=>cases l
    |cons e es=>
     obtain⟨v',r',q,b1,b2⟩:=l;cases q;show (eqD d e&&jf ds es)=true;rw[ih a1 b1 (N d qag) (F e qag),ihd a2 b2 (λx hx=>N x (qah _ hx)) (λx hx=>F x (qah _ hx))];rfl
  intro d e v m l N F;cases d with
  |tup ds=>
   obtain⟨a,E,rfl,P,M⟩:=m;cases e with
   |tup es=>
    obtain⟨b,J,q,p,B⟩:=l;cases q;rw[I.tuple_inj (SqT.of p) (SqT.of P)]at B;exact lists M B (qaU.mp N) (qaU.mp F)
   |lst es=>
    obtain⟨b,J,q,_,p,B⟩:=l;cases q;obtain⟨_,_,p1,_⟩:=I.tuple (SqT.of P);obtain⟨_,_,f,_⟩:=I.list (.inl p);exact absurd U (qgq f.isList p1)
   |_=>first|(cases F;done)|(cases l)
  |lst ds=>
   obtain⟨a,E,rfl,h0,P,M⟩:=m;cases e with
   |lst es=>
    obtain⟨b,J,q,_,p,B⟩:=l;cases q;rw[C6 I p P]at B;exact lists M B (qaU.mp N) (qaU.mp F)
   |tup es=>
    obtain⟨b,J,q,p,B⟩:=l;cases q;obtain⟨_,_,p1,_⟩:=I.tuple (SqT.of p);obtain⟨_,_,f,_⟩:=I.list (.inl P);exact absurd U (qgq f.isList p1)
   |_=>first|(cases F;done)|(cases l)
  |non=>cases e<;>first|rfl|(cases F;done)|(cases m.symm.trans l)|(cases m;obtain⟨_,_,q,_⟩:=l;cases q)
  |bl b=>cases e<;>first|(cases F;done)|(cases m.symm.trans l;simp[eqD])|(cases m.symm.trans l)|(cases m;obtain⟨_,_,q,_⟩:=l;cases q)
  |int b=>cases e<;>first|(cases F;done)|(cases m.symm.trans l;simp[eqD])|(cases m.symm.trans l)|(cases m;obtain⟨_,_,q,_⟩:=l;cases q)
  |str b=>cases e<;>first|(cases F;done)|(cases m.symm.trans l;simp[eqD])|(cases m.symm.trans l)|(cases m;obtain⟨_,_,q,_⟩:=l;cases q)
  |ty b=>cases N
  |scr b=>cases N
  |dct=>cases N
  |ob _ _=>cases N
theorem dD (r:Rls K H φ ds E) (Y:aI E J):∀ (j) (h),∃ v,Rl K H φ (ds.getD j .non) v/\aN v J[j]/\ds.getD j .non∈ds :=by
 intro j h;obtain⟨h',q⟩:=Y.at j h;have hd:j<ds.length:=by rw[r.length];exact h'
 have e:=qal hd;obtain⟨v,ev,rl⟩:=r.get e;rw[qal h']at ev;cases ev;refine⟨_,?_,q,?_⟩
 ·rw[qfT,e];exact rl
 ·rw[qfT,e];exact qbJ hd
theorem Ei (I:Inv X T σ H s):∀ (n) {A}{d e}{v u}{vv uu},Rl X.K H φ d v->Rl X.K H φ e u->aN v vv->aN u uu->okD n d=true->okD n e=true->A.units+n<cLine->qdH A s vv uu (eqD d e) :=by
 have flat:∀ {A:qa2}{d e:D}{v u:V}{vv uu:Value},bN d=true->bN e=true->Rl X.K H φ d v->Rl X.K H φ e u->aN v vv->aN u uu->qdH A s vv uu (eqD d e):=by
  intro A d e v u vv uu f1 f2 m l q1 L;obtain⟨R,g1⟩:=eL f1 m;obtain⟨e2,g2⟩:=eL f2 l;rw[<-rO f1 f2,<-R,<-e2];exact vP q1 L g1 g2
 intro n
 induction n with
 |zero=>
  intro A d e v u vv uu m l q1 L N F hu;refine flat ?_ ?_ m l q1 L
  ·cases d<;>first|rfl|cases N
  ·cases e<;>first|rfl|cases F
 |succ n ih=>
  intro A d e v u vv uu m l q1 L N F hu;have c:A.units<cLine:=by lia
  have hu1:A.in1.units+n<cLine:=by show A.units+1+n<cLine;lia
  cases d with
  |tup ds=>
   obtain⟨a,E,rfl,P,M⟩:=m;cases q1;obtain⟨G,Y,p1,_⟩:=I.tuple (SqT.of P);cases e with
   |tup es=>
    obtain⟨b,J,rfl,p,B⟩:=id l;cases L;by_cases hab:a=b
    ·subst hab
     rw[xg I (n+1) (d:=.tup ds) ⟨a,E,U,P,M⟩ l N F];exact qfa _
    ·obtain⟨g,o,f,_⟩:=I.tuple (SqT.of p)
     have z:=qeP (A:=A) p1 f c λj g1 g2=>by
      obtain⟨v1,k1,k2,k3⟩:=dD M Y j (by simpa using g1);obtain⟨v2,k4,k5,k6⟩:=dD B o j (by simpa using g2);exact ih k1 k4 (by simpa using k2) (by simpa using k5) (qaU.mp N _ k3) (qaU.mp F _ k6) hu1
     have R:G.toArray.size=ds.length:=by simp[<-Y.length,M.length]
     have e2:g.toArray.size=es.length:=by simp[<-o.length,B.length]
     rw[R,e2,dI]at z;exact qeA hab z
   |lst es=>
    obtain⟨b,J,rfl,_,p,B⟩:=id l;cases L;obtain⟨g,o,f,_⟩:=I.list (.inl p);exact qkI p1 f.isList c
   |non=>cases l;cases L;exact qkH p1 c
   |bl x=>cases l;cases L;exact qkK x p1 c
   |int x=>cases l;obtain⟨t,rfl⟩:=L;exact qkJ x t p1 c
   |str x=>cases l;obtain⟨t,rfl⟩:=L;exact qkG x t p1 c
   |ty _=>cases F
   |scr _=>cases F
   |dct=>cases F
   |ob _ _=>cases F
  |lst ds=>
   obtain⟨a,E,rfl,h0,P,M⟩:=m;cases q1;obtain⟨G,Y,p1,_⟩:=I.list (.inl P);cases e with
   |lst es=>
    obtain⟨b,J,rfl,_,p,B⟩:=id l;cases L;by_cases hab:a=b
    ·subst hab
     rw[xg I (n+1) (d:=.lst ds) ⟨a,E,U,h0,P,M⟩ l N F];exact qfa _
    ·obtain⟨g,o,f,_⟩:=I.list (.inl p)
     have R:G.toArray.size=ds.length:=by simp[<-Y.length,M.length]
     have e2:g.toArray.size=es.length:=by simp[<-o.length,B.length]
     by_cases hl:ds.length=es.length
     ·have z:=qgE (A:=A) p1.isList f.isList (by rw[R,e2,hl]) c λj g1 g2=>by
       obtain⟨v1,k1,k2,k3⟩:=dD M Y j (by simpa using g1);obtain⟨v2,k4,k5,k6⟩:=dD B o j (by simpa using g2);exact ih k1 k4 (by simpa using k2) (by simpa using k5) (qaU.mp N _ k3) (qaU.mp F _ k6) hu1
      rw[R,jo hl]at z;exact qeA hab z
     ·show qdH A s _ _ (jf ds es)
      rw[t8 hl];exact qeA hab (qfp (A:=A) p1.isList f.isList (by rw[R,e2];simpa using hl) c)
   |tup es=>
    obtain⟨b,J,rfl,p,B⟩:=id l;cases L;obtain⟨g,o,f,_⟩:=I.tuple (SqT.of p);exact qkU p1.isList f c
   |non=>cases l;cases L;exact qkW p1.isList c
   |bl x=>cases l;cases L;exact qkY x p1.isList c
   |int x=>cases l;obtain⟨t,rfl⟩:=L;exact qkX x t p1.isList c
   |str x=>cases l;obtain⟨t,rfl⟩:=L;exact qkV x t p1.isList c
   |ty _=>cases F
   |scr _=>cases F
   |dct=>cases F
   |ob _ _=>cases F
  |non=>
   cases m;cases q1;cases e with
   |tup es=>obtain⟨b,J,rfl,p,B⟩:=l;cases L;obtain⟨_,_,f,_⟩:=I.tuple (SqT.of p);exact qkP f c
   |lst es=>obtain⟨b,J,rfl,_,p,B⟩:=l;cases L;obtain⟨_,_,f,_⟩:=I.list (.inl p);exact qkR f.isList c
   |_=>first|(cases F;done)|exact flat U U (d:=.non) U l (v:=.non) U L
  |bl x=>
   cases m;cases q1;cases e with
   |tup es=>obtain⟨b,J,rfl,p,B⟩:=l;cases L;obtain⟨_,_,f,_⟩:=I.tuple (SqT.of p);exact qk3 x f c
   |lst es=>obtain⟨b,J,rfl,_,p,B⟩:=l;cases L;obtain⟨_,_,f,_⟩:=I.list (.inl p);exact qk6 x f.isList c
   |_=>first|(cases F;done)|exact flat U U (d:=.bl x) U l (v:=.bl x) U L
  |int x=>
   cases m;obtain⟨t1,rfl⟩:=q1;cases e with
   |tup es=>obtain⟨b,J,rfl,p,B⟩:=l;cases L;obtain⟨_,_,f,_⟩:=I.tuple (SqT.of p);exact qkZ x t1 f c
   |lst es=>obtain⟨b,J,rfl,_,p,B⟩:=l;cases L;obtain⟨_,_,f,_⟩:=I.list (.inl p);exact qk1 x t1 f.isList c
   |_=>first|(cases F;done)|exact flat U U (d:=.int x) U l (v:=.int x) ⟨t1,U⟩ L
  |str x=>
   cases m;obtain⟨t1,rfl⟩:=q1;cases e with
   |tup es=>obtain⟨b,J,rfl,p,B⟩:=l;cases L;obtain⟨_,_,f,_⟩:=I.tuple (SqT.of p);exact qkL x t1 f c
   |lst es=>obtain⟨b,J,rfl,_,p,B⟩:=l;cases L;obtain⟨_,_,f,_⟩:=I.list (.inl p);exact qkN x t1 f.isList c
   |_=>first|(cases F;done)|exact flat U U (d:=.str x) U l (v:=.str x) ⟨t1,U⟩ L
  |ty _=>cases N
  |scr _=>cases N
  |dct=>cases N
  |ob _ _=>cases N
theorem Fu (ry:aN y u) (C:aN x v) (fy:d9 y=true) (fx:d9 x=true):qjs A s u v (eqV y x) :=by
 cases y with
 |non=>
  cases ry;cases x with
  |non=>cases C;exact qkl
  |bl b=>cases C;exact qko b
  |int b=>obtain⟨t,rfl⟩:=C;exact qkn b t
  |str b=>obtain⟨t,rfl⟩:=C;exact qkk b t
  |_=>cases fx
 |bl a=>
  cases ry;cases x with
  |non=>cases C;exact qkC a
  |bl b=>cases C;exact qkF a b
  |int b=>obtain⟨t,rfl⟩:=C;exact qkE a b t
  |str b=>obtain⟨t,rfl⟩:=C;exact qkB a b t
  |_=>cases fx
 |int a=>
  obtain⟨t',rfl⟩:=ry;cases x with
  |non=>cases C;exact qkw a t'
  |bl b=>cases C;exact qkz a t' b
  |int b=>obtain⟨t,rfl⟩:=C;exact qky a t' b t
  |str b=>obtain⟨t,rfl⟩:=C;exact qkv a t' b t
  |_=>cases fx
 |str a=>
  obtain⟨t',rfl⟩:=ry;cases x with
  |non=>cases C;exact qkf a t'
  |bl b=>cases C;exact qki a t' b
  |int b=>obtain⟨t,rfl⟩:=C;exact qkh a t' b t
  |str b=>obtain⟨t,rfl⟩:=C;exact qke a t' b t
  |_=>cases fx
 |_=>cases fy
theorem AY (ry:aN y u) (C:aN x v) (fy:d9 y=true) (fx:d9 x=true):qih A s u v (!eqV y x) :=by
 cases y with
 |non=>
  cases ry;cases x with
  |non=>cases C;exact qi5
  |bl b=>cases C;exact qi8 b
  |int b=>obtain⟨t,rfl⟩:=C;exact qi7 b t
  |str b=>obtain⟨t,rfl⟩:=C;exact qi4 b t
  |_=>cases fx
 |bl a=>
  cases ry;cases x with
  |non=>cases C;exact qjo a
  |bl b=>cases C;exact qjr a b
  |int b=>obtain⟨t,rfl⟩:=C;exact qjq a b t
  |str b=>obtain⟨t,rfl⟩:=C;exact qjn a b t
  |_=>cases fx
 |int a=>
  obtain⟨t',rfl⟩:=ry;cases x with
  |non=>cases C;exact qji a t'
  |bl b=>cases C;exact qjl a t' b
  |int b=>obtain⟨t,rfl⟩:=C;exact qjk a t' b t
  |str b=>obtain⟨t,rfl⟩:=C;exact qjh a t' b t
  |_=>cases fx
 |str a=>
  obtain⟨t',rfl⟩:=ry;cases x with
  |non=>cases C;exact qiZ a t'
  |bl b=>cases C;exact qi2 a t' b
  |int b=>obtain⟨t,rfl⟩:=C;exact qi1 a t' b t
  |str b=>obtain⟨t,rfl⟩:=C;exact qiY a t' b t
  |_=>cases fx
 |_=>cases fy
inductive Kin where
 |fl (d:D)|tp (ds:List D)|ls (ds:List D)
def ou (st:Sto):W->Option Kin
 |.d (.tup ds)=>some (.tp ds)
 |.d (.lst ds)=>some (.ls ds)
 |.h n=>(lg st n).map .ls
 |.d .non=>some (.fl .non)
 |.d (.bl b)=>some (.fl (.bl b))
 |.d (.int i)=>some (.fl (.int i))
 |.d (.str x)=>some (.fl (.str x))
 |_=>none
def eqK:Kin->Kin->Option Bool
 |.fl a,.fl b=>some (eqD a b)
 |.tp as,.tp bs=>if (as.isEmpty||bs.isEmpty)=true then some (as.isEmpty&&bs.isEmpty) else if as.all (okD 60)=true/\bs.all (okD 60)=true then some (jf as bs) else none
 |.ls as,.ls bs=>if as.length=bs.length then (if as.all (okD 60)=true/\bs.all (okD 60)=true then some (jf as bs) else none) else some false
 |.fl _,.tp _=>some false
 |.tp _,.fl _=>some false
 |.fl _,.ls _=>some false
 |.ls _,.fl _=>some false
 |.tp _,.ls _=>some false
 |.ls _,.tp _=>some false
def dEq (st:Sto) (x y:W):Option D:=(ou st x).bind λa=>(ou st y).bind λb=>(eqK a b).map λk=>.bl k
def dNe (st:Sto) (x y:W):Option D:=(ou st x).bind λa=>(ou st y).bind λb=>(eqK a b).map λk=>.bl (!k)
def D1 (K:qae) (H:Hp) (φ:List Addr):Kin->V->Prop
 |.fl d,v=>bN d=true/\Rl K H φ d v
 |.tp ds,v=>∃ a E,v=.ref a/\SqT K H a E/\Rls K H φ ds E
 |.ls ds,v=>∃ a E,v=.ref a/\Rd H a (.lst E)/\Rls K H φ ds E
theorem mO (S:Sr K H φ st) (r:Rw K H φ w v) (e:ou st w=some k):D1 K H φ k v :=by
 cases w with
 |h n=>
  obtain⟨a,ea,rfl⟩:=r;obtain⟨ds,R,rfl⟩:=qad.mp e;obtain⟨E,q,rl⟩:=S.atl n a ds ea R;exact⟨a,E,U,.inl q,rl⟩
 |d x=>
  cases x with
  |tup es=>cases e;obtain⟨a,E,rfl,P,M⟩:=r;exact⟨a,E,U,SqT.of P,M⟩
  |lst es=>cases e;obtain⟨a,E,rfl,h0,P,M⟩:=r;exact⟨a,E,U,P,M⟩
  |non=>cases e;exact⟨U,r⟩
  |bl b=>cases e;exact⟨U,r⟩
  |int b=>cases e;exact⟨U,r⟩
  |str b=>cases e;exact⟨U,r⟩
  |_=>cases e
theorem Ew (hr:bj k A):A.in1.units+60<cLine :=by
 have:=hr.un
 lia
theorem AW (hr:bj k X.A) (I:Inv X T σ H s) (ra:D1 X.K H φ a v) (rb:D1 X.K H φ b u) (qa:aN v vv) (qb:aN u uu) (e:eqK a b=some r) :
  qjs X.A s vv uu r/\qih X.A s vv uu (!r) :=by
 have c:=hr.units0;have items:∀ {ds es:List D}{E J:List V}{G g:List Value},Rls X.K H φ ds E->Rls X.K H φ es J->aI E G->aI J g->ds.all (okD 60)=true->es.all (okD 60)=true->
   ∀ j (g1:j<G.toArray.size) (g2:j<g.toArray.size),qdH X.A.in1 s G.toArray[j] g.toArray[j] (eqD (ds.getD j .non) (es.getD j .non)):=by
  intro ds es E J G g M B Y o N F j g1 g2;obtain⟨v1,k1,k2,k3⟩:=dD M Y j (by simpa using g1);obtain⟨v2,k4,k5,k6⟩:=dD B o j (by simpa using g2);exact Ei I 60 k1 k4 (by simpa using k2) (by simpa using k5) (qaU.mp N _ k3) (qaU.mp F _ k6) (Ew hr)
 match a,b,e with
 |.fl d,.fl d',e=>
  cases e;obtain⟨f1,m⟩:=ra;obtain⟨f2,l⟩:=rb;obtain⟨R,g1⟩:=eL f1 m;obtain⟨e2,g2⟩:=eL f2 l;rw[<-rO f1 f2,<-R,<-e2];exact⟨Fu qa qb g1 g2,AY qa qb g1 g2⟩
 |.tp ds,.tp es,e=>
  simp only[eqK]at e;obtain⟨a,E,rfl,P,M⟩:=ra;obtain⟨b,J,rfl,p,B⟩:=rb;cases qa;cases qb;obtain⟨G,Y,p1,_⟩:=I.tuple P;obtain⟨g,o,f,_⟩:=I.tuple p;have R:G.toArray.size=ds.length:=by simp[<-Y.length,M.length]
  have e2:g.toArray.size=es.length:=by simp[<-o.length,B.length]
  split at e
  ·rename_i hc
   cases e;have hv:∀ j (g1:j<G.toArray.size) (g2:j<g.toArray.size),qdH X.A.in1 s G.toArray[j] g.toArray[j] (eqD (ds.getD j .non) (es.getD j .non)):=λj g1 g2=>by
    rw[R]at g1;rw[e2]at g2;rw[qfW]at hc;rcases hc with hc|hc
    ·rw[qhP.mp hc]at g1;exact absurd g1 (qca _)
    ·rw[qhP.mp hc]at g2;exact absurd g2 (qca _)
   have z:=qeP (A:=X.A) p1 f c hv;have z':=qfP (A:=X.A) p1 f c hv;rw[R,e2,dI]at z z';have e3:jf ds es=(ds.isEmpty&&es.isEmpty):=by
    cases ds with
    |nil=>cases es<;>rfl
    |cons _ _=>cases es with
     |nil=>rfl
     |cons _ _=>cases hc
   rw[e3]at z z';exact⟨z,z'⟩
  ·split at e
   ·rename_i hc
    cases e;have z:=qeP (A:=X.A) p1 f c (items M B Y o hc.1 hc.2);have z':=qfP (A:=X.A) p1 f c (items M B Y o hc.1 hc.2);rw[R,e2,dI]at z z';exact⟨z,z'⟩
   ·cases e
 |.ls ds,.ls es,e=>
  simp only[eqK]at e;obtain⟨a,E,rfl,P,M⟩:=ra;obtain⟨b,J,rfl,p,B⟩:=rb;cases qa;cases qb;obtain⟨G,Y,p1,_⟩:=I.list (.inl P);obtain⟨g,o,f,_⟩:=I.list (.inl p);have R:G.toArray.size=ds.length:=by simp[<-Y.length,M.length]
  have e2:g.toArray.size=es.length:=by simp[<-o.length,B.length]
  split at e
  ·rename_i hl
   split at e
   ·rename_i hc
    cases e;have z:=qgE (A:=X.A) p1.isList f.isList (by rw[R,e2,hl]) c (items M B Y o hc.1 hc.2);have z':=qja (A:=X.A) p1.isList f.isList (by rw[R,e2,hl]) c (items M B Y o hc.1 hc.2);rw[R,jo hl]at z z';exact⟨z,z'⟩
   ·cases e
  ·rename_i hl
   cases e;have z':=qi9 (A:=X.A) p1.isList f.isList (by rw[R,e2];simpa using hl) c;exact⟨(qfp (A:=X.A) p1.isList f.isList (by rw[R,e2];simpa using hl) c),z'⟩
 |.fl d,.tp es,e=>
  cases e;obtain⟨f1,m⟩:=ra;obtain⟨b,J,rfl,p,B⟩:=rb;cases qb;obtain⟨g,o,f,_⟩:=I.tuple p;cases d with
  |non=>cases m;cases qa;exact⟨qkj f c,qi3 f c⟩
  |bl x=>cases m;cases qa;exact⟨qkA x f c,qjm x f c⟩
  |int x=>cases m;obtain⟨t,rfl⟩:=qa;exact⟨qku x t f c,qjg x t f c⟩
  |str x=>cases m;obtain⟨t,rfl⟩:=qa;exact⟨qkd x t f c,qiX x t f c⟩
  |_=>cases f1
 |.tp es,.fl d,e=>
  cases e;obtain⟨f1,m⟩:=rb;obtain⟨b,J,rfl,p,B⟩:=ra;cases qa;obtain⟨g,o,f,_⟩:=I.tuple p;cases d with
  |non=>cases m;cases qb;exact⟨qj9 f c,qiT f c⟩
  |bl x=>cases m;cases qb;exact⟨qkc x f c,qiW x f c⟩
  |int x=>cases m;obtain⟨t,rfl⟩:=qb;exact⟨qkb x t f c,qiV x t f c⟩
  |str x=>cases m;obtain⟨t,rfl⟩:=qb;exact⟨qj8 x t f c,qiS x t f c⟩
  |_=>cases f1
 |.fl d,.ls es,e=>
  cases e;obtain⟨f1,m⟩:=ra;obtain⟨b,J,rfl,p,B⟩:=rb;cases qb;obtain⟨g,o,f,_⟩:=I.list (.inl p);replace f:=f.isList;cases d with
  |non=>cases m;cases qa;exact⟨qkm f c,qi6 f c⟩
  |bl x=>cases m;cases qa;exact⟨qkD x f c,qjp x f c⟩
  |int x=>cases m;obtain⟨t,rfl⟩:=qa;exact⟨qkx x t f c,qjj x t f c⟩
  |str x=>cases m;obtain⟨t,rfl⟩:=qa;exact⟨qkg x t f c,qi0 x t f c⟩
  |_=>cases f1
 |.ls es,.fl d,e=>
  cases e;obtain⟨f1,m⟩:=rb;obtain⟨b,J,rfl,p,B⟩:=ra;cases qa;obtain⟨g,o,f,_⟩:=I.list (.inl p);replace f:=f.isList;cases d with
  |non=>cases m;cases qb;exact⟨qkr f c,qjd f c⟩
  |bl x=>cases m;cases qb;exact⟨qkt x f c,qjf x f c⟩
  |int x=>cases m;obtain⟨t,rfl⟩:=qb;exact⟨qks x t f c,qje x t f c⟩
  |str x=>cases m;obtain⟨t,rfl⟩:=qb;exact⟨qkq x t f c,qjc x t f c⟩
  |_=>cases f1
 |.tp ds,.ls es,e=>
  cases e;obtain⟨a,E,rfl,P,M⟩:=ra;obtain⟨b,J,rfl,p,B⟩:=rb;cases qa;cases qb;obtain⟨G,Y,p1,_⟩:=I.tuple P;obtain⟨g,o,f,_⟩:=I.list (.inl p);exact⟨qka p1 f.isList c,qiU p1 f.isList c⟩
 |.ls ds,.tp es,e=>
  cases e;obtain⟨a,E,rfl,P,M⟩:=ra;obtain⟨b,J,rfl,p,B⟩:=rb;cases qa;cases qb;obtain⟨G,Y,p1,_⟩:=I.list (.inl P);obtain⟨g,o,f,_⟩:=I.tuple p;exact⟨qkp p1.isList f c,qjb p1.isList f c⟩
theorem uP (hr:bj k X.A) (hK:X.K=K:=by rfl):OpD K X (qbP .Eq) dEq :=by
 subst hK;refine⟨λst x y d h=>?_⟩;simp only[dEq,qaa,qad]at h;obtain⟨a,ha,b,hb,r,e,rfl⟩:=h;intro T s σ H vx vy v u Q I C ry q;obtain⟨φ,S,m,l,q⟩:=q;exact (AW hr I (mO S m ha) (mO S l hb) C ry e).1 _ _ _ _ ⟨.bl r,H,I,U,q _ H (aQ.refl H) U⟩
theorem uT (hr:bj k X.A) (hK:X.K=K:=by rfl):OpD K X (qbP .NotEq) dNe :=by
 subst hK;refine⟨λst x y d h=>?_⟩;simp only[dNe,qaa,qad]at h;obtain⟨a,ha,b,hb,r,e,rfl⟩:=h;intro T s σ H vx vy v u Q I C ry q;obtain⟨φ,S,m,l,q⟩:=q;exact (AW hr I (mO S m ha) (mO S l hb) C ry e).2 _ _ _ _ ⟨.bl _,H,I,U,q _ H (aQ.refl H) U⟩
end
section
variable {K:qae}{X:Cx}
noncomputable def a7:List D->Option (List Int)
 |[]=>some []
 |.int i::ds=>(a7 ds).map λr=>i::r
 |_=>none
theorem bC:∀ {ds:List D}{ns:List Int},a7 ds=some ns->ds=ns.map D.int
 |[],_,h=>by cases h;rfl
 |.int i::ds,_,h=>by
  obtain⟨r,e,rfl⟩:=qad.mp h;rw[bC e];rfl
 |.non::_,_,h=>by cases h
 |.bl _::_,_,h=>by cases h
 |.str _::_,_,h=>by cases h
 |.ty _::_,_,h=>by cases h
 |.dct::_,_,h=>by cases h
 |.scr _::_,_,h=>by cases h
 |.tup _::_,_,h=>by cases h
 |.lst _::_,_,h=>by cases h
theorem bm:∀ (ns),a7 (ns.map D.int)=some ns
 |[]=>rfl
 |n::ns=>by rw[qat,a7,bm ns];rfl
noncomputable def lp:List D->Option (List Bool)
 |[]=>some []
 |.bl i::ds=>(lp ds).map λr=>i::r
 |_=>none
theorem lW:∀ {ds:List D}{ns:List Bool},lp ds=some ns->ds=ns.map D.bl
 |[],_,h=>by cases h;rfl
 |.bl i::ds,_,h=>by
  obtain⟨r,e,rfl⟩:=qad.mp h;rw[lW e];rfl
 |.non::_,_,h=>by cases h
 |.int _::_,_,h=>by cases h
 |.str _::_,_,h=>by cases h
 |.ty _::_,_,h=>by cases h
 |.dct::_,_,h=>by cases h
 |.scr _::_,_,h=>by cases h
 |.tup _::_,_,h=>by cases h
 |.lst _::_,_,h=>by cases h
theorem m8:∀ (ns),lp (ns.map D.bl)=some ns
 |[]=>rfl
 |n::ns=>by rw[qat,lp,m8 ns];rfl
def aS (st:Sto):List W->Option D
 |[.d (.str x)]=>if x.length<=1000000 then some (.int x.length) else none
 |[w]=>(gI st w).map λds=>.int ds.length
 |_=>none
noncomputable def ym (_:Sto):List W->Option D
 |[.d (.int i)]=>some (.int (if i<0 then -i else i))
 |_=>none
noncomputable def vN (_:Sto):List W->Option D
 |[.d (.int i)]=>some (.int i)
 |[.d (.bl k)]=>some (.int (if k then 1 else 0))
 |_=>none
def rC (_:Sto):List W->Option D
 |[.d (.lst ds)]=>(a7 ds).map λns=>.int ns.sum
 |_=>none
def BS (_:Sto):List W->Option D
 |[.d (.lst ds)]=>(lp ds).map λns=>.bl (ns.all id)
 |_=>none
def ft (st:Sto):List W->Option D
 |[w]=>(gI st w).map λds=>.tup ds
 |_=>none
def xv (st:Sto):List W->Option (List D)
 |[w]=>gI st w
 |_=>none
noncomputable def wo:D->Bool
 |.non=>true
 |.int i=>decide (0<=i)&&decide (i<1024)
 |_=>false
def wY (_:Sto):List W->Option D
 |[.d (.int i)]=>if i.natAbs.log2<1920 then some (.str (toString i)) else none
 |[.d (.tup ds)]=>if ds.all wo=true/\ds.length<=1000 then some (.str (sK (ds.map vOf))) else none
 |_=>none
def FQ (st:Sto):W->Option String
 |.d .non=>some "NoneType"
 |.d (.bl _)=>some "bool"
 |.d (.int _)=>some "int"
 |.d (.str _)=>some "str"
 |.d (.tup _)=>some "tuple"
 |.d (.lst _)=>some "list"
 |.d .dct=>some "dict"
 |.h n=>(lg st n).map λ_=>"list"
 |_=>none
noncomputable def EA (t c:String):Option Bool:=
 if c = "int" then some (t=="int" || t=="bool")
 else if c = "bool"\/c = "str"\/c = "tuple"\/c = "list" then some (t==c)
 else none
def jA (st:Sto):List W->Option D
 |[w,.d (.ty c)]=>(FQ st w).bind λt=>(EA t c).map λb=>.bl b
 |_=>none
theorem eS (O:X.K=K:=by rfl):dZ K X (.builtin "len") aS:=by
 subst O;refine⟨λst ws d h=>?_⟩;have seq:∀ w,(gI st w).map (λds=>D.int ds.length)=some d->bh X _ (rCD X.K st [w] d):=λw h=>by
  obtain⟨ds,e,rfl⟩:=qad.mp h;refine rh.imp ?_
  rintro A H Q ⟨φ,S,⟨v,r,rfl,j,rfl⟩,q⟩
  obtain⟨a,C,rfl,m,L⟩:=jb S j e;exact⟨a,C,U,m,q _ H (aQ.refl H) (by rw[<-L.length];rfl)⟩
 cases ws with
 |nil=>cases h
 |cons w tl=>
  cases tl with
  |cons _ _=>
   cases w with
   |h n=>cases h
   |d x=>cases x<;>cases h
  |nil=>
   cases w with
   |h n=>exact seq _ h
   |d x=>
    cases x with
    |str x=>
     simp only[aS]at h;split at h
     ·rename_i P
      cases h;refine rj.imp ?_
      rintro A H Q ⟨φ,S,⟨v,r,rfl,j,rfl⟩,q⟩
      exact⟨x,by rw[j],qaD P mil,q _ H (aQ.refl H) U⟩
     ·cases h
    |tup ds=>exact seq _ h
    |lst ds=>exact seq _ h
    |scr ds=>exact seq _ h
    |_=>cases h
theorem nh:dZ K X (.builtin "abs") ym:=by
 refine⟨λst ws d h=>?_⟩
 match ws,h with
 |[.d (.int i)],h=>
  cases h;refine zr.imp ?_
  rintro A H Q ⟨φ,S,⟨v,r,rfl,j,rfl⟩,q⟩
  exact⟨i,by rw[j],q _ H (aQ.refl H) U⟩
theorem nk:dZ K X (.type "int") vN:=by
 refine⟨λst ws d h=>?_⟩
 match ws,h with
 |[.d (.int i)],h=>
  cases h;refine qz.imp ?_
  rintro A H Q ⟨φ,S,⟨v,r,rfl,j,rfl⟩,q⟩
  exact .inl ⟨i,by rw[j],q _ H (aQ.refl H) U⟩
 |[.d (.bl i)],h=>
  cases h;refine qz.imp ?_
  rintro A H Q ⟨φ,S,⟨v,r,rfl,j,rfl⟩,q⟩
  exact .inr ⟨i,by rw[j],q _ H (aQ.refl H) U⟩
theorem no (hc:X.calm=true:=by rfl) (O:X.K=K:=by rfl):dZ K X (.builtin "sum") rC:=by
 refine⟨λst ws d h=>?_⟩
 match ws,h with
 |[.d (.lst ds)],h=>
  obtain⟨ns,e,rfl⟩:=qad.mp h;cases bC e;refine (Gy hc U).imp ?_
  rintro A H Q ⟨φ,S,⟨v,r,rfl,⟨a,C,rfl,h0,m,L⟩,rfl⟩,q⟩
  cases L.ints;exact⟨a,ns,U,.inl m,q _ H (aQ.refl H) U⟩
theorem ni (hc:X.calm=true:=by rfl) (O:X.K=K:=by rfl):dZ K X (.builtin "all") BS:=by
 refine⟨λst ws d h=>?_⟩
 match ws,h with
 |[.d (.lst ds)],h=>
  obtain⟨ns,e,rfl⟩:=qad.mp h;cases lW e;refine (Gx hc U).imp ?_
  rintro A H Q ⟨φ,S,⟨v,r,rfl,⟨a,C,rfl,h0,m,L⟩,rfl⟩,q⟩
  cases L.bools;exact⟨a,ns,U,.inl m,q _ H (aQ.refl H) U⟩
theorem nq (O:X.K=K:=by rfl):dZ K X (.type "tuple") ft:=by
 subst O;refine⟨λst ws d h=>?_⟩
 match ws,h with
 |[w],h=>
  obtain⟨ds,e,rfl⟩:=qad.mp h;refine qe.imp ?_
  rintro A H Q ⟨φ,S,⟨v,r,rfl,j,rfl⟩,q⟩
  obtain⟨a,C,rfl,m,L⟩:=u9 S j e;refine⟨a,C,U,?_⟩;rcases m with m|m
  ·exact .inl ⟨m,λl P=>q _ _ (aQ.new P _) ⟨l,C,U,upd_same,L.fw S (Fw.new P)⟩⟩
  ·exact .inr ⟨SqT.of m,q _ H (aQ.refl H) ⟨a,C,U,m,L⟩⟩
theorem fY (O:X.K=K:=by rfl):sZ K X (.type "list") xv:=by
 subst O;refine⟨λst ws d h=>?_⟩
 match ws,h with
 |[w],h=>
  refine rm.imp ?_
  rintro A H Q ⟨φ,S,⟨v,r,rfl,j,rfl⟩,q⟩
  obtain⟨a,C,rfl,m,L⟩:=jb S j h;exact⟨a,C,U,m,λl P=>q l C H (aQ.refl H) P L⟩
theorem uZ {H:Hp}{φ:List Addr}:∀ {ds:List D}{A:List V},ds.all wo=true->Rls K H φ ds A->A=ds.map vOf/\∀ y∈A,dE y
 |[],_,_,h=>by cases h;exact⟨U,λ_ h=>nomatch h⟩
 |d::ds,_,h,r=>by
  rw[qbw,qa0]at h;obtain⟨v,vr,rfl,j,r2⟩:=r;obtain⟨e3,e4⟩:=uZ h.2 r2;have hv:v=vOf d/\dE v:=by
   cases d with
   |non=>cases (j);exact⟨U,.inl U⟩
   |int i=>
    cases (j)
    have:=h.1
    simp[wo]at this;exact⟨U,.inr ⟨i,U,this.1,this.2⟩⟩
   |_=>cases h.1
  refine⟨by rw[hv.1,e3];rfl,λy T=>?_⟩;rcases qav.mp T with z|z
  ·rw[z];exact hv.2
  ·exact e4 y z
theorem BP (Y:bj k X.A) (O:X.K=K:=by rfl):dZ K X (.builtin "repr") wY :=by
 refine⟨λst ws d h=>?_⟩
 match ws,h with
 |[.d (.int i)],h=>
  simp only[wY]at h;split at h
  ·rename_i P
   cases h;refine (zW Y U).imp ?_
   rintro A H Q ⟨φ,S,⟨v,r,rfl,j,rfl⟩,q⟩
   exact .inl ⟨i,by rw[j],P,q _ H (aQ.refl H) U⟩
  ·cases h
 |[.d (.tup ds)],h=>
  simp only[wY]at h;split at h
  ·rename_i P
   cases h;refine (zW Y U).imp ?_
   rintro A H Q ⟨φ,S,⟨v,r,rfl,⟨a,C,rfl,m,L⟩,rfl⟩,q⟩
   obtain⟨e1,e2⟩:=uZ P.1 L;exact .inr ⟨a,C,U,(SqT.of m),e2,by rw[<-L.length];exact P.2,q _ H (aQ.refl H) (by rw[e1];rfl)⟩
  ·cases h
theorem e8 (N:t = "NoneType"\/t = "bool"\/t = "int"\/t = "str"\/t = "tuple"\/t = "list"\/t = "dict") (h:EA t c=some b):qhx K (.type t) (.type c)=some b :=by
 unfold EA at h;split at h
 ·rename_i hc
  subst hc;rcases N with rfl|rfl|rfl|rfl|rfl|rfl|rfl<;>(cases h;rfl)
 ·split at h
  ·rename_i _ hc
   rcases hc with rfl|rfl|rfl|rfl<;>rcases N with rfl|rfl|rfl|rfl|rfl|rfl|rfl<;>(cases h;rfl)
  ·cases h
theorem nn (O:X.K=K:=by rfl):dZ K X (.builtin "isinstance") jA:=by
 subst O;refine⟨λst ws d h=>?_⟩;unfold jA at h;split at h
 case h_2=>cases h
 rename_i w c;simp only[jA,qaa,qad]at h;obtain⟨t,N,b,hb,rfl⟩:=h;intro pins s σ H xs C Q I rv q;obtain⟨φ,S,⟨v,r,rfl,j,u,r',rfl,r2,rfl⟩,q⟩:=q;cases (show u=.ty c from r2);obtain⟨vv,uu,rfl,B,rv2⟩:=rv.two;cases rv2;have fin:∀ tk,EP X pins σ Q (.bool b) { s with toks:=tk }:=λtk=>⟨.bl b,H,I.tok tk,U,q _ H (aQ.refl H) U⟩;cases w with
 |h n=>
  obtain⟨a,ea,rfl⟩:=j;obtain⟨ds,eds,rfl⟩:=qad.mp N;obtain⟨A,hv,_⟩:=S.atl n a ds ea eds;exact bZ I B (.lst hv) (e8 (by simp) hb) fin
 |d x=>
  cases x with
  |non=>cases N;cases j;exact bZ I B .non (e8 (by simp) hb) fin
  |ob _ _=>cases N
  |bl x=>cases N;cases j;exact bZ I B (.bl x) (e8 (by simp) hb) fin
  |int x=>cases N;cases j;exact bZ I B (.int x) (e8 (by simp) hb) fin
  |str x=>cases N;cases j;exact bZ I B (.str x) (e8 (by simp) hb) fin
  |lst ds=>
   cases N;obtain⟨a,A,rfl,h0,m,L⟩:=j;rcases m with m|⟨o,m⟩
   ·exact bZ I B (.lst m) (e8 (by simp) hb) fin
   ·exact bZ I B (.frz m) (e8 (by simp) hb) fin
  |tup ds=>
   cases N;obtain⟨a,A,rfl,m,L⟩:=j;cases B;obtain⟨its,_,p,_⟩:=I.tuple (SqT.of m);obtain⟨o,e1,e2,_⟩:=p;exact qbM qgO I.kIn ⟨o,e1,e2⟩ (e8 (by simp) hb) (λz=>nomatch z) fin
  |dct=>
   cases N;obtain⟨a,rfl,_,m⟩:=j;rcases m with⟨d,m⟩|⟨d,m⟩
   ·exact bZ I B (.dK m) (e8 (by simp) hb) fin
   ·exact bZ I B (.dT m) (e8 (by simp) hb) fin
  |ty x=>cases N
  |scr x=>cases N
variable {e a b:Expr}{es:List Expr}{pos:Pos}{f fa fb:Ef}{af:Af}
theorem uo (hg:Gl X x) (hm:X.mg x=none) (hv:qce x=some (.type c)) (hn:x≠"__name__":=by decide) (hd:(x==("__debug__"))=false:=by decide):IE K X (.Name x pos) (iC (.ty c)) :=
 zP (v:=.ty c) (CJ hg hm hv U hn hd) λ_ _=>rfl
def cI (g:List D->List W->Option (D×List D)) (o:Ef) (a:Af):Ef
 |env,st=>(o env st).bind λx=>(a env x.2).bind λr=>match x.1 with
 |.h n=>(lg x.2 n).bind λ_=>(lg r.2 n).bind λds=>(g ds r.1).map λy=>(.d y.1,r.2.set n (.l y.2))
 |_=>none
noncomputable def cX (ds:List D):List W->Option (D×List D)
 |[.d x]=>if ds.length<1000000 then some (.non,ds++[x]) else none
 |_=>none
theorem vS {id}{E}(slot:Slot "list" name id) (hty:typeOf (.builtin id)=pure (.type "method_descriptor")) (hm:MtR X id rr)
  (hg:∀ (H) (φ) (st) (n) (ad) (ds) (A) (ws) (C) (y) (Q),Sr K H φ st->φ[n]?=some ad->lg st n=some ds->H ad=some (.lst A)->Rls K H φ ds A->Rws K H φ ws C->g ds ws=some y->
    (∀ v vs',Rl K H φ y.1 v->Rls K H φ y.2 vs'->(∀ b,v≠.ref b)->Q v (upd H ad (.lst vs')))->rr (.ref ad) C H Q)
  (hfl:∀ ds ws y,g ds ws=some y->bN y.1=true)
  (ho:IE K X a fa) (ha:IA K X (e::es) af) (J:qcc a name X.env (eval a X.env)=eval a X.env:=by rfl)
  (F:(e::es).all ay=true:=by rfl) (G:(e::es).length<30:=by decide) (M:(E.endLine==pos.line)=true:=by rfl) (O:X.K=K:=by rfl) :
  IE K X (.Call (.Attribute a name E) (e::es) [] pos) (cI g fa af) :=by
 have R:=by rw[qbw,qa0]at F;exact F
 refine⟨λenv st r Y=>?_⟩;simp only[cI,qaa]at Y;obtain⟨⟨x,s1⟩,hx,⟨ws,s2⟩,hw,Y⟩:=Y;cases x with
 |d x=>cases Y
 |h n=>
  simp only[qaa,qad]at Y;obtain⟨ds1,hds1,ds,hds,y,T,rfl⟩:=Y;refine (Ar qd8 slot hty hm (ho.run _ _ _ hx) (ha.run _ _ _ hw) J (pL F G) M (aP R.1) (bg R.2)).imp ?_
  rintro σ H Q ⟨φ,hE,hS,q⟩
  refine⟨φ,hE,hS,λv H1 φ1 f1 S1 w1=>?_⟩;obtain⟨ad,ea,rfl⟩:=w1;obtain⟨vs1,hv1,_⟩:=S1.atl n ad _ ea hds1;refine⟨.inl ⟨U,vs1,SqL.of hv1⟩,φ1,hE.fw hS f1,S1,λC H2 φ2 f2 S2 w2=>?_⟩;have ea2:=f2.get ea;obtain⟨vs2,hv2,rl2⟩:=S2.atl n ad ds ea2 hds;refine hg H2 φ2 s2 n ad ds vs2 ws C y _ S2 ea2 hds hv2 rl2 w2 T λv vs' j r2 hb=>?_;obtain⟨f3,S3⟩:=S2.put ea2 r2;exact q v _ φ2 ((f1.trans f2).trans f3) S3 (j.fw S2 f3)
theorem fC {E} (ho:IE K X a fa) (ha:IA K X (e::es) af) (J:qcc a "append" X.env (eval a X.env)=eval a X.env:=by rfl)
  (F:(e::es).all ay=true:=by rfl) (G:(e::es).length<30:=by decide) (M:(E.endLine==pos.line)=true:=by rfl) (O:X.K=K:=by rfl) :
  IE K X (.Call (.Attribute a "append" E) (e::es) [] pos) (cI cX fa af) :=by
 refine vS PySem.F.slot_list_append PySem.F.type_list_append yO (λH φ st n ad ds A ws C y Q S ea eds hv rl rw T q=>?_) (λds ws y h=>?_) ho ha J F G M O
 ·match ws,T with
  |[.d x],T=>
   simp only[cX]at T;split at T
   ·rename_i P
    cases T;obtain⟨v,r,rfl,j,rfl⟩:=rw;exact⟨ad,A,v,U,U,hv,by rw[<-rl.length];exact qaO P mil,q _ _ U (rl.append ⟨v,_,U,j,U⟩) (λb z=>nomatch z)⟩
   ·cases T
 ·match ws,h with
  |[.d x],h=>
   simp only[cX]at h;split at h
   ·cases h;rfl
   ·cases h
end
section
variable {K:qae}{X:Cx}{e a b:Expr}{es:List Expr}{pos:Pos}{f P fb:Ef}{R:Af}
theorem ku (h:∀ ta,PA X [a,b] ta->PS X (.Assign [.Tuple [.Name x px,.Name y py] kt pt] (.Tuple [a,b] k2 pt2) pos) (Hv i j ta)) (J:IA K X [a,b] R) :
  IS K X (.Assign [.Tuple [.Name x px,.Name y py] kt pt] (.Tuple [a,b] k2 pt2) pos) (rQ i j R) :=by
 refine⟨λenv st r l=>?_⟩;simp only[rQ,qaa]at l;obtain⟨⟨ws,s1⟩,N,l⟩:=l;dsimp only at l;split at l
 case h_2=>cases l
 rename_i x y;cases l;refine (h _ (J.run _ _ _ N)).imp ?_
 rintro D σ H ⟨φ,C,w,q⟩
 refine⟨φ,C,w,λvs H1 A G s1 M=>?_⟩;obtain⟨v,r,rfl,r1,u,r',rfl,L,r3⟩:=M;cases r3;exact⟨v,u,U,q _ H1 A G (((C.fw w G).set i r1).set j L) s1⟩
def rL (K:qae) (st:Sto) (x y:W) (ds:List D):R2:=λvx T H Q=>∃ φ,Sr K H φ st/\Rw K H φ x vx/\Rw K H φ y T/\∀ p s,H p=none->Rls K H φ ds s->Q (.ref p) (upd H p (.lst s))
structure OpL (K:qae) (X:Cx) (f:Value->Value->Sem Value) (g:Sto->W->W->Option (List D)):Prop where
 run:∀ st x y d,g st x y=some d->OpR X f (rL K st x y d)
noncomputable def ug (g:Sto->W->W->Option (List D)) (a b:Ef):Lf
 |env,st=>(a env st).bind λx=>(b env x.2).bind λy=>(g y.2 x.1 y.1).map λd=>(d,y.2)
theorem ur (ho:OpL K X (qbG op) g) (J:IE K X a P) (hb:IE K X b fb):IL K X (.BinOp a op b pos) (ug g P fb) :=by
 refine⟨λenv st r l=>?_⟩;simp only[ug,qaa,qad]at l;obtain⟨x,hx,y,N,d,hd,rfl⟩:=l;refine (DI (ho.run _ _ _ _ hd) (J.run _ _ _ hx) (hb.run _ _ _ N)).imp ?_
 rintro σ H Q ⟨φ,C,w,q⟩
 exact⟨φ,C,w,λv H1 A G s1 M=>⟨A,C.fw w G,s1,λu H2 F f2 Y w2=>⟨F,Y,M.fw s1 f2,w2,λp s O r=>q p s H2 F (G.trans f2) Y O r⟩⟩⟩
noncomputable def oz (_:Sto):W->W->Option (List D)
 |.d (.lst a),.d (.int k)=>if a.length<=1000/\-1000<=k/\k<1000 then some (qaJ k.toNat a).flatten else none
 |_,_=>none
theorem pe:OpL K X (qbG .Mult) oz:=by
 refine⟨λst x y d h=>?_⟩
 match x,y,h with
 |.d (.lst as),.d (.int k),h=>
  simp only[oz]at h;split at h
  ·rename_i hl
   cases h;refine xC.imp ?_
   rintro vx T H Q ⟨φ,S,⟨a,s,rfl,h0,I,B⟩,L,q⟩
   refine⟨a,k,s,U,L,I,by lia,by lia,?_,λp O=>q p _ O (B.rep _)⟩;rw[<-B.length]
   have:as.length*k.toNat<=1000*1000:=qc0 hl.1 (by lia)
   exact qaD this mil
  ·cases h
noncomputable def vT (x:Int):List Int->List Int
 |[]=>[x]
 |y::c=>if x<=y then x::y::c else y::vT x c
noncomputable def rX:List Int->List Int
 |[]=>[]
 |x::xs=>vT x (rX xs)
theorem lF (x):∀ c,(vT x c).Perm (x::c)
 |[]=>qdi _
 |y::c=>by
  unfold vT;split
  ·exact qdi _
  ·exact (List.Perm.cons y (lF x c)).trans (List.Perm.swap x y c)
theorem l9:∀ xs,(rX xs).Perm xs
 |[]=>qdi _
 |x::xs=>(lF x _).trans (List.Perm.cons x (l9 xs))
theorem l7 (x):∀ {c},c.Pairwise (·<=·)->(vT x c).Pairwise (·<=·)
 |[],_=>by simp[vT]
 |y::c,h=>by
  unfold vT;split
  ·rename_i E
   refine qbc.mpr ⟨λz hz=>?_,h⟩;rcases qav.mp hz with rfl|hz
   ·exact E
   ·exact qeN E ((qbc.mp h).1 z hz)
  ·refine qbc.mpr ⟨λz hz=>?_,l7 x (qbc.mp h).2⟩
   rcases qav.mp ((lF x c).mem_iff.mp hz) with rfl|hz
   ·lia
   ·exact (qbc.mp h).1 z hz
theorem jp:∀ xs,(rX xs).Pairwise (·<=·)
 |[]=>List.Pairwise.nil
 |x::xs=>l7 x (jp xs)
theorem vd { c:List Int} (p:xs.Perm c) (I:xs.Pairwise (·<=·)) (B:c.Pairwise (·<=·)):xs=c :=
 qfA (λa b _ _ I B=>Int.le_antisymm I B) I B p
theorem lb:∀ {ns:List Int}{s:List Value},qcn s ns->aI (ns.map V.int) s
 |_,_,.nil=>.nil
 |_,_,.cons n t h=>.cons ⟨t,U⟩ (lb h)
theorem Dg {ad}(hO:BH H) (w:SqL K H ad (ns.map V.int)) (h:∃ st,m [.d (.scr ns)] []=some (.d (.bl true),st)):spI K m [.ref ad] H (λv _=>v=.bl true) λ_ _ _=>False :=by
 obtain⟨st,h⟩:=h;refine⟨_,_,_,_,h,⟨_,_,U,⟨ad,U,?_⟩,U⟩,⟨qcX,U,λn a ds e=>by simp at e⟩,λv H' φ' _ _ r=>r⟩;rcases w with (h|h)|h
 ·rcases hO ad with z|⟨o,xs,z⟩
  ·rw[h]at z;cases z
  ·rw[h]at z;cases z
 ·exact .inl h
 ·exact .inr h
end
end L2
namespace L2
open PySem
theorem bO :∀ {ds} (Pv:Nat->Ev->Sto->Prop) {env}{st},Pv 0 env st->
  (∀ i d env st,ds[i]?=some d->Pv i env st->∃ c f e,cD g (.d d) env=some c/\(body c st=some (.nx f e)\/body c st=some (.ct f e))/\Pv (i+1) f e)->
  ∃ a b,bu g body ds env st=some (.nx a b)/\Pv ds.length a b
 |[],Pv,env,st,j,_=>⟨env,st,U,j⟩
 |d::ds,Pv,env,st,j,k=>by
  obtain⟨c,f,e,n,h,l⟩:=k 0 d env st U j;obtain⟨q,s',m,r⟩:=bO _ l λi o a b hd p=>k (i+1) o a b (by simpa using hd) p;refine⟨q,s',?_,r⟩;unfold bu;rw[n,qab];rcases h with h|h<;>(rw[h];exact m)
theorem kI (p) (F):∀ {ds},(∀ d∈ds,∃ a,cD g (.d d) env=some a/\tt a st=some (p d,st)/\(p d=true->te a st=some (.d (F d),st)))->
  lcI g tt te env ds st=some ((ds.filter p).map F,st)
 |[],_=>rfl
 |d::ds,h=>by
  obtain⟨a,e,f,c⟩:=h d qag;have b:=kI p F λx hx=>h x (qah _ hx);unfold lcI;rw[e,qab,f,qab];cases hp:p d with
  |true=>rw[c hp,qab,b,qb1,hp];rfl
  |false=>rw[b,qb1,hp];rfl
theorem sh (F) (h:∀ d∈ds,∃ a,cD g (.d d) env=some a/\te a st=some (.d (F d),st)):lcI g aM te env ds st=some (ds.map F,st) :=by
 have:=kI (tt:=aM) _ F λd hd=>by
  obtain⟨a,c,b⟩:=h d hd;exact⟨a,c,U,λ_=>b⟩
 rw[this,qha.mpr λ_ _=>rfl]
theorem eF (h:-(2^64)<a/\a<2^64):qbH a b :=BF.ok (.inl h)
theorem dz (h:-(2^64)<b/\b<2^64):qbH a b :=BF.ok (.inr h)
theorem D7 (a:α) (l):atI (a::l) 0=some a :=cT U
theorem HY (n):ixN (n+1) 0=some 0 :=ef (by lia)
theorem C8 (h:(cG 0 n)[i]?=some d):d=.int (i)/\i<n :=by
 rw[u8]at h;by_cases hi:i<n
 ·rw[iFP hi]at h
  cases h;exact⟨by rw[qbO],hi⟩
 ·rw[iFN hi]at h;cases h
end L2
namespace L2
open PySem PySem.Spec PyProof.Rows
noncomputable def F9:Nat->Nat->StateT qbY Sem (Option Nat):=sortPriv% PySem.Builtin.countRun
noncomputable def D9:Nat->Nat->Nat->StateT qbY Sem Bool:=sortPriv% PySem.Builtin.binarySort
def Cm (prog:qaR) (w:World) (A:qa2) (s:qak) (a:qdc) (O:qfn) (rk:Keyed->O.α) (S:Keyed->Prop):Prop:=
 ∀ x y,S x->S y->∀ (Q:Bool->qak->Prop) (E:Value->qak->Prop),Q (O.blt (rk x) (rk y)) s->wpAny (model prog w) A (keyLt' a x.1 y.1) Q E s
section
variable {prog:qaR}{w:World}{A:qa2}{E:Value->qak->Prop}{s:qak}{κ:qdc}{O:qfn}{rk:Keyed->O.α}{S:Keyed->Prop}
theorem HA (B:Cm prog w A s κ O rk S) {st}(u:kindOf st=κ) (hx:S x) (D:S y) (h:Q (some (O.blt (rk x) (rk y))) st) :
  wpS (model prog w) A E s (lt' x y) Q st :=by
 rw[lt'_eq];refine qbz (qhe ?_);rw[u];exact qbz (wpS_lift (qeH (B x y hx D _ _ ⟨U,qcb h⟩)))
theorem mn [Decidable c] {M}{A'}{E'}{s'}{α}{a b}{Q:α->qbY->Prop}{st} (h:c) (k:wpS M A' E' s' a Q st):wpS M A' E' s' (if c then a else b) Q st :=by rw[iFP h];exact k
theorem qR [Decidable c] {M}{A'}{E'}{s'}{α}{a b}{Q:α->qbY->Prop}{st} (h:¬ c) (k:wpS M A' E' s' b Q st):wpS M A' E' s' (if c then a else b) Q st :=by rw[iFN h];exact k
theorem x8 {st}(hi:f[i]?=some x) (h:Q x st):wpS (model prog w) A E s (elem' f i) Q st :=by
 rw[elem'_eq,hi];exact qcb h
theorem x9 {st:qbY}(h:Q () st):wpS (model prog w) A E s (liftM (rule t)) Q st :=wpS_lift (qd1 ⟨U,h⟩)
noncomputable def kyd (f:Array Keyed) (i:Nat):Keyed:=(f[i]?).getD (.none,.none)
theorem ow (h:i<f.size):f[i]?=some (kyd f i) :=by
 unfold kyd;simp[h]
theorem fG (h:a[i]?=b[j]?):kyd a i=kyd b j :=by
 unfold kyd;rw[h]
theorem Ds (B:Cm prog w A s κ O rk S) {st}(u:kindOf st=κ) (hi:i<(arrOf st).size) (m:j<(arrOf st).size) (hx:S (kyd (arrOf st) i)) (D:S (kyd (arrOf st) j))
  (h:Q (some (O.blt (rk (kyd (arrOf st) i)) (rk (kyd (arrOf st) j)))) st):wpS (model prog w) A E s (ltAt' i j) Q st :=by
 refine qbz (qhe ?_);exact qbz (x8 (ow hi) (qbz (x8 (ow m) (HA B u hx D h))))
structure SB (κ:qdc) (a0:Array Keyed) (lo:Nat) (p0:Array (Nat×Nat×Nat)) (g0:Nat) (st:qbY):Prop where
 perm:(arrOf st).Perm a0
 pre:∀ k,k<lo->(arrOf st)[k]?=a0[k]?
 kind:kindOf st=κ
 fail:qhk st=none
 pend:qe0 st=p0
 gal:qie st=g0
variable {a0:Array Keyed}{lo:Nat}{p0:Array (Nat×Nat×Nat)}{g0:Nat}{st:qbY}
theorem SB.size (h:SB κ a0 lo p0 g0 st):(arrOf st).size=a0.size:=h.perm.size_eq
theorem SB.mem (h:SB κ a0 lo p0 g0 st) (C:∀ x∈a0.toList,S x) (hi:i<a0.size):S (kyd (arrOf st) i) :=by
 have l:i<(arrOf st).size:=by rw[h.size];exact hi
 refine C _ ((qfY.mp h.perm).mem_iff.mp ?_);have e:=ow l;rw[qbQ l]at e;rw[<-qaP e];exact Array.getElem_mem_toList l
theorem SB.set (h:SB κ a0 lo p0 g0 st) (J:xs.Perm (arrOf st)) (z:∀ k,k<lo->xs[k]?=(arrOf st)[k]?):SB κ a0 lo p0 g0 (setArr st xs) :=
 ⟨J.trans h.perm,λk u=>(z k u).trans (h.pre k u),h.kind,h.fail,h.pend,h.gal⟩
theorem x6 (B:Cm prog w A s κ O rk S) (C:∀ x∈a0.toList,S x) (p:SB κ a0 lo p0 g0 st) (hi:i<a0.size) (m:j<a0.size)
  (h:Q (some (O.blt (rk (kyd (arrOf st) i)) (rk (kyd (arrOf st) j)))) st):wpS (model prog w) A E s (ltAt' i j) Q st :=
 Ds B p.kind (by rw[p.size];exact hi) (by rw[p.size];exact m) (p.mem C hi) (p.mem C m) h
def Up (rk:Keyed->O.α) (f:Array Keyed) (lo n:Nat):Prop:=∀ i j,lo<=i->i<=j->j<lo+n->O.kle (rk (kyd f i)) (rk (kyd f j))
def jd (rk:Keyed->O.α) (f:Array Keyed) (lo n:Nat):Prop:=∀ i j,lo<=i->i<=j->j<lo+n->O.kle (rk (kyd f j)) (rk (kyd f i))
theorem jF (m:j<=xs.size) (k):kyd (qjJ xs i j ((j - i) / 2)) k=if i<=k/\k<j then kyd xs (i+j - 1 - k) else kyd xs k :=by
 have e:=qh1 (i:=i) m k;by_cases r:i<=k/\k<j
 ·rw[iFP r]at e ⊢;exact fG e
 ·rw[iFN r]at e ⊢;exact fG e
theorem ox (I:g<xs.size) (hd:d<=g) (k) :
  kyd (bubble xs g d) k=if k=g - d then kyd xs g else if g - d<k/\k<=g then kyd xs (k - 1) else kyd xs k :=by
 have e:=qjM I d hd k;by_cases r:k=g - d
 ·rw[iFP r]at e ⊢;exact fG e
 ·rw[iFN r]at e ⊢
  by_cases H:g - d<k/\k<=g
  ·rw[iFP H]at e ⊢;exact fG e
  ·rw[iFN H]at e ⊢;exact fG e
theorem SB.rev (p:SB κ a0 lo p0 g0 st) (hi:lo<=i) (m:j<=a0.size):SB κ a0 lo p0 g0 (setArr st (qjJ (arrOf st) i j ((j - i) / 2))) :=
 p.set (mirror_perm _ _ _ _) λk u=>by
  rw[qh1 (by rw[p.size];exact m),iFN (by lia)]
theorem iK (m:j<=xs.size) (G:∀ k,i<=k->k<j->rk (kyd xs k)=rk (kyd xs (j - 1))) (k):rk (kyd (qjJ xs i j ((j - i) / 2)) k)=rk (kyd xs k) :=by
 rw[jF m];split
 ·rw[G _ (by lia) (by lia),G k (by lia) (by lia)]
 ·rfl
theorem sY (h:Q () (setArr st (qjJ (arrOf st) i j ((j - i) / 2)))):wpS (model prog w) A E s (reverseSlice' i j) Q st :=by
 exact qg0 h
theorem Up.more (h:Up rk f lo n) (r:1<=n) (z:O.kle (rk (kyd f (lo+n - 1))) (rk (kyd f (lo+n)))):Up rk f lo (n+1) :=by
 intro i j hi o m;by_cases q:j<lo+n
 ·exact h i j hi o q
 ·have v:j=lo+n:=by lia
  subst v;by_cases l:i=lo+n
  ·subst l;exact qcK _
  ·exact qdx (h i _ hi (by lia) (by lia)) z
theorem jd.more (h:jd rk f lo n) (r:1<=n) (z:O.kle (rk (kyd f (lo+n))) (rk (kyd f (lo+n - 1)))):jd rk f lo (n+1) :=by
 intro i j hi o m;by_cases q:j<lo+n
 ·exact h i j hi o q
 ·have v:j=lo+n:=by lia
  subst v;by_cases l:i=lo+n
  ·subst l;exact qcK _
  ·exact qdx z (h i _ hi (by lia) (by lia))
theorem Up.one :Up rk f lo 1 :=λi j hi o m=>by
 have:i=j:=by lia
 subst this;exact qcK _
theorem jd.congr (h:jd rk xs lo n) (e:∀ k,rk (kyd F k)=rk (kyd xs k)):jd rk F lo n :=λi j hi o m=>by
 rw[e,e];exact h i j hi o m
end
section
variable {prog:qaR}{w:World}{A:qa2}{E:Value->qak->Prop}{s:qak}{G:qdc}{O:qfn}{rk:Keyed->O.α}{S:Keyed->Prop}
variable {a0:Array Keyed}{lo:Nat}{L:Array (Nat×Nat×Nat)}{J:Nat}{st:qbY}
theorem By {Q:Option (Option Nat)×Nat->qbY->Prop}
  (hf:∀ x n (Q'),1<=n->n < b->(O.blt (rk (kyd (arrOf st) (lo+n))) (rk (kyd (arrOf st) (lo+n - 1)))=true->Q' (.done (none,n)) st)->
    (O.blt (rk (kyd (arrOf st) (lo+n))) (rk (kyd (arrOf st) (lo+n - 1)))=false->Q' (.yield (none,n+1)) st)->wpS (model prog w) A E s (f x (none,n)) Q' st)
  (R:1<=o) (hn:o<=b) (T:Up rk (arrOf st) lo o)
  (h:∀ n,o<=n->n<=b->Up rk (arrOf st) lo n->(n=b\/O.klt (rk (kyd (arrOf st) (lo+n))) (rk (kyd (arrOf st) (lo+n - 1))))->Q (none,n) st):wpS (model prog w) A E s (forIn [o:b] (none,o) f) Q st :=by
 refine qei (I:=λx c a=>a=st/\c=(none,x)/\Up rk _ lo x) ?_ ?_ ⟨U,U,T⟩
 ·rintro x c a hx X ⟨rfl,rfl,u⟩
  exact hf x x _ (by lia) X (λl=>h x hx (by lia) u (.inr l)) λl=>⟨U,U,u.more (by lia) l⟩
 ·rintro c a ⟨rfl,rfl,u⟩
  rw[show max o b=b by lia]at u ⊢;exact h b hn (qan _) u (.inl U)
def Eqs (rk:Keyed->O.α) (H:Array Keyed) (lo m q:Nat):Prop:=q+1<=m/\∀ i,lo+m - (q+1)<=i->i<lo+m->rk (kyd H i)=rk (kyd H (lo+m - 1))
theorem Dr {Q:Option (Option Nat)×Nat×Nat->qbY->Prop}
  (hf:∀ x n q a (Q'),1<=n->n < b->SB G a0 lo L J a->
    (O.blt (rk (kyd (arrOf a) (lo+n))) (rk (kyd (arrOf a) (lo+n - 1)))=true->0<q->Q' (.yield (none,n+1,0)) (setArr a (qjJ (arrOf a) (lo+n - (q+1)) (lo+n) ((lo+n - (lo+n - (q+1))) / 2))))->
    (O.blt (rk (kyd (arrOf a) (lo+n))) (rk (kyd (arrOf a) (lo+n - 1)))=true->q=0->Q' (.yield (none,n+1,0)) a)->
    (O.blt (rk (kyd (arrOf a) (lo+n - 1))) (rk (kyd (arrOf a) (lo+n)))=true->Q' (.done (none,n,q)) a)->
    (O.blt (rk (kyd (arrOf a) (lo+n))) (rk (kyd (arrOf a) (lo+n - 1)))=false->O.blt (rk (kyd (arrOf a) (lo+n - 1))) (rk (kyd (arrOf a) (lo+n)))=false->Q' (.yield (none,n+1,q+1)) a)->
    wpS (model prog w) A E s (f x (none,n,q)) Q' a)
  (R:1<=o) (hn:o<=b) (hz:lo+b<=a0.size) (p:SB G a0 lo L J st) (hd:jd rk (arrOf st) lo o)
  (h:∀ n q a,o<=n->n<=b->SB G a0 lo L J a->jd rk (arrOf a) lo n->Eqs rk (arrOf a) lo n q->Q (none,n,q) a):wpS (model prog w) A E s (forIn [o:b] (none,o,0) f) Q st :=by
 have one:∀ (H:Array Keyed) m,1<=m->Eqs rk H lo m 0:=λH m hm=>⟨by lia,λi R h2=>by rw[show i=lo+m - 1 by lia]⟩;refine qei (I:=λx c a=>∃ q,c=(none,x,q)/\SB G a0 lo L J a/\jd rk (arrOf a) lo x/\Eqs rk (arrOf a) lo x q) ?_ ?_ ⟨0,U,p,hd,one _ _ R⟩
 ·rintro x c a hx X ⟨q,rfl,e,u,C⟩
  have F:lo+x<=(arrOf a).size:=by rw[e.size];lia
  refine hf x x q a _ (by lia) X e (λl K=>?_) (λl K=>?_) (λl=>h x q a hx (by lia) e u C) λl N=>?_
  ·exact⟨0,U,e.rev (by have:=C.1;lia) (by lia),jd.congr (u.more (by lia) (qdk l)) (iK (rk:=rk) (xs:=arrOf a) (j:=lo+x) F C.2),one _ _ (by lia)⟩
  ·exact⟨0,U,e,u.more (by lia) (qdk l),one _ _ (by lia)⟩
  ·have eq:=qgQ N l
   refine⟨_,U,e,u.more (by lia) (by rw[eq];exact qcK _),by have:=C.1;lia,λi R h2=>?_⟩;rw[show lo+_ - 1=lo+x by lia,eq];by_cases hi:i=lo+x
   ·rw[hi,eq]
   ·exact C.2 i (by lia) (by lia)
 ·rintro c a ⟨q,rfl,e,u,C⟩
  rw[show max o b=b by lia]at u C ⊢;exact h b q a hn (qan _) e u C
theorem FT {k:Option (Option Nat)×Nat->StateT qbY Sem (Option Nat)}(p:SB G a0 lo L J st) (hd:jd rk (arrOf st) lo m) (R:1<=m) (hm:m<=b) (hz:lo+b<=a0.size)
  (hf:∀ x n (Q') d,SB G a0 lo L J d->1<=n->n < b->(O.blt (rk (kyd (arrOf d) (lo+n))) (rk (kyd (arrOf d) (lo+n - 1)))=true->Q' (.done (none,n)) d)->
    (O.blt (rk (kyd (arrOf d) (lo+n))) (rk (kyd (arrOf d) (lo+n - 1)))=false->Q' (.yield (none,n+1)) d)->wpS (model prog w) A E s (f x (none,n)) Q' d)
  (hk:∀ n d,SB G a0 lo L J d->1<=n->n<=b->Up rk (arrOf d) lo n->wpS (model prog w) A E s (k (none,n)) Q d) :
  wpS (model prog w) A E s (do reverseSlice' lo (lo+m);let r <-forIn [m:b] (none,m) f;k r) Q st :=by
 refine qbz (sY ?_);have y:=p.rev (j:=lo+m) (qan _) (by lia);refine qbz (By (λx n Q' z v hy B=>hf x n Q' _ y z v hy B) R hm ?_ λn' V D hu' _=>hk n' _ y (by lia) D hu');intro i j hi hij hj;have hs3:lo+m<=(arrOf st).size:=by rw[p.size];lia
 rw[jF hs3,jF hs3,iFP (by lia),iFP (by lia)];exact hd _ _ (by lia) (by lia) (by lia)
set_option maxHeartbeats 1000000 in
theorem Dq (hC:Cm prog w A s G O rk S) (hS:∀ x∈a0.toList,S x) (p:SB G a0 lo L J st) (R:1<=b) (hz:lo+b<=a0.size)
  (h:∀ m a,SB G a0 lo L J a->1<=m->m<=b->Up rk (arrOf a) lo m->Q (some m) a):wpS (model prog w) A E s (F9 lo b) Q st :=by
 have W:∀ a (_:SB G a0 lo L J a) n (Q':Option Bool->qbY->Prop),1<=n->n<b->Q' _ a->
   wpS (model prog w) A E s (ltAt' (lo+n) (lo+n - 1)) Q' a:=λa e n Q' R h2 K=>x6 hC hS e (by lia) (by lia) K
 refine qbz (By (rk:=rk) (lo:=lo) (λx n Q' z v hy B=>?_) (qan 1) R Up.one λn z v T hor=>?_)
 ·refine qbz (W st p n _ z v ?_)
  cases l:O.blt (rk (kyd (arrOf st) (lo+n))) _ with
  |true=>exact qcb (hy l)
  |false=>exact qcb (B l)
 dsimp only;by_cases hnn:n=b
 ·refine mn (by simpa using hnn) ?_
  exact qcb (h n st p z v T)
 refine qR (by simpa using hnn) ?_;have M:=hor.resolve_left hnn;have hn3:n+1<=b:=by lia
 have F:lo+n<=(arrOf st).size:=by rw[p.size];lia
 by_cases hgt:n > 1
 case' pos=>
  refine mn hgt ?_;refine qbz (x6 hC hS p (by lia) (by lia) ?_);by_cases g:O.blt (rk (kyd (arrOf st) lo)) (rk (kyd (arrOf st) (lo+n - 1)))=true
  ·rw[g];exact qcb (h n st p z v T)
  rw[qer]at g;rw[g];have t:=λk hk1 hk2=>
   qgQ (T k (lo+n - 1) hk1 (by lia) (by lia)) (qdx g (T lo k (by lia) hk1 hk2))
  refine qbz (sY ?_);have P:=p.rev (i:=lo) (j:=lo+n) (qan _) (by lia);have hd:=by
   refine jd.congr (xs:=arrOf st) (jd.more (λi j hi hij hj=>?_) (by lia) (qdk M)) (iK F t);rw[t i hi (by lia),t j (by lia) hj];exact qcK _
  clear T M g t p F hor
 case' neg=>
  refine qR hgt ?_;have P:=p;have hd:jd rk (arrOf st) lo (n+1):=by
   refine jd.more (λi j hi hij hj=>?_) (by lia) (qdk M);rw[show i=j by lia];exact qcK _
  clear T M p F hor
  revert P hd
  generalize st=st2;intro P hd
 all_goals
  refine qbz (x9 ?_);refine qbz (Dr (λx m q a Q' hm1 Y e c1 c2 c3 c4=>?_) (by lia) hn3 hz P hd λm q a hm1 Y e hd' C=>?_)
  ·refine qbz (W a e m _ hm1 Y ?_)
   cases l:O.blt (rk (kyd (arrOf a) (lo+m))) _ with
   |true=>
    dsimp only;refine mn U ?_;by_cases K:q > 0
    ·rw[iFP K];exact qbz (sY (qcb (c1 l K)))
    ·rw[iFN K];exact qcb (c2 l (by lia))
   |false=>
    dsimp only;refine qbz (x6 hC hS e (by lia) (by lia) ?_);cases N:O.blt _ (rk (kyd (arrOf a) (lo+m))) with
    |true=>exact qcb (c3 N)
    |false=>exact qcb (c4 l N)
  have hsz':lo+m<=(arrOf a).size:=by rw[e.size];lia
  dsimp only;by_cases K:q > 0
  case' pos=>
   refine mn K ?_;refine qbz (sY ?_);have hB3:=e.rev (i:=lo+m - (q+1)) (j:=lo+m) (by have:=C.1;lia) (by lia);have hd3:=jd.congr hd' (iK hsz' C.2)
  case' neg=>
   refine qR K ?_;have hB3:=e;have hd3:=hd'
  all_goals
   refine FT hB3 hd3 (by lia) Y hz (λx n' Q' d y V D hy B=>?_) λn' d y a1 a2 a3=>qcb (h n' d y a1 a2 a3);refine qbz (W d y n' _ V D ?_);cases l:O.blt (rk (kyd (arrOf d) (lo+n'))) _ with
   |true=>exact qcb (hy l)
   |false=>exact qcb (B l)
end
section
variable {prog:qaR}{w:World}{A:qa2}{E:Value->qak->Prop}{s:qak}{y:qdc}{O:qfn}{rk:Keyed->O.α}{S:Keyed->Prop}
variable {a0:Array Keyed}{lo:Nat}{C:Array (Nat×Nat×Nat)}{B:Nat}{st:qbY}
set_option maxHeartbeats 1000000 in
theorem Bz (H:Cm prog w A s y O rk S) (K:∀ x∈a0.toList,S x) (G:SB y a0 lo C B st) (v:1<=ok) (hok:ok<=n) (hz:lo+n<=a0.size) (P:Up rk (arrOf st) lo ok)
  (h:∀ a,SB y a0 lo C B a->Up rk (arrOf a) lo n->Q true a):wpS (model prog w) A E s (D9 lo n ok) Q st :=by
 refine qbz (qia (qei (I:=λk c a=>c=(none,())/\SB y a0 lo C B a/\Up rk (arrOf a) lo (min k n)) (Q:=λc a=>c=(none,())/\SB y a0 lo C B a/\Up rk (arrOf a) lo n) ?_ ?_ ?_) ?_)
 ·rintro k c a T J ⟨rfl,d,o⟩
  dsimp only
  refine qbz (qia (qei (I:=λx c b=>b=a/\∃ l r,c=(none,l,r)/\l<=r/\r<=k/\r - l<=k - x/\(∀ i,i < l->O.kle (rk (kyd (arrOf a) (lo+i))) (rk (kyd (arrOf a) (lo+k))))/\
    ∀ i,r<=i->i<k->O.klt (rk (kyd (arrOf a) (lo+k))) (rk (kyd (arrOf a) (lo+i))))
   (Q:=λc b=>b=a/\∃ l r,c=(none,l,r)/\l<=k/\(∀ i,i<l->O.kle (rk (kyd (arrOf a) (lo+i))) (rk (kyd (arrOf a) (lo+k))))/\∀ i,l<=i->i<k->O.klt (rk (kyd (arrOf a) (lo+k))) (rk (kyd (arrOf a) (lo+i)))) ?_ ?_ ?_) ?_)
  ·rintro x c b _ L ⟨rfl,l,r,rfl,D,p,hm,f,g⟩
   dsimp only;by_cases z:l>=r
   ·refine mn z ?_
    have e:l=r:=by lia
    subst e;exact qcb ⟨U,l,l,U,p,f,g⟩
   ·refine qR z ?_
    refine qbz (x6 H K d (by lia) (by lia) ?_);cases hl:O.blt (rk (kyd (arrOf b) (lo+k))) _ with
    |true=>exact qcb ⟨U,l,(l+r) / 2,U,by lia,by lia,by lia,f,λi v F=>KeyOrd.klt_of_klt_of_kle hl (o _ _ (by lia) (by lia) (by lia))⟩
    |false=>exact qcb ⟨U,(l+r) / 2+1,r,U,by lia,by lia,by lia,λi v=>qdx (o (lo+i) (lo+(l+r) / 2) (by lia) (by lia) (by lia)) hl,g⟩
  ·rintro c b ⟨rfl,l,r,rfl,D,p,hm,f,g⟩
   have e:l=r:=by lia
   subst e;exact⟨U,l,l,U,p,f,g⟩
  ·exact⟨U,0,k,U,by lia,by lia,by lia,λi hi=>by lia,λi v F=>by lia⟩
  ·rintro c b ⟨rfl,l,r,rfl,N,f,g⟩
   dsimp only;refine qbz (m:=moveDown' (lo+k) (lo+l)) ?_;rw[moveDown'_eq];have q:lo+k<(arrOf b).size:=by rw[d.size];lia
   refine qg0 (qcb ⟨U,d.set (bubble_perm _ _ _) λi hi=>?_,?_⟩)
   ·rw[qjM q _ (by lia),iFN (by lia),iFN (by lia)]
   ·intro i j hi M R
    rw[ox q (by lia),ox q (by lia),show lo+k - (lo+k - (lo+l))=lo+l by lia];have u:∀ i,lo<=i->i<lo+l->O.kle (rk (kyd (arrOf b) i)) (rk (kyd (arrOf b) (lo+k))):=λi v F=>by
     have:=f (i - lo) (by lia);rwa [show lo+(i - lo)=i by lia]at this
    have t:∀ i,lo+l<=i->i<lo+k->O.klt (rk (kyd (arrOf b) (lo+k))) (rk (kyd (arrOf b) i)):=λi v F=>by
     have:=g (i - lo) (by lia) (by lia);rwa [show lo+(i - lo)=i by lia]at this
    repeat' split
    all_goals first
     |(exfalso;lia)
     |exact qcK _
     |exact u _ (by lia) (by lia)
     |exact qdk (t _ (by lia) (by lia))
     |exact o _ _ (by lia) (by lia) (by lia)
 ·rintro c a ⟨rfl,d,o⟩
  rw[show min (max (max ok 1) n) n=n by lia]at o;exact⟨U,d,o⟩
 ·rw[show max ok 1=ok by lia,show min ok n=ok by lia]
  exact⟨U,G,P⟩
 ·rintro c a ⟨rfl,d,o⟩
  exact qcb (h a d o)
end
section
variable {O:qfn}{rk:Keyed->O.α}
variable {a b c:Array Keyed}{d e:Nat}
variable {na f:Nat}
end
section
variable {prog:qaR}{w:World}{A:qa2}{E:Value->qak->Prop}{s:qak}{c:qdc}{O:qfn}{rk:Keyed->O.α}{S:Keyed->Prop}{st:qbY}{a b:Array Keyed}
end
section
variable {prog:qaR}{w:World}{A:qa2}{E:Value->qak->Prop}{s:qak}{d:qdc}{O:qfn}{rk:Keyed->O.α}{S:Keyed->Prop}{st:qbY}{a b c:Array Keyed}{na e:Nat}
end
section
variable {prog:qaR}{w:World}{A:qa2}{E:Value->qak->Prop}{s:qak}{n:qdc}{O:qfn}{rk:Keyed->O.α}{S:Keyed->Prop}{st:qbY}{g:Array Keyed}{l m:Nat}
theorem Hz (h:Up rk a 0 a.size):a.toList.Pairwise λx y=>O.kle (rk x) (rk y) :=by
 rw[List.pairwise_iff_getElem];intro i j hi k f;have b:=by simpa using hi
 have c:=by simpa using k
 have q:=h i j (qbr _) (by lia) (by lia);have d:=ow b;have e:=ow c;rw[qbQ b]at d;rw[qbQ c]at e;rw[<-qaP d,<-qaP e]at q;simpa using q
end
section
variable {prog:qaR}{w:World}{A:qa2}{E:Value->qak->Prop}{s:qak}{κ:qdc}{O:qfn}{rk:Keyed->O.α}{S:Keyed->Prop}{st:qbY}{a0:Array Keyed}
structure D3 (κ:qdc) (O:qfn) (rk:Keyed->O.α) (a0:Array Keyed) (n1:Nat) (st:qbY):Prop where
 perm:(arrOf st).Perm a0
 kind:kindOf st=κ
 fail:qhk st=none
 pend:qe0 st=#[(0,n1,0)]
 up:Up rk (arrOf st) 0 n1
theorem GH (B:2<=n) (k:n<64):minRun' n n 0=n :=by
 obtain⟨f,rfl⟩:∃ f,n=f+1:=⟨n - 1,by lia⟩;rw[minRun'_succ,iFP (by lia)]
set_option maxHeartbeats 2000000 in
theorem Dt (v:Cm prog w A s κ O rk S) (G:kindOf st=κ) (C:qhk st=none) (J:qe0 st=#[]) (q:arrOf st=a0) (z:∀ x∈a0.toList,S x) (B:2<=a0.size) (k:a0.size<64)
  (h:∀ a,(arrOf a).toList.Perm a0.toList->(arrOf a).toList.Pairwise (λx y=>O.kle (rk x) (rk y))->qhk a=none->Q () a):wpS (model prog w) A E s sortRuns' Q st :=by
 obtain⟨l,t,K⟩:∃ l,(sortPriv% PySem.Builtin.minRun) a0.size a0.size 0=l/\l=a0.size:=⟨_,U,GH B k⟩;refine qbz (qhe ?_);have hz:(arrOf st).size=a0.size:=by rw[q]
 dsimp only;rw[hz,t]
 refine qbz (qia (qei (I:=λx c a=>(x=0/\c=(none,0)/\SB κ a0 0 #[] (qie st) a)\/(c=(none,a0.size)/\D3 κ O rk a0 a0.size a/\1<=x))
  (Q:=λc a=>c.1=none/\D3 κ O rk a0 a0.size a) ?_ ?_ ?_) ?_)
 ·rintro x c a _ hx H
  rcases H with⟨rfl,rfl,F⟩|⟨rfl,g,r⟩
  ·refine qR (by lia) ?_
   refine qbz (Dq v z F (by lia) (by lia) λm b i D m2 u=>?_);have put:∀ n d,SB κ a0 0 #[] (qie st) d->Up rk _ 0 n->n=a0.size->
     D3 κ O rk a0 a0.size (qiD _ _ ((qe0 d).push (0,n,0)) (qie d) _):=λn d e o hn=>
    ⟨e.perm,e.kind,e.fail,by rw[e.pend,hn];rfl,by rw[<-hn];exact o⟩
   by_cases j:m<l
   ·refine mn j ?_
    refine qbz (x9 (qbz (Bz v z i D (by lia) (by lia) u λd e o=>?_)));have hn:min (a0.size - 0) l=a0.size:=by lia
    refine qbz (qhe ?_);have hb:(qe0 d).back?=none:=by rw[e.pend];rfl
    rw[hb];exact qbz (qg0 (qcb (.inr ⟨by rw[qbg,hn],(put _ d e o hn),by lia⟩)))
   ·refine qR j ?_
    have hn:m=a0.size:=by lia
    refine qbz (qhe ?_);have hb:(qe0 b).back?=none:=by rw[i.pend];rfl
    rw[hb];exact qbz (qg0 (qcb (.inr ⟨by rw[qbg,hn],(put m b i u hn),by lia⟩)))
  ·refine mn (qan _) ?_
   exact qcb ⟨U,g⟩
 ·rintro c a (⟨hx,_⟩|⟨rfl,g,r⟩)
  ·lia
  ·exact⟨U,g⟩
 ·exact .inl ⟨U,U,by rw[q],λ_ _=>by rw[q],G,C,J,U⟩
 ·rintro⟨c1,c2⟩ a ⟨rfl,g⟩
  refine qbz (qia (qei (I:=λy c b=>c=(none,())/\b=a) (Q:=λc b=>c=(none,())/\b=a) ?_ ?_ ?_) ?_)
  ·rintro y c b _ L ⟨rfl,rfl⟩
   refine qbz (qhe ?_);have p:(qe0 b).size<=1:=by rw[g.pend];exact qan 1
   refine mn p ?_;exact qcb ⟨U,U⟩
  ·rintro c b ⟨rfl,rfl⟩
   exact⟨U,U⟩
  ·exact⟨U,U⟩
  ·rintro c b ⟨rfl,rfl⟩
   exact qcb (h _ (qfY.mp g.perm) (Hz (by rw[g.perm.size_eq];exact g.up)) g.fail)
end
end L2
namespace L2
open PySem PySem.Spec PyProof.Rows PySem.SeqAt
open MeetsSeq MeetsSeq2 MeetsSeq3 SeqRoads2
open AutoSeq1 (wpAny_loadPart')
def pY (A:qa2) (s:qak) (y x:Value) (b:Bool):Prop:=∀ (prog:qaR) (w:World) (E:Value->qak->Prop) (Q:Value->qak->Prop),Q (.bool b) s->wpAny (model prog w) A (richCompare .Lt y x) Q E s
noncomputable def oH (e l:Nat->Bool) (fin:Bool):Nat->Nat->Bool
 |0,_=>fin
 |k+1,i=>if e i=true then oH e l fin k (i+1) else l i
theorem pT (p q) (a c) (n L) (N B) (M D) (e l) :
  Meets (qe7.«tuple.__lt__» ⟨[.ref p,.ref q],[]⟩)
   (λA R s=>(s.heap.get? p=some ⟨.type "tuple",N,.seq a n,M⟩/\s.heap.get? q=some ⟨.type "tuple",B,.seq c L,D⟩)/\
     (∀ j (J) (K:j<c.size),EqAt A.in1 s a[j] c[j] (e j)/\(e j=false->pY A.in1 s a[j] c[j] (l j)))/\
     R (.ok (.ret (.bool (oH e l (decide (a.size<c.size)) (min a.size c.size) 0)))) s) :=
 .of_wp λprog w A R s h=>by
  obtain⟨F,g,d,C,os⟩:=s;obtain⟨⟨J,K⟩,G,h⟩:=h;have T:=qdV;have E:(a.toList.zip c.toList).length=min a.size c.size:=by simp
  wp_walk using wpAny_loadPart' J,wpAny_loadPart' K,qiQ _ (λm b s'=>b.1=none/\s'=⟨F,g,d,C,os⟩/\∃ i,i<=min a.size c.size/\m=(a.toList.zip c.toList).drop i/\
   R (.ok (.ret (.bool (oH e l (decide (a.size<c.size)) (min a.size c.size - i) i)))) ⟨F,g,d,C,os⟩) _
  case turn=>
   rintro⟨y,x⟩ m b s' ⟨r,rfl,i,hi,hz,t⟩
   have u:i<(a.toList.zip c.toList).length:=by
    rcases qeK i (a.toList.zip c.toList).length with h'|h'
    ·exact h'
    ·rw[List.drop_of_length_le h']at hz;cases hz
   rw[E]at u;have I:i<a.size:=by lia
   have H:i<c.size:=by lia
   rw[qb4 (by rw[E];exact u)]at hz;injection hz with v o;have z:y=a[i]:=by have:=congrArg qb3 v;simpa using this
   have hx:x=c[i]:=by have:=congrArg qfM v;simpa using this
   subst z hx;obtain⟨k,O⟩:∃ k,min a.size c.size - i=k+1:=⟨min a.size c.size - i - 1,by lia⟩;rw[O]at t;have f:R (.ok (.ret (.bool (if e i=true then oH e l (decide (a.size<c.size)) k (i+1) else l i)))) ⟨F,g,d,C,os⟩:=t;refine qac ((G i I H).1 prog w _ _ ?_);cases z:e i with
   |true=>
    rw[z,iFP U]at f
    wp_walk
    exact⟨U,U,i+1,by lia,o,by rw[show min a.size c.size - (i+1)=k by lia];exact f⟩
   |false=>
    rw[z,iFN (by simp)]at f;simp only[Bool.not_false,if_true];refine qac (qd1 ?_);refine qac ((G i I H).2 z prog w _ _ ?_)
    wp_walk
    exact⟨_,U,f⟩
  case fin=>
   rintro⟨Q,S⟩ s' ⟨r,rfl,i,hi,hz,t⟩
   simp only at r
   subst r;have P:min a.size c.size<=i:=by
    rcases qeK i (a.toList.zip c.toList).length with h'|h'
    ·rw[qb4 h']at hz;cases hz
    ·rw[E]at h';exact h'
   rw[show min a.size c.size - i=0 by lia]at t
   wp_walk
   exact⟨_,U,by simpa [qey,oH] using t⟩
  case h=>exact⟨U,U,0,qbr _,U,h⟩
section
variable {A:qa2}{s:qak}{p q:Addr}{a b:Array Value}{e l:Nat->Bool}
theorem pY.tuples (v:s.heap.IsTuple p a) (hb:s.heap.IsTuple q b) (u:A.units<cLine) (z:∀ j (B) (C:j<b.size),EqAt A.in1 s a[j] b[j] (e j)/\(e j=false->pY A.in1 s a[j] b[j] (l j))) :
  pY A s (.ref p) (.ref q) (oH e l (decide (a.size<b.size)) (min a.size b.size) 0) :=λprog w E Q h=>by
 obtain⟨⟨cls,y,data,o⟩,m,t,n,hd⟩:=id v;obtain⟨⟨k,d,data2,i⟩,c,g,r,f⟩:=id hb;subst t hd g f;exact qhv ⟨_,m,U⟩ ⟨_,c,U⟩ qeo qgd (qf3 _ _) (pT p q a b n r y d o i e l)
  ⟨⟨m,c⟩,z,(λx=>nomatch x),h⟩ u
end
end L2
namespace L2
open PySem PySem.Spec PyProof.Rows PySem.SeqAt PySem.W
noncomputable def bn:List Int->List Int->Bool
 |[],[]=>false
 |[],_::_=>true
 |_::_,[]=>false
 |a::as,b::bs=>if a=b then bn as bs else decide (a<b)
theorem oE:∀ a,bn a a=false
 |[]=>rfl
 |a::as=>by unfold bn;rw[iFP U];exact oE as
theorem iy:∀ a b,bn a b=false->bn b a=false->a=b
 |[],[],_,_=>rfl
 |[],_::_,h,_=>by cases h
 |_::_,[],_,h=>by cases h
 |a::as,b::bs,h,h'=>by
  unfold bn at h h';by_cases e:a=b
  ·subst e
   rw[iFP U]at h h';rw[iy as bs h h']
  ·lia
theorem mQ:∀ a b c,bn a b=true->bn b c=true->bn a c=true
 |[],[],_,h,_=>by cases h
 |[],_::_,[],_,h=>by cases h
 |[],_::_,_::_,_,_=>rfl
 |_::_,[],_,h,_=>by cases h
 |_::_,_::_,[],_,h=>by cases h
 |a::as,b::bs,c::f,h,h'=>by
  unfold bn at h h' ⊢;by_cases e:a=b
  ·subst e
   rw[iFP U]at h;by_cases d:a=c
   ·subst d;rw[iFP U]at h' ⊢;exact mQ as bs f h h'
   ·rw[iFN d]at h' ⊢;exact h'
  ·rw[iFN e,decide_eq_true_iff]at h
   by_cases d:b=c
   ·subst d;rw[iFN e,decide_eq_true_iff];exact h
   ·lia
theorem z7:∀ a b c,bn a c=true->bn a b=true\/bn b c=true
 |a,b,c,h=>by
  by_cases e:bn a b=true
  ·exact .inl e
  ·rw[qer]at e
   by_cases d:bn b a=true
   ·exact .inr (mQ b a c d h)
   ·rw[qer]at d
    rw[iy a b e d]at h;exact .inr h
def OI:qfn:=⟨List Int,bn,oE,mQ,z7,iy⟩
def TuI (h:Heap) (v:Value) (l:List Int):Prop:=∃ a b,v=.ref a/\h.IsTuple a b/\qcn b.toList l
noncomputable def b9:Value->Int
 |.int n _=>n
 |_=>0
def tuI (h:Heap):Value->List Int
 |.ref a=>match h.get? a with
  |some o=>match o.data with
   |.seq b _=>b.toList.map b9
   |_=>[]
  |none=>[]
 |_=>[]
theorem oa:∀ {a:List Value}{l:List Int},qcn a l->a.map b9=l
 |_,_,.nil=>rfl
 |_,_,.cons n t h=>by rw[qat,oa h];rfl
theorem dN:∀ {a:List Value}{l:List Int},qcn a l->a.length=l.length
 |_,_,.nil=>rfl
 |_,_,.cons n t h=>by rw[qam,qam,dN h]
theorem iX:∀ {a:List Value}{l:List Int},qcn a l->∀ (j:Nat) (h:j<a.length),∃ t,a[j]=.int (l.getD j 0) t
 |_,_,.nil,j,h=>absurd h (qca j)
 |_,_,.cons n t b,0,h=>⟨t,U⟩
 |_,_,.cons n t b,j+1,h=>by
  obtain⟨t',e⟩:=iX b j _;exact⟨t',by simpa using e⟩
theorem TuI.is (t:TuI h v l):tuI h v=l :=by
 obtain⟨a,c,rfl,⟨o,b,d,n,hd⟩,hi⟩:=t;simp only[tuI,b,hd];exact oa hi
theorem TuI.fit (t:TuI h v l) (e:∀ b o,h.get? b=some o->h'.get? b=some o):TuI h' v l :=by
 obtain⟨a,c,rfl,⟨o,d,r⟩,hi⟩:=t;exact⟨a,c,U,⟨o,e _ _ d,r⟩,hi⟩
theorem oI:∀ (l m) (i) (e f),(∀ j,j<l.length->j<m.length->e (i+j)=decide (l.getD j 0=m.getD j 0)/\f (i+j)=decide (l.getD j 0<m.getD j 0))->
  oH e f (decide (l.length<m.length)) (min l.length m.length) i=bn l m
 |[],[],i,e,f,_=>by simp[oH,bn]
 |[],b::m,i,e,f,_=>by simp[oH,bn]
 |a::l,[],i,e,f,_=>by simp[oH,bn]
 |a::l,b::m,i,e,f,h=>by
  have c:=h 0 (by simp) (by simp);rw[qam,qam,show min _ _=min l.length m.length+1 by lia];have d:decide (l.length+1<m.length+1)=decide (l.length<m.length):=by simp
  rw[d];show (if e i=true then oH e f _ _ _ else f i)=if a=b then bn l m else decide _;rw[qjA]at c;rw[c.1,c.2];by_cases q:a=b
  ·subst q
   simp only[qbv,decide_true,if_true];exact oI l m _ e f λj k g=>by
    have:=h (j+1) (by simpa using k) (by simpa using g)
    rw[show i+1+j=i+(j+1) by lia];simpa using this
  ·simp[q]
section
variable {prog:qaR}{w:World}{A:qa2}{E:Value->qak->Prop}{s:qak}{x y:Value}{l m:List Int}
theorem pY.ints :pY A s (.int a t) (.int b u) (decide (a<b)) :=λprog w E Q h=>qfR h
theorem EqAt.ints :EqAt A s (.int a t) (.int b u) (decide (a=b)) :=by
 exact (vP (A:=A) (s:=s) (y:=.int a) (x:=.int b) ⟨t,U⟩ ⟨u,U⟩ U U)
theorem TuI.lt (B:TuI s.heap x l) (ty:TuI s.heap y m) (L:A.units<cLine):pY A s x y (bn l m):=by
 obtain⟨a,d,rfl,I,g⟩:=B;obtain⟨b,f,rfl,J,k⟩:=ty;have C:d.size=l.length:=by exact dN g
 have F:f.size=m.length:=by exact dN k
 have z:=pY.tuples I J L λj V T=>by
  obtain⟨t,K⟩:=iX g j _;obtain⟨t',D⟩:=iX k j _;rw[qeO]at K D;rw[K,D];exact⟨EqAt.ints,λ_=>pY.ints⟩
 rw[C,F,oI l m 0 _ _ λj I J=>by rw[qbg];exact⟨U,U⟩]at z;exact z
theorem TuI.one (B:TuI s.heap x l) (ty:TuI s.heap y m) (L:A.units<cLine) (h:Q (bn l m) s) (b):wpAny (model prog w) A (oneLt' b x y) Q E s :=by
 cases b with
 |false=>exact kat_one _ _ (B.lt ty L _ _ _ _ h)
 |true=>
  refine qac (wpAny_cRoomFor L ?_);obtain⟨a,d,rfl,I,g⟩:=id B;obtain⟨c,f,rfl,J,k⟩:=id ty;obtain⟨⟨cls,W,data,S⟩,H,P,n,hd⟩:=id I;obtain⟨⟨R,M,data2,N⟩,q,G,O,v⟩:=id J;subst P hd G v;have C:d.size=l.length:=by exact dN g
  have F:f.size=m.length:=by exact dN k
  refine qac (wpAny_callSpecialIfBound?_slot ⟨_,H,U⟩ qeo (qcr qeo ⟨_,H,U⟩ qgd (qf3 _ _)
   (pT a c d f n O W M S N (λj=>decide (l.getD j 0=m.getD j 0)) λj=>decide (l.getD j 0<m.getD j 0)) ⟨⟨H,q⟩,λj V T=>?_,?_⟩))
  ·obtain⟨t,K⟩:=iX g j _
   obtain⟨t',D⟩:=iX k j _;rw[qeO]at K D;rw[K,D];exact⟨EqAt.ints,λ_=>pY.ints⟩
  ·rw[C,F,oI l m 0 _ _ λj I J=>by rw[qbg];exact⟨U,U⟩]
   exact qev h
theorem z8 {fin}:∀ {d f}{l m} (i),qcn d l->qcn f m->(fin=decide (l.length<m.length))->Q (bn l m) s->KatLex prog w A true fin Q (d.zip f) i s
 |_,_,_,_,i,.nil,.nil,p,h=>kat_nil (by rw[p];exact h)
 |_,_,_,_,i,.nil,.cons n t r,p,h=>kat_nil (by rw[p];simpa [bn] using h)
 |_,_,_,_,i,.cons n t r,.nil,p,h=>kat_nil (by rw[p];simpa [bn] using h)
 |_,_,_,_,i,.cons a t r,.cons b u X,p,h=>by
  refine kat_cons (EqAt.ints prog w _ _ ?_);unfold bn at h;by_cases e:a=b
  ·subst e
   rw[iFP U]at h;rw[decide_eq_true U];exact kat_yes (z8 _ r X (by rw[p];simp) h)
  ·rw[iFN e]at h
   rw[decide_eq_false e];refine kat_no ?_;cases (true&&i==0) with
   |true=>exact oneLt_int h
   |false=>exact kat_one _ _ (qfR h)
theorem TuI.tups (B:TuI s.heap x l) (ty:TuI s.heap y m) (h:Q (bn l m) s):wpAny (model prog w) A (keyLt' (tuples' true) x y) Q E s :=by
 obtain⟨a,d,rfl,⟨o,H,P,n,hd⟩,g⟩:=B;obtain⟨c,f,rfl,⟨Y,q,G,O,v⟩,k⟩:=ty;have C:d.size=l.length:=by exact dN g
 have F:f.size=m.length:=by exact dN k
 exact kat_lt H hd q v (z8 0 g k (by rw[C,F]) h)
end
section
variable {prog:qaR}{w:World}{A:qa2}{E:Value->qak->Prop}{s:qak}{O:qfn}{rk:Keyed->O.α}{S:Keyed->Prop}{c:List Value}
theorem vA:∀ (c:List Value),c.zip c=c.map λv=>(v,v)
 |[]=>rfl
 |v::c=>by rw[qde,vA c];rfl
theorem Fo {α J:Type}{f:α->J}{R}:∀ {c:List α},c.toArray.size<2->(c.map f).Pairwise R
 |[],_=>List.Pairwise.nil
 |[v],_=>qgr _ _
 |_::_::_,h=>absurd h (by simp)
set_option maxHeartbeats 1000000 in
theorem qM (C:s.heap.get? a=some (qfG "list" c.toArray n)) (z:c.length<64)
  (p:∀ h',(∀ b o,b≠a->s.heap.get? b=some o->h'.get? b=some o)->∃ r,(2<=c.length->∀ (Q') E',Q' r { s with heap:=h' }->wpAny (model prog w) A (qid c.toArray) Q' E' { s with heap:=h' })/\Cm prog w A { s with heap:=h' } r O rk S)
  (H:∀ v∈c,S (v,v))
  (h:∀ d:List Value,d.Perm c->d.Pairwise (λx y=>O.kle (rk (x,x)) (rk (y,y)))->P (.done (.ret .none)) { s with heap:=sortedHeap s.heap a c d.toArray }) :
  wpAny (model prog w) A (qe7.«list.sort» ⟨[.ref a],[]⟩) P E s :=by
 rw[list_sort_plain];have I:c.toArray.size=c.length:=by simp
 refine qac (listItems_at C U ?_);refine qac (qhj C U ?_ (by rw[I,qcz];lia));obtain⟨M,u⟩:∃ M,(s.heap.update a (qcA λ_=>#[])).get? a=some (qfG "list" #[] M):=⟨_,get?_update_seq C (λ_=>#[])⟩
 refine qac (qhZ u U ?_);refine qac (qjW ?_ (by rw[qcz];show c.toArray.toList.length<=_;simp;lia));refine qac (qfF ?_);refine qct ?_;have T:(s.heap.update a (qcA λ_=>(#[]:Array Value))).objs.size=s.heap.objs.size:=qhQ ..;have i:∀ b o,b<s.heap.objs.size->(s.heap.update a (qcA λ_=>(#[]:Array Value))).get? b=some o->
   (((s.heap.update a (qcA λ_=>#[])).push (qfG "tuple" c.toArray 0)).push (qfG "list" #[] 0)).get? b=some o:=λb o hb q=>by
  rw[qdr _ _ _ (qaH (by rw[qix,T];exact qbi hb)),qdr _ _ _ (qaH (by rw[T];exact hb))];exact q
 have k:=i a _ (qax C) u;obtain⟨r,L,hC⟩:=p _ λb o hb q=>
  i b o (qax q) (by rw[qhc _ _ _ _ hb];exact q)
 have pt:(c.toArray.zip c.toArray).toList=c.map λv=>(v,v):=by rw[<-vA];simp
 have fin:∀ g:qbY,(arrOf g).toList.Perm (c.map λv=>(v,v))->(arrOf g).toList.Pairwise (λx y=>O.kle (rk x) (rk y))->∃ d:List Value,d.length=c.length/\(arrOf g).map (·.2)=d.toArray/\P (.done (.ret .none)) { s with heap:=sortedHeap s.heap a c d.toArray }:=λg D m=>by
  refine⟨(arrOf g).toList.map (·.2),by rw[qaf,D.length_eq,qaf],by apply Array.toList_inj.mp;simp,h _ ?_ ?_⟩
  ·have:=D.map (·.2)
   rw[qaQ]at this;have e:(c.map ((λx=>x.2) ∘ λv=>((v,v):Keyed)))=c:=by rw[show ((λx:Keyed=>x.2) ∘ λv=>((v,v):Keyed))=id from U,qg7]
   rw[e]at this;exact this
  ·rw[qee]
   refine m.imp_of_mem λ{x y} hx hy q=>?_;have dx:x=(x.2,x.2):=by obtain⟨v,_,rfl⟩:=qaI.mp (D.mem_iff.mp hx);rfl
   have Y:y=(y.2,y.2):=by obtain⟨v,_,rfl⟩:=qaI.mp (D.mem_iff.mp hy);rfl
   rw[<-dx,<-Y];exact q
 dsimp only;by_cases m:c.toArray.size<2
 ·rw[iFP m,iFP m]
  refine qac (qaq ?_);rw[StateT.run_pure];refine qac (qaq ?_);dsimp only;obtain⟨d,W,K,F⟩:=fin (qiD general' (c.toArray.zip c.toArray) #[] 7 none) (by rw[pt]) (by rw[pt];exact Fo m);refine qac (qhZ k U ?_);rw[K];refine qac (qhj k U ?_);simp only[bne_self_eq_false,qbC,if_false];exact qaq F
 ·rw[iFN m,iFN m]
  refine qac (L (by lia) _ _ ?_)
  refine qac (qcp (Dt hC (a0:=c.toArray.zip c.toArray) (Q:=λ_ g=>(arrOf g).toList.Perm (c.map λv=>(v,v))/\(arrOf g).toList.Pairwise (λx y=>O.kle (rk x) (rk y))/\qhk g=none)
   rfl U U U (λx hx=>?_) (by simp;lia) (by simp;lia) λg B a2 G=>⟨by rw[<-pt];exact B,a2,G⟩) ?_ λ_ _ e=>e)
  ·rw[pt]at hx
   obtain⟨v,X,rfl⟩:=qaI.mp hx;exact H v X
  rintro⟨⟨⟩,g⟩ s' ⟨rfl,B,a2,G⟩
  dsimp only;obtain⟨d,W,K,F⟩:=fin g B a2;refine qac (qhZ k U ?_);rw[K];refine qac (qhj k U ?_);rw[G];simp only[bne_self_eq_false,qbC,if_false];exact qaq F
theorem pK (hl:s.heap.IsList l c.toArray) (z:c.length<64)
  (p:∀ h',(∀ b o,s.heap.get? b=some o->h'.get? b=some o)->∃ r,(2<=c.length->∀ (Q') E',Q' r { s with heap:=h' }->wpAny (model prog w) A.in1.in1 (qid c.toArray) Q' E' { s with heap:=h' })/\Cm prog w A.in1.in1 { s with heap:=h' } r O rk S)
  (H:∀ v∈c,S (v,v))
  (h:∀ d:List Value,d.Perm c->d.Pairwise (λx y=>O.kle (rk (x,x)) (rk (y,y)))->Q (.ref (s.heap.objs.size+1)) { s with heap:=qjE s.heap c d.toArray }) :
  wpAny (model prog w) A (call (.builtin "sorted") [.ref l]) Q E s :=by
 refine qf9 kind_sorted plain_sorted entry_sorted (args_sorted1 _) ?_;refine qac (qaq ?_);refine qac (collect_list hl ?_ (by rw[qcz];lia));refine qac (qfF ?_ (by rw[qcz];lia));have hz:((s.heap.push (qfG "list" #[] 0)).update s.heap.objs.size (qcA (·++c.toArray))).objs.size=s.heap.objs.size+1:=by rw[qhQ,qix]
 generalize N:((s.heap.push _).update s.heap.objs.size _)=V at hz ⊢;have t:(V.push (qfG "list" c.toArray 0)).get? (s.heap.objs.size+1)=some (qfG "list" c.toArray 0):=by
  rw[<-hz];exact qaw _ U
 have keep:∀ b o,s.heap.get? b=some o->b≠s.heap.objs.size+1/\(V.push (qfG "list" c.toArray 0)).get? b=some o:=λb o q=>by
  have j:=qax q;refine⟨qaH (qbi j),?_⟩;rw[qdr _ _ _ (qaH (by rw[hz];exact qbi j)),<-N,qhc _ _ _ _ (qaH j),qdr _ _ _ (qaH j)];exact q
 rw[hz];refine qac (qct (qbW qjZ ⟨_,t,U⟩ qjN (qM t z (λh' hk=>p h' λb o q=>hk b o (keep b o q).1 (keep b o q).2) H λd B a2=>⟨_,U,?_⟩) (qj7 _)));refine qaq ⟨_,U,?_⟩
 have:=h d B a2
 unfold qjE at this;rw[N]at this;exact this
end
noncomputable def nL (h:Heap):Value->Option Value
 |.ref a=>match h.get? a with
  |some o=>match o.data with
   |.seq b _=>b[0]?
   |_=>none
  |none=>none
 |_=>none
theorem TuI.fst (t:TuI h v l):nL h v=none\/∃ n t,nL h v=some (.int n t) :=by
 obtain⟨a,b,rfl,⟨o,c,d,n,hd⟩,hi⟩:=t;simp only[nL,c,hd];by_cases hz:0<b.size
 ·obtain⟨t,e⟩:=iX hi 0 _
  exact .inr ⟨_,t,by rw[qbQ hz];rw[qeO]at e;rw[e]⟩
 ·exact .inl (qdm (by lia))
section
variable {prog:qaR}{w:World}{A:qa2}{E:Value->qak->Prop}{s:qak}
theorem xX (t:TuI s.heap v l) (h:Q (.type "tuple") s):wpAny (model prog w) A (typeOf v) Q E s :=by
 obtain⟨a,C,rfl,⟨o,z,H,n,hd⟩,hi⟩:=t;refine Looks.here ((Looks.ld z).andThen .now) ?_;rw[H];exact h
theorem yu (t:TuI s.heap v l) (h:Q (nL s.heap v) s):wpAny (model prog w) A (firstOfTuple' v) Q E s :=by
 refine qac (xX t ?_);obtain⟨a,C,rfl,⟨o,z,H,n,hd⟩,hi⟩:=t;simp only[nL,z,hd]at h;exact qac (listItems_at z hd (qaq h))
theorem ge:∀ {b:List Value}{Q:List (Option Value)->qak->Prop},(∀ v∈b,∃ l,TuI s.heap v l)->Q (b.map (nL s.heap)) s->wpAny (model prog w) A (b.mapM firstOfTuple') Q E s
 |[],_,_,h=>by exact qaq h
 |v::b,Q,t,h=>by
  rw[List.mapM_cons];obtain⟨l,D⟩:=t v qag;refine qac (yu D (qac (ge (λu g=>t u (qah _ g)) (qaq h))))
theorem vJ (hx:TuI s.heap x l) (c:TuI s.heap y m) {Q:Bool->qak->Prop} (h:Q (OI.blt (tuI s.heap x) (tuI s.heap y)) s):Q (bn l m) s :=by
 have h':=h;rw[hx.is,c.is]at h';exact h'
theorem uC {b:List Value} (t:∀ v∈b,∃ l,TuI s.heap v l) (g:A.units<cLine):∃ G,(2<=b.length->∀ (Q') E',Q' G s->wpAny (model prog w) A (qid b.toArray) Q' E' s)/\
  Cm prog w A s G OI (λp=>tuI s.heap p.1) (λp=>∃ l,TuI s.heap p.1 l) :=by
 by_cases c1:(b.map (nL s.heap)).toArray.all (·.isSome)=true
 ·refine⟨_,λB Q' E' j=>?_,λx y ⟨l,hx⟩ ⟨m,c⟩ Q E h=>hx.tups c (vJ hx c h)⟩
  rw[qh0,qdq];refine qac (qac (ge t (qaq ?_)));rw[iFP c1];refine qac (qd1 ?_);have I:∀ v∈(b.map (nL s.heap)).filterMap id,∃ n t,v=.int n t:=λv k=>by
   obtain⟨o,z,e⟩:=qfb.mp k;obtain⟨u,g,rfl⟩:=qaI.mp z;obtain⟨l,K⟩:=t u g;rcases K.fst with q|⟨n,t',q⟩
   ·rw[q]at e;cases e
   ·rw[q]at e;exact⟨n,t',(qaP e).symm⟩
  have L:∃ f fr,(b.map (nL s.heap)).filterMap id=f::fr:=by
   match b,B,c1 with
   |v::b,_,c1=>
    simp only[qat,qfz,qbw,qa0]at c1;obtain⟨u,g⟩:=qcs.mp c1.1;exact⟨u,_,by rw[qat,g];rfl⟩
  obtain⟨f,fr,e⟩:=L;have J:(b.map (nL s.heap)).toArray.filterMap id=(f::fr).toArray:=by rw[<-e];simp
  rw[J,qjI,qdq];refine qac (qac (qac (kas_mapM (r:=.type "int") _ (λv k Q'' i=>?_) (qaq ?_))))
  ·rw[<-e]at k
   obtain⟨n,t',rfl⟩:=I v k;exact qaq i
  ·have F:(qgs (λ_=>Value.type "int") (f::fr)).toArray[0]?=some (.type "int"):=by simp
   rw[F];have d:((qgs (λ_=>Value.type "int") (f::fr)).toArray.all λx=>x==.type "int")=true:=by
    simp only[qfz,qeC,qaU];intro _ _;rfl
   simp only[d,if_true];exact qaq (qaq j)
 ·by_cases c2:((b.map (nL s.heap)).toArray[0]?.bind id).isSome=true
  ·refine⟨general',λB Q' E' j=>?_,λx y ⟨l,hx⟩ ⟨m,c⟩ Q E h=>hx.one c g (vJ hx c h) false⟩
   rw[qh0,qdq];refine qac (qac (ge t (qaq ?_)));rw[iFN c1,iFP c2];exact qaq j
  ·refine⟨qic,λB Q' E' j=>?_,λx y ⟨l,hx⟩ ⟨m,c⟩ Q E h=>hx.one c g (vJ hx c h) true⟩
   rw[qh0,qdq];refine qac (qac (ge t (qaq ?_)));rw[iFN c1,iFN c2,qjI,qdq];refine qac (qac (qac (kas_mapM (r:=.type "tuple") _ (λv k Q'' i=>?_) (qaq ?_))))
   ·obtain⟨l,D⟩:=t v k
    exact xX D i
   ·obtain⟨v,b,rfl⟩:∃ v r,b=v::r:=by
     match b,B with
     |v::r,_=>exact⟨v,r,U⟩
    have F:(qgs (λ_=>Value.type "tuple") (v::b)).toArray[0]?=some (.type "tuple"):=by simp
    rw[F];have d:((qgs (λ_=>Value.type "tuple") (v::b)).toArray.all λx=>x==.type "tuple")=true:=by
     simp only[qfz,qeC,qaU];intro _ _;rfl
    simp only[d,if_true];exact qaq (qaq j)
theorem zX (t:qcn b ns):(2<=b.length->∀ (Q') E',Q' qic s->wpAny (model prog w) A (qid b.toArray) Q' E' s)/\
  Cm prog w A s qic OI (λp=>[b9 p.1]) (λp=>∃ n t,p.1=.int n t) :=by
 refine⟨λB Q' E' j=>?_,λx y ⟨n,t,hx⟩ ⟨m,u,c⟩ Q E h=>?_⟩
 ·match b,B,t with
  |v1::M::r,_,t=>rw[keyKind_ints t];exact qaq j
 ·rw[hx,c]
  refine oneLt_int ?_;have e:OI.blt [b9 x.1] [b9 y.1]=decide (n<m):=by
   rw[hx,c];show (if n=m then bn [] [] else decide (n<m))=_;by_cases q:n=m
   ·subst q;simp[bn]
   ·rw[iFN q]
  rw[e]at h;exact h
end
noncomputable def vU (x:List Int):List (List Int)->List (List Int)
 |[]=>[x]
 |y::a=>if bn y x=true then y::vU x a else x::y::a
noncomputable def aB:List (List Int)->List (List Int)
 |[]=>[]
 |x::xs=>vU x (aB xs)
theorem lG (x):∀ a,(vU x a).Perm (x::a)
 |[]=>qdi _
 |y::a=>by
  unfold vU;split
  ·exact (List.Perm.cons y (lG x a)).trans (List.Perm.swap x y a)
  ·exact qdi _
theorem aG:∀ xs,(aB xs).Perm xs
 |[]=>qdi _
 |x::xs=>(lG x _).trans (List.Perm.cons x (aG xs))
def leL (a b:List Int):Prop:=bn b a=false
theorem yI (h:leL a b) (h':leL b c):leL a c :=qdx (O:=OI) h h'
theorem z6 (h:leL a b) (h':leL b a):a=b :=iy a b h' h
theorem l8 (x):∀ {b},b.Pairwise leL->(vU x b).Pairwise leL
 |[],_=>by simp[vU]
 |y::b,h=>by
  unfold vU;split
  ·rename_i a
   refine qbc.mpr ⟨λz hz=>?_,l8 x (qbc.mp h).2⟩;rcases qav.mp ((lG x b).mem_iff.mp hz) with rfl|hz
   ·exact KeyOrd.klt_asymm (O:=OI) a
   ·exact (qbc.mp h).1 z hz
  ·rename_i a
   rw[qer]at a;refine qbc.mpr ⟨λz hz=>?_,h⟩;rcases qav.mp hz with rfl|hz
   ·exact a
   ·exact yI a ((qbc.mp h).1 z hz)
theorem cW:∀ xs,(aB xs).Pairwise leL
 |[]=>List.Pairwise.nil
 |x::xs=>l8 x (cW xs)
theorem k7 { c:List _} (p:xs.Perm c) (e:xs.Pairwise leL) (d:c.Pairwise leL):xs=c :=
 qfA (λa b _ _ e d=>z6 e d) e d p
noncomputable def sS:List D->Option (List (List Int))
 |[]=>some []
 |.tup l::ds=>(a7 l).bind λns=>(sS ds).map λr=>ns::r
 |_=>none
noncomputable def au (l:List Int):D:=.tup (l.map D.int)
theorem mm:∀ {ds:List D}{ls:List (List Int)},sS ds=some ls->ds=ls.map au
 |[],_,h=>by cases h;rfl
 |.tup l::ds,_,h=>by
  simp only[sS,qaa,qad]at h;obtain⟨ns,a,r,b,rfl⟩:=h;rw[mm b,bC a];rfl
 |.non::_,_,h=>by cases h
 |.bl _::_,_,h=>by cases h
 |.int _::_,_,h=>by cases h
 |.str _::_,_,h=>by cases h
 |.ty _::_,_,h=>by cases h
 |.dct::_,_,h=>by cases h
 |.scr _::_,_,h=>by cases h
 |.lst _::_,_,h=>by cases h
def DT (ds:List D):Option (List D):=match a7 ds with
 |some ns=>some ((rX ns).map D.int)
 |none=>(sS ds).map λls=>(aB ls).map au
def rZ (st:Sto):List W->Option (List D)
 |[w]=>(lsD st w).bind λds=>if ds.length<64 then DT ds else none
 |_=>none
section
variable {K:qae}{X:Cx}{i:List (Addr×Obj)}{R:St}{H:Hp}{s:qak}{φ:List Addr}
noncomputable def toV:Value->V
 |.ref a=>.ref a
 |_=>.non
theorem C7 (I:Inv X i R H s) (r:Rl X.K H φ (au l) v) (q:aN v u):TuI s.heap u l/\v=toV u/\aN (toV u) u :=by
 obtain⟨a,P,rfl,C,B⟩:=r;obtain⟨z,T,p,_⟩:=I.tuple (SqT.of C);have e:=B.ints;subst e;subst q;exact⟨⟨a,z.toArray,U,p,by simpa using dM T⟩,U,U⟩
theorem pG (I:Inv X i R H s):∀ {ls}{P}{f},Rls X.K H φ (ls.map au) P->aI P f->
  f.map (tuI s.heap)=ls/\∀ u∈f,TuI s.heap u (tuI s.heap u)/\Rl X.K H φ (au (tuI s.heap u)) (toV u)/\aN (toV u) u
 |[],_,f,h,q=>by cases h;cases q;exact⟨U,λu A=>by cases A⟩
 |l::ls,_,f,h,q=>by
  obtain⟨v,r,rfl,C,B⟩:=h;cases q with
  |cons q1 q2=>
   obtain⟨t,e,e'⟩:=C7 I C q1;obtain⟨i1,i2⟩:=pG I B q2;refine⟨by rw[qat,i1,t.is],λx hx=>?_⟩;rcases qav.mp hx with rfl|hx
   ·rw[t.is,<-e];exact⟨t,C,q1⟩
   ·exact i2 x hx
theorem pE:∀ {f},(∀ u∈f,TuI s.heap u (tuI s.heap u)/\Rl K H φ (au (tuI s.heap u)) (toV u)/\aN (toV u) u)->Rls K H φ (f.map λu=>au (tuI s.heap u)) (f.map toV)/\aI (f.map toV) f
 |[],_=>⟨U,.nil⟩
 |u::f,h=>by
  have C:=h u qag;have B:=pE λx hx=>h x (qah _ hx);exact⟨⟨_,_,U,C.2.1,B.1⟩,.cons C.2.2 B.2⟩
theorem n8:∀ {f:List Value}{l:List Int},qcn f l->∀ u∈f,∃ n t,u=.int n t
 |_,_,.nil,u,A=>by cases A
 |_,_,.cons n t h,u,A=>by
  rcases qav.mp A with rfl|A
  ·exact⟨n,t,U⟩
  ·exact n8 h u A
theorem qF:∀ {f},(∀ u∈f,∃ n t,u=.int n t)->qcn f (f.map b9)
 |[],_=>.nil
 |u::f,h=>by
  obtain⟨n,t,rfl⟩:=h u qag;exact .cons n t (qF λx hx=>h x (qah _ hx))
theorem gQ (hr:bj k X.A) (hK:X.K=K:=by rfl):sZ K X (.builtin "sorted") rZ :=by
 subst hK;refine⟨λst ws d h=>?_⟩
 match ws,h with
 |[w],h=>
  simp only[rZ,qaa]at h;obtain⟨ds,e1,h⟩:=h;split at h
  ·intro i s R H xs f Q I T q
   obtain⟨φ,S,⟨v,r,rfl,r1,rfl⟩,q⟩:=q;obtain⟨a,P,rfl,C,B⟩:=oK S r1 e1;obtain⟨u,rfl,ru⟩:=iR T;cases ru;obtain⟨z,F,pl,hz⟩:=I.list (.inl C);have g:z.length<64:=by
    have:=F.length
    have:=B.length
    lia
   have hun:X.A.in1.in1.units<cLine:=by
    have:=hr.un
    lia
   have hn:=I.hok.fresh (qcF _);have J:∀ (c:List Value) (D:List V),aI D c->c.length<64->Inv X i R _ { s with heap:=qjE s.heap z c.toArray }:=λc D j ho=>by
    obtain⟨ep,he⟩:=sortedAll_at s.heap z c.toArray;refine I.laid (o:=.lst D) (λb o q=>sortedAll_old q) (qcF _) ⟨?_,c,ep,j,by simpa  using he⟩;rw[j.length];exact jc (by lia)
   unfold DT at h;cases hi:a7 ds with
   |some ns=>
    rw[hi]at h;cases h;cases bC hi;cases B.ints;have N:=dM F;refine pK pl.isList g (λh' _=>⟨qic,zX N⟩) (λv j=>n8 N v j) λc G a2=>?_;have hp:=by
     have:=G.map b9
     rw[oa N]at this;exact this
    have W:(c.map b9).Pairwise (·<=·):=by
     rw[qee];refine a2.imp λ{x y} q=>?_;have q':bn [b9 y] [b9 x]=false:=q;by_cases e:b9 y=b9 x
     ·lia
     ·have:bn [b9 y] [b9 x]=decide (b9 y<b9 x):=by show (if _ then _ else _)=_;rw[iFN e]
      lia
    have j:=lb (qF (λu A=>n8 N u (G.mem_iff.mp A)));rw[(vd (hp.trans (l9 ns).symm) W (jp ns))]at j;exact⟨.ref _,_,J c _ j (by rw[G.length_eq];exact g),U,q _ _ H (aQ.refl H) hn (Rls.of_ints _)⟩
   |none=>
    rw[hi]at h;obtain⟨ls,Y,rfl⟩:=qad.mp h;cases mm Y;obtain⟨m1,m2⟩:=pG I B F;refine pK (O:=OI) (rk:=λp=>tuI s.heap p.1) (S:=λp=>∃ l,TuI s.heap p.1 l) pl.isList g (λh' L=>?_) (λv j=>⟨_,(m2 v j).1⟩) λc G a2=>?_
    ·obtain⟨κ,k1,k2⟩:=uC (s:={ s with heap:=h' }) (λv j=>⟨_,(m2 v j).1.fit L⟩) hun
     refine⟨κ,k1,λx y ⟨l,hx⟩ ⟨m,hy⟩ Q E hq=>k2 x y ⟨l,hx.fit L⟩ ⟨m,hy.fit L⟩ Q E ?_⟩;have M:Q (bn (tuI s.heap x.1) (tuI s.heap y.1)) { s with heap:=h' }:=hq;show Q (bn (tuI h' x.1) (tuI h' y.1)) { s with heap:=h' };rw[(hx.fit L).is,(hy.fit L).is];rw[hx.is,hy.is]at M;exact M
    ·obtain⟨b1,b2⟩:=pE (λu A=>m2 u (G.mem_iff.mp A))
     have hp:=by
      have:=G.map (tuI s.heap)
      rw[m1]at this;exact this
     have W:(c.map (tuI s.heap)).Pairwise leL:=by
      rw[qee];exact a2.imp λ{x y} q=>q
     have e2:(c.map λu=>au (tuI s.heap u))=(aB ls).map au:=by rw[<-(k7 (hp.trans (aG ls).symm) W (cW ls)),qaQ];rfl
     rw[e2]at b1;exact⟨.ref _,_,J c _ b2 (by rw[G.length_eq];exact g),U,q _ _ H (aQ.refl H) hn b1⟩
  ·cases h
end
end L2
namespace L2
open PySem PySem.Spec PyProof.Rows
section
variable {K:qae}{X:Cx}
end
end L2
namespace L2
open PySem PySem.Spec PyProof.Rows
open PySem.AutoSeq1 (wpAny_loadPart')
def SIt (k:Bool) (h:Heap) (a l:Addr) (i:Nat):Prop:=match k with
 |true=>h.IsTupleIter a l i
 |false=>h.IsListIter a l i
def SIs (k:Bool) (h:Heap) (l:Addr) (xs:Array Value):Prop:=match k with
 |true=>h.IsTuple l xs
 |false=>h.IsList l xs
theorem SIt.to (a:SIt k h b l i) (f:∀ o,h.get? b=some o->h'.get? b=some o):SIt k h' b l i :=by
 cases k with
 |true=>exact Heap.IsTupleIter.at a f
 |false=>exact Heap.IsListIter.at a f
theorem SIs.to (a:SIs k h l xs) (f:∀ o,h.get? l=some o->h'.get? l=some o):SIs k h' l xs :=by
 cases k with
 |true=>obtain⟨o,e,r⟩:=a;exact⟨o,f o e,r⟩
 |false=>exact Heap.IsList.at a f
theorem SIt.live (a:SIt k h b l i):∃ o c,h.get? b=some o/\o.data=.fields c :=by
 cases k with
 |true=>obtain⟨o,e,_,d⟩:=a;exact⟨o,_,e,d⟩
 |false=>obtain⟨o,e,_,d⟩:=a;exact⟨o,_,e,d⟩
section
variable {prog:qaR}{w:World}{A:qa2}{E:Value->qak->Prop}{s:qak}{k k2:Bool}
theorem sv (u:SIt k s.heap H l i) (hl:SIs k s.heap l xs) (hx:xs[i]?=some x)
  (R:∀ h',SIt k h' H l (i+1)->qc9 H s.heap h'->Q x { s with heap:=h' }):wpAny (model prog w) A (qcD (.ref H)) Q E s :=by
 cases k with
 |true=>exact eG u hl hx R
 |false=>exact wpAny_nextOf_list_item u hl hx R
theorem Aj (T:A.handled=none) (u:SIt k s.heap H l i) (hl:SIs k s.heap l xs) (hx:xs[i]?=none)
  (hE:∀ h' e,qhd H s.heap h'->(∃ o,h'.get? e=some o/\o.cls=.type "StopIteration")->E (.ref e) { s with heap:=h' }):wpAny (model prog w) A (qcD (.ref H)) Q E s :=by
 cases k with
 |true=>exact fN T u hl hx hE
 |false=>exact wpAny_nextOf_list_end T u hl hx hE
variable {z TI TO i1 i2 l1 l2:Addr}{n:Nat}{xs X:Array Value}{a b:Value}
structure ZSt (k k2:Bool) (z TI TO i1 i2 l1 l2:Addr) (f0:Value) (n:Nat) (h:Heap):Prop where
 z:IsZip h z TI TO f0
 ti:qhb h TI (.ref i1) (.ref i2)
 to:∃ a b,qhb h TO a b
 t1:SIt k h i1 l1 n
 t2:SIt k2 h i2 l2 n
set_option maxHeartbeats 1000000 in
theorem BC (D:ZipApart z TI TO i1 i2 l1 l2) (hs:ZSt k k2 z TI TO i1 i2 l1 l2 .none n s.heap) (G:SIs k s.heap l1 xs) (L:SIs k2 s.heap l2 X) (hx:xs[n]?=some x) (hy:X[n]?=some y)
  (R:∀ h',ZSt k k2 z TI TO i1 i2 l1 l2 (qgB s.heap.objs.size) (n+1) h'->qhb h' s.heap.objs.size x y->h'.objs.size=s.heap.objs.size+1->
    (∀ c o,c≠z->c≠TO->c≠i1->c≠i2->s.heap.get? c=some o->h'.get? c=some o)->Q (some (.ref s.heap.objs.size)) { s with heap:=h' }) :
  wpAny (model prog w) A (qg2 (.ref z)) Q E s :=by
 obtain⟨hz,C,⟨a,b,O⟩,h1,h2⟩:=hs;have hT:s.TypeIs (.ref z) "zip":=⟨_,hz,U⟩
 unfold qg2;refine qac (qeH (qbL (name:=Str.ofString "__next__") hT qeQ (qbW qeQ hT qip ?_ (qh7 _))))
 show wpAny _ _ (field (.ref z) 2 >>= _) _ _ _;refine qac (qb8 hz U (x:=.bool false) U ?_);show wpAny _ _ (field (.ref z) 3 >>= _) _ _ _;refine qac (qb8 hz U (x:=.ref TI) U (qac (qcO C U ?_)));refine qac ?_;unfold qhD;refine qac (qb8 hz U (x:=.none) U (qaq ?_));simp only[if_true];refine qac (qd1 (qac (qb8 hz U (x:=.ref TO) U ?_)));refine qac (qcS hz (by simp) λg1 r s1=>?_);replace r:IsZip g1 z TI TO .ellipsis:=r;refine qac ?_;simp only[qhO,qhU,qfU,qh4];have f:=s1.extBut;refine qac (qac (qfE ?_));refine qac (sv (h1.to λo q=>f _ o D.i1z q) (G.to λo q=>f _ o D.l1z q) hx λg2 V N=>qaq ?_);have t:=N.extBut;have d:qhb g2 TO a b:=t _ _ D.TOi1 (f _ _ D.TOz O);refine qac (qcO d U (qac (qfd d λg3 m P=>?_)));replace m:qhb g3 TO x b:=m;have B:=P.extBut;refine qac (qhX (qaq ?_));refine qac (qac (qfE ?_));refine qac (sv (h2.to λo q=>B _ o D.TOi2.symm (t _ o D.i12.symm (f _ o D.i2z q))) (L.to λo q=>B _ o D.l2TO (t _ o D.l2i1 (f _ o D.l2z q))) hy λg4 h24 W=>qaq ?_);have e4:=W.extBut;have J:qhb g4 TO x b:=e4 _ _ D.TOi2 m;refine qac (qcO J U (qac (qfd J λg p s5=>?_)));replace p:qhb g TO x y:=p;have e5:=s5.extBut;refine qac (qhX (qaq (qaq ?_)));refine qac (qcO p U (qac (qjW ?_)));have hsz:g.objs.size=s.heap.objs.size:=by rw[s5.1,W.1,P.1,N.1,s1.1]
 have S:IsZip g z TI TO .ellipsis:=e5 _ _ D.TOz.symm (e4 _ _ D.i2z.symm (B _ _ D.TOz.symm (t _ _ D.i1z.symm r)));have kp:∀ c o,c≠z->c≠TO->c≠i1->c≠i2->s.heap.get? c=some o->g.get? c=some o:=λc o c1 c2 c3 c4 e=>e5 _ _ c2 (e4 _ _ c4 (B _ _ c2 (t _ _ c3 (f _ _ c1 e))));have h25:SIt k2 g i2 l2 (n+1):=h24.to λo q=>e5 _ o D.TOi2.symm q;have I:z<g.objs.size:=qax S;show wpAny _ _ (qdU (.ref z) (.ref g.objs.size) >>= _) _ _ _;refine qac ?_;unfold qdU;have hz6:IsZip (g.push { cls:=.type "tuple",data:=.seq #[x,y] }) z TI TO .ellipsis:=qaj _ S
 refine qac (qcS hz6 (by simp) λg7 K s7=>?_);replace K:IsZip g7 z TI TO (qgB g.objs.size):=K;refine qcS K (by simp) λg8 F s8=>?_;replace F:IsZip g8 z TI TO (qgB g.objs.size):=F;have up:∀ c o,c≠z->g.get? c=some o->g8.get? c=some o:=λc o c1 e=>s8.extBut _ _ c1 (s7.extBut _ _ c1 (qaj _ e));have hT8:qhb g8 g.objs.size x y:=s8.extBut _ _ (qci I) (s7.extBut _ _ (qci I) (qaw _ U));have hz9:g8.objs.size=g.objs.size+1:=by rw[s8.1,s7.1,qbs]
 rw[hsz]at F hT8 hz9;refine qaq ⟨_,U,qaq ?_⟩;show Q (some (.ref g.objs.size)) _;rw[hsz];exact R g8 ⟨F,up _ _ D.TIz (kp _ _ D.TIz D.TITO D.TIi1 D.TIi2 C),⟨_,_,up _ _ D.TOz p⟩,(V.to λo q=>e5 _ o D.TOi1.symm (e4 _ o D.i12 (B _ o D.TOi1.symm q))).to λo q=>up _ o D.i1z q,h25.to λo q=>up _ o D.i2z q⟩ hT8 hz9 λc o c1 c2 c3 c4 e=>up c o c1 (kp c o c1 c2 c3 c4 e)
set_option maxHeartbeats 1000000 in
theorem Du (T:A.in1.handled=none) (D:ZipApart z TI TO i1 i2 l1 l2) (hs:ZSt k k2 z TI TO i1 i2 l1 l2 .none n s.heap) (G:SIs k s.heap l1 xs) (L:SIs k2 s.heap l2 X) (Y:xs[n]?=none\/X[n]?=none)
  (R:∀ h',(∀ c o,c≠z->c≠TO->c≠i1->c≠i2->s.heap.get? c=some o->h'.get? c=some o)->Q none { s with heap:=h' }):wpAny (model prog w) A (qg2 (.ref z)) Q E s :=by
 obtain⟨hz,C,⟨a,b,O⟩,h1,h2⟩:=hs;have hT:s.TypeIs (.ref z) "zip":=⟨_,hz,U⟩
 have fin:∀ (h':Heap) (e:Addr),_->(∃ o,h'.get? e=some o/\o.cls=.type "StopIteration")->
   wpAny (model prog w) A (do if (<-isInstance (.ref e) _) then pure none else throw (.ref e)) Q E { s with heap:=h' }:=λh' e hk ⟨o,ho,hc⟩=>
  qac (qiP ⟨o,ho,hc⟩ qj3 (qaq (R _ hk)))
 refine qac (qeH (qbL hT qeQ (qbW qeQ hT qip ?_ (qh7 _))));show wpAny _ _ (field (.ref z) 2 >>= _) _ _ _;refine qac (qb8 hz U (x:=.bool false) U ?_);refine qac (qb8 hz U U (qac (qcO C U ?_)));refine qac ?_;refine qac (qb8 hz U U (qaq ?_));refine qac (qd1 (qac (qb8 hz U U ?_)));refine qac (qcS hz (by simp) λg1 r s1=>?_);refine qac ?_;simp only[qhO,qhU,qfU,qh4];have f:=s1.extBut;refine qac (qac (qfE ?_));cases hx:xs[n]? with
 |none=>
  refine qac (Aj T (h1.to λo q=>f _ o D.i1z q) (G.to λo q=>f _ o D.l1z q) hx λg2 e N he=>?_);obtain⟨oe,j,v⟩:=he;have hz2:IsZip g2 z TI TO .ellipsis:=N _ _ D.i1z.symm r;have M:e≠z:=λx=>by subst x;rw[hz2]at j;cases j;simp at v
  exact qcS hz2 (by simp) λg3 _ P=>fin g3 e (λc o c1 _ c3 _ x=>P.extBut _ _ c1 (N _ _ c3 (f _ _ c1 x))) ⟨oe,P.extBut _ _ M j,v⟩
 |some x=>
  have hy:X[n]?=none:=by rcases Y with h|h;rw[hx]at h;cases h;exact h
  refine qac (sv (h1.to λo q=>f _ o D.i1z q) (G.to λo q=>f _ o D.l1z q) hx λg2 V N=>qaq ?_);have t:=N.extBut;have d:=t _ _ D.TOi1 (f _ _ D.TOz O);refine qac (qcO d U (qac (qfd d λg3 m P=>?_)));have B:=P.extBut;refine qac (qhX (qaq ?_));refine qac (qac (qfE ?_));refine qac (Aj T (h2.to λo q=>B _ o D.TOi2.symm (t _ o D.i12.symm (f _ o D.i2z q))) (L.to λo q=>B _ o D.l2TO (t _ o D.l2i1 (f _ o D.l2z q))) hy λg4 e W he=>?_);obtain⟨oe,j,v⟩:=he;have hz4:IsZip g4 z TI TO .ellipsis:=W _ _ D.i2z.symm (B _ _ D.TOz.symm (t _ _ D.i1z.symm r));have M:e≠z:=λx=>by subst x;rw[hz4]at j;cases j;simp at v
  exact qcS hz4 (by simp) λg _ s5=>fin g e (λc o c1 c2 c3 c4 x=>s5.extBut _ _ c1 (W _ _ c4 (B _ _ c2 (t _ _ c3 (f _ _ c1 x))))) ⟨oe,s5.extBut _ _ M j,v⟩
end
noncomputable def Gv (k:Bool):Value:=if k=true then .type "tuple_iterator" else .type "list_iterator"
def uw (k:Bool) (l:Addr):Obj:={ cls:=Gv k,data:=.fields #[.ref l,.int 0 0] }
abbrev zH1 (k:Bool) (h:Heap) (a:Addr):Heap:=h.push (uw k a)
abbrev zH2 (k k2:Bool) (h:Heap) (b a:Addr):Heap:=(zH1 k h b).push (uw k2 a)
abbrev zH3 (k k2:Bool) (h:Heap) (a b:Addr):Heap:=(zH2 k k2 h a b).push { cls:=.type "tuple",data:=.seq #[.ref h.objs.size,.ref (zH1 k h a).objs.size] }
abbrev zH4 (k k2:Bool) (h:Heap) (b a:Addr):Heap:=(zH3 k k2 h b a).push { cls:=.type "tuple",data:=.seq #[.none,.none] }
abbrev zH5 (k k2:Bool) (h:Heap) (b a:Addr):Heap:=(zH4 k k2 h b a).push { cls:=.type "zip",data:=.fields #[.none,.bool false,.bool false,.ref (zH2 k k2 h b a).objs.size,.ref (zH3 k k2 h b a).objs.size] }
section
variable {prog:qaR}{w:World}{A:qa2}{E:Value->qak->Prop}{s:qak}{k k2:Bool}
theorem uz (B:SIs k s.heap l xs) (h:Q (.ref s.heap.objs.size) { s with heap:=s.heap.push (uw k l) }):wpAny (model prog w) A (qjH (.ref l)) Q E s :=by
 cases k with
 |true=>exact qcT B h
 |false=>exact qfZ B h
theorem qi (a b) (xs j) (k k2) :
  Meets (qe7.«zip.__new__» ⟨[.type "zip",.ref a,.ref b],[]⟩) (λ_ R s=>SIs k s.heap a xs/\SIs k2 s.heap b j/\R (.ok (.ret (.ref (zH4 k k2 s.heap a b).objs.size))) { s with heap:=zH5 k k2 s.heap a b }) :=
 .of_wp λprog w A R s h=>by
  obtain⟨I,g,d,G,os⟩:=s;obtain⟨i,f,h⟩:=h;have y:=sub_zip;have m:SIs k2 (Shared.heap ⟨I.push (uw k a),g,d,G,os⟩) b j:=f.to λo q=>qaj _ q
  wp_walk using uz i,uz m
  exact⟨_,U,h⟩
theorem ux (k) (e:h.get? u=some (uw k l)):SIt k h u l 0 :=by
 cases k with
 |true=>exact⟨_,e,U,U⟩
 |false=>exact⟨_,e,U,U⟩
theorem rn (i:SIs k s.heap a xs) (f:SIs k2 s.heap b j)
  (h:∀ h',ZSt k k2 (s.heap.objs.size+4) (s.heap.objs.size+2) (s.heap.objs.size+3) s.heap.objs.size (s.heap.objs.size+1) a b .none 0 h'->
    (∀ c o,s.heap.get? c=some o->h'.get? c=some o)->Q (.ref (s.heap.objs.size+4)) { s with heap:=h' }) :
  wpAny (model prog w) A (call (.type "zip") [.ref a,.ref b]) Q E s :=by
 refine callType_new F.called_zip (by decide) (F.typeCall_zip_2 _ _) (F.newCall_zip_2 _ _) (λobj=>F.args_object_init_3 obj _ _) F.entry_zip_new (qi a b xs j k k2) ⟨i,f,?_⟩;have n:(zH1 k s.heap a).objs.size=s.heap.objs.size+1:=qbs ..;have t:(zH2 k k2 s.heap a b).objs.size=s.heap.objs.size+2:=by rw[qbs,n]
 have r:(zH3 k k2 s.heap a b).objs.size=s.heap.objs.size+3:=by rw[qbs,t]
 have C:(zH4 k k2 s.heap a b).objs.size=s.heap.objs.size+4:=by rw[qbs,r]
 have up:∀ {h:Heap}{H:Obj}{c:Addr}{o:Obj},h.get? c=some o->(h.push H).get? c=some o:=λe=>qaj _ e;have p:(zH5 k k2 s.heap a b).get? (zH4 k k2 s.heap a b).objs.size=some _:=qaw _ U;have z:(zH5 k k2 s.heap a b).get? (zH3 k k2 s.heap a b).objs.size=some _:=up (qaw _ U);have D:(zH5 k k2 s.heap a b).get? (zH2 k k2 s.heap a b).objs.size=some _:=up (up (qaw _ U));have v:(zH5 k k2 s.heap a b).get? (zH1 k s.heap a).objs.size=some _:=up (up (up (qaw _ U)));rw[t,r,C]at p;rw[n,t]at D;rw[r]at z;rw[n]at v;rw[C];exact⟨⟨_,p,U⟩,h _ ⟨p,D,⟨_,_,z⟩,ux k (up (up (up (up (qaw _ U))))),ux k2 v⟩ λc o x=>up (up (up (up (up x))))⟩
end
def SqK (k:Bool) (K:qae) (H:Hp) (a:Addr) (xs:List V):Prop:=match k with
 |true=>SqT K H a xs
 |false=>SqL K H a xs
def Itz (S1 S2:Hp->List V->Prop):It:=
 ⟨λi H=>∃ xs a x y,S1 H xs/\S2 H a/\xs[i]?=some x/\a[i]?=some y,λi H x H'=>∃ T v u,(∀ xs,S1 H xs->xs[i]?=some v)/\(∀ a,S2 H a->a[i]?=some u)/\H T=none/\x=.ref T/\H'=upd H T (.tup [v,u]),
  λi H=>∃ xs a,S1 H xs/\S2 H a/\(xs[i]?=none\/a[i]?=none)⟩
theorem Inv.seqK {d:St}(I:Inv X c d H s) (h:SqK k X.K H a xs):∃ b,aI xs b/\SIs k s.heap a b.toArray :=by
 cases k with
 |true=>obtain⟨b,r,p,_⟩:=I.tuple h;exact⟨b,r,p⟩
 |false=>obtain⟨b,r,p,_⟩:=I.list h;exact⟨b,r,p.isList⟩
theorem Inv.seqK_inj {d:St}(I:Inv X b d H s) (h:SqK k X.K H a xs) (h':SqK k X.K H a c):xs=c :=by
 cases k with
 |true=>exact I.tuple_inj h h'
 |false=>exact I.list_inj h h'
theorem Bq {K}{ TI TO    } (D:ZipApart z TI TO n p N M) :
  vC P w K (.Tuple t kk pos) (Itz (λH xs=>SqK k K H N xs) λH xs=>SqK k2 K H M xs) [z,TI,TO,n,p] z (λi h=>ZSt k k2 z TI TO n p N M .none i h)  where
 mem:=by simp
 obj:=λi h st b hb=>by
  simp only[qav,qbx,or_false]at hb;rcases hb with rfl|rfl|rfl|rfl|rfl
  ·exact⟨_,st.z,λv z=>by cases z⟩
  ·exact⟨_,st.ti,λv z=>by cases z⟩
  ·obtain⟨a,b,e⟩:=st.to;exact⟨_,e,λv z=>by cases z⟩
  ·obtain⟨o,J,e,d⟩:=st.t1.live;exact⟨o,e,λv z=>by rw[d]at z;cases z⟩
  ·obtain⟨o,J,e,d⟩:=st.t2.live;exact⟨o,e,λv z=>by rw[d]at z;cases z⟩
 keep:=λi h h' st kp=>by
  obtain⟨a,b,e⟩:=st.to;exact⟨kp z (by simp) _ st.z,kp TI (by simp) _ st.ti,⟨a,b,kp TO (by simp) _ e⟩,st.t1.to λo q=>kp n (by simp) o q,st.t2.to λo q=>kp p (by simp) o q⟩
 item:=by
  intro X C hw F S i A s σ H E I B st hg;subst C hw F;obtain⟨xs,ys,x,y,f,g,hx,R⟩:=hg;obtain⟨Y,j,p1⟩:=I.seqK f;obtain⟨J,l,G⟩:=I.seqK g;obtain⟨u,hu,ru⟩:=j.get hx;obtain⟨v,hv,T⟩:=l.get R;refine BC D st p1 G (by simpa using hu) (by simpa using hv) λh1 c hT hsz kp=>⟨_,U,?_⟩;refine wpAny_letOwnedTupleGo_zip c.z λh2 O s2=>?_;have m:=s2.extBut;obtain⟨c1,c2,L⟩:=c.to;have Q:∀ b∈[z,TI,TO,n,p],b≠s.heap.objs.size:=λb hb e=>by
   obtain⟨o,ho,_⟩:=(show ∃ o,s.heap.get? b=some o/\True by
    simp only[qav,qbx,or_false]at hb;obtain⟨a',b',e'⟩:=st.to;obtain⟨o1,_,q1,_⟩:=st.t1.live;obtain⟨o2,_,V,_⟩:=st.t2.live;rcases hb with rfl|rfl|rfl|rfl|rfl
    ·exact⟨_,st.z,trivial⟩
    ·exact⟨_,st.ti,trivial⟩
    ·exact⟨_,e',trivial⟩
    ·exact⟨_,q1,trivial⟩
    ·exact⟨_,V,trivial⟩)
   have:=qax ho
   rw[e]at this;exact qbb _ this
  refine⟨.ref s.heap.objs.size,_,?_,U,⟨s.heap.objs.size,x,y,λzs hz=>by rw[I.seqK_inj hz f];exact hx,λzs hz=>by rw[I.seqK_inj hz g];exact R,I.hok.fresh (qan _),U,U⟩,?_,λb hb=>?_⟩
  ·have I2:=I.turnsT (h':=h2) (t':=s.toks) B (λb o hb q=>by
    simp only[qav,qbx,or_false,not_or]at hb
    exact m b o hb.1 (kp b o hb.1 hb.2.2.1 hb.2.2.2.1 hb.2.2.2.2 q)) (qan _) ⟨_,m _ _ (qbF (Q z (by simp))) hT,U,⟨_,U⟩,U⟩ (.cons ru (.cons T .nil)) (by show 2<=qaG;decide)
   exact I2
  ·exact⟨O,m _ _ D.TIz c.ti,⟨c1,c2,m _ _ D.TOz L⟩,c.t1.to λo q=>m _ o D.i1z q,c.t2.to λo q=>m _ o D.i2z q⟩
  ·rw[upd_ne (Q b hb)];exact (B b hb).1
 done:=by
  intro X C hw F S i A s σ H E I B st hg;subst C hw F;obtain⟨xs,ys,f,g,r⟩:=hg;obtain⟨Y,j,p1⟩:=I.seqK f;obtain⟨J,l,G⟩:=I.seqK g;have hl1:=j.length;have W:=l.length
  refine Du (I.ok.hd S) D st p1 G (by
   rcases r with h|h
   ·rw[qcY]at h;simp;lia
   ·rw[qcY]at h;simp;lia) λh' kp=>⟨U,I.turns B λb o hb q=>?_⟩
  simp only[qav,qbx,or_false,not_or]at hb;exact kp b o hb.1 hb.2.2.1 hb.2.2.2.1 hb.2.2.2.2 q
 self:=λ_ _ _ _ _ st h=>qiO st.z h
def HX (K:qae) (k k2:Bool) (e:TA):L2.TI:=λc H R=>e c H λd H1=>∃ a b,d=[.ref a,.ref b]/\(∃ xs,SqK k K H1 a xs)/\(∃ xs,SqK k2 K H1 b xs)/\R (Itz (λH xs=>SqK k K H a xs) λH xs=>SqK k2 K H b xs) H1
theorem Fh {f}{C}{g}{p pos}{k k2} (hg:Gl X "zip") (hm:X.mg "zip" = none) (B:PA X [a,b] x) (y:qbB [a,b] X.env=[(false,eval a X.env),(false,eval b X.env)]:=by rfl) (d:qbB [b] X.env=[(false,eval b X.env)]:=by rfl) :
  PI X (.Tuple f C g) (.Call (.Name "zip" p) [a,b] [] pos) (HX X.K k k2 x) :=by
 intro j s L H R I h;refine Call_ (jI I hg hm boot_zip (qcd (thn (B pos j s L H _ I h) λn s1 ⟨z,H1,I1,K,G⟩=>?_) (by rw[y,d]) (by rw[d];rfl)));obtain⟨l,m,e,⟨xs,J⟩,⟨M,u⟩,q⟩:=G;subst e;cases K with
 |cons r t=>
  cases t with
  |cons E t=>
   cases t;cases r;cases E;obtain⟨n,A,p1⟩:=I1.seqK J;obtain⟨z,F,v⟩:=I1.seqK u;have lt:∀ {k:Bool}{l:Addr}{n:Array Value},SIs k s1.heap l n->l<s1.heap.objs.size:=λ{k l n} w=>by
    cases k with
    |true=>obtain⟨_,o,_⟩:=w;exact qax o
    |false=>obtain⟨_,o,_⟩:=w;exact qax o
   refine rn p1 v λh' c D=>qiO c.z ?_;refine⟨_,_,_,_,H1,U,I1.kept D,Bq (zipApart_new (lt p1) (lt v)),c,λb hb=>?_,q⟩;have i:s1.heap.objs.size<=b:=by
    simp only[qav,qbx,or_false]at hb;rcases hb with rfl|rfl|rfl|rfl|rfl
    ·exact qc4 _ 4
    ·exact qc4 _ 2
    ·exact qc4 _ 3
    ·exact qan _
    ·exact qc4 _ 1
   exact I1.fpOk i (I1.hok.fresh i)
noncomputable def cH:List D->List D->List D
 |d::ds,e::es=>.tup [d,e]::cH ds es
 |_,_=>[]
noncomputable def FF:W->Option (Bool×List D)
 |.d (.tup ds)=>some (true,ds)
 |.d (.lst ds)=>some (false,ds)
 |_=>none
def cx (c:Af):Lf
 |env,st=>(c env st).bind λr=>match r.1 with
  |[x,y]=>(FF x).bind λa=>(FF y).map λb=>(cH a.2 b.2,r.2)
  |_=>none
theorem fR:∀ (ds es) (i:Nat),(cH ds es)[i]?=(ds[i]?).bind λd=>(es[i]?).map λe=>D.tup [d,e]
 |[],es,i=>by simp[cH]
 |d::ds,[],i=>by cases i<;>simp[cH]
 |d::ds,e::es,0=>by simp[cH]
 |d::ds,e::es,i+1=>by simpa [cH] using fR ds es i
theorem pX:∀ (ds es),(cH ds es).length=min ds.length es.length
 |[],es=>by simp[cH]
 |d::ds,[]=>by simp[cH]
 |d::ds,e::es=>by simp[cH,pX ds es]
section
variable {K:qae}{X:Cx}{a b:Expr}{pos:Pos}{af:Af}
theorem xO {st}(r:Rw K H φ w v) (e:FF w=some p) (S:Sr K H φ st):∃ a l,v=.ref a/\SqK p.1 K H a l/\(∀ H' c,Fw φ c H H'->SqK p.1 K H' a l)/\Rls K H φ p.2 l :=by
 cases w with
 |h n=>cases e
 |d x=>
  cases x with
  |tup ds=>
   cases e;obtain⟨a,j,rfl,o,g⟩:=r;exact⟨a,j,U,(SqT.of o),λH' c f=>(SqT.of o).fw S f,g⟩
  |lst ds=>
   cases e;obtain⟨a,j,rfl,h0,o,g⟩:=r;exact⟨a,j,U,.inl o,λH' c f=>.inl (o.fw f h0),g⟩
  |_=>cases e
theorem FV (h1:∀ H' c,Fw φ c H H'->S1 H' l) (h2:∀ H' c,Fw φ c H H'->S2 H' j) (r1:∀ H' c,Fw φ c H H'->Rls K H' c ds l) (r2:∀ H' c,Fw φ c H H'->Rls K H' c es j) :
  Yl K φ H (Itz S1 S2) (cH ds es) :=by
 intro H2 m st2 i B s2;have G:=h1 H2 m B;have E:=h2 H2 m B;have C:=r1 H2 m B;have w2:=r2 H2 m B;refine⟨λd hd=>?_,λhi=>⟨l,j,G,E,?_⟩⟩
 ·rw[fR,qaa]at hd
  obtain⟨d1,Y,hd⟩:=hd;obtain⟨d2,F,rfl⟩:=qad.mp hd;obtain⟨v,ev,rv⟩:=C.get Y;obtain⟨u,eu,ru⟩:=w2.get F;refine⟨⟨l,j,v,u,G,E,ev,eu⟩,λx H' y=>?_⟩;obtain⟨T,v',u',y1,y2,P,rfl,rfl⟩:=y;have z1:=y1 l G;have z2:=y2 j E;rw[ev]at z1;rw[eu]at z2;cases z1;cases z2;exact⟨aQ.new P _,T,_,U,upd_same,_,_,U,rv.fw s2 (Fw.new P),_,_,U,ru.fw s2 (Fw.new P),U⟩
 ·rw[pX]at hi
  have l1:=C.length;have l2:=w2.length;rw[qcY,qcY];lia
theorem lC {z}{k}{A p} (hg:Gl X "zip") (hm:X.mg "zip" = none) (ha:IA K X [a,b] af) (hs:ay a=true:=by rfl) (t:ay b=true:=by rfl) (hK:X.K=K:=by rfl) :
  II K X (.Tuple z k A) (.Call (.Name "zip" p) [a,b] [] pos) (cx af) :=by
 subst hK;refine⟨λenv st r g=>?_⟩;simp only[cx,qaa]at g;obtain⟨⟨ws,s1⟩,hy,g⟩:=g;dsimp only at g;split at g
 case h_2=>cases g
 rename_i x y;simp only[qaa,qad]at g;obtain⟨p1,O,p2,J,rfl⟩:=g;refine (Fh (k:=p1.1) (k2:=p2.1) hg hm (ha.run _ _ _ hy) (Bg hs t) (iO t)).imp ?_
 rintro σ H R ⟨φ,hE,hS,q⟩
 refine⟨φ,hE,hS,λl H1 M f1 s1 C=>?_⟩;obtain⟨v,r,rfl,rx,v2,r',rfl,ry,rfl⟩:=C;obtain⟨a,j,rfl,o,L,g⟩:=xO rx O s1;obtain⟨b,N,rfl,I,s,Q⟩:=xO ry J s1;exact⟨a,b,U,⟨j,o⟩,⟨N,I⟩,q _ H1 M f1 s1 (FV L s (λH' c f=>g.fw s1 f) λH' c f=>Q.fw s1 f)⟩
end
section
variable {prog:qaR}{w:World}{A:qa2}{s:qak}{I l S:Addr}{items:Array Value}{ns:List Int}{a:List (Str×Value)}{R:qjP->qak->Prop}
variable {E:Value->qak->Prop}
end
section
variable {K:qae}{X:Cx}{e a b:Expr}{es:List Expr}{pos:Pos}{f d g:Ef}{c:Af}
end
section
variable {K:qae}{X:Cx}
noncomputable def vL (_:Sto):W->W->Option D
 |.d (.int i),.d (.int j)=>some (.int (qdl i j))
 |_,_=>none
theorem oT:OpD K X (qbG .BitAnd) vL:=iH (λ_ _ _=>rfl) λi j d h=>by cases h;exact⟨EZ.imp λ_ _ _ _ q=>⟨i,j,q⟩,U⟩
end
section
variable {K:qae}{X:Cx}{pos:Pos}{a b:Expr}{c:Af}
end
def cO (a b:Ef):Ef
 |env,st=>(a env st).bind λx=>(b env x.2).bind λy=>match x.1,y.1 with
 | .h n,.d (.int i)=>(match y.2[n]? with
  |some (.n ws)=>(atI ws i).map λw=>(w,y.2)
  |_=>none)
 |_,_=>none
noncomputable def zN (a:Af):Ef
 |env,st=>(a env st).bind λr=>if r.1.length<=1000 then some (.h r.2.length,r.2++[.n r.1]) else none
def j6 (o i v:Ef):Sf
 |env,st=>(v env st).bind λb=>(o env b.2).bind λc=>(i env c.2).bind λa=>match c.1,a.1,b.1 with
 | .h n,.d (.int k),.d x=>(match a.2[n]? with
  |some (.n ws)=>(ixN ws.length k).map λj=>.nx env (a.2.set n (.n (ws.set j (.d x))))
  |_=>none)
 |_,_,_=>none
def we (ds:List D):List W->Option (D×List D)
 |[.d (.int i)]=>(ixN ds.length i).bind λk=>(ds[k]?).bind λd=>if bN d=true/\-(2^62)<=i/\i<2^62 then some (d,ds.eraseIdx k) else none
 |_=>none
noncomputable def uh (i j l:Nat) (a:Af):Sf
 |env,st=>(a env st).bind λr=>match r.1 with
 |[x,y,z]=>some (.nx (((env.set i (some x)).set j (some y)).set l (some z)) r.2)
 |_=>none
section
variable {K:qae}{X:Cx}{pos:Pos}{e a b c:Expr}{es:List Expr}{f fa fb:Ef}{af:Af}
theorem Rws.get {H:Hp}{φ:List Addr}:∀ {ds:List W}{s:List V},Rws K H φ ds s->∀ {i:Nat}{d:W},ds[i]?=some d->∃ v,s[i]?=some v/\Rw K H φ d v
 |[],_,h,i,d,e=>by simp at e
 |d::ds,_,h,i,e,q=>by
  obtain⟨v,r,rfl,J,G⟩:=h;cases i with
  |zero=>simp at q;subst q;exact⟨v,U,J⟩
  |succ i=>simpa using Rws.get G (by simpa using q)
theorem Rws.set {H:Hp}{φ:List Addr}:∀ {ds:List W}{s:List V} (n:Nat) {d:W}{v:V},Rws K H φ ds s->Rw K H φ d v->Rws K H φ (ds.set n d) (s.set n v)
 |[],_,_,_,_,h,_=>by cases h;exact U
 |e::ds,_,0,d,v,h,hd=>by
  obtain⟨u,r,rfl,J,G⟩:=h;exact⟨v,r,U,hd,G⟩
 |e::ds,_,n+1,d,v,h,hd=>by
  obtain⟨u,r,rfl,J,G⟩:=h;exact⟨u,_,U,J,Rws.set n G hd⟩
theorem Rws.mem {H:Hp}{φ:List Addr}:∀ {ds:List W}{s:List V},Rws K H φ ds s->∀ {m:Nat},W.h m∈ds->m<φ.length
 |[],_,_,m,hm=>nomatch hm
 |d::ds,_,h,m,hm=>by
  obtain⟨v,r,rfl,J,G⟩:=h;rcases qav.mp hm with z|z
  ·subst z
   obtain⟨a,e,_⟩:=J;exact (qas.mp e).1
  ·exact Rws.mem G z
theorem Sr.atn {st} (S:Sr K H φ st) (e1:φ[n]?=some p) (e2:st[n]?=some (.n ws)):∃ s,H p=some (.lst s)/\Rws K H φ ws s/\∀ m,W.h m∈ws->m<n :=S.at_ n p _ e1 e2
theorem BL (r:Rws K H φ ds s) (e:atI ds i=some d):∃ v,atI s i=some v/\Rw K H φ d v :=by
 unfold atI at e ⊢;rw[<-r.length];obtain⟨j,e1,e2⟩:=qaa.mp e;obtain⟨v,ev,rv⟩:=r.get e2;exact⟨v,by rw[e1];exact ev,rv⟩
theorem nV (ha:IE K X a fa) (hb:IE K X b fb) (hs:lM b=true:=by rfl) (hK:X.K=K:=by rfl):IE K X (.Subscript a b pos) (cO fa fb):=by
 subst hK;refine⟨λenv st r g=>?_⟩;simp only[cO,qaa]at g;obtain⟨⟨x,s1⟩,hx,⟨y,s2⟩,t,g⟩:=g;dsimp only at g;split at g
 case h_2=>cases g
 rename_i n i;split at g
 ·rename_i ws Y
  obtain⟨w,hw,rfl⟩:=qad.mp g;refine (Au rY (ha.run _ _ _ hx) (hb.run _ _ _ t) (oq hs)).imp ?_
  rintro σ H Q ⟨φ,B,E,q⟩
  refine⟨φ,B,E,λv H1 A C S1 L=>⟨A,B.fw E C,S1,λu H2 R T S2 w2=>?_⟩⟩;obtain⟨p,ep,rfl⟩:=L.fw S1 T;obtain⟨s,hv,M,_⟩:=S2.atn ep Y;obtain⟨z,ez,rz⟩:=BL M hw;exact .inl ⟨p,s,i,z,U,w2,SqL.of hv,ez,q z H2 R (C.trans T) S2 rz⟩
 ·cases g
theorem kf (h:IA K X es af):IE K X (.List es pos) (zN af):=by
 refine⟨λenv st r g=>?_⟩;simp only[zN,qaa]at g;obtain⟨y,t,g⟩:=g;split at g
 ·cases g
  rename_i hl;refine (Av (h.run _ _ _ t)).imp ?_
  rintro σ H Q ⟨φ,B,E,q⟩
  refine⟨φ,B,E,λs H1 A C s1 L=>?_⟩;refine⟨by rw[<-L.length];exact jc hl,λp F=>?_⟩;exact q _ _ _ (C.trans (Fw.more F)) (s1.moreC F ⟨s,upd_same,L.fw s1 (Fw.more F),λm hm=>L.mem hm⟩) ⟨p,by rw[<-s1.len];simp,U⟩
 ·cases g
theorem fE {I} (ho:IE K X a fa) (hi:IE K X b fb) (hv:IE K X e f) (hb:lM b=true:=by rfl) (hs:qdt [.Subscript a b I] e pos.line X.env=pure false:=by rfl) (hw:qdu [.Subscript a b I] e X.env=pure none:=by rfl) :
  IS K X (.Assign [.Subscript a b I] e pos) (j6 fa fb f) :=by
 refine⟨λenv st r g=>?_⟩;simp only[j6,qaa]at g;obtain⟨⟨rv,s1⟩,ev,⟨ro,s2⟩,eo,⟨ri,s3⟩,ei,g⟩:=g;dsimp only at g;split at g
 case h_2=>cases g
 rename_i n k x;split at g
 ·rename_i ws Y
  obtain⟨j,ej,rfl⟩:=qad.mp g;refine (pi (hv.run _ _ _ ev) (sC (ho.run _ _ _ eo) (hi.run _ _ _ ei) kZ (mG hb)) hs hw (jU U)).imp ?_
  rintro D σ H ⟨φ,B,E,q⟩
  refine⟨φ,B,E,λv H1 A C s1 L=>⟨A,B.fw E C,s1,λo H2 R T s2 w2=>⟨R,(B.fw E C).fw s1 T,s2,λi H3 φ3 f3 s3 w3=>?_⟩⟩⟩;have e3:=((B.fw E C).fw s1 T).fw s2 f3;have w1':=(L.fw s1 T).fw s2 f3;obtain⟨p,ep,rfl⟩:=w2.fw s2 f3;obtain⟨s,F,M,bd⟩:=s3.atn ep Y;have w3':i=.int k:=w3;subst w3'
  obtain⟨f4,s4⟩:=s3.putC (o:=.lst (s.set j v)) (c:=.n (ws.set j (.d x))) ep λf=>⟨_,upd_same,(Rws.set j M w1').fw s3 f,λm hm=>by
   rcases List.mem_or_eq_of_mem_set hm with z|z
   ·exact bd m z
   ·cases z⟩
  refine⟨p,s,k,j,U,U,F,by rw[<-M.length];exact ej,?_⟩;exact q _ _ φ3 (((C.trans T).trans f3).trans f4) (e3.fw s3 f4) s4
 ·cases g
theorem Rls.erase {H:Hp}{φ:List Addr}:∀ {ds:List D}{s:List V} (n:Nat),Rls K H φ ds s->Rls K H φ (ds.eraseIdx n) (s.eraseIdx n)
 |[],_,_,h=>by cases h;exact U
 |d::ds,_,0,h=>by
  obtain⟨v,r,rfl,J,G⟩:=h;exact G
 |d::ds,_,n+1,h=>by
  obtain⟨v,r,rfl,J,G⟩:=h;exact⟨v,_,U,J,Rls.erase n G⟩
theorem nY {N} (ho:IE K X a fa) (ha:IA K X (e::es) af) (P:qcc a "pop" X.env (eval a X.env)=eval a X.env:=by rfl)
  (hall:(e::es).all ay=true:=by rfl) (O:(e::es).length<30:=by decide) (hline:(N.endLine==pos.line)=true:=by rfl) (hK:X.K=K:=by rfl) :
  IE K X (.Call (.Attribute a "pop" N) (e::es) [] pos) (cI we fa af) :=by
 refine vS PySem.F.slot_list_pop PySem.F.type_list_pop Ae (λH φ st n ad ds s ws us y Q S ea eds hv M rw t q=>?_) (λds ws y h=>?_) ho ha P hall O hline hK
 ·match ws,t with
  |[.d (.int i)],t=>
   simp only[we,qaa]at t;obtain⟨k,hk,d,hd,t⟩:=t;split at t
   ·rename_i hl
    cases t;obtain⟨v,r,rfl,r1,rfl⟩:=rw;obtain⟨x,ex,rx⟩:=M.get hd;refine⟨ad,s,i,k,x,U,by rw[r1],hv,by lia,by lia,by rw[<-M.length];exact (mN hk).1,ex,q _ _ rx (M.erase k) λb z=>?_⟩;obtain⟨z1,z2⟩:=eL hl.1 rx;rw[z]at z2;cases z2
   ·cases t
 ·match ws,h with
  |[.d (.int i)],h=>
   simp only[we,qaa]at h;obtain⟨k,hk,d,hd,h⟩:=h;split at h
   ·rename_i hl
    cases h;exact hl.1
   ·cases h
theorem kx (hx:PG X (.Name x px) (lY i)) (t:PG X (.Name y py) (lY j)) (hz:PG X (.Name z pz) (lY l)) (ha:IA K X [a,b,c] af) (hc:X.calm=true) (hK:X.K=K)
  (hs:qdt [.Tuple [.Name x px,.Name y py,.Name z pz] kt pt] (.Tuple [a,b,c] k2 pt2) pos.line X.env=pure false) (hw:qdu [.Tuple [.Name x px,.Name y py,.Name z pz] kt pt] (.Tuple [a,b,c] k2 pt2) X.env=pure none) :
  IS K X (.Assign [.Tuple [.Name x px,.Name y py,.Name z pz] kt pt] (.Tuple [a,b,c] k2 pt2) pos) (uh i j l af) :=by
 refine⟨λenv st r g=>?_⟩;simp only[uh,qaa]at g;obtain⟨⟨ws,s1⟩,hy',g⟩:=g
 match ws,g with
 |[wx,wy,wz],g=>
  cases g;refine (pi (Aw (x1:=k2) (pos:=pt2) (ha.run _ _ _ hy')) (Ay (k:=kt) (pos:=pt) hc (kT hx (kT t (kT hz xE (jT U)) (jT U)) (jT U)) ((mF U).trans U) (jS U)) hs hw (jU U)).imp ?_
  rintro D σ H ⟨φ,B,E,q⟩
  refine⟨φ,B,E,λs H1 A C S1 L=>?_⟩;obtain⟨v,r,rfl,r1,u,r',rfl,r2,u3,r'',rfl,r3,r4⟩:=L;cases r4;refine⟨by rw[qcz];simp,λp F=>⟨p,_,U,SqT.of upd_same,U,v,_,U,u,_,U,u3,_,U,U,?_⟩⟩;exact q _ _ A (C.trans (Fw.new F)) (((((B.fw E C).fw S1 (Fw.new F)).set i (r1.fw S1 (Fw.new F))).set j (r2.fw S1 (Fw.new F))).set l (r3.fw S1 (Fw.new F))) (S1.new F)
end
noncomputable def aw (f:Str) (a:Ef):Ef
 |env,st=>(a env st).bind λx=>match x.1 with
 |.d (.ob ns ds)=>((ns.zip ds).lookup f).map λd=>(.d d,x.2)
 | .h n=>(match x.2[n]? with
  |some (.o fs)=>(fs.lookup f).map λw=>(w,x.2)
  |_=>none)
 |_=>none
section
variable {K:qae}{H:Hp}{φ:List Addr}
theorem vz :∀ {ns:List Str}{ds}{b},Rls K H φ ds b->(ns.zip ds).lookup f=some d->∃ v,(ns.zip b).lookup f=some v/\Rl K H φ d v/\f∈ns
 |[],ds,b,r,h=>by cases h
 |n::ns,[],b,r,h=>by cases h
 |n::ns,x::ds,b,r,h=>by
  obtain⟨v,k,rfl,j,c⟩:=r;rw[qde,qby]at h ⊢;by_cases e:(f==n)=true
  ·rw[e]at h ⊢
   cases h;exact⟨v,U,j,by rw[beq_iff_eq.mp e];exact qag⟩
  ·rw[show (f==n)=false by simpa using e]at h ⊢
   obtain⟨l,q,s,o⟩:=vz c h;exact⟨l,q,s,qah _ o⟩
theorem Rfs.look :∀ {fs}{b},Rfs K H φ fs b->fs.lookup f=some w->∃ v,b.lookup f=some v/\Rw K H φ w v/\∃ p∈fs,p.1=f
 |[],b,r,h=>by cases h
 |(n,x)::fs,b,r,h=>by
  obtain⟨v,k,rfl,j,c⟩:=r;rw[qby]at h ⊢;by_cases e:(f==n)=true
  ·rw[e]at h ⊢
   cases h;exact⟨v,U,j,_,qag,(beq_iff_eq.mp e).symm⟩
  ·rw[show (f==n)=false by simpa using e]at h ⊢
   obtain⟨l,q,s,p,t,o⟩:=Rfs.look c h;exact⟨l,q,s,p,qah _ t,o⟩
theorem Rfs.length:∀ {fs:List (Str×W)}{b:List (Str×V)},Rfs K H φ fs b->fs.length=b.length
 |[],b,r=>by cases r;rfl
 |(n,x)::fs,b,r=>by
  obtain⟨v,k,rfl,j,c⟩:=r;rw[qam,qam,Rfs.length c]
theorem Rfs.mem :∀ {fs}{b},Rfs K H φ fs b->W.h m∈fs.map (·.2)->m<φ.length
 |[],_,_,hm=>nomatch hm
 |(n,x)::fs,_,r,hm=>by
  obtain⟨v,k,rfl,j,c⟩:=r;rcases qav.mp hm with z|z
  ·subst z
   obtain⟨a,e,_⟩:=j;exact (qas.mp e).1
  ·exact Rfs.mem c z
noncomputable def pk (f:Str) (w:W):List (Str×W)->List (Str×W)
 |[]=>[(f,w)]
 |(g,x)::r=>if g=f then (g,w)::r else (g,x)::pk f w r
theorem Rfs.put {f:Str}{w:W}{v:V} (i:Rw K H φ w v):∀ {fs:List (Str×W)}{b:List (Str×V)},Rfs K H φ fs b->Rfs K H φ (pk f w fs) (fP f v b)
 |[],_,r=>by cases r;exact⟨v,_,U,i,U⟩
 |(g,x)::fs,_,r=>by
  obtain⟨l,k,rfl,j,c⟩:=r;unfold pk fP;by_cases e:g=f
  ·rw[iFP e,iFP e];exact⟨v,k,U,i,c⟩
  ·rw[iFN e,iFN e];exact⟨l,_,U,j,Rfs.put i c⟩
theorem pq {f:Str}{w:W}:∀ {fs:List (Str×W)}{p:Str×W},p∈pk f w fs->p∈fs\/p=(f,w)
 |[],p,h=>.inr (qao.mp h)
 |(g,x)::fs,p,h=>by
  unfold pk at h;by_cases e:g=f
  ·rw[iFP e]at h
   rcases qav.mp h with z|z
   ·rw[e]at z;exact .inr z
   ·exact .inl (qah _ z)
  ·rw[iFN e]at h
   rcases qav.mp h with z|z
   ·exact .inl (z ▸ qag)
   ·rcases pq z with z|z
    ·exact .inl (qah _ z)
    ·exact .inr z
theorem u5 :∀ {b},f∉b.map (·.1)->fP f v b=b++[(f,v)]
 |[],_=>rfl
 |(g,x)::b,h=>by
  unfold fP;rw[iFN (by intro e;exact h (e ▸ qag)),u5 λz=>h (qah _ z)];rfl
theorem Rfs.keys:∀ {fs:List (Str×W)}{b:List (Str×V)},Rfs K H φ fs b->b.map (·.1)=fs.map (·.1)
 |[],b,r=>by cases r;rfl
 |(n,x)::fs,b,r=>by
  obtain⟨v,k,rfl,j,c⟩:=r;rw[qat,qat,Rfs.keys c]
theorem Rfs.snoc {f:Str}{w:W}{v:V} (i:Rw K H φ w v):∀ {fs:List (Str×W)}{b:List (Str×V)},Rfs K H φ fs b->Rfs K H φ (fs++[(f,w)]) (b++[(f,v)])
 |[],_,r=>by cases r;exact⟨v,_,U,i,U⟩
 |(g,x)::fs,_,r=>by
  obtain⟨l,k,rfl,j,c⟩:=r;exact⟨l,_,U,j,Rfs.snoc i c⟩
end
section
variable {K:qae}{X:Cx}{pos j:Pos}{e o:Expr}{N fb:Ef}{f:Str}
theorem j7 (h:IE K X e N) (hb:qcc e f X.env (eval e X.env)=eval e X.env:=by rfl) (R:X.K=K:=by rfl):IE K X (.Attribute e f pos) (aw f N):=by
 subst R;refine⟨λenv st r b=>?_⟩;simp only[aw,qaa]at b;obtain⟨⟨x,s1⟩,hx,b⟩:=b;refine (Fa (h.run _ _ _ hx) hb).imp ?_
 rintro σ H Q ⟨φ,B,G,q⟩
 refine⟨φ,B,G,λv H1 i y k P=>?_⟩;cases x with
 |d x=>
  cases x with
  |ob ns ds=>
   obtain⟨d,hd,rfl⟩:=qad.mp b;obtain⟨a,Cl,t,fs,F,rfl,h0,I,rfl,h3,C,A,h6,h7⟩:=P;obtain⟨u,hu,V,hf⟩:=vz h7 hd;exact⟨a,Cl,t,_,u,U,I,A,h6 f hf,hu,q u H1 i y k V⟩
  |_=>cases b
 |h n=>
  dsimp only at b;split at b
  ·rename_i fs s
   obtain⟨w,hw,rfl⟩:=qad.mp b;obtain⟨a,O,rfl⟩:=P;obtain⟨Cl,t,F,I,J,h3,C,A⟩:=k.at_ n a _ O s;obtain⟨u,hu,V,p,hp,rfl⟩:=J.look hw;exact⟨a,Cl,t,F,u,U,I,C,A p hp,hu,q u H1 i y k V⟩
  ·cases b
def l5 (f:Str) (o v:Ef):Sf
 |env,st=>(v env st).bind λM=>(o env M.2).bind λL=>match L.1,M.1 with
 | .h n,.d x=>(match L.2[n]? with
  |some (.o fs)=>if fs.length<1000/\(fs.lookup f).isSome=true then some (.nx env (L.2.set n (.o (pk f (.d x) fs)))) else none
  |_=>none)
 |_,_=>none
theorem kz (ho:IE K X o N) (hv:IE K X e fb) (hs:qcj e (some (.Attribute o f j)) pos.line X.env=pure false:=by rfl) (R:X.K=K:=by rfl):IS K X (.Assign [.Attribute o f j] e pos) (l5 f N fb):=by
 subst R;refine⟨λenv st r b=>?_⟩;simp only[l5,qaa]at b;obtain⟨⟨M,s1⟩,ev,⟨L,E⟩,eo,b⟩:=b;cases L with
 |d x=>cases b
 |h n=>
  cases M with
  |h m=>cases b
  |d x=>
   dsimp only at b;split at b
   case h_2=>cases b
   rename_i fs s;split at b
   case isFalse=>cases b
   rename_i hc;cases b;refine (AI (ho.run _ _ _ eo) (hv.run _ _ _ ev) hs).imp ?_
   rintro D σ H ⟨φ,B,G,q⟩
   refine⟨φ,B,G,λv H1 i y s1 P=>⟨i,B.fw G y,s1,λu H2 S W E w2=>?_⟩⟩;obtain⟨a,O,rfl⟩:=w2;obtain⟨Cl,t,F,I,J,h3,C,A⟩:=E.at_ n a _ O s;obtain⟨w0,T⟩:=qcs.mp hc.2;obtain⟨u0,hu0,ru0,p,hp,Y⟩:=J.look T;have na:=Y ▸ A p hp;refine⟨a,Cl,t,F,U,I,C,na,by rw[<-J.length];exact hc.1,?_⟩
   obtain⟨f3,s3⟩:=E.putC (o:=.ins Cl t (fP f v F)) (c:=.o (pk f (.d x) fs)) O λg=>⟨Cl,t,_,upd_same,(Rfs.put (P.fw s1 W) J).fw E g,(λm hm=>by
    obtain⟨p',l,e'⟩:=qaI.mp hm;rcases pq l with z|z
    ·exact h3 m (e' ▸ qdP (f:=(·.2)) z)
    ·rw[z]at e';cases e'),C,(λp' l=>by
    rcases pq l with z|z
    ·exact A p' z
    ·rw[z];exact na)⟩
   exact q σ _ S ((y.trans W).trans f3) (((B.fw G y).fw s1 W).fw E f3) s3
end
section
variable {K:qae}{X:Cx}{pos:Pos}{a e:Expr}{W:Ef}{Y:Af}
def zM (o:Ef) (a:Af):Ef
 |env,st=>(o env st).bind λx=>(a env x.2).bind λr=>match x.1,r.1 with
 |.d (.lst ds),[.d (.int k)]=>(a7 ds).bind λns=>if ns.length<=1000 then (ns.idxOf? k).map λj=>(.d (.int (j:Nat)),r.2) else none
 |_,_=>none
def Il (X:Cx):V->List V->Hp->VK->Prop:=λx xs H Q=>∃ (p:Addr) (ns:List Int) (k:Int) (j:Nat),x=.ref p/\xs=[.int k]/\SqL X.K H p (ns.map V.int)/\ns.length<=1000/\ns.idxOf? k=some j/\Q (.int (j:Nat)) H
theorem Es:∀ {ns:List Int}{k:Int}{j:Nat},ns.idxOf? k=some j->j<ns.length/\ns[j]?=some k/\∀ i,i<j->ns[i]?≠some k:=by
 intro ns k j h;obtain⟨N,h3,h4⟩:=(qdf.mp h);refine⟨N,by rw[qal N,h3],λi hi z=>?_⟩;rw[qal (qd5 hi N)]at z;exact h4 i hi (qaP z)
theorem ER:MtR X "list.index" (Il X):=by
 intro pins s σ H x xs v us Q I rx rv h;obtain⟨p,ns,k,j,rfl,rfl,F,hl,L,q⟩:=h;cases rx;obtain⟨u,rfl,ru⟩:=rv.one;obtain⟨t,rfl⟩:=ru;obtain⟨g,r,pl,hz⟩:=I.list F;obtain⟨j1,j2,j3⟩:=Es L;have A:g.length=ns.length:=by rw[<-r.length,qaf]
 have at_:∀ (i:Nat) (hi:i<g.length),∃ t,∃ hn:i<ns.length,g[i]=.int ns[i] t:=λi hi=>by
  obtain⟨h',q'⟩:=r.at i hi;have hn:i<ns.length:=by rw[<-A];exact hi
  rw[(qc1 ..)]at q';obtain⟨t,e'⟩:=q';exact⟨t,hn,e'⟩
 obtain⟨⟨c,dd,dt,sl⟩,eo,hc,n,hd⟩:=pl.isList;subst hc hd;have C:j<g.length:=by rw[A];exact j1
 refine qcr qc6 ⟨_,eo,U⟩ qfQ (qfL _ _) (qfk p g.toArray n dd sl _ _ j (by simpa using C) (by lia) ?_ (λm hm G=>?_)) ⟨eo,λy hy=>(eq_isInt k t (dM r) y (by simpa using hy)).at _ _,?_⟩
 ·obtain⟨t',hn,e⟩:=at_ j C
  rw[qal hn]at j2
  have:g.toArray[j]'(by simpa using C)=.int k t':=by simpa [qaP j2] using e
  rw[this];simp[isInt]
 ·have M:=by simpa using hm
  obtain⟨t',hn,e⟩:=at_ m M
  have:g.toArray[m]'hm=.int ns[m] t':=by simpa using e
  rw[this]
  have:=j3 m G
  rw[qal hn]at this;have S:ns[m]≠k:=λz=>this (by rw[z]);simp[isInt,S]
 ·exact⟨.int _,H,I.kept λb o e=>e,⟨_,U⟩,q⟩
theorem nU {w} (ho:IE K X a W) (ha:IA K X [e] Y) (B:qcc a "index" X.env (eval a X.env)=eval a X.env:=by rfl)
  (l:[e].all ay=true:=by rfl) (E:(w.endLine==pos.line)=true:=by rfl) (hK:X.K=K:=by rfl) :
  IE K X (.Call (.Attribute a "index" w) [e] [] pos) (zM W Y) :=by
 subst hK;have D:ay e=true:=by rw[qbw,qa0]at l;exact l.1
 refine⟨λenv st r f=>?_⟩;simp only[zM,qaa]at f;obtain⟨⟨x,s1⟩,hx,⟨ws,s2⟩,hw,f⟩:=f;dsimp only at f;split at f
 case h_2=>cases f
 rename_i ds k;simp only[qaa]at f;obtain⟨ns,hns,f⟩:=f;split at f
 case isFalse=>cases f
 rename_i hl;obtain⟨j,L,rfl⟩:=qad.mp f;have R:=bC hns;subst R;refine (Ar qd8 qc6 qf2 ER (ho.run _ _ _ hx) (ha.run _ _ _ hw) B (pL l (by show 1<30;decide)) E (aP D) (bg U)).imp ?_
 rintro σ H Q ⟨φ,T,hS,q⟩
 refine⟨φ,T,hS,λv H1 P f1 S1 w1=>?_⟩;obtain⟨p,vs,rfl,h0,F,O⟩:=w1;have ev:=Rls.ints O;subst ev;refine⟨.inl ⟨U,_,.inl F⟩,P,T.fw hS f1,S1,λus H2 J f2 S2 w2=>?_⟩;obtain⟨y,us',rfl,ry,rfl⟩:=w2;cases (show y=.int k from ry);exact⟨p,ns,k,j,U,U,.inl (F.fw f2 h0),hl,L,q _ H2 J (f1.trans f2) S2 U⟩
end
section
variable {K:qae}{H:Hp}{φ ψ:List Addr}{x Cl J:Addr}{xs:List (Str×V)}{o:HO}
theorem Rl.chx (hx:H x=some (.ins Cl J xs)) (t:xs.length<=5) (j:∀ a∈ψ,a=x):∀ {d:D}{v:V},Rl K H φ d v->Rl K (upd H x o) (φ++ψ) d v:=by
 have ne:∀ {a:Addr}{u:HO},H a=some u->(∀ C d f,u≠.ins C d f)->a≠x:=λ{a u} h q z=>by
  subst z;rw[hx]at h;cases h;exact q _ _ _ U
 have nin:∀ {a:Addr},a≠x->a∉φ->a∉φ++ψ:=λ{a} n h z=>by
  rcases qaV.mp z with z|z
  ·exact h z
  ·exact n (j a z)
 intro d v;refine (?_:∀ v,Rl K H φ d v->Rl K _ _ d v) v;refine D.rec (motive_2:=λds=>∀ g,Rls K H φ ds g->Rls K (upd H x o) (φ++ψ) ds g) ?_ ?_ ?_ ?_ ?_ ?_ ?_ ?_ ?_ ?_ ?_ ?_ d
 ·exact λv h=>h
 ·exact λb v h=>h
 ·exact λb v h=>h
 ·exact λb v h=>h
 ·exact λb v h=>h
 ·rintro v ⟨a,e,hn,h⟩
  rcases h with⟨d,h⟩|⟨d,h⟩
  ·have n:=ne h (by intros;simp)
   exact⟨a,e,nin n hn,.inl ⟨d,by rw[upd_ne n];exact h⟩⟩
  ·have n:=ne h (by intros;simp)
   exact⟨a,e,nin n hn,.inr ⟨d,by rw[upd_ne n];exact h⟩⟩
 ·rintro ns v ⟨a,e,h⟩
  rcases h with⟨ob,h⟩|h
  ·exact⟨a,e,.inl ⟨ob,by rw[upd_ne (ne h (by intros;simp))];exact h⟩⟩
  ·exact⟨a,e,.inr h⟩
 ·rintro ds A v ⟨a,g,rfl,p,s⟩
  exact⟨a,g,U,by rw[upd_ne (ne p (by intros;simp))];exact p,A g s⟩
 ·rintro ds A v ⟨a,g,rfl,E,p,s⟩
  rcases p with p|⟨ob,p⟩
  ·have n:=ne p (by intros;simp)
   exact⟨a,g,U,nin n E,.inl (by rw[upd_ne n];exact p),A g s⟩
  ·have n:=ne p (by intros;simp)
   exact⟨a,g,U,nin n E,.inr ⟨ob,by rw[upd_ne n];exact p⟩,A g s⟩
 ·rintro ns ds A v ⟨a,C',I,fs,g,rfl,E,p,s,Q,O,R,M,N⟩
  have n:a≠x:=λz=>by
   subst z;rw[hx]at p;cases p;rw[s,List.length_zip]at t;lia
  exact⟨a,C',I,fs,g,U,nin n E,by rw[upd_ne n];exact p,s,Q,O,R,M,A g N⟩
 ·exact λg h=>h
 ·rintro d ds G F g ⟨v,r,rfl,p,s⟩;exact⟨v,r,U,G v p,F r s⟩
variable (hx:H x=some (.ins Cl J xs)) (t:xs.length<=5) (j:∀ a∈ψ,a=x)
include hx t j
theorem Rls.chx:∀ {ds:List D}{g:List V},Rls K H φ ds g->Rls K (upd H x o) (φ++ψ) ds g
 |[],_,h=>h
 |d::ds,_,h=>by
  obtain⟨v,r,rfl,p,s⟩:=h;exact⟨v,r,U,Rl.chx hx t j p,Rls.chx s⟩
theorem Rw.chx (h:Rw K H φ w v):Rw K (upd H x o) (φ++ψ) w v :=by
 cases w with
 |d y=>exact Rl.chx hx t j h
 |h n=>
  obtain⟨a,e,rfl⟩:=h;exact⟨a,by rw[qaC (qas.mp e).1];exact e,U⟩
theorem Rws.chx:∀ {ds:List W}{g:List V},Rws K H φ ds g->Rws K (upd H x o) (φ++ψ) ds g
 |[],_,h=>h
 |d::ds,_,h=>by
  obtain⟨v,r,rfl,p,s⟩:=h;exact⟨v,r,U,Rw.chx hx t j p,Rws.chx s⟩
theorem Rkv.chx:∀ {ds:List (List Int×D)}{g:List (List Key×V)},Rkv K H φ ds g->Rkv K (upd H x o) (φ++ψ) ds g
 |[],_,h=>h
 |(k,d)::ds,_,h=>by
  obtain⟨v,r,rfl,p,s⟩:=h;exact⟨v,r,U,Rl.chx hx t j p,Rkv.chx s⟩
theorem Rkk.chx:∀ {ds:List (Int×D)}{g:List (Key×V)},Rkk K H φ ds g->Rkk K (upd H x o) (φ++ψ) ds g
 |[],_,h=>h
 |(k,d)::ds,_,h=>by
  obtain⟨v,r,rfl,p,s⟩:=h;exact⟨v,r,U,Rl.chx hx t j p,Rkk.chx s⟩
theorem Rfs.chx:∀ {ds:List (Str×W)}{g:List (Str×V)},Rfs K H φ ds g->Rfs K (upd H x o) (φ++ψ) ds g
 |[],_,h=>h
 |(k,d)::ds,_,h=>by
  obtain⟨v,r,rfl,p,s⟩:=h;exact⟨v,r,U,Rw.chx hx t j p,Rfs.chx s⟩
theorem Rc.chx (B:a≠x) (h:Rc K H φ k a c):Rc K (upd H x o) (φ++ψ) k a c :=by
 cases c with
 |l ds=>obtain⟨g,q,r⟩:=h;exact⟨g,by rw[upd_ne B];exact q,Rls.chx hx t j r⟩
 |n ds=>obtain⟨g,q,r,b⟩:=h;exact⟨g,by rw[upd_ne B];exact q,Rws.chx hx t j r,b⟩
 |m ds=>obtain⟨g,q,r⟩:=h;exact⟨g,by rw[upd_ne B];exact q,Rkv.chx hx t j r⟩
 |k ds=>obtain⟨g,q,r⟩:=h;exact⟨g,by rw[upd_ne B];exact q,Rkk.chx hx t j r⟩
 |o ds=>obtain⟨C',P,g,q,r,b⟩:=h;exact⟨C',P,g,by rw[upd_ne B];exact q,Rfs.chx hx t j r,b⟩
theorem Er.chx (h:Er K H φ env L):Er K (upd H x o) (φ++ψ) env L :=
 ⟨h.len,λi w e=>let ⟨v,e1,r⟩:=h.at_ i w e;⟨v,e1,Rw.chx hx t j r⟩⟩
end
section
variable {K:qae}{H:Hp}{φ:List Addr}{x Cl i:Addr}{xs:List (Str×V)}{o:HO}{st:Sto}
theorem Sr.chx0 (S:Sr K H φ st) (hx:H x=some (.ins Cl i xs)) (g:xs.length<=5) (hn:x∉φ):Sr K (upd H x o) φ st:=by
 refine⟨S.nd,S.len,λn a c d e=>?_⟩
 have:=Rc.chx (o:=o) (ψ:=[]) hx g (λa z=>nomatch z) (λz=>hn (z ▸ qbK d)) (S.at_ n a c d e)
 rw[(qbR _)]at this;exact this
theorem Sr.chx1 (S:Sr K H φ st) (hx:H x=some (.ins Cl i xs)) (g:xs.length<=5) (hn:x∉φ) (l:Rc K (upd H x o) (φ++[x]) st.length x c):Sr K (upd H x o) (φ++[x]) (st++[c]) :=by
 refine⟨qcy.mpr ⟨S.nd,qb0.mpr ⟨qbx,qcX⟩,λa j b hb z=>by rw[qao.mp hb]at z;exact hn (z ▸ j)⟩,by rw[qau,qau,S.len];rfl,λn a m d e=>?_⟩;by_cases h:n<φ.length
 ·rw[qaC h]at d
  rw[qaC (by rw[<-S.len];exact h)]at e;exact Rc.chx hx g (λa z=>qao.mp z) (λz=>hn (z ▸ qbK d)) (S.at_ n a m d e)
 ·have k:=(qas.mp d).1
  rw[qau,qcm]at k;have f:n=φ.length:=by lia
  subst f;rw[qaK (qan _),qd4]at d;rw[S.len,qaK (qan _),qd4]at e;cases d;cases e;rw[S.len];exact l
end
noncomputable def rS:List (Str×Ef)->Ev->Sto->Option (List (Str×W)×Sto)
 |[],_,st=>some ([],st)
 |(f,g)::r,env,st=>(g env st).bind λx=>(rS r env x.2).map λy=>((f,x.1)::y.1,y.2)
structure FwX (x:Addr) (φ φ':List Addr) (H H':Hp):Prop where
 ext:∃ ψ,φ'=φ++ψ/\∀ a∈ψ,H a=none\/a=x
 keep:∀ b o,b∉φ->b≠x->H b=some o->H' b=some o
 there:∀ b o,H b=some o->∃ o',H' b=some o'
theorem FwX.pre (hx:H x=some m) (hn:x∉a) (f:Fw φ a H H1) (g:FwX x a i (upd H1 x o) H2):FwX x φ i H H2 :=by
 obtain⟨ψ,rfl,k⟩:=f.ext;obtain⟨p,rfl,n⟩:=g.ext;have l:∀ b u,H b=some u->∃ d,upd H1 x o b=some d:=λb u h=>by
  by_cases z:b=x
  ·exact⟨o,by rw[z,upd_same]⟩
  ·obtain⟨d,h'⟩:=f.there b u h
   exact⟨d,by rw[upd_ne z];exact h'⟩
 refine⟨⟨_,by rw[qbl],λc j=>?_⟩,λc u j e h=>?_,λc u h=>?_⟩
 ·rcases qaV.mp j with z|z
  ·exact .inl (k c z)
  ·rcases n c z with q|q
   ·left
    cases q':H c with
    |none=>rfl
    |some u=>
     obtain⟨d,h'⟩:=l c u q';rw[q]at h';cases h'
   ·exact .inr q
 ·refine g.keep c u (λz=>?_) e (by rw[upd_ne e];exact f.keep c u j h)
  rcases qaV.mp z with z|z
  ·exact j z
  ·rw[k c z]at h;cases h
 ·obtain⟨d,h'⟩:=l c u h
  exact g.there c d h'
def Iy (K:qae) (g:List (Str×Ef)) (env:Ev) (st:Sto) (y:List (Str×W)×Sto):TS:=λD b H=>∃ φ x Cl c xs fs,Er K H φ env b/\Sr K H φ st/\b[0]?=some (some (.ref x))/\x∉φ/\H x=some (.ins Cl c xs)/\Rfs K H φ fs xs/\
 Cls K Cl/\(∀ p∈fs,cj K Cl p.1)/\(∀ p∈g,cj K Cl p.1)/\fs.length+g.length=6/\(∀ p∈g,p.1∉fs.map (·.1))/\(g.map (·.1)).Nodup/\
 ∀ H' a,FwX x φ a H H'->Sr K H' a (y.2++[.o (fs++y.1)])->a[y.2.length]?=some x->D.nx b H'
structure INI (K:qae) (X:Cx) (ss:List Stmt) (g:List (Str×Ef)):Prop where
 run:∀ env st y,rS g env st=some y->PSs X ss (Iy K g env st y)
section
variable {K:qae}{X:Cx}{e:Expr}{fe:Ef}{f:Str}{ss:List Stmt}{g:List (Str×Ef)}{pos c p1:Pos}
theorem ut {st}(Q:X.N[0]?=some ("self" : Str)) (O:Vis X.env.scope "self") (N:IE K X e fe) (hx:fe env st=some (w,s1)) (L:X.K=K)
  (M:qcj e (some (.Attribute (.Name "self" p1) f c)) pos.line X.env=pure false) :
  PS X (.Assign [.Attribute (.Name "self" p1) f c] e pos) (λD J H=>∃ φ x Cl j xs,Er K H φ env J/\Sr K H φ st/\J[0]?=some (some (.ref x))/\x ∉ φ/\H x=some (.ins Cl j xs)/\Cls K Cl/\cj K Cl f/\xs.length<=5/\f ∉ xs.map (·.1)/\
   ∀ v H1 d,Fw φ d H H1->Sr K H1 d s1->Rw K H1 d w v->x∉d->H1 x=some (.ins Cl j xs)->D.nx J (upd H1 x (.ins Cl j (xs++[(f,v)])))) :=by
 subst L;refine (AI (jO Q O) (N.run _ _ _ hx) M).imp ?_
 rintro D J H ⟨φ,x,Cl,j,xs,F,A,G,C,r,n,E,S,u,q⟩
 refine⟨φ,F,A,λv H1 d l k I=>⟨_,G,x,Cl,j,xs,U,l.keep _ _ C r,n,E,by lia,?_⟩⟩;rw[u5 u];exact q v H1 d l k I (l.nin C r) (l.keep _ _ C r)
theorem B6 (Q:X.N[0]?=some ("self" : Str)) (O:Vis X.env.scope "self") (N:IE K X e fe) (L:X.K=K:=by rfl)
  (M:qcj e (some (.Attribute (.Name "self" p1) f c)) pos.line X.env=pure false:=by rfl):INI K X [.Assign [.Attribute (.Name "self" p1) f c] e pos] [(f,fe)]:=by
 refine⟨λenv st y s=>?_⟩;simp only[rS,qaa,qap]at s;obtain⟨⟨w,s1⟩,hx,s⟩:=s;cases s;refine (xK (ut Q O N hx L M)).imp ?_
 rintro D J H ⟨φ,x,Cl,j,xs,fs,F,A,G,C,r,n,E,S,u,T,R,t,q⟩
 have hl:xs.length=5:=by rw[<-n.length];simpa using T
 have Y:f∉xs.map (·.1):=by rw[n.keys];exact R _ qag
 refine⟨φ,x,Cl,j,xs,F,A,G,C,r,E,u _ qag,by lia,Y,λv H1 d l k I hn i=>?_⟩;have r1:=n.fw A l;have w2:=Rw.chx (o:=.ins Cl j (xs++[(f,v)])) i (by lia) (λa z=>qao.mp z) I
 refine q _ _ ?_ (k.chx1 i (by lia) hn ⟨Cl,j,_,upd_same,Rfs.snoc w2 (Rfs.chx (o:=.ins Cl j (xs++[(f,v)])) (ψ:=[x]) i (by lia) (λa z=>qao.mp z) r1),λm hm=>by rw [<-k.len];exact (Rfs.snoc (f:=f) I r1).mem hm,E,λp B=>by
  rcases qaV.mp B with z|z
  ·exact S p z
  ·rw[qao.mp z];exact u _ qag⟩) (by rw[<-k.len,qaK (qan _),qd4];rfl)
 refine FwX.pre r hn l ⟨⟨_,U,λa z=>.inr (qao.mp z)⟩,λb o _ _ h=>h,λb o h=>⟨o,h⟩⟩
theorem ie (Q:X.N[0]?=some ("self" : Str)) (O:Vis X.env.scope "self") (N:IE K X e fe) (hr:INI K X ss g) (hg:g≠[]:=by intro z;cases z) (L:X.K=K:=by rfl)
  (M:qcj e (some (.Attribute (.Name "self" p1) f c)) pos.line X.env=pure false:=by rfl):INI K X (.Assign [.Attribute (.Name "self" p1) f c] e pos::ss) ((f,fe)::g):=by
 refine⟨λenv st y s=>?_⟩;simp only[rS,qaa]at s;obtain⟨⟨w,s1⟩,hx,s⟩:=s;obtain⟨y',V,rfl⟩:=qad.mp s;refine (dc (ut Q O N hx L M) (hr.run _ _ _ V)).imp ?_
 rintro D J H ⟨φ,x,Cl,j,xs,fs,F,A,G,C,r,n,E,S,u,T,R,t,q⟩
 have hg1:=List.length_pos_iff.mpr hg;have hl:xs.length<=4:=by rw[<-n.length];rw[qam]at T;lia
 have Y:f∉xs.map (·.1):=by rw[n.keys];exact R _ qag
 refine⟨φ,x,Cl,j,xs,F,A,G,C,r,E,u _ qag,by lia,Y,λv H1 d l k I hn i=>?_⟩;have r2:=Rfs.chx (o:=.ins Cl j (xs++[(f,v)])) (ψ:=[]) i (by lia) (λa z=>nomatch z) (n.fw A l)
 have w2:=Rw.chx (o:=.ins Cl j (xs++[(f,v)])) (ψ:=[]) i (by lia) (λa z=>nomatch z) I
 have P:=Er.chx (o:=.ins Cl j (xs++[(f,v)])) (ψ:=[]) i (by lia) (λa z=>nomatch z) (F.fw A l)
 rw[(qbR _)]at r2 w2 P;rw[qat,qb0]at t;refine⟨d,x,Cl,j,_,_,P,k.chx0 i (by lia) hn,G,hn,upd_same,Rfs.snoc w2 r2,E,λp B=>?_,λp B=>u p (qah _ B),by rw[qau,qcm];rw[qam]at T;lia,λp B z=>?_,t.2,λH' φ' fx S' ex=>?_⟩
 ·rcases qaV.mp B with z|z
  ·exact S p z
  ·rw[qao.mp z];exact u _ qag
 ·rw[qbI]at z
  rcases qaV.mp z with z|z
  ·exact R p (qah _ B) z
  ·rw[qat,qdY,qao]at z
   exact t.1 (z ▸ qdP B)
 ·rw[qbl]at S'
  exact q H' φ' (FwX.pre r hn l fx) S' ex
end
def Dh (K:qae) (n:Nat) (ps:Nat) (g:List (Str×Ef)):Sp:=λd H Q _=>∃ φ st ws y x c Cl a H1,d=.ref x::a/\ws.length+1=ps/\rS g (none::(ws.map some++qaJ (n - ps) none)) st=some y/\Rws K H1 φ ws a/\Sr K H1 φ st/\H1 x=none/\H1 c=none/\c≠x/\
 H=upd (upd H1 c (.own x)) x (.ins Cl c [])/\Cls K Cl/\(∀ p∈g,cj K Cl p.1)/\g.length=6/\(g.map (·.1)).Nodup/\∀ H' b,Fw φ b H1 H'->Sr K H' b (y.2++[.o y.1])->b[y.2.length]?=some x->Q .non H'
theorem Gg {K}{st}(F:Fun K x c st f fd) (S:cf N ps (ao st)) (hN:ps.length<=N.length)
  (hb:∀ (j) (A) (outer) (s) (H) (E),bj k (A.deeper (qex c (ao st) s.heap.objs.size f j))->INI K (fq CX0 P w K mg base N c (ao st) f j A outer s H E).nox (aW st) g) :
  dm P w K mg base CX0 (k+1) f fd ps (Dh K N.length ps.length g) :=by
 refine F.ok S (λO H Q E h=>?_) λj A outer s H O Q E T h=>?_
 ·obtain⟨φ,st,ws,y,x,n,Cl,l,H1,rfl,u,e,rw,_⟩:=h
  rw[qam,<-rw.length,u]
 ·obtain⟨φ,W,ws,y,x,n,Cl,l,H1,rfl,u,e,rw,S',hx,hd,m,rfl,R,hA,M,t,q⟩:=h
  refine⟨_,(hb j A outer s _ E T).run _ _ _ e,φ,x,Cl,n,_,[],?_,?_,?_,?_,upd_same,U,R,λp X=>(nomatch X),hA,by simpa using M,λp _ z=>(nomatch z),t,λH' C B S2 ex=>?_⟩
  ·have r:aQ H1 (upd (upd H1 n (.own x)) x (.ins Cl n [])):=(aQ.new hd _).trans (aQ.new (by rw[upd_ne (qbF m)];exact hx) _)
   have G:=nK (N:=N) (ws:=.d .non::ws) ⟨_,l,U,U,(rw.fw S' (Fw.same r))⟩ (by exact u);refine⟨?_,λi w D=>?_⟩
   ·have:=G.len
    unfold iP at this ⊢
    simp at this ⊢
    lia
   ·cases i with
    |zero=>cases D
    |succ i=>
     obtain⟨v,I,J⟩:=G.at_ (i+1) w D;refine⟨v,?_,J⟩;unfold iP at I ⊢;simpa using I
  ·exact S'.same ((aQ.new hd _).trans (aQ.new (by rw[upd_ne (qbF m)];exact hx) _))
  ·rfl
  ·exact S'.nin hx
  ·refine q H' C ?_ S2 ex
   obtain⟨ψ,rfl,L⟩:=B.ext;have r:aQ H1 (upd (upd H1 n (.own x)) x (.ins Cl n [])):=(aQ.new hd _).trans (aQ.new (by rw[upd_ne (qbF m)];exact hx) _);refine⟨⟨ψ,U,λa V=>?_⟩,λb o hb h=>?_,λb o h=>B.there b o (r b o h)⟩
   ·rcases L a V with z|z
    ·cases q':H1 a with
     |none=>rfl
     |some o=>rw[r a o q']at z;cases z
    ·rw[z];exact hx
   ·exact B.keep b o hb (λz=>by rw[z,hx]at h;cases h) (r b o h)
def nO (n ps:Nat) (g:List (Str×Ef)) (a:Af):Ef
 |env,st=>(a env st).bind λr=>if r.1.length+1=ps then (rS g (none::(r.1.map some++qaJ (n - ps) none)) r.2).map λy=>(.h y.2.length,y.2++[.o y.1]) else none
theorem B5 {K}{ Cl}{N :List Str}{p pos}(M:Mk X.K Cl m) (F:dm X.prog X.w X.K X.mg X.base CX0 j m fd ps (Dh K N.length ps.length g)) (b:j<=k) (C:bj (k+1) X.A) (hg:Gl X x) (hm:X.mg x=some (.ref Cl)) (hb:cY X.K fd ps [])
  (w:Cls K Cl) (hA:∀ p∈g,cj K Cl p.1) (s:g.length=6) (a:(g.map (·.1)).Nodup)
  (D:IA K X (e::es) l) (d:(x==("__debug__"))=false:=by decide) (o:ay e=true:=by rfl) (J:es.all ay=true:=by rfl) :
  IE K X (.Call (.Name x p) (e::es) [] pos) (nO N.length ps.length g l) :=by
 refine⟨λenv st r h=>?_⟩;simp only[nO,qaa]at h;obtain⟨y,I,h⟩:=h;split at h
 case isFalse=>cases h
 rename_i v;obtain⟨z,hz,rfl⟩:=qad.mp h;refine (CM M (F.mono b) C hg hm hb .nil Aq (D.run _ _ _ I) d (aP o) (bg J)).imp ?_
 rintro L H Q ⟨φ,n,B,q⟩
 refine⟨φ,n,B,λu H1 c t s1 E=>λx G hx hd i=>?_⟩;rw[qbR];refine⟨c,_,_,z,x,G,Cl,u,H1,U,v,hz,E,s1,hx,hd,i,U,w,hA,s,a,λH' f A S2 ex=>⟨U,?_⟩⟩;exact q _ H' f (t.trans A) S2 ⟨x,ex,U⟩
noncomputable def vwF (st:Sto):List (Str×W)->Option (List D)
 |[]=>some []
 |(_,.d x)::r=>(vwF st r).map λy=>x::y
 |(_,.h m)::r=>(lg st m).bind λds=>(vwF st r).map λy=>.lst ds::y
def vwW (st:Sto):W->Option W
 |.d x=>some (.d x)
 |.h n=>match st[n]? with
  |some (.o fs)=>if 5<fs.length then (vwF st fs).map λds=>.d (.ob (fs.map (·.1)) ds) else none
  |some (.l ds)=>some (.d (.lst ds))
  |_=>none
noncomputable def vwA (st:Sto):List W->Option (List W)
 |[]=>some []
 |w::ws=>(vwW st w).bind λx=>(vwA st ws).map λy=>x::y
mutual
noncomputable def okT:D->Bool
 |.non=>true
 |.bl _=>true
 |.int _=>true
 |.str _=>true
 |.tup ds=>wk ds
 |_=>false
noncomputable def wk:List D->Bool
 |[]=>true
 |d::ds=>okT d&&wk ds
end
section
variable {K:qae}{H:Hp}{φ φ':List Addr}
mutual
theorem Rl.any:∀ {d:D}{v:V},okT d=true->Rl K H φ d v->Rl K H φ' d v
 |.non,_,_,h=>h
 |.bl _,_,_,h=>h
 |.int _,_,_,h=>h
 |.str _,_,_,h=>h
 |.tup ds,_,o,h=>by
  obtain⟨a,vs,rfl,h1,h2⟩:=h;exact⟨a,vs,U,h1,Rls.any (by rw[okT]at o;exact o) h2⟩
 |.ty _,_,o,_=>by rw[okT]at o<;>first|cases o|(intros;simp)
 |.dct,_,o,_=>by rw[okT]at o<;>first|cases o|(intros;simp)
 |.scr _,_,o,_=>by rw[okT]at o<;>first|cases o|(intros;simp)
 |.lst _,_,o,_=>by rw[okT]at o<;>first|cases o|(intros;simp)
 |.ob _ _,_,o,_=>by rw[okT]at o<;>first|cases o|(intros;simp)
theorem Rls.any:∀ {ds:List D}{vs:List V},wk ds=true->Rls K H φ ds vs->Rls K H φ' ds vs
 |[],_,_,h=>h
 |d::ds,_,o,h=>by
  rw[wk,qa0]at o;obtain⟨v,r,rfl,h1,h2⟩:=h;exact⟨v,r,U,Rl.any o.1 h1,Rls.any o.2 h2⟩
end
theorem Rl.bare (h:Rl K H φ d v):Rl K H [] d v :=Rl.less h
theorem Rls.bare (h:Rls K H φ d v):Rls K H [] d v :=Rls.less h
theorem qS:∀ {fs:List (Str×W)}{vs:List (Str×V)},Rfs K H φ fs vs->vs=(fs.map (·.1)).zip (vs.map (·.2))
 |[],vs,r=>by cases r;rfl
 |(n,x)::fs,vs,r=>by
  obtain⟨v,l,rfl,c,e⟩:=r;rw[qat,qat,qde,<-qS e]
theorem sW {st} (S:Sr K H φ st):∀ {fs}{vs}{ds},Rfs K H φ fs vs->vwF st fs=some ds->Rls K H [] ds (vs.map (·.2))
 |[],vs,ds,r,h=>by cases r;cases h;rfl
 |(n,.d x)::fs,vs,ds,r,h=>by
  obtain⟨v,l,rfl,c,e⟩:=r;obtain⟨y,i,rfl⟩:=qad.mp h;exact⟨v,_,U,Rl.bare c,sW S e i⟩
 |(n,.h m)::fs,vs,ds,r,h=>by
  obtain⟨v,l,rfl,c,e⟩:=r;obtain⟨es,s,h⟩:=qaa.mp h;obtain⟨y,i,rfl⟩:=qad.mp h;obtain⟨a,k,rfl⟩:=c;obtain⟨j,B,A⟩:=S.atl m a es k s;exact⟨_,_,U,⟨a,j,U,qbx,.inl B,Rls.bare A⟩,sW S e i⟩
theorem xZ {st} (S:Sr K H φ st):∀ {ws}{vs}{ws'},Rws K H φ ws vs->vwA st ws=some ws'->Rws K H [] ws' vs
 |[],vs,ws',r,h=>by cases h;exact r
 |w::ws,vs,ws',r,h=>by
  obtain⟨v,l,rfl,c,e⟩:=r;obtain⟨x,hx,h⟩:=qaa.mp h;obtain⟨y,i,rfl⟩:=qad.mp h;refine⟨v,l,U,?_,xZ S e i⟩;cases w with
  |d z=>cases hx;exact Rl.bare c
  |h n=>
   unfold vwW at hx;dsimp only at hx;split at hx
   ·rename_i fs t
    split at hx
    ·rename_i C
     obtain⟨ds,g,rfl⟩:=qad.mp hx;obtain⟨a,k,rfl⟩:=c;obtain⟨Cl,E,j,q,u,b,I,hA⟩:=S.at_ n a _ k t;refine⟨a,Cl,E,j,_,U,qbx,q,qS u,by rw[qaf,qaf,u.length],by rw[qaf];exact C,I,λf G=>?_,sW S u g⟩;obtain⟨p,F,rfl⟩:=qaI.mp G;exact hA p F
    ·cases hx
   ·rename_i ds g
    cases hx;obtain⟨a,k,rfl⟩:=c;obtain⟨j,B,A⟩:=S.at_ n a _ k g;exact⟨a,j,U,qbx,.inl B,Rls.bare A⟩
   ·cases hx
end
def cN (m:Fn) (a:Af):Ef
 |env,st=>(a env st).bind λr=>(vwA r.2 r.1).bind λws=>(m ws []).bind λy=>match y.1 with
 |.d x=>if okT x=true then some (.d x,r.2) else none
 |_=>none
theorem zQ {K}{pos}{p} (F:dm X.prog X.w X.K X.mg X.base CX0 j i fd ps (spI K m)) (f:j<=k) (J:bj k X.A) (hg:Gl X x) (hm:X.mg x=some (.ref i)) (M:qcC X.K (.ref i)=true) (hb:cY X.K fd ps [])
  (L:IA K X (e::es) t) (s:(x==("__debug__"))=false:=by decide) (C:ay e=true:=by rfl) (P:es.all ay=true:=by rfl) :
  IE K X (.Call (.Name x p) (e::es) [] pos) (cN m t) :=by
 refine⟨λenv st r h=>?_⟩;simp only[cN,qaa]at h;obtain⟨y,O,ws,g,⟨w,S⟩,hz,h⟩:=h;cases w with
 |h n=>cases h
 |d z=>
  dsimp only at h;split at h
  case isFalse=>cases h
  rename_i hok;cases h;refine (xD (F.mono f) J hg hm M hb .nil Aq (L.run _ _ _ O) s (aP C) (bg P)).imp ?_
  rintro V H Q ⟨φ,B,I,q⟩
  refine⟨φ,B,I,λT H1 l E s1 N=>?_⟩;show spI K m _ H1 Q E0;rw[qbR];refine⟨_,_,ws,_,hz,xZ s1 N g,⟨qcX,U,λn a c A _=>by cases A⟩,λv H2 D G R w2=>?_⟩;have u:=λb o h=>G.keep b o qbx h;exact q v H2 l (E.trans (Fw.same u)) (s1.same u) (Rl.any hok w2)
theorem Rls.flat {K}{H H'}{φ c}:∀ {ds}{e},ds.all bN=true->Rls K H φ ds e->Rls K H' c ds e
 |[],_,_,h=>h
 |d::ds,_,o,h=>by
  rw[qbw,qa0]at o;obtain⟨v,r,rfl,a,f⟩:=h;refine⟨v,r,U,?_,Rls.flat o.2 f⟩;cases d with
  |non=>exact a
  |bl b=>exact a
  |int b=>exact a
  |str b=>exact a
  |_=>exact absurd o.1 (by simp[bN])
def i3 (b f h g e:Nat) (fl:Lf):Sf
 |env,st=>(fl env st).bind λr=>match env.getD f none,env.getD h none,env.getD g none,env.getD e none with
 |some (.d (.int p)),some (.d (.int c)),some (.d (.lst ts)),some (.d a)=>(ixN r.1.length p).bind λj=>(ixN ts.length c).bind λi=>if ts.length<=1000000/\b<env.length/\ts.all bN=true then some (.nx (env.set b (some (.d (.lst (r.1.set j (.lst (ts.set i a))))))) r.2) else none
 |_,_,_,_=>none
theorem mM {env:Ev}(h:env.getD i none=some w):env[i]?=some (some w) :=by
 rw[qfT]at h;cases q:env[i]? with
 |none=>rw[q]at h;cases h
 |some o=>rw[q]at h;rw[show o=some w from h]
theorem Ca {v:α} (h:ixN xs.length i=some j) (a:xs[j]?=some v):atI xs i=some v :=by
 unfold atI;rw[h];exact a
theorem ED (h:ixN n i=some j):j<n :=(mN h).2.1
structure ISL (K:qae) (X:Cx) (s:Stmt) (i0:Nat) (fl:Lf):Prop where
 run:∀ env st r,fl env st=some r->PS X s (λD σ H=>∃ φ,Er K H φ env σ/\Sr K H φ st/\∀ a vs H1 φ',Fw φ φ' H H1->Sr K H1 φ' r.2->H1 a=none->Rls K H1 φ' r.1 vs->D.nx (σ.set i0 (some (.ref a))) (upd H1 a (.lst vs)))
theorem EB {K}{ e}
  (u:X.N.Nodup) (t:X.N[y]?=some i) (v:Loc X.env.scope i) (S:cS X b Nc (dH k js)) (J:X.calm=true) (o:∀ j∈nP g,j<k) (hi:II K X tg iter z)
  (hg:∀ a s H C c,PG (lcX X b a Nc s H C c) tg (tG K g)) (G:∀ a s H C c,ITs K (lcX X b a Nc s H C c) f tt) (E:∀ a s H C c,IE K (lcX X b a Nc s H C c) h te)
  (hsw:qcj (.ListComp h [⟨tg,iter,f,0⟩] b pos) (some (.Name i w)) e.line X.env=pure true:=by rfl)
  (p:X.fn i=true\/X.env.scope.names.lookup i=some .local:=by first|exact .inl U|exact .inr U|assumption)
  (B:∀ x,qbt iter X.env x=pure x:=by intro _;rfl):ISL K X (.Assign [.Name i w] (.ListComp h [⟨tg,iter,f,0⟩] b pos) e) y (iLc k js z g tt te) :=by
 refine⟨λenv st r m=>?_⟩;simp only[iLc,qaa]at m;obtain⟨⟨ds,s1⟩,I,m⟩:=m;have d:=m;by_cases n:¬ ds.length<=1000000
 ·rw[iFN n]at d;cases d
 have l:ds.length<=1000000:=by lia
 rw[iFP l]at d;refine (AK u t v S J (hi.run _ _ _ I) hg (λa s H C c=>(G a s H C c).run) (λa s H C c=>(E a s H C c).any) hsw p B).imp ?_
 rintro D L H ⟨φ,A,F,q⟩
 exact v4 o l d L H _ ⟨φ,A,F,q⟩
section
variable {K:qae}{X:Cx}{W:Stmt}{m t E G I:Str}{l ip ic Y T:Nat}{comp:Expr}{fl:Lf}{ss:List Stmt}{gb:Sf}{p1 p2 p3 p4 p5 p6 p7 p8 p9 q1 q2 q3 q4 q5 q6 q7:Pos}
theorem fF (hN:X.N.Nodup) (nl:X.N[l]?=some m) (np:X.N[ip]?=some t) (nc:X.N[ic]?=some E) (nt:X.N[Y]?=some G) (na:X.N[T]?=some I)
  (ll:Loc X.env.scope m) (vl:Vis X.env.scope m) (vp:Vis X.env.scope t) (vc:Vis X.env.scope E) (vt:Vis X.env.scope G) (va:Vis X.env.scope I) (d1:l≠ip) (d2:l≠ic) (d3:l≠Y) (d4:l≠T)
  (bl:(m==("__debug__"))=false) (bp:(t==("__debug__"))=false) (bc:(E==("__debug__"))=false) (bt:(G==("__debug__"))=false) (ba:(I==("__debug__"))=false)
  (el:(m==("__classdict__"))=false) (ep:(t==("__classdict__"))=false) (ec:(E==("__classdict__"))=false) (et:(G==("__classdict__"))=false) (ea:(I==("__classdict__"))=false)
  (L:ISL K X W l fl) (hgL:Gl X "list") (hmL:X.mg "list" = none) (P:ISs K X ss gb)
  (hs2:qdt [.Subscript (.Name m p3) (.Name t p4) p5] (.Call (.Name "list" p6) [.Name G p7] [] p8) p9.line X.env=pure false) (hw2:qdu [.Subscript (.Name m p3) (.Name t p4) p5] (.Call (.Name "list" p6) [.Name G p7] [] p8) X.env=pure none)
  (hs3:qdt [.Subscript (.Subscript (.Name m q1) (.Name t q2) q3) (.Name E q4) q5] (.Name I q6) q7.line X.env=pure false) (hw3:qdu [.Subscript (.Subscript (.Name m q1) (.Name t q2) q3) (.Name E q4) q5] (.Name I q6) X.env=pure none) (hK:X.K=K) :
  ISs K X (W::.Assign [.Subscript (.Name m p3) (.Name t p4) p5] (.Call (.Name "list" p6) [.Name G p7] [] p8) p9::.Assign [.Subscript (.Subscript (.Name m q1) (.Name t q2) q3) (.Name E q4) q5] (.Name I q6) q7::ss) (ag (i3 l ip ic Y T fl) gb) :=by
 subst hK;refine⟨λenv st r hr=>?_⟩;simp only[ag,i3,qaa]at hr;obtain⟨r1,⟨⟨ds,s1⟩,hfl,g⟩,hr⟩:=hr;split at g
 case h_2=>cases g
 rename_i p c ts a hp hc ht ha';simp only[qaa]at g;obtain⟨j,hj,i,hi,g⟩:=g;split at g
 case isFalse=>cases g
 rename_i hz;cases g;have pl:∀ {q:Pos},PE X (.Name m q) (vh l):=λ{q}=>jO nl vl bl el;have pp:∀ {q:Pos},PE X (.Name t q) (vh ip):=λ{q}=>jO np vp bp ep;have pc:∀ {q:Pos},PE X (.Name E q) (vh ic):=λ{q}=>jO nc vc bc ec;have pt:∀ {q:Pos},PE X (.Name G q) (vh Y):=λ{q}=>jO nt vt bt et;have pa:∀ {q:Pos},PE X (.Name I q) (vh T):=λ{q}=>jO na va ba ea
 refine (dc (L.run _ _ _ hfl) (dc (pi (cR ((fY (K:=X.K) U).run s1 [.d (.lst ts)] ts U) hgL hmL qaN (mS pt sB) (by decide) (by decide)) (sC pl pp kZ (mG U)) hs2 hw2 (jU U))
  (dc (pi pa (sC (Au rY pl pp (oq U)) pc kZ (mG U)) hs3 hw3 (jU U)) (P.run _ _ _ hr)))).imp ?_
 rintro D σ H ⟨φ,hE,hS,q⟩
 refine⟨φ,hE,hS,λy R H1 n f1 S1 C rl=>?_⟩;have x:=hE.fw hS f1;obtain⟨vp',gp,rp⟩:=x.at_ ip _ (mM hp);obtain⟨vc',gc,rc⟩:=x.at_ ic _ (mM hc);obtain⟨vt',gt,rt⟩:=x.at_ Y _ (mM ht);obtain⟨N,ga,ra⟩:=x.at_ T _ (mM ha');subst rp rc;have f:∀ {k:Nat}{u:V}{v:V},l≠k->σ[k]?=some _->(σ.set l (some v))[k]?=some (some u):=λ{k u v} h e=>by rw[qbA h];exact e
 -- the list's line
 refine⟨_,f d3 gt,n,S1.new C,⟨vt',_,U,?_,U⟩,λbl J H2 sm O ru=>?_⟩
 ·exact (Rl.fw S1 (Fw.new C) rt)
 have F:=sm _ _ upd_same;have A:=aK F O;have s:=rl.length.symm;have S:(σ.set l (some (.ref y)))[l]?=some (some (.ref y)):=by
  rw[qbo];rw[<-hE.len];exact hz.2.1
 refine⟨_,S,_,f d1 gp,y,R,p,j,U,U,by rw[upd_ne A];exact F,by rw[s];exact hj,?_⟩;have hjl:j<R.length:=by rw[s];exact ED hj
 refine⟨_,f d4 ga,_,S,_,f d1 gp,.inl ⟨y,_,p,.ref bl,U,U,SqL.of upd_same,Ca (j:=j) (by rw[qb6,s];exact hj) (by rw[qbo hjl]),?_⟩⟩;refine⟨_,f d2 gc,bl,J,c,i,U,U,by rw[upd_ne (qbF A),upd_same],by rw[ru.length.symm];exact hi,?_⟩;have M:aQ H1 (upd (upd (upd H2 bl (.lst J)) y (.lst (R.set j (.ref bl)))) bl (.lst (J.set i N))):=λb o h=>by
  have e1:b≠y:=λz=>by rw[z,C]at h;cases h
  have Q:=sm b o (by rw[upd_ne e1];exact h);have e2:b≠bl:=λz=>by rw[z,O]at Q;cases Q
  rw[upd_ne e2,upd_ne e1,upd_ne e2];exact Q
 dsimp only;generalize hH:upd (upd (upd H2 bl (.lst J)) y (.lst (R.set j (.ref bl)))) bl (.lst (J.set i N))=H5 at M ⊢;have ha5:H5 y=some (.lst (R.set j (.ref bl))):=by rw[<-hH,upd_ne A,upd_same]
 have hb5:H5 bl=some (.lst (J.set i N)):=by rw[<-hH,upd_same]
 have B:Fw n n H1 H5:=Fw.same M;have ru5:Rls X.K H5 n ts J:=Rls.flat hz.2.2 ru;refine⟨n,(x.fw S1 B).set l (w:=.d (.lst (ds.set j (.lst (ts.set i a))))) ?_,S1.same M,?_⟩
 ·exact⟨y,_,U,(S1.nin C),.inl ha5,Rls.set j (rl.fw S1 B) ⟨bl,_,U,(λz=>by
  obtain⟨o,ho,_⟩:=S1.lst z
  have:bl≠y:=qbF A
  have Q:H2 bl=some o:=sm bl o (by rw[upd_ne this];exact ho)
  rw[O]at Q;cases Q),.inl hb5,Rls.set i ru5 (Rl.fw S1 B ra)⟩⟩
 ·exact q.fw (f1.trans B)
end
section
variable {K:qae}{X:Cx}
def FX (_ j:Int):Prop:=0<j/\j.natAbs.log2<9000
theorem An:OpR X (qbG .FloorDiv) (rI FX λi j=>.int (i / j)):=opI λi j _ _ _ _ _ E q=>by
 obtain⟨h0,h1⟩:=E;exact floordiv_int (by lia) (by rw[qd0 i (by lia)];exact q) (.inl (PyProof.noPylong_of_log2 h1))
noncomputable def rq (_:Sto):W->W->Option D
 |.d (.int i),.d (.int j)=>if 0<j/\j.natAbs.log2<9000 then some (.int (i / j)) else none
 |_,_=>none
theorem oU:OpD K X (qbG .FloorDiv) rq:=iH (λ_ _ _=>rfl) λi j d h=>by obtain⟨c,rfl⟩:=ifS h;exact⟨An.imp λ_ _ _ _ q=>⟨i,j,q.1,q.2.1,c,q.2.2⟩,U⟩
theorem zV:bh X (.type "range") (λxs H Q=>∃ i j,xs=[.int i,.int j]/\∀ p,H p=none->Q (.ref p) (upd H p (.rng i j))) :=by
 intro J s σ H xs us Q I M h;obtain⟨i,j,rfl,q⟩:=h;cases M with
 |cons r G=>
  cases G with
  |cons r' G=>
   cases G;obtain⟨t,rfl⟩:=r;obtain⟨t',rfl⟩:=r';exact call_range_2 ⟨.ref _,_,I.laid (o:=.rng i j) (λ_ _ q=>qaj _ q) (qan _) ⟨_,_,_,qaw _ U⟩,U,q _ I.fresh⟩
theorem zT {lo}(h:ItemsOf (λi v=>∃ t,v=Value.int (lo+(i)*1) t) acc n):aI ((qai n).map λk:Nat=>V.int (lo+k)) acc.toList :=by
 obtain⟨hz,hi⟩:=h;have R:∀ (l:List Value) (k:Nat),(∀ j v,l[j]?=some v->∃ t,v=Value.int (lo+((k+j:Nat))) t)->aI ((qcP k l.length).map λk:Nat=>V.int (lo+k)) l:=by
  intro l
  induction l with
  |nil=>intro k _;exact .nil
  |cons x l ih=>
   intro k h;obtain⟨t,e⟩:=h 0 x U;refine .cons ⟨t,e⟩ (ih _ λj v P=>?_);obtain⟨t,e⟩:=h (j+1) v (by simpa using P);exact⟨t,by rw[e,show k+_=k+1+j by lia]⟩
 have:=R acc.toList 0 λj v P=>by
  obtain⟨t,e⟩:=hi j v (by simpa using P);exact⟨t,by rw[e,qc8,qbg]⟩
 rw[qdF];rw[qc3,hz]at this;exact this
theorem xq (E:X.calm=true:=by rfl):bh X (.type "list") (λxs H Q=>∃ (p:Addr) (lo:Int) (n:Nat),xs=[.ref p]/\H p=some (.rng lo (lo+(n)))/\n<=1000/\-1000000<=lo/\lo<=1000000/\∀ l,H l=none->Q (.ref l) (upd H l (.lst ((qai n).map λk:Nat=>V.int (lo+k))))) :=by
 intro J s σ H xs us Q I M h;obtain⟨p,lo,n,rfl,C,hn,l1,l2,q⟩:=h;cases M with
 |cons r G=>
  cases G;cases r;obtain⟨t,u,v,e⟩:=I.hok p _ C;refine call_list_range (I.ok.hd E) e ?_ (n:=n) ?_ (by lia) λh' tk acc c kp e' F=>?_
  ·have fl:∀ z ,-2000000<=z->z<=2000000->qeS z=true:=λz h1 h2=>by
    unfold qeS;simp only[qa0,decide_eq_true_eq];omega
   have hsz:qfi lo (lo+(n)) 1=(n):=by rw[qhi];split<;>lia
   unfold qiN;rw[hsz];simp[fl lo (by lia) (by lia),fl (lo+(n)) (by lia) (by lia),fl 1 _ _,fl (n) _ (by lia)]
  ·rw[qhi];split<;>lia
  ·exact⟨.ref s.heap.objs.size,_,I.laid kp (qan _) (show cb X.prog X.w _ h' _ (.lst _) from ⟨by rw[qaf,qar];exact jc hn,acc.toList,c,zT F,by simpa using e'⟩),U,q _ (I.hok.fresh (qan _))⟩
def yy (a:Af):Lf
 |env,st=>(a env st).bind λr=>match r.1 with
 |[.d (.int j)]=>if 0<=j/\j<=1000 then some (cG 0 j.toNat,r.2) else none
 |_=>none
def rP (a:Af):Lf
 |env,st=>(a env st).bind λr=>match r.1 with
 |[.d (.int i),.d (.int j)]=>if 0<=j - i/\j - i<=1000/\-1000000<=i/\i<=1000000 then some (cG i (j - i).toNat,r.2) else none
 |_=>none
theorem Rls.rng (lo) (n):Rls K H φ (cG lo n) ((qai n).map λk:Nat=>V.int (lo+k)) :=by
 have:cG lo n=((qai n).map λk:Nat=>lo+(k)).map D.int:=by rw[qaQ];rfl
 rw[this,show ((qai n).map λk=>V.int _)=((qai n).map λk=>lo+_).map V.int by rw[qaQ];rfl];exact Rls.of_ints _
variable {a b:Expr}{L:Af}{p1 p2 p3 p4:Pos}
theorem lD (g:Gl X "list") (A:X.mg "list" = none) (y:Gl X "range") (m:X.mg "range" = none) (ha:IA K X [a] L) (E:X.calm=true:=by rfl) (O:ay a=true:=by rfl) :
  IL K X (.Call (.Name "list" p1) [.Call (.Name "range" p2) [a] [] p3] [] p4) (yy L):=by
 refine⟨λenv st r f=>?_⟩;simp only[yy,qaa]at f;obtain⟨⟨ws,s1⟩,hw,f⟩:=f;dsimp only at f;split at f
 case h_2=>cases f
 rename_i j;split at f
 case isFalse=>cases f
 rename_i hj;cases f;refine (cR (xq E) g A qaN (mS (cR Cc y m qfl (ha.run _ _ _ hw) (by decide) (by decide) (aP O) (bg U)) sB (aP U)) (by decide) (by decide) (aP U) (bg U)).imp ?_
 rintro σ H Q ⟨φ,N,hS,q⟩
 refine⟨φ,N,hS,λvs H1 B S w w1=>?_⟩;obtain⟨v,r,rfl,r1,rfl⟩:=w1;subst r1;refine⟨j,U,λp C=>⟨p,0,j.toNat,U,?_,by lia,by lia,by lia,λl Y=>?_⟩⟩
 ·rw[upd_same,qbO,Int.toNat_of_nonneg hj.1]
 ·exact q l _ _ B (S.trans (Fw.new C)) (w.new C) Y (Rls.rng 0 j.toNat)
theorem lE (g:Gl X "list") (A:X.mg "list" = none) (y:Gl X "range") (m:X.mg "range" = none) (ha:IA K X [a,b] L) (E:X.calm=true:=by rfl) (O:ay a=true:=by rfl) (T:ay b=true:=by rfl) :
  IL K X (.Call (.Name "list" p1) [.Call (.Name "range" p2) [a,b] [] p3] [] p4) (rP L):=by
 refine⟨λenv st r f=>?_⟩;simp only[rP,qaa]at f;obtain⟨⟨ws,s1⟩,hw,f⟩:=f;dsimp only at f;split at f
 case h_2=>cases f
 rename_i i j;split at f
 case isFalse=>cases f
 cases f;refine (cR (xq E) g A qaN (mS (cR zV y m qfl (ha.run _ _ _ hw) (by decide) (by decide) (aP O) (bg (by rw[qbw,T];rfl))) sB (aP U)) (by decide) (by decide) (aP U) (bg U)).imp ?_
 rintro σ H Q ⟨φ,N,hS,q⟩
 refine⟨φ,N,hS,λvs H1 B S w w1=>?_⟩;obtain⟨v,r,rfl,r1,u,r',rfl,r2,rfl⟩:=w1;subst r1 r2;refine⟨i,j,U,λp C=>⟨p,i,(j - i).toNat,U,?_,by lia,by lia,by lia,λl Y=>?_⟩⟩
 ·rw[upd_same,show i+_=j by lia]
 ·exact q l _ _ B (S.trans (Fw.new C)) (w.new C) Y (Rls.rng i (j - i).toNat)
end
def Eg (_:Sto):List W->Option D
 |[.d (.tup ds)]=>(a7 ds).map λns=>.bl (ns.any λn=>decide (n≠0))
 |_=>none
section
variable {K:qae}{X:Cx}
theorem yj:bh X (.builtin "any") (λxs H Q=>X.calm=true/\∃ (a:Addr) (ns:List Int),xs=[.ref a]/\H a=some (.tup (ns.map V.int))/\Q (.bl (ns.any λn=>decide (n≠0))) H):=by
 intro C s T H xs D Q I k h;obtain⟨y,a,bs,rfl,M,q⟩:=h;obtain⟨P,rfl,w⟩:=iR k;cases w;obtain⟨z,m,k,p⟩:=(I.hok a _ M);have pt:=p.tup;have f:=by have:=k.length;simpa using this.symm
 refine call_any_walk (qcT pt ?_);refine⟨s.heap.objs.size,_,_,_,_,_,λi=>decide ((bs[i]?).getD 0≠0),U,Walks.tuple (A:=X.A.in1) (I.ok.hd y) s.heap.objs.size a (qaH (let ⟨_,e,_⟩:=p;qax e)) m.toArray,⟨⟨_,qaw _ U,U,U⟩,pt.push _⟩,?_,λh' N L=>?_⟩
 ·intro i v s' Q' E' E l
  have j:=by simpa using E
  have hi:=(qas.mp j).1;obtain⟨b,hb⟩:∃ b,bs[i]?=some b:=⟨bs[i]'(by lia),by simp[show i<bs.length by lia]⟩
  have:(bs.map V.int)[i]?=some (.int b):=by rw[qaz,hb];rfl
  obtain⟨u,B,F⟩:=k.get this;rw[j]at B;cases B;obtain⟨t,rfl⟩:=F;have c:Q' (decide _) s':=l;rw[hb]at c;refine qju ?_;have e:(b != 0)=decide (b≠0):=by
   by_cases h:b=0
   ·subst h;rfl
   ·rw[decide_eq_true h];simpa using h
  rw[e];exact c
 ·refine⟨_,H,I.kept (λb o e=>L b o (λz=>absurd (qax e) (by rw[qao.mp z];exact qbb _)) (qaj _ e)),?_,q⟩
  congr 1
  have:∀ n,n=bs.length->((qai n).any λi=>decide ((bs[i]?).getD 0≠0))=bs.any λn=>decide (n≠0):=by
   intro n hn;subst hn;apply qfX.mpr;rw[qfy,qfy];constructor
   ·rintro⟨i,hi,h⟩
    have g:=qaE.mp hi;refine⟨_,qbJ g,?_⟩;rw[qal g]at h;exact h
   ·rintro⟨x,hx,h⟩
    obtain⟨i,hi,rfl⟩:=List.getElem_of_mem hx;refine⟨i,qaE.mpr hi,?_⟩;rw[qal hi];exact h
  exact this _ (by simpa using f)
theorem nj (y:X.calm=true:=by rfl) (O:X.K=K:=by rfl):dZ K X (.builtin "any") Eg:=by
 refine⟨λst ws d h=>?_⟩
 match ws,h with
 |[.d (.tup ds)],h=>
  obtain⟨ns,e,rfl⟩:=qad.mp h;cases bC e;refine bh.imp yj ?_
  rintro R H Q ⟨φ,S,⟨v,r,rfl,⟨a,D,rfl,G,J⟩,rfl⟩,q⟩
  cases J.ints;exact⟨y,a,ns,U,G,q _ H (aQ.refl H) U⟩
end
section
variable {K:qae}{X:Cx}
end
structure Cal (P:qaR) (w:World) (K:qae) (mg:Str->Option Value) (base:Heap) (x:Str) (j:Nat) (m:Fn):Prop where
 ex:∃ ff fd ps,dm P w K mg base CX0 j ff fd ps (spI K m)/\mg x=some (.ref ff)/\qcC K (.ref ff)=true/\cY K fd ps []
section
variable {P:qaR}{w:World}{K:qae}{mg:Str->Option Value}{base:Heap}{x a:Str}{st:Stmt}{f:Addr}{fd:qb5}{N ps:List Str}{k j:Nat}{b:Sf}{m:Fn}
theorem ua (F:Fun K x a st f fd) (S:cf N ps (ao st))
  (hb:∀ (d) (A) (outer) (s) (H) (E),bj k (A.deeper (qex a (ao st) s.heap.objs.size f d))->(fq CX0 P w K mg base N a (ao st) f d A outer s H E).nox.N=N->(fq CX0 P w K mg base N a (ao st) f d A outer s H E).nox.env.scope.names=(ao st).names->N.Nodup->ISs K (fq CX0 P w K mg base N a (ao st) f d A outer s H E).nox (aW st) b) :
  dm P w K mg base CX0 (k+1) f fd ps (spI K (dW N.length ps.length b)) :=Gi F S λc A o s H E r=>hb c A o s H E r U U S.nd
theorem Ga (F:Fun K x a st f fd) (S:cf N ps (ao st)) (hm:mg x=some (.ref f)) (i:cY K fd ps [])
  (hb:∀ (d) (A) (outer) (s) (H) (E),bj k (A.deeper (qex a (ao st) s.heap.objs.size f d))->(fq CX0 P w K mg base N a (ao st) f d A outer s H E).nox.N=N->(fq CX0 P w K mg base N a (ao st) f d A outer s H E).nox.env.scope.names=(ao st).names->N.Nodup->ISs K (fq CX0 P w K mg base N a (ao st) f d A outer s H E).nox (aW st) b) :
  Cal P w K mg base x (k+1) (bv N.length ps.length b) :=⟨_,_,_,HP F S λc A o s H E r=>hb c A o s H E r U U S.nd,hm,F.kp,i⟩
theorem Gb (F:Fun K x a st f fd) (S:cf N ps (ao st)) (hm:mg x=some (.ref f)) (i:cY K fd ps [])
  (hb:∀ (d) (A) (outer) (s) (H) (E),bj k (A.deeper (qex a (ao st) s.heap.objs.size f d))->(fq CX0 P w K mg base N a (ao st) f d A outer s H E).nox.N=N->(fq CX0 P w K mg base N a (ao st) f d A outer s H E).nox.env.scope.names=(ao st).names->N.Nodup->ISs K (fq CX0 P w K mg base N a (ao st) f d A outer s H E).nox (aW st) b) :
  Cal P w K mg base x (k+1) (dW N.length ps.length b) :=⟨_,_,_,Gi F S λc A o s H E r=>hb c A o s H E r U U S.nd,hm,F.kp,i⟩
variable {X:Cx}{e:Expr}{es:List Expr}{pos p:Pos}{q:Af}
theorem g9 (G:X.K=K) (C:Cal X.prog X.w X.K X.mg X.base x j m) (B:bj k X.A) (t:j<=k) (hg:Gl X x) (l:IA K X (e::es) q) (h:(x==("__debug__"))=false) (n:ay e=true) (i:es.all ay=true) :
  IE K X (.Call (.Name x p) (e::es) [] pos) (ax m q) :=by
 subst G;obtain⟨_,_,_,F,hm,I,hb⟩:=C.ex;exact B4 F t B hg hm I hb l h n i
theorem fD (G:X.K=K) (C:Cal X.prog X.w X.K X.mg X.base x j m) (B:bj k X.A) (t:j<=k) (hg:Gl X x) (l:IA K X (e::es) q) (h:(x==("__debug__"))=false) (n:ay e=true) (i:es.all ay=true) :
  IE K X (.Call (.Name x p) (e::es) [] pos) (cN m q) :=by
 subst G;obtain⟨_,_,_,F,hm,I,hb⟩:=C.ex;exact zQ F t B hg hm I hb l h n i
theorem uj (z:qce x=some v) (y:dZ K X v g) (hg:Gl X x) (hm:X.mg x=none) (l:IA K X (e::es) q)
  (hn:x≠"__name__") (h:(x==("__debug__"))=false) (n:ay e=true) (i:es.all ay=true) (u:(match v with|.builtin _=>true|.type _=>true|_=>false)=true):IE K X (.Call (.Name x p) (e::es) [] pos) (iCB g q) :=by
 cases v<;>first|exact qE y hg hm z l hn h n i|exact Gq y hg hm z l hn h n i|cases u
theorem uq (z:qce x=some v) (y:sZ K X v g) (hg:Gl X x) (hm:X.mg x=none) (l:IA K X (e::es) q)
  (hn:x≠"__name__") (h:(x==("__debug__"))=false) (n:ay e=true) (i:es.all ay=true) (u:(match v with|.builtin _=>true|.type _=>true|_=>false)=true):IL K X (.Call (.Name x p) (e::es) [] pos) (iCL g q) :=by
 cases v<;>first|exact Gr y hg hm z l hn h n i|exact Dz y hg hm z l hn h n i|cases u
end
noncomputable def tgN:Expr->List Str
 |.Name x _=>[x]
 |.Tuple es _ _=>es.flatMap λe=>match e with
  |.Name x _=>[x]
  |.Tuple es _ _=>es.flatMap λe=>match e with
   |.Name x _=>[x]
   |_=>[]
  |_=>[]
 |_=>[]
def lcN (tg:Expr) (js:List Nat) (N:List Str):List Str:=tgN tg++js.map λj=>N.getD j ""
theorem mP (h:uD a ns N Nc k js=true):Nc.Nodup :=by
 unfold uD at h;simp only[qa0,decide_eq_true_eq]at h;exact h.1.1.1.2
section
variable {K:qae}{X:Cx}{tg:Expr}{pos:Pos}{a:Scope}{k:Nat}{js:List Nat}{f iter:Expr}{e:List Expr}{o:Lf}{g:Tg}{tt:Tf}{te:Ef}{ns:List (Str×qbZ)}{N:List Str}
theorem n5 (hns:X.env.scope.names=ns) (hN:X.N=N) (h:uD a ns N (lcN tg js N) k js=true) (z:a.kind=.function) (B:X.calm=true) (n:X.env.scope.kind=.function) (l:∀ j∈nP g,j<k) (hi:II K X tg iter o)
  (hg:∀ b s H C d,(lcX X a b (lcN tg js N) s H C d).N.Nodup->PG (lcX X a b (lcN tg js N) s H C d) tg (tG K g)) (y:∀ b s H C d,(lcX X a b (lcN tg js N) s H C d).env.scope.names=wv a.names ns->(lcX X a b (lcN tg js N) s H C d).N=lcN tg js N->ITs K (lcX X a b (lcN tg js N) s H C d) e tt)
  (q:∀ b s H C d,(lcX X a b (lcN tg js N) s H C d).env.scope.names=wv a.names ns->(lcX X a b (lcN tg js N) s H C d).N=lcN tg js N->IE K (lcX X a b (lcN tg js N) s H C d) f te) (p:∀ x,qbt iter X.env x=pure x) :
  IL K X (.ListComp f [⟨tg,iter,e,0⟩] a pos) (iLc k js o g tt te):=
 zR (qK ns N _ k js hns hN z h) B l hi (λc s H C d=>hg c s H C d (mP h)) (λc s H C d=>y c s H C d (ja n hns) U) (λc s H C d=>q c s H C d (ja n hns) U) p
variable {w:Nat}{m:Str}{t i:Pos}
theorem eZ (hns:X.env.scope.names=ns) (hN:X.N=N) (h:uD a ns N (lcN tg js N) k js=true) (v:X.N.Nodup) (u:X.N[w]?=some m) (A:Loc X.env.scope m) (z:a.kind=.function) (B:X.calm=true) (n:X.env.scope.kind=.function) (l:∀ j∈nP g,j<k) (hi:II K X tg iter o)
  (hg:∀ b s H C d,(lcX X a b (lcN tg js N) s H C d).N.Nodup->PG (lcX X a b (lcN tg js N) s H C d) tg (tG K g)) (y:∀ b s H C d,(lcX X a b (lcN tg js N) s H C d).env.scope.names=wv a.names ns->(lcX X a b (lcN tg js N) s H C d).N=lcN tg js N->ITs K (lcX X a b (lcN tg js N) s H C d) e tt)
  (q:∀ b s H C d,(lcX X a b (lcN tg js N) s H C d).env.scope.names=wv a.names ns->(lcX X a b (lcN tg js N) s H C d).N=lcN tg js N->IE K (lcX X a b (lcN tg js N) s H C d) f te)
  (hsw:qcj (.ListComp f [⟨tg,iter,e,0⟩] a pos) (some (.Name m t)) i.line X.env=pure true) (r:X.fn m=true\/X.env.scope.names.lookup m=some .local) (p:∀ x,qbt iter X.env x=pure x) :
  IS K X (.Assign [.Name m t] (.ListComp f [⟨tg,iter,e,0⟩] a pos) i) (aA (.nm w) (aq (iLc k js o g tt te)))/\
   IS K X (.Assign [.Name m t] (.ListComp f [⟨tg,iter,e,0⟩] a pos) i) (aA (.nm w) (bM (iLc k js o g tt te))):=
 Gu v u A (qK ns N _ k js hns hN z h) B l hi (λc s H C d=>hg c s H C d (mP h)) (λc s H C d=>y c s H C d (ja n hns) U) (λc s H C d=>q c s H C d (ja n hns) U) hsw r p
end
theorem uy {K}(h:ITW K X (.BoolOp o es pos) a):IT K X (.BoolOp o es pos) a :=EC h
theorem ad (h:a) (g:a->b):a/\b :=⟨h,g h⟩
theorem kA {K}(hns:X.env.scope.names=ns) (hN:X.N=N) (h:uD a ns N (lcN tg js N) k js=true) (p:X.N.Nodup) (o:X.N[t]?=some l) (q:Loc X.env.scope l) (z:a.kind=.function) (A:X.calm=true) (m:∀ j∈nP g,j<k) (hi:II K X tg iter u)
  (hg:∀ b s H C d,(lcX X a b (lcN tg js N) s H C d).N.Nodup->PG (lcX X a b (lcN tg js N) s H C d) tg (tG K g)) (y:∀ b s H C d,ITs K (lcX X a b (lcN tg js N) s H C d) f tt) (w:∀ b s H C d,IE K (lcX X a b (lcN tg js N) s H C d) i te)
  (hsw:qcj (.ListComp i [⟨tg,iter,f,0⟩] a pos) (some (.Name l r)) e.line X.env=pure true) (n:X.fn l=true\/X.env.scope.names.lookup l=some .local) (v:∀ x,qbt iter X.env x=pure x) :
  ISL K X (.Assign [.Name l r] (.ListComp i [⟨tg,iter,f,0⟩] a pos) e) t (iLc k js u g tt te) :=
 EB p o q (qK ns N _ k js hns hN z h) A m hi (λc s H C d=>hg c s H C d (mP h)) y w hsw n v
theorem hJ {K}{ Cl}{N :List Str}(hm:X.mg x=some (.ref Cl)) (M:Mk X.K Cl f) (F:dm X.prog X.w X.K X.mg X.base CX0 j f fd ps (Dh K N.length ps.length g)) (h:bj (k+1) X.A) (b:j<=k) (hg:Gl X x) (hb:cY X.K fd ps [])
  (o:Cls K Cl) (hA:∀ p∈g,cj K Cl p.1) (n:g.length=6) (a:(g.map (·.1)).Nodup)
  (i:IA K X (e::es) d) (c:(x==("__debug__"))=false) (m:ay e=true) (l:es.all ay=true) :
  IE K X (.Call (.Name x p) (e::es) [] pos) (nO N.length ps.length g d) :=B5 M F b h hg hm hb o hA n a i c m l
open Classical in
def lcH (n:Nat) (all:List D) (g:Tg) (tt:Tf) (te:Ef) (env:Ev):List D->Sto->Option (List D×Sto)
 |[],st=>if lg st n=some all then some ([],st) else none
 | d::ds,st=>if lg st n=some all then ((cD g (.d d) env).bind λe=>(tt e st).bind λb=>if b.1=true then (te e b.2).bind λx=>(rH [x.1]).bind λa=>(lcH n all g tt te env ds x.2).map λr=>(a++r.1,r.2)
   else lcH n all g tt te env ds b.2) else none
def mD (k:Nat) (js:List Nat) (fe:Ef) (g:Tg) (tt:Tf) (te:Ef):Lf
 |env,st=>(fe env st).bind λr=>match r.1 with
  |.h n=>(lg r.2 n).bind λds=>if ds.length<=1000000 then lcH n ds g tt te (jB k js env) ds r.2 else none
  |_=>none
section
variable {K:qae}{X:Cx}{pos:Pos}{tg:Expr}
def YlH (K:qae) (φ0:List Addr) (H0:Hp) (J:It) (n:Nat) (ds:List D):Prop:=∀ (H:Hp) (φ:List Addr) (st:Sto) (i:Nat),Fw φ0 φ H0 H->Sr K H φ st->lg st n=some ds->
 (∀ d,ds[i]?=some d->J.go i H/\∀ x H',J.yld i H x H'->aQ H H'/\Rl K H' φ d x)/\(ds.length=i->J.stop i H)
def Hs (K:qae) (env:Ev) (st:Sto) (n:Nat) (ds:List D) (s1:Sto):TI:=λB H R=>∃ φ,Er K H φ env B/\Sr K H φ st/\∀ J H' u,Fw φ u H H'->Sr K H' u s1->YlH K u H' J n ds->R J H'
theorem xF {st }(h:IE K X e f) (hK:X.K=K) (hf:f env st=some (.h n,s1)) (hn:lg s1 n=some ds):PI X tg e (Hs K env st n ds s1) :=by
 subst hK;refine (xG (h.run _ _ _ hf)).imp ?_
 rintro B H R ⟨φ,N,L,q⟩
 refine⟨φ,N,L,λv H1 o P S1 w1=>?_⟩;obtain⟨a,vs,rfl,hq,p⟩:=oK S1 w1 (show lsD s1 (.h n)=some ds from hn);refine⟨a,U,⟨vs,.inl hq⟩,q _ H1 o P S1 λH2 l t i f2 S2 hn2=>?_⟩;obtain⟨a2,W,ea,hq2,hr2⟩:=oK S2 (Rw.fw S1 f2 w1) (show lsD t (.h n)=some ds from hn2);cases ea;have hq3:SqL X.K H2 a W:=.inl hq2;refine⟨λd hd=>?_,λhi=>⟨W,hq3,by rw[<-hr2.length];exact qdb hi⟩⟩;obtain⟨v,ev,rv⟩:=hr2.get hd;refine⟨⟨W,v,hq3,ev⟩,λx H' y=>?_⟩;obtain⟨rfl,y⟩:=y
 have:=y W hq3
 rw[ev]at this;cases this;exact⟨aQ.refl _,rv⟩
theorem Cd {st }(hgi:∀ j∈nP g,j<k) (F:ds.length<=1000000) (hr':lcH n ds g tt te (jB k js env) ds s1=some r) :
  ∀ B H Q,tIL K env st r B H Q->tLc (dH k js) (Hs K env st n ds s1) (tG K g) (xR K tt) (Bl K te) B H Q :=by
 rintro B H Q ⟨φ,N,L,q⟩
 refine⟨φ,N,L,λJ H1 o P S1 yl=>?_⟩;have hE1:=(N.fw L P).emb k js;refine⟨λi m ys H2=>m=ds.length - i/\i<=ds.length/\∃ st l es M,Fw o l H1 H2/\Sr K H2 l st/\Rls K H2 l es ys/\es.length<=i/\lcH n ds g tt te (jB k js env) (ds.drop i) st=some M/\r=(es++M.1,M.2),⟨ds.length,by simp,qbr _,s1,o,[],r,Fw.refl _ _,S1,U,qan _,hr',U⟩,?_⟩
 rintro i m ys H2 ⟨rfl,hi,t,l,es,M,f2,S2,rl2,hle,G,rfl⟩
 by_cases Y:i<ds.length
 ·rw[qb4 Y]at G
  rw[lcH]at G;by_cases A:lg t n=some ds
  ·rw[iFP A]at G
   obtain⟨y1,y2⟩:=yl H2 l t i f2 S2 A;obtain⟨go,yld⟩:=y1 ds[i] (qal Y);simp only[qaa]at G;obtain⟨e3,he3,⟨kb,s3⟩,hb3,h3⟩:=G;have hz:ys.length<qaG:=by
    rw[<-rl2.length]
    have:qaG=16777216:=qcz
    lia
   refine .inr ⟨go,hz,λys' H'=>i+1<=ds.length/\∃ st l es' r2',Fw o l H1 H'/\Sr K H' l st/\Rls K H' l es' ys'/\es'.length<=i+1/\lcH n ds g tt te (jB k js env) (ds.drop (i+1)) st=some r2'/\(es++M.1,M.2)=(es'++r2'.1,r2'.2),λys' H' ⟨hn,p'⟩=>⟨ds.length - (i+1),by lia,U,hn,p'⟩,λx H' y=>?_⟩;obtain⟨sm,rx⟩:=yld x H' y;have S3:=S2.same sm;have f3:=f2.trans (Fw.same (φ:=l) sm);refine⟨l,t,jB k js env,.d ds[i],e3,hE1.fw S1 f3,S3,rx,he3,λσ' e' stay=>⟨Sub.stay stay hgi,?_⟩⟩;refine⟨e3,t,_,hb3,l,e',S3,λH4 φ4 f4 S4=>?_⟩;cases kb with
   |false=>
    rw[iFN qa1]at h3;exact B8 ⟨Y,s3,φ4,es,M,f3.trans f4,S4,(rl2.fw S2 (Fw.same sm)).fw S3 f4,by lia,h3,U⟩
   |true=>
    simp only[if_true,qaa,qad]at h3;obtain⟨x5,hx5,zs,hzs,r5,hr5,rfl⟩:=h3;refine B9 ⟨e3,s3,x5,hx5,φ4,e'.fw S3 f4,S4,λv H5 φ5 f5 S5 w5=>?_⟩;obtain⟨x5,s5⟩:=x5;cases x5 with
    |h n=>cases hzs
    |d z=>
     cases hzs;refine⟨Y,s5,φ5,es++[z],r5,(f3.trans f4).trans f5,S5,(((rl2.fw S2 (Fw.same sm)).fw S3 f4).fw S4 f5).append ⟨v,[],U,w5,U⟩,by rw[qau];simp;lia,hr5,?_⟩
     simp
  ·rw[iFN A]at G;cases G
 ·have hi':i=ds.length:=by lia
  subst hi';rw[qep,lcH]at G;by_cases A:lg t n=some ds
  ·rw[iFP A]at G
   obtain⟨y1,y2⟩:=yl H2 l t _ f2 S2 A;cases G;refine .inl ⟨y2 U,λDn hD=>?_⟩
   have:=q Dn ys H2 l (P.trans f2) S2 hD
   exact this (by simpa using rl2)
  ·rw[iFN A]at G;cases G
theorem yz {st}(p:mD k js fe g tt te env st=some r):∃ n s1 ds,fe env st=some (.h n,s1)/\lg s1 n=some ds/\ds.length<=1000000/\lcH n ds g tt te (jB k js env) ds s1=some r :=by
 simp only[mD,qaa]at p;obtain⟨⟨w,s1⟩,hy,p⟩:=p;cases w with
 |d x=>cases p
 |h n=>
  obtain⟨ds,hds,p⟩:=qaa.mp p;by_cases F:ds.length<=1000000
  ·rw[iFP F]at p
   exact⟨n,s1,ds,hy,hds,F,p⟩
  ·rw[iFN F]at p;cases p
theorem Ez { E}
  (hN0:X.N.Nodup) (hi0:X.N[i0]?=some x0) (hx0:Loc X.env.scope x0) (S:cS X c Nc (dH k js)) (hc:X.calm=true) (hgi:∀ j∈nP g,j<k) (hi:IE K X iter fe) (hK:X.K=K)
  (hg:∀ b s H C V,PG (lcX X c b Nc s H C V) tg (tG K g)) (ht:∀ b s H C V,ITs K (lcX X c b Nc s H C V) I tt) (he:∀ b s H C V,IE K (lcX X c b Nc s H C V) O te)
  (hsw:qcj (.ListComp O [⟨tg,iter,I,0⟩] c pos) (some (.Name x0 py)) E.line X.env=pure true:=by rfl)
  (hf0:X.fn x0=true\/X.env.scope.names.lookup x0=some .local:=by first|exact .inl U|exact .inr U|assumption)
  (hs:∀ x,qbt iter X.env x=pure x:=by intro _;rfl):IS K X (.Assign [.Name x0 py] (.ListComp O [⟨tg,iter,I,0⟩] c pos) E) (aA (.nm i0) (aq (mD k js fe g tt te)))/\
   IS K X (.Assign [.Name x0 py] (.ListComp O [⟨tg,iter,I,0⟩] c pos) E) (aA (.nm i0) (bM (mD k js fe g tt te))) :=by
 have key:∀ env st r0 r,mD k js fe g tt te env st=some r->(∀ B φ H (D:mU),Er K H φ env B->Sr K H φ st->yc K φ H D r0->∀ a vs H1 u,Fw φ u H H1->Sr K H1 u r.2->H1 a=none->Rls K H1 u r.1 vs->D.nx (B.set i0 (some (.ref a))) (upd H1 a (.lst vs)))->
   PS X (.Assign [.Name x0 py] (.ListComp O [⟨tg,iter,I,0⟩] c pos) E) (tS K env st r0):=by
  intro env st r0 r p h;obtain⟨n,s1,ds,hy,hds,F,hr'⟩:=yz p;refine (AK hN0 hi0 hx0 S hc (xF hi hK hy hds) hg (λb s H C V=>(ht b s H C V).run) (λb s H C V=>(he b s H C V).any) hsw hf0 hs).imp ?_
  rintro D B H ⟨φ,N,L,q⟩
  exact Cd hgi F hr' B H _ ⟨φ,N,L,h B φ H D N L q⟩
 constructor
 ·refine⟨λenv st r p=>?_⟩
  simp only[aA,aq,cD,qaa,qad]at p;obtain⟨y,⟨M,hy,rfl⟩,e',ee,rfl⟩:=p;cases ee;refine key _ _ _ _ hy λB φ H D N L q a vs H1 o P s1 T w1=>?_;exact q _ _ o (P.trans (Fw.new T)) ((((N.fw L P).fw s1 (Fw.new T))).set i0 (w:=.d (.lst M.1)) ⟨a,vs,U,s1.nin T,.inl upd_same,w1.fw s1 (Fw.new T)⟩) (s1.new T)
 ·refine⟨λenv st r p=>?_⟩
  simp only[aA,bM,cD,qaa,qad]at p;obtain⟨y,⟨M,hy,rfl⟩,e',ee,rfl⟩:=p;cases ee;refine key _ _ _ _ hy λB φ H D N L q a vs H1 o P s1 T w1=>?_;exact q _ _ (o++[a]) (P.trans (Fw.more T)) (((N.fw L P).fw s1 (Fw.more T)).set i0 (w:=.h M.2.length) ⟨a,by rw[<-s1.len];simp,U⟩) (s1.more T w1)
end
theorem cV {K}(hns:X.env.scope.names=ns) (hN:X.N=N) (h:uD a ns N (lcN tg js N) k js=true) (q:X.N.Nodup) (p:X.N[r]?=some l) (t:Loc X.env.scope l) (A:a.kind=.function) (B:X.calm=true) (u:X.env.scope.kind=.function) (m:∀ j∈nP g,j<k) (hi:IE K X iter fe) (v:X.K=K)
  (hg:∀ b s H C d,(lcX X a b (lcN tg js N) s H C d).N.Nodup->PG (lcX X a b (lcN tg js N) s H C d) tg (tG K g)) (z:∀ b s H C d,(lcX X a b (lcN tg js N) s H C d).env.scope.names=wv a.names ns->(lcX X a b (lcN tg js N) s H C d).N=lcN tg js N->ITs K (lcX X a b (lcN tg js N) s H C d) f tt)
  (y:∀ b s H C d,(lcX X a b (lcN tg js N) s H C d).env.scope.names=wv a.names ns->(lcX X a b (lcN tg js N) s H C d).N=lcN tg js N->IE K (lcX X a b (lcN tg js N) s H C d) i te)
  (hsw:qcj (.ListComp i [⟨tg,iter,f,0⟩] a pos) (some (.Name l o)) e.line X.env=pure true) (n:X.fn l=true\/X.env.scope.names.lookup l=some .local) (w:∀ x,qbt iter X.env x=pure x) :
  IS K X (.Assign [.Name l o] (.ListComp i [⟨tg,iter,f,0⟩] a pos) e) (aA (.nm r) (aq (mD k js fe g tt te)))/\
   IS K X (.Assign [.Name l o] (.ListComp i [⟨tg,iter,f,0⟩] a pos) e) (aA (.nm r) (bM (mD k js fe g tt te))) :=
 Ez q p t (qK ns N _ k js hns hN A h) B m hi v (λc s H C d=>hg c s H C d (mP h)) (λc s H C d=>z c s H C d (ja u hns) U) (λc s H C d=>y c s H C d (ja u hns) U) hsw n w
end L2
namespace L2
open PySem PySem.Spec PyProof.Rows PySem.SeqAt PySem.W
noncomputable def lQ:List D->Option (List Str)
 |[]=>some []
 |.str x::ds=>(lQ ds).map λr=>x::r
 |_=>none
theorem mj:∀ {ds:List D}{a:List Str},lQ ds=some a->ds=a.map D.str
 |[],_,h=>by cases h;rfl
 |.str x::ds,_,h=>by
  simp only[lQ,qad]at h;obtain⟨r,e,rfl⟩:=h;rw[mj e];rfl
 |.non::_,_,h=>by cases h
 |.bl _::_,_,h=>by cases h
 |.int _::_,_,h=>by cases h
 |.tup _::_,_,h=>by cases h
 |.ty _::_,_,h=>by cases h
 |.dct::_,_,h=>by cases h
 |.scr _::_,_,h=>by cases h
 |.lst _::_,_,h=>by cases h
 |.ob _ _::_,_,h=>by cases h
section
variable {K:qae}{X:Cx}{H:Hp}{φ:List Addr}
theorem Rls.strs:∀ {ns:List Str}{a},Rls K H φ (ns.map D.str) a->a=ns.map V.str
 |[],_,h=>h
 |n::ns,_,h=>by
  obtain⟨v,r,rfl,c,b⟩:=h;rw[c,Rls.strs b];rfl
end
end L2
namespace L2
open PySem PySem.Spec PyProof.Rows
section
variable {K:qae}{X:Cx}{pos:Pos}{a e:Expr}{Y:Ef}{af:Af}
def uf (o:Ef) (a:Af):Ef
 |env,st=>(o env st).bind λx=>(a env x.2).bind λr=>match x.1,r.1 with
 |.d (.lst ds),[.d (.str k)]=>(lQ ds).bind λns=>if ns.length<=1000 then (ns.idxOf? k).map λj=>(.d (.int (j:Nat)),r.2) else none
 |_,_=>none
def G8 (X:Cx):V->List V->Hp->VK->Prop:=λx xs H Q=>∃ (p:Addr) (ns:List Str) (k:Str) (j:Nat),x=.ref p/\xs=[.str k]/\SqL X.K H p (ns.map V.str)/\ns.length<=1000/\ns.idxOf? k=some j/\Q (.int (j:Nat)) H
noncomputable def Ey (k:Str):Value->Bool
 |.str s _=>s==k
 |_=>false
theorem B3:∀ {ns:List Str}{k:Str}{j:Nat},ns.idxOf? k=some j->j<ns.length/\ns[j]?=some k/\∀ i,i<j->ns[i]?≠some k:=by
 intro ns k j h;have h1:=qdf.mp h;obtain⟨O,h3,h4⟩:=h1;refine⟨O,by rw[qal O,h3],λi hi z=>?_⟩;have L:i<ns.length:=qd5 hi O;rw[qal L]at z;exact h4 i hi (qaP z)
theorem Ct:MtR X "list.index" (G8 X):=by
 intro pins s σ H x xs v us Q I rx rv h;obtain⟨p,ns,k,j,rfl,rfl,F,hl,M,q⟩:=h;cases rx;obtain⟨u,rfl,ru⟩:=rv.one;obtain⟨t,rfl⟩:=ru;obtain⟨g,r,pl,hz⟩:=I.list F;obtain⟨j1,j2,j3⟩:=B3 M;have A:g.length=ns.length:=by rw[<-r.length,qaf]
 have at_:∀ (i:Nat) (hi:i<g.length),∃ t,∃ hn:i<ns.length,g[i]=.str ns[i] t:=λi hi=>by
  obtain⟨h',q'⟩:=r.at i hi;have hn:i<ns.length:=by rw[<-A];exact hi
  have e:(ns.map V.str)[i]=V.str ns[i]:=qc1 ..;rw[e]at q';obtain⟨t,e'⟩:=q';exact⟨t,hn,e'⟩
 obtain⟨⟨c,dd,dt,sl⟩,eo,hc,n,hd⟩:=pl.isList
 simp only at hc hd
 subst hc hd;have C:j<g.length:=by rw[A];exact j1
 refine qcr qc6 ⟨_,eo,U⟩ qfQ (qfL _ _) (qfk p g.toArray n dd sl (.str k t) (Ey k) j (by simpa using C) (by lia) ?_ (λm hm G=>?_)) ⟨eo,λy hy=>?_,?_⟩
 ·obtain⟨t',hn,e⟩:=at_ j C
  rw[qal hn]at j2
  have:g.toArray[j]'(by simpa using C)=.str k t':=by simpa [qaP j2] using e
  rw[this];exact beq_self_eq_true k
 ·have N:m<g.length:=by simpa using hm
  obtain⟨t',hn,e⟩:=at_ m N
  have:g.toArray[m]'hm=.str ns[m] t':=by simpa using e
  rw[this]
  have:=j3 m G
  rw[qal hn]at this;have T:ns[m]≠k:=λz=>this (by rw[z]);show (ns[m]==k)=false;rw[beq_eq_false_iff_ne];exact T
 ·obtain⟨m,hm,rfl⟩:=qcv.mp (by simpa using hy:y∈g)
  obtain⟨t',hn,e⟩:=at_ m hm;rw[e];exact qgk _ _ _ _
 ·exact⟨.int (j:Nat),H,I.kept (t':=s.toks+1) λb o e=>e,⟨_,U⟩,q⟩
theorem kc {w} (ho:IE K X a Y) (ha:IA K X [e] af) (B:qcc a "index" X.env (eval a X.env)=eval a X.env:=by rfl)
  (l:[e].all ay=true:=by rfl) (E:(w.endLine==pos.line)=true:=by rfl) (hK:X.K=K:=by rfl) :
  IE K X (.Call (.Attribute a "index" w) [e] [] pos) (uf Y af) :=by
 subst hK;have D:ay e=true:=by rw[qbw,qa0]at l;exact l.1
 refine⟨λenv st r f=>?_⟩;simp only[uf,qaa]at f;obtain⟨⟨x,s1⟩,hx,⟨ws,s2⟩,hw,f⟩:=f
 match x,ws,f with
 |.d (.lst ds),[.d (.str k)],f=>
  simp only[qaa]at f;obtain⟨ns,hns,f⟩:=f;split at f
  case isFalse=>cases f
  rename_i hl;obtain⟨j,M,rfl⟩:=qad.mp f;have S:=mj hns;subst S;refine (Ar qd8 qc6 qf2 Ct (ho.run _ _ _ hx) (ha.run _ _ _ hw) B (pL l (by show 1<30;decide)) E (aP D) (bg U)).imp ?_
  rintro σ H Q ⟨φ,W,hS,q⟩
  refine⟨φ,W,hS,λv H1 R f1 S1 w1=>?_⟩;obtain⟨p,vs,rfl,h0,F,P⟩:=w1;have ev:=Rls.strs P;subst ev;refine⟨.inl ⟨U,_,.inl F⟩,R,W.fw hS f1,S1,λus H2 J f2 S2 w2=>?_⟩;obtain⟨y,us',rfl,ry,rfl⟩:=w2;cases (show y=.str k from ry);exact⟨p,ns,k,j,U,U,.inl (F.fw f2 h0),hl,M,q _ H2 J (f1.trans f2) S2 U⟩
end
section
variable {c:Type} [DecidableEq c]
noncomputable def gJ (a:List (c×V)) (k:c):Option V:=(a.find? λd=>decide (d.1=k)).map (·.2)
noncomputable def lN (a:List (c×V)) (k:c) (v:V):List (c×V):=
 if (a.any λd=>decide (d.1=k))=true then a.map (λd=>if d.1=k then (d.1,v) else d) else a++[(k,v)]
theorem pV {k:c} (e:p.1=k):gJ (p::r) k=some p.2 :=by simp[gJ,qdh,e]
theorem pU {k:c} (e:¬ p.1=k):gJ (p::r) k=gJ r k :=by simp[gJ,qdh,e]
theorem vo (k:c):∀ a:List (c×V),(a.any λd=>decide (d.1=k))=(gJ a k).isSome
 |[]=>rfl
 |p::r=>by
  rw[qcg];by_cases e:p.1=k
  ·simp only[pV e,decide_eq_true e,Bool.true_or,Option.isSome_some]
  ·rw[pU e,decide_eq_false e];exact vo k r
theorem md (a) (k:c) (v):(lN a k v).length<=a.length+1 :=by
 unfold lN;split
 ·rw[qaf];lia
 ·rw[qau,qam,qb7];lia
theorem mo.isSome_eq (r:mo o u):o.isSome=u.isSome :=by
 cases o with
 |none=>cases u with
  |none=>rfl
  |some _=>exact (r).elim
 |some _=>cases u with
  |none=>exact (r).elim
  |some _=>rfl
theorem KV.val (r:KV a f) (k:c):mo (gJ a k) (qhg f k) :=by
 induction r with
 |nil=>exact True.intro
 |@cons p q ps l h t i=>
  obtain⟨g,n⟩:=h;by_cases e:p.1=k
  ·have m:=g.symm.trans e
   have b:qhg (q::l) k=some q.2:=by simp[qhg,qdh,m]
   rw[pV e,b];exact n
  ·have m:¬ q.1=k:=λz=>e (g.trans z)
   have b:qhg (q::l) k=qhg l k:=by simp[qhg,qdh,m]
   rw[pU e,b];exact i
theorem KV.any (r:KV a f) (k:c):(a.any λd=>decide (d.1=k))=f.any λd=>decide (d.1=k) :=by
 induction r with
 |nil=>rfl
 |cons h t i=>rw[qcg,qcg,i,h.1]
theorem KV.repl (r:KV a f) (k:c) (j:aN y u) :
  KV (a.map λd=>if d.1=k then (d.1,y) else d) (f.map λd=>if d.1=k then (d.1,u) else d) :=by
 induction r with
 |nil=>exact .nil
 |@cons p q ps l h t i=>
  rw[qat,qat];refine .cons ?_ i;obtain⟨g,n⟩:=h;by_cases e:p.1=k
  ·rw[iFP e,iFP (g.symm.trans e)];exact⟨g,j⟩
  ·rw[iFN e,iFN (λz=>e (g.trans z))];exact⟨g,n⟩
theorem KV.put (r:KV a f) (k:c) (j:aN y u):KV (lN a k y) (stored f k u) :=by
 unfold lN stored;rw[r.any k];by_cases e:(f.any λd=>decide (d.1=k))=true
 ·rw[iFP e,iFP e];exact r.repl k j
 ·rw[iFN e,iFN e];exact qij r ⟨U,j⟩
theorem KV.length {a:List (c×V)}(r:KV a f):a.length=f.length :=qeT r
end
theorem zU (r:aN (kV k) u):(b5 P w).is k u=true :=by
 cases k with
 |inl i=>obtain⟨t,e⟩:=(r);subst e;exact uK P w i t
 |inr x=>obtain⟨t,e⟩:=(r);subst e;exact uL P w x t
theorem qH {P:qaR}{w:World}:∀ {a:List Key}{b:List Value},aI (a.map kV) b->ItemsAre (b5 P w) a b
 |[],_,r=>by cases r;exact .nil
 |k::a,_,r=>by
  cases r with
  |cons h t=>exact .cons (zU h) (qH t)
abbrev KT (H:Hp):List (List Key×V)->List (List Key×Addr×Value)->Prop:=qge λp q=>p.1=q.1/\H q.2.1=some (.tup (p.1.map kV))/\aN p.2 q.2.2
theorem KT.val (r:KT H a xs) (k):mo (gJ a k) ((atKey xs k).map (·.2)) :=by
 induction r with
 |nil=>exact True.intro
 |@cons p q ps c h t i=>
  obtain⟨d,_,g⟩:=h;by_cases e:p.1=k
  ·have b:atKey (q::c) k=some q.2:=by simp[atKey,qdh,(d.symm.trans e)]
   rw[pV e,b];exact g
  ·have f:¬ q.1=k:=λz=>e (d.trans z)
   have b:atKey (q::c) k=atKey c k:=by simp[atKey,qdh,f]
   rw[pU e,b];exact i
theorem KT.repl (r:KT H a xs) (k) (g:aN y u) :
  KT H (a.map λc=>if c.1=k then (c.1,y) else c) (xs.map (putAt k u)) :=by
 induction r with
 |nil=>exact .nil
 |@cons p q ps j h t i=>
  rw[qat];refine .cons ?_ i;obtain⟨b,d,f⟩:=h;unfold putAt;by_cases e:p.1=k
  ·rw[iFP e,iFP (b.symm.trans e)];exact⟨b,d,g⟩
  ·rw[iFN e,iFN (λz=>e (b.trans z))];exact⟨b,d,f⟩
theorem KT.put (r:KT H a xs) (k) (hb:H b=some (.tup (k.map kV))) (c:aN y u) :
  KT H (lN a k y) (storedH xs k b u) :=by
 have e:(a.any λd=>decide (d.1=k))=(atKey xs k).isSome:=by
  rw[vo,(r.val k).isSome_eq,Option.isSome_map]
 unfold lN storedH;rw[e];by_cases q:(atKey xs k).isSome=true
 ·rw[iFP q,iFP q];exact r.repl k c
 ·rw[iFN q,iFN q];exact qij r ⟨U,hb,c⟩
theorem KT.keeps (r:KT H a xs) (d:∀ b c,H b=some (.tup c)->H' b=some (.tup c)):KT H' a xs :=
 qge.mapP r λ_ _ z=>⟨z.1,d _ _ z.2.1,z.2.2⟩
section
variable {P:qaR}{w:World}{H:Hp}{h:Heap}{a:Addr}
theorem DP (ok:HOk P w H h) (e:Rd H a u):cb P w H h a u :=e.ok ok
theorem zB (ok:HOk P w H h) (e:Rd H a (.dK b)):b.length<=qaG/\(a==qcq)=false/\∃ c,KV b c/\h.DictOf (b5 P w) a c :=
 DP ok e
theorem Gd (ok:HOk P w H h) (e:H a=some (.dK b)):b.length<=qaG/\(a==qcq)=false/\∃ c,KV b c/\h.DictOf (b5 P w) a c :=zB ok (.inl e)
theorem vY (ok:HOk P w H h) (e:H a=some (.tup (j.map kV))):(qgz (b5 P w)).is h j a :=by
 obtain⟨_,i,r,o,f,g,⟨n,d⟩,_⟩:=(ok a _ e);exact⟨o,i.toArray,n,f,g,d,by simpa using qH r⟩
theorem zD (ok:HOk P w H h) (e:Rd H a (.dT b)):b.length<=qaG/\(a==qcq)=false/\
  ∃ xs,KT H b xs/\h.DictOfH (qgz (b5 P w)) a xs :=by
 obtain⟨z,y,xs,r,o,es,B,f,g,d,s,A⟩:=(DP ok e);refine⟨z,y,xs,r,o,es,B,f,g,d,s,λx hx=>?_,A⟩;have all:∀ {l:List _}{m:List _},KT H l m->∀ x∈m,(qgz (b5 P w)).is h x.1 x.2.1:=by
  intro l m q
  induction q with
  |nil=>intro x hx;exact nomatch hx
  |@cons p q ps C k t v=>
   intro x hx;rcases qav.mp hx with e|hx
   ·subst e
    exact vY ok (by rw[<-k.1];exact k.2.1)
   ·exact v x hx
 exact all r x hx
theorem Dw (ok:HOk P w H h) (e:H a=some (.dT b)):b.length<=qaG/\(a==qcq)=false/\
  ∃ xs,KT H b xs/\h.DictOfH (qgz (b5 P w)) a xs :=zD ok (.inl e)
end
def yb (H:Hp) (a:Addr) (y:V) (r:Option V):Prop:=
 (∃ c k,Rd H a (.dK c)/\y=kV k/\r=gJ c k)\/∃ c k b,Rd H a (.dT c)/\y=.ref b/\H b=some (.tup (k.map kV))/\r=gJ c k
def zg (H:Hp) (a:Addr) (y v:V) (H':Hp):Prop:=
 (∃ c k,H a=some (.dK c)/\y=kV k/\c.length<qaG/\H'=upd H a (.dK (lN c k v)))\/
 ∃ c k b,H a=some (.dT c)/\y=.ref b/\H b=some (.tup (k.map kV))/\c.length<qaG/\H'=upd H a (.dT (lN c k v))
theorem yb.t (e:H a=some (.dT c)) (d:H b=some (.tup (k.map kV))):yb H a (.ref b) (gJ c k) :=.inr ⟨c,k,b,.inl e,U,d,U⟩
theorem zg.t (e:H a=some (.dT c)) (f:H b=some (.tup (k.map kV))) (d:c.length<qaG) :
  zg H a (.ref b) v (upd H a (.dT (lN c k v))) :=.inr ⟨c,k,b,e,U,f,d,U⟩
section
variable {X:Cx}{f:List (Addr×Obj)}{t:St}{H:Hp}{s:qak}{a:Addr}{y v:V}{u r:Value}{o:Option V}{A:qa2}{E:Value->qak->Prop}
theorem Inv.big (I:Inv X f t H s):qcq<s.heap.objs.size:=by
 exact qd5 (by decide) ((I.mod.glob.keeps I.bk).lt)
theorem yp (N:A.units+1<cLine) (I:Inv X f t H s) (g:yb H a y (some v)) (F:aN y u) (h:∀ C s',Inv X f t H s'->aN v C->Q C s') :
  wpAny (model X.prog X.w) A (qe1 (.ref a) u) Q E s :=by
 rcases g with⟨d,k,e,x,l⟩|⟨d,k,b,e,x,G,l⟩
 ·subst x
  obtain⟨z,hd,B,i,j⟩:=zB I.hok e;obtain⟨C,hw,n⟩:=mo.some_of (by rw[l];exact i.val k);exact wpAny_getItem_of (zU F) j.mapOf hw (h C _ (I.tok _) n)
 ·subst x
  cases (F);obtain⟨z,hd,xs,i,j⟩:=zD I.hok e;obtain⟨C,hw,n⟩:=mo.some_of (by rw[l];exact i.val k);obtain⟨p,hp,M⟩:=qad.mp hw;refine wpAny_getItem_heap (qib N) (vY I.hok G) j hp ?_;rw[M];exact h C _ (I.tok _) n
theorem wZ (I:Inv X f t H s) (S:Mut (H a)) (D:qc9 a s.heap h') (T:∃ q,h'.get? a=some q) (new:cb X.prog X.w (upd H a ob) h' a ob) :
  Inv X f t (upd H a ob) { s with heap:=h',toks:=t' } :=
 I.write S (.inl U) (λb q hb z=>(D.2 b hb).trans z) T new
theorem Eh (z:d.length<=qaG) (hd:(a==qcq)=false) (i:KV d B) (j:h'.DictOf (b5 P w) a B) :
  cb P w H' h' a (.dK d) :=⟨z,hd,B,i,j⟩
theorem yq (N:A.units+1<cLine) (I:Inv X f t H s) (g:zg H a y v H') (F:aN y u) (O:aN v r) (h:∀ s',Inv X f t H' s'->Q () s') :
  wpAny (model X.prog X.w) A (qjF (.ref a) u r) Q E s :=by
 rcases g with⟨d,k,e,x,l,K⟩|⟨d,k,b,e,x,G,l,K⟩
 ·subst x K
  obtain⟨z,hd,B,i,j⟩:=Gd I.hok e;have hz:B.length<=qaG:=by rw[<-i.length];exact z
  have L:(lN d k v).length<=qaG:=by have:=md d k v;lia
  refine wpAny_setItem_pairs (zU F) j λh' m D=>h _ ?_;exact wZ I (by rw[e];exact True.intro) D (let ⟨q,_,_,J,_⟩:=m;⟨q,J⟩) (Eh L hd (i.put k O) m)
 ·subst x K
  cases (F);obtain⟨z,hd,xs,i,j⟩:=Dw I.hok e;have hz:xs.length<=qaG:=by rw[<-qeT i];exact z
  have L:(lN d k v).length<=qaG:=by have:=md d k v;lia
  refine wpAny_setItem_heap (qib N) (vY I.hok G) j λh' m D=>h _ ?_;obtain⟨q,es,Y,J,h2,h3,W,_,h5⟩:=m;refine wZ I (by rw[e];exact True.intro) D ⟨q,J⟩ ⟨L,hd,_,(i.put k G O).keeps λc ys R=>?_,q,es,Y,J,h2,h3,W,h5⟩;rw[upd_ne (GL R e (λz=>nomatch z))]
  exact R
end
section
variable {X:Cx}{b:List (Addr×Obj)}{d:St}{H:Hp}{s:qak}{a:Addr}{c:List (Key×V)}{k:Key}{u:Value}{A:qa2}{E:Value->qak->Prop}
end
def D0 (i:Expr):Prop:=∀ a iv,qgA i false a iv=operate [a,iv] (qe1 a iv)
theorem Dj { id}(m:typeLookup (.type T) "__getitem__" = pure (some (.builtin id))) (l:D0 a)
  (h:wpAny (model prog w) A (eval b env) (λo f=>wpAny (model prog w) A (eval a env) (λi c=>c.TypeIs o T/\wpAny (model prog w) A (qe1 o i) Q E c) E f) E s) :
  wpAny (model prog w) A (eval (.Subscript b a pos) env) Q E s :=by
 refine qiC (qcp h (λo f g=>qcp g (λi c d=>?_) λ_ _ x=>x) λ_ _ x=>x);obtain⟨k,d⟩:=d;refine qac ?_;refine qac (wpAny_specialOf k m ?_);have fin:wpAny (model prog w) A (qgA a false o i) (λr e=>wpAny (model prog w) A (letTemporaryGo b o r >>= λ_=>pure r) Q E e) E c:=by
  rw[l o i];exact wpAny_operating (qcp d (λr e j=>qac (wpAny_letTemporaryGo (qaq j))) λ_ _ x=>x)
 first
  |exact qaq (qac fin)
  |exact qac _
  |exact qac fin
theorem tY {h:St}(I:Inv X c h H s) (g:yb H a y o):s.TypeIs (.ref a) "dict" :=by
 rcases g with⟨d,k,e,_,_⟩|⟨d,k,b,e,_,_,_⟩
 ·obtain⟨_,_,i,_,f⟩:=zB I.hok e
  exact f.typeIs
 ·obtain⟨_,_,xs,_,f⟩:=zD I.hok e
  exact f.typeIs
def Hq (c ty:TE):TE:=λb H Q=>c b H λx H1=>ty b H1 λy H2=>∃ a v,x=.ref a/\yb H2 a y (some v)/\Q v H2
def Hg (c ty d:TE):TS:=λD b H=>d b H λv H1=>c b H1 λx H2=>ty b H2 λy H3=>∃ a H4,x=.ref a/\zg H3 a y v H4/\D.nx b H4
section
variable {X:Cx}{o i e c:Expr}{pos d A:Pos}{j ty B:TE}
theorem CL (w:X.A.units+1<cLine) (n:PE X o j) (hi:PE X i ty) (l:D0 i):PE X (.Subscript o i pos) (Hq j ty):=by
 intro b s f H Q I h;refine Dj PySem.F.slot_dict_getitem.lookup l (thn (n b s f H _ I h) λu s1 ⟨x,H1,I1,p,q⟩=>thn (hi b s1 f H1 _ I1 q) λiv z ⟨y,H2,I2,m,a,v,ex,g,k⟩=>?_);subst ex;obtain rfl:u=Value.ref a:=p;exact⟨tY I2 g,yp w I2 g m λK G I3 t=>⟨v,H2,I3,t,k⟩⟩
theorem CS (w:X.A.units+1<cLine) (n:PE X o j) (hi:PE X i ty) (E:PE X c B) (l:qcj c (some (.Subscript o i d)) pos.line X.env=pure false) :
  PS X (.Assign [.Subscript o i d] c pos) (Hg j ty B):=by
 intro b s f H D I h;refine wpAny_Assign_Subscript (thn (E b s f H _ I h) λr s1 ⟨v,H1,I1,C,q⟩=>thn (n b s1 f H1 _ I1 q) λu z ⟨x,H2,I2,p,k⟩=>thn (hi b z f H2 _ I2 k) λiv G ⟨y,H3,I3,m,a,H4,ex,g,F⟩=>?_) l;subst ex;obtain rfl:u=Value.ref a:=p;exact yq w I3 g m C λJ I4=>⟨f,H4,I4,F⟩
end
theorem zC (h:Heap) (hb:qcq<h.objs.size):cb P w H (h.push { cls:=.type "dict",data:=.dict #[] }) h.objs.size (.dT []) :=
 ⟨qbr _,beq_eq_false_iff_ne.mpr (qbF (qaH hb)),_,.nil,_,_,0,qaw _ U,⟨U,U,U⟩,U,U,qcX⟩
def FK:TE:=λ_ H Q=>∀ p,H p=none->Q (.ref p) (upd H p (.dT []))
section
variable {X:Cx}{pos:Pos}
theorem At:PE X (.Dict [] [] pos) FK:=λa s b H Q I h=>
 wpAny_Dict_empty ⟨.ref s.heap.objs.size,_,I.laid (λ_ _ q=>qaj _ q) (qan _) (zC s.heap I.big),U,h _ (I.hok.fresh (qan _))⟩
end
section
variable {X:Cx}{b:List (Addr×Obj)}{c:St}{H:Hp}{s:qak}{a:Addr}{y d:V}{u r:Value}{o:Option V}{A:qa2}{E:Value->qak->Prop}
end
section
variable {X:Cx}{o e f:Expr}{a b:Pos}{d ty c:TE}
end
section
variable {X:Cx}{b:List (Addr×Obj)}{d:St}{H:Hp}{s:qak}{a:Addr}{c:List (Key×V)}{A:qa2}{E:Value->qak->Prop}
end
section
variable {X:Cx}{b:List (Addr×Obj)}{c:St}{H:Hp}{s:qak}{a:Addr}{y:V}{u:Value}{A:qa2}{E:Value->qak->Prop}
end
section
variable {prog:qaR}{w:World}{A:qa2}{E:Value->qak->Prop}{s:qak}{b:Type} [DecidableEq b] {d:KeyKind prog w b}{a:Addr}{c:List (b×Value)}
end
section
variable {X:Cx}{b:List (Addr×Obj)}{d:St}{H:Hp}{s:qak}{a:Addr}{c:List (Key×V)}{k:Key}{u r:Value}{A:qa2}{E:Value->qak->Prop}{z:V}
end
section
variable {K:qae}{X:Cx}{pos:Pos}{e a b o f:Expr}{fe c h d g:Ef}
end
section
variable {K:qae}{X:Cx}
end
section
variable {b:Bool}{t:SetTable}{m d k:Nat}
end
section
variable {prog:qaR}{w:World}{A:qa2}{E:Value->qak->Prop}{s:qak}{a:Addr}{m d k:Nat}
end
section
variable {prog:qaR}{w:World}{A:qa2}{E:Value->qak->Prop}{s:qak}{a b:Addr}{m d c i:Nat}{f:Nat->Tok}
end
section
variable {prog:qaR}{w:World}{A:qa2}{E:Value->qak->Prop}{s:qak}{a b:Addr}{m d c i:Nat}{f:Nat->Tok}
end
section
variable {prog:qaR}{w:World}{A:qa2}{E:Value->qak->Prop}{s:qak}
end
section
variable {prog:qaR}{w:World}{A:qa2}{R:qjP->qak->Prop}{I:Addr}{a b:List Addr}{G:Array qin->Array qin->Prop}{P:Nat->Value->Prop}{St:Nat->qak->Prop}
end
section
variable {prog:qaR}{w:World}{A:qa2}{E:Value->qak->Prop}{s:qak}
end
section
variable {prog:qaR}{w:World}{A:qa2}{E:Value->qak->Prop}{s:qak}{a r o:Addr}{m c m2 d k b:Nat}{f:Nat->Tok}
end
section
variable {prog:qaR}{w:World}{A:qa2}{E:Value->qak->Prop}{s:qak}{a b r o:Addr}{m e m2 d k c:Nat}{f:Nat->Tok}
end
section
variable {prog:qaR}{w:World}{A:qa2}{E:Value->qak->Prop}{s:qak}{a b r o:Addr}{m e m2 d k c:Nat}{f:Nat->Tok}
end
section
variable {prog:qaR}{w:World}{A:qa2}{E:Value->qak->Prop}{s:qak}{a:Addr}{m d b:Nat}{f:Nat->Tok}
end
section
variable {K:qae}{X:Cx}{pos p:Pos}{e a b:Expr}{fe:Ef}{c d:Xf}
end
def jQ (h:Heap) (d:Addr) (es:Array qec) (a:Nat):Prop:=∃ o,h.get? d=some o/\o.ExactDict/\o.data=.dict es a
theorem jQ.at' (x:jQ h d es a) (e:∀ o,h.get? d=some o->h'.get? d=some o):jQ h' d es a :=let ⟨o,ho,r⟩:=x;⟨o,e o ho,r⟩
theorem jQ.type {s:qak}(x:jQ s.heap d es a):s.TypeIs (.ref d) "dict" :=let ⟨o,ho,hc,_⟩:=x;⟨o,ho,hc.1⟩
theorem jQ.lt (x:jQ h d es a):d<h.objs.size :=let ⟨o,ho,_⟩:=x;qax ho
section
variable {prog:qaR}{w:World}{A:qa2}{E:Value->qak->Prop}{s:qak}{d n:Addr}{es:Array qec}{i f:Nat}
theorem AU (hd:(d==qcq)=false) (hm:jQ s.heap d es f)
  (j:Q (.ref s.heap.objs.size) { s with heap:=s.heap.push { cls:=.type "dict_keyiterator",data:=.fields #[.ref d,.int 0 0,.int es.size 0,.int f 0] } }) :
  wpAny (model prog w) A (qjH (.ref d)) Q E s :=by
 have C:=hm.type;obtain⟨o,p,D,r⟩:=id hm;refine wpAny_pyIter_slot C qgc (qbW qgc C PySem.F.entry_dict_iter ?_ (PySem.F.args_dict_iter_1 _));refine qac ?_;refine qac (wpAny_notOrdered_dict C ?_);refine qaq ?_;show wpAny _ _ (qfD d >>= _) _ _ s;unfold qfD;rw[iFN (by rw[hd];exact qa1)];refine qac (qaq ?_);refine qac (qf0 p r ?_);refine qac (qgy p r ?_);refine qac (qcE (qaq ⟨_,U,"dict_keyiterator",_,⟨_,qaw _ U,U⟩,qbU.lookup,?_⟩))
 simpa [qgB] using j
theorem AV (c:s.heap.IsKeyIter n d i es.size f) (hm:jQ s.heap d es f) (u)
  (j:∀ h',h'.IsKeyIter n d (i+1) es.size f->qc9 n s.heap h'->Q (some es[i].key) { s with heap:=h' }) :
  wpAny (model prog w) A (qg2 (.ref n)) Q E s :=by
 obtain⟨o,p,D,hd⟩:=id c;obtain⟨G,k,z,l⟩:=id hm
 refine qac (qeH (qbL c.typeIs qbU
  (qbW qbU c.typeIs qeI ?_ (qeB _))))
 refine qac (qaq ?_);refine qac ?_;refine qac ?_
 first|refine qac (qcM c.typeIs (qaq ?_))|refine qac _
 refine qac (qjX p hd ?_);refine qac (qaq ?_);refine qac (qf0 k l ?_);rw[iFN (by simp)];refine qac (qaq ?_);refine qac (qgy k l ?_);rw[iFN (by simp)];refine qaq ?_;simp only[show ¬ (_<0) from by lia,if_false,qbf,qbQ u];refine qac ?_
 first|refine qac (qcM c.typeIs (qaq ?_))|refine qac _
 refine qac (qhF c.typeIs ?_);show wpAny _ _ (setField _ 1 _ >>= _) _ _ s;refine qac (qfj p hd (by simp) ?_);have g:(s.heap.update n (Obj.mapFields (·.setIfInBounds 1 (qgB ((i)+1))))).IsKeyIter n d (i+1) es.size f:=
  ⟨_,qeE _ p (qgU (qd3 hd _)),(qhM ..).trans D,by rw[qd3 hd];simp[qgB]⟩
 refine qac (qct ?_);refine qac (qhF g.typeIs ?_);exact qaq (qaq ⟨_,U,qaq (j _ g (qds ..))⟩)
theorem C5 (t:A.handled=none) (c:s.heap.IsKeyIter n d es.size es.size f) (hm:jQ s.heap d es f)
  (j:∀ h',qhd n s.heap h'->Q none { s with heap:=h' }):wpAny (model prog w) A (qg2 (.ref n)) Q E s :=by
 obtain⟨o,p,D,hd⟩:=id c;obtain⟨G,k,z,l⟩:=id hm
 refine qac (qeH (qbL c.typeIs qbU
  (qbW qbU c.typeIs qeI ?_ (qeB _))))
 refine qac (qaq ?_);refine qac ?_;refine qac ?_
 first|refine qac (qcM c.typeIs (qaq ?_))|refine qac _
 refine qac (qjX p hd ?_);refine qac (qaq ?_);refine qac (qf0 k l ?_);rw[iFN (by simp)];refine qac (qaq ?_);refine qac (qgy k l ?_);rw[iFN (by simp)];refine qaq ?_;simp only[show ¬ (_<0) from by lia,if_false,qbf,qdm (qan _)];refine qac ?_
 first|refine qac (qcM c.typeIs (qaq ?_))|refine qac _
 show wpAny _ _ (setField _ 0 .none >>= _) _ _ s;refine qac (qfj p hd (by simp) ?_);refine qac ?_;refine qac (m:=qj5 _ _) (wpAny_of_eq (a:=Value.none) (by first|rfl|(rfl)) ?_)
 refine qcE ?_ (by size_fits);refine qac (wpAny_handled ?_);rw[t];refine qac (qaq (wpAny_throw ?_));refine qac (qiP ⟨_,qaw _ U,U⟩ qj3 ?_);exact qaq (j _ (((qds ..).extBut.push _).push _))
theorem ze (t:A.handled=none) (I d) (F:d≠I) (es) (f) :
  Walks prog w A I [I,d] [I] es.size (λi v=>∃ e,es[i]?=some e/\v=e.key) (λi h=>h.IsKeyIter I d i es.size f/\jQ h d es f)  where
 sub:=λb hb=>by simp at hb;simp[hb]
 frame:=λ_ _ _ st y=>⟨st.1.at λo e=>y I (by simp) o e,st.2.at' λo e=>y d (by simp) o e⟩
 item:=λi s Q E hi st j=>by
  refine AV st.1 st.2 hi λh' g x=>?_;exact j _ h' s.toks ⟨_,by simp[hi],U⟩ ⟨g,st.2.at' λo q=>x.extBut d o F q⟩ λb o hb q=>x.extBut b o (λh=>hb (by simp[h])) q
 done:=λs Q E st j=>C5 t st.1 st.2 λh' B=>j h' s.toks λb o hb e=>B b o (λh=>hb (by simp[h])) e
 self:=λ_ _ _ _ st j=>wpAny_pyIter_keyiter st.1 j
theorem Di (prog) (w) (d) (es) (f) (lo:(d==qcq)=false):PySem.W.KdlSrc prog w "dict" d d es.size (λi v=>∃ e,es[i]?=some e/\v=e.key) (λh=>jQ h d es f)  where
 type:=λs S=>S.type
 there:=λh S=>⟨S.lt,S.lt⟩
 keep:=λh h' S y=>S.at' λo e=>y d (.inl U) o e
 notList:=by decide
 notTuple:=by decide
 hint:=λA E s Q S h=>PySem.W.kdl_hint_dict S.type h
 iter:=λA s t S=>⟨_,_,λE Q h=>AU lo S h,ze t s.heap.objs.size d (qaH S.lt) es f,
  ⟨⟨_,qaw _ U,U,U⟩,S.at' λo e=>qaj _ e⟩⟩
end
section
variable {prog:qaR}{w:World}{A:qa2}{E:Value->qak->Prop}{s:qak}{d:Addr}{es:Array qec}{C:Nat}
theorem tU (lo:(d==qcq)=false) (S:jQ s.heap d es C) (H:A.handled=none) (hn:es.size<=qaG)
  (h:∀ h' f,(∀ b o,s.heap.get? b=some o->h'.get? b=some o)->s.heap.objs.size<h'.objs.size->Q (es.toList.map (·.key)) { s with heap:=h',toks:=f }) :
  wpAny (model prog w) A (collect (.ref d)) Q E s :=by
 have k:=S.lt;refine qac (wpAny_runValue (qjO entry_proto_collect' ?_));refine qac (qfF (qaq ⟨Code.quiet_builtin _ (by decide +kernel),qjO entry_list_iadd' ?_⟩))
 refine PySem.W.kdl_extend (R:=λr s'=>match r with
   | .ok (.ret v)=>wpAny _ A (match v with
     |.ref a=>do
      let o <-load a
      match o.data with
      |.seq xs _=>pure xs.toList
      |_=>unsupported "internal:collect"
     |_=>unsupported "internal:collect") Q E s'
   |.ok _=>False
   |.error e=>E e s') (Di prog w d es C lo) H (S.at' λo e=>qaj _ e) s.heap.objs.size (qci k) (qci k) _ 0 (qaw _ U) (λh' f acc c D T P=>?_) hn
 refine qac (wpAny_load T ?_);show wpAny _ _ (pure acc.toList) Q E _;have e:acc.toList=es.toList.map (·.key):=by
  apply qbq;intro i;rw[qaz,qez,qez];by_cases hi:i<acc.size
  ·obtain⟨e,I,u⟩:=P.2 i acc[i] (qbQ hi)
   rw[I,qbQ hi,u];rfl
  ·rw[qdm (by lia),qdm (by rw[<-P.1];lia)];rfl
 rw[e];refine qaq (h h' f (λb o q=>?_) (qax T));exact D b o (qaH (qax q)) (qaj _ q)
theorem wF (lo:(d==qcq)=false) (S:jQ s.heap d es C) (H:A.in1.handled=none) (z:es.toList.map (·.key)=B) (M:B.length<64) (hu:A.in1.in1.units<cLine)
  (t:∀ v∈B,∃ l,TuI s.heap v l)
  (h:∀ (h') (f) (p:Addr) (C) (j:List Value),(∀ b o,s.heap.get? b=some o->h'.get? b=some o)->s.heap.objs.size<=p->h'.get? p=some (qfG "list" j.toArray C)->j.Perm B->j.Pairwise (λx y=>OI.kle (tuI s.heap x) (tuI s.heap y))->Q (.ref p) { s with heap:=h',toks:=f }) :
  wpAny (model prog w) A (call (.builtin "sorted") [.ref d]) Q E s :=by
 refine qf9 kind_sorted plain_sorted entry_sorted (args_sorted1 _) ?_;refine qac (qaq ?_);have J:es.size<=qaG:=by
  have:=congrArg qeU z
  rw[qaf,qc3]at this;rw[qcz];lia
 refine qac (tU lo S H J λG f D k=>?_);rw[z];refine qac (qfF ?_ (by rw[qcz];lia));have n:(G.push _).get? G.objs.size=some (qfG "list" B.toArray 0):=qaw _ U
 refine qac (qct (qbW qjZ ⟨_,n,U⟩ qjN (qM (O:=OI) (rk:=λp=>tuI s.heap p.1) (S:=λp=>∃ l,TuI s.heap p.1 l) (s:={ s with heap:=G.push _,toks:=f }) n M (λh' N=>?_) (λv u=>t v u) λj a1 a2=>⟨_,U,?_⟩) (qj7 _)))
 ·have g:=λb o q=>N b o (qaH (qax (D b o q))) (qaj _ (D b o q))
  obtain⟨X,W,k2⟩:=uC (s:={ s with heap:=h',toks:=f }) (λv u=>let ⟨l,tl⟩:=t v u;⟨l,tl.fit g⟩) hu;refine⟨X,W,λx y ⟨l,hx⟩ ⟨m,L⟩ Q E Y=>k2 x y ⟨l,hx.fit g⟩ ⟨m,L.fit g⟩ Q E ?_⟩;have F:Q (bn (tuI s.heap x.1) (tuI s.heap y.1)) { s with heap:=h',toks:=f }:=Y;show Q (bn (tuI h' x.1) (tuI h' y.1)) { s with heap:=h',toks:=f };rw[(hx.fit g).is,(L.fit g).is];rw[hx.is,L.is]at F;exact F
 ·refine qaq ⟨_,U,?_⟩
  obtain⟨K,I⟩:=sortedHeap_at n;refine h _ f G.objs.size K j (λb o q=>?_) (qeL k) I a1 (a2.imp λ{x y} q=>q);have V:=D b o q;have hb:=qax V;rw[sortedHeap_old (qaH hb) (by rw[qix];exact qbi hb),qdr _ _ _ (qaH hb)];exact V
end
noncomputable def mgt (st:Sto) (n:Nat):Option (List (List Int×D)):=match st[n]? with
 |some (.m a)=>some a
 |_=>none
noncomputable def vM (a:List (List Int×D)) (k:List Int):Option D:=(a.find? λp=>decide (p.1=k)).map (·.2)
noncomputable def AO (a:List (List Int×D)) (k:List Int) (d:D):List (List Int×D):=if (a.any λp=>decide (p.1=k))=true then a.map λp=>if p.1=k then (p.1,d) else p else a++[(k,d)]
noncomputable def Dy:Ef
 |_,st=>some (.h st.length,st++[.m []])
def yA (o k:Ef):Ef
 |env,st=>(o env st).bind λx=>(k env x.2).bind λy=>match x.1,y.1 with
 |.h n,.d (.tup ds)=>(mgt y.2 n).bind λa=>(a7 ds).bind λl=>(vM a l).map λd=>(.d d,y.2)
 |_,_=>none
def xk (o k v:Ef):Sf
 |env,st=>(v env st).bind λz=>(o env z.2).bind λx=>(k env x.2).bind λy=>match x.1,y.1,z.1 with
 |.h n,.d (.tup ds),.d d=>(mgt y.2 n).bind λa=>(a7 ds).bind λl=>if a.length<1000 then some (.nx env (y.2.set n (.m (AO a l d)))) else none
 |_,_,_=>none
def lx (a:Ef):Lf
 |env,st=>(a env st).bind λx=>match x.1 with
 |.h n=>(mgt x.2 n).bind λb=>if b.length<64 then some ((aB (b.map (·.1))).map au,x.2) else none
 |_=>none
section
variable {K:qae}{X:Cx}{pos:Pos}{e a b o f:Expr}{fe fa fb fo ff:Ef}
theorem Ac {st}(h:mgt st n=some j):st[n]?=some (.m j) :=by
 unfold mgt at h;split at h
 ·rename_i q;cases h;exact q
 ·cases h
theorem Sr.atm {st} (S:Sr K H φ st) (e1:φ[n]?=some p) (L:mgt st n=some j):∃ w,H p=some (.dT w)/\Rkv K H φ j w :=S.at_ n p _ e1 (Ac L)
theorem Rkv.length {H:Hp}{φ:List Addr}:∀ {ds:List (List Int×D)}{w:List (List Key×V)},Rkv K H φ ds w->ds.length=w.length
 |[],_,h=>by cases h;rfl
 |(k,d)::ds,_,h=>by
  obtain⟨v,r,rfl,C,A⟩:=h;rw[qam,qam,Rkv.length A]
theorem kG:∀ {a b},gF a=gF b->a=b
 |[],[],_=>rfl
 |[],_::_,h=>by cases h
 |_::_,[],h=>by cases h
 |x::a,y::b,h=>by
  injection h with C A;injection C with C;rw[C,kG A]
theorem xr (l):(gF l).map kV=l.map V.int :=by
 unfold gF;rw[qaQ];rfl
theorem Rkv.val {H:Hp}{φ:List Addr}{i:List Int}:∀ {ds:List (List Int×D)}{w:List (List Key×V)},Rkv K H φ ds w->(∀ d,vM ds i=some d->∃ v,gJ w (gF i)=some v/\Rl K H φ d v)/\(vM ds i=none->gJ w (gF i)=none)
 |[],_,h=>by cases h;exact⟨(λd e=>nomatch e),λ_=>rfl⟩
 |(k,d)::ds,_,h=>by
  obtain⟨v,r,rfl,C,A⟩:=h;by_cases e:k=i
  ·subst e
   have e1:vM ((k,d)::ds) k=some d:=by unfold vM;rw[qes (by simp)];rfl
   have L:gJ ((gF k,v)::r) (gF k)=some v:=by unfold gJ;rw[qes (by simp)];rfl
   rw[e1,L];exact⟨λd' q=>⟨v,U,by cases q;exact C⟩,λq=>nomatch q⟩
  ·have e1:vM ((k,d)::ds) i=vM ds i:=by unfold vM;rw[qet (by simpa using e)]
   have L:gJ ((gF k,v)::r) (gF i)=gJ r (gF i):=by unfold gJ;rw[qet (by simpa using λz=>e (kG z))]
   rw[e1,L];exact (Rkv.val A)
theorem Rkv.any {H:Hp}{φ:List Addr}{i:List Int}:∀ {ds:List (List Int×D)}{w:List (List Key×V)},Rkv K H φ ds w->(w.any λp=>decide (p.1=gF i))=ds.any λp=>decide (p.1=i)
 |[],_,h=>by cases h;rfl
 |(k,d)::ds,_,h=>by
  obtain⟨v,r,rfl,C,A⟩:=h;rw[qcg,Rkv.any A]
  congr 1
  exact decide_eq_decide.mpr ⟨λz=>kG z,λz=>congrArg gF z⟩
theorem Rkv.repl {H:Hp}{φ:List Addr}{i:List Int}{x:D}{y:V} (hx:Rl K H φ x y):∀ {ds:List (List Int×D)}{w:List (List Key×V)},Rkv K H φ ds w->Rkv K H φ (ds.map λp=>if p.1=i then (p.1,x) else p) (w.map λp=>if p.1=gF i then (p.1,y) else p)
 |[],_,h=>by cases h;exact U
 |(k,d)::ds,_,h=>by
  obtain⟨v,r,rfl,C,A⟩:=h;rw[qat,qat];by_cases e:k=i
  ·rw[iFP e,iFP (by rw[e])]
   exact⟨y,_,U,hx,Rkv.repl hx A⟩
  ·rw[iFN e,iFN (λz=>e (kG z))]
   exact⟨v,_,U,C,Rkv.repl hx A⟩
theorem Rkv.snoc {H:Hp}{φ:List Addr}:∀ {ds:List (List Int×D)}{w:List (List Key×V)}{k:List Int}{d:D}{v:V},Rkv K H φ ds w->Rl K H φ d v->Rkv K H φ (ds++[(k,d)]) (w++[(gF k,v)])
 |[],_,_,_,_,h,hd=>by cases h;exact⟨_,_,U,hd,U⟩
 |(k,d)::ds,_,_,_,_,h,hd=>by
  obtain⟨v,r,rfl,C,A⟩:=h;exact⟨v,_,U,C,Rkv.snoc A hd⟩
theorem Rkv.put (h:Rkv K H φ ds w) (hd:Rl K H φ d v):Rkv K H φ (AO ds k d) (lN w (gF k) v) :=by
 unfold AO lN;rw[h.any];split
 ·exact h.repl hd
 ·exact h.snoc hd
theorem xW (hl:a7 ds=some l) (r:Rl K H φ (.tup ds) v):∃ p,v=.ref p/\H p=some (.tup ((gF l).map kV)) :=by
 obtain⟨p,w,rfl,C,A⟩:=r;cases bC hl;cases A.ints;rw[xr];exact⟨p,U,C⟩
theorem ke:IE K X (.Dict [] [] pos) Dy:=by
 refine⟨λenv st r g=>?_⟩;cases g;refine At.imp ?_
 rintro σ H Q ⟨φ,M,F,q⟩
 exact λp hp=>q _ _ _ (Fw.moreO hp) (F.moreC hp ⟨_,upd_same,U⟩) ⟨p,by rw[<-F.len];simp,U⟩
theorem nW (G:bj k X.A) (ha:IE K X a fa) (hb:IE K X b fb) (hs:D0 b):IE K X (.Subscript a b pos) (yA fa fb) :=by
 refine⟨λenv st r g=>?_⟩;simp only[yA,qaa]at g;obtain⟨⟨x,s1⟩,hx,⟨y,s2⟩,hy,g⟩:=g;dsimp only at g;split at g
 next n ds=>
  simp only[qaa,qad]at g;obtain⟨j,hk,l,hl,d,hd,rfl⟩:=g;refine (CL (Dx G) (ha.run _ _ _ hx) (hb.run _ _ _ hy) hs).imp ?_
  rintro σ H Q ⟨φ,M,F,q⟩
  refine⟨φ,M,F,λv H1 E N S1 w1=>⟨E,M.fw F N,S1,λu H2 Y f2 S2 w2=>?_⟩⟩;obtain⟨p,ep,rfl⟩:=w1.fw S1 f2;obtain⟨w,P,rl⟩:=S2.atm ep hk;obtain⟨v2,L,r2⟩:=rl.val.1 d hd;obtain⟨b',rfl,R⟩:=xW hl w2;refine⟨p,v2,U,?_,q _ H2 Y (N.trans f2) S2 r2⟩;rw[<-L];exact yb.t P R
 ·cases g
theorem ky (G:bj k X.A) (ho:IE K X a fa) (hi:IE K X b fb) (P:IE K X e fe) (hs:qcj e (some (.Subscript a b O)) pos.line X.env=pure false:=by rfl) :
  IS K X (.Assign [.Subscript a b O] e pos) (xk fa fb fe) :=by
 refine⟨λenv st r g=>?_⟩;simp only[xk,qaa]at g;obtain⟨⟨z,s1⟩,hz,⟨x,s2⟩,hx,⟨y,s3⟩,hy,g⟩:=g;dsimp only at g;split at g
 next n ds d=>
  simp only[qaa]at g;obtain⟨j,hk,l,hl,g⟩:=g;split at g
  ·rename_i J
   cases g;refine (CS (Dx G) (ho.run _ _ _ hx) (hi.run _ _ _ hy) (P.run _ _ _ hz) hs).imp ?_
   rintro D σ H ⟨φ,M,F,q⟩
   refine⟨φ,M,F,λv H1 E N S1 w1=>⟨E,M.fw F N,S1,λu H2 Y f2 S2 w2=>⟨Y,(M.fw F N).fw S1 f2,S2,λt H3 φ3 f3 S3 w3=>?_⟩⟩⟩;obtain⟨p,ep,rfl⟩:=w2.fw S2 f3;obtain⟨w,hp,rl⟩:=S3.atm ep hk;obtain⟨b',rfl,R⟩:=xW hl w3;obtain⟨f4,S4⟩:=S3.putC (c:=.m _) ep λf=>⟨_,upd_same,(rl.put (Rl.fw S2 f3 (Rl.fw S1 f2 w1))).fw S3 f⟩;refine⟨p,_,U,zg.t hp R (by rw[<-rl.length];exact qaO J (by decide)),?_⟩;exact q _ _ φ3 (((N.trans f2).trans f3).trans f4) (((((M.fw F N).fw S1 f2).fw S2 f3)).fw S3 f4) S4
  ·cases g
 ·cases g
theorem xu {H:Hp}{φ:List Addr}:∀ {j:List (List Int×D)}{w:List (List Key×V)}{xs:List (List Key×Addr×Value)},Rkv K H φ j w->KT H w xs->
  Rls K H φ ((j.map (·.1)).map au) (xs.map λx=>V.ref x.2.1)/\aI (xs.map λx=>V.ref x.2.1) (xs.map λx=>Value.ref x.2.1)
 |[],_,_,h,t=>by cases h;cases t;exact⟨U,.nil⟩
 |(k,d)::j,_,_,h,t=>by
  obtain⟨v,r,rfl,C,A⟩:=h;cases t with
  |cons q t=>
   rename_i x xs;obtain⟨i1,i2⟩:=xu A t;have e:H x.2.1=some (.tup (k.map V.int)):=by rw[<-xr];exact q.2.1
   exact⟨⟨_,_,U,⟨_,_,U,e,Rls.of_ints k⟩,i1⟩,.cons U i2⟩
theorem hU {p} (G:bj k X.A) (hg:Gl X "sorted") (hm:X.mg "sorted" = none) (ha:IE K X a fa) (hc:X.calm=true:=by rfl) (hs:ay a=true:=by rfl) (hK:X.K=K:=by rfl):IL K X (.Call (.Name "sorted" p) [a] [] pos) (lx fa) :=by
 subst hK;refine⟨λenv st r g=>?_⟩;simp only[lx,qaa]at g;obtain⟨⟨x,s1⟩,hx,g⟩:=g;dsimp only at g;split at g
 case h_2=>cases g
 rename_i n;simp only[qaa]at g;obtain⟨j,hk,g⟩:=g;split at g
 ·rename_i hl
  cases g;have hA:=(br (K:=X.K) (X:=X) ha bU hs).run env st ([.h n],s1) (by simp only[aa,ac,hx,qab,qap]);have hC:bh X (.builtin "sorted") (λxs H Q=>∃ φ q,Sr X.K H φ s1/\φ[n]?=some q/\xs=[.ref q]/\∀ l us,H l=none->Rls X.K H φ ((aB (j.map (·.1))).map au) us->Q (.ref l) (upd H l (.lst us))):=by
   intro pins s σ H xs us Q I rv q;obtain⟨φ,ad,S,T,rfl,q⟩:=q;obtain⟨u,rfl,ru⟩:=iR rv;cases ru;obtain⟨w,P,rl⟩:=S.atm T hk;obtain⟨z',hd,xs,rel,o,es,ep,g1,g2,g3,g4,g5,g6⟩:=Dw I.hok P;obtain⟨b1,b2⟩:=xu rl rel;have J:xs.length<64:=by
    have e1:=rel.length;have L:=rl.length;lia
   have W:es.toList.map (·.key)=xs.map λx=>Value.ref x.2.1:=by rw[g4,qaQ];rfl
   obtain⟨m1,m2⟩:=pG I b1 b2;have hun:X.A.in1.in1.units<cLine:=by
    have:=G.un
    show X.A.units+1+1<cLine;lia
   refine wF hd ⟨o,g1,g2,g3⟩ (I.ok.hd hc) W (by rw[qaf];exact J) hun (λv P=>⟨_,(m2 v P).1⟩) λh' tk p ep' B hkeep hp he a1 a2=>?_;have hn:H p=none:=I.hok.fresh hp;have ho:=λu hu=>m2 u (a1.mem_iff.mp hu);obtain⟨c1,c2⟩:=pE (K:=X.K) (H:=H) (φ:=φ) ho;have hpm:(B.map (tuI s.heap)).Perm (j.map (·.1)):=by
    have:=a1.map (tuI s.heap)
    rw[m1]at this;exact this
   have hsrt:(B.map (tuI s.heap)).Pairwise leL:=by
    rw[qee];exact a2.imp λ{x y} q=>q
   have e:B.map (tuI s.heap)=aB (j.map (·.1)):=k7 (hpm.trans (aG _).symm) hsrt (cW _);have L:(B.map λu=>au (tuI s.heap u))=(aB (j.map (·.1))).map au:=by rw[<-e,qaQ];rfl
   rw[L]at c1;have hlay:Inv X pins σ (upd H p (.lst (B.map toV))) { s with heap:=h',toks:=tk }:=by
    refine I.laid (t':=tk) (a:=p) (o:=.lst (B.map toV)) hkeep hp ⟨?_,B,ep',c2,by simpa [qfG] using he⟩;rw[qaf,a1.length_eq,qaf];exact jc (by lia)
   exact⟨.ref p,_,hlay,U,q p _ hn c1⟩
  refine (pf hC hg hm qaS hA (by decide) (by decide) (aP hs) (bg (es:=[]) U)).imp ?_
  rintro σ H Q ⟨φ,M,F,q⟩
  refine⟨φ,M,F,λw H1 E N S1 w1=>?_⟩;obtain⟨v,r,rfl,⟨ad,T,rfl⟩,rfl⟩:=w1;exact⟨E,ad,S1,T,U,λl us hl' hr'=>q l _ H1 E N S1 hl' hr'⟩
 ·cases g
theorem uF:∀ (a b),HT.lexLt a b=bn a b
 |[],[]=>rfl
 |[],_::_=>rfl
 |_::_,[]=>rfl
 |x::a,y::b=>by rw[HT.lexLt_cons,bn,uF a b]
end
end L2
namespace L2
open PySem PySem.SeqAt MeetsSeq MeetsSeq2 MeetsSeq3
open AutoSeq1 (wpAny_loadPart')
end L2
namespace L2
open PySem PySem.Spec PyProof.Rows
section
variable {K:qae}{X:Cx}{pos:Pos}{a e:Expr}{c:Ef}{b:Af}
end
section
variable {K:qae}{X:Cx}{pos:Pos}{a e:Expr}{c:Ef}{b:Af}
end
end L2
namespace L2
open PySem PySem.Spec PyProof.Rows
open AutoSeq1 (wpAny_loadPart')
section
variable {K:qae}{X:Cx}{pos:Pos}{a e:Expr}{es:List Expr}{c:Ef}{b:Af}
end
theorem sk (l) (items) (n) (b) (a) (j) (m) (k) (o:¬(!items.isEmpty&&qcR (items.size+a.size))=true) (f:items.size<=qaG) (e:items.size+a.size<=qaG+1) :
  Meets (qe7.«list.extend» ⟨[.ref l,.ref b],[]⟩) (λ_ R s=>s.heap.get? l=some { cls:=.type "list",dict:=none,data:=.seq items n,slots:=#[] }/\s.heap.get? b=some { cls:=.type "list",dict:=m,data:=.seq a j,slots:=k }/\R (.ok (.ret Value.none)) { s with heap:=s.heap.update l (qcA λx=>x++a),toks:=s.toks }) :=
 .of_wp λprog w A R s h=>by
  obtain⟨u,g,d,q,os⟩:=s;obtain⟨i,hb,h⟩:=h;have r:=AutoSeq1.idx_int;have y:=qdV;have t:=AutoSeq1.sub_list_list;have p:=AutoSeq1.sub_tuple_list;have v:=AutoSeq1.sub_list_tuple;have c:(items++a).size<=qaG+1:=by rw[Array.size_append];exact e
  wp_walk using (wpAny_updateSeq i U (hz:=f) (_hz':=c)),wpAny_loadPart' i,wpAny_loadPart' hb
  exact⟨_,U,h⟩
section
variable {K:qae}{X:Cx}{pos:Pos}{a e:Expr}{es:List Expr}{J:Ef}{M:Af}
def G7 (X:Cx):V->List V->Hp->VK->Prop:=λx A H Q=>∃ l b xs t,x=.ref l/\A=[.ref b]/\H l=some (.lst xs)/\Rd H b (.lst t)/\b≠l/\xs.length+t.length<=qaG/\Q .non (upd H l (.lst (xs++t)))
theorem Cr:MtR X "list.extend" (G7 X):=by
 intro R s σ H x A v us Q I rx T h;obtain⟨l,b,xs,t,rfl,rfl,P,hB,hne,hz,q⟩:=h;cases rx;obtain⟨u,rfl,ru⟩:=T.one;cases ru;obtain⟨z,g,n,r,N,e⟩:=I.lstM P;obtain⟨f,O,⟨⟨c,dd,dt,sl⟩,L,e2,E,hdd,hd⟩,hz2⟩:=I.list (.inl hB);replace E:c=.type "list":=E
 replace hd:dt=.seq f.toArray L:=hd;subst E hd;have hl2:=O.length;have C:g.toArray.size+f.toArray.size<=qaG:=by rw[qaB,qaB];lia
 have m:¬ (!g.toArray.isEmpty&&qcR (g.toArray.size+f.toArray.size))=true:=by
  rw[uO C,qh9];exact qa1
 refine qcr F.slot_list_extend ⟨_,e,U⟩ F.entry_list_extend (F.args_list_extend_2 _ _)
  (sk l g.toArray n b f.toArray L dd sl m (by rw[qaB];lia) (by lia)) ⟨e,e2,?_⟩
 refine⟨.non,_,I.lset (its':=g++f) P e (by simp) (r.append O) ?_,U,q⟩;rw[qau];lia
noncomputable def oM (ds:List D):List W->Option (D×List D)
 |[.d (.lst xs)]=>if ds.length+xs.length<=1000000 then some (.non,ds++xs) else none
 |_=>none
theorem j9 {i} (ho:IE K X a J) (ha:IA K X (e::es) M) (k:qcc a "extend" X.env (eval a X.env)=eval a X.env:=by rfl)
  (w:(e::es).all ay=true:=by rfl) (j:(e::es).length<30:=by decide) (o:(i.endLine==pos.line)=true:=by rfl) (Y:X.K=K:=by rfl) :
  IE K X (.Call (.Attribute a "extend" i) (e::es) [] pos) (cI oM J M) :=by
 subst Y;refine vS PySem.F.slot_list_extend PySem.F.type_list_extend Cr (λH φ st n ad ds A ws us y Q S ea eds hv G rw p q=>?_) (λds ws y h=>?_) ho ha k w j o U
 ·match ws,p with
  |[.d (.lst xs)],p=>
   simp only[oM]at p;split at p
   ·rename_i N
    cases p;obtain⟨v,r,rfl,⟨b,t,rfl,B,hq,hz⟩,rfl⟩:=rw;exact⟨ad,b,A,t,U,U,hv,hq,(λe=>B (by rw[e];exact qbK ea)),by rw[<-G.length,<-hz.length];exact qaD N mil,q _ _ U (G.append hz) (λb z=>nomatch z)⟩
   ·cases p
 ·match ws,h with
  |[.d (.lst xs)],h=>
   simp only[oM]at h;split at h
   ·cases h;rfl
   ·cases h
end
end L2
namespace L2
open PySem PySem.Spec PyProof.Rows
open Classical in
def j5 (n:Nat) (all:List D) (g:Tg) (body:Sf):List D->Ev->Sto->Option Fl
 |[],env,st=>if lg st n=some all then some (.nx env st) else none
 | d::ds,env,st=>if lg st n=some all then ((cD g (.d d) env).bind λe=>(body e st).bind λr=>match r with
  |.nx e s=>j5 n all g body ds e s
  |.ct e s=>j5 n all g body ds e s
  |.bk e s=>some (.nx e s)
  |.rt w s=>some (.rt w s)) else none
def ue (fe:Ef) (g:Tg) (body:Sf):Sf
 |env,st=>(fe env st).bind λr=>match r.1 with
  |.h n=>(lg r.2 n).bind λds=>j5 n ds g body ds env r.2
  |.d (.tup ds)=>bu g body ds env r.2
  |.d (.lst ds)=>bu g body ds env r.2
  |_=>none
section
variable {K:qae}{X:Cx}{pos:Pos}{tg:Expr}
theorem kq (he:IE K X iter fe) (P:II K X tg iter (aC fe)) (hg:PG X tg (tG K g)) (hb:ISs K X body E) (hp:qgH (model X.prog X.w) X.A X.env X.xe) (hc:X.calm=true:=by rfl)
  (V:∀ x,qbt iter X.env x=pure x:=by intro _;rfl) (hK:X.K=K:=by rfl):IS K X (.For tg iter body [] pos) (ue fe g E) :=by
 refine⟨λenv st r l=>?_⟩;simp only[ue,qaa]at l;obtain⟨⟨x,s1⟩,hx,l⟩:=l;cases x with
 |d x=>
  refine (lH P hg hb hp hc V).run env st r ?_;cases x with
  |tup ds=>simp only[cE,aC,hx,qab];exact l
  |lst ds=>simp only[cE,aC,hx,qab];exact l
  |_=>cases l
 |h n=>
  simp only[qaa]at l;obtain⟨ds,R,l⟩:=l;refine (AJ hp hc (xF he hK hx R) hg hb.any V).imp ?_
  rintro D L H ⟨φ,T,hS,q⟩
  refine⟨φ,T,hS,λJ H1 u B S1 yl=>?_⟩;refine⟨λi m L H=>m=ds.length - i/\i<=ds.length/\∃ env st a,Fw u a H1 H/\Er K H a env L/\Sr K H a st/\j5 n ds g E (ds.drop i) env st=some r,⟨ds.length,by simp,qbr _,env,s1,u,Fw.refl _ _,T.fw hS B,S1,l⟩,?_⟩
  rintro i m L H2 ⟨rfl,hi,A,f,a,C,Y,S2,j⟩
  by_cases o:i<ds.length
  ·rw[qb4 o]at j
   rw[j5]at j;by_cases c:lg f n=some ds
   ·rw[iFP c]at j
    obtain⟨W,S⟩:=yl H2 a f i C S2 c;obtain⟨go,yld⟩:=W ds[i] (qal o);simp only[qaa]at j;obtain⟨e3,N,r3,Q,G⟩:=j;refine .inr ⟨go,λt H'=>i+1<=ds.length/\∃ env st a,Fw u a H1 H'/\Er K H' a env t/\Sr K H' a st/\j5 n ds g E (ds.drop (i+1)) env st=some r,λt H' ⟨hn,p'⟩=>⟨ds.length - (i+1),by lia,U,hn,p'⟩,λx H' y=>?_⟩;obtain⟨M,rx⟩:=yld x H' y;have S3:=S2.same M;have I:=C.trans (Fw.same (φ:=a) M);refine⟨a,f,A,.d ds[i],e3,Y.fw S2 (Fw.same M),S3,rx,N,λt e' _=>?_⟩;refine⟨e3,f,r3,Q,a,e',S3,?_⟩;cases r3 with
    |nx F z=>exact λs H4 e p k b=>⟨o,F,z,e,I.trans p,k,b,G⟩
    |ct F z=>exact λs H4 e p k b=>⟨o,F,z,e,I.trans p,k,b,G⟩
    |bk F z=>
     cases G;exact λs H4 e p k b=>q s H4 e (B.trans (I.trans p)) k b
    |rt w z=>
     cases G;exact λv H4 e p b w4=>q v H4 e (B.trans (I.trans p)) b w4
   ·rw[iFN c]at j;cases j
  ·have O:i=ds.length:=by lia
   subst O;rw[qep,j5]at j;by_cases c:lg f n=some ds
   ·rw[iFP c]at j
    cases j;obtain⟨W,S⟩:=yl H2 a f ds.length C S2 c;exact .inl ⟨S U,q L H2 a (B.trans C) Y S2⟩
   ·rw[iFN c]at j;cases j
end
mutual
noncomputable def toP:D->PyData
 |.non=>.none
 |.bl b=>.bool b
 |.int i=>.int i
 |.str x=>.str x
 |.tup ds=>.tuple (jh ds)
 |.lst ds=>.list (jh ds)
 |_=>.none
noncomputable def jh:List D->List PyData
 |[]=>[]
 |d::ds=>toP d::jh ds
end
mutual
noncomputable def rpD:D->Bool
 |.non=>true
 |.bl _=>true
 |.int i=>decide (i.natAbs.log2<1920)
 |.str _=>true
 |.tup ds=>pH ds
 |.lst ds=>pH ds
 |_=>false
noncomputable def pH:List D->Bool
 |[]=>true
 |d::ds=>rpD d&&pH ds
end
mutual
noncomputable def wtD:D->Nat
 |.non=>10
 |.bl _=>10
 |.int _=>2000
 |.str x=>(reprText x).length
 |.tup ds=>vw ds+5
 |.lst ds=>vw ds+5
 |_=>0
noncomputable def vw:List D->Nat
 |[]=>0
 |d::ds=>wtD d+2+vw ds
end
mutual
noncomputable def dpD:D->Nat
 |.tup ds=>tZ ds+1
 |.lst ds=>tZ ds+1
 |_=>1
noncomputable def tZ:List D->Nat
 |[]=>0
 |d::ds=>max (dpD d) (tZ ds)
end
def rB (st:Sto):List W->Option D
 |[w]=>match w with
  |.d d=>if rpD d=true/\wtD d<=16000000/\dpD d<=50 then some (.str (toP d).shown) else none
  |.h _=>none
 |_=>none
theorem ml:∀ (ts) (k) (acc),(textFrom k acc ts).length<=acc.length+piled ts
 |[],k,acc=>by show acc.length<=_;lia
 |t::r,k,acc=>by
  have h:=ml r (k+1) (acc++(if k > 0 then ", " else "" : String)++t)
  have e:(acc++(if k > 0 then ", " else "" : String)++t).length<=acc.length+2+t.length:=by
   rw[qdv,qdv]
   have:((if k > 0 then ", " else "" : String):Str).length<=2:=by split<;>decide
   lia
  rw[qiy];show (textFrom (k+1) _ r).length<=_;lia
theorem Bp (ts):(qhG ts).length<=piled ts+3 :=by
 have hz:(Str.join ", " ts).length<=piled ts:=by
  cases ts with
  |nil=>exact qbr _
  |cons x r=>
   have:=qjK (x::r) (by simp)
   lia
 unfold qhG;rw[qdv,qdv];have a:((if ts.length==1 then ",)" else ")" : String):Str).length<=2:=by split<;>decide
 have b:((("(" : String):Str)).length=1:=rfl
 lia
theorem Cg (ts):(listText ts).length<=piled ts+2 :=by
 have h:=ml ts 0 "["
 unfold listText;rw[qdv];have b:((("[" : String):Str)).length=1:=rfl
 have a:((("]" : String):Str)).length=1:=rfl
 lia
mutual
theorem vb:∀ d:D,rpD d=true->(toP d).shown.length<=wtD d
 |.non,_=>by rw[toP,wtD];decide
 |.bl b,_=>by rw[toP,wtD];cases b<;>decide
 |.int i,h=>by
  rw[rpD,decide_eq_true_eq]at h;rw[toP,wtD,qff]
  have:=int_text_length_le (k:=1920) (by decide) h
  rw[qgF];lia
 |.str x,_=>by rw[toP,wtD,qff];exact qan _
 |.tup ds,h=>by
  rw[rpD]at h;rw[toP,wtD,qff]
  have:=lP ds h
  have:=Bp (qbN (jh ds))
  lia
 |.lst ds,h=>by
  rw[rpD]at h;rw[toP,wtD,qff]
  have:=lP ds h
  have:=Cg (qbN (jh ds))
  lia
 |.ty _,h=>by simp[rpD]at h
 |.dct,h=>by simp[rpD]at h
 |.scr _,h=>by simp[rpD]at h
theorem lP:∀ ds:List D,pH ds=true->piled (qbN (jh ds))<=vw ds
 |[],_=>by rw[jh,vw,qbN];exact qan _
 |d::ds,h=>by
  rw[pH,qa0]at h;rw[jh,vw,qbN,qiy]
  have:=vb d h.1
  have:=lP ds h.2
  lia
end
mutual
theorem wR:∀ d:D,rpD d=true->(toP d).showable=true/\(toP d).hasDict=false/\(toP d).depth<=dpD d
 |.non,_=>⟨U,U,by decide⟩
 |.bl b,_=>⟨U,U,by rw[toP,qdp];exact qbr _⟩
 |.int i,h=>by
  rw[rpD]at h;rw[toP];exact⟨h,U,by rw[qdp];exact qbr _⟩
 |.str x,_=>⟨U,U,by rw[toP,qdp];exact qbr _⟩
 |.tup ds,h=>by
  rw[rpD]at h;rw[toP,dpD,qhy,qhL,qdp];obtain⟨a,b,c⟩:=mW ds h;exact⟨a,b,by lia⟩
 |.lst ds,h=>by
  rw[rpD]at h;rw[toP,dpD,qhy,qhL,qdp];obtain⟨a,b,c⟩:=mW ds h;exact⟨a,b,by lia⟩
 |.ty _,h=>by simp[rpD]at h
 |.dct,h=>by simp[rpD]at h
 |.scr _,h=>by simp[rpD]at h
theorem mW:∀ ds:List D,pH ds=true->qdR (jh ds)=true/\qd2 (jh ds)=false/\qda (jh ds)<=tZ ds
 |[],_=>by rw[jh,tZ];exact⟨U,U,by simp[qda]⟩
 |d::ds,h=>by
  rw[pH,qa0]at h;obtain⟨a,b,c⟩:=wR d h.1;obtain⟨e,f,g⟩:=mW ds h.2;rw[jh,tZ,qdR,qd2,qda,a,b,e,f];exact⟨U,U,by lia⟩
end
section
variable {K:qae}{X:Cx}{pins:List (Addr×Obj)}{σ:St}{H:Hp}{s:qak}{φ:List Addr}
mutual
theorem u7 (I:Inv X pins σ H s):∀ (d:D) (v:V) (u:Value),rpD d=true->Rl X.K H φ d v->aN v u->∃ as,Reads s.heap u (toP d) as
 |.non,v,u,_,r,q=>by cases (show v=.non from r);cases q;exact⟨_,by rw[toP];exact .none⟩
 |.bl b,v,u,_,r,q=>by cases (show v=.bl b from r);cases q;exact⟨_,by rw[toP];exact .bool b⟩
 |.int i,v,u,_,r,q=>by cases (show v=.int i from r);obtain⟨t,rfl⟩:=q;exact⟨_,by rw[toP];exact .int i t⟩
 |.str x,v,u,_,r,q=>by cases (show v=.str x from r);obtain⟨t,rfl⟩:=q;exact⟨_,by rw[toP];exact .str x t⟩
 |.tup ds,v,u,h,r,q=>by
  rw[rpD]at h;obtain⟨a,vs,rfl,h1,h2⟩:=r;cases q;obtain⟨its,rv,⟨o,ho,hc,n,hd⟩,_⟩:=I.tuple (SqT.of h1);obtain⟨as,ra⟩:=lO I ds vs its h h2 rv;exact⟨as,by rw[toP];exact .tuple ho hc hd (by simpa using ra)⟩
 |.lst ds,v,u,h,r,q=>by
  rw[rpD]at h;obtain⟨a,vs,rfl,_,h1,h2⟩:=r;cases q;obtain⟨its,rv,⟨o,n,ho,hc,hdd,hd⟩,_⟩:=I.list (.inl h1);obtain⟨as,ra⟩:=lO I ds vs its h h2 rv;exact⟨a::as,by rw[toP];exact .list ho hc hd (by simpa using ra)⟩
 |.ty _,_,_,h,_,_=>by simp[rpD]at h
 |.dct,_,_,h,_,_=>by simp[rpD]at h
 |.scr _,_,_,h,_,_=>by simp[rpD]at h
theorem lO (I:Inv X pins σ H s):∀ (ds:List D) (vs:List V) (us:List Value),pH ds=true->Rls X.K H φ ds vs->aI vs us->∃ as,ReadsAll s.heap us (jh ds) as
 |[],vs,us,_,r,q=>by cases r;cases q;exact⟨[],by rw[jh];exact .nil⟩
 |d::ds,vs,us,h,r,q=>by
  rw[pH,qa0]at h;obtain⟨v,r',rfl,h1,h2⟩:=r;cases q with
  |cons q1 q2=>
   obtain⟨as,a1⟩:=u7 I d v _ h.1 h1 q1;obtain⟨bs,a2⟩:=lO I ds r' _ h.2 h2 q2;exact⟨as++bs,by rw[jh];exact .cons a1 a2⟩
end
end
def zA (st:Sto):List W->Option D
 |[.d (.tup ds)]=>rB st [.d (.tup ds)]
 |[.d (.lst ds)]=>rB st [.d (.lst ds)]
 |_=>none
theorem zv {K}(g:bj k X.A) (n:X.K=K:=by rfl):dZ K X (.builtin "repr") zA :=by
 subst n;refine⟨λst ws d h=>?_⟩;have b:∀ x:D,(∀ (H:Hp) (φ:List Addr) v,Rl X.K H φ x v->∃ a,v=.ref a)->rB st [.d x]=some d->bh X (.builtin "repr") (rCD X.K st [.d x] d):=by
  intro x hx h;simp only[rB]at h;split at h
  ·rename_i c
   cases h;intro j s E H xs A Q I l q;obtain⟨φ,S,⟨v,r,rfl,i,rfl⟩,q⟩:=q;obtain⟨u,rfl,f⟩:=iR l;obtain⟨as,z⟩:=u7 I x v u c.1 i f;obtain⟨a,rfl⟩:=hx H φ v i;cases f;obtain⟨o,t,C⟩:=wR x c.1;have B:=vb x c.1;have y:=g.units;refine qj1 z o (qg5 t) g.gd (by lia) (λ_ _ e=>e) (λh' u m w=>⟨.str _,H,I.kept (t':=m) w,⟨u,U⟩,q _ H (aQ.refl H) U⟩) ?_;rw[qcz];lia
  ·cases h
 match ws,h with
 |[.d (.tup ds)],h=>exact b (.tup ds) (λH φ v ⟨a,p,e,_⟩=>⟨a,e⟩) h
 |[.d (.lst ds)],h=>exact b (.lst ds) (λH φ v ⟨a,p,e,_⟩=>⟨a,e⟩) h
def cu (st:Sto) (ws:List W):Option D:=match ws with
 |[.d (.int i)]=>wY st [.d (.int i)]
 |ws=>zA st ws
theorem gP {K}(b:bj k X.A) (a:X.K=K:=by rfl):dZ K X (.builtin "repr") cu :=by
 refine⟨λst ws d h=>?_⟩;unfold cu at h;split at h
 ·exact (BP b a).run _ _ _ h
 ·exact (zv b a).run _ _ _ h
noncomputable def qy (i:Int):Int:=((qjV i:Nat):Int)
def qC (o:Ef):Ef
 |env,st=>(o env st).bind λx=>match x.1 with
  |.d (.int i)=>some (.d (.int (qy i)),x.2)
  |_=>none
section
variable {K:qae}{X:Cx}{pos c:Pos}{a:Expr}{k:Ef}
def G5:V->List V->Hp->VK->Prop:=λx xs H Q=>∃ i:Int,x=.int i/\xs=[]/\Q (.int (qy i)) H
theorem Cq:MtR X "int.bit_length" G5:=by
 intro l s z H x xs v B Q I y m h;obtain⟨i,rfl,rfl,q⟩:=h;obtain⟨t,rfl⟩:=y;cases m;exact call_int_bit_length ⟨.int (qy i),H,I.kept (t':=s.toks+1) λb o e=>e,⟨_,U⟩,q⟩
theorem j8 (A:IE K X a k) (g:qcc a "bit_length" X.env (eval a X.env)=eval a X.env:=by rfl) (f:(c.endLine==pos.line)=true:=by rfl) :
  IE K X (.Call (.Attribute a "bit_length" c) [] [] pos) (qC k):=by
 refine⟨λenv st r d=>?_⟩;simp only[qC,qaa]at d;obtain⟨⟨x,s1⟩,hx,d⟩:=d;dsimp only at d;split at d
 next i=>
  cases d;refine (E9 PySem.F.plainAttrs_int PySem.F.slot_int_bit_length PySem.F.type_int_bit_length Cq (A.run _ _ _ hx) g f).imp ?_
  rintro z H Q ⟨φ,p,n,q⟩
  refine⟨φ,p,n,λv H1 j u S1 w=>?_⟩;cases (show v=.int i from w);exact⟨U,i,U,U,q _ H1 j u S1 U⟩
 next=>cases d
end
end L2
namespace HT
open PySem PyProof.Rows
theorem AX (A) (s) (a) (t) (c) (u) (prog) (w) (E) (Q) (h:Q (.bool (decide (a > c))) s) :
  wpAny (model prog w) A (richCompare .Gt (.int a t) (.int c u)) Q E s :=
 (qjv h:wpAny (model prog w) A (qbP .Gt (.int a t) (.int c u)) Q E s)
section
open PySem.SeqAt
open PySem.AutoSeq1 (wpAny_loadPart')
open PySem.MeetsSeq PySem.MeetsSeq2 PySem.MeetsSeq3
theorem qo (l b) (items f) (n O) (T I) (P K) (ns F) (hi:qcn items.toList ns) (N:qcn f.toList F) :
  Meets (qe7.«tuple.__gt__» ⟨[.ref l,.ref b],[]⟩)
   (λ_ R s=>s.heap.get? l=some { cls:=.type "tuple",dict:=T,data:=.seq items n,slots:=P }/\s.heap.get? b=some { cls:=.type "tuple",dict:=I,data:=.seq f O,slots:=K }/\
     R (.ok (.ret (.bool (lexLt F ns)))) s) :=
 .of_wp λprog w A R s h=>by
  obtain⟨H,g,d,E,os⟩:=s;obtain⟨S,hb,h⟩:=h;have f2:=qdV;have W:items.size=ns.length:=by rw[<-hi.length];simp
  have z2:f.size=F.length:=by rw[<-N.length];simp
  wp_walk using wpAny_loadPart' S,wpAny_loadPart' hb,qiQ _ (λr b s'=>b.1=none/\s'=⟨H,g,d,E,os⟩/\∃ (G ws:List Value) (k j:List Int),r=G.zip ws/\
   qcn G k/\qcn ws j/\k.length+f.size=j.length+items.size/\R (.ok (.ret (.bool (lexLt j k)))) ⟨H,g,d,E,os⟩) _
  case turn=>
   rintro⟨y,x⟩ r b s' ⟨B,rfl,G,ws,k,j,hz,z,m,i,o⟩
   cases z with
   |nil=>rw[List.zip_nil_left]at hz;cases hz
   |cons a t C=>
    cases m with
    |nil=>rw[List.zip_nil_right]at hz;cases hz
    |cons c u D=>
     rw[qde]at hz;injection hz with J v;injection J with V hx;subst V hx;rw[lexLt_cons]at o;simp only[qam]at i;obtain⟨e,Q,p⟩:=zE A.in1 ⟨H,g,d,E,os⟩ a t c u;refine qac (Q prog w _ _ ?_);cases e with
     |true=>
      rw[iFP (p.mp U).symm]at o
      wp_walk
      exact⟨U,U,_,_,_,_,v,C,D,by lia,o⟩
     |false=>
      rw[iFN (λq=>absurd (p.mpr q.symm) qa1)]at o;have L:=AX A.in1 ⟨H,g,d,E,os⟩ a t c u prog w
      wp_walk using L
      exact⟨_,U,by simpa using o⟩
  case fin=>
   rintro⟨X,Y⟩ s' ⟨B,rfl,G,ws,k,j,hz,z,m,i,o⟩
   simp only at B
   subst B;have M:lexLt j k=decide (f.size<items.size):=by
    cases z with
    |nil=>
     cases m with
     |nil=>
      simp only[qb7]at i;rw[qh];exact (decide_eq_false (by lia)).symm
     |cons c u hw=>
      simp only[qb7,qam]at i;rw[oF];exact (decide_eq_false (by lia)).symm
    |cons a t M=>
     cases m with
     |nil=>
      simp only[qb7,qam]at i;rw[oG];exact (decide_eq_true (by lia)).symm
     |cons c u hw=>
      rw[qde]at hz;cases hz
   rw[M]at o
   wp_walk
   exact⟨_,U,by simpa [qey] using o⟩
  case h=>
   exact⟨U,U,items.toList,f.toList,ns,F,U,hi,N,by lia,h⟩
end
section
variable {prog:qaR}{w:World}{A:qa2}{E:Value->qak->Prop}{s:qak}
theorem gt_tupInts (r:IsTup s.heap l items) (hb:IsTup s.heap b a) (hi:qcn items.toList ns) (t:qcn a.toList e)
  (q:A.units<cLine) (h:Q (.bool (lexLt e ns)) s):wpAny (model prog w) A (qbP .Gt (.ref l) (.ref b)) Q E s :=by
 obtain⟨⟨cls,u,data,o⟩,m,j,n,hd⟩:=id r;obtain⟨⟨k,g,data2,i⟩,c,f,p,d⟩:=id hb
 simp only at j hd f d
 subst j hd f d;exact qhv (op:=.Gt) ⟨_,m,U⟩ ⟨_,c,U⟩ PySem.F.slot_tuple_gt PySem.F.entry_tuple_gt (PySem.F.args_tuple_gt_2 _ _) (qo l b items a n p u g o i ns e hi t)
  ⟨m,c,show Value.bool (lexLt e ns)≠Value.notImplemented/\Q (.bool (lexLt e ns)) s from ⟨(λx=>nomatch x),h⟩⟩ q
end
end HT
namespace L2
open PySem PySem.Spec PyProof.Rows
section
variable {X:Cx}{K:qae}
def Ik (K:qae):R2:=λx y H Q=>∃ a b ns c,x=.ref a/\y=.ref b/\SqT K H a (ns.map V.int)/\SqT K H b (c.map V.int)/\Q (.bl (HT.lexLt c ns)) H
theorem E1 (j:X.A.units<cLine):OpR X (qbP .Gt) (Ik X.K):=by
 intro m s T H x y v u Q I L z h;obtain⟨a,b,ns,c,rfl,rfl,E,hb,q⟩:=h;cases L;cases z;obtain⟨i,N,p1,_⟩:=I.tuple E;obtain⟨f,F,g,_⟩:=I.tuple hb;have n:qcn i.toArray.toList ns:=dM N;have w:qcn f.toArray.toList c:=dM F;exact HT.gt_tupInts p1 g n w j ⟨.bl (HT.lexLt c ns),H,I,U,q⟩
def yn (st:Sto):W->W->Option D
 |.d (.tup a),.d (.tup b)=>(a7 a).bind λns=>(a7 b).map λc=>.bl (bn c ns)
 |x,y=>dGt st x y
theorem fk (C:bj k X.A) (o:X.K=K:=by rfl):OpD K X (qbP .Gt) yn :=by
 subst o;refine⟨λst x y d h=>?_⟩;by_cases l:∃ a b,x=.d (.tup a)/\y=.d (.tup b)
 ·obtain⟨a,b,rfl,rfl⟩:=l
  simp only[yn,qaa,qad]at h;obtain⟨ns,G,c,J,rfl⟩:=h;have j:X.A.units<cLine:=by have:=C.un;lia
  refine (E1 j).imp ?_
  rintro R O H Q ⟨φ,S,⟨p,P,rfl,B,t⟩,⟨g,r,rfl,M,A⟩,q⟩
  cases bC G;cases bC J;cases t.ints;cases A.ints;refine⟨p,g,ns,c,U,U,SqT.of B,SqT.of M,?_⟩;rw[uF];exact q _ H (aQ.refl H) U
 ·have e:yn st x y=dGt st x y:=by
   unfold yn;split
   ·rename_i a b
    exact absurd ⟨a,b,U,U⟩ l
   ·rfl
  rw[e]at h;exact qN.run st x y d h
end
end L2
@[reducible]def Z(x:L2.D):Option L2.W:=some (.d x)
namespace Own
open PySem L2
noncomputable section
def fJ:Sf:=(aA (.nm 1) (iOp aZ (iV 1) (iC (.int 2))))
def m6:Sf:=(ag (aA (.nm 1) (iC (.int 1))) (ag (cE (bH (aa (iV 0) ac)) (.nm 2) fJ) (aL (iV 1))))
def dS:Fn:=bv 3 1 m6
def BO:Sf:=(aL (iOp f7 (iOp gR (iV 0) (ax dS (aa (iV 1) ac))) (iC (.int 2))))
def su:Fn:=bv 2 2 BO
def dX:Tf:=(aF dNe (iV 3) (iC (.int 0)))
def eO:Sf:=(ag (aA (.nm 4) (iOp f7 (iV 1) (iV 3))) (ag (aA (.nm 1) (iV 3)) (aA (.nm 3) (iV 4))))
def eB:Sf:=(ag (aA (.nm 3) (iCB ym (aa (iV 2) ac))) (ly (2^8000) dX eO))
def my:Sf:=(ag (aA (.nm 1) (iC (.int 0))) (ag (cE (aC (iV 0)) (.nm 2) eB) (aL (iV 1))))
def bo:Fn:=bv 5 1 my
def t6:Ef:=(iOp rq (iV 0) (iV 1))
def yf:Sf:=(ag (aA (.nm 1) (ax bo (aa (iV 0) ac))) (ag (be (aF dEq (iV 1) (iC (.int 0))) (aL (iCB ft (aa (iV 0) ac))) aU) (aL (iCB ft (aa (aq (iLc 1 [1] (aC (iV 0)) (.nm 0) aM t6)) ac)))))
def cQ:Fn:=bv 2 1 yf
def b8:Tf:=(aF dLt (iV 2) (iCB aS (aa (iV 0) ac)))
def dk:Sf:=(ag (aA (.nm 2) (iOp aZ (iV 2) (iC (.int 2)))) (aA (.nm 1) (iOp a9 (iV 1) (iC (.int 1)))))
def qc:Sf:=(ag (aA (.nm 1) (iC (.int 0))) (ag (aA (.nm 2) (iC (.int 1))) (ag (ly (2^8000) b8 dk) (aL (iV 1)))))
def fj:Fn:=bv 3 1 qc
def eY:Ef:=(iV 0)
def fm:Tf:=(aF tW (iV 1) (iC .non))
def lV:Sf:=(aL (iCB ft (aa (aq (iLc 2 [] (bL (aa (iV 0) ac)) (.tp [0,1]) fm eY)) ac)))
def bW:Fn:=bv 1 1 lV
def lj:Sf:=(aL (dJ (aF dEq (iOp dIx (iV 0) (iV 1)) (iC (.int 1))) (iC (.int 1)) (iUn gT (iC (.int 1)))))
def fM:Fn:=bv 2 2 lj
def gY:Ef:=(iOp a9 (aq (iCL xv (aa (iV 0) ac))) (aq (bf (aa (iV 1) ac))))
def gZ:Ef:=(iUn gT (iV 0))
def bQ:List (Str×Ef):=[("amounts",(iCB aS (aa (iV 3) ac))),("lines",(aq (iLc 2 [] (cx (aa (iV 1) (aa (iV 2) ac))) (.tp [0,1]) aM gY))),("goal",(iOp a9 (aq (iLc 1 [] (aC (iV 3)) (.nm 0) aM gZ)) (aq (bf (aa (iC (.int 0)) ac))))),("part",(iC (.int 1))),("free",(bM (yy (aa (iCB aS (aa (iV 3) ac)) ac)))),("kept",(bM (rP (aa (iCB aS (aa (iV 3) ac)) (aa (iOp a9 (iCB aS (aa (iV 3) ac)) (iCB aS (aa (iV 1) ac))) ac)))))]
def aV:Sf:=(ag (be (bT ca (iV 3)) (ag (aA (.nm 5) (iOp aZ (iOp dIx (iV 1) (iV 4)) (iOp dIx (iV 2) (iOp dIx (iV 3) (iC (.int 0)))))) (ag (aA (.nm 6) (iOp aZ (iOp dIx (iV 1) (iOp dIx (iV 3) (iC (.int 0)))) (iOp dIx (iV 2) (iV 4)))) (ag (be (aF dGt (iV 5) (iV 6)) qD aU) (be (aF dLt (iV 5) (iV 6)) (aA (.nm 3) (bM (bf ac))) aU)))) aU) (cw (cI cX (iV 3) (aa (iV 4) ac))))
def ji:Sf:=(ag (aA (.nm 3) (bM (bf ac))) (ag (cE (aC (iV 0)) (.nm 4) aV) (aL (iV 3))))
def fg:Fn:=dW 7 3 ji
def yg:Sf:=(aL (iOp a9 (aq (bf (aa (iC .non) ac))) (aq (rP (aa (aw "amounts" (iV 0)) (aa (iOp a9 (aw "amounts" (iV 0)) (iCB aS (aa (aw "lines" (iV 0)) ac))) ac))))))
def dC:Fn:=bv 1 1 yg
def nC:Ef:=(dJ (aF dEq (iV 0) (iV 1)) (aw "part" (iV 2)) (iC (.int 0)))
def nD:Ef:=(iOp dIx (iV 0) (iV 1))
def nE:Ef:=(iOp dIx (iV 0) (iUn gT (iC (.int 1))))
def fW:Sf:=(ag (be (aF jz (iV 1) (iC .non)) (aL (aq (iLc 1 [] (aC (aw "lines" (iV 0))) (.nm 0) aM nE))) aU) (ag (be (aF dIn (iV 1) (aw "free" (iV 0))) (ag (aA (.nm 2) (zM (aw "free" (iV 0)) (aa (iV 1) ac))) (aL (aq (iLc 1 [2] (aC (aw "lines" (iV 0))) (.nm 0) aM nD)))) aU) (aL (aq (iLc 1 [1,0] (aC (aw "kept" (iV 0))) (.nm 0) aM nC)))))
def cz:Fn:=bv 3 2 fW
def eD:Sf:=(ag (be (aF dLt (iCB aS (aa (iV 3) ac)) (iC (.int 2))) vR aU) (aA (.nm 3) (ax fg (aa (iV 3) (aa (ax cz (aa (iV 0) (aa (iV 4) ac))) (aa (iV 2) ac))))))
def t4:Ef:=(iV 0)
def vi:Tf:=(aF dGt (iV 1) (iC (.int 0)))
def t5:Ef:=(iOp dIx (iV 0) (iV 1))
def qq:Sf:=(ag (aA (.nm 2) (aq (iLc 1 [1] (aC (aw "lines" (iV 0))) (.nm 0) aM t5))) (ag (aA (.nm 3) (aq (iLc 2 [] (bL (aa (iV 2) ac)) (.tp [0,1]) vi t4))) (ag (cE (aC (ax dC (aa (iV 0) ac))) (.nm 4) eD) (aL (dJ (bT ca (iV 3)) (iOp dIx (iV 3) (iC (.int 0))) (iC .non))))))
def iZ:Fn:=bv 5 2 qq
def bV:Sf:=(ag (aA (.nm 6) (ax cz (aa (iV 0) (aa (iV 5) ac)))) (ag (aA (.nm 7) (iOp eW (iOp aZ (iV 4) (iOp dIx (iV 6) (iOp dIx (iV 2) (iC (.int 1))))) (iOp aZ (iV 3) (iOp dIx (iV 6) (iOp dIx (iV 1) (iC (.int 1))))))) (be (aF dNe (iV 7) (iC (.int 0))) (aL (iOp dGt (iV 7) (iC (.int 0)))) aU)))
def qZ:Sf:=(ag (aA (.nm 3) (iOp aZ (iOp dIx (aw "goal" (iV 0)) (iOp dIx (iV 1) (iC (.int 0)))) (iOp dIx (iOp dIx (aw "lines" (iV 0)) (iOp dIx (iV 2) (iC (.int 1)))) (iOp dIx (iV 2) (iC (.int 0)))))) (ag (aA (.nm 4) (iOp aZ (iOp dIx (aw "goal" (iV 0)) (iOp dIx (iV 2) (iC (.int 0)))) (iOp dIx (iOp dIx (aw "lines" (iV 0)) (iOp dIx (iV 1) (iC (.int 1)))) (iOp dIx (iV 1) (iC (.int 0)))))) (ag (cE (aC (ax dC (aa (iV 0) ac))) (.nm 5) bV) (aL (iC (.bl false))))))
def b4:Fn:=bv 8 3 qZ
def bR:Sf:=(ag (be (aF dGe (iOp dIx (aw "goal" (iV 0)) (iV 2)) (iC (.int 0))) qD aU) (ag (aA (.nm 3) (a5 (aa (iV 2) (aa (ax iZ (aa (iV 0) (aa (iV 2) ac))) ac)))) (ag (be (aF jz (iOp dIx (iV 3) (iC (.int 1))) (iC .non)) (aL (iV 3)) aU) (be (cF (aF jz (iV 1) (iC .non)) (bT ca (ax b4 (aa (iV 0) (aa (iV 3) (aa (iV 1) ac)))))) (aA (.nm 1) (iV 3)) aU))))
def tE:Sf:=(ag (aA (.nm 1) (iC .non)) (ag (cE (bH (aa (iCB aS (aa (aw "free" (iV 0)) ac)) ac)) (.nm 2) bR) (aL (iV 1))))
def bK:Fn:=bv 4 1 tE
def lq:Ef:=(iOp rq (iOp eW (iOp aZ (iV 2) (iV 0)) (iOp aZ (iV 3) (iV 1))) (iV 4))
def wT:Sf:=(ag (aA (.nm 4) (iOp dIx (iV 1) (iV 2))) (ag (aA (.nm 5) (iOp dIx (iV 0) (iV 2))) (ag (aA (.nm 6) (bM (iLc 2 [4,5,3] (cx (aa (iV 0) (aa (iV 1) ac))) (.tp [0,1]) aM lq))) (ag (bz (iV 6) (iV 2) (iUn gT (iV 5))) (aL (iV 6))))))
def kL:Fn:=dW 7 4 wT
def dq:Ef:=(ax kL (aa (iV 0) (aa (iV 1) (aa (iV 2) (aa (iV 3) ac)))))
def jv:Sf:=(ag (aA (.nm 3) (iOp dIx (aw "lines" (iV 0)) (iV 1))) (ag (aA (.nm 4) (aw "part" (iV 0))) (ag (i3 5 1 2 3 4 (iLc 1 [3,2,4] (aC (aw "lines" (iV 0))) (.nm 0) aM dq)) (ag (l5 "goal" (iV 0) (ax kL (aa (aw "goal" (iV 0)) (aa (iV 3) (aa (iV 2) (aa (iV 4) ac)))))) (ag (l5 "lines" (iV 0) (iV 5)) (ag (l5 "part" (iV 0) (iOp dIx (iV 3) (iV 2))) (ag (aA (.nm 6) (iOp dIx (aw "free" (iV 0)) (iV 2))) (ag (bz (aw "free" (iV 0)) (iV 2) (iOp dIx (aw "kept" (iV 0)) (iV 1))) (bz (aw "kept" (iV 0)) (iV 1) (iV 6))))))))))
def dR:Fn:=dW 7 3 jv
def oA:Sf:=(be (aF dLt (iV 4) (aw "amounts" (iV 0))) (bz (iV 2) (iV 4) (iUn gT (iOp dIx (iOp dIx (aw "lines" (iV 0)) (iV 3)) (iV 1)))) aU)
def tL:Sf:=(ag (aA (.nm 2) (bM (ug oz (aq (bf (aa (iC (.int 0)) ac))) (aw "amounts" (iV 0))))) (ag (cE (bL (aa (aw "kept" (iV 0)) ac)) (.tp [3,4]) oA) (ag (be (aF dLt (iOp dIx (aw "free" (iV 0)) (iV 1)) (aw "amounts" (iV 0))) (bz (iV 2) (iOp dIx (aw "free" (iV 0)) (iV 1)) (aw "part" (iV 0))) aU) (aL (cN cQ (aa (iV 2) ac))))))
def kM:Fn:=dW 5 2 tL
def ir:Sf:=(be (aF dLt (iV 3) (aw "amounts" (iV 0))) (bz (iV 1) (iV 3) (iOp dIx (iOp dIx (aw "lines" (iV 0)) (iV 2)) (iUn gT (iC (.int 1))))) aU)
def jW:Sf:=(ag (aA (.nm 1) (bM (ug oz (aq (bf (aa (iC (.int 0)) ac))) (aw "amounts" (iV 0))))) (ag (cE (bL (aa (aw "kept" (iV 0)) ac)) (.tp [2,3]) ir) (aL (iV 1))))
def gk:Fn:=dW 4 1 jW
def jq:Sf:=(be (aF dGe (iV 3) (aw "amounts" (iV 0))) (bz (iV 1) (iOp eW (iV 3) (aw "amounts" (iV 0))) (iOp dIx (aw "goal" (iV 0)) (iV 2))) aU)
def lU:Sf:=(ag (aA (.nm 1) (bM (ug oz (aq (bf (aa (iC (.int 0)) ac))) (iCB aS (aa (aw "lines" (iV 0)) ac))))) (ag (cE (bL (aa (aw "free" (iV 0)) ac)) (.tp [2,3]) jq) (aL (iV 1))))
def iB:Fn:=dW 4 1 lU
def dF:Ef:=(iOp rq (iV 0) (iV 1))
def dG:Ef:=(iOp rq (iV 0) (iV 1))
def jX:Sf:=(ag (aA (.nm 1) (ax gk (aa (iV 0) ac))) (ag (aA (.nm 2) (ax iB (aa (iV 0) ac))) (ag (aA (.nm 3) (ax bo (aa (iOp a9 (iOp a9 (aq (bf (aa (aw "part" (iV 0)) ac))) (iV 1)) (iV 2)) ac))) (aL (a5 (aa (iC (.str "most")) (aa (iOp rq (aw "part" (iV 0)) (iV 3)) (aa (iCB ft (aa (aq (iLc 1 [3] (aC (iV 1)) (.nm 0) aM dG)) ac)) (aa (iCB ft (aa (aq (iLc 1 [3] (aC (iV 2)) (.nm 0) aM dF)) ac)) ac)))))))))
def gm:Fn:=bv 4 1 jX
def gv:Tf:=(aF tW (iV 4) (iC .non))
def eP:Sf:=(ag (be (aF jz (iOp dIx (iV 4) (iC (.int 1))) (iC .non)) (aL (a5 (aa (iC (.str "beyond")) (aa (cN kM (aa (iV 3) (aa (iOp dIx (iV 4) (iC (.int 0))) ac))) ac)))) aU) (ag (cw (ax dR (aa (iV 3) (aa (iOp dIx (iV 4) (iC (.int 1))) (aa (iOp dIx (iV 4) (iC (.int 0))) ac))))) (aA (.nm 4) (cN bK (aa (iV 3) ac)))))
def li:Sf:=(ag (aA (.nm 3) (nO 4 4 bQ (aa (iV 0) (aa (iV 1) (aa (iV 2) ac))))) (ag (aA (.nm 4) (cN bK (aa (iV 3) ac))) (ag (ly (2^8000) gv eP) (aL (cN gm (aa (iV 3) ac))))))
def i4:Fn:=bv 5 3 li
def rK:Ef:=(iOp a9 (iV 0) (a5 (aa (iV 2) ac)))
def sP:Tf:=(aF dLt (iCB aS (aa (iV 0) ac)) (iV 1))
def se:Sf:=(aA (.nm 2) (iOp a9 (iV 2) (aq (iLc 1 [1,3] (aC (iV 2)) (.nm 0) sP rK))))
def vF:Sf:=(ag (aA (.nm 2) (aq (bf (aa (a5 ac) ac)))) (ag (cE (bH (aa (iV 0) ac)) (.nm 3) se) (aL (iCB ft (aa (aq (iCL rZ (aa (iV 2) ac))) ac)))))
def jL:Fn:=bv 4 2 vF
def du:Ef:=(ax su (aa (iV 1) (aa (iV 0) ac)))
def vG:Sf:=(ag (aA (.nm 3) (iCB rC (aa (aq (iLc 1 [2] (aC (iV 1)) (.nm 0) aM du)) ac))) (ag (be (aF dEq (iV 0) (iC (.str "both"))) (aL (dJ (aF dEq (iV 3) (iCB aS (aa (iV 1) ac))) (iC (.int 1)) (iC (.int 0)))) aU) (aL (dJ (aF dEq (iOp f7 (iV 3) (iC (.int 2))) (iC (.int 1))) (iUn gT (iC (.int 1))) (iC (.int 1))))))
def jM:Fn:=bv 4 3 vG
def jn:Ef:=(a5 (aa (iV 0) (aa (yA (iV 1) (iV 0)) ac)))
def jt:Tf:=(aF dNe (yA (iV 1) (iV 0)) (iC (.int 0)))
def tJ:Sf:=(aL (a5 (aa (iV 0) (aa (iCB ft (aa (aq (iLc 1 [1] (aC (aq (lx (iV 1)))) (.nm 0) jt jn)) ac)) ac))))
def iA:Fn:=bv 2 2 tJ
def nF:Ef:=(a5 (aa (iV 0) (aa (iOp rq (iV 1) (iV 2)) ac)))
def zm:Sf:=(aL (a5 (aa (iOp dIx (iV 0) (iC (.int 0))) (aa (iCB ft (aa (aq (iLc 2 [1] (aC (iOp dIx (iV 0) (iC (.int 1)))) (.tp [0,1]) aM nF)) ac)) ac))))
def oO:Fn:=bv 2 2 zm
def nG:Ef:=(iV 1)
def zn:Sf:=(aL (ax oO (aa (iV 0) (aa (ax bo (aa (aq (iLc 2 [] (aC (iOp dIx (iV 0) (iC (.int 1)))) (.tp [0,1]) aM nG)) ac)) ac))))
def oP:Fn:=bv 1 1 zn
def gN:Sf:=(aL (iOp aZ (ax fM (aa (iV 0) (aa (iV 3) ac))) (ax jM (aa (iV 1) (aa (iV 2) (aa (iV 3) ac))))))
def cA:Fn:=bv 4 4 gN
def d7:Ef:=(ax cA (aa (iV 1) (aa (iV 2) (aa (iV 0) (aa (iV 3) ac)))))
def d8:Ef:=(aq (iLc 1 [2,3,0] (aC (iV 1)) (.nm 0) aM d7))
def mz:Sf:=(aL (aq (iLc 1 [2,0,1] (aC (ax bW (aa (iV 0) ac))) (.nm 0) aM d8)))
def di:Fn:=bv 3 3 mz
def vO:Ef:=(dJ (aF dEq (iV 0) (iV 1)) (iC (.int 1)) (iC (.int 0)))
def zk:Sf:=(aL (aq (iLc 1 [0] (bH (aa (iV 1) ac)) (.nm 0) aM vO)))
def kK:Fn:=bv 2 2 zk
def jm:Ef:=(iUn gT (iV 0))
def tF:Sf:=(aL (iOp a9 (aq (iCL xv (aa (iV 0) ac))) (aq (iLc 1 [] (aC (iV 0)) (.nm 0) aM jm))))
def iz:Fn:=bv 1 1 tF
def iw:Sf:=(xk (iV 3) (iV 5) (iOp eW (iOp dIx (iV 2) (iV 4)) (iOp dIx (iV 2) (iOp a9 (iCB aS (aa (iV 1) ac)) (iV 4)))))
def qr:Sf:=(ag (aA (.nm 3) Dy) (ag (cE (bL (aa (iV 1) ac)) (.tp [4,5]) iw) (aL (ax oP (aa (ax iA (aa (iV 0) (aa (iV 3) ac))) ac)))))
def i5:Fn:=dW 6 3 qr
def oB:Sf:=(bz (iV 2) (iV 3) (iV 4))
def jY:Sf:=(ag (aA (.nm 2) (bM (ug oz (aq (bf (aa (iC (.int 0)) ac))) (iCB aS (aa (iV 0) ac))))) (ag (cE (cx (aa (ax bW (aa (iV 0) ac)) (aa (iV 1) ac))) (.tp [3,4]) oB) (aL (iCB ft (aa (iV 2) ac)))))
def dw:Fn:=dW 5 2 jY
def f8:Ef:=(iCB ft (aa (iV 0) ac))
def f9:Ef:=(iOp a9 (iOp aZ (aq (bf (aa (iC (.int 0)) ac))) (iOp aZ (iC (.int 2)) (iCB aS (aa (iV 1) ac)))) (ax kK (aa (iV 0) (aa (iV 2) ac))))
def sF:Sf:=(ag (aA (.nm 6) (aq (iLc 1 [2,4] (bH (aa (iV 4) ac)) (.nm 0) aM f9))) (ag (aA (.nm 7) (ax i4 (aa (iCB ft (aa (aq (iLc 1 [] (aC (iOp a9 (iV 5) (iV 6))) (.nm 0) aM f8)) ac)) (aa (iOp a9 (iOp aZ (a5 (aa (iC (.int 0)) ac)) (iV 4)) (iOp aZ (a5 (aa (iC (.int 1)) ac)) (iV 4))) (aa (iOp a9 (iOp aZ (a5 (aa (iC (.int 0)) ac)) (iOp aZ (iC (.int 2)) (iCB aS (aa (iV 2) ac)))) (iOp aZ (a5 (aa (iC (.int 1)) ac)) (iV 4))) ac))))) (aL (a5 (aa (ax i5 (aa (iV 1) (aa (iV 2) (aa (iOp dIx (iV 7) (iC (.int 2))) ac)))) (aa (ax cQ (aa (ax dw (aa (iV 0) (aa (iSl (iOp dIx (iV 7) (iC (.int 3))) iPn (iPs (iV 4))) ac))) ac)) ac))))))
def rJ:Ef:=(iUn gT (iV 0))
def j0:Ef:=(iOp a9 (ax iz (aa (aq (iLc 1 [] (aC (iV 1)) (.nm 0) aM rJ)) ac)) (ax kK (aa (iV 0) (aa (iV 2) ac))))
def jw:Sf:=(ag (aA (.nm 3) (ax di (aa (iV 0) (aa (iV 1) (aa (iV 2) ac))))) (ag (aA (.nm 4) (iCB aS (aa (iV 3) ac))) (ag (be (aF dEq (iV 4) (iC (.int 0))) (aL (a5 (aa (a5 (aa (iV 1) (aa (a5 ac) ac))) (aa (ax dw (aa (iV 0) (aa (a5 ac) ac))) ac)))) aU) (ag (aA (.nm 5) (aq (iLc 2 [4] (bL (aa (iV 3) ac)) (.tp [0,1]) aM j0))) sF))))
def jK:Fn:=bv 8 3 jw
def zo:Sf:=(ag (aA (.nm 3) (ax jK (aa (iV 0) (aa (iV 1) (aa (iV 2) ac))))) (ag (be (bT ca (iCB Eg (aa (iOp dIx (iV 3) (iC (.int 1))) ac))) (aL (a5 (aa (iC (.str "bar")) (aa (iOp dIx (iV 3) (iC (.int 1))) ac)))) aU) (aL (a5 (aa (iC (.str "poly")) (aa (iOp dIx (iV 3) (iC (.int 0))) ac))))))
def oQ:Fn:=bv 4 3 zo
def gX (self:Fn):Ef:=(iOp a9 (a5 (aa (iV 1) ac)) (iV 0))
def iu (self:Fn):Sf:=(cw (cI oM (iV 2) (aa (aq (iLc 1 [4] (aC (ax self (aa (iSl (iV 0) (iPs (iOp a9 (iV 3) (iC (.int 1)))) iPn) (aa (iOp eW (iV 1) (iC (.int 1))) ac)))) (.nm 0) aM (gX self))) ac)))
def fV (self:Fn):Sf:=(ag (be (aF dEq (iV 1) (iC (.int 0))) (aL (aq (bf (aa (a5 ac) ac)))) aU) (ag (aA (.nm 2) (bM (bf ac))) (ag (cE (bL (aa (iV 0) ac)) (.tp [3,4]) (iu self)) (aL (iV 2)))))
noncomputable def bb:Nat->Fn
 |0=>λ_ _=>none
 |n+1=>dW 5 2 (fV (bb n))
def fK:Sf:=(ag (aA (.nm 5) (ax oQ (aa (iV 0) (aa (iV 1) (aa (iV 4) ac))))) (ag (be (aF dEq (iOp dIx (iV 5) (iC (.int 0))) (iC (.str "poly"))) (aL (iV 5)) aU) (cw (cI cX (iV 3) (aa (a5 (aa (iV 4) (aa (iOp dIx (iV 5) (iC (.int 1))) ac))) ac)))))
def re:Sf:=(ag (aA (.nm 3) (bM (bf ac))) (ag (cE (aC (iV 2)) (.nm 4) fK) (aL (a5 (aa (iC (.str "bars")) (aa (iCB ft (aa (iV 3) ac)) ac))))))
def gn:Fn:=dW 6 3 re
def eQ:Tf:=(aF dEq (iOp dIx (iV 6) (iC (.int 0))) (iC (.str "bars")))
def gu:Sf:=(ag (aA (.nm 5) (iOp dIx (iV 6) (iC (.int 1)))) (ag (aA (.nm 4) (iOp a9 (iV 4) (iC (.int 1)))) (aA (.nm 6) (ax gn (aa (iV 0) (aa (iV 1) (aa (ax (bb 10) (aa (iV 3) (aa (iV 4) ac))) ac)))))))
def wu:Sf:=(ag (aA (.nm 6) (ax gn (aa (iV 0) (aa (iV 1) (aa (ax (bb 10) (aa (iV 3) (aa (iV 4) ac))) ac))))) (ag (ly (2^8000) eQ gu) (aL (a5 (aa (iOp dIx (iV 6) (iC (.int 1))) (aa (iV 5) ac))))))
def tH:Sf:=(ag (aA (.nm 2) (ax fj (aa (iV 0) ac))) (ag (aA (.nm 3) (ax jL (aa (iV 2) (aa (iV 2) ac)))) (ag (aA (.nm 4) (iC (.int 0))) (ag (aA (.nm 5) (a5 ac)) wu))))
def fL:Fn:=bv 7 2 tH
def kH:Sf:=(ag (aA (.nm 1) (iOp f7 (iOp a9 (iOp aZ (iV 1) (iC (.int 69621))) (iV 3)) (iC (.int 2305843009213693951)))) (be (aF dGe (iCB ym (aa (iV 3) ac)) (iOp BU (iC (.int 10)) (iC (.int 18)))) (cw (cI cX (iV 2) (aa (iCB ym (aa (iV 3) ac)) ac))) aU))
def vE:Sf:=(ag (rQ 1 2 (aa (iOp a9 (iOp aZ (iC (.int 7)) (iCB aS (aa (iV 0) ac))) (iC (.int 5))) (aa (bM (bf ac)) ac))) (ag (cE (aC (iSl (iV 0) iPn (iPs (iC (.int 63))))) (.nm 3) kH) (aL (zN (aa (iV 2) (aa (iV 1) (aa (iC (.int 0)) ac)))))))
def jJ:Fn:=bv 4 1 vE
def iS:Tf:=(fB (aF dNe (cO (iV 0) (iC (.int 0))) (aq (bf ac))) (aF dEq (iOp dIx (cO (iV 0) (iC (.int 0))) (iC (.int 0))) (iC (.int 0))))
def ju:Sf:=(cw (cI we (cO (iV 0) (iC (.int 0))) (aa (iC (.int 0)) ac)))
def tw:Sf:=(ag (ly (2^8000) iS ju) (ag (be (aF dNe (cO (iV 0) (iC (.int 0))) (aq (bf ac))) (ag (aA (.nm 2) (iOp f7 (iOp dIx (cO (iV 0) (iC (.int 0))) (iC (.int 0))) (iV 1))) (ag (bz (cO (iV 0) (iC (.int 0))) (iC (.int 0)) (iOp gR (iOp dIx (cO (iV 0) (iC (.int 0))) (iC (.int 0))) (iV 1))) (aL (iV 2)))) aU) (ag (j6 (iV 0) (iC (.int 2)) (iOp a9 (cO (iV 0) (iC (.int 2))) (iC (.int 1)))) (ag (aA (.nm 3) (iOp f7 (iOp aZ (iOp a9 (cO (iV 0) (iC (.int 1))) (iOp aZ (iOp aZ (iC (.int 611953)) (cO (iV 0) (iC (.int 2)))) (cO (iV 0) (iC (.int 2))))) (iC (.int 48271))) (iC (.int 2305843009213693951)))) (ag (aA (.nm 4) (iOp a9 (iOp a9 (iOp gR (iV 3) (iC (.int 1009))) (iOp aZ (iC (.int 40692)) (cO (iV 0) (iC (.int 2))))) (iC (.int 3)))) (aL (iOp f7 (iOp gR (iOp f7 (iOp aZ (iOp a9 (iV 3) (cO (iV 0) (iC (.int 2)))) (iV 4)) (iC (.int 2305843009213693921))) (iC (.int 4099))) (iV 1))))))))
def aY:Fn:=bv 5 2 tw
def jl:Ef:=(iV 0)
def jr:Tf:=(aF dEq (iOp vL (iOp yo (iV 1) (iV 0)) (iC (.int 1))) (iC (.int 1)))
def tB:Sf:=(ag (aA (.nm 3) (iCB aS (aa (aq (iLc 1 [2] (aC (iV 1)) (.nm 0) jr jl)) ac))) (aL (dJ (aF dEq (iV 0) (iC (.str "both"))) (iCB vN (aa (iOp dEq (iV 3) (iCB aS (aa (iV 1) ac))) ac)) (iOp eW (iC (.int 1)) (iOp aZ (iC (.int 2)) (iOp f7 (iV 3) (iC (.int 2))))))))
def eE:Fn:=bv 4 3 tB
def ny:Ef:=(iV 0)
def pR:Tf:=(aF dEq (iOp vL (iOp yo (iV 1) (iV 0)) (iC (.int 1))) (iC (.int 1)))
def nA:Ef:=(iCB ft (aa (aq (iLc 1 [0] (bH (aa (iV 1) ac)) (.nm 0) pR ny)) ac))
def qX:Sf:=(aL (aq (iCL rZ (aa (aq (iLc 1 [0] (bH (aa (iOp BV (iC (.int 1)) (iV 0)) ac)) (.nm 0) aM nA)) ac))))
def gh:Fn:=bv 1 1 qX
def nB:Ef:=(iOp aZ (iV 1) (ax eE (aa (iOp dIx (iV 2) (iC (.int 0))) (aa (iV 0) (aa (iV 3) ac)))))
def qY:Sf:=(aL (iCB rC (aa (aq (iLc 2 [0,1] (aC (iOp dIx (iV 0) (iC (.int 1)))) (.tp [0,1]) aM nB)) ac)))
def gj:Fn:=bv 2 2 qY
def cM:Ef:=(iOp dLt (iV 0) (iV 1))
def fu:Ef:=(uf (iV 1) (aa (iCB cu (aa (iOp dIx (iV 0) (iC (.int 0))) ac)) ac))
def fI:Sf:=(ag (be (cF (ce (bT ca (iCB jA (aa (iV 4) (aa (iC (.ty "tuple")) ac))))) (cF (aF dNe (iCB aS (aa (iV 4) ac)) (iC (.int 2))) (aF rA (iCB cu (aa (iOp dIx (iV 4) (iC (.int 0))) ac)) (iV 3)))) (aL (iC (.bl false))) aU) (be (cF (ce (bT ca (iCB jA (aa (iOp dIx (iV 4) (iC (.int 1))) (aa (iC (.ty "int")) ac))))) (cF (bT ca (iCB jA (aa (iOp dIx (iV 4) (iC (.int 1))) (aa (iC (.ty "bool")) ac)))) (aF dEq (iOp dIx (iV 4) (iC (.int 1))) (iC (.int 0))))) (aL (iC (.bl false))) aU))
def fz:Ef:=(iCB cu (aa (iV 0) ac))
def gM:Sf:=(ag (be (cF (ce (bT ca (iCB jA (aa (iV 0) (aa (iC (.ty "tuple")) ac))))) (cF (aF dNe (iCB aS (aa (iV 0) ac)) (iC (.int 2))) (cF (ce (bT ca (iCB jA (aa (iOp dIx (iV 0) (iC (.int 0))) (aa (iC (.ty "str")) ac))))) (aF dNe (iOp dIx (iV 0) (iC (.int 0))) (iV 1))))) (aL (iC (.bl false))) aU) (ag (be (ce (bT ca (iCB jA (aa (iOp dIx (iV 0) (iC (.int 1))) (aa (iC (.ty "tuple")) ac))))) (aL (iC (.bl false))) aU) (ag (aA (.nm 3) (aq (iLc 1 [] (aC (iV 2)) (.nm 0) aM fz))) (ag (cE (aC (iOp dIx (iV 0) (iC (.int 1)))) (.nm 4) fI) (ag (aA (.nm 5) (aq (iLc 1 [3] (aC (iOp dIx (iV 0) (iC (.int 1)))) (.nm 0) aM fu))) (aL (iCB BS (aa (aq (iLc 2 [] (cx (aa (iV 5) (aa (iSl (iV 5) (iPs (iC (.int 1))) iPn) ac))) (.tp [0,1]) aM cM)) ac))))))))
def dQ:Fn:=bv 6 3 gM
def cv:Ef:=(iOp dGt (iOp aZ (ax gj (aa (iV 1) (aa (iV 0) ac))) (iOp eW (iOp aZ (iC (.int 2)) (iOp dIx (iV 2) (iV 0))) (iC (.int 1)))) (iC (.int 0)))
def d6:Ef:=(iV 0)
def eM:Tf:=(aF tW (iV 1) (iC .non))
def mx:Sf:=(ag (aA (.nm 2) (aq (iLc 2 [] (bL (aa (iV 1) ac)) (.tp [0,1]) eM d6))) (aL (iCB BS (aa (aq (iLc 1 [0,1] (aC (iV 2)) (.nm 0) aM cv)) ac))))
def dh:Fn:=bv 3 2 mx
def mB:Ef:=(iOp aZ (iOp aZ (iOp dIx (iV 1) (iV 0)) (iOp eW (iOp aZ (iC (.int 2)) (iOp dIx (iV 2) (iV 0))) (iC (.int 1)))) (ax eE (aa (iV 3) (aa (iV 4) (aa (iV 0) ac)))))
def gy:Sf:=(be (aF dNe (iCB rC (aa (aq (iLc 1 [3,0,1,7] (aC (iV 6)) (.nm 0) aM mB)) ac)) (iC (.int 0))) (aL (iC (.bl false))) aU)
def gx:Ef:=(iV 0)
def gD:Tf:=(aF dGt (iV 1) (iC (.int 0)))
def gz:Sf:=(be (cF (ce (bT ca (iCB jA (aa (iV 5) (aa (iC (.ty "int")) ac))))) (cF (bT ca (iCB jA (aa (iV 5) (aa (iC (.ty "bool")) ac)))) (cF (aF dLt (iV 5) (iC (.int 0))) (fB (aF jz (iV 4) (iC .non)) (aF dNe (iV 5) (iC (.int 0))))))) (aL (iC (.bl false))) aU)
def pZ:Sf:=(ag (be (cF (ce (bT ca (iCB jA (aa (iV 3) (aa (iC (.ty "tuple")) ac))))) (aF dNe (iCB aS (aa (iV 3) ac)) (iCB aS (aa (iV 0) ac)))) (aL (iC (.bl false))) aU) (ag (cE (cx (aa (iV 0) (aa (iV 3) ac))) (.tp [4,5]) gz) (ag (aA (.nm 6) (aq (iLc 2 [] (bL (aa (iV 3) ac)) (.tp [0,1]) gD gx))) (ag (cE (aC (iV 2)) (.nm 7) gy) (aL (iOp dNe (iV 6) (aq (bf ac))))))))
def e9:Fn:=bv 8 4 pZ
def cK:Ef:=(iOp a9 (iV 1) (a5 (aa (iV 0) ac)))
def b7:Tf:=(cF (aF dEq (iV 1) (a5 ac)) (aF yn (iV 0) (iOp dIx (iV 1) (iUn gT (iC (.int 1))))))
def fH:Sf:=(cw (cI oM (iV 4) (aa (aq (iLc 1 [5] (aC (iV 0)) (.nm 0) b7 cK)) ac)))
def cP:Sf:=(ag (aA (.nm 4) (bM (bf ac))) (ag (ue (iV 2) (.nm 5) fH) (aA (.nm 2) (iV 4))))
def gL:Sf:=(ag (aA (.nm 2) (bM (bf (aa (a5 ac) ac)))) (ag (cE (bH (aa (iV 1) ac)) (.nm 3) cP) (aL (iV 2))))
def cy:Fn:=dW 6 2 gL
def eh:Sf:=(ag (be (cF (ce (bT ca (iCB jA (aa (iV 7) (aa (iC (.ty "tuple")) ac))))) (cF (aF dNe (iCB aS (aa (iV 7) ac)) (iC (.int 2))) (aF dNe (iCB cu (aa (iOp dIx (iV 7) (iC (.int 0))) ac)) (iCB cu (aa (iV 6) ac))))) (aL (iC (.bl false))) aU) (be (ce (bT ca (ax e9 (aa (iV 0) (aa (iV 1) (aa (iV 6) (aa (iOp dIx (iV 7) (iC (.int 1))) ac))))))) (aL (iC (.bl false))) aU))
def kW:Sf:=(ag (aA (.nm 5) (dJ (aF dGt (iV 4) (iC (.int 0))) (ax cy (aa (iV 3) (aa (iOp eW (iV 4) (iC (.int 1))) ac))) (aq (bf ac)))) (ag (be (aF dNe (iCB aS (aa (iOp dIx (iV 2) (iC (.int 1))) ac)) (iCB aS (aa (iV 5) ac))) (aL (iC (.bl false))) aU) (ag (cE (cx (aa (iV 5) (aa (iOp dIx (iV 2) (iC (.int 1))) ac))) (.tp [6,7]) eh) (aL (iC (.bl true))))))
def mw:Sf:=(ag (aA (.nm 3) (ax gh (aa (iOp eW (qC (iCB aS (aa (iV 0) ac))) (iC (.int 1))) ac))) (ag (be (cF (ce (bT ca (iCB jA (aa (iV 2) (aa (iC (.ty "tuple")) ac))))) (cF (aF dNe (iCB aS (aa (iV 2) ac)) (iC (.int 2))) (ce (bT ca (iCB jA (aa (iOp dIx (iV 2) (iC (.int 1))) (aa (iC (.ty "tuple")) ac))))))) (aL (iC (.bl false))) aU) (ag (be (cF (ce (bT ca (ax dQ (aa (iOp dIx (iV 2) (iC (.int 0))) (aa (iV 1) (aa (iV 3) ac)))))) (ce (bT ca (ax dh (aa (iOp dIx (iV 2) (iC (.int 0))) (aa (iV 0) ac)))))) (aL (iC (.bl false))) aU) (ag (aA (.nm 4) (iCB aS (aa (iOp dIx (iOp dIx (iV 2) (iC (.int 0))) (iC (.int 1))) ac))) kW))))
def dg:Fn:=bv 8 3 mw
def cL:Ef:=(dJ (aF dEq (ax aY (aa (iV 1) (aa (iC (.int 3)) ac))) (iC (.int 0))) (iC .non) (iV 0))
def nv:Ef:=(iV 0)
def pP:Tf:=(aF dEq (iOp vL (iOp yo (iOp vL (iV 1) (iV 2)) (iV 0)) (iC (.int 1))) (iC (.int 1)))
def nw:Ef:=(iV 0)
def pQ:Tf:=(aF dEq (iOp vL (iOp yo (iV 1) (iV 0)) (iC (.int 1))) (iC (.int 1)))
def jG:Sf:=(ag (aA (.nm 10) (iCB aS (aa (aq (iLc 1 [9] (bH (aa (iV 1) ac)) (.nm 0) pQ nw)) ac))) (ag (aA (.nm 11) (iCB aS (aa (aq (iLc 1 [9,5] (bH (aa (iV 1) ac)) (.nm 0) pP nv)) ac))) (ag (aA (.nm 12) (ax aY (aa (iV 0) (aa (iC (.int 2)) ac)))) (ag (aA (.nm 13) (aq (bf (aa (iV 12) (aa (iV 12) (aa (iOp f7 (iV 11) (iC (.int 2))) (aa (iCB vN (aa (iOp dGe (iV 10) (iV 6)) ac)) (aa (iCB vN (aa (iOp dEq (iV 9) (iV 5)) ac)) (aa (iCB vN (aa (iOp dEq (iOp vL (iV 9) (iV 5)) (iV 5)) ac)) ac))))))))) (cw (cI cX (iV 8) (aa (iOp f7 (iOp a9 (iOp dIx (iV 13) (iV 4)) (iV 7)) (iC (.int 2))) ac)))))))
def jV:Sf:=(ag (rQ 3 4 (aa (iOp BV (iC (.int 1)) (iV 1)) (aa (ax aY (aa (iV 0) (aa (iC (.int 6)) ac))) ac))) (ag (uh 5 6 7 (aa (ax aY (aa (iV 0) (aa (iV 3) ac))) (aa (ax aY (aa (iV 0) (aa (iOp a9 (iV 1) (iC (.int 2))) ac))) (aa (iOp gR (ax aY (aa (iV 0) (aa (iC (.int 4)) ac))) (iC (.int 3))) ac)))) (ag (aA (.nm 8) (bM (bf ac))) (ag (cE (bH (aa (iV 3) ac)) (.nm 9) jG) (ag (be (fB (ce (bT ca (iV 2))) (aF dEq (ax aY (aa (iV 0) (aa (iC (.int 2)) ac))) (iC (.int 0)))) (aA (.nm 8) (bM (mD 1 [0] (iV 8) (.nm 0) aM cL))) aU) (aL (iCB ft (aa (iV 8) ac))))))))
def oN:Fn:=dW 14 3 jV
def r8:Sf:=(ag (aA (.nm 3) (iOp dIx (iOp dIx (aq (bf (aa (aq (bf (aa (iC (.int 3)) (aa (iC (.int 2)) (aa (iC (.int 3)) (aa (iC (.int 1)) ac)))))) (aa (aq (bf (aa (iC (.int 0)) (aa (iC (.int 1)) (aa (iC (.int 2)) (aa (iC (.int 2)) ac)))))) ac)))) (iCB vN (aa (iOp dGt (iV 2) (iC (.int 0))) ac))) (ax aY (aa (iV 1) (aa (iC (.int 4)) ac))))) (ag (rQ 4 5 (aa (ax oN (aa (iV 1) (aa (iV 3) (aa (iC (.bl false)) ac)))) (aa (iOp dIx (aq (bf (aa (iC (.str "both")) (aa (iC (.str "odd")) ac)))) (ax aY (aa (iV 1) (aa (iC (.int 2)) ac)))) ac))) (ag (aA (.nm 6) (ax fL (aa (iV 4) (aa (iV 5) ac)))) (ag (be (ce (bT ca (ax dg (aa (iV 4) (aa (iV 5) (aa (iV 6) ac)))))) (aL (iC (.bl false))) aU) (be (fB (aF dLt (iV 3) (iC (.int 3))) (aF dNe (iCB cu (aa (ax fL (aa (iV 4) (aa (iV 5) ac))) ac)) (iCB cu (aa (iV 6) ac)))) (aL (iC (.bl false))) aU)))))
def F5:Sf:=(ag (aA (.nm 1) (ax jJ (aa (iV 0) ac))) (ag (cE (bH (aa (iC (.int 4)) ac)) (.nm 2) r8) (aL (iC (.bl true)))))
def uI:Fn:=dW 7 1 F5
end
end Own
section
set_option maxHeartbeats 0
namespace Own
open PySem L2
noncomputable def top (i:Nat):Stmt:=PySem.Challenge.pw_signpoly_k48_fewest_told.main.body.getD i (.Pass ⟨0,0,0,0⟩)
noncomputable def BQ (s:Stmt):List Stmt:=match s with
 |.ClassDef _ _ _ b _ _ _ _ _ _ _=>b
 |_=>[]
abbrev b6:Stmt:=(BQ (top 10)).getD 0 (.Pass ⟨0,0,0,0⟩)
theorem qj:cf ["self","rows","bounds","gains"] ["self","rows","bounds","gains"] (ao b6):=⟨U,U,U,by decide +kernel,U,by decide +kernel,by decide +kernel⟩
abbrev rT (x:Str) (i:Nat) (N:List Str) (k:Nat):Str×Nat×List Str×Nat:=(x,i,N,k)
noncomputable def tbl:List (Str×Nat×List Str×Nat):=[rT "power_of_two" 1 ["k","power","step"] 1,rT "on_in" 2 ["row","k"] 2,rT "greatest_part" 3 ["numbers","found","number","rest","over"] 1,rT "lowered" 4 ["numbers","shared"] 1,rT "switches_of" 6 ["f","many","rows"] 1,rT "told_rows" 7 ["f"] 1,rT "sign_at" 8 ["f","row"] 2,rT "least_ratio" 11 ["places","tops","bottoms","least","place","mine","best"] 3,rT "weighed" 12 ["table"] 1,rT "numbers_by" 13 ["table","name","column"] 2,rT "leaving" 14 ["table","column","entries","places","name"] 2,rT "gains_more" 15 ["table","one","other","mine","best","name","numbers","more"] 3,rT "best_step" 16 ["table","best","column","step"] 1,rT "swept" 17 ["line","turning","column","part","pivot","entry","told"] 4,rT "exchange" 18 ["table","place","column","turning","part","lines","name"] 3,rT "way_of" 19 ["table","column","way","place","name"] 2,rT "amounts_of" 20 ["table","amounts","place","name"] 1,rT "prices_of" 21 ["table","prices","column","name"] 1,rT "found_most" 22 ["table","amounts","prices","shared"] 1,rT "most_of" 23 ["rows","bounds","gains","table","step"] 3,rT "terms_to" 25 ["n","size","terms","k"] 2,rT "value_of" 26 ["kind","term","row","many"] 3,rT "poly_from" 28 ["kind","numbers"] 2,rT "parted" 30 ["poly","number"] 2,rT "shrunk" 31 ["poly"] 1,rT "signed_value" 33 ["f","kind","term","row"] 4,rT "signed_values" 34 ["f","kind","terms"] 3,rT "one_at" 36 ["place","many"] 2,rT "both_ways" 37 ["numbers"] 1,rT "poly_by" 38 ["kind","terms","amounts","numbers","place","term"] 3,rT "weights_by" 39 ["f","numbers","weights","row","number"] 2,rT "split_of" 40 ["f","kind","terms","values","many","earned","limits","most"] 3,rT "solved" 41 ["f","kind","terms","split"] 3,rT "choices_of" 43 ["things","many","choices","place","thing"] 2,rT "tried" 44 ["f","kind","choices","bars","terms","answer"] 3,rT "fewest" 45 ["f","kind","n","every","many","bars","answer"] 2,rT "_law_pot" 47 ["_law_script","_law_seed","_law_great","_law_cell"] 1,rT "_law_draw" 48 ["_law_pot_here","_law_many","_law_digit","_law_once","_law_by"] 2,rT "_law_term" 49 ["_law_kind","_law_term_here","_law_row","_law_on"] 3,rT "_law_terms" 50 ["_law_n"] 1,rT "_law_value" 51 ["_law_poly","_law_row"] 2,rT "_law_is_poly" 52 ["_law_thing","_law_kind","_law_terms_here","_law_every","_law_part","_law_places"] 3,rT "_law_right_at" 53 ["_law_poly","_law_f_here","_law_rows"] 2,rT "_law_is_bar" 54 ["_law_f_here","_law_kind","_law_terms_here","_law_thing","_law_value_here","_law_weight","_law_rows","_law_term_here"] 4,rT "_law_choices" 55 ["_law_terms_here","_law_many","_law_found","_law_turn","_law_more","_law_some"] 2,rT "_law_is_paper" 56 ["_law_f_here","_law_kind","_law_thing","_law_terms_here","_law_many","_law_every","_law_some","_law_pair"] 3,rT "_law_f" 57 ["_law_pot_here","_law_n","_law_full","_law_many","_law_way","_law_mask","_law_least","_law_other","_law_values","_law_row","_law_on","_law_in_mask","_law_drawn","_law_some"] 3,rT "law" 58 ["_law_script","_law_pot_here","_law_turn","_law_n","_law_f_here","_law_kind","_law_found"] 1]
def tR (i:Nat):Str×Nat×List Str×Nat:=tbl.getD i ("",0,[],0)
def tN (i:Nat):Str:=(tR i).1
def tS (i:Nat):Stmt:=top (tR i).2.1
def tV (i:Nat):List Str:=(tR i).2.2.1
def tK (i:Nat):Nat:=(tR i).2.2.2
theorem scs:∀ p∈tbl,cf p.2.2.1 (p.2.2.1.take p.2.2.2) (ao (top p.2.1)):=by
 iterate 48 refine qcU.2 ⟨⟨U,U,U,by decide +kernel,U,by decide +kernel,by decide +kernel⟩,?_⟩
 exact λ_ h=>nomatch h
structure Txt (K:qae) (mg:Str->Option Value):Prop where
 F:∀ p∈tbl,∃ f g,Fun K p.1 p.1 (top p.2.1) f g/\mg p.1=some (.ref f)/\cY K g (p.2.2.1.take p.2.2.2) []
 z:∀ x∈(["abs","all","any","bool","enumerate","int","isinstance","len","list","range","repr","sorted","str","sum","tuple","zip"]:List Str),mg x=none
 c:∃ a f g,mg "Table" = some (.ref a)/\Fun K "__init__" "Table.__init__" b6 f g/\cY K g ["self","rows","bounds","gains"] []/\Mk K a f/\Cls K a/\∀ p∈bQ,cj K a p.1
section
variable {P:qaR}{w:World}{K:qae}{mg:Str->Option Value}{base:Heap}
theorem Bn (h:i<48):tR i∈tbl :=by
 unfold tR;rw[qaA,qal (show i<tbl.length from h)];exact qbJ _
abbrev Bd (P:qaR) (w:World) (K:qae) (mg:Str->Option Value) (base:Heap) (k i:Nat) (b:Sf):Prop:=∀ (f:Addr) (d:Value) (A:qa2) (outer:List Env) (s:qak) (H:Hp) (E:XK),bj k (A.deeper (qjw (tN i) (ao (tS i)) s.heap.objs.size f d))->(fq CX0 P w K mg base (tV i) (tN i) (ao (tS i)) f d A outer s H E).nox.N=tV i->(fq CX0 P w K mg base (tV i) (tN i) (ao (tS i)) f d A outer s H E).nox.env.scope.names=(ao (tS i)).names->(tV i).Nodup->ISs K (fq CX0 P w K mg base (tV i) (tN i) (ao (tS i)) f d A outer s H E).nox (aW (tS i)) b
abbrev Ck (P:qaR) (w:World) (K:qae) (mg:Str->Option Value) (base:Heap) (i j:Nat) (m:Fn):Prop:=Cal P w K mg base (tN i) j m
theorem zw (T:Txt K mg) (hi:i<48) (hb:Bd P w K mg base k i b):Ck P w K mg base i (k+1) (bv (tV i).length ((tV i).take (tK i)).length b) :=by
 obtain⟨f,g,F,m,B⟩:=T.F (tR i) (Bn hi);exact Ga F (scs _ (Bn hi)) m B (hb f)
theorem zx (T:Txt K mg) (hi:i<48) (hb:Bd P w K mg base k i b):Ck P w K mg base i (k+1) (dW (tV i).length ((tV i).take (tK i)).length b) :=by
 obtain⟨f,g,F,m,B⟩:=T.F (tR i) (Bn hi);exact Gb F (scs _ (Bn hi)) m B (hb f)
theorem mR (T:Txt K mg) (F:Fun K "__init__" "Table.__init__" b6 f g):dm P w K mg base CX0 1 f g ["self","rows","bounds","gains"] (Dh K ["self","rows","bounds","gains"].length ["self","rows","bounds","gains"].length bQ) :=
 Gg (N:=["self","rows","bounds","gains"]) (ps:=["self","rows","bounds","gains"]) (k:=0) (g:=bQ) F qj (by decide) (λ_ _ _ _ _ _ hr=>(ie U (by first|exact Or.inl U|exact Or.inr (Or.inl U)|exact Or.inr (Or.inr U)) (qE (eS U) U (T.z _ (by decide)) qbh (br (iv 3) bU U) (by decide) (by decide) U U) (ie U (by first|exact Or.inl U|exact Or.inr (Or.inl U)|exact Or.inr (Or.inr U)) (cU (zR (qK (ao b6).names ["self","rows","bounds","gains"] ["row","bound"] 2 [] U U U (by decide +kernel)) U (by decide) (lC U (T.z _ (by decide)) (br (iv 1) (br (iv 2) bU U) U) U U U) (λ_ _ _ _ _=>(lA (dL (eI (i:=0) (show qhB (α:=Str) ["row","bound"] by decide +kernel) U (by first|exact Or.inl U|exact Or.inr U)) (dL (eI (i:=1) (show qhB (α:=Str) ["row","bound"] by decide +kernel) U (by first|exact Or.inl U|exact Or.inr U)) iW)) U U U U U)) (λ_ _ _ _ _=>gg) (λ_ _ _ _ _=>(l6 (iG U) (cU (Dz (fY U) U (T.z _ (by decide)) qaN (br (iv 0) bU U) (by decide) (by decide) U U)) (cU (jD (br (iv 1) bU U))))) (λ_=>rfl))) (ie U (by first|exact Or.inl U|exact Or.inr (Or.inl U)|exact Or.inr (Or.inr U)) (l6 (iG U) (cU (zR (qK (ao b6).names ["self","rows","bounds","gains"] ["gain"] 1 [] U U U (by decide +kernel)) U (by decide) (lB (iv 3) U) (λ_ _ _ _ _=>(iU (eI (i:=0) (show qhB (α:=Str) ["gain"] by decide +kernel) U (by first|exact Or.inl U|exact Or.inr U)))) (λ_ _ _ _ _=>gg) (λ_ _ _ _ _=>(lz (iv 0))) (λ_=>rfl))) (cU (jD (br jC bU U)))) (ie U (by first|exact Or.inl U|exact Or.inr (Or.inl U)|exact Or.inr (Or.inr U)) jC (ie U (by first|exact Or.inl U|exact Or.inr (Or.inl U)|exact Or.inr (Or.inr U)) (jE (lD U (T.z _ (by decide)) U (T.z _ (by decide)) (br (qE (eS U) U (T.z _ (by decide)) qbh (br (iv 3) bU U) (by decide) (by decide) U U) bU U) U U)) (B6 U (by first|exact Or.inl U|exact Or.inr (Or.inl U)|exact Or.inr (Or.inr U)) (jE (lE U (T.z _ (by decide)) U (T.z _ (by decide)) (br (qE (eS U) U (T.z _ (by decide)) qbh (br (iv 3) bU U) (by decide) (by decide) U U) (br (l6 (iG U) (qE (eS U) U (T.z _ (by decide)) qbh (br (iv 3) bU U) (by decide) (by decide) U U) (qE (eS U) U (T.z _ (by decide)) qbh (br (iv 1) bU U) (by decide) (by decide) U U)) bU U) U) U U U)) U U) (by intro z;cases z) U U) (by intro z;cases z) U U) (by intro z;cases z) U U) (by intro z;cases z) U U) (by intro z;cases z) U U))
theorem scL:cf ["_law_script","_law_pot_here","_law_turn","_law_n","_law_f_here","_law_kind","_law_found"] ["_law_script"] (ao (top 58)):=scs (rT "law" 58 ["_law_script","_law_pot_here","_law_turn","_law_n","_law_f_here","_law_kind","_law_found"] 1) (by decide +kernel)
theorem bY (T:Txt K mg):∀ n,Ck P w K mg base 33 n (bb n)
 |0=>by
  obtain⟨f,g,F,m,B⟩:=T.F (tR 33) (Bn (by decide));exact⟨f,g,_,⟨λ_ _ _ _ ⟨_,_,_,_,h,_⟩=>(nomatch h),λ_ _ _ _ _ _ _ _ _ _ _ _ _ ⟨_,_,_,_,h,_⟩=>(nomatch h)⟩,m,F.kp,B⟩
 |n+1=>by
  have ih:=bY T n
  repeat' first
   |exact qan _
   |assumption
   |exact rfl
   |decide
   |exact Or.inl rfl
   |exact Or.inr rfl
   |exact Or.inr (Or.inl rfl)
   |exact Or.inr (Or.inr rfl)
   |apply kB
   |apply kC
   |apply fF
   |apply ik
   |apply lD
   |apply lE
   |apply bU
   |apply br
   |apply jC
   |apply iv
   |apply l6
   |apply oh
   |(apply qd6;apply eZ;(case hsw=>exact U);(case hns=>assumption);(case hN=>assumption);(case h=>decide +kernel))
   |(apply qdz;apply eZ;(case hsw=>exact U);(case hns=>assumption);(case hN=>assumption);(case h=>decide +kernel))
   |(apply qd6;apply cV;(case hsw=>exact U);(case hns=>assumption);(case hN=>assumption);(case h=>decide +kernel))
   |(apply qdz;apply cV;(case hsw=>exact U);(case hns=>assumption);(case hN=>assumption);(case h=>decide +kernel))
   |apply oi
   |apply um
   |apply ul
   |apply j7
   |apply oj
   |apply uv
   |apply n4
   |(apply n5;(case hns=>assumption);(case hN=>assumption);(case h=>decide +kernel))
   |apply kh
   |apply kg
   |apply lC
   |apply lB
   |apply nX
   |apply ui
   |apply nZ
   |apply gg
   |apply kD
   |apply lH
   |apply ii
   |apply uy
   |apply kF
   |apply oo
   |apply im
   |apply kE
   |apply om
   |apply lz
   |apply uk
   |apply nQ
   |apply jD
   |apply ur
   |apply kz
   |apply ij
   |apply ko
   |apply kl
   |apply ig
   |apply kj
   |apply ki
   |(apply kA;(case hns=>assumption);(case hN=>assumption);(case h=>decide +kernel))
   |apply hJ (N:=["self","rows","bounds","gains"]) (ps:=["self","rows","bounds","gains"])
   |refine g9 rfl (by assumption) (by assumption) ?_ ?_ ?_ ?_ ?_ ?_
   |refine fD rfl (by assumption) (by assumption) ?_ ?_ ?_ ?_ ?_ ?_
   |refine uj (by with_reducible first|exact qa8|exact qa7|exact qa6|exact qaZ|exact qa5|exact qaM|exact qaN|exact qaY|exact qaS|exact qa4|exact qa3|exact qaX|exact qbh) ?_ ?_ ?_ ?_ ?_ ?_ ?_ ?_ ?_
   |refine uq (by with_reducible first|exact qa8|exact qa7|exact qa6|exact qaZ|exact qa5|exact qaM|exact qaN|exact qaY|exact qaS|exact qa4|exact qa3|exact qaX|exact qbh) ?_ ?_ ?_ ?_ ?_ ?_ ?_ ?_ ?_
   |apply fC
   |apply j8
   |apply j9
   |apply nU
   |apply kc
   |apply nV
   |apply nW
   |apply ke
   |apply kf
   |apply nY
   |refine uo ?_ ?_ (by with_reducible first|exact qa8|exact qa7|exact qa6|exact qaZ|exact qa5|exact qaM|exact qaN|exact qaY|exact qaS|exact qa4|exact qa3|exact qaX|exact qbh) ?_ ?_
   |apply hU
   |apply kq
   |refine ku (λ_ h=>pj U (by assumption) U U (by decide) U U h U) ?_
   |apply kx
   |apply ky
   |apply fE
   |apply cU
   |apply jE
   |apply on
   |exact T.z _ (by decide)
   |exact qdy
   |exact nomark _
   |exact λ_=>rfl
   |with_reducible first|apply iG|apply oT|apply uP|apply kR|apply oU|apply uQ|apply qN|apply fk|apply uR|apply oV|apply uS|apply oW|apply oX|apply uT|apply iI|apply kS|apply oY|apply oZ|apply o8|apply pd|apply pe|apply nh|apply ni|apply nj|apply nk|apply nn|apply eS|apply gP|apply no|apply nq|apply fY|apply gQ|apply fk
   |apply eI
   |apply iW
   |apply dL
   |apply iU
   |apply lA
   |apply ad
   |(apply zw T;(case hi=>decide);unfold Bd;(conv in (occs:=*) tV _=>whnf);(conv in (occs:=*) ao _=>whnf);(conv in aW _=>whnf);intros)
   |(apply zx T;(case hi=>decide);unfold Bd;(conv in (occs:=*) tV _=>whnf);(conv in (occs:=*) ao _=>whnf);(conv in aW _=>whnf);intros)
   |(refine ua (by assumption) scL ?_;(conv in aW _=>whnf);intros)
   |intro
theorem EU (T:Txt K mg):Ck P w K mg base 0 1 dS/\Ck P w K mg base 1 2 su/\Ck P w K mg base 2 1 bo/\Ck P w K mg base 3 2 cQ/\Ck P w K mg base 4 1 fj/\Ck P w K mg base 5 1 bW/\Ck P w K mg base 6 1 fM/\Ck P w K mg base 7 1 fg/\Ck P w K mg base 8 1 dC/\Ck P w K mg base 9 1 cz/\Ck P w K mg base 10 2 iZ/\Ck P w K mg base 11 2 b4/\Ck P w K mg base 12 3 bK:=by
 obtain⟨a,M,y,c1,c2,c3,S,O,R⟩:=T.c;have u:=mR (P:=P) (w:=w) (base:=base) T c2
 repeat' first
  |assumption
  |exact rfl
  |decide
  |exact bY T _
  |exact Or.inl rfl
  |exact Or.inr rfl
  |exact Or.inr (Or.inl rfl)
  |exact Or.inr (Or.inr rfl)
  |apply kB
  |apply kC
  |apply fF
  |apply ik
  |apply lD
  |apply lE
  |apply bU
  |apply br
  |apply jC
  |apply iv
  |apply l6
  |apply oh
  |(apply qd6;apply eZ;(case hsw=>exact U);(case hns=>assumption);(case hN=>assumption);(case h=>decide +kernel))
  |(apply qdz;apply eZ;(case hsw=>exact U);(case hns=>assumption);(case hN=>assumption);(case h=>decide +kernel))
  |(apply qd6;apply cV;(case hsw=>exact U);(case hns=>assumption);(case hN=>assumption);(case h=>decide +kernel))
  |(apply qdz;apply cV;(case hsw=>exact U);(case hns=>assumption);(case hN=>assumption);(case h=>decide +kernel))
  |apply oi
  |apply um
  |apply ul
  |apply j7
  |apply oj
  |apply uv
  |apply n4
  |(apply n5;(case hns=>assumption);(case hN=>assumption);(case h=>decide +kernel))
  |apply kh
  |apply kg
  |apply lC
  |apply lB
  |apply nX
  |apply ui
  |apply nZ
  |apply gg
  |apply kD
  |apply lH
  |apply ii
  |apply uy
  |apply kF
  |apply oo
  |apply im
  |apply kE
  |apply om
  |apply lz
  |apply uk
  |apply nQ
  |apply jD
  |apply ur
  |apply kz
  |apply ij
  |apply ko
  |apply kl
  |apply ig
  |apply kj
  |apply ki
  |(apply kA;(case hns=>assumption);(case hN=>assumption);(case h=>decide +kernel))
  |apply hJ (N:=["self","rows","bounds","gains"]) (ps:=["self","rows","bounds","gains"])
  |refine g9 rfl (by assumption) (by assumption) ?_ ?_ ?_ ?_ ?_ ?_
  |refine fD rfl (by assumption) (by assumption) ?_ ?_ ?_ ?_ ?_ ?_
  |refine uj (by with_reducible first|exact qa8|exact qa7|exact qa6|exact qaZ|exact qa5|exact qaM|exact qaN|exact qaY|exact qaS|exact qa4|exact qa3|exact qaX|exact qbh) ?_ ?_ ?_ ?_ ?_ ?_ ?_ ?_ ?_
  |refine uq (by with_reducible first|exact qa8|exact qa7|exact qa6|exact qaZ|exact qa5|exact qaM|exact qaN|exact qaY|exact qaS|exact qa4|exact qa3|exact qaX|exact qbh) ?_ ?_ ?_ ?_ ?_ ?_ ?_ ?_ ?_
  |apply fC
  |apply j8
  |apply j9
  |apply nU
  |apply kc
  |apply nV
  |apply nW
  |apply ke
  |apply kf
  |apply nY
  |refine uo ?_ ?_ (by with_reducible first|exact qa8|exact qa7|exact qa6|exact qaZ|exact qa5|exact qaM|exact qaN|exact qaY|exact qaS|exact qa4|exact qa3|exact qaX|exact qbh) ?_ ?_
  |apply hU
  |apply kq
  |refine ku (λ_ h=>pj U (by assumption) U U (by decide) U U h U) ?_
  |apply kx
  |apply ky
  |apply fE
  |apply cU
  |apply jE
  |apply on
  |exact T.z _ (by decide)
  |exact qdy
  |exact nomark _
  |exact λ_=>rfl
  |with_reducible first|apply iG|apply oT|apply uP|apply kR|apply oU|apply uQ|apply qN|apply fk|apply uR|apply oV|apply uS|apply oW|apply oX|apply uT|apply iI|apply kS|apply oY|apply oZ|apply o8|apply pd|apply pe|apply nh|apply ni|apply nj|apply nk|apply nn|apply eS|apply gP|apply no|apply nq|apply fY|apply gQ|apply fk
  |apply eI
  |apply iW
  |apply dL
  |apply iU
  |apply lA
  |apply ad
  |(apply zw T;(case hi=>decide);unfold Bd;(conv in (occs:=*) tV _=>whnf);(conv in (occs:=*) ao _=>whnf);(conv in aW _=>whnf);intros)
  |(apply zx T;(case hi=>decide);unfold Bd;(conv in (occs:=*) tV _=>whnf);(conv in (occs:=*) ao _=>whnf);(conv in aW _=>whnf);intros)
  |(refine ua (by assumption) scL ?_;(conv in aW _=>whnf);intros)
  |intro
theorem GN (T:Txt K mg):Ck P w K mg base 13 1 kL/\Ck P w K mg base 14 2 dR/\Ck P w K mg base 15 3 kM/\Ck P w K mg base 16 1 gk/\Ck P w K mg base 17 1 iB/\Ck P w K mg base 18 2 gm/\Ck P w K mg base 19 4 i4/\Ck P w K mg base 20 1 jL/\Ck P w K mg base 21 3 jM/\Ck P w K mg base 22 1 iA/\Ck P w K mg base 23 1 oO/\Ck P w K mg base 24 2 oP/\Ck P w K mg base 25 4 cA:=by
 obtain⟨h0,h1,h2,h3,h4,h5,h6,Y,h8,X,o,l,e⟩:=EU (P:=P) (w:=w) (base:=base) T;obtain⟨a,M,y,c1,c2,c3,S,O,R⟩:=T.c;have u:=mR (P:=P) (w:=w) (base:=base) T c2
 repeat' first
  |assumption
  |exact rfl
  |decide
  |exact bY T _
  |exact Or.inl rfl
  |exact Or.inr rfl
  |exact Or.inr (Or.inl rfl)
  |exact Or.inr (Or.inr rfl)
  |apply kB
  |apply kC
  |apply fF
  |apply ik
  |apply lD
  |apply lE
  |apply bU
  |apply br
  |apply jC
  |apply iv
  |apply l6
  |apply oh
  |(apply qd6;apply eZ;(case hsw=>exact U);(case hns=>assumption);(case hN=>assumption);(case h=>decide +kernel))
  |(apply qdz;apply eZ;(case hsw=>exact U);(case hns=>assumption);(case hN=>assumption);(case h=>decide +kernel))
  |(apply qd6;apply cV;(case hsw=>exact U);(case hns=>assumption);(case hN=>assumption);(case h=>decide +kernel))
  |(apply qdz;apply cV;(case hsw=>exact U);(case hns=>assumption);(case hN=>assumption);(case h=>decide +kernel))
  |apply oi
  |apply um
  |apply ul
  |apply j7
  |apply oj
  |apply uv
  |apply n4
  |(apply n5;(case hns=>assumption);(case hN=>assumption);(case h=>decide +kernel))
  |apply kh
  |apply kg
  |apply lC
  |apply lB
  |apply nX
  |apply ui
  |apply nZ
  |apply gg
  |apply kD
  |apply lH
  |apply ii
  |apply uy
  |apply kF
  |apply oo
  |apply im
  |apply kE
  |apply om
  |apply lz
  |apply uk
  |apply nQ
  |apply jD
  |apply ur
  |apply kz
  |apply ij
  |apply ko
  |apply kl
  |apply ig
  |apply kj
  |apply ki
  |(apply kA;(case hns=>assumption);(case hN=>assumption);(case h=>decide +kernel))
  |apply hJ (N:=["self","rows","bounds","gains"]) (ps:=["self","rows","bounds","gains"])
  |refine g9 rfl (by assumption) (by assumption) ?_ ?_ ?_ ?_ ?_ ?_
  |refine fD rfl (by assumption) (by assumption) ?_ ?_ ?_ ?_ ?_ ?_
  |refine uj (by with_reducible first|exact qa8|exact qa7|exact qa6|exact qaZ|exact qa5|exact qaM|exact qaN|exact qaY|exact qaS|exact qa4|exact qa3|exact qaX|exact qbh) ?_ ?_ ?_ ?_ ?_ ?_ ?_ ?_ ?_
  |refine uq (by with_reducible first|exact qa8|exact qa7|exact qa6|exact qaZ|exact qa5|exact qaM|exact qaN|exact qaY|exact qaS|exact qa4|exact qa3|exact qaX|exact qbh) ?_ ?_ ?_ ?_ ?_ ?_ ?_ ?_ ?_
  |apply fC
  |apply j8
  |apply j9
  |apply nU
  |apply kc
  |apply nV
  |apply nW
  |apply ke
  |apply kf
  |apply nY
  |refine uo ?_ ?_ (by with_reducible first|exact qa8|exact qa7|exact qa6|exact qaZ|exact qa5|exact qaM|exact qaN|exact qaY|exact qaS|exact qa4|exact qa3|exact qaX|exact qbh) ?_ ?_
  |apply hU
  |apply kq
  |refine ku (λ_ h=>pj U (by assumption) U U (by decide) U U h U) ?_
  |apply kx
  |apply ky
  |apply fE
  |apply cU
  |apply jE
  |apply on
  |exact T.z _ (by decide)
  |exact qdy
  |exact nomark _
  |exact λ_=>rfl
  |with_reducible first|apply iG|apply oT|apply uP|apply kR|apply oU|apply uQ|apply qN|apply fk|apply uR|apply oV|apply uS|apply oW|apply oX|apply uT|apply iI|apply kS|apply oY|apply oZ|apply o8|apply pd|apply pe|apply nh|apply ni|apply nj|apply nk|apply nn|apply eS|apply gP|apply no|apply nq|apply fY|apply gQ|apply fk
  |apply eI
  |apply iW
  |apply dL
  |apply iU
  |apply lA
  |apply ad
  |(apply zw T;(case hi=>decide);unfold Bd;(conv in (occs:=*) tV _=>whnf);(conv in (occs:=*) ao _=>whnf);(conv in aW _=>whnf);intros)
  |(apply zx T;(case hi=>decide);unfold Bd;(conv in (occs:=*) tV _=>whnf);(conv in (occs:=*) ao _=>whnf);(conv in aW _=>whnf);intros)
  |(refine ua (by assumption) scL ?_;(conv in aW _=>whnf);intros)
  |intro
theorem Ie (T:Txt K mg):Ck P w K mg base 26 5 di/\Ck P w K mg base 27 1 kK/\Ck P w K mg base 28 1 iz/\Ck P w K mg base 29 3 i5/\Ck P w K mg base 30 2 dw/\Ck P w K mg base 31 6 jK/\Ck P w K mg base 32 7 oQ/\Ck P w K mg base 33 10 (bb 10)/\Ck P w K mg base 34 8 gn/\Ck P w K mg base 35 12 fL/\Ck P w K mg base 36 1 jJ/\Ck P w K mg base 37 1 aY/\Ck P w K mg base 38 1 eE:=by
 obtain⟨h0,h1,h2,h3,h4,h5,h6,Y,h8,X,o,l,e⟩:=EU (P:=P) (w:=w) (base:=base) T;obtain⟨r,Q,v,G,W,V,q,I,t,C,D,J,L⟩:=GN (P:=P) (w:=w) (base:=base) T;obtain⟨a,M,y,c1,c2,c3,S,O,R⟩:=T.c;have u:=mR (P:=P) (w:=w) (base:=base) T c2
 repeat' first
  |assumption
  |exact rfl
  |decide
  |exact bY T _
  |exact Or.inl rfl
  |exact Or.inr rfl
  |exact Or.inr (Or.inl rfl)
  |exact Or.inr (Or.inr rfl)
  |apply kB
  |apply kC
  |apply fF
  |apply ik
  |apply lD
  |apply lE
  |apply bU
  |apply br
  |apply jC
  |apply iv
  |apply l6
  |apply oh
  |(apply qd6;apply eZ;(case hsw=>exact U);(case hns=>assumption);(case hN=>assumption);(case h=>decide +kernel))
  |(apply qdz;apply eZ;(case hsw=>exact U);(case hns=>assumption);(case hN=>assumption);(case h=>decide +kernel))
  |(apply qd6;apply cV;(case hsw=>exact U);(case hns=>assumption);(case hN=>assumption);(case h=>decide +kernel))
  |(apply qdz;apply cV;(case hsw=>exact U);(case hns=>assumption);(case hN=>assumption);(case h=>decide +kernel))
  |apply oi
  |apply um
  |apply ul
  |apply j7
  |apply oj
  |apply uv
  |apply n4
  |(apply n5;(case hns=>assumption);(case hN=>assumption);(case h=>decide +kernel))
  |apply kh
  |apply kg
  |apply lC
  |apply lB
  |apply nX
  |apply ui
  |apply nZ
  |apply gg
  |apply kD
  |apply lH
  |apply ii
  |apply uy
  |apply kF
  |apply oo
  |apply im
  |apply kE
  |apply om
  |apply lz
  |apply uk
  |apply nQ
  |apply jD
  |apply ur
  |apply kz
  |apply ij
  |apply ko
  |apply kl
  |apply ig
  |apply kj
  |apply ki
  |(apply kA;(case hns=>assumption);(case hN=>assumption);(case h=>decide +kernel))
  |apply hJ (N:=["self","rows","bounds","gains"]) (ps:=["self","rows","bounds","gains"])
  |refine g9 rfl (by assumption) (by assumption) ?_ ?_ ?_ ?_ ?_ ?_
  |refine fD rfl (by assumption) (by assumption) ?_ ?_ ?_ ?_ ?_ ?_
  |refine uj (by with_reducible first|exact qa8|exact qa7|exact qa6|exact qaZ|exact qa5|exact qaM|exact qaN|exact qaY|exact qaS|exact qa4|exact qa3|exact qaX|exact qbh) ?_ ?_ ?_ ?_ ?_ ?_ ?_ ?_ ?_
  |refine uq (by with_reducible first|exact qa8|exact qa7|exact qa6|exact qaZ|exact qa5|exact qaM|exact qaN|exact qaY|exact qaS|exact qa4|exact qa3|exact qaX|exact qbh) ?_ ?_ ?_ ?_ ?_ ?_ ?_ ?_ ?_
  |apply fC
  |apply j8
  |apply j9
  |apply nU
  |apply kc
  |apply nV
  |apply nW
  |apply ke
  |apply kf
  |apply nY
  |refine uo ?_ ?_ (by with_reducible first|exact qa8|exact qa7|exact qa6|exact qaZ|exact qa5|exact qaM|exact qaN|exact qaY|exact qaS|exact qa4|exact qa3|exact qaX|exact qbh) ?_ ?_
  |apply hU
  |apply kq
  |refine ku (λ_ h=>pj U (by assumption) U U (by decide) U U h U) ?_
  |apply kx
  |apply ky
  |apply fE
  |apply cU
  |apply jE
  |apply on
  |exact T.z _ (by decide)
  |exact qdy
  |exact nomark _
  |exact λ_=>rfl
  |with_reducible first|apply iG|apply oT|apply uP|apply kR|apply oU|apply uQ|apply qN|apply fk|apply uR|apply oV|apply uS|apply oW|apply oX|apply uT|apply iI|apply kS|apply oY|apply oZ|apply o8|apply pd|apply pe|apply nh|apply ni|apply nj|apply nk|apply nn|apply eS|apply gP|apply no|apply nq|apply fY|apply gQ|apply fk
  |apply eI
  |apply iW
  |apply dL
  |apply iU
  |apply lA
  |apply ad
  |(apply zw T;(case hi=>decide);unfold Bd;(conv in (occs:=*) tV _=>whnf);(conv in (occs:=*) ao _=>whnf);(conv in aW _=>whnf);intros)
  |(apply zx T;(case hi=>decide);unfold Bd;(conv in (occs:=*) tV _=>whnf);(conv in (occs:=*) ao _=>whnf);(conv in aW _=>whnf);intros)
  |(refine ua (by assumption) scL ?_;(conv in aW _=>whnf);intros)
  |intro
theorem Ig (T:Txt K mg):Ck P w K mg base 39 1 gh/\Ck P w K mg base 40 2 gj/\Ck P w K mg base 41 1 dQ/\Ck P w K mg base 42 3 dh/\Ck P w K mg base 43 2 e9/\Ck P w K mg base 44 1 cy/\Ck P w K mg base 45 4 dg/\Ck P w K mg base 46 2 oN/\∀ f g,Fun K "law" "law" (top 58) f g->dm P w K mg base CX0 13 f g ["_law_script"] (spI K uI):=by
 obtain⟨h0,h1,h2,h3,h4,h5,h6,Y,h8,X,o,l,e⟩:=EU (P:=P) (w:=w) (base:=base) T;obtain⟨r,Q,v,G,W,V,q,I,t,C,D,J,L⟩:=GN (P:=P) (w:=w) (base:=base) T;obtain⟨h26,h27,h28,h29,h30,h31,h32,h33,h34,h35,h36,h37,h38⟩:=Ie (P:=P) (w:=w) (base:=base) T;obtain⟨a,M,y,c1,c2,c3,S,O,R⟩:=T.c;have u:=mR (P:=P) (w:=w) (base:=base) T c2
 repeat' first
  |assumption
  |exact rfl
  |decide
  |exact bY T _
  |exact Or.inl rfl
  |exact Or.inr rfl
  |exact Or.inr (Or.inl rfl)
  |exact Or.inr (Or.inr rfl)
  |apply kB
  |apply kC
  |apply fF
  |apply ik
  |apply lD
  |apply lE
  |apply bU
  |apply br
  |apply jC
  |apply iv
  |apply l6
  |apply oh
  |(apply qd6;apply eZ;(case hsw=>exact U);(case hns=>assumption);(case hN=>assumption);(case h=>decide +kernel))
  |(apply qdz;apply eZ;(case hsw=>exact U);(case hns=>assumption);(case hN=>assumption);(case h=>decide +kernel))
  |(apply qd6;apply cV;(case hsw=>exact U);(case hns=>assumption);(case hN=>assumption);(case h=>decide +kernel))
  |(apply qdz;apply cV;(case hsw=>exact U);(case hns=>assumption);(case hN=>assumption);(case h=>decide +kernel))
  |apply oi
  |apply um
  |apply ul
  |apply j7
  |apply oj
  |apply uv
  |apply n4
  |(apply n5;(case hns=>assumption);(case hN=>assumption);(case h=>decide +kernel))
  |apply kh
  |apply kg
  |apply lC
  |apply lB
  |apply nX
  |apply ui
  |apply nZ
  |apply gg
  |apply kD
  |apply lH
  |apply ii
  |apply uy
  |apply kF
  |apply oo
  |apply im
  |apply kE
  |apply om
  |apply lz
  |apply uk
  |apply nQ
  |apply jD
  |apply ur
  |apply kz
  |apply ij
  |apply ko
  |apply kl
  |apply ig
  |apply kj
  |apply ki
  |(apply kA;(case hns=>assumption);(case hN=>assumption);(case h=>decide +kernel))
  |apply hJ (N:=["self","rows","bounds","gains"]) (ps:=["self","rows","bounds","gains"])
  |refine g9 rfl (by assumption) (by assumption) ?_ ?_ ?_ ?_ ?_ ?_
  |refine fD rfl (by assumption) (by assumption) ?_ ?_ ?_ ?_ ?_ ?_
  |refine uj (by with_reducible first|exact qa8|exact qa7|exact qa6|exact qaZ|exact qa5|exact qaM|exact qaN|exact qaY|exact qaS|exact qa4|exact qa3|exact qaX|exact qbh) ?_ ?_ ?_ ?_ ?_ ?_ ?_ ?_ ?_
  |refine uq (by with_reducible first|exact qa8|exact qa7|exact qa6|exact qaZ|exact qa5|exact qaM|exact qaN|exact qaY|exact qaS|exact qa4|exact qa3|exact qaX|exact qbh) ?_ ?_ ?_ ?_ ?_ ?_ ?_ ?_ ?_
  |apply fC
  |apply j8
  |apply j9
  |apply nU
  |apply kc
  |apply nV
  |apply nW
  |apply ke
  |apply kf
  |apply nY
  |refine uo ?_ ?_ (by with_reducible first|exact qa8|exact qa7|exact qa6|exact qaZ|exact qa5|exact qaM|exact qaN|exact qaY|exact qaS|exact qa4|exact qa3|exact qaX|exact qbh) ?_ ?_
  |apply hU
  |apply kq
  |refine ku (λ_ h=>pj U (by assumption) U U (by decide) U U h U) ?_
  |apply kx
  |apply ky
  |apply fE
  |apply cU
  |apply jE
  |apply on
  |exact T.z _ (by decide)
  |exact qdy
  |exact nomark _
  |exact λ_=>rfl
  |with_reducible first|apply iG|apply oT|apply uP|apply kR|apply oU|apply uQ|apply qN|apply fk|apply uR|apply oV|apply uS|apply oW|apply oX|apply uT|apply iI|apply kS|apply oY|apply oZ|apply o8|apply pd|apply pe|apply nh|apply ni|apply nj|apply nk|apply nn|apply eS|apply gP|apply no|apply nq|apply fY|apply gQ|apply fk
  |apply eI
  |apply iW
  |apply dL
  |apply iU
  |apply lA
  |apply ad
  |(apply zw T;(case hi=>decide);unfold Bd;(conv in (occs:=*) tV _=>whnf);(conv in (occs:=*) ao _=>whnf);(conv in aW _=>whnf);intros)
  |(apply zx T;(case hi=>decide);unfold Bd;(conv in (occs:=*) tV _=>whnf);(conv in (occs:=*) ao _=>whnf);(conv in aW _=>whnf);intros)
  |(refine ua (by assumption) scL ?_;(conv in aW _=>whnf);intros)
  |intro
end
end Own
end
namespace L2
open PySem
noncomputable def mC:Nat->List (List Int)
 |0=>[[]]
 |n+1=>mC n++(mC n).map λt=>t++[(n:Int)]
def aJ (n:Nat):List (List Int):=aB (mC n)
theorem uc:∀ n,(mC n).length=2^n
 |0=>rfl
 |n+1=>by rw[mC,qau,qaf,uc n];lia
theorem mY (n):(aJ n).length=2^n :=by rw[aJ,(aG _).length_eq,uc]
def Trm (n:Nat) (t:List Int):Prop:=t.Pairwise (·<·)/\∀ k∈t,0<=k/\k<n
theorem Trm.mono (h:Trm n t) (hn:n<=m):Trm m t :=⟨h.1,λk a=>⟨(h.2 k a).1,by have:=(h.2 k a).2;lia⟩⟩
theorem fA:∀ (n) {t},t∈mC n->Trm n t
 |0,t,h=>by
  rw[mC,qao]at h;subst h;exact⟨List.Pairwise.nil,λk c=>by cases c⟩
 |n+1,t,h=>by
  rcases qaV.mp h with h|h
  ·exact (fA n h).mono (qcF n)
  ·obtain⟨u,d,rfl⟩:=qaI.mp h
   have:=fA n d
   refine⟨List.pairwise_append.mpr ⟨this.1,qgr _ _,λa e b hb=>?_⟩,λk c=>?_⟩
   ·rw[qao.mp hb];exact (this.2 a e).2
   ·rcases qaV.mp c with c|c
    ·exact⟨(this.2 k c).1,by have:=(this.2 k c).2;lia⟩
    ·rw[qao.mp c];lia
theorem sQ (h:Trm n t):t.length<=n :=by
 have b:∀ (t:List Int) (a:Int),t.Pairwise (·<·)->(∀ k∈t,a<=k/\k<n)->(t.length)<=max 0 ((n) - a):=by
  intro t
  induction t with
  |nil=>intro a _ _;simp;lia
  |cons x t e=>
   intro a d hm;have f:=hm x qag
   have:=e _ (qbc.mp d).2 λk c=>⟨(qbc.mp d).1 k c,(hm k (qah _ c)).2⟩
   rw[qam];lia
 have:=b t 0 h.1 h.2
 lia
noncomputable def onI (row k:Int):Int:=row / 2^k.toNat%2
noncomputable def eV (row:Int):List Int->Int
 |[]=>0
 |k::t=>onI row k+eV row t
theorem DF (row k):onI row k=0\/onI row k=1 :=by unfold onI;lia
theorem tQ (row):∀ t,(t.map (onI row)).sum=eV row t
 |[]=>rfl
 |k::t=>by rw[qat,qcl,tQ row t];rfl
theorem BR (row):∀ t,0<=eV row t/\eV row t<=t.length
 |[]=>by simp[eV]
 |k::t=>by
  have a:=BR row t;rcases DF row k with e|e<;>(simp only[eV,e,qam];lia)
def dY (u:D):Prop:=u=.non\/u=.int 0\/u=.int 1
noncomputable def bI:Nat->List D->List Int
 |_,[]=>[]
 |i,.non::r=>bI (i+1) r
 |i,_::r=>(i:Int)::bI (i+1) r
noncomputable def sgD:D->Int
 |.int v=>if v=1 then 1 else -1
 |_=>1
theorem lR:∀ (r) (i) {j},j∈bI i r->∃ m,j=((i+m:Nat))/\m<r.length/\r[m]?≠some .non
 |[],i,j,h=>by cases h
 |d::r,i,j,h=>by
  have up:j∈bI _ r->∃ m:Nat,j=((i+m))/\m<(d::r).length/\(d::r)[m]?≠some .non:=λh=>by
   obtain⟨m,e,hm,hn⟩:=lR r (i+1) h;exact⟨m+1,by lia,by simpa using hm,by simpa using hn⟩
  cases d with
  |non=>exact up h
  |_=>
   rcases qav.mp h with rfl|h
   ·exact⟨0,by simp,by simp,by simp⟩
   ·exact up h
def C9:D->Bool
 |.tup [_,v]=>!db v
 |_=>false
noncomputable def Fx:D->D
 |.tup [j,_]=>j
 |d=>d
theorem pS:∀ (r) (i),((bF i r).filter C9).map Fx=(bI i r).map D.int
 |[],i=>rfl
 |d::r,i=>by
  have a:=pS r (i+1);have e0:bF i (d::r)=.tup [.int _,d]::bF _ r:=rfl;rw[e0,qb1];cases d<;>first
   |(exact a)
   |(rw[iFP (show C9 _=true from rfl),qat,a];rfl)
theorem qP:∀ (r) (i),(bI i r).length<=r.length
 |[],i=>qan _
 |d::r,i=>by
  have a:=qP r (i+1);cases d<;>first
   |(show (bI _ r).length<=r.length+1;lia)
   |(show (bI _ r).length+1<=r.length+1;lia)
abbrev Prt:=List Int×Int
def bX (p:Prt):D:=.tup [au p.1,.int p.2]
def bG (kd:Str) (ps:List Prt):D:=.tup [.str kd,.tup (ps.map bX)]
noncomputable def c8:Nat->List Int->Nat
 |g,[]=>g
 |g,n::ns=>c8 (qf6 g n.natAbs) ns
theorem ub (n):∀ (g) (ns),c8 g (ns++[n])=qf6 (c8 g ns) n.natAbs
 |g,[]=>rfl
 |g,m::ns=>ub n _ ns
theorem c9:∀ (g) (ns),c8 g ns∣g/\∀ n∈ns,c8 g ns∣n.natAbs
 |g,[]=>⟨Nat.dvd_refl _,λ_ h=>by cases h⟩
 |g,m::ns=>by
  have a:=c9 (qf6 g m.natAbs) ns;refine⟨qiF a.1 (Nat.gcd_dvd_left _ _),λn hn=>?_⟩;rcases qav.mp hn with rfl|hn
  ·exact qiF a.1 (Nat.gcd_dvd_right _ _)
  ·exact a.2 n hn
theorem zJ (hn:n∈ns) (b:n≠0):0<c8 0 ns/\c8 0 ns<=n.natAbs :=by
 have h:=(c9 0 ns).2 n hn;have a:0<n.natAbs:=by lia
 exact⟨Nat.pos_of_dvd_of_pos h a,Nat.le_of_dvd a h⟩
theorem ae (e:a env st=some (x,s1)) (hb:b env s1=some (y,c)) (hg:g c x y=some d):iOp g a b env st=some (.d d,c) :=by
 simp only[iOp,e,hb,hg,qab,qap]
theorem ak (d:a env st=some (x,s1)) (hb:b env s1=some (y,c)) (hg:g c x y=some (.bl k)):aF g a b env st=some (k,c) :=by
 simp only[aF,d,hb,hg,qab,yh,qap]
theorem kU (c:a env st=some (.nx e s)) (hb:b e s=some r):ag a b env st=some r :=by
 simp only[ag,c,hb,qab]
theorem xM (c:a env st=some (.rt w s)):ag a b env st=some (.rt w s) :=by
 simp only[ag,c,qab]
theorem aj (h:f env st=some (w,s)):aA (.nm i) f env st=some (.nx (env.set i (some w)) s) :=by
 simp only[aA,h,qab,cD,qap]
theorem ai (b:a env st=some (ws,s)) (hm:m ws s=some r):ax m a env st=some r :=by
 simp only[ax,b,hm,qab]
theorem ar (b:a env st=some (ws,s)) (hm:g s ws=some d):iCB g a env st=some (.d d,s) :=by
 simp only[iCB,b,hm,qab,qap]
theorem ab (d:a env st=some (x,s1)) (hb:b env s1=some (y,c)):aa a b env st=some (x::y,c) :=by
 simp only[aa,d,hb,qab,qap]
theorem a6 (h:a env st=some (ds,s)) (c:bu g b ds env s=some r):cE a g b env st=some r :=by
 simp only[cE,h,c,qab]
theorem aH (h:f env st=some (w,s)):aL f env st=some (.rt w s) :=by
 simp only[aL,h,qap]
theorem DM (h:c env st=some (true,s)) (d:a env s=r):be c a b env st=r :=by
 simp only[be,h,qab,if_true,d]
theorem DL (h:c env st=some (false,s)) (hb:b env s=r):be c a b env st=r :=by
 simp only[be,h,qab,qbC,if_false,hb]
theorem aR (h:c env st=some (ds,s)) (e:ds.length<=1000000) (d:lcI g tt te (jB k js env) ds s=some (b,a)):iLc k js c g tt te env st=some (b,a) :=by
 simp only[iLc,h,d,e,qab,if_true]
theorem av (h:a env st=some (ds,s)):aq a env st=some (.d (.lst ds),s) :=by
 simp only[aq,h,qap]
theorem az (a:ws.length=k) (h:b (ws.map some++qaJ (n - k) none) st=some (.rt w s)):bv n k b ws st=some (w,s) :=by
 simp only[bv,a,if_true,h,qab]
theorem cB {b:Sf}(a:ws.length=k) (h:b (ws.map some++qaJ (n - k) none) st=some (.rt (.d x) s)):dW n k b ws st=some (.d x,s.take st.length) :=by
 simp only[dW,a,if_true,h,qab,zG]
structure Spo where
 xs:List Int
 s:Int
 c:Int
noncomputable def spo (p:Spo) (a:Sto):Sto:=.l (p.xs.map D.int)::.n [.h 0,.d (.int p.s),.d (.int p.c)]::a
def okP (p:Spo) (Zq:Int):Prop:=(∀ x∈p.xs,0<=x)/\p.xs.length<=63/\0<=p.c/\p.c<=Zq
theorem okP.mono (h:okP p Zq) (hz:Zq<=Z'):okP p Z' :=⟨h.1,h.2.1,h.2.2.1,qeN h.2.2.2 hz⟩
theorem DA (n):ixN (n+1) 0=some 0 :=HY n
end L2
namespace Sx
abbrev Vec:=Nat->Int
noncomputable def sumN:Nat->(Nat->Int)->Int
 |0,_=>0
 |n+1,f=>sumN n f+f n
theorem sumN_congr (h:∀ k,k<n->f k=g k):sumN n f=sumN n g :=by
 induction n with
 |zero=>rfl
 |succ n F=>rw[sumN,sumN,F λk H=>h k (by omega),h n (by omega)]
theorem sumN_add (n) (f g):sumN n (λk=>f k+g k)=sumN n f+sumN n g :=by
 induction n with
 |zero=>rfl
 |succ n F=>rw[sumN,sumN,sumN];omega
theorem sumN_mul (n) (c) (f):sumN n (λk=>c*f k)=c*sumN n f :=by
 induction n with
 |zero=>simp[sumN]
 |succ n F=>rw[sumN,sumN,F,qco]
theorem sumN_zero (n):sumN n (λ_=>0)=0 :=by
 induction n with
 |zero=>rfl
 |succ n F=>rw[sumN,F];rfl
theorem sumN_single (hi:i<n) (h:∀ k,k<n->k≠i->f k=0):sumN n f=f i :=by
 induction n with
 |zero=>omega
 |succ n F=>
  rw[sumN];by_cases e:i=n
  ·subst e
   rw[sumN_congr λk H=>h k (by omega) (by omega),sumN_zero];omega
  ·rw[F (by omega) λk H s=>h k (by omega) s,h n (by omega) (by omega)];omega
theorem sumN_pair (hi:i<n) (Q:j<n) (hij:i≠j) (h:∀ k,k<n->k≠i->k≠j->f k=0):sumN n f=f i+f j :=by
 have e:sumN n f=sumN n (λk=>(if k=i then f i else 0)+(if k=j then f j else 0)):=by
  refine sumN_congr λk H=>?_;by_cases J:k=i
  ·subst J;omega
  ·by_cases L:k=j
   ·subst L;omega
   ·rw[iFN J,iFN L,h k H J L];rfl
 rw[e,sumN_add,sumN_single hi λk _ s=>iFN s,sumN_single Q λk _ s=>iFN s,iFP U,iFP U]
noncomputable def skip (k j:Nat):Nat:=if j<k then j else j+1
noncomputable def sg (k:Nat):Int:=if k%2=0 then 1 else -1
theorem sg_succ (k):sg (k+1)=- sg k :=by
 unfold sg;by_cases h:k%2=0
 ·rw[iFP h,iFN (by omega)]
 ·rw[iFN h,iFP (by omega)];rfl
noncomputable def det:Nat->(Nat->Vec)->Int
 |0,_=>1
 |m+1,C=>sumN (m+1) λk=>sg k*C k 0*det m (λj t=>C (skip k j) (t+1))
theorem det_congr:∀ (m:Nat) {C E:Nat->Vec},(∀ k t,k<m->t<m->C k t=E k t)->det m C=det m E:=by
 intro m
 induction m with
 |zero=>intros;rfl
 |succ m F=>
  intro C E h;refine sumN_congr λk H=>?_;rw[h k 0 H (by omega),F λj t Q ht=>h _ _ (by unfold skip;split<;>omega) (by omega)]
noncomputable def upd (C:Nat->Vec) (i:Nat) (v:Vec):Nat->Vec:=λj=>if j=i then v else C j
theorem upd_same (C) (i) (v):upd C i v i=v :=iFP U
theorem upd_ne (h:j≠i):upd C i v j=C j :=iFN h
theorem upd_self (C) (i):upd C i (C i)=C :=by
 funext j
 by_cases h:j=i
 ·rw[h,upd_same]
 ·rw[upd_ne h]
theorem upd_upd (C) (i) (u v):upd (upd C i u) i v=upd C i v :=by
 funext j
 by_cases h:j=i
 ·rw[h,upd_same,upd_same]
 ·rw[upd_ne h,upd_ne h,upd_ne h]
theorem upd_comm (h:i≠j):upd (upd C i u) j v=upd (upd C j v) i u :=by
 funext k
 by_cases J:k=i
 ·subst J;rw[upd_ne h,upd_same,upd_same]
 ·by_cases L:k=j
  ·subst L;rw[upd_same,upd_ne J,upd_same]
  ·rw[upd_ne L,upd_ne J,upd_ne J,upd_ne L]
noncomputable def unskip (k i:Nat):Nat:=if i<k then i else i - 1
theorem skip_upd (h:k≠i):(λj t=>upd C i v (skip k j) (t+1))=upd (λj t=>C (skip k j) (t+1)) (unskip k i) (λt=>v (t+1)) :=by
 funext j t
 unfold upd skip unskip;by_cases J:j<k<;>by_cases L:i<k<;>simp only[J,L,if_true,if_false]
 ·by_cases e:j=i
  ·rw[iFP e,iFP e]
  ·rw[iFN e,iFN e]
 ·rw[iFN (by omega),iFN (by omega)]
 ·rw[iFN (by omega),iFN (by omega)]
 ·by_cases e:j+1=i
  ·rw[iFP e,iFP (by omega)]
  ·rw[iFN e,iFN (by omega)]
theorem skip_self :(λj t=>upd C i v (skip i j) (t+1))=λj t=>C (skip i j) (t+1) :=by
 funext j t
 rw[upd_ne];unfold skip;split<;>omega
theorem det_add:∀ (m) (C) (i) (u v),i<m->det m (upd C i λt=>u t+v t)=det m (upd C i u)+det m (upd C i v) :=by
 intro m
 induction m with
 |zero=>omega
 |succ m F=>
  intro C i u v hi;rw[det,det,det,<-sumN_add];refine sumN_congr λk H=>?_;by_cases e:k=i
  ·subst e
   rw[skip_self,skip_self,skip_self,upd_same,upd_same,upd_same,qco,qeq]
  ·rw[skip_upd e,skip_upd e,skip_upd e,upd_ne e,upd_ne e,upd_ne e,F _ _ _ _ (by unfold unskip;split<;>omega),qco]
theorem det_mul:∀ (m) (C) (i) (c) (u),i<m->det m (upd C i λt=>c*u t)=c*det m (upd C i u) :=by
 intro m
 induction m with
 |zero=>omega
 |succ m F=>
  intro C i c u hi;rw[det,det,<-sumN_mul];refine sumN_congr λk H=>?_;by_cases e:k=i
  ·subst e
   rw[skip_self,skip_self,upd_same,upd_same];rw[show sg k*_=c*_ by rw[qaT],qbj]
  ·rw[skip_upd e,skip_upd e,upd_ne e,upd_ne e,F _ _ c _ (by unfold unskip;split<;>omega),qaT]
theorem det_adj:∀ (m) (C) (i),i+1<m->C i=C (i+1)->det m C=0 :=by
 intro m
 induction m with
 |zero=>omega
 |succ m F=>
  intro C i hi h;rw[det,sumN_pair (i:=i) (by omega) (by omega) (by omega) λk H J L=>?_]
  ·have e:(λj t=>C (skip i j) (t+1))=λj t=>C (skip (i+1) j) (t+1):=by
    funext j t
    by_cases e:j=i
    ·subst e
     have a1:skip j j=j+1:=by unfold skip;rw[iFN (by omega)]
     have a2:skip (j+1) j=j:=by unfold skip;rw[iFP (by omega)]
     rw[a1,a2,h]
    ·have:skip i j=skip (i+1) j:=by
      unfold skip;by_cases J:j<i
      ·rw[iFP J,iFP (by omega)]
      ·rw[iFN J,iFN (by omega)]
     rw[this]
   rw[e,h,sg_succ];rw[<-qeq,<-qeq];rw[show sg i+-sg i=0 by omega]
   simp
  ·have hz:det m (λj t=>C (skip k j) (t+1))=0:=by
    by_cases l:k<i
    ·refine F _ (i - 1) (by omega) ?_
     funext t
     have a1:skip k (i - 1)=i:=by unfold skip;rw[iFN (by omega)];omega
     have a2:skip k (i - 1+1)=i+1:=by unfold skip;rw[iFN (by omega)];omega
     rw[a1,a2,h]
    ·refine F _ i (by omega) ?_
     funext t
     have a1:skip k i=i:=by unfold skip;rw[iFP (by omega)]
     have a2:skip k (i+1)=i+1:=by unfold skip;rw[iFP (by omega)]
     rw[a1,a2,h]
   rw[hz,qa9]
theorem det_swap (C) (hi:i+1<m):det m (upd (upd C i (C (i+1))) (i+1) (C i))=- det m C :=by
 have O:∀ u v ,det m (upd (upd C i u) (i+1) v)+det m (upd (upd C i v) (i+1) u)=0:=λu v=>by
  have X:det m (upd (upd C i λt=>u t+v t) (i+1) λt=>u t+v t)=0:=det_adj m _ i hi (by rw[upd_ne (by omega),upd_same,upd_same]);have hv:det m (upd (upd C i v) (i+1) v)=0:=det_adj m _ i hi (by rw[upd_ne (by omega),upd_same,upd_same]);rw[det_add m _ _ u v hi,upd_comm (by omega),upd_comm (v:=v) (by omega),det_add m _ i u v (by omega),det_add m _ i u v (by omega)]at X;rw[<-upd_comm (by omega),<-upd_comm (u:=v) (by omega),<-upd_comm (i:=i) (by omega),<-upd_comm (u:=v) (v:=v) (by omega),(det_adj m _ i hi (by rw[upd_ne (by omega),upd_same,upd_same]))]at X;omega
 have:=O (C i) (C (i+1))
 have e:upd (upd C i (C i)) (i+1) (C (i+1))=C:=by rw[upd_self,upd_self]
 rw[e]at this;omega
theorem det_same :∀ (d) (C) (i j),j=i+d+1->j<m->C i=C j->det m C=0 :=by
 intro d
 induction d with
 |zero=>intro C i j Q hm h;subst Q;exact det_adj m C i hm h
 |succ d F=>
  intro C i j Q hm h;have hs:=det_swap (m:=m) C (i:=j - 1) (by omega);have e1:j - 1+1=j:=by omega
  rw[e1]at hs
  have:=F (upd (upd C (j - 1) _) j (C (j - 1))) i (j - 1) (by omega) (by omega) (by rw[upd_ne (by omega),upd_ne (by omega),upd_ne (by omega),upd_same,h])
  omega
theorem det_eq0 (C) (hi:i<m) (Q:j<m) (hij:i≠j) (h:C i=C j):det m C=0 :=by
 rcases Nat.lt_or_gt_of_ne hij with J|J
 ·exact det_same (j - i - 1) C i j (by omega) Q h
 ·exact det_same (i - j - 1) C j i (by omega) hi h.symm
theorem det_zero (C) (hi:i<m):det m (upd C i λ_=>0)=0 :=by
 simpa using (det_mul m C i 0 (λ_=>0) hi)
theorem det_sum (C) (hi:i<m) (x:Nat->Int) (V:Nat->Vec):∀ n,det m (upd C i λt=>sumN n λk=>x k*V k t)=sumN n λk=>x k*det m (upd C i (V k)) :=by
 intro n
 induction n with
 |zero=>exact det_zero C hi
 |succ n F=>
  have e:(λt=>sumN (n+1) λk=>x k*V k t)=λt=>_+x n*V n t:=rfl;rw[e,det_add m C i _ _ hi,F,det_mul m C i _ _ hi];rfl
theorem cramer (B) (a) (p) (x:Nat->Int) (h:∀ t,p*a t=sumN m λk=>x k*B k t) (hi:i<m):p*det m (upd B i a)=x i*det m B :=by
 rw[<-det_mul m B i p a hi];rw[(funext h),det_sum B hi x B m,sumN_single hi λk H s=>?_,upd_self];rw[det_eq0 _ hi H (qbF s) (by rw[upd_same,upd_ne s]),qa9]
theorem cramer2 (B) (a b) (p) (hp:p=det m B) (hp0:p≠0) (x y:Nat->Int) (hx:∀ t,p*a t=sumN m λk=>x k*B k t) (hy:∀ t,p*b t=sumN m λk=>y k*B k t) (hi:i<m) (q:r<m) (o:i≠r) :
  p*det m (upd (upd B r a) i b)=x r*y i - x i*y r :=by
 have J:p*det m (upd (upd B r a) i b)=sumN m λk=>y k*det m (upd (upd B r a) i (B k)):=by
  rw[<-det_mul m _ i p b hi];rw[(funext hy),det_sum _ hi y B m]
 rw[J,sumN_pair hi q o λk H L h3=>?_]
 ·have e1:upd (upd B r a) i (B i)=upd B r a:=by
   have:(upd B r a) i=B i:=upd_ne o
   rw[<-this,upd_self]
  have e2:p*det m (upd B r a)=x r*p:=by rw[cramer B a p x hx q,<-hp]
  have e3:p*det m (upd (upd B r a) i (B r))=- (x i*p):=by
   rw[(upd_comm (qbF o)),<-det_mul m _ r p a q];rw[(funext hx),det_sum _ q x B m,sumN_single hi λk H s=>?_]
   ·-- columns i and r exchanged
    have hsw:det m (upd (upd B i (B r)) r (B i))=- det m B:=by
     have:=(λu v=>by
      have z:∀ w ,det m (upd (upd B i w) r w)=0:=λw=>det_eq0 _ hi q o (by rw[upd_ne o,upd_same,upd_same]);have X:=z λt=>u t+v t;rw[det_add m _ r u v q,upd_comm o,upd_comm o,det_add m _ i u v hi,det_add m _ i u v hi]at X;rw[<-upd_comm o,<-upd_comm o,<-upd_comm o,<-upd_comm o,z u,z v]at X
      omega) (B i) (B r)
     rw[show upd _ r (B r)=B by rw[upd_self,upd_self]]at this;omega
    rw[hsw,<-hp,qf8]
   ·by_cases N:k=r
    ·subst N
     rw[det_eq0 _ hi q o (by rw[upd_ne o,upd_same,upd_same]),qa9]
    ·rw[det_eq0 _ q H (qbF N) (by rw[upd_same,upd_ne N,upd_ne s]),qa9]
  rw[e1]
  have:p*(y i*det m (upd B r a)+y r*det m (upd (upd B r a) i (B r)))=p*(x r*y i - x i*y r):=by
   rw[qco,qaT,e2,qaT p _,e3,qcG,qf8];rw[show y i*_=p*_ by rw[qaW _,qbn,qaW]];rw[show y r*_=p*(x i*y r) by rw[qaW _,qbj,qaW p _,<-qbj,qaW _ p]];omega
  exact qeb hp0 this
 ·rw[det_eq0 _ hi H (qbF L) (by rw[upd_same,upd_ne L,upd_ne h3]),qa9]
noncomputable def unit (k:Nat):Vec:=λt=>if t=k then 1 else 0
theorem det_unit:∀ m,det m unit=1:=by
 intro m
 induction m with
 |zero=>rfl
 |succ m F=>
  rw[det,sumN_single (i:=0) (by omega) λk H s=>by rw[show unit k 0=0 by unfold unit;rw[iFN (by omega)]];simp];have e:(λj t=>unit (skip 0 j) (t+1))=unit:=by
   funext j t
   unfold unit skip;rw[iFN (by omega:¬ j<0)];by_cases h:t=j
   ·rw[iFP (by omega),iFP h]
   ·rw[iFN (by omega),iFN h]
  rw[e,F];rfl
structure Pb where
 m:Nat
 n:Nat
 A:Nat->Vec
 b:Vec
 g:Nat->Int
structure Tb where
 p:Int
 kept:Nat->Nat
 free:Nat->Nat
 T:Nat->Nat->Int
 G:Nat->Int
variable (P:Pb)
noncomputable def colV (S:Tb) (c:Nat):Vec:=if c<P.n then P.A (S.free c) else P.b
noncomputable def gainC (S:Tb) (c:Nat):Int:=if c<P.n then P.g (S.free c) else 0
noncomputable def basis (S:Tb):Nat->Vec:=λi=>P.A (S.kept i)
structure Good (S:Tb):Prop where
 pos:0<S.p
 dt:S.p=det P.m (basis P S)
 eq:∀ c,c<=P.n->∀ t,S.p*colV P S c t=sumN P.m λi=>S.T i c*P.A (S.kept i) t
 goal:∀ c,c<=P.n->S.G c=(sumN P.m λi=>P.g (S.kept i)*S.T i c) - S.p*gainC P S c
noncomputable def piv (S:Tb) (r e:Nat):Tb where
 p:=S.T r e
 kept:=λi=>if i=r then S.free e else S.kept i
 free:=λc=>if c=e then S.kept r else S.free c
 T:=λi c=>if i=r then (if c=e then S.p else S.T r c) else (if c=e then - S.T i e else (S.T r e*S.T i c - S.T i e*S.T r c) / S.p)
 G:=λc=>if c=e then - S.G e else (S.T r e*S.G c - S.G e*S.T r c) / S.p
variable {P}
theorem Good.entry (h:Good P S) (M:c<=P.n) (hi:i<P.m):S.T i c=det P.m (upd (basis P S) i (colV P S c)) :=by
 have:=cramer (basis P S) _ S.p _ (λt=>h.eq c M t) hi
 rw[<-h.dt,qaW]at this;exact (qgh (by have:=h.pos;omega) this).symm
theorem Good.whole (h:Good P S) (K:e<=P.n) (M:c<=P.n) (hi:i<P.m) (q:r<P.m) (o:i≠r):∃ d,S.T r e*S.T i c - S.T i e*S.T r c=S.p*d :=
 ⟨_,(cramer2 _ _ _ S.p h.dt (by have:=h.pos;omega) _ _ (λt=>h.eq e K t) (λt=>h.eq c M t) hi q o).symm⟩
theorem ediv_of {  d:Int} (hp:0<p) (h:a=p*d):p*(a / p)=a :=by
 rw[h,qgv _ (by omega)]
theorem piv_T (h:Good P S) (K:e<=P.n) (M:c<=P.n) (hi:i<P.m) (q:r<P.m) (o:i≠r) (D:c≠e):S.p*(piv S r e).T i c=S.T r e*S.T i c - S.T i e*S.T r c :=by
 obtain⟨d,hd⟩:=h.whole K M hi q o;show S.p*(if i=r then _ else _)=_;rw[iFN o,iFN D];exact ediv_of h.pos hd
theorem sumN_split (q:r<n) (f):sumN n f=f r+sumN n (λk=>if k=r then 0 else f k) :=by
 have e:sumN n f=sumN n (λk=>(if k=r then f r else 0)+(if k=r then 0 else f k)):=by
  refine sumN_congr λk H=>?_;by_cases h:k=r
  ·rw[h];omega
  ·omega
 rw[e,sumN_add,sumN_single q λk _ s=>iFN s,iFP U]
theorem sumN_sub (n) (f g):sumN n (λk=>f k - g k)=sumN n f - sumN n g :=by
 induction n with
 |zero=>rfl
 |succ n F=>rw[sumN,sumN,sumN];omega
theorem piv_eq (h:Good P S) (K:e<P.n) (q:r<P.m):∀ c,c<=P.n->∀ t,(piv S r e).p*colV P (piv S r e) c t=sumN P.m λi=>(piv S r e).T i c*P.A ((piv S r e).kept i) t :=by
 intro c M t;have hp:=h.pos;have R:=h.eq e (by omega) t;have hcE:colV P S e=P.A _:=iFP K;rw[hcE,sumN_split q]at R;have kr:(piv S r e).kept r=S.free e:=iFP U;have kn:∀ i,i≠r->(piv S r e).kept i=S.kept i:=λi hi=>iFN hi;rw[sumN_split q,kr];by_cases D:c=e
 ·subst D
  have c1:colV P (piv S r c) c=P.A (S.kept r):=by
   unfold colV;rw[iFP K];show P.A (if c=c then _ else _)=_;rw[iFP U]
  have t1:(piv S r c).T r c=S.p:=by show (if r=r then _ else _)=_;rw[iFP U,iFP U]
  have t2:(sumN P.m λk=>if k=r then 0 else (piv S r c).T k c*P.A ((piv S r c).kept k) t)=- sumN P.m λk=>if k=r then 0 else S.T k c*P.A (S.kept k) t:=by
   have:(sumN P.m λk=>if k=r then 0 else (piv S r c).T k c*P.A ((piv S r c).kept k) t)=sumN P.m λk=>(-1)*(if k=r then 0 else S.T k c*P.A (S.kept k) t):=by
    refine sumN_congr λk H=>?_;by_cases l:k=r
    ·rw[iFP l,iFP l];rfl
    ·rw[iFN l,iFN l,kn k l]
     show (if k=r then _ else _)*_=_;rw[iFN l,iFP U,qdw,qdw,qc7]
   rw[this,sumN_mul];omega
  rw[c1,t1];show S.T r c*P.A _ t=_;omega
 ·have c1:colV P (piv S r e) c=colV P S c:=by
   unfold colV;by_cases I:c<P.n
   ·rw[iFP I,iFP I];show P.A (if c=e then _ else _)=_;rw[iFN D]
   ·rw[iFN I,iFN I]
  have t1:(piv S r e).T r c=S.T r c:=by show (if r=r then _ else _)=_;rw[iFP U,iFN D]
  have W:=h.eq c M t;rw[sumN_split q]at W;rw[c1,t1];refine qeb (a:=S.p) (by omega) ?_;have t2:S.p*(sumN P.m λk=>if k=r then 0 else (piv S r e).T k c*P.A ((piv S r e).kept k) t)=(sumN P.m λk=>S.T r e*(if k=r then 0 else S.T k c*P.A (S.kept k) t)) - sumN P.m λk=>S.T r c*(if k=r then 0 else S.T k e*P.A (S.kept k) t):=by
   rw[<-sumN_mul,<-sumN_sub];refine sumN_congr λk H=>?_;by_cases l:k=r
   ·rw[iFP l,iFP l,iFP l];simp
   ·rw[iFN l,iFN l,iFN l,kn k l,<-qbj,piv_T h (by omega) M H q l D,qf7]
    rw[qbj,qaW (S.T k e),qbj]
  rw[qco,t2,sumN_mul,sumN_mul];show S.p*(S.T r e*colV P S c t)=_;rw[qaT,W,<-qbj S.p,qaW S.p _,qbj,R,qco,qco];rw[show S.T r e*_=S.T r c*_ by rw[qaT]];omega
theorem piv_goal (h:Good P S) (K:e<P.n) (q:r<P.m):∀ c,c<=P.n->(piv S r e).G c=(sumN P.m λi=>P.g ((piv S r e).kept i)*(piv S r e).T i c) - (piv S r e).p*gainC P (piv S r e) c :=by
 intro c M;have hp:=h.pos;have R:=h.goal e (by omega);have gE:gainC P S e=P.g _:=iFP K;rw[gE,sumN_split q]at R;have kr:(piv S r e).kept r=S.free e:=iFP U;have kn:∀ i,i≠r->(piv S r e).kept i=S.kept i:=λi hi=>iFN hi;rw[sumN_split q,kr];by_cases D:c=e
 ·subst D
  have c1:gainC P (piv S r c) c=P.g (S.kept r):=by
   unfold gainC;rw[iFP K];show P.g (if c=c then _ else _)=_;rw[iFP U]
  have t1:(piv S r c).T r c=S.p:=by show (if r=r then _ else _)=_;rw[iFP U,iFP U]
  have t2:(sumN P.m λk=>if k=r then 0 else P.g ((piv S r c).kept k)*(piv S r c).T k c)=- sumN P.m λk=>if k=r then 0 else P.g (S.kept k)*S.T k c:=by
   have:(sumN P.m λk=>if k=r then 0 else P.g ((piv S r c).kept k)*(piv S r c).T k c)=sumN P.m λk=>(-1)*(if k=r then 0 else P.g (S.kept k)*S.T k c):=by
    refine sumN_congr λk H=>?_;by_cases l:k=r
    ·rw[iFP l,iFP l];rfl
    ·rw[iFN l,iFN l,kn k l]
     show _*(if k=r then _ else _)=_;rw[iFN l,iFP U,qf8,qdw,qc7]
   rw[this,sumN_mul];omega
  rw[c1,t1];show (if c=c then - S.G c else _)=_ - S.T r c*_;rw[iFP U,R,qaW _,qaW S.p];omega
 ·have c1:gainC P (piv S r e) c=gainC P S c:=by
   unfold gainC;by_cases I:c<P.n
   ·rw[iFP I,iFP I];show P.g (if c=e then _ else _)=_;rw[iFN D]
   ·rw[iFN I,iFN I]
  have t1:(piv S r e).T r c=S.T r c:=by show (if r=r then _ else _)=_;rw[iFP U,iFN D]
  have W:=h.goal c M;rw[sumN_split q]at W;rw[c1,t1];have t2:S.p*(sumN P.m λk=>if k=r then 0 else P.g ((piv S r e).kept k)*(piv S r e).T k c)=(sumN P.m λk=>S.T r e*(if k=r then 0 else P.g (S.kept k)*S.T k c)) - sumN P.m λk=>S.T r c*(if k=r then 0 else P.g (S.kept k)*S.T k e):=by
   rw[<-sumN_mul,<-sumN_sub];refine sumN_congr λk H=>?_;by_cases l:k=r
   ·rw[iFP l,iFP l,iFP l];simp
   ·rw[iFN l,iFN l,iFN l,kn k l,qaT,piv_T h (by omega) M H q l D,qcG]
    rw[qaT,qaW (S.T k e),qaT (S.T r c)]
  rw[sumN_mul,sumN_mul]at t2;have O:S.T r e*S.G c - S.G e*S.T r c=S.p*(P.g (S.free e)*S.T r c+(sumN P.m λk=>if k=r then 0 else P.g ((piv S r e).kept k)*(piv S r e).T k c) - S.T r e*gainC P S c):=by
   rw[qcG,qco,t2,W,R];generalize (sumN P.m λk=>if k=r then 0 else P.g _*S.T k e)=Y;rw[qcG,qco,qf7,qeq];rw[show S.T r e*_=P.g _*S.T r e*S.T r c by rw[qaT,qbj]];rw[show S.T r e*(S.p*gainC P S c)=S.p*_ by rw[qaT]];rw[show S.p*(P.g _*S.T r c)=S.p*P.g _*S.T r c by rw[qbj]];rw[qaW Y];omega
  show (if c=e then _ else _ / S.p)=_;rw[iFN D,O,qgv _ (by omega)];rfl
theorem Good.piv (h:Good P S) (K:e<P.n) (q:r<P.m) (hq:0<S.T r e):Good P (piv S r e) :=by
 refine⟨hq,?_,piv_eq h K q,piv_goal h K q⟩;show S.T r e=_;rw[h.entry (by omega) q];refine congrArg _ ?_
 funext i
 unfold basis;by_cases hi:i=r
 ·rw[hi,upd_same]
  show colV P S e=P.A (if r=r then _ else _);rw[iFP U];exact iFP K
 ·rw[upd_ne hi]
  show _=P.A (if i=r then _ else _);rw[iFN hi]
def lexP (M:Nat) (v:Nat->Int):Prop:=∃ j,j<M/\0<v j/\∀ l,l<j->v l=0
theorem lexP_congr (h:∀ s,s<M->v s=w s) (F:lexP M v):lexP M w :=by
 obtain⟨j,q,A,u⟩:=F;exact⟨j,q,by rw[<-h j q];exact A,λl z=>by rw[<-h l (by omega)];exact u l z⟩
theorem lexP_mul (C:0<c) (F:lexP M v):lexP M λs=>c*v s :=by
 obtain⟨j,q,A,u⟩:=F;exact⟨j,q,qjU C A,λl z=>by show c*v l=0;rw[u l z,qa9]⟩
theorem lexP_unmul (C:0<c) (F:lexP M λs=>c*v s):lexP M v :=by
 obtain⟨j,q,A,u⟩:=F;have h2':0<v j*c:=by rw[qaW];exact A
 refine⟨j,q,Int.pos_of_mul_pos_left h2' C,λl z=>?_⟩
 have:=u l z
 rcases qcB.mp this with h|h
 ·omega
 ·exact h
theorem lexP_add (F:lexP M v) (hw:lexP M w):lexP M λs=>v s+w s :=by
 obtain⟨j,q,A,u⟩:=F;obtain⟨k,W,k2,X⟩:=hw;rcases Nat.lt_trichotomy j k with h|h|h
 ·exact⟨j,q,by show 0<v j+w j;rw[X j h];omega,λl z=>by show v l+w l=0;rw[u l z,X l (by omega)];rfl⟩
 ·subst h
  exact⟨j,q,by show 0<v j+w j;omega,λl z=>by show v l+w l=0;rw[u l z,X l z];rfl⟩
 ·exact⟨k,W,by show 0<v k+w k;rw[u k h];omega,λl z=>by show v l+w l=0;rw[u l (by omega),X l z];rfl⟩
theorem lexP_addn (C:0<=c) (F:lexP M v) (hw:lexP M w):lexP M λs=>v s+c*w s :=by
 rcases qdj C with h|h
 ·exact lexP_add F (lexP_mul h hw)
 ·subst h
  exact lexP_congr (λs _=>by rw[qbp,qfC]) F
theorem lexP_not0 (h:∀ s,s<M->v s=0):¬ lexP M v :=λ⟨j,q,A,_⟩=>by rw[h j q]at A;omega
theorem lexP_first (hM:0<M) (h:lexP M v):0<=v 0 :=by
 obtain⟨j,q,A,u⟩:=h;rcases Nat.eq_zero_or_pos j with e|e
 ·subst e;omega
 ·rw[u 0 e];exact qck _
variable (P:Pb)
def XV (s:Nat):Vec:=if s=0 then P.b else unit (s - 1)
def LV (S:Tb) (i s:Nat):Int:=det P.m (upd (basis P S) i (XV P s))
def ZV (S:Tb) (s:Nat):Int:=sumN P.m λi=>P.g (S.kept i)*LV P S i s
structure Named (S:Tb):Prop where
 one:∀ r,r<P.m->P.A (P.n+r)=unit r
 all:∀ k,k<P.n+P.m->(∃ c,c<P.n/\S.free c=k)\/∃ i,i<P.m/\S.kept i=k
 bound:(∀ c,c<P.n->S.free c<P.n+P.m)/\∀ i,i<P.m->S.kept i<P.n+P.m
def Fe (S:Tb):Prop:=∀ i,i<P.m->lexP (P.m+1) (LV P S i)
variable {P}
theorem Good.rep_free (h:Good P S) (C:c<=P.n) (t):S.p*colV P S c t=sumN P.m λi=>det P.m (upd (basis P S) i (colV P S c))*P.A (S.kept i) t :=by
 rw[h.eq c C t];exact sumN_congr λi hi=>by rw[h.entry C hi]
theorem det_kept (h:Good P S) (hi:i<P.m) (I:j<P.m):det P.m (upd (basis P S) i (basis P S j))=if i=j then S.p else 0 :=by
 by_cases e:i=j
 ·subst e;rw[upd_self,iFP U,h.dt]
 ·rw[iFN e]
  exact det_eq0 _ hi I e (by rw[upd_same,upd_ne (qbF e)])
theorem Good.rep_kept (h:Good P S) (I:j<P.m) (t):S.p*P.A (S.kept j) t=sumN P.m λi=>det P.m (upd (basis P S) i (P.A (S.kept j)))*P.A (S.kept i) t :=by
 rw[sumN_single I λi hi O=>?_]
 ·have:=det_kept h I I
  rw[iFP U]at this;have e:det P.m (upd _ j (P.A _))=S.p:=this;rw[e]
 ·have:=det_kept h hi I
  rw[iFN O]at this;have e:det P.m (upd _ i (P.A _))=0:=this;rw[e,qbp]
theorem Good.rep (h:Good P S) (hn:Named P S) (E:s<P.m+1) (t):S.p*XV P s t=sumN P.m λi=>LV P S i s*P.A (S.kept i) t :=by
 unfold LV;by_cases h0:s=0
 ·subst h0
  have e:XV P 0=colV P S P.n:=by unfold XV colV;rw[iFP U,iFN (qbb _)]
  rw[e];exact h.rep_free (qan _) t
 ·have e:XV P s=P.A (P.n+(s - 1)):=by unfold XV;rw[iFN h0,hn.one _ (by omega)]
  rw[e];rcases hn.all (P.n+(s - 1)) (by omega) with⟨c,C,D⟩|⟨j,I,D⟩
  ·have H:P.A (P.n+(s - 1))=colV P S c:=by unfold colV;rw[iFP C,D]
   rw[H];exact h.rep_free (by omega) t
  ·rw[<-D]
   exact h.rep_kept I t
theorem piv_basis (o:e<P.n):basis P (piv S r e)=upd (basis P S) r (colV P S e) :=by
 funext i
 unfold basis;by_cases hi:i=r
 ·rw[hi,upd_same]
  show P.A (if r=r then _ else _)=colV P S e;rw[iFP U];exact (iFP o).symm
 ·rw[upd_ne hi]
  show P.A (if i=r then _ else _)=_;rw[iFN hi]
theorem LV_r (o:e<P.n):LV P (piv S r e) r s=LV P S r s :=by
 unfold LV;rw[piv_basis o,upd_upd]
theorem LV_i (h:Good P S) (hn:Named P S) (o:e<P.n) (E:s<P.m+1) (hi:i<P.m) (n:r<P.m) (d:i≠r):S.p*LV P (piv S r e) i s=S.T r e*LV P S i s - S.T i e*LV P S r s :=by
 unfold LV;rw[piv_basis o];exact cramer2 _ _ _ S.p h.dt (by have:=h.pos;omega) _ _ (λt=>h.eq e (by omega) t) (λt=>h.rep hn E t) hi n d
theorem ZV_piv (h:Good P S) (hn:Named P S) (o:e<P.n) (E:s<P.m+1) (n:r<P.m):S.p*ZV P (piv S r e) s=S.T r e*ZV P S s - S.G e*LV P S r s :=by
 have hE:=h.goal e (by omega);have gE:gainC P S e=P.g _:=iFP o;rw[gE,sumN_split n]at hE;unfold ZV;have kr:(piv S r e).kept r=S.free e:=iFP U;have kn:∀ i,i≠r->(piv S r e).kept i=S.kept i:=λi hi=>iFN hi;rw[sumN_split n,kr,LV_r o,qco];have t2:S.p*(sumN P.m λk=>if k=r then 0 else P.g ((piv S r e).kept k)*LV P (piv S r e) k s)=(sumN P.m λk=>S.T r e*(if k=r then 0 else P.g (S.kept k)*LV P S k s)) - sumN P.m λk=>LV P S r s*(if k=r then 0 else P.g (S.kept k)*S.T k e):=by
  rw[<-sumN_mul,<-sumN_sub];refine sumN_congr λk D=>?_;by_cases p:k=r
  ·rw[iFP p,iFP p,iFP p];simp
  ·rw[iFN p,iFN p,iFN p,kn k p,qaT,LV_i h hn o E D n p,qcG]
   rw[qaT,qaW (S.T k e),qaT (LV P S r s)]
 rw[t2,sumN_mul,sumN_mul,sumN_split n (λi=>P.g _*LV P S i s),hE];generalize (sumN P.m λk=>if k=r then 0 else P.g _*S.T k e)=Y;generalize LV P S r s=L;rw[qf7,qeq,qco];rw[show S.T r e*(P.g _*L)=P.g _*S.T r e*L by rw[qaT,qbj]];rw[show S.p*_=S.p*P.g _*L by rw[qbj]];rw[qaW Y];omega
def less (P:Pb) (S S':Tb):Prop:=lexP (P.m+1) λs=>S.p*ZV P S' s - S'.p*ZV P S s
theorem less_trans (q:0<S1.p) (A:0<S2.p) (u:0<S3.p) (a:less P S1 S2) (b:less P S2 S3):less P S1 S3 :=by
 refine lexP_unmul A (lexP_congr (λs _=>?_) (lexP_add (lexP_mul q b) (lexP_mul u a)));generalize ZV P S1 s=x;generalize ZV P S2 s=y;rw[qcG,qcG,qcG];rw[show S1.p*(S3.p*y)=S3.p*_ by rw[qaT],show S1.p*_=S2.p*_ by rw[qaT],show S3.p*(S2.p*x)=S2.p*_ by rw[qaT]];omega
theorem same_kept (h:Good P S) (h':Good P S') (e:∀ i,i<P.m->S.kept i=S'.kept i):S.p=S'.p/\∀ s,ZV P S s=ZV P S' s :=by
 have hb:∀ i,i<P.m->basis P S i=basis P S' i:=λi hi=>by unfold basis;rw[e i hi]
 have hL:∀ i s,i<P.m->LV P S i s=LV P S' i s:=λi s hi=>by
  refine det_congr P.m λk t D _=>?_;by_cases J:k=i
  ·rw[J,upd_same,upd_same]
  ·rw[upd_ne J,upd_ne J,hb k D]
 refine⟨?_,λs=>?_⟩
 ·rw[h.dt,h'.dt]
  exact det_congr P.m λk t D _=>by rw[hb k D]
 ·exact sumN_congr λi hi=>by rw[e i hi,hL i s hi]
theorem less_kept (h:Good P S) (h':Good P S') (l:less P S S'):¬ ∀ i,i<P.m->S.kept i=S'.kept i :=λe=>by
 obtain⟨G,H⟩:=same_kept h h' e;refine lexP_not0 (λs _=>?_) l;rw[G,H s];omega
theorem lines_unlike (h:Good P S) (hA:∀ i,i<P.m->∀ t,P.m<=t->P.A (S.kept i) t=0) (hi:i<P.m) (n:r<P.m) (d:i≠r) (ha:0<a) (E:∀ s,s<P.m+1->a*LV P S i s=b*LV P S r s):False :=by
 have Q:∀ k,k<P.m->det P.m _=sumN P.m λs=>basis P S i s*LV P S k (s+1):=λk D=>by
  have e:basis P S i=λt=>sumN P.m λs=>basis P S i s*unit s t:=by
   funext t
   by_cases ht:t<P.m
   ·rw[sumN_single ht λs _ O=>by unfold unit;rw[iFN (qbF O),qa9]]
    unfold unit;rw[iFP U,qc8]
   ·rw[sumN_congr λs V=>by unfold unit;rw[iFN (by omega),qa9],sumN_zero]
    exact hA i hi t (by omega)
  have H:=det_sum (basis P S) D (λs=>basis P S i s) unit P.m;rw[<-e]at H;rw[H];refine sumN_congr λs V=>?_;unfold LV XV;rw[iFN (by omega),qcJ]
 have W:=Q i hi;have k2:=Q r n;rw[det_kept h hi hi,iFP U]at W;rw[det_kept h n hi,iFN (qbF d)]at k2
 have:a*S.p=b*0:=by
  rw[W,k2,<-sumN_mul,<-sumN_mul];refine sumN_congr λs V=>?_;rw[qaT,E _ (by omega),qaT]
 have:=qjU ha h.pos
 omega
theorem Named.piv (hn:Named P S) (o:e<P.n) (n:r<P.m):Named P (piv S r e) :=by
 refine⟨hn.one,λk D=>?_,λc C=>?_,λi hi=>?_⟩
 ·rcases hn.all k D with⟨c,C,G⟩|⟨i,hi,G⟩
  ·by_cases T:c=e
   ·subst T;exact .inr ⟨r,n,by show (if r=r then _ else _)=_;rw[iFP U];exact G⟩
   ·exact .inl ⟨c,C,by show (if c=e then _ else _)=_;rw[iFN T];exact G⟩
  ·by_cases d:i=r
   ·subst d;exact .inl ⟨e,o,by show (if e=e then _ else _)=_;rw[iFP U];exact G⟩
   ·exact .inr ⟨i,hi,by show (if i=r then _ else _)=_;rw[iFN d];exact G⟩
 ·show (if c=e then _ else _)<_
  split
  ·exact hn.bound.2 r n
  ·exact hn.bound.1 c C
 ·show (if i=r then _ else _)<_
  split
  ·exact hn.bound.1 e o
  ·exact hn.bound.2 i hi
theorem step (h:Good P S) (hn:Named P S) (K:Fe P S) (o:e<P.n) (n:r<P.m) (hq:0<S.T r e) (hg:S.G e<0)
  (R:∀ i,i<P.m->i≠r->0<S.T i e->lexP (P.m+1) λs=>S.T r e*LV P S i s - S.T i e*LV P S r s) :
  Good P (piv S r e)/\Named P (piv S r e)/\Fe P (piv S r e)/\less P S (piv S r e) :=by
 refine⟨h.piv o n hq,hn.piv o n,λi hi=>?_,?_⟩
 ·by_cases d:i=r
  ·subst d
   exact lexP_congr (λs _=>(LV_r o).symm) (K i hi)
  ·refine lexP_unmul h.pos (lexP_congr (λs E=>(LV_i h hn o E hi n d).symm) ?_)
   by_cases ht:0<S.T i e
   ·exact R i hi d ht
   ·refine lexP_congr (λs _=>?_) (lexP_addn (c:=- S.T i e) (by omega) (lexP_mul hq (K i hi)) (K r n))
    rw[qdw];omega
 ·refine lexP_congr (λs E=>?_) (lexP_mul (c:=- S.G e) (by omega) (K r n))
  show - S.G e*LV P S r s=S.p*ZV P _ s - S.T r e*ZV P S s;rw[ZV_piv h hn o E n,qdw];omega
theorem filt_len (N):∀ l:List Nat,(l.filter λx=>decide (x=N)).length+(l.filter λx=>decide (x≠N)).length=l.length
 |[]=>rfl
 |x::l=>by
  have ih:=filt_len N l;by_cases h:x=N
  ·rw[qel (by simpa using h),qem (by simpa using h),qam,qam];omega
  ·rw[qem (by simpa using h),qel (by simpa using h),qam,qam];omega
theorem nodup_le:∀ (N) (l:List Nat),l.Nodup->(∀ x∈l,x<N)->l.length<=N :=by
 intro N
 induction N with
 |zero=>
  intro l _ h;cases l with
  |nil=>exact qan _
  |cons x l=>exact absurd (h x qag) (by omega)
 |succ N ih=>
  intro l z h;have q:=ih (l.filter λx=>decide (x≠N)) (z.filter _) λx hx=>by
   have:=qbm.mp hx
   have A:=h x this.1;have u:=by simpa using this.2
   omega
  have A:(l.filter λx=>decide (x=N)).length<=1:=by
   have hn:=z.filter λx=>decide (x=N);have B:∀ x∈l.filter (λx=>decide (x=N)),x=N:=λx hx=>by simpa using (qbm.mp hx).2
   match l.filter _,hn,B with
   |[],_,_=>exact qbr _
   |[x],_,_=>exact qan _
   |x::y::r,hn,B=>
    exact absurd ((B x qag).trans (B y (qah _ qag)).symm) ((qbc.mp hn).1 y qag)
  have u:=filt_len N l;omega
noncomputable def code (b:Nat) (f:Nat->Nat):Nat->Nat
 |0=>0
 |m+1=>code b f m*b+f m
theorem code_lt :∀ {m},(∀ i,i<m->f i<b)->code b f m<b^m
 |0,_=>Nat.one_pos
 |m+1,h=>by
  have q:=h m (by omega)
  calc code b f m*b+f m<code b f m*b+b:=by omega
   _=(code b f m+1)*b:=by rw[qjS,qjR]
   _<=b^m*b:=qcx b (code_lt λi hi=>h i (by omega))
theorem code_inj {f g}:∀ {m},(∀ i,i<m->f i<b)->(∀ i,i<m->g i<b)->code b f m=code b g m->∀ i,i<m->f i=g i
 |0,_,_,_,i,hi=>absurd hi (by omega)
 |m+1,K,hg,e,i,hi=>by
  rw[code,code]at e;have A:=hg m (by omega);have G:=by
   have:=congrArg (·%b) e
   simp only[Nat.mul_add_mod_self_right]at this;rw[qhT (K m (by omega)),qhT A]at this;exact this
  have H:code b f m=code b g m:=by
   exact Nat.eq_of_mul_eq_mul_right (by omega:0<b) (by omega)
  by_cases him:i=m
  ·rw[him];exact G
  ·exact code_inj (λi hi=>K i (by omega)) (λi hi=>hg i (by omega)) H i (by omega)
noncomputable def leastR (tops bots:Nat->Int):List Nat->List Nat->List Nat
 |[],least=>least
 |p::ps,[]=>leastR tops bots ps [p]
 |p::ps,g::r=>if tops p*bots g > tops g*bots p then leastR tops bots ps (g::r) else if tops p*bots g<tops g*bots p then leastR tops bots ps [p] else leastR tops bots ps ((g::r)++[p])
structure Least (tops bots:Nat->Int) (ps out:List Nat):Prop where
 ne:ps≠[]->out≠[]
 sub:∀ x∈out,x∈ps
 nd:ps.Nodup->out.Nodup
 eq:∀ x∈out,∀ y∈out,tops x*bots y=tops y*bots x
 lt:∀ x∈out,∀ y∈ps,y∉out->tops x*bots y<tops y*bots x
theorem ratio_lt {     r:Int} (hp:0<p) (hq:0<q) (O:0<r) (z:a*q<b*p) (I:b*r<=c*q):a*r<c*p :=by
 have w:=qdS z O;have e2:b*r*p<=c*q*p:=qfB I (by omega);rw[qbn b p r]at w;have Y:a*r*q<c*p*q:=by rw[qbn a r q,qbn c p q];omega
 exact qdZ Y (by omega)
theorem leastR_ok { bots}:∀ (ps done least),(∀ x∈done++ps,0<bots x)->(done++ps).Nodup->Least tops bots done least->Least tops bots (done++ps) (leastR tops bots ps least) :=by
 intro ps
 induction ps with
 |nil=>intro done least _ _ h;rw[qbR];cases least<;>exact h
 |cons p ps A=>
  intro done least hb m h;have hp:=hb p (qay _ qag);have X:=λhm=>by
   rw[qcy]at m;exact m.2.2 p hm p qag U
  have e:done++p::ps=(done++[p])++ps:=by simp
  have B:=(qcy.mp m).1;rw[e]at hb m ⊢;cases least with
  |nil=>
   have hd:done=[]:=by
    cases done with
    |nil=>rfl
    |cons x d=>exact absurd U (h.ne (by simp))
   subst hd;refine A _ _ hb m ⟨λ_=>by simp,λx hx=>by simpa using hx,λ_=>by simp,λx hx y f=>?_,λx hx y f hn=>absurd (by simpa using f) (by simpa using hn)⟩;rw[qao.mp hx,qao.mp f]
  |cons g r=>
   have o:g∈g::r:=qag;have hb0:=hb g (qbd _ (qbd _ (h.sub g o)));have H:=λy f=>hb y (qbd _ (qbd _ f));rw[leastR];by_cases c1:tops p*bots g > tops g*bots p
   ·rw[iFP c1]
    refine A _ _ hb m ⟨λ_=>by simp,λx hx=>qbd _ (h.sub x hx),λ_=>h.nd B,h.eq,λx hx y f hn=>?_⟩;rcases qaV.mp f with f|f
    ·exact h.lt x hx y f hn
    ·rw[qao.mp f]
     exact Int.lt_of_lt_of_le (by
      have w:tops x*bots g*bots p=tops g*bots p*bots x:=by rw[<-(h.eq g o x hx),qbn]
      have Y:tops x*bots p*bots g<tops p*bots x*bots g:=by rw[qbn,w,qbn (tops p)];exact (qdS c1 (H x (h.sub x hx)))
      exact qdZ Y (by omega)) (qck _)
   ·rw[iFN c1]
    by_cases c2:tops p*bots g<tops g*bots p
    ·rw[iFP c2]
     refine A _ _ hb m ⟨λ_=>by simp,λx hx=>by rw[qao.mp hx];simp,λ_=>by simp,λx hx y f=>by rw[qao.mp hx,qao.mp f],λx hx y f hn=>?_⟩;rw[qao.mp hx];rcases qaV.mp f with f|f
     ·have R:tops g*bots y<=tops y*bots g:=by
       by_cases hm:y∈g::r
       ·exact Int.le_of_eq (h.eq g o y hm)
       ·exact qgZ (h.lt g o y f hm)
      exact ratio_lt hp hb0 (H y f) c2 R
     ·exact absurd (by simpa using f) (by simpa using hn)
    ·rw[iFN c2]
     have K:tops p*bots g=tops g*bots p:=by omega
     have J:=λx hx=>by
      have w:tops p*bots x*bots g=tops x*bots p*bots g:=by
       rw[qbn,K,qbn,(h.eq g o x hx),qbn]
      exact qgh (by omega) w
     refine A _ _ hb m ⟨λ_=>by simp,λx hx=>?_,λ_=>?_,λx hx y f=>?_,λx hx y f hn=>?_⟩
     ·rcases qaV.mp hx with hx|hx
      ·exact qbd _ (h.sub x hx)
      ·exact qay _ hx
     ·rw[qcy]
      refine⟨h.nd B,by simp,λx hx y f e=>?_⟩;rw[qao.mp f]at e;rw[e]at hx;exact X (h.sub p hx)
     ·rcases qaV.mp hx with hx|hx<;>rcases qaV.mp f with f|f
      ·exact h.eq x hx y f
      ·rw[qao.mp f];exact (J x hx).symm
      ·rw[qao.mp hx];exact J y f
      ·rw[qao.mp hx,qao.mp f]
     ·have E:y∈done:=by
       rcases qaV.mp f with f|f
       ·exact f
       ·exact absurd (qay _ f) hn
      have D:=λhm=>hn (qbd _ hm);rcases qaV.mp hx with hx|hx
      ·exact h.lt x hx y E D
      ·rw[qao.mp hx]
       have w:tops p*bots y*bots g<tops y*bots p*bots g:=by
        rw[qbn,K,qbn _,qbn (tops y)];exact qdS (h.lt g o y E D) hp
       exact qdZ w (by omega)
theorem least_of (hb:∀ x∈ps,0<bots x) (m:ps.Nodup):Least tops bots ps (leastR tops bots ps []) :=by
 simpa using (leastR_ok ps [] [] (by simpa using hb) (by simpa using m) ⟨λh=>absurd U h,λx hx=>(nomatch hx),λ_=>qcX,λx hx=>(nomatch hx),λx hx=>(nomatch hx)⟩)
noncomputable def leaveL (W:Nat->Nat->Int) (bots:Nat->Int):List Nat->List Nat->List Nat
 |[],ps=>ps
 |s::ss,ps=>if ps.length<2 then ps else leaveL W bots ss (leastR (W s) bots ps [])
structure Lv (W:Nat->Nat->Int) (bots:Nat->Int) (C:List Nat) (s:Nat) (ps:List Nat):Prop where
 ne:ps≠[]
 nd:ps.Nodup
 sub:∀ x∈ps,x∈C
 eq:∀ x∈ps,∀ y∈ps,∀ l,l<s->bots x*W l y - bots y*W l x=0
 lt:∀ x∈ps,∀ y∈C,y∉ps->lexP s λl=>bots x*W l y - bots y*W l x
theorem lexP_mono (h:M<=N) (hv:lexP M v):lexP N v :=let ⟨j,z,I,n⟩:=hv;⟨j,by omega,I,n⟩
theorem Lv.step (hb:∀ x∈C,0<bots x) (h:Lv W bots C s ps):Lv W bots C (s+1) (leastR (W s) bots ps []) :=by
 have L:=least_of (tops:=W s) (λx hx=>hb x (h.sub x hx)) h.nd;refine⟨L.ne h.ne,L.nd h.nd,λx hx=>h.sub x (L.sub x hx),λx hx y f l u=>?_,λx hx y f hn=>?_⟩
 ·rcases qeK l s with z|z
  ·exact h.eq x (L.sub x hx) y (L.sub y f) l z
  ·have:l=s:=by omega
   subst this
   have:=L.eq y f x hx
   rw[qaW _,qaW (bots y)];omega
 ·by_cases hm:y∈ps
  ·have u:=L.lt x hx y hm hn
   refine⟨s,by omega,?_,λl V=>h.eq x (L.sub x hx) y hm l V⟩;show 0<bots x*W s y - bots y*W s x;rw[qaW _,qaW (bots y)];omega
  ·exact lexP_mono (by omega) (h.lt x (L.sub x hx) y f hm)
theorem leaveL_ok (hb:∀ x∈C,0<bots x):∀ (k s) (ps),Lv W bots C s ps->∃ s',s<=s'/\s'<=s+k/\Lv W bots C s' (leaveL W bots ((qai k).map λj=>s+j) ps)/\(s'<s+k->(leaveL W bots ((qai k).map λj=>s+j) ps).length<2) :=by
 intro k
 induction k with
 |zero=>intro s ps h;exact⟨s,qan _,qan _,h,λh=>absurd h (by omega)⟩
 |succ k A=>
  intro s ps h;have e:(qai (k+1)).map (λj=>s+j)=s::(qai k).map λj=>(s+1)+j:=by
   rw[qdn,qat,qaQ]
   congr 1
   refine qbS λj _=>?_;show s+_=_;omega
  rw[e,leaveL];by_cases u:ps.length<2
  ·rw[iFP u]
   exact⟨s,qan _,by omega,h,λ_=>u⟩
  ·rw[iFN u]
   obtain⟨s',z,I,n,T⟩:=A _ _ (h.step hb);exact⟨s',by omega,by omega,n,λh=>T (by omega)⟩
variable {P:Pb}
theorem leaving_ok (h:Good P S) (hA:∀ i,i<P.m->∀ t,P.m<=t->P.A (S.kept i) t=0) (G:∀ i,i∈C↔i<P.m/\0<S.T i e) (hn:C.Nodup) (hne:C≠[]) :
  ∃ r,leaveL (λs i=>LV P S i s) (λi=>S.T i e) ((qai (P.m+1)).map λj=>0+j) C=[r]/\r<P.m/\0<S.T r e/\∀ i,i<P.m->i≠r->0<S.T i e->lexP (P.m+1) λs=>S.T r e*LV P S i s - S.T i e*LV P S r s :=by
 obtain⟨s',z,I,n,T⟩:=leaveL_ok (λx hx=>((G x).mp hx).2) _ 0 C ⟨hne,hn,λx hx=>hx,λx _ y _ l u=>absurd u (by omega),λx _ y f hm=>absurd f hm⟩;generalize leaveL _ _ _ C=out at n T;have F:out.length<2:=by
  rcases qeK out.length 2 with u|u
  ·exact u
  ·exfalso
   match out,u,n with
   |x::y::r,_,n=>
    have hx:=(G x).mp (n.sub x qag)
    refine lines_unlike h hA ((G y).mp (n.sub y (qah _ qag))).1 hx.1 (qbF (λe=>by
     have:=(qbc.mp n.nd).1 y qag
     exact this e)) (b:=S.T y e) hx.2 λs hs'=>?_
    have:=n.eq x qag y (qah _ qag) s (by omega)
    omega
 match out,F,n with
 |[],_,n=>exact absurd U n.ne
 |[r],_,n=>
  have O:=(G r).mp (n.sub r qag);refine⟨r,U,O.1,O.2,λi hi Q hT=>?_⟩;exact lexP_mono (by omega) (n.lt r qag i ((G i).mpr ⟨hi,hT⟩) (by simpa using Q))
variable {P:Pb}
theorem sumN_swap (n m) (f:Nat->Nat->Int):(sumN n λi=>sumN m λk=>f i k)=sumN m λk=>sumN n λi=>f i k :=by
 induction n with
 |zero=>exact (sumN_zero m).symm
 |succ n K=>
  rw[sumN,K];rw[<-sumN_add];rfl
theorem sumN_nonneg (h:∀ k,k<n->0<=f k):0<=sumN n f :=by
 induction n with
 |zero=>exact qck _
 |succ n K=>rw[sumN];have:=K λk q=>h k (by omega);have:=h n (by omega);omega
theorem sumN_append (a b) (f):sumN (a+b) f=sumN a f+sumN b λk=>f (a+k) :=by
 induction b with
 |zero=>rw[sumN];simp
 |succ b K=>rw[<-Nat.add_assoc,sumN,sumN];omega
theorem sumN_right (n) (c) (f):sumN n (λk=>f k*c)=sumN n f*c :=by
 rw[qaW,<-sumN_mul];exact sumN_congr λk _=>qaW _ _
def byName (P:Pb) (S:Tb) (y:Nat->Int) (k:Nat):Int:=sumN P.m λi=>if S.kept i=k then y i else 0
theorem byName_sum (S) (y) (hN:∀ i,i<P.m->S.kept i<N) (f:Nat->Int):(sumN N λk=>byName P S y k*f k)=sumN P.m λi=>y i*f (S.kept i) :=by
 have e:(sumN N λk=>byName P S y k*f k)=sumN N λk=>sumN P.m λi=>_*f k:=sumN_congr λk _=>(sumN_right _ _ _).symm;rw[e,sumN_swap];refine sumN_congr λi hi=>?_;rw[sumN_single (hN i hi) λk _ d=>by rw[iFN (qbF d),qbp],iFP U]
theorem byName_nonneg (h:∀ i,i<P.m->0<=y i) (k):0<=byName P S y k :=sumN_nonneg λi hi=>by split;exact h i hi;exact qck _
theorem byName_at (C:∀ i j,i<P.m->j<P.m->S.kept i=S.kept j->i=j) (hi:i<P.m):byName P S y (S.kept i)=y i :=by
 unfold byName;rw[sumN_single hi λj F d=>iFN λe=>d (C j i F hi e),iFP U]
theorem byName_not (h:∀ i,i<P.m->S.kept i≠k):byName P S y k=0 :=by
 unfold byName;rw[sumN_congr λi hi=>iFN (h i hi),sumN_zero]
theorem unit_sum {v:Vec}(u:r<m):(sumN m λk=>v k*unit k r)=v r :=by
 rw[sumN_single u λk _ d=>by unfold unit;rw[iFN (qbF d),qa9]];unfold unit;rw[iFP U,qc8]
theorem amounts_ok (h:Good P S) (hn:Named P S) (X:∀ i,i<P.m->0<=S.T i P.n) (u:r<P.m):(sumN P.n λj=>byName P S (λi=>S.T i P.n) j*P.A j r)<=S.p*P.b r :=by
 have z:=h.eq P.n (qan _) r;have c1:colV P S P.n=P.b:=by unfold colV;rw[iFN (qbb _)]
 rw[c1]at z;have o:=byName_sum S (λi=>S.T i P.n) hn.bound.2 λk=>P.A k r;rw[sumN_append]at o;have e3:(sumN P.m λk=>byName P S (λi=>S.T i P.n) (P.n+k)*P.A (P.n+k) r)=byName P S (λi=>S.T i P.n) (P.n+r):=by
  rw[sumN_congr λk q=>by rw[hn.one k q]];exact unit_sum u
 have e4:=byName_nonneg (S:=S) X (P.n+r);omega
theorem gains_amounts (h:Good P S) (hn:Named P S) (hg:∀ r,r<P.m->P.g (P.n+r)=0):(sumN P.n λj=>byName P S (λi=>S.T i P.n) j*P.g j)=S.G P.n :=by
 have o:=byName_sum S (λi=>S.T i P.n) hn.bound.2 P.g;rw[sumN_append,sumN_congr (n:=P.m) λk q=>by rw[hg k q,qa9],sumN_zero,qfC]at o;rw[o,h.goal P.n (qan _)]
 have:gainC P S P.n=0:=by unfold gainC;rw[iFN (qbb _)]
 rw[this,qa9,qgY];exact sumN_congr λi _=>qaW _ _
theorem det_by_units (O:∀ t,P.m<=t->v t=0) (hi:i<P.m):det P.m (upd (basis P S) i v)=sumN P.m λs=>v s*LV P S i (s+1) :=by
 have e:=by
  funext t
  by_cases w:t<P.m
  ·exact (unit_sum (v:=v) w).symm
  ·rw[sumN_congr λs W=>by unfold unit;rw[iFN (by omega),qa9],sumN_zero]
   exact O t (by omega)
 have o:=det_sum (basis P S) hi (λs=>v s) unit P.m;rw[<-e]at o;rw[o];refine sumN_congr λs W=>?_;unfold LV XV;rw[iFN (by omega),qcJ]
theorem prices_col (O:∀ t,P.m<=t->v t=0):(sumN P.m λr=>v r*ZV P S (r+1))=sumN P.m λi=>P.g (S.kept i)*det P.m (upd (basis P S) i v) :=by
 have e:(sumN P.m λr=>v r*ZV P S (r+1))=sumN P.m λr=>sumN P.m λi=>P.g _*_:=sumN_congr λr _=>by
  unfold ZV;rw[<-sumN_mul];exact sumN_congr λi _=>by rw[qaT]
 rw[e,sumN_swap];refine sumN_congr λi hi=>?_;rw[sumN_mul,det_by_units O hi]
theorem prices_ok (h:Good P S) (hn:Named P S) (hA:∀ k,k<P.n+P.m->∀ t,P.m<=t->P.A k t=0) (J:∀ c,c<P.n->0<=S.G c) (F:j<P.n):S.p*P.g j<=sumN P.m λr=>P.A j r*ZV P S (r+1) :=by
 rw[prices_col (hA j (by omega))];rcases hn.all j (by omega) with⟨c,x,e⟩|⟨i,hi,e⟩
 ·have z:=h.goal c (by omega)
  have E:gainC P S c=P.g j:=by unfold gainC;rw[iFP x,e]
  have c1:colV P S c=P.A j:=by unfold colV;rw[iFP x,e]
  rw[E]at z;rw[(sumN_congr λi hi=>by rw[<-c1,<-h.entry (by omega) hi])]
  have:=J c x
  omega
 ·rw[sumN_single hi λk q d=>?_]
  ·have:=det_kept h hi hi
   rw[iFP U]at this;have o:det P.m (upd (basis P S) i (P.A j))=S.p:=by rw[<-e];exact this
   rw[o,e,qaW];exact qck _
  ·have:=det_kept h q hi
   rw[iFN d]at this;have o:det P.m (upd (basis P S) k (P.A j))=0:=by rw[<-e];exact this
   rw[o,qa9]
theorem bounds_prices (h:Good P S) (hb:∀ t,P.m<=t->P.b t=0):(sumN P.m λr=>P.b r*ZV P S (r+1))=S.G P.n :=by
 have c1:colV P S P.n=P.b:=by unfold colV;rw[iFN (qbb _)]
 have:gainC P S P.n=0:=by unfold gainC;rw[iFN (qbb _)]
 rw[prices_col hb,h.goal P.n (qan _),this,qa9,qgY];exact sumN_congr λi hi=>by rw[h.entry (qan _) hi,c1]
theorem price_free (h:Good P S) (hn:Named P S) (hg:∀ r,r<P.m->P.g (P.n+r)=0) (u:r<P.m) (x:c<P.n) (e:S.free c=P.n+r):ZV P S (r+1)=S.G c :=by
 have E:gainC P S c=0:=by unfold gainC;rw[iFP x,e,hg r u]
 have c1:colV P S c=unit r:=by unfold colV;rw[iFP x,e,hn.one r u]
 rw[h.goal c (by omega),E,qa9,qgY];refine sumN_congr λi hi=>?_;rw[h.entry (by omega) hi,c1];unfold LV XV;rw[iFN (by omega),qcJ]
theorem price_kept (h:Good P S) (hn:Named P S) (hg:∀ r,r<P.m->P.g (P.n+r)=0) (u:r<P.m) (F:j<P.m) (e:S.kept j=P.n+r):ZV P S (r+1)=0 :=by
 unfold ZV;rw[sumN_single F λk q d=>?_]
 ·rw[e,hg r u,qbp]
 ·have:=det_kept h q F
  rw[iFN d]at this;have o:LV P S k (r+1)=0:=by
   unfold LV XV;rw[qcJ,<-hn.one r u,<-e];exact this
  rw[o,qa9]
def wayN (P:Pb) (S:Tb) (e k:Nat):Int:=byName P S (λi=>- S.T i e) k+if S.free e=k then S.p else 0
theorem way_sum (hn:Named P S) (B:e<P.n) (f:Nat->Int):(sumN (P.n+P.m) λk=>wayN P S e k*f k)=S.p*f (S.free e) - sumN P.m λi=>S.T i e*f (S.kept i) :=by
 have o:(sumN (P.n+P.m) λk=>(if S.free e=k then S.p else 0)*f k)=S.p*f (S.free e):=by
  rw[sumN_single (hn.bound.1 e B) λk _ d=>by rw[iFN (qbF d),qbp],iFP U]
 rw[(sumN_congr λk _=>by unfold wayN;rw[qeq]),sumN_add,(byName_sum S _ hn.bound.2 f)];have e4:(sumN P.m λi=>- S.T i e*f (S.kept i))=- sumN P.m λi=>S.T i e*f (S.kept i):=by
  have:(sumN P.m λi=>- S.T i e*f (S.kept i))=sumN P.m λi=>(-1)*_:=sumN_congr λi _=>by rw[qdw,qdw,qc7]
  rw[this,sumN_mul];omega
 omega
theorem way_nonneg (h:Good P S) (w:∀ i,i<P.m->S.T i e<=0) (k):0<=wayN P S e k :=by
 unfold wayN
 have:=byName_nonneg (S:=S) (λi hi=>by have:=w i hi;show 0<=- S.T i e;omega) k
 have:=h.pos
 split<;>omega
theorem way_rows (h:Good P S) (hn:Named P S) (B:e<P.n) (w:∀ i,i<P.m->S.T i e<=0) (u:r<P.m):(sumN P.n λk=>wayN P S e k*P.A k r)<=0 :=by
 have z:=way_sum hn B λk=>P.A k r;have o:=h.eq e (by omega) r;have c1:colV P S e=P.A (S.free e):=by unfold colV;rw[iFP B]
 rw[c1]at o;rw[sumN_append]at z;have e3:(sumN P.m λk=>wayN P S e (P.n+k)*P.A (P.n+k) r)=wayN P S e (P.n+r):=by
  rw[sumN_congr λk q=>by rw[hn.one k q]];exact unit_sum u
 have:=way_nonneg h w (P.n+r)
 omega
theorem way_gains (h:Good P S) (hn:Named P S) (hg:∀ r,r<P.m->P.g (P.n+r)=0) (B:e<P.n) (J:S.G e<0):0<sumN P.n λk=>wayN P S e k*P.g k :=by
 have z:=way_sum hn B P.g;rw[sumN_append,sumN_congr (n:=P.m) λk q=>by rw[hg k q,qa9],sumN_zero,qfC]at z;have o:=h.goal e (by omega);have E:gainC P S e=P.g (S.free e):=by unfold gainC;rw[iFP B]
 rw[E]at o;rw[z,(sumN_congr λi _=>qaW _ _)];omega
noncomputable def tb0 (P:Pb) (T:Nat->Nat->Int) (G:Nat->Int):Tb:=⟨1,λi=>P.n+i,λc=>c,T,G⟩
theorem good0 (R:∀ r,r<P.m->P.A (P.n+r)=unit r) (hA:∀ k,k<P.n->∀ t,P.m<=t->P.A k t=0) (hb:∀ t,P.m<=t->P.b t=0) (hg:∀ r,r<P.m->P.g (P.n+r)=0)
  (X:∀ i c,i<P.m->c<P.n->T i c=P.A c i) (hL:∀ i,i<P.m->T i P.n=P.b i) (J:∀ c,c<P.n->G c=- P.g c) (M:G P.n=0):Good P (tb0 P T G)/\Named P (tb0 P T G)/\((∀ t,t<P.m->0<=P.b t)->Fe P (tb0 P T G)) :=by
 have A:∀ i,i<P.m->basis P (tb0 P T G) i=unit i:=λi hi=>R i hi;have I:det P.m (basis P (tb0 P T G))=1:=by
  rw[det_congr P.m λk t q _=>by rw[A k q],det_unit]
 have L:∀ c,c<=P.n->∀ t,_*colV P (tb0 P T G) c t=sumN P.m λi=>T i c*P.A _ t:=λc x t=>by
  rw[qc7,sumN_congr λi hi=>by rw[R i hi]];have H:∀ t',P.m<=t'->colV P (tb0 P T G) c t'=0:=λt' D=>by
   unfold colV;by_cases g:c<P.n
   ·rw[iFP g];exact hA c g t' D
   ·rw[iFN g];exact hb t' D
  by_cases w:t<P.m
  ·rw[unit_sum w]
   unfold colV;by_cases g:c<P.n
   ·rw[iFP g,X t c w g];rfl
   ·have:c=P.n:=by omega
    subst this;rw[iFN g,hL t w]
  ·rw[H t (by omega),sumN_congr λi hi=>by unfold unit;rw[iFN (by omega),qa9],sumN_zero]
 have p:Good P (tb0 P T G):=by
  refine⟨by show _<1;decide,I.symm,L,λc x=>?_⟩;show G c=(sumN P.m λi=>P.g (P.n+i)*T i c) - 1*gainC P _ c;rw[sumN_congr λi hi=>by rw[hg i hi,qbp],sumN_zero];unfold gainC;by_cases g:c<P.n
  ·rw[iFP g,J c g]
   show - P.g c=0 - 1*P.g c;omega
  ·have:c=P.n:=by omega
   subst this;rw[iFN g,M];rfl
 refine⟨p,⟨R,λk q=>?_,λc x=>by show c<_;omega,λi hi=>by show P.n+i<_;omega⟩,λV i hi=>?_⟩
 ·by_cases Q:k<P.n
  ·exact .inl ⟨k,Q,U⟩
  ·exact .inr ⟨k - P.n,by omega,by show P.n+_=k;omega⟩
 ·have l0:LV P (tb0 P T G) i 0=P.b i:=by
   have e:=p.entry (qan _) hi;have c1:colV P (tb0 P T G) P.n=P.b:=by unfold colV;rw[iFN (qbb _)]
   rw[c1]at e;unfold LV XV;rw[iFP U,<-e];exact hL i hi
  have ls:∀ s,s<P.m->LV P _ i _=if i=s then 1 else 0:=λs hs=>by
   have:=det_kept p hi hs
   unfold LV XV;rw[qcJ,<-A s hs];exact this
  rcases qdj (V i hi) with Y|Y
  ·exact⟨0,by omega,by rw[l0];exact Y,λl hl=>absurd hl (by omega)⟩
  ·refine⟨i+1,by omega,by rw[ls i hi,iFP U];decide,λl hl=>?_⟩
   cases l with
   |zero=>rw[l0,<-Y]
   |succ l=>rw[ls l (by omega),iFN (by omega)]
end Sx
set_option maxHeartbeats 1000000
namespace Own
open PySem L2
open Sx (Pb Tb Good Named Fe LV ZV piv lexP leastR leaveL sumN unit colV basis)
theorem jP (c:e env st=some (.d (.int z),s)) (a:0<=z) (f:z<=1000) (hm:z.toNat=m):bH (aa e ac) env st=some (cG 0 m,s) :=by
 have hb:-(2^62)<=z/\z<2^62:=⟨qeN (by decide) a,Int.lt_of_le_of_lt f (by decide)⟩;simp only[bH,(ab (b:=ac) c U),qab,hb,and_self,if_true,hm]
theorem aO (h:f env st=some (.d (.lst ds),s)):aC f env st=some (ds,s) :=by
 simp only[aC,h,qab,gI,qap]
theorem bA (h:f env st=some (.d (.tup ds),s)):aC f env st=some (ds,s) :=by
 simp only[aC,h,qab,gI,qap]
theorem pw (h:c env st=some (true,s)) (d:a env s=r):dJ c a b env st=r :=by
 simp only[dJ,h,qab,if_true,d]
theorem sE (h:c env st=some (false,s)) (hb:b env s=r):dJ c a b env st=r :=by
 simp only[dJ,h,qab,qbC,if_false,hb]
theorem Hk (s) (ns:List Int):rC s [.d (.lst (ns.map D.int))]=some (.int ns.sum) :=by
 show (a7 _).map _=_;rw[bm];rfl
theorem A9 (s) (h:0<=b):yo s (.d (.int a)) (.d (.int b))=some (.int (a / 2^b.toNat)) :=iFP h
theorem cc (s) (a b):dEq s (.d (.int a)) (.d (.int b))=some (.bl (a==b)) :=by
 rfl
theorem nJ (s) (a b):dEq s (.d (.str a)) (.d (.str b))=some (.bl (a==b)) :=by
 rfl
theorem fU (s) (h:a.length+b.length<=1000000):a9 s (.d (.lst a)) (.d (.lst b))=some (.lst (a++b)) :=iFP h
theorem qU (s) (h:a.length+b.length<=1000000):a9 s (.d (.tup a)) (.d (.tup b))=some (.tup (a++b)) :=iFP h
noncomputable def mpI (n:Nat) (f:Nat->Int):List D:=(qai n).map λk=>D.int (f k)
def lnD (n:Nat) (T:Nat->Nat->Int) (i:Nat):D:=.lst (mpI (n+1) (T i))
def aX (m n:Nat) (T:Nat->Nat->Int):List D:=(qai m).map (lnD n T)
noncomputable def nI (f:Nat->Nat):Nat->Int:=λk=>((f k:Nat):Int)
abbrev obN:List Str:=["amounts","lines","goal","part","free","kept"]
def obD (P:Pb) (S:Tb):D:=.ob obN [.int (P.n:Int),.lst (aX P.m P.n S.T),.lst (mpI (P.n+1) S.G),.int S.p,.lst (mpI P.n (nI S.free)),.lst (mpI P.m (nI S.kept))]
theorem aD (n) (f):(mpI n f).length=n :=by unfold mpI;rw[qaf,qar]
theorem cn (m n) (T):(aX m n T).length=m :=by unfold aX;rw[qaf,qar]
theorem bi (h:k<n):(mpI n f)[k]?=some (.int (f k)) :=by
 unfold mpI;rw[qaz,qbe h];rfl
theorem oJ (h:k<m):(aX m n T)[k]?=some (lnD n T k) :=by
 unfold aX;rw[qaz,qbe h];rfl
theorem bB (h:∀ k,k<n->f k=g k):mpI n f=mpI n g :=by
 refine qbS λk a=>?_;rw[h k (qaE.mp a)]
theorem oR (n) (f):mpI (n+1) f=mpI n f++[.int (f n)] :=by
 unfold mpI;rw[qdN,qbI];rfl
theorem bP (n) (f):mpI n f=((qai n).map f).map D.int :=by rw[qaQ];rfl
theorem uM (n) (f):(mpI n f).all bN=true :=by
 rw[qaU];intro d hd;obtain⟨k,_,rfl⟩:=qaI.mp hd;rfl
theorem gq :(mpI n f).set k (.int x)=mpI n λj=>if j=k then x else f j :=by
 apply qbq;intro j;by_cases a:j<n
 ·rw[bi a]
  by_cases e:j=k
  ·subst e;rw[iFP U,qbo (by rw[aD];exact a)]
  ·rw[iFN e,qbA (qbF e),bi a]
 ·rw[qaF (by rw[qb6,aD];lia),qaF (by rw[aD];lia)]
theorem dO (st) (h:k<n):dIx st (.d (.lst (mpI n f))) (.d (.int (k)))=some (.int (f k)) :=cT (bi h)
theorem uB (st) (h:k<m):dIx st (.d (.lst (aX m n T))) (.d (.int (k)))=some (lnD n T k) :=cT (oJ h)
theorem uA (st) (h:c<=n):dIx st (.d (lnD n T i)) (.d (.int (c)))=some (.int (T i c)) :=dO st (by lia)
theorem xo (st) :dIx st (.d (lnD n T i)) (.d (.int (-1)))=some (.int (T i n)) :=by
 show atI _ _=_;rw[oR];exact zj _ _
section
variable {P:Pb}{S:Tb}{a:Ef}{env:Ev}{st s:Sto}
theorem bS (h:a env st=some (.d (obD P S),s)):aw "amounts" a env st=some (.d (.int (P.n)),s) :=by simp only[aw,h,qab,obD];rfl
theorem cq (h:a env st=some (.d (obD P S),s)):aw "lines" a env st=some (.d (.lst (aX P.m P.n S.T)),s):=by simp only[aw,h,qab,obD];rfl
theorem mI (h:a env st=some (.d (obD P S),s)):aw "goal" a env st=some (.d (.lst (mpI (P.n+1) S.G)),s):=by simp only[aw,h,qab,obD];rfl
theorem mJ (h:a env st=some (.d (obD P S),s)):aw "part" a env st=some (.d (.int S.p),s):=by simp only[aw,h,qab,obD];rfl
theorem mH (h:a env st=some (.d (obD P S),s)):aw "free" a env st=some (.d (.lst (mpI P.n (nI S.free))),s):=by simp only[aw,h,qab,obD];rfl
theorem qW (h:a env st=some (.d (obD P S),s)):aw "kept" a env st=some (.d (.lst (mpI P.m (nI S.kept))),s):=by simp only[aw,h,qab,obD];rfl
end
theorem gA {l:Ev}(F):∀ {a:List Nat},(∀ k∈a,te (Z (g k)::l) st=some (.d (F k),st))->lcI (.nm 0) aM te (none::l) (a.map g) st=some (a.map F,st)
 |[],_=>rfl
 |k::a,h=>by
  rw[qat];unfold lcI;rw[show cD _ _ _=some (some _::l) from U,qab,show aM _ st=some (true,st) from U,qab,(h k qag),qab,(gA F λx hx=>h x (qah _ hx))];rfl
def Sm (z:Int):Prop:=z.natAbs<2^1900
theorem mulOk (x y) (c:a.natAbs<2^x) (hb:b.natAbs<2^y) (h:x+y<=134217728):qbH a b :=
 qii (qgN.mpr c) (qgN.mpr hb) h
theorem ES { b:Int}(c:a.natAbs<2^x) (hb:b.natAbs<2^y):(a*b).natAbs<2^(x+y) :=by
 rw[qc2,qhp];exact Nat.mul_lt_mul'' c hb
theorem Sm.mulOk (c:Sm a) (hb:Sm b):qbH a b :=Own.mulOk 1900 1900 c hb (by decide)
theorem bx (st) (h:qbH a b):aZ st (.d (.int a)) (.d (.int b))=some (.int (a*b)) :=iFP h
theorem Sm.log (h:Sm a):a.natAbs.log2<9000 :=by
 by_cases b:a.natAbs=0
 ·rw[b];decide
 ·have:=(qhq b).mpr h
  lia
theorem rE (st) (c:0<b) (h:Sm b):rq st (.d (.int a)) (.d (.int b))=some (.int (a / b)) :=iFP ⟨c,h.log⟩
end Own
set_option maxHeartbeats 1000000
namespace Own
open PySem L2
open Sx (Pb Tb Good Named Fe LV ZV piv lexP leastR leaveL sumN unit colV basis)
theorem eK (h:a env st=some (.rt w s)):ag a b env st=some (.rt w s) :=by simp only[ag,h,qab]
theorem ah (h:a env st=some (.nx e s)) (hb:b e s=r):ag a b env st=r :=by simp only[ag,h,qab,hb]
theorem de (h:c env st=some (true,s)) (d:a env s=r):be c a b env st=r :=by simp only[be,h,qab,if_true,d]
theorem bE (h:c env st=some (false,s)) (hb:b env s=r):be c a b env st=r :=by simp only[be,h,qab,qbC,if_false,hb]
theorem C2 (i:o env st=some (.h n,s1)) (f:a env s1=some (.d d,c)) (g:lg s1 n=some e) (hg:lg c n=some ds) (hz:ds.length<1000000):cw (cI cX o (aa a ac)) env st=some (.nx env (c.set n (.l (ds++[d])))) :=by
 simp only[cw,cI,i,(ab (b:=ac) f U),g,hg,cX,hz,if_true,qab,qap]
theorem iL (st:Sto) (a b:C):(st++[a]).set st.length b=st++[b]:=by
 simp
structure Okt (P:Pb) (S:Tb):Prop where
 good:Good P S
 named:Named P S
 m64:P.m<=100
 n64:P.n<=100
 sT:∀ i c,i<P.m->c<=P.n->Sm (S.T i c)
 sL:∀ i s,i<P.m->s<=P.m->Sm (LV P S i s)
 sG:∀ c,c<=P.n->Sm (S.G c)
 sp:Sm S.p
noncomputable def psD (ps:List Nat):List D:=ps.map λk=>D.int ((k:Nat):Int)
theorem xJ (ps):(psD ps).length=ps.length :=by unfold psD;rw[qaf]
theorem i8 (a:ws.length=k) (hb:b (ws.map some++qaJ (n - k) none) st=some (.rt (.h h) s)) (c:st.length<=h) (hd:lg s h=some ds):dW n k b ws st=some (.d (.lst ds),s.take st.length) :=by
 simp only[dW,a,if_true,hb,qab,zG,iFN (qhN.mpr c),hd,qap]
theorem xN { u:Sto}(a:st.length<=h):(st++u).set h c=st++u.set (h - st.length) c :=by
 rw[List.set_append_right _ _ a]
theorem EQ (hg:lg s h=some ds):lg (s.set h (.l es)) h=some es :=by
 have:=(qas.mp (sj hg)).1
 unfold lg;rw[qbo this]
theorem cm (s:Sto) (ds):lg (s++[.l ds]) s.length=some ds :=by unfold lg;simp
theorem DV (s) (hg:lg s h=some ds):ca s (.h h)=some (!ds.isEmpty) :=by
 show (lg s h).map _=_;rw[hg];rfl
theorem Gw (s) (hg:lg s h=some (d::ds)):dIx s (.h h) (.d (.int 0))=some d :=by
 show (lg s h).bind _=_;rw[hg,qab,D7]
theorem Aa (s) (a b):dLt s (.d (.int a)) (.d (.int b))=some (.bl (decide (a<b))) :=rfl
theorem Em (s) (a b):dGt s (.d (.int a)) (.d (.int b))=some (.bl (decide (a > b))) :=rfl
theorem Gk (s) (a b):dGe s (.d (.int a)) (.d (.int b))=some (.bl (decide (a>=b))) :=rfl
section
variable {tops bots:Nat->Int}{m:Nat}{st:Sto}{g:Option W}
theorem kJ (G:∀ i,i<m->Sm (tops i)) (hb:∀ i,i<m->Sm (bots i)):∀ (ps least) (u) (h) (J f c),(∀ x∈ps,x<m)->(∀ x∈least,x<m)->lg (st++u) h=some (psD least)->st.length<=h->least.length+ps.length<=1000->
  ∃ w h' j q k,bu (.nm 4) aV (psD ps) [g,Z (.lst (mpI m tops)),Z (.lst (mpI m bots)),some (.h h),J,f,c] (st++u)=some (.nx [g,Z (.lst (mpI m tops)),Z (.lst (mpI m bots)),some (.h h'),j,q,k] (st++w))/\
   lg (st++w) h'=some (psD (leastR tops bots ps least))/\st.length<=h'
 |[],least,u,h,J,f,c,_,_,hg,y,_=>⟨u,h,J,f,c,U,by rw[leastR];exact hg,y⟩
 |p::ps,least,u,h,J,f,c,Q,P,hg,y,hz=>by
  have s:p<m:=Q p qag;have D:∀ x∈ps,x<m:=λx hx=>Q x (qah _ hx);rw[qam]at hz;have O:∀ f c L,cD (.nm 4) (.d (.int ((p:Nat):Int))) [g,Z (.lst (mpI m tops)),Z (.lst (mpI m bots)),some (.h L),J,f,c]=some [g,Z (.lst (mpI m tops)),Z (.lst (mpI m bots)),some (.h L),Z (.int ((p:Nat):Int)),f,c]:=λ_ _ _=>rfl;have I:∀ (u:Sto) (h:Nat) (ls:List Nat) (f c:Option W),lg (st++u) h=some (psD ls)->st.length<=h->ls.length<1000->cw (cI cX (iV 3) (aa (iV 4) ac)) [g,Z (.lst (mpI m tops)),Z (.lst (mpI m bots)),some (.h h),Z (.int ((p:Nat):Int)),f,c] (st++u)=some _/\lg (st++u.set (h - st.length) (.l (psD (ls++[p])))) h=some (psD (ls++[p])):=λu h ls f c hg y P=>by
   have e:=C2 (o:=iV 3) (a:=iV 4) (env:=[g,Z (.lst (mpI m tops)),Z (.lst (mpI m bots)),some (.h h),Z (.int ((p:Nat):Int)),f,c]) (st:=st++u) (n:=h) (d:=.int ((p:Nat):Int)) U U hg hg (by rw[xJ];lia);have e2:psD ls++[.int ((p:Nat):Int)]=psD (ls++[p]):=by unfold psD;rw[qbI];rfl
   rw[e2,xN y]at e;refine⟨e,?_⟩;rw[<-xN y];exact EQ hg
  cases least with
  |nil=>
   have K:bT ca (iV 3) [g,Z (.lst (mpI m tops)),Z (.lst (mpI m bots)),some (.h h),Z (.int ((p:Nat):Int)),f,c] (st++u)=some (false,st++u):=by
    have:=DV (st++u) hg
    simp only[bT,show iV 3 [g,Z (.lst (mpI m tops)),Z (.lst (mpI m bots)),some (.h h),Z (.int ((p:Nat):Int)),f,c] (st++u)=some (.h h,st++u) from U,qab,this];rfl
   obtain⟨N,a2⟩:=I u h [] f c hg y (by decide);obtain⟨w,h',j,q,k,A,C,i3⟩:=kJ G hb ps [p] _ h (Z (.int ((p:Nat):Int))) f c D (λx hx=>by rw[qao.mp hx];exact s) a2 y (by simp at hz ⊢;lia);refine⟨w,h',j,q,k,?_,by rw[leastR];exact C,i3⟩;have t:aV [g,Z (.lst (mpI m tops)),Z (.lst (mpI m bots)),some (.h h),Z (.int ((p:Nat):Int)),f,c] (st++u)=_:=ah (bE K U) N;show bu (.nm 4) aV (.int ((p:Nat):Int)::psD ps) _ _=_;simp only[bu,O,qab,t];exact A
  |cons v r=>
   have E:v<m:=P v qag;have K:bT ca (iV 3) [g,Z (.lst (mpI m tops)),Z (.lst (mpI m bots)),some (.h h),Z (.int ((p:Nat):Int)),f,c] (st++u)=some (true,st++u):=by
    have:=DV (st++u) hg
    simp only[bT,show iV 3 [g,Z (.lst (mpI m tops)),Z (.lst (mpI m bots)),some (.h h),Z (.int ((p:Nat):Int)),f,c] (st++u)=some (.h h,st++u) from U,qab,this];rfl
   have X:∀ f c,iOp dIx (iV 3) (iC (.int 0)) [g,Z (.lst (mpI m tops)),Z (.lst (mpI m bots)),some (.h h),Z (.int ((p:Nat):Int)),f,c] (st++u)=some (.d (.int ((v:Nat):Int)),st++u):=λ_ _=>ae U U (Gw (st++u) hg);have T:aA (.nm 5) (iOp aZ (iOp dIx (iV 1) (iV 4)) (iOp dIx (iV 2) (iOp dIx (iV 3) (iC (.int 0))))) [g,Z (.lst (mpI m tops)),Z (.lst (mpI m bots)),some (.h h),Z (.int ((p:Nat):Int)),f,c] (st++u)=some _:=
    aj (ae (ae U U (dO _ s)) (ae U (X _ _) (dO _ E)) (bx _ (Sm.mulOk (G p s) (hb v E))))
   have V:aA (.nm 6) (iOp aZ (iOp dIx (iV 1) (iOp dIx (iV 3) (iC (.int 0)))) (iOp dIx (iV 2) (iV 4))) [g,Z (.lst (mpI m tops)),Z (.lst (mpI m bots)),some (.h h),Z (.int ((p:Nat):Int)),Z (.int (tops p*bots v)),c] (st++u)=some (.nx [g,Z (.lst (mpI m tops)),Z (.lst (mpI m bots)),some (.h h),Z (.int ((p:Nat):Int)),Z (.int (tops p*bots v)),Z (.int (tops v*bots p))] (st++u)):=
    aj (ae (ae U (X _ _) (dO _ E)) (ae U U (dO _ s)) (bx _ (Sm.mulOk (G v E) (hb p s))))
   generalize R:tops p*bots v=M at *;generalize S:tops v*bots p=B at *;have tg:aF dGt (iV 5) (iV 6) [g,Z (.lst (mpI m tops)),Z (.lst (mpI m bots)),some (.h h),Z (.int ((p:Nat):Int)),Z (.int M),Z (.int B)] (st++u)=some (decide (M > B),st++u):=ak U U (Em _ _ _);have tl:aF dLt (iV 5) (iV 6) [g,Z (.lst (mpI m tops)),Z (.lst (mpI m bots)),some (.h h),Z (.int ((p:Nat):Int)),Z (.int M),Z (.int B)] (st++u)=some (decide (M<B),st++u):=ak U U (Aa _ _ _);by_cases c1:M > B
   ·rw[decide_eq_true c1]at tg
    obtain⟨w,h',j,q,k,A,C,i3⟩:=kJ G hb ps (v::r) u h (Z (.int ((p:Nat):Int))) (Z (.int M)) (Z (.int B)) D P hg y (by lia);refine⟨w,h',j,q,k,?_,by rw[leastR,R,S,iFP c1];exact C,i3⟩;have t:aV [g,Z (.lst (mpI m tops)),Z (.lst (mpI m bots)),some (.h h),Z (.int ((p:Nat):Int)),f,c] (st++u)=some (.ct [g,Z (.lst (mpI m tops)),Z (.lst (mpI m bots)),some (.h h),Z (.int ((p:Nat):Int)),Z (.int M),Z (.int B)] (st++u)):=by
     have H:be (bT ca (iV 3)) (ag (aA (.nm 5) (iOp aZ (iOp dIx (iV 1) (iV 4)) (iOp dIx (iV 2) (iOp dIx (iV 3) (iC (.int 0)))))) (ag (aA (.nm 6) (iOp aZ (iOp dIx (iV 1) (iOp dIx (iV 3) (iC (.int 0)))) (iOp dIx (iV 2) (iV 4)))) (ag (be (aF dGt (iV 5) (iV 6)) qD aU) (be (aF dLt (iV 5) (iV 6)) (aA (.nm 3) (bM (bf ac))) aU)))) aU [g,Z (.lst (mpI m tops)),Z (.lst (mpI m bots)),some (.h h),Z (.int ((p:Nat):Int)),f,c] (st++u)=some (.ct [g,Z (.lst (mpI m tops)),Z (.lst (mpI m bots)),some (.h h),Z (.int ((p:Nat):Int)),Z (.int M),Z (.int B)] (st++u)):=by
      refine de K (ah T (ah V ?_))
      have:=de (a:=qD) (b:=aU) tg U
      simp only[ag,this];rfl
     show ag _ _ _ _=_;simp only[ag,H];rfl
    show bu (.nm 4) aV (.int ((p:Nat):Int)::psD ps) _ _=_;simp only[bu,O,qab,t];exact A
   ·rw[decide_eq_false c1]at tg
    by_cases c2:M<B
    ·rw[decide_eq_true c2]at tl
     have hn:lg (st++(u++[.l []])) (st++u).length=some (psD []):=by rw[<-qbl];exact cm _ _
     have F:st.length<=(st++u).length:=by rw[qau];lia
     obtain⟨N,a2⟩:=I (u++[.l []]) (st++u).length [] (Z (.int M)) (Z (.int B)) hn F (by decide);obtain⟨w,h',j,q,k,A,C,i3⟩:=kJ G hb ps [p] _ (st++u).length (Z (.int ((p:Nat):Int))) (Z (.int M)) (Z (.int B)) D (λx hx=>by rw[qao.mp hx];exact s) a2 F (by simp at hz ⊢;lia);refine⟨w,h',j,q,k,?_,by rw[leastR,R,S,iFN c1,iFP c2];exact C,i3⟩;have Y:aA (.nm 3) (bM (bf ac)) [g,Z (.lst (mpI m tops)),Z (.lst (mpI m bots)),some (.h h),Z (.int ((p:Nat):Int)),Z (.int M),Z (.int B)] (st++u)=some (.nx [g,Z (.lst (mpI m tops)),Z (.lst (mpI m bots)),some (.h (st++u).length),Z (.int ((p:Nat):Int)),Z (.int M),Z (.int B)] (st++(u++[.l []]))):=by rw[<-qbl];rfl
     have t:aV [g,Z (.lst (mpI m tops)),Z (.lst (mpI m bots)),some (.h h),Z (.int ((p:Nat):Int)),f,c] (st++u)=_:=ah (de K (ah T (ah V (ah (bE tg U) (de tl Y))))) N;show bu (.nm 4) aV (.int ((p:Nat):Int)::psD ps) _ _=_;simp only[bu,O,qab,t];exact A
    ·rw[decide_eq_false c2]at tl
     obtain⟨N,a2⟩:=I u h (v::r) (Z (.int M)) (Z (.int B)) hg y (by rw[qam]at hz ⊢;lia)
     obtain⟨w,h',j,q,k,A,C,i3⟩:=kJ G hb ps ((v::r)++[p]) _ h (Z (.int ((p:Nat):Int))) (Z (.int M)) (Z (.int B)) D (λx hx=>by
      rcases qaV.mp hx with z|z
      ·exact P x z
      ·rw[qao.mp z];exact s) a2 y (by rw[qau,qcm];lia)
     refine⟨w,h',j,q,k,?_,by rw[leastR,R,S,iFN c1,iFN c2];exact C,i3⟩;have t:aV [g,Z (.lst (mpI m tops)),Z (.lst (mpI m bots)),some (.h h),Z (.int ((p:Nat):Int)),f,c] (st++u)=_:=ah (de K (ah T (ah V (ah (bE tg U) (bE tl U))))) N;show bu (.nm 4) aV (.int ((p:Nat):Int)::psD ps) _ _=_;simp only[bu,O,qab,t];exact A
theorem GF (G:∀ i,i<m->Sm (tops i)) (hb:∀ i,i<m->Sm (bots i)) (Q:∀ x∈ps,x<m) (hz:ps.length<=1000):fg [.d (.lst (psD ps)),.d (.lst (mpI m tops)),.d (.lst (mpI m bots))] st=some (.d (.lst (psD (leastR tops bots ps []))),st) :=by
 obtain⟨w,h',j,q,k,A,C,i3⟩:=kJ G hb ps [] [.l []] st.length none none none Q (λx hx=>nomatch hx) (cm st []) (qan _) (by simpa using hz)
 have:=i8 (n:=7) (b:=ji) (ws:=[.d (.lst _),.d _,.d _]) U (ah U (ah (a6 U A) U)) i3 C
 rw[qch]at this;exact this
end
end Own
set_option maxHeartbeats 1000000
namespace Own
open PySem L2
open Sx (Pb Tb Good Named Fe LV ZV piv lexP leastR leaveL sumN unit colV basis)
theorem xn (s) (i):jz s (.d (.int i)) (.d .non)=some (.bl false) :=rfl
theorem rW (s):jz s (.d .non) (.d .non)=some (.bl true) :=rfl
theorem B7 (s) (l):jz s (.d (.tup l)) (.d .non)=some (.bl false) :=rfl
noncomputable def dU (n:Nat):Nat->D
 |0=>.non
 |r+1=>.int (((n+r:Nat)):Int)
theorem yW (n m:Nat):D.non::cG (n) m=(qai (m+1)).map (dU n) :=by
 rw[qdn,qat,qaQ]
 congr 1
theorem jZ (st) (ds):aS st [.d (.lst ds)]=some (.int (ds.length)) :=rfl
theorem pW (h:Okt P S):dC [.d (obD P S)] st=some (.d (.lst ((qai (P.m+1)).map (dU P.n))),st) :=by
 have hm:=h.m64;have hn:=h.n64;have a:iV 0 [some _] st=some (.d (obD P S),st):=rfl;have b:=bS a;refine az U (aH (ae (x:=.d (.lst [.non])) (y:=.d (.lst (cG (P.n) P.m))) (s1:=st) U (av ?_) ?_))
 ·show rP _ [some _] st=_
  have e:aa (aw "amounts" (iV 0)) (aa (iOp a9 (aw "amounts" (iV 0)) (iCB aS (aa (aw "lines" (iV 0)) ac))) ac) [Z (obD P S)] st=some ([.d (.int (P.n)),.d (.int ((P.n)+(P.m)))],st):=by
   refine ab b (ab (ae b (ar (ab (cq a) U) (jZ _ _)) ?_) U);rw[cn];rfl
  simp only[rP,e,qab];rw[iFP (by lia),show (_+_ - (P.n:Int)).toNat=P.m by lia]
 ·rw[<-yW]
  exact fU st (by rw[kX];simp;lia)
theorem Ex { k:Nat}:inD (.int (k)) (mpI n (nI f))=decide (∃ c,c<n/\f c=k) :=by
 rw[qfX];unfold inD mpI;rw[List.any_map,qfy,decide_eq_true_eq];constructor
 ·rintro⟨c,a,e⟩
  refine⟨c,qaE.mp a,?_⟩;have e:(((f c):Int)==_)=true:=e;lia
 ·rintro⟨c,a,e⟩
  refine⟨c,qaE.mpr a,?_⟩;show (((f c):Int)==_)=true;rw[e];exact beq_self_eq_true _
theorem Et { k:Nat}(h:∃ c,c<n/\f c=k):∃ c,c<n/\f c=k/\((qai n).map (nI f)).idxOf? (k:Int)=some c :=by
 obtain⟨c,d,e⟩:=h;cases q:((qai n).map (nI f)).idxOf? _ with
 |none=>
  have:=List.idxOf?_eq_none_iff.mp q
  exact absurd (qaI.mpr ⟨c,qaE.mpr d,by unfold nI;rw[e]⟩) this
 |some j=>
  obtain⟨b,a,_⟩:=qdf.mp q;rw[qaf,qar]at b;refine⟨j,b,?_,U⟩;rw[qc1,qfc]at a;have a:((f j):Int)=_:=a;lia
theorem iq (h:Good P S) (hi:i<P.m) (b:j<P.m) (e:S.kept i=S.kept j):i=j :=by
 rcases Nat.decEq i j with a|c
 ·have:=h.pos
  rw[h.dt,(Sx.det_eq0 _ hi b a (by unfold basis;rw[e]))]at this;exact absurd this (by decide)
 ·exact c
theorem DC (h:Okt P S) (E:s<=P.m):cz [.d (obD P S),.d (dU P.n s)] st=some (.d (.lst (mpI P.m λi=>LV P S i s)),st) :=by
 have hg:=h.good;have hm:=h.m64;have hn:=h.n64;cases s with
 |zero=>
  have e:mpI P.m (λi=>LV P S i 0)=mpI P.m λi=>S.T i P.n:=bB λi hi=>by
   have e:=hg.entry (qan _) hi;have c1:colV P S P.n=P.b:=by unfold Sx.colV;rw[iFN (qbb _)]
   rw[c1]at e;unfold LV Sx.XV;rw[iFP U,<-e]
  rw[e];refine az (n:=3) (k:=2) (b:=fW) U (eK (de (s:=st) (ak (x:=.d .non) U U (rW st)) (aH (av (aR (aO (cq (P:=P) (S:=S) (st:=st) (a:=iV 0) U)) (by rw[cn];lia) ?_)))));exact gA _ λi _=>ae U U (xo st)
 |succ r=>
  have u:r<P.m:=by lia
  have q:∀ o,iV 0 [some _,Z (.int ((P.n+r:Nat))),o] st=some (.d (obD P S),st):=λ_=>rfl;have v:=mH (q none);have g:Sx.XV P (r+1)=unit r:=by unfold Sx.XV;rw[iFN (by lia),qcJ]
  have tI:aF dIn (iV 1) (aw "free" (iV 0)) [Z (obD P S),Z (.int ((P.n+r:Nat))),none] st=some (decide (∃ c,c<P.n/\S.free c=P.n+r),st):=by
   refine ak U v ?_;simp only[dIn,gI,bN,uM,qab,and_self,if_true,Ex]
  refine az (n:=3) (k:=2) (b:=fW) U (ah (bE (ak U U (xn st _)) U) ?_);by_cases p:∃ c,c<P.n/\S.free c=P.n+r
  ·rw[decide_eq_true p]at tI
   obtain⟨c,B,C,l⟩:=Et p;have e:mpI P.m (λi=>LV P S i _)=mpI P.m λi=>S.T i c:=bB λi hi=>by
    have e:=hg.entry (c:=c) (by lia) hi;have c1:colV P S c=unit r:=by unfold Sx.colV;rw[iFP B,C,h.named.one r u]
    rw[c1]at e;unfold LV;rw[g,<-e]
   rw[e];have y:aA (.nm 2) (zM (aw "free" (iV 0)) (aa (iV 1) ac)) [Z (obD P S),Z (.int ((P.n+r:Nat))),none] st=some (.nx [Z (obD P S),Z (.int ((P.n+r:Nat))),Z (.int (c))] st):=by
    refine aj ?_;have A:a7 (mpI P.n (nI S.free))=some ((qai P.n).map (nI S.free)):=by rw[bP];exact bm _
    simp only[zM,v,qab,show aa (iV 1) ac [some _,some _,none] st=some ([.d _],st) from U,A];rw[iFP (by rw[qaf,qar];lia),l];rfl
   refine eK (de tI (ah y (aH (av (aR (aO (cq (P:=P) (S:=S) (q _))) (by rw[cn];lia) ?_)))));exact gA _ λi _=>ae U U (uA st (by lia))
  ·rw[decide_eq_false p]at tI
   obtain⟨j,w,t⟩:∃ j,j<P.m/\S.kept j=P.n+r:=(h.named.all _ (by lia)).elim (λz=>absurd z p) id;have e:mpI P.m (λi=>LV P S i _)=mpI P.m λi=>if S.kept i=P.n+r then S.p else 0:=bB λi hi=>by
    have e:=Sx.det_kept hg hi w;have c1:basis P S j=unit r:=by unfold Sx.basis;rw[t,h.named.one r u]
    rw[c1]at e;unfold LV;rw[g,e];by_cases f:i=j
    ·rw[iFP f,iFP (by rw[f];exact t)]
    ·rw[iFN f,iFN λz=>f (iq hg hi w (z.trans t.symm))]
   rw[e];refine ah (bE tI U) (aH (av (aR (aO (qW (P:=P) (S:=S) (q none))) (by rw[aD];lia) ?_)));refine gA (λi=>D.int _) λi _=>?_;have te:aF dEq (iV 0) (iV 1) [Z (.int (nI S.kept i)),Z (.int ((P.n+r:Nat):Int)),Z (obD P S)] st=some (decide (S.kept i=P.n+r),st):=by
    refine ak U U ?_;rw[cc]
    congr 2
    unfold nI;lia
   by_cases m:S.kept i=P.n+r
   ·rw[decide_eq_true m]at te
    rw[iFP m];exact pw te (mJ (P:=P) (S:=S) (st:=st) (a:=iV 2) U)
   ·rw[decide_eq_false m]at te
    rw[iFN m];exact sE te U
theorem xb (m) (f):bF 0 (mpI m f)=(qai m).map λi=>D.tup [.int ((i:Nat)),.int (f i)] :=by
 apply qbq;intro i;rw[dB,qaz];by_cases hi:i<m
 ·rw[bi hi,qbe hi,qbg];rfl
 ·rw[qaF (by rw[aD];lia),qaF (by rw[qar];lia)];rfl
theorem vZ {l:Ev}{g:Nat->D×D} (p) (F):∀ {a:List Nat},(∀ k∈a,tt (Z (g k).1::some (.d (g k).2)::l) st=some (p k,st)/\(p k=true->te (Z (g k).1::some (.d (g k).2)::l) st=some (.d (F k),st)))->
  lcI (.tp [0,1]) tt te (none::none::l) (a.map λk=>D.tup [(g k).1,(g k).2]) st=some ((a.filter p).map F,st)
 |[],_=>rfl
 |k::a,h=>by
  have b:=vZ p F λx hx=>h x (qah _ hx);obtain⟨e,c⟩:=h k qag;rw[qat];unfold lcI;rw[show cD _ _ _=some (some _::some _::l) from U,qab,e,qab];cases hp:p k with
  |true=>rw[c hp,qab,b,qel hp];rfl
  |false=>rw[iFN (show ¬ (false=true) by decide),b,qem (by rw[hp];decide)]
noncomputable def jj (P:Pb) (S:Tb) (c:Nat):List Nat:=(qai P.m).filter λi=>decide (S.T i c > 0)
def ix (P:Pb) (S:Tb) (c:Nat):List Nat:=leaveL (λs i=>LV P S i s) (λi=>S.T i c) (qai (P.m+1)) (jj P S c)
theorem dP {m}:∀ {ps least},(∀ x∈ps,x<m)->(∀ x∈least,x<m)->(∀ x∈leastR tops bots ps least,x<m)/\(leastR tops bots ps least).length<=ps.length+least.length
 |[],least,_,h=>by rw[leastR];exact⟨h,by simp⟩
 |p::ps,[],c,_=>by
  rw[leastR]
  have:=dP (tops:=tops) (bots:=bots) (λx hx=>c x (qah _ hx)) λx hx=>by rw[qao.mp hx];exact c p qag
  exact⟨this.1,by simp at this ⊢;lia⟩
 |p::ps,e::r,c,d=>by
  have a:=λx hx=>c x (qah _ hx);have b:=c p qag;rw[leastR];split
  ·have:=dP (tops:=tops) (bots:=bots) a d
   exact⟨this.1,by simp at this ⊢;lia⟩
  ·split
   ·have:=dP (tops:=tops) (bots:=bots) a λx hx=>by rw[qao.mp hx];exact b
    exact⟨this.1,by simp at this ⊢;lia⟩
   ·have:=dP (tops:=tops) (bots:=bots) a λx hx=>by
     rcases qaV.mp hx with z|z
     ·exact d x z
     ·rw[qao.mp z];exact b
    exact⟨this.1,by simp at this ⊢;lia⟩
section
variable {P:Pb}{S:Tb}{st:Sto}{c:Nat}
theorem xx (h:Okt P S) (v:c<=P.n):∀ (u ps) (p),(∀ s∈u,s<=P.m)->(∀ x∈ps,x<P.m)->ps.length<=1000->
  ∃ o,bu (.nm 4) eD (u.map (dU P.n)) [Z (obD P S),Z (.int (c)),Z (.lst (mpI P.m λi=>S.T i c)),Z (.lst (psD ps)),p] st=some (.nx [Z (obD P S),Z (.int (c)),Z (.lst (mpI P.m λi=>S.T i c)),Z (.lst (psD (leaveL (λs i=>LV P S i s) (λi=>S.T i c) u ps))),o] st)
 |[],ps,p,_,_,_=>⟨p,U⟩
 |s::u,ps,p,w,F,hz=>by
  have m:cD (.nm 4) _ [some _,some _,some _,some _,p]=some [Z (obD P S),Z (.int (c)),Z (.lst (mpI P.m λi=>S.T i c)),Z (.lst (psD ps)),Z (dU P.n s)]:=rfl;have y:aF dLt (iCB aS (aa (iV 3) ac)) (iC (.int 2)) [Z (obD P S),Z (.int (c)),Z (.lst (mpI P.m λi=>S.T i c)),Z (.lst (psD ps)),Z (dU P.n s)] st=some (decide (ps.length<2),st):=by
   refine ak (ar U (jZ _ _)) U ?_;rw[xJ,Aa]
   congr 2
   lia
  rw[qat,leaveL];by_cases q:ps.length<2
  ·rw[decide_eq_true q]at y
   rw[iFP q];refine⟨some (.d (dU P.n s)),?_⟩;have hb:eD [Z (obD P S),Z (.int (c)),Z (.lst (mpI P.m λi=>S.T i c)),Z (.lst (psD ps)),Z (dU P.n s)] st=some (.bk [Z (obD P S),Z (.int (c)),Z (.lst (mpI P.m λi=>S.T i c)),Z (.lst (psD ps)),Z (dU P.n s)] st):=by
    have:=de (a:=vR) (b:=aU) y U
    show ag _ _ _ _=_;simp only[ag,this];rfl
   simp only[bu,m,qab,hb]
  ·rw[decide_eq_false q]at y
   rw[iFN q];have f:=dP (tops:=λi=>LV P S i s) (bots:=λi=>S.T i c) (least:=[]) F (λx hx=>nomatch hx)
   obtain⟨o,I⟩:=xx h v u _ _ (λx hx=>w x (qah _ hx)) f.1 (by have:=f.2;simp at this;lia);refine⟨o,?_⟩;have hb:eD [some _,some _,some _,some _,some _] st=some _:=
    ah (bE y U) (aj (ai (ab U (ab (ai U (DC h (w s qag))) (ab U U))) (GF (λi hi=>h.sL i s hi (w s qag)) (λi hi=>h.sT i c hi v) F hz)))
   simp only[bu,m,qab,hb];exact I
noncomputable def EO (l:List Nat):D:=match l with
 |[]=>.non
 |r::_=>.int ((r:Nat):Int)
theorem wc (h:Okt P S) (v:c<=P.n):iZ [.d (obD P S),.d (.int (c))] st=some (.d (EO (ix P S c)),st) :=by
 have hm:=h.m64;have A:bL (aa (iV 2) ac) [Z (obD P S),Z (.int (c)),Z (.lst (mpI P.m λi=>S.T i c)),none,none] st=some ((qai P.m).map λi=>D.tup [.int ((i:Nat)),.int (S.T i c)],st):=by
  rw[<-xb];rfl
 have C:∀ x∈jj P S c,x<P.m:=λx hx=>qaE.mp (qbm.mp hx).1;have B:(jj P S c).length<=1000:=by
  have:(jj P S c).length<=(qai P.m).length:=qbV ..
  rw[qar]at this;lia
 obtain⟨p,J⟩:=xx (st:=st) h v (qai (P.m+1)) (jj P S c) none (λs w=>by have:=qaE.mp w;lia) C B;have hw:=pW (st:=st) h;have E:aC (ax dC (aa (iV 0) ac)) [Z (obD P S),Z (.int (c:Int)),Z (.lst (mpI P.m λi=>S.T i c)),Z (.lst (psD (jj P S c))),none] st=some ((qai (P.m+1)).map (dU P.n),st):=aO (ai (ws:=[.d (obD P S)]) U hw);refine az (n:=5) (k:=2) (b:=qq) U (ah (aj (av (aR (aO (cq (P:=P) (S:=S) (env:=[some _,Z (.int (c)),none,none,none]) (st:=st) (a:=iV 0) U)) (by rw[cn];lia) (gA _ λi _=>ae U U (uA st v))))) (ah (aj (av (aR A (by rw[qaf,qar];lia) (vZ (g:=λi=>(D.int ((i:Nat):Int),.int (S.T i c))) (λi=>decide (S.T i c > 0)) (λi=>D.int ((i:Nat):Int)) λi _=>⟨ak U U (Em _ _ _),λ_=>rfl⟩)))) (ah (a6 E J) (aH ?_))));show dJ _ _ _ [some _,some _,some _,Z (.lst (psD (ix P S c))),p] st=_;cases ix P S c with
 |nil=>rfl
 |cons r l=>exact pw U (ae U U (D7 _ _))
theorem wa (hz:∀ i,i<P.m->S.T i c<=0):ix P S c=[]:=by
 have:jj P S c=[]:=by
  unfold jj;rw[qgJ];intro i hi
  have:=hz i (qaE.mp hi)
  lia
 unfold ix;rw[this,qdn,leaveL,iFP (by decide)]
theorem wb (h:Okt P S) (hA:∀ i,i<P.m->∀ t,P.m<=t->P.A (S.kept i) t=0) (hz:¬ ∀ i,i<P.m->S.T i c<=0) :
  ∃ r,ix P S c=[r]/\r<P.m/\0<S.T r c/\∀ i,i<P.m->i≠r->0<S.T i c->lexP (P.m+1) λs=>S.T r c*LV P S i s - S.T i c*LV P S r s:=by
 have G:∀ i,i∈jj P S c↔i<P.m/\0<S.T i c:=λi=>by
  unfold jj;rw[qbm,qaE,decide_eq_true_eq]
 obtain⟨r,H,q⟩:=Sx.leaving_ok h.good hA G (qft qg9 List.nodup_range) (λe=>hz λi hi=>by
  have:¬ _:=λz=>by
   have:=(G i).mpr z
   rw[e]at this;exact absurd this qbx
  lia)
 refine⟨r,?_,q⟩;rw[<-H];unfold ix;rw[show (λj=>0+j)=id by funext j;simp,qg7]
end
end Own
set_option maxHeartbeats 1000000
namespace Own
open PySem L2
open Sx (Pb Tb Good Named Fe LV ZV piv lexP leastR leaveL sumN unit colV basis)
theorem jg (s) (a b):dIx s (.d (.tup [a,b])) (.d (.int 0))=some a :=rfl
theorem io (s) (a b):dIx s (.d (.tup [a,b])) (.d (.int 1))=some b :=rfl
theorem Fq (c:a env st=some (ws,s)) (h:rH ws=some ds) (b:ds.length<=1000):a5 a env st=some (.d (.tup ds),s) :=by
 simp only[a5,c,qab,h,qap,b,if_true]
section
variable {P:Pb}{S:Tb}{st:Sto}
theorem DE (s) (a):dNe s (.d (.int a)) (.d (.int 0))=some (.bl (!(a==0))) :=rfl
theorem Sm.two (ha:Sm a) (hb:Sm b):(a*b).natAbs<2^3800 :=ES ha hb
theorem xh (h:Okt P S) {c1  c2 :Nat}(l:o<P.m) (n:m<P.m) (hM:M.natAbs<2^3800) (hB:B.natAbs<2^3800):∀ (I:List Nat) (C q p),(∀ s∈I,s<=P.m)->
  (∃ b,bu (.nm 5) bV (I.map (dU P.n)) [Z (obD P S),Z (.tup [.int (c1),.int (o)]),Z (.tup [.int (c2),.int (m)]),Z (.int M),Z (.int B),C,q,p] st=some (.rt (.d (.bl b)) st))\/
  ∃ e,bu (.nm 5) bV (I.map (dU P.n)) [Z (obD P S),Z (.tup [.int (c1),.int (o)]),Z (.tup [.int (c2),.int (m)]),Z (.int M),Z (.int B),C,q,p] st=some (.nx e st)
 |[],C,q,p,_=>.inr ⟨_,U⟩
 |s::I,C,q,p,L=>by
  have w:=L s qag;have f:cD (.nm 5) _ [some _,some _,some _,some _,some _,C,q,p]=some [Z (obD P S),Z (.tup [.int (c1),.int (o)]),Z (.tup [.int (c2),.int (m)]),Z (.int M),Z (.int B),Z (dU P.n s),q,p]:=rfl;have s6:aA (.nm 6) (ax cz (aa (iV 0) (aa (iV 5) ac))) [some _,Z (.tup [.int (c1),.int (o)]),Z (.tup [.int (c2),.int (m)]),Z (.int M),Z (.int B),some _,q,p] st=some _:=aj (ai U (DC h w));have Q:aA (.nm 7) (iOp eW (iOp aZ (iV 4) (iOp dIx (iV 6) (iOp dIx (iV 2) (iC _)))) (iOp aZ (iV 3) (iOp dIx (iV 6) (iOp dIx (iV 1) (iC _))))) [Z (obD P S),Z (.tup [.int (c1),.int _]),Z (.tup [.int (c2),.int _]),some _,some _,Z (dU P.n s),Z (.lst (mpI P.m λi=>LV P S i s)),p] st=some _:=
   aj (ae (ae U (ae U (ae U U (io st _ _)) (dO st n)) (bx st (mulOk 3800 1900 hB (h.sL m s n w) (by decide)))) (ae U (ae U (ae U U (io st _ _)) (dO st l)) (bx st (mulOk 3800 1900 hM (h.sL o s l w) (by decide)))) U)
  generalize B*LV P S m s - M*LV P S o s=Zq at Q;have K:aF dNe (iV 7) (iC _) [Z (obD P S),Z (.tup [.int (c1),.int (o)]),Z (.tup [.int (c2),.int (m)]),Z (.int M),Z (.int B),Z (dU P.n s),Z (.lst (mpI P.m λi=>LV P S i s)),some _] st=some (!_,st):=ak U U (DE st Zq);rw[qat];cases hz:(Zq==0) with
  |false=>
   rw[hz]at K
   left
   refine⟨decide (Zq > 0),?_⟩;have hb:bV [some _,some _,some _,some _,some _,some _,q,p] st=some _:=ah s6 (ah Q (de K (aH (ae U U (Em st _ _)))));simp only[bu,f,qab,hb]
  |true=>
   rw[hz]at K;have hb:bV [some _,some _,some _,some _,some _,some _,q,p] st=some _:=ah s6 (ah Q (bE K U));simp only[bu,f,qab,hb];exact (xh h l n hM hB I _ _ _ λx hx=>L x (qah _ hx))
theorem Gm (h:Okt P S) (hc1:c1<P.n) (l:o<P.m) (hc2:c2<P.n) (n:m<P.m):∃ b,b4 [.d (obD P S),.d (.tup [.int (c1),.int (o)]),.d (.tup [.int (c2),.int (m)])] st=some (.d (.bl b),st) :=by
 have G:∀ g o4 C q p,iV 0 [some _,Z (.tup [.int (c1),.int (o)]),Z (.tup [.int (c2),.int (m)]),g,o4,C,q,p] st=some (.d (obD P S),st):=λ_ _ _ _ _=>rfl;have u:aA (.nm 3) (iOp aZ (iOp dIx _ (iOp dIx (iV 1) (iC _))) (iOp dIx (iOp dIx _ (iOp dIx (iV 2) (iC _))) (iOp dIx (iV 2) (iC _)))) [some _,some _,some _,none,none,none,none,none] st=some _:=
  aj (ae (ae (mI (G _ _ _ _ _)) (ae U U (jg st _ _)) (dO st (by lia))) (ae (ae (cq (G _ _ _ _ _)) (ae U U (io st _ _)) (uB st n)) (ae U U (jg st _ _)) (uA st (by lia))) (bx st (Sm.mulOk (h.sG c1 (by lia)) (h.sT m c2 n (by lia)))))
 have Y:aA (.nm 4) (iOp aZ (iOp dIx _ (iOp dIx (iV 2) (iC _))) (iOp dIx (iOp dIx _ (iOp dIx (iV 1) (iC _))) (iOp dIx (iV 1) (iC _)))) [some _,some _,some _,Z (.int (S.G c1*S.T m c2)),none,none,none,none] st=some _:=
  aj (ae (ae (mI (G _ _ _ _ _)) (ae U U (jg st _ _)) (dO st (by lia))) (ae (ae (cq (G _ _ _ _ _)) (ae U U (io st _ _)) (uB st l)) (ae U U (jg st _ _)) (uA st (by lia))) (bx st (Sm.mulOk (h.sG c2 (by lia)) (h.sT o c1 l (by lia)))))
 have H:aC (ax dC (aa (iV 0) ac)) [some _,Z (.tup [.int (c1),.int (o)]),Z (.tup [.int (c2),.int (m)]),Z (.int (S.G c1*S.T m c2)),Z (.int (S.G c2*S.T o c1)),none,none,none] st=some ((qai _).map _,st):=aO (ai U (pW h));rcases xh h l n (Sm.two (h.sG c1 (by lia)) (h.sT m c2 n (by lia))) (Sm.two (h.sG c2 (by lia)) (h.sT o c1 l (by lia))) (qai (P.m+1)) none none none (λs L=>by have:=qaE.mp L;lia) with⟨b,e⟩|⟨e,he⟩
 ·exact⟨b,az U (ah u (ah Y (eK (a6 H e))))⟩
 ·exact⟨false,az U (ah u (ah Y (ah (a6 H he) U)))⟩
def lc (P:Pb) (S:Tb) (x:D):Prop:=x=.non\/∃ c r,c<P.n/\S.G c<0/\ix P S c=[r]/\r<P.m/\0<S.T r c/\(∀ i,i<P.m->i≠r->0<S.T i c->lexP (P.m+1) λs=>S.T r c*LV P S i s - S.T i c*LV P S r s)/\x=.tup [.int (c:Int),.int (r:Int)]
theorem rg (h:Okt P S) (hA:∀ i,i<P.m->∀ t,P.m<=t->P.A (S.kept i) t=0):∀ (j k) (x) (A g),k+j=P.n->lc P S x->(x=.non->∀ c,c<k->0<=S.G c)->
  (∃ c,c<P.n/\S.G c<0/\(∀ i,i<P.m->S.T i c<=0)/\bu (.nm 2) bR ((qcP k j).map λc=>D.int ((c:Nat))) [Z (obD P S),Z x,A,g] st=some (.rt (.d (.tup [.int (c),.non])) st))\/
  ∃ y R X,lc P S y/\(y=.non->∀ c,c<P.n->0<=S.G c)/\bu (.nm 2) bR ((qcP k j).map λc=>D.int ((c:Nat))) [Z (obD P S),Z x,A,g] st=some (.nx [Z (obD P S),Z y,R,X] st)
 |0,k,x,A,g,hk,hx,E=>.inr ⟨x,A,g,hx,by rw[<-hk];exact E,U⟩
 |j+1,k,x,A,g,hk,hx,E=>by
  have F:k<P.n:=by lia
  have f:cD (.nm 2) _ [some _,some _,A,g]=some [Z (obD P S),Z x,Z (.int ((k))),g]:=rfl;have G:∀ a b d,iV 0 [some _,a,b,d] st=some (.d (obD P S),st):=λ_ _ _=>rfl;have tg:aF dGe (iOp dIx _ (iV 2)) (iC _) [some _,Z x,some _,g] st=some (decide (S.G k>=0),st):=ak (ae (mI (G _ _ _)) U (dO st (by lia))) U (Gk st _ _);rw[List.range'_succ,qat];by_cases hg:S.G k>=0
  ·rw[decide_eq_true hg]at tg
   have hb:bR [Z (obD P S),Z x,Z (.int ((k))),g] st=some (.ct [Z (obD P S),Z x,Z (.int ((k))),g] st):=by
    have:=de (a:=qD) (b:=aU) tg U
    show ag _ _ _ _=_;simp only[ag,this];rfl
   simp only[bu,f,qab,hb]
   exact (rg h hA j (k+1) x (Z (.int ((k:Nat):Int))) g (by lia) hx λe c hc=>by
    by_cases z:c=k
    ·rw[z];exact hg
    ·exact E e c (by lia))
  ·rw[decide_eq_false hg]at tg
   have J:S.G k<0:=by lia
   have u:aA (.nm 3) (a5 (aa (iV 2) (aa (ax iZ (aa (iV 0) (aa (iV 2) ac))) ac))) [Z (obD P S),Z x,Z (.int ((k:Nat):Int)),g] st=some _:=
    aj (Fq (ab U (ab (ai (ws:=[.d (obD P S),.d (.int ((k:Nat):Int))]) U (wc (st:=st) (c:=k) h (by lia))) U)) U (by show 2<=1000;decide))
   by_cases hz:∀ i,i<P.m->S.T i k<=0
   ·rw[wa hz]at u
    left
    refine⟨k,F,J,hz,?_⟩;have hb:bR [Z (obD P S),Z x,Z (.int ((k:Nat):Int)),g] st=some (.rt (.d (.tup [.int ((k:Nat):Int),.non])) st):=ah (bE tg U) (ah u (eK (de (ak (ae U U (io st _ _)) U (rW st)) U)));simp only[bu,f,qab,hb]
   ·obtain⟨r,l1,l2,l3,l4⟩:=wb h hA hz
    rw[l1]at u;have T:aF jz (iOp dIx (iV 3) (iC _)) (iC .non) [Z (obD P S),Z x,Z (.int ((k))),Z (.tup [.int ((k)),.int ((r))])] st=some (false,st):=ak (ae U U (io st _ _)) U (xn st _);have v:lc P S _:=.inr ⟨k,r,F,J,l1,l2,l3,l4,U⟩;have O:∃ y,lc P S y/\y≠.non/\bR [Z (obD P S),Z x,Z (.int ((k))),g] st=some (.nx [Z (obD P S),Z y,Z (.int ((k))),Z (.tup [.int ((k)),.int ((r))])] st):=by
     rcases hx with rfl|⟨c,V,c1,c2,c3,c4,c5,c6,rfl⟩
     ·have t1:aF jz (iV 1) (iC .non) [Z (obD P S),some _,Z (.int ((k))),Z (.tup [.int ((k)),.int ((r))])] st=some (true,st):=ak U U (rW st)
      have t2:cF (aF jz (iV 1) (iC .non)) (bT ca (ax b4 (aa (iV 0) (aa (iV 3) (aa (iV 1) ac))))) [Z (obD P S),Z .non,Z (.int ((k))),Z (.tup [.int ((k)),.int ((r))])] st=some (true,st):=by simp only[cF,t1,qab,if_true]
      exact⟨_,v,by simp,ah (bE tg U) (ah u (ah (bE T U) (de t2 U)))⟩
     ·obtain⟨b,eb⟩:=Gm h F l2 c1 c4
      have t1:aF jz (iV 1) (iC .non) [Z (obD P S),Z (.tup [.int (c),.int (V)]),Z (.int ((k))),Z (.tup [.int ((k)),.int ((r))])] st=some (false,st):=ak U U (B7 st _);have t3:ax b4 (aa (iV 0) (aa (iV 3) (aa (iV 1) ac))) [some _,some _,Z (.int ((k))),some _] st=some (.d _,st):=ai U eb;have t2:cF (aF jz (iV 1) (iC .non)) (bT ca (ax b4 (aa (iV 0) (aa (iV 3) (aa (iV 1) ac))))) [Z (obD P S),Z (.tup [.int (c),.int (V)]),Z (.int ((k))),Z (.tup [.int ((k)),.int ((r))])] st=some (b,st):=by simp only[cF,t1,bT,t3,qab,qbC,if_false,ca,qap]
      cases b with
      |true=>exact⟨_,v,by simp,ah (bE tg U) (ah u (ah (bE T U) (de t2 U)))⟩
      |false=>exact⟨_,.inr ⟨c,V,c1,c2,c3,c4,c5,c6,U⟩,by simp,ah (bE tg U) (ah u (ah (bE T U) (bE t2 U)))⟩
    obtain⟨y,hy,N,hb⟩:=O;simp only[bu,f,qab,hb];exact (rg h hA j (k+1) y (Z (.int ((k:Nat):Int))) (Z (.tup [.int ((k:Nat):Int),.int ((r:Nat):Int)])) (by lia) hy λe=>absurd e N)
theorem F7 (h:Okt P S) (hA:∀ i,i<P.m->∀ t,P.m<=t->P.A (S.kept i) t=0) :
  (∃ c,c<P.n/\S.G c<0/\(∀ i,i<P.m->S.T i c<=0)/\bK [.d (obD P S)] st=some (.d (.tup [.int (c),.non]),st))\/
  ∃ y,lc P S y/\(y=.non->∀ c,c<P.n->0<=S.G c)/\bK [.d (obD P S)] st=some (.d y,st) :=by
 have hn:=h.n64;have hr:bH (aa (iCB aS (aa (aw "free" (iV 0)) ac)) ac) [Z (obD P S),Z .non,none,none] st=some ((qcP 0 P.n).map λc=>D.int ((c:Nat)),st):=by
  have e2:cG 0 P.n=(qcP 0 P.n).map λc=>D.int ((c:Nat)):=by
   unfold cG;rw[qdF];exact qbS λk _=>by rw[qbO]
  rw[<-e2];exact (jP (ar (ab (mH U) U) (show aS st [.d _]=some _ by rw[jZ,aD])) (by lia) (by lia) (by lia))
 rcases rg h hA P.n 0 .non none none (by lia) (.inl rfl) (λ_ c hc=>absurd hc (by lia)) with⟨c,c1,c2,c3,e⟩|⟨y,A,g,y1,y2,e⟩
 ·exact .inl ⟨c,c1,c2,c3,az U (ah U (eK (a6 hr e)))⟩
 ·exact .inr ⟨y,y1,y2,az U (ah U (ah (a6 hr e) U))⟩
end
end Own
set_option maxHeartbeats 1000000
namespace Own
open PySem L2
open Sx (Pb Tb Good Named Fe LV ZV piv lexP leastR leaveL sumN unit colV basis)
theorem ef (h:k<n):ixN n (k)=some k :=by
 unfold ixN;rw[iFP (by lia),iFP (by lia)];rfl
theorem FW (n) (f g):cH (mpI n f) (mpI n g)=(qai n).map λc=>D.tup [.int (f c),.int (g c)] :=by
 apply qbq;intro i;rw[fR,qaz];by_cases hi:i<n
 ·rw[bi hi,bi hi,qbe hi];rfl
 ·rw[qaF (by rw[aD];lia),qaF (l:=qai n) (by rw[qar];lia)];rfl
theorem z5 {l:Ev}{g:Nat->D×D} (F) {a:List Nat} (h:∀ k∈a,te (Z (g k).1::some (.d (g k).2)::l) st=some (.d (F k),st)) :
  lcI (.tp [0,1]) aM te (none::none::l) (a.map λk=>D.tup [(g k).1,(g k).2]) st=some (a.map F,st) :=by
 have:=vZ (tt:=aM) _ F λk b=>⟨U,λ_=>h k b⟩
 rw[this,qha.mpr λ_ _=>rfl]
theorem vg (m:e<=n) (u:0<p) (sp:Sm p) (j:∀ c,c<=n->Sm (f c)) (sg:∀ c,c<=n->Sm (g c)) (hn:n<=1000) :
  kL [.d (.lst (mpI (n+1) f)),.d (.lst (mpI (n+1) g)),.d (.int (e)),.d (.int p)] st=some (.d (.lst (mpI (n+1) λc=>if c=e then - f e else (g e*f c - f e*g c) / p)),st) :=by
 have a:e<n+1:=by lia
 have hz:cx (aa (iV 0) (aa (iV 1) ac)) [Z (.lst (mpI (n+1) f)),Z (.lst (mpI (n+1) g)),Z (.int (e:Int)),Z (.int p),Z (.int (g e)),Z (.int (f e)),none] st=some ((qai (n+1)).map λc=>D.tup [.int (f c),.int (g c)],st):=by
  rw[<-FW];rfl
 have w:lcI (.tp [0,1]) aM lq [none,none,Z (.int (g e)),Z (.int (f e)),Z (.int p)] ((qai (n+1)).map λc=>D.tup [.int (f c),.int (g c)]) st=some (mpI (n+1) λc=>(g e*f c - f e*g c) / p,st):=by
  refine z5 (g:=λc=>(D.int (f c),.int (g c))) _ λc r=>?_;have i:c<=n:=by have:=qaE.mp r;lia
  exact ae (ae (ae U U (bx st (Sm.mulOk (sg e m) (j c i)))) (ae U U (bx st (Sm.mulOk (j e m) (sg c i)))) U) U (rE st u sp)
 have x:aA (.nm 6) (bM (iLc 2 [4,5,3] (cx (aa (iV 0) (aa (iV 1) ac))) (.tp [0,1]) aM lq)) [Z (.lst (mpI (n+1) f)),Z (.lst (mpI (n+1) g)),Z (.int (e:Int)),Z (.int p),Z (.int (g e)),Z (.int (f e)),none] st=some (.nx [Z (.lst (mpI (n+1) f)),Z (.lst (mpI (n+1) g)),Z (.int (e:Int)),Z (.int p),Z (.int (g e)),Z (.int (f e)),some (.h st.length)] (st++[.l (mpI (n+1) λc=>(g e*f c - f e*g c) / p)])):=by
  refine aj ?_
  have:=aR (k:=2) (js:=[4,5,3]) hz (by rw[qaf,qar];lia) w
  simp only[bM,this,qap]
 have s:bz (iV 6) (iV 2) (iUn gT (iV 5)) [Z (.lst (mpI (n+1) f)),Z (.lst (mpI (n+1) g)),Z (.int (e:Int)),Z (.int p),Z (.int (g e)),Z (.int (f e)),some (.h st.length)] (st++[.l (mpI (n+1) λc=>(g e*f c - f e*g c) / p)])=some (.nx [Z (.lst (mpI (n+1) f)),Z (.lst (mpI (n+1) g)),Z (.int (e:Int)),Z (.int p),Z (.int (g e)),Z (.int (f e)),some (.h st.length)] (st++[.l (mpI (n+1) λc=>if c=e then - f e else (g e*f c - f e*g c) / p)])):=by
  have t:gB (st++[.l (mpI (n+1) λc=>(g e*f c - f e*g c) / p)]) (.h st.length) (.d (.int (e:Int))) (.d (.int (- f e)))=some (st++[.l (mpI (n+1) λc=>if c=e then - f e else (g e*f c - f e*g c) / p)]):=by
   simp only[gB,cm,qab,aD,ef a,qap,iL,gq]
  have v:iUn gT (iV 5) [Z (.lst (mpI (n+1) f)),Z (.lst (mpI (n+1) g)),Z (.int (e:Int)),Z (.int p),Z (.int (g e)),Z (.int (f e)),some (.h st.length)] _=some (.d (.int (- f e)),st++[.l (mpI (n+1) λc=>(g e*f c - f e*g c) / p)]):=rfl;have q:iV 6 [Z (.lst (mpI (n+1) f)),Z (.lst (mpI (n+1) g)),Z (.int (e:Int)),Z (.int p),Z (.int (g e)),Z (.int (f e)),some (.h st.length)] _=some (.h st.length,st++[.l (mpI (n+1) λc=>(g e*f c - f e*g c) / p)]):=rfl;have o:iV 2 [Z (.lst (mpI (n+1) f)),Z (.lst (mpI (n+1) g)),Z (.int (e:Int)),Z (.int p),Z (.int (g e)),Z (.int (f e)),some (.h st.length)] _=some (.d (.int (e:Int)),st++[.l (mpI (n+1) λc=>(g e*f c - f e*g c) / p)]):=rfl;simp only[bz,v,q,o,qab,t,qap]
 have:=i8 (n:=7) (k:=4) (b:=wT) (ws:=[.d (.lst (mpI (n+1) f)),.d (.lst (mpI (n+1) g)),.d (.int (e:Int)),.d (.int p)]) (st:=st) (h:=st.length) U (ah (aj (ae U U (dO st a))) (ah (aj (ae U U (dO st a))) (ah x (ah s U)))) (qan _) (cm _ _)
 rw[qch]at this;exact this
abbrev stG (st0:Sto) (fr kp:List D) (fs:List (Str×W)):Sto:=st0++[.l fr,.l kp,.o fs]
noncomputable def fsO (n:Nat) (a:List D) (b:List D) (p:Int) (L:Nat):List (Str×W):=[("amounts",.d (.int (n:Int))),("lines",.d (.lst a)),("goal",.d (.lst b)),("part",.d (.int p)),("free",.h L),("kept",.h (L+1))]
section
variable {st0:Sto}{fr kp:List D}{fs:List (Str×W)}
theorem sg2:(stG st0 fr kp fs)[st0.length+2]?=some (.o fs):=by rw[qaK (by lia)];simp
theorem sg0:lg (stG st0 fr kp fs) st0.length=some fr:=by unfold lg;rw[qaK (by lia)];simp
theorem sg1:lg (stG st0 fr kp fs) (st0.length+1)=some kp:=by unfold lg;rw[qaK (by lia)];simp
theorem ss2 :(stG st0 fr kp fs).set (st0.length+2) (.o c)=stG st0 fr kp c :=by simp
theorem ss0 :(stG st0 fr kp fs).set st0.length (.l x)=stG st0 x kp fs :=by simp
theorem ss1 :(stG st0 fr kp fs).set (st0.length+1) (.l x)=stG st0 fr x fs :=by simp
theorem lT (h:a env (stG st0 fr kp fs)=some (.h (st0.length+2),stG st0 fr kp fs)) (b:fs.lookup f=some w):aw f a env (stG st0 fr kp fs)=some (w,stG st0 fr kp fs) :=by
 simp only[aw,h,qab,sg2,b,qap]
theorem sJ (e:v env (stG st0 fr kp fs)=some (.d x,stG st0 fr kp fs)) (g:o env (stG st0 fr kp fs)=some (.h (st0.length+2),stG st0 fr kp fs)) (hz:fs.length<1000) (b:(fs.lookup f).isSome=true):l5 f o v env (stG st0 fr kp fs)=some (.nx env (stG st0 fr kp (pk f (.d x) fs))) :=by
 simp only[l5,e,g,qab,sg2,hz,b,and_self,if_true,ss2]
end
section
variable {n L:Nat}{b a e c:List D}{p f:Int}
theorem C0:pk ("goal") (.d (.lst c)) (fsO n b a p L)=fsO n b c p L :=rfl
theorem AR:pk ("lines") (.d (.lst e)) (fsO n b a p L)=fsO n e a p L :=rfl
theorem C1:pk ("part") (.d (.int f)) (fsO n b a p L)=fsO n b a f L :=rfl
theorem uG:(fsO n b a p L).lookup ("lines" : Str)=some (.d (.lst b)):=rfl
theorem Ci:(fsO n b a p L).lookup ("goal" : Str)=some (.d (.lst a)):=rfl
theorem Cj:(fsO n b a p L).lookup ("part" : Str)=some (.d (.int p)):=rfl
end
def stO (st0:Sto) (P:Pb) (S:Tb):Sto:=stG st0 (mpI P.n (nI S.free)) (mpI P.m (nI S.kept)) (fsO P.n (aX P.m P.n S.T) (mpI (P.n+1) S.G) S.p st0.length)
theorem Bv (h:vwA (stO st0 P S) ws=some ws'):vwA (stO st0 P S) (.h (st0.length+2)::ws)=some (.d (obD P S)::ws') :=by
 have e:vwW (stO st0 P S) (.h (st0.length+2))=some (.d (obD P S)):=by
  unfold vwW stO;dsimp only;rw[sg2];dsimp only
  have:vwF (stG st0 (mpI P.n (nI S.free)) (mpI P.m (nI S.kept)) (fsO P.n (aX P.m P.n S.T) (mpI (P.n+1) S.G) S.p st0.length)) (fsO P.n (aX P.m P.n S.T) (mpI (P.n+1) S.G) S.p st0.length)=some [.int (P.n),.lst (aX P.m P.n S.T),.lst (mpI (P.n+1) S.G),.int S.p,.lst (mpI P.n (nI S.free)),.lst (mpI P.m (nI S.kept))]:=by
   simp only[fsO,vwF,qap,qab];rw[sg0,sg1];rfl
  rw[this];rfl
 simp only[vwA,e,h,qab,qap]
theorem yK {F:Nat->Nat->Int}:((qai m).map λi=>D.lst (mpI (n+1) (F i))).set r (.lst (mpI (n+1) g))=aX m n λi=>if i=r then g else F i :=by
 apply qbq;intro i;by_cases hi:i<m
 ·rw[oJ hi]
  by_cases e:i=r
  ·subst e
   rw[qbo (by rw[qaf,qar];exact hi)];unfold lnD;dsimp only;rw[iFP U]
  ·rw[qbA (qbF e),qaz,qbe hi]
   unfold lnD;dsimp only;rw[iFN e];rfl
 ·rw[qaF (by rw[qb6,qaf,qar];lia),qaF (by rw[cn];lia)]
theorem BX (h:Okt P S) (u:r<P.m) (M:e<P.n):dR [.h (st0.length+2),.d (.int (r)),.d (.int (e))] (stO st0 P S)=some (.d .non,stO st0 P (piv S r e)) :=by
 have hm:=h.m64;have hn:=h.n64;have Q:=h.good.pos
 -- turning,part
 generalize w:S.T=T at *;have fin:∀ (env:Ev) (s:Sto),jv [some _,some _,some _,none,none,none,none] _=some (.nx env s)->s.take (stO st0 P S).length=s->dR [.h (st0.length+2),.d (.int (r)),.d (.int (e))] _=some (.d .non,s):=λenv s Y h2=>by
  show (jv [some _,some _,some _,none,none,none,none] _).bind _=_;rw[Y];show some (W.d .non,s.take (stO st0 P S).length)=_;rw[h2]
 have l:∀ (a b c d g i:Option W) (s:Sto),iV 0 [some _,a,b,c,d,g,i] s=some (.h (st0.length+2),s):=λ_ _ _ _ _ _ _=>rfl;have s3:aA (.nm 3) (iOp dIx (aw ("lines") (iV 0)) (iV 1)) [some (.h (st0.length+2)),some (.d (.int (r))),some (.d (.int (e))),none,none,none,none] (stO st0 P S)=some (.nx [some (.h (st0.length+2)),some (.d (.int (r))),some (.d (.int (e))),some (.d (.lst (mpI (P.n+1) (T r)))),none,none,none] (stO st0 P S)):=by
  refine aj (ae (lT (l _ _ _ _ _ _ _) uG) U ?_);rw[w];exact uB _ u
 have sT:∀ i c,i<P.m->c<=P.n->Sm (T i c):=λi c hi q=>by rw[<-w];exact h.sT i c hi q
 have A:iLc 1 [3,2,4] (aC (aw ("lines" : Str) (iV 0))) (.nm 0) aM dq [some (.h (st0.length+2)),some (.d (.int (r:Int))),some (.d (.int (e:Int))),some (.d (.lst (mpI (P.n+1) (T r)))),some (.d (.int S.p)),none,none] (stO st0 P S)=some ((qai P.m).map λi=>D.lst (mpI (P.n+1) λc=>if c=e then - T i e else (T r e*T i c - T i e*T r c) / S.p),stO st0 P S):=by
  refine aR (aO (lT (f:=("lines" : Str)) (a:=iV 0) (st0:=st0) (fr:=mpI P.n (nI S.free)) (kp:=mpI P.m (nI S.kept)) (fs:=fsO P.n (aX P.m P.n S.T) (mpI (P.n+1) S.G) S.p st0.length) (l (some (.d (.int (r:Int)))) (some (.d (.int (e:Int)))) (some (.d (.lst (mpI (P.n+1) (T r))))) (some (.d (.int S.p))) none none _) uG)) (by rw[cn];lia) ?_
  show lcI (.nm 0) aM dq [none,some (.d (.lst (mpI (P.n+1) (T r)))),some (.d (.int (e:Int))),some (.d (.int S.p))] (aX P.m P.n S.T) (stO st0 P S)=_;rw[show aX P.m P.n S.T=(qai P.m).map (lnD P.n T) by rw[w];rfl];refine gA (g:=lnD P.n T) _ λi hi=>?_;exact ai (ws:=[.d (lnD P.n T i),.d (.lst (mpI (P.n+1) (T r))),.d (.int (e:Int)),.d (.int S.p)]) U (vg (f:=T i) (g:=T r) (by lia) Q h.sp (λc q=>sT i c (qaE.mp hi) q) (λc q=>sT r c u q) (by lia))
 have s5:i3 5 1 2 3 4 (iLc 1 [3,2,4] (aC (aw ("lines" : Str) (iV 0))) (.nm 0) aM dq) [some (.h (st0.length+2)),some (.d (.int (r:Int))),some (.d (.int (e:Int))),some (.d (.lst (mpI (P.n+1) (T r)))),some (.d (.int S.p)),none,none] (stO st0 P S)=some (.nx [some (.h (st0.length+2)),some (.d (.int (r:Int))),some (.d (.int (e:Int))),some (.d (.lst (mpI (P.n+1) (T r)))),some (.d (.int S.p)),some (.d (.lst (aX P.m P.n (piv S r e).T))),none] (stO st0 P S)):=by
  simp only[i3,A,qab,qbT,qbv];rw[qaf,qar,ef u,aD,ef (by lia:e<P.n+1),qab,qab,iFP ⟨by lia,by show 5<7;decide,uM _ _⟩,gq,yK];show some (Fl.nx [_,_,_,_,_,some (W.d (.lst (aX P.m P.n _))),none] _)=_
  have:(λi=>if i=r then (λj=>if j=e then S.p else T r j) else λc=>if c=e then - T i e else (T r e*T i c - T i e*T r c) / S.p)=(piv S r e).T:=by
   funext i c
   show _=if i=r then (if c=e then S.p else S.T r c) else _;rw[w];by_cases hi:i=r
   ·rw[iFP hi,iFP hi]
   ·rw[iFN hi,iFN hi]
  rw[this]
 have s6:=by
  have e0:=by
   funext c
   show _=if c=e then - S.G e else (S.T r e*S.G c - S.G e*S.T r c) / S.p;rw[w]
  have K:=vg (st:=stO st0 P S) (f:=S.G) (g:=T r) (n:=P.n) (e:=e) (by lia) Q h.sp (λc q=>h.sG c q) (λc q=>sT r c u q) (by lia);rw[e0]at K
  have:=sJ (f:=("goal" : Str)) (o:=iV 0) (v:=ax kL (aa (aw ("goal" : Str) (iV 0)) (aa (iV 3) (aa (iV 2) (aa (iV 4) ac))))) (st0:=st0) (fr:=mpI P.n (nI S.free)) (kp:=mpI P.m (nI S.kept)) (fs:=fsO P.n (aX P.m P.n S.T) (mpI (P.n+1) S.G) S.p st0.length) (ai (ab (lT (f:=("goal" : Str)) (a:=iV 0) (st0:=st0) (fr:=mpI P.n (nI S.free)) (kp:=mpI P.m (nI S.kept)) (fs:=fsO P.n (aX P.m P.n S.T) (mpI (P.n+1) S.G) S.p st0.length) (l (some (.d (.int (r:Int)))) (some (.d (.int (e:Int)))) (some (.d (.lst (mpI (P.n+1) (T r))))) (some (.d (.int S.p))) (some (.d (.lst (aX P.m P.n (piv S r e).T)))) none _) Ci) (ab U (ab U (ab U U)))) K) (l _ _ _ _ _ _ _) (by show 6<1000;decide) U
  rw[C0]at this;exact this
 have V:=by
  have:=sJ (f:=("lines" : Str)) (o:=iV 0) (v:=iV 5) (x:=.lst (aX P.m P.n (piv S r e).T)) (env:=[some (.h (st0.length+2)),some (.d (.int (r:Int))),some (.d (.int (e:Int))),some (.d (.lst (mpI (P.n+1) (T r)))),some (.d (.int S.p)),some (.d (.lst (aX P.m P.n (piv S r e).T))),none]) (st0:=st0) (fr:=mpI P.n (nI S.free)) (kp:=mpI P.m (nI S.kept)) (fs:=fsO P.n (aX P.m P.n S.T) (mpI (P.n+1) (piv S r e).G) S.p st0.length) U U (by show 6<1000;decide) U
  rw[AR]at this;exact this
 have L:l5 ("part" : Str) (iV 0) (iOp dIx (iV 3) (iV 2)) [some (.h (st0.length+2)),some (.d (.int (r:Int))),some (.d (.int (e:Int))),some (.d (.lst (mpI (P.n+1) (T r)))),some (.d (.int S.p)),some (.d (.lst (aX P.m P.n (piv S r e).T))),none] (stG st0 (mpI P.n (nI S.free)) (mpI P.m (nI S.kept)) (fsO P.n (aX P.m P.n (piv S r e).T) (mpI (P.n+1) (piv S r e).G) S.p st0.length))=some (.nx [some (.h (st0.length+2)),some (.d (.int (r:Int))),some (.d (.int (e:Int))),some (.d (.lst (mpI (P.n+1) (T r)))),some (.d (.int S.p)),some (.d (.lst (aX P.m P.n (piv S r e).T))),none] (stG st0 (mpI P.n (nI S.free)) (mpI P.m (nI S.kept)) (fsO P.n (aX P.m P.n (piv S r e).T) (mpI (P.n+1) (piv S r e).G) (piv S r e).p st0.length))):=by
  have X:(piv S r e).p=T r e:=by show S.T r e=_;rw[w]
  have:=sJ (f:=("part" : Str)) (o:=iV 0) (v:=iOp dIx (iV 3) (iV 2)) (x:=.int (T r e)) (env:=[some (.h (st0.length+2)),some (.d (.int (r:Int))),some (.d (.int (e:Int))),some (.d (.lst (mpI (P.n+1) (T r)))),some (.d (.int S.p)),some (.d (.lst (aX P.m P.n (piv S r e).T))),none]) (st0:=st0) (fr:=mpI P.n (nI S.free)) (kp:=mpI P.m (nI S.kept)) (fs:=fsO P.n (aX P.m P.n (piv S r e).T) (mpI (P.n+1) (piv S r e).G) S.p st0.length) (ae U U (dO _ (by lia))) U (by show 6<1000;decide) U
  rw[C1]at this;rw[X];exact this
 generalize t:fsO P.n (aX P.m P.n (piv S r e).T) (mpI (P.n+1) (piv S r e).G) (piv S r e).p st0.length=FS at L;generalize hLN:W.d (.lst (aX P.m P.n (piv S r e).T))=LN at *;generalize R:W.d (.lst (mpI (P.n+1) (T r)))=TR at *;have z:∀ {fr kp:List D}{k:Nat}{d:D},fr[k]?=some d->dIx (stG st0 fr kp FS) (.h st0.length) (.d (.int (k:Int)))=some d:=λ{fr kp k d} H=>by
  show (lg (stG st0 fr kp FS) st0.length).bind (λds=>atI ds (k:Int))=_;rw[sg0,qab,cT H]
 have y:∀ {fr kp:List D}{k:Nat}{d:D},kp[k]?=some d->dIx (stG st0 fr kp FS) (.h (st0.length+1)) (.d (.int (k:Int)))=some d:=λ{fr kp k d} H=>by
  show (lg (stG st0 fr kp FS) (st0.length+1)).bind (λds=>atI ds (k:Int))=_;rw[sg1,qab,cT H]
 have N:FS.lookup ("free" : Str)=some (.h st0.length):=by rw[<-t];rfl
 have O:FS.lookup ("kept" : Str)=some (.h (st0.length+1)):=by rw[<-t];rfl
 have C:bz (aw ("free" : Str) (iV 0)) (iV 2) (iOp dIx (aw ("kept" : Str) (iV 0)) (iV 1)) [some (.h (st0.length+2)),some (.d (.int (r:Int))),some (.d (.int (e:Int))),some TR,some (.d (.int S.p)),some LN,some (.d (.int (nI S.free e)))] (stG st0 (mpI P.n (nI S.free)) (mpI P.m (nI S.kept)) FS)=some (.nx [some (.h (st0.length+2)),some (.d (.int (r:Int))),some (.d (.int (e:Int))),some TR,some (.d (.int S.p)),some LN,some (.d (.int (nI S.free e)))] (stG st0 (mpI P.n (nI (piv S r e).free)) (mpI P.m (nI S.kept)) FS)):=by
  have I:iOp dIx (aw ("kept" : Str) (iV 0)) (iV 1) [some (.h (st0.length+2)),some (.d (.int (r:Int))),some (.d (.int (e:Int))),some TR,some (.d (.int S.p)),some LN,some (.d (.int (nI S.free e)))] (stG st0 (mpI P.n (nI S.free)) (mpI P.m (nI S.kept)) FS)=some (.d (.int (nI S.kept r)),stG st0 (mpI P.n (nI S.free)) (mpI P.m (nI S.kept)) FS):=ae (lT (l _ _ _ _ _ _ _) O) U (y (bi u))
  have B:=lT (f:=("free" : Str)) (a:=iV 0) (st0:=st0) (fr:=mpI P.n (nI S.free)) (kp:=mpI P.m (nI S.kept)) (fs:=FS) (l (some (.d (.int (r:Int)))) (some (.d (.int (e:Int)))) (some TR) (some (.d (.int S.p))) (some LN) (some (.d (.int (nI S.free e)))) _) N
  have F:iV 2 [some (.h (st0.length+2)),some (.d (.int (r:Int))),some (.d (.int (e:Int))),some TR,some (.d (.int S.p)),some LN,some (.d (.int (nI S.free e)))] (stG st0 (mpI P.n (nI S.free)) (mpI P.m (nI S.kept)) FS)=some (.d (.int (e:Int)),stG st0 (mpI P.n (nI S.free)) (mpI P.m (nI S.kept)) FS):=rfl;have E:gB (stG st0 (mpI P.n (nI S.free)) (mpI P.m (nI S.kept)) FS) (.h st0.length) (.d (.int (e:Int))) (.d (.int (nI S.kept r)))=some (stG st0 (mpI P.n (nI (piv S r e).free)) (mpI P.m (nI S.kept)) FS):=by
   simp only[gB,sg0,qab,aD,ef M,qap,ss0,gq]
   congr 3
   funext j
   show _=(((if j=e then S.kept r else S.free j:Nat)):Int);by_cases m:j=e
   ·rw[iFP m,iFP m];rfl
   ·rw[iFN m,iFN m];rfl
  simp only[bz,I,B,F,qab,E,qap]
 have J:bz (aw ("kept" : Str) (iV 0)) (iV 1) (iV 6) [some (.h (st0.length+2)),some (.d (.int (r:Int))),some (.d (.int (e:Int))),some TR,some (.d (.int S.p)),some LN,some (.d (.int (nI S.free e)))] (stG st0 (mpI P.n (nI (piv S r e).free)) (mpI P.m (nI S.kept)) FS)=some (.nx [some (.h (st0.length+2)),some (.d (.int (r:Int))),some (.d (.int (e:Int))),some TR,some (.d (.int S.p)),some LN,some (.d (.int (nI S.free e)))] (stG st0 (mpI P.n (nI (piv S r e).free)) (mpI P.m (nI (piv S r e).kept)) FS)):=by
  have I:iV 6 [some (.h (st0.length+2)),some (.d (.int (r:Int))),some (.d (.int (e:Int))),some TR,some (.d (.int S.p)),some LN,some (.d (.int (nI S.free e)))] (stG st0 (mpI P.n (nI (piv S r e).free)) (mpI P.m (nI S.kept)) FS)=some (.d (.int (nI S.free e)),stG st0 (mpI P.n (nI (piv S r e).free)) (mpI P.m (nI S.kept)) FS):=rfl;have B:=lT (f:=("kept" : Str)) (a:=iV 0) (st0:=st0) (fr:=mpI P.n (nI (piv S r e).free)) (kp:=mpI P.m (nI S.kept)) (fs:=FS) (l (some (.d (.int (r:Int)))) (some (.d (.int (e:Int)))) (some TR) (some (.d (.int S.p))) (some LN) (some (.d (.int (nI S.free e)))) _) O
  have F:iV 1 [some (.h (st0.length+2)),some (.d (.int (r:Int))),some (.d (.int (e:Int))),some TR,some (.d (.int S.p)),some LN,some (.d (.int (nI S.free e)))] (stG st0 (mpI P.n (nI (piv S r e).free)) (mpI P.m (nI S.kept)) FS)=some (.d (.int (r:Int)),stG st0 (mpI P.n (nI (piv S r e).free)) (mpI P.m (nI S.kept)) FS):=rfl;have E:gB (stG st0 (mpI P.n (nI (piv S r e).free)) (mpI P.m (nI S.kept)) FS) (.h (st0.length+1)) (.d (.int (r:Int))) (.d (.int (nI S.free e)))=some (stG st0 (mpI P.n (nI (piv S r e).free)) (mpI P.m (nI (piv S r e).kept)) FS):=by
   simp only[gB,sg1,qab,aD,ef u,qap,ss1,gq]
   congr 3
   congr 1
   funext j
   show _=(((if j=r then S.free e else S.kept j:Nat)):Int);by_cases m:j=r
   ·rw[iFP m,iFP m];rfl
   ·rw[iFN m,iFN m];rfl
  simp only[bz,I,B,F,qab,E,qap]
 have:=fin _ _ (ah s3 (ah (aj (lT (l _ _ _ _ _ _ _) Cj)) (ah s5 (ah s6 (ah V (ah L (ah (aj (ae (lT (l _ _ _ _ _ _ _) N) U (z (bi M)))) (ah C J)))))))) ?_
 ·rw[this,<-t];rfl
 ·refine qcH ?_
  unfold stO stG;rw[qau,qau];exact qan _
end Own
namespace Sx
theorem sumN_abs (h:∀ k,k<n->(f k).natAbs<=B):(sumN n f).natAbs<=n*B :=by
 induction n with
 |zero=>rw[sumN];omega
 |succ n u=>
  rw[sumN,qjS];have o:=u λk e=>h k (by omega);have q:=h n (by omega);omega
theorem sg_abs (k):(sg k).natAbs=1 :=by unfold sg;split<;>rfl
theorem det_le :∀ (m) {C},m*B<=X->(∀ k t,k<m->t<m->(C k t).natAbs<=B)->(det m C).natAbs<=X^m
 |0,C,_,_=>by exact qan _
 |m+1,C,p,h=>by
  have:=sumN_abs (f:=λk=>sg k*C k 0*det m _) λk e=>by
   rw[qc2,qc2,sg_abs,qjR];exact qc0 (h k 0 e (by omega)) (det_le m (C:=λj t=>C (skip k j) (t+1)) (qaD (qcx B (by omega)) p) λj t D d=>h _ _ (by unfold skip;split<;>omega) (by omega))
  refine qaD this ?_;rw[<-Nat.mul_assoc,Nat.pow_succ,qgW (X^m)];exact qcx _ p
structure Bd (P:Pb):Prop where
 m64:P.m<=32
 n64:P.n<=100
 A:∀ k,k<P.n+P.m->∀ t,t<P.m->(P.A k t).natAbs<=2^50
 b:∀ t,t<P.m->(P.b t).natAbs<=2^50
 g:∀ k,k<P.n+P.m->(P.g k).natAbs<=2^50
variable {P:Pb}
theorem Bd.det (h:Bd P) (w:∀ k t,k<P.m->t<P.m->(C k t).natAbs<=2^50):(det P.m C).natAbs<=2^1760 :=by
 have hm:=h.m64
 have o:=det_le (B:=2 ^ 50) (X:=2 ^ 55) P.m (C:=C) (by
  have:P.m*2^50<=32*2^50:=qcx _ hm
  exact qaD this (by decide)) w
 refine qaD o ?_;rw[<-qjQ];exact qba (by decide) (by omega)
theorem unit_le (r t):(unit r t).natAbs<=2^50 :=by unfold unit;split<;>decide
theorem Bd.basis (h:Bd P) (hn:Named P S) (x:∀ t,t<P.m->(v t).natAbs<=2^50) (i k t) (e:k<P.m) (d:t<P.m):(upd (basis P S) i v k t).natAbs<=2^50 :=by
 unfold upd;split
 ·exact x t d
 ·exact h.A _ (hn.bound.2 k e) t d
theorem Bd.T (h:Bd P) (hg:Good P S) (hn:Named P S) (hi:i<P.m) (l:c<=P.n):(S.T i c).natAbs<=2^1760 :=by
 rw[hg.entry l hi];refine h.det λk t e d=>h.basis hn (λt d=>?_) i k t e d;unfold colV;by_cases a:c<P.n
 ·rw[iFP a];exact h.A _ (hn.bound.1 c a) t d
 ·rw[iFN a];exact h.b t d
theorem Bd.L (h:Bd P) (hn:Named P S) (i s):(LV P S i s).natAbs<=2^1760 :=by
 refine h.det λk t e d=>h.basis hn (λt d=>?_) i k t e d;unfold XV;split
 ·exact h.b t d
 ·exact unit_le _ _
theorem Bd.p (h:Bd P) (hg:Good P S) (hn:Named P S):S.p.natAbs<=2^1760 :=by
 rw[hg.dt];exact h.det λk t e d=>h.A _ (hn.bound.2 k e) t d
theorem Bd.G (h:Bd P) (hg:Good P S) (hn:Named P S) (l:c<=P.n):(S.G c).natAbs<=65*(2^50*2^1760) :=by
 rw[hg.goal c l];have o:=sumN_abs (n:=P.m) (f:=λi=>P.g (S.kept i)*S.T i c) (B:=2^50*2^1760) λi hi=>by
  rw[qc2];exact qc0 (h.g _ (hn.bound.2 i hi)) (h.T hg hn hi l)
 have q:(S.p*gainC P S c).natAbs<=2^50*2^1760:=by
  rw[qc2,qgW];refine qc0 ?_ (h.p hg hn);unfold gainC;by_cases a:c<P.n
  ·rw[iFP a];exact h.g _ (hn.bound.1 c a)
  ·rw[iFN a];decide
 have y:=Int.natAbs_sub_le (sumN P.m λi=>P.g (S.kept i)*S.T i c) (S.p*gainC P S c);have z:P.m*(2^50*2^1760)<=32*(2^50*2^1760):=qcx _ h.m64;generalize 2^50*2^1760=Zq at *;omega
end Sx
set_option maxHeartbeats 1000000
namespace Own
open PySem L2
open Sx (Pb Tb Good Named Fe LV ZV piv lexP leastR leaveL sumN unit colV basis)
theorem xL (h:a<b):2^a<2^b :=qg6 (by decide) h
theorem Ba (h:z.natAbs<=2^1760):Sm z :=qbD h (xL (by decide))
theorem FB (h:z.natAbs<=65*(2^50*2^1760)):Sm z :=by
 refine qbD h ?_;refine qbD (qcx (2^50*2^1760) (by decide:65<=2^7)) ?_;rw[<-qhp,<-qhp];exact xL (by decide)
theorem EV (b:Sx.Bd P) (g:Good P S) (n:Named P S):Okt P S :=by
 have d:=b.m64;exact⟨g,n,by lia,b.n64,λi c hi a=>Ba (b.T g n hi a),λi s _ _=>Ba (b.L n i s),λc a=>FB (b.G g n a),Ba (b.p g n)⟩
theorem DO (h:c env st=some (false,s)):bq c b (m+1) env st=some (.nx env s) :=by
 rw[bq,h];rfl
theorem AS (h:c env st=some (true,s)) (hb:b env s=some (.nx e a)) (d:bq c b m e a=r):bq c b (m+1) env st=r :=by
 rw[bq,h];show ((b env s).bind _)=_;rw[hb];exact d
theorem G4 (h:c env st=some (true,s)) (hb:b env s=some (.rt w a)):bq c b (m+1) env st=some (.rt w a) :=by
 rw[bq,h];show ((b env s).bind _)=_;rw[hb];rfl
theorem lZ :∀ (n a b:Nat) (o),b<n->∃ c,bq dX eO n [a0,Z (.int (a)),a2,Z (.int (b)),o] st=some (.nx [a0,Z (.int ((qf6 a b))),a2,Z (.int 0),c] st)
 |0,a,b,o,h=>by lia
 |n+1,a,b,o,h=>by
  by_cases hb:b=0
  ·subst hb
   refine⟨o,?_⟩;rw[Nat.gcd_zero_right];exact DO U
  ·have i:(!((b)==(0:Int)))=true:=by lia
   obtain⟨c,g⟩:=lZ n b (a%b) _ (by have:=Nat.mod_lt a (Nat.pos_of_ne_zero hb);lia);refine⟨c,?_⟩;have e:qf6 a b=qf6 b (a%b):=by rw[qjz a b,Nat.gcd_rec b a,qjz]
   have f:(0)<(b:Int):=by lia
   have em:f7 st (.d (.int (a))) (.d (.int (b)))=some (.int ((a%b:Nat))):=by
    simp only[f7,f,if_true];rfl
   rw[e,<-g];exact AS (ak U U ((DE st _).trans (by rw[i]))) (ah (aj (ae U U em)) U) U
theorem xi (f:∀ (l:Ev) (s),aC (iV 0) (Z d0::l) s=some (ns.map D.int,s)) (hn:∀ n∈ns,Sm n):bo [.d d0] st=some (.d (.int ((c8 0 ns))),st) :=by
 obtain⟨k,t,j,⟨c,b,a,rfl⟩,rfl⟩:=bO (g:=.nm 2) (body:=eB) (λi env s=>(∃ c b a,env=[Z d0,Z (.int ((c8 0 (ns.take i)))),c,b,a])/\s=st)
  ⟨⟨_,_,_,U⟩,U⟩ (λi d env s hd ⟨⟨c,b,a,e⟩,es⟩=>by
   subst e es;rw[qaz,qad]at hd;obtain⟨n,m,rfl⟩:=hd;obtain⟨hi,h⟩:=qas.mp m;have r:ym s [.d (.int n)]=some (.int ((n.natAbs))):=by
    show some _=_;rw[show (if n<0 then -n else n)=((n.natAbs)) by split<;>lia]
   have o:c8 0 (ns.take (i+1))=qf6 (c8 0 (ns.take i)) n.natAbs:=by
    rw[List.take_succ_eq_append_getElem hi,h,ub]
   obtain⟨p,q⟩:=lZ (st:=s) (a0:=some (.d d0)) (a2:=some (.d (.int n))) (2^8000) (c8 0 (ns.take i)) n.natAbs a (qd5 (hn n (qbK m)) (xL (by decide)));refine⟨_,[some _,some _,Z (.int n),Z (.int 0),p],s,U,.inl ?_,⟨_,_,_,U⟩,U⟩;rw[o]
   exact ah (aj (ar (ab U U) r)) q)
 rw[qaf,qdA]at j;exact az U (ah U (ah (a6 (f _ _) j) U))
theorem nM (hn:∀ n∈ns,Sm n):bo [.d (.lst (ns.map D.int))] st=some (.d (.int ((c8 0 ns))),st) :=xi (λ_ _=>aO U) hn
theorem rG {ns:List Int}(b:0<g) (hg:Sm g) (a:te=iOp rq (iV 0) (iV 1)):lcI (.nm 0) aM te [none,Z (.int g)] (ns.map D.int) st=some ((ns.map λx=>x / g).map D.int,st) :=by
 subst a
 rw [(sh (λd=>match d with | .int x=>.int (x / g) | d=>d) λd hd=>by
  obtain⟨y,c,rfl⟩:=qaI.mp hd
  exact⟨_,U,ae U U (rE st b hg)⟩),qaQ,qaQ];rfl
theorem lw (hx:x∈ns) (b:x≠0) (a:Sm x):0<((c8 0 ns):Int)/\Sm ((c8 0 ns)) :=by
 obtain⟨d,c⟩:=zJ hx b;refine⟨by lia,?_⟩;exact qbD c a
theorem wd {ns:List Int} (hb:∀ x∈ns,Sm x) (e:∃ x∈ns,x≠0) (i:ns.length<=1000):cQ [.d (.lst (ns.map D.int))] st=some (.d (.tup ((ns.map λx=>x / ((c8 0 ns):Int)).map D.int)),st) :=by
 obtain⟨x,hx,c⟩:=e;have a:=nM (st:=st) hb;obtain⟨b,h⟩:=lw hx c (hb x hx);generalize ((c8 0 ns):Int)=g at *;have f:(g==(0))=false:=by lia
 have hz:(ns.map D.int).length<=1000000:=by rw[qaf];lia
 exact az U (ah (aj (ai U a)) (ah (bE (ak U U (by rw[cc,f])) U) (aH (ar (ab (av (aR (aO U) hz (rG b h U))) U) U))))
def acc (e:Nat->Nat) (y:Nat->Int) (i k:Nat):Int:=sumN i λj=>if e j=k then y j else 0
theorem tm (e) (y) (i k):acc e y (i+1) k=acc e y i k+if e i=k then y i else 0 :=rfl
theorem mX (h:∀ j,j<i->e j≠k):acc e y i k=0 :=by
 unfold acc;rw[Sx.sumN_congr λj a=>iFN (h j a),Sx.sumN_zero]
theorem qT (hd:d<=e i) (b:∀ j,j<i->e j≠e i):(mpI N λr=>acc e y i (d+r)).set (e i - d) (.int (y i))=mpI N λr=>acc e y (i+1) (d+r) :=by
 rw[gq];refine bB λr _=>?_;rw[tm];by_cases c:r=e i - d
 ·rw[mX λj a=>by have:=b j a;lia];lia
 ·lia
theorem tj (h:∀ r,r<N->e i≠d+r):(mpI N λr=>acc e y i (d+r))=mpI N λr=>acc e y (i+1) (d+r) :=by
 refine bB λr a=>?_;rw[tm,iFN (h r a)];lia
theorem BA (n) (e) (y) (d):(qaJ n [D.int 0]).flatten=mpI n λr=>acc e y 0 (d+r) :=by
 show _=(qai n).map λ_=>D.int 0
 induction n with
 |zero=>rfl
 |succ n a=>rw[qgX,qg8,a,qdN,qbI];rfl
theorem i6 {n:Nat} (b:f env st=some (.d (.int (n)),st)) (hn:n<=900) (e) (y) (d):bM (ug oz (aq (bf (aa (iC (.int 0)) ac))) f) env st=some (.h st.length,st++[.l (mpI n λr=>acc e y 0 (d+r))]) :=by
 have a:ug oz (aq (bf (aa (iC (.int 0)) ac))) f env st=some (mpI n λr=>acc e y 0 (d+r),st):=by
  show ((f env st).bind λq=>(oz q.2 (.d (.lst [.int 0])) q.1).map λl=>(l,q.2))=_;rw[b];show (oz st _ _).map _=_;unfold oz;dsimp only;rw[iFP ⟨by decide,by lia,by lia⟩,qbf,BA n e y d];rfl
 simp only[bM,a,qap]
end Own
set_option maxHeartbeats 1000000
namespace Own
open PySem L2
open Sx (Pb Tb Good Named Fe LV ZV piv lexP leastR leaveL sumN unit colV basis)
theorem sIx {st:Sto}{k:Nat}(c:v env (st++[.l xs])=some (.d d,st++[.l xs])) (e:o env (st++[.l xs])=some (.h st.length,st++[.l xs])) (hi:i env (st++[.l xs])=some (.d (.int (k)),st++[.l xs])) (b:k<xs.length):bz o i v env (st++[.l xs])=some (.nx env (st++[.l (xs.set k d)])) :=by
 have a:gB (st++[.l xs]) (.h st.length) (.d (.int (k))) (.d d)=some (st++[.l (xs.set k d)]):=by
  simp only[gB,cm,qab,ef b,qap,iL]
 simp only[bz,c,e,hi,qab,a,qap]
theorem rM (h:a env st=some (.d (.lst (mpI m (nI f))),st)):bL (aa a ac) env st=some ((qai m).map λi=>D.tup [.int ((i:Nat)),.int (nI f i)],st) :=by
 have:=ab (b:=ac) h U
 rw[<-xb];simp only[bL,this,qab]
theorem jN {d:D} (h:((qai m).map g)[i]?=some d):i<m/\d=g i :=by
 rw[qaz,qad]at h;obtain⟨k,b,rfl⟩:=h;obtain⟨hi,a⟩:=qas.mp b;rw[qfc]at a;rw[qar]at hi;exact⟨hi,by rw[a]⟩
theorem i7:∀ ns:List Int,wk (ns.map D.int)=true
 |[]=>rfl
 |n::ns=>i7 ns
theorem Ak (n) (f):okT (.tup (mpI n f))=true :=by
 rw[bP];exact i7 _
section
variable {P:Pb}{S:Tb}{st:Sto}
theorem F2 (h:Okt P S):gk [.d (obD P S)] st=some (.d (.lst (mpI P.n λk=>acc S.kept (λi=>S.T i P.n) P.m k)),st):=by
 have hn:=h.n64;generalize O:(λi=>S.T i P.n)=y;have q:∀ (a b c:Option W) (s:Sto),iV 0 [some _,a,b,c] s=some (.d (obD P S),s):=λ_ _ _ _=>rfl;obtain⟨A,s2,w,⟨p,m,rfl⟩,rfl⟩:=bO (g:=.tp [2,3]) (body:=ir) (ds:=(qai P.m).map λi=>D.tup [.int _,.int (nI S.kept i)])
  (λi env s=>(∃ p m,env=[Z (obD P S),some (.h st.length),p,m])/\s=st++[.l (mpI P.n λr=>acc S.kept y i (0+r))])
  ⟨⟨_,_,U⟩,U⟩ (λi d env s hd ⟨⟨p,m,e⟩,es⟩=>by
   subst e es;obtain⟨hi,rfl⟩:=jN hd;refine⟨_,_,_,U,.inl ?_,⟨some (.d (.int ((i:Nat):Int))),Z (.int (nI S.kept i)),U⟩,U⟩;generalize u:(mpI P.n λr=>acc S.kept y i (0+r))=xs;have tl:aF dLt (iV 3) _ [Z (obD P S),some (.h st.length),Z (.int ((i:Nat):Int)),Z (.int (nI S.kept i))] (st++[.l xs])=some (decide _,st++[.l xs]):=ak U (bS (q _ _ _ _)) (Aa _ _ _);by_cases t:S.kept i<P.n
   ·rw[decide_eq_true (by show ((S.kept i:Nat):Int)<_;lia)]at tl
    have J:iOp dIx (iOp dIx (aw ("lines" : Str) (iV 0)) (iV 2)) (iUn gT (iC (.int 1))) [Z (obD P S),some (.h st.length),Z (.int ((i:Nat):Int)),Z (.int (nI S.kept i))] (st++[.l xs])=some (.d (.int (y i)),st++[.l xs]):=by
     rw[<-O];exact ae (ae (cq (q _ _ _ _)) U (uB _ hi)) U (xo _)
    have:=sIx (k:=S.kept i) J (o:=iV 1) (i:=iV 3) U U (by rw[<-u,aD];exact t)
    rw[<-u]at this ⊢ tl;rw[<-qT (d:=0) (N:=P.n) (e:=S.kept) (y:=y) (i:=i) (by lia) λj F e=>by have:=iq h.good (by lia) hi e;lia];exact de tl this
   ·rw[decide_eq_false (by show ¬ ((S.kept i:Nat):Int)<_;lia)]at tl
    rw[<-tj (d:=0) (N:=P.n) (e:=S.kept) (y:=y) (i:=i) λr G=>by lia,u]
    exact bE tl U)
 rw[qaf,qar]at w
 have:=i8 (n:=4) (k:=1) (b:=jW) (ws:=[.d (obD P S)]) (st:=st) (h:=st.length) U (ah (aj (i6 (st:=st) (bS (q none none none st)) (by lia) S.kept y 0)) (ah (a6 (rM (qW (q _ _ _ _))) w) U)) (qan _) (cm _ _)
 rw[qch]at this;simp only[qbg]at this;exact this
def pr (P:Pb) (S:Tb) (i r:Nat):Int:=if ∃ c,c<i/\S.free c=P.n+r then ZV P S (r+1) else 0
theorem GW (h:Okt P S) (hg:∀ r,r<P.m->P.g (P.n+r)=0):iB [.d (obD P S)] st=some (.d (.lst (mpI P.m λr=>ZV P S (r+1))),st):=by
 have hm:=h.m64;have hn:=h.n64;have q:∀ (a b c:Option W) (s:Sto),iV 0 [Z (obD P S),a,b,c] s=some (.d (obD P S),s):=λ_ _ _ _=>rfl;have hz:(mpI P.m λr=>acc S.free S.G 0 (0+r))=mpI P.m λr=>pr P S 0 r:=bB λr _=>by
  unfold pr;rw[iFN λ⟨c,Q,_⟩=>by lia];rfl
 have I:=by
  have:=ar (g:=aS) (ab (b:=ac) (cq (q none none none st)) U) (jZ _ _)
  rw[cn]at this;exact this
 have s1:=i6 (st:=st) I (by lia) S.free S.G 0;rw[hz]at s1;obtain⟨A,s2,w,⟨p,m,rfl⟩,rfl⟩:=bO (g:=.tp [2,3]) (body:=jq) (ds:=(qai P.n).map λi=>D.tup [.int ((i:Nat):Int),.int (nI S.free i)])
  (λi env s=>(∃ p m,env=[Z (obD P S),some (.h st.length),p,m])/\s=st++[.l (mpI P.m λr=>pr P S i r)])
  ⟨⟨_,_,U⟩,U⟩ (λi d env s hd ⟨⟨p,m,e⟩,es⟩=>by
   subst e es;obtain⟨hi,rfl⟩:=jN hd;refine⟨_,_,_,U,.inl ?_,⟨some (.d (.int ((i:Nat):Int))),Z (.int (nI S.free i)),U⟩,U⟩;have hb:=h.named.bound.1 i hi;generalize u:(mpI P.m λr=>pr P S i r)=xs;have tl:aF dGe (iV 3) (aw ("amounts" : Str) (iV 0)) [Z (obD P S),some (.h st.length),Z (.int ((i:Nat):Int)),Z (.int (nI S.free i))] (st++[.l xs])=some (decide (nI S.free i>=(P.n:Int)),st++[.l xs]):=ak U (bS (q _ _ _ _)) (Gk _ _ _)
   by_cases t:P.n<=S.free i
   ·rw[decide_eq_true (by show ((S.free i:Nat):Int)>=_;lia)]at tl
    have ho:iOp eW (iV 3) (aw ("amounts" : Str) (iV 0)) [Z (obD P S),some (.h st.length),Z (.int ((i:Nat):Int)),Z (.int (nI S.free i))] (st++[.l xs])=some (.d (.int ((S.free i - P.n:Nat):Int)),st++[.l xs]):=by
     rw[show ((S.free i - P.n:Nat):Int)=nI S.free i - (P.n:Int) by show _=((S.free i:Nat):Int) - _;lia];exact ae U (bS (q _ _ _ _)) U
    have J:iOp dIx (aw ("goal" : Str) (iV 0)) (iV 2) [Z (obD P S),some (.h st.length),Z (.int ((i:Nat):Int)),Z (.int (nI S.free i))] (st++[.l xs])=some (.d (.int (S.G i)),st++[.l xs]):=ae (mI (q _ _ _ _)) U (dO _ (by lia))
    have:=sIx (k:=S.free i - P.n) J (o:=iV 1) U ho (by rw[<-u,aD];lia)
    have E:xs.set (S.free i - P.n) (.int (S.G i))=mpI P.m λr=>pr P S (i+1) r:=by
     rw[<-u,gq];refine bB λr G=>?_;by_cases Y:r=S.free i - P.n
     ·rw[iFP Y]
      unfold pr;rw[iFP ⟨i,by lia,by lia⟩];exact (Sx.price_free h.good h.named hg G hi (by lia)).symm
     ·rw[iFN Y]
      unfold pr;by_cases ex:∃ c,c<i/\S.free c=P.n+r
      ·rw[iFP ex];obtain⟨c,M,v⟩:=ex;rw[iFP ⟨c,by lia,v⟩]
      ·rw[iFN ex,iFN λ⟨c,M,v⟩=>ex ⟨c,by
        by_cases z:c=i
        ·subst z;lia
        ·lia,v⟩]
    rw[<-E];exact de tl this
   ·rw[decide_eq_false (by show ¬ ((S.free i:Nat):Int)>=_;lia)]at tl
    have E:xs=mpI P.m λr=>pr P S (i+1) r:=by
     rw[<-u];refine bB λr G=>?_;unfold pr;by_cases ex:∃ c,c<i/\S.free c=P.n+r
     ·rw[iFP ex];obtain⟨c,M,v⟩:=ex;rw[iFP ⟨c,by lia,v⟩]
     ·rw[iFN ex,iFN λ⟨c,M,v⟩=>ex ⟨c,by
        by_cases z:c=i
        ·subst z;lia
        ·lia,v⟩]
    rw[<-E]
    exact bE tl U)
 rw[qaf,qar]at w
 have:=i8 (n:=4) (k:=1) (b:=lU) (ws:=[.d (obD P S)]) (st:=st) (h:=st.length) U (ah (aj s1) (ah (a6 (rM (mH (q _ _ _ _))) w) U)) (qan _) (cm _ _)
 rw[qch]at this
 rw[bB (f:=λr=>pr P S P.n r) (g:=λr=>ZV P S (r+1)) λr G=>by
  unfold pr;by_cases ex:∃ c,c<P.n/\S.free c=P.n+r
  ·rw[iFP ex]
  ·rw[iFN ex]
   rcases h.named.all (P.n+r) (by lia) with Q|⟨j,F,e⟩
   ·exact absurd Q ex
   ·exact (Sx.price_kept h.good h.named hg G F e).symm]at this
 exact this
theorem HB (h:Okt P S) (he:e<P.n) (ht:∀ i,i<P.m->S.T i e<=0) (hp:∃ k,k<P.n/\Sx.wayN P S e k≠0):∃ g,0<g/\(∀ k,k<P.n->g∣Sx.wayN P S e k)/\kM [.d (obD P S),.d (.int (e))] []=some (.d (.tup (mpI P.n λk=>Sx.wayN P S e k / g)),[]) :=by
 have hm:=h.m64;have hn:=h.n64;have q:∀ (a b c d:Option W) (s:Sto),iV 0 [Z (obD P S),a,b,c,d] s=some (.d (obD P S),s):=λ_ _ _ _ _=>rfl;have X:∀ i,i<P.m->S.kept i≠S.free e:=λi hi e1=>by
  have M:=h.good.entry (c:=e) (by lia) hi;have v:colV P S e=basis P S i:=by unfold colV basis;rw[iFP he,e1]
  rw[v,Sx.upd_self,<-h.good.dt]at M
  have:=ht i hi
  have:=h.good.pos
  lia
 generalize O:(λi=>- S.T i e)=y;have hw:∀ k,Sx.wayN P S e k=if k=S.free e then S.p else acc S.kept y P.m k:=λk=>by
  show Sx.byName P S (λi=>- S.T i e) k+_=_;rw[O];by_cases t:k=S.free e
  ·rw[iFP t,iFP t.symm,Sx.byName_not λi hi=>by rw[t];exact X i hi];lia
  ·rw[iFN t,iFN (qbF t)]
   show acc S.kept y P.m k+0=_;lia
 obtain⟨A,s2,w,⟨p,m,rfl⟩,rfl⟩:=bO (g:=.tp [3,4]) (body:=oA) (ds:=(qai P.m).map λi=>D.tup [.int ((i:Nat):Int),.int (nI S.kept i)])
  (λi env s=>(∃ p m,env=[Z (obD P S),Z (.int (e:Int)),some (.h 0),p,m])/\s=[]++[.l (mpI P.n λr=>acc S.kept y i (0+r))])
  (env:=[Z (obD P S),Z (.int (e:Int)),some (.h 0),none,none]) (st:=[]++[.l (mpI P.n λr=>acc S.kept y 0 (0+r))]) ⟨⟨_,_,U⟩,U⟩ (λi d env s hd ⟨⟨p,m,e0⟩,es⟩=>by
   subst e0 es;obtain⟨hi,rfl⟩:=jN hd;refine⟨_,_,_,U,.inl ?_,⟨some (.d (.int ((i:Nat):Int))),Z (.int (nI S.kept i)),U⟩,U⟩;generalize u:(mpI P.n λr=>acc S.kept y i (0+r))=xs;have tl:aF dLt (iV 4) (aw ("amounts" : Str) (iV 0)) [Z (obD P S),Z (.int (e:Int)),some (.h 0),Z (.int ((i:Nat):Int)),Z (.int (nI S.kept i))] ([]++[.l xs])=some (decide (nI S.kept i<(P.n:Int)),[]++[.l xs]):=ak U (bS (q _ _ _ _ _)) (Aa _ _ _)
   by_cases t:S.kept i<P.n
   ·rw[decide_eq_true (by show ((S.kept i:Nat):Int)<_;lia)]at tl
    have J:iUn gT (iOp dIx (iOp dIx (aw ("lines" : Str) (iV 0)) (iV 3)) (iV 1)) [Z (obD P S),Z (.int (e:Int)),some (.h 0),Z (.int ((i:Nat):Int)),Z (.int (nI S.kept i))] ([]++[.l xs])=some (.d (.int (y i)),[]++[.l xs]):=by
     rw[<-O]
     have:=ae (g:=dIx) (ae (g:=dIx) (cq (q (Z (.int (e:Int))) (some (.h 0)) (Z (.int ((i:Nat):Int))) (Z (.int (nI S.kept i))) ([]++[C.l xs]))) (b:=iV 3) U (uB _ hi)) (b:=iV 1) U (uA (c:=e) _ (by lia))
     simp only[iUn,this,qab];rfl
    have:=sIx (st:=[]) (k:=S.kept i) J (o:=iV 2) (i:=iV 4) U U (by rw[<-u,aD];exact t)
    rw[<-u]at this ⊢ tl;rw[<-qT (d:=0) (N:=P.n) (e:=S.kept) (y:=y) (i:=i) (by lia) λj F e=>by have:=iq h.good (by lia) hi e;lia];exact de tl this
   ·rw[decide_eq_false (by show ¬ ((S.kept i:Nat):Int)<_;lia)]at tl
    rw[<-tj (d:=0) (N:=P.n) (e:=S.kept) (y:=y) (i:=i) λr G=>by lia,u]
    exact bE tl U)
 rw[qaf,qar]at w;have s3:be (aF dLt (iOp dIx (aw ("free" : Str) (iV 0)) (iV 1)) (aw ("amounts" : Str) (iV 0))) (bz (iV 2) (iOp dIx (aw ("free" : Str) (iV 0)) (iV 1)) (aw ("part" : Str) (iV 0))) aU [Z (obD P S),Z (.int (e:Int)),some (.h 0),p,m] ([]++[.l (mpI P.n λr=>acc S.kept y P.m (0+r))])=some (.nx [Z (obD P S),Z (.int (e:Int)),some (.h 0),p,m] ([]++[.l (mpI P.n λk=>Sx.wayN P S e k)])):=by
  have qf:∀ s,iOp dIx (aw ("free" : Str) (iV 0)) (iV 1) [Z (obD P S),Z (.int (e:Int)),some (.h 0),p,m] s=some (.d (.int (nI S.free e)),s):=λs=>ae (mH (q _ _ _ _ _)) U (dO _ he)
  generalize u:(mpI P.n λr=>acc S.kept y P.m (0+r))=xs;have tl:aF dLt (iOp dIx (aw ("free" : Str) (iV 0)) (iV 1)) (aw ("amounts" : Str) (iV 0)) [Z (obD P S),Z (.int (e:Int)),some (.h 0),p,m] ([]++[.l xs])=some (decide (nI S.free e<(P.n:Int)),[]++[.l xs]):=ak (qf _) (bS (q _ _ _ _ _)) (Aa _ _ _)
  by_cases t:S.free e<P.n
  ·rw[decide_eq_true (by show ((S.free e:Nat):Int)<_;lia)]at tl
   have:=sIx (st:=[]) (k:=S.free e) (mJ (q (Z (.int (e:Int))) (some (.h 0)) p m ([]++[C.l xs]))) (o:=iV 2) (i:=iOp dIx (aw ("free" : Str) (iV 0)) (iV 1)) U (qf _) (by rw[<-u,aD];exact t)
   have E:xs.set (S.free e) (.int S.p)=mpI P.n λk=>Sx.wayN P S e k:=by
    rw[<-u,gq];refine bB λk _=>?_;rw[hw k,qbg]
   rw[E]at this;exact de tl this
  ·rw[decide_eq_false (by show ¬ ((S.free e:Nat):Int)<_;lia)]at tl
   have E:xs=mpI P.n λk=>Sx.wayN P S e k:=by
    rw[<-u];refine bB λk hk'=>?_;rw[hw k,qbg,iFN (by lia)]
   rw[<-E];exact bE tl U
 obtain⟨R,B,K⟩:=hp;have H:∀ x∈(qai P.n).map (Sx.wayN P S e),Sm x:=λx hx=>by
  obtain⟨k,t,rfl⟩:=qaI.mp hx;rw[hw k];by_cases z:k=S.free e
  ·rw[iFP z];exact h.sp
  ·rw[iFN z]
   by_cases ex:∃ i,i<P.m/\S.kept i=k
   ·obtain⟨i,hi,rfl⟩:=ex
    have:acc S.kept y P.m (S.kept i)=y i:=Sx.byName_at (λi j hi F=>iq h.good hi F) hi
    rw[this,<-O];show (- S.T i e).natAbs<_;rw[qil];exact h.sT i e hi (by lia)
   ·rw[mX λj F e=>ex ⟨j,F,e⟩]
    exact qf4 (by decide)
 have L:=wd (st:=[]) H ⟨_,qaI.mpr ⟨R,qaE.mpr B,U⟩,K⟩ (by rw[qaf,qar];lia);obtain⟨g0,g1⟩:=lw (ns:=(qai P.n).map (Sx.wayN P S e)) (qaI.mpr ⟨R,qaE.mpr B,U⟩) K (H _ (qaI.mpr ⟨R,qaE.mpr B,U⟩));have gd:∀ k,k<P.n->((c8 0 ((qai P.n).map (Sx.wayN P S e)):Nat):Int)∣Sx.wayN P S e k:=λk t=>qcL.mpr ((c9 0 _).2 _ (qaI.mpr ⟨k,qaE.mpr t,U⟩));generalize hG:((c8 0 ((qai P.n).map (Sx.wayN P S e)):Nat):Int)=g at *;refine⟨g,g0,gd,?_⟩;rw[<-bP,qaQ,qaQ]at L;have Q:cN cQ (aa (iV 2) ac) [Z (obD P S),Z (.int (e:Int)),some (.h 0),p,m] ([]++[.l (mpI P.n λk=>Sx.wayN P S e k)])=some (.d (.tup (mpI P.n λk=>Sx.wayN P S e k / g)),[]++[.l (mpI P.n λk=>Sx.wayN P S e k)]):=by
  have ha:aa (iV 2) ac [Z (obD P S),Z (.int (e:Int)),some (.h 0),p,m] ([]++[.l (mpI P.n λk=>Sx.wayN P S e k)])=some ([.h 0],[]++[.l (mpI P.n λk=>Sx.wayN P S e k)]):=rfl;have V:vwA ([]++[.l (mpI P.n λk=>Sx.wayN P S e k)]) [.h 0]=some [.d (.lst (mpI P.n λk=>Sx.wayN P S e k))]:=rfl;have T:cQ [.d (.lst (mpI P.n λk=>Sx.wayN P S e k))] []=some (.d (.tup (mpI P.n λk=>Sx.wayN P S e k / g)),[]):=L;simp only[cN,ha,qab,V,T];rw[iFP];exact Ak _ _
 have:=cB (n:=5) (k:=2) (b:=tL) (ws:=[.d (obD P S),.d (.int (e:Int))]) (st:=[]) U (ah (aj (i6 (st:=[]) (bS (q (Z (.int (e:Int))) none none none [])) (by lia) S.kept y 0)) (ah (a6 (rM (qW (q _ _ _ _ _))) w) (ah s3 (aH Q))))
 exact this
end
end Own
set_option maxHeartbeats 1000000
namespace Own
open PySem L2
open Sx (Pb Tb Good Named Fe LV ZV piv lexP leastR leaveL sumN unit colV basis)
theorem ng {m:Fn}(c:a env st=some (ws,st)) (e:vwA st ws=some b) (hm:m b []=some (.d x,[])) (hx:okT x=true):cN m a env st=some (.d x,st) :=by
 simp only[cN,c,qab,e,hm];rw[iFP hx]
structure Pd (P:Pb):Prop where
 bd:Sx.Bd P
 hA:∀ k,k<P.n+P.m->∀ t,P.m<=t->P.A k t=0
 hb:∀ t,P.m<=t->P.b t=0
 hg:∀ r,r<P.m->P.g (P.n+r)=0
section
variable {P:Pb}{S:Tb}
theorem Pd.okt (d:Pd P) (g:Good P S) (n:Named P S):Okt P S:=EV d.bd g n
theorem Pd.kept (d:Pd P) (n:Named P S):∀ i,i<P.m->∀ t,P.m<=t->P.A (S.kept i) t=0:=λi hi t A=>d.hA _ (n.bound.2 i hi) t A
theorem HN (g:Good P S) (f:Fe P S):∀ i,i<P.m->0<=S.T i P.n:=λi hi=>by
 rw[g.entry (qan _) hi]
 have:colV P S P.n=Sx.XV P 0:=by unfold colV Sx.XV;rw[iFN (qbb _),iFP U]
 rw[this];exact (Sx.lexP_first (by lia) (f i hi))
structure zh (P:Pb) (p:Int) (am pr:Nat->Int):Prop where
 p1:1<=p
 am0:∀ k,k<P.n->0<=am k
 pr0:∀ r,r<P.m->0<=pr r
 rows:∀ r,r<P.m->(sumN P.n λj=>am j*P.A j r)<=p*P.b r
 cols:∀ j,j<P.n->p*P.g j<=sumN P.m λr=>P.A j r*pr r
 same:(sumN P.m λr=>P.b r*pr r)=sumN P.n λj=>am j*P.g j
 sp:Sm p
 sa:∀ k,k<P.n->Sm (am k)
 sr:∀ r,r<P.m->Sm (pr r)
structure mT (P:Pb) (way:Nat->Int):Prop where
 w0:∀ k,k<P.n->0<=way k
 rows:∀ r,r<P.m->(sumN P.n λj=>way j*P.A j r)<=0
 gain:0<sumN P.n λj=>way j*P.g j
theorem nu { a:Int} (h:g∣a):g*(a / g)=a :=qdI h
theorem sN {f h:Nat->Int} (hd:∀ k,k<n->g∣f k):g*(sumN n λk=>f k / g*h k)=sumN n λk=>f k*h k :=by
 rw[<-Sx.sumN_mul];refine Sx.sumN_congr λk m=>?_;rw[<-qbj,nu (hd k m)]
theorem xQ {f h:Nat->Int} (hd:∀ k,k<n->g∣f k):g*(sumN n λk=>h k*(f k / g))=sumN n λk=>h k*f k :=by
 rw[<-Sx.sumN_mul];refine Sx.sumN_congr λk m=>?_;rw[qaT,nu (hd k m)]
theorem HD (h:Okt P S) (hg:∀ r,r<P.m->P.g (P.n+r)=0) (v:∀ c,c<P.n->0<=S.G c) (l:r<P.m):Sm (ZV P S (r+1))/\0<=ZV P S (r+1) :=by
 rcases h.named.all (P.n+r) (by lia) with⟨c,Q,e⟩|⟨j,o,e⟩
 ·rw[Sx.price_free h.good h.named hg l Q e];exact⟨h.sG c (by lia),v c Q⟩
 ·rw[Sx.price_kept h.good h.named hg l o e];exact⟨qf4 (by decide),qck _⟩
theorem F3 (h:Okt P S) (k):Sm (acc S.kept (λi=>S.T i P.n) P.m k) :=by
 by_cases ex:∃ i,i<P.m/\S.kept i=k
 ·obtain⟨i,hi,rfl⟩:=ex
  have:acc S.kept (λi=>S.T i P.n) P.m _=S.T i P.n:=Sx.byName_at (λi j hi o=>iq h.good hi o) hi
  rw[this];exact h.sT i P.n hi (qan _)
 ·rw[mX λj o e=>ex ⟨j,o,e⟩]
  exact qf4 (by decide)
theorem v8 {  b:Int} (g0:0<g) (h:g*a<=g*b):a<=b :=Int.le_of_mul_le_mul_left h g0
theorem Sm.dv (h:Sm a) (q):Sm (a / q) :=qbD (Int.natAbs_ediv_le_natAbs a q) h
theorem Gf (d:Pd P) (g:Good P S) (n:Named P S) (f:Fe P S) (v:∀ c,c<P.n->0<=S.G c):∃ p am pr,zh P p am pr/\gm [.d (obD P S)] []=some (.d (.tup [.str "most",.int p,.tup (mpI P.n am),.tup (mpI P.m pr)]),[]):=by
 have h:=d.okt g n;have hm:=h.m64;have hn:=h.n64;have N:=HN g f;have R:=F2 (st:=[]) h;have V:=GW (st:=[]) h d.hg;have hg:=d.hg;have M1:=λr l=>Sx.amounts_ok g n N (r:=r) l;have M2:=Sx.gains_amounts g n d.hg;have M3:=λj o=>Sx.prices_ok g n d.hA v (j:=j) o;have M4:=Sx.bounds_prices g d.hb;have M5:∀ k,0<=acc S.kept (λi=>S.T i P.n) P.m k:=λk=>Sx.byName_nonneg (P:=P) (S:=S) N k;have M6:=F3 h;have M7:=λr l=>HD h d.hg v (r:=r) l;have M9:∀ j,Sx.byName P S (λi=>S.T i P.n) j=acc S.kept (λi=>S.T i P.n) P.m j:=λ_=>rfl;simp only[M9]at M1 M2;generalize acc S.kept (λi=>S.T i P.n) P.m=am at *;generalize I:(λr=>ZV P S (r+1))=pr at *;have y:∀ r,ZV P S (r+1)=pr r:=λr=>by rw[<-I]
 simp only[y]at M3 M4 M7;have hns:D.int S.p::(mpI P.n am++mpI P.m pr)=(S.p::((qai P.n).map am++(qai P.m).map pr)).map D.int:=by
  rw[qat,qbI,bP,bP]
 have E:∀ x∈S.p::((qai P.n).map am++(qai P.m).map pr),Sm x:=λx hx=>by
  rcases qav.mp hx with rfl|hx
  ·exact h.sp
  ·rcases qaV.mp hx with hx|hx
   ·obtain⟨k,_,rfl⟩:=qaI.mp hx;exact M6 k
   ·obtain⟨k,m,rfl⟩:=qaI.mp hx;exact (M7 k (qaE.mp m)).1
 have M:=nM (st:=[]) E;have O:=g.pos;obtain⟨u,G⟩:=lw qag (by lia) h.sp;have w:∀ x∈S.p::((qai P.n).map am++(qai P.m).map pr),_∣x:=λx hx=>qcL.mpr ((c9 0 _).2 _ hx);rw[<-hns]at M;generalize ((c8 0 _:Nat):Int)=q at *;have dp:q∣S.p:=w _ qag;have L:=λk m=>w _ (qah _ (qbd _ (qaI.mpr ⟨k,qaE.mpr m,U⟩)));have J:=λk m=>w _ (qah _ (qay _ (qaI.mpr ⟨k,qaE.mpr m,U⟩)));refine⟨S.p / q,λk=>am k / q,λr=>pr r / q,⟨?_,λk _=>qdT (M5 k) (by lia),λr l=>qdT (M7 r l).2 (by lia),λr l=>?_,λj o=>?_,?_,h.sp.dv _,λk _=>(M6 k).dv _,λr l=>(M7 r l).1.dv _⟩,?_⟩
 ·have:=nu dp
  rcases Int.lt_or_le (S.p / q) 1 with z|z
  ·have:q*(S.p / q)<=q*0:=qdG (by lia) (by lia)
   lia
  ·exact z
 ·refine v8 u ?_
  rw[sN (h:=λj=>P.A j r) L,<-qbj,nu dp];exact M1 r l
 ·refine v8 u ?_
  rw[xQ (h:=λr=>P.A j r) J,<-qbj,nu dp];exact M3 j o
 ·refine qeb (a:=q) (by lia) ?_
  rw[xQ (h:=λr=>P.b r) J,sN (h:=λj=>P.g j) L,M4,M2]
 ·have B:∀ (a b c:Option W) (s:Sto),iV 0 [Z (obD P S),a,b,c] s=some (.d (obD P S),s):=λ_ _ _ _=>rfl
  have ka:lcI (.nm 0) aM dG [none,Z (.int q)] (mpI P.n am) []=some (mpI P.n λk=>am k / q,[]):=by
   have:=rG (te:=dG) (st:=[]) (ns:=(qai P.n).map am) u G U
   rw[<-bP,qaQ,qaQ]at this;exact this
  have T:lcI (.nm 0) aM dF [none,Z (.int q)] (mpI P.m pr) []=some (mpI P.m λk=>pr k / q,[]):=by
   have:=rG (te:=dF) (st:=[]) (ns:=(qai P.m).map pr) u G U
   rw[<-bP,qaQ,qaQ]at this;exact this
  have la:(mpI P.n am).length<=1000000:=by rw[aD];lia
  have lr:(mpI P.m pr).length<=1000000:=by rw[aD];lia
  have H:[D.int S.p].length+(mpI P.n am).length<=1000000:=by rw[aD];show 1+_<=_;lia
  have C:([D.int S.p]++mpI P.n am).length+(mpI P.m pr).length<=1000000:=by rw[qau,aD,aD];show 1+_+_<=_;lia
  generalize mpI P.n am=AM at *;generalize mpI P.m pr=PR at *;have s3:aA (.nm 3) (ax bo (aa (iOp a9 (iOp a9 (aq (bf (aa (aw ("part" : Str) (iV 0)) ac))) (iV 1)) (iV 2)) ac)) [Z (obD P S),Z (.lst AM),Z (.lst PR),none] []=some (.nx [Z (obD P S),Z (.lst AM),Z (.lst PR),Z (.int q)] []):=by
   have Y:bf (aa (aw ("part" : Str) (iV 0)) ac) [Z (obD P S),Z (.lst AM),Z (.lst PR),none] []=some ([.int S.p],[]):=by
    have:=ab (b:=ac) (mJ (B (Z (.lst AM)) (Z (.lst PR)) none [])) U
    rfl
   exact aj (ai (ab (ae (ae (av Y) U (fU _ H)) U (fU _ C)) U) M)
  exact az (n:=4) (k:=1) (b:=jX) U (ah (aj (ai (ab (B _ _ _ _) U) R)) (ah (aj (ai (ab (B _ _ _ _) U) V)) (ah s3 (aH (Fq (ab U (ab (ae (mJ (B _ _ _ _)) U (rE _ u G)) (ab (ar (ab (av (aR (aO U) la ka)) U) U) (ab (ar (ab (av (aR (aO U) lr T)) U) U) U)))) U (by show 4<=1000;decide))))))
theorem F8 (d:Pd P) (g:Good P S) (n:Named P S) (F:e<P.n) (A:∀ i,i<P.m->S.T i e<=0) (v:S.G e<0):∃ way,mT P way/\kM [.d (obD P S),.d (.int (e))] []=some (.d (.tup (mpI P.n way)),[]) :=by
 have W1:=Sx.way_gains g n d.hg F v;have O:∃ k,k<P.n/\Sx.wayN P S e k≠0:=by
  by_cases z:∃ k,k<P.n/\Sx.wayN P S e k≠0
  ·exact z
  ·rw[Sx.sumN_congr λk m=>by
    by_cases K:Sx.wayN P S e k=0
    ·rw[K,qbp]
    ·exact absurd ⟨k,m,K⟩ z,Sx.sumN_zero]at W1
   lia
 obtain⟨q,u,w,X⟩:=HB (d.okt g n) F A O;refine⟨_,⟨λk _=>qdT (Sx.way_nonneg g A k) (by lia),λr l=>?_,?_⟩,X⟩
 ·refine v8 u ?_
  rw[sN w,qa9];exact Sx.way_rows g n F A l
 ·refine Int.lt_of_mul_lt_mul_left (a:=q) ?_ (by lia)
  rw[sN w,qa9];exact W1
end
end Own
set_option maxHeartbeats 1000000
namespace Own
open PySem L2
open Sx (Pb Tb Good Named Fe LV ZV piv lexP leastR leaveL sumN unit colV basis)
theorem Ic (n) (f):okT (.tup [.str "beyond",.tup (mpI n f)])=true :=by
 simp only[okT,wk,bP,i7,qis]
theorem GM (n m) (p) (f g):okT (.tup [.str "most",.int p,.tup (mpI n f),.tup (mpI m g)])=true :=by
 simp only[okT,wk,bP,i7,qis]
def F1 (P:Pb) (S:Tb) (x:D):Prop:=(∃ c,c<P.n/\S.G c<0/\(∀ i,i<P.m->S.T i c<=0)/\x=.tup [.int (c:Int),.non])\/(lc P S x/\(x=.non->∀ c,c<P.n->0<=S.G c))
section
variable {P:Pb}{S:Tb}
theorem Bj (d:Pd P) (g:Good P S) (n:Named P S):∃ x,F1 P S x/\okT x=true/\bK [.d (obD P S)] []=some (.d x,[]):=by
 rcases F7 (d.okt g n) (d.kept n) with⟨c,m,hg,C,e⟩|⟨y,L,hn,e⟩
 ·exact⟨_,.inl ⟨c,m,hg,C,U⟩,U,e⟩
 ·refine⟨y,.inr ⟨L,hn⟩,?_,e⟩
  rcases L with rfl|⟨c,r,_,_,_,_,_,_,rfl⟩<;>rfl
theorem lm (e:bK [.d (obD P S)] []=some (.d x,[])) (hx:okT x=true):cN bK (aa (iV 3) ac) [a,b,c,some (.h (st0.length+2)),o] (stO st0 P S)=some (.d x,stO st0 P S) :=
 ng U (Bv U) e hx
def mU (P:Pb) (f:Nat) (S:Tb) (x:D):Prop:=
 (∃ S' k,mT P k/\∀ (st0:Sto) (a b c:Option W),bq gv eP f [a,b,c,some (.h (st0.length+2)),Z x] (stO st0 P S)=some (.rt (.d (.tup [.str "beyond",.tup (mpI P.n k)])) (stO st0 P S')))\/
 ∃ S',Good P S'/\Named P S'/\Fe P S'/\(∀ c,c<P.n->0<=S'.G c)/\∀ (st0:Sto) (a b c:Option W),bq gv eP f [a,b,c,some (.h (st0.length+2)),Z x] (stO st0 P S)=some (.nx [a,b,c,some (.h (st0.length+2)),Z .non] (stO st0 P S'))
theorem xy (d:Pd P):∀ (f) (V:List Nat) (S) (x),Good P S->Named P S->Fe P S->F1 P S x->V.Nodup->(∀ v∈V,v<(P.n+P.m)^P.m)->(∀ v∈V,∃ S',Good P S'/\Named P S'/\Sx.code (P.n+P.m) S'.kept P.m=v/\Sx.less P S' S)->(P.n+P.m)^P.m<f+V.length->mU P f S x
 |0,V,S,x,_,_,_,_,A,hb,_,M=>by
  have:=Sx.nodup_le _ V A hb
  lia
 |f+1,V,S,x,hg,hn,H,hx,A,hb,J,M=>by
  have h:=d.okt hg hn;rcases hx with⟨c,m,z,C,rfl⟩|⟨hx,B⟩
  ·obtain⟨k,u,Q⟩:=F8 d hg hn m C z
   refine .inl ⟨S,k,u,λst0 a b o=>?_⟩;refine G4 U (eK (de U (aH (Fq (ws:=[.d _,.d _]) (ab U (ab ?_ U)) U (by show 2<=1000;decide)))));refine ng (ab U (ab (ae U U (jg _ _ _)) U)) (Bv U) Q ?_;exact Ak _ _
  ·rcases hx with rfl|⟨c,r,m,z,_,K,hT,s,rfl⟩
   ·exact .inr ⟨S,hg,hn,H,B U,λst0 a b o=>DO U⟩
   ·obtain⟨w,G,R,I⟩:=Sx.step hg hn H m K hT z s
    obtain⟨y,N,O,ey⟩:=Bj d w G;have j:∀ {S':Tb},Named P S'->∀ i,i<P.m->S'.kept i<P.n+P.m:=λq i hi=>q.bound.2 i hi;have p:∀ (st0:Sto) (a b o:Option W),eP [a,b,o,some _,some _] _=some _:=λst0 a b o=>by
     have ed:cw (ax dR (aa (iV 3) (aa (iOp dIx (iV 4) (iC (.int 1))) (aa (iOp dIx (iV 4) (iC (.int 0))) ac)))) [a,b,o,some (.h (st0.length+2)),Z (.tup [.int (c),.int (r)])] (stO st0 P S)=some (.nx [a,b,o,some (.h (st0.length+2)),Z (.tup [.int (c),.int (r)])] (stO st0 P (piv S r c))):=by
      have:=ai (a:=aa (iV 3) (aa (iOp dIx (iV 4) (iC _)) (aa (iOp dIx (iV 4) (iC _)) ac))) (env:=[a,b,o,some _,some _]) (st:=stO st0 P S) (ab U (ab (ae U U (io _ _ _)) (ab (ae U U (jg _ _ _)) U))) (BX h K m)
      simp only[cw,this,qap]
     exact ah (bE U U) (ah ed (aj (lm ey O)))
    rcases (xy d f _ _ y w G R N
     (qb0.mpr ⟨λhm=>by
       obtain⟨S',t,q,E,F⟩:=J _ hm
       exact Sx.less_kept t hg F (Sx.code_inj (j q) (j hn) E),A⟩)
     (λv l=>by
       rcases qav.mp l with rfl|l
       ·exact Sx.code_lt (j hn)
       ·exact hb v l)
     (λv l=>by
       rcases qav.mp l with rfl|l
       ·exact⟨S,hg,hn,U,I⟩
       ·obtain⟨S',t,q,E,F⟩:=J v l
        exact⟨S',t,q,E,Sx.less_trans t.pos hg.pos w.pos F I⟩)
     (by rw[qam];lia)) with⟨S',k,u,hw⟩|⟨S',X,Y,fS,T,hw⟩
    ·exact .inl ⟨S',k,u,λst0 a b o=>AS U (p st0 a b o) (hw st0 a b o)⟩
    ·exact .inr ⟨S',X,Y,fS,T,λst0 a b o=>AS U (p st0 a b o) (hw st0 a b o)⟩
end
def gG (m n:Nat) (R:Nat->Nat->Int) (b g:Nat->Int):Pb where
 m:=m
 n:=n
 A:=λk t=>if k<n then (if t<m then R t k else 0) else unit (k - n) t
 b:=λt=>if t<m then b t else 0
 g:=λk=>if k<n then g k else 0
def Bm (m n:Nat) (R:Nat->Nat->Int) (b g:Nat->Int):Tb:=Sx.tb0 (gG m n R b g) (λi c=>if c<n then R i c else b i) (λc=>if c<n then - g c else 0)
def mf (m n:Nat) (R:Nat->Nat->Int):D:=.tup ((qai m).map λi=>D.tup (mpI n (R i)))
structure Inp (m n:Nat) (R:Nat->Nat->Int) (b g:Nat->Int):Prop where
 m64:m<=32
 n64:n<=100
 R:∀ i c,i<m->c<n->(R i c).natAbs<=2^50
 b:∀ i,i<m->(b i).natAbs<=2^50/\0<=b i
 g:∀ c,c<n->(g c).natAbs<=2^50
section
variable {m n:Nat}{R:Nat->Nat->Int}{b g:Nat->Int}
theorem DH (h:Inp m n R b g):Pd (gG m n R b g) where
 bd:={
  m64:=h.m64
  n64:=h.n64
  A:=λk _ t e=>by
   show (if k<n then _ else unit _ t).natAbs<=_;by_cases j:k<n
   ·rw[iFP j,iFP (show t<m from e)];exact h.R t k e j
   ·rw[iFN j];exact Sx.unit_le _ _
  b:=λt e=>by
   show (if t<m then b t else 0).natAbs<=_;rw[iFP (show t<m from e)];exact (h.b t e).1
  g:=λk _=>by
   show (if k<n then g k else 0).natAbs<=_;by_cases j:k<n
   ·rw[iFP j];exact h.g k j
   ·rw[iFN j];exact qbr _ }
 hA:=λk j t e=>by
  have hk':k<n+m:=j;have ht':m<=t:=e;show (if k<n then _ else unit _ t)=0;by_cases q:k<n
  ·rw[iFP q,iFN (by lia)]
  ·rw[iFN q];unfold unit;rw[iFN (by lia)]
 hb:=λt e=>iFN (qhN.mpr e)
 hg:=λr _=>iFN (by show ¬ n+r<n;lia)
theorem B1 (h:Inp m n R b g):Good (gG m n R b g) (Bm m n R b g)/\Named (gG m n R b g) (Bm m n R b g)/\Fe (gG m n R b g) (Bm m n R b g):=by
 have d:=DH h
 have:=Sx.good0
  (λr _=>by
    funext t
    show (if n+r<n then _ else unit (n+r - n) t)=_
    rw[iFN (by lia),qaL])
  (λk j=>d.hA k (by lia)) d.hb d.hg
  (λi c hi F=>by
    show (if c<n then R i c else b i)=if c<n then _ else _
    rw[iFP (show c<n from F),iFP (show c<n from F),iFP (show i<m from hi)])
  (λi hi=>by
    show (if n<n then _ else b i)=if i<m then b i else 0
    rw[iFN (qbb _),iFP (show i<m from hi)])
  (λc F=>by
    show (if c<n then - g c else 0)=- (if c<n then g c else 0)
    rw[iFP (show c<n from F),iFP (show c<n from F)])
  (by show (if n<n then _ else _)=0;rw[iFN (qbb _)])
 refine⟨this.1,this.2.1,this.2.2 λt e=>?_⟩;show 0<=if t<m then b t else 0;rw[iFP (show t<m from e)];exact (h.b t e).2
theorem xz (f) (x):mpI n f++[.int x]=mpI (n+1) λc=>if c<n then f c else x :=by
 rw[oR,iFN (qbb _)];rw[bB (g:=λc=>if c<n then f c else x) λk j=>by rw[iFP j]]
theorem A1 (lo:Nat) (m):cG (lo) m=mpI m (nI λi=>lo+i) :=by
 refine qbS λk _=>?_;show D.int _=D.int (((lo+k:Nat)));rw[Int.natCast_add]
theorem GG (h:Inp m n R b g):nO 4 4 bQ (aa (iV 0) (aa (iV 1) (aa (iV 2) ac))) [some (.d (mf m n R)),some (.d (.tup (mpI m b))),some (.d (.tup (mpI n g))),I,J] st0=some (.h (st0.length+2),stO st0 (gG m n R b g) (Bm m n R b g)) :=by
 have hm:=h.m64;have hn:=h.n64;generalize G:([none,some (.d (mf m n R)),some (.d (.tup (mpI m b))),some (.d (.tup (mpI n g)))]:Ev)=E;have v1:∀ s,iV 1 E s=some (.d (mf m n R),s):=λs=>by rw[<-G];rfl
 have v2:∀ s,iV 2 E s=some (.d (.tup (mpI m b)),s):=λs=>by rw[<-G];rfl
 have S:∀ s,iV 3 E s=some (.d (.tup (mpI n g)),s):=λs=>by rw[<-G];rfl
 have a:∀ s,iCB aS (aa (iV 3) ac) E s=some (.d (.int (n:Int)),s):=λs=>by
  have:=ar (g:=aS) (d:=.int ((mpI n g).length:Nat)) (ab (b:=ac) (S s) U) U
  rw[aD]at this;exact this
 have w:∀ s,iCB aS (aa (iV 1) ac) E s=some (.d (.int (m:Int)),s):=λs=>by
  have:=ar (g:=aS) (d:=.int (((qai m).map λi=>D.tup (mpI n (R i))).length:Nat)) (ab (b:=ac) (v1 s) U) U
  rw[qaf,qar]at this;exact this
 have f2:aq (iLc 2 [] (cx (aa (iV 1) (aa (iV 2) ac))) (.tp [0,1]) aM gY) E st0=some (.d (.lst (aX m n λi c=>if c<n then R i c else b i)),st0):=by
  have hz:cx (aa (iV 1) (aa (iV 2) ac)) E st0=some ((qai m).map λi=>D.tup [.tup (mpI n (R i)),.int (b i)],st0):=by
   have o:cH ((qai m).map λi=>D.tup (mpI n (R i))) (mpI m b)=(qai m).map λi=>D.tup [.tup (mpI n (R i)),.int (b i)]:=by
    apply qbq;intro i;rw[fR,qaz,qaz];by_cases hi:i<m
    ·rw[bi hi,qbe hi];rfl
    ·rw[qaF (l:=qai m) (by rw[qar];lia)];rfl
   rw[<-o]
   have:=ab (v1 st0) (ab (b:=ac) (v2 st0) U)
   simp only[cx,this,qab];rfl
  refine av (aR hz (by rw[qaf,qar];lia) ?_);refine z5 (g:=λi=>(D.tup (mpI n (R i)),.int (b i))) (lnD n λi c=>if c<n then R i c else b i) λi hi=>?_;unfold lnD;rw[<-xz (R i) (b i)];exact ae (av (show iCL xv (aa (iV 0) ac) _ _=some (mpI n (R i),_) from U)) (av (show bf (aa (iV 1) ac) _ _=some ([.int (b i)],_) from U)) (fU _ (by rw[aD];show _+1<=_;lia))
 have f3:iOp a9 (aq (iLc 1 [] (aC (iV 3)) (.nm 0) aM gZ)) (aq (bf (aa (iC (.int 0)) ac))) E st0=some (.d (.lst (mpI (n+1) λc=>if c<n then - g c else 0)),st0):=by
  rw[<-xz (λc=>- g c) 0];refine ae (av (aR (bA (S st0)) (by rw[aD];lia) (gA (g:=λk=>D.int (g k)) (λk=>D.int (- g k)) λk _=>rfl))) (av (show bf (aa (iC (.int 0)) ac) E st0=some ([.int 0],st0) from U)) (fU _ ?_);rw[qaf,qar];show _+1<=_;lia
 have f5:bM (yy (aa (iCB aS (aa (iV 3) ac)) ac)) E st0=some (.h st0.length,st0++[.l (mpI n (nI λc=>c))]):=by
  have:=ab (b:=ac) (a st0) U
  have o:yy (aa (iCB aS (aa (iV 3) ac)) ac) E st0=some (mpI n (nI λc=>c),st0):=by
   simp only[yy,this,qab];rw[iFP ⟨by lia,by lia⟩,qbf,show cG 0 n=cG ((0:Nat):Int) n from U,A1];simp only[qbg]
  simp only[bM,o,qap]
 have T:bM (rP (aa (iCB aS (aa (iV 3) ac)) (aa (iOp a9 (iCB aS (aa (iV 3) ac)) (iCB aS (aa (iV 1) ac))) ac))) E (st0++[.l (mpI n (nI λc=>c))])=some (.h (st0.length+1),st0++[.l (mpI n (nI λc=>c)),.l (mpI m (nI λi=>n+i))]):=by
  generalize X:(st0++[C.l (mpI n (nI λc=>c))])=s1;have h2:iOp a9 (iCB aS (aa (iV 3) ac)) (iCB aS (aa (iV 1) ac)) E s1=some (.d (.int ((n:Int)+(m:Int))),s1):=ae (a s1) (w s1) U
  have:=ab (a s1) (ab (b:=ac) h2 U)
  have o:rP (aa (iCB aS (aa (iV 3) ac)) (aa (iOp a9 (iCB aS (aa (iV 3) ac)) (iCB aS (aa (iV 1) ac))) ac)) E s1=some (mpI m (nI λi=>n+i),s1):=by
   simp only[rP,this,qab];rw[iFP ⟨by lia,by lia,by lia,by lia⟩,show (((n:Int)+(m:Int)) - (n:Int)).toNat=m by lia,A1]
  simp only[bM,o,qap];rw[<-X,qau]
  simp
 have z:rS bQ E st0=some (fsO n (aX m n λi c=>if c<n then R i c else b i) (mpI (n+1) λc=>if c<n then - g c else 0) 1 st0.length,st0++[.l (mpI n (nI λc=>c)),.l (mpI m (nI λi=>n+i))]):=by
  unfold bQ;simp only[rS,a st0,f2,f3,f5,T,qab,qap,show iC (.int 1) E st0=some (.d (.int 1),st0) from U];rfl
 have ha:aa (iV 0) (aa (iV 1) (aa (iV 2) ac)) [some (.d (mf m n R)),some (.d (.tup (mpI m b))),some (.d (.tup (mpI n g))),I,J] st0=some ([.d (mf m n R),.d (.tup (mpI m b)),.d (.tup (mpI n g))],st0):=rfl;simp only[nO,ha,qab];show (rS bQ [none,some (.d (mf m n R)),some (.d (.tup (mpI m b))),some (.d (.tup (mpI n g)))] st0).map _=_;rw[G,z,qap];rw[qau,qbl];rfl
inductive BG (P:Pb):D->Prop
 |most (p:Int) (am pr:Nat->Int):zh P p am pr->BG P (.tup [.str "most",.int p,.tup (mpI P.n am),.tup (mpI P.m pr)])
 |beyond (way:Nat->Int):mT P way->BG P (.tup [.str "beyond",.tup (mpI P.n way)])
theorem AF (hm:m<=64) (hn:n<=100):(n+m)^m<2^8000 :=by
 have N:(n+m)^m<=(2^8)^m:=Nat.pow_le_pow_left (by lia) m;rw[<-qjQ]at N;exact qbD N (xL (by lia))
theorem Co (h:Inp m n R b g):∃ x,BG (gG m n R b g) x/\okT x=true/\∀ st,∃ u,i4 [.d (mf m n R),.d (.tup (mpI m b)),.d (.tup (mpI n g))] st=some (.d x,st++u) :=by
 have d:=DH h;obtain⟨L,M,f1⟩:=B1 h;obtain⟨y,Y,K,Q⟩:=Bj d L M;have hl:=xy d (2^8000) [] _ y L M f1 Y qcX (λv H=>nomatch H) (λv H=>nomatch H) (by rw[qb7,qjA];exact AF (qaD h.m64 (by decide)) h.n64)
 generalize hM:(mf m n R)=A at *;generalize hB:D.tup (mpI m b)=B at *;generalize hC:D.tup (mpI n g)=C at *;have O:∀ st0,aA (.nm 3) (nO 4 4 bQ (aa (iV 0) (aa (iV 1) (aa (iV 2) ac)))) [Z A,Z B,Z C,none,none] st0=some (.nx [Z A,Z B,Z C,some (.h (st0.length+2)),none] (stO st0 (gG m n R b g) (Bm m n R b g))):=λst0=>by
  rw[<-hM,<-hB,<-hC];exact aj (GG h)
 rcases hl with⟨S',way,V,hw⟩|⟨S',gS,nS,fS,hS,hw⟩
 ·refine⟨_,.beyond way V,Ic _ _,λst0=>⟨_,az (n:=5) (k:=3) (b:=li) U (ah (O st0) (ah (aj (lm Q K)) (eK (hw st0 _ _ _))))⟩⟩
 ·obtain⟨p,am,pr,mi,em⟩:=Gf d gS nS fS hS
  refine⟨_,.most p am pr mi,GM _ _ _ _ _,λst0=>⟨_,az (n:=5) (k:=3) (b:=li) U (ah (O st0) (ah (aj (lm Q K)) (ah (hw st0 _ _ _) (aH (ng (ws:=[.h (st0.length+2)]) U (Bv (ws:=[]) (ws':=[]) U) em (GM _ _ _ _ _))))))⟩⟩
end
end Own
namespace Sx
noncomputable def spR (N k:Nat) (V:Nat->Nat->Int) (r c:Nat):Int:=if r<N then (if c<k then - V r c else if c<k+k then V r (c - k) else if c - (k+k)=r then 1 else 0) else if c<k+k then 0 else if c - (k+k)=r - N then 1 else 0
noncomputable def spB (N r:Nat):Int:=if r<N then 0 else 1
noncomputable def spG (k c:Nat):Int:=if c<k+k then 0 else 1
section
variable {N k:Nat}{V:Nat->Nat->Int}{am pr:Nat->Int}{p:Int}
theorem sp_row (hi:i<N):(sumN (k+k+N) λj=>am j*spR N k V i j)=am (k+k+i) - sumN k λt=>(am t - am (k+t))*V i t :=by
 rw[sumN_append,sumN_append];have l:(sumN k λj=>am j*spR N k V i j)=sumN k λt=>(-1)*(am t*V i t):=sumN_congr λt o=>by
  unfold spR;rw[iFP hi,iFP o,qf8];omega
 have u:(sumN k λj=>am _*spR N k V i (k+j))=sumN k λt=>am (k+t)*V i t:=sumN_congr λt o=>by
  unfold spR;rw[iFP hi,iFN (by omega),iFP (by omega),qaL]
 have E:(sumN N λj=>am (k+k+j)*spR N k V i (k+k+j))=am (k+k+i):=by
  rw[sumN_single hi λj w c=>by unfold spR;rw[iFP hi,iFN (by omega),iFN (by omega),qaL,iFN c,qa9]];unfold spR;rw[iFP hi,iFN (by omega),iFN (by omega),qaL,iFP U,qc8]
 have L:(sumN k λt=>(am t - am (k+t))*V i t)=(sumN k λt=>am t*V i t) - sumN k λt=>am (k+t)*V i t:=by
  rw[<-sumN_sub];exact sumN_congr λt _=>qf7 _ _ _
 rw[l,sumN_mul];omega
theorem sp_lim (hi:i<N):(sumN (k+k+N) λj=>am j*spR N k V (N+i) j)=am (k+k+i) :=by
 rw[sumN_append];have l:(sumN (k+k) λj=>am j*spR N k V (N+i) j)=0:=by
  rw[sumN_congr λj w=>by unfold spR;rw[iFN (by omega),iFP w,qa9],sumN_zero]
 have E:(sumN N λj=>am (k+k+j)*spR N k V (N+i) (k+k+j))=am (k+k+i):=by
  rw[sumN_single hi λj w c=>by unfold spR;rw[iFN (by omega),iFN (by omega),qaL,qaL,iFN c,qa9]];unfold spR;rw[iFN (by omega),iFN (by omega),qaL,qaL,iFP U,qc8]
 rw[l,E,qbO]
theorem sp_colA (o:t<k):(sumN (N+N) λr=>spR N k V r t*pr r)=- sumN N λi=>V i t*pr i :=by
 rw[sumN_append];have l:(sumN N λr=>spR N k V r t*pr r)=sumN N λi=>(-1)*(V i t*pr i):=sumN_congr λr g=>by
  unfold spR;rw[iFP g,iFP o,qdw];omega
 have u:(sumN N λr=>spR N k V (N+r) t*pr (N+r))=0:=by
  rw[sumN_congr λj w=>by unfold spR;rw[iFN (by omega),iFP (by omega),qbp],sumN_zero]
 rw[l,sumN_mul];omega
theorem sp_colB (o:t<k):(sumN (N+N) λr=>spR N k V r (k+t)*pr r)=sumN N λi=>V i t*pr i :=by
 rw[sumN_append];have u:(sumN N λr=>spR N k V (N+r) (k+t)*pr (N+r))=0:=by
  rw[sumN_congr λj w=>by unfold spR;rw[iFN (by omega),iFP (by omega),qbp],sumN_zero]
 rw [(sumN_congr λr g=>by
  unfold spR;rw[iFP g,iFN (by omega),iFP (by omega),qaL]),u,qfC]
theorem sp_colE (hi:i<N):(sumN (N+N) λr=>spR N k V r (k+k+i)*pr r)=pr i+pr (N+i) :=by
 rw[sumN_append];have l:(sumN N λr=>spR N k V r (k+k+i)*pr r)=pr i:=by
  rw[sumN_single hi λr g c=>by unfold spR;rw[iFP g,iFN (by omega),iFN (by omega),qaL,iFN (qbF c),qbp]];unfold spR;rw[iFP hi,iFN (by omega),iFN (by omega),qaL,iFP U,qc7]
 have u:(sumN N λr=>spR N k V (N+r) (k+k+i)*pr (N+r))=pr (N+i):=by
  rw[sumN_single hi λr g c=>by unfold spR;rw[iFN (by omega),iFN (by omega),qaL,qaL,iFN (qbF c),qbp]];unfold spR;rw[iFN (by omega),iFN (by omega),qaL,qaL,iFP U,qc7]
 rw[l,u]
theorem sum0 (h:∀ i,i<n->0<=f i) (e:sumN n f=0):∀ i,i<n->f i=0 :=by
 induction n with
 |zero=>exact λi hi=>absurd hi (qca _)
 |succ n I=>
  have K:=sumN_nonneg (n:=n) λi hi=>h i (by omega);have M:=h n (by omega);rw[sumN]at e;intro i hi;rcases Nat.lt_succ_iff_lt_or_eq.mp hi with z|z
  ·exact I (λi hi=>h i (by omega)) (by omega) i z
  ·rw[z];omega
theorem split_core (p1:1<=p) (am0:∀ j,j<k+k+N->0<=am j) (pr0:∀ r,r<N+N->0<=pr r) (rows:∀ r,r<N+N->(sumN (k+k+N) λj=>am j*spR N k V r j)<=p*spB N r)
  (cols:∀ j,j<k+k+N->p*spG k j<=sumN (N+N) λr=>spR N k V r j*pr r) (same:(sumN (N+N) λr=>spB N r*pr r)=sumN (k+k+N) λj=>am j*spG k j) :
  (∀ t,t<k->(sumN N λi=>V i t*pr i)=0)/\∀ i,i<N->0<=(sumN k λt=>(am t - am (k+t))*V i t)/\((sumN k λt=>(am t - am (k+t))*V i t)=0↔pr i≠0):=by
 have s:∀ t,t<k->(sumN N λi=>V i t*pr i)=0:=λt o=>by
  have a:=cols t (by omega);have b:=cols (k+t) (by omega);rw[sp_colA o]at a;rw[sp_colB o]at b;unfold spG at a b;rw[iFP (by omega)]at a b;omega
 have x:∀ i,i<N->am (k+k+i)<=sumN k λt=>(am t - am (k+t))*V i t:=λi hi=>by
  have a:=rows i (by omega);rw[sp_row hi]at a;unfold spB at a;rw[iFP hi]at a;omega
 have G:∀ i,i<N->am _<=p:=λi hi=>by
  have a:=rows (N+i) (by omega);rw[sp_lim hi]at a;unfold spB at a;rw[iFN (by omega),qc8]at a;exact a
 have hz:∀ i,i<N->p<=pr i+pr _:=λi hi=>by
  have a:=cols (k+k+i) (by omega);rw[sp_colE hi]at a;unfold spG at a;rw[iFN (by omega),qc8]at a;exact a
 have H:(sumN N λi=>pr (N+i))=sumN N λi=>am (k+k+i):=by
  have l:(sumN (N+N) λr=>spB N r*pr r)=sumN N λi=>pr (N+i):=by
   rw[sumN_append,sumN_congr λr g=>by unfold spB;rw[iFP g,qbp],sumN_zero,qbO];exact sumN_congr λr _=>by unfold spB;rw[iFN (by omega),qc7]
  have u:(sumN (k+k+N) λj=>am j*spG k j)=sumN N λi=>am (k+k+i):=by
   rw[sumN_append,sumN_congr λr g=>by unfold spG;rw[iFP g,qa9],sumN_zero,qbO];exact sumN_congr λr _=>by unfold spG;rw[iFN (by omega),qc8]
  rw[<-l,<-u];exact same
 have e0:∀ i,i<N->0<=am (k+k+i):=λi hi=>am0 _ (by omega);have y:∀ i,i<N->0<=pr i:=λi hi=>pr0 _ (by omega);have D:∀ i,i<N->0<=pr (N+i):=λi hi=>pr0 _ (by omega);have v:=by
  refine sum0 (λi hi=>qea (y i hi) (qeN (e0 i hi) (x i hi))) ?_;have l:(sumN N λi=>pr i*sumN k λt=>_*V i t)=sumN N λi=>sumN k λt=>(am t - am (k+t))*_:=sumN_congr λi _=>by
   rw[<-sumN_mul];exact sumN_congr λt _=>by rw[qaW _,qbj]
  rw[l,sumN_swap,sumN_congr λt o=>by rw[sumN_mul,s t o,qa9],sumN_zero]
 have A:∀ i,i<N->pr i*am (k+k+i)=0:=λi hi=>by
  have a:=qdG (x i hi) (y i hi);have b:=qea (y i hi) (e0 i hi);rw[v i hi]at a;omega
 have B:∀ i,i<N->pr (N+i)*(p - am (k+k+i))=0:=by
  refine sum0 (λi hi=>qea (D i hi) (by have:=G i hi;omega)) ?_;have a2:0<=sumN N λi=>am (k+k+i)*(pr (N+i) - p):=sumN_nonneg λi hi=>by
   have b:=qdG (hz i hi) (e0 i hi);rw[qco,qaW (am _) (pr i),(A i hi)]at b;rw[qcG];omega
  have C:0<=sumN N λi=>pr (N+i)*(p - am (k+k+i)):=sumN_nonneg λi hi=>qea (D i hi) (by have:=G i hi;omega)
  rw [(sumN_congr λi _=>by
   rw[qcG,qaW (am _),qaW (am _) p]),sumN_sub,sumN_mul]at a2
  rw [(sumN_congr λi _=>by
   rw[qcG,qaW _ p]),sumN_sub,sumN_mul]at C ⊢
  rw[H]at C ⊢;omega
 refine⟨s,λi hi=>⟨qeN (e0 i hi) (x i hi),λJ F=>?_,λF=>?_⟩⟩
 ·have a:=x i hi
  have d:=hz i hi;rcases qcB.mp (B i hi) with q|q<;>omega
 ·rcases qcB.mp (v i hi) with q|q
  ·exact absurd q F
  ·exact q
theorem split_most {m:Nat->Int} (w0:∀ j,j<k+k+N->0<=m j) (rows:∀ r,r<N+N->(sumN (k+k+N) λj=>m j*spR N k V r j)<=0) (gain:0<sumN (k+k+N) λj=>m j*spG k j):False:=by
 have u:(sumN (k+k+N) λj=>m j*spG k j)=0:=by
  rw[sumN_append,sumN_congr λr g=>by unfold spG;rw[iFP g,qa9],sumN_zero,qbO,sumN_congr λi hi=>?_,sumN_zero];have a:=rows (N+i) (by omega);rw[sp_lim hi]at a;have b:=w0 (k+k+i) (by omega);rw[show m _=0 by omega,qbp]
 omega
end
end Sx
set_option maxHeartbeats 1000000
namespace Own
open PySem L2
open Sx (Pb Tb Good Named Fe LV ZV piv lexP leastR leaveL sumN unit colV basis)
theorem ci (h:a env st=some (ws,s)) (hd:rH ws=some ds) (b:ds.length<=1000:=by decide):a5 a env st=some (.d (.tup ds),s) :=by
 simp only[a5,h,hd,b,qab,if_true]
theorem C3 (h:a env st=some (ws,s)) (hd:rH ws=some ds) (b:ds.length<=1000:=by decide):bf a env st=some (ds,s) :=by
 simp only[bf,h,hd,b,qab,if_true]
theorem GI (s) (h:qbH a b):aZ s (.d (.int a)) (.d (.int b))=some (.int (a*b)) :=iFP h
theorem Ad (s) (h:0<b):f7 s (.d (.int a)) (.d (.int b))=some (.int (a%b)) :=iFP h
theorem Ek (s) (h:0<b/\b<1073741824):gR s (.d (.int a)) (.d (.int b))=some (.int (a / b)) :=iFP h
theorem AG (a:0<=k) (h:k<=60):dS [.d (.int k)] st=some (.d (.int (2^k.toNat)),st) :=by
 obtain⟨c,f,b,o,rfl,rfl⟩:=bO (g:=.nm 2) (body:=fJ) (λi env s=>∃ o,env=[Z (.int k),Z (.int (2^i)),o]/\s=st)
  ⟨none,U,U⟩ (λi d env s hd ⟨o,e,es⟩=>by
   subst e es;obtain⟨rfl,hi⟩:=C8 hd;refine⟨_,[some _,some _,Z (.int i)],s,U,.inl ?_,_,U,U⟩
   exact aj (ae U U (GI _ (dz (by decide)))))
 rw[kX]at b;exact az U (kU (aj U) (kU (a6 (jP U a (by lia) U) b) (aH U)))
theorem yU (h:j<=20):(0:Int)<2^j/\(2:Int)^j<1073741824 :=by
 have a:∀ m ,m<=20->2^m<=2^20:=λm hm=>qba (by decide) hm;have b:=a j h;have c:0<2^j:=qf4 (by decide);lia
theorem CA (a:0<=k) (b:k<=20):su [.d (.int row),.d (.int k)] st=some (.d (.int (onI row k)),st) :=by
 have h:=yU (j:=k.toNat) (by lia);exact az U (aH (ae (ae U (ai U (AG a (by lia))) (Ek _ ⟨h.1,h.2⟩)) U (Ad _ (by decide))))
def bJ (b:Bool) (t:List Int) (row:Int):Int:=if b=true then (if eV row t=(t.length:Int) then 1 else 0) else (if eV row t%2=1 then -1 else 1)
noncomputable def aE (b:Bool):Str:=if b=true then "both" else "odd"
theorem qJ (b):(aE b==("both"))=b :=by cases b<;>decide
theorem Bu (i:∀ k∈t,0<=k/\k<=20) (n:t.length<=1000):jM [.d (.str (aE b)),.d (au t),.d (.int row)] st=some (.d (.int (bJ b t row)),st) :=by
 have a:lcI (.nm 0) aM du [none,some _] _ st=some ((t.map D.int).map λd=>match d with|.int k=>.int (onI row k)|d=>d,st):=sh _ λd hd=>by
  obtain⟨k,j,rfl⟩:=qaI.mp hd;exact⟨_,U,ai U (CA (i k j).1 (i k j).2)⟩
 have l:((t.map D.int).map λd=>match d with|.int k=>.int (onI row k)|d=>d)=(t.map (onI row)).map D.int:=by rw[qaQ,qaQ];rfl
 rw[l]at a;have c:=Hk st (t.map (onI row));rw[tQ]at c;have g:(t.map D.int).length<=1000000:=by rw[qaf];lia
 have e:aS st [.d (au t)]=some (.int (t.length)):=by
  show some (D.int _)=_;rw[qaf]
 have f:dEq st (.d (.str (aE b))) (.d (.str "both"))=some (.bl b):=by rw[nJ,qJ]
 have m:bJ b t row=if b=true then (if (eV row t==(t.length))=true then 1 else 0) else (if (eV row t%2==(1))=true then -1 else 1):=by simp only[bJ,beq_iff_eq]
 rw[m];have first:∀ (tl:Sf) (r:Option Fl),tl [Z (.str (aE b)),Z (au t),Z (.int row),Z (.int (eV row t))] st=r->ag (aA (.nm 3) (iCB rC (aa (aq (iLc 1 [2] (aC (iV 1)) (.nm 0) aM du)) ac))) tl [Z (.str (aE b)),Z (au t),Z (.int row),none] st=r:=λtl r h=>by
  have q:aA (.nm 3) (iCB rC (aa (aq (iLc 1 [2] (aC (iV 1)) _ aM du)) ac)) [some _,some _,some _,none] st=some (.nx [Z (.str (aE b)),Z (au t),some _,some _] st):=aj (ar (ab (av (aR (bA U) g a)) U) c);simp only[ag,q,qab,h]
 generalize aE b=kd at *;cases b with
 |true=>
  cases hq:(eV row t==_) with
  |true=>exact az U (first _ _ (xM (DM (ak U U f) (aH (pw (ak U (ar U e) (by rw[cc,hq])) U)))))
  |false=>exact az U (first _ _ (xM (DM (ak U U f) (aH (sE (ak U (ar U e) (by rw[cc,hq])) U)))))
 |false=>
  cases hq:(eV row t%2==_) with
  |true=>exact az U (first _ _ (kU (DL (ak U U f) U) (aH (pw (ak (ae U U (Ad _ (by decide))) U (by rw[cc,hq])) U))))
  |false=>exact az U (first _ _ (kU (DL (ak U U f) U) (aH (sE (ak (ae U U (Ad _ (by decide))) U (by rw[cc,hq])) U))))
theorem xU (b:fs.length<=1000):bW [.d (.tup fs)] st=some (.d (.tup ((bI 0 fs).map D.int)),st) :=by
 have a:lcI (.tp [0,1]) fm eY [none,none] (bF 0 fs) st=some (((bF 0 fs).filter C9).map Fx,st):=kI _ _ λd hd=>by
  obtain⟨i,hi⟩:=List.mem_iff_getElem?.mp hd;rw[dB]at hi;obtain⟨e,c,rfl⟩:=qad.mp hi;exact⟨_,U,by simp only[fm,C9,iV,iC,aF,pI,yh,tW,db,qab,qap,qbv,qbT,qhr,qhs,qbg],λ_=>by simp only[eY,Fx,iV,pI,qap,qbv,qhr,qhs,qbg]⟩
 rw[pS]at a;have hz:(bF 0 fs).length<=1000000:=by rw[lu];lia
 simp only[bW,lV,iV,ac,aa,iCB,aq,aL,iLc,bL,bv,jB,gI,ft,qab,qap,qbv,qat,qdY,qam,qb7,qdM,qdL,qdE,qdO,qfg,if_true,qbg,lg,a,hz]
theorem De {j:Nat}(hd:fs[j]?=some d) (a:dY d) (hn:d≠.non):fM [.d (.tup fs),.d (.int (j))] st=some (.d (.int (sgD d)),st) :=by
 have e:atI fs (j:Int)=some d:=cT hd;rcases a with rfl|rfl|rfl
 ·exact absurd U hn
 ·simp only[fM,lj,iV,iC,iOp,aF,iUn,dJ,aL,bv,yh,gI,dIx,dEq,ou,eqK,eqD,gT,qab,qap,qbv,qbT,qat,qdY,qam,qb7,qdL,qdE,qdO,qgI,qfg,if_true,if_false,qbC,qbg,lg,qgK,e,sgD,show ((0:Int)==1)=false by decide,show ¬ (0:Int)=1 by decide]
 ·simp only[fM,lj,iV,iC,iOp,aF,iUn,dJ,aL,bv,yh,gI,dIx,dEq,ou,eqK,eqD,gT,qab,qap,qbv,qbT,qat,qdY,qam,qb7,qdL,qdE,qdO,qgI,qfg,if_true,qbg,lg,qgK,e,sgD,show ((1:Int)==1)=true by decide]
theorem Hh :sgD d=1\/sgD d=-1 :=by
 unfold sgD;split
 ·split
  ·exact .inl U
  ·exact .inr U
 ·exact .inl U
theorem yZ {j:Nat}(hd:fs[j]?=some d) (i:dY d) (hn:d≠.non) (f:∀ k∈t,0<=k/\k<=20) (g:t.length<=1000) :
  cA [.d (.tup fs),.d (.str (aE b)),.d (au t),.d (.int (j))] st=some (.d (.int (sgD d*bJ b t j)),st) :=by
 have c:=De (st:=st) hd i hn;have a:=Bu (st:=st) (b:=b) (row:=j) f g;have e:qbH (sgD d) (bJ b t j):=eF (by rcases Hh (d:=d) with h|h<;>(rw[h];decide));generalize aE b=kd at a ⊢;generalize au t=tt at a ⊢;simp only[cA,gN,iV,iOp,ac,aa,ax,aL,bv,aZ,qab,qap,qbv,qbT,qat,qdY,qam,qb7,qdL,qdE,qdO,qgI,qfg,if_true,qbg,qgK,c,a,e]
end Own
set_option maxHeartbeats 1000000
namespace Own
open PySem L2
open Sx (Pb Tb Good Named Fe LV ZV piv lexP leastR leaveL sumN unit colV basis)
theorem i9 {α b:Type} (a) (F:α->b) (l:List α):l.map F=(qai l.length).map λi=>F (l.getD i a) :=by
 apply qbq;intro i;rw[qaz,qaz];by_cases h:i<l.length
 ·rw[qbe h,qal h,qap,qap,qaA,qal h];rfl
 ·rw[qaF (by lia),qaF (by rw[qar];lia)];rfl
theorem oS (c:∀ i,i<n->g i=f i) (b:∀ i,i<l->g (n+i)=h i):mpI n f++mpI l h=mpI (n+l) g :=by
 apply qbq;intro i;by_cases q:i<n
 ·rw[qaC (by rw[aD];exact q),bi q,bi (by lia),c i q]
 ·rw[qaK (by rw[aD];lia),aD]
  by_cases a:i<n+l
  ·rw[bi (by lia),bi a,<-b _ (by lia),show n+_=i by lia]
  ·rw[qaF (by rw[aD];lia),qaF (by rw[aD];lia)]
theorem ww (c):∀ n,(qaJ n [D.int c]).flatten=mpI n λ_=>c
 |0=>rfl
 |n+1=>by rw[oR,qgX,qg8,ww c n];rfl
theorem v5 {α:Type}{l:Ev}{g} (F):∀ {a:List α},(∀ k∈a,te (Z (g k)::l) st=some (.d (F k),st))->lcI (.nm 0) aM te (none::l) (a.map g) st=some (a.map F,st)
 |[],_=>rfl
 |k::a,h=>by
  rw[qat];unfold lcI;rw[show cD _ _ _=some (some _::l) from U,qab,show aM _ st=some (true,st) from U,qab,(h k qag),qab,(v5 F λx hx=>h x (qah _ hx))];rfl
theorem xf (F) (n):bF 0 ((qai n).map F)=(qai n).map λi:Nat=>D.tup [.int ((i)),F i] :=by
 apply qbq;intro i;rw[dB,qaz,qaz];by_cases hi:i<n
 ·rw[qbe hi,qap,qap,qap,qbg]
 ·rw[qaF (by rw[qar];lia)];rfl
structure Spl (fs:List D) (ts:List (List Int)):Prop where
 fl:fs.length<=16
 fv:∀ d∈fs,dY d
 tl:ts.length<=16
 tt:∀ t∈ts,(∀ k∈t,0<=k/\k<=20)/\t.length<=20
 nd:ts.Nodup
def nR (fs:List D):Nat:=(bI 0 fs).length
def kY (fs:List D) (i:Nat):Int:=(bI 0 fs).getD i 0
def spV (fs:List D) (b:Bool) (ts:List (List Int)) (i t:Nat):Int:=sgD (fs.getD (kY fs i).toNat .non)*bJ b (ts.getD t []) (kY fs i)
def tsD (ts:List (List Int)):D:=.tup (ts.map au)
section
variable {fs:List D}{b:Bool}{ts:List (List Int)}
theorem Spl.n (h:Spl fs ts):nR fs<=16:=qaD (qP fs 0) h.fl
theorem wB (h:Spl fs ts) (l:j∈bI 0 fs):∃ (m:Nat) (d:D),j=(m)/\m<fs.length/\fs[m]?=some d/\dY d/\d≠.non/\fs.getD j.toNat .non=d :=by
 obtain⟨m,e,hm,hn⟩:=lR fs 0 l;rw[qbg]at e;have hd:=qal hm;refine⟨m,_,e,hm,hd,h.fv _ (qbJ hm),λq=>hn (by rw[hd,q]),?_⟩;rw[e,qbf,qaA,hd];rfl
theorem vf (h:Spl fs ts):di [.d (.tup fs),.d (.str (aE b)),.d (tsD ts)] st=some (.d (.lst ((qai (nR fs)).map λi=>D.lst (mpI ts.length (spV fs b ts i)))),st) :=by
 have o:∀ j∈bI 0 fs,lcI _ aM d7 [none,some _,some _,Z _] _ st=some (ts.map λt=>D.int (sgD (fs.getD j.toNat .non)*bJ b t j),st):=λj l=>by
  obtain⟨m,d,rfl,hm,hd,p,hn,hg⟩:=wB h l;refine v5 (g:=au) _ λt a=>?_;rw[hg];exact ai (ab U (ab U (ab U (ab U U)))) (yZ hd p hn (h.tt t a).1 (by have:=(h.tt t a).2;lia))
 have n:lcI _ aM d8 [none,some _,some _,some _] _ st=some ((bI 0 fs).map λj=>D.lst _,st):=
  v5 _ λj l=>av (aR (bA U) (by rw[qaf];have:=h.tl;lia) (o j l))
 have e:((bI 0 fs).map λj=>D.lst (ts.map λt=>D.int (sgD (fs.getD j.toNat .non)*bJ b t j)))=(qai (nR fs)).map λi=>D.lst (mpI ts.length (spV fs b ts i)):=by
  rw[i9 0 _ _];refine qbS λi _=>?_;rw[i9 [] _ ts];rfl
 rw[e]at n;exact az U (aH (av (aR (bA (ai U (xU (by have:=h.fl;lia)))) (by rw[qaf];have:=h.n;unfold nR at this;lia) n)))
theorem Al {i N:Nat} (hN:N<=100):kK [.d (.int (i)),.d (.int (N))] st=some (.d (.lst (mpI N λj=>if j=i then 1 else 0)),st) :=by
 exact az U (aH (av (aR (jP U (by lia) (by lia) (by lia)) (by unfold cG;rw [qaf,qar];lia) (gA (λj=>D.int _) λj _=>by
   have c:aF dEq (iV 0) (iV 1) [Z (.int (0+((j)))),Z (.int (i))] st=some (decide (j=i),st):=by
    have e:((0+((j)))==(i:Int))=decide (j=i):=by lia
    refine ak U U ?_;rw[cc,e]
   by_cases q:j=i
   ·rw[iFP q];rw[decide_eq_true q]at c;exact pw c U
   ·rw[iFN q];rw[decide_eq_false q]at c;exact sE c U))))
theorem Dp (r:k<=100):iz [.d (.lst (mpI k f))] st=some (.d (.lst (mpI k f++mpI k λt=>- f t)),st) :=by
 have n:lcI _ aM jm [none] (mpI k f) st=some (mpI k λt=>- f t,st):=gA _ λt _=>rfl;exact az U (aH (ae (av (U)) (av (aR (aO U) (by rw[aD];lia) n)) (fU _ (by rw[aD,aD];lia))))
end
end Own
set_option maxHeartbeats 1000000
namespace Own
open PySem L2
open Sx (Pb Tb Good Named Fe LV ZV piv lexP leastR leaveL sumN unit colV basis)
theorem Fv {α:Type} (F:Nat->α) (n l):(qai n).map F++(qai l).map (λi=>F (n+i))=(qai (n+l)).map F :=by
 apply qbq;intro i;by_cases q:i<n
 ·rw[qaC (by rw[qaf,qar];exact q),qaz,qaz,qbe q,qbe (by lia)]
 ·rw[qaK (by rw[qaf,qar];lia),qaz,qaz,qaf,qar]
  by_cases a:i<n+l
  ·rw[qbe (by lia),qbe a,qap,qap,show n+_=i by lia]
  ·rw[qaF (by rw[qar];lia),qaF (by rw[qar];lia)];rfl
theorem kO (s) (c) {n:Nat} (hn:n<1000):aZ s (.d (.tup [.int c])) (.d (.int (n)))=some (.tup (mpI n λ_=>c)) :=by
 show (if _ then some _ else none)=_;rw[iFP ⟨by simp,by show 1<=1000;decide,by lia,by lia⟩,qbf,ww]
theorem Ag (s) (c) {n:Nat} (hn:n<1000):aZ s (.d (.lst [.int c])) (.d (.int (n)))=some (.lst (mpI n λ_=>c)) :=by
 show (if _ then some _ else none)=_;rw[iFP ⟨by show 1<=1000;decide,by lia,by lia⟩,qbf,ww]
theorem DX (s) (k:Nat):aZ s (.d (.int 2)) (.d (.int (k)))=some (.int ((k+k:Nat))) :=by
 rw[bx s (eF (by decide)),show _*_=((k+k:Nat):Int) by lia]
section
variable {fs:List D}{b:Bool}{ts:List (List Int)}{N k:Nat}{V:Nat->Nat->Int}
theorem yr (hN:N<=16) (v:k<=16):lcI (.tp [0,1]) aM j0 [none,none,Z (.int (N))] ((qai N).map λi:Nat=>D.tup [.int ((i)),.lst (mpI k (V i))]) st=some ((qai N).map λi=>D.lst (mpI (k+k+N) (Sx.spR N k V i)),st) :=
 z5 (g:=λi=>(D.int _,D.lst _)) _ λi hi=>by
  have q:=qaE.mp hi;have G:mpI k _++mpI k (λt=>- - V i t)=mpI _ (Sx.spR N k V i):=oS (λt o=>by unfold Sx.spR;rw[iFP q,iFP o]) (λt o=>by unfold Sx.spR;rw[iFP q,iFN (by lia),iFP (by lia),qaL,Int.neg_neg]);have hw:=Dp (st:=st) (k:=k) (f:=λt=>- V i t) (by lia);rw[G]at hw;rw[<-(oS (λt o=>rfl) (λj a=>by unfold Sx.spR;rw[iFP q,iFN (by lia),iFN (by lia),qaL]))];exact ae (ai (ab (av (aR (aO U) (by rw[aD];lia) (gA _ λt _=>rfl))) U) hw) (ai (ab U (ab U U)) (Al (st:=st) (i:=i) (N:=N) (by lia))) (fU _ (by rw[aD,aD];lia))
theorem yJ (hN:N<=16) (v:ts.length<=16):lcI (.nm 0) aM f9 [none,Z (tsD ts),Z (.int (N))] (cG 0 N) st=some ((qai N).map λi=>D.lst (mpI (ts.length+ts.length+N) (Sx.spR N ts.length V (N+i))),st) :=
 gA _ λi hi=>by
  have m:aS st [.d (tsD ts)]=some (.int (ts.length)):=by
   show some (D.int _)=_;rw[qaf]
  rw[<-(oS (λt o=>by unfold Sx.spR;rw[iFN (by lia),iFP o]) (λj a=>by unfold Sx.spR;rw[iFN (by lia),iFN (by lia),qaL,qaL])),qbO];exact ae (ae (av (U)) (ae U (ar (ab U U) m) (DX st _)) (Ag st 0 (by lia))) (ai (ab U (ab U U)) (Al (by lia))) (fU _ (by rw[aD,aD];lia))
theorem FD (hN:N<=16) (v:k<=16) (C:∀ i t,(V i t).natAbs<=1):Inp (N+N) (k+k+N) (Sx.spR N k V) (Sx.spB N) (Sx.spG k):=by
 have one:∀ {z:Int},z.natAbs<=1->z.natAbs<=2^50:=λh=>qaD h (by decide);refine⟨by lia,by lia,λi c _ _=>one ?_,λi _=>⟨one ?_,?_⟩,λc _=>one ?_⟩
 ·unfold Sx.spR
  split
  ·split
   ·rw[qil];exact C _ _
   ·split
    ·exact C _ _
    ·split<;>decide
  ·split
   ·decide
   ·split<;>decide
 ·unfold Sx.spB;split<;>decide
 ·unfold Sx.spB;split<;>decide
 ·unfold Sx.spG;split<;>decide
structure F0 (N k:Nat) (V:Nat->Nat->Int) (p:Int) (am pr:Nat->Int):Prop where
 bal:∀ t,t<k->(sumN N λi=>V i t*pr i)=0
 val:∀ i,i<N->0<=(sumN k λt=>(am t - am (k+t))*V i t)/\((sumN k λt=>(am t - am (k+t))*V i t)=0↔pr i≠0)
 sa:∀ j,j<k+k+N->Sm (am j)/\0<=am j
 sr:∀ i,i<N->Sm (pr i)/\0<=pr i
theorem Hj (M:BG (gG (N+N) (k+k+N) (Sx.spR N k V) (Sx.spB N) (Sx.spG k)) x):∃ p am pr,F0 N k V p am pr/\x=.tup [.str "most",.int p,.tup (mpI (k+k+N) am),.tup (mpI (N+N) pr)] :=by
 have y:∀ {r j:Nat},r<N+N->j<k+k+N->(gG _ _ _ (Sx.spB N) (Sx.spG k)).A j r=Sx.spR N k V r j:=λl a=>by
  show (if _<k+k+N then _ else _)=_;rw[iFP a,iFP l]
 have B:∀ {r:Nat},r<N+N->(gG _ (k+k+N) (Sx.spR N k V) _ (Sx.spG k)).b r=Sx.spB N r:=λl=>iFP l;have pg:∀ {j:Nat},j<k+k+N->(gG (N+N) _ (Sx.spR N k V) (Sx.spB N) _).g j=Sx.spG k j:=λa=>iFP a;cases M with
 |beyond s M=>
  exfalso
  refine Sx.split_most (V:=V) M.w0 (λr l=>?_) ?_
  ·have:=M.rows r l
   rw[Sx.sumN_congr (g:=λj=>s j*(gG _ _ _ _ _).A j r) λj a=>by rw[y l a]];exact this
  ·have:=M.gain
   rw[Sx.sumN_congr (g:=λj=>s j*(gG _ _ _ _ _).g j) λj a=>by rw[pg a]];exact this
 |most p am pr M=>
  have c:=Sx.split_core M.p1 M.am0 M.pr0 (λr l=>by
   have:=M.rows r l
   rw[B l]at this;rw[Sx.sumN_congr (g:=λj=>am j*(gG _ _ _ _ _).A j r) λj a=>by rw[y l a]];exact this) (λj a=>by
   have:=M.cols j a
   rw[pg a]at this;rw[Sx.sumN_congr (g:=λr=>(gG _ _ _ _ _).A j r*pr r) λr l=>by rw[y l a]];exact this) (by
   have:=M.same
   rw[Sx.sumN_congr (g:=λr=>(gG _ _ _ _ _).b r*pr r) λr l=>by rw[B l],Sx.sumN_congr (n:=k+k+N) (g:=λj=>am j*(gG _ _ _ _ _).g j) λj a=>by rw[pg a]]
   exact this)
  exact⟨p,am,pr,⟨c.1,c.2,λj a=>⟨M.sa j a,M.am0 j a⟩,λi hi=>⟨M.sr i (show i<N+N by lia),M.pr0 i (show i<N+N by lia)⟩⟩,U⟩
theorem FC (i t):(spV fs b ts i t).natAbs<=1 :=by
 unfold spV;rw[qc2];have H:(sgD (fs.getD (kY fs i).toNat .non)).natAbs<=1:=by rcases Hh with h|h<;>rw[h]<;>decide
 have I:(bJ b (ts.getD t []) (kY fs i)).natAbs<=1:=by
  unfold bJ;split<;>split<;>decide
 exact qaD (qc0 H I) (by decide)
theorem GE (h:Spl fs ts) (hN:0<nR fs):∃ p am pr,F0 (nR fs) ts.length (spV fs b ts) p am pr/\∀ (st) (E),∃ u,
  ag (aA (.nm 6) (aq (iLc 1 [2,4] (bH (aa (iV 4) ac)) (.nm 0) aM f9))) (aA (.nm 7) (ax i4 (aa (iCB ft (aa (aq (iLc 1 [] (aC (iOp a9 (iV 5) (iV 6))) (.nm 0) aM f8)) ac)) (aa (iOp a9 (iOp aZ (a5 (aa (iC (.int 0)) ac)) (iV 4)) (iOp aZ (a5 (aa (iC (.int 1)) ac)) (iV 4))) (aa (iOp a9 (iOp aZ (a5 (aa (iC (.int 0)) ac)) (iOp aZ (iC (.int 2)) (iCB aS (aa (iV 2) ac)))) (iOp aZ (a5 (aa (iC (.int 1)) ac)) (iV 4))) ac)))))
   [Z (.tup fs),Z (.str (aE b)),Z (tsD ts),Z (.lst ((qai (nR fs)).map λi=>D.lst (mpI ts.length (spV fs b ts i)))),Z (.int (nR fs)),Z (.lst ((qai (nR fs)).map λi=>D.lst (mpI (ts.length+ts.length+nR fs) (Sx.spR (nR fs) ts.length (spV fs b ts) i)))),none,E] st
   = some (.nx [Z (.tup fs),Z (.str (aE b)),Z (tsD ts),Z (.lst ((qai (nR fs)).map λi=>D.lst (mpI ts.length (spV fs b ts i)))),Z (.int (nR fs)),Z (.lst ((qai (nR fs)).map λi=>D.lst (mpI (ts.length+ts.length+nR fs) (Sx.spR (nR fs) ts.length (spV fs b ts) i)))),Z (.lst ((qai (nR fs)).map λi=>D.lst (mpI (ts.length+ts.length+nR fs) (Sx.spR (nR fs) ts.length (spV fs b ts) (nR fs+i))))),Z (.tup [.str "most",.int p,.tup (mpI (ts.length+ts.length+nR fs) am),.tup (mpI (nR fs+nR fs) pr)])] (st++u)) :=by
 have hn:=h.n;have v:=h.tl;obtain⟨x,M,_,hx⟩:=Co (FD hn v FC);obtain⟨p,am,pr,w,rfl⟩:=Hj M;refine⟨p,am,pr,w,λst E=>?_⟩;obtain⟨u,e⟩:=hx st;refine⟨u,?_⟩;have m:aS st [.d (tsD ts)]=some (.int (ts.length)):=by
  show some (D.int _)=_;rw[qaf]
 have J:=yJ (st:=st) (V:=spV fs b ts) hn v;have hb:mpI _ _++mpI (nR fs) _=mpI _ (Sx.spB (nR fs)):=oS (λi hi=>by unfold Sx.spB;rw[iFP hi]) (λi hi=>by unfold Sx.spB;rw[iFN (by lia)]);have hg:mpI _ _++mpI (nR fs) _=mpI _ (Sx.spG ts.length):=oS (λi hi=>by unfold Sx.spG;rw[iFP hi]) (λi hi=>by unfold Sx.spG;rw[iFN (by lia)]);have l:=Fv (λr=>D.lst (mpI (ts.length+ts.length+nR fs) (Sx.spR (nR fs) ts.length (spV fs b ts) r))) (nR fs) (nR fs);have o:lcI _ aM f8 [none] _ st=some ((qai (nR fs+nR fs)).map λr=>D.tup _,st):=
  gA (g:=λr=>D.lst (mpI (ts.length+ts.length+nR fs) (Sx.spR (nR fs) ts.length (spV fs b ts) r))) _ λr _=>rfl
 generalize nR fs=N at *;generalize ts.length=k at *;generalize spV fs b ts=V at *;generalize ((qai N).map λi=>D.lst (mpI _ (Sx.spR N k V i)))=L5 at *;generalize ((qai N).map λi=>D.lst _)=L6 at *;have F:L5.length+L6.length<=1000000:=by
  have:=congrArg qeU l
  rw[qau,qaf,qar]at this;lia
 refine ah (aj (av (aR (jP U (by lia) (by lia) (by lia)) (by unfold cG;rw[qaf,qar];lia) J))) (aj (ai (ab (ar (ab (av (aR (aO (ae U U (fU _ F))) (by rw[qau];exact F) ?_)) U) U) (ab (ae (ae U U (kO st 0 (by lia))) (ae U U (kO st 1 (by lia))) ((qU _ (by rw[aD,aD];lia)).trans (by rw[hb]))) (ab (ae (ae U (ae U (ar (ab U U) m) (DX st _)) (kO st 0 (by lia))) (ae U U (kO st 1 (by lia))) ((qU _ (by rw[aD,aD];lia)).trans (by rw[hg]))) U))) e));rw[l];exact o
end
end Own
set_option maxHeartbeats 1000000
namespace Own
open PySem L2
open Sx (Pb Tb Good Named Fe LV ZV piv lexP leastR leaveL sumN unit colV basis)
theorem HV (h:∀ x∈ns,x=0):c8 0 ns=0 :=by
 have c:=λx hx=>qcL.mpr ((c9 0 ns).2 x hx)
 induction ns with
 |nil=>rfl
 |cons x ns b=>
  have hx:=h x qag;subst hx;exact b (λy a=>h y (qah _ a)) (λy a=>qcL.mpr ((c9 0 ns).2 y a))
theorem Cn (k:∀ i,i<n->Sm (f i)) (hn:n<=1000):∃ (q:Int) (g:Nat->Int),0<q/\(∀ i,i<n->f i=q*g i)/\∀ st,cQ [.d (.tup (mpI n f))] st=some (.d (.tup (mpI n g)),st) :=by
 have hb:∀ x∈(qai n).map f,Sm x:=λx hx=>by
  obtain⟨i,hi,rfl⟩:=qaI.mp hx;exact k i (qaE.mp hi)
 have b:=λst=>xi (st:=st) (λ_ _=>by rw[<-bP];exact bA U) hb;by_cases hz:∀ x∈(qai n).map f,x=0
 ·refine⟨1,f,by decide,λi _=>(qc7 _).symm,λst=>?_⟩
  have e:=b st;rw[HV hz]at e;exact az U (ah (aj (ai U e)) (eK (de U U)))
 ·obtain⟨x,hx,j⟩:∃ x∈(qai n).map f,x≠0:=by
   by_cases q:∃ x∈(qai n).map f,x≠0
   ·exact q
   ·exact absurd (λx hx=>qdJ λh=>q ⟨x,hx,h⟩) hz
  obtain⟨c,m⟩:=lw hx j (hb x hx);have gd:∀ i,i<n->_∣f i:=λi hi=>qcL.mpr ((c9 0 _).2 _ (qaI.mpr ⟨i,qaE.mpr hi,U⟩));generalize ((c8 0 _):Int)=q at *;refine⟨q,_,c,λi hi=>(qdI (gd i hi)).symm,λst=>?_⟩;have l:(q==(0))=false:=by lia
  have a:=rG (st:=st) (ns:=(qai n).map f) c m U;rw[<-bP,qaQ,qaQ]at a;have o:(mpI n f).length<=1000000:=by rw[aD];lia
  exact az U (ah (aj (ai U (b st))) (ah (bE (ak U U (by rw[cc,l])) U) (aH (ar (ab (av (aR (bA U) o a)) U) U))))
def rN (fs:List D) (i:Nat):Nat:=(kY fs i).toNat
section
variable {fs:List D}{b:Bool}{ts:List (List Int)}
theorem xT:∀ (r) (i),(bI i r).Nodup
 |[],_=>qcX
 |d::r,i=>by
  have B:=xT r (i+1);have u:∀ j∈bI _ r,(i)≠j:=λj t=>by
   obtain⟨m,e,_,_⟩:=lR r (i+1) t;lia
  cases d<;>first|exact B|exact (qb0.mpr ⟨λhm=>u _ hm U,B⟩)
theorem A8 (hi:i<nR fs):kY fs i∈bI 0 fs :=by
 unfold kY;rw[qaA,qal hi];exact qbJ hi
theorem qO (h:Spl fs ts) (hi:i<nR fs):kY fs i=(rN fs i)/\rN fs i<fs.length :=by
 obtain⟨m,d,e,hm,_⟩:=wB h (A8 hi);unfold rN;rw[e];exact⟨U,hm⟩
theorem wA (h:Spl fs ts) (hi:i<nR fs) (t:j<nR fs) (e:rN fs i=rN fs j):i=j :=by
 have p:kY fs i=kY fs j:=by rw[(qO h hi).1,(qO h t).1,e]
 unfold kY at p;rw[qaA,qaA,qal hi,qal t]at p;exact (qdD (xT fs 0)).mp p
theorem Bw (h:Spl fs ts) (hm:m=nR fs\/m=0):dw [.d (.tup fs),.d (.tup (mpI m y))] st=some (.d (.tup (mpI fs.length λr=>acc (rN fs) y m r)),st) :=by
 have E:=h.fl;have hz:∀ (w c f:Option W) (s:Sto),bW [.d (.tup fs)] s=some (.d (.tup _),s)->cx (aa (ax bW (aa (iV 0) ac)) (aa (iV 1) ac)) [Z (.tup fs),Z (.tup (mpI m y)),w,c,f] s=some ((qai m).map λi=>D.tup [.int _,.int (y i)],s):=λw c f s F=>by
  have p:cH ((bI 0 fs).map D.int) (mpI m y)=(qai m).map λi=>D.tup [.int ((rN fs i):Int),.int (y i)]:=by
   apply qbq;intro i;rw[fR,qaz,qaz];by_cases hi:i<m
   ·rw[bi hi,qbe hi]
    have q:i<(bI 0 fs).length:=by have:nR fs=(bI 0 fs).length:=rfl;lia
    have e:=(qO h (show i<nR fs by lia)).1;unfold kY at e;rw[qaA,qal q]at e;rw[qal q,qap,qap,<-e];rfl
   ·rw[qaF (l:=mpI m y) (by rw[aD];lia),qaF (l:=qai m) (by rw[qar];lia)]
    cases (bI 0 fs)[i]?<;>rfl
  rw[<-p]
  have:=ab (ai (a:=aa (iV 0) ac) (env:=[some _,Z (.tup (mpI m y)),w,c,f]) U F) (ab (a:=iV 1) (b:=ac) U U)
  simp only[cx,this,qab];rfl
 obtain⟨A,G,z,⟨c,f,rfl⟩,rfl⟩:=bO (g:=.tp [3,4]) (ds:=(qai m).map λi=>D.tup [.int _,.int (y i)])
  (λi env s=>(∃ c f,env=[Z (.tup fs),Z (.tup (mpI m y)),some (.h st.length),c,f])/\s=st++[.l (mpI fs.length λr=>acc (rN fs) y i (0+r))])
  ⟨⟨_,_,U⟩,U⟩ (λi d env s hd ⟨⟨c,f,e⟩,es⟩=>by
   subst e es;obtain⟨hi,rfl⟩:=jN hd;refine⟨_,_,_,U,.inl ?_,⟨some (.d (.int ((rN fs i:Nat):Int))),Z (.int (y i)),U⟩,U⟩
   have:=sIx (k:=rN fs i) (env:=[Z (.tup fs),Z (.tup (mpI m y)),some (.h st.length),Z (.int ((rN fs i:Nat):Int)),Z (.int (y i))]) (v:=iV 4) (d:=.int (y i)) (st:=st) (xs:=mpI fs.length λr=>acc (rN fs) y i (0+r)) U (o:=iV 2) (i:=iV 3) U U (by rw[aD];exact ((qO h (show i<nR fs by lia)).2))
   rw[<-qT (by lia) λj t e=>by have:=wA h (show j<nR fs by lia) (show i<nR fs by lia) e;lia]
   exact this)
 rw[qaf,qar]at z;have x:=xU (st:=st++[.l (mpI fs.length λr=>acc (rN fs) y 0 (0+r))]) (fs:=fs) (by lia);have C:iCB ft (aa (iV 2) ac) [Z (.tup fs),Z (.tup (mpI m y)),some (.h st.length),c,f] (st++[.l (mpI fs.length λr=>acc (rN fs) y m (0+r))])=some (.d (.tup (mpI fs.length λr=>acc (rN fs) y m (0+r))),st++[.l (mpI fs.length λr=>acc (rN fs) y m (0+r))]):=by
  refine ar (ab U U) ?_;show (lg (st++[.l (mpI fs.length λr=>acc (rN fs) y m (0+r))]) st.length).map _=_;rw[(cm st (mpI fs.length λr=>acc (rN fs) y m (0+r)))];rfl
 have:=cB (n:=5) (b:=jY) (ws:=[.d _,.d _]) U (ah (aj (i6 (ar (ab U U) U) (by lia) _ y 0)) (ah (a6 (hz _ _ _ _ x) z) (aH C)))
 rw[qch]at this;simp only[qbg]at this;exact this
end
end Own
set_option maxHeartbeats 1000000
namespace Own
open PySem L2
open Sx (Pb Tb Good Named Fe LV ZV piv lexP leastR leaveL sumN unit colV basis)
theorem sV (k) (d) (r) (t):vM ((k,d)::r) t=if k=t then some d else vM r t :=by
 unfold vM;by_cases e:k=t
 ·rw[qes (by simpa using e),iFP e];rfl
 ·rw[qet (by simpa using e),iFN e]
theorem BK (a:List (List Int×D)) (k):(a.any λp=>decide (p.1=k))=decide (k∈a.map qb3) :=by
 induction a with
 |nil=>rfl
 |cons p r b=>
  rw[qcg,b];by_cases e:p.1=k
  ·simp[e]
  ·have:¬ k=p.1:=λz=>e z.symm
   simp[e,this]
theorem Bt (k:List Int) (d:D) (j:List Int):∀ a:List (List Int×D),k∉a.map qb3->vM (a++[(k,d)]) j=if j=k then some d else vM a j
 |[],_=>by
  show vM [(k,d)] j=_;rw[sV];by_cases e:k=j
  ·rw[iFP e,iFP e.symm]
  ·rw[iFN e,iFN (λz=>e z.symm)]
 |(c,f)::r,h=>by
  rw[qat,qav,not_or]at h;rw[qdE,sV,sV,Bt k d j r h.2];by_cases b:c=j
  ·rw[iFP b,iFP b,iFN (λz=>h.1 (z.symm.trans b.symm))]
  ·rw[iFN b,iFN b]
theorem BW (s) (a):dNe s (.d (.int a)) (.d (.int 0))=some (.bl (decide (a≠0))) :=by
 show some (D.bl (!(a==0)))=_;by_cases h:a=0<;>simp[h]
noncomputable def aT (a:List (List Int)) (X:List Int->Int):List Prt:=(a.filter λt=>decide (X t≠0)).map λt=>(t,X t)
theorem zI (hm:mgt st n=some a) (j:a.length<64) (p:∀ t∈a.map qb3,vM a t=some (.int (X t))) :
  iA [.d (.str kd),.h n] st=some (.d (bG kd (aT (aB (a.map qb3)) X)),st) :=by
 have o:(aB (a.map qb3)).length<=64:=by rw[(aG _).length_eq,qaf];lia
 have c:∀ t∈aB _,yA (iV 1) (iV 0) [Z (au t),some (.h n)] st=some (.d (.int (X t)),st):=λt b=>by
  have m:=(λt b=>p t ((aG _).mem_iff.mp b)) t b;simp only[yA,iV,au,qbv,qbT,qap,qab,hm,(bm t),m]
 have i:=kI (g:=.nm 0) (tt:=jt) (te:=jn) (env:=[none,some _]) (λd=>match d with|.tup ds=>(match a7 ds with|some t=>decide (X t≠0)|none=>false)|_=>false) (λd=>match d with|.tup ds=>(match a7 ds with|some t=>bX (t,X t)|none=>d)|d=>d) (ds:=(aB _).map au) λd hd=>by
  obtain⟨t,b,rfl⟩:=qaI.mp hd;have f:=bm t;refine⟨_,U,?_,λ_=>?_⟩
  ·show _=some ((match a7 _ with|some t=>decide _|none=>false),st)
   rw[f];exact ak (c t b) U (BW _ _)
  ·show _=some (W.d (match a7 _ with|some t=>bX (t,X t)|none=>au t),st)
   rw[f];exact ci (ab U (ab (c t b) U)) U (by show 2<=1000;decide)
 have e:((((aB (a.map qb3)).map au).filter (λd=>match d with|.tup ds=>(match a7 ds with|some t=>decide (X t≠0)|none=>false)|_=>false)).map (λd=>match d with|.tup ds=>(match a7 ds with|some t=>bX (t,X t)|none=>d)|d=>d))=(aT (aB (a.map qb3)) X).map bX:=by
  unfold aT;rw[qhW,qaQ,qaQ];have f:=bm
  congr 1
  ·funext t
   show (match a7 _ with|some t=>bX (t,X t)|none=>au t)=bX (t,X t)
   rw[f]
  ·refine qeg λt _=>?_
   show (match a7 _ with|some t=>decide _|none=>false)=_
   rw[f]
 rw[e]at i;have l:lx (iV 1) [Z (.str kd),some (.h n)] st=some ((aB (a.map qb3)).map au,st):=by
  simp only[lx,iV,qbv,qbT,qap,qab,hm,j,if_true]
 have k:aC (aq (lx (iV 1))) [Z (.str kd),some (.h n)] st=some ((aB (a.map qb3)).map au,st):=by
  simp only[aC,aq,l,qap,qab]
 have hz:((aB (a.map qb3)).map au).length<=1000000:=by rw[qaf];lia
 exact az U (aH (ci (ab U (ab (ar (ab (av (aR k hz i)) U) U) U)) U (by show 2<=1000;decide)))
theorem uJ (st:Sto) (a):mgt (st++[.m a]) st.length=some a :=by
 unfold mgt;rw[qaK (qan _),qd4];rfl
theorem v7 {α:Type}{l:Ev}{g:α->D×D} (F):∀ {a:List α},(∀ k∈a,te (Z (g k).1::some (.d (g k).2)::l) st=some (.d (F k),st))->
  lcI (.tp [0,1]) aM te (none::none::l) (a.map λk=>D.tup [(g k).1,(g k).2]) st=some (a.map F,st)
 |[],_=>rfl
 |k::a,h=>by
  rw[qat];unfold lcI;rw[show cD _ _ _=some (some _::some _::l) from U,qab,show aM _ st=some (true,st) from U,qab,(h k qag),qab,(v7 F λx hx=>h x (qah _ hx))];rfl
end Own
set_option maxHeartbeats 1000000
namespace Own
open PySem L2
open Sx (Pb Tb Good Named Fe LV ZV piv lexP leastR leaveL sumN unit colV basis)
noncomputable def dvP (g:Int) (p:Prt):Prt:=(p.1,p.2 / g)
theorem yR (c:ps.length<=1000) (hg:∀ p∈ps,0<g/\Sm g):oO [.d (bG kd ps),.d (.int g)] st=some (.d (bG kd (ps.map (dvP g))),st) :=by
 have a:lcI (.tp [0,1]) aM nF [none,none,Z (.int g)] (ps.map bX) st=some ((ps.map (dvP g)).map bX,st):=by
  rw[qaQ];exact v7 (g:=λp:Prt=>(au p.1,D.int p.2)) _ λp b=>ci (ab U (ab (ae U U (rE st (hg p b).1 (hg p b).2)) U)) U (by show 2<=1000;decide)
 have hz:(ps.map bX).length<=1000000:=by rw[qaf];lia
 exact az U (aH (ci (ab (ae U U (jg _ _ _)) (ab (ar (ab (av (aR (bA (ae U U (io _ _ _))) hz a)) U) U) U)) U (by show 2<=1000;decide)))
theorem yY (c:ps.length<=1000) (hn:∀ p∈ps,p.2≠0/\Sm p.2):oP [.d (bG kd ps)] st=some (.d (bG kd (ps.map (dvP ((c8 0 (ps.map qfM)))))),st) :=by
 have b:lcI (.tp [0,1]) aM nG [none,none] (ps.map bX) st=some ((ps.map qfM).map D.int,st):=by
  rw[qaQ];exact v7 (g:=λp:Prt=>(au p.1,D.int p.2)) _ λp a=>rfl
 have hz:(ps.map bX).length<=1000000:=by rw[qaf];lia
 exact az U (aH (ai (ab U (ab (ai (ab (av (aR (bA (ae U U (io _ _ _))) hz b)) U) (nM (st:=st) λn hm=>by
  obtain⟨p,a,rfl⟩:=qaI.mp hm
  exact (hn p a).2)) U)) (yR (st:=st) (kd:=kd) c λp a=>lw (qdP a) (hn p a).1 (hn p a).2)))
theorem Cv (hd:∀ t∈a,g∣X t):(aT a X).map (dvP g)=aT a λt=>X t / g :=by
 unfold aT;rw[qaQ]
 have:(a.filter λt=>decide (X t≠0))=a.filter λt=>decide (X t / g≠0):=qeg λt b=>by
  apply decide_eq_decide.mpr;refine not_congr ⟨λh=>by rw[h,Int.zero_ediv],λh=>by rw[<-(qdI (hd t b)),h,qa9]⟩
 rw[this];rfl
noncomputable def pkv (ts:List (List Int)) (x:Nat->Int) (i:Nat):List (List Int×D):=(qai i).map λj=>(ts.getD j [],.int (x j))
section
variable {ts:List (List Int)}{x:Nat->Int}
theorem ud (hn:ts.Nodup) (hi:i<ts.length) (f:j<ts.length) (e:ts.getD i []=ts.getD j []):i=j :=by
 rw[qaA,qaA,qal hi,qal f]at e;exact (qdD hn).mp e
theorem xI (i):(pkv ts x i).map qb3=(qai i).map λj=>ts.getD j [] :=by unfold pkv;rw[qaQ];rfl
theorem xH:(pkv ts x ts.length).map qb3=ts:=by
 have:=i9 [] id ts
 rw[qg7]at this;rw[xI];exact this.symm
theorem AC (hn:ts.Nodup) (hi:i<ts.length):ts.getD i []∉(pkv ts x i).map qb3 :=λh=>by
 rw[xI]at h;obtain⟨j,f,e⟩:=qaI.mp h;have J:=qaE.mp f
 have:=ud hn (show j<ts.length by lia) hi e
 lia
theorem uY (i):pkv ts x (i+1)=pkv ts x i++[(ts.getD i [],.int (x i))] :=by unfold pkv;rw[qdN,qbI];rfl
theorem CN (hn:ts.Nodup) (hi:i<ts.length):AO (pkv ts x i) (ts.getD i []) (.int (x i))=pkv ts x (i+1) :=by
 rw[uY];unfold AO;rw[BK,iFN (by rw[decide_eq_true_iff];exact (AC hn hi))]
theorem AD (hn:ts.Nodup):∀ {i j},i<=ts.length->j<i->vM (pkv ts x i) (ts.getD j [])=some (.int (x j))
 |0,_,_,f=>absurd f (qca _)
 |i+1,j,hi,f=>by
  rw[uY,Bt _ _ _ _ (AC hn (by lia))];by_cases e:j=i
  ·subst e;rw[iFP U]
  ·rw[iFN (λq=>e (ud hn (by lia) (by lia) q)),AD hn (by lia) (by lia)]
def iF (ts:List (List Int)) (x:Nat->Int) (t:List Int):Int:=match vM (pkv ts x ts.length) t with|some (.int z)=>z|_=>0
theorem Cw (hn:ts.Nodup) (f:j<ts.length):iF ts x (ts.getD j [])=x j :=by
 unfold iF;rw[AD hn (qan _) f]
theorem kN (h:t∈ts):∃ j,j<ts.length/\ts.getD j []=t :=by
 obtain⟨j,f,e⟩:=qcv.mp h;exact⟨j,f,by rw[qaA,qal f];exact e⟩
theorem GS {st:Sto}(hn:ts.Nodup) (L:ts.length<=16) (hm:ts.length+ts.length<=m) (hi:i<ts.length) :
  iw [a0,Z (tsD ts),Z (.tup (mpI m am)),some (.h st.length),Z (.int (i)),Z (au (ts.getD i []))] (st++[.m (pkv ts (λj=>am j - am (ts.length+j)) i)])
  = some (.nx [a0,Z (tsD ts),Z (.tup (mpI m am)),some (.h st.length),Z (.int (i)),Z (au (ts.getD i []))] (st++[.m (pkv ts (λj=>am j - am (ts.length+j)) (i+1))])) :=by
 have w:=uJ st (pkv ts (λj=>am j - am (ts.length+j)) i);have V:=CN (x:=λj=>am j - am (ts.length+j)) hn hi;have R:=iL st (.m (pkv ts (λj=>am j - am (ts.length+j)) i)) (.m (pkv ts (λj=>am j - am (ts.length+j)) (i+1)));have P:(pkv ts (λj=>am j - am (ts.length+j)) i).length<1000:=by unfold pkv;rw[qaf,qar];lia
 have u:∀ s ,aS s [.d (tsD ts)]=some _:=λs=>by
  show some (D.int _)=_;rw[qaf]
 have O:∀ s ,dIx s (.d (.tup (mpI m am))) (.d (.int (i)))=some _:=λs=>cT (bi (by lia));have N:∀ s ,dIx s (.d (.tup (mpI m am))) (.d (.int ((ts.length)+(i))))=some _:=λs=>by
  exact cT (bi (by lia))
 generalize pkv ts _ i=K at *;generalize ts.getD i []=t at *;have H:=ae (g:=eW) (env:=[a0,some _,some _,some (.h st.length),some _,Z (au t)]) (st:=st++[.m K]) (ae (a:=iV 2) (b:=iV 4) U U (O _)) (ae (a:=iV 2) (b:=iOp a9 (iCB aS (aa (iV 1) ac)) (iV 4)) U (ae (ar (ab U U) (u _)) U U) (N _)) U;simp only[au]at H ⊢;simp only[iw,xk,H,iV,qbv,qbT,qap,qab,(bm _),w,P,if_true,V,R]
theorem E8 (hn:ts.Nodup) (L:ts.length<=16) (hm:ts.length+ts.length<=m) (F:∀ j,j<ts.length+ts.length->Sm (am j)/\0<=am j) :
  ∃ (q:Int) (X:List Int->Int),0<q/\(∀ j,j<ts.length->am j - am (ts.length+j)=q*X (ts.getD j []))/\∀ st,i5 [.d (.str (aE b)),.d (tsD ts),.d (.tup (mpI m am))] st=some (.d (bG (aE b) (aT (aB ts) X)),st) :=by
 have y:∀ j,j<ts.length->iF ts (λj=>am j - am _) (ts.getD j [])=am j - am (ts.length+j):=λj f=>Cw hn f;have o:∀ p∈aT (aB ts) (iF ts λj=>am j - am (ts.length+j)),p.2≠0/\Sm p.2:=λp v=>by
  obtain⟨t,r,rfl⟩:=qaI.mp v;obtain⟨J,S⟩:=qbm.mp r;refine⟨of_decide_eq_true S,?_⟩;obtain⟨j,f,rfl⟩:=kN ((aG _).mem_iff.mp J);rw[y j f];have a:=F j (by lia);have c:=F (ts.length+j) (by lia);unfold Sm at *;lia
 have E:(aT (aB ts) (iF ts λj=>am j - am (ts.length+j))).length<=1000:=by
  unfold aT;rw[qaf]
  have:=qbV (λt=>decide (iF ts (λj=>am j - am (ts.length+j)) t≠0)) (aB ts)
  rw[(aG _).length_eq]at this;lia
 have l:∀ st:Sto,i5 [.d (.str (aE b)),.d (tsD ts),.d (.tup (mpI m am))] st=some (.d (bG (aE b) ((aT (aB ts) (iF ts λj=>am j - am (ts.length+j))).map (dvP ((c8 0 ((aT (aB ts) (iF ts λj=>am j - am (ts.length+j))).map qfM):Nat):Int)))),st):=λst=>by
  have G:=zI (st:=st++[.m (pkv ts _ ts.length)]) (kd:=aE b) (X:=iF ts λj=>am j - am (ts.length+j)) (uJ st _) (by unfold pkv;rw [qaf,qar];lia) (λt r=>by
   rw[xH]at r;obtain⟨j,f,rfl⟩:=kN r;rw[y j f]
   exact AD hn (qan _) f)
  rw[xH]at G;have C:=yY (st:=st++[.m (pkv ts (λj=>am j - am (ts.length+j)) ts.length)]) (kd:=aE b) E o;obtain⟨I,Y,w,⟨A,B,rfl⟩,rfl⟩:=bO (g:=.tp [4,5]) (ds:=(qai ts.length).map λi:Nat=>D.tup [.int _,au (ts.getD i [])])
   (λi env s=>(∃ A B,env=[some _,Z (tsD ts),some _,some (.h st.length),A,B])/\s=st++[.m (pkv ts (λj=>am j - am (ts.length+j)) i)])
   (env:=[Z (.str (aE b)),Z (tsD ts),Z (.tup (mpI m am)),some (.h st.length),none,none]) ⟨⟨_,_,U⟩,U⟩ (λi d env s hd ⟨⟨A,B,e⟩,es⟩=>by
    subst e es;obtain⟨hi,rfl⟩:=jN hd
    exact⟨_,_,_,U,.inl (GS hn L hm hi),⟨_,_,U⟩,U⟩)
  rw[qaf,qar]at w;have T:bL (aa (iV 1) ac) [Z (.str (aE b)),Z (tsD ts),Z (.tup (mpI m am)),some (.h st.length),none,none] (st++[.m []])=some ((qai ts.length).map λi:Nat=>D.tup [.int ((i:Nat):Int),au (ts.getD i [])],st++[.m []]):=by
   rw[<-xf _,<-i9 [] au ts];rfl
  generalize aT (aB ts) (iF ts λj=>am j - am (ts.length+j))=ps at *;generalize pkv ts (λj=>am j - am (ts.length+j)) ts.length=K at *
  have:=cB (n:=6) (k:=3) (b:=qr) (ws:=[.d (.str (aE b)),.d (tsD ts),.d (.tup (mpI m am))]) (st:=st) U (ah U (ah (a6 T w) (aH (ai (ab (ai U G) U) C))))
  rw[qch]at this;exact this
 by_cases M:aT (aB ts) (iF ts λj=>am j - am (ts.length+j))=[]
 ·refine⟨1,iF ts λj=>am j - am (ts.length+j),by decide,λj f=>by rw[y j f,qc7],λst=>?_⟩
  rw[l st,M];rfl
 ·obtain⟨p,v⟩:=List.exists_mem_of_ne_nil _ M
  have Q:=(lw (qdP v) (o p v).1 (o p v).2).1;have hd:∀ t∈aB ts,((c8 0 ((aT (aB ts) _).map qfM):Nat):Int)∣iF ts _ t:=λt r=>by
   by_cases z:iF ts (λj=>am j - am (ts.length+j)) t=0
   ·rw[z];exact Int.dvd_zero _
   ·refine qcL.mpr ((c9 0 _).2 _ (qaI.mpr ⟨(t,iF ts _ t),?_,U⟩))
    exact qaI.mpr ⟨t,qbm.mpr ⟨r,decide_eq_true z⟩,U⟩
  generalize ((c8 0 ((aT (aB ts) (iF ts λj=>am j - am (ts.length+j))).map qfM):Nat):Int)=q at *;refine⟨q,λt=>iF ts (λj=>am j - am (ts.length+j)) t / q,Q,λj f=>?_,λst=>by rw[l st,(Cv hd)]⟩
  have:=hd (ts.getD j []) ((aG _).mem_iff.mpr (by rw[qaA,qal f];exact qbJ f))
  rw[qdI this,y j f]
end
end Own
set_option maxHeartbeats 1000000
namespace Own
open PySem L2
open Sx (Pb Tb Good Named Fe LV ZV piv lexP leastR leaveL sumN unit colV basis)
theorem HL (ds) (k:Nat):fZ ds none (some (k))=ds.take k :=by
 unfold fZ;rw[HT.sIx_nat,HT.sIx_none,qgf,qgV];rcases qjy k ds.length with h|h
 ·rw[qf5 h]
 ·rw[qfN h,qdA,qcH h]
theorem Cp (h:k<=n):(mpI n f).take k=mpI k f :=by
 apply qbq;intro i;by_cases hi:i<k
 ·rw[qef hi,bi (by lia),bi hi]
 ·rw[qaF (by rw[qdB];lia),qaF (by rw[aD];lia)]
theorem G3 (h:ag a b env st=some (.nx e s)) (d:c e s=r):ag a (ag b c) env st=r :=by
 simp only[ag]at h ⊢;cases ha:a env st with
 |none=>rw[ha]at h;cases h
 |some x=>
  rw[ha,qab]at h;rw[qab];cases x with
  |nx f s1=>simp only at h ⊢;rw[h];exact d
  |_=>cases h
theorem zi (hi:i<m) (h:∀ j,j<m->e j=e i->j=i):acc e y m (e i)=y i :=by
 unfold acc;rw[Sx.sumN_single hi λj a q=>iFN λz=>q (h j a z),iFP U]
structure mq (fs:List D) (b:Bool) (ts:List (List Int)) (X:List Int->Int) (w:Nat->Int):Prop where
 bal:∀ t,t<ts.length->(sumN (nR fs) λi=>spV fs b ts i t*w (rN fs i))=0
 val:∀ i,i<nR fs->0<=(sumN ts.length λt=>X (ts.getD t [])*spV fs b ts i t)/\((sumN ts.length λt=>X (ts.getD t [])*spV fs b ts i t)=0↔w (rN fs i)≠0)
 w0:∀ r,r<fs.length->0<=w r/\Sm (w r)
 wn:∀ r,r<fs.length->fs.getD r .non=.non->w r=0
 sX:∀ t∈ts,Sm (X t)
theorem DS (a:0<q) (e:x=q*y) (h:Sm x):Sm y :=by
 refine qbD ?_ h;rw[e,qc2];exact Nat.le_mul_of_pos_left _ (by lia)
section
variable {fs:List D}{b:Bool}{ts:List (List Int)}
theorem FE (h:Spl fs ts) (e:fs.getD r .non=.non) (hi:i<nR fs):rN fs i≠r :=λz=>by
 obtain⟨m,d,e1,_,_,_,hn,hg⟩:=wB h (A8 hi);unfold rN at z;rw[z]at hg;exact hn (hg.symm.trans e)
theorem D5 (h:Spl fs ts) (hy:∀ i,i<nR fs->Sm (y i)/\0<=y i) (r):Sm (acc (rN fs) y (nR fs) r)/\0<=acc (rN fs) y (nR fs) r :=by
 by_cases q:∃ i,i<nR fs/\rN fs i=r
 ·obtain⟨i,hi,rfl⟩:=q
  rw[zi hi λj l z=>wA h l hi z];exact hy i hi
 ·rw[mX λj l z=>q ⟨j,l,z⟩]
  exact⟨qeJ _,qck _⟩
theorem Bf (h:Spl fs ts):∃ X w,mq fs b ts X w/\∀ st,∃ u,jK [.d (.tup fs),.d (.str (aE b)),.d (tsD ts)] st=some (.d (.tup [bG (aE b) (aT (aB ts) X),.tup (mpI fs.length w)]),st++u) :=by
 have x:∀ s:Sto,aS s [.d (.lst ((qai (nR fs)).map λi=>D.lst (mpI ts.length (spV fs b ts i))))]=some (.int (nR fs:Int)):=λs=>by
  show some (D.int (((qai (nR fs)).map λi=>D.lst (mpI ts.length (spV fs b ts i))).length:Nat))=_;rw[qaf,qar]
 by_cases hN:nR fs=0
 ·refine⟨λ_=>0,λr=>acc (rN fs) (λ_=>0) 0 r,⟨λt _=>?_,λi hi=>absurd hi (by lia),λr _=>⟨qck _,qeJ _⟩,λ_ _ _=>rfl,λ_ _=>qeJ _⟩,λst=>⟨[],?_⟩⟩
  ·rw[hN];rfl
  have M:=vf (st:=st) (b:=b) h;have hw:=Bw (st:=st) (m:=0) (y:=λ_=>0) h (.inr U);have T:aT (aB ts) (λ_=>0)=[]:=by
   unfold aT;rw[qgJ.mpr λt _=>by simp];rfl
  have P:_=some (D.int 0):=(x st).trans (by rw[hN];rfl);rw[T,qbR];generalize (mpI fs.length λr=>acc (rN fs) (λ_=>0) 0 r)=A at *;generalize ((qai (nR fs)).map λi=>D.lst (mpI ts.length (spV fs b ts i)))=L at *;generalize tsD ts=J at *;generalize aE b=kd at *;exact az (n:=8) (k:=3) (b:=jw) U (ah (aj (ai U M)) (ah (aj (ar (ab U U) P)) (eK (de (s:=st) U (aH (ci (ab (ci (ds:=[.str kd,.tup []]) U U (by show 2<=1000;decide)) (ab (ai (ab U (ab U U)) hw) U)) U (by show 2<=1000;decide)))))))
 ·obtain⟨p,am,pr,S,O⟩:=GE (b:=b) h (by lia)
  have hn:=h.n;obtain⟨q,X,q0,hq,hp⟩:=E8 (b:=b) (m:=ts.length+ts.length+nR fs) (am:=am) h.nd h.tl (by lia) λj l=>S.sa j (by lia);have C:=D5 h (y:=pr) λi hi=>S.sr i hi;obtain⟨K,w,E,o,F⟩:=Cn (n:=fs.length) (f:=λr=>acc (rN fs) pr (nR fs) r) (λr _=>(C r).1) (by have:=h.fl;lia);have H:∀ i,i<nR fs->pr i=K*w (rN fs i):=λi hi=>by
   rw[<-o _ (qO h hi).2,zi hi λj l z=>wA h l hi z]
  refine⟨X,w,⟨λt G=>?_,λi hi=>?_,λr I=>⟨?_,DS E (o r I) (C r).1⟩,λr I e=>?_,λt G=>?_⟩,λst=>?_⟩
  ·have e:=S.bal t G
   rw[Sx.sumN_congr (g:=λi=>K*(spV fs b ts i t*w (rN fs i))) λi hi=>by rw[H i hi,qaT],Sx.sumN_mul]at e;exact (qcB.mp e).resolve_left (by lia)
  ·have e:=S.val i hi
   rw[Sx.sumN_congr (g:=λt=>q*(X (ts.getD t [])*spV fs b ts i t)) λt G=>by rw[hq t G,qbj],Sx.sumN_mul,H i hi]at e;generalize (sumN ts.length λt=>X (ts.getD t [])*spV fs b ts i t)=v at *;refine⟨?_,?_⟩
   ·have:=e.1
    by_cases z:0<=v
    ·exact z
    ·have:=qgo q0 (show v<0 by lia)
     lia
   ·have e2:=e.2
    rw[qcB,ne_eq,qcB]at e2;have n1:¬ q=0:=by lia
    have n2:¬ K=0:=by lia
    simpa [n1,n2] using e2
  ·have e:=(C r).2
   rw[o r I]at e;by_cases z:0<=w r
   ·exact z
   ·have:=qgo E (show w r<0 by lia)
    lia
  ·have:=o r I
   rw[mX λj l=>FE h e l]at this;exact (qcB.mp this.symm).resolve_left (by lia)
  ·obtain⟨j,l,rfl⟩:=kN G
   refine DS q0 (hq j l) ?_;have a:=S.sa j (by lia);have c:=S.sa (ts.length+j) (by lia);unfold Sm at *;generalize (2:Nat)^1900=B at *;lia
  ·obtain⟨u,hu⟩:=O st none
   refine⟨u,?_⟩;have M:=vf (st:=st) (b:=b) h;have he:=yr (st:=st) (V:=spV fs b ts) (k:=ts.length) hn h.tl;have T:bL (aa (iV 3) ac) [Z (.tup fs),Z (.str (aE b)),Z (tsD ts),Z (.lst ((qai (nR fs)).map λi=>D.lst (mpI ts.length (spV fs b ts i)))),Z (.int (nR fs:Int)),none,none,none] st=some ((qai (nR fs)).map λi:Nat=>D.tup [.int ((i:Nat):Int),.lst (mpI ts.length (spV fs b ts i))],st):=by
    rw[<-xf (λi=>D.lst (mpI ts.length (spV fs b ts i)))];rfl
   have P:=x st;have Q:=hp (st++u);have W:=Bw (st:=st++u) (m:=nR fs) (y:=pr) h (.inl U);have N:=F (st++u);have sl:dSl (st++u) (.d (.tup (mpI (nR fs+nR fs) pr))) none (some (nR fs:Int))=some (.tup (mpI (nR fs) pr)):=by
    rw[<-Cp (n:=nR fs+nR fs) (k:=nR fs) (f:=pr) (by lia),<-HL];rfl
   have f0:((nR fs:Int)==(0:Int))=false:=by simp;lia
   have hz:((qai (nR fs)).map λi:Nat=>D.tup [.int ((i:Nat):Int),.lst (mpI ts.length (spV fs b ts i))]).length<=1000000:=by rw[qaf,qar];lia
   generalize (mpI fs.length λr=>acc (rN fs) pr (nR fs) r)=A at *;generalize mpI fs.length w=A2 at *;generalize mpI (nR fs) pr=A3 at *;generalize mpI (nR fs+nR fs) pr=A4 at *;generalize mpI (ts.length+ts.length+nR fs) am=A5 at *;generalize bG (aE b) (aT (aB ts) X)=R at *;generalize ((qai (nR fs)).map λi=>D.lst (mpI (ts.length+ts.length+nR fs) (Sx.spR (nR fs) ts.length (spV fs b ts) i)))=L5 at *;generalize ((qai (nR fs)).map λi=>D.lst (mpI (ts.length+ts.length+nR fs) (Sx.spR (nR fs) ts.length (spV fs b ts) (nR fs+i))))=L6 at *;generalize ((qai (nR fs)).map λi:Nat=>D.tup [.int ((i:Nat):Int),.lst (mpI ts.length (spV fs b ts i))])=LE at *;generalize ((qai (nR fs)).map λi=>D.lst (mpI ts.length (spV fs b ts i)))=L at *;generalize tsD ts=J at *;generalize aE b=kd at *;have Y:iSl (iOp dIx (iV 7) (iC (.int 3))) iPn (iPs (iV 4)) [Z (.tup fs),Z (.str kd),Z J,Z (.lst L),Z (.int (nR fs:Int)),Z (.lst L5),Z (.lst L6),Z (.tup [.str "most",.int p,.tup A5,.tup A4])] (st++u)=some (.d (.tup A3),st++u):=by
    have x1:iOp dIx (iV 7) (iC (.int 3)) [Z (.tup fs),Z (.str kd),Z J,Z (.lst L),Z (.int (nR fs:Int)),Z (.lst L5),Z (.lst L6),Z (.tup [.str "most",.int p,.tup A5,.tup A4])] (st++u)=some (.d (.tup A4),st++u):=ae U U U
    have x2:iPs (iV 4) [Z (.tup fs),Z (.str kd),Z J,Z (.lst L),Z (.int (nR fs:Int)),Z (.lst L5),Z (.lst L6),Z (.tup [.str "most",.int p,.tup A5,.tup A4])] (st++u)=some (some (nR fs:Int),st++u):=rfl
    simp only[iSl,x1,x2,iPn,qab,sl,qap]
   exact az (n:=8) (k:=3) (b:=jw) U (ah (aj (ai U M)) (ah (aj (ar (ab U U) P)) (ah (bE (s:=st) (ak U U (by rw[cc,f0])) U) (ah (aj (av (aR T hz he))) (G3 hu (aH (ci (ab (ai (ab U (ab U (ab (ae U U U) U))) Q) (ab (ai (ab (ai (ab U (ab Y U)) W) U) N) U)) U (by show 2<=1000;decide))))))))
end
end Own
set_option maxHeartbeats 1000000
namespace Own
open PySem L2
open Sx (Pb Tb Good Named Fe LV ZV piv lexP leastR leaveL sumN unit colV basis)
theorem HI (h:0<=x):qdl x 1=x%2 :=by
 obtain⟨n,rfl⟩:=qgL h;rw[show qdl _ _=((n&&&1:Nat)) from U,Nat.and_one_is_mod];lia
theorem sD (c:a env st=some (false,s)):fB a b env st=some (false,s) :=by
 simp only[fB,c,qab,qbC,if_false]
theorem pv (c:a env st=some (true,s)) (hb:b env s=r):fB a b env st=r :=by
 simp only[fB,c,qab,if_true,hb]
theorem df (c:a env st=some (false,s)) (hb:b env s=r):cF a b env st=r :=by
 simp only[cF,c,qab,qbC,if_false,hb]
theorem vq (h:c env st=some (false,s)):bq c b (n+1) env st=some (.nx env s) :=by
 unfold bq;rw[h,qab,iFN qa1]
theorem Bx (h:c env st=some (true,s)) (hb:b env s=some (.nx e a)):bq c b (n+1) env st=bq c b n e a :=by
 rw[bq,h,qab,iFP U,hb,qab]
theorem gU (s) (h:0<b):f7 s (.d (.int a)) (.d (.int b))=some (.int (a%b)) :=iFP h
theorem mL (s) (h:0<b/\b<1073741824):gR s (.d (.int a)) (.d (.int b))=some (.int (a / b)) :=iFP h
theorem pf0 (p) (a) (e:Ev):cO (iV 0) (iC (.int 0)) (some (.h 1)::e) (spo p a)=some (.h 0,spo p a) :=rfl
theorem pf1 (p) (a) (e:Ev):cO (iV 0) (iC (.int 1)) (some (.h 1)::e) (spo p a)=some (.d (.int p.s),spo p a) :=rfl
theorem pf2 (p) (a) (e:Ev):cO (iV 0) (iC (.int 2)) (some (.h 1)::e) (spo p a)=some (.d (.int p.c),spo p a) :=rfl
theorem pfx (x) (xs) (s c) (a) (e:Ev):iOp dIx (cO (iV 0) (iC (.int 0))) (iC (.int 0)) (some (.h 1)::e) (spo ⟨x::xs,s,c⟩ a)=some (.d (.int x),spo ⟨x::xs,s,c⟩ a) :=by
 refine ae (pf0 _ _ _) U ?_;exact D7 _ _
theorem Ih (x) (xs) (s c) (a) (e:Ev):cI we (cO (iV 0) (iC (.int 0))) (aa (iC (.int 0)) ac) (some (.h 1)::e) (spo ⟨x::xs,s,c⟩ a)=some (.d (.int x),spo ⟨xs,s,c⟩ a) :=by
 show ((we _ [.d _]).map λy=>(W.d y.1,(spo _ a).set 0 _))=_
 have:we ((x::xs).map D.int) [.d (.int 0)]=some (.int x,xs.map D.int):=by
  show (ixN ((xs.map D.int).length+1) 0).bind _=_;rw[DA];rfl
 rw[this];rfl
theorem Dv {e:Ev}:∀ (xs) (f),xs.length<f->(∀ x∈xs,0<=x)->
  ∃ b,b.length<=xs.length/\(∀ x∈b,0<=x)/\∀ a,bq iS ju f (some (.h 1)::e) (spo ⟨xs,s,c⟩ a)=some (.nx (some (.h 1)::e) (spo ⟨b,s,c⟩ a))
 |_,0,h,_=>absurd h (qca _)
 |[],f+1,_,_=>⟨_,qan _,(λx hx=>nomatch hx),λa=>vq (sD (ak (pf0 _ _ _) U U))⟩
 |x::xs,f+1,j,d=>by
  have c1:∀ a ,aF dNe _ (aq (bf ac)) (some _::e) _=some (true,spo ⟨x::xs,s,c⟩ a):=λa=>ak (pf0 _ _ _) U U;have c2:∀ a ,aF dEq _ (iC _) (some _::e) _=some (x==0,spo ⟨x::xs,s,c⟩ a):=λa=>ak (pfx _ _ _ _ _ _) U (cc _ _ _);cases q:(x==0) with
  |true=>
   rw[q]at c2;obtain⟨b,k,a2,i⟩:=Dv xs f (by simpa using j) λy g=>d y (qah _ g);refine⟨b,qaD k (qcF _),a2,λa=>?_⟩;rw[<-i a];refine Bx (pv (c1 a) (c2 a)) ?_;show cw _ _ _=_;simp only[cw,Ih,qap]
  |false=>
   rw[q]at c2;exact⟨_,qan _,d,λa=>vq (pv (c1 a) (c2 a))⟩
theorem z9 (h:n<=63):n<2^8000 :=qbD h (qaO (by decide:63<2^6) (qba (by decide) (by decide)))
theorem dn (h:okP p Zq) (R:Zq<900000000) (m0:0<m) (J:m<1073741824):∃ (r:Int) (C:Spo),0<=r/\r<m/\okP C (Zq+1)/\∀ a,aY [.h 1,.d (.int m)] (spo p a)=some (.d (.int r),spo C a) :=by
 obtain⟨xs,s,c⟩:=p;obtain⟨O,t,Q,c1⟩:=h;obtain⟨I,H,y,M⟩:=Dv (s:=s) (c:=c) xs (2^8000) (z9 t) O;have w:=M;cases I with
 |cons x l=>
  have c2:∀ a:Sto,aF dNe _ (aq (bf ac)) [some (.h 1),Z (.int m),none,none,none] _=some (true,spo ⟨x::l,s,c⟩ a):=λa=>ak (pf0 _ _ _) U U;refine⟨x%m,⟨x / m::l,s,c⟩,qh6 _ (by lia),qhC _ m0,⟨λz hz=>?_,by simp at H ⊢;lia,Q,by lia⟩,λa=>?_⟩
  ·rcases qav.mp hz with rfl|hz
   ·exact qdT (y x qag) (by lia)
   ·exact y z (qah _ hz)
  ·have v:bz (cO (iV 0) (iC (.int 0))) (iC (.int 0)) (iOp gR (iOp dIx (cO (iV 0) (iC (.int 0))) (iC (.int 0))) (iV 1)) [some (.h 1),Z (.int m),Z (.int (x%m)),none,none] (spo ⟨x::l,s,c⟩ a)=some (.nx [some (.h 1),Z (.int m),Z (.int (x%m)),none,none] (spo ⟨x / m::l,s,c⟩ a)):=by
    have G:gB (spo ⟨x::l,s,c⟩ a) (.h 0) (.d (.int 0)) (.d (.int (x / m)))=some (spo ⟨x / m::l,s,c⟩ a):=by
     show (ixN ((l.map D.int).length+1) 0).map (λj=>(spo ⟨x::l,s,c⟩ a).set 0 (.l (((x::l).map D.int).set j (.int (x / m)))))=_;rw[DA];rfl
    simp only[bz,(ae (g:=gR) (b:=iV 1) (pfx x l s c a [Z (.int m),Z (.int (x%m)),none,none]) U (mL _ ⟨m0,J⟩)),pf0,qab,iC,G,qap]
   exact az (n:=5) (k:=2) U (ah (w a) (eK (de (c2 a) (ah (aj (ae (pfx _ _ _ _ _ _) U (gU _ m0))) (ah v U)))))
 |nil=>
  have c2:∀ a:Sto,aF dNe _ (aq (bf ac)) [some (.h 1),Z (.int m),none,none,none] _=some (false,spo ⟨[],s,c⟩ a):=λa=>ak (pf0 _ _ _) U U;have v:∀ a:Sto,j6 (iV 0) (iC (.int 2)) (iOp a9 (cO (iV 0) (iC (.int 2))) (iC (.int 1))) [some (.h 1),Z (.int m),none,none,none] (spo ⟨[],s,c⟩ a)=some _:=λa=>by
   simp only[j6,(ae (g:=a9) (b:=iC (.int 1)) (pf2 ⟨[],s,c⟩ a [Z (.int m),none,none,none]) U U),qab,iC,iV];rfl
  obtain⟨u,P⟩:∃ u,(s+611953*(c+1)*(c+1))*48271%2305843009213693951=u:=⟨_,U⟩;refine⟨(u+(c+1))*(u / 1009+40692*(c+1)+3)%2305843009213693921 / 4099%m,⟨[],s,c+1⟩,qh6 _ (by lia),qhC _ m0,⟨λz hz=>(nomatch hz),by simp,by dsimp only;lia,by dsimp only;lia⟩,λa=>?_⟩
  have K:qbH 611953 (c+1):=eF (by decide);have k2:∀ q,qbH q (c+1):=λq=>dz ⟨by lia,by lia⟩;have L:∀ q,qbH q 48271:=λq=>dz (by decide);have F:∀ q,qbH (u+(c+1)) q:=λq=>eF ⟨by lia,by lia⟩;have o:=λ(a:Sto) (e:Ev)=>pf2 ⟨[],s,c+1⟩ a e;have A:=λ(a:Sto) (e:Ev)=>pf1 ⟨[],s,c+1⟩ a e;dsimp only at A o;generalize c+1=d at *;have N:∀ (B f:Option W),aA (.nm 3) (iOp f7 (iOp aZ (iOp a9 (cO (iV 0) (iC (.int 1))) (iOp aZ (iOp aZ (iC (.int 611953)) (cO (iV 0) (iC (.int 2)))) (cO (iV 0) (iC (.int 2))))) (iC (.int 48271))) (iC (.int 2305843009213693951))) [some (.h 1),Z (.int m),none,B,f] (spo ⟨[],s,d⟩ a)=some (.nx [some (.h 1),Z (.int m),none,Z (.int u),f] (spo ⟨[],s,d⟩ a)):=λB f=>
   aj (i:=3) (ae (ae (ae (A _ _) (ae (ae U (o _ _) (bx _ K)) (o _ _) (bx _ (k2 _))) U) U (bx _ (L _))) U (by rw[<-P];exact gU _ (by decide)))
  have E:∀ (f:Option W),aA (.nm 4) (iOp a9 (iOp a9 (iOp gR (iV 3) (iC (.int 1009))) (iOp aZ (iC (.int 40692)) (cO (iV 0) (iC (.int 2))))) (iC (.int 3))) [some (.h 1),Z (.int m),none,Z (.int u),f] (spo ⟨[],s,d⟩ a)=some (.nx [some (.h 1),Z (.int m),none,Z (.int u),Z (.int (u / 1009+40692*d+3))] (spo ⟨[],s,d⟩ a)):=λf=>
   aj (i:=4) (ae (ae (ae U U (mL _ (by decide))) (ae U (o _ _) (bx _ (eF (by decide)))) U) U U)
  exact az (n:=5) (k:=2) U (ah (w a) (ah (bE (c2 a) U) (ah (v a) (ah (N _ _) (ah (E _) (aH (ae (ae (ae (ae (ae U (o _ _) U) U (bx _ (F _))) U (gU _ (by decide))) U (mL _ (by decide))) U (gU _ m0))))))))
end Own
set_option maxHeartbeats 1000000
namespace Own
open PySem L2
open Sx (Pb Tb Good Named Fe LV ZV piv lexP leastR leaveL sumN unit colV basis)
theorem qsl (g:f env c=some (x,s1)) (h:lo env s1=some (l,b)) (e:hi env b=some (u,a)) (hd:dSl a x l u=some d):iSl f lo hi env c=some (.d d,a) :=by
 simp only[iSl,g,h,e,qab,hd,qap]
theorem p18:vB 10 18:=by decide
theorem Ii (s):BU s (.d (.int 10)) (.d (.int 18))=some (.int (10^18)) :=by
 rfl
theorem Fi (ns) (hn:ns.length<=63):∃ p,okP p 0/\jJ [.d (.scr ns)] []=some (.h 1,spo p []) :=by
 have w:fZ (ns.map D.int) none (some 63)=ns.map D.int:=by
  unfold fZ;have u:HT.sIx (ns.map D.int).length 0 none=0:=rfl;have l:HT.sIx (ns.map D.int).length (ns.map D.int).length (some 63)=(ns.map D.int).length:=by
   unfold HT.sIx;simp;lia
  rw[u,l,qgf,qgV,qdA]
 have z:∀ q,qbH q 69621:=λq=>dz (by decide);obtain⟨o,s',l,xs,a,k,rfl,rfl,r,j⟩:=bO (g:=.nm 3) (body:=kH) (ds:=ns.map D.int)
  (λi env s=>∃ (xs:List Int) (a:Int) (k:Option W),env=[Z (.scr ns),Z (.int a),some (.h 0),k]/\s=[C.l (xs.map D.int)]/\xs.length<=i/\∀ x∈xs,0<=x)
  ⟨[],_,none,U,U,qan _,(λx hx=>nomatch hx)⟩ (λi d env s hd ⟨xs,a,k,e,es,r,j⟩=>by
   subst e es;rw[qaz,qad]at hd;obtain⟨x,hx,rfl⟩:=hd;have hi:=(qas.mp hx).1;have s1:aA (.nm 1) (iOp f7 (iOp a9 (iOp aZ (iV 1) (iC _)) (iV 3)) (iC (.int 2305843009213693951))) [Z (.scr ns),Z (.int a),some (.h 0),Z (.int x)] [C.l (xs.map D.int)]=some _:=
    aj (ae (ae (ae U U (bx _ (z _))) U U) U (gU _ (by decide)))
   generalize (a*69621+x)%2305843009213693951=t at *;have c:aF dGe (iCB ym (aa (iV 3) ac)) (iOp BU (iC _) (iC _)) [Z (.scr ns),Z (.int t),some (.h 0),Z (.int x)] [C.l _]=some (decide _,[C.l (xs.map D.int)]):=ak (ar (ab U U) U) (ae U U (Ii _)) U;by_cases hg:(10)^18<=(if x<0 then -x else x)
   ·rw[decide_eq_true hg]at c
    have hz:(xs.map D.int).length<1000000:=by rw[qaf];lia
    refine⟨_,_,_,U,.inl (ah s1 (de c (C2 U (ar (ab U U) U) U U hz))),xs++[if x<0 then -x else x],t,_,U,?_,by rw[qau];show _+1<=_;lia,λy v=>?_⟩
    ·rw[qbI];rfl
    ·rcases qaV.mp v with q|q
     ·exact j y q
     ·rw[qao.mp q];split<;>lia
   ·rw[decide_eq_false hg]at c
    exact⟨_,_,_,U,.inl (ah s1 (bE c U)),xs,t,_,U,U,by lia,j⟩)
 rw[qaf]at r;refine⟨⟨xs,a,0⟩,⟨j,by lia,qck _,qck _⟩,?_⟩;have m:rQ 1 2 (aa (iOp a9 (iOp aZ (iC (.int 7)) (iCB aS (aa (iV 0) ac))) (iC (.int 5))) (aa (bM (bf ac)) ac)) [Z (.scr ns),none,none,none] []=some (.nx [Z (.scr ns),Z (.int (7*(ns.length)+5)),some (.h 0),none] [C.l []]):=by
  have f:aS [] [.d (.scr ns)]=some (.int (ns.length)):=by
   show some (D.int _)=_;rw[qaf]
  have x1:iOp a9 (iOp aZ (iC (.int 7)) (iCB aS (aa (iV 0) ac))) (iC (.int 5)) [some _,none,none,none] []=some (.d _,[]):=ae (ae U (ar (ab U U) f) (bx _ (eF (by decide)))) U U;simp only[rQ,(ab (b:=aa (bM (bf ac)) ac) x1 U),qab];rfl
 have n:aC (iSl (iV 0) iPn (iPs (iC (.int 63)))) [Z (.scr ns),Z (.int (7*(ns.length)+5)),some (.h 0),none] [C.l []]=some (ns.map D.int,[C.l []]):=by
  show some _=_;rw[w]
 exact az U (ah m (ah (a6 n l) (aH U)))
end Own
set_option maxHeartbeats 1000000
namespace Own
open PySem L2
open Sx (Pb Tb Good Named Fe LV ZV piv lexP leastR leaveL sumN unit colV basis)
theorem wq (h:c env st=some (true,s)) (d:a env s=r):dJ c a b env st=r :=by simp only[dJ,h,qab,if_true,d]
theorem wp (h:c env st=some (false,s)) (hb:b env s=r):dJ c a b env st=r :=by simp only[dJ,h,qab,qbC,if_false,hb]
theorem jH {α:Type}{g} (F):∀ {a:List α},(∀ k∈a,∃ b,cD tg (.d (g k)) env=some b/\te b st=some (.d (F k),st))->lcI tg aM te env (a.map g) st=some (a.map F,st)
 |[],_=>rfl
 |k::a,h=>by
  obtain⟨b,e,c⟩:=h k qag;rw[qat,lcI,e,qab,show aM b st=some (true,st) from U,qab,c,qab,(jH F λx hx=>h x (qah _ hx))];rfl
theorem iY {α:Type}{g} (F) (p):∀ {b:List α},(∀ k∈b,∃ a,cD tg (.d (g k)) env=some a/\tt a st=some (p k,st)/\te a st=some (.d (F k),st))->lcI tg tt te env (b.map g) st=some ((b.filter p).map F,st)
 |[],_=>rfl
 |k::b,h=>by
  obtain⟨a,f,i,e⟩:=h k qag;have c:=iY F p λx hx=>h x (qah _ hx);rw[qat,lcI,f,qab,i,qab,qb1];cases p k with
  |true=>
   rw[e,qab,c];rfl
  |false=>
   rw[iFN qa1,iFN qa1,c]
theorem D6 (h:0<=row):qdl (row / 2^k.toNat) 1=onI row k :=HI (qdT h (qgZ (Int.pow_pos (by decide))))
theorem tT (row):∀ t,(((t.filter λk=>onI row k==1).length))=eV row t
 |[]=>rfl
 |k::t=>by
  have a:=tT row t;rw[qb1];unfold eV;rcases DF row k with e|e
  ·lia
  ·rw[e,iFP (by decide),qam]
   lia
theorem uH (g:0<=row) (f:∀ k∈t,0<=k/\k<=20) (j:t.length<=1000):eE [.d (.str (aE b)),.d (au t),.d (.int row)] st=some (.d (.int (bJ b t row)),st) :=by
 have a:aS st [.d (.lst ((t.filter λk=>onI row k==1).map D.int))]=some (.int (eV row t)):=by
  show some (D.int _)=_;rw[qaf,tT]
 have tl:aS st [.d (au t)]=some (.int (t.length)):=by
  show some (D.int _)=_;rw[qaf]
 have hz:(t.map D.int).length<=1000000:=by rw[qaf];lia
 have eq:bJ b t row=if b=true then (if eV row t=(t.length) then 1 else 0) else 1 - 2*(eV row t%2):=by
  unfold bJ;cases b with
  |true=>rfl
  |false=>
   split<;>lia
 rw[eq];have e:aA (.nm 3) (iCB aS (aa (aq (iLc 1 [2] (aC (iV 1)) (.nm 0) jr jl)) ac)) [Z (.str (aE b)),Z (au t),Z (.int row),none] st=some (.nx [Z (.str (aE b)),Z (au t),Z (.int row),Z (.int (eV row t))] st):=
  aj (i:=3) (ar (ab (av (aR (bA U) hz (iY D.int _ λk h=>by
  refine⟨_,U,?_,U⟩;refine ak (ae (ae U U (A9 _ (f k h).1)) U ?_) U (cc _ _ _);show some _=_
  rw[D6 g]))) U) a)
 have c:aF dEq (iV 0) (iC _) [some _,Z (au t),Z (.int row),Z (.int (eV row t))] st=some (b,st):=ak U U (by rw[nJ,(qJ b)]);generalize eV row t=n at *;generalize aE b=kd at *;cases b with
 |true=>
  rw[iFP U]
  exact az U (ah e (aH (wq c (ar (ab (ae U (ar (ab U U) tl) (cc _ _ _)) U) (by
   by_cases q:n=(t.length)
   ·rw[q,iFP U,beq_self_eq_true];rfl
   ·rw[iFN q,show (n==_)=false by simpa using q];rfl)))))
 |false=>
  exact az U (ah e (aH (wp c (ae U (ae U (ae U U (gU _ (by decide))) (bx _ (eF (by decide)))) U))))
theorem yM :∀ {n:Nat},n<=3->gh [.d (.int (n))] st=some (.d (.lst ((aJ n).map au)),st)
 |0,_=>rfl
 |1,_=>rfl
 |2,_=>rfl
 |3,_=>rfl
end Own
set_option maxHeartbeats 1000000
namespace Own
open PySem L2
open Sx (Pb Tb Good Named Fe LV ZV piv lexP leastR leaveL sumN unit colV basis)
end Own
set_option maxHeartbeats 1000000
namespace Own
open PySem L2
open Sx (Pb Tb Good Named Fe LV ZV piv lexP leastR leaveL sumN unit colV basis)
theorem nH:∀ (ds) (k),(bF k ds).length=ds.length
 |[],_=>rfl
 |_::ds,k=>by rw[bF,qam,qam,nH ds]
def sR (fs:List D) (g:Nat->Int) (r:Nat):Int:=if db (fs.getD r .non)=true then 0 else g r
theorem Ib (h:d≠.non):¬ db d=true :=by
 cases d<;>first|exact absurd U h|exact Bool.noConfusion
theorem xY (b) (t) (row):(bJ b t row).natAbs<=1 :=by
 unfold bJ;split<;>split<;>decide
theorem wI (f):∀ n,((qai n).map f).sum=sumN n f
 |0=>rfl
 |n+1=>by
  rw[qdN,qbI,qhV,wI f n];show _+(f n+0)=sumN n f+f n;lia
theorem Ax {l :List Int} (h:l.Perm m):l.sum=m.sum :=by
 induction h with
 |nil=>rfl
 |cons x _ c=>rw[qcl,qcl,c]
 |swap x y l=>rw[qcl,qcl,qcl,qcl];lia
 |trans _ _ a b=>exact a.trans b
theorem xB (X g:List Int->Int):∀ a:List (List Int),((aT a X).map λp=>p.2*g p.1).sum=(a.map λt=>X t*g t).sum
 |[]=>rfl
 |t::a=>by
  have b:=xB X g a;unfold aT at b ⊢;rw[qb1,qat,qcl];by_cases h:X t=0
  ·rw[iFN (by simp[h]),b,h,qbp,qbO]
  ·rw[iFP (by simp[h]),qat,qat,qcl,b]
theorem Ai (X g:List Int->Int) (ts):((aT (aB ts) X).map λp=>p.2*g p.1).sum=sumN ts.length λt=>X (ts.getD t [])*g (ts.getD t []) :=by
 rw[xB,Ax ((aG ts).map λt=>X t*g t),i9 [] _ ts,wI]
theorem vk (g:Nat->Int):∀ (r) (k),((bI k r).map λj=>g j.toNat).sum=sumN r.length λj=>if db (r.getD j .non)=true then 0 else g (k+j)
 |[],k=>rfl
 |d::r,k=>by
  rw[qam,qeM r.length 1,Sx.sumN_append];have b:(sumN r.length λj=>if db ((d::r).getD (1+j) .non)=true then 0 else g (k+(1+j)))=sumN r.length λj=>if db _=true then 0 else g _:=Sx.sumN_congr λj _=>by
   rw[qeM 1 j,qbT,show k+_=k+1+j by lia]
  have c:(sumN 1 λj=>if db ((d::r).getD j .non)=true then 0 else g (k+j))=if db d=true then 0 else g k:=by
   show (0)+_=_;rw[qbO];rfl
  rw[b,c,<-(vk g r _)];have a:(((k:Int)::bI (k+1) r).map λj=>g j.toNat).sum=g k+((bI (k+1) r).map λj=>g j.toNat).sum:=by
   rw[qat,qcl,qbf]
  cases d<;>first|exact (qbO _).symm|exact a
theorem vj:∀ (r) (k j),j<r.length->r.getD j .non≠.non->((k+j:Nat):Int)∈bI k r
 |[],_,_,h,_=>absurd h (qca _)
 |d::r,k,0,_,hn=>by
  have:_∈(k:Int)::bI (k+1) r:=qag
  cases d<;>first|exact absurd U hn|exact this
 |d::r,k,j+1,h,hn=>by
  have a:=vj r (k+1) j (by rw[qam]at h;lia) (by exact hn);rw[show k+1+j=k+(j+1) by lia]at a;cases d<;>first|exact a|exact qah _ a
section
variable {fs:List D}{b:Bool}{ts:List (List Int)}{X:List Int->Int}{w:Nat->Int}
theorem Da (h:Spl fs ts) (S:mq fs b ts X w) (d:t∈ts):sumN fs.length (sR fs λr=>w r*sgD (fs.getD r .non)*bJ b t r)=0 :=by
 obtain⟨j,l,rfl⟩:=kN d;have e:=vk (λr=>w r*sgD (fs.getD r .non)*bJ b (ts.getD j []) r) fs 0;rw[i9 0 _ _,wI]at e;have f:sumN fs.length (sR fs λr=>w r*sgD _*bJ b _ r)=sumN fs.length λr=>if db _=true then 0 else w (0+r)*sgD (fs.getD (0+r) .non)*bJ b (ts.getD j []) ((0+r:Nat)):=Sx.sumN_congr λr _=>by rw[qbg];rfl
 rw[f,<-e];refine Eq.trans (Sx.sumN_congr λi hi=>?_) (S.bal j l);show w (rN fs i)*sgD (fs.getD (rN fs i) .non)*bJ b _ (rN fs i)=sgD (fs.getD (rN fs i) .non)*bJ b _ _*w _;rw[((qO h hi).1),qbj,qaW]
theorem Db (h:Spl fs ts) (S:mq fs b ts X w) (c:r<fs.length) (hn:fs.getD r .non≠.non):0<=(sumN ts.length λt=>X (ts.getD t [])*bJ b (ts.getD t []) r)*sgD (fs.getD r .non)/\((sumN ts.length λt=>X (ts.getD t [])*bJ b (ts.getD t []) r)*sgD (fs.getD r .non)=0↔w r≠0) :=by
 have hm:=vj fs 0 r c hn;rw[qbg]at hm;obtain⟨i,hi,e⟩:=qcv.mp hm;have a:kY fs i=(r):=by
  unfold kY;rw[qaA,qal hi];exact e
 have g:rN fs i=r:=by unfold rN;rw[a,qbf]
 have v:=S.val i hi;rw[g]at v;have k:(sumN ts.length λt=>X (ts.getD t [])*spV fs b ts i t)=(sumN ts.length λt=>X (ts.getD t [])*bJ b (ts.getD t []) r)*sgD (fs.getD r .non):=by
  rw[<-Sx.sumN_right];refine Sx.sumN_congr λt _=>?_;unfold spV;rw[a,qbf,qaW (sgD _),qbj]
 rw[k]at v;exact v
end
def sz (d:D):Int:=if db d=true then 0 else sgD d
theorem sz3 (h:dY d):sz d=0\/sz d=1\/sz d=-1 :=by
 rcases h with rfl|rfl|rfl
 ·exact .inl U
 ·exact .inr (.inr U)
 ·exact .inr (.inl U)
theorem FH (h:dY d):sz d=0↔d=.non :=by
 rcases h with rfl|rfl|rfl
 ·exact⟨λ_=>rfl,λ_=>rfl⟩
 ·exact⟨λe=>absurd e (by decide),λe=>by cases e⟩
 ·exact⟨λe=>absurd e (by decide),λe=>by cases e⟩
theorem zf (a:∀ k,k<n->0<=f k) (c:sumN n f=0):∀ k,k<n->f k=0 :=λk b=>by
 rw[Sx.sumN_split b]at c
 have:=Sx.sumN_nonneg (f:=λi=>if i=k then 0 else f i) λi hi=>by split;exact qck _;exact a i hi
 have:=a k b
 lia
section
variable {fs:List D}{b:Bool}{ts:List (List Int)}{X:List Int->Int}{w:Nat->Int}
def vlR (b:Bool) (ts:List (List Int)) (Y:Nat->Int) (r:Nat):Int:=sumN ts.length λt=>Y t*bJ b (ts.getD t []) r
def BE (fs:List D) (b:Bool) (ts:List (List Int)) (v:Nat->Int):Prop:=∀ t∈ts,(sumN fs.length λr=>v r*sz (fs.getD r .non)*bJ b t r)=0
theorem zp (hb:BE fs b ts v) (Y):(sumN fs.length λr=>v r*(sz (fs.getD r .non)*vlR b ts Y r))=0 :=by
 have e:(sumN fs.length λr=>v r*(sz (fs.getD r .non)*vlR b ts Y r))=sumN fs.length λr=>sumN ts.length λt=>Y t*_:=Sx.sumN_congr λr _=>by
  unfold vlR;rw[<-qbj,<-Sx.sumN_mul];exact Sx.sumN_congr λt _=>qaT ..
 rw[e,Sx.sumN_swap];refine (Sx.sumN_congr λt f=>?_).trans (Sx.sumN_zero _);rw[Sx.sumN_mul,hb _ (by rw[qaA,qal f];exact qbJ f),qa9]
theorem Cz (hb:BE fs b ts v) (j:∀ r,r<fs.length->0<=v r) (i:∀ r,r<fs.length->0<=sz (fs.getD r .non)*vlR b ts Y r) (d:r<fs.length) (l:v r≠0):sz (fs.getD r .non)*vlR b ts Y r=0 :=by
 have:=zf (λk g=>qea (j k g) (i k g)) (zp hb Y) r d
 exact (qcB.mp this).resolve_left l
theorem Be (h:Spl fs ts) (d:r<fs.length):dY (fs.getD r .non) :=by
 rw[qaA,qal d];exact h.fv _ (qbJ d)
theorem Bb (h:Spl fs ts) (S:mq fs b ts X w):BE fs b ts w:=λt f=>by
 refine (Sx.sumN_congr λr _=>?_).trans (Da h S f);unfold sR sz;split
 ·rw[qa9,qbp]
 ·rfl
theorem wG (h:Spl fs ts) (S:mq fs b ts X w) (d:r<fs.length):0<=sz (fs.getD r .non)*vlR b ts (λt=>X (ts.getD t [])) r/\(fs.getD r .non≠.non->sz (fs.getD r .non)*vlR b ts (λt=>X (ts.getD t [])) r=0->w r≠0) :=by
 by_cases e:fs.getD r .non=.non
 ·rw[e]
  exact⟨by show 0<=0*_;rw[qbp];exact qck _,λq=>absurd U q⟩
 ·obtain⟨a,c⟩:=Db h S d e
  have es:sz _=sgD _:=iFN (Ib e);rw[es];rw[qaW];exact⟨a,λ_ q=>c.mp q⟩
end
end Own
set_option maxHeartbeats 1000000
namespace Own
open PySem L2
open Sx (Pb Tb Good Named Fe LV ZV piv lexP leastR leaveL sumN unit colV basis)
section
variable {fs:List D}{b:Bool}{ts:List (List Int)}{X:List Int->Int}{w:Nat->Int}
def Tel (b:Bool) (ts:List (List Int)) (fs:List D):Prop:=∃ Y:Nat->Int,∀ r,r<fs.length->fs.getD r .non≠.non->0<sz (fs.getD r .non)*vlR b ts Y r
theorem FO (h:Spl fs ts) (hb:BE fs b ts v) (g:∀ r,r<fs.length->0<=v r/\(fs.getD r .non=.non->v r=0)) (t:Tel b ts fs) (d:r<fs.length):v r=0 :=qdJ λj=>by
 obtain⟨Y,i⟩:=t
 have:=Cz hb (λk f=>(g k f).1) (λk f=>by
  by_cases e:fs.getD k .non=.non
  ·rw[e];show 0<=0*_;rw[qbp];exact qck _
  ·exact qgZ (i k f e)) d j
 have:=i r d (λe=>j ((g r d).2 e))
 lia
theorem Hy (h:Spl fs ts) (S:mq fs b ts X w):(∀ r,r<fs.length->w r=0)↔Tel b ts fs:=by
 refine⟨λz=>⟨λt=>X (ts.getD t []),λr d hn=>?_⟩,λt r d=>FO h (Bb h S) (λk f=>⟨(S.w0 k f).1,S.wn k f⟩) t d⟩;obtain⟨a,c⟩:=wG h S d
 have:=c hn
 rcases qdj a with q|q
 ·exact q
 ·exact absurd (z r d) (this q.symm)
end
open Classical in
def y8 (b:Bool) (ts:List (List Int)) (fs:List D):Bool:=decide (Tel b ts fs)
open Classical in
theorem wJ :y8 b ts fs=true↔Tel b ts fs :=decide_eq_true_iff
end Own
set_option maxHeartbeats 1000000
namespace Own
open PySem L2
open Sx (Pb Tb Good Named Fe LV ZV piv lexP leastR leaveL sumN unit colV basis)
theorem sq {W }:∀ {ds},(∀ d∈ds,rpD d=true/\wtD d<=W/\dpD d<=K)->pH ds=true/\vw ds<=(W+2)*ds.length/\tZ ds<=K
 |[],_=>by exact⟨U,qbr _,qbr _⟩
 |d::ds,h=>by
  obtain⟨a,b,c⟩:=sq λx hx=>h x (qah _ hx);obtain⟨e,f,c1⟩:=h d qag;rw[pH,vw,tZ,a,e,qam];exact⟨U,by lia,by lia⟩
theorem Cf (h:leL a b) (c:a≠b):bn a b=true :=by
 cases e:bn a b with
 |true=>rfl
 |false=>exact absurd (iy a b e h) c
theorem qG (hn:l.Nodup):(aB l).Pairwise λa b=>bn a b=true :=by
 have c:=(aG l).nodup_iff.mpr hn;exact (cW l).imp₂ (λa b d c=>Cf d c) c
theorem xP:∀ {a c:List (List Int)},a.Pairwise (λx y=>bn x y=true)->c.Pairwise (λx y=>bn x y=true)->(∀ x,x∈a↔x∈c)->a=c
 |[],[],_,_,_=>rfl
 |[],y::c,_,_,h=>absurd ((h y).mpr qag) qbx
 |x::a,[],_,_,h=>absurd ((h x).mp qag) qbx
 |x::a,y::c,g,f,h=>by
  obtain⟨d,a2⟩:=qbc.mp g;obtain⟨c1,c2⟩:=qbc.mp f;have b:∀ {z:List Int},bn z z=true->False:=λ{z} q=>by rw[oE]at q;cases q
  have e:x=y:=by
   rcases qav.mp ((h x).mp qag) with q|q
   ·exact q
   rcases qav.mp ((h y).mpr qag) with k|k
   ·exact k.symm
   exact (b (mQ _ _ _ (c1 x q) (d y k))).elim
  subst e;rw[xP a2 c2 λz=>⟨λhz=>?_,λhz=>?_⟩]
  ·rcases qav.mp ((h z).mp (qah _ hz)) with q|q
   ·rw[q]at hz;exact (b (d x hz)).elim
   ·exact q
  ·rcases qav.mp ((h z).mpr (qah _ hz)) with q|q
   ·rw[q]at hz;exact (b (c1 x hz)).elim
   ·exact q
def rpS (t:List Int):Str:=(toP (D.tup (t.map D.int))).shown
theorem in2:∀ {n},n<=3->∀ t∈aJ n,t∈aJ 3
 |0,_=>by decide
 |1,_=>by decide
 |2,_=>by decide
 |3,_=>λt h=>h
theorem Dc:((aJ 3).all λt=>(aJ 3).all λu=>(rpS t==rpS u)==(t==u))=true:=by decide +kernel
theorem Fy (hn:n<=3) (a:t∈aJ n) (b:u∈aJ n) (e:rpS t=rpS u):t=u :=by
 have:=qaU.mp (qaU.mp Dc t (in2 hn t a)) u (in2 hn u b)
 rw[e,beq_self_eq_true,beq_iff_eq]at this;exact eq_of_beq this.symm
theorem sI (s) (hn:n<=3) (b:t∈aJ n):cu s [.d (au t)]=some (.str (rpS t)) :=by
 have h:=fA n ((aG _).mem_iff.mp b);have f:=sQ h;obtain⟨a,c,e⟩:=sq (W:=2000) (K:=1) (ds:=t.map D.int) λd hd=>by
  obtain⟨x,hx,rfl⟩:=qaI.mp hd
  have:=h.2 x hx
  have:x=0\/x=1\/x=2:=by lia
  rcases this with rfl|rfl|rfl
  ·exact⟨U,by decide,by decide⟩
  ·exact⟨U,by decide,by decide⟩
  ·exact⟨U,by decide,by decide⟩
 rw[qaf]at c;have r:rpD (au t)=true/\wtD (au t)<=16000000/\dpD (au t)<=50:=by
  unfold au;rw[rpD,wtD,dpD];exact⟨a,by lia,by lia⟩
 show (if rpD (au t)=true/\wtD (au t)<=16000000/\dpD (au t)<=50 then some (D.str (rpS t)) else none)=_;rw[iFP r]
theorem eJ (h:f env st=some (k,s)):ce f env st=some (!k,s) :=by
 simp only[ce,h,qap]
theorem gH (h:f env st=some (.d (.bl k),s)):bT ca f env st=some (k,s) :=by
 simp only[bT,h,qab];rfl
theorem GX {bs:List Bool} (h:a env st=some ([.d (.lst (bs.map D.bl))],s)):iCB BS a env st=some (.d (.bl (bs.all id)),s) :=by
 refine ar h ?_;show (lp _).map _=_;rw[m8];rfl
theorem wH (s) (a):dNe s (.d (.str a)) (.d (.str a))=some (.bl false) :=by
 show some (D.bl (!(a==a)))=_;rw[beq_self_eq_true];rfl
theorem Ah (s) (a b):dNe s (.d (.int a)) (.d (.int b))=some (.bl (!(a==b))) :=rfl
theorem qB:∀ v:List Str,(v.map D.str).all bN=true
 |[]=>rfl
 |x::v=>by rw[qat,qbw,qB v];rfl
theorem xm :∀ {v:List Str},a∈v->inD (.str a) (v.map D.str)=true
 |[],h=>nomatch h
 |x::v,h=>by
  unfold inD;rw[qat,qcg,qfW];rcases qav.mp h with rfl|h
  ·exact .inl (beq_self_eq_true a)
  ·exact .inr (xm h)
theorem Cu (s) {v:List Str} (h:a∈v):rA s (.d (.str a)) (.d (.lst (v.map D.str)))=some (.bl false) :=by
 show (if bN _=true/\(v.map D.str).all bN=true then some _ else none)=_;rw[iFP ⟨U,qB v⟩,xm h];rfl
theorem iN (a:ts.Sublist (aJ n)) (hd:ts.Nodup) (b:(mC n).Nodup):aB ts=ts :=
 xP (qG hd) ((qG b).sublist a) λx=>(aG ts).mem_iff
theorem yB {ts:List (List Int)} (hd:ts.Nodup):ts.map (λt=>ts.idxOf t)=qai ts.length:=by
 refine List.ext_getElem (by rw[qaf,qar]) λi b a=>?_;rw[qc1,qfc];exact hd.idxOf_getElem i _
theorem xA:∀ {P:List Nat},P.Pairwise (·<·)->∀ d∈cH (P.map λk:Nat=>D.int (k)) ((P.drop 1).map λk:Nat=>D.int (k)),∃ a c:Nat,d=.tup [.int (a),.int (c)]/\a<c
 |[],_,d,h=>nomatch h
 |[x],_,d,h=>nomatch h
 |x::y::P,f,d,h=>by
  obtain⟨e,b⟩:=qbc.mp f;rcases qav.mp (h) with rfl|h
  ·exact⟨x,y,U,e y qag⟩
  ·exact xA b d h
theorem HK (ds):fZ ds (some 1) none=ds.drop 1 :=by
 unfold fZ;rw[show (some 1)=some ((1:Nat):Int) from U,HT.sIx_nat];by_cases h:1<=ds.length
 ·rw[qf5 h,qcH (by rw[qdC];exact qan _)]
 ·rw[qfN (by lia),qeu (qan _),qeu (by lia),List.take_nil]
section
variable {n:Nat}{ts:List (List Int)}{st:Sto}{kd:Str}{X:List Int->Int}
theorem zO (hn:n<=3) (o:ts.Sublist (aJ n)) (hd:ts.Nodup) (f:t∈ts):(ts.map rpS).idxOf? (rpS t)=some (ts.idxOf t) :=by
 have B:=List.idxOf_lt_length_iff.mpr f;rw[qdf];refine⟨by rw[qaf];exact B,by rw[qc1,List.getElem_idxOf B],λj hj e=>?_⟩;rw[qc1]at e;have y:j<ts.length:=by lia
 have:=Fy hn (o.subset (qbJ y)) (o.subset f) e
 have h2:=hd.idxOf_getElem j y;rw[this]at h2;lia
theorem yF (hn:n<=3) (o:ts.Sublist (aJ n)) (hd:ts.Nodup) (ha:(mC n).Nodup) (B:ts.length<=16):dQ [.d (bG kd (aT (aB ts) X)),.d (.str kd),.d (.lst (ts.map au))] st=some (.d (.bl true),st):=by
 rw[iN o hd ha];have q:∀ p∈aT ts X,p.1∈ts/\p.2≠0:=λp C=>by
  unfold aT at C;obtain⟨t,f,rfl⟩:=qaI.mp C;obtain⟨a,c⟩:=qbm.mp f;exact⟨a,of_decide_eq_true c⟩
 have pl:(aT ts X).length<=16:=by
  unfold aT;rw[qaf];exact qaD (qbV _ _) B
 have M:((aT ts X).map λp=>ts.idxOf p.1).Pairwise (·<·):=by
  have e:(aT ts X).map (λp=>ts.idxOf p.1)=(ts.filter λt=>decide (X t≠0)).map λt=>ts.idxOf t:=by unfold aT;rw[qaQ];rfl
  rw[e];refine qft (qg9.map _) ?_;rw[yB hd];exact List.pairwise_lt_range
 have V:lcI (.nm 0) aM fz [none] (ts.map au) st=some ((ts.map rpS).map D.str,st):=by
  rw[qaQ];exact jH (g:=au) (λt=>D.str (rpS t)) λt f=>⟨_,U,ar (ab U U) (sI st hn (o.subset f))⟩
 have k2:lcI (.nm 0) aM fu [none,Z (.lst ((ts.map rpS).map D.str))] ((aT ts X).map bX) st=some (((aT ts X).map λp=>ts.idxOf p.1).map λk:Nat=>D.int (k:Int),st):=by
  have em:((aT ts X).map λp=>ts.idxOf p.1).map (λk:Nat=>D.int (k:Int))=(aT ts X).map λp=>D.int ((ts.idxOf p.1:Nat):Int):=by rw[qaQ];rfl
  rw[em];refine jH (tg:=.nm 0) (env:=[none,Z (.lst ((ts.map rpS).map D.str))]) (g:=bX) (λp=>D.int ((ts.idxOf p.1:Nat):Int)) λp C=>⟨[Z (bX p),Z (.lst ((ts.map rpS).map D.str))],U,?_⟩;have f:=(q p C).1;have r:aa (iCB cu (aa (iOp dIx (iV 0) (iC (.int 0))) ac)) ac [Z (bX p),Z (.lst ((ts.map rpS).map D.str))] st=some ([.d (.str (rpS p.1))],st):=ab (ar (ab (ae U U U) U) (sI st hn (o.subset f))) U;have v:iV 1 [Z (bX p),Z (.lst ((ts.map rpS).map D.str))] st=some (.d (.lst ((ts.map rpS).map D.str)),st):=rfl;have R:lQ ((ts.map rpS).map D.str)=some (ts.map rpS):=by
   generalize ts.map rpS=L
   induction L with
   |nil=>rfl
   |cons x L ih=>rw[qat,lQ,ih];rfl
  show uf (iV 1) _ _ _=_;simp only[uf,v,r,qab,R];rw[iFP (by rw[qaf];lia),zO hn o hd f];rfl
 obtain⟨J,s',S,A,rfl,rfl⟩:=bO (g:=.nm 4) (body:=fI) (ds:=(aT ts X).map bX) (λi env s=>∃ A,env=[Z (bG kd (aT ts X)),Z (.str kd),Z (.lst (ts.map au)),Z (.lst ((ts.map rpS).map D.str)),A,none]/\s=st) (env:=[Z (bG kd (aT ts X)),Z (.str kd),Z (.lst (ts.map au)),Z (.lst ((ts.map rpS).map D.str)),none,none]) (st:=st) ⟨_,U,U⟩ (by
  rintro i d env s u ⟨A,rfl,rfl⟩
  rw[qaz,qad]at u;obtain⟨p,hk,rfl⟩:=u;obtain⟨f,h0⟩:=q p (qbK hk);have hr:=sI s hn (o.subset f);have E:=Cu s (qaI.mpr ⟨p.1,f,U⟩:rpS p.1∈ts.map rpS);have z:(p.2==0)=false:=by simpa using h0
  refine⟨_,_,_,U,.inl (ah (bE (df (eJ (k:=true) (gH (ar (ab U (ab U U)) U))) (df (ak (ar (ab U U) U) U U) (ak (ar (ab (ae U U U) U) hr) U E))) U) (bE (df (eJ (k:=true) (gH (ar (ab (ae U U U) (ab U U)) U))) (df (gH (k:=false) (ar (ab (ae U U U) (ab U U)) U)) (ak (ae U U U) U (by rw[cc,z])))) U)),_,U,U⟩)
 generalize G:(aT ts X).map (λp=>ts.idxOf p.1)=P at *;have K:lcI (.tp [0,1]) aM cM [none,none] (cH (P.map λk:Nat=>D.int (k:Int)) ((P.drop 1).map λk:Nat=>D.int (k:Int))) s'=some ((cH (P.map λk:Nat=>D.int (k:Int)) ((P.drop 1).map λk:Nat=>D.int (k:Int))).map λ_=>D.bl true,s'):=sh (λ_=>D.bl true) λd H=>by
  obtain⟨a,c,rfl,hac⟩:=xA M d H;refine⟨_,U,ae U U ?_⟩;show some (D.bl (decide ((a:Int)<(c:Int))))=_;rw[decide_eq_true (by lia)]
 have T:((cH (P.map λk:Nat=>D.int (k:Int)) ((P.drop 1).map λk:Nat=>D.int (k:Int))).map λ_=>D.bl true)=((cH (P.map λk:Nat=>D.int (k:Int)) ((P.drop 1).map λk:Nat=>D.int (k:Int))).map λ_=>true).map D.bl:=by rw[qaQ];rfl
 rw[T]at K;have Y:(cH (P.map λk:Nat=>D.int (k:Int)) ((P.drop 1).map λk:Nat=>D.int (k:Int))).length<=1000000:=by
  rw[pX,qaf,<-G,qaf];lia
 have ta:((cH (P.map λk:Nat=>D.int (k:Int)) ((P.drop 1).map λk:Nat=>D.int (k:Int))).map λ_=>true).all id=true:=by rw[qeC];exact qaU.mpr λ_ _=>rfl
 have O:dSl s' (.d (.lst (P.map λk:Nat=>D.int (k:Int)))) (some 1) none=some (.lst ((P.drop 1).map λk:Nat=>D.int (k:Int))):=by
  show some (D.lst (fZ (P.map λk:Nat=>D.int (k:Int)) (some 1) none))=_;rw[HK,qik]
 have tl:(ts.map au).length<=1000000:=by rw[qaf];lia
 have ql:((aT ts X).map bX).length<=1000000:=by rw[qaf];lia
 have I:∀ {h m l w:Option W},aC (iOp dIx (iV 0) (iC (.int 1))) [Z (bG kd (aT ts X)),h,Z (.lst (ts.map au)),m,l,w] s'=some ((aT ts X).map bX,s'):=λ{h m l w}=>bA (ae U U U);have N:∀ {h m l w:Option W},aC (iV 2) [Z (bG kd (aT ts X)),h,Z (.lst (ts.map au)),m,l,w] s'=some (ts.map au,s'):=λ{h m l w}=>aO U;have Q:∀ {e0 h F m l:Option W},cx (aa (iV 5) (aa (iSl (iV 5) (iPs (iC (.int 1))) iPn) ac)) [e0,h,F,m,l,Z (.lst (P.map λk:Nat=>D.int (k:Int)))] s'=some (cH (P.map λk:Nat=>D.int (k:Int)) ((P.drop 1).map λk:Nat=>D.int (k:Int)),s'):=λ{e0 h F m l}=>by
  have x:=ab (a:=iV 5) (b:=aa (iSl (iV 5) (iPs (iC (.int 1))) iPn) ac) (env:=[e0,h,F,m,l,Z (.lst (P.map λk:Nat=>D.int (k:Int)))]) (st:=s') U (ab (qsl U U U O) U);simp only[cx,x,qab];rfl
 have fin:=aH (GX (a:=aa (aq (iLc 2 [] (cx (aa (iV 5) (aa (iSl (iV 5) (iPs (iC (.int 1))) iPn) ac))) (.tp [0,1]) aM cM)) ac) (env:=[Z (bG kd (aT ts X)),Z (.str kd),Z (.lst (ts.map au)),Z (.lst ((ts.map rpS).map D.str)),A,Z (.lst (P.map λk:Nat=>D.int (k:Int)))]) (ab (av (aR Q Y K)) U));rw[ta]at fin;exact az (n:=6) (k:=3) (b:=gM) U (ah (bE (df (eJ (k:=true) (gH (ar (ab U (ab U U)) U))) (df (ak (ar (ab U U) U) U U) (df (eJ (k:=true) (gH (ar (ab (ae U U U) (ab U U)) U))) (ak (ae U U U) U (wH _ _))))) U) (ah (bE (eJ (k:=true) (gH (ar (ab (ae U U U) (ab U U)) U))) U) (ah (aj (i:=3) (av (aR N tl V))) (ah (a6 I S) (ah (aj (i:=5) (av (aR I ql k2))) fin)))))
end
end Own
set_option maxHeartbeats 1000000
namespace Own
open PySem L2
open Sx (Pb Tb Good Named Fe LV ZV piv lexP leastR leaveL sumN unit colV basis)
noncomputable def nzW (n:Nat) (w:Nat->Int):Bool:=((qai n).map w).any λx=>decide (x≠0)
theorem sw :nzW n w=false↔∀ r,r<n->w r=0 :=by
 unfold nzW;rw[qfm];constructor
 ·intro h r a
  have:=h _ (qaI.mpr ⟨r,qaE.mpr a,U⟩)
  exact qdJ λq=>this (decide_eq_true q)
 ·intro h x hx
  obtain⟨r,a,rfl⟩:=qaI.mp hx;rw[h r (qaE.mp a)];decide
theorem F4 (s) (n) (w):Eg s [.d (.tup (mpI n w))]=some (.bl (nzW n w)) :=by
 rw[bP];show (a7 _).map _=_;rw[bm];rfl
section
variable {fs:List D}{b:Bool}{ts:List (List Int)}
theorem wE (h:Spl fs ts):∃ X w,mq fs b ts X w/\y8 b ts fs=!nzW fs.length w/\∀ st,∃ u,oQ [.d (.tup fs),.d (.str (aE b)),.d (tsD ts)] st=some (.d (if y8 b ts fs=true then .tup [.str "poly",bG (aE b) (aT (aB ts) X)] else .tup [.str "bar",.tup (mpI fs.length w)]),st++u) :=by
 obtain⟨X,w,S,f⟩:=Bf h;have a:y8 b ts fs=!nzW fs.length w:=by
  have:=Hy h S
  cases q:nzW fs.length w with
  |false=>exact wJ.mpr (this.mp (sw.mp q))
  |true=>exact Bool.eq_false_iff.mpr λt=>by rw[sw.mpr (this.mpr (wJ.mp t))]at q;cases q
 refine⟨X,w,S,a,λst=>?_⟩;obtain⟨u,e⟩:=f st;have c:=F4 (st++u) fs.length w;refine⟨u,?_⟩;rw[a];generalize nzW fs.length w=z at *;cases z with
 |true=>exact az U (ah (aj (ai U e)) (eK (de (gH (ar (ab (ae U U (io _ _ _)) U) c)) U)))
 |false=>exact az U (ah (aj (ai U e)) (ah (bE (gH (ar (ab (ae U U (io _ _ _)) U) c)) U) U))
end
theorem gf:∀ n,(mC n).Nodup
 |0=>by simp[mC]
 |n+1=>by
  rw[mC,qcy];refine⟨gf n,?_,?_⟩
  ·refine qiG _ (λa b c=>?_) (gf n)
   intro e;exact c (List.append_cancel_right e)
  ·intro a d b hb e
   subst e;obtain⟨t,_,rfl⟩:=qaI.mp hb
   have:=(fA n d).2 _ (qay _ (qao.mpr U))
   lia
theorem iT (b:n<=4) (fl:fs.length=2^n) (fv:∀ u∈fs,dY u) (a:ts.Sublist (aJ n)):Spl fs ts :=by
 have e:2^n<=16:=qaD (qba (by decide) b) (by decide);refine⟨by lia,fv,?_,λt c=>?_,((aG _).nodup_iff.mpr (gf _)).sublist a⟩
 ·have:=a.length_le
  rw[mY]at this;lia
 ·have hm:=fA _ ((aG _).mem_iff.mp (a.subset c))
  have f:=sQ hm;exact⟨λk d=>by have:=hm.2 k d;lia,by lia⟩
theorem lgm (B u:Sto) (ds):lg (B++.l ds::u) B.length=some ds :=by unfold lg;simp
theorem stm (B u:Sto) (c a):(B++c::u).set B.length a=B++a::u :=by simp
theorem lga (h:lg s n=some ds) (u):lg (s++u) n=some ds :=by
 have a:=sj h;unfold lg;rw[qaC ((qas.mp a).1),a]
theorem GZ (i:o env st=some (.h n,s1)) (f:a env s1=some (.d (.lst xs),c)) (g:lg s1 n=some e) (hg:lg c n=some ds) (hz:ds.length+xs.length<=1000000):cw (cI oM o (aa a ac)) env st=some (.nx env (c.set n (.l (ds++xs)))) :=by
 simp only[cw,cI,i,(ab (b:=ac) f U),g,hg,oM,hz,if_true,qab,qap]
noncomputable def chF:Nat->List (List Int)->List (List (List Int))
 |0,_=>[[]]
 |_+1,[]=>[]
 |m+1,t::ts=>((chF m ts).map λc=>t::c)++chF (m+1) ts
theorem wU (ts):chF 0 ts=[[]] :=by cases ts<;>rw[chF]
theorem fX:∀ (m) (ts),(chF m ts).length<=2^ts.length
 |0,ts=>by rw[wU];exact Nat.one_le_two_pow
 |m+1,[]=>by exact qbr _
 |m+1,t::ts=>by
  have b:=fX m ts;have a:=fX (m+1) ts;rw[chF,qau,qaf,qam];lia
theorem cg:∀ {m:Nat}{ts c:List (List Int)},c∈chF m ts↔c.Sublist ts/\c.length=m
 |0,ts,c=>by
  rw[wU,qao,qgt];exact⟨λe=>⟨by rw[e];exact List.nil_sublist _,e⟩,λh=>h.2⟩
 |m+1,[],c=>by
  refine⟨λh=>(nomatch h),λ⟨h,e⟩=>?_⟩
  rw[List.sublist_nil.mp h]at e;cases e
 |m+1,t::ts,c=>by
  rw[chF,qaV,qaI,cg];constructor
  ·rintro (⟨d,hd,rfl⟩|⟨h,e⟩)
   ·obtain⟨h,e⟩:=cg.mp hd
    exact⟨List.Sublist.cons_cons _ h,by rw[qam,e]⟩
   ·exact⟨h.cons _,e⟩
  ·rintro⟨h,e⟩
   cases h with
   |cons _ h=>exact .inr ⟨h,e⟩
   |cons_cons _ h=>exact .inl ⟨_,cg.mpr ⟨h,qek e⟩,U⟩
theorem qA (e:cD g (.d d) env=some a) (c:body a st=some (.nx b s)):bu g body (d::ds) env st=bu g body ds b s :=by
 rw[bu,e,qab,c,qab]
theorem Ge (c:cD g (.d d) env=some a) (b:body a st=some (.rt w s)):bu g body (d::ds) env st=some (.rt w s) :=by
 rw[bu,c,qab,b,qab]
theorem HM (ds) (k:Nat):fZ ds (some (k)) none=ds.drop k :=by
 unfold fZ;rw[HT.sIx_nat,HT.sIx_none];rcases qjy k ds.length with h|h
 ·rw[qf5 h,qcH (by rw[qdC];lia)]
 ·rw[qfN h,qd4,List.take_zero,qeu h]
theorem wV { m:Nat}{B:Sto} (b:∀ a st,qeU a<=16->bb k [.d (tsD a),.d (.int (m))] st=some (.d (.lst ((chF m a).map tsD)),st)) {ts} (y:ts.length<=16):∀ (a) (j) (A) (i n),ts.drop j=a->A.length+(chF (m+1) a).length<=100000->
  ∃ s p,bu (.tp [3,4]) (iu (bb k)) (bF j (a.map au)) [Z (tsD ts),Z (.int ((m+1:Nat))),some (.h B.length),i,n] (B++[.l (A.map tsD)])=some (.nx [Z (tsD ts),Z (.int ((m+1:Nat))),some (.h B.length),s,p] (B++[.l ((A++chF (m+1) a).map tsD)]))
 |[],j,A,i,n,_,_=>⟨i,n,by rw[chF,qbR];rfl⟩
 |t::a,j,A,i,n,hd,hz=>by
  have r:ts.drop (j+1)=a:=by rw[<-List.drop_drop,hd];rfl
  have f:a.length<=16:=by rw[<-r,qdC];lia
  rw[chF,qau,qaf]at hz;obtain⟨z,x,e⟩:=wV (B:=B) b y a (j+1) (A++(chF m a).map λc=>t::c) _ _ r (by rw[qau,qaf];lia);refine⟨z,x,?_⟩;rw[chF,<-qbl,<-e,qat,bF];have v:=b a (B++[.l (A.map tsD)]) f;have hm:eW (B++[.l (A.map tsD)]) (.d (.int ((m+1:Nat):Int))) (.d (.int 1))=some (.int (m:Int)):=by
   show some _=_;rw[show _ - 1=(m:Int) by lia]
  have w:iSl (iV 0) (iPs (iOp a9 (iV 3) (iC (.int 1)))) iPn [Z (tsD ts),Z (.int ((m+1:Nat):Int)),some (.h B.length),Z (.int (j:Int)),Z (au t)] (B++[.l (A.map tsD)])=some (.d (tsD a),B++[.l (A.map tsD)]):=by
   have ex:tsD a=.tup (fZ (ts.map au) (some ((j:Int)+1)) none):=by
    unfold tsD;rw[show (j:Int)+1=((j+1:Nat):Int) by lia,HM,<-qik,r]
   rw[ex];rfl
  have q:lcI (.nm 0) aM (gX (bb k)) [none,Z (au t)] ((chF m a).map tsD) (B++[.l (A.map tsD)])=some (((chF m a).map λc=>t::c).map tsD,B++[.l (A.map tsD)]):=by
   rw[qaQ];refine jH (tg:=.nm 0) (g:=tsD) (λc=>tsD (t::c)) λc b=>⟨_,U,ae (ci (ds:=[au t]) (ab U U) U (by show 1<=1000;decide)) U ?_⟩;exact qU _ (by have:=(λc b=>qaD (cg.mp b).1.length_le f) c b;rw[qaf];show 1+_<=_;lia)
  generalize tsD ts=T at *;have u:ax _ (aa _ (aa (iOp eW (iV 1) (iC (.int 1))) ac)) [Z T,some _,some (.h B.length),some _,Z (au t)] _=some (.d _,B++[.l (A.map tsD)]):=ai (ab w (ab (ae U U hm) U)) v;refine qA U ?_
  have:=GZ (o:=iV 2) U (av (aR (k:=1) (js:=[4]) (aO u) (by rw[qaf];lia) q)) (cm _ _) (cm _ _) (by rw[qaf,qaf,qaf];lia)
  rw[iL,<-qbI]at this;exact this
theorem jx:∀ (a m) (ts) (st),m<a->ts.length<=16->bb a [.d (tsD ts),.d (.int (m))] st=some (.d (.lst ((chF m ts).map tsD)),st)
 |0,_,_,_,h,_=>absurd h (qca _)
 |k+1,0,ts,st,_,_=>by
  rw[wU];generalize tsD ts=T
  have:=cB (n:=5) (b:=fV (bb k)) (ws:=[.d T,.d (.int ((0)))]) U (eK (de (s:=st) (ak U U (cc _ _ _)) U))
  rw[qdA]at this;exact this
 |k+1,m+1,ts,st,h,f=>by
  obtain⟨o,j,e⟩:=wV (λg s i=>jx k m g s (Nat.lt_of_succ_lt_succ h) i) f ts 0 [] none none U (by
   have:=fX (m+1) ts
   have:2^ts.length<=65536:=qaD (qba (by decide) f) (by decide)
   show 0+_<=_
   lia)
  have hn:dEq st (.d (.int ((m+1)))) (.d (.int 0))=some (.bl false):=by
   rw[cc,beq_eq_false_iff_ne.mpr (by lia)]
  have c:bL (aa (iV 0) ac) [Z (tsD ts),Z (.int ((m+1))),some (.h st.length),none,none] _=some (bF 0 _,st++[.l []]):=rfl;generalize tsD ts=T at *
  have:=i8 (n:=5) (b:=fV _) (ws:=[.d T,.d _]) U (ah (bE (ak U U hn) U) (ah U (ah (a6 c e) U))) (qan _) (cm _ _)
  rw[qch]at this;exact this
end Own
set_option maxHeartbeats 1000000
namespace Own
open PySem L2
open Sx (Pb Tb Good Named Fe LV ZV piv lexP leastR leaveL sumN unit colV basis)
section
variable {fs:List D}{b:Bool}
theorem FN (h:y8 b ts fs=false):¬ Tel b ts fs :=λt=>by rw[wJ.mpr t]at h;cases h
def gK (fs:List D) (b:Bool) (C:List (List Int)) (P:D):Prop:=∃ X w,mq fs b C X w/\(∀ r,r<fs.length->w r=0)/\P=bG (aE b) (aT (aB C) X)
abbrev Bar:=List (List Int)×(Nat->Int)
def m7 (fs:List D) (p:Bar):D:=.tup [tsD p.1,.tup (mpI fs.length p.2)]
def qp (fs:List D) (b:Bool) (p:Bar):Prop:=(∃ X,mq fs b p.1 X p.2)/\¬ ∀ r,r<fs.length->p.2 r=0
theorem xV :∀ (Cs) (A),(∀ C∈Cs,Spl fs C)->A.length+Cs.length<=100000->
  (∃ C P,C∈Cs/\gK fs b C P/\∀ (B Uu:Sto) (c f),∃ V,bu (.nm 4) fK (Cs.map tsD) [Z (.tup fs),Z (.str (aE b)),Z CD,some (.h B.length),c,f] (B++.l A::Uu)=some (.rt (.d (.tup [.str "poly",P])) (B++V)))\/
  ((∀ C∈Cs,¬ Tel b C fs)/\∃ Bs:List Bar,Bs.map qb3=Cs/\(∀ p∈Bs,qp fs b p)/\∀ (B Uu:Sto) (c f),∃ V i g,bu (.nm 4) fK (Cs.map tsD) [Z (.tup fs),Z (.str (aE b)),Z CD,some (.h B.length),c,f] (B++.l A::Uu)=some (.nx [Z (.tup fs),Z (.str (aE b)),Z CD,some (.h B.length),i,g] (B++.l (A++Bs.map (m7 fs))::V)))
 |[],A,_,_=>.inr ⟨λC h=>(nomatch h),[],U,λp h=>(nomatch h),λB Uu c f=>⟨Uu,c,f,by rw[show A++qgs _ []=A from qbR A];rfl⟩⟩
 |C::Cs,A,s,hz=>by
  rw[qam]at hz;obtain⟨X,w,S,k,I⟩:=wE (s C qag);cases q:y8 b C fs with
  |true=>
   rw[q]at k
   refine .inl ⟨C,_,qag,⟨X,w,S,(sw.mp (by cases z:nzW fs.length w with
    |false=>rfl
    |true=>rw[z]at k;cases k)),U⟩,λB Uu c f=>?_⟩
   obtain⟨u,e⟩:=I _;rw[q]at e;refine⟨.l A::Uu++u,?_⟩;rw[qbl]at e;exact Ge U (ah (aj (ai (ab U (ab U (ab U U))) e)) (eK (de (ak (ae U U (jg _ _ _)) U (nJ _ _ _)) U)))
  |false=>
   have step:∀ (B Uu:Sto) (c f:Option W),∃ V i g,∀ r,bu (.nm 4) fK (Cs.map tsD) [Z (.tup fs),Z (.str (aE b)),Z CD,some (.h B.length),i,g] (B++.l (A++[.tup [tsD C,.tup (mpI fs.length w)]])::V)=r->bu (.nm 4) fK ((C::Cs).map tsD) [Z (.tup fs),Z (.str (aE b)),Z CD,some (.h B.length),c,f] (B++.l A::Uu)=r:=λB Uu c f=>by
    obtain⟨u,e⟩:=I (B++.l A::Uu);rw[q]at e;refine⟨Uu++u,Z (tsD C),Z (.tup [.str "bar",.tup (mpI fs.length w)]),λr M=>?_⟩
    rw[qat];have L:A.length<1000000:=by lia
    generalize mpI fs.length w=W at *;generalize tsD C=T at *;generalize aE b=kd at *;have K:B++.l A::Uu++u=B++.l A::(Uu++u):=by rw[qbl];rfl
    rw[K]at e;have J:=C2 (o:=iV 3) (a:=a5 (aa (iV 4) (aa (iOp dIx (iV 5) (iC _)) ac))) (env:=[Z (.tup fs),Z (.str kd),Z CD,some _,Z T,Z (.tup [.str "bar",.tup W])]) U (ci (ab U (ab (ae U U (io _ _ _)) U)) U (by show 2<=1000;decide)) (lgm B _ A) (lgm B (Uu++u) A) L
    rw[stm]at J;rw[<-M];exact qA U (ah (aj (ai (ab U (ab U (ab U U))) e)) (ah (bE (ak (ae U U (jg _ _ _)) U (nJ _ _ _)) U) J))
   rcases xV Cs (A++[.tup [tsD C,.tup _]]) (λD h=>s D (qah _ h)) (by rw[qau];show A.length+1+_<=_;lia) with⟨D,P,m,v,j⟩|⟨hn,Bs,y,E,j⟩
   ·refine .inl ⟨D,P,qah _ m,v,λB Uu c f=>?_⟩
    obtain⟨V,i,g,e⟩:=step B Uu c f;obtain⟨V',G⟩:=j B V i g;exact⟨V',e _ G⟩
   ·refine .inr ⟨λD m=>?_,(C,w)::Bs,by rw[qat,y],λp H=>?_,λB Uu c f=>?_⟩
    ·rcases qav.mp m with rfl|m
     ·exact FN q
     ·exact hn D m
    ·rcases qav.mp H with rfl|H
     ·exact⟨⟨X,S⟩,λz=>by rw[sw.mpr z,q]at k;cases k⟩
     ·exact E p H
    ·obtain⟨V,i,g,e⟩:=step B Uu c f
     obtain⟨V',x,F,G⟩:=j B V i g;refine⟨V',x,F,e _ ?_⟩;rw[G,qbl];rfl
theorem vm (Cs) (s:∀ C∈Cs,Spl fs C) (hz:Cs.length<=100000) :
  (∃ C P,C∈Cs/\gK fs b C P/\∀ st,gn [.d (.tup fs),.d (.str (aE b)),.d (.lst (Cs.map tsD))] st=some (.d (.tup [.str "poly",P]),st))\/
  ((∀ C∈Cs,¬ Tel b C fs)/\∃ Bs:List Bar,Bs.map qb3=Cs/\(∀ p∈Bs,qp fs b p)/\∀ st,gn [.d (.tup fs),.d (.str (aE b)),.d (.lst (Cs.map tsD))] st=some (.d (.tup [.str "bars",.tup (Bs.map (m7 fs))]),st)) :=by
 rcases xV Cs [] s (by rw[qb7,qbg];exact hz) with⟨D,P,m,v,j⟩|⟨hn,Bs,y,E,j⟩
 ·refine .inl ⟨D,P,m,v,λst=>?_⟩
  obtain⟨V,e⟩:=j st [] none none
  have:=cB (n:=6) (b:=re) (ws:=[.d _,.d _,.d _]) U (ah U (eK (a6 (aO U) e)))
  rw[qch]at this;exact this
 ·refine .inr ⟨hn,Bs,y,E,λst=>?_⟩
  obtain⟨V,i,g,e⟩:=j st [] none none;generalize Bs.map (m7 fs)=A' at *;have k:ft (st++.l A'::V) [.h st.length]=some (.tup A'):=by
   show (lg _ st.length).map _=_;rw[(lgm st V A')];rfl
  have:=cB (n:=6) (b:=re) (ws:=[.d _,.d _,.d _]) U (ah U (ah (a6 (aO U) e) (aH (ci (ab U (ab (ar (ab U U) k) U)) U (by show 2<=1000;decide)))))
  rw[qch]at this;exact this
end
end Own
set_option maxHeartbeats 1000000
namespace Own
open PySem L2
open Sx (Pb Tb Good Named Fe LV ZV piv lexP leastR leaveL sumN unit colV basis)
theorem Dk {f}{L}{n} (p:L=((2^n:Nat):Int)) (i:∀ s,aS s [.d f]=some (.int L)):∀ (g j b) (a),j+g=n->n<=60->g<b->bq b8 dk b [Z f,Z (.int a),Z (.int ((2^j:Nat)))] st=some (.nx [Z f,Z (.int (a+g)),Z (.int ((2^n:Nat)))] st) :=by
 intro g
 induction g with
 |zero=>
  intro j b a r hn h;obtain⟨k,rfl⟩:∃ k,b=k+1:=⟨b - 1,by lia⟩;have e:j=n:=by lia
  subst e;have c:b8 [Z f,Z (.int a),Z (.int ((2^j:Nat)))] st=some (false,st):=by
   refine ak U (ar U (i st)) ?_;show some _=_;rw[p];simp
  rw[vq c]
  simp
 |succ g q=>
  intro j b a r hn h;obtain⟨k,rfl⟩:∃ k,b=k+1:=⟨b - 1,by lia⟩;have m:2^j<2^n:=qg6 (by decide) (by lia);have c:b8 [Z f,Z (.int a),Z (.int ((2^j:Nat)))] st=some (true,st):=by
   refine ak U (ar U (i st)) ?_;show some _=_;rw[decide_eq_true (by lia)]
  have o:((2^(j+1):Nat))=((2^j:Nat):Int)*2:=by rfl
  have hb:dk [Z f,Z (.int a),Z (.int ((2^j:Nat)))] st=some (.nx [Z f,Z (.int (a+1)),Z (.int ((2^(j+1):Nat)))] st):=by
   rw[o];refine kU (aj (ae U U ?_)) U;show (if qgu _ 2 then some _ else none)=_;rw[iFP (dz (by decide))]
  rw[Bx c hb,(q _ k _ (by lia) hn (by lia))];have l:a+1+(g)=a+((g+1:Nat)):=by lia
  rw[l]
section
variable {fs:List D}{n:Nat}
theorem FG (a:fs.length=2^n) (hn:n<=4):fj [.d (.tup fs)] st=some (.d (.int (n)),st) :=by
 have e:=Dk (st:=st) (f:=.tup fs) U (λs=>by
  show some (D.int _)=_
  rw[a]) n 0 (2^8000) 0 (by lia) (by lia) (qaO (show n<2^3 by lia) (qba (by decide) (by decide)))
 rw[qbO]at e;exact az U (ah (aj U) (ah (aj U) (ah e U)))
end
def vW (b:Bool) (n:Nat) (t:List Int) (q:Nat):Int:=if b=true then (if ((qai n).all λk=>q / 2^k%2==0||t.contains (k:Int))=true then (if (t.length+((qai n).filter λk=>q / 2^k%2==1).length)%2=0 then 1 else -1) else 0) else bJ false t (q:Nat)
def idC (b:Bool) (n:Nat):Bool:=(qai (2^n)).all λq=>(qai (2^n)).all λr=>(sumN (aJ n).length λk=>vW b n ((aJ n).getD k []) q*bJ b ((aJ n).getD k []) (r:Nat))==(if q=r then (if b=true then 1 else ((2^n:Nat):Int)) else 0)
theorem Ep (b):∀ {n},n<=3->idC b n=true
 |0,_=>by cases b<;>decide +kernel
 |1,_=>by cases b<;>decide +kernel
 |2,_=>by cases b<;>decide +kernel
 |3,_=>by cases b<;>decide +kernel
theorem y9 (hn:n<=3) (fl:fs.length=2^n) (fv:∀ u∈fs,dY u):Tel b (aJ n) fs :=by
 refine⟨λk=>sumN fs.length λq=>vW b n ((aJ n).getD k []) q*sz (fs.getD q .non),λr a d=>?_⟩;have g:dY (fs.getD r .non):=by
  rw[qaA,qal a];exact fv _ (qbJ a)
 have i:vlR b (aJ n) (λk=>sumN fs.length λq=>vW b n ((aJ n).getD k []) q*sz (fs.getD q .non)) r=sumN fs.length λq=>sz (fs.getD q .non)*sumN (aJ n).length λk=>vW b n ((aJ n).getD k []) q*bJ b ((aJ n).getD k []) (r):=by
  unfold vlR
  have:∀ k,(sumN fs.length λq=>vW b n ((aJ n).getD k []) q*sz _)*bJ b ((aJ n).getD k []) (r)=sumN fs.length λq=>sz (fs.getD q .non)*_:=λk=>by
   rw[<-Sx.sumN_right];exact Sx.sumN_congr λq _=>by rw[qaW (vW b n _ q),qbj]
  rw[Sx.sumN_congr λk _=>this k,Sx.sumN_swap];exact Sx.sumN_congr λq _=>Sx.sumN_mul _ _ _
 have j:(sumN fs.length λq=>sz (fs.getD q .non)*sumN (aJ n).length λk=>vW b n ((aJ n).getD k []) q*bJ b ((aJ n).getD k []) (r))=sz (fs.getD r .non)*(if b=true then 1 else ((2^n:Nat):Int)):=by
  have c:∀ q,q<fs.length->_=if q=r then (if b=true then 1 else (_:Int)) else 0:=λq c=>
   beq_iff_eq.mp (qaU.mp (qaU.mp (Ep b hn) q (qaE.mpr (by lia))) r (qaE.mpr (by lia)))
  rw[Sx.sumN_single a (λq h f=>by rw[c q h,iFN f,qa9]),c r a,iFP U]
 rcases sz3 g with q|q|q
 ·exact absurd q (λe=>d ((FH g).mp e))
 ·lia
 ·lia
theorem IJ (st):∀ {n:Nat},n<=3->jL [.d (.int (n)),.d (.int (n))] st=some (.d (tsD (aJ n)),st)
 |0,_=>rfl
 |1,_=>rfl
 |2,_=>rfl
 |3,_=>rfl
section
variable {fs:List D}{b:Bool}{n:Nat}
theorem wS (hn:n<=3) (fl:fs.length=2^n) (fv:∀ u∈fs,dY u) {C} (h:C∈chF j (aJ n)):Spl fs C :=iT (by lia) fl fv (cg.mp h).1
def fT (fs:List D) (b:Bool) (n i:Nat) (Bs:List Bar):Prop:=(i=0/\Bs=[])\/∃ k,i=k+1/\Bs.map qb3=chF k (aJ n)/\∀ p∈Bs,qp fs b p
def cr (fs:List D) (Bs:List Bar):D:=.tup (Bs.map (m7 fs))
def Least (fs:List D) (b:Bool) (n j:Nat):Prop:=∀ i,i<j->∀ C∈chF i (aJ n),¬ Tel b C fs
theorem lh (hn:n<=3):(aJ n).length<=8:=by
 rw[mY];exact qaD (qba (by decide) hn) (by decide)
theorem BZ (hn:n<=3) (fl:fs.length=2^n) (fv:∀ u∈fs,dY u) {N}:∀ (g j a) (e R),j+g=(aJ n).length->g<a->Least fs b n j->(∃ Bs,fT fs b n j Bs/\e=cr fs Bs)->
  ((∃ C P,C∈chF j (aJ n)/\gK fs b C P/\R=.tup [.str "poly",P])\/((∀ C∈chF j (aJ n),¬ Tel b C fs)/\∃ Bs,fT fs b n (j+1) Bs/\R=.tup [.str "bars",cr fs Bs]))->
  ∃ i C P Bs,C∈chF i (aJ n)/\gK fs b C P/\Least fs b n i/\fT fs b n i Bs/\∀ st,bq eQ gu a [Z (.tup fs),Z (.str (aE b)),Z N,Z (tsD (aJ n)),Z (.int (j)),Z e,Z R] st=some (.nx [Z (.tup fs),Z (.str (aE b)),Z N,Z (tsD (aJ n)),Z (.int (i)),Z (cr fs Bs),Z (.tup [.str "poly",P])] st) :=by
 intro g
 induction g with
 |zero=>
  intro j a e R Y W I K y;obtain⟨k,rfl⟩:∃ k,a=k+1:=⟨a - 1,by lia⟩;rcases y with⟨C,P,c,m,rfl⟩|⟨t,_⟩
  ·obtain⟨Bs,M,rfl⟩:=K
   refine⟨j,C,P,Bs,c,m,I,M,λst=>?_⟩;refine vq ?_;exact ak (ae U U (jg _ _ _)) U (nJ _ _ _)
  ·exact absurd (y9 hn fl fv) (t _ (cg.mpr ⟨qeD _,by lia⟩))
 |succ g S=>
  intro j a e R Y W I K y;obtain⟨k,rfl⟩:∃ k,a=k+1:=⟨a - 1,by lia⟩;rcases y with⟨C,P,c,m,rfl⟩|⟨t,As,F,rfl⟩
  ·obtain⟨Bs,M,rfl⟩:=K
   refine⟨j,C,P,Bs,c,m,I,M,λst=>?_⟩;refine vq ?_;exact ak (ae U U (jg _ _ _)) U (nJ _ _ _)
  ·obtain⟨A,O⟩:∃ A,A=cr fs As:=⟨_,U⟩
   rw[<-O];have l:=lh hn;have B:Least fs b n _:=λi hi C c=>by
    rcases Nat.lt_or_eq_of_le (Nat.le_of_lt_succ hi) with q|q
    ·exact I i q C c
    ·subst q;exact t C c
   have nx:∀ {R':D},(∀ st,gn [.d (.tup fs),.d (.str (aE b)),.d (.lst ((chF (j+1) (aJ n)).map tsD))] st=some (.d R',st))->∀ st r,bq eQ gu k [Z (.tup fs),Z (.str (aE b)),Z N,Z (tsD (aJ n)),Z (.int ((j+1:Nat):Int)),Z A,Z R'] st=r->
     bq eQ gu (k+1) [Z (.tup fs),Z (.str (aE b)),Z N,Z (tsD (aJ n)),Z (.int (j:Int)),Z e,Z (.tup [.str "bars",A])] st=r:=λ{R'} f st r hr=>by
    have Q:=(λst=>jx 10 (j+1) (aJ n) st (by lia) (by lia)) st;have hd:a9 st (.d (.int (j:Int))) (.d (.int 1))=some (.int ((j+1:Nat):Int)):=by
     show some (D.int ((j:Int)+1))=_;rw[show (j:Int)+1=((j+1:Nat):Int) by lia]
    rw[<-hr];generalize (chF (j+1) (aJ n)).map tsD=L at *;generalize tsD (aJ n)=T at *;generalize aE b=kd at *;generalize ((j+1:Nat):Int)=J at *;exact Bx (s:=st) (ak (ae U U (jg _ _ _)) U (nJ _ _ _)) (ah (aj (ae U U (io _ _ _))) (ah (aj (ae U U hd)) (aj (ai (ab U (ab U (ab (ai (ab U (ab U U)) Q) U))) (f st)))))
   rcases vm _ (λC c=>wS hn fl fv c) (qaD (fX _ _) (qaD (qba (by decide) l) (by decide))) with⟨C,P,c,m,f⟩|⟨w,B2,v,o,f⟩
   ·obtain⟨i,C',P',x,z,E,G,l,H⟩:=S (j+1) k A _ (by lia) (by lia) B ⟨As,F,O⟩ (.inl ⟨C,P,c,m,U⟩)
    exact⟨i,C',P',x,z,E,G,l,λst=>nx f st _ (H st)⟩
   ·obtain⟨i,C',P',x,z,E,G,l,H⟩:=S (j+1) k A _ (by lia) (by lia) B ⟨As,F,O⟩ (.inr ⟨w,B2,.inr ⟨_,U,v,o⟩,U⟩)
    exact⟨i,C',P',x,z,E,G,l,λst=>nx f st _ (H st)⟩
theorem yt (hn:n<=3) (fl:fs.length=2^n) (fv:∀ u∈fs,dY u):∃ i C P Bs,C∈chF i (aJ n)/\gK fs b C P/\Least fs b n i/\fT fs b n i Bs/\∀ st,fL [.d (.tup fs),.d (.str (aE b))] st=some (.d (.tup [P,cr fs Bs]),st):=by
 have l:=lh hn;have fin:∀ {R:D},(∀ st,gn [.d _,.d (.str (aE b)),.d (.lst ((chF 0 (aJ n)).map tsD))] st=some (.d R,st))->_->∃ i C P Bs,C∈chF i _/\gK fs b C P/\Least fs b n i/\fT fs b n i Bs/\∀ st,fL [.d _,.d (.str (aE b))] st=some (.d (.tup [P,cr fs Bs]),st):=λ{R} f y=>by
  obtain⟨i,C',P',x,z,E,G,l,H⟩:=BZ (N:=.int (n)) hn fl fv (aJ n).length 0 _ (.tup []) R (by lia) (qbD l (z9 (by decide))) (λi hi=>absurd hi (qca _)) ⟨_,.inl ⟨U,U⟩,U⟩ y;refine⟨i,C',P',x,z,E,G,l,λst=>?_⟩;have Q:=(λst=>jx 10 0 (aJ n) st (by lia) (by lia)) st;have V:=FG (st:=st) fl (by lia);have X:=IJ st hn;generalize (chF 0 (aJ n)).map tsD=L at *;generalize tsD (aJ n)=T at *;generalize aE b=kd at *;generalize cr fs x=E' at *;exact az (n:=7) (k:=2) (b:=tH) U (ah (aj (ai U V)) (ah (aj (ai (ab U (ab U U)) X)) (ah (aj U) (ah (aj U) (ah (aj (ai (ab U (ab U (ab (ai (ab U (ab U U)) Q) U))) (f st))) (ah (H st) (aH (ci (ab (ae U U (io _ _ _)) (ab U U)) U (by show 2<=1000;decide)))))))))
 rcases vm _ (λC c=>wS hn fl fv c) (qaD (fX _ _) (qaD (qba (by decide) l) (by decide))) with⟨C,P,c,m,f⟩|⟨w,B2,v,o,f⟩
 ·exact fin f (.inl ⟨C,P,c,m,U⟩)
 ·exact fin f (.inr ⟨w,B2,.inr ⟨0,U,v,o⟩,U⟩)
end
end Own
set_option maxHeartbeats 1000000
namespace Own
open PySem L2
open Sx (Pb Tb Good Named Fe LV ZV piv lexP leastR leaveL sumN unit colV basis)
noncomputable def pN (b:Bool) (r:Nat):List Int->List (List Int)->Int
 |y::a,t::ts=>y*bJ b t (r:Nat)+pN b r a ts
 |_,_=>0
noncomputable def zy (a:List Int):Nat:=(a.filter λy=>decide (y≠0)).length
def D2 (fs:List D) (b:Bool) (a:List Int) (ts:List (List Int)):Prop:=∀ r,r<fs.length->fs.getD r .non≠.non->0<sz (fs.getD r .non)*pN b r a ts
theorem pM (n) (f):sumN (n+1) f=f 0+sumN n λk=>f (k+1) :=by
 have:=Sx.sumN_append 1 n f
 rw[qeM 1 n]at this;rw[this];have e:sumN 1 f=f 0:=by show 0+f 0=f 0;lia
 rw[e];exact congrArg _ (Sx.sumN_congr λk _=>by rw[qeM])
theorem DY (b:Bool) (r:Nat):∀ {a:List Int}{ts:List (List Int)},a.length=ts.length->vlR b ts (λk=>a.getD k 0) r=pN b r a ts
 |[],[],_=>rfl
 |[],_::_,h=>nomatch h
 |_::_,[],h=>nomatch h
 |y::a,t::ts,h=>by
  unfold vlR;rw[qam,pM,pN,<-DY b r (qek h)];rfl
theorem DZ (b:Bool) (r:Nat) (X:List Int->Int):∀ ts:List (List Int),pN b r (ts.map X) ts=sumN ts.length λk=>X (ts.getD k [])*bJ b (ts.getD k []) r
 |[]=>rfl
 |t::ts=>by rw[qat,pN,qam,pM,DZ b r X ts];rfl
noncomputable def gC:List Int->List (List Int)->List (List Int)
 |y::a,t::ts=>if y=0 then gC a ts else t::gC a ts
 |_,_=>[]
theorem pO:∀ (a) (ts),(gC a ts).Sublist ts
 |[],ts=>by rw[gC];all_goals (simp_all)
 |_::_,[]=>by rw[gC];all_goals (simp_all)
 |y::a,t::ts=>by
  rw[gC];split
  ·exact (pO a ts).cons _
  ·exact List.Sublist.cons_cons _ (pO a ts)
theorem ve:∀ {a:List Int}{ts:List (List Int)},a.length=ts.length->(gC a ts).length=zy a
 |[],[],_=>rfl
 |[],_::_,h=>nomatch h
 |_::_,[],h=>nomatch h
 |y::a,t::ts,h=>by
  have b:=ve (qek h);unfold zy at b ⊢;rw[gC,qb1];by_cases e:y=0
  ·rw[iFP e,iFN (by simp[e]),b]
  ·rw[iFN e,iFP (by simp[e]),qam,qam,b]
theorem Bk (b:Bool):∀ {a:List Int}{ts:List (List Int)},a.length=ts.length->∃ c:List Int,c.length=(gC a ts).length/\∀ r,pN b r c (gC a ts)=pN b r a ts
 |[],[],_=>⟨_,U,λ_=>rfl⟩
 |[],_::_,h=>nomatch h
 |_::_,[],h=>nomatch h
 |y::a,t::ts,h=>by
  obtain⟨c,d,hz⟩:=Bk b (qek h);rw[gC];by_cases e:y=0
  ·rw[iFP e]
   refine⟨c,d,λr=>?_⟩;rw[pN,e,hz r,qbp,qbO]
  ·rw[iFN e]
   refine⟨y::c,by rw[qam,qam,d],λr=>?_⟩;rw[pN,pN,hz r]
theorem yV (g:a.length=ts.length) (h:D2 fs b a ts):Tel b (gC a ts) fs :=by
 obtain⟨e,d,f⟩:=Bk b g;refine⟨λk=>e.getD k 0,λr c hn=>?_⟩;rw[DY b r d,f];exact h r c hn
theorem Ee (a):zy a<=a.length :=qbV _ _
section
variable {fs:List D}{b:Bool}{n:Nat}
theorem uU (hn:n<=3) (fl:fs.length=2^n) (fv:∀ u∈fs,dY u) {C}(j:C∈chF i (aJ n)) (S:mq fs b C X w) (hz:∀ r,r<fs.length->w r=0) (h:Least fs b n i):(aT (aB C) X).length=i :=by
 obtain⟨f,l⟩:=cg.mp j;have m:(aT (aB C) X).length=zy (C.map X):=by
  unfold aT zy;rw[qaf,qhW,qaf];exact ((aG C).filter _).length_eq
 have g:(C.map X).length=C.length:=qaf ..;have k:=Ee (C.map X);rcases qeK _ i with q|q
 ·exact absurd (yV g (λr e d=>by
  rw[DZ];obtain⟨a,c⟩:=wG (iT (by lia) fl fv f) S e;rcases qdj a with q|q
  ·exact q
  ·exact absurd (hz r e) (c d q.symm))) (h _ q _ (cg.mpr ⟨(pO _ _).trans f,ve g⟩))
 ·lia
end
end Own
set_option maxHeartbeats 1000000
namespace Own
open PySem L2
open Sx (Pb Tb Good Named Fe LV ZV piv lexP leastR leaveL sumN unit colV basis)
def rF (fs:List D):List Nat:=(qai fs.length).filter λr=>!db (fs.getD r .non)
theorem wt :r∈rF fs↔r<fs.length/\fs.getD r .non≠.non :=by
 unfold rF;rw[qbm,qaE];generalize fs.getD r .non=d;refine and_congr_right λ_=>?_;cases d<;>simp[db]
theorem Fs (fs):(rF fs).length<=fs.length :=by
 have:=qbV (λr=>!db (fs.getD r .non)) (qai fs.length)
 rwa [qar]at this
theorem t7 (fs):bF 0 fs=(qai fs.length).map λr:Nat=>D.tup [.int (r),fs.getD r .non] :=by
 refine qbq λi=>?_;rw[dB,qaz];by_cases h:i<fs.length
 ·have e:fs.getD i .non=fs[i]:=by rw[qaA,qal h];rfl
  rw[qbe h,qal h,qap,qap,e,qbg]
 ·rw[qaF (by lia),qaF (by rw[qar];lia)];rfl
theorem DR (fv:∀ u∈fs,dY u) (b:r∈rF fs) {V } (f:V env s=some (.d (.tup fs),s)) (e:R env s=some (.d (.int (r)),s)):iOp eW (iOp aZ (iC (.int 2)) (iOp dIx V R)) (iC (.int 1)) env s=some (.d (.int (sz (fs.getD r .non))),s) :=by
 obtain⟨a,hn⟩:=wt.mp b;have c:fs[r]?=some (fs.getD r .non):=by rw[qaA,qal a];rfl
 have g:dY (fs.getD r .non):=fv _ (by rw[qaA,qal a];exact qbJ a);have hx:=by
  exact cT c
 rcases g with q|q|q
 ·exact absurd q hn
 all_goals
  rw[q]at hx ⊢;exact ae (ae U (ae f e hx) (bx _ (eF (by decide)))) U U
theorem F6 (st:Sto):∀ {n:Nat},n<=3->qy ((2^n:Nat)) - 1=(n)
 |0,_=>by decide +kernel
 |1,_=>by decide +kernel
 |2,_=>by decide +kernel
 |3,_=>by decide +kernel
theorem GY (h:o env st=some (.d (.int i),s)):qC o env st=some (.d (.int (qy i)),s) :=by
 simp only[qC,h,qab]
section
variable {fs:List D}{b:Bool}{n:Nat}
theorem GK (st) (hn:n<=3) (fl:fs.length=2^n) (h:e0 env st=some (.d (.tup fs),st)):iOp eW (qC (iCB aS (aa e0 ac))) (iC (.int 1)) env st=some (.d (.int (n)),st) :=by
 have a:aS st [.d (.tup fs)]=some (.int ((2^n:Nat))):=by
  show some (D.int _)=_;rw[fl]
 have c:eW st (.d (.int (qy ((2^n:Nat))))) (.d (.int 1))=some (.int (n)):=by
  show some _=_;rw[F6 st hn]
 exact ae (GY (ar (ab h U) a)) U c
end
section
variable {b:Bool}{ts:List (List Int)}{X:List Int->Int}{w:Nat->Int}{st:Sto}{fs:List D}
theorem yN (h:Spl fs ts) {r:Nat}:gj [.d (bG (aE b) (aT (aB ts) X)),.d (.int (r))] st=some (.d (.int (vlR b ts (λt=>X (ts.getD t [])) r)),st) :=by
 have f:∀ p∈aT _ X,p.1∈ts:=λp g=>by
  obtain⟨t,l,rfl⟩:=qaI.mp g;exact (aG _).mem_iff.mp (qbm.mp l).1
 have z:(aT (aB ts) X).length<=16:=by
  unfold aT;rw[qaf]
  have:=qbV (λt=>decide (X t≠0)) (aB ts)
  rw[(aG _).length_eq]at this
  have:=h.tl
  lia
 have u:rC st [.d (.lst ((aT (aB ts) X).map λp=>D.int (p.2*bJ b p.1 (r))))]=some (.int (vlR b ts (λt=>X (ts.getD t [])) r)):=by
  have e:((aT (aB ts) X).map λp=>D.int (p.2*bJ b p.1 (r)))=((aT (aB ts) X).map λp=>p.2*bJ b p.1 (r)).map D.int:=by rw[qaQ];rfl
  rw[e];show (a7 _).map _=_;rw[bm,qap,Ai X (λt=>bJ b t _) ts];rfl
 have n:((aT (aB ts) X).map bX).length<=1000000:=by rw[qaf];lia
 exact az U (aH (ar (ab (av (aR (bA (ae U U U)) n (jH _ λp g=>by
  refine⟨_,U,?_⟩;have e:=uH (st:=st) (b:=b) (row:=(r)) (by lia) (h.tt _ (f p g)).1 (by have:=(h.tt _ (f p g)).2;lia)
  exact ae U (ai (ab (ae U U U) (ab U (ab U U))) e) (bx _ (dz (by have:=xY b p.1 (r);lia)))))) U) u))
theorem AZ (h:Spl fs ts) (S:mq fs b ts X w) (hz:∀ r,r<fs.length->w r=0):dh [.d (bG (aE b) (aT (aB ts) X)),.d (.tup fs)] st=some (.d (.bl true),st):=by
 have k:=h.fl;have y:=Fs fs;have v:lcI (.tp [0,1]) eM d6 [none,none] (bF 0 fs) st=some ((rF fs).map λr:Nat=>D.int (r),st):=by
  rw[t7];exact iY _ _ λr i=>⟨_,U,U,U⟩
 have k2:lcI (.nm 0) aM cv [none,Z (bG (aE b) (aT (aB ts) X)),Z (.tup fs)] ((rF fs).map λr:Nat=>D.int (r)) st=some (((rF fs).map λ_=>true).map D.bl,st):=by
  have em:((rF fs).map λ_=>true).map D.bl=(rF fs).map λ_=>D.bl true:=by rw[qaQ];rfl
  rw[em];refine jH _ λr i=>⟨_,U,?_⟩;obtain⟨c,hn⟩:=wt.mp i;obtain⟨p1,m⟩:=wG h S c;have pos:0<vlR b ts (λt=>X (ts.getD t [])) r*sz (fs.getD r .non):=by
   rw[qaW];rcases qdj p1 with q|q
   ·exact q
   ·exact absurd (hz r c) (m hn q.symm)
  refine ae (ae (ai (ab U (ab U U)) (yN (st:=st) (b:=b) (X:=X) h (r:=r))) (DR (s:=st) (env:=[Z (.int (r:Int)),Z (bG (aE b) (aT (aB ts) X)),Z (.tup fs)]) (V:=iV 2) (R:=iV 0) h.fv i U U) (bx _ (dz (by
   rcases sz3 (Be h c) with q|q|q<;>rw[q]<;>decide)))) rfl ?_
  show some _=_;rw[decide_eq_true pos]
 have j:((rF fs).map λr:Nat=>D.int (r)).length<=1000000:=by rw[qaf];lia
 have x:(bF 0 fs).length<=1000000:=by rw[nH];lia
 have o:((rF fs).map λ_=>true).all id=true:=by rw[qeC];exact qaU.mpr λ_ _=>rfl
 have fin:=aH (GX (a:=aa (aq (iLc 1 [0,1] (aC (iV 2)) _ aM cv)) ac) (env:=[some _,some _,some _]) (ab (av (aR (aO U) j k2)) U));rw[o]at fin;exact az U (ah (aj (av (aR U x v))) fin)
end
end Own
set_option maxHeartbeats 1000000
namespace Own
open PySem L2
open Sx (Pb Tb Good Named Fe LV ZV piv lexP leastR leaveL sumN unit colV basis)
section
variable {b:Bool}{ts:List (List Int)}{X:List Int->Int}{w:Nat->Int}{st:Sto}{fs:List D}
theorem t9 :∀ N,(∀ r,r<N->0<=w r/\(w r=0->g r=0))->(((qai N).filter λr=>decide (0<w r)).map g).sum=sumN N g
 |0,_=>rfl
 |N+1,h=>by
  obtain⟨a,c⟩:=h N (by lia);rw[qdN,List.filter_append,qbI,qhV,(t9 N λr f=>h r (by lia)),qb1];by_cases q:0<w N
  ·rw[iFP (decide_eq_true q)]
   show sumN N g+(g N+0)=sumN N g+g N;lia
  ·rw[iFN (by simpa using q)]
   show sumN N g+0=sumN N g+g N;lia
theorem zS (h:Spl fs ts) (S:mq fs b ts X w) (hz:∃ r,r<fs.length/\w r≠0):e9 [.d (.tup fs),.d (.str (aE b)),.d (tsD ts),.d (.tup (mpI fs.length w))] st=some (.d (.bl true),st):=by
 have I:=h.fl;have w0:=λr f=>(S.w0 r f).1;obtain⟨Y,n,O⟩:=hz;have o:∀ r,r<fs.length->dY _:=λr f=>Be h f
 -- the weights themselves
 obtain⟨E,s1,z,l,m,rfl,rfl⟩:=bO (g:=.tp [4,5]) (body:=gz) (ds:=cH fs (mpI fs.length w)) (λi env s=>∃ l m,env=[some _,some _,some _,some _,l,m,none,none]/\s=st) (env:=[Z (.tup fs),Z (.str (aE b)),Z (tsD ts),Z (.tup (mpI fs.length w)),none,none,none,none]) ⟨_,_,U,U⟩ (by
  rintro i d env s hd ⟨l,m,rfl,rfl⟩
  rw[fR,qaa]at hd;obtain⟨d1,B,hd⟩:=hd;obtain⟨d2,v,rfl⟩:=qad.mp hd;obtain⟨hi,rfl⟩:=jN v;have H:fs.getD i .non=d1:=by rw[qaA,B];rfl
  have F:=o i hi;have hw:=S.wn i hi;rw[H]at F hw;have Q:fB (aF jz (iV 4) (iC .non)) (aF dNe (iV 5) (iC (.int 0))) [Z (.tup fs),Z (.str (aE b)),Z (tsD ts),Z (.tup (mpI fs.length w)),Z d1,Z (.int (w i)),none,none] s=some (false,s):=by
   rcases F with rfl|rfl|rfl
   ·rw[hw U];rfl
   ·exact sD (ak U U U)
   ·exact sD (ak U U U)
  refine⟨_,_,_,U,.inl (bE (df (eJ (k:=true) (gH (ar (ab U (ab U U)) U))) (df (gH (k:=false) (ar (ab U (ab U U)) U)) (df (ak (k:=false) U U ?_) Q))) U),_,_,U,U⟩;show some (D.bl (decide (w i<0)))=_
  rw[(decide_eq_false (by have:=w0 i hi;lia))])
 -- the rows with a p
 have J:lcI (.tp [0,1]) gD gx [none,none] (bF 0 (mpI fs.length w)) s1=some (((qai fs.length).filter λr=>decide (0<w r)).map λr:Nat=>D.int (r),s1):=by
  rw[t7,aD];refine iY _ _ λr f=>?_;have g:(mpI fs.length w).getD r .non=.int (w r):=by rw[qaA,bi (qaE.mp f)];rfl
  rw[g];exact⟨_,U,U,U⟩
 -- the sums
 obtain⟨G,M,A,u,rfl,rfl⟩:=bO (g:=.nm 7) (body:=gy) (ds:=ts.map au) (λi env s=>∃ u,env=[some _,some _,some _,some _,l,m,some _,u]/\s=s1) (env:=[some _,some _,Z (tsD ts),some _,l,m,some _,none]) ⟨_,U,U⟩ (by
  rintro i d env s hd ⟨u,rfl,rfl⟩
  rw[qaz,qad]at hd;obtain⟨t,hk,rfl⟩:=hd;have y:=qbK hk;have K:rC s [.d (.lst (((qai fs.length).filter λr=>decide (0<w r)).map λr=>D.int (w r*sz (fs.getD r .non)*bJ b t (r:Nat))))]=some (.int 0):=by
   have e:(((qai fs.length).filter λr=>decide (0<w r)).map λr=>D.int (w r*sz (fs.getD r .non)*bJ b t (r:Nat)))=(((qai fs.length).filter λr=>decide (0<w r)).map λr=>w r*sz (fs.getD r .non)*bJ b t (r:Nat)).map D.int:=by rw[qaQ];rfl
   rw[e];show (a7 _).map (λns=>D.int ns.sum)=_;rw[bm,qap,t9 (w:=w) fs.length λr f=>⟨w0 r f,λq=>by rw[q,qbp,qbp]⟩,(Bb h S) t y]
  have W:(((qai fs.length).filter λr=>decide (0<w r)).map λr:Nat=>D.int (r)).length<=1000000:=by
   rw[qaf]
   have:=qbV (λr=>decide (0<w r)) (qai fs.length)
   rw[qar]at this;lia
  exact⟨_,_,_,U,.inl (bE (ak (ar (ab (av (aR (aO U) W (jH _ λr f=>by
   have j:=qaE.mp (qbm.mp f).1;refine⟨_,U,?_⟩;have sg:=DR (s:=s) (env:=[Z (.int (r:Int)),Z (.tup (mpI fs.length w)),Z (.tup fs),Z (.str (aE b)),Z (au t)]) (V:=iV 2) (R:=iV 0) h.fv (wt.mpr ⟨j,λq=>by have:=(qbm.mp f).2;rw[decide_eq_true_iff,S.wn r j q]at this;exact absurd this (Int.lt_irrefl 0)⟩) U U;have hx:dIx s (.d (.tup (mpI fs.length w))) (.d (.int (r:Int)))=some (.int (w r)):=cT (bi j);have P:qbH (w r) (sz (fs.getD r .non)):=dz (by rcases sz3 (o r j) with q|q|q<;>rw[q]<;>decide);have k2:qbH (w r*sz (fs.getD r .non)) (bJ b t (r:Nat)):=dz (by have:=xY b t (r:Nat);lia)
   exact ae (ae (ae U U hx) sg (bx _ P)) (ai (ab U (ab U (ab U U))) (uH (st:=s) (b:=b) (t:=t) (row:=(r:Int)) (by lia) (h.tt t y).1 (by have:=(h.tt t y).2;lia))) (bx _ k2)))) U) K) U (Ah _ 0 0)) U),_,U,U⟩)
 have C:dNe M (.d (.lst (((qai fs.length).filter λr=>decide (0<w r)).map λr:Nat=>D.int (r)))) (.d (.lst []))=some (.bl true):=by
  have hp:0<(((qai fs.length).filter λr=>decide (0<w r)).map λr:Nat=>D.int (r)).length:=by
   rw[qaf];exact List.length_pos_of_mem (qbm.mpr ⟨qaE.mpr n,decide_eq_true (by have:=w0 Y n;lia)⟩)
  generalize (((qai fs.length).filter λr=>decide (0<w r)).map λr=>D.int _)=L at *;cases L with
  |nil=>exact absurd hp (qbb _)
  |cons x L=>rfl
 have T:(bF 0 (mpI fs.length w)).length<=1000000:=by rw[nH,aD];lia
 exact az U (ah (bE (df (eJ (k:=true) (gH (ar (ab U (ab U U)) U))) (ak (ar (ab U U) (by show some (D.int _)=_;rw[aD])) (ar (ab U U) (U)) (by rw[Ah,beq_self_eq_true];rfl))) U) (ah (a6 U z) (ah (aj (av (aR U T J))) (ah (a6 (bA U) A) (aH (ae U U C))))))
end
end Own
set_option maxHeartbeats 1000000
namespace Own
open PySem L2
open Sx (Pb Tb Good Named Fe LV ZV piv lexP leastR leaveL sumN unit colV basis)
theorem BY (h:lg st n=some all) (e:cD g (.d d) env=some a) (c:body a st=some (.nx b s)):j5 n all g body (d::ds) env st=j5 n all g body ds b s :=by
 rw[j5,iFP h,e,qab,c,qab]
theorem El (h:lg st n=some all):j5 n all g body [] env st=some (.nx env st) :=by
 rw[j5,iFP h]
theorem G0 (h:fe env st=some (.h n,s)) (hg:lg s n=some ds) (a:j5 n ds g body ds env s=some r):ue fe g body env st=some r :=by
 simp only[ue,h,hg,a,qab]
theorem Ij (h:fe env st=some (.h n,s)) (hg:lg s n=some ds) (d:ds.length<=1000000) (c:lcH n ds g tt te (jB k js env) ds s=some (a,b)):mD k js fe g tt te env st=some (a,b) :=by
 simp only[mD,h,hg,d,c,qab,if_true]
theorem G1 (c:a env st=some (true,s)):cF a b env st=some (true,s) :=by
 simp only[cF,c,qab,if_true]
theorem BM (x:α) (l):atI (l++[x]) (-1)=some x :=by
 have e:ixN (l++[x]).length (-1)=some l.length:=by
  have h:(l++[x]).length=l.length+1:=by rw[qau];rfl
  unfold ixN;rw[iFN (by decide),iFP (by lia)];exact congrArg some (by lia)
 unfold atI;rw[e,qab,qaK (qan _),qd4];rfl
theorem Gn (s) (t u):yn s (.d (au t)) (.d (au u))=some (.bl (bn u t)) :=by
 show (a7 _).bind _=_;rw[bm,bm];rfl
noncomputable def DB (c:List (List Int)):List Int:=c.getLast?.getD []
def tP (c:List (List Int)) (t:List Int):Bool:=c.isEmpty||bn (DB c) t
def k8 (ts:List (List Int)) (F:List (List (List Int))):List (List (List Int)):=F.flatMap λc=>(ts.filter (tP c)).map λt=>c++[t]
def HJ (n:Nat):Bool:=(qai 8).all λj=>k8 (aJ n) (chF j (aJ n))==chF (j+1) (aJ n)
theorem Gc:∀ {n},n<=3->HJ n=true
 |0,_=>by decide +kernel
 |1,_=>by decide +kernel
 |2,_=>by decide +kernel
 |3,_=>by decide +kernel
theorem Bi (hn:n<=3) (a:j<8):k8 (aJ n) (chF j (aJ n))=chF (j+1) (aJ n) :=eq_of_beq (qaU.mp (Gc hn) j (qaE.mpr a))
theorem Ed :b7 [Z (au t),Z (tsD c)] st=some (tP c t,st) :=by
 rcases List.eq_nil_or_concat c with rfl|⟨l,x,rfl⟩
 ·exact G1 (ak U U U)
 ·rw[List.concat_eq_append]
  have e:tP (l++[x]) t=bn x t:=by
   unfold tP DB;rw[show (l++[x]).isEmpty=false by simp,List.getLast?_concat];rfl
  rw[e];have a:dEq st (.d (tsD (l++[x]))) (.d (.tup []))=some (.bl false):=by
   show (eqK _ _).map _=_;simp[eqK]
  have b:dIx st (.d (tsD (l++[x]))) (.d (.int (-1)))=some (au x):=by
   show (some _).bind (λds=>atI ds _)=_;rw[qbI];exact BM _ _
  exact df (ak U U a) (ak U (ae U U b) (Gn _ _ _))
theorem Ej {ts :List _} (b:c.length<=16) (st):lcI (.nm 0) b7 cK [none,Z (tsD c)] (ts.map au) st=some (((ts.filter (tP c)).map λt=>c++[t]).map tsD,st) :=by
 rw[qaQ];refine iY (λt=>tsD _) _ λt a=>⟨_,U,Ed,?_⟩;have e:tsD (c++[t])=.tup (c.map au++[au t]):=by unfold tsD;rw[qbI];rfl
 rw[e];exact ae U (ci (ab U U) U (by show 1<=1000;decide)) (qU _ (by rw[qaf];show _+1<=_;lia))
theorem xj (n:ts.length<=16) {b}{all}{B:Sto} (k:∀ A,lg (B++[.l A]) b=some all) {x1 x3}:∀ (a A) (f),(∀ c∈a,c.length<=16)->A.length+(k8 ts a).length<=100000->∃ i,j5 b all (.nm 5) fH (a.map tsD) [Z (.lst (ts.map au)),x1,some (.h b),x3,some (.h B.length),f] (B++[.l (A.map tsD)])=some (.nx [Z (.lst (ts.map au)),x1,some (.h b),x3,some (.h B.length),i] (B++[.l ((A++k8 ts a).map tsD)]))
 |[],A,f,_,_=>⟨f,by rw[qdY,El (k _),show k8 ts []=[] from U,qbR]⟩
 |c::a,A,f,m,hz=>by
  have e:k8 ts (c::a)=((ts.filter (tP c)).map λt=>c++[t])++k8 ts a:=by unfold k8;rw[List.flatMap_cons]
  rw[e,qau]at hz;obtain⟨i,p⟩:=xj n k a (A++(ts.filter (tP c)).map λt=>c++[t]) _ (λd hd=>m d (qah _ hd)) (by rw[qau];lia);refine⟨i,?_⟩;rw[e,<-qbl,<-p];have g:=Ej (ts:=ts) (m c qag) (B++[.l (A.map tsD)]);have q:(ts.map au).length<=1000000:=by rw[qaf];lia
  have j:(A.map tsD).length+(((ts.filter (tP c)).map λt=>c++[t]).map tsD).length<=1000000:=by rw[qaf,qaf];lia
  rw[qbI];generalize ((ts.filter _).map λt=>c++[t]).map tsD=N at *;generalize A.map tsD=A' at *;generalize ts.map au=T at *;refine BY (k _) U ?_;have k2:aq (iLc 1 [5] (aC (iV 0)) (.nm 0) b7 cK) [some _,x1,some (.h b),x3,some (.h B.length),Z (tsD c)] _=some (.d (.lst N),B++[.l A']):=av (aR (aO U) q g)
  have:=GZ (o:=iV 4) U k2 (cm _ _) (cm _ _) j
  rw[iL]at this;exact this
theorem xS (hn:n<=3) {x1}{S}:∀ (g j) (u) (a) (f i b),j+g<=8->S.length<=a->lg (S++u) a=some ((chF j (aJ n)).map tsD)->∃ m h' r p o,S.length<=h'/\lg (S++m) h'=some ((chF (j+g) (aJ n)).map tsD)/\bu (.nm 3) cP ((qcP j g).map λk:Nat=>D.int (k)) [Z (.lst ((aJ n).map au)),x1,some (.h a),f,i,b] (S++u)=some (.nx [Z (.lst ((aJ n).map au)),x1,some (.h h'),r,p,o] (S++m))
 |0,j,u,a,f,i,b,B,s,hg=>⟨u,a,f,i,b,s,hg,U⟩
 |g+1,j,u,a,f,i,b,B,s,hg=>by
  have w:=lh hn;have v:∀ A ,lg (S++u++[.l A]) a=some _:=λA=>lga hg _;have C:(k8 (aJ n) (chF j (aJ n))).length<=256:=by
   rw[Bi hn (by lia)];exact qaD (fX _ _) (qaD (qba (by decide) w) (by decide))
  obtain⟨o,e⟩:=xj (ts:=aJ n) (by lia) v (chF j (aJ n)) [] b (λc y=>by
   have:=(cg.mp y).1.length_le
   lia) (by show 0+_<=_;lia)
  rw[Bi hn (by lia)]at e;obtain⟨m,h',r,p,q,z,x,t⟩:=xS hn (S:=S) g (j+1) _ (S++u).length _ _ o (by lia) (by rw[qau];lia) (by rw[<-qbl];exact cm _ _);refine⟨m,h',r,p,q,z,by rw[show j+_=j+1+g by lia];exact x,?_⟩;rw[<-qbl]at t;refine (qA U ?_).trans t;exact ah U (ah (G0 U (v _) e) U)
theorem EN { k:Nat} (hn:n<=3) (j:k<=8) (st):cy [.d (.lst ((aJ n).map au)),.d (.int (k))] st=some (.d (.lst ((chF k (aJ n)).map tsD)),st) :=by
 obtain⟨o,h',p,m,i,f,a,e⟩:=xS hn k 0 [.l [.tup []]] st.length none none none (by lia) (qan _) (by rw[wU];exact cm _ _);rw[qbg]at a;have c:bH (aa (iV 1) ac) [Z (.lst ((aJ n).map au)),Z (.int (k)),some (.h st.length),none,none,none] (st++[.l [.tup []]])=some ((qcP 0 k).map λk:Nat=>D.int (k),st++[.l [.tup []]]):=by
  rw[show ((qcP 0 k).map λk=>D.int _)=cG 0 k by
   unfold cG;rw[qdF]
   exact qbS λk _=>by rw[qbO]]
  exact jP U (by lia) (by lia) (qbf k)
 generalize (aJ n).map au=T at *;generalize (chF k _).map tsD=F at *
 have:=i8 (n:=6) (k:=2) (b:=gL) (ws:=[.d (.lst T),.d (.int (k:Int))]) (st:=st) (h:=h') (ds:=F) U (ah U (ah (a6 (g:=.nm 3) (b:=cP) c e) U)) f a
 rw[qch]at this;exact this
end Own
set_option maxHeartbeats 1000000
namespace Own
open PySem L2
open Sx (Pb Tb Good Named Fe LV ZV piv lexP leastR leaveL sumN unit colV basis)
theorem BD {α:Type} (f g):∀ l:List α,cH (l.map f) (l.map g)=l.map λa=>D.tup [f a,g a]
 |[]=>rfl
 |a::l=>by rw[qat,qat,cH,BD f g l];rfl
theorem DQ (s) (h:rpD (.tup ds)=true/\wtD (.tup ds)<=16000000/\dpD (.tup ds)<=50):cu s [.d (.tup ds)]=some (.str (toP (.tup ds)).shown) :=by
 show (if rpD _=true/\wtD _<=16000000/\dpD _<=50 then some _ else none)=_;rw[iFP h]
theorem vV (h:Sm x):rpD (.int x)=true/\wtD (.int x)<=2000/\dpD (.int x)<=1 :=by
 refine⟨?_,qan _,qan _⟩;rw[rpD,decide_eq_true_iff];by_cases z:x.natAbs=0
 ·rw[z];decide
 ·exact (qhq z).mpr (qaO h (qba (by decide) (by decide)))
theorem lS {W  } (hN:ds.length<=N) (h:∀ d∈ds,rpD d=true/\wtD d<=W/\dpD d<=K):rpD (.tup ds)=true/\wtD (.tup ds)<=(W+2)*N+5/\dpD (.tup ds)<=K+1 :=by
 obtain⟨a,c,e⟩:=sq h
 have:=Nat.mul_le_mul_left (W+2) hN
 rw[wtD,dpD];exact⟨a,by lia,by lia⟩
theorem sU {W } (b:rpD x=true/\wtD x<=W/\dpD x<=K) (a:rpD y=true/\wtD y<=W/\dpD y<=K):rpD (.tup [x,y])=true/\wtD (.tup [x,y])<=(W+2)*2+5/\dpD (.tup [x,y])<=K+1 :=lS (qan 2) λd hd=>by
 rcases qav.mp hd with rfl|hd
 ·exact b
 ·rw[qao.mp hd];exact a
theorem k9 {W   } (h:rpD x=true/\wtD x<=W/\dpD x<=K) (b:W<=W') (a:K<=K'):rpD x=true/\wtD x<=W'/\dpD x<=K' :=⟨h.1,qaD h.2.1 b,qaD h.2.2 a⟩
theorem DU (hn:n<=3) (a:t∈aJ n):rpD (au t)=true/\wtD (au t)<=6011/\dpD (au t)<=2 :=by
 have h:=fA n ((aG _).mem_iff.mp a);have b:=sQ h;refine lS (N:=3) (W:=2000) (by rw[qaf];lia) λd hd=>?_;obtain⟨x,hx,rfl⟩:=qaI.mp hd;refine vV ?_
 have:=h.2 x hx
 have:x=0\/x=1\/x=2:=by lia
 unfold Sm;rcases this with rfl|rfl|rfl<;>decide
section
variable {fs:List D}{b:Bool}{n:Nat}
theorem DW (hn:n<=3) {C} (e:C.Sublist (aJ n)):rpD (tsD C)=true/\wtD (tsD C)<=48109/\dpD (tsD C)<=3 :=by
 have:=e.length_le
 have:=lh hn
 refine lS (N:=8) (W:=6011) (by rw[qaf];lia) λd hd=>?_;obtain⟨t,ht,rfl⟩:=qaI.mp hd;exact DU hn (e.subset ht)
theorem CQ (hn:n<=3) {C} (e:C.Sublist (aJ n)) (hX:∀ t∈C,Sm (X t)):rpD (bG (aE b) (aT (aB C) X))=true/\wtD (bG (aE b) (aT (aB C) X))<=1000000/\dpD (bG (aE b) (aT (aB C) X))<=8 :=by
 have hl:=e.length_le;have h8:=lh hn;have pl:((aT (aB C) X).map bX).length<=8:=by
  unfold aT;rw[qaf,qaf]
  have:=qbV (λt=>decide (X t≠0)) (aB C)
  rw[(aG C).length_eq]at this;lia
 have l:rpD (.str (aE b))=true/\wtD (.str (aE b))<=400000/\dpD (.str (aE b))<=4:=by
  cases b<;>exact⟨U,by decide +kernel,by decide +kernel⟩
 exact k9 (sU l (k9 (lS pl λd hd=>by
  obtain⟨p,j,rfl⟩:=qaI.mp hd;obtain⟨t,ht,rfl⟩:=qaI.mp j;have hm:=(aG C).mem_iff.mp (qbm.mp ht).1
  exact sU (DU hn (e.subset hm)) (k9 (vV (hX t hm)) (by decide) (by decide))) (by decide) (by decide))) (by decide) (by decide)
theorem Ea (hn:n<=3) (fl:fs.length=2^n) (e:p.1.Sublist (aJ n)) (h:qp fs b p):rpD (m7 fs p)=true/\wtD (m7 fs p)<=100000/\dpD (m7 fs p)<=8 :=by
 obtain⟨⟨X,S⟩,_⟩:=h;have h8:fs.length<=8:=by
  rw[fl];exact qaD (qba (by decide) hn) (by decide)
 exact k9 (sU (DW hn e) (k9 (lS (by rw [aD];exact h8) λd hd=>by
  obtain⟨i,hi⟩:=List.getElem?_of_mem hd;obtain⟨hl,rfl⟩:=jN hi
  exact vV (S.w0 i hl).2) (by decide) (by decide))) (by decide) (by decide)
theorem tM (f:fT fs b n i Bs) (j:p∈Bs):p.1.Sublist (aJ n)/\qp fs b p :=by
 rcases f with⟨_,rfl⟩|⟨k,_,g,l⟩
 ·cases j
 ·exact⟨(cg.mp (g ▸ qaI.mpr ⟨p,j,U⟩)).1,l p j⟩
theorem zq (hn:n<=3) (f:fT fs b n i Bs):Bs.length<=2^(aJ n).length :=by
 rcases f with⟨_,rfl⟩|⟨k,_,g,_⟩
 ·exact qbr _
 ·have:=congrArg qeU g
  rw[qaf]at this;rw[this];exact fX _ _
theorem Ap (hn:n<=2) (fl:fs.length=2^n) {C}(J:C∈chF i (aJ n)) (O:gK fs b C P) (f:fT fs b n i Bs):rpD (.tup [P,cr fs Bs])=true/\wtD (.tup [P,cr fs Bs])<=16000000/\dpD (.tup [P,cr fs Bs])<=50 :=by
 obtain⟨X,w,S,_,rfl⟩:=O;have Y:Bs.length<=16:=by
  refine qaD (zq (by lia) f) ?_;rw[mY];exact qaD (qba (by decide) (qba (by decide) hn)) (by decide)
 exact k9 (sU (W:=1700000) (K:=9) (k9 (CQ (by lia) ((cg.mp J).1) S.sX) (by decide) (by decide)) (k9 (lS (by rw [qaf];exact Y) λd hd=>by
  obtain⟨p,j,rfl⟩:=qaI.mp hd;obtain⟨a,c⟩:=tM f j
  exact Ea (by lia) fl a c) (by decide) (by decide))) (by decide) (by decide)
theorem qt (hn:n<=3) (fl:fs.length=2^n) (fv:∀ u∈fs,dY u) :∀ (Bs:List Bar) (B H),(∀ p∈Bs,p.1.Sublist (aJ n)/\qp fs b p)->∃ G z,bu (.tp [6,7]) eh (Bs.map λp=>D.tup [tsD p.1,m7 fs p]) [Z (.tup fs),Z (.str (aE b)),x2,x3,x4,x5,B,H] st=some (.nx [Z (.tup fs),Z (.str (aE b)),x2,x3,x4,x5,G,z] st)
 |[],B,H,_=>⟨B,H,U⟩
 |p::Bs,B,H,h=>by
  obtain⟨e,⟨X,S⟩,hz⟩:=h p qag;have L:=DQ st (k9 (DW hn e) (by decide) (by decide));obtain⟨G,z,v⟩:=qt hn fl fv Bs _ _ λq hq=>h q (qah _ hq);refine⟨G,z,?_⟩;refine (qA U ?_).trans v;exact ah (bE (df (eJ (k:=true) (gH (ar (ab U (ab U U)) U))) (df (ak (ar (ab U U) U) U U) (ak (ar (ab (ae U U (jg _ _ _)) U) L) (ar (ab U U) L) (wH _ _)))) U) (bE (eJ (gH (ai (ab U (ab U (ab U (ab (ae U U (io _ _ _)) U)))) (zS (iT (by lia) fl fv e) S (qfw λq=>hz λr L=>qfw λk=>q ⟨r,L,k⟩))))) U)
theorem Ao (hn:n<=3) (fl:fs.length=2^n) (fv:∀ u∈fs,dY u) {C}(J:C∈chF i (aJ n)) (O:gK fs b C P) (hL:Least fs b n i) (f:fT fs b n i Bs) (st):dg [.d (.tup fs),.d (.str (aE b)),.d (.tup [P,cr fs Bs])] st=some (.d (.bl true),st) :=by
 obtain⟨X,w,S,hz,rfl⟩:=O;obtain⟨e,hc⟩:=cg.mp J;have M:=gf n;have hA:(aJ n).Nodup:=((aG _).nodup_iff.mpr M);have a8:=lh hn;have y:aT (aB C) X=aT (aB (aJ n)) λu=>if u∈C then X u else 0:=by
  rw[(iN e (hA.sublist e) M),iN (qeD _) hA M];unfold aT;have o:∀ {A D:List (List Int)},A.Sublist D->D.Nodup->(D.filter λu=>decide (u∈A))=A:=λ{A D} h=>by
   induction h with
   |slnil=>intro _;rfl
   |@cons l1 I a e v=>
    intro hd;obtain⟨g,l⟩:=qb0.mp hd;rw[qb1,iFN (by rw[decide_eq_true_iff];exact λq=>g (e.subset q)),v l]
   |@cons_cons l1 I a e v=>
    intro hd;obtain⟨g,l⟩:=qb0.mp hd;rw[qb1,iFP (by rw[decide_eq_true_iff];exact qag)];refine congrArg _ ?_;refine Eq.trans (qeg λu hu=>?_) (v l);refine decide_eq_decide.mpr ⟨λq=>?_,qah _⟩;rcases qav.mp q with rfl|q
    ·exact absurd hu g
    ·exact q
  have F:((aJ n).filter λu=>decide ((if u∈C then X u else 0)≠0))=C.filter λu=>decide (X u≠0):=by
   conv=>rhs;rw[<-(o e hA),List.filter_filter]
   refine qeg λu _=>?_;by_cases q:u∈C
   ·simp[q]
   ·simp[q]
  rw[F];refine qbS λu hu=>?_;show (u,X u)=(u,if u∈C then X u else 0);rw[iFP (qbm.mp hu).1]
 have x:=yF (st:=st) (kd:=aE b) (X:=λu=>if u∈C then X u else 0) hn (qeD (aJ n)) hA M (by lia);rw[<-y]at x;have R:=AZ (st:=st) (iT (n:=n) (by lia) fl fv e) S hz;have Q:=yM (st:=st) hn;have s:aS st [.d (.tup ((aT (aB C) X).map bX))]=some (.int (i:Int)):=by
  show some (D.int _)=_;rw[qaf,(uU hn fl fv J S hz hL)]
 have hi8:i<=8:=by
  have:=e.length_le
  lia
 have hev:∀ {e0 y F e5 e6 e7:Option W},dJ (aF dGt (iV 4) (iC (.int 0))) (ax cy (aa (iV 3) (aa (iOp eW (iV 4) (iC (.int 1))) ac))) (aq (bf ac)) [e0,y,F,Z (.lst ((aJ n).map au)),Z (.int (i)),e5,e6,e7] st=some (.d (.lst ((Bs.map qb3).map tsD)),st):=by
  intro e0 y F e5 e6 e7;rcases f with⟨rfl,rfl⟩|⟨k,rfl,g,_⟩
  ·exact wp U U
  ·rw[g]
   have hm:eW st (.d (.int ((k+1)))) (.d (.int 1))=some (.int (k)):=by
    show some _=_;rw[show _ - 1=(k:Int) by lia]
   have hg:dGt st (.d (.int ((k+1)))) (.d (.int 0))=some (.bl true):=by
    show some _=_;rw[decide_eq_true (by lia)]
   exact wq (ak U U hg) (ai (ab U (ab (ae U U hm) U)) (EN hn (k:=k) (by lia) st))
 obtain⟨G,z,V⟩:=qt hn fl fv (x2:=some (.d (.tup [bG (aE b) (aT (aB C) X),cr fs Bs]))) (x3:=some (.d (.lst ((aJ n).map au)))) (x4:=some (.d (.int (i)))) (x5:=some (.d (.lst ((Bs.map qb3).map tsD)))) (st:=st) Bs none none λp j=>tM f j;have ez:cH ((Bs.map qb3).map tsD) (Bs.map (m7 fs))=Bs.map λp=>D.tup [tsD p.1,m7 fs p]:=by
  rw[qaQ];exact BD _ _ _
 have l1:aS st [.d (.lst ((Bs.map qb3).map tsD))]=some (.int (Bs.length)):=by
  show some (D.int _)=_;rw[qaf,qaf]
 have I:aS st [.d (cr fs Bs)]=some (.int (Bs.length)):=by
  show some (D.int _)=_;rw[qaf]
 have ne:dNe st (.d (.int (Bs.length))) (.d (.int (Bs.length)))=some (.bl false):=by
  rw[Ah];simp
 have m:=GK (e0:=iV 0) (env:=[some _,Z (.str (aE b)),Z (.tup [bG (aE b) (aT (aB C) X),cr fs Bs]),none,none,none,none,none]) st hn fl U;have hix:dIx st (.d (bG (aE b) (aT (aB C) X))) (.d (.int 1))=some _:=rfl;have hbt:cr fs Bs=.tup _:=rfl;rw[<-ez]at V;rw[hbt]at V I m ⊢;generalize Bs.map (m7 fs)=BB at *;generalize (Bs.map qb3).map tsD=E at *;generalize bG _ _=P at *;generalize (aJ n).map au=T at *;generalize aE b=kd at *;have zz:cx (aa (iV 5) (aa (iOp dIx (iV 2) (iC (.int 1))) ac)) [Z (.tup fs),Z (.str kd),Z (.tup [P,.tup BB]),Z (.lst T),Z (.int (i)),Z (.lst E),none,none] st=some (cH E BB,st):=by
  rfl
 exact az U (ah (aj (ai (ab m U) Q)) (ah (bE (df (eJ (k:=true) (gH (ar (ab U (ab U U)) U))) (df (ak (ar (ab U U) U) U U) (eJ (k:=true) (gH (ar (ab (ae U U (io _ _ _)) (ab U U)) U))))) U) (ah (bE (df (eJ (gH (ai (ab (ae U U (jg _ _ _)) (ab U (ab U U))) x))) (eJ (gH (ai (ab (ae U U (jg _ _ _)) (ab U U)) R)))) U) (ah (aj (ar (ab (ae (ae U U (jg _ _ _)) U hix) U) s)) (ah (aj hev) (ah (bE (ak (ar (ab (ae U U (io _ _ _)) U) I) (ar (ab U U) l1) ne) U) (ah (a6 zz V) U)))))))
end
end Own
set_option maxHeartbeats 1000000
namespace Own
open PySem L2
open Sx (Pb Tb Good Named Fe LV ZV piv lexP leastR leaveL sumN unit colV basis)
theorem DN (h:a env st=some ([x,y],s)):rQ i j a env st=some (.nx ((env.set i (some x)).set j (some y)) s) :=by
 simp only[rQ,h,qab]
theorem G2 (h:a env st=some ([x,y,z],s)):uh i j l a env st=some (.nx (((env.set i (some x)).set j (some y)).set l (some z)) s) :=by
 simp only[uh,h,qab]
theorem Hi (s):∀ {n:Nat},n<=3->BV s (.d (.int 1)) (.d (.int (n)))=some (.int ((2^n:Nat)))
 |0,_=>rfl
 |1,_=>rfl
 |2,_=>rfl
 |3,_=>rfl
def V01 (d:D):Prop:=d=.int 0\/d=.int 1
theorem Ia (x):V01 (.int (x%2)) :=by
 have:=Int.emod_two_eq x
 rcases this with q|q<;>rw[q]
 ·exact .inl U
 ·exact .inr U
theorem GO {x1 x2:Int}{n:Nat} (hn:n<=3) { e0:Ev} (j:jB 1 js env=none::e0) (h:iV 1 env s=some (.d (.int (n)),s)) (g:∀ k:Nat,∃ p,tt (Z (.int (k))::e0) s=some (p,s)) (l:∀ k:Nat,te (Z (.int (k))::e0) s=some (.d (.int (k)),s)):∃ c,iCB aS (aa (aq (iLc 1 js (bH (aa (iV 1) ac)) (.nm 0) tt te)) ac) env s=some (.d (.int c),s) :=by
 have b:∃ a,lcI (.nm 0) tt te (none::e0) (cG 0 n) s=some (a,s):=by
  have:∀ f:List Nat,∃ a,lcI (.nm 0) tt te (none::e0) (f.map λk:Nat=>D.int (k)) s=some (a,s):=λf=>by
   refine⟨_,iY (λk:Nat=>D.int (k)) (λk=>((tt (Z (.int (k))::e0) s).map qb3).getD false) λk _=>?_⟩;obtain⟨p,i⟩:=g k;refine⟨some _::e0,U,?_,l k⟩;rw[i];rfl
  obtain⟨a,e⟩:=this _;refine⟨a,?_⟩;rw[<-e];refine congrArg (λz=>lcI _ tt te _ z s) ?_;exact qbS λk _=>by rw[qbO]
 obtain⟨a,b⟩:=b;exact⟨_,ar (ab (av (aR (jP h (by lia) (by lia) (qbf n)) (by rw[kX];lia) (by rw[j];exact b))) U) U⟩
theorem six (s) (h:0<=w) (b:w<6):∃ x,dIx s (.d (.lst [.int a,.int c,.int d,.int e,.int f,.int g])) (.d (.int w))=some (.int x) :=by
 have:w=0\/w=1\/w=2\/w=3\/w=4\/w=5:=by lia
 rcases this with rfl|rfl|rfl|rfl|rfl|rfl
 ·exact⟨a,U⟩
 ·exact⟨c,U⟩
 ·exact⟨d,U⟩
 ·exact⟨e,U⟩
 ·exact⟨f,U⟩
 ·exact⟨g,U⟩
theorem Bc (p) (A):lg (spo p [.l A]) 2=some A :=rfl
theorem IK (p) (A B):(spo p [.l A]).set 2 (.l B)=spo p [.l B] :=rfl
section
variable {n:Nat}{w mk G F:Int}
theorem Hf (hn:n<=3) (w0:0<=w) (K:w<6) (h:okP p Zq) (E:Zq<900000000) (r:Nat) (hA:A.length<1000) (x2 x3 f c e b):∃ v i t s u y,V01 v/\okP i (Zq+1)/\jG [some (.h 1),Z (.int (n)),x2,x3,Z (.int w),Z (.int mk),Z (.int G),Z (.int F),some (.h 2),Z (.int (r)),f,c,e,b] (spo p [.l A])=some (.nx [some (.h 1),Z (.int (n)),x2,x3,Z (.int w),Z (.int mk),Z (.int G),Z (.int F),some (.h 2),Z (.int (r)),t,s,u,y] (spo i [.l (A++[v])])) :=by
 obtain⟨c1,H⟩:=GO (x1:=0) (x2:=0) hn (js:=[9]) (tt:=pQ) (te:=nw) (env:=[some _,some _,x2,x3,some _,some _,some _,some _,some _,some _,f,c,e,b]) U U (λk=>⟨_,ak (ae (ae U U (A9 _ (by lia))) U U) U (cc _ _ _)⟩) λk=>rfl;obtain⟨c2,J⟩:=GO (x1:=0) (x2:=0) hn (js:=[9,5]) (tt:=pP) (te:=nv) (env:=[some _,some _,x2,x3,some _,Z (.int mk),some _,some _,some _,Z (.int _),some _,c,e,b]) U U (λk=>⟨_,ak (ae (ae (ae U U U) U (A9 _ (by lia))) U U) U (cc _ _ _)⟩) λk=>rfl;obtain⟨d,i,d0,d1,hp,ed⟩:=dn (m:=2) h E (by decide) (by decide);obtain⟨x,hx⟩:=six _ w0 K;refine⟨.int ((x+F)%2),i,Z (.int c1),Z (.int c2),Z (.int d),Z (.lst [.int d,.int d,.int (c2%2),.int (if decide (G<=c1)=true then 1 else 0),.int (if ((r)==mk)=true then 1 else 0),.int (if (qdl (r) mk==mk)=true then 1 else 0)]),Ia _,hp,?_⟩;exact ah (aj H) (ah (aj J) (ah (aj (ai (ab U (ab U U)) (ed [.l A]))) (ah (aj (av (C3 (ab U (ab U (ab (ae U U (gU _ (by decide))) (ab (ar (ab (ae U U U) U) U) (ab (ar (ab (ae U U (cc _ _ _)) U) U) (ab (ar (ab (ae (ae U U U) U (cc _ _ _)) U) U) U)))))) U (by show 6<=1000;decide)))) (C2 (o:=iV 8) (a:=iOp f7 (iOp a9 (iOp dIx (iV 13) (iV 4)) (iV 7)) (iC (.int 2))) (env:=[some (.h 1),Z (.int (n)),x2,x3,some _,Z (.int mk),Z (.int G),Z (.int F),some _,Z (.int (r)),Z (.int c1),Z (.int c2),Z (.int d),some _]) U (ae (ae (ae U U hx) U U) U (gU _ (by decide))) (Bc i A) (Bc i A) (by lia)))))
theorem A6 (hn:n<=3) (w0:0<=w) (K:w<6) (x2 x3:Option W):∀ (g j:Nat) {p:Spo}{Zq:Int} (h:okP p Zq) (E:Zq+g<900000000) {A:List D} (hA:A.length+g<1000) (C:∀ d∈A,V01 d) (M f c e b:Option W),∃ B i O t s u y,B.length=A.length+g/\(∀ d∈B,V01 d)/\okP i (Zq+g)/\bu (.nm 9) jG ((qcP j g).map λr:Nat=>D.int (r:Int)) [some (.h 1),Z (.int (n:Int)),x2,x3,Z (.int w),Z (.int mk),Z (.int G),Z (.int F),some (.h 2),M,f,c,e,b] (spo p [.l A])=some (.nx [some (.h 1),Z (.int (n:Int)),x2,x3,Z (.int w),Z (.int mk),Z (.int G),Z (.int F),some (.h 2),O,t,s,u,y] (spo i [.l B]))
 |0,j,p,Zq,h,E,A,hA,C,M,f,c,e,b=>⟨A,p,M,f,c,e,b,U,C,h.mono (by lia),U⟩
 |g+1,j,p,Zq,h,E,A,hA,C,M,f,c,e,b=>by
  obtain⟨v,p1,Y,X,P,S,R,T,H⟩:=Hf hn w0 K h (by lia) j (A:=A) (by lia) x2 x3 f c e b
  obtain⟨B,N,O,t,s,u,y,Q,hb,V,J⟩:=A6 hn w0 K x2 x3 g _ T (by lia) (A:=A++[v]) (by rw [qau];show A.length+1+g < _;lia) (λd hd=>by
   rcases qaV.mp hd with q|q
   ·exact C d q
   ·rw[qao.mp q];exact R) _ Y X P S
  refine⟨B,N,O,t,s,u,y,by rw[Q,qau];show A.length+1+g=_;lia,hb,V.mono (by lia),?_⟩;exact (qA U H).trans J
theorem DG {all:List D}:∀ (A:List D) {p:Spo}{Zq:Int} (h:okP p Zq) (E:Zq+A.length<900000000) (C:∀ d∈A,V01 d),∃ I i,I.length=A.length/\(∀ d∈I,dY d)/\okP i (Zq+A.length)/\lcH 2 all (.nm 0) aM cL [none,some (.h 1)] A (spo p [.l all])=some (I,spo i [.l all])
 |[],p,Zq,h,E,C=>⟨_,p,U,λd hd=>(nomatch hd),h.mono (by lia),by rw[lcH,iFP (Bc p all)]⟩
 |d::A,p,Zq,h,E,C=>by
  rw[qam]at E ⊢;obtain⟨r,p1,r0,r1,T,H⟩:=dn (m:=3) h (by lia) (by decide) (by decide);obtain⟨I,N,Q,hy,V,J⟩:=DG A T (by lia) λx hx=>C x (qah _ hx);have step:∃ v,dY v/\cL [Z d,some (.h 1)] (spo p [.l all])=some (.d v,spo p1 [.l all]):=by
   have L:aF dEq (ax aY (aa (iV 1) (aa (iC _) ac))) (iC _) [Z d,some _] _=some (r==0,spo p1 [.l all]):=ak (ai (ab U (ab U U)) (H [.l all])) U (cc _ _ _);by_cases z:r=0
   ·rw[z]at L
    exact⟨_,.inl U,wq L U⟩
   ·rw[beq_eq_false_iff_ne.mpr z]at L
    exact⟨d,.inr (C d qag),wp L U⟩
  obtain⟨v,hv1,e3⟩:=step;refine⟨v::I,N,by rw[qam,Q],λx hx=>?_,V.mono (by lia),?_⟩
  ·rcases qav.mp hx with rfl|hx
   ·exact hv1
   ·exact hy x hx
  ·rw[lcH,iFP (Bc p all)]
   rw[show cD _ _ [none,some _]=some [some _,some _] from U,qab,show aM [some _,some _] _=some (true,spo p [.l all]) from U,qab,e3,qab];rw[J];rfl
end
theorem GD {n:Nat} (hn:n<=3) (h:okP p Zq) (hZ:Zq+100<900000000):∃ fs T,fs.length=2^n/\(∀ u∈fs,dY u)/\okP T (Zq+30)/\oN [.h 1,.d (.int (n)),.d (.bl false)] (spo p [])=some (.d (.tup fs),spo T []) :=by
 have h4:2^n<=8:=qaD (qba (by decide) hn) (by decide);have X:=qeJ n;obtain⟨w,p1,w0,Y,h1,I⟩:=dn (m:=6) h (by lia) (by decide) (by decide);obtain⟨mk,p2,m0,m1,h2,M⟩:=dn (m:=((2^n))) h1 (by lia) (by lia) (by lia);obtain⟨y,p3,l0,l1,h3,O⟩:=dn (m:=(n)+2) h2 (by lia) (by lia) (by lia);obtain⟨t,p4,o0,o1,h5,e4⟩:=dn (m:=4) h3 (by lia) (by decide) (by decide);obtain⟨A,S,E,o,j,a,f,q,F,h6,V⟩:=A6 hn w0 Y _ _ (2^n) 0 h5 (by lia) (A:=[]) (by show 0+_<_;lia) (λd hd=>(nomatch hd)) none none none none none
 obtain⟨c,C,c0,c1,R,e6⟩:=dn (m:=2) h6 (by lia) (by decide) (by decide);have q:A.length=2^n:=by rw[q];show 0+_=_;lia
 have I:=I [];have M:=M [];have O:=O [];have hs:=Hi (spo p []) hn;have P:(qcP 0 (2^n)).map (λr:Nat=>D.int (r:Int))=cG 0 (2^n):=by
  unfold cG;rw[qdF];exact qbS λk _=>by rw[qbO]
 rw[P]at V;have key:∀ {B:List D}{pB:Spo}{m9:Option W}{H:Nat},B.length=2^n->True->True:=λ_ _=>trivial;have pre:∀ {r:Option Fl},(ag (be (fB (ce (bT ca (iV 2))) (aF dEq (ax aY (aa (iV 0) (aa (iC (.int 2)) ac))) (iC (.int 0)))) (aA (.nm 8) (bM (mD 1 [0] (iV 8) (.nm 0) aM cL))) aU) (aL (iCB ft (aa (iV 8) ac)))) [some (.h 1),Z (.int (n:Int)),Z (.bl false),Z (.int ((2^n:Nat):Int)),Z (.int w),Z (.int mk),Z (.int y),Z (.int (t / 3)),some (.h 2),E,o,j,a,f] (spo S [.l A])=r->jV ([W.h 1,.d (.int (n:Int)),.d (.bl false)].map some++qaJ (14 - 3) none) (spo p [])=r:=λ{r} hr=>
  ah (DN (ab (ae U U hs) (ab (ai (ab U (ab U U)) I) U))) (ah (G2 (ab (ai (ab U (ab U U)) M) (ab (ai (ab U (ab (ae U U U) U)) O) (ab (ae (ai (ab U (ab U U)) (e4 [])) U (mL _ (by decide))) U)))) (ah U (ah (a6 (jP (e:=iV 3) U (by lia) (by lia) (qbf _)) V) hr)))
 have v:∀ s:Sto,ce (bT ca (iV 2)) [some (.h 1),Z (.int (n:Int)),Z (.bl false),Z (.int ((2^n:Nat):Int)),Z (.int w),Z (.int mk),Z (.int y),Z (.int (t / 3)),some (.h 2),E,o,j,a,f] s=some (true,s):=λs=>rfl;have G:aF dEq (ax aY (aa (iV 0) (aa (iC (.int 2)) ac))) (iC (.int 0)) [some (.h 1),Z (.int (n:Int)),Z (.bl false),Z (.int ((2^n:Nat):Int)),Z (.int w),Z (.int mk),Z (.int y),Z (.int (t / 3)),some (.h 2),E,o,j,a,f] (spo S [.l A])=some (c==0,spo C [.l A]):=ak (ai (ab U (ab U U)) (e6 [.l A])) U (cc _ _ _);by_cases z:c=0
 ·rw[z]at G
  obtain⟨K,Q,N,J,h8,e7⟩:=DG (all:=A) A R (by lia) F;refine⟨K,Q,by rw[N,q],J,h8.mono (by lia),?_⟩;have L:bM (mD 1 [0] (iV 8) (.nm 0) aM cL) [some (.h 1),Z (.int (n)),Z (.bl false),Z (.int ((2^n:Nat))),Z (.int w),Z (.int mk),Z (.int y),Z (.int (t / 3)),some (.h 2),E,o,j,a,f] (spo C [.l A])=some (.h 3,spo Q [.l A,.l K]):=by
   simp only[bM,(Ij (k:=1) (js:=[0]) (fe:=iV 8) (g:=.nm 0) (tt:=aM) (te:=cL) (env:=[some (.h 1),Z (.int (n:Int)),Z (.bl false),some _,Z (.int w),Z (.int mk),Z (.int y),Z (.int (t / 3)),some (.h 2),E,o,j,a,f]) U (Bc C A) (by lia) e7),qap];rfl
  exact (cB (n:=14) (k:=3) (b:=jV) (st:=spo p []) (x:=.tup K) U (pre (ah (de (pv (v _) G) (aj (i:=8) L)) (aH (ar (ab U U) U)))))
 ·rw[beq_eq_false_iff_ne.mpr z]at G
  refine⟨A,C,q,λu hu=>.inr (F u hu),R.mono (by lia),?_⟩;exact (cB (n:=14) (k:=3) (b:=jV) (st:=spo p []) (s:=spo C [.l A]) (x:=.tup A) U (pre (ah (bE (pv (v _) G) U) (aH (ar (ab U U) U)))))
end Own
section
set_option maxHeartbeats 1000000
namespace Own
open PySem L2
open Sx (Pb Tb Good Named Fe LV ZV piv lexP leastR leaveL sumN unit colV basis)
theorem Ec (c) (h0:0<=r) (h4:r<4):∃ n:Nat,n<=3/\∀ s,dIx s (.d (if c=true then .lst [.int 0,.int 1,.int 2,.int 2] else .lst [.int 3,.int 2,.int 3,.int 1])) (.d (.int r))=some (.int (n)) :=by
 have:r=0\/r=1\/r=2\/r=3:=by lia
 cases c<;>rcases this with rfl|rfl|rfl|rfl
 ·exact⟨3,by decide,λs=>rfl⟩
 ·exact⟨2,by decide,λs=>rfl⟩
 ·exact⟨3,by decide,λs=>rfl⟩
 ·exact⟨1,by decide,λs=>rfl⟩
 ·exact⟨0,by decide,λs=>rfl⟩
 ·exact⟨1,by decide,λs=>rfl⟩
 ·exact⟨2,by decide,λs=>rfl⟩
 ·exact⟨2,by decide,λs=>rfl⟩
theorem EM (h0:0<=r) (Q:r<2):∃ b,∀ s,dIx s (.d (.lst [.str "both",.str "odd"])) (.d (.int r))=some (.str (aE b)) :=by
 have:r=0\/r=1:=by lia
 rcases this with rfl|rfl
 ·exact⟨true,λs=>rfl⟩
 ·exact⟨false,λs=>rfl⟩
theorem Do {t:Nat}(h:okP p Zq) (B:Zq+200<900000000) (e0 a e g f):∃ x l o u v,okP x (Zq+40)/\r8 [e0,some (.h 1),Z (.int (t)),a,e,g,f] (spo p [])=some (.nx [e0,some (.h 1),Z (.int (t)),l,o,u,v] (spo x [])) :=by
 obtain⟨r1,p1,a0,a1,G,T⟩:=dn h (m:=4) (by lia) (by decide) (by decide);obtain⟨c,hc⟩:∃ c,∀ s,dGt s (.d (.int (t))) (.d (.int 0))=some (.bl c):=⟨_,λs=>rfl⟩;obtain⟨n,hn,en⟩:=Ec c a0 a1;obtain⟨fs,K,fl,fv,Q,f2⟩:=GD hn G (by lia);obtain⟨O,j,b0,V,h3,f3⟩:=dn Q (m:=2) (by lia) (by decide) (by decide);obtain⟨b,ek⟩:=EM b0 V;obtain⟨i,C,P,Bs,M,I,X,L,z⟩:=yt (b:=b) hn fl fv;have z:=z (spo j []);have H:=Ao hn fl fv M I X L (spo j []);have ha:∀ (w A:Ev),bf (aa (aq (bf (aa (iC _) (aa (iC _) (aa (iC _) (aa (iC _) ac)))))) (aa (aq (bf (aa (iC _) (aa (iC _) (aa (iC _) (aa (iC _) ac)))))) ac)) w (spo p [])=some ([.lst [.int 3,.int 2,.int 3,.int 1],.lst [.int 0,.int 1,.int 2,.int 2]],spo p []):=λ_ _=>rfl;have hm:iOp dIx (aq (bf (aa (aq (bf (aa (iC (.int 3)) (aa (iC (.int 2)) (aa (iC (.int 3)) (aa (iC (.int 1)) ac)))))) (aa (aq (bf (aa (iC (.int 0)) (aa (iC (.int 1)) (aa (iC (.int 2)) (aa (iC (.int 2)) ac)))))) ac)))) (iCB vN (aa (iOp dGt (iV 2) (iC (.int 0))) ac)) [e0,some (.h 1),Z (.int (t)),a,e,g,f] (spo p [])=some (.d (if c=true then .lst [.int 0,.int 1,.int 2,.int 2] else .lst [.int 3,.int 2,.int 3,.int 1]),spo p []):=by
  refine ae (av (ha _ [])) (ar (d:=.int (if c=true then 1 else 0)) (ab (ae U U (hc _)) U) ?_) ?_
  ·cases c<;>rfl
  ·cases c<;>rfl
 have F:fB (aF dLt (iV 3) (iC (.int 3))) (aF dNe (iCB cu (aa (ax fL (aa (iV 4) (aa (iV 5) ac))) ac)) (iCB cu (aa (iV 6) ac))) [e0,some (.h 1),Z (.int (t:Int)),Z (.int (n:Int)),Z (.tup fs),Z (.str (aE b)),Z (.tup [P,cr fs Bs])] (spo j [])=some (false,spo j []):=by
  by_cases q:n<=2
  ·have N:=DQ (spo j []) (Ap q fl M I L)
   have E:dLt (spo j []) (.d (.int (n:Int))) (.d (.int 3))=some (.bl true):=by
    show some (D.bl (decide ((n:Int)<3)))=_;rw[decide_eq_true (by lia)]
   generalize aE b=kd at *;generalize D.tup [P,cr fs Bs]=R at *;generalize (toP R).shown=SS at *;exact pv (ak U U E) (ak (k:=false) (ar (ab (ai (ab U (ab U U)) z) U) N) (ar (ab U U) N) (wH _ _))
  ·refine sD (ak U U ?_)
   show some (D.bl (decide ((n:Int)<3)))=_;rw[decide_eq_false (by lia)]
 refine⟨j,Z (.int (n:Int)),Z (.tup fs),Z (.str (aE b)),Z (.tup [P,cr fs Bs]),h3.mono (by lia),?_⟩;generalize aE b=kd at *;generalize D.tup [P,cr fs Bs]=R at *;exact ah (aj (i:=3) (ae hm (ai (ab U (ab U U)) (T [])) (en _))) (ah (DN (ab (ai (ab U (ab U (ab U U))) f2) (ab (ae (av U) (ai (ab U (ab U U)) (f3 [])) (ek _)) U))) (ah (aj (ai (ab U (ab U U)) z)) (ah (bE (eJ (gH (ai (ab U (ab U (ab U U))) H))) U) (bE F U))))
theorem vn (e0:Option W):∀ (ts:List Nat) {p:Spo}{Zq:Int} (h:okP p Zq) (B:Zq+40*ts.length+200<900000000) (y a e g f:Option W),∃ x J l o u v,bu (.nm 2) r8 (ts.map λt:Nat=>D.int (t:Int)) [e0,some (.h 1),y,a,e,g,f] (spo p [])=some (.nx [e0,some (.h 1),J,l,o,u,v] (spo x []))
 |[],p,Zq,h,B,y,a,e,g,f=>⟨p,y,a,e,g,f,U⟩
 |t::ts,p,Zq,h,B,y,a,e,g,f=>by
  rw[qam]at B;obtain⟨p1,l,o,u,v,G,w⟩:=Do h (by lia) e0 a e g f;obtain⟨K,O,r3,r4,S,r6,A⟩:=vn e0 ts G (by lia) _ l o u v;exact⟨K,O,r3,r4,S,r6,(qA U w).trans A⟩
theorem zZ (ns) (Y:ns.length<=63):∃ st,uI [.d (.scr ns)] []=some (.d (.bl true),st) :=by
 obtain⟨p,H,w⟩:=Fi ns Y;obtain⟨x,J,l,o,u,v,A⟩:=vn _ [0,1,2,3] H (by show _+40*4+200<_;lia) none none none none none;exact⟨_,cB U (ah (aj (ai (ab U U) w)) (ah (a6 U A) U))⟩
end Own
end
namespace Own
open PySem L2
theorem Ce {b:List Value}(h:b.length=n+1):∃ a r,b=a::r/\r.length=n :=by
 cases b with
 |nil=>cases h
 |cons a r=>exact⟨a,r,U,qek h⟩
theorem Gz {b:List Value} (h:b.length=1):∃ a0,b=[a0]:=by
 obtain⟨a,r,rfl,g⟩:=Ce h;exact⟨a,by rw[qgt.1 g]⟩
theorem GA {c:List Value} (h:c.length=2):∃ a0 a,c=[a0,a]:=by
 obtain⟨b,r,rfl,g⟩:=Ce h;obtain⟨a,rfl⟩:=Gz g;exact⟨b,a,U⟩
theorem GB {c:List Value} (h:c.length=3):∃ a0 a a2,c=[a0,a,a2]:=by
 obtain⟨b,r,rfl,g⟩:=Ce h;obtain⟨a,a2,rfl⟩:=GA g;exact⟨b,a,a2,U⟩
theorem GC {d:List Value} (h:d.length=4):∃ a0 a a2 c,d=[a0,a,a2,c]:=by
 obtain⟨b,r,rfl,g⟩:=Ce h;obtain⟨a,a2,c,rfl⟩:=GB g;exact⟨b,a,a2,c,U⟩
theorem bnd :∀ p∈tbl,∀ f g,Fun K p.1 p.1 (top p.2.1) f g->cY K g (p.2.2.1.take p.2.2.2) [] :=by
 iterate 48 refine qcU.2 ⟨λf g F=>F.binds λ_ _ _ _ _ _ b a=>(by first|(obtain⟨_,rfl⟩:=Gz a;rfl)|(obtain⟨_,_,rfl⟩:=GA a;rfl)|(obtain⟨_,_,_,rfl⟩:=GB a;rfl)|(obtain⟨_,_,_,_,rfl⟩:=GC a;rfl)),?_⟩
 exact λ_ h=>nomatch h
theorem fa_mk (a:qen K qb9 x=some (some (.ref f))) (b:Fun K x x (top i) f g):∃ f g,qen K qb9 (rT x i N k).1=some (some (.ref f))/\Fun K (rT x i N k).1 (rT x i N k).1 (top (rT x i N k).2.1) f g :=⟨f,g,a,b⟩
theorem txt_mk (X:K.In h) (G:h.Ns qb9 mg) (F:∀ p∈tbl,∃ f g,qen K qb9 p.1=some (some (.ref f))/\Fun K p.1 p.1 (top p.2.1) f g)
  (z:∀ x∈(["abs","all","any","bool","enumerate","int","isinstance","len","list","range","repr","sorted","str","sum","tuple","zip"]:List Str),qen K qb9 x=some none)
  (c1:qen K qb9 "Table" = some (some (.ref a))) (c2:qcf K (.ref a) "__init__" = some (some (.ref c))) (c3:Fun K "__init__" "Table.__init__" b6 c d)
  (m0:qfr K a=true) (m2:qhR K (.ref c)=true) (m3:qcC K (.ref a)=true) (d0:qed K a Str.empty=true) (d1:qdW K a=true) (d2:qe3 K a=true) (d3:qcf K (.ref a) "__setattr__" = some (some (.builtin "object.__setattr__")))
  (na:∀ p∈bQ,qcf K (.ref a) p.1=some none)
  : Txt K mg :=
 ⟨λp e=>let ⟨f,g,a,b⟩:=F p e;⟨f,g,b,qhJ X G a,bnd p e f g b⟩,λx h=>PySem.W.mg_none_of X G (z x h),a,c,d,qhJ X G c1,c3,c3.binds λ_ _ _ _ _ _ j i=>(by obtain⟨_,_,_,_,rfl⟩:=GC i;rfl),⟨m0,c2,m2,m3⟩,⟨d0,d1,d2,d3⟩,na⟩
theorem walk {l:qfs}{K:Params->qae} (hn:l.most=some 63) (c:d.params.defaults=[])
  (m:∀ (w) (h),YP w h->(K w.params).In h)
  (F:∀ (w) (mg) (e) (h),(K w.params).In h->h.Ns qb9 mg->mg d.name=some (.ref e)->
    ∃ fd,(∀ (s) (u),qht s fd ⟨[u],[]⟩ [("_law_script",u)])/\∀ base,(K w.params).In base->base.Ns qb9 mg->dm l.prog w (K w.params) mg base CX0 13 e fd ["_law_script"] (spI (K w.params) uI)) :
  qhK q b XP YP l.row.toRowW d [] (λf o=>qhn f o) :=
 L2.walk_of (n:=63) (k:=13) (x:="_law_script") (CX:=λ_=>CX0) (sp:=λw=>spI (K w.params) uI) hn (by decide) c ⟨U,by decide,by decide,U⟩ m F (λ_ _ a ns j i g=>Dg i g (zZ ns j)) λ_ _ _ _ _ z=>z
theorem law_mk {l:qfs}{h:Heap}(a:mg "law" = some (.ref b)) (T:Txt K mg) :
  ∃ fd,(∀ (s) (v),qht s fd ⟨[v],[]⟩ [("_law_script",v)])/\∀ base,K.In base->base.Ns qb9 mg->dm l.prog w K mg base CX0 13 b fd ["_law_script"] (spI K uI) :=by
 obtain⟨f,g,F,m,_⟩:=T.F (rT "law" 58 ["_law_script","_law_pot_here","_law_turn","_law_n","_law_f_here","_law_kind","_law_found"] 1) (by decide +kernel)
 have e:=a.symm.trans m;cases e
 refine⟨g,λs v=>?_,λbase _ _=>by
  have q:=Ig (P:=l.prog) (w:=w) (base:=base) T
  iterate 8 replace q:=q.2
  exact q _ _ F⟩
 obtain⟨j,n,kV,c,o,k,i,ct,d,e,_⟩:=F.ex;rw[e];exact .of_eq U
end Own
namespace PySem.W.Fast
theorem tw530362197548423509:True:=⟨⟩
theorem tw17871531123885000317:True:=⟨⟩
theorem tw7703928011480384405:True:=⟨⟩
theorem tw11334840645850118809:True:=⟨⟩
theorem tw9878292308411155764:True:=⟨⟩
theorem tw9913413224801888549:True:=⟨⟩
theorem tw9339423982833936318:True:=⟨⟩
theorem tw7142762889854333260:True:=⟨⟩
theorem tw6529112135632578252:True:=⟨⟩
theorem tw2747088630693290969:True:=⟨⟩
theorem tw4326267947026161346:True:=⟨⟩
theorem tw9840893340057931831:True:=⟨⟩
theorem tw6240427543579014019:True:=⟨⟩
theorem tw11840839063615971323:True:=⟨⟩
theorem tw9993960856743477846:True:=⟨⟩
theorem tw9686815697744462183:True:=⟨⟩
theorem tw15391297061724173359:True:=⟨⟩
theorem tw13664836926840927701:True:=⟨⟩
theorem tw11771224103830854743:True:=⟨⟩
theorem tw4367245266389566943:True:=⟨⟩
theorem tw5828787066815174426:True:=⟨⟩
theorem tw11589905865187638392:True:=⟨⟩
theorem tw4006441136644972080:True:=⟨⟩
theorem tw8188656271141663263:True:=⟨⟩
theorem tw1571026123133782355:True:=⟨⟩
theorem tw16488969911973706668:True:=⟨⟩
theorem tw2384678796282214191:True:=⟨⟩
theorem tw3662803959975771542:True:=⟨⟩
theorem tw7274938312147637719:True:=⟨⟩
theorem tw6094733681279024766:True:=⟨⟩
theorem tw9199320282845152527:True:=⟨⟩
theorem tw2716296138227389583:True:=⟨⟩
theorem tw12536525283848878879:True:=⟨⟩
theorem tw14311521395265176667:True:=⟨⟩
theorem tw5052105239387925056:True:=⟨⟩
theorem tw7143899768465109730:True:=⟨⟩
theorem tw333930210097496655:True:=⟨⟩
theorem tw13981283164245943312:True:=⟨⟩
theorem tw5037954886046398852:True:=⟨⟩
theorem tw4968511956671637941:True:=⟨⟩
theorem tw15652070121628538577:True:=⟨⟩
theorem tw6262591458526102172:True:=⟨⟩
theorem tw3844896505693693881:True:=⟨⟩
theorem tw7757744753507337217:True:=⟨⟩
theorem tw18335727837754354560:True:=⟨⟩
theorem tw26012568359316638:True:=⟨⟩
theorem tw13690946658379380106:True:=⟨⟩
theorem tw13079447706227465289:True:=⟨⟩
theorem tw14331179254747332998:True:=⟨⟩
theorem tw8945167488542944573:True:=⟨⟩
theorem tw6229915540432168587:True:=⟨⟩
theorem tw10160220747575892782:True:=⟨⟩
theorem tw5391331622438938838:True:=⟨⟩
theorem tw2791358316408907768:True:=⟨⟩
theorem tw15794127324355871050:True:=⟨⟩
theorem tw16067819358147620042:True:=⟨⟩
theorem tw12759892685754840930:True:=⟨⟩
theorem tw15777036103398167707:True:=⟨⟩
theorem tw6098054592196305022:True:=⟨⟩
theorem tw15397873148491029932:True:=⟨⟩
theorem tw16476530461183827304:True:=⟨⟩
theorem tw17102436136578357616:True:=⟨⟩
theorem tw327163057839566209:True:=⟨⟩
theorem tw7356880602207286677:True:=⟨⟩
theorem tw6720421761302962116:True:=⟨⟩
theorem tw6279600635315660080:True:=⟨⟩
theorem tw7602631371281666351:True:=⟨⟩
theorem tw1870345656608048255:True:=⟨⟩
theorem tw4105486918698206118:True:=⟨⟩
theorem tw3331277277555967394:True:=⟨⟩
theorem tw7087420272816618598:True:=⟨⟩
theorem tw16269554483794362883:True:=⟨⟩
theorem tw13909457428455186497:True:=⟨⟩
theorem tw14447693143116500050:True:=⟨⟩
theorem tw2933602834495775263:True:=⟨⟩
theorem tw5856146170012665419:True:=⟨⟩
theorem tw12516387721391809805:True:=⟨⟩
theorem tw9962623009685416446:True:=⟨⟩
theorem tw9531352530716400035:True:=⟨⟩
theorem tw5031677432502149745:True:=⟨⟩
theorem tw8500382047533010139:True:=⟨⟩
theorem tw7610468920893191780:True:=⟨⟩
theorem tw14993530809252032454:True:=⟨⟩
theorem tw1425245965381767639:True:=⟨⟩
theorem tw4518810312853344531:True:=⟨⟩
theorem tw16276675739155458602:True:=⟨⟩
theorem tw13931777070413995516:True:=⟨⟩
theorem tw8333184437910402272:True:=⟨⟩
theorem tw2987405944560334816:True:=⟨⟩
theorem tw4974047635054701166:True:=⟨⟩
theorem tw2870283928606953502:True:=⟨⟩
theorem tw9941972100839436266:True:=⟨⟩
theorem tw9521245468984451380:True:=⟨⟩
theorem tw4193232623237281644:True:=⟨⟩
theorem tw14028559329560538063:True:=⟨⟩
theorem tw13310783885965819341:True:=⟨⟩
theorem tw16810083764709024087:True:=⟨⟩
theorem tw11915212835392844487:True:=⟨⟩
theorem tw12296062638194968826:True:=⟨⟩
theorem tw10589468838536404014:True:=⟨⟩
theorem tw15657091817459999619:True:=⟨⟩
theorem tw12650516804866376079:True:=⟨⟩
theorem tw16317876800806920873:True:=⟨⟩
theorem tw2545519629161046641:True:=⟨⟩
theorem tw12680123126696608122:True:=⟨⟩
theorem tw17604259584107615742:True:=⟨⟩
theorem tw13214239384798892326:True:=⟨⟩
theorem tw7432861347501893542:True:=⟨⟩
theorem tw4627437938339404563:True:=⟨⟩
theorem tw7922591928815409939:True:=⟨⟩
theorem tw13516869787056593451:True:=⟨⟩
theorem tw5632537418964086928:True:=⟨⟩
theorem tw12526743786020598294:True:=⟨⟩
theorem tw17505776258075602552:True:=⟨⟩
theorem tw2521106710318811027:True:=⟨⟩
theorem tw13917066626446253303:True:=⟨⟩
theorem tw3771613976055383564:True:=⟨⟩
theorem tw1351056267540749240:True:=⟨⟩
theorem tw4483054972504137104:True:=⟨⟩
theorem tw9068687889216511397:True:=⟨⟩
theorem tw4655856707793133692:True:=⟨⟩
theorem tw4542735890085492595:True:=⟨⟩
theorem tw1654369794736019708:True:=⟨⟩
theorem tw3134616814271908518:True:=⟨⟩
theorem tw14321401434844355831:True:=⟨⟩
theorem tw21412871744853302:True:=⟨⟩
theorem tw2055875250912841481:True:=⟨⟩
theorem tw14638108097988583901:True:=⟨⟩
theorem tw823599834506115321:True:=⟨⟩
theorem tw920911443747332789:True:=⟨⟩
theorem tw8938862168468646014:True:=⟨⟩
theorem tw3832781802539086522:True:=⟨⟩
theorem tw16687278289047821271:True:=⟨⟩
theorem tw9278552516571186712:True:=⟨⟩
theorem tw13002105742135780469:True:=⟨⟩
theorem tw16105377706237960021:True:=⟨⟩
theorem tw9481683735963673631:True:=⟨⟩
theorem tw13295389028505116483:True:=⟨⟩
theorem tw4137391606525035583:True:=⟨⟩
theorem tw3100311727741895584:True:=⟨⟩
theorem tw17578189104828990321:True:=⟨⟩
theorem tw15179297819725624923:True:=⟨⟩
theorem tw6062488843269473589:True:=⟨⟩
theorem tw3661647418071523471:True:=⟨⟩
theorem tw4119448041757755344:True:=⟨⟩
theorem tw12509121542369971052:True:=⟨⟩
theorem tw11642518027424427130:True:=⟨⟩
theorem tw16226979260298484382:True:=⟨⟩
theorem tw4598271820887259591:True:=⟨⟩
theorem tw16738155833034709784:True:=⟨⟩
theorem tw13669924280310382027:True:=⟨⟩
theorem tw7742502118750312432:True:=⟨⟩
theorem tw14618366231257364748:True:=⟨⟩
theorem tw3554947047212776798:True:=⟨⟩
theorem tw17909456750617106817:True:=⟨⟩
theorem tw15218118570206415016:True:=⟨⟩
theorem tw4792712331520740462:True:=⟨⟩
theorem tw11928427015336597508:True:=⟨⟩
theorem tw7499733800019552569:True:=⟨⟩
theorem tw13953951191817589894:True:=⟨⟩
theorem tw18412749804985626665:True:=⟨⟩
theorem tw15690001585642237717:True:=⟨⟩
theorem tw9556888617497220287:True:=⟨⟩
theorem tw9499799711099873788:True:=⟨⟩
theorem tw8276157835283712008:True:=⟨⟩
theorem tw1044997559455665236:True:=⟨⟩
theorem tw4902381487776713856:True:=⟨⟩
theorem tw2973832471154720927:True:=⟨⟩
theorem tw14987437153425498837:True:=⟨⟩
theorem tw11713122205605299895:True:=⟨⟩
theorem tw3211109564665996583:True:=⟨⟩
theorem tw8375405211117305743:True:=⟨⟩
theorem tw2229725320219294352:True:=⟨⟩
theorem tw16908817759573483073:True:=⟨⟩
theorem tw15377513267706239232:True:=⟨⟩
theorem tw5428973617507414572:True:=⟨⟩
theorem tw8246000063616096627:True:=⟨⟩
theorem tw10115475119306911301:True:=⟨⟩
theorem tw8978677699308704573:True:=⟨⟩
theorem tw15827490674283571414:True:=⟨⟩
theorem tw10197364734600436220:True:=⟨⟩
theorem tw7794595956651569464:True:=⟨⟩
theorem tw5062752446875256722:True:=⟨⟩
theorem tw15665635048416651920:True:=⟨⟩
theorem tw6900724218678597904:True:=⟨⟩
theorem tw4497027421928747981:True:=⟨⟩
theorem tw14064524377171210270:True:=⟨⟩
theorem tw9491355032945293136:True:=⟨⟩
theorem tw11954488628263234186:True:=⟨⟩
theorem tw7595148914576359635:True:=⟨⟩
theorem tw10317078416498828670:True:=⟨⟩
theorem tw447116024529403358:True:=⟨⟩
theorem tw7766384232883138599:True:=⟨⟩
theorem tw16786471955964764501:True:=⟨⟩
theorem tw2966771753417845738:True:=⟨⟩
theorem tw13765367980716282839:True:=⟨⟩
theorem tw15661854692575823894:True:=⟨⟩
theorem tw2023586612859181560:True:=⟨⟩
theorem tw9013574308020595998:True:=⟨⟩
theorem tw1937788460924273744:True:=⟨⟩
theorem tw8086678192047273976:True:=⟨⟩
theorem tw16691889880029617449:True:=⟨⟩
theorem tw308524626990761069:True:=⟨⟩
theorem tw2600859729190391983:True:=⟨⟩
theorem tw5015864797971839338:True:=⟨⟩
theorem tw17633022786920365880:True:=⟨⟩
end PySem.W.Fast
open PySem PySem.W PyProof.Rows
set_option maxRecDepth 100000 in
set_option maxHeartbeats 0 in
theorem PySem.Challenge.cw_signpoly_k48_fewest_told_holds : PySem.Challenge.rw_signpoly_k48_fewest_told.Holds := by
 w_on;o_law;k_head;(case hw=>w_witness2)
 k_fill
 refine Own.walk (l:=PySem.Challenge.rw_signpoly_k48_fewest_told) rfl rfl (λw h Y=>PySem.W.kIn_of Y) ?F
 case F=>
  intro w mg d h KX G a;refine Own.law_mk (h:=h) a ?T
  case T=>
   refine' Own.txt_mk KX G ?F ?z ?c1 ?c2 ?c3 ?m0 ?m2 ?m3 ?d0 ?d1 ?d2 ?d3 ?na
   case F=>(iterate 48 (refine' qcU.2 ⟨Own.fa_mk ?e ?b,?_⟩;(case e=>k_is);(case b=>(refine' L2.fun_mk ?l ?c ?k;(case l=>k_is);(case c=>k_is);case k=>k_is))));intro _ h;cases h
   case z=>(iterate 16 (refine qcU.2 ⟨by k_is,?_⟩));intro _ h;cases h
   case c1=>k_is
   case c2=>k_is
   case c3=>refine' L2.fun_mk ?l ?c ?k;(case l=>k_is);(case c=>k_is);case k=>k_is
   case m0=>kernel_rfl
   case m2=>kernel_rfl
   case m3=>kernel_rfl
   case d0=>kernel_rfl
   case d1=>kernel_rfl
   case d2=>kernel_rfl
   case d3=>kernel_rfl
   case na=>(iterate 6 (refine qcU.2 ⟨by kernel_rfl,?_⟩));intro _ h;cases h
