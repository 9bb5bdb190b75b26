import PyProof.Rows.All
import Wide.All
import OpenK.AllK
import Wide.FinOn
import Lean
import PyProof.EqAt
import PyProof.EqKinds
import PyProof.TupleCall
import PyProof.ListRange
import PyProof.NeKinds
import KE.KUnpack
import KE.KSortTup
import PyProof.ZipIter
import PyProof.Rows.CallKwBuiltin
import KE.KFind
import KE.KDictLaws
import KE.KDictList
import PyProof.SetKind
import PyProof.SetRoads
import PyProof.Rows.SetFrom
import PyProof.WalksMore
import PySem.Challenge.RW_signpoly_k92_whole_widest_margins
set_option Elab.async false
set_option linter.all false
set_option maxRecDepth 100000
set_option genSizeOf false
noncomputable section
open And renaming right -> qgX, left -> qhy
open Array renaming getElem?_eq_getElem -> qbx, length_toList -> qcS, getElem?_eq_none -> qdF, getElem_toList -> qdU, getElem?_toList -> qeM, perm_iff_toList_perm -> qf2, toList -> qgM
open Bool renaming false_ne_true -> qa7, false_eq_true -> qa8, and_eq_true -> qbg, not_eq_true -> qeF, eq_iff_iff -> qeQ, or_eq_true -> qhZ, and_self -> qiv
open Decidable renaming byContradiction -> qdd
open False renaming elim -> qcP
open Int renaming toNat_natCast -> qaE, mul_left_comm -> qaU, mul_le_mul_of_nonneg_left -> qa1, mul_comm -> qa9, mul_zero -> qbh, mul_le_mul_of_nonneg_right -> qbj, mul_right_comm -> qbl, mul_assoc -> qbm, eq_ofNat_of_zero_le -> qbn, ofNat_dvd_left -> qb0, zero_mul -> qcl, mul_ediv_cancel' -> qco, natAbs_mul -> qct, zero_add -> qcD, one_mul -> qcG, mul_add -> qcH, le_of_mul_le_mul_left -> qdr, mul_one -> qdu, le_refl -> qdv, neg_mul -> qdN, mul_sub -> qdO, reduceNeg -> qdY, toNat_of_nonneg -> qd4, mul_lt_mul_of_pos_right -> qd5, lt_of_mul_lt_mul_right -> qeb, fdiv_eq_ediv_of_nonneg -> qec, eq_of_mul_eq_mul_right -> qed, lt_or_eq_of_le -> qeg, le_trans -> qeh, eq_of_mul_eq_mul_left -> qel, mul_ediv_cancel_left -> qes, add_mul -> qeE, natCast_ediv -> qeJ, ediv_nonneg -> qe0, add_zero -> qe1, sub_zero -> qfM, sub_mul -> qga, mul_pos -> qgb, mul_neg -> qgc, natAbs_neg -> qgt, le_of_lt -> qgW, natCast_nonneg -> qhu, lt_of_le_of_lt -> qhv, emod_lt_of_pos -> qhw, neg_mul_neg -> qia, mul_eq_zero -> qib, emod_nonneg -> qic, mul_nonneg -> qip, zero_ediv -> qiM, le_total -> qjI
open List renaming length_map -> qaf, mem_cons_self -> qag, getElem?_eq_getElem -> qai, mem_cons_of_mem -> qak, mem_singleton -> qal, range -> qan, getD_eq_getElem?_getD -> qao, length_cons -> qar, map_cons -> qas, getElem?_eq_some_iff -> qat, length_append -> qav, length_range -> qaw, mem_append_right -> qax, mem_map -> qay, mem_cons -> qaA, getD_cons_zero -> qaB, map_map -> qaC, getElem?_map -> qaF, mem_append -> qaG, mem_range -> qaH, getElem?_append_left -> qaI, getD_cons_succ -> qaJ, size_toArray -> qaK, replicate -> qaL, getElem?_append_right -> qaO, mem_append_left -> qaS, getElem?_eq_none -> qaX, getElem_mem -> qa2, replicate_zero -> qa3, replicate_succ -> qa4, all_eq_true -> qa6, nil_append -> qbb, set_cons_zero -> qbc, getElem?_set_self -> qbd, map_congr_left -> qbe, cons_append -> qbf, pairwise_cons -> qbi, getElem?_range -> qbp, getElem?_eq_none_iff -> qbq, map_append -> qbs, length_nil -> qbt, lookup_cons -> qbv, mem_of_getElem? -> qby, getElem?_set_ne -> qbz, sum_cons -> qbB, set_cons_succ -> qbC, all_cons -> qbD, mem_filter -> qbK, map_nil -> qbL, not_mem_nil -> qbM, append_assoc -> qbO, mem_iff_getElem -> qbQ, length_set -> qb2, ext_getElem? -> qb4, nodup_cons -> qcb, length_singleton -> qcf, append_nil -> qcg, take_left -> qcq, pairwise_map -> qcr, nodup_append -> qcs, getElem_map -> qcz, any_cons -> qcB, drop_eq_getElem_cons -> qcE, nodup_nil -> qcW, take_of_length_le -> qcZ, getElem_range -> qc1, length_replicate -> qda, forall_mem_cons -> qdg, length_take -> qdp, filter_cons -> qdq, getElem?_replicate -> qdB, find?_cons -> qdC, range_succ_eq_map -> qdG, mapM_toArray -> qdH, mem_iff_getElem? -> qdP, length_filter_le -> qdQ, getElem_inj -> qdT, range_succ -> qd0, mem_map_of_mem -> qd1, lookup -> qd2, perm_ext_iff_of_nodup -> qd7, zip_cons_cons -> qea, filter_cons_of_pos -> qew, filter_cons_of_neg -> qex, take_length -> qeB, length_drop -> qeC, any_eq_true -> qeD, find?_cons_of_pos -> qeH, find?_cons_of_neg -> qeI, Nodup -> qeZ, range' -> qe7, map_id -> qe8, length -> qe9, filterMap_cons -> qfa, mem_filterMap -> qfo, take_succ_eq_append_getElem -> qfr, filter_congr -> qfx, all_map -> qfD, drop_length -> qfJ, all_toArray -> qfK, of_mem_zip -> qfX, getD -> qfY, forIn_cons -> qfZ, filter_map -> qf0, drop_zero -> qgl, getElem?_take_of_lt -> qgs, pairwise_singleton -> qgw, map -> qgx, idxOf?_eq_some_iff -> qgy, pairwise_lt_range -> qgJ, length_pos_of_mem -> qgK, drop_eq_nil_of_le -> qgL, replicate_succ' -> qgT, range_eq_range' -> qgU, pairwise_append -> qgV, length_pos_iff -> qg3, flatten_append -> qg4, filter_sublist -> qg5, filter_eq_self -> qg6, push_toArray -> qhr, flatten_cons -> qhs, any_eq_false -> qht, zipIdx_cons -> qhM, nodup_range -> qhN, isEmpty_iff -> qhO, ext_getElem -> qhP, zipIdx_nil -> qhV, length_zip -> qhW, foldl_cons -> qhX, drop -> qhY, forIn_nil -> qh7, drop_drop -> qh8, map_id' -> qiJ, foldl -> qjZ
open List.Nodup renaming not_mem_erase -> qld
open List.Pairwise renaming imp_of_mem -> qdX, sublist -> qiK, map -> qiL
open List.Perm renaming refl -> qcR, eq_of_pairwise -> qfL
open List.Sublist renaming refl -> qjH
open Nat renaming le_refl -> qap, ne_of_lt -> qaD, le_trans -> qaM, lt_of_lt_of_le -> qaP, pow_le_pow_right -> qaV, gcd -> qaW, lt_succ_of_lt -> qaY, zero_add -> qa0, lt_irrefl -> qa5, lt_of_le_of_lt -> qbF, lt_succ_self -> qbN, zero_le -> qcc, ne_of_gt -> qck, reduceSub -> qcp, not_lt_zero -> qcu, reduceAdd -> qcC, mul_le_mul_right -> qcQ, mul_le_mul -> qcY, add_sub_cancel -> qc5, le_succ -> qdc, div_eq_of_eq_mul_right -> qdf, le_add_right -> qds, le_of_eq -> qdx, add_sub_cancel_left -> qdD, mul_comm -> qdS, gcd_dvd_left -> qdW, pow_pos -> qd3, gcd_pos_of_pos_right -> qeq, gcd_dvd_right -> qer, mul_assoc -> qeA, succ_ne_self -> qeG, sub_self -> qeV, lt_trans -> qeW, le_of_lt -> qeX, add_comm -> qeY, lt_or_ge -> qfI, two_pow_pos -> qf9, eq_of_mul_eq_mul_left -> qgr, sub_zero -> qgS, pow_add -> qhl, mul_pos -> qhm, pos_of_ne_zero -> qhq, not_lt -> qhJ, mul_left_comm -> qhK, gcd_mul_right -> qhL, mod_eq_of_lt -> qhS, min_eq_right -> qhT, div_eq_of_lt -> qhU, min_eq_left -> qh6, dvd_trans -> qiI, gcd_comm -> qjF, add_zero -> qjG, pow_mul -> qjW, one_mul -> qjX, add_mul -> qjY
open Ne renaming symm -> qbr
open Option renaming bind_some -> qaa, bind_eq_some_iff -> qab, map_eq_some_iff -> qad, map_some -> qaj, isSome_iff_exists -> qcL, getD_none -> qhk
open Option.some renaming inj -> qaQ, injEq -> qjV
open Prod renaming fst -> qcA, snd -> qdA
open PyProof.Rows renaming boot_list -> qba, boot_sorted -> qbo, wpS_bind -> qbw, slot_tuple_getitem -> qbG, boot_tuple -> qbH, boot_sum -> qbT, boot_min -> qbU, boot_max -> qbV, boot_int -> qbW, boot_any -> qbX, boot_all -> qbY, boot_abs -> qbZ, SortSt -> qb9, wpS_pure -> qcm, callWith_type1 -> qcn, IntsAre -> qcF, SortKind -> qdy, wpS_forRange -> qet, lt_int -> qev, envOfC -> qeL, pendingOf -> qff, boot_range -> qfw, KeyOrd -> qfy, AllBare -> qfH, seqObj -> qfR, wpS_modify -> qgY, wpS_get -> qha, listUpdate_at -> qhf, failedOf -> qhg, subscriptTail_builtinR -> qho, seqEpoch_at -> qh1, keyKind'_eq -> qh2, getElem?_mirror_all -> qh3, entry_tuple_getitem -> qh4, wpS_mono -> qif, oneType' -> qih, keyKind' -> qii, gallopOf -> qij, args_tuple_getitem -> qil, size_push' -> qiB, Subscript_ -> qiE, truthy_int -> qjB, gt_int -> qjC, envOfC -> qjD, callWith_builtin1 -> qjE, sortedAll -> qjM, oneTypeOnly'_eq -> qjP, mirror -> qjQ, getElem?_bubble -> qjS, entry_list_sort -> qjT, slot_list_sort -> qj2, slicePart_none -> qj3, boot_enumerate -> qj8, args_list_sort -> qj9
open PyProof.Rows.KeyOrd renaming kle_refl -> qc6, kle_of_klt -> qdE, kle_trans -> qdR, kle_antisymm -> qgP
open PyProof.Rows.SortSt renaming mk' -> qiF
open PySem renaming wpAny_bind -> qac, Shared -> qam, wpAny_pure -> qaq, sizeLine -> qaN, Program -> qaR, Around -> qaZ, mem_of_lookup -> qbu, starEach -> qbA, foldedSetIterable -> qbE, binaryOp -> qbI, IntMulOk -> qbJ, wpAny_seqItems -> qbP, wpAny_callSpecial?_slot -> qbR, Spec -> qbS, boot_len -> qb1, wpAny_holding -> qb5, wpAny_call_entry -> qb6, assignEach -> qb8, NameKind -> qca, FuncData -> qcd, compareOp -> qce, wpAny_field -> qci, mainGlobals -> qcj, wpAny_tryCatch -> qcv, wpAny_truthy_bool -> qcw, wpAny_newObj_type -> qcx, wpAny_mono -> qcJ, sysModules -> qcK, swapsWith -> qcM, cellsFrom -> qcN, bootBuiltins -> qcO, codeAny_builtin -> qcV, wpAny_letGo -> qc0, wpAny_typeNameOfWhole_keyiter -> qc7, call_meets -> qc9, wpAny_pyNext_list_item -> qdb, wpAny_setField_rec -> qde, wpAny_pyNext_list_end -> qdh, wpAny_passesOwn -> qdi, sizeLine_eq -> qdj, pushCells_keeps -> qdk, wpAny_pyIter_list -> qdm, plainId_quiet -> qdn, attributeBase -> qdo, wpAny_updateSeq -> qdK, wpAny_pyIter_tuple -> qdL, codeAny -> qdM, wpAny_rule -> qdV, sliceBounds -> qei, DictEntry -> qem, wpAny_Call_Name_kw -> qeu, wpAny_pyIter_enum -> qeK, wpAny_attempt -> qeR, swapsWithSole -> qeS, swappedStores -> qeT, wpAny_ite_false -> qfc, wpAny_execs_nil -> qfd, pushCells -> qfe, getItem -> qfg, backTo -> qfh, wpAny_updateSeq_pair -> qfp, list_append -> qfq, wpAny_setField -> qfv, Builtin -> qfG, wpAny_standAt -> qfO, wpAny_onRaise -> qfP, wpAny_newList -> qfQ, behindInMarks -> qfS, wpAny_dictEntries -> qf3, typeIs_int -> qf4, holding -> qf5, codeAny_mono -> qgg, assign -> qgh, Paired -> qgk, IsPart -> qgm, noFill_tuple_add -> qgo, IntMulOk -> qgz, wpAny_dictEpoch -> qgB, tupleKind -> qgC, subscripted -> qgD, rawInt -> qgE, letOwnedTupleGo -> qgF, keywordEach -> qgG, Within -> qgI, intBits_le_iff -> qgN, wpAny_binaryOp_repeat_ref -> qgQ, wpAny_comprehension_free -> qgZ, pyNext -> qg0, builtinsNs -> qg1, IsPair -> qg7, wpAny_pyNext_enum_itemD -> qhb, valueAt -> qhc, seq_tuple_add -> qhd, rangeSize_one -> qhe, compEnvC -> qhh, callerA -> qhi, call -> qhj, BindsTo -> qhn, codeAny_compStart_list -> qhp, wpAny_typeOf -> qhz, wpAny_isOneOf_keyiter -> qhA, seqIndex_neg -> qhB, pyIter -> qhC, concat_meets -> qhD, Result -> qhE, PassesOwn -> qhH, seqIndex_of -> qh0, Keyword -> qh9, tupleKind_room_in1 -> qig, backToKw -> qik, GenState -> qir, wpAny_sequenceKey -> qiw, wpAny_call -> qix, wpAny_assign_Name -> qiy, wpAny_Name -> qiz, slot_list_getitem -> qiA, again -> qiG, wpAny_pyIter_zip -> qiV, wpAny_isInstance -> qiW, wpAny_execs_cons -> qiX, standAt -> qjL, setItem -> qjN, seqIndex? -> qjO, isTrue -> qjR, wpAny_newTuple -> qj0, wpAny_fieldsOf -> qj1, recursionLimit -> qj4, isSubtype_stop -> qj5, fitsIndex_both -> qj6, firstArgMember -> qj7
open PySem.Around renaming under_plainId -> qcI, under -> qgA
open PySem.Builtin renaming bitXor -> qb7
open PySem.Builtin.Dict renaming showsAll -> qfN
open PySem.Builtin.List renaming listTooLong -> qfu
open PySem.Builtin.Range renaming rangeFitsLong -> qe5, rangeSize -> qft, small -> qiU
open PySem.Builtin.Slice renaming slicePlaces -> qc4, sliceAdjust -> qfl, slicePartIndex -> qiS, sliceApplied -> qiT
open PySem.Builtin.SmallTypes renaming nextOf -> qcU, ownedTupleHandOut -> qd6, ownedTupleIsFree -> qhx
open PySem.Builtin.Tuple renaming tupleItemsOf -> qfb, tupleTooMany -> qiQ, tupleCompareSizes -> qiR
open PySem.Calls renaming Name_function_global -> qf1, call_function_entry -> qgf
open PySem.Code renaming isGuard -> qiO, isFrame -> qiP, frames -> qjK
open PySem.Draws renaming list -> qjJ
open PySem.Env renaming kindOf -> qle
open PySem.F renaming slot_dict_keyiterator_next -> qb3, plain_min_loop -> qc2, plain_max_loop -> qc3, slot_tuple_iterator_next -> qdl, args_tuple_add_2 -> qd9, entry_tuple_add -> qek, slot_tuple_add -> qeo, slot_tuple_lt -> qez, args_dict_keyiterator_next_1 -> qeO, slot_tuple_mul -> qeP, entry_dict_keyiterator_next -> qeU, slot_zip_next -> qe3, slot_int_rmul -> qe4, args_list_append_2 -> qfk, entry_list_append -> qfs, slot_list_append -> qfE, args_tuple_mul_2 -> qfF, entry_tuple_mul -> qfV, slot_list_index -> qf6, plainAttrs_list -> qf7, args_tuple_lt_2 -> qf8, entry_min_loop -> qgd, entry_max_loop -> qge, slot_dict_iter -> qgi, entry_tuple_lt -> qgj, args_tuple_iterator_next_1 -> qgn, entry_tuple_iterator_next -> qgu, args_zip_next_1 -> qid, args_int_rmul_2 -> qie, slot_int_index -> qis, entry_zip_next -> qit, entry_int_rmul -> qiu, fills_int_mul -> qiN
open PySem.Heap renaming get?_push_of_some -> qah, get?_push_size -> qau, lt_size -> qaz, get?_update_other -> qaT, size_push -> qbk, get?_update_self -> qch, SameBut -> qdw, get?_push_ne -> qdI, get?_update_ne -> qg8, ExtBut -> qg9, size_update -> qhQ
open PySem.Heap.IsSliceOf renaming new -> qiq
open PySem.Heap.SameBut renaming update -> qdJ
open PySem.IntMulOk renaming of_le -> qin
open PySem.IsL renaming update -> qfj
open PySem.Obj renaming mapSeq -> qcX, data_mapFields -> qef, isFreed_of_fields -> qgR, cls_mapFields -> qhI
open PySem.Paired renaming length -> qe6, snoc -> qio
open PySem.PassesOwn renaming never -> qep
open PySem.SeqAt renaming EqAt -> qej, ne_of_list_tuple -> qgv, RcNeAt -> qim, RcAt -> qjz, list_indexAt -> qjU
open PySem.SeqAt.EqAt renaming of_refs -> qeN, same -> qfn, str_int -> qgp, int_str -> qgq, tuple_str -> qkI, tuple_none -> qkJ, tuple_list -> qkK, tuple_int -> qkL, tuple_bool -> qkM, str_tuple -> qkN, str_str -> qkO, str_none -> qkP, str_list -> qkQ, str_bool -> qkR, none_tuple -> qkS, none_str -> qkT, none_list -> qkU, none_int -> qkV, none_bool -> qkW, list_tuple -> qkX, list_str -> qkY, list_none -> qkZ, list_int -> qk0, list_bool -> qk1, int_tuple -> qk2, int_none -> qk3, int_list -> qk4, int_int -> qk5, int_bool -> qk6, bool_tuple -> qk7, bool_str -> qk8, bool_none -> qk9, bool_list -> qla, bool_int -> qlb, bool_bool -> qlc
open PySem.SeqAt.RcAt renaming tuples -> qe2, lists_lengths -> qfz, lists -> qgH, tuple_str -> qka, tuple_none -> qkb, tuple_list -> qkc, tuple_int -> qkd, tuple_bool -> qke, str_tuple -> qkf, str_str -> qkg, str_none -> qkh, str_list -> qki, str_int -> qkj, str_bool -> qkk, none_tuple -> qkl, none_str -> qkm, none_none -> qkn, none_list -> qko, none_int -> qkp, none_bool -> qkq, list_tuple -> qkr, list_str -> qks, list_none -> qkt, list_int -> qku, list_bool -> qkv, int_tuple -> qkw, int_str -> qkx, int_none -> qky, int_list -> qkz, int_int -> qkA, int_bool -> qkB, bool_tuple -> qkC, bool_str -> qkD, bool_none -> qkE, bool_list -> qkF, bool_int -> qkG, bool_bool -> qkH
open PySem.SeqAt.RcNeAt renaming tuples -> qfW, tuple_str -> qiZ, tuple_none -> qi0, tuple_list -> qi1, tuple_int -> qi2, tuple_bool -> qi3, str_tuple -> qi4, str_str -> qi5, str_none -> qi6, str_list -> qi7, str_int -> qi8, str_bool -> qi9, none_tuple -> qja, none_str -> qjb, none_none -> qjc, none_list -> qjd, none_int -> qje, none_bool -> qjf, lists_lengths -> qjg, lists -> qjh, list_tuple -> qji, list_str -> qjj, list_none -> qjk, list_int -> qjl, list_bool -> qjm, int_tuple -> qjn, int_str -> qjo, int_none -> qjp, int_list -> qjq, int_int -> qjr, int_bool -> qjs, bool_tuple -> qjt, bool_str -> qju, bool_none -> qjv, bool_list -> qjw, bool_int -> qjx, bool_bool -> qjy
open PySem.Str renaming ofString -> qee
open PySem.Value renaming isStrOf -> qh5, isInt -> qiD
open PySem.W renaming Frag -> qae, findIn -> qcy, keepIn -> qcT, emptyDict -> qc8, instObj -> qdt, cellsFrom_some -> qdz, fnOf -> qdZ, hasDictIn -> qd8, plainGet -> qen, nsIn -> qey, plainOver -> qfi, takerIn -> qfA, makesIn -> qfB, OpenLaw -> qfC, lookIn -> qfT, codeIn -> qfU, callWith_K -> qgO, handedIn -> qg2, mg_of -> qhF, WalkO -> qhG, isFn -> qhR
open PySem.W.Looks renaming here -> qiH
open PySem.W.WShape renaming has -> qiC
open PySem.Walks renaming list -> qiY
open PySem.WalksT renaming enumerateD -> qfm
open PySem.Within renaming cons -> qjA
def U{α:Sort u}{a:α}:a=a:=rfl
def iFN{c:Prop}{d:Decidable c}(h:¬c){α:Sort u}{t e:α}:ite c t e=e:=if_neg h
def iFP{c:Prop}{d:Decidable c}(h:c){α:Sort u}{t e:α}:ite c t e=t:=if_pos h
namespace L2
open PySem PySem.Spec PyProof.Rows
abbrev Key:=Sum Int Str
def pS:Key->Value->Bool
 |.inl k,v=>qiD k v
 |.inr x,v=>qh5 x v
def HX (w:World):Key->Int
 |.inl k=>hashInt k
 |.inr x=>hashStr w x
theorem bK:∀ {k:Key}{v:Value},pS k v=true->(∃ i t,k=Sum.inl i/\v=Value.int i t)\/(∃ x t,k=Sum.inr x/\v=Value.str x t)
 |.inl i,v,h=>by
  obtain⟨t,e⟩:=Value.isInt_shape h;exact .inl ⟨i,t,U,e⟩
 |.inr x,v,h=>by
  obtain⟨t,e⟩:=Value.isStrOf_shape h;exact .inr ⟨x,t,U,e⟩
theorem y9 (i:Int) (t:Tok):pS (.inl i) (.int i t)=true:=by simp[pS,qiD]
theorem za (x:Str) (t:Tok):pS (.inr x) (.str x t)=true:=by simp[pS,qh5]
theorem ET (a b:Int):decide ((Sum.inl a:Key)=Sum.inl b)=(a==b):=by
 by_cases e:a=b
 ·subst e;simp
 ·rw[decide_eq_false (λq=>e (Sum.inl.inj q))]
  exact (beq_eq_false_iff_ne.mpr e).symm
theorem EW (a b:Str):decide ((Sum.inr a:Key)=Sum.inr b)=decide (a=b):=by
 by_cases e:a=b
 ·simp
 ·rw[decide_eq_false (λq=>e (Sum.inr.inj q)),decide_eq_false e]
theorem EU (a:Int) (b:Str):decide ((Sum.inl a:Key)=Sum.inr b)=false:=decide_eq_false (λq=>nomatch q)
theorem EV (a:Str) (b:Int):decide ((Sum.inr a:Key)=Sum.inl b)=false:=decide_eq_false (λq=>nomatch q)
def cr (prog:qaR) (w:World):PySem.KeyKind prog w Key where
 is:=pS
 hash:=HX w
 inj:=λv a b f hb=>by
  rcases bK f with⟨i,t,rfl,rfl⟩|⟨x,t,rfl,rfl⟩
  ·rcases bK hb with⟨j,u,rfl,e⟩|⟨y,u,rfl,e⟩
   ·injection e with c _;rw[c]
   ·exact nomatch e
  ·rcases bK hb with⟨j,u,rfl,e⟩|⟨y,u,rfl,e⟩
   ·exact nomatch e
   ·injection e with c _;rw[c]
 byValue:=λk v h=>by
  rcases bK h with⟨i,t,rfl,rfl⟩|⟨x,t,rfl,rfl⟩<;>rfl
 pyHash:=λd h=>by
  rcases bK d with⟨i,t,rfl,rfl⟩|⟨x,t,rfl,rfl⟩
  ·exact wpAny_pyHash_int h
  ·exact wpAny_pyHash_str h
 eqBool:=λg d h=>by
  rcases bK g with⟨i,t,rfl,rfl⟩|⟨x,t,rfl,rfl⟩
  ·rcases bK d with⟨j,u,rfl,rfl⟩|⟨y,u,rfl,rfl⟩
   ·rw[ET]at h;exact wpAny_eqBool_int h
   ·rw[EU]at h;exact qgq i t y u _ _ _ _ h
  ·rcases bK d with⟨j,u,rfl,rfl⟩|⟨y,u,rfl,rfl⟩
   ·rw[EV]at h;exact qgp x t j u _ _ _ _ h
   ·rw[EW]at h;exact wpAny_eqBool_str h
 «strs»:=λk x t v h=>by
  rcases bK h with⟨i,u,rfl,e⟩|⟨y,u,rfl,e⟩
  ·exact nomatch e
  ·injection e with c _
   subst c;cases v<;>rfl
theorem uF (prog:qaR) (w:World) (i:Int) (t:Tok):(cr prog w).is (.inl i) (.int i t)=true:=y9 i t
theorem uG (prog:qaR) (w:World) (x:Str) (t:Tok):(cr prog w).is (.inr x) (.str x t)=true:=za x t
inductive V where
 |non|bl (b:Bool)|int (i:Int)|str (x:Str)|byt (b:Array UInt8)|flt (b:UInt64)|ref (a:Addr)|ty (n:String)
 deriving DecidableEq
def aR:V->Value->Prop
 |.non,u=>u=Value.none
 |.bl b,u=>u=Value.bool b
 |.int i,u=>∃ t,u=Value.int i t
 |.str x,u=>∃ t,u=Value.str x t
 |.byt b,u=>∃ t,u=Value.bytes b t
 |.flt b,u=>∃ t,u=Value.float b t
 |.ref a,u=>u=Value.ref a
 |.ty n,u=>u=Value.type n
abbrev aJ:List V->List Value->Prop:=qgk aR
theorem aJ.length {xs:List V}{a:List Value} (r:aJ xs a):xs.length=a.length:=qe6 r
theorem aJ.get:∀ {xs:List V}{a:List Value}{i:Nat}{x:V},aJ xs a->xs[i]?=some x->∃ u,a[i]?=some u/\aR x u
 |_,_,_,_,.nil,e=>by simp at e
 |_,_,0,_,.cons r _,e=>by simp at e;subst e;exact⟨_,U,r⟩
 |_,_,i+1,x,.cons _ t,e=>by
  obtain⟨u,b,c⟩:=aJ.get t (by simpa using e);exact⟨u,by simpa using b,c⟩
theorem aJ.set {x:V}{u:Value} (r:aR x u):∀ {xs:List V}{a:List Value} (i:Nat),aJ xs a->aJ (xs.set i x) (a.set i u)
 |_,_,_,.nil=>.nil
 |_,_,0,.cons _ t=>.cons r t
 |_,_,i+1,.cons q t=>.cons q (aJ.set r i t)
theorem aJ.append:∀ {xs b:List V}{a ws:List Value},aJ xs a->aJ b ws->aJ (xs++b) (a++ws)
 |_,_,_,_,.nil,s=>s
 |_,_,_,_,.cons r t,s=>.cons r (aJ.append t s)
theorem aJ.take:∀ {xs:List V}{a:List Value} (n:Nat),aJ xs a->aJ (xs.take n) (a.take n)
 |_,_,0,_=>.nil
 |_,_,_+1,.nil=>.nil
 |_,_,n+1,.cons r t=>.cons r (aJ.take n t)
theorem aJ.drop:∀ {xs:List V}{a:List Value} (n:Nat),aJ xs a->aJ (xs.drop n) (a.drop n)
 |_,_,0,r=>r
 |_,_,_+1,.nil=>.nil
 |_,_,n+1,.cons _ t=>aJ.drop n t
def lZ:Option V->Option Value->Prop
 |some v,some u=>aR v u
 |none,none=>True
 |_,_=>False
def KV {a:Type}:List (a×V)->List (a×Value)->Prop:=qgk λ(p:a×V) (q:a×Value)=>p.1=q.1/\aR p.2 q.2
def kV:Key->V
 |.inl i=>.int i
 |.inr x=>.str x
inductive HO where
 |lst (xs:List V)
 |tup (xs:List V)
 |dK (kvs:List (Key×V))|dT (kvs:List (List Key×V))
 |set (S:Int->Bool) (n:Nat)
 |ins (C dx:Addr) (fs:List (Str×V))
 |own (x:Addr)
 |xd (fs:List (Str×V))
 |met (f x:Addr)
 |rng (lo hi:Int)
 |frz (o:Obj) (u:HO)
 |tbl (ps:Array Value)
 |ext (φ:Heap->Prop)
abbrev Hp:=Addr->Option HO
def upd (H:Hp) (a:Addr) (o:HO):Hp:=λb=>if b=a then some o else H b
theorem upd_same {H:Hp}{a:Addr}{o:HO}:upd H a o a=some o:=by unfold upd;rw[iFP U]
theorem upd_ne {H:Hp}{a b:Addr}{o:HO} (h:b≠a):upd H a o b=H b:=by unfold upd;rw[iFN h]
theorem GS {H:Hp}{a b:Addr}{o u:HO} (h:H a=some o) (h':H b=some u) (d:o≠u):a≠b:=by
 intro e;subst e;rw[h]at h';exact d (qaQ h')
theorem aK {H:Hp}{a b:Addr}{o:HO} (h:H a=some o) (h':H b=none):a≠b:=by
 intro e;subst e;rw[h]at h';cases h'
def fQ (h:Heap) (a:Addr) (b:Array Value):Prop:=∃ o:Obj,h.get? a=some o/\o.cls=.type "tuple"/\(∃ n,o.data=.seq b n)/\o.dict=none
theorem fQ.tup {h:Heap}{a:Addr}{b:Array Value} (x:fQ h a b):IsTup h a b:=let ⟨o,e,c,n,_⟩:=x;⟨o,e,c,n⟩
theorem fQ.new (h:Heap) (a:Array Value):fQ (h.push { cls:=.type "tuple",data:=.seq a }) h.objs.size a:=⟨_,qau _ U,U,⟨_,U⟩,U⟩
section
variable (P:qaR) (w:World)
def cA (H:Hp) (h:Heap) (a:Addr):HO->Prop
 |.lst xs=>xs.length<=qaN/\∃ (b:List Value) (n:Nat),aJ xs b/\h.get? a=some { cls:=.type "list",data:=.seq b.toArray n }
 |.tup xs=>xs.length<=qaN/\∃ b:List Value,aJ xs b/\fQ h a b.toArray
 |.dK c=>c.length<=qaN/\(a==qcK)=false/\∃ i,KV c i/\h.DictOf (cr P w) a i
 |.dT c=>c.length<=qaN/\(a==qcK)=false/\∃ xs:List (List Key×Addr×Value),
   qgk (λ(p:List Key×V) (q:List Key×Addr×Value)=>p.1=q.1/\H q.2.1=some (.tup (p.1.map kV))/\aR p.2 q.2.2) c xs/\
   ∃ o es k,h.get? a=some o/\o.ExactDict/\o.data=.dict es k/\es.toList=xs.map (entryOfKey (qgC (cr P w)))/\(xs.map (·.1)).Nodup
 |.set S n=>h.SetOf (intKind P w) a S n
 |.ins C e fs=>H e=some (.own a)/\fs.length<=1000/\e≠a/\h.get? a=some (qdt C e)/\
   ∃ d,h.Ns1 e d/\(∀ f,lZ (fs.lookup f) (d f))/\qgI d (fs.map (·.1))
 |.own _=>∃ o,h.get? a=some o
 |.xd fs=>∃ d,h.Ns1 a d/\∀ f,lZ (fs.lookup f) (d f)
 |.rng lo hi=>∃ t u v,h.get? a=some { cls:=.type "range",data:=.fields #[.int lo t,.int hi u,.int 1 v] }
 |.frz o u=>h.get? a=some o/\cA H h a u
 |.tbl ps=>h.get? a=some { cls:=.none,data:=.fields ps }
 |.met f x=>h.get? a=some (PySem.W.methodObj (.ref f) (.ref x))
 |.ext φ=>φ h/\(∃ o,h.get? a=some o)/\∀ g j:Heap,φ g->(∀ o,g.get? a=some o->j.get? a=some o)->φ j
def HOk (H:Hp) (h:Heap):Prop:=∀ a o,H a=some o->cA P w H h a o
end
section
variable {P:qaR}{w:World}{H H':Hp}{h h':Heap}{a:Addr}{o:HO}
theorem cA.lt (x:cA P w H h a o):a<h.objs.size:=by
 cases o with
 |lst xs=>obtain⟨_,_,_,_,e⟩:=x;exact qaz e
 |tup xs=>obtain⟨_,_,_,p⟩:=x;exact p.tup.lt
 |dK m=>obtain⟨_,_,_,_,o,_,_,e,_⟩:=x;exact qaz e
 |dT m=>obtain⟨_,_,_,_,o,_,_,e,_⟩:=x;exact qaz e
 |set S n=>obtain⟨o,_,_,_,e,_⟩:=x;exact qaz e
 |ins C M fs=>obtain⟨_,_,_,e,_⟩:=x;exact qaz e
 |own y=>obtain⟨_,e⟩:=x;exact qaz e
 |xd fs=>obtain⟨_,⟨_,_,_,e,_⟩,_⟩:=x;exact qaz e
 |rng lo hi=>obtain⟨_,_,_,e⟩:=x;exact qaz e
 |frz ob u=>obtain⟨e,_⟩:=x;exact qaz e
 |tbl ps=>exact qaz (x)
 |met f y=>exact qaz (x)
 |ext φ=>obtain⟨_,⟨_,e⟩,_⟩:=x;exact qaz e
theorem qgk.mapP {α B:Type}{F G:α->B->Prop}:∀ {j:List α}{i:List B},qgk F j i->(∀ a b,F a b->G a b)->qgk G j i
 |_,_,.nil,_=>.nil
 |_,_,.cons r t,f=>.cons (f _ _ r) (qgk.mapP t f)
theorem cA.stay (x:cA P w H h a o) (k:∀ b u,(b=a\/H b=some (.own a))->h.get? b=some u->h'.get? b=some u)
  (E:∀ b,H b=some (.own a)->H' b=some (.own a)) (K:∀ b xs,H b=some (.tup xs)->H' b=some (.tup xs)):cA P w H' h' a o:=by
 induction o with
 |lst xs=>obtain⟨z,l,n,r,e⟩:=x;exact⟨z,l,n,r,k _ _ (.inl U) e⟩
 |tup xs=>obtain⟨z,l,r,ob,e,c⟩:=x;exact⟨z,l,r,ob,k _ _ (.inl U) e,c⟩
 |dK m=>obtain⟨z,y,I,r,ob,es,g,e,c⟩:=x;exact⟨z,y,I,r,ob,es,g,k _ _ (.inl U) e,c⟩
 |dT m=>
  obtain⟨z,y,xs,r,ob,es,g,e,c⟩:=x;exact⟨z,y,xs,qgk.mapP r λp q z=>⟨z.1,K _ _ z.2.1,z.2.2⟩,ob,es,g,k _ _ (.inl U) e,c⟩
 |set S n=>obtain⟨ob,es,g,t,e,c⟩:=x;exact⟨ob,es,g,t,k _ _ (.inl U) e,c⟩
 |ins C M fs=>
  obtain⟨d,z,ne,e,A,⟨s,es,g,e2,c⟩,r⟩:=x;exact⟨E _ d,z,ne,k _ _ (.inl U) e,A,⟨s,es,g,k _ _ (.inr d) e2,c⟩,r⟩
 |own y=>obtain⟨ob,e⟩:=x;exact⟨ob,k _ _ (.inl U) e⟩
 |xd fs=>obtain⟨A,⟨s,es,g,e,c⟩,r⟩:=x;exact⟨A,⟨s,es,g,k _ _ (.inl U) e,c⟩,r⟩
 |rng lo hi=>obtain⟨t,u,v,e⟩:=x;exact⟨t,u,v,k _ _ (.inl U) e⟩
 |frz ob u J=>obtain⟨e,q⟩:=x;exact⟨k _ _ (.inl U) e,J q⟩
 |tbl ps=>
  exact k a _ (.inl U) x
 |met f y=>
  exact k a _ (.inl U) x
 |ext φ=>obtain⟨p,⟨o,e⟩,st⟩:=x;exact⟨st _ _ p λo q=>k _ _ (.inl U) q,⟨o,k _ _ (.inl U) e⟩,st⟩
theorem HOk.lt (x:HOk P w H h) (e:H a=some o):a<h.objs.size:=(x a o e).lt
theorem HOk.fresh (x:HOk P w H h) (e:h.objs.size<=a):H a=none:=by
 cases q:H a with
 |none=>rfl
 |some u=>exact absurd (qaP (x.lt q) e) (qa5 _)
theorem HOk.kept (x:HOk P w H h) (k:∀ b u,h.get? b=some u->h'.get? b=some u):HOk P w H h':=λa o e=>
 (x a o e).stay (λb u _ q=>k b u q) (λ_ q=>q) λ_ _ q=>q
theorem HOk.laid (x:HOk P w H h) (k:∀ b u,h.get? b=some u->h'.get? b=some u) (L:h.objs.size<=a) (new:cA P w (upd H a o) h' a o):HOk P w (upd H a o) h':=λb u e=>by
 have D:=x.fresh L;by_cases hb:b=a
 ·subst hb;rw[upd_same]at e;cases e;exact new
 ·rw[upd_ne hb]at e
  exact (x b u e).stay (λc v _ q=>k c v q) (λc q=>by rw[upd_ne (aK q D)];exact q) λc xs q=>by rw[upd_ne (aK q D)];exact q
end
def Rd (H:Hp) (a:Addr) (u:HO):Prop:=H a=some u\/∃ o,H a=some (.frz o u)
theorem Rd.of {H:Hp}{a:Addr}{u:HO} (h:H a=some u):Rd H a u:=.inl h
theorem Rd.ok {P:qaR}{w:World}{H:Hp}{h:Heap}{a:Addr}{u:HO} (r:Rd H a u) (x:HOk P w H h):cA P w H h a u:=by
 rcases r with r|⟨o,r⟩
 ·exact x a u r
 ·obtain⟨_,q⟩:=x a _ r
  exact q
def Mut:Option HO->Prop
 |some (.lst _)=>True
 |some (.dK _)=>True
 |some (.dT _)=>True
 |some (.set _ _)=>True
 |some (.ins _ _ _)=>True
 |some (.ext _)=>True
 |_=>False
section
variable {P:qaR}{w:World}{H:Hp}{h h':Heap}{x e:Addr}{i:HO}
theorem HOk.write (ok:HOk P w H h) (f:Mut (H x)) (m:e=x\/H e=some (.own x)) (k:∀ b u,b≠e->h.get? b=some u->h'.get? b=some u) (j:∃ u,h'.get? e=some u)
  (new:cA P w (upd H x i) h' x i):HOk P w (upd H x i) h':=λb u q=>by
 have d:∀ c y,H c=some (.own y)->c≠x:=λc y r z=>by subst z;rw[r]at f;exact f
 by_cases hb:b=x
 ·subst hb;rw[upd_same]at q;cases q;exact new
 ·rw[upd_ne hb]at q
  by_cases a:b=e
  ·have l:H b=some (.own x):=by
    rcases m with z|z
    ·exact absurd (a.trans z) hb
    ·rw[a];exact z
   rw[q]at l;cases l;obtain⟨v,n⟩:=j;exact⟨v,by rw[a];exact n⟩
  ·refine (ok b u q).stay (λc v g r=>k c v ?_ r) (λc r=>by rw[upd_ne (d c b r)];exact r) λc xs r=>by rw[upd_ne ((λc xs r z=>by subst z;rw[r]at f;exact f) c xs r)];exact r
   rcases g with rfl|g
   ·exact a
   ·rintro rfl
    rcases m with z|z
    ·exact d c b g z
    ·rw[g]at z;cases z;exact hb U
end
structure Un (fs ex:List Addr) (H H':Hp) (h h':Heap):Prop where
 keep:∀ b o,h.get? b=some o->H b=none->b∉fs->b∉ex->h'.get? b=some o
 slot:∀ b o,h.get? b=some o->H b=none->b∈fs->b∉ex->∃ sl,h'.get? b=some { o with slots:=sl }
 free:∀ b o,h.get? b=some o->H b=none->b∉ex->H' b=none
 there:∀ b o,h.get? b=some o->b∉ex->∃ o',h'.get? b=some o'
 tups:∀ b xs,H b=some (.tup xs)->H' b=some (.tup xs)
 frzs:∀ b o u,H b=some (.frz o u)->H' b=some (.frz o u)
 tbls:∀ b ps,H b=some (.tbl ps)->∃ more,H' b=some (.tbl (ps++more))
section
variable {fs v ex m:List Addr}{H H1 H2:Hp}{h l w h':Heap}{a x e:Addr}{o:HO}
theorem Un.any (u:Un fs ex H H1 h l) {b:Addr}{ob:Obj} (q:h.get? b=some ob) (n:H b=none) (d:b∉ex):∃ s,l.get? b=some { ob with slots:=s }:=by
 by_cases hb:b∈fs
 ·exact u.slot b ob q n hb d
 ·exact⟨ob.slots,u.keep b ob q n hb d⟩
theorem Un.kept (k:∀ b u,h.get? b=some u->h'.get? b=some u):Un fs ex H H h h':=
 ⟨λb ob q _ _ _=>k b ob q,λb ob q _ _ _=>⟨ob.slots,k b ob q⟩,λ_ _ _ n _=>n,λb ob q _=>⟨ob,k b ob q⟩,λ_ _ q=>q,λ_ _ _ q=>q,λ_ ps q=>⟨#[],by rw[q];simp⟩⟩
theorem Un.refl:Un fs ex H H h h:=Un.kept λ_ _ q=>q
theorem Un.laid (k:∀ b u,h.get? b=some u->h'.get? b=some u) (t:h.objs.size<=a) (g:H a=none):Un fs ex H (upd H a o) h h' where
 keep:=λb u q _ _ _=>k b u q
 slot:=λb u q _ _ _=>⟨u.slots,k b u q⟩
 free:=λb u q n _=>by rw[upd_ne (qaD (qaP (qaz q) t))];exact n
 there:=λb u q _=>⟨u,k b u q⟩
 tups:=λb xs q=>by rw[upd_ne (aK q g)];exact q
 frzs:=λb u xs q=>by rw[upd_ne (aK q g)];exact q
 tbls:=λb ps q=>⟨#[],by rw[upd_ne (aK q g),q];simp⟩
theorem Un.write (f:Mut (H x)) (p:e=x\/H e=some (.own x)) (k:∀ b u,b≠e->h.get? b=some u->h'.get? b=some u) (j:∃ u,h'.get? e=some u):Un fs ex H (upd H x o) h h':=by
 have d:∀ b,H b=none->b≠x:=λb n z=>by subst z;rw[n]at f;exact f
 have hb:∀ b,H b=none->b≠e:=λb n z=>by
  subst z;rcases p with r|r
  ·exact d b n r
  ·rw[n]at r;cases r
 have i:∀ b u,H b=some u->¬ Mut (some u)->b≠x:=λb u q nm z=>by subst z;rw[q]at f;exact nm f
 refine⟨λb u q n _ _=>k b u (hb b n) q,λb u q n _ _=>⟨u.slots,k b u (hb b n) q⟩,λb u q n _=>by rw[upd_ne (d b n)];exact n,λb u q _=>?_,
  λb xs q=>by rw[upd_ne (i b _ q λz=>z)];exact q,λb u xs q=>by rw[upd_ne (i b _ q λz=>z)];exact q,λb ps q=>⟨#[],by rw[upd_ne (i b _ q λz=>z),q];simp⟩⟩
 by_cases c:b=e
 ·subst c;exact j
 ·exact⟨u,k b u c q⟩
end
def trk (h:Heap) (H:Hp):List Addr:=(qan h.objs.size).filter λa=>(H a).isSome
def yW (h:Heap) (H:Hp):Heap:=PySem.W.hideAll h (trk h H)
theorem yX (h:Heap) (H:Hp):(yW h H).objs.size=h.objs.size:=PySem.W.hideAll_size _ _
theorem Ag {h:Heap}{H:Hp}{b:Addr}{o:Obj} (e:h.get? b=some o) (n:H b=none):(yW h H).get? b=some o:=
 PySem.W.hideAll_get _ e λa=>by
  have q:=(qbK.mp a).2;rw[n]at q;simp at q
theorem CK {h:Heap}{H:Hp}{b:Addr}{o:Obj} (e:(yW h H).get? b=some o):h.get? b=some o/\H b=none:=by
 have a:=PySem.W.of_hideAll _ e;refine⟨a,?_⟩;cases q:H b with
 |none=>rfl
 |some x=>
  have z:(yW h H).get? b=none:=PySem.W.hideAll_none _ (qbK.mpr ⟨qaH.mpr (qaz a),by simp[q]⟩);rw[z]at e;cases e
structure Mod (K:qae) (mg:Str->Option Value) (base:Heap):Prop where
 kin:K.In base
 glob:base.Ns qcj mg
 blt:∃ mb,base.Ns qg1 mb/\∀ x:Str,x≠"__name__"->mb x=qcO x
 nolimit:base.NoLimit
structure Cx where
 prog:qaR
 w:World
 K:qae
 mg:Str->Option Value
 base:Heap
 A:qaZ
 N:List Str
 s₀:qam
 H₀:Hp
 env:Env
 outer:List Env
 stack:List Env
 ex:List Addr
 fn:Str->Bool
 calm:Bool
 pn:List (Addr×Obj)
 xe:Value->qam->Prop
def frs (l:List Env):List Addr:=l.filterMap (·.frame)
abbrev Cx.fs (X:Cx):List Addr:=frs X.outer
def Vis (a:Scope) (x:Str):Prop:=a.names.lookup x=some .local\/a.names.lookup x=some .cell\/a.names.lookup x=some .free
def Loc (a:Scope) (x:Str):Prop:=a.names.lookup x=some .local\/a.names.lookup x=some .cell
def HI (env:Env) (h:Heap) (m:Str->Option Value) (x:Str) (u:Value):Prop:=
 (env.kindOf x=some .local/\m x=some u)\/((env.kindOf x=some .cell\/env.kindOf x=some .free)/\∃ c,env.cells.lookup x=some c/\h.IsCell c (some u))
structure Cx.Ok (X:Cx):Prop where
 mod:Mod X.K X.mg X.base
 kind:X.env.scope.kind=.function
 glob:X.env.globals=qcj
 blt:X.env.builtins=qg1
 above:X.s₀.heap.objs.size<=X.env.locals
 inj:∀ x y c,X.env.cells.lookup x=some c->X.env.cells.lookup y=some c->x=y
 has:∀ x,(X.env.kindOf x=some .cell\/X.env.kindOf x=some .free)->∃ c,X.env.cells.lookup x=some c
 cab:∀ x c,X.fn x=true->X.env.cells.lookup x=some c->X.s₀.heap.objs.size<=c
 hd:X.calm=true->X.A.handled=none
 frames:X.A.frames=some X.stack
 stk:X.stack=X.outer\/(X.stack=X.env::X.outer/\X.env.frame=some X.env.locals)
 exf:∀ b∈X.ex,b≠X.env.locals/\∀ x c,X.env.cells.lookup x=some c->c≠b
 bs:∀ b o,X.base.get? b=some o->X.s₀.heap.get? b=some o/\X.H₀ b=none
 bsz:X.base.objs.size<=X.s₀.heap.objs.size
 noex:∀ b o,X.base.get? b=some o->b∉X.ex
 exfs:∀ b∈X.ex,b∉X.fs
 funs:X.s₀.heap.FunFrames X.base X.outer
 frf:∀ b∈X.fs,X.H₀ b=none
structure Inv (X:Cx) (pins:List (Addr×Obj)) (σ:List (Option V)) (H:Hp) (s:qam):Prop where
 ok:X.Ok
 os:s.os=X.s₀.os
 bare:qfH s.gens
 base:Un X.fs X.ex X.H₀ H X.s₀.heap s.heap
 loc:∃ m,s.heap.Ns X.env.locals m/\∀ (i:Nat) (x:Str) (v:V),X.N[i]?=some x->σ[i]?=some (some v)->Vis X.env.scope x->∃ u,aR v u/\HI X.env s.heap m x u
 cell:∀ x c,X.env.cells.lookup x=some c->∃ v,s.heap.IsCell c v
 free:H X.env.locals=none
 freeC:∀ x c,X.env.cells.lookup x=some c->H c=none
 pin:∀ p∈X.pn++pins,s.heap.get? p.1=some p.2/\H p.1=none/\p.1≠X.env.locals/\p.1∉X.fs/\∀ v,p.2.data≠.cell v
 hok:HOk X.prog X.w H s.heap
 len:σ.length=X.N.length
section
variable {X:Cx}{f:List (Addr×Obj)}{g:List (Option V)}{H H':Hp}{s:qam}{h':Heap}
theorem Cx.Ok.nofr (ok:X.Ok) {b:Addr}{o:Obj} (e:X.base.get? b=some o):b∉X.fs:=λhb=>by
 have:=(ok.funs.mem hb).1
 rw[e]at this;cases this
theorem Inv.bs (I:Inv X f g H s):∀ b o,X.base.get? b=some o->s.heap.get? b=some o/\H b=none:=λb o e=>
 ⟨I.base.keep b o (I.ok.bs b o e).1 (I.ok.bs b o e).2 (I.ok.nofr e) (I.ok.noex b o e),I.base.free b o (I.ok.bs b o e).1 (I.ok.bs b o e).2 (I.ok.noex b o e)⟩
theorem Inv.bk (I:Inv X f g H s):∀ b o,X.base.get? b=some o->s.heap.get? b=some o:=λb o e=>(I.bs b o e).1
theorem Inv.mod (I:Inv X f g H s):Mod X.K X.mg X.base:=I.ok.mod
theorem Inv.kIn (I:Inv X f g H s):X.K.In s.heap:=I.ok.mod.kin.keeps I.bk
theorem Inv.fr (I:Inv X f g H s):∃ m,Fr X.base X.env.locals s.heap m:=
 let ⟨m,K,_⟩:=I.loc
 ⟨m,K,I.bk,qaM I.ok.bsz I.ok.above⟩
theorem Inv.lt (I:Inv X f g H s):X.env.locals<s.heap.objs.size:=let ⟨_,K,_⟩:=I.loc;K.lt
theorem Inv.sz (I:Inv X f g H s):X.s₀.heap.objs.size<=s.heap.objs.size:=qaM I.ok.above (qeX I.lt)
theorem Inv.nofs (I:Inv X f g H s) {a:Addr} (h:s.heap.objs.size<=a):a∉X.fs:=λhb=>by
 obtain⟨_,o,F,_⟩:=I.ok.funs.mem hb;exact absurd (qaP (qaz F) (qaM I.sz h)) (qa5 _)
theorem Inv.cne (I:Inv X f g H s):∀ x c,X.env.cells.lookup x=some c->c≠X.env.locals:=λx c e z=>by
 obtain⟨v,o,F,hd⟩:=I.cell x c e;obtain⟨m,⟨R,es,ep,P,hd',_⟩,_⟩:=I.loc;rw[z,P]at F;cases F;rw[hd']at hd;cases hd
theorem Inv.funs (I:Inv X f g H s):s.heap.FunFrames X.base X.outer:=by
 have all:∀ (l:List Env),(∀ b∈frs l,b∈X.fs)->X.s₀.heap.FunFrames X.base l->s.heap.FunFrames X.base l:=by
  intro l
  induction l with
  |nil=>intro _ _;trivial
  |cons env r ih=>
   intro G hl;obtain⟨hk,⟨L,o,Y,K,F,hd⟩,hr⟩:=hl;have S:=G L (by unfold frs;rw[qfa,Y];exact qag);obtain⟨sl,e⟩:=I.base.slot L o F (I.ok.frf L S) S λz=>I.ok.exfs L z S;exact⟨hk,⟨L,_,Y,K,e,hd⟩,ih (λb hb=>G b (by unfold frs;rw[qfa,Y];exact qak _ hb)) hr⟩
 exact all X.outer (λ_ hb=>hb) I.ok.funs
theorem Inv.stack (I:Inv X f g H s):s.heap.FunFrames X.base X.stack:=by
 rcases I.ok.stk with e|⟨e,Y⟩
 ·rw[e];exact I.funs
 ·rw[e]
  obtain⟨m,K,_⟩:=I.loc;refine .cons (by rw[I.ok.kind];decide) Y K ?_ I.funs;exact Heap.get?_none_of_le (qaM I.ok.bsz I.ok.above)
theorem Inv.stkSub (I:Inv X f g H s):∀ b∈frs X.stack,b∈X.env.locals::X.fs:=λb hb=>by
 rcases I.ok.stk with e|⟨e,Y⟩
 ·rw[e]at hb;exact qak _ hb
 ·rw[e]at hb
  unfold frs at hb;rw[qfa,Y]at hb;exact hb
theorem Inv.stkFree (I:Inv X f g H s):∀ b∈frs X.stack,H b=none:=λb hb=>by
 rcases qaA.mp (I.stkSub b hb) with e|hb
 ·rw[e];exact I.free
 ·obtain⟨_,o,F,_⟩:=I.ok.funs.mem hb
  exact I.base.free b o F (I.ok.frf b hb) λz=>I.ok.exfs b z hb
theorem Inv.step {g':Array qir}{t':Nat}{d':Drawn}{ch:List Addr} (I:Inv X f g H s)
  (J:∀ b∈ch,(b∈X.ex\/X.s₀.heap.objs.size<=b)/\b≠X.env.locals/\(∀ x c,X.env.cells.lookup x=some c->c≠b)/\∀ p∈X.pn++f,p.1≠b)
  (keep:∀ b o,b≠X.env.locals->b∉X.fs->b∉ch->s.heap.get? b=some o->H b=none->h'.get? b=some o)
  (slot:∀ b o,b≠X.env.locals->b∈X.fs->b∉ch->s.heap.get? b=some o->H b=none->∃ sl,h'.get? b=some { o with slots:=sl }) (free:∀ b o,b∉ch->s.heap.get? b=some o->H b=none->H' b=none)
  (there:∀ b o,b∉ch->s.heap.get? b=some o->∃ R,h'.get? b=some R)
  (tups:∀ b xs,H b=some (.tup xs)->H' b=some (.tup xs)) (frzs:∀ b o u,H b=some (.frz o u)->H' b=some (.frz o u)) (tbls:∀ b ps,H b=some (.tbl ps)->∃ more,H' b=some (.tbl (ps++more)))
  (ns:∀ m,s.heap.Ns X.env.locals m->h'.Ns X.env.locals m) (hok:HOk X.prog X.w H' h') (hg:qfH g') :
  Inv X f g H' { s with heap:=h',gens:=g',drawn:=d',toks:=t' }:=by
 have neL:∀ b o,X.s₀.heap.get? b=some o->b≠X.env.locals:=λb o e=>qaD (qaP (qaz e) I.ok.above);have neC:∀ b o,X.s₀.heap.get? b=some o->b∉X.ex->b∉ch:=λb o e C hb=>by
  rcases (J b hb).1 with z|z
  ·exact C z
  ·exact absurd (qaP (qaz e) z) (qa5 _)
 have cellK:∀ x c,X.env.cells.lookup x=some c->∀ v,s.heap.IsCell c v->h'.IsCell c v:=λx c e v ⟨o,F,hd⟩=>by
  have W:=λz=>(J c z).2.2.1 x c e U;by_cases B:c∈X.fs
  ·obtain⟨sl,q⟩:=slot c o (I.cne x c e) B W F (I.freeC x c e)
   exact⟨_,q,hd⟩
  ·exact⟨o,keep c o (I.cne x c e) B W F (I.freeC x c e),hd⟩
 refine⟨I.ok,I.os,hg,⟨λb o e n hb C=>?_,λb o e n hb C=>?_,λb o e n C=>?_,λb o e C=>?_,λb xs e=>tups b xs (I.base.tups b xs e),λb o xs e=>frzs b o xs (I.base.frzs b o xs e),λb ps e=>?_⟩,?_,λx c e=>?_,?_,λx c e=>?_,λp T=>?_,hok,I.len⟩
 ·exact keep b o (neL b o e) hb (neC b o e C) (I.base.keep b o e n hb C) (I.base.free b o e n C)
 ·obtain⟨sl,D⟩:=I.base.slot b o e n hb C
  obtain⟨sl',e2⟩:=slot b _ (neL b o e) hb (neC b o e C) D (I.base.free b o e n C);exact⟨sl',e2⟩
 ·obtain⟨R,D⟩:=I.base.there b o e C
  exact free b R (neC b o e C) D (I.base.free b o e n C)
 ·obtain⟨R,D⟩:=I.base.there b o e C
  exact there b R (neC b o e C) D
 ·obtain⟨m1,D⟩:=I.base.tbls b ps e
  obtain⟨m2,e2⟩:=tbls b _ D;exact⟨_,by rw[e2,Array.append_assoc]⟩
 ·obtain⟨m,K,hl⟩:=I.loc
  refine⟨m,ns m K,λi x v D e2 e3=>?_⟩;obtain⟨u,r,l⟩:=hl i x v D e2 e3;refine⟨u,r,?_⟩;rcases l with l|⟨k,c,e,z⟩
  ·exact .inl l
  ·exact .inr ⟨k,c,e,cellK x c e _ z⟩
 ·obtain⟨v,z⟩:=I.cell x c e
  exact⟨v,cellK x c e v z⟩
 ·obtain⟨m,⟨o,_,_,F,_⟩,_⟩:=I.loc
  exact free _ o (λz=>(J _ z).2.1 U) F I.free
 ·obtain⟨v,o,F,hd⟩:=I.cell x c e
  exact free c o (λz=>(J c z).2.2.1 x c e U) F (I.freeC x c e)
 ·obtain⟨e,n,ne,nf,d⟩:=I.pin p T
  have W:=λz=>(J p.1 z).2.2.2 p T U;exact⟨keep p.1 p.2 ne nf W e n,free p.1 p.2 W e n,ne,nf,d⟩
theorem Inv.un {t':Nat} (I:Inv X f g H s) (u:Un X.fs [] H H' s.heap h') (hok:HOk X.prog X.w H' h'):Inv X f g H' { s with heap:=h',toks:=t' }:=by
 obtain⟨m,⟨o,es,ep,F,r⟩,_⟩:=id I.loc;obtain⟨sl,S⟩:=u.any F I.free (by simp)
 exact I.step (ch:=[]) (λ_ z=>nomatch z) (λb o _ hb _ e n=>u.keep b o e n hb (by simp)) (λb o _ hb _ e n=>u.slot b o e n hb (by simp)) (λb o _ e n=>u.free b o e n (by simp)) (λb o _ e=>u.there b o e (by simp)) u.tups u.frzs u.tbls (λm' hm=>by
  obtain⟨R,es',ep',P,r'⟩:=hm;rw[F]at P;cases P
  exact⟨_,es',ep',S,r'⟩) hok I.bare
theorem Inv.call {g':Array qir}{t':Nat}{d':Drawn}{ch:List Addr} (I:Inv X f g H s) (u:Un (frs X.stack) ch H H' s.heap h') (hok:HOk X.prog X.w H' h') (hg:qfH g')
  (J:∀ b∈ch,(b∈X.ex\/X.s₀.heap.objs.size<=b)/\b≠X.env.locals/\(∀ x c,X.env.cells.lookup x=some c->c≠b)/\∀ p∈X.pn++f,p.1≠b) :
  Inv X f g H' { s with heap:=h',gens:=g',drawn:=d',toks:=t' }:=by
 obtain⟨m,⟨o,es,ep,F,r⟩,_⟩:=id I.loc;obtain⟨sl,S⟩:=u.any F I.free λz=>(J _ z).2.1 U
 exact I.step J (λb o S hb B e n=>u.keep b o e n (λz=>(qaA.mp (I.stkSub b z)).elim S hb) B) (λb o _ _ B e n=>u.any e n B) (λb o B e n=>u.free b o e n B) (λb o B e=>u.there b o e B) u.tups u.frzs u.tbls (λm' hm=>by
  obtain⟨R,es',ep',P,r'⟩:=hm;rw[F]at P;cases P
  exact⟨_,es',ep',S,r'⟩) hok hg
theorem Inv.turned {t':Nat}{it:Addr} (I:Inv X f g H s) (k:∀ b o,b≠it->s.heap.get? b=some o->h'.get? b=some o) (K:H it=none) (S:it≠X.env.locals)
  (h1:it∈X.ex\/X.s₀.heap.objs.size<=it) (h2:∀ x c,X.env.cells.lookup x=some c->c≠it) (h3:∀ p∈X.pn++f,p.1≠it):Inv X f g H { s with heap:=h',toks:=t' }:=by
 have nit:∀ b u,H b=some u->b≠it:=λb u e z=>by rw[z,K]at e;cases e
 refine I.step (ch:=[it]) (λb hb=>?_) (λb o _ _ B e _=>k b o (λz=>B (by simp[z])) e) (λb o _ _ B e _=>⟨o.slots,k b o (λz=>B (by simp[z])) e⟩) (λ_ _ _ _ n=>n)
  (λb o B e=>⟨o,k b o (λz=>B (by simp[z])) e⟩) (λ_ _ e=>e) (λ_ _ _ e=>e) (λb ps e=>⟨#[],by rw[e];simp⟩) (λm hm=>?_) (λb u e=>?_) I.bare
 ·have e:=by simpa using hb
  subst e;exact⟨h1,S,h2,h3⟩
 ·obtain⟨o,es,ep,F,r⟩:=hm
  exact⟨o,es,ep,k _ o (qbr S) F,r⟩
 ·refine (I.hok b u e).stay (λc v B q=>k c v ?_ q) (λ_ q=>q) λ_ _ q=>q
  rcases B with z|z
  ·rw[z];exact nit b u e
  ·exact nit c _ z
theorem Inv.tok (I:Inv X f g H s) (t:Nat):Inv X f g H { s with toks:=t }:=I.un Un.refl I.hok
theorem Inv.kept {t':Nat} (I:Inv X f g H s) (k:∀ b u,s.heap.get? b=some u->h'.get? b=some u):Inv X f g H { s with heap:=h',toks:=t' }:=I.un (Un.kept k) (I.hok.kept k)
theorem Inv.laid {a:Addr}{o:HO}{t':Nat} (I:Inv X f g H s) (k:∀ b u,s.heap.get? b=some u->h'.get? b=some u) (T:s.heap.objs.size<=a) (new:cA X.prog X.w (upd H a o) h' a o) :
  Inv X f g (upd H a o) { s with heap:=h',toks:=t' }:=I.un (Un.laid k T (I.hok.fresh T)) (I.hok.laid k T new)
theorem Inv.write {x e:Addr}{o:HO}{t':Nat} (I:Inv X f g H s) (mu:Mut (H x)) (he:e=x\/H e=some (.own x)) (k:∀ b u,b≠e->s.heap.get? b=some u->h'.get? b=some u) (heo:∃ u,h'.get? e=some u)
  (new:cA X.prog X.w (upd H x o) h' x o):Inv X f g (upd H x o) { s with heap:=h',toks:=t' }:=I.un (Un.write mu he k heo) (I.hok.write mu he k heo new)
theorem Inv.weak {σ':List (Option V)} (I:Inv X f g H s) (hl:σ'.length=g.length) (w:∀ (i:Nat) v,σ'[i]?=some (some v)->g[i]?=some (some v)):Inv X f σ' H s:=
 ⟨I.ok,I.os,I.bare,I.base,let ⟨m,K,hl'⟩:=I.loc;⟨m,K,λi x v D e2 e3=>hl' i x v D (w i v e2) e3⟩,I.cell,I.free,I.freeC,I.pin,I.hok,hl.trans I.len⟩
theorem Inv.pins_of {pins':List (Addr×Obj)} (I:Inv X f g H s) (h:∀ p∈pins',s.heap.get? p.1=some p.2/\H p.1=none/\p.1≠X.env.locals/\p.1∉X.fs/\∀ v,p.2.data≠.cell v):Inv X pins' g H s:=
 ⟨I.ok,I.os,I.bare,I.base,I.loc,I.cell,I.free,I.freeC,λp T=>(qaG.mp T).elim (λz=>I.pin p (qaS _ z)) (h p),I.hok,I.len⟩
theorem uJ {N:List Str} (hN:N.Nodup) {i j:Nat}{x:Str} (a:N[i]?=some x) (b:N[j]?=some x):i=j:=by
 obtain⟨h1,D⟩:=qat.mp a;obtain⟨h2,e2⟩:=qat.mp b;exact (qdT hN).mp (D.trans e2.symm)
theorem zy {M:Model}{A:qaZ}{E:Value->qam->Prop}{i:Nat}{x:Str}{v:V}{u:Value}{Q:Unit->qam->Prop} (I:Inv X f g H s) (hN:X.N.Nodup) (hi:X.N[i]?=some x) (C:Loc X.env.scope x) (r:aR v u)
  (h:∀ s',Inv X f (g.set i (some v)) H s'->(∃ a,qdw a s.heap s'.heap/\(a=X.env.locals\/X.env.cells.lookup x=some a))->Q () s') (Y:X.fn x=true\/X.env.scope.names.lookup x=some .local:=by first|exact .inl U|exact .inr U|assumption):wpAny M A (storeName X.env x u) Q E s:=by
 obtain⟨m,K,hl⟩:=id I.loc;have hcls:(X.env.scope.kind==.class||(X.env.scope.kind==.module&&X.env.locals != X.env.globals))=false:=by rw[I.ok.kind];rfl
 have hiσ:i<g.length:=by rw[I.len];exact (qat.mp hi).1
 have cne:=I.cne;have O:∀ {a:Addr}{h':Heap},(∃ o,s.heap.get? a=some o/\H a=none)->qdw a s.heap h'->HOk X.prog X.w H h':=λ{a h'} ha G b ob e=>by
  obtain⟨_,_,hfree⟩:=ha;refine (I.hok b ob e).stay (λc w' B q=>(G.2 c ?_).trans q) (λ_ q=>q) λ_ _ q=>q
  rintro rfl
  rcases B with rfl|B
  ·rw[hfree]at e;cases e
  ·rw[hfree]at B;cases B
 rcases C with hk|hk
 ·refine wpAny_storeName_local hk K (λh' hn' G=>?_) hcls
  obtain⟨oL,_,_,hoL,_⟩:=id K;refine h _ ⟨I.ok,I.os,I.bare,⟨λb o e n hb C=>?_,λb o e n hb C=>?_,I.base.free,λb o e C=>?_,I.base.tups,I.base.frzs,I.base.tbls⟩,⟨_,hn',λj y v' D e2 e3=>?_⟩,λy c e=>?_,I.free,I.freeC,λp T=>?_,O ⟨oL,hoL,I.free⟩ G,by simpa using I.len⟩ ⟨_,G,.inl U⟩
  ·exact (G.2 b (qaD (qaP (qaz e) I.ok.above))).trans (I.base.keep b o e n hb C)
  ·obtain⟨sl,D⟩:=I.base.slot b o e n hb C
   exact⟨sl,(G.2 b (qaD (qaP (qaz e) I.ok.above))).trans D⟩
  ·obtain⟨R,D⟩:=I.base.there b o e C
   exact⟨R,(G.2 b (qaD (qaP (qaz e) I.ok.above))).trans D⟩
  ·by_cases hj:j=i
   ·subst hj
    rw[hi]at D;cases D;rw[qbd hiσ]at e2;cases e2;exact⟨u,r,.inl ⟨hk,by simp⟩⟩
   ·rw[qbz (qbr hj)]at e2
    obtain⟨u',r',q⟩:=hl j y v' D e2 e3;refine⟨u',r',?_⟩;rcases q with⟨k,e⟩|⟨k,c,e,z⟩
    ·refine .inl ⟨k,?_⟩
     have:y≠x:=λe=>hj (uJ hN D (e ▸ hi))
     simp[this,e]
    ·exact .inr ⟨k,c,e,z.sameBut G (cne y c e)⟩
  ·obtain⟨w',z⟩:=I.cell y c e
   exact⟨w',z.sameBut G (cne y c e)⟩
  ·obtain⟨e,n,ne,nf,d⟩:=I.pin p T
   exact⟨(G.2 p.1 ne).trans e,n,ne,nf,d⟩
 ·have hfn:X.fn x=true:=by
   rcases Y with z|z
   ·exact z
   ·rw[z]at hk;cases hk
  obtain⟨c,B⟩:=I.ok.has x (.inl hk);obtain⟨w',z⟩:=I.cell x c B;refine wpAny_storeName_cell I.ok.kind hk B z (λh' hc' G=>?_);obtain⟨oc,hoc,hocd⟩:=id z;refine h { s with heap:=h' } ⟨I.ok,I.os,I.bare,⟨λb o e n hb C=>?_,λb o e n hb C=>?_,I.base.free,λb o e C=>?_,I.base.tups,I.base.frzs,I.base.tbls⟩,⟨m,K.sameBut G (qbr (cne x c B)),λj y v' D e2 e3=>?_⟩,λy c' e=>?_,I.free,I.freeC,λp T=>?_,O ⟨oc,hoc,I.freeC x c B⟩ G,by simpa using I.len⟩ ⟨c,G,.inr B⟩
  ·exact (G.2 b (qaD (qaP (qaz e) (I.ok.cab x c hfn B)))).trans (I.base.keep b o e n hb C)
  ·obtain⟨sl,D⟩:=I.base.slot b o e n hb C
   exact⟨sl,(G.2 b (qaD (qaP (qaz e) (I.ok.cab x c hfn B)))).trans D⟩
  ·obtain⟨R,D⟩:=I.base.there b o e C
   exact⟨R,(G.2 b (qaD (qaP (qaz e) (I.ok.cab x c hfn B)))).trans D⟩
  ·by_cases hj:j=i
   ·subst hj
    rw[hi]at D;cases D;rw[qbd hiσ]at e2;cases e2;exact⟨u,r,.inr ⟨.inl hk,c,B,hc'⟩⟩
   ·rw[qbz (qbr hj)]at e2
    obtain⟨u',r',q⟩:=hl j y v' D e2 e3;refine⟨u',r',?_⟩;rcases q with q|⟨k,c',e,z'⟩
    ·exact .inl q
    ·refine .inr ⟨k,c',e,z'.sameBut G ?_⟩
     rintro rfl
     exact hj (uJ hN D (I.ok.inj _ _ _ e B ▸ hi))
  ·by_cases hcc:c'=c
   ·subst hcc;exact⟨_,hc'⟩
   ·obtain⟨w2,z2⟩:=I.cell y c' e
    exact⟨w2,z2.sameBut G hcc⟩
  ·obtain⟨e,n,ne,nf,d⟩:=I.pin p T
   refine⟨(G.2 p.1 ?_).trans e,n,ne,nf,d⟩;intro q;rw[q,hoc]at e;exact d w' (by rw[<-(qaQ e)];exact hocd)
theorem oO {M:Model}{A:qaZ}{E:Value->qam->Prop}{i:Nat}{x:Str}{v:V}{u:Value}{Q:Unit->qam->Prop} (I:Inv X f g H s) (hN:X.N.Nodup) (hi:X.N[i]?=some x) (C:Loc X.env.scope x) (r:aR v u)
  (h:∀ s',Inv X f (g.set i (some v)) H s'->Q () s') (Y:X.fn x=true\/X.env.scope.names.lookup x=some .local:=by first|exact .inl U|exact .inr U|assumption):wpAny M A (storeName X.env x u) Q E s:=
 zy I hN hi C r (λs' I' _=>h s' I') Y
theorem Inv.call' {s':qam}{ch:List Addr} (I:Inv X f g H s) (F:s'.os=s.os) (u:Un (frs X.stack) ch H H' s.heap s'.heap) (hok:HOk X.prog X.w H' s'.heap) (hg:qfH s'.gens)
  (J:∀ b∈ch,(b∈X.ex\/X.s₀.heap.objs.size<=b)/\b≠X.env.locals/\(∀ x c,X.env.cells.lookup x=some c->c≠b)/\∀ p∈X.pn++f,p.1≠b):Inv X f g H' s':=by
 obtain⟨h',g',d',t',R⟩:=s';subst F;exact I.call u hok hg J
end
abbrev XK:=Value->Option Addr->Hp->Prop
abbrev St:=List (Option V)
abbrev VK:=V->Hp->Prop
abbrev TE:=St->Hp->VK->Prop
abbrev TT:=St->Hp->(Bool->Hp->Prop)->Prop
abbrev TA:=St->Hp->(List V->Hp->Prop)->Prop
structure o8 where
 nx:St->Hp->Prop
 rt:VK
 bk:St->Hp->Prop:=λ_ _=>False
 ct:St->Hp->Prop:=λ_ _=>False
abbrev TS:=o8->St->Hp->Prop
def EP (X:Cx) (a:List (Addr×Obj)) (b:St) (Q:VK) (u:Value) (s':qam):Prop:=∃ v H',Inv X a b H' s'/\aR v u/\Q v H'
def TP (X:Cx) (a:List (Addr×Obj)) (c:St) (Q:Bool->Hp->Prop) (b:Bool) (s':qam):Prop:=∃ H',Inv X a c H' s'/\Q b H'
def AP (X:Cx) (a:List (Addr×Obj)) (c:St) (Q:List V->Hp->Prop) (d:List Value) (s':qam):Prop:=∃ b H',Inv X a c H' s'/\aJ b d/\Q b H'
def SP (X:Cx) (b:List (Addr×Obj)) (D:o8) (f:Flow) (s':qam):Prop:=
 match f with
 |.next=>∃ a H',Inv X b a H' s'/\D.nx a H'
 |.brk=>∃ a H',Inv X b a H' s'/\D.bk a H'
 |.cont=>∃ a H',Inv X b a H' s'/\D.ct a H'
 |.ret u=>∃ v a H',Inv X b a H' s'/\aR v u/\D.rt v H'
def PE (X:Cx) (e:Expr) (t:TE):Prop:=
 ∀ (a:List (Addr×Obj)) (s:qam) (b:St) (H:Hp) (Q:VK),Inv X a b H s->t b H Q->wpAny (model X.prog X.w) X.A (eval e X.env) (EP X a b Q) X.xe s
def PT (X:Cx) (e:Expr) (t:TT):Prop:=
 ∀ (a:List (Addr×Obj)) (s:qam) (b:St) (H:Hp) (Q:Bool->Hp->Prop),Inv X a b H s->t b H Q->wpAny (model X.prog X.w) X.A (qjR e X.env (eval e X.env)) (TP X a b Q) X.xe s
def PW (X:Cx) (e:Expr) (t:TT):Prop:=
 ∀ (whole:Sem Value) (a:List (Addr×Obj)) (s:qam) (b:St) (H:Hp) (Q:Bool->Hp->Prop),Inv X a b H s->t b H Q->wpAny (model X.prog X.w) X.A (qjR e X.env whole) (TP X a b Q) X.xe s
theorem PW.pt {X:Cx}{e:Expr}{t:TT} (h:PW X e t):PT X e t:=h _
def PA (X:Cx) (es:List Expr) (t:TA):Prop:=
 ∀ (pos:Pos) (a:List (Addr×Obj)) (s:qam) (b:St) (H:Hp) (Q:List V->Hp->Prop),Inv X a b H s->t b H Q->wpAny (model X.prog X.w) X.A (spliced (qfh pos (qbA es X.env))) (AP X a b Q) X.xe s
def PS (X:Cx) (st:Stmt) (t:TS):Prop:=
 ∀ (a:List (Addr×Obj)) (s:qam) (b:St) (H:Hp) (D:o8),Inv X a b H s->t D b H->wpAny (model X.prog X.w) X.A (exec st X.env) (SP X a D) X.xe s
def PSs (X:Cx) (st:List Stmt) (t:TS):Prop:=
 ∀ (a:List (Addr×Obj)) (s:qam) (b:St) (H:Hp) (D:o8),Inv X a b H s->t D b H->wpAny (model X.prog X.w) X.A (execs st X.env) (SP X a D) X.xe s
theorem thn {α:Type}{t:Sem α}{Q Q':α->qam->Prop}{M:Model}{A:qaZ}{E:Value->qam->Prop}{s:qam} (h:wpAny M A t Q E s) (b:∀ a s,Q a s->Q' a s):wpAny M A t Q' E s:=qcJ h b λ_ _ x=>x
section
variable {X:Cx}
def u8 (i:Nat):TE:=λg H Q=>∃ v,g[i]?=some (some v)/\Q v H
def tC (v:V):TE:=λ_ H Q=>Q v H
theorem jS {i:Nat}{x:Str}{pos:Pos} (hN:X.N[i]?=some x) (G:Vis X.env.scope x) (hd:(x==("__debug__" : Str))=false:=by decide) (F:(x==("__classdict__" : Str))=false:=by decide):PE X (.Name x pos) (u8 i):=by
 intro f s g H Q I h;obtain⟨v,e,h⟩:=h;obtain⟨m,J,L⟩:=I.loc;obtain⟨u,r,l⟩:=L i x v hN e G;have fin:EP X f g Q u s:=⟨v,H,I,r,h⟩;rcases l with⟨A,C⟩|⟨A,c,D,q⟩
 ·exact qiz (wpAny_loadName_local I.ok.kind A J C fin) hd
 ·rcases A with A|A
  ·exact qiz (wpAny_loadName_cell I.ok.kind A D q fin) hd
  ·exact qiz (wpAny_loadName_free I.ok.kind A D q fin F) hd
theorem Fp {i j pos}:PE X (.Constant (.int i) j pos) (tC (.int i)):=λ_ _ _ H _ I h=>wpAny_Constant_int ⟨.int i,H,I.tok _,⟨_,U⟩,h⟩
theorem G4 {b j pos}:PE X (.Constant (.bool b) j pos) (tC (.bl b)):=λ_ _ _ H _ I h=>Constant_bool ⟨.bl b,H,I,U,h⟩
theorem Fs {j pos}:PE X (.Constant .none j pos) (tC .non):=λ_ _ _ H _ I h=>Constant_none ⟨.non,H,I,U,h⟩
theorem Fu {x j pos}:PE X (.Constant (.str x) j pos) (tC (.str x)):=λ_ _ _ H _ I h=>Calls.Constant_str ⟨.str x,H,I.tok _,⟨_,U⟩,h⟩
def Gl (X:Cx) (x:Str):Prop:=X.env.kindOf x=some .globalImplicit
theorem xE {E:Value->qam->Prop}{f:List (Addr×Obj)}{s:qam}{g:St}{H:Hp}{x:Str}{u:Value}{pos:Pos}{Q:Value->qam->Prop} (I:Inv X f g H s) (hg:Gl X x) (C:X.mg x=some u) (h:Q u s)
  (hd:(x==("__debug__" : Str))=false:=by decide):wpAny (model X.prog X.w) X.A (eval (.Name x pos) X.env) Q E s:=
 qf1 I.ok.kind hg (Calls.loadGlobal_global (by rw[I.ok.glob];exact I.mod.glob.keeps I.bk) C h) hd
theorem lx {E:Value->qam->Prop}{f:List (Addr×Obj)}{s:qam}{g:St}{H:Hp}{x:Str}{u:Value}{pos:Pos}{Q:Value->qam->Prop} (I:Inv X f g H s) (hg:Gl X x) (C:X.mg x=none) (G:qcO x=some u) (h:Q u s)
  (J:x≠"__name__":=by decide) (hd:(x==("__debug__" : Str))=false:=by decide):wpAny (model X.prog X.w) X.A (eval (.Name x pos) X.env) Q E s:=by
 obtain⟨O,K,N⟩:=I.mod.blt;exact qf1 I.ok.kind hg (Calls.loadGlobal_builtin (by rw[I.ok.glob];exact I.mod.glob.keeps I.bk) C (by rw[I.ok.blt];exact K.keeps I.bk) ((N x J).trans G) h) hd
variable {a b:Expr}{y z:TE}{pos:Pos}
variable {p w:TT}{k:List Expr}
def Im (t u:TT):TT:=λg H Q=>t g H λc H1=>if c=true then u g H1 Q else Q false H1
def tOr (t u:TT):TT:=λg H Q=>t g H λc H1=>if c=true then Q true H1 else u g H1 Q
def Iw (t:TT):TT:=λg H Q=>t g H λc H1=>Q (!c) H1
theorem Dd (o:PT X a p):PW X (.BoolOp .And [a] pos) p:=by
 intro B f s g H Q I h;refine isTrue_and (thn (o f s g H Q I h) λc s1 e=>?_);cases c with
 |true=>exact isTrue_and_nil e
 |false=>exact e
theorem FG (o:PT X a p):PW X (.BoolOp .Or [a] pos) p:=by
 intro B f s g H Q I h;refine isTrue_or (thn (o f s g H Q I h) λc s1 e=>?_);cases c with
 |false=>exact isTrue_or_nil e
 |true=>exact e
theorem Bg (o:PT X a p) (hb:PW X (.BoolOp .And (b::k) pos) w):PW X (.BoolOp .And (a::b::k) pos) (Im p w):=by
 intro B f s g H Q I h;refine isTrue_and (thn (o f s g H _ I h) λc s1 ⟨H1,I1,n⟩=>?_);cases c with
 |true=>exact hb B f s1 g H1 Q I1 n
 |false=>exact⟨H1,I1,n⟩
theorem D8 (o:PT X a p) (hb:PW X (.BoolOp .Or (b::k) pos) w):PW X (.BoolOp .Or (a::b::k) pos) (tOr p w):=by
 intro B f s g H Q I h;refine isTrue_or (thn (o f s g H _ I h) λc s1 ⟨H1,I1,n⟩=>?_);cases c with
 |true=>exact⟨H1,I1,n⟩
 |false=>exact hb B f s1 g H1 Q I1 n
theorem FE (o:PT X a p):PT X (.UnaryOp .Not a pos) (Iw p):=by
 intro f s g H Q I h;exact isTrue_not (o f s g H _ I h)
def Hn (y z:TE):TE:=λg H Q=>y g H λx H1=>∃ c,x=.bl c/\if c=true then z g H1 Q else Q (.bl false) H1
theorem Ft {op}{t:TE} (h:PE X a t):PE X (.BoolOp op [a] pos) t:=λf s g H Q I hw=>BoolOp_one (h f s g H Q I hw)
theorem AS (o:PE X a y) (hb:PE X (.BoolOp .And (b::k) pos) z):PE X (.BoolOp .And (a::b::k) pos) (Hn y z):=by
 intro f s g H Q I h;refine BoolOp_and (thn (o f s g H _ I h) λv s1 ⟨x,H1,I1,M,n⟩=>?_);obtain⟨c,rfl,n⟩:=n;cases M;refine qcw ?_;cases c with
 |true=>exact hb f s1 g H1 Q I1 n
 |false=>exact⟨.bl false,H1,I1,U,n⟩
def tIf (t:TT) (y z:TE):TE:=λg H Q=>t g H λc H1=>if c=true then y g H1 Q else z g H1 Q
theorem uN {c:Expr} (D:PT X c p) (o:PE X a y) (hb:PE X b z):PE X (.IfExp c a b pos) (tIf p y z):=by
 intro f s g H Q I h;refine wpAny_IfExp (thn (D f s g H _ I h) λd s1 ⟨H1,I1,n⟩=>?_);cases d with
 |true=>exact o f s1 g H1 Q I1 n
 |false=>exact hb f s1 g H1 Q I1 n
end
def SqL (K:qae) (H:Hp) (a:Addr) (xs:List V):Prop:=
 Rd H a (.lst xs)\/
  ∃ (o:Obj) (b:Array Value) (n:Nat),K.lookup a=some o/\o.cls=.type "list"/\o.dict=none/\o.data=.seq b n/\b.size<=qaN/\aJ xs b.toList
def SqT (K:qae) (H:Hp) (a:Addr) (xs:List V):Prop:=
 H a=some (.tup xs)\/
  ∃ (o:Obj) (b:Array Value) (n:Nat),K.lookup a=some o/\o.cls=.type "tuple"/\o.data=.seq b n/\b.size<=qaN/\aJ xs b.toList/\o.dict=none
def HK:Value->Option V
 |.none=>some .non
 |.bool b=>some (.bl b)
 |.int i _=>some (.int i)
 |.str x _=>some (.str x)
 |.bytes b _=>some (.byt b)
 |.float b _=>some (.flt b)
 |.ref a=>some (.ref a)
 |.type n=>some (.ty n)
 |_=>none
theorem aR.abs {x:V}{u:Value} (r:aR x u):HK u=some x:=by
 cases x with
 |non=>cases r;rfl
 |bl _=>cases r;rfl
 |int _=>obtain⟨t,rfl⟩:=r;rfl
 |str _=>obtain⟨t,rfl⟩:=r;rfl
 |byt _=>obtain⟨t,rfl⟩:=r;rfl
 |flt _=>obtain⟨t,rfl⟩:=r;rfl
 |ref _=>cases r;rfl
 |ty _=>cases r;rfl
theorem aR.inj {x y:V}{u:Value} (r:aR x u) (q:aR y u):x=y:=qaQ (r.abs.symm.trans q.abs)
theorem aJ.inj:∀ {xs b:List V}{a:List Value},aJ xs a->aJ b a->xs=b
 |_,_,_,.nil,.nil=>rfl
 |_,_,_,.cons r t,.cons c t'=>by rw[r.inj c,aJ.inj t t']
section
variable {X:Cx}{f:List (Addr×Obj)}{g:St}{H:Hp}{s:qam}{a:Addr}{xs t:List V}
theorem SqL.of {K:qae} (h:H a=some (.lst xs)):SqL K H a xs:=.inl (.inl h)
theorem SqT.of {K:qae} (h:H a=some (.tup xs)):SqT K H a xs:=.inl h
theorem Inv.list (I:Inv X f g H s) (h:SqL X.K H a xs):∃ b:List Value,aJ xs b/\PlainL s.heap a b.toArray/\xs.length<=qaN:=by
 rcases h with h|⟨o,b,n,j,k,hd,q,v,r⟩
 ·obtain⟨z,b,n,r,e⟩:=h.ok I.hok
  exact⟨b,r,⟨_,n,e,U,U,U⟩,z⟩
 ·refine⟨b.toList,r,⟨o,n,I.kIn a o j,k,hd,by simpa using q⟩,?_⟩
  have e:=r.length;simp only[qcS]at e;lia
theorem Inv.tuple (I:Inv X f g H s) (h:SqT X.K H a xs):∃ b:List Value,aJ xs b/\IsTup s.heap a b.toArray/\xs.length<=qaN:=by
 rcases h with h|⟨o,b,n,j,k,q,v,r,_⟩
 ·obtain⟨z,b,r,p⟩:=(Rd.of h).ok I.hok
  exact⟨b,r,p.tup,z⟩
 ·refine⟨b.toList,r,⟨o,I.kIn a o j,k,n,by simpa using q⟩,?_⟩
  have e:=r.length;simp only[qcS]at e;lia
theorem Inv.tuple1 (I:Inv X f g H s) (h:SqT X.K H a xs):∃ o:Obj,s.heap.get? a=some o/\o.cls=.type "tuple"/\o.dict=none:=by
 rcases h with h|⟨o,b,n,j,k,q,v,r,hd⟩
 ·obtain⟨z,b,r,o,e,c,_,hd⟩:=(Rd.of h).ok I.hok
  exact⟨o,e,c,hd⟩
 ·exact⟨o,I.kIn a o j,k,hd⟩
theorem Inv.list_inj (I:Inv X f g H s) (h:SqL X.K H a xs) (h':SqL X.K H a t):xs=t:=by
 obtain⟨b,r,⟨o,n,e,_,_,d⟩,_⟩:=I.list h;obtain⟨m,u,⟨w,x,l,_,_,i⟩,_⟩:=I.list h';rw[e]at l;cases l;rw[d]at i;injection i with d1 _
 have:=by simpa using congrArg qgM d1
 subst this;exact r.inj u
theorem Inv.tuple_inj (I:Inv X f g H s) (h:SqT X.K H a xs) (h':SqT X.K H a t):xs=t:=by
 obtain⟨b,r,⟨o,e,_,n,d⟩,_⟩:=I.tuple h;obtain⟨m,u,⟨w,l,_,x,i⟩,_⟩:=I.tuple h';rw[e]at l;cases l;rw[d]at i;injection i with d1 _
 have:=by simpa using congrArg qgM d1
 subst this;exact r.inj u
end
abbrev Cx.wish (X:Cx) (E:Value->qam->Prop):Cx:={ X with xe:=E }
abbrev Cx.nox (X:Cx):Cx:=X.wish λ_ _=>False
theorem Cx.Ok.wish {X:Cx} (ok:X.Ok) (E:Value->qam->Prop):(X.wish E).Ok:=
 ⟨ok.mod,ok.kind,ok.glob,ok.blt,ok.above,ok.inj,ok.has,ok.cab,ok.hd,ok.frames,ok.stk,ok.exf,ok.bs,ok.bsz,ok.noex,ok.exfs,ok.funs,ok.frf⟩
theorem Cx.Ok.unwish {X:Cx}{E:Value->qam->Prop} (ok:(X.wish E).Ok):X.Ok:=
 ⟨ok.mod,ok.kind,ok.glob,ok.blt,ok.above,ok.inj,ok.has,ok.cab,ok.hd,ok.frames,ok.stk,ok.exf,ok.bs,ok.bsz,ok.noex,ok.exfs,ok.funs,ok.frf⟩
section
variable {X:Cx}{a:List (Addr×Obj)}{c:St}{H:Hp}{s:qam}{E:Value->qam->Prop}
theorem Inv.wish (I:Inv X a c H s) (E:Value->qam->Prop):Inv (X.wish E) a c H s:=⟨I.ok.wish E,I.os,I.bare,I.base,I.loc,I.cell,I.free,I.freeC,I.pin,I.hok,I.len⟩
theorem Inv.unwish (I:Inv (X.wish E) a c H s):Inv X a c H s:=⟨I.ok.unwish,I.os,I.bare,I.base,I.loc,I.cell,I.free,I.freeC,I.pin,I.hok,I.len⟩
theorem SP.unwish {D:o8}{f:Flow}{s':qam} (h:SP (X.wish E) a D f s'):SP X a D f s':=by
 cases f with
 |next=>obtain⟨b,H',I,q⟩:=h;exact⟨b,H',I.unwish,q⟩
 |brk=>obtain⟨b,H',I,q⟩:=h;exact⟨b,H',I.unwish,q⟩
 |cont=>obtain⟨b,H',I,q⟩:=h;exact⟨b,H',I.unwish,q⟩
 |ret u=>obtain⟨v,b,H',I,r,q⟩:=h;exact⟨v,b,H',I.unwish,r,q⟩
theorem PSs.nox {st:List Stmt}{t:TS} (h:PSs X.nox st t):PSs X st t:=λa s c H D I hw=>
 qcJ (h a s c H D (I.wish _) hw) (λ_ _ q=>q.unwish) λ_ _ z=>qcP z
end
section
variable {X:Cx}{st:Stmt}{j:List Stmt}{t u:TS}{e:Expr}{te:TE}{pos:Pos}
def Hx:TS:=λD i H=>D.nx i H
def Iz (t u:TS):TS:=λD i H=>t { D with nx:=u D } i H
theorem C9:PSs X [] Hx:=λ_ _ i H _ I h=>qfd ⟨i,H,I,h⟩
theorem dL (l:PS X st t) (A:PSs X j u):PSs X (st::j) (Iz t u):=by
 intro g s i H D I h;refine qiX (thn (l g s i H { D with nx:=u D } I h) λf s1 q=>?_);cases f with
 |next=>
  obtain⟨o,H',I',q⟩:=q;exact A g s1 o H' D I' q
 |ret v=>exact q
 |brk=>exact q
 |cont=>exact q
theorem ye (l:PS X st t):PSs X [st] t:=by
 intro g s i H D I h;refine qiX (thn (l g s i H D I h) λf s1 q=>?_);cases f with
 |next=>exact qfd q
 |ret v=>exact q
 |brk=>exact q
 |cont=>exact q
def FT:TS:=λD i H=>D.bk i H
def Hs:TS:=λD i H=>D.ct i H
theorem Ba:PS X (.Break pos) FT:=λ_ _ i H _ I h=>wpAny_Break ⟨i,H,I,h⟩
theorem uS:PS X (.Continue pos) Hs:=λ_ _ i H _ I h=>wpAny_Continue ⟨i,H,I,h⟩
theorem Inv.quiet {g:List (Addr×Obj)}{i:St}{H:Hp}{s:qam} (I:Inv X g i H s):interactive X.env=false:=by simp[interactive,I.ok.kind]
def Hu (te:TE):TS:=λD i H=>te i H λ_ H1=>D.nx i H1
theorem C8 (m:PE X e te) (w:qcM e none pos.line X.env=pure false:=by rfl):PS X (.Expr e pos) (Hu te):=by
 intro g s i H D I h;exact wpAny_Expr_any (thn (m g s i H _ I h) λv s1 ⟨x,H1,I1,p,k⟩=>⟨i,H1,I1,k⟩) I.quiet w
def Iy (te:TE):TS:=λD i H=>te i H D.rt
theorem FC (m:PE X e te):PS X (.Return (some e) pos) (Iy te):=by
 intro g s i H D I h;exact wpAny_Return_some (thn (m g s i H _ I h) λv s1 ⟨x,H1,I1,p,k⟩=>⟨x,i,H1,I1,p,k⟩)
def Iq (c:TT) (t u:TS):TS:=λD i H=>c i H λb H1=>if b=true then t D i H1 else u D i H1
theorem D6 {c:Expr}{a b:List Stmt}{r:TT} (z:PT X c r) (y:PSs X a t) (hb:PSs X b u):PS X (.If c a b pos) (Iq r t u):=by
 intro g s i H D I h;refine wpAny_If (thn (z g s i H _ I h) λd s1 ⟨H1,I1,k⟩=>?_);cases d with
 |true=>exact y g s1 i H1 D I1 k
 |false=>exact hb g s1 i H1 D I1 k
def FV:TS:=λ_ _ _=>False
theorem gz {n:List Stmt}:PSs X n FV:=λ_ _ _ _ _ _ h=>h.elim
end
abbrev TG:=V->St->Hp->(St->Hp->Prop)->Prop
abbrev TGs:=List V->St->Hp->(St->Hp->Prop)->Prop
def PG (X:Cx) (a:Expr) (t:TG):Prop:=
 ∀ (b:List (Addr×Obj)) (s:qam) (d:St) (H:Hp) (v:V) (u:Value) (Q:St->Hp->Prop),Inv X b d H s->aR v u->t v d H Q->
  wpAny (model X.prog X.w) X.A (qgh a X.env u) (λ_ s'=>∃ c H',Inv X b c H' s'/\Q c H') X.xe s
def PGs (X:Cx) (ts:List Expr) (t:TGs):Prop:=
 ∀ (a:List (Addr×Obj)) (s:qam) (c:St) (H:Hp) (e:List V) (d:List Value) (Q:St->Hp->Prop),Inv X a c H s->aJ e d->t e c H Q->
  wpAny (model X.prog X.w) X.A (assignInOrder ((qb8 ts X.env).map (·.2)) d) (λ_ s'=>∃ b H',Inv X a b H' s'/\Q b H') X.xe s
abbrev Eo:=V->V->V->Hp->(Hp->Prop)->Prop
def Gb (X:Cx) (t:Eo):Prop:=
 ∀ (a:List (Addr×Obj)) (s:qam) (c:St) (H:Hp) (o i v:V) (b iv u:Value) (Q:Hp->Prop),Inv X a c H s->aR o b->aR i iv->aR v u->t o i v H Q->
  wpAny (model X.prog X.w) X.A (qjN b iv u) (λ_ s'=>∃ H',Inv X a c H' s'/\Q H') X.xe s
section
variable {X:Cx}{pos:Pos}
def t8 (i:Nat):TG:=λv d H Q=>Q (d.set i (some v)) H
theorem ie {i:Nat}{x:Str} (hN:X.N.Nodup) (hi:X.N[i]?=some x) (z:Loc X.env.scope x) (L:X.fn x=true\/X.env.scope.names.lookup x=some .local:=by first|exact .inl U|exact .inr U|assumption):PG X (.Name x pos) (t8 i):=by
 intro c s d H v u Q I r h;exact qiy (oO I hN hi z r (λs' I'=>⟨_,H,I',h⟩) L)
def HP:TGs:=λA d H Q=>A=[]/\Q d H
def Gs (t:TG) (u:TGs):TGs:=λA d H Q=>∃ v r,A=v::r/\t v d H λF H'=>u r F H' Q
theorem C1:PGs X [] HP:=by
 intro c s d H A W Q I r h;obtain⟨e,h⟩:=h;exact assignInOrder_nil ⟨d,H,I,h⟩
theorem AV {e:Expr}{es:List Expr}{t:TG}{u:TGs} (B:PG X e t) (h2:PGs X es u)
  (l:(qb8 (e::es) X.env).map (·.2)=qgh e X.env::(qb8 es X.env).map (·.2):=by rfl):PGs X (e::es) (Gs t u):=by
 intro c s d H A W Q I r h;obtain⟨v,vr,E,h⟩:=h;subst E;cases r with
 |cons r R=>
  rw[l];refine assignInOrder_cons (thn (B c s d H _ _ _ I r h) λ_ s1 ⟨G,H1,I1,j⟩=>?_);exact h2 c s1 G H1 _ _ Q I1 R j
def HR (K:qae) (n:Nat) (t:TGs):TG:=λv d H Q=>∃ a xs,v=.ref a/\SqT K H a xs/\xs.length=n/\t xs d H Q
theorem Fy {es:List Expr}{k:Nat}{t:TGs}{n:Nat} (hc:X.calm=true) (h:PGs X es t)
  (Y:(qb8 es X.env).length=n:=by rfl) (M:(qb8 es X.env).findIdx? (·.1)=none:=by rfl):PG X (.Tuple es k pos) (HR X.K n t):=by
 intro c s d H v u Q I r hw;obtain⟨a,xs,E,O,P,hw⟩:=hw;subst E;cases r;obtain⟨its,N,V,hz⟩:=I.tuple O;refine assign_Tuple_tuple (I.ok.hd hc) V (by simp[Y,<-P,N.length]) M λh' z=>?_;exact h c _ d H xs _ Q (I.kept λb o e=>z b o (qaD (qaz e)) e) (by simpa using N) hw
def HQ (to ti:TE) (t:Eo):TG:=λv d H Q=>to d H λo H1=>ti d H1 λi H2=>t o i v H2 λH3=>Q d H3
theorem wd {o i:Expr}{to ti:TE}{t:Eo} (ho:PE X o to) (hi:PE X i ti) (l:Gb X t)
  (ha:∀ v,qgh (.Subscript o i pos) X.env v=(do
    let m <-qf5 [v] (eval o X.env)
    let iv <-qf5 [v,m] (eval i X.env)
    qjL pos
    qf5 [v,m,iv] (qjN m iv v)
    release [v,m,iv] []):=by intro _;rfl):PG X (.Subscript o i pos) (HQ to ti t):=by
 intro c s d H v u Q I r h;rw[ha];refine qac (qb5 (thn (ho c s d H _ I h) λm s1 ⟨x,H1,I1,w,j⟩=>?_));refine qac (qb5 (thn (hi c s1 d H1 _ I1 j) λiv J ⟨y,H2,I2,r2,T⟩=>?_));refine qac (qfO (qac (qb5 (thn (l c J d H2 x y v m iv u _ I2 w r2 r T) λ_ s3 ⟨H3,I3,S⟩=>?_))));exact wpAny_release ⟨d,H3,I3,S⟩
def FR (te:TE) (g:TG):TS:=λD d H=>te d H λx H1=>g x d H1 D.nx
theorem sh {p e:Expr}{te:TE}{g:TG} (C:PE X e te) (hg:PG X p g) (l:qeS [p] e pos.line X.env=pure false:=by rfl) (hw:qeT [p] e X.env=pure none:=by rfl)
  (B:(qb8 [p] X.env).map (·.2)=[qgh p X.env]:=by rfl):PS X (.Assign [p] e pos) (FR te g):=by
 intro c s d H D I h;refine wpAny_Assign_stores (thn (C c s d H _ I h) λv s1 ⟨x,H1,I1,w,j⟩=>?_) l hw;rw[B];exact thn (hg c s1 d H1 x v _ I1 w j) λ_ J q=>q
theorem FD {i:Nat}{x:Str}{e:Expr}{te:TE}{f:Pos} (hN:X.N.Nodup) (hi:X.N[i]?=some x) (z:Loc X.env.scope x) (C:PE X e te) (l:qcM e (some (.Name x f)) pos.line X.env=pure false:=by rfl) (L:X.fn x=true\/X.env.scope.names.lookup x=some .local:=by first|exact .inl U|exact .inr U|assumption) :
  PS X (.Assign [.Name x f] e pos) (FR te (t8 i)):=by
 intro c s d H D I h;refine wpAny_Assign_Name (thn (C c s d H _ I h) λv s1 ⟨y,H1,I1,w,j⟩=>?_) l;exact oO I1 hN hi z w (λJ I2=>⟨_,H1,I2,j⟩) L
end
section
variable {X:Cx}{pos:Pos}
def FW (c:TT) (l:TS):TS:=λD i H=>∃ W:Nat->St->Hp->Prop,(∃ m,W m i H)/\∀ m i H,W m i H->
 c i H λb H1=>if b=true then ∃ N:St->Hp->Prop,(∀ e H',N e H'->∃ j,j<m/\W j e H')/\l { D with nx:=N,ct:=N,bk:=D.nx } i H1 else D.nx i H1
theorem Bc {c:Expr}{body:List Stmt}{t:TT}{l:TS} (u:qhH (model X.prog X.w) X.A X.env X.xe) (y:PT X c t) (hb:PSs X body l):PS X (.While c body [] pos) (FW t l):=by
 intro d s i H D I h;obtain⟨W,⟨m0,w0⟩,turn⟩:=h;refine wpAny_While (codeAny_whileLoop (λn s'=>∃ e H',Inv X d e H' s'/\W n e H') ?_ m0 ⟨i,H,I,w0⟩)
 rintro n s1 ⟨g,H1,I1,x⟩
 refine qdi u (thn (y d s1 g H1 _ I1 (turn n g H1 x)) λb w ⟨H2,I2,k⟩=>?_);cases b with
 |true=>
  obtain⟨N,hN,k⟩:=k;refine qdi u (thn (hb d w g H2 _ I2 k) λf z o=>?_);cases f with
  |next=>
   obtain⟨a,H3,I3,p⟩:=o;obtain⟨j,r,q⟩:=hN a H3 p;exact⟨j,r,a,H3,I3,q⟩
  |cont=>
   obtain⟨a,H3,I3,p⟩:=o;obtain⟨j,r,q⟩:=hN a H3 p;exact⟨j,r,a,H3,I3,q⟩
  |brk=>exact o
  |ret v=>exact o
 |false=>
  exact qfd ⟨g,H2,I2,k⟩
end
structure It where
 go:Nat->Hp->Prop
 yld:Nat->Hp->V->Hp->Prop
 stop:Nat->Hp->Prop
def jr (X:Cx) (a:List (Addr×Obj)) (H:Hp) (b:Addr):Prop:=
 H b=none/\b≠X.env.locals/\b∉X.fs/\(b∈X.ex\/X.s₀.heap.objs.size<=b)/\(∀ x c,X.env.cells.lookup x=some c->c≠b)/\∀ p∈X.pn++a,p.1≠b
theorem Inv.fpOk {X:Cx}{a:List (Addr×Obj)}{d:St}{H H':Hp}{s:qam}{b:Addr} (I:Inv X a d H s) (hb:s.heap.objs.size<=b) (f:H' b=none):jr X a H' b:=by
 refine⟨f,qck (qaP I.lt hb),I.nofs hb,.inr (qaM I.sz hb),λx c e z=>?_,λp g z=>?_⟩
 ·obtain⟨v,q⟩:=I.cell x c e
  exact absurd (qaP q.lt (by rw[z];exact hb)) (qa5 _)
 ·exact absurd (qaP (qaz (I.pin p g).1) (by rw[z];exact hb)) (qa5 _)
structure vh (P:qaR) (w:World) (K:qae) (tg:Expr) (J:It) (fp:List Addr) (it:Addr) (tn:Nat->Heap->Prop):Prop where
 mem:it∈fp
 obj:∀ i h,tn i h->∀ b∈fp,∃ o,h.get? b=some o/\∀ v,o.data≠.cell v
 keep:∀ i h h',tn i h->(∀ b∈fp,∀ o,h.get? b=some o->h'.get? b=some o)->tn i h'
 item:∀ (X:Cx),X.prog=P->X.w=w->X.K=K->X.calm=true->∀ (i:Nat) (pins:List (Addr×Obj)) (s:qam) (σ:St) (H:Hp) (E:Value->qam->Prop),Inv X pins σ H s->(∀ b∈fp,jr X pins H b)->tn i s.heap->J.go i H->
  wpAny (model P w) X.A (qg0 (.ref it)) (λr s1=>∃ u,r=some u/\
   wpAny (model P w) X.A (qgF tg (.ref it) u) (λ_ s2=>∃ x H',Inv X pins σ H' s2/\aR x u/\J.yld i H x H'/\tn (i+1) s2.heap/\∀ b∈fp,H' b=none) E s1) E s
 done:∀ (X:Cx),X.prog=P->X.w=w->X.K=K->X.calm=true->∀ (i:Nat) (pins:List (Addr×Obj)) (s:qam) (σ:St) (H:Hp) (E:Value->qam->Prop),Inv X pins σ H s->(∀ b∈fp,jr X pins H b)->tn i s.heap->J.stop i H->
  wpAny (model P w) X.A (qg0 (.ref it)) (λr s1=>r=none/\Inv X pins σ H s1) E s
 self:∀ (A:qaZ) (i:Nat) (s:qam) (Q:Value->qam->Prop) (E:Value->qam->Prop),tn i s.heap->Q (.ref it) s->wpAny (model P w) A (qhC (.ref it)) Q E s
abbrev TI:=St->Hp->(It->Hp->Prop)->Prop
def PIE (X:Cx) (a:List (Addr×Obj)) (h:St) (i:Expr) (R:It->Hp->Prop) (c:Value) (d:qam):Prop:=
 ∃ (e:Addr) (g:List Addr) (f:Nat->Heap->Prop) (J:It) (H':Hp),c=.ref e/\Inv X a h H' d/\vh X.prog X.w X.K i J g e f/\f 0 d.heap/\(∀ b∈g,jr X a H' b)/\R J H'
def PI (X:Cx) (c iter:Expr) (d:TI):Prop:=
 ∀ (a:List (Addr×Obj)) (s:qam) (b:St) (H:Hp) (R:It->Hp->Prop),Inv X a b H s->d b H R->
  wpAny (model X.prog X.w) X.A (eval iter X.env) (λv s1=>wpAny (model X.prog X.w) X.A (qhC v) (PIE X a b c R) X.xe s1) X.xe s
theorem Ae {M:Model}{A:qaZ}{E:Value->qam->Prop}{s:qam}{b:Expr}{c:Addr}{u:Value}{o:Obj}{n:String}{e:Array Value}{Q:Unit->qam->Prop} (d:s.heap.get? c=some o) (g:o.cls=.type n) (hd:o.data=.fields e)
  (f:["enumerate","zip","dict_itemiterator","dict_reverseitemiterator","odict_iterator","itertools.zip_longest","itertools.pairwise"].contains n=false) (a:Q () s):wpAny M A (qgF b (.ref c) u) Q E s:=by
 cases b<;>first
  |exact qaq a
  | (cases u<;>first
      |exact qaq a
      | (refine qac (wpAny_load d ?_)
         rw[g,hd];show wpAny M A (if _=true then _ else _) Q E s;rw[iFN (by intro h;rw[f]at h;cases h)]
         exact qaq a))
def Itl (K:qae) (a:Addr):It:=
 ⟨λi H=>∃ xs x,SqL K H a xs/\xs[i]?=some x,λi H x H'=>H'=H/\∀ xs,SqL K H a xs->xs[i]?=some x,λi H=>∃ xs,SqL K H a xs/\xs.length<=i⟩
def Itt (K:qae) (a:Addr):It:=
 ⟨λi H=>∃ xs x,SqT K H a xs/\xs[i]?=some x,λi H x H'=>H'=H/\∀ xs,SqT K H a xs->xs[i]?=some x,λi H=>∃ xs,SqT K H a xs/\xs.length<=i⟩
def Itr (lo:Int) (n:Nat):It:=⟨λi _=>i<n,λi H x H'=>H'=H/\x=.int (lo+i),λi _=>n<=i⟩
theorem zC {P:qaR}{w:World}{K:qae}{T:Expr} (a f:Addr):vh P w K T (Itl K a) [f] f (λi h=>h.IsListIter f a i) where
 mem:=by simp
 obj:=λi h st b hb=>by
  have e:=by simpa using hb
  subst e;obtain⟨o,e,c,d⟩:=st;exact⟨o,e,λv z=>by rw[d]at z;cases z⟩
 keep:=λi h h' st k=>st.at λo e=>k f (by simp) o e
 item:=by
  intro X q hw y G i j s M H E I m st hg;subst q hw y;obtain⟨xs,x,l,t⟩:=hg;obtain⟨B,n,p,J⟩:=I.list l;obtain⟨u,N,O⟩:=n.get t;obtain⟨A,r,Q,F,D,C⟩:=m f (by simp);refine qdb st p.isList (by simpa using N) λh' g L=>?_;obtain⟨o,e,c,d⟩:=id g;exact⟨u,U,Ae e c d (by decide) ⟨x,H,(I.turned (λb o hb e=>(L.2 b hb).trans e) A r F D C),O,⟨U,λW R=>by rw[I.list_inj R l];exact t⟩,g,λb hb=>(m b hb).1⟩⟩
 done:=by
  intro X q hw y G i j s M H E I m st hg;subst q hw y;obtain⟨xs,l,t⟩:=hg;obtain⟨B,n,p,J⟩:=I.list l;obtain⟨A,r,Q,F,D,C⟩:=m f (by simp);have V:=n.length;exact qdh (I.ok.hd G) st p.isList (by simp;lia) λh' S=>⟨U,I.turned (λb o hb e=>S b o hb e) A r F D C⟩
 self:=λ_ _ _ _ _ st h=>wpAny_pyIter_listiter st h
theorem wE {P:qaR}{w:World}{K:qae}{T:Expr} (a f:Addr):vh P w K T (Itt K a) [f] f (λi h=>h.IsTupleIter f a i) where
 mem:=by simp
 obj:=λi h st b hb=>by
  have e:=by simpa using hb
  subst e;obtain⟨o,e,c,d⟩:=st;exact⟨o,e,λv z=>by rw[d]at z;cases z⟩
 keep:=λi h h' st k=>st.at λo e=>k f (by simp) o e
 item:=by
  intro X q hw y G i j s M H E I m st hg;subst q hw y;obtain⟨xs,x,l,t⟩:=hg;obtain⟨B,n,p,J⟩:=I.tuple l;obtain⟨u,N,O⟩:=n.get t;obtain⟨A,r,Q,F,D,C⟩:=m f (by simp);refine wpAny_pyNext_tuple_item st (p) (by simpa using N) λh' g L=>?_;obtain⟨o,e,c,d⟩:=id g;exact⟨u,U,Ae e c d (by decide) ⟨x,H,(I.turned (λb o hb e=>(L.2 b hb).trans e) A r F D C),O,⟨U,λW R=>by rw[I.tuple_inj R l];exact t⟩,g,λb hb=>(m b hb).1⟩⟩
 done:=by
  intro X q hw y G i j s M H E I m st hg;subst q hw y;obtain⟨xs,l,t⟩:=hg;obtain⟨B,n,p,J⟩:=I.tuple l;obtain⟨A,r,Q,F,D,C⟩:=m f (by simp);have V:=n.length;exact wpAny_pyNext_tuple_end (I.ok.hd G) st (p) (by simp;lia) λh' S=>⟨U,I.turned (λb o hb e=>S b o hb e) A r F D C⟩
 self:=λ_ _ _ _ _ st h=>wpAny_pyIter_tupleiter st h
theorem wD {P:qaR}{w:World}{K:qae}{D:Expr} (a:Addr) (lo:Int) (n:Nat):vh P w K D (Itr lo n) [a] a (λi h=>IsRangeIter h a (lo+(i:Nat)*1) ((n:Int) - (i:Nat)) 1) where
 mem:=by simp
 obj:=λi h st b hb=>by
  have e:=by simpa using hb
  subst e
  exact⟨_,st,λv z=>by
   cases z⟩
 keep:=λi h h' st k=>k a (by simp) _ st
 item:=by
  intro X u hw A p i d s y H E I f st hg;obtain⟨j,g,B,q,m,l⟩:=f a (by simp);refine (Walks.range (I.ok.hd p) a lo 1 n).item i s _ _ hg st λv h' F x c r=>?_;obtain⟨t,rfl⟩:=x;refine⟨_,U,Ae c U U (by decide) ⟨.int _,H,(I.turned (λb o hb e=>r b o (by simpa using hb) e) j g q m l),⟨t,?_⟩,⟨U,U⟩,c,λb hb=>(f b hb).1⟩⟩;rw[qdu]
 done:=by
  intro X u hw A p i d s y H E I f st hg;obtain⟨j,g,B,q,m,l⟩:=f a (by simp);exact wpAny_pyNext_range_end (I.ok.hd p) st (by have:n<=i:=hg;lia) λh' C=>⟨U,I.turned (λb o hb e=>C b o hb e) j g q m l⟩
 self:=λ_ _ _ _ _ st h=>wpAny_pyIter_rangeiter st h
section
variable {X:Cx}{O:Expr}
def Gz (K:qae) (tl:TE):TI:=λk H R=>tl k H λx H1=>∃ a,x=.ref a/\(∃ xs,SqL K H1 a xs)/\R (Itl K a) H1
def HV (K:qae) (tl:TE):TI:=λk H R=>tl k H λx H1=>∃ a,x=.ref a/\(∃ xs,SqT K H1 a xs)/\R (Itt K a) H1
theorem C2 {l:Expr}{tl:TE} (hl:PE X l tl):PI X O l (Gz X.K tl):=by
 intro c s k H R I h;refine thn (hl c s k H _ I h) λv s1 ⟨x,H1,I1,S,L⟩=>?_;obtain⟨a,e,⟨xs,hq⟩,q⟩:=L;subst e;cases S;obtain⟨its,rv,p,hz⟩:=I1.list hq;refine qdm p.isList ?_;refine⟨s1.heap.objs.size,_,_,_,H1,U,I1.kept λb o e=>qah _ e,zC a _,⟨_,qau _ U,U,U⟩,λb hb=>?_,q⟩;have e:=by simpa using hb
 subst e;exact I1.fpOk (qap _) (I1.hok.fresh (qap _))
theorem Fz {l:Expr}{tl:TE} (hl:PE X l tl):PI X O l (HV X.K tl):=by
 intro c s k H R I h;refine thn (hl c s k H _ I h) λv s1 ⟨x,H1,I1,S,L⟩=>?_;obtain⟨a,e,⟨xs,hq⟩,q⟩:=L;subst e;cases S;obtain⟨its,rv,p,hz⟩:=I1.tuple hq;refine qdL (p) ?_;refine⟨s1.heap.objs.size,_,_,_,H1,U,I1.kept λb o e=>qah _ e,wE a _,⟨_,qau _ U,U,U⟩,λb hb=>?_,q⟩;have e:=by simpa using hb
 subst e;exact I1.fpOk (qap _) (I1.hok.fresh (qap _))
theorem Bn {c:List (Addr×Obj)}{k:St}{H:Hp}{s:qam}{R:It->Hp->Prop}{E:Value->qam->Prop}{lo hi:Int}{t u v:Tok}{tk:Nat} (I:Inv X c k H s) (h1:-(2^62)<=lo) (h2:lo<2^62) (h3:-(2^62)<=hi) (h4:hi<2^62)
  (q:R (Itr lo (hi - lo).toNat) H):wpAny (model X.prog X.w) X.A (qhC (.ref s.heap.objs.size)) (PIE X c k O R) E { s with heap:=s.heap.push { cls:=.type "range",data:=.fields #[.int lo t,.int hi u,.int 1 v] },toks:=tk }:=by
 refine wpAny_pyIter_range (IsRange.new ..) (small_one h1 h2 h3 h4) ?_;have I1:Inv X c k H { s with heap:=s.heap.push { cls:=.type "range",data:=.fields #[.int lo t,.int hi u,.int 1 v] },toks:=tk }:=I.kept λb o e=>qah _ e
 refine⟨_,_,_,_,H,U,
  I1.kept λb o e=>qah _ e,wD _ lo (hi - lo).toNat,?_,λb hb=>?_,q⟩
 ·have e1:lo+((0:Nat))*1=lo:=by simp
  have e2:(((hi - lo).toNat)) - ((0:Nat))=qft lo hi 1:=by rw[qhe];split<;>lia
  rw[e1,e2];exact qau _ U
 ·have e:b=(s.heap.push { cls:=.type "range",data:=.fields #[.int lo t,.int hi u,.int 1 v] }).objs.size:=by simpa using hb
  subst e;exact I1.fpOk (qap _) (I1.hok.fresh (qap _))
def GA (Y:TA):TI:=λk H R=>Y k H λvs H1=>∃ j:Int,vs=[.int j]/\-(2^62)<=j/\j<2^62/\R (Itr 0 j.toNat) H1
theorem zn {a:Expr}{Y:TA}{p pos:Pos} (hg:Gl X "range") (hm:X.mg "range" = none) (ha:PA X [a] Y) (hs:qbA [a] X.env=[(false,eval a X.env)]:=by rfl):PI X O (.Call (.Name "range" p) [a] [] pos) (GA Y):=by
 intro c s k H R I h;refine Call_ (lx I hg hm boot_range (qcn (thn (ha pos c s k H _ I h) λus s1 ⟨vs,H1,I1,S,L⟩=>?_) hs U));obtain⟨j,e,L,q2,q⟩:=L;subst e;cases S with
 |cons r rr=>
  cases rr;obtain⟨t,rfl⟩:=r;exact call_range_1 (Bn I1 (by lia) (by lia) L q2 (by simpa using q))
def Ip (wi:TI) (g:TG) (tb:TS):TS:=λD k H=>wi k H λJ H1=>∃ W:Nat->Nat->St->Hp->Prop,(∃ m,W 0 m k H1)/\∀ i m k H,W i m k H->
 (J.stop i H/\D.nx k H)\/(J.go i H/\∃ N:St->Hp->Prop,(∀ y H',N y H'->∃ m',m'<m/\W (i+1) m' y H')/\∀ x H',J.yld i H x H'->g x k H' λσ2 H2=>tb { D with nx:=N,ct:=N,bk:=D.nx } σ2 H2)
def oA (A:List Addr) (h:Heap):List (Addr×Obj):=A.filterMap λb=>(h.get? b).map λo=>(b,o)
theorem cN {A:List Addr}{h:Heap}{b:Addr}{o:Obj} (hb:b∈A) (e:h.get? b=some o):(b,o)∈oA A h:=qfo.mpr ⟨b,hb,by rw[e];rfl⟩
theorem zi {A:List Addr}{h:Heap}{p:Addr×Obj} (C:p∈oA A h):p.1∈A/\h.get? p.1=some p.2:=by
 obtain⟨b,hb,e⟩:=qfo.mp C;cases q:h.get? b with
 |none=>rw[q]at e;cases e
 |some o=>
  rw[q]at e;have e':=qaQ e;subst e';exact⟨hb,q⟩
theorem Inv.pinned {c:List (Addr×Obj)}{k:St}{H:Hp}{s:qam}{A:List Addr} (I:Inv X c k H s) (hf:∀ b∈A,jr X c H b) (ho:∀ b∈A,∃ o,s.heap.get? b=some o/\∀ v,o.data≠.cell v):Inv X (c++oA A s.heap) k H s:=
 I.pins_of λp C=>(qaG.mp C).elim (λz=>I.pin p (qax _ z)) λz=>by
  obtain⟨hb,e⟩:=zi z;obtain⟨f0,f1,f2,_⟩:=hf p.1 hb;obtain⟨o,e',d⟩:=ho p.1 hb;rw[e]at e';cases e';exact⟨e,f0,f1,f2,d⟩
theorem Inv.unpinned {c pl:List (Addr×Obj)}{k:St}{H:Hp}{s:qam} (I:Inv X (c++pl) k H s):Inv X c k H s:=I.pins_of λp C=>I.pin p (qax _ (qaS _ C))
theorem FB {iter:Expr}{body:List Stmt}{wi:TI}{g:TG}{tb:TS}{pos:Pos} (C:qhH (model X.prog X.w) X.A X.env X.xe) (hc:X.calm=true) (hi:PI X O iter wi) (hg:PG X O g) (hb:PSs X body tb)
  (hs:∀ x,qbE iter X.env x=pure x:=by intro _;rfl):PS X (.For O iter body [] pos) (Ip wi g tb):=by
 intro c s k H D I h;refine wpAny_For (thn (hi c s k H _ I h) λv s1 h1=>thn h1 λitv s2 h2=>?_) hs;obtain⟨it,A,tn,J,H2,e,I2,T,st2,f2,W,⟨m0,w0⟩,turn⟩:=h2;subst e
 -- what stays true of the iterator's objects through the loop
 have B:∀ {H':Hp},(∀ b∈A,H' b=none)->∀ b∈A,jr X c H' b:=λhn b hb=>⟨hn b hb,(f2 b hb).2⟩;refine codeAny_forLoop_any (λn s'=>∃ i y H',Inv X c y H' s'/\tn i s'.heap/\(∀ b∈A,H' b=none)/\W i n y H') ?_ m0 ⟨0,k,H2,I2,st2,λb hb=>(f2 b hb).1,w0⟩
 rintro n s3 ⟨i,F,H3,I3,P,Q,w3⟩
 rcases turn i n F H3 w3 with⟨stop,qn⟩|⟨go,N,hN,step⟩
 ·refine qdi C (thn (T.done X U U U hc i c s3 F H3 X.xe I3 (B Q) P stop) λr s4 ⟨hr,I4⟩=>?_)
  subst hr;exact qfd ⟨F,H3,I4,qn⟩
 ·refine qdi C (thn (T.item X U U U hc i c s3 F H3 X.xe I3 (B Q) P go) λr s4 ⟨u,hr,h4⟩=>?_)
  subst hr;refine qdi C (thn h4 λ_ s5 ⟨x,H5,I5,r5,y5,M,fr5⟩=>?_);refine qdi C (thn (hg _ s5 F H5 x u _ (I5.pinned (B fr5) (T.obj _ _ M)) r5 (step x H5 y5)) λ_ s6 ⟨σ6,H6,I6,q6⟩=>?_);refine qdi C (thn (hb _ s6 σ6 H6 _ I6 q6) λf s7 G=>?_);have again:∀ {w:St}{H7:Hp},Inv X _ w H7 s7->N w H7->∃ m,m<n/\∃ i y H',Inv X c y H' s7/\tn i s7.heap/\(∀ b∈A,H' b=none)/\W i m y H':=λ{w H7} I7 V=>by
   obtain⟨m',hm,w7⟩:=hN w H7 V;refine⟨m',hm,_,w,H7,I7.unpinned,T.keep _ _ _ M λb hb o e=>(I7.pin (b,o) (qax _ (qax _ (cN hb e)))).1,λb hb=>?_,w7⟩;obtain⟨o,e,d⟩:=T.obj _ _ M b hb;exact (I7.pin (b,o) (qax _ (qax _ (cN hb e)))).2.1
  cases f with
  |next=>obtain⟨w,H7,I7,V⟩:=G;exact again I7 V
  |cont=>obtain⟨w,H7,I7,V⟩:=G;exact again I7 V
  |brk=>obtain⟨w,H7,I7,G⟩:=G;exact⟨w,H7,I7.unpinned,G⟩
  |ret v=>obtain⟨x7,w,H7,I7,r7,G⟩:=G;exact⟨x7,w,H7,I7.unpinned,r7,G⟩
end
abbrev R2:=V->V->Hp->VK->Prop
def OpR (X:Cx) (f:Value->Value->Sem Value) (r:R2):Prop:=
 ∀ (a:List (Addr×Obj)) (s:qam) (b:St) (H:Hp) (x y:V) (v u:Value) (Q:VK),Inv X a b H s->aR x v->aR y u->r x y H Q->
  wpAny (model X.prog X.w) X.A (f v u) (EP X a b Q) X.xe s
def UnR (X:Cx) (f:Value->Sem Value) (r:V->Hp->VK->Prop):Prop:=
 ∀ (a:List (Addr×Obj)) (s:qam) (b:St) (H:Hp) (x:V) (v:Value) (Q:VK),Inv X a b H s->aR x v->r x H Q->
  wpAny (model X.prog X.w) X.A (f v) (EP X a b Q) X.xe s
def bO (X:Cx) (f:Value) (r:List V->Hp->VK->Prop):Prop:=
 ∀ (a:List (Addr×Obj)) (s:qam) (b:St) (H:Hp) (xs:List V) (c:List Value) (Q:VK),Inv X a b H s->aJ xs c->r xs H Q->
  wpAny (model X.prog X.w) X.A (call f c) (EP X a b Q) X.xe s
def HJ (X:Cx) (r:V->Hp->(Bool->Hp->Prop)->Prop):Prop:=
 ∀ (a:List (Addr×Obj)) (s:qam) (b:St) (H:Hp) (x:V) (v:Value) (Q:Bool->Hp->Prop),Inv X a b H s->aR x v->r x H Q->
  wpAny (model X.prog X.w) X.A (truthy v) (TP X a b Q) X.xe s
def tOp (r:R2) (b c:TE):TE:=λa H Q=>b a H λx H1=>c a H1 λy H2=>r x y H2 Q
def tUn (r:V->Hp->VK->Prop) (b:TE):TE:=λa H Q=>b a H λx H1=>r x H1 Q
def rI (C:Int->Int->Prop) (g:Int->Int->V):R2:=λx y H Q=>∃ i j,x=.int i/\y=.int j/\C i j/\Q (g i j) H
def rI0 (g:Int->Int->V):R2:=λx y H Q=>∃ i j,x=.int i/\y=.int j/\Q (g i j) H
def rU (g:Int->V):V->Hp->VK->Prop:=λx H Q=>∃ i,x=.int i/\Q (g i) H
section
variable {X:Cx}{a b c:Expr}{o F P:TE}{pos:Pos}
theorem Ew (B:PE X a o) (hb:PE X b F) {d:List (Addr×Obj)}{s:qam}{e:St}{H:Hp}{R:V->V->Hp->Prop} (I:Inv X d e H s)
  (h:o e H λx H1=>F e H1 λy H2=>R x y H2) {Q:Value->qam->Prop}{f:Value->Value->Sem Value}
  (N:∀ v u p x y H2,Inv X d e H2 p->aR x v->aR y u->R x y H2->wpAny (model X.prog X.w) X.A (f v u) Q X.xe p) :
  wpAny (model X.prog X.w) X.A (eval a X.env) (λv A=>wpAny (model X.prog X.w) X.A (eval b X.env) (λu w=>wpAny (model X.prog X.w) X.A (f v u) Q X.xe w) X.xe A) X.xe s:=by
 refine thn (B d s e H _ I h) λv s1 ⟨x,H1,I1,J,K⟩=>?_;refine thn (hb d s1 e H1 _ I1 K) λu p ⟨y,H2,I2,O,M⟩=>?_;exact N v u p x y H2 I2 J O M
theorem D4 {z:Operator}{r:R2} (L:OpR X (qbI z) r) (B:PE X a o) (hb:PE X b F):PE X (.BinOp a z b pos) (tOp r o F):=by
 intro d s e H Q I h;exact wpAny_BinOp (Ew B hb I h λv u p x y H2 I2 m n q=>L d p e H2 x y v u Q I2 m n q)
theorem G5 {z:UnaryOp}{r:V->Hp->VK->Prop} (L:UnR X (unaryOp z) r) (B:PE X a o):PE X (.UnaryOp z a pos) (tUn r o):=by
 intro d s e H Q I h;exact UnaryOp_ (thn (B d s e H _ I h) λv s1 ⟨x,H1,I1,J,K⟩=>L d s1 e H1 x v Q I1 J K)
theorem opI {f:Value->Value->Sem Value}{C:Int->Int->Prop}{g:Int->Int->Int}
  (rule:∀ (i j:Int) (t u:Tok) (s:qam) (Q:Value->qam->Prop) (E:Value->qam->Prop),C i j->Q (.int (g i j) s.toks) { s with toks:=s.toks+1 }->wpAny (model X.prog X.w) X.A (f (.int i t) (.int j u)) Q E s) :
  OpR X f (rI C λi j=>.int (g i j)):=by
 intro d s e H x y v u Q I m n h;obtain⟨i,j,rfl,rfl,l,q⟩:=h;obtain⟨t,rfl⟩:=m;obtain⟨t',rfl⟩:=n;exact rule i j t t' s _ _ l ⟨.int _,H,I.tok _,⟨_,U⟩,q⟩
theorem E9 {f:Value->Value->Sem Value}{g:Int->Int->Int}
  (rule:∀ (i j:Int) (t u:Tok) (s:qam) (Q:Value->qam->Prop) (E:Value->qam->Prop),Q (.int (g i j) s.toks) { s with toks:=s.toks+1 }->wpAny (model X.prog X.w) X.A (f (.int i t) (.int j u)) Q E s) :
  OpR X f (rI0 λi j=>.int (g i j)):=by
 intro d s e H x y v u Q I m n h;obtain⟨i,j,rfl,rfl,q⟩:=h;obtain⟨t,rfl⟩:=m;obtain⟨t',rfl⟩:=n;exact rule i j t t' s _ _ ⟨.int _,H,I.tok _,⟨_,U⟩,q⟩
theorem CM {f:Value->Value->Sem Value}{g:Int->Int->Bool}
  (rule:∀ (i j:Int) (t u:Tok) (s:qam) (Q:Value->qam->Prop) (E:Value->qam->Prop),Q (.bool (g i j)) s->wpAny (model X.prog X.w) X.A (f (.int i t) (.int j u)) Q E s) :
  OpR X f (rI0 λi j=>.bl (g i j)):=by
 intro d s e H x y v u Q I m n h;obtain⟨i,j,rfl,rfl,q⟩:=h;obtain⟨t,rfl⟩:=m;obtain⟨t',rfl⟩:=n;exact rule i j t t' s _ _ ⟨.bl _,H,I,U,q⟩
def HH (i j:Int):Prop:=0<j/\j<1073741824
def sU (i j:Int):Prop:=0<=j/\j<=1000000/\i.natAbs<2^64
def BX (i j:Int):Prop:=(-(2^64)<i/\i<2^64)\/(-(2^64)<j/\j<2^64)
theorem BX.ok {i j:Int} (h:BX i j):qgz i j:=by
 rcases h with⟨D,G⟩|⟨D,G⟩
 ·exact .of_left (intBits_le_64 D G)
 ·exact .of_right (intBits_le_64 D G)
theorem wI (k:Nat):(0:Int)<=2^k:=by
 exact qhu _
theorem Fa:OpR X (qbI .Add) (rI0 λi j=>.int (i+j)):=E9 λ_ _ _ _ _ _ _ q=>add_int q
theorem Fh:OpR X (qbI .Sub) (rI0 λi j=>.int (i - j)):=E9 λ_ _ _ _ _ _ _ q=>sub_int q
theorem CP:OpR X (qbI .FloorDiv) (rI HH λi j=>.int (i / j)):=opI λi j _ _ _ _ _ l q=>by
 have D:=l.1;have G:=l.2;exact floordiv_int (by lia) (by rw[qec i (by lia)];exact q) (.inl (PyProof.noPylong_small (by lia)))
theorem Fc:OpR X (qbI .Mod) (rI (λ_ j=>0<j) λi j=>.int (i%j)):=opI λi j _ _ _ _ _ l q=>by
 exact mod_int' (by lia) (by rw[Int.fmod_eq_emod_of_nonneg i (by lia)];exact q)
theorem Fd:OpR X (qbI .Pow) (rI sU λi j=>.int (i^j.toNat)):=opI λ_ _ _ _ _ _ _ l q=>pow_int_small l.1 l.2.1 l.2.2 q
theorem Ff:OpR X (qbI .LShift) (rI sU λi j=>.int (i*2^j.toNat)):=opI λ_ _ _ _ _ _ _ l q=>lshift_int_small l.1 l.2.1 l.2.2 q
theorem Fg:OpR X (qbI .RShift) (rI (λ_ j=>0<=j) λi j=>.int (i / 2^j.toNat)):=opI λi j _ _ _ _ _ l q=>
 rshift_int l (by rw[qec i (wI _)];exact q)
theorem Fi:OpR X (qbI .BitXor) (rI0 λi j=>.int (qb7 i j)):=E9 λ_ _ _ _ _ _ _ q=>xor_int q
theorem unI {f:Value->Sem Value}{g:Int->Int}
  (rule:∀ (i:Int) (t:Tok) (s:qam) (Q:Value->qam->Prop) (E:Value->qam->Prop),Q (.int (g i) s.toks) { s with toks:=s.toks+1 }->wpAny (model X.prog X.w) X.A (f (.int i t)) Q E s) :
  UnR X f (rU λi=>.int (g i)):=by
 intro d s e H x v Q I m h;obtain⟨i,rfl,q⟩:=h;obtain⟨t,rfl⟩:=m;exact rule i t s _ _ ⟨.int _,H,I.tok _,⟨_,U⟩,q⟩
theorem FZ:UnR X (unaryOp .USub) (rU λi=>.int (-i)):=unI λ_ _ _ _ _ q=>neg_int q
end
section
variable {X:Cx}{a b c:Expr}{F P tc:TE}{pos:Pos}
theorem Aa {d:List (Addr×Obj)}{f:St}{H:Hp}{s:qam}{Q:VK}{k k':Bool} (I:Inv X d f H s) (q:Q (.bl k) H) (e:k=k'):EP X d f Q (.bool k') s:=by
 subst e;exact⟨.bl k,H,I,U,q⟩
theorem G0:OpR X (qce .Lt) (rI0 λi j=>.bl (decide (i<j))):=CM λ_ _ _ _ _ _ _ q=>lt_int q
theorem GZ:OpR X (qce .LtE) (rI0 λi j=>.bl (decide (i<=j))):=CM λ_ _ _ _ _ _ _ q=>le_int q
theorem GY:OpR X (qce .Gt) (rI0 λi j=>.bl (decide (j<i))):=CM λ_ _ _ _ _ _ _ q=>gt_int q
theorem GX:OpR X (qce .GtE) (rI0 λi j=>.bl (decide (j<=i))):=CM λ_ _ _ _ _ _ _ q=>ge_int q
theorem Fb:OpR X (qce .Is) (λx y H Q=>y=.non/\Q (.bl (decide (x=.non))) H):=by
 intro d s f H x y v u Q I l D h;obtain⟨rfl,q⟩:=h;cases D;refine is_none_gen (Aa I q ?_);cases x<;>first
  |(rfl)
  |(obtain⟨t,rfl⟩:=l;rfl)
theorem CS:OpR X (qce .IsNot) (λx y H Q=>y=.non/\Q (.bl (!decide (x=.non))) H):=by
 intro d s f H x y v u Q I l D h;obtain⟨rfl,q⟩:=h;cases D;refine isnot_none_gen (Aa I q ?_);cases x<;>first
  |(rfl)
  |(obtain⟨t,rfl⟩:=l;rfl)
theorem CY {E:CmpOp}{r:R2} (Y:OpR X (qce E) r) (M:PE X a F) (hb:PE X b P) (R:qfS E b=false):PE X (.Compare a [E] [b] pos) (tOp r F P):=by
 intro d s f H Q I h;exact wpAny_Compare1 (Ew M hb I h λv u T x y H2 I2 l D q=>Y d T f H2 x y v u Q I2 l D q) R
def Hz (t:TE):TT:=λf H Q=>t f H λx H'=>∃ k,x=.bl k/\Q k H'
theorem Da {E:CmpOp}{r:R2} (Y:OpR X (qce E) r) (M:PE X a F) (hb:PE X b P) (R:qfS E b=false):PT X (.Compare a [E] [b] pos) (Hz (tOp r F P)):=by
 intro d s f H Q I h
 refine wpAny_isTrue_Compare1 (thn (M d s f H _ I h) λv s1 ⟨x,H1,I1,o,S⟩=>thn (hb d s1 f H1 _ I1 S) λu T ⟨y,H2,I2,L,q2⟩=>
  thn (Y d T f H2 x y v u _ I2 o L q2) λc s3 ⟨z,H3,I3,W,k,e,q3⟩=>?_) R
 subst e;cases W;exact qcw ⟨H3,I3,q3⟩
def B1 (K:qae) (x:V) (H:Hp) (k:Bool):Prop:=
 match x with
 |.non=>k=false
 |.bl b=>k=b
 |.int i=>k=(i != 0)
 |.str y=>y.length<=qaN/\k=((y.length:Int) != 0)
 |.byt y=>y.size<=qaN/\k=((y.size:Int) != 0)
 |.ref p=>(∃ xs,SqL K H p xs/\k=!xs.isEmpty)\/(∃ xs,SqT K H p xs/\k=!xs.isEmpty)\/∃ g,H p=some (.dK g)/\k=!g.isEmpty
 |_=>False
theorem vH {κ:Type}{g:List (κ×V)}{G:List (κ×Value)} (r:KV g G):(!G.isEmpty)=!g.isEmpty:=by
 cases r<;>rfl
theorem n4 {xs:List V}{B:List Value} (r:aJ xs B):(!B.toArray.isEmpty)=!xs.isEmpty:=by
 cases r<;>simp
theorem ly:(qaN:Nat)<2^63:=by decide
theorem FX:HJ X (λx H Q=>∃ k,B1 X.K x H k/\Q k H):=by
 intro d s f H x v Q I l h;obtain⟨k,e,q⟩:=h;have hs:=qdj;cases x with
 |non=>
  cases l;subst e;exact truthy_none ⟨H,I,q⟩
 |bl b=>
  cases l;subst e;exact qcw ⟨H,I,q⟩
 |int i=>
  obtain⟨t,rfl⟩:=l;subst e;exact PySem.P.truthy_int ⟨H,I,q⟩
 |str y=>
  obtain⟨t,rfl⟩:=l;obtain⟨hy,n⟩:y.length<=qaN/\k=_:=e;subst n;exact PySem.P.truthy_str (by lia) ⟨H,I.tok _,q⟩
 |byt y=>
  obtain⟨t,rfl⟩:=l;obtain⟨hy,n⟩:y.size<=qaN/\k=_:=e;subst n;exact PySem.W.truthy_bytes (by lia) ⟨H,I.tok _,q⟩
 |ref p=>
  cases l;have n:=e;rcases n with⟨xs,J,n⟩|⟨xs,J,n⟩|⟨g,J,n⟩
  ·subst n
   obtain⟨B,r,pl,N⟩:=I.list J;have C:=r.length;exact wpAny_truthy_list pl.isList (by simp only[qaK];lia) ⟨H,I.tok _,by rw[n4 r];exact q⟩
  ·subst n
   obtain⟨B,r,pl,N⟩:=I.tuple J;have C:=r.length;exact truthy_tuple pl (by simp only[qaK];lia) ⟨H,I.tok _,by rw[n4 r];exact q⟩
  ·subst n
   obtain⟨N,hS,G,r,m⟩:g.length<=qaN/\(p==qcK)=false/\∃ G,KV g G/\s.heap.DictOf _ p G:=I.hok p _ J;have C:=qe6 r;exact wpAny_truthy_dict hS m (by lia) ⟨H,I.tok _,by rw[vH r];exact q⟩
 |_=>exact (show False from e).elim
theorem Be (M:PE X a F) (he:∀ whole,qjR a X.env whole=(do let v <-whole;qjL a.pos;qf5 [v] (truthy v))) :
  PT X a (λf H Q=>F f H λx H'=>∃ k,B1 X.K x H' k/\Q k H'):=by
 intro d s f H Q I h;exact isTrue_plain (thn (M d s f H _ I h) λv s1 ⟨x,H1,I1,o,S⟩=>FX d s1 f H1 x v Q I1 o S) (he _)
theorem wb:OpR X (qbI .Add) (λx y H Q=>∃ i j,x=.str i/\y=.str j/\i.length+j.length<=qaN/\Q (.str (i++j)) H):=by
 intro d s f H x y v u Q I l D h;obtain⟨i,j,rfl,rfl,N,q⟩:=h;obtain⟨t,rfl⟩:=l;obtain⟨t',rfl⟩:=D;exact add_str (λt' tk=>⟨.str _,H,I.tok _,⟨_,U⟩,q⟩) N
theorem jb {x:V}{A:List Value} (r:aJ [x] A):∃ u,A=[u]/\aR x u:=by
 cases r with
 |cons o L=>cases L;exact⟨_,U,o⟩
theorem Ej {x y:V}{A:List Value} (r:aJ [x,y] A):∃ u O,A=[u,O]/\aR x u/\aR y O:=by
 cases r with
 |cons o L=>
  cases L with
  |cons W r4=>cases r4;exact⟨_,_,U,o,W⟩
theorem zP:bO X (.builtin "abs") (λxs H Q=>∃ i,xs=[.int i]/\Q (.int (if i<0 then -i else i)) H):=by
 intro d s f H xs A Q I r h;obtain⟨i,rfl,q⟩:=h;obtain⟨u,rfl,t,rfl⟩:=jb r;exact call_abs_int λu tk=>⟨.int _,H,I.tok _,⟨_,U⟩,q⟩
theorem yO (hc:X.calm=true):bO X (.builtin "max") (λxs H Q=>∃ i j,xs=[.int i,.int j]/\Q (.int (if j > i then j else i)) H):=by
 intro d s f H xs A Q I r h;obtain⟨i,j,rfl,q⟩:=h;obtain⟨u,O,rfl,⟨t,rfl⟩,⟨t',rfl⟩⟩:=Ej r;refine max_two_ints (I.ok.hd hc) λh' tk k=>⟨_,H,I.kept k,?_,q⟩;by_cases w:j > i
 ·rw[iFP w,iFP w];exact⟨_,U⟩
 ·rw[iFN w,iFN w];exact⟨_,U⟩
theorem pJ (hc:X.calm=true):bO X (.builtin "min") (λxs H Q=>∃ i j,xs=[.int i,.int j]/\Q (.int (if j<i then j else i)) H):=by
 intro d s f H xs A Q I r h;obtain⟨i,j,rfl,q⟩:=h;obtain⟨u,O,rfl,⟨t,rfl⟩,⟨t',rfl⟩⟩:=Ej r;refine min_two_ints (I.ok.hd hc) λh' tk k=>⟨_,H,I.kept k,?_,q⟩;by_cases w:j<i
 ·rw[iFP w,iFP w];exact⟨_,U⟩
 ·rw[iFN w,iFN w];exact⟨_,U⟩
theorem pI:bO X (.type "int") (λxs H Q=>(∃ i,xs=[.int i]/\Q (.int i) H)\/∃ k,xs=[.bl k]/\Q (.int (if k then 1 else 0)) H):=by
 intro d s f H xs A Q I r h;rcases h with⟨i,rfl,q⟩|⟨k,rfl,q⟩
 ·obtain⟨u,rfl,t,rfl⟩:=jb r
  exact call_int_int ⟨.int i,H,I,⟨_,U⟩,q⟩
 ·obtain⟨u,rfl,o⟩:=jb r
  cases o;exact call_int_bool ⟨.int _,H,I.tok _,⟨_,U⟩,q⟩
end
structure yH (h:Heap) (x dx C:Addr) (mA:Str->Option Value):Prop where
 obj:h.get? x=some (qdt C dx)
 ns:h.Ns1 dx mA
 ne:dx≠x
theorem zd {h:Heap}{f:Addr}{d:Str->Option Value} (n:h.Ns1 f d):∃ c,h.get? f=some c/\∀ name,qfT name c=some (d name):=by
 obtain⟨o,es,m,i,hd,j,_,k⟩:=n;refine⟨o,i,λname=>?_⟩;have e:=k name;unfold nsFind findBy at e;rw[<-Array.find?_toList]at e;unfold qfT;rw[hd];dsimp only;split
 ·rename_i y q
  rw[q]at e;exact congrArg some e
 ·rename_i q
  rw[q]at e;have a:es.toList.any (·.refKey)=false:=by
   rw[qht];intro y l;obtain⟨z,t,b⟩:=j y (Array.mem_toList_iff.mp l);simp[DictEntry.refKey,b]
  have g:¬ es.toList.any (·.refKey)=true:=by rw[a];exact qa7
  rw[iFN g];exact congrArg some e
theorem yH.look {h:Heap}{x b C:Addr}{c:Str->Option Value} (I:yH h x b C c):∃ a,PySem.W.InstAt h x (qdt C b) C (some a)/\∀ name,qfT name a=some (c name):=
 let ⟨a,ho,hl⟩:=zd I.ns
 ⟨a,⟨I.obj,U,U,ho⟩,hl⟩
section
variable {prog:qaR}{w:World}{A:qaZ}{E:Value->qam->Prop}{s:qam}{K:qae}{x g C f:Addr}{c:Str->Option Value}{name:Str}{v:Value}
theorem Cf {a:Bool}{Q:Value->qam->Prop} (X:K.In s.heap) (I:yH s.heap x g C c) (hg:qen K C name=true) (m:qd8 K C=true)
  (L:qcy K (.ref C) name=some none) (z:c name=some v) (k:qg2 v=true) (h:Q v { s with toks:=s.toks+1 }) :
  wpAny (model prog w) A (getAttr (.ref x) name a) Q E s:=by
 obtain⟨B,J,q⟩:=I.look;exact PySem.W.get_value X J (PySem.W.plainGet_of hg).1 (PySem.W.findObj_own m L U (by rw[q,z])) k h
theorem Dq {ns:List Str}{Q:Unit->qam->Prop} (X:K.In s.heap) (I:yH s.heap x g C c)
  (M:qcy K (.ref C) "__setattr__" = some (some (.builtin "object.__setattr__"))) (t:qfi K C=true) (D:qfA K C name=some none) (m:qd8 K C=true)
  (hw:qgI c ns) (u:ns.length<=qaN)
  (h:∀ h',yH h' x g C (λy=>if y=name then some v else c y)->qdw g s.heap h'->Q () { s with heap:=h',toks:=s.toks+2 }) :
  wpAny (model prog w) A (setAttr (.ref x) name v) Q E s:=by
 obtain⟨B,J,q⟩:=I.look;refine PySem.W.set_plain X J M (PySem.W.osa_open X J t D λb=>?_);obtain⟨P,N,n⟩:=PySem.W.any_some m;refine qac (qaq (qac (qac (wpAny_loadPart I.obj (qac (qiH (PySem.W.looks_clsIn X N) ?_))))));rw[n];refine qaq (qac (qaq (qac ?_)));refine wpAny_nsSet1 I.ns λh' d e=>?_;obtain⟨O,H,G,p,l,i⟩:=d.count (qjA name v hw);refine qac (wpAny_lookBehind p (by rw[l];exact pastItsLine_dict (qaM i (by rw[qar];lia))) ?_);exact qaq (h _ ⟨(e.2 _ (qbr I.ne)).trans I.obj,d,I.ne⟩ e)
theorem Az {R:qhE->qam->Prop}{o:List Value}{j:List (Str×Value)} (X:K.In s.heap) (r:qfB K C=true)
  (hi:qcy K (.ref C) "__init__" = some (some (.ref f))) (F:PySem.W.typeIn K (.ref f)=some (.type "function"))
  (h:qdM (model prog w) (A.under (.builtin "type.__call__" ⟨.ref C::o,j⟩)) (.call (.ref f) ⟨.ref (s.heap.objs.size+1)::o,j⟩) (PySem.W.InitBack (s.heap.objs.size+1) R)
    { s with heap:=(s.heap.push qc8).push (qdt C s.heap.objs.size) }) :
  qdM (model prog w) A (.call (.ref C) ⟨o,j⟩) R s:=by
 exact PySem.W.make_core (PySem.W.makes_of X r) (PySem.W.looks_findIn X hi) (λself=>PySem.W.bind_fn X self F) (.inl U) h
end
def gA (f:Str) (v:V):List (Str×V)->List (Str×V)
 |[]=>[(f,v)]
 |(g,x)::r=>if g=f then (g,v)::r else (g,x)::gA f v r
theorem lU (f g:Str) (v:V):∀ fs:List (Str×V),(gA f v fs).lookup g=if g=f then some v else fs.lookup g
 |[]=>by
  show qd2 g [(f,v)]=_;by_cases h:g=f
  ·simp only[qd2,(beq_iff_eq.mpr h),iFP h]
  ·simp only[qd2,(beq_eq_false_iff_ne.mpr h),iFN h]
 |(k,x)::r=>by
  rw[show gA f v _=(if k=f then (k,v)::r else (k,x)::gA f v r) from U];by_cases a:k=f
  ·rw[iFP a]
   by_cases h:g=k
   ·simp only[qd2,(beq_iff_eq.mpr h),iFP (h.trans a)]
   ·simp only[qd2,(beq_eq_false_iff_ne.mpr h),iFN (λe:g=f=>h (e.trans a.symm))]
  ·rw[iFN a]
   by_cases h:g=k
   ·simp only[qd2,(beq_iff_eq.mpr h),iFN (λe=>a (h.symm.trans e))]
   ·simp only[qd2,(beq_eq_false_iff_ne.mpr h)]
    exact (lU f g v r)
theorem lw (f:Str) (v:V):∀ fs:List (Str×V),f∈(gA f v fs).map (·.1)/\∀ g,g∈fs.map (·.1)->g∈(gA f v fs).map (·.1)
 |[]=>⟨by simp[gA],λg h=>by simp at h⟩
 |(k,x)::r=>by
  obtain⟨b,c⟩:=lw f v r;rw[show gA f v _=(if k=f then (k,v)::r else (k,x)::gA f v r) from U];by_cases a:k=f
  ·subst a
   exact⟨by simp,λg h=>by simpa using h⟩
  ·rw[iFN a]
   refine⟨?_,λg h=>?_⟩
   ·exact qak _ b
   ·rcases qaA.mp h with e|e
    ·exact qaA.mpr (.inl e)
    ·exact qak _ (c g e)
theorem lS (f:Str) (v:V):∀ fs:List (Str×V),(gA f v fs).length<=fs.length+1
 |[]=>by simp[gA]
 |(k,x)::r=>by
  have b:=lS f v r;rw[show gA f v _=(if k=f then (k,v)::r else (k,x)::gA f v r) from U];by_cases a:k=f
  ·rw[iFP a,qar,qar];lia
  ·rw[iFN a,qar,qar];lia
theorem lZ.some_of {v:V}{o:Option Value} (r:lZ (some v) o):∃ u,o=some u/\aR v u:=by
 cases o with
 |none=>exact (r).elim
 |some u=>exact⟨u,U,r⟩
theorem yV {v:V}{u:Value} (r:aR v u):qg2 u=true:=by
 cases v with
 |non=>cases (r);rfl
 |bl b=>cases (r);rfl
 |int i=>obtain⟨t,e⟩:=(r);cases e;rfl
 |str x=>obtain⟨t,e⟩:=(r);cases e;rfl
 |byt b=>obtain⟨t,e⟩:=(r);cases e;rfl
 |flt b=>obtain⟨t,e⟩:=(r);cases e;rfl
 |ref a=>cases (r);rfl
 |ty n=>cases (r);rfl
section
variable {P:qaR}{w:World}{H H':Hp}{h h':Heap}{a C c:Addr}{fs g:List (Str×V)}
theorem xu (hok:HOk P w H h) (e:H a=some (.ins C c fs)):∃ b,yH h a c C b/\(∀ f,lZ (fs.lookup f) (b f))/\qgI b (fs.map (·.1))/\fs.length<=1000/\H c=some (.own a):=by
 obtain⟨d,z,ne,ob,b,n,r,q⟩:=(hok a _ e);exact⟨b,⟨ob,n,ne⟩,r,q,z,d⟩
end
structure Cls (K:qae) (C:Addr):Prop where
 pg:qen K C Str.empty=true
 hd:qd8 K C=true
 po:qfi K C=true
 sa:qcy K (.ref C) "__setattr__" = some (some (.builtin "object.__setattr__"))
theorem Cls.get {K:qae}{C:Addr} (c:Cls K C) (f:Str):qen K C f=true:=c.pg
def cI (K:qae) (C:Addr) (f:Str):Prop:=qcy K (.ref C) f=some none
theorem cI.taker {K:qae}{C:Addr}{f:Str} (n:cI K C f):qfA K C f=some none:=by
 unfold qfA;rw[n];rfl
section
variable {X:Cx}{d:List (Addr×Obj)}{i:St}{H:Hp}{s:qam}{a C k:Addr}{fs:List (Str×V)}{f:Str}{v:V}{A:qaZ}{E:Value->qam->Prop}
theorem vC {b:Bool}{Q:Value->qam->Prop} (I:Inv X d i H s) (e:H a=some (.ins C k fs)) (c:Cls X.K C) (n:cI X.K C f) (l:fs.lookup f=some v)
  (h:∀ u s',Inv X d i H s'->aR v u->Q u s'):wpAny (model X.prog X.w) A (getAttr (.ref a) f b) Q E s:=by
 obtain⟨x,O,r,_,_,_⟩:=xu I.hok e;obtain⟨u,G,p⟩:=lZ.some_of (by rw[<-l];exact r f);exact Cf I.kIn O (c.get f) c.hd n G (yV p) (h u _ (I.tok _) p)
theorem wv {y:V}{u:Value}{Q:Unit->qam->Prop} (I:Inv X d i H s) (e:H a=some (.ins C k fs)) (c:Cls X.K C) (n:cI X.K C f) (M:fs.length<1000) (D:aR y u)
  (h:∀ s',Inv X d i (upd H a (.ins C k (gA f y fs))) s'->Q () s'):wpAny (model X.prog X.w) A (setAttr (.ref a) f u) Q E s:=by
 obtain⟨x,O,r,B,_,m⟩:=xu I.hok e;have F:(fs.map (·.1)).length<=qaN:=by rw[qaf,qdj];lia
 refine Dq I.kIn O c.sa c.po n.taker c.hd B F λh' O' L=>h _ ?_;refine I.write (by rw[e];exact True.intro) (.inr m) (λb q hb z=>(L.2 b hb).trans z) (let ⟨o,_,_,e',_⟩:=O'.ns;⟨o,e'⟩) ?_;refine⟨by rw[upd_ne O.ne];exact m,?_,O.ne,O'.obj,_,O'.ns,λg=>?_,λg hg=>?_⟩
 ·have:=lS f y fs;lia
 ·rw[lU]
  by_cases q:g=f
  ·rw[iFP q,iFP q];exact D
  ·rw[iFN q,iFN q];exact r g
 ·by_cases q:g=f
  ·rw[q];exact (lw f y fs).1
  ·refine (lw f y fs).2 g (B g λz=>hg ?_)
   show (if g=f then some u else x g)=none;rw[iFN q];exact z
theorem Inv.made (I:Inv X d i H s):Inv X d i (upd (upd H s.heap.objs.size (.own (s.heap.objs.size+1))) (s.heap.objs.size+1) (.ins C s.heap.objs.size []))
  { s with heap:=(s.heap.push qc8).push (qdt C s.heap.objs.size) }:=by
 have t:(s.heap.push qc8).get? s.heap.objs.size=some qc8:=qau s.heap U;have e2:=by
  have:=qau (s.heap.push qc8) (o:=qdt C s.heap.objs.size) U
  rwa [qbk]at this
 refine (I.laid (o:=.own _) (t':=s.toks) (λb u q=>qah _ q) (qap _) ⟨_,t⟩).laid (λb u q=>qah _ q) (qdx (qbk _ _)) ?_;have ne:s.heap.objs.size≠s.heap.objs.size+1:=qaD (qbN _);refine⟨by rw[upd_ne ne,upd_same],qcc _,ne,e2,_,(Heap.Ns1.of_empty ⟨qc8,_,_,t,U,(λe J=>absurd J (by simp)),λ_=>rfl⟩).at λo q=>qah _ q,λ_=>True.intro,λy K=>absurd U K⟩
theorem B5 {prog:qaR}{w:World}{env:Env}{e:Expr}{f:Str}{pos:Pos}{s:qam}{Q:Value->qam->Prop} (hb:qdo e f env (eval e env)=eval e env)
  (h:wpAny (model prog w) A (eval e env) (λo j=>wpAny (model prog w) A (getAttr o f true) Q E j) E s):wpAny (model prog w) A (eval (.Attribute e f pos) env) Q E s:=
 Attribute_any_ h (by rw[arm_eval_Attribute,hb])
end
def Io (K:qae) (c:TE) (f:Str):TE:=λb H Q=>c b H λx H1=>∃ a C d fs v,x=.ref a/\H1 a=some (.ins C d fs)/\Cls K C/\cI K C f/\fs.lookup f=some v/\Q v H1
def Ik (K:qae) (e d:TE) (f:Str):TS:=λD b H=>d b H λy H1=>e b H1 λx H2=>∃ a C c fs,x=.ref a/\H2 a=some (.ins C c fs)/\Cls K C/\cI K C f/\fs.length<1000/\
 D.nx b (upd H2 a (.ins C c (gA f y fs)))
section
variable {X:Cx}{o e b:Expr}{f:Str}{pos g r:Pos}{j p:TE}
theorem Fo (B:PE X e j) (hb:qdo e f X.env (eval e X.env)=eval e X.env):PE X (.Attribute e f pos) (Io X.K j f):=by
 intro d s i H Q I h;refine B5 hb (thn (B d s i H _ I h) λu s1 ⟨x,H1,I1,k,a,C,E,fs,v,ex,m,c,n,l,q⟩=>?_);subst ex;obtain rfl:u=Value.ref a:=k;exact vC I1 m c n l λM F I2 G=>⟨v,H1,I2,G,q⟩
theorem Bb (J:PE X o j) (A:PE X b p) (K:qcM b (some (.Attribute o f g)) pos.line X.env=pure false):PS X (.Assign [.Attribute o f g] b pos) (Ik X.K j p f):=by
 intro d s i H D I h;refine plainObj_wpAny_Assign_Attribute (thn (A d s i H _ I h) λu s1 ⟨y,H1,I1,w,q⟩=>thn (J d s1 i H1 _ I1 q) λt F ⟨x,H2,I2,k,a,C,E,fs,ex,m,c,n,l,z⟩=>?_) K;subst ex;obtain rfl:t=Value.ref a:=k;exact wv I2 m c n l w λL I3=>⟨i,_,I3,z⟩
end
section
variable {X:Cx}{a:List (Addr×Obj)}{d:St}{H:Hp}{s:qam}{A:qaZ}{E:Value->qam->Prop}{Q:Value->qam->Prop}{c:Value}{b:Bool}
end
structure bH (k:Nat) (A:qaZ):Prop where
 hd:A.handled=none
 dp:A.depth+3*k+5<qj4
 un:A.units+16*k+200<cLine
 gd:A.guards=some []
theorem bH.mono {j k:Nat}{A:qaZ} (r:bH k A) (h:j<=k):bH j A:=⟨r.hd,by have:=r.dp;lia,by have:=r.un;lia,r.gd⟩
theorem bH.deeper {k:Nat}{A:qaZ} (r:bH (k+1) A) (env:Env):bH k (A.deeper env):=
 ⟨r.hd,by have:=r.dp;show A.depth+1+3*k+5<_;lia,by have:=r.un;show A.units+3+16*k+200<_;lia,r.gd⟩
theorem vW {A:qaZ}{C:Addr}{a:List Value}{b:List (Str×Value)}:(A.under (.builtin "type.__call__" ⟨.ref C::a,b⟩)).depth=A.depth+1:=by
 first|rfl|simp[qgA,Code.weight,Code.isCreation,qiO,Code.isCaller,qjK,qiP,guardIds]
theorem vX {A:qaZ}{C:Addr}{a:List Value}{b:List (Str×Value)}:(A.under (.builtin "type.__call__" ⟨.ref C::a,b⟩)).units=A.units+1:=by
 first|rfl|simp[qgA,Code.cUnits,qjK,qiP]
theorem bH.make {k:Nat}{A:qaZ} (r:bH (k+1) A) (C:Addr) (a:List Value) (b:List (Str×Value)):bH k (A.under (.builtin "type.__call__" ⟨.ref C::a,b⟩)):=
 ⟨r.hd,by have:=r.dp;rw[vW];lia,by have:=r.un;rw[vX];lia,by
  unfold qgA
  simp[r.gd,pushGuards,Code.guards,qiO,guardIds]⟩
theorem bH.depth {k:Nat}{A:qaZ} (r:bH k A):A.depth<qj4:=by have:=r.dp;lia
theorem bH.units {k:Nat}{A:qaZ} (r:bH k A):A.units+64<cLine:=by have:=r.un;lia
theorem bH.units0 {k:Nat}{A:qaZ} (r:bH k A):A.units<cLine:=by have:=r.un;lia
def Iv:TA:=λ_ H Q=>Q [] H
def Hr (b:TE) (c:TA):TA:=λa H Q=>b a H λx H1=>c a H1 λxs H2=>Q (x::xs) H2
section
variable {X:Cx}{e:Expr}{es:List Expr}{te:TE}{t:TA}{pos:Pos}
theorem rZ:PA X [] Iv:=λ_ _ _ _ H Q I h=>Calls.spliced_nil ⟨_,H,I,.nil,h⟩
theorem mV (n:PE X e te) (i:PA X es t) (k:qbA (e::es) X.env=(false,eval e X.env)::qbA es X.env:=by rfl):PA X (e::es) (Hr te t):=by
 intro pos a s c H Q I h;rw[k];refine Calls.spliced_cons (thn (n a s c H _ I h) λu s1 ⟨x,H1,I1,j,m⟩=>?_);exact thn (i pos a s1 c H1 _ I1 m) λd o ⟨xs,H2,I2,l,g⟩=>⟨_,H2,I2,.cons j l,g⟩
def IB (t:TA):TE:=λc H Q=>t c H λxs H1=>xs.length<=qaN/\∀ p,H1 p=none->Q (.ref p) (upd H1 p (.tup xs))
def Iu (t:TA):TE:=λc H Q=>t c H λxs H1=>xs.length<=qaN/\∀ p,H1 p=none->Q (.ref p) (upd H1 p (.lst xs))
theorem Fv {x1} (h:PA X es t):PE X (.Tuple es x1 pos) (IB t):=by
 intro a s c H Q I f;refine wpAny_Tuple_spliced (thn (h pos a s c H _ I f) λd s1 ⟨xs,H1,I1,r,z,q⟩=>⟨by rw[<-r.length];exact z,?_⟩);refine⟨.ref s1.heap.objs.size,_,I1.laid (λb u e=>qah _ e) (qap _) ?_,U,q _ (I1.hok.fresh (qap _))⟩;exact⟨z,d,r,fQ.new _ _⟩
theorem Fq (h:PA X es t):PE X (.List es pos) (Iu t):=by
 intro a s c H Q I f;refine wpAny_List_spliced (thn (h pos a s c H _ I f) λd s1 ⟨xs,H1,I1,r,z,q⟩=>⟨by rw[<-r.length];exact z,?_⟩);refine⟨.ref s1.heap.objs.size,_,I1.laid (λb u e=>qah _ e) (qap _) ?_,U,q _ (I1.hok.fresh (qap _))⟩;exact⟨z,d,0,r,qau _ U⟩
end
abbrev Sp:=List V->Hp->VK->XK->Prop
abbrev CXT:=List Env->Hp->qam->XK->Value->qam->Prop
structure yG (P:qaR) (w:World) (K:qae) (mg:Str->Option Value) (base:Heap) (A:qaZ) (outer:List Env) (s:qam) (H:Hp):Prop where
 frames:A.frames=some outer
 mod:Mod K mg base
 bs:∀ b o,base.get? b=some o->s.heap.get? b=some o/\H b=none
 bsz:base.objs.size<=s.heap.objs.size
 funs:s.heap.FunFrames base outer
 frf:∀ b∈frs outer,H b=none
 hok:HOk P w H s.heap
 bare:qfH s.gens
def CE (outer:List Env) (P:qaR) (w:World) (H:Hp) (s:qam) (Q:VK) (u:Value) (s':qam):Prop:=
 ∃ v H',s'.os=s.os/\qfH s'.gens/\Un (frs outer) [] H H' s.heap s'.heap/\HOk P w H' s'.heap/\aR v u/\Q v H'
def CR (CX:CXT) (outer:List Env) (P:qaR) (w:World) (H:Hp) (s:qam) (Q:VK) (E:XK) (r:qhE) (s':qam):Prop:=
 match r with
 |.ok (.ret u)=>CE outer P w H s Q u s'
 |.ok _=>False
 |.error e=>CX outer H s E e s'
structure dU (P:qaR) (w:World) (K:qae) (mg:Str->Option Value) (base:Heap) (CX:CXT) (k:Nat) (f:Addr) (fd:qcd) (ps:List Str) (sp:Sp):Prop where
 len:∀ vs H Q E,sp vs H Q E->vs.length=ps.length
 run:∀ (A:qaZ) (outer:List Env) (s:qam) (H:Hp) (args:Args) (us:List Value) (vs:List V) (Q:VK) (E:XK),bH k A->yG P w K mg base A outer s H->qhn s fd args (ps.zip us)->aJ vs us->sp vs H Q E->
  qdM (model P w) A (.call (.ref f) args) (CR CX outer P w H s Q E) s
theorem dU.mono {P:qaR}{w:World}{K:qae}{mg:Str->Option Value}{base:Heap}{CX:CXT}{j k:Nat}{f:Addr}{fd:qcd}{ps:List Str}{sp:Sp} (F:dU P w K mg base CX j f fd ps sp) (h:j<=k) :
  dU P w K mg base CX k f fd ps sp:=⟨F.len,λA outer s H args a b Q E c=>F.run A outer s H args a b Q E (c.mono h)⟩
theorem yG.make {P:qaR}{w:World}{K:qae}{mg:Str->Option Value}{base:Heap}{A:qaZ}{outer:List Env}{s:qam}{H:Hp} (e:yG P w K mg base A outer s H) (C:Addr) (a:List Value) (b:List (Str×Value)) :
  yG P w K mg base (A.under (.builtin "type.__call__" ⟨.ref C::a,b⟩)) outer s H:=⟨by first|exact e.frames|(simpa  using e.frames),e.mod,e.bs,e.bsz,e.funs,e.frf,e.hok,e.bare⟩
section
variable {X:Cx}{a:List (Addr×Obj)}{c:St}{H:Hp}{s s':qam}
theorem Inv.env0 (I:Inv X a c H s):yG X.prog X.w X.K X.mg X.base X.A X.stack s H:=
 ⟨I.ok.frames,I.ok.mod,I.bs,qaM I.ok.bsz I.sz,I.stack,I.stkFree,I.hok,I.bare⟩
theorem Inv.after {Q:VK}{u:Value} (I:Inv X a c H s) (h:CE X.stack X.prog X.w H s Q u s'):EP X a c Q u s':=by
 obtain⟨v,H',os,bare,un,hok,r,q⟩:=h;obtain⟨f,g,d,t,e⟩:=s';obtain rfl:e=s.os:=os;exact⟨v,H',I.call un hok bare (λb z=>absurd z (by simp)),r,q⟩
end
def Hq (sp:Sp) (a:List V) (E:XK) (t:TA):TE:=λb H Q=>t b H λc H1=>sp (c++a) H1 Q E
def Hw (C:Addr) (sp:Sp) (b:List V) (E:XK) (t:TA):TE:=λc H Q=>t c H λd H1=>∀ x a,H1 x=none->H1 a=none->a≠x->
 sp (.ref x::(d++b)) (upd (upd H1 a (.own x)) x (.ins C a [])) (λv H2=>v=.non/\Q (.ref x) H2) E
def dD (K:qae) (fd:qcd) (ps:List Str) (ds:List Value):Prop:=
 ∀ (s:qam) (a:List Value),K.In s.heap->(a++ds).length=ps.length->qhn s fd ⟨a,[]⟩ (ps.zip (a++ds))
theorem dD.all {K:qae}{fd:qcd}{ps:List Str} (h:∀ a:List Value,a.length=ps.length->bindArgs fd ⟨a,[]⟩=pure (ps.zip a)):dD K fd ps []:=λs a _ b=>by
 rw[qcg]at b ⊢;exact .of_eq (h a b)
def m6 (CX:CXT) (X:Cx) (E:XK):Prop:=∀ (a:List (Addr×Obj)) (b:St) (H:Hp) (s:qam) (e:Value) (s':qam),Inv X a b H s->CX X.stack H s E e s'->X.xe e s'
section
variable {X:Cx}{CX:CXT}{k:Nat}{f C:Addr}{fd:qcd}{ps:List Str}{sp:Sp}{b:List V}{ds:List Value}{E:XK}{x m:Str}{p pos L:Pos}{e o:Expr}{es:List Expr}{S:TE}{t:TA}
theorem FM {a:List (Addr×Obj)}{c:St}{H:Hp}{s:qam}{Q:VK}{d:List Value}{n:List V} (F:dU X.prog X.w X.K X.mg X.base CX k f fd ps sp) (j:bH k X.A) (hb:dD X.K fd ps ds) (hd:aJ b ds) (l:m6 CX X E)
  (I:Inv X a c H s) (r:aJ n d) (h:sp (n++b) H Q E):wpAny (model X.prog X.w) X.A (call (.ref f) d) (EP X a c Q) X.xe s:=by
 have z:=r.append hd;have B:(d++ds).length=ps.length:=by rw[<-z.length];exact F.len _ _ _ _ h
 refine qix (qgg (F.run X.A X.stack s H _ _ _ Q E j I.env0 (hb s d I.kIn B) z h) λr s' i=>?_);cases r with
 |error e=>exact l a c H s e s' I i
 |ok fl=>
  cases fl with
  |ret u=>exact I.after i
  |next=>exact qcP i
  |brk=>exact qcP i
  |cont=>exact qcP i
theorem x9 (F:dU X.prog X.w X.K X.mg X.base CX k f fd ps sp) (j:bH k X.A) (hg:Gl X x) (D:X.mg x=some (.ref f)) (P:qcT X.K (.ref f)=true) (hb:dD X.K fd ps ds) (hd:aJ b ds) (l:m6 CX X E)
  (J:PA X (e::es) t) (w:(x==("__debug__" : Str))=false:=by decide) (G:qbA (e::es) X.env=(false,eval e X.env)::qbA es X.env:=by rfl) (y:(qfh pos (qbA es X.env)).any (·.1)=false:=by rfl) :
  PE X (.Call (.Name x p) (e::es) [] pos) (Hq sp b E t):=by
 intro a s c H Q I h;refine qeu (xE I hg D ?_ w);refine qgO I.ok.mod.kin P (thn (J pos a s c H _ I h) λd s1 ⟨n,H1,I1,r,q⟩=>⟨I1.kIn,?_⟩) G y;exact FM F j hb hd l I1 r q
structure Mk (K:qae) (C f:Addr):Prop where
 makes:qfB K C=true
 init:qcy K (.ref C) "__init__" = some (some (.ref f))
 fn:qhR K (.ref f)=true
 kp:qcT K (.ref C)=true
theorem Bv {a:List (Addr×Obj)}{c:St}{H:Hp}{s:qam}{Q:VK}{d:List Value}{n:List V} (M:Mk X.K C f) (F:dU X.prog X.w X.K X.mg X.base CX k f fd ps sp) (j:bH (k+1) X.A) (hb:dD X.K fd ps ds) (hd:aJ b ds)
  (l:m6 CX X E) (I:Inv X a c H s) (r:aJ n d)
  (h:∀ x A,H x=none->H A=none->A≠x->sp (.ref x::(n++b)) (upd (upd H A (.own x)) x (.ins C A [])) (λv H2=>v=.non/\Q (.ref x) H2) E) :
  wpAny (model X.prog X.w) X.A (call (.ref C) d) (EP X a c Q) X.xe s:=by
 have i:=h _ s.heap.objs.size (I.hok.fresh (qdc _)) (I.hok.fresh (qap _)) (qaD (qbN _));have I2:=Inv.made (C:=C) I;have z:aJ (V.ref (s.heap.objs.size+1)::_) _:=.cons U (r.append hd);have B:=by
  have e:=z.length;rw[F.len _ _ _ _ i]at e;exact e.symm
 refine qix (Az I.kIn M.makes M.init (beq_iff_eq.mp M.fn) (qgg (F.run _ X.stack _ _ _ _ _ _ E (j.make C d [])
  (I2.env0.make C d []) (hb _ _ I2.kIn B) z i) λr s' g=>?_))
 cases r with
 |error e=>exact l a c _ _ e s' I2 g
 |ok fl=>
  cases fl with
  |ret u=>
   obtain⟨v,H',I3,N,R,O⟩:=I2.after g;subst R;exact⟨N,⟨V.ref _,H',I3,U,O⟩⟩
  |next=>exact qcP g
  |brk=>exact qcP g
  |cont=>exact qcP g
theorem C0 (M:Mk X.K C f) (F:dU X.prog X.w X.K X.mg X.base CX k f fd ps sp) (j:bH (k+1) X.A) (hg:Gl X x) (D:X.mg x=some (.ref C)) (hb:dD X.K fd ps ds) (hd:aJ b ds) (l:m6 CX X E)
  (J:PA X (e::es) t) (w:(x==("__debug__" : Str))=false:=by decide) (G:qbA (e::es) X.env=(false,eval e X.env)::qbA es X.env:=by rfl) (y:(qfh pos (qbA es X.env)).any (·.1)=false:=by rfl) :
  PE X (.Call (.Name x p) (e::es) [] pos) (Hw C sp b E t):=by
 intro a s c H Q I h;refine qeu (xE I hg D ?_ w);refine qgO I.ok.mod.kin M.kp (thn (J pos a s c H _ I h) λd s1 ⟨n,H1,I1,r,q⟩=>⟨I1.kIn,?_⟩) G y;exact Bv M F j hb hd l I1 r q
end
section
variable {X:Cx}{CX:CXT}{k:Nat}{f C:Addr}{fd:qcd}{ps d:List Str}{sp:Sp}{E:XK}{x m:Str}{p pos a b:Pos}{e o:Expr}{es:List Expr}{c:List qh9}{te i:TE}{t j:TA}{nm:Option Str}
variable {g:List Value->List Value->List Value}{h:List V->List V->List V}
end
structure cC (N P:List Str) (sc:Scope):Prop where
 kind:sc.kind=.function
 co:sc.isCoroutine=false
 gen:sc.isGenerator=false
 nd:N.Nodup
 pre:N.take P.length=P
 par:∀ x∈P,sc.names.lookup x=some .local\/sc.names.lookup x=some .cell
 nofree:∀ y∈sc.names,y.2≠.free
theorem pH {kindOf:Str->Option qca}{x:Str}:∀ {binds:List (Str×Value)}{m:Str->Option Value},(∀ v,(x,v)∉binds)->bindL kindOf binds m x=m x
 |[],_,_=>rfl
 |(n,v)::r,m,h=>by
  unfold bindL;rw[pH λw hw=>h w (qak _ hw)];split
  ·have:x≠n:=by rintro rfl;exact h v qag
   simp[this]
  ·rfl
theorem pF {kindOf:Str->Option qca}{x:Str}:∀ {binds:List (Str×Value)}{m:Str->Option Value},(∀ v,(x,v)∉binds)->bindC kindOf binds m x=m x
 |[],_,_=>rfl
 |(n,v)::r,m,h=>by
  unfold bindC;rw[pF λw hw=>h w (qak _ hw)];split
  ·rfl
  ·have:x≠n:=by rintro rfl;exact h v qag
   simp[this]
theorem pG {kindOf:Str->Option qca}{x:Str}{v:Value}:∀ {P:List Str}{a:List Value}{i:Nat}{m:Str->Option Value},P.Nodup->P[i]?=some x->a[i]?=some v->kindOf x=some .local->
  bindL kindOf (P.zip a) m x=some v
 |[],_,_,_,_,h,_,_=>by simp at h
 |_::_,[],_,_,_,_,h,_=>by simp at h
 |p::P,w::a,0,m,nd,b,c,d=>by
  simp at b c;subst b;subst c
  show bindL kindOf ((p,w)::P.zip a) m p=_;unfold bindL;rw[pH λv e=>(qcb.mp nd).1 (qfX e).1,iFP d]
  simp
 |p::P,w::a,i+1,m,nd,b,c,d=>by
  unfold bindL;exact pG (qcb.mp nd).2 (by simpa using b) (by simpa using c) d
theorem pE {kindOf:Str->Option qca}{x:Str}{v:Value}:∀ {P:List Str}{a:List Value}{i:Nat}{m:Str->Option Value},P.Nodup->P[i]?=some x->a[i]?=some v->kindOf x≠some .local->
  bindC kindOf (P.zip a) m x=some v
 |[],_,_,_,_,h,_,_=>by simp at h
 |_::_,[],_,_,_,_,h,_=>by simp at h
 |p::P,w::a,0,m,nd,b,c,d=>by
  simp at b c;subst b;subst c
  show bindC kindOf ((p,w)::P.zip a) m p=_;unfold bindC;rw[pF λv e=>(qcb.mp nd).1 (qfX e).1,iFN d]
  simp
 |p::P,w::a,i+1,m,nd,b,c,d=>by
  unfold bindC;exact pE (qcb.mp nd).2 (by simpa using b) (by simpa using c) d
def i9 (N:List Str) (a:List V):St:=a.map some++qaL (N.length - a.length) none
def gh (CX:CXT) (P:qaR) (w:World) (K:qae) (mg:Str->Option Value) (base:Heap) (N:List Str) (b:Str) (a:Scope) (f:Addr) (d:Value) (A:qaZ) (outer:List Env) (s:qam) (H:Hp) (E:XK):Cx where
 prog:=P
 w:=w
 K:=K
 mg:=mg
 base:=base
 A:=A.deeper (qeL b a s.heap.objs.size f d)
 N:=N
 s₀:=s
 H₀:=H
 env:=qeL b a s.heap.objs.size f d
 outer:=outer
 stack:=qeL b a s.heap.objs.size f d::outer
 ex:=[]
 calm:=true
 fn:=λ_=>true
 pn:=[]
 xe:=λe s'=>wpAny (model P w) (A.deeper (qeL b a s.heap.objs.size f d)) (leaving (qeL b a s.heap.objs.size f d) e) (λ_ c=>CX outer H s E e c) (λg c=>CX outer H s E g c) s'
theorem tQ {a:Scope}{n:Nat}{x:Str} (h:a.names.lookup x=some .cell):∃ c,(qcN n a.names []).lookup x=some c:=by
 exact qcL.mp (qdz a.names n [] (.inl h))
theorem y8 {CX:CXT}{P:qaR}{w:World}{K:qae}{mg:Str->Option Value}{base:Heap}{N ps:List Str}{g:Str}{d:Scope}{f:Addr}{C:Value}{A:qaZ}{outer:List Env}{s s1:qam}{H:Hp}{E:XK}{D:List Value}{l:List V}
  (S:cC N ps d) (hd:A.handled=none) (e0:yG P w K mg base A outer s H) (M:l.length=ps.length) (r:aJ l D)
  (x:InCallC s s.heap.objs.size (bindL (qeL g d s.heap.objs.size f C).kindOf (ps.zip D) λ_=>none) (qcN (s.heap.objs.size+1) d.names []) (bindC (qeL g d s.heap.objs.size f C).kindOf (ps.zip D) λ_=>none) s1) :
  Inv (gh CX P w K mg base N g d f C A outer s H E) [] (i9 N l) H s1:=by
 have L:ps.length<=N.length:=by have:=congrArg qe9 S.pre;rw[qdp]at this;lia
 obtain⟨B,Q,rfl,G⟩:=x.done;have m:∀ b ,b∉(gh CX P w K mg base N g d f C A outer s H E).ex:=λb z=>absurd (show b∈([]) from z) (by simp)
 refine⟨⟨e0.mod,S.kind,U,U,qap _,λy z c B j=>?_,λy o=>?_,λy c _ h=>?_,λ_=>hd,Around.frames_deeper e0.frames,.inr ⟨U,U⟩,λb z=>absurd z (m b),e0.bs,e0.bsz,λb _ _=>m b,λb z=>absurd z (m b),e0.funs,e0.frf⟩,
  rfl,e0.bare,Un.kept G,⟨_,x.toInCall.ns,λi y v B j O=>?_⟩,λy c h=>⟨_,x.cell y c h⟩,e0.hok.fresh (qap _),λy c h=>?_,λp n=>absurd (show p∈([]) from n) (by simp),e0.hok.kept G,?_⟩
 ·exact name_of_addr x.apart (qbu B) (qbu j)
 ·rcases o with o|o
  ·exact tQ o
  ·exact absurd U (S.nofree _ (qbu o))
 ·exact qeX (x.above y c (qbu h))
 ·have hi:i<l.length:=by
   unfold i9 at j;by_cases hi:i<l.length
   ·exact hi
   ·rw[qaO (by simpa using hi)]at j
    rw[qdB]at j;split at j<;>cases j
  have J:l[i]?=some v:=by
   unfold i9 at j;rw[qaI (by simpa using hi),qaF]at j;cases e:l[i]? with
   |none=>rw[e]at j;cases j
   |some a=>rw[e]at j;cases j;rfl
  obtain⟨u,F,I⟩:=r.get J;have n:ps[i]?=some y:=by
   rw[<-S.pre,qgs (by lia)];exact B
  have t:ps.Nodup:=by rw[<-S.pre];exact S.nd.sublist (List.take_sublist _ _)
  refine⟨u,I,?_⟩;rcases S.par y (qby n) with k|k
  ·exact .inl ⟨k,pG t n F k⟩
  ·obtain⟨c,e⟩:=tQ k
   refine .inr ⟨.inl k,c,e,?_⟩;have q:=x.cell y c e;rw[pE t n F (by show d.names.lookup y≠_;rw[k];decide)]at q;exact q
 ·exact e0.hok.fresh (qeX (x.above y c (qbu h)))
 ·unfold i9
  show _=N.length;rw[qav,qaf,qda];lia
theorem Gq {CX:CXT}{P:qaR}{w:World}{K:qae}{mg:Str->Option Value}{base:Heap}{k:Nat}{f:Addr}{name c:Str}{d:Arguments}{body:List Stmt}{a:Scope}{D kV p G g ct I:Value}{F R:Option Addr}
  {z:Array (Option Value)}{N ps:List Str}{sp:Sp} (L:K.lookup f=some ⟨I,R,.func (qdZ name c d body a D kV p G F g ct),z⟩) (B:qfU K g c=true) (S:cC N ps a)
  (len:∀ i H Q E,sp i H Q E->i.length=ps.length)
  (j:∀ (A:qaZ) (outer:List Env) (s:qam) (H:Hp) (i:List V) (Q:VK) (E:XK),bH k (A.deeper (qeL c a s.heap.objs.size f g))->sp i H Q E->
    ∃ t,PSs (gh CX P w K mg base N c a f g A outer s H E) body t/\t { nx:=λ_ H'=>Q .non H',rt:=Q } (i9 N i) H) :
  dU P w K mg base CX (k+1) f (qdZ name c d body a D kV p G F g ct) ps sp:=by
 refine⟨len,λA outer s H args X i Q E C e0 hb r m=>?_⟩;have KX:=e0.mod.kin.keeps λb o e=>(e0.bs b o e).1;refine codeAny_call_function C.depth (KX _ _ L) U S.co S.gen U (PySem.W.codeRec_of KX B) (hb _ _ _ _ ?_)
 refine wpAny_newFunctionEnv_cells S.kind (λ⟨n,v⟩ W=>by
  rcases S.par n (qfX W).1 with q|q
  ·exact .inl q
  ·exact .inr ⟨q,qdz _ _ _ (.inl q)⟩) λenv O s1 x=>?_
 subst O;refine⟨(e0.mod.nolimit.keeps λb o e=>(e0.bs b o e).1).keeps x.toInCall.keep,codeAny_func ?_⟩;obtain⟨t,T,M⟩:=j A outer s H i Q E (C.deeper _) m;refine qcJ (T [] s1 _ H _ (y8 S C.hd e0 (len _ _ _ _ m) r x) M) (λfl s' l=>?_) λe s' l=>l;have fin:∀ {h:St}{H':Hp}{v:V}{u:Value},Inv (gh CX P w K mg base N c a f g A outer s H E) [] h H' s'->aR v u->Q v H'->CE outer P w H s Q u s':=
  λ{h H' v u} J y q=>⟨v,H',J.os,J.bare,J.base,J.hok,y,q⟩
 cases fl with
 |ret u=>
  obtain⟨v,h,H',J,y,q⟩:=l;exact fin J y q
 |next=>
  obtain⟨h,H',J,q⟩:=l;exact fin (v:=V.non) J U q
 |brk=>
  obtain⟨_,_,_,q⟩:=l;exact qcP q
 |cont=>
  obtain⟨_,_,_,q⟩:=l;exact qcP q
section
variable {X:Cx}{x:Str}{p pos:Pos}{e:Expr}{es:List Expr}{t:TA}{id T:String}{r:List V->Hp->VK->Prop}
def tCB (r:List V->Hp->VK->Prop) (t:TA):TE:=λb H Q=>t b H λf H1=>r f H1 Q
theorem oz (q:bO X (.builtin id) r) (hg:Gl X x) (m:X.mg x=none) (k:qcO x=some (.builtin id)) (o:PA X (e::es) t) (j:x≠"__name__":=by decide) (d:(x==("__debug__" : Str))=false:=by decide)
  (l:qbA (e::es) X.env=(false,eval e X.env)::qbA es X.env:=by rfl) (c:(qfh pos (qbA es X.env)).any (·.1)=false:=by rfl):PE X (.Call (.Name x p) (e::es) [] pos) (tCB r t):=by
 intro a s b H Q I h;refine qeu (lx I hg m k ?_ j d);exact qjE (thn (o pos a s b H _ I h) λi s1 ⟨f,H1,I1,g,n⟩=>q a s1 b H1 f i Q I1 g n) l c
theorem dz (q:bO X (.type T) r) (hg:Gl X x) (m:X.mg x=none) (k:qcO x=some (.type T)) (o:PA X (e::es) t) (j:x≠"__name__":=by decide) (d:(x==("__debug__" : Str))=false:=by decide)
  (l:qbA (e::es) X.env=(false,eval e X.env)::qbA es X.env:=by rfl) (c:(qfh pos (qbA es X.env)).any (·.1)=false:=by rfl):PE X (.Call (.Name x p) (e::es) [] pos) (tCB r t):=by
 intro a s b H Q I h;refine qeu (lx I hg m k ?_ j d);exact qcn (thn (o pos a s b H _ I h) λi s1 ⟨f,H1,I1,g,n⟩=>q a s1 b H1 f i Q I1 g n) l c
end
end L2
namespace HT
open PySem PyProof.Rows
section
open PySem.SeqAt
open PySem.AutoSeq1 (wpAny_loadPart')
open PySem.MeetsSeq PySem.MeetsSeq2 PySem.MeetsSeq3
end
section
variable {prog:qaR}{w:World}{A:qaZ}{E:Value->qam->Prop}{s:qam}
theorem cat_tup {t b:Addr}{r ws:List Value}{Q:Value->qam->Prop} (z:IsTup s.heap t r.toArray) (hb:IsTup s.heap b ws.toArray) (D:r≠[])
  (T:ws=[]->Q (.ref t) s) (W:ws≠[]->Q (.ref s.heap.objs.size) { s with heap:=s.heap.push { cls:=.type "tuple",data:=.seq (r++ws).toArray } })
  (C:r.length+ws.length<=qaN):wpAny (model prog w) A (qbI .Add (.ref t) (.ref b)) Q E s:=by
 obtain⟨⟨cls,S,data,l⟩,I,V,n,hd⟩:=id z;obtain⟨⟨P,G,data2,H⟩,f,L,R,K⟩:=id hb;subst V hd L K;have e:r.toArray++ws.toArray=(r++ws).toArray:=by simp
 by_cases hw:ws=[]
 ·exact qhD ⟨_,I,U⟩ ⟨_,f,U⟩ qgo qhd qeo qek (qd9 _ _)
   (tuple_addW1 t b r.toArray ws.toArray n R S G l H (by simpa using D) (by simp[hw])) ⟨I,f,T hw⟩
 ·refine qhD ⟨_,I,U⟩ ⟨_,f,U⟩ qgo qhd qeo qek (qd9 _ _)
   (tuple_addW2 t b r.toArray ws.toArray n R S G l H (by simpa using D) (by simpa using hw) (by exact C)) ⟨I,f,?_⟩
  rw[e];exact W hw
def sIx (n d:Nat):Option Int->Nat
 |none=>d
 |some v=>if v<0 then (v+(n:Int)).toNat else min v.toNat n
theorem sIx_none (n d:Nat):sIx n d none=d:=rfl
theorem sIx_nat (n d k:Nat):sIx n d (some (k:Int))=min k n:=by
 show (if (k)<0 then ((k)+(n:Int)).toNat else min (k:Int).toNat n)=min k n;rw[iFN (by lia),qaE]
theorem Il (n d:Nat) (hd:d<=n) (o:Option Int):sIx n d o<=n:=by
 cases o with
 |none=>exact hd
 |some v=>
  show (if v<0 then (v+_).toNat else min v.toNat n)<=n;by_cases D:v<0
  ·lia
  ·rw[iFN D];exact Nat.min_le_right _ _
theorem wS (v:Int) (n d:Nat):(if v<0 then max (v+(n:Int)) 0 else min v (n:Int))=((sIx n d (some v):Nat):Int):=by
 show _=(((if v<0 then (v+_).toNat else min v.toNat n):Nat):Int);by_cases D:v<0
 ·lia
 ·lia
theorem vi (lo hi:Option Int) (n:Nat):qfl lo hi 1 (n:Int)=(((sIx n 0 lo:Nat):Int),((sIx n n hi:Nat):Int)):=by
 refine Prod.ext ?_ ?_
 ·cases lo with
  |none=>rfl
  |some v=>exact wS v n 0
 ·cases hi with
  |none=>rfl
  |some v=>exact wS v n n
theorem we (i j:Nat):qc4 (i:Int) (j:Int) 1=j - i:=by
 unfold qc4;split<;>lia
theorem oM {v:Value}{o:Option Int}{Q:Option Int->qam->Prop} (p:qgm v o) (h:Q o s):wpAny (model prog w) A (qiS v) Q E s:=by
 cases p with
 |none=>exact qj3 h
 |int i t=>exact slicePart_int h
theorem gD {l:Addr}{B y:Value}{lo hi:Option Int}{n:Nat}{Q:Int×Int×Nat->qam->Prop} (J:s.heap.IsSliceOf l B y .none) (N:qgm B lo) (M:qgm y hi)
  (h:Q (((sIx n 0 lo:Nat):Int),1,sIx n n hi - sIx n 0 lo) s):wpAny (model prog w) A (qiT (.ref l) (pure (n:Int))) Q E s:=by
 obtain⟨os,c,F,g⟩:=id J;refine qac (qac (qci c g (x:=B) U (qac (qci c g (x:=y) U (qac (qci c g U (qaq ?_)))))));refine qac (qj3 ?_);refine qac (oM N (qac (oM M (qac (qaq ?_)))));show wpAny _ _ (match qfl lo hi 1 _ with|(lo,hi)=>pure (lo,_,qc4 lo hi 1)) _ _ s
 rw[vi lo hi n];show wpAny _ _ (pure (_,_,qc4 _ _ 1)) _ _ s;rw[we];exact qaq h
theorem AZ (xs:Array Value) (i k:Nat):((qan k).filterMap λ(m:Nat)=>xs[((i:Int)+(m:Int)*1).toNat]?).toArray=((xs.toList.drop i).take k).toArray:=by
 have e:(λ(m:Nat)=>xs[((i)+(m:Int)*1).toNat]?)=λm=>xs[i+m]?:=by
  funext m
  have:((i)+(m:Int)*1).toNat=i+m:=by lia
  rw[this]
 rw[e]
 have:=pick_run xs i k
 rw[List.filterMap_map]at this;have e2:(_ ∘ λx=>i+x)=λm=>xs[i+m]?:=rfl;rw[e2]at this;rw[this]
theorem getItem_tuple_cut {t l:Addr}{a:Array Value}{B y:Value}{lo hi:Option Int}{Q:Value->qam->Prop} (z:IsTup s.heap t a) (J:s.heap.IsSliceOf l B y .none) (N:qgm B lo) (M:qgm y hi)
  (hw:¬ (sIx a.size 0 lo=0/\sIx a.size a.size hi=a.size))
  (h:Q (.ref s.heap.objs.size) { s with heap:=s.heap.push { cls:=.type "tuple",data:=.seq ((a.toList.drop (sIx a.size 0 lo)).take (sIx a.size a.size hi - sIx a.size 0 lo)).toArray } })
  (C:a.size<=qaN):wpAny (model prog w) A (qfg (.ref t) (.ref l)) Q E s:=by
 have u:=by
  show ((a.toList.drop (sIx a.size 0 lo)).take (sIx a.size a.size hi - sIx a.size 0 lo)).toArray.size<=qaN;rw[qaK,qdp,qeC,qcS];lia
 obtain⟨os,c,F,g⟩:=id J;unfold qfg
 try with_reducible refine qb5 ?_
 refine qac (qiw z.typeIs (by decide) ?_)
 refine qac (qbR z.typeIs qbG
  (qb6 qbG z.typeIs qh4 ?_ (qil _ _)))
 show wpAny _ _ (qfb _ >>= _) _ _ s;refine qac (tupleItemsOf_ z ?_);refine qac (qhz ⟨os,c,F⟩ ?_);refine qac (gD J N M ?_);have O:¬ ((((sIx a.size 0 lo):Int)==0&&(1:Int)==1&&(sIx a.size a.size hi - sIx a.size 0 lo)==a.size)=true):=by
  intro q;exact hw ⟨by lia,by lia⟩
 show wpAny _ _ (if _=true then _ else _) _ _ s;rw[iFN O,AZ]
 first
  |exact qac (qcx (qaq ⟨_,rfl,qaq h⟩) u)
  |exact qac _
  |exact qac _
  |exact qac _
end
end HT
namespace L2
open PySem PySem.Spec PyProof.Rows
abbrev TO:=St->Hp->(Option Int->Hp->Prop)->Prop
def PO (X:Cx) (e:Option Expr) (t:TO):Prop:=
 ∀ (a:List (Addr×Obj)) (s:qam) (b:St) (H:Hp) (Q:Option Int->Hp->Prop),Inv X a b H s->t b H Q->
  wpAny (model X.prog X.w) X.A (evalPart e X.env) (λu s'=>∃ o H',Inv X a b H' s'/\qgm u o/\Q o H') X.xe s
def Dx:TO:=λ_ H Q=>Q none H
def Hy (t:TE):TO:=λa H Q=>t a H λx H1=>∃ i,x=.int i/\Q (some i) H1
theorem eP {ns:List Int}:∀ {a:List Value},aJ (ns.map V.int) a->qcF a ns:=by
 induction ns with
 |nil=>intro a r;cases r;exact .nil
 |cons n ns c=>
  intro a r;cases r with
  |cons d b=>
   obtain⟨t,e⟩:=d;subst e;exact .cons n t (c b)
section
variable {X:Cx}{e:Expr}{te:TE}{lo hi:Option Expr}{tl B:TO}{pos F:Pos}
theorem C5:PO X none Dx:=by
 intro c s d H Q I h;exact qaq ⟨none,H,I,.none,h⟩
theorem C6 (h:PE X e te):PO X (some e) (Hy te):=by
 intro c s d H Q I hw;refine thn (h c s d H _ I hw) λu s1 ⟨x,H1,I1,g,o⟩=>?_;obtain⟨i,rfl,q⟩:=o;obtain⟨t,rfl⟩:=g;exact⟨_,H1,I1,.int i t,q⟩
def SlR (X:Cx) (r:V->Option Int->Option Int->Hp->VK->Prop):Prop:=
 ∀ (c:List (Addr×Obj)) (s:qam) (d:St) (H:Hp) (x:V) (v k j:Value) (lo hi:Option Int) (E:Addr) (Q:VK),Inv X c d H s->aR x v->s.heap.IsSliceOf E k j .none->qgm k lo->qgm j hi->r x lo hi H Q->
  ∃ T id,typeLookup (.type T) "__getitem__" = pure (some (.builtin id))/\s.TypeIs v T/\wpAny (model X.prog X.w) X.A (qfg v (.ref E)) (EP X c d Q) X.xe s
def tSl (r:V->Option Int->Option Int->Hp->VK->Prop) (te:TE) (tl B:TO):TE:=λd H Q=>te d H λx H1=>tl d H1 λl H2=>B d H2 λu H3=>r x l u H3 Q
theorem uO {r:V->Option Int->Option Int->Hp->VK->Prop} (hr:SlR X r) (he:PE X e te) (S:PO X lo tl) (hu:PO X hi B):PE X (.Subscript e (.Slice lo hi none F) pos) (tSl r te tl B):=by
 intro c s d H Q I h;refine qiE (thn (he c s d H _ I h) λv s1 ⟨x,H1,I1,g,o⟩=>?_);refine wpAny_Slice (thn (S c s1 d H1 _ I1 o) λk s2 ⟨l,H2,I2,O,G⟩=>thn (hu c s2 d H2 _ I2 G) λj M ⟨u,H3,I3,J,W⟩=>?_);refine qaq ?_;obtain⟨T,id,hT,C,hg⟩:=hr c { M with heap:=M.heap.push { cls:=.type "slice",data:=.fields #[k,j,.none] } } d H3 x v k j l u M.heap.objs.size Q (I3.kept λb ob q=>qah _ q) g (qiq ..) O J W
 exact tail_any C hT hg (by with_unfolding_all rfl)
def vq (xs:List V) (lo hi:Option Int):List V:=(xs.drop (HT.sIx xs.length 0 lo)).take (HT.sIx xs.length xs.length hi - HT.sIx xs.length 0 lo)
theorem lJ (xs:List V) (lo hi:Option Int):(vq xs lo hi).length<=xs.length:=by
 unfold vq;rw[qdp,qeC];lia
def Ij (K:qae):V->Option Int->Option Int->Hp->VK->Prop:=λx lo hi H Q=>∃ a xs,x=.ref a/\SqT K H a xs/\
 ¬ (HT.sIx xs.length 0 lo=0/\HT.sIx xs.length xs.length hi=xs.length)/\∀ p,H p=none->Q (.ref p) (upd H p (.tup (vq xs lo hi)))
theorem FP:SlR X (Ij X.K):=by
 intro c s d H x v k j lo hi E Q I N hs O J h;obtain⟨a,xs,rfl,L,hw,q⟩:=h;cases N;obtain⟨A,r,C,n⟩:=I.tuple L;have f:A.toArray.size=xs.length:=by exact r.length.symm
 refine⟨"tuple",_,qbG.lookup,C.typeIs,?_⟩
 refine HT.getItem_tuple_cut C hs O J (by rw[f];exact hw) ?_ (by rw[f];exact n);rw[f];refine⟨.ref s.heap.objs.size,_,I.laid (λb ob q=>qah _ q) (qap _) ?_,U,q _ (I.hok.fresh (qap _))⟩;exact⟨qaM (lJ xs lo hi) n,_,(r.drop _).take _,fQ.new _ _⟩
def Hb (K:qae):R2:=λx y H Q=>∃ a b xs m,x=.ref a/\y=.ref b/\SqT K H a xs/\SqT K H b m/\xs≠[]/\xs.length+m.length<=qaN/\
 (m=[]->Q (.ref a) H)/\(m≠[]->∀ p,H p=none->Q (.ref p) (upd H p (.tup (xs++m))))
theorem aJ.nil_iff {xs:List V}{P:List Value} (r:aJ xs P):P=[]↔xs=[]:=by
 cases r with
 |nil=>simp
 |cons _ _=>simp
theorem CO:OpR X (qbI .Add) (Hb X.K):=by
 intro c s d H x y v u Q I N Y h;obtain⟨a,b,xs,m,rfl,rfl,ha,hb,L,n,o,G⟩:=h;cases N;cases Y;obtain⟨A,g,p1,_⟩:=I.tuple ha;obtain⟨R,D,F,_⟩:=I.tuple hb;refine HT.cat_tup p1 F (λz=>L (g.nil_iff.mp z)) (λz=>⟨.ref a,H,I,U,o (D.nil_iff.mp z)⟩) (λz=>?_) (by rw[<-g.length,<-D.length];exact n);refine⟨.ref s.heap.objs.size,_,I.laid (λb ob q=>qah _ q) (qap _) ?_,U,G (λw=>z (D.nil_iff.mpr w)) _ (I.hok.fresh (qap _))⟩;exact⟨by rw[qav];exact n,_,g.append D,fQ.new _ _⟩
end
def ixN (n:Nat) (i:Int):Option Nat:=if 0<=i then (if i<n then some i.toNat else none) else if -(n:Int)<=i then some (i+n).toNat else none
def atI {α:Type} (xs:List α) (i:Int):Option α:=(ixN xs.length i).bind λj=>xs[j]?
theorem mO {n:Nat}{i:Int}{j:Nat} (h:ixN n i=some j):qjO i n=some j/\j<n/\-(n:Int)<=i/\i<n:=by
 unfold ixN at h;by_cases b:0<=i
 ·rw[iFP b]at h
  by_cases a:i<n
  ·rw[iFP a]at h
   exact⟨by rw[qh0 b a,(qaQ h)],by lia,by lia,a⟩
  ·rw[iFN a]at h;cases h
 ·rw[iFN b]at h
  by_cases a:-(n)<=i
  ·rw[iFP a]at h
   exact⟨by rw[qhB (by lia) a,(qaQ h)],by lia,a,by lia⟩
  ·rw[iFN a]at h;cases h
theorem ql {α:Type}{xs:List α}{i:Int}{v:α} (h:atI xs i=some v):∃ j,qjO i xs.length=some j/\xs[j]?=some v/\j<xs.length/\-(xs.length:Int)<=i/\i<xs.length:=by
 unfold atI at h;cases e:ixN xs.length i with
 |none=>rw[e]at h;cases h
 |some j=>
  rw[e]at h;obtain⟨b,c,d,a⟩:=mO e;exact⟨j,b,h,c,d,a⟩
theorem bS {α:Type}{xs:List α}{j:Nat}{v:α} (h:xs[j]?=some v):atI xs (j:Int)=some v:=by
 have a:=(qat.mp h).1;have e:ixN xs.length (j)=some j:=by
  unfold ixN;rw[iFP (by lia),iFP (by lia)];simp
 unfold atI;rw[e];exact h
theorem tm {α:Type} (xs:List α) (v:α):atI (xs++[v]) (-1)=some v:=by
 have a:(xs++[v]).length=xs.length+1:=by simp
 have e:ixN (xs++[v]).length (-1)=some xs.length:=by
  unfold ixN;rw[iFN (by decide),iFP (by lia)]
  congr 1
  lia
 unfold atI;rw[e]
 simp
def wL (b:Expr):Prop:=∀ o i,qgD b false o i=operate [o,i] (qfg o i)
def IxR (X:Cx) (r:R2):Prop:=
 ∀ (c a:Expr) (b:List (Addr×Obj)) (s:qam) (d:St) (H:Hp) (x y:V) (v u:Value) (Q:VK),Inv X b d H s->aR x v->aR y u->r x y H Q->
  qgD a false v u=operate [v,u] (qfg v u)->wpAny (model X.prog X.w) X.A (subscriptTail c a v u) (EP X b d Q) X.xe s
def MtR (X:Cx) (id:String) (r:V->List V->Hp->VK->Prop):Prop:=
 ∀ (a:List (Addr×Obj)) (s:qam) (b:St) (H:Hp) (x:V) (xs:List V) (v:Value) (c:List Value) (Q:VK),Inv X a b H s->aR x v->aJ xs c->r x xs H Q->
  wpAny (model X.prog X.w) X.A (call (.builtin id) (v::c)) (EP X a b Q) X.xe s
section
variable {X:Cx}{a b:Expr}{ta tb:TE}{pos:Pos}
theorem IxR.or {r O:R2} (h:IxR X r) (h':IxR X O):IxR X (λx y H Q=>r x y H Q\/O x y H Q):=by
 intro L J g s B H x y v u Q I m P q R;rcases q with q|q
 ·exact h L J g s B H x y v u Q I m P q R
 ·exact h' L J g s B H x y v u Q I m P q R
theorem D2 {r:R2} (hr:IxR X r) (ha:PE X a ta) (hb:PE X b tb) (R:wL b):PE X (.Subscript a b pos) (tOp r ta tb):=by
 intro g s B H Q I h;exact qiE (Ew ha hb I h λv u s2 x y H2 I2 m P q=>hr a b g s2 B H2 x y v u Q I2 m P q (R _ _))
def Hc (K:qae):R2:=λx y H Q=>∃ p xs i v,x=.ref p/\y=.int i/\SqL K H p xs/\atI xs i=some v/\Q v H
def Hf (K:qae):R2:=λx y H Q=>∃ p xs i v,x=.ref p/\y=.int i/\SqT K H p xs/\atI xs i=some v/\Q v H
def He:R2:=λx y H Q=>∃ z i c,x=.str z/\y=.int i/\z.length<=qaN/\atI z.cps.toList i=some c/\Q (.str ⟨#[c]⟩) H
theorem Cw:IxR X (Hc X.K):=by
 intro L J g s B H x y v u Q I m P h R;obtain⟨p,xs,i,z,rfl,rfl,C,he,q⟩:=h;cases m;obtain⟨t,rfl⟩:=P;obtain⟨d,r,D,M⟩:=I.list C;obtain⟨j,N,h2,h3,h4,h5⟩:=ql he;obtain⟨w,ew,rw'⟩:=r.get h2;have hl:=r.length;have hn:=ly;have fin:EP X g B Q w s:=⟨z,H,I,rw',q⟩;by_cases h0:0<=i
 ·have hj:=by
   rw[qh0 h0 h5]at N;exact qaQ N
  exact item_listR D.isList h0 (by lia) (by rw[hj];simpa using ew) fin R
 ·have hj:(i+(d.toArray.size)).toNat=j:=by
   rw[qhB (by lia) h4]at N;rw[qaK,<-hl];exact qaQ N
  exact qho D.isList.typeIs qiA.lookup
   (wpAny_getItem_list_neg D.isList (by lia) (by rw[qaK]<;>lia) (by lia) (by rw[hj];simpa using ew) ⟨U,fin⟩) R
theorem ER:IxR X (Hf X.K):=by
 intro L J g s B H x y v u Q I m P h R;obtain⟨p,xs,i,z,rfl,rfl,C,he,q⟩:=h;cases m;obtain⟨t,rfl⟩:=P;obtain⟨d,r,D,M⟩:=I.tuple C;obtain⟨j,N,h2,h3,h4,h5⟩:=ql he;obtain⟨w,ew,rw'⟩:=r.get h2;have hn:=ly;exact qho D.typeIs slot_tuple_getitem.lookup
  (getItem_tuple D (by lia) (by lia) (by rw[qaK,<-r.length];exact N) (by simpa using ew) ⟨U,⟨z,H,I,rw',q⟩⟩) R
theorem EQ:IxR X He:=by
 intro L J g s B H x y v u Q I m P h R;obtain⟨z,i,c,rfl,rfl,M,he,q⟩:=h;obtain⟨t,rfl⟩:=m;obtain⟨t',rfl⟩:=P;obtain⟨j,N,h2,h3,h4,h5⟩:=ql he;have hl:z.cps.toList.length=z.length:=by simp[Str.length]
 rw[hl]at N h4 h5;have hn:=ly
 exact tail_any (typeIs_str s z t) slot_str_getitem.lookup (getItem_str (by
  rw[(decide_eq_false (by lia)),(decide_eq_false (by lia)),Bool.or_false]) (by rw[N];simpa using h2) ⟨.str _,H,I.tok _,⟨_,U⟩,q⟩) R
def rIx (K:qae):R2:=λx y H Q=>Hc K x y H Q\/Hf K x y H Q\/He x y H Q
theorem vI:IxR X (rIx X.K):=Cw.or (ER.or EQ)
theorem vY (d:List Value) (n j:Nat) (u:Value):qcX (·.setIfInBounds j u) { cls:=.type "list",data:=.seq d.toArray n }={ cls:=.type "list",data:=.seq (d.set j u).toArray n }:=by
 simp[qcX]
theorem Inv.lst {g:List (Addr×Obj)}{B:St}{H:Hp}{s:qam}{p:Addr}{xs:List V} (I:Inv X g B H s) (h:H p=some (.lst xs)) :
  ∃ (d:List Value) (n:Nat),aJ xs d/\s.heap.get? p=some { cls:=.type "list",data:=.seq d.toArray n }/\xs.length<=qaN:=by
 obtain⟨z,d,n,r,e⟩:=I.hok p _ h;exact⟨d,n,r,e,z⟩
theorem Inv.lstUpd {g:List (Addr×Obj)}{B:St}{H:Hp}{s:qam}{p:Addr}{xs F:List V}{d W:List Value}{n n':Nat}{f:Obj->Obj} (I:Inv X g B H s) (h:H p=some (.lst xs))
  (ho:s.heap.get? p=some { cls:=.type "list",data:=.seq d.toArray n }) (hf:f { cls:=.type "list",data:=.seq d.toArray n }={ cls:=.type "list",data:=.seq W.toArray n' }) (r:aJ F W) (M:F.length<=qaN) (t:Nat) :
  Inv X g B (upd H p (.lst F)) { s with heap:=s.heap.update p f,toks:=t }:=by
 have e:(s.heap.update p f).get? p=some { cls:=.type "list",data:=.seq W.toArray n' }:=by
  rw[qch f ho (by rw[hf]<;>rfl),hf]
 refine I.write (by rw[h];trivial) (.inl U) (λb u hb q=>(qaT _ _ (qbr hb)).trans q) ⟨_,e⟩ ?_;exact⟨M,W,n',r,e⟩
def Hh:V->V->V->Hp->(Hp->Prop)->Prop:=λo i v H Q=>∃ p xs k j,o=.ref p/\i=.int k/\H p=some (.lst xs)/\ixN xs.length k=some j/\Q (upd H p (.lst (xs.set j v)))
theorem oK:Gb X Hh:=by
 intro g s B H o i v ov iv u Q I ro ri rv h;obtain⟨p,xs,k,j,rfl,rfl,hp,hj,q⟩:=h;cases ro;obtain⟨t,rfl⟩:=ri;obtain⟨d,n,r,ho,M⟩:=I.lst hp;obtain⟨N,h2,h3,h4⟩:=mO hj;have hl:=r.length;have hn:=ly;have I':=
  I.lstUpd hp ho (vY d n j u) (r.set rv j) (by rw[qb2];exact M) s.toks
 by_cases h0:0<=k
 ·have hk:=by
   rw[qh0 h0 h4]at N;exact qaQ N
  exact PySem.W.ki_setAt ho h0 (by lia) (by rw[qaK,<-hl];exact h4) (by rw[hk];exact⟨_,I',q⟩)
 ·have hk:(k+(d.toArray.size)).toNat=j:=by
   rw[qhB (by lia) h3]at N;rw[qaK,<-hl];exact qaQ N
  exact PySem.W.ki_setBack ho (by lia) (by rw[qaK,<-hl];exact h3) (by lia) (by rw[hk];exact⟨_,I',q⟩)
theorem sB (lo hi:Option Int) (n:Nat):(qei lo hi none n).1=((HT.sIx n 0 lo:Nat):Int)/\(qei lo hi none n).2.1=((HT.sIx n n hi:Nat):Int)/\(qei lo hi none n).2.2=1:=by
 refine⟨?_,?_,U⟩
 ·cases lo with
  |none=>simp[qei,HT.sIx]
  |some i=>
   simp only[qei,HT.sIx,qhk,show (1:Int) > 0 by decide,if_true];by_cases h:i<0
   ·simp only[h,if_true]<;>lia
   ·simp only[h,if_false]<;>lia
 ·cases hi with
  |none=>simp[qei,HT.sIx]
  |some i=>
   simp only[qei,HT.sIx,qhk,show (1:Int) > 0 by decide,if_true];by_cases h:i<0
   ·simp only[h,if_true]<;>lia
   ·simp only[h,if_false]<;>lia
theorem pv (d:List Value) (lo hi:Option Int):slicePick d.toArray lo hi none=((d.drop (HT.sIx d.length 0 lo)).take (HT.sIx d.length d.length hi - HT.sIx d.length 0 lo)).toArray:=by
 obtain⟨N,h2,h3⟩:=sB lo hi d.toArray.size;unfold slicePick;rw[N,h2,h3];simp only[sliceRange_one,pick_run,qaK]<;>rfl
def Ii (K:qae):V->Option Int->Option Int->Hp->VK->Prop:=λx lo hi H Q=>∃ a xs,x=.ref a/\SqL K H a xs/\∀ p,H p=none->Q (.ref p) (upd H p (.lst (vq xs lo hi)))
theorem Ds:SlR X (Ii X.K):=by
 intro g s B H x v vl vu lo hi sl Q I m R D pu h;obtain⟨a,xs,rfl,hx,q⟩:=h;cases m;obtain⟨d,r,ht,M⟩:=I.list hx;have E:=r.length;refine⟨"list",_,qiA.lookup,ht.isList.typeIs,?_⟩
 refine wpAny_getItem_list_slice ht.isList R D pu .none (by simp) ?_ (by rw[qaK]<;>lia);rw[pv,<-E];refine⟨.ref s.heap.objs.size,_,I.laid (λb ob q=>qah _ q) (qap _) ?_,U,q _ (I.hok.fresh (qap _))⟩;exact⟨qaM (lJ xs lo hi) M,_,0,(r.drop _).take _,qau _ U⟩
def fF:V->Bool
 |.non=>true
 |.bl _=>true
 |.int _=>true
 |.str _=>true
 |_=>false
def eqV:V->V->Bool
 |.non,.non=>true
 |.bl a,.bl b=>a==b
 |.bl a,.int b=>(if a then 1 else 0)==b
 |.int a,.bl b=>a==(if b then 1 else 0)
 |.int a,.int b=>a==b
 |.str a,.str b=>a==b
 |_,_=>false
theorem vA {A:qaZ}{s:qam}{y x:V}{u v:Value} (P:aR y u) (m:aR x v) (fy:fF y=true) (fx:fF x=true):qej A s u v (eqV y x):=by
 cases y with
 |non=>
  cases P;cases x with
  |non=>cases m;exact qfn _
  |bl b=>cases m;exact qkW b
  |int b=>obtain⟨t,rfl⟩:=m;exact qkV b t
  |str b=>obtain⟨t,rfl⟩:=m;exact qkT b t
  |_=>exact absurd (fx) qa7
 |bl a=>
  cases P;cases x with
  |non=>cases m;exact qk9 a
  |bl b=>cases m;exact qlc a b
  |int b=>obtain⟨t,rfl⟩:=m;exact qlb a b t
  |str b=>obtain⟨t,rfl⟩:=m;exact qk8 a b t
  |_=>exact absurd (fx) qa7
 |int a=>
  obtain⟨t',rfl⟩:=P;cases x with
  |non=>cases m;exact qk3 a t'
  |bl b=>cases m;exact qk6 a t' b
  |int b=>obtain⟨t,rfl⟩:=m;exact qk5 a t' b t
  |str b=>obtain⟨t,rfl⟩:=m;exact qgq a t' b t
  |_=>exact absurd (fx) qa7
 |str a=>
  obtain⟨t',rfl⟩:=P;cases x with
  |non=>cases m;exact qkP a t'
  |bl b=>cases m;exact qkR a t' b
  |int b=>obtain⟨t,rfl⟩:=m;exact qgp a t' b t
  |str b=>obtain⟨t,rfl⟩:=m;exact qkO a t' b t
  |_=>exact absurd (fx) qa7
 |_=>exact absurd (fy) qa7
def eqU (x:V) (u:Value):Bool:=match u with
 |.none=>eqV .non x
 |.bool b=>eqV (.bl b) x
 |.int i _=>eqV (.int i) x
 |.str z _=>eqV (.str z) x
 |_=>false
theorem z7 {x y:V}{u:Value} (r:aR y u) (f:fF y=true):eqU x u=eqV y x:=by
 cases y with
 |non=>cases r;rfl
 |bl b=>cases r;rfl
 |int i=>obtain⟨t,rfl⟩:=r;rfl
 |str z=>obtain⟨t,rfl⟩:=r;rfl
 |_=>exact absurd (f) qa7
theorem qi {x:V}:∀ {xs:List V}{Y:List Value},aJ xs Y->xs.all fF=true->Y.any (eqU x)=xs.any λy=>eqV y x
 |_,_,.nil,_=>rfl
 |y::xs,u::Y,.cons r t,f=>by
  rw[qbD,qbg]at f;rw[qcB,qcB,z7 r f.1,qi t f.2]
theorem ot {A:qaZ}{s:qam}{x:V}{v:Value} (m:aR x v) (fx:fF x=true):∀ {xs:List V}{Y:List Value},aJ xs Y->xs.all fF=true->∀ u∈Y,qej A s u v (eqU x u)
 |_,_,.nil,_=>λu hu=>by cases hu
 |y::xs,u::Y,.cons r t,f=>λu' hu=>by
  rw[qbD,qbg]at f;rcases qaA.mp hu with rfl|hu
  ·rw[z7 r f.1];exact vA r m f.1 fx
  ·exact ot m fx t f.2 u' hu
def inV (x:V) (xs:List V):Bool:=xs.any λy=>eqV y x
def rIn (K:qae) (neg:Bool):R2:=λx y H Q=>∃ p xs,y=.ref p/\(SqL K H p xs\/SqT K H p xs)/\fF x=true/\xs.all fF=true/\Q (.bl (if neg then !inV x xs else inV x xs)) H
theorem zk:OpR X (qce .In) (rIn X.K false):=by
 intro g s B H x y v u Q I m P h;obtain⟨p,xs,rfl,C,fx,fs,q⟩:=h;cases P;rcases C with C|C
 ·obtain⟨d,r,D,M⟩:=I.list C
  refine SeqAt.in_listAt _ D.isList (λw hw=>ot m fx r fs w (by simpa using hw)) ⟨.bl _,H,I,U,?_⟩;rw[show d.toArray.any _=d.any (eqU x) by simp,qi r fs];exact q
 ·obtain⟨d,r,D,M⟩:=I.tuple C
  refine SeqAt.in_tupleAt _ D (λw hw=>ot m fx r fs w (by simpa using hw)) ⟨.bl _,H,I,U,?_⟩;rw[show d.toArray.any _=d.any (eqU x) by simp,qi r fs];exact q
theorem qt:bO X (.builtin "len") (λxs H Q=>∃ p F,xs=[.ref p]/\(SqL X.K H p F\/SqT X.K H p F)/\Q (.int F.length) H):=by
 intro g s B H xs Y Q I r h;obtain⟨p,F,rfl,C,q⟩:=h;obtain⟨u,rfl,m⟩:=jb r;cases m;have hn:=ly;rcases C with C|C
 ·obtain⟨d,O,D,M⟩:=I.list C
  have E:=O.length;exact Calls.call_len_list D.isList (by simp only[qaK]<;>lia) ⟨.int F.length,H,I.tok _,⟨_,by rw[qaK,E]⟩,q⟩
 ·obtain⟨d,O,D,M⟩:=I.tuple C
  have E:=O.length;exact len_tuple D (by simp only[qaK]<;>lia) ⟨.int F.length,H,I.tok _,⟨_,by rw[qaK,E]⟩,q⟩
theorem qu:bO X (.builtin "len") (λxs H Q=>∃ z,xs=[.str z]/\z.length<=qaN/\Q (.int z.length) H):=by
 intro g s B H xs Y Q I r h;obtain⟨z,rfl,M,q⟩:=h;obtain⟨u,rfl,t,rfl⟩:=jb r;have hn:=ly;exact len_str (by lia) ⟨.int z.length,H,I.tok _,⟨_,U⟩,q⟩
theorem qv:bO X (.type "list") (λxs H Q=>∃ p F,xs=[.ref p]/\(SqL X.K H p F\/SqT X.K H p F)/\∀ l,H l=none->Q (.ref l) (upd H l (.lst F))):=by
 intro g s B H xs Y Q I r h;obtain⟨p,F,rfl,C,q⟩:=h;obtain⟨u,rfl,m⟩:=jb r;cases m;have fin:∀ (d:List Value),aJ F d->F.length<=qaN->∀ (h':Heap) (c':Nat),_->
   h'.get? s.heap.objs.size=some { cls:=.type "list",dict:=none,data:=.seq d.toArray c',slots:=#[] }->EP X g B Q _ { s with heap:=h' }:=λd O M h' c' kp e=>
  ⟨.ref s.heap.objs.size,_,I.laid kp (qap _) (show cA X.prog X.w _ h' _ (.lst F) from ⟨M,d,c',O,e⟩),U,q _ (I.hok.fresh (qap _))⟩
 rcases C with C|C
 ·obtain⟨d,O,D,M⟩:=I.list C
  have E:=O.length;obtain⟨o,ho,hc,n,hd⟩:=D.isList;exact call_list_seq p (.inl U) ho hc hd (λh' c' kp e=>fin d O M h' c' kp e) (by simp only[qaK]<;>lia)
 ·obtain⟨d,O,D,M⟩:=I.tuple C
  have E:=O.length;obtain⟨o,ho,hc,n,hd⟩:=D;exact call_list_seq p (.inr U) ho hc hd (λh' c' kp e=>fin d O M h' c' kp e) (by simp only[qaK]<;>lia)
theorem pe:bO X (.type "tuple") (λxs H Q=>∃ p F,xs=[.ref p]/\((SqL X.K H p F/\∀ l,H l=none->Q (.ref l) (upd H l (.tup F)))\/(SqT X.K H p F/\Q (.ref p) H))):=by
 intro g s B H xs Y Q I r h;obtain⟨p,F,rfl,h⟩:=h;obtain⟨u,rfl,m⟩:=jb r;cases m;rcases h with⟨C,q⟩|⟨C,q⟩
 ·obtain⟨d,O,D,M⟩:=I.list C
  have E:=O.length;refine call_tuple_list D.isList (λh' kp=>?_) (by simp only[qaK]<;>lia);have I1:=I.kept (t':=s.toks) kp;exact⟨.ref h'.objs.size,_,(I1.laid (λb o e=>qah _ e) (qap _) (show cA X.prog X.w _ _ _ (.tup F) from ⟨M,d,O,fQ.new _ _⟩)),U,q _ (I1.hok.fresh (qap _))⟩
 ·obtain⟨d,O,D,M⟩:=I.tuple C
  exact call_tuple_same D ⟨.ref p,H,I,U,q⟩
def tyV (K:qae) (T:String) (x:V) (H:Hp):Prop:=match x with
 |.str _=>T = "str"
 |.int _=>T = "int"
 |.ref p=>(T = "list"/\∃ xs,SqL K H p xs)\/(T = "tuple"/\((∃ o,K.lookup p=some o/\o.cls=.type "tuple"/\o.dict=none)\/∃ xs,SqT K H p xs))\/
   (T = "dict"/\((∃ kvs,H p=some (.dK kvs))\/∃ kvs,H p=some (.dT kvs)))\/(T = "set"/\∃ S n,H p=some (.set S n))
 |_=>False
theorem FY {g:List (Addr×Obj)}{B:St}{H:Hp}{s:qam}{T:String}{x:V}{v:Value} (I:Inv X g B H s) (r:aR x v) (ty:tyV X.K T x H) :
  s.TypeIs v T/\∀ a,v=.ref a->∃ ob,s.heap.get? a=some ob/\ob.dict=none:=by
 cases x with
 |str z=>
  obtain⟨t,rfl⟩:=r;cases (ty);exact⟨typeIs_str s z t,λ_ e=>nomatch e⟩
 |int i=>
  obtain⟨t,rfl⟩:=r;cases (ty);exact⟨qf4 s i t,λ_ e=>nomatch e⟩
 |ref p=>
  cases r;rcases ty with⟨rfl,xs,C⟩|⟨rfl,ht⟩|⟨rfl,hk⟩|⟨rfl,S,n,hk⟩
  ·obtain⟨d,_,D,_⟩:=I.list C
   refine⟨D.isList.typeIs,λa e=>?_⟩;cases e;obtain⟨o,n,e,c,hd,_⟩:=D;exact⟨o,e,hd⟩
  ·have z:∃ o:Obj,s.heap.get? p=some o/\o.cls=.type "tuple"/\o.dict=none:=by
    rcases ht with⟨o,hk,hc,hd⟩|⟨xs,C⟩
    ·exact⟨o,I.kIn p o hk,hc,hd⟩
    ·exact I.tuple1 C
   obtain⟨o,e1,hc,hd⟩:=z;refine⟨⟨o,e1,hc⟩,λa e=>?_⟩;cases e;exact⟨o,e1,hd⟩
  ·have z:∃ o,s.heap.get? p=some o/\o.ExactDict:=by
    rcases hk with⟨kvs,hk⟩|⟨kvs,hk⟩
    ·obtain⟨_,_,_,_,o,_,_,e,ex,_⟩:=I.hok p _ hk
     exact⟨o,e,ex⟩
    ·obtain⟨_,_,_,_,o,_,_,e,ex,_⟩:=I.hok p _ hk
     exact⟨o,e,ex⟩
   obtain⟨o,e,ex⟩:=z;refine⟨⟨o,e,ex.1⟩,λa e2=>?_⟩;cases e2;exact⟨o,e,ex.2.1⟩
  ·obtain⟨o,_,_,_,e,ex,_⟩:=I.hok p _ hk
   refine⟨⟨o,e,ex.1⟩,λa e2=>?_⟩;cases e2;exact⟨o,e,ex.2.1⟩
 |_=>exact qcP ty
def tBM (K:qae) (T:String) (r:V->List V->Hp->VK->Prop) (to:TE) (t:TA):TE:=λB H Q=>to B H λx H1=>tyV K T x H1/\t B H1 λxs H2=>r x xs H2 Q
variable {o e:Expr}{es:List Expr}{to:TE}{t:TA}{name:Str}{apos G:Pos}{T id:String}{r:V->List V->Hp->VK->Prop}
theorem D1 (pa:PlainAttrs T) (slot:Slot T name id) (hty:typeOf (.builtin id)=pure (.type "method_descriptor")) (hm:MtR X id r) (ho:PE X o to) (ha:PA X (e::es) t)
  (hbase:qdo o name X.env (eval o X.env)=eval o X.env:=by rfl)
  (hfew:((qfh G (qbA (e::es) X.env)).all (λx=>!x.1) && (qik G (qgG [] X.env)).all (λx=>x.1.isSome)
    && decide ((e::es).length+([]:List qh9).length+(if ([]:List qh9).isEmpty then 0 else 1)<30))=true:=by rfl)
  (hline:(apos.endLine==G.line)=true:=by rfl) (R:qbA (e::es) X.env=(false,eval e X.env)::qbA es X.env:=by rfl) (hplain:(qfh G (qbA es X.env)).any (·.1)=false:=by rfl) :
  PE X (.Call (.Attribute o name apos) (e::es) [] G) (tBM X.K T r to t):=by
 intro g s B H Q I h;refine wpAny_Call_method_late hbase hfew hline U (thn (ho g s B H _ I h) λv s1 ⟨x,H1,I1,r1,ty,q1⟩=>?_);obtain⟨N,h2⟩:=FY I1 r1 ty;refine⟨T,id,pa,slot,hty,N,h2,?_⟩;have hA:=ha G g s1 B H1 _ I1 q1;rw[R]at hA ⊢;refine Calls.callWith_builtin (by show (false||(qfh G _).any _)=false;rw[hplain]<;>rfl) (Calls.evalArgs_plain ?_);exact thn hA λY s2 ⟨vs,H2,I2,r2,q2⟩=>hm g s2 B H2 x vs v Y Q I2 r1 r2 q2
end
def MtM (X:Cx) (id:String) (r:V->List V->Hp->VK->Prop):Prop:=
 ∀ (a:List (Addr×Obj)) (s:qam) (b:St) (H:Hp) (x:V) (xs:List V) (v:Value) (c:List Value) (Q:VK),Inv X a b H s->aR x v->aJ xs c->r x xs H Q->
  wpAny (model X.prog X.w) X.A (call (.builtin id) (v::c)) (EP X a b Q) X.xe s
theorem aJ.one {x:V}{a:List Value} (h:aJ [x] a):∃ u,a=[u]/\aR x u:=by
 cases h with
 |cons r t=>cases t;exact⟨_,U,r⟩
theorem aJ.eraseIdx:∀ {xs:List V}{a:List Value} (i:Nat),aJ xs a->aJ (xs.eraseIdx i) (a.eraseIdx i)
 |_,_,_,.nil=>.nil
 |_,_,0,.cons _ t=>t
 |_,_,i+1,.cons r t=>.cons r (aJ.eraseIdx i t)
theorem aJ.rep {xs:List V}{a:List Value} (h:aJ xs a):∀ k:Nat,aJ (qaL k xs).flatten (qaL k a).flatten
 |0=>.nil
 |k+1=>by
  exact aJ.append h (aJ.rep h k)
theorem pV {α:Type}:∀ (l:List α) (i:Nat),(l.eraseIdx i).length<=l.length
 |[],_=>qap _
 |_::_,0=>qdc _
 |_::r,i+1=>Nat.succ_le_succ (pV r i)
theorem lh (a:List Value):∀ (k:Nat) (acc:List Value),
  qjZ (λc b=>c++b) acc.toArray (qaL k a.toArray)=(acc++(qaL k a).flatten).toArray
 |0,acc=>by simp
 |k+1,acc=>by
  have e:acc.toArray++a.toArray=(acc++a).toArray:=by simp
  have e2:(acc++a)++(qaL k a).flatten=acc++(qaL (k+1) a).flatten:=by
   rw[qa4,qhs,qbO]
  rw[<-e2,<-lh a k _,<-e,qa4,qhX]
section
variable {X:Cx}{c:List (Addr×Obj)}{g:St}{H:Hp}{s:qam}{l b:Addr}{xs i v:List V}
theorem Inv.lset {a d:List Value}{n:Nat}{f:Array Value->Array Value}{t':Nat} (I:Inv X c g H s) (m:H l=some (.lst xs))
  (e:s.heap.get? l=some { cls:=.type "list",data:=.seq a.toArray n }) (o:f a.toArray=d.toArray) (k:aJ i d) (j:i.length<=qaN) :
  Inv X c g (upd H l (.lst i)) { s with heap:=s.heap.update l (qcX f),toks:=t' }:=by
 have q:=qfj e f;rw[o]at q;refine I.write (by rw[m];exact trivial) (.inl U) (λt u hb p=>(qaT s.heap _ (qbr hb)).trans p) ⟨_,q⟩ ?_;exact⟨j,d,_,k,q⟩
theorem Inv.lnew {a:List Value}{t':Nat} (I:Inv X c g H s) (k:aJ i a) (j:i.length<=qaN) :
  Inv X c g (upd H s.heap.objs.size (.lst i)) { s with heap:=s.heap.push { cls:=.type "list",data:=.seq a.toArray },toks:=t' }:=
 I.laid (λ_ _ q=>qah _ q) (qap _) ⟨j,a,0,k,qau _ U⟩
theorem Inv.fresh (I:Inv X c g H s):H s.heap.objs.size=none:=I.hok.fresh (qap _)
theorem Inv.lstM (I:Inv X c g H s) (m:H l=some (.lst xs)):xs.length<=qaN/\∃ (a:List Value) (n:Nat),aJ xs a/\xs.length=a.length/\s.heap.get? l=some { cls:=.type "list",data:=.seq a.toArray n }:=by
 obtain⟨z,a,n,r,e⟩:=I.hok l _ m;exact⟨z,a,n,r,r.length,e⟩
theorem AD {n:Nat} (h:n<=qaN):qfu n=false:=by
 exact decide_eq_false (by lia)
end
section
variable {X:Cx}
def Dg:V->List V->Hp->VK->Prop:=λx b H Q=>∃ l xs y,x=.ref l/\b=[y]/\H l=some (.lst xs)/\xs.length<qaN/\Q .non (upd H l (.lst (xs++[y])))
theorem zg:MtM X "list.append" Dg:=by
 intro c s p H x b v B Q I m f h;obtain⟨l,xs,y,rfl,rfl,d,J,q⟩:=h;cases m;obtain⟨u,rfl,g⟩:=f.one;obtain⟨z,a,n,r,o,e⟩:=I.lstM d;refine qc9 qfE ⟨_,e,U⟩ qfs (qfk _ _) (qfq l a.toArray n u (by rw[qaK];lia)) ⟨e,?_⟩;refine⟨.non,_,I.lset d e (by simp) (r.append (.cons g .nil)) ?_,U,q⟩;rw[qav,qcf];lia
def FI:V->List V->Hp->VK->Prop:=λx b H Q=>∃ l xs i k y,x=.ref l/\b=[.int i]/\H l=some (.lst xs)/\-(2^63)<=i/\i<2^63/\qjO i xs.length=some k/\xs[k]?=some y/\Q y (upd H l (.lst (xs.eraseIdx k)))
theorem AB:MtM X "list.pop" FI:=by
 intro c s p H x b v B Q I m f h;obtain⟨l,xs,i,k,y,rfl,rfl,d,A,G,C,E,q⟩:=h;cases m;obtain⟨u,rfl,g⟩:=f.one;obtain⟨t,rfl⟩:=g;obtain⟨z,a,n,r,o,e⟩:=I.lstM d;obtain⟨w,hw,j⟩:=r.get E;refine qc9 F.slot_list_pop ⟨_,e,U⟩ F.entry_list_pop (F.args_list_pop_2 _ _)
  (MeetsSeq.list_pop_at l a.toArray n i t k w (qj6 A G) (by rw[qaK,<-o];exact C) (by rw[<-qeM];exact hw) (by rw[qaK];lia)) ⟨e,?_⟩
 refine⟨y,_,I.lset d e ?_ (r.eraseIdx k) ?_,j,q⟩
 ·rw[List.eraseIdxIfInBounds_toArray]
 ·have:=pV xs k
  lia
theorem rC {α:Type} (xs:List α) (k:Nat):(qaL k xs).flatten.length=k*xs.length:=by
 induction k with
 |zero=>simp
 |succ k D=>rw[qa4,qhs,qav,D,Nat.succ_mul,qeY]
end
section
variable {prog:qaR}{w:World}{A:qaZ}{E:Value->qam->Prop}{s:qam}
end
section
variable {X:Cx}
end
end L2
namespace Att
open PySem PySem.W PySem.Calls PyProof.Rows
theorem md {P:Params}{h:Heap}:∀ (ns:List Int) (c:List Value),WellAll P h c (ns.map WData.int)->qcF c ns:=by
 intro ns
 induction ns with
 |nil=>
  intro c w;cases w;exact .nil
 |cons n ns d=>
  intro c w;cases w with
  |cons a b=>
   cases a;exact .cons _ _ (d _ b)
theorem zr {l:OpenLaw}{n:Nat} (q:l.most=some n) {P:Params}{h:Heap}{args:List WData}{c:List Value}
  (b:l.row.toRowW.claim.pre args=true) (i:WellAll P h c args) :
  ∃ a j ns,c=[Value.ref a]/\args=[WData.list (ns.map WData.int)]/\h.get? a=some { cls:=.type "list",data:=.seq j.toArray }/\qcF j ns/\ns.length<=n:=by
 obtain⟨d,r,rfl,p,t⟩:=hasAllW_cons ((pre_splitW b).1);obtain rfl:=hasAllW_nil t;obtain⟨xs,rfl,s⟩:=hasW_list p;obtain⟨ns,rfl⟩:=items_int s;have f:ns.length<=n:=by
  have g:=by
   have g:=(holds_andW ((pre_splitW b).2)).1;rw[q]at g;exact g
  have k:=condW_of g (w_not (w_lt w_lit (w_len_list (w_arg U))))
  first
   |(exact absurd k _)
   |(simp at k;lia)
 cases i with
 |cons m w2=>
  cases w2;cases m with
  |list o e=>exact⟨_,_,ns,U,U,o,md ns _ e,f⟩
theorem zo (l:OpenLaw) (args:List WData):l.row.toRowW.claim.post args (.bool true) args=true:=
 postW_of
  (show qiC [] _ .bool=true by first|rfl|decide|simp[qiC,WShape.arms,WShape.armsAll])
  (w_eq_bool (w_res U) w_lit) U
theorem attach_call {l:OpenLaw}{n:Nat}{q:qaR}{c:List Str}{XP:(Str->Option Value)->Heap->Prop}{YP:World->Heap->Prop}{d:DefRec}
  (H:l.most=some n) (x:d.params.defaults=[])
  (call:∀ (w:World) (s₀ b:qam) (mg u:Str->Option Value) (i:Addr) (o:Obj) (v p e:Value) (a:Addr) (h:List Value) (ns:List Int),
    Ground q c [] XP w s₀ mg u b.heap->YP w b.heap->
    b.heap.get? i=some o->o.data=.func (docDef d.name d.params d.body d.scope v p e)->b.heap.CodeRec p d.name->mg d.name=some (.ref i)->
    b.heap.get? a=some { cls:=.type "list",data:=.seq h.toArray }->qcF h ns->ns.length<=n->b.gens=#[]->
    qdM (model l.prog w) qhi (.call (.ref i) ⟨[.ref a],[]⟩) (λr s'=>r=.ok (.ret (.bool true))/\OldK b.heap s'.heap/\s'.os=b.os/\qfH s'.gens) b) :
  WalkO q c XP YP l.row.toRowW d [] (λf h=>qhj f h):=by
 intro w s₀ b mg u G Y i o v p e E kV L hd s B t hg args A as k z F y J;obtain rfl:E=.none:=Dflts.none B x;obtain rfl:kV=.none:=Dflts.noKw B;obtain⟨a,h,ns,rfl,rfl,m,g,j⟩:=zr H k y;refine enter_call (qgg (call w s₀ b mg u i o v p e a h ns G Y L (fd_plain hd) s t m g j hg) λr s' C=>?_);obtain⟨rfl,M,K,I⟩:=C;exact⟨.inl ⟨_,_,_,U,λ_=>rfl,.bool true,zo l _,λ_=>⟨List.Pairwise.nil,λ_ D=>(nomatch D)⟩⟩,M,K,I⟩
section
variable {prog:qaR}{w:World}{A:qaZ}{E:Value->qam->Prop}{s:qam}{K:Frag}
end
end Att
namespace L2
open PySem PySem.Spec PyProof.Rows
theorem qc:∀ {a:List Value}{ns:List Int},qcF a ns->aJ (ns.map V.int) a
 |_,_,.nil=>.nil
 |_,_,.cons n t h=>.cons ⟨t,U⟩ (qc h)
def BZ (H:Hp):Prop:=∀ b,H b=none\/∃ o xs,H b=some (.frz o (.lst xs))
theorem Ap {P:qaR}{w:World}{K:qae}{mg D:Str->Option Value}{CX:CXT}{k:Nat}{E a:Addr}{fd:qcd}{x:Str}{sp:Sp}{c:qam}{p:List Value}{ns:List Int}
  (KX:K.In c.heap) (hns:c.heap.Ns qcj mg) (hb:c.heap.Ns qg1 D) (M:∀ x:Str,x≠"__name__"->D x=qcO x) (l:c.heap.NoLimit) (hg:c.gens=#[])
  (B:c.heap.get? a=some { cls:=.type "list",data:=.seq p.toArray }) (hi:qcF p ns) (O:ns.length<=qaN) (T:bH k qhi)
  (F:∀ base:Heap,K.In base->base.Ns qcj mg->dU P w K mg base CX k E fd [x] sp) (j:∀ (s:qam) (u:Value),qhn s fd ⟨[u],[]⟩ [(x,u)])
  (C:∀ H:Hp,BZ H->SqL K H a (ns.map V.int)->sp [.ref a] H (λv _=>v=.bl true) λ_ _ _=>False)
  (I:∀ H e s',CX [] H c (λ_ _ _=>False) e s'->False) :
  qdM (model P w) qhi (.call (.ref E) ⟨[.ref a],[]⟩) (λr s'=>r=.ok (.ret (.bool true))/\OldK c.heap s'.heap/\s'.os=c.os/\qfH s'.gens) c:=by
 have N:=qc hi;have i:∀ H ,BZ H->SqL K H a (ns.map V.int)->HOk P w H c.heap->(∀ b,H b≠none->b=a)->(H a≠none->K.lookup a=none)->
   qdM (model P w) qhi (.call (.ref E) ⟨[.ref a],[]⟩) (λr s'=>r=.ok (.ret (.bool true))/\OldK c.heap s'.heap/\s'.os=c.os/\qfH s'.gens) c:=by
  intro H Q S hok hA W;have f:∀ {b:Addr}{o:Obj},c.heap.get? b=some o->H b=none->(yW c.heap H).get? b=some o:=λe n=>Ag e n;have L:∀ {b:Addr}{o:Obj}{es:Array qem}{A:Nat},c.heap.get? b=some o->o.data=.dict es A->H b=none:=λ{b o es A} e d=>by
   cases q:H b with
   |none=>rfl
   |some u=>
    have G:=hA b (by rw[q];simp);subst G;rw[B]at e;cases e;cases d
  have g:∀ {b:Addr}{m:Str->Option Value},c.heap.Ns b m->(yW c.heap H).Ns b m:=λ{b m} ⟨o,es,A,e,d,r⟩=>⟨o,es,A,f e (L e d),d,r⟩
  have y:=λb o e=>f (KX b o e) (by
   cases q:H b with
   |none=>rfl
   |some u=>
    have G:=hA b (by rw[q];simp);subst G
    rw[W (by rw[q];simp)]at e;cases e)
  refine qgg ((F _ y (g hns)).run qhi [] c H ⟨[.ref a],[]⟩ [.ref a] [.ref a] _ _ T ⟨U,⟨y,g hns,⟨D,g hb,M⟩,let ⟨mc,h1,h2⟩:=l;⟨mc,g h1,h2⟩⟩,λb o e=>CK e,qdx (yX _ _),trivial,λb hb=>absurd (show b∈([]) from hb) (by simp),hok,.of_eq hg⟩ (j c _) (.cons U .nil) (C H Q S)) λr s' h=>?_;cases r with
  |error e=>exact (I H e s' h).elim
  |ok fl=>
   cases fl with
   |next=>exact qcP h
   |brk=>exact qcP h
   |cont=>exact qcP h
   |ret u=>
    obtain⟨v,H',os,bare,un,t,X,q⟩:=h;subst q;obtain rfl:u=Value.bool true:=X;refine⟨U,OldK.of_keep λb o e=>?_,os,bare⟩;cases q:H b with
    |none=>exact un.keep b o e q (by intro z;exact absurd (show b∈([]) from z) (by simp)) (by simp)
    |some u=>
     rcases Q b with z|⟨ob,xs,z⟩
     ·rw[q]at z;cases z
     ·obtain⟨R,_⟩:=hok b _ z
      obtain⟨e2,_⟩:=t b _ (un.frzs b ob _ z);rw[e]at R;cases R;exact e2
 cases hk:K.lookup a with
 |some o=>
  -- the script is one of the module's own objects
  have e:=KX a o hk;rw[B]at e;cases e;refine i _ (λ_=>.inl U) (.inr ⟨_,p.toArray,_,hk,U,U,U,by rw[qaK,hi.length];exact O,by simpa using N⟩) (λb u z=>by cases z) (λb z=>absurd U z) λz=>absurd U z
 |none=>
  refine i (λb=>if b=a then some _ else none) (λb=>?_) (.inl (.inr ⟨{ cls:=.type "list",data:=.seq p.toArray },iFP U⟩)) (λb u z=>?_) (λb z=>?_) λ_=>hk
  ·by_cases hb:b=a
   ·exact .inr ⟨_,_,iFP hb⟩
   ·exact .inl (iFN hb)
  ·by_cases hb:b=a
   ·have J:=(iFP hb).symm.trans z
    cases J;subst hb;exact⟨B,by rw[qaf];exact O,p,_,N,B⟩
   ·have J:=(iFN hb).symm.trans z
    cases J
  ·by_cases hb:b=a
   ·exact hb
   ·exact absurd (iFN hb) z
theorem walk_of {l:qfC}{n k:Nat}{q:qaR}{g:List Str}{XP:(Str->Option Value)->Heap->Prop}{YP:World->Heap->Prop}{d:DefRec}{K:Params->qae}{CX:World->CXT}{sp:World->Sp}{x:Str}
  (L:l.most=some n) (z:n<=qaN) (y:d.params.defaults=[]) (E:bH k qhi)
  (M:∀ (w:World) (h:Heap),YP w h->(K w.params).In h)
  (F:∀ (w:World) (mg:Str->Option Value) (m:Addr) (h:Heap),(K w.params).In h->h.Ns qcj mg->mg d.name=some (.ref m)->
    ∃ fd:qcd,(∀ (s:qam) (u:Value),qhn s fd ⟨[u],[]⟩ [(x,u)])/\
     ∀ base:Heap,(K w.params).In base->base.Ns qcj mg->dU l.prog w (K w.params) mg base (CX w) k m fd [x] (sp w))
  (p:∀ (w:World) (H:Hp) (a:Addr) (ns:List Int),ns.length<=n->BZ H->SqL (K w.params) H a (ns.map V.int)->sp w [.ref a] H (λv _=>v=.bl true) λ_ _ _=>False)
  (t:∀ (w:World) (H:Hp) (s:qam) (e:Value) (s':qam),CX w [] H s (λ_ _ _=>False) e s'->False) :
  qhG q g XP YP l.row.toRowW d [] (λf A=>qhj f A):=by
 refine Att.attach_call L y λw s₀ j mg N m o O Q I a A ns G Y P hd B r i c b hg=>?_;have KX:=M w _ Y;obtain⟨fd,hb,C⟩:=F w mg m _ KX G.T.g r;exact Ap KX G.T.g G.T.b G.T.builtins G.T.nolimit hg i c (qaM b z) E C hb (λH J D=>p w H a ns b J D) λH e s'=>t w H j e s'
def ml (s:Stmt):Arguments:=match s with
 |.FunctionDef _ a _ _ _ _ _ _ _ _=>a
 |_=>{ posonlyargs:=[],args:=[],vararg:=none,kwonlyargs:=[],kw_defaults:=[],kwarg:=none,defaults:=[] }
def bf (s:Stmt):List Stmt:=match s with
 |.FunctionDef _ _ b _ _ _ _ _ _ _=>b
 |_=>[]
def aq (s:Stmt):Scope:=match s with
 |.FunctionDef _ _ _ _ _ _ a _ _ _=>a
 |_=>{ kind:=.function,names:=[],isGenerator:=false,isCoroutine:=false }
abbrev CX0:CXT:=λ_ _ _ _ _ _=>False
abbrev E0:XK:=λ_ _ _=>False
theorem AR {X:Cx}:m6 CX0 X E0:=λ_ _ _ _ _ _ _ h=>h.elim
structure Fun (K:qae) (x qual:Str) (st:Stmt) (f:Addr) (fd:qcd):Prop where
 ex:∃ (oc:Value) (od:Option Addr) (kV doc pm:Value) (an:Option Addr) (cdv ct:Value) (osl:Array (Option Value)),
  fd=qdZ x qual (ml st) (bf st) (aq st) .none kV doc pm an cdv ct/\K.lookup f=some ⟨oc,od,.func fd,osl⟩/\qfU K cdv qual=true
 kp:qcT K (.ref f)=true
section
variable {P:qaR}{w:World}{K:qae}{mg:Str->Option Value}{base:Heap}
theorem Fun.ok {x a:Str}{st:Stmt}{f:Addr}{fd:qcd}{N ps:List Str}{k:Nat}{sp:Sp} (F:Fun K x a st f fd) (S:cC N ps (aq st)) (len:∀ m H Q E,sp m H Q E->m.length=ps.length)
  (j:∀ (b:Value) (A:qaZ) (outer:List Env) (s:qam) (H:Hp) (m:List V) (Q:VK) (E:XK),bH k (A.deeper (qeL a (aq st) s.heap.objs.size f b))->sp m H Q E->
    ∃ t,PSs (gh CX0 P w K mg base N a (aq st) f b A outer s H E).nox (bf st) t/\t { nx:=λ_ H'=>Q .non H',rt:=Q } (i9 N m) H):dU P w K mg base CX0 (k+1) f fd ps sp:=by
 obtain⟨o,p,kV,d,g,i,b,ct,e,rfl,v,n⟩:=F.ex;refine Gq v n S len λA outer s H m Q E y r=>?_;obtain⟨t,h,q⟩:=j b A outer s H m Q E y r;exact⟨t,h.nox,q⟩
theorem Fun.binds {x a:Str}{st:Stmt}{f:Addr}{fd:qcd}{ps:List Str} (F:Fun K x a st f fd)
  (h:∀ (kV d g:Value) (i:Option Addr) (b ct:Value) (u:List Value),u.length=ps.length->bindArgs (qdZ x a (ml st) (bf st) (aq st) .none kV d g i b ct) ⟨u,[]⟩=pure (ps.zip u)):dD K fd ps []:=by
 obtain⟨o,p,kV,d,g,i,b,ct,e,rfl,v,n⟩:=F.ex;exact .all (h kV d g i b ct)
theorem fun_mk {x a:Str}{st:Stmt}{f:Addr}{o:Value}{p i:Option Addr}{e:Array (Option Value)}{kV d g b ct:Value} (l:K.lookup f=some ⟨o,p,.func (qdZ x a (ml st) (bf st) (aq st) .none kV d g i b ct),e⟩)
  (c:qfU K b a=true) (k:qcT K (.ref f)=true):Fun K x a st f (qdZ x a (ml st) (bf st) (aq st) .none kV d g i b ct):=⟨⟨o,p,kV,d,g,i,b,ct,e,U,l,c⟩,k⟩
end
theorem DR {A:qaZ}{k:Nat} (a:bH k A):A.units+1<cLine:=qbF (Nat.add_le_add_left (by decide) _) a.units
theorem zv {n:Nat} (h:n<=1000):n<qaN:=qbF h (by decide)
section
variable {X:Cx}
end
theorem Ct {A B:Prop} (h:B):if false=true then A else B:=by
 exact h
theorem Cu {A B:Prop} (h:A):if true=true then A else B:=by
 exact h
def aP (H H':Hp):Prop:=∀ b o,H b=some o->H' b=some o
theorem aP.refl (H:Hp):aP H H:=λ_ _ h=>h
theorem aP.trans {H H1 H2:Hp} (a:aP H H1) (b:aP H1 H2):aP H H2:=λc o h=>b c o (a c o h)
def cJ (a:List (Str×Addr)):List (Str×qca)->List (Str×Addr)->List (Str×Addr)
 |[],acc=>acc
 |(n,k)::r,acc=>if k==.free then cJ a r ((n,(a.lookup n).getD 0)::acc) else cJ a r acc
theorem jH {env:Env} (f:Str×qca->List (Str×Addr)->Sem (ForInStep (List (Str×Addr))))
  (d:∀ n k e,f (n,k) e=if k==.free then (do let c <-cellOf env n;pure (.yield ((n,c)::e))) else pure (.yield e)) :
  ∀ (names:List (Str×qca)) (acc:List (Str×Addr)),(∀ x∈names,x.2=.free->∃ c,env.cells.lookup x.1=some c)->
   forIn names acc f=pure (cJ env.cells names acc)
 |[],acc,_=>by rfl
 |(n,k)::r,acc,h=>by
  rw[qfZ,d];unfold cJ;by_cases b:(k==.free)=true
  ·obtain⟨c,i⟩:=h (n,k) qag (beq_iff_eq.mp b)
   have a:=i;rw[iFP b,iFP b]
   have:cellOf env n=pure c:=by unfold cellOf;rw[a]
   rw[this,a];exact jH f d r _ λx g=>h x (qak _ g)
  ·rw[iFN b,iFN b]
   exact jH f d r _ λx g=>h x (qak _ g)
theorem jy {a:Scope}{env:Env} (h:∀ x∈a.names,x.2=.free->∃ c,env.cells.lookup x.1=some c) :
  closureFor a env=pure (cJ env.cells a.names []):=by
 simp only[closureFor];rw[jH _ (λn k b=>by cases hk:k==NameKind.free<;>simp[hk]) a.names [] h]
 simp
theorem fT {a:List (Str×Addr)}:∀ (names:List (Str×qca)) (acc:List (Str×Addr)) {x:Str}{c:Addr},(cJ a names acc).lookup x=some c->
  acc.lookup x=some c\/((x,NameKind.free)∈names/\c=(a.lookup x).getD 0)
 |[],_,_,_,h=>.inl h
 |(n,k)::r,acc,x,c,h=>by
  unfold cJ at h;by_cases f:(k==.free)=true
  ·rw[iFP f]at h
   rcases fT r _ h with q|⟨d,b⟩
   ·rw[qbv]at q
    cases hx:x==n with
    |true=>
     rw[hx]at q;have e:=beq_iff_eq.mp hx;subst e;exact .inr ⟨by rw[<-beq_iff_eq.mp f];exact qag,(qaQ q).symm⟩
    |false=>rw[hx]at q;exact .inl q
   ·exact .inr ⟨qak _ d,b⟩
  ·rw[iFN f]at h
   rcases fT r _ h with q|⟨d,b⟩
   ·exact .inl q
   ·exact .inr ⟨qak _ d,b⟩
theorem fA {a:List (Str×Addr)}{x:Str}:∀ (names:List (Str×qca)) (acc:List (Str×Addr)),((x,NameKind.free)∈names\/(acc.lookup x).isSome=true)->((cJ a names acc).lookup x).isSome=true
 |[],_,h=>h.elim (λz=>nomatch z) id
 |(n,k)::r,acc,h=>by
  unfold cJ;by_cases b:(k==.free)=true
  ·rw[iFP b]
   refine fA r _ ?_;rcases h with h|h
   ·rcases qaA.mp h with e|h
    ·cases e
     exact .inr (by rw[qbv,beq_self_eq_true];rfl)
    ·exact .inl h
   ·refine .inr ?_
    rw[qbv];cases x==n
    ·exact h
    ·rfl
  ·rw[iFN b]
   refine fA r _ ?_;rcases h with h|h
   ·rcases qaA.mp h with e|h
    ·cases e;exact absurd U b
    ·exact .inl h
   ·exact .inr h
theorem dk:∀ (names:List (Str×qca)) (n:Nat) (acc:List (Str×Addr)) {x:Str}{c:Addr},(qcN n names acc).lookup x=some c->acc.lookup x=some c\/((x,NameKind.cell)∈names/\n<=c)
 |[],_,_,_,_,h=>.inl h
 |(m,k)::r,n,acc,x,c,h=>by
  unfold qcN at h;by_cases d:(k==.cell)=true
  ·rw[iFP d]at h
   rcases dk r _ _ h with q|⟨b,a⟩
   ·rw[qbv]at q
    cases hx:x==m with
    |true=>
     rw[hx]at q;have e:=beq_iff_eq.mp hx;subst e;exact .inr ⟨by rw[<-beq_iff_eq.mp d];exact qag,by rw[qaQ q];exact qap _⟩
    |false=>rw[hx]at q;exact .inl q
   ·exact .inr ⟨qak _ b,Nat.le_of_succ_le a⟩
  ·rw[iFN d]at h
   rcases dk r _ _ h with q|⟨b,a⟩
   ·exact .inl q
   ·exact .inr ⟨qak _ b,a⟩
theorem pf:∀ (names:List (Str×qca)) (n:Nat) (acc:List (Str×Addr)),(∀ p∈acc,p.2<n)->∀ {x y:Str}{c:Addr},(qcN n names acc).lookup x=some c->(qcN n names acc).lookup y=some c->n<=c->x=y:=by
 have g:∀ (names:List _) (n:Nat) (acc:List _) (lo:Nat),lo<=n->(∀ p∈acc,p.2<n)->(∀ p∈acc,∀ q∈acc,lo<=p.2->p.2=q.2->p.1=q.1)->
   ∀ p∈qcN n names acc,∀ q∈qcN n names acc,lo<=p.2->p.2=q.2->p.1=q.1:=by
  intro names
  induction names with
  |nil=>intro n acc lo _ _ h;exact h
  |cons z r j=>
   intro n acc lo f a h;obtain⟨m,k⟩:=z;unfold qcN;by_cases i:(k==.cell)=true
   ·rw[iFP i]
    refine j _ _ lo (Nat.le_succ_of_le f) (λp b=>?_) (λp b q d l e=>?_)
    ·rcases qaA.mp b with e|b
     ·rw[e];exact qbN _
     ·exact qaY (a p b)
    ·rcases qaA.mp b with o|b<;>rcases qaA.mp d with e2|d
     ·rw[o,e2]
     ·rw[o]at e;exact absurd (a q d) (by rw[<-e];exact qa5 _)
     ·rw[e2]at e;exact absurd (a p b) (by rw[e];exact qa5 _)
     ·exact h p b q d l e
   ·rw[iFN i]
    exact j _ _ lo f a h
 intro names n acc a x y c t s u;exact g names n acc n (qap _) a (λp b q d l _=>absurd (a p b) (qhJ.mpr l)) _ (qbu t) _ (qbu s) u U
theorem dP:∀ (names:List (Str×qca)) (h:Heap) (acc:List (Str×Addr)),(∀ p∈acc,∃ v,h.IsCell p.2 v)->∀ p∈qcN h.objs.size names acc,∃ v,(qfe h names).IsCell p.2 v
 |[],_,_,h=>h
 |(m,k)::r,h,acc,d=>by
  unfold qcN qfe;by_cases a:(k==.cell)=true
  ·rw[iFP a,iFP a]
   have:=dP r (h.push { cls:=.type "cell",data:=.cell none }) ((m,h.objs.size)::acc) (λp c=>by
    rcases qaA.mp c with e|c
    ·rw[e];exact⟨none,_,qau _ U,U⟩
    ·obtain⟨v,z⟩:=d p c
     exact⟨v,z.keeps λb o e=>qah _ e⟩)
   rwa [qbk]at this
  ·rw[iFN a,iFN a]
   exact dP r h acc d
theorem d6 {names:List (Str×qca)} (nd:(names.map (·.1)).Nodup):∀ {x:Str}{k:qca},(x,k)∈names->names.lookup x=some k:=by
 induction names with
 |nil=>intro x k h;cases h
 |cons z r a=>
  intro x k h;obtain⟨m,b⟩:=z;rw[qas,qcb]at nd;rw[qbv];rcases qaA.mp h with e|h
  ·cases e;rw[beq_self_eq_true]
  ·have:(x==m)=false:=beq_eq_false_iff_ne.mpr λe=>nd.1 (e ▸ qay.mpr ⟨(x,k),by assumption,U⟩)
   rw[this];exact a nd.2 h
theorem di {env:Env}:∀ {names:List (Str×qca)}{x:Str}{k:qca},
  (names.map λ(n,k)=>if (k==NameKind.free&&env.scope.kind==.function&&env.kindOf n==some .cell) then (n,NameKind.cell) else (n,k)).lookup x=some k->
  ∃ a,names.lookup x=some a/\(k=a\/(a=.free/\k=.cell))
 |[],_,_,h=>by cases h
 |(n,a)::r,x,k,h=>by
  rw[qas]at h;dsimp only at h;rw[qbv];by_cases b:(a==NameKind.free&&env.scope.kind==.function&&env.kindOf n==some .cell)=true
  ·rw[iFP b,qbv]at h
   cases hx:x==n with
   |true=>
    rw[hx]at h;refine⟨a,U,.inr ⟨?_,(qaQ h).symm⟩⟩;simp only[qbg]at b;exact beq_iff_eq.mp b.1.1
   |false=>rw[hx]at h;exact di h
  ·rw[iFN b,qbv]at h
   cases hx:x==n with
   |true=>rw[hx]at h;exact⟨a,U,.inl (qaQ h).symm⟩
   |false=>rw[hx]at h;exact di h
theorem ig {env:Env}:∀ {names:List (Str×qca)}{x:Str},names.lookup x=some .free->
  (names.map λ(n,k)=>if (k==NameKind.free&&env.scope.kind==.function&&env.kindOf n==some .cell) then (n,NameKind.cell) else (n,k)).lookup x=some .free\/
  (names.map λ(n,k)=>if (k==NameKind.free&&env.scope.kind==.function&&env.kindOf n==some .cell) then (n,NameKind.cell) else (n,k)).lookup x=some .cell
 |[],_,h=>by cases h
 |(n,b)::r,x,h=>by
  rw[qas];dsimp only;rw[qbv]at h;by_cases a:(b==NameKind.free&&env.scope.kind==.function&&env.kindOf n==some .cell)=true
  ·rw[iFP a,qbv]
   cases hx:x==n with
   |true=>exact .inr U
   |false=>rw[hx]at h;exact ig h
  ·rw[iFN a,qbv]
   cases hx:x==n with
   |true=>rw[hx]at h;exact .inl h
   |false=>rw[hx]at h;exact ig h
theorem kH {M:Model}{A:qaZ}{E:Value->qam->Prop}{s:qam}{a:Scope}{env:Env}{c:List (Str×Addr)}{Q:Env->qam->Prop}
  (d:Q (newEnv a s.heap.objs.size env.globals (qcN (s.heap.objs.size+1) a.names c) env.qual none .none (some env) qg1)
    { s with heap:=qfe (s.heap.push { cls:=.type "dict",data:=.dict #[] }) a.names }) :
  wpAny M A (newFunctionEnv a env.globals c [] env.qual none .none (some env)) Q E s:=by
 refine qac (wpAny_alloc ?_);refine qac (wpAny_layCells _ (λname kind b=>by cases hkc:kind==NameKind.cell<;>simp[hkc]) _ _ _ _ ?_);rw[qbk ..];refine qac ?_;exact qaq (qaq d)
theorem dF {prog:qaR}{w:World}{A:qaZ}{R:qhE->qam->Prop}{s:qam}{y a iter:Expr}{p:List Expr}{o:Scope}{pos:Pos}{z acc:Value}{env:Env} (I:Nat->qam->Prop)
  (turn:∀ n s,I n s->wpAny (model prog w) A (qg0 z) (λr d=>match r with
    |none=>R (.ok .next) d
    | some v=>wpAny (model prog w) A (qgF a z v) (λ_ b=>wpAny (model prog w) A (qgh a env v) (λ_ k=>
      wpAny (model prog w) A (forIn p true λc r=>if r=true then do let ok <-qjR c env (eval c env);pure (ForInStep.yield ok) else pure (ForInStep.yield r)) (λok e=>
       if ok=true then wpAny (model prog w) A (eval y env) (λx g=>
        wpAny (model prog w) A (call (.builtin "list.append") [acc,x]) (λ_ i=>∃ m,m<n/\I m i) (λ_ _=>False) g) (λ_ _=>False) e
       else ∃ m,m<n/\I m e) (λ_ _=>False) k) (λ_ _=>False) b) (λ_ _=>False) d) (λ_ _=>False) s)
  (n:Nat) (h:I n s) :
  qdM (model prog w) A (.compLoop (.ListComp y [⟨a,iter,p,0⟩] o pos) 0 z acc env) R s:=by
 refine codeAny_loop U I (λn s B=>?_) n h;refine wpAny_noted ?_;rw[compTurn_list];refine qac (qfO (qac (qcJ (turn n s B) (λr d j=>?_) λ_ _ h'=>h'.elim)));cases r with
 |none=>exact qaq j
 |some v=>
  refine qac (qcJ j (λ_ b l=>?_) λ_ _ h'=>h'.elim);refine qac (qcJ l (λ_ k t=>qac (qcJ t (λok e f=>?_) λ_ _ h'=>h'.elim)) λ_ _ h'=>h'.elim);cases ok with
  |false=>exact qaq ⟨U,f⟩
  |true=>
   exact qac (qac (qcJ f (λx g u=>qac (qcJ u (λ_ i q=>qaq (qaq ⟨U,q⟩)) λ_ _ h'=>h'.elim)) λ_ _ h'=>h'.elim))
def lcX (X:Cx) (a:Scope) (b:List (Str×Addr)) (Nc:List Str) (s:qam) (H:Hp) (C:Addr) (c:List Addr):Cx where
 prog:=X.prog
 w:=X.w
 K:=X.K
 mg:=X.mg
 base:=X.base
 A:=X.A
 N:=Nc
 s₀:=s
 H₀:=H
 env:=qhh a b C X.env
 outer:=X.stack
 stack:=X.stack
 ex:=c
 fn:=λx=>a.names.lookup x==some .cell
 calm:=X.calm
 pn:=[]
 xe:=λ_ _=>False
structure dB (X:Cx) (scope:Scope) (Nc:List Str) (emb:St->St):Prop where
 kind:scope.kind=.function
 nd:(scope.names.map (·.1)).Nodup
 nN:Nc.Nodup
 free:∀ x∈scope.names,x.2=.free->X.env.kindOf x.1=some .cell\/X.env.kindOf x.1=some .free
 len:∀ σ:St,σ.length=X.N.length->(emb σ).length=Nc.length
 emb:∀ σ:St,σ.length=X.N.length->∀ (i:Nat) (x:Str) (v:V),Nc[i]?=some x->(emb σ)[i]?=some (some v)->∃ j:Nat,X.N[j]?=some x/\σ[j]?=some (some v)/\scope.names.lookup x=some .free
section
variable {X:Cx}{D:List (Addr×Obj)}{R:St}{H:Hp}{s:qam}{a:Scope}{Nc:List Str}{emb:St->St}
theorem dB.clos (S:dB X a Nc emb) (ok:X.Ok):∀ x∈a.names,x.2=.free->∃ c,X.env.cells.lookup x.1=some c:=λx t h=>ok.has x.1 (S.free x t h)
theorem ur (S:dB X a Nc emb) (I:Inv X D R H s) {W:List Addr} (T:∀ b∈W,jr X D H b) (hfo:∀ b∈W,∃ o,s.heap.get? b=some o) {lo:Obj} (hlo:∀ v,lo.data≠.cell v) (hfr:lo.isFreed=false) :
  Inv (lcX X a (qcN (s.heap.objs.size+2) a.names (cJ X.env.cells a.names [])) Nc s H (s.heap.objs.size+1) W) [(s.heap.objs.size,lo)] (emb R) H
   { s with heap:=qfe ((s.heap.push lo).push { cls:=.type "dict",data:=.dict #[] }) a.names }:=by
 have M:((s.heap.push lo).push { cls:=.type "dict",data:=.dict #[] }).objs.size=s.heap.objs.size+2:=by rw[qbk,qbk]
 have N:(s.heap.push lo).objs.size=s.heap.objs.size+1:=by rw[qbk]
 have J:∀ b o,s.heap.get? b=some o->(qfe ((s.heap.push lo).push { cls:=.type "dict",data:=.dict #[] }) a.names).get? b=some o:=λb o e=>
  qdk _ _ b o (qah _ (qah _ e))
 have has:=S.clos I.ok;have w:∀ {x:Str}{c:Addr},(cJ X.env.cells a.names []).lookup x=some c->X.env.cells.lookup x=some c/\(x,NameKind.free)∈a.names:=λ{x c} h=>by
  rcases fT _ _ h with q|⟨G,L⟩
  ·cases q
  ·obtain⟨c',A⟩:=has _ G U
   have E:=A;rw[E]at L;exact⟨by rw[E,L];rfl,G⟩
 have d:∀ {x:Str}{c:Addr},(qcN (s.heap.objs.size+2) a.names _).lookup x=some c->
   _\/_:=λ{x c} h=>by
  rcases dk _ _ _ h with q|q
  ·exact .inl (w q)
  ·exact .inr q
 have l:∀ {x:Str}{c:Addr},X.env.cells.lookup x=some c->c<s.heap.objs.size:=λ{x c} h=>by
  obtain⟨v,z⟩:=I.cell x c h;exact z.lt
 have C:∀ b∈W,b<s.heap.objs.size:=λb hb=>by obtain⟨o,e⟩:=hfo b hb;exact qaz e
 have f:∀ p∈cJ X.env.cells a.names [],∃ x,X.env.cells.lookup x=some p.2:=by
  have Y:∀ (names:List _) (acc:List _),(∀ x∈names,x.2=.free->∃ c,X.env.cells.lookup x.1=some c)->(∀ p∈acc,∃ x,X.env.cells.lookup x=some p.2)->∀ p∈cJ X.env.cells names acc,∃ x,X.env.cells.lookup x=some p.2:=by
   intro names
   induction names with
   |nil=>intro acc _ h;exact h
   |cons z r ih=>
    intro acc V h;obtain⟨m,k⟩:=z;unfold cJ;by_cases J:(k==.free)=true
    ·rw[iFP J]
     refine ih _ (λx t=>V x (qak _ t)) λp g=>?_;rcases qaA.mp g with e|g
     ·obtain⟨c,hc⟩:=V _ qag (beq_iff_eq.mp J)
      exact⟨m,by rw[e,hc];rfl⟩
     ·exact h p g
    ·rw[iFN J]
     exact ih _ (λx t=>V x (qak _ t)) h
  exact Y _ _ has λp g=>nomatch g
 refine⟨⟨I.ok.mod,S.kind,I.ok.glob,I.ok.blt,qdc _,λx y c n B=>?_,λx t=>?_,λx c t h=>?_,I.ok.hd,I.ok.frames,.inl U,λb hb=>?_,I.bs,qaM I.ok.bsz I.sz,λb o e hb=>?_,λb hb=>?_,I.stack,I.stkFree⟩,
  rfl,I.bare,Un.kept J,⟨_,(Heap.Ns.new _ _).keeps (qdk _ _) |> λq=>by rw[N]at q;exact q,λi x v n B _=>?_⟩,λx c h=>?_,I.hok.fresh (qdc _),λx c h=>?_,λp g=>?_,I.hok.kept J,S.len R I.len⟩
 ·-- inj
  have P:=n;have Q:=B;rcases d P with⟨G,_⟩|⟨_,G⟩
  ·rcases d Q with⟨L,_⟩|⟨_,L⟩
   ·exact I.ok.inj x y c G L
   ·exact absurd (qaP (qaY (qaY (l G))) L) (qa5 _)
  ·refine pf a.names _ _ (λp g=>?_) P Q G
   obtain⟨z,hz⟩:=f p g;exact qaY (qaY (l hz))
 ·-- has
  have:∃ F,a.names.lookup x=some F/\(F=.cell\/F=.free):=by
   rcases t with q|q
   ·obtain⟨F,n,B⟩:=di q
    exact⟨F,n,B.elim (λe=>.inl e.symm) λe=>.inr e.1⟩
   ·obtain⟨F,n,B⟩:=di q
    exact⟨F,n,B.elim (λe=>.inr e.symm) λe=>by cases e.2⟩
  obtain⟨F,n,B⟩:=this;refine qcL.mp (qdz a.names _ _ ?_);rcases B with rfl|rfl
  ·exact .inl n
  ·exact .inr (fA _ _ (.inl (qbu n)))
 ·-- cab
  rcases d h with⟨_,q⟩|⟨_,q⟩
  ·have:=d6 S.nd q
   rw[(beq_iff_eq.mp t)]at this;cases this
  ·exact qaM (qds _ 2) q
 ·-- exf
  refine⟨qaD (qaY (C b hb)),λx c h=>?_⟩;rcases d h with⟨q,_⟩|⟨_,q⟩
  ·exact (T b hb).2.2.2.2.1 x c q
  ·intro e
   exact absurd (qaP (qaY (qaY (C b hb))) (e ▸ q)) (qa5 _)
 ·-- noex
  rcases (T b hb).2.2.2.1 with q|q
  ·exact I.ok.noex b o e q
  ·exact absurd (qaP (qaz (I.ok.bs b o e).1) q) (qa5 _)
 ·-- exfs
  intro hb2;rcases qaA.mp (I.stkSub b hb2) with q|q
  ·exact (T b hb).2.1 q
  ·exact (T b hb).2.2.1 q
 ·-- loc
  obtain⟨j,e1,e2,e3⟩:=S.emb R I.len i x v n B;have O:=(S.free (x,.free) (qbu e3) U);obtain⟨m,V,hl⟩:=I.loc;obtain⟨u,ru,lk⟩:=hl j x v e1 e2 (.inr O);refine⟨u,ru,.inr ⟨?_,?_⟩⟩
  ·rcases ig e3 with q|q
   ·exact .inr q
   ·exact .inl q
  ·rcases lk with⟨z,_⟩|⟨_,c,hc,K⟩
   ·rcases O with q|q<;>(rw[z]at q;cases q)
   ·obtain⟨c',A⟩:=qcL.mp (qdz a.names _ _ (.inr (fA _ _ (.inl (qbu e3)))))
    rcases d A with⟨q,_⟩|⟨q,_⟩
    ·rw[hc]at q
     cases q;exact⟨c,A,K.keeps J⟩
    ·have:=d6 S.nd q
     rw[e3]at this;cases this
 ·-- cell
  exact (dP a.names _ (cJ X.env.cells a.names []) (λp g=>by
   obtain⟨z,hz⟩:=f p g;obtain⟨v,q⟩:=I.cell z p.2 hz
   exact⟨v,q.keeps λb o e=>qah _ (qah _ e)⟩) (x,c) (by rw[M];exact qbu h))
 ·-- freeC
  rcases d h with⟨q,_⟩|⟨_,q⟩
  ·exact I.freeC x c q
  ·exact I.hok.fresh (qaM (qds _ 2) q)
 ·-- pin
  have hp':=by
   have:p∈([])++[(s.heap.objs.size,lo)]:=g
   simpa using this
  subst hp';refine⟨qdk _ _ _ _ (qah _ (qau _ hfr)),I.hok.fresh (qap _),qaD (qbN _),λhb=>?_,hlo⟩;rcases qaA.mp (I.stkSub _ hb) with q|q
  ·exact absurd I.lt (by rw[<-q];exact qa5 _)
  ·exact I.nofs (qap _) q
end
def PTs (X:Cx) (d:List Expr) (t:TT):Prop:=
 ∀ (a:List (Addr×Obj)) (s:qam) (b:St) (H:Hp) (Q:Bool->Hp->Prop),Inv X a b H s->t b H Q->
  wpAny (model X.prog X.w) X.A (forIn d true λc r=>if r=true then do let ok <-qjR c X.env (eval c X.env);pure (ForInStep.yield ok) else pure (ForInStep.yield r)) (TP X a b Q) X.xe s
def IC:TT:=λ_ H Q=>Q true H
theorem Db {X:Cx}:PTs X [] IC:=λ_ _ _ H _ I h=>wpAny_tests_nil ⟨H,I,h⟩
theorem Dc {X:Cx}{c:Expr}{t:TT} (d:PT X c t):PTs X [c] t:=λa s b H Q I h=>wpAny_tests_one (d a s b H Q I h)
def Sub (b a:St):Prop:=b.length=a.length/\∀ (i:Nat) (v:V),b[i]?=some (some v)->a[i]?=some (some v)
def Ga (J:It) (c:St) (g:TG) (tt:TT) (te:TE) (H1:Hp) (Q:VK):Prop:=∃ W:Nat->Nat->List V->Hp->Prop,(∃ m,W 0 m [] H1)/\∀ i m e H,W i m e H->
 (J.stop i H/\∀ D,H D=none->Q (.ref D) (upd H D (.lst e)))\/
 (J.go i H/\e.length<qaN/\∃ N:List V->Hp->Prop,(∀ d H',N d H'->∃ f,f<m/\W (i+1) f d H')/\∀ x H',J.yld i H x H'->g x c H' λa H2=>Sub c a/\tt a H2 λb H3=>if b=true then te a H3 λv H4=>N (e++[v]) H4 else N e H3)
def tLc (emb:St->St) (b:TI) (g:TG) (tt:TT) (te:TE):TE:=λa H Q=>b a H λJ H1=>Ga J (emb a) g tt te H1 Q
section
variable {X:Cx}{j:Scope}{Nc:List Str}{emb:St->St}{elt iter tg:Expr}{ifs:List Expr}{pos:Pos}{wi:TI}{g:TG}{tt:TT}{te:TE}
theorem D3 (S:dB X j Nc emb) (hc:X.calm=true) (hi:PI X tg iter wi)
  (hg:∀ f s H C A,PG (lcX X j f Nc s H C A) tg g) (ht:∀ f s H C A,PTs (lcX X j f Nc s H C A) ifs tt) (he:∀ f s H C A,PE (lcX X j f Nc s H C A) elt te)
  (hs:∀ x,qbE iter X.env x=pure x:=by intro _;rfl):PE X (.ListComp elt [⟨tg,iter,ifs,0⟩] j pos) (tLc emb wi g tt te):=by
 intro pins s σ H Q I h;refine qgZ U hs (jy (S.clos I.ok)) S.kind (λx hx hl=>d6 S.nd (by rw[<-hl];exact hx)) ?_;refine thn (hi pins s σ H _ I h) λv s1 h1=>thn h1 λitv P h2=>?_;obtain⟨it,A,tn,J,H2,e,I2,T,V,f2,W,⟨m0,w0⟩,turn⟩:=h2;subst e;refine qcx (kH ?_);rw[qbk ..];generalize hD:P.heap.objs.size=D;generalize hlo:({ cls:=.type "list",dict:=none,data:=.seq ([]:List Value).toArray }:Obj)=lo
 have fplt:∀ b∈A,b<P.heap.objs.size:=λb hb=>by obtain⟨o,e,_⟩:=T.obj _ _ V b hb;exact qaz e
 have I3:=ur (lo:=lo) S I2 f2 (λb hb=>by obtain⟨o,e,_⟩:=T.obj _ _ V b hb;exact⟨o,e⟩) (by rw[<-hlo];intro v z;cases z) (by rw[<-hlo];rfl);rw[hD]at I3;generalize hcells:qcN (D+2) j.names _=f at I3;generalize d:lcX X j f Nc P H2 (D+1) A=X' at I3;have M:∀ {H':Hp}{ps:List (Addr×Obj)},(∀ b∈A,H' b=none)->(∀ p∈ps,p.1=D)->∀ b∈A,jr X' ps H' b:=λ{H' ps} hn E b hb=>by
  have ok:=I3.ok;refine⟨hn b hb,?_,?_,.inl (by rw[<-d];exact hb),?_,λp K=>?_⟩
  ·exact (ok.exf b (by rw[<-d];exact hb)).1
  ·exact ok.exfs b (by rw[<-d];exact hb)
  ·exact (ok.exf b (by rw[<-d];exact hb)).2
  ·have hp':p∈([])++ps:=by rw[<-d]at K;exact K
   rw[(E p (by simpa using hp')),<-hD];exact qck (fplt b hb)
 have Dex:D∈X'.ex\/X'.s₀.heap.objs.size<=D:=.inr (by rw[<-d,<-hD];exact qap _);have Dloc:D≠X'.env.locals:=by rw[<-d];exact qaD (qbN _)
 have pD:=I3.pin (D,lo) (by rw[<-d];exact qax _ qag);have Dcell:∀ x c,X'.env.cells.lookup x=some c->c≠D:=λx c hc' e=>by
  obtain⟨v,o,ho,hd⟩:=I3.cell x c hc';rw[e,pD.1]at ho;cases ho;exact pD.2.2.2.2 v hd
 -- the F
 have F:∀ s3:qam,s3={ P with heap:=qfe ((P.heap.push lo).push { cls:=.type "dict",data:=.dict #[] }) j.names }->
   qdM (model X.prog X.w) X.A (.compLoop (.ListComp elt [⟨tg,iter,ifs,0⟩] j pos) 0 (.ref it) (.ref D) (qhh j f (D+1) X.env))
    (compPost (model X.prog X.w) X.A X.xe none (EP X pins σ Q) (.ref D) (D+1)) s3:=by
  rintro s3 rfl
  refine dF (λn s'=>∃ i ys l k H',Inv X' [(D,{ cls:=.type "list",data:=.seq l.toArray k })] (emb σ) H' s'/\aJ ys l/\tn i s'.heap/\(∀ b∈A,H' b=none)/\ys.length<=qaN/\W i n ys H') ?_ m0
   ⟨0,[],[],0,H2,?_,.nil,?_,λb hb=>(f2 b hb).1,qcc _,w0⟩
  ·rintro n s4 ⟨i,ys,l,k,H4,I4,rv,st4,fr4,hlen,w4⟩
   have E:∀ p∈[(D,({ cls:=.type "list",data:=.seq l.toArray k }:Obj))],p.1=D:=λp K=>by
    have:=qal.mp K
    rw[this]
   rcases turn i n ys H4 w4 with⟨stop,qn⟩|⟨go,hlt,N,hN,step⟩
   ·-- the end
    have TD:=T.done X' (by rw[<-d];rfl) (by rw[<-d];rfl) (by rw[<-d];rfl) (by rw[<-d];exact hc) i _ s4 (emb σ) H4 (λ_ _=>False) I4 (M fr4 E) st4 stop;rw[show X'.A=X.A by rw[<-d];rfl]at TD;refine thn TD λr s5 ⟨hr,I5⟩=>?_;subst hr;obtain⟨m5,hn5,_⟩:=id I5.loc;have eC:X'.env.locals=D+1:=by rw[<-d];rfl
    rw[eC]at hn5;refine⟨m5,hn5,λh' L=>?_⟩;have pD5:=I5.pin (D,{ cls:=.type "list",data:=.seq l.toArray k }) (by rw[<-d];exact qax _ qag)
    have neC:∀ b u,H4 b=some u->b≠D+1:=λb u e z=>by
     have:=I5.free
     rw[eC,<-z,e]at this;cases this
    have hD4:H4 D=none:=pD5.2.1;have un:=I5.base;have B:Un (frs X.stack) A H2 H4 P.heap s5.heap:=by rw[<-d]at un;exact un
    have w:∀ b o,P.heap.get? b=some o->b≠D/\b≠D+1:=λb o e=>by
     have q:=qaz e;rw[hD]at q;exact⟨qaD q,qaD (qaY q)⟩
    have h2D:H2 D=none:=by rw[<-hD];exact I2.fresh
    have hok':HOk X.prog X.w H4 h':=λb u e=>by
     have ob:cA X.prog X.w H4 s5.heap b u:=by have:=I5.hok b u e;rw[<-d]at this;exact this
     refine ob.stay (λc v hcv q=>(L.2 c ?_).trans q) (λ_ q=>q) λ_ _ q=>q;rcases hcv with z|z
     ·rw[z];exact neC b u e
     ·exact neC c _ z
    have hokD:HOk X.prog X.w (upd H4 D (.lst ys)) h':=λb u e=>by
     by_cases hb:b=D
     ·subst hb
      rw[upd_same]at e;cases e;exact⟨hlen,l,k,rv,(L.2 b (qaD (qbN _))).trans pD5.1⟩
     ·rw[upd_ne hb]at e
      refine (hok' b u e).stay (λ_ _ _ q=>q) (λc q=>?_) λc z q=>?_
      all_goals first
       |(rw[upd_ne (aK q hD4)];exact q)
       |(rw[upd_ne (aK z hD4)];exact z)
    refine⟨.ref D,upd H4 D (.lst ys),?_,U,qn D hD4⟩;refine I2.call' (s':={ s5 with heap:=h' }) (ch:=A) ?_ ⟨λb o e nb hb hx=>?_,λb o e nb hb hx=>?_,λb o e nb hx=>?_,λb o e hx=>?_,λb xs e=>?_,λb o u e=>?_,λb ps e=>?_⟩ hokD I5.bare (λb hb=>?_)
    ·have:=I5.os
     rw[<-d]at this;exact this
    ·exact (L.2 b (w b o e).2).trans (B.keep b o e nb hb hx)
    ·obtain⟨sl,q⟩:=B.slot b o e nb hb hx
     exact⟨sl,(L.2 b (w b o e).2).trans q⟩
    ·rw[upd_ne (w b o e).1]
     exact B.free b o e nb hx
    ·obtain⟨o',q⟩:=B.there b o e hx
     exact⟨o',(L.2 b (w b o e).2).trans q⟩
    ·rw[upd_ne (aK e h2D)]
     exact B.tups b xs e
    ·rw[upd_ne (aK e h2D)]
     exact B.frzs b o u e
    ·obtain⟨m,q⟩:=B.tbls b ps e
     exact⟨m,by rw[upd_ne (aK e h2D)];exact q⟩
    ·obtain⟨q0,q1,q2,q3,q4,q5⟩:=f2 b hb
     exact⟨q3,q1,q4,q5⟩
   ·-- a turn
    have hA:X'.A=X.A:=by rw[<-d];rfl
    have hP:X'.prog=X.prog:=by rw[<-d];rfl
    have hw:X'.w=X.w:=by rw[<-d];rfl
    have hE:X'.env=qhh j f (D+1) X.env:=by rw[<-d];rfl
    have hxe:X'.xe=λ_ _=>False:=by rw[<-d];rfl
    have TI':=T.item X' hP hw (by rw[<-d];rfl) (by rw[<-d];exact hc) i _ s4 (emb σ) H4 (λ_ _=>False) I4 (M fr4 E) st4 go;rw[hA]at TI';refine thn TI' λr s5 ⟨u,hr,h5⟩=>?_;subst hr;refine thn h5 λ_ s6 ⟨x,H6,I6,r6,y6,st6,fr6⟩=>?_;have I6':=I6.pinned (M fr6 E) (T.obj _ _ st6);have G:=hg f P H2 (D+1) A;have TT':=ht f P H2 (D+1) A;have EE:=he f P H2 (D+1) A;rw[d]at G TT' EE;have G':=G _ s6 (emb σ) H6 x u _ I6' r6 (step x H6 y6);rw[hA,hP,hw,hE,hxe]at G';refine thn G' λ_ s7 ⟨σ7,H7,I7,Y,q7⟩=>?_;have T':=TT' _ s7 σ7 H7 _ I7 q7;rw[hA,hP,hw,hE,hxe]at T';refine thn T' λok s8 ⟨H8,I8,q8⟩=>?_
    -- what is pinned
    have t:∀ {σ9:St}{H9:Hp}{R:qam},Inv X' ([(D,({ cls:=.type "list",data:=.seq l.toArray k }:Obj))]++oA A s6.heap) σ9 H9 R->tn (i+1) R.heap/\∀ b∈A,H9 b=none:=λ{σ9 H9 R} I9=>
     ⟨T.keep _ _ _ st6 λb hb o e=>(I9.pin (b,o) (qax _ (qax _ (cN hb e)))).1,λb hb=>by
      obtain⟨o,e,_⟩:=T.obj _ _ st6 b hb
      exact (I9.pin (b,o) (qax _ (qax _ (cN hb e)))).2.1⟩
    cases ok with
    |false=>
     rw[iFN (by decide)]at q8;rw[iFN (by decide)];obtain⟨m',hm,w8⟩:=hN _ _ q8;exact⟨m',hm,i+1,ys,l,k,H8,I8.unpinned.weak Y.1 Y.2,rv,(t I8).1,(t I8).2,hlen,w8⟩
    |true=>
     rw[iFP U]at q8;rw[iFP U];have E':=EE _ s8 σ7 H8 _ I8 q8;rw[hA,hP,hw,hE,hxe]at E';refine thn E' λy R ⟨v9,H9,I9,r9,n9⟩=>?_;obtain⟨m',hm,w9⟩:=hN _ _ n9;have O:=I9.pin (D,{ cls:=.type "list",data:=.seq l.toArray k }) (qax _ (qaS _ qag))
     have hl:=rv.length;have I9n:Inv X' [] σ7 H9 R:=I9.pins_of λp K=>nomatch K
     refine qc9 qfE ⟨_,O.1,U⟩ qfs (qfk _ _) (qfq D l.toArray k y (by rw[qaK];lia)) ⟨O.1,?_⟩;have up:∃ k':Nat,(R.heap.update D (qcX λxs=>xs.push y)).get? D=some { cls:=.type "list",data:=.seq (l++[y]).toArray k' }:=by
      have q:=qfj O.1 (λxs:Array Value=>xs.push y);simp only[qhr]at q;exact⟨_,q⟩
     obtain⟨k',up⟩:=up;have hoth:∀ b o,b≠D->R.heap.get? b=some o->(R.heap.update D (qcX λxs=>xs.push y)).get? b=some o:=λb o hb e=>(qaT R.heap _ (qbr hb)).trans e;have I10:=I9n.turned (t':=R.toks) hoth O.2.1 Dloc Dex Dcell (λp K=>absurd (show p∈([]:List (Addr×Obj)) by rw[<-d]at K;exact K) (by simp));refine⟨m',hm,i+1,ys++[v9],l++[y],k',H9,(I10.weak Y.1 Y.2).pins_of (λp K=>?_),rv.append (.cons r9 .nil),T.keep _ _ _ (t I9).1 (λb hb o e=>hoth b o (by rw[<-hD];exact qaD (fplt b hb)) e),(t I9).2,?_,w9⟩
     ·have:=qal.mp K
      subst this;exact⟨up,O.2.1,Dloc,(pD.2.2.2.1),λv z=>by cases z⟩
     ·rw[qav,qcf]
      lia
  ·rw[<-hlo.symm]
   exact I3
  ·exact T.keep _ _ _ V λb hb o e=>qdk _ _ b o (qah _ (qah _ e))
 refine qhp ?_ ?_
 ·exact F _ U
 ·refine T.self X.A 0 _ _ _ (T.keep _ _ _ V λb hb o e=>qdk _ _ b o (qah _ (qah _ e))) ?_
  exact F _ U
end
end L2
namespace L2
open PySem PySem.Spec PyProof.Rows
open PySem.AutoSeq1 (wpAny_loadPart')
section
variable {prog:qaR}{w:World}{A:qaZ}{E:Value->qam->Prop}{s:qam}
theorem fM {d l:Addr}{i:Nat}{b}{x:Value}{Q:Value->qam->Prop} (c:s.heap.IsTupleIter d l i)
  (q:s.heap.IsTuple l b) (z:b[i]?=some x)
  (y:∀ h',h'.IsTupleIter d l (i+1)->qdw d s.heap h'->Q x { s with heap:=h' }) :
  wpAny (model prog w) A (qcU (.ref d)) Q E s:=by
 obtain⟨o,f,C,hd⟩:=id c;obtain⟨F,g,_,D,j⟩:=q
 refine qac (qbR c.typeIs qdl
  (qb6 qdl c.typeIs qgu ?_ (qgn _)))
 show wpAny _ _ (field _ 0 >>= _) _ _ s;refine qac (qci f hd (x:=.ref l) U ?_);refine qac (qci f hd U ?_);refine qac (qbP g j ?_);simp only[qaE,z];refine qac (qfv f hd (by simp) (qaq ⟨x,U,qaq (y _ ?_ (qdJ ..))⟩))
 exact⟨_,qch _ f (qgR (qef hd _)),(qhI ..).trans C,by
  rw[qef hd];simp[qgE]⟩
theorem gw {d l:Addr}{i:Nat}{b}{Q:Value->qam->Prop} (p:A.handled=none)
  (c:s.heap.IsTupleIter d l i) (q:s.heap.IsTuple l b) (z:b[i]?=none)
  (u:∀ h' e,qg9 d s.heap h'->(∃ o,h'.get? e=some o/\o.cls=.type "StopIteration")->E (.ref e) { s with heap:=h' }) :
  wpAny (model prog w) A (qcU (.ref d)) Q E s:=by
 obtain⟨o,f,C,hd⟩:=id c;obtain⟨F,g,_,D,j⟩:=q
 refine qac (qbR c.typeIs qdl
  (qb6 qdl c.typeIs qgu ?_ (qgn _)))
 show wpAny _ _ (field _ 0 >>= _) _ _ s;refine qac (qci f hd (x:=.ref l) U ?_);refine qac (qci f hd U ?_);refine qac (qbP g j ?_);simp only[qaE,z];refine qac (qdV (qac (qfv f hd (by simp) ?_)));refine qac ?_;refine qac (m:=qj7 _ _) (wpAny_of_eq (a:=Value.none) (by first|rfl|(rfl)) ?_)
 refine qcx ?_ (by size_fits);refine qac (wpAny_handled ?_)
 first|rw[p]|rw[p]
 refine qac (qaq (wpAny_throw ?_));exact u _ _ (((qdJ ..).extBut.push _).push _) ⟨_,qau _ U,U⟩
theorem iH (p:A.handled=none) (d l:Addr) (t:l≠d) (b:Array Value) :
  Draws prog w A d [d,l] b.size (λi v=>b[i]?=some v) (λi h=>h.IsTupleIter d l i/\h.IsTuple l b) where
 live:=λ_ _ st=>let ⟨o,f,_⟩:=st.1;⟨o,f⟩
 frame:=λ_ _ _ st B=>⟨st.1.at λo e=>B d (by simp) o e,by
  obtain⟨o,e,r⟩:=st.2
  exact⟨o,B l (by simp) o e,r⟩⟩
 item:=λi s Q E hi st y=>by
  refine fM st.1 st.2 (x:=b[i]) (by simp[hi]) λh' k n=>?_;refine y _ h' s.toks (by simp[hi]) ⟨k,?_⟩ n;obtain⟨o,e,r⟩:=st.2;exact⟨o,(n.2 l t).trans e,r⟩
 done:=λs Q E st u=>gw p st.1 st.2 (by simp) u
end
theorem iZ (l:Addr) (a:Array Value) (n:Nat) (dct:Option Addr) (i:Array (Option Value)) :
  Meets (qfG.«enumerate.__new__» ⟨[.type "enumerate",.ref l],[]⟩) (λ_ R s=>s.heap.get? l=some { cls:=.type "tuple",dict:=dct,data:=.seq a n,slots:=i }/\
   R (.ok (.ret (.ref (s.heap.push { cls:=.type "tuple_iterator",data:=.fields #[.ref l,.int 0 0] }).objs.size)))
    { s with heap:=(s.heap.push { cls:=.type "tuple_iterator",data:=.fields #[.ref l,.int 0 0] }).push { cls:=.type "enumerate",data:=.fields #[.none,.bool false,.ref s.heap.objs.size,qgE 0,.none,.none] } }):=
 .of_wp λprog w A R s h=>by
  obtain⟨j,g,d,k,os⟩:=s;obtain⟨b,h⟩:=h;have f:=sub_enumerate;have e:Heap.IsTuple _ l a:=⟨_,b,U,n,U⟩
  wp_walk using wpAny_loadPart' b
  refine wpAny_stack_any λst=>qaq ?_;split
  ·rename_i c _ _ _ _ _
   cases (c==Value.type "enumerate")
   ·wp_walk using wpAny_loadPart' b,qdL e
    exact⟨_,U,h⟩
   ·wp_walk using wpAny_loadPart' b,qdL e
    exact⟨_,U,h⟩
  ·wp_walk using wpAny_loadPart' b,qdL e
   exact⟨_,U,h⟩
theorem iD {prog:qaR}{w:World}{A:qaZ}{E:Value->qam->Prop}{s:qam}{l:Addr}{a:Array Value}{Q:Value->qam->Prop} (i:s.heap.IsTuple l a)
  (h:∀ h',IsEnum h' (s.heap.objs.size+1) s.heap.objs.size 0 .none->h'.IsTupleIter s.heap.objs.size l 0->h'.objs.size=s.heap.objs.size+2->
    (∀ b o,s.heap.get? b=some o->h'.get? b=some o)->Q (.ref (s.heap.objs.size+1)) { s with heap:=h' }) :
  wpAny (model prog w) A (call (.type "enumerate") [.ref l]) Q E s:=by
 obtain⟨⟨c,dct,dt,g⟩,f,j,n,hd⟩:=i;subst j hd;refine callType_new F.called_enumerate (by decide) (F.typeCall_enumerate_1 _) (F.newCall_enumerate_1 _) (λobj=>F.args_object_init_2 obj _) F.entry_enumerate_new
  (iZ l a n dct g) ⟨f,?_⟩
 have d:(s.heap.push { cls:=.type "tuple_iterator",data:=.fields #[.ref l,.int 0 0] }).objs.size=s.heap.objs.size+1:=qbk ..
 rw[d];have e:=by
  have:=qau (s.heap.push { cls:=.type "tuple_iterator",data:=.fields #[.ref l,.int 0 0] })
   (o:={ cls:=.type "enumerate",data:=.fields #[.none,.bool false,.ref s.heap.objs.size,qgE 0,.none,.none] }) U
  rw[d]at this;exact this
 refine⟨⟨_,e,U⟩,h _ e ⟨_,qah _ (qau _ U),U,U⟩ (by rw[qbk,d]) λb o x=>qah _ (qah _ x)⟩
section
variable {X:Cx}{a:List (Addr×Obj)}{l:St}{H:Hp}{s:qam}{h':Heap}{i:List Addr}
theorem jr.ch (h:∀ b∈i,jr X a H b):∀ b∈i,(b∈X.ex\/X.s₀.heap.objs.size<=b)/\b≠X.env.locals/\(∀ x c,X.env.cells.lookup x=some c->c≠b)/\∀ p∈X.pn++a,p.1≠b:=λb hb=>
 let ⟨_,f1,_,f3,f4,f5⟩:=h b hb
 ⟨f3,f1,f4,f5⟩
theorem Inv.turns {t':Nat} (I:Inv X a l H s) (h:∀ b∈i,jr X a H b) (k:∀ b o,b∉i->s.heap.get? b=some o->h'.get? b=some o):Inv X a l H { s with heap:=h',toks:=t' }:=by
 have f:∀ b u,H b=some u->b∉i:=λb u e z=>by have:=(h b z).1;rw[e]at this;cases this
 refine I.step (jr.ch h) (λb o _ _ d e _=>k b o d e) (λb o _ _ d e _=>⟨o.slots,k b o d e⟩) (λ_ _ _ _ n=>n)
  (λb o d e=>⟨o,k b o d e⟩) (λ_ _ e=>e) (λ_ _ _ e=>e) (λb ps e=>⟨#[],by rw[e];simp⟩) (λm y=>?_) (λb u e=>?_) I.bare
 ·obtain⟨o,es,t,w,r⟩:=y
  exact⟨o,es,t,k _ o (λz=>(h _ z).2.1 U) w,r⟩
 ·refine (I.hok b u e).stay (λc v d q=>k c v ?_ q) (λ_ q=>q) λ_ _ q=>q
  rcases d with z|z
  ·rw[z];exact f b u e
  ·exact f c _ z
theorem Inv.turnsT {t':Nat}{T:Addr}{xs:List V}{j:Array Value} (I:Inv X a l H s) (h:∀ b∈i,jr X a H b) (k:∀ b o,b∉i->s.heap.get? b=some o->h'.get? b=some o)
  (A:s.heap.objs.size<=T) (D:fQ h' T j) (C:aJ xs j.toList) (B:xs.length<=qaN):Inv X a l (upd H T (.tup xs)) { s with heap:=h',toks:=t' }:=by
 have f:∀ b u,H b=some u->b∉i:=λb u e z=>by have:=(h b z).1;rw[e]at this;cases this
 have g:=I.hok.fresh A;refine I.step (jr.ch h) (λb o _ _ d e _=>k b o d e) (λb o _ _ d e _=>⟨o.slots,k b o d e⟩) (λb o _ e n=>by rw[upd_ne ((λb o e=>qaD (qaP (qaz e) A)) b o e)];exact n)
  (λb o d e=>⟨o,k b o d e⟩) (λb _ e=>by rw[upd_ne (aK e g)];exact e) (λb _ _ e=>by rw[upd_ne (aK e g)];exact e) (λb ps e=>⟨#[],by rw[upd_ne (aK e g),e];simp⟩) (λm y=>?_) (λb u e=>?_) I.bare
 ·obtain⟨o,es,t,w,r⟩:=y
  exact⟨o,es,t,k _ o (λz=>(h _ z).2.1 U) w,r⟩
 ·by_cases hb:b=T
  ·subst hb
   rw[upd_same]at e;cases e;refine⟨B,j.toList,C,?_⟩;simpa using D
  ·rw[upd_ne hb]at e
   refine (I.hok b u e).stay (λc v d q=>k c v ?_ q) (λc q=>?_) λc z q=>?_
   ·rcases d with z|z
    ·rw[z];exact f b u e
    ·exact f c _ z
   all_goals first
    |(rw[upd_ne (aK q g)];exact q)
    |(exact z)
end
def Ite (S:Hp->List V->Prop):It:=
 ⟨λi H=>∃ xs x,S H xs/\xs[i]?=some x,λi H x H'=>∃ T v,(∀ xs,S H xs->xs[i]?=some v)/\H T=none/\x=.ref T/\H'=upd H T (.tup [.int i,v]),λi H=>∃ xs,S H xs/\xs.length=i⟩
theorem wB {P:qaR}{w:World}{K:qae}{n:List Expr}{k:Nat}{pos:Pos} (a g e:Addr) (j:e≠g) (B:a≠e) (D:a≠g) :
  vh P w K (.Tuple n k pos) (Ite λH xs=>SqL K H a xs) [e,g] e (λi h=>(∃ f,IsEnum h e g i f)/\h.IsListIter g a i) where
 mem:=by simp
 obj:=λi h st b hb=>by
  rcases qaA.mp hb with rfl|hb
  ·obtain⟨⟨f,q⟩,_⟩:=st
   exact⟨_,q,λv z=>by cases z⟩
  ·rw[qal.mp hb]
   obtain⟨_,o,e,c,d⟩:=st;exact⟨o,e,λv z=>by rw[d]at z;cases z⟩
 keep:=λi h h' st M=>⟨let ⟨f,q⟩:=st.1;⟨f,M e (by simp) _ q⟩,st.2.at λo q=>M g (by simp) o q⟩
 item:=by
  intro X hP hw hK Q i F s σ H E I O st hg;subst hP hw hK;obtain⟨xs,x,N,hx⟩:=hg;obtain⟨l,R,p,hz⟩:=I.list N;obtain⟨u,hu,ru⟩:=R.get hx;have W:=qfm (qjJ (prog:=X.prog) (w:=X.w) (A:=X.A.in1) (I.ok.hd Q) g a D l.toArray) e j (by simp[j,qbr B]) (by simp);have hi:=by
   simpa using ((qat.mp hu).1)
  obtain⟨⟨ol,G⟩,m⟩:=st;refine qhb (qjJ (A:=X.A.in1) (I.ok.hd Q) g a D l.toArray) G ⟨m,p.isList⟩ hi j (by simp[j,qbr B]) λy h1 t hy ho Y ht hsz hk=>⟨_,U,?_⟩;have V:(λ_ (T) (h)=>(∃ x,IsEnumOut h e g _ x T)/\_/\T≠e/\T≠g) i s.heap.objs.size h1:=⟨⟨_,ho⟩,Y,qck (qaz G),qck (let ⟨_,q,_⟩:=m;qaz q)⟩;have M:∀ b o,b∉[e,g]->s.heap.get? b=some o->h1.get? b=some o:=λb o hb q=>hk b o (λz=>hb (by simp[z])) (λz=>hb (by simp[z])) q;generalize eT:s.heap.objs.size=T at ht ho V ⊢;have hT:=qdx eT;have r:∃ tk,tk=t+1:=⟨_,U⟩;obtain⟨tk,r⟩:=r;rw[<-r];have ey:=by
   have C:=by simpa using hy
   rw[hu]at C;exact (qaQ C).symm
  subst ey;refine W.go n k pos i T _ _ _ V λh2 L J=>?_;have nT:=W.apart i T _ V;refine⟨.ref T,_,?_,U,⟨T,x,λys hy=>by rw[I.list_inj hy N];exact hx,I.hok.fresh hT,U,U⟩,⟨L.1,L.2.1⟩,λb hb=>?_⟩
  ·exact (I.turnsT O (λb o hb q=>J b o hb (M b o hb q)) hT ⟨_,J T _ nT ht,U,⟨_,U⟩,U⟩ (.cons ⟨t,U⟩ (.cons ru .nil)) (by show 2<=qaN;decide))
  ·rw[upd_ne (show b≠T from λz=>nT (z ▸ hb))]
   exact (O b hb).1
 done:=by
  intro X hP hw hK Q i F s σ H E I O st hg;subst hP hw hK;obtain⟨xs,N,hx⟩:=hg;obtain⟨l,R,p,hz⟩:=I.list N;have hl:=R.length;have S:l.toArray[i]?=none:=by simp;lia
  obtain⟨⟨f,he⟩,hit⟩:=st
  -- the end at place i
  refine wpAny_pyNext_enum_end (I.ok.hd Q) he hit p.isList S λh' eb=>⟨U,?_⟩;exact I.turns O λb o hb q=>eb b o (by simp at hb;exact hb.2) q
 self:=λ_ _ _ _ _ st h=>let ⟨⟨_,he⟩,_⟩:=st;qeK he h
theorem wC {P:qaR}{w:World}{K:qae}{n:List Expr}{k:Nat}{pos:Pos} (a g e:Addr) (f:e≠g) (r:a≠e) (B:a≠g) :
  vh P w K (.Tuple n k pos) (Ite λH xs=>SqT K H a xs) [e,g] e (λi h=>(∃ l,IsEnum h e g i l)/\h.IsTupleIter g a i) where
 mem:=by simp
 obj:=λi h st b hb=>by
  rcases qaA.mp hb with rfl|hb
  ·obtain⟨⟨l,q⟩,_⟩:=st
   exact⟨_,q,λv z=>by cases z⟩
  ·rw[qal.mp hb]
   obtain⟨_,o,e,c,d⟩:=st;exact⟨o,e,λv z=>by rw[d]at z;cases z⟩
 keep:=λi h h' st C=>⟨let ⟨l,q⟩:=st.1;⟨l,C e (by simp) _ q⟩,st.2.at λo q=>C g (by simp) o q⟩
 item:=by
  intro X Y hw hK Q i F s σ H E I O st hg;subst Y hw hK;obtain⟨xs,x,N,hx⟩:=hg;obtain⟨j,R,p,hz⟩:=I.tuple N;obtain⟨u,hu,ru⟩:=R.get hx;have W:=qfm (iH (prog:=X.prog) (w:=X.w) (A:=X.A.in1) (I.ok.hd Q) g a B j.toArray) e f (by simp[f,qbr r]) (by simp);have hi:=by
   simpa using ((qat.mp hu).1)
  obtain⟨⟨ol,G⟩,m⟩:=st;refine qhb (iH (A:=X.A.in1) (I.ok.hd Q) g a B j.toArray) G ⟨m,p⟩ hi f (by simp[f,qbr r]) λy h1 t hy ho V ht hsz hk=>⟨_,U,?_⟩;have S:(λ_ (T) (h)=>(∃ x,IsEnumOut h e g _ x T)/\_/\T≠e/\T≠g) i s.heap.objs.size h1:=⟨⟨_,ho⟩,V,qck (qaz G),qck (let ⟨_,q,_⟩:=m;qaz q)⟩;have C:∀ b o,b∉[e,g]->s.heap.get? b=some o->h1.get? b=some o:=λb o hb q=>hk b o (λz=>hb (by simp[z])) (λz=>hb (by simp[z])) q;generalize eT:s.heap.objs.size=T at ht ho S ⊢;have hT:=qdx eT;have M:∃ tk,tk=t+1:=⟨_,U⟩;obtain⟨tk,M⟩:=M;have ey:=by
   have D:=by simpa using hy
   rw[hu]at D;exact (qaQ D).symm
  subst ey;refine W.go n k pos i T _ _ _ S λh2 L J=>?_;have nT:=W.apart i T _ S;refine⟨.ref T,_,?_,U,⟨T,x,λys hy=>by rw[I.tuple_inj hy N];exact hx,I.hok.fresh hT,U,U⟩,⟨L.1,L.2.1⟩,λb hb=>?_⟩
  ·exact (I.turnsT O (λb o hb q=>J b o hb (C b o hb q)) hT ⟨_,J T _ nT ht,U,⟨_,U⟩,U⟩ (.cons ⟨t,U⟩ (.cons ru .nil)) (by show 2<=qaN;decide))
  ·rw[upd_ne (show b≠T from λz=>nT (z ▸ hb))]
   exact (O b hb).1
 done:=by
  intro X Y hw hK Q i F s σ H E I O st hg;subst Y hw hK;obtain⟨xs,N,hx⟩:=hg;obtain⟨j,R,p,hz⟩:=I.tuple N;have hl:=R.length;have hi:i=j.toArray.size:=by simp;lia
  subst hi;refine (qfm (iH (A:=X.A.in1) (I.ok.hd Q) g a B j.toArray) e f (by simp[f,qbr r]) (by simp)).done s _ _ ⟨st.1,st.2,p⟩ λh' tk C=>⟨U,I.turns O C⟩
 self:=λ_ _ _ _ _ st h=>let ⟨⟨_,he⟩,_⟩:=st;qeK he h
section
variable {X:Cx}
def ED (K:qae) (x:TA):TI:=λy H R=>x y H λN H1=>∃ a,N=[.ref a]/\(∃ xs,SqL K H1 a xs)/\R (Ite λH xs=>SqL K H a xs) H1
theorem AW {f:List Expr}{k:Nat}{j:Pos}{a:Expr}{x:TA}{p pos:Pos} (hg:Gl X "enumerate") (T:X.mg "enumerate" = none) (ha:PA X [a] x) (hs:qbA [a] X.env=[(false,eval a X.env)]:=by rfl) :
  PI X (.Tuple f k j) (.Call (.Name "enumerate" p) [a] [] pos) (ED X.K x):=by
 intro c s y H R I h;refine Call_ (lx I hg T qj8 (qcn (thn (ha pos c s y H _ I h) λC s1 ⟨N,H1,I1,Y,q1⟩=>?_) hs U));obtain⟨l,e,⟨xs,D⟩,q⟩:=q1;subst e;cases Y with
 |cons r w=>
  cases w;cases r;obtain⟨B,m,P,W⟩:=I1.list D;refine call_enumerate_list P.isList λh' L E hsz F=>qeK L ?_;have d:l<s1.heap.objs.size:=by obtain⟨_,_,e,_⟩:=P;exact qaz e
  refine⟨_,_,_,_,H1,U,I1.kept F,wB l s1.heap.objs.size _ (qeG _) (qaD (qaY d)) (qaD d),⟨⟨_,L⟩,E⟩,λb hb=>?_,q⟩;have g:s1.heap.objs.size<=b:=by
   rcases qaA.mp hb with e|hb
   ·rw[e];exact qdc _
   ·rw[qal.mp hb];exact qap _
  exact I1.fpOk g (I1.hok.fresh g)
def EF (K:qae) (x:TA):TI:=λy H R=>x y H λN H1=>∃ a,N=[.ref a]/\(∃ xs,SqT K H1 a xs)/\R (Ite λH xs=>SqT K H a xs) H1
theorem AX {f:List Expr}{k:Nat}{j:Pos}{a:Expr}{x:TA}{p pos:Pos} (hg:Gl X "enumerate") (T:X.mg "enumerate" = none) (ha:PA X [a] x) (hs:qbA [a] X.env=[(false,eval a X.env)]:=by rfl) :
  PI X (.Tuple f k j) (.Call (.Name "enumerate" p) [a] [] pos) (EF X.K x):=by
 intro c s y H R I h;refine Call_ (lx I hg T qj8 (qcn (thn (ha pos c s y H _ I h) λC s1 ⟨N,H1,I1,Y,q1⟩=>?_) hs U));obtain⟨l,e,⟨xs,D⟩,q⟩:=q1;subst e;cases Y with
 |cons r w=>
  cases w;cases r;obtain⟨B,m,P,W⟩:=I1.tuple D;refine iD P λh' L E hsz F=>qeK L ?_;have d:l<s1.heap.objs.size:=by obtain⟨_,e,_⟩:=P;exact qaz e
  refine⟨_,_,_,_,H1,U,I1.kept F,wC l s1.heap.objs.size _ (qeG _) (qaD (qaY d)) (qaD d),⟨⟨_,L⟩,E⟩,λb hb=>?_,q⟩;have g:s1.heap.objs.size<=b:=by
   rcases qaA.mp hb with e|hb
   ·rw[e];exact qdc _
   ·rw[qal.mp hb];exact qap _
  exact I1.fpOk g (I1.hok.fresh g)
theorem wJ {ns:List Int}:∀ {C:List Value},aJ (ns.map V.int) C->∃ xs:Array (Int×Tok),C.toArray=intItems xs/\xs.toList.map (·.1)=ns:=by
 induction ns with
 |nil=>intro C r;cases r;exact⟨#[],by simp[intItems],U⟩
 |cons n ns ih=>
  intro C r;cases r with
  |cons r w=>
   obtain⟨t,rfl⟩:=r;obtain⟨xs,e,e2⟩:=ih w;refine⟨#[(n,t)]++xs,?_,by simp[e2]⟩;have e':=congrArg qgM e;simp[intItems]at e' ⊢;exact e'
theorem zR:bO X (.builtin "sum") (λxs H Q=>X.calm=true/\∃ (a:Addr) (ns:List Int),xs=[.ref a]/\SqL X.K H a (ns.map V.int)/\Q (.int ns.sum) H):=by
 intro c s y H xs C Q I m h;obtain⟨hc,a,ns,rfl,D,q⟩:=h;cases m with
 |cons r w=>
  cases w;cases r;obtain⟨B,m,p,W⟩:=I.list D;obtain⟨ps,e1,e2⟩:=wJ m;have hl:=p.isList;rw[e1]at hl;refine sum_intListG (I.ok.hd hc) hl λh' tk t' F=>?_;refine⟨.int ns.sum,H,I.kept F,⟨t',?_⟩,q⟩;rw[preSum_eq,qcZ (by simp),e2]
theorem zQ:bO X (.builtin "all") (λxs H Q=>X.calm=true/\∃ (a:Addr) (bs:List Bool),xs=[.ref a]/\SqL X.K H a (bs.map V.bl)/\Q (.bl (bs.all id)) H):=by
 intro c s y H xs C Q I m h;obtain⟨hc,a,bs,rfl,D,q⟩:=h;cases m with
 |cons r w=>
  cases w;cases r;obtain⟨B,m,p,W⟩:=I.list D;have d:a<s.heap.objs.size:=by obtain⟨_,_,e,_⟩:=p;exact qaz e
  have G:=by have:=m.length;simpa using this.symm
  refine call_all_walk (qdm p.isList ?_);refine⟨s.heap.objs.size,_,_,_,_,_,λi=>(bs[i]?).getD true,U,qiY (A:=X.A.in1) (I.ok.hd hc) s.heap.objs.size a (qaD d) B.toArray,⟨⟨_,qau _ U,U,U⟩,p.isList.push _⟩,?_,λh' tk F=>?_⟩
  ·intro i v s' Q' E' hv S
   have J:=by simpa using hv
   have hi:=(qat.mp J).1;obtain⟨b,hb⟩:∃ b,bs[i]?=some b:=⟨bs[i]'(by lia),by simp[show i<bs.length by lia]⟩
   have:(bs.map V.bl)[i]?=some (.bl b):=by rw[qaF,hb];rfl
   obtain⟨u,hu,ru⟩:=m.get this;rw[J]at hu;cases hu;cases ru;have O:Q' ((bs[i]?).getD true) s':=S;rw[hb]at O;exact qcw O
  ·refine⟨_,H,I.kept (λb o e=>F b o (λz=>absurd (qaz e) (by rw[qal.mp z];exact qa5 _)) (qah _ e)),?_,q⟩
   congr 1
   have:∀ n,n=bs.length->((qan n).all λi=>(bs[i]?).getD true)=bs.all id:=by
    intro n hn;rw[qeQ,qa6,qa6];constructor
    ·intro h b hb
     obtain⟨i,hi,e⟩:=qbQ.mp hb
     have:=h i (qaH.mpr (by lia))
     simp[hi,e]at this;exact this
    ·intro h i hi
     have hi':=qaH.mp hi;have M:i<bs.length:=by lia
     simp[M];exact h _ (qa2 _)
   exact this _ (by simpa using G)
end
def eM (k:Nat) (js:List Nat) (a:St):St:=qaL k none++js.map λj=>(a[j]?).getD none
def uq (a:Scope) (ns:List (Str×qca)) (N Nc:List Str) (k:Nat) (js:List Nat):Bool:=
 decide ((a.names.map (·.1)).Nodup)&&decide Nc.Nodup&&decide (Nc.length=k+js.length) &&
 (a.names.all λx=>x.2 != .free||ns.lookup x.1==some .cell||ns.lookup x.1==some .free) &&
 ((qan js.length).all λi=>match Nc[k+i]?,js[i]? with|some x,some j=>N[j]?==some x&&a.names.lookup x==some .free|_,_=>false)
theorem pU {X:Cx}{a:Scope} (ns:List (Str×qca)) (N Nc:List Str) (k:Nat) (js:List Nat) (hns:X.env.scope.names=ns) (hN:X.N=N) (g:a.kind=.function) (h:uq a ns N Nc k js=true):dB X a Nc (eM k js):=by
 unfold uq at h;simp only[qbg,decide_eq_true_eq]at h;obtain⟨⟨⟨⟨e,q⟩,l⟩,f⟩,m⟩:=h;refine⟨g,e,q,λx p d=>?_,λb _=>?_,λb _ i x v n e2=>?_⟩
 ·have:=qa6.mp f x p
  rw[d]at this;simp only[qhZ,beq_iff_eq,bne_self_eq_false,qa8,false_or]at this;unfold qle;rw[hns];exact this
 ·unfold eM
  rw[qav,qda,qaf,l]
 ·unfold eM at e2
  by_cases hi:i<k
  ·rw[qaI (by simpa using hi),qdB,iFP hi]at e2
   cases e2
  ·rw[qaO (by simpa using hi),qda,qaF]at e2
   cases ej:js[i - k]? with
   |none=>rw[ej]at e2;cases e2
   |some j=>
    rw[ej]at e2;have c:=(qat.mp ej).1
    have:=qa6.mp m _ (qaH.mpr c)
    rw[show k+_=i by lia,n,ej]at this;simp only[qbg,beq_iff_eq]at this;refine⟨j,by rw[hN];exact this.1,?_,this.2⟩;have e3:(b[j]?).getD none=some v:=qaQ e2;cases eq:b[j]? with
    |none=>rw[eq]at e3;cases e3
    |some o=>rw[eq]at e3;rw[show o=some v from e3]
def wk (names ns:List (Str×qca)):List (Str×qca):=names.map λx=>if (x.2==NameKind.free&&ns.lookup x.1==some .cell) then (x.1,.cell) else x
theorem jo {X:Cx}{a:Scope}{b:List (Str×Addr)}{Nc:List Str}{s:qam}{H:Hp}{C:Addr}{c:List Addr}{ns:List (Str×qca)} (d:X.env.scope.kind=.function) (hns:X.env.scope.names=ns) :
  (lcX X a b Nc s H C c).env.scope.names=wk a.names ns:=by
 show (a.names.map _)=_
 congr 1
 funext x
 obtain⟨n,k⟩:=x;show (if _=true then (n,NameKind.cell) else (n,k))=_;unfold qle;rw[d,hns,show (ScopeKind.function==ScopeKind.function)=true from U,Bool.and_true]
section
variable {a tl:St}{tt:TT}{te:TE}{H:Hp}{Q:VK}
end
section
variable {X:Cx}
theorem CQ:OpR X (qbI .Mult) (rI qgz λi j=>.int (i*j)):=opI λ_ _ _ _ _ _ _ a q=>mul_int q a
end
theorem aP.new {H:Hp}{p:Addr} (h:H p=none) (o:HO):aP H (upd H p o):=λb u q=>by rw[upd_ne (aK q h)];exact q
theorem kO {n:Nat} (h:n<=1000):n<=qaN:=qeX (zv h)
theorem p18:sU 10 18:=⟨by decide,by decide,by decide⟩
theorem BJ (l:Addr) (a:Array Value) (n:Nat) (dct:Option Addr) (c:Array (Option Value)) (u:Tok) :
  Meets (qfG.«tuple.__mul__» ⟨[.ref l,.int 1 u],[]⟩) (λ_ R s=>s.heap.get? l=some { cls:=.type "tuple",dict:=dct,data:=.seq a n,slots:=c }/\R (.ok (.ret (.ref l))) s):=
 .of_wp λprog w A R s h=>by
  obtain⟨b,h⟩:=h
  wp_walk using wpAny_loadPart' b
  exact⟨_,U,h⟩
theorem zz (l:Addr) (a:Array Value) (n:Nat) (dct:Option Addr) (j:Array (Option Value)) (x:Int) (u:Tok) (o:2<=x) (m:x<1000) (e:a.isEmpty=false) (k:a.size<=1000)
  (i:((qaL x.toNat a).foldl (λc b=>c++b) #[]).size<=qaN) :
  Meets (qfG.«tuple.__mul__» ⟨[.ref l,.int x u],[]⟩) (λ_ R s=>s.heap.get? l=some { cls:=.type "tuple",dict:=dct,data:=.seq a n,slots:=j }/\
   R (.ok (.ret (.ref s.heap.objs.size))) { s with heap:=s.heap.push { cls:=.type "tuple",data:=.seq ((qaL x.toNat a).foldl (λc b=>c++b) #[]) } }):=
 .of_wp λprog w A R s h=>by
  obtain⟨d,h⟩:=h;have c1:(x < -(2^63)||x>=2^63)=false:=by simp;lia
  have c2:(a.isEmpty||x==1)=false:=by rw[e];simp;lia
  have c3:(x<=0||a.isEmpty)=false:=by rw[e];simp;lia
  have f:(a.size:Int)*x<=1000000:=by
   have p:(a.size:Int)*x<=1000*x:=qbj (by lia) (by lia);lia
  have g:¬ ((a.size:Int)*x > (2^63 - 1) / 8):=by lia
  have q:qiQ ((a.size:Int)*x)=false:=by
   exact decide_eq_false (by have:(qaN:Nat)=16777216:=rfl
                             lia)
  refine qfc (decide_eq_false (by rw[c1];exact qa7)) ?_
  wp_walk using wpAny_loadPart' d
  refine qfc (decide_eq_false (by rw[c2];exact qa7)) ?_;refine qfc (decide_eq_false (by rw[c3];exact qa7)) ?_;refine qfc (decide_eq_false g) ?_
  wp_walk using wpAny_loadPart' d
  exact⟨_,U,h⟩
theorem zA (l:Addr) (a:Array Value) (n:Nat) (dct:Option Addr) (c:Array (Option Value)) (u:Tok) (d:a.isEmpty=false) :
  Meets (qfG.«tuple.__mul__» ⟨[.ref l,.int 0 u],[]⟩) (λ_ R s=>s.heap.get? l=some { cls:=.type "tuple",dict:=dct,data:=.seq a n,slots:=c }/\R (.ok (.ret (.ref s.heap.objs.size))) { s with heap:=s.heap.push { cls:=.type "tuple",data:=.seq #[] } }):=
 .of_wp λprog w A R s h=>by
  obtain⟨b,h⟩:=h
  wp_walk using wpAny_loadPart' b
  exact⟨_,U,h⟩
theorem lA:fillsNumberSlot (.type "tuple") "mul" = pure false:=
 PySem.fillsNumberSlot_seq qeP.lookup (by decide +kernel) F.slot_tuple_rmul.lookup (by decide +kernel)
theorem sq:seqRepeat? (.type "tuple")=pure (some (.builtin "tuple.__mul__")):=by
 rfl
theorem nX (a:Int) (t:Tok) (l:Addr) (b:Array Value) (n:Nat) (dct:Option Addr) (d:Array (Option Value)) :
  Meets (qfG.«int.__rmul__» ⟨[.int a t,.ref l],[]⟩) (λ_ R s=>s.heap.get? l=some { cls:=.type "tuple",dict:=dct,data:=.seq b n,slots:=d }/\R (.ok (.ret Value.notImplemented)) s):=
 .of_wp λprog w A R s h=>by obtain⟨c,h⟩:=h;wp_walk using wpAny_loadPart' c;exact⟨_,U,h⟩
section
variable {X:Cx}
def Hg (K:qae):R2:=λx y H Q=>∃ l k xs,x=.ref l/\y=.int k/\SqT K H l xs/\xs≠[]/\xs.length<=1000/\0<=k/\k<1000/\(k=1->Q (.ref l) H)/\
 (k≠1->∀ p,H p=none->Q (.ref p) (upd H p (.tup (qaL k.toNat xs).flatten)))
theorem CT:OpR X (qbI .Mult) (Hg X.K):=by
 intro B s O H x y v u Q I G E h;obtain⟨l,k,xs,rfl,rfl,D,i,r,M,L,F,A⟩:=h;cases G;obtain⟨t,rfl⟩:=E;obtain⟨a,z,p,N⟩:=I.tuple D;obtain⟨⟨c,dct,dt,j⟩,e,J,n,hd⟩:=p;subst J hd;have b:=z.length;refine qgQ (by decide) ⟨_,e,U⟩ (λs'=>qf4 s' k t) lA qiN qe4 sq qis.lookup
  (qc9 qe4 (qf4 s k t) qiu (qie _ _) (nX k t l a.toArray n dct j) ⟨e,U,⟨_,e,U⟩,?_⟩)
 by_cases w:k=1
 ·subst w
  exact qc9 qeP ⟨_,e,U⟩ qfV (qfF _ _) (BJ l a.toArray n dct j t) ⟨e,.ref l,H,I,U,F U⟩
 ·have C:=by
   exact (lh a k.toNat [])
  have d:(qaL k.toNat xs).flatten.length<=qaN:=by
   rw[rC]
   have:k.toNat*xs.length<=1000*1000:=qcY (by lia) r
   have P:qaN=16777216:=rfl;lia
  have f:(qaL k.toNat a).flatten.length<=qaN:=by
   rw[rC]at d ⊢;rw[<-b];exact d
  have g:a.toArray.isEmpty=false:=by
   cases a with
   |nil=>cases xs with
    |nil=>exact absurd U i
    |cons _ _=>cases b
   |cons _ _=>rfl
  by_cases m:k=0
  ·subst m
   refine qc9 qeP ⟨_,e,U⟩ qfV (qfF _ _) (zA l a.toArray n dct j t g) ⟨e,?_⟩;exact⟨.ref _,_,I.laid (o:=.tup []) (λ_ _ q=>qah _ q) (qap _) ⟨qcc _,_,.nil,⟨_,qau _ U,U,⟨0,U⟩,U⟩⟩,U,A w _ I.fresh⟩
  refine qc9 qeP ⟨_,e,U⟩ qfV (qfF _ _) (zz l a.toArray n dct j k t (by lia) L ?_ (by rw[qaK];lia) (by rw[C];exact f)) ⟨e,?_⟩
  ·cases a with
   |nil=>cases xs with
    |nil=>exact absurd U i
    |cons _ _=>cases b
   |cons _ _=>rfl
  ·rw[C]
   refine⟨.ref _,_,I.laid (o:=.tup (qaL k.toNat xs).flatten) (λ_ _ q=>qah _ q) (qap _) ⟨d,_,z.rep k.toNat,⟨_,qau _ U,U,⟨0,U⟩,U⟩⟩,U,A w _ I.fresh⟩
end
section
variable {X:Cx}{K:qae}
theorem GI (g:X.calm=true:=by rfl) (e:X.K=K:=by rfl):bO X (.builtin "sum") (λxs H Q=>∃ (a:Addr) (ns:List Int),xs=[.ref a]/\SqL K H a (ns.map V.int)/\Q (.int ns.sum) H):=by
 subst e;intro b s c H xs f Q I d h;exact zR b s c H xs f Q I d ⟨g,h⟩
theorem GH (g:X.calm=true:=by rfl) (e:X.K=K:=by rfl):bO X (.builtin "all") (λxs H Q=>∃ (a:Addr) (bs:List Bool),xs=[.ref a]/\SqL K H a (bs.map V.bl)/\Q (.bl (bs.all id)) H):=by
 subst e;intro b s c H xs f Q I d h;exact zQ b s c H xs f Q I d ⟨g,h⟩
end
section
variable {X:Cx}
end
section
variable {X:Cx}{e:Expr}{ty:TE}{p1 i h d c b a:Pos}{j f g k:Nat}
end
section
variable {prog:qaR}{w:World}{A:qaZ}{E:Value->qam->Prop}{s:qam}
end
section
variable {X:Cx}
theorem Cy:bO X (.type "range") (λxs H Q=>∃ j:Int,xs=[.int j]/\∀ p,H p=none->Q (.ref p) (upd H p (.rng 0 j))):=by
 intro a s d H xs e Q I b h;obtain⟨j,rfl,q⟩:=h;cases b with
 |cons r c=>
  cases c;obtain⟨t,rfl⟩:=r;exact call_range_1 ⟨.ref _,_,I.laid (o:=.rng 0 j) (λ_ _ q=>qah _ q) (qap _) ⟨_,_,_,qau _ U⟩,U,q _ I.fresh⟩
end
section
variable {prog:qaR}{w:World}{A:qaZ}{E:Value->qam->Prop}{s:qam}
end
section
variable {X:Cx}{e:Expr}{te:TE}{p1 a b pos:Pos}{j:Nat}
end
theorem aJ.at {xs:List V}{b:List Value} (r:aJ xs b):∀ (j:Nat) (h:j<b.length) ,∃ h':j<xs.length,aR xs[j] b[j]:=by
 induction r with
 |nil=>intro j h;exact absurd h (qcu j)
 |cons a t d=>
  intro j h;cases j with
  |zero=>exact⟨Nat.zero_lt_succ _,a⟩
  |succ j=>
   obtain⟨c,e⟩:=d j _;exact⟨Nat.succ_lt_succ c,e⟩
theorem m9 (e:Nat->Bool) (n:Nat):(qan (n+1)).all e=(e 0&&(qan n).all λj=>e (j+1)):=by
 rw[qdG,qbD,qfD];rfl
section
variable {X:Cx}{K:qae}{c:List (Addr×Obj)}{d:St}{H:Hp}{s:qam}{A:qaZ}{a b:Addr}{xs e:List V}
end
section
variable {X:Cx}{pos p1 a:Pos}{c b:Nat}
end
section
variable {K:qae}{H:Hp}
end
section
variable {X:Cx}{K:qae}
end
end L2
namespace HT
open PySem PySem.Spec PyProof.Rows L2
section
variable {prog:qaR}{w:World}{A:qaZ}{E:Value->qam->Prop}{s:qam}
theorem getItem_tuple_all {t j:Addr}{a:Array Value}{i f:Value}{lo hi:Option Int}{Q:Value->qam->Prop} (c:IsTup s.heap t a) (g:s.heap.IsSliceOf j i f .none) (k:qgm i lo) (l:qgm f hi)
  (hw:sIx a.size 0 lo=0/\sIx a.size a.size hi=a.size) (h:Q (.ref t) s):wpAny (model prog w) A (qfg (.ref t) (.ref j)) Q E s:=by
 obtain⟨os,d,e,m⟩:=id g;unfold qfg
 try with_reducible refine qb5 ?_
 refine qac (qiw c.typeIs (by decide) ?_)
 refine qac (qbR c.typeIs qbG
  (qb6 qbG c.typeIs qh4 ?_ (qil _ _)))
 show wpAny _ _ (qfb _ >>= _) _ _ s;refine qac (tupleItemsOf_ c ?_);refine qac (qhz ⟨os,d,e⟩ ?_);refine qac (gD g k l ?_);have b:(((sIx a.size 0 lo):Int)==0&&(1:Int)==1&&(sIx a.size a.size hi - sIx a.size 0 lo)==a.size)=true:=by
  rw[hw.1,hw.2]
  simp
 show wpAny _ _ (if _=true then _ else _) _ _ s;rw[iFP b];refine qac (qac (qhz c.typeIs (qaq ?_)))
 first
  |exact qac (qdV (qaq ⟨_,rfl,qaq h⟩))
  |exact qac _
  |exact qac _
  |exact qac _
end
end HT
namespace L2
open PySem PySem.Spec PyProof.Rows
def Hi (K:qae):V->Option Int->Option Int->Hp->VK->Prop:=λx lo hi H Q=>∃ a xs,x=.ref a/\SqT K H a xs/\
 ((¬ (HT.sIx xs.length 0 lo=0/\HT.sIx xs.length xs.length hi=xs.length)/\∀ p,H p=none->Q (.ref p) (upd H p (.tup (vq xs lo hi))))\/
   ((HT.sIx xs.length 0 lo=0/\HT.sIx xs.length xs.length hi=xs.length)/\Q (.ref a) H))
theorem ES {X:Cx}{K:qae} (n:X.K=K:=by rfl):SlR X (Hi K):=by
 subst n;intro b s m H x v o l lo hi p Q I f e g j h;obtain⟨a,xs,rfl,k,h⟩:=h;rcases h with⟨hw,q⟩|⟨hw,q⟩
 ·exact FP b s m H _ v o l lo hi p Q I f e g j ⟨a,xs,U,k,hw,q⟩
 ·cases f
  obtain⟨d,r,i,t⟩:=I.tuple k;have c:d.toArray.size=xs.length:=by exact r.length.symm
  refine⟨"tuple",_,qbG.lookup,i.typeIs,?_⟩
  exact HT.getItem_tuple_all i e g j (by rw[c];exact hw) ⟨.ref a,H,I,U,q⟩
section
variable {X:Cx}{f:Scope}{Nc:List Str}{emb:St->St}{elt iter tg:Expr}{ifs:List Expr}{pos:Pos}{wi:TI}{g:TG}{tt:TT}{te:TE}
theorem D7 {i0:Nat}{x0:Str}{py spos:Pos} (hN0:X.N.Nodup) (hi0:X.N[i0]?=some x0) (hx0:Loc X.env.scope x0) (S:dB X f Nc emb) (hc:X.calm=true) (hi:PI X tg iter wi)
  (hg:∀ j s H C A,PG (lcX X f j Nc s H C A) tg g) (ht:∀ j s H C A,PTs (lcX X f j Nc s H C A) ifs tt) (he:∀ j s H C A,PE (lcX X f j Nc s H C A) elt te)
  (hsw:qcM (.ListComp elt [⟨tg,iter,ifs,0⟩] f pos) (some (.Name x0 py)) spos.line X.env=pure true:=by rfl)
  (hf0:X.fn x0=true\/X.env.scope.names.lookup x0=some .local:=by first|exact .inl U|exact .inr U|assumption)
  (hs:∀ x,qbE iter X.env x=pure x:=by intro _;rfl):PS X (.Assign [.Name x0 py] (.ListComp elt [⟨tg,iter,ifs,0⟩] f pos) spos) (FR (tLc emb wi g tt te) (t8 i0)):=by
 intro B s σ H DD I h;rw[exec_Assign_Name_used _ _ _ _ hsw];refine qac (qfO (qac ?_));refine qac (qcJ (qgZ U hs (jy (S.clos I.ok)) S.kind (λx hx hl=>d6 S.nd (by rw[<-hl];exact hx)) ?_) (λ_ s' hq=>qaq (qaq hq)) λ_ _ e=>e);refine thn (hi B s σ H _ I h) λv s1 h1=>thn h1 λitv R h2=>?_;obtain⟨it,A,tn,J,H2,e,I2,T,Y,f2,W,⟨m0,w0⟩,turn⟩:=h2;subst e;refine qcx (kH ?_);rw[qbk ..];generalize hD:R.heap.objs.size=D;generalize hlo:({ cls:=.type "list",dict:=none,data:=.seq ([]:List Value).toArray }:Obj)=lo
 have fplt:∀ b∈A,b<R.heap.objs.size:=λb hb=>by obtain⟨o,e,_⟩:=T.obj _ _ Y b hb;exact qaz e
 have I3:=ur (lo:=lo) S I2 f2 (λb hb=>by obtain⟨o,e,_⟩:=T.obj _ _ Y b hb;exact⟨o,e⟩) (by rw[<-hlo];intro v z;cases z) (by rw[<-hlo];rfl);rw[hD]at I3;generalize hcells:qcN (D+2) f.names _=j at I3;generalize d:lcX X f j Nc R H2 (D+1) A=X' at I3;have P:∀ {H':Hp}{ps:List (Addr×Obj)},(∀ b∈A,H' b=none)->(∀ p∈ps,p.1=D)->∀ b∈A,jr X' ps H' b:=λ{H' ps} hn L b hb=>by
  have ok:=I3.ok;refine⟨hn b hb,?_,?_,.inl (by rw[<-d];exact hb),?_,λp O=>?_⟩
  ·exact (ok.exf b (by rw[<-d];exact hb)).1
  ·exact ok.exfs b (by rw[<-d];exact hb)
  ·exact (ok.exf b (by rw[<-d];exact hb)).2
  ·have hp':p∈([])++ps:=by rw[<-d]at O;exact O
   rw[(L p (by simpa using hp')),<-hD];exact qck (fplt b hb)
 have Dex:D∈X'.ex\/X'.s₀.heap.objs.size<=D:=.inr (by rw[<-d,<-hD];exact qap _);have Dloc:D≠X'.env.locals:=by rw[<-d];exact qaD (qbN _)
 have pD:=I3.pin (D,lo) (by rw[<-d];exact qax _ qag);have Dcell:∀ x c,X'.env.cells.lookup x=some c->c≠D:=λx c hc' e=>by
  obtain⟨v,o,ho,hd⟩:=I3.cell x c hc';rw[e,pD.1]at ho;cases ho;exact pD.2.2.2.2 v hd
 -- the M
 have M:∀ s3:qam,s3={ R with heap:=qfe ((R.heap.push lo).push { cls:=.type "dict",data:=.dict #[] }) f.names }->
   qdM (model X.prog X.w) X.A (.compLoop (.ListComp elt [⟨tg,iter,ifs,0⟩] f pos) 0 (.ref it) (.ref D) (qhh f j (D+1) X.env))
    (compPost (model X.prog X.w) X.A X.xe (some (qgh (.Name x0 py) X.env)) (λ_ s'=>SP X B DD .next s') (.ref D) (D+1)) s3:=by
  rintro s3 rfl
  refine dF (λn s'=>∃ i K l k H',Inv X' [(D,{ cls:=.type "list",data:=.seq l.toArray k })] (emb σ) H' s'/\aJ K l/\tn i s'.heap/\(∀ b∈A,H' b=none)/\K.length<=qaN/\W i n K H') ?_ m0
   ⟨0,[],[],0,H2,?_,.nil,?_,λb hb=>(f2 b hb).1,qcc _,w0⟩
  ·rintro n s4 ⟨i,K,l,k,H4,I4,rv,st4,fr4,hlen,w4⟩
   have L:∀ p∈[(D,({ cls:=.type "list",data:=.seq l.toArray k }:Obj))],p.1=D:=λp O=>by
    have:=qal.mp O
    rw[this]
   rcases turn i n K H4 w4 with⟨stop,qn⟩|⟨go,hlt,N,hN,step⟩
   ·-- the end
    have TD:=T.done X' (by rw[<-d];rfl) (by rw[<-d];rfl) (by rw[<-d];rfl) (by rw[<-d];exact hc) i _ s4 (emb σ) H4 (λ_ _=>False) I4 (P fr4 L) st4 stop;rw[show X'.A=X.A by rw[<-d];rfl]at TD;refine thn TD λr s5 ⟨hr,I5⟩=>?_;subst hr;obtain⟨m5,hn5,_⟩:=id I5.loc;have eC:X'.env.locals=D+1:=by rw[<-d];rfl
    rw[eC]at hn5
    suffices inv5:∀ h',qdw (D+1) s5.heap h'->Inv X B σ (upd H4 D (.lst K)) { s5 with heap:=h' } by
     have I5X:Inv X B σ (upd H4 D (.lst K)) s5:=inv5 s5.heap ⟨U,λ_ _=>rfl⟩;have hD4':H4 D=none:=(I5.pin (D,{ cls:=.type "list",data:=.seq l.toArray k }) (by rw[<-d];exact qax _ qag)).2.1
     have hC4:upd H4 D (.lst K) (D+1)=none:=by
      have:=I5.free
      rw[eC]at this;rw[upd_ne (qck (qbN D))];exact this
     have fpC:∀ b∈[D+1],jr X B (upd H4 D (.lst K)) b:=λb hb=>by
      have e:=qal.mp hb;subst e;exact I2.fpOk (by rw[hD];exact qdc D) hC4
     obtain⟨oC,esC,epC,getC,datC,relC⟩:=id hn5;have I5p:=I5X.pinned fpC λb hb=>by
      have e:=qal.mp hb;subst e;exact⟨oC,getC,λv z=>by rw[datC]at z;cases z⟩
     refine qiy (oO I5p hN0 hi0 hx0 (v:=.ref D) U (λs6 I6=>?_) hf0);have pC:=(I6.pin (D+1,oC) (qax _ (qax _ (cN qag getC)))).1;refine⟨m5,⟨oC,esC,epC,pC,datC,relC⟩,λh' E=>?_⟩;have I6u:=I6.unpinned;exact⟨_,_,I6u.turns (t':=s6.toks) fpC (λb o hb e=>(E.2 b (λz=>hb (by rw[z];exact qag))).trans e),qn D hD4'⟩
    intro h' E;have pD5:=I5.pin (D,{ cls:=.type "list",data:=.seq l.toArray k }) (by rw[<-d];exact qax _ qag)
    have neC:∀ b u,H4 b=some u->b≠D+1:=λb u e z=>by
     have:=I5.free
     rw[eC,<-z,e]at this;cases this
    have hD4:H4 D=none:=pD5.2.1;have un:=I5.base;have F:Un (frs X.stack) A H2 H4 R.heap s5.heap:=by rw[<-d]at un;exact un
    have w:∀ b o,R.heap.get? b=some o->b≠D/\b≠D+1:=λb o e=>by
     have q:=qaz e;rw[hD]at q;exact⟨qaD q,qaD (qaY q)⟩
    have h2D:H2 D=none:=by rw[<-hD];exact I2.fresh
    have hok':HOk X.prog X.w H4 h':=λb u e=>by
     have ob:cA X.prog X.w H4 s5.heap b u:=by have:=I5.hok b u e;rw[<-d]at this;exact this
     refine ob.stay (λc v hcv q=>(E.2 c ?_).trans q) (λ_ q=>q) λ_ _ q=>q;rcases hcv with z|z
     ·rw[z];exact neC b u e
     ·exact neC c _ z
    have hokD:HOk X.prog X.w (upd H4 D (.lst K)) h':=λb u e=>by
     by_cases hb:b=D
     ·subst hb
      rw[upd_same]at e;cases e;exact⟨hlen,l,k,rv,(E.2 b (qaD (qbN _))).trans pD5.1⟩
     ·rw[upd_ne hb]at e
      refine (hok' b u e).stay (λ_ _ _ q=>q) (λc q=>?_) λc z q=>?_
      all_goals first
       |(rw[upd_ne (aK q hD4)];exact q)
       |(rw[upd_ne (aK z hD4)];exact z)
    refine I2.call' (s':={ s5 with heap:=h' }) (ch:=A) ?_ ⟨λb o e nb hb hx=>?_,λb o e nb hb hx=>?_,λb o e nb hx=>?_,λb o e hx=>?_,λb xs e=>?_,λb o u e=>?_,λb ps e=>?_⟩ hokD I5.bare (λb hb=>?_)
    ·have:=I5.os
     rw[<-d]at this;exact this
    ·exact (E.2 b (w b o e).2).trans (F.keep b o e nb hb hx)
    ·obtain⟨sl,q⟩:=F.slot b o e nb hb hx
     exact⟨sl,(E.2 b (w b o e).2).trans q⟩
    ·rw[upd_ne (w b o e).1]
     exact F.free b o e nb hx
    ·obtain⟨o',q⟩:=F.there b o e hx
     exact⟨o',(E.2 b (w b o e).2).trans q⟩
    ·rw[upd_ne (aK e h2D)]
     exact F.tups b xs e
    ·rw[upd_ne (aK e h2D)]
     exact F.frzs b o u e
    ·obtain⟨m,q⟩:=F.tbls b ps e
     exact⟨m,by rw[upd_ne (aK e h2D)];exact q⟩
    ·obtain⟨q0,q1,q2,q3,q4,q5⟩:=f2 b hb
     exact⟨q3,q1,q4,q5⟩
   ·-- a turn
    have hA:X'.A=X.A:=by rw[<-d];rfl
    have hP:X'.prog=X.prog:=by rw[<-d];rfl
    have hw:X'.w=X.w:=by rw[<-d];rfl
    have hE:X'.env=qhh f j (D+1) X.env:=by rw[<-d];rfl
    have hxe:X'.xe=λ_ _=>False:=by rw[<-d];rfl
    have TI':=T.item X' hP hw (by rw[<-d];rfl) (by rw[<-d];exact hc) i _ s4 (emb σ) H4 (λ_ _=>False) I4 (P fr4 L) st4 go;rw[hA]at TI';refine thn TI' λr s5 ⟨u,hr,h5⟩=>?_;subst hr;refine thn h5 λ_ s6 ⟨x,H6,I6,r6,y6,st6,fr6⟩=>?_;have I6':=I6.pinned (P fr6 L) (T.obj _ _ st6);have G:=hg j R H2 (D+1) A;have TT':=ht j R H2 (D+1) A;have EE:=he j R H2 (D+1) A;rw[d]at G TT' EE;have G':=G _ s6 (emb σ) H6 x u _ I6' r6 (step x H6 y6);rw[hA,hP,hw,hE,hxe]at G';refine thn G' λ_ s7 ⟨σ7,H7,I7,sb7,q7⟩=>?_;have T':=TT' _ s7 σ7 H7 _ I7 q7;rw[hA,hP,hw,hE,hxe]at T';refine thn T' λok s8 ⟨H8,I8,q8⟩=>?_
    -- what is pinned
    have t:∀ {σ9:St}{H9:Hp}{V:qam},Inv X' ([(D,({ cls:=.type "list",data:=.seq l.toArray k }:Obj))]++oA A s6.heap) σ9 H9 V->tn (i+1) V.heap/\∀ b∈A,H9 b=none:=λ{σ9 H9 V} I9=>
     ⟨T.keep _ _ _ st6 λb hb o e=>(I9.pin (b,o) (qax _ (qax _ (cN hb e)))).1,λb hb=>by
      obtain⟨o,e,_⟩:=T.obj _ _ st6 b hb
      exact (I9.pin (b,o) (qax _ (qax _ (cN hb e)))).2.1⟩
    cases ok with
    |false=>
     rw[iFN (by decide)]at q8;rw[iFN (by decide)];obtain⟨m',hm,w8⟩:=hN _ _ q8;exact⟨m',hm,i+1,K,l,k,H8,I8.unpinned.weak sb7.1 sb7.2,rv,(t I8).1,(t I8).2,hlen,w8⟩
    |true=>
     rw[iFP U]at q8;rw[iFP U];have E':=EE _ s8 σ7 H8 _ I8 q8;rw[hA,hP,hw,hE,hxe]at E';refine thn E' λy V ⟨v9,H9,I9,r9,n9⟩=>?_;obtain⟨m',hm,w9⟩:=hN _ _ n9;have Q:=I9.pin (D,{ cls:=.type "list",data:=.seq l.toArray k }) (qax _ (qaS _ qag))
     have hl:=rv.length;have I9n:Inv X' [] σ7 H9 V:=I9.pins_of λp O=>nomatch O
     refine qc9 qfE ⟨_,Q.1,U⟩ qfs (qfk _ _) (qfq D l.toArray k y (by rw[qaK];lia)) ⟨Q.1,?_⟩;have up:∃ k':Nat,(V.heap.update D (qcX λxs=>xs.push y)).get? D=some { cls:=.type "list",data:=.seq (l++[y]).toArray k' }:=by
      have q:=qfj Q.1 (λxs:Array Value=>xs.push y);simp only[qhr]at q;exact⟨_,q⟩
     obtain⟨k',up⟩:=up;have hoth:∀ b o,b≠D->V.heap.get? b=some o->(V.heap.update D (qcX λxs=>xs.push y)).get? b=some o:=λb o hb e=>(qaT V.heap _ (qbr hb)).trans e;have I10:=I9n.turned (t':=V.toks) hoth Q.2.1 Dloc Dex Dcell (λp O=>absurd (show p∈([]:List (Addr×Obj)) by rw[<-d]at O;exact O) (by simp));refine⟨m',hm,i+1,K++[v9],l++[y],k',H9,(I10.weak sb7.1 sb7.2).pins_of (λp O=>?_),rv.append (.cons r9 .nil),T.keep _ _ _ (t I9).1 (λb hb o e=>hoth b o (by rw[<-hD];exact qaD (fplt b hb)) e),(t I9).2,?_,w9⟩
     ·have:=qal.mp O
      subst this;exact⟨up,Q.2.1,Dloc,(pD.2.2.2.1),λv z=>by cases z⟩
     ·rw[qav,qcf]
      lia
  ·rw[<-hlo.symm]
   exact I3
  ·exact T.keep _ _ _ Y λb hb o e=>qdk _ _ b o (qah _ (qah _ e))
 refine qhp ?_ ?_
 ·exact M _ U
 ·refine T.self X.A 0 _ _ _ (T.keep _ _ _ Y λb hb o e=>qdk _ _ b o (qah _ (qah _ e))) ?_
  exact M _ U
end
def av:Expr->Bool
 |.Starred _ _=>false
 |_=>true
theorem aS {e:Expr}{es:List Expr}{env:Env} (h:av e=true):qbA (e::es) env=(false,eval e env)::qbA es env:=by
 cases e<;>first|(cases h;done)|rfl
theorem bC {pos:Pos}{env:Env}:∀ {es:List Expr},es.all av=true->(qfh pos (qbA es env)).any (·.1)=false
 |[],_=>by simp[qbA,qfh]
 |e::es,h=>by
  rw[qbD,qbg]at h;rw[aS h.1]
  have:=bC (pos:=pos) (env:=env) h.2
  unfold qfh at this ⊢;rw[qas,qcB,this];rfl
theorem u5 {pos:Pos}{env:Env}{es:List Expr} (h:es.all av=true) (a:es.length < 30):((qfh pos (qbA es env)).all (λx=>!x.1) && (qik pos (qgG [] env)).all (λx=>x.1.isSome)
   && decide (es.length+([]:List qh9).length+(if ([]:List qh9).isEmpty then 0 else 1)<30))=true:=by
 have b:(qfh pos (qbA es env)).all (λx=>!x.1)=true:=by
  have:=bC (pos:=pos) (env:=env) h
  rw[qa6];intro x d;rw[qht]at this;simpa using this x d
 have c:(qik pos (qgG [] env)).all (λx=>x.1.isSome)=true:=by simp[qgG,qik]
 rw[b,c];simpa using a
theorem gF {e:Expr}{env:Env} (h:av e=true):qbA [e] env=[(false,eval e env)]:=by rw[aS h];rfl
theorem u6 {e e2:Expr}{env:Env} (h:av e=true) (a:av e2=true):qbA [e,e2] env=[(false,eval e env),(false,eval e2 env)]:=by rw[aS h,gF a]
def A8:Expr->Bool
 |.UnaryOp .Not _ _=>false
 |.BoolOp _ _ _=>false
 |.IfExp _ _ _ _=>false
 |.Compare _ _ _ _=>false
 |_=>true
theorem zB {a:Expr}{env:Env} (h:A8 a=true):∀ whole,PySem.isTrue a env whole=(do let v <-whole;qjL a.pos;qf5 [v] (truthy v)):=by
 intro whole;cases a with
 |UnaryOp b x p=>cases b<;>first|(cases h;done)|rfl
 |BoolOp _ _ _=>cases h
 |IfExp _ _ _ _=>cases h
 |Compare _ _ _ _=>cases h
 |_=>rfl
theorem ng {t:Expr}{ts:List Expr}{env:Env} (h:av t=true):qb8 (t::ts) env=(false,qgh t env)::qb8 ts env:=by
 cases t<;>first|(cases h;done)|rfl
theorem qj {env:Env}:∀ {ts:List Expr},ts.all av=true->(qb8 ts env).length=ts.length
 |[],_=>by simp[qb8]
 |t::ts,h=>by
  rw[qbD,qbg]at h;rw[ng h.1,qar,qj h.2,qar]
theorem nh {env:Env}:∀ {ts:List Expr},ts.all av=true->(qb8 ts env).findIdx? (·.1)=none
 |[],_=>by simp[qb8]
 |t::ts,h=>by
  rw[qbD,qbg]at h;rw[ng h.1,List.findIdx?_cons,nh h.2];rfl
theorem wN {t:Expr}{ts:List Expr}{env:Env} (h:av t=true):(qb8 (t::ts) env).map (·.2)=qgh t env::(qb8 ts env).map (·.2):=by rw[ng h];rfl
theorem me {t:Expr}{env:Env} (h:av t=true):(qb8 [t] env).map (·.2)=[qgh t env]:=by rw[wN h];simp[qb8]
def r8:Expr->Bool
 |.Slice _ _ _ _=>false
 |_=>true
theorem qk {o i:Expr}{pos:Pos}{env:Env} (h:r8 i=true) (v:Value):qgh (.Subscript o i pos) env v=(do
   let ov <-qf5 [v] (eval o env)
   let iv <-qf5 [v,ov] (eval i env)
   qjL pos
   qf5 [v,ov,iv] (qjN ov iv v)
   release [v,ov,iv] []):=by
 cases i<;>first|(cases h;done)|rfl
theorem uk {i:Expr} (h:r8 i=true):wL i:=by
 intro o j;cases i<;>first|(cases h;done)|rfl
inductive D where
 |non|bl (b:Bool)|int (i:Int)|str (x:Str)|ty (n:String)|dct|scr (ns:List Int)|tup (ds:List D)|lst (ds:List D)|ob (ns:List Str) (ds:List D)
 deriving Inhabited
inductive W where
 |d (x:D)|h (n:Nat)
 deriving Inhabited
inductive C where
 |l (ds:List D)|n (ws:List W)|m (kvs:List (List Int×D))|k (kvs:List (Int×D))|o (fs:List (Str×W))
 deriving Inhabited
abbrev Sto:=List C
def lg (st:Sto) (n:Nat):Option (List D):=match st[n]? with
 |some (.l ds)=>some ds
 |_=>none
def ir (l:List Int):List Key:=l.map Sum.inl
abbrev Ev:=List (Option W)
def KLs (K:qae) (a:Addr) (xs:List V):Prop:=
 ∃ (o:Obj) (b:Array Value) (n:Nat),K.lookup a=some o/\o.cls=.type "list"/\o.dict=none/\o.data=.seq b n/\b.size<=qaN/\aJ xs b.toList
section
variable (K:qae) (H:Hp) (φ:List Addr)
mutual
def Rl:D->V->Prop
 |.non,v=>v=.non
 |.bl b,v=>v=.bl b
 |.int i,v=>v=.int i
 |.str x,v=>v=.str x
 |.ty n,v=>v=.ty n
 |.dct,v=>∃ a,v=.ref a/\a∉φ/\((∃ d,H a=some (.dK d))\/∃ d,H a=some (.dT d))
 |.scr ns,v=>∃ a,v=.ref a/\((∃ o,H a=some (.frz o (.lst (ns.map V.int))))\/KLs K a (ns.map V.int))
 |.tup ds,v=>∃ a vs,v=.ref a/\H a=some (.tup vs)/\Rls ds vs
 |.lst ds,v=>∃ a vs,v=.ref a/\a∉φ/\Rd H a (.lst vs)/\Rls ds vs
 |.ob ns ds,v=>∃ a Cl dx fs vs,v=.ref a/\a∉φ/\H a=some (.ins Cl dx fs)/\fs=ns.zip vs/\ns.length=vs.length/\5<ns.length/\Cls K Cl/\(∀ f∈ns,cI K Cl f)/\Rls ds vs
def Rls:List D->List V->Prop
 |[],vs=>vs=[]
 |d::ds,vs=>∃ v r,vs=v::r/\Rl d v/\Rls ds r
end
def Rw:W->V->Prop
 |.d x,v=>Rl K H φ x v
 |.h n,v=>∃ a,φ[n]?=some a/\v=.ref a
def Rws:List W->List V->Prop
 |[],vs=>vs=[]
 |d::ds,vs=>∃ v r,vs=v::r/\Rw K H φ d v/\Rws ds r
def Rkv:List (List Int×D)->List (List Key×V)->Prop
 |[],vs=>vs=[]
 |(k,d)::ds,vs=>∃ v r,vs=(ir k,v)::r/\Rl K H φ d v/\Rkv ds r
def Rkk:List (Int×D)->List (Key×V)->Prop
 |[],vs=>vs=[]
 |(k,d)::ds,vs=>∃ v r,vs=(Sum.inl k,v)::r/\Rl K H φ d v/\Rkk ds r
def Rfs:List (Str×W)->List (Str×V)->Prop
 |[],vs=>vs=[]
 |(k,d)::ds,vs=>∃ v r,vs=(k,v)::r/\Rw K H φ d v/\Rfs ds r
def Rc (k:Nat) (a:Addr):C->Prop
 |.l ds=>∃ vs,H a=some (.lst vs)/\Rls K H φ ds vs
 |.n ws=>∃ vs,H a=some (.lst vs)/\Rws K H φ ws vs/\∀ m,W.h m∈ws->m<k
 |.m e=>∃ vs,H a=some (.dT vs)/\Rkv K H φ e vs
 |.k e=>∃ vs,H a=some (.dK vs)/\Rkk K H φ e vs
 |.o fs=>∃ Cl dx vs,H a=some (.ins Cl dx vs)/\Rfs K H φ fs vs/\(∀ m,W.h m∈fs.map (·.2)->m<k)/\Cls K Cl/\∀ p∈fs,cI K Cl p.1
structure Sr (st:Sto):Prop where
 nd:φ.Nodup
 len:φ.length=st.length
 at_:∀ (n:Nat) a c,φ[n]?=some a->st[n]?=some c->Rc K H φ n a c
structure Er (env:Ev) (σ:St):Prop where
 len:env.length=σ.length
 at_:∀ (i:Nat) w,env[i]?=some (some w)->∃ v,σ[i]?=some (some v)/\Rw K H φ w v
end
structure Fw (φ φ':List Addr) (H H':Hp):Prop where
 ext:∃ ψ,φ'=φ++ψ/\∀ a∈ψ,H a=none
 keep:∀ b o,b∉φ->H b=some o->H' b=some o
 there:∀ b o,H b=some o->∃ o',H' b=some o'
section
variable {K:qae}{H H1 H2 H':Hp}{φ j A φ':List Addr}{st O:Sto}
theorem Fw.refl (φ:List Addr) (H:Hp):Fw φ φ H H:=⟨⟨[],by simp,by simp⟩,λ_ _ _ h=>h,λ_ o h=>⟨o,h⟩⟩
theorem Fw.trans (a:Fw φ j H H1) (b:Fw j A H1 H2):Fw φ A H H2:=by
 obtain⟨ψ,rfl,g⟩:=a.ext;obtain⟨R,rfl,e2⟩:=b.ext;refine⟨⟨_,by rw[qbO],λc B=>?_⟩,λc o B h=>?_,λc o h=>?_⟩
 ·rcases qaG.mp B with z|z
  ·exact g c z
  ·cases q:H c with
   |none=>rfl
   |some o=>
    obtain⟨J,L⟩:=a.there c o q;rw[e2 c z]at L;cases L
 ·refine b.keep c o (λz=>?_) (a.keep c o B h)
  rcases qaG.mp z with z|z
  ·exact B z
  ·rw[g c z]at h;cases h
 ·obtain⟨J,q⟩:=a.there c o h
  exact b.there c J q
theorem Fw.same (s:aP H H'):Fw φ φ H H':=⟨⟨[],by simp,by simp⟩,λb o _ h=>s b o h,λb o h=>⟨o,s b o h⟩⟩
theorem Fw.new {p:Addr}{o:HO} (G:H p=none):Fw φ φ H (upd H p o):=.same (aP.new G o)
theorem Fw.get (f:Fw φ φ' H H') {n:Nat}{a:Addr} (h:φ[n]?=some a):φ'[n]?=some a:=by
 obtain⟨ψ,rfl,_⟩:=f.ext;rw[qaI (qat.mp h).1];exact h
theorem Fw.nin (f:Fw φ φ' H H') {a:Addr}{o:HO} (h:a∉φ) (q:H a=some o):a∉φ':=by
 obtain⟨ψ,rfl,e⟩:=f.ext;intro z;rcases qaG.mp z with z|z
 ·exact h z
 ·rw[e a z]at q;cases q
def GR:HO->Bool
 |.lst _=>true
 |.dT _=>true
 |.dK _=>true
 |.ins _ _ _=>true
 |_=>false
theorem Rc.ob {k:Nat}{a:Addr}{c:C} (h:Rc K H φ k a c):∃ o,H a=some o/\GR o=true:=by
 cases c with
 |l ds=>obtain⟨vs,q,_⟩:=h;exact⟨_,q,U⟩
 |n ds=>obtain⟨vs,q,_⟩:=h;exact⟨_,q,U⟩
 |m ds=>obtain⟨vs,q,_⟩:=h;exact⟨_,q,U⟩
 |k ds=>obtain⟨vs,q,_⟩:=h;exact⟨_,q,U⟩
 |o ds=>obtain⟨_,_,vs,q,_⟩:=h;exact⟨_,q,U⟩
theorem Sr.lst (S:Sr K H φ st) {a:Addr} (h:a∈φ):∃ o,H a=some o/\GR o=true:=by
 obtain⟨n,hn,e⟩:=qbQ.mp h;have P:n<st.length:=by rw[<-S.len];exact hn
 exact (S.at_ n a st[n] (by rw[qai hn,e]) (by rw[qai P])).ob
theorem xG {st:Sto}{n:Nat}{ds:List D} (h:lg st n=some ds):st[n]?=some (.l ds):=by
 unfold lg at h;split at h
 ·rename_i q;cases h;exact q
 ·cases h
theorem Sr.atl (S:Sr K H φ st) (n:Nat) (a:Addr) (ds:List D) (g:φ[n]?=some a) (e2:lg st n=some ds):∃ vs,H a=some (.lst vs)/\Rls K H φ ds vs:=S.at_ n a _ g (xG e2)
theorem Sr.nin (S:Sr K H φ st) {a:Addr} (h:H a=none):a∉φ:=λz=>by
 obtain⟨vs,q,_⟩:=S.lst z;rw[q]at h;cases h
theorem Rd.nin (S:Sr K H φ st) {a:Addr}{vs:List V} (h:Rd H a (.tup vs)):a∉φ:=λz=>by
 obtain⟨ws,q,qm⟩:=S.lst z;rcases h with h|⟨o,h⟩<;>(rw[q]at h;cases h;cases qm)
theorem Rd.fw (f:Fw φ φ' H H') {a:Addr}{u:HO} (hn:a∉φ) (h:Rd H a u):Rd H' a u:=by
 rcases h with h|⟨o,h⟩
 ·exact .inl (f.keep _ _ hn h)
 ·exact .inr ⟨o,f.keep _ _ hn h⟩
theorem SqT.fw (S:Sr K H φ st) (f:Fw φ φ' H H') {a:Addr}{vs:List V} (h:SqT K H a vs):SqT K H' a vs:=by
 rcases h with h|h
 ·exact .inl (f.keep _ _ (Rd.nin S (.inl h)) h)
 ·exact .inr h
theorem Rd.some {a:Addr}{u:HO} (h:Rd H a u):∃ o,H a=some o:=by
 rcases h with h|⟨o,h⟩
 ·exact⟨_,h⟩
 ·exact⟨_,h⟩
mutual
theorem Rl.fw (S:Sr K H φ st) (f:Fw φ φ' H H'):∀ {d:D}{v:V},Rl K H φ d v->Rl K H' φ' d v
 |.non,_,h=>h
 |.bl _,_,h=>h
 |.int _,_,h=>h
 |.str _,_,h=>h
 |.ty _,_,h=>h
 |.dct,_,h=>by
  obtain⟨a,rfl,hn,h⟩:=h;rcases h with⟨d,h⟩|⟨d,h⟩
  ·exact⟨a,U,f.nin hn h,.inl ⟨d,f.keep _ _ hn h⟩⟩
  ·exact⟨a,U,f.nin hn h,.inr ⟨d,f.keep _ _ hn h⟩⟩
 |.scr ns,_,h=>by
  obtain⟨a,rfl,h⟩:=h;refine⟨a,U,?_⟩;rcases h with⟨o,h⟩|h
  ·refine .inl ⟨o,f.keep _ _ (λz=>?_) h⟩
   obtain⟨ws,q,qm⟩:=S.lst z;rw[q]at h;cases h;cases qm
  ·exact .inr h
 |.tup ds,_,h=>by
  obtain⟨a,vs,rfl,h1,h2⟩:=h;exact⟨a,vs,U,f.keep _ _ (Rd.nin S (.inl h1)) h1,Rls.fw S f h2⟩
 |.lst ds,_,h=>by
  obtain⟨a,vs,rfl,h0,h1,h2⟩:=h;obtain⟨o,e⟩:=h1.some;exact⟨a,vs,U,f.nin h0 e,h1.fw f h0,Rls.fw S f h2⟩
 |.ob ns ds,_,h=>by
  obtain⟨a,Cl,dx,fs,vs,rfl,h0,h1,h2,h3,h4,h5,h7,h6⟩:=h;exact⟨a,Cl,dx,fs,vs,U,f.nin h0 h1,f.keep _ _ h0 h1,h2,h3,h4,h5,h7,Rls.fw S f h6⟩
theorem Rls.fw (S:Sr K H φ st) (f:Fw φ φ' H H'):∀ {ds:List D}{vs:List V},Rls K H φ ds vs->Rls K H' φ' ds vs
 |[],_,h=>h
 |d::ds,_,h=>by
  obtain⟨v,r,rfl,h1,h2⟩:=h;exact⟨v,r,U,Rl.fw S f h1,Rls.fw S f h2⟩
end
theorem Rw.fw (S:Sr K H φ st) (f:Fw φ φ' H H') {w:W}{v:V} (h:Rw K H φ w v):Rw K H' φ' w v:=by
 cases w with
 |d x=>exact Rl.fw S f h
 |h n=>obtain⟨a,e,rfl⟩:=h;exact⟨a,f.get e,U⟩
theorem Rws.fw (S:Sr K H φ st) (f:Fw φ φ' H H'):∀ {ws:List W}{vs:List V},Rws K H φ ws vs->Rws K H' φ' ws vs
 |[],_,h=>h
 |d::ds,_,h=>by
  obtain⟨v,r,rfl,h1,h2⟩:=h;exact⟨v,r,U,h1.fw S f,Rws.fw S f h2⟩
theorem Er.fw (S:Sr K H φ st) (f:Fw φ φ' H H') {env:Ev}{I:St} (h:Er K H φ env I):Er K H' φ' env I:=
 ⟨h.len,λi w e=>let ⟨v,g,r⟩:=h.at_ i w e;⟨v,g,r.fw S f⟩⟩
theorem Rkv.fw (S:Sr K H φ st) (f:Fw φ φ' H H'):∀ {ds:List (List Int×D)}{vs:List (List Key×V)},Rkv K H φ ds vs->Rkv K H' φ' ds vs
 |[],_,h=>h
 |(k,d)::ds,_,h=>by
  obtain⟨v,r,rfl,h1,h2⟩:=h;exact⟨v,r,U,Rl.fw S f h1,Rkv.fw S f h2⟩
theorem Rkk.fw (S:Sr K H φ st) (f:Fw φ φ' H H'):∀ {ds:List (Int×D)}{vs:List (Key×V)},Rkk K H φ ds vs->Rkk K H' φ' ds vs
 |[],_,h=>h
 |(k,d)::ds,_,h=>by
  obtain⟨v,r,rfl,h1,h2⟩:=h;exact⟨v,r,U,Rl.fw S f h1,Rkk.fw S f h2⟩
theorem Rfs.fw (S:Sr K H φ st) (f:Fw φ φ' H H'):∀ {ds:List (Str×W)}{vs:List (Str×V)},Rfs K H φ ds vs->Rfs K H' φ' ds vs
 |[],_,h=>h
 |(k,d)::ds,_,h=>by
  obtain⟨v,r,rfl,h1,h2⟩:=h;exact⟨v,r,U,h1.fw S f,Rfs.fw S f h2⟩
theorem Rc.fw (S:Sr K H φ st) (f:Fw φ φ' H H') {k:Nat}{a:Addr}{c:C} (e:∀ o,H a=some o->H' a=some o) (h:Rc K H φ k a c):Rc K H' φ' k a c:=by
 cases c with
 |l ds=>obtain⟨vs,q,r⟩:=h;exact⟨vs,e _ q,r.fw S f⟩
 |n ds=>obtain⟨vs,q,r,b⟩:=h;exact⟨vs,e _ q,r.fw S f,b⟩
 |m ds=>obtain⟨vs,q,r⟩:=h;exact⟨vs,e _ q,r.fw S f⟩
 |k ds=>obtain⟨vs,q,r⟩:=h;exact⟨vs,e _ q,r.fw S f⟩
 |o ds=>obtain⟨Cl,dx,vs,q,r,b⟩:=h;exact⟨Cl,dx,vs,e _ q,r.fw S f,b⟩
theorem Sr.same (S:Sr K H φ st) (s:aP H H'):Sr K H' φ st:=
 ⟨S.nd,S.len,λn a c g e2=>(S.at_ n a c g e2).fw S (Fw.same s) λo h=>s _ _ h⟩
theorem Sr.new (S:Sr K H φ st) {p:Addr}{o:HO} (G:H p=none):Sr K (upd H p o) φ st:=S.same (aP.new G o)
theorem Rls.length:∀ {ds:List D}{vs:List V},Rls K H φ ds vs->ds.length=vs.length
 |[],_,h=>by cases h;rfl
 |d::ds,_,h=>by
  obtain⟨v,r,rfl,h1,h2⟩:=h;rw[qar,qar,Rls.length h2]
theorem Rws.length:∀ {ds:List W}{vs:List V},Rws K H φ ds vs->ds.length=vs.length
 |[],_,h=>by cases h;rfl
 |d::ds,_,h=>by
  obtain⟨v,r,rfl,h1,h2⟩:=h;rw[qar,qar,Rws.length h2]
theorem Rls.append:∀ {ds es:List D}{vs M:List V},Rls K H φ ds vs->Rls K H φ es M->Rls K H φ (ds++es) (vs++M)
 |[],_,_,_,h,h'=>by cases h;exact h'
 |d::ds,_,_,_,h,h'=>by
  obtain⟨v,r,rfl,h1,h2⟩:=h;exact⟨v,_,U,h1,Rls.append h2 h'⟩
theorem Rls.get:∀ {ds:List D}{vs:List V},Rls K H φ ds vs->∀ {i:Nat}{d:D},ds[i]?=some d->∃ v,vs[i]?=some v/\Rl K H φ d v
 |[],_,h,i,d,e=>by simp at e
 |d::ds,_,h,i,e,q=>by
  obtain⟨v,r,rfl,h1,h2⟩:=h;cases i with
  |zero=>simp at q;subst q;exact⟨v,U,h1⟩
  |succ i=>simpa using Rls.get h2 (by simpa using q)
theorem Rls.take:∀ {ds:List D}{vs:List V} (n:Nat),Rls K H φ ds vs->Rls K H φ (ds.take n) (vs.take n)
 |_,_,0,_=>by exact U
 |[],_,n+1,h=>by cases h;exact U
 |d::ds,_,n+1,h=>by
  obtain⟨v,r,rfl,h1,h2⟩:=h;exact⟨v,_,U,h1,Rls.take n h2⟩
theorem Rls.drop:∀ {ds:List D}{vs:List V} (n:Nat),Rls K H φ ds vs->Rls K H φ (ds.drop n) (vs.drop n)
 |_,_,0,h=>h
 |[],_,n+1,h=>by cases h;exact U
 |d::ds,_,n+1,h=>by
  obtain⟨v,r,rfl,h1,h2⟩:=h;exact Rls.drop n h2
theorem Rls.set:∀ {ds:List D}{vs:List V} (n:Nat) {d:D}{v:V},Rls K H φ ds vs->Rl K H φ d v->Rls K H φ (ds.set n d) (vs.set n v)
 |[],_,_,_,_,h,_=>by cases h;exact U
 |e::ds,_,0,d,v,h,hd=>by
  obtain⟨u,r,rfl,h1,h2⟩:=h;exact⟨v,r,U,hd,h2⟩
 |e::ds,_,n+1,d,v,h,hd=>by
  obtain⟨u,r,rfl,h1,h2⟩:=h;exact⟨u,_,U,h1,Rls.set n h2 hd⟩
theorem Rls.rep {ds:List D}{vs:List V} (h:Rls K H φ ds vs):∀ k:Nat,Rls K H φ (qaL k ds).flatten (qaL k vs).flatten
 |0=>rfl
 |k+1=>by exact h.append (Rls.rep h k)
theorem Rls.ints:∀ {ns:List Int}{vs:List V},Rls K H φ (ns.map D.int) vs->vs=ns.map V.int
 |[],_,h=>h
 |n::ns,_,h=>by
  obtain⟨v,r,rfl,h1,h2⟩:=h;rw[h1,Rls.ints h2];rfl
theorem Rls.bools:∀ {ns:List Bool}{vs:List V},Rls K H φ (ns.map D.bl) vs->vs=ns.map V.bl
 |[],_,h=>h
 |n::ns,_,h=>by
  obtain⟨v,r,rfl,h1,h2⟩:=h;rw[h1,Rls.bools h2];rfl
theorem Rls.of_ints:∀ (ns:List Int),Rls K H φ (ns.map D.int) (ns.map V.int)
 |[]=>rfl
 |n::ns=>⟨_,_,U,U,Rls.of_ints ns⟩
theorem Rl.less {ψ:List Addr}:∀ {d:D}{v:V},Rl K H (φ++ψ) d v->Rl K H φ d v:=by
 intro d v;refine (?_:∀ v,Rl K H _ d v->Rl K H φ d v) v;refine D.rec (motive_2:=λds=>∀ vs,Rls K H (φ++ψ) ds vs->Rls K H φ ds vs) ?_ ?_ ?_ ?_ ?_ ?_ ?_ ?_ ?_ ?_ ?_ ?_ d
 ·exact λv h=>h
 ·exact λb v h=>h
 ·exact λb v h=>h
 ·exact λb v h=>h
 ·exact λb v h=>h
 ·rintro v ⟨a,e,hn,h⟩;exact⟨a,e,λz=>hn (qaS _ z),h⟩
 ·exact λns v h=>h
 ·rintro ds t v ⟨a,vs,rfl,h1,h2⟩;exact⟨a,vs,U,h1,t vs h2⟩
 ·rintro ds t v ⟨a,vs,rfl,h0,h1,h2⟩;exact⟨a,vs,U,λz=>h0 (qaS _ z),h1,t vs h2⟩
 ·rintro ns ds t v ⟨a,Cl,dx,fs,vs,rfl,h0,h1,h2,h3,h4,h5,h7,h6⟩;exact⟨a,Cl,dx,fs,vs,U,λz=>h0 (qaS _ z),h1,h2,h3,h4,h5,h7,t vs h6⟩
 ·exact λvs h=>h
 ·rintro d ds F E vs ⟨v,r,rfl,h1,h2⟩;exact⟨v,r,U,F v h1,E r h2⟩
theorem Rls.less {ψ:List Addr}:∀ {ds:List D}{vs:List V},Rls K H (φ++ψ) ds vs->Rls K H φ ds vs
 |[],_,h=>h
 |d::ds,_,h=>by
  obtain⟨v,r,rfl,h1,h2⟩:=h;exact⟨v,r,U,Rl.less h1,Rls.less h2⟩
theorem Rkv.less {ψ:List Addr}:∀ {ds:List (List Int×D)}{vs:List (List Key×V)},Rkv K H (φ++ψ) ds vs->Rkv K H φ ds vs
 |[],_,h=>h
 |(k,d)::ds,_,h=>by
  obtain⟨v,r,rfl,h1,h2⟩:=h;exact⟨v,r,U,Rl.less h1,Rkv.less h2⟩
theorem Rkk.less {ψ:List Addr}:∀ {ds:List (Int×D)}{vs:List (Key×V)},Rkk K H (φ++ψ) ds vs->Rkk K H φ ds vs
 |[],_,h=>h
 |(k,d)::ds,_,h=>by
  obtain⟨v,r,rfl,h1,h2⟩:=h;exact⟨v,r,U,Rl.less h1,Rkk.less h2⟩
theorem Rws.less {ψ:List Addr}:∀ {ds:List W}{vs:List V},(∀ m,W.h m∈ds->m<φ.length)->Rws K H (φ++ψ) ds vs->Rws K H φ ds vs
 |[],_,_,h=>h
 |d::ds,_,y,h=>by
  obtain⟨v,r,rfl,h1,h2⟩:=h;refine⟨v,r,U,?_,Rws.less (λm z=>y m (qak _ z)) h2⟩;cases d with
  |d x=>exact Rl.less h1
  |h m=>
   obtain⟨a,e,rfl⟩:=h1;rw[qaI (y m qag)]at e;exact⟨a,e,U⟩
theorem Rfs.less {ψ:List Addr}:∀ {ds:List (Str×W)}{vs:List (Str×V)},(∀ m,W.h m∈ds.map (·.2)->m<φ.length)->Rfs K H (φ++ψ) ds vs->Rfs K H φ ds vs
 |[],_,_,h=>h
 |(k,d)::ds,_,y,h=>by
  obtain⟨v,r,rfl,h1,h2⟩:=h;refine⟨v,r,U,?_,Rfs.less (λm z=>y m (qak _ z)) h2⟩;cases d with
  |d x=>exact Rl.less h1
  |h m=>
   obtain⟨a,e,rfl⟩:=h1;rw[qaI (y m qag)]at e;exact⟨a,e,U⟩
theorem Rc.less {ψ:List Addr}{k:Nat}{a:Addr}{c:C} (N:k<φ.length) (h:Rc K H (φ++ψ) k a c):Rc K H φ k a c:=by
 cases c with
 |l ds=>obtain⟨vs,q,r⟩:=h;exact⟨vs,q,r.less⟩
 |n ds=>obtain⟨vs,q,r,b⟩:=h;exact⟨vs,q,r.less λm z=>qeW (b m z) N,b⟩
 |m ds=>obtain⟨vs,q,r⟩:=h;exact⟨vs,q,r.less⟩
 |k ds=>obtain⟨vs,q,r⟩:=h;exact⟨vs,q,r.less⟩
 |o ds=>obtain⟨Cl,dx,vs,q,r,b,c⟩:=h;exact⟨Cl,dx,vs,q,r.less λm z=>qeW (b m z) N,b,c⟩
theorem Sr.less {ψ:List Addr} (S:Sr K H (φ++ψ) st):Sr K H φ (st.take φ.length):=by
 have Q:=S.len;rw[qav]at Q;refine⟨(qcs.mp S.nd).1,by rw[qdp];lia,λn a ds g e2=>?_⟩;have hn:=(qat.mp g).1;rw[qgs hn]at e2;exact (S.at_ n a ds (by rw[qaI hn];exact g) e2).less hn
end
abbrev Ef:=Ev->Sto->Option (W×Sto)
abbrev Af:=Ev->Sto->Option (List W×Sto)
abbrev Tf:=Ev->Sto->Option (Bool×Sto)
abbrev Lf:=Ev->Sto->Option (List D×Sto)
abbrev Fn:=List W->Sto->Option (W×Sto)
section
variable (K:qae)
def tI (env:Ev) (st:Sto) (r:W×Sto):TE:=λh H Q=>∃ φ,Er K H φ env h/\Sr K H φ st/\∀ v H' b,Fw φ b H H'->Sr K H' b r.2->Rw K H' b r.1 v->Q v H'
def tIA (env:Ev) (st:Sto) (r:List W×Sto):TA:=λh H Q=>∃ φ,Er K H φ env h/\Sr K H φ st/\∀ c H' b,Fw φ b H H'->Sr K H' b r.2->Rws K H' b r.1 c->Q c H'
def tIT (env:Ev) (st:Sto) (r:Bool×Sto):TT:=λh H Q=>∃ φ,Er K H φ env h/\Sr K H φ st/\∀ H' b,Fw φ b H H'->Sr K H' b r.2->Q r.1 H'
def tIL (env:Ev) (st:Sto) (r:List D×Sto):TE:=λh H Q=>∃ φ,Er K H φ env h/\Sr K H φ st/\∀ a c H1 b,Fw φ b H H1->Sr K H1 b r.2->H1 a=none->Rls K H1 b r.1 c->Q (.ref a) (upd H1 a (.lst c))
structure IE (X:Cx) (e:Expr) (f:Ef):Prop where
 run:∀ env st r,f env st=some r->PE X e (tI K env st r)
structure IA (X:Cx) (es:List Expr) (f:Af):Prop where
 run:∀ env st r,f env st=some r->PA X es (tIA K env st r)
structure IT (X:Cx) (e:Expr) (f:Tf):Prop where
 run:∀ env st r,f env st=some r->PT X e (tIT K env st r)
structure ITW (X:Cx) (e:Expr) (f:Tf):Prop where
 run:∀ env st r,f env st=some r->PW X e (tIT K env st r)
structure IL (X:Cx) (e:Expr) (f:Lf):Prop where
 run:∀ env st r,f env st=some r->PE X e (tIL K env st r)
def rD (st:Sto) (x y:W) (d:D):R2:=λj k H Q=>∃ φ,Sr K H φ st/\Rw K H φ x j/\Rw K H φ y k/\∀ v H',aP H H'->Rl K H' φ d v->Q v H'
structure OpD (X:Cx) (f:Value->Value->Sem Value) (g:Sto->W->W->Option D):Prop where
 run:∀ st x y d,g st x y=some d->OpR X f (rD K st x y d)
def rCD (st:Sto) (ws:List W) (d:D):List V->Hp->VK->Prop:=λc H Q=>∃ φ,Sr K H φ st/\Rws K H φ ws c/\∀ v H',aP H H'->Rl K H' φ d v->Q v H'
structure gf (X:Cx) (f:Value) (g:Sto->List W->Option D):Prop where
 run:∀ st ws d,g st ws=some d->bO X f (rCD K st ws d)
def rCL (st:Sto) (ws:List W) (ds:List D):List V->Hp->VK->Prop:=λc H Q=>∃ φ,Sr K H φ st/\Rws K H φ ws c/\∀ a i H1,aP H H1->H1 a=none->Rls K H1 φ ds i->Q (.ref a) (upd H1 a (.lst i))
structure sV (X:Cx) (f:Value) (g:Sto->List W->Option (List D)):Prop where
 run:∀ st ws d,g st ws=some d->bO X f (rCL K st ws d)
end
def iV (i:Nat):Ef
 |env,st=>(env.getD i none).map λw=>(w,st)
def iC (d:D):Ef
 |_,st=>some (.d d,st)
def iOp (g:Sto->W->W->Option D) (a b:Ef):Ef
 |env,st=>(a env st).bind λx=>(b env x.2).bind λy=>(g y.2 x.1 y.1).map λd=>(.d d,y.2)
def nk:D->Option Bool
 |.bl b=>some b
 |_=>none
def blW:W->Option Bool
 |.d (.bl b)=>some b
 |_=>none
def aN (g:Sto->W->W->Option D) (a b:Ef):Tf
 |env,st=>(a env st).bind λx=>(b env x.2).bind λy=>(g y.2 x.1 y.1).bind λd=>(nk d).map λk=>(k,y.2)
def iUn (g:W->Option D) (a:Ef):Ef
 |env,st=>(a env st).bind λx=>(g x.1).map λd=>(.d d,x.2)
def uc (a b:Ef):Ef
 |env,st=>(a env st).bind λx=>(blW x.1).bind λk=>if k=true then b env x.2 else some (.d (.bl false),x.2)
def jO (c:Tf) (a b:Ef):Ef
 |env,st=>(c env st).bind λr=>if r.1=true then a env r.2 else b env r.2
def lN (c:Tf):Tf
 |env,st=>(c env st).map λr=>(!r.1,r.2)
def jC (a b:Tf):Tf
 |env,st=>(a env st).bind λr=>if r.1=true then b env r.2 else some (false,r.2)
def li (a b:Tf):Tf
 |env,st=>(a env st).bind λr=>if r.1=true then some (true,r.2) else b env r.2
def dI (g:Sto->W->Option Bool) (a:Ef):Tf
 |env,st=>(a env st).bind λx=>(g x.2 x.1).map λk=>(k,x.2)
def ac:Af
 |_,st=>some ([],st)
def aa (a:Ef) (r:Af):Af
 |env,st=>(a env st).bind λx=>(r env x.2).map λy=>(x.1::y.1,y.2)
def iCB (g:Sto->List W->Option D) (a:Af):Ef
 |env,st=>(a env st).bind λr=>(g r.2 r.1).map λd=>(.d d,r.2)
def iCL (g:Sto->List W->Option (List D)) (a:Af):Lf
 |env,st=>(a env st).bind λr=>(g r.2 r.1).map λd=>(d,r.2)
def ai (m:Fn) (a:Af):Ef
 |env,st=>(a env st).bind λr=>m r.1 r.2
def ma:List W->Option (List D)
 |[]=>some []
 |.d x::ws=>(ma ws).map λr=>x::r
 |.h _::_=>none
def bz (a:Af):Ef
 |env,st=>(a env st).bind λr=>(ma r.1).bind λds=>if ds.length<=1000 then some (.d (.tup ds),r.2) else none
def bD (a:Af):Lf
 |env,st=>(a env st).bind λr=>(ma r.1).bind λds=>if ds.length<=1000 then some (ds,r.2) else none
def ap (a:Lf):Ef
 |env,st=>(a env st).map λr=>(.d (.lst r.1),r.2)
def cx (a:Lf):Ef
 |env,st=>(a env st).map λr=>(.h r.2.length,r.2++[.l r.1])
section
variable {K:qae}{X:Cx}{e a b c:Expr}{es:List Expr}{pos:Pos}{f fa fb fc:Ef}
theorem PE.imp {t t':TE} (h:PE X e t) (m:∀ E H Q,t' E H Q->t E H Q):PE X e t':=λM s E H Q I q=>h M s E H Q I (m E H Q q)
theorem PT.imp {t t':TT} (h:PT X e t) (m:∀ E H Q,t' E H Q->t E H Q):PT X e t':=λM s E H Q I q=>h M s E H Q I (m E H Q q)
theorem PW.imp {t t':TT} (h:PW X e t) (m:∀ E H Q,t' E H Q->t E H Q):PW X e t':=λwh M s E H Q I q=>h wh M s E H Q I (m E H Q q)
theorem PA.imp {t t':TA} (h:PA X es t) (m:∀ E H Q,t' E H Q->t E H Q):PA X es t':=λpos M s E H Q I q=>h pos M s E H Q I (m E H Q q)
theorem OpR.imp {g:Value->Value->Sem Value}{r r':R2} (h:OpR X g r) (m:∀ x y H Q,r' x y H Q->r x y H Q):OpR X g r':=λM s E H x y v u Q I rx ry q=>h M s E H x y v u Q I rx ry (m _ _ _ _ q)
theorem bO.imp {g:Value}{r r':List V->Hp->VK->Prop} (h:bO X g r) (m:∀ xs H Q,r' xs H Q->r xs H Q):bO X g r':=λM s E H xs us Q I rx q=>h M s E H xs us Q I rx (m _ _ _ q)
theorem kJ:PE X e (λ_ _ _=>False):=λ_ _ _ _ _ _ q=>q.elim
theorem uU:PW X e (λ_ _ _=>False):=λ_ _ _ _ _ _ _ q=>q.elim
theorem EI {i:Nat}{x:Str}{t:TE} (h:PE X (.Name x pos) (u8 i)):IE K X (.Name x pos) (iV i):=by
 refine⟨λenv st r A=>?_⟩;obtain⟨w,hw,rfl⟩:=qad.mp A;refine h.imp ?_
 rintro E H Q ⟨φ,G,B,q⟩
 have hi:env[i]?=some (some w):=by
  rw[qfY]at hw;cases q:env[i]? with
  |none=>rw[q]at hw;cases hw
  |some o=>rw[q]at hw;rw[show o=some w from hw]
 obtain⟨v,e1,r⟩:=G.at_ i w hi;exact⟨v,e1,q v H φ (Fw.refl φ H) B r⟩
theorem iv (i:Nat) {x:Str} (hN:X.N[i]?=some x:=by rfl) (hv:Vis X.env.scope x:=by first|exact Or.inl U|exact Or.inr (Or.inl U)|exact Or.inr (Or.inr U)) (hd:(x==("__debug__" : Str))=false:=by decide)
  (hcd:(x==("__classdict__" : Str))=false:=by decide):IE K X (.Name x pos) (iV i):=EI (t:=u8 i) (jS hN hv hd hcd)
theorem Co {d:D}{v:V} (h:PE X e (tC v)) (r:∀ H φ,Rl K H φ d v):IE K X e (iC d):=by
 refine⟨λenv st r A=>?_⟩;cases A;refine h.imp ?_
 rintro E H Q ⟨φ,G,B,q⟩
 exact q v H φ (Fw.refl φ H) B (r H φ)
theorem lm {i j}:IE K X (.Constant (.int i) j pos) (iC (.int i)):=Co Fp λ_ _=>rfl
theorem xi {i j}:IE K X (.Constant (.bool i) j pos) (iC (.bl i)):=Co G4 λ_ _=>rfl
theorem qT {j}:IE K X (.Constant .none j pos) (iC .non):=Co Fs λ_ _=>rfl
theorem qX {x j}:IE K X (.Constant (.str x) j pos) (iC (.str x)):=Co Fu λ_ _=>rfl
theorem sH {env:Ev}{st:Sto}{x y:W×Sto}{d:D}{E:St}{H:Hp}{Q:VK} (h:tI K env st (.d d,y.2) E H Q):tOp (rD K y.2 x.1 y.1 d) (tI K env st x) (tI K env x.2 y) E H Q:=by
 obtain⟨φ,G,B,q⟩:=h;refine⟨φ,G,B,λv H1 z J s1 O=>⟨z,G.fw B J,s1,λu H2 P R s2 w2=>⟨P,s2,O.fw s1 R,w2,λv3 H3 f3 w3=>?_⟩⟩⟩;exact q v3 H3 P ((J.trans R).trans (Fw.same f3)) (s2.same f3) w3
theorem nO {op:Operator}{g:Sto->W->W->Option D} (ho:OpD K X (qbI op) g) (N:IE K X a fa) (hb:IE K X b fb):IE K X (.BinOp a op b pos) (iOp g fa fb):=by
 refine⟨λenv st r A=>?_⟩;simp only[iOp,qab,qad]at A;obtain⟨x,Y,y,hy,d,hd,rfl⟩:=A;exact (D4 (ho.run _ _ _ _ hd) (N.run _ _ _ Y) (hb.run _ _ _ hy)).imp λE H Q h=>sH h
theorem qQ {op:CmpOp}{g:Sto->W->W->Option D} (ho:OpD K X (qce op) g) (N:IE K X a fa) (hb:IE K X b fb) (hm:qfS op b=false):IE K X (.Compare a [op] [b] pos) (iOp g fa fb):=by
 refine⟨λenv st r A=>?_⟩;simp only[iOp,qab,qad]at A;obtain⟨x,Y,y,hy,d,hd,rfl⟩:=A;exact (CY (ho.run _ _ _ _ hd) (N.run _ _ _ Y) (hb.run _ _ _ hy) hm).imp λE H Q h=>sH h
theorem yM {d:D}{k:Bool} (h:nk d=some k):d=.bl k:=by
 cases d<;>first|(cases h;done)|(injection h with h;subst h;rfl)
theorem zO {d:W}{k:Bool} (h:blW d=some k):d=.d (.bl k):=by
 cases d with
 |h n=>cases h
 |d x=>cases x<;>first|(cases h;done)|(injection h with h;subst h;rfl)
theorem rn {op:CmpOp}{g:Sto->W->W->Option D} (ho:OpD K X (qce op) g) (N:IE K X a fa) (hb:IE K X b fb) (hm:qfS op b=false):IT K X (.Compare a [op] [b] pos) (aN g fa fb):=by
 refine⟨λenv st r A=>?_⟩;simp only[aN,qab,qad]at A;obtain⟨x,Y,y,hy,d,hd,k,hk,rfl⟩:=A;cases yM hk;refine (Da (ho.run _ _ _ _ hd) (N.run _ _ _ Y) (hb.run _ _ _ hy) hm).imp λE H Q h=>?_;obtain⟨φ,G,B,q⟩:=h;refine sH ⟨φ,G,B,λv H1 z J s1 O=>⟨k,O,q H1 z J s1⟩⟩
def fU:W->Option D
 |.d (.int i)=>some (.int (-i))
 |_=>none
theorem nM (N:IE K X a fa):IE K X (.UnaryOp .USub a pos) (iUn fU fa):=by
 refine⟨λenv st r A=>?_⟩;simp only[iUn,qab,qad]at A;obtain⟨⟨x,s1⟩,Y,d,hd,rfl⟩:=A;cases x with
 |h n=>cases hd
 |d x=>
  cases x with
  |int i=>
   cases hd;refine (G5 FZ (N.run _ _ _ Y)).imp ?_
   rintro E H Q ⟨φ,G,B,q⟩
   exact⟨φ,G,B,λv H1 z J s1 O=>⟨i,O,q _ H1 z J s1 U⟩⟩
  |_=>cases hd
theorem qU {op} (h:IE K X a fa):IE K X (.BoolOp op [a] pos) fa:=⟨λenv st r A=>Ft (h.run env st r A)⟩
theorem qP {rest:List Expr} (N:IE K X a fa) (hb:IE K X (.BoolOp .And (b::rest) pos) fb):IE K X (.BoolOp .And (a::b::rest) pos) (uc fa fb):=by
 refine⟨λenv st r A=>?_⟩;simp only[uc,qab]at A;obtain⟨x,Y,k,hk,A⟩:=A;have e:=zO hk;cases k with
 |false=>
  cases A;refine (AS (N.run _ _ _ Y) kJ).imp ?_
  rintro E H Q ⟨φ,G,B,q⟩
  refine⟨φ,G,B,λv H1 z J s1 O=>⟨false,by rw[e]at O;exact O,?_⟩⟩;exact q _ H1 z J s1 U
 |true=>
  refine (AS (N.run _ _ _ Y) (hb.run _ _ _ A)).imp ?_
  rintro E H Q ⟨φ,G,B,q⟩
  refine⟨φ,G,B,λv H1 z J s1 O=>⟨true,by rw[e]at O;exact O,?_⟩⟩;exact⟨z,G.fw B J,s1,λu H2 P R s2 w2=>q u H2 P (J.trans R) s2 w2⟩
variable {ta tb:Tf}
theorem rq (N:IT K X a ta):IT K X (.UnaryOp .Not a pos) (lN ta):=by
 refine⟨λenv st r A=>?_⟩;simp only[lN,qad]at A;obtain⟨x,Y,rfl⟩:=A;refine (FE (N.run _ _ _ Y)).imp ?_
 rintro E H Q ⟨φ,G,B,q⟩
 exact⟨φ,G,B,λH1 z J s1=>q H1 z J s1⟩
theorem EN (h:ITW K X a ta):IT K X a ta:=⟨λenv st r A=>(h.run env st r A).pt⟩
theorem ku (h:IT K X a ta):ITW K X (.BoolOp .And [a] pos) ta:=⟨λenv st r A=>Dd (h.run env st r A)⟩
theorem mN (h:IT K X a ta):ITW K X (.BoolOp .Or [a] pos) ta:=⟨λenv st r A=>FG (h.run env st r A)⟩
theorem mM {rest:List Expr} (N:IT K X a ta) (hb:ITW K X (.BoolOp .And (b::rest) pos) tb):ITW K X (.BoolOp .And (a::b::rest) pos) (jC ta tb):=by
 refine⟨λenv st r A=>?_⟩;simp only[jC,qab]at A;obtain⟨⟨k,s1⟩,Y,A⟩:=A;cases k with
 |false=>
  cases A;refine (Bg (N.run _ _ _ Y) uU).imp ?_
  rintro E H Q ⟨φ,G,B,q⟩
  refine⟨φ,G,B,λH1 z J s1=>?_⟩;exact q H1 z J s1
 |true=>
  refine (Bg (N.run _ _ _ Y) (hb.run _ _ _ A)).imp ?_
  rintro E H Q ⟨φ,G,B,q⟩
  refine⟨φ,G,B,λH1 z J s1=>?_⟩;exact⟨z,G.fw B J,s1,λH2 P R s2=>q H2 P (J.trans R) s2⟩
theorem rA {rest:List Expr} (N:IT K X a ta) (hb:ITW K X (.BoolOp .Or (b::rest) pos) tb):ITW K X (.BoolOp .Or (a::b::rest) pos) (li ta tb):=by
 refine⟨λenv st r A=>?_⟩;simp only[li,qab]at A;obtain⟨⟨k,s1⟩,Y,A⟩:=A;cases k with
 |true=>
  cases A;refine (D8 (N.run _ _ _ Y) uU).imp ?_
  rintro E H Q ⟨φ,G,B,q⟩
  refine⟨φ,G,B,λH1 z J s1=>?_⟩;exact q H1 z J s1
 |false=>
  refine (D8 (N.run _ _ _ Y) (hb.run _ _ _ A)).imp ?_
  rintro E H Q ⟨φ,G,B,q⟩
  refine⟨φ,G,B,λH1 z J s1=>?_⟩;exact⟨z,G.fw B J,s1,λH2 P R s2=>q H2 P (J.trans R) s2⟩
theorem xk {tc:Tf} (hc:IT K X c tc) (N:IE K X a fa) (hb:IE K X b fb):IE K X (.IfExp c a b pos) (jO tc fa fb):=by
 refine⟨λenv st r A=>?_⟩;simp only[jO,qab]at A;obtain⟨⟨k,s1⟩,Y,A⟩:=A;cases k with
 |true=>
  refine (uN (hc.run _ _ _ Y) (N.run _ _ _ A) kJ).imp ?_
  rintro E H Q ⟨φ,G,B,q⟩
  refine⟨φ,G,B,λH1 z J s1=>?_⟩;exact⟨z,G.fw B J,s1,λu H2 P R s2 w2=>q u H2 P (J.trans R) s2 w2⟩
 |false=>
  refine (uN (hc.run _ _ _ Y) kJ (hb.run _ _ _ A)).imp ?_
  rintro E H Q ⟨φ,G,B,q⟩
  refine⟨φ,G,B,λH1 z J s1=>?_⟩;exact⟨z,G.fw B J,s1,λu H2 P R s2 w2=>q u H2 P (J.trans R) s2 w2⟩
def dQ (st:Sto):W->Option (List D)
 |.d (.tup ds)=>some ds
 |.d (.lst ds)=>some ds
 |.d (.scr ns)=>some (ns.map D.int)
 |.h n=>lg st n
 |_=>none
theorem uY {st:Sto}{H:Hp}{φ:List Addr}{w:W}{v:V}{ds:List D} (S:Sr K H φ st) (r:Rw K H φ w v) (e:dQ st w=some ds):∃ a L,v=.ref a/\(SqL K H a L\/H a=some (.tup L))/\Rls K H φ ds L:=by
 cases w with
 |h n=>
  obtain⟨a,ea,rfl⟩:=r;obtain⟨L,q,rl⟩:=S.atl n a ds ea e;exact⟨a,L,U,.inl (SqL.of q),rl⟩
 |d x=>
  cases x with
  |tup es=>cases e;obtain⟨a,L,rfl,h1,h2⟩:=r;exact⟨a,L,U,.inr h1,h2⟩
  |lst es=>cases e;obtain⟨a,L,rfl,h0,h1,h2⟩:=r;exact⟨a,L,U,.inl (.inl h1),h2⟩
  |scr ns=>
   cases e;obtain⟨a,rfl,h⟩:=r;refine⟨a,_,U,.inl ?_,Rls.of_ints ns⟩;rcases h with⟨o,h⟩|h
   ·exact .inl (.inr ⟨o,h⟩)
   ·exact .inr h
  |_=>cases e
theorem kM {st:Sto}{H:Hp}{φ:List Addr}{w:W}{v:V}{ds:List D} (S:Sr K H φ st) (r:Rw K H φ w v) (e:dQ st w=some ds):∃ a L,v=.ref a/\(SqL K H a L\/SqT K H a L)/\Rls K H φ ds L:=by
 obtain⟨a,L,h0,h1,h2⟩:=uY S r e;exact⟨a,L,h0,h1.imp id SqT.of,h2⟩
def d8 (st:Sto):W->Option Bool
 |.d .non=>some false
 |.d (.bl b)=>some b
 |.d (.int i)=>some (i != 0)
 |w=>(dQ st w).map λds=>!ds.isEmpty
theorem DB {st:Sto}{H:Hp}{φ:List Addr}{w:W}{v:V}{k:Bool} (S:Sr K H φ st) (r:Rw K H φ w v) (e:d8 st w=some k):B1 K v H k:=by
 have seq:∀ ds,dQ st w=some ds->k=!ds.isEmpty->B1 K v H k:=λds h hk=>by
  obtain⟨a,L,rfl,h1,h2⟩:=kM S r h;have e':k=!L.isEmpty:=by
   rw[hk];cases ds<;>cases L<;>first|rfl|cases h2.length
  rcases h1 with h1|h1
  ·exact .inl ⟨L,h1,e'⟩
  ·exact .inr (.inl ⟨L,h1,e'⟩)
 cases w with
 |h n=>
  obtain⟨ds,h1,h2⟩:=qad.mp e;exact seq ds h1 h2.symm
 |d x=>
  cases x with
  |non=>subst r;cases e;exact U
  |bl b=>subst r;cases e;exact U
  |int i=>subst r;cases e;exact U
  |tup ds=>exact seq ds U (qaQ e).symm
  |lst ds=>exact seq ds U (qaQ e).symm
  |scr ds=>exact seq _ U (qaQ e).symm
  |_=>cases e
theorem rz (N:IE K X a fa) (he:A8 a=true:=by rfl) (hK:X.K=K:=by rfl):IT K X a (dI d8 fa):=by
 subst hK;refine⟨λenv st r A=>?_⟩;simp only[dI,qab,qad]at A;obtain⟨x,Y,k,hk,rfl⟩:=A;refine (Be (N.run _ _ _ Y) (zB he)).imp ?_
 rintro E H Q ⟨φ,G,B,q⟩
 exact⟨φ,G,B,λv H1 z J s1 O=>⟨k,DB s1 O hk,q H1 z J s1⟩⟩
variable {af:Af}
theorem cy:IA K X [] ac:=by
 refine⟨λenv st r A=>?_⟩;cases A;refine rZ.imp ?_
 rintro E H Q ⟨φ,G,B,q⟩
 exact q [] H φ (Fw.refl φ H) B U
theorem bG (N:IE K X e fa) (A:IA K X es af) (hs:av e=true:=by rfl):IA K X (e::es) (aa fa af):=by
 refine⟨λenv st r h=>?_⟩;simp only[aa,qab,qad]at h;obtain⟨x,Y,y,hy,rfl⟩:=h;refine (mV (N.run _ _ _ Y) (A.run _ _ _ hy) (aS hs)).imp ?_
 rintro E H Q ⟨φ,G,B,q⟩
 refine⟨φ,G,B,λv H1 z J s1 O=>⟨z,G.fw B J,s1,λu H2 P R s2 w2=>?_⟩⟩;exact q _ H2 P (J.trans R) s2 ⟨v,u,U,O.fw s1 R,w2⟩
theorem pP {x:Str}{id:String}{p:Pos}{g:Sto->List W->Option D} (hc:gf K X (.builtin id) g) (hg:Gl X x) (hm:X.mg x=none) (hv:qcO x=some (.builtin id)) (N:IA K X (e::es) af)
  (hn:x≠"__name__":=by decide) (hdb:(x==("__debug__" : Str))=false:=by decide) (hs:av e=true:=by rfl) (hp:es.all av=true:=by rfl) :
  IE K X (.Call (.Name x p) (e::es) [] pos) (iCB g af):=by
 refine⟨λenv st r A=>?_⟩;simp only[iCB,qab,qad]at A;obtain⟨y,hy,d,hd,rfl⟩:=A;refine (oz (hc.run _ _ _ hd) hg hm hv (N.run _ _ _ hy) hn hdb (aS hs) (bC hp)).imp ?_
 rintro E H Q ⟨φ,G,B,q⟩
 exact⟨φ,G,B,λv H1 z J s1 O=>⟨z,s1,O,λu H2 R w2=>q u H2 z (J.trans (Fw.same R)) (s1.same R) w2⟩⟩
theorem GB {x:Str}{T:String}{p:Pos}{g:Sto->List W->Option D} (hc:gf K X (.type T) g) (hg:Gl X x) (hm:X.mg x=none) (hv:qcO x=some (.type T)) (N:IA K X (e::es) af)
  (hn:x≠"__name__":=by decide) (hdb:(x==("__debug__" : Str))=false:=by decide) (hs:av e=true:=by rfl) (hp:es.all av=true:=by rfl) :
  IE K X (.Call (.Name x p) (e::es) [] pos) (iCB g af):=by
 refine⟨λenv st r A=>?_⟩;simp only[iCB,qab,qad]at A;obtain⟨y,hy,d,hd,rfl⟩:=A;refine (dz (hc.run _ _ _ hd) hg hm hv (N.run _ _ _ hy) hn hdb (aS hs) (bC hp)).imp ?_
 rintro E H Q ⟨φ,G,B,q⟩
 exact⟨φ,G,B,λv H1 z J s1 O=>⟨z,s1,O,λu H2 R w2=>q u H2 z (J.trans (Fw.same R)) (s1.same R) w2⟩⟩
theorem GC {x:Str}{id:String}{p:Pos}{g:Sto->List W->Option (List D)} (hc:sV K X (.builtin id) g) (hg:Gl X x) (hm:X.mg x=none) (hv:qcO x=some (.builtin id)) (N:IA K X (e::es) af)
  (hn:x≠"__name__":=by decide) (hdb:(x==("__debug__" : Str))=false:=by decide) (hs:av e=true:=by rfl) (hp:es.all av=true:=by rfl) :
  IL K X (.Call (.Name x p) (e::es) [] pos) (iCL g af):=by
 refine⟨λenv st r A=>?_⟩;simp only[iCL,qab,qad]at A;obtain⟨y,hy,d,hd,rfl⟩:=A;refine (oz (hc.run _ _ _ hd) hg hm hv (N.run _ _ _ hy) hn hdb (aS hs) (bC hp)).imp ?_
 rintro E H Q ⟨φ,G,B,q⟩
 exact⟨φ,G,B,λv H1 z J s1 O=>⟨z,s1,O,λa us H2 R n2 w2=>q a us H2 z (J.trans (Fw.same R)) (s1.same R) n2 w2⟩⟩
theorem DT {x:Str}{T:String}{p:Pos}{g:Sto->List W->Option (List D)} (hc:sV K X (.type T) g) (hg:Gl X x) (hm:X.mg x=none) (hv:qcO x=some (.type T)) (N:IA K X (e::es) af)
  (hn:x≠"__name__":=by decide) (hdb:(x==("__debug__" : Str))=false:=by decide) (hs:av e=true:=by rfl) (hp:es.all av=true:=by rfl) :
  IL K X (.Call (.Name x p) (e::es) [] pos) (iCL g af):=by
 refine⟨λenv st r A=>?_⟩;simp only[iCL,qab,qad]at A;obtain⟨y,hy,d,hd,rfl⟩:=A;refine (dz (hc.run _ _ _ hd) hg hm hv (N.run _ _ _ hy) hn hdb (aS hs) (bC hp)).imp ?_
 rintro E H Q ⟨φ,G,B,q⟩
 exact⟨φ,G,B,λv H1 z J s1 O=>⟨z,s1,O,λa us H2 R n2 w2=>q a us H2 z (J.trans (Fw.same R)) (s1.same R) n2 w2⟩⟩
theorem nv {H:Hp}{φ:List Addr}:∀ {ws:List W}{L:List V}{ds:List D},ma ws=some ds->Rws K H φ ws L->Rls K H φ ds L
 |[],_,_,e,h=>by cases e;exact h
 |.d x::ws,_,_,e,h=>by
  obtain⟨v,r,rfl,h1,h2⟩:=h;obtain⟨es,e1,rfl⟩:=qad.mp e;exact⟨v,r,U,h1,nv e1 h2⟩
 |.h n::ws,_,_,e,h=>by cases e
theorem qY {x1} (h:IA K X es af):IE K X (.Tuple es x1 pos) (bz af):=by
 refine⟨λenv st r A=>?_⟩;simp only[bz,qab]at A;obtain⟨y,hy,ds,hd,A⟩:=A;split at A
 ·cases A
  rename_i hl;refine (Fv (h.run _ _ _ hy)).imp ?_
  rintro E H Q ⟨φ,G,B,q⟩
  refine⟨φ,G,B,λL H1 z J s1 O=>?_⟩;have w:=nv hd O;refine⟨by rw[<-w.length];exact kO hl,λp hp=>?_⟩;exact q _ _ z (J.trans (Fw.new hp)) (s1.new hp) ⟨p,L,U,upd_same,w.fw s1 (Fw.new hp)⟩
 ·cases A
theorem lp (h:IA K X es af):IL K X (.List es pos) (bD af):=by
 refine⟨λenv st r A=>?_⟩;simp only[bD,qab]at A;obtain⟨y,hy,ds,hd,A⟩:=A;split at A
 ·cases A
  rename_i hl;refine (Fq (h.run _ _ _ hy)).imp ?_
  rintro E H Q ⟨φ,G,B,q⟩
  refine⟨φ,G,B,λL H1 z J s1 O=>?_⟩;have w:=nv hd O;exact⟨by rw[<-w.length];exact kO hl,λp hp=>q p L H1 z J s1 hp w⟩
 ·cases A
theorem dY {lf:Lf} (h:IL K X e lf):IE K X e (ap lf):=by
 refine⟨λenv st r A=>?_⟩;simp only[ap,qad]at A;obtain⟨y,hy,rfl⟩:=A;refine (h.run _ _ _ hy).imp ?_
 rintro E H Q ⟨φ,G,B,q⟩
 refine⟨φ,G,B,λa L H1 z J s1 n1 O=>?_⟩;exact q _ _ z (J.trans (Fw.new n1)) (s1.new n1) ⟨a,L,U,s1.nin n1,.inl upd_same,O.fw s1 (Fw.new n1)⟩
theorem Sr.moreC {H:Hp}{φ:List Addr}{st:Sto}{a:Addr}{o:HO}{c:C} (S:Sr K H φ st) (n:H a=none) (w:Rc K (upd H a o) (φ++[a]) φ.length a c):Sr K (upd H a o) (φ++[a]) (st++[c]):=by
 refine⟨?_,by rw[qav,qav,S.len];rfl,λi b es e1 e2=>?_⟩
 ·rw[qcs]
  refine⟨S.nd,by simp,λx Y y hy e=>?_⟩;rw[qal.mp hy]at e;rw[e]at Y;exact S.nin n Y
 ·by_cases hi:i<φ.length
  ·rw[qaI hi]at e1
   rw[qaI (by rw[<-S.len];exact hi)]at e2;exact (S.at_ i b es e1 e2).fw S ⟨⟨_,U,λb hb=>by rw[qal.mp hb];exact n⟩,λb o _ h=>aP.new n _ b o h,λb o h=>⟨o,aP.new n _ b o h⟩⟩ λo h=>aP.new n _ _ _ h
  ·have e:i=φ.length:=by
    have:=(qat.mp e1).1
    simp at this
    lia
   subst e;rw[qaO (qap _)]at e1;rw[S.len,qaO (qap _)]at e2
   simp at e1 e2
   subst e1 e2;exact w
theorem Fw.moreO {H:Hp}{φ:List Addr}{a:Addr}{o:HO} (n:H a=none):Fw φ (φ++[a]) H (upd H a o):=
 ⟨⟨_,U,λb hb=>by rw[qal.mp hb];exact n⟩,λb o _ h=>aP.new n _ b o h,λb o h=>⟨o,aP.new n _ b o h⟩⟩
theorem Fw.more {H:Hp}{φ:List Addr}{a:Addr}{L:List V} (n:H a=none):Fw φ (φ++[a]) H (upd H a (.lst L)):=Fw.moreO n
theorem Sr.more {H:Hp}{φ:List Addr}{st:Sto}{a:Addr}{L:List V}{ds:List D} (S:Sr K H φ st) (n:H a=none) (w:Rls K H φ ds L):Sr K (upd H a (.lst L)) (φ++[a]) (st++[.l ds]):=
 S.moreC n ⟨L,upd_same,w.fw S (Fw.moreO n)⟩
theorem lq {lf:Lf} (h:IL K X e lf):IE K X e (cx lf):=by
 refine⟨λenv st r A=>?_⟩;simp only[cx,qad]at A;obtain⟨y,hy,rfl⟩:=A;refine (h.run _ _ _ hy).imp ?_
 rintro E H Q ⟨φ,G,B,q⟩
 refine⟨φ,G,B,λa L H1 z J s1 n1 O=>?_⟩;exact q _ _ _ (J.trans (Fw.more n1)) (s1.more n1 O) ⟨a,by rw[<-s1.len];simp,U⟩
def spI (K:qae) (m:Fn):Sp:=λL H Q _=>∃ φ st ws r,m ws st=some r/\Rws K H φ ws L/\Sr K H φ st/\∀ v H' φ',Fw φ φ' H H'->Sr K H' φ' r.2->Rw K H' φ' r.1 v->Q v H'
theorem Cp {x:Str}{k j:Nat}{ff:Addr}{fd:qcd}{ps:List Str}{m:Fn}{p:Pos} (F:dU X.prog X.w X.K X.mg X.base CX0 j ff fd ps (spI K m)) (hjk:j<=k) (A:bH k X.A) (hg:Gl X x) (hm:X.mg x=some (.ref ff)) (hk:qcT X.K (.ref ff)=true) (hb:dD X.K fd ps [])
  (N:IA K X (e::es) af) (hdb:(x==("__debug__" : Str))=false:=by decide) (hs:av e=true:=by rfl) (hp:es.all av=true:=by rfl) :
  IE K X (.Call (.Name x p) (e::es) [] pos) (ai m af):=by
 refine⟨λenv st r h=>?_⟩;simp only[ai,qab]at h;obtain⟨y,hy,h⟩:=h;refine (x9 (F.mono hjk) A hg hm hk hb .nil AR (N.run _ _ _ hy) hdb (aS hs) (bC hp)).imp ?_
 rintro E H Q ⟨φ,G,B,q⟩
 refine⟨φ,G,B,λL H1 z J s1 O=>?_⟩;show spI K m _ H1 Q E0;rw[qcg];exact⟨z,_,_,r,h,O,s1,λv H2 P R s2 w2=>q v H2 P (J.trans R) s2 w2⟩
end
inductive Fl where
 |nx (env:Ev) (st:Sto)|rt (w:W) (st:Sto)|bk (env:Ev) (st:Sto)|ct (env:Ev) (st:Sto)
abbrev Sf:=Ev->Sto->Option Fl
def zG (K:qae) (φ:List Addr) (H:Hp) (D:o8):Fl->Prop
 |.nx e s=>∀ b H' a,Fw φ a H H'->Er K H' a e b->Sr K H' a s->D.nx b H'
 |.rt w s=>∀ v H' a,Fw φ a H H'->Sr K H' a s->Rw K H' a w v->D.rt v H'
 |.bk e s=>∀ b H' a,Fw φ a H H'->Er K H' a e b->Sr K H' a s->D.bk b H'
 |.ct e s=>∀ b H' a,Fw φ a H H'->Er K H' a e b->Sr K H' a s->D.ct b H'
theorem zG.fw {K:qae}{φ d:List Addr}{H H1:Hp}{D:o8}{r:Fl} (h:zG K φ H D r) (f:Fw φ d H H1):zG K d H1 D r:=by
 cases r with
 |nx e s=>exact λb H' a c=>h b H' a (f.trans c)
 |rt w s=>exact λv H' a c=>h v H' a (f.trans c)
 |bk e s=>exact λb H' a c=>h b H' a (f.trans c)
 |ct e s=>exact λb H' a c=>h b H' a (f.trans c)
def tS (K:qae) (env:Ev) (st:Sto) (r:Fl):TS:=λD a H=>∃ φ,Er K H φ env a/\Sr K H φ st/\zG K φ H D r
structure IS (K:qae) (X:Cx) (s:Stmt) (g:Sf):Prop where
 run:∀ env st r,g env st=some r->PS X s (tS K env st r)
structure ISs (K:qae) (X:Cx) (s:List Stmt) (g:Sf):Prop where
 run:∀ env st r,g env st=some r->PSs X s (tS K env st r)
inductive Tg where
 |nm (i:Nat)|tp (is:List Nat)|tq (i:Nat) (is:List Nat)
def nL:Tg->List Nat
 |.nm i=>[i]
 |.tp is=>is
 |.tq i is=>i::is
def kN:List Nat->List D->Ev->Ev
 |i::is,d::ds,env=>kN is ds (env.set i (some (.d d)))
 |_,_,env=>env
def cv:Tg->W->Ev->Option Ev
 |.nm i,w,env=>some (env.set i (some w))
 |.tp is,.d (.tup ds),env=>if is.length=ds.length then some (kN is ds env) else none
 |.tp is,.d (.lst ds),env=>if is.length=ds.length then some (kN is ds env) else none
 |.tq i is,.d (.tup [d,.tup ds]),env=>if is.length=ds.length then some (kN is ds (env.set i (some (.d d)))) else none
 |_,_,_=>none
def B0 (is:List Nat) (b a:St):Prop:=a.length=b.length/\∀ j,j∉is->a[j]?=b[j]?
def tG (K:qae) (g:Tg):TG:=λv c H Q=>∃ φ st env w a,Er K H φ env c/\Sr K H φ st/\Rw K H φ w v/\cv g w env=some a/\∀ b,Er K H φ a b->B0 (nL g) c b->Q b H
def tGs (K:qae) (is:List Nat):TGs:=λc b H Q=>∃ φ st env ds,Er K H φ env b/\Sr K H φ st/\Rls K H φ ds c/\is.length=ds.length/\∀ a,Er K H φ (kN is ds env) a->B0 is b a->Q a H
def bn:Sf
 |env,st=>some (.nx env st)
def ah (a b:Sf):Sf
 |env,st=>(a env st).bind λr=>match r with
 |.nx e s=>b e s
 |r=>some r
def aw (g:Tg) (f:Ef):Sf
 |env,st=>(f env st).bind λr=>(cv g r.1 env).map λe=>.nx e r.2
def dS (st:Sto) (o i v:W):Option Sto:=match o,i,v with
 |.h n,.d (.int k),.d x=>(lg st n).bind λds=>(ixN ds.length k).map λj=>st.set n (.l (ds.set j x))
 |_,_,_=>none
def bE (o i v:Ef):Sf
 |env,st=>(v env st).bind λb=>(o env b.2).bind λc=>(i env c.2).bind λa=>(dS a.2 c.1 a.1 b.1).map λs=>.nx env s
def aM (f:Ef):Sf
 |env,st=>(f env st).map λr=>.rt r.1 r.2
def j7 (f:Ef):Sf
 |env,st=>(f env st).map λr=>.nx env r.2
def bA (c:Tf) (a b:Sf):Sf
 |env,st=>(c env st).bind λr=>if r.1=true then a env r.2 else b env r.2
def vD:Sf
 |env,st=>some (.bk env st)
def pN:Sf
 |env,st=>some (.ct env st)
def cS (g:Tg) (body:Sf):List D->Ev->Sto->Option Fl
 |[],env,st=>some (.nx env st)
 |d::ds,env,st=>(cv g (.d d) env).bind λe=>(body e st).bind λr=>match r with
  |.nx e s=>cS g body ds e s
  |.ct e s=>cS g body ds e s
  |.bk e s=>some (.nx e s)
  |.rt w s=>some (.rt w s)
def gR (a:Lf) (g:Tg) (body:Sf):Sf
 |env,st=>(a env st).bind λr=>cS g body r.1 env r.2
def cP (c:Tf) (body:Sf):Nat->Ev->Sto->Option Fl
 |0,_,_=>none
 |n+1,env,st=>(c env st).bind λk=>if k.1=true then (body env k.2).bind λr=>match r with
   |.nx e s=>cP c body n e s
   |.ct e s=>cP c body n e s
   |.bk e s=>some (.nx e s)
   |.rt w s=>some (.rt w s)
  else some (.nx env k.2)
def lcI (g:Tg) (tt:Tf) (te:Ef) (env:Ev):List D->Sto->Option (List D×Sto)
 |[],st=>some ([],st)
 |d::ds,st=>(cv g (.d d) env).bind λe=>(tt e st).bind λb=>if b.1=true then (te e b.2).bind λx=>(ma [x.1]).bind λa=>(lcI g tt te env ds x.2).map λr=>(a++r.1,r.2)
   else lcI g tt te env ds b.2
def eL (k:Nat) (js:List Nat) (env:Ev):Ev:=qaL k none++js.map λj=>env.getD j none
def iLc (k:Nat) (js:List Nat) (a:Lf) (g:Tg) (tt:Tf) (te:Ef):Lf
 |env,st=>(a env st).bind λr=>if r.1.length<=1000000 then lcI g tt te (eL k js env) r.1 r.2 else none
def az:Tf
 |_,st=>some (true,st)
def ar (f:Ef):Lf
 |env,st=>(f env st).bind λr=>match r.1 with
 |.d (.tup ds)=>some (ds,r.2)
 |.d (.lst ds)=>some (ds,r.2)
 |_=>none
def bh (lo:Int) (n:Nat):List D:=(qan n).map λk:Nat=>D.int (lo+k)
def bi (a:Af):Lf
 |env,st=>(a env st).bind λr=>match r.1 with
 |[.d (.int j)]=>if -(2^62)<=j/\j<2^62 then some (bh 0 j.toNat,r.2) else none
 |_=>none
def cB:Nat->List D->List D
 |_,[]=>[]
 |k,d::ds=>.tup [.int k,d]::cB (k+1) ds
def cY (a:Af):Lf
 |env,st=>(a env st).bind λr=>match r.1 with
 |[.d (.tup ds)]=>some (cB 0 ds,r.2)
 |[.d (.lst ds)]=>some (cB 0 ds,r.2)
 |_=>none
section
variable {K:qae}{X:Cx}{pos:Pos}
theorem PS.imp {s:Stmt}{t t':TS} (h:PS X s t) (m:∀ D A H,t' D A H->t D A H):PS X s t':=λB s A H D I q=>h B s A H D I (m D A H q)
theorem PSs.imp {s:List Stmt}{t t':TS} (h:PSs X s t) (m:∀ D A H,t' D A H->t D A H):PSs X s t':=λB s A H D I q=>h B s A H D I (m D A H q)
theorem Er.set {H:Hp}{φ:List Addr}{env:Ev}{A:St} (h:Er K H φ env A) (i:Nat) {w:W}{v:V} (r:Rw K H φ w v):Er K H φ (env.set i (some w)) (A.set i (some v)):=by
 refine⟨by rw[qb2,qb2,h.len],λj w' e=>?_⟩;by_cases hj:i=j
 ·subst hj
  have hi:=by
   have:=(qat.mp e).1
   rwa [qb2]at this
  rw[qbd hi]at e;cases e;exact⟨v,by rw[qbd (by rw[<-h.len];exact hi)],r⟩
 ·rw[qbz hj]at e
  obtain⟨v',O,r1⟩:=h.at_ j w' e;exact⟨v',by rw[qbz hj];exact O,r1⟩
theorem Bz (i:Nat) (A:St) (v:Option V):B0 [i] A (A.set i v):=⟨by rw[qb2],λj hj=>by rw[qbz (by rintro rfl;simp at hj)]⟩
theorem kc {i:Nat}{x:Str} (h:PG X (.Name x pos) (t8 i)):PG X (.Name x pos) (tG K (.nm i)):=by
 intro B s A H v u Q I P q;obtain⟨φ,st,env,w,env',E,F,r,e,q⟩:=q;cases e;exact h B s A H v u Q I P (q _ (E.set i r) (Bz i A _))
theorem ke:PGs X [] (tGs K []):=by
 intro B s A H Y us Q I P q;obtain⟨φ,st,env,ds,E,F,r,e,q⟩:=q;cases ds with
 |nil=>cases r;exact C1 B s A H [] us Q I P ⟨U,q A E ⟨U,λ_ _=>rfl⟩⟩
 |cons _ _=>cases e
theorem gk {i:Nat}{is:List Nat}{x:Str}{es:List Expr} (h1:PG X (.Name x pos) (t8 i)) (h2:PGs X es (tGs K is)):PGs X (.Name x pos::es) (tGs K (i::is)):=by
 intro B s A H Y us Q I P q;obtain⟨φ,st,env,ds,E,F,r,e,q⟩:=q;cases ds with
 |nil=>cases e
 |cons d ds=>
  obtain⟨v,vr,rfl,r1,r2⟩:=r;refine AV h1 h2 (wN U) B s A H _ us Q I P ⟨v,vr,U,φ,st,_,ds,E.set i (w:=.d d) r1,F,r2,by simpa using e,λσ' N s'=>q σ' N ?_⟩;refine⟨by rw[s'.1,qb2],λj hj=>?_⟩;rw[s'.2 j (λz=>hj (qak _ z)),qbz (by rintro rfl;exact hj qag)]
def HN (K:qae) (n:Nat) (t:TGs):TG:=λv A H Q=>∃ a xs,v=.ref a/\SqL K H a xs/\xs.length=n/\t xs A H Q
theorem Fx {es:List Expr}{k:Nat}{t:TGs}{n:Nat} (hc:X.calm=true) (h:PGs X es t) (hn:(qb8 es X.env).length=n) (hst:(qb8 es X.env).findIdx? (·.1)=none):PG X (.Tuple es k pos) (HN X.K n t):=by
 intro B s A H v u Q I r hw;obtain⟨a,xs,O,hq,T,hw⟩:=hw;subst O;cases r;obtain⟨its,P,p,hz⟩:=I.list hq;refine qac (qfO ?_);unfold unpack;rw[show (qb8 es X.env).length=its.toArray.size by simp[hn,<-T,P.length],hst];refine qac (qb5 (PySem.W.kun_itemsOf (I.ok.hd hc) p.isList λh' hx=>?_));exact h B _ A H xs _ Q (I.kept λb o e=>hx b o (qaD (qaz e)) e) (by simpa using P) hw
theorem nP {es:List Expr}{k n:Nat}{is:List Nat} (h:PGs X es (tGs K is)) (hes:es.all av=true:=by rfl) (hn:es.length=n:=by rfl) (hi:is.length=n:=by rfl) (hc:X.calm=true:=by rfl) (hK:X.K=K:=by rfl):PG X (.Tuple es k pos) (tG K (.tp is)):=by
 intro B s A H v u Q I P q;obtain⟨φ,st,env,w,env',E,F,r,e,q⟩:=q;cases w with
 |h n=>cases e
 |d x=>
  cases x with
  |tup ds=>
   have N:(if is.length=ds.length then some _ else none)=some env':=e;by_cases T:is.length=ds.length
   ·rw[iFP T]at N
    cases N;obtain⟨a,Y,rfl,hq,G⟩:=r;exact Fy hc h ((qj hes).trans hn) (nh hes) B s A H _ u Q I P ⟨a,Y,U,(SqT.of hq),by rw[<-G.length,<-T,hi],φ,st,env,ds,E,F,G,T,q⟩
   ·rw[iFN T]at N
    cases N
  |lst ds=>
   have N:(if is.length=ds.length then some _ else none)=some env':=e;by_cases T:is.length=ds.length
   ·rw[iFP T]at N
    cases N;obtain⟨a,Y,rfl,_,hq,G⟩:=r;exact Fx hc h ((qj hes).trans hn) (nh hes) B s A H _ u Q I P ⟨a,Y,U,.inl hq,by rw[<-G.length,<-T,hi],φ,st,env,ds,E,F,G,T,q⟩
   ·rw[iFN T]at N
    cases N
  |_=>cases e
variable {s:Stmt}{ss rest:List Stmt}{e a b c:Expr}{ga gb:Sf}{f fa fb fc:Ef}
theorem mJ:ISs K X [] bn:=by
 refine⟨λenv st r G=>?_⟩;cases G;exact C9.imp λD A H ⟨φ,E,F,q⟩=>q A H φ (Fw.refl φ H) E F
theorem mK (h:IS K X s ga):ISs K X [s] ga:=⟨λenv st r G=>ye (h.run env st r G)⟩
theorem kt (h1:IS K X s ga) (h2:ISs K X rest gb):ISs K X (s::rest) (ah ga gb):=by
 refine⟨λenv st r G=>?_⟩;simp only[ah,qab]at G;obtain⟨r1,O,G⟩:=G;cases r1 with
 |nx e s1=>
  refine (dL (h1.run _ _ _ O) (h2.run _ _ _ G)).imp ?_
  rintro D A H ⟨φ,E,F,q⟩
  exact⟨φ,E,F,λσ' H' φ' f' N s'=>⟨φ',N,s',q.fw f'⟩⟩
 |rt w s1=>
  cases G;exact (dL (h1.run _ _ _ O) gz).imp λD A H ⟨φ,E,F,q⟩=>⟨φ,E,F,q⟩
 |bk w s1=>
  cases G;exact (dL (h1.run _ _ _ O) gz).imp λD A H ⟨φ,E,F,q⟩=>⟨φ,E,F,q⟩
 |ct w s1=>
  cases G;exact (dL (h1.run _ _ _ O) gz).imp λD A H ⟨φ,E,F,q⟩=>⟨φ,E,F,q⟩
theorem rj {i:Nat}{x:Str}{pos':Pos} (hN:X.N.Nodup) (hi:X.N[i]?=some x) (hx:Loc X.env.scope x) (he:IE K X e f) (hs:qcM e (some (.Name x pos')) pos.line X.env=pure false:=by rfl) (hf:X.fn x=true\/X.env.scope.names.lookup x=some .local:=by first|exact .inl U|exact .inr U|assumption) :
  IS K X (.Assign [.Name x pos'] e pos) (aw (.nm i) f):=by
 refine⟨λenv st r G=>?_⟩;simp only[aw,cv,qab,qad]at G;obtain⟨y,hy,N,ee,rfl⟩:=G;cases ee;refine (FD hN hi hx (he.run _ _ _ hy) hs hf).imp ?_
 rintro D A H ⟨φ,E,F,q⟩
 exact⟨φ,E,F,λv H1 L M s1 w1=>q _ H1 L M ((E.fw F M).set i w1) s1⟩
theorem re {tg:Expr}{g:Tg} (he:IE K X e f) (hg:PG X tg (tG K g)) (hs:qeS [tg] e pos.line X.env=pure false:=by rfl) (hw:qeT [tg] e X.env=pure none:=by rfl)
  (h1:av tg=true:=by rfl):IS K X (.Assign [tg] e pos) (aw g f):=by
 refine⟨λenv st r G=>?_⟩;simp only[aw,qab,qad]at G;obtain⟨y,hy,N,ee,rfl⟩:=G;refine (sh (he.run _ _ _ hy) hg hs hw (me h1)).imp ?_
 rintro D A H ⟨φ,E,F,q⟩
 exact⟨φ,E,F,λv H1 L M s1 w1=>⟨L,_,env,_,N,E.fw F M,s1,w1,ee,λσ' e'' _=>q σ' H1 L M e'' s1⟩⟩
theorem Sr.putC {H:Hp}{φ:List Addr}{st:Sto}{n:Nat}{a:Addr}{o:HO}{c:C} (S:Sr K H φ st) (hn:φ[n]?=some a) (w:Fw φ φ H (upd H a o)->Rc K (upd H a o) φ n a c) :
  Fw φ φ H (upd H a o)/\Sr K (upd H a o) φ (st.set n c):=by
 have f:Fw φ φ H (upd H a o):=⟨⟨[],by simp,by simp⟩,λb o hb h=>by rw[upd_ne (λz=>hb (by rw[z];exact (qby hn)))];exact h,λb o h=>by
  by_cases z:b=a
  ·subst z;exact⟨_,upd_same⟩
  ·exact⟨o,by rw[upd_ne z];exact h⟩⟩
 refine⟨f,S.nd,by rw[qb2];exact S.len,λm b es O e2=>?_⟩;by_cases hm:n=m
 ·subst hm
  rw[O]at hn;cases hn;have T:n<st.length:=by rw[<-S.len];exact (qat.mp O).1
  rw[qbd T]at e2;cases e2;exact w f
 ·rw[qbz hm]at e2
  have hne:b≠a:=by
   rintro rfl
   obtain⟨h1,h1'⟩:=qat.mp hn;obtain⟨h2,h2'⟩:=qat.mp O;exact hm ((qdT S.nd).mp (h1'.trans h2'.symm))
  exact (S.at_ m b es O e2).fw S f λo h=>by rw[upd_ne hne];exact h
theorem Sr.put {H:Hp}{φ:List Addr}{st:Sto}{n:Nat}{a:Addr}{Y:List V}{ds:List D} (S:Sr K H φ st) (hn:φ[n]?=some a) (w:Rls K H φ ds Y) :
  Fw φ φ H (upd H a (.lst Y))/\Sr K (upd H a (.lst Y)) φ (st.set n (.l ds)):=S.putC hn λf=>⟨Y,upd_same,w.fw S f⟩
theorem wu {st s':Sto}{o i v:W} (h:dS st o i v=some s'):∃ n k x ds j,o=.h n/\i=.d (.int k)/\v=.d x/\lg st n=some ds/\ixN ds.length k=some j/\s'=st.set n (.l (ds.set j x)):=by
 unfold dS at h;split at h
 ·obtain⟨ds,O,h⟩:=qab.mp h
  obtain⟨j,e2,h⟩:=qad.mp h;exact⟨_,_,_,ds,j,U,U,U,O,e2,h.symm⟩
 ·cases h
theorem ko {tpos:Pos} (ho:IE K X a fa) (hi:IE K X b fb) (hv:IE K X e f) (hb:r8 b=true:=by rfl) (hs:qeS [.Subscript a b tpos] e pos.line X.env=pure false:=by rfl) (hw:qeT [.Subscript a b tpos] e X.env=pure none:=by rfl) :
  IS K X (.Assign [.Subscript a b tpos] e pos) (bE fa fb f):=by
 refine⟨λenv st r G=>?_⟩;simp only[bE,qab,qad]at G;obtain⟨P,ev,ro,eo,ri,ei,s',es,rfl⟩:=G;refine (sh (hv.run _ _ _ ev) (wd (ho.run _ _ _ eo) (hi.run _ _ _ ei) oK (qk hb)) hs hw (me U)).imp ?_
 rintro D A H ⟨φ,E,F,q⟩
 refine⟨φ,E,F,λv H1 L M s1 w1=>⟨L,E.fw F M,s1,λo H2 φ2 f2 s2 w2=>⟨φ2,(E.fw F M).fw s1 f2,s2,λi H3 φ3 f3 s3 w3=>?_⟩⟩⟩;obtain⟨ro1,ro2⟩:=ro;obtain⟨rv1,rv2⟩:=P;obtain⟨ri1,ri2⟩:=ri;obtain⟨n,k,x,ds,j,rfl,rfl,rfl,eds,ej,rfl⟩:=wu es;obtain⟨p,ep,rfl⟩:=(w2.fw s2 f3);obtain⟨Y,hp,rl⟩:=s3.atl n p ds ep eds;subst w3;obtain⟨f4,s4⟩:=s3.put ep (Rls.set j rl ((w1.fw s1 f2).fw s2 f3));refine⟨p,Y,k,j,U,U,hp,by rw[<-rl.length];exact ej,?_⟩;exact q _ _ φ3 (((M.trans f2).trans f3).trans f4) ((((E.fw F M).fw s1 f2).fw s2 f3).fw s3 f4) s4
theorem rh (h:IE K X e f):IS K X (.Return (some e) pos) (aM f):=by
 refine⟨λenv st r G=>?_⟩;simp only[aM,qad]at G;obtain⟨y,hy,rfl⟩:=G;exact (FC (h.run _ _ _ hy)).imp λD A H ⟨φ,E,F,q⟩=>⟨φ,E,F,q⟩
theorem mF (h:IE K X e f) (hs:qcM e none pos.line X.env=pure false:=by rfl):IS K X (.Expr e pos) (j7 f):=by
 refine⟨λenv st r G=>?_⟩;simp only[j7,qad]at G;obtain⟨y,hy,rfl⟩:=G;exact (C8 (h.run _ _ _ hy) hs).imp λD A H ⟨φ,E,F,q⟩=>⟨φ,E,F,λv H1 L M s1 w1=>q A H1 L M (E.fw F M) s1⟩
theorem xw {tc:Tf}{sa sb:List Stmt} (hc:IT K X c tc) (ha:ISs K X sa ga) (hb:ISs K X sb gb):IS K X (.If c sa sb pos) (bA tc ga gb):=by
 refine⟨λenv st r G=>?_⟩;simp only[bA,qab]at G;obtain⟨⟨k,s1⟩,hx,G⟩:=G;cases k with
 |true=>
  refine (D6 (hc.run _ _ _ hx) (ha.run _ _ _ G) gz).imp ?_
  rintro D A H ⟨φ,E,F,q⟩
  refine⟨φ,E,F,λH1 L M s1=>Cu ?_⟩;exact⟨L,E.fw F M,s1,q.fw M⟩
 |false=>
  refine (D6 (hc.run _ _ _ hx) gz (hb.run _ _ _ G)).imp ?_
  rintro D A H ⟨φ,E,F,q⟩
  refine⟨φ,E,F,λH1 L M s1=>Ct ?_⟩;exact⟨L,E.fw F M,s1,q.fw M⟩
theorem kj:IS K X (.Break pos) vD:=by
 refine⟨λenv st r G=>?_⟩;cases G;exact Ba.imp λD A H ⟨φ,E,F,q⟩=>q A H φ (Fw.refl φ H) E F
theorem mE:IS K X (.Continue pos) pN:=by
 refine⟨λenv st r G=>?_⟩;cases G;exact uS.imp λD A H ⟨φ,E,F,q⟩=>q A H φ (Fw.refl φ H) E F
def Ho (K:qae) (g:Sf):TS:=λD A H=>∃ env st r,g env st=some r/\tS K env st r D A H
def BD (K:qae) (f:Ef):TE:=λA H Q=>∃ env st r,f env st=some r/\tI K env st r A H Q
def yq (K:qae) (f:Tf):TT:=λA H Q=>∃ env st r,f env st=some r/\tIT K env st r A H Q
theorem ISs.any (h:ISs K X ss ga):PSs X ss (Ho K ga):=λB s A H D I ⟨env,st,r,e,q⟩=>h.run env st r e B s A H D I q
theorem IE.any (h:IE K X e f):PE X e (BD K f):=λB s A H D I ⟨env,st,r,e,q⟩=>h.run env st r e B s A H D I q
theorem IT.any {tf:Tf} (h:IT K X e tf):PT X e (yq K tf):=λB s A H D I ⟨env,st,r,e,q⟩=>h.run env st r e B s A H D I q
def Yl (K:qae) (φ0:List Addr) (H0:Hp) (J:It) (ds:List D):Prop:=∀ (H:Hp) (φ:List Addr) (st:Sto) (i:Nat),Fw φ0 φ H0 H->Sr K H φ st->
 (∀ d,ds[i]?=some d->J.go i H/\∀ x H',J.yld i H x H'->aP H H'/\Rl K H' φ d x)/\(ds.length=i->J.stop i H)
def tII (K:qae) (env:Ev) (st:Sto) (r:List D×Sto):TI:=λA H R=>∃ φ,Er K H φ env A/\Sr K H φ st/\∀ J H' φ',Fw φ φ' H H'->Sr K H' φ' r.2->Yl K φ' H' J r.1->R J H'
structure II (K:qae) (X:Cx) (tg iter:Expr) (f:Lf):Prop where
 run:∀ env st r,f env st=some r->PI X tg iter (tII K env st r)
theorem PI.imp {tg iter:Expr}{t t':TI} (h:PI X tg iter t) (m:∀ A H R,t' A H R->t A H R):PI X tg iter t':=λB s A H R I q=>h B s A H R I (m A H R q)
variable {tg:Expr}
end
section
variable {K:qae}{X:Cx}{pos:Pos}{tg e a b:Expr}{f:Ef}{af:Af}
theorem nQ (h:IE K X e f) (hK:X.K=K:=by rfl):II K X tg e (ar f):=by
 subst hK;refine⟨λenv st r B=>?_⟩;simp only[ar,qab]at B;obtain⟨⟨w,s1⟩,hy,B⟩:=B;dsimp only at B;split at B
 ·rename_i ds
  cases B;refine (Fz (h.run _ _ _ hy)).imp ?_
  rintro G H R ⟨φ,Y,N,q⟩
  refine⟨φ,Y,N,λv H1 E f1 s1 w1=>?_⟩;obtain⟨a,W,rfl,hq,B⟩:=w1;refine⟨a,U,⟨W,(SqT.of hq)⟩,q _ H1 E f1 s1 λH2 u O i f2 s2=>?_⟩;have hq2:=(SqT.of hq).fw s1 f2;have hr2:=B.fw s1 f2;refine⟨λd hd=>?_,λhi=>⟨W,hq2,by rw[<-hr2.length];exact qdx hi⟩⟩;obtain⟨v,ev,rv⟩:=hr2.get hd;refine⟨⟨W,v,hq2,ev⟩,λx H' y=>?_⟩;obtain⟨rfl,y⟩:=y
  have:=y W hq2
  rw[ev]at this;cases this;exact⟨aP.refl _,rv⟩
 ·rename_i ds
  cases B;refine (C2 (h.run _ _ _ hy)).imp ?_
  rintro G H R ⟨φ,Y,N,q⟩
  refine⟨φ,Y,N,λv H1 E f1 s1 w1=>?_⟩;obtain⟨a,W,rfl,h0,hq,B⟩:=w1;refine⟨a,U,⟨W,.inl hq⟩,q _ H1 E f1 s1 λH2 u O i f2 s2=>?_⟩;have hq2:SqL X.K H2 a W:=.inl (hq.fw f2 h0);have hr2:=B.fw s1 f2;refine⟨λd hd=>?_,λhi=>⟨W,hq2,by rw[<-hr2.length];exact qdx hi⟩⟩;obtain⟨v,ev,rv⟩:=hr2.get hd;refine⟨⟨W,v,hq2,ev⟩,λx H' y=>?_⟩;obtain⟨rfl,y⟩:=y
  have:=y W hq2
  rw[ev]at this;cases this;exact⟨aP.refl _,rv⟩
 all_goals cases B
theorem uX (lo:Int) (n i:Nat):(bh lo n)[i]?=if i<n then some (.int (lo+i)) else none:=by
 unfold bh;rw[qaF];by_cases h:i<n
 ·rw[qbp h,iFP h];rfl
 ·rw[qaX (by simpa using h),iFN h];rfl
theorem bb (lo:Int) (n:Nat):(bh lo n).length=n:=by unfold bh;rw[qaf,qaw]
theorem F6 (lo:Int) (n:Nat) {φ:List Addr}{H:Hp}:Yl K φ H (Itr lo n) (bh lo n):=by
 intro H2 u O i f2 s2;refine⟨λd hd=>?_,λhi=>by rw[bb]at hi;exact qdx hi⟩;rw[uX]at hd;by_cases h:i<n
 ·rw[iFP h]at hd
  cases hd;refine⟨h,λx H' y=>?_⟩;obtain⟨rfl,rfl⟩:=y;exact⟨aP.refl _,U⟩
 ·rw[iFN h]at hd;cases hd
theorem mz {p:Pos} (hg:Gl X "range") (hm:X.mg "range" = none) (ha:IA K X [a] af) (hs:av a=true:=by rfl):II K X tg (.Call (.Name "range" p) [a] [] pos) (bi af):=by
 refine⟨λenv st r B=>?_⟩;simp only[bi,qab]at B;obtain⟨⟨ws,s1⟩,hy,B⟩:=B;dsimp only at B;split at B
 case h_2=>cases B
 rename_i j;have L:(if -(2^62)<=j/\j<2^62 then some (bh 0 j.toNat,s1) else none)=some r:=B;by_cases hj:-(2^62)<=j/\j<2^62
 ·rw[iFP hj]at L
  cases L;refine (zn hg hm (ha.run _ _ _ hy) (gF hs)).imp ?_
  rintro G H R ⟨φ,Y,N,q⟩
  refine⟨φ,Y,N,λW H1 E f1 s1 w1=>?_⟩;obtain⟨v,r,rfl,r1,rfl⟩:=w1;exact⟨j,by rw[show v=.int j from r1],hj.1,hj.2,q _ H1 E f1 s1 (F6 0 _)⟩
 ·rw[iFN hj]at L;cases L
theorem gj:∀ (ds:List D) (k i:Nat),(cB k ds)[i]?=(ds[i]?).map λd=>D.tup [.int ((k+i:Nat):Int),d]
 |[],k,i=>by simp[cB]
 |d::ds,k,0=>by simp[cB]
 |d::ds,k,i+1=>by
  have:=gj ds (k+1) i
  rw[show k+1+i=k+(i+1) by lia]at this;simpa [cB] using this
theorem jd:∀ (ds:List D) (k:Nat),(cB k ds).length=ds.length
 |[],_=>rfl
 |d::ds,k=>by rw[cB,qar,qar,jd ds]
theorem yE {S:Hp->List V->Prop}{ds:List D}{W:List V}{φ:List Addr}{H:Hp} (N:∀ H' P,Fw φ P H H'->S H' W) (B:∀ H' P,Fw φ P H H'->Rls K H' P ds W):Yl K φ H (Ite S) (cB 0 ds):=by
 intro H2 u O i f2 s2;have q2:=N H2 u f2;have r2:=B H2 u f2;refine⟨λd hd=>?_,λhi=>⟨W,q2,by rw[<-r2.length,<-jd ds 0];exact hi⟩⟩;rw[gj,qad]at hd;obtain⟨d',hd',rfl⟩:=hd;obtain⟨v,ev,rv⟩:=r2.get hd';refine⟨⟨W,v,q2,ev⟩,λx H' y=>?_⟩;obtain⟨T,v',y1,hT,rfl,rfl⟩:=y
 have:=y1 W q2
 rw[ev]at this;cases this;refine⟨aP.new hT _,T,_,U,upd_same,_,_,U,?_,_,_,U,rv.fw s2 (Fw.new hT),U⟩;show V.int _=V.int _;rw[qa0]
theorem my {elts:List Expr}{k:Nat}{tpos p:Pos} (hg:Gl X "enumerate") (hm:X.mg "enumerate" = none) (ha:IA K X [a] af) (hs:av a=true:=by rfl) (hK:X.K=K:=by rfl) :
  II K X (.Tuple elts k tpos) (.Call (.Name "enumerate" p) [a] [] pos) (cY af):=by
 subst hK;refine⟨λenv st r B=>?_⟩;simp only[cY,qab]at B;obtain⟨⟨ws,s1⟩,hy,B⟩:=B;dsimp only at B;split at B
 ·rename_i ds
  cases B;refine (AX hg hm (ha.run _ _ _ hy) (gF hs)).imp ?_
  rintro G H R ⟨φ,Y,N,q⟩
  refine⟨φ,Y,N,λW H1 E f1 s1 w1=>?_⟩;obtain⟨v,r,rfl,⟨a,us,rfl,hq,B⟩,rfl⟩:=w1;exact⟨a,U,⟨us,(SqT.of hq)⟩,q _ H1 E f1 s1 (yE (λH' P f=>(SqT.of hq).fw s1 f) λH' P f=>B.fw s1 f)⟩
 ·rename_i ds
  cases B;refine (AW hg hm (ha.run _ _ _ hy) (gF hs)).imp ?_
  rintro G H R ⟨φ,Y,N,q⟩
  refine⟨φ,Y,N,λW H1 E f1 s1 w1=>?_⟩;obtain⟨v,r,rfl,⟨a,us,rfl,h0,hq,B⟩,rfl⟩:=w1;exact⟨a,U,⟨us,.inl hq⟩,q _ H1 E f1 s1 (yE (λH' P f=>.inl (hq.fw f h0)) λH' P f=>B.fw s1 f)⟩
 all_goals cases B
theorem rg {iter:Expr}{body:List Stmt}{fi:Lf}{g:Tg}{gb:Sf} (hi:II K X tg iter fi) (hg:PG X tg (tG K g)) (hb:ISs K X body gb) (hp:qhH (model X.prog X.w) X.A X.env X.xe) (hc:X.calm=true:=by rfl)
  (hs:∀ x,qbE iter X.env x=pure x:=by intro _;rfl):IS K X (.For tg iter body [] pos) (gR fi g gb):=by
 refine⟨λenv st r B=>?_⟩;simp only[gR,qab]at B;obtain⟨⟨ds,s1⟩,hy,B⟩:=B;refine (FB hp hc (hi.run _ _ _ hy) hg hb.any hs).imp ?_
 rintro D G H ⟨φ,Y,N,q⟩
 refine⟨φ,Y,N,λJ H1 E f1 S1 yl=>?_⟩;refine⟨λi m G H=>m=ds.length - i/\i<=ds.length/\∃ env st u,Fw E u H1 H/\Er K H u env G/\Sr K H u st/\cS g gb (ds.drop i) env st=some r,⟨ds.length,by simp,qcc _,env,s1,E,Fw.refl _ _,Y.fw N f1,S1,B⟩,?_⟩
 rintro i m G H2 ⟨rfl,hi,env2,O,u,f2,e2,S2,h2⟩
 obtain⟨y1,y2⟩:=yl H2 u O i f2 S2;by_cases hlt:i<ds.length
 ·obtain⟨go,yld⟩:=y1 ds[i] (qai hlt)
  rw[qcE hlt]at h2;simp only[cS,qab]at h2;obtain⟨e3,he3,r3,hr3,h3⟩:=h2;refine .inr ⟨go,λσ' H'=>i+1<=ds.length/\∃ env st u,Fw E u H1 H'/\Er K H' u env σ'/\Sr K H' u st/\cS g gb _ env st=some r,λσ' H' ⟨hn,p'⟩=>⟨_,by lia,U,hn,p'⟩,λx H' y=>?_⟩;obtain⟨sm,rx⟩:=yld x H' y;have S3:=S2.same sm;have f3:=f2.trans (Fw.same sm);refine⟨u,O,env2,.d ds[i],e3,e2.fw S2 (Fw.same sm),S3,rx,he3,λσ' e' _=>?_⟩;refine⟨e3,O,r3,hr3,u,e',S3,?_⟩;cases r3 with
  |nx e4 s4=>exact λσ4 H4 F f4 e4' M=>⟨hlt,e4,s4,F,f3.trans f4,e4',M,h3⟩
  |ct e4 s4=>exact λσ4 H4 F f4 e4' M=>⟨hlt,e4,s4,F,f3.trans f4,e4',M,h3⟩
  |bk e4 s4=>
   cases h3;exact λσ4 H4 F f4 e4' M=>q σ4 H4 F (f1.trans (f3.trans f4)) e4' M
  |rt w s4=>
   cases h3;exact λv H4 F f4 M w4=>q v H4 F (f1.trans (f3.trans f4)) M w4
 ·have hi':i=ds.length:=by lia
  subst hi';rw[qfJ]at h2;cases h2;exact .inl ⟨y2 U,q G H2 u (f1.trans f2) e2 S2⟩
def vE (n:Nat) (c:Tf) (b:Sf):Sf
 |env,st=>cP c b n env st
theorem kq {c:Expr}{body:List Stmt}{tc:Tf}{gb:Sf} (n:Nat) (hc:IT K X c tc) (hb:ISs K X body gb) (hp:qhH (model X.prog X.w) X.A X.env X.xe):IS K X (.While c body [] pos) (vE n tc gb):=by
 refine⟨λenv st r B=>?_⟩;refine (Bc hp hc.any hb.any).imp ?_
 rintro D G H ⟨φ,Y,N,q⟩
 refine⟨λm G H'=>∃ env st u,Fw φ u H H'/\Er K H' u env G/\Sr K H' u st/\cP tc gb m env st=some r,⟨n,env,st,φ,Fw.refl _ _,Y,N,B⟩,?_⟩
 rintro m G H2 ⟨env2,O,u,f2,e2,S2,h2⟩
 cases m with
 |zero=>cases h2
 |succ m=>
  simp only[cP,qab]at h2;obtain⟨⟨k,s3⟩,hk,h2⟩:=h2;refine⟨env2,O,_,hk,u,e2,S2,λH3 φ3 f3 S3=>?_⟩;cases k with
  |false=>
   cases h2;exact Ct (q G H3 φ3 (f2.trans f3) (e2.fw S2 f3) S3)
  |true=>
   simp only[if_true,qab]at h2;obtain⟨r3,hr3,h3⟩:=h2;refine Cu ⟨_,λσ' H' p'=>⟨m,qbN _,p'⟩,?_⟩;refine⟨env2,s3,r3,hr3,φ3,e2.fw S2 f3,S3,?_⟩;have f3':=f2.trans f3;cases r3 with
   |nx e4 s4=>exact λσ4 H4 F f4 e4' M=>⟨e4,s4,F,f3'.trans f4,e4',M,h3⟩
   |ct e4 s4=>exact λσ4 H4 F f4 e4' M=>⟨e4,s4,F,f3'.trans f4,e4',M,h3⟩
   |bk e4 s4=>
    cases h3;exact λσ4 H4 F f4 e4' M=>q σ4 H4 F (f3'.trans f4) e4' M
   |rt w s4=>
    cases h3;exact λv H4 F f4 M w4=>q v H4 F (f3'.trans f4) M w4
structure ITs (K:qae) (X:Cx) (ifs:List Expr) (t:Tf):Prop where
 run:PTs X ifs (yq K t)
theorem jh:ITs K X [] az:=by
 refine⟨λpins s G H Q I ⟨env,st,r,e,φ,Y,N,q⟩=>?_⟩;cases e;exact Db pins s G H Q I (q H φ (Fw.refl φ H) N)
theorem mL {c:Expr}{t:Tf} (h:IT K X c t):ITs K X [c] t:=⟨Dc h.any⟩
theorem Er.emb {H:Hp}{φ:List Addr}{env:Ev}{G:St} (h:Er K H φ env G) (k:Nat) (js:List Nat):Er K H φ (eL k js env) (eM k js G):=by
 refine⟨by unfold eL eM;simp,λi w e=>?_⟩;unfold eL at e;unfold eM;by_cases hi:i<k
 ·rw[qaI (by simpa using hi),qdB,iFP hi]at e
  cases e
 ·rw[qaO (by simpa using hi),qda,qaF,qad]at e
  obtain⟨j,ej,e⟩:=e;have ej2:env[j]?=some (some w):=by
   rw[qfY]at e;cases q:env[j]? with
   |none=>rw[q]at e;cases e
   |some o=>rw[q]at e;rw[show o=some w from e]
  obtain⟨v,ev,rv⟩:=h.at_ j w ej2;refine⟨v,?_,rv⟩;rw[qaO (by simpa using hi),qda,qaF,ej];show some ((G[j]?).getD none)=_;rw[ev];rfl
theorem Sub.stay {k:Nat}{js is:List Nat}{G σ':St} (h:B0 is (eM k js G) σ') (hi:∀ j∈is,j<k):Sub (eM k js G) σ':=by
 refine⟨h.1.symm,λj v e=>?_⟩;by_cases hj:j∈is
 ·have:=hi j hj
  unfold eM at e;rw[qaI (by simpa using this),qdB,iFP this]at e;cases e
 ·rw[h.2 j hj];exact e
theorem vN {k:Nat}{js:List Nat}{g:Tg}{tt:Tf}{te:Ef}{env:Ev}{st s1:Sto}{ds:List D}{r:List D×Sto} (hgi:∀ j∈nL g,j<k) (hdl:ds.length<=1000000) (L:lcI g tt te (eL k js env) ds s1=some r) :
  ∀ G H Q,tIL K env st r G H Q->tLc (eM k js) (tII K env st (ds,s1)) (tG K g) (yq K tt) (BD K te) G H Q:=by
 rintro G H Q ⟨φ,Y,N,q⟩
 refine⟨φ,Y,N,λJ H1 E f1 S1 yl=>?_⟩;refine⟨λi m ys H2=>m=ds.length - i/\i<=ds.length/\∃ st u es r2,Fw E u H1 H2/\Sr K H2 u st/\Rls K H2 u es ys/\es.length<=i/\lcI g tt te _ (ds.drop i) st=some r2/\r=(es++r2.1,r2.2),⟨ds.length,by simp,qcc _,s1,E,[],r,Fw.refl _ _,S1,U,qap _,L,U⟩,?_⟩
 rintro i m ys H2 ⟨rfl,hi,O,u,es,r2,f2,S2,rl2,hle,h2,rfl⟩
 obtain⟨y1,y2⟩:=yl H2 u O i f2 S2;by_cases hlt:i<ds.length
 ·obtain⟨go,yld⟩:=y1 ds[i] (qai hlt)
  rw[qcE hlt]at h2;simp only[lcI,qab]at h2;obtain⟨e3,he3,⟨kb,s3⟩,hb3,h3⟩:=h2;have hz:ys.length<qaN:=by
   rw[<-rl2.length]
   have:=qdj
   lia
  refine .inr ⟨go,hz,λys' H'=>i+1<=ds.length/\∃ st u es' r2',Fw E u H1 H'/\Sr K H' u st/\Rls K H' u es' ys'/\es'.length<=i+1/\lcI g tt te _ _ st=some r2'/\(es++r2.1,r2.2)=(es'++r2'.1,r2'.2),λys' H' ⟨hn,p'⟩=>⟨_,by lia,U,hn,p'⟩,λx H' y=>?_⟩;obtain⟨sm,rx⟩:=yld x H' y;have S3:=S2.same sm;have f3:=f2.trans (Fw.same sm);refine⟨u,O,_,.d ds[i],e3,((Y.fw N f1).emb k js).fw S1 f3,S3,rx,he3,λσ' e' stay=>⟨Sub.stay stay hgi,?_⟩⟩;refine⟨e3,O,_,hb3,u,e',S3,λH4 F f4 S4=>?_⟩;cases kb with
  |false=>
   exact Ct ⟨hlt,s3,F,es,r2,f3.trans f4,S4,(rl2.fw S2 (Fw.same sm)).fw S3 f4,by lia,h3,U⟩
  |true=>
   simp only[if_true,qab,qad]at h3;obtain⟨x5,hx5,zs,hzs,r5,hr5,rfl⟩:=h3;refine Cu ⟨e3,s3,x5,hx5,F,e'.fw S3 f4,S4,λv H5 φ5 f5 S5 w5=>?_⟩;obtain⟨x5,s5⟩:=x5;cases x5 with
   |h n=>cases hzs
   |d z=>
    cases hzs;refine⟨hlt,s5,φ5,es++[z],r5,(f3.trans f4).trans f5,S5,(((rl2.fw S2 (Fw.same sm)).fw S3 f4).fw S4 f5).append ⟨v,_,U,w5,U⟩,by simp;lia,hr5,?_⟩
    simp
 ·have hi':i=ds.length:=by lia
  subst hi';rw[qfJ]at h2;cases h2;refine .inl ⟨y2 U,λDn hD=>?_⟩
  have:=q Dn ys H2 u (f1.trans f2) S2 hD
  exact this (by simpa using rl2)
theorem Aj {A:Scope}{Nc:List Str}{k:Nat}{js:List Nat}{elt iter:Expr}{ifs:List Expr}{fi:Lf}{g:Tg}{tt:Tf}{te:Ef}
  (S:dB X A Nc (eM k js)) (hc:X.calm=true) (hgi:∀ j∈nL g,j<k) (hi:II K X tg iter fi)
  (hg:∀ l s H C fp,PG (lcX X A l Nc s H C fp) tg (tG K g)) (ht:∀ l s H C fp,ITs K (lcX X A l Nc s H C fp) ifs tt) (he:∀ l s H C fp,IE K (lcX X A l Nc s H C fp) elt te)
  (hs:∀ x,qbE iter X.env x=pure x:=by intro _;rfl):IL K X (.ListComp elt [⟨tg,iter,ifs,0⟩] A pos) (iLc k js fi g tt te):=by
 refine⟨λenv st r B=>?_⟩;simp only[iLc,qab]at B;obtain⟨⟨ds,s1⟩,hy,B⟩:=B;have L:=B;by_cases hdn:¬ ds.length<=1000000
 ·rw[iFN hdn]at L;cases L
 have hdl:ds.length<=1000000:=by lia
 rw[iFP hdl]at L;refine (D3 S hc (hi.run _ _ _ hy) hg (λl s H C fp=>(ht l s H C fp).run) (λl s H C fp=>(he l s H C fp).any) hs).imp (vN hgi hdl L)
theorem GE {A:Scope}{Nc:List Str}{k:Nat}{js:List Nat}{elt iter:Expr}{ifs:List Expr}{fi:Lf}{g:Tg}{tt:Tf}{te:Ef}{i0:Nat}{x0:Str}{py spos:Pos}
  (hN0:X.N.Nodup) (hi0:X.N[i0]?=some x0) (hx0:Loc X.env.scope x0) (S:dB X A Nc (eM k js)) (hc:X.calm=true) (hgi:∀ j∈nL g,j<k) (hi:II K X tg iter fi)
  (hg:∀ l s H C fp,PG (lcX X A l Nc s H C fp) tg (tG K g)) (ht:∀ l s H C fp,ITs K (lcX X A l Nc s H C fp) ifs tt) (he:∀ l s H C fp,IE K (lcX X A l Nc s H C fp) elt te)
  (hsw:qcM (.ListComp elt [⟨tg,iter,ifs,0⟩] A pos) (some (.Name x0 py)) spos.line X.env=pure true:=by rfl)
  (hf0:X.fn x0=true\/X.env.scope.names.lookup x0=some .local:=by first|exact .inl U|exact .inr U|assumption)
  (hs:∀ x,qbE iter X.env x=pure x:=by intro _;rfl):IS K X (.Assign [.Name x0 py] (.ListComp elt [⟨tg,iter,ifs,0⟩] A pos) spos) (aw (.nm i0) (ap (iLc k js fi g tt te)))/\
   IS K X (.Assign [.Name x0 py] (.ListComp elt [⟨tg,iter,ifs,0⟩] A pos) spos) (aw (.nm i0) (cx (iLc k js fi g tt te))):=by
 have key:∀ env st r0 r,iLc k js fi g tt te env st=some r->(∀ G φ H (D:o8),Er K H φ env G->Sr K H φ st->zG K φ H D r0->∀ a W H1 P,Fw φ P H H1->Sr K H1 P r.2->H1 a=none->Rls K H1 P r.1 W->D.nx (G.set i0 (some (.ref a))) (upd H1 a (.lst W)))->
   PS X (.Assign [.Name x0 py] (.ListComp elt [⟨tg,iter,ifs,0⟩] A pos) spos) (tS K env st r0):=by
  intro env st r0 r B h;simp only[iLc,qab]at B;obtain⟨⟨ds,s1⟩,hy,B⟩:=B;have L:=B;by_cases hdn:¬ ds.length<=1000000
  ·rw[iFN hdn]at L;cases L
  have hdl:ds.length<=1000000:=by lia
  rw[iFP hdl]at L;refine (D7 hN0 hi0 hx0 S hc (hi.run _ _ _ hy) hg (λl s H C fp=>(ht l s H C fp).run) (λl s H C fp=>(he l s H C fp).any) hsw hf0 hs).imp ?_
  rintro D G H ⟨φ,Y,N,q⟩
  exact vN hgi hdl L G H _ ⟨φ,Y,N,h G φ H D Y N q⟩
 constructor
 ·refine⟨λenv st r B=>?_⟩
  simp only[aw,ap,cv,qab,qad]at B;obtain⟨y,⟨r2,hy,rfl⟩,e',ee,rfl⟩:=B;cases ee;refine key _ _ _ _ hy λG φ H D Y N q a W H1 E f1 s1 n1 w1=>?_;exact q _ _ E (f1.trans (Fw.new n1)) ((((Y.fw N f1).fw s1 (Fw.new n1))).set i0 ⟨a,W,U,s1.nin n1,.inl upd_same,w1.fw s1 (Fw.new n1)⟩) (s1.new n1)
 ·refine⟨λenv st r B=>?_⟩
  simp only[aw,cx,cv,qab,qad]at B;obtain⟨y,⟨r2,hy,rfl⟩,e',ee,rfl⟩:=B;cases ee;refine key _ _ _ _ hy λG φ H D Y N q a W H1 E f1 s1 n1 w1=>?_;exact q _ _ _ (f1.trans (Fw.more n1)) (((Y.fw N f1).fw s1 (Fw.more n1)).set i0 ⟨a,by rw[<-s1.len];simp,U⟩) (s1.more n1 w1)
end
def bj (n k:Nat) (b:Sf):Fn
 |ws,st=>if ws.length=k then (b (ws.map some++qaL (n - k) none) st).bind λr=>match r with
 |.nx _ s=>some (.d .non,s)
 |.rt w s=>some (w,s)
 |_=>none
 else none
def z9 (n:Nat) (w:W) (s:Sto):Option (W×Sto):=match w with
 |.d x=>some (.d x,s.take n)
 |.h m=>if m<n then some (.h m,s.take n) else (lg s m).map λds=>(.d (.lst ds),s.take n)
def f8 (n k:Nat) (b:Sf):Fn
 |ws,st=>if ws.length=k then (b (ws.map some++qaL (n - k) none) st).bind λr=>match r with
 |.nx _ s=>some (.d .non,s.take st.length)
 |.rt w s=>z9 st.length w s
 |_=>none
 else none
section
variable {P:qaR}{w:World}{K:qae}{mg:Str->Option Value}{base:Heap}
theorem nF {H:Hp}{φ:List Addr}{N:List Str}{k:Nat}:∀ {ws:List W}{o:List V},Rws K H φ ws o->ws.length=k->Er K H φ (ws.map some++qaL (N.length - k) none) (i9 N o):=by
 intro ws o r hk;have l:=r.length;refine⟨by unfold i9;simp;lia,λi x e=>?_⟩;unfold i9;by_cases hi:i<ws.length
 ·rw[qaI (by simpa using hi),qaF,qad]at e
  obtain⟨y,B,e⟩:=e
  have:∃ v,o[i]?=some v/\Rw K H φ y v:=by
   clear hk l hi e
   induction ws generalizing o i with
   |nil=>simp at B
   |cons w ws ih=>
    obtain⟨v,r',rfl,Y,r2⟩:=r;cases i with
    |zero=>simp at B;subst B;exact⟨v,U,Y⟩
    |succ i=>simpa using ih r2 i (by simpa using B)
  obtain⟨v,ev,T⟩:=this;cases e;refine⟨v,?_,T⟩;rw[qaI (by rw[qaf,<-l];exact hi),qaF,ev];rfl
 ·rw[qaO (by simpa using hi)]at e
  have:=qby e
  have:=(List.mem_replicate.mp this).2
  cases this
theorem HM {x g:Str}{st:Stmt}{f:Addr}{fd:qcd}{N ps:List Str}{k:Nat}{b:Sf} (F:Fun K x g st f fd) (S:cC N ps (aq st))
  (hb:∀ (j:Value) (A:qaZ) (outer:List Env) (s:qam) (H:Hp) (E:XK),bH k (A.deeper (qeL g (aq st) s.heap.objs.size f j))->ISs K (gh CX0 P w K mg base N g (aq st) f j A outer s H E).nox (bf st) b) :
  dU P w K mg base CX0 (k+1) f fd ps (spI K (bj N.length ps.length b)):=by
 refine F.ok S (λo H Q E h=>?_) λj A outer s H o Q E G h=>?_
 ·obtain⟨φ,st,ws,r,e,rw,_⟩:=h
  rw[bj]at e;by_cases l:ws.length=ps.length
  ·rw[<-rw.length,l]
  ·rw[iFN l]at e;cases e
 ·obtain⟨φ,p,ws,r,e,rw,S',q⟩:=h
  rw[bj]at e;by_cases l:ws.length=ps.length
  ·rw[iFP l]at e
   obtain⟨fl,J,e2⟩:=qab.mp e;refine⟨_,(hb j A outer s H E G).run _ _ _ J,φ,nF rw l,S',?_⟩;cases fl with
   |nx e s=>cases e2;exact λL H' c n X s'=>q .non H' c n s' U
   |rt w s=>cases e2;exact λv H' c n s' u=>q v H' c n s' u
   |bk e s=>cases e2
   |ct e s=>cases e2
  ·rw[iFN l]at e;cases e
theorem Fw.less {φ c:List Addr}{H H':Hp} (f:Fw φ c H H'):Fw φ φ H H':=⟨⟨[],by simp,by simp⟩,f.keep,f.there⟩
theorem Gr {x g:Str}{st:Stmt}{f:Addr}{fd:qcd}{N ps:List Str}{k:Nat}{b:Sf} (F:Fun K x g st f fd) (S:cC N ps (aq st))
  (hb:∀ (j:Value) (A:qaZ) (outer:List Env) (s:qam) (H:Hp) (E:XK),bH k (A.deeper (qeL g (aq st) s.heap.objs.size f j))->ISs K (gh CX0 P w K mg base N g (aq st) f j A outer s H E).nox (bf st) b) :
  dU P w K mg base CX0 (k+1) f fd ps (spI K (f8 N.length ps.length b)):=by
 refine F.ok S (λo H Q E h=>?_) λj A outer s H o Q E G h=>?_
 ·obtain⟨φ,st,ws,r,e,rw,_⟩:=h
  rw[f8]at e;by_cases l:ws.length=ps.length
  ·rw[<-rw.length,l]
  ·rw[iFN l]at e;cases e
 ·obtain⟨φ,p,ws,r,e,rw,S',q⟩:=h
  rw[f8]at e;by_cases l:ws.length=ps.length
  ·rw[iFP l]at e
   obtain⟨fl,J,e2⟩:=qab.mp e;refine⟨_,(hb j A outer s H E G).run _ _ _ J,φ,nF rw l,S',?_⟩;have less:∀ {H':Hp}{c:List Addr}{s':Sto},Fw φ c H H'->Sr K H' c s'->Sr K H' φ (s'.take p.length):=λ{H' c s'} n S2=>by
    obtain⟨ψ,rfl,_⟩:=n.ext;rw[<-S'.len];exact S2.less
   cases fl with
   |nx e s=>cases e2;exact λL H' c n X s'=>q .non H' φ n.less (less n s') U
   |rt w s=>
    intro v H' c n s' u;have e3:z9 p.length w s=some r:=e2;obtain⟨ψ,t,_⟩:=n.ext;cases w with
    |d x=>
     cases e3;subst t;exact q v H' φ n.less (less n s') (Rl.less u)
    |h m=>
     obtain⟨a,C,rfl⟩:=u;unfold z9 at e3;by_cases D:m<p.length
     ·have e4:=by
       have:=e3
       simp only[D,if_true]at this;exact this
      cases e4;subst t;rw[qaI (by rw[S'.len];exact D)]at C;exact q _ H' φ n.less (less n s') ⟨a,C,U⟩
     ·simp only[D,if_false]at e3
      obtain⟨ds,O,rfl⟩:=qad.mp e3;obtain⟨o,hv,rl⟩:=s'.atl m a ds C O;have hn:a∉φ:=λz=>by
       obtain⟨i,hi,ei⟩:=qbQ.mp z;have R:c[i]?=some a:=by subst t;rw[qaI hi,qai hi,ei]
       obtain⟨h2,I⟩:=qat.mp R;obtain⟨h3,M⟩:=qat.mp C
       have:=(qdT s'.nd).mp (I.trans M.symm)
       rw[S'.len]at hi;lia
      subst t;exact q _ H' φ n.less (less n s') ⟨a,o,U,hn,.inl hv,rl.less⟩
   |bk e s=>cases e2
   |ct e s=>cases e2
  ·rw[iFN l]at e;cases e
end
def cQ:D->Bool
 |.non=>true
 |.bl _=>true
 |.int _=>true
 |.str _=>true
 |_=>false
def vOf:D->V
 |.bl b=>.bl b
 |.int i=>.int i
 |.str x=>.str x
 |_=>.non
mutual
def eqD:D->D->Bool
 |.non,.non=>true
 |.bl a,.bl b=>a==b
 |.bl a,.int b=>(if a then 1 else 0)==b
 |.int a,.bl b=>a==(if b then 1 else 0)
 |.int a,.int b=>a==b
 |.str a,.str b=>a==b
 |.tup as,.tup bs=>iq as bs
 |.lst as,.lst bs=>iq as bs
 |_,_=>false
def iq:List D->List D->Bool
 |[],[]=>true
 |a::as,b::bs=>eqD a b&&iq as bs
 |_,_=>false
end
def okD:Nat->D->Bool
 |_,.non=>true
 |_,.bl _=>true
 |_,.int _=>true
 |_,.str _=>true
 |n+1,.tup ds=>ds.all (okD n)
 |n+1,.lst ds=>ds.all (okD n)
 |_,_=>false
def lsD (st:Sto):W->Option (List D)
 |.d (.lst ds)=>some ds
 |.h n=>lg st n
 |_=>none
def bm (st:Sto) (x y:W):Option D:=match x,y with
 |.d (.int i),.d (.int j)=>some (.int (i+j))
 |.d (.tup a),.d (.tup b)=>if a.length+b.length<=1000000 then some (.tup (a++b)) else none
 |.d (.str a),.d (.str b)=>if a.length+b.length<=1000000 then some (.str (a++b)) else none
 |x,y=>(lsD st x).bind λa=>(lsD st y).bind λb=>if a.length+b.length<=1000000 then some (.lst (a++b)) else none
def nr (_:Sto):W->W->Option D
 |.d (.int i),.d (.int j)=>some (.int (i - j))
 |_,_=>none
instance (a b:Int):Decidable (qgz a b):=by unfold qgz;infer_instance
def bg (_:Sto):W->W->Option D
 |.d (.int i),.d (.int j)=>if qgz i j then some (.int (i*j)) else none
 |.d (.tup a),.d (.int k)=>if a≠[]/\a.length<=1000/\0<=k/\k<1000 then some (.tup (qaL k.toNat a).flatten) else none
 |.d (.lst a),.d (.int k)=>if a.length<=1000/\-1000<=k/\k<1000 then some (.lst (qaL k.toNat a).flatten) else none
 |_,_=>none
def pK (_:Sto):W->W->Option D
 |.d (.int i),.d (.int j)=>if 0<j/\j<1073741824 then some (.int (i / j)) else none
 |_,_=>none
def iG (_:Sto):W->W->Option D
 |.d (.int i),.d (.int j)=>if 0<j then some (.int (i%j)) else none
 |_,_=>none
instance (i j:Int):Decidable (sU i j):=by unfold sU;infer_instance
def zX (_:Sto):W->W->Option D
 |.d (.int i),.d (.int j)=>if sU i j then some (.int (i^j.toNat)) else none
 |_,_=>none
def qG (_:Sto):W->W->Option D
 |.d (.int i),.d (.int j)=>if sU i j then some (.int (i*2^j.toNat)) else none
 |_,_=>none
def Ca (_:Sto):W->W->Option D
 |.d (.int i),.d (.int j)=>if 0<=j then some (.int (i / 2^j.toNat)) else none
 |_,_=>none
def Gm (_:Sto):W->W->Option D
 |.d (.int i),.d (.int j)=>some (.int (qb7 i j))
 |_,_=>none
def dLt (_:Sto):W->W->Option D
 |.d (.int i),.d (.int j)=>some (.bl (decide (i<j)))
 |_,_=>none
def dLe (_:Sto):W->W->Option D
 |.d (.int i),.d (.int j)=>some (.bl (decide (i<=j)))
 |_,_=>none
def dGt (_:Sto):W->W->Option D
 |.d (.int i),.d (.int j)=>some (.bl (decide (j<i)))
 |_,_=>none
def dGe (_:Sto):W->W->Option D
 |.d (.int i),.d (.int j)=>some (.bl (decide (j<=i)))
 |_,_=>none
def fG:D->Bool
 |.non=>true
 |_=>false
def iF (_:Sto):W->W->Option D
 |.d x,.d .non=>some (.bl (fG x))
 |_,_=>none
def tW (_:Sto):W->W->Option D
 |.d x,.d .non=>some (.bl (!fG x))
 |_,_=>none
def inD (x:D) (ds:List D):Bool:=ds.any λy=>eqD y x
def dIn (st:Sto) (x y:W):Option D:=match x with
 |.d x=>(dQ st y).bind λds=>if cQ x=true/\ds.all cQ=true then some (.bl (inD x ds)) else none
 |_=>none
section
variable {K:qae}{X:Cx}
theorem ii {H:Hp}{φ:List Addr}{d:D}{v:V} (h:cQ d=true) (r:Rl K H φ d v):v=vOf d/\fF v=true:=by
 cases d with
 |non=>cases (r);exact⟨U,U⟩
 |bl b=>cases (r);exact⟨U,U⟩
 |int b=>cases (r);exact⟨U,U⟩
 |str b=>cases (r);exact⟨U,U⟩
 |_=>cases h
theorem qK {a b:D} (E:cQ a=true) (hb:cQ b=true):eqV (vOf a) (vOf b)=eqD a b:=by
 cases a<;>cases b<;>first|rfl|(cases E;done)|(cases hb)|(done)
theorem uW {H:Hp}{φ:List Addr}:∀ {ds:List D}{m:List V},ds.all cQ=true->Rls K H φ ds m->m=ds.map vOf/\m.all fF=true
 |[],_,_,h=>by cases h;exact⟨U,U⟩
 |d::ds,_,h,r=>by
  rw[qbD,qbg]at h;obtain⟨v,I,rfl,k,l⟩:=r;obtain⟨s,e2⟩:=ii h.1 k;obtain⟨e3,e4⟩:=uW h.2 l;exact⟨by rw[s,e3];rfl,by rw[qbD,e2,e4];rfl⟩
theorem xr {x:D} (u:cQ x=true):∀ {ds:List D},ds.all cQ=true->inV (vOf x) (ds.map vOf)=inD x ds
 |[],_=>rfl
 |d::ds,h=>by
  rw[qbD,qbg]at h;have t:=xr u h.2;unfold inV inD at t ⊢;rw[qas,qcB,qcB,t,qK h.1 u]
theorem E6 {f:Value->Value->Sem Value}{g:Sto->W->W->Option D} (h:∀ st x y d,g st x y=some d->∃ i j,x=.d (.int i)/\y=.d (.int j)/\OpR X f (λn o H Q=>n=.int i/\o=.int j/\Q (vOf d) H)/\cQ d=true):OpD K X f g:=by
 refine⟨λst x y d hd=>?_⟩;obtain⟨i,j,rfl,rfl,A,w⟩:=h st x y d hd;refine A.imp ?_
 rintro n o H Q ⟨φ,S,k,l,q⟩
 refine⟨k,l,q _ H (aP.refl H) ?_⟩;cases d<;>first|rfl|cases w
theorem w2 {x y:W}{d:D}{F:Int->Int->Option D} (h:(match x,y with|.d (.int i),.d (.int j)=>F i j|_,_=>none)=some d):∃ i j,x=.d (.int i)/\y=.d (.int j)/\F i j=some d:=by
 split at h
 ·exact⟨_,_,U,U,h⟩
 ·cases h
theorem ifS {c:Prop} [Decidable c] {a d:D} (h:(if c then some a else none)=some d):c/\a=d:=by
 split at h
 ·rename_i q
  exact⟨q,qaQ h⟩
 ·cases h
theorem io {f:Value->Value->Sem Value}{g:Sto->W->W->Option D}{F:Int->Int->Option D} (e:∀ st x y,g st x y=match x,y with|.d (.int i),.d (.int j)=>F i j|_,_=>none) (h:∀ i j d,F i j=some d->OpR X f (λn o H Q=>n=.int i/\o=.int j/\Q (vOf d) H)/\cQ d=true):OpD K X f g:=E6 λst x y d hd=>by
 rw[e]at hd;obtain⟨i,j,rfl,rfl,hd⟩:=w2 hd;exact⟨i,j,U,U,h i j d hd⟩
theorem rS:OpD K X (qbI .Sub) nr:=io (λ_ _ _=>rfl) λi j d h=>by cases h;exact⟨Fh.imp λ_ _ _ _ q=>⟨i,j,q⟩,U⟩
theorem rV:OpD K X (qbI .BitXor) Gm:=io (λ_ _ _=>rfl) λi j d h=>by cases h;exact⟨Fi.imp λ_ _ _ _ q=>⟨i,j,q⟩,U⟩
theorem xW:OpD K X (qce .Lt) dLt:=io (λ_ _ _=>rfl) λi j d h=>by cases h;exact⟨G0.imp λ_ _ _ _ q=>⟨i,j,q⟩,U⟩
theorem xV:OpD K X (qce .LtE) dLe:=io (λ_ _ _=>rfl) λi j d h=>by cases h;exact⟨GZ.imp λ_ _ _ _ q=>⟨i,j,q⟩,U⟩
theorem xT:OpD K X (qce .Gt) dGt:=io (λ_ _ _=>rfl) λi j d h=>by cases h;exact⟨GY.imp λ_ _ _ _ q=>⟨i,j,q⟩,U⟩
theorem xS:OpD K X (qce .GtE) dGe:=io (λ_ _ _=>rfl) λi j d h=>by cases h;exact⟨GX.imp λ_ _ _ _ q=>⟨i,j,q⟩,U⟩
theorem mS:OpD K X (qbI .FloorDiv) pK:=io (λ_ _ _=>rfl) λi j d h=>by obtain⟨c,rfl⟩:=ifS h;exact⟨CP.imp λ_ _ _ _ q=>⟨i,j,q.1,q.2.1,c,q.2.2⟩,U⟩
theorem rM:OpD K X (qbI .Mod) iG:=io (λ_ _ _=>rfl) λi j d h=>by obtain⟨c,rfl⟩:=ifS h;exact⟨Fc.imp λ_ _ _ _ q=>⟨i,j,q.1,q.2.1,c,q.2.2⟩,U⟩
theorem rP:OpD K X (qbI .Pow) zX:=io (λ_ _ _=>rfl) λi j d h=>by obtain⟨c,rfl⟩:=ifS h;exact⟨Fd.imp λ_ _ _ _ q=>⟨i,j,q.1,q.2.1,c,q.2.2⟩,U⟩
theorem rQ:OpD K X (qbI .LShift) qG:=io (λ_ _ _=>rfl) λi j d h=>by obtain⟨c,rfl⟩:=ifS h;exact⟨Ff.imp λ_ _ _ _ q=>⟨i,j,q.1,q.2.1,c,q.2.2⟩,U⟩
theorem rR:OpD K X (qbI .RShift) Ca:=io (λ_ _ _=>rfl) λi j d h=>by obtain⟨c,rfl⟩:=ifS h;exact⟨Fg.imp λ_ _ _ _ q=>⟨i,j,q.1,q.2.1,c,q.2.2⟩,U⟩
theorem Bt {H:Hp}{φ:List Addr}{d:D}{v:V} (r:Rl K H φ d v):decide (v=.non)=fG d:=by
 cases d with
 |non=>cases (r);rfl
 |bl b=>cases (r);rfl
 |int b=>cases (r);rfl
 |str b=>cases (r);rfl
 |ty b=>cases (r);rfl
 |dct=>obtain⟨a,rfl,_⟩:=r;rfl
 |scr ns=>obtain⟨a,rfl,_⟩:=r;rfl
 |tup ds=>obtain⟨a,m,rfl,_⟩:=r;rfl
 |lst ds=>obtain⟨a,m,rfl,_⟩:=r;rfl
 |ob ns ds=>obtain⟨a,_,_,_,m,rfl,_⟩:=r;rfl
theorem rK:OpD K X (qce .Is) iF:=by
 refine⟨λst x y d h=>?_⟩
 match x,y,h with
 |.d x,.d .non,h=>
  cases h;refine Fb.imp ?_
  rintro n o H Q ⟨φ,S,k,l,q⟩
  refine⟨l,q _ H (aP.refl H) ?_⟩;rw[Bt k];rfl
theorem mT:OpD K X (qce .IsNot) tW:=by
 refine⟨λst x y d h=>?_⟩
 match x,y,h with
 |.d x,.d .non,h=>
  cases h;refine CS.imp ?_
  rintro n o H Q ⟨φ,S,k,l,q⟩
  refine⟨l,q _ H (aP.refl H) ?_⟩;rw[Bt k];rfl
theorem xU (B:X.K=K:=by rfl):OpD K X (qce .In) dIn:=by
 subst B;refine⟨λst x y d h=>?_⟩
 match x,h with
 |.d x,h=>
  simp only[dIn,qab]at h;obtain⟨ds,C,h⟩:=h;split at h
  ·rename_i p
   cases h;refine zk.imp ?_
   rintro n o H Q ⟨φ,S,k,l,q⟩
   obtain⟨a,m,rfl,z,G⟩:=kM S l C;obtain⟨s,e2⟩:=ii p.1 k;obtain⟨e3,e4⟩:=uW p.2 G;refine⟨a,m,U,z,e2,e4,q _ H (aP.refl H) ?_⟩;rw[s,e3,xr p.1 p.2];rfl
  ·cases h
end
section
variable {K:qae}{X:Cx}
theorem CN:OpR X (qbI .Add) (λx y H Q=>∃ l b xs zs,x=.ref l/\y=.ref b/\Rd H l (.lst xs)/\Rd H b (.lst zs)/\xs.length+zs.length<=qaN/\∀ p,H p=none->Q (.ref p) (upd H p (.lst (xs++zs)))):=by
 intro G s M H x y v u Q I rx ry h;obtain⟨l,b,xs,zs,rfl,rfl,hH,hB,hz,q⟩:=h;cases rx;cases ry;obtain⟨z,A,n,r,e⟩:=hH.ok I.hok;obtain⟨z2,N,n2,L,e2⟩:=hB.ok I.hok;have J:=r.length;have hl2:=L.length;refine PySem.P.add_list e e2 ?_ (by rw[qaK,qaK];lia);have ea:A.toArray++N.toArray=(A++N).toArray:=by simp
 rw[ea];exact⟨.ref _,_,I.lnew (r.append L) (by rw[qav];lia),U,q _ I.fresh⟩
theorem AK:OpR X (qbI .Add) (λx y H Q=>∃ a b xs ys,x=.ref a/\y=.ref b/\SqT X.K H a xs/\SqT X.K H b ys/\xs.length+ys.length<=qaN/\
  (xs=[]->Q (.ref b) H)/\(ys=[]->Q (.ref a) H)/\∀ p,H p=none->Q (.ref p) (upd H p (.tup (xs++ys)))):=by
 intro G s M H x y v u Q I rx ry h;obtain⟨a,b,xs,ys,rfl,rfl,ha,hb,hz,q0,q1,q2⟩:=h;by_cases hx:xs=[]
 ·cases rx
  cases ry;obtain⟨A,O,p1,_⟩:=I.tuple ha;obtain⟨N,L,p2,_⟩:=I.tuple hb;obtain⟨⟨cls,dd,data,sl⟩,ho,hc,n,hd⟩:=id p1;obtain⟨⟨cls2,dd2,data2,sl2⟩,ho2,hc2,n2,hd2⟩:=id p2;subst hc hd hc2 hd2;exact qhD ⟨_,ho,U⟩ ⟨_,ho2,U⟩ qgo qhd qeo qek (qd9 _ _)
   (tuple_addW0 a b A.toArray N.toArray n n2 dd dd2 sl sl2 (by simp[O.nil_iff.mpr hx])) ⟨ho,ho2,.ref b,H,I,U,q0 hx⟩
 ·exact CO G s M H _ _ v u Q I rx ry ⟨a,b,xs,ys,U,U,ha,hb,hx,hz,q1,λ_ p E=>q2 p E⟩
theorem lz {st:Sto}{H:Hp}{φ:List Addr}{w:W}{v:V}{ds:List D} (S:Sr K H φ st) (r:Rw K H φ w v) (e:lsD st w=some ds):∃ a g,v=.ref a/\Rd H a (.lst g)/\Rls K H φ ds g:=by
 cases w with
 |h n=>
  obtain⟨a,ea,rfl⟩:=r;obtain⟨g,q,rl⟩:=S.atl n a ds ea e;exact⟨a,g,U,.inl q,rl⟩
 |d x=>
  cases x with
  |lst es=>cases e;obtain⟨a,g,rfl,h0,C,B⟩:=r;exact⟨a,g,U,C,B⟩
  |_=>cases e
theorem mil:(1000000:Nat)<=qaN:=by decide
theorem jR (hK:X.K=K:=by rfl):OpD K X (qbI .Add) bm:=by
 subst hK;refine⟨λst x y d h=>?_⟩;have T:(lsD st x).bind (λa=>(lsD st y).bind λb=>if a.length+b.length<=1000000 then some (.lst (a++b)) else none)=some d->OpR X _ (rD X.K st x y d):=λh=>by
  simp only[qab]at h;obtain⟨as,ha,bs,hb,h⟩:=h;split at h
  ·rename_i J
   cases h;refine CN.imp ?_
   rintro vx vy H Q ⟨φ,S,O,L,q⟩
   obtain⟨a,us,rfl,C,B⟩:=lz S O ha;obtain⟨b,g,rfl,h3,h4⟩:=lz S L hb;refine⟨a,b,us,g,U,U,C,h3,by rw[<-B.length,<-h4.length];exact qaM J mil,λp E=>q _ _ (aP.new E _) ?_⟩;exact⟨p,_,U,S.nin E,.inl upd_same,(B.append h4).fw S (Fw.new E)⟩
  ·cases h
 match x,y,h with
 |.d (.int i),.d (.int j),h=>
  cases h;refine Fa.imp ?_
  rintro vx vy H Q ⟨φ,S,O,L,q⟩
  exact⟨i,j,O,L,q _ H (aP.refl H) U⟩
 |.d (.tup as),.d (.tup bs),h=>
  simp only[bm]at h;split at h
  ·rename_i J
   cases h;refine AK.imp ?_
   rintro vx vy H Q ⟨φ,S,⟨a,us,rfl,C,B⟩,⟨b,g,rfl,h3,h4⟩,q⟩
   refine⟨a,b,us,g,U,U,(SqT.of C),(SqT.of h3),by rw[<-B.length,<-h4.length];exact qaM J mil,λe=>?_,λe=>?_,λp E=>?_⟩
   ·subst e
    have:as=[]:=by cases as with|nil=>rfl|cons _ _=>cases B.length
    subst this;exact q _ H (aP.refl H) ⟨b,g,U,h3,h4⟩
   ·subst e
    have:bs=[]:=by cases bs with|nil=>rfl|cons _ _=>cases h4.length
    subst this;exact q _ H (aP.refl H) ⟨a,us,U,C,by rw[qcg];exact B⟩
   ·exact q _ _ (aP.new E _) ⟨p,_,U,upd_same,(B.append h4).fw S (Fw.new E)⟩
  ·cases h
 |.d (.str as),.d (.str bs),h=>
  simp only[bm]at h;split at h
  ·rename_i J
   cases h;refine wb.imp ?_
   rintro vx vy H Q ⟨φ,S,O,L,q⟩
   exact⟨as,bs,O,L,qaM J mil,q _ H (aP.refl H) U⟩
  ·cases h
 |.d (.lst as),y,h=>exact T (by cases y with|h n=>exact h|d y=>cases y<;>exact h)
 |.h n,y,h=>exact T (by cases y with|h n=>exact h|d y=>cases y<;>exact h)
theorem x6:OpR X (qbI .Mult) (λx y H Q=>∃ l k xs,x=.ref l/\y=.int k/\Rd H l (.lst xs)/\-(2 ^ 63)<=k/\k < 2 ^ 63/\xs.length*k.toNat<=qaN/\
 ∀ p,H p=none->Q (.ref p) (upd H p (.lst (qaL k.toNat xs).flatten))):=by
 intro G s M H x y v u Q I rx ry h;obtain⟨l,k,xs,rfl,rfl,hH,C,B,hz,q⟩:=h;cases rx;obtain⟨t,rfl⟩:=ry;obtain⟨z,A,n,r,e⟩:=hH.ok I.hok;have hlen:A.toArray.size*k.toNat<=qaN:=by rw[qaK,<-r.length];exact hz
 have hcap:¬ A.toArray.size*k.toNat > (2^63 - 1) / 8:=by
  have:(qaN)<=(2^63 - 1) / 8:=by decide
  lia
 have hfit:¬ (!Builtin.List.listFitsIndex k)=true:=by
  rw[qj6 C B];exact qa7
 have hlong:¬ qfu (A.toArray.size*k.toNat)=true:=by
  rw[AD hlen];exact qa7
 have hnew:qjZ (λx1 x2=>x1++x2) #[] (qaL (if A.toArray.isEmpty=true then 0 else k.toNat) A.toArray)=(qaL k.toNat A).flatten.toArray:=by
  have f0:=λm=>by
   have:=lh A m []
   rw[qbb]at this;exact this
  rw[f0];cases A with
  |nil=>simp
  |cons a r'=>rw[iFN (by simp)]
 refine qgQ (by decide) ⟨_,e,U⟩ (λs'=>qf4 s' k t) noFill_list_mul qiN qe4 repeat_list qis.lookup
  (qc9 qe4 (qf4 s k t) qiu (qie _ _) (int___rmul___int_list k t l A.toArray n)
    ⟨e,U,⟨_,e,U⟩,qc9 F.slot_list_mul ⟨_,e,U⟩ F.entry_list_mul (F.args_list_mul_2 _ _) (AutoListH.list___mul___list_int_3 l A.toArray n k t hfit hcap hlong) ⟨e,?_⟩⟩)
 rw[hnew];exact⟨.ref _,_,I.lnew (r.rep k.toNat) (by rw[rC,qdS];exact hz),U,q _ I.fresh⟩
theorem rO (hK:X.K=K:=by rfl):OpD K X (qbI .Mult) bg:=by
 refine⟨λst x y d h=>?_⟩
 match x,y,h with
 |.d (.int i),.d (.int j),h=>
  simp only[bg]at h;split at h
  ·rename_i J
   cases h;refine CQ.imp ?_
   rintro vx vy H Q ⟨φ,S,O,L,q⟩
   exact⟨i,j,O,L,J,q _ H (aP.refl H) U⟩
  ·cases h
 |.d (.tup as),.d (.int k),h=>
  simp only[bg]at h;split at h
  ·rename_i J
   cases h;refine CT.imp ?_
   rintro vx vy H Q ⟨φ,S,⟨a,us,rfl,C,B⟩,L,q⟩
   have hne:us≠[]:=by rintro rfl;cases as with|nil=>exact J.1 U|cons _ _=>cases B.length
   refine⟨a,k,us,U,L,(SqT.of C),hne,by rw[<-B.length];exact J.2.1,J.2.2.1,J.2.2.2,λe=>?_,λ_ p E=>?_⟩
   ·subst e
    exact q _ H (aP.refl H) ⟨a,us,U,C,by simpa using B⟩
   ·exact q _ _ (aP.new E _) ⟨p,_,U,upd_same,(B.rep _).fw S (Fw.new E)⟩
  ·cases h
 |.d (.lst as),.d (.int k),h=>
  simp only[bg]at h;split at h
  ·rename_i J
   cases h;refine x6.imp ?_
   rintro vx vy H Q ⟨φ,S,⟨a,us,rfl,h0,C,B⟩,L,q⟩
   refine⟨a,k,us,U,L,C,by lia,by lia,?_,λp E=>?_⟩
   ·rw[<-B.length]
    have:as.length*k.toNat<=1000*1000:=qcY J.1 (by lia)
    exact qaM this mil
   ·exact q _ _ (aP.new E _) ⟨p,_,U,S.nin E,.inl upd_same,(B.rep _).fw S (Fw.new E)⟩
  ·cases h
def dIx (st:Sto) (x y:W):Option D:=match x,y with
 |.d (.str z),.d (.int i)=>if z.length<=1000000 then (atI z.cps.toList i).map λc=>.str ⟨#[c]⟩ else none
 |x,.d (.int i)=>(dQ st x).bind λds=>atI ds i
 |_,_=>none
theorem Et {H:Hp}{φ:List Addr}{ds:List D}{g:List V}{i:Int}{d:D} (r:Rls K H φ ds g) (e:atI ds i=some d):∃ v,atI g i=some v/\Rl K H φ d v:=by
 unfold atI at e ⊢;rw[<-r.length];obtain⟨j,e1,e2⟩:=qab.mp e;obtain⟨v,ev,rv⟩:=r.get e2;exact⟨v,by rw[e1];exact ev,rv⟩
theorem IxR.imp {r r':R2} (h:IxR X r) (m:∀ x y H Q,r' x y H Q->r x y H Q):IxR X r':=λvalue slice G s M H x y v u Q I rx ry q hs=>h value slice G s M H x y v u Q I rx ry (m _ _ _ _ q) hs
theorem HF (st:Sto) (x y:W) (d:D) (h:dIx st x y=some d) (hK:X.K=K):IxR X (rD K st x y d):=by
 subst hK
 match y,h with
 |.d (.int i),h=>
  have seq:(dQ st x).bind _=some d->IxR X (rD X.K st x (.d (.int i)) d):=λh=>by
   obtain⟨ds,e1,e2⟩:=qab.mp h;refine vI.imp ?_
   rintro vx vy H Q ⟨φ,S,O,L,q⟩
   obtain⟨a,g,rfl,C,B⟩:=kM S O e1;obtain⟨v,ev,rv⟩:=Et B e2;rcases C with C|C
   ·exact .inl ⟨a,g,i,v,U,L,C,ev,q _ H (aP.refl H) rv⟩
   ·exact .inr (.inl ⟨a,g,i,v,U,L,C,ev,q _ H (aP.refl H) rv⟩)
  match x,h with
  |.d (.str z),h=>
   simp only[dIx]at h;split at h
   ·rename_i J
    obtain⟨c,e1,rfl⟩:=qad.mp h;refine vI.imp ?_
    rintro vx vy H Q ⟨φ,S,O,L,q⟩
    exact .inr (.inr ⟨z,i,c,O,L,qaM J mil,e1,q _ H (aP.refl H) U⟩)
   ·cases h
  |.d (.tup z),h=>exact seq h
  |.d (.lst z),h=>exact seq h
  |.d (.scr z),h=>exact seq h
  |.h z,h=>exact seq h
 |.d .non,h=>cases x with|h n=>cases h|d x=>cases x<;>cases h
 |.d (.ob _ _),h=>cases x with|h n=>cases h|d x=>cases x<;>cases h
 |.d (.bl _),h=>cases x with|h n=>cases h|d x=>cases x<;>cases h
 |.d (.str _),h=>cases x with|h n=>cases h|d x=>cases x<;>cases h
 |.d (.ty _),h=>cases x with|h n=>cases h|d x=>cases x<;>cases h
 |.d (.scr _),h=>cases x with|h n=>cases h|d x=>cases x<;>cases h
 |.d .dct,h=>cases x with|h n=>cases h|d x=>cases x<;>cases h
 |.d (.tup _),h=>cases x with|h n=>cases h|d x=>cases x<;>cases h
 |.d (.lst _),h=>cases x with|h n=>cases h|d x=>cases x<;>cases h
 |.h _,h=>cases x with|h n=>cases h|d x=>cases x<;>cases h
variable {e a b:Expr}{pos p2:Pos}{f fa fb:Ef}
theorem xm (ha:IE K X a fa) (hb:IE K X b fb) (hs:r8 b=true:=by rfl) (hK:X.K=K:=by rfl):IE K X (.Subscript a b pos) (iOp dIx fa fb):=by
 refine⟨λenv st r Y=>?_⟩;simp only[iOp,qab,qad]at Y;obtain⟨x,hx,y,hy,d,hd,rfl⟩:=Y;exact (D2 (HF _ _ _ _ hd hK) (ha.run _ _ _ hx) (hb.run _ _ _ hy) (uk hs)).imp λM H Q h=>sH h
abbrev Pf:=Ev->Sto->Option (Option Int×Sto)
def iPn:Pf
 |_,st=>some (none,st)
def GD:W->Option Int
 |.d (.int i)=>some i
 |_=>none
theorem y7 {w:W}{i:Int} (h:GD w=some i):w=.d (.int i):=by
 cases w with
 |h n=>cases h
 |d x=>cases x<;>first|(cases h;done)|(injection h with h;subst h;rfl)
def iPs (f:Ef):Pf
 |env,st=>(f env st).bind λr=>(GD r.1).map λi=>(some i,r.2)
def tIO (K:qae) (env:Ev) (st:Sto) (r:Option Int×Sto):TO:=λM H Q=>∃ φ,Er K H φ env M/\Sr K H φ st/\∀ H' φ',Fw φ φ' H H'->Sr K H' φ' r.2->Q r.1 H'
structure IO (K:qae) (X:Cx) (e:Option Expr) (f:Pf):Prop where
 run:∀ env st r,f env st=some r->PO X e (tIO K env st r)
theorem PO.imp {e:Option Expr}{t t':TO} (h:PO X e t) (m:∀ M H Q,t' M H Q->t M H Q):PO X e t':=λG s M H Q I q=>h G s M H Q I (m M H Q q)
theorem mC:IO K X none iPn:=by
 refine⟨λenv st r Y=>?_⟩;cases Y;exact C5.imp λM H Q ⟨φ,hE,P,q⟩=>q H φ (Fw.refl φ H) P
theorem mD (h:IE K X e f):IO K X (some e) (iPs f):=by
 refine⟨λenv st r Y=>?_⟩;simp only[iPs,qab,qad]at Y;obtain⟨⟨x,s1⟩,hx,i,hi,rfl⟩:=Y;cases y7 hi;refine (C6 (h.run _ _ _ hx)).imp ?_
 rintro M H Q ⟨φ,hE,P,q⟩
 exact⟨φ,hE,P,λv H1 R f1 s1 w1=>⟨i,w1,q H1 R f1 s1⟩⟩
def jI (xs:List D) (lo hi:Option Int):List D:=(xs.drop (HT.sIx xs.length 0 lo)).take (HT.sIx xs.length xs.length hi - HT.sIx xs.length 0 lo)
theorem wU {H:Hp}{φ:List Addr}{ds:List D}{g:List V} (r:Rls K H φ ds g) (lo hi:Option Int):Rls K H φ (jI ds lo hi) (vq g lo hi):=by
 unfold jI vq;rw[r.length];exact (r.drop _).take _
def dSl (st:Sto) (x:W) (lo hi:Option Int):Option D:=match x with
 |.d (.tup ds)=>some (.tup (jI ds lo hi))
 |.d (.lst ds)=>some (.lst (jI ds lo hi))
 |.h n=>(lg st n).map λds=>.lst (jI ds lo hi)
 |.d (.scr ns)=>some (.lst (jI (ns.map D.int) lo hi))
 |_=>none
def iSl (f:Ef) (lo hi:Pf):Ef
 |env,st=>(f env st).bind λx=>(lo env x.2).bind λl=>(hi env l.2).bind λu=>(dSl u.2 x.1 l.1 u.1).map λd=>(.d d,u.2)
theorem xn {lo hi:Option Expr}{fl fh:Pf} (h:IE K X e f) (J:IO K X lo fl) (hh:IO K X hi fh) (hK:X.K=K:=by rfl):IE K X (.Subscript e (.Slice lo hi none p2) pos) (iSl f fl fh):=by
 subst hK;refine⟨λenv st r Y=>?_⟩;simp only[iSl,qab,qad]at Y;obtain⟨⟨x,s1⟩,hx,l,hl',u,hu',d,hd,rfl⟩:=Y;have list:(∀ {H:Hp}{φ:List Addr}{v:V},Sr X.K H φ u.2->Rw X.K H φ x v->∃ a g ds,v=.ref a/\SqL X.K H a g/\Rls X.K H φ ds g/\d=.lst (jI ds l.1 u.1))->PE X (.Subscript e (.Slice lo hi none p2) pos) (tI X.K env st (.d d,u.2)):=λhq=>by
  refine (uO Ds (h.run _ _ _ hx) (J.run _ _ _ hl') (hh.run _ _ _ hu')).imp ?_
  rintro M H Q ⟨φ,hE,P,q⟩
  refine⟨φ,hE,P,λv H1 R f1 s1 w1=>⟨R,hE.fw P f1,s1,λH2 φ2 f2 s2=>⟨φ2,(hE.fw P f1).fw s1 f2,s2,λH3 φ3 f3 s3=>?_⟩⟩⟩;obtain⟨a,g,ds,rfl,C,B,rfl⟩:=hq s3 ((w1.fw s1 f2).fw s2 f3);refine⟨a,g,U,C,λp E=>q _ _ φ3 (((f1.trans f2).trans f3).trans (Fw.new E)) (s3.new E) ?_⟩;exact⟨p,_,U,s3.nin E,.inl upd_same,(wU B _ _).fw s3 (Fw.new E)⟩
 match x,hd with
 |.d (.tup ds),hd=>
  cases hd;refine (uO (ES U) (h.run _ _ _ hx) (J.run _ _ _ hl') (hh.run _ _ _ hu')).imp ?_
  rintro M H Q ⟨φ,hE,P,q⟩
  refine⟨φ,hE,P,λv H1 R f1 s1 w1=>⟨R,hE.fw P f1,s1,λH2 φ2 f2 s2=>⟨φ2,(hE.fw P f1).fw s1 f2,s2,λH3 φ3 f3 s3=>?_⟩⟩⟩;obtain⟨a,g,rfl,C,B⟩:=(w1.fw s1 f2).fw s2 f3;refine⟨a,g,U,(SqT.of C),?_⟩;by_cases hc:HT.sIx g.length 0 l.1=0/\HT.sIx g.length g.length u.1=g.length
  ·refine .inr ⟨hc,q _ _ φ3 ((f1.trans f2).trans f3) s3 ⟨a,g,U,C,?_⟩⟩
   have e:jI ds l.1 u.1=ds:=by
    unfold jI;rw[B.length,hc.1,hc.2,qgl,qgS,<-B.length,qeB]
   rw[e];exact B
  ·exact .inl ⟨hc,λp E=>q _ _ φ3 (((f1.trans f2).trans f3).trans (Fw.new E)) (s3.new E) ⟨p,_,U,upd_same,(wU B _ _).fw s3 (Fw.new E)⟩⟩
 |.d (.lst ds),hd=>
  cases hd;refine list λ{H φ v} S w=>?_;obtain⟨a,g,rfl,h0,C,B⟩:=w;exact⟨a,g,ds,U,.inl C,B,U⟩
 |.d (.scr ns),hd=>
  cases hd;refine list λ{H φ v} S w=>?_;obtain⟨a,rfl,h⟩:=w;refine⟨a,_,_,U,?_,Rls.of_ints ns,U⟩;rcases h with⟨o,h⟩|h
  ·exact .inl (.inr ⟨o,h⟩)
  ·exact .inr h
 |.h n,hd=>
  obtain⟨ds,e1,rfl⟩:=qad.mp hd;refine list λ{H φ v} S w=>?_;obtain⟨a,ea,rfl⟩:=w;obtain⟨g,q,rl⟩:=S.atl n a ds ea e1;exact⟨a,g,ds,U,SqL.of q,rl,U⟩
end
section
variable {K:qae}{X:Cx}{T:List (Addr×Obj)}{σ:St}{H:Hp}{s:qam}{φ:List Addr}{st:Sto}
theorem eN:∀ (xs P:List D),((qan (min xs.length P.length)).all (λj=>eqD (xs.getD j .non) (P.getD j .non))&&xs.length==P.length)=iq xs P
 |[],[]=>rfl
 |[],y::P=>by simp[iq]
 |x::xs,[]=>by simp[iq]
 |x::xs,y::P=>by
  show ((qan (min (xs.length+1) (P.length+1))).all _&&(xs.length+1==P.length+1))=(eqD x y&&iq xs P);rw[show min _ _=min xs.length P.length+1 by lia,m9,<-eN xs P];have e:(xs.length+1==P.length+1)=(xs.length==P.length):=by simp
  rw[e,Bool.and_assoc];rfl
theorem jB {xs P:List D} (h:xs.length=P.length):(qan xs.length).all (λj=>eqD (xs.getD j .non) (P.getD j .non))=iq xs P:=by
 rw[<-eN xs P,<-h,Nat.min_self];simp
theorem t6:∀ {xs P:List D},xs.length≠P.length->iq xs P=false
 |[],[],h=>absurd U h
 |[],_::_,_=>rfl
 |_::_,[],_=>rfl
 |x::xs,y::P,h=>by
  show (eqD x y&&iq xs P)=false;rw[t6 (by intro e;apply h;rw[qar,qar,e]),Bool.and_false]
theorem Dk (I:Inv X T σ H s) {a:Addr}{E ws:List V} (h:Rd H a (.lst E)) (h':Rd H a (.lst ws)):E=ws:=I.list_inj (.inl h) (.inl h')
theorem wY (I:Inv X T σ H s):∀ (n:Nat) {d e:D}{v:V},Rl X.K H φ d v->Rl X.K H φ e v->okD n d=true->okD n e=true->eqD d e=true:=by
 intro n
 induction n with
 |zero=>
  intro d e v m l N F;cases d<;>first|(cases N;done)|skip
  all_goals (cases e<;>first|(cases F;done)|skip)
  all_goals (first|rfl|(cases m.symm.trans l;done)|(cases m.symm.trans l;simp[eqD]))
 |succ n ih=>
  have lists:∀ {ds es:List D}{E:List V},Rls X.K H φ ds E->Rls X.K H φ es E->(∀ d∈ds,okD n d=true)->(∀ d∈es,okD n d=true)->iq ds es=true:=by
   intro ds
   induction ds with
   |nil=>
    intro es E m l _ _;cases m;cases es with
    |nil=>rfl
    |cons e es=>obtain⟨_,_,q,_⟩:=l;cases q
   |cons d ds ihd=>
    intro es E m l N F;obtain⟨v,r,rfl,a1,a2⟩:=m;cases es with
    |nil=>cases l
    |cons e es=>
     obtain⟨v',r',q,b1,b2⟩:=l;cases q;show (eqD d e&&iq ds es)=true;rw[ih a1 b1 (N d qag) (F e qag),ihd a2 b2 (λx hx=>N x (qak _ hx)) (λx hx=>F x (qak _ hx))];rfl
  intro d e v m l N F;cases d with
  |tup ds=>
   obtain⟨a,E,rfl,O,M⟩:=m;cases e with
   |tup es=>
    obtain⟨b,J,q,o,B⟩:=l;cases q;rw[I.tuple_inj (SqT.of o) (SqT.of O)]at B;exact lists M B (qa6.mp N) (qa6.mp F)
   |lst es=>
    obtain⟨b,J,q,_,o,B⟩:=l;cases q;obtain⟨_,_,p1,_⟩:=I.tuple (SqT.of O);obtain⟨_,_,f,_⟩:=I.list (.inl o);exact absurd U (qgv f.isList p1)
   |_=>first|(cases F;done)|(cases l)
  |lst ds=>
   obtain⟨a,E,rfl,h0,O,M⟩:=m;cases e with
   |lst es=>
    obtain⟨b,J,q,_,o,B⟩:=l;cases q;rw[Dk I o O]at B;exact lists M B (qa6.mp N) (qa6.mp F)
   |tup es=>
    obtain⟨b,J,q,o,B⟩:=l;cases q;obtain⟨_,_,p1,_⟩:=I.tuple (SqT.of o);obtain⟨_,_,f,_⟩:=I.list (.inl O);exact absurd U (qgv f.isList p1)
   |_=>first|(cases F;done)|(cases l)
  |non=>cases e<;>first|rfl|(cases F;done)|(cases m.symm.trans l)|(cases m;obtain⟨_,_,q,_⟩:=l;cases q)
  |bl b=>cases e<;>first|(cases F;done)|(cases m.symm.trans l;simp[eqD])|(cases m.symm.trans l)|(cases m;obtain⟨_,_,q,_⟩:=l;cases q)
  |int b=>cases e<;>first|(cases F;done)|(cases m.symm.trans l;simp[eqD])|(cases m.symm.trans l)|(cases m;obtain⟨_,_,q,_⟩:=l;cases q)
  |str b=>cases e<;>first|(cases F;done)|(cases m.symm.trans l;simp[eqD])|(cases m.symm.trans l)|(cases m;obtain⟨_,_,q,_⟩:=l;cases q)
  |ty b=>cases N
  |scr b=>cases N
  |dct=>cases N
  |ob _ _=>cases N
theorem eh {ds:List D}{E:List V}{J:List Value} (r:Rls K H φ ds E) (Y:aJ E J):∀ (j:Nat) (h:j<J.length),∃ v,Rl K H φ (ds.getD j .non) v/\aR v J[j]/\ds.getD j .non∈ds:=by
 intro j h;obtain⟨h',q⟩:=Y.at j h;have hd:j<ds.length:=by rw[r.length];exact h'
 have e:=qai hd;obtain⟨v,ev,rl⟩:=r.get e;rw[qai h']at ev;cases ev;refine⟨_,?_,q,?_⟩
 ·rw[qfY,e];exact rl
 ·rw[qfY,e];exact qa2 hd
theorem EA (I:Inv X T σ H s):∀ (n:Nat) {A:qaZ}{d e:D}{v u:V}{vv uu:Value},Rl X.K H φ d v->Rl X.K H φ e u->aR v vv->aR u uu->okD n d=true->okD n e=true->A.units+n<cLine->qej A s vv uu (eqD d e):=by
 have flat:∀ {A:qaZ}{d e:D}{v u:V}{vv uu:Value},cQ d=true->cQ e=true->Rl X.K H φ d v->Rl X.K H φ e u->aR v vv->aR u uu->qej A s vv uu (eqD d e):=by
  intro A d e v u vv uu f1 f2 m l q1 L;obtain⟨R,g1⟩:=ii f1 m;obtain⟨e2,g2⟩:=ii f2 l;rw[<-qK f1 f2,<-R,<-e2];exact vA q1 L g1 g2
 intro n
 induction n with
 |zero=>
  intro A d e v u vv uu m l q1 L N F hu;refine flat ?_ ?_ m l q1 L
  ·cases d<;>first|rfl|cases N
  ·cases e<;>first|rfl|cases F
 |succ n ih=>
  intro A d e v u vv uu m l q1 L N F hu;have c:A.units<cLine:=by lia
  have hu1:A.in1.units+n<cLine:=by show A.units+1+n<cLine;lia
  cases d with
  |tup ds=>
   obtain⟨a,E,rfl,O,M⟩:=m;cases q1;obtain⟨G,Y,p1,_⟩:=I.tuple (SqT.of O);cases e with
   |tup es=>
    obtain⟨b,J,rfl,o,B⟩:=id l;cases L;by_cases hab:a=b
    ·subst hab
     rw[wY I (n+1) (d:=.tup ds) ⟨a,E,U,O,M⟩ l N F];exact qfn _
    ·obtain⟨g,p,f,_⟩:=I.tuple (SqT.of o)
     have z:=qe2 (A:=A) p1 f c λj g1 g2=>by
      obtain⟨v1,k1,k2,k3⟩:=eh M Y j (by simpa using g1);obtain⟨v2,k4,k5,k6⟩:=eh B p j (by simpa using g2);exact ih k1 k4 (by simpa using k2) (by simpa using k5) (qa6.mp N _ k3) (qa6.mp F _ k6) hu1
     have R:G.toArray.size=ds.length:=by simp[<-Y.length,M.length]
     have e2:g.toArray.size=es.length:=by simp[<-p.length,B.length]
     rw[R,e2,eN]at z;exact qeN hab z
   |lst es=>
    obtain⟨b,J,rfl,_,o,B⟩:=id l;cases L;obtain⟨g,p,f,_⟩:=I.list (.inl o);exact qkK p1 f.isList c
   |non=>cases l;cases L;exact qkJ p1 c
   |bl x=>cases l;cases L;exact qkM x p1 c
   |int x=>cases l;obtain⟨t,rfl⟩:=L;exact qkL x t p1 c
   |str x=>cases l;obtain⟨t,rfl⟩:=L;exact qkI x t p1 c
   |ty _=>cases F
   |scr _=>cases F
   |dct=>cases F
   |ob _ _=>cases F
  |lst ds=>
   obtain⟨a,E,rfl,h0,O,M⟩:=m;cases q1;obtain⟨G,Y,p1,_⟩:=I.list (.inl O);cases e with
   |lst es=>
    obtain⟨b,J,rfl,_,o,B⟩:=id l;cases L;by_cases hab:a=b
    ·subst hab
     rw[wY I (n+1) (d:=.lst ds) ⟨a,E,U,h0,O,M⟩ l N F];exact qfn _
    ·obtain⟨g,p,f,_⟩:=I.list (.inl o)
     have R:G.toArray.size=ds.length:=by simp[<-Y.length,M.length]
     have e2:g.toArray.size=es.length:=by simp[<-p.length,B.length]
     by_cases hl:ds.length=es.length
     ·have z:=qgH (A:=A) p1.isList f.isList (by rw[R,e2,hl]) c λj g1 g2=>by
       obtain⟨v1,k1,k2,k3⟩:=eh M Y j (by simpa using g1);obtain⟨v2,k4,k5,k6⟩:=eh B p j (by simpa using g2);exact ih k1 k4 (by simpa using k2) (by simpa using k5) (qa6.mp N _ k3) (qa6.mp F _ k6) hu1
      rw[R,jB hl]at z;exact qeN hab z
     ·show qej A s _ _ (iq ds es)
      rw[t6 hl];exact qeN hab (qfz (A:=A) p1.isList f.isList (by rw[R,e2];simpa using hl) c)
   |tup es=>
    obtain⟨b,J,rfl,o,B⟩:=id l;cases L;obtain⟨g,p,f,_⟩:=I.tuple (SqT.of o);exact qkX p1.isList f c
   |non=>cases l;cases L;exact qkZ p1.isList c
   |bl x=>cases l;cases L;exact qk1 x p1.isList c
   |int x=>cases l;obtain⟨t,rfl⟩:=L;exact qk0 x t p1.isList c
   |str x=>cases l;obtain⟨t,rfl⟩:=L;exact qkY x t p1.isList c
   |ty _=>cases F
   |scr _=>cases F
   |dct=>cases F
   |ob _ _=>cases F
  |non=>
   cases m;cases q1;cases e with
   |tup es=>obtain⟨b,J,rfl,o,B⟩:=l;cases L;obtain⟨_,_,f,_⟩:=I.tuple (SqT.of o);exact qkS f c
   |lst es=>obtain⟨b,J,rfl,_,o,B⟩:=l;cases L;obtain⟨_,_,f,_⟩:=I.list (.inl o);exact qkU f.isList c
   |_=>first|(cases F;done)|exact flat U U (d:=.non) U l (v:=.non) U L
  |bl x=>
   cases m;cases q1;cases e with
   |tup es=>obtain⟨b,J,rfl,o,B⟩:=l;cases L;obtain⟨_,_,f,_⟩:=I.tuple (SqT.of o);exact qk7 x f c
   |lst es=>obtain⟨b,J,rfl,_,o,B⟩:=l;cases L;obtain⟨_,_,f,_⟩:=I.list (.inl o);exact qla x f.isList c
   |_=>first|(cases F;done)|exact flat U U (d:=.bl x) U l (v:=.bl x) U L
  |int x=>
   cases m;obtain⟨t1,rfl⟩:=q1;cases e with
   |tup es=>obtain⟨b,J,rfl,o,B⟩:=l;cases L;obtain⟨_,_,f,_⟩:=I.tuple (SqT.of o);exact qk2 x t1 f c
   |lst es=>obtain⟨b,J,rfl,_,o,B⟩:=l;cases L;obtain⟨_,_,f,_⟩:=I.list (.inl o);exact qk4 x t1 f.isList c
   |_=>first|(cases F;done)|exact flat U U (d:=.int x) U l (v:=.int x) ⟨t1,U⟩ L
  |str x=>
   cases m;obtain⟨t1,rfl⟩:=q1;cases e with
   |tup es=>obtain⟨b,J,rfl,o,B⟩:=l;cases L;obtain⟨_,_,f,_⟩:=I.tuple (SqT.of o);exact qkN x t1 f c
   |lst es=>obtain⟨b,J,rfl,_,o,B⟩:=l;cases L;obtain⟨_,_,f,_⟩:=I.list (.inl o);exact qkQ x t1 f.isList c
   |_=>first|(cases F;done)|exact flat U U (d:=.str x) U l (v:=.str x) ⟨t1,U⟩ L
  |ty _=>cases N
  |scr _=>cases N
  |dct=>cases N
  |ob _ _=>cases N
theorem FJ {A:qaZ}{y x:V}{u v:Value} (ry:aR y u) (C:aR x v) (fy:fF y=true) (fx:fF x=true):qjz A s u v (eqV y x):=by
 cases y with
 |non=>
  cases ry;cases x with
  |non=>cases C;exact qkn
  |bl b=>cases C;exact qkq b
  |int b=>obtain⟨t,rfl⟩:=C;exact qkp b t
  |str b=>obtain⟨t,rfl⟩:=C;exact qkm b t
  |_=>cases fx
 |bl a=>
  cases ry;cases x with
  |non=>cases C;exact qkE a
  |bl b=>cases C;exact qkH a b
  |int b=>obtain⟨t,rfl⟩:=C;exact qkG a b t
  |str b=>obtain⟨t,rfl⟩:=C;exact qkD a b t
  |_=>cases fx
 |int a=>
  obtain⟨t',rfl⟩:=ry;cases x with
  |non=>cases C;exact qky a t'
  |bl b=>cases C;exact qkB a t' b
  |int b=>obtain⟨t,rfl⟩:=C;exact qkA a t' b t
  |str b=>obtain⟨t,rfl⟩:=C;exact qkx a t' b t
  |_=>cases fx
 |str a=>
  obtain⟨t',rfl⟩:=ry;cases x with
  |non=>cases C;exact qkh a t'
  |bl b=>cases C;exact qkk a t' b
  |int b=>obtain⟨t,rfl⟩:=C;exact qkj a t' b t
  |str b=>obtain⟨t,rfl⟩:=C;exact qkg a t' b t
  |_=>cases fx
 |_=>cases fy
theorem Br {A:qaZ}{y x:V}{u v:Value} (ry:aR y u) (C:aR x v) (fy:fF y=true) (fx:fF x=true):qim A s u v (!eqV y x):=by
 cases y with
 |non=>
  cases ry;cases x with
  |non=>cases C;exact qjc
  |bl b=>cases C;exact qjf b
  |int b=>obtain⟨t,rfl⟩:=C;exact qje b t
  |str b=>obtain⟨t,rfl⟩:=C;exact qjb b t
  |_=>cases fx
 |bl a=>
  cases ry;cases x with
  |non=>cases C;exact qjv a
  |bl b=>cases C;exact qjy a b
  |int b=>obtain⟨t,rfl⟩:=C;exact qjx a b t
  |str b=>obtain⟨t,rfl⟩:=C;exact qju a b t
  |_=>cases fx
 |int a=>
  obtain⟨t',rfl⟩:=ry;cases x with
  |non=>cases C;exact qjp a t'
  |bl b=>cases C;exact qjs a t' b
  |int b=>obtain⟨t,rfl⟩:=C;exact qjr a t' b t
  |str b=>obtain⟨t,rfl⟩:=C;exact qjo a t' b t
  |_=>cases fx
 |str a=>
  obtain⟨t',rfl⟩:=ry;cases x with
  |non=>cases C;exact qi6 a t'
  |bl b=>cases C;exact qi9 a t' b
  |int b=>obtain⟨t,rfl⟩:=C;exact qi8 a t' b t
  |str b=>obtain⟨t,rfl⟩:=C;exact qi5 a t' b t
  |_=>cases fx
 |_=>cases fy
inductive Kin where
 |fl (d:D)|tp (ds:List D)|ls (ds:List D)
def gm (st:Sto):W->Option Kin
 |.d (.tup ds)=>some (.tp ds)
 |.d (.lst ds)=>some (.ls ds)
 |.h n=>(lg st n).map .ls
 |.d .non=>some (.fl .non)
 |.d (.bl b)=>some (.fl (.bl b))
 |.d (.int i)=>some (.fl (.int i))
 |.d (.str x)=>some (.fl (.str x))
 |_=>none
def eqK:Kin->Kin->Option Bool
 |.fl a,.fl b=>some (eqD a b)
 |.tp as,.tp bs=>if (as.isEmpty||bs.isEmpty)=true then some (as.isEmpty&&bs.isEmpty) else if as.all (okD 60)=true/\bs.all (okD 60)=true then some (iq as bs) else none
 |.ls as,.ls bs=>if as.length=bs.length then (if as.all (okD 60)=true/\bs.all (okD 60)=true then some (iq as bs) else none) else some false
 |.fl _,.tp _=>some false
 |.tp _,.fl _=>some false
 |.fl _,.ls _=>some false
 |.ls _,.fl _=>some false
 |.tp _,.ls _=>some false
 |.ls _,.tp _=>some false
def dEq (st:Sto) (x y:W):Option D:=(gm st x).bind λa=>(gm st y).bind λb=>(eqK a b).map λk=>.bl k
def dNe (st:Sto) (x y:W):Option D:=(gm st x).bind λa=>(gm st y).bind λb=>(eqK a b).map λk=>.bl (!k)
def Em (K:qae) (H:Hp) (φ:List Addr):Kin->V->Prop
 |.fl d,v=>cQ d=true/\Rl K H φ d v
 |.tp ds,v=>∃ a E,v=.ref a/\SqT K H a E/\Rls K H φ ds E
 |.ls ds,v=>∃ a E,v=.ref a/\Rd H a (.lst E)/\Rls K H φ ds E
theorem mP {w:W}{v:V}{k:Kin} (S:Sr K H φ st) (r:Rw K H φ w v) (e:gm st w=some k):Em K H φ k v:=by
 cases w with
 |h n=>
  obtain⟨a,ea,rfl⟩:=r;obtain⟨ds,R,rfl⟩:=qad.mp e;obtain⟨E,q,rl⟩:=S.atl n a ds ea R;exact⟨a,E,U,.inl q,rl⟩
 |d x=>
  cases x with
  |tup es=>cases e;obtain⟨a,E,rfl,O,M⟩:=r;exact⟨a,E,U,SqT.of O,M⟩
  |lst es=>cases e;obtain⟨a,E,rfl,h0,O,M⟩:=r;exact⟨a,E,U,O,M⟩
  |non=>cases e;exact⟨U,r⟩
  |bl b=>cases e;exact⟨U,r⟩
  |int b=>cases e;exact⟨U,r⟩
  |str b=>cases e;exact⟨U,r⟩
  |_=>cases e
theorem EK {A:qaZ}{k:Nat} (hr:bH k A):A.in1.units+60<cLine:=by
 have:=hr.un
 lia
theorem Bq {k:Nat} (hr:bH k X.A) (I:Inv X T σ H s) {a b:Kin}{v u:V}{vv uu:Value}{r:Bool} (ra:Em X.K H φ a v) (rb:Em X.K H φ b u) (qa:aR v vv) (qb:aR u uu) (e:eqK a b=some r) :
  qjz X.A s vv uu r/\qim X.A s vv uu (!r):=by
 have c:=hr.units0;have items:∀ {ds es:List D}{E J:List V}{G g:List Value},Rls X.K H φ ds E->Rls X.K H φ es J->aJ E G->aJ J g->ds.all (okD 60)=true->es.all (okD 60)=true->
   ∀ j (g1:j<G.toArray.size) (g2:j<g.toArray.size),qej X.A.in1 s G.toArray[j] g.toArray[j] (eqD (ds.getD j .non) (es.getD j .non)):=by
  intro ds es E J G g M B Y p N F j g1 g2;obtain⟨v1,k1,k2,k3⟩:=eh M Y j (by simpa using g1);obtain⟨v2,k4,k5,k6⟩:=eh B p j (by simpa using g2);exact EA I 60 k1 k4 (by simpa using k2) (by simpa using k5) (qa6.mp N _ k3) (qa6.mp F _ k6) (EK hr)
 match a,b,e with
 |.fl d,.fl d',e=>
  cases e;obtain⟨f1,m⟩:=ra;obtain⟨f2,l⟩:=rb;obtain⟨R,g1⟩:=ii f1 m;obtain⟨e2,g2⟩:=ii f2 l;rw[<-qK f1 f2,<-R,<-e2];exact⟨FJ qa qb g1 g2,Br qa qb g1 g2⟩
 |.tp ds,.tp es,e=>
  simp only[eqK]at e;obtain⟨a,E,rfl,O,M⟩:=ra;obtain⟨b,J,rfl,o,B⟩:=rb;cases qa;cases qb;obtain⟨G,Y,p1,_⟩:=I.tuple O;obtain⟨g,p,f,_⟩:=I.tuple o;have R:G.toArray.size=ds.length:=by simp[<-Y.length,M.length]
  have e2:g.toArray.size=es.length:=by simp[<-p.length,B.length]
  split at e
  ·rename_i hc
   cases e;have hv:∀ j (g1:j<G.toArray.size) (g2:j<g.toArray.size),qej X.A.in1 s G.toArray[j] g.toArray[j] (eqD (ds.getD j .non) (es.getD j .non)):=λj g1 g2=>by
    rw[R]at g1;rw[e2]at g2;rw[qhZ]at hc;rcases hc with hc|hc
    ·rw[qhO.mp hc]at g1;exact absurd g1 (qcu _)
    ·rw[qhO.mp hc]at g2;exact absurd g2 (qcu _)
   have z:=qe2 (A:=X.A) p1 f c hv;have z':=qfW (A:=X.A) p1 f c hv;rw[R,e2,eN]at z z';have e3:iq ds es=(ds.isEmpty&&es.isEmpty):=by
    cases ds with
    |nil=>cases es<;>rfl
    |cons _ _=>cases es with
     |nil=>rfl
     |cons _ _=>cases hc
   rw[e3]at z z';exact⟨z,z'⟩
  ·split at e
   ·rename_i hc
    cases e;have z:=qe2 (A:=X.A) p1 f c (items M B Y p hc.1 hc.2);have z':=qfW (A:=X.A) p1 f c (items M B Y p hc.1 hc.2);rw[R,e2,eN]at z z';exact⟨z,z'⟩
   ·cases e
 |.ls ds,.ls es,e=>
  simp only[eqK]at e;obtain⟨a,E,rfl,O,M⟩:=ra;obtain⟨b,J,rfl,o,B⟩:=rb;cases qa;cases qb;obtain⟨G,Y,p1,_⟩:=I.list (.inl O);obtain⟨g,p,f,_⟩:=I.list (.inl o);have R:G.toArray.size=ds.length:=by simp[<-Y.length,M.length]
  have e2:g.toArray.size=es.length:=by simp[<-p.length,B.length]
  split at e
  ·rename_i hl
   split at e
   ·rename_i hc
    cases e;have z:=qgH (A:=X.A) p1.isList f.isList (by rw[R,e2,hl]) c (items M B Y p hc.1 hc.2);have z':=qjh (A:=X.A) p1.isList f.isList (by rw[R,e2,hl]) c (items M B Y p hc.1 hc.2);rw[R,jB hl]at z z';exact⟨z,z'⟩
   ·cases e
  ·rename_i hl
   cases e;have z':=qjg (A:=X.A) p1.isList f.isList (by rw[R,e2];simpa using hl) c;exact⟨(qfz (A:=X.A) p1.isList f.isList (by rw[R,e2];simpa using hl) c),z'⟩
 |.fl d,.tp es,e=>
  cases e;obtain⟨f1,m⟩:=ra;obtain⟨b,J,rfl,o,B⟩:=rb;cases qb;obtain⟨g,p,f,_⟩:=I.tuple o;cases d with
  |non=>cases m;cases qa;exact⟨qkl f c,qja f c⟩
  |bl x=>cases m;cases qa;exact⟨qkC x f c,qjt x f c⟩
  |int x=>cases m;obtain⟨t,rfl⟩:=qa;exact⟨qkw x t f c,qjn x t f c⟩
  |str x=>cases m;obtain⟨t,rfl⟩:=qa;exact⟨qkf x t f c,qi4 x t f c⟩
  |_=>cases f1
 |.tp es,.fl d,e=>
  cases e;obtain⟨f1,m⟩:=rb;obtain⟨b,J,rfl,o,B⟩:=ra;cases qa;obtain⟨g,p,f,_⟩:=I.tuple o;cases d with
  |non=>cases m;cases qb;exact⟨qkb f c,qi0 f c⟩
  |bl x=>cases m;cases qb;exact⟨qke x f c,qi3 x f c⟩
  |int x=>cases m;obtain⟨t,rfl⟩:=qb;exact⟨qkd x t f c,qi2 x t f c⟩
  |str x=>cases m;obtain⟨t,rfl⟩:=qb;exact⟨qka x t f c,qiZ x t f c⟩
  |_=>cases f1
 |.fl d,.ls es,e=>
  cases e;obtain⟨f1,m⟩:=ra;obtain⟨b,J,rfl,o,B⟩:=rb;cases qb;obtain⟨g,p,f,_⟩:=I.list (.inl o);replace f:=f.isList;cases d with
  |non=>cases m;cases qa;exact⟨qko f c,qjd f c⟩
  |bl x=>cases m;cases qa;exact⟨qkF x f c,qjw x f c⟩
  |int x=>cases m;obtain⟨t,rfl⟩:=qa;exact⟨qkz x t f c,qjq x t f c⟩
  |str x=>cases m;obtain⟨t,rfl⟩:=qa;exact⟨qki x t f c,qi7 x t f c⟩
  |_=>cases f1
 |.ls es,.fl d,e=>
  cases e;obtain⟨f1,m⟩:=rb;obtain⟨b,J,rfl,o,B⟩:=ra;cases qa;obtain⟨g,p,f,_⟩:=I.list (.inl o);replace f:=f.isList;cases d with
  |non=>cases m;cases qb;exact⟨qkt f c,qjk f c⟩
  |bl x=>cases m;cases qb;exact⟨qkv x f c,qjm x f c⟩
  |int x=>cases m;obtain⟨t,rfl⟩:=qb;exact⟨qku x t f c,qjl x t f c⟩
  |str x=>cases m;obtain⟨t,rfl⟩:=qb;exact⟨qks x t f c,qjj x t f c⟩
  |_=>cases f1
 |.tp ds,.ls es,e=>
  cases e;obtain⟨a,E,rfl,O,M⟩:=ra;obtain⟨b,J,rfl,o,B⟩:=rb;cases qa;cases qb;obtain⟨G,Y,p1,_⟩:=I.tuple O;obtain⟨g,p,f,_⟩:=I.list (.inl o);exact⟨qkc p1 f.isList c,qi1 p1 f.isList c⟩
 |.ls ds,.tp es,e=>
  cases e;obtain⟨a,E,rfl,O,M⟩:=ra;obtain⟨b,J,rfl,o,B⟩:=rb;cases qa;cases qb;obtain⟨G,Y,p1,_⟩:=I.list (.inl O);obtain⟨g,p,f,_⟩:=I.tuple o;exact⟨qkr p1.isList f c,qji p1.isList f c⟩
theorem xR {k:Nat} (hr:bH k X.A) (hK:X.K=K:=by rfl):OpD K X (qce .Eq) dEq:=by
 subst hK;refine⟨λst x y d h=>?_⟩;simp only[dEq,qab,qad]at h;obtain⟨a,ha,b,hb,r,e,rfl⟩:=h;intro T s σ H vx vy v u Q I C ry q;obtain⟨φ,S,m,l,q⟩:=q;exact (Bq hr I (mP S m ha) (mP S l hb) C ry e).1 _ _ _ _ ⟨.bl r,H,I,U,q _ H (aP.refl H) U⟩
theorem xX {k:Nat} (hr:bH k X.A) (hK:X.K=K:=by rfl):OpD K X (qce .NotEq) dNe:=by
 subst hK;refine⟨λst x y d h=>?_⟩;simp only[dNe,qab,qad]at h;obtain⟨a,ha,b,hb,r,e,rfl⟩:=h;intro T s σ H vx vy v u Q I C ry q;obtain⟨φ,S,m,l,q⟩:=q;exact (Bq hr I (mP S m ha) (mP S l hb) C ry e).2 _ _ _ _ ⟨.bl _,H,I,U,q _ H (aP.refl H) U⟩
end
section
variable {K:qae}{X:Cx}
def aW:List D->Option (List Int)
 |[]=>some []
 |.int i::ds=>(aW ds).map λr=>i::r
 |_=>none
theorem ce:∀ {ds:List D}{ns:List Int},aW ds=some ns->ds=ns.map D.int
 |[],_,h=>by cases h;rfl
 |.int i::ds,_,h=>by
  obtain⟨r,e,rfl⟩:=qad.mp h;rw[ce e];rfl
 |.non::_,_,h=>by cases h
 |.bl _::_,_,h=>by cases h
 |.str _::_,_,h=>by cases h
 |.ty _::_,_,h=>by cases h
 |.dct::_,_,h=>by cases h
 |.scr _::_,_,h=>by cases h
 |.tup _::_,_,h=>by cases h
 |.lst _::_,_,h=>by cases h
theorem bu:∀ (ns:List Int),aW (ns.map D.int)=some ns
 |[]=>rfl
 |n::ns=>by rw[qas,aW,bu ns];rfl
def iA:List D->Option (List Bool)
 |[]=>some []
 |.bl i::ds=>(iA ds).map λr=>i::r
 |_=>none
theorem iB:∀ {ds:List D}{ns:List Bool},iA ds=some ns->ds=ns.map D.bl
 |[],_,h=>by cases h;rfl
 |.bl i::ds,_,h=>by
  obtain⟨r,e,rfl⟩:=qad.mp h;rw[iB e];rfl
 |.non::_,_,h=>by cases h
 |.int _::_,_,h=>by cases h
 |.str _::_,_,h=>by cases h
 |.ty _::_,_,h=>by cases h
 |.dct::_,_,h=>by cases h
 |.scr _::_,_,h=>by cases h
 |.tup _::_,_,h=>by cases h
 |.lst _::_,_,h=>by cases h
theorem gL:∀ (ns:List Bool),iA (ns.map D.bl)=some ns
 |[]=>rfl
 |n::ns=>by rw[qas,iA,gL ns];rfl
def aZ (st:Sto):List W->Option D
 |[.d (.str x)]=>if x.length<=1000000 then some (.int x.length) else none
 |[w]=>(dQ st w).map λds=>.int ds.length
 |_=>none
def zW (_:Sto):List W->Option D
 |[.d (.int i)]=>some (.int (if i<0 then -i else i))
 |_=>none
def Ey (_:Sto):List W->Option D
 |[.d (.int i),.d (.int j)]=>some (.int (if j<i then j else i))
 |_=>none
def iE (_:Sto):List W->Option D
 |[.d (.int i)]=>some (.int i)
 |[.d (.bl k)]=>some (.int (if k then 1 else 0))
 |_=>none
def jt (_:Sto):List W->Option D
 |[.d (.lst ds)]=>(aW ds).map λns=>.int ns.sum
 |_=>none
def vw (_:Sto):List W->Option D
 |[.d (.lst ds)]=>(iA ds).map λns=>.bl (ns.all id)
 |_=>none
def dj (st:Sto):List W->Option D
 |[w]=>(dQ st w).map λds=>.tup ds
 |_=>none
def xC (st:Sto):List W->Option (List D)
 |[w]=>dQ st w
 |_=>none
theorem gN (G:X.K=K:=by rfl):gf K X (.builtin "len") aZ:=by
 subst G;refine⟨λst ws d h=>?_⟩;have J:∀ w,(dQ st w).map (λds=>D.int ds.length)=some d->bO X _ (rCD X.K st [w] d):=λw h=>by
  obtain⟨ds,e,rfl⟩:=qad.mp h;refine qt.imp ?_
  rintro E H Q ⟨φ,S,⟨v,r,rfl,c,rfl⟩,q⟩
  obtain⟨a,s,rfl,C,I⟩:=kM S c e;exact⟨a,s,U,C,q _ H (aP.refl H) (by rw[<-I.length];rfl)⟩
 cases ws with
 |nil=>cases h
 |cons w tl=>
  cases tl with
  |cons _ _=>
   cases w with
   |h n=>cases h
   |d x=>cases x<;>cases h
  |nil=>
   cases w with
   |h n=>exact J _ h
   |d x=>
    cases x with
    |str x=>
     simp only[aZ]at h;split at h
     ·rename_i L
      cases h;refine qu.imp ?_
      rintro E H Q ⟨φ,S,⟨v,r,rfl,c,rfl⟩,q⟩
      exact⟨x,by rw[c],qaM L mil,q _ H (aP.refl H) U⟩
     ·cases h
    |tup ds=>exact J _ h
    |lst ds=>exact J _ h
    |scr ds=>exact J _ h
    |_=>cases h
theorem qz:gf K X (.builtin "abs") zW:=by
 refine⟨λst ws d h=>?_⟩
 match ws,h with
 |[.d (.int i)],h=>
  cases h;refine zP.imp ?_
  rintro E H Q ⟨φ,S,⟨v,r,rfl,c,rfl⟩,q⟩
  exact⟨i,by rw[c],q _ H (aP.refl H) U⟩
theorem qC (T:X.calm=true:=by rfl):gf K X (.builtin "min") Ey:=by
 refine⟨λst ws d h=>?_⟩
 match ws,h with
 |[.d (.int i),.d (.int j)],h=>
  cases h;refine (pJ T).imp ?_
  rintro E H Q ⟨φ,S,⟨v,r,rfl,c,u,r',rfl,r2,rfl⟩,q⟩
  exact⟨i,j,by rw[c,r2],q _ H (aP.refl H) U⟩
theorem qB:gf K X (.type "int") iE:=by
 refine⟨λst ws d h=>?_⟩
 match ws,h with
 |[.d (.int i)],h=>
  cases h;refine pI.imp ?_
  rintro E H Q ⟨φ,S,⟨v,r,rfl,c,rfl⟩,q⟩
  exact .inl ⟨i,by rw[c],q _ H (aP.refl H) U⟩
 |[.d (.bl i)],h=>
  cases h;refine pI.imp ?_
  rintro E H Q ⟨φ,S,⟨v,r,rfl,c,rfl⟩,q⟩
  exact .inr ⟨i,by rw[c],q _ H (aP.refl H) U⟩
theorem qD (T:X.calm=true:=by rfl) (G:X.K=K:=by rfl):gf K X (.builtin "sum") jt:=by
 refine⟨λst ws d h=>?_⟩
 match ws,h with
 |[.d (.lst ds)],h=>
  obtain⟨ns,e,rfl⟩:=qad.mp h;cases ce e;refine (GI T U).imp ?_
  rintro E H Q ⟨φ,S,⟨v,r,rfl,⟨a,s,rfl,h0,C,I⟩,rfl⟩,q⟩
  cases I.ints;exact⟨a,ns,U,.inl C,q _ H (aP.refl H) U⟩
theorem qA (T:X.calm=true:=by rfl) (G:X.K=K:=by rfl):gf K X (.builtin "all") vw:=by
 refine⟨λst ws d h=>?_⟩
 match ws,h with
 |[.d (.lst ds)],h=>
  obtain⟨ns,e,rfl⟩:=qad.mp h;cases iB e;refine (GH T U).imp ?_
  rintro E H Q ⟨φ,S,⟨v,r,rfl,⟨a,s,rfl,h0,C,I⟩,rfl⟩,q⟩
  cases I.bools;exact⟨a,ns,U,.inl C,q _ H (aP.refl H) U⟩
theorem qE (G:X.K=K:=by rfl):gf K X (.type "tuple") dj:=by
 subst G;refine⟨λst ws d h=>?_⟩
 match ws,h with
 |[w],h=>
  obtain⟨ds,e,rfl⟩:=qad.mp h;refine pe.imp ?_
  rintro E H Q ⟨φ,S,⟨v,r,rfl,c,rfl⟩,q⟩
  obtain⟨a,s,rfl,C,I⟩:=uY S c e;refine⟨a,s,U,?_⟩;rcases C with C|C
  ·exact .inl ⟨C,λl L=>q _ _ (aP.new L _) ⟨l,s,U,upd_same,I.fw S (Fw.new L)⟩⟩
  ·exact .inr ⟨SqT.of C,q _ H (aP.refl H) ⟨a,s,U,C,I⟩⟩
theorem jc (G:X.K=K:=by rfl):sV K X (.type "list") xC:=by
 subst G;refine⟨λst ws d h=>?_⟩
 match ws,h with
 |[w],h=>
  refine qv.imp ?_
  rintro E H Q ⟨φ,S,⟨v,r,rfl,c,rfl⟩,q⟩
  obtain⟨a,s,rfl,C,I⟩:=kM S c h;exact⟨a,s,U,C,λl L=>q l s H (aP.refl H) L I⟩
variable {e a b:Expr}{es:List Expr}{pos:Pos}{f fa fb:Ef}{af:Af}
def iN (g:List D->List W->Option (D×List D)) (o:Ef) (a:Af):Ef
 |env,st=>(o env st).bind λx=>(a env x.2).bind λr=>match x.1 with
 |.h n=>(lg x.2 n).bind λ_=>(lg r.2 n).bind λds=>(g ds r.1).map λy=>(.d y.1,r.2.set n (.l y.2))
 |_=>none
def gW (ds:List D):List W->Option (D×List D)
 |[.d x]=>if ds.length<1000000 then some (.non,ds++[x]) else none
 |_=>none
theorem Ak {name:Str}{id:String}{m:Pos}{rr:V->List V->Hp->VK->Prop}{g:List D->List W->Option (D×List D)} (slot:Slot "list" name id) (hty:typeOf (.builtin id)=pure (.type "method_descriptor")) (hm:MtR X id rr)
  (hg:∀ (H:Hp) (φ:List Addr) (st:Sto) (n:Nat) (ad:Addr) (ds:List D) (E:List V) (ws:List W) (s:List V) (y:D×List D) (Q:VK),Sr K H φ st->φ[n]?=some ad->lg st n=some ds->H ad=some (.lst E)->Rls K H φ ds E->Rws K H φ ws s->g ds ws=some y->
    (∀ v O,Rl K H φ y.1 v->Rls K H φ y.2 O->(∀ b,v≠.ref b)->Q v (upd H ad (.lst O)))->rr (.ref ad) s H Q)
  (hfl:∀ ds ws y,g ds ws=some y->cQ y.1=true)
  (ho:IE K X a fa) (ha:IA K X (e::es) af) (B:qdo a name X.env (eval a X.env)=eval a X.env:=by rfl)
  (p:(e::es).all av=true:=by rfl) (A:(e::es).length<30:=by decide) (t:(m.endLine==pos.line)=true:=by rfl) (G:X.K=K:=by rfl) :
  IE K X (.Call (.Attribute a name m) (e::es) [] pos) (iN g fa af):=by
 have F:=by rw[qbD,qbg]at p;exact p
 refine⟨λenv st r P=>?_⟩;simp only[iN,qab]at P;obtain⟨⟨x,s1⟩,hx,⟨ws,s2⟩,hw,P⟩:=P;cases x with
 |d x=>cases P
 |h n=>
  simp only[qab,qad]at P;obtain⟨ds1,R,ds,Y,y,M,rfl⟩:=P;refine (D1 qf7 slot hty hm (ho.run _ _ _ hx) (ha.run _ _ _ hw) B (u5 p A) t (aS F.1) (bC F.2)).imp ?_
  rintro σ H Q ⟨φ,hE,hS,q⟩
  refine⟨φ,hE,hS,λv H1 φ1 f1 S1 w1=>?_⟩;obtain⟨ad,ea,rfl⟩:=w1;obtain⟨vs1,hv1,_⟩:=S1.atl n ad _ ea R;refine⟨.inl ⟨U,vs1,SqL.of hv1⟩,φ1,hE.fw hS f1,S1,λs H2 φ2 f2 S2 w2=>?_⟩;have N:=f2.get ea;obtain⟨vs2,hv2,rl2⟩:=S2.atl n ad ds N Y;refine hg H2 φ2 s2 n ad ds vs2 ws s y _ S2 N Y hv2 rl2 w2 M λv O c r2 hb=>?_;obtain⟨f3,S3⟩:=S2.put N r2;exact q v _ φ2 ((f1.trans f2).trans f3) S3 (c.fw S2 f3)
theorem je {m:Pos} (ho:IE K X a fa) (ha:IA K X (e::es) af) (B:qdo a "append" X.env (eval a X.env)=eval a X.env:=by rfl)
  (p:(e::es).all av=true:=by rfl) (A:(e::es).length<30:=by decide) (t:(m.endLine==pos.line)=true:=by rfl) (G:X.K=K:=by rfl) :
  IE K X (.Call (.Attribute a "append" m) (e::es) [] pos) (iN gW fa af):=by
 refine Ak PySem.F.slot_list_append PySem.F.type_list_append zg (λH φ st n ad ds E ws s y Q S ea eds hv rl rw M q=>?_) (λds ws y h=>?_) ho ha B p A t G
 ·match ws,M with
  |[.d x],M=>
   simp only[gW]at M;split at M
   ·rename_i L
    cases M;obtain⟨v,r,rfl,c,rfl⟩:=rw;exact⟨ad,E,v,U,U,hv,by rw[<-rl.length];exact qaP L mil,q _ _ U (rl.append ⟨v,_,U,c,U⟩) (λb z=>nomatch z)⟩
   ·cases M
 ·match ws,h with
  |[.d x],h=>
   simp only[gW]at h;split at h
   ·cases h;rfl
   ·cases h
end
section
variable {K:qae}{X:Cx}{e a b:Expr}{es:List Expr}{pos:Pos}{f G I:Ef}{af:Af}
def rL (K:qae) (st:Sto) (x y:W) (ds:List D):R2:=λJ F H Q=>∃ φ,Sr K H φ st/\Rw K H φ x J/\Rw K H φ y F/\∀ p i,H p=none->Rls K H φ ds i->Q (.ref p) (upd H p (.lst i))
structure OpL (K:qae) (X:Cx) (f:Value->Value->Sem Value) (g:Sto->W->W->Option (List D)):Prop where
 run:∀ st x y d,g st x y=some d->OpR X f (rL K st x y d)
def ud (g:Sto->W->W->Option (List D)) (a b:Ef):Lf
 |env,st=>(a env st).bind λx=>(b env x.2).bind λy=>(g y.2 x.1 y.1).map λd=>(d,y.2)
theorem xq {N:Operator}{g:Sto->W->W->Option (List D)} (ho:OpL K X (qbI N) g) (ha:IE K X a G) (hb:IE K X b I):IL K X (.BinOp a N b pos) (ud g G I):=by
 refine⟨λenv st r L=>?_⟩;simp only[ud,qab,qad]at L;obtain⟨x,hx,y,hy,d,hd,rfl⟩:=L;refine (D4 (ho.run _ _ _ _ hd) (ha.run _ _ _ hx) (hb.run _ _ _ hy)).imp ?_
 rintro σ H Q ⟨φ,R,B,q⟩
 exact⟨φ,R,B,λv H1 E M s1 w1=>⟨E,R.fw B M,s1,λu H2 A P O w2=>⟨A,O,w1.fw s1 P,w2,λp i C r=>q p i H2 A (M.trans P) O C r⟩⟩⟩
def n8 (_:Sto):W->W->Option (List D)
 |.d (.lst a),.d (.int k)=>if a.length<=1000/\-1000<=k/\k<1000 then some (qaL k.toNat a).flatten else none
 |_,_=>none
theorem rW:OpL K X (qbI .Mult) n8:=by
 refine⟨λst x y d h=>?_⟩
 match x,y,h with
 |.d (.lst as),.d (.int k),h=>
  simp only[n8]at h;split at h
  ·rename_i T
   cases h;refine x6.imp ?_
   rintro J F H Q ⟨φ,S,⟨a,i,rfl,h0,s,l⟩,r2,q⟩
   refine⟨a,k,i,U,r2,s,by lia,by lia,?_,λp C=>q p _ C (l.rep _)⟩;rw[<-l.length]
   have:as.length*k.toNat<=1000*1000:=qcY T.1 (by lia)
   exact qaM this mil
  ·cases h
def vF (x:Int):List Int->List Int
 |[]=>[x]
 |y::c=>if x<=y then x::y::c else y::vF x c
def rm:List Int->List Int
 |[]=>[]
 |x::xs=>vF x (rm xs)
theorem lu (x:Int):∀ c,(vF x c).Perm (x::c)
 |[]=>qcR _
 |y::c=>by
  unfold vF;split
  ·exact qcR _
  ·exact (List.Perm.cons y (lu x c)).trans (List.Perm.swap x y c)
theorem lR:∀ xs,(rm xs).Perm xs
 |[]=>qcR _
 |x::xs=>(lu x _).trans (List.Perm.cons x (lR xs))
theorem lP (x:Int):∀ {c:List Int},c.Pairwise (·<=·)->(vF x c).Pairwise (·<=·)
 |[],_=>by simp[vF]
 |y::c,h=>by
  unfold vF;split
  ·rename_i w
   refine qbi.mpr ⟨λz j=>?_,h⟩;rcases qaA.mp j with rfl|j
   ·exact w
   ·exact qeh w ((qbi.mp h).1 z j)
  ·refine qbi.mpr ⟨λz j=>?_,lP x (qbi.mp h).2⟩
   rcases qaA.mp ((lu x c).mem_iff.mp j) with rfl|j
   ·lia
   ·exact (qbi.mp h).1 z j
theorem jD:∀ xs,(rm xs).Pairwise (·<=·)
 |[]=>List.Pairwise.nil
 |x::xs=>lP x (jD xs)
theorem u4 {xs c:List Int} (p:xs.Perm c) (s:xs.Pairwise (·<=·)) (l:c.Pairwise (·<=·)):xs=c:=
 qfL (λa b _ _ s l=>Int.le_antisymm s l) s l p
theorem kR:∀ {ns:List Int}{i:List Value},qcF i ns->aJ (ns.map V.int) i
 |_,_,.nil=>.nil
 |_,_,.cons n t h=>.cons ⟨t,U⟩ (kR h)
theorem Dt {H:Hp}{ad:Addr}{ns:List Int}{m:Fn} (Y:BZ H) (B:SqL K H ad (ns.map V.int)) (h:∃ st,m [.d (.scr ns)] []=some (.d (.bl true),st)):spI K m [.ref ad] H (λv _=>v=.bl true) λ_ _ _=>False:=by
 obtain⟨st,h⟩:=h;refine⟨_,_,_,_,h,⟨_,_,U,⟨ad,U,?_⟩,U⟩,⟨qcW,U,λn a ds e=>by simp at e⟩,λv H' φ' _ _ r=>r⟩;rcases B with (h|h)|h
 ·rcases Y ad with z|⟨o,xs,z⟩
  ·rw[h]at z;cases z
  ·rw[h]at z;cases z
 ·exact .inl h
 ·exact .inr h
end
end L2
namespace L2
open PySem
theorem bU {g:Tg}{body:Sf}:∀ {ds:List D} (Pv:Nat->Ev->Sto->Prop) {env:Ev}{st:Sto},Pv 0 env st->
  (∀ i d env st,ds[i]?=some d->Pv i env st->∃ e e2 c,cv g (.d d) env=some e/\(body e st=some (.nx e2 c)\/body e st=some (.ct e2 c))/\Pv (i+1) e2 c)->
  ∃ a b,cS g body ds env st=some (.nx a b)/\Pv ds.length a b
 |[],Pv,env,st,h,_=>⟨env,st,U,h⟩
 |d::ds,Pv,env,st,h,j=>by
  obtain⟨e,e2,c,l,f,n⟩:=j 0 d env st U h;obtain⟨q,s',m,o⟩:=bU _ n λi k a b hd p=>j (i+1) k a b (by simpa using hd) p;refine⟨q,s',?_,o⟩;unfold cS;rw[l,qaa];rcases f with f|f<;>(rw[f];exact m)
theorem db {g:Tg}{tt:Tf}{te:Ef}{env:Ev}:∀ {ds:List D} (Pv:Nat->List D->Sto->Prop) {st:Sto}{ys0:List D},Pv 0 ys0 st->
  (∀ i d b st,ds[i]?=some d->Pv i b st->∃ e,cv g (.d d) env=some e/\((∃ s1 x h,tt e st=some (true,s1)/\te e s1=some (.d x,h)/\Pv (i+1) (b++[x]) h)\/∃ s1,tt e st=some (false,s1)/\Pv (i+1) b s1))->
  ∃ b a,lcI g tt te env ds st=some (b,a)/\Pv ds.length (ys0++b) a
 |[],Pv,st,ys0,o,_=>⟨_,st,U,by rw[qcg];exact o⟩
 |d::ds,Pv,st,ys0,o,k=>by
  obtain⟨e,q,f⟩:=k 0 d ys0 st U o;rcases f with⟨s1,x,h,f,r,l⟩|⟨s1,f,l⟩
  ·obtain⟨b,s',n,m⟩:=db _ l λi j c a hd p=>k (i+1) j c a (by simpa using hd) p
   refine⟨_,s',?_,by simpa using m⟩;unfold lcI;rw[q,qaa,f,qaa,r,qaa,n];rfl
  ·obtain⟨b,s',n,m⟩:=db _ l λi j c a hd p=>k (i+1) j c a (by simpa using hd) p
   refine⟨b,s',?_,by simpa using m⟩;unfold lcI;rw[q,qaa,f,qaa,iFN qa7,n]
theorem gu {g:Tg}{tt:Tf}{te:Ef}{env:Ev}{st:Sto} (p:D->Bool) (F:D->D):∀ {ds:List D},(∀ d∈ds,∃ a,cv g (.d d) env=some a/\tt a st=some (p d,st)/\(p d=true->te a st=some (.d (F d),st)))->
  lcI g tt te env ds st=some ((ds.filter p).map F,st)
 |[],_=>rfl
 |d::ds,h=>by
  obtain⟨a,c,i,e⟩:=h d qag;have b:=gu p F λx f=>h x (qak _ f);unfold lcI;rw[c,qaa,i,qaa];cases hp:p d with
  |true=>rw[e hp,qaa,b,qdq,hp];rfl
  |false=>rw[b,qdq,hp];rfl
theorem dC {g:Tg}{te:Ef}{env:Ev}{st:Sto} (F:D->D) {ds:List D} (h:∀ d∈ds,∃ a,cv g (.d d) env=some a/\te a st=some (.d (F d),st)):lcI g az te env ds st=some (ds.map F,st):=by
 have:=gu (tt:=az) _ F λd hd=>by
  obtain⟨a,b,c⟩:=h d hd;exact⟨a,b,U,λ_=>c⟩
 rw[this,qg6.mpr λ_ _=>rfl]
theorem d5 {a b:Int} (h:-(2^64)<a/\a<2^64):qbJ a b:=BX.ok (.inl h)
theorem hW {a b:Int} (h:-(2^64)<b/\b<2^64):qbJ a b:=BX.ok (.inr h)
theorem qM {st:Sto}{n:Nat}{v:C} (h:n<st.length):(st.set n v)[n]?=some v:=qbd h
theorem tj {α:Type} (a:α) (l:List α):atI (a::l) 0=some a:=bS U
theorem vj {α:Type} (a b:α) (l:List α):atI (a::b::l) 1=some b:=bS U
theorem cH {n i:Nat}{d:D} (h:(bh 0 n)[i]?=some d):d=.int (i:Int)/\i<n:=by
 rw[uX]at h;by_cases hi:i<n
 ·rw[iFP hi]at h
  cases h;exact⟨by rw[qcD],hi⟩
 ·rw[iFN hi]at h;cases h
end L2
namespace L2
open PySem PySem.Spec PyProof.Rows
def Gi:Nat->Nat->StateT qb9 Sem (Option Nat):=sortPriv% PySem.Builtin.countRun
def Eu:Nat->Nat->Nat->StateT qb9 Sem Bool:=sortPriv% PySem.Builtin.binarySort
def Cm (prog:qaR) (w:World) (A:qaZ) (s:qam) (a:qdy) (O:qfy) (rk:Keyed->O.α) (S:Keyed->Prop):Prop:=
 ∀ x y,S x->S y->∀ (Q:Bool->qam->Prop) (E:Value->qam->Prop),Q (O.blt (rk x) (rk y)) s->wpAny (model prog w) A (keyLt' a x.1 y.1) Q E s
section
variable {prog:qaR}{w:World}{A:qaZ}{E:Value->qam->Prop}{s:qam}{κ:qdy}{O:qfy}{rk:Keyed->O.α}{S:Keyed->Prop}
theorem HD (B:Cm prog w A s κ O rk S) {x y:Keyed}{st:qb9}{Q:Option Bool->qb9->Prop} (r:kindOf st=κ) (D:S x) (F:S y) (h:Q (some (O.blt (rk x) (rk y))) st) :
  wpS (model prog w) A E s (lt' x y) Q st:=by
 rw[lt'_eq];refine qbw (qha ?_);rw[r];exact qbw (wpS_lift (qeR (B x y D F _ _ ⟨U,qcm h⟩)))
theorem lY {c:Prop} [Decidable c] {M:Model}{A':qaZ}{E':Value->qam->Prop}{s':qam}{α:Type}{a b:StateT qb9 Sem α}{Q:α->qb9->Prop}{st:qb9} (h:c) (k:wpS M A' E' s' a Q st):wpS M A' E' s' (if c then a else b) Q st:=by rw[iFP h];exact k
theorem qe {c:Prop} [Decidable c] {M:Model}{A':qaZ}{E':Value->qam->Prop}{s':qam}{α:Type}{a b:StateT qb9 Sem α}{Q:α->qb9->Prop}{st:qb9} (h:¬ c) (k:wpS M A' E' s' b Q st):wpS M A' E' s' (if c then a else b) Q st:=by rw[iFN h];exact k
theorem yB {f:Array Keyed}{i:Nat}{x:Keyed}{st:qb9}{Q:Keyed->qb9->Prop} (hi:f[i]?=some x) (h:Q x st):wpS (model prog w) A E s (elem' f i) Q st:=by
 rw[elem'_eq,hi];exact qcm h
theorem yC {t:String}{st:qb9}{Q:Unit->qb9->Prop} (h:Q () st):wpS (model prog w) A E s (liftM (rule t):StateT qb9 Sem Unit) Q st:=wpS_lift (qdV ⟨U,h⟩)
def kyd (f:Array Keyed) (i:Nat):Keyed:=(f[i]?).getD (.none,.none)
theorem n5 {f:Array Keyed}{i:Nat} (h:i<f.size):f[i]?=some (kyd f i):=by
 unfold kyd;simp[h]
theorem gn {a b:Array Keyed}{i j:Nat} (h:a[i]?=b[j]?):kyd a i=kyd b j:=by
 unfold kyd;rw[h]
theorem DK (B:Cm prog w A s κ O rk S) {i j:Nat}{st:qb9}{Q:Option Bool->qb9->Prop} (r:kindOf st=κ) (hi:i<(arrOf st).size) (l:j<(arrOf st).size) (D:S (kyd (arrOf st) i)) (F:S (kyd (arrOf st) j))
  (h:Q (some (O.blt (rk (kyd (arrOf st) i)) (rk (kyd (arrOf st) j)))) st):wpS (model prog w) A E s (ltAt' i j) Q st:=by
 refine qbw (qha ?_);exact qbw (yB (n5 hi) (qbw (yB (n5 l) (HD B r D F h))))
structure SB (κ:qdy) (a0:Array Keyed) (lo:Nat) (p0:Array (Nat×Nat×Nat)) (g0:Nat) (st:qb9):Prop where
 perm:(arrOf st).Perm a0
 pre:∀ k,k<lo->(arrOf st)[k]?=a0[k]?
 kind:kindOf st=κ
 fail:qhg st=none
 pend:qff st=p0
 gal:qij st=g0
variable {a0:Array Keyed}{lo:Nat}{p0:Array (Nat×Nat×Nat)}{g0:Nat}{st:qb9}
theorem SB.size (h:SB κ a0 lo p0 g0 st):(arrOf st).size=a0.size:=h.perm.size_eq
theorem SB.mem (h:SB κ a0 lo p0 g0 st) (C:∀ x∈a0.toList,S x) {i:Nat} (hi:i<a0.size):S (kyd (arrOf st) i):=by
 have m:i<(arrOf st).size:=by rw[h.size];exact hi
 refine C _ ((qf2.mp h.perm).mem_iff.mp ?_);have e:=n5 m;rw[qbx m]at e;rw[<-qaQ e];exact Array.getElem_mem_toList m
theorem SB.set (h:SB κ a0 lo p0 g0 st) {xs:Array Keyed} (J:xs.Perm (arrOf st)) (z:∀ k,k<lo->xs[k]?=(arrOf st)[k]?):SB κ a0 lo p0 g0 (setArr st xs):=
 ⟨J.trans h.perm,λk r=>(z k r).trans (h.pre k r),h.kind,h.fail,h.pend,h.gal⟩
theorem yA (B:Cm prog w A s κ O rk S) (C:∀ x∈a0.toList,S x) (p:SB κ a0 lo p0 g0 st) {i j:Nat}{Q:Option Bool->qb9->Prop} (hi:i<a0.size) (l:j<a0.size)
  (h:Q (some (O.blt (rk (kyd (arrOf st) i)) (rk (kyd (arrOf st) j)))) st):wpS (model prog w) A E s (ltAt' i j) Q st:=
 DK B p.kind (by rw[p.size];exact hi) (by rw[p.size];exact l) (p.mem C hi) (p.mem C l) h
def Up (rk:Keyed->O.α) (f:Array Keyed) (lo n:Nat):Prop:=∀ i j,lo<=i->i<=j->j<lo+n->O.kle (rk (kyd f i)) (rk (kyd f j))
def jq (rk:Keyed->O.α) (f:Array Keyed) (lo n:Nat):Prop:=∀ i j,lo<=i->i<=j->j<lo+n->O.kle (rk (kyd f j)) (rk (kyd f i))
theorem jP {xs:Array Keyed}{i j:Nat} (l:j<=xs.size) (k:Nat):kyd (qjQ xs i j ((j - i) / 2)) k=if i<=k/\k<j then kyd xs (i+j - 1 - k) else kyd xs k:=by
 have e:=qh3 (i:=i) l k;by_cases q:i<=k/\k<j
 ·rw[iFP q]at e ⊢;exact gn e
 ·rw[iFN q]at e ⊢;exact gn e
theorem n6 {xs:Array Keyed}{g d:Nat} (K:g<xs.size) (hd:d<=g) (k:Nat) :
  kyd (bubble xs g d) k=if k=g - d then kyd xs g else if g - d<k/\k<=g then kyd xs (k - 1) else kyd xs k:=by
 have e:=qjS K d hd k;by_cases q:k=g - d
 ·rw[iFP q]at e ⊢;exact gn e
 ·rw[iFN q]at e ⊢
  by_cases H:g - d<k/\k<=g
  ·rw[iFP H]at e ⊢;exact gn e
  ·rw[iFN H]at e ⊢;exact gn e
theorem SB.rev (p:SB κ a0 lo p0 g0 st) {i j:Nat} (hi:lo<=i) (l:j<=a0.size):SB κ a0 lo p0 g0 (setArr st (qjQ (arrOf st) i j ((j - i) / 2))):=
 p.set (mirror_perm _ _ _ _) λk r=>by
  rw[qh3 (by rw[p.size];exact l),iFN (by lia)]
theorem i7 {xs:Array Keyed}{i j:Nat} (l:j<=xs.size) (G:∀ k,i<=k->k<j->rk (kyd xs k)=rk (kyd xs (j - 1))) (k:Nat):rk (kyd (qjQ xs i j ((j - i) / 2)) k)=rk (kyd xs k):=by
 rw[jP l];split
 ·rw[G _ (by lia) (by lia),G k (by lia) (by lia)]
 ·rfl
theorem sQ {i j:Nat}{Q:Unit->qb9->Prop} (h:Q () (setArr st (qjQ (arrOf st) i j ((j - i) / 2)))):wpS (model prog w) A E s (reverseSlice' i j) Q st:=by
 exact qgY h
theorem Up.more {f:Array Keyed}{n:Nat} (h:Up rk f lo n) (q:1<=n) (z:O.kle (rk (kyd f (lo+n - 1))) (rk (kyd f (lo+n)))):Up rk f lo (n+1):=by
 intro i j hi o l;by_cases v:j<lo+n
 ·exact h i j hi o v
 ·have u:j=lo+n:=by lia
  subst u;by_cases m:i=lo+n
  ·subst m;exact qc6 _
  ·exact qdR (h i _ hi (by lia) (by lia)) z
theorem jq.more {f:Array Keyed}{n:Nat} (h:jq rk f lo n) (q:1<=n) (z:O.kle (rk (kyd f (lo+n))) (rk (kyd f (lo+n - 1)))):jq rk f lo (n+1):=by
 intro i j hi o l;by_cases v:j<lo+n
 ·exact h i j hi o v
 ·have u:j=lo+n:=by lia
  subst u;by_cases m:i=lo+n
  ·subst m;exact qc6 _
  ·exact qdR z (h i _ hi (by lia) (by lia))
theorem Up.one {f:Array Keyed}:Up rk f lo 1:=λi j hi o l=>by
 have:i=j:=by lia
 subst this;exact qc6 _
theorem jq.congr {xs I:Array Keyed}{n:Nat} (h:jq rk xs lo n) (e:∀ k,rk (kyd I k)=rk (kyd xs k)):jq rk I lo n:=λi j hi o l=>by
 rw[e,e];exact h i j hi o l
end
section
variable {prog:qaR}{w:World}{A:qaZ}{E:Value->qam->Prop}{s:qam}{C:qdy}{O:qfy}{rk:Keyed->O.α}{S:Keyed->Prop}
variable {a0:Array Keyed}{lo:Nat}{L:Array (Nat×Nat×Nat)}{K:Nat}{st:qb9}
theorem BR {o b:Nat}{f:Nat->Option (Option Nat)×Nat->StateT qb9 Sem (ForInStep (Option (Option Nat)×Nat))}{Q:Option (Option Nat)×Nat->qb9->Prop}
  (hf:∀ x n (Q':ForInStep (Option (Option Nat)×Nat)->qb9->Prop),1<=n->n < b->(O.blt (rk (kyd (arrOf st) (lo+n))) (rk (kyd (arrOf st) (lo+n - 1)))=true->Q' (.done (none,n)) st)->
    (O.blt (rk (kyd (arrOf st) (lo+n))) (rk (kyd (arrOf st) (lo+n - 1)))=false->Q' (.yield (none,n+1)) st)->wpS (model prog w) A E s (f x (none,n)) Q' st)
  (M:1<=o) (hn:o<=b) (V:Up rk (arrOf st) lo o)
  (h:∀ n,o<=n->n<=b->Up rk (arrOf st) lo n->(n=b\/O.klt (rk (kyd (arrOf st) (lo+n))) (rk (kyd (arrOf st) (lo+n - 1))))->Q (none,n) st):wpS (model prog w) A E s (forIn [o:b] (none,o) f) Q st:=by
 refine qet (I:=λx c a=>a=st/\c=(none,x)/\Up rk _ lo x) ?_ ?_ ⟨U,U,V⟩
 ·rintro x c a hx hxn ⟨rfl,rfl,z⟩
  exact hf x x _ (by lia) hxn (λl=>h x hx (by lia) z (.inr l)) λl=>⟨U,U,z.more (by lia) l⟩
 ·rintro c a ⟨rfl,rfl,z⟩
  rw[show max o b=b by lia]at z ⊢;exact h b hn (qap _) z (.inl U)
def Eqs (rk:Keyed->O.α) (B:Array Keyed) (lo m q:Nat):Prop:=q+1<=m/\∀ i,lo+m - (q+1)<=i->i<lo+m->rk (kyd B i)=rk (kyd B (lo+m - 1))
theorem DJ {o b:Nat}{f:Nat->Option (Option Nat)×Nat×Nat->StateT qb9 Sem (ForInStep (Option (Option Nat)×Nat×Nat))}{Q:Option (Option Nat)×Nat×Nat->qb9->Prop}
  (hf:∀ x n q a (Q':ForInStep (Option (Option Nat)×Nat×Nat)->qb9->Prop),1<=n->n < b->SB C a0 lo L K a->
    (O.blt (rk (kyd (arrOf a) (lo+n))) (rk (kyd (arrOf a) (lo+n - 1)))=true->0<q->Q' (.yield (none,n+1,0)) (setArr a (qjQ (arrOf a) (lo+n - (q+1)) (lo+n) ((lo+n - (lo+n - (q+1))) / 2))))->
    (O.blt (rk (kyd (arrOf a) (lo+n))) (rk (kyd (arrOf a) (lo+n - 1)))=true->q=0->Q' (.yield (none,n+1,0)) a)->
    (O.blt (rk (kyd (arrOf a) (lo+n - 1))) (rk (kyd (arrOf a) (lo+n)))=true->Q' (.done (none,n,q)) a)->
    (O.blt (rk (kyd (arrOf a) (lo+n))) (rk (kyd (arrOf a) (lo+n - 1)))=false->O.blt (rk (kyd (arrOf a) (lo+n - 1))) (rk (kyd (arrOf a) (lo+n)))=false->Q' (.yield (none,n+1,q+1)) a)->
    wpS (model prog w) A E s (f x (none,n,q)) Q' a)
  (M:1<=o) (hn:o<=b) (hz:lo+b<=a0.size) (p:SB C a0 lo L K st) (hd:jq rk (arrOf st) lo o)
  (h:∀ n q a,o<=n->n<=b->SB C a0 lo L K a->jq rk (arrOf a) lo n->Eqs rk (arrOf a) lo n q->Q (none,n,q) a):wpS (model prog w) A E s (forIn [o:b] (none,o,0) f) Q st:=by
 have one:∀ (B:Array Keyed) m,1<=m->Eqs rk B lo m 0:=λB m hm=>⟨by lia,λi M h2=>by rw[show i=lo+m - 1 by lia]⟩;refine qet (I:=λx c a=>∃ q,c=(none,x,q)/\SB C a0 lo L K a/\jq rk (arrOf a) lo x/\Eqs rk (arrOf a) lo x q) ?_ ?_ ⟨0,U,p,hd,one _ _ M⟩
 ·rintro x c a hx hxn ⟨q,rfl,e,z,F⟩
  have D:lo+x<=(arrOf a).size:=by rw[e.size];lia
  refine hf x x q a _ (by lia) hxn e (λl J=>?_) (λl J=>?_) (λl=>h x q a hx (by lia) e z F) λl N=>?_
  ·exact⟨0,U,e.rev (by have:=F.1;lia) (by lia),jq.congr (z.more (by lia) (qdE l)) (i7 (rk:=rk) (xs:=arrOf a) (j:=lo+x) D F.2),one _ _ (by lia)⟩
  ·exact⟨0,U,e,z.more (by lia) (qdE l),one _ _ (by lia)⟩
  ·have eq:=qgP N l
   refine⟨_,U,e,z.more (by lia) (by rw[eq];exact qc6 _),by have:=F.1;lia,λi M h2=>?_⟩;rw[show lo+_ - 1=lo+x by lia,eq];by_cases hi:i=lo+x
   ·rw[hi,eq]
   ·exact F.2 i (by lia) (by lia)
 ·rintro c a ⟨q,rfl,e,z,F⟩
  rw[show max o b=b by lia]at z F ⊢;exact h b q a hn (qap _) e z F
theorem F5 {m b:Nat}{f:Nat->Option (Option Nat)×Nat->StateT qb9 Sem (ForInStep (Option (Option Nat)×Nat))}{k:Option (Option Nat)×Nat->StateT qb9 Sem (Option Nat)}{Q:Option Nat->qb9->Prop}
  (p:SB C a0 lo L K st) (hd:jq rk (arrOf st) lo m) (M:1<=m) (hm:m<=b) (hz:lo+b<=a0.size)
  (hf:∀ x n (Q':ForInStep (Option (Option Nat)×Nat)->qb9->Prop) d,SB C a0 lo L K d->1<=n->n < b->(O.blt (rk (kyd (arrOf d) (lo+n))) (rk (kyd (arrOf d) (lo+n - 1)))=true->Q' (.done (none,n)) d)->
    (O.blt (rk (kyd (arrOf d) (lo+n))) (rk (kyd (arrOf d) (lo+n - 1)))=false->Q' (.yield (none,n+1)) d)->wpS (model prog w) A E s (f x (none,n)) Q' d)
  (hk:∀ n d,SB C a0 lo L K d->1<=n->n<=b->Up rk (arrOf d) lo n->wpS (model prog w) A E s (k (none,n)) Q d) :
  wpS (model prog w) A E s (do reverseSlice' lo (lo+m);let r <-forIn [m:b] (none,m) f;k r) Q st:=by
 refine qbw (sQ ?_);have v:=p.rev (j:=lo+m) (qap _) (by lia);refine qbw (BR (λx n Q' u y hy H=>hf x n Q' _ v u y hy H) M hm ?_ λn' T G hu' _=>hk n' _ v (by lia) G hu');intro i j hi hij hj;have hs3:lo+m<=(arrOf st).size:=by rw[p.size];lia
 rw[jP hs3,jP hs3,iFP (by lia),iFP (by lia)];exact hd _ _ (by lia) (by lia) (by lia)
set_option maxHeartbeats 1000000 in
theorem DI (hC:Cm prog w A s C O rk S) (hS:∀ x∈a0.toList,S x) {b:Nat}{Q:Option Nat->qb9->Prop} (p:SB C a0 lo L K st) (M:1<=b) (hz:lo+b<=a0.size)
  (h:∀ m a,SB C a0 lo L K a->1<=m->m<=b->Up rk (arrOf a) lo m->Q (some m) a):wpS (model prog w) A E s (Gi lo b) Q st:=by
 have W:∀ a (_:SB C a0 lo L K a) n (Q':Option Bool->qb9->Prop),1<=n->n<b->Q' _ a->
   wpS (model prog w) A E s (ltAt' (lo+n) (lo+n - 1)) Q' a:=λa e n Q' M h2 J=>yA hC hS e (by lia) (by lia) J
 refine qbw (BR (rk:=rk) (lo:=lo) (λx n Q' u y hy H=>?_) (qap 1) M Up.one λn u y V Y=>?_)
 ·refine qbw (W st p n _ u y ?_)
  cases l:O.blt (rk (kyd (arrOf st) (lo+n))) _ with
  |true=>exact qcm (hy l)
  |false=>exact qcm (H l)
 dsimp only;by_cases hnn:n=b
 ·refine lY (by simpa using hnn) ?_
  exact qcm (h n st p u y V)
 refine qe (by simpa using hnn) ?_;have P:=Y.resolve_left hnn;have hn3:n+1<=b:=by lia
 have D:lo+n<=(arrOf st).size:=by rw[p.size];lia
 by_cases hgt:n > 1
 case' pos=>
  refine lY hgt ?_;refine qbw (yA hC hS p (by lia) (by lia) ?_);by_cases g:O.blt (rk (kyd (arrOf st) lo)) (rk (kyd (arrOf st) (lo+n - 1)))=true
  ·rw[g];exact qcm (h n st p u y V)
  rw[qeF]at g;rw[g];have t:=λk hk1 hk2=>
   qgP (V k (lo+n - 1) hk1 (by lia) (by lia)) (qdR g (V lo k (by lia) hk1 hk2))
  refine qbw (sQ ?_);have R:=p.rev (i:=lo) (j:=lo+n) (qap _) (by lia);have hd:=by
   refine jq.congr (xs:=arrOf st) (jq.more (λi j hi hij hj=>?_) (by lia) (qdE P)) (i7 D t);rw[t i hi (by lia),t j (by lia) hj];exact qc6 _
  clear V P g t p D Y
 case' neg=>
  refine qe hgt ?_;have R:=p;have hd:jq rk (arrOf st) lo (n+1):=by
   refine jq.more (λi j hi hij hj=>?_) (by lia) (qdE P);rw[show i=j by lia];exact qc6 _
  clear V P p D Y
  revert R hd
  generalize st=st2;intro R hd
 all_goals
  refine qbw (yC ?_);refine qbw (DJ (λx m q a Q' hm1 X e c1 c2 c3 c4=>?_) (by lia) hn3 hz R hd λm q a hm1 X e hd' F=>?_)
  ·refine qbw (W a e m _ hm1 X ?_)
   cases l:O.blt (rk (kyd (arrOf a) (lo+m))) _ with
   |true=>
    dsimp only;refine lY U ?_;by_cases J:q > 0
    ·rw[iFP J];exact qbw (sQ (qcm (c1 l J)))
    ·rw[iFN J];exact qcm (c2 l (by lia))
   |false=>
    dsimp only;refine qbw (yA hC hS e (by lia) (by lia) ?_);cases N:O.blt _ (rk (kyd (arrOf a) (lo+m))) with
    |true=>exact qcm (c3 N)
    |false=>exact qcm (c4 l N)
  have hsz':lo+m<=(arrOf a).size:=by rw[e.size];lia
  dsimp only;by_cases J:q > 0
  case' pos=>
   refine lY J ?_;refine qbw (sQ ?_);have hB3:=e.rev (i:=lo+m - (q+1)) (j:=lo+m) (by have:=F.1;lia) (by lia);have hd3:=jq.congr hd' (i7 hsz' F.2)
  case' neg=>
   refine qe J ?_;have hB3:=e;have hd3:=hd'
  all_goals
   refine F5 hB3 hd3 (by lia) X hz (λx n' Q' d v T G hy H=>?_) λn' d v a1 a2 a3=>qcm (h n' d v a1 a2 a3);refine qbw (W d v n' _ T G ?_);cases l:O.blt (rk (kyd (arrOf d) (lo+n'))) _ with
   |true=>exact qcm (hy l)
   |false=>exact qcm (H l)
end
section
variable {prog:qaR}{w:World}{A:qaZ}{E:Value->qam->Prop}{s:qam}{u:qdy}{O:qfy}{rk:Keyed->O.α}{S:Keyed->Prop}
variable {a0:Array Keyed}{lo:Nat}{C:Array (Nat×Nat×Nat)}{B:Nat}{st:qb9}
set_option maxHeartbeats 1000000 in
theorem BS (K:Cm prog w A s u O rk S) (J:∀ x∈a0.toList,S x) {n ok:Nat}{Q:Bool->qb9->Prop} (P:SB u a0 lo C B st) (t:1<=ok) (hok:ok<=n) (T:lo+n<=a0.size) (L:Up rk (arrOf st) lo ok)
  (h:∀ a,SB u a0 lo C B a->Up rk (arrOf a) lo n->Q true a):wpS (model prog w) A E s (Eu lo n ok) Q st:=by
 refine qbw (qif (qet (I:=λk c a=>c=(none,())/\SB u a0 lo C B a/\Up rk (arrOf a) lo (min k n)) (Q:=λc a=>c=(none,())/\SB u a0 lo C B a/\Up rk (arrOf a) lo n) ?_ ?_ ?_) ?_)
 ·rintro k c a W N ⟨rfl,d,o⟩
  dsimp only
  refine qbw (qif (qet (I:=λx c b=>b=a/\∃ l r,c=(none,l,r)/\l<=r/\r<=k/\r - l<=k - x/\(∀ i,i < l->O.kle (rk (kyd (arrOf a) (lo+i))) (rk (kyd (arrOf a) (lo+k))))/\
    ∀ i,r<=i->i<k->O.klt (rk (kyd (arrOf a) (lo+k))) (rk (kyd (arrOf a) (lo+i))))
   (Q:=λc b=>b=a/\∃ l r,c=(none,l,r)/\l<=k/\(∀ i,i<l->O.kle (rk (kyd (arrOf a) (lo+i))) (rk (kyd (arrOf a) (lo+k))))/\∀ i,l<=i->i<k->O.klt (rk (kyd (arrOf a) (lo+k))) (rk (kyd (arrOf a) (lo+i)))) ?_ ?_ ?_) ?_)
  ·rintro x c b _ R ⟨rfl,l,r,rfl,D,p,G,f,g⟩
   dsimp only;by_cases y:l>=r
   ·refine lY y ?_
    have e:l=r:=by lia
    subst e;exact qcm ⟨U,l,l,U,p,f,g⟩
   ·refine qe y ?_
    refine qbw (yA K J d (by lia) (by lia) ?_);cases hl:O.blt (rk (kyd (arrOf b) (lo+k))) _ with
    |true=>exact qcm ⟨U,l,(l+r) / 2,U,by lia,by lia,by lia,f,λi t F=>KeyOrd.klt_of_klt_of_kle hl (o _ _ (by lia) (by lia) (by lia))⟩
    |false=>exact qcm ⟨U,(l+r) / 2+1,r,U,by lia,by lia,by lia,λi t=>qdR (o (lo+i) (lo+(l+r) / 2) (by lia) (by lia) (by lia)) hl,g⟩
  ·rintro c b ⟨rfl,l,r,rfl,D,p,G,f,g⟩
   have e:l=r:=by lia
   subst e;exact⟨U,l,l,U,p,f,g⟩
  ·exact⟨U,0,k,U,by lia,by lia,by lia,λi hi=>by lia,λi t F=>by lia⟩
  ·rintro c b ⟨rfl,l,r,rfl,H,f,g⟩
   dsimp only;refine qbw (m:=moveDown' (lo+k) (lo+l)) ?_;rw[moveDown'_eq];have q:lo+k<(arrOf b).size:=by rw[d.size];lia
   refine qgY (qcm ⟨U,d.set (bubble_perm _ _ _) λi hi=>?_,?_⟩)
   ·rw[qjS q _ (by lia),iFN (by lia),iFN (by lia)]
   ·intro i j hi M V
    rw[n6 q (by lia),n6 q (by lia),show lo+k - (lo+k - (lo+l))=lo+l by lia];have z:∀ i,lo<=i->i<lo+l->O.kle (rk (kyd (arrOf b) i)) (rk (kyd (arrOf b) (lo+k))):=λi t F=>by
     have:=f (i - lo) (by lia);rwa [show lo+(i - lo)=i by lia]at this
    have v:∀ i,lo+l<=i->i<lo+k->O.klt (rk (kyd (arrOf b) (lo+k))) (rk (kyd (arrOf b) i)):=λi t F=>by
     have:=g (i - lo) (by lia) (by lia);rwa [show lo+(i - lo)=i by lia]at this
    repeat' split
    all_goals first
     |(exfalso;lia)
     |exact qc6 _
     |exact z _ (by lia) (by lia)
     |exact qdE (v _ (by lia) (by lia))
     |exact o _ _ (by lia) (by lia) (by lia)
 ·rintro c a ⟨rfl,d,o⟩
  rw[show min (max (max ok 1) n) n=n by lia]at o;exact⟨U,d,o⟩
 ·rw[show max ok 1=ok by lia,show min ok n=ok by lia]
  exact⟨U,P,L⟩
 ·rintro c a ⟨rfl,d,o⟩
  exact qcm (h a d o)
end
section
variable {O:qfy}{rk:Keyed->O.α}
variable {a b c:Array Keyed}{e d:Nat}
variable {na f:Nat}
end
section
variable {prog:qaR}{w:World}{A:qaZ}{E:Value->qam->Prop}{s:qam}{c:qdy}{O:qfy}{rk:Keyed->O.α}{S:Keyed->Prop}{st:qb9}{a b:Array Keyed}
end
section
variable {prog:qaR}{w:World}{A:qaZ}{E:Value->qam->Prop}{s:qam}{d:qdy}{O:qfy}{rk:Keyed->O.α}{S:Keyed->Prop}{st:qb9}{a b c:Array Keyed}{na e:Nat}
end
section
variable {prog:qaR}{w:World}{A:qaZ}{E:Value->qam->Prop}{s:qam}{m:qdy}{O:qfy}{rk:Keyed->O.α}{S:Keyed->Prop}{st:qb9}{g:Array Keyed}{k l:Nat}
theorem HB {a:Array Keyed} (h:Up rk a 0 a.size):a.toList.Pairwise λx y=>O.kle (rk x) (rk y):=by
 rw[List.pairwise_iff_getElem];intro i j hi e f;have b:=by simpa using hi
 have c:=by simpa using e
 have q:=h i j (qcc _) (by lia) (by lia);have d:=n5 b;have e2:=n5 c;rw[qbx b]at d;rw[qbx c]at e2;rw[<-qaQ d,<-qaQ e2]at q;simpa using q
end
section
variable {prog:qaR}{w:World}{A:qaZ}{E:Value->qam->Prop}{s:qam}{κ:qdy}{O:qfy}{rk:Keyed->O.α}{S:Keyed->Prop}{st:qb9}{a0:Array Keyed}
structure En (κ:qdy) (O:qfy) (rk:Keyed->O.α) (a0:Array Keyed) (n1:Nat) (st:qb9):Prop where
 perm:(arrOf st).Perm a0
 kind:kindOf st=κ
 fail:qhg st=none
 pend:qff st=#[(0,n1,0)]
 up:Up rk (arrOf st) 0 n1
theorem GP {n:Nat} (C:2<=n) (l:n<64):minRun' n n 0=n:=by
 obtain⟨f,rfl⟩:∃ f,n=f+1:=⟨n - 1,by lia⟩;rw[minRun'_succ,iFP (by lia)]
set_option maxHeartbeats 2000000 in
theorem DL (B:Cm prog w A s κ O rk S) {Q:Unit->qb9->Prop} (K:kindOf st=κ) (J:qhg st=none) (D:qff st=#[]) (r:arrOf st=a0) (z:∀ x∈a0.toList,S x) (C:2<=a0.size) (l:a0.size<64)
  (h:∀ a,(arrOf a).toList.Perm a0.toList->(arrOf a).toList.Pairwise (λx y=>O.kle (rk x) (rk y))->qhg a=none->Q () a):wpS (model prog w) A E s sortRuns' Q st:=by
 obtain⟨o,p,M⟩:∃ o,(sortPriv% PySem.Builtin.minRun) a0.size a0.size 0=o/\o=a0.size:=⟨_,U,GP C l⟩;refine qbw (qha ?_);have F:(arrOf st).size=a0.size:=by rw[r]
 dsimp only;rw[F,p]
 refine qbw (qif (qet (I:=λx c a=>(x=0/\c=(none,0)/\SB κ a0 0 #[] (qij st) a)\/(c=(none,a0.size)/\En κ O rk a0 a0.size a/\1<=x))
  (Q:=λc a=>c.1=none/\En κ O rk a0 a0.size a) ?_ ?_ ?_) ?_)
 ·rintro x c a _ G H
  rcases H with⟨rfl,rfl,L⟩|⟨rfl,g,v⟩
  ·refine qe (by lia) ?_
   refine qbw (DI B z L (by lia) (by lia) λm b j N m2 u=>?_);have put:∀ n d,SB κ a0 0 #[] (qij st) d->Up rk _ 0 n->n=a0.size->
     En κ O rk a0 a0.size (qiF _ _ ((qff d).push (0,n,0)) (qij d) _):=λn d e t i=>
    ⟨e.perm,e.kind,e.fail,by rw[e.pend,i];rfl,by rw[<-i];exact t⟩
   by_cases k:m<o
   ·refine lY k ?_
    refine qbw (yC (qbw (BS B z j N (by lia) (by lia) u λd e t=>?_)));have i:min (a0.size - 0) o=a0.size:=by lia
    refine qbw (qha ?_);have hb:(qff d).back?=none:=by rw[e.pend];rfl
    rw[hb];exact qbw (qgY (qcm (.inr ⟨by rw[qa0,i],(put _ d e t i),by lia⟩)))
   ·refine qe k ?_
    have i:m=a0.size:=by lia
    refine qbw (qha ?_);have hb:(qff b).back?=none:=by rw[j.pend];rfl
    rw[hb];exact qbw (qgY (qcm (.inr ⟨by rw[qa0,i],(put m b j u i),by lia⟩)))
  ·refine lY (qap _) ?_
   exact qcm ⟨U,g⟩
 ·rintro c a (⟨G,_⟩|⟨rfl,g,v⟩)
  ·lia
  ·exact⟨U,g⟩
 ·exact .inl ⟨U,U,by rw[r],λ_ _=>by rw[r],K,J,D,U⟩
 ·rintro⟨c1,c2⟩ a ⟨rfl,g⟩
  refine qbw (qif (qet (I:=λy c b=>c=(none,())/\b=a) (Q:=λc b=>c=(none,())/\b=a) ?_ ?_ ?_) ?_)
  ·rintro y c b _ P ⟨rfl,rfl⟩
   refine qbw (qha ?_);have q:(qff b).size<=1:=by rw[g.pend];exact qap 1
   refine lY q ?_;exact qcm ⟨U,U⟩
  ·rintro c b ⟨rfl,rfl⟩
   exact⟨U,U⟩
  ·exact⟨U,U⟩
  ·rintro c b ⟨rfl,rfl⟩
   exact qcm (h _ (qf2.mp g.perm) (HB (by rw[g.perm.size_eq];exact g.up)) g.fail)
end
end L2
namespace L2
open PySem PySem.Spec PyProof.Rows PySem.SeqAt
open MeetsSeq MeetsSeq2 MeetsSeq3 SeqRoads2
open AutoSeq1 (wpAny_loadPart')
def o9 (A:qaZ) (s:qam) (y x:Value) (b:Bool):Prop:=∀ (prog:qaR) (w:World) (E:Value->qam->Prop) (Q:Value->qam->Prop),Q (.bool b) s->wpAny (model prog w) A (richCompare .Lt y x) Q E s
def oi (e l:Nat->Bool) (fin:Bool):Nat->Nat->Bool
 |0,_=>fin
 |k+1,i=>if e i=true then oi e l fin k (i+1) else l i
theorem oU (p q:Addr) (a c:Array Value) (n N:Nat) (S D:Option Addr) (M E:Array (Option Value)) (e l:Nat->Bool) :
  Meets (qfG.«tuple.__lt__» ⟨[.ref p,.ref q],[]⟩)
   (λA R s=>(s.heap.get? p=some ⟨.type "tuple",S,.seq a n,M⟩/\s.heap.get? q=some ⟨.type "tuple",D,.seq c N,E⟩)/\
     (∀ j (H:j<a.size) (L:j<c.size),EqAt A.in1 s a[j] c[j] (e j)/\(e j=false->o9 A.in1 s a[j] c[j] (l j)))/\
     R (.ok (.ret (.bool (oi e l (decide (a.size<c.size)) (min a.size c.size) 0)))) s):=
 .of_wp λprog w A R s h=>by
  obtain⟨C,g,d,F,os⟩:=s;obtain⟨⟨H,L⟩,J,h⟩:=h;have V:=AutoSeq1.sub_tuple_tuple;have G:(a.toList.zip c.toList).length=min a.size c.size:=by simp
  wp_walk using wpAny_loadPart' H,wpAny_loadPart' L,wpAny_forIn_list _ (λm b s'=>b.1=none/\s'=⟨C,g,d,F,os⟩/\∃ i,i<=min a.size c.size/\m=(a.toList.zip c.toList).drop i/\
   R (.ok (.ret (.bool (oi e l (decide (a.size<c.size)) (min a.size c.size - i) i)))) ⟨C,g,d,F,os⟩) _
  case turn=>
   rintro⟨y,x⟩ m b s' ⟨t,rfl,i,hi,o,B⟩
   have z:i<(a.toList.zip c.toList).length:=by
    rcases qfI i (a.toList.zip c.toList).length with h'|h'
    ·exact h'
    ·rw[List.drop_of_length_le h']at o;cases o
   rw[G]at z;have K:i<a.size:=by lia
   have I:i<c.size:=by lia
   rw[qcE (by rw[G];exact z)]at o;injection o with u r;have v:y=a[i]:=by have:=congrArg qcA u;simpa using this
   have O:x=c[i]:=by have:=congrArg qdA u;simpa using this
   subst v O;obtain⟨k,P⟩:∃ k,min a.size c.size - i=k+1:=⟨min a.size c.size - i - 1,by lia⟩;rw[P]at B;have f:R (.ok (.ret (.bool (if e i=true then oi e l (decide (a.size<c.size)) k (i+1) else l i)))) ⟨C,g,d,F,os⟩:=B;refine qac ((J i K I).1 prog w _ _ ?_);cases v:e i with
   |true=>
    rw[v,iFP U]at f
    wp_walk
    exact⟨U,U,i+1,by lia,r,by rw[show min a.size c.size - (i+1)=k by lia];exact f⟩
   |false=>
    rw[v,iFN (by simp)]at f;simp only[Bool.not_false,if_true];refine qac (qdV ?_);refine qac ((J i K I).2 v prog w _ _ ?_)
    wp_walk
    exact⟨_,U,f⟩
  case fin=>
   rintro⟨W,T⟩ s' ⟨t,rfl,i,hi,o,B⟩
   simp only at t
   subst t;have Q:min a.size c.size<=i:=by
    rcases qfI i (a.toList.zip c.toList).length with h'|h'
    ·rw[qcE h']at o;cases o
    ·rw[G]at h';exact h'
   rw[show min a.size c.size - i=0 by lia]at B
   wp_walk
   exact⟨_,U,by simpa [qiR,oi] using B⟩
  case h=>exact⟨U,U,0,qcc _,U,h⟩
section
variable {A:qaZ}{s:qam}{p q:Addr}{a b:Array Value}{e l:Nat->Bool}
theorem o9.tuples (r:s.heap.IsTuple p a) (hb:s.heap.IsTuple q b) (o:A.units<cLine) (t:∀ j (B:j<a.size) (C:j<b.size),EqAt A.in1 s a[j] b[j] (e j)/\(e j=false->o9 A.in1 s a[j] b[j] (l j))) :
  o9 A s (.ref p) (.ref q) (oi e l (decide (a.size<b.size)) (min a.size b.size) 0):=λprog w E Q h=>by
 obtain⟨⟨cls,v,data,u⟩,m,y,n,hd⟩:=id r;obtain⟨⟨k,d,data2,g⟩,c,i,z,f⟩:=id hb;subst y hd i f;exact richCompare_meets_room ⟨_,m,U⟩ ⟨_,c,U⟩ qez qgj (qf8 _ _) (oU p q a b n z v d u g e l)
  ⟨⟨m,c⟩,t,(λx=>nomatch x),h⟩ o
end
end L2
namespace L2
open PySem PySem.Spec PyProof.Rows PySem.SeqAt PySem.W
def bT:List Int->List Int->Bool
 |[],[]=>false
 |[],_::_=>true
 |_::_,[]=>false
 |a::as,b::bs=>if a=b then bT as bs else decide (a<b)
theorem ut:∀ a,bT a a=false
 |[]=>rfl
 |a::as=>by unfold bT;rw[iFP U];exact ut as
theorem kz:∀ a b,bT a b=false->bT b a=false->a=b
 |[],[],_,_=>rfl
 |[],_::_,h,_=>by cases h
 |_::_,[],_,h=>by cases h
 |a::as,b::bs,h,h'=>by
  unfold bT at h h';by_cases e:a=b
  ·subst e
   rw[iFP U]at h h';rw[kz as bs h h']
  ·lia
theorem rE:∀ a b c,bT a b=true->bT b c=true->bT a c=true
 |[],[],_,h,_=>by cases h
 |[],_::_,[],_,h=>by cases h
 |[],_::_,_::_,_,_=>rfl
 |_::_,[],_,h,_=>by cases h
 |_::_,_::_,[],_,h=>by cases h
 |a::as,b::bs,c::d,h,h'=>by
  unfold bT at h h' ⊢;by_cases e:a=b
  ·subst e
   rw[iFP U]at h;by_cases e2:a=c
   ·subst e2;rw[iFP U]at h' ⊢;exact rE as bs d h h'
   ·rw[iFN e2]at h' ⊢;exact h'
  ·rw[iFN e,decide_eq_true_iff]at h
   by_cases e2:b=c
   ·subst e2;rw[iFN e,decide_eq_true_iff];exact h
   ·lia
theorem Av:∀ a b c,bT a c=true->bT a b=true\/bT b c=true
 |a,b,c,h=>by
  by_cases d:bT a b=true
  ·exact .inl d
  ·rw[qeF]at d
   by_cases e:bT b a=true
   ·exact .inr (rE b a c e h)
   ·rw[qeF]at e
    rw[kz a b d e]at h;exact .inr h
def OI:qfy:=⟨List Int,bT,ut,rE,Av,kz⟩
def TuI (h:Heap) (v:Value) (l:List Int):Prop:=∃ a b,v=.ref a/\h.IsTuple a b/\qcF b.toList l
def cz:Value->Int
 |.int n _=>n
 |_=>0
def tuI (h:Heap):Value->List Int
 |.ref a=>match h.get? a with
  |some o=>match o.data with
   |.seq b _=>b.toList.map cz
   |_=>[]
  |none=>[]
 |_=>[]
theorem nZ:∀ {a:List Value}{l:List Int},qcF a l->a.map cz=l
 |_,_,.nil=>rfl
 |_,_,.cons n t h=>by rw[qas,nZ h];rfl
theorem cZ:∀ {a:List Value}{l:List Int},qcF a l->a.length=l.length
 |_,_,.nil=>rfl
 |_,_,.cons n t h=>by rw[qar,qar,cZ h]
theorem gT:∀ {a:List Value}{l:List Int},qcF a l->∀ (j:Nat) (h:j<a.length),∃ t,a[j]=.int (l.getD j 0) t
 |_,_,.nil,j,h=>absurd h (qcu j)
 |_,_,.cons n t b,0,h=>⟨t,U⟩
 |_,_,.cons n t b,j+1,h=>by
  obtain⟨t',e⟩:=gT b j _;exact⟨t',by simpa using e⟩
theorem TuI.is {h:Heap}{v:Value}{l:List Int} (t:TuI h v l):tuI h v=l:=by
 obtain⟨a,b,rfl,⟨o,c,d,n,hd⟩,hi⟩:=t;simp only[tuI,c,hd];exact nZ hi
theorem TuI.fit {h h':Heap}{v:Value}{l:List Int} (t:TuI h v l) (e:∀ b o,h.get? b=some o->h'.get? b=some o):TuI h' v l:=by
 obtain⟨a,c,rfl,⟨o,d,r⟩,hi⟩:=t;exact⟨a,c,U,⟨o,e _ _ d,r⟩,hi⟩
theorem oj:∀ (l m:List Int) (i:Nat) (e f:Nat->Bool),(∀ j,j<l.length->j<m.length->e (i+j)=decide (l.getD j 0=m.getD j 0)/\f (i+j)=decide (l.getD j 0<m.getD j 0))->
  oi e f (decide (l.length<m.length)) (min l.length m.length) i=bT l m
 |[],[],i,e,f,_=>by simp[oi,bT]
 |[],b::m,i,e,f,_=>by simp[oi,bT]
 |a::l,[],i,e,f,_=>by simp[oi,bT]
 |a::l,b::m,i,e,f,h=>by
  have c:=h 0 (by simp) (by simp);rw[qar,qar,show min _ _=min l.length m.length+1 by lia];have d:decide (l.length+1<m.length+1)=decide (l.length<m.length):=by simp
  rw[d];show (if e i=true then oi e f _ _ _ else f i)=if a=b then bT l m else decide _;rw[qjG]at c;rw[c.1,c.2];by_cases q:a=b
  ·subst q
   simp only[qaB,decide_true,if_true];exact oj l m _ e f λj g k=>by
    have:=h (j+1) (by simpa using g) (by simpa using k)
    rw[show i+1+j=i+(j+1) by lia];simpa using this
  ·simp[q]
section
variable {prog:qaR}{w:World}{A:qaZ}{E:Value->qam->Prop}{s:qam}{x y:Value}{l m:List Int}
theorem o9.ints {a b:Int}{t u:Tok}:o9 A s (.int a t) (.int b u) (decide (a<b)):=λprog w E Q h=>qev h
theorem EqAt.ints {a b:Int}{t u:Tok}:EqAt A s (.int a t) (.int b u) (decide (a=b)):=by
 exact (vA (A:=A) (s:=s) (y:=.int a) (x:=.int b) ⟨t,U⟩ ⟨u,U⟩ U U)
theorem TuI.lt (B:TuI s.heap x l) (ty:TuI s.heap y m) (K:A.units<cLine):o9 A s x y (bT l m):=by
 obtain⟨a,d,rfl,C,k⟩:=B;obtain⟨b,f,rfl,I,g⟩:=ty;have H:d.size=l.length:=by exact cZ k
 have e2:f.size=m.length:=by exact cZ g
 have z:=o9.tuples C I K λj T S=>by
  obtain⟨t,G⟩:=gT k j _;obtain⟨t',F⟩:=gT g j _;rw[qdU]at G F;rw[G,F];exact⟨EqAt.ints,λ_=>o9.ints⟩
 rw[H,e2,oj l m 0 _ _ λj C I=>by rw[qa0];exact⟨U,U⟩]at z;exact z
theorem TuI.one (B:TuI s.heap x l) (ty:TuI s.heap y m) (K:A.units<cLine) {Q:Bool->qam->Prop} (h:Q (bT l m) s) (b:Bool):wpAny (model prog w) A (oneLt' b x y) Q E s:=by
 cases b with
 |false=>exact kat_one _ _ (B.lt ty K _ _ _ _ h)
 |true=>
  refine qac (wpAny_cRoomFor K ?_);obtain⟨a,d,rfl,C,k⟩:=id B;obtain⟨c,f,rfl,I,g⟩:=id ty;obtain⟨⟨cls,V,data,R⟩,J,P,n,hd⟩:=id C;obtain⟨⟨N,L,data2,M⟩,q,D,O,p⟩:=id I;subst P hd D p;have H:d.size=l.length:=by exact cZ k
  have e2:f.size=m.length:=by exact cZ g
  refine qac (wpAny_callSpecialIfBound?_slot ⟨_,J,U⟩ qez (qc9 qez ⟨_,J,U⟩ qgj (qf8 _ _)
   (oU a c d f n O V L R M (λj=>decide (l.getD j 0=m.getD j 0)) λj=>decide (l.getD j 0<m.getD j 0)) ⟨⟨J,q⟩,λj T S=>?_,?_⟩))
  ·obtain⟨t,G⟩:=gT k j _
   obtain⟨t',F⟩:=gT g j _;rw[qdU]at G F;rw[G,F];exact⟨EqAt.ints,λ_=>o9.ints⟩
  ·rw[H,e2,oj l m 0 _ _ λj C I=>by rw[qa0];exact⟨U,U⟩]
   exact qcw h
theorem Aw {Q:Bool->qam->Prop}{fin:Bool}:∀ {d f:List Value}{l m:List Int} (i:Nat),qcF d l->qcF f m->(fin=decide (l.length<m.length))->Q (bT l m) s->KatLex prog w A true fin Q (d.zip f) i s
 |_,_,_,_,i,.nil,.nil,v,h=>kat_nil (by rw[v];exact h)
 |_,_,_,_,i,.nil,.cons n t r,v,h=>kat_nil (by rw[v];simpa [bT] using h)
 |_,_,_,_,i,.cons n t r,.nil,v,h=>kat_nil (by rw[v];simpa [bT] using h)
 |_,_,_,_,i,.cons a t r,.cons b u W,v,h=>by
  refine kat_cons (EqAt.ints prog w _ _ ?_);unfold bT at h;by_cases e:a=b
  ·subst e
   rw[iFP U]at h;rw[decide_eq_true U];exact kat_yes (Aw _ r W (by rw[v];simp) h)
  ·rw[iFN e]at h
   rw[decide_eq_false e];refine kat_no ?_;cases (true&&i==0) with
   |true=>exact oneLt_int h
   |false=>exact kat_one _ _ (qev h)
theorem TuI.tups (B:TuI s.heap x l) (ty:TuI s.heap y m) {Q:Bool->qam->Prop} (h:Q (bT l m) s):wpAny (model prog w) A (keyLt' (tuples' true) x y) Q E s:=by
 obtain⟨a,d,rfl,⟨o,J,P,n,hd⟩,k⟩:=B;obtain⟨c,f,rfl,⟨X,q,D,O,p⟩,g⟩:=ty;have H:d.size=l.length:=by exact cZ k
 have e2:f.size=m.length:=by exact cZ g
 exact kat_lt J hd q p (Aw 0 k g (by rw[H,e2]) h)
end
section
variable {prog:qaR}{w:World}{A:qaZ}{E:Value->qam->Prop}{s:qam}{O:qfy}{rk:Keyed->O.α}{S:Keyed->Prop}{c:List Value}
theorem vg:∀ (c:List Value),c.zip c=c.map λv=>(v,v)
 |[]=>rfl
 |v::c=>by rw[qea,vg c];rfl
theorem FF {α M:Type}{f:α->M}{R:M->M->Prop}:∀ {c:List α},c.toArray.size<2->(c.map f).Pairwise R
 |[],_=>List.Pairwise.nil
 |[v],_=>qgw _ _
 |_::_::_,h=>absurd h (by simp)
set_option maxHeartbeats 1000000 in
theorem pW {a:Addr}{n:Nat}{P:PySem.Fin->qam->Prop} (G:s.heap.get? a=some (qfR "list" c.toArray n)) (z:c.length<64)
  (m:∀ h',(∀ b o,b≠a->s.heap.get? b=some o->h'.get? b=some o)->∃ r,(2<=c.length->∀ (Q':qdy->qam->Prop) E',Q' r { s with heap:=h' }->wpAny (model prog w) A (qii c.toArray) Q' E' { s with heap:=h' })/\Cm prog w A { s with heap:=h' } r O rk S)
  (H:∀ v∈c,S (v,v))
  (h:∀ d:List Value,d.Perm c->d.Pairwise (λx y=>O.kle (rk (x,x)) (rk (y,y)))->P (.done (.ret .none)) { s with heap:=sortedHeap s.heap a c d.toArray }) :
  wpAny (model prog w) A (qfG.«list.sort» ⟨[.ref a],[]⟩) P E s:=by
 rw[list_sort_plain];have J:c.toArray.size=c.length:=by simp
 refine qac (listItems_at G U ?_);refine qac (qhf G U ?_ (by rw[J,qdj];lia));obtain⟨V,t⟩:∃ V,(s.heap.update a (qcX λ_=>#[])).get? a=some (qfR "list" #[] V):=⟨_,get?_update_seq G (λ_=>#[])⟩
 refine qac (qh1 t U ?_);refine qac (qj0 ?_ (by rw[qdj];show c.toArray.toList.length<=_;simp;lia));refine qac (qfQ ?_);refine qb5 ?_;have T:(s.heap.update a (qcX λ_=>(#[]:Array Value))).objs.size=s.heap.objs.size:=qhQ ..;have i:∀ b o,b<s.heap.objs.size->(s.heap.update a (qcX λ_=>(#[]:Array Value))).get? b=some o->
   (((s.heap.update a (qcX λ_=>#[])).push (qfR "tuple" c.toArray 0)).push (qfR "list" #[] 0)).get? b=some o:=λb o hb q=>by
  rw[qdI _ _ _ (qaD (by rw[qiB,T];exact qaY hb)),qdI _ _ _ (qaD (by rw[T];exact hb))];exact q
 have j:=i a _ (qaz G) t;obtain⟨r,N,hC⟩:=m _ λb o hb q=>
  i b o (qaz q) (by rw[qg8 _ _ _ _ hb];exact q)
 have pt:(c.toArray.zip c.toArray).toList=c.map λv=>(v,v):=by rw[<-vg];simp
 have fin:∀ g:qb9,(arrOf g).toList.Perm (c.map λv=>(v,v))->(arrOf g).toList.Pairwise (λx y=>O.kle (rk x) (rk y))->∃ d:List Value,d.length=c.length/\(arrOf g).map (·.2)=d.toArray/\P (.done (.ret .none)) { s with heap:=sortedHeap s.heap a c d.toArray }:=λg C p=>by
  refine⟨(arrOf g).toList.map (·.2),by rw[qaf,C.length_eq,qaf],by apply Array.toList_inj.mp;simp,h _ ?_ ?_⟩
  ·have:=C.map (·.2)
   rw[qaC]at this;have e:(c.map ((λx=>x.2) ∘ λv=>((v,v):Keyed)))=c:=by rw[show ((λx:Keyed=>x.2) ∘ λv=>((v,v):Keyed))=id from U,qe8]
   rw[e]at this;exact this
  ·rw[qcr]
   refine p.imp_of_mem λ{x y} F hy q=>?_;have dx:x=(x.2,x.2):=by obtain⟨v,_,rfl⟩:=qay.mp (C.mem_iff.mp F);rfl
   have dy:y=(y.2,y.2):=by obtain⟨v,_,rfl⟩:=qay.mp (C.mem_iff.mp hy);rfl
   rw[<-dx,<-dy];exact q
 dsimp only;by_cases p:c.toArray.size<2
 ·rw[iFP p,iFP p]
  refine qac (qaq ?_);rw[StateT.run_pure];refine qac (qaq ?_);dsimp only;obtain⟨d,q0,L,I⟩:=fin (qiF general' (c.toArray.zip c.toArray) #[] 7 none) (by rw[pt]) (by rw[pt];exact FF p);refine qac (qh1 j U ?_);rw[L];refine qac (qhf j U ?_);simp only[bne_self_eq_false,qa8,if_false];exact qaq I
 ·rw[iFN p,iFN p]
  refine qac (N (by lia) _ _ ?_)
  refine qac (qcJ (DL hC (a0:=c.toArray.zip c.toArray) (Q:=λ_ g=>(arrOf g).toList.Perm (c.map λv=>(v,v))/\(arrOf g).toList.Pairwise (λx y=>O.kle (rk x) (rk y))/\qhg g=none)
   rfl U U U (λx F=>?_) (by simp;lia) (by simp;lia) λg u a2 K=>⟨by rw[<-pt];exact u,a2,K⟩) ?_ λ_ _ e=>e)
  ·rw[pt]at F
   obtain⟨v,hv,rfl⟩:=qay.mp F;exact H v hv
  rintro⟨⟨⟩,g⟩ s' ⟨rfl,u,a2,K⟩
  dsimp only;obtain⟨d,q0,L,I⟩:=fin g u a2;refine qac (qh1 j U ?_);rw[L];refine qac (qhf j U ?_);rw[K];simp only[bne_self_eq_false,qa8,if_false];exact qaq I
theorem oN {l:Addr}{Q:Value->qam->Prop} (Y:s.heap.IsList l c.toArray) (z:c.length<64)
  (m:∀ h',(∀ b o,s.heap.get? b=some o->h'.get? b=some o)->∃ r,(2<=c.length->∀ (Q':qdy->qam->Prop) E',Q' r { s with heap:=h' }->wpAny (model prog w) A.in1.in1 (qii c.toArray) Q' E' { s with heap:=h' })/\Cm prog w A.in1.in1 { s with heap:=h' } r O rk S)
  (H:∀ v∈c,S (v,v))
  (h:∀ d:List Value,d.Perm c->d.Pairwise (λx y=>O.kle (rk (x,x)) (rk (y,y)))->Q (.ref (s.heap.objs.size+1)) { s with heap:=qjM s.heap c d.toArray }) :
  wpAny (model prog w) A (call (.builtin "sorted") [.ref l]) Q E s:=by
 refine qgf kind_sorted plain_sorted entry_sorted (args_sorted1 _) ?_;refine qac (qaq ?_);refine qac (collect_list Y ?_ (by rw[qdj];lia));refine qac (qfQ ?_ (by rw[qdj];lia));have D:((s.heap.push (qfR "list" #[] 0)).update s.heap.objs.size (qcX (·++c.toArray))).objs.size=s.heap.objs.size+1:=by rw[qhQ,qiB]
 generalize W:((s.heap.push _).update s.heap.objs.size _)=X at D ⊢;have B:(X.push (qfR "list" c.toArray 0)).get? (s.heap.objs.size+1)=some (qfR "list" c.toArray 0):=by
  rw[<-D];exact qau _ U
 have keep:∀ b o,s.heap.get? b=some o->b≠s.heap.objs.size+1/\(X.push (qfR "list" c.toArray 0)).get? b=some o:=λb o q=>by
  have k:=qaz q;refine⟨qaD (qaY k),?_⟩;rw[qdI _ _ _ (qaD (by rw[D];exact qaY k)),<-W,qg8 _ _ _ _ (qaD k),qdI _ _ _ (qaD k)];exact q
 rw[D];refine qac (qb5 (qb6 qj2 ⟨_,B,U⟩ qjT (pW B z (λh' hk=>m h' λb o q=>hk b o (keep b o q).1 (keep b o q).2) H λd u a2=>⟨_,U,?_⟩) (qj9 _)));refine qaq ⟨_,U,?_⟩
 have:=h d u a2
 unfold qjM at this;rw[W]at this;exact this
end
def nH (h:Heap):Value->Option Value
 |.ref a=>match h.get? a with
  |some o=>match o.data with
   |.seq b _=>b[0]?
   |_=>none
  |none=>none
 |_=>none
theorem TuI.fst {h:Heap}{v:Value}{l:List Int} (t:TuI h v l):nH h v=none\/∃ n t,nH h v=some (.int n t):=by
 obtain⟨a,b,rfl,⟨o,c,f,n,hd⟩,hi⟩:=t;simp only[nH,c,hd];by_cases d:0<b.size
 ·obtain⟨t,e⟩:=gT hi 0 _
  exact .inr ⟨_,t,by rw[qbx d];rw[qdU]at e;rw[e]⟩
 ·exact .inl (qdF (by lia))
section
variable {prog:qaR}{w:World}{A:qaZ}{E:Value->qam->Prop}{s:qam}
theorem yx {v:Value}{l:List Int} (t:TuI s.heap v l) {Q:Value->qam->Prop} (h:Q (.type "tuple") s):wpAny (model prog w) A (typeOf v) Q E s:=by
 obtain⟨a,G,rfl,⟨o,B,I,n,hd⟩,hi⟩:=t;refine Looks.here ((Looks.ld B).andThen .now) ?_;rw[I];exact h
theorem yT {v:Value}{l:List Int} (t:TuI s.heap v l) {Q:Option Value->qam->Prop} (h:Q (nH s.heap v) s):wpAny (model prog w) A (firstOfTuple' v) Q E s:=by
 refine qac (yx t ?_);obtain⟨a,G,rfl,⟨o,B,I,n,hd⟩,hi⟩:=t;simp only[nH,B,hd]at h;exact qac (listItems_at B hd (qaq h))
theorem gP:∀ {b:List Value}{Q:List (Option Value)->qam->Prop},(∀ v∈b,∃ l,TuI s.heap v l)->Q (b.map (nH s.heap)) s->wpAny (model prog w) A (b.mapM firstOfTuple') Q E s
 |[],_,_,h=>by exact qaq h
 |v::b,Q,t,h=>by
  rw[List.mapM_cons];obtain⟨l,F⟩:=t v qag;refine qac (yT F (qac (gP (λu i=>t u (qak _ i)) (qaq h))))
theorem vo {x y:Value}{l m:List Int} (c:TuI s.heap x l) (d:TuI s.heap y m) {Q:Bool->qam->Prop} (h:Q (OI.blt (tuI s.heap x) (tuI s.heap y)) s):Q (bT l m) s:=by
 have h':=h;rw[c.is,d.is]at h';exact h'
theorem um {b:List Value} (t:∀ v∈b,∃ l,TuI s.heap v l) (i:A.units<cLine):∃ H,(2<=b.length->∀ (Q':qdy->qam->Prop) E',Q' H s->wpAny (model prog w) A (qii b.toArray) Q' E' s)/\
  Cm prog w A s H OI (λp=>tuI s.heap p.1) (λp=>∃ l,TuI s.heap p.1 l):=by
 by_cases c1:(b.map (nH s.heap)).toArray.all (·.isSome)=true
 ·refine⟨_,λC Q' E' j=>?_,λx y ⟨l,c⟩ ⟨m,d⟩ Q E h=>c.tups d (vo c d h)⟩
  rw[qh2,qdH];refine qac (qac (gP t (qaq ?_)));rw[iFP c1];refine qac (qdV ?_);have K:∀ v∈(b.map (nH s.heap)).filterMap id,∃ n t,v=.int n t:=λv z=>by
   obtain⟨o,B,e⟩:=qfo.mp z;obtain⟨u,i,rfl⟩:=qay.mp B;obtain⟨l,L⟩:=t u i;rcases L.fst with q|⟨n,t',q⟩
   ·rw[q]at e;cases e
   ·rw[q]at e;exact⟨n,t',(qaQ e).symm⟩
  have J:∃ f fr,(b.map (nH s.heap)).filterMap id=f::fr:=by
   match b,C,c1 with
   |v::b,_,c1=>
    simp only[qas,qfK,qbD,qbg]at c1;obtain⟨u,i⟩:=qcL.mp c1.1;exact⟨u,_,by rw[qas,i];rfl⟩
  obtain⟨f,fr,e⟩:=J;have e2:(b.map (nH s.heap)).toArray.filterMap id=(f::fr).toArray:=by rw[<-e];simp
  rw[e2,qjP,qdH];refine qac (qac (qac (kas_mapM (r:=.type "int") _ (λv z Q'' k=>?_) (qaq ?_))))
  ·rw[<-e]at z
   obtain⟨n,t',rfl⟩:=K v z;exact qaq k
  ·have D:(qgx (λ_=>Value.type "int") (f::fr)).toArray[0]?=some (.type "int"):=by simp
   rw[D];have g:((qgx (λ_=>Value.type "int") (f::fr)).toArray.all λx=>x==.type "int")=true:=by
    simp only[qfK,qfD,qa6];intro _ _;rfl
   simp only[g,if_true];exact qaq (qaq j)
 ·by_cases c2:((b.map (nH s.heap)).toArray[0]?.bind id).isSome=true
  ·refine⟨general',λC Q' E' j=>?_,λx y ⟨l,c⟩ ⟨m,d⟩ Q E h=>c.one d i (vo c d h) false⟩
   rw[qh2,qdH];refine qac (qac (gP t (qaq ?_)));rw[iFN c1,iFP c2];exact qaq j
  ·refine⟨qih,λC Q' E' j=>?_,λx y ⟨l,c⟩ ⟨m,d⟩ Q E h=>c.one d i (vo c d h) true⟩
   rw[qh2,qdH];refine qac (qac (gP t (qaq ?_)));rw[iFN c1,iFN c2,qjP,qdH];refine qac (qac (qac (kas_mapM (r:=.type "tuple") _ (λv z Q'' k=>?_) (qaq ?_))))
   ·obtain⟨l,F⟩:=t v z
    exact yx F k
   ·obtain⟨v,b,rfl⟩:∃ v r,b=v::r:=by
     match b,C with
     |v::r,_=>exact⟨v,r,U⟩
    have D:(qgx (λ_=>Value.type "tuple") (v::b)).toArray[0]?=some (.type "tuple"):=by simp
    rw[D];have g:((qgx (λ_=>Value.type "tuple") (v::b)).toArray.all λx=>x==.type "tuple")=true:=by
     simp only[qfK,qfD,qa6];intro _ _;rfl
    simp only[g,if_true];exact qaq (qaq j)
theorem Ao {b:List Value}{ns:List Int} (t:qcF b ns):(2<=b.length->∀ (Q':qdy->qam->Prop) E',Q' qih s->wpAny (model prog w) A (qii b.toArray) Q' E' s)/\
  Cm prog w A s qih OI (λp=>[cz p.1]) (λp=>∃ n t,p.1=.int n t):=by
 refine⟨λC Q' E' j=>?_,λx y ⟨n,t,c⟩ ⟨m,u,d⟩ Q E h=>?_⟩
 ·match b,C,t with
  |v1::M::r,_,t=>rw[keyKind_ints t];exact qaq j
 ·rw[c,d]
  refine oneLt_int ?_;have e:OI.blt [cz x.1] [cz y.1]=decide (n<m):=by
   rw[c,d];show (if n=m then bT [] [] else decide (n<m))=_;by_cases q:n=m
   ·subst q;simp[bT]
   ·rw[iFN q]
  rw[e]at h;exact h
end
def vG (x:List Int):List (List Int)->List (List Int)
 |[]=>[x]
 |y::a=>if bT y x=true then y::vG x a else x::y::a
def aD:List (List Int)->List (List Int)
 |[]=>[]
 |x::xs=>vG x (aD xs)
theorem lv (x:List Int):∀ a,(vG x a).Perm (x::a)
 |[]=>qcR _
 |y::a=>by
  unfold vG;split
  ·exact (List.Perm.cons y (lv x a)).trans (List.Perm.swap x y a)
  ·exact qcR _
theorem aB:∀ xs,(aD xs).Perm xs
 |[]=>qcR _
 |x::xs=>(lv x _).trans (List.Perm.cons x (aB xs))
def leL (a b:List Int):Prop:=bT b a=false
theorem zb {a b c:List Int} (h:leL a b) (h':leL b c):leL a c:=qdR (O:=OI) h h'
theorem As {a b:List Int} (h:leL a b) (h':leL b a):a=b:=kz a b h' h
theorem lQ (x:List Int):∀ {c:List (List Int)},c.Pairwise leL->(vG x c).Pairwise leL
 |[],_=>by simp[vG]
 |y::c,h=>by
  unfold vG;split
  ·rename_i a
   refine qbi.mpr ⟨λz b=>?_,lQ x (qbi.mp h).2⟩;rcases qaA.mp ((lv x c).mem_iff.mp b) with rfl|b
   ·exact KeyOrd.klt_asymm (O:=OI) a
   ·exact (qbi.mp h).1 z b
  ·rename_i a
   rw[qeF]at a;refine qbi.mpr ⟨λz b=>?_,h⟩;rcases qaA.mp b with rfl|b
   ·exact a
   ·exact zb a ((qbi.mp h).1 z b)
theorem fX:∀ xs,(aD xs).Pairwise leL
 |[]=>List.Pairwise.nil
 |x::xs=>lQ x (fX xs)
theorem kP {xs e:List (List Int)} (p:xs.Perm e) (c:xs.Pairwise leL) (d:e.Pairwise leL):xs=e:=
 qfL (λa b _ _ c d=>As c d) c d p
def lE:List D->Option (List (List Int))
 |[]=>some []
 |.tup l::ds=>(aW l).bind λns=>(lE ds).map λr=>ns::r
 |_=>none
def au (l:List Int):D:=.tup (l.map D.int)
theorem lX:∀ {ds:List D}{ls:List (List Int)},lE ds=some ls->ds=ls.map au
 |[],_,h=>by cases h;rfl
 |.tup l::ds,_,h=>by
  simp only[lE,qab,qad]at h;obtain⟨ns,a,r,e2,rfl⟩:=h;rw[lX e2,ce a];rfl
 |.non::_,_,h=>by cases h
 |.bl _::_,_,h=>by cases h
 |.int _::_,_,h=>by cases h
 |.str _::_,_,h=>by cases h
 |.ty _::_,_,h=>by cases h
 |.dct::_,_,h=>by cases h
 |.scr _::_,_,h=>by cases h
 |.lst _::_,_,h=>by cases h
theorem oV:∀ (ls:List (List Int)),lE (ls.map au)=some ls
 |[]=>rfl
 |l::ls=>by
  have:aW (l.map D.int)=some l:=by
   induction l with
   |nil=>rfl
   |cons a l b=>simp[aW,b]
  simp only[qas,au,lE,this,qaa];rw[oV ls];rfl
def pZ (ds:List D):Option (List D):=match aW ds with
 |some ns=>some ((rm ns).map D.int)
 |none=>(lE ds).map λls=>(aD ls).map au
def oa (st:Sto):List W->Option (List D)
 |[w]=>(lsD st w).bind λds=>if ds.length<64 then pZ ds else none
 |_=>none
section
variable {K:qae}{X:Cx}{i:List (Addr×Obj)}{R:St}{H:Hp}{s:qam}{φ:List Addr}
def toV:Value->V
 |.ref a=>.ref a
 |_=>.non
theorem Dm {l:List Int}{v:V}{u:Value} (I:Inv X i R H s) (r:Rl X.K H φ (au l) v) (q:aR v u):TuI s.heap u l/\v=toV u/\aR (toV u) u:=by
 obtain⟨a,T,rfl,D,C⟩:=r;obtain⟨B,Y,p,_⟩:=I.tuple (SqT.of D);have e:=C.ints;subst e;subst q;exact⟨⟨a,B.toArray,U,p,by simpa using eP Y⟩,U,U⟩
theorem oJ (I:Inv X i R H s):∀ {ls:List (List Int)}{T:List V}{f:List Value},Rls X.K H φ (ls.map au) T->aJ T f->
  f.map (tuI s.heap)=ls/\∀ u∈f,TuI s.heap u (tuI s.heap u)/\Rl X.K H φ (au (tuI s.heap u)) (toV u)/\aR (toV u) u
 |[],_,f,h,q=>by cases h;cases q;exact⟨U,λu A=>by cases A⟩
 |l::ls,_,f,h,q=>by
  obtain⟨v,r,rfl,D,C⟩:=h;cases q with
  |cons q1 q2=>
   obtain⟨t,e,e'⟩:=Dm I D q1;obtain⟨i1,i2⟩:=oJ I C q2;refine⟨by rw[qas,i1,t.is],λx z=>?_⟩;rcases qaA.mp z with rfl|z
   ·rw[t.is,<-e];exact⟨t,D,q1⟩
   ·exact i2 x z
theorem oI:∀ {f:List Value},(∀ u∈f,TuI s.heap u (tuI s.heap u)/\Rl K H φ (au (tuI s.heap u)) (toV u)/\aR (toV u) u)->Rls K H φ (f.map λu=>au (tuI s.heap u)) (f.map toV)/\aJ (f.map toV) f
 |[],_=>⟨U,.nil⟩
 |u::f,h=>by
  have D:=h u qag;have C:=oI λx z=>h x (qak _ z);exact⟨⟨_,_,U,D.2.1,C.1⟩,.cons D.2.2 C.2⟩
theorem nY:∀ {f:List Value}{l:List Int},qcF f l->∀ u∈f,∃ n t,u=.int n t
 |_,_,.nil,u,A=>by cases A
 |_,_,.cons n t h,u,A=>by
  rcases qaA.mp A with rfl|A
  ·exact⟨n,t,U⟩
  ·exact nY h u A
theorem pQ:∀ {f:List Value},(∀ u∈f,∃ n t,u=.int n t)->qcF f (f.map cz)
 |[],_=>.nil
 |u::f,h=>by
  obtain⟨n,t,rfl⟩:=h u qag;exact .cons n t (pQ λx z=>h x (qak _ z))
theorem jZ {k:Nat} (hr:bH k X.A) (hK:X.K=K:=by rfl):sV K X (.builtin "sorted") oa:=by
 subst hK;refine⟨λst ws d h=>?_⟩
 match ws,h with
 |[w],h=>
  simp only[oa,qab]at h;obtain⟨ds,e1,h⟩:=h;split at h
  ·intro i s R H xs f Q I Y q
   obtain⟨φ,S,⟨v,r,rfl,r1,rfl⟩,q⟩:=q;obtain⟨a,T,rfl,D,C⟩:=lz S r1 e1;obtain⟨u,rfl,ru⟩:=jb Y;cases ru;obtain⟨B,F,pl,hz⟩:=I.list (.inl D);have g:B.length<64:=by
    have:=F.length
    have:=C.length
    lia
   have hun:X.A.in1.in1.units<cLine:=by
    have:=hr.un
    lia
   have hn:=I.hok.fresh (qdc _);have L:∀ (c:List Value) (J:List V),aJ J c->c.length<64->Inv X i R _ { s with heap:=qjM s.heap B c.toArray }:=λc J j ho=>by
    obtain⟨ep,he⟩:=sortedAll_at s.heap B c.toArray;refine I.laid (o:=.lst J) (λb o q=>sortedAll_old q) (qdc _) ⟨?_,c,ep,j,by simpa  using he⟩;rw[j.length];exact kO (by lia)
   unfold pZ at h;cases hi:aW ds with
   |some ns=>
    rw[hi]at h;cases h;cases ce hi;cases C.ints;have P:=eP F;refine oN pl.isList g (λh' _=>⟨qih,Ao P⟩) (λv j=>nY P v j) λc G a2=>?_;have hp:=by
     have:=G.map cz
     rw[nZ P]at this;exact this
    have hs:(c.map cz).Pairwise (·<=·):=by
     rw[qcr];refine a2.imp λ{x y} q=>?_;have q':bT [cz y] [cz x]=false:=q;by_cases e:cz y=cz x
     ·lia
     ·have:bT [cz y] [cz x]=decide (cz y<cz x):=by show (if _ then _ else _)=_;rw[iFN e]
      lia
    have j:=kR (pQ (λu A=>nY P u (G.mem_iff.mp A)));rw[(u4 (hp.trans (lR ns).symm) hs (jD ns))]at j;exact⟨.ref _,_,L c _ j (by rw[G.length_eq];exact g),U,q _ _ H (aP.refl H) hn (Rls.of_ints _)⟩
   |none=>
    rw[hi]at h;obtain⟨ls,W,rfl⟩:=qad.mp h;cases lX W;obtain⟨m1,m2⟩:=oJ I C F;refine oN (O:=OI) (rk:=λp=>tuI s.heap p.1) (S:=λp=>∃ l,TuI s.heap p.1 l) pl.isList g (λh' M=>?_) (λv j=>⟨_,(m2 v j).1⟩) λc G a2=>?_
    ·obtain⟨κ,k1,k2⟩:=um (s:={ s with heap:=h' }) (λv j=>⟨_,(m2 v j).1.fit M⟩) hun
     refine⟨κ,k1,λx y ⟨l,z⟩ ⟨m,hy⟩ Q E hq=>k2 x y ⟨l,z.fit M⟩ ⟨m,hy.fit M⟩ Q E ?_⟩;have N:Q (bT (tuI s.heap x.1) (tuI s.heap y.1)) { s with heap:=h' }:=hq;show Q (bT (tuI h' x.1) (tuI h' y.1)) { s with heap:=h' };rw[(z.fit M).is,(hy.fit M).is];rw[z.is,hy.is]at N;exact N
    ·obtain⟨b1,b2⟩:=oI (λu A=>m2 u (G.mem_iff.mp A))
     have hp:=by
      have:=G.map (tuI s.heap)
      rw[m1]at this;exact this
     have hs:(c.map (tuI s.heap)).Pairwise leL:=by
      rw[qcr];exact a2.imp λ{x y} q=>q
     have e2:(c.map λu=>au (tuI s.heap u))=(aD ls).map au:=by rw[<-(kP (hp.trans (aB ls).symm) hs (fX ls)),qaC];rfl
     rw[e2]at b1;exact⟨.ref _,_,L c _ b2 (by rw[G.length_eq];exact g),U,q _ _ H (aP.refl H) hn b1⟩
  ·cases h
end
end L2
namespace L2
open PySem PySem.Spec PyProof.Rows
section
variable {K:qae}{X:Cx}
end
end L2
namespace L2
open PySem PySem.Spec PyProof.Rows
open PySem.AutoSeq1 (wpAny_loadPart')
def SIt (k:Bool) (h:Heap) (a l:Addr) (i:Nat):Prop:=match k with
 |true=>h.IsTupleIter a l i
 |false=>h.IsListIter a l i
def SIs (k:Bool) (h:Heap) (l:Addr) (xs:Array Value):Prop:=match k with
 |true=>h.IsTuple l xs
 |false=>h.IsList l xs
theorem SIt.to {k:Bool}{h h':Heap}{b l:Addr}{i:Nat} (a:SIt k h b l i) (f:∀ o,h.get? b=some o->h'.get? b=some o):SIt k h' b l i:=by
 cases k with
 |true=>exact Heap.IsTupleIter.at a f
 |false=>exact Heap.IsListIter.at a f
theorem SIs.to {k:Bool}{h h':Heap}{l:Addr}{xs:Array Value} (a:SIs k h l xs) (f:∀ o,h.get? l=some o->h'.get? l=some o):SIs k h' l xs:=by
 cases k with
 |true=>obtain⟨o,e,r⟩:=a;exact⟨o,f o e,r⟩
 |false=>exact Heap.IsList.at a f
theorem SIt.live {k:Bool}{h:Heap}{b l:Addr}{i:Nat} (a:SIt k h b l i):∃ o c,h.get? b=some o/\o.data=.fields c:=by
 cases k with
 |true=>obtain⟨o,e,_,d⟩:=a;exact⟨o,_,e,d⟩
 |false=>obtain⟨o,e,_,d⟩:=a;exact⟨o,_,e,d⟩
section
variable {prog:qaR}{w:World}{A:qaZ}{E:Value->qam->Prop}{s:qam}{k k2:Bool}
theorem rH {H l:Addr}{i:Nat}{xs:Array Value}{x:Value}{Q:Value->qam->Prop} (v:SIt k s.heap H l i) (T:SIs k s.heap l xs) (B:xs[i]?=some x)
  (R:∀ h',SIt k h' H l (i+1)->qdw H s.heap h'->Q x { s with heap:=h' }):wpAny (model prog w) A (qcU (.ref H)) Q E s:=by
 cases k with
 |true=>exact fM v T B R
 |false=>exact wpAny_nextOf_list_item v T B R
theorem AI {H l:Addr}{i:Nat}{xs:Array Value}{Q:Value->qam->Prop} (hh:A.handled=none) (v:SIt k s.heap H l i) (T:SIs k s.heap l xs) (B:xs[i]?=none)
  (hE:∀ h' e,qg9 H s.heap h'->(∃ o,h'.get? e=some o/\o.cls=.type "StopIteration")->E (.ref e) { s with heap:=h' }):wpAny (model prog w) A (qcU (.ref H)) Q E s:=by
 cases k with
 |true=>exact gw hh v T B hE
 |false=>exact wpAny_nextOf_list_end hh v T B hE
variable {z TI TO i1 i2 l1 l2:Addr}{n:Nat}{xs ys:Array Value}{a b:Value}
structure ZSt (k k2:Bool) (z TI TO i1 i2 l1 l2:Addr) (f0:Value) (n:Nat) (h:Heap):Prop where
 z:IsZip h z TI TO f0
 ti:qg7 h TI (.ref i1) (.ref i2)
 to:∃ a b,qg7 h TO a b
 t1:SIt k h i1 l1 n
 t2:SIt k2 h i2 l2 n
set_option maxHeartbeats 1000000 in
theorem BV {x y:Value}{Q:Option Value->qam->Prop} (D:ZipApart z TI TO i1 i2 l1 l2) (hs:ZSt k k2 z TI TO i1 i2 l1 l2 .none n s.heap) (F:SIs k s.heap l1 xs) (K:SIs k2 s.heap l2 ys) (B:xs[n]?=some x) (hy:ys[n]?=some y)
  (R:∀ h',ZSt k k2 z TI TO i1 i2 l1 l2 (qgE s.heap.objs.size) (n+1) h'->qg7 h' s.heap.objs.size x y->h'.objs.size=s.heap.objs.size+1->
    (∀ c o,c≠z->c≠TO->c≠i1->c≠i2->s.heap.get? c=some o->h'.get? c=some o)->Q (some (.ref s.heap.objs.size)) { s with heap:=h' }) :
  wpAny (model prog w) A (qg0 (.ref z)) Q E s:=by
 obtain⟨r,G,⟨a,b,M⟩,h1,h2⟩:=hs;have hT:s.TypeIs (.ref z) "zip":=⟨_,r,U⟩
 unfold qg0;refine qac (qeR (qbR (name:=qee "__next__") hT qe3 (qb6 qe3 hT qit ?_ (qid _))))
 show wpAny _ _ (field (.ref z) 2 >>= _) _ _ _;refine qac (qci r U (x:=.bool false) U ?_);show wpAny _ _ (field (.ref z) 3 >>= _) _ _ _;refine qac (qci r U (x:=.ref TI) U (qac (qbP G U ?_)));refine qac ?_;unfold qhx;refine qac (qci r U (x:=.none) U (qaq ?_));simp only[if_true];refine qac (qdV (qac (qci r U (x:=.ref TO) U ?_)));refine qac (qde r (by simp) λg1 t s1=>?_);replace t:IsZip g1 z TI TO .ellipsis:=t;refine qac ?_;simp only[qhM,qhV,qfZ,qh7];have g:=s1.extBut;refine qac (qac (qfP ?_));refine qac (rH (h1.to λo q=>g _ o D.i1z q) (F.to λo q=>g _ o D.l1z q) B λg2 h12 O=>qaq ?_);have e2:=O.extBut;have d:qg7 g2 TO a b:=e2 _ _ D.TOi1 (g _ _ D.TOz M);refine qac (qbP d U (qac (qfp d λg3 p P=>?_)));replace p:qg7 g3 TO x b:=p;have e3:=P.extBut;refine qac (qc0 (qaq ?_));refine qac (qac (qfP ?_));refine qac (rH (h2.to λo q=>e3 _ o D.TOi2.symm (e2 _ o D.i12.symm (g _ o D.i2z q))) (K.to λo q=>e3 _ o D.l2TO (e2 _ o D.l2i1 (g _ o D.l2z q))) hy λg4 h24 X=>qaq ?_);have e4:=X.extBut;have J:qg7 g4 TO x b:=e4 _ _ D.TOi2 p;refine qac (qbP J U (qac (qfp J λf m s5=>?_)));replace m:qg7 f TO x y:=m;have e5:=s5.extBut;refine qac (qc0 (qaq (qaq ?_)));refine qac (qbP m U (qac (qj0 ?_)));have Y:f.objs.size=s.heap.objs.size:=by rw[s5.1,X.1,P.1,O.1,s1.1]
 have V:IsZip f z TI TO .ellipsis:=e5 _ _ D.TOz.symm (e4 _ _ D.i2z.symm (e3 _ _ D.TOz.symm (e2 _ _ D.i1z.symm t)));have kp:∀ c o,c≠z->c≠TO->c≠i1->c≠i2->s.heap.get? c=some o->f.get? c=some o:=λc o c1 c2 c3 c4 e=>e5 _ _ c2 (e4 _ _ c4 (e3 _ _ c2 (e2 _ _ c3 (g _ _ c1 e))));have h25:SIt k2 f i2 l2 (n+1):=h24.to λo q=>e5 _ o D.TOi2.symm q;have I:z<f.objs.size:=qaz V;show wpAny _ _ (qd6 (.ref z) (.ref f.objs.size) >>= _) _ _ _;refine qac ?_;unfold qd6;have hz6:IsZip (f.push { cls:=.type "tuple",data:=.seq #[x,y] }) z TI TO .ellipsis:=qah _ V
 refine qac (qde hz6 (by simp) λg7 N s7=>?_);replace N:IsZip g7 z TI TO (qgE f.objs.size):=N;refine qde N (by simp) λg8 C s8=>?_;replace C:IsZip g8 z TI TO (qgE f.objs.size):=C;have up:∀ c o,c≠z->f.get? c=some o->g8.get? c=some o:=λc o c1 e=>s8.extBut _ _ c1 (s7.extBut _ _ c1 (qah _ e));have S:qg7 g8 f.objs.size x y:=s8.extBut _ _ (qck I) (s7.extBut _ _ (qck I) (qau _ U));have hz9:g8.objs.size=f.objs.size+1:=by rw[s8.1,s7.1,qbk]
 rw[Y]at C S hz9;refine qaq ⟨_,U,qaq ?_⟩;show Q (some (.ref f.objs.size)) _;rw[Y];exact R g8 ⟨C,up _ _ D.TIz (kp _ _ D.TIz D.TITO D.TIi1 D.TIi2 G),⟨_,_,up _ _ D.TOz m⟩,(h12.to λo q=>e5 _ o D.TOi1.symm (e4 _ o D.i12 (e3 _ o D.TOi1.symm q))).to λo q=>up _ o D.i1z q,h25.to λo q=>up _ o D.i2z q⟩ S hz9 λc o c1 c2 c3 c4 e=>up c o c1 (kp c o c1 c2 c3 c4 e)
set_option maxHeartbeats 1000000 in
theorem DN {Q:Option Value->qam->Prop} (hh:A.in1.handled=none) (D:ZipApart z TI TO i1 i2 l1 l2) (hs:ZSt k k2 z TI TO i1 i2 l1 l2 .none n s.heap) (F:SIs k s.heap l1 xs) (K:SIs k2 s.heap l2 ys) (W:xs[n]?=none\/ys[n]?=none)
  (R:∀ h',(∀ c o,c≠z->c≠TO->c≠i1->c≠i2->s.heap.get? c=some o->h'.get? c=some o)->Q none { s with heap:=h' }):wpAny (model prog w) A (qg0 (.ref z)) Q E s:=by
 obtain⟨r,G,⟨a,b,M⟩,h1,h2⟩:=hs;have hT:s.TypeIs (.ref z) "zip":=⟨_,r,U⟩
 have fin:∀ (h':Heap) (e:Addr),_->(∃ o,h'.get? e=some o/\o.cls=.type "StopIteration")->
   wpAny (model prog w) A (do if (<-isInstance (.ref e) _) then pure none else throw (.ref e)) Q E { s with heap:=h' }:=λh' e hk ⟨o,ho,hc⟩=>
  qac (qiW ⟨o,ho,hc⟩ qj5 (qaq (R _ hk)))
 refine qac (qeR (qbR hT qe3 (qb6 qe3 hT qit ?_ (qid _))));show wpAny _ _ (field (.ref z) 2 >>= _) _ _ _;refine qac (qci r U (x:=.bool false) U ?_);refine qac (qci r U U (qac (qbP G U ?_)));refine qac ?_;refine qac (qci r U U (qaq ?_));refine qac (qdV (qac (qci r U U ?_)));refine qac (qde r (by simp) λg1 t s1=>?_);refine qac ?_;simp only[qhM,qhV,qfZ,qh7];have g:=s1.extBut;refine qac (qac (qfP ?_));cases B:xs[n]? with
 |none=>
  refine qac (AI hh (h1.to λo q=>g _ o D.i1z q) (F.to λo q=>g _ o D.l1z q) B λg2 e O he=>?_);obtain⟨oe,j,u⟩:=he;have hz2:IsZip g2 z TI TO .ellipsis:=O _ _ D.i1z.symm t;have L:e≠z:=λx=>by subst x;rw[hz2]at j;cases j;simp at u
  exact qde hz2 (by simp) λg3 _ P=>fin g3 e (λc o c1 _ c3 _ x=>P.extBut _ _ c1 (O _ _ c3 (g _ _ c1 x))) ⟨oe,P.extBut _ _ L j,u⟩
 |some x=>
  have hy:ys[n]?=none:=by rcases W with h|h;rw[B]at h;cases h;exact h
  refine qac (rH (h1.to λo q=>g _ o D.i1z q) (F.to λo q=>g _ o D.l1z q) B λg2 h12 O=>qaq ?_);have e2:=O.extBut;have d:=e2 _ _ D.TOi1 (g _ _ D.TOz M);refine qac (qbP d U (qac (qfp d λg3 p P=>?_)));have e3:=P.extBut;refine qac (qc0 (qaq ?_));refine qac (qac (qfP ?_));refine qac (AI hh (h2.to λo q=>e3 _ o D.TOi2.symm (e2 _ o D.i12.symm (g _ o D.i2z q))) (K.to λo q=>e3 _ o D.l2TO (e2 _ o D.l2i1 (g _ o D.l2z q))) hy λg4 e X he=>?_);obtain⟨oe,j,u⟩:=he;have hz4:IsZip g4 z TI TO .ellipsis:=X _ _ D.i2z.symm (e3 _ _ D.TOz.symm (e2 _ _ D.i1z.symm t));have L:e≠z:=λx=>by subst x;rw[hz4]at j;cases j;simp at u
  exact qde hz4 (by simp) λf _ s5=>fin f e (λc o c1 c2 c3 c4 x=>s5.extBut _ _ c1 (X _ _ c4 (e3 _ _ c2 (e2 _ _ c3 (g _ _ c1 x))))) ⟨oe,s5.extBut _ _ L j,u⟩
end
def GF (k:Bool):Value:=if k=true then .type "tuple_iterator" else .type "list_iterator"
def uf (k:Bool) (l:Addr):Obj:={ cls:=GF k,data:=.fields #[.ref l,.int 0 0] }
abbrev zH1 (k:Bool) (h:Heap) (a:Addr):Heap:=h.push (uf k a)
abbrev zH2 (k k2:Bool) (h:Heap) (a b:Addr):Heap:=(zH1 k h a).push (uf k2 b)
abbrev zH3 (k k2:Bool) (h:Heap) (a b:Addr):Heap:=(zH2 k k2 h a b).push { cls:=.type "tuple",data:=.seq #[.ref h.objs.size,.ref (zH1 k h a).objs.size] }
abbrev zH4 (k k2:Bool) (h:Heap) (a b:Addr):Heap:=(zH3 k k2 h a b).push { cls:=.type "tuple",data:=.seq #[.none,.none] }
abbrev zH5 (k k2:Bool) (h:Heap) (a b:Addr):Heap:=(zH4 k k2 h a b).push { cls:=.type "zip",data:=.fields #[.none,.bool false,.bool false,.ref (zH2 k k2 h a b).objs.size,.ref (zH3 k k2 h a b).objs.size] }
section
variable {prog:qaR}{w:World}{A:qaZ}{E:Value->qam->Prop}{s:qam}{k k2:Bool}
theorem uh {l:Addr}{xs:Array Value}{Q:Value->qam->Prop} (u:SIs k s.heap l xs) (h:Q (.ref s.heap.objs.size) { s with heap:=s.heap.push (uf k l) }):wpAny (model prog w) A (qhC (.ref l)) Q E s:=by
 cases k with
 |true=>exact qdL u h
 |false=>exact qdm u h
theorem pj (a b:Addr) (xs j:Array Value) (k k2:Bool) :
  Meets (qfG.«zip.__new__» ⟨[.type "zip",.ref a,.ref b],[]⟩) (λ_ R s=>SIs k s.heap a xs/\SIs k2 s.heap b j/\R (.ok (.ret (.ref (zH4 k k2 s.heap a b).objs.size))) { s with heap:=zH5 k k2 s.heap a b }):=
 .of_wp λprog w A R s h=>by
  obtain⟨G,g,d,I,os⟩:=s;obtain⟨i,f,h⟩:=h;have C:=sub_zip;have p:SIs k2 (Shared.heap ⟨G.push (uf k a),g,d,I,os⟩) b j:=f.to λo q=>qah _ q
  wp_walk using uh i,uh p
  exact⟨_,U,h⟩
theorem ug (k:Bool) {h:Heap}{v l:Addr} (e:h.get? v=some (uf k l)):SIt k h v l 0:=by
 cases k with
 |true=>exact⟨_,e,U,U⟩
 |false=>exact⟨_,e,U,U⟩
theorem qy {a b:Addr}{xs j:Array Value}{Q:Value->qam->Prop} (i:SIs k s.heap a xs) (f:SIs k2 s.heap b j)
  (h:∀ h',ZSt k k2 (s.heap.objs.size+4) (s.heap.objs.size+2) (s.heap.objs.size+3) s.heap.objs.size (s.heap.objs.size+1) a b .none 0 h'->
    (∀ c o,s.heap.get? c=some o->h'.get? c=some o)->Q (.ref (s.heap.objs.size+4)) { s with heap:=h' }) :
  wpAny (model prog w) A (call (.type "zip") [.ref a,.ref b]) Q E s:=by
 refine callType_new F.called_zip (by decide) (F.typeCall_zip_2 _ _) (F.newCall_zip_2 _ _) (λobj=>F.args_object_init_3 obj _ _) F.entry_zip_new (pj a b xs j k k2) ⟨i,f,?_⟩;have r:(zH1 k s.heap a).objs.size=s.heap.objs.size+1:=qbk ..;have n:(zH2 k k2 s.heap a b).objs.size=s.heap.objs.size+2:=by rw[qbk,r]
 have t:(zH3 k k2 s.heap a b).objs.size=s.heap.objs.size+3:=by rw[qbk,n]
 have z:(zH4 k k2 s.heap a b).objs.size=s.heap.objs.size+4:=by rw[qbk,t]
 have up:∀ {h:Heap}{H:Obj}{c:Addr}{o:Obj},h.get? c=some o->(h.push H).get? c=some o:=λe=>qah _ e;have m:(zH5 k k2 s.heap a b).get? (zH4 k k2 s.heap a b).objs.size=some _:=qau _ U;have B:(zH5 k k2 s.heap a b).get? (zH3 k k2 s.heap a b).objs.size=some _:=up (qau _ U);have D:(zH5 k k2 s.heap a b).get? (zH2 k k2 s.heap a b).objs.size=some _:=up (up (qau _ U));have y:(zH5 k k2 s.heap a b).get? (zH1 k s.heap a).objs.size=some _:=up (up (up (qau _ U)));rw[n,t,z]at m;rw[r,n]at D;rw[t]at B;rw[r]at y;rw[z];exact⟨⟨_,m,U⟩,h _ ⟨m,D,⟨_,_,B⟩,ug k (up (up (up (up (qau _ U))))),ug k2 y⟩ λc o x=>up (up (up (up (up x))))⟩
end
def SqK (k:Bool) (K:qae) (H:Hp) (a:Addr) (xs:List V):Prop:=match k with
 |true=>SqT K H a xs
 |false=>SqL K H a xs
def Itz (S1 S2:Hp->List V->Prop):It:=
 ⟨λi H=>∃ xs a x y,S1 H xs/\S2 H a/\xs[i]?=some x/\a[i]?=some y,λi H x H'=>∃ T v u,(∀ xs,S1 H xs->xs[i]?=some v)/\(∀ a,S2 H a->a[i]?=some u)/\H T=none/\x=.ref T/\H'=upd H T (.tup [v,u]),
  λi H=>∃ xs a,S1 H xs/\S2 H a/\(xs[i]?=none\/a[i]?=none)⟩
theorem Inv.seqK {X:Cx}{c:List (Addr×Obj)}{d:St}{H:Hp}{s:qam}{k:Bool}{a:Addr}{xs:List V} (I:Inv X c d H s) (h:SqK k X.K H a xs):∃ b:List Value,aJ xs b/\SIs k s.heap a b.toArray:=by
 cases k with
 |true=>obtain⟨b,r,p,_⟩:=I.tuple h;exact⟨b,r,p⟩
 |false=>obtain⟨b,r,p,_⟩:=I.list h;exact⟨b,r,p.isList⟩
theorem Inv.seqK_inj {X:Cx}{b:List (Addr×Obj)}{d:St}{H:Hp}{s:qam}{k:Bool}{a:Addr}{xs c:List V} (I:Inv X b d H s) (h:SqK k X.K H a xs) (h':SqK k X.K H a c):xs=c:=by
 cases k with
 |true=>exact I.tuple_inj h h'
 |false=>exact I.list_inj h h'
theorem BL {P:qaR}{w:World}{K:qae}{p:List Expr}{Y:Nat}{pos:Pos}{k k2:Bool}{z TI TO r m G N:Addr} (D:ZipApart z TI TO r m G N) :
  vh P w K (.Tuple p Y pos) (Itz (λH xs=>SqK k K H G xs) λH xs=>SqK k2 K H N xs) [z,TI,TO,r,m] z (λi h=>ZSt k k2 z TI TO r m G N .none i h) where
 mem:=by simp
 obj:=λi h st b hb=>by
  simp only[qaA,qbM,or_false]at hb;rcases hb with rfl|rfl|rfl|rfl|rfl
  ·exact⟨_,st.z,λv z=>by cases z⟩
  ·exact⟨_,st.ti,λv z=>by cases z⟩
  ·obtain⟨a,b,e⟩:=st.to;exact⟨_,e,λv z=>by cases z⟩
  ·obtain⟨o,M,e,d⟩:=st.t1.live;exact⟨o,e,λv z=>by rw[d]at z;cases z⟩
  ·obtain⟨o,M,e,d⟩:=st.t2.live;exact⟨o,e,λv z=>by rw[d]at z;cases z⟩
 keep:=λi h h' st kp=>by
  obtain⟨a,b,e⟩:=st.to;exact⟨kp z (by simp) _ st.z,kp TI (by simp) _ st.ti,⟨a,b,kp TO (by simp) _ e⟩,st.t1.to λo q=>kp r (by simp) o q,st.t2.to λo q=>kp m (by simp) o q⟩
 item:=by
  intro X C hw L T i t s σ H E I A st hg;subst C hw L;obtain⟨xs,ys,x,y,g,f,R,S⟩:=hg;obtain⟨us,j,p1⟩:=I.seqK g;obtain⟨M,l,B⟩:=I.seqK f;obtain⟨u,hu,ru⟩:=j.get R;obtain⟨v,hv,W⟩:=l.get S;refine BV D st p1 B (by simpa using hu) (by simpa using hv) λh1 c hT hsz kp=>⟨_,U,?_⟩;refine wpAny_letOwnedTupleGo_zip c.z λh2 O s2=>?_;have e2:=s2.extBut;obtain⟨c1,c2,J⟩:=c.to;have Q:∀ b∈[z,TI,TO,r,m],b≠s.heap.objs.size:=λb hb e=>by
   obtain⟨o,ho,_⟩:=(show ∃ o,s.heap.get? b=some o/\True by
    simp only[qaA,qbM,or_false]at hb;obtain⟨a',b',e'⟩:=st.to;obtain⟨o1,_,q1,_⟩:=st.t1.live;obtain⟨o2,_,q2,_⟩:=st.t2.live;rcases hb with rfl|rfl|rfl|rfl|rfl
    ·exact⟨_,st.z,trivial⟩
    ·exact⟨_,st.ti,trivial⟩
    ·exact⟨_,e',trivial⟩
    ·exact⟨_,q1,trivial⟩
    ·exact⟨_,q2,trivial⟩)
   have:=qaz ho
   rw[e]at this;exact qa5 _ this
  refine⟨.ref s.heap.objs.size,_,?_,U,⟨s.heap.objs.size,x,y,λzs F=>by rw[I.seqK_inj F g];exact R,λzs F=>by rw[I.seqK_inj F f];exact S,I.hok.fresh (qap _),U,U⟩,?_,λb hb=>?_⟩
  ·have I2:=I.turnsT (h':=h2) (t':=s.toks) A (λb o hb q=>by
    simp only[qaA,qbM,or_false,not_or]at hb
    exact e2 b o hb.1 (kp b o hb.1 hb.2.2.1 hb.2.2.2.1 hb.2.2.2.2 q)) (qap _) ⟨_,e2 _ _ (qbr (Q z (by simp))) hT,U,⟨_,U⟩,U⟩ (.cons ru (.cons W .nil)) (by show 2<=qaN;decide)
   exact I2
  ·exact⟨O,e2 _ _ D.TIz c.ti,⟨c1,c2,e2 _ _ D.TOz J⟩,c.t1.to λo q=>e2 _ o D.i1z q,c.t2.to λo q=>e2 _ o D.i2z q⟩
  ·rw[upd_ne (Q b hb)];exact (A b hb).1
 done:=by
  intro X C hw L T i t s σ H E I A st hg;subst C hw L;obtain⟨xs,ys,g,f,n⟩:=hg;obtain⟨us,j,p1⟩:=I.seqK g;obtain⟨M,l,B⟩:=I.seqK f;have hl1:=j.length;have V:=l.length
  refine DN (I.ok.hd T) D st p1 B (by
   rcases n with h|h
   ·rw[qbq]at h;simp;lia
   ·rw[qbq]at h;simp;lia) λh' kp=>⟨U,I.turns A λb o hb q=>?_⟩
  simp only[qaA,qbM,or_false,not_or]at hb;exact kp b o hb.1 hb.2.2.1 hb.2.2.2.1 hb.2.2.2.2 q
 self:=λ_ _ _ _ _ st h=>qiV st.z h
def HW (K:qae) (k k2:Bool) (d:TA):L2.TI:=λc H R=>d c H λe H1=>∃ a b,e=[.ref a,.ref b]/\(∃ xs,SqK k K H1 a xs)/\(∃ xs,SqK k2 K H1 b xs)/\R (Itz (λH xs=>SqK k K H a xs) λH xs=>SqK k2 K H b xs) H1
theorem AY {X:Cx}{c:List Expr}{y:Nat}{j:Pos}{a b:Expr}{x:TA}{p pos:Pos}{k k2:Bool} (hg:Gl X "zip") (A:X.mg "zip" = none) (J:PA X [a,b] x) (K:qbA [a,b] X.env=[(false,eval a X.env),(false,eval b X.env)]:=by rfl) (i:qbA [b] X.env=[(false,eval b X.env)]:=by rfl) :
  PI X (.Tuple c y j) (.Call (.Name "zip" p) [a,b] [] pos) (HW X.K k k2 x):=by
 intro d s E H R I h;refine Call_ (lx I hg A boot_zip (qcn (thn (J pos d s E H _ I h) λn s1 ⟨F,H1,I1,B,D⟩=>?_) (by rw[K,i]) (by rw[i];rfl)));obtain⟨l,m,e,⟨xs,z⟩,⟨N,u⟩,q⟩:=D;subst e;cases B with
 |cons r o=>
  cases o with
  |cons M o=>
   cases o;cases r;cases M;obtain⟨n,C,p1⟩:=I1.seqK z;obtain⟨F,L,w⟩:=I1.seqK u;have lt:∀ {k:Bool}{l:Addr}{n:Array Value},SIs k s1.heap l n->l<s1.heap.objs.size:=λ{k l n} v=>by
    cases k with
    |true=>obtain⟨_,t,_⟩:=v;exact qaz t
    |false=>obtain⟨_,t,_⟩:=v;exact qaz t
   refine qy p1 w λh' g G=>qiV g.z ?_;refine⟨_,_,_,_,H1,U,I1.kept G,BL (zipApart_new (lt p1) (lt w)),g,λb hb=>?_,q⟩;have f:s1.heap.objs.size<=b:=by
    simp only[qaA,qbM,or_false]at hb;rcases hb with rfl|rfl|rfl|rfl|rfl
    ·exact qds _ 4
    ·exact qds _ 2
    ·exact qds _ 3
    ·exact qap _
    ·exact qds _ 1
   exact I1.fpOk f (I1.hok.fresh f)
def fu:List D->List D->List D
 |d::ds,e::es=>.tup [d,e]::fu ds es
 |_,_=>[]
def zx:W->Option (Bool×List D)
 |.d (.tup ds)=>some (true,ds)
 |.d (.lst ds)=>some (false,ds)
 |_=>none
def im (c:Af):Lf
 |env,st=>(c env st).bind λr=>match r.1 with
  |[x,y]=>(zx x).bind λa=>(zx y).map λb=>(fu a.2 b.2,r.2)
  |_=>none
theorem gI:∀ (ds es:List D) (i:Nat),(fu ds es)[i]?=(ds[i]?).bind λd=>(es[i]?).map λe=>D.tup [d,e]
 |[],es,i=>by simp[fu]
 |d::ds,[],i=>by cases i<;>simp[fu]
 |d::ds,e::es,0=>by simp[fu]
 |d::ds,e::es,i+1=>by simpa [fu] using gI ds es i
theorem kS:∀ (ds es:List D),(fu ds es).length=min ds.length es.length
 |[],es=>by simp[fu]
 |d::ds,[]=>by simp[fu]
 |d::ds,e::es=>by simp[fu,kS ds es]
section
variable {K:qae}{X:Cx}{a b:Expr}{pos:Pos}{af:Af}
theorem sE {st:Sto}{H:Hp}{φ:List Addr}{w:W}{v:V}{p:Bool×List D} (r:Rw K H φ w v) (e:zx w=some p) (S:Sr K H φ st):∃ a l,v=.ref a/\SqK p.1 K H a l/\(∀ H' c,Fw φ c H H'->SqK p.1 K H' a l)/\Rls K H φ p.2 l:=by
 cases w with
 |h n=>cases e
 |d x=>
  cases x with
  |tup ds=>
   cases e;obtain⟨a,j,rfl,o,g⟩:=r;exact⟨a,j,U,(SqT.of o),λH' c f=>(SqT.of o).fw S f,g⟩
  |lst ds=>
   cases e;obtain⟨a,j,rfl,h0,o,g⟩:=r;exact⟨a,j,U,.inl o,λH' c f=>.inl (o.fw f h0),g⟩
  |_=>cases e
theorem F7 {S1 S2:Hp->List V->Prop}{ds es:List D}{l j:List V}{φ:List Addr}{H:Hp} (h1:∀ H' c,Fw φ c H H'->S1 H' l) (h2:∀ H' c,Fw φ c H H'->S2 H' j) (r1:∀ H' c,Fw φ c H H'->Rls K H' c ds l) (r2:∀ H' c,Fw φ c H H'->Rls K H' c es j) :
  Yl K φ H (Itz S1 S2) (fu ds es):=by
 intro H2 m st2 i C s2;have L:=h1 H2 m C;have I:=h2 H2 m C;have B:=r1 H2 m C;have w2:=r2 H2 m C;refine⟨λd hd=>?_,λhi=>⟨l,j,L,I,?_⟩⟩
 ·rw[gI,qab]at hd
  obtain⟨d1,M,hd⟩:=hd;obtain⟨d2,E,rfl⟩:=qad.mp hd;obtain⟨v,ev,rv⟩:=B.get M;obtain⟨u,eu,ru⟩:=w2.get E;refine⟨⟨l,j,v,u,L,I,ev,eu⟩,λx H' y=>?_⟩;obtain⟨T,v',u',y1,y2,O,rfl,rfl⟩:=y;have z1:=y1 l L;have z2:=y2 j I;rw[ev]at z1;rw[eu]at z2;cases z1;cases z2;exact⟨aP.new O _,T,_,U,upd_same,_,_,U,rv.fw s2 (Fw.new O),_,_,U,ru.fw s2 (Fw.new O),U⟩
 ·rw[kS]at hi
  have l1:=B.length;have l2:=w2.length;rw[qbq,qbq];lia
theorem nU {s:List Expr}{k:Nat}{A p:Pos} (hg:Gl X "zip") (hm:X.mg "zip" = none) (ha:IA K X [a,b] af) (hs:av a=true:=by rfl) (z:av b=true:=by rfl) (hK:X.K=K:=by rfl) :
  II K X (.Tuple s k A) (.Call (.Name "zip" p) [a,b] [] pos) (im af):=by
 subst hK;refine⟨λenv st r g=>?_⟩;simp only[im,qab]at g;obtain⟨⟨ws,s1⟩,hy,g⟩:=g;dsimp only at g;split at g
 case h_2=>cases g
 rename_i x y;simp only[qab,qad]at g;obtain⟨p1,Y,p2,N,rfl⟩:=g;refine (AY (k:=p1.1) (k2:=p2.1) hg hm (ha.run _ _ _ hy) (u6 hs z) (gF z)).imp ?_
 rintro σ H R ⟨φ,hE,hS,q⟩
 refine⟨φ,hE,hS,λl H1 G f1 s1 B=>?_⟩;obtain⟨v,r,rfl,rx,v2,r',rfl,ry,rfl⟩:=B;obtain⟨a,j,rfl,o,Q,g⟩:=sE rx Y s1;obtain⟨b,F,rfl,P,t,J⟩:=sE ry N s1;exact⟨a,b,U,⟨j,o⟩,⟨F,P⟩,q _ H1 G f1 s1 (F7 Q t (λH' c f=>g.fw s1 f) λH' c f=>J.fw s1 f)⟩
end
def uC:List Int->Int->Int
 |[],m=>m
 |n::ns,m=>uC ns (if n > m then n else m)
def kG:List Int->Int->Int
 |[],m=>m
 |n::ns,m=>kG ns (if n<m then n else m)
section
variable {prog:qaR}{w:World}{A:qaZ}{s:qam}{I l S:Addr}{g:Array Value}{ns:List Int}{z:List (Str×Value)}{R:qhE->qam->Prop}
theorem ki (h:qcF g.toList ns) {j:Nat}{n:Int} (x:ns[j]?=some n):∃ t,g[j]?=some (.int n t):=by
 have hj:j<g.toList.length:=by rw[cZ h];exact (qat.mp x).1
 obtain⟨t,e⟩:=gT h j hj;refine⟨t,?_⟩;have hj':=by simpa using hj
 rw[qbx hj'];rw[qdU]at e;rw[e,qao,x];rfl
theorem kh (h:qcF g.toList ns) {j:Nat} (x:ns[j]?=none):g[j]?=none:=by
 rw[qbq]at x
 have:=cZ h
 rw[Array.getElem?_eq_none_iff];rw[qcS]at this;lia
theorem EZ (V:A.handled=none) (hi:qcF g.toList ns) (y:S≠I) (J:l≠I) (L:l≠S):∀ (i:List Int) (j:Nat) (s:qam) (m:Int) (t:Tok) (c:Nat),ns.drop j=i->s.heap.IsListIter I l j->s.heap.IsList l g->
  s.heap.get? S=some { cls:=.type "list",dict:=none,data:=.seq #[.int m t,.int m t] c,slots:=#[] }->
  (∀ t' h',(∀ b o,b≠I->b≠S->s.heap.get? b=some o->h'.get? b=some o)->R (.ok (.ret (.int (uC i m) t'))) { s with heap:=h' })->qdM (model prog w) A (.builtin "max.loop" ⟨[.ref I,.none,.ref S],z⟩) R s:=by
 have K:(toString "max"++toString ".loop" : String) = "max.loop":=by decide
 intro i
 induction i with
 |nil=>
  intro j s m t c hd G D M T;have x:ns[j]?=none:=by
   rw[qbq]
   have:=congrArg qe9 hd
   simp at this;lia
  refine qcV qge ?_;rw[qcI qc3 _];show wpAny _ A.in1 (seqItems? (.ref S) >>= _) _ _ s;refine qac (qbP M U ?_);refine qac (qcv (qdh V G D (kh hi x) λW B=>?_));refine qac (qdK (B _ _ y M) U (qac (qc0 (qaq ?_))));exact T t _ λb o p u q=>(qaT _ _ (qbr u)).trans (B _ _ p q)
 |cons n i ih=>
  intro j s m t c hd G D M T;have x:ns[j]?=some n:=by
   have:=congrArg (λl=>l[0]?) hd
   simpa using this
  have X:ns.drop (j+1)=i:=by
   have:=congrArg (qhY 1) hd
   simpa [qh8,qeY] using this
  obtain⟨tn,hx⟩:=ki hi x;refine qcV qge ?_;rw[qcI qc3 _];show wpAny _ A.in1 (seqItems? (.ref S) >>= _) _ _ s;refine qac (qbP M U ?_);refine qac (qcv (qdb G D hx λW C s1=>?_));have B:=s1.extBut;have H:=B _ _ y M;show wpAny _ A.in1 (tryCatch _ _ >>= _) _ _ _;refine qac (qcv (qb5 (qac (qjC ?_))));refine qac (qb5 (qcw ?_));refine qac (qc0 (qaq ?_));by_cases hb:n > m
  ·have P:decide (n > m)=true:=by simp[hb]
   rw[P];simp only[if_true];refine qac (qdK H U (qac (qc0 ?_)));rw[K];refine qaq ⟨qdn qc3 _,ih (j+1) _ n tn _ X (C.at λo q=>(qaT _ _ y).trans q) (Heap.IsList.at D λo q=>(qaT _ _ (qbr L)).trans (B _ _ J q)) (qch _ H U) λt' h' k=>?_⟩
   have:=T t' h' λb o p u q=>k b o p u ((qaT _ _ (qbr u)).trans (B _ _ p q))
   rw[uC,iFP hb]at this;exact this
  ·have P:decide (n > m)=false:=by simp[hb]
   rw[P];simp only[qa8,if_false];refine qac (qc0 ?_);rw[K];refine qaq ⟨qdn qc3 _,ih (j+1) _ m t c X C (Heap.IsList.at D λo q=>B _ _ J q) H λt' h' k=>?_⟩
   have:=T t' h' λb o p u q=>k b o p u (B _ _ p q)
   rw[uC,iFN hb]at this;exact this
variable {E:Value->qam->Prop}
theorem gM {id:String}{b:qfG}{args:List Value}{z:List (Str×Value)}{Q:Value->qam->Prop} (N:builtinKind id=none) (hp:plainId id=true) (hb:entryFor table id=some b) (ha:argsOk id ⟨args,z⟩)
  (hc:wpAny (model prog w) A.in1 (b ⟨args,z⟩) (λfin s'=>match fin with
    |.done f=>(match (Except.ok f:qhE) with|.ok (.ret v)=>Q v s'|.ok _=>False|.error e=>E e s')
    |.again c'=>c'.quiet=true/\qdM (model prog w) A c' (λr s'=>match r with|.ok (.ret v)=>Q v s'|.ok _=>False|.error e=>E e s') s') E s) :
  wpAny (model prog w) A (call (.builtin id) args z) Q E s:=by
 refine qix (codeAny_call_builtin hp hb ?_);simp only[checkBuiltinCall,N];cases hsig:Manifest.signature? id with
 |none=>exact qaq hc
 |some sig=>
  have h2:=by simpa only[argsOk,hsig] using ha
  show wpAny _ A.in1 (Bind.checkArgs id sig _) _ _ s;rw[h2];exact qaq hc
theorem yI (a v:Value):argsOk "max" ⟨[a],[(qee "default",v)]⟩:=by kernel_rfl
def DW (ns:List Int) (d:Option Int):Option Int:=match ns with
 |n::r=>some (uC r n)
 |[]=>d
theorem ze (V:A.handled=none) (hi:qcF g.toList ns) (y:S≠I) (J:l≠I) (L:l≠S) {c:Nat} (G:s.heap.IsListIter I l 0) (D:s.heap.IsList l g) (M:s.heap.get? S=some { cls:=.type "list",dict:=none,data:=.seq #[] c,slots:=#[] })
  (T:∀ v h',(∀ b o,b≠I->b≠S->s.heap.get? b=some o->h'.get? b=some o)->(∀ n r,ns=n::r->∃ t,v=.int (uC r n) t)->(ns=[]->∃ k,z=[(k,v)])->R (.ok (.ret v)) { s with heap:=h' })
  (h0:ns=[]->∃ k v,z=[(k,v)]):qdM (model prog w) A (.builtin "max.loop" ⟨[.ref I,.none,.ref S],z⟩) R s:=by
 refine qcV qge ?_;rw[qcI qc3 _];refine qac (qbP M U ?_);cases x:ns with
 |nil=>
  obtain⟨k,v,rfl⟩:=h0 x;refine qac (qcv (qdh V G D (kh hi (by rw[x];rfl)) λW B=>?_));refine qac (qdV (qaq ?_));exact T v _ (λb o p _ q=>B _ _ p q) (λn r e=>by rw[x]at e;cases e) λ_=>⟨k,U⟩
 |cons n i=>
  obtain⟨tn,hx⟩:=ki hi (j:=0) (by rw[x];rfl);refine qac (qcv (qdb G D hx λW C s1=>?_));have B:=s1.extBut;have H:=B _ _ y M;show wpAny _ A.in1 (updateSeq S _ >>= _) _ _ _;refine qac (qdK H U ?_);refine qaq ⟨qdn qc3 _,EZ V hi y J L i 1 _ n tn _ (by rw[x];rfl) (C.at λo q=>(qaT _ _ y).trans q) (Heap.IsList.at D λo q=>(qaT _ _ (qbr L)).trans (B _ _ J q)) (qch _ H U) λt' h' k=>?_⟩;exact T _ h' (λb o p u q=>k b o p u ((qaT _ _ (qbr u)).trans (B _ _ p q))) (λn' r' e=>by rw[x]at e;cases e;exact⟨t',U⟩) λe=>by rw[x]at e;cases e
theorem qw {Q:Value->qam->Prop} (V:A.handled=none) (hi:qcF g.toList ns) (D:s.heap.IsList l g) (N:z=[]\/∃ v,z=[(qee "default",v)]) (h0:ns=[]->z≠[])
  (h:∀ v h',(∀ b o,s.heap.get? b=some o->h'.get? b=some o)->(∀ n r,ns=n::r->∃ t,v=.int (uC r n) t)->(ns=[]->∃ k,z=[(k,v)])->Q v { s with heap:=h' }) :
  wpAny (model prog w) A (call (.builtin "max") [.ref l] z) Q E s:=by
 have Y:l<s.heap.objs.size:=by obtain⟨_,e,_⟩:=D;exact qaz e
 have O:(s.heap.push { cls:=.type "list_iterator",data:=.fields #[.ref l,.int 0 0] }).objs.size=s.heap.objs.size+1:=qbk ..
 have fin:∀ dd:List Value,z=dd.map _->wpAny (model prog w) A.in1 (do
   let it <-qhC _
   let b <-newList []
   qiG (.builtin "max.loop" ⟨[it,.none,b],dd.map λd=>(qee "default",d)⟩)) (λfin s'=>match fin with
   |.done f=>(match (Except.ok f) with|.ok (.ret v)=>Q v s'|.ok _=>False|.error e=>E e s')
   |.again c'=>c'.quiet=true/\qdM (model prog w) A c' (λr s'=>match r with|.ok (.ret v)=>Q v s'|.ok _=>False|.error e=>E e s') s') E s:=λdd hdd=>by
  refine qac (qdm D (qac (qcx ?_)));refine qaq ⟨qdn qc3 _,?_⟩;rw[<-hdd];refine ze V hi (by rw[O];exact qeG _) (qaD Y) (by rw[O];exact qaD (qaY Y))
   ⟨_,qah _ (qau _ U),U,U⟩ (Heap.IsList.at D λo q=>qah _ (qah _ q)) (qau _ U) (λv h' k W h2=>?_) (λe=>?_)
  ·refine h v h' (λb o q=>?_) W h2
   have hb:=qaz q;exact k b o (qaD hb) (by rw[O];exact qaD (qaY hb)) (qah _ (qah _ q))
  ·rcases N with N|⟨v,N⟩
   ·exact absurd N (h0 e)
   ·exact⟨_,v,N⟩
 rcases N with rfl|⟨v,rfl⟩
 ·refine gM F.kind_max F.plain_max F.entry_max (F.args_max1 _) ?_
  exact (fin [] U)
 ·refine gM F.kind_max F.plain_max F.entry_max (yI _ _) ?_
  exact (fin [v] U)
end
section
variable {K:qae}{X:Cx}{e a b:Expr}{es:List Expr}{pos:Pos}{f fa fb:Ef}{af:Af}
def lsI (st:Sto) (w:W):Option (List Int):=(lsD st w).bind aW
theorem yP (p:X.calm=true) {F:List (Str×Value)}{d:Option V}{ns:List Int}{l:List (Addr×Obj)}{J:St}{H:Hp}{s:qam}{ad:Addr}{Q:VK}{E:XK}{r:Int} (I:Inv X l J H s) (B:Rd H ad (.lst (ns.map V.int)))
  (g:(F=[]/\ns≠[])\/∃ c t,F=[(qee "default",.int c t)]/\(ns=[]->r=c)) (N:∀ n q,ns=n::q->r=uC q n) (q:Q (.int r) H) :
  wpAny (model X.prog X.w) X.A (call (.builtin "max") [.ref ad] F) (EP X l J Q) X.xe s:=by
 obtain⟨Y,A,pl,hz⟩:=I.list (.inl B);refine qw (I.ok.hd p) (by simpa using eP A) pl.isList ?_ ?_ λv h' kp y L=>?_
 ·rcases g with g|⟨c,t,g,_⟩
  ·exact .inl g.1
  ·exact .inr ⟨_,g⟩
 ·intro e z
  rcases g with g|⟨c,t,g,_⟩
  ·exact g.2 e
  ·rw[g]at z;cases z
 ·have O:∃ t,v=.int r t:=by
   cases m:ns with
   |nil=>
    obtain⟨k,o⟩:=L m;rcases g with g|⟨c,t,g,M⟩
    ·exact absurd m g.2
    ·rw[g]at o
     cases o;rw[M m];exact⟨t,U⟩
   |cons n q=>
    rw[N n q m];exact y n q m
  exact⟨.int r,H,I.kept kp,O,q⟩
def dMx (st:Sto):List W->Option D
 |[.d (.int i),.d (.int j)]=>some (.int (if j > i then j else i))
 |[w]=>(lsI st w).bind λns=>(DW ns none).map D.int
 |_=>none
theorem xJ {st:Sto}{H:Hp}{φ:List Addr}{w:W}{v:V}{ns:List Int} (S:Sr K H φ st) (r:Rw K H φ w v) (h:lsI st w=some ns):∃ ad,v=.ref ad/\Rd H ad (.lst (ns.map V.int)):=by
 obtain⟨ds,G,e2⟩:=qab.mp h;obtain⟨ad,R,rfl,y,L⟩:=lz S r G;cases ce e2;cases L.ints;exact⟨ad,U,y⟩
theorem wR (p:X.calm=true:=by rfl):gf K X (.builtin "max") dMx:=by
 refine⟨λst ws d h=>?_⟩;have one:∀ w,((lsI st w).bind λns=>(DW ns none).map D.int)=some d->bO X _ (rCD K st [w] d):=λw h=>by
  obtain⟨ns,G,h⟩:=qab.mp h;obtain⟨r,e2,rfl⟩:=qad.mp h;intro l s J H xs us Q I A q;obtain⟨φ,S,⟨v,rr,rfl,C,rfl⟩,q⟩:=q;obtain⟨ad,rfl,B⟩:=xJ S C G;obtain⟨u,rfl,P⟩:=jb A;cases P;refine yP (E:=λ_ _ _=>False) (d:=none) p I B (.inl ⟨U,λe=>by rw[e]at e2;cases e2⟩) (λn q m=>by rw[m]at e2;exact (qaQ e2).symm) (q _ H (aP.refl H) U)
 match ws,h with
 |[.d (.int i),.d (.int j)],h=>
  cases h;refine (yO p).imp ?_
  rintro R H Q ⟨φ,S,⟨v,r,rfl,C,u,r',rfl,T,rfl⟩,q⟩
  exact⟨i,j,by rw[C,T],q _ H (aP.refl H) U⟩
 |[w],h=>exact one w (by cases w with|h n=>exact h|d x=>cases x<;>exact h)
end
section
variable {K:qae}{X:Cx}
end
section
variable {K:qae}{X:Cx}{pos:Pos}{a b:Expr}{c:Af}
end
def vV (ds:List D):List W->Option (D×List D)
 |[.d (.int i)]=>(ixN ds.length i).bind λk=>(ds[k]?).bind λd=>if cQ d=true/\-(2^62)<=i/\i<2^62 then some (d,ds.eraseIdx k) else none
 |_=>none
section
variable {K:qae}{X:Cx}{pos:Pos}{e a b c:Expr}{es:List Expr}{f C P:Ef}{E:Af}
theorem Rls.erase {H:Hp}{φ:List Addr}:∀ {ds:List D}{s:List V} (n:Nat),Rls K H φ ds s->Rls K H φ (ds.eraseIdx n) (s.eraseIdx n)
 |[],_,_,h=>by cases h;exact U
 |d::ds,_,0,h=>by
  obtain⟨v,r,rfl,A,w⟩:=h;exact w
 |d::ds,_,n+1,h=>by
  obtain⟨v,r,rfl,A,w⟩:=h;exact⟨v,_,U,A,Rls.erase n w⟩
theorem qW {g:Pos} (O:IE K X a C) (N:IA K X (e::es) E) (o:qdo a "pop" X.env (eval a X.env)=eval a X.env:=by rfl)
  (p:(e::es).all av=true:=by rfl) (m:(e::es).length<30:=by decide) (l:(g.endLine==pos.line)=true:=by rfl) (L:X.K=K:=by rfl) :
  IE K X (.Call (.Attribute a "pop" g) (e::es) [] pos) (iN vV C E):=by
 refine Ak PySem.F.slot_list_pop PySem.F.type_list_pop AB (λH φ st n ad ds s ws T y Q S W M J u rw j q=>?_) (λds ws y h=>?_) O N o p m l L
 ·match ws,j with
  |[.d (.int i)],j=>
   simp only[vV,qab]at j;obtain⟨k,G,d,hd,j⟩:=j;split at j
   ·rename_i t
    cases j;obtain⟨v,r,rfl,I,rfl⟩:=rw;obtain⟨x,ex,F⟩:=u.get hd;refine⟨ad,s,i,k,x,U,by rw[I],J,by lia,by lia,by rw[<-u.length];exact (mO G).1,ex,q _ _ F (u.erase k) λb z=>?_⟩;obtain⟨R,B⟩:=ii t.1 F;rw[z]at B;cases B
   ·cases j
 ·match ws,h with
  |[.d (.int i)],h=>
   simp only[vV,qab]at h;obtain⟨k,G,d,hd,h⟩:=h;split at h
   ·rename_i t
    cases h;exact t.1
   ·cases h
end
def ay (f:Str) (a:Ef):Ef
 |env,st=>(a env st).bind λx=>match x.1 with
 |.d (.ob ns ds)=>((ns.zip ds).lookup f).map λd=>(.d d,x.2)
 | .h n=>(match x.2[n]? with
  |some (.o fs)=>(fs.lookup f).map λw=>(w,x.2)
  |_=>none)
 |_=>none
section
variable {K:qae}{H:Hp}{φ:List Addr}
theorem vf {f:Str}{d:D}:∀ {ns:List Str}{ds:List D}{b:List V},Rls K H φ ds b->(ns.zip ds).lookup f=some d->∃ v,(ns.zip b).lookup f=some v/\Rl K H φ d v/\f∈ns
 |[],ds,b,r,h=>by cases h
 |n::ns,[],b,r,h=>by cases h
 |n::ns,x::ds,b,r,h=>by
  obtain⟨v,k,rfl,j,c⟩:=r;rw[qea,qbv]at h ⊢;by_cases e:(f==n)=true
  ·rw[e]at h ⊢
   cases h;exact⟨v,U,j,by rw[beq_iff_eq.mp e];exact qag⟩
  ·rw[show (f==n)=false by simpa using e]at h ⊢
   obtain⟨l,o,t,s⟩:=vf c h;exact⟨l,o,t,qak _ s⟩
theorem Rfs.look {f:Str}{w:W}:∀ {fs:List (Str×W)}{b:List (Str×V)},Rfs K H φ fs b->fs.lookup f=some w->∃ v,b.lookup f=some v/\Rw K H φ w v/\∃ p∈fs,p.1=f
 |[],b,r,h=>by cases h
 |(n,x)::fs,b,r,h=>by
  obtain⟨v,k,rfl,j,c⟩:=r;rw[qbv]at h ⊢;by_cases e:(f==n)=true
  ·rw[e]at h ⊢
   cases h;exact⟨v,U,j,_,qag,(beq_iff_eq.mp e).symm⟩
  ·rw[show (f==n)=false by simpa using e]at h ⊢
   obtain⟨l,o,t,p,u,s⟩:=Rfs.look c h;exact⟨l,o,t,p,qak _ u,s⟩
theorem Rfs.length:∀ {fs:List (Str×W)}{b:List (Str×V)},Rfs K H φ fs b->fs.length=b.length
 |[],b,r=>by cases r;rfl
 |(n,x)::fs,b,r=>by
  obtain⟨v,k,rfl,j,c⟩:=r;rw[qar,qar,Rfs.length c]
theorem Rfs.mem {m:Nat}:∀ {fs:List (Str×W)}{b:List (Str×V)},Rfs K H φ fs b->W.h m∈fs.map (·.2)->m<φ.length
 |[],_,_,q=>nomatch q
 |(n,x)::fs,_,r,q=>by
  obtain⟨v,k,rfl,j,c⟩:=r;rcases qaA.mp q with z|z
  ·subst z
   obtain⟨a,e,_⟩:=j;exact (qat.mp e).1
  ·exact Rfs.mem c z
def oF (f:Str) (w:W):List (Str×W)->List (Str×W)
 |[]=>[(f,w)]
 |(g,x)::r=>if g=f then (g,w)::r else (g,x)::oF f w r
theorem Rfs.put {f:Str}{w:W}{v:V} (i:Rw K H φ w v):∀ {fs:List (Str×W)}{b:List (Str×V)},Rfs K H φ fs b->Rfs K H φ (oF f w fs) (gA f v b)
 |[],_,r=>by cases r;exact⟨v,_,U,i,U⟩
 |(g,x)::fs,_,r=>by
  obtain⟨l,k,rfl,j,c⟩:=r;unfold oF gA;by_cases e:g=f
  ·rw[iFP e,iFP e];exact⟨v,k,U,i,c⟩
  ·rw[iFN e,iFN e];exact⟨l,_,U,j,Rfs.put i c⟩
theorem oG {f:Str}{w:W}:∀ {fs:List (Str×W)}{p:Str×W},p∈oF f w fs->p∈fs\/p=(f,w)
 |[],p,h=>.inr (qal.mp h)
 |(g,x)::fs,p,h=>by
  unfold oF at h;by_cases e:g=f
  ·rw[iFP e]at h
   rcases qaA.mp h with z|z
   ·rw[e]at z;exact .inr z
   ·exact .inl (qak _ z)
  ·rw[iFN e]at h
   rcases qaA.mp h with z|z
   ·exact .inl (z ▸ qag)
   ·rcases oG z with z|z
    ·exact .inl (qak _ z)
    ·exact .inr z
theorem uT {f:Str}{v:V}:∀ {b:List (Str×V)},f∉b.map (·.1)->gA f v b=b++[(f,v)]
 |[],_=>rfl
 |(g,x)::b,h=>by
  unfold gA;rw[iFN (by intro e;exact h (e ▸ qag)),uT λz=>h (qak _ z)];rfl
theorem Rfs.keys:∀ {fs:List (Str×W)}{b:List (Str×V)},Rfs K H φ fs b->b.map (·.1)=fs.map (·.1)
 |[],b,r=>by cases r;rfl
 |(n,x)::fs,b,r=>by
  obtain⟨v,k,rfl,j,c⟩:=r;rw[qas,qas,Rfs.keys c]
theorem Rfs.snoc {f:Str}{w:W}{v:V} (i:Rw K H φ w v):∀ {fs:List (Str×W)}{b:List (Str×V)},Rfs K H φ fs b->Rfs K H φ (fs++[(f,w)]) (b++[(f,v)])
 |[],_,r=>by cases r;exact⟨v,_,U,i,U⟩
 |(g,x)::fs,_,r=>by
  obtain⟨l,k,rfl,j,c⟩:=r;exact⟨l,_,U,j,Rfs.snoc i c⟩
end
section
variable {K:qae}{X:Cx}{pos j:Pos}{e o:Expr}{N fb:Ef}{f:Str}
theorem mw (h:IE K X e N) (hb:qdo e f X.env (eval e X.env)=eval e X.env:=by rfl) (W:X.K=K:=by rfl):IE K X (.Attribute e f pos) (ay f N):=by
 subst W;refine⟨λenv st r b=>?_⟩;simp only[ay,qab]at b;obtain⟨⟨x,s1⟩,hx,b⟩:=b;refine (Fo (h.run _ _ _ hx) hb).imp ?_
 rintro σ H Q ⟨φ,I,C,q⟩
 refine⟨φ,I,C,λv H1 i A t O=>?_⟩;cases x with
 |d x=>
  cases x with
  |ob ns ds=>
   obtain⟨d,hd,rfl⟩:=qad.mp b;obtain⟨a,Cl,s,fs,G,rfl,h0,B,rfl,h3,F,y,h6,h7⟩:=O;obtain⟨u,hu,Y,hf⟩:=vf h7 hd;exact⟨a,Cl,s,_,u,U,B,y,h6 f hf,hu,q u H1 i A t Y⟩
  |_=>cases b
 |h n=>
  dsimp only at b;split at b
  ·rename_i fs k
   obtain⟨w,hw,rfl⟩:=qad.mp b;obtain⟨a,P,rfl⟩:=O;obtain⟨Cl,s,G,B,L,h3,F,y⟩:=t.at_ n a _ P k;obtain⟨u,hu,Y,p,S,rfl⟩:=L.look hw;exact⟨a,Cl,s,G,u,U,B,F,y p S,hu,q u H1 i A t Y⟩
  ·cases b
def lO (f:Str) (o v:Ef):Sf
 |env,st=>(v env st).bind λM=>(o env M.2).bind λJ=>match J.1,M.1 with
 | .h n,.d x=>(match J.2[n]? with
  |some (.o fs)=>if fs.length<1000/\(fs.lookup f).isSome=true then some (.nx env (J.2.set n (.o (oF f (.d x) fs)))) else none
  |_=>none)
 |_,_=>none
theorem mH (ho:IE K X o N) (hv:IE K X e fb) (hs:qcM e (some (.Attribute o f j)) pos.line X.env=pure false:=by rfl) (W:X.K=K:=by rfl):IS K X (.Assign [.Attribute o f j] e pos) (lO f N fb):=by
 subst W;refine⟨λenv st r b=>?_⟩;simp only[lO,qab]at b;obtain⟨⟨M,s1⟩,ev,⟨J,E⟩,eo,b⟩:=b;cases J with
 |d x=>cases b
 |h n=>
  cases M with
  |h m=>cases b
  |d x=>
   dsimp only at b;split at b
   case h_2=>cases b
   rename_i fs k;split at b
   case isFalse=>cases b
   rename_i hc;cases b;refine (Bb (ho.run _ _ _ eo) (hv.run _ _ _ ev) hs).imp ?_
   rintro D σ H ⟨φ,I,C,q⟩
   refine⟨φ,I,C,λv H1 i A s1 O=>⟨i,I.fw C A,s1,λu H2 φ2 f2 E w2=>?_⟩⟩;obtain⟨a,P,rfl⟩:=w2;obtain⟨Cl,s,G,B,L,h3,F,y⟩:=E.at_ n a _ P k;obtain⟨w0,R⟩:=qcL.mp hc.2;obtain⟨u0,hu0,ru0,p,S,V⟩:=L.look R;have na:=V ▸ y p S;refine⟨a,Cl,s,G,U,B,F,na,by rw[<-L.length];exact hc.1,?_⟩
   obtain⟨f3,s3⟩:=E.putC (o:=.ins Cl s (gA f v G)) (c:=.o (oF f (.d x) fs)) P λg=>⟨Cl,s,_,upd_same,(Rfs.put (O.fw s1 f2) L).fw E g,(λm hm=>by
    obtain⟨p',l,T⟩:=qay.mp hm;rcases oG l with z|z
    ·exact h3 m (T ▸ qd1 (f:=(·.2)) z)
    ·rw[z]at T;cases T),F,(λp' l=>by
    rcases oG l with z|z
    ·exact y p' z
    ·rw[z];exact na)⟩
   exact q σ _ φ2 ((A.trans f2).trans f3) (((I.fw C A).fw s1 f2).fw E f3) s3
end
section
variable {K:qae}{X:Cx}{pos:Pos}{a e:Expr}{fa:Ef}{af:Af}
def Ah (o:Ef) (a:Af):Ef
 |env,st=>(o env st).bind λx=>(a env x.2).bind λr=>match x.1,r.1 with
 |.d (.lst ds),[.d (.int k)]=>(aW ds).bind λns=>if ns.length<=1000 then (ns.idxOf? k).map λj=>(.d (.int (j:Nat)),r.2) else none
 |_,_=>none
def Ih (X:Cx):V->List V->Hp->VK->Prop:=λx xs H Q=>∃ (p:Addr) (ns:List Int) (k:Int) (j:Nat),x=.ref p/\xs=[.int k]/\SqL X.K H p (ns.map V.int)/\ns.length<=1000/\ns.idxOf? k=some j/\Q (.int (j:Nat)) H
theorem EG:∀ {ns:List Int}{k:Int}{j:Nat},ns.idxOf? k=some j->j<ns.length/\ns[j]?=some k/\∀ i,i<j->ns[i]?≠some k:=by
 intro ns k j h;obtain⟨T,h3,h4⟩:=(qgy.mp h);refine⟨T,by rw[qai T,h3],λi hi z=>?_⟩;rw[qai (qeW hi T)]at z;exact h4 i hi (qaQ z)
theorem E4:MtR X "list.index" (Ih X):=by
 intro pins s σ H x xs v us Q I rx rv h;obtain⟨p,ns,k,j,rfl,rfl,G,W,N,q⟩:=h;cases rx;obtain⟨u,rfl,ru⟩:=rv.one;obtain⟨t,rfl⟩:=ru;obtain⟨g,r,pl,hz⟩:=I.list G;obtain⟨j1,j2,j3⟩:=EG N;have w:g.length=ns.length:=by rw[<-r.length,qaf]
 have at_:∀ (i:Nat) (hi:i<g.length),∃ t,∃ F:i<ns.length,g[i]=.int ns[i] t:=λi hi=>by
  obtain⟨h',q'⟩:=r.at i hi;have F:i<ns.length:=by rw[<-w];exact hi
  rw[(qcz ..)]at q';obtain⟨t,e'⟩:=q';exact⟨t,F,e'⟩
 obtain⟨⟨c,dd,dt,sl⟩,eo,hc,n,hd⟩:=pl.isList;subst hc hd;have D:j<g.length:=by rw[w];exact j1
 refine qc9 qf6 ⟨_,eo,U⟩ PySem.F.entry_list_index (PySem.F.args_list_index_2 _ _) (qjU p g.toArray n dd sl _ _ j (by simpa using D) (by lia) ?_ (λm Y P=>?_)) ⟨eo,λy hy=>(eq_isInt k t (eP r) y (by simpa using hy)).at _ _,?_⟩
 ·obtain⟨t',F,e⟩:=at_ j D
  rw[qai F]at j2
  have:g.toArray[j]'(by simpa using D)=.int k t':=by simpa [qaQ j2] using e
  rw[this];simp[isInt]
 ·have M:=by simpa using Y
  obtain⟨t',F,e⟩:=at_ m M
  have:g.toArray[m]'Y=.int ns[m] t':=by simpa using e
  rw[this]
  have:=j3 m P
  rw[qai F]at this;have O:ns[m]≠k:=λz=>this (by rw[z]);simp[isInt,O]
 ·exact⟨.int _,H,I.kept λb o e=>e,⟨_,U⟩,q⟩
theorem qR {A:Pos} (ho:IE K X a fa) (ha:IA K X [e] af) (E:qdo a "index" X.env (eval a X.env)=eval a X.env:=by rfl)
  (l:[e].all av=true:=by rfl) (B:(A.endLine==pos.line)=true:=by rfl) (hK:X.K=K:=by rfl) :
  IE K X (.Call (.Attribute a "index" A) [e] [] pos) (Ah fa af):=by
 subst hK;have C:av e=true:=by rw[qbD,qbg]at l;exact l.1
 refine⟨λenv st r f=>?_⟩;simp only[Ah,qab]at f;obtain⟨⟨x,s1⟩,hx,⟨ws,s2⟩,hw,f⟩:=f;dsimp only at f;split at f
 case h_2=>cases f
 rename_i ds k;simp only[qab]at f;obtain⟨ns,hns,f⟩:=f;split at f
 case isFalse=>cases f
 rename_i W;obtain⟨j,N,rfl⟩:=qad.mp f;have R:=ce hns;subst R;refine (D1 qf7 qf6 PySem.F.type_list_index E4 (ho.run _ _ _ hx) (ha.run _ _ _ hw) E (u5 l (by show 1<30;decide)) B (aS C) (bC U)).imp ?_
 rintro σ H Q ⟨φ,hE,hS,q⟩
 refine⟨φ,hE,hS,λv H1 L f1 S1 w1=>?_⟩;obtain⟨p,vs,rfl,h0,G,J⟩:=w1;have ev:=Rls.ints J;subst ev;refine⟨.inl ⟨U,_,.inl G⟩,L,hE.fw hS f1,S1,λus H2 S f2 S2 w2=>?_⟩;obtain⟨y,us',rfl,ry,rfl⟩:=w2;cases (show y=.int k from ry);exact⟨p,ns,k,j,U,U,.inl (G.fw f2 h0),W,N,q _ H2 S (f1.trans f2) S2 U⟩
end
section
variable {K:qae}{H:Hp}{φ ψ:List Addr}{x Cl L:Addr}{xs:List (Str×V)}{o:HO}
theorem Rl.chx (t:H x=some (.ins Cl L xs)) (A:xs.length<=5) (j:∀ a∈ψ,a=x):∀ {d:D}{v:V},Rl K H φ d v->Rl K (upd H x o) (φ++ψ) d v:=by
 have ne:∀ {a:Addr}{u:HO},H a=some u->(∀ C d f,u≠.ins C d f)->a≠x:=λ{a u} h q z=>by
  subst z;rw[t]at h;cases h;exact q _ _ _ U
 have nin:∀ {a:Addr},a≠x->a∉φ->a∉φ++ψ:=λ{a} n h z=>by
  rcases qaG.mp z with z|z
  ·exact h z
  ·exact n (j a z)
 intro d v;refine (?_:∀ v,Rl K H φ d v->Rl K _ _ d v) v;refine D.rec (motive_2:=λds=>∀ g,Rls K H φ ds g->Rls K (upd H x o) (φ++ψ) ds g) ?_ ?_ ?_ ?_ ?_ ?_ ?_ ?_ ?_ ?_ ?_ ?_ d
 ·exact λv h=>h
 ·exact λb v h=>h
 ·exact λb v h=>h
 ·exact λb v h=>h
 ·exact λb v h=>h
 ·rintro v ⟨a,e,N,h⟩
  rcases h with⟨d,h⟩|⟨d,h⟩
  ·have n:=ne h (by intros;simp)
   exact⟨a,e,nin n N,.inl ⟨d,by rw[upd_ne n];exact h⟩⟩
  ·have n:=ne h (by intros;simp)
   exact⟨a,e,nin n N,.inr ⟨d,by rw[upd_ne n];exact h⟩⟩
 ·rintro ns v ⟨a,e,h⟩
  rcases h with⟨ob,h⟩|h
  ·exact⟨a,e,.inl ⟨ob,by rw[upd_ne (ne h (by intros;simp))];exact h⟩⟩
  ·exact⟨a,e,.inr h⟩
 ·rintro ds B v ⟨a,g,rfl,p,s⟩
  exact⟨a,g,U,by rw[upd_ne (ne p (by intros;simp))];exact p,B g s⟩
 ·rintro ds B v ⟨a,g,rfl,F,p,s⟩
  rcases p with p|⟨ob,p⟩
  ·have n:=ne p (by intros;simp)
   exact⟨a,g,U,nin n F,.inl (by rw[upd_ne n];exact p),B g s⟩
  ·have n:=ne p (by intros;simp)
   exact⟨a,g,U,nin n F,.inr ⟨ob,by rw[upd_ne n];exact p⟩,B g s⟩
 ·rintro ns ds B v ⟨a,C',I,fs,g,rfl,F,p,s,Q,R,P,S,T⟩
  have n:a≠x:=λz=>by
   subst z;rw[t]at p;cases p;rw[s,qhW]at A;lia
  exact⟨a,C',I,fs,g,U,nin n F,by rw[upd_ne n];exact p,s,Q,R,P,S,B g T⟩
 ·exact λg h=>h
 ·rintro d ds J G g ⟨v,r,rfl,p,s⟩;exact⟨v,r,U,J v p,G r s⟩
variable (t:H x=some (.ins Cl L xs)) (A:xs.length<=5) (j:∀ a∈ψ,a=x)
include t A j
theorem Rls.chx:∀ {ds:List D}{g:List V},Rls K H φ ds g->Rls K (upd H x o) (φ++ψ) ds g
 |[],_,h=>h
 |d::ds,_,h=>by
  obtain⟨v,r,rfl,p,s⟩:=h;exact⟨v,r,U,Rl.chx t A j p,Rls.chx s⟩
theorem Rw.chx {w:W}{v:V} (h:Rw K H φ w v):Rw K (upd H x o) (φ++ψ) w v:=by
 cases w with
 |d y=>exact Rl.chx t A j h
 |h n=>
  obtain⟨a,e,rfl⟩:=h;exact⟨a,by rw[qaI (qat.mp e).1];exact e,U⟩
theorem Rws.chx:∀ {ds:List W}{g:List V},Rws K H φ ds g->Rws K (upd H x o) (φ++ψ) ds g
 |[],_,h=>h
 |d::ds,_,h=>by
  obtain⟨v,r,rfl,p,s⟩:=h;exact⟨v,r,U,Rw.chx t A j p,Rws.chx s⟩
theorem Rkv.chx:∀ {ds:List (List Int×D)}{g:List (List Key×V)},Rkv K H φ ds g->Rkv K (upd H x o) (φ++ψ) ds g
 |[],_,h=>h
 |(k,d)::ds,_,h=>by
  obtain⟨v,r,rfl,p,s⟩:=h;exact⟨v,r,U,Rl.chx t A j p,Rkv.chx s⟩
theorem Rkk.chx:∀ {ds:List (Int×D)}{g:List (Key×V)},Rkk K H φ ds g->Rkk K (upd H x o) (φ++ψ) ds g
 |[],_,h=>h
 |(k,d)::ds,_,h=>by
  obtain⟨v,r,rfl,p,s⟩:=h;exact⟨v,r,U,Rl.chx t A j p,Rkk.chx s⟩
theorem Rfs.chx:∀ {ds:List (Str×W)}{g:List (Str×V)},Rfs K H φ ds g->Rfs K (upd H x o) (φ++ψ) ds g
 |[],_,h=>h
 |(k,d)::ds,_,h=>by
  obtain⟨v,r,rfl,p,s⟩:=h;exact⟨v,r,U,Rw.chx t A j p,Rfs.chx s⟩
theorem Rc.chx {k:Nat}{a:Addr}{c:C} (E:a≠x) (h:Rc K H φ k a c):Rc K (upd H x o) (φ++ψ) k a c:=by
 cases c with
 |l ds=>obtain⟨g,q,r⟩:=h;exact⟨g,by rw[upd_ne E];exact q,Rls.chx t A j r⟩
 |n ds=>obtain⟨g,q,r,b⟩:=h;exact⟨g,by rw[upd_ne E];exact q,Rws.chx t A j r,b⟩
 |m ds=>obtain⟨g,q,r⟩:=h;exact⟨g,by rw[upd_ne E];exact q,Rkv.chx t A j r⟩
 |k ds=>obtain⟨g,q,r⟩:=h;exact⟨g,by rw[upd_ne E];exact q,Rkk.chx t A j r⟩
 |o ds=>obtain⟨C',O,g,q,r,b⟩:=h;exact⟨C',O,g,by rw[upd_ne E];exact q,Rfs.chx t A j r,b⟩
theorem Er.chx {env:Ev}{M:St} (h:Er K H φ env M):Er K (upd H x o) (φ++ψ) env M:=
 ⟨h.len,λi w e=>let ⟨v,e1,r⟩:=h.at_ i w e;⟨v,e1,Rw.chx t A j r⟩⟩
end
section
variable {K:qae}{H:Hp}{φ:List Addr}{x Cl j:Addr}{xs:List (Str×V)}{o:HO}{st:Sto}
theorem Sr.chx0 (S:Sr K H φ st) (i:H x=some (.ins Cl j xs)) (f:xs.length<=5) (e:x∉φ):Sr K (upd H x o) φ st:=by
 refine⟨S.nd,S.len,λn a c d e2=>?_⟩
 have:=Rc.chx (o:=o) (ψ:=[]) i f (λa z=>nomatch z) (λz=>e (z ▸ qby d)) (S.at_ n a c d e2)
 rw[(qcg _)]at this;exact this
theorem Sr.chx1 (S:Sr K H φ st) (i:H x=some (.ins Cl j xs)) (f:xs.length<=5) (e:x∉φ) {c:C} (m:Rc K (upd H x o) (φ++[x]) st.length x c):Sr K (upd H x o) (φ++[x]) (st++[c]):=by
 refine⟨qcs.mpr ⟨S.nd,qcb.mpr ⟨qbM,qcW⟩,λa l b hb z=>by rw[qal.mp hb]at z;exact e (z ▸ l)⟩,by rw[qav,qav,S.len];rfl,λn a p d e2=>?_⟩;by_cases h:n<φ.length
 ·rw[qaI h]at d
  rw[qaI (by rw[<-S.len];exact h)]at e2;exact Rc.chx i f (λa z=>qal.mp z) (λz=>e (z ▸ qby d)) (S.at_ n a p d e2)
 ·have k:=(qat.mp d).1
  rw[qav,qcf]at k;have g:n=φ.length:=by lia
  subst g;rw[qaO (qap _),qeV]at d;rw[S.len,qaO (qap _),qeV]at e2;cases d;cases e2;rw[S.len];exact m
end
def q9:List (Str×Ef)->Ev->Sto->Option (List (Str×W)×Sto)
 |[],_,st=>some ([],st)
 |(f,g)::r,env,st=>(g env st).bind λx=>(q9 r env x.2).map λy=>((f,x.1)::y.1,y.2)
structure FwX (x:Addr) (φ φ':List Addr) (H H':Hp):Prop where
 ext:∃ ψ,φ'=φ++ψ/\∀ a∈ψ,H a=none\/a=x
 keep:∀ b o,b∉φ->b≠x->H b=some o->H' b=some o
 there:∀ b o,H b=some o->∃ o',H' b=some o'
theorem FwX.pre {x:Addr}{φ a i:List Addr}{H H1 H2:Hp}{o m:HO} (r:H x=some m) (p:x∉a) (f:Fw φ a H H1) (g:FwX x a i (upd H1 x o) H2):FwX x φ i H H2:=by
 obtain⟨ψ,rfl,k⟩:=f.ext;obtain⟨n,rfl,e2⟩:=g.ext;have l:∀ b u,H b=some u->∃ d,upd H1 x o b=some d:=λb u h=>by
  by_cases z:b=x
  ·exact⟨o,by rw[z,upd_same]⟩
  ·obtain⟨d,h'⟩:=f.there b u h
   exact⟨d,by rw[upd_ne z];exact h'⟩
 refine⟨⟨_,by rw[qbO],λc j=>?_⟩,λc u j e h=>?_,λc u h=>?_⟩
 ·rcases qaG.mp j with z|z
  ·exact .inl (k c z)
  ·rcases e2 c z with q|q
   ·left
    cases q':H c with
    |none=>rfl
    |some u=>
     obtain⟨d,h'⟩:=l c u q';rw[q]at h';cases h'
   ·exact .inr q
 ·refine g.keep c u (λz=>?_) e (by rw[upd_ne e];exact f.keep c u j h)
  rcases qaG.mp z with z|z
  ·exact j z
  ·rw[k c z]at h;cases h
 ·obtain⟨d,h'⟩:=l c u h
  exact g.there c d h'
def Ir (K:qae) (g:List (Str×Ef)) (env:Ev) (st:Sto) (y:List (Str×W)×Sto):TS:=λD b H=>∃ φ x Cl c xs fs,Er K H φ env b/\Sr K H φ st/\b[0]?=some (some (.ref x))/\x∉φ/\H x=some (.ins Cl c xs)/\Rfs K H φ fs xs/\
 Cls K Cl/\(∀ p∈fs,cI K Cl p.1)/\(∀ p∈g,cI K Cl p.1)/\fs.length+g.length=6/\(∀ p∈g,p.1∉fs.map (·.1))/\(g.map (·.1)).Nodup/\
 ∀ H' a,FwX x φ a H H'->Sr K H' a (y.2++[.o (fs++y.1)])->a[y.2.length]?=some x->D.nx b H'
structure INI (K:qae) (X:Cx) (ss:List Stmt) (g:List (Str×Ef)):Prop where
 run:∀ env st y,q9 g env st=some y->PSs X ss (Ir K g env st y)
section
variable {K:qae}{X:Cx}{e:Expr}{G:Ef}{f:Str}{ss:List Stmt}{g:List (Str×Ef)}{pos c p1:Pos}
theorem ue {env:Ev}{st:Sto}{w:W}{s1:Sto} (N:X.N[0]?=some ("self" : Str)) (P:Vis X.env.scope "self") (Q:IE K X e G) (R:G env st=some (w,s1)) (S:X.K=K)
  (T:qcM e (some (.Attribute (.Name "self" p1) f c)) pos.line X.env=pure false) :
  PS X (.Assign [.Attribute (.Name "self" p1) f c] e pos) (λD I H=>∃ φ x Cl j xs,Er K H φ env I/\Sr K H φ st/\I[0]?=some (some (.ref x))/\x ∉ φ/\H x=some (.ins Cl j xs)/\Cls K Cl/\cI K Cl f/\xs.length<=5/\f ∉ xs.map (·.1)/\
   ∀ v H1 d,Fw φ d H H1->Sr K H1 d s1->Rw K H1 d w v->x∉d->H1 x=some (.ins Cl j xs)->D.nx I (upd H1 x (.ins Cl j (xs++[(f,v)])))):=by
 subst S;refine (Bb (jS N P) (Q.run _ _ _ R) T).imp ?_
 rintro D I H ⟨φ,x,Cl,j,xs,M,A,F,E,s,r,C,h6,B,q⟩
 refine⟨φ,M,A,λv H1 d l k J=>⟨_,F,x,Cl,j,xs,U,l.keep _ _ E s,r,C,by lia,?_⟩⟩;rw[uT B];exact q v H1 d l k J (l.nin E s) (l.keep _ _ E s)
theorem Cr (N:X.N[0]?=some ("self" : Str)) (P:Vis X.env.scope "self") (Q:IE K X e G) (S:X.K=K:=by rfl)
  (T:qcM e (some (.Attribute (.Name "self" p1) f c)) pos.line X.env=pure false:=by rfl):INI K X [.Assign [.Attribute (.Name "self" p1) f c] e pos] [(f,G)]:=by
 refine⟨λenv st y t=>?_⟩;simp only[q9,qab,qaj]at t;obtain⟨⟨w,s1⟩,R,t⟩:=t;cases t;refine (ye (ue N P Q R S T)).imp ?_
 rintro D I H ⟨φ,x,Cl,j,xs,fs,M,A,F,E,s,r,C,h6,B,V,Y,n,q⟩
 have hl:xs.length=5:=by rw[<-r.length];simpa using V
 have nf:f∉xs.map (·.1):=by rw[r.keys];exact Y _ qag
 refine⟨φ,x,Cl,j,xs,M,A,F,E,s,C,B _ qag,by lia,nf,λv H1 d l k J L i=>?_⟩;have r1:=r.fw A l;have w2:=Rw.chx (o:=.ins Cl j (xs++[(f,v)])) i (by lia) (λa z=>qal.mp z) J
 refine q _ _ ?_ (k.chx1 i (by lia) L ⟨Cl,j,_,upd_same,Rfs.snoc w2 (Rfs.chx (o:=.ins Cl j (xs++[(f,v)])) (ψ:=[x]) i (by lia) (λa z=>qal.mp z) r1),λm hm=>by rw [<-k.len];exact (Rfs.snoc (f:=f) J r1).mem hm,C,λp u=>by
  rcases qaG.mp u with z|z
  ·exact h6 p z
  ·rw[qal.mp z];exact B _ qag⟩) (by rw[<-k.len,qaO (qap _),qeV];rfl)
 refine FwX.pre s L l ⟨⟨_,U,λa z=>.inr (qal.mp z)⟩,λb o _ _ h=>h,λb o h=>⟨o,h⟩⟩
theorem iO (N:X.N[0]?=some ("self" : Str)) (P:Vis X.env.scope "self") (Q:IE K X e G) (hr:INI K X ss g) (hg:g≠[]:=by intro z;cases z) (S:X.K=K:=by rfl)
  (T:qcM e (some (.Attribute (.Name "self" p1) f c)) pos.line X.env=pure false:=by rfl):INI K X (.Assign [.Attribute (.Name "self" p1) f c] e pos::ss) ((f,G)::g):=by
 refine⟨λenv st y t=>?_⟩;simp only[q9,qab]at t;obtain⟨⟨w,s1⟩,R,t⟩:=t;obtain⟨y',hy',rfl⟩:=qad.mp t;refine (dL (ue N P Q R S T) (hr.run _ _ _ hy')).imp ?_
 rintro D I H ⟨φ,x,Cl,j,xs,fs,M,A,F,E,s,r,C,h6,B,V,Y,n,q⟩
 have hg1:=qg3.mpr hg;have hl:xs.length<=4:=by rw[<-r.length];rw[qar]at V;lia
 have nf:f∉xs.map (·.1):=by rw[r.keys];exact Y _ qag
 refine⟨φ,x,Cl,j,xs,M,A,F,E,s,C,B _ qag,by lia,nf,λv H1 d l k J L i=>?_⟩;have r2:=Rfs.chx (o:=.ins Cl j (xs++[(f,v)])) (ψ:=[]) i (by lia) (λa z=>nomatch z) (r.fw A l)
 have w2:=Rw.chx (o:=.ins Cl j (xs++[(f,v)])) (ψ:=[]) i (by lia) (λa z=>nomatch z) J
 have O:=Er.chx (o:=.ins Cl j (xs++[(f,v)])) (ψ:=[]) i (by lia) (λa z=>nomatch z) (M.fw A l)
 rw[(qcg _)]at r2 w2 O;rw[qas,qcb]at n;refine⟨d,x,Cl,j,_,_,O,k.chx0 i (by lia) L,F,L,upd_same,Rfs.snoc w2 r2,C,λp u=>?_,λp u=>B p (qak _ u),by rw[qav,qcf];rw[qar]at V;lia,λp u z=>?_,n.2,λH' φ' fx S' ex=>?_⟩
 ·rcases qaG.mp u with z|z
  ·exact h6 p z
  ·rw[qal.mp z];exact B _ qag
 ·rw[qbs]at z
  rcases qaG.mp z with z|z
  ·exact Y p (qak _ u) z
  ·rw[qas,qbL,qal]at z
   exact n.1 (z ▸ qd1 u)
 ·rw[qbO]at S'
  exact q H' φ' (FwX.pre s L l fx) S' ex
end
def Du (K:qae) (n:Nat) (ps:Nat) (g:List (Str×Ef)):Sp:=λd H Q _=>∃ φ st ws y x c Cl a H1,d=.ref x::a/\ws.length+1=ps/\q9 g (none::(ws.map some++qaL (n - ps) none)) st=some y/\Rws K H1 φ ws a/\Sr K H1 φ st/\H1 x=none/\H1 c=none/\c≠x/\
 H=upd (upd H1 c (.own x)) x (.ins Cl c [])/\Cls K Cl/\(∀ p∈g,cI K Cl p.1)/\g.length=6/\(g.map (·.1)).Nodup/\∀ H' b,Fw φ b H1 H'->Sr K H' b (y.2++[.o y.1])->b[y.2.length]?=some x->Q .non H'
theorem Gp {P:qaR}{w:World}{K:qae}{mg:Str->Option Value}{base:Heap}{x c:Str}{st:Stmt}{f:Addr}{fd:qcd}{N ps:List Str}{k:Nat}{g:List (Str×Ef)} (F:Fun K x c st f fd) (S:cC N ps (aq st)) (hN:ps.length<=N.length)
  (hb:∀ (j:Value) (A:qaZ) (outer:List Env) (s:qam) (H:Hp) (E:XK),bH k (A.deeper (qeL c (aq st) s.heap.objs.size f j))->INI K (gh CX0 P w K mg base N c (aq st) f j A outer s H E).nox (bf st) g) :
  dU P w K mg base CX0 (k+1) f fd ps (Du K N.length ps.length g):=by
 refine F.ok S (λV H Q E h=>?_) λj A outer s H V Q E O h=>?_
 ·obtain⟨φ,st,ws,y,x,n,Cl,l,H1,rfl,t,e,rw,_⟩:=h
  rw[qar,<-rw.length,t]
 ·obtain⟨φ,J,ws,y,x,n,Cl,l,H1,rfl,t,e,rw,S',r,hd,m,rfl,T,hA,X,u,q⟩:=h
  refine⟨_,(hb j A outer s _ E O).run _ _ _ e,φ,x,Cl,n,_,[],?_,?_,?_,?_,upd_same,U,T,λp M=>(nomatch M),hA,by simpa using X,λp _ z=>(nomatch z),u,λH' B C S2 ex=>?_⟩
  ·have sm:aP H1 (upd (upd H1 n (.own x)) x (.ins Cl n [])):=(aP.new hd _).trans (aP.new (by rw[upd_ne (qbr m)];exact r) _)
   have D:=nF (N:=N) (ws:=.d .non::ws) ⟨_,l,U,U,(rw.fw S' (Fw.same sm))⟩ (by exact t);refine⟨?_,λi w G=>?_⟩
   ·have:=D.len
    unfold i9 at this ⊢
    simp at this ⊢
    lia
   ·cases i with
    |zero=>cases G
    |succ i=>
     obtain⟨v,I,L⟩:=D.at_ (i+1) w G;refine⟨v,?_,L⟩;unfold i9 at I ⊢;simpa using I
  ·exact S'.same ((aP.new hd _).trans (aP.new (by rw[upd_ne (qbr m)];exact r) _))
  ·rfl
  ·exact S'.nin r
  ·refine q H' B ?_ S2 ex
   obtain⟨ψ,rfl,R⟩:=C.ext;have sm:aP H1 (upd (upd H1 n (.own x)) x (.ins Cl n [])):=(aP.new hd _).trans (aP.new (by rw[upd_ne (qbr m)];exact r) _);refine⟨⟨ψ,U,λa W=>?_⟩,λb o hb h=>?_,λb o h=>C.there b o (sm b o h)⟩
   ·rcases R a W with z|z
    ·cases q':H1 a with
     |none=>rfl
     |some o=>rw[sm a o q']at z;cases z
    ·rw[z];exact r
   ·exact C.keep b o hb (λz=>by rw[z,r]at h;cases h) (sm b o h)
def pO (n ps:Nat) (g:List (Str×Ef)) (a:Af):Ef
 |env,st=>(a env st).bind λr=>if r.1.length+1=ps then (q9 g (none::(r.1.map some++qaL (n - ps) none)) r.2).map λy=>(.h y.2.length,y.2++[.o y.1]) else none
theorem Cq {K:qae}{X:Cx}{x:Str}{k j:Nat}{m Cl:Addr}{fd:qcd}{N ps:List Str}{g:List (Str×Ef)}{p pos:Pos}{e:Expr}{es:List Expr}{l:Af} (M:Mk X.K Cl m) (F:dU X.prog X.w X.K X.mg X.base CX0 j m fd ps (Du K N.length ps.length g)) (a:j<=k) (w:bH (k+1) X.A) (hg:Gl X x) (o:X.mg x=some (.ref Cl)) (hb:dD X.K fd ps [])
  (D:Cls K Cl) (hA:∀ p∈g,cI K Cl p.1) (P:g.length=6) (c:(g.map (·.1)).Nodup)
  (J:IA K X (e::es) l) (i:(x==("__debug__" : Str))=false:=by decide) (O:av e=true:=by rfl) (s:es.all av=true:=by rfl) :
  IE K X (.Call (.Name x p) (e::es) [] pos) (pO N.length ps.length g l):=by
 refine⟨λenv st r h=>?_⟩;simp only[pO,qab]at h;obtain⟨y,I,h⟩:=h;split at h
 case isFalse=>cases h
 rename_i n;obtain⟨z,u,rfl⟩:=qad.mp h;refine (C0 M (F.mono a) w hg o hb .nil AR (J.run _ _ _ I) i (aS O) (bC s)).imp ?_
 rintro R H Q ⟨φ,L,t,q⟩
 refine⟨φ,L,t,λG H1 b v s1 C=>λx A B hd f=>?_⟩;rw[qcg];refine⟨b,_,_,z,x,A,Cl,G,H1,U,n,u,C,s1,B,hd,f,U,D,hA,P,c,λH' d E S2 ex=>⟨U,?_⟩⟩;exact q _ H' d (v.trans E) S2 ⟨x,ex,U⟩
def vwF (st:Sto):List (Str×W)->Option (List D)
 |[]=>some []
 |(_,.d x)::r=>(vwF st r).map λy=>x::y
 |(_,.h m)::r=>(lg st m).bind λds=>(vwF st r).map λy=>.lst ds::y
def vwW (st:Sto):W->Option W
 |.d x=>some (.d x)
 |.h n=>match st[n]? with
  |some (.o fs)=>if 5<fs.length then (vwF st fs).map λds=>.d (.ob (fs.map (·.1)) ds) else none
  |some (.l ds)=>some (.d (.lst ds))
  |_=>none
def vwA (st:Sto):List W->Option (List W)
 |[]=>some []
 |w::ws=>(vwW st w).bind λx=>(vwA st ws).map λy=>x::y
mutual
def okT:D->Bool
 |.non=>true
 |.bl _=>true
 |.int _=>true
 |.str _=>true
 |.tup ds=>v8 ds
 |_=>false
def v8:List D->Bool
 |[]=>true
 |d::ds=>okT d&&v8 ds
end
section
variable {K:qae}{H:Hp}{φ φ':List Addr}
mutual
theorem Rl.any:∀ {d:D}{v:V},okT d=true->Rl K H φ d v->Rl K H φ' d v
 |.non,_,_,h=>h
 |.bl _,_,_,h=>h
 |.int _,_,_,h=>h
 |.str _,_,_,h=>h
 |.tup ds,_,o,h=>by
  obtain⟨a,vs,rfl,h1,h2⟩:=h;exact⟨a,vs,U,h1,Rls.any (by rw[okT]at o;exact o) h2⟩
 |.ty _,_,o,_=>by rw[okT]at o<;>first|cases o|(intros;simp)
 |.dct,_,o,_=>by rw[okT]at o<;>first|cases o|(intros;simp)
 |.scr _,_,o,_=>by rw[okT]at o<;>first|cases o|(intros;simp)
 |.lst _,_,o,_=>by rw[okT]at o<;>first|cases o|(intros;simp)
 |.ob _ _,_,o,_=>by rw[okT]at o<;>first|cases o|(intros;simp)
theorem Rls.any:∀ {ds:List D}{vs:List V},v8 ds=true->Rls K H φ ds vs->Rls K H φ' ds vs
 |[],_,_,h=>h
 |d::ds,_,o,h=>by
  rw[v8,qbg]at o;obtain⟨v,r,rfl,h1,h2⟩:=h;exact⟨v,r,U,Rl.any o.1 h1,Rls.any o.2 h2⟩
end
theorem Rl.bare {d:D}{v:V} (h:Rl K H φ d v):Rl K H [] d v:=Rl.less h
theorem Rls.bare {d:List D}{v:List V} (h:Rls K H φ d v):Rls K H [] d v:=Rls.less h
theorem qg:∀ {fs:List (Str×W)}{vs:List (Str×V)},Rfs K H φ fs vs->vs=(fs.map (·.1)).zip (vs.map (·.2))
 |[],vs,r=>by cases r;rfl
 |(n,x)::fs,vs,r=>by
  obtain⟨v,t,rfl,g,i⟩:=r;rw[qas,qas,qea,<-qg i]
theorem sN {st:Sto} (S:Sr K H φ st):∀ {fs:List (Str×W)}{vs:List (Str×V)}{ds:List D},Rfs K H φ fs vs->vwF st fs=some ds->Rls K H [] ds (vs.map (·.2))
 |[],vs,ds,r,h=>by cases r;cases h;rfl
 |(n,.d x)::fs,vs,ds,r,h=>by
  obtain⟨v,t,rfl,g,i⟩:=r;obtain⟨y,s,rfl⟩:=qad.mp h;exact⟨v,_,U,Rl.bare g,sN S i s⟩
 |(n,.h m)::fs,vs,ds,r,h=>by
  obtain⟨v,t,rfl,g,i⟩:=r;obtain⟨es,B,h⟩:=qab.mp h;obtain⟨y,s,rfl⟩:=qad.mp h;obtain⟨a,l,rfl⟩:=g;obtain⟨k,C,E⟩:=S.atl m a es l B;exact⟨_,_,U,⟨a,k,U,qbM,.inl C,Rls.bare E⟩,sN S i s⟩
theorem yz {st:Sto} (S:Sr K H φ st):∀ {ws:List W}{vs:List V}{e:List W},Rws K H φ ws vs->vwA st ws=some e->Rws K H [] e vs
 |[],vs,e,r,h=>by cases h;exact r
 |w::ws,vs,e,r,h=>by
  obtain⟨v,t,rfl,g,i⟩:=r;obtain⟨x,c,h⟩:=qab.mp h;obtain⟨y,s,rfl⟩:=qad.mp h;refine⟨v,t,U,?_,yz S i s⟩;cases w with
  |d z=>cases c;exact Rl.bare g
  |h n=>
   unfold vwW at c;dsimp only at c;split at c
   ·rename_i fs A
    split at c
    ·rename_i F
     obtain⟨ds,j,rfl⟩:=qad.mp c;obtain⟨a,l,rfl⟩:=g;obtain⟨Cl,I,k,q,u,b,L,hA⟩:=S.at_ n a _ l A;refine⟨a,Cl,I,k,_,U,qbM,q,qg u,by rw[qaf,qaf,u.length],by rw[qaf];exact F,L,λf J=>?_,sN S u j⟩;obtain⟨p,G,rfl⟩:=qay.mp J;exact hA p G
    ·cases c
   ·rename_i ds j
    cases c;obtain⟨a,l,rfl⟩:=g;obtain⟨k,C,E⟩:=S.at_ n a _ l j;exact⟨a,k,U,qbM,.inl C,Rls.bare E⟩
   ·cases c
end
def dn (m:Fn) (a:Af):Ef
 |env,st=>(a env st).bind λr=>(vwA r.2 r.1).bind λws=>(m ws []).bind λy=>match y.1 with
 |.d x=>if okT x=true then some (.d x,r.2) else none
 |_=>none
theorem Ai {K:qae}{X:Cx}{e:Expr}{es:List Expr}{pos:Pos}{t:Af}{x:Str}{k j:Nat}{i:Addr}{fd:qcd}{ps:List Str}{m:Fn}{p:Pos} (F:dU X.prog X.w X.K X.mg X.base CX0 j i fd ps (spI K m)) (f:j<=k) (E:bH k X.A) (hg:Gl X x) (u:X.mg x=some (.ref i)) (M:qcT X.K (.ref i)=true) (hb:dD X.K fd ps [])
  (O:IA K X (e::es) t) (l:(x==("__debug__" : Str))=false:=by decide) (R:av e=true:=by rfl) (A:es.all av=true:=by rfl) :
  IE K X (.Call (.Name x p) (e::es) [] pos) (dn m t):=by
 refine⟨λenv st r h=>?_⟩;simp only[dn,qab]at h;obtain⟨y,N,ws,s,⟨w,V⟩,C,h⟩:=h;cases w with
 |h n=>cases h
 |d z=>
  dsimp only at h;split at h
  case isFalse=>cases h
  rename_i hok;cases h;refine (x9 (F.mono f) E hg u M hb .nil AR (O.run _ _ _ N) l (aS R) (bC A)).imp ?_
  rintro T H Q ⟨φ,P,B,q⟩
  refine⟨φ,P,B,λW H1 g D s1 I=>?_⟩;show spI K m _ H1 Q E0;rw[qcg];refine⟨_,_,ws,_,C,yz s1 I s,⟨qcW,U,λn a c G _=>by cases G⟩,λv H2 S L J w2=>?_⟩;have sm:=λb o h=>L.keep b o qbM h;exact q v H2 g (D.trans (Fw.same sm)) (s1.same sm) (Rl.any hok w2)
theorem Rls.flat {K:qae}{H H':Hp}{φ c:List Addr}:∀ {ds:List D}{e:List V},ds.all cQ=true->Rls K H φ ds e->Rls K H' c ds e
 |[],_,_,h=>h
 |d::ds,_,o,h=>by
  rw[qbD,qbg]at o;obtain⟨v,r,rfl,a,f⟩:=h;refine⟨v,r,U,?_,Rls.flat o.2 f⟩;cases d with
  |non=>exact a
  |bl b=>exact a
  |int b=>exact a
  |str b=>exact a
  |_=>exact absurd o.1 (by simp[cQ])
def i3 (b e h g f:Nat) (fl:Lf):Sf
 |env,st=>(fl env st).bind λr=>match env.getD e none,env.getD h none,env.getD g none,env.getD f none with
 |some (.d (.int p)),some (.d (.int c)),some (.d (.lst ts)),some (.d a)=>(ixN r.1.length p).bind λj=>(ixN ts.length c).bind λi=>if ts.length<=1000000/\b<env.length/\ts.all cQ=true then some (.nx (env.set b (some (.d (.lst (r.1.set j (.lst (ts.set i a))))))) r.2) else none
 |_,_,_,_=>none
theorem mv {env:Ev}{i:Nat}{w:W} (h:env.getD i none=some w):env[i]?=some (some w):=by
 rw[qfY]at h;cases q:env[i]? with
 |none=>rw[q]at h;cases h
 |some o=>rw[q]at h;rw[show o=some w from h]
theorem Cv {α:Type}{xs:List α}{i:Int}{j:Nat}{v:α} (h:ixN xs.length i=some j) (a:xs[j]?=some v):atI xs i=some v:=by
 unfold atI;rw[h];exact a
theorem EO {n:Nat}{i:Int}{j:Nat} (h:ixN n i=some j):j<n:=(mO h).2.1
structure ISL (K:qae) (X:Cx) (s:Stmt) (i0:Nat) (fl:Lf):Prop where
 run:∀ env st r,fl env st=some r->PS X s (λD σ H=>∃ φ,Er K H φ env σ/\Sr K H φ st/\∀ a vs H1 φ',Fw φ φ' H H1->Sr K H1 φ' r.2->H1 a=none->Rls K H1 φ' r.1 vs->D.nx (σ.set i0 (some (.ref a))) (upd H1 a (.lst vs)))
theorem EM {K:qae}{X:Cx}{pos:Pos}{n:Expr}{b:Scope}{Nc:List Str}{k:Nat}{js:List Nat}{f iter:Expr}{h:List Expr}{y:Lf}{g:Tg}{tt:Tf}{te:Ef}{w:Nat}{i:Str}{z e:Pos}
  (o:X.N.Nodup) (hi0:X.N[w]?=some i) (v:Loc X.env.scope i) (S:dB X b Nc (eM k js)) (L:X.calm=true) (p:∀ j∈nL g,j<k) (hi:II K X n iter y)
  (hg:∀ a s H C d,PG (lcX X b a Nc s H C d) n (tG K g)) (E:∀ a s H C d,ITs K (lcX X b a Nc s H C d) h tt) (B:∀ a s H C d,IE K (lcX X b a Nc s H C d) f te)
  (hsw:qcM (.ListComp f [⟨n,iter,h,0⟩] b pos) (some (.Name i z)) e.line X.env=pure true:=by rfl)
  (u:X.fn i=true\/X.env.scope.names.lookup i=some .local:=by first|exact .inl U|exact .inr U|assumption)
  (J:∀ x,qbE iter X.env x=pure x:=by intro _;rfl):ISL K X (.Assign [.Name i z] (.ListComp f [⟨n,iter,h,0⟩] b pos) e) w (iLc k js y g tt te):=by
 refine⟨λenv st r m=>?_⟩;simp only[iLc,qab]at m;obtain⟨⟨ds,s1⟩,G,m⟩:=m;have c:=m;by_cases t:¬ ds.length<=1000000
 ·rw[iFN t]at c;cases c
 have l:ds.length<=1000000:=by lia
 rw[iFP l]at c;refine (D7 o hi0 v S L (hi.run _ _ _ G) hg (λa s H C d=>(E a s H C d).run) (λa s H C d=>(B a s H C d).any) hsw u J).imp ?_
 rintro D F H ⟨φ,I,A,q⟩
 exact vN p l c F H _ ⟨φ,I,A,q⟩
section
variable {K:qae}{X:Cx}{W:Stmt}{m x F G I:Str}{l ip S T ia:Nat}{comp:Expr}{fl:Lf}{ss:List Stmt}{gb:Sf}{p1 p2 p3 p4 p5 p6 p7 p8 p9 q1 q2 q3 q4 q5 q6 q7:Pos}
theorem jg (hN:X.N.Nodup) (nl:X.N[l]?=some m) (np:X.N[ip]?=some x) (nc:X.N[S]?=some F) (nt:X.N[T]?=some G) (na:X.N[ia]?=some I)
  (ll:Loc X.env.scope m) (vl:Vis X.env.scope m) (vp:Vis X.env.scope x) (vc:Vis X.env.scope F) (vt:Vis X.env.scope G) (va:Vis X.env.scope I) (d1:l≠ip) (d2:l≠S) (d3:l≠T) (d4:l≠ia)
  (bl:(m==("__debug__" : Str))=false) (bp:(x==("__debug__" : Str))=false) (bc:(F==("__debug__" : Str))=false) (bt:(G==("__debug__" : Str))=false) (ba:(I==("__debug__" : Str))=false)
  (el:(m==("__classdict__" : Str))=false) (ep:(x==("__classdict__" : Str))=false) (ec:(F==("__classdict__" : Str))=false) (et:(G==("__classdict__" : Str))=false) (ea:(I==("__classdict__" : Str))=false)
  (L:ISL K X W l fl) (hgL:Gl X "list") (hmL:X.mg "list" = none) (N:ISs K X ss gb)
  (hs2:qeS [.Subscript (.Name m p3) (.Name x p4) p5] (.Call (.Name "list" p6) [.Name G p7] [] p8) p9.line X.env=pure false) (hw2:qeT [.Subscript (.Name m p3) (.Name x p4) p5] (.Call (.Name "list" p6) [.Name G p7] [] p8) X.env=pure none)
  (hs3:qeS [.Subscript (.Subscript (.Name m q1) (.Name x q2) q3) (.Name F q4) q5] (.Name I q6) q7.line X.env=pure false) (hw3:qeT [.Subscript (.Subscript (.Name m q1) (.Name x q2) q3) (.Name F q4) q5] (.Name I q6) X.env=pure none) (hK:X.K=K) :
  ISs K X (W::.Assign [.Subscript (.Name m p3) (.Name x p4) p5] (.Call (.Name "list" p6) [.Name G p7] [] p8) p9::.Assign [.Subscript (.Subscript (.Name m q1) (.Name x q2) q3) (.Name F q4) q5] (.Name I q6) q7::ss) (ah (i3 l ip S T ia fl) gb):=by
 subst hK;refine⟨λenv st r hr=>?_⟩;simp only[ah,i3,qab]at hr;obtain⟨r1,⟨⟨ds,s1⟩,hfl,g⟩,hr⟩:=hr;split at g
 case h_2=>cases g
 rename_i p c ts a hp hc ht ha';simp only[qab]at g;obtain⟨j,hj,i,hi,g⟩:=g;split at g
 case isFalse=>cases g
 rename_i hz;cases g;have pl:∀ {q:Pos},PE X (.Name m q) (u8 l):=λ{q}=>jS nl vl bl el;have pp:∀ {q:Pos},PE X (.Name x q) (u8 ip):=λ{q}=>jS np vp bp ep;have pc:∀ {q:Pos},PE X (.Name F q) (u8 S):=λ{q}=>jS nc vc bc ec;have pt:∀ {q:Pos},PE X (.Name G q) (u8 T):=λ{q}=>jS nt vt bt et;have pa:∀ {q:Pos},PE X (.Name I q) (u8 ia):=λ{q}=>jS na va ba ea
 refine (dL (L.run _ _ _ hfl) (dL (sh (dz ((jc (K:=X.K) U).run s1 [.d (.lst ts)] ts U) hgL hmL qba (mV pt rZ) (by decide) (by decide)) (wd pl pp oK (qk U)) hs2 hw2 (me U))
  (dL (sh pa (wd (D2 vI pl pp (uk U)) pc oK (qk U)) hs3 hw3 (me U)) (N.run _ _ _ hr)))).imp ?_
 rintro D σ H ⟨φ,hE,hS,q⟩
 refine⟨φ,hE,hS,λy R H1 n f1 S1 A rl=>?_⟩;have s:=hE.fw hS f1;obtain⟨vp',gp,rp⟩:=s.at_ ip _ (mv hp);obtain⟨vc',gc,rc⟩:=s.at_ S _ (mv hc);obtain⟨vt',gt,rt⟩:=s.at_ T _ (mv ht);obtain⟨M,ga,ra⟩:=s.at_ ia _ (mv ha');subst rp rc;have f:∀ {k:Nat}{u:V}{v:V},l≠k->σ[k]?=some _->(σ.set l (some v))[k]?=some (some u):=λ{k u v} h e=>by rw[qbz h];exact e
 -- the list's line
 refine⟨_,f d3 gt,n,S1.new A,⟨vt',_,U,?_,U⟩,λbl O H2 sm P ru=>?_⟩
 ·exact (Rl.fw S1 (Fw.new A) rt)
 have E:=sm _ _ upd_same;have C:=aK E P;have t:=rl.length.symm;have Y:(σ.set l (some (.ref y)))[l]?=some (some (.ref y)):=by
  rw[qbd];rw[<-hE.len];exact hz.2.1
 refine⟨_,Y,_,f d1 gp,y,R,p,j,U,U,by rw[upd_ne C];exact E,by rw[t];exact hj,?_⟩;have hjl:j<R.length:=by rw[t];exact EO hj
 refine⟨_,f d4 ga,_,Y,_,f d1 gp,.inl ⟨y,_,p,.ref bl,U,U,SqL.of upd_same,Cv (j:=j) (by rw[qb2,t];exact hj) (by rw[qbd hjl]),?_⟩⟩;refine⟨_,f d2 gc,bl,O,c,i,U,U,by rw[upd_ne (qbr C),upd_same],by rw[ru.length.symm];exact hi,?_⟩;have J:aP H1 (upd (upd (upd H2 bl (.lst O)) y (.lst (R.set j (.ref bl)))) bl (.lst (O.set i M))):=λb o h=>by
  have e1:b≠y:=λz=>by rw[z,A]at h;cases h
  have Q:=sm b o (by rw[upd_ne e1];exact h);have e2:b≠bl:=λz=>by rw[z,P]at Q;cases Q
  rw[upd_ne e2,upd_ne e1,upd_ne e2];exact Q
 dsimp only;generalize hH:upd (upd (upd H2 bl (.lst O)) y (.lst (R.set j (.ref bl)))) bl (.lst (O.set i M))=H5 at J ⊢;have ha5:H5 y=some (.lst (R.set j (.ref bl))):=by rw[<-hH,upd_ne C,upd_same]
 have hb5:H5 bl=some (.lst (O.set i M)):=by rw[<-hH,upd_same]
 have B:Fw n n H1 H5:=Fw.same J;have ru5:Rls X.K H5 n ts O:=Rls.flat hz.2.2 ru;refine⟨n,(s.fw S1 B).set l (w:=.d (.lst (ds.set j (.lst (ts.set i a))))) ?_,S1.same J,?_⟩
 ·exact⟨y,_,U,(S1.nin A),.inl ha5,Rls.set j (rl.fw S1 B) ⟨bl,_,U,(λz=>by
  obtain⟨o,ho,_⟩:=S1.lst z
  have:bl≠y:=qbr C
  have Q:H2 bl=some o:=sm bl o (by rw[upd_ne this];exact ho)
  rw[P]at Q;cases Q),.inl hb5,Rls.set i ru5 (Rl.fw S1 B ra)⟩⟩
 ·exact q.fw (f1.trans B)
end
section
variable {K:qae}{X:Cx}
def F9 (_ j:Int):Prop:=0<j/\j.natAbs.log2<9000
theorem AL:OpR X (qbI .FloorDiv) (rI F9 λi j=>.int (i / j)):=opI λi j _ _ _ _ _ E q=>by
 obtain⟨h0,h1⟩:=E;exact floordiv_int (by lia) (by rw[qec i (by lia)];exact q) (.inl (PyProof.noPylong_of_log2 h1))
def qF (_:Sto):W->W->Option D
 |.d (.int i),.d (.int j)=>if 0<j/\j.natAbs.log2<9000 then some (.int (i / j)) else none
 |_,_=>none
theorem rJ:OpD K X (qbI .FloorDiv) qF:=io (λ_ _ _=>rfl) λi j d h=>by obtain⟨c,rfl⟩:=ifS h;exact⟨AL.imp λ_ _ _ _ q=>⟨i,j,q.1,q.2.1,c,q.2.2⟩,U⟩
theorem An:bO X (.type "range") (λxs H Q=>∃ i j:Int,xs=[.int i,.int j]/\∀ p,H p=none->Q (.ref p) (upd H p (.rng i j))):=by
 intro J s σ H xs us Q I M h;obtain⟨i,j,rfl,q⟩:=h;cases M with
 |cons r F=>
  cases F with
  |cons r' F=>
   cases F;obtain⟨t,rfl⟩:=r;obtain⟨t',rfl⟩:=r';exact call_range_2 ⟨.ref _,_,I.laid (o:=.rng i j) (λ_ _ q=>qah _ q) (qap _) ⟨_,_,_,qau _ U⟩,U,q _ I.fresh⟩
theorem Al {acc:Array Value}{lo:Int}{n:Nat} (h:ItemsOf (λi v=>∃ t,v=Value.int (lo+(i:Int)*1) t) acc n):aJ ((qan n).map λk:Nat=>V.int (lo+k)) acc.toList:=by
 obtain⟨hz,hi⟩:=h;have N:∀ (l:List Value) (k:Nat),(∀ j v,l[j]?=some v->∃ t,v=Value.int (lo+((k+j:Nat))) t)->aJ ((qe7 k l.length).map λk:Nat=>V.int (lo+k)) l:=by
  intro l
  induction l with
  |nil=>intro k _;exact .nil
  |cons x l ih=>
   intro k h;obtain⟨t,e⟩:=h 0 x U;refine .cons ⟨t,e⟩ (ih _ λj v Y=>?_);obtain⟨t,e⟩:=h (j+1) v (by simpa using Y);exact⟨t,by rw[e,show k+_=k+1+j by lia]⟩
 have:=N acc.toList 0 λj v Y=>by
  obtain⟨t,e⟩:=hi j v (by simpa using Y);exact⟨t,by rw[e,qdu,qa0]⟩
 rw[qgU];rw[qcS,hz]at this;exact this
theorem xz (E:X.calm=true:=by rfl):bO X (.type "list") (λxs H Q=>∃ (p:Addr) (lo:Int) (n:Nat),xs=[.ref p]/\H p=some (.rng lo (lo+(n:Int)))/\n<=1000/\-1000000<=lo/\lo<=1000000/\∀ l,H l=none->Q (.ref l) (upd H l (.lst ((qan n).map λk:Nat=>V.int (lo+k))))):=by
 intro J s σ H xs us Q I M h;obtain⟨p,lo,n,rfl,w,hn,l1,l2,q⟩:=h;cases M with
 |cons r F=>
  cases F;cases r;obtain⟨t,u,v,e⟩:=I.hok p _ w;refine call_list_range (I.ok.hd E) e ?_ (n:=n) ?_ (by lia) λh' tk acc c kp e' G=>?_
  ·have fl:∀ z ,-2000000<=z->z<=2000000->qe5 z=true:=λz h1 h2=>by
    unfold qe5;simp only[qbg,decide_eq_true_eq];omega
   have T:qft lo (lo+(n)) 1=(n):=by rw[qhe];split<;>lia
   unfold qiU;rw[T];simp[fl lo (by lia) (by lia),fl (lo+(n)) (by lia) (by lia),fl 1 _ _,fl (n) _ (by lia)]
  ·rw[qhe];split<;>lia
  ·exact⟨.ref s.heap.objs.size,_,I.laid kp (qap _) (show cA X.prog X.w _ h' _ (.lst _) from ⟨by rw[qaf,qaw];exact kO hn,acc.toList,c,Al G,by simpa using e'⟩),U,q _ (I.hok.fresh (qap _))⟩
def pi (a:Af):Lf
 |env,st=>(a env st).bind λr=>match r.1 with
 |[.d (.int j)]=>if 0<=j/\j<=1000 then some (bh 0 j.toNat,r.2) else none
 |_=>none
def qO (a:Af):Lf
 |env,st=>(a env st).bind λr=>match r.1 with
 |[.d (.int i),.d (.int j)]=>if 0<=j - i/\j - i<=1000/\-1000000<=i/\i<=1000000 then some (bh i (j - i).toNat,r.2) else none
 |_=>none
theorem Rls.rng {H:Hp}{φ:List Addr} (lo:Int) (n:Nat):Rls K H φ (bh lo n) ((qan n).map λk:Nat=>V.int (lo+k)):=by
 have:bh lo n=((qan n).map λk:Nat=>lo+(k)).map D.int:=by rw[qaC];rfl
 rw[this,show ((qan n).map λk=>V.int _)=((qan n).map λk=>lo+_).map V.int by rw[qaC];rfl];exact Rls.of_ints _
variable {a b:Expr}{L:Af}{p1 p2 p3 p4:Pos}
theorem nV (g:Gl X "list") (C:X.mg "list" = none) (A:Gl X "range") (m:X.mg "range" = none) (ha:IA K X [a] L) (E:X.calm=true:=by rfl) (hs:av a=true:=by rfl) :
  IL K X (.Call (.Name "list" p1) [.Call (.Name "range" p2) [a] [] p3] [] p4) (pi L):=by
 refine⟨λenv st r f=>?_⟩;simp only[pi,qab]at f;obtain⟨⟨ws,s1⟩,hw,f⟩:=f;dsimp only at f;split at f
 case h_2=>cases f
 rename_i j;split at f
 case isFalse=>cases f
 rename_i hj;cases f;refine (dz (xz E) g C qba (mV (dz Cy A m qfw (ha.run _ _ _ hw) (by decide) (by decide) (aS hs) (bC U)) rZ (aS U)) (by decide) (by decide) (aS U) (bC U)).imp ?_
 rintro σ H Q ⟨φ,hE,P,q⟩
 refine⟨φ,hE,P,λvs H1 y S B w1=>?_⟩;obtain⟨v,r,rfl,R,rfl⟩:=w1;subst R;refine⟨j,U,λp w=>⟨p,0,j.toNat,U,?_,by lia,by lia,by lia,λl O=>?_⟩⟩
 ·rw[upd_same,qcD,qd4 hj.1]
 ·exact q l _ _ y (S.trans (Fw.new w)) (B.new w) O (Rls.rng 0 j.toNat)
theorem nW (g:Gl X "list") (C:X.mg "list" = none) (A:Gl X "range") (m:X.mg "range" = none) (ha:IA K X [a,b] L) (E:X.calm=true:=by rfl) (hs:av a=true:=by rfl) (hs2:av b=true:=by rfl) :
  IL K X (.Call (.Name "list" p1) [.Call (.Name "range" p2) [a,b] [] p3] [] p4) (qO L):=by
 refine⟨λenv st r f=>?_⟩;simp only[qO,qab]at f;obtain⟨⟨ws,s1⟩,hw,f⟩:=f;dsimp only at f;split at f
 case h_2=>cases f
 rename_i i j;split at f
 case isFalse=>cases f
 cases f;refine (dz (xz E) g C qba (mV (dz An A m qfw (ha.run _ _ _ hw) (by decide) (by decide) (aS hs) (bC (by rw[qbD,hs2];rfl))) rZ (aS U)) (by decide) (by decide) (aS U) (bC U)).imp ?_
 rintro σ H Q ⟨φ,hE,P,q⟩
 refine⟨φ,hE,P,λvs H1 y S B w1=>?_⟩;obtain⟨v,r,rfl,R,u,r',rfl,r2,rfl⟩:=w1;subst R r2;refine⟨i,j,U,λp w=>⟨p,i,(j - i).toNat,U,?_,by lia,by lia,by lia,λl O=>?_⟩⟩
 ·rw[upd_same,show i+_=j by lia]
 ·exact q l _ _ y (S.trans (Fw.new w)) (B.new w) O (Rls.rng i (j - i).toNat)
end
section
variable {K:qae}{X:Cx}
end
def tU (_:Sto):List W->Option D
 |[.d (.lst ds)]=>(iA ds).map λns=>.bl (ns.any id)
 |_=>none
section
variable {K:qae}{X:Cx}
theorem yN:bO X (.builtin "any") (λxs H Q=>X.calm=true/\∃ (a:Addr) (bs:List Bool),xs=[.ref a]/\SqL X.K H a (bs.map V.bl)/\Q (.bl (bs.any id)) H):=by
 intro B s T H xs L Q I k h;obtain⟨w,a,bs,rfl,D,q⟩:=h;cases k with
 |cons r E=>
  cases E;cases r;obtain⟨t,k,p,R⟩:=I.list D;have m:a<s.heap.objs.size:=by obtain⟨_,_,e,_⟩:=p;exact qaz e
  have c:=by have:=k.length;simpa using this.symm
  refine call_any_walk (qdm p.isList ?_);refine⟨s.heap.objs.size,_,_,_,_,_,λi=>(bs[i]?).getD true,U,qiY (A:=X.A.in1) (I.ok.hd w) s.heap.objs.size a (qaD m) t.toArray,⟨⟨_,qau _ U,U,U⟩,p.isList.push _⟩,?_,λh' tk N=>?_⟩
  ·intro i v s' Q' E' F l
   have f:=by simpa using F
   have hi:=(qat.mp f).1;obtain⟨b,hb⟩:∃ b,bs[i]?=some b:=⟨bs[i]'(by lia),by simp[show i<bs.length by lia]⟩
   have:(bs.map V.bl)[i]?=some (.bl b):=by rw[qaF,hb];rfl
   obtain⟨u,y,J⟩:=k.get this;rw[f]at y;cases y;cases J;have g:Q' ((bs[i]?).getD true) s':=l;rw[hb]at g;exact qcw g
  ·refine⟨_,H,I.kept (λb o e=>N b o (λz=>absurd (qaz e) (by rw[qal.mp z];exact qa5 _)) (qah _ e)),?_,q⟩
   congr 1
   have:∀ n,n=bs.length->((qan n).any λi=>(bs[i]?).getD true)=bs.any id:=by
    intro n M;subst M;rw[qeQ,qeD,qeD];constructor
    ·rintro⟨i,hi,h⟩
     have j:=qaH.mp hi;refine⟨_,qa2 j,?_⟩;rw[qai j]at h;exact h
    ·rintro⟨x,G,h⟩
     obtain⟨i,hi,rfl⟩:=List.getElem_of_mem G;refine⟨i,qaH.mpr hi,?_⟩;rw[qai hi];exact h
   exact this _ (by simpa using c)
theorem fz (w:X.calm=true:=by rfl) (W:X.K=K:=by rfl):gf K X (.builtin "any") tU:=by
 refine⟨λst ws d h=>?_⟩
 match ws,h with
 |[.d (.lst ds)],h=>
  obtain⟨ns,e,rfl⟩:=qad.mp h;cases iB e;refine bO.imp yN ?_
  rintro Y H Q ⟨φ,S,⟨v,r,rfl,⟨a,L,rfl,P,C,O⟩,rfl⟩,q⟩
  cases O.bools;exact⟨w,a,ns,U,.inl C,q _ H (aP.refl H) U⟩
end
structure Cal (P:qaR) (w:World) (K:qae) (mg:Str->Option Value) (base:Heap) (x:Str) (j:Nat) (m:Fn):Prop where
 ex:∃ ff fd ps,dU P w K mg base CX0 j ff fd ps (spI K m)/\mg x=some (.ref ff)/\qcT K (.ref ff)=true/\dD K fd ps []
section
variable {P:qaR}{w:World}{K:qae}{mg:Str->Option Value}{base:Heap}{x a:Str}{st:Stmt}{f:Addr}{fd:qcd}{N ps:List Str}{k j:Nat}{b:Sf}{m:Fn}
theorem xf (F:Fun K x a st f fd) (S:cC N ps (aq st))
  (hb:∀ (d:Value) (A:qaZ) (outer:List Env) (s:qam) (H:Hp) (E:XK),bH k (A.deeper (qeL a (aq st) s.heap.objs.size f d))->(gh CX0 P w K mg base N a (aq st) f d A outer s H E).nox.N=N->(gh CX0 P w K mg base N a (aq st) f d A outer s H E).nox.env.scope.names=(aq st).names->N.Nodup->ISs K (gh CX0 P w K mg base N a (aq st) f d A outer s H E).nox (bf st) b) :
  dU P w K mg base CX0 (k+1) f fd ps (spI K (f8 N.length ps.length b)):=Gr F S λc A o s H E r=>hb c A o s H E r U U S.nd
theorem Gj (F:Fun K x a st f fd) (S:cC N ps (aq st)) (i:mg x=some (.ref f)) (l:dD K fd ps [])
  (hb:∀ (d:Value) (A:qaZ) (outer:List Env) (s:qam) (H:Hp) (E:XK),bH k (A.deeper (qeL a (aq st) s.heap.objs.size f d))->(gh CX0 P w K mg base N a (aq st) f d A outer s H E).nox.N=N->(gh CX0 P w K mg base N a (aq st) f d A outer s H E).nox.env.scope.names=(aq st).names->N.Nodup->ISs K (gh CX0 P w K mg base N a (aq st) f d A outer s H E).nox (bf st) b) :
  Cal P w K mg base x (k+1) (bj N.length ps.length b):=⟨_,_,_,HM F S λc A o s H E r=>hb c A o s H E r U U S.nd,i,F.kp,l⟩
theorem Gk (F:Fun K x a st f fd) (S:cC N ps (aq st)) (i:mg x=some (.ref f)) (l:dD K fd ps [])
  (hb:∀ (d:Value) (A:qaZ) (outer:List Env) (s:qam) (H:Hp) (E:XK),bH k (A.deeper (qeL a (aq st) s.heap.objs.size f d))->(gh CX0 P w K mg base N a (aq st) f d A outer s H E).nox.N=N->(gh CX0 P w K mg base N a (aq st) f d A outer s H E).nox.env.scope.names=(aq st).names->N.Nodup->ISs K (gh CX0 P w K mg base N a (aq st) f d A outer s H E).nox (bf st) b) :
  Cal P w K mg base x (k+1) (f8 N.length ps.length b):=⟨_,_,_,Gr F S λc A o s H E r=>hb c A o s H E r U U S.nd,i,F.kp,l⟩
variable {X:Cx}{e:Expr}{es:List Expr}{pos p:Pos}{t:Af}
theorem j8 (J:X.K=K) (C:Cal X.prog X.w X.K X.mg X.base x j m) (I:bH k X.A) (y:j<=k) (hg:Gl X x) (q:IA K X (e::es) t) (h:(x==("__debug__" : Str))=false) (n:av e=true) (l:es.all av=true) :
  IE K X (.Call (.Name x p) (e::es) [] pos) (ai m t):=by
 subst J;obtain⟨_,_,_,F,i,L,hb⟩:=C.ex;exact Cp F y I hg i L hb q h n l
theorem jf (J:X.K=K) (C:Cal X.prog X.w X.K X.mg X.base x j m) (I:bH k X.A) (y:j<=k) (hg:Gl X x) (q:IA K X (e::es) t) (h:(x==("__debug__" : Str))=false) (n:av e=true) (l:es.all av=true) :
  IE K X (.Call (.Name x p) (e::es) [] pos) (dn m t):=by
 subst J;obtain⟨_,_,_,F,i,L,hb⟩:=C.ex;exact Ai F y I hg i L hb q h n l
theorem xj {v:Value}{g:Sto->List W->Option D} (B:qcO x=some v) (G:gf K X v g) (hg:Gl X x) (i:X.mg x=none) (q:IA K X (e::es) t)
  (z:x≠"__name__") (h:(x==("__debug__" : Str))=false) (n:av e=true) (l:es.all av=true) (u:(match v with|.builtin _=>true|.type _=>true|_=>false)=true):IE K X (.Call (.Name x p) (e::es) [] pos) (iCB g t):=by
 cases v<;>first|exact pP G hg i B q z h n l|exact GB G hg i B q z h n l|cases u
theorem xo {v:Value}{g:Sto->List W->Option (List D)} (B:qcO x=some v) (G:sV K X v g) (hg:Gl X x) (i:X.mg x=none) (q:IA K X (e::es) t)
  (z:x≠"__name__") (h:(x==("__debug__" : Str))=false) (n:av e=true) (l:es.all av=true) (u:(match v with|.builtin _=>true|.type _=>true|_=>false)=true):IL K X (.Call (.Name x p) (e::es) [] pos) (iCL g t):=by
 cases v<;>first|exact GC G hg i B q z h n l|exact DT G hg i B q z h n l|cases u
end
def tgN:Expr->List Str
 |.Name x _=>[x]
 |.Tuple es _ _=>es.flatMap λe=>match e with
  |.Name x _=>[x]
  |.Tuple es _ _=>es.flatMap λe=>match e with
   |.Name x _=>[x]
   |_=>[]
  |_=>[]
 |_=>[]
def lcN (a:Expr) (js:List Nat) (N:List Str):List Str:=tgN a++js.map λj=>N.getD j ""
theorem mQ {a:Scope}{ns:List (Str×qca)}{N Nc:List Str}{k:Nat}{js:List Nat} (h:uq a ns N Nc k js=true):Nc.Nodup:=by
 unfold uq at h;simp only[qbg,decide_eq_true_eq]at h;exact h.1.1.1.2
section
variable {K:qae}{X:Cx}{e:Expr}{pos:Pos}{a:Scope}{k:Nat}{js:List Nat}{f iter:Expr}{i:List Expr}{p:Lf}{g:Tg}{tt:Tf}{te:Ef}{ns:List (Str×qca)}{N:List Str}
theorem qZ (hns:X.env.scope.names=ns) (hN:X.N=N) (h:uq a ns N (lcN e js N) k js=true) (z:a.kind=.function) (B:X.calm=true) (o:X.env.scope.kind=.function) (m:∀ j∈nL g,j<k) (hi:II K X e iter p)
  (hg:∀ b s H C d,(lcX X a b (lcN e js N) s H C d).N.Nodup->PG (lcX X a b (lcN e js N) s H C d) e (tG K g)) (u:∀ b s H C d,(lcX X a b (lcN e js N) s H C d).env.scope.names=wk a.names ns->(lcX X a b (lcN e js N) s H C d).N=lcN e js N->ITs K (lcX X a b (lcN e js N) s H C d) i tt)
  (t:∀ b s H C d,(lcX X a b (lcN e js N) s H C d).env.scope.names=wk a.names ns->(lcX X a b (lcN e js N) s H C d).N=lcN e js N->IE K (lcX X a b (lcN e js N) s H C d) f te) (A:∀ x,qbE iter X.env x=pure x) :
  IL K X (.ListComp f [⟨e,iter,i,0⟩] a pos) (iLc k js p g tt te):=
 Aj (pU ns N _ k js hns hN z h) B m hi (λc s H C d=>hg c s H C d (mQ h)) (λc s H C d=>u c s H C d (jo o hns) U) (λc s H C d=>t c s H C d (jo o hns) U) A
variable {r:Nat}{n:Str}{w l:Pos}
theorem iP (hns:X.env.scope.names=ns) (hN:X.N=N) (h:uq a ns N (lcN e js N) k js=true) (q:X.N.Nodup) (hi0:X.N[r]?=some n) (y:Loc X.env.scope n) (z:a.kind=.function) (B:X.calm=true) (o:X.env.scope.kind=.function) (m:∀ j∈nL g,j<k) (hi:II K X e iter p)
  (hg:∀ b s H C d,(lcX X a b (lcN e js N) s H C d).N.Nodup->PG (lcX X a b (lcN e js N) s H C d) e (tG K g)) (u:∀ b s H C d,(lcX X a b (lcN e js N) s H C d).env.scope.names=wk a.names ns->(lcX X a b (lcN e js N) s H C d).N=lcN e js N->ITs K (lcX X a b (lcN e js N) s H C d) i tt)
  (t:∀ b s H C d,(lcX X a b (lcN e js N) s H C d).env.scope.names=wk a.names ns->(lcX X a b (lcN e js N) s H C d).N=lcN e js N->IE K (lcX X a b (lcN e js N) s H C d) f te)
  (hsw:qcM (.ListComp f [⟨e,iter,i,0⟩] a pos) (some (.Name n w)) l.line X.env=pure true) (v:X.fn n=true\/X.env.scope.names.lookup n=some .local) (A:∀ x,qbE iter X.env x=pure x) :
  IS K X (.Assign [.Name n w] (.ListComp f [⟨e,iter,i,0⟩] a pos) l) (aw (.nm r) (ap (iLc k js p g tt te)))/\
   IS K X (.Assign [.Name n w] (.ListComp f [⟨e,iter,i,0⟩] a pos) l) (aw (.nm r) (cx (iLc k js p g tt te))):=
 GE q hi0 y (pU ns N _ k js hns hN z h) B m hi (λc s H C d=>hg c s H C d (mQ h)) (λc s H C d=>u c s H C d (jo o hns) U) (λc s H C d=>t c s H C d (jo o hns) U) hsw v A
end
theorem xx {K:qae}{X:Cx}{o:BoolOp}{es:List Expr}{pos:Pos}{a:Tf} (h:ITW K X (.BoolOp o es pos) a):IT K X (.BoolOp o es pos) a:=EN h
theorem ad {a b:Prop} (h:a) (g:a->b):a/\b:=⟨h,g h⟩
theorem mI {K:qae}{X:Cx}{pos:Pos}{d:Expr}{a:Scope}{k:Nat}{js:List Nat}{i iter:Expr}{l:List Expr}{t:Lf}{g:Tg}{tt:Tf}{te:Ef}{r:Nat}{m:Str}{u e:Pos}{ns:List (Str×qca)}{N:List Str}
  (hns:X.env.scope.names=ns) (hN:X.N=N) (h:uq a ns N (lcN d js N) k js=true) (n:X.N.Nodup) (hi0:X.N[r]?=some m) (q:Loc X.env.scope m) (y:a.kind=.function) (A:X.calm=true) (o:∀ j∈nL g,j<k) (hi:II K X d iter t)
  (hg:∀ b s H C f,(lcX X a b (lcN d js N) s H C f).N.Nodup->PG (lcX X a b (lcN d js N) s H C f) d (tG K g)) (w:∀ b s H C f,ITs K (lcX X a b (lcN d js N) s H C f) l tt) (v:∀ b s H C f,IE K (lcX X a b (lcN d js N) s H C f) i te)
  (hsw:qcM (.ListComp i [⟨d,iter,l,0⟩] a pos) (some (.Name m u)) e.line X.env=pure true) (p:X.fn m=true\/X.env.scope.names.lookup m=some .local) (z:∀ x,qbE iter X.env x=pure x) :
  ISL K X (.Assign [.Name m u] (.ListComp i [⟨d,iter,l,0⟩] a pos) e) r (iLc k js t g tt te):=
 EM n hi0 q (pU ns N _ k js hns hN y h) A o hi (λc s H C f=>hg c s H C f (mQ h)) w v hsw p z
theorem j9 {K:qae}{X:Cx}{x:Str}{k j:Nat}{f Cl:Addr}{fd:qcd}{N ps:List Str}{g:List (Str×Ef)}{p pos:Pos}{e:Expr}{es:List Expr}{d:Af} (m:X.mg x=some (.ref Cl)) (M:Mk X.K Cl f) (F:dU X.prog X.w X.K X.mg X.base CX0 j f fd ps (Du K N.length ps.length g)) (h:bH (k+1) X.A) (c:j<=k) (hg:Gl X x) (hb:dD X.K fd ps [])
  (i:Cls K Cl) (hA:∀ p∈g,cI K Cl p.1) (n:g.length=6) (a:(g.map (·.1)).Nodup)
  (o:IA K X (e::es) d) (b:(x==("__debug__" : Str))=false) (l:av e=true) (q:es.all av=true) :
  IE K X (.Call (.Name x p) (e::es) [] pos) (pO N.length ps.length g d):=Cq M F c h hg m hb i hA n a o b l q
open Classical in
def lcH (n:Nat) (all:List D) (g:Tg) (tt:Tf) (te:Ef) (env:Ev):List D->Sto->Option (List D×Sto)
 |[],st=>if lg st n=some all then some ([],st) else none
 | d::ds,st=>if lg st n=some all then ((cv g (.d d) env).bind λe=>(tt e st).bind λb=>if b.1=true then (te e b.2).bind λx=>(ma [x.1]).bind λa=>(lcH n all g tt te env ds x.2).map λr=>(a++r.1,r.2)
   else lcH n all g tt te env ds b.2) else none
section
variable {K:qae}{X:Cx}{pos:Pos}{a:Expr}
end
def yY (k:Nat) (js:List Nat) (a:Af) (g:Tg) (tt:Tf) (te:Ef):Lf
 |env,st=>(a env st).bind λr=>match r.1 with
  |[x,.h n]=>(zx x).bind λp=>(lg r.2 n).bind λds=>if (fu p.2 ds).length<=1000000 then lcH n ds g tt te (eL k js env) (fu p.2 ds) r.2 else none
  |_=>none
section
variable {K:qae}{X:Cx}{pos:Pos}{tg:Expr}
def YlZ (K:qae) (φ0:List Addr) (H0:Hp) (J:It) (n:Nat) (all ds:List D):Prop:=∀ (H:Hp) (φ:List Addr) (st:Sto) (i:Nat),Fw φ0 φ H0 H->Sr K H φ st->lg st n=some all->
 (∀ d,ds[i]?=some d->J.go i H/\∀ x H',J.yld i H x H'->aP H H'/\Rl K H' φ d x)/\(ds.length=i->J.stop i H)
def Hv (K:qae) (env:Ev) (st:Sto) (n:Nat) (all ds:List D) (s1:Sto):TI:=λσ H R=>∃ φ,Er K H φ env σ/\Sr K H φ st/\∀ J H' O,Fw φ O H H'->Sr K H' O s1->YlZ K O H' J n all ds->R J H'
theorem C3 {a b:Expr}{B:List Expr}{k n:Nat}{t p:Pos}{af:Af}{env:Ev}{st s1:Sto}{x:W}{p1:Bool×List D}{ds:List D} (hg:Gl X "zip") (hm:X.mg "zip" = none) (ha:IA K X [a,b] af) (hK:X.K=K) (hy:af env st=some ([x,.h n],s1)) (hp:zx x=some p1) (hn:lg s1 n=some ds) (hs:av a=true:=by rfl) (hs2:av b=true:=by rfl) :
  PI X (.Tuple B k t) (.Call (.Name "zip" p) [a,b] [] pos) (Hv K env st n ds (fu p1.2 ds) s1):=by
 subst hK;refine (AY (k:=p1.1) (k2:=false) hg hm (ha.run _ _ _ hy) (u6 hs hs2) (gF hs2)).imp ?_
 rintro σ H R ⟨φ,hE,hS,q⟩
 refine⟨φ,hE,hS,λvs H1 E f1 s1 w1=>?_⟩;obtain⟨v,r,rfl,rx,v2,r',rfl,ry,rfl⟩:=w1;obtain⟨a,us,rfl,hq,hq',A⟩:=sE rx hp s1;obtain⟨b,us2,rfl,hq2,hr2⟩:=lz s1 ry (show lsD _ (.h n)=some ds from hn);refine⟨a,b,U,⟨us,hq⟩,⟨us2,.inl hq2⟩,q _ H1 E f1 s1 λH2 e l i N S2 hn2=>?_⟩;obtain⟨b2,G,ea,hq3,hr3⟩:=lz S2 (Rw.fw s1 N ry) (show lsD l (.h n)=some ds from hn2);cases ea;have q1:=hq' H2 e N;have q2:SqK false X.K H2 b G:=.inl hq3;have w1:=A.fw s1 N;refine⟨λd hd=>?_,λhi=>⟨us,G,q1,q2,?_⟩⟩
 ·rw[gI,qab]at hd
  obtain⟨d1,hd1,hd⟩:=hd;obtain⟨d2,hd2,rfl⟩:=qad.mp hd;obtain⟨v,ev,rv⟩:=w1.get hd1;obtain⟨u,eu,ru⟩:=hr3.get hd2;refine⟨⟨us,G,v,u,q1,q2,ev,eu⟩,λx H' y=>?_⟩;obtain⟨T,v',u',y1,y2,hT,rfl,rfl⟩:=y;have z1:=y1 us q1;have z2:=y2 G q2;rw[ev]at z1;rw[eu]at z2;cases z1;cases z2;exact⟨aP.new hT _,T,_,U,upd_same,_,_,U,rv.fw S2 (Fw.new hT),_,_,U,ru.fw S2 (Fw.new hT),U⟩
 ·rw[kS]at hi
  have l1:=w1.length;have l2:=hr3.length;rw[qbq,qbq];lia
theorem Cz {k n:Nat}{js:List Nat}{g:Tg}{tt:Tf}{te:Ef}{env:Ev}{st s1:Sto}{all ds:List D}{r:List D×Sto} (V:∀ j∈nL g,j<k) (F:ds.length<=1000000) (hr':lcH n all g tt te (eL k js env) ds s1=some r) :
  ∀ σ H Q,tIL K env st r σ H Q->tLc (eM k js) (Hv K env st n all ds s1) (tG K g) (yq K tt) (BD K te) σ H Q:=by
 rintro σ H Q ⟨φ,hE,hS,q⟩
 refine⟨φ,hE,hS,λJ H1 E f1 S1 yl=>?_⟩;have hE1:=(hE.fw hS f1).emb k js;refine⟨λi m ys H2=>m=ds.length - i/\i<=ds.length/\∃ st e es r2,Fw E e H1 H2/\Sr K H2 e st/\Rls K H2 e es ys/\es.length<=i/\lcH n all g tt te (eL k js env) (ds.drop i) st=some r2/\r=(es++r2.1,r2.2),⟨ds.length,by simp,qcc _,s1,E,[],r,Fw.refl _ _,S1,U,qap _,hr',U⟩,?_⟩
 rintro i m ys H2 ⟨rfl,hi,l,e,es,r2,N,S2,L,hle,w,rfl⟩
 by_cases M:i<ds.length
 ·rw[qcE M]at w
  rw[lcH]at w;by_cases o:lg l n=some all
  ·rw[iFP o]at w
   obtain⟨y1,y2⟩:=yl H2 e l i N S2 o;obtain⟨go,yld⟩:=y1 ds[i] (qai M);simp only[qab]at w;obtain⟨e3,he3,⟨kb,s3⟩,hb3,h3⟩:=w;have hz:ys.length<qaN:=by
    rw[<-L.length]
    have:qaN=16777216:=qdj
    lia
   refine .inr ⟨go,hz,λys' H'=>i+1<=ds.length/\∃ st e P Y,Fw E e H1 H'/\Sr K H' e st/\Rls K H' e P ys'/\P.length<=i+1/\lcH n all g tt te (eL k js env) (ds.drop (i+1)) st=some Y/\(es++r2.1,r2.2)=(P++Y.1,Y.2),λys' H' ⟨hn,p'⟩=>⟨ds.length - (i+1),by lia,U,hn,p'⟩,λx H' y=>?_⟩;obtain⟨sm,rx⟩:=yld x H' y;have S3:=S2.same sm;have f3:=N.trans (Fw.same (φ:=e) sm);refine⟨e,l,eL k js env,.d ds[i],e3,hE1.fw S1 f3,S3,rx,he3,λσ' e' stay=>⟨Sub.stay stay V,?_⟩⟩;refine⟨e3,l,_,hb3,e,e',S3,λH4 φ4 f4 S4=>?_⟩;cases kb with
   |false=>
    rw[iFN qa7]at h3;exact Ct ⟨M,s3,φ4,es,r2,f3.trans f4,S4,(L.fw S2 (Fw.same sm)).fw S3 f4,by lia,h3,U⟩
   |true=>
    simp only[if_true,qab,qad]at h3;obtain⟨x5,hx5,zs,hzs,r5,hr5,rfl⟩:=h3;refine Cu ⟨e3,s3,x5,hx5,φ4,e'.fw S3 f4,S4,λv H5 φ5 f5 S5 w5=>?_⟩;obtain⟨x5,s5⟩:=x5;cases x5 with
    |h n=>cases hzs
    |d z=>
     cases hzs;refine⟨M,s5,φ5,es++[z],r5,(f3.trans f4).trans f5,S5,(((L.fw S2 (Fw.same sm)).fw S3 f4).fw S4 f5).append ⟨v,[],U,w5,U⟩,by rw[qav];simp;lia,hr5,?_⟩
     simp
  ·rw[iFN o]at w;cases w
 ·have hi':i=ds.length:=by lia
  subst hi';rw[qfJ,lcH]at w;by_cases o:lg l n=some all
  ·rw[iFP o]at w
   obtain⟨y1,y2⟩:=yl H2 e l _ N S2 o;cases w;refine .inl ⟨y2 U,λDn hD=>?_⟩
   have:=q Dn ys H2 e (f1.trans N) S2 hD
   exact this (by simpa using L)
  ·rw[iFN o]at w;cases w
theorem EJ {f:Scope}{Nc:List Str}{k kk:Nat}{js:List Nat}{elt a b:Expr}{B ifs:List Expr}{t p ps:Pos}{af:Af}{g:Tg}{tt:Tf}{te:Ef}
  (S:dB X f Nc (eM k js)) (hc:X.calm=true) (V:∀ j∈nL g,j<k) (hgz:Gl X "zip") (hm:X.mg "zip" = none) (ha:IA K X [a,b] af) (hK:X.K=K)
  (hg:∀ c s H C I,PG (lcX X f c Nc s H C I) (.Tuple B kk t) (tG K g)) (ht:∀ c s H C I,ITs K (lcX X f c Nc s H C I) ifs tt) (he:∀ c s H C I,IE K (lcX X f c Nc s H C I) elt te)
  (hs:∀ x,qbE (.Call (.Name "zip" p) [a,b] [] ps) X.env x=pure x:=by intro _;rfl) (h1:av a=true:=by rfl) (w:av b=true:=by rfl):IL K X (.ListComp elt [⟨.Tuple B kk t,.Call (.Name "zip" p) [a,b] [] ps,ifs,0⟩] f pos) (yY k js af g tt te):=by
 refine⟨λenv st r A=>?_⟩;simp only[yY,qab]at A;obtain⟨⟨ws,s1⟩,hy,A⟩:=A
 match ws,A with
 |[x,.h n],A=>
  simp only[qab]at A;obtain⟨p1,hp,ds,hds,A⟩:=A;by_cases F:(fu p1.2 ds).length<=1000000
  ·rw[iFP F]at A
   exact (D3 S hc (C3 hgz hm ha hK hy hp hds h1 w) hg (λc s H C I=>(ht c s H C I).run) (λc s H C I=>(he c s H C I).any) hs).imp (Cz V F A)
  ·rw[iFN F]at A;cases A
end
theorem mB {K:qae}{X:Cx}{pos:Pos}{d:Scope}{k m:Nat}{js:List Nat}{n a b:Expr}{f o:List Expr}{i p ps:Pos}{t:Af}{g:Tg}{tt:Tf}{te:Ef}{ns:List (Str×qca)}{N:List Str}
  (hns:X.env.scope.names=ns) (hN:X.N=N) (h:uq d ns N (lcN (.Tuple f m i) js N) k js=true) (B:d.kind=.function) (F:X.calm=true) (u:X.env.scope.kind=.function) (q:∀ j∈nL g,j<k) (r:Gl X "zip") (w:X.mg "zip" = none) (D:IA K X [a,b] t) (A:X.K=K)
  (hg:∀ e s H C l,(lcX X d e (lcN (.Tuple f m i) js N) s H C l).N.Nodup->PG (lcX X d e (lcN (.Tuple f m i) js N) s H C l) (.Tuple f m i) (tG K g)) (z:∀ e s H C l,(lcX X d e (lcN (.Tuple f m i) js N) s H C l).env.scope.names=wk d.names ns->(lcX X d e (lcN (.Tuple f m i) js N) s H C l).N=lcN (.Tuple f m i) js N->ITs K (lcX X d e (lcN (.Tuple f m i) js N) s H C l) o tt)
  (y:∀ e s H C l,(lcX X d e (lcN (.Tuple f m i) js N) s H C l).env.scope.names=wk d.names ns->(lcX X d e (lcN (.Tuple f m i) js N) s H C l).N=lcN (.Tuple f m i) js N->IE K (lcX X d e (lcN (.Tuple f m i) js N) s H C l) n te) (E:∀ x,qbE (.Call (.Name "zip" p) [a,b] [] ps) X.env x=pure x) (v:av a=true) (G:av b=true) :
  IL K X (.ListComp n [⟨.Tuple f m i,.Call (.Name "zip" p) [a,b] [] ps,o,0⟩] d pos) (yY k js t g tt te):=
 EJ (pU ns N _ k js hns hN B h) F q r w D A (λc s H C l=>hg c s H C l (mQ h)) (λc s H C l=>z c s H C l (jo u hns) U) (λc s H C l=>y c s H C l (jo u hns) U) E v G
def y4 (a b:Ef):Ef
 |env,st=>(a env st).bind λx=>match x.1 with
  |.d (.int i)=>if i=0 then b env x.2 else some (.d (.int i),x.2)
  |_=>none
def Ix (b c:TE):TE:=λa H Q=>b a H λx H1=>∃ i,x=.int i/\if i=0 then c a H1 Q else Q (.int i) H1
section
variable {K:qae}{X:Cx}{a b:Expr}{y B:TE}{w z:Ef}{pos:Pos}
theorem AU {c:List Expr} (m:PE X a y) (hb:PE X (.BoolOp .Or (b::c) pos) B):PE X (.BoolOp .Or (a::b::c) pos) (Ix y B):=by
 intro e s l H Q I h;refine BoolOp_or (thn (m e s l H _ I h) λv s1 ⟨x,H1,I1,C,g⟩=>?_);obtain⟨i,rfl,g⟩:=g;obtain⟨t,rfl⟩:=C;refine qjB ?_;by_cases hi:i=0
 ·subst hi
  rw[iFP U]at g;exact hb e s1 l H1 Q I1 g
 ·rw[iFN hi]at g
  have:(i != 0)=true:=by simpa using hi
  rw[this];exact⟨.int i,H1,I1,⟨t,U⟩,g⟩
theorem qV {c:List Expr} (m:IE K X a w) (hb:IE K X (.BoolOp .Or (b::c) pos) z):IE K X (.BoolOp .Or (a::b::c) pos) (y4 w z):=by
 refine⟨λenv st r d=>?_⟩;simp only[y4,qab]at d;obtain⟨⟨x,s1⟩,A,d⟩:=d;dsimp only at d;split at d
 next i=>
  by_cases hi:i=0
  ·subst hi
   rw[iFP U]at d;refine (AU (m.run _ _ _ A) (hb.run _ _ _ d)).imp ?_
   rintro l H Q ⟨φ,n,j,q⟩
   refine⟨φ,n,j,λv H1 f k s1 o=>⟨0,o,?_⟩⟩;rw[iFP U];exact⟨f,n.fw j k,s1,λu H2 p E D w2=>q u H2 p (k.trans E) D w2⟩
  ·rw[iFN hi]at d
   cases d;refine (AU (m.run _ _ _ A) kJ).imp ?_
   rintro l H Q ⟨φ,n,j,q⟩
   refine⟨φ,n,j,λv H1 f k s1 o=>⟨i,o,?_⟩⟩;rw[iFN hi];exact q _ H1 f k s1 U
 next=>cases d
end
section
variable {c:Type} [DecidableEq c]
def iu (a:List (c×V)) (k:c):Option V:=(a.find? λd=>decide (d.1=k)).map (·.2)
def lB (a:List (c×V)) (k:c) (v:V):List (c×V):=
 if (a.any λd=>decide (d.1=k))=true then a.map (λd=>if d.1=k then (d.1,v) else d) else a++[(k,v)]
theorem oX {p:c×V}{r:List (c×V)}{k:c} (e:p.1=k):iu (p::r) k=some p.2:=by simp[iu,qdC,e]
theorem oW {p:c×V}{r:List (c×V)}{k:c} (e:¬ p.1=k):iu (p::r) k=iu r k:=by simp[iu,qdC,e]
theorem vd (k:c):∀ a:List (c×V),(a.any λd=>decide (d.1=k))=(iu a k).isSome
 |[]=>rfl
 |p::r=>by
  rw[qcB];by_cases e:p.1=k
  ·simp only[oX e,decide_eq_true e,Bool.true_or,Option.isSome_some]
  ·rw[oW e,decide_eq_false e];exact vd k r
theorem lT (a:List (c×V)) (k:c) (v:V):(lB a k v).length<=a.length+1:=by
 unfold lB;split
 ·rw[qaf];lia
 ·rw[qav,qar,qbt];lia
theorem lZ.isSome_eq {o:Option V}{u:Option Value} (r:lZ o u):o.isSome=u.isSome:=by
 cases o with
 |none=>cases u with
  |none=>rfl
  |some _=>exact (r).elim
 |some _=>cases u with
  |none=>exact (r).elim
  |some _=>rfl
theorem KV.val {a:List (c×V)}{f:List (c×Value)} (r:KV a f) (k:c):lZ (iu a k) (qhc f k):=by
 induction r with
 |nil=>exact True.intro
 |@cons p q ps l h t i=>
  obtain⟨g,n⟩:=h;by_cases e:p.1=k
  ·have m:=g.symm.trans e
   have b:qhc (q::l) k=some q.2:=by simp[qhc,qdC,m]
   rw[oX e,b];exact n
  ·have m:¬ q.1=k:=λz=>e (g.trans z)
   have b:qhc (q::l) k=qhc l k:=by simp[qhc,qdC,m]
   rw[oW e,b];exact i
theorem KV.any {a:List (c×V)}{f:List (c×Value)} (r:KV a f) (k:c):(a.any λd=>decide (d.1=k))=f.any λd=>decide (d.1=k):=by
 induction r with
 |nil=>rfl
 |cons h t i=>rw[qcB,qcB,i,h.1]
theorem KV.repl {a:List (c×V)}{f:List (c×Value)} (r:KV a f) (k:c) {y:V}{u:Value} (j:aR y u) :
  KV (a.map λd=>if d.1=k then (d.1,y) else d) (f.map λd=>if d.1=k then (d.1,u) else d):=by
 induction r with
 |nil=>exact .nil
 |@cons p q ps l h t i=>
  rw[qas,qas];refine .cons ?_ i;obtain⟨g,n⟩:=h;by_cases e:p.1=k
  ·rw[iFP e,iFP (g.symm.trans e)];exact⟨g,j⟩
  ·rw[iFN e,iFN (λz=>e (g.trans z))];exact⟨g,n⟩
theorem KV.put {a:List (c×V)}{f:List (c×Value)} (r:KV a f) (k:c) {y:V}{u:Value} (j:aR y u):KV (lB a k y) (stored f k u):=by
 unfold lB stored;rw[r.any k];by_cases e:(f.any λd=>decide (d.1=k))=true
 ·rw[iFP e,iFP e];exact r.repl k j
 ·rw[iFN e,iFN e];exact qio r ⟨U,j⟩
theorem KV.length {a:List (c×V)}{f:List (c×Value)} (r:KV a f):a.length=f.length:=qe6 r
end
theorem Am {P:qaR}{w:World}{k:Key}{u:Value} (r:aR (kV k) u):(cr P w).is k u=true:=by
 cases k with
 |inl i=>obtain⟨t,e⟩:=(r);subst e;exact uF P w i t
 |inr x=>obtain⟨t,e⟩:=(r);subst e;exact uG P w x t
theorem pR {P:qaR}{w:World}:∀ {a:List Key}{b:List Value},aJ (a.map kV) b->ItemsAre (cr P w) a b
 |[],_,r=>by cases r;exact .nil
 |k::a,_,r=>by
  cases r with
  |cons h t=>exact .cons (Am h) (pR t)
abbrev KT (H:Hp):List (List Key×V)->List (List Key×Addr×Value)->Prop:=qgk λp q=>p.1=q.1/\H q.2.1=some (.tup (p.1.map kV))/\aR p.2 q.2.2
theorem KT.val {H:Hp}{a:List (List Key×V)}{xs:List (List Key×Addr×Value)} (r:KT H a xs) (k:List Key):lZ (iu a k) ((atKey xs k).map (·.2)):=by
 induction r with
 |nil=>exact True.intro
 |@cons p q ps c h t f=>
  obtain⟨d,_,i⟩:=h;by_cases e:p.1=k
  ·have b:atKey (q::c) k=some q.2:=by simp[atKey,qdC,(d.symm.trans e)]
   rw[oX e,b];exact i
  ·have g:¬ q.1=k:=λz=>e (d.trans z)
   have b:atKey (q::c) k=atKey c k:=by simp[atKey,qdC,g]
   rw[oW e,b];exact f
theorem KT.repl {H:Hp}{a:List (List Key×V)}{xs:List (List Key×Addr×Value)} (r:KT H a xs) (k:List Key) {y:V}{u:Value} (f:aR y u) :
  KT H (a.map λc=>if c.1=k then (c.1,y) else c) (xs.map (putAt k u)):=by
 induction r with
 |nil=>exact .nil
 |@cons p q ps j h t g=>
  rw[qas];refine .cons ?_ g;obtain⟨b,d,i⟩:=h;unfold putAt;by_cases e:p.1=k
  ·rw[iFP e,iFP (b.symm.trans e)];exact⟨b,d,f⟩
  ·rw[iFN e,iFN (λz=>e (b.trans z))];exact⟨b,d,i⟩
theorem KT.put {H:Hp}{a:List (List Key×V)}{xs:List (List Key×Addr×Value)} (r:KT H a xs) (k:List Key) {b:Addr}{y:V}{u:Value} (hb:H b=some (.tup (k.map kV))) (c:aR y u) :
  KT H (lB a k y) (storedH xs k b u):=by
 have e:(a.any λd=>decide (d.1=k))=(atKey xs k).isSome:=by
  rw[vd,(r.val k).isSome_eq,Option.isSome_map]
 unfold lB storedH;rw[e];by_cases q:(atKey xs k).isSome=true
 ·rw[iFP q,iFP q];exact r.repl k c
 ·rw[iFN q,iFN q];exact qio r ⟨U,hb,c⟩
theorem KT.keeps {H H':Hp}{a:List (List Key×V)}{xs:List (List Key×Addr×Value)} (r:KT H a xs) (d:∀ b c,H b=some (.tup c)->H' b=some (.tup c)):KT H' a xs:=
 qgk.mapP r λ_ _ z=>⟨z.1,d _ _ z.2.1,z.2.2⟩
section
variable {P:qaR}{w:World}{H:Hp}{h:Heap}{a:Addr}
theorem Ec {u:HO} (ok:HOk P w H h) (e:Rd H a u):cA P w H h a u:=e.ok ok
theorem zY {b:List (Key×V)} (ok:HOk P w H h) (e:Rd H a (.dK b)):b.length<=qaN/\(a==qcK)=false/\∃ d,KV b d/\h.DictOf (cr P w) a d:=
 Ec ok e
theorem Gn {b:List (Key×V)} (ok:HOk P w H h) (e:H a=some (.dK b)):b.length<=qaN/\(a==qcK)=false/\∃ d,KV b d/\h.DictOf (cr P w) a d:=zY ok (.inl e)
theorem vK {s:List Key} (ok:HOk P w H h) (e:H a=some (.tup (s.map kV))):(qgC (cr P w)).is h s a:=by
 obtain⟨_,f,r,o,g,j,⟨n,i⟩,_⟩:=(ok a _ e);exact⟨o,f.toArray,n,g,j,i,by simpa using pR r⟩
theorem z6 {b:List (List Key×V)} (ok:HOk P w H h) (e:Rd H a (.dT b)):b.length<=qaN/\(a==qcK)=false/\
  ∃ xs,KT H b xs/\h.DictOfH (qgC (cr P w)) a xs:=by
 obtain⟨z,y,xs,r,o,es,v,g,j,i,A,C⟩:=(Ec ok e);refine⟨z,y,xs,r,o,es,v,g,j,i,A,λx c=>?_,C⟩;have all:∀ {l:List _}{m:List _},KT H l m->∀ x∈m,(qgC (cr P w)).is h x.1 x.2.1:=by
  intro l m q
  induction q with
  |nil=>intro x c;exact nomatch c
  |@cons p q ps D k t B=>
   intro x c;rcases qaA.mp c with e|c
   ·subst e
    exact vK ok (by rw[<-k.1];exact k.2.1)
   ·exact B x c
 exact all r x c
theorem DP {b:List (List Key×V)} (ok:HOk P w H h) (e:H a=some (.dT b)):b.length<=qaN/\(a==qcK)=false/\
  ∃ xs,KT H b xs/\h.DictOfH (qgC (cr P w)) a xs:=z6 ok (.inl e)
end
def yF (H:Hp) (a:Addr) (y:V) (r:Option V):Prop:=
 (∃ c k,Rd H a (.dK c)/\y=kV k/\r=iu c k)\/∃ c k b,Rd H a (.dT c)/\y=.ref b/\H b=some (.tup (k.map kV))/\r=iu c k
def zF (H:Hp) (a:Addr) (y v:V) (H':Hp):Prop:=
 (∃ c k,H a=some (.dK c)/\y=kV k/\c.length<qaN/\H'=upd H a (.dK (lB c k v)))\/
 ∃ c k b,H a=some (.dT c)/\y=.ref b/\H b=some (.tup (k.map kV))/\c.length<qaN/\H'=upd H a (.dT (lB c k v))
theorem yF.t {H:Hp}{a b:Addr}{c:List (List Key×V)}{k:List Key} (e:H a=some (.dT c)) (d:H b=some (.tup (k.map kV))):yF H a (.ref b) (iu c k):=.inr ⟨c,k,b,.inl e,U,d,U⟩
theorem zF.t {H:Hp}{a b:Addr}{c:List (List Key×V)}{k:List Key}{v:V} (e:H a=some (.dT c)) (d:H b=some (.tup (k.map kV))) (f:c.length<qaN) :
  zF H a (.ref b) v (upd H a (.dT (lB c k v))):=.inr ⟨c,k,b,e,U,d,f,U⟩
section
variable {X:Cx}{d:List (Addr×Obj)}{x:St}{H:Hp}{s:qam}{a:Addr}{y v:V}{u r:Value}{o:Option V}{A:qaZ}{E:Value->qam->Prop}
theorem Inv.big (I:Inv X d x H s):qcK<s.heap.objs.size:=by
 exact qeW (by decide) ((I.mod.glob.keeps I.bk).lt)
theorem yR {Q:Value->qam->Prop} (M:A.units+1<cLine) (I:Inv X d x H s) (g:yF H a y (some v)) (D:aR y u) (h:∀ B s',Inv X d x H s'->aR v B->Q B s') :
  wpAny (model X.prog X.w) A (qfg (.ref a) u) Q E s:=by
 rcases g with⟨i,k,e,t,l⟩|⟨i,k,b,e,t,J,l⟩
 ·subst t
  obtain⟨z,hd,C,f,m⟩:=zY I.hok e;obtain⟨B,hw,n⟩:=lZ.some_of (by rw[l];exact f.val k);exact wpAny_getItem_of (Am D) m.mapOf hw (h B _ (I.tok _) n)
 ·subst t
  cases (D);obtain⟨z,hd,xs,f,m⟩:=z6 I.hok e;obtain⟨B,hw,n⟩:=lZ.some_of (by rw[l];exact f.val k);obtain⟨p,T,N⟩:=qad.mp hw;refine wpAny_getItem_heap (qig M) (vK I.hok J) m T ?_;rw[N];exact h B _ (I.tok _) n
theorem wV {h':Heap}{t':Nat}{ob:HO} (I:Inv X d x H s) (mu:Mut (H a)) (F:qdw a s.heap h') (Y:∃ q,h'.get? a=some q) (new:cA X.prog X.w (upd H a ob) h' a ob) :
  Inv X d x (upd H a ob) { s with heap:=h',toks:=t' }:=
 I.write mu (.inl U) (λb q hb z=>(F.2 b hb).trans z) Y new
theorem Ez {P:qaR}{w:World}{H':Hp}{h':Heap}{i:List (Key×V)}{C:List (Key×Value)} (z:i.length<=qaN) (hd:(a==qcK)=false) (f:KV i C) (m:h'.DictOf (cr P w) a C) :
  cA P w H' h' a (.dK i):=⟨z,hd,C,f,m⟩
theorem yS {H':Hp}{Q:Unit->qam->Prop} (M:A.units+1<cLine) (I:Inv X d x H s) (g:zF H a y v H') (D:aR y u) (O:aR v r) (h:∀ s',Inv X d x H' s'->Q () s') :
  wpAny (model X.prog X.w) A (qjN (.ref a) u r) Q E s:=by
 rcases g with⟨i,k,e,t,l,L⟩|⟨i,k,b,e,t,J,l,L⟩
 ·subst t L
  obtain⟨z,hd,C,f,m⟩:=Gn I.hok e;have W:C.length<=qaN:=by rw[<-f.length];exact z
  have K:(lB i k v).length<=qaN:=by have:=lT i k v;lia
  refine wpAny_setItem_pairs (Am D) m λh' j F=>h _ ?_;exact wV I (by rw[e];exact True.intro) F (let ⟨q,_,_,G,_⟩:=j;⟨q,G⟩) (Ez K hd (f.put k O) j)
 ·subst t L
  cases (D);obtain⟨z,hd,xs,f,m⟩:=DP I.hok e;have W:xs.length<=qaN:=by rw[<-qe6 f];exact z
  have K:(lB i k v).length<=qaN:=by have:=lT i k v;lia
  refine wpAny_setItem_heap (qig M) (vK I.hok J) m λh' j F=>h _ ?_;obtain⟨q,es,ep,G,h2,h3,h4,_,S⟩:=j;refine wV I (by rw[e];exact True.intro) F ⟨q,G⟩ ⟨K,hd,_,(f.put k J O).keeps λc ys R=>?_,q,es,ep,G,h2,h3,h4,S⟩;rw[upd_ne (GS R e (λz=>nomatch z))]
  exact R
end
section
variable {X:Cx}{b:List (Addr×Obj)}{d:St}{H:Hp}{s:qam}{a:Addr}{c:List (Key×V)}{k:Key}{u:Value}{A:qaZ}{E:Value->qam->Prop}
end
def El (i:Expr):Prop:=∀ a iv,qgD i false a iv=operate [a,iv] (qfg a iv)
theorem Dw {prog:qaR}{w:World}{A:qaZ}{E:Value->qam->Prop}{s:qam}{env:Env}{b a:Expr}{pos:Pos}{T id:String}{Q:Value->qam->Prop}
  (l:typeLookup (.type T) "__getitem__" = pure (some (.builtin id))) (k:El a)
  (h:wpAny (model prog w) A (eval b env) (λo e=>wpAny (model prog w) A (eval a env) (λi c=>c.TypeIs o T/\wpAny (model prog w) A (qfg o i) Q E c) E e) E s) :
  wpAny (model prog w) A (eval (.Subscript b a pos) env) Q E s:=by
 refine qiE (qcJ h (λo e j=>qcJ j (λi c d=>?_) λ_ _ x=>x) λ_ _ x=>x);obtain⟨m,d⟩:=d;refine qac ?_;refine qac (wpAny_specialOf m l ?_);have fin:wpAny (model prog w) A (qgD a false o i) (λr f=>wpAny (model prog w) A (letTemporaryGo b o r >>= λ_=>pure r) Q E f) E c:=by
  rw[k o i];exact wpAny_operating (qcJ d (λr f g=>qac (wpAny_letTemporaryGo (qaq g))) λ_ _ x=>x)
 first
  |exact qaq (qac fin)
  |exact qac _
  |exact qac fin
theorem tX {X:Cx}{c:List (Addr×Obj)}{h:St}{H:Hp}{s:qam}{a:Addr}{y:V}{o:Option V} (I:Inv X c h H s) (g:yF H a y o):s.TypeIs (.ref a) "dict":=by
 rcases g with⟨d,k,e,_,_⟩|⟨d,k,b,e,_,_,_⟩
 ·obtain⟨_,_,i,_,f⟩:=zY I.hok e
  exact f.typeIs
 ·obtain⟨_,_,xs,_,f⟩:=z6 I.hok e
  exact f.typeIs
def Ht (c ty:TE):TE:=λb H Q=>c b H λx H1=>ty b H1 λy H2=>∃ a v,x=.ref a/\yF H2 a y (some v)/\Q v H2
def Hk (d ty c:TE):TS:=λD b H=>c b H λv H1=>d b H1 λx H2=>ty b H2 λy H3=>∃ a H4,x=.ref a/\zF H3 a y v H4/\D.nx b H4
section
variable {X:Cx}{o i e c:Expr}{pos d B:Pos}{j ty A:TE}
theorem CZ (p:X.A.units+1<cLine) (t:PE X o j) (hi:PE X i ty) (w:El i):PE X (.Subscript o i pos) (Ht j ty):=by
 intro b s f H Q I h;refine Dw PySem.F.slot_dict_getitem.lookup w (thn (t b s f H _ I h) λu s1 ⟨x,H1,I1,q,n⟩=>thn (hi b s1 f H1 _ I1 n) λiv z ⟨y,H2,I2,l,a,v,ex,g,m⟩=>?_);subst ex;obtain rfl:u=Value.ref a:=q;exact⟨tX I2 g,yR p I2 g l λJ G I3 k=>⟨v,H2,I3,k,m⟩⟩
theorem C7 (p:X.A.units+1<cLine) (t:PE X o j) (hi:PE X i ty) (F:PE X c A) (w:qcM c (some (.Subscript o i d)) pos.line X.env=pure false) :
  PS X (.Assign [.Subscript o i d] c pos) (Hk j ty A):=by
 intro b s f H D I h;refine wpAny_Assign_Subscript (thn (F b s f H _ I h) λr s1 ⟨v,H1,I1,C,n⟩=>thn (t b s1 f H1 _ I1 n) λu z ⟨x,H2,I2,q,m⟩=>thn (hi b z f H2 _ I2 m) λiv G ⟨y,H3,I3,l,a,H4,ex,g,E⟩=>?_) w;subst ex;obtain rfl:u=Value.ref a:=q;exact yS p I3 g l C λK I4=>⟨f,H4,I4,E⟩
end
theorem z5 {P:qaR}{w:World}{H:Hp} (h:Heap) (hb:qcK<h.objs.size):cA P w H (h.push { cls:=.type "dict",data:=.dict #[] }) h.objs.size (.dT []):=
 ⟨qcc _,beq_eq_false_iff_ne.mpr (qbr (qaD hb)),_,.nil,_,_,0,qau _ U,⟨U,U,U⟩,U,U,qcW⟩
def FU:TE:=λ_ H Q=>∀ p,H p=none->Q (.ref p) (upd H p (.dT []))
section
variable {X:Cx}{pos:Pos}
theorem AT:PE X (.Dict [] [] pos) FU:=λa s b H Q I h=>
 wpAny_Dict_empty ⟨.ref s.heap.objs.size,_,I.laid (λ_ _ q=>qah _ q) (qap _) (z5 s.heap I.big),U,h _ (I.hok.fresh (qap _))⟩
end
section
variable {X:Cx}{b:List (Addr×Obj)}{c:St}{H:Hp}{s:qam}{a:Addr}{y d:V}{u r:Value}{o:Option V}{A:qaZ}{E:Value->qam->Prop}
end
section
variable {X:Cx}{o e f:Expr}{b a:Pos}{d ty c:TE}
end
section
variable {X:Cx}{b:List (Addr×Obj)}{d:St}{H:Hp}{s:qam}{a:Addr}{c:List (Key×V)}{A:qaZ}{E:Value->qam->Prop}
end
section
variable {X:Cx}{b:List (Addr×Obj)}{c:St}{H:Hp}{s:qam}{a:Addr}{y:V}{u:Value}{A:qaZ}{E:Value->qam->Prop}
end
section
variable {prog:qaR}{w:World}{A:qaZ}{E:Value->qam->Prop}{s:qam}{b:Type} [DecidableEq b] {c:KeyKind prog w b}{a:Addr}{d:List (b×Value)}
end
section
variable {X:Cx}{b:List (Addr×Obj)}{d:St}{H:Hp}{s:qam}{a:Addr}{c:List (Key×V)}{k:Key}{u r:Value}{A:qaZ}{E:Value->qam->Prop}{z:V}
end
section
variable {K:qae}{X:Cx}{pos:Pos}{e a b o f:Expr}{i d h c g:Ef}
end
section
variable {K:qae}{X:Cx}
end
section
variable {b:Bool}{t:SetTable}{m d k:Nat}
end
section
variable {prog:qaR}{w:World}{A:qaZ}{E:Value->qam->Prop}{s:qam}{a:Addr}{m d k:Nat}
end
section
variable {prog:qaR}{w:World}{A:qaZ}{E:Value->qam->Prop}{s:qam}{a c:Addr}{m d b i:Nat}{f:Nat->Tok}
end
section
variable {prog:qaR}{w:World}{A:qaZ}{E:Value->qam->Prop}{s:qam}{a c:Addr}{m d b i:Nat}{f:Nat->Tok}
end
section
variable {prog:qaR}{w:World}{A:qaZ}{E:Value->qam->Prop}{s:qam}
end
section
variable {prog:qaR}{w:World}{A:qaZ}{R:qhE->qam->Prop}{I:Addr}{b a:List Addr}{G:Array qir->Array qir->Prop}{P:Nat->Value->Prop}{St:Nat->qam->Prop}
end
section
variable {prog:qaR}{w:World}{A:qaZ}{E:Value->qam->Prop}{s:qam}
end
section
variable {prog:qaR}{w:World}{A:qaZ}{E:Value->qam->Prop}{s:qam}{a r o:Addr}{m b m2 d k c:Nat}{f:Nat->Tok}
end
section
variable {prog:qaR}{w:World}{A:qaZ}{E:Value->qam->Prop}{s:qam}{a b r o:Addr}{m c m2 d k e:Nat}{f:Nat->Tok}
end
section
variable {prog:qaR}{w:World}{A:qaZ}{E:Value->qam->Prop}{s:qam}{a b r o:Addr}{m c m2 d k e:Nat}{f:Nat->Tok}
end
section
variable {prog:qaR}{w:World}{A:qaZ}{E:Value->qam->Prop}{s:qam}{a:Addr}{m d b:Nat}{f:Nat->Tok}
end
section
variable {K:qae}{X:Cx}{pos p:Pos}{e a b:Expr}{f:Ef}{c d:Xf}
end
def jT (h:Heap) (d:Addr) (es:Array qem) (a:Nat):Prop:=∃ o,h.get? d=some o/\o.ExactDict/\o.data=.dict es a
theorem jT.at' {h h':Heap}{d:Addr}{es:Array qem}{a:Nat} (x:jT h d es a) (e:∀ o,h.get? d=some o->h'.get? d=some o):jT h' d es a:=let ⟨o,ho,r⟩:=x;⟨o,e o ho,r⟩
theorem jT.type {s:qam}{d:Addr}{es:Array qem}{a:Nat} (x:jT s.heap d es a):s.TypeIs (.ref d) "dict":=let ⟨o,ho,hc,_⟩:=x;⟨o,ho,hc.1⟩
theorem jT.lt {h:Heap}{d:Addr}{es:Array qem}{a:Nat} (x:jT h d es a):d<h.objs.size:=let ⟨o,ho,_⟩:=x;qaz ho
section
variable {prog:qaR}{w:World}{A:qaZ}{E:Value->qam->Prop}{s:qam}{d n:Addr}{es:Array qem}{i g:Nat}
theorem Bo {Q:Value->qam->Prop} (hd:(d==qcK)=false) (t:jT s.heap d es g)
  (l:Q (.ref s.heap.objs.size) { s with heap:=s.heap.push { cls:=.type "dict_keyiterator",data:=.fields #[.ref d,.int 0 0,.int es.size 0,.int g 0] } }) :
  wpAny (model prog w) A (qhC (.ref d)) Q E s:=by
 have F:=t.type;obtain⟨o,p,G,r⟩:=id t;refine wpAny_pyIter_slot F qgi (qb6 qgi F PySem.F.entry_dict_iter ?_ (PySem.F.args_dict_iter_1 _));refine qac ?_;refine qac (wpAny_notOrdered_dict F ?_);refine qaq ?_;show wpAny _ _ (qfN d >>= _) _ _ s;unfold qfN;rw[iFN (by rw[hd];exact qa7)];refine qac (qaq ?_);refine qac (qf3 p r ?_);refine qac (qgB p r ?_);refine qac (qcx (qaq ⟨_,U,"dict_keyiterator",_,⟨_,qau _ U,U⟩,qb3.lookup,?_⟩))
 simpa [qgE] using l
theorem Bp {Q:Option Value->qam->Prop} (c:s.heap.IsKeyIter n d i es.size g) (t:jT s.heap d es g) (y:i<es.size)
  (l:∀ h',h'.IsKeyIter n d (i+1) es.size g->qdw n s.heap h'->Q (some es[i].key) { s with heap:=h' }) :
  wpAny (model prog w) A (qg0 (.ref n)) Q E s:=by
 obtain⟨o,p,G,hd⟩:=id c;obtain⟨H,k,B,j⟩:=id t
 refine qac (qeR (qbR c.typeIs qb3
  (qb6 qb3 c.typeIs qeU ?_ (qeO _))))
 refine qac (qaq ?_);refine qac ?_;refine qac ?_
 first|refine qac (qc7 c.typeIs (qaq ?_))|refine qac _
 refine qac (qj1 p hd ?_);refine qac (qaq ?_);refine qac (qf3 k j ?_);rw[iFN (by simp)];refine qac (qaq ?_);refine qac (qgB k j ?_);rw[iFN (by simp)];refine qaq ?_;simp only[show ¬ (_<0) from by lia,if_false,qaE,qbx y];refine qac ?_
 first|refine qac (qc7 c.typeIs (qaq ?_))|refine qac _
 refine qac (qhA c.typeIs ?_);show wpAny _ _ (setField _ 1 _ >>= _) _ _ s;refine qac (qfv p hd (by simp) ?_);have f:(s.heap.update n (Obj.mapFields (·.setIfInBounds 1 (qgE ((i)+1))))).IsKeyIter n d (i+1) es.size g:=
  ⟨_,qch _ p (qgR (qef hd _)),(qhI ..).trans G,by rw[qef hd];simp[qgE]⟩
 refine qac (qb5 ?_);refine qac (qhA f.typeIs ?_);exact qaq (qaq ⟨_,U,qaq (l _ f (qdJ ..))⟩)
theorem Dj {Q:Option Value->qam->Prop} (x:A.handled=none) (c:s.heap.IsKeyIter n d es.size es.size g) (t:jT s.heap d es g)
  (l:∀ h',qg9 n s.heap h'->Q none { s with heap:=h' }):wpAny (model prog w) A (qg0 (.ref n)) Q E s:=by
 obtain⟨o,p,G,hd⟩:=id c;obtain⟨H,k,B,j⟩:=id t
 refine qac (qeR (qbR c.typeIs qb3
  (qb6 qb3 c.typeIs qeU ?_ (qeO _))))
 refine qac (qaq ?_);refine qac ?_;refine qac ?_
 first|refine qac (qc7 c.typeIs (qaq ?_))|refine qac _
 refine qac (qj1 p hd ?_);refine qac (qaq ?_);refine qac (qf3 k j ?_);rw[iFN (by simp)];refine qac (qaq ?_);refine qac (qgB k j ?_);rw[iFN (by simp)];refine qaq ?_;simp only[show ¬ (_<0) from by lia,if_false,qaE,qdF (qap _)];refine qac ?_
 first|refine qac (qc7 c.typeIs (qaq ?_))|refine qac _
 show wpAny _ _ (setField _ 0 .none >>= _) _ _ s;refine qac (qfv p hd (by simp) ?_);refine qac ?_;refine qac (m:=qj7 _ _) (wpAny_of_eq (a:=Value.none) (by first|rfl|(rfl)) ?_)
 refine qcx ?_ (by size_fits);refine qac (wpAny_handled ?_);rw[x];refine qac (qaq (wpAny_throw ?_));refine qac (qiW ⟨_,qau _ U,U⟩ qj5 ?_);exact qaq (l _ (((qdJ ..).extBut.push _).push _))
theorem zE (x:A.handled=none) (I d:Addr) (D:d≠I) (es:Array qem) (g:Nat) :
  Walks prog w A I [I,d] [I] es.size (λi v=>∃ e,es[i]?=some e/\v=e.key) (λi h=>h.IsKeyIter I d i es.size g/\jT h d es g) where
 sub:=λb hb=>by simp at hb;simp[hb]
 frame:=λ_ _ _ st z=>⟨st.1.at λo e=>z I (by simp) o e,st.2.at' λo e=>z d (by simp) o e⟩
 item:=λi s Q E hi st l=>by
  refine Bp st.1 st.2 hi λh' f u=>?_;exact l _ h' s.toks ⟨_,by simp[hi],U⟩ ⟨f,st.2.at' λo q=>u.extBut d o D q⟩ λb o hb q=>u.extBut b o (λh=>hb (by simp[h])) q
 done:=λs Q E st l=>Dj x st.1 st.2 λh' C=>l h' s.toks λb o hb e=>C b o (λh=>hb (by simp[h])) e
 self:=λ_ _ _ _ st l=>wpAny_pyIter_keyiter st.1 l
theorem Dv (prog:qaR) (w:World) (d:Addr) (es:Array qem) (g:Nat) (lo:(d==qcK)=false):PySem.W.KdlSrc prog w "dict" d d es.size (λi v=>∃ e,es[i]?=some e/\v=e.key) (λh=>jT h d es g) where
 type:=λs S=>S.type
 there:=λh S=>⟨S.lt,S.lt⟩
 keep:=λh h' S z=>S.at' λo e=>z d (.inl U) o e
 notList:=by decide
 notTuple:=by decide
 hint:=λA E s Q S h=>PySem.W.kdl_hint_dict S.type h
 iter:=λA s x S=>⟨_,_,λE Q h=>Bo lo S h,zE x s.heap.objs.size d (qaD S.lt) es g,
  ⟨⟨_,qau _ U,U,U⟩,S.at' λo e=>qah _ e⟩⟩
end
section
variable {prog:qaR}{w:World}{A:qaZ}{E:Value->qam->Prop}{s:qam}{d:Addr}{es:Array qem}{z:Nat}
theorem tT {Q:List Value->qam->Prop} (lo:(d==qcK)=false) (S:jT s.heap d es z) (K:A.handled=none) (hn:es.size<=qaN)
  (h:∀ h' g,(∀ b o,s.heap.get? b=some o->h'.get? b=some o)->s.heap.objs.size<h'.objs.size->Q (es.toList.map (·.key)) { s with heap:=h',toks:=g }) :
  wpAny (model prog w) A (collect (.ref d)) Q E s:=by
 have k:=S.lt;refine qac (wpAny_runValue (qcV entry_proto_collect' ?_));refine qac (qfQ (qaq ⟨Code.quiet_builtin _ (by decide +kernel),qcV entry_list_iadd' ?_⟩))
 refine PySem.W.kdl_extend (R:=λr s'=>match r with
   | .ok (.ret v)=>wpAny _ A (match v with
     |.ref a=>do
      let o <-load a
      match o.data with
      |.seq xs _=>pure xs.toList
      |_=>unsupported "internal:collect"
     |_=>unsupported "internal:collect") Q E s'
   |.ok _=>False
   |.error e=>E e s') (Dv prog w d es z lo) K (S.at' λo e=>qah _ e) s.heap.objs.size (qck k) (qck k) _ 0 (qau _ U) (λh' g acc c C T V=>?_) hn
 refine qac (wpAny_load T ?_);show wpAny _ _ (pure acc.toList) Q E _;have e:acc.toList=es.toList.map (·.key):=by
  apply qb4;intro i;rw[qaF,qeM,qeM];by_cases hi:i<acc.size
  ·obtain⟨e,I,u⟩:=V.2 i acc[i] (qbx hi)
   rw[I,qbx hi,u];rfl
  ·rw[qdF (by lia),qdF (by rw[<-V.1];lia)];rfl
 rw[e];refine qaq (h h' g (λb o q=>?_) (qaz T));exact C b o (qaD (qaz q)) (qah _ q)
theorem wx {Q:Value->qam->Prop}{B:List Value} (lo:(d==qcK)=false) (S:jT s.heap d es z) (K:A.in1.handled=none) (D:es.toList.map (·.key)=B) (N:B.length<64) (hu:A.in1.in1.units<cLine)
  (t:∀ v∈B,∃ l,TuI s.heap v l)
  (h:∀ (h':Heap) (g:Nat) (p:Addr) (z:Nat) (j:List Value),(∀ b o,s.heap.get? b=some o->h'.get? b=some o)->s.heap.objs.size<=p->h'.get? p=some (qfR "list" j.toArray z)->j.Perm B->j.Pairwise (λx y=>OI.kle (tuI s.heap x) (tuI s.heap y))->Q (.ref p) { s with heap:=h',toks:=g }) :
  wpAny (model prog w) A (call (.builtin "sorted") [.ref d]) Q E s:=by
 refine qgf kind_sorted plain_sorted entry_sorted (args_sorted1 _) ?_;refine qac (qaq ?_);have H:es.size<=qaN:=by
  have:=congrArg qe9 D
  rw[qaf,qcS]at this;rw[qdj];lia
 refine qac (tT lo S K H λG g C k=>?_);rw[D];refine qac (qfQ ?_ (by rw[qdj];lia));have n:(G.push _).get? G.objs.size=some (qfR "list" B.toArray 0):=qau _ U
 refine qac (qb5 (qb6 qj2 ⟨_,n,U⟩ qjT (pW (O:=OI) (rk:=λp=>tuI s.heap p.1) (S:=λp=>∃ l,TuI s.heap p.1 l) (s:={ s with heap:=G.push _,toks:=g }) n N (λh' L=>?_) (λv u=>t v u) λj a1 a2=>⟨_,U,?_⟩) (qj9 _)))
 ·have f:=λb o q=>L b o (qaD (qaz (C b o q))) (qah _ (C b o q))
  obtain⟨Y,k1,k2⟩:=um (s:={ s with heap:=h',toks:=g }) (λv u=>let ⟨l,tl⟩:=t v u;⟨l,tl.fit f⟩) hu;refine⟨Y,k1,λx y ⟨l,J⟩ ⟨m,M⟩ Q E X=>k2 x y ⟨l,J.fit f⟩ ⟨m,M.fit f⟩ Q E ?_⟩;have F:Q (bT (tuI s.heap x.1) (tuI s.heap y.1)) { s with heap:=h',toks:=g }:=X;show Q (bT (tuI h' x.1) (tuI h' y.1)) { s with heap:=h',toks:=g };rw[(J.fit f).is,(M.fit f).is];rw[J.is,M.is]at F;exact F
 ·refine qaq ⟨_,U,?_⟩
  obtain⟨P,I⟩:=sortedHeap_at n;refine h _ g G.objs.size P j (λb o q=>?_) (qeX k) I a1 (a2.imp λ{x y} q=>q);have W:=C b o q;have hb:=qaz W;rw[sortedHeap_old (qaD hb) (by rw[qiB];exact qaY hb),qdI _ _ _ (qaD hb)];exact W
end
def mgt (st:Sto) (n:Nat):Option (List (List Int×D)):=match st[n]? with
 |some (.m a)=>some a
 |_=>none
def vM (a:List (List Int×D)) (k:List Int):Option D:=(a.find? λp=>decide (p.1=k)).map (·.2)
def Bf (a:List (List Int×D)) (k:List Int) (d:D):List (List Int×D):=if (a.any λp=>decide (p.1=k))=true then a.map λp=>if p.1=k then (p.1,d) else p else a++[(k,d)]
def DS:Ef
 |_,st=>some (.h st.length,st++[.m []])
def yZ (o k:Ef):Ef
 |env,st=>(o env st).bind λx=>(k env x.2).bind λy=>match x.1,y.1 with
 |.h n,.d (.tup ds)=>(mgt y.2 n).bind λa=>(aW ds).bind λl=>(vM a l).map λd=>(.d d,y.2)
 |_,_=>none
def xh (o k v:Ef):Sf
 |env,st=>(v env st).bind λz=>(o env z.2).bind λx=>(k env x.2).bind λy=>match x.1,y.1,z.1 with
 |.h n,.d (.tup ds),.d d=>(mgt y.2 n).bind λa=>(aW ds).bind λl=>if a.length<1000 then some (.nx env (y.2.set n (.m (Bf a l d)))) else none
 |_,_,_=>none
def lj (a:Ef):Lf
 |env,st=>(a env st).bind λx=>match x.1 with
 |.h n=>(mgt x.2 n).bind λb=>if b.length<64 then some ((aD (b.map (·.1))).map au,x.2) else none
 |_=>none
section
variable {K:qae}{X:Cx}{pos:Pos}{e a b o f:Expr}{fe fa fb fo ff:Ef}
theorem AA {st:Sto}{n:Nat}{j:List (List Int×D)} (h:mgt st n=some j):st[n]?=some (.m j):=by
 unfold mgt at h;split at h
 ·rename_i q;cases h;exact q
 ·cases h
theorem Sr.atm {H:Hp}{φ:List Addr}{st:Sto} (S:Sr K H φ st) {n:Nat}{p:Addr}{j:List (List Int×D)} (e1:φ[n]?=some p) (e2:mgt st n=some j):∃ w,H p=some (.dT w)/\Rkv K H φ j w:=S.at_ n p _ e1 (AA e2)
theorem Rkv.length {H:Hp}{φ:List Addr}:∀ {ds:List (List Int×D)}{w:List (List Key×V)},Rkv K H φ ds w->ds.length=w.length
 |[],_,h=>by cases h;rfl
 |(k,d)::ds,_,h=>by
  obtain⟨v,r,rfl,C,A⟩:=h;rw[qar,qar,Rkv.length A]
theorem kx:∀ {a b:List Int},ir a=ir b->a=b
 |[],[],_=>rfl
 |[],_::_,h=>by cases h
 |_::_,[],h=>by cases h
 |x::a,y::b,h=>by
  injection h with C A;injection C with C;rw[C,kx A]
theorem xA (l:List Int):(ir l).map kV=l.map V.int:=by
 unfold ir;rw[qaC];rfl
theorem Rkv.val {H:Hp}{φ:List Addr}{i:List Int}:∀ {ds:List (List Int×D)}{w:List (List Key×V)},Rkv K H φ ds w->(∀ d,vM ds i=some d->∃ v,iu w (ir i)=some v/\Rl K H φ d v)/\(vM ds i=none->iu w (ir i)=none)
 |[],_,h=>by cases h;exact⟨(λd e=>nomatch e),λ_=>rfl⟩
 |(k,d)::ds,_,h=>by
  obtain⟨v,r,rfl,C,A⟩:=h;by_cases e:k=i
  ·subst e
   have e1:vM ((k,d)::ds) k=some d:=by unfold vM;rw[qeH (by simp)];rfl
   have e2:iu ((ir k,v)::r) (ir k)=some v:=by unfold iu;rw[qeH (by simp)];rfl
   rw[e1,e2];exact⟨λd' q=>⟨v,U,by cases q;exact C⟩,λq=>nomatch q⟩
  ·have e1:vM ((k,d)::ds) i=vM ds i:=by unfold vM;rw[qeI (by simpa using e)]
   have e2:iu ((ir k,v)::r) (ir i)=iu r (ir i):=by unfold iu;rw[qeI (by simpa using λz=>e (kx z))]
   rw[e1,e2];exact (Rkv.val A)
theorem Rkv.any {H:Hp}{φ:List Addr}{i:List Int}:∀ {ds:List (List Int×D)}{w:List (List Key×V)},Rkv K H φ ds w->(w.any λp=>decide (p.1=ir i))=ds.any λp=>decide (p.1=i)
 |[],_,h=>by cases h;rfl
 |(k,d)::ds,_,h=>by
  obtain⟨v,r,rfl,C,A⟩:=h;rw[qcB,Rkv.any A]
  congr 1
  exact decide_eq_decide.mpr ⟨λz=>kx z,λz=>congrArg ir z⟩
theorem Rkv.repl {H:Hp}{φ:List Addr}{i:List Int}{x:D}{y:V} (N:Rl K H φ x y):∀ {ds:List (List Int×D)}{w:List (List Key×V)},Rkv K H φ ds w->Rkv K H φ (ds.map λp=>if p.1=i then (p.1,x) else p) (w.map λp=>if p.1=ir i then (p.1,y) else p)
 |[],_,h=>by cases h;exact U
 |(k,d)::ds,_,h=>by
  obtain⟨v,r,rfl,C,A⟩:=h;rw[qas,qas];by_cases e:k=i
  ·rw[iFP e,iFP (by rw[e])]
   exact⟨y,_,U,N,Rkv.repl N A⟩
  ·rw[iFN e,iFN (λz=>e (kx z))]
   exact⟨v,_,U,C,Rkv.repl N A⟩
theorem Rkv.snoc {H:Hp}{φ:List Addr}:∀ {ds:List (List Int×D)}{w:List (List Key×V)}{k:List Int}{d:D}{v:V},Rkv K H φ ds w->Rl K H φ d v->Rkv K H φ (ds++[(k,d)]) (w++[(ir k,v)])
 |[],_,_,_,_,h,hd=>by cases h;exact⟨_,_,U,hd,U⟩
 |(k,d)::ds,_,_,_,_,h,hd=>by
  obtain⟨v,r,rfl,C,A⟩:=h;exact⟨v,_,U,C,Rkv.snoc A hd⟩
theorem Rkv.put {H:Hp}{φ:List Addr}{ds:List (List Int×D)}{w:List (List Key×V)}{k:List Int}{d:D}{v:V} (h:Rkv K H φ ds w) (hd:Rl K H φ d v):Rkv K H φ (Bf ds k d) (lB w (ir k) v):=by
 unfold Bf lB;rw[h.any];split
 ·exact h.repl hd
 ·exact h.snoc hd
theorem yv {H:Hp}{φ:List Addr}{ds:List D}{l:List Int}{v:V} (hl:aW ds=some l) (r:Rl K H φ (.tup ds) v):∃ p,v=.ref p/\H p=some (.tup ((ir l).map kV)):=by
 obtain⟨p,w,rfl,C,A⟩:=r;cases ce hl;cases A.ints;rw[xA];exact⟨p,U,C⟩
theorem mx:IE K X (.Dict [] [] pos) DS:=by
 refine⟨λenv st r g=>?_⟩;cases g;refine AT.imp ?_
 rintro σ H Q ⟨φ,L,F,q⟩
 exact λp W=>q _ _ _ (Fw.moreO W) (F.moreC W ⟨_,upd_same,U⟩) ⟨p,by rw[<-F.len];simp,U⟩
theorem qS {k:Nat} (G:bH k X.A) (ha:IE K X a fa) (hb:IE K X b fb) (hs:El b):IE K X (.Subscript a b pos) (yZ fa fb):=by
 refine⟨λenv st r g=>?_⟩;simp only[yZ,qab]at g;obtain⟨⟨x,s1⟩,N,⟨y,s2⟩,hy,g⟩:=g;dsimp only at g;split at g
 next n ds=>
  simp only[qab,qad]at g;obtain⟨j,hk,l,hl,d,hd,rfl⟩:=g;refine (CZ (DR G) (ha.run _ _ _ N) (hb.run _ _ _ hy) hs).imp ?_
  rintro σ H Q ⟨φ,L,F,q⟩
  refine⟨φ,L,F,λv H1 E M S1 w1=>⟨E,L.fw F M,S1,λu H2 T f2 S2 w2=>?_⟩⟩;obtain⟨p,ep,rfl⟩:=w1.fw S1 f2;obtain⟨w,Y,rl⟩:=S2.atm ep hk;obtain⟨v2,e2,r2⟩:=rl.val.1 d hd;obtain⟨b',rfl,P⟩:=yv hl w2;refine⟨p,v2,U,?_,q _ H2 T (M.trans f2) S2 r2⟩;rw[<-e2];exact yF.t Y P
 ·cases g
theorem mG {k:Nat}{O:Pos} (G:bH k X.A) (ho:IE K X a fa) (hi:IE K X b fb) (Y:IE K X e fe) (hs:qcM e (some (.Subscript a b O)) pos.line X.env=pure false:=by rfl) :
  IS K X (.Assign [.Subscript a b O] e pos) (xh fa fb fe):=by
 refine⟨λenv st r g=>?_⟩;simp only[xh,qab]at g;obtain⟨⟨z,s1⟩,hz,⟨x,s2⟩,N,⟨y,s3⟩,hy,g⟩:=g;dsimp only at g;split at g
 next n ds d=>
  simp only[qab]at g;obtain⟨j,hk,l,hl,g⟩:=g;split at g
  ·rename_i J
   cases g;refine (C7 (DR G) (ho.run _ _ _ N) (hi.run _ _ _ hy) (Y.run _ _ _ hz) hs).imp ?_
   rintro D σ H ⟨φ,L,F,q⟩
   refine⟨φ,L,F,λv H1 E M S1 w1=>⟨E,L.fw F M,S1,λu H2 T f2 S2 w2=>⟨T,(L.fw F M).fw S1 f2,S2,λt H3 φ3 f3 S3 w3=>?_⟩⟩⟩;obtain⟨p,ep,rfl⟩:=w2.fw S2 f3;obtain⟨w,W,rl⟩:=S3.atm ep hk;obtain⟨b',rfl,P⟩:=yv hl w3;obtain⟨f4,S4⟩:=S3.putC (c:=.m _) ep λf=>⟨_,upd_same,(rl.put (Rl.fw S2 f3 (Rl.fw S1 f2 w1))).fw S3 f⟩;refine⟨p,_,U,zF.t W P (by rw[<-rl.length];exact qaP J (by decide)),?_⟩;exact q _ _ φ3 (((M.trans f2).trans f3).trans f4) (((((L.fw F M).fw S1 f2).fw S2 f3)).fw S3 f4) S4
  ·cases g
 ·cases g
theorem xB {H:Hp}{φ:List Addr}:∀ {j:List (List Int×D)}{w:List (List Key×V)}{xs:List (List Key×Addr×Value)},Rkv K H φ j w->KT H w xs->
  Rls K H φ ((j.map (·.1)).map au) (xs.map λx=>V.ref x.2.1)/\aJ (xs.map λx=>V.ref x.2.1) (xs.map λx=>Value.ref x.2.1)
 |[],_,_,h,t=>by cases h;cases t;exact⟨U,.nil⟩
 |(k,d)::j,_,_,h,t=>by
  obtain⟨v,r,rfl,C,A⟩:=h;cases t with
  |cons q t=>
   rename_i x xs;obtain⟨i1,i2⟩:=xB A t;have e:H x.2.1=some (.tup (k.map V.int)):=by rw[<-xA];exact q.2.1
   exact⟨⟨_,_,U,⟨_,_,U,e,Rls.of_ints k⟩,i1⟩,.cons U i2⟩
theorem kg {k:Nat}{p:Pos} (G:bH k X.A) (hg:Gl X "sorted") (hm:X.mg "sorted" = none) (ha:IE K X a fa) (hc:X.calm=true:=by rfl) (hs:av a=true:=by rfl) (hK:X.K=K:=by rfl):IL K X (.Call (.Name "sorted" p) [a] [] pos) (lj fa):=by
 subst hK;refine⟨λenv st r g=>?_⟩;simp only[lj,qab]at g;obtain⟨⟨x,s1⟩,N,g⟩:=g;dsimp only at g;split at g
 case h_2=>cases g
 rename_i n;simp only[qab]at g;obtain⟨j,hk,g⟩:=g;split at g
 ·rename_i hl
  cases g;have hA:=(bG (K:=X.K) (X:=X) ha cy hs).run env st ([.h n],s1) (by simp only[aa,ac,N,qaa,qaj]);have hC:bO X (.builtin "sorted") (λxs H Q=>∃ φ q,Sr X.K H φ s1/\φ[n]?=some q/\xs=[.ref q]/\∀ l us,H l=none->Rls X.K H φ ((aD (j.map (·.1))).map au) us->Q (.ref l) (upd H l (.lst us))):=by
   intro pins s σ H xs us Q I rv q;obtain⟨φ,ad,S,R,rfl,q⟩:=q;obtain⟨u,rfl,ru⟩:=jb rv;cases ru;obtain⟨w,Y,rl⟩:=S.atm R hk;obtain⟨z',hd,xs,rel,o,es,ep,g1,g2,g3,g4,g5,g6⟩:=DP I.hok Y;obtain⟨b1,b2⟩:=xB rl rel;have J:xs.length<64:=by
    have e1:=rel.length;have e2:=rl.length;lia
   have hkeys:es.toList.map (·.key)=xs.map λx=>Value.ref x.2.1:=by rw[g4,qaC];rfl
   obtain⟨m1,m2⟩:=oJ I b1 b2;have hun:X.A.in1.in1.units<cLine:=by
    have:=G.un
    show X.A.units+1+1<cLine;lia
   refine wx hd ⟨o,g1,g2,g3⟩ (I.ok.hd hc) hkeys (by rw[qaf];exact J) hun (λv Y=>⟨_,(m2 v Y).1⟩) λh' tk p ep' B hkeep W he a1 a2=>?_;have hn:H p=none:=I.hok.fresh W;have ho:=λu hu=>m2 u (a1.mem_iff.mp hu);obtain⟨c1,c2⟩:=oI (K:=X.K) (H:=H) (φ:=φ) ho;have hpm:(B.map (tuI s.heap)).Perm (j.map (·.1)):=by
    have:=a1.map (tuI s.heap)
    rw[m1]at this;exact this
   have hsrt:(B.map (tuI s.heap)).Pairwise leL:=by
    rw[qcr];exact a2.imp λ{x y} q=>q
   have e:B.map (tuI s.heap)=aD (j.map (·.1)):=kP (hpm.trans (aB _).symm) hsrt (fX _);have e2:(B.map λu=>au (tuI s.heap u))=(aD (j.map (·.1))).map au:=by rw[<-e,qaC];rfl
   rw[e2]at c1;have hlay:Inv X pins σ (upd H p (.lst (B.map toV))) { s with heap:=h',toks:=tk }:=by
    refine I.laid (t':=tk) (a:=p) (o:=.lst (B.map toV)) hkeep W ⟨?_,B,ep',c2,by simpa [qfR] using he⟩;rw[qaf,a1.length_eq,qaf];exact kO (by lia)
   exact⟨.ref p,_,hlay,U,q p _ hn c1⟩
  refine (oz hC hg hm qbo hA (by decide) (by decide) (aS hs) (bC (es:=[]) U)).imp ?_
  rintro σ H Q ⟨φ,L,F,q⟩
  refine⟨φ,L,F,λw H1 E M S1 w1=>?_⟩;obtain⟨v,r,rfl,⟨ad,R,rfl⟩,rfl⟩:=w1;exact⟨E,ad,S1,R,U,λl us hl' hr'=>q l _ H1 E M S1 hl' hr'⟩
 ·cases g
end
def lW (ns:List Int) (d:Option Int):Option Int:=match ns with
 |n::r=>some (kG r n)
 |[]=>d
section
variable {prog:qaR}{w:World}{A:qaZ}{s:qam}{I l S:Addr}{a:Array Value}{ns:List Int}{K:List (Str×Value)}{R:qhE->qam->Prop}
theorem E1 (P:A.handled=none) (hi:qcF a.toList ns) (u:S≠I) (D:l≠I) (J:l≠S):∀ (g:List Int) (j:Nat) (s:qam) (m:Int) (t:Tok) (c:Nat),ns.drop j=g->s.heap.IsListIter I l j->s.heap.IsList l a->
  s.heap.get? S=some { cls:=.type "list",dict:=none,data:=.seq #[.int m t,.int m t] c,slots:=#[] }->
  (∀ t' h',(∀ b o,b≠I->b≠S->s.heap.get? b=some o->h'.get? b=some o)->R (.ok (.ret (.int (kG g m) t'))) { s with heap:=h' })->qdM (model prog w) A (.builtin "min.loop" ⟨[.ref I,.none,.ref S],K⟩) R s:=by
 have G:(toString "min"++toString ".loop" : String) = "min.loop":=by decide
 intro g
 induction g with
 |nil=>
  intro j s m t c hd B z L O;have H:ns[j]?=none:=by
   rw[qbq]
   have:=congrArg qe9 hd
   simp at this;lia
  refine qcV qgd ?_;rw[qcI qc2 _];refine qac (qbP L U ?_);refine qac (qcv (qdh P B z (kh hi H) λT x=>?_));refine qac (qdK (x _ _ u L) U (qac (qc0 (qaq ?_))));exact O t _ λb o i p q=>(qaT _ _ (qbr p)).trans (x _ _ i q)
 |cons n g ih=>
  intro j s m t c hd B z L O;have H:ns[j]?=some n:=by
   have:=congrArg (λl=>l[0]?) hd
   simpa using this
  have V:ns.drop (j+1)=g:=by
   have:=congrArg (qhY 1) hd
   simpa [qh8,qeY] using this
  obtain⟨Y,hx⟩:=ki hi H;refine qcV qgd ?_;rw[qcI qc2 _];refine qac (qbP L U ?_);refine qac (qcv (qdb B z hx λT y s1=>?_));have x:=s1.extBut;have C:=x _ _ u L;show wpAny _ A.in1 (tryCatch _ _ >>= _) _ _ _;refine qac (qcv (qb5 (qac (qev ?_))));refine qac (qb5 (qcw ?_));refine qac (qc0 (qaq ?_));by_cases hb:n<m
  ·have N:decide (n<m)=true:=by simp[hb]
   rw[N];simp only[if_true];refine qac (qdK C U (qac (qc0 ?_)));rw[G];refine qaq ⟨qdn qc2 _,ih (j+1) _ n Y _ V (y.at λo q=>(qaT _ _ u).trans q) (Heap.IsList.at z λo q=>(qaT _ _ (qbr J)).trans (x _ _ D q)) (qch _ C U) λt' h' k=>?_⟩
   have:=O t' h' λb o i p q=>k b o i p ((qaT _ _ (qbr p)).trans (x _ _ i q))
   rw[kG,iFP hb]at this;exact this
  ·have N:decide (n<m)=false:=by simp[hb]
   rw[N];simp only[qa8,if_false];refine qac (qc0 ?_);rw[G];refine qaq ⟨qdn qc2 _,ih (j+1) _ m t c V y (Heap.IsList.at z λo q=>x _ _ D q) C λt' h' k=>?_⟩
   have:=O t' h' λb o i p q=>k b o i p (x _ _ i q)
   rw[kG,iFN hb]at this;exact this
variable {E:Value->qam->Prop}
theorem zf (P:A.handled=none) (hi:qcF a.toList ns) (u:S≠I) (D:l≠I) (J:l≠S) {c:Nat} (B:s.heap.IsListIter I l 0) (z:s.heap.IsList l a) (L:s.heap.get? S=some { cls:=.type "list",dict:=none,data:=.seq #[] c,slots:=#[] })
  (O:∀ v h',(∀ b o,b≠I->b≠S->s.heap.get? b=some o->h'.get? b=some o)->(∀ n r,ns=n::r->∃ t,v=.int (kG r n) t)->(ns=[]->∃ k,K=[(k,v)])->R (.ok (.ret v)) { s with heap:=h' })
  (X:ns=[]->∃ k v,K=[(k,v)]):qdM (model prog w) A (.builtin "min.loop" ⟨[.ref I,.none,.ref S],K⟩) R s:=by
 refine qcV qgd ?_;rw[qcI qc2 _];refine qac (qbP L U ?_);cases H:ns with
 |nil=>
  obtain⟨k,v,rfl⟩:=X H;refine qac (qcv (qdh P B z (kh hi (by rw[H];rfl)) λT x=>?_));refine qac (qdV (qaq ?_));exact O v _ (λb o i _ q=>x _ _ i q) (λn r e=>by rw[H]at e;cases e) λ_=>⟨k,U⟩
 |cons n g=>
  obtain⟨Y,hx⟩:=ki hi (j:=0) (by rw[H];rfl);refine qac (qcv (qdb B z hx λT y s1=>?_));have x:=s1.extBut;have C:=x _ _ u L;show wpAny _ A.in1 (updateSeq S _ >>= _) _ _ _;refine qac (qdK C U ?_);refine qaq ⟨qdn qc2 _,E1 P hi u D J g 1 _ n Y _ (by rw[H];rfl) (y.at λo q=>(qaT _ _ u).trans q) (Heap.IsList.at z λo q=>(qaT _ _ (qbr J)).trans (x _ _ D q)) (qch _ C U) λt' h' k=>?_⟩;exact O _ h' (λb o i p q=>k b o i p ((qaT _ _ (qbr p)).trans (x _ _ i q))) (λn' r' e=>by rw[H]at e;cases e;exact⟨t',U⟩) λe=>by rw[H]at e;cases e
theorem qx {Q:Value->qam->Prop} (P:A.handled=none) (hi:qcF a.toList ns) (z:s.heap.IsList l a) (hk:K=[]) (X:ns=[]->K≠[])
  (h:∀ v h',(∀ b o,s.heap.get? b=some o->h'.get? b=some o)->(∀ n r,ns=n::r->∃ t,v=.int (kG r n) t)->(ns=[]->∃ k,K=[(k,v)])->Q v { s with heap:=h' }) :
  wpAny (model prog w) A (call (.builtin "min") [.ref l] K) Q E s:=by
 have W:l<s.heap.objs.size:=by obtain⟨_,e,_⟩:=z;exact qaz e
 have M:(s.heap.push { cls:=.type "list_iterator",data:=.fields #[.ref l,.int 0 0] }).objs.size=s.heap.objs.size+1:=qbk ..
 have fin:∀ dd:List Value,K=dd.map _->wpAny (model prog w) A.in1 (do
   let it <-qhC _
   let b <-newList []
   qiG (.builtin "min.loop" ⟨[it,.none,b],dd.map λd=>(qee "default",d)⟩)) (λfin s'=>match fin with
   |.done f=>(match (Except.ok f) with|.ok (.ret v)=>Q v s'|.ok _=>False|.error e=>E e s')
   |.again c'=>c'.quiet=true/\qdM (model prog w) A c' (λr s'=>match r with|.ok (.ret v)=>Q v s'|.ok _=>False|.error e=>E e s') s') E s:=λdd hdd=>by
  refine qac (qdm z (qac (qcx ?_)));refine qaq ⟨qdn qc2 _,?_⟩;rw[<-hdd];refine zf P hi (by rw[M];exact qeG _) (qaD W) (by rw[M];exact qaD (qaY W))
   ⟨_,qah _ (qau _ U),U,U⟩ (Heap.IsList.at z λo q=>qah _ (qah _ q)) (qau _ U) (λv h' k T h2=>?_) (λe=>?_)
  ·refine h v h' (λb o q=>?_) T h2
   have hb:=qaz q;exact k b o (qaD hb) (by rw[M];exact qaD (qaY hb)) (qah _ (qah _ q))
  ·exact absurd hk (X e)
 subst hk;refine gM F.kind_min F.plain_min F.entry_min (F.args_min1 _) ?_;exact (fin [] U)
end
section
variable {K:qae}{X:Cx}{e a b:Expr}{es:List Expr}{pos:Pos}{f P R:Ef}{Y:Af}
theorem yQ (k:X.calm=true) {A:List (Str×Value)}{d:Option V}{ns:List Int}{c:List (Addr×Obj)}{p:St}{H:Hp}{s:qam}{ad:Addr}{Q:VK}{E:XK}{r:Int} (I:Inv X c p H s) (m:Rd H ad (.lst (ns.map V.int)))
  (y:A=[]/\ns≠[]) (C:∀ n q,ns=n::q->r=kG q n) (q:Q (.int r) H) :
  wpAny (model X.prog X.w) X.A (call (.builtin "min") [.ref ad] A) (EP X c p Q) X.xe s:=by
 obtain⟨M,l,N,T⟩:=I.list (.inl m);refine qx (I.ok.hd k) (by simpa using eP l) N.isList ?_ ?_ λv h' kp B h2=>?_
 ·exact y.1
 ·intro e z
  exact y.2 e
 ·have F:∃ t,v=.int r t:=by
   cases g:ns with
   |nil=>exact absurd g y.2
   |cons n q=>
    rw[C n q g];exact B n q g
  exact⟨.int r,H,I.kept kp,F,q⟩
def dMi (st:Sto):List W->Option D
 |[.d (.int i),.d (.int j)]=>some (.int (if j<i then j else i))
 |[w]=>(lsI st w).bind λns=>(lW ns none).map D.int
 |_=>none
theorem wQ (k:X.calm=true:=by rfl):gf K X (.builtin "min") dMi:=by
 refine⟨λst ws d h=>?_⟩;have one:∀ w,((lsI st w).bind λns=>(lW ns none).map D.int)=some d->bO X _ (rCD K st [w] d):=λw h=>by
  obtain⟨ns,G,h⟩:=qab.mp h;obtain⟨r,e2,rfl⟩:=qad.mp h;intro c s p H xs us Q I l q;obtain⟨φ,S,⟨v,O,rfl,o,rfl⟩,q⟩:=q;obtain⟨ad,rfl,m⟩:=xJ S o G;obtain⟨u,rfl,J⟩:=jb l;cases J;refine yQ (E:=λ_ _ _=>False) (d:=none) k I m ⟨U,λe=>by rw[e]at e2;cases e2⟩ (λn q g=>by rw[g]at e2;exact (qaQ e2).symm) (q _ H (aP.refl H) U)
 match ws,h with
 |[.d (.int i),.d (.int j)],h=>
  cases h;refine (pJ k).imp ?_
  rintro vs H Q ⟨φ,S,⟨v,r,rfl,o,u,r',rfl,L,rfl⟩,q⟩
  exact⟨i,j,by rw[o,L],q _ H (aP.refl H) U⟩
 |[w],h=>exact one w (by cases w with|h n=>exact h|d x=>cases x<;>exact h)
end
end L2
@[reducible]def Z(x:L2.D):Option L2.W:=some (.d x)
namespace Own
open PySem L2
noncomputable section
def gr:Sf:=(aw (.nm 1) (iOp bg (iV 1) (iC (.int 2))))
def ni:Sf:=(ah (aw (.nm 1) (iC (.int 1))) (ah (gR (bi (aa (iV 0) ac)) (.nm 2) gr) (aM (iV 1))))
def ci:Fn:=bj 3 1 ni
def B6:Sf:=(aM (iOp iG (iOp pK (iV 0) (ai ci (aa (iV 1) ac))) (iC (.int 2))))
def mR:Fn:=bj 2 2 B6
def ft:Tf:=(aN dNe (iV 3) (iC (.int 0)))
def fO:Sf:=(ah (aw (.nm 4) (iOp iG (iV 1) (iV 3))) (ah (aw (.nm 1) (iV 3)) (aw (.nm 3) (iV 4))))
def fI:Sf:=(ah (aw (.nm 3) (iCB zW (aa (iV 2) ac))) (vE (2^8000) ft fO))
def l8:Sf:=(ah (aw (.nm 1) (iC (.int 0))) (ah (gR (ar (iV 0)) (.nm 2) fI) (aM (iV 1))))
def bB:Fn:=bj 5 1 l8
def t4:Ef:=(iOp qF (iV 0) (iV 1))
def yJ:Sf:=(ah (aw (.nm 1) (ai bB (aa (iV 0) ac))) (ah (bA (aN dEq (iV 1) (iC (.int 0))) (aM (iCB dj (aa (iV 0) ac))) bn) (aM (iCB dj (aa (ap (iLc 1 [1] (ar (iV 0)) (.nm 0) az t4)) ac)))))
def bI:Fn:=bj 2 1 yJ
def fW:Ef:=(iV 0)
def f9:Tf:=(aN tW (iV 1) (iC .non))
def lI:Sf:=(aM (iCB dj (aa (ap (iLc 2 [] (cY (aa (iV 0) ac)) (.tp [0,1]) f9 fW)) ac)))
def bL:Fn:=bj 1 1 lI
def kY:Sf:=(aM (jO (aN dEq (iOp dIx (iV 0) (iV 1)) (iC (.int 1))) (iC (.int 1)) (iUn fU (iC (.int 1)))))
def dw:Fn:=bj 2 2 kY
def iJ:Ef:=(iOp bm (ap (iCL xC (aa (iV 0) ac))) (ap (bD (aa (iV 1) ac))))
def iK:Ef:=(iUn fU (iV 0))
def cm:List (Str×Ef):=[("amounts",(iCB aZ (aa (iV 3) ac))),("lines",(ap (iLc 2 [] (im (aa (iV 1) (aa (iV 2) ac))) (.tp [0,1]) az iJ))),("goal",(iOp bm (ap (iLc 1 [] (ar (iV 3)) (.nm 0) az iK)) (ap (bD (aa (iC (.int 0)) ac))))),("part",(iC (.int 1))),("free",(cx (pi (aa (iCB aZ (aa (iV 3) ac)) ac)))),("kept",(cx (qO (aa (iCB aZ (aa (iV 3) ac)) (aa (iOp bm (iCB aZ (aa (iV 3) ac)) (iCB aZ (aa (iV 1) ac))) ac)))))]
def aT:Sf:=(ah (bA (dI d8 (iV 3)) (ah (aw (.nm 5) (iOp bg (iOp dIx (iV 1) (iV 4)) (iOp dIx (iV 2) (iOp dIx (iV 3) (iC (.int 0)))))) (ah (aw (.nm 6) (iOp bg (iOp dIx (iV 1) (iOp dIx (iV 3) (iC (.int 0)))) (iOp dIx (iV 2) (iV 4)))) (ah (bA (aN dGt (iV 5) (iV 6)) pN bn) (bA (aN dLt (iV 5) (iV 6)) (aw (.nm 3) (cx (bD ac))) bn)))) bn) (j7 (iN gW (iV 3) (aa (iV 4) ac))))
def jw:Sf:=(ah (aw (.nm 3) (cx (bD ac))) (ah (gR (ar (iV 0)) (.nm 4) aT) (aM (iV 3))))
def fY:Fn:=f8 7 3 jw
def yL:Sf:=(aM (iOp bm (ap (bD (aa (iC .non) ac))) (ap (qO (aa (ay "amounts" (iV 0)) (aa (iOp bm (ay "amounts" (iV 0)) (iCB aZ (aa (ay "lines" (iV 0)) ac))) ac))))))
def ef:Fn:=bj 1 1 yL
def nA:Ef:=(jO (aN dEq (iV 0) (iV 1)) (ay "part" (iV 2)) (iC (.int 0)))
def nB:Ef:=(iOp dIx (iV 0) (iV 1))
def nC:Ef:=(iOp dIx (iV 0) (iUn fU (iC (.int 1))))
def gK:Sf:=(ah (bA (aN iF (iV 1) (iC .non)) (aM (ap (iLc 1 [] (ar (ay "lines" (iV 0))) (.nm 0) az nC))) bn) (ah (bA (aN dIn (iV 1) (ay "free" (iV 0))) (ah (aw (.nm 2) (Ah (ay "free" (iV 0)) (aa (iV 1) ac))) (aM (ap (iLc 1 [2] (ar (ay "lines" (iV 0))) (.nm 0) az nB)))) bn) (aM (ap (iLc 1 [1,0] (ar (ay "kept" (iV 0))) (.nm 0) az nA)))))
def df:Fn:=bj 3 2 gK
def fJ:Sf:=(ah (bA (aN dLt (iCB aZ (aa (iV 3) ac)) (iC (.int 2))) vD bn) (aw (.nm 3) (ai fY (aa (iV 3) (aa (ai df (aa (iV 0) (aa (iV 4) ac))) (aa (iV 2) ac))))))
def tY:Ef:=(iV 0)
def u9:Tf:=(aN dGt (iV 1) (iC (.int 0)))
def tZ:Ef:=(iOp dIx (iV 0) (iV 1))
def pw:Sf:=(ah (aw (.nm 2) (ap (iLc 1 [1] (ar (ay "lines" (iV 0))) (.nm 0) az tZ))) (ah (aw (.nm 3) (ap (iLc 2 [] (cY (aa (iV 2) ac)) (.tp [0,1]) u9 tY))) (ah (gR (ar (ai ef (aa (iV 0) ac))) (.nm 4) fJ) (aM (jO (dI d8 (iV 3)) (iOp dIx (iV 3) (iC (.int 0))) (iC .non))))))
def ji:Fn:=bj 5 2 pw
def cf:Sf:=(ah (aw (.nm 6) (ai df (aa (iV 0) (aa (iV 5) ac)))) (ah (aw (.nm 7) (iOp nr (iOp bg (iV 4) (iOp dIx (iV 6) (iOp dIx (iV 2) (iC (.int 1))))) (iOp bg (iV 3) (iOp dIx (iV 6) (iOp dIx (iV 1) (iC (.int 1))))))) (bA (aN dNe (iV 7) (iC (.int 0))) (aM (iOp dGt (iV 7) (iC (.int 0)))) bn)))
def qq:Sf:=(ah (aw (.nm 3) (iOp bg (iOp dIx (ay "goal" (iV 0)) (iOp dIx (iV 1) (iC (.int 0)))) (iOp dIx (iOp dIx (ay "lines" (iV 0)) (iOp dIx (iV 2) (iC (.int 1)))) (iOp dIx (iV 2) (iC (.int 0)))))) (ah (aw (.nm 4) (iOp bg (iOp dIx (ay "goal" (iV 0)) (iOp dIx (iV 2) (iC (.int 0)))) (iOp dIx (iOp dIx (ay "lines" (iV 0)) (iOp dIx (iV 1) (iC (.int 1)))) (iOp dIx (iV 1) (iC (.int 0)))))) (ah (gR (ar (ai ef (aa (iV 0) ac))) (.nm 5) cf) (aM (iC (.bl false))))))
def cp:Fn:=bj 8 3 qq
def bV:Sf:=(ah (bA (aN dGe (iOp dIx (ay "goal" (iV 0)) (iV 2)) (iC (.int 0))) pN bn) (ah (aw (.nm 3) (bz (aa (iV 2) (aa (ai ji (aa (iV 0) (aa (iV 2) ac))) ac)))) (ah (bA (aN iF (iOp dIx (iV 3) (iC (.int 1))) (iC .non)) (aM (iV 3)) bn) (bA (li (aN iF (iV 1) (iC .non)) (dI d8 (ai cp (aa (iV 0) (aa (iV 3) (aa (iV 1) ac)))))) (aw (.nm 1) (iV 3)) bn))))
def tH:Sf:=(ah (aw (.nm 1) (iC .non)) (ah (gR (bi (aa (iCB aZ (aa (ay "free" (iV 0)) ac)) ac)) (.nm 2) bV) (aM (iV 1))))
def bR:Fn:=bj 4 1 tH
def lb:Ef:=(iOp qF (iOp nr (iOp bg (iV 2) (iV 0)) (iOp bg (iV 3) (iV 1))) (iV 4))
def wO:Sf:=(ah (aw (.nm 4) (iOp dIx (iV 1) (iV 2))) (ah (aw (.nm 5) (iOp dIx (iV 0) (iV 2))) (ah (aw (.nm 6) (cx (iLc 2 [4,5,3] (im (aa (iV 0) (aa (iV 1) ac))) (.tp [0,1]) az lb))) (ah (bE (iV 6) (iV 2) (iUn fU (iV 5))) (aM (iV 6))))))
def kC:Fn:=f8 7 4 wO
def dW:Ef:=(ai kC (aa (iV 0) (aa (iV 1) (aa (iV 2) (aa (iV 3) ac)))))
def jG:Sf:=(ah (aw (.nm 3) (iOp dIx (ay "lines" (iV 0)) (iV 1))) (ah (aw (.nm 4) (ay "part" (iV 0))) (ah (i3 5 1 2 3 4 (iLc 1 [3,2,4] (ar (ay "lines" (iV 0))) (.nm 0) az dW)) (ah (lO "goal" (iV 0) (ai kC (aa (ay "goal" (iV 0)) (aa (iV 3) (aa (iV 2) (aa (iV 4) ac)))))) (ah (lO "lines" (iV 0) (iV 5)) (ah (lO "part" (iV 0) (iOp dIx (iV 3) (iV 2))) (ah (aw (.nm 6) (iOp dIx (ay "free" (iV 0)) (iV 2))) (ah (bE (ay "free" (iV 0)) (iV 2) (iOp dIx (ay "kept" (iV 0)) (iV 1))) (bE (ay "kept" (iV 0)) (iV 1) (iV 6))))))))))
def eU:Fn:=f8 7 3 jG
def og:Sf:=(bA (aN dLt (iV 4) (ay "amounts" (iV 0))) (bE (iV 2) (iV 4) (iUn fU (iOp dIx (iOp dIx (ay "lines" (iV 0)) (iV 3)) (iV 1)))) bn)
def tM:Sf:=(ah (aw (.nm 2) (cx (ud n8 (ap (bD (aa (iC (.int 0)) ac))) (ay "amounts" (iV 0))))) (ah (gR (cY (aa (ay "kept" (iV 0)) ac)) (.tp [3,4]) og) (ah (bA (aN dLt (iOp dIx (ay "free" (iV 0)) (iV 1)) (ay "amounts" (iV 0))) (bE (iV 2) (iOp dIx (ay "free" (iV 0)) (iV 1)) (ay "part" (iV 0))) bn) (aM (dn bI (aa (iV 2) ac))))))
def kE:Fn:=f8 5 2 tM
def iR:Sf:=(bA (aN dLt (iV 3) (ay "amounts" (iV 0))) (bE (iV 1) (iV 3) (iOp dIx (iOp dIx (ay "lines" (iV 0)) (iV 2)) (iUn fU (iC (.int 1))))) bn)
def jW:Sf:=(ah (aw (.nm 1) (cx (ud n8 (ap (bD (aa (iC (.int 0)) ac))) (ay "amounts" (iV 0))))) (ah (gR (cY (aa (ay "kept" (iV 0)) ac)) (.tp [2,3]) iR) (aM (iV 1))))
def gZ:Fn:=f8 4 1 jW
def jE:Sf:=(bA (aN dGe (iV 3) (ay "amounts" (iV 0))) (bE (iV 1) (iOp nr (iV 3) (ay "amounts" (iV 0))) (iOp dIx (ay "goal" (iV 0)) (iV 2))) bn)
def lH:Sf:=(ah (aw (.nm 1) (cx (ud n8 (ap (bD (aa (iC (.int 0)) ac))) (iCB aZ (aa (ay "lines" (iV 0)) ac))))) (ah (gR (cY (aa (ay "free" (iV 0)) ac)) (.tp [2,3]) jE) (aM (iV 1))))
def iY:Fn:=f8 4 1 lH
def eJ:Ef:=(iOp qF (iV 0) (iV 1))
def eK:Ef:=(iOp qF (iV 0) (iV 1))
def jX:Sf:=(ah (aw (.nm 1) (ai gZ (aa (iV 0) ac))) (ah (aw (.nm 2) (ai iY (aa (iV 0) ac))) (ah (aw (.nm 3) (ai bB (aa (iOp bm (iOp bm (ap (bD (aa (ay "part" (iV 0)) ac))) (iV 1)) (iV 2)) ac))) (aM (bz (aa (iC (.str "most")) (aa (iOp qF (ay "part" (iV 0)) (iV 3)) (aa (iCB dj (aa (ap (iLc 1 [3] (ar (iV 1)) (.nm 0) az eK)) ac)) (aa (iCB dj (aa (ap (iLc 1 [3] (ar (iV 2)) (.nm 0) az eJ)) ac)) ac)))))))))
def g9:Fn:=bj 4 1 jX
def ij:Tf:=(aN tW (iV 4) (iC .non))
def fP:Sf:=(ah (bA (aN iF (iOp dIx (iV 4) (iC (.int 1))) (iC .non)) (aM (bz (aa (iC (.str "beyond")) (aa (dn kE (aa (iV 3) (aa (iOp dIx (iV 4) (iC (.int 0))) ac))) ac)))) bn) (ah (j7 (ai eU (aa (iV 3) (aa (iOp dIx (iV 4) (iC (.int 1))) (aa (iOp dIx (iV 4) (iC (.int 0))) ac))))) (aw (.nm 4) (dn bR (aa (iV 3) ac)))))
def yK:Sf:=(ah (aw (.nm 3) (pO 4 4 cm (aa (iV 0) (aa (iV 1) (aa (iV 2) ac))))) (ah (aw (.nm 4) (dn bR (aa (iV 3) ac))) (ah (vE (2^8000) ij fP) (aM (dn g9 (aa (iV 3) ac))))))
def jj:Fn:=bj 5 3 yK
def dX:Ef:=(ai mR (aa (iV 1) (aa (iV 0) ac)))
def vm:Sf:=(ah (aw (.nm 3) (iCB jt (aa (ap (iLc 1 [2] (ar (iV 1)) (.nm 0) az dX)) ac))) (ah (bA (aN dEq (iV 0) (iC (.str "both"))) (aM (jO (aN dEq (iV 3) (iCB aZ (aa (iV 1) ac))) (iC (.int 1)) (iC (.int 0)))) bn) (aM (jO (aN dEq (iOp iG (iV 3) (iC (.int 2))) (iC (.int 1))) (iUn fU (iC (.int 1))) (iC (.int 1))))))
def hJ:Fn:=bj 4 3 vm
def jA:Ef:=(bz (aa (iV 0) (aa (yZ (iV 1) (iV 0)) ac)))
def jF:Tf:=(aN dNe (yZ (iV 1) (iV 0)) (iC (.int 0)))
def tL:Sf:=(aM (bz (aa (iV 0) (aa (iCB dj (aa (ap (iLc 1 [1] (ar (ap (lj (iV 1)))) (.nm 0) jF jA)) ac)) ac))))
def iX:Fn:=bj 2 2 tL
def gO:Ef:=(iOp bg (iV 1) (ai hJ (aa (iOp dIx (iV 2) (iC (.int 0))) (aa (iV 0) (aa (iV 3) ac)))))
def nj:Sf:=(aM (iCB jt (aa (ap (iLc 2 [0,1] (ar (iOp dIx (iV 0) (iC (.int 1)))) (.tp [0,1]) az gO)) ac)))
def eV:Fn:=bj 2 2 nj
def iM:Ef:=(iCB zW (aa (iV 1) ac))
def pB:Sf:=(aM (iCB jt (aa (ap (iLc 2 [] (ar (iOp dIx (iV 0) (iC (.int 1)))) (.tp [0,1]) az iM)) ac)))
def d9:Fn:=bj 1 1 pB
def lc:Ef:=(iOp dGt (iOp bg (ai eV (aa (iV 1) (aa (iV 0) ac))) (ai dw (aa (iV 2) (aa (iV 0) ac)))) (iC (.int 0)))
def wP:Sf:=(aM (iCB vw (aa (ap (iLc 1 [0,1] (ar (ai bL (aa (iV 1) ac))) (.nm 0) az lc)) ac)))
def fL:Fn:=bj 2 2 wP
def iz:Sf:=(aM (iOp bg (ai dw (aa (iV 0) (aa (iV 3) ac))) (ai hJ (aa (iV 1) (aa (iV 2) (aa (iV 3) ac))))))
def dg:Fn:=bj 4 4 iz
def fD:Ef:=(ai dg (aa (iV 1) (aa (iV 2) (aa (iV 0) (aa (iV 3) ac)))))
def fE:Ef:=(ap (iLc 1 [2,3,0] (ar (iV 1)) (.nm 0) az fD))
def l9:Sf:=(aM (ap (iLc 1 [2,0,1] (ar (ai bL (aa (iV 0) ac))) (.nm 0) az fE)))
def dO:Fn:=bj 3 3 l9
def nD:Ef:=(bz (aa (iV 0) (aa (iOp qF (iV 1) (iV 2)) ac)))
def zK:Sf:=(aM (bz (aa (iOp dIx (iV 0) (iC (.int 0))) (aa (iCB dj (aa (ap (iLc 2 [1] (ar (iOp dIx (iV 0) (iC (.int 1)))) (.tp [0,1]) az nD)) ac)) ac))))
def oo:Fn:=bj 2 2 zK
def nE:Ef:=(iV 1)
def zL:Sf:=(aM (ai oo (aa (iV 0) (aa (ai bB (aa (ap (iLc 2 [] (ar (iOp dIx (iV 0) (iC (.int 1)))) (.tp [0,1]) az nE)) ac)) ac))))
def oq:Fn:=bj 1 1 zL
def jz:Ef:=(iUn fU (iV 0))
def tJ:Sf:=(aM (iOp bm (ap (iCL xC (aa (iV 0) ac))) (ap (iLc 1 [] (ar (iV 0)) (.nm 0) az jz))))
def iW:Fn:=bj 1 1 tJ
def fK:Sf:=(xh (iV 3) (iV 5) (iOp nr (iOp dIx (iV 2) (iV 4)) (iOp dIx (iV 2) (iOp bm (iCB aZ (aa (iV 1) ac)) (iV 4)))))
def px:Sf:=(ah (aw (.nm 3) DS) (ah (gR (cY (aa (iV 1) ac)) (.tp [4,5]) fK) (aM (ai oq (aa (ai iX (aa (iV 0) (aa (iV 3) ac))) ac)))))
def jk:Fn:=f8 6 3 px
def iS:Sf:=(bE (iV 2) (iV 3) (iV 4))
def jY:Sf:=(ah (aw (.nm 2) (cx (ud n8 (ap (bD (aa (iC (.int 0)) ac))) (iCB aZ (aa (iV 0) ac))))) (ah (gR (im (aa (ai bL (aa (iV 0) ac)) (aa (iV 1) ac))) (.tp [3,4]) iS) (aM (iCB dj (aa (iV 2) ac)))))
def dZ:Fn:=f8 5 2 jY
def fV:Ef:=(iOp bg (ai dw (aa (iV 1) (aa (iV 0) ac))) (ai eV (aa (iV 2) (aa (iV 0) ac))))
def lG:Sf:=(aM (ai bI (aa (bz (aa (iCB dMi (aa (ap (iLc 1 [0,1] (ar (ai bL (aa (iV 0) ac))) (.nm 0) az fV)) ac)) (aa (ai d9 (aa (iV 1) ac)) ac))) ac)))
def cR:Fn:=bj 2 2 lG
def wj:Sf:=(ah (aw (.nm 7) (ai bI (aa (ai dZ (aa (iV 0) (aa (iSl (iOp dIx (iV 5) (iC (.int 3))) iPn (iPs (iUn fU (iC (.int 1))))) ac))) ac))) (ah (bA (aN dEq (iOp dIx (iV 6) (iC (.int 0))) (iC (.int 0))) (aM (bz (aa (iV 6) (aa (iC .non) (aa (iV 7) ac))))) bn) (aM (bz (aa (iV 6) (aa (ai jk (aa (iV 1) (aa (iV 2) (aa (iOp dIx (iV 5) (iC (.int 2))) ac)))) (aa (iV 7) ac)))))))
def jL:Ef:=(iCB dj (aa (iV 0) ac))
def vz:Ef:=(iUn fU (iV 0))
def jM:Ef:=(iOp bm (ai iW (aa (ap (iLc 1 [] (ar (iV 0)) (.nm 0) az vz)) ac)) (ap (bD (aa (iC (.int 1)) ac))))
def zN:Sf:=(ah (aw (.nm 3) (ai dO (aa (iV 0) (aa (iV 1) (aa (iV 2) ac))))) (ah (aw (.nm 4) (iOp bm (ap (iLc 1 [] (ar (iV 3)) (.nm 0) az jM)) (ap (bD (aa (iOp bm (iOp bg (ap (bD (aa (iC (.int 1)) ac))) (iOp bg (iC (.int 2)) (iCB aZ (aa (iV 2) ac)))) (ap (bD (aa (iC (.int 0)) ac)))) ac))))) (ah (aw (.nm 5) (ai jj (aa (iCB dj (aa (ap (iLc 1 [] (ar (iV 4)) (.nm 0) az jL)) ac)) (aa (iOp bm (iOp bg (bz (aa (iC (.int 0)) ac)) (iCB aZ (aa (iV 3) ac))) (bz (aa (iC (.int 1)) ac))) (aa (iOp bm (iOp bg (bz (aa (iC (.int 0)) ac)) (iOp bg (iC (.int 2)) (iCB aZ (aa (iV 2) ac)))) (bz (aa (iC (.int 1)) ac))) ac))))) (ah (aw (.nm 6) (ai bI (aa (bz (aa (iOp dIx (iOp dIx (iV 5) (iC (.int 2))) (iUn fU (iC (.int 1)))) (aa (iOp dIx (iV 5) (iC (.int 1))) ac))) ac))) wj))))
def dJ:Fn:=bj 8 3 zN
def j6:Ef:=(jO (aN iF (iV 0) (iC .non)) (iC .non) (iOp nr (iC (.int 1)) (iV 0)))
def vk:Sf:=(aM (iCB dj (aa (ap (iLc 1 [] (ar (iV 0)) (.nm 0) az j6)) ac)))
def jQ:Fn:=bj 1 1 vk
def jJ:Ef:=(iOp dIx (iV 1) (iOp Gm (iV 0) (iV 2)))
def jK:Ef:=(ai ci (aa (iV 0) ac))
def zM:Sf:=(ah (aw (.nm 2) (iCB jt (aa (ap (iLc 1 [] (ar (iV 1)) (.nm 0) az jK)) ac))) (aM (iCB dj (aa (ap (iLc 1 [0,2] (bi (aa (iCB aZ (aa (iV 0) ac)) ac)) (.nm 0) az jJ)) ac))))
def kD:Fn:=bj 3 2 zM
def cD:Ef:=(iOp bg (ai mR (aa (iV 2) (aa (iV 0) ac))) (ai ci (aa (iV 1) ac)))
def pd:Sf:=(aM (iCB jt (aa (ap (iLc 2 [0] (cY (aa (iV 1) ac)) (.tp [0,1]) az cD)) ac)))
def fZ:Fn:=bj 2 2 pd
def iL:Ef:=(iOp dIx (iV 1) (ai fZ (aa (iV 0) (aa (iV 2) ac))))
def pz:Sf:=(aM (iCB dj (aa (ap (iLc 1 [0,1] (bi (aa (iCB aZ (aa (iV 0) ac)) ac)) (.nm 0) az iL)) ac)))
def jl:Fn:=bj 2 2 pz
def tB:Sf:=(ah (aw (.nm 2) (iC (.int 0))) (ah (bA (aN dLt (iV 1) (iCB aZ (aa (iV 0) ac))) (aw (.nm 2) (iOp dIx (iV 0) (iV 1))) bn) (aM (cx (bD (aa (iOp dIx (ap (bD (aa (iC (.int 0)) (aa (iV 2) ac)))) (iCB iE (aa (iOp dGe (iV 2) (iOp zX (iC (.int 10)) (iC (.int 18)))) ac))) (aa (iOp bm (iOp bm (iOp iG (iV 2) (iC (.int 2305843009213693951))) (iOp bg (iC (.int 7919)) (iV 1))) (iC (.int 3))) (aa (iC (.int 0)) ac))))))))
def iU:Fn:=bj 3 2 tB
def pk:Sf:=(ah (aw (.nm 5) (iOp bm (iOp bm (iOp iG (iV 4) (iC (.int 1000003))) (iOp bg (iV 3) (iC (.int 99991)))) (iC (.int 11)))) (ah (aw (.nm 4) (iOp iG (iOp bg (iV 4) (iV 5)) (iC (.int 2305843009213693907)))) (aM (iOp iG (iOp bm (iOp pK (iV 4) (iC (.int 97))) (iOp pK (iV 4) (iC (.int 1000033)))) (iV 1)))))
def tF:Sf:=(ah (bA (aN dGt (iOp dIx (iV 0) (iC (.int 0))) (iC (.int 0))) (ah (aw (.nm 2) (iOp iG (iOp dIx (iV 0) (iC (.int 0))) (iV 1))) (ah (bE (iV 0) (iC (.int 0)) (iOp pK (iOp dIx (iV 0) (iC (.int 0))) (iV 1))) (aM (iV 2)))) bn) (ah (bE (iV 0) (iC (.int 2)) (iOp bm (iOp dIx (iV 0) (iC (.int 2))) (iC (.int 1)))) (ah (aw (.nm 3) (iOp dIx (iV 0) (iC (.int 2)))) (ah (aw (.nm 4) (iOp iG (iOp bg (iOp dIx (iV 0) (iC (.int 1))) (iOp bm (iOp bm (iC (.int 48271)) (iOp bg (iOp bg (iC (.int 2)) (iV 3)) (iV 3))) (iOp bg (iC (.int 65537)) (iV 3)))) (iC (.int 2305843009213693921)))) pk))))
def aG:Fn:=bj 6 2 tF
def tE:Sf:=(aM (iOp dIx (iV 1) (ai aG (aa (iV 0) (aa (iCB aZ (aa (iV 1) ac)) ac)))))
def cg:Fn:=bj 2 2 tE
def dR:Sf:=(ah (aw (.nm 5) (iOp iG (iOp Ca (iV 2) (iV 4)) (iC (.int 2)))) (aw (.nm 3) (iOp bg (iV 3) (iOp dIx (ap (bD (aa (iOp nr (iC (.int 1)) (iOp bg (iC (.int 2)) (iV 5))) (aa (iV 5) ac)))) (iCB iE (aa (iOp dEq (iV 0) (iC (.str "both"))) ac))))))
def jV:Sf:=(ah (aw (.nm 3) (iC (.int 1))) (ah (gR (ar (iV 1)) (.nm 4) dR) (aM (iV 3))))
def bZ:Fn:=bj 6 3 jV
def iI:Ef:=(iOp bg (iV 1) (ai bZ (aa (iOp dIx (iV 2) (iC (.int 0))) (aa (iV 0) (aa (iV 3) ac)))))
def qp:Sf:=(aM (iCB jt (aa (ap (iLc 2 [0,1] (ar (iOp dIx (iV 0) (iC (.int 1)))) (.tp [0,1]) az iI)) ac)))
def gY:Fn:=bj 2 2 qp
def eA:Ef:=(iOp bm (iV 0) (bz (aa (iV 1) ac)))
def eR:Sf:=(aw (.nm 1) (iOp bm (iV 1) (ap (iLc 1 [2] (ar (iV 1)) (.nm 0) az eA))))
def kU:Sf:=(ah (aw (.nm 1) (ap (bD (aa (bz ac) ac)))) (ah (gR (bi (aa (iV 0) ac)) (.nm 2) eR) (aM (ap (iCL oa (aa (iV 1) ac))))))
def bx:Fn:=bj 3 1 kU
def eB:Ef:=(iV 0)
def fg:Tf:=(aN dEq (iOp iG (iOp Ca (iV 1) (iV 0)) (iC (.int 2))) (iC (.int 1)))
def cK:Ef:=(iOp dIx (iV 1) (iCB aZ (aa (ap (iLc 1 [0] (bi (aa (iV 2) ac)) (.nm 0) fg eB)) ac)))
def eD:Ef:=(ai aG (aa (iV 1) (aa (iC (.int 2)) ac)))
def kW:Sf:=(ah (aw (.nm 2) (ap (iLc 1 [0] (bi (aa (iOp bm (iV 1) (iC (.int 1))) ac)) (.nm 0) az eD))) (aM (ap (iLc 1 [2,1] (bi (aa (iOp qG (iC (.int 1)) (iV 1)) ac)) (.nm 0) az cK))))
def cn:Fn:=bj 3 2 kW
def j5:Ef:=(iCB iE (aa (iOp dGt (iV 0) (iC (.int 0))) ac))
def cV:Ef:=(ai bZ (aa (iC (.str "odd")) (aa (iV 0) (aa (iV 1) ac))))
def fB:Ef:=(iCB jt (aa (ap (iLc 1 [0] (ar (iV 1)) (.nm 0) az cV)) ac))
def fC:Ef:=(ai cg (aa (iV 1) (aa (ai bx (aa (iV 2) ac)) ac)))
def l6:Sf:=(ah (aw (.nm 2) (ap (iLc 1 [0,1] (bi (aa (iC (.int 3)) ac)) (.nm 0) az fC))) (ah (aw (.nm 3) (ap (iLc 1 [2] (bi (aa (iOp qG (iC (.int 1)) (iV 1)) ac)) (.nm 0) az fB))) (aM (ap (iLc 1 [] (ar (iV 3)) (.nm 0) az j5)))))
def cE:Fn:=bj 4 2 l6
def eI:Ef:=(iOp dIx (ap (bD (aa (iV 0) (aa (iC .non) ac)))) (iCB iE (aa (iOp dEq (ai aG (aa (iV 1) (aa (iC (.int 3)) ac))) (iC (.int 0))) ac)))
def cW:Ef:=(ai aG (aa (iV 1) (aa (iC (.int 2)) ac)))
def gJ:Sf:=(ah (aw (.nm 2) (ai aG (aa (iV 0) (aa (iC (.int 4)) ac)))) (ah (bA (aN dEq (iV 2) (iC (.int 0))) (aw (.nm 3) (ai cn (aa (iV 0) (aa (iV 1) ac)))) (bA (aN dEq (iV 2) (iC (.int 1))) (aw (.nm 3) (ai cE (aa (iV 0) (aa (iV 1) ac)))) (aw (.nm 3) (ap (iLc 1 [0] (bi (aa (iOp qG (iC (.int 1)) (iV 1)) ac)) (.nm 0) az cW))))) (ah (bA (aN dEq (ai aG (aa (iV 0) (aa (iC (.int 4)) ac))) (iC (.int 0))) (aw (.nm 3) (ap (iLc 1 [0] (ar (iV 3)) (.nm 0) az eI))) bn) (aM (iCB dj (aa (iV 3) ac))))))
def de:Fn:=bj 4 2 gJ
def cL:Ef:=(iOp iF (iV 0) (iC .non))
def kX:Sf:=(ah (aw (.nm 2) (iOp dIx (ap (bD (aa (ai aG (aa (iV 0) (aa (iOp bm (iV 1) (iC (.int 1))) ac))) (aa (iOp bm (iV 1) (iC (.int 1))) ac)))) (iCB iE (aa (iOp dEq (ai aG (aa (iV 0) (aa (iC (.int 8)) ac))) (iC (.int 0))) ac)))) (ah (aw (.nm 3) (ai de (aa (iV 0) (aa (iV 2) ac)))) (ah (bA (dI d8 (iCB vw (aa (ap (iLc 1 [] (ar (iV 3)) (.nm 0) az cL)) ac))) (ah (aw (.nm 4) (ai aG (aa (iV 0) (aa (iCB aZ (aa (iV 3) ac)) ac)))) (aw (.nm 3) (iOp bm (iOp bm (iSl (iV 3) iPn (iPs (iV 4))) (bz (aa (ai aG (aa (iV 0) (aa (iC (.int 2)) ac))) ac))) (iSl (iV 3) (iPs (iOp bm (iV 4) (iC (.int 1)))) iPn)))) bn) (aM (bz (aa (iV 2) (aa (iV 3) ac)))))))
def du:Fn:=bj 5 2 kX
def bX:Ef:=(bz (aa (iV 0) (aa (iV 1) ac)))
def cb:Tf:=(aN dNe (iV 1) (iC (.int 0)))
def bY:Ef:=(iOp nr (ai aG (aa (iV 1) (aa (iC (.int 7)) ac))) (iC (.int 3)))
def ik:Sf:=(ah (aw (.nm 3) (cx (iLc 1 [0] (ar (iV 2)) (.nm 0) az bY))) (ah (aw (.nm 4) (ai aG (aa (iV 0) (aa (iCB aZ (aa (iV 2) ac)) ac)))) (ah (bE (iV 3) (iV 4) (y4 (iOp dIx (iV 3) (iV 4)) (iC (.int 1)))) (aM (bz (aa (iV 1) (aa (iCB dj (aa (ap (yY 2 [] (aa (iV 2) (aa (iV 3) ac)) (.tp [0,1]) cb bX)) ac)) ac)))))))
def cF:Fn:=f8 5 3 ik
def l7:Sf:=(aM (iOp dLe (iOp bg (iOp dIx (iV 0) (iC (.int 0))) (iOp dIx (iV 1) (iC (.int 1)))) (iOp bg (iOp dIx (iV 1) (iC (.int 0))) (iOp dIx (iV 0) (iC (.int 1))))))
def dN:Fn:=bj 2 2 l7
def ck:Ef:=(ai cF (aa (iV 1) (aa (iV 2) (aa (iV 3) ac))))
def gq:Sf:=(ah (bA (lN (dI d8 (ai dN (aa (ai cR (aa (iV 1) (aa (iV 8) ac))) (aa (iV 5) ac))))) (aM (iC (.bl false))) bn) (bA (jC (dI d8 (ai fL (aa (iV 8) (aa (iV 1) ac)))) (aN dLt (iOp bg (iOp dIx (iV 5) (iC (.int 0))) (ai d9 (aa (iV 8) ac))) (iOp dIx (iV 5) (iC (.int 1))))) (aM (iC (.bl false))) bn))
def iy:Sf:=(ah (aw (.tp [5,6,7]) (ai dJ (aa (iV 1) (aa (iV 2) (aa (iV 3) ac))))) (ah (bA (li (aN iF (iV 6) (iC .non)) (aN dNe (ai cR (aa (iV 1) (aa (iV 6) ac))) (iV 5))) (aM (iC (.bl false))) bn) (ah (gR (ar (iOp bm (ap (bD (aa (iV 4) (aa (iV 6) ac)))) (ap (iLc 1 [0,2,3] (bi (aa (iC (.int 8)) ac)) (.nm 0) az ck)))) (.nm 8) gq) (aM (uc (ai fL (aa (iV 4) (aa (iV 1) ac))) (ai fL (aa (iV 6) (aa (iV 1) ac))))))))
def dc:Fn:=bj 9 5 iy
def bQ:Ef:=(iOp dEq (iOp dIx (ai dJ (aa (iV 0) (aa (iC (.str "odd")) (aa (iV 1) ac)))) (iC (.int 0))) (iV 2))
def eE:Ef:=(iN vV (iV 1) (aa (ai aG (aa (iV 2) (aa (iCB aZ (aa (iV 1) ac)) ac))) ac))
def oH:Sf:=(ah (aw (.nm 7) (iCB dj (aa (ap (iLc 1 [6,0] (bi (aa (iV 1) ac)) (.nm 0) az eE)) ac))) (ah (aw (.nm 8) (iOp dIx (ai dJ (aa (iV 2) (aa (iC (.str "odd")) (aa (iV 4) ac)))) (iC (.int 0)))) (ah (aw (.nm 9) (ap (bD (aa (ai jQ (aa (iV 2) ac)) (aa (ai kD (aa (iV 2) (aa (iV 5) ac))) (aa (ai jl (aa (iV 2) (aa (iV 7) ac))) ac)))))) (aM (iCB vw (aa (ap (iLc 1 [4,8] (ar (iV 9)) (.nm 0) az bQ)) ac))))))
def eF:Ef:=(iV 0)
def fj:Tf:=(aN dEq (ai aG (aa (iV 1) (aa (iC (.int 2)) ac))) (iC (.int 0)))
def eG:Ef:=(iV 0)
def fk:Tf:=(aN dLe (iCB aZ (aa (iV 0) ac)) (iV 1))
def jU:Sf:=(ah (aw (.nm 3) (ai aG (aa (iV 0) (aa (iOp bm (iV 1) (iC (.int 1))) ac)))) (ah (aw (.nm 4) (iCB dj (aa (ap (iLc 1 [3] (ar (ai bx (aa (iV 1) ac))) (.nm 0) fk eG)) ac))) (ah (aw (.nm 5) (iCB dj (aa (ap (iLc 1 [0] (bi (aa (iV 1) ac)) (.nm 0) fj eF)) ac))) (ah (aw (.nm 6) (cx (pi (aa (iV 1) ac)))) oH))))
def gX:Fn:=f8 10 3 jU
def Dh:Sf:=(ah (aw (.tp [9,10]) (ai du (aa (iV 2) (aa (iC (.int 2)) ac)))) (bA (lN (dI d8 (ai gX (aa (iV 2) (aa (iV 9) (aa (iV 10) ac)))))) (aM (iC (.bl false))) bn))
def mo:Ef:=(iOp tW (iV 0) (iC .non))
def qI:Ef:=(iOp dIx (ap (bD (aa (iCB iE (aa (iOp dGt (iV 0) (iC (.int 0))) ac)) (aa (iC .non) ac)))) (iCB iE (aa (iOp dEq (iV 0) (iC (.int 0))) ac)))
def wW:Ef:=(ai gY (aa (iV 1) (aa (iV 0) ac)))
def Di:Sf:=(ah (aw (.nm 6) (ai cF (aa (iV 2) (aa (iV 5) (aa (iV 4) ac))))) (ah (aw (.nm 7) (ap (iLc 1 [6] (bi (aa (iOp qG (iC (.int 1)) (iV 3)) ac)) (.nm 0) az wW))) (ah (aw (.nm 8) (iCB dj (aa (ap (iLc 1 [] (ar (iV 7)) (.nm 0) az qI)) ac))) (ah (bA (jC (dI d8 (iCB tU (aa (ap (iLc 1 [] (ar (iV 8)) (.nm 0) az mo)) ac))) (lN (dI d8 (ai dc (aa (iV 2) (aa (iV 8) (aa (iV 5) (aa (iV 4) (aa (iV 6) ac))))))))) (aM (iC (.bl false))) bn) Dh))))
def mq:Ef:=(iV 0)
def kQ:Tf:=(li (aN dEq (ai aG (aa (iV 1) (aa (iC (.int 2)) ac))) (iC (.int 0))) (aN dEq (iV 0) (bz ac)))
def xD:Sf:=(ah (aw (.nm 2) (ai iU (aa (iV 0) (aa (iV 1) ac)))) (ah (aw (.nm 3) (iOp dIx (ap (bD (aa (ai aG (aa (iV 2) (aa (iC (.int 4)) ac))) (aa (iC (.int 4)) ac)))) (iCB iE (aa (iOp dEq (ai aG (aa (iV 2) (aa (iC (.int 8)) ac))) (iC (.int 0))) ac)))) (ah (aw (.nm 4) (iCB dj (aa (ap (iLc 1 [2] (ar (ai bx (aa (iV 3) ac))) (.nm 0) kQ mq)) ac))) (ah (aw (.nm 5) (ai cg (aa (iV 2) (aa (ap (bD (aa (iC (.str "both")) (aa (iC (.str "odd")) ac)))) ac)))) Di))))
def Gf:Sf:=(ah (gR (bi (aa (iCB dMx (aa (iC (.int 1)) (aa (iCB Ey (aa (iC (.int 3)) (aa (iCB aZ (aa (iV 0) ac)) ac))) ac))) ac)) (.nm 1) xD) (aM (iC (.bl true))))
def uz:Fn:=f8 11 1 Gf
end
end Own
section
set_option maxHeartbeats 0
namespace Own
open PySem L2
def top (i:Nat):Stmt:=PySem.Challenge.pw_signpoly_k92_whole_widest_margins.main.body.getD i (.Pass ⟨0,0,0,0⟩)
def B9 (s:Stmt):List Stmt:=match s with
 |.ClassDef _ _ _ b _ _ _ _ _ _ _=>b
 |_=>[]
abbrev cu:Stmt:=(B9 (top 9)).getD 0 (.Pass ⟨0,0,0,0⟩)
theorem pq:cC ["self","rows","bounds","gains"] ["self","rows","bounds","gains"] (aq cu):=⟨U,U,U,by decide +kernel,U,by decide +kernel,by decide +kernel⟩
abbrev rT (x:Str) (i:Nat) (N:List Str) (k:Nat):Str×Nat×List Str×Nat:=(x,i,N,k)
def tbl:List (Str×Nat×List Str×Nat):=[rT "power_of_two" 1 ["k","power","step"] 1,rT "on_in" 2 ["row","k"] 2,rT "greatest_part" 3 ["numbers","found","number","rest","over"] 1,rT "lowered" 4 ["numbers","shared"] 1,rT "told_rows" 6 ["f"] 1,rT "sign_at" 7 ["f","row"] 2,rT "least_ratio" 10 ["places","tops","bottoms","least","place","mine","best"] 3,rT "weighed" 11 ["table"] 1,rT "numbers_by" 12 ["table","name","column"] 2,rT "leaving" 13 ["table","column","entries","places","name"] 2,rT "gains_more" 14 ["table","one","other","mine","best","name","numbers","more"] 3,rT "best_step" 15 ["table","best","column","step"] 1,rT "swept" 16 ["line","turning","column","part","pivot","entry","told"] 4,rT "exchange" 17 ["table","place","column","turning","part","lines","name"] 3,rT "way_of" 18 ["table","column","way","place","name"] 2,rT "amounts_of" 19 ["table","amounts","place","name"] 1,rT "prices_of" 20 ["table","prices","column","name"] 1,rT "found_most" 21 ["table","amounts","prices","shared"] 1,rT "most_of" 22 ["rows","bounds","gains","table","step"] 3,rT "value_of" 24 ["kind","term","row","many"] 3,rT "poly_from" 26 ["kind","numbers"] 2,rT "value_at" 27 ["poly","row"] 2,rT "size_of" 28 ["poly"] 1,rT "tells" 30 ["poly","f"] 2,rT "signed_value" 31 ["f","kind","term","row"] 4,rT "signed_values" 32 ["f","kind","terms"] 3,rT "parted" 34 ["poly","number"] 2,rT "shrunk" 35 ["poly"] 1,rT "both_ways" 37 ["numbers"] 1,rT "poly_by" 38 ["kind","terms","amounts","numbers","place","term"] 3,rT "weights_by" 39 ["f","numbers","weights","row","number"] 2,rT "margin_of" 41 ["f","poly"] 2,rT "widest" 42 ["f","kind","terms","values","rows","most","value","weights"] 3,rT "opposite" 44 ["f"] 1,rT "turned" 45 ["f","some","flips"] 2,rT "renamed_row" 46 ["row","order"] 2,rT "renamed" 47 ["f","order"] 2,rT "_law_hand" 49 ["_law_script","_law_k","_law_cell"] 2,rT "_law_take" 50 ["_law_hand_here","_law_many","_law_digit","_law_turn","_law_mixed","_law_other"] 2,rT "_law_pick" 51 ["_law_hand_here","_law_some"] 2,rT "_law_term_value" 52 ["_law_kind","_law_term","_law_row","_law_value_here","_law_k","_law_on"] 3,rT "_law_value" 53 ["_law_poly","_law_row"] 2,rT "_law_all_terms" 54 ["_law_n","_law_found","_law_k"] 1,rT "_law_by_counts" 55 ["_law_hand_here","_law_n","_law_row"] 2,rT "_law_by_signs" 56 ["_law_hand_here","_law_n","_law_some","_law_sums"] 2,rT "_law_table" 57 ["_law_hand_here","_law_n","_law_way","_law_table_here"] 2,rT "_law_told_some" 58 ["_law_hand_here","_law_most","_law_n","_law_f","_law_spot"] 2,rT "_law_of_terms" 59 ["_law_hand_here","_law_kind","_law_terms","_law_numbers","_law_spot"] 3,rT "_law_no_wider" 60 ["_law_one","_law_other"] 2,rT "_law_held_by" 61 ["_law_hand_here","_law_f","_law_kind","_law_terms","_law_poly","_law_value_here","_law_found","_law_weights","_law_one"] 5,rT "_law_stays" 62 ["_law_hand_here","_law_n","_law_f","_law_size","_law_terms","_law_some","_law_left","_law_order","_law_value_here","_law_others"] 3,rT "law" 63 ["_law_script","_law_k","_law_hand_here","_law_n","_law_terms","_law_kind","_law_poly","_law_values","_law_f","_law_many","_law_other"] 1]
def tR (i:Nat):Str×Nat×List Str×Nat:=tbl.getD i ("",0,[],0)
def tN (i:Nat):Str:=(tR i).1
def tS (i:Nat):Stmt:=top (tR i).2.1
def tV (i:Nat):List Str:=(tR i).2.2.1
def tK (i:Nat):Nat:=(tR i).2.2.2
theorem scs:∀ p∈tbl,cC p.2.2.1 (p.2.2.1.take p.2.2.2) (aq (top p.2.1)):=by
 iterate 52 refine qdg.2 ⟨⟨U,U,U,by decide +kernel,U,by decide +kernel,by decide +kernel⟩,?_⟩
 exact λ_ h=>nomatch h
structure Txt (K:qae) (mg:Str->Option Value):Prop where
 F:∀ p∈tbl,∃ f g,Fun K p.1 p.1 (top p.2.1) f g/\mg p.1=some (.ref f)/\dD K g (p.2.2.1.take p.2.2.2) []
 z:∀ x∈(["abs","all","any","enumerate","int","len","list","max","min","range","sorted","sum","tuple","zip"]:List Str),mg x=none
 c:∃ a f g,mg "Table" = some (.ref a)/\Fun K "__init__" "Table.__init__" cu f g/\dD K g ["self","rows","bounds","gains"] []/\Mk K a f/\Cls K a/\∀ p∈cm,cI K a p.1
section
variable {P:qaR}{w:World}{K:qae}{mg:Str->Option Value}{base:Heap}
theorem Dz {i:Nat} (h:i<52):tR i∈tbl:=by
 unfold tR;rw[qao,qai (show i<tbl.length from h)];exact qa2 _
abbrev Bd (P:qaR) (w:World) (K:qae) (mg:Str->Option Value) (base:Heap) (k i:Nat) (b:Sf):Prop:=∀ (f:Addr) (d:Value) (A:qaZ) (outer:List Env) (s:qam) (H:Hp) (E:XK),bH k (A.deeper (qjD (tN i) (aq (tS i)) s.heap.objs.size f d))->(gh CX0 P w K mg base (tV i) (tN i) (aq (tS i)) f d A outer s H E).nox.N=tV i->(gh CX0 P w K mg base (tV i) (tN i) (aq (tS i)) f d A outer s H E).nox.env.scope.names=(aq (tS i)).names->(tV i).Nodup->ISs K (gh CX0 P w K mg base (tV i) (tN i) (aq (tS i)) f d A outer s H E).nox (bf (tS i)) b
abbrev Ck (P:qaR) (w:World) (K:qae) (mg:Str->Option Value) (base:Heap) (i j:Nat) (m:Fn):Prop:=Cal P w K mg base (tN i) j m
theorem B7 {i k:Nat}{b:Sf} (T:Txt K mg) (hi:i<52) (hb:Bd P w K mg base k i b):Ck P w K mg base i (k+1) (bj (tV i).length ((tV i).take (tK i)).length b):=by
 obtain⟨f,g,F,m,B⟩:=T.F (tR i) (Dz hi);exact Gj F (scs _ (Dz hi)) m B (hb f)
theorem B8 {i k:Nat}{b:Sf} (T:Txt K mg) (hi:i<52) (hb:Bd P w K mg base k i b):Ck P w K mg base i (k+1) (f8 (tV i).length ((tV i).take (tK i)).length b):=by
 obtain⟨f,g,F,m,B⟩:=T.F (tR i) (Dz hi);exact Gk F (scs _ (Dz hi)) m B (hb f)
theorem mU {f:Addr}{g:qcd} (T:Txt K mg) (F:Fun K "__init__" "Table.__init__" cu f g):dU P w K mg base CX0 1 f g ["self","rows","bounds","gains"] (Du K ["self","rows","bounds","gains"].length ["self","rows","bounds","gains"].length cm):=
 Gp (N:=["self","rows","bounds","gains"]) (ps:=["self","rows","bounds","gains"]) (k:=0) (g:=cm) F pq (by decide) (λ_ _ _ _ _ _ hr=>(iO U (by first|exact Or.inl U|exact Or.inr (Or.inl U)|exact Or.inr (Or.inr U)) (pP (gN U) U (T.z _ (by decide)) qb1 (bG (iv 3) cy U) (by decide) (by decide) U U) (iO U (by first|exact Or.inl U|exact Or.inr (Or.inl U)|exact Or.inr (Or.inr U)) (dY (Aj (pU (aq cu).names ["self","rows","bounds","gains"] ["row","bound"] 2 [] U U U (by decide +kernel)) U (by decide) (nU U (T.z _ (by decide)) (bG (iv 1) (bG (iv 2) cy U) U) U U U) (λ_ _ _ _ _=>(nP (gk (ie (i:=0) (show qeZ (α:=Str) ["row","bound"] by decide +kernel) U (by first|exact Or.inl U|exact Or.inr U)) (gk (ie (i:=1) (show qeZ (α:=Str) ["row","bound"] by decide +kernel) U (by first|exact Or.inl U|exact Or.inr U)) ke)) U U U U U)) (λ_ _ _ _ _=>jh) (λ_ _ _ _ _=>(nO (jR U) (dY (DT (jc U) U (T.z _ (by decide)) qba (bG (iv 0) cy U) (by decide) (by decide) U U)) (dY (lp (bG (iv 1) cy U))))) (λ_=>rfl))) (iO U (by first|exact Or.inl U|exact Or.inr (Or.inl U)|exact Or.inr (Or.inr U)) (nO (jR U) (dY (Aj (pU (aq cu).names ["self","rows","bounds","gains"] ["gain"] 1 [] U U U (by decide +kernel)) U (by decide) (nQ (iv 3) U) (λ_ _ _ _ _=>(kc (ie (i:=0) (show qeZ (α:=Str) ["gain"] by decide +kernel) U (by first|exact Or.inl U|exact Or.inr U)))) (λ_ _ _ _ _=>jh) (λ_ _ _ _ _=>(nM (iv 0))) (λ_=>rfl))) (dY (lp (bG lm cy U)))) (iO U (by first|exact Or.inl U|exact Or.inr (Or.inl U)|exact Or.inr (Or.inr U)) lm (iO U (by first|exact Or.inl U|exact Or.inr (Or.inl U)|exact Or.inr (Or.inr U)) (lq (nV U (T.z _ (by decide)) U (T.z _ (by decide)) (bG (pP (gN U) U (T.z _ (by decide)) qb1 (bG (iv 3) cy U) (by decide) (by decide) U U) cy U) U U)) (Cr U (by first|exact Or.inl U|exact Or.inr (Or.inl U)|exact Or.inr (Or.inr U)) (lq (nW U (T.z _ (by decide)) U (T.z _ (by decide)) (bG (pP (gN U) U (T.z _ (by decide)) qb1 (bG (iv 3) cy U) (by decide) (by decide) U U) (bG (nO (jR U) (pP (gN U) U (T.z _ (by decide)) qb1 (bG (iv 3) cy U) (by decide) (by decide) U U) (pP (gN U) U (T.z _ (by decide)) qb1 (bG (iv 1) cy U) (by decide) (by decide) U U)) cy U) U) U U U)) U U) (by intro z;cases z) U U) (by intro z;cases z) U U) (by intro z;cases z) U U) (by intro z;cases z) U U) (by intro z;cases z) U U))
theorem scL:cC ["_law_script","_law_k","_law_hand_here","_law_n","_law_terms","_law_kind","_law_poly","_law_values","_law_f","_law_many","_law_other"] ["_law_script"] (aq (top 63)):=scs (rT "law" 63 ["_law_script","_law_k","_law_hand_here","_law_n","_law_terms","_law_kind","_law_poly","_law_values","_law_f","_law_many","_law_other"] 1) (by decide +kernel)
theorem E7 (T:Txt K mg):Ck P w K mg base 0 1 ci/\Ck P w K mg base 1 2 mR/\Ck P w K mg base 2 1 bB/\Ck P w K mg base 3 2 bI/\Ck P w K mg base 4 1 bL/\Ck P w K mg base 5 1 dw/\Ck P w K mg base 6 1 fY/\Ck P w K mg base 7 1 ef/\Ck P w K mg base 8 1 df/\Ck P w K mg base 9 2 ji/\Ck P w K mg base 10 2 cp/\Ck P w K mg base 11 3 bR/\Ck P w K mg base 12 1 kC:=by
 obtain⟨a,G,y,c1,c2,c3,J,t,M⟩:=T.c;have S:=mU (P:=P) (w:=w) (base:=base) T c2
 repeat' first
  |assumption
  |exact rfl
  |decide
  |exact Or.inl rfl
  |exact Or.inr rfl
  |exact Or.inr (Or.inl rfl)
  |exact Or.inr (Or.inr rfl)
  |apply mJ
  |apply mK
  |apply jg
  |apply kt
  |apply nV
  |apply nW
  |apply cy
  |apply bG
  |apply lm
  |apply iv
  |apply nO
  |apply rh
  |(apply qhy;apply iP;(case hsw=>exact U);(case hns=>assumption);(case hN=>assumption);(case h=>decide +kernel))
  |(apply qgX;apply iP;(case hsw=>exact U);(case hns=>assumption);(case hN=>assumption);(case h=>decide +kernel))
  |apply rj
  |apply xn
  |apply xm
  |apply mw
  |apply rn
  |apply xw
  |apply qY
  |(apply qZ;(case hns=>assumption);(case hN=>assumption);(case h=>decide +kernel))
  |apply mz
  |apply my
  |apply nU
  |apply nQ
  |apply qT
  |apply xi
  |apply qX
  |apply jh
  |apply mL
  |apply rg
  |apply ko
  |apply xx
  |apply mN
  |apply rA
  |apply ku
  |apply mM
  |apply rq
  |apply nM
  |apply xk
  |apply qQ
  |apply lp
  |apply xq
  |apply mH
  |apply kq
  |apply mF
  |apply mE
  |apply kj
  |apply mD
  |apply mC
  |(apply mI;(case hns=>assumption);(case hN=>assumption);(case h=>decide +kernel))
  |apply j9 (N:=["self","rows","bounds","gains"]) (ps:=["self","rows","bounds","gains"])
  |refine j8 rfl (by assumption) (by assumption) ?_ ?_ ?_ ?_ ?_ ?_
  |refine jf rfl (by assumption) (by assumption) ?_ ?_ ?_ ?_ ?_ ?_
  |refine xj (by with_reducible first|exact qbZ|exact qbY|exact qbX|exact qbW|exact qba|exact qbV|exact qbU|exact qbo|exact qbT|exact qbH|exact qb1) ?_ ?_ ?_ ?_ ?_ ?_ ?_ ?_ ?_
  |refine xo (by with_reducible first|exact qbZ|exact qbY|exact qbX|exact qbW|exact qba|exact qbV|exact qbU|exact qbo|exact qbT|exact qbH|exact qb1) ?_ ?_ ?_ ?_ ?_ ?_ ?_ ?_ ?_
  |(apply mB;(case hns=>assumption);(case hN=>assumption);(case h=>decide +kernel))
  |apply qP
  |apply je
  |apply qR
  |apply qS
  |apply mx
  |apply qU
  |apply qV
  |apply qW
  |apply kg
  |apply re
  |apply mG
  |apply dY
  |apply lq
  |apply rz
  |exact T.z _ (by decide)
  |exact qep
  |exact nomark _
  |exact λ_=>rfl
  |with_reducible first|apply jR|apply xR|apply mS|apply rJ|apply xS|apply xT|apply xU|apply rK|apply xV|apply xW|apply rM|apply rO|apply xX|apply mT|apply rP|apply rQ|apply rR|apply rS|apply rV|apply rW|apply qz|apply qA|apply fz|apply qB|apply gN|apply wQ|apply qC|apply wR|apply qD|apply qE|apply jc|apply jZ|apply fz
  |apply ie
  |apply ke
  |apply gk
  |apply kc
  |apply nP
  |apply ad
  |(apply B7 T;(case hi=>decide);unfold Bd;(conv in (occs:=*) tV _=>whnf);(conv in (occs:=*) aq _=>whnf);(conv in bf _=>whnf);intros)
  |(apply B8 T;(case hi=>decide);unfold Bd;(conv in (occs:=*) tV _=>whnf);(conv in (occs:=*) aq _=>whnf);(conv in bf _=>whnf);intros)
  |(refine xf (by assumption) scL ?_;(conv in bf _=>whnf);intros)
  |intro
theorem GW (T:Txt K mg):Ck P w K mg base 13 2 eU/\Ck P w K mg base 14 3 kE/\Ck P w K mg base 15 1 gZ/\Ck P w K mg base 16 1 iY/\Ck P w K mg base 17 2 g9/\Ck P w K mg base 18 4 jj/\Ck P w K mg base 19 3 hJ/\Ck P w K mg base 20 1 iX/\Ck P w K mg base 21 4 eV/\Ck P w K mg base 22 1 d9/\Ck P w K mg base 23 5 fL/\Ck P w K mg base 24 4 dg/\Ck P w K mg base 25 5 dO:=by
 obtain⟨Y,W,h2,h3,h4,X,h6,h7,h8,h9,e,l,n⟩:=E7 (P:=P) (w:=w) (base:=base) T;obtain⟨a,G,y,c1,c2,c3,J,t,M⟩:=T.c;have S:=mU (P:=P) (w:=w) (base:=base) T c2
 repeat' first
  |assumption
  |exact rfl
  |decide
  |exact Or.inl rfl
  |exact Or.inr rfl
  |exact Or.inr (Or.inl rfl)
  |exact Or.inr (Or.inr rfl)
  |apply mJ
  |apply mK
  |apply jg
  |apply kt
  |apply nV
  |apply nW
  |apply cy
  |apply bG
  |apply lm
  |apply iv
  |apply nO
  |apply rh
  |(apply qhy;apply iP;(case hsw=>exact U);(case hns=>assumption);(case hN=>assumption);(case h=>decide +kernel))
  |(apply qgX;apply iP;(case hsw=>exact U);(case hns=>assumption);(case hN=>assumption);(case h=>decide +kernel))
  |apply rj
  |apply xn
  |apply xm
  |apply mw
  |apply rn
  |apply xw
  |apply qY
  |(apply qZ;(case hns=>assumption);(case hN=>assumption);(case h=>decide +kernel))
  |apply mz
  |apply my
  |apply nU
  |apply nQ
  |apply qT
  |apply xi
  |apply qX
  |apply jh
  |apply mL
  |apply rg
  |apply ko
  |apply xx
  |apply mN
  |apply rA
  |apply ku
  |apply mM
  |apply rq
  |apply nM
  |apply xk
  |apply qQ
  |apply lp
  |apply xq
  |apply mH
  |apply kq
  |apply mF
  |apply mE
  |apply kj
  |apply mD
  |apply mC
  |(apply mI;(case hns=>assumption);(case hN=>assumption);(case h=>decide +kernel))
  |apply j9 (N:=["self","rows","bounds","gains"]) (ps:=["self","rows","bounds","gains"])
  |refine j8 rfl (by assumption) (by assumption) ?_ ?_ ?_ ?_ ?_ ?_
  |refine jf rfl (by assumption) (by assumption) ?_ ?_ ?_ ?_ ?_ ?_
  |refine xj (by with_reducible first|exact qbZ|exact qbY|exact qbX|exact qbW|exact qba|exact qbV|exact qbU|exact qbo|exact qbT|exact qbH|exact qb1) ?_ ?_ ?_ ?_ ?_ ?_ ?_ ?_ ?_
  |refine xo (by with_reducible first|exact qbZ|exact qbY|exact qbX|exact qbW|exact qba|exact qbV|exact qbU|exact qbo|exact qbT|exact qbH|exact qb1) ?_ ?_ ?_ ?_ ?_ ?_ ?_ ?_ ?_
  |(apply mB;(case hns=>assumption);(case hN=>assumption);(case h=>decide +kernel))
  |apply qP
  |apply je
  |apply qR
  |apply qS
  |apply mx
  |apply qU
  |apply qV
  |apply qW
  |apply kg
  |apply re
  |apply mG
  |apply dY
  |apply lq
  |apply rz
  |exact T.z _ (by decide)
  |exact qep
  |exact nomark _
  |exact λ_=>rfl
  |with_reducible first|apply jR|apply xR|apply mS|apply rJ|apply xS|apply xT|apply xU|apply rK|apply xV|apply xW|apply rM|apply rO|apply xX|apply mT|apply rP|apply rQ|apply rR|apply rS|apply rV|apply rW|apply qz|apply qA|apply fz|apply qB|apply gN|apply wQ|apply qC|apply wR|apply qD|apply qE|apply jc|apply jZ|apply fz
  |apply ie
  |apply ke
  |apply gk
  |apply kc
  |apply nP
  |apply ad
  |(apply B7 T;(case hi=>decide);unfold Bd;(conv in (occs:=*) tV _=>whnf);(conv in (occs:=*) aq _=>whnf);(conv in bf _=>whnf);intros)
  |(apply B8 T;(case hi=>decide);unfold Bd;(conv in (occs:=*) tV _=>whnf);(conv in (occs:=*) aq _=>whnf);(conv in bf _=>whnf);intros)
  |(refine xf (by assumption) scL ?_;(conv in bf _=>whnf);intros)
  |intro
theorem Ia (T:Txt K mg):Ck P w K mg base 26 1 oo/\Ck P w K mg base 27 2 oq/\Ck P w K mg base 28 1 iW/\Ck P w K mg base 29 3 jk/\Ck P w K mg base 30 2 dZ/\Ck P w K mg base 31 5 cR/\Ck P w K mg base 32 6 dJ/\Ck P w K mg base 33 1 jQ/\Ck P w K mg base 34 2 kD/\Ck P w K mg base 35 3 fZ/\Ck P w K mg base 36 4 jl/\Ck P w K mg base 37 1 iU/\Ck P w K mg base 38 1 aG:=by
 obtain⟨Y,W,h2,h3,h4,X,h6,h7,h8,h9,e,l,n⟩:=E7 (P:=P) (w:=w) (base:=base) T;obtain⟨Q,V,q,D,R,C,v,r,L,o,O,I,u⟩:=GW (P:=P) (w:=w) (base:=base) T;obtain⟨a,G,y,c1,c2,c3,J,t,M⟩:=T.c;have S:=mU (P:=P) (w:=w) (base:=base) T c2
 repeat' first
  |assumption
  |exact rfl
  |decide
  |exact Or.inl rfl
  |exact Or.inr rfl
  |exact Or.inr (Or.inl rfl)
  |exact Or.inr (Or.inr rfl)
  |apply mJ
  |apply mK
  |apply jg
  |apply kt
  |apply nV
  |apply nW
  |apply cy
  |apply bG
  |apply lm
  |apply iv
  |apply nO
  |apply rh
  |(apply qhy;apply iP;(case hsw=>exact U);(case hns=>assumption);(case hN=>assumption);(case h=>decide +kernel))
  |(apply qgX;apply iP;(case hsw=>exact U);(case hns=>assumption);(case hN=>assumption);(case h=>decide +kernel))
  |apply rj
  |apply xn
  |apply xm
  |apply mw
  |apply rn
  |apply xw
  |apply qY
  |(apply qZ;(case hns=>assumption);(case hN=>assumption);(case h=>decide +kernel))
  |apply mz
  |apply my
  |apply nU
  |apply nQ
  |apply qT
  |apply xi
  |apply qX
  |apply jh
  |apply mL
  |apply rg
  |apply ko
  |apply xx
  |apply mN
  |apply rA
  |apply ku
  |apply mM
  |apply rq
  |apply nM
  |apply xk
  |apply qQ
  |apply lp
  |apply xq
  |apply mH
  |apply kq
  |apply mF
  |apply mE
  |apply kj
  |apply mD
  |apply mC
  |(apply mI;(case hns=>assumption);(case hN=>assumption);(case h=>decide +kernel))
  |apply j9 (N:=["self","rows","bounds","gains"]) (ps:=["self","rows","bounds","gains"])
  |refine j8 rfl (by assumption) (by assumption) ?_ ?_ ?_ ?_ ?_ ?_
  |refine jf rfl (by assumption) (by assumption) ?_ ?_ ?_ ?_ ?_ ?_
  |refine xj (by with_reducible first|exact qbZ|exact qbY|exact qbX|exact qbW|exact qba|exact qbV|exact qbU|exact qbo|exact qbT|exact qbH|exact qb1) ?_ ?_ ?_ ?_ ?_ ?_ ?_ ?_ ?_
  |refine xo (by with_reducible first|exact qbZ|exact qbY|exact qbX|exact qbW|exact qba|exact qbV|exact qbU|exact qbo|exact qbT|exact qbH|exact qb1) ?_ ?_ ?_ ?_ ?_ ?_ ?_ ?_ ?_
  |(apply mB;(case hns=>assumption);(case hN=>assumption);(case h=>decide +kernel))
  |apply qP
  |apply je
  |apply qR
  |apply qS
  |apply mx
  |apply qU
  |apply qV
  |apply qW
  |apply kg
  |apply re
  |apply mG
  |apply dY
  |apply lq
  |apply rz
  |exact T.z _ (by decide)
  |exact qep
  |exact nomark _
  |exact λ_=>rfl
  |with_reducible first|apply jR|apply xR|apply mS|apply rJ|apply xS|apply xT|apply xU|apply rK|apply xV|apply xW|apply rM|apply rO|apply xX|apply mT|apply rP|apply rQ|apply rR|apply rS|apply rV|apply rW|apply qz|apply qA|apply fz|apply qB|apply gN|apply wQ|apply qC|apply wR|apply qD|apply qE|apply jc|apply jZ|apply fz
  |apply ie
  |apply ke
  |apply gk
  |apply kc
  |apply nP
  |apply ad
  |(apply B7 T;(case hi=>decide);unfold Bd;(conv in (occs:=*) tV _=>whnf);(conv in (occs:=*) aq _=>whnf);(conv in bf _=>whnf);intros)
  |(apply B8 T;(case hi=>decide);unfold Bd;(conv in (occs:=*) tV _=>whnf);(conv in (occs:=*) aq _=>whnf);(conv in bf _=>whnf);intros)
  |(refine xf (by assumption) scL ?_;(conv in bf _=>whnf);intros)
  |intro
theorem Ib (T:Txt K mg):Ck P w K mg base 39 2 cg/\Ck P w K mg base 40 1 bZ/\Ck P w K mg base 41 2 gY/\Ck P w K mg base 42 1 bx/\Ck P w K mg base 43 2 cn/\Ck P w K mg base 44 3 cE/\Ck P w K mg base 45 4 de/\Ck P w K mg base 46 5 du/\Ck P w K mg base 47 2 cF/\Ck P w K mg base 48 1 dN/\Ck P w K mg base 49 7 dc/\Ck P w K mg base 50 7 gX/\∀ f g,Fun K "law" "law" (top 63) f g->dU P w K mg base CX0 8 f g ["_law_script"] (spI K uz):=by
 obtain⟨Y,W,h2,h3,h4,X,h6,h7,h8,h9,e,l,n⟩:=E7 (P:=P) (w:=w) (base:=base) T;obtain⟨Q,V,q,D,R,C,v,r,L,o,O,I,u⟩:=GW (P:=P) (w:=w) (base:=base) T;obtain⟨h26,h27,h28,h29,h30,h31,h32,h33,h34,h35,h36,h37,h38⟩:=Ia (P:=P) (w:=w) (base:=base) T;obtain⟨a,G,y,c1,c2,c3,J,t,M⟩:=T.c;have S:=mU (P:=P) (w:=w) (base:=base) T c2
 repeat' first
  |assumption
  |exact rfl
  |decide
  |exact Or.inl rfl
  |exact Or.inr rfl
  |exact Or.inr (Or.inl rfl)
  |exact Or.inr (Or.inr rfl)
  |apply mJ
  |apply mK
  |apply jg
  |apply kt
  |apply nV
  |apply nW
  |apply cy
  |apply bG
  |apply lm
  |apply iv
  |apply nO
  |apply rh
  |(apply qhy;apply iP;(case hsw=>exact U);(case hns=>assumption);(case hN=>assumption);(case h=>decide +kernel))
  |(apply qgX;apply iP;(case hsw=>exact U);(case hns=>assumption);(case hN=>assumption);(case h=>decide +kernel))
  |apply rj
  |apply xn
  |apply xm
  |apply mw
  |apply rn
  |apply xw
  |apply qY
  |(apply qZ;(case hns=>assumption);(case hN=>assumption);(case h=>decide +kernel))
  |apply mz
  |apply my
  |apply nU
  |apply nQ
  |apply qT
  |apply xi
  |apply qX
  |apply jh
  |apply mL
  |apply rg
  |apply ko
  |apply xx
  |apply mN
  |apply rA
  |apply ku
  |apply mM
  |apply rq
  |apply nM
  |apply xk
  |apply qQ
  |apply lp
  |apply xq
  |apply mH
  |apply kq
  |apply mF
  |apply mE
  |apply kj
  |apply mD
  |apply mC
  |(apply mI;(case hns=>assumption);(case hN=>assumption);(case h=>decide +kernel))
  |apply j9 (N:=["self","rows","bounds","gains"]) (ps:=["self","rows","bounds","gains"])
  |refine j8 rfl (by assumption) (by assumption) ?_ ?_ ?_ ?_ ?_ ?_
  |refine jf rfl (by assumption) (by assumption) ?_ ?_ ?_ ?_ ?_ ?_
  |refine xj (by with_reducible first|exact qbZ|exact qbY|exact qbX|exact qbW|exact qba|exact qbV|exact qbU|exact qbo|exact qbT|exact qbH|exact qb1) ?_ ?_ ?_ ?_ ?_ ?_ ?_ ?_ ?_
  |refine xo (by with_reducible first|exact qbZ|exact qbY|exact qbX|exact qbW|exact qba|exact qbV|exact qbU|exact qbo|exact qbT|exact qbH|exact qb1) ?_ ?_ ?_ ?_ ?_ ?_ ?_ ?_ ?_
  |(apply mB;(case hns=>assumption);(case hN=>assumption);(case h=>decide +kernel))
  |apply qP
  |apply je
  |apply qR
  |apply qS
  |apply mx
  |apply qU
  |apply qV
  |apply qW
  |apply kg
  |apply re
  |apply mG
  |apply dY
  |apply lq
  |apply rz
  |exact T.z _ (by decide)
  |exact qep
  |exact nomark _
  |exact λ_=>rfl
  |with_reducible first|apply jR|apply xR|apply mS|apply rJ|apply xS|apply xT|apply xU|apply rK|apply xV|apply xW|apply rM|apply rO|apply xX|apply mT|apply rP|apply rQ|apply rR|apply rS|apply rV|apply rW|apply qz|apply qA|apply fz|apply qB|apply gN|apply wQ|apply qC|apply wR|apply qD|apply qE|apply jc|apply jZ|apply fz
  |apply ie
  |apply ke
  |apply gk
  |apply kc
  |apply nP
  |apply ad
  |(apply B7 T;(case hi=>decide);unfold Bd;(conv in (occs:=*) tV _=>whnf);(conv in (occs:=*) aq _=>whnf);(conv in bf _=>whnf);intros)
  |(apply B8 T;(case hi=>decide);unfold Bd;(conv in (occs:=*) tV _=>whnf);(conv in (occs:=*) aq _=>whnf);(conv in bf _=>whnf);intros)
  |(refine xf (by assumption) scL ?_;(conv in bf _=>whnf);intros)
  |intro
end
end Own
end
namespace L2
open PySem
def Hd (st:Sto) (n:Nat) (Zq:Int):Prop:=∃ x y z:Int,0<=x/\0<=z/\z<=Zq/\st[n]?=some (.l [.int x,.int y,.int z])
def Stw (n:Nat) (st a:Sto):Prop:=∃ v,a=st.set n v
theorem Hd.lt {st:Sto}{n:Nat}{Zq:Int} (h:Hd st n Zq):n<st.length:=by
 obtain⟨x,y,z,_,_,_,e⟩:=h;exact (qat.mp e).1
theorem Hd.mono {st:Sto}{n:Nat}{Zq Z':Int} (h:Hd st n Zq) (d:Zq<=Z'):Hd st n Z':=by
 obtain⟨x,y,z,a,b,c,e⟩:=h;exact⟨x,y,z,a,b,qeh c d,e⟩
theorem Stw.refl {st:Sto}{n:Nat} (h:n<st.length):Stw n st st:=⟨_,(List.set_getElem_self h).symm⟩
theorem Stw.trans {n:Nat}{a b c:Sto} (h:Stw n a b) (h':Stw n b c):Stw n a c:=by
 obtain⟨v,rfl⟩:=h;obtain⟨u,rfl⟩:=h';exact⟨u,by rw[List.set_set]⟩
theorem Stw.len {n:Nat}{a b:Sto} (h:Stw n a b):b.length=a.length:=by obtain⟨v,rfl⟩:=h;rw[qb2]
theorem Hd.app {st:Sto}{n:Nat}{Zq:Int} (h:Hd st n Zq) (u:Sto):Hd (st++u) n Zq:=by
 obtain⟨x,y,z,a,b,c,e⟩:=id h;exact⟨x,y,z,a,b,c,by rw[qaI h.lt];exact e⟩
theorem Stw.unapp {n:Nat}{a s:Sto}{u:Sto} (c:n<a.length) (h:Stw n (a++u) s):∃ b,s=b++u/\Stw n a b:=by
 obtain⟨v,rfl⟩:=h;rw[List.set_append_left _ _ c];exact⟨_,U,v,U⟩
theorem Hd.unapp {b u:Sto}{n:Nat}{Zq:Int} (a:n<b.length) (h:Hd (b++u) n Zq):Hd b n Zq:=by
 obtain⟨x,y,z,p,q,r,e⟩:=h;exact⟨x,y,z,p,q,r,by rw[qaI a]at e;exact e⟩
def cT:Nat->List (List Int)
 |0=>[[]]
 |n+1=>cT n++(cT n).map λt=>t++[(n:Int)]
def cw (n:Nat):List (List Int):=aD (cT n)
theorem dG:∀ n,(cT n).length=2^n
 |0=>rfl
 |n+1=>by rw[cT,qav,qaf,dG n];lia
theorem sZ (n:Nat):(cw n).length=2^n:=by rw[cw,(aB _).length_eq,dG]
def Trm (n:Nat) (t:List Int):Prop:=t.Pairwise (·<·)/\∀ k∈t,0<=k/\k<n
theorem Trm.mono {n m:Nat}{t:List Int} (h:Trm n t) (b:n<=m):Trm m t:=⟨h.1,λk a=>⟨(h.2 k a).1,by have:=(h.2 k a).2;lia⟩⟩
theorem dH:∀ (n:Nat) {t:List Int},t∈cT n->Trm n t
 |0,t,h=>by
  rw[cT,qal]at h;subst h;exact⟨List.Pairwise.nil,λk c=>by cases c⟩
 |n+1,t,h=>by
  rcases qaG.mp h with h|h
  ·exact (dH n h).mono (qdc n)
  ·obtain⟨u,d,rfl⟩:=qay.mp h
   have:=dH n d
   refine⟨qgV.mpr ⟨this.1,qgw _ _,λa e b hb=>?_⟩,λk c=>?_⟩
   ·rw[qal.mp hb];exact (this.2 a e).2
   ·rcases qaG.mp c with c|c
    ·exact⟨(this.2 k c).1,by have:=(this.2 k c).2;lia⟩
    ·rw[qal.mp c];lia
theorem zJ {n:Nat}{t:List Int} (h:t∈cw n):Trm n t:=dH n ((aB _).mem_iff.mp h)
theorem sJ {n:Nat}{t:List Int} (h:Trm n t):t.length<=n:=by
 have b:∀ (t:List Int) (a:Int),t.Pairwise (·<·)->(∀ k∈t,a<=k/\k<n)->(t.length)<=max 0 ((n) - a):=by
  intro t
  induction t with
  |nil=>intro a _ _;simp;lia
  |cons x t f=>
   intro a e d;have g:=d x qag
   have:=f _ (qbi.mp e).2 λk c=>⟨(qbi.mp e).1 k c,(d k (qak _ c)).2⟩
   rw[qar];lia
 have:=b t 0 h.1 h.2
 lia
def onI (row k:Int):Int:=row / 2^k.toNat%2
def dm (row:Int):List Int->Int
 |[]=>0
 |k::t=>onI row k+dm row t
theorem xY (row k:Int):onI row k=0\/onI row k=1:=by unfold onI;lia
theorem gg (row:Int):∀ t:List Int,(t.map (onI row)).sum=dm row t
 |[]=>rfl
 |k::t=>by rw[qas,qbB,gg row t];rfl
theorem wT (row:Int):∀ t:List Int,0<=dm row t/\dm row t<=t.length
 |[]=>by simp[dm]
 |k::t=>by
  have a:=wT row t;rcases xY row k with e|e<;>(simp only[dm,e,qar];lia)
theorem ww:∀ (ls:List (List Int)),pZ (ls.map au)=some ((aD ls).map au)
 |[]=>rfl
 |t::r=>by
  unfold pZ;rw[oV];rfl
def dE (u:D):Prop:=u=.non\/u=.int 0\/u=.int 1
def aX:Nat->List D->List Int
 |_,[]=>[]
 |i,.non::r=>aX (i+1) r
 |i,_::r=>(i:Int)::aX (i+1) r
def sgD:D->Int
 |.int v=>if v=1 then 1 else -1
 |_=>1
theorem gG:∀ (r:List D) (i:Nat) {j:Int},j∈aX i r->∃ m:Nat,j=((i+m:Nat):Int)/\m<r.length/\r[m]?≠some .non
 |[],i,j,h=>by cases h
 |d::r,i,j,h=>by
  have up:j∈aX _ r->∃ m:Nat,j=((i+m))/\m<(d::r).length/\(d::r)[m]?≠some .non:=λh=>by
   obtain⟨m,e,b,a⟩:=gG r (i+1) h;exact⟨m+1,by lia,by simpa using b,by simpa using a⟩
  cases d with
  |non=>exact up h
  |_=>
   rcases qaA.mp h with rfl|h
   ·exact⟨0,by simp,by simp,by simp⟩
   ·exact up h
def Do:D->Bool
 |.tup [_,v]=>!fG v
 |_=>false
def FL:D->D
 |.tup [j,_]=>j
 |d=>d
theorem oS:∀ (r:List D) (i:Nat),((cB i r).filter Do).map FL=(aX i r).map D.int
 |[],i=>rfl
 |d::r,i=>by
  have a:=oS r (i+1);have e0:cB i (d::r)=.tup [.int _,d]::cB _ r:=rfl;rw[e0,qdq];cases d<;>first
   |(exact a)
   |(rw[iFP (show Do _=true from rfl),qas,a];rfl)
theorem jp:∀ (r:List D) (i:Nat),(aX i r).length<=r.length
 |[],i=>qap _
 |d::r,i=>by
  have a:=jp r (i+1);cases d<;>first
   |(show (aX _ r).length<=r.length+1;lia)
   |(show (aX _ r).length+1<=r.length+1;lia)
def ph (b:Bool) (a:Int):Int:=if b=true then a else 1 - 2*a
abbrev Prt:=List Int×Int
def ca (p:Prt):D:=.tup [au p.1,.int p.2]
def aQ (kd:Str) (ps:List Prt):D:=.tup [.str kd,.tup (ps.map ca)]
theorem ky {te:Ef}{env:Ev}{st:Sto} (F:Prt->D):∀ {ps:List Prt},(∀ p∈ps,∃ a,cv (.tp [0,1]) (.d (ca p)) env=some a/\te a st=some (.d (F p),st))->lcI (.tp [0,1]) az te env (ps.map ca) st=some (ps.map F,st)
 |[],_=>rfl
 |p::ps,h=>by
  obtain⟨a,b,c⟩:=h p qag;rw[qas];unfold lcI;rw[b,qaa,show az a st=some (true,st) from U,qaa,c,qaa,(ky F λx e=>h x (qak _ e))];rfl
def l5 (i:Int):Int:=if i<0 then -i else i
def bW:Nat->List Int->Nat
 |g,[]=>g
 |g,n::ns=>bW (qaW g n.natAbs) ns
theorem t9 (n:Int):∀ (g:Nat) (ns:List Int),bW g (ns++[n])=qaW (bW g ns) n.natAbs
 |g,[]=>rfl
 |g,m::ns=>t9 n _ ns
theorem cX:∀ (g:Nat) (ns:List Int),bW g ns∣g/\∀ n∈ns,bW g ns∣n.natAbs
 |g,[]=>⟨Nat.dvd_refl _,λ_ h=>by cases h⟩
 |g,m::ns=>by
  have b:=cX (qaW g m.natAbs) ns;refine⟨qiI b.1 (qdW _ _),λn a=>?_⟩;rcases qaA.mp a with rfl|a
  ·exact qiI b.1 (qer _ _)
  ·exact b.2 n a
theorem v4 {d:Nat}{n:Int} (hd:0<d) (h:d∣n.natAbs):(n / (d:Int)).natAbs=n.natAbs / d:=by
 obtain⟨q,rfl⟩:=(qb0.mpr h);rw[qes _ (by lia),qct,Int.natAbs_natCast,Nat.mul_div_cancel_left _ hd]
theorem ua {d:Nat} (hd:0<d):∀ (g:Nat) (ns:List Int),d∣g->(∀ n∈ns,d∣n.natAbs)->bW (g / d) (ns.map λn=>n / (d:Int))=bW g ns / d
 |g,[],_,_=>rfl
 |g,m::ns,hg,h=>by
  have a:=h m qag;rw[qas,bW,v4 hd a,Nat.gcd_div hg a];exact ua hd _ ns (Nat.dvd_gcd hg a) λn b=>h n (qak _ b)
theorem nJ {ns:List Int}{n:Int} (b:n∈ns) (c:n≠0):0<bW 0 ns/\bW 0 ns<=n.natAbs:=by
 have h:=(cX 0 ns).2 n b;have a:0<n.natAbs:=by lia
 exact⟨Nat.pos_of_dvd_of_pos h a,Nat.le_of_dvd a h⟩
theorem Ad {ns:List Int} (b:∀ n∈ns,n≠0):bW 0 (ns.map λn=>n / ((bW 0 ns:Nat):Int))<=1:=by
 cases ns with
 |nil=>exact qcc _
 |cons n r=>
  have a:=(nJ (qag (l:=r)) (b n qag)).1
  have:=ua a 0 _ (Nat.dvd_zero _) (cX 0 _).2
  rw[Nat.zero_div]at this;rw[this,Nat.div_self a];exact qap 1
theorem ae {g:Sto->W->W->Option D}{a b:Ef}{env:Ev}{st s1 c:Sto}{x y:W}{d:D} (e:a env st=some (x,s1)) (hb:b env s1=some (y,c)) (hg:g c x y=some d):iOp g a b env st=some (.d d,c):=by
 simp only[iOp,e,hb,hg,qaa,qaj]
theorem aE {g:Sto->W->W->Option D}{a b:Ef}{env:Ev}{st s1 c:Sto}{x y:W}{k:Bool} (d:a env st=some (x,s1)) (hb:b env s1=some (y,c)) (hg:g c x y=some (.bl k)):aN g a b env st=some (k,c):=by
 simp only[aN,d,hb,hg,qaa,nk,qaj]
theorem aY {a b:Sf}{env e:Ev}{st s:Sto}{r:Fl} (c:a env st=some (.nx e s)) (hb:b e s=some r):ah a b env st=some r:=by
 simp only[ah,c,hb,qaa]
theorem sj {a b:Sf}{env:Ev}{st s:Sto}{w:W} (c:a env st=some (.rt w s)):ah a b env st=some (.rt w s):=by
 simp only[ah,c,qaa]
theorem aj {i:Nat}{f:Ef}{env:Ev}{st s:Sto}{w:W} (h:f env st=some (w,s)):aw (.nm i) f env st=some (.nx (env.set i (some w)) s):=by
 simp only[aw,h,qaa,cv,qaj]
theorem ag {m:Fn}{a:Af}{env:Ev}{st s:Sto}{ws:List W}{r:W×Sto} (b:a env st=some (ws,s)) (c:m ws s=some r):ai m a env st=some r:=by
 simp only[ai,b,c,qaa]
theorem aF {g:Sto->List W->Option D}{a:Af}{env:Ev}{st s:Sto}{ws:List W}{d:D} (b:a env st=some (ws,s)) (c:g s ws=some d):iCB g a env st=some (.d d,s):=by
 simp only[iCB,b,c,qaa,qaj]
theorem ab {a:Ef}{b:Af}{env:Ev}{st s1 c:Sto}{x:W}{y:List W} (d:a env st=some (x,s1)) (hb:b env s1=some (y,c)):aa a b env st=some (x::y,c):=by
 simp only[aa,d,hb,qaa,qaj]
theorem bM {a:Lf}{g:Tg}{b:Sf}{env:Ev}{st s:Sto}{ds:List D}{r:Fl} (h:a env st=some (ds,s)) (c:cS g b ds env s=some r):gR a g b env st=some r:=by
 simp only[gR,h,c,qaa]
theorem aA {f:Ef}{env:Ev}{st s:Sto}{w:W} (h:f env st=some (w,s)):aM f env st=some (.rt w s):=by
 simp only[aM,h,qaj]
theorem yh {c:Tf}{a b:Sf}{env:Ev}{st s:Sto}{r:Option Fl} (h:c env st=some (true,s)) (d:a env s=r):bA c a b env st=r:=by
 simp only[bA,h,qaa,if_true,d]
theorem yg {c:Tf}{a b:Sf}{env:Ev}{st s:Sto}{r:Option Fl} (h:c env st=some (false,s)) (hb:b env s=r):bA c a b env st=r:=by
 simp only[bA,h,qaa,qa8,if_false,hb]
theorem aI {k:Nat}{js:List Nat}{b:Lf}{g:Tg}{tt:Tf}{te:Ef}{env:Ev}{st s a:Sto}{ds c:List D} (h:b env st=some (ds,s)) (d:ds.length<=1000000) (e:lcI g tt te (eL k js env) ds s=some (c,a)):iLc k js b g tt te env st=some (c,a):=by
 simp only[iLc,h,e,d,qaa,if_true]
theorem ak {a:Lf}{env:Ev}{st s:Sto}{ds:List D} (h:a env st=some (ds,s)):ap a env st=some (.d (.lst ds),s):=by
 simp only[ap,h,qaj]
theorem ax {n k:Nat}{b:Sf}{ws:List W}{st s:Sto}{w:W} (a:ws.length=k) (h:b (ws.map some++qaL (n - k) none) st=some (.rt w s)):bj n k b ws st=some (w,s):=by
 simp only[bj,a,if_true,h,qaa]
theorem gB {n k:Nat}{b:Sf}{ws:List W}{st s:Sto}{x:D} (a:ws.length=k) (h:b (ws.map some++qaL (n - k) none) st=some (.rt (.d x) s)):f8 n k b ws st=some (.d x,s.take st.length):=by
 simp only[f8,a,if_true,h,qaa,z9]
end L2
namespace Sx
abbrev Vec:=Nat->Int
def sumN:Nat->(Nat->Int)->Int
 |0,_=>0
 |n+1,f=>sumN n f+f n
theorem sumN_congr {n:Nat}{f g:Nat->Int} (h:∀ k,k<n->f k=g k):sumN n f=sumN n g:=by
 induction n with
 |zero=>rfl
 |succ n F=>rw[sumN,sumN,F λk H=>h k (by omega),h n (by omega)]
theorem sumN_add (n:Nat) (f g:Nat->Int):sumN n (λk=>f k+g k)=sumN n f+sumN n g:=by
 induction n with
 |zero=>rfl
 |succ n F=>rw[sumN,sumN,sumN];omega
theorem sumN_mul (n:Nat) (c:Int) (f:Nat->Int):sumN n (λk=>c*f k)=c*sumN n f:=by
 induction n with
 |zero=>simp[sumN]
 |succ n F=>rw[sumN,sumN,F,qcH]
theorem sumN_zero (n:Nat):sumN n (λ_=>0)=0:=by
 induction n with
 |zero=>rfl
 |succ n F=>rw[sumN,F];rfl
theorem sumN_single {n i:Nat} (hi:i<n) {f:Nat->Int} (h:∀ k,k<n->k≠i->f k=0):sumN n f=f i:=by
 induction n with
 |zero=>omega
 |succ n F=>
  rw[sumN];by_cases e:i=n
  ·subst e
   rw[sumN_congr λk H=>h k (by omega) (by omega),sumN_zero];omega
  ·rw[F (by omega) λk H s=>h k (by omega) s,h n (by omega) (by omega)];omega
theorem sumN_pair {n i j:Nat} (hi:i<n) (Q:j<n) (hij:i≠j) {f:Nat->Int} (h:∀ k,k<n->k≠i->k≠j->f k=0):sumN n f=f i+f j:=by
 have e:sumN n f=sumN n (λk=>(if k=i then f i else 0)+(if k=j then f j else 0)):=by
  refine sumN_congr λk H=>?_;by_cases J:k=i
  ·subst J;omega
  ·by_cases L:k=j
   ·subst L;omega
   ·rw[iFN J,iFN L,h k H J L];rfl
 rw[e,sumN_add,sumN_single hi λk _ s=>iFN s,sumN_single Q λk _ s=>iFN s,iFP U,iFP U]
def skip (k j:Nat):Nat:=if j<k then j else j+1
def sg (k:Nat):Int:=if k%2=0 then 1 else -1
theorem sg_succ (k:Nat):sg (k+1)=- sg k:=by
 unfold sg;by_cases h:k%2=0
 ·rw[iFP h,iFN (by omega)]
 ·rw[iFN h,iFP (by omega)];rfl
def det:Nat->(Nat->Vec)->Int
 |0,_=>1
 |m+1,C=>sumN (m+1) λk=>sg k*C k 0*det m (λj t=>C (skip k j) (t+1))
theorem det_congr:∀ (m:Nat) {C E:Nat->Vec},(∀ k t,k<m->t<m->C k t=E k t)->det m C=det m E:=by
 intro m
 induction m with
 |zero=>intros;rfl
 |succ m F=>
  intro C E h;refine sumN_congr λk H=>?_;rw[h k 0 H (by omega),F λj t Q ht=>h _ _ (by unfold skip;split<;>omega) (by omega)]
def upd (C:Nat->Vec) (i:Nat) (v:Vec):Nat->Vec:=λj=>if j=i then v else C j
theorem upd_same (C:Nat->Vec) (i:Nat) (v:Vec):upd C i v i=v:=iFP U
theorem upd_ne {C:Nat->Vec}{i j:Nat}{v:Vec} (h:j≠i):upd C i v j=C j:=iFN h
theorem upd_self (C:Nat->Vec) (i:Nat):upd C i (C i)=C:=by
 funext j
 by_cases h:j=i
 ·rw[h,upd_same]
 ·rw[upd_ne h]
theorem upd_upd (C:Nat->Vec) (i:Nat) (u v:Vec):upd (upd C i u) i v=upd C i v:=by
 funext j
 by_cases h:j=i
 ·rw[h,upd_same,upd_same]
 ·rw[upd_ne h,upd_ne h,upd_ne h]
theorem upd_comm {C:Nat->Vec}{i j:Nat}{u v:Vec} (h:i≠j):upd (upd C i u) j v=upd (upd C j v) i u:=by
 funext k
 by_cases J:k=i
 ·subst J;rw[upd_ne h,upd_same,upd_same]
 ·by_cases L:k=j
  ·subst L;rw[upd_same,upd_ne J,upd_same]
  ·rw[upd_ne L,upd_ne J,upd_ne J,upd_ne L]
def unskip (k i:Nat):Nat:=if i<k then i else i - 1
theorem skip_upd {C:Nat->Vec}{k i:Nat}{v:Vec} (h:k≠i):(λj t=>upd C i v (skip k j) (t+1))=upd (λj t=>C (skip k j) (t+1)) (unskip k i) (λt=>v (t+1)):=by
 funext j t
 unfold upd skip unskip;by_cases J:j<k<;>by_cases L:i<k<;>simp only[J,L,if_true,if_false]
 ·by_cases e:j=i
  ·rw[iFP e,iFP e]
  ·rw[iFN e,iFN e]
 ·rw[iFN (by omega),iFN (by omega)]
 ·rw[iFN (by omega),iFN (by omega)]
 ·by_cases e:j+1=i
  ·rw[iFP e,iFP (by omega)]
  ·rw[iFN e,iFN (by omega)]
theorem skip_self {C:Nat->Vec}{i:Nat}{v:Vec}:(λj t=>upd C i v (skip i j) (t+1))=λj t=>C (skip i j) (t+1):=by
 funext j t
 rw[upd_ne];unfold skip;split<;>omega
theorem det_add:∀ (m:Nat) (C:Nat->Vec) (i:Nat) (u v:Vec),i<m->det m (upd C i λt=>u t+v t)=det m (upd C i u)+det m (upd C i v):=by
 intro m
 induction m with
 |zero=>omega
 |succ m F=>
  intro C i u v hi;rw[det,det,det,<-sumN_add];refine sumN_congr λk H=>?_;by_cases e:k=i
  ·subst e
   rw[skip_self,skip_self,skip_self,upd_same,upd_same,upd_same,qcH,qeE]
  ·rw[skip_upd e,skip_upd e,skip_upd e,upd_ne e,upd_ne e,upd_ne e,F _ _ _ _ (by unfold unskip;split<;>omega),qcH]
theorem det_mul:∀ (m:Nat) (C:Nat->Vec) (i:Nat) (c:Int) (u:Vec),i<m->det m (upd C i λt=>c*u t)=c*det m (upd C i u):=by
 intro m
 induction m with
 |zero=>omega
 |succ m F=>
  intro C i c u hi;rw[det,det,<-sumN_mul];refine sumN_congr λk H=>?_;by_cases e:k=i
  ·subst e
   rw[skip_self,skip_self,upd_same,upd_same];rw[show sg k*_=c*_ by rw[qaU],qbm]
  ·rw[skip_upd e,skip_upd e,upd_ne e,upd_ne e,F _ _ c _ (by unfold unskip;split<;>omega),qaU]
theorem det_adj:∀ (m:Nat) (C:Nat->Vec) (i:Nat),i+1<m->C i=C (i+1)->det m C=0:=by
 intro m
 induction m with
 |zero=>omega
 |succ m F=>
  intro C i hi h;rw[det,sumN_pair (i:=i) (by omega) (by omega) (by omega) λk H J L=>?_]
  ·have e:(λj t=>C (skip i j) (t+1))=λj t=>C (skip (i+1) j) (t+1):=by
    funext j t
    by_cases e:j=i
    ·subst e
     have a1:skip j j=j+1:=by unfold skip;rw[iFN (by omega)]
     have a2:skip (j+1) j=j:=by unfold skip;rw[iFP (by omega)]
     rw[a1,a2,h]
    ·have:skip i j=skip (i+1) j:=by
      unfold skip;by_cases J:j<i
      ·rw[iFP J,iFP (by omega)]
      ·rw[iFN J,iFN (by omega)]
     rw[this]
   rw[e,h,sg_succ];rw[<-qeE,<-qeE];rw[show sg i+-sg i=0 by omega]
   simp
  ·have hz:det m (λj t=>C (skip k j) (t+1))=0:=by
    by_cases l:k<i
    ·refine F _ (i - 1) (by omega) ?_
     funext t
     have a1:skip k (i - 1)=i:=by unfold skip;rw[iFN (by omega)];omega
     have a2:skip k (i - 1+1)=i+1:=by unfold skip;rw[iFN (by omega)];omega
     rw[a1,a2,h]
    ·refine F _ i (by omega) ?_
     funext t
     have a1:skip k i=i:=by unfold skip;rw[iFP (by omega)]
     have a2:skip k (i+1)=i+1:=by unfold skip;rw[iFP (by omega)]
     rw[a1,a2,h]
   rw[hz,qbh]
theorem det_swap {m:Nat} (C:Nat->Vec) {i:Nat} (hi:i+1<m):det m (upd (upd C i (C (i+1))) (i+1) (C i))=- det m C:=by
 have N:∀ u v ,det m (upd (upd C i u) (i+1) v)+det m (upd (upd C i v) (i+1) u)=0:=λu v=>by
  have W:det m (upd (upd C i λt=>u t+v t) (i+1) λt=>u t+v t)=0:=det_adj m _ i hi (by rw[upd_ne (by omega),upd_same,upd_same]);have hv:det m (upd (upd C i v) (i+1) v)=0:=det_adj m _ i hi (by rw[upd_ne (by omega),upd_same,upd_same]);rw[det_add m _ _ u v hi,upd_comm (by omega),upd_comm (v:=v) (by omega),det_add m _ i u v (by omega),det_add m _ i u v (by omega)]at W;rw[<-upd_comm (by omega),<-upd_comm (u:=v) (by omega),<-upd_comm (i:=i) (by omega),<-upd_comm (u:=v) (v:=v) (by omega),(det_adj m _ i hi (by rw[upd_ne (by omega),upd_same,upd_same]))]at W;omega
 have:=N (C i) (C (i+1))
 have e:upd (upd C i (C i)) (i+1) (C (i+1))=C:=by rw[upd_self,upd_self]
 rw[e]at this;omega
theorem det_same {m:Nat}:∀ (d:Nat) (C:Nat->Vec) (i j:Nat),j=i+d+1->j<m->C i=C j->det m C=0:=by
 intro d
 induction d with
 |zero=>intro C i j Q hm h;subst Q;exact det_adj m C i hm h
 |succ d F=>
  intro C i j Q hm h;have hs:=det_swap (m:=m) C (i:=j - 1) (by omega);have e1:j - 1+1=j:=by omega
  rw[e1]at hs
  have:=F (upd (upd C (j - 1) _) j (C (j - 1))) i (j - 1) (by omega) (by omega) (by rw[upd_ne (by omega),upd_ne (by omega),upd_ne (by omega),upd_same,h])
  omega
theorem det_eq0 {m:Nat} (C:Nat->Vec) {i j:Nat} (hi:i<m) (Q:j<m) (hij:i≠j) (h:C i=C j):det m C=0:=by
 rcases Nat.lt_or_gt_of_ne hij with J|J
 ·exact det_same (j - i - 1) C i j (by omega) Q h
 ·exact det_same (i - j - 1) C j i (by omega) hi h.symm
theorem det_zero {m:Nat} (C:Nat->Vec) {i:Nat} (hi:i<m):det m (upd C i λ_=>0)=0:=by
 simpa using (det_mul m C i 0 (λ_=>0) hi)
theorem det_sum {m:Nat} (C:Nat->Vec) {i:Nat} (hi:i<m) (x:Nat->Int) (V:Nat->Vec):∀ n,det m (upd C i λt=>sumN n λk=>x k*V k t)=sumN n λk=>x k*det m (upd C i (V k)):=by
 intro n
 induction n with
 |zero=>exact det_zero C hi
 |succ n F=>
  have e:(λt=>sumN (n+1) λk=>x k*V k t)=λt=>_+x n*V n t:=rfl;rw[e,det_add m C i _ _ hi,F,det_mul m C i _ _ hi];rfl
theorem cramer {m:Nat} (B:Nat->Vec) (a:Vec) (p:Int) (x:Nat->Int) (h:∀ t,p*a t=sumN m λk=>x k*B k t) {i:Nat} (hi:i<m):p*det m (upd B i a)=x i*det m B:=by
 rw[<-det_mul m B i p a hi];rw[(funext h),det_sum B hi x B m,sumN_single hi λk H s=>?_,upd_self];rw[det_eq0 _ hi H (qbr s) (by rw[upd_same,upd_ne s]),qbh]
theorem cramer2 {m:Nat} (B:Nat->Vec) (a b:Vec) (p:Int) (X:p=det m B) (hp0:p≠0) (x y:Nat->Int) (hx:∀ t,p*a t=sumN m λk=>x k*B k t) (hy:∀ t,p*b t=sumN m λk=>y k*B k t) {i r:Nat} (hi:i<m) (q:r<m) (o:i≠r) :
  p*det m (upd (upd B r a) i b)=x r*y i - x i*y r:=by
 have J:p*det m (upd (upd B r a) i b)=sumN m λk=>y k*det m (upd (upd B r a) i (B k)):=by
  rw[<-det_mul m _ i p b hi];rw[(funext hy),det_sum _ hi y B m]
 rw[J,sumN_pair hi q o λk H L h3=>?_]
 ·have e1:upd (upd B r a) i (B i)=upd B r a:=by
   have:(upd B r a) i=B i:=upd_ne o
   rw[<-this,upd_self]
  have e2:p*det m (upd B r a)=x r*p:=by rw[cramer B a p x hx q,<-X]
  have e3:p*det m (upd (upd B r a) i (B r))=- (x i*p):=by
   rw[(upd_comm (qbr o)),<-det_mul m _ r p a q];rw[(funext hx),det_sum _ q x B m,sumN_single hi λk H s=>?_]
   ·-- columns i and r exchanged
    have hsw:det m (upd (upd B i (B r)) r (B i))=- det m B:=by
     have:=(λu v=>by
      have z:∀ w ,det m (upd (upd B i w) r w)=0:=λw=>det_eq0 _ hi q o (by rw[upd_ne o,upd_same,upd_same]);have W:=z λt=>u t+v t;rw[det_add m _ r u v q,upd_comm o,upd_comm o,det_add m _ i u v hi,det_add m _ i u v hi]at W;rw[<-upd_comm o,<-upd_comm o,<-upd_comm o,<-upd_comm o,z u,z v]at W
      omega) (B i) (B r)
     rw[show upd _ r (B r)=B by rw[upd_self,upd_self]]at this;omega
    rw[hsw,<-X,qgc]
   ·by_cases O:k=r
    ·subst O
     rw[det_eq0 _ hi q o (by rw[upd_ne o,upd_same,upd_same]),qbh]
    ·rw[det_eq0 _ q H (qbr O) (by rw[upd_same,upd_ne O,upd_ne s]),qbh]
  rw[e1]
  have:p*(y i*det m (upd B r a)+y r*det m (upd (upd B r a) i (B r)))=p*(x r*y i - x i*y r):=by
   rw[qcH,qaU,e2,qaU p _,e3,qdO,qgc];rw[show y i*_=p*_ by rw[qa9 _,qbl,qa9]];rw[show y r*_=p*(x i*y r) by rw[qa9 _,qbm,qa9 p _,<-qbm,qa9 _ p]];omega
  exact qel hp0 this
 ·rw[det_eq0 _ hi H (qbr L) (by rw[upd_same,upd_ne L,upd_ne h3]),qbh]
def unit (k:Nat):Vec:=λt=>if t=k then 1 else 0
theorem det_unit:∀ m,det m unit=1:=by
 intro m
 induction m with
 |zero=>rfl
 |succ m F=>
  rw[det,sumN_single (i:=0) (by omega) λk H s=>by rw[show unit k 0=0 by unfold unit;rw[iFN (by omega)]];simp];have e:(λj t=>unit (skip 0 j) (t+1))=unit:=by
   funext j t
   unfold unit skip;rw[iFN (by omega:¬ j<0)];by_cases h:t=j
   ·rw[iFP (by omega),iFP h]
   ·rw[iFN (by omega),iFN h]
  rw[e,F];rfl
structure Pb where
 m:Nat
 n:Nat
 A:Nat->Vec
 b:Vec
 g:Nat->Int
structure Tb where
 p:Int
 kept:Nat->Nat
 free:Nat->Nat
 T:Nat->Nat->Int
 G:Nat->Int
variable (P:Pb)
def colV (S:Tb) (c:Nat):Vec:=if c<P.n then P.A (S.free c) else P.b
def gainC (S:Tb) (c:Nat):Int:=if c<P.n then P.g (S.free c) else 0
def basis (S:Tb):Nat->Vec:=λi=>P.A (S.kept i)
structure Good (S:Tb):Prop where
 pos:0<S.p
 dt:S.p=det P.m (basis P S)
 eq:∀ c,c<=P.n->∀ t,S.p*colV P S c t=sumN P.m λi=>S.T i c*P.A (S.kept i) t
 goal:∀ c,c<=P.n->S.G c=(sumN P.m λi=>P.g (S.kept i)*S.T i c) - S.p*gainC P S c
def piv (S:Tb) (r e:Nat):Tb where
 p:=S.T r e
 kept:=λi=>if i=r then S.free e else S.kept i
 free:=λc=>if c=e then S.kept r else S.free c
 T:=λi c=>if i=r then (if c=e then S.p else S.T r c) else (if c=e then - S.T i e else (S.T r e*S.T i c - S.T i e*S.T r c) / S.p)
 G:=λc=>if c=e then - S.G e else (S.T r e*S.G c - S.G e*S.T r c) / S.p
variable {P}
theorem Good.entry {S:Tb} (h:Good P S) {c i:Nat} (M:c<=P.n) (hi:i<P.m):S.T i c=det P.m (upd (basis P S) i (colV P S c)):=by
 have:=cramer (basis P S) _ S.p _ (λt=>h.eq c M t) hi
 rw[<-h.dt,qa9]at this;exact (qed (by have:=h.pos;omega) this).symm
theorem Good.whole {S:Tb} (h:Good P S) {r e c i:Nat} (K:e<=P.n) (M:c<=P.n) (hi:i<P.m) (q:r<P.m) (o:i≠r):∃ d,S.T r e*S.T i c - S.T i e*S.T r c=S.p*d:=
 ⟨_,(cramer2 _ _ _ S.p h.dt (by have:=h.pos;omega) _ _ (λt=>h.eq e K t) (λt=>h.eq c M t) hi q o).symm⟩
theorem ediv_of {p a d:Int} (X:0<p) (h:a=p*d):p*(a / p)=a:=by
 rw[h,qes _ (by omega)]
theorem piv_T {S:Tb} (h:Good P S) {r e c i:Nat} (K:e<=P.n) (M:c<=P.n) (hi:i<P.m) (q:r<P.m) (o:i≠r) (D:c≠e):S.p*(piv S r e).T i c=S.T r e*S.T i c - S.T i e*S.T r c:=by
 obtain⟨d,hd⟩:=h.whole K M hi q o;show S.p*(if i=r then _ else _)=_;rw[iFN o,iFN D];exact ediv_of h.pos hd
theorem sumN_split {n r:Nat} (q:r<n) (f:Nat->Int):sumN n f=f r+sumN n (λk=>if k=r then 0 else f k):=by
 have e:sumN n f=sumN n (λk=>(if k=r then f r else 0)+(if k=r then 0 else f k)):=by
  refine sumN_congr λk H=>?_;by_cases h:k=r
  ·rw[h];omega
  ·omega
 rw[e,sumN_add,sumN_single q λk _ s=>iFN s,iFP U]
theorem sumN_sub (n:Nat) (f g:Nat->Int):sumN n (λk=>f k - g k)=sumN n f - sumN n g:=by
 induction n with
 |zero=>rfl
 |succ n F=>rw[sumN,sumN,sumN];omega
theorem piv_eq {S:Tb} (h:Good P S) {r e:Nat} (K:e<P.n) (q:r<P.m):∀ c,c<=P.n->∀ t,(piv S r e).p*colV P (piv S r e) c t=sumN P.m λi=>(piv S r e).T i c*P.A ((piv S r e).kept i) t:=by
 intro c M t;have X:=h.pos;have R:=h.eq e (by omega) t;have hcE:colV P S e=P.A _:=iFP K;rw[hcE,sumN_split q]at R;have kr:(piv S r e).kept r=S.free e:=iFP U;have kn:∀ i,i≠r->(piv S r e).kept i=S.kept i:=λi hi=>iFN hi;rw[sumN_split q,kr];by_cases D:c=e
 ·subst D
  have c1:colV P (piv S r c) c=P.A (S.kept r):=by
   unfold colV;rw[iFP K];show P.A (if c=c then _ else _)=_;rw[iFP U]
  have t1:(piv S r c).T r c=S.p:=by show (if r=r then _ else _)=_;rw[iFP U,iFP U]
  have t2:(sumN P.m λk=>if k=r then 0 else (piv S r c).T k c*P.A ((piv S r c).kept k) t)=- sumN P.m λk=>if k=r then 0 else S.T k c*P.A (S.kept k) t:=by
   have:(sumN P.m λk=>if k=r then 0 else (piv S r c).T k c*P.A ((piv S r c).kept k) t)=sumN P.m λk=>(-1)*(if k=r then 0 else S.T k c*P.A (S.kept k) t):=by
    refine sumN_congr λk H=>?_;by_cases l:k=r
    ·rw[iFP l,iFP l];rfl
    ·rw[iFN l,iFN l,kn k l]
     show (if k=r then _ else _)*_=_;rw[iFN l,iFP U,qdN,qdN,qcG]
   rw[this,sumN_mul];omega
  rw[c1,t1];show S.T r c*P.A _ t=_;omega
 ·have c1:colV P (piv S r e) c=colV P S c:=by
   unfold colV;by_cases I:c<P.n
   ·rw[iFP I,iFP I];show P.A (if c=e then _ else _)=_;rw[iFN D]
   ·rw[iFN I,iFN I]
  have t1:(piv S r e).T r c=S.T r c:=by show (if r=r then _ else _)=_;rw[iFP U,iFN D]
  have hC:=h.eq c M t;rw[sumN_split q]at hC;rw[c1,t1];refine qel (a:=S.p) (by omega) ?_;have t2:S.p*(sumN P.m λk=>if k=r then 0 else (piv S r e).T k c*P.A ((piv S r e).kept k) t)=(sumN P.m λk=>S.T r e*(if k=r then 0 else S.T k c*P.A (S.kept k) t)) - sumN P.m λk=>S.T r c*(if k=r then 0 else S.T k e*P.A (S.kept k) t):=by
   rw[<-sumN_mul,<-sumN_sub];refine sumN_congr λk H=>?_;by_cases l:k=r
   ·rw[iFP l,iFP l,iFP l];simp
   ·rw[iFN l,iFN l,iFN l,kn k l,<-qbm,piv_T h (by omega) M H q l D,qga]
    rw[qbm,qa9 (S.T k e),qbm]
  rw[qcH,t2,sumN_mul,sumN_mul];show S.p*(S.T r e*colV P S c t)=_;rw[qaU,hC,<-qbm S.p,qa9 S.p _,qbm,R,qcH,qcH];rw[show S.T r e*_=S.T r c*_ by rw[qaU]];omega
theorem piv_goal {S:Tb} (h:Good P S) {r e:Nat} (K:e<P.n) (q:r<P.m):∀ c,c<=P.n->(piv S r e).G c=(sumN P.m λi=>P.g ((piv S r e).kept i)*(piv S r e).T i c) - (piv S r e).p*gainC P (piv S r e) c:=by
 intro c M;have X:=h.pos;have R:=h.goal e (by omega);have gE:gainC P S e=P.g _:=iFP K;rw[gE,sumN_split q]at R;have kr:(piv S r e).kept r=S.free e:=iFP U;have kn:∀ i,i≠r->(piv S r e).kept i=S.kept i:=λi hi=>iFN hi;rw[sumN_split q,kr];by_cases D:c=e
 ·subst D
  have c1:gainC P (piv S r c) c=P.g (S.kept r):=by
   unfold gainC;rw[iFP K];show P.g (if c=c then _ else _)=_;rw[iFP U]
  have t1:(piv S r c).T r c=S.p:=by show (if r=r then _ else _)=_;rw[iFP U,iFP U]
  have t2:(sumN P.m λk=>if k=r then 0 else P.g ((piv S r c).kept k)*(piv S r c).T k c)=- sumN P.m λk=>if k=r then 0 else P.g (S.kept k)*S.T k c:=by
   have:(sumN P.m λk=>if k=r then 0 else P.g ((piv S r c).kept k)*(piv S r c).T k c)=sumN P.m λk=>(-1)*(if k=r then 0 else P.g (S.kept k)*S.T k c):=by
    refine sumN_congr λk H=>?_;by_cases l:k=r
    ·rw[iFP l,iFP l];rfl
    ·rw[iFN l,iFN l,kn k l]
     show _*(if k=r then _ else _)=_;rw[iFN l,iFP U,qgc,qdN,qcG]
   rw[this,sumN_mul];omega
  rw[c1,t1];show (if c=c then - S.G c else _)=_ - S.T r c*_;rw[iFP U,R,qa9 _,qa9 S.p];omega
 ·have c1:gainC P (piv S r e) c=gainC P S c:=by
   unfold gainC;by_cases I:c<P.n
   ·rw[iFP I,iFP I];show P.g (if c=e then _ else _)=_;rw[iFN D]
   ·rw[iFN I,iFN I]
  have t1:(piv S r e).T r c=S.T r c:=by show (if r=r then _ else _)=_;rw[iFP U,iFN D]
  have hC:=h.goal c M;rw[sumN_split q]at hC;rw[c1,t1];have t2:S.p*(sumN P.m λk=>if k=r then 0 else P.g ((piv S r e).kept k)*(piv S r e).T k c)=(sumN P.m λk=>S.T r e*(if k=r then 0 else P.g (S.kept k)*S.T k c)) - sumN P.m λk=>S.T r c*(if k=r then 0 else P.g (S.kept k)*S.T k e):=by
   rw[<-sumN_mul,<-sumN_sub];refine sumN_congr λk H=>?_;by_cases l:k=r
   ·rw[iFP l,iFP l,iFP l];simp
   ·rw[iFN l,iFN l,iFN l,kn k l,qaU,piv_T h (by omega) M H q l D,qdO]
    rw[qaU,qa9 (S.T k e),qaU (S.T r c)]
  rw[sumN_mul,sumN_mul]at t2;have N:S.T r e*S.G c - S.G e*S.T r c=S.p*(P.g (S.free e)*S.T r c+(sumN P.m λk=>if k=r then 0 else P.g ((piv S r e).kept k)*(piv S r e).T k c) - S.T r e*gainC P S c):=by
   rw[qdO,qcH,t2,hC,R];generalize (sumN P.m λk=>if k=r then 0 else P.g _*S.T k e)=Y;rw[qdO,qcH,qga,qeE];rw[show S.T r e*_=P.g _*S.T r e*S.T r c by rw[qaU,qbm]];rw[show S.T r e*(S.p*gainC P S c)=S.p*_ by rw[qaU]];rw[show S.p*(P.g _*S.T r c)=S.p*P.g _*S.T r c by rw[qbm]];rw[qa9 Y];omega
  show (if c=e then _ else _ / S.p)=_;rw[iFN D,N,qes _ (by omega)];rfl
theorem Good.piv {S:Tb} (h:Good P S) {r e:Nat} (K:e<P.n) (q:r<P.m) (hq:0<S.T r e):Good P (piv S r e):=by
 refine⟨hq,?_,piv_eq h K q,piv_goal h K q⟩;show S.T r e=_;rw[h.entry (by omega) q];refine congrArg _ ?_
 funext i
 unfold basis;by_cases hi:i=r
 ·rw[hi,upd_same]
  show colV P S e=P.A (if r=r then _ else _);rw[iFP U];exact iFP K
 ·rw[upd_ne hi]
  show _=P.A (if i=r then _ else _);rw[iFN hi]
def lexP (M:Nat) (v:Nat->Int):Prop:=∃ j,j<M/\0<v j/\∀ l,l<j->v l=0
theorem lexP_congr {M:Nat}{v w:Nat->Int} (h:∀ s,s<M->v s=w s) (F:lexP M v):lexP M w:=by
 obtain⟨j,u,B,z⟩:=F;exact⟨j,u,by rw[<-h j u];exact B,λl A=>by rw[<-h l (by omega)];exact z l A⟩
theorem lexP_mul {M:Nat}{v:Nat->Int}{c:Int} (D:0<c) (F:lexP M v):lexP M λs=>c*v s:=by
 obtain⟨j,u,B,z⟩:=F;exact⟨j,u,qgb D B,λl A=>by show c*v l=0;rw[z l A,qbh]⟩
theorem lexP_unmul {M:Nat}{v:Nat->Int}{c:Int} (D:0<c) (F:lexP M λs=>c*v s):lexP M v:=by
 obtain⟨j,u,B,z⟩:=F;have h2':0<v j*c:=by rw[qa9];exact B
 refine⟨j,u,Int.pos_of_mul_pos_left h2' D,λl A=>?_⟩
 have:=z l A
 rcases qib.mp this with h|h
 ·omega
 ·exact h
theorem lexP_add {M:Nat}{v w:Nat->Int} (F:lexP M v) (hw:lexP M w):lexP M λs=>v s+w s:=by
 obtain⟨j,u,B,z⟩:=F;obtain⟨k,X,k2,W⟩:=hw;rcases Nat.lt_trichotomy j k with h|h|h
 ·exact⟨j,u,by show 0<v j+w j;rw[W j h];omega,λl A=>by show v l+w l=0;rw[z l A,W l (by omega)];rfl⟩
 ·subst h
  exact⟨j,u,by show 0<v j+w j;omega,λl A=>by show v l+w l=0;rw[z l A,W l A];rfl⟩
 ·exact⟨k,X,by show 0<v k+w k;rw[z k h];omega,λl A=>by show v l+w l=0;rw[z l (by omega),W l A];rfl⟩
theorem lexP_addn {M:Nat}{v w:Nat->Int}{c:Int} (D:0<=c) (F:lexP M v) (hw:lexP M w):lexP M λs=>v s+c*w s:=by
 rcases qeg D with h|h
 ·exact lexP_add F (lexP_mul h hw)
 ·subst h
  exact lexP_congr (λs _=>by rw[qcl,qe1]) F
theorem lexP_not0 {M:Nat}{v:Nat->Int} (h:∀ s,s<M->v s=0):¬ lexP M v:=λ⟨j,u,B,_⟩=>by rw[h j u]at B;omega
theorem lexP_first {M:Nat}{v:Nat->Int} (hM:0<M) (h:lexP M v):0<=v 0:=by
 obtain⟨j,u,B,z⟩:=h;rcases Nat.eq_zero_or_pos j with e|e
 ·subst e;omega
 ·rw[z 0 e];exact qdv _
variable (P:Pb)
def XV (s:Nat):Vec:=if s=0 then P.b else unit (s - 1)
def LV (S:Tb) (i s:Nat):Int:=det P.m (upd (basis P S) i (XV P s))
def ZV (S:Tb) (s:Nat):Int:=sumN P.m λi=>P.g (S.kept i)*LV P S i s
structure Named (S:Tb):Prop where
 one:∀ r,r<P.m->P.A (P.n+r)=unit r
 all:∀ k,k<P.n+P.m->(∃ c,c<P.n/\S.free c=k)\/∃ i,i<P.m/\S.kept i=k
 bound:(∀ c,c<P.n->S.free c<P.n+P.m)/\∀ i,i<P.m->S.kept i<P.n+P.m
def Fe (S:Tb):Prop:=∀ i,i<P.m->lexP (P.m+1) (LV P S i)
variable {P}
theorem Good.rep_free {S:Tb} (h:Good P S) {c:Nat} (D:c<=P.n) (t:Nat):S.p*colV P S c t=sumN P.m λi=>det P.m (upd (basis P S) i (colV P S c))*P.A (S.kept i) t:=by
 rw[h.eq c D t];exact sumN_congr λi hi=>by rw[h.entry D hi]
theorem det_kept {S:Tb} (h:Good P S) {i j:Nat} (hi:i<P.m) (I:j<P.m):det P.m (upd (basis P S) i (basis P S j))=if i=j then S.p else 0:=by
 by_cases e:i=j
 ·subst e;rw[upd_self,iFP U,h.dt]
 ·rw[iFN e]
  exact det_eq0 _ hi I e (by rw[upd_same,upd_ne (qbr e)])
theorem Good.rep_kept {S:Tb} (h:Good P S) {j:Nat} (I:j<P.m) (t:Nat):S.p*P.A (S.kept j) t=sumN P.m λi=>det P.m (upd (basis P S) i (P.A (S.kept j)))*P.A (S.kept i) t:=by
 rw[sumN_single I λi hi K=>?_]
 ·have:=det_kept h I I
  rw[iFP U]at this;have e:det P.m (upd _ j (P.A _))=S.p:=this;rw[e]
 ·have:=det_kept h hi I
  rw[iFN K]at this;have e:det P.m (upd _ i (P.A _))=0:=this;rw[e,qcl]
theorem Good.rep {S:Tb} (h:Good P S) (n:Named P S) {s:Nat} (G:s<P.m+1) (t:Nat):S.p*XV P s t=sumN P.m λi=>LV P S i s*P.A (S.kept i) t:=by
 unfold LV;by_cases h0:s=0
 ·subst h0
  have e:XV P 0=colV P S P.n:=by unfold XV colV;rw[iFP U,iFN (qa5 _)]
  rw[e];exact h.rep_free (qap _) t
 ·have e:XV P s=P.A (P.n+(s - 1)):=by unfold XV;rw[iFN h0,n.one _ (by omega)]
  rw[e];rcases n.all (P.n+(s - 1)) (by omega) with⟨c,D,E⟩|⟨j,I,E⟩
  ·have e2:P.A (P.n+(s - 1))=colV P S c:=by unfold colV;rw[iFP D,E]
   rw[e2];exact h.rep_free (by omega) t
  ·rw[<-E]
   exact h.rep_kept I t
theorem piv_basis {S:Tb}{r e:Nat} (p:e<P.n):basis P (piv S r e)=upd (basis P S) r (colV P S e):=by
 funext i
 unfold basis;by_cases hi:i=r
 ·rw[hi,upd_same]
  show P.A (if r=r then _ else _)=colV P S e;rw[iFP U];exact (iFP p).symm
 ·rw[upd_ne hi]
  show P.A (if i=r then _ else _)=_;rw[iFN hi]
theorem LV_r {S:Tb}{r e s:Nat} (p:e<P.n):LV P (piv S r e) r s=LV P S r s:=by
 unfold LV;rw[piv_basis p,upd_upd]
theorem LV_i {S:Tb} (h:Good P S) (n:Named P S) {r e s i:Nat} (p:e<P.n) (G:s<P.m+1) (hi:i<P.m) (o:r<P.m) (d:i≠r):S.p*LV P (piv S r e) i s=S.T r e*LV P S i s - S.T i e*LV P S r s:=by
 unfold LV;rw[piv_basis p];exact cramer2 _ _ _ S.p h.dt (by have:=h.pos;omega) _ _ (λt=>h.eq e (by omega) t) (λt=>h.rep n G t) hi o d
theorem ZV_piv {S:Tb} (h:Good P S) (n:Named P S) {r e s:Nat} (p:e<P.n) (G:s<P.m+1) (o:r<P.m):S.p*ZV P (piv S r e) s=S.T r e*ZV P S s - S.G e*LV P S r s:=by
 have hE:=h.goal e (by omega);have gE:gainC P S e=P.g _:=iFP p;rw[gE,sumN_split o]at hE;unfold ZV;have kr:(piv S r e).kept r=S.free e:=iFP U;have kn:∀ i,i≠r->(piv S r e).kept i=S.kept i:=λi hi=>iFN hi;rw[sumN_split o,kr,LV_r p,qcH];have t2:S.p*(sumN P.m λk=>if k=r then 0 else P.g ((piv S r e).kept k)*LV P (piv S r e) k s)=(sumN P.m λk=>S.T r e*(if k=r then 0 else P.g (S.kept k)*LV P S k s)) - sumN P.m λk=>LV P S r s*(if k=r then 0 else P.g (S.kept k)*S.T k e):=by
  rw[<-sumN_mul,<-sumN_sub];refine sumN_congr λk E=>?_;by_cases q:k=r
  ·rw[iFP q,iFP q,iFP q];simp
  ·rw[iFN q,iFN q,iFN q,kn k q,qaU,LV_i h n p G E o q,qdO]
   rw[qaU,qa9 (S.T k e),qaU (LV P S r s)]
 rw[t2,sumN_mul,sumN_mul,sumN_split o (λi=>P.g _*LV P S i s),hE];generalize (sumN P.m λk=>if k=r then 0 else P.g _*S.T k e)=Y;generalize LV P S r s=L;rw[qga,qeE,qcH];rw[show S.T r e*(P.g _*L)=P.g _*S.T r e*L by rw[qaU,qbm]];rw[show S.p*_=S.p*P.g _*L by rw[qbm]];rw[qa9 Y];omega
def less (P:Pb) (S S':Tb):Prop:=lexP (P.m+1) λs=>S.p*ZV P S' s - S'.p*ZV P S s
theorem less_trans {S1 S2 S3:Tb} (u:0<S1.p) (B:0<S2.p) (z:0<S3.p) (a:less P S1 S2) (b:less P S2 S3):less P S1 S3:=by
 refine lexP_unmul B (lexP_congr (λs _=>?_) (lexP_add (lexP_mul u b) (lexP_mul z a)));generalize ZV P S1 s=x;generalize ZV P S2 s=y;rw[qdO,qdO,qdO];rw[show S1.p*(S3.p*y)=S3.p*_ by rw[qaU],show S1.p*_=S2.p*_ by rw[qaU],show S3.p*(S2.p*x)=S2.p*_ by rw[qaU]];omega
theorem same_kept {S S':Tb} (h:Good P S) (h':Good P S') (e:∀ i,i<P.m->S.kept i=S'.kept i):S.p=S'.p/\∀ s,ZV P S s=ZV P S' s:=by
 have hb:∀ i,i<P.m->basis P S i=basis P S' i:=λi hi=>by unfold basis;rw[e i hi]
 have hL:∀ i s,i<P.m->LV P S i s=LV P S' i s:=λi s hi=>by
  refine det_congr P.m λk t E _=>?_;by_cases O:k=i
  ·rw[O,upd_same,upd_same]
  ·rw[upd_ne O,upd_ne O,hb k E]
 refine⟨?_,λs=>?_⟩
 ·rw[h.dt,h'.dt]
  exact det_congr P.m λk t E _=>by rw[hb k E]
 ·exact sumN_congr λi hi=>by rw[e i hi,hL i s hi]
theorem less_kept {S S':Tb} (h:Good P S) (h':Good P S') (l:less P S S'):¬ ∀ i,i<P.m->S.kept i=S'.kept i:=λe=>by
 obtain⟨H,e2⟩:=same_kept h h' e;refine lexP_not0 (λs _=>?_) l;rw[H,e2 s];omega
theorem lines_unlike {S:Tb} (h:Good P S) (hA:∀ i,i<P.m->∀ t,P.m<=t->P.A (S.kept i) t=0) {i r:Nat} (hi:i<P.m) (o:r<P.m) (d:i≠r) {a b:Int} (ha:0<a) (G:∀ s,s<P.m+1->a*LV P S i s=b*LV P S r s):False:=by
 have Q:∀ k,k<P.m->det P.m _=sumN P.m λs=>basis P S i s*LV P S k (s+1):=λk E=>by
  have e:basis P S i=λt=>sumN P.m λs=>basis P S i s*unit s t:=by
   funext t
   by_cases ht:t<P.m
   ·rw[sumN_single ht λs _ K=>by unfold unit;rw[iFN (qbr K),qbh]]
    unfold unit;rw[iFP U,qdu]
   ·rw[sumN_congr λs T=>by unfold unit;rw[iFN (by omega),qbh],sumN_zero]
    exact hA i hi t (by omega)
  have e2:=det_sum (basis P S) E (λs=>basis P S i s) unit P.m;rw[<-e]at e2;rw[e2];refine sumN_congr λs T=>?_;unfold LV XV;rw[iFN (by omega),qc5]
 have X:=Q i hi;have k2:=Q r o;rw[det_kept h hi hi,iFP U]at X;rw[det_kept h o hi,iFN (qbr d)]at k2
 have:a*S.p=b*0:=by
  rw[X,k2,<-sumN_mul,<-sumN_mul];refine sumN_congr λs T=>?_;rw[qaU,G _ (by omega),qaU]
 have:=qgb ha h.pos
 omega
theorem Named.piv {S:Tb} (n:Named P S) {r e:Nat} (p:e<P.n) (o:r<P.m):Named P (piv S r e):=by
 refine⟨n.one,λk E=>?_,λc D=>?_,λi hi=>?_⟩
 ·rcases n.all k E with⟨c,D,H⟩|⟨i,hi,H⟩
  ·by_cases R:c=e
   ·subst R;exact .inr ⟨r,o,by show (if r=r then _ else _)=_;rw[iFP U];exact H⟩
   ·exact .inl ⟨c,D,by show (if c=e then _ else _)=_;rw[iFN R];exact H⟩
  ·by_cases d:i=r
   ·subst d;exact .inl ⟨e,p,by show (if e=e then _ else _)=_;rw[iFP U];exact H⟩
   ·exact .inr ⟨i,hi,by show (if i=r then _ else _)=_;rw[iFN d];exact H⟩
 ·show (if c=e then _ else _)<_
  split
  ·exact n.bound.2 r o
  ·exact n.bound.1 c D
 ·show (if i=r then _ else _)<_
  split
  ·exact n.bound.1 e p
  ·exact n.bound.2 i hi
theorem step {S:Tb} (h:Good P S) (n:Named P S) (J:Fe P S) {r e:Nat} (p:e<P.n) (o:r<P.m) (hq:0<S.T r e) (hg:S.G e<0)
  (V:∀ i,i<P.m->i≠r->0<S.T i e->lexP (P.m+1) λs=>S.T r e*LV P S i s - S.T i e*LV P S r s) :
  Good P (piv S r e)/\Named P (piv S r e)/\Fe P (piv S r e)/\less P S (piv S r e):=by
 refine⟨h.piv p o hq,n.piv p o,λi hi=>?_,?_⟩
 ·by_cases d:i=r
  ·subst d
   exact lexP_congr (λs _=>(LV_r p).symm) (J i hi)
  ·refine lexP_unmul h.pos (lexP_congr (λs G=>(LV_i h n p G hi o d).symm) ?_)
   by_cases ht:0<S.T i e
   ·exact V i hi d ht
   ·refine lexP_congr (λs _=>?_) (lexP_addn (c:=- S.T i e) (by omega) (lexP_mul hq (J i hi)) (J r o))
    rw[qdN];omega
 ·refine lexP_congr (λs G=>?_) (lexP_mul (c:=- S.G e) (by omega) (J r o))
  show - S.G e*LV P S r s=S.p*ZV P _ s - S.T r e*ZV P S s;rw[ZV_piv h n p G o,qdN];omega
theorem filt_len (N:Nat):∀ l:List Nat,(l.filter λx=>decide (x=N)).length+(l.filter λx=>decide (x≠N)).length=l.length
 |[]=>rfl
 |x::l=>by
  have ih:=filt_len N l;by_cases h:x=N
  ·rw[qew (by simpa using h),qex (by simpa using h),qar,qar];omega
  ·rw[qex (by simpa using h),qew (by simpa using h),qar,qar];omega
theorem nodup_le:∀ (N:Nat) (l:List Nat),l.Nodup->(∀ x∈l,x<N)->l.length<=N:=by
 intro N
 induction N with
 |zero=>
  intro l _ h;cases l with
  |nil=>exact qap _
  |cons x l=>exact absurd (h x qag) (by omega)
 |succ N ih=>
  intro l A h;have u:=ih (l.filter λx=>decide (x≠N)) (A.filter _) λx hx=>by
   have:=qbK.mp hx
   have B:=h x this.1;have z:=by simpa using this.2
   omega
  have B:(l.filter λx=>decide (x=N)).length<=1:=by
   have n:=A.filter λx=>decide (x=N);have C:∀ x∈l.filter (λx=>decide (x=N)),x=N:=λx hx=>by simpa using (qbK.mp hx).2
   match l.filter _,n,C with
   |[],_,_=>exact qcc _
   |[x],_,_=>exact qap _
   |x::y::r,n,C=>
    exact absurd ((C x qag).trans (C y (qak _ qag)).symm) ((qbi.mp n).1 y qag)
  have z:=filt_len N l;omega
def code (b:Nat) (f:Nat->Nat):Nat->Nat
 |0=>0
 |m+1=>code b f m*b+f m
theorem code_lt {b:Nat}{f:Nat->Nat}:∀ {m:Nat},(∀ i,i<m->f i<b)->code b f m<b^m
 |0,_=>Nat.one_pos
 |m+1,h=>by
  have u:=h m (by omega)
  calc code b f m*b+f m<code b f m*b+b:=by omega
   _=(code b f m+1)*b:=by rw[qjY,qjX]
   _<=b^m*b:=qcQ b (code_lt λi hi=>h i (by omega))
theorem code_inj {b:Nat}{f g:Nat->Nat}:∀ {m:Nat},(∀ i,i<m->f i<b)->(∀ i,i<m->g i<b)->code b f m=code b g m->∀ i,i<m->f i=g i
 |0,_,_,_,i,hi=>absurd hi (by omega)
 |m+1,J,hg,e,i,hi=>by
  rw[code,code]at e;have B:=hg m (by omega);have H:=by
   have:=congrArg (·%b) e
   simp only[Nat.mul_add_mod_self_right]at this;rw[qhS (J m (by omega)),qhS B]at this;exact this
  have e2:code b f m=code b g m:=by
   exact Nat.eq_of_mul_eq_mul_right (by omega:0<b) (by omega)
  by_cases him:i=m
  ·rw[him];exact H
  ·exact code_inj (λi hi=>J i (by omega)) (λi hi=>hg i (by omega)) e2 i (by omega)
def leastR (tops bots:Nat->Int):List Nat->List Nat->List Nat
 |[],least=>least
 |p::ps,[]=>leastR tops bots ps [p]
 |p::ps,m::r=>if tops p*bots m > tops m*bots p then leastR tops bots ps (m::r) else if tops p*bots m<tops m*bots p then leastR tops bots ps [p] else leastR tops bots ps ((m::r)++[p])
structure Least (tops bots:Nat->Int) (ps out:List Nat):Prop where
 ne:ps≠[]->out≠[]
 sub:∀ x∈out,x∈ps
 nd:ps.Nodup->out.Nodup
 eq:∀ x∈out,∀ y∈out,tops x*bots y=tops y*bots x
 lt:∀ x∈out,∀ y∈ps,y∉out->tops x*bots y<tops y*bots x
theorem ratio_lt {a b c p q r:Int} (Y:0<p) (hq:0<q) (T:0<r) (B:a*q<b*p) (R:b*r<=c*q):a*r<c*p:=by
 have D:=qd5 B T;have e2:b*r*p<=c*q*p:=qbj R (by omega);rw[qbl b p r]at D;have e3:a*r*q<c*p*q:=by rw[qbl a r q,qbl c p q];omega
 exact qeb e3 (by omega)
theorem leastR_ok {tops bots:Nat->Int}:∀ (ps done least:List Nat),(∀ x∈done++ps,0<bots x)->(done++ps).Nodup->Least tops bots done least->Least tops bots (done++ps) (leastR tops bots ps least):=by
 intro ps
 induction ps with
 |nil=>intro done least _ _ h;rw[qcg];cases least<;>exact h
 |cons p ps E=>
  intro done least hb n h;have Y:=hb p (qax _ qag);have hpd:=λw=>by
   rw[qcs]at n;exact n.2.2 p w p qag U
  have e:done++p::ps=(done++[p])++ps:=by simp
  have H:=(qcs.mp n).1;rw[e]at hb n ⊢;cases least with
  |nil=>
   have hd:done=[]:=by
    cases done with
    |nil=>rfl
    |cons x d=>exact absurd U (h.ne (by simp))
   subst hd;refine E _ _ hb n ⟨λ_=>by simp,λx f=>by simpa using f,λ_=>by simp,λx f y g=>?_,λx f y g z=>absurd (by simpa using g) (by simpa using z)⟩;rw[qal.mp f,qal.mp g]
  |cons m r=>
   have u:m∈m::r:=qag;have hb0:=hb m (qaS _ (qaS _ (h.sub m u)));have Q:=λy g=>hb y (qaS _ (qaS _ g));rw[leastR];by_cases c1:tops p*bots m > tops m*bots p
   ·rw[iFP c1]
    refine E _ _ hb n ⟨λ_=>by simp,λx f=>qaS _ (h.sub x f),λ_=>h.nd H,h.eq,λx f y g z=>?_⟩;rcases qaG.mp g with g|g
    ·exact h.lt x f y g z
    ·rw[qal.mp g]
     exact Int.lt_of_lt_of_le (by
      have D:tops x*bots m*bots p=tops m*bots p*bots x:=by rw[<-(h.eq m u x f),qbl]
      have e3:tops x*bots p*bots m<tops p*bots x*bots m:=by rw[qbl,D,qbl (tops p)];exact (qd5 c1 (Q x (h.sub x f)))
      exact qeb e3 (by omega)) (qdv _)
   ·rw[iFN c1]
    by_cases c2:tops p*bots m<tops m*bots p
    ·rw[iFP c2]
     refine E _ _ hb n ⟨λ_=>by simp,λx f=>by rw[qal.mp f];simp,λ_=>by simp,λx f y g=>by rw[qal.mp f,qal.mp g],λx f y g z=>?_⟩;rw[qal.mp f];rcases qaG.mp g with g|g
     ·have hle:tops m*bots y<=tops y*bots m:=by
       by_cases w:y∈m::r
       ·exact Int.le_of_eq (h.eq m u y w)
       ·exact qgW (h.lt m u y g w)
      exact ratio_lt Y hb0 (Q y g) c2 hle
     ·exact absurd (by simpa using g) (by simpa using z)
    ·rw[iFN c2]
     have F:tops p*bots m=tops m*bots p:=by omega
     have I:=λx f=>by
      have D:tops p*bots x*bots m=tops x*bots p*bots m:=by
       rw[qbl,F,qbl,(h.eq m u x f),qbl]
      exact qed (by omega) D
     refine E _ _ hb n ⟨λ_=>by simp,λx f=>?_,λ_=>?_,λx f y g=>?_,λx f y g z=>?_⟩
     ·rcases qaG.mp f with f|f
      ·exact qaS _ (h.sub x f)
      ·exact qax _ f
     ·rw[qcs]
      refine⟨h.nd H,by simp,λx f y g e=>?_⟩;rw[qal.mp g]at e;rw[e]at f;exact hpd (h.sub p f)
     ·rcases qaG.mp f with f|f<;>rcases qaG.mp g with g|g
      ·exact h.eq x f y g
      ·rw[qal.mp g];exact (I x f).symm
      ·rw[qal.mp f];exact I y g
      ·rw[qal.mp f,qal.mp g]
     ·have K:y∈done:=by
       rcases qaG.mp g with g|g
       ·exact g
       ·exact absurd (qax _ g) z
      have O:=λw=>z (qaS _ w);rcases qaG.mp f with f|f
      ·exact h.lt x f y K O
      ·rw[qal.mp f]
       have D:tops p*bots y*bots m<tops y*bots p*bots m:=by
        rw[qbl,F,qbl _,qbl (tops y)];exact qd5 (h.lt m u y K O) Y
       exact qeb D (by omega)
theorem least_of {tops bots:Nat->Int}{ps:List Nat} (hb:∀ x∈ps,0<bots x) (n:ps.Nodup):Least tops bots ps (leastR tops bots ps []):=by
 simpa using (leastR_ok ps [] [] (by simpa using hb) (by simpa using n) ⟨λh=>absurd U h,λx f=>(nomatch f),λ_=>qcW,λx f=>(nomatch f),λx f=>(nomatch f)⟩)
def leaveL (W:Nat->Nat->Int) (bots:Nat->Int):List Nat->List Nat->List Nat
 |[],ps=>ps
 |s::ss,ps=>if ps.length<2 then ps else leaveL W bots ss (leastR (W s) bots ps [])
structure Lv (W:Nat->Nat->Int) (bots:Nat->Int) (C:List Nat) (s:Nat) (ps:List Nat):Prop where
 ne:ps≠[]
 nd:ps.Nodup
 sub:∀ x∈ps,x∈C
 eq:∀ x∈ps,∀ y∈ps,∀ l,l<s->bots x*W l y - bots y*W l x=0
 lt:∀ x∈ps,∀ y∈C,y∉ps->lexP s λl=>bots x*W l y - bots y*W l x
theorem lexP_mono {M N:Nat}{v:Nat->Int} (h:M<=N) (hv:lexP M v):lexP N v:=let ⟨j,B,R,o⟩:=hv;⟨j,by omega,R,o⟩
theorem Lv.step {W:Nat->Nat->Int}{bots:Nat->Int}{C ps:List Nat}{s:Nat} (hb:∀ x∈C,0<bots x) (h:Lv W bots C s ps):Lv W bots C (s+1) (leastR (W s) bots ps []):=by
 have L:=least_of (tops:=W s) (λx f=>hb x (h.sub x f)) h.nd;refine⟨L.ne h.ne,L.nd h.nd,λx f=>h.sub x (L.sub x f),λx f y g l A=>?_,λx f y g z=>?_⟩
 ·rcases qfI l s with B|B
  ·exact h.eq x (L.sub x f) y (L.sub y g) l B
  ·have:l=s:=by omega
   subst this
   have:=L.eq y g x f
   rw[qa9 _,qa9 (bots y)];omega
 ·by_cases w:y∈ps
  ·have A:=L.lt x f y w z
   refine⟨s,by omega,?_,λl V=>h.eq x (L.sub x f) y w l V⟩;show 0<bots x*W s y - bots y*W s x;rw[qa9 _,qa9 (bots y)];omega
  ·exact lexP_mono (by omega) (h.lt x (L.sub x f) y g w)
theorem leaveL_ok {W:Nat->Nat->Int}{bots:Nat->Int}{C:List Nat} (hb:∀ x∈C,0<bots x):∀ (k s:Nat) (ps:List Nat),Lv W bots C s ps->∃ s',s<=s'/\s'<=s+k/\Lv W bots C s' (leaveL W bots ((qan k).map λj=>s+j) ps)/\(s'<s+k->(leaveL W bots ((qan k).map λj=>s+j) ps).length<2):=by
 intro k
 induction k with
 |zero=>intro s ps h;exact⟨s,qap _,qap _,h,λh=>absurd h (by omega)⟩
 |succ k E=>
  intro s ps h;have e:(qan (k+1)).map (λj=>s+j)=s::(qan k).map λj=>(s+1)+j:=by
   rw[qdG,qas,qaC]
   congr 1
   refine qbe λj _=>?_;show s+_=_;omega
  rw[e,leaveL];by_cases A:ps.length<2
  ·rw[iFP A]
   exact⟨s,qap _,by omega,h,λ_=>A⟩
  ·rw[iFN A]
   obtain⟨s',B,R,o,h4⟩:=E _ _ (h.step hb);exact⟨s',by omega,by omega,o,λh=>h4 (by omega)⟩
variable {P:Pb}
theorem leaving_ok {S:Tb} (h:Good P S) (hA:∀ i,i<P.m->∀ t,P.m<=t->P.A (S.kept i) t=0) {e:Nat}{C:List Nat} (J:∀ i,i∈C↔i<P.m/\0<S.T i e) (z:C.Nodup) (hne:C≠[]) :
  ∃ r,leaveL (λs i=>LV P S i s) (λi=>S.T i e) ((qan (P.m+1)).map λj=>0+j) C=[r]/\r<P.m/\0<S.T r e/\∀ i,i<P.m->i≠r->0<S.T i e->lexP (P.m+1) λs=>S.T r e*LV P S i s - S.T i e*LV P S r s:=by
 obtain⟨s',B,R,o,h4⟩:=leaveL_ok (λx f=>((J x).mp f).2) _ 0 C ⟨hne,z,λx f=>f,λx _ y _ l A=>absurd A (by omega),λx _ y g w=>absurd g w⟩;generalize leaveL _ _ _ C=out at o h4;have G:out.length<2:=by
  rcases qfI out.length 2 with A|A
  ·exact A
  ·exfalso
   match out,A,o with
   |x::y::r,_,o=>
    have f:=(J x).mp (o.sub x qag)
    refine lines_unlike h hA ((J y).mp (o.sub y (qak _ qag))).1 f.1 (qbr (λe=>by
     have:=(qbi.mp o.nd).1 y qag
     exact this e)) (b:=S.T y e) f.2 λs hs'=>?_
    have:=o.eq x qag y (qak _ qag) s (by omega)
    omega
 match out,G,o with
 |[],_,o=>exact absurd U o.ne
 |[r],_,o=>
  have T:=(J r).mp (o.sub r qag);refine⟨r,U,T.1,T.2,λi hi X hT=>?_⟩;exact lexP_mono (by omega) (o.lt r qag i ((J i).mpr ⟨hi,hT⟩) (by simpa using X))
variable {P:Pb}
theorem sumN_swap (n m:Nat) (f:Nat->Nat->Int):(sumN n λi=>sumN m λk=>f i k)=sumN m λk=>sumN n λi=>f i k:=by
 induction n with
 |zero=>exact (sumN_zero m).symm
 |succ n K=>
  rw[sumN,K];rw[<-sumN_add];rfl
theorem sumN_nonneg {n:Nat}{f:Nat->Int} (h:∀ k,k<n->0<=f k):0<=sumN n f:=by
 induction n with
 |zero=>exact qdv _
 |succ n K=>rw[sumN];have:=K λk p=>h k (by omega);have:=h n (by omega);omega
theorem sumN_append (a b:Nat) (f:Nat->Int):sumN (a+b) f=sumN a f+sumN b λk=>f (a+k):=by
 induction b with
 |zero=>rw[sumN];simp
 |succ b K=>rw[<-Nat.add_assoc,sumN,sumN];omega
theorem sumN_right (n:Nat) (c:Int) (f:Nat->Int):sumN n (λk=>f k*c)=sumN n f*c:=by
 rw[qa9,<-sumN_mul];exact sumN_congr λk _=>qa9 _ _
def byName (P:Pb) (S:Tb) (y:Nat->Int) (k:Nat):Int:=sumN P.m λi=>if S.kept i=k then y i else 0
theorem byName_sum (S:Tb) (y:Nat->Int) {N:Nat} (hN:∀ i,i<P.m->S.kept i<N) (f:Nat->Int):(sumN N λk=>byName P S y k*f k)=sumN P.m λi=>y i*f (S.kept i):=by
 have e:(sumN N λk=>byName P S y k*f k)=sumN N λk=>sumN P.m λi=>_*f k:=sumN_congr λk _=>(sumN_right _ _ _).symm;rw[e,sumN_swap];refine sumN_congr λi hi=>?_;rw[sumN_single (hN i hi) λk _ d=>by rw[iFN (qbr d),qcl],iFP U]
theorem byName_nonneg {S:Tb}{y:Nat->Int} (h:∀ i,i<P.m->0<=y i) (k:Nat):0<=byName P S y k:=sumN_nonneg λi hi=>by split;exact h i hi;exact qdv _
theorem byName_at {S:Tb}{y:Nat->Int} (E:∀ i j,i<P.m->j<P.m->S.kept i=S.kept j->i=j) {i:Nat} (hi:i<P.m):byName P S y (S.kept i)=y i:=by
 unfold byName;rw[sumN_single hi λj F d=>iFN λe=>d (E j i F hi e),iFP U]
theorem byName_not {S:Tb}{y:Nat->Int}{k:Nat} (h:∀ i,i<P.m->S.kept i≠k):byName P S y k=0:=by
 unfold byName;rw[sumN_congr λi hi=>iFN (h i hi),sumN_zero]
theorem unit_sum {m:Nat}{v:Vec}{r:Nat} (u:r<m):(sumN m λk=>v k*unit k r)=v r:=by
 rw[sumN_single u λk _ d=>by unfold unit;rw[iFN (qbr d),qbh]];unfold unit;rw[iFP U,qdu]
theorem amounts_ok {S:Tb} (h:Good P S) (o:Named P S) (V:∀ i,i<P.m->0<=S.T i P.n) {r:Nat} (u:r<P.m):(sumN P.n λj=>byName P S (λi=>S.T i P.n) j*P.A j r)<=S.p*P.b r:=by
 have z:=h.eq P.n (qap _) r;have c1:colV P S P.n=P.b:=by unfold colV;rw[iFN (qa5 _)]
 rw[c1]at z;have e2:=byName_sum S (λi=>S.T i P.n) o.bound.2 λk=>P.A k r;rw[sumN_append]at e2;have e3:(sumN P.m λk=>byName P S (λi=>S.T i P.n) (P.n+k)*P.A (P.n+k) r)=byName P S (λi=>S.T i P.n) (P.n+r):=by
  rw[sumN_congr λk p=>by rw[o.one k p]];exact unit_sum u
 have e4:=byName_nonneg (S:=S) V (P.n+r);omega
theorem gains_amounts {S:Tb} (h:Good P S) (o:Named P S) (hg:∀ r,r<P.m->P.g (P.n+r)=0):(sumN P.n λj=>byName P S (λi=>S.T i P.n) j*P.g j)=S.G P.n:=by
 have e2:=byName_sum S (λi=>S.T i P.n) o.bound.2 P.g;rw[sumN_append,sumN_congr (n:=P.m) λk p=>by rw[hg k p,qbh],sumN_zero,qe1]at e2;rw[e2,h.goal P.n (qap _)]
 have:gainC P S P.n=0:=by unfold gainC;rw[iFN (qa5 _)]
 rw[this,qbh,qfM];exact sumN_congr λi _=>qa9 _ _
theorem det_by_units {S:Tb}{v:Vec} (R:∀ t,P.m<=t->v t=0) {i:Nat} (hi:i<P.m):det P.m (upd (basis P S) i v)=sumN P.m λs=>v s*LV P S i (s+1):=by
 have e:=by
  funext t
  by_cases w:t<P.m
  ·exact (unit_sum (v:=v) w).symm
  ·rw[sumN_congr λs M=>by unfold unit;rw[iFN (by omega),qbh],sumN_zero]
   exact R t (by omega)
 have e2:=det_sum (basis P S) hi (λs=>v s) unit P.m;rw[<-e]at e2;rw[e2];refine sumN_congr λs M=>?_;unfold LV XV;rw[iFN (by omega),qc5]
theorem prices_col {S:Tb}{v:Vec} (R:∀ t,P.m<=t->v t=0):(sumN P.m λr=>v r*ZV P S (r+1))=sumN P.m λi=>P.g (S.kept i)*det P.m (upd (basis P S) i v):=by
 have e:(sumN P.m λr=>v r*ZV P S (r+1))=sumN P.m λr=>sumN P.m λi=>P.g _*_:=sumN_congr λr _=>by
  unfold ZV;rw[<-sumN_mul];exact sumN_congr λi _=>by rw[qaU]
 rw[e,sumN_swap];refine sumN_congr λi hi=>?_;rw[sumN_mul,det_by_units R hi]
theorem prices_ok {S:Tb} (h:Good P S) (o:Named P S) (hA:∀ k,k<P.n+P.m->∀ t,P.m<=t->P.A k t=0) (J:∀ c,c<P.n->0<=S.G c) {j:Nat} (F:j<P.n):S.p*P.g j<=sumN P.m λr=>P.A j r*ZV P S (r+1):=by
 rw[prices_col (hA j (by omega))];rcases o.all j (by omega) with⟨c,x,e⟩|⟨i,hi,e⟩
 ·have z:=h.goal c (by omega)
  have H:gainC P S c=P.g j:=by unfold gainC;rw[iFP x,e]
  have c1:colV P S c=P.A j:=by unfold colV;rw[iFP x,e]
  rw[H]at z;rw[(sumN_congr λi hi=>by rw[<-c1,<-h.entry (by omega) hi])]
  have:=J c x
  omega
 ·rw[sumN_single hi λk p d=>?_]
  ·have:=det_kept h hi hi
   rw[iFP U]at this;have e2:det P.m (upd (basis P S) i (P.A j))=S.p:=by rw[<-e];exact this
   rw[e2,e,qa9];exact qdv _
  ·have:=det_kept h p hi
   rw[iFN d]at this;have e2:det P.m (upd (basis P S) k (P.A j))=0:=by rw[<-e];exact this
   rw[e2,qbh]
theorem bounds_prices {S:Tb} (h:Good P S) (hb:∀ t,P.m<=t->P.b t=0):(sumN P.m λr=>P.b r*ZV P S (r+1))=S.G P.n:=by
 have c1:colV P S P.n=P.b:=by unfold colV;rw[iFN (qa5 _)]
 have:gainC P S P.n=0:=by unfold gainC;rw[iFN (qa5 _)]
 rw[prices_col hb,h.goal P.n (qap _),this,qbh,qfM];exact sumN_congr λi hi=>by rw[h.entry (qap _) hi,c1]
theorem price_free {S:Tb} (h:Good P S) (o:Named P S) (hg:∀ r,r<P.m->P.g (P.n+r)=0) {r c:Nat} (u:r<P.m) (x:c<P.n) (e:S.free c=P.n+r):ZV P S (r+1)=S.G c:=by
 have H:gainC P S c=0:=by unfold gainC;rw[iFP x,e,hg r u]
 have c1:colV P S c=unit r:=by unfold colV;rw[iFP x,e,o.one r u]
 rw[h.goal c (by omega),H,qbh,qfM];refine sumN_congr λi hi=>?_;rw[h.entry (by omega) hi,c1];unfold LV XV;rw[iFN (by omega),qc5]
theorem price_kept {S:Tb} (h:Good P S) (o:Named P S) (hg:∀ r,r<P.m->P.g (P.n+r)=0) {r j:Nat} (u:r<P.m) (F:j<P.m) (e:S.kept j=P.n+r):ZV P S (r+1)=0:=by
 unfold ZV;rw[sumN_single F λk p d=>?_]
 ·rw[e,hg r u,qcl]
 ·have:=det_kept h p F
  rw[iFN d]at this;have e2:LV P S k (r+1)=0:=by
   unfold LV XV;rw[qc5,<-o.one r u,<-e];exact this
  rw[e2,qbh]
def wayN (P:Pb) (S:Tb) (e k:Nat):Int:=byName P S (λi=>- S.T i e) k+if S.free e=k then S.p else 0
theorem way_sum {S:Tb} (o:Named P S) {e:Nat} (B:e<P.n) (f:Nat->Int):(sumN (P.n+P.m) λk=>wayN P S e k*f k)=S.p*f (S.free e) - sumN P.m λi=>S.T i e*f (S.kept i):=by
 have e2:(sumN (P.n+P.m) λk=>(if S.free e=k then S.p else 0)*f k)=S.p*f (S.free e):=by
  rw[sumN_single (o.bound.1 e B) λk _ d=>by rw[iFN (qbr d),qcl],iFP U]
 rw[(sumN_congr λk _=>by unfold wayN;rw[qeE]),sumN_add,(byName_sum S _ o.bound.2 f)];have e4:(sumN P.m λi=>- S.T i e*f (S.kept i))=- sumN P.m λi=>S.T i e*f (S.kept i):=by
  have:(sumN P.m λi=>- S.T i e*f (S.kept i))=sumN P.m λi=>(-1)*_:=sumN_congr λi _=>by rw[qdN,qdN,qcG]
  rw[this,sumN_mul];omega
 omega
theorem way_nonneg {S:Tb} (h:Good P S) {e:Nat} (w:∀ i,i<P.m->S.T i e<=0) (k:Nat):0<=wayN P S e k:=by
 unfold wayN
 have:=byName_nonneg (S:=S) (λi hi=>by have:=w i hi;show 0<=- S.T i e;omega) k
 have:=h.pos
 split<;>omega
theorem way_rows {S:Tb} (h:Good P S) (o:Named P S) {e:Nat} (B:e<P.n) (w:∀ i,i<P.m->S.T i e<=0) {r:Nat} (u:r<P.m):(sumN P.n λk=>wayN P S e k*P.A k r)<=0:=by
 have z:=way_sum o B λk=>P.A k r;have e2:=h.eq e (by omega) r;have c1:colV P S e=P.A (S.free e):=by unfold colV;rw[iFP B]
 rw[c1]at e2;rw[sumN_append]at z;have e3:(sumN P.m λk=>wayN P S e (P.n+k)*P.A (P.n+k) r)=wayN P S e (P.n+r):=by
  rw[sumN_congr λk p=>by rw[o.one k p]];exact unit_sum u
 have:=way_nonneg h w (P.n+r)
 omega
theorem way_gains {S:Tb} (h:Good P S) (o:Named P S) (hg:∀ r,r<P.m->P.g (P.n+r)=0) {e:Nat} (B:e<P.n) (J:S.G e<0):0<sumN P.n λk=>wayN P S e k*P.g k:=by
 have z:=way_sum o B P.g;rw[sumN_append,sumN_congr (n:=P.m) λk p=>by rw[hg k p,qbh],sumN_zero,qe1]at z;have e2:=h.goal e (by omega);have H:gainC P S e=P.g (S.free e):=by unfold gainC;rw[iFP B]
 rw[H]at e2;rw[z,(sumN_congr λi _=>qa9 _ _)];omega
def tb0 (P:Pb) (T:Nat->Nat->Int) (G:Nat->Int):Tb:=⟨1,λi=>P.n+i,λc=>c,T,G⟩
theorem good0 {T:Nat->Nat->Int}{G:Nat->Int} (L:∀ r,r<P.m->P.A (P.n+r)=unit r) (hA:∀ k,k<P.n->∀ t,P.m<=t->P.A k t=0) (hb:∀ t,P.m<=t->P.b t=0) (hg:∀ r,r<P.m->P.g (P.n+r)=0)
  (V:∀ i c,i<P.m->c<P.n->T i c=P.A c i) (hL:∀ i,i<P.m->T i P.n=P.b i) (J:∀ c,c<P.n->G c=- P.g c) (X:G P.n=0):Good P (tb0 P T G)/\Named P (tb0 P T G)/\((∀ t,t<P.m->0<=P.b t)->Fe P (tb0 P T G)):=by
 have A:∀ i,i<P.m->basis P (tb0 P T G) i=unit i:=λi hi=>L i hi;have I:det P.m (basis P (tb0 P T G))=1:=by
  rw[det_congr P.m λk t p _=>by rw[A k p],det_unit]
 have Y:∀ c,c<=P.n->∀ t,_*colV P (tb0 P T G) c t=sumN P.m λi=>T i c*P.A _ t:=λc x t=>by
  rw[qcG,sumN_congr λi hi=>by rw[L i hi]];have C:∀ t',P.m<=t'->colV P (tb0 P T G) c t'=0:=λt' D=>by
   unfold colV;by_cases g:c<P.n
   ·rw[iFP g];exact hA c g t' D
   ·rw[iFN g];exact hb t' D
  by_cases w:t<P.m
  ·rw[unit_sum w]
   unfold colV;by_cases g:c<P.n
   ·rw[iFP g,V t c w g];rfl
   ·have:c=P.n:=by omega
    subst this;rw[iFN g,hL t w]
  ·rw[C t (by omega),sumN_congr λi hi=>by unfold unit;rw[iFN (by omega),qbh],sumN_zero]
 have q:Good P (tb0 P T G):=by
  refine⟨by show _<1;decide,I.symm,Y,λc x=>?_⟩;show G c=(sumN P.m λi=>P.g (P.n+i)*T i c) - 1*gainC P _ c;rw[sumN_congr λi hi=>by rw[hg i hi,qcl],sumN_zero];unfold gainC;by_cases g:c<P.n
  ·rw[iFP g,J c g]
   show - P.g c=0 - 1*P.g c;omega
  ·have:c=P.n:=by omega
   subst this;rw[iFN g,X];rfl
 refine⟨q,⟨L,λk p=>?_,λc x=>by show c<_;omega,λi hi=>by show P.n+i<_;omega⟩,λQ i hi=>?_⟩
 ·by_cases W:k<P.n
  ·exact .inl ⟨k,W,U⟩
  ·exact .inr ⟨k - P.n,by omega,by show P.n+_=k;omega⟩
 ·have l0:LV P (tb0 P T G) i 0=P.b i:=by
   have e:=q.entry (qap _) hi;have c1:colV P (tb0 P T G) P.n=P.b:=by unfold colV;rw[iFN (qa5 _)]
   rw[c1]at e;unfold LV XV;rw[iFP U,<-e];exact hL i hi
  have ls:∀ s,s<P.m->LV P _ i _=if i=s then 1 else 0:=λs hs=>by
   have:=det_kept q hi hs
   unfold LV XV;rw[qc5,<-A s hs];exact this
  rcases qeg (Q i hi) with O|O
  ·exact⟨0,by omega,by rw[l0];exact O,λl hl=>absurd hl (by omega)⟩
  ·refine⟨i+1,by omega,by rw[ls i hi,iFP U];decide,λl hl=>?_⟩
   cases l with
   |zero=>rw[l0,<-O]
   |succ l=>rw[ls l (by omega),iFN (by omega)]
end Sx
set_option maxHeartbeats 1000000
namespace Own
open PySem L2
open Sx (Pb Tb Good Named Fe LV ZV piv lexP leastR leaveL sumN unit colV basis)
theorem dA {e:Ef}{z:Int}{m:Nat}{env:Ev}{st s:Sto} (a:e env st=some (.d (.int z),s)) (c:0<=z) (f:z<=1000) (g:z.toNat=m):bi (aa e ac) env st=some (bh 0 m,s):=by
 have hb:-(2^62)<=z/\z<2^62:=⟨qeh (by decide) c,qhv f (by decide)⟩;simp only[bi,(ab (b:=ac) a U),qaa,hb,and_self,if_true,g]
theorem aL {f:Ef}{env:Ev}{st s:Sto}{ds:List D} (h:f env st=some (.d (.lst ds),s)):ar f env st=some (ds,s):=by
 simp only[ar,h,qaa,dQ,qaj]
theorem bv {f:Ef}{env:Ev}{st s:Sto}{ds:List D} (h:f env st=some (.d (.tup ds),s)):ar f env st=some (ds,s):=by
 simp only[ar,h,qaa,dQ,qaj]
theorem si {c:Tf}{a b:Ef}{env:Ev}{st s:Sto}{r:Option (W×Sto)} (h:c env st=some (true,s)) (d:a env s=r):jO c a b env st=r:=by
 simp only[jO,h,qaa,if_true,d]
theorem wf {c:Tf}{a b:Ef}{env:Ev}{st s:Sto}{r:Option (W×Sto)} (h:c env st=some (false,s)) (hb:b env s=r):jO c a b env st=r:=by
 simp only[jO,h,qaa,qa8,if_false,hb]
theorem Eg (s:Sto) (ns:List Int):jt s [.d (.lst (ns.map D.int))]=some (.int ns.sum):=by
 show (aW _).map _=_;rw[bu];rfl
theorem Ed (s:Sto) {a b:Int} (h:0<=b):Ca s (.d (.int a)) (.d (.int b))=some (.int (a / 2^b.toNat)):=iFP h
theorem eO (s:Sto) (a b:Int):dEq s (.d (.int a)) (.d (.int b))=some (.bl (a==b)):=by
 rfl
theorem DQ (s:Sto) (a b:Str):dEq s (.d (.str a)) (.d (.str b))=some (.bl (a==b)):=by
 rfl
theorem ez (s:Sto) {a b:List D} (h:a.length+b.length<=1000000):bm s (.d (.lst a)) (.d (.lst b))=some (.lst (a++b)):=iFP h
theorem m8 (s:Sto) {a b:List D} (h:a.length+b.length<=1000000):bm s (.d (.tup a)) (.d (.tup b))=some (.tup (a++b)):=iFP h
def mpI (n:Nat) (f:Nat->Int):List D:=(qan n).map λk=>D.int (f k)
def lnD (n:Nat) (T:Nat->Nat->Int) (i:Nat):D:=.lst (mpI (n+1) (T i))
def aV (m n:Nat) (T:Nat->Nat->Int):List D:=(qan m).map (lnD n T)
def nI (f:Nat->Nat):Nat->Int:=λk=>((f k:Nat):Int)
abbrev obN:List Str:=["amounts","lines","goal","part","free","kept"]
def obD (P:Pb) (S:Tb):D:=.ob obN [.int (P.n:Int),.lst (aV P.m P.n S.T),.lst (mpI (P.n+1) S.G),.int S.p,.lst (mpI P.n (nI S.free)),.lst (mpI P.m (nI S.kept))]
theorem aH (n:Nat) (f:Nat->Int):(mpI n f).length=n:=by unfold mpI;rw[qaf,qaw]
theorem cM (m n:Nat) (T:Nat->Nat->Int):(aV m n T).length=m:=by unfold aV;rw[qaf,qaw]
theorem bP {n:Nat}{f:Nat->Int}{k:Nat} (h:k<n):(mpI n f)[k]?=some (.int (f k)):=by
 unfold mpI;rw[qaF,qbp h];rfl
theorem om {m n:Nat}{T:Nat->Nat->Int}{k:Nat} (h:k<m):(aV m n T)[k]?=some (lnD n T k):=by
 unfold aV;rw[qaF,qbp h];rfl
theorem bJ {n:Nat}{f g:Nat->Int} (h:∀ k,k<n->f k=g k):mpI n f=mpI n g:=by
 refine qbe λk a=>?_;rw[h k (qaH.mp a)]
theorem dh (n:Nat) (f:Nat->Int):mpI (n+1) f=mpI n f++[.int (f n)]:=by
 unfold mpI;rw[qd0,qbs];rfl
theorem cj (n:Nat) (f:Nat->Int):mpI n f=((qan n).map f).map D.int:=by rw[qaC];rfl
theorem uH (n:Nat) (f:Nat->Int):(mpI n f).all cQ=true:=by
 rw[qa6];intro d hd;obtain⟨k,_,rfl⟩:=qay.mp hd;rfl
theorem hU {n:Nat}{f:Nat->Int}{k:Nat}{x:Int}:(mpI n f).set k (.int x)=mpI n λj=>if j=k then x else f j:=by
 apply qb4;intro j;by_cases a:j<n
 ·rw[bP a]
  by_cases e:j=k
  ·subst e;rw[iFP U,qbd (by rw[aH];exact a)]
  ·rw[iFN e,qbz (qbr e),bP a]
 ·rw[qaX (by rw[qb2,aH];lia),qaX (by rw[aH];lia)]
theorem eQ (st:Sto) {n:Nat}{f:Nat->Int}{k:Nat} (h:k<n):dIx st (.d (.lst (mpI n f))) (.d (.int (k:Int)))=some (.int (f k)):=bS (bP h)
theorem uj (st:Sto) {m n:Nat}{T:Nat->Nat->Int}{k:Nat} (h:k<m):dIx st (.d (.lst (aV m n T))) (.d (.int (k:Int)))=some (lnD n T k):=bS (om h)
theorem ui (st:Sto) {n:Nat}{T:Nat->Nat->Int}{i c:Nat} (h:c<=n):dIx st (.d (lnD n T i)) (.d (.int (c:Int)))=some (.int (T i c)):=eQ st (by lia)
theorem xy (st:Sto) {n:Nat}{T:Nat->Nat->Int}{i:Nat}:dIx st (.d (lnD n T i)) (.d (.int (-1)))=some (.int (T i n)):=by
 show atI _ _=_;rw[dh];exact tm _ _
section
variable {P:Pb}{S:Tb}{a:Ef}{env:Ev}{st s:Sto}
theorem cc (h:a env st=some (.d (obD P S),s)):ay "amounts" a env st=some (.d (.int (P.n:Int)),s):=by simp only[ay,h,qaa,obD];rfl
theorem cU (h:a env st=some (.d (obD P S),s)):ay "lines" a env st=some (.d (.lst (aV P.m P.n S.T)),s):=by simp only[ay,h,qaa,obD];rfl
theorem mh (h:a env st=some (.d (obD P S),s)):ay "goal" a env st=some (.d (.lst (mpI (P.n+1) S.G)),s):=by simp only[ay,h,qaa,obD];rfl
theorem mj (h:a env st=some (.d (obD P S),s)):ay "part" a env st=some (.d (.int S.p),s):=by simp only[ay,h,qaa,obD];rfl
theorem mf (h:a env st=some (.d (obD P S),s)):ay "free" a env st=some (.d (.lst (mpI P.n (nI S.free))),s):=by simp only[ay,h,qaa,obD];rfl
theorem qo (h:a env st=some (.d (obD P S),s)):ay "kept" a env st=some (.d (.lst (mpI P.m (nI S.kept))),s):=by simp only[ay,h,qaa,obD];rfl
end
theorem iT {te:Ef}{l:Ev}{st:Sto}{g:Nat->D} (F:Nat->D):∀ {a:List Nat},(∀ k∈a,te (Z (g k)::l) st=some (.d (F k),st))->lcI (.nm 0) az te (none::l) (a.map g) st=some (a.map F,st)
 |[],_=>rfl
 |k::a,h=>by
  rw[qas];unfold lcI;rw[show cv _ _ _=some (some _::l) from U,qaa,show az _ st=some (true,st) from U,qaa,(h k qag),qaa,(iT F λx b=>h x (qak _ b))];rfl
def Sm (z:Int):Prop:=z.natAbs<2^4000
theorem mulOk {a b:Int} (x y:Nat) (c:a.natAbs<2^x) (hb:b.natAbs<2^y) (h:x+y<=134217728):qbJ a b:=
 qin (qgN.mpr c) (qgN.mpr hb) h
theorem E5 {a b:Int}{x y:Nat} (c:a.natAbs<2^x) (hb:b.natAbs<2^y):(a*b).natAbs<2^(x+y):=by
 rw[qct,qhl];exact Nat.mul_lt_mul'' c hb
theorem Sm.mulOk {a b:Int} (c:Sm a) (hb:Sm b):qbJ a b:=Own.mulOk 4000 4000 c hb (by decide)
theorem dM (st:Sto) {a b:Int} (h:qbJ a b):bg st (.d (.int a)) (.d (.int b))=some (.int (a*b)):=iFP h
theorem Sm.log {a:Int} (h:Sm a):a.natAbs.log2<9000:=by
 by_cases b:a.natAbs=0
 ·rw[b];decide
 ·have:=(Nat.log2_lt b).mpr h
  lia
theorem qH (st:Sto) {a b:Int} (c:0<b) (h:Sm b):qF st (.d (.int a)) (.d (.int b))=some (.int (a / b)):=iFP ⟨c,h.log⟩
end Own
set_option maxHeartbeats 1000000
namespace Own
open PySem L2
open Sx (Pb Tb Good Named Fe LV ZV piv lexP leastR leaveL sumN unit colV basis)
theorem kK {a b:Sf}{env:Ev}{st s:Sto}{w:W} (h:a env st=some (.rt w s)):ah a b env st=some (.rt w s):=by simp only[ah,h,qaa]
theorem ao {a b:Sf}{env e:Ev}{st s:Sto}{r:Option Fl} (h:a env st=some (.nx e s)) (hb:b e s=r):ah a b env st=r:=by simp only[ah,h,qaa,hb]
theorem f7 {c:Tf}{a b:Sf}{env:Ev}{st s:Sto}{r:Option Fl} (h:c env st=some (true,s)) (d:a env s=r):bA c a b env st=r:=by simp only[bA,h,qaa,if_true,d]
theorem cO {c:Tf}{a b:Sf}{env:Ev}{st s:Sto}{r:Option Fl} (h:c env st=some (false,s)) (hb:b env s=r):bA c a b env st=r:=by simp only[bA,h,qaa,qa8,if_false,hb]
theorem Ig {o a:Ef}{env:Ev}{st s1 c:Sto}{n:Nat}{d:D}{e ds:List D} (f:o env st=some (.h n,s1)) (i:a env s1=some (.d d,c)) (j:lg s1 n=some e) (hg:lg c n=some ds) (g:ds.length<1000000):j7 (iN gW o (aa a ac)) env st=some (.nx env (c.set n (.l (ds++[d])))):=by
 simp only[j7,iN,f,(ab (b:=ac) i U),j,hg,gW,g,if_true,qaa,qaj]
theorem i8 (st:Sto) (a b:C):(st++[a]).set st.length b=st++[b]:=by
 simp
structure Okt (P:Pb) (S:Tb):Prop where
 good:Good P S
 named:Named P S
 m64:P.m<=100
 n64:P.n<=100
 sT:∀ i c,i<P.m->c<=P.n->Sm (S.T i c)
 sL:∀ i s,i<P.m->s<=P.m->Sm (LV P S i s)
 sG:∀ c,c<=P.n->Sm (S.G c)
 sp:Sm S.p
def psD (ps:List Nat):List D:=ps.map λk=>D.int ((k:Nat):Int)
theorem yd (ps:List Nat):(psD ps).length=ps.length:=by unfold psD;rw[qaf]
theorem mW {n k:Nat}{b:Sf}{ws:List W}{st s:Sto}{h:Nat}{ds:List D} (c:ws.length=k) (hb:b (ws.map some++qaL (n - k) none) st=some (.rt (.h h) s)) (a:st.length<=h) (hd:lg s h=some ds):f8 n k b ws st=some (.d (.lst ds),s.take st.length):=by
 simp only[f8,c,if_true,hb,qaa,z9,iFN (qhJ.mpr a),hd,qaj]
theorem yj {st u:Sto}{h:Nat}{c:C} (a:st.length<=h):(st++u).set h c=st++u.set (h - st.length) c:=by
 rw[List.set_append_right _ _ a]
theorem EY {s:Sto}{h:Nat}{ds es:List D} (hg:lg s h=some ds):lg (s.set h (.l es)) h=some es:=by
 have:=(qat.mp (xG hg)).1
 unfold lg;rw[qbd this]
theorem dq (s:Sto) (ds:List D):lg (s++[.l ds]) s.length=some ds:=by unfold lg;simp
theorem Ei (s:Sto) {h:Nat}{ds:List D} (hg:lg s h=some ds):d8 s (.h h)=some (!ds.isEmpty):=by
 show (lg s h).map _=_;rw[hg];rfl
theorem GG (s:Sto) {h:Nat}{d:D}{ds:List D} (hg:lg s h=some (d::ds)):dIx s (.h h) (.d (.int 0))=some d:=by
 show (lg s h).bind _=_;rw[hg,qaa,tj]
theorem Ay (s:Sto) (a b:Int):dLt s (.d (.int a)) (.d (.int b))=some (.bl (decide (a<b))):=rfl
theorem EC (s:Sto) (a b:Int):dGt s (.d (.int a)) (.d (.int b))=some (.bl (decide (a > b))):=rfl
theorem Gu (s:Sto) (a b:Int):dGe s (.d (.int a)) (.d (.int b))=some (.bl (decide (a>=b))):=rfl
section
variable {tops bots:Nat->Int}{m:Nat}{st:Sto}{f:Option W}
theorem kB (H:∀ i,i<m->Sm (tops i)) (hb:∀ i,i<m->Sm (bots i)):∀ (ps least:List Nat) (u:Sto) (h:Nat) (L g c:Option W),(∀ x∈ps,x<m)->(∀ x∈least,x<m)->lg (st++u) h=some (psD least)->st.length<=h->least.length+ps.length<=1000->
  ∃ w h' q k j,cS (.nm 4) aT (psD ps) [f,Z (.lst (mpI m tops)),Z (.lst (mpI m bots)),some (.h h),L,g,c] (st++u)=some (.nx [f,Z (.lst (mpI m tops)),Z (.lst (mpI m bots)),some (.h h'),q,k,j] (st++w))/\
   lg (st++w) h'=some (psD (leastR tops bots ps least))/\st.length<=h'
 |[],least,u,h,L,g,c,_,_,hg,y,_=>⟨u,h,L,g,c,U,by rw[leastR];exact hg,y⟩
 |p::ps,least,u,h,L,g,c,R,Q,hg,y,J=>by
  have t:p<m:=R p qag;have F:∀ x∈ps,x<m:=λx E=>R x (qak _ E);rw[qar]at J;have S:∀ g c P,cv (.nm 4) (.d (.int ((p:Nat):Int))) [f,Z (.lst (mpI m tops)),Z (.lst (mpI m bots)),some (.h P),L,g,c]=some [f,Z (.lst (mpI m tops)),Z (.lst (mpI m bots)),some (.h P),Z (.int ((p:Nat):Int)),g,c]:=λ_ _ _=>rfl;have app:∀ (u:Sto) (h:Nat) (ls:List Nat) (g c:Option W),lg (st++u) h=some (psD ls)->st.length<=h->ls.length<1000->j7 (iN gW (iV 3) (aa (iV 4) ac)) [f,Z (.lst (mpI m tops)),Z (.lst (mpI m bots)),some (.h h),Z (.int ((p:Nat):Int)),g,c] (st++u)=some _/\lg (st++u.set (h - st.length) (.l (psD (ls++[p])))) h=some (psD (ls++[p])):=λu h ls g c hg y Q=>by
   have e:=Ig (o:=iV 3) (a:=iV 4) (env:=[f,Z (.lst (mpI m tops)),Z (.lst (mpI m bots)),some (.h h),Z (.int ((p:Nat):Int)),g,c]) (st:=st++u) (n:=h) (d:=.int ((p:Nat):Int)) U U hg hg (by rw[yd];lia);have e2:psD ls++[.int ((p:Nat):Int)]=psD (ls++[p]):=by unfold psD;rw[qbs];rfl
   rw[e2,yj y]at e;refine⟨e,?_⟩;rw[<-yj y];exact EY hg
  cases least with
  |nil=>
   have K:dI d8 (iV 3) [f,Z (.lst (mpI m tops)),Z (.lst (mpI m bots)),some (.h h),Z (.int ((p:Nat):Int)),g,c] (st++u)=some (false,st++u):=by
    have:=Ei (st++u) hg
    simp only[dI,show iV 3 [f,Z (.lst (mpI m tops)),Z (.lst (mpI m bots)),some (.h h),Z (.int ((p:Nat):Int)),g,c] (st++u)=some (.h h,st++u) from U,qaa,this];rfl
   obtain⟨N,a2⟩:=app u h [] g c hg y (by decide);obtain⟨w,h',q,k,j,D,C,i3⟩:=kB H hb ps [p] _ h (Z (.int ((p:Nat):Int))) g c F (λx E=>by rw[qal.mp E];exact t) a2 y (by simp at J ⊢;lia);refine⟨w,h',q,k,j,?_,by rw[leastR];exact C,i3⟩;have s:aT [f,Z (.lst (mpI m tops)),Z (.lst (mpI m bots)),some (.h h),Z (.int ((p:Nat):Int)),g,c] (st++u)=_:=ao (cO K U) N;show cS (.nm 4) aT (.int ((p:Nat):Int)::psD ps) _ _=_;simp only[cS,S,qaa,s];exact D
  |cons v r=>
   have A:v<m:=Q v qag;have K:dI d8 (iV 3) [f,Z (.lst (mpI m tops)),Z (.lst (mpI m bots)),some (.h h),Z (.int ((p:Nat):Int)),g,c] (st++u)=some (true,st++u):=by
    have:=Ei (st++u) hg
    simp only[dI,show iV 3 [f,Z (.lst (mpI m tops)),Z (.lst (mpI m bots)),some (.h h),Z (.int ((p:Nat):Int)),g,c] (st++u)=some (.h h,st++u) from U,qaa,this];rfl
   have i0:∀ g c,iOp dIx (iV 3) (iC (.int 0)) [f,Z (.lst (mpI m tops)),Z (.lst (mpI m bots)),some (.h h),Z (.int ((p:Nat):Int)),g,c] (st++u)=some (.d (.int ((v:Nat):Int)),st++u):=λ_ _=>ae U U (GG (st++u) hg);have V:aw (.nm 5) (iOp bg (iOp dIx (iV 1) (iV 4)) (iOp dIx (iV 2) (iOp dIx (iV 3) (iC (.int 0))))) [f,Z (.lst (mpI m tops)),Z (.lst (mpI m bots)),some (.h h),Z (.int ((p:Nat):Int)),g,c] (st++u)=some _:=
    aj (ae (ae U U (eQ _ t)) (ae U (i0 _ _) (eQ _ A)) (dM _ (Sm.mulOk (H p t) (hb v A))))
   have T:aw (.nm 6) (iOp bg (iOp dIx (iV 1) (iOp dIx (iV 3) (iC (.int 0)))) (iOp dIx (iV 2) (iV 4))) [f,Z (.lst (mpI m tops)),Z (.lst (mpI m bots)),some (.h h),Z (.int ((p:Nat):Int)),Z (.int (tops p*bots v)),c] (st++u)=some (.nx [f,Z (.lst (mpI m tops)),Z (.lst (mpI m bots)),some (.h h),Z (.int ((p:Nat):Int)),Z (.int (tops p*bots v)),Z (.int (tops v*bots p))] (st++u)):=
    aj (ae (ae U (i0 _ _) (eQ _ A)) (ae U U (eQ _ t)) (dM _ (Sm.mulOk (H v A) (hb p t))))
   generalize Y:tops p*bots v=M at *;generalize X:tops v*bots p=B at *;have O:aN dGt (iV 5) (iV 6) [f,Z (.lst (mpI m tops)),Z (.lst (mpI m bots)),some (.h h),Z (.int ((p:Nat):Int)),Z (.int M),Z (.int B)] (st++u)=some (decide (M > B),st++u):=aE U U (EC _ _ _);have tl:aN dLt (iV 5) (iV 6) [f,Z (.lst (mpI m tops)),Z (.lst (mpI m bots)),some (.h h),Z (.int ((p:Nat):Int)),Z (.int M),Z (.int B)] (st++u)=some (decide (M<B),st++u):=aE U U (Ay _ _ _);by_cases c1:M > B
   ·rw[decide_eq_true c1]at O
    obtain⟨w,h',q,k,j,D,C,i3⟩:=kB H hb ps (v::r) u h (Z (.int ((p:Nat):Int))) (Z (.int M)) (Z (.int B)) F Q hg y (by lia);refine⟨w,h',q,k,j,?_,by rw[leastR,Y,X,iFP c1];exact C,i3⟩;have s:aT [f,Z (.lst (mpI m tops)),Z (.lst (mpI m bots)),some (.h h),Z (.int ((p:Nat):Int)),g,c] (st++u)=some (.ct [f,Z (.lst (mpI m tops)),Z (.lst (mpI m bots)),some (.h h),Z (.int ((p:Nat):Int)),Z (.int M),Z (.int B)] (st++u)):=by
     have I:bA (dI d8 (iV 3)) (ah (aw (.nm 5) (iOp bg (iOp dIx (iV 1) (iV 4)) (iOp dIx (iV 2) (iOp dIx (iV 3) (iC (.int 0)))))) (ah (aw (.nm 6) (iOp bg (iOp dIx (iV 1) (iOp dIx (iV 3) (iC (.int 0)))) (iOp dIx (iV 2) (iV 4)))) (ah (bA (aN dGt (iV 5) (iV 6)) pN bn) (bA (aN dLt (iV 5) (iV 6)) (aw (.nm 3) (cx (bD ac))) bn)))) bn [f,Z (.lst (mpI m tops)),Z (.lst (mpI m bots)),some (.h h),Z (.int ((p:Nat):Int)),g,c] (st++u)=some (.ct [f,Z (.lst (mpI m tops)),Z (.lst (mpI m bots)),some (.h h),Z (.int ((p:Nat):Int)),Z (.int M),Z (.int B)] (st++u)):=by
      refine f7 K (ao V (ao T ?_))
      have:=f7 (a:=pN) (b:=bn) O U
      simp only[ah,this];rfl
     show ah _ _ _ _=_;simp only[ah,I];rfl
    show cS (.nm 4) aT (.int ((p:Nat):Int)::psD ps) _ _=_;simp only[cS,S,qaa,s];exact D
   ·rw[decide_eq_false c1]at O
    by_cases c2:M<B
    ·rw[decide_eq_true c2]at tl
     have hn:lg (st++(u++[.l []])) (st++u).length=some (psD []):=by rw[<-qbO];exact dq _ _
     have G:st.length<=(st++u).length:=by rw[qav];lia
     obtain⟨N,a2⟩:=app (u++[.l []]) (st++u).length [] (Z (.int M)) (Z (.int B)) hn G (by decide);obtain⟨w,h',q,k,j,D,C,i3⟩:=kB H hb ps [p] _ (st++u).length (Z (.int ((p:Nat):Int))) (Z (.int M)) (Z (.int B)) F (λx E=>by rw[qal.mp E];exact t) a2 G (by simp at J ⊢;lia);refine⟨w,h',q,k,j,?_,by rw[leastR,Y,X,iFN c1,iFP c2];exact C,i3⟩;have sn:aw (.nm 3) (cx (bD ac)) [f,Z (.lst (mpI m tops)),Z (.lst (mpI m bots)),some (.h h),Z (.int ((p:Nat):Int)),Z (.int M),Z (.int B)] (st++u)=some (.nx [f,Z (.lst (mpI m tops)),Z (.lst (mpI m bots)),some (.h (st++u).length),Z (.int ((p:Nat):Int)),Z (.int M),Z (.int B)] (st++(u++[.l []]))):=by rw[<-qbO];rfl
     have s:aT [f,Z (.lst (mpI m tops)),Z (.lst (mpI m bots)),some (.h h),Z (.int ((p:Nat):Int)),g,c] (st++u)=_:=ao (f7 K (ao V (ao T (ao (cO O U) (f7 tl sn))))) N;show cS (.nm 4) aT (.int ((p:Nat):Int)::psD ps) _ _=_;simp only[cS,S,qaa,s];exact D
    ·rw[decide_eq_false c2]at tl
     obtain⟨N,a2⟩:=app u h (v::r) (Z (.int M)) (Z (.int B)) hg y (by rw[qar]at J ⊢;lia)
     obtain⟨w,h',q,k,j,D,C,i3⟩:=kB H hb ps ((v::r)++[p]) _ h (Z (.int ((p:Nat):Int))) (Z (.int M)) (Z (.int B)) F (λx E=>by
      rcases qaG.mp E with z|z
      ·exact Q x z
      ·rw[qal.mp z];exact t) a2 y (by rw[qav,qcf];lia)
     refine⟨w,h',q,k,j,?_,by rw[leastR,Y,X,iFN c1,iFN c2];exact C,i3⟩;have s:aT [f,Z (.lst (mpI m tops)),Z (.lst (mpI m bots)),some (.h h),Z (.int ((p:Nat):Int)),g,c] (st++u)=_:=ao (f7 K (ao V (ao T (ao (cO O U) (cO tl U))))) N;show cS (.nm 4) aT (.int ((p:Nat):Int)::psD ps) _ _=_;simp only[cS,S,qaa,s];exact D
theorem GN (H:∀ i,i<m->Sm (tops i)) (hb:∀ i,i<m->Sm (bots i)) {ps:List Nat} (R:∀ x∈ps,x<m) (J:ps.length<=1000):fY [.d (.lst (psD ps)),.d (.lst (mpI m tops)),.d (.lst (mpI m bots))] st=some (.d (.lst (psD (leastR tops bots ps []))),st):=by
 obtain⟨w,h',q,k,j,D,C,i3⟩:=kB H hb ps [] [.l []] st.length none none none R (λx E=>nomatch E) (dq st []) (qap _) (by simpa using J)
 have:=mW (n:=7) (b:=jw) (ws:=[.d (.lst _),.d _,.d _]) U (ao U (ao (bM U D) U)) i3 C
 rw[qcq]at this;exact this
end
end Own
set_option maxHeartbeats 1000000
namespace Own
open PySem L2
open Sx (Pb Tb Good Named Fe LV ZV piv lexP leastR leaveL sumN unit colV basis)
theorem xv (s:Sto) (i:Int):iF s (.d (.int i)) (.d .non)=some (.bl false):=rfl
theorem rd (s:Sto):iF s (.d .non) (.d .non)=some (.bl true):=rfl
theorem Cs (s:Sto) (l:List D):iF s (.d (.tup l)) (.d .non)=some (.bl false):=rfl
def eW (n:Nat):Nat->D
 |0=>.non
 |r+1=>.int (((n+r:Nat)):Int)
theorem zq (n m:Nat):D.non::bh (n:Int) m=(qan (m+1)).map (eW n):=by
 rw[qdG,qas,qaC]
 congr 1
theorem j0 (st:Sto) (ds:List D):aZ st [.d (.lst ds)]=some (.int (ds.length:Nat)):=rfl
theorem oZ {P:Pb}{S:Tb}{st:Sto} (h:Okt P S):ef [.d (obD P S)] st=some (.d (.lst ((qan (P.m+1)).map (eW P.n))),st):=by
 have f:=h.m64;have c:=h.n64;have b:iV 0 [some _] st=some (.d (obD P S),st):=rfl;have a:=cc b;refine ax U (aA (ae (x:=.d (.lst [.non])) (y:=.d (.lst (bh (P.n) P.m))) (s1:=st) U (ak ?_) ?_))
 ·show qO _ [some _] st=_
  have e:aa (ay "amounts" (iV 0)) (aa (iOp bm (ay "amounts" (iV 0)) (iCB aZ (aa (ay "lines" (iV 0)) ac))) ac) [Z (obD P S)] st=some ([.d (.int (P.n)),.d (.int ((P.n)+(P.m)))],st):=by
   refine ab a (ab (ae a (aF (ab (cU b) U) (j0 _ _)) ?_) U);rw[cM];rfl
  simp only[qO,e,qaa];rw[iFP (by lia),show (_+_ - (P.n:Int)).toNat=P.m by lia]
 ·rw[<-zq]
  exact ez st (by rw[bb];simp;lia)
theorem EL {n k:Nat}{f:Nat->Nat}:inD (.int (k:Int)) (mpI n (nI f))=decide (∃ c,c<n/\f c=k):=by
 rw[qeQ];unfold inD mpI;rw[List.any_map,qeD,decide_eq_true_eq];constructor
 ·rintro⟨c,a,e⟩
  refine⟨c,qaH.mp a,?_⟩;have e:(((f c):Int)==_)=true:=e;lia
 ·rintro⟨c,a,e⟩
  refine⟨c,qaH.mpr a,?_⟩;show (((f c):Int)==_)=true;rw[e];exact beq_self_eq_true _
theorem EH {n k:Nat}{f:Nat->Nat} (h:∃ c,c<n/\f c=k):∃ c,c<n/\f c=k/\((qan n).map (nI f)).idxOf? (k:Int)=some c:=by
 obtain⟨c,d,e⟩:=h;cases q:((qan n).map (nI f)).idxOf? _ with
 |none=>
  have:=List.idxOf?_eq_none_iff.mp q
  exact absurd (qay.mpr ⟨c,qaH.mpr d,by unfold nI;rw[e]⟩) this
 |some j=>
  obtain⟨b,a,_⟩:=qgy.mp q;rw[qaf,qaw]at b;refine⟨j,b,?_,U⟩;rw[qcz,qc1]at a;have a:((f j):Int)=_:=a;lia
theorem iQ {P:Pb}{S:Tb} (h:Good P S) {i j:Nat} (hi:i<P.m) (c:j<P.m) (e:S.kept i=S.kept j):i=j:=by
 rcases Nat.decEq i j with a|b
 ·have:=h.pos
  rw[h.dt,(Sx.det_eq0 _ hi c a (by unfold basis;rw[e]))]at this;exact absurd this (by decide)
 ·exact b
theorem DX {P:Pb}{S:Tb}{st:Sto} (h:Okt P S) {s:Nat} (E:s<=P.m):df [.d (obD P S),.d (eW P.n s)] st=some (.d (.lst (mpI P.m λi=>LV P S i s)),st):=by
 have hg:=h.good;have G:=h.m64;have F:=h.n64;cases s with
 |zero=>
  have e:mpI P.m (λi=>LV P S i 0)=mpI P.m λi=>S.T i P.n:=bJ λi hi=>by
   have e:=hg.entry (qap _) hi;have c1:colV P S P.n=P.b:=by unfold Sx.colV;rw[iFN (qa5 _)]
   rw[c1]at e;unfold LV Sx.XV;rw[iFP U,<-e]
  rw[e];refine ax (n:=3) (k:=2) (b:=gK) U (kK (f7 (s:=st) (aE (x:=.d .non) U U (rd st)) (aA (ak (aI (aL (cU (P:=P) (S:=S) (st:=st) (a:=iV 0) U)) (by rw[cM];lia) ?_)))));exact iT _ λi _=>ae U U (xy st)
 |succ r=>
  have u:r<P.m:=by lia
  have q:∀ o,iV 0 [some _,Z (.int ((P.n+r:Nat))),o] st=some (.d (obD P S),st):=λ_=>rfl;have w:=mf (q none);have g:Sx.XV P (r+1)=unit r:=by unfold Sx.XV;rw[iFN (by lia),qc5]
  have tI:aN dIn (iV 1) (ay "free" (iV 0)) [Z (obD P S),Z (.int ((P.n+r:Nat))),none] st=some (decide (∃ c,c<P.n/\S.free c=P.n+r),st):=by
   refine aE U w ?_;simp only[dIn,dQ,cQ,uH,qaa,and_self,if_true,EL]
  refine ax (n:=3) (k:=2) (b:=gK) U (ao (cO (aE U U (xv st _)) U) ?_);by_cases m:∃ c,c<P.n/\S.free c=P.n+r
  ·rw[decide_eq_true m]at tI
   obtain⟨c,B,C,l⟩:=EH m;have e:mpI P.m (λi=>LV P S i _)=mpI P.m λi=>S.T i c:=bJ λi hi=>by
    have e:=hg.entry (c:=c) (by lia) hi;have c1:colV P S c=unit r:=by unfold Sx.colV;rw[iFP B,C,h.named.one r u]
    rw[c1]at e;unfold LV;rw[g,<-e]
   rw[e];have y:aw (.nm 2) (Ah (ay "free" (iV 0)) (aa (iV 1) ac)) [Z (obD P S),Z (.int ((P.n+r:Nat))),none] st=some (.nx [Z (obD P S),Z (.int ((P.n+r:Nat))),Z (.int (c))] st):=by
    refine aj ?_;have A:aW (mpI P.n (nI S.free))=some ((qan P.n).map (nI S.free)):=by rw[cj];exact bu _
    simp only[Ah,w,qaa,show aa (iV 1) ac [some _,some _,none] st=some ([.d _],st) from U,A];rw[iFP (by rw[qaf,qaw];lia),l];rfl
   refine kK (f7 tI (ao y (aA (ak (aI (aL (cU (P:=P) (S:=S) (q _))) (by rw[cM];lia) ?_)))));exact iT _ λi _=>ae U U (ui st (by lia))
  ·rw[decide_eq_false m]at tI
   obtain⟨j,v,t⟩:∃ j,j<P.m/\S.kept j=P.n+r:=(h.named.all _ (by lia)).elim (λz=>absurd z m) id;have e:mpI P.m (λi=>LV P S i _)=mpI P.m λi=>if S.kept i=P.n+r then S.p else 0:=bJ λi hi=>by
    have e:=Sx.det_kept hg hi v;have c1:basis P S j=unit r:=by unfold Sx.basis;rw[t,h.named.one r u]
    rw[c1]at e;unfold LV;rw[g,e];by_cases f:i=j
    ·rw[iFP f,iFP (by rw[f];exact t)]
    ·rw[iFN f,iFN λz=>f (iQ hg hi v (z.trans t.symm))]
   rw[e];refine ao (cO tI U) (aA (ak (aI (aL (qo (P:=P) (S:=S) (q none))) (by rw[aH];lia) ?_)));refine iT (λi=>D.int _) λi _=>?_;have te:aN dEq (iV 0) (iV 1) [Z (.int (nI S.kept i)),Z (.int ((P.n+r:Nat):Int)),Z (obD P S)] st=some (decide (S.kept i=P.n+r),st):=by
    refine aE U U ?_;rw[eO]
    congr 2
    unfold nI;lia
   by_cases p:S.kept i=P.n+r
   ·rw[decide_eq_true p]at te
    rw[iFP p];exact si te (mj (P:=P) (S:=S) (st:=st) (a:=iV 2) U)
   ·rw[decide_eq_false p]at te
    rw[iFN p];exact wf te U
theorem wX (m:Nat) (f:Nat->Int):cB 0 (mpI m f)=(qan m).map λi=>D.tup [.int ((i:Nat):Int),.int (f i)]:=by
 apply qb4;intro i;rw[gj,qaF];by_cases hi:i<m
 ·rw[bP hi,qbp hi,qa0];rfl
 ·rw[qaX (by rw[aH];lia),qaX (by rw[qaw];lia)];rfl
theorem vL {tt:Tf}{te:Ef}{l:Ev}{st:Sto}{g:Nat->D×D} (p:Nat->Bool) (F:Nat->D):∀ {a:List Nat},(∀ k∈a,tt (Z (g k).1::some (.d (g k).2)::l) st=some (p k,st)/\(p k=true->te (Z (g k).1::some (.d (g k).2)::l) st=some (.d (F k),st)))->
  lcI (.tp [0,1]) tt te (none::none::l) (a.map λk=>D.tup [(g k).1,(g k).2]) st=some ((a.filter p).map F,st)
 |[],_=>rfl
 |k::a,h=>by
  have b:=vL p F λx e=>h x (qak _ e);obtain⟨c,f⟩:=h k qag;rw[qas];unfold lcI;rw[show cv _ _ _=some (some _::some _::l) from U,qaa,c,qaa];cases hp:p k with
  |true=>rw[f hp,qaa,b,qew hp];rfl
  |false=>rw[iFN (show ¬ (false=true) by decide),b,qex (by rw[hp];decide)]
def jx (P:Pb) (S:Tb) (c:Nat):List Nat:=(qan P.m).filter λi=>decide (S.T i c > 0)
def gU (P:Pb) (S:Tb) (c:Nat):List Nat:=leaveL (λs i=>LV P S i s) (λi=>S.T i c) (qan (P.m+1)) (jx P S c)
theorem eS {tops bots:Nat->Int}{m:Nat}:∀ {ps least:List Nat},(∀ x∈ps,x<m)->(∀ x∈least,x<m)->(∀ x∈leastR tops bots ps least,x<m)/\(leastR tops bots ps least).length<=ps.length+least.length
 |[],least,_,h=>by rw[leastR];exact⟨h,by simp⟩
 |p::ps,[],d,_=>by
  rw[leastR]
  have:=eS (tops:=tops) (bots:=bots) (λx a=>d x (qak _ a)) λx a=>by rw[qal.mp a];exact d p qag
  exact⟨this.1,by simp at this ⊢;lia⟩
 |p::ps,f::r,d,e=>by
  have b:=λx a=>d x (qak _ a);have c:=d p qag;rw[leastR];split
  ·have:=eS (tops:=tops) (bots:=bots) b e
   exact⟨this.1,by simp at this ⊢;lia⟩
  ·split
   ·have:=eS (tops:=tops) (bots:=bots) b λx a=>by rw[qal.mp a];exact c
    exact⟨this.1,by simp at this ⊢;lia⟩
   ·have:=eS (tops:=tops) (bots:=bots) b λx a=>by
     rcases qaG.mp a with z|z
     ·exact e x z
     ·rw[qal.mp z];exact c
    exact⟨this.1,by simp at this ⊢;lia⟩
section
variable {P:Pb}{S:Tb}{st:Sto}{c:Nat}
theorem xK (h:Okt P S) (A:c<=P.n):∀ (u ps:List Nat) (o:Option W),(∀ s∈u,s<=P.m)->(∀ x∈ps,x<P.m)->ps.length<=1000->
  ∃ p,cS (.nm 4) fJ (u.map (eW P.n)) [Z (obD P S),Z (.int (c:Int)),Z (.lst (mpI P.m λi=>S.T i c)),Z (.lst (psD ps)),o] st=some (.nx [Z (obD P S),Z (.int (c:Int)),Z (.lst (mpI P.m λi=>S.T i c)),Z (.lst (psD (leaveL (λs i=>LV P S i s) (λi=>S.T i c) u ps))),p] st)
 |[],ps,o,_,_,_=>⟨o,U⟩
 |s::u,ps,o,y,H,v=>by
  have m:cv (.nm 4) _ [some _,some _,some _,some _,o]=some [Z (obD P S),Z (.int (c)),Z (.lst (mpI P.m λi=>S.T i c)),Z (.lst (psD ps)),Z (eW P.n s)]:=rfl;have B:aN dLt (iCB aZ (aa (iV 3) ac)) (iC (.int 2)) [Z (obD P S),Z (.int (c)),Z (.lst (mpI P.m λi=>S.T i c)),Z (.lst (psD ps)),Z (eW P.n s)] st=some (decide (ps.length<2),st):=by
   refine aE (aF U (j0 _ _)) U ?_;rw[yd,Ay]
   congr 2
   lia
  rw[qas,leaveL];by_cases q:ps.length<2
  ·rw[decide_eq_true q]at B
   rw[iFP q];refine⟨some (.d (eW P.n s)),?_⟩;have hb:fJ [Z (obD P S),Z (.int (c)),Z (.lst (mpI P.m λi=>S.T i c)),Z (.lst (psD ps)),Z (eW P.n s)] st=some (.bk [Z (obD P S),Z (.int (c)),Z (.lst (mpI P.m λi=>S.T i c)),Z (.lst (psD ps)),Z (eW P.n s)] st):=by
    have:=f7 (a:=vD) (b:=bn) B U
    show ah _ _ _ _=_;simp only[ah,this];rfl
   simp only[cS,m,qaa,hb]
  ·rw[decide_eq_false q]at B
   rw[iFN q];have f:=eS (tops:=λi=>LV P S i s) (bots:=λi=>S.T i c) (least:=[]) H (λx w=>nomatch w)
   obtain⟨p,L⟩:=xK h A u _ _ (λx w=>y x (qak _ w)) f.1 (by have:=f.2;simp at this;lia);refine⟨p,?_⟩;have hb:fJ [some _,some _,some _,some _,some _] st=some _:=
    ao (cO B U) (aj (ag (ab U (ab (ag U (DX h (y s qag))) (ab U U))) (GN (λi hi=>h.sL i s hi (y s qag)) (λi hi=>h.sT i c hi A) H v)))
   simp only[cS,m,qaa,hb];exact L
def At (l:List Nat):D:=match l with
 |[]=>.non
 |r::_=>.int ((r:Nat):Int)
theorem vS (h:Okt P S) (A:c<=P.n):ji [.d (obD P S),.d (.int (c:Int))] st=some (.d (At (gU P S c)),st):=by
 have M:=h.m64;have G:cY (aa (iV 2) ac) [Z (obD P S),Z (.int (c)),Z (.lst (mpI P.m λi=>S.T i c)),none,none] st=some ((qan P.m).map λi=>D.tup [.int ((i:Nat)),.int (S.T i c)],st):=by
  rw[<-wX];rfl
 have E:∀ x∈jx P S c,x<P.m:=λx w=>qaH.mp (qbK.mp w).1;have F:(jx P S c).length<=1000:=by
  have:(jx P S c).length<=(qan P.m).length:=qdQ ..
  rw[qaw]at this;lia
 obtain⟨o,K⟩:=xK (st:=st) h A (qan (P.m+1)) (jx P S c) none (λs y=>by have:=qaH.mp y;lia) E F;have hw:=oZ (st:=st) h;have C:ar (ai ef (aa (iV 0) ac)) [Z (obD P S),Z (.int (c:Int)),Z (.lst (mpI P.m λi=>S.T i c)),Z (.lst (psD (jx P S c))),none] st=some ((qan (P.m+1)).map (eW P.n),st):=aL (ag (ws:=[.d (obD P S)]) U hw);refine ax (n:=5) (k:=2) (b:=pw) U (ao (aj (ak (aI (aL (cU (P:=P) (S:=S) (env:=[some _,Z (.int (c)),none,none,none]) (st:=st) (a:=iV 0) U)) (by rw[cM];lia) (iT _ λi _=>ae U U (ui st A))))) (ao (aj (ak (aI G (by rw[qaf,qaw];lia) (vL (g:=λi=>(D.int ((i:Nat):Int),.int (S.T i c))) (λi=>decide (S.T i c > 0)) (λi=>D.int ((i:Nat):Int)) λi _=>⟨aE U U (EC _ _ _),λ_=>rfl⟩)))) (ao (bM C K) (aA ?_))));show jO _ _ _ [some _,some _,some _,Z (.lst (psD (gU P S c))),o] st=_;cases gU P S c with
 |nil=>rfl
 |cons r l=>exact si U (ae U U (tj _ _))
theorem vQ (v:∀ i,i<P.m->S.T i c<=0):gU P S c=[]:=by
 have:jx P S c=[]:=by
  unfold jx;rw[List.filter_eq_nil_iff];intro i hi
  have:=v i (qaH.mp hi)
  lia
 unfold gU;rw[this,qdG,leaveL,iFP (by decide)]
theorem vR (h:Okt P S) (hA:∀ i,i<P.m->∀ t,P.m<=t->P.A (S.kept i) t=0) (v:¬ ∀ i,i<P.m->S.T i c<=0) :
  ∃ r,gU P S c=[r]/\r<P.m/\0<S.T r c/\∀ i,i<P.m->i≠r->0<S.T i c->lexP (P.m+1) λs=>S.T r c*LV P S i s - S.T i c*LV P S r s:=by
 have I:∀ i,i∈jx P S c↔i<P.m/\0<S.T i c:=λi=>by
  unfold jx;rw[qbK,qaH,decide_eq_true_eq]
 obtain⟨r,J,q⟩:=Sx.leaving_ok h.good hA I (qiK qg5 qhN) (λe=>v λi hi=>by
  have:¬ _:=λz=>by
   have:=(I i).mpr z
   rw[e]at this;exact absurd this qbM
  lia)
 refine⟨r,?_,q⟩;rw[<-J];unfold gU;rw[show (λj=>0+j)=id by funext j;simp,qe8]
end
end Own
set_option maxHeartbeats 1000000
namespace Own
open PySem L2
open Sx (Pb Tb Good Named Fe LV ZV piv lexP leastR leaveL sumN unit colV basis)
theorem vJ (s:Sto) (a b:D):dIx s (.d (.tup [a,b])) (.d (.int 0))=some a:=rfl
theorem rB (s:Sto) (a b:D):dIx s (.d (.tup [a,b])) (.d (.int 1))=some b:=rfl
theorem FH {a:Af}{env:Ev}{st s:Sto}{ws:List W}{ds:List D} (c:a env st=some (ws,s)) (h:ma ws=some ds) (b:ds.length<=1000):bz a env st=some (.d (.tup ds),s):=by
 simp only[bz,c,qaa,h,qaj,b,if_true]
section
variable {P:Pb}{S:Tb}{st:Sto}
theorem DY (s:Sto) (a:Int):dNe s (.d (.int a)) (.d (.int 0))=some (.bl (!(a==0))):=rfl
theorem Sm.two {a b:Int} (ha:Sm a) (hb:Sm b):(a*b).natAbs<2^8000:=E5 (y:=4000) ha hb
theorem xg (h:Okt P S) {c1 o c2 m:Nat}{M B:Int} (g:o<P.m) (l:m<P.m) (hM:M.natAbs<2^8000) (hB:B.natAbs<2^8000):∀ (L:List Nat) (A q p:Option W),(∀ s∈L,s<=P.m)->
  (∃ b,cS (.nm 5) cf (L.map (eW P.n)) [Z (obD P S),Z (.tup [.int (c1:Int),.int (o:Int)]),Z (.tup [.int (c2:Int),.int (m:Int)]),Z (.int M),Z (.int B),A,q,p] st=some (.rt (.d (.bl b)) st))\/
  ∃ e,cS (.nm 5) cf (L.map (eW P.n)) [Z (obD P S),Z (.tup [.int (c1:Int),.int (o:Int)]),Z (.tup [.int (c2:Int),.int (m:Int)]),Z (.int M),Z (.int B),A,q,p] st=some (.nx e st)
 |[],A,q,p,_=>.inr ⟨_,U⟩
 |s::L,A,q,p,O=>by
  have C:=O s qag;have f:cv (.nm 5) _ [some _,some _,some _,some _,some _,A,q,p]=some [Z (obD P S),Z (.tup [.int (c1),.int (o)]),Z (.tup [.int (c2),.int (m)]),Z (.int M),Z (.int B),Z (eW P.n s),q,p]:=rfl;have s6:aw (.nm 6) (ai df (aa (iV 0) (aa (iV 5) ac))) [some _,Z (.tup [.int (c1),.int (o)]),Z (.tup [.int (c2),.int (m)]),Z (.int M),Z (.int B),some _,q,p] st=some _:=aj (ag U (DX h C));have T:aw (.nm 7) (iOp nr (iOp bg (iV 4) (iOp dIx (iV 6) (iOp dIx (iV 2) (iC _)))) (iOp bg (iV 3) (iOp dIx (iV 6) (iOp dIx (iV 1) (iC _))))) [Z (obD P S),Z (.tup [.int (c1),.int _]),Z (.tup [.int (c2),.int _]),some _,some _,Z (eW P.n s),Z (.lst (mpI P.m λi=>LV P S i s)),p] st=some _:=
   aj (ae (ae U (ae U (ae U U (rB st _ _)) (eQ st l)) (dM st (mulOk 8000 4000 hB (h.sL m s l C) (by decide)))) (ae U (ae U (ae U U (rB st _ _)) (eQ st g)) (dM st (mulOk 8000 4000 hM (h.sL o s g C) (by decide)))) U)
  generalize B*LV P S m s - M*LV P S o s=Zq at T;have Q:aN dNe (iV 7) (iC _) [Z (obD P S),Z (.tup [.int (c1),.int (o)]),Z (.tup [.int (c2),.int (m)]),Z (.int M),Z (.int B),Z (eW P.n s),Z (.lst (mpI P.m λi=>LV P S i s)),some _] st=some (!_,st):=aE U U (DY st Zq);rw[qas];cases H:(Zq==0) with
  |false=>
   rw[H]at Q
   left
   refine⟨decide (Zq > 0),?_⟩;have hb:cf [some _,some _,some _,some _,some _,some _,q,p] st=some _:=ao s6 (ao T (f7 Q (aA (ae U U (EC st _ _)))));simp only[cS,f,qaa,hb]
  |true=>
   rw[H]at Q;have hb:cf [some _,some _,some _,some _,some _,some _,q,p] st=some _:=ao s6 (ao T (cO Q U));simp only[cS,f,qaa,hb];exact (xg h g l hM hB L _ _ _ λx I=>O x (qak _ I))
theorem Gv (h:Okt P S) {c1 o c2 m:Nat} (hc1:c1<P.n) (g:o<P.m) (hc2:c2<P.n) (l:m<P.m):∃ b,cp [.d (obD P S),.d (.tup [.int (c1:Int),.int (o:Int)]),.d (.tup [.int (c2:Int),.int (m:Int)])] st=some (.d (.bl b),st):=by
 have J:∀ n o4 A q p,iV 0 [some _,Z (.tup [.int (c1),.int (o)]),Z (.tup [.int (c2),.int (m)]),n,o4,A,q,p] st=some (.d (obD P S),st):=λ_ _ _ _ _=>rfl;have u:aw (.nm 3) (iOp bg (iOp dIx _ (iOp dIx (iV 1) (iC _))) (iOp dIx (iOp dIx _ (iOp dIx (iV 2) (iC _))) (iOp dIx (iV 2) (iC _)))) [some _,some _,some _,none,none,none,none,none] st=some _:=
  aj (ae (ae (mh (J _ _ _ _ _)) (ae U U (vJ st _ _)) (eQ st (by lia))) (ae (ae (cU (J _ _ _ _ _)) (ae U U (rB st _ _)) (uj st l)) (ae U U (vJ st _ _)) (ui st (by lia))) (dM st (Sm.mulOk (h.sG c1 (by lia)) (h.sT m c2 l (by lia)))))
 have s4:aw (.nm 4) (iOp bg (iOp dIx _ (iOp dIx (iV 2) (iC _))) (iOp dIx (iOp dIx _ (iOp dIx (iV 1) (iC _))) (iOp dIx (iV 1) (iC _)))) [some _,some _,some _,Z (.int (S.G c1*S.T m c2)),none,none,none,none] st=some _:=
  aj (ae (ae (mh (J _ _ _ _ _)) (ae U U (vJ st _ _)) (eQ st (by lia))) (ae (ae (cU (J _ _ _ _ _)) (ae U U (rB st _ _)) (uj st g)) (ae U U (vJ st _ _)) (ui st (by lia))) (dM st (Sm.mulOk (h.sG c2 (by lia)) (h.sT o c1 g (by lia)))))
 have K:ar (ai ef (aa (iV 0) ac)) [some _,Z (.tup [.int (c1),.int (o)]),Z (.tup [.int (c2),.int (m)]),Z (.int (S.G c1*S.T m c2)),Z (.int (S.G c2*S.T o c1)),none,none,none] st=some ((qan _).map _,st):=aL (ag U (oZ h));rcases xg h g l (Sm.two (h.sG c1 (by lia)) (h.sT m c2 l (by lia))) (Sm.two (h.sG c2 (by lia)) (h.sT o c1 g (by lia))) (qan (P.m+1)) none none none (λs O=>by have:=qaH.mp O;lia) with⟨b,e⟩|⟨e,he⟩
 ·exact⟨b,ax U (ao u (ao s4 (kK (bM K e))))⟩
 ·exact⟨false,ax U (ao u (ao s4 (ao (bM K he) U)))⟩
def kT (P:Pb) (S:Tb) (x:D):Prop:=x=.non\/∃ c r,c<P.n/\S.G c<0/\gU P S c=[r]/\r<P.m/\0<S.T r c/\(∀ i,i<P.m->i≠r->0<S.T i c->lexP (P.m+1) λs=>S.T r c*LV P S i s - S.T i c*LV P S r s)/\x=.tup [.int (c:Int),.int (r:Int)]
theorem qr (h:Okt P S) (hA:∀ i,i<P.m->∀ t,P.m<=t->P.A (S.kept i) t=0):∀ (j k:Nat) (x:D) (w n:Option W),k+j=P.n->kT P S x->(x=.non->∀ c,c<k->0<=S.G c)->
  (∃ c,c<P.n/\S.G c<0/\(∀ i,i<P.m->S.T i c<=0)/\cS (.nm 2) bV ((qe7 k j).map λc=>D.int ((c:Nat):Int)) [Z (obD P S),Z x,w,n] st=some (.rt (.d (.tup [.int (c:Int),.non])) st))\/
  ∃ y Y V,kT P S y/\(y=.non->∀ c,c<P.n->0<=S.G c)/\cS (.nm 2) bV ((qe7 k j).map λc=>D.int ((c:Nat):Int)) [Z (obD P S),Z x,w,n] st=some (.nx [Z (obD P S),Z y,Y,V] st)
 |0,k,x,w,n,hk,I,E=>.inr ⟨x,w,n,I,by rw[<-hk];exact E,U⟩
 |j+1,k,x,w,n,hk,I,E=>by
  have F:k<P.n:=by lia
  have f:cv (.nm 2) _ [some _,Z x,w,n]=some [Z (obD P S),Z x,Z (.int ((k:Nat):Int)),n]:=rfl;have J:∀ a b d,iV 0 [some _,a,b,d] st=some (.d (obD P S),st):=λ_ _ _=>rfl;have G:aN dGe (iOp dIx _ (iV 2)) (iC (.int 0)) [some _,Z x,some _,n] st=some (decide (S.G k>=0),st):=aE (ae (mh (J _ _ _)) U (eQ st (by lia))) U (Gu st _ _);rw[List.range'_succ,qas];by_cases hg:S.G k>=0
  ·rw[decide_eq_true hg]at G
   have hb:bV [Z (obD P S),Z x,Z (.int ((k:Nat):Int)),n] st=some (.ct [Z (obD P S),Z x,Z (.int ((k:Nat):Int)),n] st):=by
    have:=f7 (a:=pN) (b:=bn) G U
    show ah _ _ _ _=_;simp only[ah,this];rfl
   simp only[cS,f,qaa,hb]
   exact (qr h hA j (k+1) x (Z (.int ((k:Nat):Int))) n (by lia) I λe c hc=>by
    by_cases z:c=k
    ·rw[z];exact hg
    ·exact E e c (by lia))
  ·rw[decide_eq_false hg]at G
   have N:S.G k<0:=by lia
   have u:aw (.nm 3) (bz (aa (iV 2) (aa (ai ji (aa (iV 0) (aa (iV 2) ac))) ac))) [Z (obD P S),Z x,Z (.int ((k:Nat):Int)),n] st=some (.nx [Z (obD P S),Z x,Z (.int ((k:Nat):Int)),Z (.tup [.int ((k:Nat):Int),At (gU P S k)])] st):=
    aj (FH (ab U (ab (ag (ws:=[.d (obD P S),.d (.int ((k:Nat):Int))]) U (vS (st:=st) (c:=k) h (by lia))) U)) U (by show 2<=1000;decide))
   by_cases H:∀ i,i<P.m->S.T i k<=0
   ·rw[vQ H]at u
    left
    refine⟨k,F,N,H,?_⟩;have hb:bV [Z (obD P S),Z x,Z (.int ((k:Nat):Int)),n] st=some (.rt (.d (.tup [.int ((k:Nat):Int),.non])) st):=ao (cO G U) (ao u (kK (f7 (aE (ae U U (rB st _ _)) U (rd st)) U)));simp only[cS,f,qaa,hb]
   ·obtain⟨r,l1,l2,l3,l4⟩:=vR h hA H
    rw[l1]at u;have X:aN iF (iOp dIx (iV 3) (iC (.int 1))) (iC .non) [Z (obD P S),Z x,Z (.int ((k:Nat):Int)),Z (.tup [.int ((k:Nat):Int),.int ((r:Nat):Int)])] st=some (false,st):=aE (ae U U (rB st _ _)) U (xv st _);have v:kT P S _:=.inr ⟨k,r,F,N,l1,l2,l3,l4,U⟩;have R:∃ y,kT P S y/\y≠.non/\bV [Z (obD P S),Z x,Z (.int ((k:Nat):Int)),n] st=some (.nx [Z (obD P S),Z y,Z (.int ((k:Nat):Int)),Z (.tup [.int ((k:Nat):Int),.int ((r:Nat):Int)])] st):=by
     rcases I with rfl|⟨c,r',c1,c2,c3,c4,c5,c6,rfl⟩
     ·have t1:aN iF (iV 1) (iC .non) [Z (obD P S),Z .non,Z (.int ((k:Nat):Int)),Z (.tup [.int ((k:Nat):Int),.int ((r:Nat):Int)])] st=some (true,st):=aE U U (rd st)
      have t2:li (aN iF (iV 1) (iC .non)) (dI d8 (ai cp (aa (iV 0) (aa (iV 3) (aa (iV 1) ac))))) [Z (obD P S),Z .non,Z (.int ((k:Nat):Int)),Z (.tup [.int ((k:Nat):Int),.int ((r:Nat):Int)])] st=some (true,st):=by simp only[li,t1,qaa,if_true]
      exact⟨_,v,by simp,ao (cO G U) (ao u (ao (cO X U) (f7 t2 U)))⟩
     ·obtain⟨b,eb⟩:=Gv h F l2 c1 c4
      have t1:aN iF (iV 1) (iC .non) [Z (obD P S),Z (.tup [.int (c:Int),.int (r':Int)]),Z (.int ((k:Nat):Int)),Z (.tup [.int ((k:Nat):Int),.int ((r:Nat):Int)])] st=some (false,st):=aE U U (Cs st _);have t3:ai cp (aa (iV 0) (aa (iV 3) (aa (iV 1) ac))) [some _,some _,Z (.int ((k:Nat):Int)),some _] st=some (.d (.bl b),st):=ag U eb;have t2:li (aN iF (iV 1) (iC .non)) (dI d8 (ai cp (aa (iV 0) (aa (iV 3) (aa (iV 1) ac))))) [Z (obD P S),Z (.tup [.int (c:Int),.int (r':Int)]),Z (.int ((k:Nat):Int)),Z (.tup [.int ((k:Nat):Int),.int ((r:Nat):Int)])] st=some (b,st):=by simp only[li,t1,dI,t3,qaa,qa8,if_false,d8,qaj]
      cases b with
      |true=>exact⟨_,v,by simp,ao (cO G U) (ao u (ao (cO X U) (f7 t2 U)))⟩
      |false=>exact⟨_,.inr ⟨c,r',c1,c2,c3,c4,c5,c6,U⟩,by simp,ao (cO G U) (ao u (ao (cO X U) (cO t2 U)))⟩
    obtain⟨y,hy,hyn,hb⟩:=R;simp only[cS,f,qaa,hb];exact (qr h hA j (k+1) y (Z (.int ((k:Nat):Int))) (Z (.tup [.int ((k:Nat):Int),.int ((r:Nat):Int)])) (by lia) hy λe=>absurd e hyn)
theorem Gg (h:Okt P S) (hA:∀ i,i<P.m->∀ t,P.m<=t->P.A (S.kept i) t=0) :
  (∃ c,c<P.n/\S.G c<0/\(∀ i,i<P.m->S.T i c<=0)/\bR [.d (obD P S)] st=some (.d (.tup [.int (c:Int),.non]),st))\/
  ∃ y,kT P S y/\(y=.non->∀ c,c<P.n->0<=S.G c)/\bR [.d (obD P S)] st=some (.d y,st):=by
 have hn:=h.n64;have hr:bi (aa (iCB aZ (aa (ay "free" (iV 0)) ac)) ac) [Z (obD P S),Z .non,none,none] st=some ((qe7 0 P.n).map λc=>D.int ((c:Nat)),st):=by
  have e2:bh 0 P.n=(qe7 0 P.n).map λc=>D.int ((c:Nat)):=by
   unfold bh;rw[qgU];exact qbe λk _=>by rw[qcD]
  rw[<-e2];exact (dA (aF (ab (mf U) U) (show aZ st [.d _]=some _ by rw[j0,aH])) (by lia) (by lia) (by lia))
 rcases qr h hA P.n 0 .non none none (by lia) (.inl rfl) (λ_ c hc=>absurd hc (by lia)) with⟨c,c1,c2,c3,e⟩|⟨y,w,n,y1,y2,e⟩
 ·exact .inl ⟨c,c1,c2,c3,ax U (ao U (kK (bM hr e)))⟩
 ·exact .inr ⟨y,y1,y2,ax U (ao U (ao (bM hr e) U))⟩
end
end Own
set_option maxHeartbeats 1000000
namespace Own
open PySem L2
open Sx (Pb Tb Good Named Fe LV ZV piv lexP leastR leaveL sumN unit colV basis)
theorem fH {n k:Nat} (h:k<n):ixN n (k:Int)=some k:=by
 unfold ixN;rw[iFP (by lia),iFP (by lia)];rfl
theorem F8 (n:Nat) (f g:Nat->Int):fu (mpI n f) (mpI n g)=(qan n).map λc=>D.tup [.int (f c),.int (g c)]:=by
 apply qb4;intro i;rw[gI,qaF];by_cases hi:i<n
 ·rw[bP hi,bP hi,qbp hi];rfl
 ·rw[qaX (by rw[aH];lia),qaX (l:=qan n) (by rw[qaw];lia)];rfl
theorem DU {te:Ef}{l:Ev}{st:Sto}{g:Nat->D×D} (F:Nat->D) {a:List Nat} (h:∀ k∈a,te (Z (g k).1::some (.d (g k).2)::l) st=some (.d (F k),st)) :
  lcI (.tp [0,1]) az te (none::none::l) (a.map λk=>D.tup [(g k).1,(g k).2]) st=some (a.map F,st):=by
 have:=vL (tt:=az) _ F λk b=>⟨U,λ_=>h k b⟩
 rw[this,qg6.mpr λ_ _=>rfl]
theorem u7 {st:Sto}{n e:Nat}{f g:Nat->Int}{p:Int} (j:e<=n) (x:0<p) (sp:Sm p) (m:∀ c,c<=n->Sm (f c)) (sg:∀ c,c<=n->Sm (g c)) (z:n<=1000) :
  kC [.d (.lst (mpI (n+1) f)),.d (.lst (mpI (n+1) g)),.d (.int (e:Int)),.d (.int p)] st=some (.d (.lst (mpI (n+1) λc=>if c=e then - f e else (g e*f c - f e*g c) / p)),st):=by
 have a:e<n+1:=by lia
 have q:im (aa (iV 0) (aa (iV 1) ac)) [Z (.lst (mpI (n+1) f)),Z (.lst (mpI (n+1) g)),Z (.int (e:Int)),Z (.int p),Z (.int (g e)),Z (.int (f e)),none] st=some ((qan (n+1)).map λc=>D.tup [.int (f c),.int (g c)],st):=by
  rw[<-F8];rfl
 have t:lcI (.tp [0,1]) az lb [none,none,Z (.int (g e)),Z (.int (f e)),Z (.int p)] ((qan (n+1)).map λc=>D.tup [.int (f c),.int (g c)]) st=some (mpI (n+1) λc=>(g e*f c - f e*g c) / p,st):=by
  refine DU (g:=λc=>(D.int (f c),.int (g c))) _ λc y=>?_;have i:c<=n:=by have:=qaH.mp y;lia
  exact ae (ae (ae U U (dM st (Sm.mulOk (sg e j) (m c i)))) (ae U U (dM st (Sm.mulOk (m e j) (sg c i)))) U) U (qH st x sp)
 have o:aw (.nm 6) (cx (iLc 2 [4,5,3] (im (aa (iV 0) (aa (iV 1) ac))) (.tp [0,1]) az lb)) [Z (.lst (mpI (n+1) f)),Z (.lst (mpI (n+1) g)),Z (.int (e:Int)),Z (.int p),Z (.int (g e)),Z (.int (f e)),none] st=some (.nx [Z (.lst (mpI (n+1) f)),Z (.lst (mpI (n+1) g)),Z (.int (e:Int)),Z (.int p),Z (.int (g e)),Z (.int (f e)),some (.h st.length)] (st++[.l (mpI (n+1) λc=>(g e*f c - f e*g c) / p)])):=by
  refine aj ?_
  have:=aI (k:=2) (js:=[4,5,3]) q (by rw[qaf,qaw];lia) t
  simp only[cx,this,qaj]
 have s:bE (iV 6) (iV 2) (iUn fU (iV 5)) [Z (.lst (mpI (n+1) f)),Z (.lst (mpI (n+1) g)),Z (.int (e:Int)),Z (.int p),Z (.int (g e)),Z (.int (f e)),some (.h st.length)] (st++[.l (mpI (n+1) λc=>(g e*f c - f e*g c) / p)])=some (.nx [Z (.lst (mpI (n+1) f)),Z (.lst (mpI (n+1) g)),Z (.int (e:Int)),Z (.int p),Z (.int (g e)),Z (.int (f e)),some (.h st.length)] (st++[.l (mpI (n+1) λc=>if c=e then - f e else (g e*f c - f e*g c) / p)])):=by
  have r:dS (st++[.l (mpI (n+1) λc=>(g e*f c - f e*g c) / p)]) (.h st.length) (.d (.int (e:Int))) (.d (.int (- f e)))=some (st++[.l (mpI (n+1) λc=>if c=e then - f e else (g e*f c - f e*g c) / p)]):=by
   simp only[dS,dq,qaa,aH,fH a,qaj,i8,hU]
  have v:iUn fU (iV 5) [Z (.lst (mpI (n+1) f)),Z (.lst (mpI (n+1) g)),Z (.int (e:Int)),Z (.int p),Z (.int (g e)),Z (.int (f e)),some (.h st.length)] _=some (.d (.int (- f e)),st++[.l (mpI (n+1) λc=>(g e*f c - f e*g c) / p)]):=rfl;have w:iV 6 [Z (.lst (mpI (n+1) f)),Z (.lst (mpI (n+1) g)),Z (.int (e:Int)),Z (.int p),Z (.int (g e)),Z (.int (f e)),some (.h st.length)] _=some (.h st.length,st++[.l (mpI (n+1) λc=>(g e*f c - f e*g c) / p)]):=rfl;have u:iV 2 [Z (.lst (mpI (n+1) f)),Z (.lst (mpI (n+1) g)),Z (.int (e:Int)),Z (.int p),Z (.int (g e)),Z (.int (f e)),some (.h st.length)] _=some (.d (.int (e:Int)),st++[.l (mpI (n+1) λc=>(g e*f c - f e*g c) / p)]):=rfl;simp only[bE,v,w,u,qaa,r,qaj]
 have:=mW (n:=7) (k:=4) (b:=wO) (ws:=[.d (.lst (mpI (n+1) f)),.d (.lst (mpI (n+1) g)),.d (.int (e:Int)),.d (.int p)]) (st:=st) (h:=st.length) U (ao (aj (ae U U (eQ st a))) (ao (aj (ae U U (eQ st a))) (ao o (ao s U)))) (qap _) (dq _ _)
 rw[qcq]at this;exact this
abbrev stG (st0:Sto) (fr kp:List D) (fs:List (Str×W)):Sto:=st0++[.l fr,.l kp,.o fs]
def fsO (n:Nat) (b:List D) (a:List D) (p:Int) (L:Nat):List (Str×W):=[("amounts",.d (.int (n:Int))),("lines",.d (.lst b)),("goal",.d (.lst a)),("part",.d (.int p)),("free",.h L),("kept",.h (L+1))]
section
variable {st0:Sto}{fr kp:List D}{fs:List (Str×W)}
theorem sg2:(stG st0 fr kp fs)[st0.length+2]?=some (.o fs):=by rw[qaO (by lia)];simp
theorem sg0:lg (stG st0 fr kp fs) st0.length=some fr:=by unfold lg;rw[qaO (by lia)];simp
theorem sg1:lg (stG st0 fr kp fs) (st0.length+1)=some kp:=by unfold lg;rw[qaO (by lia)];simp
theorem ss2 {c:List (Str×W)}:(stG st0 fr kp fs).set (st0.length+2) (.o c)=stG st0 fr kp c:=by simp
theorem ss0 {x:List D}:(stG st0 fr kp fs).set st0.length (.l x)=stG st0 x kp fs:=by simp
theorem ss1 {x:List D}:(stG st0 fr kp fs).set (st0.length+1) (.l x)=stG st0 fr x fs:=by simp
theorem lF {f:Str}{w:W}{a:Ef}{env:Ev} (h:a env (stG st0 fr kp fs)=some (.h (st0.length+2),stG st0 fr kp fs)) (b:fs.lookup f=some w):ay f a env (stG st0 fr kp fs)=some (w,stG st0 fr kp fs):=by
 simp only[ay,h,qaa,sg2,b,qaj]
theorem sw {f:Str}{x:D}{o v:Ef}{env:Ev} (i:v env (stG st0 fr kp fs)=some (.d x,stG st0 fr kp fs)) (g:o env (stG st0 fr kp fs)=some (.h (st0.length+2),stG st0 fr kp fs)) (e:fs.length<1000) (b:(fs.lookup f).isSome=true):lO f o v env (stG st0 fr kp fs)=some (.nx env (stG st0 fr kp (oF f (.d x) fs))):=by
 simp only[lO,i,g,qaa,sg2,e,b,and_self,if_true,ss2]
end
section
variable {n L:Nat}{b a e c:List D}{p f:Int}
theorem De:oF ("goal" : Str) (.d (.lst c)) (fsO n b a p L)=fsO n b c p L:=rfl
theorem Bh:oF ("lines" : Str) (.d (.lst e)) (fsO n b a p L)=fsO n e a p L:=rfl
theorem Df:oF ("part" : Str) (.d (.int f)) (fsO n b a p L)=fsO n b a f L:=rfl
theorem uw:(fsO n b a p L).lookup ("lines" : Str)=some (.d (.lst b)):=rfl
theorem CA:(fsO n b a p L).lookup ("goal" : Str)=some (.d (.lst a)):=rfl
theorem CB:(fsO n b a p L).lookup ("part" : Str)=some (.d (.int p)):=rfl
end
def stO (st0:Sto) (P:Pb) (S:Tb):Sto:=stG st0 (mpI P.n (nI S.free)) (mpI P.m (nI S.kept)) (fsO P.n (aV P.m P.n S.T) (mpI (P.n+1) S.G) S.p st0.length)
theorem BP {st0:Sto}{P:Pb}{S:Tb}{ws:List W}{a:List W} (h:vwA (stO st0 P S) ws=some a):vwA (stO st0 P S) (.h (st0.length+2)::ws)=some (.d (obD P S)::a):=by
 have e:vwW (stO st0 P S) (.h (st0.length+2))=some (.d (obD P S)):=by
  unfold vwW stO;dsimp only;rw[sg2];dsimp only
  have:vwF (stG st0 (mpI P.n (nI S.free)) (mpI P.m (nI S.kept)) (fsO P.n (aV P.m P.n S.T) (mpI (P.n+1) S.G) S.p st0.length)) (fsO P.n (aV P.m P.n S.T) (mpI (P.n+1) S.G) S.p st0.length)=some [.int (P.n),.lst (aV P.m P.n S.T),.lst (mpI (P.n+1) S.G),.int S.p,.lst (mpI P.n (nI S.free)),.lst (mpI P.m (nI S.kept))]:=by
   simp only[fsO,vwF,qaj,qaa];rw[sg0,sg1];rfl
  rw[this];rfl
 simp only[vwA,e,h,qaa,qaj]
theorem zc {m n r:Nat}{F:Nat->Nat->Int}{g:Nat->Int}:((qan m).map λi=>D.lst (mpI (n+1) (F i))).set r (.lst (mpI (n+1) g))=aV m n λi=>if i=r then g else F i:=by
 apply qb4;intro i;by_cases hi:i<m
 ·rw[om hi]
  by_cases e:i=r
  ·subst e
   rw[qbd (by rw[qaf,qaw];exact hi)];unfold lnD;dsimp only;rw[iFP U]
  ·rw[qbz (qbr e),qaF,qbp hi]
   unfold lnD;dsimp only;rw[iFN e];rfl
 ·rw[qaX (by rw[qb2,qaf,qaw];lia),qaX (by rw[cM];lia)]
theorem Ce {st0:Sto}{P:Pb}{S:Tb} (h:Okt P S) {r e:Nat} (u:r<P.m) (O:e<P.n):eU [.h (st0.length+2),.d (.int (r:Int)),.d (.int (e:Int))] (stO st0 P S)=some (.d .non,stO st0 P (piv S r e)):=by
 have hm:=h.m64;have hn:=h.n64;have L:=h.good.pos
 -- turning,part
 generalize w:S.T=T at *;have fin:∀ (env:Ev) (s:Sto),jG [some _,some _,some _,none,none,none,none] _=some (.nx env s)->s.take (stO st0 P S).length=s->eU [.h (st0.length+2),.d (.int (r)),.d (.int (e))] _=some (.d .non,s):=λenv s V h2=>by
  show (jG [some _,some _,some _,none,none,none,none] _).bind _=_;rw[V];show some (W.d .non,s.take (stO st0 P S).length)=_;rw[h2]
 have m:∀ (a b c d g i:Option W) (s:Sto),iV 0 [some _,a,b,c,d,g,i] s=some (.h (st0.length+2),s):=λ_ _ _ _ _ _ _=>rfl;have s3:aw (.nm 3) (iOp dIx (ay ("lines") (iV 0)) (iV 1)) [some (.h (st0.length+2)),some (.d (.int (r))),some (.d (.int (e))),none,none,none,none] (stO st0 P S)=some (.nx [some (.h (st0.length+2)),some (.d (.int (r))),some (.d (.int (e))),some (.d (.lst (mpI (P.n+1) (T r)))),none,none,none] (stO st0 P S)):=by
  refine aj (ae (lF (m _ _ _ _ _ _ _) uw) U ?_);rw[w];exact uj _ u
 have sT:∀ i c,i<P.m->c<=P.n->Sm (T i c):=λi c hi q=>by rw[<-w];exact h.sT i c hi q
 have B:iLc 1 [3,2,4] (ar (ay ("lines" : Str) (iV 0))) (.nm 0) az dW [some (.h (st0.length+2)),some (.d (.int (r:Int))),some (.d (.int (e:Int))),some (.d (.lst (mpI (P.n+1) (T r)))),some (.d (.int S.p)),none,none] (stO st0 P S)=some ((qan P.m).map λi=>D.lst (mpI (P.n+1) λc=>if c=e then - T i e else (T r e*T i c - T i e*T r c) / S.p),stO st0 P S):=by
  refine aI (aL (lF (f:=("lines" : Str)) (a:=iV 0) (st0:=st0) (fr:=mpI P.n (nI S.free)) (kp:=mpI P.m (nI S.kept)) (fs:=fsO P.n (aV P.m P.n S.T) (mpI (P.n+1) S.G) S.p st0.length) (m (some (.d (.int (r:Int)))) (some (.d (.int (e:Int)))) (some (.d (.lst (mpI (P.n+1) (T r))))) (some (.d (.int S.p))) none none _) uw)) (by rw[cM];lia) ?_
  show lcI (.nm 0) az dW [none,some (.d (.lst (mpI (P.n+1) (T r)))),some (.d (.int (e:Int))),some (.d (.int S.p))] (aV P.m P.n S.T) (stO st0 P S)=_;rw[show aV P.m P.n S.T=(qan P.m).map (lnD P.n T) by rw[w];rfl];refine iT (g:=lnD P.n T) _ λi hi=>?_;exact ag (ws:=[.d (lnD P.n T i),.d (.lst (mpI (P.n+1) (T r))),.d (.int (e:Int)),.d (.int S.p)]) U (u7 (f:=T i) (g:=T r) (by lia) L h.sp (λc q=>sT i c (qaH.mp hi) q) (λc q=>sT r c u q) (by lia))
 have s5:i3 5 1 2 3 4 (iLc 1 [3,2,4] (ar (ay ("lines" : Str) (iV 0))) (.nm 0) az dW) [some (.h (st0.length+2)),some (.d (.int (r:Int))),some (.d (.int (e:Int))),some (.d (.lst (mpI (P.n+1) (T r)))),some (.d (.int S.p)),none,none] (stO st0 P S)=some (.nx [some (.h (st0.length+2)),some (.d (.int (r:Int))),some (.d (.int (e:Int))),some (.d (.lst (mpI (P.n+1) (T r)))),some (.d (.int S.p)),some (.d (.lst (aV P.m P.n (piv S r e).T))),none] (stO st0 P S)):=by
  simp only[i3,B,qaa,qaJ,qaB];rw[qaf,qaw,fH u,aH,fH (by lia:e<P.n+1),qaa,qaa,iFP ⟨by lia,by show 5<7;decide,uH _ _⟩,hU,zc];show some (Fl.nx [_,_,_,_,_,some (W.d (.lst (aV P.m P.n _))),none] _)=_
  have:(λi=>if i=r then (λj=>if j=e then S.p else T r j) else λc=>if c=e then - T i e else (T r e*T i c - T i e*T r c) / S.p)=(piv S r e).T:=by
   funext i c
   show _=if i=r then (if c=e then S.p else S.T r c) else _;rw[w];by_cases hi:i=r
   ·rw[iFP hi,iFP hi]
   ·rw[iFN hi,iFN hi]
  rw[this]
 have R:=by
  have e0:=by
   funext c
   show _=if c=e then - S.G e else (S.T r e*S.G c - S.G e*S.T r c) / S.p;rw[w]
  have Q:=u7 (st:=stO st0 P S) (f:=S.G) (g:=T r) (n:=P.n) (e:=e) (by lia) L h.sp (λc q=>h.sG c q) (λc q=>sT r c u q) (by lia);rw[e0]at Q
  have:=sw (f:=("goal" : Str)) (o:=iV 0) (v:=ai kC (aa (ay ("goal" : Str) (iV 0)) (aa (iV 3) (aa (iV 2) (aa (iV 4) ac))))) (st0:=st0) (fr:=mpI P.n (nI S.free)) (kp:=mpI P.m (nI S.kept)) (fs:=fsO P.n (aV P.m P.n S.T) (mpI (P.n+1) S.G) S.p st0.length) (ag (ab (lF (f:=("goal" : Str)) (a:=iV 0) (st0:=st0) (fr:=mpI P.n (nI S.free)) (kp:=mpI P.m (nI S.kept)) (fs:=fsO P.n (aV P.m P.n S.T) (mpI (P.n+1) S.G) S.p st0.length) (m (some (.d (.int (r:Int)))) (some (.d (.int (e:Int)))) (some (.d (.lst (mpI (P.n+1) (T r))))) (some (.d (.int S.p))) (some (.d (.lst (aV P.m P.n (piv S r e).T)))) none _) CA) (ab U (ab U (ab U U)))) Q) (m _ _ _ _ _ _ _) (by show 6<1000;decide) U
  rw[De]at this;exact this
 have X:=by
  have:=sw (f:=("lines" : Str)) (o:=iV 0) (v:=iV 5) (x:=.lst (aV P.m P.n (piv S r e).T)) (env:=[some (.h (st0.length+2)),some (.d (.int (r:Int))),some (.d (.int (e:Int))),some (.d (.lst (mpI (P.n+1) (T r)))),some (.d (.int S.p)),some (.d (.lst (aV P.m P.n (piv S r e).T))),none]) (st0:=st0) (fr:=mpI P.n (nI S.free)) (kp:=mpI P.m (nI S.kept)) (fs:=fsO P.n (aV P.m P.n S.T) (mpI (P.n+1) (piv S r e).G) S.p st0.length) U U (by show 6<1000;decide) U
  rw[Bh]at this;exact this
 have M:lO ("part" : Str) (iV 0) (iOp dIx (iV 3) (iV 2)) [some (.h (st0.length+2)),some (.d (.int (r:Int))),some (.d (.int (e:Int))),some (.d (.lst (mpI (P.n+1) (T r)))),some (.d (.int S.p)),some (.d (.lst (aV P.m P.n (piv S r e).T))),none] (stG st0 (mpI P.n (nI S.free)) (mpI P.m (nI S.kept)) (fsO P.n (aV P.m P.n (piv S r e).T) (mpI (P.n+1) (piv S r e).G) S.p st0.length))=some (.nx [some (.h (st0.length+2)),some (.d (.int (r:Int))),some (.d (.int (e:Int))),some (.d (.lst (mpI (P.n+1) (T r)))),some (.d (.int S.p)),some (.d (.lst (aV P.m P.n (piv S r e).T))),none] (stG st0 (mpI P.n (nI S.free)) (mpI P.m (nI S.kept)) (fsO P.n (aV P.m P.n (piv S r e).T) (mpI (P.n+1) (piv S r e).G) (piv S r e).p st0.length))):=by
  have ep:(piv S r e).p=T r e:=by show S.T r e=_;rw[w]
  have:=sw (f:=("part" : Str)) (o:=iV 0) (v:=iOp dIx (iV 3) (iV 2)) (x:=.int (T r e)) (env:=[some (.h (st0.length+2)),some (.d (.int (r:Int))),some (.d (.int (e:Int))),some (.d (.lst (mpI (P.n+1) (T r)))),some (.d (.int S.p)),some (.d (.lst (aV P.m P.n (piv S r e).T))),none]) (st0:=st0) (fr:=mpI P.n (nI S.free)) (kp:=mpI P.m (nI S.kept)) (fs:=fsO P.n (aV P.m P.n (piv S r e).T) (mpI (P.n+1) (piv S r e).G) S.p st0.length) (ae U U (eQ _ (by lia))) U (by show 6<1000;decide) U
  rw[Df]at this;rw[ep];exact this
 generalize t:fsO P.n (aV P.m P.n (piv S r e).T) (mpI (P.n+1) (piv S r e).G) (piv S r e).p st0.length=FS at M;generalize hLN:W.d (.lst (aV P.m P.n (piv S r e).T))=LN at *;generalize Y:W.d (.lst (mpI (P.n+1) (T r)))=TR at *;have y:∀ {fr kp:List D}{k:Nat}{d:D},fr[k]?=some d->dIx (stG st0 fr kp FS) (.h st0.length) (.d (.int (k:Int)))=some d:=λ{fr kp k d} H=>by
  show (lg (stG st0 fr kp FS) st0.length).bind (λds=>atI ds (k:Int))=_;rw[sg0,qaa,bS H]
 have z:∀ {fr kp:List D}{k:Nat}{d:D},kp[k]?=some d->dIx (stG st0 fr kp FS) (.h (st0.length+1)) (.d (.int (k:Int)))=some d:=λ{fr kp k d} H=>by
  show (lg (stG st0 fr kp FS) (st0.length+1)).bind (λds=>atI ds (k:Int))=_;rw[sg1,qaa,bS H]
 have N:FS.lookup ("free" : Str)=some (.h st0.length):=by rw[<-t];rfl
 have K:FS.lookup ("kept" : Str)=some (.h (st0.length+1)):=by rw[<-t];rfl
 have E:bE (ay ("free" : Str) (iV 0)) (iV 2) (iOp dIx (ay ("kept" : Str) (iV 0)) (iV 1)) [some (.h (st0.length+2)),some (.d (.int (r:Int))),some (.d (.int (e:Int))),some TR,some (.d (.int S.p)),some LN,some (.d (.int (nI S.free e)))] (stG st0 (mpI P.n (nI S.free)) (mpI P.m (nI S.kept)) FS)=some (.nx [some (.h (st0.length+2)),some (.d (.int (r:Int))),some (.d (.int (e:Int))),some TR,some (.d (.int S.p)),some LN,some (.d (.int (nI S.free e)))] (stG st0 (mpI P.n (nI (piv S r e).free)) (mpI P.m (nI S.kept)) FS)):=by
  have F:iOp dIx (ay ("kept" : Str) (iV 0)) (iV 1) [some (.h (st0.length+2)),some (.d (.int (r:Int))),some (.d (.int (e:Int))),some TR,some (.d (.int S.p)),some LN,some (.d (.int (nI S.free e)))] (stG st0 (mpI P.n (nI S.free)) (mpI P.m (nI S.kept)) FS)=some (.d (.int (nI S.kept r)),stG st0 (mpI P.n (nI S.free)) (mpI P.m (nI S.kept)) FS):=ae (lF (m _ _ _ _ _ _ _) K) U (z (bP u))
  have C:=lF (f:=("free" : Str)) (a:=iV 0) (st0:=st0) (fr:=mpI P.n (nI S.free)) (kp:=mpI P.m (nI S.kept)) (fs:=FS) (m (some (.d (.int (r:Int)))) (some (.d (.int (e:Int)))) (some TR) (some (.d (.int S.p))) (some LN) (some (.d (.int (nI S.free e)))) _) N
  have A:iV 2 [some (.h (st0.length+2)),some (.d (.int (r:Int))),some (.d (.int (e:Int))),some TR,some (.d (.int S.p)),some LN,some (.d (.int (nI S.free e)))] (stG st0 (mpI P.n (nI S.free)) (mpI P.m (nI S.kept)) FS)=some (.d (.int (e:Int)),stG st0 (mpI P.n (nI S.free)) (mpI P.m (nI S.kept)) FS):=rfl;have I:dS (stG st0 (mpI P.n (nI S.free)) (mpI P.m (nI S.kept)) FS) (.h st0.length) (.d (.int (e:Int))) (.d (.int (nI S.kept r)))=some (stG st0 (mpI P.n (nI (piv S r e).free)) (mpI P.m (nI S.kept)) FS):=by
   simp only[dS,sg0,qaa,aH,fH O,qaj,ss0,hU]
   congr 3
   funext j
   show _=(((if j=e then S.kept r else S.free j:Nat)):Int);by_cases l:j=e
   ·rw[iFP l,iFP l];rfl
   ·rw[iFN l,iFN l];rfl
  simp only[bE,F,C,A,qaa,I,qaj]
 have J:bE (ay ("kept" : Str) (iV 0)) (iV 1) (iV 6) [some (.h (st0.length+2)),some (.d (.int (r:Int))),some (.d (.int (e:Int))),some TR,some (.d (.int S.p)),some LN,some (.d (.int (nI S.free e)))] (stG st0 (mpI P.n (nI (piv S r e).free)) (mpI P.m (nI S.kept)) FS)=some (.nx [some (.h (st0.length+2)),some (.d (.int (r:Int))),some (.d (.int (e:Int))),some TR,some (.d (.int S.p)),some LN,some (.d (.int (nI S.free e)))] (stG st0 (mpI P.n (nI (piv S r e).free)) (mpI P.m (nI (piv S r e).kept)) FS)):=by
  have F:iV 6 [some (.h (st0.length+2)),some (.d (.int (r:Int))),some (.d (.int (e:Int))),some TR,some (.d (.int S.p)),some LN,some (.d (.int (nI S.free e)))] (stG st0 (mpI P.n (nI (piv S r e).free)) (mpI P.m (nI S.kept)) FS)=some (.d (.int (nI S.free e)),stG st0 (mpI P.n (nI (piv S r e).free)) (mpI P.m (nI S.kept)) FS):=rfl;have C:=lF (f:=("kept" : Str)) (a:=iV 0) (st0:=st0) (fr:=mpI P.n (nI (piv S r e).free)) (kp:=mpI P.m (nI S.kept)) (fs:=FS) (m (some (.d (.int (r:Int)))) (some (.d (.int (e:Int)))) (some TR) (some (.d (.int S.p))) (some LN) (some (.d (.int (nI S.free e)))) _) K
  have A:iV 1 [some (.h (st0.length+2)),some (.d (.int (r:Int))),some (.d (.int (e:Int))),some TR,some (.d (.int S.p)),some LN,some (.d (.int (nI S.free e)))] (stG st0 (mpI P.n (nI (piv S r e).free)) (mpI P.m (nI S.kept)) FS)=some (.d (.int (r:Int)),stG st0 (mpI P.n (nI (piv S r e).free)) (mpI P.m (nI S.kept)) FS):=rfl;have I:dS (stG st0 (mpI P.n (nI (piv S r e).free)) (mpI P.m (nI S.kept)) FS) (.h (st0.length+1)) (.d (.int (r:Int))) (.d (.int (nI S.free e)))=some (stG st0 (mpI P.n (nI (piv S r e).free)) (mpI P.m (nI (piv S r e).kept)) FS):=by
   simp only[dS,sg1,qaa,aH,fH u,qaj,ss1,hU]
   congr 3
   congr 1
   funext j
   show _=(((if j=r then S.free e else S.kept j:Nat)):Int);by_cases l:j=r
   ·rw[iFP l,iFP l];rfl
   ·rw[iFN l,iFN l];rfl
  simp only[bE,F,C,A,qaa,I,qaj]
 have:=fin _ _ (ao s3 (ao (aj (lF (m _ _ _ _ _ _ _) CB)) (ao s5 (ao R (ao X (ao M (ao (aj (ae (lF (m _ _ _ _ _ _ _) N) U (y (bP O)))) (ao E J)))))))) ?_
 ·rw[this,<-t];rfl
 ·refine qcZ ?_
  unfold stO stG;rw[qav,qav];exact qap _
end Own
namespace Sx
theorem sumN_abs {n:Nat}{f:Nat->Int}{B:Nat} (h:∀ k,k<n->(f k).natAbs<=B):(sumN n f).natAbs<=n*B:=by
 induction n with
 |zero=>rw[sumN];omega
 |succ n w=>
  rw[sumN,qjY];have q:=w λk l=>h k (by omega);have z:=h n (by omega);omega
theorem sg_abs (k:Nat):(sg k).natAbs=1:=by unfold sg;split<;>rfl
theorem det_le {B X:Nat}:∀ (m:Nat) {C:Nat->Vec},m*B<=X->(∀ k t,k<m->t<m->(C k t).natAbs<=B)->(det m C).natAbs<=X^m
 |0,C,_,_=>by exact qap _
 |m+1,C,p,h=>by
  have:=sumN_abs (f:=λk=>sg k*C k 0*det m _) λk l=>by
   rw[qct,qct,sg_abs,qjX];exact qcY (h k 0 l (by omega)) (det_le m (C:=λj t=>C (skip k j) (t+1)) (qaM (qcQ B (by omega)) p) λj t D d=>h _ _ (by unfold skip;split<;>omega) (by omega))
  refine qaM this ?_;rw[<-qeA,Nat.pow_succ,qdS (X^m)];exact qcQ _ p
structure Bd (P:Pb):Prop where
 m64:P.m<=64
 n64:P.n<=100
 A:∀ k,k<P.n+P.m->∀ t,t<P.m->(P.A k t).natAbs<=2^50
 b:∀ t,t<P.m->(P.b t).natAbs<=2^50
 g:∀ k,k<P.n+P.m->(P.g k).natAbs<=2^50
variable {P:Pb}
theorem Bd.det (h:Bd P) {C:Nat->Vec} (u:∀ k t,k<P.m->t<P.m->(C k t).natAbs<=2^50):(det P.m C).natAbs<=2^3584:=by
 have y:=h.m64
 refine qaM (det_le (X:=2 ^ 56) P.m (by
  have:P.m*2^50<=64*2^50:=qcQ _ y
  exact qaM this (by decide)) u) ?_
 rw[<-qjW];exact qaV (by decide) (by omega)
theorem unit_le (r t:Nat):(unit r t).natAbs<=2^50:=by unfold unit;split<;>decide
theorem Bd.basis (h:Bd P) {S:Tb} (e:Named P S) {v:Vec} (x:∀ t,t<P.m->(v t).natAbs<=2^50) (i k t:Nat) (l:k<P.m) (d:t<P.m):(upd (basis P S) i v k t).natAbs<=2^50:=by
 unfold upd;split
 ·exact x t d
 ·exact h.A _ (e.bound.2 k l) t d
theorem Bd.T (h:Bd P) {S:Tb} (hg:Good P S) (e:Named P S) {i c:Nat} (hi:i<P.m) (o:c<=P.n):(S.T i c).natAbs<=2^3584:=by
 rw[hg.entry o hi];refine h.det λk t l d=>h.basis e (λt d=>?_) i k t l d;unfold colV;by_cases a:c<P.n
 ·rw[iFP a];exact h.A _ (e.bound.1 c a) t d
 ·rw[iFN a];exact h.b t d
theorem Bd.L (h:Bd P) {S:Tb} (e:Named P S) (i s:Nat):(LV P S i s).natAbs<=2^3584:=by
 refine h.det λk t l d=>h.basis e (λt d=>?_) i k t l d;unfold XV;split
 ·exact h.b t d
 ·exact unit_le _ _
theorem Bd.p (h:Bd P) {S:Tb} (hg:Good P S) (e:Named P S):S.p.natAbs<=2^3584:=by
 rw[hg.dt];exact h.det λk t l d=>h.A _ (e.bound.2 k l) t d
theorem Bd.G (h:Bd P) {S:Tb} (hg:Good P S) (e:Named P S) {c:Nat} (o:c<=P.n):(S.G c).natAbs<=65*(2^50*2^3584):=by
 rw[hg.goal c o];have q:=sumN_abs λi hi=>by
  rw[qct];exact qcY (h.g _ (e.bound.2 i hi)) (h.T hg e hi o)
 have z:(S.p*gainC P S c).natAbs<=2^50*2^3584:=by
  rw[qct,qdS];refine qcY ?_ (h.p hg e);unfold gainC;by_cases a:c<P.n
  ·rw[iFP a];exact h.g _ (e.bound.1 c a)
  ·rw[iFN a];decide
 have E:P.m*_<=64*(2^50*2^3584):=qcQ _ h.m64;omega
end Sx
set_option maxHeartbeats 1000000
namespace Own
open PySem L2
open Sx (Pb Tb Good Named Fe LV ZV piv lexP leastR leaveL sumN unit colV basis)
theorem yf {a b:Nat} (h:a<b):2^a<2^b:=Nat.pow_lt_pow_right (by decide) h
theorem Bx {z:Int} (h:z.natAbs<=2^3584):Sm z:=qbF h (yf (by decide))
theorem FQ {z:Int} (h:z.natAbs<=65*(2^50*2^3584)):Sm z:=by
 refine qbF h ?_;refine qbF (qcQ _ (by decide:65<=2^7)) ?_;rw[<-qhl,<-qhl];exact yf (by decide)
theorem E8 {P:Pb}{S:Tb} (b:Sx.Bd P) (g:Good P S) (n:Named P S):Okt P S:=by
 have d:=b.m64;exact⟨g,n,by lia,b.n64,λi c hi a=>Bx (b.T g n hi a),λi s _ _=>Bx (b.L n i s),λc a=>FQ (b.G g n a),Bx (b.p g n)⟩
theorem Eb {c:Tf}{b:Sf}{m:Nat}{env:Ev}{st s:Sto} (h:c env st=some (false,s)):cP c b (m+1) env st=some (.nx env s):=by
 rw[cP,h];rfl
theorem Bm {c:Tf}{b:Sf}{m:Nat}{env e:Ev}{st s a:Sto}{r:Option Fl} (h:c env st=some (true,s)) (hb:b env s=some (.nx e a)) (d:cP c b m e a=r):cP c b (m+1) env st=r:=by
 rw[cP,h];show ((b env s).bind _)=_;rw[hb];exact d
theorem Ha {c:Tf}{b:Sf}{m:Nat}{env:Ev}{st s a:Sto}{w:W} (h:c env st=some (true,s)) (hb:b env s=some (.rt w a)):cP c b (m+1) env st=some (.rt w a):=by
 rw[cP,h];show ((b env s).bind _)=_;rw[hb];rfl
theorem lK {st:Sto}{a0 a2:Option W}:∀ (n a b:Nat) (o:Option W),b<n->∃ c,cP ft fO n [a0,Z (.int (a:Int)),a2,Z (.int (b:Int)),o] st=some (.nx [a0,Z (.int ((qaW a b:Nat):Int)),a2,Z (.int 0),c] st)
 |0,a,b,o,h=>by lia
 |n+1,a,b,o,h=>by
  by_cases hb:b=0
  ·subst hb
   refine⟨o,?_⟩;rw[Nat.gcd_zero_right];exact Eb U
  ·have e:(!((b)==(0:Int)))=true:=by lia
   obtain⟨c,f⟩:=lK n b (a%b) _ (by have:=Nat.mod_lt a (qhq hb);lia);refine⟨c,?_⟩;have i:qaW a b=qaW b (a%b):=by rw[qjF a b,Nat.gcd_rec b a,qjF]
   have g:(0)<(b:Int):=by lia
   have em:iG st (.d (.int (a))) (.d (.int (b)))=some (.int ((a%b:Nat))):=by
    simp only[iG,g,if_true];rfl
   rw[i,<-f];exact Bm (aE U U ((DY st _).trans (by rw[e]))) (ao (aj (ae U U em)) U) U
theorem qN {st:Sto}{ns:List Int}{d0:D} (f:∀ (l:Ev) (s:Sto),ar (iV 0) (Z d0::l) s=some (ns.map D.int,s)) (o:∀ n∈ns,Sm n):bB [.d d0] st=some (.d (.int ((bW 0 ns:Nat):Int)),st):=by
 obtain⟨j,t,e2,⟨h,c,a,rfl⟩,rfl⟩:=bU (g:=.nm 2) (body:=fI) (λi env s=>(∃ h c a,env=[Z d0,Z (.int ((bW 0 (ns.take i)))),h,c,a])/\s=st)
  ⟨⟨_,_,_,U⟩,U⟩ (λi d env s hd ⟨⟨h,c,a,e⟩,es⟩=>by
   subst e es;rw[qaF,qad]at hd;obtain⟨n,k,rfl⟩:=hd;obtain⟨hi,b⟩:=qat.mp k;have p:zW s [.d (.int n)]=some (.int ((n.natAbs))):=by
    show some _=_;rw[show (if n<0 then -n else n)=((n.natAbs)) by split<;>lia]
   have r:bW 0 (ns.take (i+1))=qaW (bW 0 (ns.take i)) n.natAbs:=by
    rw[qfr hi,b,t9]
   obtain⟨m,q⟩:=lK (st:=s) (a0:=some (.d d0)) (a2:=some (.d (.int n))) (2^8000) (bW 0 (ns.take i)) n.natAbs a (qeW (o n (qby k)) (yf (by decide)));refine⟨_,[some _,some _,Z (.int n),Z (.int 0),m],s,U,.inl ?_,⟨_,_,_,U⟩,U⟩;rw[r]
   exact ao (aj (aF (ab U U) p)) q)
 rw[qaf,qeB]at e2;exact ax U (ao U (ao (bM (f _ _) e2) U))
theorem nK {st:Sto}{ns:List Int} (a:∀ n∈ns,Sm n):bB [.d (.lst (ns.map D.int))] st=some (.d (.int ((bW 0 ns:Nat):Int)),st):=qN (λ_ _=>aL U) a
theorem nu {te:Ef}{st:Sto}{ns:List Int}{g:Int} (a:0<g) (hg:Sm g) (b:te=iOp qF (iV 0) (iV 1)):lcI (.nm 0) az te [none,Z (.int g)] (ns.map D.int) st=some ((ns.map λx=>x / g).map D.int,st):=by
 subst b
 rw [(dC (λd=>match d with | .int x=>.int (x / g) | d=>d) λd hd=>by
  obtain⟨y,c,rfl⟩:=qay.mp hd
  exact⟨_,U,ae U U (qH st a hg)⟩),qaC,qaC];rfl
theorem jN {ns:List Int}{x:Int} (d:x∈ns) (a:x≠0) (b:Sm x):0<((bW 0 ns:Nat):Int)/\Sm ((bW 0 ns:Nat):Int):=by
 obtain⟨e,c⟩:=nJ d a;refine⟨by lia,?_⟩;exact qbF c b
theorem vU {st:Sto}{ns:List Int} (hb:∀ x∈ns,Sm x) (i:∃ x∈ns,x≠0) (k:ns.length<=1000):bI [.d (.lst (ns.map D.int))] st=some (.d (.tup ((ns.map λx=>x / ((bW 0 ns:Nat):Int)).map D.int)),st):=by
 obtain⟨x,a,b⟩:=i;have j:=nK (st:=st) hb;obtain⟨e,f⟩:=jN a b (hb x a);generalize ((bW 0 ns):Int)=g at *;have h:(g==(0))=false:=by lia
 have c:(ns.map D.int).length<=1000000:=by rw[qaf];lia
 exact ax U (ao (aj (ag U j)) (ao (cO (aE U U (by rw[eO,h])) U) (aA (aF (ab (ak (aI (aL U) c (nu e f U))) U) U))))
def acc (e:Nat->Nat) (y:Nat->Int) (i k:Nat):Int:=sumN i λj=>if e j=k then y j else 0
theorem sY (e:Nat->Nat) (y:Nat->Int) (i k:Nat):acc e y (i+1) k=acc e y i k+if e i=k then y i else 0:=rfl
theorem m7 {e:Nat->Nat}{y:Nat->Int}{i k:Nat} (h:∀ j,j<i->e j≠k):acc e y i k=0:=by
 unfold acc;rw[Sx.sumN_congr λj a=>iFN (h j a),Sx.sumN_zero]
theorem qh {e:Nat->Nat}{y:Nat->Int}{d N i:Nat} (hd:d<=e i) (b:∀ j,j<i->e j≠e i):(mpI N λr=>acc e y i (d+r)).set (e i - d) (.int (y i))=mpI N λr=>acc e y (i+1) (d+r):=by
 rw[hU];refine bJ λr _=>?_;rw[sY];by_cases c:r=e i - d
 ·rw[m7 λj a=>by have:=b j a;lia];lia
 ·lia
theorem sW {e:Nat->Nat}{y:Nat->Int}{d N i:Nat} (h:∀ r,r<N->e i≠d+r):(mpI N λr=>acc e y i (d+r))=mpI N λr=>acc e y (i+1) (d+r):=by
 refine bJ λr a=>?_;rw[sY,iFN (h r a)];lia
theorem BU (n:Nat) (e:Nat->Nat) (y:Nat->Int) (d:Nat):(qaL n [D.int 0]).flatten=mpI n λr=>acc e y 0 (d+r):=by
 show _=(qan n).map λ_=>D.int 0
 induction n with
 |zero=>rfl
 |succ n a=>rw[qgT,qg4,a,qd0,qbs];rfl
theorem jm {f:Ef}{env:Ev}{st:Sto}{n:Nat} (b:f env st=some (.d (.int (n:Int)),st)) (c:n<=900) (e:Nat->Nat) (y:Nat->Int) (d:Nat):cx (ud n8 (ap (bD (aa (iC (.int 0)) ac))) f) env st=some (.h st.length,st++[.l (mpI n λr=>acc e y 0 (d+r))]):=by
 have a:ud n8 (ap (bD (aa (iC (.int 0)) ac))) f env st=some (mpI n λr=>acc e y 0 (d+r),st):=by
  show ((f env st).bind λq=>(n8 q.2 (.d (.lst [.int 0])) q.1).map λl=>(l,q.2))=_;rw[b];show (n8 st _ _).map _=_;unfold n8;dsimp only;rw[iFP ⟨by decide,by lia,by lia⟩,qaE,BU n e y d];rfl
 simp only[cx,a,qaj]
end Own
set_option maxHeartbeats 1000000
namespace Own
open PySem L2
open Sx (Pb Tb Good Named Fe LV ZV piv lexP leastR leaveL sumN unit colV basis)
theorem sIx {o i v:Ef}{env:Ev}{st:Sto}{xs:List D}{k:Nat}{d:D} (e:v env (st++[.l xs])=some (.d d,st++[.l xs])) (a:o env (st++[.l xs])=some (.h st.length,st++[.l xs])) (hi:i env (st++[.l xs])=some (.d (.int (k:Int)),st++[.l xs])) (b:k<xs.length):bE o i v env (st++[.l xs])=some (.nx env (st++[.l (xs.set k d)])):=by
 have c:dS (st++[.l xs]) (.h st.length) (.d (.int (k))) (.d d)=some (st++[.l (xs.set k d)]):=by
  simp only[dS,dq,qaa,fH b,qaj,i8]
 simp only[bE,e,a,hi,qaa,c,qaj]
theorem qJ {a:Ef}{env:Ev}{st:Sto}{m:Nat}{f:Nat->Nat} (h:a env st=some (.d (.lst (mpI m (nI f))),st)):cY (aa a ac) env st=some ((qan m).map λi=>D.tup [.int ((i:Nat):Int),.int (nI f i)],st):=by
 have:=ab (b:=ac) h U
 rw[<-wX];simp only[cY,this,qaa]
theorem ow {m:Nat}{g:Nat->D}{i:Nat}{d:D} (h:((qan m).map g)[i]?=some d):i<m/\d=g i:=by
 rw[qaF,qad]at h;obtain⟨k,b,rfl⟩:=h;obtain⟨hi,a⟩:=qat.mp b;rw[qc1]at a;rw[qaw]at hi;exact⟨hi,by rw[a]⟩
theorem jn:∀ ns:List Int,v8 (ns.map D.int)=true
 |[]=>rfl
 |n::ns=>jn ns
theorem AJ (n:Nat) (f:Nat->Int):okT (.tup (mpI n f))=true:=by
 rw[cj];exact jn _
section
variable {P:Pb}{S:Tb}{st:Sto}
theorem Gd (h:Okt P S):gZ [.d (obD P S)] st=some (.d (.lst (mpI P.n λk=>acc S.kept (λi=>S.T i P.n) P.m k)),st):=by
 have hn:=h.n64;generalize L:(λi=>S.T i P.n)=y;have p:∀ (a b c:Option W) (s:Sto),iV 0 [some _,a,b,c] s=some (.d (obD P S),s):=λ_ _ _ _=>rfl;obtain⟨w,s2,e2,⟨m,q,rfl⟩,rfl⟩:=bU (g:=.tp [2,3]) (body:=iR) (ds:=(qan P.m).map λi=>D.tup [.int _,.int (nI S.kept i)])
  (λi env s=>(∃ m q,env=[Z (obD P S),some (.h st.length),m,q])/\s=st++[.l (mpI P.n λr=>acc S.kept y i (0+r))])
  ⟨⟨_,_,U⟩,U⟩ (λi d env s hd ⟨⟨m,q,e⟩,es⟩=>by
   subst e es;obtain⟨hi,rfl⟩:=ow hd;refine⟨_,_,_,U,.inl ?_,⟨some (.d (.int ((i:Nat):Int))),Z (.int (nI S.kept i)),U⟩,U⟩;generalize t:(mpI P.n λr=>acc S.kept y i (0+r))=xs;have tl:aN dLt (iV 3) _ [Z (obD P S),some (.h st.length),Z (.int ((i:Nat):Int)),Z (.int (nI S.kept i))] (st++[.l xs])=some (decide _,st++[.l xs]):=aE U (cc (p _ _ _ _)) (Ay _ _ _);by_cases u:S.kept i<P.n
   ·rw[decide_eq_true (by show ((S.kept i:Nat):Int)<_;lia)]at tl
    have I:iOp dIx (iOp dIx (ay ("lines" : Str) (iV 0)) (iV 2)) (iUn fU (iC (.int 1))) [Z (obD P S),some (.h st.length),Z (.int ((i:Nat):Int)),Z (.int (nI S.kept i))] (st++[.l xs])=some (.d (.int (y i)),st++[.l xs]):=by
     rw[<-L];exact ae (ae (cU (p _ _ _ _)) U (uj _ hi)) U (xy _)
    have:=sIx (k:=S.kept i) I (o:=iV 1) (i:=iV 3) U U (by rw[<-t,aH];exact u)
    rw[<-t]at this ⊢ tl;rw[<-qh (d:=0) (N:=P.n) (e:=S.kept) (y:=y) (i:=i) (by lia) λj E e=>by have:=iQ h.good (by lia) hi e;lia];exact f7 tl this
   ·rw[decide_eq_false (by show ¬ ((S.kept i:Nat):Int)<_;lia)]at tl
    rw[<-sW (d:=0) (N:=P.n) (e:=S.kept) (y:=y) (i:=i) λr F=>by lia,t]
    exact cO tl U)
 rw[qaf,qaw]at e2
 have:=mW (n:=4) (k:=1) (b:=jW) (ws:=[.d (obD P S)]) (st:=st) (h:=st.length) U (ao (aj (jm (st:=st) (cc (p none none none st)) (by lia) S.kept y 0)) (ao (bM (qJ (qo (p _ _ _ _))) e2) U)) (qap _) (dq _ _)
 rw[qcq]at this;simp only[qa0]at this;exact this
def pr (P:Pb) (S:Tb) (i r:Nat):Int:=if ∃ c,c<i/\S.free c=P.n+r then ZV P S (r+1) else 0
theorem G6 (h:Okt P S) (hg:∀ r,r<P.m->P.g (P.n+r)=0):iY [.d (obD P S)] st=some (.d (.lst (mpI P.m λr=>ZV P S (r+1))),st):=by
 have hm:=h.m64;have hn:=h.n64;have p:∀ (a b c:Option W) (s:Sto),iV 0 [Z (obD P S),a,b,c] s=some (.d (obD P S),s):=λ_ _ _ _=>rfl;have hz:(mpI P.m λr=>acc S.free S.G 0 (0+r))=mpI P.m λr=>pr P S 0 r:=bJ λr _=>by
  unfold pr;rw[iFN λ⟨c,O,_⟩=>by lia];rfl
 have H:=by
  have:=aF (g:=aZ) (ab (b:=ac) (cU (p none none none st)) U) (j0 _ _)
  rw[cM]at this;exact this
 have s1:=jm (st:=st) H (by lia) S.free S.G 0;rw[hz]at s1;obtain⟨w,s2,e2,⟨m,q,rfl⟩,rfl⟩:=bU (g:=.tp [2,3]) (body:=jE) (ds:=(qan P.n).map λi=>D.tup [.int ((i:Nat):Int),.int (nI S.free i)])
  (λi env s=>(∃ m q,env=[Z (obD P S),some (.h st.length),m,q])/\s=st++[.l (mpI P.m λr=>pr P S i r)])
  ⟨⟨_,_,U⟩,U⟩ (λi d env s hd ⟨⟨m,q,e⟩,es⟩=>by
   subst e es;obtain⟨hi,rfl⟩:=ow hd;refine⟨_,_,_,U,.inl ?_,⟨some (.d (.int ((i:Nat):Int))),Z (.int (nI S.free i)),U⟩,U⟩;have hb:=h.named.bound.1 i hi;generalize t:(mpI P.m λr=>pr P S i r)=xs;have tl:aN dGe (iV 3) (ay ("amounts" : Str) (iV 0)) [Z (obD P S),some (.h st.length),Z (.int ((i:Nat):Int)),Z (.int (nI S.free i))] (st++[.l xs])=some (decide (nI S.free i>=(P.n:Int)),st++[.l xs]):=aE U (cc (p _ _ _ _)) (Gu _ _ _)
   by_cases u:P.n<=S.free i
   ·rw[decide_eq_true (by show ((S.free i:Nat):Int)>=_;lia)]at tl
    have ho:iOp nr (iV 3) (ay ("amounts" : Str) (iV 0)) [Z (obD P S),some (.h st.length),Z (.int ((i:Nat):Int)),Z (.int (nI S.free i))] (st++[.l xs])=some (.d (.int ((S.free i - P.n:Nat):Int)),st++[.l xs]):=by
     rw[show ((S.free i - P.n:Nat):Int)=nI S.free i - (P.n:Int) by show _=((S.free i:Nat):Int) - _;lia];exact ae U (cc (p _ _ _ _)) U
    have I:iOp dIx (ay ("goal" : Str) (iV 0)) (iV 2) [Z (obD P S),some (.h st.length),Z (.int ((i:Nat):Int)),Z (.int (nI S.free i))] (st++[.l xs])=some (.d (.int (S.G i)),st++[.l xs]):=ae (mh (p _ _ _ _)) U (eQ _ (by lia))
    have:=sIx (k:=S.free i - P.n) I (o:=iV 1) U ho (by rw[<-t,aH];lia)
    have B:xs.set (S.free i - P.n) (.int (S.G i))=mpI P.m λr=>pr P S (i+1) r:=by
     rw[<-t,hU];refine bJ λr F=>?_;by_cases er:r=S.free i - P.n
     ·rw[iFP er]
      unfold pr;rw[iFP ⟨i,by lia,by lia⟩];exact (Sx.price_free h.good h.named hg F hi (by lia)).symm
     ·rw[iFN er]
      unfold pr;by_cases ex:∃ c,c<i/\S.free c=P.n+r
      ·rw[iFP ex];obtain⟨c,G,v⟩:=ex;rw[iFP ⟨c,by lia,v⟩]
      ·rw[iFN ex,iFN λ⟨c,G,v⟩=>ex ⟨c,by
        by_cases z:c=i
        ·subst z;lia
        ·lia,v⟩]
    rw[<-B];exact f7 tl this
   ·rw[decide_eq_false (by show ¬ ((S.free i:Nat):Int)>=_;lia)]at tl
    have B:xs=mpI P.m λr=>pr P S (i+1) r:=by
     rw[<-t];refine bJ λr F=>?_;unfold pr;by_cases ex:∃ c,c<i/\S.free c=P.n+r
     ·rw[iFP ex];obtain⟨c,G,v⟩:=ex;rw[iFP ⟨c,by lia,v⟩]
     ·rw[iFN ex,iFN λ⟨c,G,v⟩=>ex ⟨c,by
        by_cases z:c=i
        ·subst z;lia
        ·lia,v⟩]
    rw[<-B]
    exact cO tl U)
 rw[qaf,qaw]at e2
 have:=mW (n:=4) (k:=1) (b:=lH) (ws:=[.d (obD P S)]) (st:=st) (h:=st.length) U (ao (aj s1) (ao (bM (qJ (mf (p _ _ _ _))) e2) U)) (qap _) (dq _ _)
 rw[qcq]at this
 rw[bJ (f:=λr=>pr P S P.n r) (g:=λr=>ZV P S (r+1)) λr F=>by
  unfold pr;by_cases ex:∃ c,c<P.n/\S.free c=P.n+r
  ·rw[iFP ex]
  ·rw[iFN ex]
   rcases h.named.all (P.n+r) (by lia) with O|⟨j,E,e⟩
   ·exact absurd O ex
   ·exact (Sx.price_kept h.good h.named hg F E e).symm]at this
 exact this
theorem HE (h:Okt P S) {e:Nat} (Y:e<P.n) (ht:∀ i,i<P.m->S.T i e<=0) (hp:∃ k,k<P.n/\Sx.wayN P S e k≠0):∃ g:Int,0<g/\(∀ k,k<P.n->g∣Sx.wayN P S e k)/\kE [.d (obD P S),.d (.int (e:Int))] []=some (.d (.tup (mpI P.n λk=>Sx.wayN P S e k / g)),[]):=by
 have hm:=h.m64;have hn:=h.n64;have p:∀ (a b c d:Option W) (s:Sto),iV 0 [Z (obD P S),a,b,c,d] s=some (.d (obD P S),s):=λ_ _ _ _ _=>rfl;have R:∀ i,i<P.m->S.kept i≠S.free e:=λi hi e1=>by
  have G:=h.good.entry (c:=e) (by lia) hi;have v:colV P S e=basis P S i:=by unfold colV basis;rw[iFP Y,e1]
  rw[v,Sx.upd_self,<-h.good.dt]at G
  have:=ht i hi
  have:=h.good.pos
  lia
 generalize L:(λi=>- S.T i e)=y;have hw:∀ k,Sx.wayN P S e k=if k=S.free e then S.p else acc S.kept y P.m k:=λk=>by
  show Sx.byName P S (λi=>- S.T i e) k+_=_;rw[L];by_cases u:k=S.free e
  ·rw[iFP u,iFP u.symm,Sx.byName_not λi hi=>by rw[u];exact R i hi];lia
  ·rw[iFN u,iFN (qbr u)]
   show acc S.kept y P.m k+0=_;lia
 obtain⟨w,s2,e2,⟨m,q,rfl⟩,rfl⟩:=bU (g:=.tp [3,4]) (body:=og) (ds:=(qan P.m).map λi=>D.tup [.int ((i:Nat):Int),.int (nI S.kept i)])
  (λi env s=>(∃ m q,env=[Z (obD P S),Z (.int (e:Int)),some (.h 0),m,q])/\s=[]++[.l (mpI P.n λr=>acc S.kept y i (0+r))])
  (env:=[Z (obD P S),Z (.int (e:Int)),some (.h 0),none,none]) (st:=[]++[.l (mpI P.n λr=>acc S.kept y 0 (0+r))]) ⟨⟨_,_,U⟩,U⟩ (λi d env s hd ⟨⟨m,q,e0⟩,es⟩=>by
   subst e0 es;obtain⟨hi,rfl⟩:=ow hd;refine⟨_,_,_,U,.inl ?_,⟨some (.d (.int ((i:Nat):Int))),Z (.int (nI S.kept i)),U⟩,U⟩;generalize t:(mpI P.n λr=>acc S.kept y i (0+r))=xs;have tl:aN dLt (iV 4) (ay ("amounts" : Str) (iV 0)) [Z (obD P S),Z (.int (e:Int)),some (.h 0),Z (.int ((i:Nat):Int)),Z (.int (nI S.kept i))] ([]++[.l xs])=some (decide (nI S.kept i<(P.n:Int)),[]++[.l xs]):=aE U (cc (p _ _ _ _ _)) (Ay _ _ _)
   by_cases u:S.kept i<P.n
   ·rw[decide_eq_true (by show ((S.kept i:Nat):Int)<_;lia)]at tl
    have I:iUn fU (iOp dIx (iOp dIx (ay ("lines" : Str) (iV 0)) (iV 3)) (iV 1)) [Z (obD P S),Z (.int (e:Int)),some (.h 0),Z (.int ((i:Nat):Int)),Z (.int (nI S.kept i))] ([]++[.l xs])=some (.d (.int (y i)),[]++[.l xs]):=by
     rw[<-L]
     have:=ae (g:=dIx) (ae (g:=dIx) (cU (p (Z (.int (e:Int))) (some (.h 0)) (Z (.int ((i:Nat):Int))) (Z (.int (nI S.kept i))) ([]++[C.l xs]))) (b:=iV 3) U (uj _ hi)) (b:=iV 1) U (ui (c:=e) _ (by lia))
     simp only[iUn,this,qaa];rfl
    have:=sIx (st:=[]) (k:=S.kept i) I (o:=iV 2) (i:=iV 4) U U (by rw[<-t,aH];exact u)
    rw[<-t]at this ⊢ tl;rw[<-qh (d:=0) (N:=P.n) (e:=S.kept) (y:=y) (i:=i) (by lia) λj E e=>by have:=iQ h.good (by lia) hi e;lia];exact f7 tl this
   ·rw[decide_eq_false (by show ¬ ((S.kept i:Nat):Int)<_;lia)]at tl
    rw[<-sW (d:=0) (N:=P.n) (e:=S.kept) (y:=y) (i:=i) λr F=>by lia,t]
    exact cO tl U)
 rw[qaf,qaw]at e2;have s3:bA (aN dLt (iOp dIx (ay ("free" : Str) (iV 0)) (iV 1)) (ay ("amounts" : Str) (iV 0))) (bE (iV 2) (iOp dIx (ay ("free" : Str) (iV 0)) (iV 1)) (ay ("part" : Str) (iV 0))) bn [Z (obD P S),Z (.int (e:Int)),some (.h 0),m,q] ([]++[.l (mpI P.n λr=>acc S.kept y P.m (0+r))])=some (.nx [Z (obD P S),Z (.int (e:Int)),some (.h 0),m,q] ([]++[.l (mpI P.n λk=>Sx.wayN P S e k)])):=by
  have X:∀ s,iOp dIx (ay ("free" : Str) (iV 0)) (iV 1) [Z (obD P S),Z (.int (e:Int)),some (.h 0),m,q] s=some (.d (.int (nI S.free e)),s):=λs=>ae (mf (p _ _ _ _ _)) U (eQ _ Y)
  generalize t:(mpI P.n λr=>acc S.kept y P.m (0+r))=xs;have tl:aN dLt (iOp dIx (ay ("free" : Str) (iV 0)) (iV 1)) (ay ("amounts" : Str) (iV 0)) [Z (obD P S),Z (.int (e:Int)),some (.h 0),m,q] ([]++[.l xs])=some (decide (nI S.free e<(P.n:Int)),[]++[.l xs]):=aE (X _) (cc (p _ _ _ _ _)) (Ay _ _ _)
  by_cases u:S.free e<P.n
  ·rw[decide_eq_true (by show ((S.free e:Nat):Int)<_;lia)]at tl
   have:=sIx (st:=[]) (k:=S.free e) (mj (p (Z (.int (e:Int))) (some (.h 0)) m q ([]++[C.l xs]))) (o:=iV 2) (i:=iOp dIx (ay ("free" : Str) (iV 0)) (iV 1)) U (X _) (by rw[<-t,aH];exact u)
   have B:xs.set (S.free e) (.int S.p)=mpI P.n λk=>Sx.wayN P S e k:=by
    rw[<-t,hU];refine bJ λk _=>?_;rw[hw k,qa0]
   rw[B]at this;exact f7 tl this
  ·rw[decide_eq_false (by show ¬ ((S.free e:Nat):Int)<_;lia)]at tl
   have B:xs=mpI P.n λk=>Sx.wayN P S e k:=by
    rw[<-t];refine bJ λk hk'=>?_;rw[hw k,qa0,iFN (by lia)]
   rw[<-B];exact cO tl U
 obtain⟨V,A,M⟩:=hp;have J:∀ x∈(qan P.n).map (Sx.wayN P S e),Sm x:=λx hx=>by
  obtain⟨k,u,rfl⟩:=qay.mp hx;rw[hw k];by_cases z:k=S.free e
  ·rw[iFP z];exact h.sp
  ·rw[iFN z]
   by_cases ex:∃ i,i<P.m/\S.kept i=k
   ·obtain⟨i,hi,rfl⟩:=ex
    have:acc S.kept y P.m (S.kept i)=y i:=Sx.byName_at (λi j hi E=>iQ h.good hi E) hi
    rw[this,<-L];show (- S.T i e).natAbs<_;rw[qgt];exact h.sT i e hi (by lia)
   ·rw[m7 λj E e=>ex ⟨j,E,e⟩]
    exact qd3 (by decide)
 have K:=vU (st:=[]) J ⟨_,qay.mpr ⟨V,qaH.mpr A,U⟩,M⟩ (by rw[qaf,qaw];lia);obtain⟨g0,g1⟩:=jN (ns:=(qan P.n).map (Sx.wayN P S e)) (qay.mpr ⟨V,qaH.mpr A,U⟩) M (J _ (qay.mpr ⟨V,qaH.mpr A,U⟩));have gd:∀ k,k<P.n->((bW 0 ((qan P.n).map (Sx.wayN P S e)):Nat):Int)∣Sx.wayN P S e k:=λk u=>qb0.mpr ((cX 0 _).2 _ (qay.mpr ⟨k,qaH.mpr u,U⟩));generalize hG:((bW 0 ((qan P.n).map (Sx.wayN P S e)):Nat):Int)=g at *;refine⟨g,g0,gd,?_⟩;rw[<-cj,qaC,qaC]at K;have O:dn bI (aa (iV 2) ac) [Z (obD P S),Z (.int (e:Int)),some (.h 0),m,q] ([]++[.l (mpI P.n λk=>Sx.wayN P S e k)])=some (.d (.tup (mpI P.n λk=>Sx.wayN P S e k / g)),[]++[.l (mpI P.n λk=>Sx.wayN P S e k)]):=by
  have ha:aa (iV 2) ac [Z (obD P S),Z (.int (e:Int)),some (.h 0),m,q] ([]++[.l (mpI P.n λk=>Sx.wayN P S e k)])=some ([.h 0],[]++[.l (mpI P.n λk=>Sx.wayN P S e k)]):=rfl;have T:vwA ([]++[.l (mpI P.n λk=>Sx.wayN P S e k)]) [.h 0]=some [.d (.lst (mpI P.n λk=>Sx.wayN P S e k))]:=rfl;have Q:bI [.d (.lst (mpI P.n λk=>Sx.wayN P S e k))] []=some (.d (.tup (mpI P.n λk=>Sx.wayN P S e k / g)),[]):=K;simp only[dn,ha,qaa,T,Q];rw[iFP];exact AJ _ _
 have:=gB (n:=5) (k:=2) (b:=tM) (ws:=[.d (obD P S),.d (.int (e:Int))]) (st:=[]) U (ao (aj (jm (st:=[]) (cc (p (Z (.int (e:Int))) none none none [])) (by lia) S.kept y 0)) (ao (bM (qJ (qo (p _ _ _ _ _))) e2) (ao s3 (aA O))))
 exact this
end
end Own
set_option maxHeartbeats 1000000
namespace Own
open PySem L2
open Sx (Pb Tb Good Named Fe LV ZV piv lexP leastR leaveL sumN unit colV basis)
theorem nq {m:Fn}{a:Af}{env:Ev}{st:Sto}{ws b:List W}{x:D} (f:a env st=some (ws,st)) (e:vwA st ws=some b) (c:m b []=some (.d x,[])) (g:okT x=true):dn m a env st=some (.d x,st):=by
 simp only[dn,f,qaa,e,c];rw[iFP g]
structure Pd (P:Pb):Prop where
 bd:Sx.Bd P
 hA:∀ k,k<P.n+P.m->∀ t,P.m<=t->P.A k t=0
 hb:∀ t,P.m<=t->P.b t=0
 hg:∀ r,r<P.m->P.g (P.n+r)=0
section
variable {P:Pb}{S:Tb}
theorem Pd.okt (d:Pd P) (g:Good P S) (n:Named P S):Okt P S:=E8 d.bd g n
theorem Pd.kept (d:Pd P) (n:Named P S):∀ i,i<P.m->∀ t,P.m<=t->P.A (S.kept i) t=0:=λi hi t A=>d.hA _ (n.bound.2 i hi) t A
theorem HL (g:Good P S) (f:Fe P S):∀ i,i<P.m->0<=S.T i P.n:=λi hi=>by
 rw[g.entry (qap _) hi]
 have:colV P S P.n=Sx.XV P 0:=by unfold colV Sx.XV;rw[iFN (qa5 _),iFP U]
 rw[this];exact (Sx.lexP_first (by lia) (f i hi))
structure zH (P:Pb) (p:Int) (am pr:Nat->Int):Prop where
 p1:1<=p
 am0:∀ k,k<P.n->0<=am k
 pr0:∀ r,r<P.m->0<=pr r
 rows:∀ r,r<P.m->(sumN P.n λj=>am j*P.A j r)<=p*P.b r
 cols:∀ j,j<P.n->p*P.g j<=sumN P.m λr=>P.A j r*pr r
 same:(sumN P.m λr=>P.b r*pr r)=sumN P.n λj=>am j*P.g j
 sp:Sm p
 sa:∀ k,k<P.n->Sm (am k)
 sr:∀ r,r<P.m->Sm (pr r)
structure m4 (P:Pb) (way:Nat->Int):Prop where
 w0:∀ k,k<P.n->0<=way k
 rows:∀ r,r<P.m->(sumN P.n λj=>way j*P.A j r)<=0
 gain:0<sumN P.n λj=>way j*P.g j
theorem ny {g a:Int} (h:g∣a):g*(a / g)=a:=qco h
theorem sF {n:Nat}{g:Int}{f h:Nat->Int} (hd:∀ k,k<n->g∣f k):g*(sumN n λk=>f k / g*h k)=sumN n λk=>f k*h k:=by
 rw[<-Sx.sumN_mul];refine Sx.sumN_congr λk m=>?_;rw[<-qbm,ny (hd k m)]
theorem yp {n:Nat}{g:Int}{f h:Nat->Int} (hd:∀ k,k<n->g∣f k):g*(sumN n λk=>h k*(f k / g))=sumN n λk=>h k*f k:=by
 rw[<-Sx.sumN_mul];refine Sx.sumN_congr λk m=>?_;rw[qaU,ny (hd k m)]
theorem HG (h:Okt P S) (hg:∀ r,r<P.m->P.g (P.n+r)=0) (w:∀ c,c<P.n->0<=S.G c) {r:Nat} (l:r<P.m):Sm (ZV P S (r+1))/\0<=ZV P S (r+1):=by
 rcases h.named.all (P.n+r) (by lia) with⟨c,O,e⟩|⟨j,u,e⟩
 ·rw[Sx.price_free h.good h.named hg l O e];exact⟨h.sG c (by lia),w c O⟩
 ·rw[Sx.price_kept h.good h.named hg l u e];exact⟨qd3 (by decide),qdv _⟩
theorem Ge (h:Okt P S) (k:Nat):Sm (acc S.kept (λi=>S.T i P.n) P.m k):=by
 by_cases ex:∃ i,i<P.m/\S.kept i=k
 ·obtain⟨i,hi,rfl⟩:=ex
  have:acc S.kept (λi=>S.T i P.n) P.m _=S.T i P.n:=Sx.byName_at (λi j hi u=>iQ h.good hi u) hi
  rw[this];exact h.sT i P.n hi (qap _)
 ·rw[m7 λj u e=>ex ⟨j,u,e⟩]
  exact qd3 (by decide)
theorem vP {g a b:Int} (g0:0<g) (h:g*a<=g*b):a<=b:=qdr h g0
theorem Sm.dv {a:Int} (h:Sm a) (q:Int):Sm (a / q):=qbF (Int.natAbs_ediv_le_natAbs a q) h
theorem Go (d:Pd P) (g:Good P S) (n:Named P S) (f:Fe P S) (w:∀ c,c<P.n->0<=S.G c):∃ p am pr,zH P p am pr/\g9 [.d (obD P S)] []=some (.d (.tup [.str "most",.int p,.tup (mpI P.n am),.tup (mpI P.m pr)]),[]):=by
 have h:=d.okt g n;have hm:=h.m64;have hn:=h.n64;have L:=HL g f;have V:=Gd (st:=[]) h;have e2:=G6 (st:=[]) h d.hg;have hg:=d.hg;have M1:=λr l=>Sx.amounts_ok g n L (r:=r) l;have M2:=Sx.gains_amounts g n d.hg;have M3:=λj u=>Sx.prices_ok g n d.hA w (j:=j) u;have M4:=Sx.bounds_prices g d.hb;have M5:∀ k,0<=acc S.kept (λi=>S.T i P.n) P.m k:=λk=>Sx.byName_nonneg (P:=P) (S:=S) L k;have M6:=Ge h;have M7:=λr l=>HG h d.hg w (r:=r) l;have M9:∀ j,Sx.byName P S (λi=>S.T i P.n) j=acc S.kept (λi=>S.T i P.n) P.m j:=λ_=>rfl;simp only[M9]at M1 M2;generalize acc S.kept (λi=>S.T i P.n) P.m=am at *;generalize I:(λr=>ZV P S (r+1))=pr at *;have B:∀ r,ZV P S (r+1)=pr r:=λr=>by rw[<-I]
 simp only[B]at M3 M4 M7;have hns:D.int S.p::(mpI P.n am++mpI P.m pr)=(S.p::((qan P.n).map am++(qan P.m).map pr)).map D.int:=by
  rw[qas,qbs,cj,cj]
 have J:∀ x∈S.p::((qan P.n).map am++(qan P.m).map pr),Sm x:=λx o=>by
  rcases qaA.mp o with rfl|o
  ·exact h.sp
  ·rcases qaG.mp o with o|o
   ·obtain⟨k,_,rfl⟩:=qay.mp o;exact M6 k
   ·obtain⟨k,m,rfl⟩:=qay.mp o;exact (M7 k (qaH.mp m)).1
 have e3:=nK (st:=[]) J;have K:=g.pos;obtain⟨v,H⟩:=jN qag (by lia) h.sp;have y:∀ x∈S.p::((qan P.n).map am++(qan P.m).map pr),_∣x:=λx o=>qb0.mpr ((cX 0 _).2 _ o);rw[<-hns]at e3;generalize ((bW 0 _:Nat):Int)=q at *;have dp:q∣S.p:=y _ qag;have Q:=λk m=>y _ (qak _ (qaS _ (qay.mpr ⟨k,qaH.mpr m,U⟩)));have N:=λk m=>y _ (qak _ (qax _ (qay.mpr ⟨k,qaH.mpr m,U⟩)));refine⟨S.p / q,λk=>am k / q,λr=>pr r / q,⟨?_,λk _=>qe0 (M5 k) (by lia),λr l=>qe0 (M7 r l).2 (by lia),λr l=>?_,λj u=>?_,?_,h.sp.dv _,λk _=>(M6 k).dv _,λr l=>(M7 r l).1.dv _⟩,?_⟩
 ·have:=ny dp
  rcases Int.lt_or_le (S.p / q) 1 with z|z
  ·have:q*(S.p / q)<=q*0:=qa1 (by lia) (by lia)
   lia
  ·exact z
 ·refine vP v ?_
  rw[sF (h:=λj=>P.A j r) Q,<-qbm,ny dp];exact M1 r l
 ·refine vP v ?_
  rw[yp (h:=λr=>P.A j r) N,<-qbm,ny dp];exact M3 j u
 ·refine qel (a:=q) (by lia) ?_
  rw[yp (h:=λr=>P.b r) N,sF (h:=λj=>P.g j) Q,M4,M2]
 ·have C:∀ (a b c:Option W) (s:Sto),iV 0 [Z (obD P S),a,b,c] s=some (.d (obD P S),s):=λ_ _ _ _=>rfl
  have X:lcI (.nm 0) az eK [none,Z (.int q)] (mpI P.n am) []=some (mpI P.n λk=>am k / q,[]):=by
   have:=nu (te:=eK) (st:=[]) (ns:=(qan P.n).map am) v H U
   rw[<-cj,qaC,qaC]at this;exact this
  have T:lcI (.nm 0) az eJ [none,Z (.int q)] (mpI P.m pr) []=some (mpI P.m λk=>pr k / q,[]):=by
   have:=nu (te:=eJ) (st:=[]) (ns:=(qan P.m).map pr) v H U
   rw[<-cj,qaC,qaC]at this;exact this
  have la:(mpI P.n am).length<=1000000:=by rw[aH];lia
  have lr:(mpI P.m pr).length<=1000000:=by rw[aH];lia
  have G:[D.int S.p].length+(mpI P.n am).length<=1000000:=by rw[aH];show 1+_<=_;lia
  have E:([D.int S.p]++mpI P.n am).length+(mpI P.m pr).length<=1000000:=by rw[qav,aH,aH];show 1+_+_<=_;lia
  generalize mpI P.n am=AM at *;generalize mpI P.m pr=PR at *;have Y:aw (.nm 3) (ai bB (aa (iOp bm (iOp bm (ap (bD (aa (ay ("part" : Str) (iV 0)) ac))) (iV 1)) (iV 2)) ac)) [Z (obD P S),Z (.lst AM),Z (.lst PR),none] []=some (.nx [Z (obD P S),Z (.lst AM),Z (.lst PR),Z (.int q)] []):=by
   have R:bD (aa (ay ("part" : Str) (iV 0)) ac) [Z (obD P S),Z (.lst AM),Z (.lst PR),none] []=some ([.int S.p],[]):=by
    have:=ab (b:=ac) (mj (C (Z (.lst AM)) (Z (.lst PR)) none [])) U
    rfl
   exact aj (ag (ab (ae (ae (ak R) U (ez _ G)) U (ez _ E)) U) e3)
  exact ax (n:=4) (k:=1) (b:=jX) U (ao (aj (ag (ab (C _ _ _ _) U) V)) (ao (aj (ag (ab (C _ _ _ _) U) e2)) (ao Y (aA (FH (ab U (ab (ae (mj (C _ _ _ _)) U (qH _ v H)) (ab (aF (ab (ak (aI (aL U) la X)) U) U) (ab (aF (ab (ak (aI (aL U) lr T)) U) U) U)))) U (by show 4<=1000;decide))))))
theorem Gh (d:Pd P) (g:Good P S) (n:Named P S) {e:Nat} (F:e<P.n) (A:∀ i,i<P.m->S.T i e<=0) (w:S.G e<0):∃ way,m4 P way/\kE [.d (obD P S),.d (.int (e:Int))] []=some (.d (.tup (mpI P.n way)),[]):=by
 have W1:=Sx.way_gains g n d.hg F w;have K:∃ k,k<P.n/\Sx.wayN P S e k≠0:=by
  by_cases z:∃ k,k<P.n/\Sx.wayN P S e k≠0
  ·exact z
  ·rw[Sx.sumN_congr λk m=>by
    by_cases M:Sx.wayN P S e k=0
    ·rw[M,qcl]
    ·exact absurd ⟨k,m,M⟩ z,Sx.sumN_zero]at W1
   lia
 obtain⟨q,v,y,ew⟩:=HE (d.okt g n) F A K;refine⟨_,⟨λk _=>qe0 (Sx.way_nonneg g A k) (by lia),λr l=>?_,?_⟩,ew⟩
 ·refine vP v ?_
  rw[sF y,qbh];exact Sx.way_rows g n F A l
 ·refine Int.lt_of_mul_lt_mul_left (a:=q) ?_ (by lia)
  rw[sF y,qbh];exact W1
end
end Own
set_option maxHeartbeats 1000000
namespace Own
open PySem L2
open Sx (Pb Tb Good Named Fe LV ZV piv lexP leastR leaveL sumN unit colV basis)
theorem HZ (n:Nat) (f:Nat->Int):okT (.tup [.str "beyond",.tup (mpI n f)])=true:=by
 simp only[okT,v8,cj,jn,qiv]
theorem GV (n m:Nat) (p:Int) (f g:Nat->Int):okT (.tup [.str "most",.int p,.tup (mpI n f),.tup (mpI m g)])=true:=by
 simp only[okT,v8,cj,jn,qiv]
def Gc (P:Pb) (S:Tb) (x:D):Prop:=(∃ c,c<P.n/\S.G c<0/\(∀ i,i<P.m->S.T i c<=0)/\x=.tup [.int (c:Int),.non])\/(kT P S x/\(x=.non->∀ c,c<P.n->0<=S.G c))
section
variable {P:Pb}{S:Tb}
theorem BB (d:Pd P) (g:Good P S) (n:Named P S):∃ x,Gc P S x/\okT x=true/\bR [.d (obD P S)] []=some (.d x,[]):=by
 rcases Gg (d.okt g n) (d.kept n) with⟨c,p,hg,G,e⟩|⟨y,N,l,e⟩
 ·exact⟨_,.inl ⟨c,p,hg,G,U⟩,U,e⟩
 ·refine⟨y,.inr ⟨N,l⟩,?_,e⟩
  rcases N with rfl|⟨c,r,_,_,_,_,_,_,rfl⟩<;>rfl
theorem kZ {st0:Sto}{a b c o:Option W}{x:D} (e:bR [.d (obD P S)] []=some (.d x,[])) (u:okT x=true):dn bR (aa (iV 3) ac) [a,b,c,some (.h (st0.length+2)),o] (stO st0 P S)=some (.d x,stO st0 P S):=
 nq U (BP U) e u
def o8 (P:Pb) (f:Nat) (S:Tb) (x:D):Prop:=
 (∃ S' k,m4 P k/\∀ (st0:Sto) (a b c:Option W),cP ij fP f [a,b,c,some (.h (st0.length+2)),Z x] (stO st0 P S)=some (.rt (.d (.tup [.str "beyond",.tup (mpI P.n k)])) (stO st0 P S')))\/
 ∃ S',Good P S'/\Named P S'/\Fe P S'/\(∀ c,c<P.n->0<=S'.G c)/\∀ (st0:Sto) (a b c:Option W),cP ij fP f [a,b,c,some (.h (st0.length+2)),Z x] (stO st0 P S)=some (.nx [a,b,c,some (.h (st0.length+2)),Z .non] (stO st0 P S'))
theorem xN (d:Pd P):∀ (f:Nat) (V:List Nat) (S:Tb) (x:D),Good P S->Named P S->Fe P S->Gc P S x->V.Nodup->(∀ v∈V,v<(P.n+P.m)^P.m)->(∀ v∈V,∃ S',Good P S'/\Named P S'/\Sx.code (P.n+P.m) S'.kept P.m=v/\Sx.less P S' S)->(P.n+P.m)^P.m<f+V.length->o8 P f S x
 |0,V,S,x,_,_,_,_,F,hb,_,hf=>by
  have:=Sx.nodup_le _ V F hb
  lia
 |f+1,V,S,x,hg,l,J,u,F,hb,I,hf=>by
  have h:=d.okt hg l;rcases u with⟨c,p,E,G,rfl⟩|⟨u,H⟩
  ·obtain⟨k,A,ew⟩:=Gh d hg l p G E
   refine .inl ⟨S,k,A,λst0 a b o=>?_⟩;refine Ha U (kK (f7 U (aA (FH (ws:=[.d _,.d _]) (ab U (ab ?_ U)) U (by show 2<=1000;decide)))));refine nq (ab U (ab (ae U U (vJ _ _ _)) U)) (BP U) ew ?_;exact AJ _ _
  ·rcases u with rfl|⟨c,r,p,E,_,L,hT,t,rfl⟩
   ·exact .inr ⟨S,hg,l,J,H U,λst0 a b o=>Eb U⟩
   ·obtain⟨B,K,f2,M⟩:=Sx.step hg l J p L hT E t
    obtain⟨y,sy,X,Y⟩:=BB d B K;have j:∀ {S':Tb},Named P S'->∀ i,i<P.m->S'.kept i<P.n+P.m:=λs i hi=>s.bound.2 i hi;have q:∀ (st0:Sto) (a b o:Option W),fP [a,b,o,some _,some _] _=some _:=λst0 a b o=>by
     have R:j7 (ai eU (aa (iV 3) (aa (iOp dIx (iV 4) (iC (.int 1))) (aa (iOp dIx (iV 4) (iC (.int 0))) ac)))) [a,b,o,some (.h (st0.length+2)),Z (.tup [.int (c),.int (r)])] (stO st0 P S)=some (.nx [a,b,o,some (.h (st0.length+2)),Z (.tup [.int (c),.int (r)])] (stO st0 P (piv S r c))):=by
      have:=ag (a:=aa (iV 3) (aa (iOp dIx (iV 4) (iC _)) (aa (iOp dIx (iV 4) (iC _)) ac))) (env:=[a,b,o,some _,some _]) (st:=stO st0 P S) (ab U (ab (ae U U (rB _ _ _)) (ab (ae U U (vJ _ _ _)) U))) (Ce h L p)
      simp only[j7,this,qaj]
     exact ao (cO U U) (ao R (aj (kZ Y X)))
    rcases (xN d f _ _ y B K f2 sy
     (qcb.mpr ⟨λO=>by
       obtain⟨S',w,s,C,z⟩:=I _ O
       exact Sx.less_kept w hg z (Sx.code_inj (j s) (j l) C),F⟩)
     (λv m=>by
       rcases qaA.mp m with rfl|m
       ·exact Sx.code_lt (j l)
       ·exact hb v m)
     (λv m=>by
       rcases qaA.mp m with rfl|m
       ·exact⟨S,hg,l,U,M⟩
       ·obtain⟨S',w,s,C,z⟩:=I v m
        exact⟨S',w,s,C,Sx.less_trans w.pos hg.pos B.pos z M⟩)
     (by rw[qar];lia)) with⟨S',k,A,hw⟩|⟨S',T,nS,fS,Q,hw⟩
    ·exact .inl ⟨S',k,A,λst0 a b o=>Bm U (q st0 a b o) (hw st0 a b o)⟩
    ·exact .inr ⟨S',T,nS,fS,Q,λst0 a b o=>Bm U (q st0 a b o) (hw st0 a b o)⟩
end
def i6 (m n:Nat) (R:Nat->Nat->Int) (b g:Nat->Int):Pb where
 m:=m
 n:=n
 A:=λk t=>if k<n then (if t<m then R t k else 0) else unit (k - n) t
 b:=λt=>if t<m then b t else 0
 g:=λk=>if k<n then g k else 0
def Dy (m n:Nat) (R:Nat->Nat->Int) (b g:Nat->Int):Tb:=Sx.tb0 (i6 m n R b g) (λi c=>if c<n then R i c else b i) (λc=>if c<n then - g c else 0)
def kL (m n:Nat) (R:Nat->Nat->Int):D:=.tup ((qan m).map λi=>D.tup (mpI n (R i)))
structure Inp (m n:Nat) (R:Nat->Nat->Int) (b g:Nat->Int):Prop where
 m64:m<=64
 n64:n<=100
 R:∀ i c,i<m->c<n->(R i c).natAbs<=2^50
 b:∀ i,i<m->(b i).natAbs<=2^50/\0<=b i
 g:∀ c,c<n->(g c).natAbs<=2^50
section
variable {m n:Nat}{R:Nat->Nat->Int}{b g:Nat->Int}
theorem D0 (h:Inp m n R b g):Pd (i6 m n R b g) where
 bd:={
  m64:=h.m64
  n64:=h.n64
  A:=λk _ t e=>by
   show (if k<n then _ else unit _ t).natAbs<=_;by_cases j:k<n
   ·rw[iFP j,iFP (show t<m from e)];exact h.R t k e j
   ·rw[iFN j];exact Sx.unit_le _ _
  b:=λt e=>by
   show (if t<m then b t else 0).natAbs<=_;rw[iFP (show t<m from e)];exact (h.b t e).1
  g:=λk _=>by
   show (if k<n then g k else 0).natAbs<=_;by_cases j:k<n
   ·rw[iFP j];exact h.g k j
   ·rw[iFN j];exact qcc _ }
 hA:=λk j t e=>by
  have hk':k<n+m:=j;have ht':m<=t:=e;show (if k<n then _ else unit _ t)=0;by_cases w:k<n
  ·rw[iFP w,iFN (by lia)]
  ·rw[iFN w];unfold unit;rw[iFN (by lia)]
 hb:=λt e=>iFN (qhJ.mpr e)
 hg:=λr _=>iFN (by show ¬ n+r<n;lia)
theorem Cg (h:Inp m n R b g):Good (i6 m n R b g) (Dy m n R b g)/\Named (i6 m n R b g) (Dy m n R b g)/\Fe (i6 m n R b g) (Dy m n R b g):=by
 have d:=D0 h
 have:=Sx.good0
  (λr _=>by
    funext t
    show (if n+r<n then _ else unit (n+r - n) t)=_
    rw[iFN (by lia),qdD])
  (λk j=>d.hA k (by lia)) d.hb d.hg
  (λi c hi F=>by
    show (if c<n then R i c else b i)=if c<n then _ else _
    rw[iFP (show c<n from F),iFP (show c<n from F),iFP (show i<m from hi)])
  (λi hi=>by
    show (if n<n then _ else b i)=if i<m then b i else 0
    rw[iFN (qa5 _),iFP (show i<m from hi)])
  (λc F=>by
    show (if c<n then - g c else 0)=- (if c<n then g c else 0)
    rw[iFP (show c<n from F),iFP (show c<n from F)])
  (by show (if n<n then _ else _)=0;rw[iFN (qa5 _)])
 refine⟨this.1,this.2.1,this.2.2 λt e=>?_⟩;show 0<=if t<m then b t else 0;rw[iFP (show t<m from e)];exact (h.b t e).2
theorem xO (f:Nat->Int) (x:Int):mpI n f++[.int x]=mpI (n+1) λc=>if c<n then f c else x:=by
 rw[dh,iFN (qa5 _)];rw[bJ (g:=λc=>if c<n then f c else x) λk j=>by rw[iFP j]]
theorem Bu (lo:Nat) (m:Nat):bh (lo:Int) m=mpI m (nI λi=>lo+i):=by
 refine qbe λk _=>?_;show D.int _=D.int (((lo+k:Nat)));rw[Int.natCast_add]
theorem GO {st0:Sto}{S J:Option W} (h:Inp m n R b g):pO 4 4 cm (aa (iV 0) (aa (iV 1) (aa (iV 2) ac))) [some (.d (kL m n R)),some (.d (.tup (mpI m b))),some (.d (.tup (mpI n g))),S,J] st0=some (.h (st0.length+2),stO st0 (i6 m n R b g) (Dy m n R b g)):=by
 have T:=h.m64;have hn:=h.n64;generalize G:([none,some (.d (kL m n R)),some (.d (.tup (mpI m b))),some (.d (.tup (mpI n g)))]:Ev)=E;have v1:∀ s,iV 1 E s=some (.d (kL m n R),s):=λs=>by rw[<-G];rfl
 have V:∀ s,iV 2 E s=some (.d (.tup (mpI m b)),s):=λs=>by rw[<-G];rfl
 have O:∀ s,iV 3 E s=some (.d (.tup (mpI n g)),s):=λs=>by rw[<-G];rfl
 have a:∀ s,iCB aZ (aa (iV 3) ac) E s=some (.d (.int (n:Int)),s):=λs=>by
  have:=aF (g:=aZ) (d:=.int ((mpI n g).length:Nat)) (ab (b:=ac) (O s) U) U
  rw[aH]at this;exact this
 have z:∀ s,iCB aZ (aa (iV 1) ac) E s=some (.d (.int (m:Int)),s):=λs=>by
  have:=aF (g:=aZ) (d:=.int (((qan m).map λi=>D.tup (mpI n (R i))).length:Nat)) (ab (b:=ac) (v1 s) U) U
  rw[qaf,qaw]at this;exact this
 have f2:ap (iLc 2 [] (im (aa (iV 1) (aa (iV 2) ac))) (.tp [0,1]) az iJ) E st0=some (.d (.lst (aV m n λi c=>if c<n then R i c else b i)),st0):=by
  have hz:im (aa (iV 1) (aa (iV 2) ac)) E st0=some ((qan m).map λi=>D.tup [.tup (mpI n (R i)),.int (b i)],st0):=by
   have q:fu ((qan m).map λi=>D.tup (mpI n (R i))) (mpI m b)=(qan m).map λi=>D.tup [.tup (mpI n (R i)),.int (b i)]:=by
    apply qb4;intro i;rw[gI,qaF,qaF];by_cases hi:i<m
    ·rw[bP hi,qbp hi];rfl
    ·rw[qaX (l:=qan m) (by rw[qaw];lia)];rfl
   rw[<-q]
   have:=ab (v1 st0) (ab (b:=ac) (V st0) U)
   simp only[im,this,qaa];rfl
  refine ak (aI hz (by rw[qaf,qaw];lia) ?_);refine DU (g:=λi=>(D.tup (mpI n (R i)),.int (b i))) (lnD n λi c=>if c<n then R i c else b i) λi hi=>?_;unfold lnD;rw[<-xO (R i) (b i)];exact ae (ak (show iCL xC (aa (iV 0) ac) _ _=some (mpI n (R i),_) from U)) (ak (show bD (aa (iV 1) ac) _ _=some ([.int (b i)],_) from U)) (ez _ (by rw[aH];show _+1<=_;lia))
 have f3:iOp bm (ap (iLc 1 [] (ar (iV 3)) (.nm 0) az iK)) (ap (bD (aa (iC (.int 0)) ac))) E st0=some (.d (.lst (mpI (n+1) λc=>if c<n then - g c else 0)),st0):=by
  rw[<-xO (λc=>- g c) 0];refine ae (ak (aI (bv (O st0)) (by rw[aH];lia) (iT (g:=λk=>D.int (g k)) (λk=>D.int (- g k)) λk _=>rfl))) (ak (show bD (aa (iC (.int 0)) ac) E st0=some ([.int 0],st0) from U)) (ez _ ?_);rw[qaf,qaw];show _+1<=_;lia
 have f5:cx (pi (aa (iCB aZ (aa (iV 3) ac)) ac)) E st0=some (.h st0.length,st0++[.l (mpI n (nI λc=>c))]):=by
  have:=ab (b:=ac) (a st0) U
  have q:pi (aa (iCB aZ (aa (iV 3) ac)) ac) E st0=some (mpI n (nI λc=>c),st0):=by
   simp only[pi,this,qaa];rw[iFP ⟨by lia,by lia⟩,qaE,show bh 0 n=bh ((0:Nat):Int) n from U,Bu];simp only[qa0]
  simp only[cx,q,qaj]
 have f6:cx (qO (aa (iCB aZ (aa (iV 3) ac)) (aa (iOp bm (iCB aZ (aa (iV 3) ac)) (iCB aZ (aa (iV 1) ac))) ac))) E (st0++[.l (mpI n (nI λc=>c))])=some (.h (st0.length+1),st0++[.l (mpI n (nI λc=>c)),.l (mpI m (nI λi=>n+i))]):=by
  generalize hs:(st0++[C.l (mpI n (nI λc=>c))])=s1;have h2:iOp bm (iCB aZ (aa (iV 3) ac)) (iCB aZ (aa (iV 1) ac)) E s1=some (.d (.int ((n:Int)+(m:Int))),s1):=ae (a s1) (z s1) U
  have:=ab (a s1) (ab (b:=ac) h2 U)
  have q:qO (aa (iCB aZ (aa (iV 3) ac)) (aa (iOp bm (iCB aZ (aa (iV 3) ac)) (iCB aZ (aa (iV 1) ac))) ac)) E s1=some (mpI m (nI λi=>n+i),s1):=by
   simp only[qO,this,qaa];rw[iFP ⟨by lia,by lia,by lia,by lia⟩,show (((n:Int)+(m:Int)) - (n:Int)).toNat=m by lia,Bu]
  simp only[cx,q,qaj];rw[<-hs,qav]
  simp
 have o:q9 cm E st0=some (fsO n (aV m n λi c=>if c<n then R i c else b i) (mpI (n+1) λc=>if c<n then - g c else 0) 1 st0.length,st0++[.l (mpI n (nI λc=>c)),.l (mpI m (nI λi=>n+i))]):=by
  unfold cm;simp only[q9,a st0,f2,f3,f5,f6,qaa,qaj,show iC (.int 1) E st0=some (.d (.int 1),st0) from U];rfl
 have ha:aa (iV 0) (aa (iV 1) (aa (iV 2) ac)) [some (.d (kL m n R)),some (.d (.tup (mpI m b))),some (.d (.tup (mpI n g))),S,J] st0=some ([.d (kL m n R),.d (.tup (mpI m b)),.d (.tup (mpI n g))],st0):=rfl;simp only[pO,ha,qaa];show (q9 cm [none,some (.d (kL m n R)),some (.d (.tup (mpI m b))),some (.d (.tup (mpI n g)))] st0).map _=_;rw[G,o,qaj];rw[qav,qbO];rfl
inductive BY (P:Pb):D->Prop
 |most (p:Int) (am pr:Nat->Int):zH P p am pr->BY P (.tup [.str "most",.int p,.tup (mpI P.n am),.tup (mpI P.m pr)])
 |beyond (way:Nat->Int):m4 P way->BY P (.tup [.str "beyond",.tup (mpI P.n way)])
theorem A9 {m n:Nat} (T:m<=64) (hn:n<=100):(n+m)^m<2^8000:=by
 have I:(n+m)^m<=(2^8)^m:=Nat.pow_le_pow_left (by lia) m;rw[<-qjW]at I;exact qbF I (yf (by lia))
theorem CD (h:Inp m n R b g):∃ x,BY (i6 m n R b g) x/\okT x=true/\∀ st:Sto,∃ u,jj [.d (kL m n R),.d (.tup (mpI m b)),.d (.tup (mpI n g))] st=some (.d x,st++u):=by
 have d:=D0 h;obtain⟨N,Q,f1⟩:=Cg h;obtain⟨y,sy,K,L⟩:=BB d N Q;generalize hM:(kL m n R)=A at *;generalize hB:D.tup _=B at *;generalize hC:D.tup (mpI n g)=C at *;have M:∀ st0,aw (.nm 3) _ [Z A,Z B,Z C,none,none] st0=some _:=λst0=>by
  rw[<-hM,<-hB,<-hC];exact aj (GO h)
 rcases (xN d _ [] _ y N Q f1 sy qcW (λv H=>nomatch H) (λv H=>nomatch H) (by rw[qbt,qjG];exact A9 h.m64 h.n64)) with⟨S',way,X,hw⟩|⟨S',gS,nS,fS,Y,hw⟩
 ·refine⟨_,.beyond way X,HZ _ _,λst0=>⟨_,ax U (ao (M st0) (ao (aj (kZ L K)) (kK (hw st0 _ _ _))))⟩⟩
 ·obtain⟨p,am,pr,mi,em⟩:=Go d gS nS fS Y
  refine⟨_,.most p am pr mi,GV _ _ _ _ _,λst0=>⟨_,ax U (ao (M st0) (ao (aj (kZ L K)) (ao (hw st0 _ _ _) (aA (nq U (BP U) em (GV _ _ _ _ _))))))⟩⟩
end
end Own
namespace Sx
theorem sumN_le {n:Nat}{f h:Nat->Int} (a:∀ k,k<n->f k<=h k):sumN n f<=sumN n h:=by
 induction n with
 |zero=>exact qdv _
 |succ n b=>
  rw[sumN,sumN]
  have:=b λk c=>a k (by omega)
  have:=a n (by omega)
  omega
def wdR (N k:Nat) (V:Nat->Nat->Int) (r c:Nat):Int:=if r<N then (if c<k then - V r c else if c<k+k then V r (c - k) else 1) else if c<k+k then 1 else 0
def wdB (N r:Nat):Int:=if r<N then 0 else 1
def wdG (k c:Nat):Int:=if c<k+k then 0 else 1
section
variable {N k:Nat}{V:Nat->Nat->Int}{d pr:Nat->Int}{p:Int}
theorem wd_row {i:Nat} (hi:i<N):(sumN (k+k+1) λj=>d j*wdR N k V i j)=d (k+k) - sumN k λt=>(d t - d (k+t))*V i t:=by
 have s:(sumN k λj=>d j*wdR N k V i j)=sumN k λt=>(-1)*(d t*V i t):=sumN_congr λt l=>by
  unfold wdR;rw[iFP hi,iFP l,qgc];omega
 have e2:(sumN k λj=>d _*wdR N k V i (k+j))=sumN k λt=>d (k+t)*V i t:=sumN_congr λt l=>by
  unfold wdR;rw[iFP hi,iFN (by omega),iFP (by omega),qdD]
 have e3:d (k+k)*wdR N k V i (k+k)=d (k+k):=by
  unfold wdR;rw[iFP hi,iFN (by omega),iFN (by omega),qdu]
 have e4:(sumN k λt=>(d t - d (k+t))*V i t)=(sumN k λt=>d t*V i t) - sumN k λt=>d (k+t)*V i t:=by
  rw[<-sumN_sub];exact sumN_congr λt _=>qga _ _ _
 rw[sumN,sumN_append,s,sumN_mul];omega
theorem wd_last:(sumN (k+k+1) λj=>d j*wdR N k V N j)=sumN (k+k) d:=by
 have e3:d (k+k)*wdR N k V N (k+k)=0:=by
  unfold wdR;rw[iFN (by omega),iFN (by omega),qbh]
 rw [sumN,(sumN_congr λj v=>by
  unfold wdR;rw[iFN (by omega),iFP v,qdu]),e3,qe1]
theorem wd_colA {t:Nat} (l:t<k):(sumN (N+1) λr=>wdR N k V r t*pr r)=pr N - sumN N λi=>V i t*pr i:=by
 have s:(sumN N λr=>wdR N k V r t*pr r)=sumN N λi=>(-1)*(V i t*pr i):=sumN_congr λr u=>by
  unfold wdR;rw[iFP u,iFP l,qdN];omega
 have e2:wdR N k V N t*pr N=pr N:=by
  unfold wdR;rw[iFN (by omega),iFP (by omega),qcG]
 rw[sumN,s,sumN_mul];omega
theorem wd_colB {t:Nat} (l:t<k):(sumN (N+1) λr=>wdR N k V r (k+t)*pr r)=pr N+sumN N λi=>V i t*pr i:=by
 have e2:wdR N k V N (k+t)*pr N=pr N:=by
  unfold wdR;rw[iFN (by omega),iFP (by omega),qcG]
 rw [sumN,(sumN_congr λr u=>by
  unfold wdR;rw[iFP u,iFN (by omega),iFP (by omega),qdD])];omega
theorem wd_colE:(sumN (N+1) λr=>wdR N k V r (k+k)*pr r)=sumN N pr:=by
 have e2:wdR N k V N (k+k)*pr N=0:=by
  unfold wdR;rw[iFN (by omega),iFN (by omega),qcl]
 rw [sumN,(sumN_congr λr u=>by
  unfold wdR;rw[iFP u,iFN (by omega),iFN (by omega),qcG]),e2,qe1]
theorem wd_bnd:(sumN (N+1) λr=>wdB N r*pr r)=pr N:=by
 have s:(sumN N λr=>wdB N r*pr r)=0:=by
  rw[sumN_congr λr u=>by unfold wdB;rw[iFP u,qcl],sumN_zero]
 rw[sumN,s,qcD];unfold wdB;rw[iFN (by omega),qcG]
theorem wd_gain:(sumN (k+k+1) λj=>d j*wdG k j)=d (k+k):=by
 have s:(sumN (k+k) λj=>d j*wdG k j)=0:=by
  rw[sumN_congr λj v=>by unfold wdG;rw[iFP v,qbh],sumN_zero]
 rw[sumN,s,qcD];unfold wdG;rw[iFN (by omega),qdu]
theorem sum0w {n:Nat}{f:Nat->Int} (h:∀ i,i<n->0<=f i) (e:sumN n f=0):∀ i,i<n->f i=0:=by
 induction n with
 |zero=>exact λi hi=>absurd hi (qcu _)
 |succ n A=>
  have w:=sumN_nonneg (n:=n) λi hi=>h i (by omega);have E:=h n (by omega);rw[sumN]at e;intro i hi;rcases Nat.lt_succ_iff_lt_or_eq.mp hi with z|z
  ·exact A (λi hi=>h i (by omega)) (by omega) i z
  ·rw[z];omega
theorem wide_most (hN:0<N) {o:Nat->Int} (w0:∀ j,j<k+k+1->0<=o j) (rows:∀ r,r<N+1->(sumN (k+k+1) λj=>o j*wdR N k V r j)<=0) (gain:0<sumN (k+k+1) λj=>o j*wdG k j):False:=by
 have a:=rows N (by omega);rw[wd_last]at a;have z:∀ j,j<k+k->o j=0:=by
  have w:=sumN_nonneg (n:=k+k) λj v=>w0 j (by omega);exact sum0w (λj v=>w0 j (by omega)) (by omega)
 have c:=rows 0 (by omega);rw[wd_row hN,sumN_congr λt l=>by rw[z t (by omega),z _ (by omega),qfM,qcl],sumN_zero]at c;rw[wd_gain]at gain;omega
theorem wide_core (am0:∀ j,j<k+k+1->0<=d j) (pr0:∀ r,r<N+1->0<=pr r) (rows:∀ r,r<N+1->(sumN (k+k+1) λj=>d j*wdR N k V r j)<=p*wdB N r)
  (cols:∀ j,j<k+k+1->p*wdG k j<=sumN (N+1) λr=>wdR N k V r j*pr r) (same:(sumN (N+1) λr=>wdB N r*pr r)=sumN (k+k+1) λj=>d j*wdG k j) :
  (∀ i,i<N->d (k+k)<=sumN k λt=>(d t - d (k+t))*V i t)/\(sumN (k+k) d<=p)/\(∀ t,t<k->(sumN N λi=>V i t*pr i)<=d (k+k)/\- d (k+k)<=sumN N λi=>V i t*pr i)/\p<=sumN N pr:=by
 rw[wd_bnd,wd_gain]at same;refine⟨λi hi=>?_,?_,λt l=>?_,?_⟩
 ·have a:=rows i (by omega)
  rw[wd_row hi]at a;unfold wdB at a;rw[iFP hi]at a;omega
 ·have a:=rows N (by omega)
  rw[wd_last]at a;unfold wdB at a;rw[iFN (by omega),qdu]at a;exact a
 ·have a:=cols t (by omega)
  have b:=cols (k+t) (by omega);rw[wd_colA l]at a;rw[wd_colB l]at b;unfold wdG at a b;rw[iFP (by omega)]at a b;omega
 ·have a:=cols (k+k) (by omega)
  rw[wd_colE]at a;unfold wdG at a;rw[iFN (by omega),qdu]at a;exact a
theorem wide_same {x:Nat->Int}{m:Int} (I:1<=p) (G:0<m) (pr0:∀ i,i<N->0<=pr i) (rows:∀ i,i<N->m<=sumN k λt=>x t*V i t) (size:(sumN k λt=>((x t).natAbs:Int))<=p)
  (cols:∀ t,t<k->(sumN N λi=>V i t*pr i)<=m/\- m<=sumN N λi=>V i t*pr i) (tot:p<=sumN N pr):(sumN k λt=>((x t).natAbs:Int))=p/\∃ i,i<N/\(sumN k λt=>x t*V i t)=m:=by
 have w:=sumN_le λi hi=>qa1 (rows i hi) (pr0 i hi);have E:(sumN N λi=>pr i*sumN k λt=>x t*V i t)=sumN k λt=>x t*sumN N λi=>V i t*pr i:=by
  rw[sumN_congr (g:=λi=>sumN k λt=>x t*(V i t*pr i)) λi _=>by rw[<-sumN_mul];exact sumN_congr λt _=>by grind,sumN_swap];exact sumN_congr λt _=>by rw[sumN_mul]
 have B:(sumN k λt=>x t*sumN N λi=>V i t*pr i)<=sumN k λt=>((x t).natAbs)*m:=sumN_le λt l=>by
  have c:=cols t l;generalize (sumN N λi=>V i t*pr i)=y at *;rcases qjI 0 (x t) with q|q
  ·rw[show ((x t).natAbs)=x t by omega]
   exact qa1 c.1 q
  ·rw[show ((x t).natAbs)=- x t by omega]
   have:=qa1 (show - y<=m by omega) (show 0<=- x t by omega)
   rw[qia]at this;exact this
 rw[sumN_right]at w B;have F:p*m<=sumN N pr*m:=qbj tot (by omega);have H:_*m<=p*m:=qbj size (by omega);have s:(sumN k λt=>((x t).natAbs))*m=p*m:=by omega
 refine⟨qed (by omega) s,?_⟩;apply qdd;intro D;have up:∀ i,i<N->m+1<=sumN k λt=>x t*V i t:=λi hi=>by
  have:=rows i hi
  rcases qeg this with q|q
  ·omega
  ·exact absurd ⟨i,hi,q.symm⟩ D
 have C:=sumN_le λi hi=>qa1 (up i hi) (pr0 i hi);rw[sumN_right,qcH]at C;omega
end
end Sx
set_option maxHeartbeats 1000000
namespace Own
open PySem L2
open Sx (Pb Tb Good Named Fe LV ZV piv lexP leastR leaveL sumN unit colV basis)
theorem bF {a:Af}{env:Ev}{st s:Sto}{ws:List W}{ds:List D} (h:a env st=some (ws,s)) (hd:ma ws=some ds) (b:ds.length<=1000:=by decide):bz a env st=some (.d (.tup ds),s):=by
 simp only[bz,h,hd,b,qaa,if_true]
theorem cG {a:Af}{env:Ev}{st s:Sto}{ws:List W}{ds:List D} (h:a env st=some (ws,s)) (hd:ma ws=some ds) (b:ds.length<=1000:=by decide):bD a env st=some (ds,s):=by
 simp only[bD,h,hd,b,qaa,if_true]
theorem i5 (s:Sto) {a b:Int} (h:qbJ a b):bg s (.d (.int a)) (.d (.int b))=some (.int (a*b)):=iFP h
theorem i4 (s:Sto) {a b:Int} (h:0<b):iG s (.d (.int a)) (.d (.int b))=some (.int (a%b)):=iFP h
theorem qL (s:Sto) {a b:Int} (h:0<b/\b<1073741824):pK s (.d (.int a)) (.d (.int b))=some (.int (a / b)):=iFP h
theorem oB {st:Sto}{k:Int} (a:0<=k) (f:k<=60):ci [.d (.int k)] st=some (.d (.int (2^k.toNat)),st):=by
 obtain⟨b,c,e2,o,rfl,rfl⟩:=bU (g:=.nm 2) (body:=gr) (λi env s=>∃ o,env=[Z (.int k),Z (.int (2^i)),o]/\s=st)
  ⟨none,U,U⟩ (λi d env s hd ⟨o,e,es⟩=>by
   subst e es;obtain⟨rfl,hi⟩:=cH hd;refine⟨_,[some _,some _,Z (.int i)],s,U,.inl ?_,_,U,U⟩
   exact aj (ae U U (i5 _ (hW (by decide)))))
 rw[bb]at e2;exact ax U (aY (aj U) (aY (bM (dA U a (by lia) U) e2) (aA U)))
theorem zp {j:Nat} (h:j<=20):(0:Int)<2^j/\(2:Int)^j<1073741824:=by
 have a:∀ m ,m<=20->2^m<=2^20:=λm b=>qaV (by decide) b;have c:=a j h;have d:0<2^j:=qd3 (by decide);lia
theorem xZ {st:Sto}{row k:Int} (a:0<=k) (b:k<=20):mR [.d (.int row),.d (.int k)] st=some (.d (.int (onI row k)),st):=by
 have h:=zp (j:=k.toNat) (by lia);exact ax U (aA (ae (ae U (ag U (oB a (by lia))) (qL _ ⟨h.1,h.2⟩)) U (i4 _ (by decide))))
def br (b:Bool) (t:List Int) (row:Int):Int:=if b=true then (if dm row t=(t.length:Int) then 1 else 0) else (if dm row t%2=1 then -1 else 1)
def aC (b:Bool):Str:=if b=true then "both" else "odd"
theorem pT (b:Bool):(aC b==("both" : Str))=b:=by cases b<;>decide
theorem ve {st:Sto}{b:Bool}{t:List Int}{row:Int} (j:∀ k∈t,0<=k/\k<=20) (n:t.length<=1000):hJ [.d (.str (aC b)),.d (au t),.d (.int row)] st=some (.d (.int (br b t row)),st):=by
 have c:lcI (.nm 0) az dX [none,some _] _ st=some ((t.map D.int).map λd=>match d with|.int k=>.int (onI row k)|d=>d,st):=dC _ λd hd=>by
  obtain⟨k,i,rfl⟩:=qay.mp hd;exact⟨_,U,ag U (xZ (j k i).1 (j k i).2)⟩
 have m:((t.map D.int).map λd=>match d with|.int k=>.int (onI row k)|d=>d)=(t.map (onI row)).map D.int:=by rw[qaC,qaC];rfl
 rw[m]at c;have a:=Eg st (t.map (onI row));rw[gg]at a;have g:(t.map D.int).length<=1000000:=by rw[qaf];lia
 have e:aZ st [.d (au t)]=some (.int (t.length)):=by
  show some (D.int _)=_;rw[qaf]
 have f:dEq st (.d (.str (aC b))) (.d (.str "both"))=some (.bl b):=by rw[DQ,pT]
 have l:br b t row=if b=true then (if (dm row t==(t.length))=true then 1 else 0) else (if (dm row t%2==(1))=true then -1 else 1):=by simp only[br,beq_iff_eq]
 rw[l];have first:∀ (tl:Sf) (r:Option Fl),tl [Z (.str (aC b)),Z (au t),Z (.int row),Z (.int (dm row t))] st=r->ah (aw (.nm 3) (iCB jt (aa (ap (iLc 1 [2] (ar (iV 1)) (.nm 0) az dX)) ac))) tl [Z (.str (aC b)),Z (au t),Z (.int row),none] st=r:=λtl r h=>by
  have q:aw (.nm 3) (iCB jt (aa (ap (iLc 1 [2] (ar (iV 1)) _ az dX)) ac)) [some _,some _,some _,none] st=some (.nx [Z (.str (aC b)),Z (au t),some _,some _] st):=aj (aF (ab (ak (aI (bv U) g c)) U) a);simp only[ah,q,qaa,h]
 generalize aC b=kd at *;cases b with
 |true=>
  cases hq:(dm row t==_) with
  |true=>exact ax U (first _ _ (sj (yh (aE U U f) (aA (si (aE U (aF U e) (by rw[eO,hq])) U)))))
  |false=>exact ax U (first _ _ (sj (yh (aE U U f) (aA (wf (aE U (aF U e) (by rw[eO,hq])) U)))))
 |false=>
  cases hq:(dm row t%2==_) with
  |true=>exact ax U (first _ _ (aY (yg (aE U U f) U) (aA (si (aE (ae U U (i4 _ (by decide))) U (by rw[eO,hq])) U))))
  |false=>exact ax U (first _ _ (aY (yg (aE U U f) U) (aA (wf (aE (ae U U (i4 _ (by decide))) U (by rw[eO,hq])) U))))
theorem BN (b:Bool) (t:List Int) (row:Int):-1<=br b t row/\br b t row<=1:=by
 unfold br;split<;>split<;>lia
theorem mY {st:Sto}{fs:List D} (f:fs.length<=1000):bL [.d (.tup fs)] st=some (.d (.tup ((aX 0 fs).map D.int)),st):=by
 have a:lcI (.tp [0,1]) f9 fW [none,none] (cB 0 fs) st=some (((cB 0 fs).filter Do).map FL,st):=gu _ _ λd hd=>by
  obtain⟨i,hi⟩:=qdP.mp hd;rw[gj]at hi;obtain⟨e,c,rfl⟩:=qad.mp hi;exact⟨_,U,by simp only[f9,Do,iV,iC,aN,kN,nk,tW,fG,qaa,qaj,qaB,qaJ,qbc,qbC,qa0],λ_=>by simp only[fW,FL,iV,kN,qaj,qaB,qbc,qbC,qa0]⟩
 rw[oS]at a;have b:(cB 0 fs).length<=1000000:=by rw[jd];lia
 simp only[bL,lI,iV,ac,aa,iCB,ap,aM,iLc,cY,bj,eL,dQ,dj,qaa,qaj,qaB,qas,qbL,qar,qbt,qa4,qa3,qbf,qbb,qcp,if_true,qa0,lg,a,b]
theorem sA {st:Sto}{fs:List D}{j:Nat}{d:D} (hd:fs[j]?=some d) (b:dE d) (a:d≠.non):dw [.d (.tup fs),.d (.int (j:Int))] st=some (.d (.int (sgD d)),st):=by
 have e:atI fs (j:Int)=some d:=bS hd;rcases b with rfl|rfl|rfl
 ·exact absurd U a
 ·simp only[dw,kY,iV,iC,iOp,aN,iUn,jO,aM,bj,nk,dQ,dIx,dEq,gm,eqK,eqD,fU,qaa,qaj,qaB,qaJ,qas,qbL,qar,qbt,qa3,qbf,qbb,qcC,qcp,if_true,if_false,qa8,qa0,lg,qdY,e,sgD,show ((0:Int)==1)=false by decide,show ¬ (0:Int)=1 by decide]
 ·simp only[dw,kY,iV,iC,iOp,aN,iUn,jO,aM,bj,nk,dQ,dIx,dEq,gm,eqK,eqD,fU,qaa,qaj,qaB,qaJ,qas,qbL,qar,qbt,qa3,qbf,qbb,qcC,qcp,if_true,qa0,lg,qdY,e,sgD,show ((1:Int)==1)=true by decide]
theorem Hm {d:D}:sgD d=1\/sgD d=-1:=by
 unfold sgD;split
 ·split
  ·exact .inl U
  ·exact .inr U
 ·exact .inl U
theorem zu {st:Sto}{fs:List D}{j:Nat}{d:D}{b:Bool}{t:List Int} (hd:fs[j]?=some d) (e:dE d) (c:d≠.non) (g:∀ k∈t,0<=k/\k<=20) (a:t.length<=1000) :
  dg [.d (.tup fs),.d (.str (aC b)),.d (au t),.d (.int (j:Int))] st=some (.d (.int (sgD d*br b t j)),st):=by
 have i:=sA (st:=st) hd e c;have e2:=ve (st:=st) (b:=b) (row:=j) g a;have f:qbJ (sgD d) (br b t j):=d5 (by rcases Hm (d:=d) with h|h<;>(rw[h];decide));generalize aC b=kd at e2 ⊢;generalize au t=tt at e2 ⊢;simp only[dg,iz,iV,iOp,ac,aa,ai,aM,bj,bg,qaa,qaj,qaB,qaJ,qas,qbL,qar,qbt,qa3,qbf,qbb,qcC,qcp,if_true,qa0,qdY,i,e2,f]
end Own
set_option maxHeartbeats 1000000
namespace Own
open PySem L2
open Sx (Pb Tb Good Named Fe LV ZV piv lexP leastR leaveL sumN unit colV basis)
theorem fN {α b:Type} (a:α) (F:α->b) (l:List α):l.map F=(qan l.length).map λi=>F (l.getD i a):=by
 apply qb4;intro i;rw[qaF,qaF];by_cases h:i<l.length
 ·rw[qbp h,qai h,qaj,qaj,qao,qai h];rfl
 ·rw[qaX (by lia),qaX (by rw[qaw];lia)];rfl
theorem E3 {n l:Nat}{f h g:Nat->Int} (b:∀ i,i<n->g i=f i) (c:∀ i,i<l->g (n+i)=h i):mpI n f++mpI l h=mpI (n+l) g:=by
 apply qb4;intro i;by_cases q:i<n
 ·rw[qaI (by rw[aH];exact q),bP q,bP (by lia),b i q]
 ·rw[qaO (by rw[aH];lia),aH]
  by_cases a:i<n+l
  ·rw[bP (by lia),bP a,<-c _ (by lia),show n+_=i by lia]
  ·rw[qaX (by rw[aH];lia),qaX (by rw[aH];lia)]
theorem wm (c:Int):∀ n,(qaL n [D.int c]).flatten=mpI n λ_=>c
 |0=>rfl
 |n+1=>by rw[dh,qgT,qg4,wm c n];rfl
theorem oh {α:Type}{te:Ef}{l:Ev}{st:Sto}{g:α->D} (F:α->D):∀ {a:List α},(∀ k∈a,te (Z (g k)::l) st=some (.d (F k),st))->lcI (.nm 0) az te (none::l) (a.map g) st=some (a.map F,st)
 |[],_=>rfl
 |k::a,h=>by
  rw[qas];unfold lcI;rw[show cv _ _ _=some (some _::l) from U,qaa,show az _ st=some (true,st) from U,qaa,(h k qag),qaa,(oh F λx b=>h x (qak _ b))];rfl
theorem Cc (F:Nat->D) (n:Nat):cB 0 ((qan n).map F)=(qan n).map λi:Nat=>D.tup [.int ((i:Nat):Int),F i]:=by
 apply qb4;intro i;rw[gj,qaF,qaF];by_cases hi:i<n
 ·rw[qbp hi,qaj,qaj,qaj,qa0]
 ·rw[qaX (by rw[qaw];lia)];rfl
structure Spl (fs:List D) (ts:List (List Int)):Prop where
 fl:fs.length<=32
 fv:∀ d∈fs,dE d
 tl:ts.length<=16
 tt:∀ t∈ts,(∀ k∈t,0<=k/\k<=20)/\t.length<=20
 nd:ts.Nodup
def nR (fs:List D):Nat:=(aX 0 fs).length
def ju (fs:List D) (i:Nat):Int:=(aX 0 fs).getD i 0
def spV (fs:List D) (b:Bool) (ts:List (List Int)) (i t:Nat):Int:=sgD (fs.getD (ju fs i).toNat .non)*br b (ts.getD t []) (ju fs i)
def tsD (ts:List (List Int)):D:=.tup (ts.map au)
section
variable {fs:List D}{b:Bool}{ts:List (List Int)}
theorem Spl.n (h:Spl fs ts):nR fs<=32:=qaM (jp fs 0) h.fl
theorem wt (h:Spl fs ts) {j:Int} (a:j∈aX 0 fs):∃ (m:Nat) (d:D),j=(m:Int)/\m<fs.length/\fs[m]?=some d/\dE d/\d≠.non/\fs.getD j.toNat .non=d:=by
 obtain⟨m,e,n,p⟩:=gG fs 0 a;rw[qa0]at e;have hd:=qai n;refine⟨m,_,e,n,hd,h.fv _ (qa2 n),λq=>p (by rw[hd,q]),?_⟩;rw[e,qaE,qao,hd];rfl
theorem BC {st:Sto} (h:Spl fs ts):dO [.d (.tup fs),.d (.str (aC b)),.d (tsD ts)] st=some (.d (.lst ((qan (nR fs)).map λi=>D.lst (mpI ts.length (spV fs b ts i)))),st):=by
 have o:∀ j∈aX 0 fs,lcI _ az fD [none,some _,some _,Z _] _ st=some (ts.map λt=>D.int (sgD (fs.getD j.toNat .non)*br b t j),st):=λj a=>by
  obtain⟨m,d,rfl,n,hd,r,p,hg⟩:=wt h a;refine oh (g:=au) _ λt c=>?_;rw[hg];exact ag (ab U (ab U (ab U (ab U U)))) (zu hd r p (h.tt t c).1 (by have:=(h.tt t c).2;lia))
 have l:lcI _ az fE [none,some _,some _,some _] _ st=some ((aX 0 fs).map λj=>D.lst _,st):=
  oh _ λj a=>ak (aI (bv U) (by rw[qaf];have:=h.tl;lia) (o j a))
 have e:((aX 0 fs).map λj=>D.lst (ts.map λt=>D.int (sgD (fs.getD j.toNat .non)*br b t j)))=(qan (nR fs)).map λi=>D.lst (mpI ts.length (spV fs b ts i)):=by
  rw[fN 0 _ _];refine qbe λi _=>?_;rw[fN [] _ ts];rfl
 rw[e]at l;exact ax U (aA (ak (aI (bv (ag U (mY (by have:=h.fl;lia)))) (by rw[qaf];have:=h.n;unfold nR at this;lia) l)))
theorem DF {st:Sto}{k:Nat}{f:Nat->Int} (s:k<=100):iW [.d (.lst (mpI k f))] st=some (.d (.lst (mpI k f++mpI k λt=>- f t)),st):=by
 have l:lcI _ az jz [none] (mpI k f) st=some (mpI k λt=>- f t,st):=iT _ λt _=>rfl;exact ax U (aA (ae (ak (U)) (ak (aI (aL U) (by rw[aH];lia) l)) (ez _ (by rw[aH,aH];lia))))
end
end Own
set_option maxHeartbeats 1000000
namespace Own
open PySem L2
open Sx (Pb Tb Good Named Fe LV ZV piv lexP leastR leaveL sumN unit colV basis)
theorem uI (s:Sto) (c:Int) {n:Nat} (a:n<1000):bg s (.d (.tup [.int c])) (.d (.int (n:Int)))=some (.tup (mpI n λ_=>c)):=by
 show (if _ then some _ else none)=_;rw[iFP ⟨by simp,by show 1<=1000;decide,by lia,by lia⟩,qaE,wm]
theorem AC (s:Sto) (c:Int) {n:Nat} (a:n<1000):bg s (.d (.lst [.int c])) (.d (.int (n:Int)))=some (.lst (mpI n λ_=>c)):=by
 show (if _ then some _ else none)=_;rw[iFP ⟨by show 1<=1000;decide,by lia,by lia⟩,qaE,wm]
theorem HA (s:Sto) (k:Nat):bg s (.d (.int 2)) (.d (.int (k:Int)))=some (.int ((k+k:Nat):Int)):=by
 rw[dM s (d5 (by decide)),show _*_=((k+k:Nat):Int) by lia]
section
variable {fs:List D}{b:Bool}{ts:List (List Int)}{N k:Nat}{V:Nat->Nat->Int}
theorem By (i t:Nat):(spV fs b ts i t).natAbs<=1:=by
 unfold spV;rw[qct];have O:(sgD (fs.getD (ju fs i).toNat .non)).natAbs<=1:=by rcases Hm with h|h<;>rw[h]<;>decide
 have h2:(br b (ts.getD t []) (ju fs i)).natAbs<=1:=by
  unfold br;split<;>split<;>decide
 exact qaM (qcY O h2) (by decide)
theorem F3 (hN:N<=32) (w:k<=16) (I:∀ i t,(V i t).natAbs<=1):Inp (N+1) (k+k+1) (Sx.wdR N k V) (Sx.wdB N) (Sx.wdG k):=by
 have one:∀ {z:Int},z.natAbs<=1->z.natAbs<=2^50:=λh=>qaM h (by decide);refine⟨by lia,by lia,λi c _ _=>one ?_,λi _=>⟨one ?_,?_⟩,λc _=>one ?_⟩
 ·unfold Sx.wdR
  split
  ·split
   ·rw[qgt];exact I _ _
   ·split
    ·exact I _ _
    ·decide
  ·split<;>decide
 ·unfold Sx.wdB;split<;>decide
 ·unfold Sx.wdB;split<;>decide
 ·unfold Sx.wdG;split<;>decide
structure Ep (N k:Nat) (V:Nat->Nat->Int) (p:Int) (am pr:Nat->Int):Prop where
 p1:1<=p
 row:∀ i,i<N->am (k+k)<=sumN k λt=>(am t - am (k+t))*V i t
 siz:sumN (k+k) am<=p
 col:∀ t,t<k->(sumN N λi=>V i t*pr i)<=am (k+k)/\- am (k+k)<=sumN N λi=>V i t*pr i
 tot:p<=sumN N pr
 sp:Sm p
 sa:∀ j,j<k+k+1->Sm (am j)/\0<=am j
 sr:∀ i,i<N->Sm (pr i)/\0<=pr i
theorem HC (hN:0<N) {x:D} (M:BY (i6 (N+1) (k+k+1) (Sx.wdR N k V) (Sx.wdB N) (Sx.wdG k)) x):∃ p am pr,Ep N k V p am pr/\x=.tup [.str "most",.int p,.tup (mpI (k+k+1) am),.tup (mpI (N+1) pr)]:=by
 have G:∀ {r j:Nat},r<N+1->j<k+k+1->(i6 _ _ _ (Sx.wdB N) (Sx.wdG k)).A j r=Sx.wdR N k V r j:=λl a=>by
  show (if _<k+k+1 then _ else _)=_;rw[iFP a,iFP l]
 have K:∀ {r:Nat},r<N+1->(i6 _ (k+k+1) (Sx.wdR N k V) _ (Sx.wdG k)).b r=Sx.wdB N r:=λl=>iFP l;have pg:∀ {j:Nat},j<k+k+1->(i6 (N+1) _ (Sx.wdR N k V) (Sx.wdB N) _).g j=Sx.wdG k j:=λa=>iFP a;cases M with
 |beyond v M=>
  exfalso
  refine Sx.wide_most (V:=V) hN M.w0 (λr l=>?_) ?_
  ·have:=M.rows r l
   rw[Sx.sumN_congr (g:=λj=>v j*(i6 _ _ _ _ _).A j r) λj a=>by rw[G l a]];exact this
  ·have:=M.gain
   rw[Sx.sumN_congr (g:=λj=>v j*(i6 _ _ _ _ _).g j) λj a=>by rw[pg a]];exact this
 |most p am pr M=>
  have c:=Sx.wide_core M.am0 M.pr0 (λr l=>by
   have:=M.rows r l
   rw[K l]at this;rw[Sx.sumN_congr (g:=λj=>am j*(i6 _ _ _ _ _).A j r) λj a=>by rw[G l a]];exact this) (λj a=>by
   have:=M.cols j a
   rw[pg a]at this;rw[Sx.sumN_congr (g:=λr=>(i6 _ _ _ _ _).A j r*pr r) λr l=>by rw[G l a]];exact this) (by
   have:=M.same
   rw[Sx.sumN_congr (g:=λr=>(i6 _ _ _ _ _).b r*pr r) λr l=>by rw[K l],Sx.sumN_congr (n:=k+k+1) (g:=λj=>am j*(i6 _ _ _ _ _).g j) λj a=>by rw[pg a]]
   exact this)
  exact⟨p,am,pr,⟨M.p1,c.1,c.2.1,c.2.2.1,c.2.2.2,M.sp,λj a=>⟨M.sa j a,M.am0 j a⟩,λi hi=>⟨M.sr i (show i<N+1 by lia),M.pr0 i (show i<N+1 by lia)⟩⟩,U⟩
theorem DH {st:Sto} (hN:N<=32) (w:k<=16):lcI (.nm 0) az jM [none] ((qan N).map λi=>D.lst (mpI k (V i))) st=some ((qan N).map λi=>D.lst (mpI (k+k+1) (Sx.wdR N k V i)),st):=
 iT _ λi hi=>by
  have q:=qaH.mp hi;have R:mpI k _++mpI k (λt=>- - V i t)=mpI _ (Sx.wdR N k V i):=E3 (λt s=>by unfold Sx.wdR;rw[iFP q,iFP s]) (λt s=>by unfold Sx.wdR;rw[iFP q,iFN (by lia),iFP (by lia),qdD,Int.neg_neg]);have e2:mpI (k+k) (Sx.wdR N k V i)++[D.int 1]=mpI (k+k+1) (Sx.wdR N k V i):=by
   rw[dh,show Sx.wdR N k V i _=1 by unfold Sx.wdR;rw[iFP q,iFN (by lia),iFN (by lia)]]
  have hw:=DF (st:=st) (k:=k) (f:=λt=>- V i t) (by lia);rw[R]at hw;rw[<-e2];exact ae (ag (ab (ak (aI (aL U) (by rw[aH];lia) (iT _ λt _=>rfl))) U) hw) (ak (cG (ab U U) U (by decide))) (ez _ (by rw[aH];show k+k+1<=1000000;lia))
theorem F4 (h:Spl fs ts) (hN:0<nR fs):∃ p am pr,Ep (nR fs) ts.length (spV fs b ts) p am pr/\∀ (st:Sto) (J B C:Option W),∃ u,
  ah (aw (.nm 4) (iOp bm (ap (iLc 1 [] (ar (iV 3)) (.nm 0) az jM)) (ap (bD (aa (iOp bm (iOp bg (ap (bD (aa (iC (.int 1)) ac))) (iOp bg (iC (.int 2)) (iCB aZ (aa (iV 2) ac)))) (ap (bD (aa (iC (.int 0)) ac)))) ac))))) (aw (.nm 5) (ai jj (aa (iCB dj (aa (ap (iLc 1 [] (ar (iV 4)) (.nm 0) az jL)) ac)) (aa (iOp bm (iOp bg (bz (aa (iC (.int 0)) ac)) (iCB aZ (aa (iV 3) ac))) (bz (aa (iC (.int 1)) ac))) (aa (iOp bm (iOp bg (bz (aa (iC (.int 0)) ac)) (iOp bg (iC (.int 2)) (iCB aZ (aa (iV 2) ac)))) (bz (aa (iC (.int 1)) ac))) ac)))))
   [Z (.tup fs),Z (.str (aC b)),Z (tsD ts),Z (.lst ((qan (nR fs)).map λi=>D.lst (mpI ts.length (spV fs b ts i)))),none,J,B,C] st
   = some (.nx [Z (.tup fs),Z (.str (aC b)),Z (tsD ts),Z (.lst ((qan (nR fs)).map λi=>D.lst (mpI ts.length (spV fs b ts i)))),Z (.lst ((qan (nR fs+1)).map λi=>D.lst (mpI (ts.length+ts.length+1) (Sx.wdR (nR fs) ts.length (spV fs b ts) i)))),Z (.tup [.str "most",.int p,.tup (mpI (ts.length+ts.length+1) am),.tup (mpI (nR fs+1) pr)]),B,C] (st++u)):=by
 have L:=h.n;have w:=h.tl;obtain⟨x,M,_,S⟩:=CD (F3 (N:=nR fs) (k:=ts.length) (V:=spV fs b ts) L w By);obtain⟨p,am,pr,y,rfl⟩:=HC hN M;refine⟨p,am,pr,y,λst J B C=>?_⟩;obtain⟨u,e⟩:=S st;refine⟨u,?_⟩;have m:aZ st [.d (tsD ts)]=some (.int (ts.length:Int)):=by
  show some (D.int _)=_;rw[qaf]
 have E:aZ st [.d (.lst ((qan (nR fs)).map λi=>D.lst (mpI ts.length (spV fs b ts i))))]=some (.int (nR fs:Int)):=by
  show some (D.int _)=_;rw[qaf,qaw]
 have P:=DH (st:=st) (V:=spV fs b ts) (N:=nR fs) (k:=ts.length) L w;have o:mpI (ts.length+ts.length) (λ_=>1)++[D.int 0]=mpI (ts.length+ts.length+1) (Sx.wdR (nR fs) ts.length (spV fs b ts) (nR fs)):=by
  rw[dh,show Sx.wdR (nR fs) ts.length (spV fs b ts) (nR fs) (ts.length+ts.length)=0 by unfold Sx.wdR;rw[iFN (by lia),iFN (by lia)]];refine congrArg (·++[D.int 0]) (qbe λj a=>?_)
  have:=qaH.mp a
  unfold Sx.wdR;rw[iFN (by lia),iFP (by lia)]
 have hb:mpI (nR fs) (λ_=>0)++[D.int 1]=mpI (nR fs+1) (Sx.wdB (nR fs)):=by
  rw[dh,show Sx.wdB (nR fs) (nR fs)=1 by unfold Sx.wdB;rw[iFN (by lia)]];refine congrArg (·++[D.int 1]) (qbe λj a=>?_)
  have:=qaH.mp a
  unfold Sx.wdB;rw[iFP (by lia)]
 have hg:mpI (ts.length+ts.length) (λ_=>0)++[D.int 1]=mpI (ts.length+ts.length+1) (Sx.wdG ts.length):=by
  rw[dh,show Sx.wdG ts.length (ts.length+ts.length)=1 by unfold Sx.wdG;rw[iFN (by lia)]];refine congrArg (·++[D.int 1]) (qbe λj a=>?_)
  have:=qaH.mp a
  unfold Sx.wdG;rw[iFP (by lia)]
 have l:((qan (nR fs)).map λr=>D.lst (mpI (ts.length+ts.length+1) (Sx.wdR (nR fs) ts.length (spV fs b ts) r)))++[D.lst (mpI (ts.length+ts.length+1) (Sx.wdR (nR fs) ts.length (spV fs b ts) (nR fs)))]=(qan (nR fs+1)).map λr=>D.lst (mpI (ts.length+ts.length+1) (Sx.wdR (nR fs) ts.length (spV fs b ts) r)):=by
  rw[qd0,qbs];rfl
 have s:lcI (.nm 0) az jL [none] _ st=some ((qan (nR fs+1)).map λr=>D.tup _,st):=
  iT (g:=λr=>D.lst (mpI (ts.length+ts.length+1) (Sx.wdR (nR fs) ts.length (spV fs b ts) r))) _ λr _=>rfl
 have lL:((qan (nR fs)).map λr=>D.lst (mpI (ts.length+ts.length+1) (Sx.wdR (nR fs) ts.length (spV fs b ts) r))).length+1<=1000000:=by rw[qaf,qaw];lia
 have X:((qan (nR fs)).map λi=>D.lst (mpI ts.length (spV fs b ts i))).length<=1000000:=by rw[qaf,qaw];lia
 have F:((qan (nR fs+1)).map λr=>D.lst (mpI (ts.length+ts.length+1) (Sx.wdR (nR fs) ts.length (spV fs b ts) r))).length<=1000000:=by rw[qaf,qaw];lia
 have T:(mpI (ts.length+ts.length) (λ_=>1)).length+1<=1000000:=by rw[aH];lia
 have Y:(mpI (nR fs) (λ_=>0)).length+1<=1000000:=by rw[aH];lia
 have Q:(mpI (ts.length+ts.length) (λ_=>0)).length+1<=1000000:=by rw[aH];lia
 have m1:=AC st 1 (n:=ts.length+ts.length) (by lia);have m2:=uI st 0 (n:=nR fs) (by lia);have m3:=uI st 0 (n:=ts.length+ts.length) (by lia);have H:=HA st ts.length;unfold kL at e;rw[<-hb,<-hg]at e;rw[<-l]at s F ⊢;rw[<-o]at s F ⊢;generalize mpI (ts.length+ts.length) (λ_=>1)=A1 at *;exact ao (aj (ae (ak (aI (aL U) X P)) (ak (cG (ab (ae (ae (ak (cG (ds:=[.int 1]) (ab U U) U (by show 1<=1000;decide))) (ae U (aF (ab U U) m) H) m1) (ak (cG (ds:=[.int 0]) (ab U U) U (by show 1<=1000;decide))) (ez _ T)) U) U (by show 1<=1000;decide))) (ez _ lL)))
  (aj (ag (ab (aF (ab (ak (aI (aL U) F s)) U) U) (ab (ae (ae (bF (ds:=[.int 0]) (ab U U) U (by show 1<=1000;decide)) (aF (ab U U) E) m2) (bF (ds:=[.int 1]) (ab U U) U (by show 1<=1000;decide)) (m8 _ Y)) (ab (ae (ae (bF (ds:=[.int 0]) (ab U U) U (by show 1<=1000;decide)) (ae U (aF (ab U U) m) H) m3) (bF (ds:=[.int 1]) (ab U U) U (by show 1<=1000;decide)) (m8 _ Q)) U))) e))
end
end Own
set_option maxHeartbeats 1000000
namespace Own
open PySem L2
open Sx (Pb Tb Good Named Fe LV ZV piv lexP leastR leaveL sumN unit colV basis)
theorem HS {ns:List Int} (h:∀ x∈ns,x=0):bW 0 ns=0:=by
 have d:=λx b=>qb0.mpr ((cX 0 ns).2 x b)
 induction ns with
 |nil=>rfl
 |cons x ns c=>
  have b:=h x qag;subst b;exact c (λy a=>h y (qak _ a)) (λy a=>qb0.mpr ((cX 0 ns).2 y a))
theorem CC {n:Nat}{f:Nat->Int} (m:∀ i,i<n->Sm (f i)) (s:n<=1000):∃ (q:Int) (g:Nat->Int),0<q/\(∀ i,i<n->f i=q*g i)/\∀ st:Sto,bI [.d (.tup (mpI n f))] st=some (.d (.tup (mpI n g)),st):=by
 have hb:∀ x∈(qan n).map f,Sm x:=λx a=>by
  obtain⟨i,hi,rfl⟩:=qay.mp a;exact m i (qaH.mp hi)
 have k:=λst=>qN (st:=st) (λ_ _=>by rw[<-cj];exact bv U) hb;by_cases c:∀ x∈(qan n).map f,x=0
 ·refine⟨1,f,by decide,λi _=>(qcG _).symm,λst=>?_⟩
  have e:=k st;rw[HS c]at e;exact ax U (ao (aj (ag U e)) (kK (f7 U U)))
 ·obtain⟨x,a,l⟩:∃ x∈(qan n).map f,x≠0:=by
   by_cases q:∃ x∈(qan n).map f,x≠0
   ·exact q
   ·exact absurd (λx a=>qdd λh=>q ⟨x,a,h⟩) c
  obtain⟨j,p⟩:=jN a l (hb x a);have gd:∀ i,i<n->_∣f i:=λi hi=>qb0.mpr ((cX 0 _).2 _ (qay.mpr ⟨i,qaH.mpr hi,U⟩));generalize ((bW 0 _):Int)=q at *;refine⟨q,_,j,λi hi=>(qco (gd i hi)).symm,λst=>?_⟩;have r:(q==(0))=false:=by lia
  have b:=nu (st:=st) (ns:=(qan n).map f) j p U;rw[<-cj,qaC,qaC]at b;have o:(mpI n f).length<=1000000:=by rw[aH];lia
  exact ax U (ao (aj (ag U (k st))) (ao (cO (aE U U (by rw[eO,r])) U) (aA (aF (ab (ak (aI (bv U) o b)) U) U))))
def rN (fs:List D) (i:Nat):Nat:=(ju fs i).toNat
section
variable {fs:List D}{b:Bool}{ts:List (List Int)}
theorem yu:∀ (r:List D) (i:Nat),(aX i r).Nodup
 |[],_=>qcW
 |d::r,i=>by
  have B:=yu r (i+1);have z:∀ j∈aX _ r,(i)≠j:=λj p=>by
   obtain⟨m,e,_,_⟩:=gG r (i+1) p;lia
  cases d<;>first|exact B|exact (qcb.mpr ⟨λu=>z _ u U,B⟩)
theorem sv {i:Nat} (hi:i<nR fs):ju fs i∈aX 0 fs:=by
 unfold ju;rw[qao,qai hi];exact qa2 hi
theorem gC (h:Spl fs ts) {i:Nat} (hi:i<nR fs):ju fs i=(rN fs i:Int)/\rN fs i<fs.length:=by
 obtain⟨m,d,e,u,_⟩:=wt h (sv hi);unfold rN;rw[e];exact⟨U,u⟩
theorem wq (h:Spl fs ts) {i j:Nat} (hi:i<nR fs) (p:j<nR fs) (e:rN fs i=rN fs j):i=j:=by
 have q:ju fs i=ju fs j:=by rw[(gC h hi).1,(gC h p).1,e]
 unfold ju at q;rw[qao,qao,qai hi,qai p]at q;exact (qdT (yu fs 0)).mp q
theorem F2 {st:Sto}{m:Nat}{y:Nat->Int} (h:Spl fs ts) (u:m=nR fs\/m=0):dZ [.d (.tup fs),.d (.tup (mpI m y))] st=some (.d (.tup (mpI fs.length λr=>acc (rN fs) y m r)),st):=by
 have C:=h.fl;have E:∀ (x f c:Option W) (s:Sto),bL [.d (.tup fs)] s=some (.d (.tup ((aX 0 fs).map D.int)),s)->im (aa (ai bL (aa (iV 0) ac)) (aa (iV 1) ac)) [Z (.tup fs),Z (.tup (mpI m y)),x,f,c] s=some ((qan m).map λi=>D.tup [.int ((rN fs i:Nat):Int),.int (y i)],s):=λx f c s G=>by
  have q:fu ((aX 0 fs).map D.int) (mpI m y)=(qan m).map λi=>D.tup [.int ((rN fs i:Nat):Int),.int (y i)]:=by
   apply qb4;intro i;rw[gI,qaF,qaF];by_cases hi:i<m
   ·rw[bP hi,qbp hi]
    have t:i<(aX 0 fs).length:=by have:nR fs=(aX 0 fs).length:=rfl;lia
    have e:=(gC h (show i<nR fs by lia)).1;unfold ju at e;rw[qao,qai t]at e;rw[qai t,qaj,qaj,<-e];rfl
   ·rw[qaX (l:=mpI m y) (by rw[aH];lia),qaX (l:=qan m) (by rw[qaw];lia)]
    cases (aX 0 fs)[i]?<;>rfl
  rw[<-q]
  have:=ab (ag (a:=aa (iV 0) ac) (env:=[Z (.tup fs),Z (.tup (mpI m y)),x,f,c]) (st:=s) U G) (ab (a:=iV 1) (b:=ac) U U)
  simp only[im,this,qaa];rfl
 obtain⟨A,H,e2,⟨f,c,rfl⟩,rfl⟩:=bU (g:=.tp [3,4]) (body:=iS) (ds:=(qan m).map λi=>D.tup [.int ((rN fs i:Nat):Int),.int (y i)])
  (λi env s=>(∃ f c,env=[Z (.tup fs),Z (.tup (mpI m y)),some (.h st.length),f,c])/\s=st++[.l (mpI fs.length λr=>acc (rN fs) y i (0+r))])
  ⟨⟨_,_,U⟩,U⟩ (λi d env s hd ⟨⟨f,c,e⟩,es⟩=>by
   subst e es;obtain⟨hi,rfl⟩:=ow hd;refine⟨_,_,_,U,.inl ?_,⟨some (.d (.int ((rN fs i:Nat):Int))),Z (.int (y i)),U⟩,U⟩
   have:=sIx (k:=rN fs i) (env:=[Z (.tup fs),Z (.tup (mpI m y)),some (.h st.length),Z (.int ((rN fs i:Nat):Int)),Z (.int (y i))]) (v:=iV 4) (d:=.int (y i)) (st:=st) (xs:=mpI fs.length λr=>acc (rN fs) y i (0+r)) U (o:=iV 2) (i:=iV 3) U U (by rw[aH];exact ((gC h (show i<nR fs by lia)).2))
   rw[<-qh (d:=0) (N:=fs.length) (e:=rN fs) (y:=y) (i:=i) (by lia) λj p e=>by have:=wq h (show j<nR fs by lia) (show i<nR fs by lia) e;lia]
   exact this)
 rw[qaf,qaw]at e2;have w:=mY (st:=st++[.l (mpI fs.length λr=>acc (rN fs) y 0 (0+r))]) (fs:=fs) (by lia);have F:iCB dj (aa (iV 2) ac) [Z (.tup fs),Z (.tup (mpI m y)),some (.h st.length),f,c] (st++[.l (mpI fs.length λr=>acc (rN fs) y m (0+r))])=some (.d (.tup (mpI fs.length λr=>acc (rN fs) y m (0+r))),st++[.l (mpI fs.length λr=>acc (rN fs) y m (0+r))]):=by
  refine aF (ab U U) ?_;show (lg (st++[.l (mpI fs.length λr=>acc (rN fs) y m (0+r))]) st.length).map _=_;rw[(dq st (mpI fs.length λr=>acc (rN fs) y m (0+r)))];rfl
 have:=gB (n:=5) (k:=2) (b:=jY) (ws:=[.d (.tup fs),.d (.tup (mpI m y))]) (st:=st) U (ao (aj (jm (st:=st) (aF (ab U U) U) (by lia) _ y 0)) (ao (bM (E _ _ _ _ w) e2) (aA F)))
 rw[qcq]at this;simp only[qa0]at this;exact this
end
end Own
set_option maxHeartbeats 1000000
namespace Own
open PySem L2
open Sx (Pb Tb Good Named Fe LV ZV piv lexP leastR leaveL sumN unit colV basis)
theorem sM (k:List Int) (d:D) (r:List (List Int×D)) (t:List Int):vM ((k,d)::r) t=if k=t then some d else vM r t:=by
 unfold vM;by_cases e:k=t
 ·rw[qeH (by simpa using e),iFP e];rfl
 ·rw[qeI (by simpa using e),iFN e]
theorem B4 (a:List (List Int×D)) (k:List Int):(a.any λp=>decide (p.1=k))=decide (k∈a.map qcA):=by
 induction a with
 |nil=>rfl
 |cons p r b=>
  rw[qcB,b];by_cases e:p.1=k
  ·simp[e]
  ·have:¬ k=p.1:=λz=>e z.symm
   simp[e,this]
theorem BM (k:List Int) (d:D) (j:List Int):∀ a:List (List Int×D),k∉a.map qcA->vM (a++[(k,d)]) j=if j=k then some d else vM a j
 |[],_=>by
  show vM [(k,d)] j=_;rw[sM];by_cases e:k=j
  ·rw[iFP e,iFP e.symm]
  ·rw[iFN e,iFN (λz=>e z.symm)]
 |(c,f)::r,h=>by
  rw[qas,qaA,not_or]at h;rw[qbf,sM,sM,BM k d j r h.2];by_cases b:c=j
  ·rw[iFP b,iFP b,iFN (λz=>h.1 (z.symm.trans b.symm))]
  ·rw[iFN b,iFN b]
theorem Cb (s:Sto) (a:Int):dNe s (.d (.int a)) (.d (.int 0))=some (.bl (decide (a≠0))):=by
 show some (D.bl (!(a==0)))=_;by_cases h:a=0<;>simp[h]
def aU (a:List (List Int)) (X:List Int->Int):List Prt:=(a.filter λt=>decide (X t≠0)).map λt=>(t,X t)
theorem Ac {st:Sto}{kd:Str}{n:Nat}{a:List (List Int×D)}{X:List Int->Int} (m:mgt st n=some a) (i:a.length<64) (q:∀ t∈a.map qcA,vM a t=some (.int (X t))) :
  iX [.d (.str kd),.h n] st=some (.d (aQ kd (aU (aD (a.map qcA)) X)),st):=by
 have p:(aD (a.map qcA)).length<=64:=by rw[(aB _).length_eq,qaf];lia
 have f:∀ t∈aD _,yZ (iV 1) (iV 0) [Z (au t),some (.h n)] st=some (.d (.int (X t)),st):=λt b=>by
  have e2:=(λt b=>q t ((aB _).mem_iff.mp b)) t b;simp only[yZ,iV,au,qaB,qaJ,qaj,qaa,m,(bu t),e2]
 have c:=gu (g:=.nm 0) (tt:=jF) (te:=jA) (env:=[none,some _]) (λd=>match d with|.tup ds=>(match aW ds with|some t=>decide (X t≠0)|none=>false)|_=>false) (λd=>match d with|.tup ds=>(match aW ds with|some t=>ca (t,X t)|none=>d)|d=>d) (ds:=(aD _).map au) λd hd=>by
  obtain⟨t,b,rfl⟩:=qay.mp hd;have j:=bu t;refine⟨_,U,?_,λ_=>?_⟩
  ·show _=some ((match aW _ with|some t=>decide _|none=>false),st)
   rw[j];exact aE (f t b) U (Cb _ _)
  ·show _=some (W.d (match aW _ with|some t=>ca (t,X t)|none=>au t),st)
   rw[j];exact bF (ab U (ab (f t b) U)) U (by show 2<=1000;decide)
 have e:((((aD (a.map qcA)).map au).filter (λd=>match d with|.tup ds=>(match aW ds with|some t=>decide (X t≠0)|none=>false)|_=>false)).map (λd=>match d with|.tup ds=>(match aW ds with|some t=>ca (t,X t)|none=>d)|d=>d))=(aU (aD (a.map qcA)) X).map ca:=by
  unfold aU;rw[qf0,qaC,qaC];have j:=bu
  congr 1
  ·funext t
   show (match aW _ with|some t=>ca (t,X t)|none=>au t)=ca (t,X t)
   rw[j]
  ·refine qfx λt _=>?_
   show (match aW _ with|some t=>decide _|none=>false)=_
   rw[j]
 rw[e]at c;have k:lj (iV 1) [Z (.str kd),some (.h n)] st=some ((aD (a.map qcA)).map au,st):=by
  simp only[lj,iV,qaB,qaJ,qaj,qaa,m,i,if_true]
 have l:ar (ap (lj (iV 1))) [Z (.str kd),some (.h n)] st=some ((aD (a.map qcA)).map au,st):=by
  simp only[ar,ap,k,qaj,qaa]
 have o:((aD (a.map qcA)).map au).length<=1000000:=by rw[qaf];lia
 exact ax U (aA (bF (ab U (ab (aF (ab (ak (aI l o c)) U) U) U)) U (by show 2<=1000;decide)))
theorem uD (st:Sto) (a:List (List Int×D)):mgt (st++[.m a]) st.length=some a:=by
 unfold mgt;rw[qaO (qap _),qeV];rfl
theorem vO {α:Type}{te:Ef}{l:Ev}{st:Sto}{g:α->D×D} (F:α->D):∀ {a:List α},(∀ k∈a,te (Z (g k).1::some (.d (g k).2)::l) st=some (.d (F k),st))->
  lcI (.tp [0,1]) az te (none::none::l) (a.map λk=>D.tup [(g k).1,(g k).2]) st=some (a.map F,st)
 |[],_=>rfl
 |k::a,h=>by
  rw[qas];unfold lcI;rw[show cv _ _ _=some (some _::some _::l) from U,qaa,show az _ st=some (true,st) from U,qaa,(h k qag),qaa,(vO F λx b=>h x (qak _ b))];rfl
end Own
set_option maxHeartbeats 1000000
namespace Own
open PySem L2
open Sx (Pb Tb Good Named Fe LV ZV piv lexP leastR leaveL sumN unit colV basis)
def dvP (g:Int) (p:Prt):Prt:=(p.1,p.2 / g)
theorem zm {st:Sto}{kd:Str}{ps:List Prt}{g:Int} (e:ps.length<=1000) (hg:∀ p∈ps,0<g/\Sm g):oo [.d (aQ kd ps),.d (.int g)] st=some (.d (aQ kd (ps.map (dvP g))),st):=by
 have a:lcI (.tp [0,1]) az nD [none,none,Z (.int g)] (ps.map ca) st=some ((ps.map (dvP g)).map ca,st):=by
  rw[qaC];exact vO (g:=λp:Prt=>(au p.1,D.int p.2)) _ λp b=>bF (ab U (ab (ae U U (qH st (hg p b).1 (hg p b).2)) U)) U (by show 2<=1000;decide)
 have c:(ps.map ca).length<=1000000:=by rw[qaf];lia
 exact ax U (aA (bF (ab (ae U U (vJ _ _ _)) (ab (aF (ab (ak (aI (bv (ae U U (rB _ _ _))) c a)) U) U) U)) U (by show 2<=1000;decide)))
theorem zt {st:Sto}{kd:Str}{ps:List Prt} (f:ps.length<=1000) (c:∀ p∈ps,p.2≠0/\Sm p.2):oq [.d (aQ kd ps)] st=some (.d (aQ kd (ps.map (dvP ((bW 0 (ps.map qdA):Nat):Int)))),st):=by
 have b:lcI (.tp [0,1]) az nE [none,none] (ps.map ca) st=some ((ps.map qdA).map D.int,st):=by
  rw[qaC];exact vO (g:=λp:Prt=>(au p.1,D.int p.2)) _ λp a=>rfl
 have e:(ps.map ca).length<=1000000:=by rw[qaf];lia
 exact ax U (aA (ag (ab U (ab (ag (ab (ak (aI (bv (ae U U (rB _ _ _))) e b)) U) (nK (st:=st) λn h=>by
  obtain⟨p,a,rfl⟩:=qay.mp h
  exact (c p a).2)) U)) (zm (st:=st) (kd:=kd) f λp a=>jN (qd1 a) (c p a).1 (c p a).2)))
theorem CI {a:List (List Int)}{X:List Int->Int}{g:Int} (hd:∀ t∈a,g∣X t):(aU a X).map (dvP g)=aU a λt=>X t / g:=by
 unfold aU;rw[qaC]
 have:(a.filter λt=>decide (X t≠0))=a.filter λt=>decide (X t / g≠0):=qfx λt b=>by
  apply decide_eq_decide.mpr;refine not_congr ⟨λh=>by rw[h,qiM],λh=>by rw[<-(qco (hd t b)),h,qbh]⟩
 rw[this];rfl
def pkv (ts:List (List Int)) (x:Nat->Int) (i:Nat):List (List Int×D):=(qan i).map λj=>(ts.getD j [],.int (x j))
section
variable {ts:List (List Int)}{x:Nat->Int}
theorem ub (o:ts.Nodup) {i j:Nat} (hi:i<ts.length) (l:j<ts.length) (e:ts.getD i []=ts.getD j []):i=j:=by
 rw[qao,qao,qai hi,qai l]at e;exact (qdT o).mp e
theorem yc (i:Nat):(pkv ts x i).map qcA=(qan i).map λj=>ts.getD j []:=by unfold pkv;rw[qaC];rfl
theorem yb:(pkv ts x ts.length).map qcA=ts:=by
 have:=fN [] id ts
 rw[qe8]at this;rw[yc];exact this.symm
theorem A6 (o:ts.Nodup) {i:Nat} (hi:i<ts.length):ts.getD i []∉(pkv ts x i).map qcA:=λh=>by
 rw[yc]at h;obtain⟨j,l,e⟩:=qay.mp h;have J:=qaH.mp l
 have:=ub o (show j<ts.length by lia) hi e
 lia
theorem uQ (i:Nat):pkv ts x (i+1)=pkv ts x i++[(ts.getD i [],.int (x i))]:=by unfold pkv;rw[qd0,qbs];rfl
theorem C4 (o:ts.Nodup) {i:Nat} (hi:i<ts.length):Bf (pkv ts x i) (ts.getD i []) (.int (x i))=pkv ts x (i+1):=by
 rw[uQ];unfold Bf;rw[B4,iFN (by rw[decide_eq_true_iff];exact (A6 o hi))]
theorem A7 (o:ts.Nodup):∀ {i j:Nat},i<=ts.length->j<i->vM (pkv ts x i) (ts.getD j [])=some (.int (x j))
 |0,_,_,l=>absurd l (qcu _)
 |i+1,j,hi,l=>by
  rw[uQ,BM _ _ _ _ (A6 o (by lia))];by_cases e:j=i
  ·subst e;rw[iFP U]
  ·rw[iFN (λq=>e (ub o (by lia) (by lia) q)),A7 o (by lia) (by lia)]
def gx (ts:List (List Int)) (x:Nat->Int) (t:List Int):Int:=match vM (pkv ts x ts.length) t with|some (.int z)=>z|_=>0
theorem CJ (o:ts.Nodup) {j:Nat} (l:j<ts.length):gx ts x (ts.getD j [])=x j:=by
 unfold gx;rw[A7 o (qap _) l]
theorem ou {t:List Int} (h:t∈ts):∃ j,j<ts.length/\ts.getD j []=t:=by
 obtain⟨j,l,e⟩:=qbQ.mp h;exact⟨j,l,by rw[qao,qai l];exact e⟩
theorem G3 {st:Sto}{m i:Nat}{f:Nat->Int}{a0:Option W} (o:ts.Nodup) (R:ts.length<=16) (L:ts.length+ts.length<=m) (hi:i<ts.length) :
  fK [a0,Z (tsD ts),Z (.tup (mpI m f)),some (.h st.length),Z (.int (i:Int)),Z (au (ts.getD i []))] (st++[.m (pkv ts (λj=>f j - f (ts.length+j)) i)])
  = some (.nx [a0,Z (tsD ts),Z (.tup (mpI m f)),some (.h st.length),Z (.int (i:Int)),Z (au (ts.getD i []))] (st++[.m (pkv ts (λj=>f j - f (ts.length+j)) (i+1))])):=by
 have e2:=uD st (pkv ts (λj=>f j - f (ts.length+j)) i);have e3:=C4 (x:=λj=>f j - f (ts.length+j)) o hi;have e4:=i8 st (.m (pkv ts (λj=>f j - f (ts.length+j)) i)) (.m (pkv ts (λj=>f j - f (ts.length+j)) (i+1)));have T:(pkv ts (λj=>f j - f (ts.length+j)) i).length<1000:=by unfold pkv;rw[qaf,qaw];lia
 have y:∀ s ,aZ s [.d (tsD ts)]=some _:=λs=>by
  show some (D.int _)=_;rw[qaf]
 have ia:∀ s ,dIx s (.d (.tup (mpI m f))) (.d (.int (i)))=some _:=λs=>bS (bP (by lia));have V:∀ s ,dIx s (.d (.tup (mpI m f))) (.d (.int ((ts.length)+(i))))=some _:=λs=>by
  exact bS (bP (by lia))
 generalize pkv ts _ i=K at *;generalize tsD ts=tD at *;generalize mpI m f=A at *;generalize ts.getD i []=t at *;have M:=ae (g:=nr) (env:=[a0,some _,some _,some (.h st.length),some _,Z (au t)]) (st:=st++[.m K]) (ae (a:=iV 2) (b:=iV 4) U U (ia _)) (ae (a:=iV 2) (b:=iOp bm (iCB aZ (aa (iV 1) ac)) (iV 4)) U (ae (aF (ab U U) (y _)) U U) (V _)) U;simp only[au]at M ⊢;simp only[fK,xh,M,iV,qaB,qaJ,qaj,qaa,(bu _),e2,T,if_true,e3,e4]
theorem Fm {b:Bool}{f:Nat->Int}{m:Nat} (o:ts.Nodup) (R:ts.length<=16) (L:ts.length+ts.length<=m) (S:∀ j,j<ts.length+ts.length->Sm (f j)/\0<=f j) :
  ∃ (q:Int) (X:List Int->Int),0<q/\(∀ j,j<ts.length->f j - f (ts.length+j)=q*X (ts.getD j []))/\bW 0 ((aU (aD ts) X).map qdA)<=1/\∀ st:Sto,jk [.d (.str (aC b)),.d (tsD ts),.d (.tup (mpI m f))] st=some (.d (aQ (aC b) (aU (aD ts) X)),st):=by
 have C:∀ j,j<ts.length->gx ts (λj=>f j - f (ts.length+j)) (ts.getD j [])=f j - f (ts.length+j):=λj l=>CJ o l;have r:∀ p∈aU (aD ts) (gx ts λj=>f j - f (ts.length+j)),p.2≠0/\Sm p.2:=λp u=>by
  unfold aU at u;obtain⟨t,w,rfl⟩:=qay.mp u;obtain⟨J,h2⟩:=qbK.mp w;refine⟨of_decide_eq_true h2,?_⟩;obtain⟨j,l,rfl⟩:=ou ((aB _).mem_iff.mp J);show Sm (gx ts _ (ts.getD j []));rw[C j l];have a:=S j (by lia);have c:=S (ts.length+j) (by lia);unfold Sm at *;generalize (2:Nat)^4000=B at *;lia
 have I:(aU (aD ts) (gx ts λj=>f j - f (ts.length+j))).length<=1000:=by
  unfold aU;rw[qaf]
  have:=qdQ (λt=>decide (gx ts (λj=>f j - f (ts.length+j)) t≠0)) (aD ts)
  rw[(aB _).length_eq]at this;lia
 have v:∀ st:Sto,jk [.d (.str (aC b)),.d (tsD ts),.d (.tup (mpI m f))] st=some (.d (aQ (aC b) ((aU (aD ts) (gx ts λj=>f j - f (ts.length+j))).map (dvP ((bW 0 ((aU (aD ts) (gx ts λj=>f j - f (ts.length+j))).map qdA):Nat):Int)))),st):=λst=>by
  have P:=Ac (st:=st++[.m (pkv ts (λj=>f j - f (ts.length+j)) ts.length)]) (kd:=aC b) (X:=gx ts λj=>f j - f (ts.length+j)) (uD st _) (by unfold pkv;rw [qaf,qaw];lia) (λt w=>by
   rw[yb]at w;obtain⟨j,l,rfl⟩:=ou w;rw[C j l]
   exact A7 o (qap _) l)
  rw[yb]at P;have E:=zt (st:=st++[.m (pkv ts (λj=>f j - f (ts.length+j)) ts.length)]) (kd:=aC b) I r;obtain⟨N,s2,e2,⟨F,H,rfl⟩,rfl⟩:=bU (g:=.tp [4,5]) (body:=fK) (ds:=(qan ts.length).map λi:Nat=>D.tup [.int ((i:Nat):Int),au (ts.getD i [])])
   (λi env s=>(∃ F H,env=[Z (.str (aC b)),Z (tsD ts),Z (.tup (mpI m f)),some (.h st.length),F,H])/\s=st++[.m (pkv ts (λj=>f j - f (ts.length+j)) i)])
   (env:=[Z (.str (aC b)),Z (tsD ts),Z (.tup (mpI m f)),some (.h st.length),none,none]) ⟨⟨_,_,U⟩,U⟩ (λi d env s hd ⟨⟨F,H,e⟩,es⟩=>by
    subst e es;obtain⟨hi,rfl⟩:=ow hd
    exact⟨_,_,_,U,.inl (G3 o R L hi),⟨_,_,U⟩,U⟩)
  rw[qaf,qaw]at e2;have Y:cY (aa (iV 1) ac) [Z (.str (aC b)),Z (tsD ts),Z (.tup (mpI m f)),some (.h st.length),none,none] (st++[.m []])=some ((qan ts.length).map λi:Nat=>D.tup [.int ((i:Nat):Int),au (ts.getD i [])],st++[.m []]):=by
   rw[<-Cc (λi=>au (ts.getD i [])),<-fN [] au ts];rfl
  generalize aU (aD ts) (gx ts λj=>f j - f (ts.length+j))=ps at *;generalize pkv ts (λj=>f j - f (ts.length+j)) ts.length=K at *
  have:=gB (n:=6) (k:=3) (b:=px) (ws:=[.d (.str (aC b)),.d (tsD ts),.d (.tup (mpI m f))]) (st:=st) U (ao U (ao (bM Y e2) (aA (ag (ab (ag U P) U) E))))
  rw[qcq]at this;exact this
 by_cases G:aU (aD ts) (gx ts λj=>f j - f (ts.length+j))=[]
 ·refine⟨1,gx ts λj=>f j - f (ts.length+j),by decide,λj l=>by rw[C j l,qcG],by rw[G];exact qcc _,λst=>?_⟩
  rw[v st,G];rfl
 ·obtain⟨p,u⟩:=List.exists_mem_of_ne_nil _ G
  have g0:=(jN (qd1 u) (r p u).1 (r p u).2).1;have hd:∀ t∈aD ts,((bW 0 ((aU (aD ts) _).map qdA):Nat):Int)∣gx ts (λj=>f j - f (ts.length+j)) t:=λt w=>by
   by_cases z:gx ts (λj=>f j - f (ts.length+j)) t=0
   ·rw[z];exact Int.dvd_zero _
   ·refine qb0.mpr ((cX 0 _).2 _ (qay.mpr ⟨(t,gx ts (λj=>f j - f (ts.length+j)) t),?_,U⟩))
    unfold aU;exact qay.mpr ⟨t,qbK.mpr ⟨w,decide_eq_true z⟩,U⟩
  have O:=CI hd;have Q:=Ad λn o=>by
   obtain⟨p,u,rfl⟩:=qay.mp o;exact (r p u).1
  have e2:((aU (aD ts) (gx ts λj=>f j - f (ts.length+j))).map qdA).map (λn=>n / ((bW 0 ((aU (aD ts) (gx ts λj=>f j - f (ts.length+j))).map qdA):Nat):Int))=((aU (aD ts) (gx ts λj=>f j - f (ts.length+j))).map (dvP ((bW 0 ((aU (aD ts) (gx ts λj=>f j - f (ts.length+j))).map qdA):Nat):Int))).map qdA:=by
   rw[qaC,qaC];rfl
  rw[e2,O]at Q;generalize ((bW 0 _:Nat):Int)=q at *;refine⟨q,_,g0,λj l=>?_,Q,λst=>by rw[v st,O]⟩
  have:=hd (ts.getD j []) ((aB _).mem_iff.mpr (by rw[qao,qai l];exact qa2 l))
  rw[qco this,C j l]
end
theorem oQ (f:Nat->Int):∀ n,((qan n).map f).sum=sumN n f
 |0=>rfl
 |n+1=>by
  rw[qd0,qbs,List.sum_append,oQ f n];show _+(f n+0)=sumN n f+f n;lia
theorem uP {l m:List Int} (h:l.Perm m):l.sum=m.sum:=by
 induction h with
 |nil=>rfl
 |cons x _ c=>rw[qbB,qbB,c]
 |swap x y l=>rw[qbB,qbB,qbB,qbB];lia
 |trans _ _ a b=>exact a.trans b
theorem rG (X g:List Int->Int):∀ a:List (List Int),((aU a X).map λp=>p.2*g p.1).sum=(a.map λt=>X t*g t).sum
 |[]=>rfl
 |t::a=>by
  have b:=rG X g a;unfold aU at b ⊢;rw[qdq,qas,qbB];by_cases h:X t=0
  ·rw[iFN (by simp[h]),b,h,qcl,qcD]
  ·rw[iFP (by simp[h]),qas,qas,qbB,b]
theorem AH (X g:List Int->Int) (ts:List (List Int)):((aU (aD ts) X).map λp=>p.2*g p.1).sum=sumN ts.length λt=>X (ts.getD t [])*g (ts.getD t []):=by
 rw[rG,uP ((aB ts).map λt=>X t*g t),fN [] _ ts,oQ]
theorem oT:∀ (r:List D) (k j:Nat),j<r.length->r.getD j .non≠.non->((k+j:Nat):Int)∈aX k r
 |[],_,_,h,_=>absurd h (qcu _)
 |d::r,k,0,_,a=>by
  have:_∈(k:Int)::aX (k+1) r:=qag
  cases d<;>first|exact absurd U a|exact this
 |d::r,k,j+1,h,a=>by
  have b:=oT r (k+1) j (by rw[qar]at h;lia) (by exact a);rw[show k+1+j=k+(j+1) by lia]at b;cases d<;>first|exact b|exact qak _ b
end Own
set_option maxHeartbeats 1000000
namespace Own
open PySem L2
open Sx (Pb Tb Good Named Fe LV ZV piv lexP leastR leaveL sumN unit colV basis)
theorem xH {m p:Int} (p1:1<=p) (sm:Sm m) (sp:Sm p) (st:Sto):bI [.d (.tup [.int m,.int p])] st=some (.d (.tup [.int (m / ((qaW m.natAbs p.natAbs:Nat):Int)),.int (p / ((qaW m.natAbs p.natAbs:Nat):Int))]),st):=by
 have e:=qN (st:=st) (λ_ _=>bv U) (λx a=>by
  rcases qaA.mp a with rfl|a
  ·exact sm
  ·rw[qal.mp a];exact sp)
 obtain⟨b,c⟩:=jN (ns:=[m,p]) (by simp) (by lia) sp;have g:bW 0 [m,p]=qaW m.natAbs p.natAbs:=by
  show qaW _ p.natAbs=_;rw[Nat.gcd_zero_left]
 rw[g]at e b c;generalize ((qaW m.natAbs p.natAbs))=q at *;have f:(q==(0:Int))=false:=by lia
 exact ax U (ao (aj (ag U e)) (ao (cO (aE U U (by rw[eO,f])) U) (aA (aF (ab (ak (aI (bv U) (by show 2<=1000000;decide) (nu (ns:=[m,p]) b c U))) U) U))))
theorem D9 {a b c:Sf}{env e:Ev}{st s:Sto}{r:Option Fl} (h:ah a b env st=some (.nx e s)) (d:c e s=r):ah a (ah b c) env st=r:=by
 simp only[ah]at h ⊢;cases ha:a env st with
 |none=>rw[ha]at h;cases h
 |some x=>
  rw[ha,qaa]at h;rw[qaa];cases x with
  |nx f s1=>simp only at h ⊢;rw[h];exact d
  |_=>cases h
theorem zI {e:Nat->Nat}{y:Nat->Int}{m i:Nat} (hi:i<m) (h:∀ j,j<m->e j=e i->j=i):acc e y m (e i)=y i:=by
 unfold acc;rw[Sx.sumN_single hi λj a q=>iFN λz=>q (h j a z),iFP U]
theorem uZ {q x y:Int} (a:0<q) (e:x=q*y) (h:Sm x):Sm y:=by
 refine qbF ?_ h;rw[e,qct];exact Nat.le_mul_of_pos_left _ (by lia)
theorem xF {q x y:Int} (a:0<q) (h:q*x<=q*y):x<=y:=qdr h a
theorem zU (ds:List D) (d:D):jI (ds++[d]) none (some (-1))=ds:=by
 have:HT.sIx (ds++[d]).length (ds++[d]).length (some (-1))=ds.length:=by
  rw[qav,qcf];simp only[HT.sIx];lia
 unfold jI;rw[this,HT.sIx_none,qgl,qgS,qcq]
section
variable {fs:List D}{b:Bool}{ts:List (List Int)}
def rvW (fs:List D) (b:Bool) (ts:List (List Int)) (X:List Int->Int) (i:Nat):Int:=sumN ts.length λt=>X (ts.getD t [])*spV fs b ts i t
structure fR (fs:List D) (b:Bool) (ts:List (List Int)) (m p:Int) (X:List Int->Int) (w:Nat->Int):Prop where
 p1:1<=p
 m0:0<=m
 sm:Sm m/\Sm p
 w0:∀ r,r<fs.length->0<=w r/\Sm (w r)
 wn:∀ r,r<fs.length->fs.getD r .non=.non->w r=0
 wp:0<sumN (nR fs) λi=>w (rN fs i)
 wc:∀ t,t<ts.length->(sumN (nR fs) λi=>spV fs b ts i t*w (rN fs i))*p<=m*(sumN (nR fs) λi=>w (rN fs i))/\- (sumN (nR fs) λi=>spV fs b ts i t*w (rN fs i))*p<=m*sumN (nR fs) λi=>w (rN fs i)
 sX:∀ t∈ts,Sm (X t)
 po:m≠0->∃ q l s:Int,0<q/\0<l/\0<s/\m=q*l/\p=q*s/\(∀ i,i<nR fs->l<=rvW fs b ts X i)/\(∃ i,i<nR fs/\rvW fs b ts X i=l)/\(sumN ts.length λt=>((X (ts.getD t [])).natAbs:Int))=s/\bW 0 ((aU (aD ts) X).map qdA)=1
def wdD (fs:List D) (b:Bool) (ts:List (List Int)) (m p:Int) (X:List Int->Int) (w:Nat->Int):D:=.tup [.tup [.int (m / ((qaW m.natAbs p.natAbs:Nat):Int)),.int (p / ((qaW m.natAbs p.natAbs:Nat):Int))],if m=0 then .non else aQ (aC b) (aU (aD ts) X),.tup (mpI fs.length w)]
theorem wM (h:Spl fs ts) {y:Nat->Int} (V:∀ i,i<nR fs->Sm (y i)/\0<=y i) (r:Nat):(Sm (acc (rN fs) y (nR fs) r)/\0<=acc (rN fs) y (nR fs) r):=by
 by_cases q:∃ i,i<nR fs/\rN fs i=r
 ·obtain⟨i,hi,rfl⟩:=q
  rw[zI hi λj A z=>wq h A hi z];exact V i hi
 ·rw[m7 λj A z=>q ⟨j,A,z⟩]
  exact⟨qf9 _,qdv _⟩
theorem wy (h:Spl fs ts) {r:Nat} (e:fs.getD r .non=.non) {i:Nat} (hi:i<nR fs):rN fs i≠r:=λz=>by
 obtain⟨m,d,T,_,_,_,hn,hg⟩:=wt h (sv hi);unfold rN at z;rw[z]at hg;exact hn (hg.symm.trans e)
theorem DG (h:Spl fs ts) (hN:0<nR fs) {p:Int}{k pr:Nat->Int} (S:Ep (nR fs) ts.length (spV fs b ts) p k pr) {q F:Int}{X:List Int->Int}{w:Nat->Int} (H:0<q) (M:∀ j,j<ts.length->k j - k (ts.length+j)=q*X (ts.getD j [])) (hg:bW 0 ((aU (aD ts) X).map qdA)<=1) (B:0<F) (o:∀ r,r<fs.length->acc (rN fs) pr (nR fs) r=F*w r):fR fs b ts (k (ts.length+ts.length)) p X w:=by
 have Q:=wM h (y:=pr) λi hi=>S.sr i hi;have P:∀ i,i<nR fs->pr i=F*w (rN fs i):=λi hi=>by
  rw[<-o _ (gC h hi).2,zI hi λj A z=>wq h A hi z]
 have K:=λr J=>by
  have e:=(Q r).2;rw[o r J]at e;by_cases z:0<=w r
  ·exact z
  ·have:=Int.mul_neg_of_pos_of_neg B (show w r<0 by lia)
   lia
 have etot:sumN (nR fs) pr=F*sumN (nR fs) λi=>w (rN fs i):=by rw[<-Sx.sumN_mul];exact Sx.sumN_congr λi hi=>P i hi
 have O:∀ t,(sumN (nR fs) λi=>spV fs b ts i t*pr i)=F*sumN (nR fs) λi=>spV fs b ts i t*w (rN fs i):=λt=>by
  rw[<-Sx.sumN_mul];exact Sx.sumN_congr λi hi=>by rw[P i hi,qaU]
 have m0:=(S.sa (ts.length+ts.length) (by lia)).2;have tot:=S.tot;have p1:=S.p1;have W1:0<sumN (nR fs) λi=>w (rN fs i):=by
  rcases qeg (Sx.sumN_nonneg (n:=nR fs) (f:=λi=>w (rN fs i)) λi hi=>K _ (gC h hi).2) with z|z
  ·exact z
  ·lia
 have C:∀ {y:Int},F*y<=k _->y*p<=k (ts.length+ts.length)*sumN (nR fs) λi=>w (rN fs i):=λ{y} V=>by
  refine xF B ?_;have h1:F*y*p<=k (ts.length+ts.length)*p:=qbj V (by lia);have h2:=qa1 tot m0;lia
 refine⟨p1,m0,⟨(S.sa _ (by lia)).1,S.sp⟩,λr J=>⟨K r J,uZ B (o r J) (Q r).1⟩,λr J e=>?_,W1,λt v=>?_,λt v=>?_,λhm=>?_⟩
 ·have:=o r J
  rw[m7 λj A=>wy h e A]at this;exact (qib.mp this.symm).resolve_left (by lia)
 ·have c:=S.col t v
  rw[O]at c;refine⟨C c.1,C ?_⟩;lia
 ·obtain⟨j,A,rfl⟩:=ou v
  refine uZ H (M j A) ?_;have a:=S.sa j (by lia);have c:=S.sa (ts.length+j) (by lia);unfold Sm at *;lia
 ·have sz:(sumN ts.length λt=>((k t - k (ts.length+t)).natAbs:Int))<=p:=by
   refine qeh ?_ S.siz;rw[Sx.sumN_append,<-Sx.sumN_add];refine Sx.sumN_le λt v=>?_;have a:=(S.sa t (by lia)).2;have c:=(S.sa (ts.length+t) (by lia)).2;lia
  obtain⟨T,i,hi,e2⟩:=Sx.wide_same p1 (show 0<k _ by lia) (λi hi=>(S.sr i hi).2) S.row sz S.col S.tot;have ev:∀ i,(sumN ts.length λt=>(k t - k (ts.length+t))*spV fs b ts i t)=q*rvW fs b ts X i:=λi=>by
   unfold rvW;rw[<-Sx.sumN_mul];exact Sx.sumN_congr λt v=>by rw[M t v,qbm]
  have es:(sumN ts.length λt=>((k t - k (ts.length+t)).natAbs:Int))=q*sumN ts.length λt=>((X (ts.getD t [])).natAbs:Int):=by
   rw[<-Sx.sumN_mul];exact Sx.sumN_congr λt v=>by rw[M t v,qct,Int.natCast_mul,Int.natAbs_of_nonneg (qgW H)]
  rw[es]at T;rw[ev]at e2;have pos:∀ {x y:Int},q*x=y->0<y->0<x:=λ{x y} e V=>by
   by_cases z:0<x
   ·exact z
   ·have:=qa1 (show x<=0 by lia) (qgW H)
    lia
  have s0:=pos T (by lia);refine⟨q,rvW fs b ts X i,_,H,pos e2 (by lia),s0,e2.symm,T.symm,λj A=>xF H (by have:=S.row j A;rw[ev]at this;rw[e2];exact this),⟨i,hi,U⟩,U,?_⟩
  have:∃ t,t<ts.length/\X (ts.getD t [])≠0:=by
   apply qdd;intro no;rw[Sx.sumN_congr (g:=λ_=>0) λt v=>by rw[qdd λz=>no ⟨t,v,z⟩];rfl,Sx.sumN_zero]at s0;lia
  obtain⟨t,v,hx⟩:=this
  have:=(nJ (ns:=(aU (aD ts) X).map qdA) (n:=X (ts.getD t [])) (qay.mpr ⟨(ts.getD t [],X (ts.getD t [])),by unfold aU;exact qay.mpr ⟨_,qbK.mpr ⟨((aB _).mem_iff.mpr (by rw[qao,qai v];exact qa2 v)),decide_eq_true hx⟩,U⟩,U⟩) hx).1
  lia
theorem gH (h:Spl fs ts) (hN:0<nR fs):∃ m p X w,fR fs b ts m p X w/\∀ st:Sto,∃ u,dJ [.d (.tup fs),.d (.str (aC b)),.d (tsD ts)] st=some (.d (wdD fs b ts m p X w),st++u):=by
 obtain⟨p,k,pr,S,hlp⟩:=F4 h hN;obtain⟨q,X,H,M,hg,hp⟩:=Fm (b:=b) (m:=ts.length+ts.length+1) h.nd h.tl (by lia) λj A=>S.sa j (by lia);obtain⟨F,w,B,o,N⟩:=CC (n:=fs.length) (λr _=>((wM h λi hi=>S.sr i hi) r).1) (by have:=h.fl;lia);have R:=DG h hN S H M hg B o;refine⟨_,p,X,w,R,λst=>?_⟩;obtain⟨u,hu⟩:=hlp st none none none;refine⟨u,?_⟩;have hv:=BC (st:=st) (b:=b) h;have hw3:=F2 (st:=st++u) (y:=pr) h (.inl U);have Y:=xH R.p1 R.sm.1 R.sm.2 (st++u);have ix:dIx (st++u) (.d (.tup (mpI (ts.length+ts.length+1) k))) (.d (.int (-1)))=some (.int (k (ts.length+ts.length))):=by
  rw[dh];exact tm _ _
 have sl:dSl (st++u) (.d (.tup (mpI (nR fs+1) pr))) none (some (-1))=some (.tup (mpI (nR fs) pr)):=by
  rw[dh];show some _=_;rw[zU]
 have hz:(k (ts.length+ts.length) / ((qaW (k (ts.length+ts.length)).natAbs p.natAbs:Nat):Int)==0)=decide (k (ts.length+ts.length)=0):=by
  have d:((qaW (k (ts.length+ts.length)).natAbs p.natAbs:Nat):Int)∣k (ts.length+ts.length):=qb0.mpr (qdW _ _);rw[qeQ,beq_iff_eq,decide_eq_true_iff];refine⟨λz=>by rw[<-(qco d),z,qbh],λz=>by rw[z,qiM]⟩
 unfold wdD;generalize mpI fs.length w=A2 at *;generalize mpI (nR fs) pr=A3 at *;generalize mpI (nR fs+1) pr=A4 at *;generalize mpI _ k=A5 at *;generalize ((qan (nR fs+1)).map λi=>D.lst _)=L4 at *;generalize ((qan (nR fs)).map λi=>D.lst _)=L at *;generalize tsD ts=I at *;generalize aC b=kd at *;generalize k (ts.length+ts.length)=m at *;generalize m / _=a at *;generalize p / _=c at *;have s6:∀ o6 G:Option W,aw (.nm 6) (ai bI (aa (bz (aa (iOp dIx (iOp dIx (iV 5) (iC (.int 2))) (iUn fU (iC (.int 1)))) (aa (iOp dIx (iV 5) (iC (.int 1))) ac))) ac)) [Z (.tup fs),Z (.str kd),Z I,Z (.lst L),Z (.lst L4),Z (.tup [.str "most",.int p,.tup A5,.tup A4]),o6,G] (st++u)=some _:=λo6 G=>
  aj (ag (ab (bF (ds:=[.int m,.int p]) (ab (ae (ae U U U) U ix) (ab (ae U U U) U)) U (by show 2<=1000;decide)) U) Y)
 have s7:∀ G:Option W,aw (.nm 7) (ai bI (aa (ai dZ (aa (iV 0) (aa _ ac))) ac)) [Z (.tup fs),Z (.str kd),Z I,Z (.lst L),Z (.lst L4),some _,some _,G] (st++u)=some _:=λG=>by
  have hsl:iSl (iOp dIx (iV 5) (iC (.int 3))) iPn (iPs (iUn fU (iC (.int 1)))) [Z (.tup fs),Z (.str kd),Z I,Z (.lst L),Z (.lst L4),Z (.tup [.str "most",.int p,.tup A5,.tup A4]),Z (.tup [.int a,.int c]),G] (st++u)=some (.d (.tup A3),st++u):=by
   have x1:iOp dIx (iV 5) (iC (.int 3)) [Z (.tup fs),Z (.str kd),Z I,Z (.lst L),Z (.lst L4),Z (.tup [.str "most",.int p,.tup A5,.tup A4]),Z (.tup [.int a,.int c]),G] (st++u)=some (.d (.tup A4),st++u):=ae U U U
   have x2:iPs (iUn fU (iC (.int 1))) [Z (.tup fs),Z (.str kd),Z I,Z (.lst L),Z (.lst L4),Z (.tup [.str "most",.int p,.tup A5,.tup A4]),Z (.tup [.int a,.int c]),G] (st++u)=some (some (-1),st++u):=rfl
   simp only[iSl,x1,x2,iPn,qaa,sl,qaj]
  exact aj (ag (ab (ag (ab U (ab hsl U)) hw3) U) (N (st++u)))
 have E:aN dEq (iOp dIx (iV 6) (iC (.int 0))) (iC _) [Z (.tup fs),Z (.str kd),Z I,Z (.lst L),Z (.lst L4),Z (.tup [.str "most",.int p,.tup A5,.tup A4]),Z (.tup [.int a,.int c]),Z (.tup A2)] _=some (decide _,st++u):=aE (ae U U U) U (by rw[eO,hz])
 by_cases z:m=0
 ·rw[decide_eq_true z]at E
  rw[iFP z];exact ax U (ao (aj (ag U hv)) (D9 hu (ao (s6 _ _) (ao (s7 _) (kK (f7 E (aA (bF U U (by show 3<=1000;decide)))))))))
 ·rw[decide_eq_false z]at E
  rw[iFN z];exact ax U (ao (aj (ag U hv)) (D9 hu (ao (s6 _ _) (ao (s7 _) (ao (cO E U) (aA (bF (ab U (ab (ag (ab U (ab U (ab (ae U U U) U))) (hp _)) (ab U U))) U (by show 3<=1000;decide))))))))
end
end Own
set_option maxHeartbeats 1000000
namespace Own
open PySem L2
open Sx (Pb Tb Good Named Fe LV ZV piv lexP leastR leaveL sumN unit colV basis)
def szV (ts:List (List Int)) (Y:List Int->Int):Int:=sumN ts.length λt=>((Y (ts.getD t [])).natAbs:Int)
theorem sP (h:Spl fs ts) (R:fR fs b ts m p X w) (Y:List Int->Int) {L:Int} (g:∀ i,i<nR fs->L<=rvW fs b ts Y i):L*p<=m*szV ts Y:=by
 have p1:=R.p1;have d:L*(sumN (nR fs) λi=>w (rN fs i))<=sumN (nR fs) λi=>rvW fs b ts Y i*w (rN fs i):=by
  rw[<-Sx.sumN_mul];exact Sx.sumN_le λi hi=>qbj (g i hi) (R.w0 _ (gC h hi).2).1
 have e2:(sumN (nR fs) λi=>rvW fs b ts Y i*w (rN fs i))=sumN ts.length λt=>Y (ts.getD t [])*sumN (nR fs) λi=>spV fs b ts i t*w (rN fs i):=by
  rw[Sx.sumN_congr (f:=λi=>rvW fs b ts Y i*w _) λi _=>(Sx.sumN_right _ _ _).symm,Sx.sumN_swap];exact Sx.sumN_congr λt _=>by
   rw[<-Sx.sumN_mul];exact Sx.sumN_congr λi _=>qbm _ _ _
 have e3:(sumN ts.length λt=>(Y _*sumN _ λi=>spV fs b ts i t*w _)*p)<=sumN ts.length λt=>((Y _).natAbs)*_:=
  Sx.sumN_le λt e=>by
   obtain⟨c1,c2⟩:=R.wc t e;generalize (sumN _ λi=>spV fs b ts i t*w _)=c at *;generalize Y (ts.getD t [])=y;rw[qbm];rcases qjI 0 y with k|k
   ·rw[show ((y.natAbs))=y by lia]
    exact qa1 c1 k
   ·rw[show ((y.natAbs))=-y by lia,show y*_=(-y)*(-c*p) by grind]
    exact qa1 c2 (by lia)
 rw[Sx.sumN_right,Sx.sumN_right]at e3;have e4:=qbj d (show 0<=p by lia);have a:(L*p)*(sumN (nR fs) λi=>w (rN fs i))<=(m*szV ts Y)*sumN (nR fs) λi=>w (rN fs i):=by
  unfold szV;lia
 exact Int.le_of_mul_le_mul_right a R.wp
theorem BQ {d:List D}{f:Bool}{c:List (List Int)}{h g:Int}{X':List Int->Int}{n:Nat->Int} (R:fR fs b ts m p X w) (h':Spl d c) (R':fR d f c h g X' n)
  (T:∀ Y,∃ Y',szV c Y'=szV ts Y/\∀ L:Int,(∀ i,i<nR fs->L<=rvW fs b ts Y i)->∀ i,i<nR d->L<=rvW d f c Y' i):m*g<=h*p:=by
 have v:=R.p1;by_cases e:m=0
 ·subst e;rw[qcl];exact qip R'.m0 (by lia)
 obtain⟨q,l,s,x,y,u,em,t,j,_,k,_⟩:=R.po e;obtain⟨Y',r,o⟩:=T X;have a:=sP h' R' Y' (o l j);rw[r,show szV ts X=s from k]at a
 have:=qa1 a (show 0<=q by lia)
 lia
theorem uy {m p g f:Int} (m0:0<=m) (p1:1<=p) (l:0<=g) (A:1<=f) (e:m*f=g*p):m / ((qaW m.natAbs p.natAbs:Nat):Int)=g / ((qaW g.natAbs f.natAbs:Nat):Int)/\p / ((qaW m.natAbs p.natAbs:Nat):Int)=f / ((qaW g.natAbs f.natAbs:Nat):Int):=by
 obtain⟨a,rfl⟩:=qbn m0;obtain⟨c,rfl⟩:=qbn l;obtain⟨n,rfl⟩:=qbn (show 0<=p by lia);obtain⟨k,rfl⟩:=qbn (show 0<=f by lia);have v:0<n:=by lia
 have B:0<k:=by lia
 have q:=by exact_mod_cast e
 show _ / ((qaW a n))=_ / ((qaW c k):Int)/\_ / ((qaW a n))=_ / ((qaW c k):Int);have x:a.gcd n*k=c.gcd k*n:=by
  rw[<-qhL,<-qhL,q,qdS n k]
 have G1:0<a.gcd n:=qeq _ v;have G2:0<c.gcd k:=qeq _ B;obtain⟨h,r⟩:=qdW a n;obtain⟨b,i⟩:=qer a n;obtain⟨j,t⟩:=qdW c k;obtain⟨d,o⟩:=qer c k;have w:k / c.gcd k=d:=qdf G2 o;have s:b=d:=by
  have:a.gcd n*c.gcd k*d=a.gcd n*c.gcd k*b:=by
   calc a.gcd n*c.gcd k*d=a.gcd n*(c.gcd k*d):=qeA ..
    _=a.gcd n*k:=by rw[<-o]
    _=c.gcd k*n:=x
    _=c.gcd k*(a.gcd n*b):=by rw[<-i]
    _=a.gcd n*c.gcd k*b:=by rw[<-qeA,qdS (c.gcd k)]
  exact (qgr (qhm G1 G2) this).symm
 have u:h=j:=by
  have y:0<b:=qhq λz=>by rw[z,Nat.mul_zero]at i;lia
  have:a.gcd n*c.gcd k*b*h=a.gcd n*c.gcd k*b*j:=by
   calc a.gcd n*c.gcd k*b*h=(a.gcd n*h)*(c.gcd k*d):=by rw[s];simp only[qdS,qhK,qeA]
    _=a*k:=by rw[<-r,<-o]
    _=c*n:=q
    _=(c.gcd k*j)*(a.gcd n*b):=by rw[<-t,<-i]
    _=a.gcd n*c.gcd k*b*j:=by simp only[qdS,qhK,qeA]
  exact qgr (qhm (qhm G1 G2) y) this
 rw[<-qeJ,<-qeJ,<-qeJ,<-qeJ,(qdf G1 r),(qdf G1 i),(qdf G2 t),w,u,s];exact⟨U,U⟩
end Own
set_option maxHeartbeats 1000000
namespace Own
open PySem L2
open Sx (Pb Tb Good Named Fe LV ZV piv lexP leastR leaveL sumN unit colV basis)
def vlV (b:Bool) (ts:List (List Int)) (Y:List Int->Int) (r:Nat):Int:=sumN ts.length λt=>Y (ts.getD t [])*br b (ts.getD t []) (r:Int)
def Far (fs:List D) (b:Bool) (ts:List (List Int)) (Y:List Int->Int) (L:Int):Prop:=∀ r,r<fs.length->fs.getD r .non≠.non->L<=sgD (fs.getD r .non)*vlV b ts Y r
theorem yi (h:Spl fs ts) {Y:List Int->Int}{i:Nat} (hi:i<nR fs):rvW fs b ts Y i=sgD (fs.getD (rN fs i) .non)*vlV b ts Y (rN fs i):=by
 unfold rvW vlV;rw[<-Sx.sumN_mul];exact Sx.sumN_congr λt _=>by
  unfold spV;rw[(gC h hi).1];exact qaU ..
theorem ms (h:Spl fs ts) {Y:List Int->Int}{L:Int}:(∀ i,i<nR fs->L<=rvW fs b ts Y i)↔Far fs b ts Y L:=by
 refine⟨λq r d c=>?_,λq i hi=>?_⟩
 ·obtain⟨i,hi,e⟩:=qbQ.mp (oT fs 0 r d c)
  have a:ju fs i=((0+r:Nat)):=by
   unfold ju;rw[qao,qai hi];exact e
  have f:rN fs i=r:=by
   unfold rN;rw[a,qa0,qaE]
  have:=q i hi
  rwa [yi h hi,f]at this
 ·rw[yi h hi]
  exact q _ (gC h hi).2 λe=>wy h e hi U
theorem o0 {d:List D}{i g:Int}{X':List Int->Int}{j:Nat->Int} (h:Spl fs ts) (R:fR fs b ts m p X w) (h':Spl d ts) (R':fR d b ts i g X' j)
  (T:∀ Y,∃ Y',szV ts Y'=szV ts Y/\∀ L,Far fs b ts Y L->Far d b ts Y' L) (T':∀ Y,∃ Y',szV ts Y'=szV ts Y/\∀ L,Far d b ts Y L->Far fs b ts Y' L) :
  m / ((qaW m.natAbs p.natAbs:Nat):Int)=i / ((qaW i.natAbs g.natAbs:Nat):Int)/\p / ((qaW m.natAbs p.natAbs:Nat):Int)=g / ((qaW i.natAbs g.natAbs:Nat):Int):=by
 have a:=BQ R h' R' λY=>by
  obtain⟨Y',e,f⟩:=T Y;exact⟨Y',e,λL q=>(ms h').mpr (f L ((ms h).mp q))⟩
 have c:=BQ R' h R λY=>by
  obtain⟨Y',e,f⟩:=T' Y;exact⟨Y',e,λL q=>(ms h).mpr (f L ((ms h').mp q))⟩
 exact uy R.m0 R.p1 R'.m0 R'.p1 (by lia)
def gy:D->D
 |.int v=>.int (1 - v)
 |d=>d
theorem Fj (fs:List D) (r:Nat):(fs.map gy).getD r .non=gy (fs.getD r .non):=by
 rw[qao,qaF,qao];cases fs[r]?<;>rfl
theorem DZ {d:D} (h:dE d):dE (gy d):=by
 rcases h with rfl|rfl|rfl
 ·exact .inl U
 ·exact .inr (.inr U)
 ·exact .inr (.inl U)
theorem CU {d:D} (h:dE d):gy (gy d)=d:=by rcases h with rfl|rfl|rfl<;>rfl
theorem Fk {d:D} (h:dE d) (n:d≠.non):sgD (gy d)=- sgD d:=by
 rcases h with rfl|rfl|rfl
 ·exact absurd U n
 ·rfl
 ·rfl
theorem yo (h:Spl fs ts):Spl (fs.map gy) ts:=⟨by rw[qaf];exact h.fl,λd hd=>by
 obtain⟨u,a,rfl⟩:=qay.mp hd
 exact DZ (h.fv u a),h.tl,h.tt,h.nd⟩
theorem wZ (h:Spl fs ts) (Y:List Int->Int):∃ Y',szV ts Y'=szV ts Y/\∀ L,Far fs b ts Y L->Far (fs.map gy) b ts Y' L:=by
 refine⟨λt=>- Y t,Sx.sumN_congr λt _=>by rw[qgt],λL q r a c=>?_⟩;rw[qaf]at a;rw[Fj]at c ⊢;have n:fs.getD r .non≠.non:=λe=>c (by rw[e];rfl);have v:dE (fs.getD r .non):=by
  rw[qao,qai a];exact h.fv _ (qa2 a)
 have:=q r a n
 rw[Fk v n,show vlV b ts _ r=- vlV b ts Y r from ?_,qia]
 ·exact this
 ·unfold vlV
  rw[show - _=(-1)*(sumN ts.length λt=>Y (ts.getD t [])*br b (ts.getD t []) (r)) by lia,<-Sx.sumN_mul];exact Sx.sumN_congr λt _=>by lia
theorem AN {c a:Int}{X':List Int->Int}{i:Nat->Int} (h:Spl fs ts) (R:fR fs b ts m p X w) (R':fR (fs.map gy) b ts c a X' i) :
  m / ((qaW m.natAbs p.natAbs:Nat):Int)=c / ((qaW c.natAbs a.natAbs:Nat):Int)/\p / ((qaW m.natAbs p.natAbs:Nat):Int)=a / ((qaW c.natAbs a.natAbs:Nat):Int):=
 o0 h R (yo h) R' (wZ h) λY=>by
  obtain⟨Y',e,f⟩:=wZ (yo h) Y;refine⟨Y',e,λL q=>?_⟩
  have:=f L q
  rwa [qaC,show fs.map _=fs from by
   rw[qbe (f:=gy ∘ gy) (g:=id) λd hd=>CU (h.fv d hd),qe8]]at this
theorem xb {a:List D}{s:Nat->Nat} (f:a.length=fs.length) (e:∀ r,r<fs.length->s r<fs.length) (h:∀ r,r<fs.length->a.getD r .non=fs.getD (s r) .non) {Y Y':List Int->Int} (g:∀ r,r<fs.length->vlV b ts Y' r=vlV b ts Y (s r)) {L:Int} (q:Far fs b ts Y L):Far a b ts Y' L:=λr c d=>by
 rw[f]at c;rw[h r c]at d ⊢;rw[g r c];exact q _ (e r c) d
end Own
namespace L2
open PySem
def onN (S c:Nat):Nat:=S / 2^c%2
theorem CL (S c:Nat):onI (S:Int) (c:Int)=((onN S c:Nat):Int):=by
 unfold onI onN;rw[qaE]
 push_cast
 rfl
theorem Es:∀ S,S<32->∀ a,a<5->onN S a=0->S+2^a<32/\∀ c,c<5->onN (S+2^a) c=if c=a then 1 else onN S c:=by decide +kernel
theorem xI:∀ S,S<32->∀ n,n<6->(∀ c,c<5->n<=c->onN S c=0)->S<2^n:=by decide +kernel
theorem yD:∀ x,x<32->∀ y,y<32->(qb7 (x:Nat) (y:Nat)).toNat<32/\0<=qb7 (x:Nat) (y:Nat)/\∀ k,k<5->onN (qb7 (x:Nat) (y:Nat)).toNat k=(onN x k+onN y k)%2:=by decide +kernel
def sp:List (Nat×Nat)->Nat
 |[]=>0
 |(a,b)::r=>b*2^a+sp r
theorem yn:∀ (l:List (Nat×Nat)),(l.map qcA).Nodup->(∀ p∈l,p.1<5/\p.2<2)->sp l<32/\(∀ p∈l,onN (sp l) p.1=p.2)/\∀ c,c<5->c∉l.map qcA->onN (sp l) c=0
 |[],_,_=>⟨by decide,(λp h=>by simp at h),(λc _ _=>by show 0 / 2^c%2=0;simp)⟩
 |(a,b)::r,g,m=>by
  rw[qas,qcb]at g;obtain⟨t,u,q⟩:=yn r g.2 λp h=>m p (qak _ h);have f:=m (a,b) qag;have k:a<5:=f.1;have hb:b=0\/b=1:=by have:b<2:=f.2;lia
  have s:=q a k g.1;have d:sp ((a,b)::r)<32/\∀ c,c<5->onN (sp ((a,b)::r)) c=if c=a then b else onN (sp r) c:=by
   rcases hb with rfl|rfl
   ·refine⟨by show 0*2^a+sp r<32;lia,λc n=>?_⟩
    rw[show sp ((a,0)::r)=sp r by show 0*2^a+sp r=_;lia];by_cases e:c=a
    ·rw[iFP e,e];exact s
    ·rw[iFN e]
   ·obtain⟨v,k2⟩:=Es (sp r) t a k s
    rw[show sp ((a,1)::r)=sp r+2^a by show 1*2^a+sp r=_;lia];exact⟨v,k2⟩
  refine⟨d.1,λp h=>?_,λc n j=>?_⟩
  ·rcases qaA.mp h with rfl|h
   ·rw[d.2 a k,iFP U]
   ·have i:p.1≠a:=λe=>g.1 (qay.mpr ⟨p,h,e⟩)
    rw[d.2 p.1 (m p (qak _ h)).1,iFN i];exact u p h
  ·rw[qas,qaA]at j
   have o:c≠a:=λe=>j (.inl e);rw[d.2 c n,iFN o];exact q c n λe=>j (.inr e)
end L2
set_option maxHeartbeats 1000000
namespace Own
open PySem L2
open Sx (Pb Tb Good Named Fe LV ZV piv lexP leastR leaveL sumN unit colV basis)
theorem tO:∀ x,x<32->∀ y,y<32->(∀ c,c<5->onN x c=onN y c)->x=y:=by decide +kernel
def Xr (s i:Nat):Nat:=(qb7 (i:Nat) (s:Nat)).toNat
theorem sS {s i:Nat} (b:s<32) (hi:i<32):Xr s i<32/\∀ k,k<5->onN (Xr s i) k=(onN i k+onN s k)%2:=let ⟨a,_,c⟩:=yD i hi s b;⟨a,c⟩
theorem Ek {s i:Nat} (e:s<32) (hi:i<32):Xr s (Xr s i)=i:=by
 obtain⟨a,b⟩:=sS e hi;obtain⟨c,d⟩:=sS e a;refine tO _ c _ hi λk f=>?_;rw[d k f,b k f];have g:onN i k<2:=by unfold onN;lia
 lia
theorem wa (r:Nat) (k:Int):onI (r:Int) k=((onN r k.toNat:Nat):Int):=by
 rfl
theorem zS {s i:Nat} (b:s<32) (hi:i<32):∀ {t:List Int},(∀ k∈t,0<=k/\k<5)->dm (Xr s i:Nat) t%2=(dm (i:Nat) t+dm (s:Nat) t)%2
 |[],_=>rfl
 |k::t,h=>by
  have c:=zS b hi λk a=>h k (qak _ a);have a:=h k (qag ..);unfold dm;rw[wa,wa i,wa s,((sS b hi).2 k.toNat (by lia))];lia
theorem F1 {s i:Nat} (c:s<32) (hi:i<32) {t:List Int} (h:∀ k∈t,0<=k/\k<5):br false t (Xr s i:Nat)=br false t (s:Nat)*br false t (i:Nat):=by
 have e:=zS c hi h;unfold br;rw[iFN qa7];generalize dm (i) t=y at *;generalize dm (s) t=z at *;by_cases a:y%2=1<;>by_cases b:z%2=1
 ·rw[iFP a,iFP b,iFN (by lia)];rfl
 ·rw[iFP a,iFN b,iFP (by lia)];rfl
 ·rw[iFN a,iFP b,iFP (by lia)];rfl
 ·rw[iFN a,iFN b,iFN (by lia)];rfl
theorem DE (t:List Int) (r:Int):br false t r=1\/br false t r=-1:=by
 unfold br;by_cases h:dm r t%2=1
 ·rw[iFP h];exact .inr U
 ·rw[iFN h];exact .inl U
theorem z8 {a:List D}{s:Nat} (h:∀ t∈ts,∀ k∈t,0<=k/\k<5) (d:a.length=fs.length) (l:fs.length<=32) (c:s<32) (i:∀ r,r<fs.length->Xr s r<fs.length) (g:∀ r,r<fs.length->a.getD r .non=fs.getD (Xr s r) .non) (Y:List Int->Int):∃ Y',szV ts Y'=szV ts Y/\∀ L,Far fs false ts Y L->Far a false ts Y' L:=by
 refine⟨λt=>br false t (s)*Y t,Sx.sumN_congr λt _=>?_,λL q=>xb d i g (λr j=>Sx.sumN_congr λt b=>?_) q⟩
 ·show ((br false _ _*Y _).natAbs:Int)=_
  rcases DE _ _ with e|e<;>rw[e]<;>lia
 ·have f:ts.getD t []∈ts:=by
   rw[qao,qai b];exact qa2 b
  rw[F1 c (by lia) (h _ f)]
  grind
theorem DM {a:List D}{s:Nat}{d c:Int}{X':List Int->Int}{l:Nat->Int} (j:∀ t∈ts,∀ k∈t,0<=k/\k<5) (b:a.length=fs.length) (n:fs.length<=32) (e:s<32) (f:∀ r,r<fs.length->Xr s r<fs.length) (i:∀ r,r<fs.length->a.getD r .non=fs.getD (Xr s r) .non)
  (h:Spl fs ts) (R:fR fs false ts m p X w) (h':Spl a ts) (R':fR a false ts d c X' l) :
  m / ((qaW m.natAbs p.natAbs:Nat):Int)=d / ((qaW d.natAbs c.natAbs:Nat):Int)/\p / ((qaW m.natAbs p.natAbs:Nat):Int)=c / ((qaW d.natAbs c.natAbs:Nat):Int):=
 o0 h R h' R' (z8 j b n e f i) (z8 j b.symm (by lia) e (by rw [b];exact f) λr g=>by
  rw[b]at g
  rw[i _ (f r g),Ek e (by lia)])
end Own
set_option maxHeartbeats 1000000
namespace Own
open PySem L2
open Sx (Pb Tb Good Named Fe LV ZV piv lexP leastR leaveL sumN unit colV basis)
theorem oP (G:List Int->Int):∀ ts:List (List Int),(sumN ts.length λt=>G (ts.getD t []))=(ts.map G).sum
 |[]=>rfl
 |t::ts=>by
  rw[qar,qeY,Sx.sumN_append,qas,qbB,<-(oP G ts)]
  congr 1
  ·show 0+G _=G t
   rw[qcD];rfl
  ·exact Sx.sumN_congr λk _=>by rw[qeY,qaJ]
theorem wz {l k:List Int} (h:l.Perm k):l.sum=k.sum:=by
 induction h with
 |nil=>rfl
 |cons x _ c=>rw[qbB,qbB,c]
 |swap x y l=>simp only[qbB];lia
 |trans _ _ a b=>rw[a,b]
theorem t7 {a:List D}{s:Nat->Nat}{g:List Int->List Int} (c:(ts.map g).Perm ts) (h:∀ t∈ts,∀ r,r<fs.length->br b (g t) (s r:Nat)=br b t (r:Nat))
  (f:a.length=fs.length) (d:∀ r,r<fs.length->s r<fs.length) (i:∀ r,r<fs.length->a.getD r .non=fs.getD (s r) .non) (Y:List Int->Int):∃ Y',szV ts Y'=szV ts Y/\∀ L,Far fs b ts Y L->Far a b ts Y' L:=by
 refine⟨λt=>Y (g t),?_,λL q=>xb f d i (λr e=>?_) q⟩
 ·unfold szV
  rw[oP λt=>((Y _).natAbs),oP λt=>((Y t).natAbs)]
  have:=wz (c.map λt=>((Y t).natAbs:Int))
  rwa [qaC]at this
 ·unfold vlV
  rw[oP λt=>Y _*br b t _,oP λt=>Y t*br b t _]
  have:=wz (c.map λt=>Y t*br b t (s r))
  rw[<-this,qaC]
  congr 1
  exact qbe λt j=>by
   show _=Y _*br b _ _;rw[h t j r e]
theorem Ex (row:Int) {l k:List Int} (h:l.Perm k):dm row l=dm row k:=by
 rw[<-gg,<-gg];exact wz (h.map _)
theorem F0 (b:Bool) (row:Int) {l k:List Int} (h:l.Perm k):br b l row=br b k row:=by
 unfold br;rw[Ex row h,h.length_eq]
theorem yy (b:Bool) {os:Int->Int}{r a:Int}{t u:List Int} (c:u.Perm (t.map os)) (h:∀ k∈t,onI a (os k)=onI r k):br b u a=br b t r:=by
 rw[F0 b a c];have e:dm a (t.map os)=dm r t:=by
  rw[<-gg,<-gg,qaC]
  congr 1
  exact qbe λk d=>h k d
 unfold br;rw[e,qaf]
end Own
set_option maxHeartbeats 1000000
namespace Own
open PySem L2
open Sx (Pb Tb Good Named Fe LV ZV piv lexP leastR leaveL sumN unit colV basis)
def ren (n:Nat) (bs:Nat->Nat) (t:List Int):List Int:=((qan n).filter λj=>decide ((bs j:Int)∈t)).map λj:Nat=>(j:Int)
theorem kF {n:Nat}{bs:Nat->Nat}{t:List Int}{x:Int}:x∈ren n bs t↔∃ j,j<n/\(bs j:Int)∈t/\(j:Int)=x:=by
 unfold ren;rw[qay];constructor
 ·rintro⟨j,a,rfl⟩
  rw[qbK,qaH,decide_eq_true_iff]at a;exact⟨j,a.1,a.2,U⟩
 ·rintro⟨j,a,h,rfl⟩
  exact⟨j,by rw[qbK,qaH,decide_eq_true_iff];exact⟨a,h⟩,U⟩
theorem sK (n:Nat) (bs:Nat->Nat) (t:List Int):Trm n (ren n bs t):=by
 refine⟨?_,λk a=>?_⟩
 ·unfold ren
  rw[qcr];exact (qgJ.filter _).imp λh=>by lia
 ·obtain⟨j,b,_,rfl⟩:=kF.mp a
  lia
theorem wA {n:Nat}{t:List Int} (h:Trm n t):t.Nodup:=h.1.imp λh=>by lia
theorem DA {n:Nat}{t u:List Int} (c:Trm n t) (d:Trm n u) (e:∀ a,a∈t↔a∈u):t=u:=
 ((qd7 (wA c) (wA d)).mpr e).eq_of_pairwise (λa b _ _ g f=>by lia) c.1 d.1
structure Inv (n:Nat) (o bs:Nat->Nat):Prop where
 lt:∀ k,k<n->o k<n/\bs k<n
 ob:∀ k,k<n->o (bs k)=k
 bo:∀ k,k<n->bs (o k)=k
theorem Inv.sy {n:Nat}{o bs:Nat->Nat} (h:Inv n o bs):Inv n bs o:=⟨λk a=>⟨(h.lt k a).2,(h.lt k a).1⟩,h.bo,h.ob⟩
theorem sk {n:Nat}{o bs:Nat->Nat} (h:Inv n o bs) {t:List Int} (c:Trm n t):(ren n bs t).Perm (t.map λk=>(o k.toNat:Int)):=by
 have inj:∀ x∈t,∀ y∈t,(o x.toNat:Int)=o y.toNat->x=y:=λx q y i e=>by
  have a:=c.2 x q;have b:=c.2 y i;have p:o x.toNat=o y.toNat:=by lia
  have:=h.bo x.toNat (by lia)
  rw[p,h.bo y.toNat (by lia)]at this;lia
 have nd:(t.map λk=>(o k.toNat:Int)).Nodup:=by
  unfold qeZ;rw[qcr]
  exact qdX (λ{a b} m hb l e=>by
   have:=inj a m b hb e;lia) c.1
 refine (qd7 (wA (sK n bs t)) nd).mpr λa=>?_;rw[kF,qay];constructor
 ·rintro⟨j,f,g,rfl⟩
  exact⟨_,g,by rw[qaE,h.ob j f]⟩
 ·rintro⟨k,d,rfl⟩
  have a:=c.2 k d;refine⟨_,(h.lt _ (by lia)).1,?_,U⟩;rw[h.bo k.toNat (by lia),qd4 a.1];exact d
theorem so {n:Nat}{o bs:Nat->Nat} (h:Inv n o bs) {t:List Int} (c:Trm n t):ren n bs (ren n o t)=t:=
 DA (sK ..) c λa=>by
  rw[kF];constructor
  ·rintro⟨j,f,g,rfl⟩
   obtain⟨i,hi,b,e⟩:=kF.mp g
   have:i=bs j:=by lia
   subst this
   rwa [h.ob j f]at b
  ·intro d
   have q:=c.2 a d;refine⟨a.toNat,by lia,kF.mpr ⟨_,(h.lt _ (by lia)).2,?_,U⟩,by lia⟩;rw[h.ob a.toNat (by lia),qd4 q.1];exact d
theorem uV {ts:List (List Int)}{n m:Nat}{o bs:Nat->Nat} (h:Inv n o bs) (nd:ts.Nodup) (d:∀ t,t∈ts↔Trm n t/\t.length<=m):(ts.map (ren n bs)).Perm ts:=by
 have k:∀ {o bs:Nat->Nat},Inv n o bs->∀ t∈ts,ren n bs t∈ts:=λ{o bs} h t j=>by
  obtain⟨a,c⟩:=(d t).mp j;refine (d _).mpr ⟨sK ..,?_⟩;rw[(sk h a).length_eq,qaf];exact c
 have g:(ts.map (ren n bs)).Nodup:=by
  unfold qeZ;rw[qcr]
  exact qdX (λ{a b} f hb i e=>i (by
   rw[<-so h.sy ((d a).mp f).1,<-so h.sy ((d b).mp hb).1,e])) nd
 refine (qd7 g nd).mpr λa=>?_;rw[qay];constructor
 ·rintro⟨t,j,rfl⟩;exact k h t j
 ·intro f
  exact⟨_,k h.sy a f,so h ((d a).mp f).1⟩
theorem Bs {d:List D}{n m0:Nat}{o bs s s':Nat->Nat}{l i:Int}{X':List Int->Int}{A:Nat->Int} (e:Inv n o bs) (j:∀ t,t∈ts↔Trm n t/\t.length<=m0) (f:d.length=fs.length)
  (g:∀ r,r<fs.length->s r<fs.length/\s' r<fs.length/\s (s' r)=r/\s' (s r)=r) (hb:∀ r,r<fs.length->∀ k,k<n->onN (s r) (o k)=onN r k) (z:∀ r,r<fs.length->d.getD r .non=fs.getD (s r) .non)
  (h:Spl fs ts) (R:fR fs b ts m p X w) (h':Spl d ts) (R':fR d b ts l i X' A) :
  m / ((qaW m.natAbs p.natAbs:Nat):Int)=l / ((qaW l.natAbs i.natAbs:Nat):Int)/\p / ((qaW m.natAbs p.natAbs:Nat):Int)=i / ((qaW l.natAbs i.natAbs:Nat):Int):=by
 refine o0 h R h' R' (t7 (uV e h.nd j) (λt y r c=>?_) f (λr c=>(g r c).1) z) (t7 (uV e.sy h.nd j) (λt y r c=>?_) f.symm (λr c=>by rw[f]at c ⊢;exact (g r c).2.1) λr c=>?_)
 ·have a:=((j t).mp y).1
  refine yy b (sk e a) λk v=>?_;have q:=a.2 k v;rw[wa,wa,qaE,hb r c k.toNat (by lia)]
 ·rw[f]at c
  have a:=((j t).mp y).1;refine yy b (sk e.sy a) λk v=>?_;have q:=a.2 k v;obtain⟨C,x,u,B⟩:=g r c
  have:=hb _ x (bs k.toNat) (e.lt _ (by lia)).2
  rw[u,e.ob k.toNat (by lia)]at this;rw[wa,wa,qaE,this]
 ·rw[f]at c
  obtain⟨C,x,u,B⟩:=g r c;rw[z _ x,u]
end Own
set_option maxHeartbeats 1000000
namespace Own
open PySem L2
open Sx (Pb Tb Good Named Fe LV ZV piv lexP leastR leaveL sumN unit colV basis)
def aO (N:Nat) (F:Nat->D):List D:=(qan N).map F
theorem be (N:Nat) (F:Nat->D):(aO N F).length=N:=by unfold aO;rw[qaf,qaw]
theorem yr {N:Nat}{F:Nat->D}{j:Nat} (h:j<N):atI (aO N F) (j:Int)=some (F j):=bS (by unfold aO;rw[qaF,qbp h];rfl)
theorem vB {te:Ef}{l:Ev}{st:Sto}{M:Nat}{F:Nat->D} (h:∀ i,i<M->te (Z (.int (i:Int))::l) st=some (.d (F i),st)):lcI (.nm 0) az te (none::l) (bh 0 M) st=some (aO M F,st):=by
 have e:aO M F=(bh 0 M).map λd=>match d with|.int j=>F j.toNat|d=>d:=by
  unfold aO bh;rw[qaC];refine qbe λk _=>?_;show F k=F ((0:Int)+k).toNat
  rw[qcD,qaE]
 rw[e];exact dC _ λd hd=>by
  obtain⟨i,hi⟩:=qdP.mp hd;obtain⟨rfl,a⟩:=cH hi;refine⟨_,U,?_⟩;exact h i a
theorem wK {N:Nat}{F:Nat->D} (h:∀ i,i<N->dE (F i)):∀ d∈aO N F,dE d:=λd hd=>by
 obtain⟨i,hi,rfl⟩:=qay.mp hd;exact h i (qaH.mp hi)
theorem uL {st:Sto}{N:Nat}{F:Nat->D} (hN:N<=1000) (c:∀ i,i<N->dE (F i)):jQ [.d (.tup (aO N F))] st=some (.d (.tup (aO N λi=>gy (F i))),st):=by
 have a:lcI (.nm 0) az j6 [none] (aO N F) st=some (aO N λi=>gy (F i),st):=by
  have e:(aO N λi=>gy (F i))=(aO N F).map gy:=by
   unfold aO;rw[qaC];rfl
  rw[e];exact dC _ λd hd=>by
   rcases wK c d hd with rfl|rfl|rfl<;>exact⟨_,rfl,rfl⟩
 have b:(aO N F).length<=1000000:=by rw[be];lia
 exact ax U (aA (aF (ab (ak (aI U b a)) U) U))
theorem sD {l:List (Nat×Nat)}{n:Nat} (f:n<6) (d:(l.map qcA).Nodup) (b:∀ p∈l,p.1<n/\p.2<2):sp l<2^n:=by
 obtain⟨k,k2,j⟩:=yn l d λp a=>⟨by have:=(b p a).1;lia,(b p a).2⟩;refine xI _ k n f λc i h=>j c i λg=>?_;obtain⟨p,a,e⟩:=qay.mp g
 have:=(b p a).1
 lia
def rX (a:List Nat):List (Nat×Nat):=a.map λk=>(k,1)
theorem kI (a:List Nat):(rX a).map qcA=a:=by unfold rX;rw[qaC];exact qiJ a
theorem uK:∀ a:List Nat,(a.map λk:Nat=>(2:Int)^k).sum=((sp (rX a):Nat):Int)
 |[]=>rfl
 |k::a=>by
  rw[qas,qbB,uK a];show _=((1*2^k+sp (rX a)):Int);lia
theorem sR {n i S:Nat} (f:n<6) (hi:i<2^n) (d:S<2^n):(qb7 (i:Nat) (S:Nat)).toNat<2^n/\0<=qb7 (i:Nat) (S:Nat):=by
 have hN:2^n<=32:=qaM (qaV (by decide) (by lia:n<=5)) (by decide);obtain⟨j,g,e⟩:=yD i (by lia) S (by lia);refine⟨xI _ j n f λc h a=>?_,g⟩;rw[e c h];have b:∀ S,S<2^n->onN S c=0:=λS k=>by
  unfold onN;rw[qhU (qaP k (qaV (by decide) a))]
 rw[b i hi,b _ d]
theorem wG {st:Sto}{n S:Nat}{F:Nat->D} (e:n<6) (c:S<2^n):lcI (.nm 0) az jJ [none,Z (.tup (aO (2^n) F)),Z (.int (S:Int))] (bh 0 (2^n)) st=some (aO (2^n) λi=>F (qb7 (i:Nat) (S:Nat)).toNat,st):=vB λi hi=>by
 obtain⟨a,f⟩:=sR e hi c;have b:=yr (F:=F) a;rw[qd4 f]at b;exact ae U (ae U U U) b
theorem wH {st:Sto}{n:Nat}{a:List Nat} (f:n<6) (c:∀ k∈a,k<n):lcI (.nm 0) az jK [none] (a.map λk:Nat=>D.int k) st=some ((a.map λk:Nat=>(2:Int)^k).map D.int,st):=by
 have e:(a.map λk=>(2)^k).map D.int=(a.map λk:Nat=>D.int k).map λd=>match d with|.int k=>.int (2^k.toNat)|d=>d:=by rw[qaC,qaC];rfl
 rw[e];exact dC _ λd hd=>by
  obtain⟨k,b,rfl⟩:=qay.mp hd
  have:=c k b
  exact⟨_,U,ag U (oB (by lia) (by lia))⟩
theorem wF {st:Sto}{T T2 KD:List D}{L:List Int}{S M:Int} (f:KD.length<=1000000) (i:lcI (.nm 0) az jK [none] KD st=some (L.map D.int,st)) (a:L.sum=S) (b:(T.length:Int)=M) (hb:-(2^62)<=M/\M<2^62) (g:(bh 0 M.toNat).length<=1000000)
  (c:lcI (.nm 0) az jJ [none,Z (.tup T),Z (.int S)] (bh 0 M.toNat) st=some (T2,st)):kD [.d (.tup T),.d (.tup KD)] st=some (.d (.tup T2),st):=by
 have j:jt st [.d (.lst (L.map D.int))]=some (.int S):=by
  show (aW _).map _=_;rw[bu,qaj,a]
 have e:bi (aa (iCB aZ (aa (iV 0) ac)) ac) [Z (.tup T),Z (.tup KD),Z (.int S)] st=some (bh 0 M.toNat,st):=by
  have h:iCB aZ (aa (iV 0) ac) [Z (.tup T),Z (.tup KD),Z (.int S)] st=some (.d (.int M),st):=by
   refine aF U ?_;show some (D.int _)=_;rw[b]
  simp only[bi,aa,h,ac,qaa,qaj,hb,and_self,if_true]
 exact ax U (aY (aj (aF (ab (ak (aI U f i)) U) j)) (aA (aF (ab (ak (aI e g c)) U) U)))
theorem Hj {M:Int} (h:M<=64):(bh 0 M.toNat).length<=1000000:=by rw[bb];lia
theorem b62 {M:Int} (a:0<=M) (h:M<=64):-(2^62)<=M/\M<2^62:=⟨qeh (by decide) a,qhv h (by decide)⟩
theorem zD {st:Sto}{n:Nat}{a:List Nat}{F:Nat->D} (b:n<6) (f:a.Nodup) (e:∀ k∈a,k<n) (g:a.length<=6):kD [.d (.tup (aO (2^n) F)),.d (.tup (a.map λk:Nat=>D.int k))] st=some (.d (.tup (aO (2^n) λi=>F (qb7 (i:Nat) (sp (rX a):Nat)).toNat)),st):=by
 have hN:((2^n):Int)<=64:=by
  have:2^n<=32:=qaM (qaV (by decide) (by lia:n<=5)) (by decide)
  lia
 have c:(a.map λk:Nat=>D.int k).length<=1000000:=by
  rw[qaf];lia
 refine wF c (wH b e) (uK a) (by rw[be]) (b62 (qhu _) hN) (Hj hN) ?_
 exact (wG b (sD b (by rw [kI];exact f) λp h=>by
  obtain⟨k,j,rfl⟩:=qay.mp h
  exact⟨e k j,qbN 1⟩))
def prR (row:Nat):Nat->List Nat->List (Nat×Nat)
 |_,[]=>[]
 |i,o::os=>(o,onN row i)::prR row (i+1) os
theorem se (row:Nat):∀ (os:List Nat) (i:Nat),(prR row i os).map qcA=os
 |[],i=>rfl
 |o::os,i=>by rw[prR,qas,se row os _]
theorem D5 (row:Nat):∀ (os:List Nat) (i j:Nat) (o:Nat),os[j]?=some o->(o,onN row (i+j))∈prR row i os
 |[],i,j,o,h=>by simp at h
 |x::os,i,0,o,h=>by
  have:=by simpa using h
  subst this;exact qag
 |x::os,i,j+1,o,h=>by
  have:=D5 row os (i+1) j o (by simpa using h)
  rw[show i+1+j=i+(j+1) by lia]at this;exact qak _ this
theorem oE (row:Nat):∀ (os:List Nat) (i:Nat) (p:Nat×Nat),p∈prR row i os->p.1∈os/\p.2<2
 |[],i,p,h=>by cases h
 |o::os,i,p,h=>by
  rcases qaA.mp h with rfl|h
  ·exact⟨qag,by unfold onN;lia⟩
  ·have:=oE row os _ p h
   exact⟨qak _ this.1,this.2⟩
theorem Dp {st:Sto}{n row:Nat}{os:List Nat} (g:∀ o∈os,o<n) (s:n<6) (r:os.length<=6):fZ [.d (.int row),.d (.tup (os.map λo:Nat=>D.int o))] st=some (.d (.int ((sp (prR row 0 os):Nat):Int)),st):=by
 have b:∀ (os:List Nat) (i:Nat),i+os.length<=6->(∀ o∈os,o<n)->∃ L:List Int,lcI (.tp [0,1]) az cD [none,none,Z (.int row)] (cB i (os.map λo:Nat=>D.int o)) st=some (L.map D.int,st)/\L.sum=((sp (prR row i os))):=by
  intro os
  induction os with
  |nil=>intro i _ _;exact⟨[],U,U⟩
  |cons o os m=>
   intro i hi h;rw[qar]at hi;obtain⟨L,e,a⟩:=m (i+1) (by lia) λx q=>h x (qak _ q);have p:=h o qag;have f:=xZ (st:=st) (row:=(row)) (k:=(i)) (by lia) (by lia);have e2:=oB (st:=st) (k:=(o)) (by lia) (by lia);rw[CL]at f;rw[qaE]at e2;have l:onN row i<2:=by unfold onN;lia
   have c:qbJ ((onN row i)) ((2)^o):=d5 ⟨by lia,by lia⟩;refine⟨((onN row i))*(2)^o::L,?_,?_⟩
   ·show lcI _ az cD [none,none,some _] (.tup [.int _,.int _]::cB _ _) st=_
    have hb:cD [Z (.int (i)),Z (.int (o)),Z (.int row)] st=some (.d (.int (((onN row i))*(2)^o)),st):=by
     generalize ((onN row i))=x at f c ⊢;generalize (2:Int)^o=y at e2 c ⊢;refine ae (ag U f) (ag U e2) ?_;show (if qgz x y then some _ else none)=_;rw[iFP c]
    unfold lcI;rw[show cv _ _ [none,none,some _]=some [some _,some _,some _] from U,qaa,show az [some _,some _,some _] st=some (true,st) from U,qaa,hb,qaa,e];rfl
   ·rw[qbB,a]
    rfl
 obtain⟨L,e,a⟩:=b os 0 (by lia) g;have hi:aW _=some L:=bu _;have j:(cB 0 (os.map λo:Nat=>D.int o)).length<=1000000:=by rw[jd,qaf];lia
 generalize ((sp _))=S at a ⊢;generalize L.map D.int=LD at e hi;have g:jt st [.d (.lst LD)]=some (.int S):=by
  show (aW LD).map _=_;rw[hi,qaj,a]
 exact ax U (aA (aF (ab (ak (aI U j e)) U) g))
theorem wl {st:Sto}{n:Nat}{os:List Nat}{F:Nat->D} (g:n<6) (k:os.Nodup) (h:∀ o∈os,o<n) (l:os.length<=6):jl [.d (.tup (aO (2^n) F)),.d (.tup (os.map λo:Nat=>D.int o))] st=some (.d (.tup (aO (2^n) λi=>F (sp (prR i 0 os)))),st):=by
 have hN:2^n<=32:=qaM (qaV (by decide) (by lia:n<=5)) (by decide);have b:lcI _ az iL [none,Z (.tup (aO (2^n) F)),Z (.tup (os.map λo:Nat=>D.int o))] _ st=some (aO (2^n) λi=>F (sp (prR i 0 os)),st):=vB λi hi=>by
  simp only[iL,iV,iOp,ac,aa,ai,dQ,dIx,qaa,qaj,qaB,qaJ,lg,(Dp (st:=st) (row:=i) h g l),(yr (sD g (by rw[se];exact k) λp e=>⟨h _ (oE i os 0 p e).1,(oE i os 0 p e).2⟩))]
 have a:(((aO (2^n) F).length))=((2^n:Nat):Int):=by rw[be]
 obtain⟨M,f⟩:∃ M:Int,_=M:=⟨_,U⟩;have c:M.toNat=2^n:=by rw[<-f,qaE]
 rw[f]at a;generalize m:aO _ F=T at b a ⊢;generalize (aO _ λi=>F _)=T2 at b ⊢;rw[<-c]at b;have hb:-(2^62)<=M/\M<2^62:=by lia
 have j:(bh 0 M.toNat).length<=1000000:=by rw[bb];lia
 simp only[jl,pz,iV,ac,aa,iCB,ap,aM,iLc,bi,bj,eL,dQ,aZ,dj,qaa,qaj,qaB,qaJ,qas,qbL,qar,qbt,qa4,qa3,qbf,qbb,qcC,qcp,if_true,qa0,and_self,lg,a,hb,j,b]
end Own
set_option maxHeartbeats 1000000
namespace Own
open PySem L2
open Sx (Pb Tb Good Named Fe LV ZV piv lexP leastR leaveL sumN unit colV basis)
def Rr (os:List Nat) (i:Nat):Nat:=sp (prR i 0 os)
theorem ux {n i:Nat} (a:n<=5) (h:i<2^n):i<32:=qaP h (qaM (qaV (by decide) a) (by decide))
theorem hi0 {n i c:Nat} (h:i<2^n) (a:n<=c):onN i c=0:=by
 unfold onN;rw[qhU (qaP h (qaV (by decide) a))]
def mk (a:List Nat):Nat:=sp (rX a)
theorem xM {n:Nat}{a:List Nat} (j:n<=5) (hd:a.Nodup) (hb:∀ k∈a,k<n):mk a<2^n/\∀ c,c<5->onN (mk a) c=if c∈a then 1 else 0:=by
 have e:∀ p∈rX a,p.1<n/\p.2<2:=λp b=>by
  obtain⟨k,h,rfl⟩:=qay.mp b;exact⟨hb k h,qbN 1⟩
 obtain⟨s1,f,g⟩:=yn _ (by rw[kI];exact hd) λp b=>⟨by have:=(e p b).1;lia,(e p b).2⟩;refine⟨sD (by lia) (by rw[kI];exact hd) e,λc i=>?_⟩;by_cases d:c∈a
 ·rw[iFP d];exact f (c,1) (qay.mpr ⟨c,d,U⟩)
 ·rw[iFN d];exact g c i (by rw[kI];exact d)
structure Ord (n:Nat) (os:List Nat):Prop where
 len:os.length=n
 nd:os.Nodup
 lt:∀ o∈os,o<n
theorem pX:∀ (n:Nat) (l:List Nat),l.Nodup->(∀ x∈l,x<n)->l.length<=n
 |0,l,_,hb=>by
  cases l with
  |nil=>exact qap _
  |cons x l=>exact absurd (hb x qag) (qcu _)
 |n+1,l,hd,hb=>by
  have d:=pX n _ (hd.erase n) λx b=>by
   have g:=hb x (List.mem_of_mem_erase b);have f:x≠n:=λe=>by
    rw[e]at b;exact (qld hd) b
   lia
  have c:=List.length_erase (a:=n) (l:=l);split at c<;>lia
theorem Ord.has {n:Nat}{os:List Nat} (h:Ord n os) {c:Nat} (d:c<n):∃ j,∃ e:j<os.length,os[j]=c:=by
 by_cases b:c∈os
 ·exact qbQ.mp b
 ·have:=pX n _ (qcb.mpr ⟨b,h.nd⟩) λx a=>by
   rcases qaA.mp a with rfl|a
   ·exact d
   ·exact h.lt x a
  rw[qar,h.len]at this;lia
theorem d7 {n i:Nat}{os:List Nat} (f:n<=5) (h:Ord n os):Rr os i<2^n/\∀ j (c:j<os.length),onN (Rr os i) os[j]=onN i j:=by
 have b:∀ p∈prR i 0 os,p.1<n/\p.2<2:=λp a=>⟨h.lt _ (oE i os 0 p a).1,(oE i os 0 p a).2⟩;obtain⟨s1,d,e⟩:=yn _ (by rw[se];exact h.nd) λp a=>⟨by have:=(b p a).1;lia,(b p a).2⟩;refine⟨sD (by lia) (by rw[se];exact h.nd) b,λj c=>?_⟩
 have:=d _ (D5 i os 0 j os[j] (qai c))
 rw[qa0]at this;exact this
theorem CW {n x y:Nat}{os:List Nat} (d:n<=5) (h:Ord n os) (g:x<2^n) (f:y<2^n) (e:∀ j (b:j<os.length),onN x os[j]=onN y os[j]):x=y:=by
 refine tO x (ux d g) y (ux d f) λc i=>?_;by_cases a:c<n
 ·obtain⟨j,b,rfl⟩:=h.has a
  exact e j b
 ·rw[hi0 g (by lia),hi0 f (by lia)]
theorem su {n i:Nat}{os bs:List Nat} (b:n<=5) (h:Ord n os) (hb:Ord n bs) (e:∀ j (a:j<os.length) (f:os[j]<bs.length),bs[os[j]]=j) (hi:i<2^n):Rr os (Rr bs i)=i:=by
 refine CW b h (d7 b h).1 hi λj a=>?_;rw[(d7 b h).2 j a];have c:os[j]<bs.length:=by rw[hb.len];exact h.lt _ (qa2 a)
 have d:=(d7 (i:=i) b hb).2 os[j] c;rw[e j a c]at d;exact d
theorem fm {N:Nat}{F:Nat->D}{r:Nat} (h:r<N):(aO N F).getD r .non=F r:=by
 unfold aO;rw[qao,qaF,qbp h];rfl
theorem rY {n:Nat}{os:List Nat} (h:Ord n os) {c:Nat} (b:c<n):os.idxOf c<n/\os.getD (os.idxOf c) 0=c:=by
 have f:c∈os:=by
  obtain⟨j,d,e⟩:=h.has b;rw[<-e];exact qa2 d
 have a:=List.idxOf_lt_length_iff.mpr f;refine⟨by rw[<-h.len];exact a,?_⟩;rw[qao,qai a];exact List.getElem_idxOf a
theorem x8 {n:Nat}{os:List Nat} (h:Ord n os):Inv n (λk=>os.getD k 0) (λj=>os.idxOf j):=by
 have g:∀ k (a:k<n),os.getD k 0=os[k]'_:=λk a=>by
  rw[qao,qai (by rw[h.len];exact a)];rfl
 refine⟨λk a=>⟨?_,(rY h a).1⟩,λk a=>(rY h a).2,λk a=>?_⟩
 ·rw[g k a];exact h.lt _ (qa2 _)
 ·rw[g k a]
  exact h.nd.idxOf_getElem k _
theorem uM {n:Nat}{os:List Nat} (h:Ord n os):Ord n ((qan n).map λj=>os.idxOf j):=by
 have c:=x8 h;refine⟨by rw[qaf,qaw],?_,λo d=>?_⟩
 ·unfold qeZ
  rw[qcr]
  exact qdX (λ{a b} g hb i e=>by
   have:os.getD (os.idxOf a) 0=os.getD (os.idxOf b) 0:=by rw[e]
   have:a=b:=by rw[<-(c.ob a (qaH.mp g)),<-(c.ob b (qaH.mp hb))];exact this
   lia) qgJ
 ·obtain⟨j,f,rfl⟩:=qay.mp d
  exact (rY h (qaH.mp f)).1
theorem Dl {n m0:Nat}{os:List Nat}{F:Nat->D}{u g:Int}{X':List Int->Int}{y:Nat->Int} (c:n<=5) (h:Ord n os) (z:∀ t,t∈ts↔Trm n t/\t.length<=m0) (S:Spl (aO (2^n) F) ts) (R:fR (aO (2^n) F) b ts m p X w) (S':Spl (aO (2^n) λi=>F (Rr os i)) ts) (R':fR (aO (2^n) λi=>F (Rr os i)) b ts u g X' y) :
  m / ((qaW m.natAbs p.natAbs:Nat):Int)=u / ((qaW u.natAbs g.natAbs:Nat):Int)/\p / ((qaW m.natAbs p.natAbs:Nat):Int)=g / ((qaW u.natAbs g.natAbs:Nat):Int):=by
 have hb:=uM h;have l:∀ {G:Nat->D}{r:Nat},r<(aO _ G).length->r<2^n:=λ{G r} q=>by rwa [be]at q
 have a:∀ k (o:k<os.length),os.getD k 0=os[k]:=λk o=>by
  rw[qao,qai o];rfl
 refine Bs (s:=Rr os) (s':=Rr ((qan n).map λj=>os.idxOf j)) (x8 h) z (by rw[be,be]) (λr e=>⟨?_,?_,?_,?_⟩) (λr e k o=>?_) (λr e=>?_) S R S' R'
 ·rw[be];exact (d7 c h).1
 ·rw[be];exact (d7 c hb).1
 ·refine su c h hb (λj f v=>?_) (l e)
  rw[qcz,qc1];exact h.nd.idxOf_getElem j f
 ·refine su c hb h (λj f v=>?_) (l e)
  have x:=by rw[qaf,qaw]at f;exact f
  have:=(rY h x).2
  rw[<-a];rw[qcz,qc1];exact this
 ·have d:k<os.length:=by rw[h.len];exact o
  rw[a k d,(d7 c h).2 k d]
 ·rw[fm (l e),fm (d7 c h).1]
theorem BK {n:Nat}{d:List Nat}{F:Nat->D}{e b:Int}{X':List Int->Int}{s:Nat->Int} (f:n<=5) (hd:d.Nodup) (c:∀ k∈d,k<n) (j:∀ t∈ts,Trm n t) (S:Spl (aO (2^n) F) ts) (R:fR (aO (2^n) F) false ts m p X w) (S':Spl (aO (2^n) λi=>F (Xr (mk d) i)) ts) (R':fR (aO (2^n) λi=>F (Xr (mk d) i)) false ts e b X' s) :
  m / ((qaW m.natAbs p.natAbs:Nat):Int)=e / ((qaW e.natAbs b.natAbs:Nat):Int)/\p / ((qaW m.natAbs p.natAbs:Nat):Int)=b / ((qaW e.natAbs b.natAbs:Nat):Int):=by
 have l:∀ {G:Nat->D}{r:Nat},r<(aO _ G).length->r<2^n:=λ{G r} q=>by rwa [be]at q
 have g:=xM f hd c;have o:∀ {r:Nat},r<2^n->Xr _ r<2^n:=λ{r} a=>(sR (by lia) a g.1).1;refine DM (λt h k c=>⟨((j t h).2 k c).1,by have:=((j t h).2 k c).2;lia⟩) (by rw[be,be]) ?_ (ux f g.1) (λr a=>by rw[be];exact o (l a)) (λr a=>?_) S R S' R'
 ·rw[be];exact qaV (by decide) f
 ·rw[fm (l a),fm (o (l a))]
theorem CV {n:Nat}{F:Nat->D}{c a:Int}{X':List Int->Int}{d:Nat->Int} (S:Spl (aO (2^n) F) ts) (R:fR (aO (2^n) F) b ts m p X w) (R':fR (aO (2^n) λi=>gy (F i)) b ts c a X' d) :
  m / ((qaW m.natAbs p.natAbs:Nat):Int)=c / ((qaW c.natAbs a.natAbs:Nat):Int)/\p / ((qaW m.natAbs p.natAbs:Nat):Int)=a / ((qaW c.natAbs a.natAbs:Nat):Int):=by
 have e:(aO (2^n) λi=>gy (F i))=(aO (2^n) F).map gy:=by unfold aO;rw[qaC];rfl
 rw[e]at R';exact AN S R R'
end Own
set_option maxHeartbeats 1000000
namespace Own
open PySem L2
open Sx (Pb Tb Good Named Fe LV ZV piv lexP leastR leaveL sumN unit colV basis)
theorem ym {st:Sto}{kd:Str}{ps:List Prt} (e:ps.length<=1000):d9 [.d (aQ kd ps)] st=some (.d (.int (ps.map λp=>l5 p.2).sum),st):=by
 have a:lcI (.tp [0,1]) az iM [none,none] (ps.map ca) st=some (ps.map λp=>.int (l5 p.2),st):=ky _ λp f=>by
  refine⟨_,U,?_⟩;generalize au p.1=tt;simp only[iM,iV,ac,aa,iCB,kN,zW,qaa,qaj,qaB,qaJ,qbc,qbC,l5]
 have b:aW (ps.map λp=>.int (l5 p.2))=some (ps.map λp=>l5 p.2):=by
  have:=bu (ps.map λp=>l5 p.2)
  rw[qaC]at this;exact this
 have c:(ps.map ca).length<=1000000:=by rw[qaf];lia
 generalize ps.map (λp=>l5 p.2)=L at b ⊢;generalize (ps.map λp=>D.int (l5 p.2))=LD at a b;unfold aQ;generalize ps.map ca=PP at a c ⊢;simp only[d9,pB,iV,iC,iOp,ac,aa,iCB,ap,aM,iLc,ar,bj,eL,dQ,dIx,jt,qaa,qaj,qaB,qas,qbL,qar,qbt,qa4,qa3,qbf,qbb,qcp,if_true,vj,qa0,lg,c,a,b]
end Own
set_option maxHeartbeats 1000000
namespace Own
open PySem L2
open Sx (Pb Tb Good Named Fe LV ZV piv lexP leastR leaveL sumN unit colV basis)
theorem Cn {st:Sto}{n:Nat}{x y z:Int} (h:st[n]?=some (.l [.int x,.int y,.int z])):dIx st (.h n) (.d (.int 0))=some (.int x):=by
 show (lg st n).bind _=_;unfold lg;rw[h];show atI [D.int x,.int y,.int z] 0=_;exact tj _ _
theorem HU {st:Sto}{n:Nat}{x y z:Int} (h:st[n]?=some (.l [.int x,.int y,.int z])):dIx st (.h n) (.d (.int 1))=some (.int y):=by
 show (lg st n).bind _=_;unfold lg;rw[h];show atI [D.int x,.int y,.int z] 1=_;exact vj _ _ _
theorem Gw {st:Sto}{n:Nat}{x y z:Int} (h:st[n]?=some (.l [.int x,.int y,.int z])):dIx st (.h n) (.d (.int 2))=some (.int z):=by
 show (lg st n).bind _=_;unfold lg;rw[h];show atI [D.int x,.int y,.int z] 2=_;exact bS U
theorem Gx {st:Sto}{n:Nat}{x y z v:Int} (h:st[n]?=some (.l [.int x,.int y,.int z])):dS st (.h n) (.d (.int 0)) (.d (.int v))=some (st.set n (.l [.int v,.int y,.int z])):=by
 show (lg st n).bind _=_;unfold lg;rw[h];rfl
theorem Gy {st:Sto}{n:Nat}{x y z v:Int} (h:st[n]?=some (.l [.int x,.int y,.int z])):dS st (.h n) (.d (.int 2)) (.d (.int v))=some (st.set n (.l [.int x,.int y,.int v])):=by
 show (lg st n).bind _=_;unfold lg;rw[h];rfl
theorem lC {o i v:Ef}{env:Ev}{st s1 a c b:Sto}{x e d:W} (h:v env st=some (x,s1)) (f:o env s1=some (e,a)) (j:i env a=some (d,c)) (g:dS c e d x=some b):bE o i v env st=some (.nx env b):=by
 simp only[bE,h,f,j,g,qaa,qaj]
theorem gtW (s:Sto) {a b:Int}{k:Bool} (h:decide (a > b)=k):dGt s (.d (.int a)) (.d (.int b))=some (.bl k):=by rw[<-h];rfl
theorem bN {st:Sto}{n:Nat}{m Zq:Int} (h:Hd st n Zq) (C:Zq<1000000000) (m0:0<m) (t:m<1073741824):∃ r a,0<=r/\r<m/\Stw n st a/\Hd a n (Zq+1)/\aG [.h n,.d (.int m)] st=some (.d (.int r),a):=by
 have c:=h.lt;obtain⟨x,y,z,g,A,B,h⟩:=h;by_cases j:0<x
 ·refine⟨x%m,st.set n (.l [.int (x / m),.int y,.int z]),qic _ (by lia),qhw _ m0,⟨_,U⟩,⟨_,_,_,qe0 g (by lia),A,by lia,qM c⟩,?_⟩
  exact ax U (sj (yh (aE (ae U U (Cn h)) U (gtW _ (decide_eq_true j))) (aY (aj (ae (ae U U (Cn h)) U (i4 _ m0))) (aY (lC (ae (ae U U (Cn h)) U (qL _ ⟨m0,t⟩)) U U (Gx h)) (aA U)))))
 ·have p:∃ Zq:Int,z+1=Zq/\0<=Zq/\Zq<=1000000000:=⟨_,U,by lia,by lia⟩
  obtain⟨Zq,k,i,s⟩:=p;have f:(st.set n _)[n]?=some (.l [.int x,.int y,.int Zq]):=qM c;obtain⟨u,o⟩:∃ u,y*(48271+2*Zq*Zq+65537*Zq)%2305843009213693921=u:=⟨_,U⟩;have w:qbJ y (48271+2*Zq*Zq+65537*Zq):=by
   have D:0<=2*Zq*Zq:=qip (by lia) i;have a2:2*Zq*Zq<=2*Zq*1000000000:=qa1 s (by lia);exact hW ⟨by lia,by lia⟩
  have b:bm st (.d (.int z)) (.d (.int 1))=some (.int Zq):=by rw[<-k];rfl
  refine⟨(u*(u%1000003+Zq*99991+11)%2305843009213693907 / 97+u*(u%1000003+Zq*99991+11)%2305843009213693907 / 1000033)%m,st.set n (.l [.int x,.int y,.int Zq]),qic _ (by lia),qhw _ m0,⟨_,U⟩,⟨_,_,_,g,i,by lia,qM c⟩,?_⟩;have e:=Gy (v:=Zq) h;refine ax U (aY (yg (aE (ae U U (Cn h)) U (gtW _ (decide_eq_false j))) U) (aY (lC (ae (ae U U (Gw h)) U b) U U e) (aY (aj (ae U U (Gw f))) (aY (aj ?_) (aY (aj (ae (ae (ae U U (i4 _ (by decide))) (ae U U (i5 _ (hW (by decide)))) U) U U)) (aY (aj (ae (ae U U (i5 _ ((λq=>d5 ⟨by lia,by lia⟩) _))) U (i4 _ (by decide)))) (aA (ae (ae (ae U U (qL _ (by decide))) (ae U U (qL _ (by decide))) U) U (i4 _ m0)))))))));rw[<-o];exact ae (ae (ae U U (HU f)) (ae (ae U (ae (ae U U (i5 _ (d5 (by decide)))) U (i5 _ (hW ⟨by lia,by lia⟩))) U) (ae U U (i5 _ (d5 (by decide)))) U) (i5 _ w)) U (i4 _ (by decide))
theorem ltW (s:Sto) {a b:Int}{k:Bool} (h:decide (a<b)=k):dLt s (.d (.int a)) (.d (.int b))=some (.bl k):=by rw[<-h];rfl
theorem Ci {st:Sto}{ns:List Int}{k:Nat}:∃ a,Hd a st.length 0/\a.length=st.length+1/\a.take st.length=st/\iU [.d (.scr ns),.d (.int k)] st=some (.h st.length,a):=by
 obtain⟨c,r⟩:∃ c:Int,ah (aw (.nm 2) (iC (.int 0))) (bA (aN dLt (iV 1) (iCB aZ (aa (iV 0) ac))) (aw (.nm 2) (iOp dIx (iV 0) (iV 1))) bn) [some _,some _,none] st=some (.nx [Z (.scr ns),some _,Z _] st):=by
  by_cases p:k<ns.length
  ·refine⟨_,aY (aj U) (yh (aE U U (ltW _ (decide_eq_true (show (k:Int)<_ by rw[qaf];lia)))) (aj (ae U U (bS (by rw[qaF,qai p];rfl)))))⟩
  ·exact⟨0,aY (aj U) (yg (aE U U (ltW _ (decide_eq_false (show ¬ _<_ by rw[qaf];lia)))) U)⟩
 have e:∃ x:Int,0<=x/\iOp dIx (ap (bD (aa (iC (.int 0)) (aa (iV 2) ac)))) (iCB iE (aa (iOp dGe (iV 2) (iOp zX (iC (.int 10)) (iC (.int 18)))) ac)) [Z (.scr ns),Z (.int k),Z (.int c)] st=some (.d (.int x),st):=by
  have i:zX st (.d (.int 10)) (.d (.int 18))=some (.int (10^Int.toNat 18)):=by
   show (if sU 10 18 then some _ else none)=_;rw[iFP p18]
  have g:ap (bD (aa (iC _) (aa (iV 2) ac))) [Z (.scr ns),Z (.int k),Z _] st=some (.d (.lst [.int 0,.int c]),st):=rfl;cases hb:decide (c>=10^Int.toNat 18) with
  |false=>exact⟨0,by decide,ae g (aF (ab (ae U (ae U U i) (d:=.bl false) (by rw[<-hb];rfl)) U) U) (show atI [D.int 0,.int c] 0=_ from tj _ _)⟩
  |true=>
   refine⟨c,?_,ae g (aF (ab (ae U (ae U U i) (d:=.bl true) (by rw[<-hb];rfl)) U) U) (show atI [D.int 0,.int c] 1=_ from vj _ _ _)⟩;lia
 obtain⟨x,j,e⟩:=e;refine⟨st++[.l [.int x,.int (c%2305843009213693951+7919*(k)+3),.int 0]],⟨x,c%2305843009213693951+7919*(k)+3,0,j,by decide,by decide,?_⟩,by rw[qav];rfl,qcq,?_⟩
 ·rw[qaO (qap _),qeV];rfl
 ·have m:iOp bm (iOp bm (iOp iG (iV 2) (iC (.int 2305843009213693951))) (iOp bg (iC (.int 7919)) (iV 1))) (iC (.int 3)) [Z (.scr ns),Z (.int k),Z (.int c)] st=some (.d _,st):=ae (ae (ae U U (i4 _ (by decide))) (ae U U (i5 _ (d5 (by decide)))) U) U U
  generalize c%2305843009213693951+7919*_+3=y at *;have q:aM (cx (bD (aa (iOp dIx (ap (bD (aa (iC (.int 0)) (aa (iV 2) ac)))) (iCB iE (aa (iOp dGe (iV 2) (iOp zX (iC (.int 10)) (iC (.int 18)))) ac))) (aa (iOp bm (iOp bm (iOp iG (iV 2) (iC (.int 2305843009213693951))) (iOp bg (iC (.int 7919)) (iV 1))) (iC (.int 3))) (aa (iC (.int 0)) ac))))) [Z (.scr ns),Z (.int k),Z (.int c)] st=some (.rt (.h st.length) (st++[.l [.int x,.int y,.int 0]])):=by
   refine aA ?_;simp only[cx,bD,(ab e (ab (b:=aa (iC (.int 0)) ac) m U)),qaa,ma,qaj,qar,qbt,show (3)<=1000 by decide,if_true]
  have f:=r;simp only[ah,qab]at f;obtain⟨s,n,o⟩:=f;cases n;exact ax U (aY (aj U) (aY o q))
theorem ya {st:Sto}{n:Nat}{ds:List D}{Zq:Int} (h:Hd st n Zq) (g:Zq<1000000000) (e:ds≠[]) (i:ds.length<1000000):∃ d a,d∈ds/\Stw n st a/\Hd a n (Zq+1)/\cg [.h n,.d (.lst ds)] st=some (.d d,a):=by
 have l:=qg3.mpr e;obtain⟨r,s1,c,k,t1,t2,f⟩:=bN h g (m:=(ds.length)) (by lia) (by lia);obtain⟨j,rfl⟩:=qbn c;have b:j<ds.length:=by lia
 exact⟨_,s1,qa2 b,t1,t2,ax U (aA (ae U (ag (ab U (ab (aF U U) U)) f) (bS (qai b))))⟩
theorem uR (b:Bool) (row:Int):∀ (t:List Int) (a:Int),(t.foldl (λv k=>v*ph b (onI row k)) a)=a*br b t row
 |[],a=>by cases b<;>simp[br,dm]
 |k::t,a=>by
  rw[qhX,uR b row t];have c:=wT row t;rw[qbm];cases b with
  |true=>
   simp only[ph,if_true,br,dm,qar];rcases xY row k with e|e
   ·simp only[e,qcl]
    split
    ·lia
    ·rfl
   ·simp only[e,qcG]
    split<;>split<;>first|rfl|(lia)
  |false=>
   simp only[ph,qa8,if_false,br,dm];rcases xY row k with e|e
   ·simp only[e,qcD]
    split<;>rfl
   ·simp only[e]
    split<;>split<;>first|rfl|lia
theorem yw {st:Sto}{b:Bool}{t:List Int}{row:Int} (o:∀ k∈t,0<=k/\k<=20):bZ [.d (.str (aC b)),.d (au t),.d (.int row)] st=some (.d (.int (br b t row)),st):=by
 obtain⟨l,u,e2,f,j,rfl,rfl⟩:=bU (g:=.nm 4) (body:=dR) (λi env s=>∃ f j,env=[some _,some _,some _,Z (.int ((t.take i).foldl (λv k=>v*ph b (onI row k)) 1)),f,j]/\s=st)
  (env:=[Z (.str (aC b)),Z (au t),Z (.int row),Z (.int 1),none,none]) ⟨none,none,U,U⟩ (λi d env s hd ⟨f,j,e,es⟩=>by
   subst e es;rw[qaF,qad]at hd;obtain⟨k,m,rfl⟩:=hd;obtain⟨hi,h⟩:=qat.mp m;have r:(t.take (i+1)).foldl (λv k=>v*ph b (onI row k)) 1=(t.take i).foldl (λv k=>v*ph b (onI row k)) 1*ph b (onI row k):=by
    rw[qfr hi,List.foldl_append,h];rfl
   have c:∃ x,atI [D.int (1 - 2*onI row k),.int (onI row k)] (if b=true then 1 else 0)=some (.int (ph b (onI row k)))/\x=ph b (onI row k):=by
    cases b with
    |true=>exact⟨_,vj _ _ _,U⟩
    |false=>exact⟨_,tj _ _,U⟩
   obtain⟨_,c,_⟩:=c;have p:∀ q,qbJ q (ph b (onI row k)):=λq=>hW (by rcases xY row k with e|e<;>(rw[e];cases b<;>decide));have k2:∀ q,qbJ 2 q:=λq=>d5 (by decide);refine⟨_,[some _,some _,some _,some _,Z (.int k),Z (.int (onI row k))],s,U,.inl ?_,_,_,U,U⟩;rw[r];have n:=pT b;generalize aC b=kd at n ⊢;have a:dEq s (.d (.str kd)) (.d (.str "both"))=some (.bl b):=by rw[DQ,n]
   exact aY (aj (ae (ae U U (Ed _ ((o k (qby m)).1))) U (i4 _ (by decide)))) (aj (ae U (ae (ak (cG (ab (ae U (ae U U (i5 _ (k2 _))) U) (ab U U)) U (by show 2<=1000;decide))) (aF (ab (ae U U a) U) U) c) (i5 _ (p _)))))
 rw[qaf,qeB,uR,qcG]at e2;exact ax U (aY (aj U) (aY (bM (bv U) e2) (aA U)))
theorem iw {st:Sto}{n:Int} (u:0<=n) (y:n<=5):bx [.d (.int n)] st=some (.d (.lst ((cw n.toNat).map au)),st):=by
 obtain⟨l,f,e2,o,rfl,rfl⟩:=bU (g:=.nm 2) (body:=eR) (ds:=bh 0 n.toNat) (λi env s=>∃ o,env=[Z (.int n),Z (.lst ((cT i).map au)),o]/\s=st)
  ⟨none,U,U⟩ (λi d env s hd ⟨o,e,es⟩=>by
   subst e es;obtain⟨rfl,hi⟩:=cH hd;have j:(cT i).length<=64:=by
    rw[dG];exact qaM (qaV (by decide) (by lia:i<=6)) (by decide)
   have c:lcI (.nm 0) az eA [none,some (.d _)] _ s=some (((cT i).map au).map λd=>match d with|.tup ds=>.tup (ds++[.int i])|d=>d,s):=dC _ λd hd=>by
    obtain⟨t,v,rfl⟩:=qay.mp hd;have p:=sJ (dH i v);have r:(t.map D.int).length+1<=1000000:=by rw[qaf];lia
    exact⟨_,U,ae U (bF (ab U U) U (by show 1<=1000;decide)) (m8 _ r)⟩
   have w:(((cT i).map au).map λd=>match d with|.tup ds=>.tup (ds++[.int i])|d=>d)=((cT i).map λt=>t++[(i:Int)]).map au:=by
    rw[qaC,qaC];refine qbe λt _=>?_;show D.tup _=D.tup _;rw[qbs];rfl
   rw[w]at c;have e3:(cT (i+1)).map au=(cT i).map au++((cT i).map λt=>t++[(i:Int)]).map au:=by rw[cT,qbs]
   have m:((cT i).map au).length<=1000000:=by rw[qaf];lia
   have x:((cT i).map au).length+(((cT i).map λt=>t++[(i:Int)]).map au).length<=1000000:=by simp only[qaf];lia
   refine⟨_,[some _,some _,Z (.int i)],s,U,.inl ?_,_,U,U⟩;rw[e3]
   exact aj (ae U (ak (aI (aL U) m c)) (ez _ x)))
 rw[bb]at e2;have j:((cT n.toNat).map au).length<64:=by
  rw[qaf,dG];exact qbF (qaV (by decide) (by lia:n.toNat<=5)) (by decide)
 have h:pZ _=some ((cw n.toNat).map au):=ww _;generalize (cT n.toNat).map au=A at e2 j h;generalize (cw n.toNat).map au=B at h ⊢;have k:oa f [.d (.lst A)]=some B:=by
  show (if A.length<64 then pZ A else none)=_;rw[iFP j,h]
 have q:iCL oa (aa (iV 1) ac) [Z (.int n),Z (.lst A),o] f=some (B,f):=by
  simp only[iCL,(ab (a:=iV 1) (b:=ac) (env:=[some _,some _,o]) U U),qaa,k,qaj]
 exact ax U (aY (aj (ak (cG (ab (bF U U (by decide)) U) U (by decide)))) (aY (bM (dA U u (by lia) U) e2) (aA (ak q))))
def fq (b:Bool) (ps:List Prt) (row:Int):Int:=(ps.map λp=>p.2*br b p.1 row).sum
def yU (p:Prt):Prop:=Trm 6 p.1
theorem Eh {n:Nat}{t:List Int} (h:Trm n t) (b:n<=6):∀ k∈t,0<=k/\k<=20:=λk a=>⟨(h.2 k a).1,by have:=(h.2 k a).2;lia⟩
theorem Ab {p:Prt} (h:yU p):∀ k∈p.1,0<=k/\k<=20:=Eh h (qap 6)
theorem GQ (b:Bool) (t:List Int) (row c:Int):qbJ c (br b t row):=hW (by have:=BN b t row;lia)
theorem uo {st:Sto}{b:Bool}{ps:List Prt}{row:Int} (i:∀ p∈ps,yU p) (j:ps.length<=1000):gY [.d (aQ (aC b) ps),.d (.int row)] st=some (.d (.int (fq b ps row)),st):=by
 have a:lcI _ az iI [none,none,Z (aQ (aC b) ps),some _] _ st=some (ps.map λp=>.int (p.2*br b p.1 row),st):=ky _ λp h=>by
  refine⟨_,U,?_⟩;have e:=yw (st:=st) (b:=b) (row:=row) (Ab (i p h));generalize ps.map ca=PP;generalize aC b=kd at e ⊢;exact ae U (ag (ab (ae U U (show atI [D.str kd,.tup PP] 0=_ from tj _ _)) (ab U (ab U U))) e) (i5 _ (GQ b p.1 row p.2))
 have f:aW (ps.map λp=>.int (p.2*br b p.1 row))=some (ps.map λp=>p.2*br b p.1 row):=by
  have:=bu (ps.map λp=>p.2*br b p.1 row)
  rw[qaC]at this;exact this
 have g:(ps.map ca).length<=1000000:=by rw[qaf];lia
 unfold fq;generalize ps.map (λp=>p.2*br b p.1 row)=L at f ⊢;generalize (ps.map λp=>D.int _)=LD at a f;unfold aQ at a ⊢;generalize ps.map ca=PP at a g ⊢;generalize aC b=kd at a ⊢;have c:jt st [.d (.lst LD)]=some (.int L.sum):=by
  show (aW LD).map _=_;rw[f];rfl
 exact ax U (aA (aF (ab (ak (aI (bv (ae U U (show atI [D.str kd,.tup PP] 1=_ from vj _ _ _))) g a)) U) c))
theorem B2 {n:Int} (a:n<=6):(cw n.toNat).length<=64:=by
 rw[sZ];exact qaM (qaV (by decide) (by lia:n.toNat<=6)) (by decide)
end Own
set_option maxHeartbeats 1000000
namespace Own
open PySem L2
open Sx (Pb Tb Good Named Fe LV ZV piv lexP leastR leaveL sumN unit colV basis)
def V01 (u:D):Prop:=u=.int 0\/u=.int 1
theorem V01.f {u:D} (h:V01 u):dE u:=by rcases h with h|h;exact .inr (.inl h);exact .inr (.inr h)
theorem BG {r:Int} (a:0<=r) (b:r<2):V01 (.int r):=by
 have:r=0\/r=1:=by lia
 rcases this with rfl|rfl
 ·exact .inl U
 ·exact .inr U
theorem zZ {te:Ef}{st:Sto}{n:Nat}{env:Ev}{m:Nat}{Zq:Int} (k:∀ s d,te (env.set 0 (Z d)) s=(aG [.h n,.d (.int 2)] s).map λr=>(r.1,r.2)) (f:env.length≠0) (h:Hd st n Zq) (C:Zq+m<=1000000) :
  ∃ c b,c.length=m/\(∀ u∈c,V01 u)/\Stw n st b/\Hd b n (Zq+m)/\lcI (.nm 0) az te env (bh 0 m) st=some (c,b):=by
 obtain⟨c,j,e2,t2,e,p,x⟩:=db (g:=.nm 0) (tt:=az) (te:=te) (env:=env) (ds:=bh 0 m)
  (λi o s=>Stw n st s/\Hd s n (Zq+i)/\o.length=i/\∀ u ∈ o,V01 u) (ys0:=[]) ⟨Stw.refl h.lt,h.mono (by lia),U,λ_ h=>nomatch h⟩ (λi d o s hd ⟨p1,A,y,w⟩=>by
   obtain⟨rfl,hi⟩:=cH hd;obtain⟨r,j,v,q,t2,B,e2⟩:=bN A (m:=2) (by lia) (by decide) (by decide);refine⟨env.set 0 _,by cases env with|nil=>exact absurd U f|cons a l=>rfl,.inl ⟨s,.int r,j,U,?_,p1.trans t2,B.mono (by lia),by rw[qav,y];rfl,λu t=>?_⟩⟩
   ·rw[k,e2];rfl
   ·rcases qaG.mp t with z|z
    ·exact w u z
    ·rw[qal.mp z];exact BG v q)
 rw[bb]at p e;exact⟨c,j,by simpa using p,by simpa using x,t2,e,e2⟩
theorem yk {n:Int} (b:0<=n) (a:n<=6):∃ q:Int,(∀ s,qG s (.d (.int 1)) (.d (.int n))=some (.int q))/\q.toNat=2^n.toNat/\(-(2^62)<=q/\q<2^62)/\2^n.toNat<=64:=by
 have h:n=0\/n=1\/n=2\/n=3\/n=4\/n=5\/n=6:=by lia
 rcases h with rfl|rfl|rfl|rfl|rfl|rfl|rfl
 ·exact⟨1,λs=>rfl,by decide,by decide,by decide⟩
 ·exact⟨2,λs=>rfl,by decide,by decide,by decide⟩
 ·exact⟨4,λs=>rfl,by decide,by decide,by decide⟩
 ·exact⟨8,λs=>rfl,by decide,by decide,by decide⟩
 ·exact⟨16,λs=>rfl,by decide,by decide,by decide⟩
 ·exact⟨32,λs=>rfl,by decide,by decide,by decide⟩
 ·exact⟨64,λs=>rfl,by decide,by decide,by decide⟩
theorem tP {st:Sto}{h:Nat}{n Zq:Int} (I:Hd st h Zq) (X:Zq+7<=1000000) (y:0<=n) (O:n<=6):∃ a b,a.length=2^n.toNat/\(∀ u∈a,V01 u)/\Stw h st b/\Hd b h (Zq+7)/\cn [.h h,.d (.int n)] st=some (.d (.lst a),b):=by
 obtain⟨f,s1,V,C,J,B,H⟩:=zZ (te:=eD) (env:=[none,some _]) (m:=(n+1).toNat) (λs d=>by
  have:∀ o:Option (W×Sto),o=o.map λr=>(r.1,r.2):=λo=>by cases o<;>rfl
  rw[<-this]
  rfl) (by simp) I (by lia)
 obtain⟨q,c1,ct,P,S⟩:=yk y O;have l:∃ a,a.length=2^n.toNat/\(∀ u∈a,V01 u)/\lcI (.nm 0) az cK [none,Z (.lst f),Z (.int n)] (bh 0 (2^n.toNat)) s1=some (a,s1):=by
  obtain⟨a,T,e2,rfl,w,F⟩:=db (g:=.nm 0) (tt:=az) (te:=cK) (env:=[none,Z (.lst f),some _])
   (λi v s=>s=s1/\v.length=i/\∀ u ∈ v,V01 u) (ys0:=[]) ⟨U,U,λ_ h=>nomatch h⟩ (λi d v s hd ⟨p1,D,G⟩=>by
    subst p1;obtain⟨rfl,hi⟩:=cH hd;have A:lcI (.nm 0) fg eB [none,some _] _ s=some (((bh 0 n.toNat).filter λd=>match d with|.int k=>onI i k==1|_=>false).map id,s):=gu _ _ λd hd=>by
     obtain⟨j,M⟩:=qdP.mp hd;obtain⟨rfl,N⟩:=cH M;exact⟨_,U,aE (ae (ae U U (Ed _ (show _<=_ by lia))) U (i4 _ (by decide))) U (eO _ _ _),λ_=>rfl⟩
    have p:(((bh 0 n.toNat).filter λd=>match d with|.int k=>onI i k==1|_=>false).map id).length<=n.toNat:=by
     rw[qaf];refine qaM (qdQ _ _) ?_;rw[bb];exact qap _
    generalize (((bh 0 n.toNat).filter λd=>match d with|.int k=>onI i k==1|_=>false).map id)=L at A p
    have c:L.length<f.length:=by lia
    have E:(bh 0 n.toNat).length<=1000000:=by rw[bb];lia
    refine⟨_,U,.inl ⟨s,f[L.length],s,U,?_,U,by rw[qav,D];rfl,λu K=>?_⟩⟩
    ·exact ae U (aF (ab (ak (aI (dA U y (by lia) U) E A)) U) U) (bS (qai c))
    ·rcases qaG.mp K with z|z
     ·exact G u z
     ·rw[qal.mp z];exact C _ (qa2 c))
  rw[bb]at w;exact⟨a,by simpa using w,by simpa using F,e2⟩
 obtain⟨a,R,Q,e2⟩:=l;refine⟨a,s1,R,Q,J,B.mono (by lia),?_⟩;have t:(bh 0 (n+1).toNat).length<=1000000:=by rw[bb];lia
 have e:(bh 0 (2^n.toNat)).length<=1000000:=by rw[bb];lia
 rw[<-ct]at e2 e;have x:0<2^n.toNat:=qd3 (by decide);exact ax U (aY (aj (ak (aI (dA (ae U U U) (by lia) (by lia) U) t H))) (aA (ak (aI (dA (ae U U (c1 _)) (by lia) (by lia) U) e e2))))
theorem B3 (n:Nat):(cw n).map au≠[]:=λe=>by
 have q:=congrArg qe9 e;rw[qaf,sZ]at q;exact absurd q (qck (qd3 (by decide)))
theorem A0 {te:Ef}{st:Sto}{h:Nat}{env:Ev}{m:Nat}{n Zq:Int} (E:0<=n) (G:n<=5) (j:∀ s d,te (env.set 0 (Z d)) s=(cg [.h h,.d (.lst ((cw n.toNat).map au))] s).map λr=>(r.1,r.2)) (e:env.length≠0) (p:Hd st h Zq) (H:Zq+m<=1000000) :
  ∃ (ts:List (List Int)) (b:Sto),ts.length=m/\(∀ t∈ts,Trm 6 t)/\Stw h st b/\Hd b h (Zq+m)/\lcI (.nm 0) az te env (bh 0 m) st=some (ts.map au,b):=by
 obtain⟨F,f,e2,t2,c,ts,k,o,w⟩:=db (g:=.nm 0) (tt:=az) (te:=te) (env:=env) (ds:=bh 0 m)
  (λi q s=>Stw h st s/\Hd s h (Zq+i)/\∃ ts:List _,ts.length=i/\q=ts.map au/\∀ t ∈ ts,Trm 6 t) (ys0:=[]) ⟨Stw.refl p.lt,p.mono (by lia),[],U,U,λ_ h=>nomatch h⟩ (λi d q s hd ⟨p1,v,ts,y,A,C⟩=>by
   obtain⟨rfl,hi⟩:=cH hd;obtain⟨d2,f,m2,w2,D,e2⟩:=ya (ds:=(cw n.toNat).map au) v (by lia) (B3 _) (by rw[qaf];have:=B2 (n:=n) (by lia);lia);obtain⟨t,x,rfl⟩:=qay.mp m2;refine⟨env.set 0 _,by cases env with|nil=>exact absurd U e|cons a l=>rfl,.inl ⟨s,_,f,U,?_,p1.trans w2,D.mono (by lia),ts++[t],by rw[qav,y];rfl,by rw[A,qbs];rfl,λu B=>?_⟩⟩
   ·rw[j,e2];rfl
   ·rcases qaG.mp B with z|z
    ·exact C u z
    ·rw[qal.mp z];exact (zJ x).mono (by lia))
 rw[bb]at k c;rw[qbb]at o;exact⟨ts,f,k,w,t2,c,by rw[e2,o]⟩
def Ic:D->D
 |.int i=>.int (if decide (i > 0)=true then 1 else 0)
 |d=>d
theorem DV (o:Option (W×Sto)):o=o.map λr=>(r.1,r.2):=by cases o<;>rfl
theorem vn {st:Sto}{h:Nat}{n Zq:Int} (E:Hd st h Zq) (M:Zq+7<=1000000) (j:0<=n) (z:n<=5):∃ o c,o.length=2^n.toNat/\(∀ u∈o,V01 u)/\Stw h st c/\Hd c h (Zq+7)/\cE [.h h,.d (.int n)] st=some (.d (.lst o),c):=by
 obtain⟨ts,s1,tl,I,G,A,C⟩:=A0 (te:=fC) (env:=[none,some _,some _]) (m:=3) j z (λs d=>by
  rw[<-DV];show ai cg _ [some _,some (.h h),Z (.int n)] s=cg [.h h,.d _] s
  simp only[ai,(ab (a:=iV 1) (b:=aa (ai bx (aa (iV 2) ac)) ac) (env:=[some _,some _,some _]) U (ab (ag U (iw (st:=s) j z)) U)),qaa]) (by simp) E (by lia)
 obtain⟨q,c1,ct,J,L⟩:=yk j (by lia);have p:∃ F:D->D,(∀ d,∃ i,F d=.int i)/\lcI (.nm 0) az fB [none,Z (.lst (ts.map au))] (bh 0 q.toNat) s1=some ((bh 0 q.toNat).map F,s1):=by
  refine⟨λd=>match d with|.int r=>.int ((ts.map λt=>br false t r).sum)|_=>.int 0,λd=>by cases d<;>exact⟨_,U⟩,dC _ λd hd=>?_⟩
  obtain⟨i,hi⟩:=qdP.mp hd;obtain⟨rfl,K⟩:=cH hi;have k2:=by
   have:∀ l:List _,(∀ t∈l,Trm 6 t)->lcI (.nm 0) az cV [none,Z (.int i)] (l.map au) s1=some ((l.map λt=>br false t i).map D.int,s1):=by
    intro l
    induction l with
    |nil=>intro _;rfl
    |cons t l H=>
     intro y;have g:cV [Z (au t),Z (.int i)] s1=some (.d (.int (br false t i)),s1):=by
      exact ag U (yw (st:=s1) (b:=false) (row:=i) (Eh (y t qag) (qap 6)))
     rw[qas];unfold lcI;rw[show cv _ _ [none,some _]=some [some _,some _] from U,qaa,show az _ s1=some (true,s1) from U,qaa,g,qaa,H λu k=>y u (qak _ k)];rfl
   exact this ts I
  have B:(ts.map au).length<=1000000:=by rw[qaf];lia
  refine⟨_,U,?_⟩;exact aF (ab (ak (aI (aL U) B k2)) U) (Eg _ _)
 obtain⟨F,w,p⟩:=p;have f:(bh 0 q.toNat).length<=1000000:=by rw[bb];lia
 have v:((bh 0 q.toNat).map F).length<=1000000:=by rw[qaf];exact f
 refine⟨((bh 0 q.toNat).map F).map Ic,s1,by rw[qaf,qaf,bb,ct],?_,G,A.mono (by lia),?_⟩
 rotate_left 1
 ·have x:0<2^n.toNat:=qd3 (by decide)
  exact ax U (aY (aj (ak (aI (dA U (by decide) (by decide) U) (by decide) C))) (aY (aj (ak (aI (dA (ae U U (c1 _)) (by lia) (by lia) U) f p))) (aA (ak (aI (aL U) v (dC _ λd hd=>by
  obtain⟨e,_,rfl⟩:=qay.mp hd;obtain⟨i,hi⟩:=w e;rw[hi]
  exact⟨_,U,aF (ab (ae U U (gtW _ U)) U) U⟩))))))
 ·intro u k
  obtain⟨d,hd,rfl⟩:=qay.mp k;obtain⟨e,_,rfl⟩:=qay.mp hd;obtain⟨i,hi⟩:=w e;rw[hi];show V01 (.int _);split
  ·exact .inr U
  ·exact .inl U
theorem BF {st:Sto}{h:Nat}{n Zq:Int} (hh:Hd st h Zq) (hZ:Zq+200<=1000000) (B:0<=n) (n1:n<=5):∃ a j,a.length=2^n.toNat/\(∀ u∈a,dE u)/\Stw h st j/\Hd j h (Zq+200)/\de [.h h,.d (.int n)] st=some (.d (.tup a),j):=by
 obtain⟨q,c1,ct,H,c5⟩:=yk B (by lia);have G:(bh 0 q.toNat).length<=1000000:=by rw[bb];lia
 obtain⟨b,s1,y0,y1,M,x,L⟩:=bN hh (m:=4) (by lia) (by decide) (by decide)
 -- the values
 have step:∃ a c,a.length=2^n.toNat/\(∀ u∈a,V01 u)/\Stw h s1 c/\Hd c h (Zq+100)/\∀ o,(bA (aN dEq (iV 2) (iC (.int 0))) (aw (.nm 3) (ai cn (aa (iV 0) (aa (iV 1) ac)))) (bA (aN dEq (iV 2) (iC (.int 1))) (aw (.nm 3) (ai cE (aa (iV 0) (aa (iV 1) ac)))) (aw (.nm 3) (ap (iLc 1 [0] (bi (aa (iOp qG (iC (.int 1)) (iV 1)) ac)) (.nm 0) az cW))))) [some (.h h),Z (.int n),Z (.int b),o] s1=some (.nx [some (.h h),Z (.int n),Z (.int b),Z (.lst a)] c):=by
  by_cases t:b=0
  ·subst t
   obtain⟨a,c,k,e,w2,l,e2⟩:=tP x (by lia) B (by lia);exact⟨a,c,k,e,w2,l.mono (by lia),λo=>by simp only[iV,iC,iOp,aN,ac,aa,ai,ap,aw,bA,iLc,bi,cv,nk,eL,qG,dEq,gm,eqK,eqD,qaa,qaj,qaB,qaJ,qbc,qbC,qas,qbL,qa4,qa3,qbf,qbb,if_true,lg,e2,beq_self_eq_true]⟩
  ·have w:(b==(0:Int))=false:=by simp[t]
   by_cases O:b=1
   ·subst O
    obtain⟨a,c,k,e,w2,l,e2⟩:=vn x (by lia) B n1;exact⟨a,c,k,e,w2,l.mono (by lia),λo=>by simp only[iV,iC,iOp,aN,ac,aa,ai,ap,aw,bA,iLc,bi,cv,nk,eL,qG,dEq,gm,eqK,eqD,qaa,qaj,qaB,qaJ,qbc,qbC,qas,qbL,qa4,qa3,qbf,qbb,if_true,if_false,qa8,lg,e2,w,beq_self_eq_true]⟩
   ·have S:(b==(1:Int))=false:=by simp[O]
    obtain⟨a,c,k,e,w2,l,e2⟩:=zZ (te:=cW) (n:=h) (env:=[none,some (.h h)]) (m:=q.toNat) (st:=s1) (Zq:=Zq+1) (λs d=>by
     rw[<-DV]
     simp only[cW,iV,iC,ac,aa,ai,qaa,qaj,qaB,qaJ,qbc]) (by simp) x (by lia)
    exact⟨a,c,by rw[k,ct],e,w2,l.mono (by lia),λo=>by simp only[iV,iC,iOp,aN,ac,aa,ai,ap,aw,bA,iLc,bi,cv,nk,eL,dEq,gm,eqK,eqD,qaa,qaj,qaB,qaJ,qbc,qbC,qas,qbL,qa4,qa3,qbf,qbb,if_true,if_false,qa8,and_self,lg,w,S,c1,H,G,e2]⟩
 obtain⟨a,c,k,e,w2,l,e2⟩:=step;obtain⟨r,E,r0,T,K,F,e3⟩:=bN l (m:=4) (by lia) (by decide) (by decide);have p:=e2 none;by_cases t:r=0
 ·subst t
  obtain⟨vs,V,e4,W,h4,vl,N⟩:=db (g:=.nm 0) (tt:=az) (te:=eI) (env:=[none,some (.h h)]) (ds:=a)
   (λi J s=>Stw h E s/\Hd s h (Zq+101+i)/\J.length=i/\∀ u ∈ J,dE u) (st:=E) (ys0:=[]) ⟨Stw.refl F.lt,F.mono (by lia),U,λ_ h=>nomatch h⟩ (λi d J s hd ⟨p1,R,X,p4⟩=>by
    have hi:=(qat.mp hd).1;obtain⟨r,s5,r0,T,Y,Q,P⟩:=bN R (m:=3) (by lia) (by decide) (by decide);have hx:∃ v,atI [d,D.non] (if (r==(0:Int))=true then 1 else 0)=some v/\dE v:=by
     cases (r==(0:Int)) with
     |true=>exact⟨_,vj _ _ _,.inl U⟩
     |false=>exact⟨_,tj _ _,(e d (qby hd)).f⟩
    obtain⟨v,y,A⟩:=hx;refine⟨_,U,.inl ⟨s,v,s5,U,?_,p1.trans Y,Q.mono (by push_cast;lia),by rw[qav,X];rfl,λu C=>?_⟩⟩
    ·simp only[eI,iV,iC,iOp,ac,aa,iCB,ai,bD,ap,ma,dQ,dIx,dEq,gm,eqK,eqD,iE,qaa,qaj,qaB,qaJ,qbc,qar,qbt,qcC,if_true,qa0,lg,P,y,show (2:Nat)<=1000 by decide]
    ·rcases qaG.mp C with z|z
     ·exact p4 u z
     ·rw[qal.mp z];exact A)
  rw[qbb]at vl N;have I:a.length<=1000000:=by lia
  refine⟨vs,V,by lia,N,((M.trans w2).trans K).trans W,h4.mono (by lia),?_⟩;simp only[de,gJ,bj,ah,aw,ai,aa,ac,iV,iC,cv,qas,qbL,qar,qbt,qa4,qa3,qbf,qbb,qcC,qcp,qaa,qaj,qaB,qbc,qbC,if_true,L,p];simp only[iV,iC,aN,ac,aa,iCB,ai,ap,bn,aw,aM,bA,iLc,ar,cv,nk,eL,dQ,dEq,gm,eqK,eqD,dj,qaa,qaj,qaB,qaJ,qbc,qbC,qas,qbL,qa4,qa3,qbf,qbb,if_true,lg,e3,I,e4,beq_self_eq_true]
 ·have w:(r==(0:Int))=false:=by simp[t]
  refine⟨a,E,k,λu C=>(e u C).f,(M.trans w2).trans K,F.mono (by lia),?_⟩;simp only[de,gJ,bj,ah,aw,ai,aa,ac,iV,iC,cv,qas,qbL,qar,qbt,qa4,qa3,qbf,qbb,qcC,qcp,qaa,qaj,qaB,qbc,qbC,if_true,L,p];simp only[iV,iC,aN,ac,aa,iCB,ai,ap,bn,aw,aM,bA,iLc,ar,cv,nk,eL,dQ,dEq,gm,eqK,eqD,dj,qaa,qaj,qaB,qaJ,qbc,qbC,qas,qbL,qa4,qa3,qbf,qbb,if_false,qa8,lg,e3,w]
end Own
set_option maxHeartbeats 1000000
namespace Own
open PySem L2
open Sx (Pb Tb Good Named Fe LV ZV piv lexP leastR leaveL sumN unit colV basis)
theorem gQ:∀ n:Nat,(cT n).Nodup
 |0=>by simp[cT]
 |n+1=>by
  rw[cT,qcs];refine⟨gQ n,?_,?_⟩
  ·refine qiL _ (λa b c=>?_) (gQ n)
   intro e;exact c (List.append_cancel_right e)
  ·intro a d b hb e
   subst e;obtain⟨t,_,rfl⟩:=qay.mp hb
   have:=(dH n d).2 _ (qax _ (qal.mpr U))
   lia
theorem pL {fs:List D}{ts:List (List Int)}{n:Int} (h:0<=n) (f:n<=4) (fl:fs.length=2^n.toNat) (fv:∀ u∈fs,dE u) (a:ts.Sublist (aD (cT n.toNat))):Spl fs ts:=by
 have e:2^n.toNat<=16:=qaM (qaV (by decide) (by lia:n.toNat<=4)) (by decide);refine⟨by lia,fv,?_,λt d=>?_,((aB _).nodup_iff.mpr (gQ _)).sublist a⟩
 ·have:=a.length_le
  rw[(aB _).length_eq,dG]at this;lia
 ·have b:=dH _ ((aB _).mem_iff.mp (a.subset d))
  have g:=sJ b;exact⟨λk c=>by have:=b.2 k c;lia,by lia⟩
theorem qsl {f:Ef}{lo hi:Pf}{env:Ev}{c s1 b a:Sto}{x:W}{l u:Option Int}{d:D} (e:f env c=some (x,s1)) (h:lo env s1=some (l,b)) (g:hi env b=some (u,a)) (hd:dSl a x l u=some d):iSl f lo hi env c=some (.d d,a):=by
 simp only[iSl,e,h,g,qaa,hd,qaj]
theorem zT (ds:List D) (j:Nat):jI ds (some (j:Int)) none=ds.drop j:=by
 unfold jI;rw[HT.sIx_nat];by_cases h:j<=ds.length
 ·rw[qh6 h,qcZ (by rw[qeC];exact qap _)]
 ·rw[qhT (by lia),qgL (qap _),qgL (by lia),List.take_nil]
theorem zV (ds:List D) (j:Nat):jI ds none (some (j:Int))=ds.take j:=by
 unfold jI;rw[HT.sIx_nat,HT.sIx_none,qgl,qgS];by_cases h:j<=ds.length
 ·rw[qh6 h]
 ·rw[qhT (by lia),qcZ (qap _),qcZ (by lia)]
theorem G7 {a:Af}{env:Ev}{st s:Sto}{bs:List Bool} (h:a env st=some ([.d (.lst (bs.map D.bl))],s)):iCB vw a env st=some (.d (.bl (bs.all id)),s):=by
 refine aF h ?_;show (iA _).map _=_;rw[gL];rfl
theorem wg {f:Ef}{env:Ev}{st s:Sto}{k:Bool} (h:f env st=some (.d (.bl k),s)):dI d8 f env st=some (k,s):=by
 simp only[dI,h,qaa];rfl
theorem GJ {te:Ef}{l:Ev}{st:Sto}{a:List D} (F:D->D) (h:∀ d∈a,te (Z d::l) st=some (.d (F d),st)):lcI (.nm 0) az te (none::l) a st=some (a.map F,st):=by
 have:=oh (g:=id) F h
 rw[qe8]at this;exact this
section
variable {st:Sto}{h:Nat}{Zq:Int}
theorem vb (R:Hd st h Zq) (hZ:Zq+300<=1000000):∃ (n:Nat) (fs:List D) (g:Sto),n<=4/\fs.length=2^n/\(∀ u∈fs,dE u)/\(∃ u∈fs,u≠.non)/\Stw h st g/\Hd g h (Zq+300)/\du [.h h,.d (.int 2)] st=some (.d (.tup [.int (n:Int),.tup fs]),g):=by
 obtain⟨J,s1,a0,a1,A,F,M⟩:=bN R (m:=2+1) (by lia) (by decide) (by decide);obtain⟨p,B,b0,b1,w2,h2,e2⟩:=bN F (m:=8) (by lia) (by decide) (by decide);obtain⟨n,t,S⟩:∃ n:Nat,n<=4/\dIx B (.d (.lst [.int J,.int (2+1)])) (.d (.int (if (p==0)=true then 1 else 0)))=some (.int (n:Int)):=by
  cases (p==0) with
  |true=>exact⟨3,by lia,U⟩
  |false=>
   obtain⟨m,rfl⟩:=qbn a0;exact⟨m,by lia,U⟩
 have W:iE B [.d (.bl (p==0))]=some (.int (if (p==0)=true then 1 else 0)):=by cases (p==0)<;>rfl
 obtain⟨b,o,w,v,z,C,e3⟩:=BF (n:=(n:Int)) h2 (by lia) (by lia) (by lia);rw[qaE]at w;have O:2^n<=16:=qaM (qaV (by decide) t) (by decide);have p1:0<2^n:=qf9 n;have E:lcI (.nm 0) az cL [none] b o=some ((b.map fG).map D.bl,o):=by
  rw[qaC];exact GJ (D.bl ∘ fG) λd hd=>rfl
 have r:dI d8 (iCB vw (aa (ap (iLc 1 [] (ar (iV 3)) (.nm 0) az cL)) ac)) [some (.h h),Z (.int 2),Z (.int (n:Int)),Z (.tup b),none] o=some ((b.map fG).all id,o):=wg (G7 (ab (ak (aI (bv U) (by lia) E)) U));have l:aw (.nm 2) (iOp dIx (ap (bD (aa (ai aG (aa (iV 0) (aa (iOp bm (iV 1) (iC (.int 1))) ac))) (aa (iOp bm (iV 1) (iC (.int 1))) ac)))) (iCB iE (aa (iOp dEq (ai aG (aa (iV 0) (aa (iC (.int 8)) ac))) (iC (.int 0))) ac))) [some (.h h),Z (.int 2),none,none,none] st=some _:=
  aj (ae (ak (cG (ab (ag (ab U (ab (ae U U U) U)) M) (ab (ae U U U) U)) U (by show 2<=1000;decide))) (aF (ab (ae (ag (ab U (ab U U)) e2) U (eO _ _ _)) U) W) S)
 cases q:(b.map fG).all id with
 |false=>
  rw[q]at r;refine⟨n,b,o,t,w,v,?_,(A.trans w2).trans z,C.mono (by lia),?_⟩
  ·rw[List.all_eq_false]at q
   obtain⟨x,Q,T⟩:=q;obtain⟨u,c,rfl⟩:=qay.mp Q;exact⟨u,c,λe=>T (by rw[e];rfl)⟩
  ·exact ax (n:=5) (k:=2) U (ao l (ao (aj (ag (ab U (ab U U)) e3)) (ao (cO r U) (aA (bF (ab U (ab U U)) U (by show 2<=1000;decide))))))
 |true=>
  rw[q]at r;obtain⟨a,s4,N,c1,L,X,e4⟩:=bN C (m:=(b.length:Int)) (by lia) (by lia) (by lia);obtain⟨y,P,d0,d1,H,I,G⟩:=bN X (m:=2) (by lia) (by decide) (by decide);obtain⟨j,rfl⟩:=qbn N;have K:(b.take j++[D.int y]++b.drop (j+1)).length=b.length:=by simp;lia
  refine⟨n,b.take j++[.int y]++b.drop (j+1),P,t,by rw[K,w],λu c=>?_,⟨.int y,by simp,λe=>by cases e⟩,((((A.trans w2).trans z).trans L).trans H),I.mono (by lia),?_⟩
  ·rcases qaG.mp c with c|c
   ·rcases qaG.mp c with c|c
    ·exact v u (List.mem_of_mem_take c)
    ·rw[qal.mp c];exact ((BG d0 d1).f)
   ·exact v u (List.mem_of_mem_drop c)
  ·have t1:∀ s,dSl s (.d (.tup b)) none (some (j:Int))=some _:=λs=>by
    show some _=_;rw[zV]
   have t2:∀ s,dSl s (.d (.tup b)) (some ((j:Int)+1)) none=some _:=λs=>by
    show some _=_;rw[show ((j:Int)+1)=((j+1:Nat):Int) by lia,zT]
   have V:(b.take j).length+[D.int y].length<=1000000:=by rw[qdp];show _+1<=_;lia
   have Y:(b.take j++[D.int y]).length+(b.drop (j+1)).length<=1000000:=by rw[qav,qdp,qeC];show _+1+_<=_;lia
   have i:∀ s:Sto,aZ s [.d (.tup b)]=some _:=λs=>rfl;exact ax (n:=5) (k:=2) U (ao l (ao (aj (ag (ab U (ab U U)) e3)) (ao (f7 r (ao (aj (ag (ab U (ab (aF (ab U U) (i _)) U)) e4)) (aj (ae (ae (qsl U U U (t1 _)) (bF (ab (ag (ab U (ab U U)) G) U) U (by show 1<=1000;decide)) (m8 _ V)) (qsl U U U (t2 _)) (m8 _ Y))))) (aA (bF (ab U (ab U U)) U (by show 2<=1000;decide))))))
end
end Own
set_option maxHeartbeats 1000000
namespace Own
open PySem L2
open Sx (Pb Tb Good Named Fe LV ZV piv lexP leastR leaveL sumN unit colV basis)
theorem oY {st:Sto}{b:Bool}{ps:List Prt}{row:Int} (e:∀ p∈ps,yU p) (h:ps.length<=1000):eV [.d (aQ (aC b) ps),.d (.int row)] st=some (.d (.int (fq b ps row)),st):=by
 have a:lcI _ az gO [none,none,Z (aQ (aC b) ps),Z (.int row)] _ st=some (ps.map λp=>.int (p.2*br b p.1 row),st):=ky _ λp c=>by
  refine⟨_,U,?_⟩;unfold aQ;simp only[gO,iV,iC,iOp,ac,aa,ai,kN,dQ,dIx,bg,qaa,qaj,qaB,qaJ,qbc,qbC,if_true,tj,lg,qdY,(ve (st:=st) (b:=b) (row:=row) (Ab (e p c)) (by have:=sJ (e p c);lia)),(GQ b p.1 row p.2)]
 have g:aW (ps.map λp=>.int (p.2*br b p.1 row))=some (ps.map λp=>p.2*br b p.1 row):=by
  have:=bu (ps.map λp=>p.2*br b p.1 row)
  rw[qaC]at this;exact this
 have f:(ps.map ca).length<=1000000:=by rw[qaf];lia
 unfold fq;unfold aQ at a ⊢;simp only[eV,nj,iV,iC,iOp,ac,aa,iCB,ap,aM,iLc,ar,bj,eL,dQ,dIx,jt,qaa,qaj,qaB,qaJ,qas,qbL,qar,qbt,qa4,qa3,qbf,qbb,qcC,qcp,if_true,vj,qa0,lg,f,a,g]
end Own
set_option maxHeartbeats 1000000
namespace Own
open PySem L2
open Sx (Pb Tb Good Named Fe LV ZV piv lexP leastR leaveL sumN unit colV basis)
theorem sgq {d:D}:sgD d=1\/sgD d=-1:=by
 unfold sgD;split
 ·split
  ·exact .inl U
  ·exact .inr U
 ·exact .inl U
def ja (g:Int->Int):Nat->List D->Bool
 |_,[]=>true
 |i,.non::r=>ja g (i+1) r
 |i,d::r=>decide (g i*sgD d > 0)&&ja g (i+1) r
theorem lD (g:Int->Int) (fs:List D):∀ (r:List D) (i:Nat),(∀ u∈r,dE u)->fs.drop i=r->(((aX i r).map λj=>decide (g j*sgD (fs.getD j.toNat .non) > 0)).all id)=ja g i r
 |[],i,_,_=>rfl
 |d::r,i,b,h=>by
  have hd:=by
   have:=congrArg (λl=>l[0]?) h
   simpa using this
  have c:=by
   simpa  using (congrArg (qhY 1) h)
  have a:=lD g fs r _ (λu e=>b u (qak _ e)) c;rcases b d qag with rfl|rfl|rfl
  ·exact a
  ·show ((_::aX _ r).map _).all id=_
   rw[qas,qbD,a,qaE,qao,hd];rfl
  ·show ((_::aX _ r).map _).all id=_
   rw[qas,qbD,a,qaE,qao,hd];rfl
theorem BH {st:Sto}{fs:List D}{b:Bool}{ps:List Prt} (g:fs.length<=1000) (f:∀ u∈fs,dE u) (r:∀ p∈ps,yU p) (l:ps.length<=1000) :
  fL [.d (aQ (aC b) ps),.d (.tup fs)] st=some (.d (.bl (ja (fq b ps) 0 fs)),st):=by
 have a:lcI (.nm 0) az lc [none,Z (aQ (aC b) ps),Z (.tup fs)] _ st =
   some (((aX 0 fs).map D.int).map λd=>match d with|.int j=>.bl (decide (fq b ps j*sgD (fs.getD j.toNat .non) > 0))|d=>d,st):=dC _ λd hd=>by
  obtain⟨j,k,rfl⟩:=qay.mp hd;obtain⟨m,rfl,e,n⟩:=gG fs 0 k;rw[qa0];have c:=qai e;have t:fs.getD m .non=fs[m]:=by rw[qao,c];rfl
  have o:∀ q,qbJ q (sgD fs[m]):=λq=>hW (by rcases sgq with h|h<;>(rw[h];decide));refine⟨_,U,?_⟩;show _=some (W.d (D.bl _),st);rw[qaE,t];simp only[lc,iV,iC,iOp,ac,aa,ai,bg,dGt,qaa,qaj,qaB,qaJ,qbc,if_true,qdY,(sA (st:=st) c (f _ (qa2 e)) (λq=>n (by rw[c,q]))),(oY (st:=st) (b:=b) (row:=(m)) r l),o]
 have s:(((aX 0 fs).map D.int).map λd=>match d with|.int j=>.bl (decide (fq b ps j*sgD (fs.getD j.toNat .non) > 0))|d=>d)=((aX 0 fs).map λj=>decide (fq b ps j*sgD (fs.getD j.toNat .non) > 0)).map D.bl:=by rw[qaC,qaC];rfl
 rw[s]at a;have i:((aX 0 fs).map D.int).length<=1000000:=by rw[qaf];have:=jp fs 0;lia
 have e2:=mY (st:=st) g;simp only[fL,wP,iV,ac,aa,iCB,ai,ap,aM,iLc,ar,bj,eL,vw,qaa,qaj,qaB,qaJ,qas,qbL,qar,qbt,qa4,qa3,qbf,qbb,qcC,qcp,if_true,qa0,e2,a,i,(gL _),(lD (fq b ps) fs fs 0 f U)]
end Own
set_option maxHeartbeats 1000000
namespace Own
open PySem L2
open Sx (Pb Tb Good Named Fe LV ZV piv lexP leastR leaveL sumN unit colV basis)
theorem uB {st:Sto}{fs:List D}{b:Bool}{ps:List Prt}{c z:Int} (x:fs.length<=64) (r:∀ u∈fs,dE u) (t:∀ p∈ps,yU p) (y:ps.length<=64) (g:lW ((aX 0 fs).map λj=>sgD (fs.getD j.toNat .non)*fq b ps j) none=some c) (e:(ps.map λp=>l5 p.2).sum=z) (n:1<=z) (sm:Sm c) (sz:Sm z) :
  cR [.d (.tup fs),.d (aQ (aC b) ps)] st=some (.d (.tup [.int (c / ((qaW c.natAbs z.natAbs:Nat):Int)),.int (z / ((qaW c.natAbs z.natAbs:Nat):Int))]),st):=by
 have a:lcI (.nm 0) az fV [none,Z (.tup fs),Z (aQ (aC b) ps)] _ st =
   some (((aX 0 fs).map D.int).map λd=>match d with|.int j=>.int (sgD (fs.getD j.toNat .non)*fq b ps j)|d=>d,st):=dC _ λd hd=>by
  obtain⟨j,l,rfl⟩:=qay.mp hd;obtain⟨m,rfl,i,o⟩:=gG fs 0 l;rw[qa0];have f:=qai i;have w:fs.getD m .non=fs[m]:=by rw[qao,f];rfl
  have s:∀ q,qbJ (sgD fs[m]) q:=λq=>d5 (by rcases sgq with h|h<;>(rw[h];decide));refine⟨_,U,?_⟩;show _=some (W.d (D.int _),st);rw[qaE,w];simp only[fV,iV,iOp,ac,aa,ai,bg,qaa,qaj,qaB,qaJ,qbc,if_true,qdY,(sA (st:=st) f (r _ (qa2 i)) (λq=>o (by rw[f,q]))),(oY (st:=st) (b:=b) (row:=(m)) t (by lia)),s]
 have v:(((aX 0 fs).map D.int).map λd=>match d with|.int j=>.int (sgD (fs.getD j.toNat .non)*fq b ps j)|d=>d)=((aX 0 fs).map λj=>sgD (fs.getD j.toNat .non)*fq b ps j).map D.int:=by rw[qaC,qaC];rfl
 rw[v]at a;have k:((aX 0 fs).map D.int).length<=1000000:=by rw[qaf];have:=jp fs 0;lia
 have e3:=ym (st:=st) (kd:=aC b) (ps:=ps) (by lia);have e4:=xH n sm sz st;rw[e]at e3;simp only[cR,lG,dMi,iV,ac,aa,iCB,ai,bz,ap,aM,iLc,ar,bj,ma,eL,lsD,lsI,qaa,qaj,qaB,qaJ,qas,qbL,qar,qbt,qa4,qa3,qbf,qbb,qcC,qcp,if_true,qa0,lg,(mY (st:=st) (fs:=fs) (by lia)),a,k,(bu _),g,e3,e4,show (2)<=1000 by decide]
end Own
set_option maxHeartbeats 1000000
namespace Own
open PySem L2
open Sx (Pb Tb Good Named Fe LV ZV piv lexP leastR leaveL sumN unit colV basis)
def jv (ts:List (List Int)) (Y:List Int->Int) (ps:List Prt):Prop:=ps=aU ts Y\/ps=aU (aD ts) Y
theorem zh (X g:List Int->Int) (ts:List (List Int)):((aU ts X).map λp=>p.2*g p.1).sum=sumN ts.length λt=>X (ts.getD t [])*g (ts.getD t []):=by
 rw[rG,fN [] _ ts,oQ]
theorem v7 (X:List Int->Int):∀ a:List (List Int),((aU a X).map λp=>l5 p.2).sum=(a.map λt=>((X t).natAbs:Int)).sum
 |[]=>rfl
 |t::a=>by
  have b:=v7 X a;unfold aU at b ⊢;rw[qdq,qas];by_cases h:X t=0
  ·rw[iFN (by simp[h]),b,h];exact (qcD _).symm
  ·rw[iFP (by simp[h]),qas,qas,qbB]
   congr 1
   unfold l5;split<;>lia
section
variable {fs:List D}{b:Bool}{ts:List (List Int)}{m p:Int}{X Y:List Int->Int}{w:Nat->Int}{ps:List Prt}
theorem AF (d:jv ts Y ps) (r:Nat):fq b ps (r:Nat)=vlV b ts Y r:=by
 rcases d with rfl|rfl
 ·exact zh Y (λt=>br b t _) ts
 ·exact AH Y (λt=>br b t _) ts
theorem xQ (d:jv ts Y ps):(ps.map λp=>l5 p.2).sum=szV ts Y:=by
 unfold szV;rcases d with rfl|rfl
 ·rw[v7,fN [] _ ts,oQ]
 ·rw[v7,uP ((aB ts).map λt=>_),fN [] _ ts,oQ]
theorem AE (d:jv ts Y ps) {q:Prt} (v:q∈ps):q.1∈ts:=by
 have g:∀ l ,q∈aU l Y->q.1∈l:=λl h=>by
  obtain⟨t,A,rfl⟩:=qay.mp h;exact (qbK.mp A).1
 rcases d with rfl|rfl
 ·exact g _ v
 ·exact (aB _).mem_iff.mp (g _ v)
theorem rF (d:jv ts Y ps):ps.length<=ts.length:=by
 have g:∀ l ,(aU l Y).length<=l.length:=λl=>by
  unfold aU;rw[qaf];exact qdQ _ _
 rcases d with rfl|rfl
 ·exact g _
 ·have:=g (aD ts)
  rwa [(aB _).length_eq]at this
theorem uE:∀ (ns:List Int) (m:Int),kG ns m=m\/kG ns m∈ns
 |[],m=>.inl U
 |n::ns,m=>by
  rw[kG];rcases uE ns _ with h|h
  ·rw[h]
   split
   ·exact .inr qag
   ·exact .inl U
  ·exact .inr (qak _ h)
theorem xL:∀ (ns:List Int) (m:Int),kG ns m<=m/\∀ n∈ns,kG ns m<=n
 |[],m=>⟨qdv _,λ_ h=>by cases h⟩
 |n::ns,m=>by
  have z:=xL ns (if n<m then n else m);rw[kG];refine⟨qeh z.1 ?_,λk s=>?_⟩
  ·split<;>lia
  ·rcases qaA.mp s with rfl|s
   ·split<;>lia
   ·exact z.2 k s
theorem E2 {L:List Int}{x:Int} (h:x∈L):∃ f,lW L none=some f/\f∈L/\∀ y∈L,f<=y:=by
 cases L with
 |nil=>cases h
 |cons n r=>
  obtain⟨a,c⟩:=xL r n;refine⟨_,U,?_,λy u=>?_⟩
  ·rcases uE r n with e|e
   ·rw[e];exact qag
   ·exact qak _ e
  ·rcases qaA.mp u with rfl|u
   ·exact a
   ·exact c y u
theorem yt (h:Spl fs ts) {j:Int} (o:j∈aX 0 fs):∃ i,i<nR fs/\j=(rN fs i:Int):=by
 obtain⟨i,hi,e⟩:=qbQ.mp o;have B:ju fs i=j:=by
  unfold ju;rw[qao,qai hi];exact e
 exact⟨i,hi,by rw[<-B];exact (gC h hi).1⟩
theorem mX (h:Spl fs ts) (d:jv ts Y ps) {i:Nat} (hi:i<nR fs):sgD (fs.getD ((rN fs i:Nat):Int).toNat .non)*fq b ps (rN fs i:Nat)=rvW fs b ts Y i:=by
 rw[qaE,AF d,yi h hi]
theorem vZ (h:Spl fs ts) (hN:0<nR fs) (d:jv ts Y ps):∃ f,lW ((aX 0 fs).map λj=>sgD (fs.getD j.toNat .non)*fq b ps j) none=some f/\(∀ i,i<nR fs->f<=rvW fs b ts Y i)/\∃ i,i<nR fs/\rvW fs b ts Y i=f:=by
 have mem:∀ i,i<nR fs->rvW fs b ts Y i∈(aX 0 fs).map λj=>sgD (fs.getD j.toNat .non)*fq b ps j:=λi hi=>
  qay.mpr ⟨_,sv hi,by rw[(gC h hi).1];exact mX h d hi⟩
 obtain⟨f,C,e2,e3⟩:=E2 (mem 0 hN);refine⟨f,C,λi hi=>e3 _ (mem i hi),?_⟩;obtain⟨j,o,e⟩:=qay.mp e2;obtain⟨i,hi,rfl⟩:=yt h o;exact⟨i,hi,by rw[<-e];exact (mX h d hi).symm⟩
theorem oR (h:Spl fs ts) (d:jv ts Y ps):ja (fq b ps) 0 fs=true↔∀ i,i<nR fs->0<rvW fs b ts Y i:=by
 rw[<-lD _ fs fs 0 h.fv U,qfD,qa6];constructor
 ·intro q i hi
  have:=q _ (sv hi)
  rw[(gC h hi).1]at this
  have:=of_decide_eq_true (this)
  rw[<-mX h d hi,qa9];exact this
 ·intro q j o
  obtain⟨i,hi,rfl⟩:=yt h o;refine decide_eq_true ?_;rw[qa9,mX h d hi];exact q i hi
end
theorem kA {a c:Int} (c1:1<=c):∃ g:Int,0<g/\((qaW a.natAbs c.natAbs:Nat):Int)=g/\a=g*(a / g)/\c=g*(c / g):=by
 have b:(0)<((qaW a.natAbs c.natAbs):Int):=by
  have:=qeq a.natAbs (show 0<c.natAbs by lia)
  lia
 exact⟨_,b,U,(qco (qb0.mpr (qdW _ _))).symm,(qco (qb0.mpr (qer _ _))).symm⟩
theorem CH {n z m p:Int} (e:1<=z) (p1:1<=p) (h:n*p<=m*z):n / ((qaW n.natAbs z.natAbs:Nat):Int)*(p / ((qaW m.natAbs p.natAbs:Nat):Int))<=m / ((qaW m.natAbs p.natAbs:Nat):Int)*(z / ((qaW n.natAbs z.natAbs:Nat):Int)):=by
 obtain⟨g,b,l,i,e2⟩:=kA e;obtain⟨k,o,j,e3,e4⟩:=kA p1;rw[l,j];generalize n / g=a at *;generalize z / g=c at *;generalize m / k=d at *;generalize p / k=f at *;subst i e2 e3 e4;refine qdr ?_ (qgb b o);lia
theorem CG {z m p:Int} (p1:1<=p) (h:p<=m*z):p / ((qaW m.natAbs p.natAbs:Nat):Int)<=m / ((qaW m.natAbs p.natAbs:Nat):Int)*z:=by
 obtain⟨k,b,a,e3,e4⟩:=kA p1;rw[a];generalize m / k=d at *;generalize p / k=f at *;subst e3 e4;refine qdr ?_ b;lia
theorem sC {x g:Int} (a:0<g) (e:x=g*(x / g)) (h:Sm x):Sm (x / g):=uZ a e h
end Own
set_option maxHeartbeats 1000000
namespace Own
open PySem L2
open Sx (Pb Tb Good Named Fe LV ZV piv lexP leastR leaveL sumN unit colV basis)
theorem GT (s:Sto) (a b:Int):dNe s (.d (.int a)) (.d (.int b))=some (.bl (!(a==b))):=by
 rfl
theorem BW {n:Nat}{all:List D}{st:Sto} (h:lg st n=some all):∀ (ts:List (List Int)) (ns:List Int),lcH n all (.tp [0,1]) cb bX [none,none] (fu (ts.map au) (ns.map D.int)) st=some (((ts.zip ns).filter λp=>decide (p.2≠0)).map ca,st)
 |[],_=>by
  show lcH n all _ _ _ _ [] st=_;rw[lcH,iFP h];rfl
 |t::ts,[]=>by
  show lcH n all _ _ _ _ [] st=_;rw[lcH,iFP h];rfl
 |t::ts,x::ns=>by
  have a:=BW h ts ns;have tt:cb [Z (au t),some _] st=some (!(x==0),st):=aE U U (GT _ _ _);show lcH n all _ _ _ _ (.tup [au t,.int x]::fu _ _) st=_;rw[lcH,iFP h,show cv _ _ [none,none]=some [some _,some _] from U,qaa,tt,qaa,qea,qdq];by_cases e:x=0
  ·subst e
   rw[iFN (by simp),a,iFN (by simp)]
  ·have b:(!(x==0))=true:=by simp[e]
   rw[iFP b,iFP (decide_eq_true e)]
   have:bX [Z (au t),Z (.int x)] st=some (.d _,st):=bF (ab U (ab U U)) U (by show 2<=1000;decide)
   rw[this,qaa,a];rfl
theorem DO {ts:List (List Int)}{ns:List Int} (a:ts.Nodup) (c:ns.length=ts.length):((ts.zip ns).filter λp=>decide (p.2≠0))=aU ts λt=>ns.getD (ts.idxOf t) 0:=by
 have:ts.zip ns=ts.map λt=>(t,ns.getD (ts.idxOf t) 0):=by
  refine qhP (by rw[qhW,qaf];lia) λi d b=>?_;have hi:=by rwa [qaf]at b
  rw[List.getElem_zip,qcz,a.idxOf_getElem i hi,qao,qai _];rfl
 rw[this,qf0];rfl
theorem GU {ts:List (List Int)}{ns:List Int} (a:ts.Nodup) {k:Nat} (b:k<ts.length):ns.getD (ts.idxOf ts[k]) 0=ns.getD k 0:=by rw[a.idxOf_getElem k b]
section
variable {st:Sto}{h:Nat}{Zq:Int}{ts:List (List Int)}{kd:Str}
theorem ox (y:ts.Nodup) (h0:0<ts.length) (h1:ts.length<=16) (I:Hd st h Zq) (hZ:Zq+100<=1000000):∃ (Y:List Int->Int) (j:Sto),(∀ t,(Y t).natAbs<=3)/\(∃ t∈ts,Y t≠0)/\Stw h st j/\Hd j h (Zq+20)/\cF [.h h,.d (.str kd),.d (tsD ts)] st=some (.d (aQ kd (aU ts Y)),j):=by
 obtain⟨G,s1,e1,J,d1,ns,rfl,H,hb⟩:=db (g:=.nm 0) (tt:=az) (te:=bY) (env:=[none,some (.h h)]) (ds:=ts.map au) (λi G s=>Stw h st s/\Hd s h (Zq+i)/\∃ ns:List Int,G=ns.map D.int/\ns.length=i/\∀ n ∈ ns,n.natAbs<=3) (st:=st) (ys0:=[]) ⟨Stw.refl I.lt,I.mono (by lia),[],U,U,λ_ h=>nomatch h⟩ (λi d G s hd ⟨p1,R,ns,p3,p4,p5⟩=>by
  obtain⟨hi,ed⟩:=qat.mp hd;rw[qaf]at hi;obtain⟨r,s5,M,V,t5,Q,O⟩:=bN R (m:=7) (by lia) (by decide) (by decide);refine⟨_,U,.inl ⟨_,.int (r - 3),s5,U,ae (ag (ab U (ab U U)) O) U U,p1.trans t5,Q.mono (by push_cast;lia),ns++[r - 3],by rw[p3,qbs];rfl,by rw[qav,p4];rfl,λn y=>?_⟩⟩;rcases qaG.mp y with q|q
  ·exact p5 n q
  ·rw[qal.mp q];lia)
 rw[qaf]at H d1;obtain⟨r,sx,M,V,t2,d2,e2⟩:=bN (d1.app [.l (ns.map D.int)]) (m:=(ts.length:Int)) (by lia) (by lia) (by lia);obtain⟨a,rfl,L⟩:=Stw.unapp d1.lt t2;obtain⟨k,rfl⟩:=qbn M;have K:k<ts.length:=by lia
 have c:k<ns.length:=by lia
 have W:h<s1.length:=d1.lt;have p:=L.len;have h2:Hd a h (Zq+20):=(Hd.unapp (by lia) d2).mono (by lia);obtain⟨v,X,F,B⟩:∃ v:Int,y4 (iOp dIx (iV 3) (iV 4)) (iC (.int 1)) [some (.h h),Z (.str kd),Z (tsD ts),some (.h s1.length),Z (.int (k:Int))] (a++[.l (ns.map D.int)])=some (.d (.int v),a++[.l (ns.map D.int)])/\v.natAbs<=3/\v≠0:=by
  have e:iOp dIx (iV 3) (iV 4) [some (.h h),Z (.str kd),Z (tsD ts),some (.h s1.length),Z (.int (k:Int))] (a++[.l (ns.map D.int)])=some (.d (.int ns[k]),a++[.l (ns.map D.int)]):=by
   refine ae U U ?_;show (lg (a++[.l (ns.map D.int)]) s1.length).bind (λds=>atI ds (k:Int))=_;rw[<-p,dq,qaa];exact bS (by rw[qaF,qai c];rfl)
  by_cases q:ns[k]=0
  ·refine⟨1,?_,by decide,by decide⟩
   simp only[y4,e,qaa];rw[iFP q];rfl
  ·refine⟨ns[k],?_,hb _ (qa2 c),q⟩
   simp only[y4,e,qaa];rw[iFN q]
 have w:dS (a++[.l (ns.map D.int)]) (.h s1.length) (.d (.int (k:Int))) (.d (.int v))=some (a++[.l ((ns.set k v).map D.int)]):=by
  rw[<-p];simp only[dS,dq,qaa,qaf,fH c,qaj,i8];rw[List.map_set]
 have f:=BW (n:=s1.length) (all:=(ns.set k v).map D.int) (st:=a++[.l ((ns.set k v).map D.int)]) (by rw[<-p];exact dq _ _) ts (ns.set k v);rw[DO y (by rw[qb2];exact H)]at f;have E:lg (a++[.l ((ns.set k v).map D.int)]) s1.length=some ((ns.set k v).map D.int):=by rw[<-p];exact dq _ _
 have z:(fu (ts.map au) ((ns.set k v).map D.int)).length<=1000000:=by rw[kS,qaf];lia
 refine⟨λt=>(ns.set k v).getD (ts.idxOf t) 0,a,λt=>?_,⟨ts[k],qa2 K,?_⟩,J.trans L,h2,?_⟩
 ·show ((ns.set k v).getD (ts.idxOf t) 0).natAbs<=3
  rw[qao];cases q:(ns.set k v)[ts.idxOf t]? with
  |none=>decide
  |some x=>
   rcases List.mem_or_eq_of_mem_set (qby q) with N|rfl
   ·exact hb x N
   ·exact F
 ·show (ns.set k v).getD (ts.idxOf ts[k]) 0≠0
  rw[GU y K,qao,qbd c];exact B
 ·have A:ar (iV 2) [some (.h h),Z (.str kd),Z (tsD ts),none,none] st=some (ts.map au,st):=bv U
  have u:cx (iLc 1 [0] (ar (iV 2)) (.nm 0) az bY) [some (.h h),Z (.str kd),Z (tsD ts),none,none] st=some (.h s1.length,s1++[.l (ns.map D.int)]):=by
   have:=aI (k:=1) (js:=[0]) (g:=.nm 0) (tt:=az) (te:=bY) A (by rw[qaf];lia) e1
   simp only[cx,this,qaj]
  have o:∀ s:Sto,aZ s [.d (tsD ts)]=some (.int (ts.length:Int)):=λs=>by
   show some (D.int (((ts.map au).length:Nat):Int))=_;rw[qaf]
  have S:yY 2 [] (aa (iV 2) (aa (iV 3) ac)) (.tp [0,1]) cb bX [some (.h h),Z (.str kd),Z (tsD ts),some (.h s1.length),Z (.int (k:Int))] (a++[.l ((ns.set k v).map D.int)])=some ((aU ts λt=>(ns.set k v).getD (ts.idxOf t) 0).map ca,a++[.l ((ns.set k v).map D.int)]):=by
   have q:aa (iV 2) (aa (iV 3) ac) [some (.h h),Z (.str kd),Z (tsD ts),some (.h s1.length),Z (.int (k:Int))] (a++[.l ((ns.set k v).map D.int)])=some ([.d (tsD ts),.h s1.length],a++[.l ((ns.set k v).map D.int)]):=rfl;simp only[yY,q,qaa,show zx (.d (tsD ts))=some (true,ts.map au) from U,E];rw[iFP z];exact f
  unfold aQ;generalize tsD ts=T at *;generalize ((aU ts λt=>(ns.set k v).getD (ts.idxOf t) 0).map ca)=P at *;generalize (ns.set k v).map D.int=N2 at *;generalize ns.map D.int=N1 at *;have q:=gB (n:=5) (k:=3) (b:=ik) (ws:=[.h h,.d (.str kd),.d T]) (st:=st) U (ao (aj u) (ao (aj (ag (ab U (ab (aF (ab U U) (o _)) U)) e2)) (ao (lC X U U w) (aA (bF (ds:=[.str kd,.tup P]) (ab U (ab (aF (ab (ak S) U) U) U)) U (by show 2<=1000;decide))))));rw[show (a++[C.l N2]).take st.length=a from by rw[<-J.len,<-p];exact qcq]at q;exact q
end
end Own
set_option maxHeartbeats 1000000
namespace Own
open PySem L2
open Sx (Pb Tb Good Named Fe LV ZV piv lexP leastR leaveL sumN unit colV basis)
theorem Ea {g:Tg}{f:Ef}{env e:Ev}{st s:Sto}{x:W} (h:f env st=some (x,s)) (a:cv g x env=some e):aw g f env st=some (.nx e s):=by
 simp only[aw,h,qaa,a,qaj]
theorem Bk {f:Tf}{env:Ev}{st s:Sto}{k:Bool} (h:f env st=some (k,s)):lN f env st=some (!k,s):=by
 simp only[lN,h,qaj]
theorem Bl {a b:Tf}{env:Ev}{st s s':Sto}{k:Bool} (c:a env st=some (false,s)) (hb:b env s=some (k,s')):li a b env st=some (k,s'):=by
 simp only[li,c,hb,qaa,qa8,if_false]
theorem Bi {a b:Tf}{env:Ev}{st s:Sto} (c:a env st=some (false,s)):jC a b env st=some (false,s):=by
 simp only[jC,c,qaa,qa8,if_false]
theorem Bj {a b:Tf}{env:Ev}{st s:Sto}{r:Option (Bool×Sto)} (c:a env st=some (true,s)) (hb:b env s=r):jC a b env st=r:=by
 simp only[jC,c,qaa,if_true,hb]
theorem G8 {a b:Ef}{env:Ev}{st s s':Sto}{x:W} (c:a env st=some (.d (.bl true),s)) (hb:b env s=some (x,s')):uc a b env st=some (x,s'):=by
 simp only[uc,c,hb,qaa,blW,if_true]
theorem CF (s:Sto) (a c:Int):dNe s (.d (.tup [.int a,.int c])) (.d (.tup [.int a,.int c]))=some (.bl false):=by
 show ((if (false||false)=true then some (false&&false) else if [D.int a,.int c].all (okD 60)=true/\[D.int a,.int c].all (okD 60)=true then some _ else none)).map _=_;have b:iq [D.int a,.int c] [D.int a,.int c]=true:=by
  show ((a==a)&&((c==c)&&true))=true;rw[beq_self_eq_true,beq_self_eq_true];rfl
 rw[b];rfl
theorem Ee {x:Int} (h:x.natAbs<=1000):Sm x:=qbF h (qaP (by decide:1000<2^10) (qaV (by decide) (by decide)))
theorem v5 {st:Sto}{a c d f:Int} (sa:Sm a) (b:Sm c) (e:Sm d) (g:Sm f) (h:a*f<=d*c):dN [.d (.tup [.int a,.int c]),.d (.tup [.int d,.int f])] st=some (.d (.bl true),st):=
 ax U (aA (ae (ae (ae U U U) (ae U U U) (dM st (sa.mulOk g))) (ae (ae U U U) (ae U U U) (dM st (e.mulOk b))) (by
  show some _=_
  rw[decide_eq_true h])))
section
variable {fs:List D}{b:Bool}{ts:List (List Int)}{m p:Int}{X:List Int->Int}{w:Nat->Int}{st:Sto}
def Okp (fs:List D) (b:Bool) (ts:List (List Int)) (y:D):Prop:=∃ (Y:List Int->Int) (ps:List Prt) (a z:Int),y=aQ (aC b) ps/\jv ts Y ps/\szV ts Y=z/\1<=z/\Sm z/\lW ((aX 0 fs).map λj=>sgD (fs.getD j.toNat .non)*fq b ps j) none=some a/\(∀ i,i<nR fs->a<=rvW fs b ts Y i)/\(∃ i,i<nR fs/\rvW fs b ts Y i=a)/\Sm a
theorem pY (h:Spl fs ts) (hN:0<nR fs) {Y:List Int->Int} (O:∀ t,(Y t).natAbs<=3) (V:∃ t∈ts,Y t≠0):Okp fs b ts (aQ (aC b) (aU ts Y)):=by
 obtain⟨a,A,e2,i,hi,e3⟩:=vZ (b:=b) (Y:=Y) h hN (.inl U);have hl:=h.tl;have a1:(szV ts Y).natAbs<=ts.length*3:=Sx.sumN_abs λk _=>by exact O _
 have a2:(rvW fs b ts Y i).natAbs<=ts.length*3:=Sx.sumN_abs λk _=>by
  rw[qct]
  have:=By (fs:=fs) (b:=b) (ts:=ts) i k
  exact qaM (qcY (O _) this) (by decide)
 have a3:1<=szV ts Y:=by
  obtain⟨t,r,hne⟩:=V;obtain⟨j,x,e⟩:=qbQ.mp r;unfold szV;rw[Sx.sumN_split x];have g:ts.getD j []=t:=by rw[qao,qai x];exact e
  have:=Sx.sumN_nonneg (n:=ts.length) (f:=λk=>if k=j then 0 else ((Y (ts.getD k [])).natAbs)) λk _=>by split<;>lia
  lia
 refine⟨Y,_,a,_,U,.inl U,U,a3,Ee (by lia),A,e2,⟨i,hi,e3⟩,?_⟩;exact Ee (by lia)
theorem zj (h:Spl fs ts) (hN:0<nR fs) (R:fR fs b ts m p X w) (T:m≠0):Okp fs b ts (aQ (aC b) (aU (aD ts) X))/\(∀ i,i<nR fs->0<rvW fs b ts X i)/\∃ a z,lW ((aX 0 fs).map λj=>sgD (fs.getD j.toNat .non)*fq b (aU (aD ts) X) j) none=some a/\szV ts X=z/\1<=z/\Sm z/\Sm a/\a / ((qaW a.natAbs z.natAbs:Nat):Int)=m / ((qaW m.natAbs p.natAbs:Nat):Int)/\z / ((qaW a.natAbs z.natAbs:Nat):Int)=p / ((qaW m.natAbs p.natAbs:Nat):Int):=by
 obtain⟨q,l,s,N,l0,s0,em,ep,L,⟨i,hi,he⟩,hs,_⟩:=R.po T;obtain⟨a,A,e2,j,x,e3⟩:=vZ (b:=b) (Y:=X) h hN (.inr U);have el:a=l:=by
  have:=e2 i hi
  have:=L j x
  lia
 subst el;have es:=hs;have J:=uZ N em R.sm.1;have K:=uZ N ep R.sm.2;obtain⟨x1,x2⟩:=uy (m:=a) (p:=s) (by lia) (by lia) R.m0 R.p1 (by grind);exact⟨⟨X,_,a,s,U,.inr U,es,by lia,K,A,e2,⟨j,x,e3⟩,J⟩,λi hi=>by have:=L i hi;lia,a,s,A,es,by lia,K,J,x1,x2⟩
theorem uA (h:Spl fs ts) (r:∀ t∈ts,Trm 6 t) {Y:List Int->Int}{ps:List Prt}{a z:Int} (c:jv ts Y ps) (u:szV ts Y=z) (v:1<=z) (sz:Sm z) (e:lW ((aX 0 fs).map λj=>sgD (fs.getD j.toNat .non)*fq b ps j) none=some a) (sm:Sm a) :
  cR [.d (.tup fs),.d (aQ (aC b) ps)] st=some (.d (.tup [.int (a / ((qaW a.natAbs z.natAbs:Nat):Int)),.int (z / ((qaW a.natAbs z.natAbs:Nat):Int))]),st):=
 uB (by have:=h.fl;lia) h.fv (λq C=>r _ (AE c C)) (by have:=rF c;have:=h.tl;lia) e ((xQ c).trans u) v sm sz
theorem sI (h:Spl fs ts) (r:∀ t∈ts,Trm 6 t) {Y:List Int->Int}{ps:List Prt} (c:jv ts Y ps):fL [.d (aQ (aC b) ps),.d (.tup fs)] st=some (.d (.bl (ja (fq b ps) 0 fs)),st):=
 BH (by have:=h.fl;lia) h.fv (λq C=>r _ (AE c C)) (by have:=rF c;have:=h.tl;lia)
theorem Ax (h:Spl fs ts) (hN:0<nR fs) (r:∀ t∈ts,Trm 6 t) (R:fR fs b ts m p X w) {y:D} (oy:Okp fs b ts y) {e0 e2 e3 e4 e6 e7:Option W} :
  gq [e0,Z (.tup fs),e2,e3,e4,Z (.tup [.int (m / ((qaW m.natAbs p.natAbs:Nat):Int)),.int (p / ((qaW m.natAbs p.natAbs:Nat):Int))]),e6,e7,Z y] st=some (.nx [e0,Z (.tup fs),e2,e3,e4,Z (.tup [.int (m / ((qaW m.natAbs p.natAbs:Nat):Int)),.int (p / ((qaW m.natAbs p.natAbs:Nat):Int))]),e6,e7,Z y] st):=by
 obtain⟨Y,ps,a,z,rfl,c,u,v,sz,E,F,⟨i0,hi0,hat⟩,sm⟩:=oy;have hw:=sP h R Y F;rw[u]at hw;have M:=uA (st:=st) h r c u v sz E sm;have B:=sI (st:=st) (b:=b) h r c;have I:=ym (st:=st) (kd:=aC b) (ps:=ps) (by have:=rF c;have:=h.tl;lia);rw[xQ c,u]at I;have p1:=R.p1;obtain⟨g,Q,eg,c1,c2⟩:=kA v;obtain⟨k,S,ek,c3,c4⟩:=kA p1;have G:=CH v p1 hw;rw[eg]at M G;rw[ek]at G ⊢;have sc:=sC Q c2 sz;have H:=sC S c3 R.sm.1;have sf:=sC S c4 R.sm.2;have lt:ja (fq b ps) 0 fs=true->decide (m / k*z<p / k)=false:=λq=>by
  have pos:=(oR h c).mp q i0 hi0
  have:p<=m*z:=by
   have:=qbj (show 1<=a by lia) (show 0<=p by lia)
   lia
  have:=CG p1 this
  exact decide_eq_false (by lia)
 generalize aQ _ ps=P at *;generalize m / k=d at *;generalize p / k=f at *;have o:jC (dI d8 (ai fL (aa (iV 8) (aa (iV 1) ac)))) (aN dLt (iOp bg (iOp dIx (iV 5) (iC (.int 0))) (ai d9 (aa (iV 8) ac))) (iOp dIx (iV 5) (iC (.int 1)))) [e0,Z (.tup fs),e2,e3,e4,Z (.tup [.int d,.int f]),e6,e7,Z P] st=some (false,st):=by
  cases q:ja _ 0 fs with
  |false=>
   rw[q]at B;exact Bi (wg (ag (ab U (ab U U)) B))
  |true=>
   rw[q]at B;refine Bj (wg (ag (ab U (ab U U)) B)) (aE (ae (ae U U U) (ag (ab U U) I) (dM st (H.mulOk sz))) (ae U U U) ?_);rw[<-lt q];rfl
 exact ao (cO (Bk (wg (ag (ab (ag (ab U (ab U U)) M) (ab U U)) (v5 (sC Q c1 sm) sc H sf G)))) U) (cO o U)
end
end Own
set_option maxHeartbeats 1000000
namespace Own
open PySem L2
open Sx (Pb Tb Good Named Fe LV ZV piv lexP leastR leaveL sumN unit colV basis)
section
variable {fs:List D}{b:Bool}{ts:List (List Int)}{st:Sto}{h:Nat}{Zq:Int}
theorem Cj (S:Spl fs ts) (hN:0<nR fs) (E:∀ t∈ts,Trm 6 t) (h0:0<ts.length) (hh:Hd st h Zq) (hZ:Zq+1000<=1000000) {Y0:List Int->Int} (hY:∀ t,(Y0 t).natAbs<=3) (J:∃ t∈ts,Y0 t≠0) (u:∀ i,i<nR fs->0<rvW fs b ts Y0 i) :
  ∃ j,Hd j h (Zq+200)/\dc [.h h,.d (.tup fs),.d (.str (aC b)),.d (tsD ts),.d (aQ (aC b) (aU ts Y0))] st=some (.d (.bl true),j):=by
 obtain⟨m,p,X,w,R,hw⟩:=gH S hN;obtain⟨B,f1⟩:=hw st;have m0:m≠0:=by
  obtain⟨mn,I,e2,i,hi,e3⟩:=vZ (b:=b) (Y:=Y0) S hN (.inl U)
  have:=u i hi
  have q:=sP S R Y0 e2;have p1:=R.p1
  have:=qgb (show 0<mn by lia) (show 0<p by lia)
  lia
 obtain⟨o1,pos,mn,z,I,e2,z1,sz,sm,O,x2⟩:=zj (b:=b) S hN R m0;have g1:=uA (st:=st++B) S E (.inr U) e2 z1 sz I sm;rw[O,x2]at g1;have l1:=λ(st:Sto) (y:D) (oy:Okp fs b ts y) (e0 e2 e3 e4 e6 e7:Option W)=>Ax (st:=st) S hN E R oy (e0:=e0) (e2:=e2) (e3:=e3) (e4:=e4) (e6:=e6) (e7:=e7);have t0:=(oR S (.inl U)).mpr u;have o:=λst=>sI (st:=st) (b:=b) S E (Y:=Y0) (ps:=aU ts Y0) (.inl U);have C:=λst=>sI (st:=st) (b:=b) S E (Y:=X) (ps:=aU (aD ts) X) (.inr U);rw[t0]at o;rw[((oR S (.inr U)).mpr pos)]at C
 obtain⟨f,s2,k2,d2,H⟩:=db (g:=.nm 0) (tt:=az) (te:=ck) (env:=[none,some (.h h),Z (.str (aC b)),Z (tsD ts)]) (ds:=bh 0 8) (λi f s=>Hd s h (Zq+20*i)/\∀ y ∈ f,Okp fs b ts y) (st:=st++B) (ys0:=[]) ⟨(hh.app B).mono (by lia),λ_ h=>nomatch h⟩ (λi d f s hd ⟨p1,p2⟩=>by
  obtain⟨rfl,hi⟩:=cH hd;obtain⟨Y,s5,b1,b2,w5,h5,e5⟩:=ox S.nd h0 S.tl p1 (by lia);refine⟨_,U,.inl ⟨_,_,s5,U,ag (ab U (ab U (ab U U))) e5,h5.mono (by push_cast;lia),λy L=>?_⟩⟩;rcases qaG.mp L with q|q
  ·exact p2 y q
  ·rw[qal.mp q];exact pY S hN b1 b2)
 have d2:Hd s2 h (Zq+160):=d2;have yl:f.length<=8:=by
  have:∀ (ds:List D) (st:Sto) (f:List D) (s:Sto) (env:Ev),lcI (.nm 0) az ck env ds st=some (f,s)->f.length=ds.length:=λds=>by
   induction ds with
   |nil=>intro st f s env e;cases e;rfl
   |cons d ds ih=>
    intro st f s env e;unfold lcI at e;simp only[qab,az,qjV,qad]at e;obtain⟨I,_,b,rfl,e⟩:=e;simp only[if_true,qab,qad]at e;obtain⟨x,_,zs,V,r,hr,e⟩:=e;cases e
    have:=ih _ _ _ _ hr
    obtain⟨O,x2⟩:=x;cases O with
    |h n=>cases V
    |d v=>
     cases V;rw[qav,this];show 1+_=_+1;lia
  exact qdx (this _ _ _ _ _ k2)
 have l:∀ y∈[aQ (aC b) (aU ts Y0),aQ (aC b) (aU (aD ts) X)]++f,Okp fs b ts y:=λy L=>by
  rcases qaG.mp L with q|q
  ·rcases qaA.mp q with rfl|q
   ·exact (pY (b:=b) S hN hY J)
   ·rw[qal.mp q];exact o1
  ·exact H y q
 have N:dJ [.d (.tup fs),.d (.str (aC b)),.d (tsD ts)] st=some (.d (.tup [.tup [.int (m / ((qaW m.natAbs p.natAbs))),.int (p / ((qaW m.natAbs p.natAbs)))],aQ (aC b) (aU (aD ts) X),.tup (mpI fs.length w)]),st++B):=by
  rw[f1];unfold wdD;rw[iFN m0]
 generalize m / _=a at *;generalize p / _=c at *;obtain⟨Q,F,e3,K,rfl,rfl⟩:=bU (g:=.nm 8) (λi env s=>∃ K,env=[some (.h h),Z (.tup fs),Z (.str (aC b)),Z (tsD ts),Z (aQ (aC b) (aU ts Y0)),Z (.tup [.int a,.int c]),Z (aQ (aC b) (aU (aD ts) X)),Z (.tup (mpI fs.length w)),K]/\s=s2)
  ⟨none,U,U⟩ (λi d env s hd ⟨K,e,es⟩=>by
   subst e es
   exact⟨_,_,_,U,.inl (l1 _ d (l d (qby hd)) _ _ _ _ _ _),_,U,U⟩)
 have hsz:([aQ (aC b) (aU ts Y0),aQ (aC b) (aU (aD ts) X)]++f).length<=1000000:=by
  rw[qav];show 2+_<=_;lia
 have P:∀ s:Sto,iF s (.d (aQ (aC b) (aU (aD ts) X))) (.d .non)=some (.bl false):=λs=>rfl;refine⟨F,d2.mono (by lia),?_⟩;have A:∀ s:Sto,bm s (.d (.lst [aQ (aC b) (aU ts Y0),aQ (aC b) (aU (aD ts) X)])) (.d (.lst f))=some (.lst ([aQ (aC b) (aU ts Y0),aQ (aC b) (aU (aD ts) X)]++f)):=λs=>ez s (by show 2+_<=_;lia);generalize aQ (aC b) (aU ts Y0)=P0 at *;generalize aQ (aC b) (aU (aD ts) X)=P1 at *;generalize tsD ts=T at *;generalize aC b=kd at *;generalize mpI fs.length w=M at *;have G:ar (iOp bm (ap (bD (aa (iV 4) (aa (iV 6) ac)))) (ap (iLc 1 [0,2,3] (bi (aa (iC (.int 8)) ac)) (.nm 0) az ck))) [some (.h h),Z (.tup fs),Z (.str kd),Z T,Z P0,Z (.tup [.int a,.int c]),Z P1,Z (.tup M),none] (st++B)=some ([P0,P1]++f,F):=
  aL (ae (ak (cG (ds:=[P0,P1]) (ab U (ab U U)) U (by show 2<=1000;decide))) (ak (aI (dA (z:=8) U (by decide) (by decide) U) (by show 8<=1000000;decide) k2)) (A _))
 exact ax (n:=9) (k:=5) (b:=iy) U (ao (Ea (ag (ab U (ab U (ab U U))) N) U) (ao (cO (Bl (aE U U (P _)) (aE (ag (ab U (ab U U)) g1) U (CF _ _ _))) U) (ao (bM G e3) (aA (G8 (ag (ab U (ab U U)) (o F)) (ag (ab U (ab U U)) (C F)))))))
end
end Own
set_option maxHeartbeats 1000000
namespace Own
open PySem L2
open Sx (Pb Tb Good Named Fe LV ZV piv lexP leastR leaveL sumN unit colV basis)
theorem mZ:∀ (n:Nat) {t:List Int},Trm n t->t∈cT n
 |0,t,h=>by
  cases t with
  |nil=>exact qal.mpr U
  |cons k t=>
   have:=h.2 k qag
   lia
 |n+1,t,h=>by
  rcases List.eq_nil_or_concat t with e|⟨u,a,e⟩
  ·subst e
   exact qaS _ (mZ n ⟨List.Pairwise.nil,λk b=>nomatch b⟩)
  ·rw[List.concat_eq_append]at e
   subst e;have c:=qgV.mp h.1;have f:=h.2 a (qax _ (qal.mpr U));have d:∀ k∈u,0<=k/\k<a:=λk b=>⟨(h.2 k (qaS _ b)).1,c.2.2 k b a (qal.mpr U)⟩;by_cases e:a=(n)
   ·exact qax _ (qay.mpr ⟨u,mZ n ⟨c.1,λk b=>by have:=d k b;lia⟩,by rw[e]⟩)
   ·refine qaS _ (mZ n ⟨h.1,λk b=>?_⟩)
    rcases qaG.mp b with q|q
    ·have:=d k q;lia
    ·rw[qal.mp q];lia
theorem FA {ls:List D}{k:Nat}{z:Int} (c:k<ls.length) (e:ls.length<=1000) (hg:ls[k]?=some (.int z)):vV ls [.d (.int (k:Int))]=some (.int z,ls.eraseIdx k):=by
 unfold vV;dsimp only;rw[fH c,qaa,hg,qaa];have b:-(2^62)<=(k:Int):=by lia
 have a:(k:Int)<2^62:=by lia
 rw[iFP ⟨U,b,a⟩]
theorem vT {b:Sto}{L:Nat}{xs:List D} (h:b.length=L):lg (b++[.l xs]) L=some xs:=by rw[<-h];exact dq _ _
theorem Dr {b:Sto}{L:Nat}{c a:C} (h:b.length=L):(b++[c]).set L a=b++[a]:=by rw[<-h];exact i8 _ _ _
theorem AO {env:Ev}{b e:Sto}{ls:List D}{L k:Nat}{z:Int}{a:Ef} (f:iV 1 env (b++[.l ls])=some (.h L,b++[.l ls])) (j:a env (b++[.l ls])=some (.d (.int (k:Int)),e++[.l ls])) (hb:b.length=L) (c:e.length=L) (i:k<ls.length) (g:ls.length<=1000) (hg:ls[k]?=some (.int z)):iN vV (iV 1) (aa a ac) env (b++[.l ls])=some (.d (.int z),e++[.l (ls.eraseIdx k)]):=by
 simp only[iN,f,(ab (b:=ac) j U),qaa,vT hb,vT c,FA i g hg,qaj];rw[Dr c]
theorem pM {α a:Type} (f:α->a):∀ (l:List α) (k:Nat),(l.map f).eraseIdx k=(l.eraseIdx k).map f
 |[],_=>rfl
 |x::l,0=>rfl
 |x::l,k+1=>congrArg _ (pM f l k)
theorem nG:∀ (l:List Nat) (k:Nat) (a:k<l.length),(l[k]::l.eraseIdx k).Perm l
 |[],_,h=>absurd h (qcu _)
 |x::l,0,_=>qcR _
 |x::l,k+1,h=>(List.Perm.swap ..).trans (List.Perm.cons x (nG l k _))
theorem FK (n:Nat):bh 0 n=(qan n).map λk:Nat=>D.int k:=by
 exact qbe λk _=>by rw[qcD]
section
variable {st:Sto}{h:Nat}{Zq:Int}
theorem AQ {n:Nat} (v:Hd st h Zq) (V:Zq+100<=1000000) (R:n<=5):∃ (os:List Nat) (b:Sto),Ord n os/\Stw h st b/\Hd b h (Zq+10)/\
  lcI (.nm 0) az eE [none,some (.h st.length),some (.h h)] (bh 0 n) (st++[.l (bh 0 n)])=some (os.map λo:Nat=>D.int o,b++[.l []]):=by
 obtain⟨p,Y,e3,b,ls,os,rfl,rfl,E,hb,f,z⟩:=db (g:=.nm 0) (tt:=az) (te:=eE) (env:=[none,some _,some (.h h)]) (ds:=bh 0 n)
  (λi p s=>∃ (b:Sto) (ls os:List Nat),s=b++[.l (ls.map λo:Nat=>D.int o)]/\p=(os.map λo:Nat=>D.int o)/\Stw h st b/\Hd b h (Zq+i)/\(os++ls).Perm (qan n)/\os.length=i) (st:=st++[.l (bh 0 n)])
  ⟨st,qan n,[],by rw[FK],U,Stw.refl v.lt,v.mono (by lia),qcR _,U⟩
  (λi d p s hd ⟨b,ls,os,es,O,E,hb,f,z⟩=>by
    subst es O;obtain⟨rfl,hi⟩:=cH hd;have j:=E.len;have G:=by
     have:=f.length_eq
     rwa [qav,qaw]at this
    have u:iCB aZ (aa (iV 1) ac) [Z (.int (i:Int)),some (.h st.length),some (.h h)] (b++[.l (ls.map λo:Nat=>D.int o)])=some (.d (.int ((ls.length:Nat):Int)),b++[.l (ls.map λo:Nat=>D.int o)]):=by
     refine aF (ab U U) ?_;show (lg _ st.length).map _=_;rw[vT j,qaj,qaf]
    obtain⟨r,X,M,y1,v1,d1,N⟩:=bN (hb.app [.l _]) (m:=(ls.length:Int)) (by lia) (by lia) (by lia);obtain⟨F,rfl,H⟩:=Stw.unapp hb.lt v1;obtain⟨k,rfl⟩:=qbn M;have c:k<ls.length:=by lia
    have J:F.length=st.length:=by rw[H.len,j]
    have K:h<F.length:=by rw[H.len];exact hb.lt
    have hg:(ls.map λo:Nat=>D.int o)[k]?=some (.int (ls[k]:Nat)):=by rw[qaF,qai c];rfl
    refine⟨_,U,.inl ⟨_,_,_,U,(AO U (ag (ab U (ab u U)) N) j J (by rw[qaf];exact c) (by rw[qaf];lia) hg),F,_,os++[ls[k]],by rw[pM],by rw[qbs];rfl,E.trans H,(Hd.unapp K d1).mono (by push_cast;lia),?_,by rw[qav,z];rfl⟩⟩;refine List.Perm.trans ?_ f;rw[qbO]
    exact List.Perm.append_left os (nG ls k c))
 rw[bb]at z hb;have G:=by
  have:=f.length_eq
  rwa [qav,qaw]at this
 have:ls=[]:=List.eq_nil_of_length_eq_zero (by lia)
 subst this;rw[qcg]at f;exact⟨os,b,⟨z,f.symm.nodup qhN,λo T=>qaH.mp (f.mem_iff.mp T)⟩,E,hb.mono (by lia),e3⟩
theorem zw {n:Nat} (v:Hd st h Zq) (V:Zq+100<=1000000) (R:n<=5):∃ (a:List Nat) (b:Sto),a.Nodup/\(∀ k∈a,k<n)/\a.length<=n/\Stw h st b/\Hd b h (Zq+10)/\
  lcI (.nm 0) fj eF [none,some (.h h)] (bh 0 n) st=some (a.map λk:Nat=>D.int k,b):=by
 obtain⟨p,b,L,a,rfl,w,t,I,C,A⟩:=db (g:=.nm 0) (te:=eF) (env:=[none,some _]) (ds:=bh 0 n)
  (λi p s=>∃ a:List Nat,p=(a.map λk:Nat=>D.int k)/\a.Nodup/\(∀ k ∈ a,k < i)/\a.length<=i/\Stw h st s/\Hd s h (Zq+i)) ⟨_,U,qcW,(λk c=>nomatch c),qcc _,Stw.refl v.lt,v.mono (by lia)⟩ (by
  rintro i d p s hd ⟨a,rfl,w,t,I,C,A⟩
  obtain⟨rfl,hi⟩:=cH hd;obtain⟨r,s1,r0,W,t1,d1,P⟩:=bN A (m:=2) (by lia) (by decide) (by decide);refine⟨_,U,?_⟩;have B:fj [Z (.int (i)),some _] s=some (r==0,s1):=aE (ag (ab U (ab U U)) P) U (eO _ _ _);cases q:(r==0) with
  |true=>
   rw[q]at B;refine .inl ⟨_,_,_,B,U,a++[i],by rw[qbs];rfl,?_,?_,by simp;lia,C.trans t1,d1.mono (by lia)⟩
   ·rw[qcs]
    refine⟨w,by simp,λx Q y S e=>?_⟩;rw[qal.mp S]at e
    have:=t x Q
    lia
   ·intro k c
    rcases qaG.mp c with c|c
    ·have:=t k c;lia
    ·rw[qal.mp c];lia
  |false=>
   rw[q]at B
   exact .inr ⟨_,B,a,U,w,λk c=>by have:=t k c;lia,by lia,C.trans t1,d1.mono (by lia)⟩)
 rw[bb]at t I A;exact⟨a,b,w,t,I,C,A.mono (by lia),L⟩
end
end Own
set_option maxHeartbeats 1000000
namespace Own
open PySem L2
open Sx (Pb Tb Good Named Fe LV ZV piv lexP leastR leaveL sumN unit colV basis)
theorem Cd (s:Sto) (a c:Int):dEq s (.d (.tup [.int a,.int c])) (.d (.tup [.int a,.int c]))=some (.bl true):=by
 show ((if (false||false)=true then some (false&&false) else if [D.int a,.int c].all (okD 60)=true/\[D.int a,.int c].all (okD 60)=true then some _ else none)).map _=_;have b:iq [D.int a,.int c] [D.int a,.int c]=true:=by
  show ((a==a)&&((c==c)&&true))=true;rw[beq_self_eq_true,beq_self_eq_true];rfl
 rw[b];rfl
def WdV (ts:List (List Int)) (a c:Int) (fs:List D):Prop:=∀ st:Sto,∃ u A B,dJ [.d (.tup fs),.d (.str "odd"),.d (tsD ts)] st=some (.d (.tup [.tup [.int a,.int c],A,B]),st++u)
theorem sO {fs:List D}{ts:List (List Int)}{m p:Int}{X:List Int->Int}{w:Nat->Int}{a c:Int} (hw:∀ st:Sto,∃ u,dJ [.d (.tup fs),.d (.str (aC false)),.d (tsD ts)] st=some (.d (wdD fs false ts m p X w),st++u)) (f:m / ((qaW m.natAbs p.natAbs:Nat):Int)=a) (b:p / ((qaW m.natAbs p.natAbs:Nat):Int)=c):WdV ts a c fs:=λst=>by
 obtain⟨u,e⟩:=hw st;unfold wdD at e;rw[f,b]at e;exact⟨u,_,_,e⟩
theorem AG {fs:List D}{r:Nat} (b:r<fs.length) (a:fs.getD r .non≠.non):0<nR fs:=qgK (oT fs 0 r b a)
theorem BO {fs:List D} (fv:∀ u∈fs,dE u) {N:Nat} (fl:fs.length=N) (i:Nat) (hi:i<N):dE (fs.getD i .non):=by
 rw[qao,qai (by lia)];exact fv _ (qa2 _)
theorem BE {fs:List D}{N:Nat} (fl:fs.length=N):fs=aO N λi=>fs.getD i .non:=by
 unfold aO;refine qhP (by rw[qaf,qaw,fl]) λi a b=>?_;rw[qcz,qc1,qao,qai a];rfl
theorem Bw {n:Nat} (Y:n<=4) {F:Nat->D} (h:∀ i,i<2^n->dE (F i)) {r:Nat} (g:r<2^n) (d:F r≠.non) {ts:List (List Int)}{m0:Nat} (M:ts.Sublist (aD (cT n))) (A:∀ t,t∈ts↔Trm n t/\t.length<=m0)
  {z:List Nat} (kd:z.Nodup) (C:∀ k∈z,k<n) {os:List Nat} (l:Ord n os):∃ a c:Int,WdV ts a c (aO (2^n) F)/\WdV ts a c (aO (2^n) λi=>gy (F i))/\WdV ts a c (aO (2^n) λi=>F (Xr (mk z) i))/\WdV ts a c (aO (2^n) λi=>F (Rr os i)):=by
 have b:n<=5:=by lia
 have f:∀ {G:Nat->D},_->Spl (aO _ G) ts:=λ{G} H=>pL (n:=(n)) (by lia) (by lia) (by rw[qaE,be]) (wK H) (by exact M);have pos:∀ {G:Nat->D}{j:Nat},j<2^n->G j≠.non->0<nR _:=λ{G j} s hg=>AG (by rw[be];exact s) (by rw[fm s];exact hg);have o:=xM b kd C;have B:∀ {i:Nat},i<2^n->Xr _ i<2^n:=λ{i} hi=>(sR (by lia) hi o.1).1;have v:∀ {i:Nat},Rr os i<2^n:=λ{i}=>(d7 b l).1;have S:=f h;have S2:=f λi hi=>h _ (B hi);have S3:Spl (aO _ λi=>F (Rr os i)) ts:=f λi hi=>h _ v;obtain⟨m,p,X,w,R,hw⟩:=gH S (pos g d)
 obtain⟨m1,p1,X1,W,R1,y⟩:=gH (f λi hi=>DZ (h i hi)) (pos g (by
  rcases h r g with e|e|e
  ·exact absurd e d
  ·rw[e];intro q;cases q
  ·rw[e];intro q;cases q))
 obtain⟨m2,T,X2,w2,R2,u⟩:=gH S2 (pos (B g) (by
  rw[Ek (ux b o.1) (ux b g)];exact d))
 have hb:=uM l
 obtain⟨m3,V,X3,Q,R3,x⟩:=gH S3 (pos (d7 b hb).1 (by
  rw [su b l hb (λj s I=>by
   rw[qcz,qc1]
   exact l.nd.idxOf_getElem j s) g]
  exact d))
 obtain⟨P,O⟩:=CV S R R1;obtain⟨J,E⟩:=BK b kd C (λt K=>((A t).mp K).1) S R S2 R2;obtain⟨N,L⟩:=Dl b l A S R S3 R3;exact⟨_,_,sO hw U U,sO y P.symm O.symm,sO u J.symm E.symm,sO x N.symm L.symm⟩
theorem zl {ts:List (List Int)}{a c:Int}{i j o:List D} (q:WdV ts a c i) (v:WdV ts a c j) (r:WdV ts a c o) (st:Sto):∃ u,lcI (.nm 0) az bQ [none,Z (tsD ts),Z (.tup [.int a,.int c])] [.tup i,.tup j,.tup o] st=some ([D.bl true,.bl true,.bl true],st++u):=by
 have one:∀ {f:List D}{s:Sto},WdV ts a c f->∃ u,bQ [some _,some _,some _] s=some (.d _,s++u):=λ{f s} p=>by
  obtain⟨u,A,B,e⟩:=p s;exact⟨u,ae (ae (ag (ab U (ab U (ab U U))) e) U U) U (Cd _ _ _)⟩
 obtain⟨m,t⟩:=one q;obtain⟨l,e2⟩:=one v;obtain⟨n,e3⟩:=one r;have step:∀ {f:List D}{ds:List D}{s s' b:Sto}{g:List D},bQ [some _,some _,some _] s=some (.d _,s')->lcI _ az bQ [none,some _,some _] ds s'=some (g,b)->lcI _ az bQ [none,some _,some _] (.tup f::ds) s=some (.bl true::g,b):=λ{f ds s s' b g} h k=>by
  rw[lcI,show cv (.nm 0) _ [none,some _,some _]=some [some _,some _,some _] from U,qaa,show az [some _,Z (tsD ts),Z (.tup [.int a,.int c])] s=some (true,s) from U,qaa,h,qaa,k];rfl
 refine⟨m++l++n,?_⟩;rw[show st++_=st++m++l++n by simp only[qbO]];exact step t (step e2 (step e3 U))
section
variable {st:Sto}{h:Nat}{Zq:Int}
theorem BA {n:Nat}{fs:List D} (J:n<=4) (fl:fs.length=2^n) (fv:∀ u∈fs,dE u) (fe:∃ u∈fs,u≠.non) (hh:Hd st h Zq) (hZ:Zq+1000<=1000000):∃ g,Hd g h (Zq+100)/\gX [.h h,.d (.int (n:Int)),.d (.tup fs)] st=some (.d (.bl true),g):=by
 obtain⟨z,s1,z0,z1,w1,d1,e1⟩:=bN hh (m:=(n:Int)+1) (by lia) (by lia) (by lia);have S:=iw (st:=s1) (n:=(n:Int)) (by lia) (by lia);rw[qaE]at S;have hal:(cw n).length<=16:=by
  unfold cw;rw[(aB _).length_eq,dG];exact qaM (qaV (by decide) J) (by decide)
 have hz:((cw n).map au).length<=1000000:=by rw[qaf];lia
 have e:lcI (.nm 0) fk eG [none,Z (.int z)] ((cw n).map au) s1=some (((cw n).filter λt=>decide ((t.length:Int)<=z)).map au,s1):=by
  have e:lcI (.nm 0) fk eG [none,some (.d (.int z))] ((cw n).map au) s1=some ((((cw n).map au).filter λd=>match d with|.tup ds=>decide ((ds.length:Int)<=z)|_=>false).map λd=>d,s1):=gu _ _ λd hd=>by
   obtain⟨t,ht,rfl⟩:=qay.mp hd;exact⟨_,U,aE (aF U U) U U,λ_=>rfl⟩
  rw[qiJ,qf0]at e;refine e.trans (congrArg (λx=>some (qgx au x,s1)) (qfx λt _=>?_));show decide (((t.map D.int).length:Int)<=z)=_;rw[qaf]
 generalize p:((cw n).filter λt=>decide ((t.length:Int)<=z))=ts at e;have hs:ts.Sublist (aD (cT n)):=by rw[<-p];exact qg5
 have hm:∀ t,t∈ts↔Trm n t/\t.length<=z.toNat:=λt=>by
  rw[<-p,qbK,decide_eq_true_iff];unfold cw;rw[(aB _).mem_iff];exact⟨λ⟨a,b⟩=>⟨dH n a,by lia⟩,λ⟨a,b⟩=>⟨mZ n a,by lia⟩⟩
 obtain⟨L,f,kd,Q,kl,w2,d2,e2⟩:=zw (n:=n) d1 (by lia) (by lia);obtain⟨os,j,w,w3,d3,e3⟩:=AQ (n:=n) d2 (by lia) (by lia);obtain⟨u,hu,H⟩:=fe;obtain⟨r,hr,er⟩:=qbQ.mp hu;have y:fs.getD r .non=u:=by rw[qao,qai hr];exact er
 obtain⟨a,c,V,v1,G,I⟩:=Bw J (F:=λi=>fs.getD i .non) (λi hi=>BO fv fl i hi) (r:=r) (by lia) (by rw[y];exact H) hs hm kd Q w;have N:=λs=>uL (st:=s) (qaM (qaV (by decide) J) (by decide)) (λi hi=>BO fv fl i hi);have M:=λs=>zD (st:=s) (F:=λi=>fs.getD i .non) (show n<6 by lia) kd Q (by lia);have Y:=λs=>wl (st:=s) (F:=λi=>fs.getD i .non) (show n<6 by lia) w.nd w.lt (by rw[w.len];lia);have G:WdV ts a c (aO (2^n) λi=>fs.getD (qb7 (i:Nat) (sp (rX L):Nat)).toNat .non):=G;have I:WdV ts a c (aO (2^n) λi=>fs.getD (sp (prR i 0 os)) .non):=I;rw[<-BE fl]at V N M Y;generalize (aO (2^n) λi=>gy (fs.getD i .non))=f1 at *;generalize (aO (2^n) λi=>fs.getD (qb7 (i:Nat) (sp (rX L):Nat)).toNat .non)=f2 at *;generalize (aO (2^n) λi=>fs.getD (sp (prR i 0 os)) .non)=f3 at *;obtain⟨P,A,B,X⟩:=V (j++[.l []]);obtain⟨q2,R⟩:=zl v1 G I (j++[.l []]++P);have l2:=w2.len;have l3:=w3.len;have E:(0:Int)<=(n:Int)/\(n:Int)<=1000:=by lia
 have W:(bh 0 n).length<=1000000:=by rw[bb];lia
 have ol:(os.map λo:Nat=>D.int o).length=n:=by rw[qaf];exact w.len
 refine⟨j,d3.mono (by lia),?_⟩;unfold tsD at X R;generalize ts.map au=T at *;generalize (L.map λk:Nat=>D.int k)=K at *;generalize (os.map λo:Nat=>D.int o)=O at *;have v:cx (pi (aa (iV 1) ac)) [some (.h h),Z (.int (n:Int)),Z (.tup fs),Z (.int z),Z (.tup T),Z (.tup K),none,none,none,none] f=some (.h f.length,f++[.l (bh 0 n)]):=by
  have x1:pi (aa (iV 1) ac) [some (.h h),Z (.int (n:Int)),Z (.tup fs),Z (.int z),Z (.tup T),Z (.tup K),none,none,none,none] f=some (bh 0 n,f):=by
   have:aa (iV 1) ac [some (.h h),Z (.int (n:Int)),Z (.tup fs),Z (.int z),Z (.tup T),Z (.tup K),none,none,none,none] f=some ([.d (.int (n:Int))],f):=rfl
   simp only[pi,this,qaa];rw[iFP ⟨by lia,by lia⟩,qaE]
  simp only[cx,x1,qaj]
 have q:=gB (n:=10) (k:=3) (b:=jU) (ws:=[.h h,.d (.int (n:Int)),.d (.tup fs)]) (st:=st) (x:=.bl true) U (ao (aj (ag (ab U (ab (ae U U U) U)) e1)) (ao (aj (aF (ab (ak (aI (aL (ag (ab U U) S)) hz e)) U) U)) (ao (aj (aF (ab (ak (aI (dA U E.1 E.2 (qaE n)) W e2)) U) U)) (ao (aj v)
  (ao (aj (aF (ab (ak (aI (dA U E.1 E.2 (qaE n)) W e3)) U) U)) (ao (aj (ae (ag (ab U (ab U (ab U U))) X) U U)) (ao (aj (ak (cG (ds:=[.tup f1,.tup f2,.tup f3]) (ab (ag (ab U U) (N _)) (ab (ag (ab U (ab U U)) (M _)) (ab (ag (ab U (ab U U)) (Y _)) U))) U (by show 3<=1000;decide)))) (aA (G7 (bs:=[true,true,true]) (ab (ak (aI (aL U) (by show 3<=1000000;decide) R)) U))))))))))
 rw[show (j++[C.l []]++P++q2).take st.length=j from by
  rw[qbO,qbO,<-w1.len,<-l2,<-l3];exact qcq]at q
 exact q
end
end Own
section
set_option maxHeartbeats 1000000
namespace Own
open PySem L2
open Sx (Pb Tb Good Named Fe LV ZV piv lexP leastR leaveL sumN unit colV basis)
theorem EB (s:Sto) (t:List Int):dEq s (.d (au t)) (.d (.tup []))=some (.bl t.isEmpty):=by
 cases t<;>rfl
theorem G9 {a b:Tf}{env:Ev}{st s:Sto} (ha:a env st=some (true,s)):li a b env st=some (true,s):=by
 simp only[li,ha,qaa,if_true]
theorem Ie {a:Af}{env:Ev}{st s:Sto}{bs:List Bool} (h:a env st=some ([.d (.lst (bs.map D.bl))],s)):iCB tU a env st=some (.d (.bl (bs.any id)),s):=by
 refine aF h ?_;show (iA _).map _=_;rw[gL];rfl
theorem xP:∀ n:Nat,[]∈cT n
 |0=>qal.mpr U
 |n+1=>qaS _ (xP n)
section
variable {st:Sto}{h:Nat}{Zq:Int}
theorem BI {n:Nat} (B:n<=4) (hh:Hd st h Zq) (hZ:Zq+300<=1000000):∃ (ts:List (List Int)) (j:Sto),ts.Sublist (aD (cT n))/\0<ts.length/\Stw h st j/\Hd j h (Zq+20)/\∀ {f:Ef}{env:Ev}{s0:Sto},f env s0=some (.d (.lst ((cw n).map au)),st)->eL 1 [2] env=[none,some (.h h)]->ap (iLc 1 [2] (ar f) (.nm 0) kQ mq) env s0=some (.d (.lst (ts.map au)),j):=by
 have hal:(cw n).length<=16:=by
  unfold cw;rw[(aB _).length_eq,dG];exact qaM (qaV (by decide) B) (by decide)
 obtain⟨ys,C,e3,w3,h3,ts,y,hy,o⟩:=db (g:=.nm 0) (env:=[none,some _]) (ds:=(cw n).map au) (λi ys s=>Stw h st s/\Hd s h (Zq+i)/\∃ ts,ts.Sublist ((cw n).take i)/\ys=ts.map au/\([] ∈ (cw n).take i->[] ∈ ts)) ⟨Stw.refl hh.lt,hh.mono (by lia),[],List.nil_sublist _,U,λq=>nomatch q⟩ (λi d ys s hd ⟨p1,p2,ts,p3,p4,p5⟩=>by
  obtain⟨hi,ed⟩:=qat.mp hd;rw[qaf]at hi;obtain⟨r,s5,r0,r1,t5,h5,e5⟩:=bN p2 (m:=2) (by lia) (by decide) (by decide);have w:(cw n).take (i+1)=(cw n).take i++[(cw n)[i]]:=by rw[List.take_add_one,qai hi];rfl
  have O:d=au (cw n)[i]:=by rw[<-ed,qcz]
  have t1:aN dEq (ai aG (aa (iV 1) (aa (iC _) ac))) (iC _) [Z d,some _] s=some (r==0,s5):=aE (ag (ab U (ab U U)) e5) U (eO _ _ _);have t2:aN dEq (iV 0) (bz ac) [Z d,some (.h h)] s5=some ((cw n)[i].isEmpty,s5):=aE U (bF U U (by decide)) (by rw[O];exact EB _ _);have yes:kQ [some _,some _] s=some (true,s5)->∃ s1 x X,kQ [Z d,some (.h h)] s=some (true,s1)/\mq [some _,some (.h h)] s1=some (.d x,X)/\Stw h st X/\Hd X h (Zq+((i+1:Nat)))/\∃ A:List _,A.Sublist ((cw n).take _)/\ys++[x]=A.map au/\([]∈(cw n).take _->[]∈A):=λe=>by
   refine⟨_,d,_,e,U,p1.trans t5,h5.mono (by lia),_,by rw[w];exact p3.append (qjH _),by rw[p4,qbs,O];rfl,λq=>?_⟩;rw[w]at q;rcases qaG.mp q with q|q
   ·exact qaS _ (p5 q)
   ·exact qax _ q
  refine⟨_,U,?_⟩;cases q3:(r==0) with
  |true=>
   rw[q3]at t1;exact .inl (yes (G9 t1))
  |false=>
   rw[q3]at t1;cases q4:(cw n)[i].isEmpty with
   |true=>
    rw[q4]at t2;exact .inl (yes (Bl t1 t2))
   |false=>
    rw[q4]at t2;refine .inr ⟨_,Bl t1 t2,p1.trans t5,h5.mono (by lia),ts,by rw[w];exact p3.trans (List.sublist_append_left _ _),p4,λq=>?_⟩;rw[w]at q;rcases qaG.mp q with q|q
    ·exact p5 q
    ·have:=qal.mp q
     rw[<-this]at q4
     exact absurd (q4) (by decide))
 rw[qaf]at y o h3;rw[qeB]at y o;have hy':ys=ts.map au:=hy;rw[hy']at e3;exact⟨ts,C,y,qgK (o ((aB _).mem_iff.mpr (xP n))),w3,h3.mono (by lia),λhf he=>ak (aI (aL hf) (by rw[qaf];lia) (by rw[he];exact e3))⟩
end
def sgF (v:Int):D:=if v=0 then .non else .int (if v > 0 then 1 else 0)
theorem Hl (v:Int):dE (sgF v):=by
 unfold sgF;split
 ·exact .inl U
 ·split
  ·exact .inr (.inr U)
  ·exact .inr (.inl U)
theorem FO (st:Sto) (v:Int):qI [Z (.int v)] st=some (.d (sgF v),st):=by
 have e1:iE st [.d (.bl (decide (v > 0)))]=some (.int (if v > 0 then 1 else 0)):=by by_cases q:v > 0<;>simp[q]<;>rfl
 have e2:iE st [.d (.bl (v==0))]=some (.int (if v=0 then 1 else 0)):=by
  by_cases q:v=0
  ·subst q;rfl
  ·rw[show (v==0)=false by simpa using q,iFN q];rfl
 refine ae (ak (cG (ab (aF (ab (ae U U U) U) e1) (ab U U)) U (by show 2<=1000;decide))) (aF (ab (ae U U (eO _ _ _)) U) e2) ?_;unfold sgF;by_cases q:v=0
 ·rw[iFP q,iFP q];rfl
 ·rw[iFN q,iFN q];rfl
theorem Ar {te:Ef}{l:Ev}{st:Sto}{G H:Nat->D} (h:∀ i,te (Z (G i)::l) st=some (.d (H i),st)) (N:Nat):lcI (.nm 0) az te (none::l) (aO N G) st=some (aO N H,st):=oh H λk _=>h k
theorem FN {v:Int} (h:v≠0):0<sgD (sgF v)*v:=by
 unfold sgF;rw[iFN h];by_cases q:v > 0
 ·rw[iFP q]
  show 0<1*v;lia
 ·rw[iFN q]
  show 0<(-1)*v;lia
theorem DC {ns:List Int}{k:Nat}{st:Sto}{a2 a3 a4 a5 a6 a7 a8 a9 u:Option W}:∃ Q b3 K R L I b8 b9 p j,xD [Z (.scr ns),Z (.int (k:Int)),a2,a3,a4,a5,a6,a7,a8,a9,u] st=some (.nx [Z (.scr ns),Z (.int (k:Int)),Q,b3,K,R,L,I,b8,b9,p] j):=by
 obtain⟨s1,h1,l1,_,e1⟩:=Ci (st:=st) (ns:=ns) (k:=k);generalize st.length=h at *;obtain⟨r1,X,x0,x1,w2,h2,e2⟩:=bN h1 (m:=4) (by lia) (by decide) (by decide);obtain⟨r2,C,y0,y1,w3,h3,e3⟩:=bN h2 (m:=8) (by lia) (by decide) (by decide);obtain⟨n,B,en⟩:∃ n:Nat,n<=4/\dIx C (.d (.lst [.int r1,.int 4])) (.d (.int (if (r2==0)=true then 1 else 0)))=some (.int (n:Int)):=by
  cases (r2==0) with
  |true=>exact⟨4,by lia,U⟩
  |false=>
   obtain⟨m,rfl⟩:=qbn x0;exact⟨m,by lia,U⟩
 have ei:iE C [.d (.bl (r2==0))]=some (.int (if (r2==0)=true then 1 else 0)):=by cases (r2==0)<;>rfl
 have ea:=iw (st:=C) (n:=(n:Int)) (by lia) (by lia);rw[qaE]at ea;obtain⟨ts,s4,y,t0,w4,h4,e4⟩:=BI B h3 (by lia);obtain⟨d,s5,m5,w5,h5,e5⟩:=ya (ds:=[.str "both",.str "odd"]) h4 (by lia) (by simp) (by simp)
 obtain⟨b,rfl⟩:∃ b,d=.str (aC b):=by
  simp only[qaA,qbM,or_false]at m5;rcases m5 with rfl|rfl
  ·exact⟨true,U⟩
  ·exact⟨false,U⟩
 have h16:2^n<=16:=qaM (qaV (by decide) B) (by decide);have tl:ts.length<=16:=by
  have:=y.length_le
  rw[(aB _).length_eq,dG]at this;lia
 have ht:∀ t∈ts,Trm 6 t:=λt htt=>(dH n ((aB _).mem_iff.mp (y.subset htt))).mono (by lia);obtain⟨Y,c,hY,hne,w6,h6,e6⟩:=ox (kd:=aC b) (((aB _).nodup_iff.mpr (gQ _)).sublist y) t0 tl h5 (by lia);have J:∀ q∈aU ts Y,yU q:=λq hq=>ht _ (AE (.inl U) hq);have k7:lcI (.nm 0) az wW [none,Z (aQ (aC b) (aU ts Y))] (bh 0 (2^n)) c=some (aO (2^n) λi=>.int (vlV b ts Y i),c):=vB λi hi=>by
  have:=uo (st:=c) (b:=b) (row:=(i:Int)) J (by have:=rF (ts:=ts) (Y:=Y) (.inl U);lia)
  rw[AF (.inl U)]at this;exact ag (ab U (ab U U)) this
 have k8:lcI (.nm 0) az qI [none] (aO (2^n) λi=>.int (vlV b ts Y i)) c=some (aO (2^n) λi=>sgF (vlV b ts Y i),c):=Ar (λi=>FO c _) _;have k9:lcI (.nm 0) az mo [none] (aO (2^n) λi=>sgF (vlV b ts Y i)) c=some (aO (2^n) λi=>.bl (!fG (sgF (vlV b ts Y i))),c):=Ar (λi=>rfl) _;have k9b:(aO (2^n) λi=>D.bl (!fG (sgF (vlV b ts Y i))))=((qan (2^n)).map λi=>!fG (sgF (vlV b ts Y i))).map D.bl:=by
  unfold aO;rw[qaC];rfl
 rw[k9b]at k9;have Sp:Spl (aO (2^n) λi=>sgF (vlV b ts Y i)) ts:=pL (n:=(n:Int)) (by lia) (by lia) (by rw[qaE,be]) (wK λi _=>Hl _) (by rw[qaE];exact y);obtain⟨q,cq,eq,bq,_⟩:=yk (n:=(n:Int)) (by lia) (by lia);rw[qaE]at eq;have S:∃ E,Hd E h 400/\jC (dI d8 (iCB tU (aa (ap (iLc 1 [] (ar (iV 8)) (.nm 0) az mo)) ac))) (lN (dI d8 (ai dc (aa (iV 2) (aa (iV 8) (aa (iV 5) (aa (iV 4) (aa (iV 6) ac)))))))) [Z (.scr ns),Z (.int (k:Int)),some (.h h),Z (.int (n:Int)),Z (tsD ts),Z (.str (aC b)),Z (aQ (aC b) (aU ts Y)),Z (.lst (aO (2^n) λi=>.int (vlV b ts Y i))),Z (.tup (aO (2^n) λi=>sgF (vlV b ts Y i))),a9,u] c=some (false,E):=by
  have any:dI d8 (iCB tU (aa (ap (iLc 1 [] (ar (iV 8)) (.nm 0) az mo)) ac)) [Z (.scr ns),Z (.int (k:Int)),some (.h h),Z (.int (n:Int)),Z (tsD ts),Z (.str (aC b)),Z (aQ (aC b) (aU ts Y)),Z (.lst (aO (2^n) λi=>.int (vlV b ts Y i))),Z (.tup (aO (2^n) λi=>sgF (vlV b ts Y i))),a9,u] c=some (((qan (2^n)).map λi=>!fG (sgF (vlV b ts Y i))).any id,c):=
   wg (Ie (ab (ak (aI (bv U) (by rw[be];lia) k9)) U))
  cases e:((qan (2^n)).map λi=>!fG (sgF (vlV b ts Y i))).any id with
  |false=>
   rw[e]at any;exact⟨c,h6.mono (by lia),Bi any⟩
  |true=>
   rw[e]at any;rw[qeD]at e;obtain⟨x,hx,ex⟩:=e;obtain⟨r,hr,rfl⟩:=qay.mp hx;have hr:=qaH.mp hr
   obtain⟨E,h7,e7⟩:=Cj (b:=b) Sp (AG (r:=r) (by rw [be];exact hr) (by
    rw[fm hr];intro z;rw[z]at ex
    cases ex)) ht t0 h6 (by lia) hY hne λi hi=>by
    have hl:=(gC Sp hi).2;rw[be]at hl;have B:=wy Sp (r:=rN (aO (2^n) λi=>sgF (vlV b ts Y i)) i);rw[yi Sp hi];rw[fm hl]at B ⊢;refine FN λz=>B (by rw[z];rfl) hi U
   refine⟨E,h7.mono (by lia),Bj any (Bk (k:=true) (wg (ag (ab U (ab U (ab U (ab U (ab U U))))) e7)))⟩
 obtain⟨E,h7,e7⟩:=S;obtain⟨m,gs,s8,hm,gl,gv,ge,w8,h8,e8⟩:=vb h7 (by lia);obtain⟨s9,h9,e9⟩:=BA hm gl gv ge h8 (by lia);have M:(bh 0 (2^n)).length<=1000000:=by rw[bb];lia
 have hvl:(aO (2^n) λi=>D.int (vlV b ts Y i)).length<=1000000:=by rw[be];lia
 refine⟨some (.h h),Z (.int (n:Int)),Z (tsD ts),Z (.str (aC b)),Z (aQ (aC b) (aU ts Y)),Z (.lst (aO (2^n) λi=>.int (vlV b ts Y i))),Z (.tup (aO (2^n) λi=>sgF (vlV b ts Y i))),Z (.int (m:Int)),Z (.tup gs),s9,?_⟩;have hts:tsD ts=.tup (ts.map au):=rfl;have st4:aw (.nm 4) (iCB dj (aa (ap (iLc 1 [2] (ar (ai bx (aa (iV 3) ac))) (.nm 0) kQ mq)) ac)) [Z (.scr ns),Z (.int (k:Int)),some (.h h),Z (.int (n:Int)),a4,a5,a6,a7,a8,a9,u] C=some (.nx [Z (.scr ns),Z (.int (k:Int)),some (.h h),Z (.int (n:Int)),Z (tsD ts),a5,a6,a7,a8,a9,u] s4):=by
  rw[hts];exact aj (aF (ab (e4 (ag (ab U U) ea) U) U) U)
 clear hts;have q0:0<=q/\q<=1000:=by
  have:=qf9 n
  lia
 generalize (aO (2^n) λi=>D.int (vlV b ts Y i))=V at *;generalize (aO (2^n) λi=>sgF (vlV b ts Y i))=F at *;generalize tsD ts=T at *;generalize aQ (aC b) (aU ts Y)=P at *;generalize aC b=kd at *;exact ao (aj (ag U e1)) (ao (aj (ae (ak (cG (ds:=[.int r1,.int 4]) (ab (ag (ab U (ab U U)) e2) (ab U U)) U (by show 2<=1000;decide))) (aF (ab (ae (ag (ab U (ab U U)) e3) U (eO _ _ _)) U) ei) en)) (ao st4 (ao (aj (ag (ab U (ab (ak (cG (ds:=[.str "both",.str "odd"]) U U (by show 2<=1000;decide))) U)) e5)) (ao (aj (ag (ab U (ab U (ab U U))) e6)) (ao (aj (ak (aI (dA (ae U U (cq _)) q0.1 q0.2 eq) M k7))) (ao (aj (aF (ab (ak (aI (aL U) hvl k8)) U) U)) (ao (cO e7 U) (ao (Ea (ag (ab U (ab U U)) e8) U) (cO (Bk (k:=true) (wg (ag (ab U (ab U (ab U U))) e9))) U)))))))))
theorem Aq (ns:List Int) (hl:ns.length<=63):∃ st,uz [.d (.scr ns)] []=some (.d (.bl true),st):=by
 obtain⟨z,hz,z0,z1⟩:∃ z:Int,iCB dMx (aa (iC (.int 1)) (aa (iCB Ey (aa (iC (.int 3)) (aa (iCB aZ (aa (iV 0) ac)) ac))) ac)) [Z (.scr ns),none,none,none,none,none,none,none,none,none,none] []=some (.d _,[])/\0<=z/\z<=3:=by
  refine⟨_,aF (ab U (ab (aF (ab U (ab (aF (ab U U) U) U)) U) U)) U,?_,?_⟩
  ·split<;>split<;>lia
  ·split<;>split<;>lia
 obtain⟨env',X,e2,Q,b3,K,R,L,I,b8,b9,p,b11,rfl⟩:=bU (g:=.nm 1) (λi env s=>∃ b1 Q b3 K R L I b8 b9 p,env=[Z (.scr ns),b1,Q,b3,K,R,L,I,b8,b9,p])
  ⟨_,_,_,_,_,_,_,_,_,_,U⟩ (λi d env s hd ⟨b1,Q,b3,K,R,L,I,b8,b9,p,e⟩=>by
   subst e;obtain⟨rfl,hi⟩:=cH hd;obtain⟨c2,c3,c4,c5,c6,c7,c8,c9,c10,s',e⟩:=DC
   exact⟨_,_,_,U,.inl e,_,_,_,_,_,_,_,_,_,_,U⟩)
 exact⟨_,(gB U (ao (bM (dA hz z0 (by lia) U) e2) (aA U)))⟩
end Own
end
namespace Own
open PySem L2
theorem Au {b:List Value}{n:Nat} (h:b.length=n+1):∃ a r,b=a::r/\r.length=n:=by
 cases b with
 |nil=>cases h
 |cons a r=>exact⟨a,r,U,Nat.succ.inj h⟩
theorem GK {b:List Value} (h:b.length=1):∃ a0,b=[a0]:=by
 obtain⟨a,r,rfl,g⟩:=Au h;exact⟨a,by rw[List.length_eq_zero_iff.1 g]⟩
theorem GL {c:List Value} (h:c.length=2):∃ a0 a,c=[a0,a]:=by
 obtain⟨b,r,rfl,g⟩:=Au h;obtain⟨a,rfl⟩:=GK g;exact⟨b,a,U⟩
theorem GM {c:List Value} (h:c.length=3):∃ a0 a a2,c=[a0,a,a2]:=by
 obtain⟨b,r,rfl,g⟩:=Au h;obtain⟨a,a2,rfl⟩:=GL g;exact⟨b,a,a2,U⟩
theorem EX {d:List Value} (h:d.length=4):∃ a0 c a2 a,d=[a0,c,a2,a]:=by
 obtain⟨b,r,rfl,g⟩:=Au h;obtain⟨c,a2,a,rfl⟩:=GM g;exact⟨b,c,a2,a,U⟩
theorem HY {e:List Value} (h:e.length=5):∃ a0 d a2 a c,e=[a0,d,a2,a,c]:=by
 obtain⟨b,r,rfl,g⟩:=Au h;obtain⟨d,a2,a,c,rfl⟩:=EX g;exact⟨b,d,a2,a,c,U⟩
theorem bnd {K:qae}:∀ p∈tbl,∀ f g,Fun K p.1 p.1 (top p.2.1) f g->dD K g (p.2.2.1.take p.2.2.2) []:=by
 iterate 52 refine qdg.2 ⟨λf g F=>F.binds λ_ _ _ _ _ _ b a=>(by first|(obtain⟨_,rfl⟩:=GK a;rfl)|(obtain⟨_,_,rfl⟩:=GL a;rfl)|(obtain⟨_,_,_,rfl⟩:=GM a;rfl)|(obtain⟨_,_,_,_,rfl⟩:=EX a;rfl)|(obtain⟨_,_,_,_,_,rfl⟩:=HY a;rfl)),?_⟩
 exact λ_ h=>nomatch h
theorem fa_mk {K:qae}{x:Str}{i k:Nat}{N:List Str}{f:Addr}{g:qcd} (a:qey K qcj x=some (some (.ref f))) (b:Fun K x x (top i) f g):∃ f g,qey K qcj (rT x i N k).1=some (some (.ref f))/\Fun K (rT x i N k).1 (rT x i N k).1 (top (rT x i N k).2.1) f g:=⟨f,g,a,b⟩
theorem txt_mk {K:qae}{h:Heap}{mg:Str->Option Value} (X:K.In h) (G:h.Ns qcj mg) (F:∀ p∈tbl,∃ f g,qey K qcj p.1=some (some (.ref f))/\Fun K p.1 p.1 (top p.2.1) f g)
  (z:∀ x∈(["abs","all","any","enumerate","int","len","list","max","min","range","sorted","sum","tuple","zip"]:List Str),qey K qcj x=some none)
  {a c:Addr}{d:qcd} (c1:qey K qcj "Table" = some (some (.ref a))) (c2:qcy K (.ref a) "__init__" = some (some (.ref c))) (c3:Fun K "__init__" "Table.__init__" cu c d)
  (m0:qfB K a=true) (m2:qhR K (.ref c)=true) (m3:qcT K (.ref a)=true) (d0:qen K a Str.empty=true) (d1:qd8 K a=true) (d2:qfi K a=true) (d3:qcy K (.ref a) "__setattr__" = some (some (.builtin "object.__setattr__")))
  (na:∀ p∈cm,qcy K (.ref a) p.1=some none)
  : Txt K mg:=
 ⟨λp e=>let ⟨f,g,a,b⟩:=F p e;⟨f,g,b,qhF X G a,bnd p e f g b⟩,λx h=>PySem.W.mg_none_of X G (z x h),a,c,d,qhF X G c1,c3,c3.binds λ_ _ _ _ _ _ j i=>(by obtain⟨_,_,_,_,rfl⟩:=EX i;rfl),⟨m0,c2,m2,m3⟩,⟨d0,d1,d2,d3⟩,na⟩
theorem walk {l:qfC}{q:qaR}{b:List Str}{XP:(Str->Option Value)->Heap->Prop}{YP:World->Heap->Prop}{d:DefRec}{K:Params->qae} (m:l.most=some 63) (c:d.params.defaults=[])
  (g:∀ (w:World) (h:Heap),YP w h->(K w.params).In h)
  (F:∀ (w:World) (mg:Str->Option Value) (e:Addr) (h:Heap),(K w.params).In h->h.Ns qcj mg->mg d.name=some (.ref e)->
    ∃ fd:qcd,(∀ (s:qam) (u:Value),qhn s fd ⟨[u],[]⟩ [("_law_script",u)])/\∀ base:Heap,(K w.params).In base->base.Ns qcj mg->dU l.prog w (K w.params) mg base CX0 8 e fd ["_law_script"] (spI (K w.params) uz)) :
  qhG q b XP YP l.row.toRowW d [] (λf j=>qhj f j):=
 L2.walk_of (n:=63) (k:=8) (x:="_law_script") (CX:=λ_=>CX0) (sp:=λw=>spI (K w.params) uz) m (by decide) c ⟨U,by decide,by decide,U⟩ g F (λ_ _ a ns i o p=>Dt o p (Aq ns i)) λ_ _ _ _ _ z=>z
theorem law_mk {l:qfC}{w:World}{K:qae}{h:Heap}{mg:Str->Option Value}{b:Addr} (a:mg "law" = some (.ref b)) (T:Txt K mg) :
  ∃ fd:qcd,(∀ (s:qam) (v:Value),qhn s fd ⟨[v],[]⟩ [("_law_script",v)])/\∀ base:Heap,K.In base->base.Ns qcj mg->dU l.prog w K mg base CX0 8 b fd ["_law_script"] (spI K uz):=by
 obtain⟨f,g,F,m,_⟩:=T.F (rT "law" 63 ["_law_script","_law_k","_law_hand_here","_law_n","_law_terms","_law_kind","_law_poly","_law_values","_law_f","_law_many","_law_other"] 1) (by decide +kernel)
 have e:=a.symm.trans m;cases e
 refine⟨g,λs v=>?_,λbase _ _=>by
  have q:=Ib (P:=l.prog) (w:=w) (base:=base) T
  iterate 12 replace q:=q.2
  exact q _ _ F⟩
 obtain⟨k,n,kV,d,j,o,i,ct,c,e,_⟩:=F.ex;rw[e];exact .of_eq U
end Own
namespace PySem.W.Fast
theorem tw12883781718665894396:True:=⟨⟩
theorem tw2319592583767635126:True:=⟨⟩
theorem tw12793000069987622099:True:=⟨⟩
theorem tw7559778744940716904:True:=⟨⟩
theorem tw18413638598154526156:True:=⟨⟩
theorem tw3100056505118442197:True:=⟨⟩
theorem tw13657451664704445313:True:=⟨⟩
theorem tw3382966219643125164:True:=⟨⟩
theorem tw17775794869875215066:True:=⟨⟩
theorem tw14297662373881025137:True:=⟨⟩
theorem tw18046058679289642818:True:=⟨⟩
theorem tw1673805258554048099:True:=⟨⟩
theorem tw4661742310627322831:True:=⟨⟩
theorem tw9916934618829199963:True:=⟨⟩
theorem tw4001200764818690153:True:=⟨⟩
theorem tw65548473214223022:True:=⟨⟩
theorem tw7780301000585308820:True:=⟨⟩
theorem tw378468625830382545:True:=⟨⟩
theorem tw17895343550301245031:True:=⟨⟩
theorem tw12697623281374331210:True:=⟨⟩
theorem tw10488259120804712070:True:=⟨⟩
theorem tw5717349287765499149:True:=⟨⟩
theorem tw3431350230555290692:True:=⟨⟩
theorem tw8005980641304112430:True:=⟨⟩
theorem tw8424195060438218351:True:=⟨⟩
theorem tw16747912388103489656:True:=⟨⟩
theorem tw8322236752844686069:True:=⟨⟩
theorem tw6156232303026634481:True:=⟨⟩
theorem tw17605986479192406820:True:=⟨⟩
theorem tw6103427192777518909:True:=⟨⟩
theorem tw564081238971473865:True:=⟨⟩
theorem tw5997732721229576562:True:=⟨⟩
theorem tw4905333342592753199:True:=⟨⟩
theorem tw2645588036787217598:True:=⟨⟩
theorem tw1226097858756791296:True:=⟨⟩
theorem tw15112616891356131823:True:=⟨⟩
theorem tw12941138292481718741:True:=⟨⟩
theorem tw15197563591954522119:True:=⟨⟩
theorem tw13391740502825065255:True:=⟨⟩
theorem tw2954070603152270142:True:=⟨⟩
theorem tw826156590970152848:True:=⟨⟩
theorem tw13822525970065452283:True:=⟨⟩
theorem tw1658937731796475478:True:=⟨⟩
theorem tw1881592510612026805:True:=⟨⟩
theorem tw13428068826645040504:True:=⟨⟩
theorem tw14276347942986163122:True:=⟨⟩
theorem tw18269580594814510187:True:=⟨⟩
theorem tw15940822374794286606:True:=⟨⟩
theorem tw10440369634036716382:True:=⟨⟩
theorem tw12345775394009265023:True:=⟨⟩
theorem tw12645375637019920165:True:=⟨⟩
theorem tw10065642778490322533:True:=⟨⟩
theorem tw910955574942486205:True:=⟨⟩
theorem tw16652853994084413446:True:=⟨⟩
theorem tw3149557204445420229:True:=⟨⟩
theorem tw10094736134885643926:True:=⟨⟩
theorem tw9558510239010591116:True:=⟨⟩
theorem tw6727962372801501970:True:=⟨⟩
theorem tw11762372979190798467:True:=⟨⟩
theorem tw1372831784365460233:True:=⟨⟩
theorem tw16596838588799540843:True:=⟨⟩
theorem tw6298410368288390624:True:=⟨⟩
theorem tw9606681339738679621:True:=⟨⟩
theorem tw2410668420920671113:True:=⟨⟩
theorem tw597570939057774174:True:=⟨⟩
theorem tw18186929207922554223:True:=⟨⟩
theorem tw13703204204706345827:True:=⟨⟩
theorem tw14108439414750027185:True:=⟨⟩
theorem tw604872665469896360:True:=⟨⟩
theorem tw8933923935510708228:True:=⟨⟩
theorem tw14965451755271325249:True:=⟨⟩
theorem tw13485094443896405146:True:=⟨⟩
theorem tw1972121459993343208:True:=⟨⟩
theorem tw5820655800325308863:True:=⟨⟩
theorem tw15538855189616115903:True:=⟨⟩
theorem tw17843560098703609367:True:=⟨⟩
theorem tw13871742112026247865:True:=⟨⟩
theorem tw87817442098879702:True:=⟨⟩
theorem tw4778977470993076958:True:=⟨⟩
theorem tw16023057089004647777:True:=⟨⟩
theorem tw12695189670270219505:True:=⟨⟩
theorem tw15833210714377284264:True:=⟨⟩
theorem tw16899030521257691035:True:=⟨⟩
theorem tw9458867770033908750:True:=⟨⟩
theorem tw9591470235343197134:True:=⟨⟩
theorem tw8307418530099810653:True:=⟨⟩
theorem tw5541671284623047145:True:=⟨⟩
theorem tw9900224909919304550:True:=⟨⟩
theorem tw6701946704383205582:True:=⟨⟩
theorem tw5235103688864075063:True:=⟨⟩
theorem tw5316151155140083993:True:=⟨⟩
theorem tw4100381449068360562:True:=⟨⟩
theorem tw14620464986222131843:True:=⟨⟩
theorem tw8082408020432104568:True:=⟨⟩
theorem tw15314731926452060342:True:=⟨⟩
theorem tw15119730699780334006:True:=⟨⟩
theorem tw2145746910326503960:True:=⟨⟩
theorem tw2455125695155376836:True:=⟨⟩
theorem tw1514191905957890750:True:=⟨⟩
theorem tw2574708822143661684:True:=⟨⟩
theorem tw9000733217209376028:True:=⟨⟩
theorem tw16287896861637303411:True:=⟨⟩
theorem tw12114217469896262774:True:=⟨⟩
theorem tw14766945149239997508:True:=⟨⟩
theorem tw11195921316137001143:True:=⟨⟩
theorem tw5085829884990914412:True:=⟨⟩
theorem tw7325590133057158006:True:=⟨⟩
theorem tw7247701036250760619:True:=⟨⟩
theorem tw6444753374910338365:True:=⟨⟩
theorem tw9905281752051309390:True:=⟨⟩
theorem tw9747213685302687624:True:=⟨⟩
theorem tw2292732049501822183:True:=⟨⟩
theorem tw10290384198190454777:True:=⟨⟩
theorem tw1038932025261715310:True:=⟨⟩
theorem tw1200244681175586335:True:=⟨⟩
theorem tw11310282609243086694:True:=⟨⟩
theorem tw5137547587771590619:True:=⟨⟩
theorem tw7226964267232640782:True:=⟨⟩
theorem tw8961077268414651657:True:=⟨⟩
theorem tw4359635944975038642:True:=⟨⟩
theorem tw10041550505362360484:True:=⟨⟩
theorem tw3534098926896830774:True:=⟨⟩
theorem tw7628319230269208036:True:=⟨⟩
theorem tw17141200318264852437:True:=⟨⟩
theorem tw15387722183519364284:True:=⟨⟩
theorem tw4421533892299274854:True:=⟨⟩
theorem tw178214761726612454:True:=⟨⟩
theorem tw11089118933920528533:True:=⟨⟩
theorem tw15154567236388205994:True:=⟨⟩
theorem tw2898778155921326991:True:=⟨⟩
theorem tw16605060047139741001:True:=⟨⟩
theorem tw981277560501671267:True:=⟨⟩
theorem tw3377673908723604068:True:=⟨⟩
theorem tw15956368745791779779:True:=⟨⟩
theorem tw10998035961708664159:True:=⟨⟩
theorem tw12151022745611740511:True:=⟨⟩
theorem tw13020574276446232868:True:=⟨⟩
theorem tw15404073554674704426:True:=⟨⟩
theorem tw9282268683700287950:True:=⟨⟩
theorem tw8131447858978940047:True:=⟨⟩
theorem tw16533090703792446026:True:=⟨⟩
end PySem.W.Fast
open PySem PySem.W PyProof.Rows
set_option maxRecDepth 100000 in
set_option maxHeartbeats 0 in
theorem PySem.Challenge.cw_signpoly_k92_whole_widest_margins_holds : PySem.Challenge.rw_signpoly_k92_whole_widest_margins.Holds := by
 w_on;o_law;k_head;(case hw=>w_witness2)
 k_fill
 refine Own.walk (l:=PySem.Challenge.rw_signpoly_k92_whole_widest_margins) rfl rfl (λw h Y=>PySem.W.kIn_of Y) ?F
 case F=>
  intro w mg d h KX G a;refine Own.law_mk (h:=h) a ?T
  case T=>
   refine' Own.txt_mk KX G ?F ?z ?c1 ?c2 ?c3 ?m0 ?m2 ?m3 ?d0 ?d1 ?d2 ?d3 ?na
   case F=>(iterate 52 (refine' qdg.2 ⟨Own.fa_mk ?e ?b,?_⟩;(case e=>k_is);(case b=>(refine' L2.fun_mk ?l ?c ?k;(case l=>k_is);(case c=>k_is);case k=>k_is))));intro _ h;cases h
   case z=>(iterate 14 (refine qdg.2 ⟨by k_is,?_⟩));intro _ h;cases h
   case c1=>k_is
   case c2=>k_is
   case c3=>refine' L2.fun_mk ?l ?c ?k;(case l=>k_is);(case c=>k_is);case k=>k_is
   case m0=>kernel_rfl
   case m2=>kernel_rfl
   case m3=>kernel_rfl
   case d0=>kernel_rfl
   case d1=>kernel_rfl
   case d2=>kernel_rfl
   case d3=>kernel_rfl
   case na=>(iterate 6 (refine qdg.2 ⟨by kernel_rfl,?_⟩));intro _ h;cases h
