import PyProof.Rows.All
import Wide.All
import OpenK.AllK
import Wide.FinOn
import Lean
import PyProof.EqAt
import PyProof.EqKinds
import PyProof.TupleCall
import PyProof.ListRange
import PyProof.NeKinds
import KE.KUnpack
import KE.KSortTup
import PyProof.ZipIter
import PyProof.Rows.CallKwBuiltin
import PyProof.SetKind
import PyProof.SetRoads
import KE.KDictList
import PyProof.Rows.SetFrom
import PyProof.WalksMore
import PyProof.TupleKey
import KE.KDictLaws
import PyProof.FactsAll.tuple_0
import PyProof.FactsAll.tuple_2
import PyProof.FactsAll.tuple_3
import PyProof.FactsAll.list_3
import PyProof.Rows.SeqMore
import PyProof.AutoSeq1
import PySem.Challenge.RW_signpoly_k66_put_polynomials
set_option Elab.async false
set_option linter.all false
set_option maxRecDepth 100000
set_option genSizeOf false
noncomputable section
open And renaming left -> qk0
open Array renaming getElem?_eq_getElem -> qas, length_toList -> qaA, getElem?_eq_none -> qba, toList_append -> qbe, toList_inj -> qbg, getElem?_toList -> qbN, toList_extract -> qbV, perm_iff_toList_perm -> qcI, getElem_toList -> qem, range -> qet, toList_filterMap -> qe8, getD -> qfp, toList_reverse -> qfA, forIn_toList -> qgj, toList -> qgG, getElem?_setIfInBounds -> qg6, getElem_mem_toList -> qhU, toList_range -> qi8, toList_push -> qjy, replicate -> qj3
open Array.Perm renaming refl -> qno
open Bool renaming false_ne_true -> qan, false_eq_true -> qaq, and_eq_true -> qbb, not_true -> qbr, not_eq_true' -> qcA, or_eq_true -> qds, eq_iff_iff -> qdY, not_false -> qeh, false_and -> qeM, or_false -> qeZ, not_eq_true -> qe7, not_eq_false' -> qgs, false_or -> qgt, xor_false -> qhS, and_false -> qhT, and_true -> qkB
open Classical renaming byContradiction -> qch
open False renaming elim -> qdL
open Int renaming toNat_natCast -> qaK, eq_ofNat_of_zero_le -> qbB, mul_assoc -> qbH, zero_add -> qcR, zero_mul -> qdQ, mul_left_comm -> qeg, mul_zero -> qeK, mul_comm -> qeL, one_mul -> qe5, mul_one -> qgg, mul_add -> qgh, emod_lt_of_pos -> qgy, pow_succ -> qg3, add_zero -> qg4, emod_nonneg -> qhE, fdiv_eq_ediv_of_nonneg -> qhQ, natAbs_mul -> qh3, reduceNeg -> qiu, ediv_ediv_of_nonneg -> qiv, toNat -> qiT, le_trans -> qiU, pow_add -> qju, le_refl -> qjv, add_mul -> qjw, natAbs_add_le -> qjX, ediv_nonneg -> qkh, le_of_lt -> qlR, ediv_one -> qlS, pow_pos -> qmb
open List renaming length_map -> qag, mem_cons_of_mem -> qah, mem_cons_self -> qak, map_cons -> qal, length_cons -> qam, size_toArray -> qat, mem_append_right -> qav, getElem?_eq_some_iff -> qax, mem_cons -> qay, mem_map -> qaz, getElem?_eq_getElem -> qaE, mem_singleton -> qaI, map_map -> qaJ, range -> qaN, map_congr_left -> qaP, sum_cons -> qaQ, all_eq_true -> qaT, replicate -> qaV, getElem?_map -> qaZ, getD_eq_getElem?_getD -> qa1, getElem?_append_left -> qa2, length_append -> qa4, map_append -> qa5, getD_cons_zero -> qa6, getElem?_append_right -> qbi, mem_of_getElem? -> qbl, getD_cons_succ -> qbn, mem_append -> qbo, Nodup -> qbp, take_length -> qbv, pairwise_cons -> qbw, length_nil -> qbx, foldl_cons -> qby, mem_range -> qbz, take_add_one -> qbJ, all_cons -> qbQ, nodup_cons -> qbR, cons_append -> qbS, replicate_succ -> qbY, extract_eq_take_drop -> qb4, lookup_cons -> qb6, append_assoc -> qca, pairwise_map -> qci, drop_eq_getElem_cons -> qcl, length_take -> qcr, mem_append_left -> qct, getElem?_set_ne -> qcu, any_cons -> qcw, length_range -> qcy, flatten_cons -> qcz, mem_map_of_mem -> qcC, take_of_length_le -> qcD, isEmpty_nil -> qcM, take_append_drop -> qcO, pairwise_iff_getElem -> qcT, nil_append -> qcX, length_set -> qcY, map_nil -> qc2, filterMap_cons -> qc4, getElem_mem -> qda, filter_cons -> qdb, getElem?_set_self -> qdd, mem_filter -> qdn, length_replicate -> qdo, length_filter_le -> qdp, append_nil -> qdq, nodup_append -> qdv, pairwise_append -> qdy, mem_iff_getElem -> qdz, take_zero -> qdE, filterMap_cons_some -> qdM, set_cons_zero -> qdT, set_cons_succ -> qdU, getElem?_replicate -> qdV, find?_cons -> qdW, take_succ_eq_append_getElem -> qd4, mapM_toArray -> qd9, foldl_append -> qea, set_append_right -> qei, map_id -> qeu, filter_map -> qev, drop_zero -> qeI, filterMap_cons_none -> qeT, length_eq_zero_iff -> qeY, not_mem_nil -> qe4, pairwise_lt_range -> qfb, find?_cons_of_pos -> qfc, find?_cons_of_neg -> qfd, sum_append -> qfl, length_singleton -> qfm, all_nil -> qfn, map -> qfy, foldl -> qfz, mem_of_mem_take -> qfE, mem_of_mem_drop -> qfF, nodup_nil -> qfL, forIn_nil -> qfM, replicate_zero -> qfV, getElem_of_mem -> qfW, filter_eq_self -> qfX, mem_filterMap -> qgq, map_filterMap -> qgr, ext_getElem? -> qgF, nodup_range -> qgY, length_drop -> qgZ, getElem_inj -> qg0, drop_length -> qg1, all_toArray -> qg2, take_left' -> qhl, of_mem_zip -> qhm, forIn_cons -> qhn, perm_ext_iff_of_nodup -> qhC, length_erase_of_mem -> qh1, getElem?_take_of_lt -> qh2, pairwise_singleton -> qh7, map_take -> qh8, range_succ_eq_map -> qir, length_pos_of_mem -> qis, perm_append_comm -> qiz, mem_iff_getElem? -> qiA, getElem?_eq_none -> qiB, getD -> qiC, all_map -> qiD, mem_erase_of_ne -> qiQ, getElem?_of_mem -> qiR, cons_merge_cons -> qiS, take_succ_cons -> qi5, length -> qi6, zip_cons_cons -> qjr, filter_append -> qjs, push_toArray -> qjH, filter_congr -> qjI, any_eq_false -> qjJ, mem_flatten -> qjU, isEmpty_iff -> qjV, any_eq_true -> qjW, foldl_map -> qkg, take_add -> qkw, map_drop -> qkx
open List.Pairwise renaming sublist -> qkO, map -> qkP, imp_of_mem -> qkQ, filterMap -> qkR, filter -> qkS
open List.Perm renaming refl -> qcb, eq_of_pairwise -> qey
open List.Sublist renaming refl -> qlQ
open Nat renaming le_refl -> qap, ne_of_lt -> qar, le_trans -> qaL, lt_of_lt_of_le -> qaR, zero_le -> qaW, lt_succ_of_lt -> qa0, zero_add -> qbt, ne_of_gt -> qbu, pow_le_pow_right -> qbA, lt_succ_self -> qb7, zero_testBit -> qcf, testBit_or -> qco, not_lt_zero -> qcq, eq_of_testBit_eq -> qcv, lt_irrefl -> qcx, le_succ -> qc9, le_of_lt -> qdt, sub_self -> qdP, testBit_xor -> qd2, div_div_eq_div_mul -> qd8, pow_pos -> qef, le_of_eq -> qej, testBit_and -> qex, lt_of_le_of_lt -> qeH, add_assoc -> qe3, lt_trans -> qfw, and_zero -> qfx, pow_lt_pow_right -> qfJ, mul_le_mul_right -> qfK, mul_le_mul -> qfU, zero_or -> qge, add_one_ne_zero -> qgf, testBit_eq_decide_div_mod_eq -> qgE, one_shiftLeft -> qgN, mod_lt -> qgO, sub_zero -> qgV, pow_succ -> qgW, add_zero -> qgX, le_of_not_lt -> qhf, le_add_right -> qhg, pow_add -> qhA, add_mul -> qhB, lt_pow_two_of_testBit -> qh0, reduceSub -> qip, reduceAdd -> qiq, testBit_lt_two_pow -> qix, lt_of_succ_lt_succ -> qiy, pow_zero -> qiO, add_comm -> qiP, or_zero -> qjp, div_one -> qjq, eq_zero_or_pos -> qjG, succ_ne_self -> qj6, xor_assoc -> qkM, zero_xor -> qlJ, xor_zero -> qlK, succ_pos -> qlL, succ_add -> qlM, or_assoc -> qlN, mul_comm -> qlO, lt_or_ge -> qlP, log2_lt -> qma
open Ne renaming symm -> qdi
open Option renaming bind_eq_some_iff -> qac, map_eq_some_iff -> qad, bind_some -> qaf, map_some -> qaC, isSome_iff_exists -> qcV, map -> qgp, isSome_some -> qiN, getD_none -> qjo
open Option.some renaming inj -> qaS
open Prod renaming fst -> qa3
open PyProof.Rows renaming wpS_bind -> qaw, wpS_pure -> qaH, boot_tuple -> qa7, SortSt -> qbq, pendingOf -> qbD, slot_tuple_getitem -> qbW, wpS_forRange -> qb5, callWith_type1 -> qb8, seqObj -> qcc, failedOf -> qcg, boot_isinstance -> qcp, boot_sorted -> qcK, wpS_modify -> qdl, IntsAre -> qdC, SortKind -> qdJ, callWith_builtin1 -> qdN, boot_sum -> qdO, wpS_mono -> qec, wpS_get -> qew, KeyOrd -> qeB, gallopOf -> qeC, entry_list_sort -> qga, entry_proto_collect' -> qgu, slot_list_sort -> qgA, args_list_sort -> qgD, boot_repr -> qgM, AllBare -> qgQ, boot_set -> qgR, boot_int -> qgS, boot_abs -> qgT, mirror -> qha, envOfC -> qhb, assignInOrder_cons -> qhc, lt_int -> qhk, sortedHeap -> qht, size_push' -> qhu, plain_sorted -> qhG, entry_sorted -> qhH, args_sorted1 -> qhI, entry_list_iadd' -> qhW, kind_sorted -> qii, sortedHeap_old -> qiI, setArr -> qiX, subscriptTail -> qja, sortedHeap_at -> qjb, oneType' -> qjf, listUpdate_at -> qjg, subscriptTail_builtinR -> qjz, seqEpoch_at -> qkb, keyKind'_eq -> qkc, getElem?_mirror_all -> qkd, entry_tuple_getitem -> qke, keyKind' -> qko, args_tuple_getitem -> qks, assignInOrder_nil -> qkI, Subscript_ -> qkL, envOfC -> qlG, boot_bool -> qlH, IntsAre -> qlI, sortedAll -> qlX, oneTypeOnly'_eq -> ql3, getElem?_bubble -> ql8, slicePart_none -> qme, boot_enumerate -> qmj
open PyProof.Rows.F renaming plain_set_update_loop -> qbE, entry_set_update_loop -> qcn
open PyProof.Rows.IntsAre renaming length -> qi2, int_at -> qi3
open PyProof.Rows.KeyOrd renaming kle_trans -> qbG, kle_refl -> qdj, kle_of_klt -> qd5, klt_of_kle_of_klt -> qeJ, klt_of_klt_of_kle -> qhD, kle_antisymm -> qiE, klt_asymm -> qjt
open PyProof.Rows.SortSt renaming mk' -> qb0
open PySem renaming wpAny_bind -> qaa, wpAny_pure -> qab, Shared -> qaj, mainGlobals -> qaB, sizeLine -> qaO, Program -> qaY, Around -> qa9, wpAny_call_entry -> qbd, FuncData -> qbf, wpAny_newObj_type -> qbh, wpAny_holding -> qbk, wpAny_callSpecial?_slot -> qbC, sizeLine_eq -> qbM, mem_of_lookup -> qbO, starEach -> qbP, binaryOp -> qbT, IntMulOk -> qbU, boot_len -> qbX, Spec -> qb1, codeAny_builtin -> qb2, assignEach -> qcd, SetTable -> qcj, NameKind -> qck, cellsFrom -> qcm, Builtin -> qcs, compareOp -> qcB, wpAny_setField -> qcE, wpAny_setState_of -> qcF, wpAny_mono -> qcG, sysModules -> qcH, wpAny_Call_Name_kw -> qcW, wpAny_storeSet_of -> qc6, wpAny_ite_split -> qc7, foldedSetIterable -> qc8, bootBuiltins -> qdc, wpAny_typeNameOfWhole_keyiter -> qdk, firstArgMember -> qdm, wpAny_passesOwn -> qdA, pushCells_keeps -> qdB, wpAny_rule -> qdG, wpAny_newList -> qdH, call_meets -> qdI, wpAny_isInstance -> qdR, unsupported -> qdZ, intKind -> qd0, wpAny_typeNameOf_keyiter -> qd3, wpAny_pyIter_tuple -> qed, wpAny_attempt -> qee, isSubtype_type -> qen, pyNext -> qeq, codeAny_mono -> qer, backTo -> qes, rawInt -> qeA, behindInMarks -> qeD, attributeBase -> qeE, wpAny_load -> qeG, wpAny_field -> qeN, sliceBounds -> qeO, DictEntry -> qeS, wpAny_runValue -> qe0, wpAny_pyIter_slot -> qfe, wpAny_pyIter_enum -> qff, swapsWith -> qfg, wpAny_standAt -> qfq, swapsWithSole -> qfr, swappedStores -> qfs, strLen_append -> qft, holding -> qfu, wpAny_askSetting -> qfB, wpAny_typeOf -> qf2, wpAny_ite_false -> qf3, wpAny_execs_nil -> qf4, spliced -> qf5, setAddHashed -> qf6, pushCells -> qf7, letOwnedTupleGo -> qf8, getItem -> qf9, codeAny -> qgb, slotArgs -> qgk, setEntries -> qgl, list_append -> qgv, entryFor_alias -> qgB, assign -> qgC, wpAny_of_eq -> qgH, keywordEach -> qgI, wpAny_handled -> qg7, tupleKind_room_in1 -> qg8, tupleKind -> qg9, wpAny_truthy_bool -> qhq, wpAny_dictEntries -> qhr, typeIs_int -> qhs, intKind_is -> qhv, Paired -> qhO, IsPart -> qhP, noFill_tuple_add -> qhV, IntMulOk -> qh9, GenState -> qia, wpAny_throw -> qic, wpAny_specialOf -> qid, wpAny_dictEpoch -> qie, valueAt -> qif, subscripted -> qig, pyIter -> qih, hashByValue -> qij, codeAny_of_tree -> qik, callerA -> qil, PassesOwn -> qio, Keyword -> qit, wpAny_seqItems -> qiG, wpAny_binaryOp_repeat_ref -> qiH, isSubtype_stop -> qiJ, wpAny_comprehension_free -> qiW, newExc -> qiY, checkCount -> qiZ, builtinsNs -> qi0, wpAny_pyNext_enum_itemD -> qi9, setEpoch -> qjc, seq_tuple_add -> qjd, plainId_quiet -> qje, entryFor -> qjh, compEnvC -> qji, collect -> qjj, backToKw -> qjk, assignInOrder -> qjl, call -> qjn, BindsTo -> qjx, codeAny_compStart_list -> qjA, seqSlot_of -> qjC, wpAny_isOneOf_keyiter -> qjK, weight_type_call_type -> qjL, seqIndex_neg -> qjM, putSet_of -> qjN, pickOrder -> qjO, concat_meets -> qjP, builtinLookup_eq_fast -> qjQ, codeAny_call_builtin -> qj4, wpAny_binaryOp_same -> qj8, wpAny_alloc -> qj9, seqIndex_of -> qka, setRelay -> qkl, raiseNew -> qkm, newTuple -> qkn, fieldsOf -> qkq, bindName -> qkr, Within -> qku, wpAny_sequenceKey -> qkC, wpAny_pyIter_list -> qkD, wpAny_call -> qkE, wpAny_assign_Name -> qkF, wpAny_Name -> qkG, slot_list_getitem -> qkH, wpAny_setScan_of -> qk1, wpAny_execs_cons -> qk2, setDiscardHashed -> qk3, check_set_init_1 -> qk4, typeLookup_type -> qlV, standAt -> qlW, setWalk -> qlY, setScan -> qlZ, setNext -> ql0, setItem -> ql1, seqIndex? -> ql2, newList -> ql4, isTrue -> ql5, isSubtype -> ql6, hashInt -> ql7, Result -> ql9, wpAny_fieldsOf -> qmc, wpAny_bindName -> qmd, setAddHashedIn -> qmf, recursionLimit -> qmg, newFunctionEnv -> qmh, fitsIndex_both -> qmi
open PySem.Around renaming under_plainId -> qdw, under_plain -> qiV
open PySem.AutoSeq1 renaming sub_tuple_tuple -> qhh
open PySem.Builtin renaming bitAnd -> qez
open PySem.Builtin.Dict renaming showsAll -> qg5, dictSlotNone -> qlU
open PySem.Builtin.Dict_items renaming ownsTuple -> qe6
open PySem.Builtin.Frozenset renaming updateFrom -> qcU, isAnySet -> qc0, addrOf -> qde, unchanged -> qfi, sizeOf -> qfG, baseOf -> qfH, slot1 -> qfO, slot0 -> qfP, merge -> qfQ, symmetricDifferenceUpdate -> qjZ, newFrom -> qj0, newClass -> qj1, copyOf -> qj2
open PySem.Builtin.Int renaming intBits -> qhF
open PySem.Builtin.List renaming listTooLong -> qcL, listExtendWith -> qeb, listLengthHint -> qf1
open PySem.Builtin.Range renaming rangeSize -> qkZ
open PySem.Builtin.Slice renaming slicePlaces -> qdf, sliceAdjust -> qek, sliceApplied -> qf0, slicePartIndex -> qkX, sliceFields -> qkY
open PySem.Builtin.SmallTypes renaming nextOf -> qc5
open PySem.Builtin.Tuple renaming tupleExact -> qdr, tupleTooMany -> qfY, tupleItemsOf -> qfZ, tupleIsExact -> qkU, tupleHashOf -> qkV, tupleCompareSizes -> qkW
open PySem.Calls renaming spliced_cons -> qcN, spliced_nil -> qdu, call_function_entry -> qdD, Name_function_global -> qhp, callWith_builtin -> qib, evalArgs_plain -> qiF
open PySem.Code renaming quiet_builtin -> qdX
open PySem.Draws renaming list -> qlT
open PySem.Env renaming kindOf -> qnn
open PySem.F renaming called_set -> qbj, slot_dict_keyiterator_next -> qb9, slot_tuple_iterator_next -> qdF, slot_set_iter -> qd6, args_tuple_add_2 -> qeF, entry_tuple_add -> qeR, slot_tuple_add -> qeU, slot_tuple_lt -> qe1, slot_dict_get -> qe2, args_dict_keyiterator_next_1 -> qfk, slot_tuple_mul -> qfo, entry_dict_keyiterator_next -> qfv, slot_int_rmul -> qfN, args_list_append_2 -> qgi, entry_list_append -> qgz, slot_list_append -> qgP, entry_type_call -> qhw, args_tuple_lt_2 -> qhx, args_set_iter_1 -> qhy, args_dict_get_3 -> qhz, typeCall_set_1 -> qhJ, slot_dict_iter -> qhK, entry_tuple_lt -> qhL, entry_set_init -> qhM, entry_dict_get -> qhN, args_tuple_iterator_next_1 -> qhR, plain_set_new -> qhZ, entry_tuple_iterator_next -> qh4, slot_set_xor -> qh6, slot_set_or -> qin, args_tuple_mul_2 -> qj7, slot_tuple_rmul -> qki, entry_tuple_mul -> qkj, args_int_rmul_2 -> qkk, slot_int_index -> qkz, entry_int_rmul -> qkA, fills_int_mul -> qkT
open PySem.Heap renaming get?_push_of_some -> qae, lt_size -> qao, get?_push_size -> qau, SameBut -> qbm, size_push -> qbK, get?_update_self -> qbZ, get?_push_ne -> qcZ, get?_update_other -> qd7, ExtBut -> qho, get?_update_ne -> qi7, size_update -> qjY
open PySem.Heap.IsSliceOf renaming new -> qky
open PySem.Heap.SameBut renaming update -> qa8, refl -> qep
open PySem.IsL renaming update -> qgd
open PySem.Moved renaming trans -> qkN
open PySem.Obj renaming data_mapFields -> qbL, mapSeq -> qce, isFreed_of_fields -> qcQ, cls_mapFields -> qdx, putSet -> qeV, mapFields -> qgx
open PySem.Paired renaming length -> qfT, snoc -> qkv
open PySem.PassesOwn renaming never -> qbs
open PySem.PyData renaming shownAll -> qeo, depth -> qfa, shown -> qgw, depthAll -> qgU, showableAll -> qiM, hasDictAll -> qi4, showable -> qjF, hasDict -> qjT
open PySem.SeqAt renaming EqAt -> qeQ, ne_of_list_tuple -> qh5, RcNeAt -> qkt, RcAt -> qlF
open PySem.SeqAt.EqAt renaming of_refs -> qfj, same -> qgo, str_int -> qhX, int_str -> qhY, tuple_str -> qmS, tuple_none -> qmT, tuple_list -> qmU, tuple_int -> qmV, tuple_bool -> qmW, str_tuple -> qmX, str_str -> qmY, str_none -> qmZ, str_list -> qm0, str_bool -> qm1, none_tuple -> qm2, none_str -> qm3, none_list -> qm4, none_int -> qm5, none_bool -> qm6, list_tuple -> qm7, list_str -> qm8, list_none -> qm9, list_int -> qna, list_bool -> qnb, int_tuple -> qnc, int_none -> qnd, int_list -> qne, int_int -> qnf, int_bool -> qng, bool_tuple -> qnh, bool_str -> qni, bool_none -> qnj, bool_list -> qnk, bool_int -> qnl, bool_bool -> qnm
open PySem.SeqAt.RcAt renaming tuples -> qfD, lists_lengths -> qgJ, lists -> qim, tuple_str -> qmk, tuple_none -> qml, tuple_list -> qmm, tuple_int -> qmn, tuple_bool -> qmo, str_tuple -> qmp, str_str -> qmq, str_none -> qmr, str_list -> qms, str_int -> qmt, str_bool -> qmu, none_tuple -> qmv, none_str -> qmw, none_none -> qmx, none_list -> qmy, none_int -> qmz, none_bool -> qmA, list_tuple -> qmB, list_str -> qmC, list_none -> qmD, list_int -> qmE, list_bool -> qmF, int_tuple -> qmG, int_str -> qmH, int_none -> qmI, int_list -> qmJ, int_int -> qmK, int_bool -> qmL, bool_tuple -> qmM, bool_str -> qmN, bool_none -> qmO, bool_list -> qmP, bool_int -> qmQ, bool_bool -> qmR
open PySem.SeqAt.RcNeAt renaming tuples -> qhj, tuple_str -> qk5, tuple_none -> qk6, tuple_list -> qk7, tuple_int -> qk8, tuple_bool -> qk9, str_tuple -> qla, str_str -> qlb, str_none -> qlc, str_list -> qld, str_int -> qle, str_bool -> qlf, none_tuple -> qlg, none_str -> qlh, none_none -> qli, none_list -> qlj, none_int -> qlk, none_bool -> qll, lists_lengths -> qlm, lists -> qln, list_tuple -> qlo, list_str -> qlp, list_none -> qlq, list_int -> qlr, list_bool -> qls, int_tuple -> qlt, int_str -> qlu, int_none -> qlv, int_list -> qlw, int_int -> qlx, int_bool -> qly, bool_tuple -> qlz, bool_str -> qlA, bool_none -> qlB, bool_list -> qlC, bool_int -> qlD, bool_bool -> qlE
open PySem.SetTable renaming below -> qaD, sizeAbove -> qbc, bits -> qbF, turns -> qcJ, toList_insertAt -> qcS, grown -> qc1, leap -> qdg, insertAt -> qdh, laid -> qdK, fresh -> qd1, eraseAt -> qeP, runEnd -> qeW, has -> qeX, Probe -> qfh, fill -> qfC, layClean -> qfS, advance -> qgn, slot -> qhi, probe -> qjm, fits -> qjB, put -> qjR
open PySem.SetTable.below renaming go -> qel
open PySem.SetTable.layClean renaming free -> qcP
open PySem.SetTable.probe renaming go -> qe9
open PySem.Shared renaming TypeIs -> qj5
open PySem.Str renaming ofString -> qc3
open PySem.Value renaming isStrOf -> qkf, isInt -> qkK
open PySem.W renaming Frag -> qai, keepIn -> qaF, nsIn -> qaG, codeIn -> qaM, fnOf -> qaU, mg_of -> qaX, mg_none_of -> qbI, kia_one -> qb3, cellsFrom_some -> qdS, kdl_extend -> qfI, methodObj -> qgc, instObj -> qgK, OpenLaw -> qgL, lookIn -> qhd, KdlSrc -> qhe, kitx_tuple -> qiw, kitx_list -> qiK, kitx_dict -> qiL, plainGet -> qi1, kitOne -> qjD, findIn -> qjE, WalkO -> qjS, hashAt -> qkp
open PySem.W.WShape renaming has -> qkJ
open PySem.WalksT renaming enumerateD -> qgm
open PySem.pickOrder renaming go -> qfR
namespace L2
open PySem PySem.Spec PyProof.Rows
abbrev Key:=Sum Int Str
def rs:Key->Value->Bool
 |.inl k,v=>qkK k v
 |.inr x,v=>qkf x v
def HZ (w:World):Key->Int
 |.inl k=>ql7 k
 |.inr x=>hashStr w x
theorem cg:∀ {k:Key}{v:Value},rs k v=true->(∃ i t,k=Sum.inl i/\v=Value.int i t)\/(∃ x t,k=Sum.inr x/\v=Value.str x t)
 |.inl i,v,h=>by
  obtain⟨t,e⟩:=Value.isInt_shape (k:=i) (v:=v) h
  exact .inl ⟨i,t,rfl,e⟩
 |.inr x,v,h=>by
  obtain⟨t,e⟩:=Value.isStrOf_shape (x:=x) (v:=v) h
  exact .inr ⟨x,t,rfl,e⟩
theorem ze (i:Int) (t:Tok):rs (.inl i) (.int i t)=true:=by simp[rs,qkK]
theorem zD (x:Str) (t:Tok):rs (.inr x) (.str x t)=true:=by simp[rs,qkf]
theorem Gn (a b:Int):decide ((Sum.inl a:Key)=Sum.inl b)=(a==b):=by
 by_cases e:a=b
 ·subst e;simp
 ·have h:¬ (Sum.inl a:Key)=Sum.inl b:=λq=>e (Sum.inl.inj q)
  rw[decide_eq_false h]
  exact (beq_eq_false_iff_ne.mpr e).symm
theorem Fi (a b:Str):decide ((Sum.inr a:Key)=Sum.inr b)=decide (a=b):=by
 by_cases e:a=b
 ·subst e;simp
 ·have h:¬ (Sum.inr a:Key)=Sum.inr b:=λq=>e (Sum.inr.inj q)
  rw[decide_eq_false h,decide_eq_false e]
theorem Fp (a:Int) (b:Str):decide ((Sum.inl a:Key)=Sum.inr b)=false:=decide_eq_false (λq=>nomatch q)
theorem Gk (a:Str) (b:Int):decide ((Sum.inr a:Key)=Sum.inl b)=false:=decide_eq_false (λq=>nomatch q)
def cu (prog:qaY) (w:World):PySem.KeyKind prog w Key where
 is:=rs
 hash:=HZ w
 inj:=λv a b ha hb=>by
  rcases cg ha with⟨i,t,rfl,rfl⟩|⟨x,t,rfl,rfl⟩
  ·rcases cg hb with⟨j,u,rfl,e⟩|⟨y,u,rfl,e⟩
   ·injection e with e1 _;rw[e1]
   ·exact nomatch e
  ·rcases cg hb with⟨j,u,rfl,e⟩|⟨y,u,rfl,e⟩
   ·exact nomatch e
   ·injection e with e1 _;rw[e1]
 byValue:=λk v h=>by
  rcases cg h with⟨i,t,rfl,rfl⟩|⟨x,t,rfl,rfl⟩<;>rfl
 pyHash:=λhv h=>by
  rcases cg hv with⟨i,t,rfl,rfl⟩|⟨x,t,rfl,rfl⟩
  ·exact wpAny_pyHash_int h
  ·exact wpAny_pyHash_str h
 eqBool:=λhu hv h=>by
  rcases cg hu with⟨i,t,rfl,rfl⟩|⟨x,t,rfl,rfl⟩
  ·rcases cg hv with⟨j,u,rfl,rfl⟩|⟨y,u,rfl,rfl⟩
   ·rw[Gn]at h;exact wpAny_eqBool_int h
   ·rw[Fp]at h;exact qhY i t y u _ _ _ _ h
  ·rcases cg hv with⟨j,u,rfl,rfl⟩|⟨y,u,rfl,rfl⟩
   ·rw[Gk]at h;exact qhX x t j u _ _ _ _ h
   ·rw[Fi]at h;exact wpAny_eqBool_str h
 «strs»:=λk x t v h=>by
  rcases cg h with⟨i,u,rfl,e⟩|⟨y,u,rfl,e⟩
  ·exact nomatch e
  ·injection e with e1 _
   subst e1
   cases v<;>rfl
theorem vP (prog:qaY) (w:World) (i:Int) (t:Tok):(cu prog w).is (.inl i) (.int i t)=true:=ze i t
theorem vN (prog:qaY) (w:World) (x:Str) (t:Tok):(cu prog w).is (.inr x) (.str x t)=true:=zD x t
inductive V where
 |non|bl (b:Bool)|int (i:Int)|str (x:Str)|byt (b:Array UInt8)|flt (b:UInt64)|ref (a:Addr)|ty (n:String)
 deriving DecidableEq
def aW:V->Value->Prop
 |.non,u=>u=Value.none
 |.bl b,u=>u=Value.bool b
 |.int i,u=>∃ t,u=Value.int i t
 |.str x,u=>∃ t,u=Value.str x t
 |.byt b,u=>∃ t,u=Value.bytes b t
 |.flt b,u=>∃ t,u=Value.float b t
 |.ref a,u=>u=Value.ref a
 |.ty n,u=>u=Value.type n
abbrev aP:List V->List Value->Prop:=qhO aW
theorem aP.length {xs:List V}{us:List Value} (r:aP xs us):xs.length=us.length:=qfT r
theorem aP.get:∀ {xs:List V}{us:List Value}{i:Nat}{x:V},aP xs us->xs[i]?=some x->∃ u,us[i]?=some u/\aW x u
 |_,_,_,_,.nil,e=>by simp at e
 |_,_,0,_,.cons r _,e=>by simp at e;subst e;exact⟨_,rfl,r⟩
 |_,_,i+1,x,.cons _ t,e=>by
  obtain⟨u,h1,h2⟩:=aP.get (i:=i) (x:=x) t (by simpa using e)
  exact⟨u,by simpa using h1,h2⟩
theorem aP.set {x:V}{u:Value} (r:aW x u):∀ {xs:List V}{us:List Value} (i:Nat),aP xs us->aP (xs.set i x) (us.set i u)
 |_,_,_,.nil=>.nil
 |_,_,0,.cons _ t=>.cons r t
 |_,_,i+1,.cons q t=>.cons q (aP.set r i t)
theorem aP.append:∀ {xs ys:List V}{us ws:List Value},aP xs us->aP ys ws->aP (xs++ys) (us++ws)
 |_,_,_,_,.nil,s=>s
 |_,_,_,_,.cons r t,s=>.cons r (aP.append t s)
theorem aP.take:∀ {xs:List V}{us:List Value} (n:Nat),aP xs us->aP (xs.take n) (us.take n)
 |_,_,0,_=>.nil
 |_,_,_+1,.nil=>.nil
 |_,_,n+1,.cons r t=>.cons r (aP.take n t)
theorem aP.drop:∀ {xs:List V}{us:List Value} (n:Nat),aP xs us->aP (xs.drop n) (us.drop n)
 |_,_,0,r=>r
 |_,_,_+1,.nil=>.nil
 |_,_,n+1,.cons _ t=>aP.drop n t
def mR:Option V->Option Value->Prop
 |some v,some u=>aW v u
 |none,none=>True
 |_,_=>False
def KV {κ:Type}:List (κ×V)->List (κ×Value)->Prop:=qhO λ(p:κ×V) (q:κ×Value)=>p.1=q.1/\aW p.2 q.2
def kV:Key->V
 |.inl i=>.int i
 |.inr x=>.str x
inductive HO where
 |lst (xs:List V)
 |tup (xs:List V)
 |dK (kvs:List (Key×V))|dT (kvs:List (List Key×V))
 |set (S:Int->Bool) (n:Nat)
 |ins (C dx:Addr) (fs:List (Str×V))
 |own (x:Addr)
 |xd (fs:List (Str×V))
 |met (f x:Addr)
 |rng (lo hi:Int)
 |frz (o:Obj) (u:HO)
 |tbl (ps:Array Value)
 |ext (φ:Heap->Prop)
abbrev Hp:=Addr->Option HO
def upd (H:Hp) (a:Addr) (o:HO):Hp:=λb=>if b=a then some o else H b
theorem bj {H:Hp}{a:Addr}{o:HO}:upd H a o a=some o:=by unfold upd;rw[if_pos rfl]
theorem aN {H:Hp}{a b:Addr}{o:HO} (h:b≠a):upd H a o b=H b:=by unfold upd;rw[if_neg h]
theorem Ht {H:Hp}{a b:Addr}{o u:HO} (h:H a=some o) (h':H b=some u) (d:o≠u):a≠b:=by
 intro e;subst e;rw[h]at h';exact d (qaS h')
theorem aO {H:Hp}{a b:Addr}{o:HO} (h:H a=some o) (h':H b=none):a≠b:=by
 intro e;subst e;rw[h]at h';cases h'
def eF (h:Heap) (a:Addr) (its:Array Value):Prop:=∃ o:Obj,h.get? a=some o/\o.cls=.type "tuple"/\(∃ n,o.data=.seq its n)/\o.dict=none
theorem eF.tup {h:Heap}{a:Addr}{its:Array Value} (x:eF h a its):IsTup h a its:=let ⟨o,e,c,n,_⟩:=x;⟨o,e,c,n⟩
theorem eF.new (h:Heap) (its:Array Value):eF (h.push { cls:=.type "tuple",data:=.seq its }) h.objs.size its:=⟨_,qau _ rfl,rfl,⟨_,rfl⟩,rfl⟩
section
variable (P:qaY) (w:World)
def cq (H:Hp) (h:Heap) (a:Addr):HO->Prop
 |.lst xs=>xs.length<=qaO/\∃ (its:List Value) (n:Nat),aP xs its/\h.get? a=some { cls:=.type "list",data:=.seq its.toArray n }
 |.tup xs=>xs.length<=qaO/\∃ its:List Value,aP xs its/\eF h a its.toArray
 |.dK kvs=>kvs.length<=qaO/\(a==qcH)=false/\∃ vs,KV kvs vs/\h.DictOf (cu P w) a vs
 |.dT kvs=>kvs.length<=qaO/\(a==qcH)=false/\∃ xs:List (List Key×Addr×Value),
   qhO (λ(p:List Key×V) (q:List Key×Addr×Value)=>p.1=q.1/\H q.2.1=some (.tup (p.1.map kV))/\aW p.2 q.2.2) kvs xs/\
   ∃ o es ep,h.get? a=some o/\o.ExactDict/\o.data=.dict es ep/\es.toList=xs.map (entryOfKey (qg9 (cu P w)))/\(xs.map (·.1)).Nodup
 |.set S n=>h.SetOf (qd0 P w) a S n
 |.ins C dx fs=>H dx=some (.own a)/\fs.length<=1000/\dx≠a/\h.get? a=some (qgK C dx)/\
   ∃ mA,h.Ns1 dx mA/\(∀ f,mR (fs.lookup f) (mA f))/\qku mA (fs.map (·.1))
 |.own _=>∃ o,h.get? a=some o
 |.xd fs=>∃ mA,h.Ns1 a mA/\∀ f,mR (fs.lookup f) (mA f)
 |.rng lo hi=>∃ t u v,h.get? a=some { cls:=.type "range",data:=.fields #[.int lo t,.int hi u,.int 1 v] }
 |.frz o u=>h.get? a=some o/\cq H h a u
 |.tbl ps=>h.get? a=some { cls:=.none,data:=.fields ps }
 |.met f x=>h.get? a=some (qgc (.ref f) (.ref x))
 |.ext φ=>φ h/\(∃ o,h.get? a=some o)/\∀ h1 h2:Heap,φ h1->(∀ o,h1.get? a=some o->h2.get? a=some o)->φ h2
def HOk (H:Hp) (h:Heap):Prop:=∀ a o,H a=some o->cq P w H h a o
end
section
variable {P:qaY}{w:World}{H H':Hp}{h h':Heap}{a:Addr}{o:HO}
theorem cq.lt (x:cq P w H h a o):a<h.objs.size:=by
 cases o with
 |lst xs=>obtain⟨_,_,_,_,e⟩:=x;exact qao e
 |tup xs=>obtain⟨_,_,_,p⟩:=x;exact p.tup.lt
 |dK kvs=>obtain⟨_,_,_,_,o,_,_,e,_⟩:=x;exact qao e
 |dT kvs=>obtain⟨_,_,_,_,o,_,_,e,_⟩:=x;exact qao e
 |set S n=>obtain⟨o,_,_,_,e,_⟩:=x;exact qao e
 |ins C dx fs=>obtain⟨_,_,_,e,_⟩:=x;exact qao e
 |own y=>obtain⟨_,e⟩:=x;exact qao e
 |xd fs=>obtain⟨_,⟨_,_,_,e,_⟩,_⟩:=x;exact qao e
 |rng lo hi=>obtain⟨_,_,_,e⟩:=x;exact qao e
 |frz ob u=>obtain⟨e,_⟩:=x;exact qao e
 |tbl ps=>exact qao (show h.get? a=some _ from x)
 |met f y=>exact qao (show h.get? a=some _ from x)
 |ext φ=>obtain⟨_,⟨_,e⟩,_⟩:=x;exact qao e
theorem qhO.mapP {α β:Type}{F G:α->β->Prop}:∀ {l₁:List α}{l₂:List β},qhO F l₁ l₂->(∀ a b,F a b->G a b)->qhO G l₁ l₂
 |_,_,.nil,_=>.nil
 |_,_,.cons r t,f=>.cons (f _ _ r) (qhO.mapP t f)
theorem cq.stay (x:cq P w H h a o) (k:∀ b u,(b=a\/H b=some (.own a))->h.get? b=some u->h'.get? b=some u)
  (ho:∀ b,H b=some (.own a)->H' b=some (.own a)) (ht:∀ b xs,H b=some (.tup xs)->H' b=some (.tup xs)):cq P w H' h' a o:=by
 induction o with
 |lst xs=>obtain⟨z,its,n,r,e⟩:=x;exact⟨z,its,n,r,k _ _ (.inl rfl) e⟩
 |tup xs=>obtain⟨z,its,r,ob,e,c⟩:=x;exact⟨z,its,r,ob,k _ _ (.inl rfl) e,c⟩
 |dK kvs=>obtain⟨z,y,vs,r,ob,es,ep,e,c⟩:=x;exact⟨z,y,vs,r,ob,es,ep,k _ _ (.inl rfl) e,c⟩
 |dT kvs=>
  obtain⟨z,y,xs,r,ob,es,ep,e,c⟩:=x
  exact⟨z,y,xs,qhO.mapP r λp q z=>⟨z.1,ht _ _ z.2.1,z.2.2⟩,ob,es,ep,k _ _ (.inl rfl) e,c⟩
 |set S n=>obtain⟨ob,es,ep,t,e,c⟩:=x;exact⟨ob,es,ep,t,k _ _ (.inl rfl) e,c⟩
 |ins C dx fs=>
  obtain⟨d,z,ne,e,mA,⟨od,es,ep,e2,c⟩,r⟩:=x
  exact⟨ho _ d,z,ne,k _ _ (.inl rfl) e,mA,⟨od,es,ep,k _ _ (.inr d) e2,c⟩,r⟩
 |own y=>obtain⟨ob,e⟩:=x;exact⟨ob,k _ _ (.inl rfl) e⟩
 |xd fs=>obtain⟨mA,⟨od,es,ep,e,c⟩,r⟩:=x;exact⟨mA,⟨od,es,ep,k _ _ (.inl rfl) e,c⟩,r⟩
 |rng lo hi=>obtain⟨t,u,v,e⟩:=x;exact⟨t,u,v,k _ _ (.inl rfl) e⟩
 |frz ob u ih=>obtain⟨e,q⟩:=x;exact⟨k _ _ (.inl rfl) e,ih q⟩
 |tbl ps=>
  have e:h.get? a=some { cls:=.none,data:=.fields ps }:=x
  show h'.get? a=some { cls:=.none,data:=.fields ps }
  exact k a _ (.inl rfl) e
 |met f y=>
  have e:h.get? a=some (qgc (.ref f) (.ref y)):=x
  show h'.get? a=some (qgc (.ref f) (.ref y))
  exact k a _ (.inl rfl) e
 |ext φ=>obtain⟨p,⟨o,e⟩,st⟩:=x;exact⟨st _ _ p λo q=>k _ _ (.inl rfl) q,⟨o,k _ _ (.inl rfl) e⟩,st⟩
theorem HOk.lt (x:HOk P w H h) (e:H a=some o):a<h.objs.size:=(x a o e).lt
theorem HOk.fresh (x:HOk P w H h) (e:h.objs.size<=a):H a=none:=by
 cases q:H a with
 |none=>rfl
 |some u=>exact absurd (qaR (x.lt q) e) (qcx _)
theorem HOk.kept (x:HOk P w H h) (k:∀ b u,h.get? b=some u->h'.get? b=some u):HOk P w H h':=λa o e=>
 (x a o e).stay (λb u _ q=>k b u q) (λ_ q=>q) λ_ _ q=>q
theorem HOk.laid (x:HOk P w H h) (k:∀ b u,h.get? b=some u->h'.get? b=some u) (hp:h.objs.size<=a) (new:cq P w (upd H a o) h' a o):HOk P w (upd H a o) h':=λb u e=>by
 have hn:=x.fresh hp
 by_cases hb:b=a
 ·subst hb;rw[bj]at e;cases e;exact new
 ·rw[aN hb]at e
  exact (x b u e).stay (λc v _ q=>k c v q) (λc q=>by rw[aN (aO q hn)];exact q) λc xs q=>by rw[aN (aO q hn)];exact q
end
def Rd (H:Hp) (a:Addr) (u:HO):Prop:=H a=some u\/∃ o,H a=some (.frz o u)
theorem Rd.of {H:Hp}{a:Addr}{u:HO} (h:H a=some u):Rd H a u:=.inl h
theorem Rd.ok {P:qaY}{w:World}{H:Hp}{h:Heap}{a:Addr}{u:HO} (r:Rd H a u) (x:HOk P w H h):cq P w H h a u:=by
 rcases r with r|⟨o,r⟩
 ·exact x a u r
 ·obtain⟨_,q⟩:=x a _ r
  exact q
def Mut:Option HO->Prop
 |some (.lst _)=>True
 |some (.dK _)=>True
 |some (.dT _)=>True
 |some (.set _ _)=>True
 |some (.ins _ _ _)=>True
 |some (.ext _)=>True
 |_=>False
section
variable {P:qaY}{w:World}{H:Hp}{h h':Heap}{x e:Addr}{o':HO}
theorem HOk.write (ok:HOk P w H h) (mu:Mut (H x)) (he:e=x\/H e=some (.own x)) (k:∀ b u,b≠e->h.get? b=some u->h'.get? b=some u) (heo:∃ u,h'.get? e=some u)
  (new:cq P w (upd H x o') h' x o'):HOk P w (upd H x o') h':=λb u q=>by
 have nown:∀ c y,H c=some (.own y)->c≠x:=λc y r z=>by subst z;rw[r]at mu;exact mu
 have ntup:∀ c xs,H c=some (.tup xs)->c≠x:=λc xs r z=>by subst z;rw[r]at mu;exact mu
 by_cases hb:b=x
 ·subst hb;rw[bj]at q;cases q;exact new
 ·rw[aN hb]at q
  by_cases hbe:b=e
  ·have q':H b=some (.own x):=by
    rcases he with z|z
    ·exact absurd (hbe.trans z) hb
    ·rw[hbe];exact z
   rw[q]at q';cases q'
   obtain⟨v,hv⟩:=heo
   exact⟨v,by rw[hbe];exact hv⟩
  ·refine (ok b u q).stay (λc v hc r=>k c v ?_ r) (λc r=>by rw[aN (nown c b r)];exact r) λc xs r=>by rw[aN (ntup c xs r)];exact r
   rcases hc with rfl|hc
   ·exact hbe
   ·rintro rfl
    rcases he with z|z
    ·exact nown c b hc z
    ·rw[hc]at z;cases z;exact hb rfl
end
structure Un (fs ex:List Addr) (H H':Hp) (h h':Heap):Prop where
 keep:∀ b o,h.get? b=some o->H b=none->b∉fs->b∉ex->h'.get? b=some o
 slot:∀ b o,h.get? b=some o->H b=none->b∈fs->b∉ex->∃ sl,h'.get? b=some { o with slots:=sl }
 free:∀ b o,h.get? b=some o->H b=none->b∉ex->H' b=none
 there:∀ b o,h.get? b=some o->b∉ex->∃ o',h'.get? b=some o'
 tups:∀ b xs,H b=some (.tup xs)->H' b=some (.tup xs)
 frzs:∀ b o u,H b=some (.frz o u)->H' b=some (.frz o u)
 tbls:∀ b ps,H b=some (.tbl ps)->∃ more,H' b=some (.tbl (ps++more))
section
variable {fs fs' ex ex':List Addr}{H H1 H2:Hp}{h h1 h2 h':Heap}{a x e:Addr}{o:HO}
theorem Un.any (u:Un fs ex H H1 h h1) {b:Addr}{ob:Obj} (q:h.get? b=some ob) (n:H b=none) (hx:b∉ex):∃ sl,h1.get? b=some { ob with slots:=sl }:=by
 by_cases hb:b∈fs
 ·exact u.slot b ob q n hb hx
 ·exact⟨ob.slots,u.keep b ob q n hb hx⟩
theorem Un.kept (k:∀ b u,h.get? b=some u->h'.get? b=some u):Un fs ex H H h h':=
 ⟨λb ob q _ _ _=>k b ob q,λb ob q _ _ _=>⟨ob.slots,k b ob q⟩,λ_ _ _ n _=>n,λb ob q _=>⟨ob,k b ob q⟩,λ_ _ q=>q,λ_ _ _ q=>q,λ_ ps q=>⟨#[],by rw[q];simp⟩⟩
theorem Un.refl:Un fs ex H H h h:=Un.kept λ_ _ q=>q
theorem Un.laid (k:∀ b u,h.get? b=some u->h'.get? b=some u) (hp:h.objs.size<=a) (hn:H a=none):Un fs ex H (upd H a o) h h' where
 keep:=λb u q _ _ _=>k b u q
 slot:=λb u q _ _ _=>⟨u.slots,k b u q⟩
 free:=λb u q n _=>by rw[aN (qar (qaR (qao q) hp))];exact n
 there:=λb u q _=>⟨u,k b u q⟩
 tups:=λb xs q=>by rw[aN (aO q hn)];exact q
 frzs:=λb u xs q=>by rw[aN (aO q hn)];exact q
 tbls:=λb ps q=>⟨#[],by rw[aN (aO q hn),q];simp⟩
theorem Un.write (mu:Mut (H x)) (he:e=x\/H e=some (.own x)) (k:∀ b u,b≠e->h.get? b=some u->h'.get? b=some u) (heo:∃ u,h'.get? e=some u):Un fs ex H (upd H x o) h h':=by
 have hx:∀ b,H b=none->b≠x:=λb n z=>by subst z;rw[n]at mu;exact mu
 have hb:∀ b,H b=none->b≠e:=λb n z=>by
  subst z
  rcases he with r|r
  ·exact hx b n r
  ·rw[n]at r;cases r
 have hm:∀ b u,H b=some u->¬ Mut (some u)->b≠x:=λb u q nm z=>by subst z;rw[q]at mu;exact nm mu
 refine⟨λb u q n _ _=>k b u (hb b n) q,λb u q n _ _=>⟨u.slots,k b u (hb b n) q⟩,λb u q n _=>by rw[aN (hx b n)];exact n,λb u q _=>?_,
  λb xs q=>by rw[aN (hm b _ q λz=>z)];exact q,λb u xs q=>by rw[aN (hm b _ q λz=>z)];exact q,λb ps q=>⟨#[],by rw[aN (hm b _ q λz=>z),q];simp⟩⟩
 by_cases hbe:b=e
 ·subst hbe;exact heo
 ·exact⟨u,k b u hbe q⟩
end
def trk (h:Heap) (H:Hp):List Addr:=(qaN h.objs.size).filter λa=>(H a).isSome
def sG (h:Heap) (H:Hp):Heap:=PySem.W.hideAll h (trk h H)
theorem zg (h:Heap) (H:Hp):(sG h H).objs.size=h.objs.size:=PySem.W.hideAll_size _ _
theorem AE {h:Heap}{H:Hp}{b:Addr}{o:Obj} (e:h.get? b=some o) (n:H b=none):(sG h H).get? b=some o:=
 PySem.W.hideAll_get _ e λhm=>by
  have q:(H b).isSome=true:=(qdn.mp hm).2
  rw[n]at q;simp at q
theorem De {h:Heap}{H:Hp}{b:Addr}{o:Obj} (e:(sG h H).get? b=some o):h.get? b=some o/\H b=none:=by
 have e':h.get? b=some o:=PySem.W.of_hideAll (trk h H) e
 refine⟨e',?_⟩
 cases q:H b with
 |none=>rfl
 |some x=>
  have hm:b∈trk h H:=qdn.mpr ⟨qbz.mpr (qao e'),by simp[q]⟩
  have z:(sG h H).get? b=none:=PySem.W.hideAll_none (trk h H) hm
  rw[z]at e;cases e
structure Mod (K:qai) (mg:Str->Option Value) (base:Heap):Prop where
 kin:K.In base
 glob:base.Ns qaB mg
 blt:∃ mb,base.Ns qi0 mb/\∀ x:Str,x≠"__name__"->mb x=qdc x
 nolimit:base.NoLimit
structure Cx where
 prog:qaY
 w:World
 K:qai
 mg:Str->Option Value
 base:Heap
 A:qa9
 N:List Str
 s₀:qaj
 H₀:Hp
 env:Env
 outer:List Env
 stack:List Env
 ex:List Addr
 fn:Str->Bool
 calm:Bool
 pn:List (Addr×Obj)
 xe:Value->qaj->Prop
def frs (l:List Env):List Addr:=l.filterMap (·.frame)
abbrev Cx.fs (X:Cx):List Addr:=frs X.outer
def Vis (sc:Scope) (x:Str):Prop:=sc.names.lookup x=some .local\/sc.names.lookup x=some .cell\/sc.names.lookup x=some .free
def Loc (sc:Scope) (x:Str):Prop:=sc.names.lookup x=some .local\/sc.names.lookup x=some .cell
def HG (env:Env) (h:Heap) (m:Str->Option Value) (x:Str) (u:Value):Prop:=
 (env.kindOf x=some .local/\m x=some u)\/((env.kindOf x=some .cell\/env.kindOf x=some .free)/\∃ c,env.cells.lookup x=some c/\h.IsCell c (some u))
structure Cx.Ok (X:Cx):Prop where
 mod:Mod X.K X.mg X.base
 kind:X.env.scope.kind=.function
 glob:X.env.globals=qaB
 blt:X.env.builtins=qi0
 above:X.s₀.heap.objs.size<=X.env.locals
 inj:∀ x y c,X.env.cells.lookup x=some c->X.env.cells.lookup y=some c->x=y
 has:∀ x,(X.env.kindOf x=some .cell\/X.env.kindOf x=some .free)->∃ c,X.env.cells.lookup x=some c
 cab:∀ x c,X.fn x=true->X.env.cells.lookup x=some c->X.s₀.heap.objs.size<=c
 hd:X.calm=true->X.A.handled=none
 frames:X.A.frames=some X.stack
 stk:X.stack=X.outer\/(X.stack=X.env::X.outer/\X.env.frame=some X.env.locals)
 exf:∀ b∈X.ex,b≠X.env.locals/\∀ x c,X.env.cells.lookup x=some c->c≠b
 bs:∀ b o,X.base.get? b=some o->X.s₀.heap.get? b=some o/\X.H₀ b=none
 bsz:X.base.objs.size<=X.s₀.heap.objs.size
 noex:∀ b o,X.base.get? b=some o->b∉X.ex
 exfs:∀ b∈X.ex,b∉X.fs
 funs:X.s₀.heap.FunFrames X.base X.outer
 frf:∀ b∈X.fs,X.H₀ b=none
structure Inv (X:Cx) (pins:List (Addr×Obj)) (σ:List (Option V)) (H:Hp) (s:qaj):Prop where
 ok:X.Ok
 os:s.os=X.s₀.os
 bare:qgQ s.gens
 base:Un X.fs X.ex X.H₀ H X.s₀.heap s.heap
 loc:∃ m,s.heap.Ns X.env.locals m/\∀ (i:Nat) (x:Str) (v:V),X.N[i]?=some x->σ[i]?=some (some v)->Vis X.env.scope x->∃ u,aW v u/\HG X.env s.heap m x u
 cell:∀ x c,X.env.cells.lookup x=some c->∃ v,s.heap.IsCell c v
 free:H X.env.locals=none
 freeC:∀ x c,X.env.cells.lookup x=some c->H c=none
 pin:∀ p∈X.pn++pins,s.heap.get? p.1=some p.2/\H p.1=none/\p.1≠X.env.locals/\p.1∉X.fs/\∀ v,p.2.data≠.cell v
 hok:HOk X.prog X.w H s.heap
 len:σ.length=X.N.length
section
variable {X:Cx}{pins:List (Addr×Obj)}{σ:List (Option V)}{H H':Hp}{s:qaj}{h':Heap}
theorem Cx.Ok.nofr (ok:X.Ok) {b:Addr}{o:Obj} (e:X.base.get? b=some o):b∉X.fs:=λhb=>by
 have:=(ok.funs.mem hb).1
 rw[e]at this;cases this
theorem Inv.bs (I:Inv X pins σ H s):∀ b o,X.base.get? b=some o->s.heap.get? b=some o/\H b=none:=λb o e=>
 ⟨I.base.keep b o (I.ok.bs b o e).1 (I.ok.bs b o e).2 (I.ok.nofr e) (I.ok.noex b o e),I.base.free b o (I.ok.bs b o e).1 (I.ok.bs b o e).2 (I.ok.noex b o e)⟩
theorem Inv.bk (I:Inv X pins σ H s):∀ b o,X.base.get? b=some o->s.heap.get? b=some o:=λb o e=>(I.bs b o e).1
theorem Inv.mod (I:Inv X pins σ H s):Mod X.K X.mg X.base:=I.ok.mod
theorem Inv.kIn (I:Inv X pins σ H s):X.K.In s.heap:=I.ok.mod.kin.keeps I.bk
theorem Inv.fr (I:Inv X pins σ H s):∃ m,Fr X.base X.env.locals s.heap m:=
 let ⟨m,hn,_⟩:=I.loc
 ⟨m,hn,I.bk,qaL I.ok.bsz I.ok.above⟩
theorem Inv.lt (I:Inv X pins σ H s):X.env.locals<s.heap.objs.size:=let ⟨_,hn,_⟩:=I.loc;hn.lt
theorem Inv.sz (I:Inv X pins σ H s):X.s₀.heap.objs.size<=s.heap.objs.size:=qaL I.ok.above (qdt I.lt)
theorem Inv.nofs (I:Inv X pins σ H s) {a:Addr} (h:s.heap.objs.size<=a):a∉X.fs:=λhb=>by
 obtain⟨_,o,ho,_⟩:=I.ok.funs.mem hb
 exact absurd (qaR (qao ho) (qaL I.sz h)) (qcx _)
theorem Inv.cne (I:Inv X pins σ H s):∀ x c,X.env.cells.lookup x=some c->c≠X.env.locals:=λx c e z=>by
 obtain⟨v,o,ho,hd⟩:=I.cell x c e
 obtain⟨m,⟨o',es,ep,ho',hd',_⟩,_⟩:=I.loc
 rw[z,ho']at ho;cases ho;rw[hd']at hd;cases hd
theorem Inv.funs (I:Inv X pins σ H s):s.heap.FunFrames X.base X.outer:=by
 have all:∀ (l:List Env),(∀ b∈frs l,b∈X.fs)->X.s₀.heap.FunFrames X.base l->s.heap.FunFrames X.base l:=by
  intro l
  induction l with
  |nil=>intro _ _;trivial
  |cons env r ih=>
   intro hs hl
   obtain⟨hk,⟨L,o,hf,hn,ho,hd⟩,hr⟩:=hl
   have hL:L∈X.fs:=hs L (by unfold frs;rw[qc4,hf];exact qak)
   obtain⟨sl,e⟩:=I.base.slot L o ho (I.ok.frf L hL) hL λz=>I.ok.exfs L z hL
   exact⟨hk,⟨L,_,hf,hn,e,hd⟩,ih (λb hb=>hs b (by unfold frs;rw[qc4,hf];exact qah _ hb)) hr⟩
 exact all X.outer (λ_ hb=>hb) I.ok.funs
theorem Inv.stack (I:Inv X pins σ H s):s.heap.FunFrames X.base X.stack:=by
 rcases I.ok.stk with e|⟨e,hf⟩
 ·rw[e];exact I.funs
 ·rw[e]
  obtain⟨m,hn,_⟩:=I.loc
  refine .cons (by rw[I.ok.kind];decide) hf hn ?_ I.funs
  exact Heap.get?_none_of_le (qaL I.ok.bsz I.ok.above)
theorem Inv.stkSub (I:Inv X pins σ H s):∀ b∈frs X.stack,b∈X.env.locals::X.fs:=λb hb=>by
 rcases I.ok.stk with e|⟨e,hf⟩
 ·rw[e]at hb;exact qah _ hb
 ·rw[e]at hb
  unfold frs at hb
  rw[qc4,hf]at hb
  exact hb
theorem Inv.stkFree (I:Inv X pins σ H s):∀ b∈frs X.stack,H b=none:=λb hb=>by
 rcases qay.mp (I.stkSub b hb) with e|hb
 ·rw[e];exact I.free
 ·obtain⟨_,o,ho,_⟩:=I.ok.funs.mem hb
  exact I.base.free b o ho (I.ok.frf b hb) λz=>I.ok.exfs b z hb
theorem Inv.step {g':Array qia}{t':Nat}{d':Drawn}{ch:List Addr} (I:Inv X pins σ H s)
  (hch:∀ b∈ch,(b∈X.ex\/X.s₀.heap.objs.size<=b)/\b≠X.env.locals/\(∀ x c,X.env.cells.lookup x=some c->c≠b)/\∀ p∈X.pn++pins,p.1≠b)
  (keep:∀ b o,b≠X.env.locals->b∉X.fs->b∉ch->s.heap.get? b=some o->H b=none->h'.get? b=some o)
  (slot:∀ b o,b≠X.env.locals->b∈X.fs->b∉ch->s.heap.get? b=some o->H b=none->∃ sl,h'.get? b=some { o with slots:=sl }) (free:∀ b o,b∉ch->s.heap.get? b=some o->H b=none->H' b=none)
  (there:∀ b o,b∉ch->s.heap.get? b=some o->∃ o',h'.get? b=some o')
  (tups:∀ b xs,H b=some (.tup xs)->H' b=some (.tup xs)) (frzs:∀ b o u,H b=some (.frz o u)->H' b=some (.frz o u)) (tbls:∀ b ps,H b=some (.tbl ps)->∃ more,H' b=some (.tbl (ps++more)))
  (ns:∀ m,s.heap.Ns X.env.locals m->h'.Ns X.env.locals m) (hok:HOk X.prog X.w H' h') (hg:qgQ g') :
  Inv X pins σ H' { s with heap:=h',gens:=g',drawn:=d',toks:=t' }:=by
 have neL:∀ b o,X.s₀.heap.get? b=some o->b≠X.env.locals:=λb o e=>qar (qaR (qao e) I.ok.above)
 have neC:∀ b o,X.s₀.heap.get? b=some o->b∉X.ex->b∉ch:=λb o e hx hb=>by
  rcases (hch b hb).1 with z|z
  ·exact hx z
  ·exact absurd (qaR (qao e) z) (qcx _)
 have cellK:∀ x c,X.env.cells.lookup x=some c->∀ v,s.heap.IsCell c v->h'.IsCell c v:=λx c e v ⟨o,ho,hd⟩=>by
  have nch:c∉ch:=λz=>(hch c z).2.2.1 x c e rfl
  by_cases hc:c∈X.fs
  ·obtain⟨sl,q⟩:=slot c o (I.cne x c e) hc nch ho (I.freeC x c e)
   exact⟨_,q,hd⟩
  ·exact⟨o,keep c o (I.cne x c e) hc nch ho (I.freeC x c e),hd⟩
 refine⟨I.ok,I.os,hg,⟨λb o e n hb hx=>?_,λb o e n hb hx=>?_,λb o e n hx=>?_,λb o e hx=>?_,λb xs e=>tups b xs (I.base.tups b xs e),λb o xs e=>frzs b o xs (I.base.frzs b o xs e),λb ps e=>?_⟩,?_,λx c e=>?_,?_,λx c e=>?_,λp hp=>?_,hok,I.len⟩
 ·exact keep b o (neL b o e) hb (neC b o e hx) (I.base.keep b o e n hb hx) (I.base.free b o e n hx)
 ·obtain⟨sl,e1⟩:=I.base.slot b o e n hb hx
  obtain⟨sl',e2⟩:=slot b _ (neL b o e) hb (neC b o e hx) e1 (I.base.free b o e n hx)
  exact⟨sl',e2⟩
 ·obtain⟨o',e1⟩:=I.base.there b o e hx
  exact free b o' (neC b o e hx) e1 (I.base.free b o e n hx)
 ·obtain⟨o',e1⟩:=I.base.there b o e hx
  exact there b o' (neC b o e hx) e1
 ·obtain⟨m1,e1⟩:=I.base.tbls b ps e
  obtain⟨m2,e2⟩:=tbls b _ e1
  exact⟨m1++m2,by rw[e2,Array.append_assoc]⟩
 ·obtain⟨m,hn,hl⟩:=I.loc
  refine⟨m,ns m hn,λi x v e1 e2 e3=>?_⟩
  obtain⟨u,r,l⟩:=hl i x v e1 e2 e3
  refine⟨u,r,?_⟩
  rcases l with l|⟨k,c,e,z⟩
  ·exact .inl l
  ·exact .inr ⟨k,c,e,cellK x c e _ z⟩
 ·obtain⟨v,z⟩:=I.cell x c e
  exact⟨v,cellK x c e v z⟩
 ·obtain⟨m,⟨o,_,_,ho,_⟩,_⟩:=I.loc
  exact free _ o (λz=>(hch _ z).2.1 rfl) ho I.free
 ·obtain⟨v,o,ho,hd⟩:=I.cell x c e
  exact free c o (λz=>(hch c z).2.2.1 x c e rfl) ho (I.freeC x c e)
 ·obtain⟨e,n,ne,nf,d⟩:=I.pin p hp
  have nch:p.1∉ch:=λz=>(hch p.1 z).2.2.2 p hp rfl
  exact⟨keep p.1 p.2 ne nf nch e n,free p.1 p.2 nch e n,ne,nf,d⟩
theorem Inv.un {t':Nat} (I:Inv X pins σ H s) (u:Un X.fs [] H H' s.heap h') (hok:HOk X.prog X.w H' h'):Inv X pins σ H' { s with heap:=h',toks:=t' }:=by
 obtain⟨m,⟨o,es,ep,ho,r⟩,_⟩:=id I.loc
 obtain⟨sl,hL⟩:=u.any ho I.free (by simp)
 exact I.step (g':=s.gens) (d':=s.drawn) (ch:=[]) (λ_ z=>nomatch z) (λb o _ hb _ e n=>u.keep b o e n hb (by simp)) (λb o _ hb _ e n=>u.slot b o e n hb (by simp)) (λb o _ e n=>u.free b o e n (by simp)) (λb o _ e=>u.there b o e (by simp)) u.tups u.frzs u.tbls (λm' hm=>by
  obtain⟨o',es',ep',ho',r'⟩:=hm
  rw[ho]at ho';cases ho'
  exact⟨_,es',ep',hL,r'⟩) hok I.bare
theorem Inv.call {g':Array qia}{t':Nat}{d':Drawn}{ch:List Addr} (I:Inv X pins σ H s) (u:Un (frs X.stack) ch H H' s.heap h') (hok:HOk X.prog X.w H' h') (hg:qgQ g')
  (hch:∀ b∈ch,(b∈X.ex\/X.s₀.heap.objs.size<=b)/\b≠X.env.locals/\(∀ x c,X.env.cells.lookup x=some c->c≠b)/\∀ p∈X.pn++pins,p.1≠b) :
  Inv X pins σ H' { s with heap:=h',gens:=g',drawn:=d',toks:=t' }:=by
 obtain⟨m,⟨o,es,ep,ho,r⟩,_⟩:=id I.loc
 obtain⟨sl,hL⟩:=u.any ho I.free λz=>(hch _ z).2.1 rfl
 exact I.step (ch:=ch) hch (λb o hL hb hc e n=>u.keep b o e n (λz=>(qay.mp (I.stkSub b z)).elim hL hb) hc) (λb o _ _ hc e n=>u.any e n hc) (λb o hc e n=>u.free b o e n hc) (λb o hc e=>u.there b o e hc) u.tups u.frzs u.tbls (λm' hm=>by
  obtain⟨o',es',ep',ho',r'⟩:=hm
  rw[ho]at ho';cases ho'
  exact⟨_,es',ep',hL,r'⟩) hok hg
theorem Inv.turned {t':Nat}{it:Addr} (I:Inv X pins σ H s) (k:∀ b o,b≠it->s.heap.get? b=some o->h'.get? b=some o) (hn:H it=none) (hL:it≠X.env.locals)
  (h1:it∈X.ex\/X.s₀.heap.objs.size<=it) (h2:∀ x c,X.env.cells.lookup x=some c->c≠it) (h3:∀ p∈X.pn++pins,p.1≠it):Inv X pins σ H { s with heap:=h',toks:=t' }:=by
 have nit:∀ b u,H b=some u->b≠it:=λb u e z=>by rw[z,hn]at e;cases e
 refine I.step (g':=s.gens) (d':=s.drawn) (ch:=[it]) (λb hb=>?_) (λb o _ _ hc e _=>k b o (λz=>hc (by simp[z])) e) (λb o _ _ hc e _=>⟨o.slots,k b o (λz=>hc (by simp[z])) e⟩) (λ_ _ _ _ n=>n)
  (λb o hc e=>⟨o,k b o (λz=>hc (by simp[z])) e⟩) (λ_ _ e=>e) (λ_ _ _ e=>e) (λb ps e=>⟨#[],by rw[e];simp⟩) (λm hm=>?_) (λb u e=>?_) I.bare
 ·have e:b=it:=by simpa using hb
  subst e
  exact⟨h1,hL,h2,h3⟩
 ·obtain⟨o,es,ep,ho,r⟩:=hm
  exact⟨o,es,ep,k _ o (qdi hL) ho,r⟩
 ·refine (I.hok b u e).stay (λc v hc q=>k c v ?_ q) (λ_ q=>q) λ_ _ q=>q
  rcases hc with z|z
  ·rw[z];exact nit b u e
  ·exact nit c _ z
theorem Inv.tok (I:Inv X pins σ H s) (t:Nat):Inv X pins σ H { s with toks:=t }:=I.un (h':=s.heap) (t':=t) Un.refl I.hok
theorem Inv.kept {t':Nat} (I:Inv X pins σ H s) (k:∀ b u,s.heap.get? b=some u->h'.get? b=some u):Inv X pins σ H { s with heap:=h',toks:=t' }:=I.un (Un.kept k) (I.hok.kept k)
theorem Inv.laid {a:Addr}{o:HO}{t':Nat} (I:Inv X pins σ H s) (k:∀ b u,s.heap.get? b=some u->h'.get? b=some u) (hp:s.heap.objs.size<=a) (new:cq X.prog X.w (upd H a o) h' a o) :
  Inv X pins σ (upd H a o) { s with heap:=h',toks:=t' }:=I.un (Un.laid k hp (I.hok.fresh hp)) (I.hok.laid k hp new)
theorem Inv.write {x e:Addr}{o:HO}{t':Nat} (I:Inv X pins σ H s) (mu:Mut (H x)) (he:e=x\/H e=some (.own x)) (k:∀ b u,b≠e->s.heap.get? b=some u->h'.get? b=some u) (heo:∃ u,h'.get? e=some u)
  (new:cq X.prog X.w (upd H x o) h' x o):Inv X pins σ (upd H x o) { s with heap:=h',toks:=t' }:=I.un (Un.write mu he k heo) (I.hok.write mu he k heo new)
theorem Inv.weak {σ':List (Option V)} (I:Inv X pins σ H s) (hl:σ'.length=σ.length) (w:∀ (i:Nat) v,σ'[i]?=some (some v)->σ[i]?=some (some v)):Inv X pins σ' H s:=
 ⟨I.ok,I.os,I.bare,I.base,let ⟨m,hn,hl'⟩:=I.loc;⟨m,hn,λi x v e1 e2 e3=>hl' i x v e1 (w i v e2) e3⟩,I.cell,I.free,I.freeC,I.pin,I.hok,hl.trans I.len⟩
theorem Inv.pins_of {pins':List (Addr×Obj)} (I:Inv X pins σ H s) (h:∀ p∈pins',s.heap.get? p.1=some p.2/\H p.1=none/\p.1≠X.env.locals/\p.1∉X.fs/\∀ v,p.2.data≠.cell v):Inv X pins' σ H s:=
 ⟨I.ok,I.os,I.bare,I.base,I.loc,I.cell,I.free,I.freeC,λp hp=>(qbo.mp hp).elim (λz=>I.pin p (qct _ z)) (h p),I.hok,I.len⟩
theorem vp {N:List Str} (hN:N.Nodup) {i j:Nat}{x:Str} (a:N[i]?=some x) (b:N[j]?=some x):i=j:=by
 obtain⟨h1,e1⟩:=qax.mp a
 obtain⟨h2,e2⟩:=qax.mp b
 exact (qg0 hN).mp (e1.trans e2.symm)
theorem za {M:Model}{A:qa9}{E:Value->qaj->Prop}{i:Nat}{x:Str}{v:V}{u:Value}{Q:Unit->qaj->Prop} (I:Inv X pins σ H s) (hN:X.N.Nodup) (hi:X.N[i]?=some x) (hx:Loc X.env.scope x) (r:aW v u)
  (h:∀ s',Inv X pins (σ.set i (some v)) H s'->(∃ a,qbm a s.heap s'.heap/\(a=X.env.locals\/X.env.cells.lookup x=some a))->Q () s') (hf:X.fn x=true\/X.env.scope.names.lookup x=some .local:=by first|exact .inl rfl|exact .inr rfl|assumption):wpAny M A (storeName X.env x u) Q E s:=by
 obtain⟨m,hn,hl⟩:=id I.loc
 have hcls:(X.env.scope.kind==.class||(X.env.scope.kind==.module&&X.env.locals != X.env.globals))=false:=by rw[I.ok.kind];rfl
 have hiσ:i<σ.length:=by rw[I.len];exact (qax.mp hi).1
 have cne:=I.cne
 have tracked:∀ {a:Addr}{h':Heap},(∃ o,s.heap.get? a=some o/\H a=none)->qbm a s.heap h'->HOk X.prog X.w H h':=λ{a h'} ha hs b ob e=>by
  obtain⟨_,_,hfree⟩:=ha
  refine (I.hok b ob e).stay (λc w' hc q=>(hs.2 c ?_).trans q) (λ_ q=>q) λ_ _ q=>q
  rintro rfl
  rcases hc with rfl|hc
  ·rw[hfree]at e;cases e
  ·rw[hfree]at hc;cases hc
 rcases hx with hk|hk
 ·refine wpAny_storeName_local hk hn (λh' hn' hs=>?_) hcls
  obtain⟨oL,_,_,hoL,_⟩:=id hn
  refine h _ ⟨I.ok,I.os,I.bare,⟨λb o e n hb hx=>?_,λb o e n hb hx=>?_,I.base.free,λb o e hx=>?_,I.base.tups,I.base.frzs,I.base.tbls⟩,⟨_,hn',λj y v' e1 e2 e3=>?_⟩,λy c e=>?_,I.free,I.freeC,λp hp=>?_,tracked ⟨oL,hoL,I.free⟩ hs,by simpa using I.len⟩ ⟨_,hs,.inl rfl⟩
  ·exact (hs.2 b (qar (qaR (qao e) I.ok.above))).trans (I.base.keep b o e n hb hx)
  ·obtain⟨sl,e1⟩:=I.base.slot b o e n hb hx
   exact⟨sl,(hs.2 b (qar (qaR (qao e) I.ok.above))).trans e1⟩
  ·obtain⟨o',e1⟩:=I.base.there b o e hx
   exact⟨o',(hs.2 b (qar (qaR (qao e) I.ok.above))).trans e1⟩
  ·by_cases hj:j=i
   ·subst hj
    rw[hi]at e1;cases e1
    rw[qdd hiσ]at e2
    cases e2
    exact⟨u,r,.inl ⟨hk,by simp⟩⟩
   ·rw[qcu (qdi hj)]at e2
    obtain⟨u',r',q⟩:=hl j y v' e1 e2 e3
    refine⟨u',r',?_⟩
    rcases q with⟨k,e⟩|⟨k,c,e,z⟩
    ·refine .inl ⟨k,?_⟩
     have:y≠x:=λe=>hj (vp hN e1 (e ▸ hi))
     simp[this,e]
    ·exact .inr ⟨k,c,e,z.sameBut hs (cne y c e)⟩
  ·obtain⟨w',z⟩:=I.cell y c e
   exact⟨w',z.sameBut hs (cne y c e)⟩
  ·obtain⟨e,n,ne,nf,d⟩:=I.pin p hp
   exact⟨(hs.2 p.1 ne).trans e,n,ne,nf,d⟩
 ·have hfn:X.fn x=true:=by
   rcases hf with z|z
   ·exact z
   ·rw[z]at hk;cases hk
  obtain⟨c,hc⟩:=I.ok.has x (.inl hk)
  obtain⟨w',z⟩:=I.cell x c hc
  refine wpAny_storeName_cell I.ok.kind hk hc z (λh' hc' hs=>?_)
  obtain⟨oc,hoc,hocd⟩:=id z
  refine h { s with heap:=h' } ⟨I.ok,I.os,I.bare,⟨λb o e n hb hx=>?_,λb o e n hb hx=>?_,I.base.free,λb o e hx=>?_,I.base.tups,I.base.frzs,I.base.tbls⟩,⟨m,hn.sameBut hs (qdi (cne x c hc)),λj y v' e1 e2 e3=>?_⟩,λy c' e=>?_,I.free,I.freeC,λp hp=>?_,tracked ⟨oc,hoc,I.freeC x c hc⟩ hs,by simpa using I.len⟩ ⟨c,hs,.inr hc⟩
  ·exact (hs.2 b (qar (qaR (qao e) (I.ok.cab x c hfn hc)))).trans (I.base.keep b o e n hb hx)
  ·obtain⟨sl,e1⟩:=I.base.slot b o e n hb hx
   exact⟨sl,(hs.2 b (qar (qaR (qao e) (I.ok.cab x c hfn hc)))).trans e1⟩
  ·obtain⟨o',e1⟩:=I.base.there b o e hx
   exact⟨o',(hs.2 b (qar (qaR (qao e) (I.ok.cab x c hfn hc)))).trans e1⟩
  ·by_cases hj:j=i
   ·subst hj
    rw[hi]at e1;cases e1
    rw[qdd hiσ]at e2
    cases e2
    exact⟨u,r,.inr ⟨.inl hk,c,hc,hc'⟩⟩
   ·rw[qcu (qdi hj)]at e2
    obtain⟨u',r',q⟩:=hl j y v' e1 e2 e3
    refine⟨u',r',?_⟩
    rcases q with q|⟨k,c',e,z'⟩
    ·exact .inl q
    ·refine .inr ⟨k,c',e,z'.sameBut hs ?_⟩
     rintro rfl
     exact hj (vp hN e1 (I.ok.inj _ _ _ e hc ▸ hi))
  ·by_cases hcc:c'=c
   ·subst hcc;exact⟨_,hc'⟩
   ·obtain⟨w2,z2⟩:=I.cell y c' e
    exact⟨w2,z2.sameBut hs hcc⟩
  ·obtain⟨e,n,ne,nf,d⟩:=I.pin p hp
   refine⟨(hs.2 p.1 ?_).trans e,n,ne,nf,d⟩
   intro q
   rw[q,hoc]at e
   have q':oc=p.2:=qaS e
   exact d w' (by rw[<-q'];exact hocd)
theorem jo {M:Model}{A:qa9}{E:Value->qaj->Prop}{i:Nat}{x:Str}{v:V}{u:Value}{Q:Unit->qaj->Prop} (I:Inv X pins σ H s) (hN:X.N.Nodup) (hi:X.N[i]?=some x) (hx:Loc X.env.scope x) (r:aW v u)
  (h:∀ s',Inv X pins (σ.set i (some v)) H s'->Q () s') (hf:X.fn x=true\/X.env.scope.names.lookup x=some .local:=by first|exact .inl rfl|exact .inr rfl|assumption):wpAny M A (storeName X.env x u) Q E s:=
 za I hN hi hx r (λs' I' _=>h s' I') hf
theorem Inv.call' {s':qaj}{ch:List Addr} (I:Inv X pins σ H s) (ho:s'.os=s.os) (u:Un (frs X.stack) ch H H' s.heap s'.heap) (hok:HOk X.prog X.w H' s'.heap) (hg:qgQ s'.gens)
  (hch:∀ b∈ch,(b∈X.ex\/X.s₀.heap.objs.size<=b)/\b≠X.env.locals/\(∀ x c,X.env.cells.lookup x=some c->c≠b)/\∀ p∈X.pn++pins,p.1≠b):Inv X pins σ H' s':=by
 obtain⟨h',g',d',t',o'⟩:=s'
 have e:o'=s.os:=ho
 subst e
 exact I.call (g':=g') (t':=t') (d':=d') u hok hg hch
end
abbrev XK:=Value->Option Addr->Hp->Prop
abbrev St:=List (Option V)
abbrev VK:=V->Hp->Prop
abbrev TE:=St->Hp->VK->Prop
abbrev TT:=St->Hp->(Bool->Hp->Prop)->Prop
abbrev TA:=St->Hp->(List V->Hp->Prop)->Prop
structure vz where
 nx:St->Hp->Prop
 rt:VK
 bk:St->Hp->Prop:=λ_ _=>False
 ct:St->Hp->Prop:=λ_ _=>False
abbrev TS:=vz->St->Hp->Prop
def EP (X:Cx) (pins:List (Addr×Obj)) (σ:St) (Q:VK) (u:Value) (s':qaj):Prop:=∃ v H',Inv X pins σ H' s'/\aW v u/\Q v H'
def TP (X:Cx) (pins:List (Addr×Obj)) (σ:St) (Q:Bool->Hp->Prop) (b:Bool) (s':qaj):Prop:=∃ H',Inv X pins σ H' s'/\Q b H'
def AP (X:Cx) (pins:List (Addr×Obj)) (σ:St) (Q:List V->Hp->Prop) (us:List Value) (s':qaj):Prop:=∃ vs H',Inv X pins σ H' s'/\aP vs us/\Q vs H'
def SP (X:Cx) (pins:List (Addr×Obj)) (D:vz) (f:Flow) (s':qaj):Prop:=
 match f with
 |.next=>∃ σ' H',Inv X pins σ' H' s'/\D.nx σ' H'
 |.brk=>∃ σ' H',Inv X pins σ' H' s'/\D.bk σ' H'
 |.cont=>∃ σ' H',Inv X pins σ' H' s'/\D.ct σ' H'
 |.ret u=>∃ v σ' H',Inv X pins σ' H' s'/\aW v u/\D.rt v H'
def PE (X:Cx) (e:Expr) (t:TE):Prop:=
 ∀ (pins:List (Addr×Obj)) (s:qaj) (σ:St) (H:Hp) (Q:VK),Inv X pins σ H s->t σ H Q->wpAny (model X.prog X.w) X.A (eval e X.env) (EP X pins σ Q) X.xe s
def PT (X:Cx) (e:Expr) (t:TT):Prop:=
 ∀ (pins:List (Addr×Obj)) (s:qaj) (σ:St) (H:Hp) (Q:Bool->Hp->Prop),Inv X pins σ H s->t σ H Q->wpAny (model X.prog X.w) X.A (ql5 e X.env (eval e X.env)) (TP X pins σ Q) X.xe s
def PW (X:Cx) (e:Expr) (t:TT):Prop:=
 ∀ (whole:Sem Value) (pins:List (Addr×Obj)) (s:qaj) (σ:St) (H:Hp) (Q:Bool->Hp->Prop),Inv X pins σ H s->t σ H Q->wpAny (model X.prog X.w) X.A (ql5 e X.env whole) (TP X pins σ Q) X.xe s
theorem PW.pt {X:Cx}{e:Expr}{t:TT} (h:PW X e t):PT X e t:=h _
def PA (X:Cx) (es:List Expr) (t:TA):Prop:=
 ∀ (pos:Pos) (pins:List (Addr×Obj)) (s:qaj) (σ:St) (H:Hp) (Q:List V->Hp->Prop),Inv X pins σ H s->t σ H Q->wpAny (model X.prog X.w) X.A (qf5 (qes pos (qbP es X.env))) (AP X pins σ Q) X.xe s
def PS (X:Cx) (st:Stmt) (t:TS):Prop:=
 ∀ (pins:List (Addr×Obj)) (s:qaj) (σ:St) (H:Hp) (D:vz),Inv X pins σ H s->t D σ H->wpAny (model X.prog X.w) X.A (exec st X.env) (SP X pins D) X.xe s
def PSs (X:Cx) (st:List Stmt) (t:TS):Prop:=
 ∀ (pins:List (Addr×Obj)) (s:qaj) (σ:St) (H:Hp) (D:vz),Inv X pins σ H s->t D σ H->wpAny (model X.prog X.w) X.A (execs st X.env) (SP X pins D) X.xe s
theorem thn {α:Type}{t:Sem α}{Q Q':α->qaj->Prop}{M:Model}{A:qa9}{E:Value->qaj->Prop}{s:qaj} (h:wpAny M A t Q E s) (hQ:∀ a s,Q a s->Q' a s):wpAny M A t Q' E s:=qcG h hQ λ_ _ x=>x
section
variable {X:Cx}
theorem bin {a b:Expr}{ta tb:TE} (ha:PE X a ta) (hb:PE X b tb) {pins:List (Addr×Obj)}{s:qaj}{σ:St}{H:Hp}{R:V->V->Hp->Prop} (I:Inv X pins σ H s) (h:ta σ H λx H1=>tb σ H1 λy H2=>R x y H2)
  {α:Type}{Q:α->qaj->Prop}{f:Value->Value->Sem α}
  (hf:∀ v u s2 x y H2,Inv X pins σ H2 s2->aW x v->aW y u->R x y H2->wpAny (model X.prog X.w) X.A (f v u) Q X.xe s2) :
  wpAny (model X.prog X.w) X.A (eval a X.env) (λv s₁=>wpAny (model X.prog X.w) X.A (eval b X.env) (λu s₂=>wpAny (model X.prog X.w) X.A (f v u) Q X.xe s₂) X.xe s₁) X.xe s:=by
 refine thn (ha pins s σ H _ I h) λv s1 ⟨x,H1,I1,r1,q1⟩=>?_
 refine thn (hb pins s1 σ H1 _ I1 q1) λu s2 ⟨y,H2,I2,r2,q2⟩=>?_
 exact hf v u s2 x y H2 I2 r1 r2 q2
def Ep (i:Nat):TE:=λσ H Q=>∃ v,σ[i]?=some (some v)/\Q v H
def tC (v:V):TE:=λ_ H Q=>Q v H
theorem Eo {i:Nat}{x:Str}{pos:Pos} (hN:X.N[i]?=some x) (hv:Vis X.env.scope x) (hd:(x==("__debug__" : Str))=false:=by decide) (hcd:(x==("__classdict__" : Str))=false:=by decide):PE X (.Name x pos) (Ep i):=by
 intro pins s σ H Q I h
 obtain⟨v,e,h⟩:=h
 obtain⟨m,hn,hl⟩:=I.loc
 obtain⟨u,r,l⟩:=hl i x v hN e hv
 have fin:EP X pins σ Q u s:=⟨v,H,I,r,h⟩
 rcases l with⟨hk,hm⟩|⟨hk,c,hc,hcell⟩
 ·exact qkG (wpAny_loadName_local I.ok.kind hk hn hm fin) hd
 ·rcases hk with hk|hk
  ·exact qkG (wpAny_loadName_cell I.ok.kind hk hc hcell fin) hd
  ·exact qkG (wpAny_loadName_free I.ok.kind hk hc hcell fin hcd) hd
theorem FY {i j pos}:PE X (.Constant (.int i) j pos) (tC (.int i)):=λ_ _ _ H _ I h=>wpAny_Constant_int ⟨.int i,H,I.tok _,⟨_,rfl⟩,h⟩
theorem GN {b j pos}:PE X (.Constant (.bool b) j pos) (tC (.bl b)):=λ_ _ _ H _ I h=>Constant_bool ⟨.bl b,H,I,rfl,h⟩
theorem E8 {j pos}:PE X (.Constant .none j pos) (tC .non):=λ_ _ _ H _ I h=>Constant_none ⟨.non,H,I,rfl,h⟩
theorem EL {x j pos}:PE X (.Constant (.str x) j pos) (tC (.str x)):=λ_ _ _ H _ I h=>Calls.Constant_str ⟨.str x,H,I.tok _,⟨_,rfl⟩,h⟩
def Gl (X:Cx) (x:Str):Prop:=X.env.kindOf x=some .globalImplicit
theorem Db {E:Value->qaj->Prop}{pins:List (Addr×Obj)}{s:qaj}{σ:St}{H:Hp}{x:Str}{u:Value}{pos:Pos}{Q:Value->qaj->Prop} (I:Inv X pins σ H s) (hg:Gl X x) (hm:X.mg x=some u) (h:Q u s)
  (hd:(x==("__debug__" : Str))=false:=by decide):wpAny (model X.prog X.w) X.A (eval (.Name x pos) X.env) Q E s:=
 qhp I.ok.kind hg (Calls.loadGlobal_global (by rw[I.ok.glob];exact I.mod.glob.keeps I.bk) hm h) hd
theorem il {E:Value->qaj->Prop}{pins:List (Addr×Obj)}{s:qaj}{σ:St}{H:Hp}{x:Str}{u:Value}{pos:Pos}{Q:Value->qaj->Prop} (I:Inv X pins σ H s) (hg:Gl X x) (hm:X.mg x=none) (hv:qdc x=some u) (h:Q u s)
  (hn:x≠"__name__":=by decide) (hd:(x==("__debug__" : Str))=false:=by decide):wpAny (model X.prog X.w) X.A (eval (.Name x pos) X.env) Q E s:=by
 obtain⟨mb,h1,h2⟩:=I.mod.blt
 exact qhp I.ok.kind hg (Calls.loadGlobal_builtin (by rw[I.ok.glob];exact I.mod.glob.keeps I.bk) hm (by rw[I.ok.blt];exact h1.keeps I.bk) ((h2 x hn).trans hv) h) hd
theorem CY {x:Str}{v:V}{u:Value}{pos:Pos} (hg:Gl X x) (hm:X.mg x=none) (hv:qdc x=some u) (r:aW v u) (hn:x≠"__name__":=by decide) (hd:(x==("__debug__" : Str))=false:=by decide):PE X (.Name x pos) (tC v):=
 λ_ _ _ H _ I h=>il I hg hm hv ⟨v,H,I,r,h⟩ hn hd
variable {a b:Expr}{ta tb:TE}{pos:Pos}
variable {tA tB':TT}{rest:List Expr}
def HY (t u:TT):TT:=λσ H Q=>t σ H λc H1=>if c=true then u σ H1 Q else Q false H1
def tOr (t u:TT):TT:=λσ H Q=>t σ H λc H1=>if c=true then Q true H1 else u σ H1 Q
def HL (t:TT):TT:=λσ H Q=>t σ H λc H1=>Q (!c) H1
theorem DN (ha:PT X a tA):PW X (.BoolOp .And [a] pos) tA:=by
 intro wh pins s σ H Q I h
 refine isTrue_and (thn (ha pins s σ H Q I h) λc s1 e=>?_)
 cases c with
 |true=>exact isTrue_and_nil e
 |false=>exact e
theorem Fv (ha:PT X a tA):PW X (.BoolOp .Or [a] pos) tA:=by
 intro wh pins s σ H Q I h
 refine isTrue_or (thn (ha pins s σ H Q I h) λc s1 e=>?_)
 cases c with
 |false=>exact isTrue_or_nil e
 |true=>exact e
theorem A0 (ha:PT X a tA) (hb:PW X (.BoolOp .And (b::rest) pos) tB'):PW X (.BoolOp .And (a::b::rest) pos) (HY tA tB'):=by
 intro wh pins s σ H Q I h
 refine isTrue_and (thn (ha pins s σ H _ I h) λc s1 ⟨H1,I1,q1⟩=>?_)
 cases c with
 |true=>exact hb wh pins s1 σ H1 Q I1 q1
 |false=>exact⟨H1,I1,q1⟩
theorem D3 (ha:PT X a tA) (hb:PW X (.BoolOp .Or (b::rest) pos) tB'):PW X (.BoolOp .Or (a::b::rest) pos) (tOr tA tB'):=by
 intro wh pins s σ H Q I h
 refine isTrue_or (thn (ha pins s σ H _ I h) λc s1 ⟨H1,I1,q1⟩=>?_)
 cases c with
 |true=>exact⟨H1,I1,q1⟩
 |false=>exact hb wh pins s1 σ H1 Q I1 q1
theorem Ej (ha:PT X a tA):PT X (.UnaryOp .Not a pos) (HL tA):=by
 intro pins s σ H Q I h
 exact isTrue_not (ha pins s σ H (λc H1=>Q (!c) H1) I h)
def tIf (t:TT) (ta tb:TE):TE:=λσ H Q=>t σ H λc H1=>if c=true then ta σ H1 Q else tb σ H1 Q
theorem uD {c:Expr} (hc:PT X c tA) (ha:PE X a ta) (hb:PE X b tb):PE X (.IfExp c a b pos) (tIf tA ta tb):=by
 intro pins s σ H Q I h
 refine wpAny_IfExp (thn (hc pins s σ H _ I h) λd s1 ⟨H1,I1,q1⟩=>?_)
 cases d with
 |true=>exact ha pins s1 σ H1 Q I1 q1
 |false=>exact hb pins s1 σ H1 Q I1 q1
end
def SqL (K:qai) (H:Hp) (a:Addr) (xs:List V):Prop:=
 Rd H a (.lst xs)\/
  ∃ (o:Obj) (its:Array Value) (n:Nat),K.lookup a=some o/\o.cls=.type "list"/\o.dict=none/\o.data=.seq its n/\its.size<=qaO/\aP xs its.toList
def SqT (K:qai) (H:Hp) (a:Addr) (xs:List V):Prop:=
 H a=some (.tup xs)\/
  ∃ (o:Obj) (its:Array Value) (n:Nat),K.lookup a=some o/\o.cls=.type "tuple"/\o.data=.seq its n/\its.size<=qaO/\aP xs its.toList/\o.dict=none
def HS:Value->Option V
 |.none=>some .non
 |.bool b=>some (.bl b)
 |.int i _=>some (.int i)
 |.str x _=>some (.str x)
 |.bytes b _=>some (.byt b)
 |.float b _=>some (.flt b)
 |.ref a=>some (.ref a)
 |.type n=>some (.ty n)
 |_=>none
theorem aW.abs {x:V}{u:Value} (r:aW x u):HS u=some x:=by
 cases x with
 |non=>cases r;rfl
 |bl _=>cases r;rfl
 |int _=>obtain⟨t,rfl⟩:=r;rfl
 |str _=>obtain⟨t,rfl⟩:=r;rfl
 |byt _=>obtain⟨t,rfl⟩:=r;rfl
 |flt _=>obtain⟨t,rfl⟩:=r;rfl
 |ref _=>cases r;rfl
 |ty _=>cases r;rfl
theorem aW.inj {x y:V}{u:Value} (r:aW x u) (q:aW y u):x=y:=qaS (r.abs.symm.trans q.abs)
theorem aP.inj:∀ {xs ys:List V}{us:List Value},aP xs us->aP ys us->xs=ys
 |_,_,_,.nil,.nil=>rfl
 |_,_,_,.cons r t,.cons r' t'=>by rw[r.inj r',aP.inj t t']
section
variable {X:Cx}{pins:List (Addr×Obj)}{σ:St}{H:Hp}{s:qaj}{a:Addr}{xs ys:List V}
theorem SqL.of {K:qai} (h:H a=some (.lst xs)):SqL K H a xs:=.inl (.inl h)
theorem SqT.of {K:qai} (h:H a=some (.tup xs)):SqT K H a xs:=.inl h
theorem Inv.list (I:Inv X pins σ H s) (h:SqL X.K H a xs):∃ its:List Value,aP xs its/\PlainL s.heap a its.toArray/\xs.length<=qaO:=by
 rcases h with h|⟨o,its,n,hk,hc,hd,hs,hz,r⟩
 ·obtain⟨z,its,n,r,e⟩:=h.ok I.hok
  exact⟨its,r,⟨_,n,e,rfl,rfl,rfl⟩,z⟩
 ·refine⟨its.toList,r,⟨o,n,I.kIn a o hk,hc,hd,by simpa using hs⟩,?_⟩
  have e:=r.length
  simp only[qaA]at e
  lia
theorem Inv.tuple (I:Inv X pins σ H s) (h:SqT X.K H a xs):∃ its:List Value,aP xs its/\IsTup s.heap a its.toArray/\xs.length<=qaO:=by
 rcases h with h|⟨o,its,n,hk,hc,hs,hz,r,_⟩
 ·obtain⟨z,its,r,p⟩:=(Rd.of h).ok I.hok
  exact⟨its,r,p.tup,z⟩
 ·refine⟨its.toList,r,⟨o,I.kIn a o hk,hc,n,by simpa using hs⟩,?_⟩
  have e:=r.length
  simp only[qaA]at e
  lia
theorem Inv.tuple1 (I:Inv X pins σ H s) (h:SqT X.K H a xs):∃ o:Obj,s.heap.get? a=some o/\o.cls=.type "tuple"/\o.dict=none:=by
 rcases h with h|⟨o,its,n,hk,hc,hs,hz,r,hd⟩
 ·obtain⟨z,its,r,o,e,c,_,hd⟩:=(Rd.of h).ok I.hok
  exact⟨o,e,c,hd⟩
 ·exact⟨o,I.kIn a o hk,hc,hd⟩
theorem Inv.list_inj (I:Inv X pins σ H s) (h:SqL X.K H a xs) (h':SqL X.K H a ys):xs=ys:=by
 obtain⟨its,r,⟨o,n,e,_,_,d⟩,_⟩:=I.list h
 obtain⟨its',r',⟨o',n',e',_,_,d'⟩,_⟩:=I.list h'
 rw[e]at e';cases e'
 rw[d]at d'
 injection d' with d1 _
 have:its=its':=by simpa using congrArg qgG d1
 subst this
 exact r.inj r'
theorem Inv.tuple_inj (I:Inv X pins σ H s) (h:SqT X.K H a xs) (h':SqT X.K H a ys):xs=ys:=by
 obtain⟨its,r,⟨o,e,_,n,d⟩,_⟩:=I.tuple h
 obtain⟨its',r',⟨o',e',_,n',d'⟩,_⟩:=I.tuple h'
 rw[e]at e';cases e'
 rw[d]at d'
 injection d' with d1 _
 have:its=its':=by simpa using congrArg qgG d1
 subst this
 exact r.inj r'
end
abbrev Cx.wish (X:Cx) (E:Value->qaj->Prop):Cx:={ X with xe:=E }
abbrev Cx.nox (X:Cx):Cx:=X.wish λ_ _=>False
theorem Cx.Ok.wish {X:Cx} (ok:X.Ok) (E:Value->qaj->Prop):(X.wish E).Ok:=
 ⟨ok.mod,ok.kind,ok.glob,ok.blt,ok.above,ok.inj,ok.has,ok.cab,ok.hd,ok.frames,ok.stk,ok.exf,ok.bs,ok.bsz,ok.noex,ok.exfs,ok.funs,ok.frf⟩
theorem Cx.Ok.unwish {X:Cx}{E:Value->qaj->Prop} (ok:(X.wish E).Ok):X.Ok:=
 ⟨ok.mod,ok.kind,ok.glob,ok.blt,ok.above,ok.inj,ok.has,ok.cab,ok.hd,ok.frames,ok.stk,ok.exf,ok.bs,ok.bsz,ok.noex,ok.exfs,ok.funs,ok.frf⟩
section
variable {X:Cx}{pins:List (Addr×Obj)}{σ:St}{H:Hp}{s:qaj}{E:Value->qaj->Prop}
theorem Inv.wish (I:Inv X pins σ H s) (E:Value->qaj->Prop):Inv (X.wish E) pins σ H s:=⟨I.ok.wish E,I.os,I.bare,I.base,I.loc,I.cell,I.free,I.freeC,I.pin,I.hok,I.len⟩
theorem Inv.unwish (I:Inv (X.wish E) pins σ H s):Inv X pins σ H s:=⟨I.ok.unwish,I.os,I.bare,I.base,I.loc,I.cell,I.free,I.freeC,I.pin,I.hok,I.len⟩
theorem SP.unwish {D:vz}{f:Flow}{s':qaj} (h:SP (X.wish E) pins D f s'):SP X pins D f s':=by
 cases f with
 |next=>obtain⟨σ',H',I,q⟩:=h;exact⟨σ',H',I.unwish,q⟩
 |brk=>obtain⟨σ',H',I,q⟩:=h;exact⟨σ',H',I.unwish,q⟩
 |cont=>obtain⟨σ',H',I,q⟩:=h;exact⟨σ',H',I.unwish,q⟩
 |ret u=>obtain⟨v,σ',H',I,r,q⟩:=h;exact⟨v,σ',H',I.unwish,r,q⟩
theorem PSs.nox {st:List Stmt}{t:TS} (h:PSs X.nox st t):PSs X st t:=λpins s σ H D I hw=>
 qcG (h pins s σ H D (I.wish _) hw) (λ_ _ q=>q.unwish) λ_ _ z=>qdL z
end
section
variable {X:Cx}{st:Stmt}{rest:List Stmt}{t u:TS}{e:Expr}{te:TE}{pos:Pos}
def Hw:TS:=λD σ H=>D.nx σ H
def Ie (t u:TS):TS:=λD σ H=>t { D with nx:=u D } σ H
theorem Cg:PSs X [] Hw:=λ_ _ σ H _ I h=>qf4 ⟨σ,H,I,h⟩
theorem lF (h1:PS X st t) (h2:PSs X rest u):PSs X (st::rest) (Ie t u):=by
 intro pins s σ H D I h
 refine qk2 (thn (h1 pins s σ H { D with nx:=u D } I h) λf s1 q=>?_)
 cases f with
 |next=>
  obtain⟨σ',H',I',q⟩:=q
  exact h2 pins s1 σ' H' D I' q
 |ret v=>exact q
 |brk=>exact q
 |cont=>exact q
theorem CD (h1:PS X st t):PSs X [st] t:=by
 intro pins s σ H D I h
 refine qk2 (thn (h1 pins s σ H D I h) λf s1 q=>?_)
 cases f with
 |next=>exact qf4 q
 |ret v=>exact q
 |brk=>exact q
 |cont=>exact q
theorem Inv.quiet {pins:List (Addr×Obj)}{σ:St}{H:Hp}{s:qaj} (I:Inv X pins σ H s):interactive X.env=false:=by simp[interactive,I.ok.kind]
def Gr (te:TE):TS:=λD σ H=>te σ H λ_ H1=>D.nx σ H1
theorem CM (he:PE X e te) (hs:qfg e none pos.line X.env=pure false:=by rfl):PS X (.Expr e pos) (Gr te):=by
 intro pins s σ H D I h
 exact wpAny_Expr_any (thn (he pins s σ H _ I h) λv s1 ⟨x,H1,I1,r1,q1⟩=>⟨σ,H1,I1,q1⟩) I.quiet hs
def HJ (te:TE):TS:=λD σ H=>te σ H D.rt
theorem EN (he:PE X e te):PS X (.Return (some e) pos) (HJ te):=by
 intro pins s σ H D I h
 exact wpAny_Return_some (thn (he pins s σ H _ I h) λv s1 ⟨x,H1,I1,r1,q1⟩=>⟨x,σ,H1,I1,r1,q1⟩)
def Ib (c:TT) (t u:TS):TS:=λD σ H=>c σ H λb H1=>if b=true then t D σ H1 else u D σ H1
theorem DV {c:Expr}{a b:List Stmt}{tc:TT} (hc:PT X c tc) (ha:PSs X a t) (hb:PSs X b u):PS X (.If c a b pos) (Ib tc t u):=by
 intro pins s σ H D I h
 refine wpAny_If (thn (hc pins s σ H _ I h) λd s1 ⟨H1,I1,q1⟩=>?_)
 cases d with
 |true=>exact ha pins s1 σ H1 D I1 q1
 |false=>exact hb pins s1 σ H1 D I1 q1
def Fh:TS:=λ_ _ _=>False
theorem iy {sts:List Stmt}:PSs X sts Fh:=λ_ _ _ _ _ _ h=>h.elim
end
abbrev TG:=V->St->Hp->(St->Hp->Prop)->Prop
abbrev TGs:=List V->St->Hp->(St->Hp->Prop)->Prop
def PG (X:Cx) (target:Expr) (t:TG):Prop:=
 ∀ (pins:List (Addr×Obj)) (s:qaj) (σ:St) (H:Hp) (v:V) (u:Value) (Q:St->Hp->Prop),Inv X pins σ H s->aW v u->t v σ H Q->
  wpAny (model X.prog X.w) X.A (qgC target X.env u) (λ_ s'=>∃ σ' H',Inv X pins σ' H' s'/\Q σ' H') X.xe s
def PGs (X:Cx) (ts:List Expr) (t:TGs):Prop:=
 ∀ (pins:List (Addr×Obj)) (s:qaj) (σ:St) (H:Hp) (vs:List V) (us:List Value) (Q:St->Hp->Prop),Inv X pins σ H s->aP vs us->t vs σ H Q->
  wpAny (model X.prog X.w) X.A (qjl ((qcd ts X.env).map (·.2)) us) (λ_ s'=>∃ σ' H',Inv X pins σ' H' s'/\Q σ' H') X.xe s
abbrev Gb:=V->V->V->Hp->(Hp->Prop)->Prop
def Gy (X:Cx) (t:Gb):Prop:=
 ∀ (pins:List (Addr×Obj)) (s:qaj) (σ:St) (H:Hp) (o i v:V) (ov iv u:Value) (Q:Hp->Prop),Inv X pins σ H s->aW o ov->aW i iv->aW v u->t o i v H Q->
  wpAny (model X.prog X.w) X.A (ql1 ov iv u) (λ_ s'=>∃ H',Inv X pins σ H' s'/\Q H') X.xe s
section
variable {X:Cx}{pos:Pos}
def uH (i:Nat):TG:=λv σ H Q=>Q (σ.set i (some v)) H
theorem av {i:Nat}{x:Str} (hN:X.N.Nodup) (hi:X.N[i]?=some x) (hx:Loc X.env.scope x) (hf:X.fn x=true\/X.env.scope.names.lookup x=some .local:=by first|exact .inl rfl|exact .inr rfl|assumption):PG X (.Name x pos) (uH i):=by
 intro pins s σ H v u Q I r h
 exact qkF (jo I hN hi hx r (λs' I'=>⟨_,H,I',h⟩) hf)
def HQ:TGs:=λvs σ H Q=>vs=[]/\Q σ H
def Gu (t:TG) (u:TGs):TGs:=λvs σ H Q=>∃ v r,vs=v::r/\t v σ H λσ' H'=>u r σ' H' Q
theorem DR:PGs X [] HQ:=by
 intro pins s σ H vs us Q I r h
 obtain⟨e,h⟩:=h
 subst e
 cases r
 exact qkI ⟨σ,H,I,h⟩
theorem A2 {e:Expr}{es:List Expr}{t:TG}{u:TGs} (h1:PG X e t) (h2:PGs X es u)
  (hs:(qcd (e::es) X.env).map (·.2)=qgC e X.env::(qcd es X.env).map (·.2):=by rfl):PGs X (e::es) (Gu t u):=by
 intro pins s σ H vs us Q I r h
 obtain⟨v,vr,e1,h⟩:=h
 subst e1
 cases r with
 |cons r rr=>
  rw[hs]
  refine qhc (thn (h1 pins s σ H _ _ _ I r h) λ_ s1 ⟨σ1,H1,I1,q1⟩=>?_)
  exact h2 pins s1 σ1 H1 _ _ Q I1 rr q1
def HK (K:qai) (n:Nat) (t:TGs):TG:=λv σ H Q=>∃ a xs,v=.ref a/\SqT K H a xs/\xs.length=n/\t xs σ H Q
theorem FC {es:List Expr}{k:Nat}{t:TGs}{n:Nat} (hc:X.calm=true) (h:PGs X es t)
  (hn:(qcd es X.env).length=n:=by rfl) (hst:(qcd es X.env).findIdx? (·.1)=none:=by rfl):PG X (.Tuple es k pos) (HK X.K n t):=by
 intro pins s σ H v u Q I r hw
 obtain⟨a,xs,e1,hq,hl,hw⟩:=hw
 subst e1
 cases r
 obtain⟨its,rv,ht,hz⟩:=I.tuple hq
 refine assign_Tuple_tuple (I.ok.hd hc) ht (by simp[hn,<-hl,rv.length]) hst λh' hx=>?_
 have I1:Inv X pins σ H { s with heap:=h' }:=I.kept (t':=s.toks) λb o e=>hx b o (qar (qao e)) e
 exact h pins _ σ H xs _ Q I1 (by simpa using rv) hw
def Id (to ti:TE) (t:Gb):TG:=λv σ H Q=>to σ H λo H1=>ti σ H1 λi H2=>t o i v H2 λH3=>Q σ H3
theorem AQ {o i:Expr}{to ti:TE}{t:Gb} (ho:PE X o to) (hi:PE X i ti) (hs:Gy X t)
  (ha:∀ v,qgC (.Subscript o i pos) X.env v=(do
    let ov <-qfu [v] (eval o X.env)
    let iv <-qfu [v,ov] (eval i X.env)
    qlW pos
    qfu [v,ov,iv] (ql1 ov iv v)
    release [v,ov,iv] []):=by intro _;rfl):PG X (.Subscript o i pos) (Id to ti t):=by
 intro pins s σ H v u Q I r h
 rw[ha]
 refine qaa (qbk (thn (ho pins s σ H _ I h) λov s1 ⟨x,H1,I1,r1,q1⟩=>?_))
 refine qaa (qbk (thn (hi pins s1 σ H1 _ I1 q1) λiv s2 ⟨y,H2,I2,r2,q2⟩=>?_))
 refine qaa (qfq (qaa (qbk (thn (hs pins s2 σ H2 x y v ov iv u _ I2 r1 r2 r q2) λ_ s3 ⟨H3,I3,q3⟩=>?_))))
 exact wpAny_release ⟨σ,H3,I3,q3⟩
def FG (te:TE) (g:TG):TS:=λD σ H=>te σ H λx H1=>g x σ H1 D.nx
theorem wE {tg e:Expr}{te:TE}{g:TG} (he:PE X e te) (hg:PG X tg g) (hs:qfr [tg] e pos.line X.env=pure false:=by rfl) (hw:qfs [tg] e X.env=pure none:=by rfl)
  (h1:(qcd [tg] X.env).map (·.2)=[qgC tg X.env]:=by rfl):PS X (.Assign [tg] e pos) (FG te g):=by
 intro pins s σ H D I h
 refine wpAny_Assign_stores (thn (he pins s σ H _ I h) λv s1 ⟨x,H1,I1,r1,q1⟩=>?_) hs hw
 rw[h1]
 exact thn (hg pins s1 σ H1 x v _ I1 r1 q1) λ_ s2 q=>q
theorem Ec {i:Nat}{x:Str}{e:Expr}{te:TE}{pos':Pos} (hN:X.N.Nodup) (hi:X.N[i]?=some x) (hx:Loc X.env.scope x) (he:PE X e te) (hs:qfg e (some (.Name x pos')) pos.line X.env=pure false:=by rfl) (hf:X.fn x=true\/X.env.scope.names.lookup x=some .local:=by first|exact .inl rfl|exact .inr rfl|assumption) :
  PS X (.Assign [.Name x pos'] e pos) (FG te (uH i)):=by
 intro pins s σ H D I h
 refine wpAny_Assign_Name (thn (he pins s σ H _ I h) λv s1 ⟨y,H1,I1,r1,q1⟩=>?_) hs
 exact jo I1 hN hi hx r1 (λs2 I2=>⟨_,H1,I2,q1⟩) hf
def Hb (i j:Nat) (ta:TA):TS:=λD σ H=>ta σ H λvs H1=>∃ v w,vs=[v,w]/\D.nx ((σ.set i (some v)).set j (some w)) H1
theorem AM {i j:Nat}{x y:Str}{a b:Expr}{ta:TA}{px py pt:Pos}{kt k2 pt2} (hc:X.calm=true) (hN:X.N.Nodup) (hi:X.N[i]?=some x) (hj:X.N[j]?=some y) (hij:i≠j)
  (hx:X.env.scope.names.lookup x=some .local) (hy:X.env.scope.names.lookup y=some .local) (ha:PA X [a,b] ta)
  (hw:qfs [.Tuple [.Name x px,.Name y py] kt pt] (.Tuple [a,b] k2 pt2) X.env=pure (some [x,y]))
  (hs:qfr [.Tuple [.Name x px,.Name y py] kt pt] (.Tuple [a,b] k2 pt2) pos.line X.env=pure false:=by rfl) :
  PS X (.Assign [.Tuple [.Name x px,.Name y py] kt pt] (.Tuple [a,b] k2 pt2) pos) (Hb i j ta):=by
 intro pins s σ H D I h
 rw[exec_Assign_arm]
 refine qaa (qfq ?_)
 rw[hs]
 refine qaa (qab ?_)
 rw[if_neg (by decide)]
 refine qaa (Tuple_ (thn (ha _ pins s σ H _ I h) λus s1 ⟨vs,H1,I1,r1,q1⟩=>?_))
 obtain⟨v,w,e1,q1⟩:=q1
 subst e1
 obtain⟨u1,u2,rfl,rv,rw'⟩:∃ u1 u2,us=[u1,u2]/\aW v u1/\aW w u2:=by
  cases r1 with
  |cons p q=>
   cases q with
   |cons p' q'=>
    cases q'
    exact⟨_,_,rfl,p,p'⟩
 refine qbh ?_ (by show 2<=qaO;decide)
 have I2:Inv X pins σ H1 { s1 with heap:=s1.heap.push { cls:=.type "tuple",data:=.seq [u1,u2].toArray } }:=I1.kept (t':=s1.toks) λb o e=>qae _ e
 rw[hw]
 refine qaa (qab ?_)
 show wpAny (model X.prog X.w) X.A (do rule "assign.swapped-stores";let items <-unpackItems (.ref s1.heap.objs.size) 2 none;qjl [λv=>qkr X.env y v,λv=>qkr X.env x v] items.reverse;pure Flow.next) _ _ _
 refine qaa (qdG (qaa (unpackItems_tuple (items:=#[u1,u2]) (I.ok.hd hc) (IsTup.new s1.heap _) λh' hx'=>?_)))
 have I3:=I2.kept (h':=h') (t':=s1.toks) λb o e=>hx' b o (qar (qao e)) e
 show wpAny _ _ (qjl [λv=>qkr X.env y v,λv=>qkr X.env x v] [u2,u1] >>= λ_=>pure Flow.next) _ _ _
 refine qaa (qhc (qmd (jo I3 hN hj (.inl hy) rw' (λs2 I4=>?_) (.inr hy))))
 refine qhc (qmd (jo I4 hN hi (.inl hx) rv (λs3 I5=>qkI (qab ?_)) (.inr hx)))
 rw[List.set_comm _ _ (qdi hij)]at I5
 exact⟨_,H1,I5,q1⟩
end
section
variable {X:Cx}{pos:Pos}
def EI (c:TT) (tb:TS):TS:=λD σ H=>∃ W:Nat->St->Hp->Prop,(∃ m,W m σ H)/\∀ m σ H,W m σ H->
 c σ H λb H1=>if b=true then ∃ N:St->Hp->Prop,(∀ σ' H',N σ' H'->∃ m',m'<m/\W m' σ' H')/\tb { D with nx:=N,ct:=N,bk:=D.nx } σ H1 else D.nx σ H1
theorem Bn {c:Expr}{body:List Stmt}{tc:TT}{tb:TS} (hp:qio (model X.prog X.w) X.A X.env X.xe) (hc:PT X c tc) (hb:PSs X body tb):PS X (.While c body [] pos) (EI tc tb):=by
 intro pins s σ H D I h
 obtain⟨W,⟨m0,w0⟩,turn⟩:=h
 refine wpAny_While (codeAny_whileLoop (λn s'=>∃ σ' H',Inv X pins σ' H' s'/\W n σ' H') ?_ m0 ⟨σ,H,I,w0⟩)
 rintro n s1 ⟨σ1,H1,I1,w1⟩
 refine qdA hp (thn (hc pins s1 σ1 H1 _ I1 (turn n σ1 H1 w1)) λb s2 ⟨H2,I2,q2⟩=>?_)
 cases b with
 |true=>
  obtain⟨N,hN,q2⟩:=q2
  rw[if_pos rfl]
  refine qdA hp (thn (hb pins s2 σ1 H2 _ I2 q2) λf s3 q3=>?_)
  cases f with
  |next=>
   obtain⟨σ3,H3,I3,n3⟩:=q3
   obtain⟨m',hm,w3⟩:=hN σ3 H3 n3
   exact⟨m',hm,σ3,H3,I3,w3⟩
  |cont=>
   obtain⟨σ3,H3,I3,n3⟩:=q3
   obtain⟨m',hm,w3⟩:=hN σ3 H3 n3
   exact⟨m',hm,σ3,H3,I3,w3⟩
  |brk=>exact q3
  |ret v=>exact q3
 |false=>
  rw[if_neg qan]
  exact qf4 ⟨σ1,H2,I2,q2⟩
end
structure It where
 go:Nat->Hp->Prop
 yld:Nat->Hp->V->Hp->Prop
 stop:Nat->Hp->Prop
def j9 (X:Cx) (pins:List (Addr×Obj)) (H:Hp) (b:Addr):Prop:=
 H b=none/\b≠X.env.locals/\b∉X.fs/\(b∈X.ex\/X.s₀.heap.objs.size<=b)/\(∀ x c,X.env.cells.lookup x=some c->c≠b)/\∀ p∈X.pn++pins,p.1≠b
theorem Inv.fpOk {X:Cx}{pins:List (Addr×Obj)}{σ:St}{H H':Hp}{s:qaj}{b:Addr} (I:Inv X pins σ H s) (hb:s.heap.objs.size<=b) (hn:H' b=none):j9 X pins H' b:=by
 refine⟨hn,qbu (qaR I.lt hb),I.nofs hb,.inr (qaL I.sz hb),λx c e z=>?_,λp hp z=>?_⟩
 ·obtain⟨v,q⟩:=I.cell x c e
  exact absurd (qaR q.lt (by rw[z];exact hb)) (qcx _)
 ·exact absurd (qaR (qao (I.pin p hp).1) (by rw[z];exact hb)) (qcx _)
structure zo (P:qaY) (w:World) (K:qai) (tg:Expr) (J:It) (fp:List Addr) (it:Addr) (tn:Nat->Heap->Prop):Prop where
 mem:it∈fp
 obj:∀ i h,tn i h->∀ b∈fp,∃ o,h.get? b=some o/\∀ v,o.data≠.cell v
 keep:∀ i h h',tn i h->(∀ b∈fp,∀ o,h.get? b=some o->h'.get? b=some o)->tn i h'
 item:∀ (X:Cx),X.prog=P->X.w=w->X.K=K->X.calm=true->∀ (i:Nat) (pins:List (Addr×Obj)) (s:qaj) (σ:St) (H:Hp) (E:Value->qaj->Prop),Inv X pins σ H s->(∀ b∈fp,j9 X pins H b)->tn i s.heap->J.go i H->
  wpAny (model P w) X.A (qeq (.ref it)) (λr s1=>∃ u,r=some u/\
   wpAny (model P w) X.A (qf8 tg (.ref it) u) (λ_ s2=>∃ x H',Inv X pins σ H' s2/\aW x u/\J.yld i H x H'/\tn (i+1) s2.heap/\∀ b∈fp,H' b=none) E s1) E s
 done:∀ (X:Cx),X.prog=P->X.w=w->X.K=K->X.calm=true->∀ (i:Nat) (pins:List (Addr×Obj)) (s:qaj) (σ:St) (H:Hp) (E:Value->qaj->Prop),Inv X pins σ H s->(∀ b∈fp,j9 X pins H b)->tn i s.heap->J.stop i H->
  wpAny (model P w) X.A (qeq (.ref it)) (λr s1=>r=none/\Inv X pins σ H s1) E s
 self:∀ (A:qa9) (i:Nat) (s:qaj) (Q:Value->qaj->Prop) (E:Value->qaj->Prop),tn i s.heap->Q (.ref it) s->wpAny (model P w) A (qih (.ref it)) Q E s
abbrev TI:=St->Hp->(It->Hp->Prop)->Prop
def PIE (X:Cx) (pins:List (Addr×Obj)) (σ:St) (tg:Expr) (R:It->Hp->Prop) (itv:Value) (s2:qaj):Prop:=
 ∃ (it:Addr) (fp:List Addr) (tn:Nat->Heap->Prop) (J:It) (H':Hp),itv=.ref it/\Inv X pins σ H' s2/\zo X.prog X.w X.K tg J fp it tn/\tn 0 s2.heap/\(∀ b∈fp,j9 X pins H' b)/\R J H'
def PI (X:Cx) (tg iter:Expr) (wi:TI):Prop:=
 ∀ (pins:List (Addr×Obj)) (s:qaj) (σ:St) (H:Hp) (R:It->Hp->Prop),Inv X pins σ H s->wi σ H R->
  wpAny (model X.prog X.w) X.A (eval iter X.env) (λv s1=>wpAny (model X.prog X.w) X.A (qih v) (PIE X pins σ tg R) X.xe s1) X.xe s
theorem Ay {M:Model}{A:qa9}{E:Value->qaj->Prop}{s:qaj}{tg:Expr}{it:Addr}{u:Value}{o:Obj}{n:String}{vs:Array Value}{Q:Unit->qaj->Prop} (ho:s.heap.get? it=some o) (hc:o.cls=.type n) (hd:o.data=.fields vs)
  (hn:["enumerate","zip","dict_itemiterator","dict_reverseitemiterator","odict_iterator","itertools.zip_longest","itertools.pairwise"].contains n=false) (hQ:Q () s):wpAny M A (qf8 tg (.ref it) u) Q E s:=by
 unfold qf8
 cases tg<;>first
  |exact qab hQ
  | (cases u<;>first
      |exact qab hQ
      | (refine qaa (qeG ho ?_)
         rw[hc,hd]
         show wpAny M A (if (["enumerate","zip","dict_itemiterator","dict_reverseitemiterator","odict_iterator","itertools.zip_longest","itertools.pairwise"].contains n&&vs[0]?==some (qeA _))=true then _ else _) Q E s
         rw[if_neg (by intro h;rw[hn,qeM]at h;cases h)]
         exact qab hQ))
def Itl (K:qai) (a:Addr):It:=
 ⟨λi H=>∃ xs x,SqL K H a xs/\xs[i]?=some x,λi H x H'=>H'=H/\∀ xs,SqL K H a xs->xs[i]?=some x,λi H=>∃ xs,SqL K H a xs/\xs.length<=i⟩
def Itt (K:qai) (a:Addr):It:=
 ⟨λi H=>∃ xs x,SqT K H a xs/\xs[i]?=some x,λi H x H'=>H'=H/\∀ xs,SqT K H a xs->xs[i]?=some x,λi H=>∃ xs,SqT K H a xs/\xs.length<=i⟩
def Itr (lo:Int) (n:Nat):It:=⟨λi _=>i<n,λi H x H'=>H'=H/\x=.int (lo+i),λi _=>n<=i⟩
theorem yR {P:qaY}{w:World}{K:qai}{tg:Expr} (a it:Addr):zo P w K tg (Itl K a) [it] it (λi h=>h.IsListIter it a i) where
 mem:=by simp
 obj:=λi h st b hb=>by
  have e:b=it:=by simpa using hb
  subst e
  obtain⟨o,e,c,d⟩:=st
  exact⟨o,e,λv z=>by rw[d]at z;cases z⟩
 keep:=λi h h' st k=>st.at λo e=>k it (by simp) o e
 item:=by
  intro X hP hw hK hc i pins s σ H E I hf st hg
  subst hP hw hK
  obtain⟨xs,x,hq,hx⟩:=hg
  obtain⟨its,rv,p,hz⟩:=I.list hq
  obtain⟨u,hu,ru⟩:=rv.get hx
  obtain⟨f0,f1,f2,f3,f4,f5⟩:=hf it (by simp)
  refine wpAny_pyNext_list_item st p.isList (x:=u) (by simpa using hu) λh' st' sb=>?_
  have I1:Inv X pins σ H { s with heap:=h' }:=I.turned (t':=s.toks) (λb o hb e=>(sb.2 b hb).trans e) f0 f1 f3 f4 f5
  obtain⟨o,e,c,d⟩:=id st'
  exact⟨u,rfl,Ay (s:={ s with heap:=h' }) e c d (by decide) ⟨x,H,I1,ru,⟨rfl,λys hy=>by rw[I.list_inj hy hq];exact hx⟩,st',λb hb=>(hf b hb).1⟩⟩
 done:=by
  intro X hP hw hK hc i pins s σ H E I hf st hg
  subst hP hw hK
  obtain⟨xs,hq,hx⟩:=hg
  obtain⟨its,rv,p,hz⟩:=I.list hq
  obtain⟨f0,f1,f2,f3,f4,f5⟩:=hf it (by simp)
  have hl:=rv.length
  exact wpAny_pyNext_list_end (I.ok.hd hc) st p.isList (by simp;lia) λh' eb=>⟨rfl,I.turned (t':=s.toks) (λb o hb e=>eb b o hb e) f0 f1 f3 f4 f5⟩
 self:=λ_ _ _ _ _ st h=>wpAny_pyIter_listiter st h
theorem xb {P:qaY}{w:World}{K:qai}{tg:Expr} (a it:Addr):zo P w K tg (Itt K a) [it] it (λi h=>h.IsTupleIter it a i) where
 mem:=by simp
 obj:=λi h st b hb=>by
  have e:b=it:=by simpa using hb
  subst e
  obtain⟨o,e,c,d⟩:=st
  exact⟨o,e,λv z=>by rw[d]at z;cases z⟩
 keep:=λi h h' st k=>st.at λo e=>k it (by simp) o e
 item:=by
  intro X hP hw hK hc i pins s σ H E I hf st hg
  subst hP hw hK
  obtain⟨xs,x,hq,hx⟩:=hg
  obtain⟨its,rv,p,hz⟩:=I.tuple hq
  obtain⟨u,hu,ru⟩:=rv.get hx
  obtain⟨f0,f1,f2,f3,f4,f5⟩:=hf it (by simp)
  refine wpAny_pyNext_tuple_item st (show s.heap.IsTuple a its.toArray from p) (x:=u) (by simpa using hu) λh' st' sb=>?_
  have I1:Inv X pins σ H { s with heap:=h' }:=I.turned (t':=s.toks) (λb o hb e=>(sb.2 b hb).trans e) f0 f1 f3 f4 f5
  obtain⟨o,e,c,d⟩:=id st'
  exact⟨u,rfl,Ay (s:={ s with heap:=h' }) e c d (by decide) ⟨x,H,I1,ru,⟨rfl,λys hy=>by rw[I.tuple_inj hy hq];exact hx⟩,st',λb hb=>(hf b hb).1⟩⟩
 done:=by
  intro X hP hw hK hc i pins s σ H E I hf st hg
  subst hP hw hK
  obtain⟨xs,hq,hx⟩:=hg
  obtain⟨its,rv,p,hz⟩:=I.tuple hq
  obtain⟨f0,f1,f2,f3,f4,f5⟩:=hf it (by simp)
  have hl:=rv.length
  exact wpAny_pyNext_tuple_end (I.ok.hd hc) st (show s.heap.IsTuple a its.toArray from p) (by simp;lia) λh' eb=>⟨rfl,I.turned (t':=s.toks) (λb o hb e=>eb b o hb e) f0 f1 f3 f4 f5⟩
 self:=λ_ _ _ _ _ st h=>wpAny_pyIter_tupleiter st h
theorem wq {P:qaY}{w:World}{K:qai}{tg:Expr} (it:Addr) (lo:Int) (n:Nat):zo P w K tg (Itr lo n) [it] it (λi h=>IsRangeIter h it (lo+(i:Nat)*1) ((n:Int) - (i:Nat)) 1) where
 mem:=by simp
 obj:=λi h st b hb=>by
  have e:b=it:=by simpa using hb
  subst e
  exact⟨_,st,λv z=>by
   have z':Data.fields _=Data.cell v:=z
   cases z'⟩
 keep:=λi h h' st k=>k it (by simp) _ st
 item:=by
  intro X hP hw hK hc i pins s σ H E I hf st hg
  subst hP hw hK
  obtain⟨f0,f1,f2,f3,f4,f5⟩:=hf it (by simp)
  have W:=Walks.range (prog:=X.prog) (w:=X.w) (I.ok.hd hc) it lo 1 n
  refine W.item i s _ _ hg st λv h' tk hv st' kk=>?_
  obtain⟨t,rfl⟩:=hv
  have I1:Inv X pins σ H { s with heap:=h',toks:=tk }:=I.turned (λb o hb e=>kk b o (by simpa using hb) e) f0 f1 f3 f4 f5
  refine⟨_,rfl,Ay (s:={ s with heap:=h',toks:=tk }) (n:="range_iterator") st' rfl rfl (by decide) ⟨.int (lo+i),H,I1,⟨t,?_⟩,⟨rfl,rfl⟩,st',λb hb=>(hf b hb).1⟩⟩
  rw[qgg]
 done:=by
  intro X hP hw hK hc i pins s σ H E I hf st hg
  subst hP hw hK
  obtain⟨f0,f1,f2,f3,f4,f5⟩:=hf it (by simp)
  exact wpAny_pyNext_range_end (I.ok.hd hc) st (by have:n<=i:=hg;lia) λh' eb=>⟨rfl,I.turned (t':=s.toks) (λb o hb e=>eb b o hb e) f0 f1 f3 f4 f5⟩
 self:=λ_ _ _ _ _ st h=>wpAny_pyIter_rangeiter st h
section
variable {X:Cx}{tg:Expr}
def GW (K:qai) (tl:TE):TI:=λσ H R=>tl σ H λx H1=>∃ a,x=.ref a/\(∃ xs,SqL K H1 a xs)/\R (Itl K a) H1
def Ii (K:qai) (tl:TE):TI:=λσ H R=>tl σ H λx H1=>∃ a,x=.ref a/\(∃ xs,SqT K H1 a xs)/\R (Itt K a) H1
theorem xo {l:Expr}{tl:TE} (hl:PE X l tl):PI X tg l (GW X.K tl):=by
 intro pins s σ H R I h
 refine thn (hl pins s σ H _ I h) λv s1 ⟨x,H1,I1,r1,q1⟩=>?_
 obtain⟨a,e,⟨xs,hq⟩,q⟩:=q1
 subst e
 cases r1
 obtain⟨its,rv,p,hz⟩:=I1.list hq
 refine qkD p.isList ?_
 refine⟨s1.heap.objs.size,[s1.heap.objs.size],_,_,H1,rfl,I1.kept (t':=s1.toks) λb o e=>qae _ e,yR a _,⟨_,qau _ rfl,rfl,rfl⟩,λb hb=>?_,q⟩
 have e:b=s1.heap.objs.size:=by simpa using hb
 subst e
 exact I1.fpOk (qap _) (I1.hok.fresh (qap _))
theorem EC {l:Expr}{tl:TE} (hl:PE X l tl):PI X tg l (Ii X.K tl):=by
 intro pins s σ H R I h
 refine thn (hl pins s σ H _ I h) λv s1 ⟨x,H1,I1,r1,q1⟩=>?_
 obtain⟨a,e,⟨xs,hq⟩,q⟩:=q1
 subst e
 cases r1
 obtain⟨its,rv,p,hz⟩:=I1.tuple hq
 refine qed (show s1.heap.IsTuple a its.toArray from p) ?_
 refine⟨s1.heap.objs.size,[s1.heap.objs.size],_,_,H1,rfl,I1.kept (t':=s1.toks) λb o e=>qae _ e,xb a _,⟨_,qau _ rfl,rfl,rfl⟩,λb hb=>?_,q⟩
 have e:b=s1.heap.objs.size:=by simpa using hb
 subst e
 exact I1.fpOk (qap _) (I1.hok.fresh (qap _))
theorem BJ {pins:List (Addr×Obj)}{σ:St}{H:Hp}{s:qaj}{R:It->Hp->Prop}{E:Value->qaj->Prop}{lo hi:Int}{t u v:Tok}{tk:Nat} (I:Inv X pins σ H s) (h1:-(2^62)<=lo) (h2:lo<2^62) (h3:-(2^62)<=hi) (h4:hi<2^62)
  (q:R (Itr lo (hi - lo).toNat) H):wpAny (model X.prog X.w) X.A (qih (.ref s.heap.objs.size)) (PIE X pins σ tg R) E { s with heap:=s.heap.push { cls:=.type "range",data:=.fields #[.int lo t,.int hi u,.int 1 v] },toks:=tk }:=by
 refine wpAny_pyIter_range (IsRange.new ..) (small_one h1 h2 h3 h4) ?_
 have I1:Inv X pins σ H { s with heap:=s.heap.push { cls:=.type "range",data:=.fields #[.int lo t,.int hi u,.int 1 v] },toks:=tk }:=I.kept λb o e=>qae _ e
 refine⟨(s.heap.push { cls:=.type "range",data:=.fields #[.int lo t,.int hi u,.int 1 v] }).objs.size,[(s.heap.push { cls:=.type "range",data:=.fields #[.int lo t,.int hi u,.int 1 v] }).objs.size],_,_,H,rfl,
  I1.kept (t':=tk) λb o e=>qae _ e,wq _ lo (hi - lo).toNat,?_,λb hb=>?_,q⟩
 ·have e1:lo+((0:Nat):Int)*1=lo:=by simp
  have e2:(((hi - lo).toNat:Nat):Int) - ((0:Nat):Int)=qkZ lo hi 1:=by rw[rangeSize_one];split<;>lia
  show IsRangeIter _ _ (lo+((0:Nat):Int)*1) ((((hi - lo).toNat:Nat):Int) - ((0:Nat):Int)) 1
  rw[e1,e2]
  exact qau _ rfl
 ·have e:b=(s.heap.push { cls:=.type "range",data:=.fields #[.int lo t,.int hi u,.int 1 v] }).objs.size:=by simpa using hb
  subst e
  exact I1.fpOk (qap _) (I1.hok.fresh (qap _))
def G5 (ta:TA):TI:=λσ H R=>ta σ H λvs H1=>∃ j:Int,vs=[.int j]/\-(2^62)<=j/\j<2^62/\R (Itr 0 j.toNat) H1
theorem zx {a:Expr}{ta:TA}{p pos:Pos} (hg:Gl X "range") (hm:X.mg "range" = none) (ha:PA X [a] ta) (hs:qbP [a] X.env=[(false,eval a X.env)]:=by rfl):PI X tg (.Call (.Name "range" p) [a] [] pos) (G5 ta):=by
 intro pins s σ H R I h
 refine Call_ (il I hg hm boot_range (qb8 (thn (ha pos pins s σ H _ I h) λus s1 ⟨vs,H1,I1,r1,q1⟩=>?_) hs rfl))
 obtain⟨j,e,q1,q2,q⟩:=q1
 subst e
 cases r1 with
 |cons r rr=>
  cases rr
  obtain⟨t,rfl⟩:=r
  exact call_range_1 (BJ I1 (by lia) (by lia) q1 q2 (by simpa using q))
def HF (wi:TI) (g:TG) (tb:TS):TS:=λD σ H=>wi σ H λJ H1=>∃ W:Nat->Nat->St->Hp->Prop,(∃ m,W 0 m σ H1)/\∀ i m σ H,W i m σ H->
 (J.stop i H/\D.nx σ H)\/(J.go i H/\∃ N:St->Hp->Prop,(∀ σ' H',N σ' H'->∃ m',m'<m/\W (i+1) m' σ' H')/\∀ x H',J.yld i H x H'->g x σ H' λσ2 H2=>tb { D with nx:=N,ct:=N,bk:=D.nx } σ2 H2)
def mN (fp:List Addr) (h:Heap):List (Addr×Obj):=fp.filterMap λb=>(h.get? b).map λo=>(b,o)
theorem dJ {fp:List Addr}{h:Heap}{b:Addr}{o:Obj} (hb:b∈fp) (e:h.get? b=some o):(b,o)∈mN fp h:=qgq.mpr ⟨b,hb,by rw[e];rfl⟩
theorem yN {fp:List Addr}{h:Heap}{p:Addr×Obj} (hp:p∈mN fp h):p.1∈fp/\h.get? p.1=some p.2:=by
 obtain⟨b,hb,e⟩:=qgq.mp hp
 cases q:h.get? b with
 |none=>rw[q]at e;cases e
 |some o=>
  rw[q]at e
  have e':(b,o)=p:=qaS e
  subst e'
  exact⟨hb,q⟩
theorem Inv.pinned {pins:List (Addr×Obj)}{σ:St}{H:Hp}{s:qaj}{fp:List Addr} (I:Inv X pins σ H s) (hf:∀ b∈fp,j9 X pins H b) (ho:∀ b∈fp,∃ o,s.heap.get? b=some o/\∀ v,o.data≠.cell v):Inv X (pins++mN fp s.heap) σ H s:=
 I.pins_of λp hp=>(qbo.mp hp).elim (λz=>I.pin p (qav _ z)) λz=>by
  obtain⟨hb,e⟩:=yN z
  obtain⟨f0,f1,f2,_⟩:=hf p.1 hb
  obtain⟨o,e',d⟩:=ho p.1 hb
  rw[e]at e';cases e'
  exact⟨e,f0,f1,f2,d⟩
theorem Inv.unpinned {pins pl:List (Addr×Obj)}{σ:St}{H:Hp}{s:qaj} (I:Inv X (pins++pl) σ H s):Inv X pins σ H s:=I.pins_of λp hp=>I.pin p (qav _ (qct _ hp))
theorem AW {iter:Expr}{body:List Stmt}{wi:TI}{g:TG}{tb:TS}{pos:Pos} (hp:qio (model X.prog X.w) X.A X.env X.xe) (hc:X.calm=true) (hi:PI X tg iter wi) (hg:PG X tg g) (hb:PSs X body tb)
  (hs:∀ x,qc8 iter X.env x=pure x:=by intro _;rfl):PS X (.For tg iter body [] pos) (HF wi g tb):=by
 intro pins s σ H D I h
 refine wpAny_For (thn (hi pins s σ H _ I h) λv s1 h1=>thn h1 λitv s2 h2=>?_) hs
 obtain⟨it,fp,tn,J,H2,e,I2,T,st2,f2,W,⟨m0,w0⟩,turn⟩:=h2
 subst e
 -- what stays true of the iterator's objects through the loop
 have stat:∀ {H':Hp},(∀ b∈fp,H' b=none)->∀ b∈fp,j9 X pins H' b:=λhn b hb=>⟨hn b hb,(f2 b hb).2⟩
 refine codeAny_forLoop_any (λn s'=>∃ i σ' H',Inv X pins σ' H' s'/\tn i s'.heap/\(∀ b∈fp,H' b=none)/\W i n σ' H') ?_ m0 ⟨0,σ,H2,I2,st2,λb hb=>(f2 b hb).1,w0⟩
 rintro n s3 ⟨i,σ3,H3,I3,st3,fr3,w3⟩
 rcases turn i n σ3 H3 w3 with⟨stop,qn⟩|⟨go,N,hN,step⟩
 ·refine qdA hp (thn (T.done X rfl rfl rfl hc i pins s3 σ3 H3 X.xe I3 (stat fr3) st3 stop) λr s4 ⟨hr,I4⟩=>?_)
  subst hr
  exact qf4 ⟨σ3,H3,I4,qn⟩
 ·refine qdA hp (thn (T.item X rfl rfl rfl hc i pins s3 σ3 H3 X.xe I3 (stat fr3) st3 go) λr s4 ⟨u,hr,h4⟩=>?_)
  subst hr
  refine qdA hp (thn h4 λ_ s5 ⟨x,H5,I5,r5,y5,st5,fr5⟩=>?_)
  have I5':=I5.pinned (stat fr5) (T.obj _ _ st5)
  refine qdA hp (thn (hg _ s5 σ3 H5 x u _ I5' r5 (step x H5 y5)) λ_ s6 ⟨σ6,H6,I6,q6⟩=>?_)
  refine qdA hp (thn (hb _ s6 σ6 H6 _ I6 q6) λf s7 q7=>?_)
  have again:∀ {σ7:St}{H7:Hp},Inv X (pins++mN fp s5.heap) σ7 H7 s7->N σ7 H7->∃ m,m<n/\∃ i σ' H',Inv X pins σ' H' s7/\tn i s7.heap/\(∀ b∈fp,H' b=none)/\W i m σ' H':=λ{σ7 H7} I7 n7=>by
   obtain⟨m',hm,w7⟩:=hN σ7 H7 n7
   refine⟨m',hm,i+1,σ7,H7,I7.unpinned,T.keep _ _ _ st5 λb hb o e=>(I7.pin (b,o) (qav _ (qav _ (dJ hb e)))).1,λb hb=>?_,w7⟩
   obtain⟨o,e,d⟩:=T.obj _ _ st5 b hb
   exact (I7.pin (b,o) (qav _ (qav _ (dJ hb e)))).2.1
  cases f with
  |next=>obtain⟨σ7,H7,I7,n7⟩:=q7;exact again I7 n7
  |cont=>obtain⟨σ7,H7,I7,n7⟩:=q7;exact again I7 n7
  |brk=>obtain⟨σ7,H7,I7,q7⟩:=q7;exact⟨σ7,H7,I7.unpinned,q7⟩
  |ret v=>obtain⟨x7,σ7,H7,I7,r7,q7⟩:=q7;exact⟨x7,σ7,H7,I7.unpinned,r7,q7⟩
end
abbrev R2:=V->V->Hp->VK->Prop
def OpR (X:Cx) (f:Value->Value->Sem Value) (r:R2):Prop:=
 ∀ (pins:List (Addr×Obj)) (s:qaj) (σ:St) (H:Hp) (x y:V) (v u:Value) (Q:VK),Inv X pins σ H s->aW x v->aW y u->r x y H Q->
  wpAny (model X.prog X.w) X.A (f v u) (EP X pins σ Q) X.xe s
def UnR (X:Cx) (f:Value->Sem Value) (r:V->Hp->VK->Prop):Prop:=
 ∀ (pins:List (Addr×Obj)) (s:qaj) (σ:St) (H:Hp) (x:V) (v:Value) (Q:VK),Inv X pins σ H s->aW x v->r x H Q->
  wpAny (model X.prog X.w) X.A (f v) (EP X pins σ Q) X.xe s
def eV (X:Cx) (f:Value) (r:List V->Hp->VK->Prop):Prop:=
 ∀ (pins:List (Addr×Obj)) (s:qaj) (σ:St) (H:Hp) (xs:List V) (us:List Value) (Q:VK),Inv X pins σ H s->aP xs us->r xs H Q->
  wpAny (model X.prog X.w) X.A (call f us) (EP X pins σ Q) X.xe s
def Ik (X:Cx) (r:V->Hp->(Bool->Hp->Prop)->Prop):Prop:=
 ∀ (pins:List (Addr×Obj)) (s:qaj) (σ:St) (H:Hp) (x:V) (v:Value) (Q:Bool->Hp->Prop),Inv X pins σ H s->aW x v->r x H Q->
  wpAny (model X.prog X.w) X.A (truthy v) (TP X pins σ Q) X.xe s
def tOp (r:R2) (ta tb:TE):TE:=λσ H Q=>ta σ H λx H1=>tb σ H1 λy H2=>r x y H2 Q
def tUn (r:V->Hp->VK->Prop) (ta:TE):TE:=λσ H Q=>ta σ H λx H1=>r x H1 Q
def rI (C:Int->Int->Prop) (g:Int->Int->V):R2:=λx y H Q=>∃ i j,x=.int i/\y=.int j/\C i j/\Q (g i j) H
def rI0 (g:Int->Int->V):R2:=λx y H Q=>∃ i j,x=.int i/\y=.int j/\Q (g i j) H
def rU (g:Int->V):V->Hp->VK->Prop:=λx H Q=>∃ i,x=.int i/\Q (g i) H
section
variable {X:Cx}{a b c:Expr}{ta tb tc:TE}{pos:Pos}
theorem FJ (ha:PE X a ta) (hb:PE X b tb) {pins:List (Addr×Obj)}{s:qaj}{σ:St}{H:Hp}{R:V->V->Hp->Prop} (I:Inv X pins σ H s)
  (h:ta σ H λx H1=>tb σ H1 λy H2=>R x y H2) {Q:Value->qaj->Prop}{f:Value->Value->Sem Value}
  (hf:∀ v u s2 x y H2,Inv X pins σ H2 s2->aW x v->aW y u->R x y H2->wpAny (model X.prog X.w) X.A (f v u) Q X.xe s2) :
  wpAny (model X.prog X.w) X.A (eval a X.env) (λv s₁=>wpAny (model X.prog X.w) X.A (eval b X.env) (λu s₂=>wpAny (model X.prog X.w) X.A (f v u) Q X.xe s₂) X.xe s₁) X.xe s:=by
 refine thn (ha pins s σ H _ I h) λv s1 ⟨x,H1,I1,r1,q1⟩=>?_
 refine thn (hb pins s1 σ H1 _ I1 q1) λu s2 ⟨y,H2,I2,r2,q2⟩=>?_
 exact hf v u s2 x y H2 I2 r1 r2 q2
theorem Hz {op:Operator}{r:R2} (ho:OpR X (qbT op) r) (ha:PE X a ta) (hb:PE X b tb):PE X (.BinOp a op b pos) (tOp r ta tb):=by
 intro pins s σ H Q I h
 exact wpAny_BinOp (FJ ha hb I h λv u s2 x y H2 I2 rx ry q=>ho pins s2 σ H2 x y v u Q I2 rx ry q)
theorem G7 {op:UnaryOp}{r:V->Hp->VK->Prop} (ho:UnR X (unaryOp op) r) (ha:PE X a ta):PE X (.UnaryOp op a pos) (tUn r ta):=by
 intro pins s σ H Q I h
 exact UnaryOp_ (thn (ha pins s σ H _ I h) λv s1 ⟨x,H1,I1,r1,q1⟩=>ho pins s1 σ H1 x v Q I1 r1 q1)
theorem opI {f:Value->Value->Sem Value}{C:Int->Int->Prop}{g:Int->Int->Int}
  (rule:∀ (i j:Int) (t u:Tok) (s:qaj) (Q:Value->qaj->Prop) (E:Value->qaj->Prop),C i j->Q (.int (g i j) s.toks) { s with toks:=s.toks+1 }->wpAny (model X.prog X.w) X.A (f (.int i t) (.int j u)) Q E s) :
  OpR X f (rI C λi j=>.int (g i j)):=by
 intro pins s σ H x y v u Q I rx ry h
 obtain⟨i,j,rfl,rfl,hc,q⟩:=h
 obtain⟨t,rfl⟩:=rx
 obtain⟨t',rfl⟩:=ry
 exact rule i j t t' s _ _ hc ⟨.int (g i j),H,I.tok _,⟨_,rfl⟩,q⟩
theorem ER {f:Value->Value->Sem Value}{g:Int->Int->Int}
  (rule:∀ (i j:Int) (t u:Tok) (s:qaj) (Q:Value->qaj->Prop) (E:Value->qaj->Prop),Q (.int (g i j) s.toks) { s with toks:=s.toks+1 }->wpAny (model X.prog X.w) X.A (f (.int i t) (.int j u)) Q E s) :
  OpR X f (rI0 λi j=>.int (g i j)):=by
 intro pins s σ H x y v u Q I rx ry h
 obtain⟨i,j,rfl,rfl,q⟩:=h
 obtain⟨t,rfl⟩:=rx
 obtain⟨t',rfl⟩:=ry
 exact rule i j t t' s _ _ ⟨.int (g i j),H,I.tok _,⟨_,rfl⟩,q⟩
theorem Cd {f:Value->Value->Sem Value}{g:Int->Int->Bool}
  (rule:∀ (i j:Int) (t u:Tok) (s:qaj) (Q:Value->qaj->Prop) (E:Value->qaj->Prop),Q (.bool (g i j)) s->wpAny (model X.prog X.w) X.A (f (.int i t) (.int j u)) Q E s) :
  OpR X f (rI0 λi j=>.bl (g i j)):=by
 intro pins s σ H x y v u Q I rx ry h
 obtain⟨i,j,rfl,rfl,q⟩:=h
 obtain⟨t,rfl⟩:=rx
 obtain⟨t',rfl⟩:=ry
 exact rule i j t t' s _ _ ⟨.bl (g i j),H,I,rfl,q⟩
def Ic (i j:Int):Prop:=0<j/\j<1073741824
def qC (i j:Int):Prop:=0<=j/\j<=1000000/\i.natAbs<2^64
def DG (i j:Int):Prop:=(-(2^64)<i/\i<2^64)\/(-(2^64)<j/\j<2^64)
theorem DG.ok {i j:Int} (h:DG i j):qh9 i j:=by
 rcases h with⟨h1,h2⟩|⟨h1,h2⟩
 ·exact .of_left (intBits_le_64 h1 h2)
 ·exact .of_right (intBits_le_64 h1 h2)
theorem xg (k:Nat):(0:Int)<=2^k:=by
 rw[two_pow_cast]
 exact Int.natCast_nonneg _
theorem Fg:OpR X (qbT .Add) (rI0 λi j=>.int (i+j)):=ER λ_ _ _ _ _ _ _ q=>add_int q
theorem E7:OpR X (qbT .Sub) (rI0 λi j=>.int (i - j)):=ER λ_ _ _ _ _ _ _ q=>sub_int q
theorem Cc:OpR X (qbT .FloorDiv) (rI Ic λi j=>.int (i / j)):=opI λi j _ _ _ _ _ hc q=>by
 have h1:(0:Int)<j:=hc.1
 have h2:j<1073741824:=hc.2
 exact floordiv_int (by lia) (by rw[qhQ i (by lia)];exact q) (.inl (PyProof.noPylong_small (by lia)))
theorem Fz:OpR X (qbT .Mod) (rI (λ_ j=>0<j) λi j=>.int (i%j)):=opI λi j _ _ _ _ _ hc q=>by
 have h1:(0:Int)<j:=hc
 exact mod_int' (by lia) (by rw[Int.fmod_eq_emod_of_nonneg i (by lia)];exact q)
theorem El:OpR X (qbT .Pow) (rI qC λi j=>.int (i^j.toNat)):=opI λ_ _ _ _ _ _ _ hc q=>pow_int_small hc.1 hc.2.1 hc.2.2 q
theorem Fx:OpR X (qbT .LShift) (rI qC λi j=>.int (i*2^j.toNat)):=opI λ_ _ _ _ _ _ _ hc q=>lshift_int_small hc.1 hc.2.1 hc.2.2 q
theorem EQ:OpR X (qbT .RShift) (rI (λ_ j=>0<=j) λi j=>.int (i / 2^j.toNat)):=opI λi j _ _ _ _ _ hc q=>
 rshift_int hc (by rw[qhQ i (xg _)];exact q)
theorem EU:OpR X (qbT .BitAnd) (rI0 λi j=>.int (qez i j)):=ER λ_ _ _ _ _ _ _ q=>and_int q
theorem unI {f:Value->Sem Value}{g:Int->Int}
  (rule:∀ (i:Int) (t:Tok) (s:qaj) (Q:Value->qaj->Prop) (E:Value->qaj->Prop),Q (.int (g i) s.toks) { s with toks:=s.toks+1 }->wpAny (model X.prog X.w) X.A (f (.int i t)) Q E s) :
  UnR X f (rU λi=>.int (g i)):=by
 intro pins s σ H x v Q I rx h
 obtain⟨i,rfl,q⟩:=h
 obtain⟨t,rfl⟩:=rx
 exact rule i t s _ _ ⟨.int (g i),H,I.tok _,⟨_,rfl⟩,q⟩
theorem Fo:UnR X (unaryOp .USub) (rU λi=>.int (-i)):=unI λ_ _ _ _ _ q=>neg_int q
end
section
variable {X:Cx}{a b c:Expr}{ta tb tc:TE}{pos:Pos}
theorem FN {pins:List (Addr×Obj)}{σ:St}{H:Hp}{s:qaj}{Q:VK}{k k':Bool} (I:Inv X pins σ H s) (q:Q (.bl k) H) (e:k=k'):EP X pins σ Q (.bool k') s:=by
 subst e
 exact⟨.bl k,H,I,rfl,q⟩
theorem Hd:OpR X (qcB .Lt) (rI0 λi j=>.bl (decide (i<j))):=Cd λ_ _ _ _ _ _ _ q=>lt_int q
theorem GI:OpR X (qcB .LtE) (rI0 λi j=>.bl (decide (i<=j))):=Cd λ_ _ _ _ _ _ _ q=>le_int q
theorem Hy:OpR X (qcB .Gt) (rI0 λi j=>.bl (decide (j<i))):=Cd λ_ _ _ _ _ _ _ q=>gt_int q
theorem G6:OpR X (qcB .GtE) (rI0 λi j=>.bl (decide (j<=i))):=Cd λ_ _ _ _ _ _ _ q=>ge_int q
theorem B9:OpR X (qcB .IsNot) (λx y H Q=>y=.non/\Q (.bl (!decide (x=.non))) H):=by
 intro pins s σ H x y v u Q I rx ry h
 obtain⟨rfl,q⟩:=h
 cases ry
 refine isnot_none_gen (FN I q ?_)
 cases x<;>first
  |(cases rx;rfl)
  |(obtain⟨t,rfl⟩:=rx;rfl)
theorem bw (b:Expr) {op:CmpOp} (h:op≠.In:=by decide) (h2:op≠.NotIn:=by decide):qeD op b=false:=by
 have e1:(op==CmpOp.In)=false:=by cases op<;>first|rfl|exact absurd rfl h
 have e2:(op==CmpOp.NotIn)=false:=by cases op<;>first|rfl|exact absurd rfl h2
 cases b<;>simp[qeD,e1,e2]
theorem DL {op:CmpOp}{r:R2} (ho:OpR X (qcB op) r) (ha:PE X a ta) (hb:PE X b tb) (hm:qeD op b=false):PE X (.Compare a [op] [b] pos) (tOp r ta tb):=by
 intro pins s σ H Q I h
 exact wpAny_Compare1 (FJ ha hb I h λv u s2 x y H2 I2 rx ry q=>ho pins s2 σ H2 x y v u Q I2 rx ry q) hm
def GS (t:TE):TT:=λσ H Q=>t σ H λx H'=>∃ k,x=.bl k/\Q k H'
theorem Cw {op:CmpOp}{r:R2} (ho:OpR X (qcB op) r) (ha:PE X a ta) (hb:PE X b tb) (hm:qeD op b=false):PT X (.Compare a [op] [b] pos) (GS (tOp r ta tb)):=by
 intro pins s σ H Q I h
 refine wpAny_isTrue_Compare1 (thn (ha pins s σ H _ I h) λv s1 ⟨x,H1,I1,r1,q1⟩=>thn (hb pins s1 σ H1 _ I1 q1) λu s2 ⟨y,H2,I2,r2,q2⟩=>
  thn (ho pins s2 σ H2 x y v u _ I2 r1 r2 q2) λc s3 ⟨z,H3,I3,r3,k,e,q3⟩=>?_) hm
 subst e
 cases r3
 exact qhq ⟨H3,I3,q3⟩
def Ce (K:qai) (x:V) (H:Hp) (k:Bool):Prop:=
 match x with
 |.non=>k=false
 |.bl b=>k=b
 |.int i=>k=(i != 0)
 |.str y=>y.length<=qaO/\k=((y.length:Int) != 0)
 |.byt y=>y.size<=qaO/\k=((y.size:Int) != 0)
 |.ref p=>(∃ xs,SqL K H p xs/\k=!xs.isEmpty)\/(∃ xs,SqT K H p xs/\k=!xs.isEmpty)\/∃ kvs,H p=some (.dK kvs)/\k=!kvs.isEmpty
 |_=>False
theorem xi {κ:Type}{kvs:List (κ×V)}{vs:List (κ×Value)} (r:KV kvs vs):(!vs.isEmpty)=!kvs.isEmpty:=by
 cases r<;>rfl
theorem pT {xs:List V}{its:List Value} (r:aP xs its):(!its.toArray.isEmpty)=!xs.isEmpty:=by
 cases r<;>simp
theorem kP:(qaO:Nat)<2^63:=by rw[qbM];decide
theorem Fk:Ik X (λx H Q=>∃ k,Ce X.K x H k/\Q k H):=by
 intro pins s σ H x v Q I rx h
 obtain⟨k,e,q⟩:=h
 have hl:=kP
 have hs:qaO=16777216:=qbM
 cases x with
 |non=>
  cases rx
  have e':k=false:=e
  subst e'
  exact truthy_none ⟨H,I,q⟩
 |bl b=>
  cases rx
  have e':k=b:=e
  subst e'
  exact qhq ⟨H,I,q⟩
 |int i=>
  obtain⟨t,rfl⟩:=rx
  have e':k=(i != 0):=e
  subst e'
  exact PySem.P.truthy_int ⟨H,I,q⟩
 |str y=>
  obtain⟨t,rfl⟩:=rx
  obtain⟨hy,e'⟩:y.length<=qaO/\k=((y.length:Int) != 0):=e
  subst e'
  exact PySem.P.truthy_str (by lia) ⟨H,I.tok _,q⟩
 |byt y=>
  obtain⟨t,rfl⟩:=rx
  obtain⟨hy,e'⟩:y.size<=qaO/\k=((y.size:Int) != 0):=e
  subst e'
  exact PySem.W.truthy_bytes (by lia) ⟨H,I.tok _,q⟩
 |ref p=>
  cases rx
  have e':(∃ xs,SqL X.K H p xs/\k=!xs.isEmpty)\/(∃ xs,SqT X.K H p xs/\k=!xs.isEmpty)\/∃ kvs,H p=some (.dK kvs)/\k=!kvs.isEmpty:=e
  rcases e' with⟨xs,hx,e'⟩|⟨xs,hx,e'⟩|⟨kvs,hx,e'⟩
  ·subst e'
   obtain⟨its,r,pl,hz⟩:=I.list hx
   have hlen:=r.length
   exact wpAny_truthy_list pl.isList (by simp only[qat];lia) ⟨H,I.tok _,by rw[pT r];exact q⟩
  ·subst e'
   obtain⟨its,r,pl,hz⟩:=I.tuple hx
   have hlen:=r.length
   exact truthy_tuple pl (by simp only[qat];lia) ⟨H,I.tok _,by rw[pT r];exact q⟩
  ·subst e'
   obtain⟨hz,hS,vs,r,m⟩:kvs.length<=qaO/\(p==qcH)=false/\∃ vs,KV kvs vs/\s.heap.DictOf (cu X.prog X.w) p vs:=I.hok p _ hx
   have hlen:kvs.length=vs.length:=qfT r
   exact wpAny_truthy_dict hS m (by lia) ⟨H,I.tok _,by rw[xi r];exact q⟩
 |_=>exact (show False from e).elim
theorem zO (ha:PE X a ta) (he:∀ whole,ql5 a X.env whole=(do let v <-whole;qlW a.pos;qfu [v] (truthy v))) :
  PT X a (λσ H Q=>ta σ H λx H'=>∃ k,Ce X.K x H' k/\Q k H'):=by
 intro pins s σ H Q I h
 exact isTrue_plain (thn (ha pins s σ H _ I h) λv s1 ⟨x,H1,I1,r1,q1⟩=>Fk pins s1 σ H1 x v Q I1 r1 q1) (he _)
theorem we:OpR X (qbT .Add) (λx y H Q=>∃ i j,x=.str i/\y=.str j/\i.length+j.length<=qaO/\Q (.str (i++j)) H):=by
 intro pins s σ H x y v u Q I rx ry h
 obtain⟨i,j,rfl,rfl,hz,q⟩:=h
 obtain⟨t,rfl⟩:=rx
 obtain⟨t',rfl⟩:=ry
 exact add_str (λt' tk=>⟨.str (i++j),H,I.tok _,⟨_,rfl⟩,q⟩) hz
theorem lO {x:V}{us:List Value} (r:aP [x] us):∃ u,us=[u]/\aW x u:=by
 cases r with
 |cons r1 r2=>cases r2;exact⟨_,rfl,r1⟩
theorem Ad:eV X (.builtin "abs") (λxs H Q=>∃ i,xs=[.int i]/\Q (.int (if i<0 then -i else i)) H):=by
 intro pins s σ H xs us Q I r h
 obtain⟨i,rfl,q⟩:=h
 obtain⟨u,rfl,t,rfl⟩:=lO r
 exact call_abs_int λu tk=>⟨.int (if i<0 then -i else i),H,I.tok _,⟨_,rfl⟩,q⟩
theorem rn:eV X (.type "int") (λxs H Q=>(∃ i,xs=[.int i]/\Q (.int i) H)\/∃ k,xs=[.bl k]/\Q (.int (if k then 1 else 0)) H):=by
 intro pins s σ H xs us Q I r h
 rcases h with⟨i,rfl,q⟩|⟨k,rfl,q⟩
 ·obtain⟨u,rfl,t,rfl⟩:=lO r
  exact call_int_int ⟨.int i,H,I,⟨_,rfl⟩,q⟩
 ·obtain⟨u,rfl,r1⟩:=lO r
  cases r1
  exact call_int_bool ⟨.int (if k then 1 else 0),H,I.tok _,⟨_,rfl⟩,q⟩
end
structure FD (h:Heap) (x dx C:Addr) (mA:Str->Option Value):Prop where
 obj:h.get? x=some (qgK C dx)
 ns:h.Ns1 dx mA
 ne:dx≠x
theorem zA {h:Heap}{dx:Addr}{mA:Str->Option Value} (n:h.Ns1 dx mA):∃ od,h.get? dx=some od/\∀ name,qhd name od=some (mA name):=by
 obtain⟨o,es,ep,ho,hd,hk,_,hm⟩:=n
 refine⟨o,ho,λname=>?_⟩
 have e:=hm name
 unfold nsFind findBy at e
 rw[<-Array.find?_toList]at e
 unfold qhd
 rw[hd]
 dsimp only
 split
 ·rename_i y q
  rw[q]at e
  exact congrArg some e
 ·rename_i q
  rw[q]at e
  have a:es.toList.any (·.refKey)=false:=by
   rw[qjJ]
   intro y hy
   obtain⟨z,t,hkey⟩:=hk y (Array.mem_toList_iff.mp hy)
   simp[DictEntry.refKey,hkey]
  have a':¬ es.toList.any (·.refKey)=true:=by rw[a];exact qan
  rw[if_neg a']
  exact congrArg some e
theorem FD.look {h:Heap}{x dx C:Addr}{mA:Str->Option Value} (I:FD h x dx C mA):∃ od,PySem.W.InstAt h x (qgK C dx) C (some od)/\∀ name,qhd name od=some (mA name):=
 let ⟨od,ho,hl⟩:=zA I.ns
 ⟨od,⟨I.obj,rfl,rfl,ho⟩,hl⟩
section
variable {prog:qaY}{w:World}{A:qa9}{E:Value->qaj->Prop}{s:qaj}{K:qai}{x dx C f:Addr}{mA:Str->Option Value}{name:Str}{v:Value}
end
theorem mR.some_of {v:V}{o:Option Value} (r:mR (some v) o):∃ u,o=some u/\aW v u:=by
 cases o with
 |none=>exact (show False from r).elim
 |some u=>exact⟨u,rfl,r⟩
section
variable {P:qaY}{w:World}{H H':Hp}{h h':Heap}{a C dx:Addr}{fs fs':List (Str×V)}
theorem Cf (hok:HOk P w H h) (e:H a=some (.ins C dx fs)):∃ mA,FD h a dx C mA/\(∀ f,mR (fs.lookup f) (mA f))/\qku mA (fs.map (·.1))/\fs.length<=1000/\H dx=some (.own a):=by
 obtain⟨d,z,ne,ob,mA,n,r,q⟩:=(show cq P w H h a (.ins C dx fs) from hok a _ e)
 exact⟨mA,⟨ob,n,ne⟩,r,q,z,d⟩
end
structure Cls (K:qai) (C:Addr):Prop where
 pg:qi1 K C Str.empty=true
 hd:PySem.W.hasDictIn K C=true
 po:PySem.W.plainOver K C=true
 sa:qjE K (.ref C) "__setattr__" = some (some (.builtin "object.__setattr__"))
theorem Cls.get {K:qai}{C:Addr} (c:Cls K C) (f:Str):qi1 K C f=true:=c.pg
section
variable {X:Cx}{pins:List (Addr×Obj)}{σ:St}{H:Hp}{s:qaj}{a C dx:Addr}{fs:List (Str×V)}{f:Str}{v:V}{A:qa9}{E:Value->qaj->Prop}
end
section
variable {X:Cx}{o e value:Expr}{f:Str}{pos pos' tpos:Pos}{ta tv:TE}
end
section
variable {X:Cx}{pins:List (Addr×Obj)}{σ:St}{H:Hp}{s:qaj}{A:qa9}{E:Value->qaj->Prop}{Q:Value->qaj->Prop}{c:Value}{b:Bool}
inductive nJ (K:qai) (H:Hp):V->Value->Prop where
 |non:nJ K H .non (.type "NoneType")
 |bl (x:Bool):nJ K H (.bl x) (.type "bool")
 |int (i:Int):nJ K H (.int i) (.type "int")
 |str (x:Str):nJ K H (.str x) (.type "str")
 |flt (x:UInt64):nJ K H (.flt x) (.type "float")
 |lst {a:Addr}{xs:List V} (e:H a=some (.lst xs)):nJ K H (.ref a) (.type "list")
 |frz {a:Addr}{o:Obj}{xs:List V} (e:H a=some (.frz o (.lst xs))):nJ K H (.ref a) (.type "list")
 |tup {a:Addr}{xs:List V} (e:H a=some (.tup xs)):nJ K H (.ref a) (.type "tuple")
 |dK {a:Addr}{kvs:List (Key×V)} (e:H a=some (.dK kvs)):nJ K H (.ref a) (.type "dict")
 |dT {a:Addr}{kvs:List (List Key×V)} (e:H a=some (.dT kvs)):nJ K H (.ref a) (.type "dict")
 |ins {a C dx:Addr}{fs:List (Str×V)} (e:H a=some (.ins C dx fs)) (cl:Cls K C) (ha:qjE K (.ref C) "__class__" = some (some (.builtin "object.__class__")))
   (hn:PySem.W.specialIn K (.builtin "object.__class__") "__get__" = some (some (.builtin "getset_descriptor.__get__"))) (htk:PySem.W.takesIn K (.builtin "object.__class__")=some true)
   (hm:PySem.W.mroIn K C (.type "object")=some true):nJ K H (.ref a) (.ref C)
theorem dh {x:V}{u t:Value} (I:Inv X pins σ H s) (rx:aW x u) (ty:nJ X.K H x t) (e:qjD X.K t c=some b) (h:∀ tk,Q (.bool b) { s with toks:=tk }) :
  wpAny (model X.prog X.w) A (call (.builtin "isinstance") [u,c]) Q E s:=by
 cases ty with
 |non=>cases (show u=Value.none from rx);exact qb3 PySem.W.kitx_none I.kIn True.intro e (λz=>nomatch z) h
 |bl y=>cases (show u=Value.bool y from rx);exact qb3 PySem.W.kitx_bool I.kIn True.intro e (λz=>nomatch z) h
 |int i=>obtain⟨t,q⟩:=(show ∃ t,u=Value.int i t from rx);cases q;exact qb3 PySem.W.kitx_int I.kIn True.intro e (λz=>nomatch z) h
 |str y=>obtain⟨t,q⟩:=(show ∃ t,u=Value.str y t from rx);cases q;exact qb3 PySem.W.kitx_str I.kIn True.intro e (λz=>nomatch z) h
 |flt y=>obtain⟨t,q⟩:=(show ∃ t,u=Value.float y t from rx);cases q;exact qb3 PySem.W.kitx_float I.kIn True.intro e (λz=>nomatch z) h
 |@lst a xs ea=>
  cases (show u=Value.ref a from rx)
  obtain⟨_,_,n,_,h1⟩:=(show cq X.prog X.w H s.heap a (.lst xs) from I.hok a _ ea)
  exact qb3 qiK I.kIn ⟨_,h1,rfl⟩ e (λz=>nomatch z) h
 |@frz a ob xs ea=>
  cases (show u=Value.ref a from rx)
  obtain⟨_,_,_,n,_,h1⟩:=(show cq X.prog X.w H s.heap a (.frz ob (.lst xs)) from I.hok a _ ea)
  exact qb3 qiK I.kIn ⟨_,h1,rfl⟩ e (λz=>nomatch z) h
 |@tup a xs ea=>
  cases (show u=Value.ref a from rx)
  obtain⟨_,_,_,p⟩:=(show cq X.prog X.w H s.heap a (.tup xs) from I.hok a _ ea)
  obtain⟨o,h1,h2,_⟩:=p
  exact qb3 qiw I.kIn ⟨o,h1,h2⟩ e (λz=>nomatch z) h
 |@dK a kvs ea=>
  cases (show u=Value.ref a from rx)
  obtain⟨_,_,vs,_,p⟩:=(show cq X.prog X.w H s.heap a (.dK kvs) from I.hok a _ ea)
  obtain⟨o,es,ep,h1,h2,_⟩:=p
  exact qb3 qiL I.kIn ⟨o,h1,h2.1⟩ e (λz=>nomatch z) h
 |@dT a kvs ea=>
  cases (show u=Value.ref a from rx)
  obtain⟨_,_,xs,_,o,es,ep,h1,h2,_⟩:=(show cq X.prog X.w H s.heap a (.dT kvs) from I.hok a _ ea)
  exact qb3 qiL I.kIn ⟨o,h1,h2.1⟩ e (λz=>nomatch z) h
 |@ins a C dx fs ea cl ha hn htk hm=>
  cases (show u=Value.ref a from rx)
  obtain⟨mA,O,_⟩:=Cf I.hok ea
  obtain⟨od,J,_⟩:=O.look
  exact qb3 (PySem.W.kitx_own (cl.get _) cl.hd ha hn htk hm) I.kIn J e (λz=>nomatch z) h
end
structure cX (k:Nat) (A:qa9):Prop where
 hd:A.handled=none
 dp:A.depth+3*k+5<qmg
 un:A.units+16*k+200<cLine
 gd:A.guards=some []
theorem cX.mono {j k:Nat}{A:qa9} (r:cX k A) (h:j<=k):cX j A:=⟨r.hd,by have:=r.dp;lia,by have:=r.un;lia,r.gd⟩
theorem cX.deeper {k:Nat}{A:qa9} (r:cX (k+1) A) (env:Env):cX k (A.deeper env):=
 ⟨r.hd,by have:=r.dp;show A.depth+1+3*k+5<_;lia,by have:=r.un;show A.units+3+16*k+200<_;lia,r.gd⟩
theorem cX.depth {k:Nat}{A:qa9} (r:cX k A):A.depth<qmg:=by have:=r.dp;lia
theorem cX.units {k:Nat}{A:qa9} (r:cX k A):A.units+64<cLine:=by have:=r.un;lia
theorem cX.units0 {k:Nat}{A:qa9} (r:cX k A):A.units<cLine:=by have:=r.un;lia
def HR:TA:=λ_ H Q=>Q [] H
def Hs (ta:TE) (tr:TA):TA:=λσ H Q=>ta σ H λx H1=>tr σ H1 λxs H2=>Q (x::xs) H2
section
variable {X:Cx}{e:Expr}{es:List Expr}{te:TE}{t:TA}{pos:Pos}
theorem EG:PA X [] HR:=λ_ _ _ _ H Q I h=>qdu ⟨[],H,I,.nil,h⟩
theorem CK (ha:PE X e te) (hr:PA X es t) (hs:qbP (e::es) X.env=(false,eval e X.env)::qbP es X.env:=by rfl):PA X (e::es) (Hs te t):=by
 intro pos pins s σ H Q I h
 rw[hs]
 show wpAny _ _ (qf5 ((false,eval e X.env)::qes pos (qbP es X.env))) _ _ s
 refine qcN (thn (ha pins s σ H _ I h) λu s1 ⟨x,H1,I1,r1,q1⟩=>?_)
 exact thn (hr pos pins s1 σ H1 _ I1 q1) λus s2 ⟨xs,H2,I2,r2,q2⟩=>⟨x::xs,H2,I2,.cons r1 r2,q2⟩
def HU (t:TA):TE:=λσ H Q=>t σ H λxs H1=>xs.length<=qaO/\∀ p,H1 p=none->Q (.ref p) (upd H1 p (.tup xs))
def Ia (t:TA):TE:=λσ H Q=>t σ H λxs H1=>xs.length<=qaO/\∀ p,H1 p=none->Q (.ref p) (upd H1 p (.lst xs))
theorem EW {x1} (h:PA X es t):PE X (.Tuple es x1 pos) (HU t):=by
 intro pins s σ H Q I hq
 refine wpAny_Tuple_spliced (thn (h pos pins s σ H _ I hq) λus s1 ⟨xs,H1,I1,r,z,q⟩=>⟨by rw[<-r.length];exact z,?_⟩)
 have hf:H1 s1.heap.objs.size=none:=I1.hok.fresh (qap _)
 refine⟨.ref s1.heap.objs.size,upd H1 s1.heap.objs.size (.tup xs),I1.laid (t':=s1.toks) (λb u e=>qae _ e) (qap _) ?_,rfl,q _ hf⟩
 exact⟨z,us,r,eF.new _ _⟩
theorem zR (h:PA X es t):PE X (.List es pos) (Ia t):=by
 intro pins s σ H Q I hq
 refine wpAny_List_spliced (thn (h pos pins s σ H _ I hq) λus s1 ⟨xs,H1,I1,r,z,q⟩=>⟨by rw[<-r.length];exact z,?_⟩)
 have hf:H1 s1.heap.objs.size=none:=I1.hok.fresh (qap _)
 refine⟨.ref s1.heap.objs.size,upd H1 s1.heap.objs.size (.lst xs),I1.laid (t':=s1.toks) (λb u e=>qae _ e) (qap _) ?_,rfl,q _ hf⟩
 exact⟨z,us,0,r,qau _ rfl⟩
end
abbrev Sp:=List V->Hp->VK->XK->Prop
abbrev CXT:=List Env->Hp->qaj->XK->Value->qaj->Prop
structure Dz (P:qaY) (w:World) (K:qai) (mg:Str->Option Value) (base:Heap) (A:qa9) (outer:List Env) (s:qaj) (H:Hp):Prop where
 frames:A.frames=some outer
 mod:Mod K mg base
 bs:∀ b o,base.get? b=some o->s.heap.get? b=some o/\H b=none
 bsz:base.objs.size<=s.heap.objs.size
 funs:s.heap.FunFrames base outer
 frf:∀ b∈frs outer,H b=none
 hok:HOk P w H s.heap
 bare:qgQ s.gens
def CE (outer:List Env) (P:qaY) (w:World) (H:Hp) (s:qaj) (Q:VK) (u:Value) (s':qaj):Prop:=
 ∃ v H',s'.os=s.os/\qgQ s'.gens/\Un (frs outer) [] H H' s.heap s'.heap/\HOk P w H' s'.heap/\aW v u/\Q v H'
def CR (CX:CXT) (outer:List Env) (P:qaY) (w:World) (H:Hp) (s:qaj) (Q:VK) (E:XK) (r:ql9) (s':qaj):Prop:=
 match r with
 |.ok (.ret u)=>CE outer P w H s Q u s'
 |.ok _=>False
 |.error e=>CX outer H s E e s'
structure bV (P:qaY) (w:World) (K:qai) (mg:Str->Option Value) (base:Heap) (CX:CXT) (k:Nat) (f:Addr) (fd:qbf) (ps:List Str) (sp:Sp):Prop where
 len:∀ vs H Q E,sp vs H Q E->vs.length=ps.length
 run:∀ (A:qa9) (outer:List Env) (s:qaj) (H:Hp) (args:Args) (us:List Value) (vs:List V) (Q:VK) (E:XK),cX k A->Dz P w K mg base A outer s H->qjx s fd args (ps.zip us)->aP vs us->sp vs H Q E->
  qgb (model P w) A (.call (.ref f) args) (CR CX outer P w H s Q E) s
theorem bV.mono {P:qaY}{w:World}{K:qai}{mg:Str->Option Value}{base:Heap}{CX:CXT}{j k:Nat}{f:Addr}{fd:qbf}{ps:List Str}{sp:Sp} (F:bV P w K mg base CX j f fd ps sp) (h:j<=k) :
  bV P w K mg base CX k f fd ps sp:=⟨F.len,λA outer s H args us vs Q E hr=>F.run A outer s H args us vs Q E (hr.mono h)⟩
section
variable {X:Cx}{pins:List (Addr×Obj)}{σ:St}{H:Hp}{s s':qaj}
theorem Inv.env0 (I:Inv X pins σ H s):Dz X.prog X.w X.K X.mg X.base X.A X.stack s H:=
 ⟨I.ok.frames,I.ok.mod,I.bs,qaL I.ok.bsz I.sz,I.stack,I.stkFree,I.hok,I.bare⟩
theorem Inv.after {Q:VK}{u:Value} (I:Inv X pins σ H s) (h:CE X.stack X.prog X.w H s Q u s'):EP X pins σ Q u s':=by
 obtain⟨v,H',os,bare,un,hok,r,q⟩:=h
 obtain⟨hh,g,d,t,os'⟩:=s'
 obtain rfl:os'=s.os:=os
 exact⟨v,H',I.call (h':=hh) (g':=g) (d':=d) (t':=t) (ch:=[]) un hok bare (λb z=>absurd z (by simp)),r,q⟩
end
def GL (sp:Sp) (dvs:List V) (E:XK) (t:TA):TE:=λσ H Q=>t σ H λvs H1=>sp (vs++dvs) H1 Q E
def bz (K:qai) (fd:qbf) (ps:List Str) (ds:List Value):Prop:=
 ∀ (s:qaj) (us:List Value),K.In s.heap->(us++ds).length=ps.length->qjx s fd ⟨us,[]⟩ (ps.zip (us++ds))
theorem bz.all {K:qai}{fd:qbf}{ps:List Str} (h:∀ us:List Value,us.length=ps.length->bindArgs fd ⟨us,[]⟩=pure (ps.zip us)):bz K fd ps []:=λs us _ hl=>by
 rw[qdq]at hl ⊢
 exact .of_eq (h us hl)
def wJ (CX:CXT) (X:Cx) (E:XK):Prop:=∀ (pins:List (Addr×Obj)) (σ:St) (H:Hp) (s:qaj) (e:Value) (s':qaj),Inv X pins σ H s->CX X.stack H s E e s'->X.xe e s'
section
variable {X:Cx}{CX:CXT}{k:Nat}{f C:Addr}{fd:qbf}{ps:List Str}{sp:Sp}{dvs:List V}{ds:List Value}{E:XK}{x m:Str}{p pos apos:Pos}{e o:Expr}{es:List Expr}{ta:TE}{t:TA}
theorem FW {pins:List (Addr×Obj)}{σ:St}{H:Hp}{s:qaj}{Q:VK}{us:List Value}{vs:List V} (F:bV X.prog X.w X.K X.mg X.base CX k f fd ps sp) (hr:cX k X.A) (hb:bz X.K fd ps ds) (hd:aP dvs ds) (hx:wJ CX X E)
  (I:Inv X pins σ H s) (r:aP vs us) (h:sp (vs++dvs) H Q E):wpAny (model X.prog X.w) X.A (call (.ref f) us) (EP X pins σ Q) X.xe s:=by
 have r2:aP (vs++dvs) (us++ds):=r.append hd
 have hl:(us++ds).length=ps.length:=by rw[<-r2.length];exact F.len _ _ _ _ h
 refine qkE (qer (F.run X.A X.stack s H ⟨us,[]⟩ (us++ds) (vs++dvs) Q E hr I.env0 (hb s us I.kIn hl) r2 h) λr s' hq=>?_)
 cases r with
 |error e=>exact hx pins σ H s e s' I hq
 |ok fl=>
  cases fl with
  |ret u=>exact I.after hq
  |next=>exact qdL hq
  |brk=>exact qdL hq
  |cont=>exact qdL hq
theorem DS (F:bV X.prog X.w X.K X.mg X.base CX k f fd ps sp) (hr:cX k X.A) (hg:Gl X x) (hm:X.mg x=some (.ref f)) (hk:qaF X.K (.ref f)=true) (hb:bz X.K fd ps ds) (hd:aP dvs ds) (hx:wJ CX X E)
  (ha:PA X (e::es) t) (hdb:(x==("__debug__" : Str))=false:=by decide) (he:qbP (e::es) X.env=(false,eval e X.env)::qbP es X.env:=by rfl) (hpl:(qes pos (qbP es X.env)).any (·.1)=false:=by rfl) :
  PE X (.Call (.Name x p) (e::es) [] pos) (GL sp dvs E t):=by
 intro pins s σ H Q I h
 refine qcW (Db I hg hm ?_ hdb)
 refine PySem.W.callWith_K (h₀:=X.base) I.ok.mod.kin hk (thn (ha pos pins s σ H _ I h) λus s1 ⟨vs,H1,I1,r,q⟩=>⟨I1.kIn,?_⟩) he hpl
 exact FW F hr hb hd hx I1 r q
end
section
variable {X:Cx}{CX:CXT}{k:Nat}{f C:Addr}{fd:qbf}{ps ks:List Str}{sp:Sp}{E:XK}{x m:Str}{p pos apos kpos:Pos}{e o:Expr}{es:List Expr}{kws:List qit}{te ta:TE}{t tk:TA}{nm:Option Str}
variable {g:List Value->List Value->List Value}{gV:List V->List V->List V}
end
structure aG (N P:List Str) (sc:Scope):Prop where
 kind:sc.kind=.function
 co:sc.isCoroutine=false
 gen:sc.isGenerator=false
 nd:N.Nodup
 pre:N.take P.length=P
 par:∀ x∈P,sc.names.lookup x=some .local\/sc.names.lookup x=some .cell
 nofree:∀ y∈sc.names,y.2≠.free
theorem rh {kindOf:Str->Option qck}{x:Str}:∀ {binds:List (Str×Value)}{m:Str->Option Value},(∀ v,(x,v)∉binds)->bindL kindOf binds m x=m x
 |[],_,_=>rfl
 |(n,v)::r,m,h=>by
  unfold bindL
  rw[rh λw hw=>h w (qah _ hw)]
  split
  ·have:x≠n:=by rintro rfl;exact h v qak
   simp[this]
  ·rfl
theorem rX {kindOf:Str->Option qck}{x:Str}:∀ {binds:List (Str×Value)}{m:Str->Option Value},(∀ v,(x,v)∉binds)->bindC kindOf binds m x=m x
 |[],_,_=>rfl
 |(n,v)::r,m,h=>by
  unfold bindC
  rw[rX λw hw=>h w (qah _ hw)]
  split
  ·rfl
  ·have:x≠n:=by rintro rfl;exact h v qak
   simp[this]
theorem rE {kindOf:Str->Option qck}{x:Str}{v:Value}:∀ {P:List Str}{vs:List Value}{i:Nat}{m:Str->Option Value},P.Nodup->P[i]?=some x->vs[i]?=some v->kindOf x=some .local->
  bindL kindOf (P.zip vs) m x=some v
 |[],_,_,_,_,h,_,_=>by simp at h
 |_::_,[],_,_,_,_,h,_=>by simp at h
 |p::P,w::vs,0,m,nd,h1,h2,hk=>by
  simp at h1 h2;subst h1;subst h2
  show bindL kindOf ((p,w)::P.zip vs) m p=_
  unfold bindL
  rw[rh λv hv=>(qbR.mp nd).1 (qhm hv).1,if_pos hk]
  simp
 |p::P,w::vs,i+1,m,nd,h1,h2,hk=>by
  show bindL kindOf ((p,w)::P.zip vs) m x=_
  unfold bindL
  exact rE (i:=i) (qbR.mp nd).2 (by simpa using h1) (by simpa using h2) hk
theorem rM {kindOf:Str->Option qck}{x:Str}{v:Value}:∀ {P:List Str}{vs:List Value}{i:Nat}{m:Str->Option Value},P.Nodup->P[i]?=some x->vs[i]?=some v->kindOf x≠some .local->
  bindC kindOf (P.zip vs) m x=some v
 |[],_,_,_,_,h,_,_=>by simp at h
 |_::_,[],_,_,_,_,h,_=>by simp at h
 |p::P,w::vs,0,m,nd,h1,h2,hk=>by
  simp at h1 h2;subst h1;subst h2
  show bindC kindOf ((p,w)::P.zip vs) m p=_
  unfold bindC
  rw[rX λv hv=>(qbR.mp nd).1 (qhm hv).1,if_neg hk]
  simp
 |p::P,w::vs,i+1,m,nd,h1,h2,hk=>by
  show bindC kindOf ((p,w)::P.zip vs) m x=_
  unfold bindC
  exact rM (i:=i) (qbR.mp nd).2 (by simpa using h1) (by simpa using h2) hk
def start (N:List Str) (vs:List V):St:=vs.map some++qaV (N.length - vs.length) none
def tM (CX:CXT) (P:qaY) (w:World) (K:qai) (mg:Str->Option Value) (base:Heap) (N:List Str) (qual:Str) (scope:Scope) (f:Addr) (cd:Value) (A:qa9) (outer:List Env) (s:qaj) (H:Hp) (E:XK):Cx where
 prog:=P
 w:=w
 K:=K
 mg:=mg
 base:=base
 A:=A.deeper (qhb qual scope s.heap.objs.size f cd)
 N:=N
 s₀:=s
 H₀:=H
 env:=qhb qual scope s.heap.objs.size f cd
 outer:=outer
 stack:=qhb qual scope s.heap.objs.size f cd::outer
 ex:=[]
 calm:=true
 fn:=λ_=>true
 pn:=[]
 xe:=λe s'=>wpAny (model P w) (A.deeper (qhb qual scope s.heap.objs.size f cd)) (leaving (qhb qual scope s.heap.objs.size f cd) e) (λ_ s''=>CX outer H s E e s'') (λe' s''=>CX outer H s E e' s'') s'
theorem t6 {sc:Scope}{n:Nat}{x:Str} (h:sc.names.lookup x=some .cell):∃ c,(qcm n sc.names []).lookup x=some c:=by
 have q:=qdS sc.names n [] (.inl h)
 exact qcV.mp q
theorem zf {CX:CXT}{P:qaY}{w:World}{K:qai}{mg:Str->Option Value}{base:Heap}{N ps:List Str}{qual:Str}{scope:Scope}{f:Addr}{cd:Value}{A:qa9}{outer:List Env}{s s1:qaj}{H:Hp}{E:XK}{us:List Value}{vs:List V}
  (S:aG N ps scope) (hd:A.handled=none) (e0:Dz P w K mg base A outer s H) (hl:vs.length=ps.length) (r:aP vs us)
  (x:InCallC s s.heap.objs.size (bindL (qhb qual scope s.heap.objs.size f cd).kindOf (ps.zip us) λ_=>none) (qcm (s.heap.objs.size+1) scope.names []) (bindC (qhb qual scope s.heap.objs.size f cd).kindOf (ps.zip us) λ_=>none) s1) :
  Inv (tM CX P w K mg base N qual scope f cd A outer s H E) [] (start N vs) H s1:=by
 have hpl:ps.length<=N.length:=by have:=congrArg qi6 S.pre;rw[qcr]at this;lia
 obtain⟨h1,tk,rfl,hk⟩:=x.done
 have noA:∀ b:Addr,b∉(tM CX P w K mg base N qual scope f cd A outer s H E).ex:=λb z=>absurd (show b∈([]:List Addr) from z) (by simp)
 refine⟨⟨e0.mod,S.kind,rfl,rfl,qap _,λy z c h1 h2=>?_,λy hy=>?_,λy c _ h=>?_,λ_=>hd,Around.frames_deeper e0.frames,.inr ⟨rfl,rfl⟩,λb z=>absurd z (noA b),e0.bs,e0.bsz,λb _ _=>noA b,λb z=>absurd z (noA b),e0.funs,e0.frf⟩,
  rfl,e0.bare,Un.kept hk,⟨_,x.toInCall.ns,λi y v h1 h2 h3=>?_⟩,λy c h=>⟨_,x.cell y c h⟩,e0.hok.fresh (qap _),λy c h=>?_,λp hp=>absurd (show p∈([]:List (Addr×Obj)) from hp) (by simp),e0.hok.kept hk,?_⟩
 ·exact name_of_addr x.apart (qbO h1) (qbO h2)
 ·have hy:scope.names.lookup y=some .cell\/scope.names.lookup y=some .free:=hy
  rcases hy with hy|hy
  ·exact t6 hy
  ·exact absurd rfl (S.nofree _ (qbO hy))
 ·exact qdt (x.above y c (qbO h))
 ·have hi:i<vs.length:=by
   unfold start at h2
   by_cases hi:i<vs.length
   ·exact hi
   ·rw[qbi (by simpa using hi)]at h2
    rw[qdV]at h2
    split at h2<;>cases h2
  have ha:vs[i]?=some v:=by
   unfold start at h2
   rw[qa2 (by simpa using hi),qaZ]at h2
   cases e:vs[i]? with
   |none=>rw[e]at h2;cases h2
   |some a=>rw[e]at h2;cases h2;rfl
  obtain⟨u,hu,rv⟩:=r.get ha
  have hp:ps[i]?=some y:=by
   rw[<-S.pre,qh2 (by lia)];exact h1
  have ndP:ps.Nodup:=by rw[<-S.pre];exact S.nd.sublist (List.take_sublist _ _)
  refine⟨u,rv,?_⟩
  rcases S.par y (qbl hp) with k|k
  ·exact .inl ⟨k,rE ndP hp hu k⟩
  ·obtain⟨c,e⟩:=t6 (n:=s.heap.objs.size+1) k
   refine .inr ⟨.inl k,c,e,?_⟩
   have q:=x.cell y c e
   rw[rM ndP hp hu (by show scope.names.lookup y≠_;rw[k];decide)]at q
   exact q
 ·exact e0.hok.fresh (qdt (x.above y c (qbO h)))
 ·unfold start
  show _=N.length
  rw[qa4,qag,qdo]
  lia
theorem G0 {CX:CXT}{P:qaY}{w:World}{K:qai}{mg:Str->Option Value}{base:Heap}{k:Nat}{f:Addr}{name qual:Str}{params:Arguments}{body:List Stmt}{scope:Scope}{dV kV doc pm cdv ct oc:Value}{an od:Option Addr}
  {osl:Array (Option Value)}{N ps:List Str}{sp:Sp} (lk:K.lookup f=some ⟨oc,od,.func (qaU name qual params body scope dV kV doc pm an cdv ct),osl⟩) (hcd:qaM K cdv qual=true) (S:aG N ps scope)
  (len:∀ vs H Q E,sp vs H Q E->vs.length=ps.length)
  (hbody:∀ (A:qa9) (outer:List Env) (s:qaj) (H:Hp) (vs:List V) (Q:VK) (E:XK),cX k (A.deeper (qhb qual scope s.heap.objs.size f cdv))->sp vs H Q E->
    ∃ t,PSs (tM CX P w K mg base N qual scope f cdv A outer s H E) body t/\t { nx:=λ_ H'=>Q .non H',rt:=Q } (start N vs) H) :
  bV P w K mg base CX (k+1) f (qaU name qual params body scope dV kV doc pm an cdv ct) ps sp:=by
 refine⟨len,λA outer s H args us vs Q E hr e0 hb r hsp=>?_⟩
 have hl:=len _ _ _ _ hsp
 have KX:K.In s.heap:=e0.mod.kin.keeps λb o e=>(e0.bs b o e).1
 have lim:s.heap.NoLimit:=e0.mod.nolimit.keeps λb o e=>(e0.bs b o e).1
 have hkind:∀ y∈ps.zip us,scope.names.lookup y.1=some .local\/(scope.names.lookup y.1=some .cell/\((qcm (s.heap.objs.size+1) scope.names []).lookup y.1).isSome=true):=λ⟨n,v⟩ hy=>by
  rcases S.par n (qhm hy).1 with q|q
  ·exact .inl q
  ·exact .inr ⟨q,qdS _ _ _ (.inl q)⟩
 refine codeAny_call_function hr.depth (KX _ _ lk) rfl S.co S.gen rfl (PySem.W.codeRec_of KX hcd) (hb _ _ _ _ ?_)
 refine wpAny_newFunctionEnv_cells S.kind hkind λenv he s1 x=>?_
 subst he
 refine⟨lim.keeps x.toInCall.keep,codeAny_func ?_⟩
 obtain⟨t,ht,hq⟩:=hbody A outer s H vs Q E (hr.deeper _) hsp
 have I:Inv (tM CX P w K mg base N qual scope f cdv A outer s H E) [] (start N vs) H s1:=zf S hr.hd e0 hl r x
 refine qcG (ht [] s1 (start N vs) H _ I hq) (λfl s' hs=>?_) λe s' hs=>hs
 have fin:∀ {σ':St}{H':Hp}{v:V}{u:Value},Inv (tM CX P w K mg base N qual scope f cdv A outer s H E) [] σ' H' s'->aW v u->Q v H'->CE outer P w H s Q u s':=
  λ{σ' H' v u} J rv q=>⟨v,H',J.os,J.bare,J.base,J.hok,rv,q⟩
 cases fl with
 |ret u=>
  obtain⟨v,σ',H',J,rv,q⟩:=hs
  exact fin J rv q
 |next=>
  obtain⟨σ',H',J,q⟩:=hs
  exact fin (v:=V.non) (u:=Value.none) J rfl q
 |brk=>
  obtain⟨_,_,_,q⟩:=hs
  exact qdL q
 |cont=>
  obtain⟨_,_,_,q⟩:=hs
  exact qdL q
section
variable {X:Cx}{x:Str}{p pos:Pos}{e:Expr}{es:List Expr}{t:TA}{id T:String}{r:List V->Hp->VK->Prop}
def tCB (r:List V->Hp->VK->Prop) (t:TA):TE:=λσ H Q=>t σ H λvs H1=>r vs H1 Q
theorem pZ (hc:eV X (.builtin id) r) (hg:Gl X x) (hm:X.mg x=none) (hv:qdc x=some (.builtin id)) (ha:PA X (e::es) t) (hn:x≠"__name__":=by decide) (hdb:(x==("__debug__" : Str))=false:=by decide)
  (he:qbP (e::es) X.env=(false,eval e X.env)::qbP es X.env:=by rfl) (hpl:(qes pos (qbP es X.env)).any (·.1)=false:=by rfl):PE X (.Call (.Name x p) (e::es) [] pos) (tCB r t):=by
 intro pins s σ H Q I h
 refine qcW (il I hg hm hv ?_ hn hdb)
 exact qdN (thn (ha pos pins s σ H _ I h) λus s1 ⟨vs,H1,I1,r1,q1⟩=>hc pins s1 σ H1 vs us Q I1 r1 q1) he hpl
theorem zv (hc:eV X (.type T) r) (hg:Gl X x) (hm:X.mg x=none) (hv:qdc x=some (.type T)) (ha:PA X (e::es) t) (hn:x≠"__name__":=by decide) (hdb:(x==("__debug__" : Str))=false:=by decide)
  (he:qbP (e::es) X.env=(false,eval e X.env)::qbP es X.env:=by rfl) (hpl:(qes pos (qbP es X.env)).any (·.1)=false:=by rfl):PE X (.Call (.Name x p) (e::es) [] pos) (tCB r t):=by
 intro pins s σ H Q I h
 refine qcW (il I hg hm hv ?_ hn hdb)
 exact qb8 (thn (ha pos pins s σ H _ I h) λus s1 ⟨vs,H1,I1,r1,q1⟩=>hc pins s1 σ H1 vs us Q I1 r1 q1) he hpl
end
end L2
namespace HT
open PySem PyProof.Rows
section
open PySem.SeqAt
open PySem.AutoSeq1 (wpAny_loadPart')
open PySem.MeetsSeq PySem.MeetsSeq2 PySem.MeetsSeq3
end
section
variable {prog:qaY}{w:World}{A:qa9}{E:Value->qaj->Prop}{s:qaj}
theorem cat_tup {t b:Addr}{vs ws:List Value}{Q:Value->qaj->Prop} (ht:IsTup s.heap t vs.toArray) (hb:IsTup s.heap b ws.toArray) (hv:vs≠[])
  (h1:ws=[]->Q (.ref t) s) (h2:ws≠[]->Q (.ref s.heap.objs.size) { s with heap:=s.heap.push { cls:=.type "tuple",data:=.seq (vs++ws).toArray } })
  (hsz:vs.length+ws.length<=qaO):wpAny (model prog w) A (qbT .Add (.ref t) (.ref b)) Q E s:=by
 obtain⟨⟨cls,dd,data,sl⟩,ho,hc,n,hd⟩:=id ht
 obtain⟨⟨cls2,dd2,data2,sl2⟩,ho2,hc2,n2,hd2⟩:=id hb
 simp only at hc hd hc2 hd2
 subst hc hd hc2 hd2
 have e:vs.toArray++ws.toArray=(vs++ws).toArray:=by simp
 by_cases hw:ws=[]
 ·exact qjP ⟨_,ho,rfl⟩ ⟨_,ho2,rfl⟩ qhV qjd qeU qeR (qeF _ _)
   (tuple_addW1 t b vs.toArray ws.toArray n n2 dd dd2 sl sl2 (by simpa using hv) (by simp[hw])) ⟨ho,ho2,h1 hw⟩
 ·refine qjP ⟨_,ho,rfl⟩ ⟨_,ho2,rfl⟩ qhV qjd qeU qeR (qeF _ _)
   (tuple_addW2 t b vs.toArray ws.toArray n n2 dd dd2 sl sl2 (by simpa using hv) (by simpa using hw) (by rw[qat,qat];exact hsz)) ⟨ho,ho2,?_⟩
  rw[e]
  exact h2 hw
def sIx (n d:Nat):Option Int->Nat
 |none=>d
 |some v=>if v<0 then (v+(n:Int)).toNat else min v.toNat n
theorem Gh (n d:Nat) (hd:d<=n) (o:Option Int):sIx n d o<=n:=by
 cases o with
 |none=>exact hd
 |some v=>
  show (if v<0 then (v+(n:Int)).toNat else min v.toNat n)<=n
  by_cases hv:v<0
  ·rw[if_pos hv];lia
  ·rw[if_neg hv];exact Nat.min_le_right _ _
theorem xZ (v:Int) (n d:Nat):(if v<0 then max (v+(n:Int)) 0 else min v (n:Int))=((sIx n d (some v):Nat):Int):=by
 show (if v<0 then max (v+(n:Int)) 0 else min v (n:Int))=(((if v<0 then (v+(n:Int)).toNat else min v.toNat n):Nat):Int)
 by_cases hv:v<0
 ·simp only[if_pos hv];lia
 ·simp only[if_neg hv];lia
theorem v8 (lo hi:Option Int) (n:Nat):qek lo hi 1 (n:Int)=(((sIx n 0 lo:Nat):Int),((sIx n n hi:Nat):Int)):=by
 have h1:¬ ((1:Int)<0):=by lia
 unfold qek
 simp only[h1,if_false]
 refine Prod.ext ?_ ?_
 ·cases lo with
  |none=>rfl
  |some v=>exact xZ v n 0
 ·cases hi with
  |none=>rfl
  |some v=>exact xZ v n n
theorem xa (i j:Nat):qdf (i:Int) (j:Int) 1=j - i:=by
 unfold qdf
 have h1:(1:Int) > 0:=by lia
 simp only[h1,if_true,qlS]
 split<;>lia
theorem oI {v:Value}{o:Option Int}{Q:Option Int->qaj->Prop} (p:qhP v o) (h:Q o s):wpAny (model prog w) A (qkX v) Q E s:=by
 cases p with
 |none=>exact qme h
 |int i t=>exact slicePart_int h
theorem iq {sl:Addr}{vl vu:Value}{lo hi:Option Int}{n:Nat}{Q:Int×Int×Nat->qaj->Prop} (hs:s.heap.IsSliceOf sl vl vu .none) (pl:qhP vl lo) (pu:qhP vu hi)
  (h:Q (((sIx n 0 lo:Nat):Int),1,sIx n n hi - sIx n 0 lo) s):wpAny (model prog w) A (qf0 (.ref sl) (pure (n:Int))) Q E s:=by
 obtain⟨os,hos,hcs,hds⟩:=id hs
 unfold qf0 qkY
 refine qaa (qaa (qeN hos hds (x:=vl) rfl (qaa (qeN hos hds (x:=vu) rfl (qaa (qeN hos hds (x:=.none) rfl (qab ?_)))))))
 refine qaa (qme ?_)
 show wpAny _ _ (if ((1:Int)==0)=true then _ else _) _ _ s
 rw[if_neg (by decide)]
 refine qaa (oI pl (qaa (oI pu (qaa (qab ?_)))))
 show wpAny _ _ (match qek lo hi 1 (n:Int) with|(lo,hi)=>pure (lo,(1:Int),qdf lo hi 1)) _ _ s
 rw[v8 lo hi n]
 show wpAny _ _ (pure (((sIx n 0 lo:Nat):Int),(1:Int),qdf ((sIx n 0 lo:Nat):Int) ((sIx n n hi:Nat):Int) 1)) _ _ s
 rw[xa]
 exact qab h
theorem A1 (xs:Array Value) (i k:Nat):((qaN k).filterMap λ(m:Nat)=>xs[((i:Int)+(m:Int)*1).toNat]?).toArray=((xs.toList.drop i).take k).toArray:=by
 have e:(λ(m:Nat)=>xs[((i:Int)+(m:Int)*1).toNat]?)=λm=>xs[i+m]?:=by
  funext m
  have:((i:Int)+(m:Int)*1).toNat=i+m:=by lia
  rw[this]
 rw[e]
 have:=pick_run xs i k
 rw[List.filterMap_map]at this
 have e2:((λx=>xs[x]?) ∘ λx=>i+x)=λm=>xs[i+m]?:=rfl
 rw[e2]at this
 rw[this]
theorem getItem_tuple_cut {t sl:Addr}{items:Array Value}{vl vu:Value}{lo hi:Option Int}{Q:Value->qaj->Prop} (ht:IsTup s.heap t items) (hs:s.heap.IsSliceOf sl vl vu .none) (pl:qhP vl lo) (pu:qhP vu hi)
  (hw:¬ (sIx items.size 0 lo=0/\sIx items.size items.size hi=items.size))
  (h:Q (.ref s.heap.objs.size) { s with heap:=s.heap.push { cls:=.type "tuple",data:=.seq ((items.toList.drop (sIx items.size 0 lo)).take (sIx items.size items.size hi - sIx items.size 0 lo)).toArray } })
  (hsz:items.size<=qaO):wpAny (model prog w) A (qf9 (.ref t) (.ref sl)) Q E s:=by
 have htake:sizeOk (.seq ((items.toList.drop (sIx items.size 0 lo)).take (sIx items.size items.size hi - sIx items.size 0 lo)).toArray):=by
  show ((items.toList.drop (sIx items.size 0 lo)).take (sIx items.size items.size hi - sIx items.size 0 lo)).toArray.size<=qaO
  rw[qat,qcr,qgZ,qaA]
  lia
 have hj:sIx items.size items.size hi<=items.size:=Gh _ _ (qap _) hi
 obtain⟨os,hos,hcs,hds⟩:=id hs
 have hTs:s.TypeIs (.ref sl) "slice":=⟨os,hos,hcs⟩
 unfold qf9
 try with_reducible refine qbk ?_
 first|refine qaa (qab ?_)|skip
 refine qaa (qkC ht.typeIs (by decide) ?_)
 refine qaa (qbC (name:=qc3 "__getitem__") ht.typeIs qbW
  (qbd qbW ht.typeIs qke ?_ (qks _ _)))
 show wpAny _ _ (qfZ (.ref t) >>= _) _ _ s
 refine qaa (tupleItemsOf_ ht ?_)
 refine qaa (qf2 hTs ?_)
 rw[if_pos (by decide)]
 refine qaa (iq hs pl pu ?_)
 have hno:¬ ((((sIx items.size 0 lo:Nat):Int)==0&&(1:Int)==1&&(sIx items.size items.size hi - sIx items.size 0 lo)==items.size)=true):=by
  intro q
  rw[qbb,qbb]at q
  have q1:((sIx items.size 0 lo:Nat):Int)=0:=eq_of_beq q.1.1
  have q2:sIx items.size items.size hi - sIx items.size 0 lo=items.size:=eq_of_beq q.2
  exact hw ⟨by lia,by lia⟩
 show wpAny _ _ (if (((sIx items.size 0 lo:Nat):Int)==0&&(1:Int)==1&&(sIx items.size items.size hi - sIx items.size 0 lo)==items.size)=true then _ else _) _ _ s
 rw[if_neg hno,A1]
 first
  |exact qaa (m:=qdr _) (qbh (qab ⟨_,rfl,qab h⟩) htake)
  |exact qaa (m:=qdr _) (qbh (qaa (qab (qab ⟨_,rfl,qab h⟩))) htake)
  |exact qaa (qaa (m:=qdr _) (qbh (qab (qab ⟨_,rfl,qab h⟩)) htake))
  |exact qaa (qaa (m:=qdr _) (qbh (qab ⟨_,rfl,qab h⟩) htake))
end
end HT
namespace L2
open PySem PySem.Spec PyProof.Rows
abbrev TO:=St->Hp->(Option Int->Hp->Prop)->Prop
def PO (X:Cx) (e:Option Expr) (t:TO):Prop:=
 ∀ (pins:List (Addr×Obj)) (s:qaj) (σ:St) (H:Hp) (Q:Option Int->Hp->Prop),Inv X pins σ H s->t σ H Q->
  wpAny (model X.prog X.w) X.A (evalPart e X.env) (λu s'=>∃ o H',Inv X pins σ H' s'/\qhP u o/\Q o H') X.xe s
def Ds:TO:=λ_ H Q=>Q none H
def GV (t:TE):TO:=λσ H Q=>t σ H λx H1=>∃ i,x=.int i/\Q (some i) H1
theorem kQ {ns:List Int}:∀ {us:List Value},aP (ns.map V.int) us->qdC us ns:=by
 induction ns with
 |nil=>intro us r;rw[qc2]at r;cases r;exact .nil
 |cons n ns ih=>
  intro us r
  rw[qal]at r
  cases r with
  |cons r1 r2=>
   obtain⟨t,e⟩:=r1
   subst e
   exact .cons n t (ih r2)
section
variable {X:Cx}{e:Expr}{te:TE}{lo hi:Option Expr}{tl th:TO}{pos p2:Pos}
theorem Dm:PO X none Ds:=by
 intro pins s σ H Q I h
 rw[evalPart_none]
 exact qab ⟨none,H,I,.none,h⟩
theorem CS (h:PE X e te):PO X (some e) (GV te):=by
 intro pins s σ H Q I hw
 rw[evalPart_some]
 refine thn (h pins s σ H _ I hw) λu s1 ⟨x,H1,I1,r1,q1⟩=>?_
 obtain⟨i,rfl,q⟩:=q1
 obtain⟨t,rfl⟩:=r1
 exact⟨some i,H1,I1,.int i t,q⟩
def SlR (X:Cx) (r:V->Option Int->Option Int->Hp->VK->Prop):Prop:=
 ∀ (pins:List (Addr×Obj)) (s:qaj) (σ:St) (H:Hp) (x:V) (v vl vu:Value) (lo hi:Option Int) (sl:Addr) (Q:VK),Inv X pins σ H s->aW x v->s.heap.IsSliceOf sl vl vu .none->qhP vl lo->qhP vu hi->r x lo hi H Q->
  ∃ T id,typeLookup (.type T) "__getitem__" = pure (some (.builtin id))/\s.TypeIs v T/\wpAny (model X.prog X.w) X.A (qf9 v (.ref sl)) (EP X pins σ Q) X.xe s
def tSl (r:V->Option Int->Option Int->Hp->VK->Prop) (te:TE) (tl th:TO):TE:=λσ H Q=>te σ H λx H1=>tl σ H1 λl H2=>th σ H2 λu H3=>r x l u H3 Q
theorem uO {r:V->Option Int->Option Int->Hp->VK->Prop} (hr:SlR X r) (he:PE X e te) (hl:PO X lo tl) (hu:PO X hi th):PE X (.Subscript e (.Slice lo hi none p2) pos) (tSl r te tl th):=by
 intro pins s σ H Q I h
 refine qkL (thn (he pins s σ H _ I h) λv s1 ⟨x,H1,I1,r1,q1⟩=>?_)
 refine wpAny_Slice (thn (hl pins s1 σ H1 _ I1 q1) λvl s2 ⟨l,H2,I2,pl,q2⟩=>thn (hu pins s2 σ H2 _ I2 q2) λvu s3 ⟨u,H3,I3,pu,q3⟩=>?_)
 rw[evalPart_none]
 refine qab ?_
 have I4:Inv X pins σ H3 { s3 with heap:=s3.heap.push { cls:=.type "slice",data:=.fields #[vl,vu,.none] } }:=I3.kept (t':=s3.toks) λb ob q=>qae _ q
 obtain⟨T,id,hT,ht,hg⟩:=hr pins { s3 with heap:=s3.heap.push { cls:=.type "slice",data:=.fields #[vl,vu,.none] } } σ H3 x v vl vu l u s3.heap.objs.size Q I4 r1 (qky ..) pl pu q3
 show wpAny (model X.prog X.w) X.A (qja e (.Slice lo hi none p2) v (.ref s3.heap.objs.size)) (EP X pins σ Q) X.xe { s3 with heap:=s3.heap.push { cls:=.type "slice",data:=.fields #[vl,vu,.none] } }
 exact tail_any (ops:=[.ref s3.heap.objs.size,v]) ht hT hg (by with_unfolding_all rfl)
def su (xs:List V) (lo hi:Option Int):List V:=(xs.drop (HT.sIx xs.length 0 lo)).take (HT.sIx xs.length xs.length hi - HT.sIx xs.length 0 lo)
theorem nn (xs:List V) (lo hi:Option Int):(su xs lo hi).length<=xs.length:=by
 unfold su
 rw[qcr,qgZ]
 lia
def HI (K:qai):V->Option Int->Option Int->Hp->VK->Prop:=λx lo hi H Q=>∃ a xs,x=.ref a/\SqT K H a xs/\
 ¬ (HT.sIx xs.length 0 lo=0/\HT.sIx xs.length xs.length hi=xs.length)/\∀ p,H p=none->Q (.ref p) (upd H p (.tup (su xs lo hi)))
theorem FP:SlR X (HI X.K):=by
 intro pins s σ H x v vl vu lo hi sl Q I rx hs pl pu h
 obtain⟨a,xs,rfl,hx,hw,q⟩:=h
 cases rx
 obtain⟨its,r,ht,hz⟩:=I.tuple hx
 have hlen:its.toArray.size=xs.length:=by rw[qat];exact r.length.symm
 refine⟨"tuple",_,qbW.lookup,ht.typeIs,?_⟩
 refine HT.getItem_tuple_cut ht hs pl pu (by rw[hlen];exact hw) ?_ (by rw[hlen];exact hz)
 rw[hlen]
 refine⟨.ref s.heap.objs.size,_,I.laid (t':=s.toks) (o:=.tup (su xs lo hi)) (λb ob q=>qae _ q) (qap _) ?_,rfl,q _ (I.hok.fresh (qap _))⟩
 exact⟨qaL (nn xs lo hi) hz,_,(r.drop (HT.sIx xs.length 0 lo)).take (HT.sIx xs.length xs.length hi - HT.sIx xs.length 0 lo),eF.new _ _⟩
def GE (K:qai):R2:=λx y H Q=>∃ a b xs ys,x=.ref a/\y=.ref b/\SqT K H a xs/\SqT K H b ys/\xs≠[]/\xs.length+ys.length<=qaO/\
 (ys=[]->Q (.ref a) H)/\(ys≠[]->∀ p,H p=none->Q (.ref p) (upd H p (.tup (xs++ys))))
theorem aP.nil_iff {xs:List V}{us:List Value} (r:aP xs us):us=[]↔xs=[]:=by
 cases r with
 |nil=>simp
 |cons _ _=>simp
theorem Dc:OpR X (qbT .Add) (GE X.K):=by
 intro pins s σ H x y v u Q I rx ry h
 obtain⟨a,b,xs,ys,rfl,rfl,ha,hb,hx,hz,q1,q2⟩:=h
 cases rx
 cases ry
 obtain⟨its,r1,p1,_⟩:=I.tuple ha
 obtain⟨its2,r2,p2,_⟩:=I.tuple hb
 refine HT.cat_tup p1 p2 (λz=>hx (r1.nil_iff.mp z)) (λz=>⟨.ref a,H,I,rfl,q1 (r2.nil_iff.mp z)⟩) (λz=>?_) (by rw[<-r1.length,<-r2.length];exact hz)
 refine⟨.ref s.heap.objs.size,_,I.laid (t':=s.toks) (o:=.tup (xs++ys)) (λb ob q=>qae _ q) (qap _) ?_,rfl,q2 (λw=>z (r2.nil_iff.mpr w)) _ (I.hok.fresh (qap _))⟩
 exact⟨by rw[qa4];exact hz,_,r1.append r2,eF.new _ _⟩
end
def ixN (n:Nat) (i:Int):Option Nat:=if 0<=i then (if i<n then some i.toNat else none) else if -(n:Int)<=i then some (i+n).toNat else none
def atI {α:Type} (xs:List α) (i:Int):Option α:=(ixN xs.length i).bind λj=>xs[j]?
theorem se {n:Nat}{i:Int}{j:Nat} (h:ixN n i=some j):ql2 i n=some j/\j<n/\-(n:Int)<=i/\i<n:=by
 unfold ixN at h
 by_cases h0:0<=i
 ·rw[if_pos h0]at h
  by_cases h1:i<n
  ·rw[if_pos h1]at h
   have e:i.toNat=j:=qaS h
   exact⟨by rw[qka h0 h1,e],by lia,by lia,h1⟩
  ·rw[if_neg h1]at h;cases h
 ·rw[if_neg h0]at h
  by_cases h1:-(n:Int)<=i
  ·rw[if_pos h1]at h
   have e:(i+n).toNat=j:=qaS h
   exact⟨by rw[qjM (by lia) h1,e],by lia,h1,by lia⟩
  ·rw[if_neg h1]at h;cases h
theorem tB {α:Type}{xs:List α}{i:Int}{v:α} (h:atI xs i=some v):∃ j,ql2 i xs.length=some j/\xs[j]?=some v/\j<xs.length/\-(xs.length:Int)<=i/\i<xs.length:=by
 unfold atI at h
 cases e:ixN xs.length i with
 |none=>rw[e]at h;cases h
 |some j=>
  rw[e]at h
  obtain⟨h1,h2,h3,h4⟩:=se e
  exact⟨j,h1,h,h2,h3,h4⟩
theorem jS {α:Type}{xs:List α}{j:Nat}{v:α} (h:xs[j]?=some v):atI xs (j:Int)=some v:=by
 have hj:j<xs.length:=(qax.mp h).1
 have e:ixN xs.length (j:Int)=some j:=by
  unfold ixN
  rw[if_pos (by lia),if_pos (by lia)];simp
 unfold atI;rw[e];exact h
def yg (b:Expr):Prop:=∀ o i,qig b false o i=operate [o,i] (qf9 o i)
def IxR (X:Cx) (r:R2):Prop:=
 ∀ (value slice:Expr) (pins:List (Addr×Obj)) (s:qaj) (σ:St) (H:Hp) (x y:V) (v u:Value) (Q:VK),Inv X pins σ H s->aW x v->aW y u->r x y H Q->
  qig slice false v u=operate [v,u] (qf9 v u)->wpAny (model X.prog X.w) X.A (qja value slice v u) (EP X pins σ Q) X.xe s
def MtR (X:Cx) (id:String) (r:V->List V->Hp->VK->Prop):Prop:=
 ∀ (pins:List (Addr×Obj)) (s:qaj) (σ:St) (H:Hp) (x:V) (xs:List V) (v:Value) (us:List Value) (Q:VK),Inv X pins σ H s->aW x v->aP xs us->r x xs H Q->
  wpAny (model X.prog X.w) X.A (call (.builtin id) (v::us)) (EP X pins σ Q) X.xe s
section
variable {X:Cx}{a b:Expr}{ta tb:TE}{pos:Pos}
theorem IxR.or {r r':R2} (h:IxR X r) (h':IxR X r'):IxR X (λx y H Q=>r x y H Q\/r' x y H Q):=by
 intro value slice pins s σ H x y v u Q I rx ry q hs
 rcases q with q|q
 ·exact h value slice pins s σ H x y v u Q I rx ry q hs
 ·exact h' value slice pins s σ H x y v u Q I rx ry q hs
theorem D4 {r:R2} (hr:IxR X r) (ha:PE X a ta) (hb:PE X b tb) (hs:yg b):PE X (.Subscript a b pos) (tOp r ta tb):=by
 intro pins s σ H Q I h
 exact qkL (FJ ha hb I h λv u s2 x y H2 I2 rx ry q=>hr a b pins s2 σ H2 x y v u Q I2 rx ry q (hs _ _))
def Hk (K:qai):R2:=λx y H Q=>∃ p xs i v,x=.ref p/\y=.int i/\SqL K H p xs/\atI xs i=some v/\Q v H
def Hg (K:qai):R2:=λx y H Q=>∃ p xs i v,x=.ref p/\y=.int i/\SqT K H p xs/\atI xs i=some v/\Q v H
def GM:R2:=λx y H Q=>∃ z i c,x=.str z/\y=.int i/\z.length<=qaO/\atI z.cps.toList i=some c/\Q (.str ⟨#[c]⟩) H
theorem DC:IxR X (Hk X.K):=by
 intro value slice pins s σ H x y v u Q I rx ry h hs
 obtain⟨p,xs,i,z,rfl,rfl,hq,he,q⟩:=h
 cases rx
 obtain⟨t,rfl⟩:=ry
 obtain⟨its,r,pl,hz⟩:=I.list hq
 obtain⟨j,h1,h2,h3,h4,h5⟩:=tB he
 obtain⟨w,ew,rw'⟩:=r.get h2
 have hl:=r.length
 have hn:=kP
 have fin:EP X pins σ Q w s:=⟨z,H,I,rw',q⟩
 by_cases h0:0<=i
 ·have hj:i.toNat=j:=by
   rw[qka h0 h5]at h1
   exact qaS h1
  exact item_listR pl.isList h0 (by lia) (by rw[hj];simpa using ew) fin hs
 ·have hj:(i+(its.toArray.size:Int)).toNat=j:=by
   rw[qjM (by lia) h4]at h1
   rw[qat,<-hl]
   exact qaS h1
  exact qjz (x:=w) pl.isList.typeIs qkH.lookup
   (wpAny_getItem_list_neg (Q:=λr s'=>r=w/\EP X pins σ Q r s') pl.isList (by lia) (by rw[qat]<;>lia) (by lia) (by rw[hj];simpa using ew) ⟨rfl,fin⟩) hs
theorem FZ:IxR X (Hg X.K):=by
 intro value slice pins s σ H x y v u Q I rx ry h hs
 obtain⟨p,xs,i,z,rfl,rfl,hq,he,q⟩:=h
 cases rx
 obtain⟨t,rfl⟩:=ry
 obtain⟨its,r,pl,hz⟩:=I.tuple hq
 obtain⟨j,h1,h2,h3,h4,h5⟩:=tB he
 obtain⟨w,ew,rw'⟩:=r.get h2
 have hl:=r.length
 have hn:=kP
 have fin:EP X pins σ Q w s:=⟨z,H,I,rw',q⟩
 exact qjz (x:=w) pl.typeIs slot_tuple_getitem.lookup
  (getItem_tuple (j:=j) (Q:=λr s'=>r=w/\EP X pins σ Q r s') pl (by lia) (by lia) (by rw[qat,<-hl];exact h1) (by simpa using ew) ⟨rfl,fin⟩) hs
theorem Ey:IxR X GM:=by
 intro value slice pins s σ H x y v u Q I rx ry h hs
 obtain⟨z,i,c,rfl,rfl,hz,he,q⟩:=h
 obtain⟨t,rfl⟩:=rx
 obtain⟨t',rfl⟩:=ry
 obtain⟨j,h1,h2,h3,h4,h5⟩:=tB he
 have hl:z.cps.toList.length=z.length:=by simp[Str.length]
 rw[hl]at h1 h4 h5
 have hn:=kP
 exact tail_any (typeIs_str s z t) slot_str_getitem.lookup (getItem_str (c:=c) (by
  have e1:decide (i < -(2^63:Int))=false:=decide_eq_false (by lia)
  have e2:decide (i>=2^63)=false:=decide_eq_false (by lia)
  rw[e1,e2,qeZ]) (by rw[h1];simpa using h2) ⟨.str ⟨#[c]⟩,H,I.tok _,⟨_,rfl⟩,q⟩) hs
def rIx (K:qai):R2:=λx y H Q=>Hk K x y H Q\/Hg K x y H Q\/GM x y H Q
theorem wM:IxR X (rIx X.K):=DC.or (FZ.or Ey)
theorem wZ (its:List Value) (n j:Nat) (u:Value):qce (·.setIfInBounds j u) { cls:=.type "list",data:=.seq its.toArray n }={ cls:=.type "list",data:=.seq (its.set j u).toArray n }:=by
 simp[qce]
theorem Inv.lst {pins:List (Addr×Obj)}{σ:St}{H:Hp}{s:qaj}{p:Addr}{xs:List V} (I:Inv X pins σ H s) (h:H p=some (.lst xs)) :
  ∃ (its:List Value) (n:Nat),aP xs its/\s.heap.get? p=some { cls:=.type "list",data:=.seq its.toArray n }/\xs.length<=qaO:=by
 obtain⟨z,its,n,r,e⟩:=I.hok p _ h
 exact⟨its,n,r,e,z⟩
theorem Inv.lstUpd {pins:List (Addr×Obj)}{σ:St}{H:Hp}{s:qaj}{p:Addr}{xs ys:List V}{its its':List Value}{n n':Nat}{f:Obj->Obj} (I:Inv X pins σ H s) (h:H p=some (.lst xs))
  (ho:s.heap.get? p=some { cls:=.type "list",data:=.seq its.toArray n }) (hf:f { cls:=.type "list",data:=.seq its.toArray n }={ cls:=.type "list",data:=.seq its'.toArray n' }) (r:aP ys its') (hz:ys.length<=qaO) (t:Nat) :
  Inv X pins σ (upd H p (.lst ys)) { s with heap:=s.heap.update p f,toks:=t }:=by
 have e:(s.heap.update p f).get? p=some { cls:=.type "list",data:=.seq its'.toArray n' }:=by
  rw[qbZ f ho (by rw[hf]<;>rfl),hf]
 refine I.write (x:=p) (e:=p) (by rw[h];trivial) (.inl rfl) (λb u hb q=>(qd7 _ _ (qdi hb)).trans q) ⟨_,e⟩ ?_
 exact⟨hz,its',n',r,e⟩
def Hv:V->V->V->Hp->(Hp->Prop)->Prop:=λo i v H Q=>∃ p xs k j,o=.ref p/\i=.int k/\H p=some (.lst xs)/\ixN xs.length k=some j/\Q (upd H p (.lst (xs.set j v)))
theorem uc:Gy X Hv:=by
 intro pins s σ H o i v ov iv u Q I ro ri rv h
 obtain⟨p,xs,k,j,rfl,rfl,hp,hj,q⟩:=h
 cases ro
 obtain⟨t,rfl⟩:=ri
 obtain⟨its,n,r,ho,hz⟩:=I.lst hp
 obtain⟨h1,h2,h3,h4⟩:=se hj
 have hl:=r.length
 have hn:=kP
 have I':Inv X pins σ (upd H p (.lst (xs.set j v))) { s with heap:=s.heap.update p (qce (·.setIfInBounds j u)) }:=
  I.lstUpd hp ho (wZ its n j u) (r.set rv j) (by rw[qcY];exact hz) s.toks
 by_cases h0:0<=k
 ·have hk:k.toNat=j:=by
   rw[qka h0 h4]at h1
   exact qaS h1
  exact PySem.W.ki_setAt ho h0 (by lia) (by rw[qat,<-hl];exact h4) (by rw[hk];exact⟨_,I',q⟩)
 ·have hk:(k+(its.toArray.size:Int)).toNat=j:=by
   rw[qjM (by lia) h3]at h1
   rw[qat,<-hl]
   exact qaS h1
  exact PySem.W.ki_setBack ho (by lia) (by rw[qat,<-hl];exact h3) (by lia) (by rw[hk];exact⟨_,I',q⟩)
theorem tP (lo hi:Option Int) (n:Nat):(qeO lo hi none n).1=((HT.sIx n 0 lo:Nat):Int)/\(qeO lo hi none n).2.1=((HT.sIx n n hi:Nat):Int)/\(qeO lo hi none n).2.2=1:=by
 refine⟨?_,?_,rfl⟩
 ·cases lo with
  |none=>simp[qeO,HT.sIx]
  |some i=>
   simp only[qeO,HT.sIx,qjo,show (1:Int) > 0 by decide,if_true]
   by_cases h:i<0
   ·simp only[h,if_true]<;>lia
   ·simp only[h,if_false]<;>lia
 ·cases hi with
  |none=>simp[qeO,HT.sIx]
  |some i=>
   simp only[qeO,HT.sIx,qjo,show (1:Int) > 0 by decide,if_true]
   by_cases h:i<0
   ·simp only[h,if_true]<;>lia
   ·simp only[h,if_false]<;>lia
theorem qz (its:List Value) (lo hi:Option Int):slicePick its.toArray lo hi none=((its.drop (HT.sIx its.length 0 lo)).take (HT.sIx its.length its.length hi - HT.sIx its.length 0 lo)).toArray:=by
 obtain⟨h1,h2,h3⟩:=tP lo hi its.toArray.size
 unfold slicePick
 rw[h1,h2,h3]
 simp only[sliceRange_one,pick_run,qat]<;>rfl
def Ih (K:qai):V->Option Int->Option Int->Hp->VK->Prop:=λx lo hi H Q=>∃ a xs,x=.ref a/\SqL K H a xs/\∀ p,H p=none->Q (.ref p) (upd H p (.lst (su xs lo hi)))
theorem Cu:SlR X (Ih X.K):=by
 intro pins s σ H x v vl vu lo hi sl Q I rx hs pl pu h
 obtain⟨a,xs,rfl,hx,q⟩:=h
 cases rx
 obtain⟨its,r,ht,hz⟩:=I.list hx
 have hlen:=r.length
 refine⟨"list",_,qkH.lookup,ht.isList.typeIs,?_⟩
 refine wpAny_getItem_list_slice ht.isList hs pl pu .none (by simp) ?_ (by rw[qat]<;>lia)
 rw[qz,<-hlen]
 refine⟨.ref s.heap.objs.size,_,I.laid (t':=s.toks) (o:=.lst (su xs lo hi)) (λb ob q=>qae _ q) (qap _) ?_,rfl,q _ (I.hok.fresh (qap _))⟩
 exact⟨qaL (nn xs lo hi) hz,_,0,(r.drop (HT.sIx xs.length 0 lo)).take (HT.sIx xs.length xs.length hi - HT.sIx xs.length 0 lo),qau _ rfl⟩
def gx:V->Bool
 |.non=>true
 |.bl _=>true
 |.int _=>true
 |.str _=>true
 |_=>false
def eqV:V->V->Bool
 |.non,.non=>true
 |.bl a,.bl b=>a==b
 |.bl a,.int b=>(if a then 1 else 0)==b
 |.int a,.bl b=>a==(if b then 1 else 0)
 |.int a,.int b=>a==b
 |.str a,.str b=>a==b
 |_,_=>false
theorem wY {A:qa9}{s:qaj}{y x:V}{u v:Value} (ry:aW y u) (rx:aW x v) (fy:gx y=true) (fx:gx x=true):qeQ A s u v (eqV y x):=by
 cases y with
 |non=>
  cases ry
  cases x with
  |non=>cases rx;exact qgo _
  |bl b=>cases rx;exact qm6 b
  |int b=>obtain⟨t,rfl⟩:=rx;exact qm5 b t
  |str b=>obtain⟨t,rfl⟩:=rx;exact qm3 b t
  |_=>exact absurd (show false=true from fx) qan
 |bl a=>
  cases ry
  cases x with
  |non=>cases rx;exact qnj a
  |bl b=>cases rx;exact qnm a b
  |int b=>obtain⟨t,rfl⟩:=rx;exact qnl a b t
  |str b=>obtain⟨t,rfl⟩:=rx;exact qni a b t
  |_=>exact absurd (show false=true from fx) qan
 |int a=>
  obtain⟨t',rfl⟩:=ry
  cases x with
  |non=>cases rx;exact qnd a t'
  |bl b=>cases rx;exact qng a t' b
  |int b=>obtain⟨t,rfl⟩:=rx;exact qnf a t' b t
  |str b=>obtain⟨t,rfl⟩:=rx;exact qhY a t' b t
  |_=>exact absurd (show false=true from fx) qan
 |str a=>
  obtain⟨t',rfl⟩:=ry
  cases x with
  |non=>cases rx;exact qmZ a t'
  |bl b=>cases rx;exact qm1 a t' b
  |int b=>obtain⟨t,rfl⟩:=rx;exact qhX a t' b t
  |str b=>obtain⟨t,rfl⟩:=rx;exact qmY a t' b t
  |_=>exact absurd (show false=true from fx) qan
 |_=>exact absurd (show false=true from fy) qan
def eqU (x:V) (u:Value):Bool:=match u with
 |.none=>eqV .non x
 |.bool b=>eqV (.bl b) x
 |.int i _=>eqV (.int i) x
 |.str z _=>eqV (.str z) x
 |_=>false
theorem z8 {x y:V}{u:Value} (r:aW y u) (f:gx y=true):eqU x u=eqV y x:=by
 cases y with
 |non=>cases r;rfl
 |bl b=>cases r;rfl
 |int i=>obtain⟨t,rfl⟩:=r;rfl
 |str z=>obtain⟨t,rfl⟩:=r;rfl
 |_=>exact absurd (show false=true from f) qan
theorem sQ {x:V}:∀ {xs:List V}{us:List Value},aP xs us->xs.all gx=true->us.any (eqU x)=xs.any λy=>eqV y x
 |_,_,.nil,_=>rfl
 |y::xs,u::us,.cons r t,f=>by
  rw[qbQ,qbb]at f
  rw[qcw,qcw,z8 r f.1,sQ t f.2]
theorem oS {A:qa9}{s:qaj}{x:V}{v:Value} (rx:aW x v) (fx:gx x=true):∀ {xs:List V}{us:List Value},aP xs us->xs.all gx=true->∀ u∈us,qeQ A s u v (eqU x u)
 |_,_,.nil,_=>λu hu=>by cases hu
 |y::xs,u::us,.cons r t,f=>λu' hu=>by
  rw[qbQ,qbb]at f
  rcases qay.mp hu with rfl|hu
  ·rw[z8 r f.1];exact wY r rx f.1 fx
  ·exact oS rx fx t f.2 u' hu
def inV (x:V) (xs:List V):Bool:=xs.any λy=>eqV y x
def rIn (K:qai) (neg:Bool):R2:=λx y H Q=>∃ p xs,y=.ref p/\(SqL K H p xs\/SqT K H p xs)/\gx x=true/\xs.all gx=true/\Q (.bl (if neg then !inV x xs else inV x xs)) H
theorem tT:OpR X (qcB .NotIn) (rIn X.K true):=by
 intro pins s σ H x y v u Q I rx ry h
 obtain⟨p,xs,rfl,hq,fx,fs,q⟩:=h
 cases ry
 rcases hq with hq|hq
 ·obtain⟨its,r,pl,hz⟩:=I.list hq
  refine SeqAt.notIn_listAt (eqU x) pl.isList (λw hw=>oS rx fx r fs w (by simpa using hw)) ⟨.bl _,H,I,rfl,?_⟩
  rw[show its.toArray.any (eqU x)=its.any (eqU x) by simp,sQ r fs]
  exact q
 ·obtain⟨its,r,pl,hz⟩:=I.tuple hq
  refine SeqAt.notIn_tupleAt (eqU x) pl (λw hw=>oS rx fx r fs w (by simpa using hw)) ⟨.bl _,H,I,rfl,?_⟩
  rw[show its.toArray.any (eqU x)=its.any (eqU x) by simp,sQ r fs]
  exact q
theorem sC:eV X (.builtin "len") (λxs H Q=>∃ p ys,xs=[.ref p]/\(SqL X.K H p ys\/SqT X.K H p ys)/\Q (.int ys.length) H):=by
 intro pins s σ H xs us Q I r h
 obtain⟨p,ys,rfl,hq,q⟩:=h
 obtain⟨u,rfl,rx⟩:=lO r
 cases rx
 have hn:=kP
 rcases hq with hq|hq
 ·obtain⟨its,r',pl,hz⟩:=I.list hq
  have hlen:=r'.length
  exact Calls.call_len_list pl.isList (by simp only[qat]<;>lia) ⟨.int ys.length,H,I.tok _,⟨s.toks+1,by rw[qat,hlen]⟩,q⟩
 ·obtain⟨its,r',pl,hz⟩:=I.tuple hq
  have hlen:=r'.length
  exact len_tuple pl (by simp only[qat]<;>lia) ⟨.int ys.length,H,I.tok _,⟨s.toks+1,by rw[qat,hlen]⟩,q⟩
theorem sW:eV X (.builtin "len") (λxs H Q=>∃ z,xs=[.str z]/\z.length<=qaO/\Q (.int z.length) H):=by
 intro pins s σ H xs us Q I r h
 obtain⟨z,rfl,hz,q⟩:=h
 obtain⟨u,rfl,t,rfl⟩:=lO r
 have hn:=kP
 exact len_str (by lia) ⟨.int z.length,H,I.tok _,⟨_,rfl⟩,q⟩
theorem qF:eV X (.type "tuple") (λxs H Q=>∃ p ys,xs=[.ref p]/\((SqL X.K H p ys/\∀ l,H l=none->Q (.ref l) (upd H l (.tup ys)))\/(SqT X.K H p ys/\Q (.ref p) H))):=by
 intro pins s σ H xs us Q I r h
 obtain⟨p,ys,rfl,h⟩:=h
 obtain⟨u,rfl,rx⟩:=lO r
 cases rx
 rcases h with⟨hq,q⟩|⟨hq,q⟩
 ·obtain⟨its,r',pl,hz⟩:=I.list hq
  have hlen:=r'.length
  refine call_tuple_list pl.isList (λh' kp=>?_) (by simp only[qat]<;>lia)
  have I1:Inv X pins σ H { s with heap:=h' }:=I.kept (t':=s.toks) kp
  have I2:Inv X pins σ (upd H h'.objs.size (.tup ys)) { s with heap:=h'.push { cls:=.type "tuple",data:=.seq its.toArray } }:=
   I1.laid (t':=s.toks) (λb o e=>qae _ e) (qap _) (show cq X.prog X.w _ _ _ (.tup ys) from ⟨hz,its,r',eF.new _ _⟩)
  exact⟨.ref h'.objs.size,_,I2,rfl,q _ (I1.hok.fresh (qap _))⟩
 ·obtain⟨its,r',pl,hz⟩:=I.tuple hq
  exact call_tuple_same pl ⟨.ref p,H,I,rfl,q⟩
def tyV (K:qai) (T:String) (x:V) (H:Hp):Prop:=match x with
 |.str _=>T = "str"
 |.int _=>T = "int"
 |.ref p=>(T = "list"/\∃ xs,SqL K H p xs)\/(T = "tuple"/\((∃ o,K.lookup p=some o/\o.cls=.type "tuple"/\o.dict=none)\/∃ xs,SqT K H p xs))\/
   (T = "dict"/\((∃ kvs,H p=some (.dK kvs))\/∃ kvs,H p=some (.dT kvs)))\/(T = "set"/\∃ S n,H p=some (.set S n))
 |_=>False
theorem Gj {pins:List (Addr×Obj)}{σ:St}{H:Hp}{s:qaj}{T:String}{x:V}{v:Value} (I:Inv X pins σ H s) (r:aW x v) (ty:tyV X.K T x H) :
  s.TypeIs v T/\∀ a,v=.ref a->∃ ob,s.heap.get? a=some ob/\ob.dict=none:=by
 cases x with
 |str z=>
  obtain⟨t,rfl⟩:=r
  cases (show T = "str" from ty)
  exact⟨typeIs_str s z t,λ_ e=>nomatch e⟩
 |int i=>
  obtain⟨t,rfl⟩:=r
  cases (show T = "int" from ty)
  exact⟨qhs s i t,λ_ e=>nomatch e⟩
 |ref p=>
  cases r
  rcases ty with⟨rfl,xs,hq⟩|⟨rfl,ht⟩|⟨rfl,hk⟩|⟨rfl,S,n,hk⟩
  ·obtain⟨its,_,pl,_⟩:=I.list hq
   refine⟨pl.isList.typeIs,λa e=>?_⟩
   cases e
   obtain⟨o,n,e,c,hd,_⟩:=pl
   exact⟨o,e,hd⟩
  ·have z:∃ o:Obj,s.heap.get? p=some o/\o.cls=.type "tuple"/\o.dict=none:=by
    rcases ht with⟨o,hk,hc,hd⟩|⟨xs,hq⟩
    ·exact⟨o,I.kIn p o hk,hc,hd⟩
    ·exact I.tuple1 hq
   obtain⟨o,e1,hc,hd⟩:=z
   refine⟨⟨o,e1,hc⟩,λa e=>?_⟩
   cases e
   exact⟨o,e1,hd⟩
  ·have z:∃ o,s.heap.get? p=some o/\o.ExactDict:=by
    rcases hk with⟨kvs,hk⟩|⟨kvs,hk⟩
    ·obtain⟨_,_,_,_,o,_,_,e,ex,_⟩:=I.hok p _ hk
     exact⟨o,e,ex⟩
    ·obtain⟨_,_,_,_,o,_,_,e,ex,_⟩:=I.hok p _ hk
     exact⟨o,e,ex⟩
   obtain⟨o,e,ex⟩:=z
   refine⟨⟨o,e,ex.1⟩,λa e2=>?_⟩
   cases e2
   exact⟨o,e,ex.2.1⟩
  ·obtain⟨o,_,_,_,e,ex,_⟩:=I.hok p _ hk
   refine⟨⟨o,e,ex.1⟩,λa e2=>?_⟩
   cases e2
   exact⟨o,e,ex.2.1⟩
 |_=>exact qdL ty
def tBM (K:qai) (T:String) (r:V->List V->Hp->VK->Prop) (to:TE) (t:TA):TE:=λσ H Q=>to σ H λx H1=>tyV K T x H1/\t σ H1 λxs H2=>r x xs H2 Q
variable {o e:Expr}{es:List Expr}{to:TE}{t:TA}{name:Str}{apos cpos:Pos}{T id:String}{r:V->List V->Hp->VK->Prop}
theorem Gx (pa:PlainAttrs T) (slot:Slot T name id) (hty:typeOf (.builtin id)=pure (.type "method_descriptor")) (hm:MtR X id r) (ho:PE X o to) (ha:PA X (e::es) t)
  (hbase:qeE o name X.env (eval o X.env)=eval o X.env:=by rfl)
  (hfew:((qes cpos (qbP (e::es) X.env)).all (λx=>!x.1) && (qjk cpos (qgI [] X.env)).all (λx=>x.1.isSome)
    && decide ((e::es).length+([]:List qit).length+(if ([]:List qit).isEmpty then 0 else 1)<30))=true:=by rfl)
  (hline:(apos.endLine==cpos.line)=true:=by rfl) (hs:qbP (e::es) X.env=(false,eval e X.env)::qbP es X.env:=by rfl) (hplain:(qes cpos (qbP es X.env)).any (·.1)=false:=by rfl) :
  PE X (.Call (.Attribute o name apos) (e::es) [] cpos) (tBM X.K T r to t):=by
 intro pins s σ H Q I h
 refine wpAny_Call_method_late hbase hfew hline rfl (thn (ho pins s σ H _ I h) λv s1 ⟨x,H1,I1,r1,ty,q1⟩=>?_)
 obtain⟨h1,h2⟩:=Gj I1 r1 ty
 refine⟨T,id,pa,slot,hty,h1,h2,?_⟩
 have hA:=ha cpos pins s1 σ H1 _ I1 q1
 rw[hs]at hA ⊢
 refine qib (by show (false||(qes cpos (qbP es X.env)).any (·.1))=false;rw[hplain]<;>rfl) (qiF ?_)
 exact thn hA λus s2 ⟨vs,H2,I2,r2,q2⟩=>hm pins s2 σ H2 x vs v us Q I2 r1 r2 q2
end
def MtM (X:Cx) (id:String) (r:V->List V->Hp->VK->Prop):Prop:=
 ∀ (pins:List (Addr×Obj)) (s:qaj) (σ:St) (H:Hp) (x:V) (xs:List V) (v:Value) (us:List Value) (Q:VK),Inv X pins σ H s->aW x v->aP xs us->r x xs H Q->
  wpAny (model X.prog X.w) X.A (call (.builtin id) (v::us)) (EP X pins σ Q) X.xe s
theorem aP.one {x:V}{us:List Value} (h:aP [x] us):∃ u,us=[u]/\aW x u:=by
 cases h with
 |cons r t=>cases t;exact⟨_,rfl,r⟩
theorem aP.two {x y:V}{us:List Value} (h:aP [x,y] us):∃ u v,us=[u,v]/\aW x u/\aW y v:=by
 cases h with
 |cons r t=>cases t with
  |cons q t2=>cases t2;exact⟨_,_,rfl,r,q⟩
theorem aP.eraseIdx:∀ {xs:List V}{us:List Value} (i:Nat),aP xs us->aP (xs.eraseIdx i) (us.eraseIdx i)
 |_,_,_,.nil=>.nil
 |_,_,0,.cons _ t=>t
 |_,_,i+1,.cons r t=>.cons r (aP.eraseIdx i t)
theorem aP.rep {xs:List V}{us:List Value} (h:aP xs us):∀ k:Nat,aP (qaV k xs).flatten (qaV k us).flatten
 |0=>.nil
 |k+1=>by
  rw[qbY,qbY,qcz,qcz]
  exact aP.append h (aP.rep h k)
theorem q9 {α:Type}:∀ (l:List α) (i:Nat),(l.eraseIdx i).length<=l.length
 |[],_=>qap _
 |_::_,0=>qc9 _
 |_::r,i+1=>Nat.succ_le_succ (q9 r i)
theorem mU (its:List Value):∀ (k:Nat) (acc:List Value),
  qfz (λx1 x2=>x1++x2) acc.toArray (qaV k its.toArray)=(acc++(qaV k its).flatten).toArray
 |0,acc=>by simp
 |k+1,acc=>by
  have e:acc.toArray++its.toArray=(acc++its).toArray:=by simp
  have e2:(acc++its)++(qaV k its).flatten=acc++(qaV (k+1) its).flatten:=by
   rw[qbY,qcz,qca]
  rw[<-e2,<-mU its k (acc++its),<-e,qbY,qby]
section
variable {X:Cx}{pins:List (Addr×Obj)}{σ:St}{H:Hp}{s:qaj}{l b:Addr}{xs ys zs:List V}
theorem Inv.lset {its its':List Value}{n:Nat}{f:Array Value->Array Value}{t':Nat} (I:Inv X pins σ H s) (hH:H l=some (.lst xs))
  (e:s.heap.get? l=some { cls:=.type "list",data:=.seq its.toArray n }) (hf:f its.toArray=its'.toArray) (hv:aP ys its') (hz:ys.length<=qaO) :
  Inv X pins σ (upd H l (.lst ys)) { s with heap:=s.heap.update l (qce f),toks:=t' }:=by
 have q:=qgd e f
 rw[hf]at q
 refine I.write (x:=l) (e:=l) (by rw[hH];exact trivial) (.inl rfl) (λb' u hb hu=>(qd7 s.heap (qce f) (qdi hb)).trans hu) ⟨_,q⟩ ?_
 exact⟨hz,its',_,hv,q⟩
theorem Inv.lnew {its:List Value}{t':Nat} (I:Inv X pins σ H s) (hv:aP ys its) (hz:ys.length<=qaO) :
  Inv X pins σ (upd H s.heap.objs.size (.lst ys)) { s with heap:=s.heap.push { cls:=.type "list",data:=.seq its.toArray },toks:=t' }:=
 I.laid (λ_ _ q=>qae _ q) (qap _) ⟨hz,its,0,hv,qau _ rfl⟩
theorem Inv.fresh (I:Inv X pins σ H s):H s.heap.objs.size=none:=I.hok.fresh (qap _)
theorem Inv.lstM (I:Inv X pins σ H s) (hH:H l=some (.lst xs)):xs.length<=qaO/\∃ (its:List Value) (n:Nat),aP xs its/\xs.length=its.length/\s.heap.get? l=some { cls:=.type "list",data:=.seq its.toArray n }:=by
 obtain⟨z,its,n,r,e⟩:=I.hok l _ hH
 exact⟨z,its,n,r,r.length,e⟩
theorem ux {n:Nat} (h:n<=qaO):qcL n=false:=by
 unfold qcL
 exact decide_eq_false (by lia)
end
section
variable {X:Cx}
def Cn:V->List V->Hp->VK->Prop:=λx vs H Q=>∃ l xs y,x=.ref l/\vs=[y]/\H l=some (.lst xs)/\xs.length<qaO/\Q .non (upd H l (.lst (xs++[y])))
theorem zp:MtM X "list.append" Cn:=by
 intro pins s σ H x vs v us Q I rx rv h
 obtain⟨l,xs,y,rfl,rfl,hH,hz,q⟩:=h
 cases rx
 obtain⟨u,rfl,ru⟩:=rv.one
 obtain⟨z,its,n,r,hl,e⟩:=I.lstM hH
 refine qdI qgP ⟨_,e,rfl⟩ qgz (qgi _ _) (qgv l its.toArray n u (by rw[qat];lia)) ⟨e,?_⟩
 refine⟨.non,_,I.lset (its':=its++[u]) hH e (by simp) (r.append (.cons ru .nil)) ?_,rfl,q⟩
 rw[qa4,qfm]
 lia
def Fj:V->List V->Hp->VK->Prop:=λx vs H Q=>∃ l xs i k y,x=.ref l/\vs=[.int i]/\H l=some (.lst xs)/\-(2^63)<=i/\i<2^63/\ql2 i xs.length=some k/\xs[k]?=some y/\Q y (upd H l (.lst (xs.eraseIdx k)))
theorem BP:MtM X "list.pop" Fj:=by
 intro pins s σ H x vs v us Q I rx rv h
 obtain⟨l,xs,i,k,y,rfl,rfl,hH,h1,h2,hk,hy,q⟩:=h
 cases rx
 obtain⟨u,rfl,ru⟩:=rv.one
 obtain⟨t,rfl⟩:=ru
 obtain⟨z,its,n,r,hl,e⟩:=I.lstM hH
 obtain⟨w,hw,rw'⟩:=r.get hy
 refine qdI F.slot_list_pop ⟨_,e,rfl⟩ F.entry_list_pop (F.args_list_pop_2 _ _)
  (MeetsSeq.list_pop_at l its.toArray n i t k w (qmi h1 h2) (by rw[qat,<-hl];exact hk) (by rw[<-qbN];exact hw) (by rw[qat];lia)) ⟨e,?_⟩
 refine⟨y,_,I.lset (its':=its.eraseIdx k) hH e ?_ (r.eraseIdx k) ?_,rw',q⟩
 ·show its.toArray.eraseIdxIfInBounds k=(its.eraseIdx k).toArray
  rw[List.eraseIdxIfInBounds_toArray]
 ·have:=q9 xs k
  lia
theorem sX {α:Type} (xs:List α) (k:Nat):(qaV k xs).flatten.length=k*xs.length:=by
 induction k with
 |zero=>simp
 |succ k ih=>rw[qbY,qcz,qa4,ih,Nat.succ_mul,qiP]
end
section
variable {prog:qaY}{w:World}{A:qa9}{E:Value->qaj->Prop}{s:qaj}
end
section
variable {X:Cx}
end
end L2
namespace Att
open PySem PySem.W PySem.Calls PyProof.Rows
theorem nD {P:Params}{h:Heap}:∀ (ns:List Int) (vs:List Value),WellAll P h vs (ns.map WData.int)->qdC vs ns:=by
 intro ns
 induction ns with
 |nil=>
  intro vs w
  rw[qc2]at w
  cases w
  exact .nil
 |cons n ns ih=>
  intro vs w
  rw[qal]at w
  cases w with
  |cons a b=>
   cases a
   exact .cons _ _ (ih _ b)
theorem yP {l:OpenLaw}{n:Nat} (hn:l.most=some n) {P:Params}{h:Heap}{args:List WData}{vals:List Value}
  (hpre:l.row.toRowW.claim.pre args=true) (hwl:WellAll P h vals args) :
  ∃ a vs ns,vals=[Value.ref a]/\args=[WData.list (ns.map WData.int)]/\h.get? a=some { cls:=.type "list",data:=.seq vs.toArray }/\qdC vs ns/\ns.length<=n:=by
 have hsh:WShape.hasAll [] args [.list .int]=true:=(pre_splitW hpre).1
 have hc:l.pre.holds [] { args:=args }=true:=(pre_splitW hpre).2
 obtain⟨d,r,rfl,h1,h2⟩:=hasAllW_cons hsh
 obtain rfl:=hasAllW_nil h2
 obtain⟨xs,rfl,h3⟩:=hasW_list h1
 obtain⟨ns,rfl⟩:=items_int h3
 have hlen:ns.length<=n:=by
  unfold OpenLaw.pre at hc
  have h4:(WTm.not (.lt (.lit (.int (n:Int))) (.len (.arg 0)))).holds [] { args:=[.list (ns.map .int)] }=true:=by
   have h4:=(holds_andW hc).1
   rw[hn]at h4
   exact h4
  have h5:=condW_of h4 (w_not (w_lt w_lit (w_len_list (w_arg rfl))))
  rw[qag]at h5
  refine qhf λq=>?_
  have q':(n:Int)<((ns.length:Nat):Int):=by lia
  first
   |(rw[decide_eq_true q']at h5;exact absurd h5 (by decide))
   |(simp at h5;lia)
 cases hwl with
 |cons w1 w2=>
  cases w2
  cases w1 with
  |list ho hall=>exact⟨_,_,ns,rfl,rfl,ho,nD ns _ hall,hlen⟩
theorem zr (l:OpenLaw) (args:List WData):l.row.toRowW.claim.post args (.bool true) args=true:=
 postW_of (r:=l.row.toRowW) (X:=(true==true))
  (show qkJ [] (.bool true) .bool=true by first|rfl|decide|simp[qkJ,WShape.arms,WShape.armsAll])
  (show (WTm.eq .res (.lit (.bool true))).value [] { args:=args,res:=some (.bool true),after:=args }=some (.bool (true==true)) from w_eq_bool (w_res rfl) w_lit) rfl
theorem attach_call {l:OpenLaw}{n:Nat}{q:qaY}{loose:List Str}{XP:(Str->Option Value)->Heap->Prop}{YP:World->Heap->Prop}{d:DefRec}
  (hn:l.most=some n) (hdf:d.params.defaults=[])
  (call:∀ (w:World) (s₀ s₁:qaj) (mg mb:Str->Option Value) (fa:Addr) (o:Obj) (pm cd doc:Value) (a:Addr) (vs:List Value) (ns:List Int),
    Ground q loose [] XP w s₀ mg mb s₁.heap->YP w s₁.heap->
    s₁.heap.get? fa=some o->o.data=.func (docDef d.name d.params d.body d.scope pm cd doc)->s₁.heap.CodeRec cd d.name->mg d.name=some (.ref fa)->
    s₁.heap.get? a=some { cls:=.type "list",data:=.seq vs.toArray }->qdC vs ns->ns.length<=n->s₁.gens=#[]->
    qgb (model l.prog w) qil (.call (.ref fa) ⟨[.ref a],[]⟩) (λr s'=>r=.ok (.ret (.bool true))/\OldK s₁.heap s'.heap/\s'.os=s₁.os/\qgQ s'.gens) s₁) :
  WalkO q loose XP YP l.row.toRowW d [] (λf vs=>qjn f vs):=by
 intro w s₀ s₁ mg mb G Y fa o pm cd doc dV kV ho hd hcd hD hmg hg args vals as hpre hlay hrd hwl hlo
 obtain rfl:dV=.none:=Dflts.none hD hdf
 obtain rfl:kV=.none:=Dflts.noKw hD
 obtain⟨a,vs,ns,rfl,rfl,hobj,hints,hlen⟩:=yP hn hpre hwl
 refine enter_call (qer (call w s₀ s₁ mg mb fa o pm cd doc a vs ns G Y ho (fd_plain hd) hcd hmg hobj hints hlen hg) λr s' hq=>?_)
 obtain⟨rfl,h2,h3,h4⟩:=hq
 exact⟨.inl ⟨.bool true,.bool true,[],rfl,λ_=>rfl,.bool true,zr l _,λ_=>⟨List.Pairwise.nil,λ_ hm=>(nomatch hm)⟩⟩,h2,h3,h4⟩
section
variable {prog:qaY}{w:World}{A:qa9}{E:Value->qaj->Prop}{s:qaj}{K:Frag}
end
end Att
namespace L2
open PySem PySem.Spec PyProof.Rows
theorem rW:∀ {vs:List Value}{ns:List Int},qdC vs ns->aP (ns.map V.int) vs
 |_,_,.nil=>.nil
 |_,_,.cons n t h=>.cons ⟨t,rfl⟩ (rW h)
def CV (H:Hp):Prop:=∀ b,H b=none\/∃ o xs,H b=some (.frz o (.lst xs))
theorem AD {P:qaY}{w:World}{K:qai}{mg mb:Str->Option Value}{CX:CXT}{k:Nat}{fa a:Addr}{fd:qbf}{x:Str}{sp:Sp}{s₁:qaj}{vs:List Value}{ns:List Int}
  (KX:K.In s₁.heap) (hns:s₁.heap.Ns qaB mg) (hb:s₁.heap.Ns qi0 mb) (hbb:∀ x:Str,x≠"__name__"->mb x=qdc x) (hlim:s₁.heap.NoLimit) (hg:s₁.gens=#[])
  (ha:s₁.heap.get? a=some { cls:=.type "list",data:=.seq vs.toArray }) (hi:qdC vs ns) (hl:ns.length<=qaO) (hr:cX k qil)
  (F:∀ base:Heap,K.In base->base.Ns qaB mg->bV P w K mg base CX k fa fd [x] sp) (hbind:∀ (s:qaj) (u:Value),qjx s fd ⟨[u],[]⟩ [(x,u)])
  (hsp:∀ H:Hp,CV H->SqL K H a (ns.map V.int)->sp [.ref a] H (λv _=>v=.bl true) λ_ _ _=>False)
  (hCX:∀ H e s',CX [] H s₁ (λ_ _ _=>False) e s'->False) :
  qgb (model P w) qil (.call (.ref fa) ⟨[.ref a],[]⟩) (λr s'=>r=.ok (.ret (.bool true))/\OldK s₁.heap s'.heap/\s'.os=s₁.os/\qgQ s'.gens) s₁:=by
 have rv:=rW hi
 have lenV:=hi.length
 -- from an abstract heap in which nothing but the script may be tracked
 have core:∀ H:Hp,CV H->SqL K H a (ns.map V.int)->HOk P w H s₁.heap->(∀ b,H b≠none->b=a)->(H a≠none->K.lookup a=none)->
   qgb (model P w) qil (.call (.ref fa) ⟨[.ref a],[]⟩) (λr s'=>r=.ok (.ret (.bool true))/\OldK s₁.heap s'.heap/\s'.os=s₁.os/\qgQ s'.gens) s₁:=by
  intro H hO hS hok hA hK
  have base_of:∀ {b:Addr}{o:Obj},s₁.heap.get? b=some o->H b=none->(sG s₁.heap H).get? b=some o:=λe n=>AE e n
  have noA:∀ {b:Addr}{o:Obj}{es:Array qeS}{ep:Nat},s₁.heap.get? b=some o->o.data=.dict es ep->H b=none:=λ{b o es ep} e d=>by
   cases q:H b with
   |none=>rfl
   |some u=>
    have e':b=a:=hA b (by rw[q];simp)
    subst e'
    rw[ha]at e;cases e
    have d':Data.seq vs.toArray _=Data.dict es ep:=d
    cases d'
  have nsK:∀ {b:Addr}{m:Str->Option Value},s₁.heap.Ns b m->(sG s₁.heap H).Ns b m:=λ{b m} ⟨o,es,ep,e,d,r⟩=>⟨o,es,ep,base_of e (noA e d),d,r⟩
  have hKb:K.In (sG s₁.heap H):=λb o e=>base_of (KX b o e) (by
   cases q:H b with
   |none=>rfl
   |some u=>
    have e':b=a:=hA b (by rw[q];simp)
    subst e'
    rw[hK (by rw[q];simp)]at e;cases e)
  have hM:Mod K mg (sG s₁.heap H):=⟨hKb,nsK hns,⟨mb,nsK hb,hbb⟩,let ⟨mc,h1,h2⟩:=hlim;⟨mc,nsK h1,h2⟩⟩
  have e0:Dz P w K mg (sG s₁.heap H) qil [] s₁ H:=⟨rfl,hM,λb o e=>De e,qej (zg _ _),trivial,λb hb=>absurd (show b∈([]:List Addr) from hb) (by simp),hok,.of_eq hg⟩
  refine qer ((F _ hKb (nsK hns)).run qil [] s₁ H ⟨[.ref a],[]⟩ [.ref a] [.ref a] _ _ hr e0 (hbind s₁ (.ref a)) (.cons rfl .nil) (hsp H hO hS)) λr s' h=>?_
  cases r with
  |error e=>exact (hCX H e s' h).elim
  |ok fl=>
   cases fl with
   |next=>exact qdL h
   |brk=>exact qdL h
   |cont=>exact qdL h
   |ret u=>
    obtain⟨v,H',os,bare,un,hok',r',q⟩:=h
    have q':v=.bl true:=q
    subst q'
    obtain rfl:u=Value.bool true:=r'
    refine⟨rfl,OldK.of_keep λb o e=>?_,os,bare⟩
    cases q:H b with
    |none=>exact un.keep b o e q (by intro z;exact absurd (show b∈([]:List Addr) from z) (by simp)) (by simp)
    |some u=>
     rcases hO b with z|⟨ob,xs,z⟩
     ·rw[q]at z;cases z
     ·have z2:=un.frzs b ob _ z
      obtain⟨e1,_⟩:=hok b _ z
      obtain⟨e2,_⟩:=hok' b _ z2
      rw[e]at e1;cases e1
      exact e2
 cases hk:K.lookup a with
 |some o=>
  -- the script is one of the module's own objects
  have e:=KX a o hk
  rw[ha]at e
  cases e
  refine core (λ_=>none) (λ_=>.inl rfl) (.inr ⟨_,vs.toArray,_,hk,rfl,rfl,rfl,by rw[qat,lenV];exact hl,by simpa using rv⟩) (λb u z=>by have z':(none:Option HO)=some u:=z;cases z') (λb z=>absurd rfl z) λz=>absurd rfl z
 |none=>
  refine core (λb=>if b=a then some (.frz { cls:=.type "list",data:=.seq vs.toArray } (.lst (ns.map V.int))) else none) (λb=>?_) (.inl (.inr ⟨{ cls:=.type "list",data:=.seq vs.toArray },if_pos rfl⟩)) (λb u z=>?_) (λb z=>?_) λ_=>hk
  ·by_cases hb:b=a
   ·exact .inr ⟨_,_,if_pos hb⟩
   ·exact .inl (if_neg hb)
  ·by_cases hb:b=a
   ·have z':=(if_pos hb).symm.trans z
    cases z'
    subst hb
    exact⟨ha,by rw[qag];exact hl,vs,_,rv,ha⟩
   ·have z':=(if_neg hb).symm.trans z
    cases z'
  ·by_cases hb:b=a
   ·exact hb
   ·exact absurd (if_neg hb) z
theorem walk_of {l:qgL}{n k:Nat}{q:qaY}{loose:List Str}{XP:(Str->Option Value)->Heap->Prop}{YP:World->Heap->Prop}{d:DefRec}{K:Params->qai}{CX:World->CXT}{sp:World->Sp}{x:Str}
  (hn:l.most=some n) (hn2:n<=qaO) (hdf:d.params.defaults=[]) (hr:cX k qil)
  (hY:∀ (w:World) (h:Heap),YP w h->(K w.params).In h)
  (F:∀ (w:World) (mg:Str->Option Value) (fa:Addr) (h:Heap),(K w.params).In h->h.Ns qaB mg->mg d.name=some (.ref fa)->
    ∃ fd:qbf,(∀ (s:qaj) (u:Value),qjx s fd ⟨[u],[]⟩ [(x,u)])/\
     ∀ base:Heap,(K w.params).In base->base.Ns qaB mg->bV l.prog w (K w.params) mg base (CX w) k fa fd [x] (sp w))
  (hsp:∀ (w:World) (H:Hp) (a:Addr) (ns:List Int),ns.length<=n->CV H->SqL (K w.params) H a (ns.map V.int)->sp w [.ref a] H (λv _=>v=.bl true) λ_ _ _=>False)
  (hCX:∀ (w:World) (H:Hp) (s:qaj) (e:Value) (s':qaj),CX w [] H s (λ_ _ _=>False) e s'->False) :
  qjS q loose XP YP l.row.toRowW d [] (λf vs=>qjn f vs):=by
 refine Att.attach_call hn hdf λw s₀ s₁ mg mb fa o pm cd doc a vs ns G Y ho hd hcd hmg hobj hints hlen hg=>?_
 have KX:=hY w _ Y
 obtain⟨fd,hb,hF⟩:=F w mg fa _ KX G.T.g hmg
 exact AD KX G.T.g G.T.b G.T.builtins G.T.nolimit hg hobj hints (qaL hlen hn2) hr hF hb (λH hO hS=>hsp w H a ns hlen hO hS) λH e s'=>hCX w H s₁ e s'
def aI (s:Stmt):Arguments:=match s with
 |.FunctionDef _ a _ _ _ _ _ _ _ _=>a
 |_=>{ posonlyargs:=[],args:=[],vararg:=none,kwonlyargs:=[],kw_defaults:=[],kwarg:=none,defaults:=[] }
def aB (s:Stmt):List Stmt:=match s with
 |.FunctionDef _ _ b _ _ _ _ _ _ _=>b
 |_=>[]
def ae (s:Stmt):Scope:=match s with
 |.FunctionDef _ _ _ _ _ _ sc _ _ _=>sc
 |_=>{ kind:=.function,names:=[],isGenerator:=false,isCoroutine:=false }
abbrev CX0:CXT:=λ_ _ _ _ _ _=>False
abbrev E0:XK:=λ_ _ _=>False
theorem HD {X:Cx}:wJ CX0 X E0:=λ_ _ _ _ _ _ _ h=>h.elim
structure Fun (K:qai) (x qual:Str) (st:Stmt) (f:Addr) (fd:qbf):Prop where
 ex:∃ (oc:Value) (od:Option Addr) (kV doc pm:Value) (an:Option Addr) (cdv ct:Value) (osl:Array (Option Value)),
  fd=qaU x qual (aI st) (aB st) (ae st) .none kV doc pm an cdv ct/\K.lookup f=some ⟨oc,od,.func fd,osl⟩/\qaM K cdv qual=true
 kp:qaF K (.ref f)=true
section
variable {P:qaY}{w:World}{K:qai}{mg:Str->Option Value}{base:Heap}
theorem Fun.ok {x qual:Str}{st:Stmt}{f:Addr}{fd:qbf}{N ps:List Str}{k:Nat}{sp:Sp} (F:Fun K x qual st f fd) (S:aG N ps (ae st)) (len:∀ vs H Q E,sp vs H Q E->vs.length=ps.length)
  (hbody:∀ (cdv:Value) (A:qa9) (outer:List Env) (s:qaj) (H:Hp) (vs:List V) (Q:VK) (E:XK),cX k (A.deeper (qhb qual (ae st) s.heap.objs.size f cdv))->sp vs H Q E->
    ∃ t,PSs (tM CX0 P w K mg base N qual (ae st) f cdv A outer s H E).nox (aB st) t/\t { nx:=λ_ H'=>Q .non H',rt:=Q } (start N vs) H):bV P w K mg base CX0 (k+1) f fd ps sp:=by
 obtain⟨oc,od,kV,doc,pm,an,cdv,ct,osl,rfl,lk,hcd⟩:=F.ex
 refine G0 lk hcd S len λA outer s H vs Q E hr hsp=>?_
 obtain⟨t,h,q⟩:=hbody cdv A outer s H vs Q E hr hsp
 exact⟨t,h.nox,q⟩
theorem Fun.binds {x qual:Str}{st:Stmt}{f:Addr}{fd:qbf}{ps:List Str} (F:Fun K x qual st f fd)
  (h:∀ (kV doc pm:Value) (an:Option Addr) (cdv ct:Value) (us:List Value),us.length=ps.length->bindArgs (qaU x qual (aI st) (aB st) (ae st) .none kV doc pm an cdv ct) ⟨us,[]⟩=pure (ps.zip us)):bz K fd ps []:=by
 obtain⟨oc,od,kV,doc,pm,an,cdv,ct,osl,rfl,lk,hcd⟩:=F.ex
 exact .all (h kV doc pm an cdv ct)
theorem bm {x qual:Str}{st:Stmt}{f:Addr}{oc:Value}{od an:Option Addr}{osl:Array (Option Value)}{kV doc pm cdv ct:Value} (l:K.lookup f=some ⟨oc,od,.func (qaU x qual (aI st) (aB st) (ae st) .none kV doc pm an cdv ct),osl⟩)
  (c:qaM K cdv qual=true) (k:qaF K (.ref f)=true):Fun K x qual st f (qaU x qual (aI st) (aB st) (ae st) .none kV doc pm an cdv ct):=⟨⟨oc,od,kV,doc,pm,an,cdv,ct,osl,rfl,l,c⟩,k⟩
end
theorem Ab {A:qa9}{k:Nat} (hr:cX k A):A.units+1<cLine:=qeH (Nat.add_le_add_left (by decide:1<=64) _) hr.units
theorem zz {n:Nat} (h:n<=1000):n<qaO:=qeH h (by decide)
section
variable {X:Cx}
end
theorem zq {A B:Prop} (h:B):if false=true then A else B:=by
 rw[if_neg qan]
 exact h
theorem yB {A B:Prop} (h:A):if true=true then A else B:=by
 rw[if_pos rfl]
 exact h
def bL (H H':Hp):Prop:=∀ b o,H b=some o->H' b=some o
theorem bL.refl (H:Hp):bL H H:=λ_ _ h=>h
def cb (cells:List (Str×Addr)):List (Str×qck)->List (Str×Addr)->List (Str×Addr)
 |[],acc=>acc
 |(n,k)::r,acc=>if k==.free then cb cells r ((n,(cells.lookup n).getD 0)::acc) else cb cells r acc
theorem kY {env:Env} (f:Str×qck->List (Str×Addr)->Sem (ForInStep (List (Str×Addr))))
  (hf:∀ n k cs,f (n,k) cs=if k==.free then (do let c <-cellOf env n;pure (.yield ((n,c)::cs))) else pure (.yield cs)) :
  ∀ (names:List (Str×qck)) (acc:List (Str×Addr)),(∀ x∈names,x.2=.free->∃ c,env.cells.lookup x.1=some c)->
   forIn names acc f=pure (cb env.cells names acc)
 |[],acc,_=>by rw[qfM];rfl
 |(n,k)::r,acc,h=>by
  rw[qhn,hf]
  unfold cb
  by_cases hk:(k==.free)=true
  ·obtain⟨c,hc⟩:=h (n,k) qak (beq_iff_eq.mp hk)
   have hc':env.cells.lookup n=some c:=hc
   rw[if_pos hk,if_pos hk]
   have:cellOf env n=pure c:=by unfold cellOf;rw[hc']
   rw[this,hc']
   simp only[pure_bind,Option.getD_some]
   exact kY f hf r _ λx hx=>h x (qah _ hx)
  ·rw[if_neg hk,if_neg hk]
   simp only[pure_bind]
   exact kY f hf r _ λx hx=>h x (qah _ hx)
theorem kA {scope:Scope}{env:Env} (h:∀ x∈scope.names,x.2=.free->∃ c,env.cells.lookup x.1=some c) :
  closureFor scope env=pure (cb env.cells scope.names []):=by
 simp only[closureFor]
 rw[kY (env:=env) _ (λn k cs=>by cases hk:k==NameKind.free<;>simp[hk]) scope.names [] h]
 simp
theorem ik {cells:List (Str×Addr)}:∀ (names:List (Str×qck)) (acc:List (Str×Addr)) {x:Str}{c:Addr},(cb cells names acc).lookup x=some c->
  acc.lookup x=some c\/((x,NameKind.free)∈names/\c=(cells.lookup x).getD 0)
 |[],_,_,_,h=>.inl h
 |(n,k)::r,acc,x,c,h=>by
  unfold cb at h
  by_cases hk:(k==.free)=true
  ·rw[if_pos hk]at h
   rcases ik r _ h with q|⟨q1,q2⟩
   ·rw[qb6]at q
    cases hx:x==n with
    |true=>
     rw[hx]at q
     have e:=beq_iff_eq.mp hx
     subst e
     exact .inr ⟨by rw[<-beq_iff_eq.mp hk];exact qak,(qaS q).symm⟩
    |false=>rw[hx]at q;exact .inl q
   ·exact .inr ⟨qah _ q1,q2⟩
  ·rw[if_neg hk]at h
   rcases ik r _ h with q|⟨q1,q2⟩
   ·exact .inl q
   ·exact .inr ⟨qah _ q1,q2⟩
theorem gK {cells:List (Str×Addr)}{x:Str}:∀ (names:List (Str×qck)) (acc:List (Str×Addr)),((x,NameKind.free)∈names\/(acc.lookup x).isSome=true)->((cb cells names acc).lookup x).isSome=true
 |[],_,h=>h.elim (λz=>nomatch z) id
 |(n,k)::r,acc,h=>by
  unfold cb
  by_cases hk:(k==.free)=true
  ·rw[if_pos hk]
   refine gK r _ ?_
   rcases h with h|h
   ·rcases qay.mp h with e|h
    ·cases e
     exact .inr (by rw[qb6,beq_self_eq_true];rfl)
    ·exact .inl h
   ·refine .inr ?_
    rw[qb6]
    cases x==n
    ·exact h
    ·rfl
  ·rw[if_neg hk]
   refine gK r _ ?_
   rcases h with h|h
   ·rcases qay.mp h with e|h
    ·cases e;exact absurd rfl hk
    ·exact .inl h
   ·exact .inr h
theorem eG:∀ (names:List (Str×qck)) (n:Nat) (acc:List (Str×Addr)) {x:Str}{c:Addr},(qcm n names acc).lookup x=some c->acc.lookup x=some c\/((x,NameKind.cell)∈names/\n<=c)
 |[],_,_,_,_,h=>.inl h
 |(m,k)::r,n,acc,x,c,h=>by
  unfold qcm at h
  by_cases hk:(k==.cell)=true
  ·rw[if_pos hk]at h
   rcases eG r _ _ h with q|⟨q1,q2⟩
   ·rw[qb6]at q
    cases hx:x==m with
    |true=>
     rw[hx]at q
     have e:=beq_iff_eq.mp hx
     subst e
     exact .inr ⟨by rw[<-beq_iff_eq.mp hk];exact qak,by rw[qaS q];exact qap _⟩
    |false=>rw[hx]at q;exact .inl q
   ·exact .inr ⟨qah _ q1,Nat.le_of_succ_le q2⟩
  ·rw[if_neg hk]at h
   rcases eG r _ _ h with q|⟨q1,q2⟩
   ·exact .inl q
   ·exact .inr ⟨qah _ q1,q2⟩
theorem qN:∀ (names:List (Str×qck)) (n:Nat) (acc:List (Str×Addr)),(∀ p∈acc,p.2<n)->∀ {x y:Str}{c:Addr},(qcm n names acc).lookup x=some c->(qcm n names acc).lookup y=some c->n<=c->x=y:=by
 have key:∀ (names:List (Str×qck)) (n:Nat) (acc:List (Str×Addr)) (lo:Nat),lo<=n->(∀ p∈acc,p.2<n)->(∀ p∈acc,∀ q∈acc,lo<=p.2->p.2=q.2->p.1=q.1)->
   ∀ p∈qcm n names acc,∀ q∈qcm n names acc,lo<=p.2->p.2=q.2->p.1=q.1:=by
  intro names
  induction names with
  |nil=>intro n acc lo _ _ h;exact h
  |cons z r ih=>
   intro n acc lo hlo hlt h
   obtain⟨m,k⟩:=z
   unfold qcm
   by_cases hk:(k==.cell)=true
   ·rw[if_pos hk]
    refine ih _ _ lo (Nat.le_succ_of_le hlo) (λp hp=>?_) (λp hp q hq l e=>?_)
    ·rcases qay.mp hp with e|hp
     ·rw[e];exact qb7 _
     ·exact qa0 (hlt p hp)
    ·rcases qay.mp hp with e1|hp<;>rcases qay.mp hq with e2|hq
     ·rw[e1,e2]
     ·rw[e1]at e;exact absurd (hlt q hq) (by rw[<-e];exact qcx _)
     ·rw[e2]at e;exact absurd (hlt p hp) (by rw[e];exact qcx _)
     ·exact h p hp q hq l e
   ·rw[if_neg hk]
    exact ih _ _ lo hlo hlt h
 intro names n acc hlt x y c hx hy hc
 exact key names n acc n (qap _) hlt (λp hp q hq l _=>absurd (hlt p hp) (Nat.not_lt.mpr l)) _ (qbO hx) _ (qbO hy) hc rfl
theorem fC:∀ (names:List (Str×qck)) (h:Heap) (acc:List (Str×Addr)),(∀ p∈acc,∃ v,h.IsCell p.2 v)->∀ p∈qcm h.objs.size names acc,∃ v,(qf7 h names).IsCell p.2 v
 |[],_,_,h=>h
 |(m,k)::r,h,acc,hc=>by
  unfold qcm qf7
  by_cases hk:(k==.cell)=true
  ·rw[if_pos hk,if_pos hk]
   have:=fC r (h.push { cls:=.type "cell",data:=.cell none }) ((m,h.objs.size)::acc) (λp hp=>by
    rcases qay.mp hp with e|hp
    ·rw[e];exact⟨none,_,qau _ rfl,rfl⟩
    ·obtain⟨v,z⟩:=hc p hp
     exact⟨v,z.keeps λb o e=>qae _ e⟩)
   rwa [qbK]at this
  ·rw[if_neg hk,if_neg hk]
   exact fC r h acc hc
theorem fU {names:List (Str×qck)} (nd:(names.map (·.1)).Nodup):∀ {x:Str}{k:qck},(x,k)∈names->names.lookup x=some k:=by
 induction names with
 |nil=>intro x k h;cases h
 |cons z r ih=>
  intro x k h
  obtain⟨m,k'⟩:=z
  rw[qal,qbR]at nd
  rw[qb6]
  rcases qay.mp h with e|h
  ·cases e;rw[beq_self_eq_true]
  ·have:(x==m)=false:=beq_eq_false_iff_ne.mpr λe=>nd.1 (e ▸ qaz.mpr ⟨(x,k),by assumption,rfl⟩)
   rw[this]
   exact ih nd.2 h
theorem d5 {env:Env}:∀ {names:List (Str×qck)}{x:Str}{k:qck},
  (names.map λ(n,k)=>if (k==NameKind.free&&env.scope.kind==.function&&env.kindOf n==some .cell) then (n,NameKind.cell) else (n,k)).lookup x=some k->
  ∃ k0,names.lookup x=some k0/\(k=k0\/(k0=.free/\k=.cell))
 |[],_,_,h=>by cases h
 |(n,k0)::r,x,k,h=>by
  rw[qal]at h
  dsimp only at h
  rw[qb6]
  by_cases hc:(k0==NameKind.free&&env.scope.kind==.function&&env.kindOf n==some .cell)=true
  ·rw[if_pos hc,qb6]at h
   cases hx:x==n with
   |true=>
    rw[hx]at h
    refine⟨k0,rfl,.inr ⟨?_,(qaS h).symm⟩⟩
    simp only[qbb]at hc
    exact beq_iff_eq.mp hc.1.1
   |false=>rw[hx]at h;exact d5 h
  ·rw[if_neg hc,qb6]at h
   cases hx:x==n with
   |true=>rw[hx]at h;exact⟨k0,rfl,.inl (qaS h).symm⟩
   |false=>rw[hx]at h;exact d5 h
theorem iM {env:Env}:∀ {names:List (Str×qck)}{x:Str},names.lookup x=some .free->
  (names.map λ(n,k)=>if (k==NameKind.free&&env.scope.kind==.function&&env.kindOf n==some .cell) then (n,NameKind.cell) else (n,k)).lookup x=some .free\/
  (names.map λ(n,k)=>if (k==NameKind.free&&env.scope.kind==.function&&env.kindOf n==some .cell) then (n,NameKind.cell) else (n,k)).lookup x=some .cell
 |[],_,h=>by cases h
 |(n,k0)::r,x,h=>by
  rw[qal]
  dsimp only
  rw[qb6]at h
  by_cases hc:(k0==NameKind.free&&env.scope.kind==.function&&env.kindOf n==some .cell)=true
  ·rw[if_pos hc,qb6]
   cases hx:x==n with
   |true=>exact .inr rfl
   |false=>rw[hx]at h;exact iM h
  ·rw[if_neg hc,qb6]
   cases hx:x==n with
   |true=>rw[hx]at h;exact .inl h
   |false=>rw[hx]at h;exact iM h
theorem lD {M:Model}{A:qa9}{E:Value->qaj->Prop}{s:qaj}{scope:Scope}{env:Env}{cl:List (Str×Addr)}{Q:Env->qaj->Prop}
  (hQ:Q (newEnv scope s.heap.objs.size env.globals (qcm (s.heap.objs.size+1) scope.names cl) env.qual none .none (some env) qi0)
    { s with heap:=qf7 (s.heap.push { cls:=.type "dict",data:=.dict #[] }) scope.names }) :
  wpAny M A (qmh scope env.globals cl [] env.qual none .none (some env)) Q E s:=by
 simp only[qmh,qiN,if_true]
 refine qaa (qj9 ?_)
 refine qaa (wpAny_layCells _ (λname kind cells=>by cases hkc:kind==NameKind.cell<;>simp[hkc]) _ _ _ _ ?_)
 rw[show ({ s with heap:=s.heap.push { cls:=.type "dict",data:=.dict #[] } }:qaj).heap.objs.size=s.heap.objs.size+1 from qbK ..]
 refine qaa ?_
 rw[qfM]
 exact qab (qab hQ)
theorem eW {prog:qaY}{w:World}{A:qa9}{R:ql9->qaj->Prop}{s:qaj}{elt target iter:Expr}{ifs:List Expr}{scope:Scope}{pos:Pos}{it acc:Value}{env:Env} (I:Nat->qaj->Prop)
  (turn:∀ n s,I n s->wpAny (model prog w) A (qeq it) (λr s₁=>match r with
    |none=>R (.ok .next) s₁
    | some v=>wpAny (model prog w) A (qf8 target it v) (λ_ s₁'=>wpAny (model prog w) A (qgC target env v) (λ_ s₂=>
      wpAny (model prog w) A (forIn ifs true λc r=>if r=true then do let ok <-ql5 c env (eval c env);pure (ForInStep.yield ok) else pure (ForInStep.yield r)) (λok s₃=>
       if ok=true then wpAny (model prog w) A (eval elt env) (λx s₄=>
        wpAny (model prog w) A (call (.builtin "list.append") [acc,x]) (λ_ s₅=>∃ m,m<n/\I m s₅) (λ_ _=>False) s₄) (λ_ _=>False) s₃
       else ∃ m,m<n/\I m s₃) (λ_ _=>False) s₂) (λ_ _=>False) s₁') (λ_ _=>False) s₁) (λ_ _=>False) s)
  (n:Nat) (h:I n s) :
  qgb (model prog w) A (.compLoop (.ListComp elt [⟨target,iter,ifs,0⟩] scope pos) 0 it acc env) R s:=by
 refine codeAny_loop rfl I (λn s hI=>?_) n h
 show wpAny _ A ((compTurn (.ListComp elt [⟨target,iter,ifs,0⟩] scope pos) 0 it acc env).onRaise (λx=>do noteFrame x env;theTreesLotGoes x)) _ _ s
 refine wpAny_noted ?_
 rw[compTurn_list]
 refine qaa (qfq (qaa (qcG (turn n s hI) (λr s₁ h₁=>?_) λ_ _ h'=>h'.elim)))
 cases r with
 |none=>exact qab h₁
 |some v=>
  refine qaa (qcG h₁ (λ_ s₁' h₁'=>?_) λ_ _ h'=>h'.elim)
  refine qaa (qcG h₁' (λ_ s₂ h₂=>qaa (qcG h₂ (λok s₃ h₃=>?_) λ_ _ h'=>h'.elim)) λ_ _ h'=>h'.elim)
  cases ok with
  |false=>exact qab ⟨rfl,h₃⟩
  |true=>
   exact qaa (qaa (qcG h₃ (λx s₄ h₄=>qaa (qcG h₄ (λ_ s₅ h₅=>qab (qab ⟨rfl,h₅⟩)) λ_ _ h'=>h'.elim)) λ_ _ h'=>h'.elim))
def lcX (X:Cx) (scope:Scope) (cells:List (Str×Addr)) (Nc:List Str) (s:qaj) (H:Hp) (C:Addr) (fp:List Addr):Cx where
 prog:=X.prog
 w:=X.w
 K:=X.K
 mg:=X.mg
 base:=X.base
 A:=X.A
 N:=Nc
 s₀:=s
 H₀:=H
 env:=qji scope cells C X.env
 outer:=X.stack
 stack:=X.stack
 ex:=fp
 fn:=λx=>scope.names.lookup x==some .cell
 calm:=X.calm
 pn:=[]
 xe:=λ_ _=>False
structure gG (X:Cx) (scope:Scope) (Nc:List Str) (emb:St->St):Prop where
 kind:scope.kind=.function
 nd:(scope.names.map (·.1)).Nodup
 nN:Nc.Nodup
 free:∀ x∈scope.names,x.2=.free->X.env.kindOf x.1=some .cell\/X.env.kindOf x.1=some .free
 len:∀ σ:St,σ.length=X.N.length->(emb σ).length=Nc.length
 emb:∀ σ:St,σ.length=X.N.length->∀ (i:Nat) (x:Str) (v:V),Nc[i]?=some x->(emb σ)[i]?=some (some v)->∃ j:Nat,X.N[j]?=some x/\σ[j]?=some (some v)/\scope.names.lookup x=some .free
section
variable {X:Cx}{pins:List (Addr×Obj)}{σ:St}{H:Hp}{s:qaj}{scope:Scope}{Nc:List Str}{emb:St->St}
theorem gG.clos (S:gG X scope Nc emb) (ok:X.Ok):∀ x∈scope.names,x.2=.free->∃ c,X.env.cells.lookup x.1=some c:=λx hx h=>ok.has x.1 (S.free x hx h)
theorem ul (S:gG X scope Nc emb) (I:Inv X pins σ H s) {fp:List Addr} (hf:∀ b∈fp,j9 X pins H b) (hfo:∀ b∈fp,∃ o,s.heap.get? b=some o) {lo:Obj} (hlo:∀ v,lo.data≠.cell v) (hfr:lo.isFreed=false) :
  Inv (lcX X scope (qcm (s.heap.objs.size+2) scope.names (cb X.env.cells scope.names [])) Nc s H (s.heap.objs.size+1) fp) [(s.heap.objs.size,lo)] (emb σ) H
   { s with heap:=qf7 ((s.heap.push lo).push { cls:=.type "dict",data:=.dict #[] }) scope.names }:=by
 have hsz2:((s.heap.push lo).push { cls:=.type "dict",data:=.dict #[] }).objs.size=s.heap.objs.size+2:=by rw[qbK,qbK]
 have hsz1:(s.heap.push lo).objs.size=s.heap.objs.size+1:=by rw[qbK]
 have hk:∀ b o,s.heap.get? b=some o->(qf7 ((s.heap.push lo).push { cls:=.type "dict",data:=.dict #[] }) scope.names).get? b=some o:=λb o e=>
  qdB _ _ b o (qae _ (qae _ e))
 have has:=S.clos I.ok
 have cl_old:∀ {x:Str}{c:Addr},(cb X.env.cells scope.names []).lookup x=some c->X.env.cells.lookup x=some c/\(x,NameKind.free)∈scope.names:=λ{x c} h=>by
  rcases ik _ _ h with q|⟨q1,q2⟩
  ·cases q
  ·obtain⟨c',hc'⟩:=has _ q1 rfl
   have hc'':X.env.cells.lookup x=some c':=hc'
   rw[hc'']at q2
   exact⟨by rw[hc'',q2];rfl,q1⟩
 have cells_cases:∀ {x:Str}{c:Addr},(qcm (s.heap.objs.size+2) scope.names (cb X.env.cells scope.names [])).lookup x=some c->
   (X.env.cells.lookup x=some c/\(x,NameKind.free)∈scope.names)\/((x,NameKind.cell)∈scope.names/\s.heap.objs.size+2<=c):=λ{x c} h=>by
  rcases eG _ _ _ h with q|q
  ·exact .inl (cl_old q)
  ·exact .inr q
 have oldlt:∀ {x:Str}{c:Addr},X.env.cells.lookup x=some c->c<s.heap.objs.size:=λ{x c} h=>by
  obtain⟨v,z⟩:=I.cell x c h
  exact z.lt
 have fplt:∀ b∈fp,b<s.heap.objs.size:=λb hb=>by obtain⟨o,e⟩:=hfo b hb;exact qao e
 have accmem:∀ p∈cb X.env.cells scope.names [],∃ x,X.env.cells.lookup x=some p.2:=by
  have key:∀ (names:List (Str×qck)) (acc:List (Str×Addr)),(∀ x∈names,x.2=.free->∃ c,X.env.cells.lookup x.1=some c)->(∀ p∈acc,∃ x,X.env.cells.lookup x=some p.2)->∀ p∈cb X.env.cells names acc,∃ x,X.env.cells.lookup x=some p.2:=by
   intro names
   induction names with
   |nil=>intro acc _ h;exact h
   |cons z r ih=>
    intro acc hn h
    obtain⟨m,k⟩:=z
    unfold cb
    by_cases hk:(k==.free)=true
    ·rw[if_pos hk]
     refine ih _ (λx hx=>hn x (qah _ hx)) λp hp=>?_
     rcases qay.mp hp with e|hp
     ·obtain⟨c,hc⟩:=hn _ qak (beq_iff_eq.mp hk)
      have hc':X.env.cells.lookup m=some c:=hc
      exact⟨m,by rw[e,hc'];rfl⟩
     ·exact h p hp
    ·rw[if_neg hk]
     exact ih _ (λx hx=>hn x (qah _ hx)) h
  exact key _ _ has λp hp=>nomatch hp
 refine⟨⟨I.ok.mod,S.kind,I.ok.glob,I.ok.blt,qc9 _,λx y c h1 h2=>?_,λx hx=>?_,λx c hx h=>?_,I.ok.hd,I.ok.frames,.inl rfl,λb hb=>?_,I.bs,qaL I.ok.bsz I.sz,λb o e hb=>?_,λb hb=>?_,I.stack,I.stkFree⟩,
  rfl,I.bare,Un.kept hk,⟨_,(Heap.Ns.new (s.heap.push lo) (.type "dict")).keeps (qdB _ _) |> λq=>by rw[hsz1]at q;exact q,λi x v h1 h2 _=>?_⟩,λx c h=>?_,I.hok.fresh (qc9 _),λx c h=>?_,λp hp=>?_,I.hok.kept hk,S.len σ I.len⟩
 ·-- inj
  have h1':(qcm (s.heap.objs.size+2) scope.names (cb X.env.cells scope.names [])).lookup x=some c:=h1
  have h2':(qcm (s.heap.objs.size+2) scope.names (cb X.env.cells scope.names [])).lookup y=some c:=h2
  rcases cells_cases h1' with⟨q1,_⟩|⟨_,q1⟩
  ·rcases cells_cases h2' with⟨q2,_⟩|⟨_,q2⟩
   ·exact I.ok.inj x y c q1 q2
   ·exact absurd (qaR (qa0 (qa0 (oldlt q1))) q2) (qcx _)
  ·refine qN scope.names _ _ (λp hp=>?_) h1' h2' q1
   obtain⟨z,hz⟩:=accmem p hp
   exact qa0 (qa0 (oldlt hz))
 ·-- has
  have hx':(relabel scope X.env).names.lookup x=some .cell\/(relabel scope X.env).names.lookup x=some .free:=hx
  have:∃ k0,scope.names.lookup x=some k0/\(k0=.cell\/k0=.free):=by
   rcases hx' with q|q
   ·obtain⟨k0,h1,h2⟩:=d5 q
    exact⟨k0,h1,h2.elim (λe=>.inl e.symm) λe=>.inr e.1⟩
   ·obtain⟨k0,h1,h2⟩:=d5 q
    exact⟨k0,h1,h2.elim (λe=>.inr e.symm) λe=>by cases e.2⟩
  obtain⟨k0,h1,h2⟩:=this
  refine qcV.mp (qdS scope.names _ _ ?_)
  rcases h2 with rfl|rfl
  ·exact .inl h1
  ·exact .inr (gK _ _ (.inl (qbO h1)))
 ·-- cab
  have hx':scope.names.lookup x=some .cell:=beq_iff_eq.mp hx
  rcases cells_cases h with⟨_,q⟩|⟨_,q⟩
  ·have:=fU S.nd q
   rw[hx']at this;cases this
  ·exact qaL (qhg _ 2) q
 ·-- exf
  refine⟨qar (qa0 (fplt b hb)),λx c h=>?_⟩
  rcases cells_cases h with⟨q,_⟩|⟨_,q⟩
  ·exact (hf b hb).2.2.2.2.1 x c q
  ·intro e
   exact absurd (qaR (qa0 (qa0 (fplt b hb))) (e ▸ q)) (qcx _)
 ·-- noex
  have hb':b∈fp:=hb
  rcases (hf b hb').2.2.2.1 with q|q
  ·exact I.ok.noex b o e q
  ·exact absurd (qaR (qao (I.ok.bs b o e).1) q) (qcx _)
 ·-- exfs
  intro hb2
  rcases qay.mp (I.stkSub b hb2) with q|q
  ·exact (hf b hb).2.1 q
  ·exact (hf b hb).2.2.1 q
 ·-- loc
  obtain⟨j,e1,e2,e3⟩:=S.emb σ I.len i x v h1 h2
  have kx:=S.free (x,.free) (qbO e3) rfl
  have kx':X.env.kindOf x=some .cell\/X.env.kindOf x=some .free:=kx
  obtain⟨m,hn,hl⟩:=I.loc
  obtain⟨u,ru,lk⟩:=hl j x v e1 e2 (.inr kx')
  refine⟨u,ru,.inr ⟨?_,?_⟩⟩
  ·rcases iM (env:=X.env) e3 with q|q
   ·exact .inr q
   ·exact .inl q
  ·rcases lk with⟨z,_⟩|⟨_,c,hc,hcell⟩
   ·rcases kx' with q|q<;>(rw[z]at q;cases q)
   ·obtain⟨c',hc'⟩:=qcV.mp (qdS scope.names (s.heap.objs.size+2) (cb X.env.cells scope.names []) (x:=x) (.inr (gK _ _ (.inl (qbO e3)))))
    rcases cells_cases hc' with⟨q,_⟩|⟨q,_⟩
    ·rw[hc]at q
     cases q
     exact⟨c,hc',hcell.keeps hk⟩
    ·have:=fU S.nd q
     rw[e3]at this;cases this
 ·-- cell
  have h':(qcm (s.heap.objs.size+2) scope.names (cb X.env.cells scope.names [])).lookup x=some c:=h
  have:=fC scope.names ((s.heap.push lo).push { cls:=.type "dict",data:=.dict #[] }) (cb X.env.cells scope.names []) (λp hp=>by
   obtain⟨z,hz⟩:=accmem p hp
   obtain⟨v,q⟩:=I.cell z p.2 hz
   exact⟨v,q.keeps λb o e=>qae _ (qae _ e)⟩) (x,c) (by rw[hsz2];exact qbO h')
  exact this
 ·-- freeC
  rcases cells_cases h with⟨q,_⟩|⟨_,q⟩
  ·exact I.freeC x c q
  ·exact I.hok.fresh (qaL (qhg _ 2) q)
 ·-- pin
  have hp':p=(s.heap.objs.size,lo):=by
   have:p∈([]:List (Addr×Obj))++[(s.heap.objs.size,lo)]:=hp
   simpa using this
  subst hp'
  refine⟨qdB _ _ _ _ (qae _ (qau _ hfr)),I.hok.fresh (qap _),qar (qb7 _),λhb=>?_,hlo⟩
  rcases qay.mp (I.stkSub _ hb) with q|q
  ·exact absurd I.lt (by rw[<-q];exact qcx _)
  ·exact I.nofs (qap _) q
end
def PTs (X:Cx) (ifs:List Expr) (t:TT):Prop:=
 ∀ (pins:List (Addr×Obj)) (s:qaj) (σ:St) (H:Hp) (Q:Bool->Hp->Prop),Inv X pins σ H s->t σ H Q->
  wpAny (model X.prog X.w) X.A (forIn ifs true λc r=>if r=true then do let ok <-ql5 c X.env (eval c X.env);pure (ForInStep.yield ok) else pure (ForInStep.yield r)) (TP X pins σ Q) X.xe s
def Ig:TT:=λ_ H Q=>Q true H
theorem Dk {X:Cx}:PTs X [] Ig:=λ_ _ _ H _ I h=>wpAny_tests_nil ⟨H,I,h⟩
theorem DJ {X:Cx}{c:Expr}{t:TT} (hc:PT X c t):PTs X [c] t:=λpins s σ H Q I h=>wpAny_tests_one (hc pins s σ H Q I h)
def Sub (σ σ':St):Prop:=σ.length=σ'.length/\∀ (i:Nat) (v:V),σ[i]?=some (some v)->σ'[i]?=some (some v)
def Gv (J:It) (σe:St) (g:TG) (tt:TT) (te:TE) (H1:Hp) (Q:VK):Prop:=∃ W:Nat->Nat->List V->Hp->Prop,(∃ m,W 0 m [] H1)/\∀ i m ys H,W i m ys H->
 (J.stop i H/\∀ D,H D=none->Q (.ref D) (upd H D (.lst ys)))\/
 (J.go i H/\ys.length<qaO/\∃ N:List V->Hp->Prop,(∀ ys' H',N ys' H'->∃ m',m'<m/\W (i+1) m' ys' H')/\∀ x H',J.yld i H x H'->g x σe H' λσ2 H2=>Sub σe σ2/\tt σ2 H2 λb H3=>if b=true then te σ2 H3 λv H4=>N (ys++[v]) H4 else N ys H3)
def tLc (emb:St->St) (wi:TI) (g:TG) (tt:TT) (te:TE):TE:=λσ H Q=>wi σ H λJ H1=>Gv J (emb σ) g tt te H1 Q
section
variable {X:Cx}{scope:Scope}{Nc:List Str}{emb:St->St}{elt iter tg:Expr}{ifs:List Expr}{pos:Pos}{wi:TI}{g:TG}{tt:TT}{te:TE}
theorem Hq (S:gG X scope Nc emb) (hc:X.calm=true) (hi:PI X tg iter wi)
  (hg:∀ cells s H C fp,PG (lcX X scope cells Nc s H C fp) tg g) (ht:∀ cells s H C fp,PTs (lcX X scope cells Nc s H C fp) ifs tt) (he:∀ cells s H C fp,PE (lcX X scope cells Nc s H C fp) elt te)
  (hs:∀ x,qc8 iter X.env x=pure x:=by intro _;rfl):PE X (.ListComp elt [⟨tg,iter,ifs,0⟩] scope pos) (tLc emb wi g tt te):=by
 intro pins s σ H Q I h
 rw[eval_ListComp]
 refine qiW (use:=none) rfl hs (kA (S.clos I.ok)) S.kind (λx hx hl=>fU S.nd (by rw[<-hl];exact hx)) ?_
 refine thn (hi pins s σ H _ I h) λv s1 h1=>thn h1 λitv s2 h2=>?_
 obtain⟨it,fp,tn,J,H2,e,I2,T,st2,f2,W,⟨m0,w0⟩,turn⟩:=h2
 subst e
 refine qbh (lD ?_)
 rw[show (s2.heap.push { cls:=.type "list",dict:=none,data:=.seq ([]:List Value).toArray }).objs.size=s2.heap.objs.size+1 from qbK ..]
 generalize hD:s2.heap.objs.size=D
 generalize hlo:({ cls:=.type "list",dict:=none,data:=.seq ([]:List Value).toArray }:Obj)=lo
 have fplt:∀ b∈fp,b<s2.heap.objs.size:=λb hb=>by obtain⟨o,e,_⟩:=T.obj _ _ st2 b hb;exact qao e
 have I3:=ul (lo:=lo) S I2 f2 (λb hb=>by obtain⟨o,e,_⟩:=T.obj _ _ st2 b hb;exact⟨o,e⟩) (by rw[<-hlo];intro v z;cases z) (by rw[<-hlo];rfl)
 rw[hD]at I3
 generalize hcells:qcm (D+2) scope.names (cb X.env.cells scope.names [])=cells at I3
 generalize hX':lcX X scope cells Nc s2 H2 (D+1) fp=X' at I3
 have hfpX:∀ {H':Hp}{ps:List (Addr×Obj)},(∀ b∈fp,H' b=none)->(∀ p∈ps,p.1=D)->∀ b∈fp,j9 X' ps H' b:=λ{H' ps} hn hps b hb=>by
  have ok:=I3.ok
  refine⟨hn b hb,?_,?_,.inl (by rw[<-hX'];exact hb),?_,λp hp=>?_⟩
  ·exact (ok.exf b (by rw[<-hX'];exact hb)).1
  ·exact ok.exfs b (by rw[<-hX'];exact hb)
  ·exact (ok.exf b (by rw[<-hX'];exact hb)).2
  ·have hp':p∈([]:List (Addr×Obj))++ps:=by rw[<-hX']at hp;exact hp
   have e:p.1=D:=hps p (by simpa using hp')
   rw[e,<-hD]
   exact qbu (fplt b hb)
 have Dex:D∈X'.ex\/X'.s₀.heap.objs.size<=D:=.inr (by rw[<-hX',<-hD];exact qap _)
 have Dloc:D≠X'.env.locals:=by rw[<-hX'];exact qar (qb7 _)
 have pD:=I3.pin (D,lo) (by rw[<-hX'];exact qav _ qak)
 have Dfs:D∉X'.fs:=pD.2.2.2.1
 have Dcell:∀ x c,X'.env.cells.lookup x=some c->c≠D:=λx c hc' e=>by
  obtain⟨v,o,ho,hd⟩:=I3.cell x c hc'
  rw[e,pD.1]at ho
  cases ho
  exact pD.2.2.2.2 v hd
 -- the loop
 have loop:∀ s3:qaj,s3={ s2 with heap:=qf7 ((s2.heap.push lo).push { cls:=.type "dict",data:=.dict #[] }) scope.names }->
   qgb (model X.prog X.w) X.A (.compLoop (.ListComp elt [⟨tg,iter,ifs,0⟩] scope pos) 0 (.ref it) (.ref D) (qji scope cells (D+1) X.env))
    (compPost (model X.prog X.w) X.A X.xe none (EP X pins σ Q) (.ref D) (D+1)) s3:=by
  rintro s3 rfl
  refine eW (λn s'=>∃ i ys its k H',Inv X' [(D,{ cls:=.type "list",data:=.seq its.toArray k })] (emb σ) H' s'/\aP ys its/\tn i s'.heap/\(∀ b∈fp,H' b=none)/\ys.length<=qaO/\W i n ys H') ?_ m0
   ⟨0,[],[],0,H2,?_,.nil,?_,λb hb=>(f2 b hb).1,qaW _,w0⟩
  ·rintro n s4 ⟨i,ys,its,k,H4,I4,rv,st4,fr4,hlen,w4⟩
   have hps:∀ p∈[(D,({ cls:=.type "list",data:=.seq its.toArray k }:Obj))],p.1=D:=λp hp=>by
    have:=qaI.mp hp
    rw[this]
   rcases turn i n ys H4 w4 with⟨stop,qn⟩|⟨go,hlt,N,hN,step⟩
   ·-- the end
    have TD:=T.done X' (by rw[<-hX'];rfl) (by rw[<-hX'];rfl) (by rw[<-hX'];rfl) (by rw[<-hX'];exact hc) i _ s4 (emb σ) H4 (λ_ _=>False) I4 (hfpX fr4 hps) st4 stop
    rw[show X'.A=X.A by rw[<-hX'];rfl]at TD
    refine thn TD λr s5 ⟨hr,I5⟩=>?_
    subst hr
    obtain⟨m5,hn5,_⟩:=id I5.loc
    have eC:X'.env.locals=D+1:=by rw[<-hX'];rfl
    rw[eC]at hn5
    refine⟨m5,hn5,λh' hsb=>?_⟩
    have pD5:=I5.pin (D,{ cls:=.type "list",data:=.seq its.toArray k }) (by rw[<-hX'];exact qav _ qak)
    have neC:∀ b u,H4 b=some u->b≠D+1:=λb u e z=>by
     have:=I5.free
     rw[eC,<-z,e]at this
     cases this
    have hD4:H4 D=none:=pD5.2.1
    have un:=I5.base
    have un':Un (frs X.stack) fp H2 H4 s2.heap s5.heap:=by rw[<-hX']at un;exact un
    have old_ne:∀ b o,s2.heap.get? b=some o->b≠D/\b≠D+1:=λb o e=>by
     have q:=qao e
     rw[hD]at q
     exact⟨qar q,qar (qa0 q)⟩
    have h2D:H2 D=none:=by rw[<-hD];exact I2.fresh
    have hok':HOk X.prog X.w H4 h':=λb u e=>by
     have ob:cq X.prog X.w H4 s5.heap b u:=by have:=I5.hok b u e;rw[<-hX']at this;exact this
     refine ob.stay (λc v hcv q=>(hsb.2 c ?_).trans q) (λ_ q=>q) λ_ _ q=>q
     rcases hcv with z|z
     ·rw[z];exact neC b u e
     ·exact neC c _ z
    have hokD:HOk X.prog X.w (upd H4 D (.lst ys)) h':=λb u e=>by
     by_cases hb:b=D
     ·subst hb
      rw[bj]at e
      cases e
      exact⟨hlen,its,k,rv,(hsb.2 b (qar (qb7 _))).trans pD5.1⟩
     ·rw[aN hb]at e
      refine (hok' b u e).stay (λ_ _ _ q=>q) (λc q=>?_) λc z q=>?_
      all_goals first
       |(rw[aN (aO q hD4)];exact q)
       |(rw[aN (aO z hD4)];exact z)
    refine⟨.ref D,upd H4 D (.lst ys),?_,rfl,qn D hD4⟩
    refine I2.call' (s':={ s5 with heap:=h' }) (ch:=fp) ?_ ⟨λb o e nb hb hx=>?_,λb o e nb hb hx=>?_,λb o e nb hx=>?_,λb o e hx=>?_,λb xs e=>?_,λb o u e=>?_,λb ps e=>?_⟩ hokD I5.bare (λb hb=>?_)
    ·have:=I5.os
     rw[<-hX']at this
     exact this
    ·exact (hsb.2 b (old_ne b o e).2).trans (un'.keep b o e nb hb hx)
    ·obtain⟨sl,q⟩:=un'.slot b o e nb hb hx
     exact⟨sl,(hsb.2 b (old_ne b o e).2).trans q⟩
    ·rw[aN (old_ne b o e).1]
     exact un'.free b o e nb hx
    ·obtain⟨o',q⟩:=un'.there b o e hx
     exact⟨o',(hsb.2 b (old_ne b o e).2).trans q⟩
    ·rw[aN (aO e h2D)]
     exact un'.tups b xs e
    ·rw[aN (aO e h2D)]
     exact un'.frzs b o u e
    ·obtain⟨m,q⟩:=un'.tbls b ps e
     exact⟨m,by rw[aN (aO e h2D)];exact q⟩
    ·obtain⟨q0,q1,q2,q3,q4,q5⟩:=f2 b hb
     exact⟨q3,q1,q4,q5⟩
   ·-- a turn
    have hA:X'.A=X.A:=by rw[<-hX'];rfl
    have hP:X'.prog=X.prog:=by rw[<-hX'];rfl
    have hw:X'.w=X.w:=by rw[<-hX'];rfl
    have hE:X'.env=qji scope cells (D+1) X.env:=by rw[<-hX'];rfl
    have hxe:X'.xe=λ_ _=>False:=by rw[<-hX'];rfl
    have TI':=T.item X' hP hw (by rw[<-hX'];rfl) (by rw[<-hX'];exact hc) i _ s4 (emb σ) H4 (λ_ _=>False) I4 (hfpX fr4 hps) st4 go
    rw[hA]at TI'
    refine thn TI' λr s5 ⟨u,hr,h5⟩=>?_
    subst hr
    refine thn h5 λ_ s6 ⟨x,H6,I6,r6,y6,st6,fr6⟩=>?_
    have I6':=I6.pinned (hfpX fr6 hps) (T.obj _ _ st6)
    have G:=hg cells s2 H2 (D+1) fp
    have TT':=ht cells s2 H2 (D+1) fp
    have EE:=he cells s2 H2 (D+1) fp
    rw[hX']at G TT' EE
    have G':=G _ s6 (emb σ) H6 x u _ I6' r6 (step x H6 y6)
    rw[hA,hP,hw,hE,hxe]at G'
    refine thn G' λ_ s7 ⟨σ7,H7,I7,sb7,q7⟩=>?_
    have T':=TT' _ s7 σ7 H7 _ I7 q7
    rw[hA,hP,hw,hE,hxe]at T'
    refine thn T' λok s8 ⟨H8,I8,q8⟩=>?_
    -- what is pinned
    have pin_fp:∀ {σ9:St}{H9:Hp}{s9:qaj},Inv X' ([(D,({ cls:=.type "list",data:=.seq its.toArray k }:Obj))]++mN fp s6.heap) σ9 H9 s9->tn (i+1) s9.heap/\∀ b∈fp,H9 b=none:=λ{σ9 H9 s9} I9=>
     ⟨T.keep _ _ _ st6 λb hb o e=>(I9.pin (b,o) (qav _ (qav _ (dJ hb e)))).1,λb hb=>by
      obtain⟨o,e,_⟩:=T.obj _ _ st6 b hb
      exact (I9.pin (b,o) (qav _ (qav _ (dJ hb e)))).2.1⟩
    cases ok with
    |false=>
     rw[if_neg (by decide)]at q8
     rw[if_neg (by decide)]
     obtain⟨m',hm,w8⟩:=hN _ _ q8
     exact⟨m',hm,i+1,ys,its,k,H8,I8.unpinned.weak sb7.1 sb7.2,rv,(pin_fp I8).1,(pin_fp I8).2,hlen,w8⟩
    |true=>
     rw[if_pos rfl]at q8
     rw[if_pos rfl]
     have E':=EE _ s8 σ7 H8 _ I8 q8
     rw[hA,hP,hw,hE,hxe]at E'
     refine thn E' λy s9 ⟨v9,H9,I9,r9,n9⟩=>?_
     obtain⟨m',hm,w9⟩:=hN _ _ n9
     have pD9:=I9.pin (D,{ cls:=.type "list",data:=.seq its.toArray k }) (qav _ (qct _ qak))
     have hl:=rv.length
     have I9n:Inv X' [] σ7 H9 s9:=I9.pins_of λp hp=>nomatch hp
     refine qdI qgP ⟨_,pD9.1,rfl⟩ qgz (qgi _ _) (qgv D its.toArray k y (by rw[qat];lia)) ⟨pD9.1,?_⟩
     have up:∃ k':Nat,(s9.heap.update D (qce λxs=>xs.push y)).get? D=some { cls:=.type "list",data:=.seq (its++[y]).toArray k' }:=by
      have q:=qgd pD9.1 (λxs:Array Value=>xs.push y)
      simp only[qjH]at q
      exact⟨_,q⟩
     obtain⟨k',up⟩:=up
     have hoth:∀ b o,b≠D->s9.heap.get? b=some o->(s9.heap.update D (qce λxs=>xs.push y)).get? b=some o:=λb o hb e=>(qd7 s9.heap _ (qdi hb)).trans e
     have I10:=I9n.turned (t':=s9.toks) hoth pD9.2.1 Dloc Dex Dcell (λp hp=>absurd (show p∈([]:List (Addr×Obj)) by rw[<-hX']at hp;exact hp) (by simp))
     refine⟨m',hm,i+1,ys++[v9],its++[y],k',H9,(I10.weak sb7.1 sb7.2).pins_of (λp hp=>?_),rv.append (.cons r9 .nil),T.keep _ _ _ (pin_fp I9).1 (λb hb o e=>hoth b o (by rw[<-hD];exact qar (fplt b hb)) e),(pin_fp I9).2,?_,w9⟩
     ·have:=qaI.mp hp
      subst this
      exact⟨up,pD9.2.1,Dloc,Dfs,λv z=>by cases z⟩
     ·rw[qa4,qfm]
      lia
  ·have q:lo={ cls:=.type "list",data:=.seq ([]:List Value).toArray 0 }:=hlo.symm
   rw[<-q]
   exact I3
  ·exact T.keep _ _ _ st2 λb hb o e=>qdB _ _ b o (qae _ (qae _ e))
 refine qjA ?_ ?_
 ·exact loop _ rfl
 ·refine T.self X.A 0 _ _ _ (T.keep _ _ _ st2 λb hb o e=>qdB _ _ b o (qae _ (qae _ e))) ?_
  exact loop _ rfl
end
end L2
namespace L2
open PySem PySem.Spec PyProof.Rows
open PySem.AutoSeq1 (wpAny_loadPart')
section
variable {prog:qaY}{w:World}{A:qa9}{E:Value->qaj->Prop}{s:qaj}
theorem ml {it l:Addr}{i:Nat}{items}{x:Value}{Q:Value->qaj->Prop} (hit:s.heap.IsTupleIter it l i)
  (hl:s.heap.IsTuple l items) (hx:items[i]?=some x)
  (hQ:∀ h',h'.IsTupleIter it l (i+1)->qbm it s.heap h'->Q x { s with heap:=h' }) :
  wpAny (model prog w) A (qc5 (.ref it)) Q E s:=by
 obtain⟨o,ho,hc,hd⟩:=id hit
 obtain⟨ol,hol,_,nl,hdl⟩:=hl
 unfold qc5
 refine qaa (qbC (name:=qc3 "__next__") hit.typeIs qdF
  (qbd qdF hit.typeIs qh4 ?_ (qhR _)))
 show wpAny _ _ (field (.ref it) 0 >>= _) _ _ s
 refine qaa (qeN ho hd (x:=.ref l) rfl ?_)
 show wpAny _ _ (if (Value.ref l==Value.none)=true then _ else _) _ _ s
 rw[if_neg (show ¬ ((Value.ref l==Value.none)=true) from qan)]
 show wpAny _ _ (field (.ref it) 1 >>= _) _ _ s
 refine qaa (qeN ho hd (x:=.int i 0) rfl ?_)
 show wpAny _ _ (seqItems? (.ref l) >>= _) _ _ s
 refine qaa (qiG hol hdl ?_)
 simp only[qaK,hx]
 refine qaa (qcE ho hd (by simp) (qab ⟨x,rfl,qab (hQ _ ?_ (qa8 ..))⟩))
 exact⟨_,qbZ _ ho (qcQ (qbL hd _)),(qdx ..).trans hc,by
  rw[qbL hd];simp[qeA]⟩
theorem mI {it l:Addr}{i:Nat}{items}{Q:Value->qaj->Prop} (hh:A.handled=none)
  (hit:s.heap.IsTupleIter it l i) (hl:s.heap.IsTuple l items) (hx:items[i]?=none)
  (hE:∀ h' e,qho it s.heap h'->(∃ o,h'.get? e=some o/\o.cls=.type "StopIteration")->E (.ref e) { s with heap:=h' }) :
  wpAny (model prog w) A (qc5 (.ref it)) Q E s:=by
 obtain⟨o,ho,hc,hd⟩:=id hit
 obtain⟨ol,hol,_,nl,hdl⟩:=hl
 unfold qc5
 refine qaa (qbC (name:=qc3 "__next__") hit.typeIs qdF
  (qbd qdF hit.typeIs qh4 ?_ (qhR _)))
 show wpAny _ _ (field (.ref it) 0 >>= _) _ _ s
 refine qaa (qeN ho hd (x:=.ref l) rfl ?_)
 show wpAny _ _ (if (Value.ref l==Value.none)=true then _ else _) _ _ s
 rw[if_neg (show ¬ ((Value.ref l==Value.none)=true) from qan)]
 show wpAny _ _ (field (.ref it) 1 >>= _) _ _ s
 refine qaa (qeN ho hd (x:=.int i 0) rfl ?_)
 show wpAny _ _ (seqItems? (.ref l) >>= _) _ _ s
 refine qaa (qiG hol hdl ?_)
 simp only[qaK,hx]
 refine qaa (qdG (qaa (qcE ho hd (by simp) ?_)))
 show wpAny _ _ (qiY (.type "StopIteration") [] >>= _) _ _ _
 refine qaa ?_
 simp only[qiY,qkn]
 refine qaa (qbh ?_ (by size_fits))
 refine qaa (m:=qdm _ _) (qgH (a:=Value.none) (by first|rfl|(simp only[qdm];rfl)) ?_)
 refine qbh ?_ (by size_fits)
 simp only[qkm]
 refine qaa (qg7 ?_)
 first|rw[show A.in1.handled=none from hh]|rw[hh]
 refine qaa (qab (qic ?_))
 exact hE _ _ (((qa8 ..).extBut.push _).push _) ⟨_,qau _ rfl,rfl⟩
theorem jv (hh:A.handled=none) (it l:Addr) (hne:l≠it) (items:Array Value) :
  Draws prog w A it [it,l] items.size (λi v=>items[i]?=some v) (λi h=>h.IsTupleIter it l i/\h.IsTuple l items) where
 live:=λ_ _ st=>let ⟨o,ho,_⟩:=st.1;⟨o,ho⟩
 frame:=λ_ _ _ st hk=>⟨st.1.at λo e=>hk it (by simp) o e,by
  obtain⟨o,e,r⟩:=st.2
  exact⟨o,hk l (by simp) o e,r⟩⟩
 item:=λi s Q E hi st hQ=>by
  refine ml st.1 st.2 (x:=items[i]) (by simp[hi]) λh' hit' hs'=>?_
  refine hQ _ h' s.toks (by simp[hi]) ⟨hit',?_⟩ hs'
  obtain⟨o,e,r⟩:=st.2
  exact⟨o,(hs'.2 l hne).trans e,r⟩
 done:=λs Q E st hE=>mI hh st.1 st.2 (by simp) hE
end
theorem jQ (l:Addr) (items:Array Value) (n:Nat) (dct:Option Addr) (sl:Array (Option Value)) :
  Meets (qcs.«enumerate.__new__» ⟨[.type "enumerate",.ref l],[]⟩) (λ_ R s=>s.heap.get? l=some { cls:=.type "tuple",dict:=dct,data:=.seq items n,slots:=sl }/\
   R (.ok (.ret (.ref (s.heap.push { cls:=.type "tuple_iterator",data:=.fields #[.ref l,.int 0 0] }).objs.size)))
    { s with heap:=(s.heap.push { cls:=.type "tuple_iterator",data:=.fields #[.ref l,.int 0 0] }).push { cls:=.type "enumerate",data:=.fields #[.none,.bool false,.ref s.heap.objs.size,qeA 0,.none,.none] } }):=
 .of_wp λprog w A R s h=>by
  obtain⟨hp,g,d,tk,os⟩:=s;obtain⟨hl,h⟩:=h
  have hsub:=sub_enumerate
  have hL:Heap.IsTuple (Shared.heap ⟨hp,g,d,tk,os⟩) l items:=⟨_,hl,rfl,n,rfl⟩
  wp_walk using wpAny_loadPart' hl
  refine wpAny_stack_any λst=>qab ?_
  split
  ·rename_i c _ _ _ _ _
   cases (c==Value.type "enumerate")
   ·wp_walk using wpAny_loadPart' hl,qed hL
    exact⟨_,rfl,h⟩
   ·wp_walk using wpAny_loadPart' hl,qed hL
    exact⟨_,rfl,h⟩
  ·wp_walk using wpAny_loadPart' hl,qed hL
   exact⟨_,rfl,h⟩
theorem jE {prog:qaY}{w:World}{A:qa9}{E:Value->qaj->Prop}{s:qaj}{l:Addr}{items:Array Value}{Q:Value->qaj->Prop} (hL:s.heap.IsTuple l items)
  (h:∀ h',IsEnum h' (s.heap.objs.size+1) s.heap.objs.size 0 .none->h'.IsTupleIter s.heap.objs.size l 0->h'.objs.size=s.heap.objs.size+2->
    (∀ b o,s.heap.get? b=some o->h'.get? b=some o)->Q (.ref (s.heap.objs.size+1)) { s with heap:=h' }) :
  wpAny (model prog w) A (call (.type "enumerate") [.ref l]) Q E s:=by
 obtain⟨⟨c,dct,dt,sl⟩,hl,hc,n,hd⟩:=hL
 replace hc:c=.type "tuple":=hc
 replace hd:dt=.seq items n:=hd
 subst hc hd
 refine callType_new F.called_enumerate (by decide) (F.typeCall_enumerate_1 _) (F.newCall_enumerate_1 _) (λobj=>F.args_object_init_2 obj _) F.entry_enumerate_new
  (jQ l items n dct sl) ⟨hl,?_⟩
 have hz:(s.heap.push { cls:=.type "tuple_iterator",data:=.fields #[.ref l,.int 0 0] }).objs.size=s.heap.objs.size+1:=qbK ..
 show _/\_
 rw[hz]
 have he:IsEnum ((s.heap.push { cls:=.type "tuple_iterator",data:=.fields #[.ref l,.int 0 0] }).push
   { cls:=.type "enumerate",data:=.fields #[.none,.bool false,.ref s.heap.objs.size,qeA 0,.none,.none] }) (s.heap.objs.size+1) s.heap.objs.size 0 .none:=by
  have:=qau (s.heap.push { cls:=.type "tuple_iterator",data:=.fields #[.ref l,.int 0 0] })
   (o:={ cls:=.type "enumerate",data:=.fields #[.none,.bool false,.ref s.heap.objs.size,qeA 0,.none,.none] }) rfl
  rw[hz]at this;exact this
 refine⟨⟨_,he,rfl⟩,h _ he ⟨_,qae _ (qau _ rfl),rfl,rfl⟩ (by rw[qbK,hz]) λb o x=>qae _ (qae _ x)⟩
section
variable {X:Cx}{pins:List (Addr×Obj)}{σ:St}{H:Hp}{s:qaj}{h':Heap}{fp:List Addr}
theorem j9.ch (hf:∀ b∈fp,j9 X pins H b):∀ b∈fp,(b∈X.ex\/X.s₀.heap.objs.size<=b)/\b≠X.env.locals/\(∀ x c,X.env.cells.lookup x=some c->c≠b)/\∀ p∈X.pn++pins,p.1≠b:=λb hb=>
 let ⟨_,f1,_,f3,f4,f5⟩:=hf b hb
 ⟨f3,f1,f4,f5⟩
theorem Inv.turns {t':Nat} (I:Inv X pins σ H s) (hf:∀ b∈fp,j9 X pins H b) (k:∀ b o,b∉fp->s.heap.get? b=some o->h'.get? b=some o):Inv X pins σ H { s with heap:=h',toks:=t' }:=by
 have nit:∀ b u,H b=some u->b∉fp:=λb u e z=>by have:=(hf b z).1;rw[e]at this;cases this
 refine I.step (g':=s.gens) (d':=s.drawn) (ch:=fp) (j9.ch hf) (λb o _ _ hc e _=>k b o hc e) (λb o _ _ hc e _=>⟨o.slots,k b o hc e⟩) (λ_ _ _ _ n=>n)
  (λb o hc e=>⟨o,k b o hc e⟩) (λ_ _ e=>e) (λ_ _ _ e=>e) (λb ps e=>⟨#[],by rw[e];simp⟩) (λm hm=>?_) (λb u e=>?_) I.bare
 ·obtain⟨o,es,ep,ho,r⟩:=hm
  exact⟨o,es,ep,k _ o (λz=>(hf _ z).2.1 rfl) ho,r⟩
 ·refine (I.hok b u e).stay (λc v hc q=>k c v ?_ q) (λ_ q=>q) λ_ _ q=>q
  rcases hc with z|z
  ·rw[z];exact nit b u e
  ·exact nit c _ z
theorem Inv.turnsT {t':Nat}{T:Addr}{xs:List V}{its:Array Value} (I:Inv X pins σ H s) (hf:∀ b∈fp,j9 X pins H b) (k:∀ b o,b∉fp->s.heap.get? b=some o->h'.get? b=some o)
  (hT:s.heap.objs.size<=T) (ht:eF h' T its) (rv:aP xs its.toList) (hz:xs.length<=qaO):Inv X pins σ (upd H T (.tup xs)) { s with heap:=h',toks:=t' }:=by
 have nit:∀ b u,H b=some u->b∉fp:=λb u e z=>by have:=(hf b z).1;rw[e]at this;cases this
 have hTn:H T=none:=I.hok.fresh hT
 have lt:∀ b o,s.heap.get? b=some o->b≠T:=λb o e=>qar (qaR (qao e) hT)
 refine I.step (g':=s.gens) (d':=s.drawn) (ch:=fp) (j9.ch hf) (λb o _ _ hc e _=>k b o hc e) (λb o _ _ hc e _=>⟨o.slots,k b o hc e⟩) (λb o _ e n=>by rw[aN (lt b o e)];exact n)
  (λb o hc e=>⟨o,k b o hc e⟩) (λb _ e=>by rw[aN (aO e hTn)];exact e) (λb _ _ e=>by rw[aN (aO e hTn)];exact e) (λb ps e=>⟨#[],by rw[aN (aO e hTn),e];simp⟩) (λm hm=>?_) (λb u e=>?_) I.bare
 ·obtain⟨o,es,ep,ho,r⟩:=hm
  exact⟨o,es,ep,k _ o (λz=>(hf _ z).2.1 rfl) ho,r⟩
 ·by_cases hb:b=T
  ·subst hb
   rw[bj]at e
   cases e
   refine⟨hz,its.toList,rv,?_⟩
   show eF h' b its.toList.toArray
   simpa using ht
  ·rw[aN hb]at e
   refine (I.hok b u e).stay (λc v hc q=>k c v ?_ q) (λc q=>?_) λc z q=>?_
   ·rcases hc with z|z
    ·rw[z];exact nit b u e
    ·exact nit c _ z
   all_goals first
    |(rw[aN (aO q hTn)];exact q)
    |(rw[aN (aO z hTn)];exact z)
end
def Ite (S:Hp->List V->Prop):It:=
 ⟨λi H=>∃ xs x,S H xs/\xs[i]?=some x,λi H x H'=>∃ T v,(∀ xs,S H xs->xs[i]?=some v)/\H T=none/\x=.ref T/\H'=upd H T (.tup [.int i,v]),λi H=>∃ xs,S H xs/\xs.length=i⟩
theorem wN {P:qaY}{w:World}{K:qai}{elts:List Expr}{k:Nat}{pos:Pos} (a it e:Addr) (hei:e≠it) (hae:a≠e) (hai:a≠it) :
  zo P w K (.Tuple elts k pos) (Ite λH xs=>SqL K H a xs) [e,it] e (λi h=>(∃ old,IsEnum h e it i old)/\h.IsListIter it a i) where
 mem:=by simp
 obj:=λi h st b hb=>by
  rcases qay.mp hb with rfl|hb
  ·obtain⟨⟨old,q⟩,_⟩:=st
   exact⟨_,q,λv z=>by cases z⟩
  ·rw[qaI.mp hb]
   obtain⟨_,o,e,c,d⟩:=st
   exact⟨o,e,λv z=>by rw[d]at z;cases z⟩
 keep:=λi h h' st kk=>⟨let ⟨old,q⟩:=st.1;⟨old,kk e (by simp) _ q⟩,st.2.at λo q=>kk it (by simp) o q⟩
 item:=by
  intro X hP hw hK hc i pins s σ H E I hf st hg
  subst hP hw hK
  obtain⟨xs,x,hq,hx⟩:=hg
  obtain⟨its,rv,p,hz⟩:=I.list hq
  obtain⟨u,hu,ru⟩:=rv.get hx
  have W:=qgm (qlT (prog:=X.prog) (w:=X.w) (A:=X.A.in1) (I.ok.hd hc) it a hai its.toArray) e hei (by simp[hei,qdi hae]) (by simp)
  have hi:i<its.toArray.size:=by
   have:=(qax.mp hu).1
   simpa using this
  obtain⟨⟨ol,he0⟩,hit0⟩:=st
  refine qi9 (qlT (prog:=X.prog) (w:=X.w) (A:=X.A.in1) (I.ok.hd hc) it a hai its.toArray) he0 ⟨hit0,p.isList⟩ hi hei (by simp[hei,qdi hae]) λy h1 t hy ho hs' ht hsz hk=>⟨_,rfl,?_⟩
  have hm:(λ(i:Nat) (T:Addr) (h:Heap)=>(∃ x,IsEnumOut h e it ((i:Int)+1) x T)/\_/\T≠e/\T≠it) i s.heap.objs.size h1:=⟨⟨_,ho⟩,hs',qbu (qao he0),qbu (let ⟨_,q,_⟩:=hit0;qao q)⟩
  have kk:∀ b o,b∉[e,it]->s.heap.get? b=some o->h1.get? b=some o:=λb o hb q=>hk b o (λz=>hb (by simp[z])) (λz=>hb (by simp[z])) q
  generalize eT:s.heap.objs.size=T at ht ho hm ⊢
  have hT:s.heap.objs.size<=T:=qej eT
  have etk:∃ tk,tk=t+1:=⟨_,rfl⟩
  obtain⟨tk,etk⟩:=etk
  rw[<-etk]
  have ey:y=u:=by
   have hy':its[i]?=some y:=by simpa using hy
   rw[hu]at hy'
   exact (qaS hy').symm
  subst ey
  refine W.go elts k pos i T _ _ _ hm λh2 hst kk2=>?_
  have nT:T∉[e,it]:=W.apart i T _ hm
  refine⟨.ref T,upd H T (.tup [.int i,x]),?_,rfl,⟨T,x,λys hy=>by rw[I.list_inj hy hq];exact hx,I.hok.fresh hT,rfl,rfl⟩,⟨hst.1,hst.2.1⟩,λb hb=>?_⟩
  ·have ht2:eF h2 T #[.int i t,y]:=⟨_,kk2 T _ nT ht,rfl,⟨_,rfl⟩,rfl⟩
   have I2:Inv X pins σ (upd H T (.tup [.int i,x])) { s with heap:=h2,toks:=tk }:=
    I.turnsT (fp:=[e,it]) (h':=h2) (t':=tk) (its:=#[.int i t,y]) hf (λb o hb q=>kk2 b o hb (kk b o hb q)) hT ht2 (.cons ⟨t,rfl⟩ (.cons ru .nil)) (by show 2<=qaO;decide)
   exact I2
  ·rw[aN (show b≠T from λz=>nT (z ▸ hb))]
   exact (hf b hb).1
 done:=by
  intro X hP hw hK hc i pins s σ H E I hf st hg
  subst hP hw hK
  obtain⟨xs,hq,hx⟩:=hg
  obtain⟨its,rv,p,hz⟩:=I.list hq
  have hl:=rv.length
  have hx':its.toArray[i]?=none:=by simp;lia
  obtain⟨⟨old,he⟩,hit⟩:=st
  -- the end at place i
  obtain⟨f0,f1,f2,f3,f4,f5⟩:=hf e (by simp)
  refine wpAny_pyNext_enum_end (I.ok.hd hc) he hit p.isList hx' λh' eb=>⟨rfl,?_⟩
  exact I.turns (t':=s.toks) (fp:=[e,it]) hf λb o hb q=>eb b o (by simp at hb;exact hb.2) q
 self:=λ_ _ _ _ _ st h=>let ⟨⟨_,he⟩,_⟩:=st;qff he h
theorem wG {P:qaY}{w:World}{K:qai}{elts:List Expr}{k:Nat}{pos:Pos} (a it e:Addr) (hei:e≠it) (hae:a≠e) (hai:a≠it) :
  zo P w K (.Tuple elts k pos) (Ite λH xs=>SqT K H a xs) [e,it] e (λi h=>(∃ old,IsEnum h e it i old)/\h.IsTupleIter it a i) where
 mem:=by simp
 obj:=λi h st b hb=>by
  rcases qay.mp hb with rfl|hb
  ·obtain⟨⟨old,q⟩,_⟩:=st
   exact⟨_,q,λv z=>by cases z⟩
  ·rw[qaI.mp hb]
   obtain⟨_,o,e,c,d⟩:=st
   exact⟨o,e,λv z=>by rw[d]at z;cases z⟩
 keep:=λi h h' st kk=>⟨let ⟨old,q⟩:=st.1;⟨old,kk e (by simp) _ q⟩,st.2.at λo q=>kk it (by simp) o q⟩
 item:=by
  intro X hP hw hK hc i pins s σ H E I hf st hg
  subst hP hw hK
  obtain⟨xs,x,hq,hx⟩:=hg
  obtain⟨its,rv,p,hz⟩:=I.tuple hq
  obtain⟨u,hu,ru⟩:=rv.get hx
  have W:=qgm (jv (prog:=X.prog) (w:=X.w) (A:=X.A.in1) (I.ok.hd hc) it a hai its.toArray) e hei (by simp[hei,qdi hae]) (by simp)
  have hi:i<its.toArray.size:=by
   have:=(qax.mp hu).1
   simpa using this
  obtain⟨⟨ol,he0⟩,hit0⟩:=st
  refine qi9 (jv (prog:=X.prog) (w:=X.w) (A:=X.A.in1) (I.ok.hd hc) it a hai its.toArray) he0 ⟨hit0,p⟩ hi hei (by simp[hei,qdi hae]) λy h1 t hy ho hs' ht hsz hk=>⟨_,rfl,?_⟩
  have hm:(λ(i:Nat) (T:Addr) (h:Heap)=>(∃ x,IsEnumOut h e it ((i:Int)+1) x T)/\_/\T≠e/\T≠it) i s.heap.objs.size h1:=⟨⟨_,ho⟩,hs',qbu (qao he0),qbu (let ⟨_,q,_⟩:=hit0;qao q)⟩
  have kk:∀ b o,b∉[e,it]->s.heap.get? b=some o->h1.get? b=some o:=λb o hb q=>hk b o (λz=>hb (by simp[z])) (λz=>hb (by simp[z])) q
  generalize eT:s.heap.objs.size=T at ht ho hm ⊢
  have hT:s.heap.objs.size<=T:=qej eT
  have etk:∃ tk,tk=t+1:=⟨_,rfl⟩
  obtain⟨tk,etk⟩:=etk
  rw[<-etk]
  have ey:y=u:=by
   have hy':its[i]?=some y:=by simpa using hy
   rw[hu]at hy'
   exact (qaS hy').symm
  subst ey
  refine W.go elts k pos i T _ _ _ hm λh2 hst kk2=>?_
  have nT:T∉[e,it]:=W.apart i T _ hm
  refine⟨.ref T,upd H T (.tup [.int i,x]),?_,rfl,⟨T,x,λys hy=>by rw[I.tuple_inj hy hq];exact hx,I.hok.fresh hT,rfl,rfl⟩,⟨hst.1,hst.2.1⟩,λb hb=>?_⟩
  ·have ht2:eF h2 T #[.int i t,y]:=⟨_,kk2 T _ nT ht,rfl,⟨_,rfl⟩,rfl⟩
   have I2:Inv X pins σ (upd H T (.tup [.int i,x])) { s with heap:=h2,toks:=tk }:=
    I.turnsT (fp:=[e,it]) (h':=h2) (t':=tk) (its:=#[.int i t,y]) hf (λb o hb q=>kk2 b o hb (kk b o hb q)) hT ht2 (.cons ⟨t,rfl⟩ (.cons ru .nil)) (by show 2<=qaO;decide)
   exact I2
  ·rw[aN (show b≠T from λz=>nT (z ▸ hb))]
   exact (hf b hb).1
 done:=by
  intro X hP hw hK hc i pins s σ H E I hf st hg
  subst hP hw hK
  obtain⟨xs,hq,hx⟩:=hg
  obtain⟨its,rv,p,hz⟩:=I.tuple hq
  have hl:=rv.length
  have W:=qgm (jv (prog:=X.prog) (w:=X.w) (A:=X.A.in1) (I.ok.hd hc) it a hai its.toArray) e hei (by simp[hei,qdi hae]) (by simp)
  have hi:i=its.toArray.size:=by simp;lia
  subst hi
  refine W.done s _ _ ⟨st.1,st.2,p⟩ λh' tk kk=>⟨rfl,I.turns (fp:=[e,it]) hf kk⟩
 self:=λ_ _ _ _ _ st h=>let ⟨⟨_,he⟩,_⟩:=st;qff he h
end L2
namespace L2
open PySem PySem.Spec PyProof.Rows
section
variable {X:Cx}
def EV (K:qai) (ta:TA):TI:=λσ H R=>ta σ H λvs H1=>∃ a,vs=[.ref a]/\(∃ xs,SqL K H1 a xs)/\R (Ite λH xs=>SqL K H a xs) H1
theorem AV {elts:List Expr}{k:Nat}{tpos:Pos}{a:Expr}{ta:TA}{p pos:Pos} (hg:Gl X "enumerate") (hm:X.mg "enumerate" = none) (ha:PA X [a] ta) (hs:qbP [a] X.env=[(false,eval a X.env)]:=by rfl) :
  PI X (.Tuple elts k tpos) (.Call (.Name "enumerate" p) [a] [] pos) (EV X.K ta):=by
 intro pins s σ H R I h
 refine Call_ (il I hg hm qmj (qb8 (thn (ha pos pins s σ H _ I h) λus s1 ⟨vs,H1,I1,r1,q1⟩=>?_) hs rfl))
 obtain⟨l,e,⟨xs,hq⟩,q⟩:=q1
 subst e
 cases r1 with
 |cons r rr=>
  cases rr
  cases r
  obtain⟨its,rv,p',hz⟩:=I1.list hq
  refine call_enumerate_list p'.isList λh' he hit hsz hk=>qff he ?_
  have hlt:l<s1.heap.objs.size:=by obtain⟨_,_,e,_⟩:=p';exact qao e
  refine⟨_,[s1.heap.objs.size+1,s1.heap.objs.size],_,_,H1,rfl,I1.kept (t':=s1.toks) hk,wN l s1.heap.objs.size (s1.heap.objs.size+1) (qj6 _) (qar (qa0 hlt)) (qar hlt),⟨⟨_,he⟩,hit⟩,λb hb=>?_,q⟩
  have hb':s1.heap.objs.size<=b:=by
   rcases qay.mp hb with e|hb
   ·rw[e];exact qc9 _
   ·rw[qaI.mp hb];exact qap _
  exact I1.fpOk hb' (I1.hok.fresh hb')
def Gp (K:qai) (ta:TA):TI:=λσ H R=>ta σ H λvs H1=>∃ a,vs=[.ref a]/\(∃ xs,SqT K H1 a xs)/\R (Ite λH xs=>SqT K H a xs) H1
theorem AF {elts:List Expr}{k:Nat}{tpos:Pos}{a:Expr}{ta:TA}{p pos:Pos} (hg:Gl X "enumerate") (hm:X.mg "enumerate" = none) (ha:PA X [a] ta) (hs:qbP [a] X.env=[(false,eval a X.env)]:=by rfl) :
  PI X (.Tuple elts k tpos) (.Call (.Name "enumerate" p) [a] [] pos) (Gp X.K ta):=by
 intro pins s σ H R I h
 refine Call_ (il I hg hm qmj (qb8 (thn (ha pos pins s σ H _ I h) λus s1 ⟨vs,H1,I1,r1,q1⟩=>?_) hs rfl))
 obtain⟨l,e,⟨xs,hq⟩,q⟩:=q1
 subst e
 cases r1 with
 |cons r rr=>
  cases rr
  cases r
  obtain⟨its,rv,p',hz⟩:=I1.tuple hq
  refine jE p' λh' he hit hsz hk=>qff he ?_
  have hlt:l<s1.heap.objs.size:=by obtain⟨_,e,_⟩:=p';exact qao e
  refine⟨_,[s1.heap.objs.size+1,s1.heap.objs.size],_,_,H1,rfl,I1.kept (t':=s1.toks) hk,wG l s1.heap.objs.size (s1.heap.objs.size+1) (qj6 _) (qar (qa0 hlt)) (qar hlt),⟨⟨_,he⟩,hit⟩,λb hb=>?_,q⟩
  have hb':s1.heap.objs.size<=b:=by
   rcases qay.mp hb with e|hb
   ·rw[e];exact qc9 _
   ·rw[qaI.mp hb];exact qap _
  exact I1.fpOk hb' (I1.hok.fresh hb')
theorem wW {ns:List Int}:∀ {us:List Value},aP (ns.map V.int) us->∃ xs:Array (Int×Tok),us.toArray=intItems xs/\xs.toList.map (·.1)=ns:=by
 induction ns with
 |nil=>intro us r;cases r;exact⟨#[],by simp[intItems],rfl⟩
 |cons n ns ih=>
  intro us r
  rw[qal]at r
  cases r with
  |cons r rr=>
   obtain⟨t,rfl⟩:=r
   obtain⟨xs,e,e2⟩:=ih rr
   refine⟨#[(n,t)]++xs,?_,by simp[e2]⟩
   apply qbg.mp
   have e':=congrArg qgG e
   simp[intItems]at e' ⊢
   exact e'
theorem A6:eV X (.builtin "sum") (λxs H Q=>X.calm=true/\∃ (a:Addr) (ns:List Int),xs=[.ref a]/\SqL X.K H a (ns.map V.int)/\Q (.int ns.sum) H):=by
 intro pins s σ H xs us Q I rv h
 obtain⟨hc,a,ns,rfl,hq,q⟩:=h
 cases rv with
 |cons r rr=>
  cases rr
  cases r
  obtain⟨its,rv,p,hz⟩:=I.list hq
  obtain⟨ps,e1,e2⟩:=wW rv
  have hl:=p.isList
  rw[e1]at hl
  refine sum_intListG (I.ok.hd hc) hl λh' tk t' hk=>?_
  refine⟨.int ns.sum,H,I.kept (t':=tk) hk,⟨t',?_⟩,q⟩
  rw[preSum_eq,qcD (by simp),e2]
end
def i6 (k:Nat) (js:List Nat) (σ:St):St:=qaV k none++js.map λj=>(σ[j]?).getD none
def HC (scope:Scope) (ns:List (Str×qck)) (N Nc:List Str) (k:Nat) (js:List Nat):Bool:=
 decide ((scope.names.map (·.1)).Nodup)&&decide Nc.Nodup&&decide (Nc.length=k+js.length) &&
 (scope.names.all λx=>x.2 != .free||ns.lookup x.1==some .cell||ns.lookup x.1==some .free) &&
 ((qaN js.length).all λi=>match Nc[k+i]?,js[i]? with|some x,some j=>N[j]?==some x&&scope.names.lookup x==some .free|_,_=>false)
theorem cL {X:Cx}{scope:Scope} (ns:List (Str×qck)) (N Nc:List Str) (k:Nat) (js:List Nat) (hns:X.env.scope.names=ns) (hN:X.N=N) (hk:scope.kind=.function) (h:HC scope ns N Nc k js=true):gG X scope Nc (i6 k js):=by
 unfold HC at h
 simp only[qbb,decide_eq_true_eq]at h
 obtain⟨⟨⟨⟨h1,h2⟩,h3⟩,h4⟩,h5⟩:=h
 refine⟨hk,h1,h2,λx hx hf=>?_,λσ _=>?_,λσ _ i x v e1 e2=>?_⟩
 ·have:=qaT.mp h4 x hx
  rw[hf]at this
  simp only[qds,beq_iff_eq,bne_self_eq_false,qaq,false_or]at this
  unfold qnn
  rw[hns]
  exact this
 ·unfold i6
  rw[qa4,qdo,qag,h3]
 ·unfold i6 at e2
  by_cases hi:i<k
  ·rw[qa2 (by simpa using hi),qdV,if_pos hi]at e2
   cases e2
  ·rw[qbi (by simpa using hi),qdo,qaZ]at e2
   cases ej:js[i - k]? with
   |none=>rw[ej]at e2;cases e2
   |some j=>
    rw[ej]at e2
    have hlt:=(qax.mp ej).1
    have:=qaT.mp h5 (i - k) (qbz.mpr hlt)
    rw[show k+(i - k)=i by lia,e1,ej]at this
    simp only[qbb,beq_iff_eq]at this
    refine⟨j,by rw[hN];exact this.1,?_,this.2⟩
    have e3:(σ[j]?).getD none=some v:=qaS e2
    cases eq:σ[j]? with
    |none=>rw[eq]at e3;cases e3
    |some o=>rw[eq]at e3;rw[show o=some v from e3]
def Hx (names ns:List (Str×qck)):List (Str×qck):=names.map λx=>if (x.2==NameKind.free&&ns.lookup x.1==some .cell) then (x.1,.cell) else x
theorem xB {X:Cx}{scope:Scope}{cells:List (Str×Addr)}{Nc:List Str}{s:qaj}{H:Hp}{C:Addr}{fp:List Addr}{ns:List (Str×qck)} (hk:X.env.scope.kind=.function) (hns:X.env.scope.names=ns) :
  (lcX X scope cells Nc s H C fp).env.scope.names=Hx scope.names ns:=by
 show (scope.names.map _)=_
 unfold Hx
 congr 1
 funext x
 obtain⟨n,k⟩:=x
 show (if (k==.free&&X.env.scope.kind==.function&&X.env.kindOf n==some .cell)=true then (n,NameKind.cell) else (n,k))=(if (k==.free&&ns.lookup n==some .cell)=true then (n,NameKind.cell) else (n,k))
 unfold qnn
 rw[hk,hns,show (ScopeKind.function==ScopeKind.function)=true from rfl,qkB]
section
variable {σe tl:St}{tt:TT}{te:TE}{H:Hp}{Q:VK}
end
section
variable {X:Cx}
theorem Dq:OpR X (qbT .Mult) (rI qh9 λi j=>.int (i*j)):=opI λ_ _ _ _ _ _ _ hc q=>mul_int q hc
end
theorem bL.new {H:Hp}{p:Addr} (h:H p=none) (o:HO):bL H (upd H p o):=λb u q=>by rw[aN (aO q h)];exact q
theorem iY {n:Nat} (h:n<=1000):n<=qaO:=qdt (zz h)
theorem p18:qC 10 18:=⟨by decide,by decide,by decide⟩
end L2
namespace L2
open PySem PySem.Spec PyProof.Rows
open PySem.AutoSeq1 (wpAny_loadPart')
theorem zZ (l:Addr) (items:Array Value) (n:Nat) (dct:Option Addr) (sl:Array (Option Value)) (u:Tok) :
  Meets (qcs.«tuple.__mul__» ⟨[.ref l,.int 1 u],[]⟩) (λ_ R s=>s.heap.get? l=some { cls:=.type "tuple",dict:=dct,data:=.seq items n,slots:=sl }/\R (.ok (.ret (.ref l))) s):=
 .of_wp λprog w A R s h=>by
  obtain⟨hp,g,d,tk,os⟩:=s;obtain⟨hl,h⟩:=h
  wp_walk using wpAny_loadPart' hl
  exact⟨_,rfl,h⟩
theorem yI (l:Addr) (items:Array Value) (n:Nat) (dct:Option Addr) (sl:Array (Option Value)) (x:Int) (u:Tok) (h2:2<=x) (h3:x<1000) (he:items.isEmpty=false) (hz:items.size<=1000)
  (hsz:((qaV x.toNat items).foldl (λx1 x2=>x1++x2) #[]).size<=qaO) :
  Meets (qcs.«tuple.__mul__» ⟨[.ref l,.int x u],[]⟩) (λ_ R s=>s.heap.get? l=some { cls:=.type "tuple",dict:=dct,data:=.seq items n,slots:=sl }/\
   R (.ok (.ret (.ref s.heap.objs.size))) { s with heap:=s.heap.push { cls:=.type "tuple",data:=.seq ((qaV x.toNat items).foldl (λx1 x2=>x1++x2) #[]) } }):=
 .of_wp λprog w A R s h=>by
  obtain⟨hp,g,d,tk,os⟩:=s;obtain⟨hl,h⟩:=h
  have c1:(x < -(2^63)||x>=2^63)=false:=by simp;lia
  have c2:(items.isEmpty||x==1)=false:=by rw[he];simp;lia
  have c3:(x<=0||items.isEmpty)=false:=by rw[he];simp;lia
  have hpr:(items.size:Int)*x<=1000000:=by
   have a1:(items.size:Int)*x<=1000*x:=Int.mul_le_mul_of_nonneg_right (by lia) (by lia)
   lia
  have c4:¬ ((items.size:Int)*x > (2^63 - 1) / 8):=by lia
  have c5:qfY ((items.size:Int)*x)=false:=by
   unfold qfY
   exact decide_eq_false (by have:(qaO:Nat)=16777216:=rfl
                             lia)
  wp_walk using wpAny_loadPart' hl
  refine qf3 (decide_eq_false (by rw[c1];exact qan)) ?_
  wp_walk using wpAny_loadPart' hl
  refine qf3 (decide_eq_false (by rw[c2];exact qan)) ?_
  wp_walk using wpAny_loadPart' hl
  refine qf3 (decide_eq_false (by rw[c3];exact qan)) ?_
  wp_walk using wpAny_loadPart' hl
  refine qf3 (decide_eq_false c4) ?_
  wp_walk using wpAny_loadPart' hl
  exact⟨_,rfl,h⟩
theorem mw:fillsNumberSlot (.type "tuple") "mul" = pure false:=
 PySem.fillsNumberSlot_seq (id:="tuple.__mul__") (r:=some (.builtin "tuple.__rmul__")) qfo.lookup (by decide +kernel) qki.lookup (by decide +kernel)
theorem sf:seqRepeat? (.type "tuple")=pure (some (.builtin "tuple.__mul__")):=by
 unfold seqRepeat?
 rw[qjC (T:="tuple") (name:="__mul__") (id:="tuple.__mul__") qfo.lookup (by decide +kernel),qjC (T:="tuple") (name:="__rmul__") (id:="tuple.__rmul__") qki.lookup (by decide +kernel)]
 rfl
theorem pJ (a:Int) (t:Tok) (l:Addr) (items:Array Value) (n:Nat) (dct:Option Addr) (sl:Array (Option Value)) :
  Meets (qcs.«int.__rmul__» ⟨[.int a t,.ref l],[]⟩) (λ_ R s=>s.heap.get? l=some { cls:=.type "tuple",dict:=dct,data:=.seq items n,slots:=sl }/\R (.ok (.ret Value.notImplemented)) s):=
 .of_wp λprog w A R s h=>by obtain⟨hp,g,d,tk,os⟩:=s;obtain⟨hl,h⟩:=h;wp_walk using wpAny_loadPart' hl;exact⟨_,rfl,h⟩
section
variable {X:Cx}
def GB (K:qai):R2:=λx y H Q=>∃ l k xs,x=.ref l/\y=.int k/\SqT K H l xs/\xs≠[]/\xs.length<=1000/\1<=k/\k<1000/\(k=1->Q (.ref l) H)/\
 (k≠1->∀ p,H p=none->Q (.ref p) (upd H p (.tup (qaV k.toNat xs).flatten)))
theorem Ci:OpR X (qbT .Mult) (GB X.K):=by
 intro pins s σ H x y v u Q I rx ry h
 obtain⟨l,k,xs,rfl,rfl,hq,hne,hl1,h1,h2,q1,q2⟩:=h
 cases rx
 obtain⟨t,rfl⟩:=ry
 obtain⟨its,rv,p,hz⟩:=I.tuple hq
 obtain⟨⟨c,dct,dt,sl⟩,e,hc,n,hd⟩:=p
 replace hc:c=.type "tuple":=hc
 replace hd:dt=.seq its.toArray n:=hd
 subst hc hd
 have hlen:=rv.length
 refine qiH (T:="tuple") (U:="int") (by decide) ⟨_,e,rfl⟩ (λs'=>qhs s' k t) mw qkT qfN sf qkz.lookup
  (qdI qfN (qhs s k t) qkA (qkk _ _) (pJ k t l its.toArray n dct sl) ⟨e,rfl,⟨_,e,rfl⟩,?_⟩)
 by_cases hk:k=1
 ·subst hk
  exact qdI qfo ⟨_,e,rfl⟩ qkj (qj7 _ _) (zZ l its.toArray n dct sl t) ⟨e,.ref l,H,I,rfl,q1 rfl⟩
 ·have f0:qfz (λx1 x2=>x1++x2) #[] (qaV k.toNat its.toArray)=(qaV k.toNat its).flatten.toArray:=by
   have:=mU its k.toNat []
   rw[qcX]at this
   exact this
  have hsz:(qaV k.toNat xs).flatten.length<=qaO:=by
   rw[sX]
   have:k.toNat*xs.length<=1000*1000:=qfU (by lia) hl1
   have hs:qaO=16777216:=rfl
   lia
  have hsz2:(qaV k.toNat its).flatten.length<=qaO:=by
   rw[sX]at hsz ⊢
   rw[<-hlen];exact hsz
  refine qdI qfo ⟨_,e,rfl⟩ qkj (qj7 _ _) (yI l its.toArray n dct sl k t (by lia) h2 ?_ (by rw[qat];lia) (by rw[f0,qat];exact hsz2)) ⟨e,?_⟩
  ·cases its with
   |nil=>cases xs with
    |nil=>exact absurd rfl hne
    |cons _ _=>cases hlen
   |cons _ _=>rfl
  ·rw[f0]
   refine⟨.ref _,_,I.laid (t':=s.toks) (o:=.tup (qaV k.toNat xs).flatten) (λ_ _ q=>qae _ q) (qap _) ⟨hsz,(qaV k.toNat its).flatten,rv.rep k.toNat,⟨_,qau _ rfl,rfl,⟨0,rfl⟩,rfl⟩⟩,rfl,q2 hk _ I.fresh⟩
end
end L2
namespace L2
open PySem PySem.Spec PyProof.Rows
section
variable {X:Cx}{K:qai}
theorem GH (hc:X.calm=true:=by rfl) (hK:X.K=K:=by rfl):eV X (.builtin "sum") (λxs H Q=>∃ (a:Addr) (ns:List Int),xs=[.ref a]/\SqL K H a (ns.map V.int)/\Q (.int ns.sum) H):=by
 subst hK
 intro pins s σ H xs us Q I rv h
 exact A6 pins s σ H xs us Q I rv ⟨hc,h⟩
end
section
variable {X:Cx}
end
theorem x6 {n j:Nat} (h:j<n):ixN n (j:Int)=some j:=by
 unfold ixN
 rw[if_pos (by lia),if_pos (by lia),qaK]
section
variable {X:Cx}{e:Expr}{ty:TE}{p1 p2 p3 p4 dpos apos cpos:Pos}{j1 j2 j3 j4:Nat}
end
end L2
namespace L2
open PySem PySem.Spec PyProof.Rows
open PySem.AutoSeq1 (wpAny_loadPart')
section
variable {prog:qaY}{w:World}{A:qa9}{E:Value->qaj->Prop}{s:qaj}
end
section
variable {X:Cx}
end
section
variable {prog:qaY}{w:World}{A:qa9}{E:Value->qaj->Prop}{s:qaj}
end
section
variable {X:Cx}{e:Expr}{te:TE}{p1 p2 p3 pos:Pos}{j:Nat}
end
end L2
namespace L2
open PySem PySem.Spec PyProof.Rows
theorem aP.at {xs:List V}{us:List Value} (r:aP xs us):∀ (j:Nat) (h:j<us.length) ,∃ h':j<xs.length,aW xs[j] us[j]:=by
 induction r with
 |nil=>intro j h;exact absurd h (qcq j)
 |cons a t ih=>
  intro j h
  cases j with
  |zero=>exact⟨Nat.zero_lt_succ _,a⟩
  |succ j=>
   obtain⟨h1,r1⟩:=ih j (qiy h)
   exact⟨Nat.succ_lt_succ h1,r1⟩
theorem pO (e:Nat->Bool) (n:Nat):(qaN (n+1)).all e=(e 0&&(qaN n).all λj=>e (j+1)):=by
 rw[qir,qbQ,qiD];rfl
section
variable {X:Cx}{K:qai}{pins:List (Addr×Obj)}{σ:St}{H:Hp}{s:qaj}{A:qa9}{a b:Addr}{xs ys:List V}
end
section
variable {X:Cx}{pos p1 p2:Pos}{j1 j2:Nat}
end
section
variable {K:qai}{H:Hp}
end
section
variable {X:Cx}{K:qai}
end
end L2
namespace HT
open PySem PySem.Spec PyProof.Rows L2
section
variable {prog:qaY}{w:World}{A:qa9}{E:Value->qaj->Prop}{s:qaj}
theorem getItem_tuple_all {t sl:Addr}{items:Array Value}{vl vu:Value}{lo hi:Option Int}{Q:Value->qaj->Prop} (ht:IsTup s.heap t items) (hs:s.heap.IsSliceOf sl vl vu .none) (pl:qhP vl lo) (pu:qhP vu hi)
  (hw:sIx items.size 0 lo=0/\sIx items.size items.size hi=items.size) (h:Q (.ref t) s):wpAny (model prog w) A (qf9 (.ref t) (.ref sl)) Q E s:=by
 obtain⟨os,hos,hcs,hds⟩:=id hs
 have hTs:s.TypeIs (.ref sl) "slice":=⟨os,hos,hcs⟩
 unfold qf9
 try with_reducible refine qbk ?_
 first|refine qaa (qab ?_)|skip
 refine qaa (qkC ht.typeIs (by decide) ?_)
 refine qaa (qbC (name:=qc3 "__getitem__") ht.typeIs qbW
  (qbd qbW ht.typeIs qke ?_ (qks _ _)))
 show wpAny _ _ (qfZ (.ref t) >>= _) _ _ s
 refine qaa (tupleItemsOf_ ht ?_)
 refine qaa (qf2 hTs ?_)
 rw[if_pos (by decide)]
 refine qaa (iq hs pl pu ?_)
 have hyes:(((sIx items.size 0 lo:Nat):Int)==0&&(1:Int)==1&&(sIx items.size items.size hi - sIx items.size 0 lo)==items.size)=true:=by
  rw[hw.1,hw.2]
  simp
 show wpAny _ _ (if (((sIx items.size 0 lo:Nat):Int)==0&&(1:Int)==1&&(sIx items.size items.size hi - sIx items.size 0 lo)==items.size)=true then _ else _) _ _ s
 rw[if_pos hyes]
 unfold qkU
 refine qaa (qaa (qf2 ht.typeIs (qab ?_)))
 show wpAny _ _ (if ((Value.type "tuple")==(Value.type "tuple"))=true then _ else _) _ _ s
 rw[if_pos (beq_self_eq_true _)]
 first
  |exact qaa (qdG (qab ⟨_,rfl,qab h⟩))
  |exact qaa (qaa (qdG (qab (qab ⟨_,rfl,qab h⟩))))
  |exact qaa (qdG (qaa (qab (qab ⟨_,rfl,qab h⟩))))
  |exact qaa (qdG (qaa (qab ⟨_,rfl,qab h⟩)))
end
end HT
namespace L2
open PySem PySem.Spec PyProof.Rows
def Gz (K:qai):V->Option Int->Option Int->Hp->VK->Prop:=λx lo hi H Q=>∃ a xs,x=.ref a/\SqT K H a xs/\
 ((¬ (HT.sIx xs.length 0 lo=0/\HT.sIx xs.length xs.length hi=xs.length)/\∀ p,H p=none->Q (.ref p) (upd H p (.tup (su xs lo hi))))\/
   ((HT.sIx xs.length 0 lo=0/\HT.sIx xs.length xs.length hi=xs.length)/\Q (.ref a) H))
theorem Gg {X:Cx}{K:qai} (hK:X.K=K:=by rfl):SlR X (Gz K):=by
 subst hK
 intro pins s σ H x v vl vu lo hi sl Q I rx hs pl pu h
 obtain⟨a,xs,rfl,hx,h⟩:=h
 rcases h with⟨hw,q⟩|⟨hw,q⟩
 ·exact FP pins s σ H _ v vl vu lo hi sl Q I rx hs pl pu ⟨a,xs,rfl,hx,hw,q⟩
 ·cases rx
  obtain⟨its,r,ht,hz⟩:=I.tuple hx
  have hlen:its.toArray.size=xs.length:=by rw[qat];exact r.length.symm
  refine⟨"tuple",_,qbW.lookup,ht.typeIs,?_⟩
  exact HT.getItem_tuple_all ht hs pl pu (by rw[hlen];exact hw) ⟨.ref a,H,I,rfl,q⟩
section
variable {X:Cx}{scope:Scope}{Nc:List Str}{emb:St->St}{elt iter tg:Expr}{ifs:List Expr}{pos:Pos}{wi:TI}{g:TG}{tt:TT}{te:TE}
theorem GZ {i0:Nat}{x0:Str}{py spos:Pos} (hN0:X.N.Nodup) (hi0:X.N[i0]?=some x0) (hx0:Loc X.env.scope x0) (S:gG X scope Nc emb) (hc:X.calm=true) (hi:PI X tg iter wi)
  (hg:∀ cells s H C fp,PG (lcX X scope cells Nc s H C fp) tg g) (ht:∀ cells s H C fp,PTs (lcX X scope cells Nc s H C fp) ifs tt) (he:∀ cells s H C fp,PE (lcX X scope cells Nc s H C fp) elt te)
  (hsw:qfg (.ListComp elt [⟨tg,iter,ifs,0⟩] scope pos) (some (.Name x0 py)) spos.line X.env=pure true:=by rfl)
  (hf0:X.fn x0=true\/X.env.scope.names.lookup x0=some .local:=by first|exact .inl rfl|exact .inr rfl|assumption)
  (hs:∀ x,qc8 iter X.env x=pure x:=by intro _;rfl):PS X (.Assign [.Name x0 py] (.ListComp elt [⟨tg,iter,ifs,0⟩] scope pos) spos) (FG (tLc emb wi g tt te) (uH i0)):=by
 intro pins s σ H DD I h
 rw[exec_Assign_Name_used _ _ _ _ hsw]
 refine qaa (qfq (qaa ?_))
 show wpAny _ X.A (do let _ <-comprehension (.ListComp elt [⟨tg,iter,ifs,0⟩] scope pos) scope X.env _ (ql4 []) false (eval iter X.env) (some (qgC (.Name x0 py) X.env))) _ _ s
 refine qaa (qcG (qiW (use:=some (qgC (.Name x0 py) X.env)) (Q:=λ_ s'=>SP X pins DD .next s') rfl hs (kA (S.clos I.ok)) S.kind (λx hx hl=>fU S.nd (by rw[<-hl];exact hx)) ?_) (λ_ s' hq=>qab (qab hq)) λ_ _ e=>e)
 refine thn (hi pins s σ H _ I h) λv s1 h1=>thn h1 λitv s2 h2=>?_
 obtain⟨it,fp,tn,J,H2,e,I2,T,st2,f2,W,⟨m0,w0⟩,turn⟩:=h2
 subst e
 refine qbh (lD ?_)
 rw[show (s2.heap.push { cls:=.type "list",dict:=none,data:=.seq ([]:List Value).toArray }).objs.size=s2.heap.objs.size+1 from qbK ..]
 generalize hD:s2.heap.objs.size=D
 generalize hlo:({ cls:=.type "list",dict:=none,data:=.seq ([]:List Value).toArray }:Obj)=lo
 have fplt:∀ b∈fp,b<s2.heap.objs.size:=λb hb=>by obtain⟨o,e,_⟩:=T.obj _ _ st2 b hb;exact qao e
 have I3:=ul (lo:=lo) S I2 f2 (λb hb=>by obtain⟨o,e,_⟩:=T.obj _ _ st2 b hb;exact⟨o,e⟩) (by rw[<-hlo];intro v z;cases z) (by rw[<-hlo];rfl)
 rw[hD]at I3
 generalize hcells:qcm (D+2) scope.names (cb X.env.cells scope.names [])=cells at I3
 generalize hX':lcX X scope cells Nc s2 H2 (D+1) fp=X' at I3
 have hfpX:∀ {H':Hp}{ps:List (Addr×Obj)},(∀ b∈fp,H' b=none)->(∀ p∈ps,p.1=D)->∀ b∈fp,j9 X' ps H' b:=λ{H' ps} hn hps b hb=>by
  have ok:=I3.ok
  refine⟨hn b hb,?_,?_,.inl (by rw[<-hX'];exact hb),?_,λp hp=>?_⟩
  ·exact (ok.exf b (by rw[<-hX'];exact hb)).1
  ·exact ok.exfs b (by rw[<-hX'];exact hb)
  ·exact (ok.exf b (by rw[<-hX'];exact hb)).2
  ·have hp':p∈([]:List (Addr×Obj))++ps:=by rw[<-hX']at hp;exact hp
   have e:p.1=D:=hps p (by simpa using hp')
   rw[e,<-hD]
   exact qbu (fplt b hb)
 have Dex:D∈X'.ex\/X'.s₀.heap.objs.size<=D:=.inr (by rw[<-hX',<-hD];exact qap _)
 have Dloc:D≠X'.env.locals:=by rw[<-hX'];exact qar (qb7 _)
 have pD:=I3.pin (D,lo) (by rw[<-hX'];exact qav _ qak)
 have Dfs:D∉X'.fs:=pD.2.2.2.1
 have Dcell:∀ x c,X'.env.cells.lookup x=some c->c≠D:=λx c hc' e=>by
  obtain⟨v,o,ho,hd⟩:=I3.cell x c hc'
  rw[e,pD.1]at ho
  cases ho
  exact pD.2.2.2.2 v hd
 -- the loop
 have loop:∀ s3:qaj,s3={ s2 with heap:=qf7 ((s2.heap.push lo).push { cls:=.type "dict",data:=.dict #[] }) scope.names }->
   qgb (model X.prog X.w) X.A (.compLoop (.ListComp elt [⟨tg,iter,ifs,0⟩] scope pos) 0 (.ref it) (.ref D) (qji scope cells (D+1) X.env))
    (compPost (model X.prog X.w) X.A X.xe (some (qgC (.Name x0 py) X.env)) (λ_ s'=>SP X pins DD .next s') (.ref D) (D+1)) s3:=by
  rintro s3 rfl
  refine eW (λn s'=>∃ i ys its k H',Inv X' [(D,{ cls:=.type "list",data:=.seq its.toArray k })] (emb σ) H' s'/\aP ys its/\tn i s'.heap/\(∀ b∈fp,H' b=none)/\ys.length<=qaO/\W i n ys H') ?_ m0
   ⟨0,[],[],0,H2,?_,.nil,?_,λb hb=>(f2 b hb).1,qaW _,w0⟩
  ·rintro n s4 ⟨i,ys,its,k,H4,I4,rv,st4,fr4,hlen,w4⟩
   have hps:∀ p∈[(D,({ cls:=.type "list",data:=.seq its.toArray k }:Obj))],p.1=D:=λp hp=>by
    have:=qaI.mp hp
    rw[this]
   rcases turn i n ys H4 w4 with⟨stop,qn⟩|⟨go,hlt,N,hN,step⟩
   ·-- the end
    have TD:=T.done X' (by rw[<-hX'];rfl) (by rw[<-hX'];rfl) (by rw[<-hX'];rfl) (by rw[<-hX'];exact hc) i _ s4 (emb σ) H4 (λ_ _=>False) I4 (hfpX fr4 hps) st4 stop
    rw[show X'.A=X.A by rw[<-hX'];rfl]at TD
    refine thn TD λr s5 ⟨hr,I5⟩=>?_
    subst hr
    obtain⟨m5,hn5,_⟩:=id I5.loc
    have eC:X'.env.locals=D+1:=by rw[<-hX'];rfl
    rw[eC]at hn5
    suffices inv5:∀ h',qbm (D+1) s5.heap h'->Inv X pins σ (upd H4 D (.lst ys)) { s5 with heap:=h' } by
     have I5X:Inv X pins σ (upd H4 D (.lst ys)) s5:=inv5 s5.heap ⟨rfl,λ_ _=>rfl⟩
     have hD4':H4 D=none:=(I5.pin (D,{ cls:=.type "list",data:=.seq its.toArray k }) (by rw[<-hX'];exact qav _ qak)).2.1
     have hC4:upd H4 D (.lst ys) (D+1)=none:=by
      have:=I5.free
      rw[eC]at this
      rw[aN (qbu (qb7 D))]
      exact this
     have fpC:∀ b∈[D+1],j9 X pins (upd H4 D (.lst ys)) b:=λb hb=>by
      have e:=qaI.mp hb
      subst e
      exact I2.fpOk (by rw[hD];exact qc9 D) hC4
     obtain⟨oC,esC,epC,getC,datC,relC⟩:=id hn5
     have I5p:=I5X.pinned fpC λb hb=>by
      have e:=qaI.mp hb
      subst e
      exact⟨oC,getC,λv z=>by rw[datC]at z;cases z⟩
     refine qkF (jo I5p hN0 hi0 hx0 (v:=.ref D) rfl (λs6 I6=>?_) hf0)
     have pC:=(I6.pin (D+1,oC) (qav _ (qav _ (dJ qak getC)))).1
     refine⟨m5,⟨oC,esC,epC,pC,datC,relC⟩,λh' hsb=>?_⟩
     have I6u:=I6.unpinned
     exact⟨_,_,I6u.turns (t':=s6.toks) fpC (λb o hb e=>(hsb.2 b (λz=>hb (by rw[z];exact qak))).trans e),qn D hD4'⟩
    intro h' hsb
    have pD5:=I5.pin (D,{ cls:=.type "list",data:=.seq its.toArray k }) (by rw[<-hX'];exact qav _ qak)
    have neC:∀ b u,H4 b=some u->b≠D+1:=λb u e z=>by
     have:=I5.free
     rw[eC,<-z,e]at this
     cases this
    have hD4:H4 D=none:=pD5.2.1
    have un:=I5.base
    have un':Un (frs X.stack) fp H2 H4 s2.heap s5.heap:=by rw[<-hX']at un;exact un
    have old_ne:∀ b o,s2.heap.get? b=some o->b≠D/\b≠D+1:=λb o e=>by
     have q:=qao e
     rw[hD]at q
     exact⟨qar q,qar (qa0 q)⟩
    have h2D:H2 D=none:=by rw[<-hD];exact I2.fresh
    have hok':HOk X.prog X.w H4 h':=λb u e=>by
     have ob:cq X.prog X.w H4 s5.heap b u:=by have:=I5.hok b u e;rw[<-hX']at this;exact this
     refine ob.stay (λc v hcv q=>(hsb.2 c ?_).trans q) (λ_ q=>q) λ_ _ q=>q
     rcases hcv with z|z
     ·rw[z];exact neC b u e
     ·exact neC c _ z
    have hokD:HOk X.prog X.w (upd H4 D (.lst ys)) h':=λb u e=>by
     by_cases hb:b=D
     ·subst hb
      rw[bj]at e
      cases e
      exact⟨hlen,its,k,rv,(hsb.2 b (qar (qb7 _))).trans pD5.1⟩
     ·rw[aN hb]at e
      refine (hok' b u e).stay (λ_ _ _ q=>q) (λc q=>?_) λc z q=>?_
      all_goals first
       |(rw[aN (aO q hD4)];exact q)
       |(rw[aN (aO z hD4)];exact z)
    refine I2.call' (s':={ s5 with heap:=h' }) (ch:=fp) ?_ ⟨λb o e nb hb hx=>?_,λb o e nb hb hx=>?_,λb o e nb hx=>?_,λb o e hx=>?_,λb xs e=>?_,λb o u e=>?_,λb ps e=>?_⟩ hokD I5.bare (λb hb=>?_)
    ·have:=I5.os
     rw[<-hX']at this
     exact this
    ·exact (hsb.2 b (old_ne b o e).2).trans (un'.keep b o e nb hb hx)
    ·obtain⟨sl,q⟩:=un'.slot b o e nb hb hx
     exact⟨sl,(hsb.2 b (old_ne b o e).2).trans q⟩
    ·rw[aN (old_ne b o e).1]
     exact un'.free b o e nb hx
    ·obtain⟨o',q⟩:=un'.there b o e hx
     exact⟨o',(hsb.2 b (old_ne b o e).2).trans q⟩
    ·rw[aN (aO e h2D)]
     exact un'.tups b xs e
    ·rw[aN (aO e h2D)]
     exact un'.frzs b o u e
    ·obtain⟨m,q⟩:=un'.tbls b ps e
     exact⟨m,by rw[aN (aO e h2D)];exact q⟩
    ·obtain⟨q0,q1,q2,q3,q4,q5⟩:=f2 b hb
     exact⟨q3,q1,q4,q5⟩
   ·-- a turn
    have hA:X'.A=X.A:=by rw[<-hX'];rfl
    have hP:X'.prog=X.prog:=by rw[<-hX'];rfl
    have hw:X'.w=X.w:=by rw[<-hX'];rfl
    have hE:X'.env=qji scope cells (D+1) X.env:=by rw[<-hX'];rfl
    have hxe:X'.xe=λ_ _=>False:=by rw[<-hX'];rfl
    have TI':=T.item X' hP hw (by rw[<-hX'];rfl) (by rw[<-hX'];exact hc) i _ s4 (emb σ) H4 (λ_ _=>False) I4 (hfpX fr4 hps) st4 go
    rw[hA]at TI'
    refine thn TI' λr s5 ⟨u,hr,h5⟩=>?_
    subst hr
    refine thn h5 λ_ s6 ⟨x,H6,I6,r6,y6,st6,fr6⟩=>?_
    have I6':=I6.pinned (hfpX fr6 hps) (T.obj _ _ st6)
    have G:=hg cells s2 H2 (D+1) fp
    have TT':=ht cells s2 H2 (D+1) fp
    have EE:=he cells s2 H2 (D+1) fp
    rw[hX']at G TT' EE
    have G':=G _ s6 (emb σ) H6 x u _ I6' r6 (step x H6 y6)
    rw[hA,hP,hw,hE,hxe]at G'
    refine thn G' λ_ s7 ⟨σ7,H7,I7,sb7,q7⟩=>?_
    have T':=TT' _ s7 σ7 H7 _ I7 q7
    rw[hA,hP,hw,hE,hxe]at T'
    refine thn T' λok s8 ⟨H8,I8,q8⟩=>?_
    -- what is pinned
    have pin_fp:∀ {σ9:St}{H9:Hp}{s9:qaj},Inv X' ([(D,({ cls:=.type "list",data:=.seq its.toArray k }:Obj))]++mN fp s6.heap) σ9 H9 s9->tn (i+1) s9.heap/\∀ b∈fp,H9 b=none:=λ{σ9 H9 s9} I9=>
     ⟨T.keep _ _ _ st6 λb hb o e=>(I9.pin (b,o) (qav _ (qav _ (dJ hb e)))).1,λb hb=>by
      obtain⟨o,e,_⟩:=T.obj _ _ st6 b hb
      exact (I9.pin (b,o) (qav _ (qav _ (dJ hb e)))).2.1⟩
    cases ok with
    |false=>
     rw[if_neg (by decide)]at q8
     rw[if_neg (by decide)]
     obtain⟨m',hm,w8⟩:=hN _ _ q8
     exact⟨m',hm,i+1,ys,its,k,H8,I8.unpinned.weak sb7.1 sb7.2,rv,(pin_fp I8).1,(pin_fp I8).2,hlen,w8⟩
    |true=>
     rw[if_pos rfl]at q8
     rw[if_pos rfl]
     have E':=EE _ s8 σ7 H8 _ I8 q8
     rw[hA,hP,hw,hE,hxe]at E'
     refine thn E' λy s9 ⟨v9,H9,I9,r9,n9⟩=>?_
     obtain⟨m',hm,w9⟩:=hN _ _ n9
     have pD9:=I9.pin (D,{ cls:=.type "list",data:=.seq its.toArray k }) (qav _ (qct _ qak))
     have hl:=rv.length
     have I9n:Inv X' [] σ7 H9 s9:=I9.pins_of λp hp=>nomatch hp
     refine qdI qgP ⟨_,pD9.1,rfl⟩ qgz (qgi _ _) (qgv D its.toArray k y (by rw[qat];lia)) ⟨pD9.1,?_⟩
     have up:∃ k':Nat,(s9.heap.update D (qce λxs=>xs.push y)).get? D=some { cls:=.type "list",data:=.seq (its++[y]).toArray k' }:=by
      have q:=qgd pD9.1 (λxs:Array Value=>xs.push y)
      simp only[qjH]at q
      exact⟨_,q⟩
     obtain⟨k',up⟩:=up
     have hoth:∀ b o,b≠D->s9.heap.get? b=some o->(s9.heap.update D (qce λxs=>xs.push y)).get? b=some o:=λb o hb e=>(qd7 s9.heap _ (qdi hb)).trans e
     have I10:=I9n.turned (t':=s9.toks) hoth pD9.2.1 Dloc Dex Dcell (λp hp=>absurd (show p∈([]:List (Addr×Obj)) by rw[<-hX']at hp;exact hp) (by simp))
     refine⟨m',hm,i+1,ys++[v9],its++[y],k',H9,(I10.weak sb7.1 sb7.2).pins_of (λp hp=>?_),rv.append (.cons r9 .nil),T.keep _ _ _ (pin_fp I9).1 (λb hb o e=>hoth b o (by rw[<-hD];exact qar (fplt b hb)) e),(pin_fp I9).2,?_,w9⟩
     ·have:=qaI.mp hp
      subst this
      exact⟨up,pD9.2.1,Dloc,Dfs,λv z=>by cases z⟩
     ·rw[qa4,qfm]
      lia
  ·have q:lo={ cls:=.type "list",data:=.seq ([]:List Value).toArray 0 }:=hlo.symm
   rw[<-q]
   exact I3
  ·exact T.keep _ _ _ st2 λb hb o e=>qdB _ _ b o (qae _ (qae _ e))
 refine qjA ?_ ?_
 ·exact loop _ rfl
 ·refine T.self X.A 0 _ _ _ (T.keep _ _ _ st2 λb hb o e=>qdB _ _ b o (qae _ (qae _ e))) ?_
  exact loop _ rfl
end
def aU:Expr->Bool
 |.Starred _ _=>false
 |_=>true
theorem bv {e:Expr}{es:List Expr}{env:Env} (h:aU e=true):qbP (e::es) env=(false,eval e env)::qbP es env:=by
 cases e<;>first|(cases h;done)|rfl
theorem cH {pos:Pos}{env:Env}:∀ {es:List Expr},es.all aU=true->(qes pos (qbP es env)).any (·.1)=false
 |[],_=>by simp[qbP,qes]
 |e::es,h=>by
  rw[qbQ,qbb]at h
  rw[bv h.1]
  have:=cH (pos:=pos) (env:=env) h.2
  unfold qes at this ⊢
  rw[qal,qcw,this]
  rfl
theorem Aa {pos:Pos}{env:Env}{es:List Expr} (h:es.all aU=true) (hl:es.length < 30):((qes pos (qbP es env)).all (λx=>!x.1) && (qjk pos (qgI [] env)).all (λx=>x.1.isSome)
   && decide (es.length+([]:List qit).length+(if ([]:List qit).isEmpty then 0 else 1)<30))=true:=by
 have h1:(qes pos (qbP es env)).all (λx=>!x.1)=true:=by
  have:=cH (pos:=pos) (env:=env) h
  rw[qaT]
  intro x hx
  rw[qjJ]at this
  simpa using this x hx
 have h2:(qjk pos (qgI [] env)).all (λx=>x.1.isSome)=true:=by simp[qgI,qjk]
 rw[h1,h2]
 simpa using hl
theorem oE {e:Expr}{env:Env} (h:aU e=true):qbP [e] env=[(false,eval e env)]:=by rw[bv h];rfl
def BL:Expr->Bool
 |.UnaryOp .Not _ _=>false
 |.BoolOp _ _ _=>false
 |.IfExp _ _ _ _=>false
 |.Compare _ _ _ _=>false
 |_=>true
theorem yG {a:Expr}{env:Env} (h:BL a=true):∀ whole,PySem.isTrue a env whole=(do let v <-whole;qlW a.pos;qfu [v] (truthy v)):=by
 intro whole
 cases a with
 |UnaryOp op x p=>cases op<;>first|(cases h;done)|rfl
 |BoolOp _ _ _=>cases h
 |IfExp _ _ _ _=>cases h
 |Compare _ _ _ _=>cases h
 |_=>rfl
theorem oA {t:Expr}{ts:List Expr}{env:Env} (h:aU t=true):qcd (t::ts) env=(false,qgC t env)::qcd ts env:=by
 cases t<;>first|(cases h;done)|rfl
theorem tD {env:Env}:∀ {ts:List Expr},ts.all aU=true->(qcd ts env).length=ts.length
 |[],_=>by simp[qcd]
 |t::ts,h=>by
  rw[qbQ,qbb]at h
  rw[oA h.1,qam,tD h.2,qam]
theorem oU {env:Env}:∀ {ts:List Expr},ts.all aU=true->(qcd ts env).findIdx? (·.1)=none
 |[],_=>by simp[qcd]
 |t::ts,h=>by
  rw[qbQ,qbb]at h
  rw[oA h.1,List.findIdx?_cons,oU h.2]
  rfl
theorem ym {t:Expr}{ts:List Expr}{env:Env} (h:aU t=true):(qcd (t::ts) env).map (·.2)=qgC t env::(qcd ts env).map (·.2):=by rw[oA h];rfl
theorem tU {t:Expr}{env:Env} (h:aU t=true):(qcd [t] env).map (·.2)=[qgC t env]:=by rw[ym h];simp[qcd]
def mE:Expr->Bool
 |.Slice _ _ _ _=>false
 |_=>true
theorem xq {o i:Expr}{pos:Pos}{env:Env} (h:mE i=true) (v:Value):qgC (.Subscript o i pos) env v=(do
   let ov <-qfu [v] (eval o env)
   let iv <-qfu [v,ov] (eval i env)
   qlW pos
   qfu [v,ov,iv] (ql1 ov iv v)
   release [v,ov,iv] []):=by
 cases i<;>first|(cases h;done)|rfl
theorem uF {i:Expr} (h:mE i=true):yg i:=by
 intro o j
 cases i<;>first|(cases h;done)|rfl
inductive D where
 |non|bl (b:Bool)|int (i:Int)|str (x:Str)|ty (n:String)|dct|scr (ns:List Int)|tup (ds:List D)|lst (ds:List D)
 deriving Inhabited
inductive W where
 |d (x:D)|h (n:Nat)
 deriving Inhabited
inductive C where
 |l (ds:List D)|n (ws:List W)|m (kvs:List (List Int×D))|k (kvs:List (Int×D))
 deriving Inhabited
abbrev Sto:=List C
def lg (st:Sto) (n:Nat):Option (List D):=match st[n]? with
 |some (.l ds)=>some ds
 |_=>none
def h9 (l:List Int):List Key:=l.map Sum.inl
abbrev Ev:=List (Option W)
def KLs (K:qai) (a:Addr) (xs:List V):Prop:=
 ∃ (o:Obj) (its:Array Value) (n:Nat),K.lookup a=some o/\o.cls=.type "list"/\o.dict=none/\o.data=.seq its n/\its.size<=qaO/\aP xs its.toList
section
variable (K:qai) (H:Hp) (φ:List Addr)
mutual
def Rl:D->V->Prop
 |.non,v=>v=.non
 |.bl b,v=>v=.bl b
 |.int i,v=>v=.int i
 |.str x,v=>v=.str x
 |.ty n,v=>v=.ty n
 |.dct,v=>∃ a,v=.ref a/\a∉φ/\((∃ d,H a=some (.dK d))\/∃ d,H a=some (.dT d))
 |.scr ns,v=>∃ a,v=.ref a/\((∃ o,H a=some (.frz o (.lst (ns.map V.int))))\/KLs K a (ns.map V.int))
 |.tup ds,v=>∃ a vs,v=.ref a/\H a=some (.tup vs)/\Rls ds vs
 |.lst ds,v=>∃ a vs,v=.ref a/\a∉φ/\Rd H a (.lst vs)/\Rls ds vs
def Rls:List D->List V->Prop
 |[],vs=>vs=[]
 |d::ds,vs=>∃ v r,vs=v::r/\Rl d v/\Rls ds r
end
def Rw:W->V->Prop
 |.d x,v=>Rl K H φ x v
 |.h n,v=>∃ a,φ[n]?=some a/\v=.ref a
def Rws:List W->List V->Prop
 |[],vs=>vs=[]
 |d::ds,vs=>∃ v r,vs=v::r/\Rw K H φ d v/\Rws ds r
def Rkv:List (List Int×D)->List (List Key×V)->Prop
 |[],vs=>vs=[]
 |(k,d)::ds,vs=>∃ v r,vs=(h9 k,v)::r/\Rl K H φ d v/\Rkv ds r
def Rkk:List (Int×D)->List (Key×V)->Prop
 |[],vs=>vs=[]
 |(k,d)::ds,vs=>∃ v r,vs=(Sum.inl k,v)::r/\Rl K H φ d v/\Rkk ds r
def Rc (k:Nat) (a:Addr):C->Prop
 |.l ds=>∃ vs,H a=some (.lst vs)/\Rls K H φ ds vs
 |.n ws=>∃ vs,H a=some (.lst vs)/\Rws K H φ ws vs/\∀ m,W.h m∈ws->m<k
 |.m kvs=>∃ vs,H a=some (.dT vs)/\Rkv K H φ kvs vs
 |.k kvs=>∃ vs,H a=some (.dK vs)/\Rkk K H φ kvs vs
structure Sr (st:Sto):Prop where
 nd:φ.Nodup
 len:φ.length=st.length
 at_:∀ (n:Nat) a c,φ[n]?=some a->st[n]?=some c->Rc K H φ n a c
structure Er (env:Ev) (σ:St):Prop where
 len:env.length=σ.length
 at_:∀ (i:Nat) w,env[i]?=some (some w)->∃ v,σ[i]?=some (some v)/\Rw K H φ w v
end
structure Fw (φ φ':List Addr) (H H':Hp):Prop where
 ext:∃ ψ,φ'=φ++ψ/\∀ a∈ψ,H a=none
 keep:∀ b o,b∉φ->H b=some o->H' b=some o
 there:∀ b o,H b=some o->∃ o',H' b=some o'
section
variable {K:qai}{H H1 H2 H':Hp}{φ φ1 φ2 φ':List Addr}{st st':Sto}
theorem Fw.refl (φ:List Addr) (H:Hp):Fw φ φ H H:=⟨⟨[],by simp,by simp⟩,λ_ _ _ h=>h,λ_ o h=>⟨o,h⟩⟩
theorem Fw.trans (a:Fw φ φ1 H H1) (b:Fw φ1 φ2 H1 H2):Fw φ φ2 H H2:=by
 obtain⟨ψ,rfl,e1⟩:=a.ext
 obtain⟨ψ2,rfl,e2⟩:=b.ext
 refine⟨⟨ψ++ψ2,by rw[qca],λc hc=>?_⟩,λc o hc h=>?_,λc o h=>?_⟩
 ·rcases qbo.mp hc with z|z
  ·exact e1 c z
  ·cases q:H c with
   |none=>rfl
   |some o=>
    obtain⟨o',q'⟩:=a.there c o q
    rw[e2 c z]at q';cases q'
 ·refine b.keep c o (λz=>?_) (a.keep c o hc h)
  rcases qbo.mp z with z|z
  ·exact hc z
  ·rw[e1 c z]at h;cases h
 ·obtain⟨o',q⟩:=a.there c o h
  exact b.there c o' q
theorem Fw.same (s:bL H H'):Fw φ φ H H':=⟨⟨[],by simp,by simp⟩,λb o _ h=>s b o h,λb o h=>⟨o,s b o h⟩⟩
theorem Fw.new {p:Addr}{o:HO} (hp:H p=none):Fw φ φ H (upd H p o):=.same (bL.new hp o)
theorem Fw.get (f:Fw φ φ' H H') {n:Nat}{a:Addr} (h:φ[n]?=some a):φ'[n]?=some a:=by
 obtain⟨ψ,rfl,_⟩:=f.ext
 rw[qa2 (qax.mp h).1];exact h
theorem Fw.nin (f:Fw φ φ' H H') {a:Addr}{o:HO} (h:a∉φ) (q:H a=some o):a∉φ':=by
 obtain⟨ψ,rfl,e⟩:=f.ext
 intro z
 rcases qbo.mp z with z|z
 ·exact h z
 ·rw[e a z]at q;cases q
def GG:HO->Bool
 |.lst _=>true
 |.dT _=>true
 |.dK _=>true
 |_=>false
theorem Rc.ob {k:Nat}{a:Addr}{c:C} (h:Rc K H φ k a c):∃ o,H a=some o/\GG o=true:=by
 cases c with
 |l ds=>obtain⟨vs,q,_⟩:=h;exact⟨_,q,rfl⟩
 |n ds=>obtain⟨vs,q,_⟩:=h;exact⟨_,q,rfl⟩
 |m ds=>obtain⟨vs,q,_⟩:=h;exact⟨_,q,rfl⟩
 |k ds=>obtain⟨vs,q,_⟩:=h;exact⟨_,q,rfl⟩
theorem Sr.lst (S:Sr K H φ st) {a:Addr} (h:a∈φ):∃ o,H a=some o/\GG o=true:=by
 obtain⟨n,hn,e⟩:=qdz.mp h
 have hs:n<st.length:=by rw[<-S.len];exact hn
 exact (S.at_ n a st[n] (by rw[qaE hn,e]) (by rw[qaE hs])).ob
theorem xS {st:Sto}{n:Nat}{ds:List D} (h:lg st n=some ds):st[n]?=some (.l ds):=by
 unfold lg at h
 split at h
 ·rename_i q;cases h;exact q
 ·cases h
theorem Sr.atl (S:Sr K H φ st) (n:Nat) (a:Addr) (ds:List D) (e1:φ[n]?=some a) (e2:lg st n=some ds):∃ vs,H a=some (.lst vs)/\Rls K H φ ds vs:=S.at_ n a _ e1 (xS e2)
theorem Sr.nin (S:Sr K H φ st) {a:Addr} (h:H a=none):a∉φ:=λz=>by
 obtain⟨vs,q,_⟩:=S.lst z
 rw[q]at h;cases h
theorem Rd.nin (S:Sr K H φ st) {a:Addr}{vs:List V} (h:Rd H a (.tup vs)):a∉φ:=λz=>by
 obtain⟨ws,q,qm⟩:=S.lst z
 rcases h with h|⟨o,h⟩<;>(rw[q]at h;cases h;cases qm)
theorem Rd.fw (f:Fw φ φ' H H') {a:Addr}{u:HO} (hn:a∉φ) (h:Rd H a u):Rd H' a u:=by
 rcases h with h|⟨o,h⟩
 ·exact .inl (f.keep _ _ hn h)
 ·exact .inr ⟨o,f.keep _ _ hn h⟩
theorem SqT.fw (S:Sr K H φ st) (f:Fw φ φ' H H') {a:Addr}{vs:List V} (h:SqT K H a vs):SqT K H' a vs:=by
 rcases h with h|h
 ·exact .inl (f.keep _ _ (Rd.nin S (.inl h)) h)
 ·exact .inr h
theorem Rd.some {a:Addr}{u:HO} (h:Rd H a u):∃ o,H a=some o:=by
 rcases h with h|⟨o,h⟩
 ·exact⟨_,h⟩
 ·exact⟨_,h⟩
mutual
theorem Rl.fw (S:Sr K H φ st) (f:Fw φ φ' H H'):∀ {d:D}{v:V},Rl K H φ d v->Rl K H' φ' d v
 |.non,_,h=>h
 |.bl _,_,h=>h
 |.int _,_,h=>h
 |.str _,_,h=>h
 |.ty _,_,h=>h
 |.dct,_,h=>by
  obtain⟨a,rfl,hn,h⟩:=h
  rcases h with⟨d,h⟩|⟨d,h⟩
  ·exact⟨a,rfl,f.nin hn h,.inl ⟨d,f.keep _ _ hn h⟩⟩
  ·exact⟨a,rfl,f.nin hn h,.inr ⟨d,f.keep _ _ hn h⟩⟩
 |.scr ns,_,h=>by
  obtain⟨a,rfl,h⟩:=h
  refine⟨a,rfl,?_⟩
  rcases h with⟨o,h⟩|h
  ·refine .inl ⟨o,f.keep _ _ (λz=>?_) h⟩
   obtain⟨ws,q,qm⟩:=S.lst z
   rw[q]at h;cases h;cases qm
  ·exact .inr h
 |.tup ds,_,h=>by
  obtain⟨a,vs,rfl,h1,h2⟩:=h
  exact⟨a,vs,rfl,f.keep _ _ (Rd.nin S (.inl h1)) h1,Rls.fw S f h2⟩
 |.lst ds,_,h=>by
  obtain⟨a,vs,rfl,h0,h1,h2⟩:=h
  obtain⟨o,e⟩:=h1.some
  exact⟨a,vs,rfl,f.nin h0 e,h1.fw f h0,Rls.fw S f h2⟩
theorem Rls.fw (S:Sr K H φ st) (f:Fw φ φ' H H'):∀ {ds:List D}{vs:List V},Rls K H φ ds vs->Rls K H' φ' ds vs
 |[],_,h=>h
 |d::ds,_,h=>by
  obtain⟨v,r,rfl,h1,h2⟩:=h
  exact⟨v,r,rfl,Rl.fw S f h1,Rls.fw S f h2⟩
end
theorem Rw.fw (S:Sr K H φ st) (f:Fw φ φ' H H') {w:W}{v:V} (h:Rw K H φ w v):Rw K H' φ' w v:=by
 cases w with
 |d x=>exact Rl.fw S f h
 |h n=>obtain⟨a,e,rfl⟩:=h;exact⟨a,f.get e,rfl⟩
theorem Rws.fw (S:Sr K H φ st) (f:Fw φ φ' H H'):∀ {ws:List W}{vs:List V},Rws K H φ ws vs->Rws K H' φ' ws vs
 |[],_,h=>h
 |d::ds,_,h=>by
  obtain⟨v,r,rfl,h1,h2⟩:=h
  exact⟨v,r,rfl,h1.fw S f,Rws.fw S f h2⟩
theorem Er.fw (S:Sr K H φ st) (f:Fw φ φ' H H') {env:Ev}{σ:St} (h:Er K H φ env σ):Er K H' φ' env σ:=
 ⟨h.len,λi w e=>let ⟨v,e1,r⟩:=h.at_ i w e;⟨v,e1,r.fw S f⟩⟩
theorem Rkv.fw (S:Sr K H φ st) (f:Fw φ φ' H H'):∀ {ds:List (List Int×D)}{vs:List (List Key×V)},Rkv K H φ ds vs->Rkv K H' φ' ds vs
 |[],_,h=>h
 |(k,d)::ds,_,h=>by
  obtain⟨v,r,rfl,h1,h2⟩:=h
  exact⟨v,r,rfl,Rl.fw S f h1,Rkv.fw S f h2⟩
theorem Rkk.fw (S:Sr K H φ st) (f:Fw φ φ' H H'):∀ {ds:List (Int×D)}{vs:List (Key×V)},Rkk K H φ ds vs->Rkk K H' φ' ds vs
 |[],_,h=>h
 |(k,d)::ds,_,h=>by
  obtain⟨v,r,rfl,h1,h2⟩:=h
  exact⟨v,r,rfl,Rl.fw S f h1,Rkk.fw S f h2⟩
theorem Rc.fw (S:Sr K H φ st) (f:Fw φ φ' H H') {k:Nat}{a:Addr}{c:C} (e:∀ o,H a=some o->H' a=some o) (h:Rc K H φ k a c):Rc K H' φ' k a c:=by
 cases c with
 |l ds=>obtain⟨vs,q,r⟩:=h;exact⟨vs,e _ q,r.fw S f⟩
 |n ds=>obtain⟨vs,q,r,b⟩:=h;exact⟨vs,e _ q,r.fw S f,b⟩
 |m ds=>obtain⟨vs,q,r⟩:=h;exact⟨vs,e _ q,r.fw S f⟩
 |k ds=>obtain⟨vs,q,r⟩:=h;exact⟨vs,e _ q,r.fw S f⟩
theorem Sr.same (S:Sr K H φ st) (s:bL H H'):Sr K H' φ st:=
 ⟨S.nd,S.len,λn a c e1 e2=>(S.at_ n a c e1 e2).fw S (Fw.same s) λo h=>s _ _ h⟩
theorem Sr.new (S:Sr K H φ st) {p:Addr}{o:HO} (hp:H p=none):Sr K (upd H p o) φ st:=S.same (bL.new hp o)
theorem Rls.length:∀ {ds:List D}{vs:List V},Rls K H φ ds vs->ds.length=vs.length
 |[],_,h=>by cases h;rfl
 |d::ds,_,h=>by
  obtain⟨v,r,rfl,h1,h2⟩:=h
  rw[qam,qam,Rls.length h2]
theorem Rws.length:∀ {ds:List W}{vs:List V},Rws K H φ ds vs->ds.length=vs.length
 |[],_,h=>by cases h;rfl
 |d::ds,_,h=>by
  obtain⟨v,r,rfl,h1,h2⟩:=h
  rw[qam,qam,Rws.length h2]
theorem Rls.append:∀ {ds es:List D}{vs us:List V},Rls K H φ ds vs->Rls K H φ es us->Rls K H φ (ds++es) (vs++us)
 |[],_,_,_,h,h'=>by cases h;exact h'
 |d::ds,_,_,_,h,h'=>by
  obtain⟨v,r,rfl,h1,h2⟩:=h
  exact⟨v,r++_,rfl,h1,Rls.append h2 h'⟩
theorem Rls.get:∀ {ds:List D}{vs:List V},Rls K H φ ds vs->∀ {i:Nat}{d:D},ds[i]?=some d->∃ v,vs[i]?=some v/\Rl K H φ d v
 |[],_,h,i,d,e=>by simp at e
 |d::ds,_,h,i,e,q=>by
  obtain⟨v,r,rfl,h1,h2⟩:=h
  cases i with
  |zero=>simp at q;subst q;exact⟨v,rfl,h1⟩
  |succ i=>simpa using Rls.get h2 (i:=i) (d:=e) (by simpa using q)
theorem Rls.take:∀ {ds:List D}{vs:List V} (n:Nat),Rls K H φ ds vs->Rls K H φ (ds.take n) (vs.take n)
 |_,_,0,_=>by rw[qdE,qdE];exact rfl
 |[],_,n+1,h=>by cases h;exact rfl
 |d::ds,_,n+1,h=>by
  obtain⟨v,r,rfl,h1,h2⟩:=h
  exact⟨v,_,rfl,h1,Rls.take n h2⟩
theorem Rls.drop:∀ {ds:List D}{vs:List V} (n:Nat),Rls K H φ ds vs->Rls K H φ (ds.drop n) (vs.drop n)
 |_,_,0,h=>h
 |[],_,n+1,h=>by cases h;exact rfl
 |d::ds,_,n+1,h=>by
  obtain⟨v,r,rfl,h1,h2⟩:=h
  exact Rls.drop n h2
theorem Rls.set:∀ {ds:List D}{vs:List V} (n:Nat) {d:D}{v:V},Rls K H φ ds vs->Rl K H φ d v->Rls K H φ (ds.set n d) (vs.set n v)
 |[],_,_,_,_,h,_=>by cases h;exact rfl
 |e::ds,_,0,d,v,h,hd=>by
  obtain⟨u,r,rfl,h1,h2⟩:=h
  exact⟨v,r,rfl,hd,h2⟩
 |e::ds,_,n+1,d,v,h,hd=>by
  obtain⟨u,r,rfl,h1,h2⟩:=h
  exact⟨u,_,rfl,h1,Rls.set n h2 hd⟩
theorem Rls.rep {ds:List D}{vs:List V} (h:Rls K H φ ds vs):∀ k:Nat,Rls K H φ (qaV k ds).flatten (qaV k vs).flatten
 |0=>rfl
 |k+1=>by rw[qbY,qbY,qcz,qcz];exact h.append (Rls.rep h k)
theorem Rls.ints:∀ {ns:List Int}{vs:List V},Rls K H φ (ns.map D.int) vs->vs=ns.map V.int
 |[],_,h=>h
 |n::ns,_,h=>by
  obtain⟨v,r,rfl,h1,h2⟩:=h
  rw[show v=.int n from h1,Rls.ints h2];rfl
theorem Rls.of_ints:∀ (ns:List Int),Rls K H φ (ns.map D.int) (ns.map V.int)
 |[]=>rfl
 |n::ns=>⟨_,_,rfl,rfl,Rls.of_ints ns⟩
theorem Rl.less {ψ:List Addr}:∀ {d:D}{v:V},Rl K H (φ++ψ) d v->Rl K H φ d v:=by
 intro d v
 refine (?_:∀ v,Rl K H (φ++ψ) d v->Rl K H φ d v) v
 refine D.rec (motive_1:=λd=>∀ v,Rl K H (φ++ψ) d v->Rl K H φ d v) (motive_2:=λds=>∀ vs,Rls K H (φ++ψ) ds vs->Rls K H φ ds vs) ?_ ?_ ?_ ?_ ?_ ?_ ?_ ?_ ?_ ?_ ?_ d
 ·exact λv h=>h
 ·exact λb v h=>h
 ·exact λb v h=>h
 ·exact λb v h=>h
 ·exact λb v h=>h
 ·rintro v ⟨a,e,hn,h⟩;exact⟨a,e,λz=>hn (qct _ z),h⟩
 ·exact λns v h=>h
 ·rintro ds ih v ⟨a,vs,rfl,h1,h2⟩;exact⟨a,vs,rfl,h1,ih vs h2⟩
 ·rintro ds ih v ⟨a,vs,rfl,h0,h1,h2⟩;exact⟨a,vs,rfl,λz=>h0 (qct _ z),h1,ih vs h2⟩
 ·exact λvs h=>h
 ·rintro d ds ih1 ih2 vs ⟨v,r,rfl,h1,h2⟩;exact⟨v,r,rfl,ih1 v h1,ih2 r h2⟩
theorem Rls.less {ψ:List Addr}:∀ {ds:List D}{vs:List V},Rls K H (φ++ψ) ds vs->Rls K H φ ds vs
 |[],_,h=>h
 |d::ds,_,h=>by
  obtain⟨v,r,rfl,h1,h2⟩:=h
  exact⟨v,r,rfl,Rl.less h1,Rls.less h2⟩
theorem Rkv.less {ψ:List Addr}:∀ {ds:List (List Int×D)}{vs:List (List Key×V)},Rkv K H (φ++ψ) ds vs->Rkv K H φ ds vs
 |[],_,h=>h
 |(k,d)::ds,_,h=>by
  obtain⟨v,r,rfl,h1,h2⟩:=h
  exact⟨v,r,rfl,Rl.less h1,Rkv.less h2⟩
theorem Rkk.less {ψ:List Addr}:∀ {ds:List (Int×D)}{vs:List (Key×V)},Rkk K H (φ++ψ) ds vs->Rkk K H φ ds vs
 |[],_,h=>h
 |(k,d)::ds,_,h=>by
  obtain⟨v,r,rfl,h1,h2⟩:=h
  exact⟨v,r,rfl,Rl.less h1,Rkk.less h2⟩
theorem Rws.less {ψ:List Addr}:∀ {ds:List W}{vs:List V},(∀ m,W.h m∈ds->m<φ.length)->Rws K H (φ++ψ) ds vs->Rws K H φ ds vs
 |[],_,_,h=>h
 |d::ds,_,hm,h=>by
  obtain⟨v,r,rfl,h1,h2⟩:=h
  refine⟨v,r,rfl,?_,Rws.less (λm z=>hm m (qah _ z)) h2⟩
  cases d with
  |d x=>exact Rl.less h1
  |h m=>
   obtain⟨a,e,rfl⟩:=h1
   rw[qa2 (hm m qak)]at e
   exact⟨a,e,rfl⟩
theorem Rc.less {ψ:List Addr}{k:Nat}{a:Addr}{c:C} (hk:k<φ.length) (h:Rc K H (φ++ψ) k a c):Rc K H φ k a c:=by
 cases c with
 |l ds=>obtain⟨vs,q,r⟩:=h;exact⟨vs,q,r.less⟩
 |n ds=>obtain⟨vs,q,r,b⟩:=h;exact⟨vs,q,r.less λm z=>qfw (b m z) hk,b⟩
 |m ds=>obtain⟨vs,q,r⟩:=h;exact⟨vs,q,r.less⟩
 |k ds=>obtain⟨vs,q,r⟩:=h;exact⟨vs,q,r.less⟩
theorem Sr.less {ψ:List Addr} (S:Sr K H (φ++ψ) st):Sr K H φ (st.take φ.length):=by
 have hl:=S.len
 rw[qa4]at hl
 refine⟨(qdv.mp S.nd).1,by rw[qcr];lia,λn a ds e1 e2=>?_⟩
 have hn:=(qax.mp e1).1
 rw[qh2 hn]at e2
 exact (S.at_ n a ds (by rw[qa2 hn];exact e1) e2).less hn
end
end L2
namespace L2
open PySem PySem.Spec PyProof.Rows
abbrev Ef:=Ev->Sto->Option (W×Sto)
abbrev Af:=Ev->Sto->Option (List W×Sto)
abbrev Tf:=Ev->Sto->Option (Bool×Sto)
abbrev Lf:=Ev->Sto->Option (List D×Sto)
abbrev Fn:=List W->Sto->Option (W×Sto)
section
variable (K:qai)
def tI (env:Ev) (st:Sto) (r:W×Sto):TE:=λσ H Q=>∃ φ,Er K H φ env σ/\Sr K H φ st/\∀ v H' φ',Fw φ φ' H H'->Sr K H' φ' r.2->Rw K H' φ' r.1 v->Q v H'
def tIA (env:Ev) (st:Sto) (r:List W×Sto):TA:=λσ H Q=>∃ φ,Er K H φ env σ/\Sr K H φ st/\∀ vs H' φ',Fw φ φ' H H'->Sr K H' φ' r.2->Rws K H' φ' r.1 vs->Q vs H'
def tIT (env:Ev) (st:Sto) (r:Bool×Sto):TT:=λσ H Q=>∃ φ,Er K H φ env σ/\Sr K H φ st/\∀ H' φ',Fw φ φ' H H'->Sr K H' φ' r.2->Q r.1 H'
def tIL (env:Ev) (st:Sto) (r:List D×Sto):TE:=λσ H Q=>∃ φ,Er K H φ env σ/\Sr K H φ st/\∀ a vs H1 φ',Fw φ φ' H H1->Sr K H1 φ' r.2->H1 a=none->Rls K H1 φ' r.1 vs->Q (.ref a) (upd H1 a (.lst vs))
structure IE (X:Cx) (e:Expr) (f:Ef):Prop where
 run:∀ env st r,f env st=some r->PE X e (tI K env st r)
structure IA (X:Cx) (es:List Expr) (f:Af):Prop where
 run:∀ env st r,f env st=some r->PA X es (tIA K env st r)
structure IT (X:Cx) (e:Expr) (f:Tf):Prop where
 run:∀ env st r,f env st=some r->PT X e (tIT K env st r)
structure ITW (X:Cx) (e:Expr) (f:Tf):Prop where
 run:∀ env st r,f env st=some r->PW X e (tIT K env st r)
structure IL (X:Cx) (e:Expr) (f:Lf):Prop where
 run:∀ env st r,f env st=some r->PE X e (tIL K env st r)
def rD (st:Sto) (x y:W) (d:D):R2:=λvx vy H Q=>∃ φ,Sr K H φ st/\Rw K H φ x vx/\Rw K H φ y vy/\∀ v H',bL H H'->Rl K H' φ d v->Q v H'
structure OpD (X:Cx) (f:Value->Value->Sem Value) (g:Sto->W->W->Option D):Prop where
 run:∀ st x y d,g st x y=some d->OpR X f (rD K st x y d)
def rCD (st:Sto) (ws:List W) (d:D):List V->Hp->VK->Prop:=λvs H Q=>∃ φ,Sr K H φ st/\Rws K H φ ws vs/\∀ v H',bL H H'->Rl K H' φ d v->Q v H'
structure lL (X:Cx) (f:Value) (g:Sto->List W->Option D):Prop where
 run:∀ st ws d,g st ws=some d->eV X f (rCD K st ws d)
def rCL (st:Sto) (ws:List W) (ds:List D):List V->Hp->VK->Prop:=λvs H Q=>∃ φ,Sr K H φ st/\Rws K H φ ws vs/\∀ a us H1,bL H H1->H1 a=none->Rls K H1 φ ds us->Q (.ref a) (upd H1 a (.lst us))
structure DY (X:Cx) (f:Value) (g:Sto->List W->Option (List D)):Prop where
 run:∀ st ws d,g st ws=some d->eV X f (rCL K st ws d)
end
def iV (i:Nat):Ef
 |env,st=>(env.getD i none).map λw=>(w,st)
def iC (d:D):Ef
 |_,st=>some (.d d,st)
def iOp (g:Sto->W->W->Option D) (a b:Ef):Ef
 |env,st=>(a env st).bind λx=>(b env x.2).bind λy=>(g y.2 x.1 y.1).map λd=>(.d d,y.2)
def sZ:D->Option Bool
 |.bl b=>some b
 |_=>none
def bO (g:Sto->W->W->Option D) (a b:Ef):Tf
 |env,st=>(a env st).bind λx=>(b env x.2).bind λy=>(g y.2 x.1 y.1).bind λd=>(sZ d).map λk=>(k,y.2)
def iUn (g:W->Option D) (a:Ef):Ef
 |env,st=>(a env st).bind λx=>(g x.1).map λd=>(.d d,x.2)
def qK (c:Tf) (a b:Ef):Ef
 |env,st=>(c env st).bind λr=>if r.1=true then a env r.2 else b env r.2
def i4 (c:Tf):Tf
 |env,st=>(c env st).map λr=>(!r.1,r.2)
def qU (a b:Tf):Tf
 |env,st=>(a env st).bind λr=>if r.1=true then b env r.2 else some (false,r.2)
def pv (a b:Tf):Tf
 |env,st=>(a env st).bind λr=>if r.1=true then some (true,r.2) else b env r.2
def mB (g:Sto->W->Option Bool) (a:Ef):Tf
 |env,st=>(a env st).bind λx=>(g x.2 x.1).map λk=>(k,x.2)
def ak:Af
 |_,st=>some ([],st)
def ab (a:Ef) (r:Af):Af
 |env,st=>(a env st).bind λx=>(r env x.2).map λy=>(x.1::y.1,y.2)
def iCB (g:Sto->List W->Option D) (a:Af):Ef
 |env,st=>(a env st).bind λr=>(g r.2 r.1).map λd=>(.d d,r.2)
def iCL (g:Sto->List W->Option (List D)) (a:Af):Lf
 |env,st=>(a env st).bind λr=>(g r.2 r.1).map λd=>(d,r.2)
def ax (m:Fn) (a:Af):Ef
 |env,st=>(a env st).bind λr=>m r.1 r.2
def mT:List W->Option (List D)
 |[]=>some []
 |.d x::ws=>(mT ws).map λr=>x::r
 |.h _::_=>none
def cn (a:Af):Ef
 |env,st=>(a env st).bind λr=>(mT r.1).bind λds=>if ds.length<=1000 then some (.d (.tup ds),r.2) else none
def fP (a:Af):Lf
 |env,st=>(a env st).bind λr=>(mT r.1).bind λds=>if ds.length<=1000 then some (ds,r.2) else none
def aM (a:Lf):Ef
 |env,st=>(a env st).map λr=>(.d (.lst r.1),r.2)
def pj (a:Lf):Ef
 |env,st=>(a env st).map λr=>(.h r.2.length,r.2++[.l r.1])
section
variable {K:qai}{X:Cx}{e a b c:Expr}{es:List Expr}{pos:Pos}{f fa fb fc:Ef}
theorem PE.imp {t t':TE} (h:PE X e t) (m:∀ σ H Q,t' σ H Q->t σ H Q):PE X e t':=λpins s σ H Q I q=>h pins s σ H Q I (m σ H Q q)
theorem PT.imp {t t':TT} (h:PT X e t) (m:∀ σ H Q,t' σ H Q->t σ H Q):PT X e t':=λpins s σ H Q I q=>h pins s σ H Q I (m σ H Q q)
theorem PW.imp {t t':TT} (h:PW X e t) (m:∀ σ H Q,t' σ H Q->t σ H Q):PW X e t':=λwh pins s σ H Q I q=>h wh pins s σ H Q I (m σ H Q q)
theorem PA.imp {t t':TA} (h:PA X es t) (m:∀ σ H Q,t' σ H Q->t σ H Q):PA X es t':=λpos pins s σ H Q I q=>h pos pins s σ H Q I (m σ H Q q)
theorem OpR.imp {g:Value->Value->Sem Value}{r r':R2} (h:OpR X g r) (m:∀ x y H Q,r' x y H Q->r x y H Q):OpR X g r':=λpins s σ H x y v u Q I rx ry q=>h pins s σ H x y v u Q I rx ry (m _ _ _ _ q)
theorem eV.imp {g:Value}{r r':List V->Hp->VK->Prop} (h:eV X g r) (m:∀ xs H Q,r' xs H Q->r xs H Q):eV X g r':=λpins s σ H xs us Q I rx q=>h pins s σ H xs us Q I rx (m _ _ _ q)
theorem uK:PE X e (λ_ _ _=>False):=λ_ _ _ _ _ _ q=>q.elim
theorem t3:PW X e (λ_ _ _=>False):=λ_ _ _ _ _ _ _ q=>q.elim
theorem Fa {i:Nat}{x:Str}{t:TE} (h:PE X (.Name x pos) (Ep i)):IE K X (.Name x pos) (iV i):=by
 refine⟨λenv st r hr=>?_⟩
 unfold iV at hr
 obtain⟨w,hw,rfl⟩:=qad.mp hr
 refine h.imp ?_
 rintro σ H Q ⟨φ,hE,hS,q⟩
 have hi:env[i]?=some (some w):=by
  rw[qiC]at hw
  cases q:env[i]? with
  |none=>rw[q]at hw;cases hw
  |some o=>rw[q]at hw;rw[show o=some w from hw]
 obtain⟨v,e1,r⟩:=hE.at_ i w hi
 exact⟨v,e1,q v H φ (Fw.refl φ H) hS r⟩
theorem iv (i:Nat) {x:Str} (hN:X.N[i]?=some x:=by rfl) (hv:Vis X.env.scope x:=by first|exact Or.inl rfl|exact Or.inr (Or.inl rfl)|exact Or.inr (Or.inr rfl)) (hd:(x==("__debug__" : Str))=false:=by decide)
  (hcd:(x==("__classdict__" : Str))=false:=by decide):IE K X (.Name x pos) (iV i):=Fa (t:=Ep i) (Eo hN hv hd hcd)
theorem B5 {d:D}{v:V} (h:PE X e (tC v)) (r:∀ H φ,Rl K H φ d v):IE K X e (iC d):=by
 refine⟨λenv st r hr=>?_⟩
 cases hr
 refine h.imp ?_
 rintro σ H Q ⟨φ,hE,hS,q⟩
 exact q v H φ (Fw.refl φ H) hS (r H φ)
theorem aj {i j}:IE K X (.Constant (.int i) j pos) (iC (.int i)):=B5 FY λ_ _=>rfl
theorem nt {i j}:IE K X (.Constant (.bool i) j pos) (iC (.bl i)):=B5 GN λ_ _=>rfl
theorem EZ {j}:IE K X (.Constant .none j pos) (iC .non):=B5 E8 λ_ _=>rfl
theorem gq {x j}:IE K X (.Constant (.str x) j pos) (iC (.str x)):=B5 EL λ_ _=>rfl
theorem tO {env:Ev}{st:Sto}{x y:W×Sto}{d:D}{σ:St}{H:Hp}{Q:VK} (h:tI K env st (.d d,y.2) σ H Q):tOp (rD K y.2 x.1 y.1 d) (tI K env st x) (tI K env x.2 y) σ H Q:=by
 obtain⟨φ,hE,hS,q⟩:=h
 refine⟨φ,hE,hS,λv H1 φ1 f1 s1 w1=>⟨φ1,hE.fw hS f1,s1,λu H2 φ2 f2 s2 w2=>⟨φ2,s2,w1.fw s1 f2,w2,λv3 H3 f3 w3=>?_⟩⟩⟩
 exact q v3 H3 φ2 ((f1.trans f2).trans (Fw.same f3)) (s2.same f3) w3
theorem aL {op:Operator}{g:Sto->W->W->Option D} (ho:OpD K X (qbT op) g) (ha:IE K X a fa) (hb:IE K X b fb):IE K X (.BinOp a op b pos) (iOp g fa fb):=by
 refine⟨λenv st r hr=>?_⟩
 simp only[iOp,qac,qad]at hr
 obtain⟨x,hx,y,hy,d,hd,rfl⟩:=hr
 exact (Hz (ho.run _ _ _ _ hd) (ha.run _ _ _ hx) (hb.run _ _ _ hy)).imp λσ H Q h=>tO h
theorem At {op:CmpOp}{g:Sto->W->W->Option D} (ho:OpD K X (qcB op) g) (ha:IE K X a fa) (hb:IE K X b fb) (hm:qeD op b=false):IE K X (.Compare a [op] [b] pos) (iOp g fa fb):=by
 refine⟨λenv st r hr=>?_⟩
 simp only[iOp,qac,qad]at hr
 obtain⟨x,hx,y,hy,d,hd,rfl⟩:=hr
 exact (DL (ho.run _ _ _ _ hd) (ha.run _ _ _ hx) (hb.run _ _ _ hy) hm).imp λσ H Q h=>tO h
theorem yF {d:D}{k:Bool} (h:sZ d=some k):d=.bl k:=by
 cases d<;>first|(cases h;done)|(injection h with h;subst h;rfl)
theorem bx {op:CmpOp}{g:Sto->W->W->Option D} (ho:OpD K X (qcB op) g) (ha:IE K X a fa) (hb:IE K X b fb) (hm:qeD op b=false):IT K X (.Compare a [op] [b] pos) (bO g fa fb):=by
 refine⟨λenv st r hr=>?_⟩
 simp only[bO,qac,qad]at hr
 obtain⟨x,hx,y,hy,d,hd,k,hk,rfl⟩:=hr
 cases yF hk
 refine (Cw (ho.run _ _ _ _ hd) (ha.run _ _ _ hx) (hb.run _ _ _ hy) hm).imp λσ H Q h=>?_
 obtain⟨φ,hE,hS,q⟩:=h
 refine tO ⟨φ,hE,hS,λv H1 φ1 f1 s1 w1=>⟨k,w1,q H1 φ1 f1 s1⟩⟩
def qA:W->Option D
 |.d (.int i)=>some (.int (-i))
 |_=>none
theorem mV (ha:IE K X a fa):IE K X (.UnaryOp .USub a pos) (iUn qA fa):=by
 refine⟨λenv st r hr=>?_⟩
 simp only[iUn,qac,qad]at hr
 obtain⟨⟨x,s1⟩,hx,d,hd,rfl⟩:=hr
 cases x with
 |h n=>cases hd
 |d x=>
  cases x with
  |int i=>
   cases hd
   refine (G7 Fo (ha.run _ _ _ hx)).imp ?_
   rintro σ H Q ⟨φ,hE,hS,q⟩
   exact⟨φ,hE,hS,λv H1 φ1 f1 s1 w1=>⟨i,w1,q _ H1 φ1 f1 s1 rfl⟩⟩
  |_=>cases hd
variable {ta tb:Tf}
theorem mY (ha:IT K X a ta):IT K X (.UnaryOp .Not a pos) (i4 ta):=by
 refine⟨λenv st r hr=>?_⟩
 simp only[i4,qad]at hr
 obtain⟨x,hx,rfl⟩:=hr
 refine (Ej (ha.run _ _ _ hx)).imp ?_
 rintro σ H Q ⟨φ,hE,hS,q⟩
 exact⟨φ,hE,hS,λH1 φ1 f1 s1=>q H1 φ1 f1 s1⟩
theorem tz (h:ITW K X a ta):IT K X a ta:=⟨λenv st r hr=>(h.run env st r hr).pt⟩
theorem Ai (h:IT K X a ta):ITW K X (.BoolOp .And [a] pos) ta:=⟨λenv st r hr=>DN (h.run env st r hr)⟩
theorem sH (h:IT K X a ta):ITW K X (.BoolOp .Or [a] pos) ta:=⟨λenv st r hr=>Fv (h.run env st r hr)⟩
theorem Ck {rest:List Expr} (ha:IT K X a ta) (hb:ITW K X (.BoolOp .And (b::rest) pos) tb):ITW K X (.BoolOp .And (a::b::rest) pos) (qU ta tb):=by
 refine⟨λenv st r hr=>?_⟩
 simp only[qU,qac]at hr
 obtain⟨⟨k,s1⟩,hx,hr⟩:=hr
 cases k with
 |false=>
  rw[if_neg qan]at hr
  cases hr
  refine (A0 (ha.run _ _ _ hx) t3).imp ?_
  rintro σ H Q ⟨φ,hE,hS,q⟩
  refine⟨φ,hE,hS,λH1 φ1 f1 s1=>?_⟩
  refine zq ?_
  exact q H1 φ1 f1 s1
 |true=>
  rw[if_pos rfl]at hr
  refine (A0 (ha.run _ _ _ hx) (hb.run _ _ _ hr)).imp ?_
  rintro σ H Q ⟨φ,hE,hS,q⟩
  refine⟨φ,hE,hS,λH1 φ1 f1 s1=>?_⟩
  refine yB ?_
  exact⟨φ1,hE.fw hS f1,s1,λH2 φ2 f2 s2=>q H2 φ2 (f1.trans f2) s2⟩
theorem kR {rest:List Expr} (ha:IT K X a ta) (hb:ITW K X (.BoolOp .Or (b::rest) pos) tb):ITW K X (.BoolOp .Or (a::b::rest) pos) (pv ta tb):=by
 refine⟨λenv st r hr=>?_⟩
 simp only[pv,qac]at hr
 obtain⟨⟨k,s1⟩,hx,hr⟩:=hr
 cases k with
 |true=>
  rw[if_pos rfl]at hr
  cases hr
  refine (D3 (ha.run _ _ _ hx) t3).imp ?_
  rintro σ H Q ⟨φ,hE,hS,q⟩
  refine⟨φ,hE,hS,λH1 φ1 f1 s1=>?_⟩
  refine yB ?_
  exact q H1 φ1 f1 s1
 |false=>
  rw[if_neg qan]at hr
  refine (D3 (ha.run _ _ _ hx) (hb.run _ _ _ hr)).imp ?_
  rintro σ H Q ⟨φ,hE,hS,q⟩
  refine⟨φ,hE,hS,λH1 φ1 f1 s1=>?_⟩
  refine zq ?_
  exact⟨φ1,hE.fw hS f1,s1,λH2 φ2 f2 s2=>q H2 φ2 (f1.trans f2) s2⟩
theorem yi {tc:Tf} (hc:IT K X c tc) (ha:IE K X a fa) (hb:IE K X b fb):IE K X (.IfExp c a b pos) (qK tc fa fb):=by
 refine⟨λenv st r hr=>?_⟩
 simp only[qK,qac]at hr
 obtain⟨⟨k,s1⟩,hx,hr⟩:=hr
 cases k with
 |true=>
  rw[if_pos rfl]at hr
  refine (uD (hc.run _ _ _ hx) (ha.run _ _ _ hr) uK).imp ?_
  rintro σ H Q ⟨φ,hE,hS,q⟩
  refine⟨φ,hE,hS,λH1 φ1 f1 s1=>?_⟩
  refine yB ?_
  exact⟨φ1,hE.fw hS f1,s1,λu H2 φ2 f2 s2 w2=>q u H2 φ2 (f1.trans f2) s2 w2⟩
 |false=>
  rw[if_neg qan]at hr
  refine (uD (hc.run _ _ _ hx) uK (hb.run _ _ _ hr)).imp ?_
  rintro σ H Q ⟨φ,hE,hS,q⟩
  refine⟨φ,hE,hS,λH1 φ1 f1 s1=>?_⟩
  refine zq ?_
  exact⟨φ1,hE.fw hS f1,s1,λu H2 φ2 f2 s2 w2=>q u H2 φ2 (f1.trans f2) s2 w2⟩
def jg (st:Sto):W->Option (List D)
 |.d (.tup ds)=>some ds
 |.d (.lst ds)=>some ds
 |.d (.scr ns)=>some (ns.map D.int)
 |.h n=>lg st n
 |_=>none
theorem vb {st:Sto}{H:Hp}{φ:List Addr}{w:W}{v:V}{ds:List D} (S:Sr K H φ st) (r:Rw K H φ w v) (e:jg st w=some ds):∃ a vs,v=.ref a/\(SqL K H a vs\/H a=some (.tup vs))/\Rls K H φ ds vs:=by
 cases w with
 |h n=>
  obtain⟨a,ea,rfl⟩:=r
  obtain⟨vs,q,rl⟩:=S.atl n a ds ea e
  exact⟨a,vs,rfl,.inl (SqL.of q),rl⟩
 |d x=>
  cases x with
  |tup es=>cases e;obtain⟨a,vs,rfl,h1,h2⟩:=r;exact⟨a,vs,rfl,.inr h1,h2⟩
  |lst es=>cases e;obtain⟨a,vs,rfl,h0,h1,h2⟩:=r;exact⟨a,vs,rfl,.inl (.inl h1),h2⟩
  |scr ns=>
   cases e
   obtain⟨a,rfl,h⟩:=r
   refine⟨a,_,rfl,.inl ?_,Rls.of_ints ns⟩
   rcases h with⟨o,h⟩|h
   ·exact .inl (.inr ⟨o,h⟩)
   ·exact .inr h
  |_=>cases e
theorem oe {st:Sto}{H:Hp}{φ:List Addr}{w:W}{v:V}{ds:List D} (S:Sr K H φ st) (r:Rw K H φ w v) (e:jg st w=some ds):∃ a vs,v=.ref a/\(SqL K H a vs\/SqT K H a vs)/\Rls K H φ ds vs:=by
 obtain⟨a,vs,h0,h1,h2⟩:=vb S r e
 exact⟨a,vs,h0,h1.imp id SqT.of,h2⟩
def mW (st:Sto):W->Option Bool
 |.d .non=>some false
 |.d (.bl b)=>some b
 |.d (.int i)=>some (i != 0)
 |w=>(jg st w).map λds=>!ds.isEmpty
theorem Cz {st:Sto}{H:Hp}{φ:List Addr}{w:W}{v:V}{k:Bool} (S:Sr K H φ st) (r:Rw K H φ w v) (e:mW st w=some k):Ce K v H k:=by
 have seq:∀ ds,jg st w=some ds->k=!ds.isEmpty->Ce K v H k:=λds h hk=>by
  obtain⟨a,vs,rfl,h1,h2⟩:=oe S r h
  have hl:=h2.length
  have e':k=!vs.isEmpty:=by
   rw[hk]
   cases ds<;>cases vs<;>first|rfl|cases hl
  rcases h1 with h1|h1
  ·exact .inl ⟨vs,h1,e'⟩
  ·exact .inr (.inl ⟨vs,h1,e'⟩)
 cases w with
 |h n=>
  obtain⟨ds,h1,h2⟩:=qad.mp e
  exact seq ds h1 h2.symm
 |d x=>
  cases x with
  |non=>have r':v=.non:=r;subst r';cases e;exact rfl
  |bl b=>have r':v=.bl b:=r;subst r';cases e;exact rfl
  |int i=>have r':v=.int i:=r;subst r';cases e;exact rfl
  |tup ds=>exact seq ds rfl (qaS e).symm
  |lst ds=>exact seq ds rfl (qaS e).symm
  |scr ds=>exact seq _ rfl (qaS e).symm
  |_=>cases e
theorem kO (ha:IE K X a fa) (he:BL a=true:=by rfl) (hK:X.K=K:=by rfl):IT K X a (mB mW fa):=by
 subst hK
 refine⟨λenv st r hr=>?_⟩
 simp only[mB,qac,qad]at hr
 obtain⟨x,hx,k,hk,rfl⟩:=hr
 refine (zO (ha.run _ _ _ hx) (yG he)).imp ?_
 rintro σ H Q ⟨φ,hE,hS,q⟩
 exact⟨φ,hE,hS,λv H1 φ1 f1 s1 w1=>⟨k,Cz s1 w1 hk,q H1 φ1 f1 s1⟩⟩
variable {af:Af}
theorem ah:IA K X [] ak:=by
 refine⟨λenv st r hr=>?_⟩
 cases hr
 refine EG.imp ?_
 rintro σ H Q ⟨φ,hE,hS,q⟩
 exact q [] H φ (Fw.refl φ H) hS rfl
theorem aa (ha:IE K X e fa) (hr:IA K X es af) (hs:aU e=true:=by rfl):IA K X (e::es) (ab fa af):=by
 refine⟨λenv st r h=>?_⟩
 simp only[ab,qac,qad]at h
 obtain⟨x,hx,y,hy,rfl⟩:=h
 refine (CK (ha.run _ _ _ hx) (hr.run _ _ _ hy) (bv hs)).imp ?_
 rintro σ H Q ⟨φ,hE,hS,q⟩
 refine⟨φ,hE,hS,λv H1 φ1 f1 s1 w1=>⟨φ1,hE.fw hS f1,s1,λu H2 φ2 f2 s2 w2=>?_⟩⟩
 exact q _ H2 φ2 (f1.trans f2) s2 ⟨v,u,rfl,w1.fw s1 f2,w2⟩
theorem cv {x:Str}{id:String}{p:Pos}{g:Sto->List W->Option D} (hc:lL K X (.builtin id) g) (hg:Gl X x) (hm:X.mg x=none) (hv:qdc x=some (.builtin id)) (ha:IA K X (e::es) af)
  (hn:x≠"__name__":=by decide) (hdb:(x==("__debug__" : Str))=false:=by decide) (hs:aU e=true:=by rfl) (hp:es.all aU=true:=by rfl) :
  IE K X (.Call (.Name x p) (e::es) [] pos) (iCB g af):=by
 refine⟨λenv st r hr=>?_⟩
 simp only[iCB,qac,qad]at hr
 obtain⟨y,hy,d,hd,rfl⟩:=hr
 refine (pZ (hc.run _ _ _ hd) hg hm hv (ha.run _ _ _ hy) hn hdb (bv hs) (cH hp)).imp ?_
 rintro σ H Q ⟨φ,hE,hS,q⟩
 exact⟨φ,hE,hS,λv H1 φ1 f1 s1 w1=>⟨φ1,s1,w1,λu H2 f2 w2=>q u H2 φ1 (f1.trans (Fw.same f2)) (s1.same f2) w2⟩⟩
theorem i5 {x:Str}{T:String}{p:Pos}{g:Sto->List W->Option D} (hc:lL K X (.type T) g) (hg:Gl X x) (hm:X.mg x=none) (hv:qdc x=some (.type T)) (ha:IA K X (e::es) af)
  (hn:x≠"__name__":=by decide) (hdb:(x==("__debug__" : Str))=false:=by decide) (hs:aU e=true:=by rfl) (hp:es.all aU=true:=by rfl) :
  IE K X (.Call (.Name x p) (e::es) [] pos) (iCB g af):=by
 refine⟨λenv st r hr=>?_⟩
 simp only[iCB,qac,qad]at hr
 obtain⟨y,hy,d,hd,rfl⟩:=hr
 refine (zv (hc.run _ _ _ hd) hg hm hv (ha.run _ _ _ hy) hn hdb (bv hs) (cH hp)).imp ?_
 rintro σ H Q ⟨φ,hE,hS,q⟩
 exact⟨φ,hE,hS,λv H1 φ1 f1 s1 w1=>⟨φ1,s1,w1,λu H2 f2 w2=>q u H2 φ1 (f1.trans (Fw.same f2)) (s1.same f2) w2⟩⟩
theorem D5 {x:Str}{id:String}{p:Pos}{g:Sto->List W->Option (List D)} (hc:DY K X (.builtin id) g) (hg:Gl X x) (hm:X.mg x=none) (hv:qdc x=some (.builtin id)) (ha:IA K X (e::es) af)
  (hn:x≠"__name__":=by decide) (hdb:(x==("__debug__" : Str))=false:=by decide) (hs:aU e=true:=by rfl) (hp:es.all aU=true:=by rfl) :
  IL K X (.Call (.Name x p) (e::es) [] pos) (iCL g af):=by
 refine⟨λenv st r hr=>?_⟩
 simp only[iCL,qac,qad]at hr
 obtain⟨y,hy,d,hd,rfl⟩:=hr
 refine (pZ (hc.run _ _ _ hd) hg hm hv (ha.run _ _ _ hy) hn hdb (bv hs) (cH hp)).imp ?_
 rintro σ H Q ⟨φ,hE,hS,q⟩
 exact⟨φ,hE,hS,λv H1 φ1 f1 s1 w1=>⟨φ1,s1,w1,λa us H2 f2 n2 w2=>q a us H2 φ1 (f1.trans (Fw.same f2)) (s1.same f2) n2 w2⟩⟩
theorem pI {H:Hp}{φ:List Addr}:∀ {ws:List W}{vs:List V}{ds:List D},mT ws=some ds->Rws K H φ ws vs->Rls K H φ ds vs
 |[],_,_,e,h=>by cases e;exact h
 |.d x::ws,_,_,e,h=>by
  obtain⟨v,r,rfl,h1,h2⟩:=h
  obtain⟨es,e1,rfl⟩:=qad.mp e
  exact⟨v,r,rfl,h1,pI e1 h2⟩
 |.h n::ws,_,_,e,h=>by cases e
theorem da {x1} (h:IA K X es af):IE K X (.Tuple es x1 pos) (cn af):=by
 refine⟨λenv st r hr=>?_⟩
 simp only[cn,qac]at hr
 obtain⟨y,hy,ds,hd,hr⟩:=hr
 split at hr
 ·cases hr
  rename_i hl
  refine (EW (h.run _ _ _ hy)).imp ?_
  rintro σ H Q ⟨φ,hE,hS,q⟩
  refine⟨φ,hE,hS,λvs H1 φ1 f1 s1 w1=>?_⟩
  have w:=pI hd w1
  refine⟨by rw[<-w.length];exact iY hl,λp hp=>?_⟩
  exact q _ _ φ1 (f1.trans (Fw.new hp)) (s1.new hp) ⟨p,vs,rfl,bj,w.fw s1 (Fw.new hp)⟩
 ·cases hr
theorem ij (h:IA K X es af):IL K X (.List es pos) (fP af):=by
 refine⟨λenv st r hr=>?_⟩
 simp only[fP,qac]at hr
 obtain⟨y,hy,ds,hd,hr⟩:=hr
 split at hr
 ·cases hr
  rename_i hl
  refine (zR (h.run _ _ _ hy)).imp ?_
  rintro σ H Q ⟨φ,hE,hS,q⟩
  refine⟨φ,hE,hS,λvs H1 φ1 f1 s1 w1=>?_⟩
  have w:=pI hd w1
  exact⟨by rw[<-w.length];exact iY hl,λp hp=>q p vs H1 φ1 f1 s1 hp w⟩
 ·cases hr
theorem aT {lf:Lf} (h:IL K X e lf):IE K X e (aM lf):=by
 refine⟨λenv st r hr=>?_⟩
 simp only[aM,qad]at hr
 obtain⟨y,hy,rfl⟩:=hr
 refine (h.run _ _ _ hy).imp ?_
 rintro σ H Q ⟨φ,hE,hS,q⟩
 refine⟨φ,hE,hS,λa vs H1 φ1 f1 s1 n1 w1=>?_⟩
 exact q _ _ φ1 (f1.trans (Fw.new n1)) (s1.new n1) ⟨a,vs,rfl,s1.nin n1,.inl bj,w1.fw s1 (Fw.new n1)⟩
theorem Sr.moreC {H:Hp}{φ:List Addr}{st:Sto}{a:Addr}{o:HO}{c:C} (S:Sr K H φ st) (n:H a=none) (w:Rc K (upd H a o) (φ++[a]) φ.length a c):Sr K (upd H a o) (φ++[a]) (st++[c]):=by
 have f:Fw φ (φ++[a]) H (upd H a o):=⟨⟨[a],rfl,λb hb=>by rw[qaI.mp hb];exact n⟩,λb o _ h=>bL.new n _ b o h,λb o h=>⟨o,bL.new n _ b o h⟩⟩
 refine⟨?_,by rw[qa4,qa4,S.len];rfl,λi b es e1 e2=>?_⟩
 ·rw[qdv]
  refine⟨S.nd,by simp,λx hx y hy e=>?_⟩
  rw[qaI.mp hy]at e
  rw[e]at hx
  exact S.nin n hx
 ·by_cases hi:i<φ.length
  ·rw[qa2 hi]at e1
   rw[qa2 (by rw[<-S.len];exact hi)]at e2
   exact (S.at_ i b es e1 e2).fw S f λo h=>bL.new n _ _ _ h
  ·have e:i=φ.length:=by
    have:=(qax.mp e1).1
    rw[qa4]at this
    simp at this
    lia
   subst e
   rw[qbi (qap _)]at e1
   rw[S.len,qbi (qap _)]at e2
   simp at e1 e2
   subst e1 e2
   exact w
theorem Fw.moreO {H:Hp}{φ:List Addr}{a:Addr}{o:HO} (n:H a=none):Fw φ (φ++[a]) H (upd H a o):=
 ⟨⟨[a],rfl,λb hb=>by rw[qaI.mp hb];exact n⟩,λb o _ h=>bL.new n _ b o h,λb o h=>⟨o,bL.new n _ b o h⟩⟩
theorem Fw.more {H:Hp}{φ:List Addr}{a:Addr}{vs:List V} (n:H a=none):Fw φ (φ++[a]) H (upd H a (.lst vs)):=Fw.moreO n
theorem Sr.more {H:Hp}{φ:List Addr}{st:Sto}{a:Addr}{vs:List V}{ds:List D} (S:Sr K H φ st) (n:H a=none) (w:Rls K H φ ds vs):Sr K (upd H a (.lst vs)) (φ++[a]) (st++[.l ds]):=
 S.moreC n ⟨vs,bj,w.fw S (Fw.moreO n)⟩
theorem sj {lf:Lf} (h:IL K X e lf):IE K X e (pj lf):=by
 refine⟨λenv st r hr=>?_⟩
 simp only[pj,qad]at hr
 obtain⟨y,hy,rfl⟩:=hr
 refine (h.run _ _ _ hy).imp ?_
 rintro σ H Q ⟨φ,hE,hS,q⟩
 refine⟨φ,hE,hS,λa vs H1 φ1 f1 s1 n1 w1=>?_⟩
 exact q _ _ (φ1++[a]) (f1.trans (Fw.more n1)) (s1.more n1 w1) ⟨a,by rw[<-s1.len];simp,rfl⟩
def spI (K:qai) (m:Fn):Sp:=λvs H Q _=>∃ φ st ws r,m ws st=some r/\Rws K H φ ws vs/\Sr K H φ st/\∀ v H' φ',Fw φ φ' H H'->Sr K H' φ' r.2->Rw K H' φ' r.1 v->Q v H'
theorem aw {x:Str}{k j:Nat}{ff:Addr}{fd:qbf}{ps:List Str}{m:Fn}{p:Pos} (F:bV X.prog X.w X.K X.mg X.base CX0 j ff fd ps (spI K m)) (hjk:j<=k) (hr:cX k X.A) (hg:Gl X x) (hm:X.mg x=some (.ref ff)) (hk:qaF X.K (.ref ff)=true) (hb:bz X.K fd ps [])
  (ha:IA K X (e::es) af) (hdb:(x==("__debug__" : Str))=false:=by decide) (hs:aU e=true:=by rfl) (hp:es.all aU=true:=by rfl) :
  IE K X (.Call (.Name x p) (e::es) [] pos) (ax m af):=by
 refine⟨λenv st r h=>?_⟩
 simp only[ax,qac]at h
 obtain⟨y,hy,h⟩:=h
 refine (DS (F.mono hjk) hr hg hm hk hb .nil HD (ha.run _ _ _ hy) hdb (bv hs) (cH hp)).imp ?_
 rintro σ H Q ⟨φ,hE,hS,q⟩
 refine⟨φ,hE,hS,λvs H1 φ1 f1 s1 w1=>?_⟩
 show spI K m (vs++[]) H1 Q E0
 rw[qdq]
 exact⟨φ1,y.2,y.1,r,h,w1,s1,λv H2 φ2 f2 s2 w2=>q v H2 φ2 (f1.trans f2) s2 w2⟩
end
inductive Fl where
 |nx (env:Ev) (st:Sto)|rt (w:W) (st:Sto)|bk (env:Ev) (st:Sto)|ct (env:Ev) (st:Sto)
abbrev Sf:=Ev->Sto->Option Fl
def Ax (K:qai) (φ:List Addr) (H:Hp) (D:vz):Fl->Prop
 |.nx e s=>∀ σ' H' φ',Fw φ φ' H H'->Er K H' φ' e σ'->Sr K H' φ' s->D.nx σ' H'
 |.rt w s=>∀ v H' φ',Fw φ φ' H H'->Sr K H' φ' s->Rw K H' φ' w v->D.rt v H'
 |.bk e s=>∀ σ' H' φ',Fw φ φ' H H'->Er K H' φ' e σ'->Sr K H' φ' s->D.bk σ' H'
 |.ct e s=>∀ σ' H' φ',Fw φ φ' H H'->Er K H' φ' e σ'->Sr K H' φ' s->D.ct σ' H'
theorem Ax.fw {K:qai}{φ φ1:List Addr}{H H1:Hp}{D:vz}{r:Fl} (h:Ax K φ H D r) (f:Fw φ φ1 H H1):Ax K φ1 H1 D r:=by
 cases r with
 |nx e s=>exact λσ' H' φ' f'=>h σ' H' φ' (f.trans f')
 |rt w s=>exact λv H' φ' f'=>h v H' φ' (f.trans f')
 |bk e s=>exact λσ' H' φ' f'=>h σ' H' φ' (f.trans f')
 |ct e s=>exact λσ' H' φ' f'=>h σ' H' φ' (f.trans f')
def tS (K:qai) (env:Ev) (st:Sto) (r:Fl):TS:=λD σ H=>∃ φ,Er K H φ env σ/\Sr K H φ st/\Ax K φ H D r
structure IS (K:qai) (X:Cx) (s:Stmt) (g:Sf):Prop where
 run:∀ env st r,g env st=some r->PS X s (tS K env st r)
structure ISs (K:qai) (X:Cx) (s:List Stmt) (g:Sf):Prop where
 run:∀ env st r,g env st=some r->PSs X s (tS K env st r)
inductive Tg where
 |nm (i:Nat)|tp (is:List Nat)
def C1:Tg->List Nat
 |.nm i=>[i]
 |.tp is=>is
def qr:List Nat->List D->Ev->Ev
 |i::is,d::ds,env=>qr is ds (env.set i (some (.d d)))
 |_,_,env=>env
def fM:Tg->W->Ev->Option Ev
 |.nm i,w,env=>some (env.set i (some w))
 |.tp is,.d (.tup ds),env=>if is.length=ds.length then some (qr is ds env) else none
 |.tp is,.d (.lst ds),env=>if is.length=ds.length then some (qr is ds env) else none
 |_,_,_=>none
def CI (is:List Nat) (σ σ':St):Prop:=σ'.length=σ.length/\∀ j,j∉is->σ'[j]?=σ[j]?
def tG (K:qai) (g:Tg):TG:=λv σ H Q=>∃ φ st env w env',Er K H φ env σ/\Sr K H φ st/\Rw K H φ w v/\fM g w env=some env'/\∀ σ',Er K H φ env' σ'->CI (C1 g) σ σ'->Q σ' H
def tGs (K:qai) (is:List Nat):TGs:=λvs σ H Q=>∃ φ st env ds,Er K H φ env σ/\Sr K H φ st/\Rls K H φ ds vs/\is.length=ds.length/\∀ σ',Er K H φ (qr is ds env) σ'->CI is σ σ'->Q σ' H
def fg:Sf
 |env,st=>some (.nx env st)
def az (a b:Sf):Sf
 |env,st=>(a env st).bind λr=>match r with
 |.nx e s=>b e s
 |r=>some r
def bf (g:Tg) (f:Ef):Sf
 |env,st=>(f env st).bind λr=>(fM g r.1 env).map λe=>.nx e r.2
def t7 (i j:Nat) (a:Af):Sf
 |env,st=>(a env st).bind λr=>match r.1 with
 |[x,y]=>some (.nx ((env.set i (some x)).set j (some y)) r.2)
 |_=>none
def vW (st:Sto) (o i v:W):Option Sto:=match o,i,v with
 |.h n,.d (.int k),.d x=>(lg st n).bind λds=>(ixN ds.length k).map λj=>st.set n (.l (ds.set j x))
 |_,_,_=>none
def pV (o i v:Ef):Sf
 |env,st=>(v env st).bind λrv=>(o env rv.2).bind λro=>(i env ro.2).bind λri=>(vW ri.2 ro.1 ri.1 rv.1).map λs=>.nx env s
def bG (f:Ef):Sf
 |env,st=>(f env st).map λr=>.rt r.1 r.2
def jh (f:Ef):Sf
 |env,st=>(f env st).map λr=>.nx env r.2
def gE (c:Tf) (a b:Sf):Sf
 |env,st=>(c env st).bind λr=>if r.1=true then a env r.2 else b env r.2
def lG (g:Tg) (body:Sf):List D->Ev->Sto->Option Fl
 |[],env,st=>some (.nx env st)
 |d::ds,env,st=>(fM g (.d d) env).bind λe=>(body e st).bind λr=>match r with
  |.nx e s=>lG g body ds e s
  |.ct e s=>lG g body ds e s
  |.bk e s=>some (.nx e s)
  |.rt w s=>some (.rt w s)
def gB (fi:Lf) (g:Tg) (body:Sf):Sf
 |env,st=>(fi env st).bind λr=>lG g body r.1 env r.2
def di (c:Tf) (body:Sf):Nat->Ev->Sto->Option Fl
 |0,_,_=>none
 |n+1,env,st=>(c env st).bind λk=>if k.1=true then (body env k.2).bind λr=>match r with
   |.nx e s=>di c body n e s
   |.ct e s=>di c body n e s
   |.bk e s=>some (.nx e s)
   |.rt w s=>some (.rt w s)
  else some (.nx env k.2)
def lcI (g:Tg) (tt:Tf) (te:Ef) (env:Ev):List D->Sto->Option (List D×Sto)
 |[],st=>some ([],st)
 |d::ds,st=>(fM g (.d d) env).bind λe=>(tt e st).bind λb=>if b.1=true then (te e b.2).bind λx=>(mT [x.1]).bind λys=>(lcI g tt te env ds x.2).map λr=>(ys++r.1,r.2)
   else lcI g tt te env ds b.2
def nQ (k:Nat) (js:List Nat) (env:Ev):Ev:=qaV k none++js.map λj=>env.getD j none
def iLc (k:Nat) (js:List Nat) (fi:Lf) (g:Tg) (tt:Tf) (te:Ef):Lf
 |env,st=>(fi env st).bind λr=>if r.1.length<=1000000 then lcI g tt te (nQ k js env) r.1 r.2 else none
def cr:Tf
 |_,st=>some (true,st)
def aH (f:Ef):Lf
 |env,st=>(f env st).bind λr=>match r.1 with
 |.d (.tup ds)=>some (ds,r.2)
 |.d (.lst ds)=>some (ds,r.2)
 |_=>none
def gk (lo:Int) (n:Nat):List D:=(qaN n).map λk:Nat=>D.int (lo+k)
def dG (a:Af):Lf
 |env,st=>(a env st).bind λr=>match r.1 with
 |[.d (.int j)]=>if -(2^62)<=j/\j<2^62 then some (gk 0 j.toNat,r.2) else none
 |_=>none
def cZ:Nat->List D->List D
 |_,[]=>[]
 |k,d::ds=>.tup [.int k,d]::cZ (k+1) ds
def kU (a:Af):Lf
 |env,st=>(a env st).bind λr=>match r.1 with
 |[.d (.tup ds)]=>some (cZ 0 ds,r.2)
 |[.d (.lst ds)]=>some (cZ 0 ds,r.2)
 |_=>none
section
variable {K:qai}{X:Cx}{pos:Pos}
theorem PS.imp {s:Stmt}{t t':TS} (h:PS X s t) (m:∀ D σ H,t' D σ H->t D σ H):PS X s t':=λpins s σ H D I q=>h pins s σ H D I (m D σ H q)
theorem PSs.imp {s:List Stmt}{t t':TS} (h:PSs X s t) (m:∀ D σ H,t' D σ H->t D σ H):PSs X s t':=λpins s σ H D I q=>h pins s σ H D I (m D σ H q)
theorem Er.set {H:Hp}{φ:List Addr}{env:Ev}{σ:St} (h:Er K H φ env σ) (i:Nat) {w:W}{v:V} (r:Rw K H φ w v):Er K H φ (env.set i (some w)) (σ.set i (some v)):=by
 refine⟨by rw[qcY,qcY,h.len],λj w' e=>?_⟩
 by_cases hj:i=j
 ·subst hj
  have hi:i<env.length:=by
   have:=(qax.mp e).1
   rwa [qcY]at this
  rw[qdd hi]at e
  cases e
  exact⟨v,by rw[qdd (by rw[<-h.len];exact hi)],r⟩
 ·rw[qcu hj]at e
  obtain⟨v',e1,r1⟩:=h.at_ j w' e
  exact⟨v',by rw[qcu hj];exact e1,r1⟩
theorem z7 (i:Nat) (σ:St) (v:Option V):CI [i] σ (σ.set i v):=⟨by rw[qcY],λj hj=>by rw[qcu (by rintro rfl;simp at hj)]⟩
theorem bh {i:Nat}{x:Str} (h:PG X (.Name x pos) (uH i)):PG X (.Name x pos) (tG K (.nm i)):=by
 intro pins s σ H v u Q I rv q
 obtain⟨φ,st,env,w,env',hE,hS,r,e,q⟩:=q
 cases e
 exact h pins s σ H v u Q I rv (q _ (hE.set i r) (z7 i σ _))
theorem dX:PGs X [] (tGs K []):=by
 intro pins s σ H vs us Q I rv q
 obtain⟨φ,st,env,ds,hE,hS,r,e,q⟩:=q
 cases ds with
 |nil=>cases r;exact DR pins s σ H [] us Q I rv ⟨rfl,q σ hE ⟨rfl,λ_ _=>rfl⟩⟩
 |cons _ _=>cases e
theorem bq {i:Nat}{is:List Nat}{x:Str}{es:List Expr} (h1:PG X (.Name x pos) (uH i)) (h2:PGs X es (tGs K is)):PGs X (.Name x pos::es) (tGs K (i::is)):=by
 intro pins s σ H vs us Q I rv q
 obtain⟨φ,st,env,ds,hE,hS,r,e,q⟩:=q
 cases ds with
 |nil=>cases e
 |cons d ds=>
  obtain⟨v,vr,rfl,r1,r2⟩:=r
  refine A2 h1 h2 (ym rfl) pins s σ H _ us Q I rv ⟨v,vr,rfl,φ,st,_,ds,hE.set i (w:=.d d) r1,hS,r2,by simpa using e,λσ' e' s'=>q σ' e' ?_⟩
  refine⟨by rw[s'.1,qcY],λj hj=>?_⟩
  rw[s'.2 j (λz=>hj (qah _ z)),qcu (by rintro rfl;exact hj qak)]
def HX (K:qai) (n:Nat) (t:TGs):TG:=λv σ H Q=>∃ a xs,v=.ref a/\SqL K H a xs/\xs.length=n/\t xs σ H Q
theorem Fd {es:List Expr}{k:Nat}{t:TGs}{n:Nat} (hc:X.calm=true) (h:PGs X es t) (hn:(qcd es X.env).length=n) (hst:(qcd es X.env).findIdx? (·.1)=none):PG X (.Tuple es k pos) (HX X.K n t):=by
 intro pins s σ H v u Q I r hw
 obtain⟨a,xs,e1,hq,hl,hw⟩:=hw
 subst e1
 cases r
 obtain⟨its,rv,p,hz⟩:=I.list hq
 rw[assign_Tuple]
 refine qaa (qfq ?_)
 unfold unpack
 rw[show (qcd es X.env).length=its.toArray.size by simp[hn,<-hl,rv.length],hst]
 refine qaa (qbk (PySem.W.kun_itemsOf (I.ok.hd hc) p.isList λh' hx=>?_))
 have I1:Inv X pins σ H { s with heap:=h' }:=I.kept (t':=s.toks) λb o e=>hx b o (qar (qao e)) e
 exact h pins _ σ H xs _ Q I1 (by simpa using rv) hw
theorem gD {es:List Expr}{k n:Nat}{is:List Nat} (h:PGs X es (tGs K is)) (hes:es.all aU=true:=by rfl) (hn:es.length=n:=by rfl) (hi:is.length=n:=by rfl) (hc:X.calm=true:=by rfl) (hK:X.K=K:=by rfl):PG X (.Tuple es k pos) (tG K (.tp is)):=by
 subst hK
 intro pins s σ H v u Q I rv q
 obtain⟨φ,st,env,w,env',hE,hS,r,e,q⟩:=q
 cases w with
 |h n=>cases e
 |d x=>
  cases x with
  |tup ds=>
   have e':(if is.length=ds.length then some (qr is ds env) else none)=some env':=e
   by_cases hl:is.length=ds.length
   ·rw[if_pos hl]at e'
    cases e'
    obtain⟨a,vs,rfl,hq,hr⟩:=r
    exact FC hc h ((tD hes).trans hn) (oU hes) pins s σ H _ u Q I rv ⟨a,vs,rfl,(SqT.of hq),by rw[<-hr.length,<-hl,hi],φ,st,env,ds,hE,hS,hr,hl,q⟩
   ·rw[if_neg hl]at e'
    cases e'
  |lst ds=>
   have e':(if is.length=ds.length then some (qr is ds env) else none)=some env':=e
   by_cases hl:is.length=ds.length
   ·rw[if_pos hl]at e'
    cases e'
    obtain⟨a,vs,rfl,_,hq,hr⟩:=r
    exact Fd hc h ((tD hes).trans hn) (oU hes) pins s σ H _ u Q I rv ⟨a,vs,rfl,.inl hq,by rw[<-hr.length,<-hl,hi],φ,st,env,ds,hE,hS,hr,hl,q⟩
   ·rw[if_neg hl]at e'
    cases e'
  |_=>cases e
variable {s:Stmt}{ss rest:List Stmt}{e a b c:Expr}{ga gb:Sf}{f fa fb fc:Ef}
theorem cJ:ISs K X [] fg:=by
 refine⟨λenv st r hr=>?_⟩
 cases hr
 exact Cg.imp λD σ H ⟨φ,hE,hS,q⟩=>q σ H φ (Fw.refl φ H) hE hS
theorem ao (h:IS K X s ga):ISs K X [s] ga:=⟨λenv st r hr=>CD (h.run env st r hr)⟩
theorem al (h1:IS K X s ga) (h2:ISs K X rest gb):ISs K X (s::rest) (az ga gb):=by
 refine⟨λenv st r hr=>?_⟩
 simp only[az,qac]at hr
 obtain⟨r1,e1,hr⟩:=hr
 cases r1 with
 |nx e s1=>
  refine (lF (h1.run _ _ _ e1) (h2.run _ _ _ hr)).imp ?_
  rintro D σ H ⟨φ,hE,hS,q⟩
  exact⟨φ,hE,hS,λσ' H' φ' f' e' s'=>⟨φ',e',s',q.fw f'⟩⟩
 |rt w s1=>
  cases hr
  exact (lF (h1.run _ _ _ e1) iy).imp λD σ H ⟨φ,hE,hS,q⟩=>⟨φ,hE,hS,q⟩
 |bk w s1=>
  cases hr
  exact (lF (h1.run _ _ _ e1) iy).imp λD σ H ⟨φ,hE,hS,q⟩=>⟨φ,hE,hS,q⟩
 |ct w s1=>
  cases hr
  exact (lF (h1.run _ _ _ e1) iy).imp λD σ H ⟨φ,hE,hS,q⟩=>⟨φ,hE,hS,q⟩
theorem aV {i:Nat}{x:Str}{pos':Pos} (hN:X.N.Nodup) (hi:X.N[i]?=some x) (hx:Loc X.env.scope x) (he:IE K X e f) (hs:qfg e (some (.Name x pos')) pos.line X.env=pure false:=by rfl) (hf:X.fn x=true\/X.env.scope.names.lookup x=some .local:=by first|exact .inl rfl|exact .inr rfl|assumption) :
  IS K X (.Assign [.Name x pos'] e pos) (bf (.nm i) f):=by
 refine⟨λenv st r hr=>?_⟩
 simp only[bf,fM,qac,qad]at hr
 obtain⟨y,hy,e',ee,rfl⟩:=hr
 cases ee
 refine (Ec hN hi hx (he.run _ _ _ hy) hs hf).imp ?_
 rintro D σ H ⟨φ,hE,hS,q⟩
 exact⟨φ,hE,hS,λv H1 φ1 f1 s1 w1=>q _ H1 φ1 f1 ((hE.fw hS f1).set i w1) s1⟩
theorem EX {tg:Expr}{g:Tg} (he:IE K X e f) (hg:PG X tg (tG K g)) (hs:qfr [tg] e pos.line X.env=pure false:=by rfl) (hw:qfs [tg] e X.env=pure none:=by rfl)
  (h1:aU tg=true:=by rfl):IS K X (.Assign [tg] e pos) (bf g f):=by
 refine⟨λenv st r hr=>?_⟩
 simp only[bf,qac,qad]at hr
 obtain⟨y,hy,e',ee,rfl⟩:=hr
 refine (wE (he.run _ _ _ hy) hg hs hw (tU h1)).imp ?_
 rintro D σ H ⟨φ,hE,hS,q⟩
 exact⟨φ,hE,hS,λv H1 φ1 f1 s1 w1=>⟨φ1,y.2,env,y.1,e',hE.fw hS f1,s1,w1,ee,λσ' e'' _=>q σ' H1 φ1 f1 e'' s1⟩⟩
theorem Sr.putC {H:Hp}{φ:List Addr}{st:Sto}{n:Nat}{a:Addr}{o:HO}{c:C} (S:Sr K H φ st) (hn:φ[n]?=some a) (w:Fw φ φ H (upd H a o)->Rc K (upd H a o) φ n a c) :
  Fw φ φ H (upd H a o)/\Sr K (upd H a o) φ (st.set n c):=by
 have ha:a∈φ:=qbl hn
 have f:Fw φ φ H (upd H a o):=⟨⟨[],by simp,by simp⟩,λb o hb h=>by rw[aN (λz=>hb (by rw[z];exact ha))];exact h,λb o h=>by
  by_cases z:b=a
  ·subst z;exact⟨_,bj⟩
  ·exact⟨o,by rw[aN z];exact h⟩⟩
 refine⟨f,S.nd,by rw[qcY];exact S.len,λm b es e1 e2=>?_⟩
 by_cases hm:n=m
 ·subst hm
  rw[e1]at hn;cases hn
  have hl:n<st.length:=by rw[<-S.len];exact (qax.mp e1).1
  rw[qdd hl]at e2
  cases e2
  exact w f
 ·rw[qcu hm]at e2
  have q:=S.at_ m b es e1 e2
  have hne:b≠a:=by
   rintro rfl
   obtain⟨h1,h1'⟩:=qax.mp hn
   obtain⟨h2,h2'⟩:=qax.mp e1
   exact hm ((qg0 S.nd).mp (h1'.trans h2'.symm))
  exact q.fw S f λo h=>by rw[aN hne];exact h
theorem Sr.put {H:Hp}{φ:List Addr}{st:Sto}{n:Nat}{a:Addr}{vs:List V}{ds:List D} (S:Sr K H φ st) (hn:φ[n]?=some a) (w:Rls K H φ ds vs) :
  Fw φ φ H (upd H a (.lst vs))/\Sr K (upd H a (.lst vs)) φ (st.set n (.l ds)):=S.putC hn λf=>⟨vs,bj,w.fw S f⟩
theorem wt {st s':Sto}{o i v:W} (h:vW st o i v=some s'):∃ n k x ds j,o=.h n/\i=.d (.int k)/\v=.d x/\lg st n=some ds/\ixN ds.length k=some j/\s'=st.set n (.l (ds.set j x)):=by
 unfold vW at h
 split at h
 ·obtain⟨ds,e1,h⟩:=qac.mp h
  obtain⟨j,e2,h⟩:=qad.mp h
  exact⟨_,_,_,ds,j,rfl,rfl,rfl,e1,e2,h.symm⟩
 ·cases h
theorem zQ {tpos:Pos} (ho:IE K X a fa) (hi:IE K X b fb) (hv:IE K X e f) (hb:mE b=true:=by rfl) (hs:qfr [.Subscript a b tpos] e pos.line X.env=pure false:=by rfl) (hw:qfs [.Subscript a b tpos] e X.env=pure none:=by rfl) :
  IS K X (.Assign [.Subscript a b tpos] e pos) (pV fa fb f):=by
 refine⟨λenv st r hr=>?_⟩
 simp only[pV,qac,qad]at hr
 obtain⟨rv,ev,ro,eo,ri,ei,s',es,rfl⟩:=hr
 refine (wE (hv.run _ _ _ ev) (AQ (ho.run _ _ _ eo) (hi.run _ _ _ ei) uc (xq hb)) hs hw (tU rfl)).imp ?_
 rintro D σ H ⟨φ,hE,hS,q⟩
 refine⟨φ,hE,hS,λv H1 φ1 f1 s1 w1=>⟨φ1,hE.fw hS f1,s1,λo H2 φ2 f2 s2 w2=>⟨φ2,(hE.fw hS f1).fw s1 f2,s2,λi H3 φ3 f3 s3 w3=>?_⟩⟩⟩
 have e3:=((hE.fw hS f1).fw s1 f2).fw s2 f3
 have w1':=(w1.fw s1 f2).fw s2 f3
 have w2':=w2.fw s2 f3
 obtain⟨ro1,ro2⟩:=ro
 obtain⟨rv1,rv2⟩:=rv
 obtain⟨ri1,ri2⟩:=ri
 obtain⟨n,k,x,ds,j,rfl,rfl,rfl,eds,ej,rfl⟩:=wt es
 obtain⟨p,ep,rfl⟩:=w2'
 obtain⟨vs,hp,rl⟩:=s3.atl n p ds ep eds
 have w3':i=.int k:=w3
 subst w3'
 obtain⟨f4,s4⟩:=s3.put ep (Rls.set j rl w1')
 refine⟨p,vs,k,j,rfl,rfl,hp,by rw[<-rl.length];exact ej,?_⟩
 exact q _ _ φ3 (((f1.trans f2).trans f3).trans f4) (e3.fw s3 f4) s4
theorem aJ (h:IE K X e f):IS K X (.Return (some e) pos) (bG f):=by
 refine⟨λenv st r hr=>?_⟩
 simp only[bG,qad]at hr
 obtain⟨y,hy,rfl⟩:=hr
 exact (EN (h.run _ _ _ hy)).imp λD σ H ⟨φ,hE,hS,q⟩=>⟨φ,hE,hS,q⟩
theorem nW (h:IE K X e f) (hs:qfg e none pos.line X.env=pure false:=by rfl):IS K X (.Expr e pos) (jh f):=by
 refine⟨λenv st r hr=>?_⟩
 simp only[jh,qad]at hr
 obtain⟨y,hy,rfl⟩:=hr
 exact (CM (h.run _ _ _ hy) hs).imp λD σ H ⟨φ,hE,hS,q⟩=>⟨φ,hE,hS,λv H1 φ1 f1 s1 w1=>q σ H1 φ1 f1 (hE.fw hS f1) s1⟩
theorem gH {tc:Tf}{sa sb:List Stmt} (hc:IT K X c tc) (ha:ISs K X sa ga) (hb:ISs K X sb gb):IS K X (.If c sa sb pos) (gE tc ga gb):=by
 refine⟨λenv st r hr=>?_⟩
 simp only[gE,qac]at hr
 obtain⟨⟨k,s1⟩,hx,hr⟩:=hr
 cases k with
 |true=>
  rw[if_pos rfl]at hr
  refine (DV (hc.run _ _ _ hx) (ha.run _ _ _ hr) iy).imp ?_
  rintro D σ H ⟨φ,hE,hS,q⟩
  refine⟨φ,hE,hS,λH1 φ1 f1 s1=>yB ?_⟩
  exact⟨φ1,hE.fw hS f1,s1,q.fw f1⟩
 |false=>
  rw[if_neg qan]at hr
  refine (DV (hc.run _ _ _ hx) iy (hb.run _ _ _ hr)).imp ?_
  rintro D σ H ⟨φ,hE,hS,q⟩
  refine⟨φ,hE,hS,λH1 φ1 f1 s1=>zq ?_⟩
  exact⟨φ1,hE.fw hS f1,s1,q.fw f1⟩
def GP (K:qai) (g:Sf):TS:=λD σ H=>∃ env st r,g env st=some r/\tS K env st r D σ H
def DX (K:qai) (f:Ef):TE:=λσ H Q=>∃ env st r,f env st=some r/\tI K env st r σ H Q
def z9 (K:qai) (f:Tf):TT:=λσ H Q=>∃ env st r,f env st=some r/\tIT K env st r σ H Q
theorem ISs.any (h:ISs K X ss ga):PSs X ss (GP K ga):=λpins s σ H D I ⟨env,st,r,e,q⟩=>h.run env st r e pins s σ H D I q
theorem IE.any (h:IE K X e f):PE X e (DX K f):=λpins s σ H D I ⟨env,st,r,e,q⟩=>h.run env st r e pins s σ H D I q
theorem IT.any {tf:Tf} (h:IT K X e tf):PT X e (z9 K tf):=λpins s σ H D I ⟨env,st,r,e,q⟩=>h.run env st r e pins s σ H D I q
def Yl (K:qai) (φ0:List Addr) (H0:Hp) (J:It) (ds:List D):Prop:=∀ (H:Hp) (φ:List Addr) (st:Sto) (i:Nat),Fw φ0 φ H0 H->Sr K H φ st->
 (∀ d,ds[i]?=some d->J.go i H/\∀ x H',J.yld i H x H'->bL H H'/\Rl K H' φ d x)/\(ds.length=i->J.stop i H)
def tII (K:qai) (env:Ev) (st:Sto) (r:List D×Sto):TI:=λσ H R=>∃ φ,Er K H φ env σ/\Sr K H φ st/\∀ J H' φ',Fw φ φ' H H'->Sr K H' φ' r.2->Yl K φ' H' J r.1->R J H'
structure II (K:qai) (X:Cx) (tg iter:Expr) (f:Lf):Prop where
 run:∀ env st r,f env st=some r->PI X tg iter (tII K env st r)
theorem PI.imp {tg iter:Expr}{t t':TI} (h:PI X tg iter t) (m:∀ σ H R,t' σ H R->t σ H R):PI X tg iter t':=λpins s σ H R I q=>h pins s σ H R I (m σ H R q)
variable {tg:Expr}
end
section
variable {K:qai}{X:Cx}{pos:Pos}{tg e a b:Expr}{f:Ef}{af:Af}
theorem bK (h:IE K X e f) (hK:X.K=K:=by rfl):II K X tg e (aH f):=by
 subst hK
 refine⟨λenv st r hr=>?_⟩
 simp only[aH,qac]at hr
 obtain⟨⟨w,s1⟩,hy,hr⟩:=hr
 dsimp only at hr
 split at hr
 next ds=>
  cases hr
  refine (EC (h.run _ _ _ hy)).imp ?_
  rintro σ H R ⟨φ,hE,hS,q⟩
  refine⟨φ,hE,hS,λv H1 φ1 f1 s1 w1=>?_⟩
  obtain⟨a,vs,rfl,hq,hr⟩:=w1
  refine⟨a,rfl,⟨vs,(SqT.of hq)⟩,q _ H1 φ1 f1 s1 λH2 φ2 st2 i f2 s2=>?_⟩
  have hq2:=(SqT.of hq).fw s1 f2
  have hr2:=hr.fw s1 f2
  refine⟨λd hd=>?_,λhi=>⟨vs,hq2,by rw[<-hr2.length];exact qej hi⟩⟩
  obtain⟨v,ev,rv⟩:=hr2.get hd
  refine⟨⟨vs,v,hq2,ev⟩,λx H' y=>?_⟩
  obtain⟨rfl,y⟩:=y
  have:=y vs hq2
  rw[ev]at this
  cases this
  exact⟨bL.refl _,rv⟩
 next ds=>
  cases hr
  refine (xo (h.run _ _ _ hy)).imp ?_
  rintro σ H R ⟨φ,hE,hS,q⟩
  refine⟨φ,hE,hS,λv H1 φ1 f1 s1 w1=>?_⟩
  obtain⟨a,vs,rfl,h0,hq,hr⟩:=w1
  refine⟨a,rfl,⟨vs,.inl hq⟩,q _ H1 φ1 f1 s1 λH2 φ2 st2 i f2 s2=>?_⟩
  have hq2:SqL X.K H2 a vs:=.inl (hq.fw f2 h0)
  have hr2:=hr.fw s1 f2
  refine⟨λd hd=>?_,λhi=>⟨vs,hq2,by rw[<-hr2.length];exact qej hi⟩⟩
  obtain⟨v,ev,rv⟩:=hr2.get hd
  refine⟨⟨vs,v,hq2,ev⟩,λx H' y=>?_⟩
  obtain⟨rfl,y⟩:=y
  have:=y vs hq2
  rw[ev]at this
  cases this
  exact⟨bL.refl _,rv⟩
 next=>cases hr
theorem uf (lo:Int) (n i:Nat):(gk lo n)[i]?=if i<n then some (.int (lo+i)) else none:=by
 unfold gk
 rw[qaZ]
 by_cases h:i<n
 ·rw[List.getElem?_range h,if_pos h];rfl
 ·rw[qiB (by simpa using h),if_neg h];rfl
theorem cQ (lo:Int) (n:Nat):(gk lo n).length=n:=by unfold gk;rw[qag,qcy]
theorem Em (lo:Int) (n:Nat) {φ:List Addr}{H:Hp}:Yl K φ H (Itr lo n) (gk lo n):=by
 intro H2 φ2 st2 i f2 s2
 refine⟨λd hd=>?_,λhi=>by rw[cQ]at hi;exact qej hi⟩
 rw[uf]at hd
 by_cases h:i<n
 ·rw[if_pos h]at hd
  cases hd
  refine⟨h,λx H' y=>?_⟩
  obtain⟨rfl,rfl⟩:=y
  exact⟨bL.refl _,rfl⟩
 ·rw[if_neg h]at hd;cases hd
theorem eS {p:Pos} (hg:Gl X "range") (hm:X.mg "range" = none) (ha:IA K X [a] af) (hs:aU a=true:=by rfl):II K X tg (.Call (.Name "range" p) [a] [] pos) (dG af):=by
 refine⟨λenv st r hr=>?_⟩
 simp only[dG,qac]at hr
 obtain⟨⟨ws,s1⟩,hy,hr⟩:=hr
 dsimp only at hr
 split at hr
 next j=>
  have hr':(if -(2^62)<=j/\j<2^62 then some (gk 0 j.toNat,s1) else none)=some r:=hr
  by_cases hj:-(2^62)<=j/\j<2^62
  ·rw[if_pos hj]at hr'
   cases hr'
   refine (zx hg hm (ha.run _ _ _ hy) (oE hs)).imp ?_
   rintro σ H R ⟨φ,hE,hS,q⟩
   refine⟨φ,hE,hS,λvs H1 φ1 f1 s1 w1=>?_⟩
   obtain⟨v,r,rfl,r1,rfl⟩:=w1
   exact⟨j,by rw[show v=.int j from r1],hj.1,hj.2,q _ H1 φ1 f1 s1 (Em 0 _)⟩
  ·rw[if_neg hj]at hr';cases hr'
 next=>cases hr
theorem j5:∀ (ds:List D) (k i:Nat),(cZ k ds)[i]?=(ds[i]?).map λd=>D.tup [.int ((k+i:Nat):Int),d]
 |[],k,i=>by simp[cZ]
 |d::ds,k,0=>by simp[cZ]
 |d::ds,k,i+1=>by
  have:=j5 ds (k+1) i
  rw[show k+1+i=k+(i+1) by lia]at this
  simpa [cZ] using this
theorem iu:∀ (ds:List D) (k:Nat),(cZ k ds).length=ds.length
 |[],_=>rfl
 |d::ds,k=>by rw[cZ,qam,qam,iu ds]
theorem yp {S:Hp->List V->Prop}{ds:List D}{vs:List V}{φ:List Addr}{H:Hp} (hS:∀ H' φ',Fw φ φ' H H'->S H' vs) (hr:∀ H' φ',Fw φ φ' H H'->Rls K H' φ' ds vs):Yl K φ H (Ite S) (cZ 0 ds):=by
 intro H2 φ2 st2 i f2 s2
 have q2:=hS H2 φ2 f2
 have r2:=hr H2 φ2 f2
 refine⟨λd hd=>?_,λhi=>⟨vs,q2,by rw[<-r2.length,<-iu ds 0];exact hi⟩⟩
 rw[j5,qad]at hd
 obtain⟨d',hd',rfl⟩:=hd
 obtain⟨v,ev,rv⟩:=r2.get hd'
 refine⟨⟨vs,v,q2,ev⟩,λx H' y=>?_⟩
 obtain⟨T,v',y1,hT,rfl,rfl⟩:=y
 have:=y1 vs q2
 rw[ev]at this
 cases this
 refine⟨bL.new hT _,T,_,rfl,bj,_,_,rfl,?_,_,_,rfl,rv.fw s2 (Fw.new hT),rfl⟩
 show V.int (i:Int)=V.int ((0+i:Nat):Int)
 rw[qbt]
theorem tN {elts:List Expr}{k:Nat}{tpos p:Pos} (hg:Gl X "enumerate") (hm:X.mg "enumerate" = none) (ha:IA K X [a] af) (hs:aU a=true:=by rfl) (hK:X.K=K:=by rfl) :
  II K X (.Tuple elts k tpos) (.Call (.Name "enumerate" p) [a] [] pos) (kU af):=by
 subst hK
 refine⟨λenv st r hr=>?_⟩
 simp only[kU,qac]at hr
 obtain⟨⟨ws,s1⟩,hy,hr⟩:=hr
 dsimp only at hr
 split at hr
 next ds=>
  cases hr
  refine (AF hg hm (ha.run _ _ _ hy) (oE hs)).imp ?_
  rintro σ H R ⟨φ,hE,hS,q⟩
  refine⟨φ,hE,hS,λvs H1 φ1 f1 s1 w1=>?_⟩
  obtain⟨v,r,rfl,⟨a,us,rfl,hq,hr⟩,rfl⟩:=w1
  exact⟨a,rfl,⟨us,(SqT.of hq)⟩,q _ H1 φ1 f1 s1 (yp (λH' φ' f=>(SqT.of hq).fw s1 f) λH' φ' f=>hr.fw s1 f)⟩
 next ds=>
  cases hr
  refine (AV hg hm (ha.run _ _ _ hy) (oE hs)).imp ?_
  rintro σ H R ⟨φ,hE,hS,q⟩
  refine⟨φ,hE,hS,λvs H1 φ1 f1 s1 w1=>?_⟩
  obtain⟨v,r,rfl,⟨a,us,rfl,h0,hq,hr⟩,rfl⟩:=w1
  exact⟨a,rfl,⟨us,.inl hq⟩,q _ H1 φ1 f1 s1 (yp (λH' φ' f=>.inl (hq.fw f h0)) λH' φ' f=>hr.fw s1 f)⟩
 next=>cases hr
theorem dC {iter:Expr}{body:List Stmt}{fi:Lf}{g:Tg}{gb:Sf} (hi:II K X tg iter fi) (hg:PG X tg (tG K g)) (hb:ISs K X body gb) (hp:qio (model X.prog X.w) X.A X.env X.xe) (hc:X.calm=true:=by rfl)
  (hs:∀ x,qc8 iter X.env x=pure x:=by intro _;rfl):IS K X (.For tg iter body [] pos) (gB fi g gb):=by
 refine⟨λenv st r hr=>?_⟩
 simp only[gB,qac]at hr
 obtain⟨⟨ds,s1⟩,hy,hr⟩:=hr
 refine (AW hp hc (hi.run _ _ _ hy) hg hb.any hs).imp ?_
 rintro D σ H ⟨φ,hE,hS,q⟩
 refine⟨φ,hE,hS,λJ H1 φ1 f1 S1 yl=>?_⟩
 refine⟨λi m σ H=>m=ds.length - i/\i<=ds.length/\∃ env st φ2,Fw φ1 φ2 H1 H/\Er K H φ2 env σ/\Sr K H φ2 st/\lG g gb (ds.drop i) env st=some r,⟨ds.length,by simp,qaW _,env,s1,φ1,Fw.refl _ _,hE.fw hS f1,S1,hr⟩,?_⟩
 rintro i m σ H2 ⟨rfl,hi,env2,st2,φ2,f2,e2,S2,h2⟩
 obtain⟨y1,y2⟩:=yl H2 φ2 st2 i f2 S2
 by_cases hlt:i<ds.length
 ·obtain⟨go,yld⟩:=y1 ds[i] (qaE hlt)
  rw[qcl hlt]at h2
  simp only[lG,qac]at h2
  obtain⟨e3,he3,r3,hr3,h3⟩:=h2
  refine .inr ⟨go,λσ' H'=>i+1<=ds.length/\∃ env st φ2,Fw φ1 φ2 H1 H'/\Er K H' φ2 env σ'/\Sr K H' φ2 st/\lG g gb (ds.drop (i+1)) env st=some r,λσ' H' ⟨hn,p'⟩=>⟨ds.length - (i+1),by lia,rfl,hn,p'⟩,λx H' y=>?_⟩
  obtain⟨sm,rx⟩:=yld x H' y
  have S3:=S2.same sm
  have f3:=f2.trans (Fw.same (φ:=φ2) sm)
  refine⟨φ2,st2,env2,.d ds[i],e3,e2.fw S2 (Fw.same sm),S3,rx,he3,λσ' e' _=>?_⟩
  refine⟨e3,st2,r3,hr3,φ2,e',S3,?_⟩
  cases r3 with
  |nx e4 s4=>exact λσ4 H4 φ4 f4 e4' s4'=>⟨hlt,e4,s4,φ4,f3.trans f4,e4',s4',h3⟩
  |ct e4 s4=>exact λσ4 H4 φ4 f4 e4' s4'=>⟨hlt,e4,s4,φ4,f3.trans f4,e4',s4',h3⟩
  |bk e4 s4=>
   cases h3
   exact λσ4 H4 φ4 f4 e4' s4'=>q σ4 H4 φ4 (f1.trans (f3.trans f4)) e4' s4'
  |rt w s4=>
   cases h3
   exact λv H4 φ4 f4 s4' w4=>q v H4 φ4 (f1.trans (f3.trans f4)) s4' w4
 ·have hi':i=ds.length:=by lia
  subst hi'
  rw[qg1]at h2
  cases h2
  exact .inl ⟨y2 rfl,q σ H2 φ2 (f1.trans f2) e2 S2⟩
def p9 (n:Nat) (c:Tf) (b:Sf):Sf
 |env,st=>di c b n env st
theorem ui {c:Expr}{body:List Stmt}{tc:Tf}{gb:Sf} (n:Nat) (hc:IT K X c tc) (hb:ISs K X body gb) (hp:qio (model X.prog X.w) X.A X.env X.xe):IS K X (.While c body [] pos) (p9 n tc gb):=by
 refine⟨λenv st r hr=>?_⟩
 refine (Bn hp hc.any hb.any).imp ?_
 rintro D σ H ⟨φ,hE,hS,q⟩
 refine⟨λm σ H'=>∃ env st φ2,Fw φ φ2 H H'/\Er K H' φ2 env σ/\Sr K H' φ2 st/\di tc gb m env st=some r,⟨n,env,st,φ,Fw.refl _ _,hE,hS,hr⟩,?_⟩
 rintro m σ H2 ⟨env2,st2,φ2,f2,e2,S2,h2⟩
 cases m with
 |zero=>cases h2
 |succ m=>
  simp only[di,qac]at h2
  obtain⟨⟨k,s3⟩,hk,h2⟩:=h2
  refine⟨env2,st2,_,hk,φ2,e2,S2,λH3 φ3 f3 S3=>?_⟩
  cases k with
  |false=>
   rw[if_neg qan]at h2
   cases h2
   exact zq (q σ H3 φ3 (f2.trans f3) (e2.fw S2 f3) S3)
  |true=>
   simp only[if_true,qac]at h2
   obtain⟨r3,hr3,h3⟩:=h2
   refine yB ⟨λσ' H'=>∃ env st φ2,Fw φ φ2 H H'/\Er K H' φ2 env σ'/\Sr K H' φ2 st/\di tc gb m env st=some r,λσ' H' p'=>⟨m,qb7 _,p'⟩,?_⟩
   refine⟨env2,s3,r3,hr3,φ3,e2.fw S2 f3,S3,?_⟩
   have f3':=f2.trans f3
   cases r3 with
   |nx e4 s4=>exact λσ4 H4 φ4 f4 e4' s4'=>⟨e4,s4,φ4,f3'.trans f4,e4',s4',h3⟩
   |ct e4 s4=>exact λσ4 H4 φ4 f4 e4' s4'=>⟨e4,s4,φ4,f3'.trans f4,e4',s4',h3⟩
   |bk e4 s4=>
    cases h3
    exact λσ4 H4 φ4 f4 e4' s4'=>q σ4 H4 φ4 (f3'.trans f4) e4' s4'
   |rt w s4=>
    cases h3
    exact λv H4 φ4 f4 s4' w4=>q v H4 φ4 (f3'.trans f4) s4' w4
structure ITs (K:qai) (X:Cx) (ifs:List Expr) (t:Tf):Prop where
 run:PTs X ifs (z9 K t)
theorem cF:ITs K X [] cr:=by
 refine⟨λpins s σ H Q I ⟨env,st,r,e,φ,hE,hS,q⟩=>?_⟩
 cases e
 exact Dk pins s σ H Q I (q H φ (Fw.refl φ H) hS)
theorem fL {c:Expr}{t:Tf} (h:IT K X c t):ITs K X [c] t:=⟨DJ h.any⟩
theorem Er.emb {H:Hp}{φ:List Addr}{env:Ev}{σ:St} (h:Er K H φ env σ) (k:Nat) (js:List Nat):Er K H φ (nQ k js env) (i6 k js σ):=by
 refine⟨by unfold nQ i6;simp,λi w e=>?_⟩
 unfold nQ at e
 unfold i6
 by_cases hi:i<k
 ·rw[qa2 (by simpa using hi),qdV,if_pos hi]at e
  cases e
 ·rw[qbi (by simpa using hi),qdo,qaZ,qad]at e
  obtain⟨j,ej,e⟩:=e
  have ej2:env[j]?=some (some w):=by
   rw[qiC]at e
   cases q:env[j]? with
   |none=>rw[q]at e;cases e
   |some o=>rw[q]at e;rw[show o=some w from e]
  obtain⟨v,ev,rv⟩:=h.at_ j w ej2
  refine⟨v,?_,rv⟩
  rw[qbi (by simpa using hi),qdo,qaZ,ej]
  show some ((σ[j]?).getD none)=_
  rw[ev];rfl
theorem Sub.stay {k:Nat}{js is:List Nat}{σ σ':St} (h:CI is (i6 k js σ) σ') (hi:∀ j∈is,j<k):Sub (i6 k js σ) σ':=by
 refine⟨h.1.symm,λj v e=>?_⟩
 by_cases hj:j∈is
 ·have:=hi j hj
  unfold i6 at e
  rw[qa2 (by simpa using this),qdV,if_pos this]at e
  cases e
 ·rw[h.2 j hj];exact e
theorem B7 {k:Nat}{js:List Nat}{g:Tg}{tt:Tf}{te:Ef}{env:Ev}{st s1:Sto}{ds:List D}{r:List D×Sto} (hgi:∀ j∈C1 g,j<k) (hdl:ds.length<=1000000) (hr':lcI g tt te (nQ k js env) ds s1=some r) :
  ∀ σ H Q,tIL K env st r σ H Q->tLc (i6 k js) (tII K env st (ds,s1)) (tG K g) (z9 K tt) (DX K te) σ H Q:=by
 rintro σ H Q ⟨φ,hE,hS,q⟩
 refine⟨φ,hE,hS,λJ H1 φ1 f1 S1 yl=>?_⟩
 have hE1:=(hE.fw hS f1).emb k js
 refine⟨λi m ys H2=>m=ds.length - i/\i<=ds.length/\∃ st φ2 es r2,Fw φ1 φ2 H1 H2/\Sr K H2 φ2 st/\Rls K H2 φ2 es ys/\es.length<=i/\lcI g tt te (nQ k js env) (ds.drop i) st=some r2/\r=(es++r2.1,r2.2),⟨ds.length,by simp,qaW _,s1,φ1,[],r,Fw.refl _ _,S1,rfl,qap _,hr',rfl⟩,?_⟩
 rintro i m ys H2 ⟨rfl,hi,st2,φ2,es,r2,f2,S2,rl2,hle,h2,rfl⟩
 obtain⟨y1,y2⟩:=yl H2 φ2 st2 i f2 S2
 by_cases hlt:i<ds.length
 ·obtain⟨go,yld⟩:=y1 ds[i] (qaE hlt)
  rw[qcl hlt]at h2
  simp only[lcI,qac]at h2
  obtain⟨e3,he3,⟨kb,s3⟩,hb3,h3⟩:=h2
  have hz:ys.length<qaO:=by
   rw[<-rl2.length]
   have:qaO=16777216:=qbM
   lia
  refine .inr ⟨go,hz,λys' H'=>i+1<=ds.length/\∃ st φ2 es' r2',Fw φ1 φ2 H1 H'/\Sr K H' φ2 st/\Rls K H' φ2 es' ys'/\es'.length<=i+1/\lcI g tt te (nQ k js env) (ds.drop (i+1)) st=some r2'/\(es++r2.1,r2.2)=(es'++r2'.1,r2'.2),λys' H' ⟨hn,p'⟩=>⟨ds.length - (i+1),by lia,rfl,hn,p'⟩,λx H' y=>?_⟩
  obtain⟨sm,rx⟩:=yld x H' y
  have S3:=S2.same sm
  have f3:=f2.trans (Fw.same (φ:=φ2) sm)
  refine⟨φ2,st2,nQ k js env,.d ds[i],e3,hE1.fw S1 f3,S3,rx,he3,λσ' e' stay=>⟨Sub.stay stay hgi,?_⟩⟩
  refine⟨e3,st2,_,hb3,φ2,e',S3,λH4 φ4 f4 S4=>?_⟩
  cases kb with
  |false=>
   rw[if_neg qan]at h3
   exact zq ⟨hlt,s3,φ4,es,r2,f3.trans f4,S4,(rl2.fw S2 (Fw.same sm)).fw S3 f4,by lia,h3,rfl⟩
  |true=>
   simp only[if_true,qac,qad]at h3
   obtain⟨x5,hx5,zs,hzs,r5,hr5,rfl⟩:=h3
   refine yB ⟨e3,s3,x5,hx5,φ4,e'.fw S3 f4,S4,λv H5 φ5 f5 S5 w5=>?_⟩
   obtain⟨x5,s5⟩:=x5
   cases x5 with
   |h n=>cases hzs
   |d z=>
    cases hzs
    refine⟨hlt,s5,φ5,es++[z],r5,(f3.trans f4).trans f5,S5,(((rl2.fw S2 (Fw.same sm)).fw S3 f4).fw S4 f5).append ⟨v,[],rfl,w5,rfl⟩,by rw[qa4];simp;lia,hr5,?_⟩
    simp
 ·have hi':i=ds.length:=by lia
  subst hi'
  rw[qg1]at h2
  cases h2
  refine .inl ⟨y2 rfl,λDn hD=>?_⟩
  have:=q Dn ys H2 φ2 (f1.trans f2) S2 hD
  exact this (by simpa using rl2)
theorem dl {scope:Scope}{Nc:List Str}{k:Nat}{js:List Nat}{elt iter:Expr}{ifs:List Expr}{fi:Lf}{g:Tg}{tt:Tf}{te:Ef}
  (S:gG X scope Nc (i6 k js)) (hc:X.calm=true) (hgi:∀ j∈C1 g,j<k) (hi:II K X tg iter fi)
  (hg:∀ cells s H C fp,PG (lcX X scope cells Nc s H C fp) tg (tG K g)) (ht:∀ cells s H C fp,ITs K (lcX X scope cells Nc s H C fp) ifs tt) (he:∀ cells s H C fp,IE K (lcX X scope cells Nc s H C fp) elt te)
  (hs:∀ x,qc8 iter X.env x=pure x:=by intro _;rfl):IL K X (.ListComp elt [⟨tg,iter,ifs,0⟩] scope pos) (iLc k js fi g tt te):=by
 refine⟨λenv st r hr=>?_⟩
 simp only[iLc,qac]at hr
 obtain⟨⟨ds,s1⟩,hy,hr⟩:=hr
 have hr':(if ds.length<=1000000 then lcI g tt te (nQ k js env) ds s1 else none)=some r:=hr
 by_cases hdn:¬ ds.length<=1000000
 ·rw[if_neg hdn]at hr';cases hr'
 have hdl:ds.length<=1000000:=by lia
 rw[if_pos hdl]at hr'
 refine (Hq S hc (hi.run _ _ _ hy) hg (λcells s H C fp=>(ht cells s H C fp).run) (λcells s H C fp=>(he cells s H C fp).any) hs).imp (B7 hgi hdl hr')
theorem BQ {scope:Scope}{Nc:List Str}{k:Nat}{js:List Nat}{elt iter:Expr}{ifs:List Expr}{fi:Lf}{g:Tg}{tt:Tf}{te:Ef}{i0:Nat}{x0:Str}{py spos:Pos}
  (hN0:X.N.Nodup) (hi0:X.N[i0]?=some x0) (hx0:Loc X.env.scope x0) (S:gG X scope Nc (i6 k js)) (hc:X.calm=true) (hgi:∀ j∈C1 g,j<k) (hi:II K X tg iter fi)
  (hg:∀ cells s H C fp,PG (lcX X scope cells Nc s H C fp) tg (tG K g)) (ht:∀ cells s H C fp,ITs K (lcX X scope cells Nc s H C fp) ifs tt) (he:∀ cells s H C fp,IE K (lcX X scope cells Nc s H C fp) elt te)
  (hsw:qfg (.ListComp elt [⟨tg,iter,ifs,0⟩] scope pos) (some (.Name x0 py)) spos.line X.env=pure true:=by rfl)
  (hf0:X.fn x0=true\/X.env.scope.names.lookup x0=some .local:=by first|exact .inl rfl|exact .inr rfl|assumption)
  (hs:∀ x,qc8 iter X.env x=pure x:=by intro _;rfl):IS K X (.Assign [.Name x0 py] (.ListComp elt [⟨tg,iter,ifs,0⟩] scope pos) spos) (bf (.nm i0) (aM (iLc k js fi g tt te)))/\
   IS K X (.Assign [.Name x0 py] (.ListComp elt [⟨tg,iter,ifs,0⟩] scope pos) spos) (bf (.nm i0) (pj (iLc k js fi g tt te))):=by
 have key:∀ env st r0 r,iLc k js fi g tt te env st=some r->(∀ σ φ H (D:vz),Er K H φ env σ->Sr K H φ st->Ax K φ H D r0->∀ a vs H1 φ',Fw φ φ' H H1->Sr K H1 φ' r.2->H1 a=none->Rls K H1 φ' r.1 vs->D.nx (σ.set i0 (some (.ref a))) (upd H1 a (.lst vs)))->
   PS X (.Assign [.Name x0 py] (.ListComp elt [⟨tg,iter,ifs,0⟩] scope pos) spos) (tS K env st r0):=by
  intro env st r0 r hr h
  simp only[iLc,qac]at hr
  obtain⟨⟨ds,s1⟩,hy,hr⟩:=hr
  have hr':(if ds.length<=1000000 then lcI g tt te (nQ k js env) ds s1 else none)=some r:=hr
  by_cases hdn:¬ ds.length<=1000000
  ·rw[if_neg hdn]at hr';cases hr'
  have hdl:ds.length<=1000000:=by lia
  rw[if_pos hdl]at hr'
  refine (GZ hN0 hi0 hx0 S hc (hi.run _ _ _ hy) hg (λcells s H C fp=>(ht cells s H C fp).run) (λcells s H C fp=>(he cells s H C fp).any) hsw hf0 hs).imp ?_
  rintro D σ H ⟨φ,hE,hS,q⟩
  exact B7 hgi hdl hr' σ H _ ⟨φ,hE,hS,h σ φ H D hE hS q⟩
 constructor
 ·refine⟨λenv st r hr=>?_⟩
  simp only[bf,aM,fM,qac,qad]at hr
  obtain⟨y,⟨r2,hy,rfl⟩,e',ee,rfl⟩:=hr
  cases ee
  refine key _ _ _ _ hy λσ φ H D hE hS q a vs H1 φ1 f1 s1 n1 w1=>?_
  exact q _ _ φ1 (f1.trans (Fw.new n1)) ((((hE.fw hS f1).fw s1 (Fw.new n1))).set i0 (w:=.d (.lst r2.1)) ⟨a,vs,rfl,s1.nin n1,.inl bj,w1.fw s1 (Fw.new n1)⟩) (s1.new n1)
 ·refine⟨λenv st r hr=>?_⟩
  simp only[bf,pj,fM,qac,qad]at hr
  obtain⟨y,⟨r2,hy,rfl⟩,e',ee,rfl⟩:=hr
  cases ee
  refine key _ _ _ _ hy λσ φ H D hE hS q a vs H1 φ1 f1 s1 n1 w1=>?_
  exact q _ _ (φ1++[a]) (f1.trans (Fw.more n1)) (((hE.fw hS f1).fw s1 (Fw.more n1)).set i0 (w:=.h r2.2.length) ⟨a,by rw[<-s1.len];simp,rfl⟩) (s1.more n1 w1)
end
def cM (n k:Nat) (b:Sf):Fn
 |ws,st=>if ws.length=k then (b (ws.map some++qaV (n - k) none) st).bind λr=>match r with
 |.nx _ s=>some (.d .non,s)
 |.rt w s=>some (w,s)
 |_=>none
 else none
def Dx (n:Nat) (w:W) (s:Sto):Option (W×Sto):=match w with
 |.d x=>some (.d x,s.take n)
 |.h m=>if m<n then some (.h m,s.take n) else (lg s m).map λds=>(.d (.lst ds),s.take n)
def ox (n k:Nat) (b:Sf):Fn
 |ws,st=>if ws.length=k then (b (ws.map some++qaV (n - k) none) st).bind λr=>match r with
 |.nx _ s=>some (.d .non,s.take st.length)
 |.rt w s=>Dx st.length w s
 |_=>none
 else none
section
variable {P:qaY}{w:World}{K:qai}{mg:Str->Option Value}{base:Heap}
theorem vI {H:Hp}{φ:List Addr}{N:List Str}{k:Nat}:∀ {ws:List W}{vs:List V},Rws K H φ ws vs->ws.length=k->Er K H φ (ws.map some++qaV (N.length - k) none) (start N vs):=by
 intro ws vs r hk
 have hl:=r.length
 refine⟨by unfold start;simp;lia,λi x e=>?_⟩
 unfold start
 by_cases hi:i<ws.length
 ·rw[qa2 (by simpa using hi),qaZ,qad]at e
  obtain⟨y,ey,e⟩:=e
  have:∃ v,vs[i]?=some v/\Rw K H φ y v:=by
   clear hk hl hi e
   induction ws generalizing vs i with
   |nil=>simp at ey
   |cons w ws ih=>
    obtain⟨v,r',rfl,r1,r2⟩:=r
    cases i with
    |zero=>simp at ey;subst ey;exact⟨v,rfl,r1⟩
    |succ i=>simpa using ih r2 i (by simpa using ey)
  obtain⟨v,ev,rv⟩:=this
  cases e
  refine⟨v,?_,rv⟩
  rw[qa2 (by rw[qag,<-hl];exact hi),qaZ,ev];rfl
 ·rw[qbi (by simpa using hi)]at e
  have:=qbl e
  have:=(List.mem_replicate.mp this).2
  cases this
theorem eu {x qual:Str}{st:Stmt}{f:Addr}{fd:qbf}{N ps:List Str}{k:Nat}{b:Sf} (F:Fun K x qual st f fd) (S:aG N ps (ae st))
  (hb:∀ (cdv:Value) (A:qa9) (outer:List Env) (s:qaj) (H:Hp) (E:XK),cX k (A.deeper (qhb qual (ae st) s.heap.objs.size f cdv))->ISs K (tM CX0 P w K mg base N qual (ae st) f cdv A outer s H E).nox (aB st) b) :
  bV P w K mg base CX0 (k+1) f fd ps (spI K (cM N.length ps.length b)):=by
 refine F.ok S (λvs H Q E h=>?_) λcdv A outer s H vs Q E hr h=>?_
 ·obtain⟨φ,st,ws,r,e,rw,_⟩:=h
  rw[cM]at e
  by_cases hl:ws.length=ps.length
  ·rw[<-rw.length,hl]
  ·rw[if_neg hl]at e;cases e
 ·obtain⟨φ,st',ws,r,e,rw,S',q⟩:=h
  rw[cM]at e
  by_cases hl:ws.length=ps.length
  ·rw[if_pos hl]at e
   obtain⟨fl,e1,e2⟩:=qac.mp e
   refine⟨_,(hb cdv A outer s H E hr).run _ _ _ e1,φ,vI rw hl,S',?_⟩
   cases fl with
   |nx e s=>cases e2;exact λσ' H' φ' f' e' s'=>q .non H' φ' f' s' rfl
   |rt w s=>cases e2;exact λv H' φ' f' s' w'=>q v H' φ' f' s' w'
   |bk e s=>cases e2
   |ct e s=>cases e2
  ·rw[if_neg hl]at e;cases e
theorem Fw.less {φ φ':List Addr}{H H':Hp} (f:Fw φ φ' H H'):Fw φ φ H H':=⟨⟨[],by simp,by simp⟩,f.keep,f.there⟩
theorem zw {x qual:Str}{st:Stmt}{f:Addr}{fd:qbf}{N ps:List Str}{k:Nat}{b:Sf} (F:Fun K x qual st f fd) (S:aG N ps (ae st))
  (hb:∀ (cdv:Value) (A:qa9) (outer:List Env) (s:qaj) (H:Hp) (E:XK),cX k (A.deeper (qhb qual (ae st) s.heap.objs.size f cdv))->ISs K (tM CX0 P w K mg base N qual (ae st) f cdv A outer s H E).nox (aB st) b) :
  bV P w K mg base CX0 (k+1) f fd ps (spI K (ox N.length ps.length b)):=by
 refine F.ok S (λvs H Q E h=>?_) λcdv A outer s H vs Q E hr h=>?_
 ·obtain⟨φ,st,ws,r,e,rw,_⟩:=h
  rw[ox]at e
  by_cases hl:ws.length=ps.length
  ·rw[<-rw.length,hl]
  ·rw[if_neg hl]at e;cases e
 ·obtain⟨φ,st',ws,r,e,rw,S',q⟩:=h
  rw[ox]at e
  by_cases hl:ws.length=ps.length
  ·rw[if_pos hl]at e
   obtain⟨fl,e1,e2⟩:=qac.mp e
   refine⟨_,(hb cdv A outer s H E hr).run _ _ _ e1,φ,vI rw hl,S',?_⟩
   have less:∀ {H':Hp}{φ':List Addr}{s':Sto},Fw φ φ' H H'->Sr K H' φ' s'->Sr K H' φ (s'.take st'.length):=λ{H' φ' s'} f' S2=>by
    obtain⟨ψ,rfl,_⟩:=f'.ext
    rw[<-S'.len]
    exact S2.less
   cases fl with
   |nx e s=>cases e2;exact λσ' H' φ' f' e' s'=>q .non H' φ f'.less (less f' s') rfl
   |rt w s=>
    intro v H' φ' f' s' w'
    have e3:Dx st'.length w s=some r:=e2
    obtain⟨ψ,eψ,_⟩:=f'.ext
    cases w with
    |d x=>
     cases e3
     subst eψ
     exact q v H' φ f'.less (less f' s') (Rl.less w')
    |h m=>
     obtain⟨a,ea,rfl⟩:=w'
     unfold Dx at e3
     by_cases hm:m<st'.length
     ·have e4:some (W.h m,s.take st'.length)=some r:=by
       have:=e3
       simp only[hm,if_true]at this
       exact this
      cases e4
      subst eψ
      rw[qa2 (by rw[S'.len];exact hm)]at ea
      exact q _ H' φ f'.less (less f' s') ⟨a,ea,rfl⟩
     ·simp only[hm,if_false]at e3
      obtain⟨ds,eds,rfl⟩:=qad.mp e3
      obtain⟨vs,hv,rl⟩:=s'.atl m a ds ea eds
      have hn:a∉φ:=λz=>by
       obtain⟨i,hi,ei⟩:=qdz.mp z
       have h1:φ'[i]?=some a:=by subst eψ;rw[qa2 hi,qaE hi,ei]
       obtain⟨h2,h2'⟩:=qax.mp h1
       obtain⟨h3,h3'⟩:=qax.mp ea
       have:=(qg0 s'.nd).mp (h2'.trans h3'.symm)
       rw[S'.len]at hi
       lia
      subst eψ
      exact q _ H' φ f'.less (less f' s') ⟨a,vs,rfl,hn,.inl hv,rl.less⟩
   |bk e s=>cases e2
   |ct e s=>cases e2
  ·rw[if_neg hl]at e;cases e
end
def cy:D->Bool
 |.non=>true
 |.bl _=>true
 |.int _=>true
 |.str _=>true
 |_=>false
def vOf:D->V
 |.bl b=>.bl b
 |.int i=>.int i
 |.str x=>.str x
 |_=>.non
mutual
def eqD:D->D->Bool
 |.non,.non=>true
 |.bl a,.bl b=>a==b
 |.bl a,.int b=>(if a then 1 else 0)==b
 |.int a,.bl b=>a==(if b then 1 else 0)
 |.int a,.int b=>a==b
 |.str a,.str b=>a==b
 |.tup as,.tup bs=>fA as bs
 |.lst as,.lst bs=>fA as bs
 |_,_=>false
def fA:List D->List D->Bool
 |[],[]=>true
 |a::as,b::bs=>eqD a b&&fA as bs
 |_,_=>false
end
def okD:Nat->D->Bool
 |_,.non=>true
 |_,.bl _=>true
 |_,.int _=>true
 |_,.str _=>true
 |n+1,.tup ds=>ds.all (okD n)
 |n+1,.lst ds=>ds.all (okD n)
 |_,_=>false
def lsD (st:Sto):W->Option (List D)
 |.d (.lst ds)=>some ds
 |.h n=>lg st n
 |_=>none
def fm (st:Sto) (x y:W):Option D:=match x,y with
 |.d (.int i),.d (.int j)=>some (.int (i+j))
 |.d (.tup a),.d (.tup b)=>if a.length+b.length<=1000000 then some (.tup (a++b)) else none
 |.d (.str a),.d (.str b)=>if a.length+b.length<=1000000 then some (.str (a++b)) else none
 |x,y=>(lsD st x).bind λa=>(lsD st y).bind λb=>if a.length+b.length<=1000000 then some (.lst (a++b)) else none
def zc (_:Sto):W->W->Option D
 |.d (.int i),.d (.int j)=>some (.int (i - j))
 |_,_=>none
instance (a b:Int):Decidable (qh9 a b):=by unfold qh9;infer_instance
def ge (_:Sto):W->W->Option D
 |.d (.int i),.d (.int j)=>if qh9 i j then some (.int (i*j)) else none
 |.d (.tup a),.d (.int k)=>if a≠[]/\a.length<=1000/\1<=k/\k<1000 then some (.tup (qaV k.toNat a).flatten) else none
 |.d (.lst a),.d (.int k)=>if a.length<=1000/\-1000<=k/\k<1000 then some (.lst (qaV k.toNat a).flatten) else none
 |_,_=>none
def kr (_:Sto):W->W->Option D
 |.d (.int i),.d (.int j)=>if 0<j/\j<1073741824 then some (.int (i / j)) else none
 |_,_=>none
def kc (_:Sto):W->W->Option D
 |.d (.int i),.d (.int j)=>if 0<j then some (.int (i%j)) else none
 |_,_=>none
instance (i j:Int):Decidable (qC i j):=by unfold qC;infer_instance
def zL (_:Sto):W->W->Option D
 |.d (.int i),.d (.int j)=>if qC i j then some (.int (i^j.toNat)) else none
 |_,_=>none
def xc (_:Sto):W->W->Option D
 |.d (.int i),.d (.int j)=>if qC i j then some (.int (i*2^j.toNat)) else none
 |_,_=>none
def wm (_:Sto):W->W->Option D
 |.d (.int i),.d (.int j)=>if 0<=j then some (.int (i / 2^j.toNat)) else none
 |_,_=>none
def dLt (_:Sto):W->W->Option D
 |.d (.int i),.d (.int j)=>some (.bl (decide (i<j)))
 |_,_=>none
def dLe (_:Sto):W->W->Option D
 |.d (.int i),.d (.int j)=>some (.bl (decide (i<=j)))
 |_,_=>none
def dGt (_:Sto):W->W->Option D
 |.d (.int i),.d (.int j)=>some (.bl (decide (j<i)))
 |_,_=>none
def dGe (_:Sto):W->W->Option D
 |.d (.int i),.d (.int j)=>some (.bl (decide (j<=i)))
 |_,_=>none
def AS:D->Bool
 |.non=>true
 |_=>false
def Bl (_:Sto):W->W->Option D
 |.d x,.d .non=>some (.bl (!AS x))
 |_,_=>none
def inD (x:D) (ds:List D):Bool:=ds.any λy=>eqD y x
def kG (st:Sto) (x y:W):Option D:=match x with
 |.d x=>(jg st y).bind λds=>if cy x=true/\ds.all cy=true then some (.bl (!inD x ds)) else none
 |_=>none
section
variable {K:qai}{X:Cx}
theorem eU {H:Hp}{φ:List Addr}{d:D}{v:V} (h:cy d=true) (r:Rl K H φ d v):v=vOf d/\gx v=true:=by
 cases d with
 |non=>cases (show v=.non from r);exact⟨rfl,rfl⟩
 |bl b=>cases (show v=.bl b from r);exact⟨rfl,rfl⟩
 |int b=>cases (show v=.int b from r);exact⟨rfl,rfl⟩
 |str b=>cases (show v=.str b from r);exact⟨rfl,rfl⟩
 |_=>cases h
theorem n4 {a b:D} (ha:cy a=true) (hb:cy b=true):eqV (vOf a) (vOf b)=eqD a b:=by
 cases a<;>cases b<;>first|rfl|(cases ha;done)|(cases hb;done)|(simp[eqV,vOf,eqD];done)
theorem uy {H:Hp}{φ:List Addr}:∀ {ds:List D}{vs:List V},ds.all cy=true->Rls K H φ ds vs->vs=ds.map vOf/\vs.all gx=true
 |[],_,_,h=>by cases h;exact⟨rfl,rfl⟩
 |d::ds,_,h,r=>by
  rw[qbQ,qbb]at h
  obtain⟨v,vr,rfl,r1,r2⟩:=r
  obtain⟨e1,e2⟩:=eU h.1 r1
  obtain⟨e3,e4⟩:=uy h.2 r2
  exact⟨by rw[e1,e3];rfl,by rw[qbQ,e2,e4];rfl⟩
theorem yw {x:D} (hx:cy x=true):∀ {ds:List D},ds.all cy=true->inV (vOf x) (ds.map vOf)=inD x ds
 |[],_=>rfl
 |d::ds,h=>by
  rw[qbQ,qbb]at h
  have ih:=yw hx h.2
  unfold inV inD at ih ⊢
  rw[qal,qcw,qcw,ih,n4 h.1 hx]
theorem v4 {f:Value->Value->Sem Value}{g:Sto->W->W->Option D} (h:∀ st x y d,g st x y=some d->∃ i j,x=.d (.int i)/\y=.d (.int j)/\OpR X f (λvx vy H Q=>vx=.int i/\vy=.int j/\Q (vOf d) H)/\cy d=true):OpD K X f g:=by
 refine⟨λst x y d hd=>?_⟩
 obtain⟨i,j,rfl,rfl,ho,hf⟩:=h st x y d hd
 refine ho.imp ?_
 rintro vx vy H Q ⟨φ,S,r1,r2,q⟩
 refine⟨r1,r2,q _ H (bL.refl H) ?_⟩
 cases d<;>first|rfl|cases hf
def i2 (f:Int->Int->Option D):W->W->Option D
 |.d (.int i),.d (.int j)=>f i j
 |_,_=>none
theorem Ea {f:Int->Int->Option D}{x y:W}{d:D} (h:i2 f x y=some d):∃ i j,x=.d (.int i)/\y=.d (.int j)/\f i j=some d:=by
 unfold i2 at h
 split at h
 ·exact⟨_,_,rfl,rfl,h⟩
 ·cases h
theorem rJ {f:Value->Value->Sem Value}{g:Sto->W->W->Option D}{r:Int->Int->D} (hg:∀ st,g st=i2 λi j=>some (r i j)) (hf:∀ i j,cy (r i j)=true) (h:∀ i j,OpR X f (λvx vy H Q=>vx=.int i/\vy=.int j/\Q (vOf (r i j)) H)):OpD K X f g:=v4 λst x y d e=>by
 rw[hg]at e
 obtain⟨i,j,e1,e2,e3⟩:=Ea e
 cases e3
 exact⟨i,j,e1,e2,h i j,hf i j⟩
theorem pz {f:Value->Value->Sem Value}{g:Sto->W->W->Option D}{r:Int->Int->D}{c:Int->Int->Prop} [∀ i j,Decidable (c i j)] (hg:∀ st,g st=i2 λi j=>if c i j then some (r i j) else none) (hf:∀ i j,cy (r i j)=true) (h:∀ i j,c i j->OpR X f (λvx vy H Q=>vx=.int i/\vy=.int j/\Q (vOf (r i j)) H)):OpD K X f g:=v4 λst x y d e=>by
 rw[hg]at e
 obtain⟨i,j,e1,e2,e3⟩:=Ea e
 split at e3
 next hc=>
  cases e3
  exact⟨i,j,e1,e2,h i j hc,hf i j⟩
 next=>cases e3
theorem v6:OpD K X (qbT .Sub) zc:=rJ (λ_=>rfl) (λ_ _=>rfl) λi j=>E7.imp λvx vy H Q h=>⟨i,j,h.1,h.2.1,h.2.2⟩
theorem D7:OpD K X (qcB .Lt) dLt:=rJ (λ_=>rfl) (λ_ _=>rfl) λi j=>Hd.imp λvx vy H Q h=>⟨i,j,h.1,h.2.1,h.2.2⟩
theorem GF:OpD K X (qcB .LtE) dLe:=rJ (λ_=>rfl) (λ_ _=>rfl) λi j=>GI.imp λvx vy H Q h=>⟨i,j,h.1,h.2.1,h.2.2⟩
theorem Hf:OpD K X (qcB .Gt) dGt:=rJ (λ_=>rfl) (λ_ _=>rfl) λi j=>Hy.imp λvx vy H Q h=>⟨i,j,h.1,h.2.1,h.2.2⟩
theorem G4:OpD K X (qcB .GtE) dGe:=rJ (λ_=>rfl) (λ_ _=>rfl) λi j=>G6.imp λvx vy H Q h=>⟨i,j,h.1,h.2.1,h.2.2⟩
theorem lV:OpD K X (qbT .FloorDiv) kr:=pz (λ_=>rfl) (λ_ _=>rfl) λi j hc=>Cc.imp λvx vy H Q h=>⟨i,j,h.1,h.2.1,hc,h.2.2⟩
theorem hX:OpD K X (qbT .Mod) kc:=pz (λ_=>rfl) (λ_ _=>rfl) λi j hc=>Fz.imp λvx vy H Q h=>⟨i,j,h.1,h.2.1,hc,h.2.2⟩
theorem Bo:OpD K X (qbT .Pow) zL:=pz (λ_=>rfl) (λ_ _=>rfl) λi j hc=>El.imp λvx vy H Q h=>⟨i,j,h.1,h.2.1,hc,h.2.2⟩
theorem wX:OpD K X (qbT .LShift) xc:=pz (λ_=>rfl) (λ_ _=>rfl) λi j hc=>Fx.imp λvx vy H Q h=>⟨i,j,h.1,h.2.1,hc,h.2.2⟩
theorem Al:OpD K X (qbT .RShift) wm:=pz (λ_=>rfl) (λ_ _=>rfl) λi j hc=>EQ.imp λvx vy H Q h=>⟨i,j,h.1,h.2.1,hc,h.2.2⟩
theorem EF {H:Hp}{φ:List Addr}{d:D}{v:V} (r:Rl K H φ d v):decide (v=.non)=AS d:=by
 cases d with
 |non=>cases (show v=.non from r);rfl
 |bl b=>cases (show v=.bl b from r);rfl
 |int b=>cases (show v=.int b from r);rfl
 |str b=>cases (show v=.str b from r);rfl
 |ty b=>cases (show v=.ty b from r);rfl
 |dct=>obtain⟨a,rfl,_⟩:=r;rfl
 |scr ns=>obtain⟨a,rfl,_⟩:=r;rfl
 |tup ds=>obtain⟨a,vs,rfl,_⟩:=r;rfl
 |lst ds=>obtain⟨a,vs,rfl,_⟩:=r;rfl
theorem Ca:OpD K X (qcB .IsNot) Bl:=by
 refine⟨λst x y d h=>?_⟩
 unfold Bl at h
 split at h
 next x=>
  cases h
  refine B9.imp ?_
  rintro vx vy H Q ⟨φ,S,r1,r2,q⟩
  refine⟨r2,q _ H (bL.refl H) ?_⟩
  rw[EF r1];rfl
 next=>cases h
theorem ve (hK:X.K=K:=by rfl):OpD K X (qcB .NotIn) kG:=by
 subst hK
 refine⟨λst x y d h=>?_⟩
 match x,h with
 |.d x,h=>
  simp only[kG,qac]at h
  obtain⟨ds,hs,h⟩:=h
  split at h
  ·rename_i hc
   cases h
   refine tT.imp ?_
   rintro vx vy H Q ⟨φ,S,r1,r2,q⟩
   obtain⟨a,vs,rfl,h1,h2⟩:=oe S r2 hs
   obtain⟨e1,e2⟩:=eU hc.1 r1
   obtain⟨e3,e4⟩:=uy hc.2 h2
   refine⟨a,vs,rfl,h1,e2,e4,q _ H (bL.refl H) ?_⟩
   rw[e1,e3,yw hc.1 hc.2];rfl
  ·cases h
end
end L2
namespace L2
open PySem PySem.Spec PyProof.Rows
section
variable {K:qai}{X:Cx}
theorem C6:OpR X (qbT .Add) (λx y H Q=>∃ l b xs zs,x=.ref l/\y=.ref b/\Rd H l (.lst xs)/\Rd H b (.lst zs)/\xs.length+zs.length<=qaO/\∀ p,H p=none->Q (.ref p) (upd H p (.lst (xs++zs)))):=by
 intro pins s σ H x y v u Q I rx ry h
 obtain⟨l,b,xs,zs,rfl,rfl,hH,hB,hz,q⟩:=h
 cases rx
 cases ry
 obtain⟨z,its,n,r,e⟩:=hH.ok I.hok
 obtain⟨z2,its2,n2,r2,e2⟩:=hB.ok I.hok
 have hl:=r.length
 have hl2:=r2.length
 refine PySem.P.add_list e e2 ?_ (by rw[qat,qat];lia)
 have ea:its.toArray++its2.toArray=(its++its2).toArray:=by simp
 rw[ea]
 exact⟨.ref _,_,I.lnew (t':=s.toks) (r.append r2) (by rw[qa4];lia),rfl,q _ I.fresh⟩
theorem AY:OpR X (qbT .Add) (λx y H Q=>∃ a b xs ys,x=.ref a/\y=.ref b/\SqT X.K H a xs/\SqT X.K H b ys/\xs.length+ys.length<=qaO/\
  (xs=[]->Q (.ref b) H)/\(ys=[]->Q (.ref a) H)/\∀ p,H p=none->Q (.ref p) (upd H p (.tup (xs++ys)))):=by
 intro pins s σ H x y v u Q I rx ry h
 obtain⟨a,b,xs,ys,rfl,rfl,ha,hb,hz,q0,q1,q2⟩:=h
 by_cases hx:xs=[]
 ·cases rx
  cases ry
  obtain⟨its,r1,p1,_⟩:=I.tuple ha
  obtain⟨its2,r2,p2,_⟩:=I.tuple hb
  obtain⟨⟨cls,dd,data,sl⟩,ho,hc,n,hd⟩:=id p1
  obtain⟨⟨cls2,dd2,data2,sl2⟩,ho2,hc2,n2,hd2⟩:=id p2
  simp only at hc hd hc2 hd2
  subst hc hd hc2 hd2
  exact qjP ⟨_,ho,rfl⟩ ⟨_,ho2,rfl⟩ qhV qjd qeU qeR (qeF _ _)
   (tuple_addW0 a b its.toArray its2.toArray n n2 dd dd2 sl sl2 (by simp[r1.nil_iff.mpr hx])) ⟨ho,ho2,.ref b,H,I,rfl,q0 hx⟩
 ·exact Dc pins s σ H _ _ v u Q I rx ry ⟨a,b,xs,ys,rfl,rfl,ha,hb,hx,hz,q1,λ_ p hp=>q2 p hp⟩
theorem mX {st:Sto}{H:Hp}{φ:List Addr}{w:W}{v:V}{ds:List D} (S:Sr K H φ st) (r:Rw K H φ w v) (e:lsD st w=some ds):∃ a vs,v=.ref a/\Rd H a (.lst vs)/\Rls K H φ ds vs:=by
 cases w with
 |h n=>
  obtain⟨a,ea,rfl⟩:=r
  obtain⟨vs,q,rl⟩:=S.atl n a ds ea e
  exact⟨a,vs,rfl,.inl q,rl⟩
 |d x=>
  cases x with
  |lst es=>cases e;obtain⟨a,vs,rfl,h0,h1,h2⟩:=r;exact⟨a,vs,rfl,h1,h2⟩
  |_=>cases e
theorem mil:(1000000:Nat)<=qaO:=by rw[qbM];decide
theorem dj (hK:X.K=K:=by rfl):OpD K X (qbT .Add) fm:=by
 subst hK
 refine⟨λst x y d h=>?_⟩
 have lists:(lsD st x).bind (λa=>(lsD st y).bind λb=>if a.length+b.length<=1000000 then some (.lst (a++b)) else none)=some d->OpR X (qbT .Add) (rD X.K st x y d):=λh=>by
  simp only[qac]at h
  obtain⟨as,ha,bs,hb,h⟩:=h
  split at h
  ·rename_i hl
   cases h
   refine C6.imp ?_
   rintro vx vy H Q ⟨φ,S,r1,r2,q⟩
   obtain⟨a,us,rfl,h1,h2⟩:=mX S r1 ha
   obtain⟨b,vs,rfl,h3,h4⟩:=mX S r2 hb
   refine⟨a,b,us,vs,rfl,rfl,h1,h3,by rw[<-h2.length,<-h4.length];exact qaL hl mil,λp hp=>q _ _ (bL.new hp _) ?_⟩
   exact⟨p,_,rfl,S.nin hp,.inl bj,(h2.append h4).fw S (Fw.new hp)⟩
  ·cases h
 unfold fm at h
 split at h
 next i j=>
  cases h
  refine Fg.imp ?_
  rintro vx vy H Q ⟨φ,S,r1,r2,q⟩
  exact⟨i,j,r1,r2,q _ H (bL.refl H) rfl⟩
 next as bs=>
  split at h
  ·rename_i hl
   cases h
   refine AY.imp ?_
   rintro vx vy H Q ⟨φ,S,⟨a,us,rfl,h1,h2⟩,⟨b,vs,rfl,h3,h4⟩,q⟩
   refine⟨a,b,us,vs,rfl,rfl,(SqT.of h1),(SqT.of h3),by rw[<-h2.length,<-h4.length];exact qaL hl mil,λe=>?_,λe=>?_,λp hp=>?_⟩
   ·subst e
    have:as=[]:=by cases as with|nil=>rfl|cons _ _=>cases h2.length
    subst this
    exact q _ H (bL.refl H) ⟨b,vs,rfl,h3,h4⟩
   ·subst e
    have:bs=[]:=by cases bs with|nil=>rfl|cons _ _=>cases h4.length
    subst this
    exact q _ H (bL.refl H) ⟨a,us,rfl,h1,by rw[qdq];exact h2⟩
   ·exact q _ _ (bL.new hp _) ⟨p,_,rfl,bj,(h2.append h4).fw S (Fw.new hp)⟩
  ·cases h
 next as bs=>
  split at h
  ·rename_i hl
   cases h
   refine we.imp ?_
   rintro vx vy H Q ⟨φ,S,r1,r2,q⟩
   exact⟨as,bs,r1,r2,qaL hl mil,q _ H (bL.refl H) rfl⟩
  ·cases h
 next=>exact lists h
theorem DQ:OpR X (qbT .Mult) (λx y H Q=>∃ l k xs,x=.ref l/\y=.int k/\Rd H l (.lst xs)/\-(2 ^ 63)<=k/\k < 2 ^ 63/\xs.length*k.toNat<=qaO/\
 ∀ p,H p=none->Q (.ref p) (upd H p (.lst (qaV k.toNat xs).flatten))):=by
 intro pins s σ H x y v u Q I rx ry h
 obtain⟨l,k,xs,rfl,rfl,hH,h1,h2,hz,q⟩:=h
 cases rx
 obtain⟨t,rfl⟩:=ry
 obtain⟨z,its,n,r,e⟩:=hH.ok I.hok
 have hl:=r.length
 have hlen:its.toArray.size*k.toNat<=qaO:=by rw[qat,<-hl];exact hz
 have hcap:¬ its.toArray.size*k.toNat > (2^63 - 1) / 8:=by
  have:(qaO:Nat)<=(2^63 - 1) / 8:=by decide
  lia
 have hfit:¬ (!Builtin.List.listFitsIndex k)=true:=by
  rw[qmi h1 h2]
  exact qan
 have hlong:¬ qcL (its.toArray.size*k.toNat)=true:=by
  rw[ux hlen]
  exact qan
 have hnew:qfz (λx1 x2=>x1++x2) #[] (qaV (if its.toArray.isEmpty=true then 0 else k.toNat) its.toArray)=(qaV k.toNat its).flatten.toArray:=by
  have f0:∀ m:Nat,qfz (λx1 x2=>x1++x2) #[] (qaV m its.toArray)=(qaV m its).flatten.toArray:=λm=>by
   have:=mU its m []
   rw[qcX]at this
   exact this
  rw[f0]
  cases its with
  |nil=>simp
  |cons a r'=>rw[if_neg (by simp)]
 refine qiH (T:="list") (U:="int") (by decide) ⟨_,e,rfl⟩ (λs'=>qhs s' k t) noFill_list_mul qkT qfN repeat_list qkz.lookup
  (qdI qfN (qhs s k t) qkA (qkk _ _) (int___rmul___int_list k t l its.toArray n)
    ⟨e,rfl,⟨_,e,rfl⟩,qdI F.slot_list_mul ⟨_,e,rfl⟩ F.entry_list_mul (F.args_list_mul_2 _ _) (AutoListH.list___mul___list_int_3 l its.toArray n k t hfit hcap hlong) ⟨e,?_⟩⟩)
 rw[hnew]
 exact⟨.ref _,_,I.lnew (t':=s.toks) (r.rep k.toNat) (by rw[sX,qlO];exact hz),rfl,q _ I.fresh⟩
theorem el (hK:X.K=K:=by rfl):OpD K X (qbT .Mult) ge:=by
 subst hK
 refine⟨λst x y d h=>?_⟩
 unfold ge at h
 split at h
 next i j=>
  split at h
  ·rename_i hl
   cases h
   refine Dq.imp ?_
   rintro vx vy H Q ⟨φ,S,r1,r2,q⟩
   exact⟨i,j,r1,r2,hl,q _ H (bL.refl H) rfl⟩
  ·cases h
 next as k=>
  split at h
  ·rename_i hl
   cases h
   refine Ci.imp ?_
   rintro vx vy H Q ⟨φ,S,⟨a,us,rfl,h1,h2⟩,r2,q⟩
   have hne:us≠[]:=by rintro rfl;cases as with|nil=>exact hl.1 rfl|cons _ _=>cases h2.length
   refine⟨a,k,us,rfl,r2,(SqT.of h1),hne,by rw[<-h2.length];exact hl.2.1,hl.2.2.1,hl.2.2.2,λe=>?_,λ_ p hp=>?_⟩
   ·subst e
    exact q _ H (bL.refl H) ⟨a,us,rfl,h1,by simpa using h2⟩
   ·exact q _ _ (bL.new hp _) ⟨p,_,rfl,bj,(h2.rep _).fw S (Fw.new hp)⟩
  ·cases h
 next as k=>
  split at h
  ·rename_i hl
   cases h
   refine DQ.imp ?_
   rintro vx vy H Q ⟨φ,S,⟨a,us,rfl,h0,h1,h2⟩,r2,q⟩
   refine⟨a,k,us,rfl,r2,h1,by lia,by lia,?_,λp hp=>?_⟩
   ·rw[<-h2.length]
    have:as.length*k.toNat<=1000*1000:=qfU hl.1 (by lia)
    exact qaL this mil
   ·exact q _ _ (bL.new hp _) ⟨p,_,rfl,S.nin hp,.inl bj,(h2.rep _).fw S (Fw.new hp)⟩
  ·cases h
 next=>cases h
def dIx (st:Sto) (x y:W):Option D:=match x,y with
 |.d (.str z),.d (.int i)=>if z.length<=1000000 then (atI z.cps.toList i).map λc=>.str ⟨#[c]⟩ else none
 |x,.d (.int i)=>(jg st x).bind λds=>atI ds i
 |_,_=>none
theorem FH {H:Hp}{φ:List Addr}{ds:List D}{vs:List V}{i:Int}{d:D} (r:Rls K H φ ds vs) (e:atI ds i=some d):∃ v,atI vs i=some v/\Rl K H φ d v:=by
 unfold atI at e ⊢
 rw[<-r.length]
 obtain⟨j,e1,e2⟩:=qac.mp e
 obtain⟨v,ev,rv⟩:=r.get e2
 exact⟨v,by rw[e1];exact ev,rv⟩
theorem IxR.imp {r r':R2} (h:IxR X r) (m:∀ x y H Q,r' x y H Q->r x y H Q):IxR X r':=λvalue slice pins s σ H x y v u Q I rx ry q hs=>h value slice pins s σ H x y v u Q I rx ry (m _ _ _ _ q) hs
theorem Hr (st:Sto) (x y:W) (d:D) (h:dIx st x y=some d) (hK:X.K=K):IxR X (rD K st x y d):=by
 subst hK
 unfold dIx at h
 split at h
 next z i=>
  split at h
  next hl=>
   obtain⟨c,e1,rfl⟩:=qad.mp h
   refine wM.imp ?_
   rintro vx vy H Q ⟨φ,S,r1,r2,q⟩
   exact .inr (.inr ⟨z,i,c,r1,r2,qaL hl mil,e1,q _ H (bL.refl H) rfl⟩)
  next=>cases h
 next x i _=>
  obtain⟨ds,e1,e2⟩:=qac.mp h
  refine wM.imp ?_
  rintro vx vy H Q ⟨φ,S,r1,r2,q⟩
  obtain⟨a,vs,rfl,h1,h2⟩:=oe S r1 e1
  obtain⟨v,ev,rv⟩:=FH h2 e2
  rcases h1 with h1|h1
  ·exact .inl ⟨a,vs,i,v,rfl,r2,h1,ev,q _ H (bL.refl H) rv⟩
  ·exact .inr (.inl ⟨a,vs,i,v,rfl,r2,h1,ev,q _ H (bL.refl H) rv⟩)
 next=>cases h
variable {e a b:Expr}{pos p2:Pos}{f fa fb:Ef}
theorem ca (ha:IE K X a fa) (hb:IE K X b fb) (hs:mE b=true:=by rfl) (hK:X.K=K:=by rfl):IE K X (.Subscript a b pos) (iOp dIx fa fb):=by
 refine⟨λenv st r hr=>?_⟩
 simp only[iOp,qac,qad]at hr
 obtain⟨x,hx,y,hy,d,hd,rfl⟩:=hr
 exact (D4 (Hr _ _ _ _ hd hK) (ha.run _ _ _ hx) (hb.run _ _ _ hy) (uF hs)).imp λσ H Q h=>tO h
abbrev Pf:=Ev->Sto->Option (Option Int×Sto)
def iPn:Pf
 |_,st=>some (none,st)
def Eh:W->Option Int
 |.d (.int i)=>some i
 |_=>none
theorem yC {w:W}{i:Int} (h:Eh w=some i):w=.d (.int i):=by
 cases w with
 |h n=>cases h
 |d x=>cases x<;>first|(cases h;done)|(injection h with h;subst h;rfl)
def iPs (f:Ef):Pf
 |env,st=>(f env st).bind λr=>(Eh r.1).map λi=>(some i,r.2)
def tIO (K:qai) (env:Ev) (st:Sto) (r:Option Int×Sto):TO:=λσ H Q=>∃ φ,Er K H φ env σ/\Sr K H φ st/\∀ H' φ',Fw φ φ' H H'->Sr K H' φ' r.2->Q r.1 H'
structure IO (K:qai) (X:Cx) (e:Option Expr) (f:Pf):Prop where
 run:∀ env st r,f env st=some r->PO X e (tIO K env st r)
theorem PO.imp {e:Option Expr}{t t':TO} (h:PO X e t) (m:∀ σ H Q,t' σ H Q->t σ H Q):PO X e t':=λpins s σ H Q I q=>h pins s σ H Q I (m σ H Q q)
theorem yq:IO K X none iPn:=by
 refine⟨λenv st r hr=>?_⟩
 cases hr
 exact Dm.imp λσ H Q ⟨φ,hE,hS,q⟩=>q H φ (Fw.refl φ H) hS
theorem xW (h:IE K X e f):IO K X (some e) (iPs f):=by
 refine⟨λenv st r hr=>?_⟩
 simp only[iPs,qac,qad]at hr
 obtain⟨⟨x,s1⟩,hx,i,hi,rfl⟩:=hr
 cases yC hi
 refine (CS (h.run _ _ _ hx)).imp ?_
 rintro σ H Q ⟨φ,hE,hS,q⟩
 exact⟨φ,hE,hS,λv H1 φ1 f1 s1 w1=>⟨i,w1,q H1 φ1 f1 s1⟩⟩
def p8 (xs:List D) (lo hi:Option Int):List D:=(xs.drop (HT.sIx xs.length 0 lo)).take (HT.sIx xs.length xs.length hi - HT.sIx xs.length 0 lo)
theorem yr {H:Hp}{φ:List Addr}{ds:List D}{vs:List V} (r:Rls K H φ ds vs) (lo hi:Option Int):Rls K H φ (p8 ds lo hi) (su vs lo hi):=by
 unfold p8 su
 rw[r.length]
 exact (r.drop _).take _
def dSl (st:Sto) (x:W) (lo hi:Option Int):Option D:=match x with
 |.d (.tup ds)=>some (.tup (p8 ds lo hi))
 |.d (.lst ds)=>some (.lst (p8 ds lo hi))
 |.h n=>(lg st n).map λds=>.lst (p8 ds lo hi)
 |.d (.scr ns)=>some (.lst (p8 (ns.map D.int) lo hi))
 |_=>none
def iSl (f:Ef) (lo hi:Pf):Ef
 |env,st=>(f env st).bind λx=>(lo env x.2).bind λl=>(hi env l.2).bind λu=>(dSl u.2 x.1 l.1 u.1).map λd=>(.d d,u.2)
theorem D2 {lo hi:Option Expr}{fl fh:Pf} (h:IE K X e f) (hl:IO K X lo fl) (hh:IO K X hi fh) (hK:X.K=K:=by rfl):IE K X (.Subscript e (.Slice lo hi none p2) pos) (iSl f fl fh):=by
 subst hK
 refine⟨λenv st r hr=>?_⟩
 simp only[iSl,qac,qad]at hr
 obtain⟨⟨x,s1⟩,hx,l,hl',u,hu',d,hd,rfl⟩:=hr
 have list:(∀ {H:Hp}{φ:List Addr}{v:V},Sr X.K H φ u.2->Rw X.K H φ x v->∃ a vs ds,v=.ref a/\SqL X.K H a vs/\Rls X.K H φ ds vs/\d=.lst (p8 ds l.1 u.1))->PE X (.Subscript e (.Slice lo hi none p2) pos) (tI X.K env st (.d d,u.2)):=λhq=>by
  refine (uO Cu (h.run _ _ _ hx) (hl.run _ _ _ hl') (hh.run _ _ _ hu')).imp ?_
  rintro σ H Q ⟨φ,hE,hS,q⟩
  refine⟨φ,hE,hS,λv H1 φ1 f1 s1 w1=>⟨φ1,hE.fw hS f1,s1,λH2 φ2 f2 s2=>⟨φ2,(hE.fw hS f1).fw s1 f2,s2,λH3 φ3 f3 s3=>?_⟩⟩⟩
  obtain⟨a,vs,ds,rfl,h1,h2,rfl⟩:=hq s3 ((w1.fw s1 f2).fw s2 f3)
  refine⟨a,vs,rfl,h1,λp hp=>q _ _ φ3 (((f1.trans f2).trans f3).trans (Fw.new hp)) (s3.new hp) ?_⟩
  exact⟨p,_,rfl,s3.nin hp,.inl bj,(yr h2 _ _).fw s3 (Fw.new hp)⟩
 dsimp only at hd
 unfold dSl at hd
 split at hd
 next ds=>
  cases hd
  refine (uO (Gg (K:=X.K) rfl) (h.run _ _ _ hx) (hl.run _ _ _ hl') (hh.run _ _ _ hu')).imp ?_
  rintro σ H Q ⟨φ,hE,hS,q⟩
  refine⟨φ,hE,hS,λv H1 φ1 f1 s1 w1=>⟨φ1,hE.fw hS f1,s1,λH2 φ2 f2 s2=>⟨φ2,(hE.fw hS f1).fw s1 f2,s2,λH3 φ3 f3 s3=>?_⟩⟩⟩
  obtain⟨a,vs,rfl,h1,h2⟩:=(w1.fw s1 f2).fw s2 f3
  refine⟨a,vs,rfl,(SqT.of h1),?_⟩
  by_cases hc:HT.sIx vs.length 0 l.1=0/\HT.sIx vs.length vs.length u.1=vs.length
  ·refine .inr ⟨hc,q _ _ φ3 ((f1.trans f2).trans f3) s3 ⟨a,vs,rfl,h1,?_⟩⟩
   have e:p8 ds l.1 u.1=ds:=by
    unfold p8
    rw[h2.length,hc.1,hc.2,qeI,qgV,<-h2.length,qbv]
   rw[e]
   exact h2
  ·exact .inl ⟨hc,λp hp=>q _ _ φ3 (((f1.trans f2).trans f3).trans (Fw.new hp)) (s3.new hp) ⟨p,_,rfl,bj,(yr h2 _ _).fw s3 (Fw.new hp)⟩⟩
 next ds=>
  cases hd
  refine list λ{H φ v} S w=>?_
  obtain⟨a,vs,rfl,h0,h1,h2⟩:=w
  exact⟨a,vs,ds,rfl,.inl h1,h2,rfl⟩
 next n=>
  obtain⟨ds,e1,rfl⟩:=qad.mp hd
  refine list λ{H φ v} S w=>?_
  obtain⟨a,ea,rfl⟩:=w
  obtain⟨vs,q,rl⟩:=S.atl n a ds ea e1
  exact⟨a,vs,ds,rfl,SqL.of q,rl,rfl⟩
 next ns=>
  cases hd
  refine list λ{H φ v} S w=>?_
  obtain⟨a,rfl,h⟩:=w
  refine⟨a,_,_,rfl,?_,Rls.of_ints ns,rfl⟩
  rcases h with⟨o,h⟩|h
  ·exact .inl (.inr ⟨o,h⟩)
  ·exact .inr h
 next=>cases hd
end
section
variable {K:qai}{X:Cx}{pins:List (Addr×Obj)}{σ:St}{H:Hp}{s:qaj}{φ:List Addr}{st:Sto}
theorem gp:∀ (xs ys:List D),((qaN (min xs.length ys.length)).all (λj=>eqD (xs.getD j .non) (ys.getD j .non))&&xs.length==ys.length)=fA xs ys
 |[],[]=>rfl
 |[],y::ys=>by simp[fA]
 |x::xs,[]=>by simp[fA]
 |x::xs,y::ys=>by
  show ((qaN (min (xs.length+1) (ys.length+1))).all (λj=>eqD ((x::xs).getD j .non) ((y::ys).getD j .non))&&(xs.length+1==ys.length+1))=(eqD x y&&fA xs ys)
  rw[show min (xs.length+1) (ys.length+1)=min xs.length ys.length+1 by lia,pO,<-gp xs ys]
  have e:(xs.length+1==ys.length+1)=(xs.length==ys.length):=by rw[qdY];simp
  rw[e,Bool.and_assoc]
  rfl
theorem kh {xs ys:List D} (h:xs.length=ys.length):(qaN xs.length).all (λj=>eqD (xs.getD j .non) (ys.getD j .non))=fA xs ys:=by
 rw[<-gp xs ys,<-h,Nat.min_self];simp
theorem u4:∀ {xs ys:List D},xs.length≠ys.length->fA xs ys=false
 |[],[],h=>absurd rfl h
 |[],_::_,_=>rfl
 |_::_,[],_=>rfl
 |x::xs,y::ys,h=>by
  show (eqD x y&&fA xs ys)=false
  rw[u4 (by intro e;apply h;rw[qam,qam,e]),qhT]
theorem Cv (I:Inv X pins σ H s) {a:Addr}{vs ws:List V} (h:Rd H a (.lst vs)) (h':Rd H a (.lst ws)):vs=ws:=I.list_inj (.inl h) (.inl h')
theorem ES {x:V} (h:gx x=true):eqV x x=true:=by
 cases x<;>first|(cases h;done)|(simp[eqV];done)
theorem Bq {d e:D}{v:V} (f1:cy d=true) (f2:cy e=true) (r1:Rl K H φ d v) (r2:Rl K H φ e v):eqD d e=true:=by
 obtain⟨e1,g1⟩:=eU f1 r1
 obtain⟨e2,_⟩:=eU f2 r2
 rw[<-n4 f1 f2,<-e1,<-e2]
 exact ES g1
theorem qp {n:Nat}{d e:D}{v:V} (f:cy d=true) (r1:Rl K H φ d v) (r2:Rl K H φ e v) (o2:okD n e=true):eqD d e=true:=by
 have g1:=(eU f r1).2
 cases e with
 |tup es=>obtain⟨b,us,q,_⟩:=r2;rw[q]at g1;cases g1
 |lst es=>obtain⟨b,us,q,_⟩:=r2;rw[q]at g1;cases g1
 |_=>first|exact Bq f rfl r1 r2|(cases n<;>cases o2;done)
theorem yk (I:Inv X pins σ H s):∀ (n:Nat) {d e:D}{v:V},Rl X.K H φ d v->Rl X.K H φ e v->okD n d=true->okD n e=true->eqD d e=true:=by
 intro n
 induction n with
 |zero=>
  intro d e v r1 r2 o1 o2
  refine qp ?_ r1 r2 o2
  cases d<;>first|rfl|(cases o1;done)
 |succ n ih=>
  have lists:∀ {ds es:List D}{vs:List V},Rls X.K H φ ds vs->Rls X.K H φ es vs->(∀ d∈ds,okD n d=true)->(∀ d∈es,okD n d=true)->fA ds es=true:=by
   intro ds
   induction ds with
   |nil=>
    intro es vs r1 r2 _ _
    cases r1
    cases es with
    |nil=>rfl
    |cons e es=>obtain⟨_,_,q,_⟩:=r2;cases q
   |cons d ds ihd=>
    intro es vs r1 r2 o1 o2
    obtain⟨v,r,rfl,a1,a2⟩:=r1
    cases es with
    |nil=>cases r2
    |cons e es=>
     obtain⟨v',r',q,b1,b2⟩:=r2
     cases q
     show (eqD d e&&fA ds es)=true
     rw[ih a1 b1 (o1 d qak) (o2 e qak),ihd a2 b2 (λx hx=>o1 x (qah _ hx)) (λx hx=>o2 x (qah _ hx))]
     rfl
  intro d e v r1 r2 o1 o2
  cases d with
  |tup ds=>
   obtain⟨a,vs,rfl,h1,h2⟩:=r1
   cases e with
   |tup es=>
    obtain⟨b,us,q,h3,h4⟩:=r2
    cases q
    rw[I.tuple_inj (SqT.of h3) (SqT.of h1)]at h4
    exact lists h2 h4 (qaT.mp o1) (qaT.mp o2)
   |lst es=>
    obtain⟨b,us,q,_,h3,h4⟩:=r2
    cases q
    obtain⟨_,_,p1,_⟩:=I.tuple (SqT.of h1)
    obtain⟨_,_,p2,_⟩:=I.list (.inl h3)
    exact absurd rfl (qh5 p2.isList p1)
   |_=>first|(cases o2;done)|(cases r2;done)
  |lst ds=>
   obtain⟨a,vs,rfl,h0,h1,h2⟩:=r1
   cases e with
   |lst es=>
    obtain⟨b,us,q,_,h3,h4⟩:=r2
    cases q
    rw[Cv I h3 h1]at h4
    exact lists h2 h4 (qaT.mp o1) (qaT.mp o2)
   |tup es=>
    obtain⟨b,us,q,h3,h4⟩:=r2
    cases q
    obtain⟨_,_,p1,_⟩:=I.tuple (SqT.of h3)
    obtain⟨_,_,p2,_⟩:=I.list (.inl h1)
    exact absurd rfl (qh5 p2.isList p1)
   |_=>first|(cases o2;done)|(cases r2;done)
  |non=>exact qp rfl r1 r2 o2
  |bl b=>exact qp rfl r1 r2 o2
  |int b=>exact qp rfl r1 r2 o2
  |str b=>exact qp rfl r1 r2 o2
  |ty b=>cases o1
  |scr b=>cases o1
  |dct=>cases o1
theorem gg {ds:List D}{vs:List V}{us:List Value} (r:Rls K H φ ds vs) (rv:aP vs us):∀ (j:Nat) (h:j<us.length),∃ v,Rl K H φ (ds.getD j .non) v/\aW v us[j]/\ds.getD j .non∈ds:=by
 intro j h
 obtain⟨h',q⟩:=rv.at j h
 have hd:j<ds.length:=by rw[r.length];exact h'
 have e:ds[j]?=some ds[j]:=qaE hd
 obtain⟨v,ev,rl⟩:=r.get e
 rw[qaE h']at ev
 cases ev
 refine⟨_,?_,q,?_⟩
 ·rw[qiC,e];exact rl
 ·rw[qiC,e];exact qda hd
theorem Fy (I:Inv X pins σ H s):∀ (n:Nat) {A:qa9}{d e:D}{v u:V}{vv uu:Value},Rl X.K H φ d v->Rl X.K H φ e u->aW v vv->aW u uu->okD n d=true->okD n e=true->A.units+n<cLine->qeQ A s vv uu (eqD d e):=by
 have flat:∀ {A:qa9}{d e:D}{v u:V}{vv uu:Value},cy d=true->cy e=true->Rl X.K H φ d v->Rl X.K H φ e u->aW v vv->aW u uu->qeQ A s vv uu (eqD d e):=by
  intro A d e v u vv uu f1 f2 r1 r2 q1 q2
  obtain⟨e1,g1⟩:=eU f1 r1
  obtain⟨e2,g2⟩:=eU f2 r2
  rw[<-n4 f1 f2,<-e1,<-e2]
  exact wY q1 q2 g1 g2
 intro n
 induction n with
 |zero=>
  intro A d e v u vv uu r1 r2 q1 q2 o1 o2 hu
  refine flat ?_ ?_ r1 r2 q1 q2
  ·cases d<;>first|rfl|cases o1
  ·cases e<;>first|rfl|cases o2
 |succ n ih=>
  intro A d e v u vv uu r1 r2 q1 q2 o1 o2 hu
  have hu0:A.units<cLine:=by lia
  have hu1:A.in1.units+n<cLine:=by show A.units+1+n<cLine;lia
  cases d with
  |tup ds=>
   obtain⟨a,vs,rfl,h1,h2⟩:=r1
   cases q1
   obtain⟨its,rv,p1,_⟩:=I.tuple (SqT.of h1)
   cases e with
   |tup es=>
    obtain⟨b,us,rfl,h3,h4⟩:=id r2
    cases q2
    by_cases hab:a=b
    ·subst hab
     rw[yk I (n+1) (d:=.tup ds) ⟨a,vs,rfl,h1,h2⟩ r2 o1 o2]
     exact qgo _
    ·obtain⟨its2,rv2,p2,_⟩:=I.tuple (SqT.of h3)
     have z:=qfD (A:=A) (e:=λj=>eqD (ds.getD j .non) (es.getD j .non)) p1 p2 hu0 λj g1 g2=>by
      obtain⟨v1,k1,k2,k3⟩:=gg h2 rv j (by simpa using g1)
      obtain⟨v2,k4,k5,k6⟩:=gg h4 rv2 j (by simpa using g2)
      exact ih k1 k4 (by simpa using k2) (by simpa using k5) (qaT.mp o1 _ k3) (qaT.mp o2 _ k6) hu1
     have e1:its.toArray.size=ds.length:=by simp[<-rv.length,h2.length]
     have e2:its2.toArray.size=es.length:=by simp[<-rv2.length,h4.length]
     rw[e1,e2,gp]at z
     exact qfj hab z
   |lst es=>
    obtain⟨b,us,rfl,_,h3,h4⟩:=id r2
    cases q2
    obtain⟨its2,rv2,p2,_⟩:=I.list (.inl h3)
    exact qmU p1 p2.isList hu0
   |non=>cases r2;cases q2;exact qmT p1 hu0
   |bl x=>cases r2;cases q2;exact qmW x p1 hu0
   |int x=>cases r2;obtain⟨t,rfl⟩:=q2;exact qmV x t p1 hu0
   |str x=>cases r2;obtain⟨t,rfl⟩:=q2;exact qmS x t p1 hu0
   |ty _=>cases o2
   |scr _=>cases o2
   |dct=>cases o2
  |lst ds=>
   obtain⟨a,vs,rfl,h0,h1,h2⟩:=r1
   cases q1
   obtain⟨its,rv,p1,_⟩:=I.list (.inl h1)
   cases e with
   |lst es=>
    obtain⟨b,us,rfl,_,h3,h4⟩:=id r2
    cases q2
    by_cases hab:a=b
    ·subst hab
     rw[yk I (n+1) (d:=.lst ds) ⟨a,vs,rfl,h0,h1,h2⟩ r2 o1 o2]
     exact qgo _
    ·obtain⟨its2,rv2,p2,_⟩:=I.list (.inl h3)
     have e1:its.toArray.size=ds.length:=by simp[<-rv.length,h2.length]
     have e2:its2.toArray.size=es.length:=by simp[<-rv2.length,h4.length]
     by_cases hl:ds.length=es.length
     ·have z:=qim (A:=A) (e:=λj=>eqD (ds.getD j .non) (es.getD j .non)) p1.isList p2.isList (by rw[e1,e2,hl]) hu0 λj g1 g2=>by
       obtain⟨v1,k1,k2,k3⟩:=gg h2 rv j (by simpa using g1)
       obtain⟨v2,k4,k5,k6⟩:=gg h4 rv2 j (by simpa using g2)
       exact ih k1 k4 (by simpa using k2) (by simpa using k5) (qaT.mp o1 _ k3) (qaT.mp o2 _ k6) hu1
      rw[e1,kh hl]at z
      exact qfj hab z
     ·have z:=qgJ (A:=A) p1.isList p2.isList (by rw[e1,e2];simpa using hl) hu0
      show qeQ A s _ _ (fA ds es)
      rw[u4 hl]
      exact qfj hab z
   |tup es=>
    obtain⟨b,us,rfl,h3,h4⟩:=id r2
    cases q2
    obtain⟨its2,rv2,p2,_⟩:=I.tuple (SqT.of h3)
    exact qm7 p1.isList p2 hu0
   |non=>cases r2;cases q2;exact qm9 p1.isList hu0
   |bl x=>cases r2;cases q2;exact qnb x p1.isList hu0
   |int x=>cases r2;obtain⟨t,rfl⟩:=q2;exact qna x t p1.isList hu0
   |str x=>cases r2;obtain⟨t,rfl⟩:=q2;exact qm8 x t p1.isList hu0
   |ty _=>cases o2
   |scr _=>cases o2
   |dct=>cases o2
  |non=>
   cases r1;cases q1
   cases e with
   |tup es=>obtain⟨b,us,rfl,h3,h4⟩:=r2;cases q2;obtain⟨_,_,p2,_⟩:=I.tuple (SqT.of h3);exact qm2 p2 hu0
   |lst es=>obtain⟨b,us,rfl,_,h3,h4⟩:=r2;cases q2;obtain⟨_,_,p2,_⟩:=I.list (.inl h3);exact qm4 p2.isList hu0
   |_=>first|(cases o2;done)|exact flat rfl rfl (d:=.non) rfl r2 (v:=.non) rfl q2
  |bl x=>
   cases r1;cases q1
   cases e with
   |tup es=>obtain⟨b,us,rfl,h3,h4⟩:=r2;cases q2;obtain⟨_,_,p2,_⟩:=I.tuple (SqT.of h3);exact qnh x p2 hu0
   |lst es=>obtain⟨b,us,rfl,_,h3,h4⟩:=r2;cases q2;obtain⟨_,_,p2,_⟩:=I.list (.inl h3);exact qnk x p2.isList hu0
   |_=>first|(cases o2;done)|exact flat rfl rfl (d:=.bl x) rfl r2 (v:=.bl x) rfl q2
  |int x=>
   cases r1;obtain⟨t1,rfl⟩:=q1
   cases e with
   |tup es=>obtain⟨b,us,rfl,h3,h4⟩:=r2;cases q2;obtain⟨_,_,p2,_⟩:=I.tuple (SqT.of h3);exact qnc x t1 p2 hu0
   |lst es=>obtain⟨b,us,rfl,_,h3,h4⟩:=r2;cases q2;obtain⟨_,_,p2,_⟩:=I.list (.inl h3);exact qne x t1 p2.isList hu0
   |_=>first|(cases o2;done)|exact flat rfl rfl (d:=.int x) rfl r2 (v:=.int x) ⟨t1,rfl⟩ q2
  |str x=>
   cases r1;obtain⟨t1,rfl⟩:=q1
   cases e with
   |tup es=>obtain⟨b,us,rfl,h3,h4⟩:=r2;cases q2;obtain⟨_,_,p2,_⟩:=I.tuple (SqT.of h3);exact qmX x t1 p2 hu0
   |lst es=>obtain⟨b,us,rfl,_,h3,h4⟩:=r2;cases q2;obtain⟨_,_,p2,_⟩:=I.list (.inl h3);exact qm0 x t1 p2.isList hu0
   |_=>first|(cases o2;done)|exact flat rfl rfl (d:=.str x) rfl r2 (v:=.str x) ⟨t1,rfl⟩ q2
  |ty _=>cases o1
  |scr _=>cases o1
  |dct=>cases o1
theorem FL {A:qa9}{y x:V}{u v:Value} (ry:aW y u) (rx:aW x v) (fy:gx y=true) (fx:gx x=true):qlF A s u v (eqV y x):=by
 cases y with
 |non=>
  cases ry
  cases x with
  |non=>cases rx;exact qmx
  |bl b=>cases rx;exact qmA b
  |int b=>obtain⟨t,rfl⟩:=rx;exact qmz b t
  |str b=>obtain⟨t,rfl⟩:=rx;exact qmw b t
  |_=>cases fx
 |bl a=>
  cases ry
  cases x with
  |non=>cases rx;exact qmO a
  |bl b=>cases rx;exact qmR a b
  |int b=>obtain⟨t,rfl⟩:=rx;exact qmQ a b t
  |str b=>obtain⟨t,rfl⟩:=rx;exact qmN a b t
  |_=>cases fx
 |int a=>
  obtain⟨t',rfl⟩:=ry
  cases x with
  |non=>cases rx;exact qmI a t'
  |bl b=>cases rx;exact qmL a t' b
  |int b=>obtain⟨t,rfl⟩:=rx;exact qmK a t' b t
  |str b=>obtain⟨t,rfl⟩:=rx;exact qmH a t' b t
  |_=>cases fx
 |str a=>
  obtain⟨t',rfl⟩:=ry
  cases x with
  |non=>cases rx;exact qmr a t'
  |bl b=>cases rx;exact qmu a t' b
  |int b=>obtain⟨t,rfl⟩:=rx;exact qmt a t' b t
  |str b=>obtain⟨t,rfl⟩:=rx;exact qmq a t' b t
  |_=>cases fx
 |_=>cases fy
theorem A4 {A:qa9}{y x:V}{u v:Value} (ry:aW y u) (rx:aW x v) (fy:gx y=true) (fx:gx x=true):qkt A s u v (!eqV y x):=by
 cases y with
 |non=>
  cases ry
  cases x with
  |non=>cases rx;exact qli
  |bl b=>cases rx;exact qll b
  |int b=>obtain⟨t,rfl⟩:=rx;exact qlk b t
  |str b=>obtain⟨t,rfl⟩:=rx;exact qlh b t
  |_=>cases fx
 |bl a=>
  cases ry
  cases x with
  |non=>cases rx;exact qlB a
  |bl b=>cases rx;exact qlE a b
  |int b=>obtain⟨t,rfl⟩:=rx;exact qlD a b t
  |str b=>obtain⟨t,rfl⟩:=rx;exact qlA a b t
  |_=>cases fx
 |int a=>
  obtain⟨t',rfl⟩:=ry
  cases x with
  |non=>cases rx;exact qlv a t'
  |bl b=>cases rx;exact qly a t' b
  |int b=>obtain⟨t,rfl⟩:=rx;exact qlx a t' b t
  |str b=>obtain⟨t,rfl⟩:=rx;exact qlu a t' b t
  |_=>cases fx
 |str a=>
  obtain⟨t',rfl⟩:=ry
  cases x with
  |non=>cases rx;exact qlc a t'
  |bl b=>cases rx;exact qlf a t' b
  |int b=>obtain⟨t,rfl⟩:=rx;exact qle a t' b t
  |str b=>obtain⟨t,rfl⟩:=rx;exact qlb a t' b t
  |_=>cases fx
 |_=>cases fy
inductive Kin where
 |fl (d:D)|tp (ds:List D)|ls (ds:List D)
def kz (st:Sto):W->Option Kin
 |.d (.tup ds)=>some (.tp ds)
 |.d (.lst ds)=>some (.ls ds)
 |.h n=>(lg st n).map .ls
 |.d .non=>some (.fl .non)
 |.d (.bl b)=>some (.fl (.bl b))
 |.d (.int i)=>some (.fl (.int i))
 |.d (.str x)=>some (.fl (.str x))
 |_=>none
def eqK:Kin->Kin->Option Bool
 |.fl a,.fl b=>some (eqD a b)
 |.tp as,.tp bs=>if (as.isEmpty||bs.isEmpty)=true then some (as.isEmpty&&bs.isEmpty) else if as.all (okD 60)=true/\bs.all (okD 60)=true then some (fA as bs) else none
 |.ls as,.ls bs=>if as.length=bs.length then (if as.all (okD 60)=true/\bs.all (okD 60)=true then some (fA as bs) else none) else some false
 |.fl _,.tp _=>some false
 |.tp _,.fl _=>some false
 |.fl _,.ls _=>some false
 |.ls _,.fl _=>some false
 |.tp _,.ls _=>some false
 |.ls _,.tp _=>some false
def dEq (st:Sto) (x y:W):Option D:=(kz st x).bind λa=>(kz st y).bind λb=>(eqK a b).map λk=>.bl k
def dNe (st:Sto) (x y:W):Option D:=(kz st x).bind λa=>(kz st y).bind λb=>(eqK a b).map λk=>.bl (!k)
def Ff (K:qai) (H:Hp) (φ:List Addr):Kin->V->Prop
 |.fl d,v=>cy d=true/\Rl K H φ d v
 |.tp ds,v=>∃ a vs,v=.ref a/\SqT K H a vs/\Rls K H φ ds vs
 |.ls ds,v=>∃ a vs,v=.ref a/\Rd H a (.lst vs)/\Rls K H φ ds vs
theorem og {w:W}{v:V}{k:Kin} (S:Sr K H φ st) (r:Rw K H φ w v) (e:kz st w=some k):Ff K H φ k v:=by
 cases w with
 |h n=>
  obtain⟨a,ea,rfl⟩:=r
  obtain⟨ds,e1,rfl⟩:=qad.mp e
  obtain⟨vs,q,rl⟩:=S.atl n a ds ea e1
  exact⟨a,vs,rfl,.inl q,rl⟩
 |d x=>
  cases x with
  |tup es=>cases e;obtain⟨a,vs,rfl,h1,h2⟩:=r;exact⟨a,vs,rfl,SqT.of h1,h2⟩
  |lst es=>cases e;obtain⟨a,vs,rfl,h0,h1,h2⟩:=r;exact⟨a,vs,rfl,h1,h2⟩
  |non=>cases e;exact⟨rfl,r⟩
  |bl b=>cases e;exact⟨rfl,r⟩
  |int b=>cases e;exact⟨rfl,r⟩
  |str b=>cases e;exact⟨rfl,r⟩
  |_=>cases e
theorem Ei {A:qa9}{k:Nat} (hr:cX k A):A.in1.units+60<cLine:=by
 have:=hr.un
 show A.units+1+60<cLine
 lia
theorem BH {k:Nat} (hr:cX k X.A) (I:Inv X pins σ H s) {a b:Kin}{v u:V}{vv uu:Value}{r:Bool} (ra:Ff X.K H φ a v) (rb:Ff X.K H φ b u) (qa:aW v vv) (qb:aW u uu) (e:eqK a b=some r) :
  qlF X.A s vv uu r/\qkt X.A s vv uu (!r):=by
 have hu0:=hr.units0
 have items:∀ {ds es:List D}{vs us:List V}{its its2:List Value},Rls X.K H φ ds vs->Rls X.K H φ es us->aP vs its->aP us its2->ds.all (okD 60)=true->es.all (okD 60)=true->
   ∀ j (g1:j<its.toArray.size) (g2:j<its2.toArray.size),qeQ X.A.in1 s its.toArray[j] its2.toArray[j] (eqD (ds.getD j .non) (es.getD j .non)):=by
  intro ds es vs us its its2 h2 h4 rv rv2 o1 o2 j g1 g2
  obtain⟨v1,k1,k2,k3⟩:=gg h2 rv j (by simpa using g1)
  obtain⟨v2,k4,k5,k6⟩:=gg h4 rv2 j (by simpa using g2)
  exact Fy I 60 k1 k4 (by simpa using k2) (by simpa using k5) (qaT.mp o1 _ k3) (qaT.mp o2 _ k6) (Ei hr)
 match a,b,e with
 |.fl d,.fl d',e=>
  cases e
  obtain⟨f1,r1⟩:=ra
  obtain⟨f2,r2⟩:=rb
  obtain⟨e1,g1⟩:=eU f1 r1
  obtain⟨e2,g2⟩:=eU f2 r2
  rw[<-n4 f1 f2,<-e1,<-e2]
  exact⟨FL qa qb g1 g2,A4 qa qb g1 g2⟩
 |.tp ds,.tp es,e=>
  simp only[eqK]at e
  obtain⟨a,vs,rfl,h1,h2⟩:=ra
  obtain⟨b,us,rfl,h3,h4⟩:=rb
  cases qa;cases qb
  obtain⟨its,rv,p1,_⟩:=I.tuple h1
  obtain⟨its2,rv2,p2,_⟩:=I.tuple h3
  have e1:its.toArray.size=ds.length:=by simp[<-rv.length,h2.length]
  have e2:its2.toArray.size=es.length:=by simp[<-rv2.length,h4.length]
  split at e
  ·rename_i hc
   cases e
   have hv:∀ j (g1:j<its.toArray.size) (g2:j<its2.toArray.size),qeQ X.A.in1 s its.toArray[j] its2.toArray[j] (eqD (ds.getD j .non) (es.getD j .non)):=λj g1 g2=>by
    rw[e1]at g1
    rw[e2]at g2
    rw[qds]at hc
    rcases hc with hc|hc
    ·rw[qjV.mp hc]at g1;exact absurd g1 (qcq _)
    ·rw[qjV.mp hc]at g2;exact absurd g2 (qcq _)
   have z:=qfD (A:=X.A) p1 p2 hu0 hv
   have z':=qhj (A:=X.A) p1 p2 hu0 hv
   rw[e1,e2,gp]at z z'
   have e3:fA ds es=(ds.isEmpty&&es.isEmpty):=by
    cases ds with
    |nil=>cases es<;>rfl
    |cons _ _=>cases es with
     |nil=>rfl
     |cons _ _=>cases hc
   rw[e3]at z z'
   exact⟨z,z'⟩
  ·split at e
   ·rename_i hc
    cases e
    have z:=qfD (A:=X.A) p1 p2 hu0 (items h2 h4 rv rv2 hc.1 hc.2)
    have z':=qhj (A:=X.A) p1 p2 hu0 (items h2 h4 rv rv2 hc.1 hc.2)
    rw[e1,e2,gp]at z z'
    exact⟨z,z'⟩
   ·cases e
 |.ls ds,.ls es,e=>
  simp only[eqK]at e
  obtain⟨a,vs,rfl,h1,h2⟩:=ra
  obtain⟨b,us,rfl,h3,h4⟩:=rb
  cases qa;cases qb
  obtain⟨its,rv,p1,_⟩:=I.list (.inl h1)
  obtain⟨its2,rv2,p2,_⟩:=I.list (.inl h3)
  have e1:its.toArray.size=ds.length:=by simp[<-rv.length,h2.length]
  have e2:its2.toArray.size=es.length:=by simp[<-rv2.length,h4.length]
  split at e
  ·rename_i hl
   split at e
   ·rename_i hc
    cases e
    have z:=qim (A:=X.A) p1.isList p2.isList (by rw[e1,e2,hl]) hu0 (items h2 h4 rv rv2 hc.1 hc.2)
    have z':=qln (A:=X.A) p1.isList p2.isList (by rw[e1,e2,hl]) hu0 (items h2 h4 rv rv2 hc.1 hc.2)
    rw[e1,kh hl]at z z'
    exact⟨z,z'⟩
   ·cases e
  ·rename_i hl
   cases e
   have z:=qgJ (A:=X.A) p1.isList p2.isList (by rw[e1,e2];simpa using hl) hu0
   have z':=qlm (A:=X.A) p1.isList p2.isList (by rw[e1,e2];simpa using hl) hu0
   exact⟨z,z'⟩
 |.fl d,.tp es,e=>
  cases e
  obtain⟨f1,r1⟩:=ra
  obtain⟨b,us,rfl,h3,h4⟩:=rb
  cases qb
  obtain⟨its2,rv2,p2,_⟩:=I.tuple h3
  cases d with
  |non=>cases r1;cases qa;exact⟨qmv p2 hu0,qlg p2 hu0⟩
  |bl x=>cases r1;cases qa;exact⟨qmM x p2 hu0,qlz x p2 hu0⟩
  |int x=>cases r1;obtain⟨t,rfl⟩:=qa;exact⟨qmG x t p2 hu0,qlt x t p2 hu0⟩
  |str x=>cases r1;obtain⟨t,rfl⟩:=qa;exact⟨qmp x t p2 hu0,qla x t p2 hu0⟩
  |_=>cases f1
 |.tp es,.fl d,e=>
  cases e
  obtain⟨f1,r1⟩:=rb
  obtain⟨b,us,rfl,h3,h4⟩:=ra
  cases qa
  obtain⟨its2,rv2,p2,_⟩:=I.tuple h3
  cases d with
  |non=>cases r1;cases qb;exact⟨qml p2 hu0,qk6 p2 hu0⟩
  |bl x=>cases r1;cases qb;exact⟨qmo x p2 hu0,qk9 x p2 hu0⟩
  |int x=>cases r1;obtain⟨t,rfl⟩:=qb;exact⟨qmn x t p2 hu0,qk8 x t p2 hu0⟩
  |str x=>cases r1;obtain⟨t,rfl⟩:=qb;exact⟨qmk x t p2 hu0,qk5 x t p2 hu0⟩
  |_=>cases f1
 |.fl d,.ls es,e=>
  cases e
  obtain⟨f1,r1⟩:=ra
  obtain⟨b,us,rfl,h3,h4⟩:=rb
  cases qb
  obtain⟨its2,rv2,p2,_⟩:=I.list (.inl h3)
  replace p2:=p2.isList
  cases d with
  |non=>cases r1;cases qa;exact⟨qmy p2 hu0,qlj p2 hu0⟩
  |bl x=>cases r1;cases qa;exact⟨qmP x p2 hu0,qlC x p2 hu0⟩
  |int x=>cases r1;obtain⟨t,rfl⟩:=qa;exact⟨qmJ x t p2 hu0,qlw x t p2 hu0⟩
  |str x=>cases r1;obtain⟨t,rfl⟩:=qa;exact⟨qms x t p2 hu0,qld x t p2 hu0⟩
  |_=>cases f1
 |.ls es,.fl d,e=>
  cases e
  obtain⟨f1,r1⟩:=rb
  obtain⟨b,us,rfl,h3,h4⟩:=ra
  cases qa
  obtain⟨its2,rv2,p2,_⟩:=I.list (.inl h3)
  replace p2:=p2.isList
  cases d with
  |non=>cases r1;cases qb;exact⟨qmD p2 hu0,qlq p2 hu0⟩
  |bl x=>cases r1;cases qb;exact⟨qmF x p2 hu0,qls x p2 hu0⟩
  |int x=>cases r1;obtain⟨t,rfl⟩:=qb;exact⟨qmE x t p2 hu0,qlr x t p2 hu0⟩
  |str x=>cases r1;obtain⟨t,rfl⟩:=qb;exact⟨qmC x t p2 hu0,qlp x t p2 hu0⟩
  |_=>cases f1
 |.tp ds,.ls es,e=>
  cases e
  obtain⟨a,vs,rfl,h1,h2⟩:=ra
  obtain⟨b,us,rfl,h3,h4⟩:=rb
  cases qa;cases qb
  obtain⟨its,rv,p1,_⟩:=I.tuple h1
  obtain⟨its2,rv2,p2,_⟩:=I.list (.inl h3)
  exact⟨qmm p1 p2.isList hu0,qk7 p1 p2.isList hu0⟩
 |.ls ds,.tp es,e=>
  cases e
  obtain⟨a,vs,rfl,h1,h2⟩:=ra
  obtain⟨b,us,rfl,h3,h4⟩:=rb
  cases qa;cases qb
  obtain⟨its,rv,p1,_⟩:=I.list (.inl h1)
  obtain⟨its2,rv2,p2,_⟩:=I.tuple h3
  exact⟨qmB p1.isList p2 hu0,qlo p1.isList p2 hu0⟩
theorem e8 {k:Nat} (hr:cX k X.A) (hK:X.K=K:=by rfl):OpD K X (qcB .Eq) dEq:=by
 subst hK
 refine⟨λst x y d h=>?_⟩
 simp only[dEq,qac,qad]at h
 obtain⟨a,ha,b,hb,r,e,rfl⟩:=h
 intro pins s σ H vx vy v u Q I rx ry q
 obtain⟨φ,S,r1,r2,q⟩:=q
 exact (BH hr I (og S r1 ha) (og S r2 hb) rx ry e).1 _ _ _ _ ⟨.bl r,H,I,rfl,q _ H (bL.refl H) rfl⟩
theorem qo {k:Nat} (hr:cX k X.A) (hK:X.K=K:=by rfl):OpD K X (qcB .NotEq) dNe:=by
 subst hK
 refine⟨λst x y d h=>?_⟩
 simp only[dNe,qac,qad]at h
 obtain⟨a,ha,b,hb,r,e,rfl⟩:=h
 intro pins s σ H vx vy v u Q I rx ry q
 obtain⟨φ,S,r1,r2,q⟩:=q
 exact (BH hr I (og S r1 ha) (og S r2 hb) rx ry e).2 _ _ _ _ ⟨.bl (!r),H,I,rfl,q _ H (bL.refl H) rfl⟩
end
section
variable {K:qai}{X:Cx}
def ba:List D->Option (List Int)
 |[]=>some []
 |.int i::ds=>(ba ds).map λr=>i::r
 |_=>none
theorem dL:∀ {ds:List D}{ns:List Int},ba ds=some ns->ds=ns.map D.int
 |[],_,h=>by cases h;rfl
 |.int i::ds,_,h=>by
  obtain⟨r,e,rfl⟩:=qad.mp h
  rw[dL e];rfl
 |.non::_,_,h=>by cases h
 |.bl _::_,_,h=>by cases h
 |.str _::_,_,h=>by cases h
 |.ty _::_,_,h=>by cases h
 |.dct::_,_,h=>by cases h
 |.scr _::_,_,h=>by cases h
 |.tup _::_,_,h=>by cases h
 |.lst _::_,_,h=>by cases h
theorem bH:∀ (ns:List Int),ba (ns.map D.int)=some ns
 |[]=>rfl
 |n::ns=>by rw[qal,ba,bH ns];rfl
def eA (st:Sto):List W->Option D
 |[.d (.str x)]=>if x.length<=1000000 then some (.int x.length) else none
 |[w]=>(jg st w).map λds=>.int ds.length
 |_=>none
def BX (_:Sto):List W->Option D
 |[.d (.int i)]=>some (.int (if i<0 then -i else i))
 |_=>none
def FT (_:Sto):List W->Option D
 |[.d (.int i)]=>some (.int i)
 |[.d (.bl k)]=>some (.int (if k then 1 else 0))
 |_=>none
def oD (_:Sto):List W->Option D
 |[.d (.lst ds)]=>(ba ds).map λns=>.int ns.sum
 |_=>none
def i8 (st:Sto):List W->Option D
 |[w]=>(jg st w).map λds=>.tup ds
 |_=>none
def E3 (st:Sto):W->Option String
 |.d .non=>some "NoneType"
 |.d (.bl _)=>some "bool"
 |.d (.int _)=>some "int"
 |.d (.str _)=>some "str"
 |.d (.tup _)=>some "tuple"
 |.d (.lst _)=>some "list"
 |.d .dct=>some "dict"
 |.h n=>(lg st n).map λ_=>"list"
 |_=>none
def Fs (t c:String):Option Bool:=
 if c = "int" then some (t=="int" || t=="bool")
 else if c = "bool"\/c = "str"\/c = "tuple"\/c = "list" then some (t==c)
 else none
def nO (st:Sto):List W->Option D
 |[w,.d (.ty c)]=>(E3 st w).bind λt=>(Fs t c).map λb=>.bl b
 |_=>none
theorem d0 (hK:X.K=K:=by rfl):lL K X (.builtin "len") eA:=by
 subst hK
 refine⟨λst ws d h=>?_⟩
 have seq:∀ w,(jg st w).map (λds=>D.int ds.length)=some d->eV X (.builtin "len") (rCD X.K st [w] d):=λw h=>by
  obtain⟨ds,e,rfl⟩:=qad.mp h
  refine sC.imp ?_
  rintro vs H Q ⟨φ,S,⟨v,r,rfl,r1,rfl⟩,q⟩
  obtain⟨a,us,rfl,h1,h2⟩:=oe S r1 e
  exact⟨a,us,rfl,h1,q _ H (bL.refl H) (by rw[<-h2.length];rfl)⟩
 cases ws with
 |nil=>cases h
 |cons w tl=>
  cases tl with
  |cons _ _=>
   cases w with
   |h n=>cases h
   |d x=>cases x<;>cases h
  |nil=>
   cases w with
   |h n=>exact seq _ h
   |d x=>
    cases x with
    |str x=>
     simp only[eA]at h
     split at h
     ·rename_i hl
      cases h
      refine sW.imp ?_
      rintro vs H Q ⟨φ,S,⟨v,r,rfl,r1,rfl⟩,q⟩
      exact⟨x,by rw[show v=.str x from r1],qaL hl mil,q _ H (bL.refl H) rfl⟩
     ·cases h
    |tup ds=>exact seq _ h
    |lst ds=>exact seq _ h
    |scr ds=>exact seq _ h
    |_=>cases h
theorem BA:lL K X (.builtin "abs") BX:=by
 refine⟨λst ws d h=>?_⟩
 match ws,h with
 |[.d (.int i)],h=>
  cases h
  refine Ad.imp ?_
  rintro vs H Q ⟨φ,S,⟨v,r,rfl,r1,rfl⟩,q⟩
  exact⟨i,by rw[show v=.int i from r1],q _ H (bL.refl H) rfl⟩
theorem E5:lL K X (.type "int") FT:=by
 refine⟨λst ws d h=>?_⟩
 unfold FT at h
 split at h
 next i=>
  cases h
  refine rn.imp ?_
  rintro vs H Q ⟨φ,S,⟨v,r,rfl,r1,rfl⟩,q⟩
  exact .inl ⟨i,by rw[show v=.int i from r1],q _ H (bL.refl H) rfl⟩
 next i=>
  cases h
  refine rn.imp ?_
  rintro vs H Q ⟨φ,S,⟨v,r,rfl,r1,rfl⟩,q⟩
  exact .inr ⟨i,by rw[show v=.bl i from r1],q _ H (bL.refl H) rfl⟩
 next=>cases h
theorem tJ (hc:X.calm=true:=by rfl) (hK:X.K=K:=by rfl):lL K X (.builtin "sum") oD:=by
 subst hK
 refine⟨λst ws d h=>?_⟩
 unfold oD at h
 split at h
 next ds=>
  obtain⟨ns,e,rfl⟩:=qad.mp h
  cases dL e
  refine (GH (K:=X.K) hc rfl).imp ?_
  rintro vs H Q ⟨φ,S,⟨v,r,rfl,⟨a,us,rfl,h0,h1,h2⟩,rfl⟩,q⟩
  cases h2.ints
  exact⟨a,ns,rfl,.inl h1,q _ H (bL.refl H) rfl⟩
 next=>cases h
theorem gu (hK:X.K=K:=by rfl):lL K X (.type "tuple") i8:=by
 subst hK
 refine⟨λst ws d h=>?_⟩
 unfold i8 at h
 split at h
 next w=>
  obtain⟨ds,e,rfl⟩:=qad.mp h
  refine qF.imp ?_
  rintro vs H Q ⟨φ,S,⟨v,r,rfl,r1,rfl⟩,q⟩
  obtain⟨a,us,rfl,h1,h2⟩:=vb S r1 e
  refine⟨a,us,rfl,?_⟩
  rcases h1 with h1|h1
  ·exact .inl ⟨h1,λl hl=>q _ _ (bL.new hl _) ⟨l,us,rfl,bj,h2.fw S (Fw.new hl)⟩⟩
  ·exact .inr ⟨SqT.of h1,q _ H (bL.refl H) ⟨a,us,rfl,h1,h2⟩⟩
 next=>cases h
theorem ii {t c:String}{b:Bool} (ht:t = "NoneType"\/t = "bool"\/t = "int"\/t = "str"\/t = "tuple"\/t = "list"\/t = "dict") (h:Fs t c=some b):qjD K (.type t) (.type c)=some b:=by
 unfold Fs at h
 split at h
 ·rename_i hc
  subst hc
  rcases ht with rfl|rfl|rfl|rfl|rfl|rfl|rfl<;>(cases h;rfl)
 ·split at h
  ·rename_i _ hc
   rcases hc with rfl|rfl|rfl|rfl<;>rcases ht with rfl|rfl|rfl|rfl|rfl|rfl|rfl<;>(cases h;rfl)
  ·cases h
theorem oy (hK:X.K=K:=by rfl):lL K X (.builtin "isinstance") nO:=by
 subst hK
 refine⟨λst ws d h=>?_⟩
 unfold nO at h
 split at h
 next w c=>
  simp only[qac,qad]at h
  obtain⟨t,ht,b,hb,rfl⟩:=h
  intro pins s σ H xs us Q I rv q
  obtain⟨φ,S,⟨v,r,rfl,r1,u,r',rfl,r2,rfl⟩,q⟩:=q
  cases (show u=.ty c from r2)
  obtain⟨vv,uu,rfl,rv1,rv2⟩:=rv.two
  cases rv2
  have fin:∀ tk,EP X pins σ Q (.bool b) { s with toks:=tk }:=λtk=>⟨.bl b,H,I.tok tk,rfl,q _ H (bL.refl H) rfl⟩
  cases w with
  |h n=>
   obtain⟨a,ea,rfl⟩:=r1
   obtain⟨ds,eds,rfl⟩:=qad.mp ht
   obtain⟨vs,hv,_⟩:=S.atl n a ds ea eds
   exact dh I rv1 (.lst hv) (ii (by simp) hb) fin
  |d x=>
   cases x with
   |non=>cases ht;cases r1;exact dh I rv1 .non (ii (by simp) hb) fin
   |bl x=>cases ht;cases r1;exact dh I rv1 (.bl x) (ii (by simp) hb) fin
   |int x=>cases ht;cases r1;exact dh I rv1 (.int x) (ii (by simp) hb) fin
   |str x=>cases ht;cases r1;exact dh I rv1 (.str x) (ii (by simp) hb) fin
   |lst ds=>
    cases ht
    obtain⟨a,vs,rfl,h0,h1,h2⟩:=r1
    rcases h1 with h1|⟨o,h1⟩
    ·exact dh I rv1 (.lst h1) (ii (by simp) hb) fin
    ·exact dh I rv1 (.frz h1) (ii (by simp) hb) fin
   |tup ds=>
    cases ht
    obtain⟨a,vs,rfl,h1,h2⟩:=r1
    cases rv1
    obtain⟨its,_,p,_⟩:=I.tuple (SqT.of h1)
    obtain⟨o,e1,e2,_⟩:=p
    exact qb3 qiw I.kIn ⟨o,e1,e2⟩ (ii (by simp) hb) (λz=>nomatch z) fin
   |dct=>
    cases ht
    obtain⟨a,rfl,_,h1⟩:=r1
    rcases h1 with⟨d,h1⟩|⟨d,h1⟩
    ·exact dh I rv1 (.dK h1) (ii (by simp) hb) fin
    ·exact dh I rv1 (.dT h1) (ii (by simp) hb) fin
   |ty x=>cases ht
   |scr x=>cases ht
 next=>cases h
variable {e a b:Expr}{es:List Expr}{pos:Pos}{f fa fb:Ef}{af:Af}
theorem vj {x:Str}{c:String} (hg:Gl X x) (hm:X.mg x=none) (hv:qdc x=some (.type c)) (hn:x≠"__name__":=by decide) (hd:(x==("__debug__" : Str))=false:=by decide):IE K X (.Name x pos) (iC (.ty c)):=
 B5 (v:=.ty c) (CY hg hm hv rfl hn hd) λ_ _=>rfl
def gL (g:List D->List W->Option (D×List D)) (o:Ef) (a:Af):Ef
 |env,st=>(o env st).bind λx=>(a env x.2).bind λr=>match x.1 with
 |.h n=>(lg x.2 n).bind λ_=>(lg r.2 n).bind λds=>(g ds r.1).map λy=>(.d y.1,r.2.set n (.l y.2))
 |_=>none
def iQ (ds:List D):List W->Option (D×List D)
 |[.d x]=>if ds.length<1000000 then some (.non,ds++[x]) else none
 |_=>none
theorem wa {name:Str}{id:String}{apos:Pos}{rr:V->List V->Hp->VK->Prop}{g:List D->List W->Option (D×List D)} (slot:Slot "list" name id) (hty:typeOf (.builtin id)=pure (.type "method_descriptor")) (hm:MtR X id rr)
  (hg:∀ (H:Hp) (φ:List Addr) (st:Sto) (n:Nat) (ad:Addr) (ds:List D) (vs:List V) (ws:List W) (us:List V) (y:D×List D) (Q:VK),Sr K H φ st->φ[n]?=some ad->lg st n=some ds->H ad=some (.lst vs)->Rls K H φ ds vs->Rws K H φ ws us->g ds ws=some y->
    (∀ v vs',Rl K H φ y.1 v->Rls K H φ y.2 vs'->(∀ b,v≠.ref b)->Q v (upd H ad (.lst vs')))->rr (.ref ad) us H Q)
  (hfl:∀ ds ws y,g ds ws=some y->cy y.1=true)
  (ho:IE K X a fa) (ha:IA K X (e::es) af) (hbase:qeE a name X.env (eval a X.env)=eval a X.env:=by rfl)
  (hall:(e::es).all aU=true:=by rfl) (hfl30:(e::es).length<30:=by decide) (hline:(apos.endLine==pos.line)=true:=by rfl) (hK:X.K=K:=by rfl) :
  IE K X (.Call (.Attribute a name apos) (e::es) [] pos) (gL g fa af):=by
 subst hK
 have hall2:aU e=true/\es.all aU=true:=by rw[qbQ,qbb]at hall;exact hall
 refine⟨λenv st r hr=>?_⟩
 simp only[gL,qac]at hr
 obtain⟨⟨x,s1⟩,hx,⟨ws,s2⟩,hw,hr⟩:=hr
 cases x with
 |d x=>cases hr
 |h n=>
  simp only[qac,qad]at hr
  obtain⟨ds1,hds1,ds,hds,y,hy,rfl⟩:=hr
  refine (Gx PySem.F.plainAttrs_list slot hty hm (ho.run _ _ _ hx) (ha.run _ _ _ hw) hbase (Aa hall hfl30) hline (bv hall2.1) (cH hall2.2)).imp ?_
  rintro σ H Q ⟨φ,hE,hS,q⟩
  refine⟨φ,hE,hS,λv H1 φ1 f1 S1 w1=>?_⟩
  obtain⟨ad,ea,rfl⟩:=w1
  obtain⟨vs1,hv1,_⟩:=S1.atl n ad _ ea hds1
  refine⟨.inl ⟨rfl,vs1,SqL.of hv1⟩,φ1,hE.fw hS f1,S1,λus H2 φ2 f2 S2 w2=>?_⟩
  have ea2:=f2.get ea
  obtain⟨vs2,hv2,rl2⟩:=S2.atl n ad ds ea2 hds
  refine hg H2 φ2 s2 n ad ds vs2 ws us y _ S2 ea2 hds hv2 rl2 w2 hy λv vs' r1 r2 hb=>?_
  obtain⟨f3,S3⟩:=S2.put ea2 r2
  exact q v _ φ2 ((f1.trans f2).trans f3) S3 (r1.fw S2 f3)
theorem rp {apos:Pos} (ho:IE K X a fa) (ha:IA K X (e::es) af) (hbase:qeE a "append" X.env (eval a X.env)=eval a X.env:=by rfl)
  (hall:(e::es).all aU=true:=by rfl) (hfl30:(e::es).length<30:=by decide) (hline:(apos.endLine==pos.line)=true:=by rfl) (hK:X.K=K:=by rfl) :
  IE K X (.Call (.Attribute a "append" apos) (e::es) [] pos) (gL iQ fa af):=by
 refine wa PySem.F.slot_list_append PySem.F.type_list_append zp (λH φ st n ad ds vs ws us y Q S ea eds hv rl rw hy q=>?_) (λds ws y h=>?_) ho ha hbase hall hfl30 hline hK
 ·match ws,hy with
  |[.d x],hy=>
   simp only[iQ]at hy
   split at hy
   ·rename_i hl
    cases hy
    obtain⟨v,r,rfl,r1,rfl⟩:=rw
    exact⟨ad,vs,v,rfl,rfl,hv,by rw[<-rl.length];exact qaR hl mil,q _ _ rfl (rl.append ⟨v,[],rfl,r1,rfl⟩) (λb z=>nomatch z)⟩
   ·cases hy
 ·match ws,h with
  |[.d x],h=>
   simp only[iQ]at h
   split at h
   ·cases h;rfl
   ·cases h
end
section
variable {K:qai}{X:Cx}{e a b:Expr}{es:List Expr}{pos:Pos}{f fa fb:Ef}{af:Af}
theorem yd {i j:Nat}{x y:Str}{px py pt:Pos}{kt k2 pt2}
  (h:∀ ta,PA X [a,b] ta->PS X (.Assign [.Tuple [.Name x px,.Name y py] kt pt] (.Tuple [a,b] k2 pt2) pos) (Hb i j ta)) (ha:IA K X [a,b] af) :
  IS K X (.Assign [.Tuple [.Name x px,.Name y py] kt pt] (.Tuple [a,b] k2 pt2) pos) (t7 i j af):=by
 refine⟨λenv st r hr=>?_⟩
 simp only[t7,qac]at hr
 obtain⟨⟨ws,s1⟩,hy,hr⟩:=hr
 match ws,hr with
 |[x,y],hr=>
  cases hr
  refine (h _ (ha.run _ _ _ hy)).imp ?_
  rintro D σ H ⟨φ,hE,hS,q⟩
  refine⟨φ,hE,hS,λvs H1 φ1 f1 s1 w1=>?_⟩
  obtain⟨v,r,rfl,r1,u,r',rfl,r2,r3⟩:=w1
  cases r3
  exact⟨v,u,rfl,q _ H1 φ1 f1 (((hE.fw hS f1).set i r1).set j r2) s1⟩
def wU (x:Int):List Int->List Int
 |[]=>[x]
 |y::ys=>if x<=y then x::y::ys else y::wU x ys
def oK:List Int->List Int
 |[]=>[]
 |x::xs=>wU x (oK xs)
theorem mH (x:Int):∀ ys,(wU x ys).Perm (x::ys)
 |[]=>qcb _
 |y::ys=>by
  unfold wU
  split
  ·exact qcb _
  ·exact (List.Perm.cons y (mH x ys)).trans (List.Perm.swap x y ys)
theorem nk:∀ xs,(oK xs).Perm xs
 |[]=>qcb _
 |x::xs=>(mH x _).trans (List.Perm.cons x (nk xs))
theorem nj (x:Int):∀ {ys:List Int},ys.Pairwise (·<=·)->(wU x ys).Pairwise (·<=·)
 |[],_=>by simp[wU]
 |y::ys,h=>by
  unfold wU
  split
  ·rename_i hxy
   refine qbw.mpr ⟨λz hz=>?_,h⟩
   rcases qay.mp hz with rfl|hz
   ·exact hxy
   ·exact qiU hxy ((qbw.mp h).1 z hz)
  ·rename_i hxy
   refine qbw.mpr ⟨λz hz=>?_,nj x (qbw.mp h).2⟩
   rcases qay.mp ((mH x ys).mem_iff.mp hz) with rfl|hz
   ·lia
   ·exact (qbw.mp h).1 z hz
theorem kn:∀ xs,(oK xs).Pairwise (·<=·)
 |[]=>List.Pairwise.nil
 |x::xs=>nj x (kn xs)
theorem nz {xs ys:List Int} (p:xs.Perm ys) (h1:xs.Pairwise (·<=·)) (h2:ys.Pairwise (·<=·)):xs=ys:=
 qey (λa b _ _ h1 h2=>Int.le_antisymm h1 h2) h1 h2 p
theorem iO:∀ {ns:List Int}{us:List Value},qdC us ns->aP (ns.map V.int) us
 |_,_,.nil=>.nil
 |_,_,.cons n t h=>.cons ⟨t,rfl⟩ (iO h)
theorem Dl {H:Hp}{ad:Addr}{ns:List Int}{m:Fn} (hO:CV H) (hS:SqL K H ad (ns.map V.int)) (h:∃ st,m [.d (.scr ns)] []=some (.d (.bl true),st)):spI K m [.ref ad] H (λv _=>v=.bl true) λ_ _ _=>False:=by
 obtain⟨st,h⟩:=h
 refine⟨[],[],[.d (.scr ns)],_,h,⟨_,[],rfl,⟨ad,rfl,?_⟩,rfl⟩,⟨qfL,rfl,λn a ds e=>by simp at e⟩,λv H' φ' _ _ r=>r⟩
 rcases hS with (h|h)|h
 ·rcases hO ad with z|⟨o,xs,z⟩
  ·rw[h]at z;cases z
  ·rw[h]at z;cases z
 ·exact .inl h
 ·exact .inr h
end
end L2
namespace L2
open PySem
theorem bN {g:Tg}{body:Sf}:∀ {ds:List D} (Pv:Nat->Ev->Sto->Prop) {env:Ev}{st:Sto},Pv 0 env st->
  (∀ i d env st,ds[i]?=some d->Pv i env st->∃ e1 e2 s2,fM g (.d d) env=some e1/\(body e1 st=some (.nx e2 s2)\/body e1 st=some (.ct e2 s2))/\Pv (i+1) e2 s2)->
  ∃ env' st',lG g body ds env st=some (.nx env' st')/\Pv ds.length env' st'
 |[],Pv,env,st,h0,_=>⟨env,st,rfl,h0⟩
 |d::ds,Pv,env,st,h0,hs=>by
  obtain⟨e1,e2,s2,h1,h2,h3⟩:=hs 0 d env st rfl h0
  obtain⟨e',s',h4,h5⟩:=bN (g:=g) (body:=body) (ds:=ds) (λi=>Pv (i+1)) h3 λi d' env' st' hd p=>hs (i+1) d' env' st' (by simpa using hd) p
  refine⟨e',s',?_,h5⟩
  unfold lG
  rw[h1,qaf]
  rcases h2 with h2|h2<;>(rw[h2,qaf];exact h4)
theorem mn {g:Tg}{tt:Tf}{te:Ef}{env:Ev}:∀ {ds:List D} (Pv:Nat->List D->Sto->Prop) {st:Sto}{ys0:List D},Pv 0 ys0 st->
  (∀ i d ys st,ds[i]?=some d->Pv i ys st->∃ e1,fM g (.d d) env=some e1/\((∃ s1 x s2,tt e1 st=some (true,s1)/\te e1 s1=some (.d x,s2)/\Pv (i+1) (ys++[x]) s2)\/∃ s1,tt e1 st=some (false,s1)/\Pv (i+1) ys s1))->
  ∃ ys st',lcI g tt te env ds st=some (ys,st')/\Pv ds.length (ys0++ys) st'
 |[],Pv,st,ys0,h0,_=>⟨[],st,rfl,by rw[qdq];exact h0⟩
 |d::ds,Pv,st,ys0,h0,hs=>by
  obtain⟨e1,h1,h2⟩:=hs 0 d ys0 st rfl h0
  rcases h2 with⟨s1,x,s2,h2,h3,h4⟩|⟨s1,h2,h4⟩
  ·obtain⟨ys,s',h5,h6⟩:=mn (g:=g) (tt:=tt) (te:=te) (env:=env) (ds:=ds) (λi=>Pv (i+1)) h4 λi d' ys' st' hd p=>hs (i+1) d' ys' st' (by simpa using hd) p
   refine⟨x::ys,s',?_,by simpa using h6⟩
   unfold lcI
   rw[h1,qaf,h2,qaf,if_pos rfl,h3,qaf,h5]
   rfl
  ·obtain⟨ys,s',h5,h6⟩:=mn (g:=g) (tt:=tt) (te:=te) (env:=env) (ds:=ds) (λi=>Pv (i+1)) h4 λi d' ys' st' hd p=>hs (i+1) d' ys' st' (by simpa using hd) p
   refine⟨ys,s',?_,by simpa using h6⟩
   unfold lcI
   rw[h1,qaf,h2,qaf,if_neg qan,h5]
theorem d8 {g:Tg}{tt:Tf}{te:Ef}{env:Ev}{st:Sto} (p:D->Bool) (F:D->D):∀ {ds:List D},(∀ d∈ds,∃ e1,fM g (.d d) env=some e1/\tt e1 st=some (p d,st)/\(p d=true->te e1 st=some (.d (F d),st)))->
  lcI g tt te env ds st=some ((ds.filter p).map F,st)
 |[],_=>rfl
 |d::ds,h=>by
  obtain⟨e1,h1,h2,h3⟩:=h d qak
  have ih:=d8 (g:=g) (tt:=tt) (te:=te) (env:=env) (st:=st) p F (ds:=ds) λx hx=>h x (qah _ hx)
  unfold lcI
  rw[h1,qaf,h2,qaf]
  cases hp:p d with
  |true=>rw[if_pos rfl,h3 hp,qaf,ih,qdb,hp];rfl
  |false=>rw[if_neg qan,ih,qdb,hp];rfl
theorem jZ {g:Tg}{te:Ef}{env:Ev}{st:Sto} (F:D->D) {ds:List D} (h:∀ d∈ds,∃ e1,fM g (.d d) env=some e1/\te e1 st=some (.d (F d),st)):lcI g cr te env ds st=some (ds.map F,st):=by
 have:=d8 (g:=g) (tt:=cr) (te:=te) (env:=env) (st:=st) (λ_=>true) F (ds:=ds) λd hd=>by
  obtain⟨e1,h1,h2⟩:=h d hd
  exact⟨e1,h1,rfl,λ_=>h2⟩
 rw[this,qfX.mpr λ_ _=>rfl]
theorem lh {a b:Int} (h:-(2^64)<a/\a<2^64):qbU a b:=DG.ok (.inl h)
theorem fJ {a b:Int} (h:-(2^64)<b/\b<2^64):qbU a b:=DG.ok (.inr h)
theorem wk {α:Type} (a:α) (l:List α):atI (a::l) 0=some a:=jS (j:=0) rfl
theorem Ex {α:Type} (a b:α) (l:List α):atI (a::b::l) 1=some b:=jS (j:=1) rfl
theorem HW {α:Type} (a b c:α) (l:List α):atI (a::b::c::l) 2=some c:=jS (j:=2) rfl
theorem Hj (n:Nat):ixN (n+1) 0=some 0:=x6 (j:=0) (by lia)
theorem HV (n:Nat):ixN (n+3) 2=some 2:=x6 (j:=2) (by lia)
theorem gY {n i:Nat}{d:D} (h:(gk 0 n)[i]?=some d):d=.int (i:Int)/\i<n:=by
 rw[uf]at h
 by_cases hi:i<n
 ·rw[if_pos hi]at h
  cases h
  exact⟨by rw[qcR],hi⟩
 ·rw[if_neg hi]at h;cases h
end L2
namespace L2
open PySem PySem.Spec PyProof.Rows
def Hi:Nat->Nat->StateT qbq Sem (Option Nat):=sortPriv% PySem.Builtin.countRun
def FE:Nat->Nat->Nat->StateT qbq Sem Bool:=sortPriv% PySem.Builtin.binarySort
def sk:Bool->Keyed->Array Keyed->Nat->Nat->Nat->StateT qbq Sem (Option Nat):=sortPriv% PySem.Builtin.gallop
def GA:Array Keyed->Array Keyed->StateT qbq Sem (Array Keyed):=sortPriv% PySem.Builtin.mergeLo
def HB:Array Keyed->Array Keyed->StateT qbq Sem (Array Keyed):=sortPriv% PySem.Builtin.mergeHi
def D0:Nat->StateT qbq Sem Bool:=sortPriv% PySem.Builtin.mergeAt
abbrev Eg (st:qbq) (g:Nat):qbq:=qb0 (kindOf st) (arrOf st) (qbD st) g (qcg st)
def Cm (prog:qaY) (w:World) (A:qa9) (s:qaj) (κ:qdJ) (O:qeB) (rk:Keyed->O.α) (S:Keyed->Prop):Prop:=
 ∀ x y,S x->S y->∀ (Q:Bool->qaj->Prop) (E:Value->qaj->Prop),Q (O.blt (rk x) (rk y)) s->wpAny (model prog w) A (keyLt' κ x.1 y.1) Q E s
section
variable {prog:qaY}{w:World}{A:qa9}{E:Value->qaj->Prop}{s:qaj}{κ:qdJ}{O:qeB}{rk:Keyed->O.α}{S:Keyed->Prop}
theorem uI (hC:Cm prog w A s κ O rk S) {x y:Keyed}{st:qbq}{Q:Option Bool->qbq->Prop} (hk:kindOf st=κ) (hx:S x) (hy:S y) (h:Q (some (O.blt (rk x) (rk y))) st) :
  wpS (model prog w) A E s (lt' x y) Q st:=by
 rw[lt'_eq]
 refine qaw (qew ?_)
 rw[hk]
 exact qaw (wpS_lift (qee (hC x y hx hy _ _ ⟨rfl,qaH h⟩)))
theorem bA {c:Prop} [Decidable c] {M:Model}{A':qa9}{E':Value->qaj->Prop}{s':qaj}{α:Type}{a b:StateT qbq Sem α}{Q:α->qbq->Prop}{st:qbq} (h:c) (k:wpS M A' E' s' a Q st):wpS M A' E' s' (if c then a else b) Q st:=by rw[if_pos h];exact k
theorem bp {c:Prop} [Decidable c] {M:Model}{A':qa9}{E':Value->qaj->Prop}{s':qaj}{α:Type}{a b:StateT qbq Sem α}{Q:α->qbq->Prop}{st:qbq} (h:¬ c) (k:wpS M A' E' s' b Q st):wpS M A' E' s' (if c then a else b) Q st:=by rw[if_neg h];exact k
theorem bC {arr:Array Keyed}{i:Nat}{x:Keyed}{st:qbq}{Q:Keyed->qbq->Prop} (hi:arr[i]?=some x) (h:Q x st):wpS (model prog w) A E s (elem' arr i) Q st:=by
 rw[elem'_eq,hi];exact qaH h
theorem iU {t:String}{st:qbq}{Q:Unit->qbq->Prop} (h:Q () st):wpS (model prog w) A E s (liftM (rule t):StateT qbq Sem Unit) Q st:=wpS_lift (qdG ⟨rfl,h⟩)
def kyd (arr:Array Keyed) (i:Nat):Keyed:=(arr[i]?).getD (.none,.none)
theorem br {arr:Array Keyed}{i:Nat} (h:i<arr.size):arr[i]?=some (kyd arr i):=by
 unfold kyd;simp[h]
theorem dO {a b:Array Keyed}{i j:Nat} (h:a[i]?=b[j]?):kyd a i=kyd b j:=by
 unfold kyd;rw[h]
theorem DF (hC:Cm prog w A s κ O rk S) {i j:Nat}{st:qbq}{Q:Option Bool->qbq->Prop} (hk:kindOf st=κ) (hi:i<(arrOf st).size) (hj:j<(arrOf st).size) (hx:S (kyd (arrOf st) i)) (hy:S (kyd (arrOf st) j))
  (h:Q (some (O.blt (rk (kyd (arrOf st) i)) (rk (kyd (arrOf st) j)))) st):wpS (model prog w) A E s (ltAt' i j) Q st:=by
 rw[ltAt'_eq]
 refine qaw (qew ?_)
 exact qaw (bC (br hi) (qaw (bC (br hj) (uI hC hk hx hy h))))
structure SB (κ:qdJ) (a0:Array Keyed) (lo:Nat) (p0:Array (Nat×Nat×Nat)) (g0:Nat) (st:qbq):Prop where
 perm:(arrOf st).Perm a0
 pre:∀ k,k<lo->(arrOf st)[k]?=a0[k]?
 kind:kindOf st=κ
 fail:qcg st=none
 pend:qbD st=p0
 gal:qeC st=g0
variable {a0:Array Keyed}{lo:Nat}{p0:Array (Nat×Nat×Nat)}{g0:Nat}{st:qbq}
theorem SB.size (h:SB κ a0 lo p0 g0 st):(arrOf st).size=a0.size:=h.perm.size_eq
theorem SB.mem (h:SB κ a0 lo p0 g0 st) (hS:∀ x∈a0.toList,S x) {i:Nat} (hi:i<a0.size):S (kyd (arrOf st) i):=by
 have hi':i<(arrOf st).size:=by rw[h.size];exact hi
 refine hS _ ((qcI.mp h.perm).mem_iff.mp ?_)
 have e:=br hi'
 rw[qas hi']at e
 rw[<-qaS e]
 exact qhU hi'
theorem SB.set (h:SB κ a0 lo p0 g0 st) {xs:Array Keyed} (hp:xs.Perm (arrOf st)) (hl:∀ k,k<lo->xs[k]?=(arrOf st)[k]?):SB κ a0 lo p0 g0 (qiX st xs):=
 ⟨hp.trans h.perm,λk hk=>(hl k hk).trans (h.pre k hk),h.kind,h.fail,h.pend,h.gal⟩
theorem xX (hC:Cm prog w A s κ O rk S) (hS:∀ x∈a0.toList,S x) (hB:SB κ a0 lo p0 g0 st) {i j:Nat}{Q:Option Bool->qbq->Prop} (hi:i<a0.size) (hj:j<a0.size)
  (h:Q (some (O.blt (rk (kyd (arrOf st) i)) (rk (kyd (arrOf st) j)))) st):wpS (model prog w) A E s (ltAt' i j) Q st:=
 DF hC hB.kind (by rw[hB.size];exact hi) (by rw[hB.size];exact hj) (hB.mem hS hi) (hB.mem hS hj) h
def Up (rk:Keyed->O.α) (arr:Array Keyed) (lo n:Nat):Prop:=∀ i j,lo<=i->i<=j->j<lo+n->O.kle (rk (kyd arr i)) (rk (kyd arr j))
def i7 (rk:Keyed->O.α) (arr:Array Keyed) (lo n:Nat):Prop:=∀ i j,lo<=i->i<=j->j<lo+n->O.kle (rk (kyd arr j)) (rk (kyd arr i))
theorem kN {xs:Array Keyed}{i j:Nat} (hj:j<=xs.size) (k:Nat):kyd (qha xs i j ((j - i) / 2)) k=if i<=k/\k<j then kyd xs (i+j - 1 - k) else kyd xs k:=by
 have e:=qkd (i:=i) hj k
 by_cases h1:i<=k/\k<j
 ·rw[if_pos h1]at e ⊢;exact dO e
 ·rw[if_neg h1]at e ⊢;exact dO e
theorem pX {xs:Array Keyed}{src d:Nat} (hs:src<xs.size) (hd:d<=src) (k:Nat) :
  kyd (bubble xs src d) k=if k=src - d then kyd xs src else if src - d<k/\k<=src then kyd xs (k - 1) else kyd xs k:=by
 have e:=ql8 hs d hd k
 by_cases h1:k=src - d
 ·rw[if_pos h1]at e ⊢;exact dO e
 ·rw[if_neg h1]at e ⊢
  by_cases h2:src - d<k/\k<=src
  ·rw[if_pos h2]at e ⊢;exact dO e
  ·rw[if_neg h2]at e ⊢;exact dO e
theorem SB.rev (hB:SB κ a0 lo p0 g0 st) {i j:Nat} (hi:lo<=i) (hj:j<=a0.size):SB κ a0 lo p0 g0 (qiX st (qha (arrOf st) i j ((j - i) / 2))):=
 hB.set (mirror_perm _ _ _ _) λk hk=>by
  rw[qkd (by rw[hB.size];exact hj),if_neg (by lia)]
theorem jI {xs:Array Keyed}{i j:Nat} (hj:j<=xs.size) (he:∀ k,i<=k->k<j->rk (kyd xs k)=rk (kyd xs (j - 1))) (k:Nat):rk (kyd (qha xs i j ((j - i) / 2)) k)=rk (kyd xs k):=by
 rw[kN hj]
 split
 ·rw[he (i+j - 1 - k) (by lia) (by lia),he k (by lia) (by lia)]
 ·rfl
theorem sN {i j:Nat}{Q:Unit->qbq->Prop} (h:Q () (qiX st (qha (arrOf st) i j ((j - i) / 2)))):wpS (model prog w) A E s (reverseSlice' i j) Q st:=by
 rw[reverseSlice'_eq];exact qdl h
theorem Up.more {arr:Array Keyed}{n:Nat} (h:Up rk arr lo n) (h1:1<=n) (hl:O.kle (rk (kyd arr (lo+n - 1))) (rk (kyd arr (lo+n)))):Up rk arr lo (n+1):=by
 intro i j hi hij hj
 by_cases hjx:j<lo+n
 ·exact h i j hi hij hjx
 ·have hj':j=lo+n:=by lia
  subst hj'
  by_cases hi':i=lo+n
  ·subst hi';exact qdj _
  ·exact qbG (h i (lo+n - 1) hi (by lia) (by lia)) hl
theorem i7.more {arr:Array Keyed}{n:Nat} (h:i7 rk arr lo n) (h1:1<=n) (hl:O.kle (rk (kyd arr (lo+n))) (rk (kyd arr (lo+n - 1)))):i7 rk arr lo (n+1):=by
 intro i j hi hij hj
 by_cases hjx:j<lo+n
 ·exact h i j hi hij hjx
 ·have hj':j=lo+n:=by lia
  subst hj'
  by_cases hi':i=lo+n
  ·subst hi';exact qdj _
  ·exact qbG hl (h i (lo+n - 1) hi (by lia) (by lia))
theorem Up.one {arr:Array Keyed}:Up rk arr lo 1:=λi j hi hij hj=>by
 have:i=j:=by lia
 subst this;exact qdj _
theorem i7.congr {xs ys:Array Keyed}{n:Nat} (h:i7 rk xs lo n) (e:∀ k,rk (kyd ys k)=rk (kyd xs k)):i7 rk ys lo n:=λi j hi hij hj=>by
 rw[e,e];exact h i j hi hij hj
end
section
variable {prog:qaY}{w:World}{A:qa9}{E:Value->qaj->Prop}{s:qaj}{κ:qdJ}{O:qeB}{rk:Keyed->O.α}{S:Keyed->Prop}
variable {a0:Array Keyed}{lo:Nat}{p0:Array (Nat×Nat×Nat)}{g0:Nat}{st:qbq}
theorem Bz {n0 nrem:Nat}{f:Nat->Option (Option Nat)×Nat->StateT qbq Sem (ForInStep (Option (Option Nat)×Nat))}{Q:Option (Option Nat)×Nat->qbq->Prop}
  (hf:∀ x n (Q':ForInStep (Option (Option Nat)×Nat)->qbq->Prop),1<=n->n < nrem->(O.blt (rk (kyd (arrOf st) (lo+n))) (rk (kyd (arrOf st) (lo+n - 1)))=true->Q' (.done (none,n)) st)->
    (O.blt (rk (kyd (arrOf st) (lo+n))) (rk (kyd (arrOf st) (lo+n - 1)))=false->Q' (.yield (none,n+1)) st)->wpS (model prog w) A E s (f x (none,n)) Q' st)
  (h1:1<=n0) (hn:n0<=nrem) (hu:Up rk (arrOf st) lo n0)
  (h:∀ n,n0<=n->n<=nrem->Up rk (arrOf st) lo n->(n=nrem\/O.klt (rk (kyd (arrOf st) (lo+n))) (rk (kyd (arrOf st) (lo+n - 1))))->Q (none,n) st):wpS (model prog w) A E s (forIn [n0:nrem] (none,n0) f) Q st:=by
 refine qb5 (I:=λx c st'=>st'=st/\c=(none,x)/\Up rk (arrOf st) lo x) ?_ ?_ ⟨rfl,rfl,hu⟩
 ·rintro x c st' hx hxn ⟨rfl,rfl,hs⟩
  exact hf x x _ (by lia) hxn (λhl=>h x hx (by lia) hs (.inr hl)) λhl=>⟨rfl,rfl,hs.more (by lia) hl⟩
 ·rintro c st' ⟨rfl,rfl,hs⟩
  rw[show max n0 nrem=nrem by lia]at hs ⊢
  exact h nrem hn (qap _) hs (.inl rfl)
def Eqs (rk:Keyed->O.α) (arr:Array Keyed) (lo m q:Nat):Prop:=q+1<=m/\∀ i,lo+m - (q+1)<=i->i<lo+m->rk (kyd arr i)=rk (kyd arr (lo+m - 1))
theorem Dp {n0 nrem:Nat}{f:Nat->Option (Option Nat)×Nat×Nat->StateT qbq Sem (ForInStep (Option (Option Nat)×Nat×Nat))}{Q:Option (Option Nat)×Nat×Nat->qbq->Prop}
  (hf:∀ x n q st' (Q':ForInStep (Option (Option Nat)×Nat×Nat)->qbq->Prop),1<=n->n < nrem->SB κ a0 lo p0 g0 st'->
    (O.blt (rk (kyd (arrOf st') (lo+n))) (rk (kyd (arrOf st') (lo+n - 1)))=true->0<q->Q' (.yield (none,n+1,0)) (qiX st' (qha (arrOf st') (lo+n - (q+1)) (lo+n) ((lo+n - (lo+n - (q+1))) / 2))))->
    (O.blt (rk (kyd (arrOf st') (lo+n))) (rk (kyd (arrOf st') (lo+n - 1)))=true->q=0->Q' (.yield (none,n+1,0)) st')->
    (O.blt (rk (kyd (arrOf st') (lo+n - 1))) (rk (kyd (arrOf st') (lo+n)))=true->Q' (.done (none,n,q)) st')->
    (O.blt (rk (kyd (arrOf st') (lo+n))) (rk (kyd (arrOf st') (lo+n - 1)))=false->O.blt (rk (kyd (arrOf st') (lo+n - 1))) (rk (kyd (arrOf st') (lo+n)))=false->Q' (.yield (none,n+1,q+1)) st')->
    wpS (model prog w) A E s (f x (none,n,q)) Q' st')
  (h1:1<=n0) (hn:n0<=nrem) (hz:lo+nrem<=a0.size) (hB:SB κ a0 lo p0 g0 st) (hd:i7 rk (arrOf st) lo n0)
  (h:∀ n q st',n0<=n->n<=nrem->SB κ a0 lo p0 g0 st'->i7 rk (arrOf st') lo n->Eqs rk (arrOf st') lo n q->Q (none,n,q) st'):wpS (model prog w) A E s (forIn [n0:nrem] (none,n0,0) f) Q st:=by
 have one:∀ (arr:Array Keyed) m,1<=m->Eqs rk arr lo m 0:=λarr m hm=>⟨by lia,λi h1 h2=>by rw[show i=lo+m - 1 by lia]⟩
 refine qb5 (I:=λx c st'=>∃ q,c=(none,x,q)/\SB κ a0 lo p0 g0 st'/\i7 rk (arrOf st') lo x/\Eqs rk (arrOf st') lo x q) ?_ ?_ ⟨0,rfl,hB,hd,one _ _ h1⟩
 ·rintro x c st' hx hxn ⟨q,rfl,hB',hs,he⟩
  have hsz:lo+x<=(arrOf st').size:=by rw[hB'.size];lia
  refine hf x x q st' _ (by lia) hxn hB' (λhl hq=>?_) (λhl hq=>?_) (λhl=>h x q st' hx (by lia) hB' hs he) λhl hl2=>?_
  ·have e:=jI (rk:=rk) (xs:=arrOf st') (i:=lo+x - (q+1)) (j:=lo+x) hsz he.2
   exact⟨0,rfl,hB'.rev (by have:=he.1;lia) (by lia),i7.congr (hs.more (by lia) (qd5 hl)) e,one _ _ (by lia)⟩
  ·exact⟨0,rfl,hB',hs.more (by lia) (qd5 hl),one _ _ (by lia)⟩
  ·have eq:rk (kyd (arrOf st') (lo+x))=rk (kyd (arrOf st') (lo+x - 1)):=qiE hl2 hl
   refine⟨q+1,rfl,hB',hs.more (by lia) (by rw[eq];exact qdj _),by have:=he.1;lia,λi h1 h2=>?_⟩
   rw[show lo+(x+1) - 1=lo+x by lia,eq]
   by_cases hi:i=lo+x
   ·rw[hi,eq]
   ·exact he.2 i (by lia) (by lia)
 ·rintro c st' ⟨q,rfl,hB',hs,he⟩
  rw[show max n0 nrem=nrem by lia]at hs he ⊢
  exact h nrem q st' hn (qap _) hB' hs he
theorem FI {m nrem:Nat}{f:Nat->Option (Option Nat)×Nat->StateT qbq Sem (ForInStep (Option (Option Nat)×Nat))}{k:Option (Option Nat)×Nat->StateT qbq Sem (Option Nat)}{Q:Option Nat->qbq->Prop}
  (hB:SB κ a0 lo p0 g0 st) (hd:i7 rk (arrOf st) lo m) (h1:1<=m) (hm:m<=nrem) (hz:lo+nrem<=a0.size)
  (hf:∀ x n (Q':ForInStep (Option (Option Nat)×Nat)->qbq->Prop) st4,SB κ a0 lo p0 g0 st4->1<=n->n < nrem->(O.blt (rk (kyd (arrOf st4) (lo+n))) (rk (kyd (arrOf st4) (lo+n - 1)))=true->Q' (.done (none,n)) st4)->
    (O.blt (rk (kyd (arrOf st4) (lo+n))) (rk (kyd (arrOf st4) (lo+n - 1)))=false->Q' (.yield (none,n+1)) st4)->wpS (model prog w) A E s (f x (none,n)) Q' st4)
  (hk:∀ n st4,SB κ a0 lo p0 g0 st4->1<=n->n<=nrem->Up rk (arrOf st4) lo n->wpS (model prog w) A E s (k (none,n)) Q st4) :
  wpS (model prog w) A E s (do reverseSlice' lo (lo+m);let r <-forIn [m:nrem] (none,m) f;k r) Q st:=by
 refine qaw (sN ?_)
 have hB4:=hB.rev (i:=lo) (j:=lo+m) (qap _) (by lia)
 refine qaw (Bz (rk:=rk) (lo:=lo) (λx n Q' hn1 hn2 hy hno=>hf x n Q' _ hB4 hn1 hn2 hy hno) h1 hm ?_ λn' hn1' hn2' hu' _=>hk n' _ hB4 (by lia) hn2' hu')
 intro i j hi hij hj
 have hs3:lo+m<=(arrOf st).size:=by rw[hB.size];lia
 show O.kle (rk (kyd (qha (arrOf st) lo (lo+m) ((lo+m - lo) / 2)) i)) (rk (kyd (qha (arrOf st) lo (lo+m) ((lo+m - lo) / 2)) j))
 rw[kN hs3,kN hs3,if_pos (by lia),if_pos (by lia)]
 exact hd _ _ (by lia) (by lia) (by lia)
set_option maxHeartbeats 1000000 in
theorem yy (hC:Cm prog w A s κ O rk S) (hS:∀ x∈a0.toList,S x) {nrem:Nat}{Q:Option Nat->qbq->Prop} (hB:SB κ a0 lo p0 g0 st) (h1:1<=nrem) (hz:lo+nrem<=a0.size)
  (h:∀ m st',SB κ a0 lo p0 g0 st'->1<=m->m<=nrem->Up rk (arrOf st') lo m->Q (some m) st'):wpS (model prog w) A E s (Hi lo nrem) Q st:=by
 have asc:∀ st' (_:SB κ a0 lo p0 g0 st') n (Q':Option Bool->qbq->Prop),1<=n->n<nrem->Q' (some (O.blt (rk (kyd (arrOf st') (lo+n))) (rk (kyd (arrOf st') (lo+n - 1))))) st'->
   wpS (model prog w) A E s (ltAt' (lo+n) (lo+n - 1)) Q' st':=λst' hB' n Q' h1 h2 hq=>xX hC hS hB' (by lia) (by lia) hq
 refine qaw (Bz (rk:=rk) (lo:=lo) (λx n Q' hn1 hn2 hy hno=>?_) (qap 1) h1 Up.one λn hn1 hn2 hu hor=>?_)
 ·refine qaw (asc st hB n _ hn1 hn2 ?_)
  cases hl:O.blt (rk (kyd (arrOf st) (lo+n))) (rk (kyd (arrOf st) (lo+n - 1))) with
  |true=>exact qaH (hy hl)
  |false=>exact qaH (hno hl)
 dsimp only
 by_cases hnn:n=nrem
 ·refine bA (by simpa using hnn) ?_
  exact qaH (h n st hB hn1 hn2 hu)
 refine bp (by simpa using hnn) ?_
 have hlt:=hor.resolve_left hnn
 have hn3:n+1<=nrem:=by lia
 have hsz:lo+n<=(arrOf st).size:=by rw[hB.size];lia
 by_cases hgt:n > 1
 case' pos=>
  refine bA hgt ?_
  refine qaw (xX hC hS hB (by lia) (by lia) ?_)
  by_cases hrose:O.blt (rk (kyd (arrOf st) lo)) (rk (kyd (arrOf st) (lo+n - 1)))=true
  ·rw[hrose];exact qaH (h n st hB hn1 hn2 hu)
  rw[qe7]at hrose
  rw[hrose]
  have hall:∀ k,lo<=k->k<lo+n->rk (kyd (arrOf st) k)=rk (kyd (arrOf st) (lo+n - 1)):=λk hk1 hk2=>
   qiE (hu k (lo+n - 1) hk1 (by lia) (by lia)) (qbG hrose (hu lo k (by lia) hk1 hk2))
  refine qaw (sN ?_)
  have hB2:=hB.rev (i:=lo) (j:=lo+n) (qap _) (by lia)
  have hd:i7 rk (arrOf (qiX st (qha (arrOf st) lo (lo+n) ((lo+n - lo) / 2)))) lo (n+1):=by
   refine i7.congr (xs:=arrOf st) (i7.more (λi j hi hij hj=>?_) (by lia) (qd5 hlt)) (jI hsz hall)
   rw[hall i hi (by lia),hall j (by lia) hj];exact qdj _
  generalize qiX st (qha (arrOf st) lo (lo+n) ((lo+n - lo) / 2))=st2 at hB2 hd ⊢
  clear hu hlt hrose hall hB hsz hor
 case' neg=>
  refine bp hgt ?_
  have hB2:=hB
  have hd:i7 rk (arrOf st) lo (n+1):=by
   refine i7.more (λi j hi hij hj=>?_) (by lia) (qd5 hlt)
   rw[show i=j by lia];exact qdj _
  clear hu hlt hB hsz hor
  revert hB2 hd
  generalize st=st2
  intro hB2 hd
 all_goals
  refine qaw (iU ?_)
  refine qaw (Dp (λx m q st' Q' hm1 hm2 hB' c1 c2 c3 c4=>?_) (by lia) hn3 hz hB2 hd λm q st' hm1 hm2 hB' hd' he=>?_)
  ·refine qaw (asc st' hB' m _ hm1 hm2 ?_)
   cases hl:O.blt (rk (kyd (arrOf st') (lo+m))) (rk (kyd (arrOf st') (lo+m - 1))) with
   |true=>
    dsimp only
    refine bA rfl ?_
    by_cases hq:q > 0
    ·rw[if_pos hq];exact qaw (sN (qaH (c1 hl hq)))
    ·rw[if_neg hq];exact qaH (c2 hl (by lia))
   |false=>
    dsimp only
    refine bp (by simp) ?_
    refine qaw (xX hC hS hB' (by lia) (by lia) ?_)
    cases hl2:O.blt (rk (kyd (arrOf st') (lo+m - 1))) (rk (kyd (arrOf st') (lo+m))) with
    |true=>exact qaH (c3 hl2)
    |false=>exact qaH (c4 hl hl2)
  have hsz':lo+m<=(arrOf st').size:=by rw[hB'.size];lia
  dsimp only
  by_cases hq:q > 0
  case' pos=>
   refine bA hq ?_
   refine qaw (sN ?_)
   have hB3:=hB'.rev (i:=lo+m - (q+1)) (j:=lo+m) (by have:=he.1;lia) (by lia)
   have hd3:i7 rk (arrOf (qiX st' (qha (arrOf st') (lo+m - (q+1)) (lo+m) ((lo+m - (lo+m - (q+1))) / 2)))) lo m:=i7.congr hd' (jI hsz' he.2)
   generalize qiX st' (qha (arrOf st') (lo+m - (q+1)) (lo+m) ((lo+m - (lo+m - (q+1))) / 2))=st3 at hB3 hd3 ⊢
  case' neg=>
   refine bp hq ?_
   have hB3:=hB'
   have hd3:=hd'
  all_goals
   refine FI hB3 hd3 (by lia) hm2 hz (λx n' Q' st4 hB4 hn1' hn2' hy hno=>?_) λn' st4 hB4 a1 a2 a3=>qaH (h n' st4 hB4 a1 a2 a3)
   refine qaw (asc st4 hB4 n' _ hn1' hn2' ?_)
   cases hl:O.blt (rk (kyd (arrOf st4) (lo+n'))) (rk (kyd (arrOf st4) (lo+n' - 1))) with
   |true=>exact qaH (hy hl)
   |false=>exact qaH (hno hl)
end
section
variable {prog:qaY}{w:World}{A:qa9}{E:Value->qaj->Prop}{s:qaj}{κ:qdJ}{O:qeB}{rk:Keyed->O.α}{S:Keyed->Prop}
variable {a0:Array Keyed}{lo:Nat}{p0:Array (Nat×Nat×Nat)}{g0:Nat}{st:qbq}
set_option maxHeartbeats 1000000 in
theorem uT (hC:Cm prog w A s κ O rk S) (hS:∀ x∈a0.toList,S x) {n ok:Nat}{Q:Bool->qbq->Prop} (hB:SB κ a0 lo p0 g0 st) (h1:1<=ok) (hok:ok<=n) (hz:lo+n<=a0.size) (hu:Up rk (arrOf st) lo ok)
  (h:∀ st',SB κ a0 lo p0 g0 st'->Up rk (arrOf st') lo n->Q true st'):wpS (model prog w) A E s (FE lo n ok) Q st:=by
 refine qaw (qec (qb5 (I:=λk c st'=>c=(none,())/\SB κ a0 lo p0 g0 st'/\Up rk (arrOf st') lo (min k n)) (Q:=λc st'=>c=(none,())/\SB κ a0 lo p0 g0 st'/\Up rk (arrOf st') lo n) ?_ ?_ ?_) ?_)
 ·rintro k c st' hk hkn ⟨rfl,hB',hs⟩
  rw[show min k n=k by lia]at hs
  dsimp only
  refine qaw (qec (qb5 (I:=λx c st2=>st2=st'/\∃ l r,c=(none,l,r)/\l<=r/\r<=k/\r - l<=k - x/\(∀ i,i < l->O.kle (rk (kyd (arrOf st') (lo+i))) (rk (kyd (arrOf st') (lo+k))))/\
    ∀ i,r<=i->i<k->O.klt (rk (kyd (arrOf st') (lo+k))) (rk (kyd (arrOf st') (lo+i))))
   (Q:=λc st2=>st2=st'/\∃ l r,c=(none,l,r)/\l<=k/\(∀ i,i<l->O.kle (rk (kyd (arrOf st') (lo+i))) (rk (kyd (arrOf st') (lo+k))))/\∀ i,l<=i->i<k->O.klt (rk (kyd (arrOf st') (lo+k))) (rk (kyd (arrOf st') (lo+i)))) ?_ ?_ ?_) ?_)
  ·rintro x c st2 _ hxk ⟨rfl,l,r,rfl,hlr,hrk,hm,hlo,hhi⟩
   dsimp only
   by_cases hge:l>=r
   ·refine bA hge ?_
    have e:l=r:=by lia
    subst e
    exact qaH ⟨rfl,l,l,rfl,hrk,hlo,hhi⟩
   ·refine bp hge ?_
    refine qaw (xX hC hS hB' (by lia) (by lia) ?_)
    cases hl:O.blt (rk (kyd (arrOf st2) (lo+k))) (rk (kyd (arrOf st2) (lo+(l+r) / 2))) with
    |true=>exact qaH ⟨rfl,l,(l+r) / 2,rfl,by lia,by lia,by lia,hlo,λi h1 h2=>qhD hl (hs _ _ (by lia) (by lia) (by lia))⟩
    |false=>exact qaH ⟨rfl,(l+r) / 2+1,r,rfl,by lia,by lia,by lia,λi h1=>qbG (hs (lo+i) (lo+(l+r) / 2) (by lia) (by lia) (by lia)) hl,hhi⟩
  ·rintro c st2 ⟨rfl,l,r,rfl,hlr,hrk,hm,hlo,hhi⟩
   have e:l=r:=by lia
   subst e
   exact⟨rfl,l,l,rfl,hrk,hlo,hhi⟩
  ·exact⟨rfl,0,k,rfl,by lia,by lia,by lia,λi hi=>by lia,λi h1 h2=>by lia⟩
  ·rintro c st2 ⟨rfl,l,r,rfl,hlk,hlo,hhi⟩
   dsimp only
   refine qaw (m:=moveDown' (lo+k) (lo+l)) ?_
   rw[moveDown'_eq]
   have hks:lo+k<(arrOf st2).size:=by rw[hB'.size];lia
   refine qdl (qaH ⟨rfl,hB'.set (bubble_perm _ _ _) λi hi=>?_,?_⟩)
   ·rw[ql8 hks _ (by lia),if_neg (by lia),if_neg (by lia)]
   ·rw[show min (k+1) n=k+1 by lia]
    intro i j hi hij hj
    show O.kle (rk (kyd (bubble (arrOf st2) (lo+k) (lo+k - (lo+l))) i)) (rk (kyd (bubble (arrOf st2) (lo+k) (lo+k - (lo+l))) j))
    rw[pX hks (by lia),pX hks (by lia),show lo+k - (lo+k - (lo+l))=lo+l by lia]
    have hlo':∀ i,lo<=i->i<lo+l->O.kle (rk (kyd (arrOf st2) i)) (rk (kyd (arrOf st2) (lo+k))):=λi h1 h2=>by
     have:=hlo (i - lo) (by lia);rwa [show lo+(i - lo)=i by lia]at this
    have hhi':∀ i,lo+l<=i->i<lo+k->O.klt (rk (kyd (arrOf st2) (lo+k))) (rk (kyd (arrOf st2) i)):=λi h1 h2=>by
     have:=hhi (i - lo) (by lia) (by lia);rwa [show lo+(i - lo)=i by lia]at this
    repeat' split
    all_goals first
     |(exfalso;lia)
     |exact qdj _
     |exact hlo' _ (by lia) (by lia)
     |exact qd5 (hhi' _ (by lia) (by lia))
     |exact hs _ _ (by lia) (by lia) (by lia)
 ·rintro c st' ⟨rfl,hB',hs⟩
  rw[show min (max (max ok 1) n) n=n by lia]at hs
  exact⟨rfl,hB',hs⟩
 ·rw[show max ok 1=ok by lia,show min ok n=ok by lia]
  exact⟨rfl,hB,hu⟩
 ·rintro c st' ⟨rfl,hB',hs⟩
  exact qaH (h st' hB' hs)
def bey (O:qeB) (rk:Keyed->O.α) (left:Bool) (key x:Keyed):Bool:=if left=true then O.blt (rk x) (rk key) else !O.blt (rk key) (rk x)
set_option maxHeartbeats 1000000 in
theorem gj (hC:Cm prog w A s κ O rk S) {left:Bool}{key:Keyed}{arr:Array Keyed}{base n hint:Nat}{Q:Option Nat->qbq->Prop} (hk:kindOf st=κ) (hkey:S key) (hz:base+n<=arr.size) (hS:∀ i,i<n->S (kyd arr (base+i)))
  (hh:hint<n) (anti:∀ i j,i<=j->j<n->bey O rk left key (kyd arr (base+j))=true->bey O rk left key (kyd arr (base+i))=true)
  (h:∀ k,k<=n->(∀ i,i<k->bey O rk left key (kyd arr (base+i))=true)->(∀ i,k<=i->i<n->bey O rk left key (kyd arr (base+i))=false)->Q (some k) st) :
  wpS (model prog w) A E s (sk left key arr base n hint) Q st:=by
 have bey1:∀ i (Q':Option Bool->qbq->Prop),i<n->Q' (some (bey O rk left key (kyd arr (base+i)))) st->wpS (model prog w) A E s (elem' arr (base+i) >>= λx=>if left=true then lt' x key else lt' key x >>= λb=>pure (b.map (!·))) Q' st:=λi Q' hi hq=>by
  refine qaw (bC (br (by lia)) ?_)
  cases left with
  |true=>exact uI hC hk (hS i hi) hkey hq
  |false=>exact qaw (uI hC hk hkey (hS i hi) (qaH hq))
 have bin:∀ l0 h0,l0<=h0->h0<=n->(∀ i,i<l0->bey O rk left key (kyd arr (base+i))=true)->(∀ i,h0<=i->i<n->bey O rk left key (kyd arr (base+i))=false)->
   ∀ (f:Nat->Option (Option Nat)×Nat×Nat->StateT qbq Sem (ForInStep (Option (Option Nat)×Nat×Nat))) (k:Option (Option Nat)×Nat×Nat->StateT qbq Sem (Option Nat)),
   (∀ x l r (Q':ForInStep (Option (Option Nat)×Nat×Nat)->qbq->Prop),l<=r->r<=n->(r<=l->Q' (.done (none,l,r)) st)->(l < r->bey O rk left key (kyd arr (base+(l+(r - l) / 2)))=true->Q' (.yield (none,l+(r - l) / 2+1,r)) st)->
     (l<r->bey O rk left key (kyd arr (base+(l+(r - l) / 2)))=false->Q' (.yield (none,l,l+(r - l) / 2)) st)->wpS (model prog w) A E s (f x (none,l,r)) Q' st)->
   (∀ l r,k (none,l,r)=pure (some r))->wpS (model prog w) A E s (forIn [0:n] (none,l0,h0) f >>= k) Q st:=λl0 h0 e1 e2 e3 e4 f k hf hkk=>by
  refine qaw (qec (qb5 (I:=λx c st2=>st2=st/\∃ l r,c=(none,l,r)/\l<=r/\r<=n/\r - l<=n - x/\(∀ i,i < l->bey O rk left key (kyd arr (base+i))=true)/\∀ i,r<=i->i < n->bey O rk left key (kyd arr (base+i))=false)
   (Q:=λc st2=>st2=st/\∃ r,c=(none,r,r)/\r<=n/\(∀ i,i<r->bey O rk left key (kyd arr (base+i))=true)/\∀ i,r<=i->i<n->bey O rk left key (kyd arr (base+i))=false) ?_ ?_ ?_) ?_)
  ·rintro x c st2 _ hx ⟨rfl,l,r,rfl,a1,a2,a3,a4,a5⟩
   refine hf x l r _ a1 a2 (λhrl=>?_) (λhlr ht=>?_) λhlr ht=>?_
   ·have e:l=r:=by lia
    subst e
    exact⟨rfl,l,rfl,a2,a4,a5⟩
   ·refine⟨rfl,_,_,rfl,by lia,a2,by lia,λi hi=>?_,a5⟩
    exact anti i (l+(r - l) / 2) (by lia) (by lia) ht
   ·refine⟨rfl,_,_,rfl,by lia,by lia,by lia,a4,λi h1 h2=>?_⟩
    cases q:bey O rk left key (kyd arr (base+i)) with
    |false=>rfl
    |true=>rw[anti (l+(r - l) / 2) i h1 h2 q]at ht;cases ht
  ·rintro c st2 ⟨rfl,l,r,rfl,a1,a2,a3,a4,a5⟩
   have e:l=r:=by lia
   subst e
   exact⟨rfl,l,rfl,a2,a4,a5⟩
  ·exact⟨rfl,l0,h0,rfl,e1,e2,by lia,e3,e4⟩
  ·rintro c st2 ⟨rfl,r,rfl,a2,a4,a5⟩
   rw[hkk]
   exact qaH (h r a2 a4 a5)
 refine qaw (bey1 hint _ hh ?_)
 dsimp only
 cases hb:bey O rk left key (kyd arr (base+hint)) with
 |true=>
  refine bA rfl ?_
  refine qaw (qec (qb5 (I:=λx c st2=>st2=st/\∃ l o,c=(none,l,o)/\l < o/\x+1<=o/\hint+l < n/\bey O rk left key (kyd arr (base+(hint+l)))=true)
   (Q:=λc st2=>st2=st/\∃ l o,c=(none,l,o)/\l<o/\hint+l<n/\bey O rk left key (kyd arr (base+(hint+l)))=true/\(n - hint<=o\/hint+o<n/\bey O rk left key (kyd arr (base+(hint+o)))=false)) ?_ ?_ ?_) ?_)
  ·rintro x c st2 _ hx ⟨rfl,l,o,rfl,a1,a2,a3,a4⟩
   dsimp only
   by_cases ho:o>=n - hint
   ·rw[if_pos ho];exact qaH ⟨rfl,l,o,rfl,a1,a3,a4,.inl ho⟩
   ·refine bp ho ?_
    refine qaw (bey1 (hint+o) _ (by lia) ?_)
    cases hb2:bey O rk left key (kyd arr (base+(hint+o))) with
    |true=>exact qaH ⟨rfl,o,2*o+1,rfl,by lia,by lia,by lia,hb2⟩
    |false=>exact qaH ⟨rfl,l,o,rfl,a1,a3,a4,.inr ⟨by lia,hb2⟩⟩
  ·rintro c st2 ⟨rfl,l,o,rfl,a1,a2,a3,a4⟩
   exact⟨rfl,l,o,rfl,a1,a3,a4,.inl (by lia)⟩
  ·exact⟨rfl,0,1,rfl,by lia,by lia,by lia,hb⟩
  ·rintro c st2 ⟨rfl,l,o,rfl,a1,a3,a4,a5⟩
   dsimp only
   refine bin _ _ (by lia) (by lia) (λi hi=>anti i (hint+l) (by lia) a3 a4) (λi h1 h2=>?_) _ _ (λx l r Q' b1 b2 c1 c2 c3=>?_) λl r=>rfl
   ·rcases a5 with a5|a5
    ·lia
    ·cases q:bey O rk left key (kyd arr (base+i)) with
     |false=>rfl
     |true=>rw[anti (hint+o) i (by lia) h2 q]at a5;exact absurd a5.2 (by simp)
   ·dsimp only
    by_cases hge:l>=r
    ·rw[if_pos hge];exact qaH (c1 hge)
    ·refine bp hge ?_
     refine qaw (bey1 (l+(r - l) / 2) _ (by lia) ?_)
     cases hb3:bey O rk left key (kyd arr (base+(l+(r - l) / 2))) with
     |true=>exact qaH (c2 (by lia) hb3)
     |false=>exact qaH (c3 (by lia) hb3)
 |false=>
  refine bp (by simp) ?_
  refine qaw (qec (qb5 (I:=λx c st2=>st2=st/\∃ l o,c=(none,l,o)/\l < o/\x+1<=o/\l<=hint/\bey O rk left key (kyd arr (base+(hint - l)))=false)
   (Q:=λc st2=>st2=st/\∃ l o,c=(none,l,o)/\l<o/\l<=hint/\bey O rk left key (kyd arr (base+(hint - l)))=false/\(hint+1<=o\/o<=hint/\bey O rk left key (kyd arr (base+(hint - o)))=true)) ?_ ?_ ?_) ?_)
  ·rintro x c st2 _ hx ⟨rfl,l,o,rfl,a1,a2,a3,a4⟩
   dsimp only
   by_cases ho:o>=hint+1
   ·rw[if_pos ho];exact qaH ⟨rfl,l,o,rfl,a1,a3,a4,.inl ho⟩
   ·refine bp ho ?_
    refine qaw (bey1 (hint - o) _ (by lia) ?_)
    cases hb2:bey O rk left key (kyd arr (base+(hint - o))) with
    |false=>exact qaH ⟨rfl,o,2*o+1,rfl,by lia,by lia,by lia,hb2⟩
    |true=>exact qaH ⟨rfl,l,o,rfl,a1,a3,a4,.inr ⟨by lia,hb2⟩⟩
  ·rintro c st2 ⟨rfl,l,o,rfl,a1,a2,a3,a4⟩
   exact⟨rfl,l,o,rfl,a1,a3,a4,.inl (by lia)⟩
  ·exact⟨rfl,0,1,rfl,by lia,by lia,by lia,hb⟩
  ·rintro c st2 ⟨rfl,l,o,rfl,a1,a3,a4,a5⟩
   dsimp only
   refine bin _ _ (by lia) (by lia) (λi hi=>?_) (λi h1 h2=>?_) _ _ (λx l r Q' b1 b2 c1 c2 c3=>?_) λl r=>rfl
   ·rcases a5 with a5|a5
    ·lia
    ·exact anti i (hint - o) (by lia) (by lia) a5.2
   ·cases q:bey O rk left key (kyd arr (base+i)) with
    |false=>rfl
    |true=>rw[anti (hint - l) i (by lia) h2 q]at a4;cases a4
   ·dsimp only
    by_cases hge:l>=r
    ·rw[if_pos hge];exact qaH (c1 hge)
    ·refine bp hge ?_
     refine qaw (bey1 (l+(r - l) / 2) _ (by lia) ?_)
     cases hb3:bey O rk left key (kyd arr (base+(l+(r - l) / 2))) with
     |true=>exact qaH (c2 (by lia) hb3)
     |false=>exact qaH (c3 (by lia) hb3)
end
section
variable {O:qeB}{rk:Keyed->O.α}
def mrg (O:qeB) (rk:Keyed->O.α) (xs ys:List Keyed):List Keyed:=List.merge xs ys λx y=>!O.blt (rk y) (rk x)
theorem iD (xs:List Keyed):mrg O rk xs []=xs:=by unfold mrg;simp
theorem jT (ys:List Keyed):mrg O rk [] ys=ys:=by unfold mrg;simp
theorem rf {x y:Keyed}{xs ys:List Keyed} (h:O.blt (rk y) (rk x)=false):mrg O rk (x::xs) (y::ys)=x::mrg O rk xs (y::ys):=by
 unfold mrg;rw[qiS,h];rfl
theorem qg {x y:Keyed}{xs ys:List Keyed} (h:O.blt (rk y) (rk x)=true):mrg O rk (x::xs) (y::ys)=y::mrg O rk (x::xs) ys:=by
 unfold mrg;rw[qiS,h];rfl
theorem sV {x:Keyed}:∀ {ys:List Keyed},(∀ y∈ys,O.blt (rk y) (rk x)=true)->mrg O rk [x] ys=ys++[x]
 |[],_=>iD _
 |y::ys,h=>by rw[qg (h y qak),sV λz hz=>h z (qah _ hz)];rfl
theorem mM {x:Keyed}:∀ (xs ys:List Keyed),(∀ y∈ys,O.blt (rk y) (rk x)=true)->mrg O rk (xs++[x]) ys=mrg O rk xs ys++[x]
 |[],ys,h=>by rw[qcX,sV h,jT]
 |a::xs,[],h=>by rw[iD,iD]
 |a::xs,y::ys,h=>by
  rw[qbS]
  cases hb:O.blt (rk y) (rk a) with
  |true=>rw[qg hb,qg hb,<-qbS,mM (a::xs) ys λz hz=>h z (qah _ hz)];rfl
  |false=>rw[rf hb,rf hb,mM xs (y::ys) h];rfl
termination_by xs ys=>xs.length+ys.length
theorem xR {y:Keyed}:∀ {xs:List Keyed},(∀ x∈xs,O.blt (rk y) (rk x)=false)->mrg O rk xs [y]=xs++[y]
 |[],_=>jT _
 |x::xs,h=>by rw[rf (h x qak),xR λz hz=>h z (qah _ hz)];rfl
theorem mK {y:Keyed}:∀ (xs ys:List Keyed),(∀ x∈xs,O.blt (rk y) (rk x)=false)->mrg O rk xs (ys++[y])=mrg O rk xs ys++[y]
 |xs,[],h=>by rw[qcX,xR h,iD]
 |[],b::ys,h=>by rw[jT,jT]
 |a::xs,b::ys,h=>by
  rw[qbS]
  cases hb:O.blt (rk b) (rk a) with
  |true=>rw[qg hb,qg hb,mK (a::xs) ys h];rfl
  |false=>rw[rf hb,rf hb,<-qbS,mK xs (b::ys) λz hz=>h z (qah _ hz)];rfl
termination_by xs ys=>xs.length+ys.length
theorem oq (xs ys:List Keyed):(mrg O rk xs ys).Perm (xs++ys):=List.merge_perm_append _
theorem Fm {xs ys:List Keyed} (hx:xs.Pairwise λa b=>O.kle (rk a) (rk b)) (hy:ys.Pairwise λa b=>O.kle (rk a) (rk b)):(mrg O rk xs ys).Pairwise λa b=>O.kle (rk a) (rk b):=by
 have:=List.pairwise_merge (le:=λx y=>!O.blt (rk y) (rk x)) (λa b c h1 h2=>by
   simp only[qcA]at *;exact qbG (O:=O) h1 h2) (λa b=>by
   simp only[qds,qcA]
   cases h:O.blt (rk b) (rk a) with
   |false=>exact .inl rfl
   |true=>exact .inr (qjt (O:=O) h)) xs ys (hx.imp λh=>by rw[qcA];exact h) (hy.imp λh=>by rw[qcA];exact h)
 exact this.imp λh=>by rw[qcA]at h;exact h
theorem eZ {a:Array Keyed}{i:Nat} (h:i<a.size):a.toList.drop i=kyd a i::a.toList.drop (i+1):=by
 have e:=br h
 rw[qas h]at e
 rw[qcl (by simpa using h)]
 rw[<-qaS e];simp
theorem oZ {a:Array Keyed}{i:Nat} (h:i<a.size):a.toList.take (i+1)=a.toList.take i++[kyd a i]:=by
 have e:=br h
 rw[qas h]at e
 rw[qd4 (by simpa using h)]
 rw[<-qaS e];simp
theorem xK {a:Array Keyed}{x:Keyed} (h:x∈a.toList):∃ i,i<a.size/\x=kyd a i:=by
 obtain⟨i,hi,e⟩:=qdz.mp h
 have hi':i<a.size:=by simpa using hi
 refine⟨i,hi',?_⟩
 have q:=br hi'
 rw[qas hi']at q
 rw[<-qaS q,<-e];simp
def MI (O:qeB) (rk:Keyed->O.α) (a b out:Array Keyed) (ia ib:Nat):Prop:=out.toList++mrg O rk (a.toList.drop ia) (b.toList.drop ib)=mrg O rk a.toList b.toList
variable {a b out:Array Keyed}{ia ib:Nat}
theorem MI.start:MI O rk a b #[] 0 0:=by unfold MI;simp
theorem MI.b1 (h:MI O rk a b out ia ib) (hb:ib<b.size) (ha:ia<a.size) (hl:O.blt (rk (kyd b ib)) (rk (kyd a ia))=true):MI O rk a b (out.push (kyd b ib)) ia (ib+1):=by
 unfold MI at *
 rw[eZ ha,eZ hb,qg hl]at h
 rw[<-h,eZ ha];simp
theorem MI.a1 (h:MI O rk a b out ia ib) (hb:ib<b.size) (ha:ia<a.size) (hl:O.blt (rk (kyd b ib)) (rk (kyd a ia))=false):MI O rk a b (out.push (kyd a ia)) (ia+1) ib:=by
 unfold MI at *
 rw[eZ ha,eZ hb,rf hl]at h
 rw[<-h,eZ hb];simp
theorem oT {a:Array Keyed}{i k:Nat} (h:i+k<a.size):(out++a.extract i (i+(k+1)))=(out++a.extract i (i+k)).push (kyd a (i+k)):=by
 apply qbg.mp
 rw[qjy,qbe,qbe,qbV,qbV]
 simp only[qb4,Nat.add_sub_cancel_left]
 have e:(a.toList.drop i).take (k+1)=(a.toList.drop i).take k++[kyd a (i+k)]:=by
  rw[qd4 (by simp;lia)]
  have q:=br h
  rw[qas h]at q
  rw[<-qaS q];simp
 rw[e,qca]
theorem vc {a:Array Keyed}{i:Nat}:out++a.extract i (i+0)=out:=by
 apply qbg.mp
 simp
theorem MI.as (h:MI O rk a b out ia ib) (hb:ib<b.size):∀ k,ia+k<=a.size->(∀ i,i<k->bey O rk false (kyd b ib) (kyd a (ia+i))=true)->MI O rk a b (out++a.extract ia (ia+k)) (ia+k) ib
 |0,_,_=>by rw[vc];exact h
 |k+1,hk,hq=>by
  rw[oT (by lia)]
  have:=MI.a1 (MI.as h hb k (by lia) λi hi=>hq i (by lia)) hb (by lia) (by simpa [bey] using hq k (by lia))
  exact this
theorem MI.bs (h:MI O rk a b out ia ib) (ha:ia<a.size):∀ k,ib+k<=b.size->(∀ i,i<k->bey O rk true (kyd a ia) (kyd b (ib+i))=true)->MI O rk a b (out++b.extract ib (ib+k)) ia (ib+k)
 |0,_,_=>by rw[vc];exact h
 |k+1,hk,hq=>by
  rw[oT (by lia)]
  exact MI.b1 (MI.bs h ha k (by lia) λi hi=>hq i (by lia)) (by lia) ha (by simpa [bey] using hq k (by lia))
theorem gF {a:Array Keyed}{i:Nat}:(a.extract i a.size).toList=a.toList.drop i:=by
 rw[qbV,qb4,qcD (by simp)]
theorem MI.doneB (h:MI O rk a b out ia ib) (hb:ib=b.size):(out++a.extract ia a.size++b.extract ib b.size).toList=mrg O rk a.toList b.toList:=by
 unfold MI at h
 subst hb
 rw[qbe,qbe,gF,gF,<-h]
 rw[show b.toList.drop b.size=[] by simp,iD,qdq]
theorem MI.doneA (h:MI O rk a b out ia ib) (ha:ia=a.size):(out++a.extract ia a.size++b.extract ib b.size).toList=mrg O rk a.toList b.toList:=by
 unfold MI at h
 subst ha
 rw[qbe,qbe,gF,gF,<-h]
 rw[show a.toList.drop a.size=[] by simp,jT,qdq]
theorem MI.lastA (h:MI O rk a b out ia ib) (ha:ia+1=a.size) (hl:∀ i,i<b.size->O.blt (rk (kyd b i)) (rk (kyd a (a.size - 1)))=true):(out++b.extract ib b.size++a.extract ia a.size).toList=mrg O rk a.toList b.toList:=by
 unfold MI at h
 rw[qbe,qbe,gF,gF,<-h,eZ (by lia:ia<a.size),show a.toList.drop (ia+1)=[] by simp;lia,sV,qca]
 intro y hy
 obtain⟨i,hi,rfl⟩:=xK (qfF hy)
 rw[show ia=a.size - 1 by lia]
 exact hl i hi
def MH (O:qeB) (rk:Keyed->O.α) (a b out:Array Keyed) (na nb:Nat):Prop:=mrg O rk (a.toList.take na) (b.toList.take nb)++out.toList.reverse=mrg O rk a.toList b.toList
variable {na nb:Nat}
theorem MH.start:MH O rk a b #[] a.size b.size:=by
 unfold MH
 rw[qcD (by simp),qcD (by simp)];simp
theorem MH.a1 (h:MH O rk a b out (na+1) nb) (ha:na<a.size) (hl:∀ i,i<nb->i<b.size->O.blt (rk (kyd b i)) (rk (kyd a na))=true):MH O rk a b (out.push (kyd a na)) na nb:=by
 unfold MH at *
 rw[oZ ha,mM _ _ λy hy=>?_]at h
 ·rw[<-h];simp
 ·obtain⟨i,hi,e⟩:=qdz.mp hy
  have hi':i<nb/\i<b.size:=by simp at hi;lia
  have q:=br hi'.2
  rw[qas hi'.2]at q
  have:y=kyd b i:=by rw[<-e,<-qaS q];simp
  rw[this];exact hl i hi'.1 hi'.2
theorem MH.b1 (h:MH O rk a b out na (nb+1)) (hb:nb<b.size) (hl:∀ i,i<na->i<a.size->O.blt (rk (kyd b nb)) (rk (kyd a i))=false):MH O rk a b (out.push (kyd b nb)) na nb:=by
 unfold MH at *
 rw[oZ hb,mK _ _ λy hy=>?_]at h
 ·rw[<-h];simp
 ·obtain⟨i,hi,e⟩:=qdz.mp hy
  have hi':i<na/\i<a.size:=by simp at hi;lia
  have q:=br hi'.2
  rw[qas hi'.2]at q
  have:y=kyd a i:=by rw[<-e,<-qaS q];simp
  rw[this];exact hl i hi'.1 hi'.2
end
section
variable {prog:qaY}{w:World}{A:qa9}{E:Value->qaj->Prop}{s:qaj}{κ:qdJ}{O:qeB}{rk:Keyed->O.α}{S:Keyed->Prop}{st:qbq}{a b:Array Keyed}
def Gs (st st':qbq):Prop:=∃ g,st'=Eg st g
theorem Gs.refl:Gs st st:=⟨qeC st,rfl⟩
theorem Gs.kind {st':qbq} (h:Gs st st'):kindOf st'=kindOf st:=by obtain⟨g,rfl⟩:=h;rfl
theorem Gs.set {st':qbq} (h:Gs st st') (g:Nat):Gs st (qb0 (kindOf st') (arrOf st') (qbD st') g (qcg st')):=by obtain⟨g',rfl⟩:=h;exact⟨g,rfl⟩
structure Two (O:qeB) (rk:Keyed->O.α) (S:Keyed->Prop) (a b:Array Keyed):Prop where
 sa:∀ i,i<a.size->S (kyd a i)
 sb:∀ i,i<b.size->S (kyd b i)
 ua:Up rk a 0 a.size
 ub:Up rk b 0 b.size
 pa:0<a.size
 pb:0<b.size
 first:O.blt (rk (kyd b 0)) (rk (kyd a 0))=true
 last:∀ i,i<b.size->O.blt (rk (kyd b i)) (rk (kyd a (a.size - 1)))=true
theorem Two.galA (T:Two O rk S a b) {ia na:Nat}{key:Keyed} (hn:ia+na<=a.size):∀ i j,i<=j->j<na->bey O rk false key (kyd a (ia+j))=true->bey O rk false key (kyd a (ia+i))=true:=λi j hij hj h=>by
 simp only[bey,qaq,if_false,qcA]at h ⊢
 exact qbG (O:=O) (T.ua (ia+i) (ia+j) (qaW _) (by lia) (by lia)) h
theorem Two.galB (T:Two O rk S a b) {ib nb:Nat}{key:Keyed} (hn:ib+nb<=b.size):∀ i j,i<=j->j<nb->bey O rk true key (kyd b (ib+j))=true->bey O rk true key (kyd b (ib+i))=true:=λi j hij hj h=>by
 simp only[bey,if_true]at h ⊢
 exact qeJ (O:=O) (T.ub (ib+i) (ib+j) (qaW _) (by lia) (by lia)) h
set_option maxHeartbeats 4000000 in
structure Hid (G:Prop):Prop where
 out:G
theorem shr {C:Prop} [Decidable C] {G P:Prop} (hp:C->Hid G->P) (hn:¬ C->Hid G->P) (g:G):P:=if h:C then hp h ⟨g⟩ else hn h ⟨g⟩
theorem DK (hC:Cm prog w A s κ O rk S) {Q:Array Keyed->qbq->Prop} (hk:kindOf st=κ) (T:Two O rk S a b)
  (h:∀ r st',Gs st st'->r.toList=mrg O rk a.toList b.toList->Q r st'):wpS (model prog w) A E s (GA a b) Q st:=by
 refine qaw (iU ?_)
 refine qaw (bC (br T.pb) ?_)
 have I0:MI O rk a b #[kyd b 0] 0 1:=MI.start.b1 T.pb T.pa T.first
 dsimp -zeta only
 by_cases e1:1=b.size
 ·refine bA (by simpa using e1) ?_
  exact qaH (h _ _ .refl (I0.doneB e1))
 refine bp (by simpa using e1) ?_
 by_cases e2:0+1=a.size
 ·refine bA (by simpa using e2) ?_
  exact qaH (h _ _ .refl (I0.lastA e2 T.last))
 refine bp (by simpa using e2) ?_
 have pa:=T.pa
 have pb:=T.pb
 refine qaw (qew ?_)
 refine qaw (qec (qb5 (I:=λx c st'=>∃ out ia ib g,c=(none,out,ia,ib,g)/\MI O rk a b out ia ib/\ia+1 < a.size/\ib < b.size/\x+1<=ia+ib/\Gs st st')
  (Q:=λc st'=>∃ r c',c=(some r,c')/\r.toList=mrg O rk a.toList b.toList/\Gs st st') ?_ ?_ ?_) ?_)
 ·rintro x c st' _ hx ⟨out,ia,ib,g,rfl,I,ha,hb,hp,hG⟩
  have hk':kindOf st'=κ:=hG.kind.trans hk
  refine qaw (qec (qb5 (I:=λy c st2=>st2=st'/\∃ out ja jb ac bc,c=(none,out,ja,jb,ac,bc)/\MI O rk a b out ja jb/\ja+1 < a.size/\jb < b.size/\ia+ib+y<=ja+jb)
   (Q:=λc st2=>st2=st'/\((∃ r c',c=(some r,c')/\r.toList=mrg O rk a.toList b.toList)\/∃ out ja jb ac bc,c=(none,out,ja,jb,ac,bc)/\MI O rk a b out ja jb/\ja+1<a.size/\jb<b.size/\ia+ib+1<=ja+jb)) ?_ ?_ ?_) ?_)
  ·rintro y c st2 _ hy ⟨rfl,out2,ja,jb,ac,bc,rfl,I2,ha2,hb2,hp2⟩
   dsimp only
   refine qaw (bC (br hb2) (qaw (bC (br (by lia)) (qaw (uI hC hk' (T.sb _ hb2) (T.sa _ (by lia)) ?_)))))
   cases hl:O.blt (rk (kyd b jb)) (rk (kyd a ja)) with
   |true=>
    dsimp only
    refine bA rfl ?_
    refine qaw (bC (br hb2) ?_)
    have I3:=I2.b1 hb2 (by lia) hl
    by_cases e3:jb+1=b.size
    ·refine bA (by simpa using e3) ?_
     exact qaH ⟨rfl,.inl ⟨_,_,rfl,I3.doneB e3⟩⟩
    ·refine bp (by simpa using e3) ?_
     split
     ·exact qaH ⟨rfl,.inr ⟨_,_,_,_,_,rfl,I3,ha2,by lia,by lia⟩⟩
     ·exact qaH ⟨rfl,_,_,_,_,_,rfl,I3,ha2,by lia,by lia⟩
   |false=>
    dsimp only
    refine bp (by simp) ?_
    refine qaw (bC (br (by lia)) ?_)
    have I3:=I2.a1 hb2 (by lia) hl
    by_cases e3:ja+1+1=a.size
    ·refine bA (by simpa using e3) ?_
     exact qaH ⟨rfl,.inl ⟨_,_,rfl,I3.lastA e3 T.last⟩⟩
    ·refine bp (by simpa using e3) ?_
     split
     ·exact qaH ⟨rfl,.inr ⟨_,_,_,_,_,rfl,I3,by lia,hb2,by lia⟩⟩
     ·exact qaH ⟨rfl,_,_,_,_,_,rfl,I3,by lia,hb2,by lia⟩
  ·rintro c st2 ⟨rfl,out2,ja,jb,ac,bc,rfl,I2,ha2,hb2,hp2⟩
   exact⟨rfl,.inr ⟨_,_,_,_,_,rfl,I2,ha2,hb2,by lia⟩⟩
  ·exact⟨rfl,out,ia,ib,0,0,rfl,I,ha,hb,by lia⟩
  ·rintro c st2 ⟨rfl,⟨r,c',rfl,hr⟩|⟨out2,ja,jb,ac,bc,rfl,I2,ha2,hb2,hp2⟩⟩
   ·exact qaH ⟨_,_,rfl,hr,hG⟩
   refine qaw (iU ?_)
   refine qaw (qec (qb5 (I:=λy c st3=>Gs st st3/\∃ out ja jb g ac bc,c=(none,out,ja,jb,g,ac,bc)/\MI O rk a b out ja jb/\ja+1 < a.size/\jb < b.size/\ia+ib+1<=ja+jb)
    (Q:=λc st3=>Gs st st3/\((∃ r c',c=(some r,c')/\r.toList=mrg O rk a.toList b.toList)\/∃ out ja jb g ac bc,c=(none,out,ja,jb,g,ac,bc)/\MI O rk a b out ja jb/\ja+1<a.size/\jb<b.size/\ia+ib+1<=ja+jb)) ?_ ?_ ?_) ?_)
   ·rintro y c st3 _ hy ⟨hG3,out3,ja,jb,g3,ac,bc,rfl,I3,ha3,hb3,hp3⟩
    dsimp -zeta only
    have gal1:∀ (g4:Nat) (Q':Option Nat->qbq->Prop),(∀ k,k<=a.size - ja->(∀ i,i<k->bey O rk false (kyd b jb) (kyd a (ja+i))=true)->(∀ i,k<=i->i<a.size - ja->bey O rk false (kyd b jb) (kyd a (ja+i))=false)->Q' (some k) (qb0 (kindOf st3) (arrOf st3) (qbD st3) g4 (qcg st3)))->
      wpS (model prog w) A E s (sk false (kyd b jb) a ja (a.size - ja) 0) Q' (qb0 (kindOf st3) (arrOf st3) (qbD st3) g4 (qcg st3)):=λg4 Q' hq=>
     gj hC (hG3.kind.trans hk) (T.sb _ hb3) (by lia) (λi hi=>T.sa _ (by lia)) (by lia) (T.galA (by lia)) hq
    dsimp only
    apply shr (C:=g3 > 1)
    case hp=>
     intro hg1 tail
     refine bA hg1 ?_
     generalize g3 - 1=g4
     revert g4
     exact tail.out
    case hn=>
     intro hg1 tail
     refine bp hg1 ?_
     exact tail.out g3
    case g=>
     intro g4
     refine qaw (qdl ?_)
     refine qaw (bC (br hb3) (qaw (gal1 _ _ λk hk1 hk2 hk3=>?_)))
     have I4:=I3.as hb3 k (by lia) hk2
     clear gal1 hk2
     dsimp only
     apply shr (C:=k > 0)
     case hp=>
      intro hk0 tail
      refine bA hk0 ?_
      by_cases e3:ja+k+1=a.size
      ·refine bA (by simpa using e3) ?_
       exact qaH ⟨hG3.set _,.inl ⟨_,_,rfl,I4.lastA e3 T.last⟩⟩
      refine bp (by simpa using e3) ?_
      by_cases e4:ja+k=a.size
      ·refine bA (by simpa using e4) ?_
       exact qaH ⟨hG3.set _,.inl ⟨_,_,rfl,I4.doneA e4⟩⟩
      refine bp (by simpa using e4) ?_
      have hb5:O.blt (rk (kyd b jb)) (rk (kyd a (ja+k)))=true:=by simpa [bey] using hk3 k (qap _) (by lia)
      have z:MI O rk a b (out3++a.extract ja (ja+k)) (ja+k) jb/\O.blt (rk (kyd b jb)) (rk (kyd a (ja+k)))=true/\ja+k+1<a.size/\ia+ib+1<=ja+k+jb:=⟨I4,hb5,by lia,by lia⟩
      generalize out3++a.extract ja (ja+k)=out5 at z ⊢
      generalize ja+k=ja5 at z ⊢
      generalize k=ac5
      revert z
      revert ac5 out5 ja5
      exact tail.out
     case hn=>
      intro hk0 tail
      refine bp hk0 ?_
      have hb5:O.blt (rk (kyd b jb)) (rk (kyd a ja))=true:=by simpa [bey] using hk3 0 (by lia) (by lia)
      exact tail.out _ _ _ ⟨I3,hb5,ha3,hp3⟩
     case g=>
      clear I4 hk3 hk1 I3
      intro out5 ja5 ac5 z
      obtain⟨I4,hb5,ha5,hp5⟩:=z
      refine qaw (bC (br hb3) ?_)
      have I5:=I4.b1 hb3 (by lia) hb5
      by_cases e5:jb+1=b.size
      ·refine bA (by simpa using e5) ?_
       exact qaH ⟨hG3.set _,.inl ⟨_,_,rfl,I5.doneB e5⟩⟩
      refine bp (by simpa using e5) ?_
      refine qaw (bC (br (by lia)) (qaw (gj hC (hG3.kind.trans hk) (T.sa _ (by lia)) (by lia) (λi hi=>T.sb _ (by lia)) (by lia) (T.galB (by lia)) λk2 hk1 hk2 hk3=>?_)))
      have I6:=I5.bs (by lia) k2 (by lia) hk2
      clear hk2
      dsimp only
      apply shr (C:=k2 > 0)
      case hp=>
       intro hk20 tail
       refine bA hk20 ?_
       by_cases e6:jb+1+k2=b.size
       ·refine bA (by simpa using e6) ?_
        exact qaH ⟨hG3.set _,.inl ⟨_,_,rfl,I6.doneB e6⟩⟩
       refine bp (by simpa using e6) ?_
       have hb7:O.blt (rk (kyd b (jb+1+k2))) (rk (kyd a ja5))=false:=by simpa [bey] using hk3 k2 (qap _) (by lia)
       have z:MI O rk a b (out5.push (kyd b jb)++b.extract (jb+1) (jb+1+k2)) ja5 (jb+1+k2)/\O.blt (rk (kyd b (jb+1+k2))) (rk (kyd a ja5))=false/\jb+1+k2<b.size/\ia+ib+1<=ja5+1+(jb+1+k2):=⟨I6,hb7,by lia,by lia⟩
       generalize out5.push (kyd b jb)++b.extract (jb+1) (jb+1+k2)=out7 at z ⊢
       generalize jb+1+k2=jb7 at z ⊢
       generalize k2=bc7
       revert z
       revert bc7 out7 jb7
       exact tail.out
      case hn=>
       intro hk20 tail
       refine bp hk20 ?_
       have hb7:O.blt (rk (kyd b (jb+1))) (rk (kyd a ja5))=false:=by simpa [bey] using hk3 0 (by lia) (by lia)
       exact tail.out _ _ _ ⟨I5,hb7,by lia,by lia⟩
      case g=>
       clear I6 hk3 hk1 I5 I4
       intro out7 jb7 bc7 z
       obtain⟨I6,hb7,hj7,hp7⟩:=z
       refine qaw (bC (br (by lia)) ?_)
       have I7:=I6.a1 hj7 (by lia) hb7
       by_cases e7:ja5+1+1=a.size
       ·refine bA (by simpa using e7) ?_
        exact qaH ⟨hG3.set _,.inl ⟨_,_,rfl,I7.lastA e7 T.last⟩⟩
       refine bp (by simpa using e7) ?_
       split
       ·exact qaH ⟨hG3.set _,.inr ⟨_,_,_,_,_,_,rfl,I7,by lia,hj7,hp7⟩⟩
       ·exact qaH ⟨hG3.set _,_,_,_,_,_,_,rfl,I7,by lia,hj7,hp7⟩
   ·rintro c st3 ⟨hG3,out3,ja,jb,g3,ac,bc,rfl,I3,ha3,hb3,hp3⟩
    exact⟨hG3,.inr ⟨_,_,_,_,_,_,rfl,I3,ha3,hb3,hp3⟩⟩
   ·exact⟨hG,_,_,_,_,_,_,rfl,I2,ha2,hb2,hp2⟩
   ·rintro c st3 ⟨hG3,⟨r,c',rfl,hr⟩|⟨out3,ja,jb,g3,ac,bc,rfl,I3,ha3,hb3,hp3⟩⟩
    ·exact qaH ⟨_,_,rfl,hr,hG3⟩
    ·refine qaw (qdl (qaH ⟨out3,ja,jb,_,rfl,I3,ha3,hb3,by lia,hG3.set _⟩))
 ·rintro c st' ⟨out,ia,ib,g,rfl,I,ha,hb,hp,hG⟩
  exfalso;lia
 ·exact⟨_,_,_,_,rfl,I0,by lia,by lia,by lia,.refl⟩
 ·rintro c st' ⟨r,c',rfl,hr,hG⟩
  exact qaH (h r st' hG hr)
end
section
variable {prog:qaY}{w:World}{A:qa9}{E:Value->qaj->Prop}{s:qaj}{κ:qdJ}{O:qeB}{rk:Keyed->O.α}{S:Keyed->Prop}{st:qbq}{a b out:Array Keyed}{na nb:Nat}
theorem jJ {a:Array Keyed}{n:Nat}:(a.extract 0 n).toList=a.toList.take n:=by
 rw[qbV,qb4];simp
theorem MH.doneA (h:MH O rk a b out na nb) (e:na=0):(a.extract 0 na++b.extract 0 nb++out.reverse).toList=mrg O rk a.toList b.toList:=by
 unfold MH at h
 subst e
 rw[qbe,qbe,jJ,jJ,qfA,<-h,qdE,jT,qcX]
theorem MH.doneB (h:MH O rk a b out na nb) (e:nb=0):(a.extract 0 na++b.extract 0 nb++out.reverse).toList=mrg O rk a.toList b.toList:=by
 unfold MH at h
 subst e
 rw[qbe,qbe,jJ,jJ,qfA,<-h,qdE,iD,qdq]
theorem MH.firstB (T:Two O rk S a b) (h:MH O rk a b out na nb) (ha:0<na) (e:nb=1):(b.extract 0 nb++a.extract 0 na++out.reverse).toList=mrg O rk a.toList b.toList:=by
 unfold MH at h
 subst e
 have e1:b.toList.take 1=[kyd b 0]:=by rw[oZ T.pb];simp
 have e2:a.toList.take na=kyd a 0::(a.toList.drop 1).take (na - 1):=by
  obtain⟨m,rfl⟩:∃ m,na=m+1:=⟨na - 1,by lia⟩
  have:=eZ T.pa
  rw[qeI]at this
  rw[this];simp
 rw[qbe,qbe,jJ,jJ,qfA,<-h,e1,e2,qg T.first,iD]
 rfl
theorem Two.belowB (T:Two O rk S a b) {i j:Nat}{x:Keyed} (hij:i<=j) (hj:j<b.size) (h:O.blt (rk (kyd b j)) (rk x)=true):O.blt (rk (kyd b i)) (rk x)=true:=
 qeJ (O:=O) (T.ub i j (qaW _) hij (by lia)) h
theorem Two.belowA (T:Two O rk S a b) {i j:Nat}{x:Keyed} (hij:i<=j) (hj:j<a.size) (h:O.blt (rk x) (rk (kyd a j))=false):O.blt (rk x) (rk (kyd a i))=false:=
 qbG (O:=O) (T.ua i j (qaW _) hij (by lia)) h
theorem vU {a:Array Keyed}{t k:Nat} (h:t+k<a.size):out++(a.extract t (t+(k+1))).reverse=(out.push (kyd a (t+k)))++(a.extract t (t+k)).reverse:=by
 apply qbg.mp
 have e:=oT (out:=#[]) (a:=a) (i:=t) (k:=k) h
 have e':a.extract t (t+(k+1))=(a.extract t (t+k)).push (kyd a (t+k)):=by
  have z:∀ x:Array Keyed,#[]++x=x:=λx=>by simp
  rw[z,z]at e;exact e
 rw[e'];simp
theorem MH.as (T:Two O rk S a b) {t:Nat} (hb:∀ i,i<nb->i<b.size->∀ j,t<=j->j<a.size->O.blt (rk (kyd b i)) (rk (kyd a j))=true):∀ (k:Nat) {out:Array Keyed},MH O rk a b out (t+k) nb->t+k<=a.size->MH O rk a b (out++(a.extract t (t+k)).reverse) t nb
 |0,out,h,_=>by
  have:out++(a.extract t (t+0)).reverse=out:=by apply qbg.mp;simp
  rw[this];exact h
 |k+1,out,h,hz=>by
  rw[vU (by lia)]
  exact MH.as T hb k (MH.a1 (na:=t+k) h (by lia) λi h1 h2=>hb i h1 h2 (t+k) (by lia) (by lia)) (by lia)
theorem MH.bs (T:Two O rk S a b) {t:Nat} (hb:∀ i,i<na->i<a.size->∀ j,t<=j->j<b.size->O.blt (rk (kyd b j)) (rk (kyd a i))=false):∀ (k:Nat) {out:Array Keyed},MH O rk a b out na (t+k)->t+k<=b.size->MH O rk a b (out++(b.extract t (t+k)).reverse) na t
 |0,out,h,_=>by
  have:out++(b.extract t (t+0)).reverse=out:=by apply qbg.mp;simp
  rw[this];exact h
 |k+1,out,h,hz=>by
  rw[vU (by lia)]
  exact MH.bs T hb k (MH.b1 (nb:=t+k) h (by lia) λi h1 h2=>hb i h1 h2 (t+k) (by lia) (by lia)) (by lia)
theorem MH.a1' (T:Two O rk S a b) (h:MH O rk a b out na nb) (ha:0<na) (hz:na<=a.size) (hb:0<nb) (hz2:nb<=b.size) (hl:O.blt (rk (kyd b (nb - 1))) (rk (kyd a (na - 1)))=true):MH O rk a b (out.push (kyd a (na - 1))) (na - 1) nb:=
 MH.a1 (by rw[show na - 1+1=na by lia];exact h) (by lia) λi h1 h2=>T.belowB (by lia) (by lia) hl
theorem MH.b1' (T:Two O rk S a b) (h:MH O rk a b out na nb) (ha:0<na) (hz:na<=a.size) (hb:0<nb) (hz2:nb<=b.size) (hl:O.blt (rk (kyd b (nb - 1))) (rk (kyd a (na - 1)))=false):MH O rk a b (out.push (kyd b (nb - 1))) na (nb - 1):=
 MH.b1 (by rw[show nb - 1+1=nb by lia];exact h) (by lia) λi h1 h2=>T.belowA (by lia) (by lia) hl
theorem MH.as' (T:Two O rk S a b) {t:Nat} (h:MH O rk a b out na nb) (ht:t<=na) (hz:na<=a.size) (hb:0<nb) (hz2:nb<=b.size) (hq:∀ i,t<=i->i<na->bey O rk false (kyd b (nb - 1)) (kyd a (0+i))=false):MH O rk a b (out++(a.extract t na).reverse) t nb:=by
 by_cases e:t=na
 ·subst e
  have:out++(a.extract t t).reverse=out:=by apply qbg.mp;simp
  rw[this];exact h
 have e2:t+(na - t)=na:=by lia
 have:=MH.as T (t:=t) (nb:=nb) (a:=a) (b:=b) (λi h1 h2 j h3 h4=>?_) (na - t) (out:=out) (by rw[e2];exact h) (by lia)
 ·rw[e2]at this;exact this
 ·have q:=hq t (qap _) (by lia)
  simp only[bey,qaq,if_false,qgs,qbt]at q
  exact T.belowB (j:=nb - 1) (by lia) (by lia) (qhD (O:=O) q (T.ua t j (qaW _) h3 (by lia)))
theorem MH.bs' (T:Two O rk S a b) {t:Nat} (h:MH O rk a b out na nb) (ht:t<=nb) (hz:nb<=b.size) (ha:0<na) (hz2:na<=a.size) (hq:∀ i,t<=i->i<nb->bey O rk true (kyd a (na - 1)) (kyd b (0+i))=false):MH O rk a b (out++(b.extract t nb).reverse) na t:=by
 by_cases e:t=nb
 ·subst e
  have:out++(b.extract t t).reverse=out:=by apply qbg.mp;simp
  rw[this];exact h
 have e2:t+(nb - t)=nb:=by lia
 have:=MH.bs T (t:=t) (na:=na) (a:=a) (b:=b) (λi h1 h2 j h3 h4=>?_) (nb - t) (out:=out) (by rw[e2];exact h) (by lia)
 ·rw[e2]at this;exact this
 ·have q:=hq t (qap _) (by lia)
  simp only[bey,if_true,qbt]at q
  exact T.belowA (j:=na - 1) (by lia) (by lia) (qbG (O:=O) q (T.ub t j (qaW _) h3 (by lia)))
set_option maxHeartbeats 4000000 in
theorem Dw (hC:Cm prog w A s κ O rk S) {Q:Array Keyed->qbq->Prop} (hk:kindOf st=κ) (T:Two O rk S a b)
  (h:∀ r st',Gs st st'->r.toList=mrg O rk a.toList b.toList->Q r st'):wpS (model prog w) A E s (HB a b) Q st:=by
 have pa:=T.pa
 have pb:=T.pb
 refine qaw (iU ?_)
 refine qaw (bC (br (by lia)) ?_)
 have I0:MH O rk a b #[kyd a (a.size - 1)] (a.size - 1) b.size:=by
  have e:a.size - 1+1=a.size:=by lia
  exact MH.a1 (out:=#[]) (by rw[e];exact MH.start) (by lia) λi h1 h2=>T.last i h2
 dsimp -zeta only
 by_cases e1:a.size - 1=0
 ·refine bA (by simpa using e1) ?_
  exact qaH (h _ _ .refl (I0.doneA e1))
 refine bp (by simpa using e1) ?_
 by_cases e2:b.size=1
 ·refine bA (by simpa using e2) ?_
  exact qaH (h _ _ .refl (I0.firstB T (by lia) e2))
 refine bp (by simpa using e2) ?_
 refine qaw (qew ?_)
 refine qaw (qec (qb5 (I:=λx c st'=>∃ out na nb g,c=(none,na,nb,out,g)/\MH O rk a b out na nb/\0 < na/\1 < nb/\na<=a.size/\nb<=b.size/\na+nb+x+1<=a.size+b.size/\Gs st st')
  (Q:=λc st'=>∃ r c',c=(some r,c')/\r.toList=mrg O rk a.toList b.toList/\Gs st st') ?_ ?_ ?_) ?_)
 ·rintro x c st' _ hx ⟨out,na,nb,g,rfl,I,ha,hb,hza,hzb,hp,hG⟩
  have hk':kindOf st'=κ:=hG.kind.trans hk
  refine qaw (qec (qb5 (I:=λy c st2=>st2=st'/\∃ out ma mb ac bc,c=(none,ma,mb,out,ac,bc)/\MH O rk a b out ma mb/\0 < ma/\1 < mb/\ma<=a.size/\mb<=b.size/\ma+mb+y<=na+nb)
   (Q:=λc st2=>st2=st'/\((∃ r c',c=(some r,c')/\r.toList=mrg O rk a.toList b.toList)\/∃ out ma mb ac bc,c=(none,ma,mb,out,ac,bc)/\MH O rk a b out ma mb/\0<ma/\1<mb/\ma<=a.size/\mb<=b.size/\ma+mb+1<=na+nb)) ?_ ?_ ?_) ?_)
  ·rintro y c st2 _ hy ⟨rfl,out2,ma,mb,ac,bc,rfl,I2,ha2,hb2,za2,zb2,hp2⟩
   dsimp only
   refine qaw (bC (br (by lia)) (qaw (bC (br (by lia)) (qaw (uI hC hk' (T.sb _ (by lia)) (T.sa _ (by lia)) ?_)))))
   cases hl:O.blt (rk (kyd b (mb - 1))) (rk (kyd a (ma - 1))) with
   |true=>
    dsimp only
    refine bA rfl ?_
    refine qaw (bC (br (by lia)) ?_)
    have I3:=I2.a1' T ha2 za2 (by lia) zb2 hl
    by_cases e3:ma - 1=0
    ·refine bA (by simpa using e3) ?_
     exact qaH ⟨rfl,.inl ⟨_,_,rfl,I3.doneA e3⟩⟩
    ·refine bp (by simpa using e3) ?_
     split
     ·exact qaH ⟨rfl,.inr ⟨_,_,_,_,_,rfl,I3,by lia,hb2,by lia,zb2,by lia⟩⟩
     ·exact qaH ⟨rfl,_,_,_,_,_,rfl,I3,by lia,hb2,by lia,zb2,by lia⟩
   |false=>
    dsimp only
    refine bp (by simp) ?_
    refine qaw (bC (br (by lia)) ?_)
    have I3:=I2.b1' T ha2 za2 (by lia) zb2 hl
    by_cases e3:mb - 1=1
    ·refine bA (by simpa using e3) ?_
     exact qaH ⟨rfl,.inl ⟨_,_,rfl,I3.firstB T ha2 e3⟩⟩
    ·refine bp (by simpa using e3) ?_
     split
     ·exact qaH ⟨rfl,.inr ⟨_,_,_,_,_,rfl,I3,ha2,by lia,za2,by lia,by lia⟩⟩
     ·exact qaH ⟨rfl,_,_,_,_,_,rfl,I3,ha2,by lia,za2,by lia,by lia⟩
  ·rintro c st2 ⟨rfl,out2,ma,mb,ac,bc,rfl,I2,ha2,hb2,za2,zb2,hp2⟩
   exact⟨rfl,.inr ⟨_,_,_,_,_,rfl,I2,ha2,hb2,za2,zb2,by lia⟩⟩
  ·exact⟨rfl,out,na,nb,0,0,rfl,I,ha,hb,hza,hzb,by lia⟩
  ·rintro c st2 ⟨rfl,⟨r,c',rfl,hr⟩|⟨out2,ma,mb,ac,bc,rfl,I2,ha2,hb2,za2,zb2,hp2⟩⟩
   ·exact qaH ⟨_,_,rfl,hr,hG⟩
   refine qaw (iU ?_)
   refine qaw (qec (qb5 (I:=λy c st3=>Gs st st3/\∃ out ma mb g ac bc,c=(none,ma,mb,out,g,ac,bc)/\MH O rk a b out ma mb/\0 < ma/\1 < mb/\ma<=a.size/\mb<=b.size/\ma+mb+1<=na+nb)
    (Q:=λc st3=>Gs st st3/\((∃ r c',c=(some r,c')/\r.toList=mrg O rk a.toList b.toList)\/∃ out ma mb g ac bc,c=(none,ma,mb,out,g,ac,bc)/\MH O rk a b out ma mb/\0<ma/\1<mb/\ma<=a.size/\mb<=b.size/\ma+mb+1<=na+nb)) ?_ ?_ ?_) ?_)
   ·rintro y c st3 _ hy ⟨hG3,out3,ma,mb,g3,ac,bc,rfl,I3,ha3,hb3,za3,zb3,hp3⟩
    have gal1:∀ (g4:Nat) (Q':Option Nat->qbq->Prop),(∀ k,k<=ma->(∀ i,i<k->bey O rk false (kyd b (mb - 1)) (kyd a (0+i))=true)->(∀ i,k<=i->i<ma->bey O rk false (kyd b (mb - 1)) (kyd a (0+i))=false)->Q' (some k) (qb0 (kindOf st3) (arrOf st3) (qbD st3) g4 (qcg st3)))->
      wpS (model prog w) A E s (sk false (kyd b (mb - 1)) a 0 ma (ma - 1)) Q' (qb0 (kindOf st3) (arrOf st3) (qbD st3) g4 (qcg st3)):=λg4 Q' hq=>
     gj hC (hG3.kind.trans hk) (T.sb _ (by lia)) (by lia) (λi hi=>T.sa _ (by lia)) (by lia) (T.galA (by lia)) hq
    dsimp only
    apply shr (C:=g3 > 1)
    case hp=>
     intro hg1 tail
     refine bA hg1 ?_
     generalize g3 - 1=g4
     revert g4
     exact tail.out
    case hn=>
     intro hg1 tail
     refine bp hg1 ?_
     exact tail.out g3
    case g=>
     intro g4
     refine qaw (qdl ?_)
     refine qaw (bC (br (by lia)) (qaw (gal1 _ _ λt hk1 hk2 hk3=>?_)))
     have I4:=I3.as' T hk1 za3 (by lia) zb3 hk3
     have hb5:∀ i,i<t->O.blt (rk (kyd b (mb - 1))) (rk (kyd a i))=false:=λi hi=>by simpa [bey] using hk2 i hi
     clear hk2 hk3 gal1
     dsimp only
     apply shr (C:=ma - t > 0)
     case hp=>
      intro hk0 tail
      refine bA hk0 ?_
      by_cases e3:t=0
      ·refine bA (by simpa using e3) ?_
       exact qaH ⟨hG3.set _,.inl ⟨_,_,rfl,I4.doneA e3⟩⟩
      refine bp (by simpa using e3) ?_
      have ha5:0<t:=by lia
      have za5:t<=a.size:=by lia
      have hp5:t+mb+1<=na+nb:=by lia
      have J4:=I4
      have jb5:=hb5
      generalize out3++(a.extract t ma).reverse=out5 at J4 ⊢
      generalize ma - t=ac5
      generalize t=t5 at jb5 J4 ha5 za5 hp5 ⊢
      revert jb5 J4 ha5 za5 hp5
      revert ac5 out5 t5
      exact tail.out
     case hn=>
      intro hk0 tail
      refine bp hk0 ?_
      have e0:t=ma:=by lia
      subst e0
      have e9:out3++(a.extract t t).reverse=out3:=by apply qbg.mp;simp
      rw[e9]at I4
      exact tail.out _ _ t hb5 I4 ha3 za3 hp3
     case g=>
      clear I4 hb5 hk1
      intro out5 ac5 t hb5 I4 ha5 za5 hp5
      refine qaw (bC (br (by lia)) ?_)
      have I5:=I4.b1' T ha5 za5 (by lia) zb3 (hb5 _ (by lia))
      by_cases e5:mb - 1=1
      ·refine bA (by simpa using e5) ?_
       exact qaH ⟨hG3.set _,.inl ⟨_,_,rfl,I5.firstB T ha5 e5⟩⟩
      refine bp (by simpa using e5) ?_
      refine qaw (bC (br (by lia)) (qaw (gj hC (hG3.kind.trans hk) (T.sa _ (by lia)) (by lia) (λi hi=>T.sb _ (by lia)) (by lia) (T.galB (by lia)) λu hk1 hk2 hk3=>?_)))
      have I6:=I5.bs' T hk1 (by lia) ha5 za5 hk3
      have hb7:∀ i,i<u->O.blt (rk (kyd b i)) (rk (kyd a (t - 1)))=true:=λi hi=>by simpa [bey] using hk2 i hi
      clear hk2 hk3
      dsimp only
      apply shr (C:=mb - 1 - u > 0)
      case hp=>
       intro hk20 tail
       refine bA hk20 ?_
       by_cases e6:u=1
       ·refine bA (by simpa using e6) ?_
        exact qaH ⟨hG3.set _,.inl ⟨_,_,rfl,I6.firstB T ha5 e6⟩⟩
       refine bp (by simpa using e6) ?_
       by_cases e7:u=0
       ·refine bA (by simpa using e7) ?_
        exact qaH ⟨hG3.set _,.inl ⟨_,_,rfl,I6.doneB e7⟩⟩
       refine bp (by simpa using e7) ?_
       have hj7:1<u:=by lia
       have zj7:u<=b.size:=by lia
       have hp7:t+u+1<=na+nb:=by lia
       have J6:=I6
       have jb7:=hb7
       generalize out5.push (kyd b (mb - 1))++(b.extract u (mb - 1)).reverse=out7 at J6 ⊢
       generalize mb - 1 - u=bc7
       generalize u=u7 at jb7 J6 hj7 zj7 hp7 ⊢
       revert jb7 J6 hj7 zj7 hp7
       revert bc7 out7 u7
       exact tail.out
      case hn=>
       intro hk20 tail
       refine bp hk20 ?_
       have e0:u=mb - 1:=by lia
       subst e0
       have e9:out5.push (kyd b (mb - 1))++(b.extract (mb - 1) (mb - 1)).reverse=out5.push (kyd b (mb - 1)):=by apply qbg.mp;simp
       rw[e9]at I6
       exact tail.out _ _ (mb - 1) hb7 I6 (by lia) (by lia) (by lia)
      case g=>
       clear I6 hb7 hk1
       intro out7 bc7 u hb7 I6 hj7 zj7 hp7
       refine qaw (bC (br (by lia)) ?_)
       have I7:=I6.a1' T ha5 za5 (by lia) zj7 (hb7 _ (by lia))
       by_cases e7:t - 1=0
       ·refine bA (by simpa using e7) ?_
        exact qaH ⟨hG3.set _,.inl ⟨_,_,rfl,I7.doneA e7⟩⟩
       refine bp (by simpa using e7) ?_
       split
       ·exact qaH ⟨hG3.set _,.inr ⟨_,_,_,_,_,_,rfl,I7,by lia,hj7,by lia,zj7,by lia⟩⟩
       ·exact qaH ⟨hG3.set _,_,_,_,_,_,_,rfl,I7,by lia,hj7,by lia,zj7,by lia⟩
   ·rintro c st3 ⟨hG3,out3,ja,jb,g3,ac,bc,rfl,I3,ha3,hb3,za3,zb3,hp3⟩
    exact⟨hG3,.inr ⟨_,_,_,_,_,_,rfl,I3,ha3,hb3,za3,zb3,hp3⟩⟩
   ·exact⟨hG,_,_,_,_,_,_,rfl,I2,ha2,hb2,za2,zb2,hp2⟩
   ·rintro c st3 ⟨hG3,⟨r,c',rfl,hr⟩|⟨out3,ja,jb,g3,ac,bc,rfl,I3,ha3,hb3,za3,zb3,hp3⟩⟩
    ·exact qaH ⟨_,_,rfl,hr,hG3⟩
    ·refine qaw (qdl (qaH ⟨out3,ja,jb,_,rfl,I3,ha3,hb3,za3,zb3,by lia,hG3.set _⟩))
 ·rintro c st' ⟨out,ia,ib,g,rfl,I,ha,hb,hza,hzb,hp,hG⟩
  exfalso;lia
 ·exact⟨_,_,_,_,rfl,I0,by lia,by lia,by lia,by lia,by lia,.refl⟩
 ·rintro c st' ⟨r,c',rfl,hr,hG⟩
  exact qaH (h r st' hG hr)
end
section
variable {prog:qaY}{w:World}{A:qa9}{E:Value->qaj->Prop}{s:qaj}{κ:qdJ}{O:qeB}{rk:Keyed->O.α}{S:Keyed->Prop}{st:qbq}{arr:Array Keyed}{n1 n2:Nat}
theorem xM (sa:Nat):∀ (l:List Keyed) (n:Nat) (arr:Array Keyed),sa+n+l.length<=arr.size->
  ((l.zipIdx n).foldl (λ(a:Array Keyed) x=>match x with|(p,j)=>a.setIfInBounds (sa+j) p) arr).toList=arr.toList.take (sa+n)++l++arr.toList.drop (sa+n+l.length)
 |[],n,arr,h=>by simp
 |p::l,n,arr,h=>by
  rw[List.zipIdx_cons,qby,xM sa l (n+1) _ (by simp only[qam]at h;simp;lia)]
  have hn:sa+n<arr.toList.length:=by simp only[qam]at h;simp;lia
  rw[Array.toList_setIfInBounds,<-qe3,qd4 (by rw[qcY];exact hn),List.getElem_set_self,List.take_set_of_le (qap _),List.drop_set_of_lt (by lia),qam]
  simp[qe3,qiP 1]
theorem fQ {a:Array Keyed}{i j k:Nat} (h:k<j - i) (hj:j<=a.size):kyd (a.extract i j) k=kyd a (i+k):=by
 apply dO
 rw[Array.getElem?_extract_of_lt (by lia),qas (by lia)]
theorem rS {a:Array Keyed} (h:Up rk a 0 a.size):a.toList.Pairwise λx y=>O.kle (rk x) (rk y):=by
 rw[qcT]
 intro i j hi hj hij
 have hi':i<a.size:=by simpa using hi
 have hj':j<a.size:=by simpa using hj
 have q:=h i j (qaW _) (by lia) (by lia)
 have e1:=br hi'
 have e2:=br hj'
 rw[qas hi']at e1
 rw[qas hj']at e2
 rw[<-qaS e1,<-qaS e2]at q
 simpa using q
theorem tH {a:Array Keyed}{i j:Nat} (h:Up rk a i (j - i)) (hj:j<=a.size):Up rk (a.extract i j) 0 (a.extract i j).size:=by
 intro x y _ hxy hy
 have hs:(a.extract i j).size=j - i:=by simp;lia
 rw[fQ (by lia) hj,fQ (by lia) hj]
 exact h _ _ (by lia) (by lia) (by lia)
theorem nX {a:Array Keyed}{i j:Nat}{x:Keyed} (h:x∈(a.extract i j).toList) (hj:j<=a.size):∃ k,i<=k/\k<j/\x=kyd a k:=by
 obtain⟨k,hk,rfl⟩:=xK h
 have hs:(a.extract i j).size=j - i:=by simp;lia
 exact⟨i+k,by lia,by lia,by rw[fQ (by lia) hj]⟩
theorem EY {a:Array Keyed}{i j k:Nat} (h1:i<=j) (h2:j<=k) (h3:k<=a.size):a.toList=a.toList.take i++(a.extract i j).toList++(a.extract j k).toList++a.toList.drop k:=by
 have e1:(a.extract i j).toList=(a.toList.drop i).take (j - i):=by rw[qbV,qb4]
 have e2:(a.extract j k).toList=(a.toList.drop j).take (k - j):=by rw[qbV,qb4]
 rw[e1,e2]
 have c1:a.toList.take i++(a.toList.drop i).take (j - i)=a.toList.take j:=by
  rw[<-qkw,show i+(j - i)=j by lia]
 have c2:a.toList.take j++(a.toList.drop j).take (k - j)=a.toList.take k:=by
  rw[<-qkw,show j+(k - j)=k by lia]
 rw[c1,c2,qcO]
set_option maxHeartbeats 2000000 in
theorem CW (hC:Cm prog w A s κ O rk S) {Q:Bool->qbq->Prop}{p q:Nat} (hk:kindOf st=κ) (hf:qcg st=none) (hp:qbD st=#[(0,n1,p),(n1,n2,q)]) (hS:∀ x∈(arrOf st).toList,S x) (hz:(arrOf st).size=n1+n2) (h1:0<n1) (h2:0<n2)
  (u1:Up rk (arrOf st) 0 n1) (u2:Up rk (arrOf st) n1 n2)
  (h:∀ st',(arrOf st').toList.Perm (arrOf st).toList->(arrOf st').toList.Pairwise (λx y=>O.kle (rk x) (rk y))->qcg st'=none->qbD st'=#[(0,n1+n2,p)]->Q true st'):wpS (model prog w) A E s (D0 0) Q st:=by
 have hSi:∀ i,i<n1+n2->S (kyd (arrOf st) i):=λi hi=>by
  have hi':i<(arrOf st).size:=by lia
  refine hS _ ?_
  have e:=br hi'
  rw[qas hi']at e
  rw[<-qaS e];exact qhU hi'
 refine qaw (qew ?_)
 have e1:(qbD st)[0]?=some (0,n1,p):=by rw[hp];rfl
 have e2:(qbD st)[0+1]?=some (n1,n2,q):=by rw[hp];rfl
 rw[e1,e2]
 refine qaw ?_
 have hset:∀ (x:qbq) (Q':PUnit->qbq->Prop) (st0:qbq),Q' ⟨⟩ x->wpS (model prog w) A E s (set x:StateT qbq Sem PUnit) Q' st0:=λx Q' st0 hq=>by
  unfold wpS;exact qab ⟨rfl,hq⟩
 refine hset _ _ _ ?_
 have e3:((qbD st).setIfInBounds 0 (0,n1+n2,p)).eraseIdxIfInBounds (0+1)=#[(0,n1+n2,p)]:=by
  rw[hp];apply qbg.mp;simp[Array.eraseIdxIfInBounds]
 rw[e3]
 clear e1 e2 e3 hp
 delta arrOf kindOf qcg qeC at *
 obtain⟨kd,arr,pn,gl,fl⟩:=st
 dsimp only at hk hf hS hz u1 u2 h hSi
 dsimp -zeta only
 have h:∀ st',(arrOf st').toList.Perm arr.toList->(arrOf st').toList.Pairwise (λx y=>O.kle (rk x) (rk y))->qcg st'=none->qbD st'=#[(0,n1+n2,p)]->Q true st':=h
 have k2:kindOf (qb0 kd arr #[(0,n1+n2,p)] gl fl)=κ:=hk
 have a2:arrOf (qb0 kd arr #[(0,n1+n2,p)] gl fl)=arr:=rfl
 have f2:qcg (qb0 kd arr #[(0,n1+n2,p)] gl fl)=none:=hf
 have p2:qbD (qb0 kd arr #[(0,n1+n2,p)] gl fl)=#[(0,n1+n2,p)]:=rfl
 have whole:O.kle (rk (kyd arr (n1 - 1))) (rk (kyd arr n1))->arr.toList.Pairwise λx y=>O.kle (rk x) (rk y):=λhm=>rS λi j _ hij hj=>by
  by_cases c1:j<n1
  ·exact u1 i j (qaW _) hij (by lia)
  ·by_cases c2:n1<=i
   ·exact u2 i j c2 hij (by lia)
   ·exact qbG (qbG (u1 i (n1 - 1) (qaW _) (by lia) (by lia)) hm) (u2 n1 j (qap _) (by lia) (by lia))
 have ok:arr.toList.Pairwise (λx y=>O.kle (rk x) (rk y))->Q true (qb0 kd arr #[(0,n1+n2,p)] gl fl):=λhw=>h (qb0 kd arr #[(0,n1+n2,p)] gl fl) (by rw[a2]) (by rw[a2];exact hw) f2 p2
 refine qaw (bC (br (by lia)) (qaw (gj hC k2 (hSi _ (by lia)) (by lia) (λi hi=>hSi _ (by lia)) (by lia) (λi j hij hj hb=>?_) λk hk1 hk2 hk3=>?_)))
 ·simp only[bey,qaq,if_false,qcA]at hb ⊢
  exact qbG (O:=O) (u1 (0+i) (0+j) (qaW _) (by lia) (by lia)) hb
 simp only[bey,qaq,if_false,qcA,qgs,qbt]at hk2 hk3
 dsimp only
 by_cases c1:n1 - k=0
 ·refine bA (by simpa using c1) ?_
  exact qaH (ok (whole (hk2 (n1 - 1) (by lia))))
 refine bp (by simpa using c1) ?_
 rw[show 0+k+(n1 - k) - 1=n1 - 1 by lia,qbt]
 refine qaw (bC (br (by lia)) (qaw (gj hC k2 (hSi _ (by lia)) (by lia) (λi hi=>hSi _ (by lia)) (by lia) (λi j hij hj hb=>?_) λnb hb1 hb2 hb3=>?_)))
 ·simp only[bey,if_true]at hb ⊢
  exact qeJ (O:=O) (u2 (n1+i) (n1+j) (by lia) (by lia) (by lia)) hb
 simp only[bey,if_true]at hb2 hb3
 dsimp only
 by_cases c2:nb=0
 ·refine bA (by simpa using c2) ?_
  exact qaH (ok (whole (hb3 0 (by lia) (by lia))))
 refine bp (by simpa using c2) ?_
 have sx:(arr.extract k n1).size=n1 - k:=by simp;lia
 have sy:(arr.extract n1 (n1+nb)).size=nb:=by simp;lia
 have T:Two O rk S (arr.extract k n1) (arr.extract n1 (n1+nb)):=by
  refine⟨λi hi=>?_,λi hi=>?_,tH (λi j a b c=>u1 i j (qaW _) b (by lia)) (by lia),tH (λi j a b c=>u2 i j a b (by lia)) (by lia),by lia,by lia,?_,λi hi=>?_⟩
  ·rw[fQ (by lia) (by lia)];exact hSi _ (by lia)
  ·rw[fQ (by lia) (by lia)];exact hSi _ (by lia)
  ·rw[fQ (by lia) (by lia),fQ (by lia) (by lia)];exact hk3 _ (by lia) (by lia)
  ·rw[fQ (by lia) (by lia),fQ (by lia) (by lia),sx,show k+(n1 - k - 1)=n1 - 1 by lia];exact hb2 i (by lia)
 have fin:∀ (r:Array Keyed) st',Gs (qb0 kd arr #[(0,n1+n2,p)] gl fl) st'->r.toList=mrg O rk (arr.extract k n1).toList (arr.extract n1 (n1+nb)).toList->
   Q true (qb0 (kindOf st') ((r.toList.zipIdx).foldl (λ(a:Array Keyed) x=>match x with|(p,j)=>a.setIfInBounds (k+j) p) (arrOf st')) (qbD st') (qeC st') (qcg st')):=by
  rintro r st' ⟨g,rfl⟩ hr
  have hl:r.toList.length=n1 - k+nb:=by rw[hr,(oq _ _).length_eq,qa4,qaA,qaA,sx,sy]
  have e5:=xM k r.toList 0 arr (by lia)
  rw[qgX,hl,show k+(n1 - k+nb)=n1+nb by lia,hr]at e5
  have e6:=EY (a:=arr) (i:=k) (j:=n1) (k:=n1+nb) (by lia) (by lia) (by lia)
  refine h _ ?_ ?_ f2 p2
  ·show (qfz _ (arrOf (qb0 kd arr #[(0,n1+n2,p)] gl fl)) _).toList.Perm _
   rw[a2,hr,e5]
   conv=>rhs;rw[e6]
   exact ((oq _ _).append_left _ |>.append_right _).trans (by rw[qca,qca,qca,qca])
  ·show (qfz _ (arrOf (qb0 kd arr #[(0,n1+n2,p)] gl fl)) _).toList.Pairwise _
   rw[a2,hr,e5]
   have m1:∀ x∈arr.toList.take k,∃ i,i<k/\x=kyd arr i:=λx hx=>by
    rw[<-jJ]at hx
    obtain⟨i,_,hi,e⟩:=nX hx (by lia)
    exact⟨i,hi,e⟩
   have m2:∀ x∈arr.toList.drop (n1+nb),∃ i,n1+nb<=i/\i<arr.size/\x=kyd arr i:=λx hx=>by
    rw[<-gF]at hx
    obtain⟨i,h1,h2,e⟩:=nX hx (qap _)
    exact⟨i,h1,h2,e⟩
   have m3:∀ x∈mrg O rk (arr.extract k n1).toList (arr.extract n1 (n1+nb)).toList,∃ i,k<=i/\i<n1+nb/\x=kyd arr i:=λx hx=>by
    rcases qbo.mp ((oq _ _).mem_iff.mp hx) with hx|hx
    ·obtain⟨i,h1,h2,e⟩:=nX hx (by lia);exact⟨i,h1,by lia,e⟩
    ·obtain⟨i,h1,h2,e⟩:=nX hx (by lia);exact⟨i,by lia,h2,e⟩
   have lowHi:∀ i j,i<k->n1<=j->j<n1+n2->O.kle (rk (kyd arr i)) (rk (kyd arr j)):=λi j hi h3 h4=>qbG (hk2 i hi) (u2 n1 j (qap _) h3 h4)
   have hiHi:∀ i j,i<n1->n1+nb<=j->j<n1+n2->O.kle (rk (kyd arr i)) (rk (kyd arr j)):=λi j hi h3 h4=>by
    have:=hb3 (j - n1) (by lia) (by lia)
    rw[show n1+(j - n1)=j by lia]at this
    exact qbG (u1 i (n1 - 1) (qaW _) (by lia) (by lia)) this
   refine qdy.mpr ⟨qdy.mpr ⟨?_,Fm (rS T.ua) (rS T.ub),?_⟩,?_,?_⟩
   ·rw[<-jJ]
    exact rS (tH (λi j a b c=>u1 i j (qaW _) b (by lia)) (by lia))
   ·intro x hx y hy
    obtain⟨i,hi,rfl⟩:=m1 x hx
    obtain⟨j,j1,j2,rfl⟩:=m3 y hy
    by_cases c:j<n1
    ·exact u1 i j (qaW _) (by lia) (by lia)
    ·exact lowHi i j hi (by lia) (by lia)
   ·rw[<-gF]
    exact rS (tH (λi j a b c=>u2 i j (by lia) b (by lia)) (qap _))
   ·intro x hx y hy
    obtain⟨j,j1,j2,rfl⟩:=m2 y hy
    have hx':∃ i,i<n1+nb/\x=kyd arr i:=by
     rcases qbo.mp hx with hx|hx
     ·obtain⟨i,hi,e⟩:=m1 x hx;exact⟨i,by lia,e⟩
     ·obtain⟨i,_,hi,e⟩:=m3 x hx;exact⟨i,hi,e⟩
    obtain⟨i,hi,rfl⟩:=hx'
    by_cases c:i<n1
    ·exact hiHi i j c j1 (by lia)
    ·exact u2 i j (by lia) (by lia) (by lia)
 have isn:∀ st',Gs (qb0 kd arr #[(0,n1+n2,p)] gl fl) st'->qcg st'=none:=by rintro st' ⟨g,rfl⟩;exact f2
 split
 ·refine qaw (DK hC k2 T λr st' hG hr=>?_)
  refine qaw (qdl (qaw (qew (qaH ?_))))
  have:=fin r st' hG hr
  have e:=isn st' hG
  have e':(qcg st').isNone=true:=by rw[e];rfl
  rw[<-e']at this
  exact this
 ·refine qaw (Dw hC k2 T λr st' hG hr=>?_)
  refine qaw (qdl (qaw (qew (qaH ?_))))
  have:=fin r st' hG hr
  have e:=isn st' hG
  have e':(qcg st').isNone=true:=by rw[e];rfl
  rw[<-e']at this
  exact this
end
section
variable {prog:qaY}{w:World}{A:qa9}{E:Value->qaj->Prop}{s:qaj}{κ:qdJ}{O:qeB}{rk:Keyed->O.α}{S:Keyed->Prop}{st:qbq}{a0:Array Keyed}
structure E6 (κ:qdJ) (O:qeB) (rk:Keyed->O.α) (a0:Array Keyed) (n1:Nat) (st:qbq):Prop where
 perm:(arrOf st).Perm a0
 kind:kindOf st=κ
 fail:qcg st=none
 pend:qbD st=#[(0,n1,0)]
 up:Up rk (arrOf st) 0 n1
structure Dg (κ:qdJ) (O:qeB) (rk:Keyed->O.α) (a0:Array Keyed) (st:qbq):Prop where
 perm:(arrOf st).Perm a0
 kind:kindOf st=κ
 fail:qcg st=none
 ex:∃ n1 n2 p,0<n1/\0<n2/\n1+n2=a0.size/\qbD st=#[(0,n1,p),(n1,n2,0)]/\Up rk (arrOf st) 0 n1/\Up rk (arrOf st) n1 n2
theorem HE {n:Nat} (h2:2<=n) (h64:n<=64):(n<64/\minRun' n n 0=n)\/n=64/\minRun' n n 0=32:=by
 by_cases h:n=64
 ·subst h;exact .inr ⟨rfl,rfl⟩
 ·obtain⟨f,rfl⟩:∃ f,n=f+1:=⟨n - 1,by lia⟩
  exact .inl ⟨by lia,by rw[minRun'_succ,if_pos (by lia)]⟩
set_option maxHeartbeats 2000000 in
theorem CG (hC:Cm prog w A s κ O rk S) {Q:Unit->qbq->Prop} (hk:kindOf st=κ) (hf:qcg st=none) (hp:qbD st=#[]) (ha:arrOf st=a0) (hS:∀ x∈a0.toList,S x) (h2:2<=a0.size) (h64:a0.size<=64)
  (h:∀ st',(arrOf st').toList.Perm a0.toList->(arrOf st').toList.Pairwise (λx y=>O.kle (rk x) (rk y))->qcg st'=none->Q () st'):wpS (model prog w) A E s sortRuns' Q st:=by
 obtain⟨mr,hm0,hmr⟩:∃ mr,(sortPriv% PySem.Builtin.minRun) a0.size a0.size 0=mr/\((a0.size<64/\mr=a0.size)\/a0.size=64/\mr=32):=⟨_,rfl,HE h2 h64⟩
 refine qaw (qew ?_)
 have hz:(arrOf st).size=a0.size:=by rw[ha]
 dsimp only
 rw[hz,hm0]
 refine qaw (qec (qb5 (I:=λx c st'=>(x=0/\c=(none,0)/\SB κ a0 0 #[] (qeC st) st')\/(∃ n1,c=(none,n1)/\E6 κ O rk a0 n1 st'/\1<=x/\(n1=a0.size\/x=1/\32<=n1/\n1 < 64/\a0.size=64))\/(c=(none,a0.size)/\Dg κ O rk a0 st'/\1<=x))
  (Q:=λc st'=>c.1=none/\(E6 κ O rk a0 a0.size st'\/Dg κ O rk a0 st')) ?_ ?_ ?_) ?_)
 ·rintro x c st' _ hx H
  rcases H with⟨rfl,rfl,hB⟩|⟨n1,rfl,hR,hx1,hor⟩|⟨rfl,hR,hx1⟩
  ·dsimp only
   refine bp (by lia) ?_
   refine qaw (yy hC hS hB (by lia) (by lia) λm st2 hB2 m1 m2 u=>?_)
   have put:∀ n st3,SB κ a0 0 #[] (qeC st) st3->Up rk (arrOf st3) 0 n->mr<=n->n<=a0.size->
     E6 κ O rk a0 n (qb0 (kindOf st3) (arrOf st3) ((qbD st3).push (0,n,0)) (qeC st3) (qcg st3))/\(n=a0.size\/0+1=1/\32<=n/\n<64/\a0.size=64):=λn st3 hB3 u3 h1 h2=>
    ⟨⟨hB3.perm,hB3.kind,hB3.fail,by show (qbD st3).push _=_;rw[hB3.pend];rfl,u3⟩,by lia⟩
   dsimp only
   by_cases hlt:m<mr
   ·refine bA hlt ?_
    refine qaw (iU (qaw (uT hC hS hB2 m1 (by lia) (by lia) u λst3 hB3 u3=>?_)))
    refine bp (by simp) ?_
    have hP:=put _ st3 hB3 u3 (by lia) (by lia)
    refine qaw (qew ?_)
    have hb:(qbD st3).back?=none:=by rw[hB3.pend];rfl
    rw[hb]
    exact qaw (qdl (qaH (.inr (.inl ⟨_,by rw[qbt],hP.1,by lia,hP.2⟩))))
   ·refine bp hlt ?_
    have hP:=put m st2 hB2 u (by lia) (by lia)
    refine qaw (qew ?_)
    have hb:(qbD st2).back?=none:=by rw[hB2.pend];rfl
    rw[hb]
    exact qaw (qdl (qaH (.inr (.inl ⟨_,by rw[qbt],hP.1,by lia,hP.2⟩))))
  ·dsimp only
   by_cases hge:n1>=a0.size
   ·refine bA hge ?_
    have e:n1=a0.size:=by lia
    subst e
    exact qaH ⟨rfl,.inl hR⟩
   refine bp hge ?_
   have hsz:(arrOf st').size=a0.size:=hR.perm.size_eq
   have hS':∀ x∈(arrOf st').toList,S x:=λx hx=>hS x ((qcI.mp hR.perm).mem_iff.mp hx)
   have hB:SB κ (arrOf st') n1 #[(0,n1,0)] (qeC st') st':=⟨qno _,λ_ _=>rfl,hR.kind,hR.fail,hR.pend,rfl⟩
   have hn:32<=n1/\n1<64/\a0.size=64/\mr=32:=by lia
   refine qaw (yy hC hS' hB (by lia) (by lia) λm st2 hB2 m1 m2 u=>?_)
   have put:∀ n pw st3,n=a0.size - n1->SB κ (arrOf st') n1 #[(0,n1,0)] (qeC st') st3->Up rk (arrOf st3) n1 n->
     Dg κ O rk a0 (qb0 (kindOf st3) (arrOf st3) (((qbD st3).modify ((qbD st3).size - 1) λx=>(x.1,x.2.1,pw)).push (n1,n,0)) (qeC st3) (qcg st3)):=λn pw st3 hn3 hB3 u3=>
    ⟨hB3.perm.trans hR.perm,hB3.kind,hB3.fail,n1,n,pw,by lia,by lia,by lia,by show (Array.modify (qbD st3) _ _).push _=_;rw[hB3.pend];simp,λi j a b c=>by
     show O.kle (rk (kyd (arrOf st3) i)) (rk (kyd (arrOf st3) j))
     rw[dO (hB3.pre i (by lia)),dO (hB3.pre j (by lia))]
     exact hR.up i j a b c,u3⟩
   have inner:∀ st3,SB κ (arrOf st') n1 #[(0,n1,0)] (qeC st') st3->∀ (f:Nat->Option Unit×Unit->StateT qbq Sem (ForInStep (Option Unit×Unit))) (Q':Option Unit×Unit->qbq->Prop),
     (∀ x,∀ Q'':ForInStep (Option Unit×Unit)->qbq->Prop,Q'' (.done (none,())) st3->wpS (model prog w) A E s (f x (none,())) Q'' st3)->Q' (none,()) st3->wpS (model prog w) A E s (forIn [0:a0.size] (none,()) f) Q' st3:=λst3 hB3 f Q' hf hq=>
    qb5 (I:=λ_ c st4=>c=(none,())/\st4=st3) (λi c st4 _ _ hI=>by
     obtain⟨rfl,rfl⟩:=hI
     exact hf i _ hq) (λc st4 hI=>by obtain⟨rfl,rfl⟩:=hI;exact hq) ⟨rfl,rfl⟩
   dsimp only
   by_cases hlt:m<mr
   case' pos=>
    refine bA hlt ?_
    refine qaw (iU (qaw (uT hC hS' hB2 m1 (by lia) (by lia) u λst3 hB3 u3=>?_)))
    refine bp (by simp) ?_
    have e9:min (a0.size - n1) mr=a0.size - n1:=by lia
    rw[e9]at u3 ⊢
   case' neg=>
    refine bp hlt ?_
    have e9:m=a0.size - n1:=by lia
    subst e9
    have hB3:=hB2
    have u3:=u
    revert hB3 u3
    clear u hB2
    generalize st2=st3
    intro hB3 u3
   all_goals
    refine qaw (qew ?_)
    have hb:(qbD st3).back?=some (0,n1,0):=by rw[hB3.pend];rfl
    rw[hb]
    refine qaw (inner st3 hB3 _ _ (λx Q'' hq=>?_) ?_)
    ·refine qaw (qew ?_)
     have hb2:(if (qbD st3).size > 1 then (qbD st3)[(qbD st3).size - 2]? else none)=none:=by rw[hB3.pend];rfl
     rw[hb2]
     exact qaH hq
    ·refine qaw (qdl (qaw (qdl (qaH (.inr (.inr ⟨?_,put _ _ st3 rfl hB3 u3,by lia⟩))))))
     rw[show n1+(a0.size - n1)=a0.size by lia]
  ·dsimp only
   refine bA (qap _) ?_
   exact qaH ⟨rfl,.inr hR⟩
 ·rintro c st' (⟨hx,_⟩|⟨n1,rfl,hR,hx1,hor⟩|⟨rfl,hR,hx1⟩)
  ·lia
  ·have e:n1=a0.size:=by lia
   subst e
   exact⟨rfl,.inl hR⟩
  ·exact⟨rfl,.inr hR⟩
 ·exact .inl ⟨rfl,rfl,by rw[ha],λ_ _=>by rw[ha],hk,hf,hp,rfl⟩
 ·rintro⟨c1,c2⟩ st' ⟨rfl,hR⟩
  dsimp only
  refine qaw (qec (qb5 (I:=λy c st2=>c=(none,())/\((y=0/\Dg κ O rk a0 st2)\/((qbD st2).size=1/\(arrOf st2).toList.Perm a0.toList/\(arrOf st2).toList.Pairwise (λx y=>O.kle (rk x) (rk y))/\qcg st2=none)))
   (Q:=λc st2=>c=(none,())/\(arrOf st2).toList.Perm a0.toList/\(arrOf st2).toList.Pairwise (λx y=>O.kle (rk x) (rk y))/\qcg st2=none) ?_ ?_ ?_) ?_)
  ·rintro y c st2 _ hy ⟨rfl,⟨rfl,hR2⟩|⟨h1,h2',h3,h4⟩⟩
   ·refine qaw (qew ?_)
    obtain⟨n1,n2,p,z1,z2,z3,z4,u1,u2⟩:=hR2.ex
    have hsz:(arrOf st2).size=a0.size:=hR2.perm.size_eq
    have z5:(sortPriv% PySem.Builtin.SortState.pending) st2=#[(0,n1,p),(n1,n2,0)]:=z4
    rw[z5]
    refine qaw (m:=D0 0) (CW hC hR2.kind hR2.fail z4 (λx hx=>hS x ((qcI.mp hR2.perm).mem_iff.mp hx)) (by lia) z1 z2 u1 u2 λst3 a1 a2 a3 a4=>?_)
    refine bp (by simp) ?_
    exact qaH ⟨rfl,.inr ⟨by rw[a4];rfl,a1.trans (qcI.mp hR2.perm),a2,a3⟩⟩
   ·refine qaw (qew ?_)
    have h1':(qbD st2).size<=1:=by lia
    refine bA h1' ?_
    exact qaH ⟨rfl,h2',h3,h4⟩
  ·rintro c st2 ⟨rfl,⟨hy,_⟩|⟨h1,h2',h3,h4⟩⟩
   ·lia
   ·exact⟨rfl,h2',h3,h4⟩
  ·refine⟨rfl,?_⟩
   rcases hR with hR|hR
   ·have hsz:(arrOf st').size=a0.size:=hR.perm.size_eq
    exact .inr ⟨by rw[hR.pend];rfl,qcI.mp hR.perm,rS (by rw[hsz];exact hR.up),hR.fail⟩
   ·exact .inl ⟨rfl,hR⟩
  ·rintro c st2 ⟨rfl,h2',h3,h4⟩
   exact qaH (h st2 h2' h3 h4)
end
end L2
namespace L2
open PySem PySem.Spec PyProof.Rows PySem.SeqAt
open MeetsSeq MeetsSeq2 MeetsSeq3 SeqRoads2
open AutoSeq1 (wpAny_loadPart')
def qR (A:qa9) (s:qaj) (y x:Value) (b:Bool):Prop:=∀ (prog:qaY) (w:World) (E:Value->qaj->Prop) (Q:Value->qaj->Prop),Q (.bool b) s->wpAny (model prog w) A (richCompare .Lt y x) Q E s
def qd (e l:Nat->Bool) (fin:Bool):Nat->Nat->Bool
 |0,_=>fin
 |k+1,i=>if e i=true then qd e l fin k (i+1) else l i
theorem pA (p q:Addr) (us vs:Array Value) (n n2:Nat) (dd dd2:Option Addr) (sl sl2:Array (Option Value)) (e l:Nat->Bool) :
  Meets (qcs.«tuple.__lt__» ⟨[.ref p,.ref q],[]⟩)
   (λA R s=>(s.heap.get? p=some ⟨.type "tuple",dd,.seq us n,sl⟩/\s.heap.get? q=some ⟨.type "tuple",dd2,.seq vs n2,sl2⟩)/\
     (∀ j (h1:j<us.size) (h2:j<vs.size),EqAt A.in1 s us[j] vs[j] (e j)/\(e j=false->qR A.in1 s us[j] vs[j] (l j)))/\
     R (.ok (.ret (.bool (qd e l (decide (us.size<vs.size)) (min us.size vs.size) 0)))) s):=
 .of_wp λprog w A R s h=>by
  obtain⟨hp,g,d,tk,os⟩:=s
  obtain⟨⟨h1,h2⟩,he,h⟩:=h
  have f2:=qhh
  have hZ:(us.toList.zip vs.toList).length=min us.size vs.size:=by simp
  wp_walk using wpAny_loadPart' h1,wpAny_loadPart' h2,wpAny_forIn_list _ (λrest b s'=>b.1=none/\s'=⟨hp,g,d,tk,os⟩/\∃ i,i<=min us.size vs.size/\rest=(us.toList.zip vs.toList).drop i/\
   R (.ok (.ret (.bool (qd e l (decide (us.size<vs.size)) (min us.size vs.size - i) i)))) ⟨hp,g,d,tk,os⟩) _
  case turn=>
   rintro⟨y,x⟩ rest b s' ⟨hb',rfl,i,hi,hz,hR⟩
   have hlt:i<(us.toList.zip vs.toList).length:=by
    rcases qlP i (us.toList.zip vs.toList).length with h'|h'
    ·exact h'
    ·rw[List.drop_of_length_le h']at hz;cases hz
   rw[hZ]at hlt
   have g1:i<us.size:=by lia
   have g2:i<vs.size:=by lia
   rw[qcl (by rw[hZ];exact hlt)]at hz
   injection hz with hyx hrest
   have hy:y=us[i]:=by have:=congrArg qa3 hyx;simpa using this
   have hx:x=vs[i]:=by have:=congrArg Prod.snd hyx;simpa using this
   subst hy hx
   obtain⟨k,hk⟩:∃ k,min us.size vs.size - i=k+1:=⟨min us.size vs.size - i - 1,by lia⟩
   rw[hk]at hR
   have hR':R (.ok (.ret (.bool (if e i=true then qd e l (decide (us.size<vs.size)) k (i+1) else l i)))) ⟨hp,g,d,tk,os⟩:=hR
   refine qaa ((he i g1 g2).1 prog w _ _ ?_)
   cases hy:e i with
   |true=>
    rw[hy,if_pos rfl]at hR'
    wp_walk
    exact⟨rfl,rfl,i+1,by lia,hrest,by rw[show min us.size vs.size - (i+1)=k by lia];exact hR'⟩
   |false=>
    rw[hy,if_neg (by simp)]at hR'
    simp only[qeh,if_true]
    refine qaa (qdG ?_)
    refine qaa ((he i g1 g2).2 hy prog w _ _ ?_)
    wp_walk
    exact⟨_,rfl,hR'⟩
  case fin=>
   rintro⟨b1,b2⟩ s' ⟨hb',rfl,i,hi,hz,hR⟩
   simp only at hb'
   subst hb'
   have hge:min us.size vs.size<=i:=by
    rcases qlP i (us.toList.zip vs.toList).length with h'|h'
    ·rw[qcl h']at hz;cases hz
    ·rw[hZ]at h';exact h'
   rw[show min us.size vs.size - i=0 by lia]at hR
   wp_walk
   exact⟨_,rfl,by simpa [qkW,qd] using hR⟩
  case h=>exact⟨rfl,rfl,0,qaW _,rfl,h⟩
section
variable {A:qa9}{s:qaj}{p q:Addr}{us vs:Array Value}{e l:Nat->Bool}
theorem qR.tuples (hl:s.heap.IsTuple p us) (hb:s.heap.IsTuple q vs) (hu:A.units<cLine) (he:∀ j (h1:j<us.size) (h2:j<vs.size),EqAt A.in1 s us[j] vs[j] (e j)/\(e j=false->qR A.in1 s us[j] vs[j] (l j))) :
  qR A s (.ref p) (.ref q) (qd e l (decide (us.size<vs.size)) (min us.size vs.size) 0):=λprog w E Q h=>by
 obtain⟨⟨cls,dd,data,sl⟩,ho,hc,n,hd⟩:=id hl
 obtain⟨⟨cls2,dd2,data2,sl2⟩,ho2,hc2,n2,hd2⟩:=id hb
 simp only at hc hd hc2 hd2
 subst hc hd hc2 hd2
 exact richCompare_meets_room (op:=.Lt) ⟨_,ho,rfl⟩ ⟨_,ho2,rfl⟩ qe1 qhL (qhx _ _) (pA p q us vs n n2 dd dd2 sl sl2 e l)
  ⟨⟨ho,ho2⟩,he,(λx=>nomatch x),h⟩ hu
end
end L2
namespace L2
open PySem PySem.Spec PyProof.Rows PySem.SeqAt PySem.W
def bU:List Int->List Int->Bool
 |[],[]=>false
 |[],_::_=>true
 |_::_,[]=>false
 |a::as,b::bs=>if a=b then bU as bs else decide (a<b)
theorem lj:∀ a,bU a a=false
 |[]=>rfl
 |a::as=>by unfold bU;rw[if_pos rfl];exact lj as
theorem jk:∀ a b,bU a b=false->bU b a=false->a=b
 |[],[],_,_=>rfl
 |[],_::_,h,_=>by cases h
 |_::_,[],_,h=>by cases h
 |a::as,b::bs,h,h'=>by
  unfold bU at h h'
  by_cases e:a=b
  ·subst e
   rw[if_pos rfl]at h h'
   rw[jk as bs h h']
  ·rw[if_neg e]at h
   rw[if_neg (qdi e)]at h'
   rw[decide_eq_false_iff_not]at h h'
   lia
theorem nU:∀ a b c,bU a b=true->bU b c=true->bU a c=true
 |[],[],_,h,_=>by cases h
 |[],_::_,[],_,h=>by cases h
 |[],_::_,_::_,_,_=>rfl
 |_::_,[],_,h,_=>by cases h
 |_::_,_::_,[],_,h=>by cases h
 |a::as,b::bs,c::cs,h,h'=>by
  unfold bU at h h' ⊢
  by_cases e:a=b
  ·subst e
   rw[if_pos rfl]at h
   by_cases e2:a=c
   ·subst e2;rw[if_pos rfl]at h' ⊢;exact nU as bs cs h h'
   ·rw[if_neg e2]at h' ⊢;exact h'
  ·rw[if_neg e,decide_eq_true_iff]at h
   by_cases e2:b=c
   ·subst e2;rw[if_neg e,decide_eq_true_iff];exact h
   ·rw[if_neg e2,decide_eq_true_iff]at h'
    rw[if_neg (by lia),decide_eq_true_iff];lia
theorem Bi:∀ a b c,bU a c=true->bU a b=true\/bU b c=true
 |a,b,c,h=>by
  by_cases h1:bU a b=true
  ·exact .inl h1
  ·rw[qe7]at h1
   by_cases h2:bU b a=true
   ·exact .inr (nU b a c h2 h)
   ·rw[qe7]at h2
    rw[jk a b h1 h2]at h;exact .inr h
def OI:qeB:=⟨List Int,bU,lj,nU,Bi,jk⟩
def TuI (h:Heap) (v:Value) (l:List Int):Prop:=∃ a its,v=.ref a/\h.IsTuple a its/\qdC its.toList l
def bu:Value->Int
 |.int n _=>n
 |_=>0
def tuI (h:Heap):Value->List Int
 |.ref a=>match h.get? a with
  |some o=>match o.data with
   |.seq its _=>its.toList.map bu
   |_=>[]
  |none=>[]
 |_=>[]
theorem mk:∀ {us:List Value}{l:List Int},qdC us l->us.map bu=l
 |_,_,.nil=>rfl
 |_,_,.cons n t h=>by rw[qal,mk h];rfl
theorem gn:∀ {us:List Value}{l:List Int},qdC us l->us.length=l.length
 |_,_,.nil=>rfl
 |_,_,.cons n t h=>by rw[qam,qam,gn h]
theorem jU:∀ {us:List Value}{l:List Int},qdC us l->∀ (j:Nat) (h:j<us.length),∃ t,us[j]=.int (l.getD j 0) t
 |_,_,.nil,j,h=>absurd h (qcq j)
 |_,_,.cons n t hh,0,h=>⟨t,rfl⟩
 |_,_,.cons n t hh,j+1,h=>by
  obtain⟨t',e⟩:=jU hh j (qiy h)
  exact⟨t',by simpa using e⟩
theorem TuI.is {h:Heap}{v:Value}{l:List Int} (t:TuI h v l):tuI h v=l:=by
 obtain⟨a,its,rfl,⟨o,ho,hc,n,hd⟩,hi⟩:=t
 simp only[tuI,ho,hd]
 exact mk hi
theorem TuI.fit {h h':Heap}{v:Value}{l:List Int} (t:TuI h v l) (hk:∀ b o,h.get? b=some o->h'.get? b=some o):TuI h' v l:=by
 obtain⟨a,its,rfl,⟨o,ho,r⟩,hi⟩:=t
 exact⟨a,its,rfl,⟨o,hk _ _ ho,r⟩,hi⟩
theorem pk:∀ (l m:List Int) (i:Nat) (e f:Nat->Bool),(∀ j,j<l.length->j<m.length->e (i+j)=decide (l.getD j 0=m.getD j 0)/\f (i+j)=decide (l.getD j 0<m.getD j 0))->
  qd e f (decide (l.length<m.length)) (min l.length m.length) i=bU l m
 |[],[],i,e,f,_=>by simp[qd,bU]
 |[],b::m,i,e,f,_=>by simp[qd,bU]
 |a::l,[],i,e,f,_=>by simp[qd,bU]
 |a::l,b::m,i,e,f,h=>by
  have h0:=h 0 (by simp) (by simp)
  rw[qam,qam,show min (l.length+1) (m.length+1)=min l.length m.length+1 by lia]
  have e1:decide (l.length+1<m.length+1)=decide (l.length<m.length):=by rw[qdY];simp
  rw[e1]
  show (if e i=true then qd e f (decide (l.length<m.length)) (min l.length m.length) (i+1) else f i)=if a=b then bU l m else decide (a<b)
  rw[qgX]at h0
  rw[h0.1,h0.2]
  by_cases q:a=b
  ·subst q
   simp only[qa6,decide_true,if_true]
   exact pk l m (i+1) e f λj h1 h2=>by
    have:=h (j+1) (by simpa using h1) (by simpa using h2)
    rw[show i+1+j=i+(j+1) by lia]
    simpa using this
  ·simp[q]
section
variable {prog:qaY}{w:World}{A:qa9}{E:Value->qaj->Prop}{s:qaj}{x y:Value}{l m:List Int}
theorem qR.ints {a b:Int}{t u:Tok}:qR A s (.int a t) (.int b u) (decide (a<b)):=λprog w E Q h=>qhk h
theorem EqAt.ints {a b:Int}{t u:Tok}:EqAt A s (.int a t) (.int b u) (decide (a=b)):=by
 have:=wY (A:=A) (s:=s) (y:=.int a) (x:=.int b) (u:=.int a t) (v:=.int b u) ⟨t,rfl⟩ ⟨u,rfl⟩ rfl rfl
 have e:eqV (.int a) (.int b)=decide (a=b):=by simp[eqV,Bool.beq_eq_decide_eq]
 rw[e]at this;exact this
theorem TuI.lt (tx:TuI s.heap x l) (ty:TuI s.heap y m) (hu:A.units<cLine):qR A s x y (bU l m):=by
 obtain⟨a,us,rfl,h1,i1⟩:=tx
 obtain⟨b,vs,rfl,h2,i2⟩:=ty
 have e1:us.size=l.length:=by rw[<-qaA];exact gn i1
 have e2:vs.size=m.length:=by rw[<-qaA];exact gn i2
 have z:=qR.tuples (A:=A) (e:=λj=>decide (l.getD j 0=m.getD j 0)) (l:=λj=>decide (l.getD j 0<m.getD j 0)) h1 h2 hu λj g1 g2=>by
  obtain⟨t,q1⟩:=jU i1 j (by simpa using g1)
  obtain⟨t',q2⟩:=jU i2 j (by simpa using g2)
  rw[qem]at q1 q2
  rw[q1,q2]
  exact⟨EqAt.ints,λ_=>qR.ints⟩
 rw[e1,e2,pk l m 0 _ _ λj h1 h2=>by rw[qbt];exact⟨rfl,rfl⟩]at z
 exact z
theorem TuI.one (tx:TuI s.heap x l) (ty:TuI s.heap y m) (hu:A.units<cLine) {Q:Bool->qaj->Prop} (h:Q (bU l m) s) (b:Bool):wpAny (model prog w) A (oneLt' b x y) Q E s:=by
 cases b with
 |false=>exact kat_one _ _ (tx.lt ty hu _ _ _ _ h)
 |true=>
  rw[oneLt'_eq]
  simp only[if_true]
  refine qaa (wpAny_cRoomFor hu ?_)
  obtain⟨a,us,rfl,h1,i1⟩:=id tx
  obtain⟨c,vs,rfl,h2,i2⟩:=id ty
  obtain⟨⟨cls,dd,data,sl⟩,ho,hc,n,hd⟩:=id h1
  obtain⟨⟨cls2,dd2,data2,sl2⟩,ho2,hc2,n2,hd2⟩:=id h2
  simp only at hc hd hc2 hd2
  subst hc hd hc2 hd2
  have e1:us.size=l.length:=by rw[<-qaA];exact gn i1
  have e2:vs.size=m.length:=by rw[<-qaA];exact gn i2
  refine qaa (wpAny_callSpecialIfBound?_slot (T:="tuple") ⟨_,ho,rfl⟩ qe1 (qdI qe1 ⟨_,ho,rfl⟩ qhL (qhx _ _)
   (pA a c us vs n n2 dd dd2 sl sl2 (λj=>decide (l.getD j 0=m.getD j 0)) λj=>decide (l.getD j 0<m.getD j 0)) ⟨⟨ho,ho2⟩,λj g1 g2=>?_,?_⟩))
  ·obtain⟨t,q1⟩:=jU i1 j (by simpa using g1)
   obtain⟨t',q2⟩:=jU i2 j (by simpa using g2)
   rw[qem]at q1 q2
   rw[q1,q2]
   exact⟨EqAt.ints,λ_=>qR.ints⟩
  ·rw[e1,e2,pk l m 0 _ _ λj h1 h2=>by rw[qbt];exact⟨rfl,rfl⟩]
   exact qhq h
theorem B2 {Q:Bool->qaj->Prop}{fin:Bool}:∀ {us vs:List Value}{l m:List Int} (i:Nat),qdC us l->qdC vs m->(fin=decide (l.length<m.length))->Q (bU l m) s->KatLex prog w A true fin Q (us.zip vs) i s
 |_,_,_,_,i,.nil,.nil,hf,h=>kat_nil (by rw[hf];exact h)
 |_,_,_,_,i,.nil,.cons n t r,hf,h=>kat_nil (by rw[hf];simpa [bU] using h)
 |_,_,_,_,i,.cons n t r,.nil,hf,h=>kat_nil (by rw[hf];simpa [bU] using h)
 |_,_,_,_,i,.cons (vs:=us) (ns:=l) a t r,.cons (vs:=vs) (ns:=m) b u r',hf,h=>by
  rw[qjr]
  refine kat_cons (EqAt.ints prog w _ _ ?_)
  unfold bU at h
  by_cases e:a=b
  ·subst e
   rw[if_pos rfl]at h
   rw[decide_eq_true rfl]
   exact kat_yes (B2 (i+1) r r' (by rw[hf,qdY];simp) h)
  ·rw[if_neg e]at h
   rw[decide_eq_false e]
   refine kat_no ?_
   cases (true&&i==0) with
   |true=>exact oneLt_int h
   |false=>exact kat_one _ _ (qhk h)
theorem TuI.tups (tx:TuI s.heap x l) (ty:TuI s.heap y m) {Q:Bool->qaj->Prop} (h:Q (bU l m) s):wpAny (model prog w) A (keyLt' (tuples' true) x y) Q E s:=by
 obtain⟨a,us,rfl,⟨o,ho,hc,n,hd⟩,i1⟩:=tx
 obtain⟨c,vs,rfl,⟨o2,ho2,hc2,n2,hd2⟩,i2⟩:=ty
 have e1:us.size=l.length:=by rw[<-qaA];exact gn i1
 have e2:vs.size=m.length:=by rw[<-qaA];exact gn i2
 exact kat_lt ho hd ho2 hd2 (B2 0 i1 i2 (by rw[e1,e2]) h)
end
section
variable {prog:qaY}{w:World}{A:qa9}{E:Value->qaj->Prop}{s:qaj}{O:qeB}{rk:Keyed->O.α}{S:Keyed->Prop}{vs:List Value}
theorem vH:∀ (vs:List Value),vs.zip vs=vs.map λv=>(v,v)
 |[]=>rfl
 |v::vs=>by rw[qjr,vH vs];rfl
theorem EM {α β:Type}{f:α->β}{R:β->β->Prop}:∀ {vs:List α},vs.toArray.size<2->(vs.map f).Pairwise R
 |[],_=>List.Pairwise.nil
 |[v],_=>qh7 _ _
 |_::_::_,h=>absurd h (by simp)
set_option maxHeartbeats 1000000 in
theorem jX {a:Addr}{n:Nat}{P:PySem.Fin->qaj->Prop} (ho:s.heap.get? a=some (qcc "list" vs.toArray n)) (h64:vs.length<=64)
  (hyp:∀ h',(∀ b o,b≠a->s.heap.get? b=some o->h'.get? b=some o)->∃ κ,(2<=vs.length->∀ (Q':qdJ->qaj->Prop) E',Q' κ { s with heap:=h' }->wpAny (model prog w) A (qko vs.toArray) Q' E' { s with heap:=h' })/\Cm prog w A { s with heap:=h' } κ O rk S)
  (hS:∀ v∈vs,S (v,v))
  (h:∀ out:List Value,out.Perm vs->out.Pairwise (λx y=>O.kle (rk (x,x)) (rk (y,y)))->P (.done (.ret .none)) { s with heap:=qht s.heap a vs out.toArray }) :
  wpAny (model prog w) A (qcs.«list.sort» ⟨[.ref a],[]⟩) P E s:=by
 rw[list_sort_plain]
 have hlt:a<s.heap.objs.size:=qao ho
 have hsz:vs.toArray.size=vs.length:=by simp
 refine qaa (listItems_at ho rfl ?_)
 refine qaa (qjg ho rfl ?_ (by rw[hsz,qbM];lia))
 obtain⟨e1,ho1⟩:∃ e1,(s.heap.update a (qce λ_=>#[])).get? a=some (qcc "list" #[] e1):=⟨_,get?_update_seq ho (λ_=>#[])⟩
 refine qaa (qkb ho1 rfl ?_)
 refine qaa (wpAny_newTuple ?_ (by rw[qbM];show vs.toArray.toList.length<=_;simp;lia))
 refine qaa (qdH ?_)
 refine qbk ?_
 have z1:(s.heap.update a (qce λ_=>(#[]:Array Value))).objs.size=s.heap.objs.size:=qjY ..
 have keepN:∀ b o,b<s.heap.objs.size->(s.heap.update a (qce λ_=>(#[]:Array Value))).get? b=some o->
   (((s.heap.update a (qce λ_=>#[])).push (qcc "tuple" vs.toArray 0)).push (qcc "list" #[] 0)).get? b=some o:=λb o hb q=>by
  rw[qcZ _ _ _ (qar (by rw[qhu,z1];exact qa0 hb)),qcZ _ _ _ (qar (by rw[z1];exact hb))]
  exact q
 have ho6:=keepN a _ hlt ho1
 obtain⟨κ,hkk,hC⟩:=hyp (((s.heap.update a (qce λ_=>#[])).push (qcc "tuple" vs.toArray 0)).push (qcc "list" #[] 0)) λb o hb q=>
  keepN b o (qao q) (by rw[qi7 _ _ _ _ hb];exact q)
 show wpAny (model prog w) A _ P E { s with heap:=((s.heap.update a (qce λ_=>#[])).push (qcc "tuple" vs.toArray 0)).push (qcc "list" #[] 0) }
 have pt:(vs.toArray.zip vs.toArray).toList=vs.map λv=>(v,v):=by rw[<-vH];simp
 have fin:∀ st':qbq,(arrOf st').toList.Perm (vs.map λv=>(v,v))->(arrOf st').toList.Pairwise (λx y=>O.kle (rk x) (rk y))->∃ out:List Value,out.length=vs.length/\(arrOf st').map (·.2)=out.toArray/\P (.done (.ret .none)) { s with heap:=qht s.heap a vs out.toArray }:=λst' h1 h2=>by
  refine⟨(arrOf st').toList.map (·.2),by rw[qag,h1.length_eq,qag],by apply qbg.mp;simp,h _ ?_ ?_⟩
  ·have:=h1.map (·.2)
   rw[qaJ]at this
   have e:(vs.map ((λx=>x.2) ∘ λv=>((v,v):Keyed)))=vs:=by rw[show ((λx:Keyed=>x.2) ∘ λv=>((v,v):Keyed))=id from rfl,qeu]
   rw[e]at this;exact this
  ·rw[qci]
   refine h2.imp_of_mem λ{x y} hx hy q=>?_
   have dx:x=(x.2,x.2):=by obtain⟨v,_,rfl⟩:=qaz.mp (h1.mem_iff.mp hx);rfl
   have dy:y=(y.2,y.2):=by obtain⟨v,_,rfl⟩:=qaz.mp (h1.mem_iff.mp hy);rfl
   rw[<-dx,<-dy];exact q
 dsimp only
 by_cases h2:vs.toArray.size<2
 ·rw[if_pos h2,if_pos h2]
  refine qaa (qab ?_)
  rw[StateT.run_pure]
  refine qaa (qab ?_)
  dsimp only
  obtain⟨out,q0,q1,q2⟩:=fin (qb0 general' (vs.toArray.zip vs.toArray) #[] 7 none) (by rw[pt]) (by rw[pt];exact EM h2)
  refine qaa (qkb ho6 rfl ?_)
  rw[q1]
  refine qaa (qjg ho6 rfl ?_ (hsz2:=by show out.length<=_;rw[q0,qbM];lia))
  simp only[bne_self_eq_false,qaq,if_false]
  exact qab q2
 ·rw[if_neg h2,if_neg h2]
  refine qaa (hkk (by lia) _ _ ?_)
  refine qaa (qcG (CG hC (st:=qb0 κ (vs.toArray.zip vs.toArray) #[] 7 none) (a0:=vs.toArray.zip vs.toArray) (Q:=λ_ st'=>(arrOf st').toList.Perm (vs.map λv=>(v,v))/\(arrOf st').toList.Pairwise (λx y=>O.kle (rk x) (rk y))/\qcg st'=none)
   rfl rfl rfl rfl (λx hx=>?_) (by simp;lia) (by simp;lia) λst' a1 a2 a3=>⟨by rw[<-pt];exact a1,a2,a3⟩) ?_ λ_ _ e=>e)
  ·rw[pt]at hx
   obtain⟨v,hv,rfl⟩:=qaz.mp hx
   exact hS v hv
  rintro⟨⟨⟩,st'⟩ s' ⟨rfl,a1,a2,a3⟩
  dsimp only
  obtain⟨out,q0,q1,q2⟩:=fin st' a1 a2
  refine qaa (qkb ho6 rfl ?_)
  rw[q1]
  refine qaa (qjg ho6 rfl ?_ (hsz2:=by show out.length<=_;rw[q0,qbM];lia))
  rw[a3]
  simp only[bne_self_eq_false,qaq,if_false]
  exact qab q2
theorem pF {l:Addr}{Q:Value->qaj->Prop} (hl:s.heap.IsList l vs.toArray) (h64:vs.length<=64)
  (hyp:∀ h',(∀ b o,s.heap.get? b=some o->h'.get? b=some o)->∃ κ,(2<=vs.length->∀ (Q':qdJ->qaj->Prop) E',Q' κ { s with heap:=h' }->wpAny (model prog w) A.in1.in1 (qko vs.toArray) Q' E' { s with heap:=h' })/\Cm prog w A.in1.in1 { s with heap:=h' } κ O rk S)
  (hS:∀ v∈vs,S (v,v))
  (h:∀ out:List Value,out.Perm vs->out.Pairwise (λx y=>O.kle (rk (x,x)) (rk (y,y)))->Q (.ref (s.heap.objs.size+1)) { s with heap:=qlX s.heap vs out.toArray }) :
  wpAny (model prog w) A (call (.builtin "sorted") [.ref l]) Q E s:=by
 refine qdD qii qhG qhH (qhI _) ?_
 unfold qcs.«sorted»
 refine qaa (m:=qiZ "sorted" 1 1 _) (qab ?_)
 refine qaa (collect_list hl ?_ (by rw[qbM];lia))
 refine qaa (qdH ?_ (by rw[qbM];lia))
 have hz:((s.heap.push (qcc "list" #[] 0)).update s.heap.objs.size (qce (·++vs.toArray))).objs.size=s.heap.objs.size+1:=by rw[qjY,qhu]
 generalize hh:((s.heap.push (qcc "list" #[] 0)).update s.heap.objs.size (qce (·++vs.toArray)))=hB at hz ⊢
 have hoL:(hB.push (qcc "list" vs.toArray 0)).get? (s.heap.objs.size+1)=some (qcc "list" vs.toArray 0):=by
  rw[<-hz];exact qau _ rfl
 have keep:∀ b o,s.heap.get? b=some o->b≠s.heap.objs.size+1/\(hB.push (qcc "list" vs.toArray 0)).get? b=some o:=λb o q=>by
  have hlt:b<s.heap.objs.size:=qao q
  refine⟨qar (qa0 hlt),?_⟩
  rw[qcZ _ _ _ (qar (by rw[hz];exact qa0 hlt)),<-hh,qi7 _ _ _ _ (qar hlt),qcZ _ _ _ (qar hlt)]
  exact q
 show wpAny _ _ _ _ _ { s with heap:=hB.push (qcc "list" vs.toArray 0) }
 rw[hz]
 refine qaa (qbk (qbd qgA ⟨_,hoL,rfl⟩ qga (jX (s:={ s with heap:=hB.push (qcc "list" vs.toArray 0) }) hoL h64 (λh' hk=>hyp h' λb o q=>hk b o (keep b o q).1 (keep b o q).2) hS λout a1 a2=>⟨_,rfl,?_⟩) (qgD _)))
 refine qab ⟨_,rfl,?_⟩
 have:=h out a1 a2
 unfold qlX at this
 rw[hh]at this
 exact this
end
def mQ (h:Heap):Value->Option Value
 |.ref a=>match h.get? a with
  |some o=>match o.data with
   |.seq its _=>its[0]?
   |_=>none
  |none=>none
 |_=>none
theorem TuI.fst {h:Heap}{v:Value}{l:List Int} (t:TuI h v l):mQ h v=none\/∃ n t,mQ h v=some (.int n t):=by
 obtain⟨a,its,rfl,⟨o,ho,hc,n,hd⟩,hi⟩:=t
 simp only[mQ,ho,hd]
 by_cases hz:0<its.size
 ·obtain⟨t,e⟩:=jU hi 0 (by simpa using hz)
  exact .inr ⟨_,t,by rw[qas hz];rw[qem]at e;rw[e]⟩
 ·exact .inl (qba (by lia))
section
variable {prog:qaY}{w:World}{A:qa9}{E:Value->qaj->Prop}{s:qaj}
theorem yb {v:Value}{l:List Int} (t:TuI s.heap v l) {Q:Value->qaj->Prop} (h:Q (.type "tuple") s):wpAny (model prog w) A (typeOf v) Q E s:=by
 obtain⟨a,its,rfl,⟨o,ho,hc,n,hd⟩,hi⟩:=t
 refine Looks.here (show Looks (model prog w) s.heap (typeOf (.ref a)) o.cls from (Looks.ld ho).andThen .now) ?_
 rw[hc];exact h
theorem yZ {v:Value}{l:List Int} (t:TuI s.heap v l) {Q:Option Value->qaj->Prop} (h:Q (mQ s.heap v) s):wpAny (model prog w) A (firstOfTuple' v) Q E s:=by
 rw[kas_first_eq]
 refine qaa (yb t ?_)
 obtain⟨a,its,rfl,⟨o,ho,hc,n,hd⟩,hi⟩:=t
 rw[if_neg (by simp)]
 simp only[mQ,ho,hd]at h
 exact qaa (listItems_at ho hd (qab h))
theorem iF:∀ {vs:List Value}{Q:List (Option Value)->qaj->Prop},(∀ v∈vs,∃ l,TuI s.heap v l)->Q (vs.map (mQ s.heap)) s->wpAny (model prog w) A (vs.mapM firstOfTuple') Q E s
 |[],_,_,h=>by rw[List.mapM_nil];exact qab h
 |v::vs,Q,t,h=>by
  rw[List.mapM_cons]
  obtain⟨l,tv⟩:=t v qak
  refine qaa (yZ tv (qaa (iF (Q:=λbs s'=>wpAny (model prog w) A (pure (mQ s.heap v::bs)) Q E s') (λu hu=>t u (qah _ hu)) (qab h))))
theorem xm {x y:Value}{l m:List Int} (hx:TuI s.heap x l) (hy:TuI s.heap y m) {Q:Bool->qaj->Prop} (h:Q (OI.blt (tuI s.heap x) (tuI s.heap y)) s):Q (bU l m) s:=by
 have h':Q (bU (tuI s.heap x) (tuI s.heap y)) s:=h
 rw[hx.is,hy.is]at h';exact h'
theorem p5 {vs:List Value} (t:∀ v∈vs,∃ l,TuI s.heap v l) (hu:A.units<cLine):∃ κ,(2<=vs.length->∀ (Q':qdJ->qaj->Prop) E',Q' κ s->wpAny (model prog w) A (qko vs.toArray) Q' E' s)/\
  Cm prog w A s κ OI (λp=>tuI s.heap p.1) (λp=>∃ l,TuI s.heap p.1 l):=by
 by_cases c1:(vs.map (mQ s.heap)).toArray.all (·.isSome)=true
 ·refine⟨tuples' true,λh2 Q' E' hq=>?_,λx y ⟨l,hx⟩ ⟨m,hy⟩ Q E h=>hx.tups hy (xm hx hy h)⟩
  rw[qkc,qd9,map_eq_pure_bind]
  refine qaa (qaa (iF t (qab ?_)))
  rw[if_pos c1]
  refine qaa (qdG ?_)
  have hf:∀ v∈(vs.map (mQ s.heap)).filterMap id,∃ n t,v=.int n t:=λv hv=>by
   obtain⟨o,ho,e⟩:=qgq.mp hv
   obtain⟨u,hu,rfl⟩:=qaz.mp ho
   obtain⟨l,tu⟩:=t u hu
   rcases tu.fst with q|⟨n,t',q⟩
   ·rw[q]at e;cases e
   ·rw[q]at e;exact⟨n,t',(qaS e).symm⟩
  have hl:∃ f fr,(vs.map (mQ s.heap)).filterMap id=f::fr:=by
   match vs,h2,c1 with
   |v::vs,_,c1=>
    simp only[qal,qg2,qbQ,qbb]at c1
    obtain⟨u,hu⟩:=qcV.mp c1.1
    exact⟨u,(vs.map (mQ s.heap)).filterMap id,by rw[qal,qc4,hu];rfl⟩
  obtain⟨f,fr,e⟩:=hl
  have e2:(vs.map (mQ s.heap)).toArray.filterMap id=(f::fr).toArray:=by rw[<-e];simp
  rw[e2,ql3,qd9,map_eq_pure_bind]
  refine qaa (qaa (qaa (kas_mapM (r:=.type "int") _ (λv hv Q'' hq'=>?_) (qab ?_))))
  ·rw[<-e]at hv
   obtain⟨n,t',rfl⟩:=hf v hv
   exact qab hq'
  ·have h0:(qfy (λ_=>Value.type "int") (f::fr)).toArray[0]?=some (.type "int"):=by simp
   rw[h0]
   have hall:((qfy (λ_=>Value.type "int") (f::fr)).toArray.all λx=>x==.type "int")=true:=by
    simp only[qg2,qiD,qaT];intro _ _;rfl
   simp only[hall,if_true]
   exact qab (qab hq)
 ·by_cases c2:((vs.map (mQ s.heap)).toArray[0]?.bind id).isSome=true
  ·refine⟨general',λh2 Q' E' hq=>?_,λx y ⟨l,hx⟩ ⟨m,hy⟩ Q E h=>hx.one hy hu (xm hx hy h) false⟩
   rw[qkc,qd9,map_eq_pure_bind]
   refine qaa (qaa (iF t (qab ?_)))
   rw[if_neg c1,if_pos c2]
   exact qab hq
  ·refine⟨qjf,λh2 Q' E' hq=>?_,λx y ⟨l,hx⟩ ⟨m,hy⟩ Q E h=>hx.one hy hu (xm hx hy h) true⟩
   rw[qkc,qd9,map_eq_pure_bind]
   refine qaa (qaa (iF t (qab ?_)))
   rw[if_neg c1,if_neg c2,ql3,qd9,map_eq_pure_bind]
   refine qaa (qaa (qaa (kas_mapM (r:=.type "tuple") _ (λv hv Q'' hq'=>?_) (qab ?_))))
   ·obtain⟨l,tv⟩:=t v hv
    exact yb tv hq'
   ·obtain⟨v,vs,rfl⟩:∃ v r,vs=v::r:=by
     match vs,h2 with
     |v::r,_=>exact⟨v,r,rfl⟩
    have h0:(qfy (λ_=>Value.type "tuple") (v::vs)).toArray[0]?=some (.type "tuple"):=by simp
    rw[h0]
    have hall:((qfy (λ_=>Value.type "tuple") (v::vs)).toArray.all λx=>x==.type "tuple")=true:=by
     simp only[qg2,qiD,qaT];intro _ _;rfl
    simp only[hall,if_true]
    exact qab (qab hq)
theorem vm {vs:List Value}{ns:List Int} (t:qdC vs ns):(2<=vs.length->∀ (Q':qdJ->qaj->Prop) E',Q' qjf s->wpAny (model prog w) A (qko vs.toArray) Q' E' s)/\
  Cm prog w A s qjf OI (λp=>[bu p.1]) (λp=>∃ n t,p.1=.int n t):=by
 refine⟨λh2 Q' E' hq=>?_,λx y ⟨n,t,hx⟩ ⟨m,u,hy⟩ Q E h=>?_⟩
 ·match vs,h2,t with
  |v1::v2::r,_,t=>rw[keyKind_ints t];exact qab hq
 ·rw[keyLt'_oneType,hx,hy]
  refine oneLt_int ?_
  have e:OI.blt [bu x.1] [bu y.1]=decide (n<m):=by
   rw[hx,hy]
   show (if n=m then bU [] [] else decide (n<m))=_
   by_cases q:n=m
   ·subst q;simp[bU]
   ·rw[if_neg q]
  rw[e]at h;exact h
end
def wL (x:List Int):List (List Int)->List (List Int)
 |[]=>[x]
 |y::ys=>if bU y x=true then y::wL x ys else x::y::ys
def aZ:List (List Int)->List (List Int)
 |[]=>[]
 |x::xs=>wL x (aZ xs)
theorem mS (x:List Int):∀ ys,(wL x ys).Perm (x::ys)
 |[]=>qcb _
 |y::ys=>by
  unfold wL
  split
  ·exact (List.Perm.cons y (mS x ys)).trans (List.Perm.swap x y ys)
  ·exact qcb _
theorem aS:∀ xs,(aZ xs).Perm xs
 |[]=>qcb _
 |x::xs=>(mS x _).trans (List.Perm.cons x (aS xs))
def leL (a b:List Int):Prop:=bU b a=false
theorem zi {a b c:List Int} (h:leL a b) (h':leL b c):leL a c:=qbG (O:=OI) h h'
theorem A7 {a b:List Int} (h:leL a b) (h':leL b a):a=b:=jk a b h' h
theorem nq (x:List Int):∀ {ys:List (List Int)},ys.Pairwise leL->(wL x ys).Pairwise leL
 |[],_=>by simp[wL]
 |y::ys,h=>by
  unfold wL
  split
  ·rename_i hxy
   refine qbw.mpr ⟨λz hz=>?_,nq x (qbw.mp h).2⟩
   rcases qay.mp ((mS x ys).mem_iff.mp hz) with rfl|hz
   ·exact qjt (O:=OI) hxy
   ·exact (qbw.mp h).1 z hz
  ·rename_i hxy
   rw[qe7]at hxy
   refine qbw.mpr ⟨λz hz=>?_,h⟩
   rcases qay.mp hz with rfl|hz
   ·exact hxy
   ·exact zi hxy ((qbw.mp h).1 z hz)
theorem bT:∀ xs,(aZ xs).Pairwise leL
 |[]=>List.Pairwise.nil
 |x::xs=>nq x (bT xs)
theorem dc {xs ys:List (List Int)} (p:xs.Perm ys) (h1:xs.Pairwise leL) (h2:ys.Pairwise leL):xs=ys:=
 qey (λa b _ _ h1 h2=>A7 h1 h2) h1 h2 p
def kS:List D->Option (List (List Int))
 |[]=>some []
 |.tup l::ds=>(ba l).bind λns=>(kS ds).map λr=>ns::r
 |_=>none
def ai (l:List Int):D:=.tup (l.map D.int)
theorem jL:∀ {ds:List D}{ls:List (List Int)},kS ds=some ls->ds=ls.map ai
 |[],_,h=>by cases h;rfl
 |.tup l::ds,_,h=>by
  simp only[kS,qac,qad]at h
  obtain⟨ns,e1,r,e2,rfl⟩:=h
  rw[jL e2,dL e1];rfl
 |.non::_,_,h=>by cases h
 |.bl _::_,_,h=>by cases h
 |.int _::_,_,h=>by cases h
 |.str _::_,_,h=>by cases h
 |.ty _::_,_,h=>by cases h
 |.dct::_,_,h=>by cases h
 |.scr _::_,_,h=>by cases h
 |.lst _::_,_,h=>by cases h
theorem kJ:∀ (ls:List (List Int)),kS (ls.map ai)=some ls
 |[]=>rfl
 |l::ls=>by
  have:ba (l.map D.int)=some l:=by
   induction l with
   |nil=>rfl
   |cons a l ih=>simp[ba,ih]
  simp only[qal,ai,kS,this,qaf]
  rw[show qfy ai ls=qfy ai ls from rfl,kJ ls];rfl
def oO (ds:List D):Option (List D):=match ba ds with
 |some ns=>some ((oK ns).map D.int)
 |none=>(kS ds).map λls=>(aZ ls).map ai
def jq (st:Sto):List W->Option (List D)
 |[w]=>(lsD st w).bind λds=>if ds.length<=64 then oO ds else none
 |_=>none
section
variable {K:qai}{X:Cx}{pins:List (Addr×Obj)}{σ:St}{H:Hp}{s:qaj}{φ:List Addr}
def toV:Value->V
 |.ref a=>.ref a
 |_=>.non
theorem DA {l:List Int}{v:V}{u:Value} (I:Inv X pins σ H s) (r:Rl X.K H φ (ai l) v) (q:aW v u):TuI s.heap u l/\v=toV u/\aW (toV u) u:=by
 obtain⟨a,vs,rfl,h1,h2⟩:=r
 obtain⟨its,rv,p,_⟩:=I.tuple (SqT.of h1)
 have e:=h2.ints
 subst e
 have e:u=.ref a:=q
 subst e
 exact⟨⟨a,its.toArray,rfl,p,by simpa using kQ rv⟩,rfl,rfl⟩
theorem lM (I:Inv X pins σ H s):∀ {ls:List (List Int)}{vs:List V}{us:List Value},Rls X.K H φ (ls.map ai) vs->aP vs us->
  us.map (tuI s.heap)=ls/\∀ u∈us,TuI s.heap u (tuI s.heap u)/\Rl X.K H φ (ai (tuI s.heap u)) (toV u)/\aW (toV u) u
 |[],_,us,h,q=>by cases h;cases q;exact⟨rfl,λu hu=>by cases hu⟩
 |l::ls,_,us,h,q=>by
  obtain⟨v,r,rfl,h1,h2⟩:=h
  cases q with
  |cons q1 q2=>
   rename_i u us
   obtain⟨t,e,e'⟩:=DA I h1 q1
   obtain⟨i1,i2⟩:=lM I h2 q2
   refine⟨by rw[qal,i1,t.is],λx hx=>?_⟩
   rcases qay.mp hx with rfl|hx
   ·rw[t.is,<-e];exact⟨t,h1,q1⟩
   ·exact i2 x hx
theorem lC:∀ {us:List Value},(∀ u∈us,TuI s.heap u (tuI s.heap u)/\Rl K H φ (ai (tuI s.heap u)) (toV u)/\aW (toV u) u)->Rls K H φ (us.map λu=>ai (tuI s.heap u)) (us.map toV)/\aP (us.map toV) us
 |[],_=>⟨rfl,.nil⟩
 |u::us,h=>by
  have h1:=h u qak
  have h2:=lC λx hx=>h x (qah _ hx)
  exact⟨⟨_,_,rfl,h1.2.1,h2.1⟩,.cons h1.2.2 h2.2⟩
theorem jK:∀ {us:List Value}{l:List Int},qdC us l->∀ u∈us,∃ n t,u=.int n t
 |_,_,.nil,u,hu=>by cases hu
 |_,_,.cons n t h,u,hu=>by
  rcases qay.mp hu with rfl|hu
  ·exact⟨n,t,rfl⟩
  ·exact jK h u hu
theorem ms:∀ {us:List Value},(∀ u∈us,∃ n t,u=.int n t)->qdC us (us.map bu)
 |[],_=>.nil
 |u::us,h=>by
  obtain⟨n,t,rfl⟩:=h u qak
  exact .cons n t (ms λx hx=>h x (qah _ hx))
theorem vf {k:Nat} (hr:cX k X.A) (hK:X.K=K:=by rfl):DY K X (.builtin "sorted") jq:=by
 subst hK
 refine⟨λst ws d h=>?_⟩
 unfold jq at h
 split at h
 next w=>
  simp only[qac]at h
  obtain⟨ds,e1,h⟩:=h
  split at h
  ·rename_i hl
   intro pins s σ H xs us Q I rv q
   obtain⟨φ,S,⟨v,r,rfl,r1,rfl⟩,q⟩:=q
   obtain⟨a,vs,rfl,h1,h2⟩:=mX S r1 e1
   obtain⟨u,rfl,ru⟩:=lO rv
   cases ru
   obtain⟨its,rv',pl,hz⟩:=I.list (.inl h1)
   have hlen:its.length<=64:=by
    have:=rv'.length
    have:=h2.length
    lia
   have hun:X.A.in1.in1.units<cLine:=by
    have:=hr.un
    show X.A.units+1+1<cLine
    lia
   have hn:H (s.heap.objs.size+1)=none:=I.hok.fresh (qc9 _)
   have lay:∀ (out:List Value) (vs':List V),aP vs' out->out.length<=64->Inv X pins σ (upd H (s.heap.objs.size+1) (.lst vs')) { s with heap:=qlX s.heap its out.toArray }:=λout vs' hv ho=>by
    obtain⟨ep,he⟩:=sortedAll_at s.heap its out.toArray
    refine I.laid (t':=s.toks) (a:=s.heap.objs.size+1) (o:=.lst vs') (λb o q=>sortedAll_old q) (qc9 _) ⟨?_,out,ep,hv,by simpa [qcc] using he⟩
    rw[hv.length];exact iY (by lia)
   unfold oO at h
   cases hi:ba ds with
   |some ns=>
    rw[hi]at h
    cases h
    cases dL hi
    cases h2.ints
    have hI:=kQ rv'
    refine pF (O:=OI) (rk:=λp=>[bu p.1]) (S:=λp=>∃ n t,p.1=.int n t) pl.isList hlen (λh' _=>⟨qjf,vm (s:={ s with heap:=h' }) hI⟩) (λv hv=>jK hI v hv) λout a1 a2=>?_
    have ho:∀ u∈out,∃ n t,u=.int n t:=λu hu=>jK hI u (a1.mem_iff.mp hu)
    have hp:(out.map bu).Perm ns:=by
     have:=a1.map bu
     rw[mk hI]at this;exact this
    have hs:(out.map bu).Pairwise (·<=·):=by
     rw[qci]
     refine a2.imp λ{x y} q=>?_
     have q':bU [bu y] [bu x]=false:=q
     by_cases e:bu y=bu x
     ·lia
     ·have:bU [bu y] [bu x]=decide (bu y<bu x):=by show (if _ then _ else _)=_;rw[if_neg e]
      rw[this,decide_eq_false_iff_not]at q';lia
    have e:out.map bu=oK ns:=nz (hp.trans (nk ns).symm) hs (kn ns)
    have hv:=iO (ms ho)
    rw[e]at hv
    exact⟨.ref _,_,lay out _ hv (by rw[a1.length_eq];exact hlen),rfl,q _ _ H (bL.refl H) hn (Rls.of_ints _)⟩
   |none=>
    rw[hi]at h
    obtain⟨ls,hls,rfl⟩:=qad.mp h
    cases jL hls
    obtain⟨m1,m2⟩:=lM I h2 rv'
    refine pF (O:=OI) (rk:=λp=>tuI s.heap p.1) (S:=λp=>∃ l,TuI s.heap p.1 l) pl.isList hlen (λh' hk=>?_) (λv hv=>⟨_,(m2 v hv).1⟩) λout a1 a2=>?_
    ·obtain⟨κ,k1,k2⟩:=p5 (prog:=X.prog) (w:=X.w) (s:={ s with heap:=h' }) (vs:=its) (λv hv=>⟨_,(m2 v hv).1.fit hk⟩) hun
     refine⟨κ,k1,λx y ⟨l,hx⟩ ⟨m,hy⟩ Q E hq=>k2 x y ⟨l,hx.fit hk⟩ ⟨m,hy.fit hk⟩ Q E ?_⟩
     have hx':=hx.fit hk
     have hy':=hy.fit hk
     have hq':Q (bU (tuI s.heap x.1) (tuI s.heap y.1)) { s with heap:=h' }:=hq
     show Q (bU (tuI h' x.1) (tuI h' y.1)) { s with heap:=h' }
     rw[hx'.is,hy'.is]
     rw[hx.is,hy.is]at hq'
     exact hq'
    ·have ho:=λu hu=>m2 u (a1.mem_iff.mp hu)
     obtain⟨b1,b2⟩:=lC (K:=X.K) (H:=H) (φ:=φ) ho
     have hp:(out.map (tuI s.heap)).Perm ls:=by
      have:=a1.map (tuI s.heap)
      rw[m1]at this;exact this
     have hs:(out.map (tuI s.heap)).Pairwise leL:=by
      rw[qci]
      exact a2.imp λ{x y} q=>q
     have e:out.map (tuI s.heap)=aZ ls:=dc (hp.trans (aS ls).symm) hs (bT ls)
     have e2:(out.map λu=>ai (tuI s.heap u))=(aZ ls).map ai:=by rw[<-e,qaJ];rfl
     rw[e2]at b1
     exact⟨.ref _,_,lay out _ b2 (by rw[a1.length_eq];exact hlen),rfl,q _ _ H (bL.refl H) hn b1⟩
  ·cases h
 next=>cases h
end
end L2
namespace L2
open PySem PySem.Spec PyProof.Rows
open PySem.AutoSeq1 (wpAny_loadPart')
section
variable {prog:qaY}{w:World}{A:qa9}{E:Value->qaj->Prop}{s:qaj}{k k2:Bool}
variable {z TI TO i1 i2 l1 l2:Addr}{n:Nat}{xs ys:Array Value}{a b:Value}
end
section
variable {prog:qaY}{w:World}{A:qa9}{E:Value->qaj->Prop}{s:qaj}{k k2:Bool}
end
section
variable {K:qai}{X:Cx}{a b:Expr}{pos:Pos}{af:Af}
end
end L2
namespace L2
open PySem PySem.Spec PyProof.Rows
section
variable {prog:qaY}{w:World}{A:qa9}{s:qaj}{I l S:Addr}{items:Array Value}{ns:List Int}{kw:List (Str×Value)}{R:ql9->qaj->Prop}
variable {E:Value->qaj->Prop}
end
section
variable {K:qai}{X:Cx}{e a b:Expr}{es:List Expr}{pos:Pos}{f fa fb:Ef}{af:Af}
end
section
variable {K:qai}{X:Cx}
def zG (_:Sto):W->W->Option D
 |.d (.int i),.d (.int j)=>some (.int (qez i j))
 |_,_=>none
theorem Ao:OpD K X (qbT .BitAnd) zG:=rJ (λ_=>rfl) (λ_ _=>rfl) λi j=>EU.imp λvx vy H Q h=>⟨i,j,h.1,h.2.1,h.2.2⟩
end
section
variable {K:qai}{X:Cx}{pos:Pos}{a b:Expr}{af:Af}
end
def iG (a b:Ef):Ef
 |env,st=>(a env st).bind λx=>(b env x.2).bind λy=>match x.1,y.1 with
 | .h n,.d (.int i)=>(match y.2[n]? with
  |some (.n ws)=>(atI ws i).map λw=>(w,y.2)
  |_=>none)
 |_,_=>none
def xT (a:Af):Ef
 |env,st=>(a env st).bind λr=>if r.1.length<=1000 then some (.h r.2.length,r.2++[.n r.1]) else none
def lv (o i v:Ef):Sf
 |env,st=>(v env st).bind λrv=>(o env rv.2).bind λro=>(i env ro.2).bind λri=>match ro.1,ri.1,rv.1 with
 | .h n,.d (.int k),.d x=>(match ri.2[n]? with
  |some (.n ws)=>(ixN ws.length k).map λj=>.nx env (ri.2.set n (.n (ws.set j (.d x))))
  |_=>none)
 |_,_,_=>none
def B4 (ds:List D):List W->Option (D×List D)
 |[.d (.int i)]=>(ixN ds.length i).bind λk=>(ds[k]?).bind λd=>if cy d=true/\-(2^62)<=i/\i<2^62 then some (d,ds.eraseIdx k) else none
 |_=>none
section
variable {K:qai}{X:Cx}{pos:Pos}{e a b c:Expr}{es:List Expr}{f fa fb:Ef}{af:Af}
theorem Rws.get {H:Hp}{φ:List Addr}:∀ {ds:List W}{vs:List V},Rws K H φ ds vs->∀ {i:Nat}{d:W},ds[i]?=some d->∃ v,vs[i]?=some v/\Rw K H φ d v
 |[],_,h,i,d,e=>by simp at e
 |d::ds,_,h,i,e,q=>by
  obtain⟨v,r,rfl,h1,h2⟩:=h
  cases i with
  |zero=>simp at q;subst q;exact⟨v,rfl,h1⟩
  |succ i=>simpa using Rws.get h2 (i:=i) (d:=e) (by simpa using q)
theorem Rws.set {H:Hp}{φ:List Addr}:∀ {ds:List W}{vs:List V} (n:Nat) {d:W}{v:V},Rws K H φ ds vs->Rw K H φ d v->Rws K H φ (ds.set n d) (vs.set n v)
 |[],_,_,_,_,h,_=>by cases h;exact rfl
 |e::ds,_,0,d,v,h,hd=>by
  obtain⟨u,r,rfl,h1,h2⟩:=h
  exact⟨v,r,rfl,hd,h2⟩
 |e::ds,_,n+1,d,v,h,hd=>by
  obtain⟨u,r,rfl,h1,h2⟩:=h
  exact⟨u,_,rfl,h1,Rws.set n h2 hd⟩
theorem Rws.mem {H:Hp}{φ:List Addr}:∀ {ds:List W}{vs:List V},Rws K H φ ds vs->∀ {m:Nat},W.h m∈ds->m<φ.length
 |[],_,_,m,hm=>nomatch hm
 |d::ds,_,h,m,hm=>by
  obtain⟨v,r,rfl,h1,h2⟩:=h
  rcases qay.mp hm with z|z
  ·subst z
   obtain⟨a,e,_⟩:=h1
   exact (qax.mp e).1
  ·exact Rws.mem h2 z
theorem Sr.atn {H:Hp}{φ:List Addr}{st:Sto} (S:Sr K H φ st) {n:Nat}{p:Addr}{ws:List W} (e1:φ[n]?=some p) (e2:st[n]?=some (.n ws)):∃ vs,H p=some (.lst vs)/\Rws K H φ ws vs/\∀ m,W.h m∈ws->m<n:=S.at_ n p _ e1 e2
theorem Di {H:Hp}{φ:List Addr}{ds:List W}{vs:List V}{i:Int}{d:W} (r:Rws K H φ ds vs) (e:atI ds i=some d):∃ v,atI vs i=some v/\Rw K H φ d v:=by
 unfold atI at e ⊢
 rw[<-r.length]
 obtain⟨j,e1,e2⟩:=qac.mp e
 obtain⟨v,ev,rv⟩:=r.get e2
 exact⟨v,by rw[e1];exact ev,rv⟩
theorem fz (ha:IE K X a fa) (hb:IE K X b fb) (hs:mE b=true:=by rfl) (hK:X.K=K:=by rfl):IE K X (.Subscript a b pos) (iG fa fb):=by
 subst hK
 refine⟨λenv st r hr=>?_⟩
 simp only[iG,qac]at hr
 obtain⟨⟨x,s1⟩,hx,⟨y,s2⟩,hy,hr⟩:=hr
 match x,y,hr with
 |.h n,.d (.int i),hr=>
  dsimp only at hr
  split at hr
  ·rename_i ws hws
   obtain⟨w,hw,rfl⟩:=qad.mp hr
   refine (D4 wM (ha.run _ _ _ hx) (hb.run _ _ _ hy) (uF hs)).imp ?_
   rintro σ H Q ⟨φ,hE,hS,q⟩
   refine⟨φ,hE,hS,λv H1 φ1 f1 S1 w1=>⟨φ1,hE.fw hS f1,S1,λu H2 φ2 f2 S2 w2=>?_⟩⟩
   obtain⟨p,ep,rfl⟩:=w1.fw S1 f2
   obtain⟨vs,hv,rl,_⟩:=S2.atn ep hws
   obtain⟨z,ez,rz⟩:=Di rl hw
   exact .inl ⟨p,vs,i,z,rfl,w2,SqL.of hv,ez,q z H2 φ2 (f1.trans f2) S2 rz⟩
  ·cases hr
theorem Ct (h:IA K X es af):IE K X (.List es pos) (xT af):=by
 refine⟨λenv st r hr=>?_⟩
 simp only[xT,qac]at hr
 obtain⟨y,hy,hr⟩:=hr
 split at hr
 ·cases hr
  rename_i hl
  refine (zR (h.run _ _ _ hy)).imp ?_
  rintro σ H Q ⟨φ,hE,hS,q⟩
  refine⟨φ,hE,hS,λvs H1 φ1 f1 s1 w1=>?_⟩
  refine⟨by rw[<-w1.length];exact iY hl,λp hp=>?_⟩
  exact q _ _ (φ1++[p]) (f1.trans (Fw.more hp)) (s1.moreC hp ⟨vs,bj,w1.fw s1 (Fw.more hp),λm hm=>w1.mem hm⟩) ⟨p,by rw[<-s1.len];simp,rfl⟩
 ·cases hr
theorem zC {tpos:Pos} (ho:IE K X a fa) (hi:IE K X b fb) (hv:IE K X e f) (hb:mE b=true:=by rfl) (hs:qfr [.Subscript a b tpos] e pos.line X.env=pure false:=by rfl) (hw:qfs [.Subscript a b tpos] e X.env=pure none:=by rfl) :
  IS K X (.Assign [.Subscript a b tpos] e pos) (lv fa fb f):=by
 refine⟨λenv st r hr=>?_⟩
 simp only[lv,qac]at hr
 obtain⟨⟨rv,s1⟩,ev,⟨ro,s2⟩,eo,⟨ri,s3⟩,ei,hr⟩:=hr
 match ro,ri,rv,hr with
 |.h n,.d (.int k),.d x,hr=>
  dsimp only at hr
  split at hr
  ·rename_i ws hws
   obtain⟨j,ej,rfl⟩:=qad.mp hr
   refine (wE (hv.run _ _ _ ev) (AQ (ho.run _ _ _ eo) (hi.run _ _ _ ei) uc (xq hb)) hs hw (tU rfl)).imp ?_
   rintro D σ H ⟨φ,hE,hS,q⟩
   refine⟨φ,hE,hS,λv H1 φ1 f1 s1 w1=>⟨φ1,hE.fw hS f1,s1,λo H2 φ2 f2 s2 w2=>⟨φ2,(hE.fw hS f1).fw s1 f2,s2,λi H3 φ3 f3 s3 w3=>?_⟩⟩⟩
   have e3:=((hE.fw hS f1).fw s1 f2).fw s2 f3
   have w1':=(w1.fw s1 f2).fw s2 f3
   obtain⟨p,ep,rfl⟩:=w2.fw s2 f3
   obtain⟨vs,hp,rl,bd⟩:=s3.atn ep hws
   have w3':i=.int k:=w3
   subst w3'
   obtain⟨f4,s4⟩:=s3.putC (o:=.lst (vs.set j v)) (c:=.n (ws.set j (.d x))) ep λf=>⟨_,bj,(Rws.set j rl w1').fw s3 f,λm hm=>by
    rcases List.mem_or_eq_of_mem_set hm with z|z
    ·exact bd m z
    ·cases z⟩
   refine⟨p,vs,k,j,rfl,rfl,hp,by rw[<-rl.length];exact ej,?_⟩
   exact q _ _ φ3 (((f1.trans f2).trans f3).trans f4) (e3.fw s3 f4) s4
  ·cases hr
theorem Rls.erase {H:Hp}{φ:List Addr}:∀ {ds:List D}{vs:List V} (n:Nat),Rls K H φ ds vs->Rls K H φ (ds.eraseIdx n) (vs.eraseIdx n)
 |[],_,_,h=>by cases h;exact rfl
 |d::ds,_,0,h=>by
  obtain⟨v,r,rfl,h1,h2⟩:=h
  exact h2
 |d::ds,_,n+1,h=>by
  obtain⟨v,r,rfl,h1,h2⟩:=h
  exact⟨v,_,rfl,h1,Rls.erase n h2⟩
theorem ED {apos:Pos} (ho:IE K X a fa) (ha:IA K X (e::es) af) (hbase:qeE a "pop" X.env (eval a X.env)=eval a X.env:=by rfl)
  (hall:(e::es).all aU=true:=by rfl) (hfl30:(e::es).length<30:=by decide) (hline:(apos.endLine==pos.line)=true:=by rfl) (hK:X.K=K:=by rfl) :
  IE K X (.Call (.Attribute a "pop" apos) (e::es) [] pos) (gL B4 fa af):=by
 refine wa PySem.F.slot_list_pop PySem.F.type_list_pop BP (λH φ st n ad ds vs ws us y Q S ea eds hv rl rw hy q=>?_) (λds ws y h=>?_) ho ha hbase hall hfl30 hline hK
 ·match ws,hy with
  |[.d (.int i)],hy=>
   simp only[B4,qac]at hy
   obtain⟨k,hk,d,hd,hy⟩:=hy
   split at hy
   ·rename_i hl
    cases hy
    obtain⟨v,r,rfl,r1,rfl⟩:=rw
    obtain⟨x,ex,rx⟩:=rl.get hd
    refine⟨ad,vs,i,k,x,rfl,by rw[show v=.int i from r1],hv,by lia,by lia,by rw[<-rl.length];exact (se hk).1,ex,q _ _ rx (rl.erase k) λb z=>?_⟩
    obtain⟨z1,z2⟩:=eU hl.1 rx
    rw[z]at z2
    cases z2
   ·cases hy
 ·match ws,h with
  |[.d (.int i)],h=>
   simp only[B4,qac]at h
   obtain⟨k,hk,d,hd,h⟩:=h
   split at h
   ·rename_i hl
    cases h;exact hl.1
   ·cases h
end
def aA (m:Nat):List Nat:=(qaN 6).filter λk=>m.testBit k
def FB (m k:Nat):Bool:=((aA m).toArray[qaD (aA m).toArray k]?==some k)==m.testBit k
theorem zJ:∀ m:Fin 64,∀ k:Fin 6,FB m.1 k.1=true:=by decide +kernel
theorem wn {m k:Nat} (hm:m<64) (hk:k<6):((aA m).toArray[qaD (aA m).toArray k]?==some k)=m.testBit k:=eq_of_beq (zJ ⟨m,hm⟩ ⟨k,hk⟩)
def BW (m k:Nat):Bool:=m.testBit k||(aA (m|||1 <<< k)==(aA m).take (qaD (aA m).toArray k)++k::(aA m).drop (qaD (aA m).toArray k))
theorem yK:∀ m:Fin 64,∀ k:Fin 6,BW m.1 k.1=true:=by decide +kernel
theorem wV {m k:Nat} (hm:m<64) (hk:k<6) (hb:m.testBit k=false):aA (m|||1 <<< k)=(aA m).take (qaD (aA m).toArray k)++k::(aA m).drop (qaD (aA m).toArray k):=by
 have:=yK ⟨m,hm⟩ ⟨k,hk⟩
 unfold BW at this
 rw[show (⟨m,hm⟩:Fin 64).1=m from rfl,show (⟨k,hk⟩:Fin 6).1=k from rfl,hb,qgt]at this
 exact eq_of_beq this
def AO (m k:Nat):Bool:=!m.testBit k||((aA m)[qaD (aA m).toArray k]?==some k&&(aA (m^^^1 <<< k)==(aA m).take (qaD (aA m).toArray k)++(aA m).drop (qaD (aA m).toArray k+1)))
theorem zh:∀ m:Fin 64,∀ k:Fin 6,AO m.1 k.1=true:=by decide +kernel
theorem xk {m k:Nat} (hm:m<64) (hk:k<6) (hb:m.testBit k=true):(aA m)[qaD (aA m).toArray k]?=some k/\aA (m^^^1 <<< k)=(aA m).take (qaD (aA m).toArray k)++(aA m).drop (qaD (aA m).toArray k+1):=by
 have:=zh ⟨m,hm⟩ ⟨k,hk⟩
 unfold AO at this
 rw[show (⟨m,hm⟩:Fin 64).1=m from rfl,show (⟨k,hk⟩:Fin 6).1=k from rfl,hb,qbr,qgt,qbb]at this
 exact⟨eq_of_beq this.1,eq_of_beq this.2⟩
def kg:List Nat:=[7,15,31]
def Eu (m mask:Nat):Bool:=qdK mask 0 0 true true ((aA m).map λ(k:Nat)=>(k:Int)).toArray==some (⟨mask,(aA m).toArray,#[],0,true,0,true⟩,qet (aA m).length)
theorem zI:∀ m:Fin 64,(kg.all λq=>Eu m.1 q)=true:=by decide +kernel
theorem BG (mask f mv:Nat) (l p:Bool) (hs:Array Int):qdK mask f mv l p hs=(qdK mask 0 0 true true hs).map λx=>({ x.1 with finger:=f,led:=l,moves:=mv,plain:=p },x.2):=by
 unfold qdK
 cases qfS mask hs<;>rfl
theorem xv {m mask:Nat} (hm:m<64) (hq:mask∈kg) (f mv:Nat) (l p:Bool):qdK mask f mv l p ((aA m).map λ(k:Nat)=>(k:Int)).toArray=some (⟨mask,(aA m).toArray,#[],f,l,mv,p⟩,qet (aA m).length):=by
 have:=qaT.mp (zI ⟨m,hm⟩) mask hq
 rw[BG,eq_of_beq this];rfl
def yx (m i:Nat):Bool:=i<(aA m).length.succ&&!(qaD (aA m).toArray (if i=0 then 0 else (aA m).getD (i - 1) 0+1)==i) 
theorem wI:∀ m:Fin 64,∀ i:Fin 7,yx m.1 i.1=false:=by decide +kernel
def qh (m i:Nat):Nat:=if i=0 then 0 else (aA m).getD (i - 1) 0+1
theorem wy:∀ m:Fin 64,(aA m.1).length<=6:=by decide +kernel
theorem iT {m:Nat} (hm:m<64):(aA m).length<=6:=wy ⟨m,hm⟩
theorem CT {m i:Nat} (hm:m<64) (hi:i<=(aA m).length):qaD (aA m).toArray (qh m i)=i:=by
 have hl:=iT hm
 have:=wI ⟨m,hm⟩ ⟨i,by lia⟩
 unfold yx at this
 have h1:decide (i<(aA m).length.succ)=true:=decide_eq_true (by lia)
 rw[show (⟨m,hm⟩:Fin 64).1=m from rfl,show ((⟨i,by lia⟩:Fin 7)).1=i from rfl,h1,Bool.true_and,qgs]at this
 exact eq_of_beq this
def xw (m d:Nat):Bool:=m&&&d != 0||decide ((aA m).length+(aA d).length<=6)
theorem wf:∀ m:Fin 64,∀ d:Fin 64,xw m.1 d.1=true:=by decide +kernel
theorem Da {m d:Nat} (hm:m<64) (hd:d<64) (h:m&&&d=0):(aA m).length+(aA d).length<=6:=by
 have:=wf ⟨m,hm⟩ ⟨d,hd⟩
 unfold xw at this
 rw[show (⟨m,hm⟩:Fin 64).1=m from rfl,show (⟨d,hd⟩:Fin 64).1=d from rfl,h]at this
 simpa using this
theorem qi {m k:Nat}:k∈aA m↔k<6/\m.testBit k=true:=by
 unfold aA;rw[qdn,qbz]
theorem xG {m k:Nat} (h:k∈aA m):k<6:=(qi.mp h).1
theorem t0 {m k:Nat} (hm:m < 64) (hk:k < 6):m ||| 1 <<< k < 64:=Nat.or_lt_two_pow (n:=6) hm (by
 rw[qgN];exact qfJ (by decide) hk)
theorem uU {m k:Nat} (hm:m < 64) (hk:k < 6):m ^^^ 1 <<< k < 64:=Nat.xor_lt_two_pow (n:=6) hm (by
 rw[qgN];exact qfJ (by decide) hk)
theorem iJ {k j:Nat}:(1 <<< k).testBit j=decide (k=j):=by rw[qgN,Nat.testBit_two_pow]
def aY (m:Nat) (f:Nat->Tok):Array (Int×Value):=((aA m).map λ(k:Nat)=>((k:Int),Value.int k (f k))).toArray
theorem aY.size (m:Nat) (f:Nat->Tok):(aY m f).size=(aA m).length:=by simp[aY]
theorem aY.toList (m:Nat) (f:Nat->Tok):(aY m f).toList=(aA m).map λ(k:Nat)=>((k:Int),Value.int k (f k)):=by simp[aY]
theorem aY.hashes (m:Nat) (f:Nat->Tok):(aY m f).map (·.1)=((aA m).map λ(k:Nat)=>(k:Int)).toArray:=by
 simp[aY,qaJ,Function.comp_def]
structure fB (b:Bool) (t:qcj) (m d:Nat):Prop where
 msk:t.mask∈kg
 pl:t.place=(aA m).toArray
 du:t.dummies=(aA d).toArray
 led:t.led=!b
 plain:t.plain=true
section
variable {b:Bool}{t:qcj}{m d k:Nat}
theorem fB.fits (T:fB b t m d) (hm:m<64) (hd:d<64) (h:m&&&d=0) (f:Nat->Tok):t.fits (aY m f).size=true:=by
 have:=Da hm hd h
 have hk:=T.msk
 have h7:7<=t.mask:=by
  have hk:t.mask=7\/t.mask=15\/t.mask=31:=by simpa [kg] using hk
  lia
 simp only[qjB,qfC,T.pl,T.du,aY.size,qat,qbb,beq_iff_eq,decide_eq_true_eq,true_and]
 lia
theorem wl {k mask:Nat} (hk:k<6) (hq:mask∈kg):qbF (k:Int)%(mask+1)=k:=by
 have hq:mask=7\/mask=15\/mask=31:=by simpa [kg] using hq
 unfold qbF
 have e:((k:Int)%(2^64:Int)).toNat=k:=by lia
 rw[e]
 rcases hq with rfl|rfl|rfl<;>lia
theorem fB.slot (T:fB b t m d) (hm:m<64) (hd:d<64) (hk:k<6) (h1:m.testBit k=false) (h2:d.testBit k=false):t.slot k=.empty:=by
 unfold qhi qeX
 dsimp only
 rw[T.pl,T.du,wn hm hk,wn hd hk,h1,h2]
 rfl
theorem fB.free (T:fB b t m d) (hm:m<64) (hd:d<64) (hk:k<6) (h1:m.testBit k=false) (h2:d.testBit k=false):t.freeSlot (k:Int)=some (k,false):=by
 have e:t.probe (λ_=>(k:Int)+1) k (t.probeStart k)=some (.empty k none):=by
  unfold qjm
  have hf:∃ n,10*qcJ t.mask=n+1:=⟨10*qcJ t.mask - 1,by unfold qcJ;lia⟩
  obtain⟨n,hn⟩:=hf
  rw[hn]
  unfold qe9 SetTable.probeStart
  dsimp only
  rw[wl hk T.msk,T.slot hm hd hk h1 h2]
 unfold SetTable.freeSlot
 rw[e];rfl
theorem aY.ins (f:Nat->Tok) (tk:Tok) (hm:m<64) (hk:k<6) (h1:m.testBit k=false):qdh (aY m f) (qaD (aA m).toArray k) ((k:Int),Value.int k tk)=aY (m|||1 <<< k) (λj=>if j=k then tk else f j):=by
 apply qbg.mp
 rw[qcS,aY.toList,aY.toList,wV hm hk h1,qa5,qal,<-qh8,<-qkx]
 have hn:∀ j∈aA m,j≠k:=λj hj e=>by
  rw[e,qi]at hj
  rw[hj.2]at h1;cases h1
 congr 1
 ·exact qaP λj hj=>by rw[if_neg (hn j (qfE hj))]
 ·rw[if_pos rfl]
  congr 1
  exact qaP λj hj=>by rw[if_neg (hn j (qfF hj))]
theorem fB.put (T:fB b t m d) (hm:m<64) (hk:k<6) (h1:m.testBit k=false) (hd:d<64) (h2:d.testBit k=false):fB b (t.put k).1 (m|||1 <<< k) d/\(t.put k).2=qaD (aA m).toArray k:=by
 unfold qjR
 dsimp only
 have hh:qeX t.dummies k=false:=by unfold qeX;rw[T.du,wn hd hk,h2]
 rw[hh]
 refine⟨⟨T.msk,?_,T.du,T.led,T.plain⟩,by rw[T.pl]⟩
 apply qbg.mp
 show (qdh t.place (qaD t.place k) k).toList=_
 rw[qcS,T.pl,wV hm hk h1]
theorem xL (h:m&&&d=0) (h2:d.testBit k=false):(m|||1 <<< k)&&&d=0:=by
 apply qcv
 intro j
 have:=congrArg (λx=>x.testBit j) h
 simp only[qex,qcf]at this
 rw[qex,qco,iJ,qcf]
 by_cases e:k=j
 ·subst e;rw[h2,qhT]
 ·rw[decide_eq_false e,qeZ,this]
theorem fB.lay (T:fB b t m d) (hm:m<64) (hk:k<6) (h1:m.testBit k=false) (hd:d<64) (h2:d.testBit k=false) (h:m&&&d=0) (f:Nat->Tok) (tk:Tok) :
  layNew t (aY m f) k (.int k tk)=(aY (m|||1 <<< k) (λj=>if j=k then tk else f j),(t.put k).1,false,false):=by
 have T':=T.put hm hk h1 hd h2
 have hf:=T'.1.fits (t0 hm hk) hd (xL h h2) (λj=>if j=k then tk else f j)
 unfold layNew
 rw[T.free hm hd hk h1 h2]
 dsimp only
 rw[T'.2,aY.ins f tk hm hk h1]
 unfold SetTable.orStandIn
 rw[hf];rfl
theorem kF {n:Nat} (h:n<32):qbc n - 1∈kg/\qbc n<=32:=by
 have:∀ n:Fin 32,qbc n.1 - 1∈kg/\qbc n.1<=32:=by decide +kernel
 exact this ⟨n,h⟩
theorem zj (n:Nat):coversAll (qet n) n=true:=by
 unfold coversAll
 rw[qi8]
 exact List.isPerm_iff.mpr (qcb _)
theorem lc {α:Type} (es:Array α):(qet es.size).filterMap (es[·]?)=es:=by
 apply qbg.mp
 rw[qe8,qi8]
 exact filterMap_getElem?_range es
theorem fB.relaid (T:fB b t m d) (hm:m<64) {n:Nat} (hn:n<32):∃ t',fB b t' m 0/\t.relaid ((aA m).map λ(k:Nat)=>(k:Int)).toArray n=some (t',qet (aA m).length):=by
 unfold SetTable.relaid
 rw[xv hm (kF hn).1]
 refine⟨_,?_,rfl⟩
 exact⟨(kF hn).1,rfl,by simp[aA],T.led,T.plain⟩
theorem fB.relayAll (T:fB b t m d) (hm:m<64) (f:Nat->Tok) {n:Nat} (hn:n<32):∃ t',fB b t' m 0/\relayAll t (aY m f) n=(aY m f,t',false):=by
 obtain⟨t',T',e⟩:=T.relaid hm hn
 refine⟨t',T',?_⟩
 unfold PySem.relayAll
 rw[aY.hashes,e]
 dsimp only
 have h0:m&&&0=0:=qfx m
 rw[<-aY.size m f,zj,lc,T'.fits hm (by decide) h0 f]
 rfl
end
def byT (w:World):Bool:=w.params.followText "set-order"
def Cp (w:World) (o:Obj) (m d:Nat):Prop:=m<64/\d<64/\m&&&d=0/\o.ExactSet/\∃ f ep t,o.data=.set (aY m f) ep t/\fB (byT w) t m d
def bg (w:World) (h:Heap) (a:Addr) (m d:Nat):Prop:=∃ o,h.get? a=some o/\Cp w o m d
theorem wT:∀ k:_root_.Fin 6,ql7 ((k.1:Nat):Int)=(k.1:Int):=by decide +kernel
theorem sv {k:Nat} (hk:k<6):ql7 (k:Int)=k:=wT ⟨k,hk⟩
section
variable {prog:qaY}{w:World}{A:qa9}{E:Value->qaj->Prop}{s:qaj}{a:Addr}{m d k:Nat}
theorem bg.type (S:bg w s.heap a m d):s.TypeIs (.ref a) "set":=let ⟨o,ho,_,_,_,hx,_⟩:=S;⟨o,ho,hx.1⟩
theorem bg.at' {h h':Heap} (S:bg w h a m d) (e:∀ o,h.get? a=some o->h'.get? a=some o):bg w h' a m d:=let ⟨o,ho,r⟩:=S;⟨o,e o ho,r⟩
theorem xy (m:Nat) (f:Nat->Tok):ElemsOf (qd0 prog w) (aY m f).toList:=by
 intro e he
 rw[aY.toList]at he
 obtain⟨j,hj,rfl⟩:=qaz.mp he
 exact⟨⟨(j:Int),qhv _ _ _ _,(sv (xG hj)).symm⟩,rfl⟩
def EA (m k:Nat):Bool:=(aA m).findIdx? (λj=>j==k)==(if m.testBit k then some (qaD (aA m).toArray k) else none)
theorem yL:∀ m:_root_.Fin 64,∀ k:_root_.Fin 6,EA m.1 k.1=true:=by decide +kernel
theorem BU (hm:m<64) (hk:k<6) (f:Nat->Tok):(aY m f).toList.findIdx? (λe=>(qd0 prog w).is (k:Int) e.2)=(if m.testBit k then some (qaD (aA m).toArray k) else none):=by
 rw[<-eq_of_beq (yL ⟨m,hm⟩ ⟨k,hk⟩),aY.toList,List.findIdx?_map]
 congr 1
 funext j
 show (((j:Int))==(k:Int))=(j==k)
 by_cases e:j=k
 ·subst e;simp
 ·rw[beq_false_of_ne e,beq_false_of_ne (by lia)]
theorem oQ (hm:m<64) (f:Nat->Tok):(aY m f).size<scanBound:=by
 have:=iT hm
 rw[aY.size];unfold scanBound;lia
theorem gi {o:Obj}{es:Array (Int×Value)}{ep:Nat}{t t':qcj}{m' d':Nat}{f':Nat->Tok}{h:Heap} (ho:h.get? a=some o) (hx:o.ExactSet) (hd:o.data=.set es ep t) (h1:m'<64) (h2:d'<64) (h3:m'&&&d'=0) (T:fB (byT w) t' m' d') :
  ∃ o',(h.update a (qeV (aY m' f') t')).get? a=some o'/\o'.ExactSet/\o'.data=.set (aY m' f') (ep+1) t'/\bg w (h.update a (qeV (aY m' f') t')) a m' d':=by
 have hg:(h.update a (qeV (aY m' f') t')).get? a=some { o with data:=.set (aY m' f') (ep+1) t' }:=by
  have:=qbZ (qeV (aY m' f') t') ho (by rw[qjN _ t' hd];rfl)
  rw[qjN _ t' hd]at this;exact this
 exact⟨_,hg,hx,rfl,_,hg,h1,h2,h3,hx,f',ep+1,t',rfl,T⟩
theorem eP {m:Nat} (hm:m<64) (f:Nat->Tok):(aY m f).size<=qaO:=by
 have:=iT hm
 rw[aY.size,qbM];lia
theorem vG (h:m.testBit k=true):m|||1 <<< k=m:=by
 apply qcv
 intro j
 rw[qco,iJ]
 by_cases e:k=j
 ·subst e;rw[h];rfl
 ·rw[decide_eq_false e,qeZ]
theorem sO {tk:Tok}{Q:Bool->qaj->Prop} (S:bg w s.heap a m d) (hk:k<6) (hdk:m.testBit k=true\/d.testBit k=false)
  (h:∀ h' d' b,qbm a s.heap h'->bg w h' a (m|||1 <<< k) d'->(d'=d\/d'=0)->Q b { s with heap:=h' }) :
  wpAny (model prog w) A (qf6 a (.int k tk) (k:Int)) Q E s:=by
 obtain⟨o,ho,hm,hd,h0,hx,f,ep,t,hdat,T⟩:=id S
 have hf:=T.fits hm hd h0 f
 have hel:=xy (prog:=prog) (w:=w) m f
 unfold qf6 qmf
 refine qbk (qaa (qcF ho hdat hf ?_))
 dsimp only
 rw[byScan_of (knd:=qd0 prog w) rfl (oQ hm f) hel]
 simp only[↓reduceIte]
 unfold setAddByScan
 refine qaa ?_
 refine qaa (qdG ?_)
 have key:(qd0 prog w).is (k:Int) (.int k tk)=true:=qhv _ _ _ _
 have hh:(k:Int)=(qd0 prog w).hash (k:Int):=(sv hk).symm
 refine qaa ?_
 rw[show qlZ a (Value.int k tk) (k:Int) true (aY m f)=qlZ a (Value.int k tk) ((qd0 prog w).hash (k:Int)) true (aY m f) from by rw[<-hh]]
 refine qk1 (knd:=qd0 prog w) key ho hdat hf hel ?_
 rw[BU hm hk f]
 cases hb:m.testBit k with
 |true=>
  rw[if_pos rfl]
  dsimp only
  refine qab (qab ?_)
  have e:s={ s with heap:=s.heap }:=by cases s;rfl
  have:=h s.heap d false (qep a s.heap) (by rw[vG hb];exact S) (.inl rfl)
  rw[e];exact this
 |false=>
  rw[if_neg qan]
  dsimp only
  have hdk':d.testBit k=false:=by
   rcases hdk with z|z
   ·rw[hb]at z;cases z
   ·exact z
  rw[T.lay hm hk hb hd hdk' h0 f tk]
  dsimp only
  have T1:=(T.put hm hk hb hd hdk').1
  have h01:=xL (m:=m) h0 hdk'
  have hm1:=t0 hm hk
  refine qaa (m:=pure ()) (qab ?_)
  have hpl:(t.put k).1.plain=true:=T1.plain
  rw[if_pos hpl]
  refine qaa ?_
  rw[hashByValue_scannable 8 rfl]
  refine qab ?_
  dsimp only[plainKind]
  rw[if_pos rfl]
  refine qaa (qc6 ho hdat ?_ (eP hm1 _))
  obtain⟨o1,ho1,hx1,hd1,S1⟩:=gi (w:=w) (f':=λj=>if j=k then tk else f j) ho hx hdat hm1 hd h01 T1
  have hsb1:=qa8 s.heap a (qeV (aY (m|||1 <<< k) (λj=>if j=k then tk else f j)) (t.put k).1)
  split
  ·have hn:qc1 (aY (m|||1 <<< k) (λj=>if j=k then tk else f j)).size<32:=by
    have:=iT hm1
    rw[aY.size];unfold qc1;split<;>lia
   obtain⟨t2,T2,e2⟩:=T1.relayAll hm1 (λj=>if j=k then tk else f j) hn
   rw[e2]
   dsimp only
   refine qaa (m:=pure ()) (qab ?_)
   refine qaa (qc6 ho1 hd1 ?_ (eP hm1 _))
   obtain⟨o2,ho2,hx2,hd2,S2⟩:=gi (w:=w) (f':=λj=>if j=k then tk else f j) ho1 hx1 hd1 hm1 (by decide) (qfx _) T2
   refine qab (qab ?_)
   exact h _ 0 true (hsb1.trans (qa8 _ a _)) S2 (.inr rfl)
  ·refine qab (qab ?_)
   exact h _ d true hsb1 S1 (.inl rfl)
end
theorem bi:Slot "set_iterator" "__next__" "set_iterator.__next__":=
 .of (owner:="set_iterator") (n:="__next__") (by rw[qlV,qjQ];kernel_rfl) (by decide +kernel) (by decide +kernel) (by decide +kernel)
  (by first|exact .inl (by decide +kernel)|exact .inr (by decide +kernel)) (by rw[qen];kernel_rfl)
theorem dA:qjh table "set_iterator.__next__" = some qcs.«set_iterator.__next__»:=entryFor_of_tree (by kernel_rfl)
theorem qe:Manifest.owners.lookup (String.ofList ['r','o','t','a','r','e','t','i','_','t','e','s'].reverse)=some Manifest.sig_set_iterator:=by kernel_rfl
theorem eh (a:Value):argsOk "set_iterator.__next__" ⟨[a],[]⟩:=by
 unfold argsOk;rw[signature?_of (id:="set_iterator.__next__") (n:=['_','_','t','x','e','n','_','_']) (o:=['r','o','t','a','r','e','t','i','_','t','e','s']) (by kernel_rfl) qe];kernel_rfl
theorem jN:Slot "set_iterator" "__iter__" "set_iterator.__iter__":=
 .of (owner:="set_iterator") (n:="__iter__") (by rw[qlV,qjQ];kernel_rfl) (by decide +kernel) (by decide +kernel) (by decide +kernel)
  (by first|exact .inl (by decide +kernel)|exact .inr (by decide +kernel)) (by rw[qen];kernel_rfl)
theorem nA:qjh table "set_iterator.__iter__" = some qcs.«dict_keyiterator.__iter__»:=
 qgB (id':="dict_keyiterator.__iter__") (by kernel_rfl) rfl (by decide +kernel) (by kernel_rfl)
theorem oJ (a:Value):argsOk "set_iterator.__iter__" ⟨[a],[]⟩:=by
 unfold argsOk;rw[signature?_of (id:="set_iterator.__iter__") (n:=['_','_','r','e','t','i','_','_']) (o:=['r','o','t','a','r','e','t','i','_','t','e','s']) (by kernel_rfl) qe];kernel_rfl
theorem jO:qjh table "set.__iter__" = some qcs.«frozenset.__iter__»:=
 qgB (id':="frozenset.__iter__") (by kernel_rfl) rfl (by decide +kernel) (by kernel_rfl)
def bM (w:World) (h:Heap) (a:Addr) (m d:Nat) (f:Nat->Tok) (ep:Nat):Prop:=m<64/\d<64/\m&&&d=0/\∃ o t,h.get? a=some o/\o.ExactSet/\o.data=.set (aY m f) ep t/\fB (byT w) t m d
theorem bg.dat {w:World}{h:Heap}{a:Addr}{m d:Nat} (S:bg w h a m d):∃ f ep,bM w h a m d f ep:=let ⟨o,ho,h1,h2,h3,hx,f,ep,t,hd,T⟩:=S;⟨f,ep,h1,h2,h3,o,t,ho,hx,hd,T⟩
theorem bM.at' {w:World}{h h':Heap}{a:Addr}{m d ep:Nat}{f:Nat->Tok} (S:bM w h a m d f ep) (e:∀ o,h.get? a=some o->h'.get? a=some o):bM w h' a m d f ep:=let ⟨h1,h2,h3,o,t,ho,r⟩:=S;⟨h1,h2,h3,o,t,e o ho,r⟩
def jP (w:World) (a:Addr) (m:Nat) (f:Nat->Tok) (ep:Nat):Array (Int×Value):=if byT w then qjO (w.params.setOrder a ep) (aY m f) else aY m f
def cK (h:Heap) (it a:Addr) (x:Nat) (i n ep:Nat):Prop:=∃ o,h.get? it=some o/\o.cls=.type "set_iterator"/\o.data=.fields #[.int x 0,.int i 0,.ref a,.int n 0,.int ep 0]
theorem cK.typeIs {s:qaj}{it a:Addr}{x i n ep:Nat} (h:cK s.heap it a x i n ep):s.TypeIs (.ref it) "set_iterator":=let ⟨o,ho,hc,_⟩:=h;⟨o,ho,hc⟩
theorem cK.at' {h h':Heap}{it a:Addr}{x i n ep:Nat} (z:cK h it a x i n ep) (e:∀ o,h.get? it=some o->h'.get? it=some o):cK h' it a x i n ep:=let ⟨o,ho,r⟩:=z;⟨o,e o ho,r⟩
theorem pQ {α:Type}:∀ (l:List α) (i:Nat) (h:i<l.length),([l[i]]++l.eraseIdx i).Perm l
 |x::l,0,_=>qcb _
 |x::l,i+1,h=>by
  have ih:=pQ l i (by simpa using h)
  simp only[List.getElem_cons_succ,List.eraseIdx_cons_succ]
  exact (List.Perm.swap x _ _).trans (List.Perm.cons x ih)
theorem iW {α:Type} (nx:Nat->Nat):∀ (fuel k:Nat) (l:List α) (out:Array α),l.length<=fuel->(qfR nx fuel k l out).toList.Perm (out.toList++l)
 |0,k,l,out,h=>by
  have:l=[]:=qeY.mp (Nat.le_zero.mp h)
  subst this
  simp[qfR]
 |fuel+1,k,[],out,h=>by simp[qfR]
 |fuel+1,k,x::l,out,h=>by
  unfold qfR
  have hlt:nx k%(x::l).length<(x::l).length:=qgO _ (by simp)
  rw[qaE hlt]
  dsimp only
  refine (iW nx fuel (k+1) ((x::l).eraseIdx (nx k%(x::l).length)) _ (by rw[List.length_eraseIdx_of_lt hlt];simp at h ⊢;lia)).trans ?_
  rw[qjy,qca]
  refine List.Perm.append_left _ ?_
  exact pQ _ _ hlt
theorem pd (w:World) (a:Addr) (m:Nat) (f:Nat->Tok) (ep:Nat):(jP w a m f ep).toList.Perm (aY m f).toList:=by
 unfold jP
 split
 ·unfold qjO
  exact (iW _ _ _ _ _ (by simp)).trans (by simp)
 ·exact qcb _
theorem lK (w:World) (a:Addr) (m:Nat) (f:Nat->Tok) (ep:Nat):(jP w a m f ep).size=(aA m).length:=by
 have:=(pd w a m f ep).length_eq
 rw[qaA,qaA,aY.size]at this;exact this
section
variable {prog:qaY}{w:World}{A:qa9}{E:Value->qaj->Prop}{s:qaj}{a it:Addr}{m d ep i:Nat}{f:Nat->Tok}
theorem bM.state {Q:(Array (Int×Value)×Nat×qcj)->qaj->Prop} (S:bM w s.heap a m d f ep) (h:∀ t,fB (byT w) t m d->Q (aY m f,ep,t) s):wpAny (model prog w) A (setState a) Q E s:=by
 obtain⟨h1,h2,h3,o,t,ho,hx,hd,T⟩:=S
 exact qcF ho hd (T.fits h1 h2 h3 f) (h t T)
theorem dN {Q:Bool->qaj->Prop} (h:Q (byT w) s):wpAny (model prog w) A setsByText Q E s:=by
 unfold setsByText
 exact qaa (qfB (qab h))
theorem bM.walk {Q:Array (Int×Value)->qaj->Prop} (S:bM w s.heap a m d f ep) (h:Q (jP w a m f ep) s):wpAny (model prog w) A (qlY a) Q E s:=by
 unfold qlY
 refine qaa (S.state λt T=>?_)
 dsimp only
 refine qaa (dN ?_)
 unfold jP at h
 cases hb:byT w with
 |true=>
  rw[hb,if_pos rfl]at h
  rw[if_pos rfl]
  exact qaa (qfB (qab h))
 |false=>
  rw[hb,if_neg qan]at h
  rw[if_neg qan]
  have hl:t.led=true:=by rw[T.led,hb];rfl
  refine qc7 (λz=>?_) λ_=>?_
  ·exfalso
   revert z
   show ¬ ((!t.plain&&_)=true)
   rw[T.plain];simp
  ·refine qaa (Q:=_) ?_
   show wpAny _ _ (if (!t.led&&_)=true then _ else _) _ _ _
   rw[hl]
   simp only[qbr,qeM,qaq,↓reduceIte]
   exact qab (qab h)
theorem Be {Q:Value->qaj->Prop} (S:bM w s.heap a m d f ep)
  (hQ:Q (.ref s.heap.objs.size) { s with heap:=s.heap.push { cls:=.type "set_iterator",data:=.fields #[.int 0 0,.int 0 0,.ref a,.int (aA m).length 0,.int ep 0] } }) :
  wpAny (model prog w) A (qih (.ref a)) Q E s:=by
 have hT:s.TypeIs (.ref a) "set":=let ⟨_,_,_,o,t,ho,hx,_⟩:=S;⟨o,ho,hx.1⟩
 refine qfe hT qd6 (qbd qd6 hT jO ?_ (qhy _))
 unfold qcs.«frozenset.__iter__» qfP qgk
 simp only[qcM,qbr,qaq,↓reduceIte,bind_assoc,qbx,bne_self_eq_false]
 unfold qde qfG qgl setDrawn
 refine qaa (qab ?_)
 try dsimp only
 refine qaa (qab ?_)
 refine qaa (qaa (qaa (S.state λt T=>qab (qab ?_))))
 refine qaa (qaa (S.state λt T=>?_))
 dsimp only
 refine qaa (dN (qab ?_))
 have e0:(!byT w&&(!t.plain&&decide ((aY m f).size > 1)))=false:=by rw[T.plain];simp
 refine qc7 (λz=>absurd (z.symm.trans (show _=false from e0)) (by simp)) λ_=>?_
 refine qaa (qab ?_)
 unfold qjc
 refine qaa (qaa (S.state λt T=>qab ?_))
 simp only[newFields]
 refine qaa (qbh (qab ⟨_,rfl,"set_iterator",_,⟨_,qau _ rfl,rfl⟩,bi.lookup,?_⟩))
 simpa [qeA,aY.size] using hQ
end
section
variable {prog:qaY}{w:World}{A:qa9}{E:Value->qaj->Prop}{s:qaj}{a it:Addr}{m d ep i:Nat}{f:Nat->Tok}
def iA (w:World) (m i:Nat):Nat:=if byT w then 0 else qh m i
theorem bM.next {Q:Option (Value×Nat)->qaj->Prop} (S:bM w s.heap a m d f ep) (hi:i<=(aA m).length)
  (h:Q ((jP w a m f ep)[i]?.map λe=>(e.2,iA w m (i+1))) s):wpAny (model prog w) A (ql0 a (iA w m i) i ep) Q E s:=by
 have hm:m<64:=S.1
 unfold ql0
 refine qaa (S.state λt T=>?_)
 dsimp only
 refine qaa (dN ?_)
 cases hb:byT w with
 |true=>
  rw[if_pos rfl]
  simp only[bne_self_eq_false,qaq,↓reduceIte]
  refine qaa (S.walk (qab ?_))
  unfold iA at h
  rw[hb,if_pos rfl]at h
  unfold iA
  rw[hb,if_pos rfl]
  exact h
 |false=>
  rw[if_neg qan]
  have hl:t.led=true:=by rw[T.led,hb];rfl
  refine qc7 (λz=>?_) λ_=>?_
  ·exfalso
   revert z
   show ¬ ((!t.plain&&_)=true)
   rw[T.plain];simp
  ·refine qaa (Q:=_) ?_
   show wpAny _ _ (if (!t.led&&_)=true then _ else _) _ _ _
   rw[hl]
   simp only[qbr,qeM,qaq,↓reduceIte]
   refine qab ?_
   unfold iA at h
   rw[hb,if_neg qan]at h
   unfold jP at h
   rw[hb,if_neg qan]at h
   unfold iA
   rw[hb,if_neg qan,T.pl,CT hm hi]
   refine qab ?_
   by_cases hlt:i<(aA m).length
   ·have e1:(aY m f)[i]?=some (((aA m)[i]:Int),Value.int ((aA m)[i]:Nat) (f (aA m)[i])):=by
     rw[<-qbN,aY.toList,qaZ,qaE hlt];rfl
    have e2:(aA m).toArray[i]?=some (aA m)[i]:=by simp[hlt]
    rw[e1,e2]
    rw[e1]at h
    have e3:qh m (i+1)=(aA m)[i]+1:=by
     unfold qh
     rw[if_neg (by lia)]
     simp[qa1,hlt]
    rw[e3]at h
    exact h
   ·have e1:(aY m f)[i]?=none:=qba (by rw[aY.size];lia)
    rw[e1]at h ⊢
    exact h
theorem qJ {Q:Option Value->qaj->Prop} (hit:cK s.heap it a (iA w m i) i (aA m).length ep) (S:bM w s.heap a m d f ep) (hi:i<(aA m).length) {e:Int×Value} (he:(jP w a m f ep)[i]?=some e)
  (hQ:∀ h',cK h' it a (iA w m (i+1)) (i+1) (aA m).length ep->qbm it s.heap h'->Q (some e.2) { s with heap:=h' }) :
  wpAny (model prog w) A (qeq (.ref it)) Q E s:=by
 obtain⟨o,ho,hc,hd⟩:=id hit
 unfold qeq
 refine qaa (qee (qbC (name:=qc3 "__next__") hit.typeIs bi
  (qbd bi hit.typeIs dA ?_ (eh _))))
 unfold qcs.«set_iterator.__next__» qgk
 simp only[qcM,qbr,qaq,↓reduceIte,qbx,bne_self_eq_false]
 refine qaa (qab ?_)
 dsimp only
 unfold qkq
 dsimp only
 refine qaa ?_
 refine qaa (qeG ho ?_)
 rw[hd]
 refine qab ?_
 dsimp only
 unfold qgl
 refine qaa (qaa (S.state λt T=>qab ?_))
 have e1:(((aY m f).size:Int) != ((aA m).length:Int))=false:=by rw[aY.size];simp
 dsimp only
 rw[if_neg (by rw[e1];exact qan)]
 refine qaa ?_
 simp only[qaK]
 refine S.next (qdt hi) ?_
 rw[he]
 dsimp only[qgp]
 refine qaa (qcE ho hd (by simp) ?_)
 have ho1:=qbZ (qgx λxs=>xs.setIfInBounds 0 (qeA (iA w m (i+1)))) ho (qcQ (qbL hd _))
 have hd1:=qbL hd (λxs=>xs.setIfInBounds 0 (qeA (iA w m (i+1))))
 refine qaa (qcE ho1 hd1 (by simp) (qab ⟨e.2,rfl,qab (hQ _ ?_ ((qa8 ..).trans (qa8 ..)))⟩))
 refine⟨_,qbZ _ ho1 (qcQ (qbL hd1 _)),(qdx ..).trans ((qdx ..).trans hc),?_⟩
 rw[qbL hd1];simp[qeA]
theorem tm {Q:Option Value->qaj->Prop} (hh:A.handled=none) (hit:cK s.heap it a (iA w m (aA m).length) (aA m).length (aA m).length ep) (S:bM w s.heap a m d f ep)
  (hQ:∀ h',qho it s.heap h'->Q none { s with heap:=h' }):wpAny (model prog w) A (qeq (.ref it)) Q E s:=by
 obtain⟨o,ho,hc,hd⟩:=id hit
 unfold qeq
 refine qaa (qee (qbC (name:=qc3 "__next__") hit.typeIs bi
  (qbd bi hit.typeIs dA ?_ (eh _))))
 unfold qcs.«set_iterator.__next__» qgk
 simp only[qcM,qbr,qaq,↓reduceIte,qbx,bne_self_eq_false]
 refine qaa (qab ?_)
 dsimp only
 unfold qkq
 dsimp only
 refine qaa ?_
 refine qaa (qeG ho ?_)
 rw[hd]
 refine qab ?_
 dsimp only
 unfold qgl
 refine qaa (qaa (S.state λt T=>qab ?_))
 have e1:(((aY m f).size:Int) != ((aA m).length:Int))=false:=by rw[aY.size];simp
 dsimp only
 rw[if_neg (by rw[e1];exact qan)]
 refine qaa ?_
 simp only[qaK]
 refine S.next (qap _) ?_
 rw[qba (by rw[lK];exact qap _)]
 dsimp only[qgp]
 refine qaa (qcE ho hd (by simp) ?_)
 show wpAny _ _ (qiY (.type "StopIteration") [] >>= _) _ _ _
 refine qaa ?_
 simp only[qiY,qkn]
 refine qaa (qbh ?_ (by size_fits))
 refine qaa (m:=qdm _ _) (qgH (a:=Value.none) (by first|rfl|(simp only[qdm];rfl)) ?_)
 refine qbh ?_ (by size_fits)
 simp only[qkm]
 refine qaa (qg7 ?_)
 rw[show A.in1.handled=none from hh]
 refine qaa (qab (qic ?_))
 refine qaa (qdR (T:="StopIteration") (b:=true) ⟨_,qau _ rfl,rfl⟩ qiJ ?_)
 exact qab (hQ _ (((qa8 ..).extBut.push _).push _))
theorem vg {x i n:Nat}{Q:Value->qaj->Prop} (hit:cK s.heap it a x i n ep) (h:Q (.ref it) s):wpAny (model prog w) A (qih (.ref it)) Q E s:=by
 refine qfe hit.typeIs jN (qbd jN hit.typeIs nA ?_ (oJ _))
 show wpAny _ _ (ret (.ref it)) _ _ s
 exact qab ⟨_,rfl,"set_iterator",_,hit.typeIs,bi.lookup,h⟩
theorem zu (hh:A.handled=none) (I a:Addr) (hne:a≠I) (m d ep:Nat) (f:Nat->Tok) :
  Walks prog w A I [I,a] [I] (aA m).length (λi v=>∃ e,(jP w a m f ep)[i]?=some e/\v=e.2) (λi h=>cK h I a (iA w m i) i (aA m).length ep/\bM w h a m d f ep) where
 sub:=λb hb=>by simp at hb;simp[hb]
 frame:=λ_ _ _ st hk=>⟨st.1.at' λo e=>hk I (by simp) o e,st.2.at' λo e=>hk a (by simp) o e⟩
 item:=λi s Q E hi st hQ=>by
  obtain⟨e,he⟩:∃ e,(jP w a m f ep)[i]?=some e:=⟨_,qas (by rw[lK];exact hi)⟩
  refine qJ st.1 st.2 hi he λh' hit' hs'=>?_
  exact hQ _ h' s.toks ⟨e,he,rfl⟩ ⟨hit',st.2.at' λo q=>hs'.extBut a o hne q⟩ λb o hb q=>hs'.extBut b o (λh=>hb (by simp[h])) q
 done:=λs Q E st hQ=>tm hh st.1 st.2 λh' he'=>hQ h' s.toks λb o hb e=>he' b o (λh=>hb (by simp[h])) e
 self:=λ_ _ _ _ st hQ=>vg st.1 hQ
theorem u5 {Q:Bool->qaj->Prop} (hT:s.TypeIs (.ref a) "set") (h:Q false s):wpAny (model prog w) A (qf1 (.ref a)) Q E s:=by
 unfold qf1
 refine qaa (qid hT PySem.F.slot_set_len.lookup ?_)
 generalize hid:("set.__len__" : String)=id0
 wp_delta
 rw[show splitId id0=some ("set","__len__") from by subst hid;decide +kernel]
 subst hid
 refine qaa (qdR (T:="set") (b:=true) hT (by rw[qen];kernel_rfl) ?_)
 refine qc7 (λhab=>absurd hab (by decide)) (λ_=>?_)
 refine qc7 (λ_=>?_) (λhab=>absurd (by decide +kernel) hab)
 refine qaa (qf2 hT ?_)
 exact qab h
theorem Cb (prog:qaY) (w:World) (a:Addr) (m d ep:Nat) (f:Nat->Tok):qhe prog w "set" a a (aA m).length (λi v=>∃ e,(jP w a m f ep)[i]?=some e/\v=e.2) (λh=>bM w h a m d f ep) where
 type:=λs S=>let ⟨_,_,_,o,t,ho,hx,_⟩:=S;⟨o,ho,hx.1⟩
 there:=λh S=>let ⟨_,_,_,o,t,ho,hx,_⟩:=S;⟨qao ho,qao ho⟩
 keep:=λh h' S hk=>S.at' λo e=>hk a (.inl rfl) o e
 notList:=by decide
 notTuple:=by decide
 hint:=λA E s Q S h=>u5 (let ⟨_,_,_,o,t,ho,hx,_⟩:=S;⟨o,ho,hx.1⟩) h
 iter:=λA s hh S=>⟨_,_,λE Q h=>Be S h,zu hh s.heap.objs.size a (let ⟨_,_,_,o,t,ho,hx,_⟩:=S;qar (qao ho)) m d ep f,
  ⟨⟨_,qau _ rfl,rfl,by unfold iA qh;split<;>rfl⟩,S.at' λo e=>qae _ e⟩⟩
end
def aK (l:List Int):Nat:=l.foldl (λm k=>m|||1 <<< k.toNat) 0
def in6 (l:List Int):Bool:=l.all λk=>decide (0<=k/\k<6)
theorem vK (l:List Int) (k:Int):aK (l++[k])=aK l|||1 <<< k.toNat:=by unfold aK;rw[qea];rfl
theorem uN {l:List Int}{i:Nat} (h:i<l.length):aK (l.take (i+1))=aK (l.take i)|||1 <<< (l.getD i 0).toNat:=by
 rw[qbJ,qaE h]
 show aK (l.take i++[l[i]])=_
 rw[vK,qa1,qaE h];rfl
theorem DM {l:List Int} (h:in6 l=true) {i:Nat} (hi:i<l.length):0<=l.getD i 0/\l.getD i 0<6:=by
 have:=qaT.mp h l[i] (qda hi)
 rw[qa1,qaE hi]
 simpa using this
section
variable {prog:qaY}{w:World}{A:qa9}{E:Value->qaj->Prop}{s:qaj}
theorem zK (led:Bool) (hl:led=!byT w):Cp w { cls:=.type "set",dict:=none,data:=.set #[] 0 (.fresh 0 0 led) } 0 0:=
 ⟨by decide,by decide,rfl,⟨rfl,rfl,rfl⟩,λ_=>0,0,.fresh 0 0 led,by simp[aY,aA],⟨by simp[qd1,kg],by simp[qd1,aA],by simp[qd1,aA],hl,rfl⟩⟩
end
section
variable {prog:qaY}{w:World}{A:qa9}{R:ql9->qaj->Prop}{I:Addr}{fp wr:List Addr}{G:Array qia->Array qia->Prop}{P:Nat->Value->Prop}{St:Nat->qaj->Prop}
theorem zX {ns:List Int} (W:WalksS prog w A.in1 I fp wr G ns.length P St) (S:Addr) (hSf:S∉fp) (hval:∀ i v,P i v->∃ t,v=.int (ns.getD i 0) t) (h6:in6 ns=true) :
  ∀ (k i:Nat) (s:qaj),ns.length - i=k->i<=ns.length->St i s->bg w s.heap S (aK (ns.take i)) 0->
   (∀ s',Moved (S::wr) G s s'->bg w s'.heap S (aK ns) 0->R (.ok (.ret .none)) s')->
   qgb (model prog w) A (.builtin "set.update.loop" ⟨[.ref S,.ref I],[]⟩) R s:=by
 have hSw:S∉wr:=λh=>hSf (W.sub _ h)
 have hsub:∀ b∈wr,b∈S::wr:=λb hb=>qah _ hb
 intro k
 induction k with
 |zero=>
  intro i s hk hi hst hS hR
  have hin:i=ns.length:=by lia
  subst hin
  refine qb2 qcn ?_
  rw[qdw qbE _]
  show wpAny _ A.in1 (qeq (.ref I) >>= _) _ _ s
  refine qaa (W.done s _ _ hst λs' hm=>?_)
  show wpAny _ A.in1 (ret Value.none) _ _ s'
  refine qab (hR s' (hm.mono hsub) ?_)
  rw[qbv]at hS
  exact hS.at' λo e=>hm.heap S _ hSw e
 |succ k ih=>
  intro i s hk hi hst hS hR
  have hlt:i<ns.length:=by lia
  refine qb2 qcn ?_
  rw[qdw qbE _]
  show wpAny _ A.in1 (qeq (.ref I) >>= _) _ _ s
  refine qaa (W.item i s _ _ hlt hst λv s' hP hst' hm=>?_)
  obtain⟨t,rfl⟩:=hval i v hP
  have hS':bg w s'.heap S (aK (ns.take i)) 0:=hS.at' λo e=>hm.heap S _ hSw e
  obtain⟨hg0,hg6⟩:=DM h6 hlt
  have hbt:=uN hlt
  generalize hgv:ns.getD i 0=g at hg0 hg6 hbt ⊢
  obtain⟨g',rfl⟩:=qbB hg0
  have hg6':g'<6:=by lia
  rw[qaK]at hbt
  show wpAny _ A.in1 (qfu [Value.int (g':Int) t] (setAdd S (.int (g':Int) t)) >>= _) _ _ s'
  refine qaa (qbk ?_)
  unfold setAdd
  refine qbk ?_
  refine qaa ((qd0 prog w).pyHash (k:=(g':Int)) (qhv _ _ _ _) ?_)
  rw[show (qd0 prog w).hash ((g':Nat):Int)=(g':Int) from sv hg6']
  refine sO (s:={ s' with toks:=s'.toks+1 }) hS' hg6' (.inr (qcf _)) λh' d' b hsb hS2 hd'=>?_
  have hd0:d'=0:=by rcases hd' with z|z<;>exact z
  subst hd0
  rw[<-hbt]at hS2
  refine qab ⟨qje qbE _,ih (i+1) _ (by lia) hlt (W.frame _ s' _ _ hst' (qc9 _) λb hb o e=>?_) hS2 λs'' hm'' hS''=>?_⟩
  ·rw[hsb.2 b (λh:b=S=>hSf (by rw[<-h];exact hb))];exact e
  ·refine hR s'' (qkN W.gtrans ((hm.mono hsub).then_heap (qc9 _) λb o hb e=>?_) hm'') hS''
   rw[hsb.2 b (λh:b=S=>hb (by rw[h];exact qak))];exact e
end
section
variable {prog:qaY}{w:World}{A:qa9}{E:Value->qaj->Prop}{s:qaj}
theorem jj (a:Value) {Q₁:Value->qaj->Prop}
  (h:Q₁ (.ref s.heap.objs.size) { s with heap:=s.heap.push { cls:=.type "set",dict:=none,data:=.set #[] 0 (.fresh 0 0 (!byT w)) } }) :
  qgb (model prog w) A (.call (.builtin "set.__new__") ⟨[.type "set",a],[]⟩) (wants Q₁ E) s:=by
 refine qik ?_
 show wpAny _ A.in1 (do checkBuiltinCall "set.__new__" ⟨[.type "set",a],[]⟩;again (.builtin "set.__new__" ⟨[.type "set",a],[]⟩)) _ _ s
 refine qaa (qgH (PySem.F.newCall_set_1 a) (qab ⟨qje qhZ _,qb2 PySem.F.entry_set_new ?_⟩))
 rw[qdw qhZ _]
 unfold qcs.«set.__new__» qj1
 have hsub:=sub_set_self
 obtain⟨hp,g,d,tk,os⟩:=s
 dsimp only
 wp_walk
 refine qfB (qab ?_)
 dsimp only
 simp only[newObj]
 refine qaa (qj9 (qab ?_))
 exact qab h
theorem qE:ql6 (.type "tuple") (.type "set")=pure false:=by rw[qen];kernel_rfl
theorem ka:ql6 (.type "tuple") (.type "frozenset")=pure false:=by rw[qen];kernel_rfl
set_option maxHeartbeats 3200000 in
theorem oV {l:Addr}{items:Array Value}{ns:List Int}{Q:Value->qaj->Prop}
  (hh:A.handled=none) (hl:s.heap.IsTuple l items) (hi:qlI items.toList ns) (h6:in6 ns=true)
  (h:∀ (h':Heap) (tk:Nat),bg w h' s.heap.objs.size (aK ns) 0->
    (∀ b o,b<s.heap.objs.size->s.heap.get? b=some o->h'.get? b=some o)->Q (.ref s.heap.objs.size) { s with heap:=h',toks:=tk }) :
  wpAny (model prog w) A (call (.type "set") [.ref l]) Q E s:=by
 obtain⟨c,tl,hmro⟩:=qbj.mro
 have hmade:=qbj.made
 have hsub:=qbj.sub
 refine qkE (qik ?_)
 show wpAny _ _ (callAny (.type "set") _) _ _ _
 refine qab ⟨qdX _ (by decide +kernel),qb2 qhw ?_⟩
 rw[qiV (qjL "set" [.ref l] []) rfl]
 have h1:=qbj.notType
 have h2:=qbj.canCreate
 have hct:=qhJ (.ref l)
 repeat (any_goals (first|assumption|wp_step))
 refine qer (jj (.ref l) (E:=E) (Q₁:=λobj s₁=>obj=.ref s.heap.objs.size/\s₁={ s with heap:=s.heap.push { cls:=.type "set",dict:=none,data:=.set #[] 0 (.fresh 0 0 (!byT w)) } }) ⟨rfl,rfl⟩) λr s₁ hr=>?_
 cases r with
 |error e=>exact hr
 |ok fl=>
  cases fl with
  |ret obj=>
   obtain⟨rfl,rfl⟩:=hr
   have hS:(s.heap.push { cls:=.type "set",dict:=none,data:=.set #[] 0 (.fresh 0 0 (!byT w)) }).get? s.heap.objs.size=some { cls:=.type "set",dict:=none,data:=.set #[] 0 (.fresh 0 0 (!byT w)) }:=qau _ rfl
   have hT:qj5 { s with heap:=s.heap.push { cls:=.type "set",dict:=none,data:=.set #[] 0 (.fresh 0 0 (!byT w)) } } (.ref s.heap.objs.size) "set":=⟨_,hS,rfl⟩
   have hli:=qbj.init.lookup
   have hbi:=qbj.init.bind (.ref s.heap.objs.size)
   repeat (any_goals (first|assumption|wp_step))
   refine qer (qj4 (R:=wants (λr s₂=>r=.none/\∃ h' tk,s₂={ s with heap:=h',toks:=tk }/\
     bg w h' s.heap.objs.size (aK ns) 0/\
     (∀ b o,b<s.heap.objs.size->s.heap.get? b=some o->h'.get? b=some o)) E) qbj.init.plain qhM (qk4 hT ?_)) λr₂ s₂ hr₂=>?_
   ·generalize hled:(!byT w)=led at hS hT ⊢
    obtain⟨ol,hol,hcl,nl,hdl⟩:=hl
    obtain⟨ocls,odict,odata,oslots⟩:=ol
    simp only at hcl hdl
    subst hcl;subst hdl
    have hol':(s.heap.push { cls:=.type "set",dict:=none,data:=.set #[] 0 (.fresh 0 0 led) }).get? l=some { cls:=.type "tuple",dict:=odict,data:=.seq items nl,slots:=oslots }:=qae _ hol
    have hsls:=qE
    have hslf:=ka
    have hne:(Value.type "tuple"==Value.type "dict")=false:=by decide
    have hl1:(s.heap.push { cls:=.type "set",dict:=none,data:=.set #[] 0 (.fresh 0 0 led) }).IsTuple l items:=⟨_,hol',rfl,nl,rfl⟩
    unfold qcs.«set.__init__» noKeywords qcU
    generalize hPI:qih=PI
    wp_walk
    subst hPI
    refine qed hl1 ?_
    refine qaa (qe0 ?_)
    have hlS:l<s.heap.objs.size:=qao hol
    have hh3:A.in1.in1.in1.handled=none:=by simp[hh]
    have hneI:l≠(s.heap.push { cls:=.type "set",dict:=none,data:=.set #[] 0 (.fresh 0 0 led) }).objs.size:=by
     rw[qbK];exact qar (qa0 hlS)
    have hSf:s.heap.objs.size∉[(s.heap.push { cls:=.type "set",dict:=none,data:=.set #[] 0 (.fresh 0 0 led) }).objs.size,l]:=by
     rw[qbK];simp only[qay,qaI,qe4,or_false,not_or]
     exact⟨qar (qb7 _),qbu hlS⟩
    have hval:∀ (i:Nat) (v:Value),items[i]?=some v->∃ t,v=.int (ns.getD i 0) t:=λi v hv=>
     qi3 hi i v (by rw[qbN];exact hv)
    have hlen:items.size=ns.length:=by
     have:=qi2 hi
     rw[qaA]at this;exact this
    have WW:=(Walks.tuple (prog:=prog) (w:=w) hh3 (s.heap.push { cls:=.type "set",dict:=none,data:=.set #[] 0 (.fresh 0 0 led) }).objs.size l hneI items).toS
    rw[hlen]at WW
    refine zX WW s.heap.objs.size hSf hval h6 (ns.length - 0) 0 _ (by lia) (qaW _)
     ⟨⟨_,qau _ rfl,rfl,rfl⟩,(hl1.push _)⟩ ?hS0 ?hR
    case hS0=>
     have hget:((s.heap.push { cls:=.type "set",dict:=none,data:=.set #[] 0 (.fresh 0 0 led) }).push { cls:=.type "tuple_iterator",data:=.fields #[.ref l,.int 0 0] }).get? s.heap.objs.size
       = some { cls:=.type "set",dict:=none,data:=.set #[] 0 (.fresh 0 0 led) }:=qae _ hS
     exact⟨_,hget,zK led hled.symm⟩
    case hR=>
     intro s' hm hS'
     obtain⟨h',g',d',tk',os'⟩:=s'
     have eg:g'=s.gens:=hm.gens
     have ed:d'=s.drawn:=hm.drawn
     have eo:os'=s.os:=hm.os
     subst eg;subst ed;subst eo
     show wpAny _ _ _ _ _ _
     refine qab ?_
     show wpAny _ _ (ret Value.none) _ _ _
     refine qab ⟨rfl,h',tk',rfl,hS',λb o hb e=>?_⟩
     have hb1:b≠s.heap.objs.size:=qar hb
     have hb2:b≠(s.heap.push { cls:=.type "set",dict:=none,data:=.set #[] 0 (.fresh 0 0 led) }).objs.size:=by
      rw[qbK];exact qar (qa0 hb)
     exact hm.heap b o (by simp only[qay,qaI,qe4,or_false,not_or];exact⟨hb1,hb2⟩) (qae _ (qae _ e))
   ·cases r₂ with
    |error e=>exact hr₂
    |ok fl₂=>
     cases fl₂ with
     |ret r=>
      obtain⟨rfl,h',tk,rfl,hS',hk'⟩:=hr₂
      repeat (any_goals (first|assumption|wp_step))
      exact h _ _ hS' hk'
     |_=>exact hr₂.elim
  |_=>exact hr.elim
end
section
variable {prog:qaY}{w:World}{A:qa9}{E:Value->qaj->Prop}{s:qaj}{a r o:Addr}{m m1 m2 d k ep:Nat}{f:Nat->Tok}
theorem zB {n:Nat}{Q:Unit->qaj->Prop} (S:bg w s.heap a m d) (hn:n<32) (h:∀ h',qbm a s.heap h'->bg w h' a m 0->Q () { s with heap:=h' }) :
  wpAny (model prog w) A (qkl a n) Q E s:=by
 obtain⟨ob,ho,hm,hd,h0,hx,f,ep,t,hdat,T⟩:=id S
 have hf:=T.fits hm hd h0 f
 unfold qkl
 refine qaa (qcF ho hdat hf ?_)
 dsimp only
 rw[if_neg (by have:=(kF hn).2;rw[qbM];lia)]
 obtain⟨t',T',e⟩:=T.relaid hm hn
 refine qaa ?_
 rw[aY.hashes,e]
 wp_delta
 have hs:((qet (aA m).length).filterMap ((aY m f)[·]?))=aY m f:=by rw[<-aY.size m f];exact lc _
 simp only[hs,bne_self_eq_false,qaq,↓reduceIte]
 refine qab ?_
 dsimp only
 obtain⟨o1,ho1,hx1,hd1,S1⟩:=gi (w:=w) (f':=f) ho hx hdat hm (by decide) (qfx _) T'
 exact qc6 ho hdat (h _ (qa8 ..) S1) (eP hm f)
theorem Aj {n:Nat}{Q:Unit->qaj->Prop} (S:bg w s.heap a m d) (hn:n<=6) (h:∀ h' d',qbm a s.heap h'->bg w h' a m d'->(d'=d\/d'=0)->Q () { s with heap:=h' }) :
  wpAny (model prog w) A (setRoomFor a n) Q E s:=by
 obtain⟨ob,ho,hm,hd,h0,hx,f,ep,t,hdat,T⟩:=id S
 have hf:=T.fits hm hd h0 f
 unfold setRoomFor
 refine qaa (qcF ho hdat hf ?_)
 dsimp only
 have e:s={ s with heap:=s.heap }:=by cases s;rfl
 unfold SetTable.roomFor
 split
 ·rename_i x hx
  split at hx
  ·cases hx
   refine zB S ?_ λh' a1 a2=>h h' 0 a1 a2 (.inr rfl)
   have:=iT hm
   rw[T.pl,qat];lia
  ·cases hx
 ·refine qab ?_
  have:=h s.heap d (qep ..) S (.inl rfl)
  rw[e];exact this
theorem pN {α:Type} (J:List α->qaj->Prop) {g:α->PUnit->Sem (ForInStep PUnit)} (hg:∀ x l s,J (x::l) s->wpAny (model prog w) A (g x ⟨⟩) (λr s'=>r=.yield ⟨⟩/\J l s') E s) :
  ∀ (l:List α) (s:qaj) (Q:PUnit->qaj->Prop),J l s->(∀ s',J [] s'->Q ⟨⟩ s')->wpAny (model prog w) A (forIn l ⟨⟩ g) Q E s
 |[],s,Q,h,hQ=>by rw[qfM];exact qab (hQ s h)
 |x::l,s,Q,h,hQ=>by
  rw[qhn]
  refine qaa (qcG (hg x l s h) (λr s' hr=>?_) λ_ _ e=>e)
  obtain⟨rfl,hj⟩:=hr
  exact pN J hg l s' Q hj hQ
def gw (l:List Nat):Nat:=l.foldl (λm k=>m|||1 <<< k) 0
theorem sr:∀ (l:List Nat) (m:Nat),l.foldl (λm k=>m|||1 <<< k) m=m|||gw l
 |[],m=>(qjp m).symm
 |k::l,m=>by
  unfold gw
  rw[qby,qby,sr l,sr l (0|||1 <<< k),qge,qlN]
theorem oW (k:Nat) (l:List Nat):gw (k::l)=1 <<< k|||gw l:=by
 show (k::l).foldl (λm k=>m|||1 <<< k) 0=_
 rw[qby,sr,qge]
theorem gr (j:Nat):∀ l:List Nat,(gw l).testBit j=decide (j∈l)
 |[]=>by simp[gw]
 |k::l=>by
  rw[oW,qco,iJ,gr j l]
  by_cases e:k=j
  ·subst e;simp
  ·rw[decide_eq_false e,qgt]
   simp[show ¬ j=k from λz=>e z.symm]
theorem oR {l l':List Nat} (p:l.Perm l'):gw l=gw l':=by
 apply qcv
 intro j
 rw[gr,gr]
 exact decide_eq_decide.mpr p.mem_iff
theorem tY:∀ m:_root_.Fin 64,gw (aA m.1)=m.1:=by decide +kernel
theorem me (hm:m<64):gw (aA m)=m:=tY ⟨m,hm⟩
def Cj (l:List (Int×Value)):Prop:=∀ e∈l,∃ k:Nat,∃ t:Tok,k<6/\e=((k:Int),Value.int k t)
def ko (l:List (Int×Value)):List Nat:=l.map λe=>e.1.toNat
theorem oa (w:World) (a:Addr) (m:Nat) (f:Nat->Tok) (ep:Nat):Cj (jP w a m f ep).toList:=λe he=>by
 have:=(pd w a m f ep).mem_iff.mp he
 rw[aY.toList]at this
 obtain⟨k,hk,rfl⟩:=qaz.mp this
 exact⟨k,f k,xG hk,rfl⟩
theorem jr (w:World) (a:Addr) (m:Nat) (f:Nat->Tok) (ep:Nat):(ko (jP w a m f ep).toList).Perm (aA m):=by
 have:=(pd w a m f ep).map (λe:Int×Value=>e.1.toNat)
 rw[aY.toList,qaJ]at this
 have e:((λe:Int×Value=>e.1.toNat) ∘ λ(k:Nat)=>((k:Int),Value.int k (f k)))=id:=by funext k;simp
 rw[e,qeu]at this
 exact this
theorem bM.unseen {Q:Array (Int×Value)->qaj->Prop}{os:List Addr}{fl:Option Addr} (S:bM w s.heap a m d f ep) (h:Q (jP w a m f ep) s):wpAny (model prog w) A (setWalkUnseen a os fl) Q E s:=by
 unfold setWalkUnseen
 refine qaa (S.state λt T=>?_)
 dsimp only
 refine qaa (dN ?_)
 have e:(byT w||t.led&&t.plain)=true:=by rw[T.led,T.plain];cases byT w<;>rfl
 rw[if_pos (by rw[e];rfl)]
 exact S.walk h
theorem r4 {each:Sem Unit}{Q:Unit->qaj->Prop} (hne:r≠o) (S1:bg w s.heap r m1 0) (S2:bM w s.heap o m2 0 f ep)
  (he:∀ (s':qaj) (Q':Unit->qaj->Prop),bM w s'.heap o m2 0 f ep->Q' () s'->wpAny (model prog w) A each Q' E s')
  (h:∀ h',qbm r s.heap h'->bg w h' r (m1|||m2) 0->Q () { s with heap:=h' }) :
  wpAny (model prog w) A (setMerge r o each) Q E s:=by
 have es:s={ s with heap:=s.heap }:=by cases s;rfl
 have hm2:m2<64:=S2.1
 have keepO:∀ {h':Heap},qbm r s.heap h'->bM w h' o m2 0 f ep:=λsb=>S2.at' λob q=>(sb.2 o (qdi hne)).trans q
 unfold setMerge
 rw[if_neg (by simpa using hne)]
 refine qaa (S2.state λt2 T2=>?_)
 dsimp only
 by_cases hem:(aY m2 f).isEmpty=true
 ·rw[if_pos hem]
  refine qab ?_
  have h0:(aA m2).length=0:=by rw[<-aY.size m2 f];simpa using hem
  have z:m2=0:=by
   have:=me hm2
   rw[qeY.mp h0]at this
   exact this.symm
  have:=h s.heap (qep ..) (by rw[z,qjp];exact S1)
  rw[es];exact this
 ·rw[if_neg hem]
  refine qaa (Aj S1 (by rw[aY.size];exact iT hm2) λh1 d' sb1 S1' hd'=>?_)
  have hd0:d'=0:=by rcases hd' with z|z<;>exact z
  subst hd0
  obtain⟨o1,ho1,hm1,_,h01,hx1,f1,ep1,t1,hd1,T1⟩:=id S1'
  have hf1:=T1.fits hm1 (by decide) h01 f1
  refine qaa (qcF ho1 hd1 hf1 ?_)
  dsimp only
  have z1:t1.fill=0->m1=0:=λz=>by
   have hp:(aA m1).length=0:=by
    unfold qfC at z
    rw[T1.pl,qat]at z;lia
   have:=me hm1
   rw[qeY.mp hp]at this
   exact this.symm
  have hled:(t1.led&&t2.led)=!byT w:=by rw[T1.led,T2.led];cases byT w<;>rfl
  have hpl:(t1.plain&&t2.plain)=true:=by rw[T1.plain,T2.plain];rfl
  generalize hrd:t1.road t2=rd
  unfold SetTable.road at hrd
  by_cases hf0:(t1.fill != 0)=true
  ·rw[if_pos hf0]at hrd
   subst hrd
   dsimp only
   refine qaa (Q:=_) ((keepO sb1).unseen ?_)
   rw[<-qgj]
   refine qaa (pN (λl s'=>∃ h' m',s'={ s with heap:=h' }/\qbm r s.heap h'/\bg w h' r m' 0/\m'|||gw (ko l)=m1|||m2/\Cj l) (λx l s' hJ=>?_) _ _ _ ⟨h1,m1,rfl,sb1,S1',?_,oa _ _ _ _ _⟩ λs' hJ=>?_)
   ·obtain⟨h',m',rfl,sb,S',hbm,hE⟩:=hJ
    obtain⟨k,tk,hk,rfl⟩:=hE x qak
    dsimp only
    refine qaa (qbk (sO (s:={ s with heap:=h' }) S' hk (.inr (qcf _)) λh2 d' b sb2 S2' hd'=>?_))
    have hd0:d'=0:=by rcases hd' with z|z<;>exact z
    subst hd0
    have sb3:qbm r s.heap h2:=sb.trans sb2
    refine qaa (he { s with heap:=h2 } _ (keepO sb3) ?_)
    refine qaa ((keepO sb3).state (s:={ s with heap:=h2 }) λt T=>?_)
    simp only[bne_self_eq_false,qaq,↓reduceIte]
    refine qab ⟨rfl,h2,_,rfl,sb3,S2',?_,λe he=>hE e (qah _ he)⟩
    rw[<-hbm]
    show _=m'|||gw ((k:Int).toNat::ko l)
    rw[qaK,oW,qlN]
   ·rw[oR (jr ..),me hm2]
   ·obtain⟨h',m',rfl,sb,S',hbm,hE⟩:=hJ
    have e0:m'=m1|||m2:=by rw[<-hbm];exact (qjp m').symm
    rw[e0]at S'
    exact qab (h h' sb S')
  ·rw[if_neg hf0]at hrd
   have hm10:m1=0:=z1 (by simpa using hf0)
   subst hm10
   rw[qge]at h
   split at hrd
   ·subst hrd
    dsimp only
    have T':fB (byT w) { t2 with finger:=t1.finger,led:=t1.led&&t2.led,moves:=t1.moves,plain:=t1.plain&&t2.plain } m2 0:=⟨T2.msk,T2.pl,T2.du,hled,hpl⟩
    obtain⟨o',ho',hx',hd',S'⟩:=gi (w:=w) (f':=f) ho1 hx1 hd1 hm2 (by decide) (qfx _) T'
    exact qc6 ho1 hd1 (h _ (sb1.trans (qa8 ..)) S') (eP hm2 f)
   ·subst hrd
    dsimp only
    refine qaa ?_
    rw[aY.hashes,xv hm2 T1.msk]
    wp_delta
    have hs:((qet (aA m2).length).filterMap ((aY m2 f)[·]?))=aY m2 f:=by rw[<-aY.size m2 f];exact lc _
    simp only[hs,bne_self_eq_false,qaq,↓reduceIte]
    refine qab ?_
    dsimp only
    have T':fB (byT w) (⟨t1.mask,(aA m2).toArray,#[],t1.finger,t1.led&&t2.led,t1.moves,t1.plain&&t2.plain⟩:qcj) m2 0:=⟨T1.msk,rfl,by simp[aA],hled,hpl⟩
    obtain⟨o',ho',hx',hd',S'⟩:=gi (w:=w) (f':=f) ho1 hx1 hd1 hm2 (by decide) (qfx _) T'
    exact qc6 ho1 hd1 (h _ (sb1.trans (qa8 ..)) S') (eP hm2 f)
end
theorem sn:qjh table "set.__or__" = some qcs.«frozenset.__or__»:=
 qgB (id':="frozenset.__or__") (by kernel_rfl) rfl (by decide +kernel) (by kernel_rfl)
theorem qO:qjh table "set.__xor__" = some qcs.«frozenset.__xor__»:=
 qgB (id':="frozenset.__xor__") (by kernel_rfl) rfl (by decide +kernel) (by kernel_rfl)
theorem np:ql6 (.type "set") (.type "set")=pure true:=by rw[qen];kernel_rfl
section
variable {prog:qaY}{w:World}{A:qa9}{E:Value->qaj->Prop}{s:qaj}{a b r o:Addr}{m m1 m2 d k ep:Nat}{f:Nat->Tok}
theorem jW {Q:Bool->qaj->Prop} (hT:s.TypeIs (.ref a) "set") (h:Q true s):wpAny (model prog w) A (qc0 (.ref a)) Q E s:=by
 unfold qc0 orM
 refine qaa (qdR (T:="set") (b:=true) hT np ?_)
 exact qab h
theorem vi {Q:Value->qaj->Prop} (hT:s.TypeIs (.ref a) "set") (h:Q (.type "set") s):wpAny (model prog w) A (qfH a) Q E s:=by
 unfold qfH
 refine qaa (qdR (T:="set") (b:=true) hT np ?_)
 exact qab h
theorem yv {Q:Value->qaj->Prop} (h:bg w (s.heap.push { cls:=.type "set",dict:=none,data:=.set #[] 0 (.fresh 0 0 (!byT w)) }) s.heap.objs.size 0 0->Q (.ref s.heap.objs.size) { s with heap:=s.heap.push { cls:=.type "set",dict:=none,data:=.set #[] 0 (.fresh 0 0 (!byT w)) } }) :
  wpAny (model prog w) A (newSet (.type "set")) Q E s:=by
 unfold newSet
 refine qaa (dN ?_)
 simp only[newObj]
 refine qaa (qj9 (qab (h ⟨_,qau _ rfl,?_⟩)))
 exact⟨by decide,by decide,rfl,⟨rfl,rfl,rfl⟩,λ_=>0,0,.fresh 0 0 (!byT w),by simp[aY,aA],⟨by simp[qd1,kg],by simp[qd1,aA],by simp[qd1,aA],rfl,rfl⟩⟩
theorem bg.keep {h h':Heap} (S:bg w h a m d) (hne:a≠r) (sb:qbm r h h'):bg w h' a m d:=S.at' λo q=>(sb.2 a hne).trans q
theorem bM.keep {h h':Heap} (S:bM w h a m d f ep) (hne:a≠r) (sb:qbm r h h'):bM w h' a m d f ep:=S.at' λo q=>(sb.2 a hne).trans q
theorem Az {id:String} (s':qaj) (Q':Unit->qaj->Prop) (S:bM w s'.heap o m 0 f ep) (h:Q' () s'):wpAny (model prog w) A (qfi id o ep) Q' E s':=by
 unfold qfi qjc
 refine qaa (qaa (S.state λt T=>qab ?_))
 simp only[bne_self_eq_false,qaq,↓reduceIte]
 exact qab h
theorem zH {id:String}{Q:Unit->qaj->Prop} (hne:r≠o) (S1:bg w s.heap r m1 0) (S2:bg w s.heap o m2 0)
  (h:∀ h',qbm r s.heap h'->bg w h' r (m1|||m2) 0->Q () { s with heap:=h' }):wpAny (model prog w) A (qfQ id r o) Q E s:=by
 obtain⟨f,ep,D⟩:=S2.dat
 unfold qfQ qjc
 refine qaa (qaa (D.state λt T=>qab ?_))
 exact r4 hne S1 D (λs' Q' Sd hq=>Az s' Q' Sd hq) h
theorem pP {id:String}{Q:Unit->qaj->Prop} (hne:r≠o) (S1:bg w s.heap r m1 0) (S2:bg w s.heap o m2 0)
  (h:∀ h',qbm r s.heap h'->bg w h' r (m1|||m2) 0->Q () { s with heap:=h' }):wpAny (model prog w) A (qcU id r (.ref o)) Q E s:=by
 unfold qcU
 refine qaa (jW S2.type ?_)
 rw[if_pos rfl]
 refine qaa (m:=pure o) (qab ?_)
 exact zH hne S1 S2 h
theorem yQ {Q:Value->qaj->Prop} (S1:bg w s.heap a m1 0) (S2:bg w s.heap b m2 0) (hab:a≠b)
  (h:∀ h' p,(∀ c o,s.heap.get? c=some o->h'.get? c=some o)->s.heap.objs.size<=p->bg w h' p (m1|||m2) 0->Q (.ref p) { s with heap:=h' }) :
  wpAny (model prog w) A (qbT .BitOr (.ref a) (.ref b)) Q E s:=by
 refine qj8 (op:=.BitOr) (T:="set") S1.type S2.type PySem.F.fills_set_or qin (qbd qin S1.type sn ?_ (PySem.F.args_set_or_2 _ _))
 unfold qcs.«frozenset.__or__»
 wp_delta
 unfold qfO qgk
 simp only[qcM,qbr,qaq,↓reduceIte,qbx,qam,bne_self_eq_false]
 refine qaa (qaa (qab (qab ?_)))
 dsimp only
 refine qaa ?_
 unfold andM
 refine qaa (jW S1.type ?_)
 show wpAny _ _ (qc0 (.ref b)) _ _ _
 refine jW S2.type ?_
 simp only[qbr,qaq,↓reduceIte]
 unfold qde
 refine qaa (qab ?_)
 try dsimp only
 refine qaa ?_
 wp_delta
 unfold qj2
 refine qaa (qaa (vi S1.type ?_))
 refine qaa (yv λS0=>?_)
 have la:a<s.heap.objs.size:=let ⟨o,ho,_⟩:=S1;qao ho
 have lb:b<s.heap.objs.size:=let ⟨o,ho,_⟩:=S2;qao ho
 refine qaa (m:=pure s.heap.objs.size) (qab ?_)
 have S1':bg w (s.heap.push { cls:=.type "set",dict:=none,data:=.set #[] 0 (.fresh 0 0 (!byT w)) }) a m1 0:=S1.at' λo e=>qae _ e
 obtain⟨f1,ep1,D1⟩:=S1'.dat
 refine qaa (r4 (s:={ s with heap:=s.heap.push { cls:=.type "set",dict:=none,data:=.set #[] 0 (.fresh 0 0 (!byT w)) } }) (qbu la) S0 D1 (λs' Q' _ hq=>qab hq) λh1 sb1 T1=>?_)
 refine qab ?_
 rw[qge]at T1
 have hb:(Value.ref b != Value.ref a)=true:=by simp[qdi hab]
 rw[if_pos hb]
 have S2':bg w h1 b m2 0:=(S2.at' λo e=>qae _ e).keep (qar lb) sb1
 refine qaa (m:=pure s.heap.objs.size) (qab ?_)
 refine qaa (qbk ?_)
 refine pP (s:={ s with heap:=h1 }) (qbu lb) T1 S2' λh2 sb2 T2=>?_
 refine qab (qab ⟨_,rfl,?_,h h2 _ (λc o e=>?_) (qap _) T2⟩)
 ·exact λe=>nomatch e
 ·have hc:c≠s.heap.objs.size:=qar (qao e)
  exact (sb2.2 c hc).trans ((sb1.2 c hc).trans (qae _ e))
end
section
variable {prog:qaY}{w:World}{A:qa9}{E:Value->qaj->Prop}{s:qaj}{a b r o:Addr}{m m1 m2 d k ep:Nat}{f:Nat->Tok}
theorem BN (h0:m&&&d=0):(m^^^1 <<< k)&&&(d|||1 <<< k)=0↔m.testBit k=true:=by
 constructor
 ·intro h
  have:=congrArg (λx=>x.testBit k) h
  simp only[qex,qd2,qco,iJ,qcf,decide_true,Bool.or_true,qkB]at this
  simpa using this
 ·intro h
  apply qcv
  intro j
  have hj:=congrArg (λx=>x.testBit j) h0
  simp only[qex,qcf]at hj
  rw[qex,qd2,qco,iJ,qcf]
  by_cases e:k=j
  ·subst e;rw[h];simp
  ·rw[decide_eq_false e,qhS,qeZ,hj]
theorem wu (h:m.testBit k=false):m|||1 <<< k=m^^^1 <<< k:=by
 apply qcv
 intro j
 rw[qco,qd2,iJ]
 by_cases e:k=j
 ·subst e;rw[h];simp
 ·rw[decide_eq_false e];simp
theorem zP (hm:m<64) (hk:k<6) (h1:m.testBit k=true) (f:Nat->Tok):qeP (aY m f) (qaD (aA m).toArray k)=aY (m^^^1 <<< k) f:=by
 apply qbg.mp
 unfold qeP
 rw[qbe,qbV,qbV,aY.toList,aY.toList,(xk hm hk h1).2,qa5,aY.size]
 simp only[qb4,qeI,qgV,qh8,qkx]
 congr 1
 rw[qcD (by simp)]
theorem CU {t:qcj}{by_:Bool} (T:fB by_ t m d) (hm:m<64) (hd:d<64) (hk:k<6) (h1:m.testBit k=true) (h2:d.testBit k=false):fB by_ (t.drop (qaD (aA m).toArray k)) (m^^^1 <<< k) (d|||1 <<< k):=by
 have e:t.place[qaD (aA m).toArray k]?=some k:=by rw[T.pl];simpa using (xk hm hk h1).1
 unfold SetTable.drop
 rw[e]
 refine⟨T.msk,?_,?_,T.led,T.plain⟩
 ·apply qbg.mp
  show (qeP t.place (qaD (aA m).toArray k)).toList=_
  unfold qeP
  rw[T.pl,qbe,qbV,qbV,(xk hm hk h1).2]
  simp only[qb4,qeI,qgV]
  congr 1
  rw[qcD (by simp)]
 ·apply qbg.mp
  show (qdh t.dummies (qaD t.dummies k) k).toList=_
  rw[qcS,T.du,wV hd hk h2]
theorem zV (hd:d<64) (hk:k<6):d|||1 <<< k<64:=t0 hd hk
theorem Ar {tk:Tok}{Q:Unit->qaj->Prop} (S:bg w s.heap a m d) (hk:k<6) (hdk:d.testBit k=false)
  (h:∀ h' d',qbm a s.heap h'->bg w h' a (m^^^1 <<< k) d'->(∀ j,j≠k->d.testBit j=false->d'.testBit j=false)->Q () { s with heap:=h' }) :
  wpAny (model prog w) A (qfu [Value.int k tk] (do
   if !(<-qk3 a (.int k tk) (k:Int)) then
    let _ <-qf6 a (.int k tk) (k:Int))) Q E s:=by
 obtain⟨ob,ho,hm,hd,h0,hx,f,ep,t,hdat,T⟩:=id S
 have hf:=T.fits hm hd h0 f
 have hel:=xy (prog:=prog) (w:=w) m f
 have es:s={ s with heap:=s.heap }:=by cases s;rfl
 have key:(qd0 prog w).is (k:Int) (.int k tk)=true:=qhv _ _ _ _
 have hh:(k:Int)=(qd0 prog w).hash (k:Int):=(sv hk).symm
 refine qbk (qaa ?_)
 unfold qk3 setFind setFindIn
 refine qaa (qaa (qcF ho hdat hf ?_))
 dsimp only
 rw[byScan_of (knd:=qd0 prog w) rfl (oQ hm f) hel]
 simp only[↓reduceIte]
 refine qaa (qdG ?_)
 refine qaa ?_
 rw[show qlZ a (Value.int k tk) (k:Int) false (aY m f)=qlZ a (Value.int k tk) ((qd0 prog w).hash (k:Int)) false (aY m f) from by rw[<-hh]]
 refine qk1 (knd:=qd0 prog w) key ho hdat hf hel ?_
 rw[BU hm hk f]
 cases hb:m.testBit k with
 |true=>
  rw[if_pos rfl]
  dsimp only
  refine qab ?_
  dsimp only
  refine qaa (qcF ho hdat hf ?_)
  dsimp only
  rw[qbt,zP hm hk hb f]
  have T':=CU T hm hd hk hb hdk
  obtain⟨o1,ho1,hx1,hd1,S1⟩:=gi (w:=w) (f':=f) ho hx hdat (uU hm hk) (zV hd hk) ((BN h0).mpr hb) T'
  refine qaa (qc6 ho hdat ?_ (eP (uU hm hk) f))
  refine qaa (wpAny_point (qab ?_))
  simp only[qbr,qaq,↓reduceIte]
  refine qab (h _ _ (qa8 ..) S1 λj hj hdj=>?_)
  rw[qco,iJ,hdj,decide_eq_false (qdi hj)];rfl
 |false=>
  rw[if_neg qan]
  dsimp only
  refine qab ?_
  dsimp only
  refine qab ?_
  simp only[qeh,↓reduceIte]
  refine qaa (sO S hk (.inr hdk) λh' d' b sb S' hd'=>qab ?_)
  rw[wu hb]at S'
  refine h h' d' sb S' λj hj hdj=>?_
  rcases hd' with z|z
  ·rw[z];exact hdj
  ·rw[z];exact qcf _
def uC (l:List Nat):Nat:=l.foldl (λm k=>m^^^1 <<< k) 0
theorem mG:∀ (l:List Nat) (m:Nat),l.foldl (λm k=>m^^^1 <<< k) m=m^^^uC l
 |[],m=>(qlK m).symm
 |k::l,m=>by
  unfold uC
  rw[qby,qby,mG l,mG l (0^^^1 <<< k),qlJ,qkM]
theorem rL (k:Nat) (l:List Nat):uC (k::l)=1 <<< k^^^uC l:=by
 show (k::l).foldl (λm k=>m^^^1 <<< k) 0=_
 rw[qby,mG,qlJ]
theorem rN (j:Nat):∀ l:List Nat,l.Nodup->(uC l).testBit j=decide (j∈l)
 |[],_=>by simp[uC]
 |k::l,hn=>by
  have hn':=qbR.mp hn
  rw[rL,qd2,iJ,rN j l hn'.2]
  by_cases e:k=j
  ·subst e;simp[hn'.1]
  ·rw[decide_eq_false e,Bool.false_xor]
   simp[show ¬ j=k from λz=>e z.symm]
theorem yX {l:List Nat} (h:l.Nodup):uC l=gw l:=by
 apply qcv
 intro j
 rw[rN j l h,gr]
theorem vn (m:Nat):(aA m).Nodup:=qkS _ qgY
theorem CZ {Q:Value->qaj->Prop} (S1:bg w s.heap a m1 0) (S2:bg w s.heap b m2 0) (hab:a≠b)
  (h:∀ h' p d,(∀ c o,s.heap.get? c=some o->h'.get? c=some o)->s.heap.objs.size<=p->bg w h' p (m2^^^m1) d->Q (.ref p) { s with heap:=h' }) :
  wpAny (model prog w) A (qbT .BitXor (.ref a) (.ref b)) Q E s:=by
 refine qj8 (op:=.BitXor) (T:="set") S1.type S2.type PySem.F.fills_set_xor qh6 (qbd qh6 S1.type qO ?_ (PySem.F.args_set_xor_2 _ _))
 unfold qcs.«frozenset.__xor__»
 wp_delta
 unfold qfO qgk
 simp only[qcM,qbr,qaq,↓reduceIte,qbx,qam,bne_self_eq_false]
 refine qaa (qaa (qab (qab ?_)))
 dsimp only
 refine qaa ?_
 unfold andM
 refine qaa (jW S1.type ?_)
 show wpAny _ _ (qc0 (.ref b)) _ _ _
 refine jW S2.type ?_
 simp only[qbr,qaq,↓reduceIte]
 unfold qde
 refine qaa (qab ?_)
 try dsimp only
 refine qaa ?_
 wp_delta
 unfold qj0
 refine qaa (vi S1.type ?_)
 refine qaa (qaa (yv λS0=>?_))
 have la:a<s.heap.objs.size:=let ⟨o,ho,_⟩:=S1;qao ho
 have lb:b<s.heap.objs.size:=let ⟨o,ho,_⟩:=S2;qao ho
 refine qaa (m:=pure s.heap.objs.size) (qab ?_)
 refine qaa (qbk ?_)
 have S2':bg w (s.heap.push { cls:=.type "set",dict:=none,data:=.set #[] 0 (.fresh 0 0 (!byT w)) }) b m2 0:=S2.at' λo e=>qae _ e
 refine pP (s:={ s with heap:=s.heap.push { cls:=.type "set",dict:=none,data:=.set #[] 0 (.fresh 0 0 (!byT w)) } }) (qbu lb) S0 S2' λh1 sb1 T1=>?_
 rw[qge]at T1
 refine qab ?_
 refine qaa (m:=pure s.heap.objs.size) (qab ?_)
 refine qaa (qbk ?_)
 have S1':bg w h1 a m1 0:=(S1.at' λo e=>qae _ e).keep (qar la) sb1
 obtain⟨f1,ep1,D1⟩:=S1'.dat
 unfold qjZ
 have hne:(Value.ref a==Value.ref s.heap.objs.size)=false:=by simp[qar la]
 rw[if_neg (by rw[hne];exact qan)]
 dsimp only
 refine qaa (qf2 (T:="set") (S1'.type (s:={ s with heap:=h1 })) ?_)
 rw[if_neg (by decide)]
 refine qaa (jW (s:={ s with heap:=h1 }) S1'.type ?_)
 rw[if_pos rfl]
 refine qaa (qab ?_)
 refine qaa (m:=pure a) (qab ?_)
 unfold qjc
 refine qaa (qaa (D1.state (s:={ s with heap:=h1 }) λt T=>qab ?_))
 dsimp only
 refine qbk ?_
 refine qaa (D1.unseen (s:={ s with heap:=h1 }) ?_)
 rw[<-qgj]
 have kp:∀ {h':Heap},qbm s.heap.objs.size h1 h'->bM w h' a m1 0 f1 ep1:=λsb=>D1.keep (qar la) sb
 refine qaa (pN (λl s'=>∃ h' m' d',s'={ s with heap:=h' }/\qbm s.heap.objs.size h1 h'/\bg w h' s.heap.objs.size m' d'/\m'^^^uC (ko l)=m2^^^m1/\Cj l/\(ko l).Nodup/\∀ j∈ko l,d'.testBit j=false) (λx l s' hJ=>?_) _ _ _ ⟨h1,m2,0,rfl,qep ..,T1,?_,oa _ _ _ _ _,(jr w a m1 f1 ep1).nodup_iff.mpr (vn m1),λj _=>qcf j⟩ λs' hJ=>?_)
 ·obtain⟨h',m',d',rfl,sb,S',hbm,hE,hN,hD⟩:=hJ
  obtain⟨k,tk,hk,rfl⟩:=hE x qak
  have eK:ko (((k:Int),Value.int k tk)::l)=k::ko l:=by show (k:Int).toNat::ko l=_;rw[qaK]
  rw[eK]at hbm hN hD
  dsimp only
  refine qaa (Ar (s:={ s with heap:=h' }) S' hk (hD k qak) λh2 d2 sb2 S2' hd2=>?_)
  refine qaa (Az { s with heap:=h2 } _ (kp (sb.trans sb2)) (qab ⟨rfl,h2,_,d2,rfl,sb.trans sb2,S2',?_,λe he=>hE e (qah _ he),(qbR.mp hN).2,λj hj=>hd2 j (λe=>(qbR.mp hN).1 (e ▸ hj)) (hD j (qah _ hj))⟩))
  rw[<-hbm,rL,qkM]
 ·rw[yX ((jr w a m1 f1 ep1).nodup_iff.mpr (vn m1)),oR (jr ..),me D1.1]
 ·obtain⟨h',m',d',rfl,sb,S',hbm,hE,hN,hD⟩:=hJ
  have e0:m'=m2^^^m1:=by rw[<-hbm];exact (qlK m').symm
  rw[e0]at S'
  refine qab (qab (qab ⟨_,rfl,(λe=>nomatch e),h h' _ d' (λc o e=>?_) (qap _) S'⟩))
  have hc:c≠s.heap.objs.size:=qar (qao e)
  exact (sb.2 c hc).trans ((sb1.2 c hc).trans (qae _ e))
end
section
variable {prog:qaY}{w:World}{A:qa9}{E:Value->qaj->Prop}{s:qaj}{a:Addr}{m d ep:Nat}{f:Nat->Tok}
theorem uX {Q:List Value->qaj->Prop} (S:bM w s.heap a m d f ep) (hh:A.handled=none)
  (h:∀ h' tk,(∀ b o,s.heap.get? b=some o->h'.get? b=some o)->s.heap.objs.size<h'.objs.size->Q ((jP w a m f ep).toList.map (·.2)) { s with heap:=h',toks:=tk }) :
  wpAny (model prog w) A (qjj (.ref a)) Q E s:=by
 have hlt:a<s.heap.objs.size:=let ⟨_,_,_,o,t,ho,_⟩:=S;qao ho
 have hn:(aA m).length<=qaO:=by have:=iT S.1;rw[qbM];lia
 unfold qjj
 refine qaa (qe0 (qb2 qgu ?_))
 show wpAny _ _ (do again (.builtin "list.__iadd__" ⟨[<-ql4 [],.ref a],[]⟩)) _ _ s
 refine qaa (qdH (qab ⟨qdX _ (by decide +kernel),qb2 qhW ?_⟩))
 show wpAny _ _ (qeb (.ref s.heap.objs.size) (.ref a) (.ref s.heap.objs.size)) _ _ { s with heap:=s.heap.push (qcc "list" #[] 0) }
 refine qfI (A:=A) (R:=λr s'=>match r with
   | .ok (.ret v)=>wpAny (model prog w) A (match v with
     |.ref a=>do
      let o <-load a
      match o.data with
      |.seq xs _=>pure xs.toList
      |_=>qdZ "internal:collect"
     |_=>qdZ "internal:collect") Q E s'
   |.ok _=>False
   |.error e=>E e s') (s:={ s with heap:=s.heap.push (qcc "list" #[] 0) }) (Cb prog w a m d ep f) hh (S.at' λo e=>qae _ e) s.heap.objs.size (qbu hlt) (qbu hlt) (.ref s.heap.objs.size) 0 (qau _ rfl) (λh' tk acc c hk hS hI=>?_) hn
 show wpAny (model prog w) A (do
   let o <-load s.heap.objs.size
   match o.data with
   |.seq xs _=>pure xs.toList
   |_=>qdZ "internal:collect") Q E { s with heap:=h',toks:=tk }
 refine qaa (qeG hS ?_)
 show wpAny _ _ (pure acc.toList) Q E _
 have e:acc.toList=(jP w a m f ep).toList.map (·.2):=by
  apply qgF
  intro i
  rw[qaZ,qbN,qbN]
  by_cases hi:i<acc.size
  ·obtain⟨e,he,hv⟩:=hI.2 i acc[i] (qas hi)
   rw[he,qas hi,hv];rfl
  ·rw[qba (by lia),qba (by rw[lK,<-hI.1];lia)];rfl
 rw[e]
 refine qab (h h' tk (λb o q=>?_) (qao hS))
 exact hk b o (qar (qao q)) (qae _ q)
theorem vO (w:World) (a:Addr) (m:Nat) (f:Nat->Tok) (ep:Nat):∀ {l:List (Int×Value)},Cj l->qdC (l.map (·.2)) (l.map (·.1))
 |[],_=>.nil
 |e::l,h=>by
  obtain⟨k,t,_,rfl⟩:=h e qak
  exact .cons _ _ (vO w a m f ep λe he=>h e (qah _ he))
theorem yU (m:Nat):((aA m).map λk=>((k:Nat):Int)).Pairwise (·<=·):=by
 rw[qci]
 have:(qaN 6).Pairwise (·<·):=qfb
 exact (this.filter _).imp λ{a b} h=>by lia
theorem wF {Q:Value->qaj->Prop} (S:bg w s.heap a m d) (hh:A.in1.handled=none)
  (h:∀ (h':Heap) (tk:Nat) (p:Addr) (ep:Nat) (out:List Value),(∀ b o,s.heap.get? b=some o->h'.get? b=some o)->s.heap.objs.size<=p->h'.get? p=some (qcc "list" out.toArray ep)->aP (((aA m).map λk=>((k:Nat):Int)).map V.int) out->Q (.ref p) { s with heap:=h',toks:=tk }) :
  wpAny (model prog w) A (call (.builtin "sorted") [.ref a]) Q E s:=by
 obtain⟨f,ep,D⟩:=S.dat
 refine qdD qii qhG qhH (qhI _) ?_
 unfold qcs.«sorted»
 refine qaa (m:=qiZ "sorted" 1 1 _) (qab ?_)
 refine qaa (uX D hh λh1 tk hk hlt=>?_)
 have hI:=vO w a m f ep (oa w a m f ep)
 generalize hvs:(jP w a m f ep).toList.map (·.2)=vs at hI ⊢
 have hv64:vs.length<=64:=by
  have:=iT D.1
  rw[<-hvs,qag,qaA,lK];lia
 refine qaa (qdH ?_ (by rw[qbM];lia))
 have hoL:(h1.push (qcc "list" vs.toArray 0)).get? h1.objs.size=some (qcc "list" vs.toArray 0):=qau _ rfl
 show wpAny _ _ _ _ _ { s with heap:=h1.push (qcc "list" vs.toArray 0),toks:=tk }
 refine qaa (qbk (qbd qgA ⟨_,hoL,rfl⟩ qga (jX (O:=OI) (rk:=λp=>[bu p.1]) (S:=λp=>∃ n t,p.1=.int n t) (s:={ s with heap:=h1.push (qcc "list" vs.toArray 0),toks:=tk }) hoL hv64 (λh' _=>⟨qjf,vm (s:={ s with heap:=h',toks:=tk }) hI⟩) (λv hv=>jK hI v hv) λout a1 a2=>⟨_,rfl,?_⟩) (qgD _)))
 refine qab ⟨_,rfl,?_⟩
 obtain⟨ep',he⟩:=qjb (out:=out.toArray) hoL
 refine h _ tk h1.objs.size ep' out (λb o q=>?_) (qdt hlt) he ?_
 ·have q1:=hk b o q
  have hb:b<h1.objs.size:=qao q1
  show (qht (h1.push (qcc "list" vs.toArray 0)) h1.objs.size vs out.toArray).get? b=some o
  rw[qiI (qar hb) (by rw[qhu];exact qa0 hb),qcZ _ _ _ (qar hb)]
  exact q1
 ·have ho:∀ u∈out,∃ n t,u=.int n t:=λu hu=>jK hI u (a1.mem_iff.mp hu)
  have hpm:(out.map bu).Perm ((aA m).map λk=>((k:Nat):Int)):=by
   have z1:=a1.map bu
   rw[mk hI]at z1
   have z2:=(jr w a m f ep).map (λk=>((k:Nat):Int))
   refine z1.trans (List.Perm.trans ?_ z2)
   unfold ko
   rw[qaJ]
   refine List.Perm.of_eq (qaP λe he=>?_)
   obtain⟨k,t,_,rfl⟩:=oa w a m f ep e he
   simp
  have hs:(out.map bu).Pairwise (·<=·):=by
   rw[qci]
   refine a2.imp λ{x y} q=>?_
   have q':bU [bu y] [bu x]=false:=q
   by_cases e:bu y=bu x
   ·lia
   ·have:bU [bu y] [bu x]=decide (bu y<bu x):=by show (if _ then _ else _)=_;rw[if_neg e]
    rw[this,decide_eq_false_iff_not]at q';lia
  have e:=nz hpm hs (yU m)
  have hvv:=iO (ms ho)
  rw[e]at hvv;exact hvv
end
def PX (X:Cx) (z:Bool) (e:Expr) (t:St->Hp->(Nat->Hp->Prop)->Prop):Prop:=
 ∀ (pins:List (Addr×Obj)) (s:qaj) (σ:St) (H:Hp) (Q:Nat->Hp->Prop),Inv X pins σ H s->t σ H Q->wpAny (model X.prog X.w) X.A (eval e X.env)
  (λu s'=>∃ a o m d H',u=.ref a/\s'.heap.get? a=some o/\Cp X.w o m d/\(z=true->d=0)/\H' a=none/\a≠X.env.locals/\a∉X.fs/\(∀ p∈pins,p.1≠a)/\Inv X pins σ H' s'/\Q m H') X.xe s
abbrev Xf:=Ev->Sto->Option (Nat×Sto)
def tIX (K:qai) (env:Ev) (st:Sto) (r:Nat×Sto):St->Hp->(Nat->Hp->Prop)->Prop:=λσ H Q=>∃ φ,Er K H φ env σ/\Sr K H φ st/\∀ H' φ',Fw φ φ' H H'->Sr K H' φ' r.2->Q r.1 H'
structure IX (K:qai) (X:Cx) (z:Bool) (e:Expr) (f:Xf):Prop where
 run:∀ env st r,f env st=some r->PX X z e (tIX K env st r)
def er (fe:Ef):Xf
 |env,st=>(fe env st).bind λx=>match x.1 with
 |.d (.tup ds)=>(ba ds).bind λns=>if in6 ns=true then some (aK ns,x.2) else none
 |_=>none
def pq (fa fb:Xf):Xf
 |env,st=>(fa env st).bind λx=>(fb env x.2).map λy=>(x.1|||y.1,y.2)
def lz (fa fb:Xf):Xf
 |env,st=>(fa env st).bind λx=>(fb env x.2).map λy=>(y.1^^^x.1,y.2)
def jA (fx:Xf):Lf
 |env,st=>(fx env st).map λx=>((aA x.1).map λk=>D.int (k:Nat),x.2)
section
variable {K:qai}{X:Cx}{pos p:Pos}{e a b:Expr}{fe:Ef}{fa fb:Xf}
theorem tV (hg:Gl X "set") (hm:X.mg "set" = none) (ha:IE K X e fe) (hc:X.calm=true:=by rfl) (hs:aU e=true:=by rfl) (hK:X.K=K:=by rfl):IX K X true (.Call (.Name "set" p) [e] [] pos) (er fe):=by
 subst hK
 refine⟨λenv st r hr=>?_⟩
 simp only[er,qac]at hr
 obtain⟨⟨x,s1⟩,hx,hr⟩:=hr
 dsimp only at hr
 split at hr
 case h_2=>cases hr
 rename_i ds
 obtain⟨ns,hns,hr⟩:=qac.mp hr
 split at hr
 ·rename_i h6
  cases hr
  intro pins s σ H Q I h
  refine qcW (il I hg hm qgR ?_)
  refine qb8 ?_ (bv hs) (cH (es:=[]) rfl)
  rw[bv hs]
  show wpAny _ _ (qf5 ((false,eval e X.env)::qes pos (qbP [] X.env))) _ _ s
  obtain⟨φ,hE,hS,q⟩:=h
  refine qcN (thn ((ha.run _ _ _ hx) pins s σ H (λv H'=>∃ φ',Sr X.K H' φ' s1/\Fw φ φ' H H'/\Rw X.K H' φ' (.d (.tup ds)) v) I ⟨φ,hE,hS,λv H' φ' f1 S1 w1=>⟨φ',S1,f1,w1⟩⟩) λu s2 ⟨v,H1,I1,r1,φ1,S1,f1,w1⟩=>?_)
  show wpAny _ _ (qf5 []) _ _ s2
  refine qdu ?_
  obtain⟨ad,vs,rfl,h1,h2⟩:=w1
  cases r1
  cases dL hns
  cases h2.ints
  have fin:∀ (h':Heap) (tk:Nat),bg X.w h' s2.heap.objs.size (aK ns) 0->(∀ b o,b<s2.heap.objs.size->s2.heap.get? b=some o->h'.get? b=some o)->
    ∃ a o m d H',Value.ref s2.heap.objs.size=.ref a/\(({ s2 with heap:=h',toks:=tk }:qaj)).heap.get? a=some o/\Cp X.w o m d/\(true=true->d=0)/\H' a=none/\a≠X.env.locals/\a∉X.fs/\(∀ p∈pins,p.1≠a)/\Inv X pins σ H' { s2 with heap:=h',toks:=tk }/\Q m H':=λh' tk ⟨o,ho,so⟩ hk=>by
   refine⟨_,o,_,0,H1,rfl,ho,so,λ_=>rfl,I1.hok.fresh (qap _),qbu I1.lt,I1.nofs (qap _),λp hp=>qar (qao (I1.pin p (qav _ hp)).1),I1.kept (λb u e=>hk b u (qao e) e),q H1 φ1 f1 S1⟩
  obtain⟨its,rv,pl,_⟩:=I1.tuple (SqT.of h1)
  exact oV (items:=its.toArray) (ns:=ns) (I1.ok.hd hc) pl (by simpa using kQ rv) h6 fin
 ·cases hr
theorem By {op:Operator}{g:Nat->Nat->Nat}{env:Ev}{st:Sto}{x y:Nat×Sto} (ha:PX X true a (tIX K env st x)) (hb:PX X true b (tIX K env x.2 y))
  (hop:∀ (s:qaj) (u v:Addr) (m1 m2:Nat) (Q:Value->qaj->Prop),bg X.w s.heap u m1 0->bg X.w s.heap v m2 0->u≠v->
    (∀ h' p d,(∀ c o,s.heap.get? c=some o->h'.get? c=some o)->s.heap.objs.size<=p->bg X.w h' p (g m1 m2) d->Q (.ref p) { s with heap:=h' })->wpAny (model X.prog X.w) X.A (qbT op (.ref u) (.ref v)) Q X.xe s) :
  PX X false (.BinOp a op b pos) (tIX K env st (g x.1 y.1,y.2)):=by
 intro pins s σ H Q I h
 obtain⟨φ,hE,hS,q⟩:=h
 refine wpAny_BinOp (thn (ha pins s σ H (λm H'=>m=x.1/\∃ φ',Sr K H' φ' x.2/\Fw φ φ' H H') I ⟨φ,hE,hS,λH' φ' f1 S1=>⟨rfl,φ',S1,f1⟩⟩) λu s1 hu=>?_)
 obtain⟨a1,o1,m1,d1,H1,rfl,g1,so1,z1,n1,l1,fs1,pn1,I1,rfl,φ1,S1,f1⟩:=hu
 have cells:∀ v,o1.data≠.cell v:=λv hv=>by obtain⟨_,_,_,_,f,ep,t,hd,_⟩:=so1;rw[hd]at hv;cases hv
 have I1':Inv X ((a1,o1)::pins) σ H1 s1:=I1.pins_of λp hp=>by
  rcases qay.mp hp with rfl|hp
  ·exact⟨g1,n1,l1,fs1,cells⟩
  ·exact I1.pin p (qav _ hp)
 refine thn (hb ((a1,o1)::pins) s1 σ H1 (λm H'=>m=y.1/\∃ φ',Sr K H' φ' y.2/\Fw φ1 φ' H1 H') I1' ⟨φ1,hE.fw hS f1,S1,λH' φ' f2 S2=>⟨rfl,φ',S2,f2⟩⟩) λv s2 hv=>?_
 obtain⟨a2,o2,m2,d2,H2,rfl,g2,so2,z2,n2,l2,fs2,pn2,I2,rfl,φ2,S2,f2⟩:=hv
 cases z1 rfl
 cases z2 rfl
 have ga:=(I2.pin (a1,o1) (qav _ qak)).1
 refine hop s2 a1 a2 x.1 y.1 _ ⟨o1,ga,so1⟩ ⟨o2,g2,so2⟩ (pn2 _ qak) λh' p d hk hp ⟨o3,g3,so3⟩=>?_
 have I2':Inv X pins σ H2 s2:=I2.pins_of λp hp=>I2.pin p (qav _ (qah _ hp))
 have I3:Inv X pins σ H2 { s2 with heap:=h' }:=I2'.kept (t':=s2.toks) hk
 exact⟨p,o3,_,d,H2,rfl,g3,so3,(λz=>nomatch z),I2.hok.fresh hp,qbu (qaR I2.lt hp),I2.nofs hp,λp' hp'=>qar (qaR (qao (I2'.pin p' (qav _ hp')).1) hp),I3,q H2 φ2 (f1.trans f2) S2⟩
theorem G1 (ha:IX K X true a fa) (hb:IX K X true b fb):IX K X false (.BinOp a .BitOr b pos) (pq fa fb):=by
 refine⟨λenv st r hr=>?_⟩
 simp only[pq,qac,qad]at hr
 obtain⟨x,hx,y,hy,rfl⟩:=hr
 exact By (g:=λm1 m2=>m1|||m2) (ha.run _ _ _ hx) (hb.run _ _ _ hy) λs u v m1 m2 Q S1 S2 hne h=>yQ S1 S2 hne λh' p hk hp S=>h h' p 0 hk hp S
theorem EJ (ha:IX K X true a fa) (hb:IX K X true b fb):IX K X false (.BinOp a .BitXor b pos) (lz fa fb):=by
 refine⟨λenv st r hr=>?_⟩
 simp only[lz,qac,qad]at hr
 obtain⟨x,hx,y,hy,rfl⟩:=hr
 exact By (g:=λm1 m2=>m2^^^m1) (ha.run _ _ _ hx) (hb.run _ _ _ hy) λs u v m1 m2 Q S1 S2 hne h=>CZ S1 S2 hne λh' p d hk hp S=>h h' p d hk hp S
theorem vJ {z:Bool} (hg:Gl X "sorted") (hm:X.mg "sorted" = none) (ha:IX K X z e fa) (hc:X.calm=true:=by rfl) (hs:aU e=true:=by rfl):IL K X (.Call (.Name "sorted" p) [e] [] pos) (jA fa):=by
 refine⟨λenv st r hr=>?_⟩
 simp only[jA,qad]at hr
 obtain⟨x,hx,rfl⟩:=hr
 intro pins s σ H Q I h
 obtain⟨φ,hE,hS,q⟩:=h
 refine qcW (il I hg hm qcK ?_)
 refine qdN ?_ (bv hs) (cH (es:=[]) rfl)
 rw[bv hs]
 show wpAny _ _ (qf5 ((false,eval e X.env)::qes pos (qbP [] X.env))) _ _ s
 refine qcN (thn ((ha.run _ _ _ hx) pins s σ H (λm H'=>m=x.1/\∃ φ',Sr K H' φ' x.2/\Fw φ φ' H H') I ⟨φ,hE,hS,λH' φ' f1 S1=>⟨rfl,φ',S1,f1⟩⟩) λu s1 hu=>?_)
 obtain⟨a1,o1,m1,d1,H1,rfl,g1,so1,z1,n1,l1,fs1,pn1,I1,rfl,φ1,S1,f1⟩:=hu
 show wpAny _ _ (qf5 []) _ _ s1
 refine qdu ?_
 refine wF ⟨o1,g1,so1⟩ (I1.ok.hd hc) λh' tk p' ep out hk hp he hv=>?_
 have hn:H1 p'=none:=I1.hok.fresh hp
 have hlen:out.length<=1000:=by
  have:=iT so1.1
  rw[<-hv.length,qag,qag];lia
 have hlay:Inv X pins σ (upd H1 p' (.lst (((aA x.1).map λk=>((k:Nat):Int)).map V.int))) { s1 with heap:=h',toks:=tk }:=by
  refine I1.laid (t':=tk) (a:=p') (o:=.lst (((aA x.1).map λk=>((k:Nat):Int)).map V.int)) hk hp ⟨?_,out,ep,hv,by simpa [qcc] using he⟩
  rw[hv.length];exact iY hlen
 refine⟨.ref p',_,hlay,rfl,q p' _ H1 φ1 f1 S1 hn ?_⟩
 have:=Rls.of_ints (K:=K) (H:=H1) (φ:=φ1) ((aA x.1).map λk=>((k:Nat):Int))
 rw[qaJ]at this
 exact this
end
theorem pig:∀ (n:Nat) (l:List Nat),(∀ j,j<n->j∈l)->n<=l.length
 |0,_,_=>qaW _
 |n+1,l,h=>by
  have hm:=h n (qb7 n)
  have:=pig n (l.erase n) λj hj=>(qiQ (by lia)).mpr (h j (by lia))
  rw[qh1 hm]at this
  have:0<l.length:=qis hm
  lia
theorem Ij {n:Nat}{l:List Nat} (h:l.length<n):∃ j,j<n/\j∉l:=by
 apply qch
 intro z
 have:=pig n l λj hj=>qch λq=>z ⟨j,hj,q⟩
 lia
theorem Av {l:List Nat}{i j:Nat} (h:i<l.length):l.toArray.getD i j=l[i]:=by
 simp[qfp,h]
theorem oM {l:List Nat} (hl:l.Pairwise (·<·)) (j:Nat):∀ (fuel lo hi:Nat),hi - lo<=fuel->lo<=hi->hi<=l.length->(∀ i (h:i<l.length),i<lo->l[i]<j)->(∀ i (h:i<l.length),hi<=i->j<=l[i])->
  qel l.toArray j fuel lo hi<=l.length/\(∀ i (h:i<l.length),i<qel l.toArray j fuel lo hi->l[i]<j)/\(∀ i (h:i<l.length),qel l.toArray j fuel lo hi<=i->j<=l[i])
 |0,lo,hi,h1,h2,h3,h4,h5=>by
  have:lo=hi:=by lia
  subst this
  exact⟨h3,h4,h5⟩
 |fuel+1,lo,hi,h1,h2,h3,h4,h5=>by
  unfold qel
  by_cases hlt:lo<hi
  ·rw[if_pos hlt]
   dsimp only
   have hm:(lo+hi) / 2<l.length:=by lia
   rw[Av hm]
   by_cases hc:l[(lo+hi) / 2]<j
   ·rw[if_pos hc]
    refine oM hl j fuel _ _ (by lia) (by lia) h3 (λi h hi'=>?_) h5
    by_cases e:i=(lo+hi) / 2
    ·subst e;exact hc
    ·exact qfw (qcT.mp hl i _ h hm (by lia)) hc
   ·rw[if_neg hc]
    refine oM hl j fuel _ _ (by lia) (by lia) (by lia) h4 (λi h hi'=>?_)
    by_cases e:i=(lo+hi) / 2
    ·subst e;exact qhf hc
    ·exact qaL (qhf hc) (qdt (qcT.mp hl _ i hm h (by lia)))
  ·rw[if_neg hlt]
   have:lo=hi:=by lia
   subst this
   exact⟨h3,h4,h5⟩
theorem ql {l:List Nat} (hl:l.Pairwise (·<·)) (j:Nat):qaD l.toArray j<=l.length/\(∀ i (h:i<l.length),i<qaD l.toArray j->l[i]<j)/\(∀ i (h:i<l.length),qaD l.toArray j<=i->j<=l[i]):=by
 unfold qaD
 exact oM hl j _ _ _ (by simp) (qaW _) (by simp) (λi h z=>absurd z (qcq _)) (λi h z=>absurd z (by simp at *;lia))
def ki (l:List Nat) (i:Nat):Nat:=if i=0 then 0 else l.getD (i - 1) 0+1
theorem wj {l:List Nat} (hl:l.Pairwise (·<·)) {i:Nat} (hi:i<=l.length):qaD l.toArray (ki l i)=i:=by
 obtain⟨h1,h2,h3⟩:=ql hl (ki l i)
 generalize hk:qaD l.toArray (ki l i)=k at h1 h2 h3
 by_cases hi0:i=0
 ·subst hi0
  have e:ki l 0=0:=rfl
  rw[e]at h2
  by_cases hk0:k=0
  ·exact hk0
  ·exact absurd (h2 0 (by lia) (by lia)) (qcq _)
 ·have hi1:i - 1<l.length:=by lia
  have e:ki l i=l[i - 1]+1:=by unfold ki;rw[if_neg hi0,qa1,qaE hi1];rfl
  rw[e]at h2 h3
  by_cases c1:k<i
  ·have:=h3 (i - 1) hi1 (by lia);lia
  ·by_cases c2:i<k
   ·have a1:=h2 i (by lia) c2
    have a2:=qcT.mp hl (i - 1) i hi1 (by lia) (by lia)
    lia
   ·lia
def lp (M i:Nat):Nat:=(i*5+1)%M
def lpN (M:Nat):Nat->Nat->Nat
 |0,i=>i
 |n+1,i=>lpN M n (lp M i)
def lpB (M:Nat):Nat->Nat->Nat->Nat
 |0,_,acc=>acc
 |n+1,i,acc=>lpB M n (lp M i) (acc|||1 <<< i)
theorem uE (M j:Nat):∀ n i acc,(lpB M n i acc).testBit j=true->acc.testBit j=true\/∃ q,q<n/\lpN M q i=j
 |0,i,acc,h=>.inl h
 |n+1,i,acc,h=>by
  rcases uE M j n (lp M i) (acc|||1 <<< i) h with z|⟨q,hq,e⟩
  ·rw[qco,iJ,qds]at z
   rcases z with z|z
   ·exact .inl z
   ·exact .inr ⟨0,qlL n,of_decide_eq_true z⟩
  ·exact .inr ⟨q+1,by lia,e⟩
def gM:List Nat:=[7,31,127]
theorem ET:(gM.all λm=>(qaN (m+1)).all λa=>lpB (m+1) (m+1) a 0==2^(m+1) - 1)=true:=by decide +kernel
theorem Gi {m a j:Nat} (hm:m∈gM) (ha:a<m+1) (hj:j<m+1):∃ q,q<m+1/\lpN (m+1) q a=j:=by
 have h:=qaT.mp (qaT.mp ET m hm) a (qbz.mpr ha)
 have:=uE (m+1) j (m+1) a 0 (by rw[eq_of_beq h,Nat.testBit_two_pow_sub_one];exact decide_eq_true hj)
 rcases this with z|z
 ·rw[qcf]at z;cases z
 ·exact z
def dM (m:Nat):Nat->Nat×Nat->Nat×Nat
 |0,x=>x
 |n+1,x=>dM m n (qdg m x.1 x.2)
theorem qc (m:Nat):∀ n x,dM m (n+1) x=qdg m (dM m n x).1 (dM m n x).2
 |0,x=>rfl
 |n+1,x=>qc m n (qdg m x.1 x.2)
theorem qW (m:Nat):∀ n k x,dM m (n+k) x=dM m k (dM m n x)
 |0,k,x=>by rw[qbt];rfl
 |n+1,k,x=>by rw[qlM];exact qW m n k _
theorem xp (m:Nat):∀ n x,(dM m n x).2=x.2 / 32^n
 |0,x=>by simp[dM]
 |n+1,x=>by
  show (dM m n (qdg m x.1 x.2)).2=_
  rw[xp m n]
  show x.2 / 32 / 32^n=_
  rw[qd8,qgW,qlO]
theorem xu (m:Nat):∀ n i,dM m n (i,0)=(lpN (m+1) n i,0)
 |0,i=>rfl
 |n+1,i=>by
  show dM m n (qdg m i 0)=_
  have:qdg m i 0=(lp (m+1) i,0):=rfl
  rw[this,xu m n];rfl
theorem uA {m:Nat} (hm:m∈gM) (i p j:Nat) (hp:p<2^64) (hj:j<m+1):∃ q,q<m+14/\(dM m q (i,p)).1=j:=by
 have e13:(dM m 13 (i,p)).2=0:=by
  rw[xp]
  exact Nat.div_eq_of_lt (qaR hp (by decide))
 have hlt:(dM m 13 (i,p)).1<m+1:=by
  rw[qc m 12]
  exact qgO _ (qlL m)
 obtain⟨q,hq,e⟩:=Gi hm hlt hj
 refine⟨13+q,by lia,?_⟩
 rw[qW]
 have:dM m 13 (i,p)=((dM m 13 (i,p)).1,0):=by rw[<-e13]
 rw[this,xu];exact e
theorem yj (h:Int):qbF h<2^64:=by
 unfold qbF
 lia
structure i9 (b:Bool) (t:qcj) (l:List Nat):Prop where
 msk:t.mask∈gM
 pl:t.place=l.toArray
 ris:l.Pairwise (·<·)
 du:t.dummies=#[]
 led:t.led=!b
 plain:t.plain=true
 few:l.length<=64
 few7:t.mask=7->l.length<=5
 few31:t.mask=31->l.length<=19
theorem lQ {m:Nat} (h:m∈gM):m=7\/m=31\/m=127:=by simpa [gM] using h
section
variable {b:Bool}{t:qcj}{l:List Nat}{j:Nat}{h:Int}{qkp:Nat->Int}
theorem i9.room (T:i9 b t l):l.length<t.mask+1:=by
 have h1:=T.few;have h2:=T.few7;have h3:=T.few31
 rcases lQ T.msk with e|e|e<;>lia
theorem i9.fits (T:i9 b t l):t.fits l.length=true:=by
 have:=T.room
 simp only[qjB,qfC,T.pl,T.du,qat,qbb,beq_iff_eq,decide_eq_true_eq,true_and,qat,qbx]
 lia
theorem sY (j:Nat):qeX #[] j=false:=by simp[qeX]
theorem i9.slot_c (T:i9 b t l) (j:Nat):(t.slot j=.empty/\j∉l)\/∃ i,i<l.length/\t.slot j=.live i:=by
 unfold qhi
 dsimp only
 rw[T.pl,T.du,sY]
 by_cases c:(l.toArray[qaD l.toArray j]?==some j)=true
 ·rw[if_pos c]
  refine .inr ⟨_,?_,rfl⟩
  have:=eq_of_beq c
  by_cases z:qaD l.toArray j<l.length
  ·exact z
  ·rw[qba (by simp;lia)]at this;cases this
 ·rw[if_neg c]
  refine .inl ⟨rfl,λhj=>c ?_⟩
  obtain⟨i,hi,e⟩:=qfW hj
  obtain⟨h1,h2,h3⟩:=ql T.ris j
  generalize qaD l.toArray j=k at h1 h2 h3 ⊢
  have hk:k<=i:=by
   apply qch
   intro z
   have:=h2 i hi (by lia)
   lia
  have hkl:k<l.length:=by lia
  have a1:=h3 k hkl (qap _)
  have a2:l[k]<=j:=by
   by_cases e2:k=i
   ·subst e2;lia
   ·have:=qcT.mp T.ris k i hkl hi (by lia);lia
  have:l.toArray[k]?=some j:=by
   rw[List.getElem?_toArray,qaE hkl];congr 1;lia
  rw[this];simp
theorem i9.slot_e (T:i9 b t l) (hj:j∉l):t.slot j=.empty:=by
 rcases T.slot_c j with z|⟨i,hi,e⟩
 ·exact z.1
 ·exfalso
  unfold qhi at e
  dsimp only at e
  rw[T.pl,T.du,sY]at e
  split at e
  ·rename_i c
   have:=eq_of_beq c
   have hm:=Array.mem_of_getElem? this
   exact hj (by simpa using hm)
  ·simp at e
def vS (t:qcj):Nat->qfh->qfh
 |0,p=>p
 |n+1,p=>vS t n (t.advance p)
theorem u8 (t:qcj):∀ n k p,vS t (n+k) p=vS t k (vS t n p)
 |0,k,p=>by rw[qbt];rfl
 |n+1,k,p=>by rw[qlM];exact u8 t n k _
theorem rm (t:qcj) (p:qfh):(t.advance p).dummy=p.dummy:=by
 unfold qgn
 split
 ·rfl
 ·rfl
theorem i9.go (T:i9 b t l) (hne:∀ i,i<l.length->qkp i≠h):∀ n fuel p,n<fuel->p.dummy=none->t.slot (vS t n p).j=.empty->∃ j,qe9 t qkp h fuel p=some (.empty j none)/\j∉l
 |n,0,p,hn,_,_=>absurd hn (qcq _)
 |n,fuel+1,p,hn,hd,he=>by
  unfold qe9
  rcases T.slot_c p.j with⟨z,zm⟩|⟨i,hi,e⟩
  ·rw[z]
   exact⟨p.j,by dsimp only;rw[hd],zm⟩
  ·rw[e]
   dsimp only
   rw[if_neg (by simpa using hne i hi)]
   cases n with
   |zero=>
    have:t.slot p.j=.empty:=he
    rw[e]at this;cases this
   |succ n=>exact i9.go T hne n fuel _ (by lia) (by rw[rm];exact hd) he
def kX (t:qcj) (x:Nat×Nat):qfh:={ j:=x.1,more:=qeW t.mask x.1 - x.1,i:=x.1,perturb:=x.2,dummy:=none }
theorem xH (t:qcj):∀ more p,p.more=more->p.dummy=none->vS t (more+1) p=kX t (qdg t.mask p.i p.perturb)
 |0,p,h,hd=>by
  show t.advance p=_
  unfold qgn
  rw[if_neg (by lia)]
  simp only[kX,hd]
 |m+1,p,h,hd=>by
  have e:t.advance p={ p with j:=p.j+1,more:=p.more - 1 }:=by unfold qgn;rw[if_pos (by lia)]
  show vS t (m+1) (t.advance p)=_
  rw[xH t m _ (by rw[e];show p.more - 1=m;lia) (by rw[rm];exact hd),e]
theorem va (t:qcj):∀ q x,∃ n,n<=10*q/\vS t n (kX t x)=kX t (dM t.mask q x)
 |0,x=>⟨0,qap _,rfl⟩
 |q+1,x=>by
  obtain⟨n,hn,e⟩:=va t q (qdg t.mask x.1 x.2)
  refine⟨(kX t x).more+1+n,?_,?_⟩
  ·have:(kX t x).more<=9:=by
    show qeW t.mask x.1 - x.1<=9
    unfold qeW
    split<;>lia
   lia
  ·rw[u8,xH t _ _ rfl rfl]
   exact e
theorem i9.probe (T:i9 b t l) (hne:∀ i,i<l.length->qkp i≠h):∃ j,t.probe qkp h (t.probeStart h)=some (.empty j none)/\j∉l:=by
 obtain⟨j,hj,hm⟩:=Ij T.room
 obtain⟨q,hq,e⟩:=uA T.msk (qbF h%(t.mask+1)) (qbF h) j (yj h) hj
 obtain⟨n,hn,e2⟩:=va t q (qbF h%(t.mask+1),qbF h)
 unfold qjm
 refine T.go hne n _ _ (by unfold qcJ;lia) rfl ?_
 have e3:t.probeStart h=kX t (qbF h%(t.mask+1),qbF h):=rfl
 rw[e3,e2]
 show t.slot (dM t.mask q _).1=_
 rw[e]
 exact T.slot_e hm
def yY (l:List Nat) (j:Nat):List Nat:=l.take (qaD l.toArray j)++j::l.drop (qaD l.toArray j)
theorem Bm (hl:l.Pairwise (·<·)) (hj:j∉l):(yY l j).Pairwise (·<·):=by
 obtain⟨h1,h2,h3⟩:=ql hl j
 unfold yY
 generalize qaD l.toArray j=k at h1 h2 h3 ⊢
 have a1:∀ x∈l.take k,x<j:=λx hx=>by
  obtain⟨i,hi,e⟩:=qfW hx
  rw[List.getElem_take]at e
  rw[qcr]at hi
  rw[<-e];exact h2 i (by lia) (by lia)
 have a2:∀ x∈l.drop k,j<x:=λx hx=>by
  obtain⟨i,hi,e⟩:=qfW hx
  rw[List.getElem_drop]at e
  rw[qgZ]at hi
  have b1:=h3 (k+i) (by lia) (by lia)
  have b2:x≠j:=λz=>hj (z ▸ qfF hx)
  lia
 have hp:=hl
 rw[<-qcO k l,qdy]at hp
 rw[qdy]
 refine⟨hp.1,qbw.mpr ⟨a2,hp.2.1⟩,λx hx y hy=>?_⟩
 rcases qay.mp hy with rfl|hy
 ·exact a1 x hx
 ·exact qfw (a1 x hx) (a2 y hy)
theorem gy:(yY l j).length=l.length+1:=by
 unfold yY
 rw[qa4,qam,<-qe3,<-qa4,qcO]
theorem i9.put (T:i9 b t l) (hj:j∉l) (h1:l.length<64) (h2:t.mask=7->l.length<5) (h3:t.mask=31->l.length<19):i9 b (t.put j).1 (yY l j)/\(t.put j).2=qaD l.toArray j:=by
 unfold qjR
 dsimp only
 rw[T.du,sY]
 refine⟨⟨T.msk,?_,Bm T.ris hj,rfl,T.led,T.plain,by rw[gy];exact h1,λe=>by rw[gy];exact h2 e,λe=>by rw[gy];exact h3 e⟩,by rw[T.pl]⟩
 apply qbg.mp
 show (qdh t.place (qaD t.place j) j).toList=_
 rw[qcS,T.pl];rfl
theorem BV {α:Type} (es:Array α) (p:Nat) (x:α):(qdh es p x).toList.Perm (x::es.toList):=by
 rw[qcS]
 refine List.perm_middle.trans (List.Perm.cons x ?_)
 rw[qcO]
end
theorem lU {α β:Type}{f g:α->Option β}:∀ {l:List α},(∀ x∈l,f x=g x)->l.filterMap f=l.filterMap g
 |[],_=>rfl
 |x::l,h=>by
  rw[qc4,qc4,h x qak,lU λy hy=>h y (qah _ hy)]
theorem An {f g:Nat->Option Nat}{j k:Nat} (hf:f j=none) (hg:g j=some k) (hn:∀ x,x≠j->g x=f x):∀ L:List Nat,L.Nodup->j∈L->(L.filterMap g).Perm (k::L.filterMap f)
 |[],_,h=>nomatch h
 |x::L,hd,h=>by
  have hd':=qbR.mp hd
  by_cases e:x=j
  ·subst e
   have:L.filterMap g=L.filterMap f:=lU λy hy=>hn y λz=>hd'.1 (z ▸ hy)
   rw[qdM hg,qeT hf,this]
  ·have ih:=An hf hg hn L hd'.2 (by rcases qay.mp h with z|z;exact absurd z.symm e;exact z)
   cases hx:f x with
   |none=>rw[qeT hx,qeT ((hn x e).trans hx)];exact ih
   |some y=>
    rw[qdM hx,qdM ((hn x e).trans hx)]
    exact (List.Perm.cons y ih).trans (List.Perm.swap _ _ _)
theorem xQ {f:Nat->Option Nat}:∀ L:List Nat,(∀ x∈L,(f x).isSome=true)->(L.filterMap f).length=L.length
 |[],_=>rfl
 |x::L,h=>by
  obtain⟨y,hy⟩:=qcV.mp (h x qak)
  rw[qdM hy,qam,qam,xQ L λz hz=>h z (qah _ hz)]
structure yz (m:Nat) (owner:Array (Option Nat)) (k:Nat):Prop where
 size:owner.size=m+1
 perm:((qaN (m+1)).filterMap λj=>owner.getD j none).Perm (qaN k)
theorem xF {m:Nat}{owner:Array (Option Nat)}:∀ q fuel i p,q<fuel->(owner.getD (dM m q (i,p)).1 (some 0)).isNone=true->∃ j,qcP m owner fuel i p=some j/\(owner.getD j (some 0)).isNone=true
 |q,0,_,_,h,_=>absurd h (qcq _)
 |q,fuel+1,i,p,h,he=>by
  unfold qcP
  split
  ·rename_i k hk
   have:=List.find?_some (p:=λk=>(owner.getD (i+k) (some 0)).isNone) hk
   exact⟨_,rfl,this⟩
  ·rename_i hk
   cases q with
   |zero=>
    exfalso
    have:=List.find?_eq_none.mp hk 0 (qbz.mpr (by unfold qeW;split<;>lia))
    exact this he
   |succ q=>exact xF q fuel _ _ (by lia) he
theorem Cq {owner:Array (Option Nat)}{j:Nat} (h:(owner.getD j (some 0)).isNone=true):j<owner.size/\owner[j]?=some none:=by
 by_cases hj:j<owner.size
 ·refine⟨hj,?_⟩
  rw[qfp,dif_pos hj]at h
  rw[qas hj]
  congr 1
  exact Option.isNone_iff_eq_none.mp h
 ·rw[qfp,dif_neg hj]at h;cases h
theorem getD_none {owner:Array (Option Nat)} (j:Nat):owner.getD j none=(owner[j]?).join:=by
 by_cases hj:j<owner.size
 ·rw[qfp,dif_pos hj,qas hj];rfl
 ·rw[qfp,dif_neg hj,qba (by lia)];rfl
theorem yz.free {m k:Nat}{owner:Array (Option Nat)} (O:yz m owner k) (hm:m∈gM) (hk:k<m+1) (h:Int):∃ j,qcP m owner (qcJ m) (qbF h%(m+1)) (qbF h)=some j/\yz m (owner.setIfInBounds j (some k)) (k+1):=by
 obtain⟨j0,hj0,he⟩:∃ j,j<m+1/\(owner.getD j (some 0)).isNone=true:=by
  apply qch
  intro z
  have:=xQ (f:=λj=>owner.getD j none) (qaN (m+1)) λx hx=>by
   have hx':=qbz.mp hx
   cases hc:owner.getD x none with
   |some y=>rfl
   |none=>
    exfalso
    refine z ⟨x,hx',?_⟩
    rw[qfp,dif_pos (by rw[O.size];exact hx')]at hc ⊢
    rw[hc];rfl
  rw[O.perm.length_eq,qcy,qcy]at this
  lia
 obtain⟨q,hq,e⟩:=uA hm (qbF h%(m+1)) (qbF h) j0 (yj h) hj0
 obtain⟨j,hj,hn⟩:=xF (m:=m) (owner:=owner) q (qcJ m) _ _ (by unfold qcJ;lia) (by rw[e];exact he)
 obtain⟨n1,n2⟩:=Cq hn
 refine⟨j,hj,by rw[Array.size_setIfInBounds];exact O.size,?_⟩
 have p:=An (f:=λj=>owner.getD j none) (g:=λx=>(owner.setIfInBounds j (some k)).getD x none) (j:=j) (k:=k) (by rw[getD_none,n2];rfl) (by rw[getD_none,qg6,if_pos rfl,if_pos n1];rfl) (λx hx=>by rw[getD_none,getD_none,qg6,if_neg (qdi hx)]) (qaN (m+1)) qgY (qbz.mpr (by rw[<-O.size];exact n1))
 rw[List.range_succ (n:=k)]
 exact p.trans ((List.Perm.cons k O.perm).trans (qiz (l₁:=[k])))
theorem vV {m:Nat} (hm:m∈gM):∀ (hs:List Int) (owner:Array (Option Nat)) (k:Nat),yz m owner k->k+hs.length<=m+1->
  ∃ ow,hs.foldl (λ(acc:Option (Array (Option Nat)×Nat)) h=>do
   let (owner,k) <-acc
   let j <-qcP m owner (qcJ m) (qbF h%(m+1)) (qbF h)
   pure (owner.setIfInBounds j (some k),k+1)) (some (owner,k))=some (ow,k+hs.length)/\yz m ow (k+hs.length)
 |[],owner,k,O,_=>⟨owner,rfl,O⟩
 |h::hs,owner,k,O,hk=>by
  rw[qam]at hk
  obtain⟨j,hj,O'⟩:=O.free hm (by lia) h
  obtain⟨ow,e,O2⟩:=vV hm hs _ _ O' (by lia)
  refine⟨ow,?_,by rw[qam,show k+(hs.length+1)=k+1+hs.length from by lia];exact O2⟩
  rw[qby,qam,show k+(hs.length+1)=k+1+hs.length from by lia,<-e]
  congr 1
  show (qcP m owner (qcJ m) (qbF h%(m+1)) (qbF h)).bind _=_
  rw[hj];rfl
theorem Bf (m:Nat):yz m (qj3 (m+1) none) 0:=by
 refine⟨Array.size_replicate,?_⟩
 have:(qaN (m+1)).filterMap (λj=>(qj3 (m+1) (none:Option Nat)).getD j none)=[]:=by
  rw[List.filterMap_eq_nil_iff]
  intro j _
  rw[getD_none,Array.getElem?_replicate]
  split<;>rfl
 rw[this];exact qcb _
theorem Fb {m:Nat} (hm:m∈gM) (f mv:Nat) (led p:Bool) (hs:Array Int) (hn:hs.size<=m+1):∃ (l o:List Nat),qdK m f mv led p hs=some (⟨m,l.toArray,#[],f,led,mv,p⟩,o.toArray)/\l.Pairwise (·<·)/\l.length=hs.size/\o.Perm (qaN hs.size):=by
 obtain⟨ow,e,O⟩:=vV hm hs.toList _ 0 (Bf m) (by rw[qaA];lia)
 rw[qbt,qaA]at e O
 have e1:qfS m hs=some ow:=by
  unfold qfS
  rw[<-Array.foldl_toList]
  have e':=congrArg (qgp (·.1)) e
  exact e'
 unfold qdK
 rw[e1]
 refine⟨_,_,rfl,?_,?_,?_⟩
 ·rw[qgr]
  refine qkR _ (S:=(·<·)) (R:=(·<·)) (λa a' haa b hb b' hb'=>?_) qfb
  have z1:b=a:=by
   cases hc:ow.getD a none with
   |none=>rw[hc]at hb;cases hb
   |some y=>rw[hc]at hb;cases hb;rfl
  have z2:b'=a':=by
   cases hc:ow.getD a' none with
   |none=>rw[hc]at hb';cases hb'
   |some y=>rw[hc]at hb';cases hb';rfl
  rw[z1,z2];exact haa
 ·have:=O.perm.length_eq
  rw[qcy]at this
  rw[<-this,qag]
  have e2:((qaN (m+1)).filterMap λj=>ow.getD j none)=((qaN (m+1)).filterMap λj=>(ow.getD j none).map (j,·)).map (·.2):=by
   rw[qgr]
   refine lU λj _=>?_
   cases ow.getD j none<;>rfl
  rw[e2,qag]
 ·have e2:((qaN (m+1)).filterMap λj=>(ow.getD j none).map (j,·)).map (·.2)=((qaN (m+1)).filterMap λj=>ow.getD j none):=by
   rw[qgr]
   refine lU λj _=>?_
   cases ow.getD j none<;>rfl
  rw[e2];exact O.perm
theorem yV {α:Type} (es:Array α):(qaN es.size).filterMap (es[·]?)=es.toList:=by
 have:=congrArg qgG (lc es)
 rw[qe8]at this
 simpa using this
theorem Go {α:Type}{o:List Nat} (es:Array α) (hp:o.Perm (qaN es.size)):(o.toArray.filterMap (es[·]?)).toList.Perm es.toList:=by
 rw[qe8]
 have:=hp.filterMap (es[·]?)
 rw[yV]at this
 exact this
def hT (l:List Int):Int:=reduceHash (qkV (l.map ql7))
def zS (t:qcj) (n:Nat):Prop:=n<=64/\(t.mask=7->n<5)/\(t.mask=31->n<19)
def df (w:World) (h:Heap) (a:Addr) (es:Array (Int×Value)) (ep:Nat) (t:qcj) (l:List Nat):Prop:=
 ∃ o,h.get? a=some o/\o.ExactSet/\o.data=.set es ep t/\i9 (byT w) t l/\es.size=l.length
section
variable {prog:qaY}{w:World}{A:qa9}{E:Value->qaj->Prop}{s:qaj}{a:Addr}{es:Array (Int×Value)}{ep:Nat}{t:qcj}{l:List Nat}{x:Value}{k:List Int}{h:Int}
theorem df.type (S:df w s.heap a es ep t l):s.TypeIs (.ref a) "set":=let ⟨o,ho,hx,_⟩:=S;⟨o,ho,hx.1⟩
theorem df.at' {h h':Heap} (S:df w h a es ep t l) (e:∀ o,h.get? a=some o->h'.get? a=some o):df w h' a es ep t l:=let ⟨o,ho,r⟩:=S;⟨o,e o ho,r⟩
theorem df.state {Q:(Array (Int×Value)×Nat×qcj)->qaj->Prop} (S:df w s.heap a es ep t l) (h:Q (es,ep,t) s):wpAny (model prog w) A (setState a) Q E s:=by
 obtain⟨o,ho,hx,hd,T,hs⟩:=S
 exact qcF ho hd (by rw[hs];exact T.fits) h
theorem df.store {es':Array (Int×Value)}{t':qcj}{l':List Nat}{Q:Unit->qaj->Prop} (S:df w s.heap a es ep t l) (T:i9 (byT w) t' l') (hs:es'.size=l'.length)
  (h:∀ h',qbm a s.heap h'->df w h' a es' (ep+1) t' l'->Q () { s with heap:=h' }):wpAny (model prog w) A (storeSet a es' t') Q E s:=by
 obtain⟨o,ho,hx,hd,T0,hs0⟩:=S
 have hl:es'.size<=qaO:=by have:=T.few;rw[qbM];lia
 refine qc6 ho hd (h _ (qa8 ..) ?_) hl
 have hg:(s.heap.update a (qeV es' t')).get? a=some { o with data:=.set es' (ep+1) t' }:=by
  have:=qbZ (qeV es' t') ho (by rw[qjN _ t' hd];rfl)
  rw[qjN _ t' hd]at this;exact this
 exact⟨_,hg,hx,rfl,T,hs⟩
theorem ut {Q:Option Bool×Unit->qaj->Prop}:∀ {vs:List Value}{k:List Int},qdC vs k->Q (none,()) s->wpAny (model prog w) A (forIn vs ((none,()):Option Bool×Unit) λx _=>do
   let c <-qij 7 x
   if (!c)=true then pure (ForInStep.done (some false,())) else pure (ForInStep.yield (none,()))) Q E s
 |_,_,.nil,h=>by rw[qfM];exact qab h
 |_,_,.cons n t i,h=>by
  rw[qhn]
  refine qaa (qaa (m:=qij 7 (.int n t)) ?_)
  show wpAny _ _ (pure true) _ _ _
  exact qab (qab (ut i h))
theorem zE (hx:TuI s.heap x k) {Q:Bool->qaj->Prop} (hQ:Q true s):wpAny (model prog w) A (qij 8 x) Q E s:=by
 obtain⟨a,its,rfl,ht,hi⟩:=hx
 obtain⟨o,ho,hc,n,hd⟩:=id ht
 unfold qij
 refine qaa (qid ⟨o,ho,hc⟩ PySem.F.slot_tuple_hash.lookup ?_)
 dsimp only
 refine qaa (qiG ho hd ?_)
 rw[<-qgj]
 refine qaa (ut hi ?_)
 exact qab hQ
theorem df.relay {n:Nat}{Q:Unit->qaj->Prop} (S:df w s.heap a es ep t l) (hm:qbc n - 1∈gM) (hz:qbc n<=128) (h1:qbc n - 1=7->l.length<=5) (h2:qbc n - 1=31->l.length<=19)
  (h:∀ h' es' t' l',qbm a s.heap h'->df w h' a es' (ep+1) t' l'->es'.toList.Perm es.toList->t'.mask=qbc n - 1->Q () { s with heap:=h' }) :
  wpAny (model prog w) A (qkl a n) Q E s:=by
 obtain⟨o,ho,hx,hd,T,hs⟩:=id S
 unfold qkl
 refine qaa (S.state ?_)
 dsimp only
 rw[if_neg (by rw[qbM];lia)]
 have hfew:=T.few
 have hsz:(es.map (·.1)).size=l.length:=by rw[Array.size_map];exact hs
 have hroom:l.length<=qbc n - 1+1:=by
  rcases lQ hm with e|e|e
  ·have:=h1 e;lia
  ·have:=h2 e;lia
  ·lia
 obtain⟨l',od,e,hr,hl,hp⟩:=Fb hm t.finger (t.movedTo (qbc n - 1)) t.led t.plain (es.map (·.1)) (by rw[hsz];exact hroom)
 have e':t.relaid (es.map (·.1)) n=_:=e
 refine qaa ?_
 rw[e']
 rw[hsz]at hl hp
 rw[<-hs]at hp
 have hper:=Go es hp
 have hps:(od.toArray.filterMap (es[·]?)).size=es.size:=by rw[<-qaA,<-qaA];exact hper.length_eq
 wp_delta
 rw[if_neg (by rw[hps];simp)]
 refine qab ?_
 dsimp only
 exact S.store (t':=⟨qbc n - 1,l'.toArray,#[],t.finger,t.led,t.movedTo (qbc n - 1),t.plain⟩) ⟨hm,rfl,hr,rfl,T.led,T.plain,by rw[hl];exact hfew,λz=>by rw[hl];exact h1 z,λz=>by rw[hl];exact h2 z⟩ (by rw[hps,hs,hl]) λh' sb S'=>h h' _ _ _ sb S' hper rfl
theorem df.search {Q:SetFound->qaj->Prop} (S:df w s.heap a es ep t l) (hne:∀ e∈es.toList,e.1≠h) (hQ:∀ j,j∉l->Q (.free j false) s):wpAny (model prog w) A (setSearch a x h true) Q E s:=by
 obtain⟨o,ho,hx,hd,T,hs⟩:=id S
 unfold setSearch setSearchFrom
 refine qaa (S.state ?_)
 dsimp only
 rw[if_neg (by unfold SetTable.gaveWay;rcases lQ T.msk with e|e|e<;>rw[e]<;>decide)]
 obtain⟨j,e,hj⟩:=T.probe (h:=h) (qkp:=λi=>(es[i]?.map (·.1)).getD 0) λi hi=>by
  have hi':i<es.size:=by lia
  rw[qas hi']
  exact hne _ (by rw[<-qem];exact qda _)
 split
 ·rename_i met hmet
  have e2:some met=some (SetTable.Met.empty j none):=hmet.symm.trans e
  cases e2
  dsimp only
  exact qab (hQ j hj)
 ·rename_i hno
  exact absurd (e.symm) (by intro z;exact hno _ z.symm)
theorem df.add {Q:Bool->qaj->Prop} (S:df w s.heap a es ep t l) (hc:zS t l.length) (hn:l.length<64) (hx:TuI s.heap x k) (hne:∀ e∈es.toList,e.1≠h)
  (hQ:∀ h' es' ep' t' l',qbm a s.heap h'->df w h' a es' ep' t' l'->zS t' l'.length->es'.toList.Perm ((h,x)::es.toList)->Q true { s with heap:=h' }) :
  wpAny (model prog w) A (qf6 a x h) Q E s:=by
 obtain⟨q,its,rfl,ht,hi⟩:=id hx
 obtain⟨o,ho,hxx,hd,T,hs⟩:=id S
 unfold qf6 qmf
 refine qbk (qaa (S.state ?_))
 dsimp only
 rw[if_neg (by unfold byScan;rw[show (Value.ref q).scannable=false from rfl];simp)]
 refine qaa (S.search hne λj hj=>?_)
 dsimp only
 refine qaa (S.state ?_)
 dsimp only
 obtain⟨T1,e1⟩:=T.put hj hn hc.2.1 hc.2.2
 rw[if_pos T1.plain]
 refine qaa (zE hx ?_)
 rw[if_pos rfl,e1]
 have hper:=BV es (qaD l.toArray j) (h,Value.ref q)
 have hsz:(qdh es (qaD l.toArray j) (h,Value.ref q)).size=(yY l j).length:=by
  rw[<-qaA,hper.length_eq,gy,qam,qaA,hs]
 refine qaa (S.store T1 hsz λh' sb S'=>?_)
 have hfl:(t.put j).1.fill=l.length+1:=by
  unfold qfC
  rw[T1.pl,T1.du,qat,gy];rfl
 have hmk:(t.put j).1.mask=t.mask:=rfl
 by_cases hf:(t.put j).1.tooFull=true
 ·rw[if_pos (by rw[hf];rfl)]
  unfold SetTable.tooFull at hf
  have hf':=of_decide_eq_true hf
  rw[hfl,hmk]at hf'
  have hgr:qc1 (es.size+1)=(l.length+1)*4:=by
   unfold qc1
   rw[if_neg (by lia),hs]
  have hcc:=hc
  obtain⟨_,c7,c31⟩:=hcc
  have hcases:(t.mask=7/\l.length=4)\/(t.mask=31/\l.length=18):=by
   rcases lQ T.msk with e|e|e
   ·have:=c7 e;left;exact⟨e,by lia⟩
   ·have:=c31 e;right;exact⟨e,by lia⟩
   ·lia
  have key:qbc (qc1 (es.size+1)) - 1∈gM/\qbc (qc1 (es.size+1))<=128/\(qbc (qc1 (es.size+1)) - 1=31/\l.length=4\/qbc (qc1 (es.size+1)) - 1=127):=by
   rw[hgr]
   rcases hcases with⟨_,e⟩|⟨_,e⟩
   ·rw[e];exact⟨by decide,by decide,.inl ⟨by decide,rfl⟩⟩
   ·rw[e];exact⟨by decide,by decide,.inr (by decide)⟩
  obtain⟨k1,k2,k3⟩:=key
  refine qaa (S'.relay (s:={ s with heap:=h' }) k1 k2 (λz=>by rcases k3 with k3|k3<;>lia) (λz=>by rw[gy];rcases k3 with k3|k3<;>lia) λh2 es2 t2 l2 sb2 S2 p2 m2=>?_)
  refine qab (hQ h2 es2 _ t2 l2 (sb.trans sb2) S2 ?_ (p2.trans hper))
  have hl2:l2.length=l.length+1:=by
   obtain⟨_,_,_,_,_,z⟩:=S2
   rw[<-z,<-qaA,p2.length_eq,hper.length_eq,qam,qaA,hs]
  refine⟨by lia,λz=>?_,λz=>?_⟩
  ·rw[m2]at z;rcases k3 with k3|k3<;>lia
  ·rw[m2]at z;rcases k3 with k3|k3<;>lia
 ·rw[if_neg (by simpa using hf)]
  refine qab (hQ h' _ _ _ _ sb S' ?_ hper)
  have hf':¬ ((t.put j).1.fill*5>=(t.put j).1.mask*3):=λz=>hf (decide_eq_true z)
  rw[hfl,hmk]at hf'
  rw[gy]
  exact⟨hn,λz=>by rw[hmk]at z;lia,λz=>by rw[hmk]at z;lia⟩
end
section
variable {κ:Type} [DecidableEq κ]
def jc (kvs:List (κ×V)) (k:κ):Option V:=(kvs.find? λkv=>decide (kv.1=k)).map (·.2)
def lw (kvs:List (κ×V)) (k:κ) (v:V):List (κ×V):=
 if (kvs.any λkv=>decide (kv.1=k))=true then kvs.map (λkv=>if kv.1=k then (kv.1,v) else kv) else kvs++[(k,v)]
theorem ot {p:κ×V}{r:List (κ×V)}{k:κ} (e:p.1=k):jc (p::r) k=some p.2:=by simp[jc,qdW,e]
theorem pM {p:κ×V}{r:List (κ×V)}{k:κ} (e:¬ p.1=k):jc (p::r) k=jc r k:=by simp[jc,qdW,e]
theorem uZ (k:κ):∀ kvs:List (κ×V),(kvs.any λkv=>decide (kv.1=k))=(jc kvs k).isSome
 |[]=>rfl
 |p::r=>by
  rw[qcw]
  by_cases e:p.1=k
  ·simp only[ot e,decide_eq_true e,Bool.true_or,qiN]
  ·rw[pM e,decide_eq_false e,qgt];exact uZ k r
theorem no (kvs:List (κ×V)) (k:κ) (v:V):(lw kvs k v).length<=kvs.length+1:=by
 unfold lw
 split
 ·rw[qag];lia
 ·rw[qa4,qam,qbx];lia
theorem mR.isSome_eq {o:Option V}{u:Option Value} (r:mR o u):o.isSome=u.isSome:=by
 cases o with
 |none=>cases u with
  |none=>rfl
  |some _=>exact (show False from r).elim
 |some _=>cases u with
  |none=>exact (show False from r).elim
  |some _=>rfl
theorem mR.getD {o:Option V}{u:Option Value}{d:V}{d':Value} (r:mR o u) (rd:aW d d'):aW (o.getD d) (u.getD d'):=by
 cases o with
 |none=>cases u with
  |none=>exact rd
  |some _=>exact (show False from r).elim
 |some _=>cases u with
  |none=>exact (show False from r).elim
  |some _=>exact r
theorem KV.val {kvs:List (κ×V)}{vs:List (κ×Value)} (r:KV kvs vs) (k:κ):mR (jc kvs k) (qif vs k):=by
 unfold KV at r
 induction r with
 |nil=>exact True.intro
 |@cons p q ps qs h t ih=>
  obtain⟨h1,h2⟩:=h
  by_cases e:p.1=k
  ·have e':q.1=k:=h1.symm.trans e
   have b:qif (q::qs) k=some q.2:=by simp[qif,qdW,e']
   rw[ot e,b];exact h2
  ·have e':¬ q.1=k:=λz=>e (h1.trans z)
   have b:qif (q::qs) k=qif qs k:=by simp[qif,qdW,e']
   rw[pM e,b];exact ih
theorem KV.any {kvs:List (κ×V)}{vs:List (κ×Value)} (r:KV kvs vs) (k:κ):(kvs.any λkv=>decide (kv.1=k))=vs.any λkv=>decide (kv.1=k):=by
 unfold KV at r
 induction r with
 |nil=>rfl
 |cons h t ih=>rw[qcw,qcw,ih,h.1]
theorem KV.repl {kvs:List (κ×V)}{vs:List (κ×Value)} (r:KV kvs vs) (k:κ) {y:V}{u:Value} (ry:aW y u) :
  KV (kvs.map λkv=>if kv.1=k then (kv.1,y) else kv) (vs.map λkv=>if kv.1=k then (kv.1,u) else kv):=by
 unfold KV at r ⊢
 induction r with
 |nil=>exact .nil
 |@cons p q ps qs h t ih=>
  rw[qal,qal]
  refine .cons ?_ ih
  obtain⟨h1,h2⟩:=h
  by_cases e:p.1=k
  ·rw[if_pos e,if_pos (h1.symm.trans e)];exact⟨h1,ry⟩
  ·rw[if_neg e,if_neg (λz=>e (h1.trans z))];exact⟨h1,h2⟩
theorem KV.put {kvs:List (κ×V)}{vs:List (κ×Value)} (r:KV kvs vs) (k:κ) {y:V}{u:Value} (ry:aW y u):KV (lw kvs k y) (stored vs k u):=by
 unfold lw stored
 rw[r.any k]
 by_cases e:(vs.any λkv=>decide (kv.1=k))=true
 ·rw[if_pos e,if_pos e];exact r.repl k ry
 ·rw[if_neg e,if_neg e];exact qkv r ⟨rfl,ry⟩
theorem KV.length {kvs:List (κ×V)}{vs:List (κ×Value)} (r:KV kvs vs):kvs.length=vs.length:=qfT r
end
theorem xE {P:qaY}{w:World}{k:Key}{u:Value} (r:aW (kV k) u):(cu P w).is k u=true:=by
 cases k with
 |inl i=>obtain⟨t,e⟩:=(show ∃ t,u=Value.int i t from r);subst e;exact vP P w i t
 |inr x=>obtain⟨t,e⟩:=(show ∃ t,u=Value.str x t from r);subst e;exact vN P w x t
theorem rZ {P:qaY}{w:World}:∀ {ks:List Key}{us:List Value},aP (ks.map kV) us->ItemsAre (cu P w) ks us
 |[],_,r=>by rw[qc2]at r;cases r;exact .nil
 |k::ks,_,r=>by
  rw[qal]at r
  cases r with
  |cons h t=>exact .cons (xE h) (rZ t)
abbrev KT (H:Hp):List (List Key×V)->List (List Key×Addr×Value)->Prop:=qhO λp q=>p.1=q.1/\H q.2.1=some (.tup (p.1.map kV))/\aW p.2 q.2.2
theorem KT.val {H:Hp}{kvs:List (List Key×V)}{xs:List (List Key×Addr×Value)} (r:KT H kvs xs) (k:List Key):mR (jc kvs k) ((atKey xs k).map (·.2)):=by
 induction r with
 |nil=>exact True.intro
 |@cons p q ps qs h t ih=>
  obtain⟨h1,_,h2⟩:=h
  by_cases e:p.1=k
  ·have e':q.1=k:=h1.symm.trans e
   have b:atKey (q::qs) k=some q.2:=by simp[atKey,qdW,e']
   rw[ot e,b];exact h2
  ·have e':¬ q.1=k:=λz=>e (h1.trans z)
   have b:atKey (q::qs) k=atKey qs k:=by simp[atKey,qdW,e']
   rw[pM e,b];exact ih
theorem KT.repl {H:Hp}{kvs:List (List Key×V)}{xs:List (List Key×Addr×Value)} (r:KT H kvs xs) (k:List Key) {y:V}{u:Value} (ry:aW y u) :
  KT H (kvs.map λkv=>if kv.1=k then (kv.1,y) else kv) (xs.map (putAt k u)):=by
 induction r with
 |nil=>exact .nil
 |@cons p q ps qs h t ih=>
  rw[qal,qal]
  refine .cons ?_ ih
  obtain⟨h1,h2,h3⟩:=h
  unfold putAt
  by_cases e:p.1=k
  ·rw[if_pos e,if_pos (h1.symm.trans e)];exact⟨h1,h2,ry⟩
  ·rw[if_neg e,if_neg (λz=>e (h1.trans z))];exact⟨h1,h2,h3⟩
theorem KT.put {H:Hp}{kvs:List (List Key×V)}{xs:List (List Key×Addr×Value)} (r:KT H kvs xs) (k:List Key) {b:Addr}{y:V}{u:Value} (hb:H b=some (.tup (k.map kV))) (ry:aW y u) :
  KT H (lw kvs k y) (storedH xs k b u):=by
 have e:(kvs.any λkv=>decide (kv.1=k))=(atKey xs k).isSome:=by
  rw[uZ,(r.val k).isSome_eq,Option.isSome_map]
 unfold lw storedH
 rw[e]
 by_cases q:(atKey xs k).isSome=true
 ·rw[if_pos q,if_pos q];exact r.repl k ry
 ·rw[if_neg q,if_neg q];exact qkv r ⟨rfl,hb,ry⟩
theorem KT.keeps {H H':Hp}{kvs:List (List Key×V)}{xs:List (List Key×Addr×Value)} (r:KT H kvs xs) (ht:∀ b ys,H b=some (.tup ys)->H' b=some (.tup ys)):KT H' kvs xs:=
 qhO.mapP r λ_ _ z=>⟨z.1,ht _ _ z.2.1,z.2.2⟩
section
variable {P:qaY}{w:World}{H:Hp}{h:Heap}{a:Addr}
theorem D8 {u:HO} (ok:HOk P w H h) (e:Rd H a u):cq P w H h a u:=e.ok ok
theorem u6 {kvs:List (Key×V)} (ok:HOk P w H h) (e:Rd H a (.dK kvs)):kvs.length<=qaO/\(a==qcH)=false/\∃ vs,KV kvs vs/\h.DictOf (cu P w) a vs:=
 show cq P w H h a (.dK kvs) from D8 ok e
theorem GD {kvs:List (Key×V)} (ok:HOk P w H h) (e:H a=some (.dK kvs)):kvs.length<=qaO/\(a==qcH)=false/\∃ vs,KV kvs vs/\h.DictOf (cu P w) a vs:=u6 ok (.inl e)
theorem tw {ks:List Key} (ok:HOk P w H h) (e:H a=some (.tup (ks.map kV))):(qg9 (cu P w)).is h ks a:=by
 obtain⟨_,its,r,o,h1,h2,⟨n,h3⟩,_⟩:=(show cq P w H h a (.tup (ks.map kV)) from ok a _ e)
 exact⟨o,its.toArray,n,h1,h2,h3,by simpa using rZ r⟩
theorem uq {kvs:List (List Key×V)} (ok:HOk P w H h) (e:Rd H a (.dT kvs)):kvs.length<=qaO/\(a==qcH)=false/\
  ∃ xs,KT H kvs xs/\h.DictOfH (qg9 (cu P w)) a xs:=by
 obtain⟨z,y,xs,r,o,es,ep,h1,h2,h3,h4,h5⟩:=(show cq P w H h a (.dT kvs) from D8 ok e)
 refine⟨z,y,xs,r,o,es,ep,h1,h2,h3,h4,λx hx=>?_,h5⟩
 have all:∀ {l:List (List Key×V)}{m:List (List Key×Addr×Value)},KT H l m->∀ x∈m,(qg9 (cu P w)).is h x.1 x.2.1:=by
  intro l m q
  induction q with
  |nil=>intro x hx;exact nomatch hx
  |@cons p q ps qs hq t ih=>
   intro x hx
   rcases qay.mp hx with e|hx
   ·subst e
    exact tw ok (by rw[<-hq.1];exact hq.2.1)
   ·exact ih x hx
 exact all r x hx
theorem DW {kvs:List (List Key×V)} (ok:HOk P w H h) (e:H a=some (.dT kvs)):kvs.length<=qaO/\(a==qcH)=false/\
  ∃ xs,KT H kvs xs/\h.DictOfH (qg9 (cu P w)) a xs:=uq ok (.inl e)
end
def sB (H:Hp) (a:Addr) (y:V) (r:Option V):Prop:=
 (∃ kvs k,Rd H a (.dK kvs)/\y=kV k/\r=jc kvs k)\/∃ kvs k b,Rd H a (.dT kvs)/\y=.ref b/\H b=some (.tup (k.map kV))/\r=jc kvs k
def AU (H:Hp) (a:Addr) (y v:V) (H':Hp):Prop:=
 (∃ kvs k,H a=some (.dK kvs)/\y=kV k/\kvs.length<qaO/\H'=upd H a (.dK (lw kvs k v)))\/
 ∃ kvs k b,H a=some (.dT kvs)/\y=.ref b/\H b=some (.tup (k.map kV))/\kvs.length<qaO/\H'=upd H a (.dT (lw kvs k v))
theorem sB.t {H:Hp}{a b:Addr}{kvs:List (List Key×V)}{k:List Key} (e:H a=some (.dT kvs)) (eb:H b=some (.tup (k.map kV))):sB H a (.ref b) (jc kvs k):=.inr ⟨kvs,k,b,.inl e,rfl,eb,rfl⟩
theorem AU.t {H:Hp}{a b:Addr}{kvs:List (List Key×V)}{k:List Key}{v:V} (e:H a=some (.dT kvs)) (eb:H b=some (.tup (k.map kV))) (hl:kvs.length<qaO) :
  AU H a (.ref b) v (upd H a (.dT (lw kvs k v))):=.inr ⟨kvs,k,b,e,rfl,eb,hl,rfl⟩
section
variable {X:Cx}{pins:List (Addr×Obj)}{σ:St}{H:Hp}{s:qaj}{a:Addr}{y v:V}{u r:Value}{o:Option V}{A:qa9}{E:Value->qaj->Prop}
theorem Inv.big (I:Inv X pins σ H s):qcH<s.heap.objs.size:=by
 have h:qaB<s.heap.objs.size:=(I.mod.glob.keeps I.bk).lt
 exact qfw (by decide) h
theorem zd {Q:Value->qaj->Prop} (hu:A.units+1<cLine) (I:Inv X pins σ H s) (g:sB H a y (some v)) (ry:aW y u) (h:∀ w' s',Inv X pins σ H s'->aW v w'->Q w' s') :
  wpAny (model X.prog X.w) A (qf9 (.ref a) u) Q E s:=by
 rcases g with⟨kvs,k,e,ey,l⟩|⟨kvs,k,b,e,ey,eb,l⟩
 ·subst ey
  obtain⟨z,hd,vs,rel,dd⟩:=u6 I.hok e
  obtain⟨w',hw,rw'⟩:=mR.some_of (v:=v) (o:=qif vs k) (by rw[l];exact rel.val k)
  exact wpAny_getItem_of (xE ry) dd.mapOf hw (h w' _ (I.tok _) rw')
 ·subst ey
  cases (show u=Value.ref b from ry)
  obtain⟨z,hd,xs,rel,dd⟩:=uq I.hok e
  obtain⟨w',hw,rw'⟩:=mR.some_of (v:=v) (o:=(atKey xs k).map (·.2)) (by rw[l];exact rel.val k)
  obtain⟨p,hp,hp2⟩:=qad.mp hw
  refine wpAny_getItem_heap (qg8 hu) (tw I.hok eb) dd hp ?_
  rw[hp2]
  exact h w' _ (I.tok _) rw'
theorem yh {h':Heap}{t':Nat}{ob:HO} (I:Inv X pins σ H s) (mu:Mut (H a)) (hs:qbm a s.heap h') (he:∃ q,h'.get? a=some q) (new:cq X.prog X.w (upd H a ob) h' a ob) :
  Inv X pins σ (upd H a ob) { s with heap:=h',toks:=t' }:=
 I.write (x:=a) (e:=a) mu (.inl rfl) (λb q hb z=>(hs.2 b hb).trans z) he new
theorem Fc {P:qaY}{w:World}{H':Hp}{h':Heap}{kvs:List (Key×V)}{vs:List (Key×Value)} (z:kvs.length<=qaO) (hd:(a==qcH)=false) (rel:KV kvs vs) (dd:h'.DictOf (cu P w) a vs) :
  cq P w H' h' a (.dK kvs):=⟨z,hd,vs,rel,dd⟩
theorem yH {H':Hp}{Q:Unit->qaj->Prop} (hu:A.units+1<cLine) (I:Inv X pins σ H s) (g:AU H a y v H') (ry:aW y u) (rv:aW v r) (h:∀ s',Inv X pins σ H' s'->Q () s') :
  wpAny (model X.prog X.w) A (ql1 (.ref a) u r) Q E s:=by
 rcases g with⟨kvs,k,e,ey,l,eH⟩|⟨kvs,k,b,e,ey,eb,l,eH⟩
 ·subst ey eH
  obtain⟨z,hd,vs,rel,dd⟩:=GD I.hok e
  have hz:vs.length<=qaO:=by rw[<-rel.length];exact z
  have hl:(lw kvs k v).length<=qaO:=by have:=no kvs k v;lia
  refine wpAny_setItem_pairs (hsz:=hz) (xE ry) dd λh' dd' hs=>h _ ?_
  have he:∃ q,h'.get? a=some q:=let ⟨q,_,_,hq,_⟩:=dd';⟨q,hq⟩
  exact yh I (by rw[e];exact True.intro) hs he (Fc hl hd (rel.put k rv) dd')
 ·subst ey eH
  cases (show u=Value.ref b from ry)
  obtain⟨z,hd,xs,rel,dd⟩:=DW I.hok e
  have hz:xs.length<=qaO:=by rw[<-qfT rel];exact z
  have hl:(lw kvs k v).length<=qaO:=by have:=no kvs k v;lia
  refine wpAny_setItem_heap (hsz:=hz) (qg8 hu) (tw I.hok eb) dd λh' dd' hs=>h _ ?_
  obtain⟨q,es,ep,hq,h2,h3,h4,_,h5⟩:=dd'
  refine yh I (by rw[e];exact True.intro) hs ⟨q,hq⟩ ⟨hl,hd,_,(rel.put k eb rv).keeps λc ys ec=>?_,q,es,ep,hq,h2,h3,h4,h5⟩
  rw[aN (Ht ec e (λz=>nomatch z))]
  exact ec
end
section
variable {X:Cx}{pins:List (Addr×Obj)}{σ:St}{H:Hp}{s:qaj}{a:Addr}{kvs:List (Key×V)}{k:Key}{u:Value}{A:qa9}{E:Value->qaj->Prop}
end
def FR (i:Expr):Prop:=∀ ov iv,qig i false ov iv=operate [ov,iv] (qf9 ov iv)
theorem Co {prog:qaY}{w:World}{A:qa9}{E:Value->qaj->Prop}{s:qaj}{env:Env}{value slice:Expr}{pos:Pos}{T id:String}{Q:Value->qaj->Prop}
  (hl:typeLookup (.type T) "__getitem__" = pure (some (.builtin id))) (hs:FR slice)
  (h:wpAny (model prog w) A (eval value env) (λo s₁=>wpAny (model prog w) A (eval slice env) (λi s₂=>s₂.TypeIs o T/\wpAny (model prog w) A (qf9 o i) Q E s₂) E s₁) E s) :
  wpAny (model prog w) A (eval (.Subscript value slice pos) env) Q E s:=by
 refine qkL (qcG h (λo s₁ h₁=>qcG h₁ (λi s₂ h₂=>?_) λ_ _ x=>x) λ_ _ x=>x)
 obtain⟨hT,h₂⟩:=h₂
 unfold qja
 refine qaa ?_
 rw[getitemInPython_of_ne hT.not_modules]
 refine qaa (qid hT hl ?_)
 have fin:wpAny (model prog w) A (qig slice false o i) (λr s₃=>wpAny (model prog w) A (letTemporaryGo value o r >>= λ_=>pure r) Q E s₃) E s₂:=by
  rw[hs o i]
  exact wpAny_operating (qcG h₂ (λr s₃ h₃=>qaa (wpAny_letTemporaryGo (qab h₃))) λ_ _ x=>x)
 first
  |exact qab (qaa fin)
  |exact qaa (qab (qaa fin))
  |exact qaa fin
theorem uS {X:Cx}{pins:List (Addr×Obj)}{σ:St}{H:Hp}{s:qaj}{a:Addr}{y:V}{o:Option V} (I:Inv X pins σ H s) (g:sB H a y o):s.TypeIs (.ref a) "dict":=by
 rcases g with⟨kvs,k,e,_,_⟩|⟨kvs,k,b,e,_,_,_⟩
 ·obtain⟨_,_,vs,_,dd⟩:=u6 I.hok e
  exact dd.typeIs
 ·obtain⟨_,_,xs,_,dd⟩:=uq I.hok e
  exact dd.typeIs
def Ha (td ty:TE):TE:=λσ H Q=>td σ H λx H1=>ty σ H1 λy H2=>∃ a v,x=.ref a/\sB H2 a y (some v)/\Q v H2
def Hn (td ty tv:TE):TS:=λD σ H=>tv σ H λv H1=>td σ H1 λx H2=>ty σ H2 λy H3=>∃ a H4,x=.ref a/\AU H3 a y v H4/\D.nx σ H4
section
variable {X:Cx}{o i e value:Expr}{pos pos' tpos:Pos}{td ty tv:TE}
theorem C5 (hu:X.A.units+1<cLine) (ho:PE X o td) (hi:PE X i ty) (hs:FR i):PE X (.Subscript o i pos) (Ha td ty):=by
 intro pins s σ H Q I h
 refine Co PySem.F.slot_dict_getitem.lookup hs (thn (ho pins s σ H _ I h) λu s1 ⟨x,H1,I1,rx,q1⟩=>thn (hi pins s1 σ H1 _ I1 q1) λiv s2 ⟨y,H2,I2,ry,a,v,ex,g,q2⟩=>?_)
 subst ex
 obtain rfl:u=Value.ref a:=rx
 exact⟨uS I2 g,zd hu I2 g ry λw' s3 I3 rw'=>⟨v,H2,I3,rw',q2⟩⟩
theorem Dj (hu:X.A.units+1<cLine) (ho:PE X o td) (hi:PE X i ty) (hv:PE X value tv) (hs:qfg value (some (.Subscript o i pos')) pos.line X.env=pure false) :
  PS X (.Assign [.Subscript o i pos'] value pos) (Hn td ty tv):=by
 intro pins s σ H D I h
 refine wpAny_Assign_Subscript (thn (hv pins s σ H _ I h) λr s1 ⟨v,H1,I1,rv,q1⟩=>thn (ho pins s1 σ H1 _ I1 q1) λu s2 ⟨x,H2,I2,rx,q2⟩=>thn (hi pins s2 σ H2 _ I2 q2) λiv s3 ⟨y,H3,I3,ry,a,H4,ex,g,q3⟩=>?_) hs
 subst ex
 obtain rfl:u=Value.ref a:=rx
 exact yH hu I3 g ry rv λs4 I4=>⟨σ,H4,I4,q3⟩
end
theorem A8 {P:qaY}{w:World}{H:Hp} (h:Heap) (hb:qcH<h.objs.size):cq P w H (h.push { cls:=.type "dict",data:=.dict #[] }) h.objs.size (.dT []):=
 ⟨qaW _,beq_eq_false_iff_ne.mpr (qdi (qar hb)),[],.nil,_,#[],0,qau _ rfl,⟨rfl,rfl,rfl⟩,rfl,rfl,qfL⟩
def Ft:TE:=λ_ H Q=>∀ p,H p=none->Q (.ref p) (upd H p (.dT []))
section
variable {X:Cx}{pos:Pos}
theorem BR:PE X (.Dict [] [] pos) Ft:=λpins s σ H Q I h=>
 wpAny_Dict_empty ⟨.ref s.heap.objs.size,_,I.laid (a:=s.heap.objs.size) (o:=.dT []) (t':=s.toks) (λ_ _ q=>qae _ q) (qap _) (A8 s.heap I.big),rfl,h _ (I.hok.fresh (qap _))⟩
end
structure M2 (X:Cx) (o:Expr) (m:Str) (apos:Pos) (e f:Expr) (cpos:Pos):Prop where
 base:qeE o m X.env (eval o X.env)=eval o X.env
 few:((qes cpos (qbP [e,f] X.env)).all (λx=>!x.1) && (qjk cpos (qgI [] X.env)).all (λx=>x.1.isSome)
  && decide (([e,f]:List Expr).length+([]:List qit).length+(if ([]:List qit).isEmpty then 0 else 1)<30))=true
 line:(apos.endLine==cpos.line)=true
 trees:qes cpos (qbP [e,f] X.env)=[(false,eval e X.env),(false,eval f X.env)]
def IsD (H:Hp) (a:Addr):Prop:=(∃ kvs,Rd H a (.dK kvs))\/∃ kvs,Rd H a (.dT kvs)
theorem Ez {X:Cx}{pins:List (Addr×Obj)}{σ:St}{H:Hp}{s:qaj}{a:Addr} (I:Inv X pins σ H s) (d:IsD H a) :
  s.TypeIs (.ref a) "dict"/\(∀ b,Value.ref a=.ref b->∃ ob,s.heap.get? b=some ob/\ob.dict=none)/\(a==qcH)=false:=by
 rcases d with⟨kvs,e⟩|⟨kvs,e⟩
 ·obtain⟨_,hd,vs,_,dd⟩:=u6 I.hok e
  refine⟨dd.typeIs,λb q=>?_,hd⟩
  cases q
  obtain⟨ob,_,_,h1,h2,_⟩:=dd
  exact⟨ob,h1,h2.2.1⟩
 ·obtain⟨_,hd,xs,_,dd⟩:=uq I.hok e
  refine⟨dd.typeIs,λb q=>?_,hd⟩
  cases q
  obtain⟨ob,_,_,h1,h2,_⟩:=dd
  exact⟨ob,h1,h2.2.1⟩
section
variable {X:Cx}{pins:List (Addr×Obj)}{σ:St}{H:Hp}{s:qaj}{a:Addr}{y d:V}{u r:Value}{o:Option V}{A:qa9}{E:Value->qaj->Prop}
theorem Gm {Q:Value->qaj->Prop} (hu:A.units+1<cLine) (I:Inv X pins σ H s) (g:sB H a y o) (ry:aW y u) (rd:aW d r) (h:∀ w' s',Inv X pins σ H s'->aW (o.getD d) w'->Q w' s') :
  wpAny (model X.prog X.w) A (call (.builtin "dict.get") [.ref a,u,r]) Q E s:=by
 rcases g with⟨kvs,k,e,ey,l⟩|⟨kvs,k,b,e,ey,eb,l⟩
 ·subst ey
  obtain⟨z,hd,vs,rel,dd⟩:=u6 I.hok e
  refine call_meetsIn qe2 dd.typeIs qhN (qhz _ _ _) (meets_dict_get_default (cu X.prog X.w) a (xE ry) hd r) ⟨_,dd.mapOf,h _ _ (I.tok _) ?_⟩
  rw[l]
  exact (rel.val k).getD rd
 ·subst ey
  cases (show u=Value.ref b from ry)
  obtain⟨z,hd,xs,rel,dd⟩:=uq I.hok e
  refine call_meetsIn qe2 dd.typeIs qhN (qhz _ _ _) (meetsH_dict_get_default (qg9 (cu X.prog X.w)) a b hd r) ⟨qg8 hu,k,xs,tw I.hok eb,dd,h _ _ (I.tok _) ?_⟩
  rw[l]
  exact (rel.val k).getD rd
end
def E9 (td ty tx:TE):TE:=λσ H Q=>td σ H λx H1=>∃ a,x=.ref a/\IsD H1 a/\ty σ H1 λy H2=>tx σ H2 λz H3=>∃ o,sB H3 a y o/\Q (o.getD z) H3
section
variable {X:Cx}{o e f:Expr}{apos cpos:Pos}{td ty tx:TE}
theorem Ak (hu:X.A.units+1<cLine) (ho:PE X o td) (he:PE X e ty) (hf:PE X f tx) (m:M2 X o "get" apos e f cpos):PE X (.Call (.Attribute o "get" apos) [e,f] [] cpos) (E9 td ty tx):=by
 intro pins s σ H Q I h
 refine wpAny_Call_method m.base m.few m.line PySem.F.plainAttrs_dict qe2 PySem.F.type_dict_get (thn (ho pins s σ H _ I h) λu s1 ⟨x,H1,I1,rx,a,ex,d,q1⟩=>?_)
 subst ex
 obtain rfl:u=Value.ref a:=rx
 obtain⟨t1,t2,_⟩:=Ez I1 d
 refine⟨t1,t2,?_⟩
 rw[m.trees]
 refine qib rfl (qiF (qcN (thn (he pins s1 σ H1 _ I1 q1) λiv s2 ⟨y,H2,I2,ry,q2⟩=>
  qcN (thn (hf pins s2 σ H2 _ I2 q2) λfv s3 ⟨z,H3,I3,rz,ov,g,q3⟩=>qdu ?_))))
 exact Gm hu I3 g ry rz λw' s4 I4 rw'=>⟨_,H3,I4,rw',q3⟩
end
section
variable {X:Cx}{pins:List (Addr×Obj)}{σ:St}{H:Hp}{s:qaj}{a:Addr}{kvs:List (Key×V)}{A:qa9}{E:Value->qaj->Prop}
end
section
variable {X:Cx}{pins:List (Addr×Obj)}{σ:St}{H:Hp}{s:qaj}{a:Addr}{y:V}{u:Value}{A:qa9}{E:Value->qaj->Prop}
end
section
variable {prog:qaY}{w:World}{A:qa9}{E:Value->qaj->Prop}{s:qaj}{κ:Type} [DecidableEq κ] {knd:KeyKind prog w κ}{a:Addr}{kvs:List (κ×Value)}
end
section
variable {X:Cx}{pins:List (Addr×Obj)}{σ:St}{H:Hp}{s:qaj}{a:Addr}{kvs:List (Key×V)}{k:Key}{u r:Value}{A:qa9}{E:Value->qaj->Prop}{z:V}
end
section
variable {K:qai}{X:Cx}{pos:Pos}{e a b o f:Expr}{fe fa fb fo ff:Ef}
end
section
variable {K:qai}{X:Cx}
end
def lP (h:Heap) (d:Addr) (es:Array qeS) (ep:Nat):Prop:=∃ o,h.get? d=some o/\o.ExactDict/\o.data=.dict es ep
theorem lP.at' {h h':Heap}{d:Addr}{es:Array qeS}{ep:Nat} (x:lP h d es ep) (e:∀ o,h.get? d=some o->h'.get? d=some o):lP h' d es ep:=let ⟨o,ho,r⟩:=x;⟨o,e o ho,r⟩
theorem lP.type {s:qaj}{d:Addr}{es:Array qeS}{ep:Nat} (x:lP s.heap d es ep):s.TypeIs (.ref d) "dict":=let ⟨o,ho,hc,_⟩:=x;⟨o,ho,hc.1⟩
theorem lP.lt {h:Heap}{d:Addr}{es:Array qeS}{ep:Nat} (x:lP h d es ep):d<h.objs.size:=let ⟨o,ho,_⟩:=x;qao ho
section
variable {prog:qaY}{w:World}{A:qa9}{E:Value->qaj->Prop}{s:qaj}{d it:Addr}{es:Array qeS}{i ep:Nat}
theorem BY {Q:Value->qaj->Prop} (hd:(d==qcH)=false) (hm:lP s.heap d es ep)
  (hQ:Q (.ref s.heap.objs.size) { s with heap:=s.heap.push { cls:=.type "dict_keyiterator",data:=.fields #[.ref d,.int 0 0,.int es.size 0,.int ep 0] } }) :
  wpAny (model prog w) A (qih (.ref d)) Q E s:=by
 have hT:=hm.type
 obtain⟨o,ho,hc,hdat⟩:=id hm
 refine qfe hT qhK (qbd qhK hT PySem.F.entry_dict_iter ?_ (PySem.F.args_dict_iter_1 _))
 unfold qcs.«dict.__iter__»
 refine qaa ?_
 unfold qlU
 refine qaa (wpAny_notOrdered_dict hT ?_)
 show wpAny _ _ (pure (Value.ref d)) _ _ s
 refine qab ?_
 show wpAny _ _ (qg5 d >>= _) _ _ s
 unfold qg5
 rw[if_neg (by rw[hd];exact qan)]
 refine qaa (qab ?_)
 refine qaa (qhr ho hdat ?_)
 refine qaa (qie ho hdat ?_)
 refine qaa (qbh (qab ⟨_,rfl,"dict_keyiterator",_,⟨_,qau _ rfl,rfl⟩,qb9.lookup,?_⟩))
 simpa [qeA] using hQ
theorem AZ {Q:Option Value->qaj->Prop} (hit:s.heap.IsKeyIter it d i es.size ep) (hm:lP s.heap d es ep) (hlt':i<es.size)
  (hQ:∀ h',h'.IsKeyIter it d (i+1) es.size ep->qbm it s.heap h'->Q (some es[i].key) { s with heap:=h' }) :
  wpAny (model prog w) A (qeq (.ref it)) Q E s:=by
 obtain⟨o,ho,hc,hd⟩:=id hit
 obtain⟨od,hod,hcd,hdd⟩:=id hm
 unfold qeq
 refine qaa (qee (qbC (name:=qc3 "__next__") hit.typeIs qb9
  (qbd qb9 hit.typeIs qfv ?_ (qfk _))))
 refine qaa (qab ?_)
 refine qaa ?_
 refine qaa ?_
 first|refine qaa (qdk hit.typeIs (qab ?_))|refine qaa (qd3 hit.typeIs (qab ?_))
 refine qaa (qmc ho hd ?_)
 have hown:qe6 "dict_keyiterator" = false:=by decide
 simp only[hown,qaq,if_false]
 show wpAny _ _ (if (Value.ref d==Value.none)=true then _ else _) _ _ s
 rw[if_neg (show ¬ ((Value.ref d==Value.none)=true) from qan)]
 refine qaa (qab ?_)
 refine qaa (qhr hod hdd ?_)
 rw[if_neg (by simp)]
 refine qaa (qab ?_)
 refine qaa (qie hod hdd ?_)
 rw[if_neg (by simp)]
 refine qab ?_
 simp only[show ¬ ((i:Int)<0) from by lia,if_false,qaK,qas hlt']
 refine qaa ?_
 first|refine qaa (qdk hit.typeIs (qab ?_))|refine qaa (qd3 hit.typeIs (qab ?_))
 refine qaa (qjK hit.typeIs ?_)
 show wpAny _ _ (setField (.ref it) 1 (qeA ((i:Int)+1)) >>= _) _ _ s
 refine qaa (qcE ho hd (by simp) ?_)
 have hit':(s.heap.update it (qgx (·.setIfInBounds 1 (qeA ((i:Int)+1))))).IsKeyIter it d (i+1) es.size ep:=
  ⟨_,qbZ _ ho (qcQ (qbL hd _)),(qdx ..).trans hc,by rw[qbL hd];simp[qeA]⟩
 refine qaa (qbk ?_)
 refine qaa (qjK (s:={ s with heap:=s.heap.update it (qgx (·.setIfInBounds 1 (qeA ((i:Int)+1)))) }) hit'.typeIs ?_)
 show wpAny _ _ (pure es[i].key) _ _ _
 exact qab (qab ⟨_,rfl,qab (hQ _ hit' (qa8 ..))⟩)
theorem Dv {Q:Option Value->qaj->Prop} (hh:A.handled=none) (hit:s.heap.IsKeyIter it d es.size es.size ep) (hm:lP s.heap d es ep)
  (hQ:∀ h',qho it s.heap h'->Q none { s with heap:=h' }):wpAny (model prog w) A (qeq (.ref it)) Q E s:=by
 obtain⟨o,ho,hc,hd⟩:=id hit
 obtain⟨od,hod,hcd,hdd⟩:=id hm
 unfold qeq
 refine qaa (qee (qbC (name:=qc3 "__next__") hit.typeIs qb9
  (qbd qb9 hit.typeIs qfv ?_ (qfk _))))
 refine qaa (qab ?_)
 refine qaa ?_
 refine qaa ?_
 first|refine qaa (qdk hit.typeIs (qab ?_))|refine qaa (qd3 hit.typeIs (qab ?_))
 refine qaa (qmc ho hd ?_)
 have hown:qe6 "dict_keyiterator" = false:=by decide
 simp only[hown,qaq,if_false]
 show wpAny _ _ (if (Value.ref d==Value.none)=true then _ else _) _ _ s
 rw[if_neg (show ¬ ((Value.ref d==Value.none)=true) from qan)]
 refine qaa (qab ?_)
 refine qaa (qhr hod hdd ?_)
 rw[if_neg (by simp)]
 refine qaa (qab ?_)
 refine qaa (qie hod hdd ?_)
 rw[if_neg (by simp)]
 refine qab ?_
 have hge:es.size<=es.size:=qap _
 simp only[show ¬ ((es.size:Int)<0) from by lia,if_false,qaK,qba hge]
 refine qaa ?_
 first|refine qaa (qdk hit.typeIs (qab ?_))|refine qaa (qd3 hit.typeIs (qab ?_))
 show wpAny _ _ (setField (.ref it) 0 .none >>= _) _ _ s
 refine qaa (qcE ho hd (by simp) ?_)
 show wpAny _ _ (qiY (.type "StopIteration") [] >>= _) _ _ _
 refine qaa ?_
 simp only[qiY,qkn]
 refine qaa (qbh ?_ (by size_fits))
 refine qaa (m:=qdm _ _) (qgH (a:=Value.none) (by first|rfl|(simp only[qdm];rfl)) ?_)
 refine qbh ?_ (by size_fits)
 simp only[qkm]
 refine qaa (qg7 ?_)
 rw[show A.in1.handled=none from hh]
 refine qaa (qab (qic ?_))
 refine qaa (qdR (T:="StopIteration") (b:=true) ⟨_,qau _ rfl,rfl⟩ qiJ ?_)
 exact qab (hQ _ (((qa8 ..).extBut.push _).push _))
theorem yT (hh:A.handled=none) (I d:Addr) (hne:d≠I) (es:Array qeS) (ep:Nat) :
  Walks prog w A I [I,d] [I] es.size (λi v=>∃ e,es[i]?=some e/\v=e.key) (λi h=>h.IsKeyIter I d i es.size ep/\lP h d es ep) where
 sub:=λb hb=>by simp at hb;simp[hb]
 frame:=λ_ _ _ st hk=>⟨st.1.at λo e=>hk I (by simp) o e,st.2.at' λo e=>hk d (by simp) o e⟩
 item:=λi s Q E hi st hQ=>by
  refine AZ st.1 st.2 hi λh' hit' hs'=>?_
  exact hQ _ h' s.toks ⟨es[i],by simp[hi],rfl⟩ ⟨hit',st.2.at' λo q=>hs'.extBut d o hne q⟩ λb o hb q=>hs'.extBut b o (λh=>hb (by simp[h])) q
 done:=λs Q E st hQ=>Dv hh st.1 st.2 λh' he'=>hQ h' s.toks λb o hb e=>he' b o (λh=>hb (by simp[h])) e
 self:=λ_ _ _ _ st hQ=>wpAny_pyIter_keyiter st.1 hQ
theorem CA (prog:qaY) (w:World) (d:Addr) (es:Array qeS) (ep:Nat) (lo:(d==qcH)=false):qhe prog w "dict" d d es.size (λi v=>∃ e,es[i]?=some e/\v=e.key) (λh=>lP h d es ep) where
 type:=λs S=>S.type
 there:=λh S=>⟨S.lt,S.lt⟩
 keep:=λh h' S hk=>S.at' λo e=>hk d (.inl rfl) o e
 notList:=by decide
 notTuple:=by decide
 hint:=λA E s Q S h=>PySem.W.kdl_hint_dict S.type h
 iter:=λA s hh S=>⟨_,_,λE Q h=>BY lo S h,yT hh s.heap.objs.size d (qar S.lt) es ep,
  ⟨⟨_,qau _ rfl,rfl,rfl⟩,S.at' λo e=>qae _ e⟩⟩
end
section
variable {prog:qaY}{w:World}{A:qa9}{E:Value->qaj->Prop}{s:qaj}{d:Addr}{es:Array qeS}{ep:Nat}
theorem uM {Q:List Value->qaj->Prop} (lo:(d==qcH)=false) (S:lP s.heap d es ep) (hh:A.handled=none) (hn:es.size<=qaO)
  (h:∀ h' tk,(∀ b o,s.heap.get? b=some o->h'.get? b=some o)->s.heap.objs.size<h'.objs.size->Q (es.toList.map (·.key)) { s with heap:=h',toks:=tk }) :
  wpAny (model prog w) A (qjj (.ref d)) Q E s:=by
 have hlt:d<s.heap.objs.size:=S.lt
 unfold qjj
 refine qaa (qe0 (qb2 qgu ?_))
 show wpAny _ _ (do again (.builtin "list.__iadd__" ⟨[<-ql4 [],.ref d],[]⟩)) _ _ s
 refine qaa (qdH (qab ⟨qdX _ (by decide +kernel),qb2 qhW ?_⟩))
 show wpAny _ _ (qeb (.ref s.heap.objs.size) (.ref d) (.ref s.heap.objs.size)) _ _ { s with heap:=s.heap.push (qcc "list" #[] 0) }
 refine qfI (A:=A) (R:=λr s'=>match r with
   | .ok (.ret v)=>wpAny (model prog w) A (match v with
     |.ref a=>do
      let o <-load a
      match o.data with
      |.seq xs _=>pure xs.toList
      |_=>qdZ "internal:collect"
     |_=>qdZ "internal:collect") Q E s'
   |.ok _=>False
   |.error e=>E e s') (s:={ s with heap:=s.heap.push (qcc "list" #[] 0) }) (CA prog w d es ep lo) hh (S.at' λo e=>qae _ e) s.heap.objs.size (qbu hlt) (qbu hlt) (.ref s.heap.objs.size) 0 (qau _ rfl) (λh' tk acc c hk hS hI=>?_) hn
 show wpAny (model prog w) A (do
   let o <-load s.heap.objs.size
   match o.data with
   |.seq xs _=>pure xs.toList
   |_=>qdZ "internal:collect") Q E { s with heap:=h',toks:=tk }
 refine qaa (qeG hS ?_)
 show wpAny _ _ (pure acc.toList) Q E _
 have e:acc.toList=es.toList.map (·.key):=by
  apply qgF
  intro i
  rw[qaZ,qbN,qbN]
  by_cases hi:i<acc.size
  ·obtain⟨e,he,hv⟩:=hI.2 i acc[i] (qas hi)
   rw[he,qas hi,hv];rfl
  ·rw[qba (by lia),qba (by rw[<-hI.1];lia)];rfl
 rw[e]
 refine qab (h h' tk (λb o q=>?_) (qao hS))
 exact hk b o (qar (qao q)) (qae _ q)
theorem wO {Q:Value->qaj->Prop}{vs:List Value} (lo:(d==qcH)=false) (S:lP s.heap d es ep) (hh:A.in1.handled=none) (hvs:es.toList.map (·.key)=vs) (h64:vs.length<=64) (hu:A.in1.in1.units<cLine)
  (t:∀ v∈vs,∃ l,TuI s.heap v l)
  (h:∀ (h':Heap) (tk:Nat) (p:Addr) (ep:Nat) (out:List Value),(∀ b o,s.heap.get? b=some o->h'.get? b=some o)->s.heap.objs.size<=p->h'.get? p=some (qcc "list" out.toArray ep)->out.Perm vs->out.Pairwise (λx y=>OI.kle (tuI s.heap x) (tuI s.heap y))->Q (.ref p) { s with heap:=h',toks:=tk }) :
  wpAny (model prog w) A (call (.builtin "sorted") [.ref d]) Q E s:=by
 refine qdD qii qhG qhH (qhI _) ?_
 unfold qcs.«sorted»
 refine qaa (m:=qiZ "sorted" 1 1 _) (qab ?_)
 have hsz:es.size<=qaO:=by
  have:=congrArg qi6 hvs
  rw[qag,qaA]at this
  rw[qbM];lia
 refine qaa (uM lo S hh hsz λh1 tk hk hlt=>?_)
 rw[hvs]
 refine qaa (qdH ?_ (by rw[qbM];lia))
 have hoL:(h1.push (qcc "list" vs.toArray 0)).get? h1.objs.size=some (qcc "list" vs.toArray 0):=qau _ rfl
 show wpAny _ _ _ _ _ { s with heap:=h1.push (qcc "list" vs.toArray 0),toks:=tk }
 refine qaa (qbk (qbd qgA ⟨_,hoL,rfl⟩ qga (jX (O:=OI) (rk:=λp=>tuI s.heap p.1) (S:=λp=>∃ l,TuI s.heap p.1 l) (s:={ s with heap:=h1.push (qcc "list" vs.toArray 0),toks:=tk }) hoL h64 (λh' hk'=>?_) (λv hv=>t v hv) λout a1 a2=>⟨_,rfl,?_⟩) (qgD _)))
 ·have hk2:∀ b o,s.heap.get? b=some o->h'.get? b=some o:=λb o q=>hk' b o (qar (qao (hk b o q))) (qae _ (hk b o q))
  obtain⟨κ,k1,k2⟩:=p5 (prog:=prog) (w:=w) (s:={ s with heap:=h',toks:=tk }) (vs:=vs) (λv hv=>let ⟨l,tl⟩:=t v hv;⟨l,tl.fit hk2⟩) hu
  refine⟨κ,k1,λx y ⟨l,hx⟩ ⟨m,hy⟩ Q E hq=>k2 x y ⟨l,hx.fit hk2⟩ ⟨m,hy.fit hk2⟩ Q E ?_⟩
  have hx':=hx.fit hk2
  have hy':=hy.fit hk2
  have hq':Q (bU (tuI s.heap x.1) (tuI s.heap y.1)) { s with heap:=h',toks:=tk }:=hq
  show Q (bU (tuI h' x.1) (tuI h' y.1)) { s with heap:=h',toks:=tk }
  rw[hx'.is,hy'.is]
  rw[hx.is,hy.is]at hq'
  exact hq'
 ·refine qab ⟨_,rfl,?_⟩
  obtain⟨ep',he⟩:=qjb (out:=out.toArray) hoL
  refine h _ tk h1.objs.size ep' out (λb o q=>?_) (qdt hlt) he a1 (a2.imp λ{x y} q=>q)
  have q1:=hk b o q
  have hb:b<h1.objs.size:=qao q1
  show (qht (h1.push (qcc "list" vs.toArray 0)) h1.objs.size vs out.toArray).get? b=some o
  rw[qiI (qar hb) (by rw[qhu];exact qa0 hb),qcZ _ _ _ (qar hb)]
  exact q1
end
def mgt (st:Sto) (n:Nat):Option (List (List Int×D)):=match st[n]? with
 |some (.m kvs)=>some kvs
 |_=>none
def vM (kvs:List (List Int×D)) (k:List Int):Option D:=(kvs.find? λp=>decide (p.1=k)).map (·.2)
def kM (kvs:List (List Int×D)) (k:List Int) (d:D):List (List Int×D):=if (kvs.any λp=>decide (p.1=k))=true then kvs.map λp=>if p.1=k then (p.1,d) else p else kvs++[(k,d)]
def Ac:Ef
 |_,st=>some (.h st.length,st++[.m []])
def vC (o k v:Ef):Ef
 |env,st=>(o env st).bind λx=>(k env x.2).bind λy=>(v env y.2).bind λz=>match x.1,y.1,z.1 with
 |.h n,.d (.tup ds),.d d=>(mgt x.2 n).bind λ_=>(mgt z.2 n).bind λkvs=>(ba ds).map λl=>(.d ((vM kvs l).getD d),z.2)
 |_,_,_=>none
def zM (o k:Ef):Ef
 |env,st=>(o env st).bind λx=>(k env x.2).bind λy=>match x.1,y.1 with
 |.h n,.d (.tup ds)=>(mgt y.2 n).bind λkvs=>(ba ds).bind λl=>(vM kvs l).map λd=>(.d d,y.2)
 |_,_=>none
def rK (o k v:Ef):Sf
 |env,st=>(v env st).bind λz=>(o env z.2).bind λx=>(k env x.2).bind λy=>match x.1,y.1,z.1 with
 |.h n,.d (.tup ds),.d d=>(mgt y.2 n).bind λkvs=>(ba ds).bind λl=>if kvs.length<1000 then some (.nx env (y.2.set n (.m (kM kvs l d)))) else none
 |_,_,_=>none
def mP (a:Ef):Lf
 |env,st=>(a env st).bind λx=>match x.1 with
 |.h n=>(mgt x.2 n).bind λkvs=>if kvs.length<=64 then some ((aZ (kvs.map (·.1))).map ai,x.2) else none
 |_=>none
section
variable {K:qai}{X:Cx}{pos:Pos}{e a b o f:Expr}{fe fa fb fo ff:Ef}
theorem Bw {st:Sto}{n:Nat}{kvs:List (List Int×D)} (h:mgt st n=some kvs):st[n]?=some (.m kvs):=by
 unfold mgt at h
 split at h
 ·rename_i q;cases h;exact q
 ·cases h
theorem Sr.atm {H:Hp}{φ:List Addr}{st:Sto} (S:Sr K H φ st) {n:Nat}{p:Addr}{kvs:List (List Int×D)} (e1:φ[n]?=some p) (e2:mgt st n=some kvs):∃ vs,H p=some (.dT vs)/\Rkv K H φ kvs vs:=S.at_ n p _ e1 (Bw e2)
theorem Rkv.length {H:Hp}{φ:List Addr}:∀ {ds:List (List Int×D)}{vs:List (List Key×V)},Rkv K H φ ds vs->ds.length=vs.length
 |[],_,h=>by cases h;rfl
 |(k,d)::ds,_,h=>by
  obtain⟨v,r,rfl,h1,h2⟩:=h
  rw[qam,qam,Rkv.length h2]
theorem lR:∀ {a b:List Int},h9 a=h9 b->a=b
 |[],[],_=>rfl
 |[],_::_,h=>by cases h
 |_::_,[],h=>by cases h
 |x::a,y::b,h=>by
  have h':(Sum.inl x:Key)::h9 a=Sum.inl y::h9 b:=h
  injection h' with h1 h2
  injection h1 with h1
  rw[h1,lR h2]
theorem ya (l:List Int):(h9 l).map kV=l.map V.int:=by
 unfold h9
 rw[qaJ];rfl
theorem Rkv.val {H:Hp}{φ:List Addr}{i:List Int}:∀ {ds:List (List Int×D)}{vs:List (List Key×V)},Rkv K H φ ds vs->(∀ d,vM ds i=some d->∃ v,jc vs (h9 i)=some v/\Rl K H φ d v)/\(vM ds i=none->jc vs (h9 i)=none)
 |[],_,h=>by cases h;exact⟨(λd e=>nomatch e),λ_=>rfl⟩
 |(k,d)::ds,_,h=>by
  obtain⟨v,r,rfl,h1,h2⟩:=h
  have ih:=Rkv.val (i:=i) h2
  by_cases e:k=i
  ·subst e
   have e1:vM ((k,d)::ds) k=some d:=by unfold vM;rw[qfc (by simp)];rfl
   have e2:jc ((h9 k,v)::r) (h9 k)=some v:=by unfold jc;rw[qfc (by simp)];rfl
   rw[e1,e2]
   exact⟨λd' q=>⟨v,rfl,by cases q;exact h1⟩,λq=>nomatch q⟩
  ·have e1:vM ((k,d)::ds) i=vM ds i:=by unfold vM;rw[qfd (by simpa using e)]
   have e2:jc ((h9 k,v)::r) (h9 i)=jc r (h9 i):=by unfold jc;rw[qfd (by simpa using λz=>e (lR z))]
   rw[e1,e2]
   exact ih
theorem Rkv.any {H:Hp}{φ:List Addr}{i:List Int}:∀ {ds:List (List Int×D)}{vs:List (List Key×V)},Rkv K H φ ds vs->(vs.any λp=>decide (p.1=h9 i))=ds.any λp=>decide (p.1=i)
 |[],_,h=>by cases h;rfl
 |(k,d)::ds,_,h=>by
  obtain⟨v,r,rfl,h1,h2⟩:=h
  rw[qcw,qcw,Rkv.any h2]
  congr 1
  exact decide_eq_decide.mpr ⟨λz=>lR z,λz=>congrArg h9 z⟩
theorem Rkv.repl {H:Hp}{φ:List Addr}{i:List Int}{x:D}{y:V} (hx:Rl K H φ x y):∀ {ds:List (List Int×D)}{vs:List (List Key×V)},Rkv K H φ ds vs->Rkv K H φ (ds.map λp=>if p.1=i then (p.1,x) else p) (vs.map λp=>if p.1=h9 i then (p.1,y) else p)
 |[],_,h=>by cases h;exact rfl
 |(k,d)::ds,_,h=>by
  obtain⟨v,r,rfl,h1,h2⟩:=h
  rw[qal,qal]
  by_cases e:k=i
  ·rw[if_pos e,if_pos (by rw[e])]
   exact⟨y,_,rfl,hx,Rkv.repl hx h2⟩
  ·rw[if_neg e,if_neg (λz=>e (lR z))]
   exact⟨v,_,rfl,h1,Rkv.repl hx h2⟩
theorem Rkv.snoc {H:Hp}{φ:List Addr}:∀ {ds:List (List Int×D)}{vs:List (List Key×V)}{k:List Int}{d:D}{v:V},Rkv K H φ ds vs->Rl K H φ d v->Rkv K H φ (ds++[(k,d)]) (vs++[(h9 k,v)])
 |[],_,_,_,_,h,hd=>by cases h;exact⟨_,[],rfl,hd,rfl⟩
 |(k,d)::ds,_,_,_,_,h,hd=>by
  obtain⟨v,r,rfl,h1,h2⟩:=h
  exact⟨v,_,rfl,h1,Rkv.snoc h2 hd⟩
theorem Rkv.put {H:Hp}{φ:List Addr}{ds:List (List Int×D)}{vs:List (List Key×V)}{k:List Int}{d:D}{v:V} (h:Rkv K H φ ds vs) (hd:Rl K H φ d v):Rkv K H φ (kM ds k d) (lw vs (h9 k) v):=by
 unfold kM lw
 rw[h.any]
 split
 ·exact h.repl hd
 ·exact h.snoc hd
theorem sJ {H:Hp}{φ:List Addr}{ds:List D}{l:List Int}{v:V} (hl:ba ds=some l) (r:Rl K H φ (.tup ds) v):∃ p,v=.ref p/\H p=some (.tup ((h9 l).map kV)):=by
 obtain⟨p,vs,rfl,h1,h2⟩:=r
 cases dL hl
 cases h2.ints
 rw[ya]
 exact⟨p,rfl,h1⟩
theorem xt:IE K X (.Dict [] [] pos) Ac:=by
 refine⟨λenv st r hr=>?_⟩
 cases hr
 refine BR.imp ?_
 rintro σ H Q ⟨φ,hE,hS,q⟩
 exact λp hp=>q _ _ (φ++[p]) (Fw.moreO hp) (hS.moreC hp ⟨[],bj,rfl⟩) ⟨p,by rw[<-hS.len];simp,rfl⟩
theorem Dt {k:Nat}{apos:Pos} (hr0:cX k X.A) (ho:IE K X o fo) (he:IE K X e fe) (hf:IE K X f ff) (m:M2 X o "get" apos e f pos):IE K X (.Call (.Attribute o "get" apos) [e,f] [] pos) (vC fo fe ff):=by
 refine⟨λenv st r hr=>?_⟩
 simp only[vC,qac]at hr
 obtain⟨⟨x,s1⟩,hx,⟨y,s2⟩,hy,⟨z,s3⟩,hz,hr⟩:=hr
 dsimp only at hr
 split at hr
 next n ds d=>
  simp only[qac,qad]at hr
  obtain⟨kv1,hk1,kvs,hk,l,hl,rfl⟩:=hr
  refine (Ak (Ab hr0) (ho.run _ _ _ hx) (he.run _ _ _ hy) (hf.run _ _ _ hz) m).imp ?_
  rintro σ H Q ⟨φ,hE,hS,q⟩
  refine⟨φ,hE,hS,λv H1 φ1 f1 S1 w1=>?_⟩
  obtain⟨p,ep,rfl⟩:=id w1
  obtain⟨vs1,hv1,_⟩:=S1.atm ep hk1
  refine⟨p,rfl,.inr ⟨vs1,.inl hv1⟩,φ1,hE.fw hS f1,S1,λu H2 φ2 f2 S2 w2=>⟨φ2,(hE.fw hS f1).fw S1 f2,S2,λz' H3 φ3 f3 S3 w3=>?_⟩⟩
  have ep3:=f3.get (f2.get ep)
  obtain⟨vs,hv,rl⟩:=S3.atm ep3 hk
  obtain⟨b,rfl,hb⟩:=sJ hl (Rl.fw S2 f3 w2)
  refine⟨_,sB.t hv hb,?_⟩
  cases hc:vM kvs l with
  |none=>
   rw[rl.val.2 hc]
   exact q _ H3 φ3 ((f1.trans f2).trans f3) S3 (by rw[hc];exact w3)
  |some d'=>
   obtain⟨v2,e2,r2⟩:=rl.val.1 d' hc
   rw[e2]
   exact q _ H3 φ3 ((f1.trans f2).trans f3) S3 (by rw[hc];exact r2)
 ·cases hr
theorem B6 {k:Nat} (hr0:cX k X.A) (ha:IE K X a fa) (hb:IE K X b fb) (hs:FR b):IE K X (.Subscript a b pos) (zM fa fb):=by
 refine⟨λenv st r hr=>?_⟩
 simp only[zM,qac]at hr
 obtain⟨⟨x,s1⟩,hx,⟨y,s2⟩,hy,hr⟩:=hr
 dsimp only at hr
 split at hr
 next n ds=>
  simp only[qac,qad]at hr
  obtain⟨kvs,hk,l,hl,d,hd,rfl⟩:=hr
  refine (C5 (Ab hr0) (ha.run _ _ _ hx) (hb.run _ _ _ hy) hs).imp ?_
  rintro σ H Q ⟨φ,hE,hS,q⟩
  refine⟨φ,hE,hS,λv H1 φ1 f1 S1 w1=>⟨φ1,hE.fw hS f1,S1,λu H2 φ2 f2 S2 w2=>?_⟩⟩
  obtain⟨p,ep,rfl⟩:=w1.fw S1 f2
  obtain⟨vs,hv,rl⟩:=S2.atm ep hk
  obtain⟨v2,e2,r2⟩:=rl.val.1 d hd
  obtain⟨b',rfl,hb'⟩:=sJ hl w2
  refine⟨p,v2,rfl,?_,q _ H2 φ2 (f1.trans f2) S2 r2⟩
  rw[<-e2]
  exact sB.t hv hb'
 ·cases hr
theorem xO {k:Nat}{tpos:Pos} (hr0:cX k X.A) (ho:IE K X a fa) (hi:IE K X b fb) (hv:IE K X e fe) (hs:qfg e (some (.Subscript a b tpos)) pos.line X.env=pure false:=by rfl) :
  IS K X (.Assign [.Subscript a b tpos] e pos) (rK fa fb fe):=by
 refine⟨λenv st r hr=>?_⟩
 simp only[rK,qac]at hr
 obtain⟨⟨z,s1⟩,hz,⟨x,s2⟩,hx,⟨y,s3⟩,hy,hr⟩:=hr
 dsimp only at hr
 split at hr
 next n ds d=>
  simp only[qac]at hr
  obtain⟨kvs,hk,l,hl,hr⟩:=hr
  split at hr
  ·rename_i hlen
   cases hr
   refine (Dj (Ab hr0) (ho.run _ _ _ hx) (hi.run _ _ _ hy) (hv.run _ _ _ hz) hs).imp ?_
   rintro D σ H ⟨φ,hE,hS,q⟩
   refine⟨φ,hE,hS,λv H1 φ1 f1 S1 w1=>⟨φ1,hE.fw hS f1,S1,λu H2 φ2 f2 S2 w2=>⟨φ2,(hE.fw hS f1).fw S1 f2,S2,λt H3 φ3 f3 S3 w3=>?_⟩⟩⟩
   obtain⟨p,ep,rfl⟩:=w2.fw S2 f3
   obtain⟨vs,hp,rl⟩:=S3.atm ep hk
   obtain⟨b',rfl,hb'⟩:=sJ hl w3
   have w1':=Rl.fw S2 f3 (Rl.fw S1 f2 w1)
   obtain⟨f4,S4⟩:=S3.putC (o:=.dT (lw vs (h9 l) v)) (c:=.m (kM kvs l d)) ep λf=>⟨_,bj,(rl.put w1').fw S3 f⟩
   refine⟨p,_,rfl,AU.t hp hb' (by rw[<-rl.length];exact qaR hlen (by rw[qbM];decide)),?_⟩
   exact q _ _ φ3 (((f1.trans f2).trans f3).trans f4) (((((hE.fw hS f1).fw S1 f2).fw S2 f3)).fw S3 f4) S4
  ·cases hr
 ·cases hr
theorem yu {H:Hp}{φ:List Addr}:∀ {kvs:List (List Int×D)}{vs:List (List Key×V)}{xs:List (List Key×Addr×Value)},Rkv K H φ kvs vs->KT H vs xs->
  Rls K H φ ((kvs.map (·.1)).map ai) (xs.map λx=>V.ref x.2.1)/\aP (xs.map λx=>V.ref x.2.1) (xs.map λx=>Value.ref x.2.1)
 |[],_,_,h,t=>by cases h;cases t;exact⟨rfl,.nil⟩
 |(k,d)::kvs,_,_,h,t=>by
  obtain⟨v,r,rfl,h1,h2⟩:=h
  cases t with
  |cons q t=>
   rename_i x xs
   obtain⟨i1,i2⟩:=yu h2 t
   have e:H x.2.1=some (.tup (k.map V.int)):=by rw[<-ya];exact q.2.1
   exact⟨⟨_,_,rfl,⟨x.2.1,k.map V.int,rfl,e,Rls.of_ints k⟩,i1⟩,.cons rfl i2⟩
theorem BT {k:Nat}{p:Pos} (hr0:cX k X.A) (hg:Gl X "sorted") (hm:X.mg "sorted" = none) (ha:IE K X a fa) (hc:X.calm=true:=by rfl) (hs:aU a=true:=by rfl) (hK:X.K=K:=by rfl):IL K X (.Call (.Name "sorted" p) [a] [] pos) (mP fa):=by
 subst hK
 refine⟨λenv st r hr=>?_⟩
 simp only[mP,qac]at hr
 obtain⟨⟨x,s1⟩,hx,hr⟩:=hr
 match x,hr with
 |.h n,hr=>
  simp only[qac]at hr
  obtain⟨kvs,hk,hr⟩:=hr
  split at hr
  ·rename_i hl
   cases hr
   have hA:=(aa (K:=X.K) (X:=X) ha ah hs).run env st ([.h n],s1) (by simp only[ab,ak,hx,qaf,qaC])
   have hC:eV X (.builtin "sorted") (λxs H Q=>∃ φ q,Sr X.K H φ s1/\φ[n]?=some q/\xs=[.ref q]/\∀ l us,H l=none->Rls X.K H φ ((aZ (kvs.map (·.1))).map ai) us->Q (.ref l) (upd H l (.lst us))):=by
    intro pins s σ H xs us Q I rv q
    obtain⟨φ,ad,S,ead,rfl,q⟩:=q
    obtain⟨u,rfl,ru⟩:=lO rv
    cases ru
    obtain⟨vs,hv,rl⟩:=S.atm ead hk
    obtain⟨z',hd,xs,rel,o,es,ep,g1,g2,g3,g4,g5,g6⟩:=DW I.hok hv
    obtain⟨b1,b2⟩:=yu rl rel
    have hlen:xs.length<=64:=by
     have e1:=rel.length
     have e2:=rl.length
     lia
    have hkeys:es.toList.map (·.key)=xs.map λx=>Value.ref x.2.1:=by rw[g4,qaJ];rfl
    obtain⟨m1,m2⟩:=lM I b1 b2
    have hun:X.A.in1.in1.units<cLine:=by
     have:=hr0.un
     show X.A.units+1+1<cLine
     lia
    refine wO hd ⟨o,g1,g2,g3⟩ (I.ok.hd hc) hkeys (by rw[qag];exact hlen) hun (λv hv=>⟨_,(m2 v hv).1⟩) λh' tk p ep' out hkeep hp he a1 a2=>?_
    have hn:H p=none:=I.hok.fresh hp
    have ho:=λu hu=>m2 u (a1.mem_iff.mp hu)
    obtain⟨c1,c2⟩:=lC (K:=X.K) (H:=H) (φ:=φ) ho
    have hpm:(out.map (tuI s.heap)).Perm (kvs.map (·.1)):=by
     have:=a1.map (tuI s.heap)
     rw[m1]at this;exact this
    have hsrt:(out.map (tuI s.heap)).Pairwise leL:=by
     rw[qci]
     exact a2.imp λ{x y} q=>q
    have e:out.map (tuI s.heap)=aZ (kvs.map (·.1)):=dc (hpm.trans (aS _).symm) hsrt (bT _)
    have e2:(out.map λu=>ai (tuI s.heap u))=(aZ (kvs.map (·.1))).map ai:=by rw[<-e,qaJ];rfl
    rw[e2]at c1
    have hlay:Inv X pins σ (upd H p (.lst (out.map toV))) { s with heap:=h',toks:=tk }:=by
     refine I.laid (t':=tk) (a:=p) (o:=.lst (out.map toV)) hkeep hp ⟨?_,out,ep',c2,by simpa [qcc] using he⟩
     rw[qag,a1.length_eq,qag];exact iY (by lia)
    exact⟨.ref p,_,hlay,rfl,q p _ hn c1⟩
   refine (pZ hC hg hm qcK hA (by decide) (by decide) (bv hs) (cH (es:=[]) rfl)).imp ?_
   rintro σ H Q ⟨φ,hE,hS,q⟩
   refine⟨φ,hE,hS,λvs H1 φ1 f1 S1 w1=>?_⟩
   obtain⟨v,r,rfl,⟨ad,ead,rfl⟩,rfl⟩:=w1
   exact⟨φ1,ad,S1,ead,rfl,λl us hl' hr'=>q l _ H1 φ1 f1 S1 hl' hr'⟩
  ·cases hr
end
def ke (w:World) (a:Addr) (es:Array (Int×Value)) (ep:Nat):Array (Int×Value):=if byT w then qjO (w.params.setOrder a ep) es else es
theorem rP (w:World) (a:Addr) (es:Array (Int×Value)) (ep:Nat):(ke w a es ep).toList.Perm es.toList:=by
 unfold ke
 split
 ·unfold qjO
  exact (iW _ _ _ _ _ (by simp)).trans (by simp)
 ·exact qcb _
theorem jY (w:World) (a:Addr) (es:Array (Int×Value)) (ep:Nat):(ke w a es ep).size=es.size:=by
 have:=(rP w a es ep).length_eq
 rw[qaA,qaA]at this;exact this
def eI (w:World) (l:List Nat) (i:Nat):Nat:=if byT w then 0 else ki l i
section
variable {prog:qaY}{w:World}{A:qa9}{E:Value->qaj->Prop}{s:qaj}{a it:Addr}{es:Array (Int×Value)}{ep i:Nat}{t:qcj}{l:List Nat}
theorem df.walk {Q:Array (Int×Value)->qaj->Prop} (S:df w s.heap a es ep t l) (h:Q (ke w a es ep) s):wpAny (model prog w) A (qlY a) Q E s:=by
 obtain⟨o,ho,hx,hd,T,hs⟩:=id S
 unfold qlY
 refine qaa (S.state ?_)
 dsimp only
 refine qaa (dN ?_)
 unfold ke at h
 cases hb:byT w with
 |true=>
  rw[hb,if_pos rfl]at h
  rw[if_pos rfl]
  exact qaa (qfB (qab h))
 |false=>
  rw[hb,if_neg qan]at h
  rw[if_neg qan]
  have hl:t.led=true:=by rw[T.led,hb];rfl
  refine qc7 (λz=>?_) λ_=>?_
  ·exfalso
   revert z
   show ¬ ((!t.plain&&_)=true)
   rw[T.plain];simp
  ·refine qaa (Q:=_) ?_
   show wpAny _ _ (if (!t.led&&_)=true then _ else _) _ _ _
   rw[hl]
   simp only[qbr,qeM,qaq,↓reduceIte]
   exact qab (qab h)
theorem df.iter {Q:Value->qaj->Prop} (S:df w s.heap a es ep t l)
  (hQ:Q (.ref s.heap.objs.size) { s with heap:=s.heap.push { cls:=.type "set_iterator",data:=.fields #[.int 0 0,.int 0 0,.ref a,.int es.size 0,.int ep 0] } }) :
  wpAny (model prog w) A (qih (.ref a)) Q E s:=by
 obtain⟨o,ho,hx,hd,T,hs⟩:=id S
 refine qfe S.type qd6 (qbd qd6 S.type jO ?_ (qhy _))
 unfold qcs.«frozenset.__iter__» qfP qgk
 simp only[qcM,qbr,qaq,↓reduceIte,bind_assoc,qbx,bne_self_eq_false]
 unfold qde qfG qgl setDrawn
 refine qaa (qab ?_)
 try dsimp only
 refine qaa (qab ?_)
 refine qaa (qaa (qaa (S.state (qab (qab ?_)))))
 refine qaa (qaa (S.state ?_))
 dsimp only
 refine qaa (dN (qab ?_))
 have e0:(!byT w&&(!t.plain&&decide (es.size > 1)))=false:=by rw[T.plain];simp
 refine qc7 (λz=>absurd (z.symm.trans (show _=false from e0)) (by simp)) λ_=>?_
 refine qaa (qab ?_)
 unfold qjc
 refine qaa (qaa (S.state (qab ?_)))
 simp only[newFields]
 refine qaa (qbh (qab ⟨_,rfl,"set_iterator",_,⟨_,qau _ rfl,rfl⟩,bi.lookup,?_⟩))
 simpa [qeA] using hQ
theorem df.next {Q:Option (Value×Nat)->qaj->Prop} (S:df w s.heap a es ep t l) (hi:i<=l.length)
  (h:Q ((ke w a es ep)[i]?.map λe=>(e.2,eI w l (i+1))) s):wpAny (model prog w) A (ql0 a (eI w l i) i ep) Q E s:=by
 obtain⟨o,ho,hx,hd,T,hs⟩:=id S
 unfold ql0
 refine qaa (S.state ?_)
 dsimp only
 refine qaa (dN ?_)
 cases hb:byT w with
 |true=>
  rw[if_pos rfl]
  simp only[bne_self_eq_false,qaq,↓reduceIte]
  refine qaa (S.walk (qab ?_))
  unfold eI at h
  rw[hb,if_pos rfl]at h
  unfold eI
  rw[hb,if_pos rfl]
  exact h
 |false=>
  rw[if_neg qan]
  have hl:t.led=true:=by rw[T.led,hb];rfl
  refine qc7 (λz=>?_) λ_=>?_
  ·exfalso
   revert z
   show ¬ ((!t.plain&&_)=true)
   rw[T.plain];simp
  ·refine qaa (Q:=_) ?_
   show wpAny _ _ (if (!t.led&&_)=true then _ else _) _ _ _
   rw[hl]
   simp only[qbr,qeM,qaq,↓reduceIte]
   refine qab ?_
   unfold eI at h
   rw[hb,if_neg qan]at h
   unfold ke at h
   rw[hb,if_neg qan]at h
   unfold eI
   rw[hb,if_neg qan,T.pl,wj T.ris hi]
   refine qab ?_
   by_cases hlt:i<l.length
   ·have hlt':i<es.size:=by lia
    have e2:l.toArray[i]?=some l[i]:=by simp[hlt]
    rw[qas hlt',e2]
    rw[qas hlt']at h
    have e3:ki l (i+1)=l[i]+1:=by
     unfold ki
     rw[if_neg (by lia)]
     simp[qa1,hlt]
    rw[e3]at h
    exact h
   ·have e1:es[i]?=none:=qba (by lia)
    rw[e1]at h ⊢
    exact h
theorem df.item {Q:Option Value->qaj->Prop} (hit:cK s.heap it a (eI w l i) i es.size ep) (S:df w s.heap a es ep t l) (hi:i<es.size) {e:Int×Value} (he:(ke w a es ep)[i]?=some e)
  (hQ:∀ h',cK h' it a (eI w l (i+1)) (i+1) es.size ep->qbm it s.heap h'->Q (some e.2) { s with heap:=h' }) :
  wpAny (model prog w) A (qeq (.ref it)) Q E s:=by
 obtain⟨_,_,_,_,T,hs⟩:=id S
 obtain⟨o,ho,hc,hd⟩:=id hit
 unfold qeq
 refine qaa (qee (qbC (name:=qc3 "__next__") hit.typeIs bi
  (qbd bi hit.typeIs dA ?_ (eh _))))
 unfold qcs.«set_iterator.__next__» qgk
 simp only[qcM,qbr,qaq,↓reduceIte,qbx,bne_self_eq_false]
 refine qaa (qab ?_)
 dsimp only
 unfold qkq
 dsimp only
 refine qaa ?_
 refine qaa (qeG ho ?_)
 rw[hd]
 refine qab ?_
 dsimp only
 unfold qgl
 refine qaa (qaa (S.state (qab ?_)))
 have e1:((es.size:Int) != (es.size:Int))=false:=by simp
 dsimp only
 rw[if_neg (by rw[e1];exact qan)]
 refine qaa ?_
 simp only[qaK]
 refine S.next (by lia) ?_
 rw[he]
 dsimp only[qgp]
 refine qaa (qcE ho hd (by simp) ?_)
 have ho1:=qbZ (qgx λxs=>xs.setIfInBounds 0 (qeA (eI w l (i+1)))) ho (qcQ (qbL hd _))
 have hd1:=qbL hd (λxs=>xs.setIfInBounds 0 (qeA (eI w l (i+1))))
 refine qaa (qcE ho1 hd1 (by simp) (qab ⟨e.2,rfl,qab (hQ _ ?_ ((qa8 ..).trans (qa8 ..)))⟩))
 refine⟨_,qbZ _ ho1 (qcQ (qbL hd1 _)),(qdx ..).trans ((qdx ..).trans hc),?_⟩
 rw[qbL hd1];simp[qeA]
theorem df.fin {Q:Option Value->qaj->Prop} (hh:A.handled=none) (hit:cK s.heap it a (eI w l es.size) es.size es.size ep) (S:df w s.heap a es ep t l)
  (hQ:∀ h',qho it s.heap h'->Q none { s with heap:=h' }):wpAny (model prog w) A (qeq (.ref it)) Q E s:=by
 obtain⟨_,_,_,_,T,hs⟩:=id S
 obtain⟨o,ho,hc,hd⟩:=id hit
 unfold qeq
 refine qaa (qee (qbC (name:=qc3 "__next__") hit.typeIs bi
  (qbd bi hit.typeIs dA ?_ (eh _))))
 unfold qcs.«set_iterator.__next__» qgk
 simp only[qcM,qbr,qaq,↓reduceIte,qbx,bne_self_eq_false]
 refine qaa (qab ?_)
 dsimp only
 unfold qkq
 dsimp only
 refine qaa ?_
 refine qaa (qeG ho ?_)
 rw[hd]
 refine qab ?_
 dsimp only
 unfold qgl
 refine qaa (qaa (S.state (qab ?_)))
 have e1:((es.size:Int) != (es.size:Int))=false:=by simp
 dsimp only
 rw[if_neg (by rw[e1];exact qan)]
 refine qaa ?_
 simp only[qaK]
 refine S.next (by lia) ?_
 rw[qba (by rw[jY];exact qap _)]
 dsimp only[qgp]
 refine qaa (qcE ho hd (by simp) ?_)
 show wpAny _ _ (qiY (.type "StopIteration") [] >>= _) _ _ _
 refine qaa ?_
 simp only[qiY,qkn]
 refine qaa (qbh ?_ (by size_fits))
 refine qaa (m:=qdm _ _) (qgH (a:=Value.none) (by first|rfl|(simp only[qdm];rfl)) ?_)
 refine qbh ?_ (by size_fits)
 simp only[qkm]
 refine qaa (qg7 ?_)
 rw[show A.in1.handled=none from hh]
 refine qaa (qab (qic ?_))
 refine qaa (qdR (T:="StopIteration") (b:=true) ⟨_,qau _ rfl,rfl⟩ qiJ ?_)
 exact qab (hQ _ (((qa8 ..).extBut.push _).push _))
theorem wg (hh:A.handled=none) (I a:Addr) (hne:a≠I) (es:Array (Int×Value)) (ep:Nat) (t:qcj) (l:List Nat) :
  Walks prog w A I [I,a] [I] es.size (λi v=>∃ e,(ke w a es ep)[i]?=some e/\v=e.2) (λi h=>cK h I a (eI w l i) i es.size ep/\df w h a es ep t l) where
 sub:=λb hb=>by simp at hb;simp[hb]
 frame:=λ_ _ _ st hk=>⟨st.1.at' λo e=>hk I (by simp) o e,st.2.at' λo e=>hk a (by simp) o e⟩
 item:=λi s Q E hi st hQ=>by
  obtain⟨e,he⟩:∃ e,(ke w a es ep)[i]?=some e:=⟨_,qas (by rw[jY];exact hi)⟩
  refine st.2.item st.1 hi he λh' hit' hs'=>?_
  exact hQ _ h' s.toks ⟨e,he,rfl⟩ ⟨hit',st.2.at' λo q=>hs'.extBut a o hne q⟩ λb o hb q=>hs'.extBut b o (λh=>hb (by simp[h])) q
 done:=λs Q E st hQ=>st.2.fin hh st.1 λh' he'=>hQ h' s.toks λb o hb e=>he' b o (λh=>hb (by simp[h])) e
 self:=λ_ _ _ _ st hQ=>vg st.1 hQ
theorem AH (prog:qaY) (w:World) (a:Addr) (es:Array (Int×Value)) (ep:Nat) (t:qcj) (l:List Nat):qhe prog w "set" a a es.size (λi v=>∃ e,(ke w a es ep)[i]?=some e/\v=e.2) (λh=>df w h a es ep t l) where
 type:=λs S=>S.type
 there:=λh S=>let ⟨o,ho,_⟩:=S;⟨qao ho,qao ho⟩
 keep:=λh h' S hk=>S.at' λo e=>hk a (.inl rfl) o e
 notList:=by decide
 notTuple:=by decide
 hint:=λA E s Q S h=>u5 S.type h
 iter:=λA s hh S=>⟨_,_,λE Q h=>S.iter h,wg hh s.heap.objs.size a (let ⟨o,ho,_⟩:=S;qar (qao ho)) es ep t l,
  ⟨⟨_,qau _ rfl,rfl,by unfold eI ki;split<;>rfl⟩,S.at' λo e=>qae _ e⟩⟩
end
theorem TuI.at' {h h':Heap}{v:Value}{l:List Int} (t:TuI h v l) (hk:∀ b o,v=.ref b->h.get? b=some o->h'.get? b=some o):TuI h' v l:=by
 obtain⟨a,its,rfl,⟨o,e,r⟩,hi⟩:=t
 exact⟨a,its,rfl,⟨o,hk a o rfl e,r⟩,hi⟩
theorem pR {prog:qaY}{w:World}:∀ {vs:List Value}{l:List Int},qdC vs l->ItemsAre (qd0 prog w) l vs
 |_,_,.nil=>.nil
 |_,_,.cons n t h=>.cons (qhv _ _ _ _) (pR h)
theorem Bt {prog:qaY}{w:World}{A:qa9}{E:Value->qaj->Prop}{s:qaj}{v:Value}{l:List Int}{Q:Int->qaj->Prop} (hu:A.units<cLine) (t:TuI s.heap v l) (h:∀ tk,s.toks<=tk->Q (hT l) { s with toks:=tk }) :
  wpAny (model prog w) A (pyHash v) Q E s:=by
 obtain⟨a,its,rfl,⟨o,e,c,n,hd⟩,hi⟩:=t
 exact wpAny_pyHash_tuple (knd:=qd0 prog w) hu ⟨o,its,n,e,c,hd,pR hi⟩ (h _ (qhg _ _))
section
variable {prog:qaY}{w:World}{A:qa9}{R:ql9->qaj->Prop}{I:Addr}{fp wr:List Addr}{G:Array qia->Array qia->Prop}{P:Nat->Value->Prop}{St:Nat->qaj->Prop}
def t9 (h0:Heap) (vs:List Value):List (Int×Value):=vs.map λv=>(hT (tuI h0 v),v)
def GSt (w:World) (h:Heap) (S:Addr) (es':List (Int×Value)):Prop:=∃ es ep t l,df w h S es ep t l/\zS t l.length/\es.toList.Perm es'
theorem yD {its:List Value}{h0:Heap} (W:WalksS prog w A.in1 I fp wr G its.length P St) (S:Addr) (hSf:S∉fp) (hu:A.in1.units<cLine) (hval:∀ i v,P i v->its[i]?=some v) (h64:its.length<=64) (hnd:(its.map λv=>hT (tuI h0 v)).Nodup) :
  ∀ (k i:Nat) (s:qaj),its.length - i=k->i<=its.length->St i s->(∀ v∈its,TuI s.heap v (tuI h0 v)/\∀ b,v=.ref b->b≠S/\b∉wr)->GSt w s.heap S (t9 h0 (its.take i))->
   (∀ s',Moved (S::wr) G s s'->GSt w s'.heap S (t9 h0 its)->R (.ok (.ret .none)) s')->
   qgb (model prog w) A (.builtin "set.update.loop" ⟨[.ref S,.ref I],[]⟩) R s:=by
 have hSw:S∉wr:=λh=>hSf (W.sub _ h)
 have hsub:∀ b∈wr,b∈S::wr:=λb hb=>qah _ hb
 intro k
 induction k with
 |zero=>
  intro i s hk hi hst hT0 hS hR
  have hin:i=its.length:=by lia
  subst hin
  refine qb2 qcn ?_
  rw[qdw qbE _]
  show wpAny _ A.in1 (qeq (.ref I) >>= _) _ _ s
  refine qaa (W.done s _ _ hst λs' hm=>?_)
  show wpAny _ A.in1 (ret Value.none) _ _ s'
  refine qab (hR s' (hm.mono hsub) ?_)
  rw[qbv]at hS
  obtain⟨es,ep,t,l,z,r⟩:=hS
  exact⟨es,ep,t,l,z.at' λo e=>hm.heap S _ hSw e,r⟩
 |succ k ih=>
  intro i s hk hi hst hT0 hS hR
  have hlt:i<its.length:=by lia
  refine qb2 qcn ?_
  rw[qdw qbE _]
  show wpAny _ A.in1 (qeq (.ref I) >>= _) _ _ s
  refine qaa (W.item i s _ _ hlt hst λv s' hP hst' hm=>?_)
  have hv:=hval i v hP
  have hvm:v∈its:=qbl hv
  have hT1:∀ v∈its,TuI s'.heap v (tuI h0 v)/\∀ b,v=.ref b->b≠S/\b∉wr:=λx hx=>⟨(hT0 x hx).1.at' λb o e q=>hm.heap b o ((hT0 x hx).2 b e).2 q,(hT0 x hx).2⟩
  obtain⟨es,ep,t,l,z,hcm,hp⟩:=hS
  have z':=z.at' (h':=s'.heap) λo e=>hm.heap S _ hSw e
  have hlen:l.length=i:=by
   obtain⟨_,_,_,_,_,hs⟩:=z
   rw[<-hs,<-qaA,hp.length_eq,t9,qag,qcr];lia
  have etk:its.take (i+1)=its.take i++[v]:=by rw[qbJ,hv];rfl
  show wpAny _ A.in1 (qfu [v] (setAdd S v) >>= _) _ _ s'
  refine qaa (qbk ?_)
  unfold setAdd
  refine qbk ?_
  refine qaa (Bt hu (hT1 v hvm).1 λtk htk=>?_)
  refine df.add (s:={ s' with toks:=tk }) z' hcm (by lia) (hT1 v hvm).1 (λe he heq=>?_) λh' es' ep' t' l' hsb z2 hc2 hp2=>?_
  ·have he':=hp.mem_iff.mp he
   obtain⟨u,hu',rfl⟩:=qaz.mp he'
   have hn2:=hnd
   rw[<-qcO (i+1) its,qa5,etk,qa5,qca]at hn2
   have:=(qdv.mp hn2).2.2 (hT (tuI h0 u)) (qaz.mpr ⟨u,hu',rfl⟩) (hT (tuI h0 v)) (qct _ (by simp))
   exact this heq
  ·have hp3:es'.toList.Perm (t9 h0 (its.take (i+1))):=by
    rw[etk]
    unfold t9 at hp ⊢
    rw[qa5]
    exact hp2.trans ((List.Perm.cons _ hp).trans (qiz (l₁:=[(hT (tuI h0 v),v)])))
   have hT2:∀ v∈its,TuI h' v (tuI h0 v)/\∀ b,v=.ref b->b≠S/\b∉wr:=λx hx=>⟨(hT1 x hx).1.at' λb o e q=>(hsb.2 b ((hT1 x hx).2 b e).1).trans q,(hT1 x hx).2⟩
   refine qab ⟨qje qbE _,ih (i+1) _ (by lia) hlt (W.frame _ s' _ _ hst' htk λb hb o e=>?_) hT2 ⟨es',ep',t',l',z2,hc2,hp3⟩ λs'' hm'' hS''=>?_⟩
   ·rw[hsb.2 b (λh:b=S=>hSf (by rw[<-h];exact hb))];exact e
   ·refine hR s'' (qkN W.gtrans ((hm.mono hsub).then_heap htk λb o hb e=>?_) hm'') hS''
    rw[hsb.2 b (λh:b=S=>hb (by rw[h];exact qak))];exact e
end
section
variable {prog:qaY}{w:World}{A:qa9}{E:Value->qaj->Prop}{s:qaj}
theorem wc (led:Bool) (hl:led=!byT w) {h:Heap}{a:Addr} (ho:h.get? a=some { cls:=.type "set",dict:=none,data:=.set #[] 0 (.fresh 0 0 led) }):GSt w h a []:=
 ⟨#[],0,.fresh 0 0 led,[],⟨_,ho,⟨rfl,rfl,rfl⟩,rfl,⟨show (7:Nat)∈gM from by decide,rfl,.nil,rfl,hl,rfl,by decide,λ_=>by decide,λ_=>by decide⟩,rfl⟩,⟨by decide,λ_=>by decide,λ_=>by decide⟩,qcb _⟩
set_option maxHeartbeats 3200000 in
theorem pW {l:Addr}{items:Array Value}{Q:Value->qaj->Prop}
  (hh:A.handled=none) (hu:A.in1.in1.in1.units<cLine) (hl:s.heap.IsList l items) (hi:∀ v∈items.toList,TuI s.heap v (tuI s.heap v)) (h64:items.size<=64) (hnd:(items.toList.map λv=>hT (tuI s.heap v)).Nodup)
  (h:∀ (h':Heap) (tk:Nat),GSt w h' s.heap.objs.size (t9 s.heap items.toList)->
    (∀ b o,b<s.heap.objs.size->s.heap.get? b=some o->h'.get? b=some o)->Q (.ref s.heap.objs.size) { s with heap:=h',toks:=tk }) :
  wpAny (model prog w) A (call (.type "set") [.ref l]) Q E s:=by
 obtain⟨c,tl,hmro⟩:=qbj.mro
 have hmade:=qbj.made
 have hsub:=qbj.sub
 refine qkE (qik ?_)
 show wpAny _ _ (callAny (.type "set") _) _ _ _
 refine qab ⟨qdX _ (by decide +kernel),qb2 qhw ?_⟩
 rw[qiV (qjL "set" [.ref l] []) rfl]
 have h1:=qbj.notType
 have h2:=qbj.canCreate
 have hct:=qhJ (.ref l)
 repeat (any_goals (first|assumption|wp_step))
 refine qer (jj (.ref l) (E:=E) (Q₁:=λobj s₁=>obj=.ref s.heap.objs.size/\s₁={ s with heap:=s.heap.push { cls:=.type "set",dict:=none,data:=.set #[] 0 (.fresh 0 0 (!byT w)) } }) ⟨rfl,rfl⟩) λr s₁ hr=>?_
 cases r with
 |error e=>exact hr
 |ok fl=>
  cases fl with
  |ret obj=>
   obtain⟨rfl,rfl⟩:=hr
   have hS:(s.heap.push { cls:=.type "set",dict:=none,data:=.set #[] 0 (.fresh 0 0 (!byT w)) }).get? s.heap.objs.size=some { cls:=.type "set",dict:=none,data:=.set #[] 0 (.fresh 0 0 (!byT w)) }:=qau _ rfl
   have hT':qj5 { s with heap:=s.heap.push { cls:=.type "set",dict:=none,data:=.set #[] 0 (.fresh 0 0 (!byT w)) } } (.ref s.heap.objs.size) "set":=⟨_,hS,rfl⟩
   have hli:=qbj.init.lookup
   have hbi:=qbj.init.bind (.ref s.heap.objs.size)
   repeat (any_goals (first|assumption|wp_step))
   refine qer (qj4 (R:=wants (λr s₂=>r=.none/\∃ h' tk,s₂={ s with heap:=h',toks:=tk }/\
     GSt w h' s.heap.objs.size (t9 s.heap items.toList)/\
     (∀ b o,b<s.heap.objs.size->s.heap.get? b=some o->h'.get? b=some o)) E) qbj.init.plain qhM (qk4 hT' ?_)) λr₂ s₂ hr₂=>?_
   ·generalize hled:(!byT w)=led at hS hT' ⊢
    have hi0:=hi
    obtain⟨ol,hol,hcl,nl,hdl⟩:=hl
    obtain⟨ocls,odict,odata,oslots⟩:=ol
    simp only at hcl hdl
    subst hcl;subst hdl
    have hol':(s.heap.push { cls:=.type "set",dict:=none,data:=.set #[] 0 (.fresh 0 0 led) }).get? l=some { cls:=.type "list",dict:=odict,data:=.seq items nl,slots:=oslots }:=qae _ hol
    have hsls:=PySem.F.sub_list_set
    have hslf:=PySem.F.sub_list_frozenset
    have hne:(Value.type "list"==Value.type "dict")=false:=by decide
    have hl1:(s.heap.push { cls:=.type "set",dict:=none,data:=.set #[] 0 (.fresh 0 0 led) }).IsList l items:=⟨_,hol',rfl,nl,rfl⟩
    unfold qcs.«set.__init__» noKeywords qcU
    generalize hPI:qih=PI
    wp_walk
    subst hPI
    refine qkD hl1 ?_
    refine qaa (qe0 ?_)
    have hlS:l<s.heap.objs.size:=qao hol
    have hh3:A.in1.in1.in1.handled=none:=by simp[hh]
    have hneI:l≠(s.heap.push { cls:=.type "set",dict:=none,data:=.set #[] 0 (.fresh 0 0 led) }).objs.size:=by
     rw[qbK];exact qar (qa0 hlS)
    have hSf:s.heap.objs.size∉[(s.heap.push { cls:=.type "set",dict:=none,data:=.set #[] 0 (.fresh 0 0 led) }).objs.size,l]:=by
     rw[qbK];simp only[qay,qaI,qe4,or_false,not_or]
     exact⟨qar (qb7 _),qbu hlS⟩
    have WW:=(Walks.list (prog:=prog) (w:=w) hh3 (s.heap.push { cls:=.type "set",dict:=none,data:=.set #[] 0 (.fresh 0 0 led) }).objs.size l hneI items).toS
    rw[show items.size=items.toList.length from rfl]at WW
    refine yD (h0:=s.heap) WW s.heap.objs.size hSf hu (λi v hv=>by rw[qbN];exact hv) (by rw[qaA];exact h64) hnd (items.toList.length - 0) 0 _ (by lia) (qaW _)
     ⟨⟨_,qau _ rfl,rfl,rfl⟩,(hl1.push _)⟩ (λv hv=>⟨(hi0 v hv).at' λb o _ e=>qae _ (qae _ e),λb hb=>?_⟩) ?hS0 ?hR
    ·obtain⟨b',its',e',⟨o',eo,_⟩,_⟩:=hi0 v hv
     rw[hb]at e'
     cases e'
     have:=qao eo
     refine⟨qar this,?_⟩
     rw[qbK];simp only[qaI]
     lia
    case hS0=>
     have hget:((s.heap.push { cls:=.type "set",dict:=none,data:=.set #[] 0 (.fresh 0 0 led) }).push { cls:=.type "list_iterator",data:=.fields #[.ref l,.int 0 0] }).get? s.heap.objs.size
       = some { cls:=.type "set",dict:=none,data:=.set #[] 0 (.fresh 0 0 led) }:=qae _ hS
     exact wc led hled.symm hget
    case hR=>
     intro s' hm hS'
     obtain⟨h',g',d',tk',os'⟩:=s'
     have eg:g'=s.gens:=hm.gens
     have ed:d'=s.drawn:=hm.drawn
     have eo:os'=s.os:=hm.os
     subst eg;subst ed;subst eo
     show wpAny _ _ _ _ _ _
     refine qab ?_
     show wpAny _ _ (ret Value.none) _ _ _
     refine qab ⟨rfl,h',tk',rfl,hS',λb o hb e=>?_⟩
     have hb1:b≠s.heap.objs.size:=qar hb
     have hb2:b≠(s.heap.push { cls:=.type "set",dict:=none,data:=.set #[] 0 (.fresh 0 0 led) }).objs.size:=by
      rw[qbK];exact qar (qa0 hb)
     exact hm.heap b o (by simp only[qay,qaI,qe4,or_false,not_or];exact⟨hb1,hb2⟩) (qae _ (qae _ e))
   ·cases r₂ with
    |error e=>exact hr₂
    |ok fl₂=>
     cases fl₂ with
     |ret r=>
      obtain⟨rfl,h',tk,rfl,hS',hk'⟩:=hr₂
      repeat (any_goals (first|assumption|wp_step))
      exact h _ _ hS' hk'
     |_=>exact hr₂.elim
  |_=>exact hr.elim
end
section
variable {prog:qaY}{w:World}{A:qa9}{E:Value->qaj->Prop}{s:qaj}{d:Addr}
theorem tE {Q:List Value->qaj->Prop}{es:Array (Int×Value)}{ep:Nat}{t:qcj}{l:List Nat} (S:df w s.heap d es ep t l) (hh:A.handled=none)
  (h:∀ h' tk,(∀ b o,s.heap.get? b=some o->h'.get? b=some o)->s.heap.objs.size<h'.objs.size->Q ((ke w d es ep).toList.map (·.2)) { s with heap:=h',toks:=tk }) :
  wpAny (model prog w) A (qjj (.ref d)) Q E s:=by
 obtain⟨ob,ho,_,_,T,hs⟩:=id S
 have hlt:d<s.heap.objs.size:=qao ho
 have hn:es.size<=qaO:=by have:=T.few;rw[qbM];lia
 unfold qjj
 refine qaa (qe0 (qb2 qgu ?_))
 show wpAny _ _ (do again (.builtin "list.__iadd__" ⟨[<-ql4 [],.ref d],[]⟩)) _ _ s
 refine qaa (qdH (qab ⟨qdX _ (by decide +kernel),qb2 qhW ?_⟩))
 show wpAny _ _ (qeb (.ref s.heap.objs.size) (.ref d) (.ref s.heap.objs.size)) _ _ { s with heap:=s.heap.push (qcc "list" #[] 0) }
 refine qfI (A:=A) (R:=λr s'=>match r with
   | .ok (.ret v)=>wpAny (model prog w) A (match v with
     |.ref a=>do
      let o <-load a
      match o.data with
      |.seq xs _=>pure xs.toList
      |_=>qdZ "internal:collect"
     |_=>qdZ "internal:collect") Q E s'
   |.ok _=>False
   |.error e=>E e s') (s:={ s with heap:=s.heap.push (qcc "list" #[] 0) }) (AH prog w d es ep t l) hh (S.at' λo e=>qae _ e) s.heap.objs.size (qbu hlt) (qbu hlt) (.ref s.heap.objs.size) 0 (qau _ rfl) (λh' tk acc c hk hS hI=>?_) hn
 show wpAny (model prog w) A (do
   let o <-load s.heap.objs.size
   match o.data with
   |.seq xs _=>pure xs.toList
   |_=>qdZ "internal:collect") Q E { s with heap:=h',toks:=tk }
 refine qaa (qeG hS ?_)
 show wpAny _ _ (pure acc.toList) Q E _
 have e:acc.toList=(ke w d es ep).toList.map (·.2):=by
  apply qgF
  intro i
  rw[qaZ,qbN,qbN]
  by_cases hi:i<acc.size
  ·obtain⟨e,he,hv⟩:=hI.2 i acc[i] (qas hi)
   rw[he,qas hi,hv];rfl
  ·rw[qba (by lia),qba (by rw[jY,<-hI.1];lia)];rfl
 rw[e]
 refine qab (h h' tk (λb o q=>?_) (qao hS))
 exact hk b o (qar (qao q)) (qae _ q)
theorem uW {Q:Value->qaj->Prop}{vs:List Value}{es:Array (Int×Value)}{ep:Nat}{tb:qcj}{l:List Nat} (S:df w s.heap d es ep tb l) (hh:A.in1.handled=none) (hvs:(es.toList.map (·.2)).Perm vs) (hu:A.in1.in1.units<cLine)
  (t:∀ v∈vs,∃ l,TuI s.heap v l)
  (h:∀ (h':Heap) (tk:Nat) (p:Addr) (ep:Nat) (out:List Value),(∀ b o,s.heap.get? b=some o->h'.get? b=some o)->s.heap.objs.size<=p->h'.get? p=some (qcc "list" out.toArray ep)->out.Perm vs->out.Pairwise (λx y=>OI.kle (tuI s.heap x) (tuI s.heap y))->Q (.ref p) { s with heap:=h',toks:=tk }) :
  wpAny (model prog w) A (call (.builtin "sorted") [.ref d]) Q E s:=by
 refine qdD qii qhG qhH (qhI _) ?_
 unfold qcs.«sorted»
 refine qaa (m:=qiZ "sorted" 1 1 _) (qab ?_)
 obtain⟨_,_,_,_,T,hs⟩:=id S
 have hfew:=T.few
 refine qaa (tE S hh λh1 tk hk hlt=>?_)
 have hp0:((ke w d es ep).toList.map (·.2)).Perm vs:=((rP w d es ep).map _).trans hvs
 have h64:((ke w d es ep).toList.map (·.2)).length<=64:=by rw[qag,qaA,jY];lia
 generalize (ke w d es ep).toList.map (·.2)=us at hp0 h64 ⊢
 have tu:∀ v∈us,∃ l,TuI s.heap v l:=λv hv=>t v (hp0.mem_iff.mp hv)
 refine qaa (qdH ?_ (by rw[qbM];lia))
 have hoL:(h1.push (qcc "list" us.toArray 0)).get? h1.objs.size=some (qcc "list" us.toArray 0):=qau _ rfl
 show wpAny _ _ _ _ _ { s with heap:=h1.push (qcc "list" us.toArray 0),toks:=tk }
 refine qaa (qbk (qbd qgA ⟨_,hoL,rfl⟩ qga (jX (O:=OI) (rk:=λp=>tuI s.heap p.1) (S:=λp=>∃ l,TuI s.heap p.1 l) (s:={ s with heap:=h1.push (qcc "list" us.toArray 0),toks:=tk }) hoL h64 (λh' hk'=>?_) (λv hv=>tu v hv) λout a1 a2=>⟨_,rfl,?_⟩) (qgD _)))
 ·have hk2:∀ b o,s.heap.get? b=some o->h'.get? b=some o:=λb o q=>hk' b o (qar (qao (hk b o q))) (qae _ (hk b o q))
  obtain⟨κ,k1,k2⟩:=p5 (prog:=prog) (w:=w) (s:={ s with heap:=h',toks:=tk }) (vs:=us) (λv hv=>let ⟨l,tl⟩:=tu v hv;⟨l,tl.fit hk2⟩) hu
  refine⟨κ,k1,λx y ⟨l,hx⟩ ⟨m,hy⟩ Q E hq=>k2 x y ⟨l,hx.fit hk2⟩ ⟨m,hy.fit hk2⟩ Q E ?_⟩
  have hx':=hx.fit hk2
  have hy':=hy.fit hk2
  have hq':Q (bU (tuI s.heap x.1) (tuI s.heap y.1)) { s with heap:=h',toks:=tk }:=hq
  show Q (bU (tuI h' x.1) (tuI h' y.1)) { s with heap:=h',toks:=tk }
  rw[hx'.is,hy'.is]
  rw[hx.is,hy.is]at hq'
  exact hq'
 ·refine qab ⟨_,rfl,?_⟩
  obtain⟨ep',he⟩:=qjb (out:=out.toArray) hoL
  refine h _ tk h1.objs.size ep' out (λb o q=>?_) (qdt hlt) he (a1.trans hp0) (a2.imp λ{x y} q=>q)
  have q1:=hk b o q
  have hb:b<h1.objs.size:=qao q1
  show (qht (h1.push (qcc "list" us.toArray 0)) h1.objs.size us out.toArray).get? b=some o
  rw[qiI (qar hb) (by rw[qhu];exact qa0 hb),qcZ _ _ _ (qar hb)]
  exact q1
end
open Classical in
def mD (fe:Ef):Lf
 |env,st=>(fe env st).bind λx=>(lsD x.2 x.1).bind λds=>(kS ds).bind λls=>if ls.length<=64/\(ls.map hT).Nodup then some ((aZ ls).map ai,x.2) else none
section
variable {K:qai}{X:Cx}{pos p pos2 p2:Pos}{e:Expr}{fe:Ef}
theorem Bk {k:Nat} (hr0:cX k X.A) (hg:Gl X "sorted") (hm:X.mg "sorted" = none) (hg2:Gl X "set") (hm2:X.mg "set" = none) (ha:IE K X e fe) (hc:X.calm=true:=by rfl) (hs:aU e=true:=by rfl) (hK:X.K=K:=by rfl) :
  IL K X (.Call (.Name "sorted" p) [.Call (.Name "set" p2) [e] [] pos2] [] pos) (mD fe):=by
 subst hK
 refine⟨λenv st r hr=>?_⟩
 simp only[mD,qac]at hr
 obtain⟨⟨x,s1⟩,hx,ds,hds,ls,hls,hr⟩:=hr
 split at hr
 ·rename_i hcond
  cases hr
  intro pins s σ H Q I h
  obtain⟨φ,hE,hS,q⟩:=h
  have hs2:aU (.Call (.Name "set" p2) [e] [] pos2)=true:=rfl
  refine qcW (il I hg hm qcK ?_)
  refine qdN ?_ (bv hs2) (cH (es:=[]) rfl)
  rw[bv hs2]
  show wpAny _ _ (qf5 ((false,eval (.Call (.Name "set" p2) [e] [] pos2) X.env)::qes pos (qbP [] X.env))) _ _ s
  refine qcN ?_
  refine qcW (il I hg2 hm2 qgR ?_)
  refine qb8 ?_ (bv hs) (cH (es:=[]) rfl)
  rw[bv hs]
  show wpAny _ _ (qf5 ((false,eval e X.env)::qes pos2 (qbP [] X.env))) _ _ s
  refine qcN (thn ((ha.run _ _ _ hx) pins s σ H (λv H'=>∃ φ',Sr X.K H' φ' s1/\Fw φ φ' H H'/\Rw X.K H' φ' x v) I ⟨φ,hE,hS,λv H' φ' f1 S1 w1=>⟨φ',S1,f1,w1⟩⟩) λu s2 ⟨v,H1,I1,r1,φ1,S1,f1,w1⟩=>?_)
  show wpAny _ _ (qf5 []) _ _ s2
  refine qdu ?_
  obtain⟨ad,vs,rfl,h1,h2⟩:=mX S1 w1 hds
  cases r1
  cases jL hls
  obtain⟨its,rv,pl,_⟩:=I1.list (.inl h1)
  obtain⟨m1,m2⟩:=lM I1 h2 rv
  have hlen:its.length<=64:=by
   have:=congrArg qi6 m1
   rw[qag]at this;lia
  have hun:X.A.in1.in1.in1.units<cLine:=by
   have:=hr0.un
   show X.A.units+1+1+1<cLine
   lia
  have hun2:X.A.in1.in1.units<cLine:=Nat.lt_of_succ_lt hun
  refine pW (items:=its.toArray) (I1.ok.hd hc) hun pl.isList (by intro v hv;exact (m2 v (by simpa using hv)).1) (by simpa using hlen) (by
   have e:(its.map λv=>hT (tuI s2.heap v))=ls.map hT:=by rw[<-m1,qaJ];rfl
   show (its.map λv=>hT (tuI s2.heap v)).Nodup
   rw[e];exact hcond.2) λh' tk gs hkp=>?_
  show wpAny _ _ (qf5 []) _ _ _
  refine qdu ?_
  obtain⟨es,ep,t,l,SG,_,hper⟩:=gs
  have hkp':∀ b o,s2.heap.get? b=some o->h'.get? b=some o:=λb o z=>hkp b o (qao z) z
  have I2:Inv X pins σ H1 { s2 with heap:=h',toks:=tk }:=I1.kept hkp'
  have hper2:(es.toList.map (·.2)).Perm its:=by
   have:=hper.map (·.2)
   unfold t9 at this
   rw[qaJ]at this
   have e:((λx:Int×Value=>x.2) ∘ λv=>(hT (tuI s2.heap v),v))=id:=by funext v;rfl
   rw[e,qeu]at this
   exact this
  have m3:∀ u∈its,TuI h' u (tuI h' u)/\tuI h' u=tuI s2.heap u:=λu hu=>by
   have z:=(m2 u hu).1.fit hkp'
   have e:=z.is
   rw[e];exact⟨z,rfl⟩
  refine uW (s:={ s2 with heap:=h',toks:=tk }) SG (I1.ok.hd hc) hper2 hun2 (λv hv=>⟨_,(m3 v hv).1⟩) λh2' tk2 p' ep' out hkeep hp he a1 a2=>?_
  have hn:H1 p'=none:=I2.hok.fresh hp
  have ho:=λu hu=>m2 u (a1.mem_iff.mp hu)
  obtain⟨c1,c2⟩:=lC (K:=X.K) (H:=H1) (φ:=φ1) ho
  have hpm:(out.map (tuI s2.heap)).Perm ls:=by
   have:=a1.map (tuI s2.heap)
   rw[m1]at this;exact this
  have hsrt:(out.map (tuI s2.heap)).Pairwise leL:=by
   rw[qci]
   refine qkQ ?_ a2
   intro x y hx hy qq
   have e1:=(m3 x (a1.mem_iff.mp hx)).2
   have e2:=(m3 y (a1.mem_iff.mp hy)).2
   have qq':OI.kle (tuI h' x) (tuI h' y):=qq
   rw[e1,e2]at qq'
   exact qq'
  have e1:out.map (tuI s2.heap)=aZ ls:=dc (hpm.trans (aS _).symm) hsrt (bT _)
  have e2:(out.map λu=>ai (tuI s2.heap u))=(aZ ls).map ai:=by rw[<-e1,qaJ];rfl
  rw[e2]at c1
  have hlay:Inv X pins σ (upd H1 p' (.lst (out.map toV))) { s2 with heap:=h2',toks:=tk2 }:=by
   refine I2.laid (t':=tk2) (a:=p') (o:=.lst (out.map toV)) hkeep hp ⟨?_,out,ep',c2,by simpa [qcc] using he⟩
   rw[qag,a1.length_eq];exact iY (by lia)
  exact⟨.ref p',_,hlay,rfl,q p' _ H1 φ1 f1 S1 hn c1⟩
 ·cases hr
end
def vE (i j:Int):Prop:=0<=j/\j<=1000/\i.natAbs<2^200
instance (i j:Int):Decidable (vE i j):=inferInstanceAs (Decidable (_/\_/\_))
def jR (_:Sto):W->W->Option D
 |.d (.int i),.d (.int j)=>if vE i j then some (.int (i*2^j.toNat)) else none
 |_,_=>none
def D6:Ef
 |_,_=>none
section
variable {K:qai}{X:Cx}{e:Expr}
theorem C8 {i:Int} (h:i.natAbs<2^200):qhF i<=201:=by
 unfold qhF
 split
 ·exact qaW _
 ·have:i.natAbs.log2<201:=by
   rcases qjG i.natAbs with h0|hp
   ·rw[h0];decide
   ·exact qa0 ((qma (qbu hp)).mpr h)
  lia
theorem CJ:OpR X (qbT .LShift) (rI vE λi j=>.int (i*2^j.toNat)):=opI λ_ _ _ _ _ _ _ hc q=>lshift_int hc.1 (by have:=C8 hc.2.2;have:=hc.2.1;lia) q
theorem tW:OpD K X (qbT .LShift) jR:=v4 λst x y d h=>by
 unfold jR at h
 split at h
 ·rename_i i j
  split at h
  ·rename_i hc
   cases h;exact⟨i,j,rfl,rfl,CJ.imp λvx vy H Q ⟨a,b,q⟩=>⟨i,j,a,b,hc,q⟩,rfl⟩
  ·cases h
 ·cases h
theorem C3:IE K X e D6:=⟨λenv st r hr=>by cases hr⟩
end
mutual
def toP:D->PyData
 |.non=>.none
 |.bl b=>.bool b
 |.int i=>.int i
 |.str x=>.str x
 |.tup ds=>.tuple (j8 ds)
 |.lst ds=>.list (j8 ds)
 |_=>.none
def j8:List D->List PyData
 |[]=>[]
 |d::ds=>toP d::j8 ds
end
mutual
def rpD:D->Bool
 |.non=>true
 |.bl _=>true
 |.int i=>decide (i.natAbs.log2<1920)
 |.str _=>true
 |.tup ds=>nS ds
 |.lst ds=>nS ds
 |_=>false
def nS:List D->Bool
 |[]=>true
 |d::ds=>rpD d&&nS ds
end
mutual
def wtD:D->Nat
 |.non=>10
 |.bl _=>10
 |.int _=>2000
 |.str x=>(reprText x).length
 |.tup ds=>tX ds+5
 |.lst ds=>tX ds+5
 |_=>0
def tX:List D->Nat
 |[]=>0
 |d::ds=>wtD d+2+tX ds
end
mutual
def dpD:D->Nat
 |.tup ds=>tZ ds+1
 |.lst ds=>tZ ds+1
 |_=>1
def tZ:List D->Nat
 |[]=>0
 |d::ds=>max (dpD d) (tZ ds)
end
def sF (st:Sto):List W->Option D
 |[w]=>match w with
  |.d d=>if rpD d=true/\wtD d<=16000000/\dpD d<=50 then some (.str (toP d).shown) else none
  |.h _=>none
 |_=>none
theorem ng:∀ (ts:List Str) (k:Nat) (acc:Str),(textFrom k acc ts).length<=acc.length+piled ts
 |[],k,acc=>by show acc.length<=_;lia
 |t::r,k,acc=>by
  have h:=ng r (k+1) (acc++(if k > 0 then ", " else "" : String)++t)
  have e:(acc++(if k > 0 then ", " else "" : String)++t).length<=acc.length+2+t.length:=by
   rw[qft,qft]
   have:((if k > 0 then ", " else "" : String):Str).length<=2:=by split<;>decide
   lia
  rw[piled_cons]
  show (textFrom (k+1) _ r).length<=_
  lia
theorem B1 (ts:List Str):(tupleText ts).length<=piled ts+3:=by
 have hz:(Str.join ", " ts).length<=piled ts:=by
  cases ts with
  |nil=>exact qaW _
  |cons x r=>
   have:=join_length_add (x::r) (by simp)
   lia
 unfold tupleText
 rw[qft,qft]
 have h2:((if ts.length==1 then ",)" else ")" : String):Str).length<=2:=by split<;>decide
 have h1:((("(" : String):Str)).length=1:=rfl
 lia
theorem Cy (ts:List Str):(listText ts).length<=piled ts+2:=by
 have h:=ng ts 0 "["
 unfold listText
 rw[qft]
 have h1:((("[" : String):Str)).length=1:=rfl
 have h2:((("]" : String):Str)).length=1:=rfl
 lia
mutual
theorem uw:∀ d:D,rpD d=true->(toP d).shown.length<=wtD d
 |.non,_=>by rw[toP,wtD];decide
 |.bl b,_=>by rw[toP,wtD];cases b<;>decide
 |.int i,h=>by
  rw[rpD,decide_eq_true_eq]at h
  rw[toP,wtD,qgw]
  have:=int_text_length_le (k:=1920) (by decide) h
  rw[PySem.ofString_length]
  lia
 |.str x,_=>by rw[toP,wtD,qgw];exact qap _
 |.tup ds,h=>by
  rw[rpD]at h
  rw[toP,wtD,qgw]
  have:=mz ds h
  have:=B1 (qeo (j8 ds))
  lia
 |.lst ds,h=>by
  rw[rpD]at h
  rw[toP,wtD,qgw]
  have:=mz ds h
  have:=Cy (qeo (j8 ds))
  lia
 |.ty _,h=>by simp[rpD]at h
 |.dct,h=>by simp[rpD]at h
 |.scr _,h=>by simp[rpD]at h
theorem mz:∀ ds:List D,nS ds=true->piled (qeo (j8 ds))<=tX ds
 |[],_=>by rw[j8,tX,qeo];exact qap _
 |d::ds,h=>by
  rw[nS,qbb]at h
  rw[j8,tX,qeo,piled_cons]
  have:=uw d h.1
  have:=mz ds h.2
  lia
end
mutual
theorem xI:∀ d:D,rpD d=true->(toP d).showable=true/\(toP d).hasDict=false/\(toP d).depth<=dpD d
 |.non,_=>⟨rfl,rfl,by decide⟩
 |.bl b,_=>⟨rfl,rfl,by rw[toP,qfa];exact qaW _⟩
 |.int i,h=>by
  rw[rpD]at h
  rw[toP]
  exact⟨h,rfl,by rw[qfa];exact qaW _⟩
 |.str x,_=>⟨rfl,rfl,by rw[toP,qfa];exact qaW _⟩
 |.tup ds,h=>by
  rw[rpD]at h
  rw[toP,dpD,qjF,qjT,qfa]
  obtain⟨a,b,c⟩:=pU ds h
  exact⟨a,b,by lia⟩
 |.lst ds,h=>by
  rw[rpD]at h
  rw[toP,dpD,qjF,qjT,qfa]
  obtain⟨a,b,c⟩:=pU ds h
  exact⟨a,b,by lia⟩
 |.ty _,h=>by simp[rpD]at h
 |.dct,h=>by simp[rpD]at h
 |.scr _,h=>by simp[rpD]at h
theorem pU:∀ ds:List D,nS ds=true->qiM (j8 ds)=true/\qi4 (j8 ds)=false/\qgU (j8 ds)<=tZ ds
 |[],_=>by rw[j8,tZ];exact⟨rfl,rfl,by simp[qgU]⟩
 |d::ds,h=>by
  rw[nS,qbb]at h
  obtain⟨a,b,c⟩:=xI d h.1
  obtain⟨a',b',c'⟩:=pU ds h.2
  rw[j8,tZ,qiM,qi4,qgU,a,b,a',b']
  exact⟨rfl,rfl,by lia⟩
end
section
variable {K:qai}{X:Cx}{pins:List (Addr×Obj)}{σ:St}{H:Hp}{s:qaj}{φ:List Addr}
mutual
theorem uv (I:Inv X pins σ H s):∀ (d:D) (v:V) (u:Value),rpD d=true->Rl X.K H φ d v->aW v u->∃ as,Reads s.heap u (toP d) as
 |.non,v,u,_,r,q=>by cases (show v=.non from r);cases q;exact⟨_,by rw[toP];exact .none⟩
 |.bl b,v,u,_,r,q=>by cases (show v=.bl b from r);cases q;exact⟨_,by rw[toP];exact .bool b⟩
 |.int i,v,u,_,r,q=>by cases (show v=.int i from r);obtain⟨t,rfl⟩:=q;exact⟨_,by rw[toP];exact .int i t⟩
 |.str x,v,u,_,r,q=>by cases (show v=.str x from r);obtain⟨t,rfl⟩:=q;exact⟨_,by rw[toP];exact .str x t⟩
 |.tup ds,v,u,h,r,q=>by
  rw[rpD]at h
  obtain⟨a,vs,rfl,h1,h2⟩:=r
  cases q
  obtain⟨its,rv,⟨o,ho,hc,n,hd⟩,_⟩:=I.tuple (SqT.of h1)
  obtain⟨as,ra⟩:=mJ I ds vs its h h2 rv
  exact⟨as,by rw[toP];exact .tuple ho hc hd (by simpa using ra)⟩
 |.lst ds,v,u,h,r,q=>by
  rw[rpD]at h
  obtain⟨a,vs,rfl,_,h1,h2⟩:=r
  cases q
  obtain⟨its,rv,⟨o,n,ho,hc,hdd,hd⟩,_⟩:=I.list (.inl h1)
  obtain⟨as,ra⟩:=mJ I ds vs its h h2 rv
  exact⟨a::as,by rw[toP];exact .list ho hc hd (by simpa using ra)⟩
 |.ty _,_,_,h,_,_=>by simp[rpD]at h
 |.dct,_,_,h,_,_=>by simp[rpD]at h
 |.scr _,_,_,h,_,_=>by simp[rpD]at h
theorem mJ (I:Inv X pins σ H s):∀ (ds:List D) (vs:List V) (us:List Value),nS ds=true->Rls X.K H φ ds vs->aP vs us->∃ as,ReadsAll s.heap us (j8 ds) as
 |[],vs,us,_,r,q=>by cases r;cases q;exact⟨[],by rw[j8];exact .nil⟩
 |d::ds,vs,us,h,r,q=>by
  rw[nS,qbb]at h
  obtain⟨v,r',rfl,h1,h2⟩:=r
  cases q with
  |cons q1 q2=>
   obtain⟨as,a1⟩:=uv I d v _ h.1 h1 q1
   obtain⟨bs,a2⟩:=mJ I ds r' _ h.2 h2 q2
   exact⟨as++bs,by rw[j8];exact .cons a1 a2⟩
end
end
def pS (st:Sto):List W->Option D
 |[.d (.tup ds)]=>sF st [.d (.tup ds)]
 |[.d (.lst ds)]=>sF st [.d (.lst ds)]
 |_=>none
theorem vB {K:qai}{X:Cx}{k:Nat} (hr:cX k X.A) (hK:X.K=K:=by rfl):lL K X (.builtin "repr") pS:=by
 subst hK
 refine⟨λst ws d h=>?_⟩
 have key:∀ x:D,(∀ (H:Hp) (φ:List Addr) v,Rl X.K H φ x v->∃ a,v=.ref a)->sF st [.d x]=some d->eV X (.builtin "repr") (rCD X.K st [.d x] d):=by
  intro x hx h
  simp only[sF]at h
  split at h
  ·rename_i hc
   cases h
   intro pins s σ H xs us Q I rv q
   obtain⟨φ,S,⟨v,r,rfl,r1,rfl⟩,q⟩:=q
   obtain⟨u,rfl,ru⟩:=lO rv
   obtain⟨as,rd⟩:=uv I x v u hc.1 r1 ru
   obtain⟨a,rfl⟩:=hx H φ v r1
   cases ru
   obtain⟨b1,b2,b3⟩:=xI x hc.1
   have hl:=uw x hc.1
   have hun:=hr.units
   refine repr_of_reads' rd b1 (PyData.noDict_hsm b2) hr.gd (by lia) (λ_ _ e=>e) (λh' u tk hk=>⟨.str _,H,I.kept (t':=tk) hk,⟨u,rfl⟩,q _ H (bL.refl H) rfl⟩) ?_
   rw[qbM];lia
  ·cases h
 match ws,h with
 |[.d (.tup ds)],h=>exact key (.tup ds) (λH φ v ⟨a,vs,e,_⟩=>⟨a,e⟩) h
 |[.d (.lst ds)],h=>exact key (.lst ds) (λH φ v ⟨a,vs,e,_⟩=>⟨a,e⟩) h
end L2
namespace L2
open PySem PySem.SeqAt MeetsSeq MeetsSeq2 MeetsSeq3
open AutoSeq1 (wpAny_loadPart')
end L2
namespace L2
open PySem PySem.Spec PyProof.Rows
section
variable {K:qai}{X:Cx}{pos:Pos}{a e:Expr}{fa:Ef}{af:Af}
end
section
variable {K:qai}{X:Cx}{pos:Pos}{a e:Expr}{fa:Ef}{af:Af}
end
end L2
namespace L2
open PySem PySem.Spec PyProof.Rows
open AutoSeq1 (wpAny_loadPart')
section
variable {K:qai}{X:Cx}{pos:Pos}{a e:Expr}{es:List Expr}{fa:Ef}{af:Af}
end
theorem sU (l:Addr) (items:Array Value) (n:Nat) (b:Addr) (items2:Array Value) (n2:Nat) (dd:Option Addr) (sl:Array (Option Value)) (hs0:¬(!items.isEmpty&&qcL (items.size+items2.size))=true) (hs1:items.size<=qaO) (hs2:items.size+items2.size<=qaO+1) :
  Meets (qcs.«list.extend» ⟨[.ref l,.ref b],[]⟩) (λ_ R s=>s.heap.get? l=some { cls:=.type "list",dict:=none,data:=.seq items n,slots:=#[] }/\s.heap.get? b=some { cls:=.type "list",dict:=dd,data:=.seq items2 n2,slots:=sl }/\R (.ok (.ret Value.none)) { s with heap:=s.heap.update l (qce λx=>x++items2),toks:=s.toks }):=
 .of_wp λprog w A R s h=>by
  obtain⟨hp,g,d,tk,os⟩:=s;obtain⟨hl,hb,h⟩:=h;have f1:=AutoSeq1.idx_int;have f2:=qhh;have f3:=AutoSeq1.sub_list_list;have f4:=AutoSeq1.sub_tuple_list;have f5:=AutoSeq1.sub_list_tuple
  have hz':(items++items2).size<=qaO+1:=by rw[Array.size_append];exact hs2
  wp_walk using (wpAny_updateSeq hl rfl (hz:=hs1) (_hz':=hz')),wpAny_loadPart' hl,wpAny_loadPart' hb
  exact⟨_,rfl,h⟩
section
variable {K:qai}{X:Cx}{pos:Pos}{a e:Expr}{es:List Expr}{fa:Ef}{af:Af}
def GU (X:Cx):V->List V->Hp->VK->Prop:=λx vs H Q=>∃ l b xs zs,x=.ref l/\vs=[.ref b]/\H l=some (.lst xs)/\Rd H b (.lst zs)/\b≠l/\xs.length+zs.length<=qaO/\Q .non (upd H l (.lst (xs++zs)))
theorem C9:MtR X "list.extend" (GU X):=by
 intro pins s σ H x vs v us Q I rx rv h
 obtain⟨l,b,xs,zs,rfl,rfl,hH,hB,hne,hz,q⟩:=h
 cases rx
 obtain⟨u,rfl,ru⟩:=rv.one
 cases ru
 obtain⟨z,its,n,r,hl,e⟩:=I.lstM hH
 obtain⟨its2,r2,⟨⟨c,dd,dt,sl⟩,n2,e2,hc,hdd,hd⟩,hz2⟩:=I.list (.inl hB)
 replace hc:c=.type "list":=hc
 replace hd:dt=.seq its2.toArray n2:=hd
 subst hc hd
 have hl2:=r2.length
 have hsz:its.toArray.size+its2.toArray.size<=qaO:=by rw[qat,qat];lia
 have hlong:¬ (!its.toArray.isEmpty&&qcL (its.toArray.size+its2.toArray.size))=true:=by
  rw[ux hsz,qhT]
  exact qan
 refine qdI F.slot_list_extend ⟨_,e,rfl⟩ F.entry_list_extend (F.args_list_extend_2 _ _)
  (sU l its.toArray n b its2.toArray n2 dd sl hlong (by rw[qat];lia) (by lia)) ⟨e,e2,?_⟩
 refine⟨.non,_,I.lset (its':=its++its2) hH e (by simp) (r.append r2) ?_,rfl,q⟩
 rw[qa4]
 lia
def re (ds:List D):List W->Option (D×List D)
 |[.d (.lst xs)]=>if ds.length+xs.length<=1000000 then some (.non,ds++xs) else none
 |_=>none
theorem DH {apos:Pos} (ho:IE K X a fa) (ha:IA K X (e::es) af) (hbase:qeE a "extend" X.env (eval a X.env)=eval a X.env:=by rfl)
  (hall:(e::es).all aU=true:=by rfl) (hfl30:(e::es).length<30:=by decide) (hline:(apos.endLine==pos.line)=true:=by rfl) (hK:X.K=K:=by rfl) :
  IE K X (.Call (.Attribute a "extend" apos) (e::es) [] pos) (gL re fa af):=by
 subst hK
 refine wa PySem.F.slot_list_extend PySem.F.type_list_extend C9 (λH φ st n ad ds vs ws us y Q S ea eds hv rl rw hy q=>?_) (λds ws y h=>?_) ho ha hbase hall hfl30 hline rfl
 ·match ws,hy with
  |[.d (.lst xs)],hy=>
   simp only[re]at hy
   split at hy
   ·rename_i hl
    cases hy
    obtain⟨v,r,rfl,⟨b,zs,rfl,hnb,hq,hz⟩,rfl⟩:=rw
    exact⟨ad,b,vs,zs,rfl,rfl,hv,hq,(λe=>hnb (by rw[e];exact qbl ea)),by rw[<-rl.length,<-hz.length];exact qaL hl mil,q _ _ rfl (rl.append hz) (λb z=>nomatch z)⟩
   ·cases hy
 ·match ws,h with
  |[.d (.lst xs)],h=>
   simp only[re]at h
   split at h
   ·cases h;rfl
   ·cases h
end
end L2
namespace L2
open PySem PySem.Spec PyProof.Rows
open Classical in
def lcH (n:Nat) (all:List D) (g:Tg) (tt:Tf) (te:Ef) (env:Ev):List D->Sto->Option (List D×Sto)
 |[],st=>if lg st n=some all then some ([],st) else none
 | d::ds,st=>if lg st n=some all then ((fM g (.d d) env).bind λe=>(tt e st).bind λb=>if b.1=true then (te e b.2).bind λx=>(mT [x.1]).bind λys=>(lcH n all g tt te env ds x.2).map λr=>(ys++r.1,r.2)
   else lcH n all g tt te env ds b.2) else none
section
variable {K:qai}{X:Cx}{pos:Pos}{tg:Expr}
def YlH (K:qai) (φ0:List Addr) (H0:Hp) (J:It) (n:Nat) (ds:List D):Prop:=∀ (H:Hp) (φ:List Addr) (st:Sto) (i:Nat),Fw φ0 φ H0 H->Sr K H φ st->lg st n=some ds->
 (∀ d,ds[i]?=some d->J.go i H/\∀ x H',J.yld i H x H'->bL H H'/\Rl K H' φ d x)/\(ds.length=i->J.stop i H)
def HP (K:qai) (env:Ev) (st:Sto) (n:Nat) (ds:List D) (s1:Sto):TI:=λσ H R=>∃ φ,Er K H φ env σ/\Sr K H φ st/\∀ J H' φ',Fw φ φ' H H'->Sr K H' φ' s1->YlH K φ' H' J n ds->R J H'
theorem C2 {e:Expr}{f:Ef}{env:Ev}{st s1:Sto}{n:Nat}{ds:List D} (h:IE K X e f) (hK:X.K=K) (hf:f env st=some (.h n,s1)) (hn:lg s1 n=some ds):PI X tg e (HP K env st n ds s1):=by
 subst hK
 refine (xo (h.run _ _ _ hf)).imp ?_
 rintro σ H R ⟨φ,hE,hS,q⟩
 refine⟨φ,hE,hS,λv H1 φ1 f1 S1 w1=>?_⟩
 obtain⟨a,vs,rfl,hq,hr⟩:=mX S1 w1 (show lsD s1 (.h n)=some ds from hn)
 refine⟨a,rfl,⟨vs,.inl hq⟩,q _ H1 φ1 f1 S1 λH2 φ2 st2 i f2 S2 hn2=>?_⟩
 obtain⟨a2,vs2,ea,hq2,hr2⟩:=mX S2 (Rw.fw S1 f2 w1) (show lsD st2 (.h n)=some ds from hn2)
 cases ea
 have hq3:SqL X.K H2 a vs2:=.inl hq2
 refine⟨λd hd=>?_,λhi=>⟨vs2,hq3,by rw[<-hr2.length];exact qej hi⟩⟩
 obtain⟨v,ev,rv⟩:=hr2.get hd
 refine⟨⟨vs2,v,hq3,ev⟩,λx H' y=>?_⟩
 obtain⟨rfl,y⟩:=y
 have:=y vs2 hq3
 rw[ev]at this
 cases this
 exact⟨bL.refl _,rv⟩
end
open Classical in
def qG (n:Nat) (all:List D) (g:Tg) (body:Sf):List D->Ev->Sto->Option Fl
 |[],env,st=>if lg st n=some all then some (.nx env st) else none
 | d::ds,env,st=>if lg st n=some all then ((fM g (.d d) env).bind λe=>(body e st).bind λr=>match r with
  |.nx e s=>qG n all g body ds e s
  |.ct e s=>qG n all g body ds e s
  |.bk e s=>some (.nx e s)
  |.rt w s=>some (.rt w s)) else none
def vA (fe:Ef) (g:Tg) (body:Sf):Sf
 |env,st=>(fe env st).bind λr=>match r.1 with
  |.h n=>(lg r.2 n).bind λds=>qG n ds g body ds env r.2
  |.d (.tup ds)=>lG g body ds env r.2
  |.d (.lst ds)=>lG g body ds env r.2
  |_=>none
section
variable {K:qai}{X:Cx}{pos:Pos}{tg:Expr}
theorem Do {iter:Expr}{body:List Stmt}{fe:Ef}{g:Tg}{gb:Sf} (he:IE K X iter fe) (hii:II K X tg iter (aH fe)) (hg:PG X tg (tG K g)) (hb:ISs K X body gb) (hp:qio (model X.prog X.w) X.A X.env X.xe) (hc:X.calm=true:=by rfl)
  (hs:∀ x,qc8 iter X.env x=pure x:=by intro _;rfl) (hK:X.K=K:=by rfl):IS K X (.For tg iter body [] pos) (vA fe g gb):=by
 refine⟨λenv st r hr=>?_⟩
 simp only[vA,qac]at hr
 obtain⟨⟨x,s1⟩,hx,hr⟩:=hr
 cases x with
 |d x=>
  refine (dC hii hg hb hp hc hs).run env st r ?_
  cases x with
  |tup ds=>simp only[gB,aH,hx,qaf];exact hr
  |lst ds=>simp only[gB,aH,hx,qaf];exact hr
  |_=>cases hr
 |h n=>
  simp only[qac]at hr
  obtain⟨ds,hds,hr⟩:=hr
  refine (AW hp hc (C2 he hK hx hds) hg hb.any hs).imp ?_
  rintro D σ H ⟨φ,hE,hS,q⟩
  refine⟨φ,hE,hS,λJ H1 φ1 f1 S1 yl=>?_⟩
  refine⟨λi m σ H=>m=ds.length - i/\i<=ds.length/\∃ env st φ2,Fw φ1 φ2 H1 H/\Er K H φ2 env σ/\Sr K H φ2 st/\qG n ds g gb (ds.drop i) env st=some r,⟨ds.length,by simp,qaW _,env,s1,φ1,Fw.refl _ _,hE.fw hS f1,S1,hr⟩,?_⟩
  rintro i m σ H2 ⟨rfl,hi,env2,st2,φ2,f2,e2,S2,h2⟩
  by_cases hlt:i<ds.length
  ·rw[qcl hlt]at h2
   rw[qG]at h2
   by_cases hg2:lg st2 n=some ds
   ·rw[if_pos hg2]at h2
    obtain⟨y1,y2⟩:=yl H2 φ2 st2 i f2 S2 hg2
    obtain⟨go,yld⟩:=y1 ds[i] (qaE hlt)
    simp only[qac]at h2
    obtain⟨e3,he3,r3,hr3,h3⟩:=h2
    refine .inr ⟨go,λσ' H'=>i+1<=ds.length/\∃ env st φ2,Fw φ1 φ2 H1 H'/\Er K H' φ2 env σ'/\Sr K H' φ2 st/\qG n ds g gb (ds.drop (i+1)) env st=some r,λσ' H' ⟨hn,p'⟩=>⟨ds.length - (i+1),by lia,rfl,hn,p'⟩,λx H' y=>?_⟩
    obtain⟨sm,rx⟩:=yld x H' y
    have S3:=S2.same sm
    have f3:=f2.trans (Fw.same (φ:=φ2) sm)
    refine⟨φ2,st2,env2,.d ds[i],e3,e2.fw S2 (Fw.same sm),S3,rx,he3,λσ' e' _=>?_⟩
    refine⟨e3,st2,r3,hr3,φ2,e',S3,?_⟩
    cases r3 with
    |nx e4 s4=>exact λσ4 H4 φ4 f4 e4' s4'=>⟨hlt,e4,s4,φ4,f3.trans f4,e4',s4',h3⟩
    |ct e4 s4=>exact λσ4 H4 φ4 f4 e4' s4'=>⟨hlt,e4,s4,φ4,f3.trans f4,e4',s4',h3⟩
    |bk e4 s4=>
     cases h3
     exact λσ4 H4 φ4 f4 e4' s4'=>q σ4 H4 φ4 (f1.trans (f3.trans f4)) e4' s4'
    |rt w s4=>
     cases h3
     exact λv H4 φ4 f4 s4' w4=>q v H4 φ4 (f1.trans (f3.trans f4)) s4' w4
   ·rw[if_neg hg2]at h2;cases h2
  ·have hi':i=ds.length:=by lia
   subst hi'
   rw[qg1,qG]at h2
   by_cases hg2:lg st2 n=some ds
   ·rw[if_pos hg2]at h2
    cases h2
    obtain⟨y1,y2⟩:=yl H2 φ2 st2 ds.length f2 S2 hg2
    exact .inl ⟨y2 rfl,q σ H2 φ2 (f1.trans f2) e2 S2⟩
   ·rw[if_neg hg2]at h2;cases h2
end
theorem vQ {n:Nat}{all:List D}{g:Tg}{body:Sf}:∀ {ds:List D} (Pv:Nat->Ev->Sto->Prop) {env:Ev}{st:Sto},Pv 0 env st->(∀ i env st,Pv i env st->lg st n=some all)->
  (∀ i d env st,ds[i]?=some d->Pv i env st->∃ e1 e2 s2,fM g (.d d) env=some e1/\(body e1 st=some (.nx e2 s2)\/body e1 st=some (.ct e2 s2))/\Pv (i+1) e2 s2)->
  ∃ env' st',qG n all g body ds env st=some (.nx env' st')/\Pv ds.length env' st'
 |[],Pv,env,st,h0,hk,_=>⟨env,st,by rw[qG,if_pos (hk _ _ _ h0)],h0⟩
 |d::ds,Pv,env,st,h0,hk,hs=>by
  obtain⟨e1,e2,s2,h1,h2,h3⟩:=hs 0 d env st rfl h0
  obtain⟨e',s',h4,h5⟩:=vQ (g:=g) (body:=body) (ds:=ds) (λi=>Pv (i+1)) h3 (λi=>hk (i+1)) λi d' env' st' hd p=>hs (i+1) d' env' st' (by simpa using hd) p
  refine⟨e',s',?_,h5⟩
  rw[qG,if_pos (hk _ _ _ h0),h1,qaf]
  rcases h2 with h2|h2<;>(rw[h2,qaf];exact h4)
end L2
namespace Own
open PySem L2
noncomputable section
def iw:Sf:=(bf (.nm 1) (iOp ge (iV 1) (iC (.int 2))))
def d9:Sf:=(az (bf (.nm 1) (iC (.int 1))) (az (gB (dG (ab (iV 0) ak)) (.nm 2) iw) (bG (iV 1))))
def gC:Fn:=cM 3 1 d9
def oo:Sf:=(bG (iOp kc (iOp kr (iV 0) (ax gC (ab (iV 1) ak))) (iC (.int 2))))
def si:Fn:=cM 2 2 oo
def jt:Sf:=(bf (.nm 1) (iOp ge (iV 1) (iV 2)))
def fV:Sf:=(az (bf (.nm 1) (iC (.int 1))) (az (gB (aH (iV 0)) (.nm 2) jt) (bG (iV 1))))
def fH:Fn:=cM 3 1 fV
def de:Tf:=(bO dLt (iV 2) (iCB eA (ab (iV 0) ak)))
def ft:Sf:=(az (bf (.nm 2) (iOp ge (iV 2) (iC (.int 2)))) (bf (.nm 1) (iOp fm (iV 1) (iC (.int 1)))))
def ic:Sf:=(az (bf (.nm 1) (iC (.int 0))) (az (bf (.nm 2) (iC (.int 1))) (az (p9 1000000000000000000000000000000 de ft) (bG (iV 1)))))
def dn:Fn:=cM 3 1 ic
def kf:Ef:=(iV 0)
def ku:Tf:=(bO Bl (iV 1) (iC .non))
def gP:Sf:=(bG (iCB i8 (ab (aM (iLc 2 [] (kU (ab (iV 0) ak)) (.tp [0,1]) ku kf)) ak)))
def jx:Fn:=cM 1 1 gP
def ir:Sf:=(bG (qK (bO dEq (iOp dIx (iV 0) (iV 1)) (iC (.int 1))) (iC (.int 1)) (iUn qA (iC (.int 1)))))
def my:Fn:=cM 2 2 ir
def lY:Ef:=(iOp fm (iV 0) (cn (ab (iV 2) ak)))
def lX:Tf:=(bO dLt (iCB eA (ab (iV 0) ak)) (iV 1))
def ly:Sf:=(bf (.nm 2) (iOp fm (iV 2) (aM (iLc 1 [1,3] (aH (iV 2)) (.nm 0) lX lY))))
def iK:Sf:=(az (bf (.nm 2) (aM (fP (ab (cn ak) ak)))) (az (gB (dG (ab (iV 0) ak)) (.nm 3) ly) (bG (iCB i8 (ab (aM (iCL jq (ab (iV 2) ak))) ak)))))
def kL:Fn:=cM 4 2 iK
def fY:Ef:=(ax si (ab (iV 1) (ab (iV 0) ak)))
def dD:Sf:=(az (bf (.nm 3) (iCB oD (ab (aM (iLc 1 [2] (aH (iV 1)) (.nm 0) cr fY)) ak))) (az (gE (bO dEq (iV 0) (iC (.str "both"))) (bG (qK (bO dEq (iV 3) (iCB eA (ab (iV 1) ak))) (iC (.int 1)) (iC (.int 0)))) fg) (bG (qK (bO dEq (iOp kc (iV 3) (iC (.int 2))) (iC (.int 1))) (iUn qA (iC (.int 1))) (iC (.int 1))))))
def kC:Fn:=cM 4 3 dD
def kj:Ef:=(cn (ab (iV 0) (ab (zM (iV 1) (iV 0)) ak)))
def kl:Tf:=(bO dNe (zM (iV 1) (iV 0)) (iC (.int 0)))
def gJ:Sf:=(bG (cn (ab (iV 0) (ab (iCB i8 (ab (aM (iLc 1 [1] (aH (aM (mP (iV 1)))) (.nm 0) kl kj)) ak)) ak))))
def fj:Fn:=cM 2 2 gJ
def bR:Sf:=(rK (iV 2) (iV 3) (iOp fm (vC (iV 2) (iV 3) (iC (.int 0))) (iV 4)))
def iX:Sf:=(az (bf (.nm 2) Ac) (az (vA (iV 1) (.tp [3,4]) bR) (bG (ax fj (ab (iV 0) (ab (iV 2) ak))))))
def dH:Fn:=ox 5 2 iX
def n8:Sf:=(bG (ax dH (ab (iOp dIx (iV 0) (iC (.int 0))) (ab (iOp fm (iOp dIx (iV 0) (iC (.int 1))) (iOp dIx (iV 1) (iC (.int 1)))) ak))))
def nY:Fn:=cM 2 2 n8
def jH:Sf:=(az (gE (bO dEq (iV 0) (iC (.str "both"))) (bG (iCB i8 (ab (aM (jA (pq (er (iV 1)) (er (iV 2))))) ak))) fg) (bG (iCB i8 (ab (aM (jA (lz (er (iV 1)) (er (iV 2))))) ak))))
def oY:Fn:=cM 3 3 jH
def jp:Ef:=(cn (ab (ax oY (ab (iV 2) (ab (iV 3) (ab (iV 0) ak)))) (ab (iOp ge (iV 4) (iV 1)) ak)))
def jB:Sf:=(jh (gL re (iV 3) (ab (aM (iLc 2 [2,4,5] (aH (iOp dIx (iV 1) (iC (.int 1)))) (.tp [0,1]) cr jp)) ak)))
def fZ:Sf:=(az (bf (.nm 2) (iOp dIx (iV 0) (iC (.int 0)))) (az (bf (.nm 3) (pj (fP ak))) (az (gB (aH (iOp dIx (iV 0) (iC (.int 1)))) (.tp [4,5]) jB) (bG (ax dH (ab (iV 2) (ab (iV 3) ak)))))))
def fW:Fn:=ox 6 2 fZ
def rT:Ef:=(cn (ab (iV 0) (ab (iOp ge (iV 2) (iV 1)) ak)))
def oh:Sf:=(bG (ax dH (ab (iOp dIx (iV 0) (iC (.int 0))) (ab (aM (iLc 2 [1] (aH (iOp dIx (iV 0) (iC (.int 1)))) (.tp [0,1]) cr rT)) ak))))
def om:Fn:=cM 2 2 oh
def rH:Ef:=(iOp fm (iV 0) (iV 1))
def rY:Ef:=(cn (ab (iCB i8 (ab (aM (iLc 1 [2] (aH (iV 0)) (.nm 0) cr rH)) ak)) (ab (iV 1) ak)))
def nZ:Sf:=(bG (cn (ab (iOp dIx (iV 0) (iC (.int 0))) (ab (iCB i8 (ab (aM (iLc 2 [1] (aH (iOp dIx (iV 0) (iC (.int 1)))) (.tp [0,1]) cr rY)) ak)) ak))))
def lZ:Fn:=cM 2 2 nZ
def dU:Sf:=(bG (iOp ge (ax my (ab (iV 0) (ab (iV 3) ak))) (ax kC (ab (iV 1) (ab (iV 2) (ab (iV 3) ak))))))
def gA:Fn:=cM 4 4 dU
def oG:Ef:=(ax gA (ab (iV 1) (ab (iV 2) (ab (iV 3) (ab (iV 0) ak)))))
def lB:Sf:=(bG (iCB oD (ab (aM (iLc 1 [0,1,2] (aH (ax jx (ab (iV 0) ak))) (.nm 0) cr oG)) ak)))
def lx:Fn:=cM 3 3 lB
def eO:Sf:=(rK (iV 2) (iV 3) (ax lx (ab (iV 0) (ab (iC (.str "odd")) (ab (iV 3) ak)))))
def ek:Sf:=(az (bf (.nm 1) (ax dn (ab (iV 0) ak))) (az (bf (.nm 2) Ac) (az (gB (aH (ax kL (ab (iV 1) (ab (iV 1) ak)))) (.nm 3) eO) (bG (ax fj (ab (iC (.str "odd")) (ab (iV 2) ak)))))))
def d7:Fn:=ox 4 1 ek
def iH:Sf:=(az (bf (.nm 2) (ax d7 (ab (iV 0) ak))) (az (gE (bO dEq (iV 1) (iC (.str "odd"))) (bG (iV 2)) fg) (bG D6)))
def eJ:Fn:=cM 3 2 iH
def hV:Sf:=(az (jh (gL iQ (iV 1) (ab (ax lZ (ab (ax eJ (ab (iV 3) (ab (iC (.str "odd")) ak))) (ab (iV 2) ak))) ak))) (bf (.nm 2) (iOp fm (iV 2) (ax dn (ab (iV 3) ak)))))
def gN:Sf:=(az (bf (.nm 1) (pj (fP ak))) (az (bf (.nm 2) (iC (.int 0))) (az (gB (aH (iV 0)) (.nm 3) hV) (bG (iV 1)))))
def gI:Fn:=cM 4 1 gN
def lJ:Sf:=(bf (.nm 4) (ax fW (ab (iV 4) (ab (ax om (ab (iOp dIx (iV 3) (iV 5)) (ab (iUn qA (iC (.int 1))) ak))) ak))))
def fR:Ef:=(iCB eA (ab (iV 1) ak))
def et:Tf:=(bO kG (iV 0) (iV 2))
def iE:Sf:=(az (bf (.nm 4) (cn (ab (iC (.str "odd")) (ab (cn (ab (cn (ab (cn ak) (ab (iOp ge (iV 1) (ax fH (ab (aM (iLc 2 [0] (kU (ab (iV 2) ak)) (.tp [0,1]) et fR)) ak))) ak))) ak)) ak)))) (az (gB (aH (iV 0)) (.nm 5) lJ) (bG (iV 4))))
def gm:Fn:=cM 6 4 iE
def mj:Sf:=(bf (.nm 3) (ax nY (ab (iV 3) (ab (ax gm (ab (iV 4) (ab (iV 5) (ab (iV 1) (ab (iV 2) ak))))) ak))))
def iN:Sf:=(az (bf (.nm 2) (ax gI (ab (iV 1) ak))) (az (bf (.nm 3) (cn (ab (iC (.str "odd")) (ab (cn ak) ak)))) (az (gB (aH (iOp dIx (iV 0) (iC (.int 1)))) (.tp [4,5]) mj) (bG (iV 3)))))
def iR:Fn:=ox 6 2 iN
def dR:Ef:=(iCB BX (ab (iV 0) ak))
def dY:Tf:=(bO dGe (iCB BX (ab (iV 0) ak)) (iOp zL (iC (.int 10)) (iC (.int 18))))
def gz:Sf:=(bf (.nm 1) (iOp kc (iOp fm (iOp ge (iV 1) (iC (.int 1000003))) (iV 2)) (iC (.int 2305843009213693951))))
def fI:Sf:=(az (bf (.nm 1) (iOp fm (iCB eA (ab (iV 0) ak)) (iC (.int 11)))) (az (gB (aH (iSl (iV 0) iPn (iPs (iC (.int 63))))) (.nm 2) gz) (bG (xT (ab (pj (iLc 1 [] (aH (iSl (iV 0) iPn (iPs (iC (.int 63))))) (.nm 0) dY dR)) (ab (iV 1) (ab (iC (.int 0)) ak)))))))
def fK:Fn:=cM 3 1 fI
def cW:Tf:=(qU (bO dNe (iG (iV 0) (iC (.int 0))) (aM (fP ak))) (bO dEq (iOp dIx (iG (iV 0) (iC (.int 0))) (iC (.int 0))) (iC (.int 0))))
def im:Sf:=(jh (gL B4 (iG (iV 0) (iC (.int 0))) (ab (iC (.int 0)) ak)))
def fq:Sf:=(az (p9 1000000000000000000000000000000 cW im) (az (gE (bO dNe (iG (iV 0) (iC (.int 0))) (aM (fP ak))) (az (bf (.nm 2) (iOp kc (iOp dIx (iG (iV 0) (iC (.int 0))) (iC (.int 0))) (iV 1))) (az (pV (iG (iV 0) (iC (.int 0))) (iC (.int 0)) (iOp kr (iOp dIx (iG (iV 0) (iC (.int 0))) (iC (.int 0))) (iV 1))) (bG (iV 2)))) fg) (az (lv (iV 0) (iC (.int 2)) (iOp fm (iG (iV 0) (iC (.int 2))) (iC (.int 1)))) (az (bf (.nm 3) (iOp kc (iOp ge (iOp fm (iG (iV 0) (iC (.int 1))) (iOp ge (iC (.int 104729)) (iG (iV 0) (iC (.int 2))))) (iC (.int 48271))) (iC (.int 2305843009213693951)))) (az (bf (.nm 4) (iOp kc (iOp ge (iV 3) (iOp fm (iOp fm (iOp kr (iV 3) (iC (.int 1000003))) (iOp ge (iG (iV 0) (iC (.int 2))) (iG (iV 0) (iC (.int 2))))) (iC (.int 7)))) (iC (.int 2305843009213693921)))) (bG (iOp kc (iOp kr (iV 4) (iC (.int 8191))) (iV 1))))))))
def ay:Fn:=cM 5 2 fq
def ig:Ef:=(iV 0)
def hW:Tf:=(bO dEq (iOp zG (iOp wm (iV 1) (iV 0)) (iC (.int 1))) (iC (.int 1)))
def gU:Sf:=(az (bf (.nm 3) (iCB eA (ab (aM (iLc 1 [2] (aH (iV 1)) (.nm 0) hW ig)) ak))) (bG (qK (bO dEq (iV 0) (iC (.str "both"))) (iCB FT (ab (iOp dEq (iV 3) (iCB eA (ab (iV 1) ak))) ak)) (iOp zc (iC (.int 1)) (iOp ge (iC (.int 2)) (iOp kc (iV 3) (iC (.int 2))))))))
def jf:Fn:=cM 4 3 gU
def jF:Ef:=(iOp ge (iV 1) (ax jf (ab (iOp dIx (iV 2) (iC (.int 0))) (ab (iV 0) (ab (iV 3) ak)))))
def fX:Sf:=(bG (iCB oD (ab (aM (iLc 2 [0,1] (aH (iOp dIx (iV 0) (iC (.int 1)))) (.tp [0,1]) cr jF)) ak)))
def cm:Fn:=cM 2 2 fX
def dS:Ef:=(iV 0)
def dZ:Tf:=(bO dLe (iCB eA (ab (iV 0) ak)) (iV 1))
def jG:Ef:=(iV 0)
def jD:Tf:=(bO dEq (iOp zG (iOp wm (iV 1) (iV 0)) (iC (.int 1))) (iC (.int 1)))
def gv:Ef:=(iCB i8 (ab (aM (iLc 1 [0] (dG (ab (iV 1) ak)) (.nm 0) jD jG)) ak))
def fS:Sf:=(az (bf (.nm 2) (aM (iLc 1 [0] (dG (ab (iOp xc (iC (.int 1)) (iV 0)) ak)) (.nm 0) cr gv))) (bG (aM (iCL jq (ab (aM (iLc 1 [1] (aH (iV 2)) (.nm 0) dZ dS)) ak)))))
def dW:Fn:=cM 3 2 fS
def eM:Ef:=(iOp dIx (iV 0) (iC (.int 0)))
def eD:Sf:=(az (gE (pv (i4 (mB mW (iCB nO (ab (iV 4) (ab (iC (.ty "tuple")) ak))))) (pv (bO dNe (iCB eA (ab (iV 4) ak)) (iC (.int 2))) (bO kG (iCB pS (ab (iOp dIx (iV 4) (iC (.int 0))) ak)) (iV 3)))) (bG (iC (.bl false))) fg) (gE (pv (i4 (mB mW (iCB nO (ab (iOp dIx (iV 4) (iC (.int 1))) (ab (iC (.ty "int")) ak))))) (pv (mB mW (iCB nO (ab (iOp dIx (iV 4) (iC (.int 1))) (ab (iC (.ty "bool")) ak)))) (bO dEq (iOp dIx (iV 4) (iC (.int 1))) (iC (.int 0))))) (bG (iC (.bl false))) fg))
def eN:Ef:=(iCB pS (ab (iV 0) ak))
def d6:Sf:=(az (gE (pv (i4 (mB mW (iCB nO (ab (iV 0) (ab (iC (.ty "tuple")) ak))))) (pv (bO dNe (iCB eA (ab (iV 0) ak)) (iC (.int 2))) (pv (bO dNe (iOp dIx (iV 0) (iC (.int 0))) (iV 1)) (i4 (mB mW (iCB nO (ab (iOp dIx (iV 0) (iC (.int 1))) (ab (iC (.ty "tuple")) ak)))))))) (bG (iC (.bl false))) fg) (az (bf (.nm 3) (aM (iLc 1 [] (aH (ax dW (ab (iV 2) (ab (iV 2) ak)))) (.nm 0) cr eN))) (az (gB (aH (iOp dIx (iV 0) (iC (.int 1)))) (.nm 4) eD) (az (bf (.nm 5) (aM (iLc 1 [] (aH (iOp dIx (iV 0) (iC (.int 1)))) (.nm 0) cr eM))) (bG (iOp dEq (iV 5) (aM (mD (iV 5)))))))))
def cY:Fn:=cM 6 3 d6
def h8:Sf:=(az (bf (.nm 5) (iOp dIx (aM (fP (ab (iC (.int 1)) (ab (iUn qA (iC (.int 1))) (ab (iC (.int 2)) (ab (iUn qA (iC (.int 2))) (ab (iC (.int 3)) (ab (iUn qA (iC (.int 3))) (ab (iC (.int 1)) (ab (iOp zc (iOp zL (iC (.int 10)) (iC (.int 18))) (ax ay (ab (iV 0) (ab (iC (.int 99)) ak)))) ak)))))))))) (ax ay (ab (iV 0) (ab (iC (.int 8)) ak))))) (gE (bO dGt (ax ay (ab (iV 0) (ab (iC (.int 3)) ak))) (iC (.int 0))) (jh (gL iQ (iV 3) (ab (cn (ab (iV 4) (ab (iV 5) ak))) ak))) fg))
def gQ:Sf:=(az (bf (.nm 3) (pj (fP ak))) (az (gB (aH (ax dW (ab (iV 2) (ab (iV 2) ak)))) (.nm 4) h8) (bG (cn (ab (iV 1) (ab (iCB i8 (ab (iV 3) ak)) ak))))))
def gS:Fn:=ox 6 3 gQ
def gO:Ef:=(iV 0)
def gT:Tf:=(bO dEq (iOp xc (iC (.int 1)) (iV 0)) (iCB eA (ab (iV 1) ak)))
def dr:Sf:=(bG (iOp dIx (aM (iLc 1 [0] (dG (ab (iC (.int 7)) ak)) (.nm 0) gT gO)) (iC (.int 0))))
def fu:Fn:=cM 1 1 dr
def ie:Ef:=(iOp dIx (aM (fP (ab (ax ay (ab (iV 1) (ab (iC (.int 2)) ak))) (ab (ax ay (ab (iV 1) (ab (iC (.int 2)) ak))) (ab (iV 2) (ab (iOp kc (iV 0) (iC (.int 2))) ak)))))) (iV 3))
def hU:Sf:=(az (bf (.tp [2,3]) (cn (ab (ax ay (ab (iV 0) (ab (iC (.int 4)) ak))) (ab (ax ay (ab (iV 0) (ab (iC (.int 2)) ak))) ak)))) (bG (iCB i8 (ab (aM (iLc 1 [0,3,2] (dG (ab (iOp xc (iC (.int 1)) (iV 1)) ak)) (.nm 0) cr ie)) ak))))
def jz:Fn:=cM 4 2 hU
def jd:Ef:=(ax ay (ab (iV 1) (ab (iC (.int 3)) ak)))
def jM:Ef:=(ax ay (ab (iV 1) (ab (iC (.int 2)) ak)))
def cE:Sf:=(az (t7 1 2 (ab (ax ay (ab (iV 0) (ab (iC (.int 6)) ak))) (ab (ax ay (ab (iV 0) (ab (iC (.int 4)) ak))) ak))) (az (gE (bO dEq (iV 1) (iC (.int 0))) (bG (aM (iLc 1 [0] (dG (ab (iOp fm (iC (.int 3)) (iV 2)) ak)) (.nm 0) cr jM))) fg) (az (gE (bO dEq (iV 1) (iC (.int 1))) (bG (aM (fP (ab (iOp fm (iC (.int 3)) (iV 2)) ak)))) fg) (az (gE (bO dEq (iV 1) (iC (.int 2))) (az (bf (.nm 3) (ax ay (ab (iV 0) (ab (iC (.int 7)) ak)))) (bG (aM (fP (ab (iV 3) (ab (ax ay (ab (iV 0) (ab (iOp zc (iC (.int 7)) (iV 3)) ak))) ak)))))) fg) (bG (aM (iLc 1 [0] (dG (ab (iV 2) ak)) (.nm 0) cr jd)))))))
def fG:Fn:=cM 4 1 cE
def cS:Sf:=(az (bf (.nm 6) (iOp fm (iV 6) (iOp jR (iOp dIx (iV 8) (iOp kc (iV 5) (iCB eA (ab (iV 8) ak)))) (iV 7)))) (bf (.nm 5) (iOp kr (iV 5) (iCB eA (ab (iV 8) ak)))))
def ju:Sf:=(az (t7 5 6 (ab (iV 4) (ab (iC (.int 0)) ak))) (az (gB (kU (ab (iV 1) ak)) (.tp [7,8]) cS) (gE (bO dNe (ax cm (ab (iV 3) (ab (iV 4) ak))) (iOp jR (ax cm (ab (iV 0) (ab (iV 6) ak))) (iV 2))) (bG (iC (.bl false))) fg)))
def cT:Ef:=(ax fu (ab (iV 0) ak))
def fO:Sf:=(az (bf (.nm 2) (iCB oD (ab (aM (iLc 1 [] (aH (iV 1)) (.nm 0) cr cT)) ak))) (az (bf (.nm 3) (ax iR (ab (iV 0) (ab (iV 1) ak)))) (az (gE (i4 (mB mW (ax cY (ab (iV 3) (ab (iC (.str "odd")) (ab (iV 2) ak)))))) (bG (iC (.bl false))) fg) (az (gB (dG (ab (iOp jR (iC (.int 1)) (iV 2)) ak)) (.nm 4) ju) (bG (iC (.bl true)))))))
def gf:Fn:=cM 9 2 fO
def mh:Ef:=(ax jz (ab (iV 1) (ab (iV 0) ak)))
def xP:Sf:=(az (bf (.nm 3) (ax fG (ab (iV 1) ak))) (az (bf (.nm 4) (ax gS (ab (iV 1) (ab (iC (.str "odd")) (ab (iCB eA (ab (iV 3) ak)) ak))))) (gE (i4 (mB mW (ax gf (ab (iV 4) (ab (iCB i8 (ab (aM (iLc 1 [1] (aH (iV 3)) (.nm 0) cr mh)) ak)) ak))))) (bG (iC (.bl false))) fg)))
def xD:Sf:=(az (bf (.nm 1) (ax fK (ab (iV 0) ak))) (az (gB (dG (ab (iC (.int 2)) ak)) (.nm 2) xP) (bG (iC (.bl true)))))
def vw:Fn:=ox 5 1 xD
end
end Own
section
set_option maxHeartbeats 2000000
namespace Own
open PySem L2
def top (i:Nat):Stmt:=PySem.Challenge.pw_signpoly_k66_put_polynomials.main.body.getD i (.Pass ⟨0,0,0,0⟩)
abbrev bX:Stmt:=top 1
abbrev iL:Stmt:=top 2
abbrev cD:Stmt:=top 3
abbrev cp:Stmt:=top 5
abbrev cA:Stmt:=top 6
abbrev eL:Stmt:=top 7
abbrev db:Stmt:=top 9
abbrev cV:Stmt:=top 10
abbrev cx:Stmt:=top 12
abbrev dF:Stmt:=top 15
abbrev iZ:Stmt:=top 16
abbrev gt:Stmt:=top 17
abbrev cf:Stmt:=top 18
abbrev gZ:Stmt:=top 19
abbrev gc:Stmt:=top 21
abbrev bY:Stmt:=top 27
abbrev eY:Stmt:=top 29
abbrev bZ:Stmt:=top 30
abbrev dE:Stmt:=top 31
abbrev cP:Stmt:=top 33
abbrev cU:Stmt:=top 34
abbrev dI:Stmt:=top 35
abbrev ce:Stmt:=top 37
abbrev cO:Stmt:=top 38
abbrev cC:Stmt:=top 39
abbrev ck:Stmt:=top 40
abbrev bJ:Stmt:=top 41
abbrev bD:Stmt:=top 42
abbrev cR:Stmt:=top 43
abbrev bF:Stmt:=top 44
abbrev cz:Stmt:=top 45
abbrev bQ:Stmt:=top 46
abbrev cj:Stmt:=top 47
abbrev nh:Stmt:=top 48
theorem dz:aG ["k","power","step"] ["k"] (ae bX):=⟨rfl,rfl,rfl,by decide +kernel,rfl,by decide +kernel,by decide +kernel⟩
theorem BI:aG ["row","k"] ["row","k"] (ae iL):=⟨rfl,rfl,rfl,by decide +kernel,rfl,by decide +kernel,by decide +kernel⟩
theorem eR:aG ["numbers","product","number"] ["numbers"] (ae cD):=⟨rfl,rfl,rfl,by decide +kernel,rfl,by decide +kernel,by decide +kernel⟩
theorem cN:aG ["f","many","rows"] ["f"] (ae cp):=⟨rfl,rfl,rfl,by decide +kernel,rfl,by decide +kernel,by decide +kernel⟩
theorem sg:aG ["f"] ["f"] (ae cA):=⟨rfl,rfl,rfl,by decide +kernel,rfl,by decide +kernel,by decide +kernel⟩
theorem vZ:aG ["f","row"] ["f","row"] (ae eL):=⟨rfl,rfl,rfl,by decide +kernel,rfl,by decide +kernel,by decide +kernel⟩
theorem gR:aG ["n","size","terms","k"] ["n","size"] (ae db):=⟨rfl,rfl,rfl,by decide +kernel,rfl,by decide +kernel,by decide +kernel⟩
theorem ni:aG ["kind","term","row","many"] ["kind","term","row"] (ae cV):=⟨rfl,rfl,rfl,by decide +kernel,rfl,by decide +kernel,by decide +kernel⟩
theorem sR:aG ["kind","numbers"] ["kind","numbers"] (ae cx):=⟨rfl,rfl,rfl,by decide +kernel,rfl,by decide +kernel,by decide +kernel⟩
theorem gW:aG ["kind","parts","numbers","term","number"] ["kind","parts"] (ae dF):=⟨rfl,rfl,rfl,by decide +kernel,rfl,by decide +kernel,by decide +kernel⟩
theorem Ae:aG ["one","other"] ["one","other"] (ae iZ):=⟨rfl,rfl,rfl,by decide +kernel,rfl,by decide +kernel,by decide +kernel⟩
theorem y0:aG ["kind","one","other"] ["kind","one","other"] (ae gt):=⟨rfl,rfl,rfl,by decide +kernel,rfl,by decide +kernel,by decide +kernel⟩
theorem dq:aG ["one","other","kind","parts","term","number"] ["one","other"] (ae cf):=⟨rfl,rfl,rfl,by decide +kernel,rfl,by decide +kernel,by decide +kernel⟩
theorem AL:aG ["poly","number"] ["poly","number"] (ae gZ):=⟨rfl,rfl,rfl,by decide +kernel,rfl,by decide +kernel,by decide +kernel⟩
theorem Bd:aG ["poly","by"] ["poly","by"] (ae gc):=⟨rfl,rfl,rfl,by decide +kernel,rfl,by decide +kernel,by decide +kernel⟩
theorem nF:aG ["f","kind","term","row"] ["f","kind","term","row"] (ae bY):=⟨rfl,rfl,rfl,by decide +kernel,rfl,by decide +kernel,by decide +kernel⟩
theorem yA:aG ["f","kind","term"] ["f","kind","term"] (ae eY):=⟨rfl,rfl,rfl,by decide +kernel,rfl,by decide +kernel,by decide +kernel⟩
theorem dB:aG ["f","n","numbers","term"] ["f"] (ae bZ):=⟨rfl,rfl,rfl,by decide +kernel,rfl,by decide +kernel,by decide +kernel⟩
theorem nv:aG ["f","kind","by_odd"] ["f","kind"] (ae dE):=⟨rfl,rfl,rfl,by decide +kernel,rfl,by decide +kernel,by decide +kernel⟩
theorem d4:aG ["parts","exacts","ahead","part"] ["parts"] (ae cP):=⟨rfl,rfl,rfl,by decide +kernel,rfl,by decide +kernel,by decide +kernel⟩
theorem gX:aG ["term","number","parts","exacts","poly","k"] ["term","number","parts","exacts"] (ae cU):=⟨rfl,rfl,rfl,by decide +kernel,rfl,by decide +kernel,by decide +kernel⟩
theorem dQ:aG ["poly","parts","exacts","told","term","number"] ["poly","parts"] (ae dI):=⟨rfl,rfl,rfl,by decide +kernel,rfl,by decide +kernel,by decide +kernel⟩
theorem eQ:aG ["_law_script","_law_seed","_law_cell"] ["_law_script"] (ae ce):=⟨rfl,rfl,rfl,by decide +kernel,rfl,by decide +kernel,by decide +kernel⟩
theorem fN:aG ["_law_spool_here","_law_many","_law_digit","_law_once","_law_twice"] ["_law_spool_here","_law_many"] (ae cO):=⟨rfl,rfl,rfl,by decide +kernel,rfl,by decide +kernel,by decide +kernel⟩
theorem li:aG ["_law_kind","_law_term_here","_law_row","_law_on"] ["_law_kind","_law_term_here","_law_row"] (ae cC):=⟨rfl,rfl,rfl,by decide +kernel,rfl,by decide +kernel,by decide +kernel⟩
theorem qS:aG ["_law_poly_here","_law_row"] ["_law_poly_here","_law_row"] (ae ck):=⟨rfl,rfl,rfl,by decide +kernel,rfl,by decide +kernel,by decide +kernel⟩
theorem ky:aG ["_law_n","_law_size","_law_every"] ["_law_n","_law_size"] (ae bJ):=⟨rfl,rfl,rfl,by decide +kernel,rfl,by decide +kernel,by decide +kernel⟩
theorem dv:aG ["_law_thing","_law_kind","_law_n","_law_every","_law_part","_law_terms_here"] ["_law_thing","_law_kind","_law_n"] (ae bD):=⟨rfl,rfl,rfl,by decide +kernel,rfl,by decide +kernel,by decide +kernel⟩
theorem fT:aG ["_law_spool_here","_law_kind","_law_n","_law_parts","_law_term_here","_law_number"] ["_law_spool_here","_law_kind","_law_n"] (ae cR):=⟨rfl,rfl,rfl,by decide +kernel,rfl,by decide +kernel,by decide +kernel⟩
theorem mx:aG ["_law_f"] ["_law_f"] (ae bF):=⟨rfl,rfl,rfl,by decide +kernel,rfl,by decide +kernel,by decide +kernel⟩
theorem iP:aG ["_law_spool_here","_law_n","_law_way","_law_one"] ["_law_spool_here","_law_n"] (ae cz):=⟨rfl,rfl,rfl,by decide +kernel,rfl,by decide +kernel,by decide +kernel⟩
theorem io:aG ["_law_spool_here","_law_way","_law_many","_law_first"] ["_law_spool_here"] (ae bQ):=⟨rfl,rfl,rfl,by decide +kernel,rfl,by decide +kernel,by decide +kernel⟩
theorem bI:aG ["_law_poly_here","_law_parts","_law_whole","_law_found","_law_row","_law_left","_law_at","_law_k","_law_part"] ["_law_poly_here","_law_parts"] (ae cj):=⟨rfl,rfl,rfl,by decide +kernel,rfl,by decide +kernel,by decide +kernel⟩
theorem ou:aG ["_law_script","_law_spool_here","_law_turn","_law_shape_here","_law_poly_here"] ["_law_script"] (ae nh):=⟨rfl,rfl,rfl,by decide +kernel,rfl,by decide +kernel,by decide +kernel⟩
set_option genSizeOf false in
set_option genInjectivity false in
structure Adr where
 f0:Addr
 g0:qbf
 f1:Addr
 g1:qbf
 f2:Addr
 g2:qbf
 f3:Addr
 g3:qbf
 f4:Addr
 g4:qbf
 f5:Addr
 g5:qbf
 f6:Addr
 g6:qbf
 f7:Addr
 g7:qbf
 f8:Addr
 g8:qbf
 f9:Addr
 g9:qbf
 f10:Addr
 g10:qbf
 f11:Addr
 g11:qbf
 f12:Addr
 g12:qbf
 f13:Addr
 g13:qbf
 f14:Addr
 g14:qbf
 f15:Addr
 g15:qbf
 f16:Addr
 g16:qbf
 f17:Addr
 g17:qbf
 f18:Addr
 g18:qbf
 f19:Addr
 g19:qbf
 f20:Addr
 g20:qbf
 f21:Addr
 g21:qbf
 f22:Addr
 g22:qbf
 f23:Addr
 g23:qbf
 f24:Addr
 g24:qbf
 f25:Addr
 g25:qbf
 f26:Addr
 g26:qbf
 f27:Addr
 g27:qbf
 f28:Addr
 g28:qbf
 f29:Addr
 g29:qbf
 f30:Addr
 g30:qbf
 f31:Addr
 g31:qbf
 f32:Addr
 g32:qbf
 f33:Addr
 g33:qbf
structure Txt (K:qai) (mg:Str->Option Value) (t:Adr):Prop where
 F0:Fun K "power_of_two" "power_of_two" bX t.f0 t.g0
 m0:mg "power_of_two" = some (.ref t.f0)
 b0:bz K t.g0 ["k"] []
 F1:Fun K "on_in" "on_in" iL t.f1 t.g1
 m1:mg "on_in" = some (.ref t.f1)
 b1:bz K t.g1 ["row","k"] []
 F2:Fun K "multiplied" "multiplied" cD t.f2 t.g2
 m2:mg "multiplied" = some (.ref t.f2)
 b2:bz K t.g2 ["numbers"] []
 F3:Fun K "switches_of" "switches_of" cp t.f3 t.g3
 m3:mg "switches_of" = some (.ref t.f3)
 b3:bz K t.g3 ["f"] []
 F4:Fun K "told_rows" "told_rows" cA t.f4 t.g4
 m4:mg "told_rows" = some (.ref t.f4)
 b4:bz K t.g4 ["f"] []
 F5:Fun K "sign_at" "sign_at" eL t.f5 t.g5
 m5:mg "sign_at" = some (.ref t.f5)
 b5:bz K t.g5 ["f","row"] []
 F6:Fun K "terms_to" "terms_to" db t.f6 t.g6
 m6:mg "terms_to" = some (.ref t.f6)
 b6:bz K t.g6 ["n","size"] []
 F7:Fun K "value_of" "value_of" cV t.f7 t.g7
 m7:mg "value_of" = some (.ref t.f7)
 b7:bz K t.g7 ["kind","term","row"] []
 F8:Fun K "poly_from" "poly_from" cx t.f8 t.g8
 m8:mg "poly_from" = some (.ref t.f8)
 b8:bz K t.g8 ["kind","numbers"] []
 F9:Fun K "gathered" "gathered" dF t.f9 t.g9
 m9:mg "gathered" = some (.ref t.f9)
 b9:bz K t.g9 ["kind","parts"] []
 F10:Fun K "added" "added" iZ t.f10 t.g10
 m10:mg "added" = some (.ref t.f10)
 b10:bz K t.g10 ["one","other"] []
 F11:Fun K "joined" "joined" gt t.f11 t.g11
 m11:mg "joined" = some (.ref t.f11)
 b11:bz K t.g11 ["kind","one","other"] []
 F12:Fun K "product_of" "product_of" cf t.f12 t.g12
 m12:mg "product_of" = some (.ref t.f12)
 b12:bz K t.g12 ["one","other"] []
 F13:Fun K "often" "often" gZ t.f13 t.g13
 m13:mg "often" = some (.ref t.f13)
 b13:bz K t.g13 ["poly","number"] []
 F14:Fun K "moved" "moved" gc t.f14 t.g14
 m14:mg "moved" = some (.ref t.f14)
 b14:bz K t.g14 ["poly","by"] []
 F15:Fun K "signed_value" "signed_value" bY t.f15 t.g15
 m15:mg "signed_value" = some (.ref t.f15)
 b15:bz K t.g15 ["f","kind","term","row"] []
 F16:Fun K "sum_by" "sum_by" eY t.f16 t.g16
 m16:mg "sum_by" = some (.ref t.f16)
 b16:bz K t.g16 ["f","kind","term"] []
 F17:Fun K "exact_by_odd" "exact_by_odd" bZ t.f17 t.g17
 m17:mg "exact_by_odd" = some (.ref t.f17)
 b17:bz K t.g17 ["f"] []
 F18:Fun K "exact_of" "exact_of" dE t.f18 t.g18
 m18:mg "exact_of" = some (.ref t.f18)
 b18:bz K t.g18 ["f","kind"] []
 F19:Fun K "exacts_of" "exacts_of" cP t.f19 t.g19
 m19:mg "exacts_of" = some (.ref t.f19)
 b19:bz K t.g19 ["parts"] []
 F20:Fun K "put_term" "put_term" cU t.f20 t.g20
 m20:mg "put_term" = some (.ref t.f20)
 b20:bz K t.g20 ["term","number","parts","exacts"] []
 F21:Fun K "put_poly" "put_poly" dI t.f21 t.g21
 m21:mg "put_poly" = some (.ref t.f21)
 b21:bz K t.g21 ["poly","parts"] []
 F22:Fun K "_law_spool" "_law_spool" ce t.f22 t.g22
 m22:mg "_law_spool" = some (.ref t.f22)
 b22:bz K t.g22 ["_law_script"] []
 F23:Fun K "_law_take" "_law_take" cO t.f23 t.g23
 m23:mg "_law_take" = some (.ref t.f23)
 b23:bz K t.g23 ["_law_spool_here","_law_many"] []
 F24:Fun K "_law_term" "_law_term" cC t.f24 t.g24
 m24:mg "_law_term" = some (.ref t.f24)
 b24:bz K t.g24 ["_law_kind","_law_term_here","_law_row"] []
 F25:Fun K "_law_value" "_law_value" ck t.f25 t.g25
 m25:mg "_law_value" = some (.ref t.f25)
 b25:bz K t.g25 ["_law_poly_here","_law_row"] []
 F26:Fun K "_law_terms" "_law_terms" bJ t.f26 t.g26
 m26:mg "_law_terms" = some (.ref t.f26)
 b26:bz K t.g26 ["_law_n","_law_size"] []
 F27:Fun K "_law_is_poly" "_law_is_poly" bD t.f27 t.g27
 m27:mg "_law_is_poly" = some (.ref t.f27)
 b27:bz K t.g27 ["_law_thing","_law_kind","_law_n"] []
 F28:Fun K "_law_poly" "_law_poly" cR t.f28 t.g28
 m28:mg "_law_poly" = some (.ref t.f28)
 b28:bz K t.g28 ["_law_spool_here","_law_kind","_law_n"] []
 F29:Fun K "_law_switches" "_law_switches" bF t.f29 t.g29
 m29:mg "_law_switches" = some (.ref t.f29)
 b29:bz K t.g29 ["_law_f"] []
 F30:Fun K "_law_full" "_law_full" cz t.f30 t.g30
 m30:mg "_law_full" = some (.ref t.f30)
 b30:bz K t.g30 ["_law_spool_here","_law_n"] []
 F31:Fun K "_law_shape" "_law_shape" bQ t.f31 t.g31
 m31:mg "_law_shape" = some (.ref t.f31)
 b31:bz K t.g31 ["_law_spool_here"] []
 F32:Fun K "_law_right" "_law_right" cj t.f32 t.g32
 m32:mg "_law_right" = some (.ref t.f32)
 b32:bz K t.g32 ["_law_poly_here","_law_parts"] []
 F33:Fun K "law" "law" nh t.f33 t.g33
 m33:mg "law" = some (.ref t.f33)
 b33:bz K t.g33 ["_law_script"] []
 z_abs:mg "abs" = none
 z_bool:mg "bool" = none
 z_enumerate:mg "enumerate" = none
 z_int:mg "int" = none
 z_isinstance:mg "isinstance" = none
 z_len:mg "len" = none
 z_range:mg "range" = none
 z_repr:mg "repr" = none
 z_set:mg "set" = none
 z_sorted:mg "sorted" = none
 z_sum:mg "sum" = none
 z_tuple:mg "tuple" = none
abbrev Bdy (P:qaY) (w:World) (K:qai) (mg:Str->Option Value) (base:Heap) (k:Nat) (N:List Str) (x:Str) (sd:Stmt) (f:Addr) (b:Sf):Prop:=∀ (cdv:Value) (A:qa9) (outer:List Env) (s:qaj) (H:Hp) (E:XK),cX k (A.deeper (qlG x (ae sd) s.heap.objs.size f cdv))->ISs K (tM CX0 P w K mg base N x (ae sd) f cdv A outer s H E).nox (aB sd) b
section
variable {P:qaY}{w:World}{K:qai}{mg:Str->Option Value}{base:Heap}{t:Adr}
theorem mf (T:Txt K mg t):Bdy P w K mg base 0 ["k","power","step"] "power_of_two" bX t.f0 d9:=
 λ_ _ _ _ _ _ hr=>(al (aV (i:=1) dz.nd rfl (.inl rfl) aj rfl (.inl rfl)) (al (dC (eS rfl T.z_range (aa (iv 0) ah rfl) rfl) (bh (av (i:=2) dz.nd rfl (.inl rfl))) (ao (aV (i:=1) dz.nd rfl (.inl rfl) (aL (el rfl) (iv 1) aj) rfl (.inl rfl))) qbs rfl (λ_=>rfl)) (ao (aJ (iv 1)))))
theorem nK (T:Txt K mg t):bV P w K mg base CX0 1 t.f0 t.g0 ["k"] (spI K gC):=
 eu (N:=["k","power","step"]) (b:=d9) T.F0 dz (mf T)
theorem wH (T:Txt K mg t):Bdy P w K mg base 1 ["row","k"] "on_in" iL t.f1 oo:=
 λ_ _ _ _ _ _ hr=>(ao (aJ (aL hX (aL lV (iv 0) (aw (nK T) (by decide) hr rfl T.m0 T.F0.kp T.b0 (aa (iv 1) ah rfl) (by decide) rfl rfl)) aj)))
theorem BE (T:Txt K mg t):bV P w K mg base CX0 2 t.f1 t.g1 ["row","k"] (spI K si):=
 eu (N:=["row","k"]) (b:=oo) T.F1 BI (wH T)
theorem nM (T:Txt K mg t):Bdy P w K mg base 0 ["numbers","product","number"] "multiplied" cD t.f2 fV:=
 λ_ _ _ _ _ _ hr=>(al (aV (i:=1) eR.nd rfl (.inl rfl) aj rfl (.inl rfl)) (al (dC (bK (iv 0) rfl) (bh (av (i:=2) eR.nd rfl (.inl rfl))) (ao (aV (i:=1) eR.nd rfl (.inl rfl) (aL (el rfl) (iv 1) (iv 2)) rfl (.inl rfl))) qbs rfl (λ_=>rfl)) (ao (aJ (iv 1)))))
theorem qI (T:Txt K mg t):bV P w K mg base CX0 1 t.f2 t.g2 ["numbers"] (spI K fH):=
 eu (N:=["numbers","product","number"]) (b:=fV) T.F2 eR (nM T)
theorem mC (T:Txt K mg t):Bdy P w K mg base 0 ["f","many","rows"] "switches_of" cp t.f3 ic:=
 λ_ _ _ _ _ _ hr=>(al (aV (i:=1) cN.nd rfl (.inl rfl) aj rfl (.inl rfl)) (al (aV (i:=2) cN.nd rfl (.inl rfl) aj rfl (.inl rfl)) (al (ui 1000000000000000000000000000000 (bx D7 (iv 2) (cv (d0 rfl) rfl T.z_len qbX (aa (iv 0) ah rfl) (by decide) (by decide) rfl rfl) (bw _)) (al (aV (i:=2) cN.nd rfl (.inl rfl) (aL (el rfl) (iv 2) aj) rfl (.inl rfl)) (ao (aV (i:=1) cN.nd rfl (.inl rfl) (aL (dj rfl) (iv 1) aj) rfl (.inl rfl)))) qbs) (ao (aJ (iv 1))))))
theorem jl (T:Txt K mg t):bV P w K mg base CX0 1 t.f3 t.g3 ["f"] (spI K dn):=
 eu (N:=["f","many","rows"]) (b:=ic) T.F3 cN (mC T)
theorem qk (T:Txt K mg t):Bdy P w K mg base 0 ["f"] "told_rows" cA t.f4 gP:=
 λ_ _ _ _ _ _ hr=>(ao (aJ (i5 (gu rfl) rfl T.z_tuple qa7 (aa (aT (dl (cL (ae cA).names ["f"] ["row","value"] 2 [] rfl rfl rfl (by decide +kernel)) rfl (by decide) (tN rfl T.z_enumerate (aa (iv 0) ah rfl) rfl rfl) (λ_ _ _ _ _=>(gD (bq (av (i:=0) (show qbp (α:=Str) ["row","value"] by decide +kernel) rfl (.inl rfl)) (bq (av (i:=1) (show qbp (α:=Str) ["row","value"] by decide +kernel) rfl (.inl rfl)) dX)) rfl rfl rfl rfl rfl)) (λ_ _ _ _ _=>(fL (bx Ca (iv 1) EZ (bw _)))) (λ_ _ _ _ _=>(iv 0)) (λ_=>rfl))) ah rfl) (by decide) (by decide) rfl rfl)))
theorem sP (T:Txt K mg t):bV P w K mg base CX0 1 t.f4 t.g4 ["f"] (spI K jx):=
 eu (N:=["f"]) (b:=gP) T.F4 sg (qk T)
theorem sq (T:Txt K mg t):Bdy P w K mg base 0 ["f","row"] "sign_at" eL t.f5 ir:=
 λ_ _ _ _ _ _ hr=>(ao (aJ (yi (bx (e8 hr rfl) (ca (iv 0) (iv 1) rfl rfl) aj (bw _)) aj (mV aj))))
theorem wB (T:Txt K mg t):bV P w K mg base CX0 1 t.f5 t.g5 ["f","row"] (spI K my):=
 eu (N:=["f","row"]) (b:=ir) T.F5 vZ (sq T)
theorem qL (T:Txt K mg t):Bdy P w K mg base 0 ["n","size","terms","k"] "terms_to" db t.f6 iK:=
 λ_ _ _ _ _ _ hr=>(al (aV (i:=2) gR.nd rfl (.inl rfl) (aT (ij (aa (da ah) ah rfl))) rfl (.inl rfl)) (al (dC (eS rfl T.z_range (aa (iv 0) ah rfl) rfl) (bh (av (i:=3) gR.nd rfl (.inr rfl))) (ao (aV (i:=2) gR.nd rfl (.inl rfl) (aL (dj rfl) (iv 2) (aT (dl (cL (ae db).names ["n","size","terms","k"] ["term","size","k"] 1 [1,3] rfl rfl rfl (by decide +kernel)) rfl (by decide) (bK (iv 2) rfl) (λ_ _ _ _ _=>(bh (av (i:=0) (show qbp (α:=Str) ["term","size","k"] by decide +kernel) rfl (.inl rfl)))) (λ_ _ _ _ _=>(fL (bx D7 (cv (d0 rfl) rfl T.z_len qbX (aa (iv 0) ah rfl) (by decide) (by decide) rfl rfl) (iv 1) (bw _)))) (λ_ _ _ _ _=>(aL (dj rfl) (iv 0) (da (aa (iv 2) ah rfl)))) (λ_=>rfl)))) rfl (.inl rfl))) qbs rfl (λ_=>rfl)) (ao (aJ (i5 (gu rfl) rfl T.z_tuple qa7 (aa (aT (D5 (vf hr rfl) rfl T.z_sorted qcK (aa (iv 2) ah rfl) (by decide) (by decide) rfl rfl)) ah rfl) (by decide) (by decide) rfl rfl)))))
theorem uL (T:Txt K mg t):bV P w K mg base CX0 1 t.f6 t.g6 ["n","size"] (spI K kL):=
 eu (N:=["n","size","terms","k"]) (b:=iK) T.F6 gR (qL T)
theorem qy (T:Txt K mg t):Bdy P w K mg base 2 ["kind","term","row","many"] "value_of" cV t.f7 dD:=
 λ_ _ _ _ _ _ hr=>(al (aV (i:=3) ni.nd rfl (.inl rfl) (cv (tJ rfl rfl) rfl T.z_sum qdO (aa (aT (dl (cL (ae cV).names ["kind","term","row","many"] ["k","row"] 1 [2] rfl rfl rfl (by decide +kernel)) rfl (by decide) (bK (iv 1) rfl) (λ_ _ _ _ _=>(bh (av (i:=0) (show qbp (α:=Str) ["k","row"] by decide +kernel) rfl (.inl rfl)))) (λ_ _ _ _ _=>cF) (λ_ _ _ _ _=>(aw (BE T) (by decide) hr rfl T.m1 T.F1.kp T.b1 (aa (iv 1) (aa (iv 0) ah rfl) rfl) (by decide) rfl rfl)) (λ_=>rfl))) ah rfl) (by decide) (by decide) rfl rfl) rfl (.inl rfl)) (al (gH (bx (e8 hr rfl) (iv 0) gq (bw _)) (ao (aJ (yi (bx (e8 hr rfl) (iv 3) (cv (d0 rfl) rfl T.z_len qbX (aa (iv 1) ah rfl) (by decide) (by decide) rfl rfl) (bw _)) aj aj))) cJ) (ao (aJ (yi (bx (e8 hr rfl) (aL hX (iv 3) aj) aj (bw _)) (mV aj) aj)))))
theorem vk (T:Txt K mg t):bV P w K mg base CX0 3 t.f7 t.g7 ["kind","term","row"] (spI K kC):=
 eu (N:=["kind","term","row","many"]) (b:=dD) T.F7 ni (qy T)
theorem pH (T:Txt K mg t):Bdy P w K mg base 0 ["kind","numbers"] "poly_from" cx t.f8 gJ:=
 λ_ _ _ _ _ _ hr=>(ao (aJ (da (aa (iv 0) (aa (i5 (gu rfl) rfl T.z_tuple qa7 (aa (aT (dl (cL (ae cx).names ["kind","numbers"] ["term","numbers"] 1 [1] rfl rfl rfl (by decide +kernel)) rfl (by decide) (bK (aT (BT hr rfl T.z_sorted (iv 1) rfl rfl rfl)) rfl) (λ_ _ _ _ _=>(bh (av (i:=0) (show qbp (α:=Str) ["term","numbers"] by decide +kernel) rfl (.inl rfl)))) (λ_ _ _ _ _=>(fL (bx (qo hr rfl) (B6 hr (iv 1) (iv 0) (λ_ _=>rfl)) aj (bw _)))) (λ_ _ _ _ _=>(da (aa (iv 0) (aa (B6 hr (iv 1) (iv 0) (λ_ _=>rfl)) ah rfl) rfl))) (λ_=>rfl))) ah rfl) (by decide) (by decide) rfl rfl) ah rfl) rfl))))
theorem lI (T:Txt K mg t):bV P w K mg base CX0 1 t.f8 t.g8 ["kind","numbers"] (spI K fj):=
 eu (N:=["kind","numbers"]) (b:=gJ) T.F8 sR (pH T)
theorem qH (T:Txt K mg t):Bdy P w K mg base 1 ["kind","parts","numbers","term","number"] "gathered" dF t.f9 iX:=
 λ_ _ _ _ _ _ hr=>(al (aV (i:=2) gW.nd rfl (.inl rfl) xt rfl (.inl rfl)) (al (Do (iv 1) (bK (iv 1) rfl) (gD (bq (av (i:=3) gW.nd rfl (.inl rfl)) (bq (av (i:=4) gW.nd rfl (.inl rfl)) dX)) rfl rfl rfl rfl rfl) (ao (xO hr (iv 2) (iv 3) (aL (dj rfl) (Dt hr (iv 2) (iv 3) aj ⟨rfl,rfl,rfl,rfl⟩) (iv 4)) rfl)) qbs rfl (λ_=>rfl) rfl) (ao (aJ (aw (lI T) (by decide) hr rfl T.m8 T.F8.kp T.b8 (aa (iv 0) (aa (iv 2) ah rfl) rfl) (by decide) rfl rfl)))))
theorem jm (T:Txt K mg t):bV P w K mg base CX0 2 t.f9 t.g9 ["kind","parts"] (spI K dH):=
 zw (N:=["kind","parts","numbers","term","number"]) (b:=iX) T.F9 gW (qH T)
theorem xf (T:Txt K mg t):Bdy P w K mg base 2 ["one","other"] "added" iZ t.f10 n8:=
 λ_ _ _ _ _ _ hr=>(ao (aJ (aw (jm T) (by decide) hr rfl T.m9 T.F9.kp T.b9 (aa (ca (iv 0) aj rfl rfl) (aa (aL (dj rfl) (ca (iv 0) aj rfl rfl) (ca (iv 1) aj rfl rfl)) ah rfl) rfl) (by decide) rfl rfl)))
theorem B3 (T:Txt K mg t):bV P w K mg base CX0 3 t.f10 t.g10 ["one","other"] (spI K nY):=
 eu (N:=["one","other"]) (b:=n8) T.F10 Ae (xf T)
theorem vd (T:Txt K mg t):Bdy P w K mg base 0 ["kind","one","other"] "joined" gt t.f11 jH:=
 λ_ _ _ _ _ _ hr=>(al (gH (bx (e8 hr rfl) (iv 0) gq (bw _)) (ao (aJ (i5 (gu rfl) rfl T.z_tuple qa7 (aa (aT (vJ rfl T.z_sorted (G1 (tV rfl T.z_set (iv 1) rfl rfl rfl) (tV rfl T.z_set (iv 2) rfl rfl rfl)) rfl rfl)) ah rfl) (by decide) (by decide) rfl rfl))) cJ) (ao (aJ (i5 (gu rfl) rfl T.z_tuple qa7 (aa (aT (vJ rfl T.z_sorted (EJ (tV rfl T.z_set (iv 1) rfl rfl rfl) (tV rfl T.z_set (iv 2) rfl rfl rfl)) rfl rfl)) ah rfl) (by decide) (by decide) rfl rfl))))
theorem yJ (T:Txt K mg t):bV P w K mg base CX0 1 t.f11 t.g11 ["kind","one","other"] (spI K oY):=
 eu (N:=["kind","one","other"]) (b:=jH) T.F11 y0 (vd T)
theorem nE (T:Txt K mg t):Bdy P w K mg base 2 ["one","other","kind","parts","term","number"] "product_of" cf t.f12 fZ:=
 λ_ _ _ _ _ _ hr=>(al (aV (i:=2) dq.nd rfl (.inr rfl) (ca (iv 0) aj rfl rfl) rfl (.inl rfl)) (al (aV (i:=3) dq.nd rfl (.inl rfl) (sj (ij ah)) rfl (.inl rfl)) (al (dC (bK (ca (iv 0) aj rfl rfl) rfl) (gD (bq (av (i:=4) dq.nd rfl (.inr rfl)) (bq (av (i:=5) dq.nd rfl (.inr rfl)) dX)) rfl rfl rfl rfl rfl) (ao (nW (DH (iv 3) (aa (aT (dl (cL (ae cf).names ["one","other","kind","parts","term","number"] ["second","times","kind","term","number"] 2 [2,4,5] rfl rfl rfl (by decide +kernel)) rfl (by decide) (bK (ca (iv 1) aj rfl rfl) rfl) (λ_ _ _ _ _=>(gD (bq (av (i:=0) (show qbp (α:=Str) ["second","times","kind","term","number"] by decide +kernel) rfl (.inl rfl)) (bq (av (i:=1) (show qbp (α:=Str) ["second","times","kind","term","number"] by decide +kernel) rfl (.inl rfl)) dX)) rfl rfl rfl rfl rfl)) (λ_ _ _ _ _=>cF) (λ_ _ _ _ _=>(da (aa (aw (yJ T) (by decide) hr rfl T.m11 T.F11.kp T.b11 (aa (iv 2) (aa (iv 3) (aa (iv 0) ah rfl) rfl) rfl) (by decide) rfl rfl) (aa (aL (el rfl) (iv 4) (iv 1)) ah rfl) rfl))) (λ_=>rfl))) ah rfl) rfl rfl (by decide) rfl rfl) rfl)) qbs rfl (λ_=>rfl)) (ao (aJ (aw (jm T) (by decide) hr rfl T.m9 T.F9.kp T.b9 (aa (iv 2) (aa (iv 3) ah rfl) rfl) (by decide) rfl rfl))))))
theorem qM (T:Txt K mg t):bV P w K mg base CX0 3 t.f12 t.g12 ["one","other"] (spI K fW):=
 zw (N:=["one","other","kind","parts","term","number"]) (b:=fZ) T.F12 dq (nE T)
theorem wz (T:Txt K mg t):Bdy P w K mg base 2 ["poly","number"] "often" gZ t.f13 oh:=
 λ_ _ _ _ _ _ hr=>(ao (aJ (aw (jm T) (by decide) hr rfl T.m9 T.F9.kp T.b9 (aa (ca (iv 0) aj rfl rfl) (aa (aT (dl (cL (ae gZ).names ["poly","number"] ["term","times","number"] 2 [1] rfl rfl rfl (by decide +kernel)) rfl (by decide) (bK (ca (iv 0) aj rfl rfl) rfl) (λ_ _ _ _ _=>(gD (bq (av (i:=0) (show qbp (α:=Str) ["term","times","number"] by decide +kernel) rfl (.inl rfl)) (bq (av (i:=1) (show qbp (α:=Str) ["term","times","number"] by decide +kernel) rfl (.inl rfl)) dX)) rfl rfl rfl rfl rfl)) (λ_ _ _ _ _=>cF) (λ_ _ _ _ _=>(da (aa (iv 0) (aa (aL (el rfl) (iv 2) (iv 1)) ah rfl) rfl))) (λ_=>rfl))) ah rfl) rfl) (by decide) rfl rfl)))
theorem BM (T:Txt K mg t):bV P w K mg base CX0 3 t.f13 t.g13 ["poly","number"] (spI K om):=
 eu (N:=["poly","number"]) (b:=oh) T.F13 AL (wz T)
theorem wv (T:Txt K mg t):Bdy P w K mg base 0 ["poly","by"] "moved" gc t.f14 nZ:=
 λ_ _ _ _ _ _ hr=>(ao (aJ (da (aa (ca (iv 0) aj rfl rfl) (aa (i5 (gu rfl) rfl T.z_tuple qa7 (aa (aT (dl (cL (ae gc).names ["poly","by"] ["term","number","by"] 2 [1] rfl rfl rfl (by decide +kernel)) rfl (by decide) (bK (ca (iv 0) aj rfl rfl) rfl) (λ_ _ _ _ _=>(gD (bq (av (i:=0) (show qbp (α:=Str) ["term","number","by"] by decide +kernel) rfl (.inl rfl)) (bq (av (i:=1) (show qbp (α:=Str) ["term","number","by"] by decide +kernel) rfl (.inl rfl)) dX)) rfl rfl rfl rfl rfl)) (λ_ _ _ _ _=>cF) (λ_ _ _ _ _=>(da (aa (i5 (gu rfl) rfl T.z_tuple qa7 (aa (aT (dl (cL _ ["term","number","by"] ["k","by"] 1 [2] (xB (ns:=(ae gc).names) rfl rfl) rfl rfl (by decide +kernel)) rfl (by decide) (bK (iv 0) rfl) (λ_ _ _ _ _=>(bh (av (i:=0) (show qbp (α:=Str) ["k","by"] by decide +kernel) rfl (.inl rfl)))) (λ_ _ _ _ _=>cF) (λ_ _ _ _ _=>(aL (dj rfl) (iv 0) (iv 1))) (λ_=>rfl))) ah rfl) (by decide) (by decide) rfl rfl) (aa (iv 1) ah rfl) rfl))) (λ_=>rfl))) ah rfl) (by decide) (by decide) rfl rfl) ah rfl) rfl))))
theorem Am (T:Txt K mg t):bV P w K mg base CX0 1 t.f14 t.g14 ["poly","by"] (spI K lZ):=
 eu (N:=["poly","by"]) (b:=nZ) T.F14 Bd (wv T)
theorem lT (T:Txt K mg t):Bdy P w K mg base 3 ["f","kind","term","row"] "signed_value" bY t.f15 dU:=
 λ_ _ _ _ _ _ hr=>(ao (aJ (aL (el rfl) (aw (wB T) (by decide) hr rfl T.m5 T.F5.kp T.b5 (aa (iv 0) (aa (iv 3) ah rfl) rfl) (by decide) rfl rfl) (aw (vk T) (by decide) hr rfl T.m7 T.F7.kp T.b7 (aa (iv 1) (aa (iv 2) (aa (iv 3) ah rfl) rfl) rfl) (by decide) rfl rfl))))
theorem nH (T:Txt K mg t):bV P w K mg base CX0 4 t.f15 t.g15 ["f","kind","term","row"] (spI K gA):=
 eu (N:=["f","kind","term","row"]) (b:=dU) T.F15 nF (lT T)
theorem uP (T:Txt K mg t):Bdy P w K mg base 4 ["f","kind","term"] "sum_by" eY t.f16 lB:=
 λ_ _ _ _ _ _ hr=>(ao (aJ (cv (tJ rfl rfl) rfl T.z_sum qdO (aa (aT (dl (cL (ae eY).names ["f","kind","term"] ["row","f","kind","term"] 1 [0,1,2] rfl rfl rfl (by decide +kernel)) rfl (by decide) (bK (aw (sP T) (by decide) hr rfl T.m4 T.F4.kp T.b4 (aa (iv 0) ah rfl) (by decide) rfl rfl) rfl) (λ_ _ _ _ _=>(bh (av (i:=0) (show qbp (α:=Str) ["row","f","kind","term"] by decide +kernel) rfl (.inl rfl)))) (λ_ _ _ _ _=>cF) (λ_ _ _ _ _=>(aw (nH T) (by decide) hr rfl T.m15 T.F15.kp T.b15 (aa (iv 1) (aa (iv 2) (aa (iv 3) (aa (iv 0) ah rfl) rfl) rfl) rfl) (by decide) rfl rfl)) (λ_=>rfl))) ah rfl) (by decide) (by decide) rfl rfl)))
theorem yM (T:Txt K mg t):bV P w K mg base CX0 5 t.f16 t.g16 ["f","kind","term"] (spI K lx):=
 eu (N:=["f","kind","term"]) (b:=lB) T.F16 yA (uP T)
theorem lA (T:Txt K mg t):Bdy P w K mg base 5 ["f","n","numbers","term"] "exact_by_odd" bZ t.f17 ek:=
 λ_ _ _ _ _ _ hr=>(al (aV (i:=1) dB.nd rfl (.inl rfl) (aw (jl T) (by decide) hr rfl T.m3 T.F3.kp T.b3 (aa (iv 0) ah rfl) (by decide) rfl rfl) rfl (.inl rfl)) (al (aV (i:=2) dB.nd rfl (.inl rfl) xt rfl (.inl rfl)) (al (dC (bK (aw (uL T) (by decide) hr rfl T.m6 T.F6.kp T.b6 (aa (iv 1) (aa (iv 1) ah rfl) rfl) (by decide) rfl rfl) rfl) (bh (av (i:=3) dB.nd rfl (.inl rfl))) (ao (xO hr (iv 2) (iv 3) (aw (yM T) (by decide) hr rfl T.m16 T.F16.kp T.b16 (aa (iv 0) (aa gq (aa (iv 3) ah rfl) rfl) rfl) (by decide) rfl rfl) rfl)) qbs rfl (λ_=>rfl)) (ao (aJ (aw (lI T) (by decide) hr rfl T.m8 T.F8.kp T.b8 (aa gq (aa (iv 2) ah rfl) rfl) (by decide) rfl rfl))))))
theorem nL (T:Txt K mg t):bV P w K mg base CX0 6 t.f17 t.g17 ["f"] (spI K d7):=
 zw (N:=["f","n","numbers","term"]) (b:=ek) T.F17 dB (lA T)
theorem qx (T:Txt K mg t):Bdy P w K mg base 6 ["f","kind","by_odd"] "exact_of" dE t.f18 iH:=
 λ_ _ _ _ _ _ hr=>(al (aV (i:=2) nv.nd rfl (.inl rfl) (aw (nL T) (by decide) hr rfl T.m17 T.F17.kp T.b17 (aa (iv 0) ah rfl) (by decide) rfl rfl) rfl (.inl rfl)) (al (gH (bx (e8 hr rfl) (iv 1) gq (bw _)) (ao (aJ (iv 2))) cJ) (ao (aJ C3))))
theorem ur (T:Txt K mg t):bV P w K mg base CX0 7 t.f18 t.g18 ["f","kind"] (spI K eJ):=
 eu (N:=["f","kind","by_odd"]) (b:=iH) T.F18 nv (qx T)
theorem pY (T:Txt K mg t):Bdy P w K mg base 7 ["parts","exacts","ahead","part"] "exacts_of" cP t.f19 gN:=
 λ_ _ _ _ _ _ hr=>(al (aV (i:=1) d4.nd rfl (.inl rfl) (sj (ij ah)) rfl (.inl rfl)) (al (aV (i:=2) d4.nd rfl (.inl rfl) aj rfl (.inl rfl)) (al (dC (bK (iv 0) rfl) (bh (av (i:=3) d4.nd rfl (.inl rfl))) (al (nW (rp (iv 1) (aa (aw (Am T) (by decide) hr rfl T.m14 T.F14.kp T.b14 (aa (aw (ur T) (by decide) hr rfl T.m18 T.F18.kp T.b18 (aa (iv 3) (aa gq ah rfl) rfl) (by decide) rfl rfl) (aa (iv 2) ah rfl) rfl) (by decide) rfl rfl) ah rfl) rfl rfl (by decide) rfl rfl) rfl) (ao (aV (i:=2) d4.nd rfl (.inl rfl) (aL (dj rfl) (iv 2) (aw (jl T) (by decide) hr rfl T.m3 T.F3.kp T.b3 (aa (iv 3) ah rfl) (by decide) rfl rfl)) rfl (.inl rfl)))) qbs rfl (λ_=>rfl)) (ao (aJ (iv 1))))))
theorem sA (T:Txt K mg t):bV P w K mg base CX0 8 t.f19 t.g19 ["parts"] (spI K gI):=
 eu (N:=["parts","exacts","ahead","part"]) (b:=gN) T.F19 d4 (pY T)
theorem qv (T:Txt K mg t):Bdy P w K mg base 3 ["term","number","parts","exacts","poly","k"] "put_term" cU t.f20 iE:=
 λ_ _ _ _ _ _ hr=>(al (aV (i:=4) gX.nd rfl (.inl rfl) (da (aa gq (aa (da (aa (da (aa (da ah) (aa (aL (el rfl) (iv 1) (aw (qI T) (by decide) hr rfl T.m2 T.F2.kp T.b2 (aa (aT (dl (cL (ae cU).names ["term","number","parts","exacts","poly","k"] ["k","part","term"] 2 [0] rfl rfl rfl (by decide +kernel)) rfl (by decide) (tN rfl T.z_enumerate (aa (iv 2) ah rfl) rfl rfl) (λ_ _ _ _ _=>(gD (bq (av (i:=0) (show qbp (α:=Str) ["k","part","term"] by decide +kernel) rfl (.inl rfl)) (bq (av (i:=1) (show qbp (α:=Str) ["k","part","term"] by decide +kernel) rfl (.inl rfl)) dX)) rfl rfl rfl rfl rfl)) (λ_ _ _ _ _=>(fL (bx (ve rfl) (iv 0) (iv 2) rfl))) (λ_ _ _ _ _=>(cv (d0 rfl) rfl T.z_len qbX (aa (iv 1) ah rfl) (by decide) (by decide) rfl rfl)) (λ_=>rfl))) ah rfl) (by decide) rfl rfl)) ah rfl) rfl)) ah rfl)) ah rfl) rfl)) rfl (.inl rfl)) (al (dC (bK (iv 0) rfl) (bh (av (i:=5) gX.nd rfl (.inl rfl))) (ao (aV (i:=4) gX.nd rfl (.inl rfl) (aw (qM T) (by decide) hr rfl T.m12 T.F12.kp T.b12 (aa (iv 4) (aa (aw (BM T) (by decide) hr rfl T.m13 T.F13.kp T.b13 (aa (ca (iv 3) (iv 5) rfl rfl) (aa (mV aj) ah rfl) rfl) (by decide) rfl rfl) ah rfl) rfl) (by decide) rfl rfl) rfl (.inl rfl))) qbs rfl (λ_=>rfl)) (ao (aJ (iv 4)))))
theorem vt (T:Txt K mg t):bV P w K mg base CX0 4 t.f20 t.g20 ["term","number","parts","exacts"] (spI K gm):=
 eu (N:=["term","number","parts","exacts","poly","k"]) (b:=iE) T.F20 gX (qv T)
theorem qP (T:Txt K mg t):Bdy P w K mg base 8 ["poly","parts","exacts","told","term","number"] "put_poly" dI t.f21 iN:=
 λ_ _ _ _ _ _ hr=>(al (aV (i:=2) dQ.nd rfl (.inl rfl) (aw (sA T) (by decide) hr rfl T.m19 T.F19.kp T.b19 (aa (iv 1) ah rfl) (by decide) rfl rfl) rfl (.inl rfl)) (al (aV (i:=3) dQ.nd rfl (.inl rfl) (da (aa gq (aa (da ah) ah rfl) rfl)) rfl (.inl rfl)) (al (dC (bK (ca (iv 0) aj rfl rfl) rfl) (gD (bq (av (i:=4) dQ.nd rfl (.inl rfl)) (bq (av (i:=5) dQ.nd rfl (.inl rfl)) dX)) rfl rfl rfl rfl rfl) (ao (aV (i:=3) dQ.nd rfl (.inl rfl) (aw (B3 T) (by decide) hr rfl T.m10 T.F10.kp T.b10 (aa (iv 3) (aa (aw (vt T) (by decide) hr rfl T.m20 T.F20.kp T.b20 (aa (iv 4) (aa (iv 5) (aa (iv 1) (aa (iv 2) ah rfl) rfl) rfl) rfl) (by decide) rfl rfl) ah rfl) rfl) (by decide) rfl rfl) rfl (.inl rfl))) qbs rfl (λ_=>rfl)) (ao (aJ (iv 3))))))
theorem uz (T:Txt K mg t):bV P w K mg base CX0 9 t.f21 t.g21 ["poly","parts"] (spI K iR):=
 zw (N:=["poly","parts","exacts","told","term","number"]) (b:=iN) T.F21 dQ (qP T)
theorem nG (T:Txt K mg t):Bdy P w K mg base 0 ["_law_script","_law_seed","_law_cell"] "_law_spool" ce t.f22 fI:=
 λ_ _ _ _ _ _ hr=>(al (aV (i:=1) eQ.nd rfl (.inl rfl) (aL (dj rfl) (cv (d0 rfl) rfl T.z_len qbX (aa (iv 0) ah rfl) (by decide) (by decide) rfl rfl) aj) rfl (.inl rfl)) (al (dC (bK (D2 (iv 0) yq (xW aj) rfl) rfl) (bh (av (i:=2) eQ.nd rfl (.inl rfl))) (ao (aV (i:=1) eQ.nd rfl (.inl rfl) (aL hX (aL (dj rfl) (aL (el rfl) (iv 1) aj) (iv 2)) aj) rfl (.inl rfl))) qbs rfl (λ_=>rfl)) (ao (aJ (Ct (aa (sj (dl (cL (ae ce).names ["_law_script","_law_seed","_law_cell"] ["_law_cell"] 1 [] rfl rfl rfl (by decide +kernel)) rfl (by decide) (bK (D2 (iv 0) yq (xW aj) rfl) rfl) (λ_ _ _ _ _=>(bh (av (i:=0) (show qbp (α:=Str) ["_law_cell"] by decide +kernel) rfl (.inl rfl)))) (λ_ _ _ _ _=>(fL (bx G4 (cv BA rfl T.z_abs qgT (aa (iv 0) ah rfl) (by decide) (by decide) rfl rfl) (aL Bo aj aj) (bw _)))) (λ_ _ _ _ _=>(cv BA rfl T.z_abs qgT (aa (iv 0) ah rfl) (by decide) (by decide) rfl rfl)) (λ_=>rfl))) (aa (iv 1) (aa aj ah rfl) rfl) rfl))))))
theorem qT (T:Txt K mg t):bV P w K mg base CX0 1 t.f22 t.g22 ["_law_script"] (spI K fK):=
 eu (N:=["_law_script","_law_seed","_law_cell"]) (b:=fI) T.F22 eQ (nG T)
theorem o9 (T:Txt K mg t):Bdy P w K mg base 0 ["_law_spool_here","_law_many","_law_digit","_law_once","_law_twice"] "_law_take" cO t.f23 fq:=
 λ_ _ _ _ _ _ hr=>(al (ui 1000000000000000000000000000000 (tz (Ck (bx (qo hr rfl) (fz (iv 0) aj rfl rfl) (aT (ij ah)) (bw _)) (Ai (bx (e8 hr rfl) (ca (fz (iv 0) aj rfl rfl) aj rfl rfl) aj (bw _))))) (ao (nW (ED (fz (iv 0) aj rfl rfl) (aa aj ah rfl) rfl rfl (by decide) rfl rfl) rfl)) qbs) (al (gH (bx (qo hr rfl) (fz (iv 0) aj rfl rfl) (aT (ij ah)) (bw _)) (al (aV (i:=2) fN.nd rfl (.inl rfl) (aL hX (ca (fz (iv 0) aj rfl rfl) aj rfl rfl) (iv 1)) rfl (.inl rfl)) (al (zQ (fz (iv 0) aj rfl rfl) aj (aL lV (ca (fz (iv 0) aj rfl rfl) aj rfl rfl) (iv 1)) rfl rfl rfl) (ao (aJ (iv 2))))) cJ) (al (zC (iv 0) aj (aL (dj rfl) (fz (iv 0) aj rfl rfl) aj) rfl rfl rfl) (al (aV (i:=3) fN.nd rfl (.inl rfl) (aL hX (aL (el rfl) (aL (dj rfl) (fz (iv 0) aj rfl rfl) (aL (el rfl) aj (fz (iv 0) aj rfl rfl))) aj) aj) rfl (.inl rfl)) (al (aV (i:=4) fN.nd rfl (.inl rfl) (aL hX (aL (el rfl) (iv 3) (aL (dj rfl) (aL (dj rfl) (aL lV (iv 3) aj) (aL (el rfl) (fz (iv 0) aj rfl rfl) (fz (iv 0) aj rfl rfl))) aj)) aj) rfl (.inl rfl)) (ao (aJ (aL hX (aL lV (iv 4) aj) (iv 1)))))))))
theorem bn (T:Txt K mg t):bV P w K mg base CX0 1 t.f23 t.g23 ["_law_spool_here","_law_many"] (spI K ay):=
 eu (N:=["_law_spool_here","_law_many","_law_digit","_law_once","_law_twice"]) (b:=fq) T.F23 fN (o9 T)
theorem pe (T:Txt K mg t):Bdy P w K mg base 0 ["_law_kind","_law_term_here","_law_row","_law_on"] "_law_term" cC t.f24 gU:=
 λ_ _ _ _ _ _ hr=>(al (aV (i:=3) li.nd rfl (.inl rfl) (cv (d0 rfl) rfl T.z_len qbX (aa (aT (dl (cL (ae cC).names ["_law_kind","_law_term_here","_law_row","_law_on"] ["_law_k","_law_row"] 1 [2] rfl rfl rfl (by decide +kernel)) rfl (by decide) (bK (iv 1) rfl) (λ_ _ _ _ _=>(bh (av (i:=0) (show qbp (α:=Str) ["_law_k","_law_row"] by decide +kernel) rfl (.inl rfl)))) (λ_ _ _ _ _=>(fL (bx (e8 hr rfl) (aL Ao (aL Al (iv 1) (iv 0)) aj) aj (bw _)))) (λ_ _ _ _ _=>(iv 0)) (λ_=>rfl))) ah rfl) (by decide) (by decide) rfl rfl) rfl (.inl rfl)) (ao (aJ (yi (bx (e8 hr rfl) (iv 0) gq (bw _)) (i5 E5 rfl T.z_int qgS (aa (At (e8 hr rfl) (iv 3) (cv (d0 rfl) rfl T.z_len qbX (aa (iv 1) ah rfl) (by decide) (by decide) rfl rfl) (bw _)) ah rfl) (by decide) (by decide) rfl rfl) (aL v6 aj (aL (el rfl) aj (aL hX (iv 3) aj)))))))
theorem tj (T:Txt K mg t):bV P w K mg base CX0 1 t.f24 t.g24 ["_law_kind","_law_term_here","_law_row"] (spI K jf):=
 eu (N:=["_law_kind","_law_term_here","_law_row","_law_on"]) (b:=gU) T.F24 li (pe T)
theorem nI (T:Txt K mg t):Bdy P w K mg base 1 ["_law_poly_here","_law_row"] "_law_value" ck t.f25 fX:=
 λ_ _ _ _ _ _ hr=>(ao (aJ (cv (tJ rfl rfl) rfl T.z_sum qdO (aa (aT (dl (cL (ae ck).names ["_law_poly_here","_law_row"] ["_law_term_here","_law_number","_law_poly_here","_law_row"] 2 [0,1] rfl rfl rfl (by decide +kernel)) rfl (by decide) (bK (ca (iv 0) aj rfl rfl) rfl) (λ_ _ _ _ _=>(gD (bq (av (i:=0) (show qbp (α:=Str) ["_law_term_here","_law_number","_law_poly_here","_law_row"] by decide +kernel) rfl (.inl rfl)) (bq (av (i:=1) (show qbp (α:=Str) ["_law_term_here","_law_number","_law_poly_here","_law_row"] by decide +kernel) rfl (.inl rfl)) dX)) rfl rfl rfl rfl rfl)) (λ_ _ _ _ _=>cF) (λ_ _ _ _ _=>(aL (el rfl) (iv 1) (aw (tj T) (by decide) hr rfl T.m24 T.F24.kp T.b24 (aa (ca (iv 2) aj rfl rfl) (aa (iv 0) (aa (iv 3) ah rfl) rfl) rfl) (by decide) rfl rfl))) (λ_=>rfl))) ah rfl) (by decide) (by decide) rfl rfl)))
theorem kB (T:Txt K mg t):bV P w K mg base CX0 2 t.f25 t.g25 ["_law_poly_here","_law_row"] (spI K cm):=
 eu (N:=["_law_poly_here","_law_row"]) (b:=fX) T.F25 qS (nI T)
theorem nP (T:Txt K mg t):Bdy P w K mg base 0 ["_law_n","_law_size","_law_every"] "_law_terms" bJ t.f26 fS:=
 λ_ _ _ _ _ _ hr=>(al (qk0 (BQ (i0:=2) ky.nd rfl (.inl rfl) (cL (ae bJ).names ["_law_n","_law_size","_law_every"] ["_law_at","_law_n"] 1 [0] rfl rfl rfl (by decide +kernel)) rfl (by decide) (eS rfl T.z_range (aa (aL wX aj (iv 0)) ah rfl) rfl) (λ_ _ _ _ _=>(bh (av (i:=0) (show qbp (α:=Str) ["_law_at","_law_n"] by decide +kernel) rfl (.inr rfl)))) (λ_ _ _ _ _=>cF) (λ_ _ _ _ _=>(i5 (gu rfl) rfl T.z_tuple qa7 (aa (aT (dl (cL _ ["_law_at","_law_n"] ["_law_k","_law_at"] 1 [0] (xB (ns:=(ae bJ).names) rfl rfl) rfl rfl (by decide +kernel)) rfl (by decide) (eS rfl T.z_range (aa (iv 1) ah rfl) rfl) (λ_ _ _ _ _=>(bh (av (i:=0) (show qbp (α:=Str) ["_law_k","_law_at"] by decide +kernel) rfl (.inl rfl)))) (λ_ _ _ _ _=>(fL (bx (e8 hr rfl) (aL Ao (aL Al (iv 1) (iv 0)) aj) aj (bw _)))) (λ_ _ _ _ _=>(iv 0)) (λ_=>rfl))) ah rfl) (by decide) (by decide) rfl rfl)) rfl (.inl rfl) (λ_=>rfl))) (ao (aJ (aT (D5 (vf hr rfl) rfl T.z_sorted qcK (aa (aT (dl (cL (ae bJ).names ["_law_n","_law_size","_law_every"] ["_law_term_here","_law_size"] 1 [1] rfl rfl rfl (by decide +kernel)) rfl (by decide) (bK (iv 2) rfl) (λ_ _ _ _ _=>(bh (av (i:=0) (show qbp (α:=Str) ["_law_term_here","_law_size"] by decide +kernel) rfl (.inl rfl)))) (λ_ _ _ _ _=>(fL (bx GF (cv (d0 rfl) rfl T.z_len qbX (aa (iv 0) ah rfl) (by decide) (by decide) rfl rfl) (iv 1) (bw _)))) (λ_ _ _ _ _=>(iv 0)) (λ_=>rfl))) ah rfl) (by decide) (by decide) rfl rfl)))))
theorem kq (T:Txt K mg t):bV P w K mg base CX0 1 t.f26 t.g26 ["_law_n","_law_size"] (spI K dW):=
 eu (N:=["_law_n","_law_size","_law_every"]) (b:=fS) T.F26 ky (nP T)
theorem lW (T:Txt K mg t):Bdy P w K mg base 1 ["_law_thing","_law_kind","_law_n","_law_every","_law_part","_law_terms_here"] "_law_is_poly" bD t.f27 d6:=
 λ_ _ _ _ _ _ hr=>(al (gH (tz (kR (mY (kO (cv (oy rfl) rfl T.z_isinstance qcp (aa (iv 0) (aa (vj rfl T.z_tuple qa7 (by decide) (by decide)) ah rfl) rfl) (by decide) (by decide) rfl rfl) rfl rfl)) (kR (bx (qo hr rfl) (cv (d0 rfl) rfl T.z_len qbX (aa (iv 0) ah rfl) (by decide) (by decide) rfl rfl) aj (bw _)) (kR (bx (qo hr rfl) (ca (iv 0) aj rfl rfl) (iv 1) (bw _)) (sH (mY (kO (cv (oy rfl) rfl T.z_isinstance qcp (aa (ca (iv 0) aj rfl rfl) (aa (vj rfl T.z_tuple qa7 (by decide) (by decide)) ah rfl) rfl) (by decide) (by decide) rfl rfl) rfl rfl))))))) (ao (aJ nt)) cJ) (al (qk0 (BQ (i0:=3) dv.nd rfl (.inl rfl) (cL (ae bD).names ["_law_thing","_law_kind","_law_n","_law_every","_law_part","_law_terms_here"] ["_law_term_here"] 1 [] rfl rfl rfl (by decide +kernel)) rfl (by decide) (bK (aw (kq T) (by decide) hr rfl T.m26 T.F26.kp T.b26 (aa (iv 2) (aa (iv 2) ah rfl) rfl) (by decide) rfl rfl) rfl) (λ_ _ _ _ _=>(bh (av (i:=0) (show qbp (α:=Str) ["_law_term_here"] by decide +kernel) rfl (.inl rfl)))) (λ_ _ _ _ _=>cF) (λ_ _ _ _ _=>(cv (vB hr rfl) rfl T.z_repr qgM (aa (iv 0) ah rfl) (by decide) (by decide) rfl rfl)) rfl (.inl rfl) (λ_=>rfl))) (al (dC (bK (ca (iv 0) aj rfl rfl) rfl) (bh (av (i:=4) dv.nd rfl (.inl rfl))) (al (gH (tz (kR (mY (kO (cv (oy rfl) rfl T.z_isinstance qcp (aa (iv 4) (aa (vj rfl T.z_tuple qa7 (by decide) (by decide)) ah rfl) rfl) (by decide) (by decide) rfl rfl) rfl rfl)) (kR (bx (qo hr rfl) (cv (d0 rfl) rfl T.z_len qbX (aa (iv 4) ah rfl) (by decide) (by decide) rfl rfl) aj (bw _)) (sH (bx (ve rfl) (cv (vB hr rfl) rfl T.z_repr qgM (aa (ca (iv 4) aj rfl rfl) ah rfl) (by decide) (by decide) rfl rfl) (iv 3) rfl))))) (ao (aJ nt)) cJ) (ao (gH (tz (kR (mY (kO (cv (oy rfl) rfl T.z_isinstance qcp (aa (ca (iv 4) aj rfl rfl) (aa (vj rfl T.z_int qgS (by decide) (by decide)) ah rfl) rfl) (by decide) (by decide) rfl rfl) rfl rfl)) (kR (kO (cv (oy rfl) rfl T.z_isinstance qcp (aa (ca (iv 4) aj rfl rfl) (aa (vj rfl T.z_bool qlH (by decide) (by decide)) ah rfl) rfl) (by decide) (by decide) rfl rfl) rfl rfl) (sH (bx (e8 hr rfl) (ca (iv 4) aj rfl rfl) aj (bw _)))))) (ao (aJ nt)) cJ))) qbs rfl (λ_=>rfl)) (al (qk0 (BQ (i0:=5) dv.nd rfl (.inl rfl) (cL (ae bD).names ["_law_thing","_law_kind","_law_n","_law_every","_law_part","_law_terms_here"] ["_law_part"] 1 [] rfl rfl rfl (by decide +kernel)) rfl (by decide) (bK (ca (iv 0) aj rfl rfl) rfl) (λ_ _ _ _ _=>(bh (av (i:=0) (show qbp (α:=Str) ["_law_part"] by decide +kernel) rfl (.inl rfl)))) (λ_ _ _ _ _=>cF) (λ_ _ _ _ _=>(ca (iv 0) aj rfl rfl)) rfl (.inl rfl) (λ_=>rfl))) (ao (aJ (At (e8 hr rfl) (iv 5) (aT (Bk hr rfl T.z_sorted rfl T.z_set (iv 5) rfl rfl rfl)) (bw _))))))))
theorem nR (T:Txt K mg t):bV P w K mg base CX0 2 t.f27 t.g27 ["_law_thing","_law_kind","_law_n"] (spI K cY):=
 eu (N:=["_law_thing","_law_kind","_law_n","_law_every","_law_part","_law_terms_here"]) (b:=d6) T.F27 dv (lW T)
theorem oP (T:Txt K mg t):Bdy P w K mg base 1 ["_law_spool_here","_law_kind","_law_n","_law_parts","_law_term_here","_law_number"] "_law_poly" cR t.f28 gQ:=
 λ_ _ _ _ _ _ hr=>(al (aV (i:=3) fT.nd rfl (.inl rfl) (sj (ij ah)) rfl (.inl rfl)) (al (dC (bK (aw (kq T) (by decide) hr rfl T.m26 T.F26.kp T.b26 (aa (iv 2) (aa (iv 2) ah rfl) rfl) (by decide) rfl rfl) rfl) (bh (av (i:=4) fT.nd rfl (.inl rfl))) (al (aV (i:=5) fT.nd rfl (.inl rfl) (ca (aT (ij (aa aj (aa (mV aj) (aa aj (aa (mV aj) (aa aj (aa (mV aj) (aa aj (aa (aL v6 (aL Bo aj aj) (aw (bn T) (by decide) hr rfl T.m23 T.F23.kp T.b23 (aa (iv 0) (aa aj ah rfl) rfl) (by decide) rfl rfl)) ah rfl) rfl) rfl) rfl) rfl) rfl) rfl) rfl))) (aw (bn T) (by decide) hr rfl T.m23 T.F23.kp T.b23 (aa (iv 0) (aa aj ah rfl) rfl) (by decide) rfl rfl) rfl rfl) rfl (.inl rfl)) (ao (gH (bx Hf (aw (bn T) (by decide) hr rfl T.m23 T.F23.kp T.b23 (aa (iv 0) (aa aj ah rfl) rfl) (by decide) rfl rfl) aj (bw _)) (ao (nW (rp (iv 3) (aa (da (aa (iv 4) (aa (iv 5) ah rfl) rfl)) ah rfl) rfl rfl (by decide) rfl rfl) rfl)) cJ))) qbs rfl (λ_=>rfl)) (ao (aJ (da (aa (iv 1) (aa (i5 (gu rfl) rfl T.z_tuple qa7 (aa (iv 3) ah rfl) (by decide) (by decide) rfl rfl) ah rfl) rfl))))))
theorem sM (T:Txt K mg t):bV P w K mg base CX0 2 t.f28 t.g28 ["_law_spool_here","_law_kind","_law_n"] (spI K gS):=
 zw (N:=["_law_spool_here","_law_kind","_law_n","_law_parts","_law_term_here","_law_number"]) (b:=gQ) T.F28 fT (oP T)
theorem kK (T:Txt K mg t):Bdy P w K mg base 0 ["_law_f"] "_law_switches" bF t.f29 dr:=
 λ_ _ _ _ _ _ hr=>(ao (aJ (ca (aT (dl (cL (ae bF).names ["_law_f"] ["_law_k","_law_f"] 1 [0] rfl rfl rfl (by decide +kernel)) rfl (by decide) (eS rfl T.z_range (aa aj ah rfl) rfl) (λ_ _ _ _ _=>(bh (av (i:=0) (show qbp (α:=Str) ["_law_k","_law_f"] by decide +kernel) rfl (.inl rfl)))) (λ_ _ _ _ _=>(fL (bx (e8 hr rfl) (aL wX aj (iv 0)) (cv (d0 rfl) rfl T.z_len qbX (aa (iv 1) ah rfl) (by decide) (by decide) rfl rfl) (bw _)))) (λ_ _ _ _ _=>(iv 0)) (λ_=>rfl))) aj rfl rfl)))
theorem mF (T:Txt K mg t):bV P w K mg base CX0 1 t.f29 t.g29 ["_law_f"] (spI K fu):=
 eu (N:=["_law_f"]) (b:=dr) T.F29 mx (kK T)
theorem pL (T:Txt K mg t):Bdy P w K mg base 1 ["_law_spool_here","_law_n","_law_way","_law_one"] "_law_full" cz t.f30 hU:=
 λ_ _ _ _ _ _ hr=>(al (EX (da (aa (aw (bn T) (by decide) hr rfl T.m23 T.F23.kp T.b23 (aa (iv 0) (aa aj ah rfl) rfl) (by decide) rfl rfl) (aa (aw (bn T) (by decide) hr rfl T.m23 T.F23.kp T.b23 (aa (iv 0) (aa aj ah rfl) rfl) (by decide) rfl rfl) ah rfl) rfl)) (gD (bq (av (i:=2) iP.nd rfl (.inr rfl)) (bq (av (i:=3) iP.nd rfl (.inr rfl)) dX)) rfl rfl rfl rfl rfl) rfl rfl rfl) (ao (aJ (i5 (gu rfl) rfl T.z_tuple qa7 (aa (aT (dl (cL (ae cz).names ["_law_spool_here","_law_n","_law_way","_law_one"] ["_law_at","_law_spool_here","_law_one","_law_way"] 1 [0,3,2] rfl rfl rfl (by decide +kernel)) rfl (by decide) (eS rfl T.z_range (aa (aL wX aj (iv 1)) ah rfl) rfl) (λ_ _ _ _ _=>(bh (av (i:=0) (show qbp (α:=Str) ["_law_at","_law_spool_here","_law_one","_law_way"] by decide +kernel) rfl (.inl rfl)))) (λ_ _ _ _ _=>cF) (λ_ _ _ _ _=>(ca (aT (ij (aa (aw (bn T) (by decide) hr rfl T.m23 T.F23.kp T.b23 (aa (iv 1) (aa aj ah rfl) rfl) (by decide) rfl rfl) (aa (aw (bn T) (by decide) hr rfl T.m23 T.F23.kp T.b23 (aa (iv 1) (aa aj ah rfl) rfl) (by decide) rfl rfl) (aa (iv 2) (aa (aL hX (iv 0) aj) ah rfl) rfl) rfl) rfl))) (iv 3) rfl rfl)) (λ_=>rfl))) ah rfl) (by decide) (by decide) rfl rfl))))
theorem sL (T:Txt K mg t):bV P w K mg base CX0 2 t.f30 t.g30 ["_law_spool_here","_law_n"] (spI K jz):=
 eu (N:=["_law_spool_here","_law_n","_law_way","_law_one"]) (b:=hU) T.F30 iP (pL T)
theorem nB (T:Txt K mg t):Bdy P w K mg base 1 ["_law_spool_here","_law_way","_law_many","_law_first"] "_law_shape" bQ t.f31 cE:=
 λ_ _ _ _ _ _ hr=>(al (yd (i:=1) (j:=2) (λ_ h=>AM rfl io.nd rfl rfl (by decide) rfl rfl h rfl) (aa (aw (bn T) (by decide) hr rfl T.m23 T.F23.kp T.b23 (aa (iv 0) (aa aj ah rfl) rfl) (by decide) rfl rfl) (aa (aw (bn T) (by decide) hr rfl T.m23 T.F23.kp T.b23 (aa (iv 0) (aa aj ah rfl) rfl) (by decide) rfl rfl) ah rfl) rfl)) (al (gH (bx (e8 hr rfl) (iv 1) aj (bw _)) (ao (aJ (aT (dl (cL (ae bQ).names ["_law_spool_here","_law_way","_law_many","_law_first"] ["_law_part","_law_spool_here"] 1 [0] rfl rfl rfl (by decide +kernel)) rfl (by decide) (eS rfl T.z_range (aa (aL (dj rfl) aj (iv 2)) ah rfl) rfl) (λ_ _ _ _ _=>(bh (av (i:=0) (show qbp (α:=Str) ["_law_part","_law_spool_here"] by decide +kernel) rfl (.inl rfl)))) (λ_ _ _ _ _=>cF) (λ_ _ _ _ _=>(aw (bn T) (by decide) hr rfl T.m23 T.F23.kp T.b23 (aa (iv 1) (aa aj ah rfl) rfl) (by decide) rfl rfl)) (λ_=>rfl))))) cJ) (al (gH (bx (e8 hr rfl) (iv 1) aj (bw _)) (ao (aJ (aT (ij (aa (aL (dj rfl) aj (iv 2)) ah rfl))))) cJ) (al (gH (bx (e8 hr rfl) (iv 1) aj (bw _)) (al (aV (i:=3) io.nd rfl (.inl rfl) (aw (bn T) (by decide) hr rfl T.m23 T.F23.kp T.b23 (aa (iv 0) (aa aj ah rfl) rfl) (by decide) rfl rfl) rfl (.inl rfl)) (ao (aJ (aT (ij (aa (iv 3) (aa (aw (bn T) (by decide) hr rfl T.m23 T.F23.kp T.b23 (aa (iv 0) (aa (aL v6 aj (iv 3)) ah rfl) rfl) (by decide) rfl rfl) ah rfl) rfl)))))) cJ) (ao (aJ (aT (dl (cL (ae bQ).names ["_law_spool_here","_law_way","_law_many","_law_first"] ["_law_part","_law_spool_here"] 1 [0] rfl rfl rfl (by decide +kernel)) rfl (by decide) (eS rfl T.z_range (aa (iv 2) ah rfl) rfl) (λ_ _ _ _ _=>(bh (av (i:=0) (show qbp (α:=Str) ["_law_part","_law_spool_here"] by decide +kernel) rfl (.inl rfl)))) (λ_ _ _ _ _=>cF) (λ_ _ _ _ _=>(aw (bn T) (by decide) hr rfl T.m23 T.F23.kp T.b23 (aa (iv 1) (aa aj ah rfl) rfl) (by decide) rfl rfl)) (λ_=>rfl)))))))))
theorem qD (T:Txt K mg t):bV P w K mg base CX0 2 t.f31 t.g31 ["_law_spool_here"] (spI K fG):=
 eu (N:=["_law_spool_here","_law_way","_law_many","_law_first"]) (b:=cE) T.F31 io (nB T)
theorem nC (T:Txt K mg t):Bdy P w K mg base 9 ["_law_poly_here","_law_parts","_law_whole","_law_found","_law_row","_law_left","_law_at","_law_k","_law_part"] "_law_right" cj t.f32 fO:=
 λ_ _ _ _ _ _ hr=>(al (aV (i:=2) bI.nd rfl (.inl rfl) (cv (tJ rfl rfl) rfl T.z_sum qdO (aa (aT (dl (cL (ae cj).names ["_law_poly_here","_law_parts","_law_whole","_law_found","_law_row","_law_left","_law_at","_law_k","_law_part"] ["_law_part"] 1 [] rfl rfl rfl (by decide +kernel)) rfl (by decide) (bK (iv 1) rfl) (λ_ _ _ _ _=>(bh (av (i:=0) (show qbp (α:=Str) ["_law_part"] by decide +kernel) rfl (.inl rfl)))) (λ_ _ _ _ _=>cF) (λ_ _ _ _ _=>(aw (mF T) (by decide) hr rfl T.m29 T.F29.kp T.b29 (aa (iv 0) ah rfl) (by decide) rfl rfl)) (λ_=>rfl))) ah rfl) (by decide) (by decide) rfl rfl) rfl (.inl rfl)) (al (aV (i:=3) bI.nd rfl (.inl rfl) (aw (uz T) (by decide) hr rfl T.m21 T.F21.kp T.b21 (aa (iv 0) (aa (iv 1) ah rfl) rfl) (by decide) rfl rfl) rfl (.inl rfl)) (al (gH (mY (kO (aw (nR T) (by decide) hr rfl T.m27 T.F27.kp T.b27 (aa (iv 3) (aa gq (aa (iv 2) ah rfl) rfl) rfl) (by decide) rfl rfl) rfl rfl)) (ao (aJ nt)) cJ) (al (dC (eS rfl T.z_range (aa (aL tW aj (iv 2)) ah rfl) rfl) (bh (av (i:=4) bI.nd rfl (.inl rfl))) (al (yd (i:=5) (j:=6) (λ_ h=>AM rfl bI.nd rfl rfl (by decide) rfl rfl h rfl) (aa (iv 4) (aa aj ah rfl) rfl)) (al (dC (tN rfl T.z_enumerate (aa (iv 1) ah rfl) rfl rfl) (gD (bq (av (i:=7) bI.nd rfl (.inl rfl)) (bq (av (i:=8) bI.nd rfl (.inl rfl)) dX)) rfl rfl rfl rfl rfl) (al (aV (i:=6) bI.nd rfl (.inl rfl) (aL (dj rfl) (iv 6) (aL tW (ca (iv 8) (aL hX (iv 5) (cv (d0 rfl) rfl T.z_len qbX (aa (iv 8) ah rfl) (by decide) (by decide) rfl rfl)) rfl rfl) (iv 7))) rfl (.inl rfl)) (ao (aV (i:=5) bI.nd rfl (.inl rfl) (aL lV (iv 5) (cv (d0 rfl) rfl T.z_len qbX (aa (iv 8) ah rfl) (by decide) (by decide) rfl rfl)) rfl (.inl rfl)))) qbs rfl (λ_=>rfl)) (ao (gH (bx (qo hr rfl) (aw (kB T) (by decide) hr rfl T.m25 T.F25.kp T.b25 (aa (iv 3) (aa (iv 4) ah rfl) rfl) (by decide) rfl rfl) (aL tW (aw (kB T) (by decide) hr rfl T.m25 T.F25.kp T.b25 (aa (iv 0) (aa (iv 6) ah rfl) rfl) (by decide) rfl rfl) (iv 2)) (bw _)) (ao (aJ nt)) cJ)))) qbs rfl (λ_=>rfl)) (ao (aJ nt))))))
theorem qw (T:Txt K mg t):bV P w K mg base CX0 10 t.f32 t.g32 ["_law_poly_here","_law_parts"] (spI K gf):=
 eu (N:=["_law_poly_here","_law_parts","_law_whole","_law_found","_law_row","_law_left","_law_at","_law_k","_law_part"]) (b:=fO) T.F32 bI (nC T)
theorem Br (T:Txt K mg t):Bdy P w K mg base 10 ["_law_script","_law_spool_here","_law_turn","_law_shape_here","_law_poly_here"] "law" nh t.f33 xD:=
 λ_ _ _ _ _ _ hr=>(al (aV (i:=1) ou.nd rfl (.inr rfl) (aw (qT T) (by decide) hr rfl T.m22 T.F22.kp T.b22 (aa (iv 0) ah rfl) (by decide) rfl rfl) rfl (.inl rfl)) (al (dC (eS rfl T.z_range (aa aj ah rfl) rfl) (bh (av (i:=2) ou.nd rfl (.inl rfl))) (al (aV (i:=3) ou.nd rfl (.inl rfl) (aw (qD T) (by decide) hr rfl T.m31 T.F31.kp T.b31 (aa (iv 1) ah rfl) (by decide) rfl rfl) rfl (.inl rfl)) (al (aV (i:=4) ou.nd rfl (.inl rfl) (aw (sM T) (by decide) hr rfl T.m28 T.F28.kp T.b28 (aa (iv 1) (aa gq (aa (cv (d0 rfl) rfl T.z_len qbX (aa (iv 3) ah rfl) (by decide) (by decide) rfl rfl) ah rfl) rfl) rfl) (by decide) rfl rfl) rfl (.inl rfl)) (ao (gH (mY (kO (aw (qw T) (by decide) hr rfl T.m32 T.F32.kp T.b32 (aa (iv 4) (aa (i5 (gu rfl) rfl T.z_tuple qa7 (aa (aT (dl (cL (ae nh).names ["_law_script","_law_spool_here","_law_turn","_law_shape_here","_law_poly_here"] ["_law_n","_law_spool_here"] 1 [1] rfl rfl rfl (by decide +kernel)) rfl (by decide) (bK (iv 3) rfl) (λ_ _ _ _ _=>(bh (av (i:=0) (show qbp (α:=Str) ["_law_n","_law_spool_here"] by decide +kernel) rfl (.inl rfl)))) (λ_ _ _ _ _=>cF) (λ_ _ _ _ _=>(aw (sL T) (by decide) hr rfl T.m30 T.F30.kp T.b30 (aa (iv 1) (aa (iv 0) ah rfl) rfl) (by decide) rfl rfl)) (λ_=>rfl))) ah rfl) (by decide) (by decide) rfl rfl) ah rfl) rfl) (by decide) rfl rfl) rfl rfl)) (ao (aJ nt)) cJ)))) qbs rfl (λ_=>rfl)) (ao (aJ nt))))
theorem FS (T:Txt K mg t):bV P w K mg base CX0 11 t.f33 t.g33 ["_law_script"] (spI K vw):=
 zw (N:=["_law_script","_law_spool_here","_law_turn","_law_shape_here","_law_poly_here"]) (b:=xD) T.F33 ou (Br T)
end
end Own
end
namespace L2
open PySem
end L2
namespace L2
def fD:Nat->List (List Int)
 |0=>[[]]
 |n+1=>fD n++(fD n).map λt=>t++[(n:Int)]
def cG (n:Nat):List (List Int):=aZ (fD n)
theorem oX:∀ n,(fD n).length=2^n
 |0=>rfl
 |n+1=>by rw[fD,qa4,qag,oX n,qgW];lia
theorem pG (n:Nat):(cG n).length=2^n:=by rw[cG,(aS _).length_eq,oX]
def Trm (n:Nat) (t:List Int):Prop:=t.Pairwise (·<·)/\∀ k∈t,0<=k/\k<n
theorem Trm.mono {n m:Nat}{t:List Int} (h:Trm n t) (hn:n<=m):Trm m t:=⟨h.1,λk hk=>⟨(h.2 k hk).1,by have:=(h.2 k hk).2;lia⟩⟩
theorem jy:∀ (n:Nat) {t:List Int},t∈fD n->Trm n t
 |0,t,h=>by
  rw[fD,qaI]at h
  subst h
  exact⟨List.Pairwise.nil,λk hk=>by cases hk⟩
 |n+1,t,h=>by
  rcases qbo.mp h with h|h
  ·exact (jy n h).mono (qc9 n)
  ·obtain⟨u,hu,rfl⟩:=qaz.mp h
   have:=jy n hu
   refine⟨qdy.mpr ⟨this.1,qh7 _ _,λa ha b hb=>?_⟩,λk hk=>?_⟩
   ·rw[qaI.mp hb];exact (this.2 a ha).2
   ·rcases qbo.mp hk with hk|hk
    ·exact⟨(this.2 k hk).1,by have:=(this.2 k hk).2;lia⟩
    ·rw[qaI.mp hk];lia
theorem jC {n:Nat}{t:List Int} (h:t∈cG n):Trm n t:=jy n ((aS _).mem_iff.mp h)
theorem iS {n:Nat}{t:List Int} (h:Trm n t):t.length<=n:=by
 have key:∀ (t:List Int) (a:Int),t.Pairwise (·<·)->(∀ k∈t,a<=k/\k<n)->(t.length:Int)<=max 0 ((n:Int) - a):=by
  intro t
  induction t with
  |nil=>intro a _ _;simp;lia
  |cons x t ih=>
   intro a hp hm
   have h1:=hm x qak
   have:=ih (x+1) (qbw.mp hp).2 λk hk=>⟨(qbw.mp hp).1 k hk,(hm k (qah _ hk)).2⟩
   rw[qam];push_cast;lia
 have:=key t 0 h.1 h.2
 lia
theorem qB (p:List Int->Bool) (l:List (List Int)):aZ (l.filter p)=(aZ l).filter p:=
 dc ((aS _).trans ((aS l).symm.filter p)) (bT _) ((bT l).filter p)
def eB (m:Int):Nat->List (List Int)
 |0=>[[]]
 |n+1=>eB m n++((eB m n).filter λt=>decide ((t.length:Int)<m)).map λt=>t++[(n:Int)]
theorem nV (m:Int) (h0:0<=m):∀ n,eB m n=(fD n).filter λt=>decide ((t.length:Int)<=m)
 |0=>by simp[eB,fD,h0]
 |n+1=>by
  rw[eB,fD,qjs,nV m h0 n,List.filter_filter,qev]
  congr 2
  refine qjI λt _=>?_
  rw[qdY]
  simp
  lia
theorem ue (m:Int) (h0:0<=m) (n:Nat):(eB m n).length<=2^n:=by
 rw[nV m h0,<-oX n];exact qdp _ _
def onI (row k:Int):Int:=row / 2^k.toNat%2
def cc (row:Int):List Int->Int
 |[]=>0
 |k::t=>onI row k+cc row t
theorem nw (row k:Int):onI row k=0\/onI row k=1:=by unfold onI;lia
theorem uR (row:Int):∀ t:List Int,(t.map (onI row)).sum=cc row t
 |[]=>rfl
 |k::t=>by rw[qal,qaQ,uR row t];rfl
theorem nu (row:Int):∀ t:List Int,((t.filter λk=>onI row k==1).length:Int)=cc row t
 |[]=>rfl
 |k::t=>by
  rw[qdb]
  have ih:=nu row t
  rcases nw row k with e|e
  ·rw[e];simp only[cc,e];simpa using ih
  ·rw[e];simp only[cc,e,beq_self_eq_true,if_true,qam];push_cast;lia
theorem sE (row:Int):∀ t:List Int,0<=cc row t/\cc row t<=t.length
 |[]=>by simp[cc]
 |k::t=>by
  have ih:=sE row t
  rcases nw row k with e|e<;>(simp only[cc,e,qam];push_cast;lia)
theorem pi:∀ (ls:List (List Int)),oO (ls.map ai)=some ((aZ ls).map ai)
 |[]=>rfl
 |t::r=>by
  have e:ba ((t::r).map ai)=none:=rfl
  unfold oO
  rw[e,kJ];rfl
def zU (u:D):Prop:=u=.non\/u=.int 0\/u=.int 1
def dk:Nat->List D->List Int
 |_,[]=>[]
 |i,.non::r=>dk (i+1) r
 |i,_::r=>(i:Int)::dk (i+1) r
def sgD:D->Int
 |.int v=>if v=1 then 1 else -1
 |_=>1
def sgS (g:Int->Int):Nat->List D->Int
 |_,[]=>0
 |i,.non::r=>sgS g (i+1) r
 |i,d::r=>sgD d*g i+sgS g (i+1) r
theorem vR (g:Int->Int) (fs:List D):∀ (r:List D) (i:Nat),(∀ u∈r,zU u)->fs.drop i=r->((dk i r).map λj=>sgD (fs.getD j.toNat .non)*g j).sum=sgS g i r
 |[],i,_,_=>rfl
 |d::r,i,hv,h=>by
  have hd:fs[i]?=some d:=by
   have:=congrArg (λl=>l[0]?) h
   simpa using this
  have hr:fs.drop (i+1)=r:=by
   have:=congrArg (List.drop 1) h
   simpa [List.drop_drop,qiP] using this
  have ih:=vR g fs r (i+1) (λu hu=>hv u (qah _ hu)) hr
  rcases hv d qak with rfl|rfl|rfl
  ·exact ih
  ·show ((_::dk (i+1) r).map _).sum=sgD (.int 0)*g i+sgS g (i+1) r
   rw[qal,qaQ,ih,qaK,qa1,hd];rfl
  ·show ((_::dk (i+1) r).map _).sum=sgD (.int 1)*g i+sgS g (i+1) r
   rw[qal,qaQ,ih,qaK,qa1,hd];rfl
theorem qV:∀ (r:List D) (i:Nat) {j:Int},j∈dk i r->∃ m:Nat,j=((i+m:Nat):Int)/\m<r.length/\r[m]?≠some .non
 |[],i,j,h=>by cases h
 |d::r,i,j,h=>by
  have up:j∈dk (i+1) r->∃ m:Nat,j=((i+m:Nat):Int)/\m<(d::r).length/\(d::r)[m]?≠some .non:=λh=>by
   obtain⟨m,e,hm,hn⟩:=qV r (i+1) h
   exact⟨m+1,by rw[e];congr 1;lia,by simpa using hm,by simpa using hn⟩
  cases d with
  |non=>exact up h
  |_=>
   rcases qay.mp h with rfl|h
   ·exact⟨0,by simp,by simp,by simp⟩
   ·exact up h
def Cs:D->Bool
 |.tup [_,v]=>!AS v
 |_=>false
def GY:D->D
 |.tup [j,_]=>j
 |d=>d
theorem pK:∀ (r:List D) (i:Nat),((cZ i r).filter Cs).map GY=(dk i r).map D.int
 |[],i=>rfl
 |d::r,i=>by
  have ih:=pK r (i+1)
  have e0:cZ i (d::r)=.tup [.int (i:Int),d]::cZ (i+1) r:=rfl
  rw[e0,qdb]
  cases d<;>first
   |(rw[if_neg (show ¬ Cs (.tup [.int (i:Int),.non])=true from (λh=>by cases h))];exact ih)
   |(rw[if_pos (show Cs (.tup [.int (i:Int),_])=true from rfl),qal,ih];rfl)
theorem rC:∀ (r:List D) (i:Nat),(dk i r).length<=r.length
 |[],i=>qap _
 |d::r,i=>by
  have ih:=rC r (i+1)
  cases d<;>first
   |(show (dk (i+1) r).length<=r.length+1;lia)
   |(show (dk (i+1) r).length+1<=r.length+1;lia)
def kH (b:Bool) (on:Int):Int:=if b=true then on else 1 - 2*on
end L2
namespace L2
open PySem
abbrev Prt:=List Int×Int
def ar (p:Prt):D:=.tup [ai p.1,.int p.2]
def am (kd:Str) (ps:List Prt):D:=.tup [.str kd,.tup (ps.map ar)]
theorem mO {ps:List Prt}{i:Nat}{d:D} (h:(ps.map ar)[i]?=some d):∃ p,ps[i]?=some p/\d=.tup [ai p.1,.int p.2]:=by
 rw[qaZ,qad]at h
 obtain⟨p,hp,rfl⟩:=h
 exact⟨p,hp,rfl⟩
theorem je {te:Ef}{env:Ev}{st:Sto} (F:Prt->D):∀ {ps:List Prt},(∀ p∈ps,∃ e1,fM (.tp [0,1]) (.d (ar p)) env=some e1/\te e1 st=some (.d (F p),st))->lcI (.tp [0,1]) cr te env (ps.map ar) st=some (ps.map F,st)
 |[],_=>rfl
 |p::ps,h=>by
  obtain⟨e1,h1,h2⟩:=h p qak
  have ih:=je (te:=te) (env:=env) (st:=st) F (ps:=ps) λx hx=>h x (qah _ hx)
  rw[qal,qal]
  unfold lcI
  rw[h1,qaf,show cr e1 st=some (true,st) from rfl,qaf,if_pos rfl,h2,qaf,ih];rfl
theorem au {g:Sto->W->W->Option D}{a b:Ef}{env:Ev}{st s1 s2:Sto}{x y:W}{d:D} (ha:a env st=some (x,s1)) (hb:b env s1=some (y,s2)) (hg:g s2 x y=some d):iOp g a b env st=some (.d d,s2):=by
 simp only[iOp,ha,hb,hg,qaf,qaC]
theorem aQ {g:Sto->W->W->Option D}{a b:Ef}{env:Ev}{st s1 s2:Sto}{x y:W}{k:Bool} (ha:a env st=some (x,s1)) (hb:b env s1=some (y,s2)) (hg:g s2 x y=some (.bl k)):bO g a b env st=some (k,s2):=by
 simp only[bO,ha,hb,hg,qaf,sZ,qaC]
theorem ap {a b:Sf}{env e:Ev}{st s:Sto}{r:Fl} (ha:a env st=some (.nx e s)) (hb:b e s=some r):az a b env st=some r:=by
 simp only[az,ha,hb,qaf]
theorem iI {a b:Sf}{env:Ev}{st s:Sto}{w:W} (ha:a env st=some (.rt w s)):az a b env st=some (.rt w s):=by
 simp only[az,ha,qaf]
theorem aR {i:Nat}{f:Ef}{env:Ev}{st s:Sto}{w:W} (h:f env st=some (w,s)):bf (.nm i) f env st=some (.nx (env.set i (some w)) s):=by
 simp only[bf,h,qaf,fM,qaC]
theorem aq {m:Fn}{a:Af}{env:Ev}{st s:Sto}{ws:List W}{r:W×Sto} (ha:a env st=some (ws,s)) (hm:m ws s=some r):ax m a env st=some r:=by
 simp only[ax,ha,hm,qaf]
theorem bo {g:Sto->List W->Option D}{a:Af}{env:Ev}{st s:Sto}{ws:List W}{d:D} (ha:a env st=some (ws,s)) (hm:g s ws=some d):iCB g a env st=some (.d d,s):=by
 simp only[iCB,ha,hm,qaf,qaC]
theorem ag {a:Ef}{b:Af}{env:Ev}{st s1 s2:Sto}{x:W}{y:List W} (ha:a env st=some (x,s1)) (hb:b env s1=some (y,s2)):ab a b env st=some (x::y,s2):=by
 simp only[ab,ha,hb,qaf,qaC]
theorem dg {fi:Lf}{g:Tg}{b:Sf}{env:Ev}{st s:Sto}{ds:List D}{r:Fl} (h:fi env st=some (ds,s)) (hf:lG g b ds env s=some r):gB fi g b env st=some r:=by
 simp only[gB,h,hf,qaf]
theorem aF {f:Ef}{env:Ev}{st s:Sto}{w:W} (h:f env st=some (w,s)):bG f env st=some (.rt w s):=by
 simp only[bG,h,qaC]
theorem nr {c:Tf}{a b:Sf}{env:Ev}{st s:Sto}{r:Option Fl} (h:c env st=some (true,s)) (ha:a env s=r):gE c a b env st=r:=by
 simp only[gE,h,qaf,if_true,ha]
theorem fF {c:Tf}{a b:Sf}{env:Ev}{st s:Sto}{r:Option Fl} (h:c env st=some (false,s)) (hb:b env s=r):gE c a b env st=r:=by
 simp only[gE,h,qaf,qaq,if_false,hb]
theorem bW {k:Nat}{js:List Nat}{fi:Lf}{g:Tg}{tt:Tf}{te:Ef}{env:Ev}{st s s2:Sto}{ds ys:List D} (h:fi env st=some (ds,s)) (hl:ds.length<=1000000) (hc:lcI g tt te (nQ k js env) ds s=some (ys,s2)):iLc k js fi g tt te env st=some (ys,s2):=by
 simp only[iLc,h,hc,hl,qaf,if_true]
theorem aE {a:Lf}{env:Ev}{st s:Sto}{ds:List D} (h:a env st=some (ds,s)):aM a env st=some (.d (.lst ds),s):=by
 simp only[aM,h,qaC]
theorem aD {n k:Nat}{b:Sf}{ws:List W}{st s:Sto}{w:W} (hl:ws.length=k) (h:b (ws.map some++qaV (n - k) none) st=some (.rt w s)):cM n k b ws st=some (w,s):=by
 simp only[cM,hl,if_true,h,qaf]
theorem ix {n k:Nat}{b:Sf}{ws:List W}{st s:Sto}{x:D} (hl:ws.length=k) (h:b (ws.map some++qaV (n - k) none) st=some (.rt (.d x) s)):ox n k b ws st=some (.d x,s.take st.length):=by
 simp only[ox,hl,if_true,h,qaf,Dx]
structure Spo where
 xs:List Int
 s:Int
 c:Int
def spo (p:Spo) (rest:Sto):Sto:=.l (p.xs.map D.int)::.n [.h 0,.d (.int p.s),.d (.int p.c)]::rest
def okP (p:Spo) (Z:Int):Prop:=(∀ x∈p.xs,0<=x)/\p.xs.length<=63/\0<=p.c/\p.c<=Z
theorem okP.mono {p:Spo}{Z Z':Int} (h:okP p Z) (hz:Z<=Z'):okP p Z':=⟨h.1,h.2.1,h.2.2.1,qiU h.2.2.2 hz⟩
theorem DB (p:Spo) (rest:Sto):(spo p rest).length=rest.length+2:=rfl
theorem u9 (p:Spo) (rest:Sto):(spo p rest)[0]?=some (.l (p.xs.map D.int)):=rfl
theorem uG (p:Spo) (rest:Sto):(spo p rest)[1]?=some (.n [.h 0,.d (.int p.s),.d (.int p.c)]):=rfl
theorem t4 (p:Spo) (rest:Sto) (ys:List Int):(spo p rest).set 0 (.l (ys.map D.int))=spo { p with xs:=ys } rest:=rfl
theorem z6 (p:Spo) (rest:Sto) (a b:Int):(spo p rest).set 1 (.n [.h 0,.d (.int a),.d (.int b)])=spo { p with s:=a,c:=b } rest:=rfl
theorem Aq (p:Spo) (rest u:Sto):(spo p (rest++u)).take (rest.length+2)=spo p rest:=by
 unfold spo
 rw[qi5,qi5,List.take_left]
theorem Gf (p:Spo) (rest:Sto) (c:C):(spo p (rest++[c]))[rest.length+2]?=some c:=by
 unfold spo
 simp
theorem BF (p:Spo) (rest:Sto) (ds:List D):lg (spo p (rest++[.l ds])) (rest.length+2)=some ds:=by
 unfold lg;rw[Gf]
theorem C4 (p:Spo) (rest:Sto) (c c':C):(spo p (rest++[c])).set (rest.length+2) c'=spo p (rest++[c']):=by
 unfold spo
 simp
end L2
section
set_option maxHeartbeats 1000000
namespace Own
open PySem L2
theorem Hc:qC 10 18:=p18
theorem D9 {many:Int}:∀ (xs:List Int) (p:Spo) (rest:Sto) (f:Nat),p.xs=xs->xs.length<f->(∀ x∈xs,0<=x)->
  ∃ ys:List Int,ys.length<=xs.length/\(∀ x∈ys,0<=x)/\(∀ x l,ys=x::l->x≠0)/\
   ∀ rest:Sto,di cW im f [some (.h 1),some (.d (.int many)),none,none,none] (spo p rest)=some (.nx [some (.h 1),some (.d (.int many)),none,none,none] (spo { p with xs:=ys } rest))
 |[],p,_,f+1,h,_,_=>by
  refine⟨[],qap _,(λx hx=>nomatch hx),(λx l e=>nomatch e),λrest=>?_⟩
  obtain⟨pxs,ps,pc⟩:=p
  dsimp only at h;subst h
  unfold di
  simp only[cW,iV,iC,iOp,bO,qU,ak,fP,aM,mT,sZ,jg,dIx,dEq,dNe,kz,eqK,fA,qaf,qaC,qa6,qc2,qbx,if_true,if_false,qaq,qbr,wk,qfn,and_self,iG,lg,qaW,u9,uG,qc2,qbr]
 |x::xs,p,rest0,f+1,h,hf,h0=>by
  obtain⟨pxs,ps,pc⟩:=p
  dsimp only at h;subst h
  by_cases hx:x=0
  ·subst hx
   obtain⟨ys,a1,a2,a3,a4⟩:=D9 (many:=many) xs ⟨xs,ps,pc⟩ rest0 f rfl (by simp at hf;lia) λy hy=>h0 y (qah _ hy)
   refine⟨ys,by simp;lia,a2,a3,λrest=>?_⟩
   have a5:=a4 rest
   unfold di
   have e:=t4 ⟨0::xs,ps,pc⟩ rest xs
   simp only[cW,im,iV,iC,iOp,bO,qU,ak,ab,fP,aM,jh,gL,mT,sZ,jg,dIx,dEq,dNe,kz,eqK,eqD,fA,cy,qaf,qaC,qa6,qal,qam,qbx,if_true,if_false,qeh,wk,Hj,List.getElem?_cons_zero,qbQ,qfn,and_self,iG,B4,lg,qaW,qgf,u9,uG,show ((0:Int)==0)=true from rfl,List.eraseIdx_cons_zero,show ((-(2^62):Int)<=0) by decide,show ((0:Int)<2^62) by decide,e]
   exact a5
  ·refine⟨x::xs,qap _,h0,λy l e=>by cases e;exact hx,λrest=>?_⟩
   unfold di
   have hb:(x==0)=false:=by rw[beq_eq_false_iff_ne];exact hx
   simp only[cW,iV,iC,iOp,bO,qU,ak,fP,aM,mT,sZ,jg,dIx,dEq,dNe,kz,eqK,eqD,fA,qaf,qaC,qa6,qal,qam,qbx,if_true,if_false,qaq,qeh,wk,qbQ,qfn,iG,lg,qaW,qgf,u9,uG,hb]
theorem dw {p:Spo}{m Z:Int} (h:okP p Z) (hZ:Z<1000000000) (m0:0<m) (m1:m<1073741824):∃ r p',0<=r/\r<m/\okP p' (Z+1)/\∀ rest,ay [.h 1,.d (.int m)] (spo p rest)=some (.d (.int r),spo p' rest):=by
 obtain⟨h0,h63,c0,c1⟩:=h
 obtain⟨ys,y1,y2,y3,y4⟩:=D9 (many:=m) p.xs p [] 1000000000000000000000000000000 rfl (by lia) h0
 obtain⟨pxs,ps,pc⟩:=p
 dsimp only at h0 h63 c0 c1 y1 y4
 cases ys with
 |cons x l=>
  refine⟨x%m,⟨x / m::l,ps,pc⟩,qhE _ (by lia),qgy _ m0,⟨λz hz=>?_,by simp at y1 ⊢;lia,c0,by dsimp only;lia⟩,λrest=>?_⟩
  ·rcases qay.mp hz with hz|hz
   ·subst hz;exact qkh (y2 x qak) (by lia)
   ·exact y2 z (qah _ hz)
  ·have e:=t4 ⟨x::l,ps,pc⟩ rest (x / m::l)
   have y5:=y4 rest
   simp only[qal]at e
   simp only[ay,fq,p9,iV,iC,iOp,bO,ak,fP,aM,fg,az,bf,vW,pV,bG,gE,cM,fM,mT,sZ,jg,lsD,dIx,fm,ge,kr,kc,dNe,kz,eqK,fA,qaf,qaC,qa6,qbn,qdT,qdU,qal,qc2,qam,qbx,qbY,qfV,qbS,qcX,qiq,qip,if_true,if_false,qeh,wk,Hj,qbt,qbQ,qfn,and_self,iG,lv,lg,qaW,qgf,qiu,y5,u9,uG,m0,m1,e]
 |nil=>
  obtain⟨u,hu⟩:∃ u,(ps+104729*(pc+1))*48271%2305843009213693951=u:=⟨_,rfl⟩
  have u0:0<=u:=by rw[<-hu];exact qhE _ (by decide)
  have u1:u<2305843009213693951:=by rw[<-hu];exact qgy _ (by decide)
  have k1:∀ q,qbU 104729 q:=λq=>lh (by decide)
  have k2:∀ q,qbU q 48271:=λq=>fJ (by decide)
  have k3:qbU (pc+1) (pc+1):=fJ ⟨by lia,by lia⟩
  have k4:∀ q,qbU u q:=λq=>lh ⟨by lia,by lia⟩
  refine⟨u*(u / 1000003+(pc+1)*(pc+1)+7)%2305843009213693921 / 8191%m,⟨[],ps,pc+1⟩,qhE _ (by lia),qgy _ m0,⟨λz hz=>(nomatch hz),by simp,by dsimp only;lia,by dsimp only;lia⟩,λrest=>?_⟩
  have y5:=y4 rest
  have e:=z6 ⟨[],ps,pc⟩ rest ps (pc+1)
  simp only[ay,fq,p9,iV,iC,iOp,bO,ak,fP,aM,fg,az,bf,vW,pV,bG,gE,cM,fM,mT,sZ,jg,lsD,dIx,fm,ge,kr,kc,dNe,kz,eqK,fA,qaf,qaC,qa6,qbn,qdT,qdU,qal,qc2,qam,qbx,qbY,qfV,qbS,qcX,qiq,qip,if_true,if_false,qaq,qbr,wk,Ex,HW,HV,qbt,qfn,and_self,iG,lv,lg,qaW,qiu,y5,u9,uG,m0,e,k1,k2,k3,k4,hu,show (0:Int)<2305843009213693921 by decide,show (0:Int)<2305843009213693951 by decide,show (0:Int)<1000003 by decide,show (1000003:Int)<1073741824 by decide,show (0:Int)<8191 by decide,show (8191:Int)<1073741824 by decide]
theorem zN (ns:List Int) (hn:ns.length<=63):∃ p,okP p 0/\fK [.d (.scr ns)] []=some (.h 1,spo p []):=by
 have ec:p8 (ns.map D.int) none (some 63)=ns.map D.int:=by
  unfold p8
  have e1:HT.sIx (ns.map D.int).length 0 none=0:=rfl
  have e2:HT.sIx (ns.map D.int).length (ns.map D.int).length (some 63)=(ns.map D.int).length:=by
   unfold HT.sIx;simp;lia
  rw[e1,e2,qeI,qgV,qbv]
 have k1:∀ q,qbU q 1000003:=λq=>fJ (by decide)
 have hF:∀ (l:List Int) (sd:Int) (last:Option W) ,∃ sd' last',lG (.nm 2) gz (l.map D.int) [some (.d (.scr ns)),some (.d (.int sd)),last] []=some (.nx [some (.d (.scr ns)),some (.d (.int sd')),last'] []):=by
  intro l
  induction l with
  |nil=>exact λsd last=>⟨sd,last,rfl⟩
  |cons x l ih=>
   intro sd last
   obtain⟨a,b,e⟩:=ih ((sd*1000003+x)%2305843009213693951) (some (.d (.int x)))
   refine⟨a,b,?_⟩
   rw[qal]
   unfold lG
   simp only[gz,iV,iC,iOp,bf,fM,lsD,fm,ge,kc,qaf,qaC,qa6,qbn,qdT,qdU,if_true,lg,qiu,k1,show (0:Int)<2305843009213693951 by decide]
   exact e
 have hL:lcI (.nm 0) dY dR [none] (ns.map D.int) []=some (((ns.filter λx=>decide (x.natAbs>=10^18)).map λx:Int=>(x.natAbs:Int)).map D.int,[]):=by
  have:=d8 (g:=.nm 0) (tt:=dY) (te:=dR) (env:=[none]) (st:=[]) (λd=>match d with|.int x=>decide (x.natAbs>=10^18)|_=>false) (λd=>match d with|.int x=>.int (x.natAbs:Int)|d=>d) (ds:=ns.map D.int) λd hd=>by
   obtain⟨x,_,rfl⟩:=qaz.mp hd
   have ea:(if x<0 then -x else x)=(x.natAbs:Int):=by split<;>lia
   refine⟨[some (.d (.int x))],rfl,?_,λ_=>?_⟩
   ·have eb:decide ((x.natAbs:Int)>=10^qiT 18)=decide (x.natAbs>=10^18):=by
     rw[show qiT 18=18 from rfl]
     rw[qdY];simp;lia
    simp only[dY,iV,iC,iOp,bO,ak,ab,iCB,sZ,zL,dGe,BX,qaf,qaC,qa6,if_true,ea,Hc,eb]
   ·simp only[dR,iV,ak,ab,iCB,BX,qaf,qaC,qa6,ea]
  rw[this]
  rw[qev,qaJ,qaJ]
  rfl
 obtain⟨sd',last',e1⟩:=hF ns ((ns.length:Int)+11) none
 refine⟨⟨(ns.filter λx=>decide (x.natAbs>=10^18)).map λx:Int=>(x.natAbs:Int),sd',0⟩,⟨λx hx=>?_,?_,qjv 0,qjv 0⟩,?_⟩
 ·obtain⟨y,_,rfl⟩:=qaz.mp hx;lia
 ·rw[qag];exact qaL (qdp _ _) hn
 ·have hlen:ns.length<=1000000:=by lia
  simp only[fK,fI,iV,iC,iOp,ak,ab,iCB,pj,az,bf,bG,gB,iLc,aH,iSl,iPn,iPs,cM,fM,Eh,nQ,jg,lsD,fm,eA,dSl,qaf,qaC,qa6,qbn,qdT,qdU,qal,qc2,qam,qbx,qbY,qfV,qbS,qcX,qiq,qip,if_true,qbt,xT,lg,ec,qag,e1,hlen,hL,show (3:Nat)<=1000 by decide]
  rfl
end Own
end
section
set_option maxHeartbeats 1000000
namespace Own
open PySem L2
theorem ci {a:Af}{env:Ev}{st s:Sto}{ws:List W}{ds:List D} (h:a env st=some (ws,s)) (hd:mT ws=some ds) (hl:ds.length<=1000:=by decide):cn a env st=some (.d (.tup ds),s):=by
 simp only[cn,h,hd,hl,qaf,if_true]
theorem mo {a:Af}{env:Ev}{st s:Sto}{ws:List W}{ds:List D} (h:a env st=some (ws,s)) (hd:mT ws=some ds) (hl:ds.length<=1000:=by decide):fP a env st=some (ds,s):=by
 simp only[fP,h,hd,hl,qaf,if_true]
theorem fk {f:Ef}{env:Ev}{st s:Sto}{ds:List D} (h:f env st=some (.d (.tup ds),s)):aH f env st=some (ds,s):=by
 simp only[aH,h,qaf]
theorem ip {e:Ef}{z:Int}{m:Nat}{env:Ev}{st s:Sto} (he:e env st=some (.d (.int z),s)) (h0:0<=z) (h1:z<=1000) (hm:z.toNat=m):dG (ab e ak) env st=some (gk 0 m,s):=by
 have hb:-(2^62)<=z/\z<2^62:=⟨qiU (by decide) h0,Int.lt_of_le_of_lt h1 (by decide)⟩
 have h2:=ag (b:=ak) he rfl
 simp only[dG,h2,qaf,hb,and_self,if_true,hm]
theorem gh {f:Ef}{env:Ev}{st s:Sto}{ds:List D} (h:f env st=some (.d (.lst ds),s)):aH f env st=some (ds,s):=by
 simp only[aH,h,qaf]
theorem dP {f:Ef}{env:Ev}{st s:Sto}{ds:List D} (h:f env st=some (.d (.tup ds),s)):aH f env st=some (ds,s):=by
 simp only[aH,h,qaf]
theorem sS {c:Tf}{a b:Ef}{env:Ev}{st s:Sto}{r:Option (W×Sto)} (h:c env st=some (true,s)) (ha:a env s=r):qK c a b env st=r:=by
 simp only[qK,h,qaf,if_true,ha]
theorem tF {c:Tf}{a b:Ef}{env:Ev}{st s:Sto}{r:Option (W×Sto)} (h:c env st=some (false,s)) (hb:b env s=r):qK c a b env st=r:=by
 simp only[qK,h,qaf,qaq,if_false,hb]
theorem Aw (s:Sto) (ns:List Int):oD s [.d (.lst (ns.map D.int))]=some (.int ns.sum):=by
 show (ba (ns.map D.int)).map (λns=>D.int ns.sum)=_
 rw[bH];rfl
theorem GJ (s:Sto) {a b:Int} (h:0<=b):wm s (.d (.int a)) (.d (.int b))=some (.int (a / 2^b.toNat)):=if_pos h
theorem lS (s:Sto) (a b:Int):dEq s (.d (.int a)) (.d (.int b))=some (.bl (a==b)):=by
 show ((eqK (.fl (.int a)) (.fl (.int b))).map λk=>D.bl k)=_
 rfl
theorem ye (s:Sto) (a b:Str):dEq s (.d (.str a)) (.d (.str b))=some (.bl (a==b)):=by
 show ((eqK (.fl (.str a)) (.fl (.str b))).map λk=>D.bl k)=_
 rfl
theorem Ek (s:Sto) {a b:List D} (h:a.length+b.length<=1000000):fm s (.d (.lst a)) (.d (.lst b))=some (.lst (a++b)):=if_pos h
theorem BO (s:Sto) {a b:List D} (h:a.length+b.length<=1000000):fm s (.d (.tup a)) (.d (.tup b))=some (.tup (a++b)):=if_pos h
theorem rQ (s:Sto) {a b:Int} (h:qbU a b):ge s (.d (.int a)) (.d (.int b))=some (.int (a*b)):=if_pos h
theorem rO (s:Sto) {a b:Int} (h:0<b):kc s (.d (.int a)) (.d (.int b))=some (.int (a%b)):=if_pos h
theorem Hu (s:Sto) {a b:Int}{k:Bool} (h:decide (a > b)=k):dGt s (.d (.int a)) (.d (.int b))=some (.bl k):=by rw[<-h];rfl
theorem HM (s:Sto) {a b:Int}{k:Bool} (h:decide (a<=b)=k):dLe s (.d (.int a)) (.d (.int b))=some (.bl k):=by rw[<-h];rfl
theorem AB (s:Sto) {a b:Int} (h:0<b/\b<1073741824):kr s (.d (.int a)) (.d (.int b))=some (.int (a / b)):=if_pos h
theorem Bu {st:Sto}{k:Int} (hk0:0<=k) (hk:k<=60):gC [.d (.int k)] st=some (.d (.int (2^k.toNat)),st):=by
 obtain⟨env',s2,e2,o,rfl,rfl⟩:=bN (g:=.nm 2) (body:=iw) (ds:=gk 0 k.toNat) (λi env s=>∃ o,env=[some (.d (.int k)),some (.d (.int (2^i))),o]/\s=st) (env:=[some (.d (.int k)),some (.d (.int 1)),none]) (st:=st)
  ⟨none,rfl,rfl⟩ (λi d env s hd ⟨o,e,es⟩=>by
   subst e es
   obtain⟨rfl,hi⟩:=gY hd
   have km:qbU (2^i:Int) 2:=fJ (by decide)
   have e1:(2^i:Int)*2=2^(i+1):=by rw[qg3]
   refine⟨_,[some (.d (.int k)),some (.d (.int (2^(i+1)))),some (.d (.int i))],s,rfl,.inl ?_,_,rfl,rfl⟩
   generalize (2^i:Int)=p at km e1
   rw[<-e1]
   exact aR (i:=1) (au rfl rfl (rQ _ km)))
 rw[cQ]at e2
 generalize (2^k.toNat:Int)=q at e2 ⊢
 exact aD (n:=3) (k:=1) (b:=d9) rfl (ap (aR (i:=1) (w:=.d (.int 1)) rfl) (ap (dg (ip rfl hk0 (by lia) rfl) e2) (aF rfl)))
theorem zk {j:Nat} (h:j<=20):(0:Int)<2^j/\(2:Int)^j<1073741824:=by
 have h1:∀ m:Nat,m<=20->2^m<=2^20:=λm hm=>qbA (by decide) hm
 have h2:(2:Nat)^20=1048576:=by decide
 have h3:=h1 j h
 have h4:((2^j:Nat):Int)=(2:Int)^j:=by push_cast;rfl
 have h5:0<2^j:=qef (by decide)
 lia
theorem C0 {st:Sto}{row k:Int} (k0:0<=k) (k1:k<=20):si [.d (.int row),.d (.int k)] st=some (.d (.int (onI row k)),st):=by
 have h:=zk (j:=k.toNat) (by lia)
 have e:=Bu (st:=st) k0 (by lia)
 unfold onI
 generalize (2^k.toNat:Int)=q at h e ⊢
 exact aD (n:=2) (k:=2) (b:=oo) rfl (aF (au (au rfl (aq rfl e) (AB _ ⟨h.1,h.2⟩)) rfl (rO _ (by decide))))
def bb (b:Bool) (t:List Int) (row:Int):Int:=if b=true then (if cc row t=(t.length:Int) then 1 else 0) else (if cc row t%2=1 then -1 else 1)
def aC (b:Bool):Str:=if b=true then "both" else "odd"
theorem mt (b:Bool):(aC b==("both" : Str))=b:=by cases b<;>decide
theorem Bv {st:Sto}{b:Bool}{t:List Int}{row:Int} (ht:∀ k∈t,0<=k/\k<=20) (hl:t.length<=1000):kC [.d (.str (aC b)),.d (ai t),.d (.int row)] st=some (.d (.int (bb b t row)),st):=by
 have key:lcI (.nm 0) cr fY [none,some (.d (.int row))] (t.map D.int) st=some ((t.map D.int).map λd=>match d with|.int k=>.int (onI row k)|d=>d,st):=jZ _ λd hd=>by
  obtain⟨k,hk,rfl⟩:=qaz.mp hd
  exact⟨_,rfl,aq rfl (C0 (st:=st) (row:=row) (ht k hk).1 (ht k hk).2)⟩
 have e1:((t.map D.int).map λd=>match d with|.int k=>.int (onI row k)|d=>d)=(t.map (onI row)).map D.int:=by rw[qaJ,qaJ];rfl
 rw[e1]at key
 have hsm:=Aw st (t.map (onI row))
 rw[uR]at hsm
 have hlm:(t.map D.int).length<=1000000:=by rw[qag];lia
 have hle:eA st [.d (ai t)]=some (.int (t.length:Int)):=by
  show some (D.int (((t.map D.int).length:Nat):Int))=_
  rw[qag]
 have kb:dEq st (.d (.str (aC b))) (.d (.str "both"))=some (.bl b):=by rw[ye,mt]
 have hv:bb b t row=if b=true then (if (cc row t==(t.length:Int))=true then 1 else 0) else (if (cc row t%2==(1:Int))=true then -1 else 1):=by simp only[bb,beq_iff_eq]
 rw[hv]
 have first:∀ (tl:Sf) (r:Option Fl),tl [some (.d (.str (aC b))),some (.d (ai t)),some (.d (.int row)),some (.d (.int (cc row t)))] st=r->az (bf (.nm 3) (iCB oD (ab (aM (iLc 1 [2] (aH (iV 1)) (.nm 0) cr fY)) ak))) tl [some (.d (.str (aC b))),some (.d (ai t)),some (.d (.int row)),none] st=r:=λtl r h=>by
  have q:bf (.nm 3) (iCB oD (ab (aM (iLc 1 [2] (aH (iV 1)) (.nm 0) cr fY)) ak)) [some (.d (.str (aC b))),some (.d (ai t)),some (.d (.int row)),none] st=some (.nx [some (.d (.str (aC b))),some (.d (ai t)),some (.d (.int row)),some (.d (.int (cc row t)))] st):=aR (i:=3) (bo (ag (aE (bW (dP rfl) hlm key)) rfl) hsm)
  simp only[az,q,qaf,h]
 generalize aC b=kd at *
 generalize ai t=tt at *
 cases b with
 |true=>
  cases hq:(cc row t==(t.length:Int)) with
  |true=>exact aD (n:=4) (k:=3) (b:=dD) rfl (first _ _ (iI (nr (aQ rfl rfl kb) (aF (sS (aQ rfl (bo rfl hle) (by rw[lS,hq])) rfl)))))
  |false=>exact aD (n:=4) (k:=3) (b:=dD) rfl (first _ _ (iI (nr (aQ rfl rfl kb) (aF (tF (aQ rfl (bo rfl hle) (by rw[lS,hq])) rfl)))))
 |false=>
  cases hq:(cc row t%2==(1:Int)) with
  |true=>exact aD (n:=4) (k:=3) (b:=dD) rfl (first _ _ (ap (fF (aQ rfl rfl kb) rfl) (aF (sS (aQ (au rfl rfl (rO _ (by decide))) rfl (by rw[lS,hq])) rfl))))
  |false=>exact aD (n:=4) (k:=3) (b:=dD) rfl (first _ _ (ap (fF (aQ rfl rfl kb) rfl) (aF (tF (aQ (au rfl rfl (rO _ (by decide))) rfl (by rw[lS,hq])) rfl))))
theorem ph (b:Bool) (t:List Int) (row:Int):-1<=bb b t row/\bb b t row<=1:=by
 unfold bb
 split<;>split<;>lia
theorem CN {st:Sto}{fs:List D} (hl:fs.length<=1000):jx [.d (.tup fs)] st=some (.d (.tup ((dk 0 fs).map D.int)),st):=by
 have key:lcI (.tp [0,1]) ku kf [none,none] (cZ 0 fs) st=some (((cZ 0 fs).filter Cs).map GY,st):=d8 _ _ λd hd=>by
  obtain⟨i,hi⟩:=qiA.mp hd
  rw[j5]at hi
  obtain⟨e,he,rfl⟩:=qad.mp hi
  exact⟨_,rfl,aQ rfl rfl rfl,λ_=>rfl⟩
 rw[pK]at key
 have hz:(cZ 0 fs).length<=1000000:=by rw[iu];lia
 exact aD (n:=1) (k:=1) (b:=gP) rfl (aF (bo (ag (aE (bW rfl hz key)) rfl) rfl))
theorem Dy {st:Sto}{fs:List D}{j:Nat}{d:D} (hd:fs[j]?=some d) (hv:zU d) (hn:d≠.non):my [.d (.tup fs),.d (.int (j:Int))] st=some (.d (.int (sgD d)),st):=by
 have e:atI fs (j:Int)=some d:=jS hd
 rcases hv with rfl|rfl|rfl
 ·exact absurd rfl hn
 ·exact aD (n:=2) (k:=2) (b:=ir) rfl (aF (tF (aQ (au rfl rfl (show atI fs (j:Int)=_ from e)) rfl (lS _ _ _)) rfl))
 ·exact aD (n:=2) (k:=2) (b:=ir) rfl (aF (sS (aQ (au rfl rfl (show atI fs (j:Int)=_ from e)) rfl (lS _ _ _)) rfl))
theorem sg1 {d:D}:sgD d=1\/sgD d=-1:=by
 unfold sgD
 split
 ·split
  ·exact .inl rfl
  ·exact .inr rfl
 ·exact .inl rfl
theorem zF {st:Sto}{fs:List D}{j:Nat}{d:D}{b:Bool}{t:List Int} (hd:fs[j]?=some d) (hv:zU d) (hn:d≠.non) (ht:∀ k∈t,0<=k/\k<=20) (hl:t.length<=1000) :
  gA [.d (.tup fs),.d (.str (aC b)),.d (ai t),.d (.int (j:Int))] st=some (.d (.int (sgD d*bb b t j)),st):=by
 have e1:=Dy (st:=st) hd hv hn
 have e2:=Bv (st:=st) (b:=b) (row:=j) ht hl
 have km:qbU (sgD d) (bb b t j):=lh (by rcases sg1 (d:=d) with h|h<;>(rw[h];decide))
 generalize aC b=kd at e2 ⊢
 generalize ai t=tt at e2 ⊢
 exact aD (n:=4) (k:=4) (b:=dU) rfl (aF (au (aq rfl e1) (aq rfl e2) (rQ _ km)))
theorem BS {st:Sto}{fs:List D}{b:Bool}{t:List Int} (hf:fs.length<=1000) (hv:∀ u∈fs,zU u) (ht:∀ k∈t,0<=k/\k<=20) (hl:t.length<=1000) :
  lx [.d (.tup fs),.d (.str (aC b)),.d (ai t)] st=some (.d (.int (sgS (bb b t) 0 fs)),st):=by
 have key:lcI (.nm 0) cr oG [none,some (.d (.tup fs)),some (.d (.str (aC b))),some (.d (ai t))] ((dk 0 fs).map D.int) st =
   some (((dk 0 fs).map D.int).map λd=>match d with|.int j=>.int (sgD (fs.getD j.toNat .non)*bb b t j)|d=>d,st):=jZ _ λd hd=>by
  obtain⟨j,hj,rfl⟩:=qaz.mp hd
  obtain⟨m,rfl,hm,hn⟩:=qV fs 0 hj
  rw[qbt]
  have he:=qaE hm
  have e:=zF (st:=st) (b:=b) he (hv _ (qda hm)) (λq=>hn (by rw[he,q])) ht hl
  have eg:fs.getD m .non=fs[m]:=by rw[qa1,he];rfl
  refine⟨_,rfl,?_⟩
  show _=some (W.d (D.int (sgD (fs.getD ((m:Int)).toNat .non)*bb b t m)),st)
  rw[qaK,eg]
  generalize aC b=kd at e ⊢
  generalize ai t=tt at e ⊢
  exact aq rfl e
 have e1:(((dk 0 fs).map D.int).map λd=>match d with|.int j=>.int (sgD (fs.getD j.toNat .non)*bb b t j)|d=>d)=((dk 0 fs).map λj=>sgD (fs.getD j.toNat .non)*bb b t j).map D.int:=by rw[qaJ,qaJ];rfl
 rw[e1]at key
 have hs:ba (((dk 0 fs).map λj=>sgD (fs.getD j.toNat .non)*bb b t j).map D.int)=some ((dk 0 fs).map λj=>sgD (fs.getD j.toNat .non)*bb b t j):=bH _
 have hsum:=vR (bb b t) fs fs 0 hv rfl
 have hz:((dk 0 fs).map D.int).length<=1000000:=by rw[qag];have:=rC fs 0;lia
 have e2:=CN (st:=st) hf
 generalize aC b=kd at key ⊢
 generalize ai t=tt at key ⊢
 generalize ((dk 0 fs).map λj=>sgD (fs.getD j.toNat .non)*bb b t j)=L at key hs hsum
 generalize (dk 0 fs).map D.int=R at key hz e2
 have hsm:=Aw st L
 rw[hsum]at hsm
 exact aD (n:=3) (k:=3) (b:=lB) rfl (aF (bo (ag (aE (bW (dP (aq rfl e2)) hz key)) rfl) hsm))
theorem ix0 (s:Sto) (a:D) (l:List D):dIx s (.d (.tup (a::l))) (.d (.int 0))=some a:=by simp only[dIx,jg,qaf,wk]
theorem ix1 (s:Sto) (a b:D) (l:List D):dIx s (.d (.tup (a::b::l))) (.d (.int 1))=some b:=by simp only[dIx,jg,qaf,Ex]
theorem wC {f:Ef}{env:Ev}{st s:Sto}{k:Bool} (h:f env st=some (.d (.bl k),s)):mB mW f env st=some (k,s):=by
 simp only[mB,h,qaf,mW,qaC]
theorem rc {f:Tf}{env:Ev}{st s:Sto}{k:Bool} (h:f env st=some (k,s)):i4 f env st=some (!k,s):=by
 simp only[i4,h,qaC]
theorem pE {a b:Tf}{env:Ev}{st s s':Sto}{k:Bool} (ha:a env st=some (false,s)) (hb:b env s=some (k,s')):pv a b env st=some (k,s'):=by
 simp only[pv,ha,hb,qaf,qaq,if_false]
theorem wS (s:Sto) (a b:Str):dEq s (.d (.str a)) (.d (.str b))=some (.bl (a==b)):=ye s a b
theorem v0 (s:Sto) (a b:Int):dEq s (.d (.int a)) (.d (.int b))=some (.bl (a==b)):=lS s a b
theorem wx (s:Sto) (a b:Int):dNe s (.d (.int a)) (.d (.int b))=some (.bl (!(a==b))):=by
 show ((eqK (.fl (.int a)) (.fl (.int b))).map λk=>D.bl (!k))=_
 rfl
theorem As {n:Int} (n0:0<=n) (n1:n<=6):∃ q:Int,(∀ s,xc s (.d (.int 1)) (.d (.int n))=some (.int q))/\q.toNat=2^n.toNat/\(-(2^62)<=q/\q<2^62)/\2^n.toNat<=64:=by
 have h:n=0\/n=1\/n=2\/n=3\/n=4\/n=5\/n=6:=by lia
 rcases h with rfl|rfl|rfl|rfl|rfl|rfl|rfl
 ·exact⟨1,λs=>rfl,by decide,by decide,by decide⟩
 ·exact⟨2,λs=>rfl,by decide,by decide,by decide⟩
 ·exact⟨4,λs=>rfl,by decide,by decide,by decide⟩
 ·exact⟨8,λs=>rfl,by decide,by decide,by decide⟩
 ·exact⟨16,λs=>rfl,by decide,by decide,by decide⟩
 ·exact⟨32,λs=>rfl,by decide,by decide,by decide⟩
 ·exact⟨64,λs=>rfl,by decide,by decide,by decide⟩
def aX (b:Bool) (ps:List Prt) (row:Int):Int:=(ps.map λp=>p.2*bb b p.1 row).sum
def Dd (p:Prt):Prop:=Trm 6 p.1
theorem Eb {n:Nat}{t:List Int} (h:Trm n t) (hn:n<=6):∀ k∈t,0<=k/\k<=20:=λk hk=>⟨(h.2 k hk).1,by have:=(h.2 k hk).2;lia⟩
theorem En {p:Prt} (h:Dd p):∀ k∈p.1,0<=k/\k<=20:=Eb h (qap 6)
theorem HN (b:Bool) (t:List Int) (row c:Int):qbU c (bb b t row):=fJ (by have:=ph b t row;lia)
theorem HH {x:Int} (h:0<=x):qez x 1=x%2:=by
 unfold qez
 have h1:decide (0<=x)=true:=decide_eq_true h
 rw[h1,show decide ((0:Int)<=1)=true from rfl]
 show ((x.toNat&&&(1:Int).toNat:Nat):Int)=_
 rw[show (1:Int).toNat=1 from rfl,Nat.and_one_is_mod];lia
theorem FO {row k:Int} (h:0<=row):qez (row / 2^k.toNat) 1=onI row k:=HH (qkh h (qlR (qmb (by decide))))
theorem Hl {st:Sto}{row k:Int} (r0:0<=row) (k0:0<=k):bO dEq (iOp zG (iOp wm (iV 1) (iV 0)) (iC (.int 1))) (iC (.int 1)) [some (.d (.int k)),some (.d (.int row))] st=some (onI row k==1,st):=
 aQ (x:=.d (.int (onI row k))) (au (au rfl rfl (GJ _ k0)) rfl (by rw[<-FO r0];rfl)) rfl (lS _ _ _)
theorem A9 {tt:Tf}{te:Ef}{st:Sto}{row:Int} (r0:0<=row) (ht:tt=bO dEq (iOp zG (iOp wm (iV 1) (iV 0)) (iC (.int 1))) (iC (.int 1))) (he:te=iV 0) {t:List Int} (h0:∀ k∈t,0<=k) :
  lcI (.nm 0) tt te [none,some (.d (.int row))] (t.map D.int) st=some ((t.filter λk=>onI row k==1).map D.int,st):=by
 subst ht;subst he
 have:=d8 (g:=.nm 0) (tt:=bO dEq (iOp zG (iOp wm (iV 1) (iV 0)) (iC (.int 1))) (iC (.int 1))) (te:=iV 0) (env:=[none,some (.d (.int row))]) (st:=st) (λd=>match d with|.int k=>onI row k==1|_=>false) id (ds:=t.map D.int) λd hd=>by
  obtain⟨k,hk,rfl⟩:=qaz.mp hd
  exact⟨_,rfl,Hl r0 (h0 k hk),λ_=>rfl⟩
 rw[this,qev,qaJ]
 rfl
theorem wb {st:Sto}{b:Bool}{t:List Int}{row:Int} (r0:0<=row) (h0:∀ k∈t,0<=k) (hl:t.length<=1000):jf [.d (.str (aC b)),.d (ai t),.d (.int row)] st=some (.d (.int (bb b t row)),st):=by
 have key:=A9 (tt:=hW) (te:=ig) (st:=st) r0 rfl rfl h0
 have hz:(t.map D.int).length<=1000000:=by rw[qag];lia
 have hln:eA st [.d (.lst ((t.filter λk=>onI row k==1).map D.int))]=some (.int (cc row t)):=by
  show some (D.int (((t.filter λk=>onI row k==1).map D.int).length:Nat))=_
  rw[qag,nu]
 have hln2:eA st [.d (ai t)]=some (.int (t.length:Int)):=by
  show some (D.int ((t.map D.int).length:Nat))=_
  rw[qag]
 have kb:=mt b
 generalize (t.filter λk=>onI row k==1).map D.int=L at key hln
 have s1:bf (.nm 3) (iCB eA (ab (aM (iLc 1 [2] (aH (iV 1)) (.nm 0) hW ig)) ak)) [some (.d (.str (aC b))),some (.d (ai t)),some (.d (.int row)),none] st=some (.nx [some (.d (.str (aC b))),some (.d (ai t)),some (.d (.int row)),some (.d (.int (cc row t)))] st):=
  aR (bo (ag (aE (bW (dP rfl) hz key)) rfl) hln)
 refine aD (n:=4) (k:=3) (b:=gU) rfl (ap s1 (aF ?_))
 cases b with
 |true=>
  refine sS (aQ (x:=.d (.str (aC true))) rfl rfl (by rw[ye,kb])) (bo (ag (au rfl (bo (ag rfl rfl) hln2) (lS _ _ _)) rfl) ?_)
  show some (D.int (if (cc row t==(t.length:Int))=true then 1 else 0))=_
  simp only[bb,if_true,beq_iff_eq]
 |false=>
  refine tF (aQ (x:=.d (.str (aC false))) rfl rfl (by rw[ye,kb])) (au (x:=.d (.int 1)) (y:=.d (.int (2*(cc row t%2)))) rfl (au rfl (au rfl rfl (rO _ (by decide))) (rQ _ (lh (by decide)))) ?_)
  show some (D.int (1 - 2*(cc row t%2)))=_
  simp only[bb,qaq,if_false]
  congr 2
  split<;>lia
theorem nc {st:Sto}{b:Bool}{ps:List Prt}{row:Int} (r0:0<=row) (hp:∀ p∈ps,Dd p) (hl:ps.length<=1000):cm [.d (am (aC b) ps),.d (.int row)] st=some (.d (.int (aX b ps row)),st):=by
 have key:lcI (.tp [0,1]) cr jF [none,none,some (.d (am (aC b) ps)),some (.d (.int row))] (ps.map ar) st=some (ps.map λp=>.int (p.2*bb b p.1 row),st):=je _ λp hm=>by
  refine⟨_,rfl,?_⟩
  have e:=wb (st:=st) (b:=b) r0 (λk hk=>(En (hp p hm) k hk).1) (qaL (iS (hp p hm)) (by decide))
  have km:=HN b p.1 row p.2
  unfold am
  generalize ps.map ar=PP
  generalize aC b=kd at e ⊢
  generalize ai p.1=tt at e ⊢
  exact au rfl (aq (ag (au rfl rfl (show atI [D.str kd,.tup PP] 0=_ from wk _ _)) (ag rfl (ag rfl rfl))) e) (rQ _ km)
 have hs:ba (ps.map λp=>.int (p.2*bb b p.1 row))=some (ps.map λp=>p.2*bb b p.1 row):=by
  have:=bH (ps.map λp=>p.2*bb b p.1 row)
  rw[qaJ]at this;exact this
 have hz:(ps.map ar).length<=1000000:=by rw[qag];lia
 unfold aX
 generalize ps.map (λp=>p.2*bb b p.1 row)=L at hs ⊢
 generalize (ps.map λp=>D.int (p.2*bb b p.1 row))=LD at key hs
 unfold am at key ⊢
 generalize ps.map ar=PP at key hz ⊢
 generalize aC b=kd at key ⊢
 have hsm:oD st [.d (.lst LD)]=some (.int L.sum):=by
  show (ba LD).map (λns=>D.int ns.sum)=_
  rw[hs];rfl
 exact aD (n:=2) (k:=2) (b:=fX) rfl (aF (bo (ag (aE (bW (dP (au rfl rfl (show atI [D.str kd,.tup PP] 1=_ from Ex _ _ _))) hz key)) rfl) hsm))
def bt (n a:Nat):List Int:=((qaN n).map λk:Nat=>(k:Int)).filter λk=>onI (a:Int) k==1
theorem Ga:((qaN 7).all λn=>aZ ((qaN (2^n)).map (bt n))==cG n)=true:=by decide +kernel
theorem Fe {n:Nat} (hn:n<=6):aZ ((qaN (2^n)).map (bt n))=cG n:=eq_of_beq (qaT.mp Ga n (qbz.mpr (by lia)))
theorem xC (n:Nat):gk 0 n=((qaN n).map λk:Nat=>(k:Int)).map D.int:=by
 unfold gk
 rw[qaJ]
 exact qaP λk _=>by show D.int (0+(k:Int))=D.int k;rw[qcR]
theorem Gq {n a:Nat}:(bt n a).length<=n:=by
 unfold bt
 refine qaL (qdp _ _) ?_
 rw[qag,qcy];exact qap _
theorem uk {st:Sto}{n:Nat} (hn:n<=6):dW [.d (.int n),.d (.int n)] st=some (.d (.lst ((cG n).map ai)),st):=by
 obtain⟨q,hq,q1,_,q2⟩:=As (n:=(n:Int)) (by lia) (by lia)
 rw[qaK]at q1 q2
 have hq0:0<=q:=by have:0<2^n:=qef (by decide);lia
 have k1:lcI (.nm 0) cr gv [none,some (.d (.int n))] (gk 0 (2^n)) st=some (((qaN (2^n)).map (bt n)).map ai,st):=by
  have:=jZ (g:=.nm 0) (te:=gv) (env:=[none,some (.d (.int n))]) (st:=st) (λd=>match d with|.int a=>ai (bt n a.toNat)|d=>d) (ds:=gk 0 (2^n)) λd hd=>by
   obtain⟨i,hi⟩:=qiR hd
   obtain⟨rfl,_⟩:=gY hi
   refine⟨_,rfl,?_⟩
   have kk:=A9 (tt:=jD) (te:=jG) (st:=st) (row:=(i:Int)) (by lia) rfl rfl (t:=(qaN n).map λk:Nat=>(k:Int)) (λk hk=>by
    obtain⟨j,_,rfl⟩:=qaz.mp hk;lia)
   rw[<-xC]at kk
   exact bo (ag (aE (bW (ip rfl (by lia) (by lia) (qaK n)) (by rw[cQ];lia) kk)) rfl) rfl
  rw[this,xC,qaJ,qaJ,qaJ]
  rfl
 have hlen:(((qaN (2^n)).map (bt n)).map ai).length<=64:=by rw[qag,qag,qcy];exact q2
 have k2:lcI (.nm 0) dZ dS [none,some (.d (.int n))] (((qaN (2^n)).map (bt n)).map ai) st=some (((qaN (2^n)).map (bt n)).map ai,st):=by
  have:=d8 (g:=.nm 0) (tt:=dZ) (te:=dS) (env:=[none,some (.d (.int n))]) (st:=st) (λ_=>true) id (ds:=((qaN (2^n)).map (bt n)).map ai) λd hd=>by
   obtain⟨t,ht,rfl⟩:=qaz.mp hd
   obtain⟨a,_,rfl⟩:=qaz.mp ht
   refine⟨_,rfl,?_,λ_=>rfl⟩
   have hb:=Gq (n:=n) (a:=a)
   refine aQ (x:=.d (.int ((bt n a).length:Int))) (bo (ag rfl rfl) (by show some (D.int (((bt n a).map D.int).length:Nat))=_;rw[qag])) rfl (HM _ (decide_eq_true (by lia)))
  rw[this,qfX.mpr (λ_ _=>rfl),qeu]
 have hs:jq st [.d (.lst (((qaN (2^n)).map (bt n)).map ai))]=some ((cG n).map ai):=by
  show (if (((qaN (2^n)).map (bt n)).map ai).length<=64 then oO (((qaN (2^n)).map (bt n)).map ai) else none)=_
  rw[if_pos hlen,pi,Fe hn]
 generalize ((qaN (2^n)).map (bt n)).map ai=LL at k1 k2 hlen hs
 generalize (cG n).map ai=AA at hs ⊢
 have hcl:iCL jq (ab (aM (iLc 1 [1] (aH (iV 2)) (.nm 0) dZ dS)) ak) [some (.d (.int n)),some (.d (.int n)),some (.d (.lst LL))] st=some (AA,st):=by
  have q:=ag (b:=ak) (aE (bW (k:=1) (js:=[1]) (env:=[some (.d (.int n)),some (.d (.int n)),some (.d (.lst LL))]) (gh (f:=iV 2) (st:=st) rfl) (by lia) k2)) rfl
  simp only[iCL,q,qaf,hs,qaC]
 exact aD (n:=3) (k:=2) (b:=fS) rfl (ap (aR (i:=2) (aE (bW (ip (au rfl rfl (hq _)) hq0 (by lia) q1) (by rw[cQ];lia) k1))) (aF (aE hcl)))
end Own
end
section
set_option maxHeartbeats 1000000
namespace Own
open PySem L2
theorem iB (k:List Int) (d:D) (r:List (List Int×D)) (t:List Int):vM ((k,d)::r) t=if k=t then some d else vM r t:=by
 unfold vM
 by_cases e:k=t
 ·rw[qfc (by simpa using e),if_pos e];rfl
 ·rw[qfd (by simpa using e),if_neg e]
theorem x9 (kvs:List (List Int×D)) (k:List Int):(kvs.any λp=>decide (p.1=k))=decide (k∈kvs.map qa3):=by
 induction kvs with
 |nil=>rfl
 |cons p r ih=>
  rw[qcw,ih,qal]
  by_cases e:p.1=k
  ·simp[e]
  ·have:¬ k=p.1:=λz=>e z.symm
   simp[e,this]
theorem vF (kvs:List (List Int×D)) (k:List Int) (d:D):(kM kvs k d).map qa3=if k∈kvs.map qa3 then kvs.map qa3 else kvs.map qa3++[k]:=by
 unfold kM
 rw[x9]
 by_cases h:k∈kvs.map qa3
 ·rw[if_pos (decide_eq_true h),if_pos h,qaJ]
  refine qaP λp _=>?_
  show (if p.1=k then (p.1,d) else p).1=p.1
  split<;>rfl
 ·rw[if_neg (by simpa using h),if_neg h,qa5];rfl
theorem sw (k:List Int) (d:D) (j:List Int):∀ kvs:List (List Int×D),k∈kvs.map qa3->vM (kvs.map λp=>if p.1=k then (p.1,d) else p) j=if j=k then some d else vM kvs j
 |[],h=>by cases h
 |(k',d')::r,h=>by
  rw[qal]
  by_cases e:k'=k
  ·rw[if_pos e,iB,iB]
   subst e
   by_cases ej:k'=j
   ·rw[if_pos ej,if_pos ej.symm]
   ·rw[if_neg ej,if_neg (λz=>ej z.symm),if_neg ej]
    by_cases hm:k'∈r.map qa3
    ·rw[sw k' d j r hm,if_neg (λz=>ej z.symm)]
    ·have:(r.map λp=>if p.1=k' then (p.1,d) else p)=r:=by
      conv=>rhs;rw[<-qeu r]
      refine qaP λp hp=>?_
      rw[if_neg (λz=>hm (by rw[<-z];exact qcC hp))];rfl
     rw[this]
  ·rw[if_neg e,iB,iB]
   rw[qal,qay]at h
   have hm:k∈r.map qa3:=h.resolve_left λz=>e z.symm
   rw[sw k d j r hm]
   by_cases ej:k'=j
   ·rw[if_pos ej,if_pos ej,if_neg (λz=>e (ej.trans z))]
   ·rw[if_neg ej,if_neg ej]
theorem Bp (k:List Int) (d:D) (j:List Int):∀ kvs:List (List Int×D),k∉kvs.map qa3->vM (kvs++[(k,d)]) j=if j=k then some d else vM kvs j
 |[],_=>by
  show vM [(k,d)] j=_
  rw[iB]
  by_cases e:k=j
  ·rw[if_pos e,if_pos e.symm]
  ·rw[if_neg e,if_neg (λz=>e z.symm)]
 |(k',d')::r,h=>by
  rw[qal,qay,not_or]at h
  rw[qbS,iB,iB,Bp k d j r h.2]
  by_cases ej:k'=j
  ·rw[if_pos ej,if_pos ej,if_neg (λz=>h.1 (z.symm.trans ej.symm))]
  ·rw[if_neg ej,if_neg ej]
theorem EO (kvs:List (List Int×D)) (k:List Int) (d:D) (j:List Int):vM (kM kvs k d) j=if j=k then some d else vM kvs j:=by
 unfold kM
 rw[x9]
 by_cases h:k∈kvs.map qa3
 ·rw[if_pos (decide_eq_true h)];exact sw k d j kvs h
 ·rw[if_neg (by simpa using h)];exact Bp k d j kvs h
def bB (L:List Prt) (t:List Int):Int:=((L.filter λp=>decide (p.1=t)).map Prod.snd).sum
theorem wd (L:List Prt) (p:Prt) (t:List Int):bB (L++[p]) t=bB L t+if p.1=t then p.2 else 0:=by
 unfold bB
 rw[qjs,qa5,qfl]
 congr 1
 by_cases e:p.1=t<;>simp[e]
theorem qj {L:List Prt}{t:List Int} (h:t∉L.map qa3):bB L t=0:=by
 unfold bB
 rw[List.filter_eq_nil_iff.mpr]
 ·rfl
 ·intro p hp e
  exact h (by rw[<-of_decide_eq_true e];exact qcC hp)
structure GK (kvs:List (List Int×D)) (L:List Prt):Prop where
 nd:(kvs.map qa3).Nodup
 mem:∀ t,t∈kvs.map qa3↔t∈L.map qa3
 val:∀ t,vM kvs t=if t∈L.map qa3 then some (.int (bB L t)) else none
theorem GK.nil:GK [] []:=⟨qfL,λt=>Iff.rfl,λt=>by simp[vM]⟩
theorem GK.getD {kvs:List (List Int×D)}{L:List Prt} (G:GK kvs L) (t:List Int):(vM kvs t).getD (.int 0)=.int (bB L t):=by
 rw[G.val t]
 by_cases h:t∈L.map qa3
 ·rw[if_pos h];rfl
 ·rw[if_neg h,qj h];rfl
theorem GK.put {kvs:List (List Int×D)}{L:List Prt} (G:GK kvs L) (p:Prt):GK (kM kvs p.1 (.int (bB L p.1+p.2))) (L++[p]):=by
 refine⟨?_,λt=>?_,λt=>?_⟩
 ·rw[vF]
  split
  ·exact G.nd
  ·rename_i h
   rw[qdv]
   exact⟨G.nd,by simp,λa ha b hb e=>h (by rw[qaI]at hb;rw[<-hb,<-e];exact ha)⟩
 ·rw[vF,qa5,qbo]
  split
  ·rename_i h
   rw[G.mem t]
   refine⟨.inl,λz=>z.elim id λz=>?_⟩
   have:t=p.1:=by simpa using z
   rw[this];exact (G.mem p.1).mp h
  ·rw[qbo,G.mem t];rfl
 ·rw[EO,wd,G.val t,qa5]
  by_cases e:t=p.1
  ·subst e
   rw[if_pos rfl,if_pos rfl,if_pos (qav _ (by simp))]
  ·have hs:(bB L t+if p.1=t then p.2 else 0)=bB L t:=by rw[if_neg (λz=>e z.symm),qg4]
   rw[if_neg e,hs]
   have:(t∈qfy qa3 L++qfy qa3 [p])↔t∈L.map qa3:=by simp[e]
   by_cases h:t∈L.map qa3
   ·rw[if_pos h,if_pos (this.mpr h)]
   ·rw[if_neg h,if_neg (λz=>h (this.mp z))]
theorem xx {α:Type} [DecidableEq α]:∀ {l m:List α},l.Nodup->(∀ x∈l,x∈m)->l.length<=m.length
 |[],m,_,_=>qaW _
 |x::l,m,hn,hs=>by
  have hn':=qbR.mp hn
  have hx:=hs x qak
  have:=xx (l:=l) (m:=m.erase x) hn'.2 λy hy=>(qiQ (λe=>hn'.1 (by rw[<-e];exact hy))).mpr (hs y (qah _ hy))
  rw[qh1 hx]at this
  have hp:0<m.length:=qis hx
  rw[qam];lia
def ksI (m:Nat):List Int:=(aA m).map λk=>((k:Nat):Int)
theorem DU (m:Nat):(aA m).map (λk=>D.int ((k:Nat):Int))=(ksI m).map D.int:=by unfold ksI;rw[qaJ];rfl
theorem mi {m:Nat}{z:Int}:z∈ksI m↔∃ k:Nat,z=k/\k<6/\m.testBit k=true:=by
 unfold ksI
 rw[qaz]
 exact⟨λ⟨k,h,e⟩=>⟨k,e.symm,(qi.mp h).1,(qi.mp h).2⟩,λ⟨k,e,h1,h2⟩=>⟨k,qi.mpr ⟨h1,h2⟩,e.symm⟩⟩
theorem tR (m:Nat):Trm 6 (ksI m):=by
 refine⟨?_,λk hk=>?_⟩
 ·unfold ksI aA
  rw[qci]
  have:(qaN 6).Pairwise (·<·):=qfb
  exact (this.filter _).imp λ{a b} h=>by lia
 ·obtain⟨j,rfl,h,_⟩:=mi.mp hk
  lia
theorem AI (l:List Int):aK l=gw (l.map qiT):=by unfold aK gw;rw[qkg]
theorem bS {t:List Int} (h:Trm 6 t) (j:Nat):(aK t).testBit j=decide ((j:Int)∈t):=by
 rw[AI,gr]
 apply decide_eq_decide.mpr
 rw[qaz]
 constructor
 ·rintro⟨z,hz,e⟩
  have:=(h.2 z hz).1
  have:(j:Int)=z:=by lia
  rw[this];exact hz
 ·intro hj
  exact⟨j,hj,by simp⟩
theorem zb {t:List Int} (h:Trm 6 t):aK t<64:=by
 refine qh0 (n:=6) _ λj hj=>?_
 rw[bS h,decide_eq_false_iff_not]
 intro z
 have:=(h.2 _ z).2
 lia
theorem eX {t:List Int} (h:Trm 6 t):ksI (aK t)=t:=by
 have hm:∀ z,z∈ksI (aK t)↔z∈t:=λz=>by
  rw[mi]
  constructor
  ·rintro⟨k,rfl,_,hk⟩
   rw[bS h]at hk
   exact of_decide_eq_true hk
  ·intro hz
   have h1:=h.2 z hz
   obtain⟨k,rfl⟩:=qbB h1.1
   exact⟨k,rfl,by lia,by rw[bS h];exact decide_eq_true hz⟩
 have hn:∀ {l:List Int},l.Pairwise (·<·)->l.Nodup:=λhl=>hl.imp λ{a b} hab e=>by lia
 refine qey (le:=(·<·)) (λa b _ _ h1 h2=>by lia) (tR _).1 h.1 ?_
 exact (qhC (hn (tR _).1) (hn h.1)).mpr hm
theorem lH {l:List (List Int)} (hn:l.Nodup) (h:∀ t∈l,Trm 6 t):l.length<=64:=by
 have:=xx (m:=(qaN 64).map ksI) hn λt ht=>qaz.mpr ⟨aK t,qbz.mpr (zb (h t ht)),eX (h t ht)⟩
 rw[qag,qcy]at this
 exact this
def ltL (a b:List Int):Prop:=bU a b=true
theorem Ee {a b:List Int} (h:leL a b) (hne:a≠b):ltL a b:=by
 unfold ltL
 cases e:bU a b with
 |true=>rfl
 |false=>exact absurd (jk a b e h) hne
theorem jV {l:List (List Int)} (hn:l.Nodup):(aZ l).Pairwise ltL:=by
 have h2:(aZ l).Nodup:=(aS l).nodup_iff.mpr hn
 exact (bT l).imp₂ (λa b h1 h2=>Ee h1 h2) h2
def fE (ks:List (List Int)) (L:List Prt):List Prt:=(ks.filter λt=>decide (bB L t≠0)).map λt=>(t,bB L t)
theorem Du (s:Sto) (a:Int):dNe s (.d (.int a)) (.d (.int 0))=some (.bl (decide (a≠0))):=by
 show some (D.bl (!(a==0)))=_
 by_cases h:a=0<;>simp[h]
theorem yc {st:Sto}{kd:Str}{n:Nat}{kvs:List (List Int×D)}{L:List Prt} (hm:mgt st n=some kvs) (G:GK kvs L) (h6:∀ p∈L,Trm 6 p.1) :
  fj [.d (.str kd),.h n] st=some (.d (am kd (fE (aZ (kvs.map qa3)) L)),st):=by
 have htr:∀ t∈kvs.map qa3,Trm 6 t:=λt ht=>by
  obtain⟨p,hp,rfl⟩:=qaz.mp ((G.mem t).mp ht)
  exact h6 p hp
 have hlen:kvs.length<=64:=by
  have:=lH G.nd htr
  rw[qag]at this;exact this
 have hsl:(aZ (kvs.map qa3)).length<=64:=by rw[(aS _).length_eq,qag];exact hlen
 have hmem:∀ t∈aZ (kvs.map qa3),vM kvs t=some (.int (bB L t)):=λt ht=>by
  rw[G.val t,if_pos ((G.mem t).mp ((aS _).mem_iff.mp ht))]
 have mix:∀ t∈aZ (kvs.map qa3),zM (iV 1) (iV 0) [some (.d (ai t)),some (.h n)] st=some (.d (.int (bB L t)),st):=λt ht=>by
  have e1:ba (t.map D.int)=some t:=bH t
  have e2:=hmem t ht
  simp only[zM,iV,ai,qa6,qbn,qaC,qaf,hm,e1,e2]
 have key:=d8 (g:=.nm 0) (tt:=kl) (te:=kj) (env:=[none,some (.h n)]) (st:=st) (λd=>match d with|.tup ds=>(match ba ds with|some t=>decide (bB L t≠0)|none=>false)|_=>false) (λd=>match d with|.tup ds=>(match ba ds with|some t=>ar (t,bB L t)|none=>d)|d=>d) (ds:=(aZ (kvs.map qa3)).map ai) λd hd=>by
  obtain⟨t,ht,rfl⟩:=qaz.mp hd
  have e1:ba (t.map D.int)=some t:=bH t
  refine⟨_,rfl,?_,λ_=>?_⟩
  ·show _=some ((match ba (t.map D.int) with|some t=>decide (bB L t≠0)|none=>false),st)
   rw[e1]
   exact aQ (mix t ht) rfl (Du _ _)
  ·show _=some (W.d (match ba (t.map D.int) with|some t=>ar (t,bB L t)|none=>ai t),st)
   rw[e1]
   exact ci (ag rfl (ag (mix t ht) rfl)) rfl (by show 2<=1000;decide)
 have e:((((aZ (kvs.map qa3)).map ai).filter (λd=>match d with|.tup ds=>(match ba ds with|some t=>decide (bB L t≠0)|none=>false)|_=>false)).map (λd=>match d with|.tup ds=>(match ba ds with|some t=>ar (t,bB L t)|none=>d)|d=>d))=(fE (aZ (kvs.map qa3)) L).map ar:=by
  unfold fE
  rw[qev,qaJ,qaJ]
  have e1:∀ t:List Int,ba (t.map D.int)=some t:=bH
  congr 1
  ·funext t
   show (match ba (t.map D.int) with|some t=>ar (t,bB L t)|none=>ai t)=ar (t,bB L t)
   rw[e1]
  ·refine qjI λt _=>?_
   show (match ba (t.map D.int) with|some t=>decide (bB L t≠0)|none=>false)=_
   rw[e1]
 rw[e]at key
 have hso:mP (iV 1) [some (.d (.str kd)),some (.h n)] st=some ((aZ (kvs.map qa3)).map ai,st):=by
  simp only[mP,iV,qa6,qbn,qaC,qaf,hm,hlen,if_true]
 have hit:aH (aM (mP (iV 1))) [some (.d (.str kd)),some (.h n)] st=some ((aZ (kvs.map qa3)).map ai,st):=by
  simp only[aH,aM,hso,qaC,qaf]
 have hz:((aZ (kvs.map qa3)).map ai).length<=1000000:=by rw[qag];lia
 unfold am
 exact aD (n:=2) (k:=2) (b:=gJ) rfl (aF (ci (ag rfl (ag (bo (ag (aE (bW hit hz key)) rfl) rfl) rfl)) rfl (by show 2<=1000;decide)))
theorem md (st:Sto) (kvs:List (List Int×D)):mgt (st++[.m kvs]) st.length=some kvs:=by
 unfold mgt
 rw[qbi (qap _),qdP];rfl
theorem BD {st:Sto}{n:Nat}{ds:List D} (h:lg st n=some ds) (u:Sto):lg (st++u) n=some ds:=by
 have hn:st[n]?=some (.l ds):=xS h
 have hlt:=(qax.mp hn).1
 unfold lg
 rw[qa2 hlt,hn]
theorem B8 {st:Sto}{kvs:List (List Int×D)}{L:List Prt}{a0 a1:Option W}{p:Prt} (G:GK kvs L) (hl:kvs.length<1000) :
  bR [a0,a1,some (.h st.length),some (.d (ai p.1)),some (.d (.int p.2))] (st++[.m kvs])=some (.nx [a0,a1,some (.h st.length),some (.d (ai p.1)),some (.d (.int p.2))] (st++[.m (kM kvs p.1 (.int (bB L p.1+p.2)))])):=by
 have e1:ba (p.1.map D.int)=some p.1:=bH p.1
 have e2:=md st kvs
 have e3:=G.getD p.1
 have e4:(st++[C.m kvs]).set st.length (.m (kM kvs p.1 (.int (bB L p.1+p.2))))=st++[.m (kM kvs p.1 (.int (bB L p.1+p.2)))]:=by
  rw[qei _ _ (qap _),qdP];rfl
 have g:vC (iV 2) (iV 3) (iC (.int 0)) [a0,a1,some (.h st.length),some (.d (ai p.1)),some (.d (.int p.2))] (st++[.m kvs])=some (.d (.int (bB L p.1)),st++[.m kvs]):=by
  simp only[vC,iV,iC,ai,qa6,qbn,qaC,qaf,e1,e2,e3]
 have g2:=au (g:=fm) (b:=iV 4) (y:=.d (.int p.2)) (d:=.int (bB L p.1+p.2)) g rfl rfl
 simp only[ai]at g2 ⊢
 simp only[bR,rK,g2,iV,qa6,qbn,qaC,qaf,e1,e2,hl,if_true,e4]
def sT (st:Sto) (w:W) (L:List Prt):Prop:=w=.d (.tup (L.map ar))\/w=.d (.lst (L.map ar))\/∃ n,w=.h n/\lg st n=some (L.map ar)
theorem zT {kvs:List (List Int×D)}{L:List Prt} (G:GK kvs L) (h6:∀ p∈L,Trm 6 p.1):kvs.length<=64:=by
 have:=lH G.nd λt ht=>by
  obtain⟨p,hp,rfl⟩:=qaz.mp ((G.mem t).mp ht)
  exact h6 p hp
 rw[qag]at this;exact this
theorem Ch {st:Sto}{kd:Str}{w:W}{L:List Prt} (hw:sT st w L) (h6:∀ p∈L,Trm 6 p.1) :
  ∃ ks:List (List Int),ks.Pairwise ltL/\ks.Nodup/\(∀ t,t∈ks↔t∈L.map qa3)/\dH [.d (.str kd),w] st=some (.d (am kd (fE ks L)),st):=by
 have step:∀ (i:Nat) (d:D) (env:Ev) (s:Sto),(L.map ar)[i]?=some d->(∃ o3 o4 kvs,env=[some (.d (.str kd)),some w,some (.h st.length),o3,o4]/\s=st++[.m kvs]/\GK kvs (L.take i))->
   ∃ e1 e2 s2,fM (.tp [3,4]) (.d d) env=some e1/\(bR e1 s=some (.nx e2 s2)\/bR e1 s=some (.ct e2 s2))/\∃ o3 o4 kvs,e2=[some (.d (.str kd)),some w,some (.h st.length),o3,o4]/\s2=st++[.m kvs]/\GK kvs (L.take (i+1)):=by
  rintro i d env s hd ⟨o3,o4,kvs,rfl,rfl,G⟩
  obtain⟨p,hp,rfl⟩:=mO hd
  have hlen:=zT G λq hq=>h6 q (qfE hq)
  have htk:L.take (i+1)=L.take i++[p]:=by rw[qbJ,hp];rfl
  exact⟨_,_,_,rfl,.inl (B8 G (by lia)),_,_,_,rfl,rfl,by rw[htk];exact G.put p⟩
 have fin:∀ (kvs:List (List Int×D)) (o3 o4:Option W),GK kvs L->vA (iV 1) (.tp [3,4]) bR [some (.d (.str kd)),some w,some (.h st.length),none,none] (st++[.m []])=some (.nx [some (.d (.str kd)),some w,some (.h st.length),o3,o4] (st++[.m kvs]))->
   ∃ ks:List (List Int),ks.Pairwise ltL/\ks.Nodup/\(∀ t,t∈ks↔t∈L.map qa3)/\dH [.d (.str kd),w] st=some (.d (am kd (fE ks L)),st):=by
  intro kvs o3 o4 G hF
  refine⟨aZ (kvs.map qa3),jV G.nd,(aS _).nodup_iff.mpr G.nd,λt=>((aS _).mem_iff).trans (G.mem t),?_⟩
  have hf:=yc (st:=st++[.m kvs]) (kd:=kd) (md st kvs) G h6
  have hq:=ix (n:=5) (k:=2) (b:=iX) (ws:=[.d (.str kd),w]) (st:=st) (s:=st++[.m kvs]) (x:=am kd (fE (aZ (kvs.map qa3)) L)) rfl
   (ap (aR (w:=.h st.length) (s:=st++[C.m []]) rfl) (ap hF (aF (aq rfl hf))))
  have ht:(st++[C.m kvs]).take st.length=st:=by rw[qhl];rfl
  rw[ht]at hq
  exact hq
 rcases hw with rfl|rfl|⟨n,rfl,hn⟩
 ·obtain⟨e',s',hF,o3,o4,kvs,rfl,rfl,G⟩:=bN (g:=.tp [3,4]) (body:=bR) (ds:=L.map ar) (λi env s=>∃ o3 o4 kvs,env=[some (.d (.str kd)),some (.d (.tup (L.map ar))),some (.h st.length),o3,o4]/\s=st++[.m kvs]/\GK kvs (L.take i)) (env:=[some (.d (.str kd)),some (.d (.tup (L.map ar))),some (.h st.length),none,none]) (st:=st++[.m []]) ⟨none,none,[],rfl,rfl,GK.nil⟩ step
  rw[qag,qbv]at G
  exact fin kvs o3 o4 G hF
 ·obtain⟨e',s',hF,o3,o4,kvs,rfl,rfl,G⟩:=bN (g:=.tp [3,4]) (body:=bR) (ds:=L.map ar) (λi env s=>∃ o3 o4 kvs,env=[some (.d (.str kd)),some (.d (.lst (L.map ar))),some (.h st.length),o3,o4]/\s=st++[.m kvs]/\GK kvs (L.take i)) (env:=[some (.d (.str kd)),some (.d (.lst (L.map ar))),some (.h st.length),none,none]) (st:=st++[.m []]) ⟨none,none,[],rfl,rfl,GK.nil⟩ step
  rw[qag,qbv]at G
  exact fin kvs o3 o4 G hF
 ·obtain⟨e',s',hF,o3,o4,kvs,rfl,rfl,G⟩:=vQ (n:=n) (all:=L.map ar) (g:=.tp [3,4]) (body:=bR) (ds:=L.map ar) (λi env s=>∃ o3 o4 kvs,env=[some (.d (.str kd)),some (.h n),some (.h st.length),o3,o4]/\s=st++[.m kvs]/\GK kvs (L.take i)) (env:=[some (.d (.str kd)),some (.h n),some (.h st.length),none,none]) (st:=st++[.m []]) ⟨none,none,[],rfl,rfl,GK.nil⟩ (by
   rintro i env s ⟨o3,o4,kvs,rfl,rfl,G⟩
   exact BD hn _) step
  rw[qag,qbv]at G
  refine fin kvs o3 o4 G ?_
  have:=BD hn [C.m []]
  simp only[vA,iV,qa6,qbn,qaC,qaf,this]
  exact hF
theorem ji {α:Type}:∀ l:List α,(l.map λ_=>(0:Int)).sum=0
 |[]=>rfl
 |x::l=>by rw[qal,qaQ,ji l];rfl
theorem v7 (p:Prt) (L:List Prt) (t:List Int):bB (p::L) t=(if p.1=t then p.2 else 0)+bB L t:=by
 unfold bB
 rw[qdb]
 by_cases e:p.1=t
 ·rw[if_pos (decide_eq_true e),if_pos e,qal,qaQ]
 ·rw[if_neg (by simpa using e),if_neg e,qcR]
theorem uJ (f:List Int->Int) (c:Int) (t:List Int):∀ ks:List (List Int),ks.Nodup->t∈ks->(ks.map λk=>(if t=k then c else 0)*f k).sum=c*f t
 |[],_,h=>by cases h
 |k::ks,hn,h=>by
  have hn':=qbR.mp hn
  rw[qal,qaQ]
  by_cases e:t=k
  ·subst e
   rw[if_pos rfl]
   have:(ks.map λk=>(if t=k then c else 0)*f k).sum=0:=by
    have:(ks.map λk=>(if t=k then c else 0)*f k)=ks.map λ_=>(0:Int):=qaP λk hk=>by
     rw[if_neg (λz=>hn'.1 (by rw[z];exact hk)),qdQ]
    rw[this,ji]
   rw[this,qg4]
  ·rw[if_neg e,qdQ,qcR]
   exact uJ f c t ks hn'.2 ((qay.mp h).resolve_left e)
theorem sD {α:Type} (f g:α->Int):∀ l:List α,(l.map λx=>f x+g x).sum=(l.map f).sum+(l.map g).sum
 |[]=>rfl
 |x::l=>by rw[qal,qal,qal,qaQ,qaQ,qaQ,sD f g l];lia
theorem vL (f:List Int->Int) {ks:List (List Int)} (hn:ks.Nodup):∀ L:List Prt,(∀ p∈L,p.1∈ks)->(ks.map λt=>bB L t*f t).sum=(L.map λp=>p.2*f p.1).sum
 |[],_=>by
  have:(ks.map λt=>bB [] t*f t)=ks.map λ_=>(0:Int):=qaP λt _=>by show (0:Int)*_=0;rw[qdQ]
  rw[this,ji];rfl
 |p::L,h=>by
  rw[qal,qaQ,<-vL f hn L λq hq=>h q (qah _ hq)]
  have e:(ks.map λt=>bB (p::L) t*f t)=ks.map λt=>(if p.1=t then p.2 else 0)*f t+bB L t*f t:=qaP λt _=>by
   rw[v7,qjw]
  rw[e,sD,uJ f p.2 p.1 ks hn (h p qak)]
theorem yW (f:List Int->Int) (ks:List (List Int)) (L:List Prt):((fE ks L).map λp=>p.2*f p.1).sum=(ks.map λt=>bB L t*f t).sum:=by
 unfold fE
 rw[qaJ]
 induction ks with
 |nil=>rfl
 |cons t ks ih=>
  rw[qdb]
  by_cases h:bB L t=0
  ·rw[if_neg (by simp[h]),qal,qaQ,h,qdQ,qcR];exact ih
  ·rw[if_pos (by simp[h]),qal,qal,qaQ,qaQ,ih];rfl
theorem Au {b:Bool}{row:Int}{ks:List (List Int)}{L:List Prt} (hn:ks.Nodup) (hm:∀ t,t∈ks↔t∈L.map qa3):aX b (fE ks L) row=aX b L row:=by
 unfold aX
 rw[yW (λt=>bb b t row),vL (λt=>bb b t row) hn L λp hp=>(hm p.1).mpr (qcC hp)]
end Own
end
section
set_option maxHeartbeats 1000000
namespace Own
open PySem L2
theorem EK (s:Sto) (a b:Str):dNe s (.d (.str a)) (.d (.str b))=some (.bl (!(a==b))):=by
 show ((eqK (.fl (.str a)) (.fl (.str b))).map λk=>D.bl (!k))=_
 rfl
theorem yS {i:Int} (h:i.natAbs<2^200):decide (i.natAbs.log2<1920)=true:=by
 refine decide_eq_true ?_
 rcases qjG i.natAbs with h0|hp
 ·rw[h0];decide
 ·exact qfw ((qma (qbu hp)).mpr h) (by decide)
theorem xU:∀ {t:List Int},(∀ k∈t,k.natAbs<2^200)->nS (t.map D.int)=true/\tX (t.map D.int)<=2002*t.length/\tZ (t.map D.int)<=1
 |[],_=>by rw[qc2,nS,tX,tZ];exact⟨rfl,qaW _,qaW _⟩
 |k::t,h=>by
  obtain⟨a,b,c⟩:=xU (t:=t) λx hx=>h x (qah _ hx)
  rw[qal,nS,tX,tZ,rpD,wtD,dpD,yS (h k qak),a,qam]
  ·exact⟨rfl,by lia,by lia⟩
  all_goals (intro _ e;cases e)
theorem wK {n:Nat}{t:List Int} (hn:n<=6) (h:Trm n t):aK t<2^n:=by
 apply qh0
 intro i hi
 rw[bS (h.mono hn)]
 exact decide_eq_false λhm=>by have:=(h.2 _ hm).2;lia
theorem Bb:((qaN 7).all λn=>(qaN (2^n)).all λm=>(cG n).contains (ksI m))=true:=by decide +kernel
theorem um {n:Nat}{t:List Int} (hn:n<=6) (h:Trm n t):t∈cG n:=by
 have:=qaT.mp (qaT.mp Bb n (qbz.mpr (by lia))) (aK t) (qbz.mpr (wK hn h))
 rw[eX (h.mono hn)]at this
 simpa using this
theorem EB:((qaN 64).all λa=>(qaN 64).all λb=>a==b||!(hT (ksI a)==hT (ksI b)))=true:=by decide +kernel
theorem FK {t u:List Int} (ht:Trm 6 t) (hu:Trm 6 u) (h:hT t=hT u):t=u:=by
 have:=qaT.mp (qaT.mp EB (aK t) (qbz.mpr (wK (qap 6) ht))) (aK u) (qbz.mpr (wK (qap 6) hu))
 rw[eX ht,eX hu,h,beq_self_eq_true,qbr,qeZ]at this
 rw[<-eX ht,<-eX hu,eq_of_beq this]
theorem t8:∀ {ls:List (List Int)},(∀ t∈ls,Trm 6 t)->ls.Nodup->(ls.map hT).Nodup
 |[],_,_=>qfL
 |t::ls,h,hn=>by
  have hn':=qbR.mp hn
  rw[qal]
  refine qbR.mpr ⟨λhm=>?_,t8 (λu hu=>h u (qah _ hu)) hn'.2⟩
  obtain⟨u,hu,e⟩:=qaz.mp hm
  exact hn'.1 (FK (h u (qah _ hu)) (h t qak) e ▸ hu)
theorem xh {a b:List Int} (h:ltL a b):leL a b:=by
 unfold leL
 cases e:bU b a with
 |false=>rfl
 |true=>
  have:=nU a b a h e
  rw[lj]at this;cases this
theorem iz {ls:List (List Int)} (h:ls.Pairwise ltL):ls.Nodup:=h.imp λ{a b} hab e=>by
 subst e
 have:bU a a=true:=hab
 rw[lj]at this;cases this
theorem ug {ls:List (List Int)} (h:ls.Pairwise ltL):aZ ls=ls:=dc (aS ls) (bT ls) (h.imp λ{a b} hab=>xh hab)
theorem BZ {f:Ef}{env:Ev}{st s:Sto}{ls:List (List Int)} (hf:f env st=some (.d (.lst (ls.map ai)),s)) (hs:ls.Pairwise ltL) (h6:∀ t∈ls,Trm 6 t):mD f env st=some (ls.map ai,s):=by
 have hn:=iz hs
 have hl:=lH hn h6
 simp only[mD,hf,qaf,lsD,kJ,hl,t8 h6 hn,and_self,if_true,ug hs]
theorem rj:∀ L:List Int,fA (L.map D.int) (L.map D.int)=true
 |[]=>rfl
 |x::L=>by rw[qal,fA,rj L];simp[eqD]
theorem qZ:∀ L:List (List Int),fA (L.map ai) (L.map ai)=true
 |[]=>rfl
 |x::L=>by
  have e:eqD (ai x) (ai x)=true:=by
   unfold ai
   rw[eqD];exact rj x
  rw[qal,fA,qZ L,e];rfl
theorem yf (n:Nat):∀ L:List Int,(L.map D.int).all (okD n)=true
 |[]=>rfl
 |x::L=>by
  rw[qal,qbQ,yf n L]
  cases n<;>rfl
theorem tQ:∀ L:List (List Int),(L.map ai).all (okD 60)=true
 |[]=>rfl
 |x::L=>by
  rw[qal,qbQ,tQ L]
  show ((x.map D.int).all (okD 59)&&true)=true
  rw[yf];rfl
theorem DO (s:Sto) (L:List (List Int)):dEq s (.d (.lst (L.map ai))) (.d (.lst (L.map ai)))=some (.bl true):=by
 show (eqK (.ls (L.map ai)) (.ls (L.map ai))).map (λk=>D.bl k)=_
 rw[eqK,if_pos rfl,if_pos ⟨tQ _,tQ _⟩,qZ];rfl
def shT (t:List Int):Str:=(toP (ai t)).shown
theorem DZ {t:List Int} (s:Sto) (h:Trm 6 t):pS s [.d (ai t)]=some (.str (shT t)):=by
 have hl:=iS h
 obtain⟨a1,b1,c1⟩:=xU (t:=t) λk hk=>by
  have:=h.2 k hk
  exact qaR (show k.natAbs<6 by lia) (by decide)
 have r1:rpD (ai t)=true:=by unfold ai;rw[rpD];exact a1
 have w1:wtD (ai t)<=16000000:=by unfold ai;rw[wtD];lia
 have d1:dpD (ai t)<=50:=by unfold ai;rw[dpD];lia
 show (if rpD (ai t)=true/\wtD (ai t)<=16000000/\dpD (ai t)<=50 then some (D.str (shT t)) else none)=_
 rw[if_pos ⟨r1,w1,d1⟩]
def eE (n:Nat) (ps:List Prt):Prop:=(∀ p∈ps,Trm n p.1/\p.2≠0)/\(ps.map qa3).Pairwise ltL
theorem eE.len {n:Nat}{ps:List Prt} (h:eE n ps) (hn:n<=6):ps.length<=64:=by
 have:=lH (iz h.2) λt ht=>by
  obtain⟨p,hp,rfl⟩:=qaz.mp ht
  exact (h.1 p hp).1.mono hn
 rw[qag]at this;exact this
theorem Cl {x:Str}:∀ {l:List Str},x∈l->inD (.str x) (l.map D.str)=true:=λh=>by
 unfold inD
 rw[qjW]
 exact⟨_,qcC h,by simp[eqD]⟩
theorem xA:∀ l:List Str,(l.map D.str).all cy=true
 |[]=>rfl
 |x::l=>by rw[qal,qbQ,xA l];rfl
theorem zt (s:Sto) {x:Str}{l:List Str} (h:x∈l):kG s (.d (.str x)) (.d (.lst (l.map D.str)))=some (.bl false):=by
 show (if cy (.str x)=true/\(l.map D.str).all cy=true then some (D.bl (!inD (.str x) (l.map D.str))) else none)=_
 rw[if_pos ⟨rfl,xA l⟩,Cl h];rfl
theorem y9 {st:Sto}{a0 a1 a2 a5:Option W}{l:List Str}{p:Prt} (h:Trm 6 p.1) (hm:shT p.1∈l) (h0:p.2≠0):eD [a0,a1,a2,some (.d (.lst (l.map D.str))),some (.d (ar p)),a5] st=some (.nx [a0,a1,a2,some (.d (.lst (l.map D.str))),some (.d (ar p)),a5] st):=by
 have f0:(p.2==(0:Int))=false:=by simp[h0]
 have e1:=DZ st h
 have e2:=zt st hm
 unfold ar
 generalize ai p.1=tt at e1 ⊢
 generalize l.map D.str=LL at e2 ⊢
 have i1:iCB nO (ab (iV 4) (ab (iC (.ty "tuple")) ak)) [a0,a1,a2,some (.d (.lst LL)),some (.d (.tup [tt,.int p.2])),a5] st=some (.d (.bl true),st):=rfl
 have n2:bO dNe (iCB eA (ab (iV 4) ak)) (iC (.int 2)) [a0,a1,a2,some (.d (.lst LL)),some (.d (.tup [tt,.int p.2])),a5] st=some (false,st):=aQ (x:=.d (.int 2)) (y:=.d (.int 2)) rfl rfl (by rw[wx];rfl)
 have n3:bO kG (iCB pS (ab (iOp dIx (iV 4) (iC (.int 0))) ak)) (iV 3) [a0,a1,a2,some (.d (.lst LL)),some (.d (.tup [tt,.int p.2])),a5] st=some (false,st):=aQ (bo (ag (au rfl rfl (ix0 _ _ _)) rfl) e1) rfl e2
 have j1:iCB nO (ab (iOp dIx (iV 4) (iC (.int 1))) (ab (iC (.ty "int")) ak)) [a0,a1,a2,some (.d (.lst LL)),some (.d (.tup [tt,.int p.2])),a5] st=some (.d (.bl true),st):=bo (ag (au rfl rfl (ix1 _ _ _ _)) rfl) rfl
 have j2:iCB nO (ab (iOp dIx (iV 4) (iC (.int 1))) (ab (iC (.ty "bool")) ak)) [a0,a1,a2,some (.d (.lst LL)),some (.d (.tup [tt,.int p.2])),a5] st=some (.d (.bl false),st):=bo (ag (au rfl rfl (ix1 _ _ _ _)) rfl) rfl
 have j3:bO dEq (iOp dIx (iV 4) (iC (.int 1))) (iC (.int 0)) [a0,a1,a2,some (.d (.lst LL)),some (.d (.tup [tt,.int p.2])),a5] st=some (false,st):=aQ (au rfl rfl (ix1 _ _ _ _)) rfl (by rw[v0,f0])
 exact ap (fF (pE (rc (wC i1)) (pE n2 n3)) rfl) (fF (pE (rc (wC j1)) (pE (wC j2) j3)) rfl)
theorem zn {st:Sto}{b:Bool}{n:Nat}{ps:List Prt} (hn:n<=6) (h:eE n ps):cY [.d (am (aC b) ps),.d (.str (aC b)),.d (.int n)] st=some (.d (.bl true),st):=by
 have hlen:=h.len hn
 obtain⟨h1,h2⟩:=h
 have ht:=uk (st:=st) hn
 have kE:lcI (.nm 0) cr eN [none] ((cG n).map ai) st=some (((cG n).map shT).map D.str,st):=by
  have:=jZ (g:=.nm 0) (te:=eN) (env:=[none]) (st:=st) (λd=>match d with|.tup ds=>(match ba ds with|some t=>D.str (shT t)|none=>d)|d=>d) (ds:=(cG n).map ai) λd hd=>by
   obtain⟨t,ht,rfl⟩:=qaz.mp hd
   refine⟨_,rfl,?_⟩
   have e1:ba (t.map D.int)=some t:=bH t
   show _=some (W.d (match ba (t.map D.int) with|some t=>D.str (shT t)|none=>ai t),st)
   rw[e1]
   exact bo (ag rfl rfl) (DZ st ((jC ht).mono hn))
  rw[this,qaJ,qaJ]
  congr 2
  refine qaP λt _=>?_
  have e1:ba (t.map D.int)=some t:=bH t
  show (match ba (t.map D.int) with|some t=>D.str (shT t)|none=>ai t)=_
  rw[e1];rfl
 obtain⟨e',s',hF,o,rfl,rfl⟩:=bN (g:=.nm 4) (body:=eD) (ds:=ps.map ar) (λi env s=>∃ o,env=[some (.d (am (aC b) ps)),some (.d (.str (aC b))),some (.d (.int n)),some (.d (.lst (((cG n).map shT).map D.str))),o,none]/\s=st)
  (env:=[some (.d (am (aC b) ps)),some (.d (.str (aC b))),some (.d (.int n)),some (.d (.lst (((cG n).map shT).map D.str))),none,none]) (st:=st) ⟨none,rfl,rfl⟩ (by
  rintro i d env s hd ⟨o,rfl,rfl⟩
  rw[qaZ,qad]at hd
  obtain⟨p,hp,rfl⟩:=hd
  have:=h1 p (qbl hp)
  exact⟨_,_,_,rfl,.inl (y9 (this.1.mono hn) (qcC (um hn this.1)) this.2),_,rfl,rfl⟩)
 have kT:lcI (.nm 0) cr eM [none] (ps.map ar) s'=some ((ps.map qa3).map ai,s'):=by
  have:=jZ (g:=.nm 0) (te:=eM) (env:=[none]) (st:=s') (λd=>match d with|.tup (t::_)=>t|d=>d) (ds:=ps.map ar) λd hd=>by
   obtain⟨p,hp,rfl⟩:=qaz.mp hd
   exact⟨_,rfl,au rfl rfl (ix0 _ _ _)⟩
  rw[this,qaJ,qaJ];rfl
 have h6:∀ t∈ps.map qa3,Trm 6 t:=λt ht=>by
  obtain⟨p,hp,rfl⟩:=qaz.mp ht
  exact (h1 p hp).1.mono hn
 have hz:(ps.map ar).length<=1000000:=by rw[qag];lia
 have hz2:((cG n).map ai).length<=1000000:=by
  rw[qag,pG]
  exact qaL (qbA (by decide) hn) (by decide)
 have eqT:=DO s' (ps.map qa3)
 have srt:∀ {f:Ef}{env:Ev}{st s:Sto},f env st=some (.d (.lst ((ps.map qa3).map ai)),s)->mD f env st=some ((ps.map qa3).map ai,s):=λhf=>BZ hf h2 h6
 unfold am at hF ⊢
 generalize (ps.map qa3).map ai=TT at kT eqT srt
 generalize ((cG n).map shT).map D.str=SS at kE hF
 generalize (cG n).map ai=AA at ht kE hz2
 generalize ps.map ar=PP at *
 have i1:iCB nO (ab (iV 0) (ab (iC (.ty "tuple")) ak)) [some (.d (.tup [.str (aC b),.tup PP])),some (.d (.str (aC b))),some (.d (.int n)),none,none,none] s'=some (.d (.bl true),s'):=rfl
 have n2:bO dNe (iCB eA (ab (iV 0) ak)) (iC (.int 2)) [some (.d (.tup [.str (aC b),.tup PP])),some (.d (.str (aC b))),some (.d (.int n)),none,none,none] s'=some (false,s'):=aQ (x:=.d (.int 2)) (y:=.d (.int 2)) rfl rfl (by rw[wx];rfl)
 have n3:bO dNe (iOp dIx (iV 0) (iC (.int 0))) (iV 1) [some (.d (.tup [.str (aC b),.tup PP])),some (.d (.str (aC b))),some (.d (.int n)),none,none,none] s'=some (false,s'):=aQ (au rfl rfl (ix0 _ _ _)) rfl (by rw[EK,beq_self_eq_true];rfl)
 have i3:iCB nO (ab (iOp dIx (iV 0) (iC (.int 1))) (ab (iC (.ty "tuple")) ak)) [some (.d (.tup [.str (aC b),.tup PP])),some (.d (.str (aC b))),some (.d (.int n)),none,none,none] s'=some (.d (.bl true),s'):=bo (ag (au rfl rfl (ix1 _ _ _ _)) rfl) rfl
 exact aD (n:=6) (k:=3) (b:=d6) rfl (ap (fF (pE (rc (wC i1)) (pE n2 (pE n3 (rc (wC i3))))) rfl)
  (ap (aR (i:=3) (aE (bW (gh (aq rfl ht)) hz2 kE)))
  (ap (dg (fk (au rfl rfl (ix1 _ _ _ _))) hF)
  (ap (aR (i:=5) (aE (bW (fk (au rfl rfl (ix1 _ _ _ _))) hz kT)))
  (aF (au rfl (aE (srt rfl)) eqT))))))
end Own
end
section
set_option maxHeartbeats 1000000
namespace Own
open PySem L2
theorem CQ:(fD 6).Nodup:=by decide +kernel
theorem CO:(cG 6).Pairwise ltL:=jV CQ
def qt (L:List Prt):List (List Int):=(cG 6).filter λt=>decide (t∈L.map qa3)
theorem kD {L:List Prt} (h6:∀ p∈L,Trm 6 p.1) (t:List Int):t∈qt L↔t∈L.map qa3:=by
 unfold qt
 rw[qdn,decide_eq_true_eq]
 refine⟨λh=>h.2,λh=>⟨?_,h⟩⟩
 obtain⟨p,hp,rfl⟩:=qaz.mp h
 exact um (qap 6) (h6 p hp)
theorem j6 (L:List Prt):(qt L).Pairwise ltL:=CO.filter _
theorem rB {L:List Prt}{ks:List (List Int)} (h6:∀ p∈L,Trm 6 p.1) (h1:ks.Pairwise ltL) (h3:∀ t,t∈ks↔t∈L.map qa3):ks=qt L:=by
 refine dc ((qhC (iz h1) (iz (j6 L))).mpr λt=>?_) (h1.imp λ{a b} hab=>xh hab) ((j6 L).imp λ{a b} hab=>xh hab)
 rw[h3,kD h6]
def d3 (L:List Prt):List Prt:=fE (qt L) L
theorem sK {st:Sto}{kd:Str}{w:W}{L:List Prt} (hw:sT st w L) (h6:∀ p∈L,Trm 6 p.1):dH [.d (.str kd),w] st=some (.d (am kd (d3 L)),st):=by
 obtain⟨ks,k1,k2,k3,k4⟩:=Ch (kd:=kd) hw h6
 rw[rB h6 k1 k3]at k4
 exact k4
theorem lN {b:Bool}{row:Int}{L:List Prt} (h6:∀ p∈L,Trm 6 p.1):aX b (d3 L) row=aX b L row:=Au (iz (j6 L)) (kD h6)
theorem n6 {n:Nat}{L:List Prt} (hn:n<=6) (h:∀ p∈L,Trm n p.1):eE n (d3 L):=by
 have h6:∀ p∈L,Trm 6 p.1:=λp hp=>(h p hp).mono hn
 refine⟨λp hp=>?_,?_⟩
 ·unfold d3 fE at hp
  obtain⟨t,ht,rfl⟩:=qaz.mp hp
  have:=qdn.mp ht
  obtain⟨q,hq,e⟩:=qaz.mp ((kD h6 t).mp this.1)
  exact⟨e ▸ h q hq,of_decide_eq_true this.2⟩
 ·unfold d3 fE
  rw[qaJ]
  have:(qa3 ∘ λt=>(t,bB L t))=(id:List Int->List Int):=rfl
  rw[this,qeu]
  exact (j6 L).filter _
theorem tK {B:Nat}:∀ {l:List Int},(∀ x∈l,x.natAbs<=B)->l.sum.natAbs<=l.length*B
 |[],_=>qaW _
 |x::l,h=>by
  have ih:=tK (l:=l) λy hy=>h y (qah _ hy)
  have h1:=h x qak
  have h2:=qjX x l.sum
  rw[qaQ,qam,qhB];lia
theorem vo {B:Nat}{L:List Prt} (h:∀ q∈L,q.2.natAbs<=B):∀ p∈d3 L,p.2.natAbs<=L.length*B:=λp hp=>by
 unfold d3 fE at hp
 obtain⟨t,_,rfl⟩:=qaz.mp hp
 unfold bB
 refine qaL (tK (B:=B) λx hx=>?_) (qfK _ ?_)
 ·obtain⟨q,hq,rfl⟩:=qaz.mp hx
  exact h q (qdn.mp hq).1
 ·rw[qag];exact qdp _ _
theorem Hh {o:Ef}{a:Af}{env:Ev}{st s1 s2:Sto}{n:Nat}{ds ds0 xs:List D} (ho:o env st=some (.h n,s1)) (ha:a env s1=some ([.d (.lst xs)],s2)) (h0:lg s1 n=some ds0) (hg:lg s2 n=some ds) (hz:ds.length+xs.length<=1000000):jh (gL re o a) env st=some (.nx env (s2.set n (.l (ds++xs)))):=by
 simp only[jh,gL,ho,ha,h0,hg,re,hz,if_true,qaf,qaC]
theorem oi (row:Int):∀ t:List Int,cc row t=(t.length:Int)↔∀ k∈t,onI row k=1
 |[]=>by simp[cc]
 |k::t=>by
  have ih:=oi row t
  have hc:=sE row t
  rw[cc,qam]
  constructor
  ·intro h j hj
   rcases nw row k with e|e
   ·rw[e]at h;push_cast at h;lia
   ·rcases qay.mp hj with rfl|hj
    ·exact e
    ·exact ih.mp (by rw[e]at h;push_cast at h;lia) j hj
  ·intro h
   rw[h k qak,ih.mpr λj hj=>h j (qah _ hj)];push_cast;lia
def cB (row:Int) (m:Nat) (l:List Nat):Int:=(l.map λk=>if m.testBit k=true then onI row (k:Int) else 0).sum
theorem lE (row:Int) (m:Nat):∀ l:List Nat,cc row ((l.filter λk=>m.testBit k).map λk=>((k:Nat):Int))=cB row m l
 |[]=>rfl
 |k::l=>by
  have ih:=lE row m l
  unfold cB at *
  rw[qdb,qal,qaQ,<-ih]
  by_cases h:m.testBit k=true
  ·rw[if_pos h,if_pos h];rfl
  ·rw[if_neg h,if_neg h,qcR]
theorem yo (row:Int) (m1 m2:Nat):∀ l:List Nat,cB row (m2^^^m1) l%2=(cB row m1 l+cB row m2 l)%2
 |[]=>rfl
 |k::l=>by
  have ih:=yo row m1 m2 l
  unfold cB at *
  rw[qal,qal,qal,qaQ,qaQ,qaQ,qd2]
  have h:=nw row (k:Int)
  cases m1.testBit k<;>cases m2.testBit k<;>simp only[qhS,Bool.xor_true,qbr,qeh,qaq,if_true,if_false]<;>lia
def jn (b:Bool) (t u:List Int):List Int:=if b=true then ksI (aK t|||aK u) else ksI (aK u^^^aK t)
theorem xn (b:Bool) (t u:List Int):Trm 6 (jn b t u):=by unfold jn;split<;>exact tR _
theorem FQ {b:Bool}{t u:List Int} (row:Int) (ht:Trm 6 t) (hu:Trm 6 u):bb b (jn b t u) row=bb b t row*bb b u row:=by
 cases b with
 |true=>
  simp only[bb,jn,if_true]
  have hm:(∀ k∈ksI (aK t|||aK u),onI row k=1)↔(∀ k∈t,onI row k=1)/\∀ k∈u,onI row k=1:=by
   have mem:∀ z,z∈ksI (aK t|||aK u)↔z∈t\/z∈u:=λz=>by
    rw[mi]
    constructor
    ·rintro⟨k,rfl,_,h⟩
     rw[qco,bS ht,bS hu,qds,decide_eq_true_eq,decide_eq_true_eq]at h
     exact h
    ·intro h
     have hz:0<=z/\z<6:=h.elim (λh=>ht.2 z h) λh=>hu.2 z h
     obtain⟨k,rfl⟩:=qbB hz.1
     refine⟨k,rfl,by lia,?_⟩
     rw[qco,bS ht,bS hu,qds,decide_eq_true_eq,decide_eq_true_eq]
     exact h
   exact⟨λh=>⟨λk hk=>h k ((mem k).mpr (.inl hk)),λk hk=>h k ((mem k).mpr (.inr hk))⟩,λh k hk=>((mem k).mp hk).elim (h.1 k) (h.2 k)⟩
  rw[<-oi,<-oi,<-oi]at hm
  by_cases h1:cc row t=(t.length:Int)<;>by_cases h2:cc row u=(u.length:Int)
  ·rw[if_pos h1,if_pos h2,if_pos (hm.mpr ⟨h1,h2⟩)];rfl
  ·rw[if_pos h1,if_neg h2,if_neg (λz=>h2 (hm.mp z).2)];rfl
  ·rw[if_neg h1,if_pos h2,if_neg (λz=>h1 (hm.mp z).1)];rfl
  ·rw[if_neg h1,if_neg h2,if_neg (λz=>h1 (hm.mp z).1)];rfl
 |false=>
  simp only[bb,jn,qaq,if_false]
  have e1:cc row t=cB row (aK t) (qaN 6):=by rw[<-lE];exact congrArg _ (eX ht).symm
  have e2:cc row u=cB row (aK u) (qaN 6):=by rw[<-lE];exact congrArg _ (eX hu).symm
  have e3:cc row (ksI (aK u^^^aK t))=cB row (aK u^^^aK t) (qaN 6):=lE row _ _
  have hx:=yo row (aK t) (aK u) (qaN 6)
  rw[<-e1,<-e2,<-e3]at hx
  by_cases h1:cc row t%2=1<;>by_cases h2:cc row u%2=1
  ·rw[if_pos h1,if_pos h2,if_neg (by lia)];rfl
  ·rw[if_pos h1,if_neg h2,if_pos (by lia)];rfl
  ·rw[if_neg h1,if_pos h2,if_pos (by lia)];rfl
  ·rw[if_neg h1,if_neg h2,if_neg (by lia)];rfl
theorem yn {t:List Int} (h:Trm 6 t):in6 t=true:=by
 unfold in6
 refine qaT.mpr λk hk=>?_
 exact decide_eq_true (h.2 k hk)
theorem zl {st:Sto}{b:Bool}{t u:List Int} (ht:Trm 6 t) (hu:Trm 6 u):oY [.d (.str (aC b)),.d (ai t),.d (ai u)] st=some (.d (ai (jn b t u)),st):=by
 have s1:er (iV 1) [some (.d (.str (aC b))),some (.d (ai t)),some (.d (ai u))] st=some (aK t,st):=by
  simp only[er,iV,ai,qa6,qbn,qaC,qaf,bH,yn ht,if_true]
 have s2:er (iV 2) [some (.d (.str (aC b))),some (.d (ai t)),some (.d (ai u))] st=some (aK u,st):=by
  simp only[er,iV,ai,qa6,qbn,qaC,qaf,bH,yn hu,if_true]
 have kb:=mt b
 cases b with
 |true=>
  have e:jA (pq (er (iV 1)) (er (iV 2))) [some (.d (.str (aC true))),some (.d (ai t)),some (.d (ai u))] st=some ((jn true t u).map D.int,st):=by
   simp only[jA,pq,s1,s2,qaf,qaC,DU,jn,if_true]
  exact aD (n:=3) (k:=3) (b:=jH) rfl (iI (nr (aQ (x:=.d (.str (aC true))) rfl rfl (by rw[wS,kb])) (aF (bo (ag (aE e) rfl) rfl))))
 |false=>
  have e:jA (lz (er (iV 1)) (er (iV 2))) [some (.d (.str (aC false))),some (.d (ai t)),some (.d (ai u))] st=some ((jn false t u).map D.int,st):=by
   simp only[jA,lz,s1,s2,qaf,qaC,DU,jn,qaq,if_false]
  exact aD (n:=3) (k:=3) (b:=jH) rfl (ap (fF (aQ (x:=.d (.str (aC false))) rfl rfl (by rw[wS,kb])) rfl) (aF (bo (ag (aE e) rfl) rfl)))
def j7 (b:Bool) (p:Prt) (qs:List Prt):List Prt:=qs.map λq=>(jn b p.1 q.1,p.2*q.2)
def bP (b:Bool) (ps qs:List Prt):List Prt:=(ps.map λp=>j7 b p qs).flatten
theorem p7 (b:Bool) (row:Int) (a c:List Prt):aX b (a++c) row=aX b a row+aX b c row:=by unfold aX;rw[qa5,qfl]
theorem vD {b:Bool}{row:Int}{p:Prt} (hp:Trm 6 p.1):∀ {qs:List Prt},(∀ q∈qs,Trm 6 q.1)->aX b (j7 b p qs) row=p.2*bb b p.1 row*aX b qs row
 |[],_=>by show (0:Int)=_*(0:Int);rw[qeK]
 |q::qs,h=>by
  have ih:=vD (b:=b) (row:=row) hp λx hx=>h x (qah _ hx)
  have e:j7 b p (q::qs)=[(jn b p.1 q.1,p.2*q.2)]++j7 b p qs:=rfl
  have e2:aX b (q::qs) row=q.2*bb b q.1 row+aX b qs row:=by unfold aX;rw[qal,qaQ]
  rw[e,p7,ih,e2]
  have e3:aX b [(jn b p.1 q.1,p.2*q.2)] row=p.2*q.2*bb b (jn b p.1 q.1) row:=by unfold aX;simp
  rw[e3,FQ row hp (h q qak),qgh]
  congr 1
  rw[qbH,qbH]
  congr 1
  rw[<-qbH,qeL q.2,qbH]
theorem rA {b:Bool}{row:Int}{qs:List Prt} (hq:∀ q∈qs,Trm 6 q.1):∀ {ps:List Prt},(∀ p∈ps,Trm 6 p.1)->aX b (bP b ps qs) row=aX b ps row*aX b qs row
 |[],_=>by show (0:Int)=(0:Int)*_;rw[qdQ]
 |p::ps,h=>by
  have ih:=rA (b:=b) (row:=row) hq (ps:=ps) λx hx=>h x (qah _ hx)
  have e:bP b (p::ps) qs=j7 b p qs++bP b ps qs:=by unfold bP;rw[qal,qcz]
  have e2:aX b (p::ps) row=p.2*bb b p.1 row+aX b ps row:=by unfold aX;rw[qal,qaQ]
  rw[e,p7,ih,vD (h p qak) hq,e2,qjw]
theorem r8 {b:Bool}{ps qs:List Prt}:∀ p∈bP b ps qs,Trm 6 p.1:=λp hp=>by
 unfold bP at hp
 obtain⟨l,hl,hp⟩:=qjU.mp hp
 obtain⟨x,_,rfl⟩:=qaz.mp hl
 unfold j7 at hp
 obtain⟨y,_,rfl⟩:=qaz.mp hp
 exact xn _ _ _
theorem rF (b:Bool) (qs:List Prt):∀ ps:List Prt,(bP b ps qs).length=ps.length*qs.length
 |[]=>by simp[bP]
 |p::ps=>by
  have e:bP b (p::ps) qs=j7 b p qs++bP b ps qs:=by unfold bP;rw[qal,qcz]
  rw[e,qa4,rF b qs ps,qam,qhB]
  unfold j7
  rw[qag];lia
theorem vY {b:Bool}{ps qs:List Prt}{i:Nat}{p:Prt} (h:ps[i]?=some p):bP b (ps.take (i+1)) qs=bP b (ps.take i) qs++j7 b p qs:=by
 unfold bP
 rw[qbJ,h,qa5,List.flatten_append]
 simp
theorem CP {st:Sto}{b:Bool}{ps qs:List Prt} (hp:∀ p∈ps,Trm 6 p.1) (hq:∀ q∈qs,Trm 6 q.1) (lp:ps.length<=64) (lq:qs.length<=64) (hb:∀ q∈qs,-(2^64)<q.2/\q.2<2^64) :
  fW [.d (am (aC b) ps),.d (am (aC b) qs)] st=some (.d (am (aC b) (d3 (bP b ps qs))),st):=by
 have hlc:∀ (p:Prt),Trm 6 p.1->∀ s,lcI (.tp [0,1]) cr jp [none,none,some (.d (.str (aC b))),some (.d (ai p.1)),some (.d (.int p.2))] (qs.map ar) s=some ((j7 b p qs).map ar,s):=λp h1 s=>by
  unfold j7
  rw[qaJ]
  refine je _ λq hm=>⟨_,rfl,?_⟩
  have e:=zl (st:=s) (b:=b) h1 (hq q hm)
  exact ci (ag (aq rfl e) (ag (au (x:=.d (.int p.2)) (y:=.d (.int q.2)) (d:=.int (p.2*q.2)) rfl rfl (by
   show (if qbU p.2 q.2 then some (D.int (p.2*q.2)) else none)=_
   rw[if_pos (fJ (hb q hm))])) rfl)) rfl (by show 2<=1000;decide)
 obtain⟨e',s',hF,o4,o5,rfl,rfl⟩:=bN (g:=.tp [4,5]) (body:=jB) (ds:=ps.map ar) (λi env s=>∃ o4 o5,env=[some (.d (am (aC b) ps)),some (.d (am (aC b) qs)),some (.d (.str (aC b))),some (.h st.length),o4,o5]/\s=st++[.l ((bP b (ps.take i) qs).map ar)])
  (env:=[some (.d (am (aC b) ps)),some (.d (am (aC b) qs)),some (.d (.str (aC b))),some (.h st.length),none,none]) (st:=st++[.l []]) ⟨none,none,rfl,rfl⟩ (by
  rintro i d env s hd ⟨o4,o5,rfl,rfl⟩
  obtain⟨p,hpi,rfl⟩:=mO hd
  have hmem:=qbl hpi
  have hl:=hlc p (hp p hmem) (st++[.l ((bP b (ps.take i) qs).map ar)])
  have hg2:lg (st++[C.l ((bP b (ps.take i) qs).map ar)]) st.length=some ((bP b (ps.take i) qs).map ar):=by
   unfold lg
   rw[qbi (qap _),qdP];rfl
  have hln:(bP b (ps.take i) qs).length<=64*64:=by
   rw[rF]
   exact qfU (qaL (List.length_take_le _ _) (by have:=(qax.mp hpi).1;lia)) lq
  have hz:((bP b (ps.take i) qs).map ar).length+((j7 b p qs).map ar).length<=1000000:=by
   unfold j7
   rw[qag,qag,qag];lia
  have hset:(st++[C.l ((bP b (ps.take i) qs).map ar)]).set st.length (.l ((bP b (ps.take i) qs).map ar++(j7 b p qs).map ar))=st++[.l ((bP b (ps.take (i+1)) qs).map ar)]:=by
   rw[qei _ _ (qap _),qdP,vY hpi,qa5];rfl
  refine⟨_,_,_,rfl,.inl ?_,some (.d (ai p.1)),some (.d (.int p.2)),rfl,rfl⟩
  rw[<-hset]
  have hz2:(qs.map ar).length<=1000000:=by rw[qag];lia
  unfold am
  generalize (j7 b p qs).map ar=RL at hl hz
  generalize (bP b (ps.take i) qs).map ar=AC at hl hg2 hz
  generalize qs.map ar=QQ at hl hz2
  generalize ps.map ar=PP
  have q1:=aE (bW (k:=2) (js:=[2,4,5]) (env:=[some (.d (.tup [.str (aC b),.tup PP])),some (.d (.tup [.str (aC b),.tup QQ])),some (.d (.str (aC b))),some (.h st.length),some (.d (ai p.1)),some (.d (.int p.2))]) (fk (f:=iOp dIx (iV 1) (iC (.int 1))) (au rfl rfl (ix1 _ _ _ _))) hz2 hl)
  have q2:=ag (b:=ak) q1 rfl
  exact Hh (o:=iV 3) rfl q2 hg2 hg2 hz)
 rw[qag,qbv]at hF
 have hw:sT (st++[C.l ((bP b ps qs).map ar)]) (.h st.length) (bP b ps qs):=.inr (.inr ⟨_,rfl,by
  unfold lg
  rw[qbi (qap _),qdP];rfl⟩)
 have k4:=sK (kd:=aC b) hw r8
 generalize d3 (bP b ps qs)=R at k4 ⊢
 have hq2:=ix (n:=6) (k:=2) (b:=fZ) (ws:=[.d (am (aC b) ps),.d (am (aC b) qs)]) (st:=st) (s:=st++[C.l ((bP b ps qs).map ar)]) (x:=am (aC b) R) rfl
  (ap (aR (w:=.d (.str (aC b))) (s:=st) (au rfl rfl (ix0 _ _ _))) (ap (aR (w:=.h st.length) (s:=st++[C.l []]) rfl) (ap (dg (fk (au rfl rfl (ix1 _ _ _ _))) hF) (aF (aq rfl k4)))))
 have ht:(st++[C.l ((bP b ps qs).map ar)]).take st.length=st:=by rw[qhl];rfl
 rw[ht]at hq2
 exact hq2
theorem GC {b:Bool}{n:Nat}{t u:List Int} (hn:n<=6) (ht:Trm n t) (hu:Trm n u):Trm n (jn b t u):=by
 have key:∀ k:Nat,((aK t).testBit k=true\/(aK u).testBit k=true)->(k:Int)<n:=λk h=>by
  rw[bS (ht.mono hn),bS (hu.mono hn),decide_eq_true_eq,decide_eq_true_eq]at h
  exact h.elim (λh=>(ht.2 _ h).2) λh=>(hu.2 _ h).2
 refine⟨(xn b t u).1,λz hz=>⟨((xn b t u).2 z hz).1,?_⟩⟩
 unfold jn at hz
 split at hz
 ·obtain⟨k,rfl,_,h⟩:=mi.mp hz
  rw[qco,qds]at h
  exact key k h
 ·obtain⟨k,rfl,_,h⟩:=mi.mp hz
  rw[qd2]at h
  refine key k ?_
  cases h1:(aK t).testBit k with
  |true=>exact .inl rfl
  |false=>
   rw[h1,qhS]at h
   exact .inr h
theorem AR {b:Bool}{n:Nat}{ps qs:List Prt} (hn:n<=6) (hp:∀ p∈ps,Trm n p.1) (hq:∀ q∈qs,Trm n q.1):∀ p∈bP b ps qs,Trm n p.1:=λp h=>by
 unfold bP at h
 obtain⟨l,hl,h⟩:=qjU.mp h
 obtain⟨x,hx,rfl⟩:=qaz.mp hl
 unfold j7 at h
 obtain⟨y,hy,rfl⟩:=qaz.mp h
 exact GC hn (hp x hx) (hq y hy)
theorem oz (b:Bool) (row c:Int):∀ ps:List Prt,aX b (ps.map λp=>(p.1,c*p.2)) row=c*aX b ps row
 |[]=>by show (0:Int)=c*0;rw[qeK]
 |p::ps=>by
  have ih:=oz b row c ps
  have e2:aX b (p::ps) row=p.2*bb b p.1 row+aX b ps row:=by unfold aX;rw[qal,qaQ]
  have e3:aX b ((p::ps).map λp=>(p.1,c*p.2)) row=c*p.2*bb b p.1 row+aX b (ps.map λp=>(p.1,c*p.2)) row:=by unfold aX;rw[qal,qal,qaQ]
  rw[e2,e3,ih,qgh,qbH]
theorem AG {st:Sto}{b:Bool}{ps:List Prt}{c:Int} (hp:∀ p∈ps,Trm 6 p.1) (lp:ps.length<=64) (hc:-(2^64)<c/\c<2^64) :
  om [.d (am (aC b) ps),.d (.int c)] st=some (.d (am (aC b) (d3 (ps.map λp:Prt=>((p.1,c*p.2):Prt)))),st):=by
 have h6:∀ p∈ps.map (λp:Prt=>((p.1,c*p.2):Prt)),Trm 6 p.1:=λp hm=>by
  obtain⟨q,hq,rfl⟩:=qaz.mp hm
  exact hp q hq
 have key:lcI (.tp [0,1]) cr rT [none,none,some (.d (.int c))] (ps.map ar) st=some ((ps.map λp:Prt=>((p.1,c*p.2):Prt)).map ar,st):=by
  rw[qaJ]
  refine je _ λq hm=>⟨_,rfl,?_⟩
  exact ci (ag rfl (ag (au (x:=.d (.int c)) (y:=.d (.int q.2)) (d:=.int (c*q.2)) rfl rfl (by
   show (if qbU c q.2 then some (D.int (c*q.2)) else none)=_
   rw[if_pos (lh hc)])) rfl)) rfl (by show 2<=1000;decide)
 have k4:=sK (st:=st) (kd:=aC b) (w:=.d (.lst ((ps.map λp:Prt=>((p.1,c*p.2):Prt)).map ar))) (.inr (.inl rfl)) h6
 generalize d3 (ps.map λp:Prt=>((p.1,c*p.2):Prt))=R at k4 ⊢
 have hz:(ps.map ar).length<=1000000:=by rw[qag];lia
 generalize (ps.map λp:Prt=>((p.1,c*p.2):Prt)).map ar=LL at *
 unfold am at k4 ⊢
 generalize ps.map ar=PP at *
 exact aD (n:=2) (k:=2) (b:=oh) rfl (aF (aq (ag (au rfl rfl (ix0 _ _ _)) (ag (aE (bW (fk (au rfl rfl (ix1 _ _ _ _))) hz key)) rfl)) k4))
end Own
end
section
set_option maxHeartbeats 1000000
namespace Own
open PySem L2
theorem mq (b:Bool) (row:Int):∀ (t:List Int) (a:Int),(t.foldl (λv k=>v*kH b (onI row k)) a)=a*bb b t row
 |[],a=>by cases b<;>simp[bb,cc]
 |k::t,a=>by
  rw[qby,mq b row t]
  have hc:=sE row t
  rw[qbH]
  congr 1
  cases b with
  |true=>
   simp only[kH,if_true,bb,cc,qam]
   rcases nw row k with e|e
   ·simp only[e,qdQ]
    split
    ·push_cast at *;lia
    ·rfl
   ·simp only[e,qe5]
    split<;>split<;>first|rfl|(push_cast at *;lia)
  |false=>
   simp only[kH,qaq,if_false,bb,cc]
   rcases nw row k with e|e
   ·simp only[e,qcR]
    split<;>rfl
   ·simp only[e]
    split<;>split<;>first|rfl|lia
theorem rG (b:Bool) (t:List Int) (k row:Int):bb b (t++[k]) row=bb b t row*kH b (onI row k):=by
 have h1:=mq b row (t++[k]) 1
 have h2:=mq b row t 1
 rw[qea,h2,qe5,qe5]at h1
 exact h1.symm
theorem pB {α:Type} (a:α->Int) (c:Int):∀ l:List α,(l.map λx=>a x*c).sum=(l.map a).sum*c
 |[]=>by show (0:Int)=0*c;rw[qdQ]
 |x::l=>by rw[qal,qal,qaQ,qaQ,pB a c l,qjw]
theorem oH {α:Type} (a:α->Int) (c:Int):∀ l:List α,(l.map λx=>c*a x).sum=c*(l.map a).sum
 |[]=>by show (0:Int)=c*0;rw[qeK]
 |x::l=>by rw[qal,qal,qaQ,qaQ,oH a c l,qgh]
theorem uB {α β:Type} (F:α->β->Int) (m:List β):∀ l:List α,(l.map λt=>(m.map λr=>F t r).sum).sum=(m.map λr=>(l.map λt=>F t r).sum).sum
 |[]=>by
  show (0:Int)=(m.map λ_=>(0:Int)).sum
  rw[ji]
 |t::l=>by
  rw[qal,qaQ,uB F m l,<-sD]
  rfl
theorem rq (s:Nat->Int) (C:Int) (x:Nat):∀ l:List Nat,l.Nodup->x∈l->(l.map λr=>s r*(if r=x then C else 0)).sum=s x*C
 |[],_,h=>by cases h
 |r::l,hn,h=>by
  rw[qal,qaQ]
  rw[qbR]at hn
  by_cases e:r=x
  ·subst e
   have:(l.map λy=>s y*(if y=r then C else 0))=l.map λ_=>(0:Int):=qaP λy hy=>by
    rw[if_neg (λz:y=r=>hn.1 (z ▸ hy)),qeK]
   rw[this,ji,if_pos rfl,qg4]
  ·rw[if_neg e,qeK,qcR]
   exact rq s C x l hn.2 ((qay.mp h).resolve_left λz=>e z.symm)
def orP (r q:Int):Nat->Int
 |0=>1
 |n+1=>orP r q n*(1+kH false (onI r n)*kH false (onI q n))
theorem Ed (r q:Int):∀ n:Nat,((fD n).map λt=>bb false t r*bb false t q).sum=orP r q n
 |0=>by simp[fD,orP,bb,cc]
 |n+1=>by
  rw[fD,qa5,qfl,qaJ,Ed r q n,orP,qgh,qgg]
  congr 1
  rw[<-Ed r q n,<-pB]
  congr 1
  refine qaP λt _=>?_
  show bb false (t++[(n:Int)]) r*bb false (t++[(n:Int)]) q=_
  rw[rG,rG]
  generalize bb false t r=a
  generalize bb false t q=b
  generalize kH false (onI r n)=c
  generalize kH false (onI q n)=d
  rw[qbH,qeg c b d,<-qbH]
theorem Bc (r q k:Int):kH false (onI r k)*kH false (onI q k)=if onI r k=onI q k then 1 else -1:=by
 rcases nw r k with a|a<;>rcases nw q k with b|b<;>rw[a,b]<;>decide
theorem uj (r q:Int) {k:Nat} (h:onI r k≠onI q k):∀ n:Nat,k<n->orP r q n=0
 |0,hk=>by lia
 |n+1,hk=>by
  rw[orP]
  by_cases e:k=n
  ·subst e
   rw[Bc,if_neg h];show _*(0:Int)=0;rw[qeK]
  ·rw[uj r q h n (by lia),qdQ]
theorem vT (r:Int):∀ n:Nat,orP r r n=2^n
 |0=>rfl
 |n+1=>by rw[orP,vT r n,Bc,if_pos rfl,qg3];rfl
theorem xz (r k:Nat):onI (r:Int) (k:Int)=((r / 2^k%2:Nat):Int):=by
 unfold onI
 rw[qaK];push_cast;rfl
theorem uh {n r q:Nat} (hr:r<2^n) (hq:q<2^n) (h:r≠q):∃ k,k<n/\onI (r:Int) (k:Int)≠onI (q:Int) (k:Int):=by
 apply qch
 intro hc
 refine h (qcv λk=>?_)
 by_cases hk:k<n
 ·have:onI (r:Int) (k:Int)=onI (q:Int) (k:Int):=qch λz=>hc ⟨k,hk,z⟩
  rw[xz,xz]at this
  have h2:r / 2^k%2=q / 2^k%2:=by lia
  rw[qgE,qgE,h2]
 ·have hp:2^n<=2^k:=qbA (by decide) (by lia)
  rw[qix (qaR hr hp),qix (qaR hq hp)]
theorem Bs {n r q:Nat} (hr:r<2^n) (hq:q<2^n):((fD n).map λt=>bb false t (r:Int)*bb false t (q:Int)).sum=if r=q then 2^n else 0:=by
 rw[Ed]
 by_cases e:r=q
 ·subst e;rw[if_pos rfl,vT]
 ·obtain⟨k,hk,hd⟩:=uh hr hq e
  rw[if_neg e,uj _ _ hd n hk]
theorem yE (s:Nat->Int) {n row:Nat} (h:row<2^n):((fD n).map λt=>((qaN (2^n)).map λr:Nat=>s r*bb false t (r:Int)).sum*bb false t (row:Int)).sum=2^n*s row:=by
 have e1:((fD n).map λt=>((qaN (2^n)).map λr:Nat=>s r*bb false t (r:Int)).sum*bb false t (row:Int))=(fD n).map λt=>((qaN (2^n)).map λr:Nat=>s r*bb false t (r:Int)*bb false t (row:Int)).sum:=qaP λt _=>(pB _ _ _).symm
 rw[e1,uB]
 have e2:((qaN (2^n)).map λr:Nat=>((fD n).map λt=>s r*bb false t (r:Int)*bb false t (row:Int)).sum)=(qaN (2^n)).map λr:Nat=>s r*(if r=row then 2^n else 0):=qaP λr hr=>by
  rw[<-Bs (qbz.mp hr) h,<-oH]
  congr 1
  refine qaP λt _=>?_
  rw[qbH]
 rw[e2,rq s (2^n) row _ qgY (qbz.mpr h),qeL]
theorem Gw {c:Tf}{b:Sf}{n:Nat}{env:Ev}{st s:Sto} (h:c env st=some (false,s)):di c b (n+1) env st=some (.nx env s):=by
 unfold di
 rw[h,qaf,if_neg qan]
theorem G9 {c:Tf}{b:Sf}{n:Nat}{env e:Ev}{st s s2:Sto} (h:c env st=some (true,s)) (hb:b env s=some (.nx e s2)):di c b (n+1) env st=di c b n e s2:=by
 rw[di,h,qaf,if_pos rfl,hb,qaf]
theorem Dh {st:Sto}{f:D}{L:Int}{n:Nat} (hL:L=((2^n:Nat):Int)) (hf:∀ s,eA s [.d f]=some (.int L)):∀ (g j fuel:Nat) (many:Int),j+g=n->n<=60->g<fuel->di de ft fuel [some (.d f),some (.d (.int many)),some (.d (.int ((2^j:Nat):Int)))] st=some (.nx [some (.d f),some (.d (.int (many+g))),some (.d (.int ((2^n:Nat):Int)))] st):=by
 intro g
 induction g with
 |zero=>
  intro j fuel many hj hn hf'
  obtain⟨k,rfl⟩:∃ k,fuel=k+1:=⟨fuel - 1,by lia⟩
  have e:j=n:=by lia
  subst e
  have hc:de [some (.d f),some (.d (.int many)),some (.d (.int ((2^j:Nat):Int)))] st=some (false,st):=by
   refine aQ rfl (bo rfl (hf st)) ?_
   show some (D.bl (decide (((2^j:Nat):Int)<L)))=_
   rw[hL];simp
  rw[Gw hc]
  simp
 |succ g ih=>
  intro j fuel many hj hn hf'
  obtain⟨k,rfl⟩:∃ k,fuel=k+1:=⟨fuel - 1,by lia⟩
  have e:=ih (j+1) k (many+1) (by lia) hn (by lia)
  have hlt:2^j<2^n:=qfJ (by decide) (by lia)
  have hc:de [some (.d f),some (.d (.int many)),some (.d (.int ((2^j:Nat):Int)))] st=some (true,st):=by
   refine aQ rfl (bo rfl (hf st)) ?_
   show some (D.bl (decide (((2^j:Nat):Int)<L)))=_
   rw[hL,decide_eq_true (by lia)]
  have e2:((2^(j+1):Nat):Int)=((2^j:Nat):Int)*2:=by rw[qgW];push_cast;rfl
  have km:qbU (((2^j:Nat):Int)) 2:=fJ (by decide)
  have hb:ft [some (.d f),some (.d (.int many)),some (.d (.int ((2^j:Nat):Int)))] st=some (.nx [some (.d f),some (.d (.int (many+1))),some (.d (.int ((2^(j+1):Nat):Int)))] st):=by
   rw[e2]
   refine ap (aR (au rfl rfl ?_)) rfl
   show (if qh9 _ 2 then some (D.int (((2^j:Nat):Int)*2)) else none)=_
   rw[if_pos km]
  rw[G9 hc hb,e]
  have e3:many+1+(g:Int)=many+((g+1:Nat):Int):=by push_cast;lia
  rw[e3]
theorem ny {st:Sto}{f:List Int}{n:Nat} (hf:f.length=2^n) (hn:n<=6):dn [.d (ai f)] st=some (.d (.int n),st):=by
 have e:=Dh (st:=st) (f:=ai f) (L:=((2 ^ n:Nat):Int)) (n:=n) rfl (λs=>by
  show some (D.int ((f.map D.int).length:Int))=_
  rw[qag,hf]) n 0 1000000000000000000000000000000 0 (by lia) (by lia) (by lia)
 rw[qcR]at e
 exact aD rfl (ap (e:=[some (.d (ai f)),some (.d (.int 0)),none]) (s:=st) rfl (ap (e:=[some (.d (ai f)),some (.d (.int 0)),some (.d (.int 1))]) (s:=st) rfl (ap e rfl)))
theorem wR {st:Sto}{n m:Int} (n0:0<=n) (n1:n<=6) (m0:0<=m):kL [.d (.int n),.d (.int m)] st=some (.d (.tup (((cG n.toNat).filter λt=>decide ((t.length:Int)<=m)).map ai)),st):=by
 obtain⟨env',s2,e2,o,rfl,rfl⟩:=bN (g:=.nm 3) (body:=ly) (ds:=gk 0 n.toNat) (λi env s=>∃ o,env=[some (.d (.int n)),some (.d (.int m)),some (.d (.lst ((eB m i).map ai))),o]/\s=st) (env:=[some (.d (.int n)),some (.d (.int m)),some (.d (.lst [.tup []])),none]) (st:=st)
  ⟨none,rfl,rfl⟩ (λi d env s hd ⟨o,e,es⟩=>by
   subst e es
   obtain⟨rfl,hi⟩:=gY hd
   have hl:(eB m i).length<=64:=qaL (ue m m0 i) (qaL (qbA (by decide) (by lia:i<=6)) (by decide))
   have ht:∀ t∈eB m i,t.length<=i:=λt ht=>by
    rw[nV m m0]at ht
    exact iS (jy i (qdn.mp ht).1)
   have key:lcI (.nm 0) lX lY [none,some (.d (.int m)),some (.d (.int i))] ((eB m i).map ai) s =
     some ((((eB m i).map ai).filter λd=>match d with|.tup ds=>decide ((ds.length:Int)<m)|_=>false).map λd=>match d with|.tup ds=>.tup (ds++[.int i])|d=>d,s):=d8 _ _ λd hd=>by
    obtain⟨t,htm,rfl⟩:=qaz.mp hd
    have htl:=ht t htm
    have hk:(t.map D.int).length+1<=1000000:=by rw[qag];lia
    exact⟨_,rfl,aQ (bo rfl rfl) rfl rfl,λ_=>au rfl (ci (ds:=[.int i]) (ag rfl rfl) rfl (by show 1<=1000;decide)) (BO _ hk)⟩
   have e1:((((eB m i).map ai).filter λd=>match d with|.tup ds=>decide ((ds.length:Int)<m)|_=>false).map λd=>match d with|.tup ds=>.tup (ds++[.int i])|d=>d) =
     (((eB m i).filter λt=>decide ((t.length:Int)<m)).map λt=>t++[(i:Int)]).map ai:=by
    rw[qev,qaJ,qaJ]
    have e0:((λd=>match d with|.tup ds=>decide ((ds.length:Int)<m)|_=>false) ∘ ai)=λt:List Int=>decide ((t.length:Int)<m):=by
     funext t
     show decide (((t.map D.int).length:Int)<m)=_
     rw[qag]
    rw[e0]
    refine qaP λt _=>?_
    show D.tup (t.map D.int++[.int i])=D.tup ((t++[(i:Int)]).map D.int)
    rw[qa5];rfl
   rw[e1]at key
   have e3:(eB m (i+1)).map ai=(eB m i).map ai++(((eB m i).filter λt=>decide ((t.length:Int)<m)).map λt=>t++[(i:Int)]).map ai:=by rw[eB,qa5]
   have h1:((eB m i).map ai).length<=1000000:=by rw[qag];lia
   have h2:((eB m i).map ai).length+((((eB m i).filter λt=>decide ((t.length:Int)<m)).map λt=>t++[(i:Int)]).map ai).length<=1000000:=by
    have:=qdp (λt:List Int=>decide ((t.length:Int)<m)) (eB m i)
    simp only[qag];lia
   refine⟨_,[some (.d (.int n)),some (.d (.int m)),some (.d (.lst ((eB m (i+1)).map ai))),some (.d (.int i))],s,rfl,.inl ?_,_,rfl,rfl⟩
   rw[e3]
   generalize (((eB m i).filter λt=>decide ((t.length:Int)<m)).map λt=>t++[(i:Int)]).map ai=B at key h2 ⊢
   generalize (eB m i).map ai=A at key h1 h2 ⊢
   exact aR (i:=2) (au rfl (aE (bW (gh rfl) h1 key)) (Ek _ h2)))
 rw[cQ]at e2
 have hl:((eB m n.toNat).map ai).length<=64:=by
  rw[qag]
  exact qaL (ue m m0 _) (qaL (qbA (by decide) (by lia:n.toNat<=6)) (by decide))
 have hs:oO ((eB m n.toNat).map ai)=some (((cG n.toNat).filter λt=>decide ((t.length:Int)<=m)).map ai):=by
  have e9:aZ (eB m n.toNat)=(cG n.toNat).filter λt=>decide ((t.length:Int)<=m):=by rw[nV m m0,qB];rfl
  rw[pi,e9]
 generalize (eB m n.toNat).map ai=A at e2 hl hs
 generalize ((cG n.toNat).filter λt=>decide ((t.length:Int)<=m)).map ai=B at hs ⊢
 have hst:jq s2 [.d (.lst A)]=some B:=by
  show (if A.length<=64 then oO A else none)=_
  rw[if_pos hl,hs]
 have hq:iCL jq (ab (iV 2) ak) [some (.d (.int n)),some (.d (.int m)),some (.d (.lst A)),o] s2=some (B,s2):=by
  have q:=ag (a:=iV 2) (b:=ak) (env:=[some (.d (.int n)),some (.d (.int m)),some (.d (.lst A)),o]) (st:=s2) (x:=.d (.lst A)) rfl rfl
  simp only[iCL,q,qaf,hst,qaC]
 exact aD (n:=4) (k:=2) (b:=iK) rfl (ap (aR (i:=2) (aE (mo (ds:=[.tup []]) (ag (ci (ds:=[]) rfl rfl (by decide)) rfl) rfl (by show 1<=1000;decide)))) (ap (dg (ip rfl n0 (by lia) rfl) e2) (aF (bo (ag (aE hq) rfl) rfl))))
theorem xV (st:Sto) (ds:List D):lg (st++[C.l ds]) st.length=some ds:=by
 unfold lg
 rw[qbi (qap _),qdP];rfl
theorem AN (st:Sto) (x y:C):(st++[x]).set st.length y=st++[y]:=by
 rw[qei _ _ (qap _),qdP];rfl
theorem qY (st:Sto) (x:C):(st++[x]).take st.length=st:=by rw[qhl];rfl
def sI (v:Int):Int:=if v=1 then 1 else -1
theorem mZ (g:Int->Int):∀ (f:List Int) (i:Nat),sgS g i (f.map D.int)=((qaN f.length).map λr:Nat=>sI (f.getD r 0)*g ((i+r:Nat):Int)).sum
 |[],_=>rfl
 |v::f,i=>by
  rw[qal,qam,qir,qal,qaQ,qaJ]
  show sgD (.int v)*g i+sgS g (i+1) (f.map D.int)=_
  rw[mZ g f (i+1)]
  congr 1
  congr 1
  refine qaP λr _=>?_
  show sI (f.getD r 0)*g ((i+1+r:Nat):Int)=sI ((v::f).getD (r+1) 0)*g ((i+(r+1):Nat):Int)
  rw[qbn,show i+1+r=i+(r+1) by lia]
theorem Ah {α:Type} (f:α->Int) {l m:List α} (h:l.Perm m):(l.map f).sum=(m.map f).sum:=by
 induction h with
 |nil=>rfl
 |cons x _ ih=>rw[qal,qal,qaQ,qaQ,ih]
 |swap x y l=>simp only[qal,qaQ];lia
 |trans _ _ a b=>exact a.trans b
def exN (f:List Int) (t:List Int):Int:=sgS (bb false t) 0 (f.map D.int)
def exL (f:List Int) (n:Nat):List Prt:=(cG n).map λt=>(t,exN f t)
theorem DT {f:List Int}{n row:Nat} (hf:f.length=2^n) (h:row<2^n):aX false (exL f n) (row:Int)=2^n*sI (f.getD row 0):=by
 unfold aX exL
 rw[qaJ,<-yE (λr=>sI (f.getD r 0)) h]
 refine (Ah _ (aS (fD n))).trans ?_
 congr 1
 refine qaP λt _=>?_
 show exN f t*bb false t row=_
 rw[exN,mZ,hf]
 congr 2
 refine qaP λr _=>?_
 rw[qbt]
theorem kI:∀ n:Nat,(fD n).Nodup
 |0=>by simp[fD]
 |n+1=>by
  rw[fD,qdv]
  refine⟨kI n,?_,?_⟩
  ·refine qkP _ (λa b hab=>?_) (kI n)
   intro e
   exact hab (List.append_cancel_right e)
  ·intro a ha b hb e
   subst e
   obtain⟨t,_,rfl⟩:=qaz.mp hb
   have:=(jy n ha).2 (n:Int) (qav _ (qaI.mpr rfl))
   lia
theorem wD (n:Nat):(cG n).Nodup:=(aS _).nodup_iff.mpr (kI n)
theorem uQ (f:List Int) (n:Nat):(exL f n).map qa3=cG n:=by
 unfold exL
 rw[qaJ]
 conv=>rhs;rw[<-qeu (cG n)]
 rfl
theorem oj {f:List Int}{n:Nat}:∀ p∈exL f n,Trm n p.1:=λp hp=>by
 obtain⟨t,ht,rfl⟩:=qaz.mp hp
 exact jC ht
theorem Bh {st:Sto}{f:List Int}{n:Nat} (hf:f.length=2^n) (hn:n<=6) (hv:∀ v∈f,v=0\/v=1) :
  ∃ ks:List (List Int),ks.Pairwise ltL/\ks.Nodup/\(∀ t,t∈ks↔t∈(exL f n).map qa3)/\d7 [.d (ai f)] st=some (.d (am (aC false) (fE ks (exL f n))),st):=by
 have h6:∀ p∈exL f n,Trm 6 p.1:=λp hp=>(oj p hp).mono hn
 have hsw:=ny (st:=st) hf hn
 have h64:f.length<=64:=by rw[hf];exact qaL (qbA (by decide) hn) (by decide)
 have hvf:∀ u∈f.map D.int,zU u:=λu hu=>by
  obtain⟨v,h,rfl⟩:=qaz.mp hu
  rcases hv v h with rfl|rfl
  ·exact .inr (.inl rfl)
  ·exact .inr (.inr rfl)
 obtain⟨e',s',hF,o3,kvs,rfl,rfl,G⟩:=bN (g:=.nm 3) (body:=eO) (ds:=(cG n).map ai) (λi env s=>∃ o3 kvs,env=[some (.d (ai f)),some (.d (.int n)),some (.h st.length),o3]/\s=st++[.m kvs]/\GK kvs ((exL f n).take i))
  (env:=[some (.d (ai f)),some (.d (.int n)),some (.h st.length),none]) (st:=st++[.m []]) ⟨none,[],rfl,rfl,GK.nil⟩ (by
  rintro i d env s hd ⟨o3,kvs,rfl,rfl,G⟩
  rw[qaZ,qad]at hd
  obtain⟨t,ht,rfl⟩:=hd
  have htr:=(jC (qbl ht)).mono hn
  have hp:(exL f n)[i]?=some (t,exN f t):=by unfold exL;rw[qaZ,ht];rfl
  have htk:(exL f n).take (i+1)=(exL f n).take i++[(t,exN f t)]:=by rw[qbJ,hp];rfl
  have hnew:t∉((exL f n).take i).map qa3:=λhm=>by
   rw[qh8,uQ]at hm
   have hnd:=wD n
   rw[<-qcO i (cG n),qdv]at hnd
   exact hnd.2.2 t hm t (qiA.mpr ⟨0,by rw[List.getElem?_drop];exact ht⟩) rfl
  have G2:=G.put (t,exN f t)
  rw[qj hnew,qcR]at G2
  have hlen:=zT G λq hq=>h6 q (qfE hq)
  have hs:=BS (st:=st++[C.m kvs]) (fs:=f.map D.int) (b:=false) (t:=t) (by rw[qag];lia) hvf (Eb htr (qap 6)) (by have:=iS htr;lia)
  refine⟨_,_,_,rfl,.inl ?_,some (.d (ai t)),kM kvs t (.int (exN f t)),rfl,rfl,by rw[htk];exact G2⟩
  have e1:ba (t.map D.int)=some t:=bH t
  have e2:=md st kvs
  have e4:(st++[C.m kvs]).set st.length (.m (kM kvs t (.int (exN f t))))=st++[.m (kM kvs t (.int (exN f t)))]:=by
   rw[qei _ _ (qap _),qdP];rfl
  have hl:kvs.length<1000:=by lia
  have g2:ax lx (ab (iV 0) (ab (iC (.str "odd")) (ab (iV 3) ak))) [some (.d (ai f)),some (.d (.int n)),some (.h st.length),some (.d (ai t))] (st++[C.m kvs])=some (.d (.int (exN f t)),st++[C.m kvs]):=aq rfl hs
  simp only[ai]at g2 ⊢
  simp only[eO,rK,g2,iV,qdU,qdT,qa6,qbn,qaC,qaf,e1,e2,hl,if_true,e4])
 rw[qag,<-uQ f n,qag,qbv]at G
 refine⟨aZ (kvs.map qa3),jV G.nd,(aS _).nodup_iff.mpr G.nd,λt=>((aS _).mem_iff).trans (G.mem t),?_⟩
 have hfr:fj [.d (.str "odd"),.h st.length] (st++[C.m kvs])=some (.d (am (aC false) (fE (aZ (kvs.map qa3)) (exL f n))),st++[C.m kvs]):=yc (kd:=aC false) (md st kvs) G h6
 generalize fE (aZ (kvs.map qa3)) (exL f n)=R at hfr ⊢
 have hto:=wR (st:=st++[C.m []]) (n:=n) (m:=n) (by lia) (by lia) (by lia)
 have hflt:((cG (n:Int).toNat).filter λt=>decide ((t.length:Int)<=(n:Int)))=cG n:=by
  rw[qaK]
  refine qfX.mpr λt ht=>?_
  have:=iS (jC ht)
  exact decide_eq_true (by lia)
 rw[hflt]at hto
 have hq:=ix (n:=4) (k:=1) (b:=ek) (ws:=[.d (ai f)]) (st:=st) (s:=st++[C.m kvs]) (x:=am (aC false) R) rfl
  (ap (aR (i:=1) (aq rfl hsw)) (ap (aR (i:=2) (w:=.h st.length) (s:=st++[C.m []]) rfl) (ap (dg (fk (aq rfl hto)) hF) (aF (aq rfl hfr)))))
 rw[qY]at hq
 exact hq
end Own
end
section
set_option maxHeartbeats 1000000
namespace Own
open PySem L2
def mvP (m:Int) (p:Prt):Prt:=(p.1.map (·+m),p.2)
theorem E1 {te:Ef}{st:Sto}{m:Int} (hte:∀ k:Int,te [some (.d (.int k)),some (.d (.int m))] st=some (.d (.int (k+m)),st)) (t:List Int):lcI (.nm 0) cr te [none,some (.d (.int m))] (t.map D.int) st=some ((t.map (·+m)).map D.int,st):=by
 have:(t.map (·+m)).map D.int=(t.map D.int).map λd=>match d with|.int k=>.int (k+m)|d=>d:=by rw[qaJ,qaJ];rfl
 rw[this]
 exact jZ _ λd hd=>by
  obtain⟨k,_,rfl⟩:=qaz.mp hd
  exact⟨_,rfl,hte k⟩
theorem BK {st:Sto}{kd:Str}{ps:List Prt}{m:Int} (hl:ps.length<=1000) (hp:∀ p∈ps,p.1.length<=1000):lZ [.d (am kd ps),.d (.int m)] st=some (.d (am kd (ps.map (mvP m))),st):=by
 have key:lcI (.tp [0,1]) cr rY [none,none,some (.d (.int m))] (ps.map ar) st=some (ps.map λp=>ar (mvP m p),st):=je _ λp hm=>by
  refine⟨_,rfl,?_⟩
  have k2:=E1 (te:=rH) (st:=st) (m:=m) (λk=>rfl) p.1
  have hz:(p.1.map D.int).length<=1000000:=by rw[qag];have:=hp p hm;lia
  show _=some (W.d (.tup [.tup ((p.1.map (·+m)).map D.int),.int p.2]),st)
  generalize (p.1.map (·+m)).map D.int=L at k2 ⊢
  unfold ai
  generalize p.1.map D.int=PP at k2 hz ⊢
  exact ci (ag (bo (ag (aE (bW (dP rfl) hz k2)) rfl) rfl) (ag rfl rfl)) rfl (by show 2<=1000;decide)
 have hz:(ps.map ar).length<=1000000:=by rw[qag];lia
 have em:(ps.map (mvP m)).map ar=ps.map λp=>ar (mvP m p):=by rw[qaJ];rfl
 unfold am
 rw[em]
 generalize (ps.map λp=>ar (mvP m p))=L at key ⊢
 generalize ps.map ar=PP at key hz ⊢
 exact aD (n:=2) (k:=2) (b:=nZ) rfl (aF (ci (ag (au rfl rfl (ix0 _ _ _)) (ag (bo (ag (aE (bW (fk (au rfl rfl (ix1 _ _ _ _))) hz key)) rfl) rfl) rfl)) rfl (by show 2<=1000;decide)))
theorem CH {row:Int}{k:Int}{n:Nat} (k0:0<=k):onI row (k+(n:Int))=onI (row / 2^n) k:=by
 unfold onI
 have e:(k+(n:Int)).toNat=n+k.toNat:=by lia
 rw[e,qju,qiv (qlR (qmb (by decide)))]
theorem zW (r k:Nat):onI (r:Int) (k:Int)=((r / 2^k%2:Nat):Int):=by
 unfold onI
 rw[qaK];push_cast;rfl
theorem DP {r:Nat}{k:Int}{n:Nat} (k0:0<=k) (h:k<n):onI ((r:Int)%2^n) k=onI (r:Int) k:=by
 obtain⟨j,rfl⟩:=qbB k0
 have e0:((r:Int)%2^n)=((r%2^n:Nat):Int):=by push_cast;rfl
 rw[e0,zW,zW]
 have e:(2:Nat)^n=2^j*(2*2^(n - j - 1)):=by
  rw[<-Nat.mul_assoc,show (2:Nat)^j*2=2^(j+1) from (qgW 2 j).symm,<-qhA];congr 1;lia
 rw[e,Nat.mod_mul_right_div_self,Nat.mod_mul_right_mod]
theorem qX {r1 r2:Int}:∀ {t:List Int},(∀ k∈t,onI r1 k=onI r2 k)->cc r1 t=cc r2 t
 |[],_=>rfl
 |k::t,h=>by rw[cc,cc,h k qak,qX λj hj=>h j (qah _ hj)]
theorem AX {r1 r2 m:Int}:∀ {t:List Int},(∀ k∈t,onI r1 (k+m)=onI r2 k)->cc r1 (t.map (·+m))=cc r2 t
 |[],_=>rfl
 |k::t,h=>by rw[qal,cc,cc,h k qak,AX λj hj=>h j (qah _ hj)]
theorem xj {b:Bool}{r1 r2:Int}{ps:List Prt} (h:∀ p∈ps,∀ k∈p.1,onI r1 k=onI r2 k):aX b ps r1=aX b ps r2:=by
 unfold aX
 congr 1
 refine qaP λp hp=>?_
 unfold bb
 rw[qX (h p hp)]
theorem DE {b:Bool}{r1 r2 m:Int}{ps:List Prt} (h:∀ p∈ps,∀ k∈p.1,onI r1 (k+m)=onI r2 k):aX b (ps.map (mvP m)) r1=aX b ps r2:=by
 unfold aX
 rw[qaJ]
 congr 1
 refine qaP λp hp=>?_
 show p.2*bb b (p.1.map (·+m)) r1=_
 unfold bb
 rw[AX (h p hp),qag]
theorem FX {n m:Nat}{t:List Int} (h:Trm m t):Trm (n+m) (t.map (·+(n:Int))):=by
 refine⟨?_,λk hk=>?_⟩
 ·rw[qci]
  exact h.1.imp λ{a b} hab=>by lia
 ·obtain⟨j,hj,rfl⟩:=qaz.mp hk
  have:=h.2 j hj
  push_cast;lia
def cw (ns:List Int):Int:=ns.foldl (λa x=>a*x) 1
theorem wQ {ns:List Int}{i:Nat}{x:Int} (h:ns[i]?=some x):cw (ns.take (i+1))=cw (ns.take i)*x:=by
 unfold cw
 rw[qbJ,h,qea];rfl
theorem Et (s:Sto) {a b:Int} (h:-(2^64)<b/\b<2^64):ge s (.d (.int a)) (.d (.int b))=some (.int (a*b)):=rQ _ (fJ h)
theorem qQ {st:Sto}{ns:List Int} (hb:∀ x∈ns,-(2^64)<x/\x<2^64):fH [.d (.lst (ns.map D.int))] st=some (.d (.int (cw ns)),st):=by
 obtain⟨e',s',hF,o,rfl,rfl⟩:=bN (g:=.nm 2) (body:=jt) (ds:=ns.map D.int) (λi env s=>∃ o,env=[some (.d (.lst (ns.map D.int))),some (.d (.int (cw (ns.take i)))),o]/\s=st)
  (env:=[some (.d (.lst (ns.map D.int))),some (.d (.int 1)),none]) (st:=st) ⟨none,rfl,rfl⟩ (by
  rintro i d env s hd ⟨o,rfl,rfl⟩
  rw[qaZ,qad]at hd
  obtain⟨x,hx,rfl⟩:=hd
  refine⟨_,_,_,rfl,.inl (aR (i:=1) (au rfl rfl (Et _ (hb x (qbl hx))))),some (.d (.int x)),?_,rfl⟩
  rw[wQ hx];rfl)
 rw[qag,qbv]at hF
 generalize ns.map D.int=L at *
 exact aD (n:=3) (k:=1) (b:=fV) rfl (ap (aR (i:=1) (w:=.d (.int 1)) rfl) (ap (dg (gh rfl) hF) (aF rfl)))
theorem HA (s:Sto) {a b:Int} (h:-(2^64)<b/\b<2^64):ge s (.d (.int a)) (.d (.int b))=some (.int (a*b)):=rQ _ (fJ h)
def exQ (f:List Int) (n:Nat):List Prt:=d3 (exL f n)
structure cI (n:Nat) (f:List Int):Prop where
 len:f.length=2^n
 v:∀ v∈f,v=0\/v=1
section
variable {st:Sto}{n:Nat}{f:List Int}
theorem mL (hn:n<=6):eE n (exQ f n):=n6 hn oj
theorem FM (h:cI n f) (hn:n<=6):d7 [.d (ai f)] st=some (.d (am "odd" (exQ f n)),st):=by
 obtain⟨ks,k1,k2,k3,k4⟩:=Bh (st:=st) h.len hn h.v
 rw[rB (λp hp=>(oj p hp).mono hn) k1 k3]at k4
 exact k4
theorem CF (h:cI n f) (hn:n<=6):eJ [.d (ai f),.d (.str "odd")] st=some (.d (am "odd" (exQ f n)),st):=by
 have e:=FM (st:=st) h hn
 generalize am "odd" (exQ f n)=R at e ⊢
 exact aD (n:=3) (k:=2) (b:=iH) rfl (ap (aR (aq rfl e)) (iI (nr (aQ rfl rfl (by rw[wS,beq_self_eq_true])) (aF rfl))))
theorem Ge (v:Int):(sI v).natAbs=1:=by unfold sI;split<;>rfl
theorem DI (h:cI n f) (hn:n<=6) (t:List Int):(exN f t).natAbs<=64:=by
 unfold exN
 rw[mZ]
 refine qaL (tK (B:=1) λx hx=>?_) ?_
 ·obtain⟨r,_,rfl⟩:=qaz.mp hx
  rw[qh3,Ge,Nat.one_mul]
  have:=ph false t ((0+r:Nat):Int)
  lia
 ·rw[qag,qcy,h.len,Nat.mul_one]
  exact qaL (qbA (by decide) hn) (by decide)
theorem CB (h:cI n f) (hn:n<=6):∀ p∈exQ f n,p.2.natAbs<=4096:=λp hp=>by
 have h1:=vo (L:=exL f n) (B:=64) (λq hq=>by
  obtain⟨t,_,rfl⟩:=qaz.mp hq
  exact DI h hn t) p hp
 have h2:(exL f n).length<=64:=by
  unfold exL
  rw[qag,pG]
  exact qaL (qbA (by decide) hn) (by decide)
 lia
theorem CC (h:cI n f) (hn:n<=6) (r:Nat):aX false (exQ f n) (r:Int)=2^n*sI (f.getD (r%2^n) 0):=by
 have e:aX false (exQ f n) (r:Int)=aX false (exQ f n) ((r%2^n:Nat):Int):=by
  have e0:((r%2^n:Nat):Int)=(r:Int)%2^n:=by push_cast;rfl
  rw[e0]
  exact (xj λp hp k hk=>DP (((mL hn).1 p hp).1.2 k hk).1 (((mL hn).1 p hp).1.2 k hk).2).symm
 rw[e]
 unfold exQ
 rw[lN λp hp=>(oj p hp).mono hn,DT h.len (qgO _ (qef (by decide)))]
end
abbrev Pt:=Nat×List Int
def PtD (q:Pt):D:=ai q.2
def tot (qs:List Pt):Nat:=(qs.map qa3).sum
def oF (qs:List Pt):Prop:=(∀ q∈qs,cI q.1 q.2)/\tot qs<=6
theorem dm (q:Pt) (qs:List Pt):tot (q::qs)=q.1+tot qs:=by unfold tot;rw[qal,qaQ]
theorem xJ (a b:List Pt):tot (a++b)=tot a+tot b:=by unfold tot;rw[qa5,qfl]
theorem kZ {q:Pt}:∀ {qs:List Pt},q∈qs->q.1<=tot qs
 |x::qs,h=>by
  rw[dm]
  rcases qay.mp h with rfl|h
  ·lia
  ·have:=kZ h;lia
def bE:Nat->List Pt->List (List Prt)
 |_,[]=>[]
 |a,q::qs=>(exQ q.2 q.1).map (mvP (a:Int))::bE (a+q.1) qs
theorem rV:∀ (qs:List Pt) (a:Nat) (q:Pt),bE a (qs++[q])=bE a qs++[(exQ q.2 q.1).map (mvP ((a+tot qs:Nat):Int))]
 |[],a,q=>rfl
 |x::qs,a,q=>by
  rw[qbS,bE,bE,rV qs,dm,qbS]
  congr 3
  rw[qe3]
theorem oN:∀ (qs:List Pt) (a:Nat),(bE a qs).length=qs.length
 |[],_=>rfl
 |q::qs,a=>by rw[bE,qam,qam,oN qs]
theorem xY:∀ (qs:List Pt) (a:Nat),(∀ q∈qs,cI q.1 q.2)->a+tot qs<=6->∀ E∈bE a qs,E.length<=64/\∀ p∈E,Trm (a+tot qs) p.1/\p.2.natAbs<=4096
 |[],_,_,_,E,h=>nomatch h
 |q::qs,a,ho,ht,E,h=>by
  rw[dm]at ht ⊢
  rw[bE]at h
  rcases qay.mp h with rfl|h
  ·have hq:=ho q qak
   refine⟨by rw[qag];exact (mL (f:=q.2) (n:=q.1) (by lia)).len (by lia),λp hp=>?_⟩
   obtain⟨x,hx,rfl⟩:=qaz.mp hp
   exact⟨(FX (n:=a) ((mL (f:=q.2) (n:=q.1) (by lia)).1 x hx).1).mono (by lia),CB hq (by lia) x hx⟩
  ·have:=xY qs (a+q.1) (λx hx=>ho x (qah _ hx)) (by lia) E h
   rw[qe3]at this
   exact this
def vsL:Nat->List Pt->List Int
 |_,[]=>[]
 |r,q::qs=>q.2.getD (r%2^q.1) 0::vsL (r / 2^q.1) qs
theorem n5:∀ (qs:List Pt) (r:Nat),(vsL r qs).length=qs.length
 |[],_=>rfl
 |q::qs,r=>by rw[vsL,qam,qam,n5 qs]
theorem xr {n:Nat}{f:List Int} (h:cI n f) (r:Nat):f.getD (r%2^n) 0=0\/f.getD (r%2^n) 0=1:=by
 have hl:r%2^n<f.length:=by rw[h.len];exact qgO _ (qef (by decide))
 rw[qa1,qaE hl]
 exact h.v _ (qda hl)
theorem wo:∀ (qs:List Pt) (r:Nat),(∀ q∈qs,cI q.1 q.2)->∀ v∈vsL r qs,v=0\/v=1
 |[],_,_,v,h=>nomatch h
 |q::qs,r,ho,v,h=>by
  rw[vsL]at h
  rcases qay.mp h with rfl|h
  ·exact xr (ho q qak) r
  ·exact wo qs _ (λx hx=>ho x (qah _ hx)) v h
theorem uo:∀ (qs:List Pt) (a:Nat),(∀ q∈qs,cI q.1 q.2)->a+tot qs<=6->∀ (k r:Nat),k<qs.length->aX false ((bE a qs).getD k []) (r:Int)=2^(qs.getD k (0,[])).1*sI ((vsL (r / 2^a) qs).getD k 0)
 |[],_,_,_,k,r,h=>absurd h (qcq _)
 |q::qs,a,ho,ht,k,r,h=>by
  rw[dm]at ht
  cases k with
  |zero=>
   have hq:=ho q qak
   show aX false ((exQ q.2 q.1).map (mvP (a:Int))) (r:Int)=2^q.1*sI (q.2.getD (r / 2^a%2^q.1) 0)
   rw[DE (r2:=(r:Int) / 2^a) (λp hp k hk=>CH (((mL (f:=q.2) (n:=q.1) (by lia)).1 p hp).1.2 k hk).1)]
   have e:(r:Int) / 2^a=((r / 2^a:Nat):Int):=by push_cast;rfl
   rw[e,CC hq (by lia)]
  |succ k=>
   have:=uo qs (a+q.1) (λx hx=>ho x (qah _ hx)) (by lia) k r (by simpa using h)
   rw[qhA,<-qd8]at this
   exact this
def atV:List Int->Int
 |[]=>0
 |v::vs=>v+2*atV vs
theorem uY (v:Int):∀ vs:List Int,atV (vs++[v])=atV vs+v*2^vs.length
 |[]=>by simp[atV]
 |x::vs=>by
  rw[qbS,atV,atV,uY v vs,qam,qg3,qgh,qeL _ 2,qeg v 2];lia
theorem Ap:∀ (vs:List Int) (k:Nat),(∀ v∈vs,v=0\/v=1)->k<vs.length->onI (atV vs) (k:Int)=vs.getD k 0
 |[],k,_,h=>absurd h (qcq _)
 |v::vs,0,hv,_=>by
  have h1:=hv v qak
  unfold onI
  show (v+2*atV vs) / 2^0%2=v
  rw[show (2:Int)^0=1 from rfl,qlS];lia
 |v::vs,k+1,hv,h=>by
  have h1:=hv v qak
  have ih:=Ap vs k (λx hx=>hv x (qah _ hx)) (by simpa using h)
  unfold onI at ih ⊢
  rw[qaK]at ih ⊢
  show (v+2*atV vs) / 2^(k+1)%2=vs.getD k 0
  rw[<-ih,qg3,qeL _ 2,<-qiv (by decide)]
  congr 2;lia
theorem AJ:∀ vs:List Int,(∀ v∈vs,v=0\/v=1)->0<=atV vs
 |[],_=>qjv 0
 |v::vs,hv=>by
  have h1:=hv v qak
  have:=AJ vs λx hx=>hv x (qah _ hx)
  unfold atV;lia
def pr:List Int->Int
 |[]=>1
 |x::l=>x*pr l
theorem qf:∀ (l:List Int) (a:Int),l.foldl (λa x=>a*x) a=a*pr l
 |[],a=>(qgg a).symm
 |x::l,a=>by rw[qby,qf l,pr,qbH]
theorem vq (l:List Int):cw l=pr l:=by unfold cw;rw[qf,qe5]
theorem rR (w g:Int->Int):∀ (t:List Int) (a:Int),t.foldl (λv k=>v*(w k*g k)) a=a*pr (t.map w)*pr (t.map g)
 |[],a=>by show a=a*1*1;rw[qgg,qgg]
 |k::t,a=>by
  rw[qby,rR w g t,qal,qal,pr,pr]
  generalize pr (t.map w)=A
  generalize pr (t.map g)=B
  rw[qbH,qbH,qbH,qbH]
  congr 1
  rw[qeg (g k) A B,qbH]
def lnN (t:List Int):Nat->List Pt->List Int
 |_,[]=>[]
 |i,q::qs=>if (i:Int)∈t then lnN t (i+1) qs else 2^q.1::lnN t (i+1) qs
def wP (qs:List Pt) (k:Int):Int:=2^(qs.getD k.toNat (0,[])).1
theorem rg {t u:List Int}:∀ (qs:List Pt) (i:Nat),(∀ j:Nat,i<=j->((j:Int)∈t↔(j:Int)∈u))->lnN t i qs=lnN u i qs
 |[],_,_=>rfl
 |q::qs,i,h=>by
  rw[lnN,lnN,rg qs (i+1) λj hj=>h j (by lia)]
  by_cases hm:(i:Int)∈t
  ·rw[if_pos hm,if_pos ((h i (qap i)).mp hm)]
  ·rw[if_neg hm,if_neg (λz=>hm ((h i (qap i)).mpr z))]
theorem pf:∀ (qs:List Pt) (i:Nat) (t:List Int),t.Pairwise (·<·)->(∀ k∈t,(i:Int)<=k/\k<(i:Int)+(qs.length:Int))->pr (lnN t i qs)*pr (t.map λk=>wP qs (k - i))=2^tot qs
 |[],i,t,hs,hk=>by
  have:t=[]:=by
   cases t with
   |nil=>rfl
   |cons k t=>have:=hk k qak;simp at this;lia
  subst this;rfl
 |q::qs,i,t,hs,hk=>by
  rw[qam]at hk
  have hw:∀ k:Int,(i:Int)+1<=k->wP (q::qs) (k - i)=wP qs (k - ((i+1:Nat):Int)):=λk h=>by
   unfold wP
   have e:(k - (i:Int)).toNat=(k - ((i+1:Nat):Int)).toNat+1:=by lia
   rw[e,qbn]
  rw[dm,qju]
  by_cases hm:(i:Int)∈t
  ·cases t with
   |nil=>cases hm
   |cons k t=>
    have hs':=qbw.mp hs
    have hki:k=(i:Int):=by
     rcases qay.mp hm with h|h
     ·exact h.symm
     ·have h1:=hs'.1 _ h
      have h2:=(hk k qak).1
      lia
    subst hki
    have hgt:∀ j∈t,(i:Int)+1<=j:=λj hj=>by have:=hs'.1 j hj;lia
    have ih:=pf qs (i+1) t hs'.2 λj hj=>⟨by have:=hgt j hj;push_cast;lia,by have:=(hk j (qah _ hj)).2;push_cast at *;lia⟩
    rw [lnN,if_pos hm,rg (u:=t) qs (i+1) (λj hj=>by
     rw[qay]
     exact⟨λh=>h.resolve_left (by lia),.inr⟩),qal,pr]
    have e1:wP (q::qs) ((i:Int) - i)=2^q.1:=by unfold wP;rw[Int.sub_self];rfl
    have e2:(t.map λk=>wP (q::qs) (k - i))=t.map λk=>wP qs (k - ((i+1:Nat):Int)):=qaP λj hj=>hw j (hgt j hj)
    rw[e1,e2,<-ih,qeg]
  ·have hgt:∀ j∈t,(i:Int)+1<=j:=λj hj=>by
    have h1:=(hk j hj).1
    have h2:j≠(i:Int):=λe=>hm (e ▸ hj)
    lia
   have ih:=pf qs (i+1) t hs λj hj=>⟨by have:=hgt j hj;push_cast;lia,by have:=(hk j hj).2;push_cast at *;lia⟩
   rw[lnN,if_neg hm,pr]
   have e2:(t.map λk=>wP (q::qs) (k - i))=t.map λk=>wP qs (k - ((i+1:Nat):Int)):=qaP λj hj=>hw j (hgt j hj)
   rw[e2,<-ih,qbH]
theorem A3:∀ (qs:List Pt) (i:Nat) (t:List Int),(∀ q∈qs,q.1<=6)->∀ x∈lnN t i qs,-(2^64)<x/\x<2^64
 |[],_,_,_,x,h=>nomatch h
 |q::qs,i,t,hq,x,h=>by
  rw[lnN]at h
  have key:-(2^64)<(2:Int)^q.1/\(2:Int)^q.1<2^64:=by
   have h1:=hq q qak
   have h2:(2:Nat)^q.1<=64:=qaL (qbA (by decide) h1) (by decide)
   have h3:((2^q.1:Nat):Int)=(2:Int)^q.1:=by push_cast;rfl
   lia
  split at h
  ·exact A3 qs _ t (λy hy=>hq y (qah _ hy)) x h
  ·rcases qay.mp h with rfl|h
   ·exact key
   ·exact A3 qs _ t (λy hy=>hq y (qah _ hy)) x h
end Own
end
section
set_option maxHeartbeats 1000000
namespace Own
open PySem L2
theorem GQ {o a:Ef}{env:Ev}{st s1 s2:Sto}{n:Nat}{d:D}{ds0 ds:List D} (ho:o env st=some (.h n,s1)) (ha:a env s1=some (.d d,s2)) (h0:lg s1 n=some ds0) (hg:lg s2 n=some ds) (hz:ds.length<1000000):jh (gL iQ o (ab a ak)) env st=some (.nx env (s2.set n (.l (ds++[d])))):=by
 have hc:=ag (b:=ak) ha rfl
 simp only[jh,gL,ho,hc,h0,hg,iQ,hz,if_true,qaf,qaC]
theorem Ew {st:Sto}{EE:List D}{R1 R2 tq:D}{QQ:W}{a n:Int} (e1:eJ [.d tq,.d (.str "odd")] (st++[.l EE])=some (.d R2,st++[.l EE])) (e2:lZ [.d R2,.d (.int a)] (st++[.l EE])=some (.d R1,st++[.l EE]))
  (e3:dn [.d tq] (st++[.l (EE++[R1])])=some (.d (.int n),st++[.l (EE++[R1])])) (hln:EE.length<1000000) :
  hV [some QQ,some (.h st.length),some (.d (.int a)),some (.d tq)] (st++[.l EE])=some (.nx [some QQ,some (.h st.length),some (.d (.int (a+n))),some (.d tq)] (st++[.l (EE++[R1])])):=by
 have lg1:=xV st EE
 have a1:ax eJ (ab (iV 3) (ab (iC (.str "odd")) ak)) [some QQ,some (.h st.length),some (.d (.int a)),some (.d tq)] (st++[.l EE])=some (.d R2,st++[.l EE]):=aq (ws:=[.d tq,.d (.str "odd")]) rfl e1
 have a2:ax lZ (ab (ax eJ (ab (iV 3) (ab (iC (.str "odd")) ak))) (ab (iV 2) ak)) [some QQ,some (.h st.length),some (.d (.int a)),some (.d tq)] (st++[.l EE])=some (.d R1,st++[.l EE]):=aq (ws:=[.d R2,.d (.int a)]) (ag a1 rfl) e2
 have s1:=GQ (o:=iV 1) (env:=[some QQ,some (.h st.length),some (.d (.int a)),some (.d tq)]) (st:=st++[.l EE]) (n:=st.length) (s1:=st++[.l EE]) rfl a2 lg1 lg1 hln
 rw[AN]at s1
 exact ap s1 (aR (au rfl (aq rfl e3) rfl))
theorem B0 {qs:List Pt}{i:Nat}{q:Pt} (h:qs[i]?=some q):((tot (qs.take (i+1)):Nat):Int)=((tot (qs.take i):Nat):Int)+(q.1:Int):=by
 have htk:qs.take (i+1)=qs.take i++[q]:=by rw[qbJ,h];rfl
 have e:tot [q]=q.1:=by rw[dm];exact qgX _
 rw[htk,xJ,e];push_cast;rfl
theorem BB {qs:List Pt}{i:Nat}{q:Pt} (h:qs[i]?=some q):(bE 0 (qs.take (i+1))).map (am "odd")=(bE 0 (qs.take i)).map (am "odd")++[am "odd" ((exQ q.2 q.1).map (mvP ((tot (qs.take i):Nat):Int)))]:=by
 have htk:qs.take (i+1)=qs.take i++[q]:=by rw[qbJ,h];rfl
 rw[htk,rV,qa5,qbt];rfl
theorem zy {st:Sto}{qs:List Pt} (h:oF qs) (hl:qs.length<=6):gI [.d (.tup (qs.map PtD))] st=some (.h st.length,st++[.l ((bE 0 qs).map (am "odd"))]):=by
 obtain⟨e',s',hF,o3,rfl,rfl⟩:=bN (g:=.nm 3) (body:=hV) (ds:=qs.map PtD)
  (λi env s=>∃ o3,env=[some (.d (.tup (qs.map PtD))),some (.h st.length),some (.d (.int ((tot (qs.take i):Nat):Int))),o3]/\s=st++[.l ((bE 0 (qs.take i)).map (am "odd"))])
  (env:=[some (.d (.tup (qs.map PtD))),some (.h st.length),some (.d (.int 0)),none]) (st:=st++[.l []]) ⟨none,by rw [qdE];rfl,by rw [qdE];rfl⟩ (by
  rintro i d env s hd ⟨o3,rfl,rfl⟩
  rw[qaZ,qad]at hd
  obtain⟨q,hq,rfl⟩:=hd
  have hqm:=qbl hq
  have hi:=(qax.mp hq).1
  have hn:q.1<=6:=qaL (kZ hqm) h.2
  have ho:=h.1 q hqm
  have e1:=CF (st:=st++[.l ((bE 0 (qs.take i)).map (am "odd"))]) ho hn
  have hin:=mL (f:=q.2) (n:=q.1) hn
  have e2:=BK (st:=st++[.l ((bE 0 (qs.take i)).map (am "odd"))]) (kd:="odd") (ps:=exQ q.2 q.1) (m:=((tot (qs.take i):Nat):Int)) (by have:=hin.len hn;lia) λp hp=>qaL (iS (hin.1 p hp).1) (by lia)
  have hln:((bE 0 (qs.take i)).map (am "odd")).length<1000000:=by rw[qag,oN,qcr];lia
  have e3:=ny (st:=st++[.l ((bE 0 (qs.take i)).map (am "odd")++[am "odd" ((exQ q.2 q.1).map (mvP ((tot (qs.take i):Nat):Int)))])]) ho.len hn
  have e4:=Ew (QQ:=.d (.tup (qs.map PtD))) e1 e2 e3 hln
  rw[<-BB hq,<-B0 hq]at e4
  exact⟨_,_,_,rfl,.inl e4,some (.d (ai q.2)),rfl,rfl⟩)
 rw[qag,qbv]at hF
 generalize (bE 0 qs).map (am "odd")=EE at hF ⊢
 generalize qs.map PtD=QQ at hF ⊢
 have s0:bf (.nm 1) (pj (fP ak)) [some (.d (.tup QQ)),none,none,none] st=some (.nx [some (.d (.tup QQ)),some (.h st.length),none,none] (st++[.l []])):=rfl
 exact aD (n:=4) (k:=1) (b:=gN) rfl (ap s0 (ap (aR (w:=.d (.int 0)) rfl) (ap (dg (dP rfl) hF) (aF rfl))))
def ngP (E:List Prt):List Prt:=d3 (E.map λp:Prt=>((p.1,(-1)*p.2):Prt))
def ptS (Es:List (List Prt)) (ps:List Prt) (k:Int):List Prt:=d3 (bP false ps (ngP (Es.getD k.toNat [])))
def ptL (Es:List (List Prt)) (c:Int) (t:List Int):List Prt:=t.foldl (ptS Es) [(([]:List Int),c)]
structure lu (N:Nat) (Es:List (List Prt)):Prop where
 n:N<=6
 e:∀ E∈Es,E.length<=64/\∀ p∈E,Trm N p.1/\p.2.natAbs<=4096
section
variable {N:Nat}{Es:List (List Prt)}
theorem lu.at' (h:lu N Es) (k:Nat):(Es.getD k []).length<=64/\∀ p∈Es.getD k [],Trm N p.1/\p.2.natAbs<=4096:=by
 by_cases hk:k<Es.length
 ·rw[qa1,qaE hk]
  exact h.e _ (qda hk)
 ·rw[qa1,qiB (by lia)]
  exact⟨qaW _,(λp hp=>nomatch hp)⟩
theorem zY (h:lu N Es) (k:Nat):∀ p∈(Es.getD k []).map (λp:Prt=>((p.1,(-1)*p.2):Prt)),Trm N p.1:=λp hp=>by
 obtain⟨q,hq,rfl⟩:=qaz.mp hp
 exact ((h.at' k).2 q hq).1
theorem yt (h:lu N Es) (k:Nat):eE N (ngP (Es.getD k [])):=n6 h.n (zY h k)
theorem Fq (h:lu N Es) (k:Nat):∀ q∈ngP (Es.getD k []),-(2^64)<q.2/\q.2<2^64:=λq hq=>by
 have h1:=vo (L:=(Es.getD k []).map λp:Prt=>((p.1,(-1)*p.2):Prt)) (B:=4096) (λp hp=>by
  obtain⟨x,hx,rfl⟩:=qaz.mp hp
  have:=((h.at' k).2 x hx).2
  show ((-1)*x.2).natAbs<=4096
  rw[qh3];lia) q hq
 rw[qag]at h1
 have h2:=qfK 4096 (h.at' k).1
 lia
theorem Gd (h:lu N Es) (k:Nat) (r:Int):aX false (ngP (Es.getD k [])) r=(-1)*aX false (Es.getD k []) r:=by
 unfold ngP
 rw[lN λp hp=>(zY h k p hp).mono h.n,oz]
theorem E4 (h:lu N Es) {ps:List Prt} (hp:∀ p∈ps,Trm N p.1) (k:Int):eE N (ptS Es ps k):=n6 h.n (AR h.n hp λq hq=>((yt h k.toNat).1 q hq).1)
theorem Df (h:lu N Es) {ps:List Prt} (hp:∀ p∈ps,Trm N p.1) (k r:Int):aX false (ptS Es ps k) r=aX false ps r*((-1)*aX false (Es.getD k.toNat []) r):=by
 unfold ptS
 rw[lN r8,rA (λq hq=>((yt h k.toNat).1 q hq).1.mono h.n) (λp hp'=>(hp p hp').mono h.n),Gd h]
theorem ww (h:lu N Es):∀ (t:List Int) (ps:List Prt),(∀ p∈ps,Trm N p.1)->ps.length<=64->(∀ p∈t.foldl (ptS Es) ps,Trm N p.1)/\(t.foldl (ptS Es) ps).length<=64/\∀ r,aX false (t.foldl (ptS Es) ps) r=t.foldl (λv k=>v*((-1)*aX false (Es.getD k.toNat []) r)) (aX false ps r)
 |[],ps,hp,hl=>⟨hp,hl,λr=>rfl⟩
 |k::t,ps,hp,hl=>by
  have hi:=E4 h hp k
  obtain⟨a,b,c⟩:=ww h t (ptS Es ps k) (λp hp'=>(hi.1 p hp').1) (hi.len h.n)
  refine⟨a,b,λr=>?_⟩
  rw[qby,qby,c r,Df h hp]
theorem xN (c:Int):∀ p∈[(([]:List Int),c)],Trm N p.1:=λp hp=>by
 rw[qaI.mp hp]
 exact⟨.nil,(λk hk=>nomatch hk)⟩
end
theorem Ba {st:Sto}{t:List Int}:∀ (qs:List Pt) (i:Nat),(∀ q∈qs,cI q.1 q.2)->lcI (.tp [0,1]) et fR [none,none,some (.d (ai t))] (cZ i (qs.map PtD)) st=some ((lnN t i qs).map D.int,st)
 |[],i,_=>rfl
 |q::qs,i,ho=>by
  have ih:=Ba (st:=st) (t:=t) qs (i+1) λx hx=>ho x (qah _ hx)
  have hq:=ho q qak
  have hin:∀ k:Bool,decide ((i:Int)∈t)=k->kG st (.d (.int (i:Int))) (.d (ai t))=some (.bl (!k)):=λk hk=>by
   have hfl:(t.map D.int).all cy=true:=qaT.mpr λd hd=>by
    obtain⟨z,_,rfl⟩:=qaz.mp hd
    rfl
   have hi2:inD (.int (i:Int)) (t.map D.int)=k:=by
    rw[<-hk,qdY]
    unfold inD
    rw[qjW,decide_eq_true_eq]
    constructor
    ·rintro⟨d,hd,e⟩
     obtain⟨z,hz,rfl⟩:=qaz.mp hd
     simp only[eqD,beq_iff_eq]at e
     rw[<-e];exact hz
    ·intro hz
     exact⟨.int (i:Int),qcC hz,by simp[eqD]⟩
   show (if cy (.int (i:Int))=true/\(t.map D.int).all cy=true then some (D.bl (!inD (.int (i:Int)) (t.map D.int))) else none)=_
   rw[if_pos ⟨rfl,hfl⟩,hi2]
  have hlen:eA st [.d (PtD q)]=some (.int (2^q.1)):=by
   show some (D.int ((q.2.map D.int).length:Nat))=_
   rw[qag,hq.len];push_cast;rfl
  rw[qal,cZ]
  unfold lcI
  rw[show fM (.tp [0,1]) (.d (.tup [.int (i:Int),PtD q])) [none,none,some (.d (ai t))]=some [some (.d (.int (i:Int))),some (.d (PtD q)),some (.d (ai t))] from rfl,qaf]
  by_cases hm:(i:Int)∈t
  ·have ht:et [some (.d (.int (i:Int))),some (.d (PtD q)),some (.d (ai t))] st=some (false,st):=aQ rfl rfl (hin true (decide_eq_true hm))
   rw[ht,qaf,lnN,if_pos hm]
   exact ih
  ·have ht:et [some (.d (.int (i:Int))),some (.d (PtD q)),some (.d (ai t))] st=some (true,st):=aQ rfl rfl (hin false (decide_eq_false hm))
   have he:fR [some (.d (.int (i:Int))),some (.d (PtD q)),some (.d (ai t))] st=some (.d (.int (2^q.1)),st):=bo (ag rfl rfl) hlen
   rw[ht,qaf,if_pos rfl,he,qaf,lnN,if_neg hm]
   simp only[ih,qaC,qal]
   rfl
theorem z0 {st:Sto}{hh N:Nat}{qs:List Pt}{Es:List (List Prt)}{t:List Int}{c:Int} (h:oF qs) (hl:qs.length<=6) (hE:lu N Es) (hg:lg st hh=some (Es.map (am "odd"))) (ht:∀ k∈t,0<=k/\k.toNat<Es.length) (htl:t.length<=6) :
  gm [.d (ai t),.d (.int c),.d (.tup (qs.map PtD)),.h hh] st=some (.d (am "odd" (ptL Es (c*cw (lnN t 0 qs)) t)),st):=by
 have k1:=Ba (st:=st) (t:=t) qs 0 h.1
 have hb:=A3 qs 0 t λq hq=>qaL (kZ hq) h.2
 have k2:=qQ (st:=st) hb
 have hpl:-(2^64)<cw (lnN t 0 qs)/\cw (lnN t 0 qs)<2^64\/True:=.inr trivial
 have hmul:qbU c (cw (lnN t 0 qs))\/True:=.inr trivial
 have hpb:(cw (lnN t 0 qs)).natAbs<2^64:=by
  rw[vq]
  have key:∀ (l:List Pt) (i:Nat),∃ e:Nat,pr (lnN t i l)=2^e/\e<=tot l:=λl=>by
   induction l with
   |nil=>exact λi=>⟨0,rfl,qaW _⟩
   |cons q l ih=>
    intro i
    obtain⟨e,he,hle⟩:=ih (i+1)
    rw[dm,lnN]
    split
    ·exact⟨e,he,by lia⟩
    ·exact⟨q.1+e,by rw[pr,he,qju],by lia⟩
  obtain⟨e,he,hle⟩:=key qs 0
  rw[he,Int.natAbs_pow]
  exact qeH (qbA (by decide) (qaL hle h.2)) (by decide)
 have hm:ge st (.d (.int c)) (.d (.int (cw (lnN t 0 qs))))=some (.int (c*cw (lnN t 0 qs))):=HA _ (by lia)
 have hz:(cZ 0 (qs.map PtD)).length<=1000000:=by rw[iu,qag];lia
 generalize c*cw (lnN t 0 qs)=c0 at hm ⊢
 generalize cw (lnN t 0 qs)=pp at k2 hm
 obtain⟨e',s',hF,o5,rfl,rfl⟩:=bN (g:=.nm 5) (body:=lJ) (ds:=t.map D.int)
  (λi env s=>∃ o5,env=[some (.d (ai t)),some (.d (.int c)),some (.d (.tup (qs.map PtD))),some (.h hh),some (.d (am "odd" (ptL Es c0 (t.take i)))),o5]/\s=st)
  (env:=[some (.d (ai t)),some (.d (.int c)),some (.d (.tup (qs.map PtD))),some (.h hh),some (.d (am "odd" [(([]:List Int),c0)])),none]) (st:=st) ⟨none,rfl,rfl⟩ (by
  rintro i d env s hd ⟨o5,rfl,rfl⟩
  rw[qaZ,qad]at hd
  obtain⟨k,hk,rfl⟩:=hd
  have hkm:=ht k (qbl hk)
  have htk:t.take (i+1)=t.take i++[k]:=by rw[qbJ,hk];rfl
  have hpa:=ww hE (t.take i) _ (xN (N:=N) c0) (by show 1<=64;decide)
  have hat:=hE.at' k.toNat
  have e1:dIx s (.h hh) (.d (.int k))=some (am "odd" (Es.getD k.toNat [])):=by
   obtain⟨j,rfl⟩:=qbB hkm.1
   rw[qaK]at hkm ⊢
   show (lg s hh).bind (λds=>atI ds (j:Int))=_
   rw[hg,qaf]
   refine jS ?_
   rw[qaZ,qa1,qaE hkm.2];rfl
  have e2:om [.d (am "odd" (Es.getD k.toNat [])),.d (.int (-1))] s=some (.d (am "odd" (ngP (Es.getD k.toNat []))),s):=AG (st:=s) (b:=false) (c:=-1) (λp hp=>((hat.2 p hp).1).mono hE.n) hat.1 (by decide)
  have e3:fW [.d (am "odd" (ptL Es c0 (t.take i))),.d (am "odd" (ngP (Es.getD k.toNat [])))] s=some (.d (am "odd" (ptS Es (ptL Es c0 (t.take i)) k)),s):=CP (st:=s) (b:=false) (λp hp=>(hpa.1 p hp).mono hE.n) (λq hq=>((yt hE k.toNat).1 q hq).1.mono hE.n) hpa.2.1 ((yt hE k.toNat).len hE.n) (Fq hE k.toNat)
  have hcp:ptL Es c0 (t.take (i+1))=ptS Es (ptL Es c0 (t.take i)) k:=by unfold ptL;rw[htk,qea];rfl
  refine⟨_,_,_,rfl,.inl ?_,some (.d (.int k)),rfl,rfl⟩
  rw[hcp]
  generalize am "odd" (ptS Es (ptL Es c0 (t.take i)) k)=R1 at e3 ⊢
  generalize am "odd" (ptL Es c0 (t.take i))=R2 at e3 ⊢
  generalize am "odd" (ngP (Es.getD k.toNat []))=R3 at e2 e3
  generalize am "odd" (Es.getD k.toNat [])=R4 at e1 e2
  exact aR (aq (ag rfl (ag (aq (ag (au rfl rfl e1) (ag (x:=.d (.int (-1))) rfl rfl)) e2) rfl)) e3))
 rw[qag,qbv]at hF
 generalize am "odd" (ptL Es c0 t)=R at hF ⊢
 generalize (lnN t 0 qs).map D.int=LL at k1 k2
 generalize qs.map PtD=QQ at *
 have s1:bf (.nm 4) (cn (ab (iC (.str "odd")) (ab (cn (ab (cn (ab (cn ak) (ab (iOp ge (iV 1) (ax fH (ab (aM (iLc 2 [0] (kU (ab (iV 2) ak)) (.tp [0,1]) et fR)) ak))) ak))) ak)) ak))) [some (.d (ai t)),some (.d (.int c)),some (.d (.tup QQ)),some (.h hh),none,none] s'=some (.nx [some (.d (ai t)),some (.d (.int c)),some (.d (.tup QQ)),some (.h hh),some (.d (am "odd" [(([]:List Int),c0)])),none] s'):=
  aR (ci (ds:=[.str "odd",.tup [.tup [.tup [],.int c0]]]) (ag rfl (ag (ci (ds:=[.tup [.tup [],.int c0]]) (ag (ci (ds:=[.tup [],.int c0]) (ag (ci (ds:=[]) rfl rfl (by decide)) (ag (au rfl (aq (ag (aE (bW (ds:=cZ 0 QQ) (s:=s') rfl hz k1)) rfl) k2) hm) rfl)) rfl (by show 2<=1000;decide)) rfl) rfl (by show 1<=1000;decide)) rfl)) rfl (by show 2<=1000;decide))
 exact aD (n:=6) (k:=4) (b:=iE) rfl (ap s1 (ap (dg (dP rfl) hF) (aF rfl)))
end Own
end
section
set_option maxHeartbeats 1000000
namespace Own
open PySem L2
theorem Bx {st:Sto}{ps qs:List Prt} (hp:∀ p∈ps,Trm 6 p.1) (hq:∀ q∈qs,Trm 6 q.1) (lp:ps.length<=64) (lq:qs.length<=64) :
  nY [.d (am "odd" ps),.d (am "odd" qs)] st=some (.d (am "odd" (d3 (ps++qs))),st):=by
 have h6:∀ p∈ps++qs,Trm 6 p.1:=λp hm=>(qbo.mp hm).elim (hp p) (hq p)
 have k4:=sK (st:=st) (kd:="odd") (w:=.d (.tup ((ps++qs).map ar))) (L:=ps++qs) (.inl rfl) h6
 generalize d3 (ps++qs)=R at k4 ⊢
 rw[qa5]at k4
 have hz:(ps.map ar).length+(qs.map ar).length<=1000000:=by rw[qag,qag];lia
 unfold am at k4 ⊢
 generalize ps.map ar=PP at *
 generalize qs.map ar=QQ at *
 have a1:=BO st hz
 exact aD (n:=2) (k:=2) (b:=n8) rfl (aF (aq (ag (au rfl rfl (ix0 _ _ _)) (ag (au (au rfl rfl (ix1 _ _ _ _)) (au rfl rfl (ix1 _ _ _ _)) a1) rfl)) k4))
def puS (qs:List Pt) (Es:List (List Prt)) (acc:List Prt) (p:Prt):List Prt:=d3 (acc++ptL Es (p.2*cw (lnN p.1 0 qs)) p.1)
def puL (qs:List Pt) (Es:List (List Prt)) (ps:List Prt):List Prt:=ps.foldl (puS qs Es) []
section
variable {N:Nat}{Es:List (List Prt)}{qs:List Pt}
theorem ll (h:lu N Es) (c:Int) (t:List Int):(∀ p∈ptL Es c t,Trm N p.1)/\(ptL Es c t).length<=64/\∀ r,aX false (ptL Es c t) r=t.foldl (λv k=>v*((-1)*aX false (Es.getD k.toNat []) r)) c:=by
 obtain⟨a,b,d⟩:=ww h t _ (xN (N:=N) c) (by show 1<=64;decide)
 refine⟨a,b,λr=>?_⟩
 have e:aX false [(([]:List Int),c)] r=c:=by
  unfold aX
  rw[qal,qaQ]
  show c*bb false [] r+0=c
  rw[show bb false [] r=1 from rfl];lia
 rw[<-e]
 have:=d r
 rw[e]at this ⊢
 exact this
theorem EH (h:lu N Es) {acc:List Prt} (ha:∀ p∈acc,Trm N p.1) (p:Prt):eE N (puS qs Es acc p):=n6 h.n λx hx=>(qbo.mp hx).elim (ha x) ((ll h _ _).1 x)
theorem tL (h:lu N Es):∀ (ps acc:List Prt),eE N acc->eE N (ps.foldl (puS qs Es) acc)/\∀ r,aX false (ps.foldl (puS qs Es) acc) r=aX false acc r+(ps.map λp=>aX false (ptL Es (p.2*cw (lnN p.1 0 qs)) p.1) r).sum
 |[],acc,ha=>⟨ha,λr=>by rw[qc2,List.sum_nil,qg4];rfl⟩
 |p::ps,acc,ha=>by
  have hacc:∀ x∈acc,Trm N x.1:=λx hx=>(ha.1 x hx).1
  obtain⟨a,b⟩:=tL h ps (puS qs Es acc p) (EH h hacc p)
  refine⟨a,λr=>?_⟩
  rw[qby,b r,qal,qaQ]
  have e:aX false (puS qs Es acc p) r=aX false acc r+aX false (ptL Es (p.2*cw (lnN p.1 0 qs)) p.1) r:=by
   unfold puS
   rw[lN (λx hx=>((qbo.mp hx).elim (hacc x) ((ll h _ _).1 x)).mono h.n),p7]
  rw[e];lia
theorem wp (N:Nat):eE N []:=⟨(λp hp=>nomatch hp),.nil⟩
end
theorem xl {qs:List Pt} (h:oF qs):lu (tot qs) (bE 0 qs):=⟨h.2,λE hE=>by
 have:=xY qs 0 h.1 (by rw[qbt];exact h.2) E hE
 rw[qbt]at this
 exact this⟩
theorem A5 {st:Sto}{qs:List Pt}{ps:List Prt} (h:oF qs) (hl:qs.length<=6) (hp:∀ p∈ps,Trm qs.length p.1) (lp:ps.length<=64):iR [.d (am "odd" ps),.d (.tup (qs.map PtD))] st=some (.d (am "odd" (puL qs (bE 0 qs) ps)),st):=by
 have hE:=xl h
 have e1:=zy (st:=st) h hl
 have lg1:=xV st ((bE 0 qs).map (am "odd"))
 obtain⟨e',s',hF,o4,o5,rfl,rfl⟩:=bN (g:=.tp [4,5]) (body:=mj) (ds:=ps.map ar)
  (λi env s=>∃ o4 o5,env=[some (.d (am "odd" ps)),some (.d (.tup (qs.map PtD))),some (.h st.length),some (.d (am "odd" (puL qs (bE 0 qs) (ps.take i)))),o4,o5]/\s=st++[.l ((bE 0 qs).map (am "odd"))])
  (env:=[some (.d (am "odd" ps)),some (.d (.tup (qs.map PtD))),some (.h st.length),some (.d (am "odd" [])),none,none]) (st:=st++[.l ((bE 0 qs).map (am "odd"))]) ⟨none,none,rfl,rfl⟩ (by
  rintro i d env s hd ⟨o4,o5,rfl,rfl⟩
  obtain⟨p,hpi,rfl⟩:=mO hd
  have hpm:=hp p (qbl hpi)
  have htk:ps.take (i+1)=ps.take i++[p]:=by rw[qbJ,hpi];rfl
  have hacc:=(tL (qs:=qs) hE (ps.take i) [] (wp _)).1
  have hpt:=ll hE (p.2*cw (lnN p.1 0 qs)) p.1
  have e2:=z0 (st:=st++[.l ((bE 0 qs).map (am "odd"))]) (hh:=st.length) (t:=p.1) (c:=p.2) h hl hE lg1 (λk hk=>⟨(hpm.2 k hk).1,by rw[oN];have:=hpm.2 k hk;lia⟩) (qaL (iS hpm) hl)
  have e3:=Bx (st:=st++[.l ((bE 0 qs).map (am "odd"))]) (ps:=puL qs (bE 0 qs) (ps.take i)) (qs:=ptL (bE 0 qs) (p.2*cw (lnN p.1 0 qs)) p.1) (λx hx=>(hacc.1 x hx).1.mono hE.n) (λx hx=>(hpt.1 x hx).mono hE.n) (hacc.len hE.n) hpt.2.1
  have hcp:puL qs (bE 0 qs) (ps.take (i+1))=d3 (puL qs (bE 0 qs) (ps.take i)++ptL (bE 0 qs) (p.2*cw (lnN p.1 0 qs)) p.1):=by unfold puL;rw[htk,qea];rfl
  refine⟨_,[some (.d (am "odd" ps)),some (.d (.tup (qs.map PtD))),some (.h st.length),some (.d (am "odd" (puL qs (bE 0 qs) (ps.take (i+1))))),some (.d (ai p.1)),some (.d (.int p.2))],_,rfl,.inl ?_,_,_,rfl,rfl⟩
  rw[hcp]
  generalize am "odd" (d3 (puL qs (bE 0 qs) (ps.take i)++ptL (bE 0 qs) (p.2*cw (lnN p.1 0 qs)) p.1))=R1 at e3 ⊢
  generalize am "odd" (puL qs (bE 0 qs) (ps.take i))=R2 at e3 ⊢
  generalize am "odd" (ptL (bE 0 qs) (p.2*cw (lnN p.1 0 qs)) p.1)=R3 at e2 e3
  generalize (bE 0 qs).map (am "odd")=EE at *
  generalize qs.map PtD=QQ at *
  generalize am "odd" ps=P0 at *
  have a1:ax gm (ab (iV 4) (ab (iV 5) (ab (iV 1) (ab (iV 2) ak)))) [some (.d P0),some (.d (.tup QQ)),some (.h st.length),some (.d R2),some (.d (ai p.1)),some (.d (.int p.2))] (st++[.l EE])=some (.d R3,st++[.l EE]):=aq (ws:=[.d (ai p.1),.d (.int p.2),.d (.tup QQ),.h st.length]) rfl e2
  have a2:ax nY (ab (iV 3) (ab (ax gm (ab (iV 4) (ab (iV 5) (ab (iV 1) (ab (iV 2) ak))))) ak)) [some (.d P0),some (.d (.tup QQ)),some (.h st.length),some (.d R2),some (.d (ai p.1)),some (.d (.int p.2))] (st++[.l EE])=some (.d R1,st++[.l EE]):=aq (ws:=[.d R2,.d R3]) (ag rfl (ag a1 rfl)) e3
  exact aR (i:=3) a2)
 rw[qag,qbv]at hF
 have ht:=qY st (.l ((bE 0 qs).map (am "odd")))
 generalize am "odd" (puL qs (bE 0 qs) ps)=R at hF ⊢
 generalize (bE 0 qs).map (am "odd")=EE at *
 generalize qs.map PtD=QQ at *
 have b1:bf (.nm 2) (ax gI (ab (iV 1) ak)) [some (.d (am "odd" ps)),some (.d (.tup QQ)),none,none,none,none] st=some (.nx [some (.d (am "odd" ps)),some (.d (.tup QQ)),some (.h st.length),none,none,none] (st++[.l EE])):=aR (aq (ws:=[.d (.tup QQ)]) rfl e1)
 have b2:bf (.nm 3) (cn (ab (iC (.str "odd")) (ab (cn ak) ak))) [some (.d (am "odd" ps)),some (.d (.tup QQ)),some (.h st.length),none,none,none] (st++[.l EE])=some (.nx [some (.d (am "odd" ps)),some (.d (.tup QQ)),some (.h st.length),some (.d (am "odd" [])),none,none] (st++[.l EE])):=aR (ci (ds:=[.str "odd",.tup []]) (ag rfl (ag (ci (ds:=[]) rfl rfl (by decide)) rfl)) rfl (by show 2<=1000;decide))
 have b3:aH (iOp dIx (iV 0) (iC (.int 1))) [some (.d (am "odd" ps)),some (.d (.tup QQ)),some (.h st.length),some (.d (am "odd" [])),none,none] (st++[.l EE])=some (ps.map ar,st++[.l EE]):=fk (au rfl rfl (ix1 _ _ _ _))
 have hq:=ix (n:=6) (k:=2) (b:=iN) (ws:=[.d (am "odd" ps),.d (.tup QQ)]) (st:=st) (s:=st++[.l EE]) (x:=R) rfl (ap b1 (ap b2 (ap (dg b3 hF) (aF rfl))))
 rw[ht]at hq
 exact hq
theorem Gc {v:Int} (h:v=0\/v=1):(-1)*sI v=kH false v:=by
 rcases h with rfl|rfl<;>rfl
theorem FV {qs:List Pt}{ps:List Prt} (h:oF qs) (hp:∀ p∈ps,Trm qs.length p.1) (r:Nat):aX false (puL qs (bE 0 qs) ps) (r:Int)=2^tot qs*aX false ps (atV (vsL r qs)):=by
 have hE:=xl h
 have h01:=wo qs r h.1
 unfold puL
 rw[(tL (qs:=qs) hE ps [] (wp _)).2 (r:Int)]
 show 0+_=_
 rw[qcR]
 unfold aX
 rw[<-oH]
 congr 1
 refine qaP λp hpm=>?_
 have ht:=hp p hpm
 show aX false (ptL (bE 0 qs) (p.2*cw (lnN p.1 0 qs)) p.1) (r:Int)=_
 rw[(ll hE _ _).2.2]
 have e1:p.1.foldl (λv k=>v*((-1)*aX false ((bE 0 qs).getD k.toNat []) (r:Int))) (p.2*cw (lnN p.1 0 qs))=p.1.foldl (λv k=>v*(wP qs k*kH false (onI (atV (vsL r qs)) k))) (p.2*cw (lnN p.1 0 qs)):=by
  have key:∀ (t:List Int) (a:Int),(∀ k∈t,0<=k/\k<(qs.length:Int))->t.foldl (λv k=>v*((-1)*aX false ((bE 0 qs).getD k.toNat []) (r:Int))) a=t.foldl (λv k=>v*(wP qs k*kH false (onI (atV (vsL r qs)) k))) a:=λt=>by
   induction t with
   |nil=>exact λa _=>rfl
   |cons k t ih=>
    intro a hk
    have h1:=hk k qak
    rw[qby,qby,ih _ λj hj=>hk j (qah _ hj)]
    congr 2
    obtain⟨j,rfl⟩:=qbB h1.1
    have hj:j<qs.length:=by lia
    have hv:=uo qs 0 h.1 (by rw[qbt];exact h.2) j r hj
    rw[qiO,qjq]at hv
    rw[qaK,hv,Ap _ j h01 (by rw[n5];exact hj)]
    have hv01:(vsL r qs).getD j 0=0\/(vsL r qs).getD j 0=1:=by
     rw[qa1,qaE (by rw[n5];exact hj)]
     exact h01 _ (qda _)
    rw[<-Gc hv01]
    unfold wP
    rw[qaK,qeg]
  exact key p.1 _ λk hk=>ht.2 k hk
 rw[e1,rR]
 have e2:pr (p.1.map λk=>kH false (onI (atV (vsL r qs)) k))=bb false p.1 (atV (vsL r qs)):=by
  have:=mq false (atV (vsL r qs)) p.1 1
  rw[qe5]at this
  rw[<-this]
  have:=qf (p.1.map λk=>kH false (onI (atV (vsL r qs)) k)) 1
  rw[qkg,qe5]at this
  exact this.symm
 have e3:=pf qs 0 p.1 ht.1 λk hk=>by have:=ht.2 k hk;lia
 have e4:(p.1.map λk=>wP qs (k - ((0:Nat):Int)))=p.1.map (wP qs):=qaP λk _=>by show wP qs (k - 0)=_;rw[Int.sub_zero]
 rw[e4]at e3
 rw[e2,vq,qbH p.2,e3,qeL p.2,qbH]
end Own
end
section
set_option maxHeartbeats 1000000
namespace Own
open PySem L2
theorem ud {te:Ef}{m:Int} (N:Nat) (hte:∀ (d:D) (s:Sto),te [some (.d d),some (.h 1)] s=ay [.h 1,.d (.int m)] s) (m0:0<m) (m1:m<=100) {p:Spo}{Z:Int} (h:okP p Z) (hZ:Z+N<900000000) (rest:Sto) :
  ∃ (l:List Int) (p':Spo),l.length=N/\(∀ x∈l,0<=x/\x<m)/\okP p' (Z+N)/\lcI (.nm 0) cr te [none,some (.h 1)] (gk 0 N) (spo p rest)=some (l.map D.int,spo p' rest):=by
 obtain⟨ys,s',hL,p3,l,rfl,rfl,h3,hv,hl⟩:=mn (g:=.nm 0) (tt:=cr) (te:=te) (env:=[none,some (.h 1)]) (ds:=gk 0 N)
  (λi ys s=>∃ p l,ys=l.map D.int/\s=spo p rest/\okP p (Z+i)/\(∀ x ∈ l,0<=x/\x < m)/\l.length=i) (st:=spo p rest) (ys0:=[]) ⟨p,[],rfl,rfl,h.mono (by lia),(λx hx=>nomatch hx),rfl⟩ (by
  rintro i d ys s hd ⟨p,l,rfl,rfl,hp,hv,hl⟩
  obtain⟨rfl,hi⟩:=gY hd
  obtain⟨r,p',r0,r1,hp',e⟩:=dw hp (by lia) (m:=m) m0 (by lia)
  refine⟨_,rfl,.inl ⟨_,_,_,rfl,(hte _ _).trans (e rest),p',l++[r],by rw[qa5];rfl,rfl,hp'.mono (by push_cast;lia),λz hz=>?_,by simp[hl]⟩⟩
  rcases qbo.mp hz with hz|hz
  ·exact hv z hz
  ·rw[qaI.mp hz];exact⟨r0,r1⟩)
 rw[cQ]at hl h3
 exact⟨l,p3,hl,hv,h3,hL⟩
structure Dr (n:Nat) (ps:List Prt):Prop where
 t:eE n ps
 b:∀ p∈ps,-1000000000000000000<=p.2/\p.2<=1000000000000000000
theorem Dr.abs {n:Nat}{ps:List Prt} (h:Dr n ps):∀ p∈ps,p.2.natAbs<=1000000000000000000:=λp hp=>by have:=h.b p hp;lia
def GT (r:Int):List D:=[.int 1,.int (-1),.int 2,.int (-2),.int 3,.int (-3),.int 1,.int (1000000000000000000 - r)]
theorem FA {r c:Int} (r0:0<=r) (r1:r<99) (c0:0<=c) (c1:c<8) (s:Sto):∃ x:Int,x≠0/\-1000000000000000000<=x/\x<=1000000000000000000/\dIx s (.d (.lst (GT r))) (.d (.int c))=some (.int x):=by
 have h:c=0\/c=1\/c=2\/c=3\/c=4\/c=5\/c=6\/c=7:=by lia
 rcases h with rfl|rfl|rfl|rfl|rfl|rfl|rfl|rfl
 ·exact⟨1,by lia,by lia,by lia,rfl⟩
 ·exact⟨-1,by lia,by lia,by lia,rfl⟩
 ·exact⟨2,by lia,by lia,by lia,rfl⟩
 ·exact⟨-2,by lia,by lia,by lia,rfl⟩
 ·exact⟨3,by lia,by lia,by lia,rfl⟩
 ·exact⟨-3,by lia,by lia,by lia,rfl⟩
 ·exact⟨1,by lia,by lia,by lia,rfl⟩
 ·exact⟨1000000000000000000 - r,by lia,by lia,by lia,rfl⟩
theorem GO (s:Sto):zL s (.d (.int 10)) (.d (.int 18))=some (.int 1000000000000000000):=by
 show (if qC 10 18 then some (D.int (10^qiT 18)) else none)=_
 rw[if_pos Hc];rfl
theorem Cr {p:Spo}{Z:Int}{kd:Str}{n:Nat} (rest:Sto) (h:okP p Z) (hZ:Z<900000000) (hn:n<=6):∃ (ps:List Prt) (p':Spo),Dr n ps/\okP p' (Z+192)/\gS [.h 1,.d (.str kd),.d (.int n)] (spo p rest)=some (.d (am kd ps),spo p' rest):=by
 have hlen:(cG n).length<=64:=by
  rw[pG]
  exact qaL (qbA (by decide) hn) (by decide)
 obtain⟨e',s',hF,p1,ps,o4,o5,rfl,rfl,h1,hs,hb⟩:=bN (g:=.nm 4) (body:=h8) (ds:=(cG n).map ai)
  (λi env s=>∃ (p:Spo) (ps:List Prt) (o4 o5:Option W),env=[some (.h 1),some (.d (.str kd)),some (.d (.int n)),some (.h (rest.length+2)),o4,o5]/\s=spo p (rest++[.l (ps.map ar)])/\okP p (Z+3*i)/\(ps.map qa3).Sublist ((cG n).take i)/\∀ q∈ps,q.2≠0/\-1000000000000000000<=q.2/\q.2<=1000000000000000000)
  (env:=[some (.h 1),some (.d (.str kd)),some (.d (.int n)),some (.h (rest.length+2)),none,none]) (st:=spo p (rest++[.l []])) ⟨p,[],none,none,rfl,rfl,h.mono (by lia),List.nil_sublist _,(λq hq=>nomatch hq)⟩ (by
  rintro i d env s hd ⟨p,ps,o4,o5,rfl,rfl,hp,hs,hb⟩
  rw[qaZ,qad]at hd
  obtain⟨t,ht,rfl⟩:=hd
  have hi:i<64:=by have:=(qax.mp ht).1;lia
  have htk:(cG n).take (i+1)=(cG n).take i++[t]:=by rw[qbJ,ht];rfl
  obtain⟨r,p1,r0,r1,h1,e1⟩:=dw hp (by lia) (m:=99) (by decide) (by decide)
  obtain⟨c,p2,c0,c1,h2,e2⟩:=dw h1 (by lia) (m:=8) (by decide) (by decide)
  obtain⟨u,p3,u0,u1,h3,e3⟩:=dw h2 (by lia) (m:=3) (by decide) (by decide)
  obtain⟨x,x0,x1,x2,ex⟩:=FA r0 r1 c0 c1 (spo p2 (rest++[.l (ps.map ar)]))
  have f1:=e1 (rest++[.l (ps.map ar)])
  have f2:=e2 (rest++[.l (ps.map ar)])
  have f3:=e3 (rest++[.l (ps.map ar)])
  have hpl:ps.length<=64:=by
   have:=hs.length_le
   rw[qag,qcr]at this;lia
  have lg3:=BF p3 rest (ps.map ar)
  have st3:=C4 p3 rest (.l (ps.map ar)) (.l (ps.map ar++[ar (t,x)]))
  have s1:bf (.nm 5) (iOp dIx (aM (fP (ab (iC (.int 1)) (ab (iUn qA (iC (.int 1))) (ab (iC (.int 2)) (ab (iUn qA (iC (.int 2))) (ab (iC (.int 3)) (ab (iUn qA (iC (.int 3))) (ab (iC (.int 1)) (ab (iOp zc (iOp zL (iC (.int 10)) (iC (.int 18))) (ax ay (ab (iV 0) (ab (iC (.int 99)) ak)))) ak)))))))))) (ax ay (ab (iV 0) (ab (iC (.int 8)) ak))))
    [some (.h 1),some (.d (.str kd)),some (.d (.int n)),some (.h (rest.length+2)),some (.d (ai t)),o5] (spo p (rest++[.l (ps.map ar)]))=some (.nx [some (.h 1),some (.d (.str kd)),some (.d (.int n)),some (.h (rest.length+2)),some (.d (ai t)),some (.d (.int x))] (spo p2 (rest++[.l (ps.map ar)]))):=
   aR (au (aE (mo (ds:=GT r) (ag rfl (ag rfl (ag rfl (ag rfl (ag rfl (ag rfl (ag rfl (ag (au (au rfl rfl (GO _)) (aq rfl f1) rfl) rfl)))))))) rfl (by show 8<=1000;decide))) (aq rfl f2) ex)
  by_cases hu:u > 0
  ·refine⟨_,_,_,rfl,.inl (ap s1 (nr (aQ (aq rfl f3) rfl (Hu _ (decide_eq_true hu))) (GQ (d:=ar (t,x)) rfl (ci (ag rfl (ag rfl rfl)) rfl (by show 2<=1000;decide)) lg3 lg3 (by rw[qag];lia)))),p3,ps++[(t,x)],_,_,rfl,?_,h3.mono (by push_cast;lia),?_,?_⟩
   ·rw[st3,qa5];rfl
   ·rw[htk,qa5]
    exact hs.append (qlQ _)
   ·intro q hq
    rcases qbo.mp hq with hq|hq
    ·exact hb q hq
    ·rw[qaI.mp hq];exact⟨x0,x1,x2⟩
  ·refine⟨_,_,_,rfl,.inl (ap s1 (fF (aQ (aq rfl f3) rfl (Hu _ (decide_eq_false hu))) rfl)),p3,ps,_,_,rfl,rfl,h3.mono (by push_cast;lia),?_,hb⟩
   rw[htk]
   exact hs.trans (List.sublist_append_left _ _))
 rw[qag]at h1 hs
 rw[qbv]at hs
 have hsub:∀ q∈ps,Trm n q.1:=λq hq=>jC (hs.subset (qcC hq))
 have hpl:ps.length<=64:=by
  have:=hs.length_le
  rw[qag]at this;lia
 refine⟨ps,p1,⟨⟨λq hq=>⟨hsub q hq,(hb q hq).1⟩,?_⟩,λq hq=>(hb q hq).2⟩,h1.mono (by lia),?_⟩
 ·refine qkO hs ?_
  have:(fD n).Nodup:=by
   have hk:((qaN 7).all λn=>decide (fD n).Nodup)=true:=by decide +kernel
   exact of_decide_eq_true (qaT.mp hk n (qbz.mpr (by lia)))
  exact jV this
 ·have lg1:=BF p1 rest (ps.map ar)
  have ht:=uk (st:=spo p (rest++[.l []])) hn
  have htake:=Aq p1 rest [.l (ps.map ar)]
  unfold am
  generalize (cG n).map ai=AA at hF ht
  generalize ps.map ar=PP at hF lg1 htake ⊢
  have hd:i8 (spo p1 (rest++[.l PP])) [.h (rest.length+2)]=some (.tup PP):=by
   show (lg _ _).map _=_
   rw[lg1];rfl
  have s1:bf (.nm 3) (pj (fP ak)) [some (.h 1),some (.d (.str kd)),some (.d (.int n)),none,none,none] (spo p rest)=some (.nx [some (.h 1),some (.d (.str kd)),some (.d (.int n)),some (.h (rest.length+2)),none,none] (spo p (rest++[.l []]))):=rfl
  have s2:gB (aH (ax dW (ab (iV 2) (ab (iV 2) ak)))) (.nm 4) h8 [some (.h 1),some (.d (.str kd)),some (.d (.int n)),some (.h (rest.length+2)),none,none] (spo p (rest++[.l []]))=some (.nx [some (.h 1),some (.d (.str kd)),some (.d (.int n)),some (.h (rest.length+2)),o4,o5] (spo p1 (rest++[.l PP]))):=dg (gh (aq (ws:=[.d (.int n),.d (.int n)]) rfl ht)) hF
  have s3:iCB i8 (ab (iV 3) ak) [some (.h 1),some (.d (.str kd)),some (.d (.int n)),some (.h (rest.length+2)),o4,o5] (spo p1 (rest++[.l PP]))=some (.d (.tup PP),spo p1 (rest++[.l PP])):=bo (ws:=[.h (rest.length+2)]) rfl hd
  have s4:bG (cn (ab (iV 1) (ab (iCB i8 (ab (iV 3) ak)) ak))) [some (.h 1),some (.d (.str kd)),some (.d (.int n)),some (.h (rest.length+2)),o4,o5] (spo p1 (rest++[.l PP]))=some (.rt (.d (.tup [.str kd,.tup PP])) (spo p1 (rest++[.l PP]))):=aF (ci (ws:=[.d (.str kd),.d (.tup PP)]) (ag rfl (ag s3 rfl)) rfl (by show 2<=1000;decide))
  have hq:=ix (n:=6) (k:=3) (b:=gQ) (ws:=[.h 1,.d (.str kd),.d (.int n)]) (st:=spo p rest) (s:=spo p1 (rest++[.l PP])) (x:=.tup [.str kd,.tup PP]) rfl (ap s1 (ap s2 s4))
  rw[DB,htake]at hq
  exact hq
theorem He {i j:Nat}{f:Ef}{env:Ev}{st s:Sto}{x y:D} (h:f env st=some (.d (.tup [x,y]),s)):bf (.tp [i,j]) f env st=some (.nx (qr [i,j] [x,y] env) s):=by
 simp only[bf,h,qaf,fM,qam,qbx,if_true,qaC]
theorem Ho {i j:Nat}{a:Af}{env:Ev}{st s:Sto}{x y:W} (h:a env st=some ([x,y],s)):t7 i j a env st=some (.nx ((env.set i (some x)).set j (some y)) s):=by
 simp only[t7,h,qaf]
theorem Fu:((qaN 7).all λi=>(qaN 7).all λn=>((1*2^i:Int)==2^n)==decide (i=n))=true:=by decide +kernel
theorem G3 {i n:Nat} (hi:i<7) (hn:n<7):((1*2^i:Int)==2^n)=decide (i=n):=eq_of_beq (qaT.mp (qaT.mp Fu i (qbz.mpr hi)) n (qbz.mpr hn))
theorem Bg (s:Sto) {q:Pt} (h:cI q.1 q.2):eA s [.d (PtD q)]=some (.int (2^q.1)):=by
 show some (D.int ((q.2.map D.int).length:Nat))=_
 rw[qag,h.len];push_cast;rfl
theorem FU {st:Sto}{q:Pt} (h:cI q.1 q.2) (hn:q.1<=6):fu [.d (PtD q)] st=some (.d (.int (q.1:Int)),st):=by
 have hl:=Bg st h
 have k:=d8 (g:=.nm 0) (tt:=gT) (te:=gO) (env:=[none,some (.d (PtD q))]) (st:=st) (λd=>match d with|.int k=>decide (k=(q.1:Int))|_=>false) id (ds:=gk 0 7) λd hd=>by
  obtain⟨i,hi0⟩:=qiR hd
  obtain⟨rfl,hi⟩:=gY hi0
  refine⟨_,rfl,?_,λ_=>rfl⟩
  have hs:xc st (.d (.int 1)) (.d (.int (i:Int)))=some (.int (1*2^i)):=by
   show (if qC 1 (i:Int) then some (D.int (1*2^(i:Int).toNat)) else none)=_
   rw[if_pos ⟨by lia,by lia,by decide⟩,qaK]
  refine aQ (au rfl rfl hs) (bo (ag rfl rfl) hl) ?_
  rw[v0,G3 hi (by lia)]
  congr 2
  exact decide_eq_decide.mpr ⟨λe=>by rw[e],λe=>by lia⟩
 have hr:((gk 0 7).filter λd=>match d with|.int k=>decide (k=(q.1:Int))|_=>false).map id=[.int (q.1:Int)]:=by
  generalize q.1=n at hn
  have:n=0\/n=1\/n=2\/n=3\/n=4\/n=5\/n=6:=by lia
  rcases this with rfl|rfl|rfl|rfl|rfl|rfl|rfl<;>rfl
 rw[hr]at k
 exact aD (n:=1) (k:=1) (b:=dr) rfl (aF (au (x:=.d (.lst [.int (q.1:Int)])) (aE (bW (ip (m:=7) rfl (by decide) (by decide) rfl) (by rw[cQ];decide) k)) rfl rfl))
theorem Hm (s:Sto) {a b c d w:Int} (w0:0<=w) (w1:w<4) (ha:a=0\/a=1) (hb:b=0\/b=1) (hc:c=0\/c=1) (hd:d=0\/d=1):∃ x:Int,(x=0\/x=1)/\dIx s (.d (.lst [.int a,.int b,.int c,.int d])) (.d (.int w))=some (.int x):=by
 have h:w=0\/w=1\/w=2\/w=3:=by lia
 rcases h with rfl|rfl|rfl|rfl
 ·exact⟨a,ha,rfl⟩
 ·exact⟨b,hb,rfl⟩
 ·exact⟨c,hc,rfl⟩
 ·exact⟨d,hd,rfl⟩
theorem CL {p:Spo}{Z:Int}{n:Nat} (rest:Sto) (h:okP p Z) (hZ:Z<900000000) (hn:n<=6):∃ (f:List Int) (p':Spo),cI n f/\okP p' (Z+130)/\jz [.h 1,.d (.int n)] (spo p rest)=some (.d (ai f),spo p' rest):=by
 obtain⟨w,p1,w0,w1,h1,e1⟩:=dw h (by lia) (m:=4) (by decide) (by decide)
 obtain⟨o,p2,o0,o1,h2,e2⟩:=dw h1 (by lia) (m:=2) (by decide) (by decide)
 obtain⟨q,hq,q1,_,q2⟩:=As (n:=(n:Int)) (by lia) (by lia)
 rw[qaK]at q1 q2
 have q0:0<=q:=by have:0<2^n:=qef (by decide);lia
 obtain⟨ys,s',hL,p3,f,rfl,rfl,h3,hv,hl⟩:=mn (g:=.nm 0) (tt:=cr) (te:=ie) (env:=[none,some (.h 1),some (.d (.int o)),some (.d (.int w))]) (ds:=gk 0 (2^n))
  (λi ys s=>∃ (p:Spo) (l:List Int),ys=l.map D.int/\s=spo p rest/\okP p (Z+2+2*i)/\(∀ x ∈ l,x=0\/x=1)/\l.length=i) (st:=spo p2 rest) (ys0:=[]) ⟨p2,[],rfl,rfl,h2.mono (by lia),(λx hx=>nomatch hx),rfl⟩ (by
  rintro i d ys s hd ⟨p,l,rfl,rfl,hp,hv,hl⟩
  obtain⟨rfl,hi⟩:=gY hd
  obtain⟨a,r1,a0,a1,g1,f1⟩:=dw hp (by lia) (m:=2) (by decide) (by decide)
  obtain⟨b,r2,b0,b1,g2,f2⟩:=dw g1 (by lia) (m:=2) (by decide) (by decide)
  obtain⟨x,hx,ex⟩:=Hm (spo r2 rest) (a:=a) (b:=b) (c:=o) (d:=(i:Int)%2) w0 w1 (by lia) (by lia) (by lia) (by lia)
  have he:ie [some (.d (.int (i:Int))),some (.h 1),some (.d (.int o)),some (.d (.int w))] (spo p rest)=some (.d (.int x),spo r2 rest):=
   au (aE (mo (ds:=[.int a,.int b,.int o,.int ((i:Int)%2)]) (ag (aq rfl (f1 rest)) (ag (aq rfl (f2 rest)) (ag rfl (ag (au rfl rfl (rO _ (by decide))) rfl)))) rfl (by show 4<=1000;decide))) rfl ex
  refine⟨_,rfl,.inl ⟨_,_,_,rfl,he,r2,l++[x],by rw[qa5];rfl,rfl,g2.mono (by push_cast;lia),λz hz=>?_,by simp[hl]⟩⟩
  rcases qbo.mp hz with hz|hz
  ·exact hv z hz
  ·rw[qaI.mp hz];exact hx)
 rw[cQ]at hl h3
 refine⟨f,p3,⟨hl,hv⟩,h3.mono (by push_cast;lia),?_⟩
 have b1:bf (.tp [2,3]) (cn (ab (ax ay (ab (iV 0) (ab (iC (.int 4)) ak))) (ab (ax ay (ab (iV 0) (ab (iC (.int 2)) ak))) ak))) [some (.h 1),some (.d (.int n)),none,none] (spo p rest)=some (.nx [some (.h 1),some (.d (.int n)),some (.d (.int w)),some (.d (.int o))] (spo p2 rest)):=
  He (ci (ds:=[.int w,.int o]) (ag (aq rfl (e1 rest)) (ag (aq rfl (e2 rest)) rfl)) rfl (by show 2<=1000;decide))
 unfold ai
 generalize f.map D.int=FF at hL ⊢
 exact aD (n:=4) (k:=2) (b:=hU) rfl (ap b1 (aF (bo (ag (aE (bW (k:=1) (js:=[0,3,2]) (ip (au rfl rfl (hq _)) q0 (by lia) q1) (by rw[cQ];lia) hL)) rfl) rfl)))
def qu (l:List Nat):List D:=l.map λc:Nat=>D.int (c:Int)
theorem w6:∀ {l:List Int}{m:Int},(∀ x∈l,0<=x/\x<m)->∃ ns:List Nat,l.map D.int=qu ns/\ns.length=l.length/\∀ n∈ns,(n:Int)<m
 |[],m,_=>⟨[],rfl,rfl,(λn hn=>nomatch hn)⟩
 |x::l,m,h=>by
  obtain⟨ns,e,hl,hm⟩:=w6 (l:=l) (m:=m) λy hy=>h y (qah _ hy)
  have hx:=h x qak
  obtain⟨j,rfl⟩:=qbB hx.1
  refine⟨j::ns,by rw[qal,e];rfl,by rw[qam,qam,hl],λn hn=>?_⟩
  rcases qay.mp hn with rfl|hn
  ·exact hx.2
  ·exact hm n hn
theorem v5 {B:Nat}:∀ {ns:List Nat},(∀ n∈ns,n<=B)->ns.sum<=ns.length*B
 |[],_=>qaW _
 |n::ns,h=>by
  have:=v5 (ns:=ns) λx hx=>h x (qah _ hx)
  have h1:=h n qak
  rw[qaQ,qam,qhB];lia
theorem BC {p:Spo}{Z:Int} (rest:Sto) (h:okP p Z) (hZ:Z<800000000):∃ (ns:List Nat) (p':Spo),ns.sum<=6/\ns.length<=6/\okP p' (Z+10)/\fG [.h 1] (spo p rest)=some (.d (.lst (qu ns)),spo p' rest):=by
 obtain⟨w,p1,w0,w1,h1,e1⟩:=dw h (by lia) (m:=6) (by decide) (by decide)
 obtain⟨mm,p2,m0,m1,h2,e2⟩:=dw h1 (by lia) (m:=4) (by decide) (by decide)
 obtain⟨m,rfl⟩:=qbB m0
 have b1:t7 1 2 (ab (ax ay (ab (iV 0) (ab (iC (.int 6)) ak))) (ab (ax ay (ab (iV 0) (ab (iC (.int 4)) ak))) ak)) [some (.h 1),none,none,none] (spo p rest)=some (.nx [some (.h 1),some (.d (.int w)),some (.d (.int (m:Int))),none] (spo p2 rest)):=
  Ho (ag (aq rfl (e1 rest)) (ag (aq rfl (e2 rest)) rfl))
 have c:∀ (z:Int) (k:Bool),(w==z)=k->bO dEq (iV 1) (iC (.int z)) [some (.h 1),some (.d (.int w)),some (.d (.int (m:Int))),none] (spo p2 rest)=some (k,spo p2 rest):=λz k hk=>aQ rfl rfl (by rw[v0,hk])
 by_cases hw0:w=0
 ·obtain⟨l,p3,l1,l2,h3,e3⟩:=ud (te:=jM) (m:=2) (3+m) (λd s=>rfl) (by decide) (by decide) h2 (by push_cast;lia) rest
  obtain⟨ns,en,hl,hb⟩:=w6 l2
  have hs:=v5 (ns:=ns) (B:=1) λn hn=>by have:=hb n hn;lia
  refine⟨ns,p3,by lia,by lia,h3.mono (by push_cast;lia),?_⟩
  rw[<-en]
  generalize l.map D.int=LL at e3 ⊢
  exact aD (n:=4) (k:=1) (b:=cE) rfl (ap b1 (iI (nr (c 0 true (by rw[hw0];rfl)) (aF (aE (bW (k:=1) (js:=[0]) (ip (z:=3+(m:Int)) (au rfl rfl rfl) (by lia) (by lia) (show (3+(m:Int)).toNat=3+m by lia)) (by rw[cQ];lia) e3))))))
 by_cases hw1:w=1
 ·refine⟨[3+m],p2,by show 3+m+0<=6;lia,by show 1<=6;decide,h2.mono (by lia),?_⟩
  have hx:aM (fP (ab (iOp fm (iC (.int 3)) (iV 2)) ak)) [some (.h 1),some (.d (.int w)),some (.d (.int (m:Int))),none] (spo p2 rest)=some (.d (.lst [.int ((3+m:Nat):Int)]),spo p2 rest):=
   aE (mo (ag (au rfl rfl (show some (D.int (3+(m:Int)))=some (D.int ((3+m:Nat):Int)) by push_cast;rfl)) rfl) rfl (by show 1<=1000;decide))
  exact aD (n:=4) (k:=1) (b:=cE) rfl (ap b1 (ap (fF (c 0 false (by rw[beq_eq_false_iff_ne];exact hw0)) rfl) (iI (nr (c 1 true (by rw[hw1];rfl)) (aF hx)))))
 by_cases hw2:w=2
 ·obtain⟨a,p3,a0,a1,h3,e3⟩:=dw h2 (by lia) (m:=7) (by decide) (by decide)
  obtain⟨a,rfl⟩:=qbB a0
  obtain⟨b,p4,b0,b1',h4,e4⟩:=dw h3 (by lia) (m:=7 - (a:Int)) (by lia) (by lia)
  obtain⟨b,rfl⟩:=qbB b0
  refine⟨[a,b],p4,by show a+(b+0)<=6;lia,by show 2<=6;decide,h4.mono (by lia),?_⟩
  have x1:bf (.nm 3) (ax ay (ab (iV 0) (ab (iC (.int 7)) ak))) [some (.h 1),some (.d (.int w)),some (.d (.int (m:Int))),none] (spo p2 rest)=some (.nx [some (.h 1),some (.d (.int w)),some (.d (.int (m:Int))),some (.d (.int (a:Int)))] (spo p3 rest)):=aR (aq rfl (e3 rest))
  have x2:aM (fP (ab (iV 3) (ab (ax ay (ab (iV 0) (ab (iOp zc (iC (.int 7)) (iV 3)) ak))) ak))) [some (.h 1),some (.d (.int w)),some (.d (.int (m:Int))),some (.d (.int (a:Int)))] (spo p3 rest)=some (.d (.lst [.int (a:Int),.int (b:Int)]),spo p4 rest):=
   aE (mo (ag rfl (ag (aq (ws:=[.h 1,.d (.int (7 - (a:Int)))]) rfl (e4 rest)) rfl)) rfl (by show 2<=1000;decide))
  exact aD (n:=4) (k:=1) (b:=cE) rfl (ap b1 (ap (fF (c 0 false (by rw[beq_eq_false_iff_ne];exact hw0)) rfl) (ap (fF (c 1 false (by rw[beq_eq_false_iff_ne];exact hw1)) rfl) (iI (nr (c 2 true (by rw[hw2];rfl)) (ap x1 (aF x2)))))))
 ·obtain⟨l,p3,l1,l2,h3,e3⟩:=ud (te:=jd) (m:=3) m (λd s=>rfl) (by decide) (by decide) h2 (by push_cast;lia) rest
  obtain⟨ns,en,hl,hb⟩:=w6 l2
  have hs:=v5 (ns:=ns) (B:=2) λn hn=>by have:=hb n hn;lia
  refine⟨ns,p3,by lia,by lia,h3.mono (by push_cast;lia),?_⟩
  rw[<-en]
  generalize l.map D.int=LL at e3 ⊢
  exact aD (n:=4) (k:=1) (b:=cE) rfl (ap b1 (ap (fF (c 0 false (by rw[beq_eq_false_iff_ne];exact hw0)) rfl) (ap (fF (c 1 false (by rw[beq_eq_false_iff_ne];exact hw1)) rfl) (ap (fF (c 2 false (by rw[beq_eq_false_iff_ne];exact hw2)) rfl) (aF (aE (bW (k:=1) (js:=[0]) (ip rfl (by lia) (by lia) (qaK m)) (by rw[cQ];lia) e3)))))))
end Own
end
section
set_option maxHeartbeats 1000000
namespace Own
open PySem L2
theorem vh {b:Bool}{row:Int}{B:Nat}:∀ {ps:List Prt},(∀ p∈ps,p.2.natAbs<=B)->(aX b ps row).natAbs<=ps.length*B
 |[],_=>qaW _
 |p::ps,h=>by
  have ih:=vh (b:=b) (row:=row) (ps:=ps) λx hx=>h x (qah _ hx)
  have e:aX b (p::ps) row=p.2*bb b p.1 row+aX b ps row:=by unfold aX;rw[qal,qaQ]
  have h1:(p.2*bb b p.1 row).natAbs<=B:=by
   rw[qh3]
   have:=ph b p.1 row
   have h2:=h p qak
   exact qaL (qfU h2 (show (bb b p.1 row).natAbs<=1 by lia)) (by lia)
  have h3:=qjX (p.2*bb b p.1 row) (aX b ps row)
  rw[e,qam,qhB];lia
theorem uV:∀ (qs:List Pt) (r:Nat) (q:Pt),vsL r (qs++[q])=vsL r qs++[q.2.getD (r / 2^tot qs%2^q.1) 0]
 |[],r,q=>by
  show [q.2.getD (r%2^q.1) 0]=[q.2.getD (r / 2^0%2^q.1) 0]
  rw[qiO,qjq]
 |x::qs,r,q=>by
  rw[qbS,vsL,vsL,uV qs,dm,qbS,qd8,<-qhA]
theorem G8 (s:Sto) {q:Pt} (h:cI q.1 q.2) (r:Nat):dIx s (.d (PtD q)) (.d (.int ((r%2^q.1:Nat):Int)))=some (.int (q.2.getD (r%2^q.1) 0)):=by
 have hl:r%2^q.1<q.2.length:=by rw[h.len];exact qgO _ (qef (by decide))
 show atI (q.2.map D.int) _=_
 refine jS ?_
 rw[qaZ,qa1,qaE hl];rfl
theorem vX (s:Sto) {a b:Int} (h:vE a b):jR s (.d (.int a)) (.d (.int b))=some (.int (a*2^b.toNat)):=if_pos h
theorem GX {st:Sto}{a0 a1 a2 a3 a4:Option W}{q:Pt}{l k:Nat}{at0:Int} (h:cI q.1 q.2) (hn:q.1<=6) (hk:k<=1000) :
  cS [a0,a1,a2,a3,a4,some (.d (.int (l:Int))),some (.d (.int at0)),some (.d (.int (k:Int))),some (.d (PtD q))] st=some (.nx [a0,a1,a2,a3,a4,some (.d (.int ((l / 2^q.1:Nat):Int))),some (.d (.int (at0+q.2.getD (l%2^q.1) 0*2^k))),some (.d (.int (k:Int))),some (.d (PtD q))] st):=by
 have e1:=Bg st h
 have e2:=G8 st h l
 have hv:=xr h l
 have hp:(0:Int)<2^q.1/\(2:Int)^q.1<1073741824:=by
  have h2:(2:Nat)^q.1<=64:=qaL (qbA (by decide) hn) (by decide)
  have h3:((2^q.1:Nat):Int)=(2:Int)^q.1:=by push_cast;rfl
  have h4:0<(2:Nat)^q.1:=qef (by decide)
  lia
 have m1:kc st (.d (.int (l:Int))) (.d (.int (2^q.1)))=some (.int ((l%2^q.1:Nat):Int)):=by rw[rO _ hp.1];push_cast;rfl
 have m2:kr st (.d (.int (l:Int))) (.d (.int (2^q.1)))=some (.int ((l / 2^q.1:Nat):Int)):=by rw[AB _ hp];push_cast;rfl
 have m3:jR st (.d (.int (q.2.getD (l%2^q.1) 0))) (.d (.int (k:Int)))=some (.int (q.2.getD (l%2^q.1) 0*2^k)):=by
  rw[vX _ ⟨by lia,by lia,by rcases hv with e|e<;>rw[e]<;>decide⟩,qaK]
 generalize q.2.getD (l%2^q.1) 0=v at *
 generalize ((l%2^q.1:Nat):Int)=lm at *
 generalize ((l / 2^q.1:Nat):Int)=ld at *
 generalize (2:Int)^q.1=ln at *
 generalize PtD q=tq at *
 exact ap (aR (i:=6) (au rfl (au (au rfl (au rfl (bo (ag rfl rfl) e1) m1) e2) rfl m3) rfl)) (aR (i:=5) (au rfl (bo (ag rfl rfl) e1) m2))
theorem GR {st:Sto}{a0 a1 a2 a3 a4 x7 x8:Option W}{qs:List Pt}{r:Nat} (h:oF qs) (hl:qs.length<=6) :
  ∃ y5 y7 y8,lG (.tp [7,8]) cS (cZ 0 (qs.map PtD)) [a0,a1,a2,a3,a4,some (.d (.int (r:Int))),some (.d (.int 0)),x7,x8] st=some (.nx [a0,a1,a2,a3,a4,y5,some (.d (.int (atV (vsL r qs)))),y7,y8] st):=by
 obtain⟨e',s',hF,y7,y8,rfl,rfl⟩:=bN (g:=.tp [7,8]) (body:=cS) (ds:=cZ 0 (qs.map PtD))
  (λi env s=>∃ y7 y8,env=[a0,a1,a2,a3,a4,some (.d (.int ((r / 2^tot (qs.take i):Nat):Int))),some (.d (.int (atV (vsL r (qs.take i))))),y7,y8]/\s=st)
  (env:=[a0,a1,a2,a3,a4,some (.d (.int (r:Int))),some (.d (.int 0)),x7,x8]) (st:=st) ⟨x7,x8,by rw [qdE,show tot []=0 from rfl,qiO,qjq];rfl,rfl⟩ (by
  rintro i d env s hd ⟨y7,y8,rfl,rfl⟩
  rw[j5,qaZ,Option.map_map,qad]at hd
  obtain⟨q,hq,rfl⟩:=hd
  have hqm:=qbl hq
  have hi:=(qax.mp hq).1
  have htk:qs.take (i+1)=qs.take i++[q]:=by rw[qbJ,hq];rfl
  have st1:=GX (st:=s) (a0:=a0) (a1:=a1) (a2:=a2) (a3:=a3) (a4:=a4) (q:=q) (l:=r / 2^tot (qs.take i)) (k:=i) (at0:=atV (vsL r (qs.take i))) (h.1 q hqm) (qaL (kZ hqm) h.2) (by lia)
  have e1:r / 2^tot (qs.take i) / 2^q.1=r / 2^tot (qs.take (i+1)):=by
   have:tot [q]=q.1:=by rw[dm];exact qgX _
   rw[htk,xJ,this,qd8,<-qhA]
  have e2:atV (vsL r (qs.take (i+1)))=atV (vsL r (qs.take i))+q.2.getD (r / 2^tot (qs.take i)%2^q.1) 0*2^i:=by
   rw[htk,uV,uY,n5,qcr,Nat.min_eq_left (by lia)]
  rw[e1,<-e2]at st1
  refine⟨_,_,_,rfl,.inl ?_,some (.d (.int (i:Int))),some (.d (PtD q)),rfl,rfl⟩
  rw[qbt]
  exact st1)
 rw[iu,qag,qbv]at hF
 exact⟨_,y7,y8,hF⟩
theorem yO (qs:List Pt):((qs.map λq=>(q.1:Int))).sum=((tot qs:Nat):Int):=by
 induction qs with
 |nil=>rfl
 |cons q qs ih=>rw[qal,qaQ,ih,dm];push_cast;rfl
theorem AK {st:Sto}{qs:List Pt}{ps:List Prt} (h:oF qs) (hl:qs.length<=6) (hp:Dr qs.length ps):gf [.d (am "odd" ps),.d (.tup (qs.map PtD))] st=some (.d (.bl true),st):=by
 have lp:=hp.t.len hl
 have kW:lcI (.nm 0) cr cT [none] (qs.map PtD) st=some ((qs.map λq=>(q.1:Int)).map D.int,st):=by
  have:∀ (l:List Pt),(∀ q∈l,cI q.1 q.2/\q.1<=6)->lcI (.nm 0) cr cT [none] (l.map PtD) st=some ((l.map λq=>(q.1:Int)).map D.int,st):=λl=>by
   induction l with
   |nil=>exact λ_=>rfl
   |cons q l ih=>
    intro hq
    have h1:=hq q qak
    have ih':=ih λx hx=>hq x (qah _ hx)
    have e:=FU (st:=st) h1.1 h1.2
    have he:cT [some (.d (PtD q))] st=some (.d (.int (q.1:Int)),st):=aq rfl e
    rw[qal]
    unfold lcI
    rw[show fM (.nm 0) (.d (PtD q)) [none]=some [some (.d (PtD q))] from rfl,qaf,show cr [some (.d (PtD q))] st=some (true,st) from rfl,qaf,if_pos rfl,he,qaf]
    simp only[ih',qaC,qal]
    rfl
  exact this qs λq hq=>⟨h.1 q hq,qaL (kZ hq) h.2⟩
 have hsum:=Aw st (qs.map λq=>(q.1:Int))
 rw[yO]at hsum
 have hin:eE (tot qs) (puL qs (bE 0 qs) ps):=(tL (qs:=qs) (xl h) ps [] (wp _)).1
 have e2:=A5 (st:=st) h hl (λp hpm=>(hp.t.1 p hpm).1) lp
 have e3:cY [.d (am "odd" (puL qs (bE 0 qs) ps)),.d (.str "odd"),.d (.int ((tot qs:Nat):Int))] st=some (.d (.bl true),st):=zn (st:=st) (b:=false) h.2 hin
 obtain⟨q,hq1,q1,_,q2⟩:=As (n:=((tot qs:Nat):Int)) (by lia) (by have:=h.2;lia)
 rw[qaK]at q1 q2
 have q0:0<=q:=by have:0<2^tot qs:=qef (by decide);lia
 have hs1:∀ s,jR s (.d (.int 1)) (.d (.int ((tot qs:Nat):Int)))=some (.int q):=λs=>by
  have hz:=hq1 s
  have hc:vE 1 ((tot qs:Nat):Int):=⟨by lia,by have:=h.2;lia,by decide⟩
  rw[vX _ hc]
  have hc2:xc s (.d (.int 1)) (.d (.int ((tot qs:Nat):Int)))=some (.int (1*2^((tot qs:Nat):Int).toNat)):=if_pos ⟨by lia,by have:=h.2;lia,by decide⟩
  rw[hc2]at hz;exact hz
 have p6:∀ p∈ps,Dd p:=λp hpm=>(hp.t.1 p hpm).1.mono hl
 have r6:∀ p∈puL qs (bE 0 qs) ps,Dd p:=λp hpm=>(hin.1 p hpm).1.mono h.2
 have lr:(puL qs (bE 0 qs) ps).length<=64:=hin.len h.2
 obtain⟨e',s',hF,o4,o5,o6,o7,o8,rfl,rfl⟩:=bN (g:=.nm 4) (body:=ju) (ds:=gk 0 (2^tot qs))
  (λi env s=>∃ o4 o5 o6 o7 o8,env=[some (.d (am "odd" ps)),some (.d (.tup (qs.map PtD))),some (.d (.int ((tot qs:Nat):Int))),some (.d (am "odd" (puL qs (bE 0 qs) ps))),o4,o5,o6,o7,o8]/\s=st)
  (env:=[some (.d (am "odd" ps)),some (.d (.tup (qs.map PtD))),some (.d (.int ((tot qs:Nat):Int))),some (.d (am "odd" (puL qs (bE 0 qs) ps))),none,none,none,none,none]) (st:=st) ⟨none,none,none,none,none,rfl,rfl⟩ (by
  rintro i d env s hd ⟨o4,o5,o6,o7,o8,rfl,rfl⟩
  obtain⟨rfl,hi⟩:=gY hd
  have hnn:=AJ (vsL i qs) (wo qs i h.1)
  obtain⟨y5,y7,y8,hL⟩:=GR (st:=s) (a0:=some (.d (am "odd" ps))) (a1:=some (.d (.tup (qs.map PtD)))) (a2:=some (.d (.int ((tot qs:Nat):Int)))) (a3:=some (.d (am "odd" (puL qs (bE 0 qs) ps)))) (a4:=some (.d (.int (i:Int)))) (x7:=o7) (x8:=o8) (r:=i) h hl
  have v1:cm [.d (am "odd" (puL qs (bE 0 qs) ps)),.d (.int (i:Int))] s=some (.d (.int (aX false (puL qs (bE 0 qs) ps) (i:Int))),s):=nc (st:=s) (b:=false) (row:=(i:Int)) (by lia) r6 (by lia)
  have v2:cm [.d (am "odd" ps),.d (.int (atV (vsL i qs)))] s=some (.d (.int (aX false ps (atV (vsL i qs)))),s):=nc (st:=s) (b:=false) hnn p6 (by lia)
  have hv:=FV h (λp hpm=>(hp.t.1 p hpm).1) i
  have a2:(aX false ps (atV (vsL i qs))).natAbs<2^200:=qeH (qaL (vh hp.abs) (qfK _ lp)) (by decide)
  have m1:jR s (.d (.int (aX false ps (atV (vsL i qs))))) (.d (.int ((tot qs:Nat):Int)))=some (.int (aX false (puL qs (bE 0 qs) ps) (i:Int))):=by
   rw[vX _ ⟨by lia,by have:=h.2;lia,a2⟩,qaK,hv,qeL]
  generalize aX false (puL qs (bE 0 qs) ps) (i:Int)=V1 at v1 m1
  generalize aX false ps (atV (vsL i qs))=V2 at v2 m1
  generalize am "odd" (puL qs (bE 0 qs) ps)=R at *
  generalize am "odd" ps=P0 at *
  generalize qs.map PtD=QQ at *
  generalize atV (vsL i qs)=AT at *
  generalize ((tot qs:Nat):Int)=TT at *
  have s1:t7 5 6 (ab (iV 4) (ab (iC (.int 0)) ak)) [some (.d P0),some (.d (.tup QQ)),some (.d (.int TT)),some (.d R),some (.d (.int (i:Int))),o5,o6,o7,o8] s=some (.nx [some (.d P0),some (.d (.tup QQ)),some (.d (.int TT)),some (.d R),some (.d (.int (i:Int))),some (.d (.int (i:Int))),some (.d (.int 0)),o7,o8] s):=Ho rfl
  have s2:gB (kU (ab (iV 1) ak)) (.tp [7,8]) cS [some (.d P0),some (.d (.tup QQ)),some (.d (.int TT)),some (.d R),some (.d (.int (i:Int))),some (.d (.int (i:Int))),some (.d (.int 0)),o7,o8] s=some (.nx [some (.d P0),some (.d (.tup QQ)),some (.d (.int TT)),some (.d R),some (.d (.int (i:Int))),y5,some (.d (.int AT)),y7,y8] s):=dg (ds:=cZ 0 QQ) (s:=s) rfl hL
  have s3:bO dNe (ax cm (ab (iV 3) (ab (iV 4) ak))) (iOp jR (ax cm (ab (iV 0) (ab (iV 6) ak))) (iV 2)) [some (.d P0),some (.d (.tup QQ)),some (.d (.int TT)),some (.d R),some (.d (.int (i:Int))),y5,some (.d (.int AT)),y7,y8] s=some (false,s):=
   aQ (aq (ws:=[.d R,.d (.int (i:Int))]) rfl v1) (au (aq (ws:=[.d P0,.d (.int AT)]) rfl v2) rfl m1) (by rw[wx,beq_self_eq_true];rfl)
  exact⟨_,_,_,rfl,.inl (ap s1 (ap s2 (fF s3 rfl))),_,_,_,_,_,rfl,rfl⟩)
 have hz:(qs.map PtD).length<=1000000:=by rw[qag];lia
 generalize (qs.map λq=>(q.1:Int)).map D.int=WW at kW hsum
 generalize am "odd" (puL qs (bE 0 qs) ps)=R at *
 generalize am "odd" ps=P0 at *
 generalize qs.map PtD=QQ at *
 generalize ((tot qs:Nat):Int)=TT at *
 have b1:bf (.nm 2) (iCB oD (ab (aM (iLc 1 [] (aH (iV 1)) (.nm 0) cr cT)) ak)) [some (.d P0),some (.d (.tup QQ)),none,none,none,none,none,none,none] s'=some (.nx [some (.d P0),some (.d (.tup QQ)),some (.d (.int TT)),none,none,none,none,none,none] s'):=aR (bo (ag (aE (bW (dP rfl) hz kW)) rfl) hsum)
 have b2:bf (.nm 3) (ax iR (ab (iV 0) (ab (iV 1) ak))) [some (.d P0),some (.d (.tup QQ)),some (.d (.int TT)),none,none,none,none,none,none] s'=some (.nx [some (.d P0),some (.d (.tup QQ)),some (.d (.int TT)),some (.d R),none,none,none,none,none] s'):=aR (aq (ws:=[.d P0,.d (.tup QQ)]) rfl e2)
 have b3:i4 (mB mW (ax cY (ab (iV 3) (ab (iC (.str "odd")) (ab (iV 2) ak))))) [some (.d P0),some (.d (.tup QQ)),some (.d (.int TT)),some (.d R),none,none,none,none,none] s'=some (false,s'):=rc (wC (aq (ws:=[.d R,.d (.str "odd"),.d (.int TT)]) rfl e3))
 have b4:dG (ab (iOp jR (iC (.int 1)) (iV 2)) ak) [some (.d P0),some (.d (.tup QQ)),some (.d (.int TT)),some (.d R),none,none,none,none,none] s'=some (gk 0 (2^tot qs),s'):=ip (au rfl rfl (hs1 _)) q0 (by lia) q1
 exact aD (n:=9) (k:=2) (b:=fO) rfl (ap b1 (ap b2 (ap (fF b3 rfl) (ap (dg b4 hF) (aF rfl)))))
theorem Ag {n:Nat}:∀ {l:List Nat},n∈l->n<=l.sum
 |x::l,h=>by
  rw[qaQ]
  rcases qay.mp h with rfl|h
  ·lia
  ·have:=Ag h;lia
theorem Bj (ns:List Int) (hl:ns.length<=63):∃ st,vw [.d (.scr ns)] []=some (.d (.bl true),st):=by
 obtain⟨p,hp,e1⟩:=zN ns hl
 obtain⟨e',s',hF,p',x2,x3,x4,rfl,rfl,hp'⟩:=bN (g:=.nm 2) (body:=xP) (ds:=gk 0 2)
  (λi env s=>∃ p x2 x3 x4,env=[some (.d (.scr ns)),some (.h 1),x2,x3,x4]/\s=spo p []/\okP p (10000*(i:Int)))
  (env:=[some (.d (.scr ns)),some (.h 1),none,none,none]) (st:=spo p []) ⟨p,_,_,_,rfl,rfl,by simpa using hp⟩ (by
  rintro i d env s hd ⟨p,x2,x3,x4,rfl,rfl,hp⟩
  obtain⟨rfl,hi⟩:=gY hd
  obtain⟨sh,p1,hs6,hl6,h1,f1⟩:=BC [] hp (by lia)
  obtain⟨ps,p2,dp,h2,f2⟩:=Cr (kd:="odd") [] h1 (by lia) hl6
  obtain⟨ys,s',hL,p3,qs,rfl,rfl,h3,hv,hm⟩:=mn (g:=.nm 0) (tt:=cr) (te:=mh) (env:=[none,some (.h 1)]) (ds:=qu sh)
   (λj ys s=>∃ (p:Spo) (qs:List Pt),ys=qs.map PtD/\s=spo p []/\okP p (10000*(i:Int)+202+130*j)/\(∀ q ∈ qs,cI q.1 q.2)/\qs.map qa3=sh.take j) (st:=spo p2 []) (ys0:=[]) ⟨p2,[],rfl,rfl,h2.mono (by lia),(λx hx=>nomatch hx),rfl⟩ (by
   rintro j d ys s hd ⟨p,qs,rfl,rfl,hp,hv,hm⟩
   unfold qu at hd
   rw[qaZ,qad]at hd
   obtain⟨n,hn,rfl⟩:=hd
   have hj:=(qax.mp hn).1
   have hn6:n<=6:=by
    have:n<=sh.sum:=Ag (qbl hn)
    lia
   obtain⟨f,p',ho,hp',ef⟩:=CL [] hp (by lia) hn6
   have he:mh [some (.d (.int (n:Int))),some (.h 1)] (spo p [])=some (.d (ai f),spo p' []):=aq (ws:=[.h 1,.d (.int (n:Int))]) rfl ef
   refine⟨_,rfl,.inl ⟨_,_,_,rfl,he,p',qs++[(n,f)],by rw[qa5];rfl,rfl,hp'.mono (by push_cast;lia),λz hz=>?_,?_⟩⟩
   ·rcases qbo.mp hz with hz|hz
    ·exact hv z hz
    ·rw[qaI.mp hz];exact ho
   ·rw[qa5,hm,qbJ,hn];rfl)
  have hcl:(qu sh).length=sh.length:=by unfold qu;rw[qag]
  rw[hcl]at h3 hm
  rw[qbv]at hm
  have hqt:tot qs=sh.sum:=by unfold tot;rw[hm]
  have hql:qs.length=sh.length:=by rw[<-hm,qag]
  have f3:=AK (st:=spo p3 []) (qs:=qs) (ps:=ps) ⟨hv,by lia⟩ (by lia) (hql ▸ dp)
  have hlen:eA (spo p1 []) [.d (.lst (qu sh))]=some (.int (sh.length:Int)):=by
   show some (D.int ((qu sh).length:Nat))=_
   rw[hcl]
  have hz:(qu sh).length<=1000000:=by lia
  generalize am "odd" ps=P0 at *
  generalize qs.map PtD=QQ at *
  generalize qu sh=SS at *
  have s1:bf (.nm 3) (ax fG (ab (iV 1) ak)) [some (.d (.scr ns)),some (.h 1),some (.d (.int (i:Int))),x3,x4] (spo p [])=some (.nx [some (.d (.scr ns)),some (.h 1),some (.d (.int (i:Int))),some (.d (.lst SS)),x4] (spo p1 [])):=aR (aq (ws:=[.h 1]) rfl f1)
  have s2:bf (.nm 4) (ax gS (ab (iV 1) (ab (iC (.str "odd")) (ab (iCB eA (ab (iV 3) ak)) ak)))) [some (.d (.scr ns)),some (.h 1),some (.d (.int (i:Int))),some (.d (.lst SS)),x4] (spo p1 [])=some (.nx [some (.d (.scr ns)),some (.h 1),some (.d (.int (i:Int))),some (.d (.lst SS)),some (.d P0)] (spo p2 [])):=aR (aq (ws:=[.h 1,.d (.str "odd"),.d (.int (sh.length:Int))]) (ag rfl (ag rfl (ag (bo (ws:=[.d (.lst SS)]) rfl hlen) rfl))) f2)
  have s3:iCB i8 (ab (aM (iLc 1 [1] (aH (iV 3)) (.nm 0) cr mh)) ak) [some (.d (.scr ns)),some (.h 1),some (.d (.int (i:Int))),some (.d (.lst SS)),some (.d P0)] (spo p2 [])=some (.d (.tup QQ),spo p3 []):=bo (ws:=[.d (.lst QQ)]) (ag (aE (bW (k:=1) (js:=[1]) (gh rfl) hz hL)) rfl) rfl
  have s4:i4 (mB mW (ax gf (ab (iV 4) (ab (iCB i8 (ab (aM (iLc 1 [1] (aH (iV 3)) (.nm 0) cr mh)) ak)) ak)))) [some (.d (.scr ns)),some (.h 1),some (.d (.int (i:Int))),some (.d (.lst SS)),some (.d P0)] (spo p2 [])=some (false,spo p3 []):=rc (wC (aq (ws:=[.d P0,.d (.tup QQ)]) (ag rfl (ag s3 rfl)) f3))
  exact⟨_,_,_,rfl,.inl (ap s1 (ap s2 (fF s4 rfl))),p3,_,_,_,rfl,rfl,h3.mono (by push_cast;lia)⟩)
 exact⟨_,ix (n:=5) (k:=1) (b:=xD) rfl (ap (aR (aq rfl e1)) (ap (dg (ip (m:=2) rfl (by decide) (by decide) rfl) hF) (aF rfl)))⟩
end Own
end
namespace Own
open PySem L2
theorem oB {us:List Value} (h:us.length=1):∃ a0,us=[a0]:=List.length_eq_one_iff.mp h
theorem C7 {us:List Value}{n:Nat} (h:us.length=n+1):∃ a t,us=a::t/\t.length=n:=by
 cases us with
 |nil=>cases h
 |cons a t=>exact⟨a,t,rfl,Nat.succ.inj h⟩
theorem jw {us:List Value} (h:us.length=2):∃ a0 a1,us=[a0,a1]:=by
 obtain⟨a,t,rfl,k⟩:=C7 h
 obtain⟨b,rfl⟩:=oB k
 exact⟨a,b,rfl⟩
theorem wA {us:List Value} (h:us.length=3):∃ a0 a1 a2,us=[a0,a1,a2]:=by
 obtain⟨a,t,rfl,k⟩:=C7 h
 obtain⟨b,c,rfl⟩:=jw k
 exact⟨a,b,c,rfl⟩
theorem E2 {us:List Value} (h:us.length=4):∃ a0 a1 a2 a3,us=[a0,a1,a2,a3]:=by
 obtain⟨a,t,rfl,k⟩:=C7 h
 obtain⟨b,c,d,rfl⟩:=wA k
 exact⟨a,b,c,d,rfl⟩
theorem Il {us:List Value} (h:us.length=5):∃ a0 a1 a2 a3 a4,us=[a0,a1,a2,a3,a4]:=by
 obtain⟨a,t,rfl,k⟩:=C7 h
 obtain⟨b,c,d,e,rfl⟩:=E2 k
 exact⟨a,b,c,d,e,rfl⟩
theorem txt_mk {K:qai}{h:Heap}{mg:Str->Option Value} (X:K.In h) (G:h.Ns qaB mg)
  {f0:Addr}{od0 an0:Option Addr}{sl0:Array (Option Value)}{oc0 kV0 dc0 pm0 cd0 ct0:Value}
  (a0:qaG K qaB "power_of_two" = some (some (.ref f0))) (l0:K.lookup f0=some ⟨oc0,od0,.func (qaU "power_of_two" "power_of_two" (aI bX) (aB bX) (ae bX) .none kV0 dc0 pm0 an0 cd0 ct0),sl0⟩) (c0:qaM K cd0 "power_of_two" = true) (k0:qaF K (.ref f0)=true)
  {f1:Addr}{od1 an1:Option Addr}{sl1:Array (Option Value)}{oc1 kV1 dc1 pm1 cd1 ct1:Value}
  (a1:qaG K qaB "on_in" = some (some (.ref f1))) (l1:K.lookup f1=some ⟨oc1,od1,.func (qaU "on_in" "on_in" (aI iL) (aB iL) (ae iL) .none kV1 dc1 pm1 an1 cd1 ct1),sl1⟩) (c1:qaM K cd1 "on_in" = true) (k1:qaF K (.ref f1)=true)
  {f2:Addr}{od2 an2:Option Addr}{sl2:Array (Option Value)}{oc2 kV2 dc2 pm2 cd2 ct2:Value}
  (a2:qaG K qaB "multiplied" = some (some (.ref f2))) (l2:K.lookup f2=some ⟨oc2,od2,.func (qaU "multiplied" "multiplied" (aI cD) (aB cD) (ae cD) .none kV2 dc2 pm2 an2 cd2 ct2),sl2⟩) (c2:qaM K cd2 "multiplied" = true) (k2:qaF K (.ref f2)=true)
  {f3:Addr}{od3 an3:Option Addr}{sl3:Array (Option Value)}{oc3 kV3 dc3 pm3 cd3 ct3:Value}
  (a3:qaG K qaB "switches_of" = some (some (.ref f3))) (l3:K.lookup f3=some ⟨oc3,od3,.func (qaU "switches_of" "switches_of" (aI cp) (aB cp) (ae cp) .none kV3 dc3 pm3 an3 cd3 ct3),sl3⟩) (c3:qaM K cd3 "switches_of" = true) (k3:qaF K (.ref f3)=true)
  {f4:Addr}{od4 an4:Option Addr}{sl4:Array (Option Value)}{oc4 kV4 dc4 pm4 cd4 ct4:Value}
  (a4:qaG K qaB "told_rows" = some (some (.ref f4))) (l4:K.lookup f4=some ⟨oc4,od4,.func (qaU "told_rows" "told_rows" (aI cA) (aB cA) (ae cA) .none kV4 dc4 pm4 an4 cd4 ct4),sl4⟩) (c4:qaM K cd4 "told_rows" = true) (k4:qaF K (.ref f4)=true)
  {f5:Addr}{od5 an5:Option Addr}{sl5:Array (Option Value)}{oc5 kV5 dc5 pm5 cd5 ct5:Value}
  (a5:qaG K qaB "sign_at" = some (some (.ref f5))) (l5:K.lookup f5=some ⟨oc5,od5,.func (qaU "sign_at" "sign_at" (aI eL) (aB eL) (ae eL) .none kV5 dc5 pm5 an5 cd5 ct5),sl5⟩) (c5:qaM K cd5 "sign_at" = true) (k5:qaF K (.ref f5)=true)
  {f6:Addr}{od6 an6:Option Addr}{sl6:Array (Option Value)}{oc6 kV6 dc6 pm6 cd6 ct6:Value}
  (a6:qaG K qaB "terms_to" = some (some (.ref f6))) (l6:K.lookup f6=some ⟨oc6,od6,.func (qaU "terms_to" "terms_to" (aI db) (aB db) (ae db) .none kV6 dc6 pm6 an6 cd6 ct6),sl6⟩) (c6:qaM K cd6 "terms_to" = true) (k6:qaF K (.ref f6)=true)
  {f7:Addr}{od7 an7:Option Addr}{sl7:Array (Option Value)}{oc7 kV7 dc7 pm7 cd7 ct7:Value}
  (a7:qaG K qaB "value_of" = some (some (.ref f7))) (l7:K.lookup f7=some ⟨oc7,od7,.func (qaU "value_of" "value_of" (aI cV) (aB cV) (ae cV) .none kV7 dc7 pm7 an7 cd7 ct7),sl7⟩) (c7:qaM K cd7 "value_of" = true) (k7:qaF K (.ref f7)=true)
  {f8:Addr}{od8 an8:Option Addr}{sl8:Array (Option Value)}{oc8 kV8 dc8 pm8 cd8 ct8:Value}
  (a8:qaG K qaB "poly_from" = some (some (.ref f8))) (l8:K.lookup f8=some ⟨oc8,od8,.func (qaU "poly_from" "poly_from" (aI cx) (aB cx) (ae cx) .none kV8 dc8 pm8 an8 cd8 ct8),sl8⟩) (c8:qaM K cd8 "poly_from" = true) (k8:qaF K (.ref f8)=true)
  {f9:Addr}{od9 an9:Option Addr}{sl9:Array (Option Value)}{oc9 kV9 dc9 pm9 cd9 ct9:Value}
  (a9:qaG K qaB "gathered" = some (some (.ref f9))) (l9:K.lookup f9=some ⟨oc9,od9,.func (qaU "gathered" "gathered" (aI dF) (aB dF) (ae dF) .none kV9 dc9 pm9 an9 cd9 ct9),sl9⟩) (c9:qaM K cd9 "gathered" = true) (k9:qaF K (.ref f9)=true)
  {f10:Addr}{od10 an10:Option Addr}{sl10:Array (Option Value)}{oc10 kV10 dc10 pm10 cd10 ct10:Value}
  (a10:qaG K qaB "added" = some (some (.ref f10))) (l10:K.lookup f10=some ⟨oc10,od10,.func (qaU "added" "added" (aI iZ) (aB iZ) (ae iZ) .none kV10 dc10 pm10 an10 cd10 ct10),sl10⟩) (c10:qaM K cd10 "added" = true) (k10:qaF K (.ref f10)=true)
  {f11:Addr}{od11 an11:Option Addr}{sl11:Array (Option Value)}{oc11 kV11 dc11 pm11 cd11 ct11:Value}
  (a11:qaG K qaB "joined" = some (some (.ref f11))) (l11:K.lookup f11=some ⟨oc11,od11,.func (qaU "joined" "joined" (aI gt) (aB gt) (ae gt) .none kV11 dc11 pm11 an11 cd11 ct11),sl11⟩) (c11:qaM K cd11 "joined" = true) (k11:qaF K (.ref f11)=true)
  {f12:Addr}{od12 an12:Option Addr}{sl12:Array (Option Value)}{oc12 kV12 dc12 pm12 cd12 ct12:Value}
  (a12:qaG K qaB "product_of" = some (some (.ref f12))) (l12:K.lookup f12=some ⟨oc12,od12,.func (qaU "product_of" "product_of" (aI cf) (aB cf) (ae cf) .none kV12 dc12 pm12 an12 cd12 ct12),sl12⟩) (c12:qaM K cd12 "product_of" = true) (k12:qaF K (.ref f12)=true)
  {f13:Addr}{od13 an13:Option Addr}{sl13:Array (Option Value)}{oc13 kV13 dc13 pm13 cd13 ct13:Value}
  (a13:qaG K qaB "often" = some (some (.ref f13))) (l13:K.lookup f13=some ⟨oc13,od13,.func (qaU "often" "often" (aI gZ) (aB gZ) (ae gZ) .none kV13 dc13 pm13 an13 cd13 ct13),sl13⟩) (c13:qaM K cd13 "often" = true) (k13:qaF K (.ref f13)=true)
  {f14:Addr}{od14 an14:Option Addr}{sl14:Array (Option Value)}{oc14 kV14 dc14 pm14 cd14 ct14:Value}
  (a14:qaG K qaB "moved" = some (some (.ref f14))) (l14:K.lookup f14=some ⟨oc14,od14,.func (qaU "moved" "moved" (aI gc) (aB gc) (ae gc) .none kV14 dc14 pm14 an14 cd14 ct14),sl14⟩) (c14:qaM K cd14 "moved" = true) (k14:qaF K (.ref f14)=true)
  {f15:Addr}{od15 an15:Option Addr}{sl15:Array (Option Value)}{oc15 kV15 dc15 pm15 cd15 ct15:Value}
  (a15:qaG K qaB "signed_value" = some (some (.ref f15))) (l15:K.lookup f15=some ⟨oc15,od15,.func (qaU "signed_value" "signed_value" (aI bY) (aB bY) (ae bY) .none kV15 dc15 pm15 an15 cd15 ct15),sl15⟩) (c15:qaM K cd15 "signed_value" = true) (k15:qaF K (.ref f15)=true)
  {f16:Addr}{od16 an16:Option Addr}{sl16:Array (Option Value)}{oc16 kV16 dc16 pm16 cd16 ct16:Value}
  (a16:qaG K qaB "sum_by" = some (some (.ref f16))) (l16:K.lookup f16=some ⟨oc16,od16,.func (qaU "sum_by" "sum_by" (aI eY) (aB eY) (ae eY) .none kV16 dc16 pm16 an16 cd16 ct16),sl16⟩) (c16:qaM K cd16 "sum_by" = true) (k16:qaF K (.ref f16)=true)
  {f17:Addr}{od17 an17:Option Addr}{sl17:Array (Option Value)}{oc17 kV17 dc17 pm17 cd17 ct17:Value}
  (a17:qaG K qaB "exact_by_odd" = some (some (.ref f17))) (l17:K.lookup f17=some ⟨oc17,od17,.func (qaU "exact_by_odd" "exact_by_odd" (aI bZ) (aB bZ) (ae bZ) .none kV17 dc17 pm17 an17 cd17 ct17),sl17⟩) (c17:qaM K cd17 "exact_by_odd" = true) (k17:qaF K (.ref f17)=true)
  {f18:Addr}{od18 an18:Option Addr}{sl18:Array (Option Value)}{oc18 kV18 dc18 pm18 cd18 ct18:Value}
  (a18:qaG K qaB "exact_of" = some (some (.ref f18))) (l18:K.lookup f18=some ⟨oc18,od18,.func (qaU "exact_of" "exact_of" (aI dE) (aB dE) (ae dE) .none kV18 dc18 pm18 an18 cd18 ct18),sl18⟩) (c18:qaM K cd18 "exact_of" = true) (k18:qaF K (.ref f18)=true)
  {f19:Addr}{od19 an19:Option Addr}{sl19:Array (Option Value)}{oc19 kV19 dc19 pm19 cd19 ct19:Value}
  (a19:qaG K qaB "exacts_of" = some (some (.ref f19))) (l19:K.lookup f19=some ⟨oc19,od19,.func (qaU "exacts_of" "exacts_of" (aI cP) (aB cP) (ae cP) .none kV19 dc19 pm19 an19 cd19 ct19),sl19⟩) (c19:qaM K cd19 "exacts_of" = true) (k19:qaF K (.ref f19)=true)
  {f20:Addr}{od20 an20:Option Addr}{sl20:Array (Option Value)}{oc20 kV20 dc20 pm20 cd20 ct20:Value}
  (a20:qaG K qaB "put_term" = some (some (.ref f20))) (l20:K.lookup f20=some ⟨oc20,od20,.func (qaU "put_term" "put_term" (aI cU) (aB cU) (ae cU) .none kV20 dc20 pm20 an20 cd20 ct20),sl20⟩) (c20:qaM K cd20 "put_term" = true) (k20:qaF K (.ref f20)=true)
  {f21:Addr}{od21 an21:Option Addr}{sl21:Array (Option Value)}{oc21 kV21 dc21 pm21 cd21 ct21:Value}
  (a21:qaG K qaB "put_poly" = some (some (.ref f21))) (l21:K.lookup f21=some ⟨oc21,od21,.func (qaU "put_poly" "put_poly" (aI dI) (aB dI) (ae dI) .none kV21 dc21 pm21 an21 cd21 ct21),sl21⟩) (c21:qaM K cd21 "put_poly" = true) (k21:qaF K (.ref f21)=true)
  {f22:Addr}{od22 an22:Option Addr}{sl22:Array (Option Value)}{oc22 kV22 dc22 pm22 cd22 ct22:Value}
  (a22:qaG K qaB "_law_spool" = some (some (.ref f22))) (l22:K.lookup f22=some ⟨oc22,od22,.func (qaU "_law_spool" "_law_spool" (aI ce) (aB ce) (ae ce) .none kV22 dc22 pm22 an22 cd22 ct22),sl22⟩) (c22:qaM K cd22 "_law_spool" = true) (k22:qaF K (.ref f22)=true)
  {f23:Addr}{od23 an23:Option Addr}{sl23:Array (Option Value)}{oc23 kV23 dc23 pm23 cd23 ct23:Value}
  (a23:qaG K qaB "_law_take" = some (some (.ref f23))) (l23:K.lookup f23=some ⟨oc23,od23,.func (qaU "_law_take" "_law_take" (aI cO) (aB cO) (ae cO) .none kV23 dc23 pm23 an23 cd23 ct23),sl23⟩) (c23:qaM K cd23 "_law_take" = true) (k23:qaF K (.ref f23)=true)
  {f24:Addr}{od24 an24:Option Addr}{sl24:Array (Option Value)}{oc24 kV24 dc24 pm24 cd24 ct24:Value}
  (a24:qaG K qaB "_law_term" = some (some (.ref f24))) (l24:K.lookup f24=some ⟨oc24,od24,.func (qaU "_law_term" "_law_term" (aI cC) (aB cC) (ae cC) .none kV24 dc24 pm24 an24 cd24 ct24),sl24⟩) (c24:qaM K cd24 "_law_term" = true) (k24:qaF K (.ref f24)=true)
  {f25:Addr}{od25 an25:Option Addr}{sl25:Array (Option Value)}{oc25 kV25 dc25 pm25 cd25 ct25:Value}
  (a25:qaG K qaB "_law_value" = some (some (.ref f25))) (l25:K.lookup f25=some ⟨oc25,od25,.func (qaU "_law_value" "_law_value" (aI ck) (aB ck) (ae ck) .none kV25 dc25 pm25 an25 cd25 ct25),sl25⟩) (c25:qaM K cd25 "_law_value" = true) (k25:qaF K (.ref f25)=true)
  {f26:Addr}{od26 an26:Option Addr}{sl26:Array (Option Value)}{oc26 kV26 dc26 pm26 cd26 ct26:Value}
  (a26:qaG K qaB "_law_terms" = some (some (.ref f26))) (l26:K.lookup f26=some ⟨oc26,od26,.func (qaU "_law_terms" "_law_terms" (aI bJ) (aB bJ) (ae bJ) .none kV26 dc26 pm26 an26 cd26 ct26),sl26⟩) (c26:qaM K cd26 "_law_terms" = true) (k26:qaF K (.ref f26)=true)
  {f27:Addr}{od27 an27:Option Addr}{sl27:Array (Option Value)}{oc27 kV27 dc27 pm27 cd27 ct27:Value}
  (a27:qaG K qaB "_law_is_poly" = some (some (.ref f27))) (l27:K.lookup f27=some ⟨oc27,od27,.func (qaU "_law_is_poly" "_law_is_poly" (aI bD) (aB bD) (ae bD) .none kV27 dc27 pm27 an27 cd27 ct27),sl27⟩) (c27:qaM K cd27 "_law_is_poly" = true) (k27:qaF K (.ref f27)=true)
  {f28:Addr}{od28 an28:Option Addr}{sl28:Array (Option Value)}{oc28 kV28 dc28 pm28 cd28 ct28:Value}
  (a28:qaG K qaB "_law_poly" = some (some (.ref f28))) (l28:K.lookup f28=some ⟨oc28,od28,.func (qaU "_law_poly" "_law_poly" (aI cR) (aB cR) (ae cR) .none kV28 dc28 pm28 an28 cd28 ct28),sl28⟩) (c28:qaM K cd28 "_law_poly" = true) (k28:qaF K (.ref f28)=true)
  {f29:Addr}{od29 an29:Option Addr}{sl29:Array (Option Value)}{oc29 kV29 dc29 pm29 cd29 ct29:Value}
  (a29:qaG K qaB "_law_switches" = some (some (.ref f29))) (l29:K.lookup f29=some ⟨oc29,od29,.func (qaU "_law_switches" "_law_switches" (aI bF) (aB bF) (ae bF) .none kV29 dc29 pm29 an29 cd29 ct29),sl29⟩) (c29:qaM K cd29 "_law_switches" = true) (k29:qaF K (.ref f29)=true)
  {f30:Addr}{od30 an30:Option Addr}{sl30:Array (Option Value)}{oc30 kV30 dc30 pm30 cd30 ct30:Value}
  (a30:qaG K qaB "_law_full" = some (some (.ref f30))) (l30:K.lookup f30=some ⟨oc30,od30,.func (qaU "_law_full" "_law_full" (aI cz) (aB cz) (ae cz) .none kV30 dc30 pm30 an30 cd30 ct30),sl30⟩) (c30:qaM K cd30 "_law_full" = true) (k30:qaF K (.ref f30)=true)
  {f31:Addr}{od31 an31:Option Addr}{sl31:Array (Option Value)}{oc31 kV31 dc31 pm31 cd31 ct31:Value}
  (a31:qaG K qaB "_law_shape" = some (some (.ref f31))) (l31:K.lookup f31=some ⟨oc31,od31,.func (qaU "_law_shape" "_law_shape" (aI bQ) (aB bQ) (ae bQ) .none kV31 dc31 pm31 an31 cd31 ct31),sl31⟩) (c31:qaM K cd31 "_law_shape" = true) (k31:qaF K (.ref f31)=true)
  {f32:Addr}{od32 an32:Option Addr}{sl32:Array (Option Value)}{oc32 kV32 dc32 pm32 cd32 ct32:Value}
  (a32:qaG K qaB "_law_right" = some (some (.ref f32))) (l32:K.lookup f32=some ⟨oc32,od32,.func (qaU "_law_right" "_law_right" (aI cj) (aB cj) (ae cj) .none kV32 dc32 pm32 an32 cd32 ct32),sl32⟩) (c32:qaM K cd32 "_law_right" = true) (k32:qaF K (.ref f32)=true)
  {f33:Addr}{od33 an33:Option Addr}{sl33:Array (Option Value)}{oc33 kV33 dc33 pm33 cd33 ct33:Value}
  (a33:qaG K qaB "law" = some (some (.ref f33))) (l33:K.lookup f33=some ⟨oc33,od33,.func (qaU "law" "law" (aI nh) (aB nh) (ae nh) .none kV33 dc33 pm33 an33 cd33 ct33),sl33⟩) (c33:qaM K cd33 "law" = true) (k33:qaF K (.ref f33)=true)
  (z_abs:qaG K qaB "abs" = some none)
  (z_bool:qaG K qaB "bool" = some none)
  (z_enumerate:qaG K qaB "enumerate" = some none)
  (z_int:qaG K qaB "int" = some none)
  (z_isinstance:qaG K qaB "isinstance" = some none)
  (z_len:qaG K qaB "len" = some none)
  (z_range:qaG K qaB "range" = some none)
  (z_repr:qaG K qaB "repr" = some none)
  (z_set:qaG K qaB "set" = some none)
  (z_sorted:qaG K qaB "sorted" = some none)
  (z_sum:qaG K qaB "sum" = some none)
  (z_tuple:qaG K qaB "tuple" = some none)
  : ∃ t,Txt K mg t/\t.f33=f33:=by
 have F0:=bm (st:=bX) l0 c0 k0
 have F1:=bm (st:=iL) l1 c1 k1
 have F2:=bm (st:=cD) l2 c2 k2
 have F3:=bm (st:=cp) l3 c3 k3
 have F4:=bm (st:=cA) l4 c4 k4
 have F5:=bm (st:=eL) l5 c5 k5
 have F6:=bm (st:=db) l6 c6 k6
 have F7:=bm (st:=cV) l7 c7 k7
 have F8:=bm (st:=cx) l8 c8 k8
 have F9:=bm (st:=dF) l9 c9 k9
 have F10:=bm (st:=iZ) l10 c10 k10
 have F11:=bm (st:=gt) l11 c11 k11
 have F12:=bm (st:=cf) l12 c12 k12
 have F13:=bm (st:=gZ) l13 c13 k13
 have F14:=bm (st:=gc) l14 c14 k14
 have F15:=bm (st:=bY) l15 c15 k15
 have F16:=bm (st:=eY) l16 c16 k16
 have F17:=bm (st:=bZ) l17 c17 k17
 have F18:=bm (st:=dE) l18 c18 k18
 have F19:=bm (st:=cP) l19 c19 k19
 have F20:=bm (st:=cU) l20 c20 k20
 have F21:=bm (st:=dI) l21 c21 k21
 have F22:=bm (st:=ce) l22 c22 k22
 have F23:=bm (st:=cO) l23 c23 k23
 have F24:=bm (st:=cC) l24 c24 k24
 have F25:=bm (st:=ck) l25 c25 k25
 have F26:=bm (st:=bJ) l26 c26 k26
 have F27:=bm (st:=bD) l27 c27 k27
 have F28:=bm (st:=cR) l28 c28 k28
 have F29:=bm (st:=bF) l29 c29 k29
 have F30:=bm (st:=cz) l30 c30 k30
 have F31:=bm (st:=bQ) l31 c31 k31
 have F32:=bm (st:=cj) l32 c32 k32
 have F33:=bm (st:=nh) l33 c33 k33
 refine⟨⟨f0,_,f1,_,f2,_,f3,_,f4,_,f5,_,f6,_,f7,_,f8,_,f9,_,f10,_,f11,_,f12,_,f13,_,f14,_,f15,_,f16,_,f17,_,f18,_,f19,_,f20,_,f21,_,f22,_,f23,_,f24,_,f25,_,f26,_,f27,_,f28,_,f29,_,f30,_,f31,_,f32,_,f33,_⟩,⟨F0,qaX X G a0,F0.binds λ_ _ _ _ _ _ us hl=>(by obtain⟨_,rfl⟩:=oB hl;rfl),F1,qaX X G a1,F1.binds λ_ _ _ _ _ _ us hl=>(by obtain⟨_,_,rfl⟩:=jw hl;rfl),F2,qaX X G a2,F2.binds λ_ _ _ _ _ _ us hl=>(by obtain⟨_,rfl⟩:=oB hl;rfl),F3,qaX X G a3,F3.binds λ_ _ _ _ _ _ us hl=>(by obtain⟨_,rfl⟩:=oB hl;rfl),F4,qaX X G a4,F4.binds λ_ _ _ _ _ _ us hl=>(by obtain⟨_,rfl⟩:=oB hl;rfl),F5,qaX X G a5,F5.binds λ_ _ _ _ _ _ us hl=>(by obtain⟨_,_,rfl⟩:=jw hl;rfl),F6,qaX X G a6,F6.binds λ_ _ _ _ _ _ us hl=>(by obtain⟨_,_,rfl⟩:=jw hl;rfl),F7,qaX X G a7,F7.binds λ_ _ _ _ _ _ us hl=>(by obtain⟨_,_,_,rfl⟩:=wA hl;rfl),F8,qaX X G a8,F8.binds λ_ _ _ _ _ _ us hl=>(by obtain⟨_,_,rfl⟩:=jw hl;rfl),F9,qaX X G a9,F9.binds λ_ _ _ _ _ _ us hl=>(by obtain⟨_,_,rfl⟩:=jw hl;rfl),F10,qaX X G a10,F10.binds λ_ _ _ _ _ _ us hl=>(by obtain⟨_,_,rfl⟩:=jw hl;rfl),F11,qaX X G a11,F11.binds λ_ _ _ _ _ _ us hl=>(by obtain⟨_,_,_,rfl⟩:=wA hl;rfl),F12,qaX X G a12,F12.binds λ_ _ _ _ _ _ us hl=>(by obtain⟨_,_,rfl⟩:=jw hl;rfl),F13,qaX X G a13,F13.binds λ_ _ _ _ _ _ us hl=>(by obtain⟨_,_,rfl⟩:=jw hl;rfl),F14,qaX X G a14,F14.binds λ_ _ _ _ _ _ us hl=>(by obtain⟨_,_,rfl⟩:=jw hl;rfl),F15,qaX X G a15,F15.binds λ_ _ _ _ _ _ us hl=>(by obtain⟨_,_,_,_,rfl⟩:=E2 hl;rfl),F16,qaX X G a16,F16.binds λ_ _ _ _ _ _ us hl=>(by obtain⟨_,_,_,rfl⟩:=wA hl;rfl),F17,qaX X G a17,F17.binds λ_ _ _ _ _ _ us hl=>(by obtain⟨_,rfl⟩:=oB hl;rfl),F18,qaX X G a18,F18.binds λ_ _ _ _ _ _ us hl=>(by obtain⟨_,_,rfl⟩:=jw hl;rfl),F19,qaX X G a19,F19.binds λ_ _ _ _ _ _ us hl=>(by obtain⟨_,rfl⟩:=oB hl;rfl),F20,qaX X G a20,F20.binds λ_ _ _ _ _ _ us hl=>(by obtain⟨_,_,_,_,rfl⟩:=E2 hl;rfl),F21,qaX X G a21,F21.binds λ_ _ _ _ _ _ us hl=>(by obtain⟨_,_,rfl⟩:=jw hl;rfl),F22,qaX X G a22,F22.binds λ_ _ _ _ _ _ us hl=>(by obtain⟨_,rfl⟩:=oB hl;rfl),F23,qaX X G a23,F23.binds λ_ _ _ _ _ _ us hl=>(by obtain⟨_,_,rfl⟩:=jw hl;rfl),F24,qaX X G a24,F24.binds λ_ _ _ _ _ _ us hl=>(by obtain⟨_,_,_,rfl⟩:=wA hl;rfl),F25,qaX X G a25,F25.binds λ_ _ _ _ _ _ us hl=>(by obtain⟨_,_,rfl⟩:=jw hl;rfl),F26,qaX X G a26,F26.binds λ_ _ _ _ _ _ us hl=>(by obtain⟨_,_,rfl⟩:=jw hl;rfl),F27,qaX X G a27,F27.binds λ_ _ _ _ _ _ us hl=>(by obtain⟨_,_,_,rfl⟩:=wA hl;rfl),F28,qaX X G a28,F28.binds λ_ _ _ _ _ _ us hl=>(by obtain⟨_,_,_,rfl⟩:=wA hl;rfl),F29,qaX X G a29,F29.binds λ_ _ _ _ _ _ us hl=>(by obtain⟨_,rfl⟩:=oB hl;rfl),F30,qaX X G a30,F30.binds λ_ _ _ _ _ _ us hl=>(by obtain⟨_,_,rfl⟩:=jw hl;rfl),F31,qaX X G a31,F31.binds λ_ _ _ _ _ _ us hl=>(by obtain⟨_,rfl⟩:=oB hl;rfl),F32,qaX X G a32,F32.binds λ_ _ _ _ _ _ us hl=>(by obtain⟨_,_,rfl⟩:=jw hl;rfl),F33,qaX X G a33,F33.binds λ_ _ _ _ _ _ us hl=>(by obtain⟨_,rfl⟩:=oB hl;rfl),qbI X G z_abs,qbI X G z_bool,qbI X G z_enumerate,qbI X G z_int,qbI X G z_isinstance,qbI X G z_len,qbI X G z_range,qbI X G z_repr,qbI X G z_set,qbI X G z_sorted,qbI X G z_sum,qbI X G z_tuple⟩,rfl⟩
theorem txt_ex {K:qai}{mg:Str->Option Value}{f:Addr} (h:∃ t,Txt K mg t/\t.f33=f):∃ t,Txt K mg t:=let ⟨t,a,_⟩:=h;⟨t,a⟩
theorem walk {l:qgL}{q:qaY}{loose:List Str}{XP:(Str->Option Value)->Heap->Prop}{YP:World->Heap->Prop}{d:DefRec}{K:Params->qai} (hn:l.most=some 63) (hdf:d.params.defaults=[])
  (hY:∀ (w:World) (h:Heap),YP w h->(K w.params).In h)
  (F:∀ (w:World) (mg:Str->Option Value) (fa:Addr) (h:Heap),(K w.params).In h->h.Ns qaB mg->mg d.name=some (.ref fa)->
    ∃ fd:qbf,(∀ (s:qaj) (u:Value),qjx s fd ⟨[u],[]⟩ [("_law_script",u)])/\∀ base:Heap,(K w.params).In base->base.Ns qaB mg->bV l.prog w (K w.params) mg base CX0 11 fa fd ["_law_script"] (spI (K w.params) vw)) :
  qjS q loose XP YP l.row.toRowW d [] (λf vs=>qjn f vs):=
 L2.walk_of (n:=63) (k:=11) (x:="_law_script") (CX:=λ_=>CX0) (sp:=λw=>spI (K w.params) vw) hn (by decide) hdf ⟨rfl,by decide,by decide,rfl⟩ hY F (λ_ _ a ns hl hO hS=>Dl hO hS (Bj ns hl)) λ_ _ _ _ _ z=>z
theorem law_mk {l:qgL}{w:World}{K:qai}{h:Heap}{mg:Str->Option Value}{fa:Addr} (hfa:mg "law" = some (.ref fa)) (T0:∃ t,Txt K mg t) :
  ∃ fd:qbf,(∀ (s:qaj) (v:Value),qjx s fd ⟨[v],[]⟩ [("_law_script",v)])/\∀ base:Heap,K.In base->base.Ns qaB mg->bV l.prog w K mg base CX0 11 fa fd ["_law_script"] (spI K vw):=by
 obtain⟨t,T⟩:=T0
 have e:=hfa.symm.trans T.m33
 cases e
 refine⟨t.g33,λs v=>?_,λbase _ _=>FS T⟩
 obtain⟨oc,od,kV,doc,pm,an,cdv,ct,osl,e,_⟩:=T.F33.ex
 rw[e]
 exact .of_eq rfl
end Own
theorem PySem.W.Fast.tw10194112931641411038:True:=trivial
theorem PySem.W.Fast.tw1265868251988186276:True:=trivial
theorem PySem.W.Fast.tw4025685586284724019:True:=trivial
theorem PySem.W.Fast.tw2724227247193535455:True:=trivial
theorem PySem.W.Fast.tw1272988225489596822:True:=trivial
theorem PySem.W.Fast.tw13806260995170960477:True:=trivial
theorem PySem.W.Fast.tw829990113416804768:True:=trivial
theorem PySem.W.Fast.tw10229013600304914682:True:=trivial
theorem PySem.W.Fast.tw11568288890112065483:True:=trivial
theorem PySem.W.Fast.tw3659300300614723425:True:=trivial
theorem PySem.W.Fast.tw17132923375968199616:True:=trivial
theorem PySem.W.Fast.tw2996723174715541342:True:=trivial
theorem PySem.W.Fast.tw15587896689516166310:True:=trivial
theorem PySem.W.Fast.tw18168426700143476453:True:=trivial
theorem PySem.W.Fast.tw16459038188924702070:True:=trivial
theorem PySem.W.Fast.tw5126983798036515207:True:=trivial
theorem PySem.W.Fast.tw11427145047528539433:True:=trivial
theorem PySem.W.Fast.tw13189599831612562596:True:=trivial
theorem PySem.W.Fast.tw4526682691909551230:True:=trivial
theorem PySem.W.Fast.tw7072112593696433918:True:=trivial
theorem PySem.W.Fast.tw1688443307344155696:True:=trivial
theorem PySem.W.Fast.tw3077511480295521065:True:=trivial
theorem PySem.W.Fast.tw2684317516308364309:True:=trivial
theorem PySem.W.Fast.tw14794461241537687075:True:=trivial
theorem PySem.W.Fast.tw2070446057839333454:True:=trivial
theorem PySem.W.Fast.tw2782236650051029157:True:=trivial
theorem PySem.W.Fast.tw8213758270714550096:True:=trivial
open PySem PySem.W PyProof.Rows
set_option maxRecDepth 100000 in
set_option maxHeartbeats 0 in
theorem PySem.Challenge.cw_signpoly_k66_put_polynomials_holds : PySem.Challenge.rw_signpoly_k66_put_polynomials.Holds := by
 w_on;o_law;k_head;(case hw=>w_witness2)
 k_fill
 refine Own.walk (l:=PySem.Challenge.rw_signpoly_k66_put_polynomials) rfl rfl (λw h Y=>PySem.W.kIn_of Y) ?F
 case F=>
  intro w mg fa h KX G hmg
  refine Own.law_mk (h:=h) hmg ?T
  case T=>
   refine' Own.txt_ex (Own.txt_mk KX G ?a0 ?l0 ?c0 ?k0 ?a1 ?l1 ?c1 ?k1 ?a2 ?l2 ?c2 ?k2 ?a3 ?l3 ?c3 ?k3 ?a4 ?l4 ?c4 ?k4 ?a5 ?l5 ?c5 ?k5 ?a6 ?l6 ?c6 ?k6 ?a7 ?l7 ?c7 ?k7 ?a8 ?l8 ?c8 ?k8 ?a9 ?l9 ?c9 ?k9 ?a10 ?l10 ?c10 ?k10 ?a11 ?l11 ?c11 ?k11 ?a12 ?l12 ?c12 ?k12 ?a13 ?l13 ?c13 ?k13 ?a14 ?l14 ?c14 ?k14 ?a15 ?l15 ?c15 ?k15 ?a16 ?l16 ?c16 ?k16 ?a17 ?l17 ?c17 ?k17 ?a18 ?l18 ?c18 ?k18 ?a19 ?l19 ?c19 ?k19 ?a20 ?l20 ?c20 ?k20 ?a21 ?l21 ?c21 ?k21 ?a22 ?l22 ?c22 ?k22 ?a23 ?l23 ?c23 ?k23 ?a24 ?l24 ?c24 ?k24 ?a25 ?l25 ?c25 ?k25 ?a26 ?l26 ?c26 ?k26 ?a27 ?l27 ?c27 ?k27 ?a28 ?l28 ?c28 ?k28 ?a29 ?l29 ?c29 ?k29 ?a30 ?l30 ?c30 ?k30 ?a31 ?l31 ?c31 ?k31 ?a32 ?l32 ?c32 ?k32 ?a33 ?l33 ?c33 ?k33 ?z_abs ?z_bool ?z_enumerate ?z_int ?z_isinstance ?z_len ?z_range ?z_repr ?z_set ?z_sorted ?z_sum ?z_tuple)
   case a0=>k_is
   case l0=>k_is
   case c0=>k_is
   case k0=>k_is
   case a1=>k_is
   case l1=>k_is
   case c1=>k_is
   case k1=>k_is
   case a2=>k_is
   case l2=>k_is
   case c2=>k_is
   case k2=>k_is
   case a3=>k_is
   case l3=>k_is
   case c3=>k_is
   case k3=>k_is
   case a4=>k_is
   case l4=>k_is
   case c4=>k_is
   case k4=>k_is
   case a5=>k_is
   case l5=>k_is
   case c5=>k_is
   case k5=>k_is
   case a6=>k_is
   case l6=>k_is
   case c6=>k_is
   case k6=>k_is
   case a7=>k_is
   case l7=>k_is
   case c7=>k_is
   case k7=>k_is
   case a8=>k_is
   case l8=>k_is
   case c8=>k_is
   case k8=>k_is
   case a9=>k_is
   case l9=>k_is
   case c9=>k_is
   case k9=>k_is
   case a10=>k_is
   case l10=>k_is
   case c10=>k_is
   case k10=>k_is
   case a11=>k_is
   case l11=>k_is
   case c11=>k_is
   case k11=>k_is
   case a12=>k_is
   case l12=>k_is
   case c12=>k_is
   case k12=>k_is
   case a13=>k_is
   case l13=>k_is
   case c13=>k_is
   case k13=>k_is
   case a14=>k_is
   case l14=>k_is
   case c14=>k_is
   case k14=>k_is
   case a15=>k_is
   case l15=>k_is
   case c15=>k_is
   case k15=>k_is
   case a16=>k_is
   case l16=>k_is
   case c16=>k_is
   case k16=>k_is
   case a17=>k_is
   case l17=>k_is
   case c17=>k_is
   case k17=>k_is
   case a18=>k_is
   case l18=>k_is
   case c18=>k_is
   case k18=>k_is
   case a19=>k_is
   case l19=>k_is
   case c19=>k_is
   case k19=>k_is
   case a20=>k_is
   case l20=>k_is
   case c20=>k_is
   case k20=>k_is
   case a21=>k_is
   case l21=>k_is
   case c21=>k_is
   case k21=>k_is
   case a22=>k_is
   case l22=>k_is
   case c22=>k_is
   case k22=>k_is
   case a23=>k_is
   case l23=>k_is
   case c23=>k_is
   case k23=>k_is
   case a24=>k_is
   case l24=>k_is
   case c24=>k_is
   case k24=>k_is
   case a25=>k_is
   case l25=>k_is
   case c25=>k_is
   case k25=>k_is
   case a26=>k_is
   case l26=>k_is
   case c26=>k_is
   case k26=>k_is
   case a27=>k_is
   case l27=>k_is
   case c27=>k_is
   case k27=>k_is
   case a28=>k_is
   case l28=>k_is
   case c28=>k_is
   case k28=>k_is
   case a29=>k_is
   case l29=>k_is
   case c29=>k_is
   case k29=>k_is
   case a30=>k_is
   case l30=>k_is
   case c30=>k_is
   case k30=>k_is
   case a31=>k_is
   case l31=>k_is
   case c31=>k_is
   case k31=>k_is
   case a32=>k_is
   case l32=>k_is
   case c32=>k_is
   case k32=>k_is
   case a33=>k_is
   case l33=>k_is
   case c33=>k_is
   case k33=>k_is
   case z_abs=>k_is
   case z_bool=>k_is
   case z_enumerate=>k_is
   case z_int=>k_is
   case z_isinstance=>k_is
   case z_len=>k_is
   case z_range=>k_is
   case z_repr=>k_is
   case z_set=>k_is
   case z_sorted=>k_is
   case z_sum=>k_is
   case z_tuple=>k_is
