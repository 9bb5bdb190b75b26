import PyProof.Rows.All
import Wide.All
import OpenK.AllK
import Wide.FinOn
import Lean
import PyProof.EqAt
import PyProof.EqKinds
import PyProof.TupleCall
import PyProof.ListRange
import PyProof.NeKinds
import KE.KUnpack
import KE.KSortTup
import PyProof.ZipIter
import PyProof.Rows.CallKwBuiltin
import PyProof.SetKind
import PyProof.SetRoads
import KE.KDictList
import PyProof.Rows.SetFrom
import PyProof.WalksMore
import KE.KDictLaws
import PyProof.FactsAll.tuple_0
import PyProof.FactsAll.tuple_2
import PyProof.FactsAll.tuple_3
import PyProof.FactsAll.list_3
import PyProof.Rows.SeqMore
import PyProof.AutoSeq1
import PySem.Challenge.RW_signpoly_k67_degrees_put_together
set_option Elab.async false
set_option linter.all false
set_option maxRecDepth 100000
set_option genSizeOf false
noncomputable section
open And renaming left -> qjZ
open Array renaming getElem?_eq_getElem -> qaJ, length_toList -> qa5, toList_append -> qa9, toList_inj -> qbf, toList_extract -> qbD, getElem?_eq_none -> qbP, getElem?_toList -> qcc, perm_iff_toList_perm -> qcw, getElem_toList -> qdU, range -> qd1, toList_reverse -> qe7, getElem_mem_toList -> qgW, toList -> qhw, toList_range -> qh7, forIn_toList -> qh8, toList_push -> qit
open Array.Perm renaming refl -> qmn
open Bool renaming false_ne_true -> qaq, false_eq_true -> qax, and_eq_true -> qa8, not_true -> qbM, not_eq_true' -> qcq, or_eq_true -> qdw, eq_iff_iff -> qdx, not_false -> qdM, false_or -> qdZ, or_false -> qeE, not_eq_true -> qeK, not_eq_false' -> qfM, xor_false -> qgT, false_and -> qgU, and_false -> qgV, and_true -> qhf
open Classical renaming byContradiction -> qc7
open Eq renaming trans -> qkS
open False renaming elim -> qdl
open Int renaming toNat_natCast -> qaW, eq_ofNat_of_zero_le -> qbr, mul_assoc -> qb1, zero_mul -> qco, zero_add -> qcp, mul_zero -> qcO, le_refl -> qdm, one_mul -> qd8, mul_one -> qd9, mul_left_comm -> qeB, le_trans -> qe5, add_zero -> qe6, emod_lt_of_pos -> qfP, mul_add -> qgE, emod_nonneg -> qgF, fdiv_eq_ediv_of_nonneg -> qgR, reduceNeg -> qhv, toNat -> qhQ, mul_comm -> qhR, add_mul -> qir, le_antisymm -> qje, ediv_nonneg -> qjf, natAbs_mul -> qjw, pow_succ -> qkR, pow_pos -> qk8
open List renaming length_map -> qae, mem_cons_of_mem -> qah, mem_cons_self -> qak, map_cons -> qal, range -> qam, mem_map -> qap, map_congr_left -> qar, length_cons -> qas, mem_append_right -> qau, all_eq_true -> qaw, getElem?_eq_some_iff -> qay, size_toArray -> qaz, mem_cons -> qaC, getElem?_eq_getElem -> qaD, sum_cons -> qaF, mem_range -> qaK, map_map -> qaL, mem_singleton -> qaO, getD_eq_getElem?_getD -> qaQ, replicate -> qaT, getElem?_append_left -> qaY, getElem?_map -> qaZ, getD_cons_zero -> qa1, length_append -> qa2, Nodup -> qa3, map_append -> qba, getElem?_append_right -> qbd, mem_append -> qbe, getD_cons_succ -> qbm, mem_of_getElem? -> qbu, take_length -> qbv, foldl_cons -> qbw, pairwise_cons -> qbx, replicate_succ -> qbG, take_add_one -> qbK, all_cons -> qbL, nodup_cons -> qbR, length_nil -> qbS, extract_eq_take_drop -> qbT, lookup_cons -> qbW, mem_filter -> qb0, cons_append -> qb3, append_assoc -> qb8, drop_eq_getElem_cons -> qca, getElem?_set_ne -> qch, any_cons -> qcj, pairwise_map -> qcm, flatten_cons -> qcn, mem_map_of_mem -> qcr, take_of_length_le -> qcs, filter_cons -> qcy, length_filter_le -> qcA, mem_append_left -> qcG, nil_append -> qcH, length_set -> qcI, filter_map -> qcJ, map_nil -> qcM, getElem_mem -> qcU, getElem?_set_self -> qcW, length_replicate -> qc3, append_nil -> qc4, length_range -> qc9, mem_iff_getElem -> qdc, length_take -> qdk, set_cons_zero -> qds, set_cons_succ -> qdt, getElem?_replicate -> qdu, find?_cons -> qdv, take_succ_eq_append_getElem -> qdC, nodup_append -> qdE, map_id -> qdF, mapM_toArray -> qdG, foldl_append -> qdH, take_zero -> qdK, set_append_right -> qdN, getElem?_eq_none -> qdO, isEmpty_nil -> qdT, filterMap_cons -> qd2, drop_zero -> qem, length_eq_zero_iff -> qeD, find?_cons_of_pos -> qeL, find?_cons_of_neg -> qeM, sum_append -> qeS, length_singleton -> qeT, all_nil -> qeU, map -> qe3, foldl -> qe4, pairwise_append -> qfa, mem_of_mem_take -> qfb, getElem?_of_mem -> qfc, replicate_zero -> qfl, filter_eq_self -> qfm, mem_filterMap -> qfK, nodup_range -> qf8, mem_flatten -> qf9, getElem_inj -> qga, drop_length -> qgb, all_toArray -> qgc, take_left' -> qgr, of_mem_zip -> qgs, length -> qgt, perm_ext_iff_of_nodup -> qgB, nodup_nil -> qgN, getElem?_eq_none_iff -> qgO, forIn_nil -> qgP, getElem?_take_of_lt -> qg5, pairwise_singleton -> qhb, map_take -> qhc, range_succ_eq_map -> qht, pairwise_lt_range -> qhu, take_append_drop -> qhA, mem_iff_getElem? -> qhB, getD -> qhC, all_map -> qhD, mem_of_mem_drop -> qhO, cons_merge_cons -> qhP, take_succ_cons -> qh4, zip_cons_cons -> qio, filter_append -> qip, push_toArray -> qiB, filter_congr -> qiC, ext_getElem? -> qiD, not_mem_nil -> qiN, length_drop -> qiO, isEmpty_iff -> qiP, forIn_cons -> qi0, drop_drop -> qjd, take_add -> qjt, sum -> qju, map_drop -> qjv, sum_nil -> qjP, drop -> qml
open List.Pairwise renaming sublist -> qjQ, map -> qjR, filter -> qjS
open List.Perm renaming refl -> qcv, eq_of_pairwise -> qd7
open List.Sublist renaming refl -> qkQ
open Nat renaming le_refl -> qan, ne_of_lt -> qat, le_trans -> qaH, lt_of_lt_of_le -> qaP, lt_succ_of_lt -> qa0, zero_le -> qa7, pow_le_pow_right -> qbg, zero_add -> qbz, ne_of_gt -> qbA, lt_succ_self -> qb4, zero_testBit -> qcg, eq_of_testBit_eq -> qci, lt_irrefl -> qck, testBit_or -> qcl, le_succ -> qcS, sub_self -> qdo, testBit_xor -> qdz, le_of_lt -> qdQ, le_of_eq -> qdR, testBit_and -> qd5, not_lt_zero -> qd6, lt_of_le_of_lt -> qel, and_zero -> qe2, pow_lt_pow_right -> qff, zero_or -> qfD, pow_pos -> qfE, add_one_ne_zero -> qfF, add_assoc -> qfO, testBit_eq_decide_div_mod_eq -> qfT, one_shiftLeft -> qfZ, sub_zero -> qf6, add_comm -> qf7, succ_ne_self -> qgn, mul_le_mul -> qg3, lt_pow_two_of_testBit -> qg4, reduceSub -> qhr, reduceAdd -> qhs, testBit_lt_two_pow -> qhy, lt_of_succ_lt_succ -> qhz, lt_trans -> qhM, add_zero -> qhN, mul_le_mul_right -> qh3, or_zero -> qim, add_mul -> qin, xor_lt_two_pow -> qiA, le_add_right -> qiZ, xor_assoc -> qjO, zero_xor -> qkK, zero_and -> qkL, xor_zero -> qkM, pow_succ -> qkN, or_assoc -> qkO, lt_or_ge -> qkP, log2_lt -> qk7
open Ne renaming symm -> qcz
open Option renaming bind_eq_some_iff -> qac, bind_some -> qad, map_eq_some_iff -> qaf, map_some -> qaB, isSome_iff_exists -> qdj, isSome_some -> qhL, getD_none -> qil, map -> qjN
open Option.some renaming inj -> qaR
open Prod renaming fst -> qa6
open PyProof.Rows renaming wpS_bind -> qav, wpS_pure -> qaG, boot_tuple -> qbh, SortSt -> qbk, pendingOf -> qbs, slot_tuple_getitem -> qbE, wpS_forRange -> qbV, failedOf -> qb6, callWith_type1 -> qce, seqObj -> qct, boot_sum -> qcN, IntsAre -> qcT, wpS_modify -> qc1, boot_sorted -> qc6, SortKind -> qdi, wpS_mono -> qdI, wpS_get -> qd3, KeyOrd -> qec, gallopOf -> qeg, callWith_builtin1 -> qe1, boot_repr -> qfX, AllBare -> qf1, boot_max -> qf3, boot_abs -> qf4, mirror -> qgi, envOfC -> qgj, assignInOrder_cons -> qgm, lt_int -> qgq, entry_list_sort -> qhl, slot_list_sort -> qhI, args_list_sort -> qhJ, sortedHeap -> qhT, size_push' -> qhU, setArr -> qhV, subscriptTail -> qib, oneType' -> qif, listUpdate_at -> qig, subscriptTail_builtinR -> qiu, plain_sorted -> qiH, entry_sorted -> qiI, args_sorted1 -> qiL, entry_proto_collect' -> qiX, seqEpoch_at -> qi6, kind_sorted -> qi7, keyKind'_eq -> qi8, getElem?_mirror_all -> qi9, entry_tuple_getitem -> qja, keyKind' -> qjm, args_tuple_getitem -> qjo, assignInOrder_nil -> qjJ, Subscript_ -> qjM, entry_list_iadd' -> qj3, gt_int -> qkG, envOfC -> qkH, boot_set -> qkI, IntsAre -> qkJ, sortedAll -> qkX, oneTypeOnly'_eq -> qk1, getElem?_bubble -> qk4, sortedHeap_old -> qlb, slicePart_none -> qlc, boot_enumerate -> qlh
open PyProof.Rows.F renaming plain_set_update_loop -> qcV, entry_set_update_loop -> qew
open PyProof.Rows.IntsAre renaming length -> qh0, int_at -> qh1
open PyProof.Rows.KeyOrd renaming kle_trans -> qbt, kle_refl -> qcZ, kle_of_klt -> qdD, klt_of_kle_of_klt -> qen, klt_of_klt_of_kle -> qgD, kle_antisymm -> qhE, klt_asymm -> qiq
open PyProof.Rows.SortSt renaming mk' -> qbI
open PySem renaming wpAny_bind -> qaa, wpAny_pure -> qab, Shared -> qaj, mainGlobals -> qaE, sizeLine -> qaS, Program -> qaX, FuncData -> qbb, Around -> qbc, wpAny_newObj_type -> qbi, wpAny_holding -> qbj, wpAny_call_entry -> qbn, mem_of_lookup -> qby, starEach -> qbB, binaryOp -> qbC, IntMulOk -> qbF, Spec -> qbJ, wpAny_callSpecial?_slot -> qbO, boot_len -> qbQ, assignEach -> qbZ, sizeLine_eq -> qb5, codeAny_builtin -> qb7, NameKind -> qb9, cellsFrom -> qcb, wpAny_mono -> qcu, Builtin -> qcB, sysModules -> qcD, compareOp -> qcF, wpAny_setState_of -> qcQ, foldedSetIterable -> qcR, wpAny_typeNameOfWhole_keyiter -> qc0, wpAny_rule -> qc2, wpAny_Call_Name_kw -> qc8, wpAny_passesOwn -> qdd, pushCells_keeps -> qde, wpAny_storeSet_of -> qdg, call_meets -> qdh, wpAny_setField -> qdp, wpAny_typeNameOf_keyiter -> qdA, bootBuiltins -> qdB, wpAny_pyIter_tuple -> qdJ, intKind -> qdV, isSubtype_type -> qdW, firstArgMember -> qdX, wpAny_isInstance -> qd4, backTo -> qea, wpAny_standAt -> qed, wpAny_newList -> qee, plainId_quiet -> qef, attributeBase -> qeh, wpAny_ite_split -> qeo, wpAny_field -> qep, sliceBounds -> qeq, keywordEach -> qer, codeAny -> qes, DictEntry -> qex, pyNext -> qeC, wpAny_tryCatch -> qeF, wpAny_seqItems -> qeG, wpAny_pyIter_enum -> qeN, swapsWith -> qeO, wpAny_of_eq -> qeX, wpAny_attempt -> qeY, unsupported -> qeZ, rawInt -> qe8, wpAny_pyNext_list_item -> qfe, wpAny_updateSeq -> qfs, wpAny_typeOf -> qft, wpAny_pyNext_list_end -> qfu, wpAny_ite_false -> qfv, wpAny_execs_nil -> qfw, pushCells -> qfx, letOwnedTupleGo -> qfy, getItem -> qfz, codeAny_mono -> qfA, typeIs_int -> qfH, list_append -> qfN, entryFor_alias -> qfR, assign -> qfS, holding -> qfU, tupleKind_room_in1 -> qge, tupleKind -> qgf, swapsWithSole -> qgg, swappedStores -> qgh, behindInMarks -> qgk, backToKw -> qgl, wpAny_truthy_bool -> qgv, wpAny_pyIter_slot -> qgw, wpAny_load -> qgx, wpAny_dictEntries -> qgy, Keyword -> qgC, Paired -> qgM, IsPart -> qgQ, wpAny_askSetting -> qgX, noFill_tuple_add -> qgY, entryFor -> qg7, SetTable -> qg8, IntMulOk -> qhd, wpAny_letGo -> qhg, wpAny_dictEpoch -> qhh, valueAt -> qhi, subscripted -> qhj, seqItems? -> qhk, callerA -> qhm, PassesOwn -> qhp, wpAny_runValue -> qhG, wpAny_binaryOp_repeat_ref -> qhH, wpAny_comprehension_free -> qhS, pyIter -> qhW, intKind_is -> qhX, builtinsNs -> qhY, argsOk -> qhZ, wpAny_pyNext_enum_itemD -> qh9, wpAny_handled -> qia, spliced -> qic, slotArgs -> qid, seq_tuple_add -> qie, compEnvC -> qih, assignInOrder -> qii, call -> qik, BindsTo -> qis, codeAny_compStart_list -> qiv, seqSlot_of -> qiy, wpAny_isOneOf_keyiter -> qiE, setAddHashed -> qiF, seqIndex_neg -> qiG, concat_meets -> qiJ, builtinLookup_eq_fast -> qiK, codeAny_call_builtin -> qiY, wpAny_throw -> qi2, wpAny_binaryOp_same -> qi3, wpAny_alloc -> qi4, seqIndex_of -> qi5, setEpoch -> qjk, newExc -> qjl, bindName -> qjn, Result -> qjr, GenState -> qjy, wpAny_sequenceKey -> qjB, wpAny_pyIter_list -> qjC, wpAny_call -> qjD, wpAny_assign_Name -> qjE, wpAny_Name -> qjF, slot_list_getitem -> qjG, setEntries -> qjH, checkCount -> qjI, wpAny_setScan_of -> qj0, wpAny_execs_cons -> qj1, setDiscardHashed -> qj2, checkBuiltinCall -> qj4, wpAny_specialOf -> qkV, typeLookup_type -> qkW, setScan -> qkY, setItem -> qkZ, seqIndex? -> qk0, newList -> qk2, isSubtype -> qk3, collect -> qk5, codeAny_of_tree -> qk6, wpAny_fieldsOf -> qk9, wpAny_bindName -> qla, recursionLimit -> qld, newFunctionEnv -> qle, isSubtype_stop -> qlf, fitsIndex_both -> qlg
open PySem.Around renaming under_plainId -> qcC
open PySem.AutoSeq1 renaming sub_tuple_tuple -> qgo
open PySem.Bind renaming checkArgs -> qjj
open PySem.Builtin renaming bitAnd -> qdb, bitXor -> qeW
open PySem.Builtin.Builtins renaming bindParams -> qcK
open PySem.Builtin.Dict renaming showsAll -> qgd, dictSlotNone -> qkU
open PySem.Builtin.Dict_items renaming ownsTuple -> qeJ
open PySem.Builtin.Frozenset renaming isAnySet -> qcL, updateFrom -> qdn, addrOf -> qdL, unchanged -> qeP, baseOf -> qfd, slot1 -> qfh, merge -> qfi, symmetricDifferenceUpdate -> qiR, slot0 -> qiS, sizeOf -> qiT, newFrom -> qiU, newClass -> qiV, copyOf -> qiW
open PySem.Builtin.List renaming listTooLong -> qcx, listLengthHint -> qfq, listExtendWith -> qfr
open PySem.Builtin.Range renaming rangeSize -> qjY
open PySem.Builtin.Slice renaming slicePlaces -> qcY, sliceAdjust -> qdS, sliceApplied -> qfp, slicePartIndex -> qjW, sliceFields -> qjX
open PySem.Builtin.SmallTypes renaming nextOf -> qcP
open PySem.Builtin.Tuple renaming tupleExact -> qc5, tupleTooMany -> qfn, tupleItemsOf -> qfo, tupleIsExact -> qjU, tupleCompareSizes -> qjV
open PySem.Calls renaming spliced_cons -> qdq, call_function_entry -> qej, spliced_nil -> qey, Name_function_global -> qgu, callWith_builtin -> qhe, evalArgs_plain -> qhF
open PySem.Code renaming quiet_builtin -> qfL
open PySem.Draws renaming list -> qkT
open PySem.Env renaming kindOf -> qmm
open PySem.F renaming slot_dict_keyiterator_next -> qbX, called_set -> qcd, plain_max_loop -> qcX, slot_tuple_iterator_next -> qdf, args_tuple_add_2 -> qei, entry_tuple_add -> qev, slot_tuple_add -> qez, slot_tuple_lt -> qeH, slot_dict_get -> qeI, args_dict_keyiterator_next_1 -> qeR, slot_tuple_mul -> qeV, entry_dict_keyiterator_next -> qe0, slot_int_rmul -> qfg, args_list_append_2 -> qfG, entry_list_append -> qfQ, slot_list_append -> qf0, args_tuple_lt_2 -> qgz, args_dict_get_3 -> qgA, entry_max_loop -> qgG, slot_dict_iter -> qgI, entry_tuple_lt -> qgJ, entry_dict_get -> qgK, args_tuple_iterator_next_1 -> qgS, slot_set_iter -> qg1, plain_set_new -> qg2, entry_tuple_iterator_next -> qg6, slot_set_xor -> qha, slot_set_or -> qho, args_tuple_mul_2 -> qi1, slot_tuple_rmul -> qjg, entry_tuple_mul -> qjh, args_int_rmul_2 -> qji, slot_int_index -> qjz, entry_int_rmul -> qjA, fills_int_mul -> qjT
open PySem.Heap renaming get?_push_of_some -> qag, lt_size -> qao, get?_push_size -> qaA, get?_update_other -> qbo, SameBut -> qbq, size_push -> qbU, get?_update_self -> qbY, get?_push_ne -> qda, get?_update_ne -> qh5, ExtBut -> qh6, size_update -> qiQ
open PySem.Heap.IsSliceOf renaming new -> qjx
open PySem.Heap.SameBut renaming update -> qbl, refl -> qdY
open PySem.IsL renaming update -> qfC
open PySem.Obj renaming mapSeq -> qb2, data_mapFields -> qcf, isFreed_of_fields -> qdP, cls_mapFields -> qeA, putSet -> qfY, mapFields -> qhq
open PySem.Paired renaming length -> qgL, snoc -> qjs
open PySem.PassesOwn renaming never -> qbp
open PySem.PyData renaming shownAll -> qcE, depthAll -> qf5, showableAll -> qhK, hasDictAll -> qh2, depth -> qjc
open PySem.SeqAt renaming EqAt -> qeu, ne_of_list_tuple -> qg9, RcNeAt -> qjq, RcAt -> qkF
open PySem.SeqAt.EqAt renaming of_refs -> qeQ, same -> qfJ, str_int -> qgZ, int_str -> qg0, tuple_str -> qlQ, tuple_none -> qlR, tuple_list -> qlS, tuple_int -> qlT, tuple_bool -> qlU, str_tuple -> qlV, str_str -> qlW, str_none -> qlX, str_list -> qlY, str_bool -> qlZ, none_tuple -> ql0, none_str -> ql1, none_list -> ql2, none_int -> ql3, none_bool -> ql4, list_tuple -> ql5, list_str -> ql6, list_none -> ql7, list_int -> ql8, list_bool -> ql9, int_tuple -> qma, int_none -> qmb, int_list -> qmc, int_int -> qmd, int_bool -> qme, bool_tuple -> qmf, bool_str -> qmg, bool_none -> qmh, bool_list -> qmi, bool_int -> qmj, bool_bool -> qmk
open PySem.SeqAt.RcAt renaming tuples -> qe9, lists_lengths -> qfV, lists -> qhn, tuple_str -> qli, tuple_none -> qlj, tuple_list -> qlk, tuple_int -> qll, tuple_bool -> qlm, str_tuple -> qln, str_str -> qlo, str_none -> qlp, str_list -> qlq, str_int -> qlr, str_bool -> qls, none_tuple -> qlt, none_str -> qlu, none_none -> qlv, none_list -> qlw, none_int -> qlx, none_bool -> qly, list_tuple -> qlz, list_str -> qlA, list_none -> qlB, list_int -> qlC, list_bool -> qlD, int_tuple -> qlE, int_str -> qlF, int_none -> qlG, int_list -> qlH, int_int -> qlI, int_bool -> qlJ, bool_tuple -> qlK, bool_str -> qlL, bool_none -> qlM, bool_list -> qlN, bool_int -> qlO, bool_bool -> qlP
open PySem.SeqAt.RcNeAt renaming tuples -> qgp, tuple_str -> qj5, tuple_none -> qj6, tuple_list -> qj7, tuple_int -> qj8, tuple_bool -> qj9, str_tuple -> qka, str_str -> qkb, str_none -> qkc, str_list -> qkd, str_int -> qke, str_bool -> qkf, none_tuple -> qkg, none_str -> qkh, none_none -> qki, none_list -> qkj, none_int -> qkk, none_bool -> qkl, lists_lengths -> qkm, lists -> qkn, list_tuple -> qko, list_str -> qkp, list_none -> qkq, list_int -> qkr, list_bool -> qks, int_tuple -> qkt, int_str -> qku, int_none -> qkv, int_list -> qkw, int_int -> qkx, int_bool -> qky, bool_tuple -> qkz, bool_str -> qkA, bool_none -> qkB, bool_list -> qkC, bool_int -> qkD, bool_bool -> qkE
open PySem.SetTable renaming below -> qa4, fresh -> qdy, sizeAbove -> qd0, toList_insertAt -> qeb, laid -> qek, eraseAt -> qet, insertAt -> qfk, turns -> qf2, has -> qgH, grown -> qij, fill -> qiw, bits -> qix
open PySem.SetTable.probe renaming go -> qjp
open PySem.Str renaming ofString -> qbH
open PySem.Value renaming isStrOf -> qjb, isInt -> qjL
open PySem.W renaming Frag -> qai, keepIn -> qaI, codeIn -> qaM, nsIn -> qaN, fnOf -> qaU, mg_of -> qaV, mg_none_of -> qbN, cellsFrom_some -> qdr, methodObj -> qfB, OpenLaw -> qfW, kdl_extend -> qhx, KdlSrc -> qiz, WalkO -> qiM
open PySem.W.WShape renaming has -> qjK
open PySem.WalksT renaming enumerateD -> qfI
open PySem.pickOrder renaming go -> qfj
namespace L2
open PySem PySem.Spec PyProof.Rows
abbrev Key:=Sum Int Str
def qE:Key->Value->Bool
 |.inl k,v=>qjL k v
 |.inr x,v=>qjb x v
def Gh (w:World):Key->Int
 |.inl k=>hashInt k
 |.inr x=>hashStr w x
theorem cb:∀ {k:Key}{v:Value},qE k v=true->(∃ i t,k=Sum.inl i/\v=Value.int i t)\/(∃ x t,k=Sum.inr x/\v=Value.str x t)
 |.inl i,v,h=>by
  obtain⟨t,e⟩:=Value.isInt_shape (k:=i) (v:=v) h
  exact .inl ⟨i,t,rfl,e⟩
 |.inr x,v,h=>by
  obtain⟨t,e⟩:=Value.isStrOf_shape (x:=x) (v:=v) h
  exact .inr ⟨x,t,rfl,e⟩
theorem xz (i:Int) (t:Tok):qE (.inl i) (.int i t)=true:=by simp[qE,qjL]
theorem xZ (x:Str) (t:Tok):qE (.inr x) (.str x t)=true:=by simp[qE,qjb]
theorem D4 (a b:Int):decide ((Sum.inl a:Key)=Sum.inl b)=(a==b):=by
 by_cases e:a=b
 ·subst e;simp
 ·have h:¬ (Sum.inl a:Key)=Sum.inl b:=λq=>e (Sum.inl.inj q)
  rw[decide_eq_false h]
  exact (beq_eq_false_iff_ne.mpr e).symm
theorem C3 (a b:Str):decide ((Sum.inr a:Key)=Sum.inr b)=decide (a=b):=by
 by_cases e:a=b
 ·subst e;simp
 ·have h:¬ (Sum.inr a:Key)=Sum.inr b:=λq=>e (Sum.inr.inj q)
  rw[decide_eq_false h,decide_eq_false e]
theorem El (a:Int) (b:Str):decide ((Sum.inl a:Key)=Sum.inr b)=false:=decide_eq_false (λq=>nomatch q)
theorem Ea (a:Str) (b:Int):decide ((Sum.inr a:Key)=Sum.inl b)=false:=decide_eq_false (λq=>nomatch q)
def cE (prog:qaX) (w:World):PySem.KeyKind prog w Key where
 is:=qE
 hash:=Gh w
 inj:=λv a b ha hb=>by
  rcases cb ha with⟨i,t,rfl,rfl⟩|⟨x,t,rfl,rfl⟩
  ·rcases cb hb with⟨j,u,rfl,e⟩|⟨y,u,rfl,e⟩
   ·injection e with e1 _;rw[e1]
   ·exact nomatch e
  ·rcases cb hb with⟨j,u,rfl,e⟩|⟨y,u,rfl,e⟩
   ·exact nomatch e
   ·injection e with e1 _;rw[e1]
 byValue:=λk v h=>by
  rcases cb h with⟨i,t,rfl,rfl⟩|⟨x,t,rfl,rfl⟩<;>rfl
 pyHash:=λhv h=>by
  rcases cb hv with⟨i,t,rfl,rfl⟩|⟨x,t,rfl,rfl⟩
  ·exact wpAny_pyHash_int h
  ·exact wpAny_pyHash_str h
 eqBool:=λhu hv h=>by
  rcases cb hu with⟨i,t,rfl,rfl⟩|⟨x,t,rfl,rfl⟩
  ·rcases cb hv with⟨j,u,rfl,rfl⟩|⟨y,u,rfl,rfl⟩
   ·rw[D4]at h;exact wpAny_eqBool_int h
   ·rw[El]at h;exact qg0 i t y u _ _ _ _ h
  ·rcases cb hv with⟨j,u,rfl,rfl⟩|⟨y,u,rfl,rfl⟩
   ·rw[Ea]at h;exact qgZ x t j u _ _ _ _ h
   ·rw[C3]at h;exact wpAny_eqBool_str h
 «strs»:=λk x t v h=>by
  rcases cb h with⟨i,u,rfl,e⟩|⟨y,u,rfl,e⟩
  ·exact nomatch e
  ·injection e with e1 _
   subst e1
   cases v<;>rfl
theorem uy (prog:qaX) (w:World) (i:Int) (t:Tok):(cE prog w).is (.inl i) (.int i t)=true:=xz i t
theorem t7 (prog:qaX) (w:World) (x:Str) (t:Tok):(cE prog w).is (.inr x) (.str x t)=true:=xZ x t
inductive V where
 |non|bl (b:Bool)|int (i:Int)|str (x:Str)|byt (b:Array UInt8)|flt (b:UInt64)|ref (a:Addr)|ty (n:String)
 deriving DecidableEq
def aV:V->Value->Prop
 |.non,u=>u=Value.none
 |.bl b,u=>u=Value.bool b
 |.int i,u=>∃ t,u=Value.int i t
 |.str x,u=>∃ t,u=Value.str x t
 |.byt b,u=>∃ t,u=Value.bytes b t
 |.flt b,u=>∃ t,u=Value.float b t
 |.ref a,u=>u=Value.ref a
 |.ty n,u=>u=Value.type n
abbrev aQ:List V->List Value->Prop:=qgM aV
theorem aQ.length {xs:List V}{us:List Value} (r:aQ xs us):xs.length=us.length:=qgL r
theorem aQ.get:∀ {xs:List V}{us:List Value}{i:Nat}{x:V},aQ xs us->xs[i]?=some x->∃ u,us[i]?=some u/\aV x u
 |_,_,_,_,.nil,e=>by simp at e
 |_,_,0,_,.cons r _,e=>by simp at e;subst e;exact⟨_,rfl,r⟩
 |_,_,i+1,x,.cons _ t,e=>by
  obtain⟨u,h1,h2⟩:=aQ.get (i:=i) (x:=x) t (by simpa using e)
  exact⟨u,by simpa using h1,h2⟩
theorem aQ.set {x:V}{u:Value} (r:aV x u):∀ {xs:List V}{us:List Value} (i:Nat),aQ xs us->aQ (xs.set i x) (us.set i u)
 |_,_,_,.nil=>.nil
 |_,_,0,.cons _ t=>.cons r t
 |_,_,i+1,.cons q t=>.cons q (aQ.set r i t)
theorem aQ.append:∀ {xs ys:List V}{us ws:List Value},aQ xs us->aQ ys ws->aQ (xs++ys) (us++ws)
 |_,_,_,_,.nil,s=>s
 |_,_,_,_,.cons r t,s=>.cons r (aQ.append t s)
theorem aQ.take:∀ {xs:List V}{us:List Value} (n:Nat),aQ xs us->aQ (xs.take n) (us.take n)
 |_,_,0,_=>.nil
 |_,_,_+1,.nil=>.nil
 |_,_,n+1,.cons r t=>.cons r (aQ.take n t)
theorem aQ.drop:∀ {xs:List V}{us:List Value} (n:Nat),aQ xs us->aQ (xs.drop n) (us.drop n)
 |_,_,0,r=>r
 |_,_,_+1,.nil=>.nil
 |_,_,n+1,.cons _ t=>aQ.drop n t
def nj:Option V->Option Value->Prop
 |some v,some u=>aV v u
 |none,none=>True
 |_,_=>False
def KV {κ:Type}:List (κ×V)->List (κ×Value)->Prop:=qgM λ(p:κ×V) (q:κ×Value)=>p.1=q.1/\aV p.2 q.2
def kV:Key->V
 |.inl i=>.int i
 |.inr x=>.str x
inductive HO where
 |lst (xs:List V)
 |tup (xs:List V)
 |dK (kvs:List (Key×V))|dT (kvs:List (List Key×V))
 |set (S:Int->Bool) (n:Nat)
 |ins (C dx:Addr) (fs:List (Str×V))
 |own (x:Addr)
 |xd (fs:List (Str×V))
 |met (f x:Addr)
 |rng (lo hi:Int)
 |frz (o:Obj) (u:HO)
 |tbl (ps:Array Value)
 |ext (φ:Heap->Prop)
abbrev Hp:=Addr->Option HO
def upd (H:Hp) (a:Addr) (o:HO):Hp:=λb=>if b=a then some o else H b
theorem bb {H:Hp}{a:Addr}{o:HO}:upd H a o a=some o:=by unfold upd;rw[if_pos rfl]
theorem aO {H:Hp}{a b:Addr}{o:HO} (h:b≠a):upd H a o b=H b:=by unfold upd;rw[if_neg h]
theorem Gf {H:Hp}{a b:Addr}{o u:HO} (h:H a=some o) (h':H b=some u) (d:o≠u):a≠b:=by
 intro e;subst e;rw[h]at h';exact d (qaR h')
theorem aP {H:Hp}{a b:Addr}{o:HO} (h:H a=some o) (h':H b=none):a≠b:=by
 intro e;subst e;rw[h]at h';cases h'
def eJ (h:Heap) (a:Addr) (its:Array Value):Prop:=∃ o:Obj,h.get? a=some o/\o.cls=.type "tuple"/\(∃ n,o.data=.seq its n)/\o.dict=none
theorem eJ.tup {h:Heap}{a:Addr}{its:Array Value} (x:eJ h a its):IsTup h a its:=let ⟨o,e,c,n,_⟩:=x;⟨o,e,c,n⟩
theorem eJ.new (h:Heap) (its:Array Value):eJ (h.push { cls:=.type "tuple",data:=.seq its }) h.objs.size its:=⟨_,qaA _ rfl,rfl,⟨_,rfl⟩,rfl⟩
section
variable (P:qaX) (w:World)
def di (H:Hp) (h:Heap) (a:Addr):HO->Prop
 |.lst xs=>xs.length<=qaS/\∃ (its:List Value) (n:Nat),aQ xs its/\h.get? a=some { cls:=.type "list",data:=.seq its.toArray n }
 |.tup xs=>xs.length<=qaS/\∃ its:List Value,aQ xs its/\eJ h a its.toArray
 |.dK kvs=>kvs.length<=qaS/\(a==qcD)=false/\∃ vs,KV kvs vs/\h.DictOf (cE P w) a vs
 |.dT kvs=>kvs.length<=qaS/\(a==qcD)=false/\∃ xs:List (List Key×Addr×Value),
   qgM (λ(p:List Key×V) (q:List Key×Addr×Value)=>p.1=q.1/\H q.2.1=some (.tup (p.1.map kV))/\aV p.2 q.2.2) kvs xs/\
   ∃ o es ep,h.get? a=some o/\o.ExactDict/\o.data=.dict es ep/\es.toList=xs.map (entryOfKey (qgf (cE P w)))/\(xs.map (·.1)).Nodup
 |.set S n=>h.SetOf (qdV P w) a S n
 |.ins C dx fs=>H dx=some (.own a)/\fs.length<=1000/\dx≠a/\h.get? a=some (PySem.W.instObj C dx)/\
   ∃ mA,h.Ns1 dx mA/\(∀ f,nj (fs.lookup f) (mA f))/\PySem.Within mA (fs.map (·.1))
 |.own _=>∃ o,h.get? a=some o
 |.xd fs=>∃ mA,h.Ns1 a mA/\∀ f,nj (fs.lookup f) (mA f)
 |.rng lo hi=>∃ t u v,h.get? a=some { cls:=.type "range",data:=.fields #[.int lo t,.int hi u,.int 1 v] }
 |.frz o u=>h.get? a=some o/\di H h a u
 |.tbl ps=>h.get? a=some { cls:=.none,data:=.fields ps }
 |.met f x=>h.get? a=some (qfB (.ref f) (.ref x))
 |.ext φ=>φ h/\(∃ o,h.get? a=some o)/\∀ h1 h2:Heap,φ h1->(∀ o,h1.get? a=some o->h2.get? a=some o)->φ h2
def HOk (H:Hp) (h:Heap):Prop:=∀ a o,H a=some o->di P w H h a o
end
section
variable {P:qaX}{w:World}{H H':Hp}{h h':Heap}{a:Addr}{o:HO}
theorem di.lt (x:di P w H h a o):a<h.objs.size:=by
 cases o with
 |lst xs=>obtain⟨_,_,_,_,e⟩:=x;exact qao e
 |tup xs=>obtain⟨_,_,_,p⟩:=x;exact p.tup.lt
 |dK kvs=>obtain⟨_,_,_,_,o,_,_,e,_⟩:=x;exact qao e
 |dT kvs=>obtain⟨_,_,_,_,o,_,_,e,_⟩:=x;exact qao e
 |set S n=>obtain⟨o,_,_,_,e,_⟩:=x;exact qao e
 |ins C dx fs=>obtain⟨_,_,_,e,_⟩:=x;exact qao e
 |own y=>obtain⟨_,e⟩:=x;exact qao e
 |xd fs=>obtain⟨_,⟨_,_,_,e,_⟩,_⟩:=x;exact qao e
 |rng lo hi=>obtain⟨_,_,_,e⟩:=x;exact qao e
 |frz ob u=>obtain⟨e,_⟩:=x;exact qao e
 |tbl ps=>exact qao (show h.get? a=some _ from x)
 |met f y=>exact qao (show h.get? a=some _ from x)
 |ext φ=>obtain⟨_,⟨_,e⟩,_⟩:=x;exact qao e
theorem qgM.mapP {α β:Type}{F G:α->β->Prop}:∀ {l₁:List α}{l₂:List β},qgM F l₁ l₂->(∀ a b,F a b->G a b)->qgM G l₁ l₂
 |_,_,.nil,_=>.nil
 |_,_,.cons r t,f=>.cons (f _ _ r) (qgM.mapP t f)
theorem di.stay (x:di P w H h a o) (k:∀ b u,(b=a\/H b=some (.own a))->h.get? b=some u->h'.get? b=some u)
  (ho:∀ b,H b=some (.own a)->H' b=some (.own a)) (ht:∀ b xs,H b=some (.tup xs)->H' b=some (.tup xs)):di P w H' h' a o:=by
 induction o with
 |lst xs=>obtain⟨z,its,n,r,e⟩:=x;exact⟨z,its,n,r,k _ _ (.inl rfl) e⟩
 |tup xs=>obtain⟨z,its,r,ob,e,c⟩:=x;exact⟨z,its,r,ob,k _ _ (.inl rfl) e,c⟩
 |dK kvs=>obtain⟨z,y,vs,r,ob,es,ep,e,c⟩:=x;exact⟨z,y,vs,r,ob,es,ep,k _ _ (.inl rfl) e,c⟩
 |dT kvs=>
  obtain⟨z,y,xs,r,ob,es,ep,e,c⟩:=x
  exact⟨z,y,xs,qgM.mapP r λp q z=>⟨z.1,ht _ _ z.2.1,z.2.2⟩,ob,es,ep,k _ _ (.inl rfl) e,c⟩
 |set S n=>obtain⟨ob,es,ep,t,e,c⟩:=x;exact⟨ob,es,ep,t,k _ _ (.inl rfl) e,c⟩
 |ins C dx fs=>
  obtain⟨d,z,ne,e,mA,⟨od,es,ep,e2,c⟩,r⟩:=x
  exact⟨ho _ d,z,ne,k _ _ (.inl rfl) e,mA,⟨od,es,ep,k _ _ (.inr d) e2,c⟩,r⟩
 |own y=>obtain⟨ob,e⟩:=x;exact⟨ob,k _ _ (.inl rfl) e⟩
 |xd fs=>obtain⟨mA,⟨od,es,ep,e,c⟩,r⟩:=x;exact⟨mA,⟨od,es,ep,k _ _ (.inl rfl) e,c⟩,r⟩
 |rng lo hi=>obtain⟨t,u,v,e⟩:=x;exact⟨t,u,v,k _ _ (.inl rfl) e⟩
 |frz ob u ih=>obtain⟨e,q⟩:=x;exact⟨k _ _ (.inl rfl) e,ih q⟩
 |tbl ps=>
  have e:h.get? a=some { cls:=.none,data:=.fields ps }:=x
  show h'.get? a=some { cls:=.none,data:=.fields ps }
  exact k a _ (.inl rfl) e
 |met f y=>
  have e:h.get? a=some (qfB (.ref f) (.ref y)):=x
  show h'.get? a=some (qfB (.ref f) (.ref y))
  exact k a _ (.inl rfl) e
 |ext φ=>obtain⟨p,⟨o,e⟩,st⟩:=x;exact⟨st _ _ p λo q=>k _ _ (.inl rfl) q,⟨o,k _ _ (.inl rfl) e⟩,st⟩
theorem HOk.lt (x:HOk P w H h) (e:H a=some o):a<h.objs.size:=(x a o e).lt
theorem HOk.fresh (x:HOk P w H h) (e:h.objs.size<=a):H a=none:=by
 cases q:H a with
 |none=>rfl
 |some u=>exact absurd (qaP (x.lt q) e) (qck _)
theorem HOk.kept (x:HOk P w H h) (k:∀ b u,h.get? b=some u->h'.get? b=some u):HOk P w H h':=λa o e=>
 (x a o e).stay (λb u _ q=>k b u q) (λ_ q=>q) λ_ _ q=>q
theorem HOk.laid (x:HOk P w H h) (k:∀ b u,h.get? b=some u->h'.get? b=some u) (hp:h.objs.size<=a) (new:di P w (upd H a o) h' a o):HOk P w (upd H a o) h':=λb u e=>by
 have hn:=x.fresh hp
 by_cases hb:b=a
 ·subst hb;rw[bb]at e;cases e;exact new
 ·rw[aO hb]at e
  exact (x b u e).stay (λc v _ q=>k c v q) (λc q=>by rw[aO (aP q hn)];exact q) λc xs q=>by rw[aO (aP q hn)];exact q
end
def Rd (H:Hp) (a:Addr) (u:HO):Prop:=H a=some u\/∃ o,H a=some (.frz o u)
theorem Rd.of {H:Hp}{a:Addr}{u:HO} (h:H a=some u):Rd H a u:=.inl h
theorem Rd.ok {P:qaX}{w:World}{H:Hp}{h:Heap}{a:Addr}{u:HO} (r:Rd H a u) (x:HOk P w H h):di P w H h a u:=by
 rcases r with r|⟨o,r⟩
 ·exact x a u r
 ·obtain⟨_,q⟩:=x a _ r
  exact q
def Mut:Option HO->Prop
 |some (.lst _)=>True
 |some (.dK _)=>True
 |some (.dT _)=>True
 |some (.set _ _)=>True
 |some (.ins _ _ _)=>True
 |some (.ext _)=>True
 |_=>False
section
variable {P:qaX}{w:World}{H:Hp}{h h':Heap}{x e:Addr}{o':HO}
theorem HOk.write (ok:HOk P w H h) (mu:Mut (H x)) (he:e=x\/H e=some (.own x)) (k:∀ b u,b≠e->h.get? b=some u->h'.get? b=some u) (heo:∃ u,h'.get? e=some u)
  (new:di P w (upd H x o') h' x o'):HOk P w (upd H x o') h':=λb u q=>by
 have nown:∀ c y,H c=some (.own y)->c≠x:=λc y r z=>by subst z;rw[r]at mu;exact mu
 have ntup:∀ c xs,H c=some (.tup xs)->c≠x:=λc xs r z=>by subst z;rw[r]at mu;exact mu
 by_cases hb:b=x
 ·subst hb;rw[bb]at q;cases q;exact new
 ·rw[aO hb]at q
  by_cases hbe:b=e
  ·have q':H b=some (.own x):=by
    rcases he with z|z
    ·exact absurd (hbe.trans z) hb
    ·rw[hbe];exact z
   rw[q]at q';cases q'
   obtain⟨v,hv⟩:=heo
   exact⟨v,by rw[hbe];exact hv⟩
  ·refine (ok b u q).stay (λc v hc r=>k c v ?_ r) (λc r=>by rw[aO (nown c b r)];exact r) λc xs r=>by rw[aO (ntup c xs r)];exact r
   rcases hc with rfl|hc
   ·exact hbe
   ·rintro rfl
    rcases he with z|z
    ·exact nown c b hc z
    ·rw[hc]at z;cases z;exact hb rfl
end
structure Un (fs ex:List Addr) (H H':Hp) (h h':Heap):Prop where
 keep:∀ b o,h.get? b=some o->H b=none->b∉fs->b∉ex->h'.get? b=some o
 slot:∀ b o,h.get? b=some o->H b=none->b∈fs->b∉ex->∃ sl,h'.get? b=some { o with slots:=sl }
 free:∀ b o,h.get? b=some o->H b=none->b∉ex->H' b=none
 there:∀ b o,h.get? b=some o->b∉ex->∃ o',h'.get? b=some o'
 tups:∀ b xs,H b=some (.tup xs)->H' b=some (.tup xs)
 frzs:∀ b o u,H b=some (.frz o u)->H' b=some (.frz o u)
 tbls:∀ b ps,H b=some (.tbl ps)->∃ more,H' b=some (.tbl (ps++more))
section
variable {fs fs' ex ex':List Addr}{H H1 H2:Hp}{h h1 h2 h':Heap}{a x e:Addr}{o:HO}
theorem Un.any (u:Un fs ex H H1 h h1) {b:Addr}{ob:Obj} (q:h.get? b=some ob) (n:H b=none) (hx:b∉ex):∃ sl,h1.get? b=some { ob with slots:=sl }:=by
 by_cases hb:b∈fs
 ·exact u.slot b ob q n hb hx
 ·exact⟨ob.slots,u.keep b ob q n hb hx⟩
theorem Un.kept (k:∀ b u,h.get? b=some u->h'.get? b=some u):Un fs ex H H h h':=
 ⟨λb ob q _ _ _=>k b ob q,λb ob q _ _ _=>⟨ob.slots,k b ob q⟩,λ_ _ _ n _=>n,λb ob q _=>⟨ob,k b ob q⟩,λ_ _ q=>q,λ_ _ _ q=>q,λ_ ps q=>⟨#[],by rw[q];simp⟩⟩
theorem Un.refl:Un fs ex H H h h:=Un.kept λ_ _ q=>q
theorem Un.laid (k:∀ b u,h.get? b=some u->h'.get? b=some u) (hp:h.objs.size<=a) (hn:H a=none):Un fs ex H (upd H a o) h h' where
 keep:=λb u q _ _ _=>k b u q
 slot:=λb u q _ _ _=>⟨u.slots,k b u q⟩
 free:=λb u q n _=>by rw[aO (qat (qaP (qao q) hp))];exact n
 there:=λb u q _=>⟨u,k b u q⟩
 tups:=λb xs q=>by rw[aO (aP q hn)];exact q
 frzs:=λb u xs q=>by rw[aO (aP q hn)];exact q
 tbls:=λb ps q=>⟨#[],by rw[aO (aP q hn),q];simp⟩
theorem Un.write (mu:Mut (H x)) (he:e=x\/H e=some (.own x)) (k:∀ b u,b≠e->h.get? b=some u->h'.get? b=some u) (heo:∃ u,h'.get? e=some u):Un fs ex H (upd H x o) h h':=by
 have hx:∀ b,H b=none->b≠x:=λb n z=>by subst z;rw[n]at mu;exact mu
 have hb:∀ b,H b=none->b≠e:=λb n z=>by
  subst z
  rcases he with r|r
  ·exact hx b n r
  ·rw[n]at r;cases r
 have hm:∀ b u,H b=some u->¬ Mut (some u)->b≠x:=λb u q nm z=>by subst z;rw[q]at mu;exact nm mu
 refine⟨λb u q n _ _=>k b u (hb b n) q,λb u q n _ _=>⟨u.slots,k b u (hb b n) q⟩,λb u q n _=>by rw[aO (hx b n)];exact n,λb u q _=>?_,
  λb xs q=>by rw[aO (hm b _ q λz=>z)];exact q,λb u xs q=>by rw[aO (hm b _ q λz=>z)];exact q,λb ps q=>⟨#[],by rw[aO (hm b _ q λz=>z),q];simp⟩⟩
 by_cases hbe:b=e
 ·subst hbe;exact heo
 ·exact⟨u,k b u hbe q⟩
end
def trk (h:Heap) (H:Hp):List Addr:=(qam h.objs.size).filter λa=>(H a).isSome
def sq (h:Heap) (H:Hp):Heap:=PySem.W.hideAll h (trk h H)
theorem xA (h:Heap) (H:Hp):(sq h H).objs.size=h.objs.size:=PySem.W.hideAll_size _ _
theorem zM {h:Heap}{H:Hp}{b:Addr}{o:Obj} (e:h.get? b=some o) (n:H b=none):(sq h H).get? b=some o:=
 PySem.W.hideAll_get _ e λhm=>by
  have q:(H b).isSome=true:=(qb0.mp hm).2
  rw[n]at q;simp at q
theorem Bo {h:Heap}{H:Hp}{b:Addr}{o:Obj} (e:(sq h H).get? b=some o):h.get? b=some o/\H b=none:=by
 have e':h.get? b=some o:=PySem.W.of_hideAll (trk h H) e
 refine⟨e',?_⟩
 cases q:H b with
 |none=>rfl
 |some x=>
  have hm:b∈trk h H:=qb0.mpr ⟨qaK.mpr (qao e'),by simp[q]⟩
  have z:(sq h H).get? b=none:=PySem.W.hideAll_none (trk h H) hm
  rw[z]at e;cases e
structure Mod (K:qai) (mg:Str->Option Value) (base:Heap):Prop where
 kin:K.In base
 glob:base.Ns qaE mg
 blt:∃ mb,base.Ns qhY mb/\∀ x:Str,x≠"__name__"->mb x=qdB x
 nolimit:base.NoLimit
structure Cx where
 prog:qaX
 w:World
 K:qai
 mg:Str->Option Value
 base:Heap
 A:qbc
 N:List Str
 s₀:qaj
 H₀:Hp
 env:Env
 outer:List Env
 stack:List Env
 ex:List Addr
 fn:Str->Bool
 calm:Bool
 pn:List (Addr×Obj)
 xe:Value->qaj->Prop
def frs (l:List Env):List Addr:=l.filterMap (·.frame)
abbrev Cx.fs (X:Cx):List Addr:=frs X.outer
def Vis (sc:Scope) (x:Str):Prop:=sc.names.lookup x=some .local\/sc.names.lookup x=some .cell\/sc.names.lookup x=some .free
def Loc (sc:Scope) (x:Str):Prop:=sc.names.lookup x=some .local\/sc.names.lookup x=some .cell
def GM (env:Env) (h:Heap) (m:Str->Option Value) (x:Str) (u:Value):Prop:=
 (env.kindOf x=some .local/\m x=some u)\/((env.kindOf x=some .cell\/env.kindOf x=some .free)/\∃ c,env.cells.lookup x=some c/\h.IsCell c (some u))
structure Cx.Ok (X:Cx):Prop where
 mod:Mod X.K X.mg X.base
 kind:X.env.scope.kind=.function
 glob:X.env.globals=qaE
 blt:X.env.builtins=qhY
 above:X.s₀.heap.objs.size<=X.env.locals
 inj:∀ x y c,X.env.cells.lookup x=some c->X.env.cells.lookup y=some c->x=y
 has:∀ x,(X.env.kindOf x=some .cell\/X.env.kindOf x=some .free)->∃ c,X.env.cells.lookup x=some c
 cab:∀ x c,X.fn x=true->X.env.cells.lookup x=some c->X.s₀.heap.objs.size<=c
 hd:X.calm=true->X.A.handled=none
 frames:X.A.frames=some X.stack
 stk:X.stack=X.outer\/(X.stack=X.env::X.outer/\X.env.frame=some X.env.locals)
 exf:∀ b∈X.ex,b≠X.env.locals/\∀ x c,X.env.cells.lookup x=some c->c≠b
 bs:∀ b o,X.base.get? b=some o->X.s₀.heap.get? b=some o/\X.H₀ b=none
 bsz:X.base.objs.size<=X.s₀.heap.objs.size
 noex:∀ b o,X.base.get? b=some o->b∉X.ex
 exfs:∀ b∈X.ex,b∉X.fs
 funs:X.s₀.heap.FunFrames X.base X.outer
 frf:∀ b∈X.fs,X.H₀ b=none
structure Inv (X:Cx) (pins:List (Addr×Obj)) (σ:List (Option V)) (H:Hp) (s:qaj):Prop where
 ok:X.Ok
 os:s.os=X.s₀.os
 bare:qf1 s.gens
 base:Un X.fs X.ex X.H₀ H X.s₀.heap s.heap
 loc:∃ m,s.heap.Ns X.env.locals m/\∀ (i:Nat) (x:Str) (v:V),X.N[i]?=some x->σ[i]?=some (some v)->Vis X.env.scope x->∃ u,aV v u/\GM X.env s.heap m x u
 cell:∀ x c,X.env.cells.lookup x=some c->∃ v,s.heap.IsCell c v
 free:H X.env.locals=none
 freeC:∀ x c,X.env.cells.lookup x=some c->H c=none
 pin:∀ p∈X.pn++pins,s.heap.get? p.1=some p.2/\H p.1=none/\p.1≠X.env.locals/\p.1∉X.fs/\∀ v,p.2.data≠.cell v
 hok:HOk X.prog X.w H s.heap
 len:σ.length=X.N.length
section
variable {X:Cx}{pins:List (Addr×Obj)}{σ:List (Option V)}{H H':Hp}{s:qaj}{h':Heap}
theorem Cx.Ok.nofr (ok:X.Ok) {b:Addr}{o:Obj} (e:X.base.get? b=some o):b∉X.fs:=λhb=>by
 have:=(ok.funs.mem hb).1
 rw[e]at this;cases this
theorem Inv.bs (I:Inv X pins σ H s):∀ b o,X.base.get? b=some o->s.heap.get? b=some o/\H b=none:=λb o e=>
 ⟨I.base.keep b o (I.ok.bs b o e).1 (I.ok.bs b o e).2 (I.ok.nofr e) (I.ok.noex b o e),I.base.free b o (I.ok.bs b o e).1 (I.ok.bs b o e).2 (I.ok.noex b o e)⟩
theorem Inv.bk (I:Inv X pins σ H s):∀ b o,X.base.get? b=some o->s.heap.get? b=some o:=λb o e=>(I.bs b o e).1
theorem Inv.mod (I:Inv X pins σ H s):Mod X.K X.mg X.base:=I.ok.mod
theorem Inv.kIn (I:Inv X pins σ H s):X.K.In s.heap:=I.ok.mod.kin.keeps I.bk
theorem Inv.fr (I:Inv X pins σ H s):∃ m,Fr X.base X.env.locals s.heap m:=
 let ⟨m,hn,_⟩:=I.loc
 ⟨m,hn,I.bk,qaH I.ok.bsz I.ok.above⟩
theorem Inv.lt (I:Inv X pins σ H s):X.env.locals<s.heap.objs.size:=let ⟨_,hn,_⟩:=I.loc;hn.lt
theorem Inv.sz (I:Inv X pins σ H s):X.s₀.heap.objs.size<=s.heap.objs.size:=qaH I.ok.above (qdQ I.lt)
theorem Inv.nofs (I:Inv X pins σ H s) {a:Addr} (h:s.heap.objs.size<=a):a∉X.fs:=λhb=>by
 obtain⟨_,o,ho,_⟩:=I.ok.funs.mem hb
 exact absurd (qaP (qao ho) (qaH I.sz h)) (qck _)
theorem Inv.cne (I:Inv X pins σ H s):∀ x c,X.env.cells.lookup x=some c->c≠X.env.locals:=λx c e z=>by
 obtain⟨v,o,ho,hd⟩:=I.cell x c e
 obtain⟨m,⟨o',es,ep,ho',hd',_⟩,_⟩:=I.loc
 rw[z,ho']at ho;cases ho;rw[hd']at hd;cases hd
theorem Inv.funs (I:Inv X pins σ H s):s.heap.FunFrames X.base X.outer:=by
 have all:∀ (l:List Env),(∀ b∈frs l,b∈X.fs)->X.s₀.heap.FunFrames X.base l->s.heap.FunFrames X.base l:=by
  intro l
  induction l with
  |nil=>intro _ _;trivial
  |cons env r ih=>
   intro hs hl
   obtain⟨hk,⟨L,o,hf,hn,ho,hd⟩,hr⟩:=hl
   have hL:L∈X.fs:=hs L (by unfold frs;rw[qd2,hf];exact qak)
   obtain⟨sl,e⟩:=I.base.slot L o ho (I.ok.frf L hL) hL λz=>I.ok.exfs L z hL
   exact⟨hk,⟨L,_,hf,hn,e,hd⟩,ih (λb hb=>hs b (by unfold frs;rw[qd2,hf];exact qah _ hb)) hr⟩
 exact all X.outer (λ_ hb=>hb) I.ok.funs
theorem Inv.stack (I:Inv X pins σ H s):s.heap.FunFrames X.base X.stack:=by
 rcases I.ok.stk with e|⟨e,hf⟩
 ·rw[e];exact I.funs
 ·rw[e]
  obtain⟨m,hn,_⟩:=I.loc
  refine .cons (by rw[I.ok.kind];decide) hf hn ?_ I.funs
  exact Heap.get?_none_of_le (qaH I.ok.bsz I.ok.above)
theorem Inv.stkSub (I:Inv X pins σ H s):∀ b∈frs X.stack,b∈X.env.locals::X.fs:=λb hb=>by
 rcases I.ok.stk with e|⟨e,hf⟩
 ·rw[e]at hb;exact qah _ hb
 ·rw[e]at hb
  unfold frs at hb
  rw[qd2,hf]at hb
  exact hb
theorem Inv.stkFree (I:Inv X pins σ H s):∀ b∈frs X.stack,H b=none:=λb hb=>by
 rcases qaC.mp (I.stkSub b hb) with e|hb
 ·rw[e];exact I.free
 ·obtain⟨_,o,ho,_⟩:=I.ok.funs.mem hb
  exact I.base.free b o ho (I.ok.frf b hb) λz=>I.ok.exfs b z hb
theorem Inv.step {g':Array qjy}{t':Nat}{d':Drawn}{ch:List Addr} (I:Inv X pins σ H s)
  (hch:∀ b∈ch,(b∈X.ex\/X.s₀.heap.objs.size<=b)/\b≠X.env.locals/\(∀ x c,X.env.cells.lookup x=some c->c≠b)/\∀ p∈X.pn++pins,p.1≠b)
  (keep:∀ b o,b≠X.env.locals->b∉X.fs->b∉ch->s.heap.get? b=some o->H b=none->h'.get? b=some o)
  (slot:∀ b o,b≠X.env.locals->b∈X.fs->b∉ch->s.heap.get? b=some o->H b=none->∃ sl,h'.get? b=some { o with slots:=sl }) (free:∀ b o,b∉ch->s.heap.get? b=some o->H b=none->H' b=none)
  (there:∀ b o,b∉ch->s.heap.get? b=some o->∃ o',h'.get? b=some o')
  (tups:∀ b xs,H b=some (.tup xs)->H' b=some (.tup xs)) (frzs:∀ b o u,H b=some (.frz o u)->H' b=some (.frz o u)) (tbls:∀ b ps,H b=some (.tbl ps)->∃ more,H' b=some (.tbl (ps++more)))
  (ns:∀ m,s.heap.Ns X.env.locals m->h'.Ns X.env.locals m) (hok:HOk X.prog X.w H' h') (hg:qf1 g') :
  Inv X pins σ H' { s with heap:=h',gens:=g',drawn:=d',toks:=t' }:=by
 have neL:∀ b o,X.s₀.heap.get? b=some o->b≠X.env.locals:=λb o e=>qat (qaP (qao e) I.ok.above)
 have neC:∀ b o,X.s₀.heap.get? b=some o->b∉X.ex->b∉ch:=λb o e hx hb=>by
  rcases (hch b hb).1 with z|z
  ·exact hx z
  ·exact absurd (qaP (qao e) z) (qck _)
 have cellK:∀ x c,X.env.cells.lookup x=some c->∀ v,s.heap.IsCell c v->h'.IsCell c v:=λx c e v ⟨o,ho,hd⟩=>by
  have nch:c∉ch:=λz=>(hch c z).2.2.1 x c e rfl
  by_cases hc:c∈X.fs
  ·obtain⟨sl,q⟩:=slot c o (I.cne x c e) hc nch ho (I.freeC x c e)
   exact⟨_,q,hd⟩
  ·exact⟨o,keep c o (I.cne x c e) hc nch ho (I.freeC x c e),hd⟩
 refine⟨I.ok,I.os,hg,⟨λb o e n hb hx=>?_,λb o e n hb hx=>?_,λb o e n hx=>?_,λb o e hx=>?_,λb xs e=>tups b xs (I.base.tups b xs e),λb o xs e=>frzs b o xs (I.base.frzs b o xs e),λb ps e=>?_⟩,?_,λx c e=>?_,?_,λx c e=>?_,λp hp=>?_,hok,I.len⟩
 ·exact keep b o (neL b o e) hb (neC b o e hx) (I.base.keep b o e n hb hx) (I.base.free b o e n hx)
 ·obtain⟨sl,e1⟩:=I.base.slot b o e n hb hx
  obtain⟨sl',e2⟩:=slot b _ (neL b o e) hb (neC b o e hx) e1 (I.base.free b o e n hx)
  exact⟨sl',e2⟩
 ·obtain⟨o',e1⟩:=I.base.there b o e hx
  exact free b o' (neC b o e hx) e1 (I.base.free b o e n hx)
 ·obtain⟨o',e1⟩:=I.base.there b o e hx
  exact there b o' (neC b o e hx) e1
 ·obtain⟨m1,e1⟩:=I.base.tbls b ps e
  obtain⟨m2,e2⟩:=tbls b _ e1
  exact⟨m1++m2,by rw[e2,Array.append_assoc]⟩
 ·obtain⟨m,hn,hl⟩:=I.loc
  refine⟨m,ns m hn,λi x v e1 e2 e3=>?_⟩
  obtain⟨u,r,l⟩:=hl i x v e1 e2 e3
  refine⟨u,r,?_⟩
  rcases l with l|⟨k,c,e,z⟩
  ·exact .inl l
  ·exact .inr ⟨k,c,e,cellK x c e _ z⟩
 ·obtain⟨v,z⟩:=I.cell x c e
  exact⟨v,cellK x c e v z⟩
 ·obtain⟨m,⟨o,_,_,ho,_⟩,_⟩:=I.loc
  exact free _ o (λz=>(hch _ z).2.1 rfl) ho I.free
 ·obtain⟨v,o,ho,hd⟩:=I.cell x c e
  exact free c o (λz=>(hch c z).2.2.1 x c e rfl) ho (I.freeC x c e)
 ·obtain⟨e,n,ne,nf,d⟩:=I.pin p hp
  have nch:p.1∉ch:=λz=>(hch p.1 z).2.2.2 p hp rfl
  exact⟨keep p.1 p.2 ne nf nch e n,free p.1 p.2 nch e n,ne,nf,d⟩
theorem Inv.un {t':Nat} (I:Inv X pins σ H s) (u:Un X.fs [] H H' s.heap h') (hok:HOk X.prog X.w H' h'):Inv X pins σ H' { s with heap:=h',toks:=t' }:=by
 obtain⟨m,⟨o,es,ep,ho,r⟩,_⟩:=id I.loc
 obtain⟨sl,hL⟩:=u.any ho I.free (by simp)
 exact I.step (g':=s.gens) (d':=s.drawn) (ch:=[]) (λ_ z=>nomatch z) (λb o _ hb _ e n=>u.keep b o e n hb (by simp)) (λb o _ hb _ e n=>u.slot b o e n hb (by simp)) (λb o _ e n=>u.free b o e n (by simp)) (λb o _ e=>u.there b o e (by simp)) u.tups u.frzs u.tbls (λm' hm=>by
  obtain⟨o',es',ep',ho',r'⟩:=hm
  rw[ho]at ho';cases ho'
  exact⟨_,es',ep',hL,r'⟩) hok I.bare
theorem Inv.call {g':Array qjy}{t':Nat}{d':Drawn}{ch:List Addr} (I:Inv X pins σ H s) (u:Un (frs X.stack) ch H H' s.heap h') (hok:HOk X.prog X.w H' h') (hg:qf1 g')
  (hch:∀ b∈ch,(b∈X.ex\/X.s₀.heap.objs.size<=b)/\b≠X.env.locals/\(∀ x c,X.env.cells.lookup x=some c->c≠b)/\∀ p∈X.pn++pins,p.1≠b) :
  Inv X pins σ H' { s with heap:=h',gens:=g',drawn:=d',toks:=t' }:=by
 obtain⟨m,⟨o,es,ep,ho,r⟩,_⟩:=id I.loc
 obtain⟨sl,hL⟩:=u.any ho I.free λz=>(hch _ z).2.1 rfl
 exact I.step (ch:=ch) hch (λb o hL hb hc e n=>u.keep b o e n (λz=>(qaC.mp (I.stkSub b z)).elim hL hb) hc) (λb o _ _ hc e n=>u.any e n hc) (λb o hc e n=>u.free b o e n hc) (λb o hc e=>u.there b o e hc) u.tups u.frzs u.tbls (λm' hm=>by
  obtain⟨o',es',ep',ho',r'⟩:=hm
  rw[ho]at ho';cases ho'
  exact⟨_,es',ep',hL,r'⟩) hok hg
theorem Inv.turned {t':Nat}{it:Addr} (I:Inv X pins σ H s) (k:∀ b o,b≠it->s.heap.get? b=some o->h'.get? b=some o) (hn:H it=none) (hL:it≠X.env.locals)
  (h1:it∈X.ex\/X.s₀.heap.objs.size<=it) (h2:∀ x c,X.env.cells.lookup x=some c->c≠it) (h3:∀ p∈X.pn++pins,p.1≠it):Inv X pins σ H { s with heap:=h',toks:=t' }:=by
 have nit:∀ b u,H b=some u->b≠it:=λb u e z=>by rw[z,hn]at e;cases e
 refine I.step (g':=s.gens) (d':=s.drawn) (ch:=[it]) (λb hb=>?_) (λb o _ _ hc e _=>k b o (λz=>hc (by simp[z])) e) (λb o _ _ hc e _=>⟨o.slots,k b o (λz=>hc (by simp[z])) e⟩) (λ_ _ _ _ n=>n)
  (λb o hc e=>⟨o,k b o (λz=>hc (by simp[z])) e⟩) (λ_ _ e=>e) (λ_ _ _ e=>e) (λb ps e=>⟨#[],by rw[e];simp⟩) (λm hm=>?_) (λb u e=>?_) I.bare
 ·have e:b=it:=by simpa using hb
  subst e
  exact⟨h1,hL,h2,h3⟩
 ·obtain⟨o,es,ep,ho,r⟩:=hm
  exact⟨o,es,ep,k _ o (qcz hL) ho,r⟩
 ·refine (I.hok b u e).stay (λc v hc q=>k c v ?_ q) (λ_ q=>q) λ_ _ q=>q
  rcases hc with z|z
  ·rw[z];exact nit b u e
  ·exact nit c _ z
theorem Inv.tok (I:Inv X pins σ H s) (t:Nat):Inv X pins σ H { s with toks:=t }:=I.un (h':=s.heap) (t':=t) Un.refl I.hok
theorem Inv.kept {t':Nat} (I:Inv X pins σ H s) (k:∀ b u,s.heap.get? b=some u->h'.get? b=some u):Inv X pins σ H { s with heap:=h',toks:=t' }:=I.un (Un.kept k) (I.hok.kept k)
theorem Inv.laid {a:Addr}{o:HO}{t':Nat} (I:Inv X pins σ H s) (k:∀ b u,s.heap.get? b=some u->h'.get? b=some u) (hp:s.heap.objs.size<=a) (new:di X.prog X.w (upd H a o) h' a o) :
  Inv X pins σ (upd H a o) { s with heap:=h',toks:=t' }:=I.un (Un.laid k hp (I.hok.fresh hp)) (I.hok.laid k hp new)
theorem Inv.write {x e:Addr}{o:HO}{t':Nat} (I:Inv X pins σ H s) (mu:Mut (H x)) (he:e=x\/H e=some (.own x)) (k:∀ b u,b≠e->s.heap.get? b=some u->h'.get? b=some u) (heo:∃ u,h'.get? e=some u)
  (new:di X.prog X.w (upd H x o) h' x o):Inv X pins σ (upd H x o) { s with heap:=h',toks:=t' }:=I.un (Un.write mu he k heo) (I.hok.write mu he k heo new)
theorem Inv.weak {σ':List (Option V)} (I:Inv X pins σ H s) (hl:σ'.length=σ.length) (w:∀ (i:Nat) v,σ'[i]?=some (some v)->σ[i]?=some (some v)):Inv X pins σ' H s:=
 ⟨I.ok,I.os,I.bare,I.base,let ⟨m,hn,hl'⟩:=I.loc;⟨m,hn,λi x v e1 e2 e3=>hl' i x v e1 (w i v e2) e3⟩,I.cell,I.free,I.freeC,I.pin,I.hok,hl.trans I.len⟩
theorem Inv.pins_of {pins':List (Addr×Obj)} (I:Inv X pins σ H s) (h:∀ p∈pins',s.heap.get? p.1=some p.2/\H p.1=none/\p.1≠X.env.locals/\p.1∉X.fs/\∀ v,p.2.data≠.cell v):Inv X pins' σ H s:=
 ⟨I.ok,I.os,I.bare,I.base,I.loc,I.cell,I.free,I.freeC,λp hp=>(qbe.mp hp).elim (λz=>I.pin p (qcG _ z)) (h p),I.hok,I.len⟩
theorem uo {N:List Str} (hN:N.Nodup) {i j:Nat}{x:Str} (a:N[i]?=some x) (b:N[j]?=some x):i=j:=by
 obtain⟨h1,e1⟩:=qay.mp a
 obtain⟨h2,e2⟩:=qay.mp b
 exact (qga hN).mp (e1.trans e2.symm)
theorem xy {M:Model}{A:qbc}{E:Value->qaj->Prop}{i:Nat}{x:Str}{v:V}{u:Value}{Q:Unit->qaj->Prop} (I:Inv X pins σ H s) (hN:X.N.Nodup) (hi:X.N[i]?=some x) (hx:Loc X.env.scope x) (r:aV v u)
  (h:∀ s',Inv X pins (σ.set i (some v)) H s'->(∃ a,qbq a s.heap s'.heap/\(a=X.env.locals\/X.env.cells.lookup x=some a))->Q () s') (hf:X.fn x=true\/X.env.scope.names.lookup x=some .local:=by first|exact .inl rfl|exact .inr rfl|assumption):wpAny M A (storeName X.env x u) Q E s:=by
 obtain⟨m,hn,hl⟩:=id I.loc
 have hcls:(X.env.scope.kind==.class||(X.env.scope.kind==.module&&X.env.locals != X.env.globals))=false:=by rw[I.ok.kind];rfl
 have hiσ:i<σ.length:=by rw[I.len];exact (qay.mp hi).1
 have cne:=I.cne
 have tracked:∀ {a:Addr}{h':Heap},(∃ o,s.heap.get? a=some o/\H a=none)->qbq a s.heap h'->HOk X.prog X.w H h':=λ{a h'} ha hs b ob e=>by
  obtain⟨_,_,hfree⟩:=ha
  refine (I.hok b ob e).stay (λc w' hc q=>(hs.2 c ?_).trans q) (λ_ q=>q) λ_ _ q=>q
  rintro rfl
  rcases hc with rfl|hc
  ·rw[hfree]at e;cases e
  ·rw[hfree]at hc;cases hc
 rcases hx with hk|hk
 ·refine wpAny_storeName_local hk hn (λh' hn' hs=>?_) hcls
  obtain⟨oL,_,_,hoL,_⟩:=id hn
  refine h _ ⟨I.ok,I.os,I.bare,⟨λb o e n hb hx=>?_,λb o e n hb hx=>?_,I.base.free,λb o e hx=>?_,I.base.tups,I.base.frzs,I.base.tbls⟩,⟨_,hn',λj y v' e1 e2 e3=>?_⟩,λy c e=>?_,I.free,I.freeC,λp hp=>?_,tracked ⟨oL,hoL,I.free⟩ hs,by simpa using I.len⟩ ⟨_,hs,.inl rfl⟩
  ·exact (hs.2 b (qat (qaP (qao e) I.ok.above))).trans (I.base.keep b o e n hb hx)
  ·obtain⟨sl,e1⟩:=I.base.slot b o e n hb hx
   exact⟨sl,(hs.2 b (qat (qaP (qao e) I.ok.above))).trans e1⟩
  ·obtain⟨o',e1⟩:=I.base.there b o e hx
   exact⟨o',(hs.2 b (qat (qaP (qao e) I.ok.above))).trans e1⟩
  ·by_cases hj:j=i
   ·subst hj
    rw[hi]at e1;cases e1
    rw[qcW hiσ]at e2
    cases e2
    exact⟨u,r,.inl ⟨hk,by simp⟩⟩
   ·rw[qch (qcz hj)]at e2
    obtain⟨u',r',q⟩:=hl j y v' e1 e2 e3
    refine⟨u',r',?_⟩
    rcases q with⟨k,e⟩|⟨k,c,e,z⟩
    ·refine .inl ⟨k,?_⟩
     have:y≠x:=λe=>hj (uo hN e1 (e ▸ hi))
     simp[this,e]
    ·exact .inr ⟨k,c,e,z.sameBut hs (cne y c e)⟩
  ·obtain⟨w',z⟩:=I.cell y c e
   exact⟨w',z.sameBut hs (cne y c e)⟩
  ·obtain⟨e,n,ne,nf,d⟩:=I.pin p hp
   exact⟨(hs.2 p.1 ne).trans e,n,ne,nf,d⟩
 ·have hfn:X.fn x=true:=by
   rcases hf with z|z
   ·exact z
   ·rw[z]at hk;cases hk
  obtain⟨c,hc⟩:=I.ok.has x (.inl hk)
  obtain⟨w',z⟩:=I.cell x c hc
  refine wpAny_storeName_cell I.ok.kind hk hc z (λh' hc' hs=>?_)
  obtain⟨oc,hoc,hocd⟩:=id z
  refine h { s with heap:=h' } ⟨I.ok,I.os,I.bare,⟨λb o e n hb hx=>?_,λb o e n hb hx=>?_,I.base.free,λb o e hx=>?_,I.base.tups,I.base.frzs,I.base.tbls⟩,⟨m,hn.sameBut hs (qcz (cne x c hc)),λj y v' e1 e2 e3=>?_⟩,λy c' e=>?_,I.free,I.freeC,λp hp=>?_,tracked ⟨oc,hoc,I.freeC x c hc⟩ hs,by simpa using I.len⟩ ⟨c,hs,.inr hc⟩
  ·exact (hs.2 b (qat (qaP (qao e) (I.ok.cab x c hfn hc)))).trans (I.base.keep b o e n hb hx)
  ·obtain⟨sl,e1⟩:=I.base.slot b o e n hb hx
   exact⟨sl,(hs.2 b (qat (qaP (qao e) (I.ok.cab x c hfn hc)))).trans e1⟩
  ·obtain⟨o',e1⟩:=I.base.there b o e hx
   exact⟨o',(hs.2 b (qat (qaP (qao e) (I.ok.cab x c hfn hc)))).trans e1⟩
  ·by_cases hj:j=i
   ·subst hj
    rw[hi]at e1;cases e1
    rw[qcW hiσ]at e2
    cases e2
    exact⟨u,r,.inr ⟨.inl hk,c,hc,hc'⟩⟩
   ·rw[qch (qcz hj)]at e2
    obtain⟨u',r',q⟩:=hl j y v' e1 e2 e3
    refine⟨u',r',?_⟩
    rcases q with q|⟨k,c',e,z'⟩
    ·exact .inl q
    ·refine .inr ⟨k,c',e,z'.sameBut hs ?_⟩
     rintro rfl
     exact hj (uo hN e1 (I.ok.inj _ _ _ e hc ▸ hi))
  ·by_cases hcc:c'=c
   ·subst hcc;exact⟨_,hc'⟩
   ·obtain⟨w2,z2⟩:=I.cell y c' e
    exact⟨w2,z2.sameBut hs hcc⟩
  ·obtain⟨e,n,ne,nf,d⟩:=I.pin p hp
   refine⟨(hs.2 p.1 ?_).trans e,n,ne,nf,d⟩
   intro q
   rw[q,hoc]at e
   have q':oc=p.2:=qaR e
   exact d w' (by rw[<-q'];exact hocd)
theorem jv {M:Model}{A:qbc}{E:Value->qaj->Prop}{i:Nat}{x:Str}{v:V}{u:Value}{Q:Unit->qaj->Prop} (I:Inv X pins σ H s) (hN:X.N.Nodup) (hi:X.N[i]?=some x) (hx:Loc X.env.scope x) (r:aV v u)
  (h:∀ s',Inv X pins (σ.set i (some v)) H s'->Q () s') (hf:X.fn x=true\/X.env.scope.names.lookup x=some .local:=by first|exact .inl rfl|exact .inr rfl|assumption):wpAny M A (storeName X.env x u) Q E s:=
 xy I hN hi hx r (λs' I' _=>h s' I') hf
theorem Inv.call' {s':qaj}{ch:List Addr} (I:Inv X pins σ H s) (ho:s'.os=s.os) (u:Un (frs X.stack) ch H H' s.heap s'.heap) (hok:HOk X.prog X.w H' s'.heap) (hg:qf1 s'.gens)
  (hch:∀ b∈ch,(b∈X.ex\/X.s₀.heap.objs.size<=b)/\b≠X.env.locals/\(∀ x c,X.env.cells.lookup x=some c->c≠b)/\∀ p∈X.pn++pins,p.1≠b):Inv X pins σ H' s':=by
 obtain⟨h',g',d',t',o'⟩:=s'
 have e:o'=s.os:=ho
 subst e
 exact I.call (g':=g') (t':=t') (d':=d') u hok hg hch
end
abbrev XK:=Value->Option Addr->Hp->Prop
abbrev St:=List (Option V)
abbrev VK:=V->Hp->Prop
abbrev TE:=St->Hp->VK->Prop
abbrev TT:=St->Hp->(Bool->Hp->Prop)->Prop
abbrev TA:=St->Hp->(List V->Hp->Prop)->Prop
structure tT where
 nx:St->Hp->Prop
 rt:VK
 bk:St->Hp->Prop:=λ_ _=>False
 ct:St->Hp->Prop:=λ_ _=>False
abbrev TS:=tT->St->Hp->Prop
def EP (X:Cx) (pins:List (Addr×Obj)) (σ:St) (Q:VK) (u:Value) (s':qaj):Prop:=∃ v H',Inv X pins σ H' s'/\aV v u/\Q v H'
def TP (X:Cx) (pins:List (Addr×Obj)) (σ:St) (Q:Bool->Hp->Prop) (b:Bool) (s':qaj):Prop:=∃ H',Inv X pins σ H' s'/\Q b H'
def AP (X:Cx) (pins:List (Addr×Obj)) (σ:St) (Q:List V->Hp->Prop) (us:List Value) (s':qaj):Prop:=∃ vs H',Inv X pins σ H' s'/\aQ vs us/\Q vs H'
def SP (X:Cx) (pins:List (Addr×Obj)) (D:tT) (f:Flow) (s':qaj):Prop:=
 match f with
 |.next=>∃ σ' H',Inv X pins σ' H' s'/\D.nx σ' H'
 |.brk=>∃ σ' H',Inv X pins σ' H' s'/\D.bk σ' H'
 |.cont=>∃ σ' H',Inv X pins σ' H' s'/\D.ct σ' H'
 |.ret u=>∃ v σ' H',Inv X pins σ' H' s'/\aV v u/\D.rt v H'
def PE (X:Cx) (e:Expr) (t:TE):Prop:=
 ∀ (pins:List (Addr×Obj)) (s:qaj) (σ:St) (H:Hp) (Q:VK),Inv X pins σ H s->t σ H Q->wpAny (model X.prog X.w) X.A (eval e X.env) (EP X pins σ Q) X.xe s
def PT (X:Cx) (e:Expr) (t:TT):Prop:=
 ∀ (pins:List (Addr×Obj)) (s:qaj) (σ:St) (H:Hp) (Q:Bool->Hp->Prop),Inv X pins σ H s->t σ H Q->wpAny (model X.prog X.w) X.A (isTrue e X.env (eval e X.env)) (TP X pins σ Q) X.xe s
def PW (X:Cx) (e:Expr) (t:TT):Prop:=
 ∀ (whole:Sem Value) (pins:List (Addr×Obj)) (s:qaj) (σ:St) (H:Hp) (Q:Bool->Hp->Prop),Inv X pins σ H s->t σ H Q->wpAny (model X.prog X.w) X.A (isTrue e X.env whole) (TP X pins σ Q) X.xe s
theorem PW.pt {X:Cx}{e:Expr}{t:TT} (h:PW X e t):PT X e t:=h _
def PA (X:Cx) (es:List Expr) (t:TA):Prop:=
 ∀ (pos:Pos) (pins:List (Addr×Obj)) (s:qaj) (σ:St) (H:Hp) (Q:List V->Hp->Prop),Inv X pins σ H s->t σ H Q->wpAny (model X.prog X.w) X.A (qic (qea pos (qbB es X.env))) (AP X pins σ Q) X.xe s
def PS (X:Cx) (st:Stmt) (t:TS):Prop:=
 ∀ (pins:List (Addr×Obj)) (s:qaj) (σ:St) (H:Hp) (D:tT),Inv X pins σ H s->t D σ H->wpAny (model X.prog X.w) X.A (exec st X.env) (SP X pins D) X.xe s
def PSs (X:Cx) (st:List Stmt) (t:TS):Prop:=
 ∀ (pins:List (Addr×Obj)) (s:qaj) (σ:St) (H:Hp) (D:tT),Inv X pins σ H s->t D σ H->wpAny (model X.prog X.w) X.A (execs st X.env) (SP X pins D) X.xe s
theorem thn {α:Type}{t:Sem α}{Q Q':α->qaj->Prop}{M:Model}{A:qbc}{E:Value->qaj->Prop}{s:qaj} (h:wpAny M A t Q E s) (hQ:∀ a s,Q a s->Q' a s):wpAny M A t Q' E s:=qcu h hQ λ_ _ x=>x
section
variable {X:Cx}
theorem bin {a b:Expr}{ta tb:TE} (ha:PE X a ta) (hb:PE X b tb) {pins:List (Addr×Obj)}{s:qaj}{σ:St}{H:Hp}{R:V->V->Hp->Prop} (I:Inv X pins σ H s) (h:ta σ H λx H1=>tb σ H1 λy H2=>R x y H2)
  {α:Type}{Q:α->qaj->Prop}{f:Value->Value->Sem α}
  (hf:∀ v u s2 x y H2,Inv X pins σ H2 s2->aV x v->aV y u->R x y H2->wpAny (model X.prog X.w) X.A (f v u) Q X.xe s2) :
  wpAny (model X.prog X.w) X.A (eval a X.env) (λv s₁=>wpAny (model X.prog X.w) X.A (eval b X.env) (λu s₂=>wpAny (model X.prog X.w) X.A (f v u) Q X.xe s₂) X.xe s₁) X.xe s:=by
 refine thn (ha pins s σ H _ I h) λv s1 ⟨x,H1,I1,r1,q1⟩=>?_
 refine thn (hb pins s1 σ H1 _ I1 q1) λu s2 ⟨y,H2,I2,r2,q2⟩=>?_
 exact hf v u s2 x y H2 I2 r1 r2 q2
def Db (i:Nat):TE:=λσ H Q=>∃ v,σ[i]?=some (some v)/\Q v H
def tC (v:V):TE:=λ_ H Q=>Q v H
theorem Ee {i:Nat}{x:Str}{pos:Pos} (hN:X.N[i]?=some x) (hv:Vis X.env.scope x) (hd:(x==("__debug__" : Str))=false:=by decide) (hcd:(x==("__classdict__" : Str))=false:=by decide):PE X (.Name x pos) (Db i):=by
 intro pins s σ H Q I h
 obtain⟨v,e,h⟩:=h
 obtain⟨m,hn,hl⟩:=I.loc
 obtain⟨u,r,l⟩:=hl i x v hN e hv
 have fin:EP X pins σ Q u s:=⟨v,H,I,r,h⟩
 rcases l with⟨hk,hm⟩|⟨hk,c,hc,hcell⟩
 ·exact qjF (wpAny_loadName_local I.ok.kind hk hn hm fin) hd
 ·rcases hk with hk|hk
  ·exact qjF (wpAny_loadName_cell I.ok.kind hk hc hcell fin) hd
  ·exact qjF (wpAny_loadName_free I.ok.kind hk hc hcell fin hcd) hd
theorem D3 {i j pos}:PE X (.Constant (.int i) j pos) (tC (.int i)):=λ_ _ _ H _ I h=>wpAny_Constant_int ⟨.int i,H,I.tok _,⟨_,rfl⟩,h⟩
theorem ES {b j pos}:PE X (.Constant (.bool b) j pos) (tC (.bl b)):=λ_ _ _ H _ I h=>Constant_bool ⟨.bl b,H,I,rfl,h⟩
theorem DW {j pos}:PE X (.Constant .none j pos) (tC .non):=λ_ _ _ H _ I h=>Constant_none ⟨.non,H,I,rfl,h⟩
theorem Eo {x j pos}:PE X (.Constant (.str x) j pos) (tC (.str x)):=λ_ _ _ H _ I h=>Calls.Constant_str ⟨.str x,H,I.tok _,⟨_,rfl⟩,h⟩
def Gl (X:Cx) (x:Str):Prop:=X.env.kindOf x=some .globalImplicit
theorem B1 {E:Value->qaj->Prop}{pins:List (Addr×Obj)}{s:qaj}{σ:St}{H:Hp}{x:Str}{u:Value}{pos:Pos}{Q:Value->qaj->Prop} (I:Inv X pins σ H s) (hg:Gl X x) (hm:X.mg x=some u) (h:Q u s)
  (hd:(x==("__debug__" : Str))=false:=by decide):wpAny (model X.prog X.w) X.A (eval (.Name x pos) X.env) Q E s:=
 qgu I.ok.kind hg (Calls.loadGlobal_global (by rw[I.ok.glob];exact I.mod.glob.keeps I.bk) hm h) hd
theorem je {E:Value->qaj->Prop}{pins:List (Addr×Obj)}{s:qaj}{σ:St}{H:Hp}{x:Str}{u:Value}{pos:Pos}{Q:Value->qaj->Prop} (I:Inv X pins σ H s) (hg:Gl X x) (hm:X.mg x=none) (hv:qdB x=some u) (h:Q u s)
  (hn:x≠"__name__":=by decide) (hd:(x==("__debug__" : Str))=false:=by decide):wpAny (model X.prog X.w) X.A (eval (.Name x pos) X.env) Q E s:=by
 obtain⟨mb,h1,h2⟩:=I.mod.blt
 exact qgu I.ok.kind hg (Calls.loadGlobal_builtin (by rw[I.ok.glob];exact I.mod.glob.keeps I.bk) hm (by rw[I.ok.blt];exact h1.keeps I.bk) ((h2 x hn).trans hv) h) hd
variable {a b:Expr}{ta tb:TE}{pos:Pos}
variable {tA tB':TT}{rest:List Expr}
def Gq (t u:TT):TT:=λσ H Q=>t σ H λc H1=>if c=true then u σ H1 Q else Q false H1
theorem AV (ha:PT X a tA):PW X (.BoolOp .And [a] pos) tA:=by
 intro wh pins s σ H Q I h
 refine isTrue_and (thn (ha pins s σ H Q I h) λc s1 e=>?_)
 cases c with
 |true=>exact isTrue_and_nil e
 |false=>exact e
theorem Aw (ha:PT X a tA) (hb:PW X (.BoolOp .And (b::rest) pos) tB'):PW X (.BoolOp .And (a::b::rest) pos) (Gq tA tB'):=by
 intro wh pins s σ H Q I h
 refine isTrue_and (thn (ha pins s σ H _ I h) λc s1 ⟨H1,I1,q1⟩=>?_)
 cases c with
 |true=>exact hb wh pins s1 σ H1 Q I1 q1
 |false=>exact⟨H1,I1,q1⟩
def tIf (t:TT) (ta tb:TE):TE:=λσ H Q=>t σ H λc H1=>if c=true then ta σ H1 Q else tb σ H1 Q
theorem tR {c:Expr} (hc:PT X c tA) (ha:PE X a ta) (hb:PE X b tb):PE X (.IfExp c a b pos) (tIf tA ta tb):=by
 intro pins s σ H Q I h
 refine wpAny_IfExp (thn (hc pins s σ H _ I h) λd s1 ⟨H1,I1,q1⟩=>?_)
 cases d with
 |true=>exact ha pins s1 σ H1 Q I1 q1
 |false=>exact hb pins s1 σ H1 Q I1 q1
end
def SqL (K:qai) (H:Hp) (a:Addr) (xs:List V):Prop:=
 Rd H a (.lst xs)\/
  ∃ (o:Obj) (its:Array Value) (n:Nat),K.lookup a=some o/\o.cls=.type "list"/\o.dict=none/\o.data=.seq its n/\its.size<=qaS/\aQ xs its.toList
def SqT (K:qai) (H:Hp) (a:Addr) (xs:List V):Prop:=
 H a=some (.tup xs)\/
  ∃ (o:Obj) (its:Array Value) (n:Nat),K.lookup a=some o/\o.cls=.type "tuple"/\o.data=.seq its n/\its.size<=qaS/\aQ xs its.toList/\o.dict=none
def GH:Value->Option V
 |.none=>some .non
 |.bool b=>some (.bl b)
 |.int i _=>some (.int i)
 |.str x _=>some (.str x)
 |.bytes b _=>some (.byt b)
 |.float b _=>some (.flt b)
 |.ref a=>some (.ref a)
 |.type n=>some (.ty n)
 |_=>none
theorem aV.abs {x:V}{u:Value} (r:aV x u):GH u=some x:=by
 cases x with
 |non=>cases r;rfl
 |bl _=>cases r;rfl
 |int _=>obtain⟨t,rfl⟩:=r;rfl
 |str _=>obtain⟨t,rfl⟩:=r;rfl
 |byt _=>obtain⟨t,rfl⟩:=r;rfl
 |flt _=>obtain⟨t,rfl⟩:=r;rfl
 |ref _=>cases r;rfl
 |ty _=>cases r;rfl
theorem aV.inj {x y:V}{u:Value} (r:aV x u) (q:aV y u):x=y:=qaR (r.abs.symm.trans q.abs)
theorem aQ.inj:∀ {xs ys:List V}{us:List Value},aQ xs us->aQ ys us->xs=ys
 |_,_,_,.nil,.nil=>rfl
 |_,_,_,.cons r t,.cons r' t'=>by rw[r.inj r',aQ.inj t t']
section
variable {X:Cx}{pins:List (Addr×Obj)}{σ:St}{H:Hp}{s:qaj}{a:Addr}{xs ys:List V}
theorem SqL.of {K:qai} (h:H a=some (.lst xs)):SqL K H a xs:=.inl (.inl h)
theorem SqT.of {K:qai} (h:H a=some (.tup xs)):SqT K H a xs:=.inl h
theorem Inv.list (I:Inv X pins σ H s) (h:SqL X.K H a xs):∃ its:List Value,aQ xs its/\PlainL s.heap a its.toArray/\xs.length<=qaS:=by
 rcases h with h|⟨o,its,n,hk,hc,hd,hs,hz,r⟩
 ·obtain⟨z,its,n,r,e⟩:=h.ok I.hok
  exact⟨its,r,⟨_,n,e,rfl,rfl,rfl⟩,z⟩
 ·refine⟨its.toList,r,⟨o,n,I.kIn a o hk,hc,hd,by simpa using hs⟩,?_⟩
  have e:=r.length
  simp only[qa5]at e
  lia
theorem Inv.tuple (I:Inv X pins σ H s) (h:SqT X.K H a xs):∃ its:List Value,aQ xs its/\IsTup s.heap a its.toArray/\xs.length<=qaS:=by
 rcases h with h|⟨o,its,n,hk,hc,hs,hz,r,_⟩
 ·obtain⟨z,its,r,p⟩:=(Rd.of h).ok I.hok
  exact⟨its,r,p.tup,z⟩
 ·refine⟨its.toList,r,⟨o,I.kIn a o hk,hc,n,by simpa using hs⟩,?_⟩
  have e:=r.length
  simp only[qa5]at e
  lia
theorem Inv.tuple1 (I:Inv X pins σ H s) (h:SqT X.K H a xs):∃ o:Obj,s.heap.get? a=some o/\o.cls=.type "tuple"/\o.dict=none:=by
 rcases h with h|⟨o,its,n,hk,hc,hs,hz,r,hd⟩
 ·obtain⟨z,its,r,o,e,c,_,hd⟩:=(Rd.of h).ok I.hok
  exact⟨o,e,c,hd⟩
 ·exact⟨o,I.kIn a o hk,hc,hd⟩
theorem Inv.list_inj (I:Inv X pins σ H s) (h:SqL X.K H a xs) (h':SqL X.K H a ys):xs=ys:=by
 obtain⟨its,r,⟨o,n,e,_,_,d⟩,_⟩:=I.list h
 obtain⟨its',r',⟨o',n',e',_,_,d'⟩,_⟩:=I.list h'
 rw[e]at e';cases e'
 rw[d]at d'
 injection d' with d1 _
 have:its=its':=by simpa using congrArg qhw d1
 subst this
 exact r.inj r'
theorem Inv.tuple_inj (I:Inv X pins σ H s) (h:SqT X.K H a xs) (h':SqT X.K H a ys):xs=ys:=by
 obtain⟨its,r,⟨o,e,_,n,d⟩,_⟩:=I.tuple h
 obtain⟨its',r',⟨o',e',_,n',d'⟩,_⟩:=I.tuple h'
 rw[e]at e';cases e'
 rw[d]at d'
 injection d' with d1 _
 have:its=its':=by simpa using congrArg qhw d1
 subst this
 exact r.inj r'
end
abbrev Cx.wish (X:Cx) (E:Value->qaj->Prop):Cx:={ X with xe:=E }
abbrev Cx.nox (X:Cx):Cx:=X.wish λ_ _=>False
theorem Cx.Ok.wish {X:Cx} (ok:X.Ok) (E:Value->qaj->Prop):(X.wish E).Ok:=
 ⟨ok.mod,ok.kind,ok.glob,ok.blt,ok.above,ok.inj,ok.has,ok.cab,ok.hd,ok.frames,ok.stk,ok.exf,ok.bs,ok.bsz,ok.noex,ok.exfs,ok.funs,ok.frf⟩
theorem Cx.Ok.unwish {X:Cx}{E:Value->qaj->Prop} (ok:(X.wish E).Ok):X.Ok:=
 ⟨ok.mod,ok.kind,ok.glob,ok.blt,ok.above,ok.inj,ok.has,ok.cab,ok.hd,ok.frames,ok.stk,ok.exf,ok.bs,ok.bsz,ok.noex,ok.exfs,ok.funs,ok.frf⟩
section
variable {X:Cx}{pins:List (Addr×Obj)}{σ:St}{H:Hp}{s:qaj}{E:Value->qaj->Prop}
theorem Inv.wish (I:Inv X pins σ H s) (E:Value->qaj->Prop):Inv (X.wish E) pins σ H s:=⟨I.ok.wish E,I.os,I.bare,I.base,I.loc,I.cell,I.free,I.freeC,I.pin,I.hok,I.len⟩
theorem Inv.unwish (I:Inv (X.wish E) pins σ H s):Inv X pins σ H s:=⟨I.ok.unwish,I.os,I.bare,I.base,I.loc,I.cell,I.free,I.freeC,I.pin,I.hok,I.len⟩
theorem SP.unwish {D:tT}{f:Flow}{s':qaj} (h:SP (X.wish E) pins D f s'):SP X pins D f s':=by
 cases f with
 |next=>obtain⟨σ',H',I,q⟩:=h;exact⟨σ',H',I.unwish,q⟩
 |brk=>obtain⟨σ',H',I,q⟩:=h;exact⟨σ',H',I.unwish,q⟩
 |cont=>obtain⟨σ',H',I,q⟩:=h;exact⟨σ',H',I.unwish,q⟩
 |ret u=>obtain⟨v,σ',H',I,r,q⟩:=h;exact⟨v,σ',H',I.unwish,r,q⟩
theorem PSs.nox {st:List Stmt}{t:TS} (h:PSs X.nox st t):PSs X st t:=λpins s σ H D I hw=>
 qcu (h pins s σ H D (I.wish _) hw) (λ_ _ q=>q.unwish) λ_ _ z=>qdl z
end
section
variable {X:Cx}{st:Stmt}{rest:List Stmt}{t u:TS}{e:Expr}{te:TE}{pos:Pos}
def Fd:TS:=λD σ H=>D.nx σ H
def GJ (t u:TS):TS:=λD σ H=>t { D with nx:=u D } σ H
theorem BE:PSs X [] Fd:=λ_ _ σ H _ I h=>qfw ⟨σ,H,I,h⟩
theorem kN (h1:PS X st t) (h2:PSs X rest u):PSs X (st::rest) (GJ t u):=by
 intro pins s σ H D I h
 refine qj1 (thn (h1 pins s σ H { D with nx:=u D } I h) λf s1 q=>?_)
 cases f with
 |next=>
  obtain⟨σ',H',I',q⟩:=q
  exact h2 pins s1 σ' H' D I' q
 |ret v=>exact q
 |brk=>exact q
 |cont=>exact q
theorem Cd (h1:PS X st t):PSs X [st] t:=by
 intro pins s σ H D I h
 refine qj1 (thn (h1 pins s σ H D I h) λf s1 q=>?_)
 cases f with
 |next=>exact qfw q
 |ret v=>exact q
 |brk=>exact q
 |cont=>exact q
theorem Inv.quiet {pins:List (Addr×Obj)}{σ:St}{H:Hp}{s:qaj} (I:Inv X pins σ H s):interactive X.env=false:=by simp[interactive,I.ok.kind]
def E3 (te:TE):TS:=λD σ H=>te σ H λ_ H1=>D.nx σ H1
theorem Bk (he:PE X e te) (hs:qeO e none pos.line X.env=pure false:=by rfl):PS X (.Expr e pos) (E3 te):=by
 intro pins s σ H D I h
 exact wpAny_Expr_any (thn (he pins s σ H _ I h) λv s1 ⟨x,H1,I1,r1,q1⟩=>⟨σ,H1,I1,q1⟩) I.quiet hs
def Gx (te:TE):TS:=λD σ H=>te σ H D.rt
theorem Dq (he:PE X e te):PS X (.Return (some e) pos) (Gx te):=by
 intro pins s σ H D I h
 exact wpAny_Return_some (thn (he pins s σ H _ I h) λv s1 ⟨x,H1,I1,r1,q1⟩=>⟨x,σ,H1,I1,r1,q1⟩)
def GL (c:TT) (t u:TS):TS:=λD σ H=>c σ H λb H1=>if b=true then t D σ H1 else u D σ H1
theorem CS {c:Expr}{a b:List Stmt}{tc:TT} (hc:PT X c tc) (ha:PSs X a t) (hb:PSs X b u):PS X (.If c a b pos) (GL tc t u):=by
 intro pins s σ H D I h
 refine wpAny_If (thn (hc pins s σ H _ I h) λd s1 ⟨H1,I1,q1⟩=>?_)
 cases d with
 |true=>exact ha pins s1 σ H1 D I1 q1
 |false=>exact hb pins s1 σ H1 D I1 q1
def Eb:TS:=λ_ _ _=>False
theorem iu {sts:List Stmt}:PSs X sts Eb:=λ_ _ _ _ _ _ h=>h.elim
end
abbrev TG:=V->St->Hp->(St->Hp->Prop)->Prop
abbrev TGs:=List V->St->Hp->(St->Hp->Prop)->Prop
def PG (X:Cx) (target:Expr) (t:TG):Prop:=
 ∀ (pins:List (Addr×Obj)) (s:qaj) (σ:St) (H:Hp) (v:V) (u:Value) (Q:St->Hp->Prop),Inv X pins σ H s->aV v u->t v σ H Q->
  wpAny (model X.prog X.w) X.A (qfS target X.env u) (λ_ s'=>∃ σ' H',Inv X pins σ' H' s'/\Q σ' H') X.xe s
def PGs (X:Cx) (ts:List Expr) (t:TGs):Prop:=
 ∀ (pins:List (Addr×Obj)) (s:qaj) (σ:St) (H:Hp) (vs:List V) (us:List Value) (Q:St->Hp->Prop),Inv X pins σ H s->aQ vs us->t vs σ H Q->
  wpAny (model X.prog X.w) X.A (qii ((qbZ ts X.env).map (·.2)) us) (λ_ s'=>∃ σ' H',Inv X pins σ' H' s'/\Q σ' H') X.xe s
abbrev Dx:=V->V->V->Hp->(Hp->Prop)->Prop
def Fx (X:Cx) (t:Dx):Prop:=
 ∀ (pins:List (Addr×Obj)) (s:qaj) (σ:St) (H:Hp) (o i v:V) (ov iv u:Value) (Q:Hp->Prop),Inv X pins σ H s->aV o ov->aV i iv->aV v u->t o i v H Q->
  wpAny (model X.prog X.w) X.A (qkZ ov iv u) (λ_ s'=>∃ H',Inv X pins σ H' s'/\Q H') X.xe s
section
variable {X:Cx}{pos:Pos}
def sQ (i:Nat):TG:=λv σ H Q=>Q (σ.set i (some v)) H
theorem ar {i:Nat}{x:Str} (hN:X.N.Nodup) (hi:X.N[i]?=some x) (hx:Loc X.env.scope x) (hf:X.fn x=true\/X.env.scope.names.lookup x=some .local:=by first|exact .inl rfl|exact .inr rfl|assumption):PG X (.Name x pos) (sQ i):=by
 intro pins s σ H v u Q I r h
 exact qjE (jv I hN hi hx r (λs' I'=>⟨_,H,I',h⟩) hf)
def Gp:TGs:=λvs σ H Q=>vs=[]/\Q σ H
def ER (t:TG) (u:TGs):TGs:=λvs σ H Q=>∃ v r,vs=v::r/\t v σ H λσ' H'=>u r σ' H' Q
theorem BN:PGs X [] Gp:=by
 intro pins s σ H vs us Q I r h
 obtain⟨e,h⟩:=h
 subst e
 cases r
 exact qjJ ⟨σ,H,I,h⟩
theorem yG {e:Expr}{es:List Expr}{t:TG}{u:TGs} (h1:PG X e t) (h2:PGs X es u)
  (hs:(qbZ (e::es) X.env).map (·.2)=qfS e X.env::(qbZ es X.env).map (·.2):=by rfl):PGs X (e::es) (ER t u):=by
 intro pins s σ H vs us Q I r h
 obtain⟨v,vr,e1,h⟩:=h
 subst e1
 cases r with
 |cons r rr=>
  rw[hs]
  refine qgm (thn (h1 pins s σ H _ _ _ I r h) λ_ s1 ⟨σ1,H1,I1,q1⟩=>?_)
  exact h2 pins s1 σ1 H1 _ _ Q I1 rr q1
def Gw (K:qai) (n:Nat) (t:TGs):TG:=λv σ H Q=>∃ a xs,v=.ref a/\SqT K H a xs/\xs.length=n/\t xs σ H Q
theorem Df {es:List Expr}{k:Nat}{t:TGs}{n:Nat} (hc:X.calm=true) (h:PGs X es t)
  (hn:(qbZ es X.env).length=n:=by rfl) (hst:(qbZ es X.env).findIdx? (·.1)=none:=by rfl):PG X (.Tuple es k pos) (Gw X.K n t):=by
 intro pins s σ H v u Q I r hw
 obtain⟨a,xs,e1,hq,hl,hw⟩:=hw
 subst e1
 cases r
 obtain⟨its,rv,ht,hz⟩:=I.tuple hq
 refine assign_Tuple_tuple (I.ok.hd hc) ht (by simp[hn,<-hl,rv.length]) hst λh' hx=>?_
 have I1:Inv X pins σ H { s with heap:=h' }:=I.kept (t':=s.toks) λb o e=>hx b o (qat (qao e)) e
 exact h pins _ σ H xs _ Q I1 (by simpa using rv) hw
def Go (to ti:TE) (t:Dx):TG:=λv σ H Q=>to σ H λo H1=>ti σ H1 λi H2=>t o i v H2 λH3=>Q σ H3
theorem yq {o i:Expr}{to ti:TE}{t:Dx} (ho:PE X o to) (hi:PE X i ti) (hs:Fx X t)
  (ha:∀ v,qfS (.Subscript o i pos) X.env v=(do
    let ov <-qfU [v] (eval o X.env)
    let iv <-qfU [v,ov] (eval i X.env)
    standAt pos
    qfU [v,ov,iv] (qkZ ov iv v)
    release [v,ov,iv] []):=by intro _;rfl):PG X (.Subscript o i pos) (Go to ti t):=by
 intro pins s σ H v u Q I r h
 rw[ha]
 refine qaa (qbj (thn (ho pins s σ H _ I h) λov s1 ⟨x,H1,I1,r1,q1⟩=>?_))
 refine qaa (qbj (thn (hi pins s1 σ H1 _ I1 q1) λiv s2 ⟨y,H2,I2,r2,q2⟩=>?_))
 refine qaa (qed (qaa (qbj (thn (hs pins s2 σ H2 x y v ov iv u _ I2 r1 r2 r q2) λ_ s3 ⟨H3,I3,q3⟩=>?_))))
 exact wpAny_release ⟨σ,H3,I3,q3⟩
def Ey (te:TE) (g:TG):TS:=λD σ H=>te σ H λx H1=>g x σ H1 D.nx
theorem zJ {tg e:Expr}{te:TE}{g:TG} (he:PE X e te) (hg:PG X tg g) (hs:qgg [tg] e pos.line X.env=pure false:=by rfl) (hw:qgh [tg] e X.env=pure none:=by rfl)
  (h1:(qbZ [tg] X.env).map (·.2)=[qfS tg X.env]:=by rfl):PS X (.Assign [tg] e pos) (Ey te g):=by
 intro pins s σ H D I h
 refine wpAny_Assign_stores (thn (he pins s σ H _ I h) λv s1 ⟨x,H1,I1,r1,q1⟩=>?_) hs hw
 rw[h1]
 exact thn (hg pins s1 σ H1 x v _ I1 r1 q1) λ_ s2 q=>q
theorem Ec {i:Nat}{x:Str}{e:Expr}{te:TE}{pos':Pos} (hN:X.N.Nodup) (hi:X.N[i]?=some x) (hx:Loc X.env.scope x) (he:PE X e te) (hs:qeO e (some (.Name x pos')) pos.line X.env=pure false:=by rfl) (hf:X.fn x=true\/X.env.scope.names.lookup x=some .local:=by first|exact .inl rfl|exact .inr rfl|assumption) :
  PS X (.Assign [.Name x pos'] e pos) (Ey te (sQ i)):=by
 intro pins s σ H D I h
 refine wpAny_Assign_Name (thn (he pins s σ H _ I h) λv s1 ⟨y,H1,I1,r1,q1⟩=>?_) hs
 exact jv I1 hN hi hx r1 (λs2 I2=>⟨_,H1,I2,q1⟩) hf
def FA (i j:Nat) (ta:TA):TS:=λD σ H=>ta σ H λvs H1=>∃ v w,vs=[v,w]/\D.nx ((σ.set i (some v)).set j (some w)) H1
theorem zF {i j:Nat}{x y:Str}{a b:Expr}{ta:TA}{px py pt:Pos}{kt k2 pt2} (hc:X.calm=true) (hN:X.N.Nodup) (hi:X.N[i]?=some x) (hj:X.N[j]?=some y) (hij:i≠j)
  (hx:X.env.scope.names.lookup x=some .local) (hy:X.env.scope.names.lookup y=some .local) (ha:PA X [a,b] ta)
  (hw:qgh [.Tuple [.Name x px,.Name y py] kt pt] (.Tuple [a,b] k2 pt2) X.env=pure (some [x,y]))
  (hs:qgg [.Tuple [.Name x px,.Name y py] kt pt] (.Tuple [a,b] k2 pt2) pos.line X.env=pure false:=by rfl) :
  PS X (.Assign [.Tuple [.Name x px,.Name y py] kt pt] (.Tuple [a,b] k2 pt2) pos) (FA i j ta):=by
 intro pins s σ H D I h
 rw[exec_Assign_arm]
 refine qaa (qed ?_)
 rw[hs]
 refine qaa (qab ?_)
 rw[if_neg (by decide)]
 refine qaa (Tuple_ (thn (ha _ pins s σ H _ I h) λus s1 ⟨vs,H1,I1,r1,q1⟩=>?_))
 obtain⟨v,w,e1,q1⟩:=q1
 subst e1
 obtain⟨u1,u2,rfl,rv,rw'⟩:∃ u1 u2,us=[u1,u2]/\aV v u1/\aV w u2:=by
  cases r1 with
  |cons p q=>
   cases q with
   |cons p' q'=>
    cases q'
    exact⟨_,_,rfl,p,p'⟩
 refine qbi ?_ (by show 2<=qaS;decide)
 have I2:Inv X pins σ H1 { s1 with heap:=s1.heap.push { cls:=.type "tuple",data:=.seq [u1,u2].toArray } }:=I1.kept (t':=s1.toks) λb o e=>qag _ e
 rw[hw]
 refine qaa (qab ?_)
 show wpAny (model X.prog X.w) X.A (do rule "assign.swapped-stores";let items <-unpackItems (.ref s1.heap.objs.size) 2 none;qii [λv=>qjn X.env y v,λv=>qjn X.env x v] items.reverse;pure Flow.next) _ _ _
 refine qaa (qc2 (qaa (unpackItems_tuple (items:=#[u1,u2]) (I.ok.hd hc) (IsTup.new s1.heap _) λh' hx'=>?_)))
 have I3:=I2.kept (h':=h') (t':=s1.toks) λb o e=>hx' b o (qat (qao e)) e
 show wpAny _ _ (qii [λv=>qjn X.env y v,λv=>qjn X.env x v] [u2,u1] >>= λ_=>pure Flow.next) _ _ _
 refine qaa (qgm (qla (jv I3 hN hj (.inl hy) rw' (λs2 I4=>?_) (.inr hy))))
 refine qgm (qla (jv I4 hN hi (.inl hx) rv (λs3 I5=>qjJ (qab ?_)) (.inr hx)))
 rw[List.set_comm _ _ (qcz hij)]at I5
 exact⟨_,H1,I5,q1⟩
end
section
variable {X:Cx}{pos:Pos}
def D0 (c:TT) (tb:TS):TS:=λD σ H=>∃ W:Nat->St->Hp->Prop,(∃ m,W m σ H)/\∀ m σ H,W m σ H->
 c σ H λb H1=>if b=true then ∃ N:St->Hp->Prop,(∀ σ' H',N σ' H'->∃ m',m'<m/\W m' σ' H')/\tb { D with nx:=N,ct:=N,bk:=D.nx } σ H1 else D.nx σ H1
theorem zU {c:Expr}{body:List Stmt}{tc:TT}{tb:TS} (hp:qhp (model X.prog X.w) X.A X.env X.xe) (hc:PT X c tc) (hb:PSs X body tb):PS X (.While c body [] pos) (D0 tc tb):=by
 intro pins s σ H D I h
 obtain⟨W,⟨m0,w0⟩,turn⟩:=h
 refine wpAny_While (codeAny_whileLoop (λn s'=>∃ σ' H',Inv X pins σ' H' s'/\W n σ' H') ?_ m0 ⟨σ,H,I,w0⟩)
 rintro n s1 ⟨σ1,H1,I1,w1⟩
 refine qdd hp (thn (hc pins s1 σ1 H1 _ I1 (turn n σ1 H1 w1)) λb s2 ⟨H2,I2,q2⟩=>?_)
 cases b with
 |true=>
  obtain⟨N,hN,q2⟩:=q2
  rw[if_pos rfl]
  refine qdd hp (thn (hb pins s2 σ1 H2 _ I2 q2) λf s3 q3=>?_)
  cases f with
  |next=>
   obtain⟨σ3,H3,I3,n3⟩:=q3
   obtain⟨m',hm,w3⟩:=hN σ3 H3 n3
   exact⟨m',hm,σ3,H3,I3,w3⟩
  |cont=>
   obtain⟨σ3,H3,I3,n3⟩:=q3
   obtain⟨m',hm,w3⟩:=hN σ3 H3 n3
   exact⟨m',hm,σ3,H3,I3,w3⟩
  |brk=>exact q3
  |ret v=>exact q3
 |false=>
  rw[if_neg qaq]
  exact qfw ⟨σ1,H2,I2,q2⟩
end
structure It where
 go:Nat->Hp->Prop
 yld:Nat->Hp->V->Hp->Prop
 stop:Nat->Hp->Prop
def j9 (X:Cx) (pins:List (Addr×Obj)) (H:Hp) (b:Addr):Prop:=
 H b=none/\b≠X.env.locals/\b∉X.fs/\(b∈X.ex\/X.s₀.heap.objs.size<=b)/\(∀ x c,X.env.cells.lookup x=some c->c≠b)/\∀ p∈X.pn++pins,p.1≠b
theorem Inv.fpOk {X:Cx}{pins:List (Addr×Obj)}{σ:St}{H H':Hp}{s:qaj}{b:Addr} (I:Inv X pins σ H s) (hb:s.heap.objs.size<=b) (hn:H' b=none):j9 X pins H' b:=by
 refine⟨hn,qbA (qaP I.lt hb),I.nofs hb,.inr (qaH I.sz hb),λx c e z=>?_,λp hp z=>?_⟩
 ·obtain⟨v,q⟩:=I.cell x c e
  exact absurd (qaP q.lt (by rw[z];exact hb)) (qck _)
 ·exact absurd (qaP (qao (I.pin p hp).1) (by rw[z];exact hb)) (qck _)
structure yf (P:qaX) (w:World) (K:qai) (tg:Expr) (J:It) (fp:List Addr) (it:Addr) (tn:Nat->Heap->Prop):Prop where
 mem:it∈fp
 obj:∀ i h,tn i h->∀ b∈fp,∃ o,h.get? b=some o/\∀ v,o.data≠.cell v
 keep:∀ i h h',tn i h->(∀ b∈fp,∀ o,h.get? b=some o->h'.get? b=some o)->tn i h'
 item:∀ (X:Cx),X.prog=P->X.w=w->X.K=K->X.calm=true->∀ (i:Nat) (pins:List (Addr×Obj)) (s:qaj) (σ:St) (H:Hp) (E:Value->qaj->Prop),Inv X pins σ H s->(∀ b∈fp,j9 X pins H b)->tn i s.heap->J.go i H->
  wpAny (model P w) X.A (qeC (.ref it)) (λr s1=>∃ u,r=some u/\
   wpAny (model P w) X.A (qfy tg (.ref it) u) (λ_ s2=>∃ x H',Inv X pins σ H' s2/\aV x u/\J.yld i H x H'/\tn (i+1) s2.heap/\∀ b∈fp,H' b=none) E s1) E s
 done:∀ (X:Cx),X.prog=P->X.w=w->X.K=K->X.calm=true->∀ (i:Nat) (pins:List (Addr×Obj)) (s:qaj) (σ:St) (H:Hp) (E:Value->qaj->Prop),Inv X pins σ H s->(∀ b∈fp,j9 X pins H b)->tn i s.heap->J.stop i H->
  wpAny (model P w) X.A (qeC (.ref it)) (λr s1=>r=none/\Inv X pins σ H s1) E s
 self:∀ (A:qbc) (i:Nat) (s:qaj) (Q:Value->qaj->Prop) (E:Value->qaj->Prop),tn i s.heap->Q (.ref it) s->wpAny (model P w) A (qhW (.ref it)) Q E s
abbrev TI:=St->Hp->(It->Hp->Prop)->Prop
def PIE (X:Cx) (pins:List (Addr×Obj)) (σ:St) (tg:Expr) (R:It->Hp->Prop) (itv:Value) (s2:qaj):Prop:=
 ∃ (it:Addr) (fp:List Addr) (tn:Nat->Heap->Prop) (J:It) (H':Hp),itv=.ref it/\Inv X pins σ H' s2/\yf X.prog X.w X.K tg J fp it tn/\tn 0 s2.heap/\(∀ b∈fp,j9 X pins H' b)/\R J H'
def PI (X:Cx) (tg iter:Expr) (wi:TI):Prop:=
 ∀ (pins:List (Addr×Obj)) (s:qaj) (σ:St) (H:Hp) (R:It->Hp->Prop),Inv X pins σ H s->wi σ H R->
  wpAny (model X.prog X.w) X.A (eval iter X.env) (λv s1=>wpAny (model X.prog X.w) X.A (qhW v) (PIE X pins σ tg R) X.xe s1) X.xe s
theorem yF {M:Model}{A:qbc}{E:Value->qaj->Prop}{s:qaj}{tg:Expr}{it:Addr}{u:Value}{o:Obj}{n:String}{vs:Array Value}{Q:Unit->qaj->Prop} (ho:s.heap.get? it=some o) (hc:o.cls=.type n) (hd:o.data=.fields vs)
  (hn:["enumerate","zip","dict_itemiterator","dict_reverseitemiterator","odict_iterator","itertools.zip_longest","itertools.pairwise"].contains n=false) (hQ:Q () s):wpAny M A (qfy tg (.ref it) u) Q E s:=by
 unfold qfy
 cases tg<;>first
  |exact qab hQ
  | (cases u<;>first
      |exact qab hQ
      | (refine qaa (qgx ho ?_)
         rw[hc,hd]
         show wpAny M A (if (["enumerate","zip","dict_itemiterator","dict_reverseitemiterator","odict_iterator","itertools.zip_longest","itertools.pairwise"].contains n&&vs[0]?==some (qe8 _))=true then _ else _) Q E s
         rw[if_neg (by intro h;rw[hn,qgU]at h;cases h)]
         exact qab hQ))
def Itl (K:qai) (a:Addr):It:=
 ⟨λi H=>∃ xs x,SqL K H a xs/\xs[i]?=some x,λi H x H'=>H'=H/\∀ xs,SqL K H a xs->xs[i]?=some x,λi H=>∃ xs,SqL K H a xs/\xs.length<=i⟩
def Itt (K:qai) (a:Addr):It:=
 ⟨λi H=>∃ xs x,SqT K H a xs/\xs[i]?=some x,λi H x H'=>H'=H/\∀ xs,SqT K H a xs->xs[i]?=some x,λi H=>∃ xs,SqT K H a xs/\xs.length<=i⟩
def Itr (lo:Int) (n:Nat):It:=⟨λi _=>i<n,λi H x H'=>H'=H/\x=.int (lo+i),λi _=>n<=i⟩
theorem xM {P:qaX}{w:World}{K:qai}{tg:Expr} (a it:Addr):yf P w K tg (Itl K a) [it] it (λi h=>h.IsListIter it a i) where
 mem:=by simp
 obj:=λi h st b hb=>by
  have e:b=it:=by simpa using hb
  subst e
  obtain⟨o,e,c,d⟩:=st
  exact⟨o,e,λv z=>by rw[d]at z;cases z⟩
 keep:=λi h h' st k=>st.at λo e=>k it (by simp) o e
 item:=by
  intro X hP hw hK hc i pins s σ H E I hf st hg
  subst hP hw hK
  obtain⟨xs,x,hq,hx⟩:=hg
  obtain⟨its,rv,p,hz⟩:=I.list hq
  obtain⟨u,hu,ru⟩:=rv.get hx
  obtain⟨f0,f1,f2,f3,f4,f5⟩:=hf it (by simp)
  refine qfe st p.isList (x:=u) (by simpa using hu) λh' st' sb=>?_
  have I1:Inv X pins σ H { s with heap:=h' }:=I.turned (t':=s.toks) (λb o hb e=>(sb.2 b hb).trans e) f0 f1 f3 f4 f5
  obtain⟨o,e,c,d⟩:=id st'
  exact⟨u,rfl,yF (s:={ s with heap:=h' }) e c d (by decide) ⟨x,H,I1,ru,⟨rfl,λys hy=>by rw[I.list_inj hy hq];exact hx⟩,st',λb hb=>(hf b hb).1⟩⟩
 done:=by
  intro X hP hw hK hc i pins s σ H E I hf st hg
  subst hP hw hK
  obtain⟨xs,hq,hx⟩:=hg
  obtain⟨its,rv,p,hz⟩:=I.list hq
  obtain⟨f0,f1,f2,f3,f4,f5⟩:=hf it (by simp)
  have hl:=rv.length
  exact qfu (I.ok.hd hc) st p.isList (by simp;lia) λh' eb=>⟨rfl,I.turned (t':=s.toks) (λb o hb e=>eb b o hb e) f0 f1 f3 f4 f5⟩
 self:=λ_ _ _ _ _ st h=>wpAny_pyIter_listiter st h
theorem va {P:qaX}{w:World}{K:qai}{tg:Expr} (a it:Addr):yf P w K tg (Itt K a) [it] it (λi h=>h.IsTupleIter it a i) where
 mem:=by simp
 obj:=λi h st b hb=>by
  have e:b=it:=by simpa using hb
  subst e
  obtain⟨o,e,c,d⟩:=st
  exact⟨o,e,λv z=>by rw[d]at z;cases z⟩
 keep:=λi h h' st k=>st.at λo e=>k it (by simp) o e
 item:=by
  intro X hP hw hK hc i pins s σ H E I hf st hg
  subst hP hw hK
  obtain⟨xs,x,hq,hx⟩:=hg
  obtain⟨its,rv,p,hz⟩:=I.tuple hq
  obtain⟨u,hu,ru⟩:=rv.get hx
  obtain⟨f0,f1,f2,f3,f4,f5⟩:=hf it (by simp)
  refine wpAny_pyNext_tuple_item st (show s.heap.IsTuple a its.toArray from p) (x:=u) (by simpa using hu) λh' st' sb=>?_
  have I1:Inv X pins σ H { s with heap:=h' }:=I.turned (t':=s.toks) (λb o hb e=>(sb.2 b hb).trans e) f0 f1 f3 f4 f5
  obtain⟨o,e,c,d⟩:=id st'
  exact⟨u,rfl,yF (s:={ s with heap:=h' }) e c d (by decide) ⟨x,H,I1,ru,⟨rfl,λys hy=>by rw[I.tuple_inj hy hq];exact hx⟩,st',λb hb=>(hf b hb).1⟩⟩
 done:=by
  intro X hP hw hK hc i pins s σ H E I hf st hg
  subst hP hw hK
  obtain⟨xs,hq,hx⟩:=hg
  obtain⟨its,rv,p,hz⟩:=I.tuple hq
  obtain⟨f0,f1,f2,f3,f4,f5⟩:=hf it (by simp)
  have hl:=rv.length
  exact wpAny_pyNext_tuple_end (I.ok.hd hc) st (show s.heap.IsTuple a its.toArray from p) (by simp;lia) λh' eb=>⟨rfl,I.turned (t':=s.toks) (λb o hb e=>eb b o hb e) f0 f1 f3 f4 f5⟩
 self:=λ_ _ _ _ _ st h=>wpAny_pyIter_tupleiter st h
theorem uV {P:qaX}{w:World}{K:qai}{tg:Expr} (it:Addr) (lo:Int) (n:Nat):yf P w K tg (Itr lo n) [it] it (λi h=>IsRangeIter h it (lo+(i:Nat)*1) ((n:Int) - (i:Nat)) 1) where
 mem:=by simp
 obj:=λi h st b hb=>by
  have e:b=it:=by simpa using hb
  subst e
  exact⟨_,st,λv z=>by
   have z':Data.fields _=Data.cell v:=z
   cases z'⟩
 keep:=λi h h' st k=>k it (by simp) _ st
 item:=by
  intro X hP hw hK hc i pins s σ H E I hf st hg
  subst hP hw hK
  obtain⟨f0,f1,f2,f3,f4,f5⟩:=hf it (by simp)
  have W:=Walks.range (prog:=X.prog) (w:=X.w) (I.ok.hd hc) it lo 1 n
  refine W.item i s _ _ hg st λv h' tk hv st' kk=>?_
  obtain⟨t,rfl⟩:=hv
  have I1:Inv X pins σ H { s with heap:=h',toks:=tk }:=I.turned (λb o hb e=>kk b o (by simpa using hb) e) f0 f1 f3 f4 f5
  refine⟨_,rfl,yF (s:={ s with heap:=h',toks:=tk }) (n:="range_iterator") st' rfl rfl (by decide) ⟨.int (lo+i),H,I1,⟨t,?_⟩,⟨rfl,rfl⟩,st',λb hb=>(hf b hb).1⟩⟩
  rw[qd9]
 done:=by
  intro X hP hw hK hc i pins s σ H E I hf st hg
  subst hP hw hK
  obtain⟨f0,f1,f2,f3,f4,f5⟩:=hf it (by simp)
  exact wpAny_pyNext_range_end (I.ok.hd hc) st (by have:n<=i:=hg;lia) λh' eb=>⟨rfl,I.turned (t':=s.toks) (λb o hb e=>eb b o hb e) f0 f1 f3 f4 f5⟩
 self:=λ_ _ _ _ _ st h=>wpAny_pyIter_rangeiter st h
section
variable {X:Cx}{tg:Expr}
def FQ (K:qai) (tl:TE):TI:=λσ H R=>tl σ H λx H1=>∃ a,x=.ref a/\(∃ xs,SqL K H1 a xs)/\R (Itl K a) H1
def Gi (K:qai) (tl:TE):TI:=λσ H R=>tl σ H λx H1=>∃ a,x=.ref a/\(∃ xs,SqT K H1 a xs)/\R (Itt K a) H1
theorem wE {l:Expr}{tl:TE} (hl:PE X l tl):PI X tg l (FQ X.K tl):=by
 intro pins s σ H R I h
 refine thn (hl pins s σ H _ I h) λv s1 ⟨x,H1,I1,r1,q1⟩=>?_
 obtain⟨a,e,⟨xs,hq⟩,q⟩:=q1
 subst e
 cases r1
 obtain⟨its,rv,p,hz⟩:=I1.list hq
 refine qjC p.isList ?_
 refine⟨s1.heap.objs.size,[s1.heap.objs.size],_,_,H1,rfl,I1.kept (t':=s1.toks) λb o e=>qag _ e,xM a _,⟨_,qaA _ rfl,rfl,rfl⟩,λb hb=>?_,q⟩
 have e:b=s1.heap.objs.size:=by simpa using hb
 subst e
 exact I1.fpOk (qan _) (I1.hok.fresh (qan _))
theorem Ds {l:Expr}{tl:TE} (hl:PE X l tl):PI X tg l (Gi X.K tl):=by
 intro pins s σ H R I h
 refine thn (hl pins s σ H _ I h) λv s1 ⟨x,H1,I1,r1,q1⟩=>?_
 obtain⟨a,e,⟨xs,hq⟩,q⟩:=q1
 subst e
 cases r1
 obtain⟨its,rv,p,hz⟩:=I1.tuple hq
 refine qdJ (show s1.heap.IsTuple a its.toArray from p) ?_
 refine⟨s1.heap.objs.size,[s1.heap.objs.size],_,_,H1,rfl,I1.kept (t':=s1.toks) λb o e=>qag _ e,va a _,⟨_,qaA _ rfl,rfl,rfl⟩,λb hb=>?_,q⟩
 have e:b=s1.heap.objs.size:=by simpa using hb
 subst e
 exact I1.fpOk (qan _) (I1.hok.fresh (qan _))
theorem yY {pins:List (Addr×Obj)}{σ:St}{H:Hp}{s:qaj}{R:It->Hp->Prop}{E:Value->qaj->Prop}{lo hi:Int}{t u v:Tok}{tk:Nat} (I:Inv X pins σ H s) (h1:-(2^62)<=lo) (h2:lo<2^62) (h3:-(2^62)<=hi) (h4:hi<2^62)
  (q:R (Itr lo (hi - lo).toNat) H):wpAny (model X.prog X.w) X.A (qhW (.ref s.heap.objs.size)) (PIE X pins σ tg R) E { s with heap:=s.heap.push { cls:=.type "range",data:=.fields #[.int lo t,.int hi u,.int 1 v] },toks:=tk }:=by
 refine wpAny_pyIter_range (IsRange.new ..) (small_one h1 h2 h3 h4) ?_
 have I1:Inv X pins σ H { s with heap:=s.heap.push { cls:=.type "range",data:=.fields #[.int lo t,.int hi u,.int 1 v] },toks:=tk }:=I.kept λb o e=>qag _ e
 refine⟨(s.heap.push { cls:=.type "range",data:=.fields #[.int lo t,.int hi u,.int 1 v] }).objs.size,[(s.heap.push { cls:=.type "range",data:=.fields #[.int lo t,.int hi u,.int 1 v] }).objs.size],_,_,H,rfl,
  I1.kept (t':=tk) λb o e=>qag _ e,uV _ lo (hi - lo).toNat,?_,λb hb=>?_,q⟩
 ·have e1:lo+((0:Nat):Int)*1=lo:=by simp
  have e2:(((hi - lo).toNat:Nat):Int) - ((0:Nat):Int)=qjY lo hi 1:=by rw[rangeSize_one];split<;>lia
  show IsRangeIter _ _ (lo+((0:Nat):Int)*1) ((((hi - lo).toNat:Nat):Int) - ((0:Nat):Int)) 1
  rw[e1,e2]
  exact qaA _ rfl
 ·have e:b=(s.heap.push { cls:=.type "range",data:=.fields #[.int lo t,.int hi u,.int 1 v] }).objs.size:=by simpa using hb
  subst e
  exact I1.fpOk (qan _) (I1.hok.fresh (qan _))
def FH (ta:TA):TI:=λσ H R=>ta σ H λvs H1=>∃ j:Int,vs=[.int j]/\-(2^62)<=j/\j<2^62/\R (Itr 0 j.toNat) H1
theorem xl {a:Expr}{ta:TA}{p pos:Pos} (hg:Gl X "range") (hm:X.mg "range" = none) (ha:PA X [a] ta) (hs:qbB [a] X.env=[(false,eval a X.env)]:=by rfl):PI X tg (.Call (.Name "range" p) [a] [] pos) (FH ta):=by
 intro pins s σ H R I h
 refine Call_ (je I hg hm boot_range (qce (thn (ha pos pins s σ H _ I h) λus s1 ⟨vs,H1,I1,r1,q1⟩=>?_) hs rfl))
 obtain⟨j,e,q1,q2,q⟩:=q1
 subst e
 cases r1 with
 |cons r rr=>
  cases rr
  obtain⟨t,rfl⟩:=r
  exact call_range_1 (yY I1 (by lia) (by lia) q1 q2 (by simpa using q))
def Gj (wi:TI) (g:TG) (tb:TS):TS:=λD σ H=>wi σ H λJ H1=>∃ W:Nat->Nat->St->Hp->Prop,(∃ m,W 0 m σ H1)/\∀ i m σ H,W i m σ H->
 (J.stop i H/\D.nx σ H)\/(J.go i H/\∃ N:St->Hp->Prop,(∀ σ' H',N σ' H'->∃ m',m'<m/\W (i+1) m' σ' H')/\∀ x H',J.yld i H x H'->g x σ H' λσ2 H2=>tb { D with nx:=N,ct:=N,bk:=D.nx } σ2 H2)
def mq (fp:List Addr) (h:Heap):List (Addr×Obj):=fp.filterMap λb=>(h.get? b).map λo=>(b,o)
theorem dE {fp:List Addr}{h:Heap}{b:Addr}{o:Obj} (hb:b∈fp) (e:h.get? b=some o):(b,o)∈mq fp h:=qfK.mpr ⟨b,hb,by rw[e];rfl⟩
theorem xx {fp:List Addr}{h:Heap}{p:Addr×Obj} (hp:p∈mq fp h):p.1∈fp/\h.get? p.1=some p.2:=by
 obtain⟨b,hb,e⟩:=qfK.mp hp
 cases q:h.get? b with
 |none=>rw[q]at e;cases e
 |some o=>
  rw[q]at e
  have e':(b,o)=p:=qaR e
  subst e'
  exact⟨hb,q⟩
theorem Inv.pinned {pins:List (Addr×Obj)}{σ:St}{H:Hp}{s:qaj}{fp:List Addr} (I:Inv X pins σ H s) (hf:∀ b∈fp,j9 X pins H b) (ho:∀ b∈fp,∃ o,s.heap.get? b=some o/\∀ v,o.data≠.cell v):Inv X (pins++mq fp s.heap) σ H s:=
 I.pins_of λp hp=>(qbe.mp hp).elim (λz=>I.pin p (qau _ z)) λz=>by
  obtain⟨hb,e⟩:=xx z
  obtain⟨f0,f1,f2,_⟩:=hf p.1 hb
  obtain⟨o,e',d⟩:=ho p.1 hb
  rw[e]at e';cases e'
  exact⟨e,f0,f1,f2,d⟩
theorem Inv.unpinned {pins pl:List (Addr×Obj)}{σ:St}{H:Hp}{s:qaj} (I:Inv X (pins++pl) σ H s):Inv X pins σ H s:=I.pins_of λp hp=>I.pin p (qau _ (qcG _ hp))
theorem yL {iter:Expr}{body:List Stmt}{wi:TI}{g:TG}{tb:TS}{pos:Pos} (hp:qhp (model X.prog X.w) X.A X.env X.xe) (hc:X.calm=true) (hi:PI X tg iter wi) (hg:PG X tg g) (hb:PSs X body tb)
  (hs:∀ x,qcR iter X.env x=pure x:=by intro _;rfl):PS X (.For tg iter body [] pos) (Gj wi g tb):=by
 intro pins s σ H D I h
 refine wpAny_For (thn (hi pins s σ H _ I h) λv s1 h1=>thn h1 λitv s2 h2=>?_) hs
 obtain⟨it,fp,tn,J,H2,e,I2,T,st2,f2,W,⟨m0,w0⟩,turn⟩:=h2
 subst e
 -- what stays true of the iterator's objects through the loop
 have stat:∀ {H':Hp},(∀ b∈fp,H' b=none)->∀ b∈fp,j9 X pins H' b:=λhn b hb=>⟨hn b hb,(f2 b hb).2⟩
 refine codeAny_forLoop_any (λn s'=>∃ i σ' H',Inv X pins σ' H' s'/\tn i s'.heap/\(∀ b∈fp,H' b=none)/\W i n σ' H') ?_ m0 ⟨0,σ,H2,I2,st2,λb hb=>(f2 b hb).1,w0⟩
 rintro n s3 ⟨i,σ3,H3,I3,st3,fr3,w3⟩
 rcases turn i n σ3 H3 w3 with⟨stop,qn⟩|⟨go,N,hN,step⟩
 ·refine qdd hp (thn (T.done X rfl rfl rfl hc i pins s3 σ3 H3 X.xe I3 (stat fr3) st3 stop) λr s4 ⟨hr,I4⟩=>?_)
  subst hr
  exact qfw ⟨σ3,H3,I4,qn⟩
 ·refine qdd hp (thn (T.item X rfl rfl rfl hc i pins s3 σ3 H3 X.xe I3 (stat fr3) st3 go) λr s4 ⟨u,hr,h4⟩=>?_)
  subst hr
  refine qdd hp (thn h4 λ_ s5 ⟨x,H5,I5,r5,y5,st5,fr5⟩=>?_)
  have I5':=I5.pinned (stat fr5) (T.obj _ _ st5)
  refine qdd hp (thn (hg _ s5 σ3 H5 x u _ I5' r5 (step x H5 y5)) λ_ s6 ⟨σ6,H6,I6,q6⟩=>?_)
  refine qdd hp (thn (hb _ s6 σ6 H6 _ I6 q6) λf s7 q7=>?_)
  have again:∀ {σ7:St}{H7:Hp},Inv X (pins++mq fp s5.heap) σ7 H7 s7->N σ7 H7->∃ m,m<n/\∃ i σ' H',Inv X pins σ' H' s7/\tn i s7.heap/\(∀ b∈fp,H' b=none)/\W i m σ' H':=λ{σ7 H7} I7 n7=>by
   obtain⟨m',hm,w7⟩:=hN σ7 H7 n7
   refine⟨m',hm,i+1,σ7,H7,I7.unpinned,T.keep _ _ _ st5 λb hb o e=>(I7.pin (b,o) (qau _ (qau _ (dE hb e)))).1,λb hb=>?_,w7⟩
   obtain⟨o,e,d⟩:=T.obj _ _ st5 b hb
   exact (I7.pin (b,o) (qau _ (qau _ (dE hb e)))).2.1
  cases f with
  |next=>obtain⟨σ7,H7,I7,n7⟩:=q7;exact again I7 n7
  |cont=>obtain⟨σ7,H7,I7,n7⟩:=q7;exact again I7 n7
  |brk=>obtain⟨σ7,H7,I7,q7⟩:=q7;exact⟨σ7,H7,I7.unpinned,q7⟩
  |ret v=>obtain⟨x7,σ7,H7,I7,r7,q7⟩:=q7;exact⟨x7,σ7,H7,I7.unpinned,r7,q7⟩
end
abbrev R2:=V->V->Hp->VK->Prop
def OpR (X:Cx) (f:Value->Value->Sem Value) (r:R2):Prop:=
 ∀ (pins:List (Addr×Obj)) (s:qaj) (σ:St) (H:Hp) (x y:V) (v u:Value) (Q:VK),Inv X pins σ H s->aV x v->aV y u->r x y H Q->
  wpAny (model X.prog X.w) X.A (f v u) (EP X pins σ Q) X.xe s
def UnR (X:Cx) (f:Value->Sem Value) (r:V->Hp->VK->Prop):Prop:=
 ∀ (pins:List (Addr×Obj)) (s:qaj) (σ:St) (H:Hp) (x:V) (v:Value) (Q:VK),Inv X pins σ H s->aV x v->r x H Q->
  wpAny (model X.prog X.w) X.A (f v) (EP X pins σ Q) X.xe s
def cx (X:Cx) (f:Value) (r:List V->Hp->VK->Prop):Prop:=
 ∀ (pins:List (Addr×Obj)) (s:qaj) (σ:St) (H:Hp) (xs:List V) (us:List Value) (Q:VK),Inv X pins σ H s->aQ xs us->r xs H Q->
  wpAny (model X.prog X.w) X.A (call f us) (EP X pins σ Q) X.xe s
def tOp (r:R2) (ta tb:TE):TE:=λσ H Q=>ta σ H λx H1=>tb σ H1 λy H2=>r x y H2 Q
def tUn (r:V->Hp->VK->Prop) (ta:TE):TE:=λσ H Q=>ta σ H λx H1=>r x H1 Q
def rI (C:Int->Int->Prop) (g:Int->Int->V):R2:=λx y H Q=>∃ i j,x=.int i/\y=.int j/\C i j/\Q (g i j) H
def rI0 (g:Int->Int->V):R2:=λx y H Q=>∃ i j,x=.int i/\y=.int j/\Q (g i j) H
def rU (g:Int->V):V->Hp->VK->Prop:=λx H Q=>∃ i,x=.int i/\Q (g i) H
section
variable {X:Cx}{a b c:Expr}{ta tb tc:TE}{pos:Pos}
theorem FI (ha:PE X a ta) (hb:PE X b tb) {pins:List (Addr×Obj)}{s:qaj}{σ:St}{H:Hp}{R:V->V->Hp->Prop} (I:Inv X pins σ H s)
  (h:ta σ H λx H1=>tb σ H1 λy H2=>R x y H2) {Q:Value->qaj->Prop}{f:Value->Value->Sem Value}
  (hf:∀ v u s2 x y H2,Inv X pins σ H2 s2->aV x v->aV y u->R x y H2->wpAny (model X.prog X.w) X.A (f v u) Q X.xe s2) :
  wpAny (model X.prog X.w) X.A (eval a X.env) (λv s₁=>wpAny (model X.prog X.w) X.A (eval b X.env) (λu s₂=>wpAny (model X.prog X.w) X.A (f v u) Q X.xe s₂) X.xe s₁) X.xe s:=by
 refine thn (ha pins s σ H _ I h) λv s1 ⟨x,H1,I1,r1,q1⟩=>?_
 refine thn (hb pins s1 σ H1 _ I1 q1) λu s2 ⟨y,H2,I2,r2,q2⟩=>?_
 exact hf v u s2 x y H2 I2 r1 r2 q2
theorem EZ {op:Operator}{r:R2} (ho:OpR X (qbC op) r) (ha:PE X a ta) (hb:PE X b tb):PE X (.BinOp a op b pos) (tOp r ta tb):=by
 intro pins s σ H Q I h
 exact wpAny_BinOp (FI ha hb I h λv u s2 x y H2 I2 rx ry q=>ho pins s2 σ H2 x y v u Q I2 rx ry q)
theorem FJ {op:UnaryOp}{r:V->Hp->VK->Prop} (ho:UnR X (unaryOp op) r) (ha:PE X a ta):PE X (.UnaryOp op a pos) (tUn r ta):=by
 intro pins s σ H Q I h
 exact UnaryOp_ (thn (ha pins s σ H _ I h) λv s1 ⟨x,H1,I1,r1,q1⟩=>ho pins s1 σ H1 x v Q I1 r1 q1)
theorem opI {f:Value->Value->Sem Value}{C:Int->Int->Prop}{g:Int->Int->Int}
  (rule:∀ (i j:Int) (t u:Tok) (s:qaj) (Q:Value->qaj->Prop) (E:Value->qaj->Prop),C i j->Q (.int (g i j) s.toks) { s with toks:=s.toks+1 }->wpAny (model X.prog X.w) X.A (f (.int i t) (.int j u)) Q E s) :
  OpR X f (rI C λi j=>.int (g i j)):=by
 intro pins s σ H x y v u Q I rx ry h
 obtain⟨i,j,rfl,rfl,hc,q⟩:=h
 obtain⟨t,rfl⟩:=rx
 obtain⟨t',rfl⟩:=ry
 exact rule i j t t' s _ _ hc ⟨.int (g i j),H,I.tok _,⟨_,rfl⟩,q⟩
theorem AU {f:Value->Value->Sem Value}{g:Int->Int->Int}
  (rule:∀ (i j:Int) (t u:Tok) (s:qaj) (Q:Value->qaj->Prop) (E:Value->qaj->Prop),Q (.int (g i j) s.toks) { s with toks:=s.toks+1 }->wpAny (model X.prog X.w) X.A (f (.int i t) (.int j u)) Q E s) :
  OpR X f (rI0 λi j=>.int (g i j)):=by
 intro pins s σ H x y v u Q I rx ry h
 obtain⟨i,j,rfl,rfl,q⟩:=h
 obtain⟨t,rfl⟩:=rx
 obtain⟨t',rfl⟩:=ry
 exact rule i j t t' s _ _ ⟨.int (g i j),H,I.tok _,⟨_,rfl⟩,q⟩
theorem Bl {f:Value->Value->Sem Value}{g:Int->Int->Bool}
  (rule:∀ (i j:Int) (t u:Tok) (s:qaj) (Q:Value->qaj->Prop) (E:Value->qaj->Prop),Q (.bool (g i j)) s->wpAny (model X.prog X.w) X.A (f (.int i t) (.int j u)) Q E s) :
  OpR X f (rI0 λi j=>.bl (g i j)):=by
 intro pins s σ H x y v u Q I rx ry h
 obtain⟨i,j,rfl,rfl,q⟩:=h
 obtain⟨t,rfl⟩:=rx
 obtain⟨t',rfl⟩:=ry
 exact rule i j t t' s _ _ ⟨.bl (g i j),H,I,rfl,q⟩
def GI (i j:Int):Prop:=0<j/\j<1073741824
def rV (i j:Int):Prop:=0<=j/\j<=1000000/\i.natAbs<2^64
def BD (i j:Int):Prop:=(-(2^64)<i/\i<2^64)\/(-(2^64)<j/\j<2^64)
theorem BD.ok {i j:Int} (h:BD i j):qhd i j:=by
 rcases h with⟨h1,h2⟩|⟨h1,h2⟩
 ·exact .of_left (intBits_le_64 h1 h2)
 ·exact .of_right (intBits_le_64 h1 h2)
theorem vH (k:Nat):(0:Int)<=2^k:=by
 rw[two_pow_cast]
 exact Int.natCast_nonneg _
theorem EC:OpR X (qbC .Add) (rI0 λi j=>.int (i+j)):=AU λ_ _ _ _ _ _ _ q=>add_int q
theorem DZ:OpR X (qbC .Sub) (rI0 λi j=>.int (i - j)):=AU λ_ _ _ _ _ _ _ q=>sub_int q
theorem A3:OpR X (qbC .FloorDiv) (rI GI λi j=>.int (i / j)):=opI λi j _ _ _ _ _ hc q=>by
 have h1:(0:Int)<j:=hc.1
 have h2:j<1073741824:=hc.2
 exact floordiv_int (by lia) (by rw[qgR i (by lia)];exact q) (.inl (PyProof.noPylong_small (by lia)))
theorem Dc:OpR X (qbC .Mod) (rI (λ_ j=>0<j) λi j=>.int (i%j)):=opI λi j _ _ _ _ _ hc q=>by
 have h1:(0:Int)<j:=hc
 exact mod_int' (by lia) (by rw[Int.fmod_eq_emod_of_nonneg i (by lia)];exact q)
theorem Dz:OpR X (qbC .Pow) (rI rV λi j=>.int (i^j.toNat)):=opI λ_ _ _ _ _ _ _ hc q=>pow_int_small hc.1 hc.2.1 hc.2.2 q
theorem D5:OpR X (qbC .LShift) (rI rV λi j=>.int (i*2^j.toNat)):=opI λ_ _ _ _ _ _ _ hc q=>lshift_int_small hc.1 hc.2.1 hc.2.2 q
theorem EG:OpR X (qbC .RShift) (rI (λ_ j=>0<=j) λi j=>.int (i / 2^j.toNat)):=opI λi j _ _ _ _ _ hc q=>
 rshift_int hc (by rw[qgR i (vH _)];exact q)
theorem DY:OpR X (qbC .BitAnd) (rI0 λi j=>.int (qdb i j)):=AU λ_ _ _ _ _ _ _ q=>and_int q
theorem Dw:OpR X (qbC .BitXor) (rI0 λi j=>.int (qeW i j)):=AU λ_ _ _ _ _ _ _ q=>xor_int q
theorem unI {f:Value->Sem Value}{g:Int->Int}
  (rule:∀ (i:Int) (t:Tok) (s:qaj) (Q:Value->qaj->Prop) (E:Value->qaj->Prop),Q (.int (g i) s.toks) { s with toks:=s.toks+1 }->wpAny (model X.prog X.w) X.A (f (.int i t)) Q E s) :
  UnR X f (rU λi=>.int (g i)):=by
 intro pins s σ H x v Q I rx h
 obtain⟨i,rfl,q⟩:=h
 obtain⟨t,rfl⟩:=rx
 exact rule i t s _ _ ⟨.int (g i),H,I.tok _,⟨_,rfl⟩,q⟩
theorem ED:UnR X (unaryOp .USub) (rU λi=>.int (-i)):=unI λ_ _ _ _ _ q=>neg_int q
end
section
variable {X:Cx}{a b c:Expr}{ta tb tc:TE}{pos:Pos}
theorem EB {pins:List (Addr×Obj)}{σ:St}{H:Hp}{s:qaj}{Q:VK}{k k':Bool} (I:Inv X pins σ H s) (q:Q (.bl k) H) (e:k=k'):EP X pins σ Q (.bool k') s:=by
 subst e
 exact⟨.bl k,H,I,rfl,q⟩
theorem FG:OpR X (qcF .Lt) (rI0 λi j=>.bl (decide (i<j))):=Bl λ_ _ _ _ _ _ _ q=>lt_int q
theorem Fp:OpR X (qcF .LtE) (rI0 λi j=>.bl (decide (i<=j))):=Bl λ_ _ _ _ _ _ _ q=>le_int q
theorem Ff:OpR X (qcF .Gt) (rI0 λi j=>.bl (decide (j<i))):=Bl λ_ _ _ _ _ _ _ q=>gt_int q
theorem Fb:OpR X (qcF .GtE) (rI0 λi j=>.bl (decide (j<=i))):=Bl λ_ _ _ _ _ _ _ q=>ge_int q
theorem BZ:OpR X (qcF .IsNot) (λx y H Q=>y=.non/\Q (.bl (!decide (x=.non))) H):=by
 intro pins s σ H x y v u Q I rx ry h
 obtain⟨rfl,q⟩:=h
 cases ry
 refine isnot_none_gen (EB I q ?_)
 cases x<;>first
  |(cases rx;rfl)
  |(obtain⟨t,rfl⟩:=rx;rfl)
theorem bJ (b:Expr) {op:CmpOp} (h:op≠.In:=by decide) (h2:op≠.NotIn:=by decide):qgk op b=false:=by
 have e1:(op==CmpOp.In)=false:=by cases op<;>first|rfl|exact absurd rfl h
 have e2:(op==CmpOp.NotIn)=false:=by cases op<;>first|rfl|exact absurd rfl h2
 cases b<;>simp[qgk,e1,e2]
def Fv (t:TE):TT:=λσ H Q=>t σ H λx H'=>∃ k,x=.bl k/\Q k H'
theorem B7 {op:CmpOp}{r:R2} (ho:OpR X (qcF op) r) (ha:PE X a ta) (hb:PE X b tb) (hm:qgk op b=false):PT X (.Compare a [op] [b] pos) (Fv (tOp r ta tb)):=by
 intro pins s σ H Q I h
 refine wpAny_isTrue_Compare1 (thn (ha pins s σ H _ I h) λv s1 ⟨x,H1,I1,r1,q1⟩=>thn (hb pins s1 σ H1 _ I1 q1) λu s2 ⟨y,H2,I2,r2,q2⟩=>
  thn (ho pins s2 σ H2 x y v u _ I2 r1 r2 q2) λc s3 ⟨z,H3,I3,r3,k,e,q3⟩=>?_) hm
 subst e
 cases r3
 exact qgv ⟨H3,I3,q3⟩
theorem mE:(qaS:Nat)<2^63:=by rw[qb5];decide
theorem vT:OpR X (qbC .Add) (λx y H Q=>∃ i j,x=.str i/\y=.str j/\i.length+j.length<=qaS/\Q (.str (i++j)) H):=by
 intro pins s σ H x y v u Q I rx ry h
 obtain⟨i,j,rfl,rfl,hz,q⟩:=h
 obtain⟨t,rfl⟩:=rx
 obtain⟨t',rfl⟩:=ry
 exact add_str (λt' tk=>⟨.str (i++j),H,I.tok _,⟨_,rfl⟩,q⟩) hz
theorem lv {x:V}{us:List Value} (r:aQ [x] us):∃ u,us=[u]/\aV x u:=by
 cases r with
 |cons r1 r2=>cases r2;exact⟨_,rfl,r1⟩
theorem Fa {x y:V}{us:List Value} (r:aQ [x,y] us):∃ u w',us=[u,w']/\aV x u/\aV y w':=by
 cases r with
 |cons r1 r2=>
  cases r2 with
  |cons r3 r4=>cases r4;exact⟨_,_,rfl,r1,r3⟩
theorem AL:cx X (.builtin "abs") (λxs H Q=>∃ i,xs=[.int i]/\Q (.int (if i<0 then -i else i)) H):=by
 intro pins s σ H xs us Q I r h
 obtain⟨i,rfl,q⟩:=h
 obtain⟨u,rfl,t,rfl⟩:=lv r
 exact call_abs_int λu tk=>⟨.int (if i<0 then -i else i),H,I.tok _,⟨_,rfl⟩,q⟩
theorem xq (hc:X.calm=true):cx X (.builtin "max") (λxs H Q=>∃ i j,xs=[.int i,.int j]/\Q (.int (if j > i then j else i)) H):=by
 intro pins s σ H xs us Q I r h
 obtain⟨i,j,rfl,q⟩:=h
 obtain⟨u,w',rfl,⟨t,rfl⟩,⟨t',rfl⟩⟩:=Fa r
 refine max_two_ints (I.ok.hd hc) λh' tk k=>⟨_,H,I.kept k,?_,q⟩
 by_cases hj:j > i
 ·rw[if_pos hj,if_pos hj];exact⟨_,rfl⟩
 ·rw[if_neg hj,if_neg hj];exact⟨_,rfl⟩
end
section
variable {prog:qaX}{w:World}{A:qbc}{E:Value->qaj->Prop}{s:qaj}{K:qai}{x dx C f:Addr}{mA:Str->Option Value}{name:Str}{v:Value}
end
theorem nj.some_of {v:V}{o:Option Value} (r:nj (some v) o):∃ u,o=some u/\aV v u:=by
 cases o with
 |none=>exact (show False from r).elim
 |some u=>exact⟨u,rfl,r⟩
section
variable {P:qaX}{w:World}{H H':Hp}{h h':Heap}{a C dx:Addr}{fs fs':List (Str×V)}
end
section
variable {X:Cx}{pins:List (Addr×Obj)}{σ:St}{H:Hp}{s:qaj}{a C dx:Addr}{fs:List (Str×V)}{f:Str}{v:V}{A:qbc}{E:Value->qaj->Prop}
end
section
variable {X:Cx}{o e value:Expr}{f:Str}{pos pos' tpos:Pos}{ta tv:TE}
end
section
variable {X:Cx}{pins:List (Addr×Obj)}{σ:St}{H:Hp}{s:qaj}{A:qbc}{E:Value->qaj->Prop}{Q:Value->qaj->Prop}{c:Value}{b:Bool}
end
structure cZ (k:Nat) (A:qbc):Prop where
 hd:A.handled=none
 dp:A.depth+3*k+5<qld
 un:A.units+16*k+200<cLine
 gd:A.guards=some []
theorem cZ.mono {j k:Nat}{A:qbc} (r:cZ k A) (h:j<=k):cZ j A:=⟨r.hd,by have:=r.dp;lia,by have:=r.un;lia,r.gd⟩
theorem cZ.deeper {k:Nat}{A:qbc} (r:cZ (k+1) A) (env:Env):cZ k (A.deeper env):=
 ⟨r.hd,by have:=r.dp;show A.depth+1+3*k+5<_;lia,by have:=r.un;show A.units+3+16*k+200<_;lia,r.gd⟩
theorem cZ.depth {k:Nat}{A:qbc} (r:cZ k A):A.depth<qld:=by have:=r.dp;lia
theorem cZ.units {k:Nat}{A:qbc} (r:cZ k A):A.units+64<cLine:=by have:=r.un;lia
theorem cZ.units0 {k:Nat}{A:qbc} (r:cZ k A):A.units<cLine:=by have:=r.un;lia
def Fs:TA:=λ_ H Q=>Q [] H
def CC (ta:TE) (tr:TA):TA:=λσ H Q=>ta σ H λx H1=>tr σ H1 λxs H2=>Q (x::xs) H2
section
variable {X:Cx}{e:Expr}{es:List Expr}{te:TE}{t:TA}{pos:Pos}
theorem DM:PA X [] Fs:=λ_ _ _ _ H Q I h=>qey ⟨[],H,I,.nil,h⟩
theorem BM (ha:PE X e te) (hr:PA X es t) (hs:qbB (e::es) X.env=(false,eval e X.env)::qbB es X.env:=by rfl):PA X (e::es) (CC te t):=by
 intro pos pins s σ H Q I h
 rw[hs]
 show wpAny _ _ (qic ((false,eval e X.env)::qea pos (qbB es X.env))) _ _ s
 refine qdq (thn (ha pins s σ H _ I h) λu s1 ⟨x,H1,I1,r1,q1⟩=>?_)
 exact thn (hr pos pins s1 σ H1 _ I1 q1) λus s2 ⟨xs,H2,I2,r2,q2⟩=>⟨x::xs,H2,I2,.cons r1 r2,q2⟩
def GE (t:TA):TE:=λσ H Q=>t σ H λxs H1=>xs.length<=qaS/\∀ p,H1 p=none->Q (.ref p) (upd H1 p (.tup xs))
def Gk (t:TA):TE:=λσ H Q=>t σ H λxs H1=>xs.length<=qaS/\∀ p,H1 p=none->Q (.ref p) (upd H1 p (.lst xs))
theorem DU {x1} (h:PA X es t):PE X (.Tuple es x1 pos) (GE t):=by
 intro pins s σ H Q I hq
 refine wpAny_Tuple_spliced (thn (h pos pins s σ H _ I hq) λus s1 ⟨xs,H1,I1,r,z,q⟩=>⟨by rw[<-r.length];exact z,?_⟩)
 have hf:H1 s1.heap.objs.size=none:=I1.hok.fresh (qan _)
 refine⟨.ref s1.heap.objs.size,upd H1 s1.heap.objs.size (.tup xs),I1.laid (t':=s1.toks) (λb u e=>qag _ e) (qan _) ?_,rfl,q _ hf⟩
 exact⟨z,us,r,eJ.new _ _⟩
theorem AN (h:PA X es t):PE X (.List es pos) (Gk t):=by
 intro pins s σ H Q I hq
 refine wpAny_List_spliced (thn (h pos pins s σ H _ I hq) λus s1 ⟨xs,H1,I1,r,z,q⟩=>⟨by rw[<-r.length];exact z,?_⟩)
 have hf:H1 s1.heap.objs.size=none:=I1.hok.fresh (qan _)
 refine⟨.ref s1.heap.objs.size,upd H1 s1.heap.objs.size (.lst xs),I1.laid (t':=s1.toks) (λb u e=>qag _ e) (qan _) ?_,rfl,q _ hf⟩
 exact⟨z,us,0,r,qaA _ rfl⟩
end
abbrev Sp:=List V->Hp->VK->XK->Prop
abbrev CXT:=List Env->Hp->qaj->XK->Value->qaj->Prop
structure Bv (P:qaX) (w:World) (K:qai) (mg:Str->Option Value) (base:Heap) (A:qbc) (outer:List Env) (s:qaj) (H:Hp):Prop where
 frames:A.frames=some outer
 mod:Mod K mg base
 bs:∀ b o,base.get? b=some o->s.heap.get? b=some o/\H b=none
 bsz:base.objs.size<=s.heap.objs.size
 funs:s.heap.FunFrames base outer
 frf:∀ b∈frs outer,H b=none
 hok:HOk P w H s.heap
 bare:qf1 s.gens
def CE (outer:List Env) (P:qaX) (w:World) (H:Hp) (s:qaj) (Q:VK) (u:Value) (s':qaj):Prop:=
 ∃ v H',s'.os=s.os/\qf1 s'.gens/\Un (frs outer) [] H H' s.heap s'.heap/\HOk P w H' s'.heap/\aV v u/\Q v H'
def CR (CX:CXT) (outer:List Env) (P:qaX) (w:World) (H:Hp) (s:qaj) (Q:VK) (E:XK) (r:qjr) (s':qaj):Prop:=
 match r with
 |.ok (.ret u)=>CE outer P w H s Q u s'
 |.ok _=>False
 |.error e=>CX outer H s E e s'
structure bX (P:qaX) (w:World) (K:qai) (mg:Str->Option Value) (base:Heap) (CX:CXT) (k:Nat) (f:Addr) (fd:qbb) (ps:List Str) (sp:Sp):Prop where
 len:∀ vs H Q E,sp vs H Q E->vs.length=ps.length
 run:∀ (A:qbc) (outer:List Env) (s:qaj) (H:Hp) (args:Args) (us:List Value) (vs:List V) (Q:VK) (E:XK),cZ k A->Bv P w K mg base A outer s H->qis s fd args (ps.zip us)->aQ vs us->sp vs H Q E->
  qes (model P w) A (.call (.ref f) args) (CR CX outer P w H s Q E) s
theorem bX.mono {P:qaX}{w:World}{K:qai}{mg:Str->Option Value}{base:Heap}{CX:CXT}{j k:Nat}{f:Addr}{fd:qbb}{ps:List Str}{sp:Sp} (F:bX P w K mg base CX j f fd ps sp) (h:j<=k) :
  bX P w K mg base CX k f fd ps sp:=⟨F.len,λA outer s H args us vs Q E hr=>F.run A outer s H args us vs Q E (hr.mono h)⟩
section
variable {X:Cx}{pins:List (Addr×Obj)}{σ:St}{H:Hp}{s s':qaj}
theorem Inv.env0 (I:Inv X pins σ H s):Bv X.prog X.w X.K X.mg X.base X.A X.stack s H:=
 ⟨I.ok.frames,I.ok.mod,I.bs,qaH I.ok.bsz I.sz,I.stack,I.stkFree,I.hok,I.bare⟩
theorem Inv.after {Q:VK}{u:Value} (I:Inv X pins σ H s) (h:CE X.stack X.prog X.w H s Q u s'):EP X pins σ Q u s':=by
 obtain⟨v,H',os,bare,un,hok,r,q⟩:=h
 obtain⟨hh,g,d,t,os'⟩:=s'
 obtain rfl:os'=s.os:=os
 exact⟨v,H',I.call (h':=hh) (g':=g) (d':=d) (t':=t) (ch:=[]) un hok bare (λb z=>absurd z (by simp)),r,q⟩
end
def FS (sp:Sp) (dvs:List V) (E:XK) (t:TA):TE:=λσ H Q=>t σ H λvs H1=>sp (vs++dvs) H1 Q E
def bz (K:qai) (fd:qbb) (ps:List Str) (ds:List Value):Prop:=
 ∀ (s:qaj) (us:List Value),K.In s.heap->(us++ds).length=ps.length->qis s fd ⟨us,[]⟩ (ps.zip (us++ds))
theorem bz.all {K:qai}{fd:qbb}{ps:List Str} (h:∀ us:List Value,us.length=ps.length->bindArgs fd ⟨us,[]⟩=pure (ps.zip us)):bz K fd ps []:=λs us _ hl=>by
 rw[qc4]at hl ⊢
 exact .of_eq (h us hl)
def vI (CX:CXT) (X:Cx) (E:XK):Prop:=∀ (pins:List (Addr×Obj)) (σ:St) (H:Hp) (s:qaj) (e:Value) (s':qaj),Inv X pins σ H s->CX X.stack H s E e s'->X.xe e s'
section
variable {X:Cx}{CX:CXT}{k:Nat}{f C:Addr}{fd:qbb}{ps:List Str}{sp:Sp}{dvs:List V}{ds:List Value}{E:XK}{x m:Str}{p pos apos:Pos}{e o:Expr}{es:List Expr}{ta:TE}{t:TA}
theorem DP {pins:List (Addr×Obj)}{σ:St}{H:Hp}{s:qaj}{Q:VK}{us:List Value}{vs:List V} (F:bX X.prog X.w X.K X.mg X.base CX k f fd ps sp) (hr:cZ k X.A) (hb:bz X.K fd ps ds) (hd:aQ dvs ds) (hx:vI CX X E)
  (I:Inv X pins σ H s) (r:aQ vs us) (h:sp (vs++dvs) H Q E):wpAny (model X.prog X.w) X.A (call (.ref f) us) (EP X pins σ Q) X.xe s:=by
 have r2:aQ (vs++dvs) (us++ds):=r.append hd
 have hl:(us++ds).length=ps.length:=by rw[<-r2.length];exact F.len _ _ _ _ h
 refine qjD (qfA (F.run X.A X.stack s H ⟨us,[]⟩ (us++ds) (vs++dvs) Q E hr I.env0 (hb s us I.kIn hl) r2 h) λr s' hq=>?_)
 cases r with
 |error e=>exact hx pins σ H s e s' I hq
 |ok fl=>
  cases fl with
  |ret u=>exact I.after hq
  |next=>exact qdl hq
  |brk=>exact qdl hq
  |cont=>exact qdl hq
theorem Br (F:bX X.prog X.w X.K X.mg X.base CX k f fd ps sp) (hr:cZ k X.A) (hg:Gl X x) (hm:X.mg x=some (.ref f)) (hk:qaI X.K (.ref f)=true) (hb:bz X.K fd ps ds) (hd:aQ dvs ds) (hx:vI CX X E)
  (ha:PA X (e::es) t) (hdb:(x==("__debug__" : Str))=false:=by decide) (he:qbB (e::es) X.env=(false,eval e X.env)::qbB es X.env:=by rfl) (hpl:(qea pos (qbB es X.env)).any (·.1)=false:=by rfl) :
  PE X (.Call (.Name x p) (e::es) [] pos) (FS sp dvs E t):=by
 intro pins s σ H Q I h
 refine qc8 (B1 I hg hm ?_ hdb)
 refine PySem.W.callWith_K (h₀:=X.base) I.ok.mod.kin hk (thn (ha pos pins s σ H _ I h) λus s1 ⟨vs,H1,I1,r,q⟩=>⟨I1.kIn,?_⟩) he hpl
 exact DP F hr hb hd hx I1 r q
end
def PK (X:Cx) (kws:List qgC) (t:TA):Prop:=
 ∀ (pos:Pos) (pins:List (Addr×Obj)) (s:qaj) (σ:St) (H:Hp) (Q:List V->Hp->Prop),Inv X pins σ H s->t σ H Q->wpAny (model X.prog X.w) X.A (evalAll ((qgl pos (qer kws X.env)).map (·.2))) (AP X pins σ Q) X.xe s
section
variable {X:Cx}{CX:CXT}{k:Nat}{f C:Addr}{fd:qbb}{ps ks:List Str}{sp:Sp}{E:XK}{x m:Str}{p pos apos kpos:Pos}{e o:Expr}{es:List Expr}{kws:List qgC}{te ta:TE}{t tk:TA}{nm:Option Str}
theorem Dh:PK X [] Fs:=λ_ _ _ _ H Q I h=>wpAny_evalAll_nil ⟨[],H,I,.nil,h⟩
theorem Cf (ha:PE X e te) (hr:PK X kws t):PK X (⟨nm,e,kpos⟩::kws) (CC te t):=by
 intro pos pins s σ H Q I h
 show wpAny _ _ (evalAll ((do let v <-eval e X.env;standAt pos;pure v)::(qgl pos (qer kws X.env)).map (·.2))) _ _ s
 refine wpAny_evalAll_cons (qaa (thn (ha pins s σ H _ I h) λu s1 ⟨x,H1,I1,r1,q1⟩=>qaa (qed (qab ?_))))
 exact thn (hr pos pins s1 σ H1 _ I1 q1) λus s2 ⟨xs,H2,I2,r2,q2⟩=>⟨x::xs,H2,I2,.cons r1 r2,q2⟩
variable {g:List Value->List Value->List Value}{gV:List V->List V->List V}
end
structure aH (N P:List Str) (sc:Scope):Prop where
 kind:sc.kind=.function
 co:sc.isCoroutine=false
 gen:sc.isGenerator=false
 nd:N.Nodup
 pre:N.take P.length=P
 par:∀ x∈P,sc.names.lookup x=some .local\/sc.names.lookup x=some .cell
 nofree:∀ y∈sc.names,y.2≠.free
theorem qG {kindOf:Str->Option qb9}{x:Str}:∀ {binds:List (Str×Value)}{m:Str->Option Value},(∀ v,(x,v)∉binds)->bindL kindOf binds m x=m x
 |[],_,_=>rfl
 |(n,v)::r,m,h=>by
  unfold bindL
  rw[qG λw hw=>h w (qah _ hw)]
  split
  ·have:x≠n:=by rintro rfl;exact h v qak
   simp[this]
  ·rfl
theorem qt {kindOf:Str->Option qb9}{x:Str}:∀ {binds:List (Str×Value)}{m:Str->Option Value},(∀ v,(x,v)∉binds)->bindC kindOf binds m x=m x
 |[],_,_=>rfl
 |(n,v)::r,m,h=>by
  unfold bindC
  rw[qt λw hw=>h w (qah _ hw)]
  split
  ·rfl
  ·have:x≠n:=by rintro rfl;exact h v qak
   simp[this]
theorem qB {kindOf:Str->Option qb9}{x:Str}{v:Value}:∀ {P:List Str}{vs:List Value}{i:Nat}{m:Str->Option Value},P.Nodup->P[i]?=some x->vs[i]?=some v->kindOf x=some .local->
  bindL kindOf (P.zip vs) m x=some v
 |[],_,_,_,_,h,_,_=>by simp at h
 |_::_,[],_,_,_,_,h,_=>by simp at h
 |p::P,w::vs,0,m,nd,h1,h2,hk=>by
  simp at h1 h2;subst h1;subst h2
  show bindL kindOf ((p,w)::P.zip vs) m p=_
  unfold bindL
  rw[qG λv hv=>(qbR.mp nd).1 (qgs hv).1,if_pos hk]
  simp
 |p::P,w::vs,i+1,m,nd,h1,h2,hk=>by
  show bindL kindOf ((p,w)::P.zip vs) m x=_
  unfold bindL
  exact qB (i:=i) (qbR.mp nd).2 (by simpa using h1) (by simpa using h2) hk
theorem qu {kindOf:Str->Option qb9}{x:Str}{v:Value}:∀ {P:List Str}{vs:List Value}{i:Nat}{m:Str->Option Value},P.Nodup->P[i]?=some x->vs[i]?=some v->kindOf x≠some .local->
  bindC kindOf (P.zip vs) m x=some v
 |[],_,_,_,_,h,_,_=>by simp at h
 |_::_,[],_,_,_,_,h,_=>by simp at h
 |p::P,w::vs,0,m,nd,h1,h2,hk=>by
  simp at h1 h2;subst h1;subst h2
  show bindC kindOf ((p,w)::P.zip vs) m p=_
  unfold bindC
  rw[qt λv hv=>(qbR.mp nd).1 (qgs hv).1,if_neg hk]
  simp
 |p::P,w::vs,i+1,m,nd,h1,h2,hk=>by
  show bindC kindOf ((p,w)::P.zip vs) m x=_
  unfold bindC
  exact qu (i:=i) (qbR.mp nd).2 (by simpa using h1) (by simpa using h2) hk
def start (N:List Str) (vs:List V):St:=vs.map some++qaT (N.length - vs.length) none
def rT (CX:CXT) (P:qaX) (w:World) (K:qai) (mg:Str->Option Value) (base:Heap) (N:List Str) (qual:Str) (scope:Scope) (f:Addr) (cd:Value) (A:qbc) (outer:List Env) (s:qaj) (H:Hp) (E:XK):Cx where
 prog:=P
 w:=w
 K:=K
 mg:=mg
 base:=base
 A:=A.deeper (qgj qual scope s.heap.objs.size f cd)
 N:=N
 s₀:=s
 H₀:=H
 env:=qgj qual scope s.heap.objs.size f cd
 outer:=outer
 stack:=qgj qual scope s.heap.objs.size f cd::outer
 ex:=[]
 calm:=true
 fn:=λ_=>true
 pn:=[]
 xe:=λe s'=>wpAny (model P w) (A.deeper (qgj qual scope s.heap.objs.size f cd)) (leaving (qgj qual scope s.heap.objs.size f cd) e) (λ_ s''=>CX outer H s E e s'') (λe' s''=>CX outer H s E e' s'') s'
theorem tm {sc:Scope}{n:Nat}{x:Str} (h:sc.names.lookup x=some .cell):∃ c,(qcb n sc.names []).lookup x=some c:=by
 have q:=qdr sc.names n [] (.inl h)
 exact qdj.mp q
theorem yg {CX:CXT}{P:qaX}{w:World}{K:qai}{mg:Str->Option Value}{base:Heap}{N ps:List Str}{qual:Str}{scope:Scope}{f:Addr}{cd:Value}{A:qbc}{outer:List Env}{s s1:qaj}{H:Hp}{E:XK}{us:List Value}{vs:List V}
  (S:aH N ps scope) (hd:A.handled=none) (e0:Bv P w K mg base A outer s H) (hl:vs.length=ps.length) (r:aQ vs us)
  (x:InCallC s s.heap.objs.size (bindL (qgj qual scope s.heap.objs.size f cd).kindOf (ps.zip us) λ_=>none) (qcb (s.heap.objs.size+1) scope.names []) (bindC (qgj qual scope s.heap.objs.size f cd).kindOf (ps.zip us) λ_=>none) s1) :
  Inv (rT CX P w K mg base N qual scope f cd A outer s H E) [] (start N vs) H s1:=by
 have hpl:ps.length<=N.length:=by have:=congrArg qgt S.pre;rw[qdk]at this;lia
 obtain⟨h1,tk,rfl,hk⟩:=x.done
 have noA:∀ b:Addr,b∉(rT CX P w K mg base N qual scope f cd A outer s H E).ex:=λb z=>absurd (show b∈([]:List Addr) from z) (by simp)
 refine⟨⟨e0.mod,S.kind,rfl,rfl,qan _,λy z c h1 h2=>?_,λy hy=>?_,λy c _ h=>?_,λ_=>hd,Around.frames_deeper e0.frames,.inr ⟨rfl,rfl⟩,λb z=>absurd z (noA b),e0.bs,e0.bsz,λb _ _=>noA b,λb z=>absurd z (noA b),e0.funs,e0.frf⟩,
  rfl,e0.bare,Un.kept hk,⟨_,x.toInCall.ns,λi y v h1 h2 h3=>?_⟩,λy c h=>⟨_,x.cell y c h⟩,e0.hok.fresh (qan _),λy c h=>?_,λp hp=>absurd (show p∈([]:List (Addr×Obj)) from hp) (by simp),e0.hok.kept hk,?_⟩
 ·exact name_of_addr x.apart (qby h1) (qby h2)
 ·have hy:scope.names.lookup y=some .cell\/scope.names.lookup y=some .free:=hy
  rcases hy with hy|hy
  ·exact tm hy
  ·exact absurd rfl (S.nofree _ (qby hy))
 ·exact qdQ (x.above y c (qby h))
 ·have hi:i<vs.length:=by
   unfold start at h2
   by_cases hi:i<vs.length
   ·exact hi
   ·rw[qbd (by simpa using hi)]at h2
    rw[qdu]at h2
    split at h2<;>cases h2
  have ha:vs[i]?=some v:=by
   unfold start at h2
   rw[qaY (by simpa using hi),qaZ]at h2
   cases e:vs[i]? with
   |none=>rw[e]at h2;cases h2
   |some a=>rw[e]at h2;cases h2;rfl
  obtain⟨u,hu,rv⟩:=r.get ha
  have hp:ps[i]?=some y:=by
   rw[<-S.pre,qg5 (by lia)];exact h1
  have ndP:ps.Nodup:=by rw[<-S.pre];exact S.nd.sublist (List.take_sublist _ _)
  refine⟨u,rv,?_⟩
  rcases S.par y (qbu hp) with k|k
  ·exact .inl ⟨k,qB ndP hp hu k⟩
  ·obtain⟨c,e⟩:=tm (n:=s.heap.objs.size+1) k
   refine .inr ⟨.inl k,c,e,?_⟩
   have q:=x.cell y c e
   rw[qu ndP hp hu (by show scope.names.lookup y≠_;rw[k];decide)]at q
   exact q
 ·exact e0.hok.fresh (qdQ (x.above y c (qby h)))
 ·unfold start
  show _=N.length
  rw[qa2,qae,qc3]
  lia
theorem FT {CX:CXT}{P:qaX}{w:World}{K:qai}{mg:Str->Option Value}{base:Heap}{k:Nat}{f:Addr}{name qual:Str}{params:Arguments}{body:List Stmt}{scope:Scope}{dV kV doc pm cdv ct oc:Value}{an od:Option Addr}
  {osl:Array (Option Value)}{N ps:List Str}{sp:Sp} (lk:K.lookup f=some ⟨oc,od,.func (qaU name qual params body scope dV kV doc pm an cdv ct),osl⟩) (hcd:qaM K cdv qual=true) (S:aH N ps scope)
  (len:∀ vs H Q E,sp vs H Q E->vs.length=ps.length)
  (hbody:∀ (A:qbc) (outer:List Env) (s:qaj) (H:Hp) (vs:List V) (Q:VK) (E:XK),cZ k (A.deeper (qgj qual scope s.heap.objs.size f cdv))->sp vs H Q E->
    ∃ t,PSs (rT CX P w K mg base N qual scope f cdv A outer s H E) body t/\t { nx:=λ_ H'=>Q .non H',rt:=Q } (start N vs) H) :
  bX P w K mg base CX (k+1) f (qaU name qual params body scope dV kV doc pm an cdv ct) ps sp:=by
 refine⟨len,λA outer s H args us vs Q E hr e0 hb r hsp=>?_⟩
 have hl:=len _ _ _ _ hsp
 have KX:K.In s.heap:=e0.mod.kin.keeps λb o e=>(e0.bs b o e).1
 have lim:s.heap.NoLimit:=e0.mod.nolimit.keeps λb o e=>(e0.bs b o e).1
 have hkind:∀ y∈ps.zip us,scope.names.lookup y.1=some .local\/(scope.names.lookup y.1=some .cell/\((qcb (s.heap.objs.size+1) scope.names []).lookup y.1).isSome=true):=λ⟨n,v⟩ hy=>by
  rcases S.par n (qgs hy).1 with q|q
  ·exact .inl q
  ·exact .inr ⟨q,qdr _ _ _ (.inl q)⟩
 refine codeAny_call_function hr.depth (KX _ _ lk) rfl S.co S.gen rfl (PySem.W.codeRec_of KX hcd) (hb _ _ _ _ ?_)
 refine wpAny_newFunctionEnv_cells S.kind hkind λenv he s1 x=>?_
 subst he
 refine⟨lim.keeps x.toInCall.keep,codeAny_func ?_⟩
 obtain⟨t,ht,hq⟩:=hbody A outer s H vs Q E (hr.deeper _) hsp
 have I:Inv (rT CX P w K mg base N qual scope f cdv A outer s H E) [] (start N vs) H s1:=yg S hr.hd e0 hl r x
 refine qcu (ht [] s1 (start N vs) H _ I hq) (λfl s' hs=>?_) λe s' hs=>hs
 have fin:∀ {σ':St}{H':Hp}{v:V}{u:Value},Inv (rT CX P w K mg base N qual scope f cdv A outer s H E) [] σ' H' s'->aV v u->Q v H'->CE outer P w H s Q u s':=
  λ{σ' H' v u} J rv q=>⟨v,H',J.os,J.bare,J.base,J.hok,rv,q⟩
 cases fl with
 |ret u=>
  obtain⟨v,σ',H',J,rv,q⟩:=hs
  exact fin J rv q
 |next=>
  obtain⟨σ',H',J,q⟩:=hs
  exact fin (v:=V.non) (u:=Value.none) J rfl q
 |brk=>
  obtain⟨_,_,_,q⟩:=hs
  exact qdl q
 |cont=>
  obtain⟨_,_,_,q⟩:=hs
  exact qdl q
section
variable {X:Cx}{x:Str}{p pos:Pos}{e:Expr}{es:List Expr}{t:TA}{id T:String}{r:List V->Hp->VK->Prop}
def tCB (r:List V->Hp->VK->Prop) (t:TA):TE:=λσ H Q=>t σ H λvs H1=>r vs H1 Q
theorem oa (hc:cx X (.builtin id) r) (hg:Gl X x) (hm:X.mg x=none) (hv:qdB x=some (.builtin id)) (ha:PA X (e::es) t) (hn:x≠"__name__":=by decide) (hdb:(x==("__debug__" : Str))=false:=by decide)
  (he:qbB (e::es) X.env=(false,eval e X.env)::qbB es X.env:=by rfl) (hpl:(qea pos (qbB es X.env)).any (·.1)=false:=by rfl):PE X (.Call (.Name x p) (e::es) [] pos) (tCB r t):=by
 intro pins s σ H Q I h
 refine qc8 (je I hg hm hv ?_ hn hdb)
 exact qe1 (thn (ha pos pins s σ H _ I h) λus s1 ⟨vs,H1,I1,r1,q1⟩=>hc pins s1 σ H1 vs us Q I1 r1 q1) he hpl
theorem xT (hc:cx X (.type T) r) (hg:Gl X x) (hm:X.mg x=none) (hv:qdB x=some (.type T)) (ha:PA X (e::es) t) (hn:x≠"__name__":=by decide) (hdb:(x==("__debug__" : Str))=false:=by decide)
  (he:qbB (e::es) X.env=(false,eval e X.env)::qbB es X.env:=by rfl) (hpl:(qea pos (qbB es X.env)).any (·.1)=false:=by rfl):PE X (.Call (.Name x p) (e::es) [] pos) (tCB r t):=by
 intro pins s σ H Q I h
 refine qc8 (je I hg hm hv ?_ hn hdb)
 exact qce (thn (ha pos pins s σ H _ I h) λus s1 ⟨vs,H1,I1,r1,q1⟩=>hc pins s1 σ H1 vs us Q I1 r1 q1) he hpl
end
end L2
namespace HT
open PySem PyProof.Rows
section
open PySem.SeqAt
open PySem.AutoSeq1 (wpAny_loadPart')
open PySem.MeetsSeq PySem.MeetsSeq2 PySem.MeetsSeq3
end
section
variable {prog:qaX}{w:World}{A:qbc}{E:Value->qaj->Prop}{s:qaj}
theorem cat_tup {t b:Addr}{vs ws:List Value}{Q:Value->qaj->Prop} (ht:IsTup s.heap t vs.toArray) (hb:IsTup s.heap b ws.toArray) (hv:vs≠[])
  (h1:ws=[]->Q (.ref t) s) (h2:ws≠[]->Q (.ref s.heap.objs.size) { s with heap:=s.heap.push { cls:=.type "tuple",data:=.seq (vs++ws).toArray } })
  (hsz:vs.length+ws.length<=qaS):wpAny (model prog w) A (qbC .Add (.ref t) (.ref b)) Q E s:=by
 obtain⟨⟨cls,dd,data,sl⟩,ho,hc,n,hd⟩:=id ht
 obtain⟨⟨cls2,dd2,data2,sl2⟩,ho2,hc2,n2,hd2⟩:=id hb
 simp only at hc hd hc2 hd2
 subst hc hd hc2 hd2
 have e:vs.toArray++ws.toArray=(vs++ws).toArray:=by simp
 by_cases hw:ws=[]
 ·exact qiJ ⟨_,ho,rfl⟩ ⟨_,ho2,rfl⟩ qgY qie qez qev (qei _ _)
   (tuple_addW1 t b vs.toArray ws.toArray n n2 dd dd2 sl sl2 (by simpa using hv) (by simp[hw])) ⟨ho,ho2,h1 hw⟩
 ·refine qiJ ⟨_,ho,rfl⟩ ⟨_,ho2,rfl⟩ qgY qie qez qev (qei _ _)
   (tuple_addW2 t b vs.toArray ws.toArray n n2 dd dd2 sl sl2 (by simpa using hv) (by simpa using hw) (by rw[qaz,qaz];exact hsz)) ⟨ho,ho2,?_⟩
  rw[e]
  exact h2 hw
def sIx (n d:Nat):Option Int->Nat
 |none=>d
 |some v=>if v<0 then (v+(n:Int)).toNat else min v.toNat n
theorem EJ (n d:Nat) (hd:d<=n) (o:Option Int):sIx n d o<=n:=by
 cases o with
 |none=>exact hd
 |some v=>
  show (if v<0 then (v+(n:Int)).toNat else min v.toNat n)<=n
  by_cases hv:v<0
  ·rw[if_pos hv];lia
  ·rw[if_neg hv];exact Nat.min_le_right _ _
theorem v7 (v:Int) (n d:Nat):(if v<0 then max (v+(n:Int)) 0 else min v (n:Int))=((sIx n d (some v):Nat):Int):=by
 show (if v<0 then max (v+(n:Int)) 0 else min v (n:Int))=(((if v<0 then (v+(n:Int)).toNat else min v.toNat n):Nat):Int)
 by_cases hv:v<0
 ·simp only[if_pos hv];lia
 ·simp only[if_neg hv];lia
theorem vg (lo hi:Option Int) (n:Nat):qdS lo hi 1 (n:Int)=(((sIx n 0 lo:Nat):Int),((sIx n n hi:Nat):Int)):=by
 have h1:¬ ((1:Int)<0):=by lia
 unfold qdS
 simp only[h1,if_false]
 refine Prod.ext ?_ ?_
 ·cases lo with
  |none=>rfl
  |some v=>exact v7 v n 0
 ·cases hi with
  |none=>rfl
  |some v=>exact v7 v n n
theorem uU (i j:Nat):qcY (i:Int) (j:Int) 1=j - i:=by
 unfold qcY
 have h1:(1:Int) > 0:=by lia
 simp only[h1,if_true,Int.ediv_one]
 split<;>lia
theorem oG {v:Value}{o:Option Int}{Q:Option Int->qaj->Prop} (p:qgQ v o) (h:Q o s):wpAny (model prog w) A (qjW v) Q E s:=by
 cases p with
 |none=>exact qlc h
 |int i t=>exact slicePart_int h
theorem iq {sl:Addr}{vl vu:Value}{lo hi:Option Int}{n:Nat}{Q:Int×Int×Nat->qaj->Prop} (hs:s.heap.IsSliceOf sl vl vu .none) (pl:qgQ vl lo) (pu:qgQ vu hi)
  (h:Q (((sIx n 0 lo:Nat):Int),1,sIx n n hi - sIx n 0 lo) s):wpAny (model prog w) A (qfp (.ref sl) (pure (n:Int))) Q E s:=by
 obtain⟨os,hos,hcs,hds⟩:=id hs
 unfold qfp qjX
 refine qaa (qaa (qep hos hds (x:=vl) rfl (qaa (qep hos hds (x:=vu) rfl (qaa (qep hos hds (x:=.none) rfl (qab ?_)))))))
 refine qaa (qlc ?_)
 show wpAny _ _ (if ((1:Int)==0)=true then _ else _) _ _ s
 rw[if_neg (by decide)]
 refine qaa (oG pl (qaa (oG pu (qaa (qab ?_)))))
 show wpAny _ _ (match qdS lo hi 1 (n:Int) with|(lo,hi)=>pure (lo,(1:Int),qcY lo hi 1)) _ _ s
 rw[vg lo hi n]
 show wpAny _ _ (pure (((sIx n 0 lo:Nat):Int),(1:Int),qcY ((sIx n 0 lo:Nat):Int) ((sIx n n hi:Nat):Int) 1)) _ _ s
 rw[uU]
 exact qab h
theorem zR (xs:Array Value) (i k:Nat):((qam k).filterMap λ(m:Nat)=>xs[((i:Int)+(m:Int)*1).toNat]?).toArray=((xs.toList.drop i).take k).toArray:=by
 have e:(λ(m:Nat)=>xs[((i:Int)+(m:Int)*1).toNat]?)=λm=>xs[i+m]?:=by
  funext m
  have:((i:Int)+(m:Int)*1).toNat=i+m:=by lia
  rw[this]
 rw[e]
 have:=pick_run xs i k
 rw[List.filterMap_map]at this
 have e2:((λx=>xs[x]?) ∘ λx=>i+x)=λm=>xs[i+m]?:=rfl
 rw[e2]at this
 rw[this]
theorem getItem_tuple_cut {t sl:Addr}{items:Array Value}{vl vu:Value}{lo hi:Option Int}{Q:Value->qaj->Prop} (ht:IsTup s.heap t items) (hs:s.heap.IsSliceOf sl vl vu .none) (pl:qgQ vl lo) (pu:qgQ vu hi)
  (hw:¬ (sIx items.size 0 lo=0/\sIx items.size items.size hi=items.size))
  (h:Q (.ref s.heap.objs.size) { s with heap:=s.heap.push { cls:=.type "tuple",data:=.seq ((items.toList.drop (sIx items.size 0 lo)).take (sIx items.size items.size hi - sIx items.size 0 lo)).toArray } })
  (hsz:items.size<=qaS):wpAny (model prog w) A (qfz (.ref t) (.ref sl)) Q E s:=by
 have htake:sizeOk (.seq ((items.toList.drop (sIx items.size 0 lo)).take (sIx items.size items.size hi - sIx items.size 0 lo)).toArray):=by
  show ((items.toList.drop (sIx items.size 0 lo)).take (sIx items.size items.size hi - sIx items.size 0 lo)).toArray.size<=qaS
  rw[qaz,qdk,qiO,qa5]
  lia
 have hj:sIx items.size items.size hi<=items.size:=EJ _ _ (qan _) hi
 obtain⟨os,hos,hcs,hds⟩:=id hs
 have hTs:s.TypeIs (.ref sl) "slice":=⟨os,hos,hcs⟩
 unfold qfz
 try with_reducible refine qbj ?_
 first|refine qaa (qab ?_)|skip
 refine qaa (qjB ht.typeIs (by decide) ?_)
 refine qaa (qbO (name:=qbH "__getitem__") ht.typeIs qbE
  (qbn qbE ht.typeIs qja ?_ (qjo _ _)))
 show wpAny _ _ (qfo (.ref t) >>= _) _ _ s
 refine qaa (tupleItemsOf_ ht ?_)
 refine qaa (qft hTs ?_)
 rw[if_pos (by decide)]
 refine qaa (iq hs pl pu ?_)
 have hno:¬ ((((sIx items.size 0 lo:Nat):Int)==0&&(1:Int)==1&&(sIx items.size items.size hi - sIx items.size 0 lo)==items.size)=true):=by
  intro q
  rw[qa8,qa8]at q
  have q1:((sIx items.size 0 lo:Nat):Int)=0:=eq_of_beq q.1.1
  have q2:sIx items.size items.size hi - sIx items.size 0 lo=items.size:=eq_of_beq q.2
  exact hw ⟨by lia,by lia⟩
 show wpAny _ _ (if (((sIx items.size 0 lo:Nat):Int)==0&&(1:Int)==1&&(sIx items.size items.size hi - sIx items.size 0 lo)==items.size)=true then _ else _) _ _ s
 rw[if_neg hno,zR]
 first
  |exact qaa (m:=qc5 _) (qbi (qab ⟨_,rfl,qab h⟩) htake)
  |exact qaa (m:=qc5 _) (qbi (qaa (qab (qab ⟨_,rfl,qab h⟩))) htake)
  |exact qaa (qaa (m:=qc5 _) (qbi (qab (qab ⟨_,rfl,qab h⟩)) htake))
  |exact qaa (qaa (m:=qc5 _) (qbi (qab ⟨_,rfl,qab h⟩) htake))
end
end HT
namespace L2
open PySem PySem.Spec PyProof.Rows
abbrev TO:=St->Hp->(Option Int->Hp->Prop)->Prop
def PO (X:Cx) (e:Option Expr) (t:TO):Prop:=
 ∀ (pins:List (Addr×Obj)) (s:qaj) (σ:St) (H:Hp) (Q:Option Int->Hp->Prop),Inv X pins σ H s->t σ H Q->
  wpAny (model X.prog X.w) X.A (evalPart e X.env) (λu s'=>∃ o H',Inv X pins σ H' s'/\qgQ u o/\Q o H') X.xe s
def B2:TO:=λ_ H Q=>Q none H
def E7 (t:TE):TO:=λσ H Q=>t σ H λx H1=>∃ i,x=.int i/\Q (some i) H1
theorem iD {ns:List Int}:∀ {us:List Value},aQ (ns.map V.int) us->qcT us ns:=by
 induction ns with
 |nil=>intro us r;rw[qcM]at r;cases r;exact .nil
 |cons n ns ih=>
  intro us r
  rw[qal]at r
  cases r with
  |cons r1 r2=>
   obtain⟨t,e⟩:=r1
   subst e
   exact .cons n t (ih r2)
section
variable {X:Cx}{e:Expr}{te:TE}{lo hi:Option Expr}{tl th:TO}{pos p2:Pos}
theorem BV:PO X none B2:=by
 intro pins s σ H Q I h
 rw[evalPart_none]
 exact qab ⟨none,H,I,.none,h⟩
theorem B0 (h:PE X e te):PO X (some e) (E7 te):=by
 intro pins s σ H Q I hw
 rw[evalPart_some]
 refine thn (h pins s σ H _ I hw) λu s1 ⟨x,H1,I1,r1,q1⟩=>?_
 obtain⟨i,rfl,q⟩:=q1
 obtain⟨t,rfl⟩:=r1
 exact⟨some i,H1,I1,.int i t,q⟩
def SlR (X:Cx) (r:V->Option Int->Option Int->Hp->VK->Prop):Prop:=
 ∀ (pins:List (Addr×Obj)) (s:qaj) (σ:St) (H:Hp) (x:V) (v vl vu:Value) (lo hi:Option Int) (sl:Addr) (Q:VK),Inv X pins σ H s->aV x v->s.heap.IsSliceOf sl vl vu .none->qgQ vl lo->qgQ vu hi->r x lo hi H Q->
  ∃ T id,typeLookup (.type T) "__getitem__" = pure (some (.builtin id))/\s.TypeIs v T/\wpAny (model X.prog X.w) X.A (qfz v (.ref sl)) (EP X pins σ Q) X.xe s
def tSl (r:V->Option Int->Option Int->Hp->VK->Prop) (te:TE) (tl th:TO):TE:=λσ H Q=>te σ H λx H1=>tl σ H1 λl H2=>th σ H2 λu H3=>r x l u H3 Q
theorem tw {r:V->Option Int->Option Int->Hp->VK->Prop} (hr:SlR X r) (he:PE X e te) (hl:PO X lo tl) (hu:PO X hi th):PE X (.Subscript e (.Slice lo hi none p2) pos) (tSl r te tl th):=by
 intro pins s σ H Q I h
 refine qjM (thn (he pins s σ H _ I h) λv s1 ⟨x,H1,I1,r1,q1⟩=>?_)
 refine wpAny_Slice (thn (hl pins s1 σ H1 _ I1 q1) λvl s2 ⟨l,H2,I2,pl,q2⟩=>thn (hu pins s2 σ H2 _ I2 q2) λvu s3 ⟨u,H3,I3,pu,q3⟩=>?_)
 rw[evalPart_none]
 refine qab ?_
 have I4:Inv X pins σ H3 { s3 with heap:=s3.heap.push { cls:=.type "slice",data:=.fields #[vl,vu,.none] } }:=I3.kept (t':=s3.toks) λb ob q=>qag _ q
 obtain⟨T,id,hT,ht,hg⟩:=hr pins { s3 with heap:=s3.heap.push { cls:=.type "slice",data:=.fields #[vl,vu,.none] } } σ H3 x v vl vu l u s3.heap.objs.size Q I4 r1 (qjx ..) pl pu q3
 show wpAny (model X.prog X.w) X.A (qib e (.Slice lo hi none p2) v (.ref s3.heap.objs.size)) (EP X pins σ Q) X.xe { s3 with heap:=s3.heap.push { cls:=.type "slice",data:=.fields #[vl,vu,.none] } }
 exact tail_any (ops:=[.ref s3.heap.objs.size,v]) ht hT hg (by with_unfolding_all rfl)
def r8 (xs:List V) (lo hi:Option Int):List V:=(xs.drop (HT.sIx xs.length 0 lo)).take (HT.sIx xs.length xs.length hi - HT.sIx xs.length 0 lo)
theorem mO (xs:List V) (lo hi:Option Int):(r8 xs lo hi).length<=xs.length:=by
 unfold r8
 rw[qdk,qiO]
 lia
def GA (K:qai):V->Option Int->Option Int->Hp->VK->Prop:=λx lo hi H Q=>∃ a xs,x=.ref a/\SqT K H a xs/\
 ¬ (HT.sIx xs.length 0 lo=0/\HT.sIx xs.length xs.length hi=xs.length)/\∀ p,H p=none->Q (.ref p) (upd H p (.tup (r8 xs lo hi)))
theorem Ew:SlR X (GA X.K):=by
 intro pins s σ H x v vl vu lo hi sl Q I rx hs pl pu h
 obtain⟨a,xs,rfl,hx,hw,q⟩:=h
 cases rx
 obtain⟨its,r,ht,hz⟩:=I.tuple hx
 have hlen:its.toArray.size=xs.length:=by rw[qaz];exact r.length.symm
 refine⟨"tuple",_,qbE.lookup,ht.typeIs,?_⟩
 refine HT.getItem_tuple_cut ht hs pl pu (by rw[hlen];exact hw) ?_ (by rw[hlen];exact hz)
 rw[hlen]
 refine⟨.ref s.heap.objs.size,_,I.laid (t':=s.toks) (o:=.tup (r8 xs lo hi)) (λb ob q=>qag _ q) (qan _) ?_,rfl,q _ (I.hok.fresh (qan _))⟩
 exact⟨qaH (mO xs lo hi) hz,_,(r.drop (HT.sIx xs.length 0 lo)).take (HT.sIx xs.length xs.length hi - HT.sIx xs.length 0 lo),eJ.new _ _⟩
def E9 (K:qai):R2:=λx y H Q=>∃ a b xs ys,x=.ref a/\y=.ref b/\SqT K H a xs/\SqT K H b ys/\xs≠[]/\xs.length+ys.length<=qaS/\
 (ys=[]->Q (.ref a) H)/\(ys≠[]->∀ p,H p=none->Q (.ref p) (upd H p (.tup (xs++ys))))
theorem aQ.nil_iff {xs:List V}{us:List Value} (r:aQ xs us):us=[]↔xs=[]:=by
 cases r with
 |nil=>simp
 |cons _ _=>simp
theorem A7:OpR X (qbC .Add) (E9 X.K):=by
 intro pins s σ H x y v u Q I rx ry h
 obtain⟨a,b,xs,ys,rfl,rfl,ha,hb,hx,hz,q1,q2⟩:=h
 cases rx
 cases ry
 obtain⟨its,r1,p1,_⟩:=I.tuple ha
 obtain⟨its2,r2,p2,_⟩:=I.tuple hb
 refine HT.cat_tup p1 p2 (λz=>hx (r1.nil_iff.mp z)) (λz=>⟨.ref a,H,I,rfl,q1 (r2.nil_iff.mp z)⟩) (λz=>?_) (by rw[<-r1.length,<-r2.length];exact hz)
 refine⟨.ref s.heap.objs.size,_,I.laid (t':=s.toks) (o:=.tup (xs++ys)) (λb ob q=>qag _ q) (qan _) ?_,rfl,q2 (λw=>z (r2.nil_iff.mpr w)) _ (I.hok.fresh (qan _))⟩
 exact⟨by rw[qa2];exact hz,_,r1.append r2,eJ.new _ _⟩
end
def ixN (n:Nat) (i:Int):Option Nat:=if 0<=i then (if i<n then some i.toNat else none) else if -(n:Int)<=i then some (i+n).toNat else none
def atI {α:Type} (xs:List α) (i:Int):Option α:=(ixN xs.length i).bind λj=>xs[j]?
theorem rK {n:Nat}{i:Int}{j:Nat} (h:ixN n i=some j):qk0 i n=some j/\j<n/\-(n:Int)<=i/\i<n:=by
 unfold ixN at h
 by_cases h0:0<=i
 ·rw[if_pos h0]at h
  by_cases h1:i<n
  ·rw[if_pos h1]at h
   have e:i.toNat=j:=qaR h
   exact⟨by rw[qi5 h0 h1,e],by lia,by lia,h1⟩
  ·rw[if_neg h1]at h;cases h
 ·rw[if_neg h0]at h
  by_cases h1:-(n:Int)<=i
  ·rw[if_pos h1]at h
   have e:(i+n).toNat=j:=qaR h
   exact⟨by rw[qiG (by lia) h1,e],by lia,h1,by lia⟩
  ·rw[if_neg h1]at h;cases h
theorem rH {α:Type}{xs:List α}{i:Int}{v:α} (h:atI xs i=some v):∃ j,qk0 i xs.length=some j/\xs[j]?=some v/\j<xs.length/\-(xs.length:Int)<=i/\i<xs.length:=by
 unfold atI at h
 cases e:ixN xs.length i with
 |none=>rw[e]at h;cases h
 |some j=>
  rw[e]at h
  obtain⟨h1,h2,h3,h4⟩:=rK e
  exact⟨j,h1,h,h2,h3,h4⟩
theorem iW {α:Type}{xs:List α}{j:Nat}{v:α} (h:xs[j]?=some v):atI xs (j:Int)=some v:=by
 have hj:j<xs.length:=(qay.mp h).1
 have e:ixN xs.length (j:Int)=some j:=by
  unfold ixN
  rw[if_pos (by lia),if_pos (by lia)];simp
 unfold atI;rw[e];exact h
def wR (b:Expr):Prop:=∀ o i,qhj b false o i=operate [o,i] (qfz o i)
def IxR (X:Cx) (r:R2):Prop:=
 ∀ (value slice:Expr) (pins:List (Addr×Obj)) (s:qaj) (σ:St) (H:Hp) (x y:V) (v u:Value) (Q:VK),Inv X pins σ H s->aV x v->aV y u->r x y H Q->
  qhj slice false v u=operate [v,u] (qfz v u)->wpAny (model X.prog X.w) X.A (qib value slice v u) (EP X pins σ Q) X.xe s
def MtR (X:Cx) (id:String) (r:V->List V->Hp->VK->Prop):Prop:=
 ∀ (pins:List (Addr×Obj)) (s:qaj) (σ:St) (H:Hp) (x:V) (xs:List V) (v:Value) (us:List Value) (Q:VK),Inv X pins σ H s->aV x v->aQ xs us->r x xs H Q->
  wpAny (model X.prog X.w) X.A (call (.builtin id) (v::us)) (EP X pins σ Q) X.xe s
section
variable {X:Cx}{a b:Expr}{ta tb:TE}{pos:Pos}
theorem IxR.or {r r':R2} (h:IxR X r) (h':IxR X r'):IxR X (λx y H Q=>r x y H Q\/r' x y H Q):=by
 intro value slice pins s σ H x y v u Q I rx ry q hs
 rcases q with q|q
 ·exact h value slice pins s σ H x y v u Q I rx ry q hs
 ·exact h' value slice pins s σ H x y v u Q I rx ry q hs
theorem Cy {r:R2} (hr:IxR X r) (ha:PE X a ta) (hb:PE X b tb) (hs:wR b):PE X (.Subscript a b pos) (tOp r ta tb):=by
 intro pins s σ H Q I h
 exact qjM (FI ha hb I h λv u s2 x y H2 I2 rx ry q=>hr a b pins s2 σ H2 x y v u Q I2 rx ry q (hs _ _))
def Ge (K:qai):R2:=λx y H Q=>∃ p xs i v,x=.ref p/\y=.int i/\SqL K H p xs/\atI xs i=some v/\Q v H
def Gd (K:qai):R2:=λx y H Q=>∃ p xs i v,x=.ref p/\y=.int i/\SqT K H p xs/\atI xs i=some v/\Q v H
def EY:R2:=λx y H Q=>∃ z i c,x=.str z/\y=.int i/\z.length<=qaS/\atI z.cps.toList i=some c/\Q (.str ⟨#[c]⟩) H
theorem BO:IxR X (Ge X.K):=by
 intro value slice pins s σ H x y v u Q I rx ry h hs
 obtain⟨p,xs,i,z,rfl,rfl,hq,he,q⟩:=h
 cases rx
 obtain⟨t,rfl⟩:=ry
 obtain⟨its,r,pl,hz⟩:=I.list hq
 obtain⟨j,h1,h2,h3,h4,h5⟩:=rH he
 obtain⟨w,ew,rw'⟩:=r.get h2
 have hl:=r.length
 have hn:=mE
 have fin:EP X pins σ Q w s:=⟨z,H,I,rw',q⟩
 by_cases h0:0<=i
 ·have hj:i.toNat=j:=by
   rw[qi5 h0 h5]at h1
   exact qaR h1
  exact item_listR pl.isList h0 (by lia) (by rw[hj];simpa using ew) fin hs
 ·have hj:(i+(its.toArray.size:Int)).toNat=j:=by
   rw[qiG (by lia) h4]at h1
   rw[qaz,<-hl]
   exact qaR h1
  exact qiu (x:=w) pl.isList.typeIs qjG.lookup
   (wpAny_getItem_list_neg (Q:=λr s'=>r=w/\EP X pins σ Q r s') pl.isList (by lia) (by rw[qaz]<;>lia) (by lia) (by rw[hj];simpa using ew) ⟨rfl,fin⟩) hs
theorem EF:IxR X (Gd X.K):=by
 intro value slice pins s σ H x y v u Q I rx ry h hs
 obtain⟨p,xs,i,z,rfl,rfl,hq,he,q⟩:=h
 cases rx
 obtain⟨t,rfl⟩:=ry
 obtain⟨its,r,pl,hz⟩:=I.tuple hq
 obtain⟨j,h1,h2,h3,h4,h5⟩:=rH he
 obtain⟨w,ew,rw'⟩:=r.get h2
 have hl:=r.length
 have hn:=mE
 have fin:EP X pins σ Q w s:=⟨z,H,I,rw',q⟩
 exact qiu (x:=w) pl.typeIs slot_tuple_getitem.lookup
  (getItem_tuple (j:=j) (Q:=λr s'=>r=w/\EP X pins σ Q r s') pl (by lia) (by lia) (by rw[qaz,<-hl];exact h1) (by simpa using ew) ⟨rfl,fin⟩) hs
theorem EK:IxR X EY:=by
 intro value slice pins s σ H x y v u Q I rx ry h hs
 obtain⟨z,i,c,rfl,rfl,hz,he,q⟩:=h
 obtain⟨t,rfl⟩:=rx
 obtain⟨t',rfl⟩:=ry
 obtain⟨j,h1,h2,h3,h4,h5⟩:=rH he
 have hl:z.cps.toList.length=z.length:=by simp[Str.length]
 rw[hl]at h1 h4 h5
 have hn:=mE
 exact tail_any (typeIs_str s z t) slot_str_getitem.lookup (getItem_str (c:=c) (by
  have e1:decide (i < -(2^63:Int))=false:=decide_eq_false (by lia)
  have e2:decide (i>=2^63)=false:=decide_eq_false (by lia)
  rw[e1,e2,qeE]) (by rw[h1];simpa using h2) ⟨.str ⟨#[c]⟩,H,I.tok _,⟨_,rfl⟩,q⟩) hs
def rIx (K:qai):R2:=λx y H Q=>Ge K x y H Q\/Gd K x y H Q\/EY x y H Q
theorem vz:IxR X (rIx X.K):=BO.or (EF.or EK)
theorem vA (its:List Value) (n j:Nat) (u:Value):qb2 (·.setIfInBounds j u) { cls:=.type "list",data:=.seq its.toArray n }={ cls:=.type "list",data:=.seq (its.set j u).toArray n }:=by
 simp[qb2]
theorem Inv.lst {pins:List (Addr×Obj)}{σ:St}{H:Hp}{s:qaj}{p:Addr}{xs:List V} (I:Inv X pins σ H s) (h:H p=some (.lst xs)) :
  ∃ (its:List Value) (n:Nat),aQ xs its/\s.heap.get? p=some { cls:=.type "list",data:=.seq its.toArray n }/\xs.length<=qaS:=by
 obtain⟨z,its,n,r,e⟩:=I.hok p _ h
 exact⟨its,n,r,e,z⟩
theorem Inv.lstUpd {pins:List (Addr×Obj)}{σ:St}{H:Hp}{s:qaj}{p:Addr}{xs ys:List V}{its its':List Value}{n n':Nat}{f:Obj->Obj} (I:Inv X pins σ H s) (h:H p=some (.lst xs))
  (ho:s.heap.get? p=some { cls:=.type "list",data:=.seq its.toArray n }) (hf:f { cls:=.type "list",data:=.seq its.toArray n }={ cls:=.type "list",data:=.seq its'.toArray n' }) (r:aQ ys its') (hz:ys.length<=qaS) (t:Nat) :
  Inv X pins σ (upd H p (.lst ys)) { s with heap:=s.heap.update p f,toks:=t }:=by
 have e:(s.heap.update p f).get? p=some { cls:=.type "list",data:=.seq its'.toArray n' }:=by
  rw[qbY f ho (by rw[hf]<;>rfl),hf]
 refine I.write (x:=p) (e:=p) (by rw[h];trivial) (.inl rfl) (λb u hb q=>(qbo _ _ (qcz hb)).trans q) ⟨_,e⟩ ?_
 exact⟨hz,its',n',r,e⟩
def EW:V->V->V->Hp->(Hp->Prop)->Prop:=λo i v H Q=>∃ p xs k j,o=.ref p/\i=.int k/\H p=some (.lst xs)/\ixN xs.length k=some j/\Q (upd H p (.lst (xs.set j v)))
theorem uc:Fx X EW:=by
 intro pins s σ H o i v ov iv u Q I ro ri rv h
 obtain⟨p,xs,k,j,rfl,rfl,hp,hj,q⟩:=h
 cases ro
 obtain⟨t,rfl⟩:=ri
 obtain⟨its,n,r,ho,hz⟩:=I.lst hp
 obtain⟨h1,h2,h3,h4⟩:=rK hj
 have hl:=r.length
 have hn:=mE
 have I':Inv X pins σ (upd H p (.lst (xs.set j v))) { s with heap:=s.heap.update p (qb2 (·.setIfInBounds j u)) }:=
  I.lstUpd hp ho (vA its n j u) (r.set rv j) (by rw[qcI];exact hz) s.toks
 by_cases h0:0<=k
 ·have hk:k.toNat=j:=by
   rw[qi5 h0 h4]at h1
   exact qaR h1
  exact PySem.W.ki_setAt ho h0 (by lia) (by rw[qaz,<-hl];exact h4) (by rw[hk];exact⟨_,I',q⟩)
 ·have hk:(k+(its.toArray.size:Int)).toNat=j:=by
   rw[qiG (by lia) h3]at h1
   rw[qaz,<-hl]
   exact qaR h1
  exact PySem.W.ki_setBack ho (by lia) (by rw[qaz,<-hl];exact h3) (by lia) (by rw[hk];exact⟨_,I',q⟩)
theorem sj (lo hi:Option Int) (n:Nat):(qeq lo hi none n).1=((HT.sIx n 0 lo:Nat):Int)/\(qeq lo hi none n).2.1=((HT.sIx n n hi:Nat):Int)/\(qeq lo hi none n).2.2=1:=by
 refine⟨?_,?_,rfl⟩
 ·cases lo with
  |none=>simp[qeq,HT.sIx]
  |some i=>
   simp only[qeq,HT.sIx,qil,show (1:Int) > 0 by decide,if_true]
   by_cases h:i<0
   ·simp only[h,if_true]<;>lia
   ·simp only[h,if_false]<;>lia
 ·cases hi with
  |none=>simp[qeq,HT.sIx]
  |some i=>
   simp only[qeq,HT.sIx,qil,show (1:Int) > 0 by decide,if_true]
   by_cases h:i<0
   ·simp only[h,if_true]<;>lia
   ·simp only[h,if_false]<;>lia
theorem pZ (its:List Value) (lo hi:Option Int):slicePick its.toArray lo hi none=((its.drop (HT.sIx its.length 0 lo)).take (HT.sIx its.length its.length hi - HT.sIx its.length 0 lo)).toArray:=by
 obtain⟨h1,h2,h3⟩:=sj lo hi its.toArray.size
 unfold slicePick
 rw[h1,h2,h3]
 simp only[sliceRange_one,pick_run,qaz]<;>rfl
def Gy (K:qai):V->Option Int->Option Int->Hp->VK->Prop:=λx lo hi H Q=>∃ a xs,x=.ref a/\SqL K H a xs/\∀ p,H p=none->Q (.ref p) (upd H p (.lst (r8 xs lo hi)))
theorem BW:SlR X (Gy X.K):=by
 intro pins s σ H x v vl vu lo hi sl Q I rx hs pl pu h
 obtain⟨a,xs,rfl,hx,q⟩:=h
 cases rx
 obtain⟨its,r,ht,hz⟩:=I.list hx
 have hlen:=r.length
 refine⟨"list",_,qjG.lookup,ht.isList.typeIs,?_⟩
 refine wpAny_getItem_list_slice ht.isList hs pl pu .none (by simp) ?_ (by rw[qaz]<;>lia)
 rw[pZ,<-hlen]
 refine⟨.ref s.heap.objs.size,_,I.laid (t':=s.toks) (o:=.lst (r8 xs lo hi)) (λb ob q=>qag _ q) (qan _) ?_,rfl,q _ (I.hok.fresh (qan _))⟩
 exact⟨qaH (mO xs lo hi) hz,_,0,(r.drop (HT.sIx xs.length 0 lo)).take (HT.sIx xs.length xs.length hi - HT.sIx xs.length 0 lo),qaA _ rfl⟩
def gr:V->Bool
 |.non=>true
 |.bl _=>true
 |.int _=>true
 |.str _=>true
 |_=>false
def eqV:V->V->Bool
 |.non,.non=>true
 |.bl a,.bl b=>a==b
 |.bl a,.int b=>(if a then 1 else 0)==b
 |.int a,.bl b=>a==(if b then 1 else 0)
 |.int a,.int b=>a==b
 |.str a,.str b=>a==b
 |_,_=>false
theorem vG {A:qbc}{s:qaj}{y x:V}{u v:Value} (ry:aV y u) (rx:aV x v) (fy:gr y=true) (fx:gr x=true):qeu A s u v (eqV y x):=by
 cases y with
 |non=>
  cases ry
  cases x with
  |non=>cases rx;exact qfJ _
  |bl b=>cases rx;exact ql4 b
  |int b=>obtain⟨t,rfl⟩:=rx;exact ql3 b t
  |str b=>obtain⟨t,rfl⟩:=rx;exact ql1 b t
  |_=>exact absurd (show false=true from fx) qaq
 |bl a=>
  cases ry
  cases x with
  |non=>cases rx;exact qmh a
  |bl b=>cases rx;exact qmk a b
  |int b=>obtain⟨t,rfl⟩:=rx;exact qmj a b t
  |str b=>obtain⟨t,rfl⟩:=rx;exact qmg a b t
  |_=>exact absurd (show false=true from fx) qaq
 |int a=>
  obtain⟨t',rfl⟩:=ry
  cases x with
  |non=>cases rx;exact qmb a t'
  |bl b=>cases rx;exact qme a t' b
  |int b=>obtain⟨t,rfl⟩:=rx;exact qmd a t' b t
  |str b=>obtain⟨t,rfl⟩:=rx;exact qg0 a t' b t
  |_=>exact absurd (show false=true from fx) qaq
 |str a=>
  obtain⟨t',rfl⟩:=ry
  cases x with
  |non=>cases rx;exact qlX a t'
  |bl b=>cases rx;exact qlZ a t' b
  |int b=>obtain⟨t,rfl⟩:=rx;exact qgZ a t' b t
  |str b=>obtain⟨t,rfl⟩:=rx;exact qlW a t' b t
  |_=>exact absurd (show false=true from fx) qaq
 |_=>exact absurd (show false=true from fy) qaq
def eqU (x:V) (u:Value):Bool:=match u with
 |.none=>eqV .non x
 |.bool b=>eqV (.bl b) x
 |.int i _=>eqV (.int i) x
 |.str z _=>eqV (.str z) x
 |_=>false
theorem zf {x y:V}{u:Value} (r:aV y u) (f:gr y=true):eqU x u=eqV y x:=by
 cases y with
 |non=>cases r;rfl
 |bl b=>cases r;rfl
 |int i=>obtain⟨t,rfl⟩:=r;rfl
 |str z=>obtain⟨t,rfl⟩:=r;rfl
 |_=>exact absurd (show false=true from f) qaq
theorem sD {x:V}:∀ {xs:List V}{us:List Value},aQ xs us->xs.all gr=true->us.any (eqU x)=xs.any λy=>eqV y x
 |_,_,.nil,_=>rfl
 |y::xs,u::us,.cons r t,f=>by
  rw[qbL,qa8]at f
  rw[qcj,qcj,zf r f.1,sD t f.2]
theorem oX {A:qbc}{s:qaj}{x:V}{v:Value} (rx:aV x v) (fx:gr x=true):∀ {xs:List V}{us:List Value},aQ xs us->xs.all gr=true->∀ u∈us,qeu A s u v (eqU x u)
 |_,_,.nil,_=>λu hu=>by cases hu
 |y::xs,u::us,.cons r t,f=>λu' hu=>by
  rw[qbL,qa8]at f
  rcases qaC.mp hu with rfl|hu
  ·rw[zf r f.1];exact vG r rx f.1 fx
  ·exact oX rx fx t f.2 u' hu
def inV (x:V) (xs:List V):Bool:=xs.any λy=>eqV y x
def rIn (K:qai) (neg:Bool):R2:=λx y H Q=>∃ p xs,y=.ref p/\(SqL K H p xs\/SqT K H p xs)/\gr x=true/\xs.all gr=true/\Q (.bl (if neg then !inV x xs else inV x xs)) H
theorem rR:OpR X (qcF .NotIn) (rIn X.K true):=by
 intro pins s σ H x y v u Q I rx ry h
 obtain⟨p,xs,rfl,hq,fx,fs,q⟩:=h
 cases ry
 rcases hq with hq|hq
 ·obtain⟨its,r,pl,hz⟩:=I.list hq
  refine SeqAt.notIn_listAt (eqU x) pl.isList (λw hw=>oX rx fx r fs w (by simpa using hw)) ⟨.bl _,H,I,rfl,?_⟩
  rw[show its.toArray.any (eqU x)=its.any (eqU x) by simp,sD r fs]
  exact q
 ·obtain⟨its,r,pl,hz⟩:=I.tuple hq
  refine SeqAt.notIn_tupleAt (eqU x) pl (λw hw=>oX rx fx r fs w (by simpa using hw)) ⟨.bl _,H,I,rfl,?_⟩
  rw[show its.toArray.any (eqU x)=its.any (eqU x) by simp,sD r fs]
  exact q
theorem sn:cx X (.builtin "len") (λxs H Q=>∃ p ys,xs=[.ref p]/\(SqL X.K H p ys\/SqT X.K H p ys)/\Q (.int ys.length) H):=by
 intro pins s σ H xs us Q I r h
 obtain⟨p,ys,rfl,hq,q⟩:=h
 obtain⟨u,rfl,rx⟩:=lv r
 cases rx
 have hn:=mE
 rcases hq with hq|hq
 ·obtain⟨its,r',pl,hz⟩:=I.list hq
  have hlen:=r'.length
  exact Calls.call_len_list pl.isList (by simp only[qaz]<;>lia) ⟨.int ys.length,H,I.tok _,⟨s.toks+1,by rw[qaz,hlen]⟩,q⟩
 ·obtain⟨its,r',pl,hz⟩:=I.tuple hq
  have hlen:=r'.length
  exact len_tuple pl (by simp only[qaz]<;>lia) ⟨.int ys.length,H,I.tok _,⟨s.toks+1,by rw[qaz,hlen]⟩,q⟩
theorem sv:cx X (.builtin "len") (λxs H Q=>∃ z,xs=[.str z]/\z.length<=qaS/\Q (.int z.length) H):=by
 intro pins s σ H xs us Q I r h
 obtain⟨z,rfl,hz,q⟩:=h
 obtain⟨u,rfl,t,rfl⟩:=lv r
 have hn:=mE
 exact len_str (by lia) ⟨.int z.length,H,I.tok _,⟨_,rfl⟩,q⟩
theorem cx.or {f:Value}{r r':List V->Hp->VK->Prop} (h:cx X f r) (h':cx X f r'):cx X f (λxs H Q=>r xs H Q\/r' xs H Q):=by
 intro pins s σ H xs us Q I rs q
 rcases q with q|q
 ·exact h pins s σ H xs us Q I rs q
 ·exact h' pins s σ H xs us Q I rs q
theorem p5:cx X (.type "tuple") (λxs H Q=>∃ p ys,xs=[.ref p]/\((SqL X.K H p ys/\∀ l,H l=none->Q (.ref l) (upd H l (.tup ys)))\/(SqT X.K H p ys/\Q (.ref p) H))):=by
 intro pins s σ H xs us Q I r h
 obtain⟨p,ys,rfl,h⟩:=h
 obtain⟨u,rfl,rx⟩:=lv r
 cases rx
 rcases h with⟨hq,q⟩|⟨hq,q⟩
 ·obtain⟨its,r',pl,hz⟩:=I.list hq
  have hlen:=r'.length
  refine call_tuple_list pl.isList (λh' kp=>?_) (by simp only[qaz]<;>lia)
  have I1:Inv X pins σ H { s with heap:=h' }:=I.kept (t':=s.toks) kp
  have I2:Inv X pins σ (upd H h'.objs.size (.tup ys)) { s with heap:=h'.push { cls:=.type "tuple",data:=.seq its.toArray } }:=
   I1.laid (t':=s.toks) (λb o e=>qag _ e) (qan _) (show di X.prog X.w _ _ _ (.tup ys) from ⟨hz,its,r',eJ.new _ _⟩)
  exact⟨.ref h'.objs.size,_,I2,rfl,q _ (I1.hok.fresh (qan _))⟩
 ·obtain⟨its,r',pl,hz⟩:=I.tuple hq
  exact call_tuple_same pl ⟨.ref p,H,I,rfl,q⟩
def tyV (K:qai) (T:String) (x:V) (H:Hp):Prop:=match x with
 |.str _=>T = "str"
 |.int _=>T = "int"
 |.ref p=>(T = "list"/\∃ xs,SqL K H p xs)\/(T = "tuple"/\((∃ o,K.lookup p=some o/\o.cls=.type "tuple"/\o.dict=none)\/∃ xs,SqT K H p xs))\/
   (T = "dict"/\((∃ kvs,H p=some (.dK kvs))\/∃ kvs,H p=some (.dT kvs)))\/(T = "set"/\∃ S n,H p=some (.set S n))
 |_=>False
theorem Dm {pins:List (Addr×Obj)}{σ:St}{H:Hp}{s:qaj}{T:String}{x:V}{v:Value} (I:Inv X pins σ H s) (r:aV x v) (ty:tyV X.K T x H) :
  s.TypeIs v T/\∀ a,v=.ref a->∃ ob,s.heap.get? a=some ob/\ob.dict=none:=by
 cases x with
 |str z=>
  obtain⟨t,rfl⟩:=r
  cases (show T = "str" from ty)
  exact⟨typeIs_str s z t,λ_ e=>nomatch e⟩
 |int i=>
  obtain⟨t,rfl⟩:=r
  cases (show T = "int" from ty)
  exact⟨qfH s i t,λ_ e=>nomatch e⟩
 |ref p=>
  cases r
  rcases ty with⟨rfl,xs,hq⟩|⟨rfl,ht⟩|⟨rfl,hk⟩|⟨rfl,S,n,hk⟩
  ·obtain⟨its,_,pl,_⟩:=I.list hq
   refine⟨pl.isList.typeIs,λa e=>?_⟩
   cases e
   obtain⟨o,n,e,c,hd,_⟩:=pl
   exact⟨o,e,hd⟩
  ·have z:∃ o:Obj,s.heap.get? p=some o/\o.cls=.type "tuple"/\o.dict=none:=by
    rcases ht with⟨o,hk,hc,hd⟩|⟨xs,hq⟩
    ·exact⟨o,I.kIn p o hk,hc,hd⟩
    ·exact I.tuple1 hq
   obtain⟨o,e1,hc,hd⟩:=z
   refine⟨⟨o,e1,hc⟩,λa e=>?_⟩
   cases e
   exact⟨o,e1,hd⟩
  ·have z:∃ o,s.heap.get? p=some o/\o.ExactDict:=by
    rcases hk with⟨kvs,hk⟩|⟨kvs,hk⟩
    ·obtain⟨_,_,_,_,o,_,_,e,ex,_⟩:=I.hok p _ hk
     exact⟨o,e,ex⟩
    ·obtain⟨_,_,_,_,o,_,_,e,ex,_⟩:=I.hok p _ hk
     exact⟨o,e,ex⟩
   obtain⟨o,e,ex⟩:=z
   refine⟨⟨o,e,ex.1⟩,λa e2=>?_⟩
   cases e2
   exact⟨o,e,ex.2.1⟩
  ·obtain⟨o,_,_,_,e,ex,_⟩:=I.hok p _ hk
   refine⟨⟨o,e,ex.1⟩,λa e2=>?_⟩
   cases e2
   exact⟨o,e,ex.2.1⟩
 |_=>exact qdl ty
def tBM (K:qai) (T:String) (r:V->List V->Hp->VK->Prop) (to:TE) (t:TA):TE:=λσ H Q=>to σ H λx H1=>tyV K T x H1/\t σ H1 λxs H2=>r x xs H2 Q
variable {o e:Expr}{es:List Expr}{to:TE}{t:TA}{name:Str}{apos cpos:Pos}{T id:String}{r:V->List V->Hp->VK->Prop}
theorem Ft (pa:PlainAttrs T) (slot:Slot T name id) (hty:typeOf (.builtin id)=pure (.type "method_descriptor")) (hm:MtR X id r) (ho:PE X o to) (ha:PA X (e::es) t)
  (hbase:qeh o name X.env (eval o X.env)=eval o X.env:=by rfl)
  (hfew:((qea cpos (qbB (e::es) X.env)).all (λx=>!x.1) && (qgl cpos (qer [] X.env)).all (λx=>x.1.isSome)
    && decide ((e::es).length+([]:List qgC).length+(if ([]:List qgC).isEmpty then 0 else 1)<30))=true:=by rfl)
  (hline:(apos.endLine==cpos.line)=true:=by rfl) (hs:qbB (e::es) X.env=(false,eval e X.env)::qbB es X.env:=by rfl) (hplain:(qea cpos (qbB es X.env)).any (·.1)=false:=by rfl) :
  PE X (.Call (.Attribute o name apos) (e::es) [] cpos) (tBM X.K T r to t):=by
 intro pins s σ H Q I h
 refine wpAny_Call_method_late hbase hfew hline rfl (thn (ho pins s σ H _ I h) λv s1 ⟨x,H1,I1,r1,ty,q1⟩=>?_)
 obtain⟨h1,h2⟩:=Dm I1 r1 ty
 refine⟨T,id,pa,slot,hty,h1,h2,?_⟩
 have hA:=ha cpos pins s1 σ H1 _ I1 q1
 rw[hs]at hA ⊢
 refine qhe (by show (false||(qea cpos (qbB es X.env)).any (·.1))=false;rw[hplain]<;>rfl) (qhF ?_)
 exact thn hA λus s2 ⟨vs,H2,I2,r2,q2⟩=>hm pins s2 σ H2 x vs v us Q I2 r1 r2 q2
end
def MtM (X:Cx) (id:String) (r:V->List V->Hp->VK->Prop):Prop:=
 ∀ (pins:List (Addr×Obj)) (s:qaj) (σ:St) (H:Hp) (x:V) (xs:List V) (v:Value) (us:List Value) (Q:VK),Inv X pins σ H s->aV x v->aQ xs us->r x xs H Q->
  wpAny (model X.prog X.w) X.A (call (.builtin id) (v::us)) (EP X pins σ Q) X.xe s
theorem aQ.one {x:V}{us:List Value} (h:aQ [x] us):∃ u,us=[u]/\aV x u:=by
 cases h with
 |cons r t=>cases t;exact⟨_,rfl,r⟩
theorem aQ.eraseIdx:∀ {xs:List V}{us:List Value} (i:Nat),aQ xs us->aQ (xs.eraseIdx i) (us.eraseIdx i)
 |_,_,_,.nil=>.nil
 |_,_,0,.cons _ t=>t
 |_,_,i+1,.cons r t=>.cons r (aQ.eraseIdx i t)
theorem aQ.rep {xs:List V}{us:List Value} (h:aQ xs us):∀ k:Nat,aQ (qaT k xs).flatten (qaT k us).flatten
 |0=>.nil
 |k+1=>by
  rw[qbG,qbG,qcn,qcn]
  exact aQ.append h (aQ.rep h k)
theorem qk {α:Type}:∀ (l:List α) (i:Nat),(l.eraseIdx i).length<=l.length
 |[],_=>qan _
 |_::_,0=>qcS _
 |_::r,i+1=>Nat.succ_le_succ (qk r i)
theorem mn (its:List Value):∀ (k:Nat) (acc:List Value),
  qe4 (λx1 x2=>x1++x2) acc.toArray (qaT k its.toArray)=(acc++(qaT k its).flatten).toArray
 |0,acc=>by simp
 |k+1,acc=>by
  have e:acc.toArray++its.toArray=(acc++its).toArray:=by simp
  have e2:(acc++its)++(qaT k its).flatten=acc++(qaT (k+1) its).flatten:=by
   rw[qbG,qcn,qb8]
  rw[<-e2,<-mn its k (acc++its),<-e,qbG,qbw]
section
variable {X:Cx}{pins:List (Addr×Obj)}{σ:St}{H:Hp}{s:qaj}{l b:Addr}{xs ys zs:List V}
theorem Inv.lset {its its':List Value}{n:Nat}{f:Array Value->Array Value}{t':Nat} (I:Inv X pins σ H s) (hH:H l=some (.lst xs))
  (e:s.heap.get? l=some { cls:=.type "list",data:=.seq its.toArray n }) (hf:f its.toArray=its'.toArray) (hv:aQ ys its') (hz:ys.length<=qaS) :
  Inv X pins σ (upd H l (.lst ys)) { s with heap:=s.heap.update l (qb2 f),toks:=t' }:=by
 have q:=qfC e f
 rw[hf]at q
 refine I.write (x:=l) (e:=l) (by rw[hH];exact trivial) (.inl rfl) (λb' u hb hu=>(qbo s.heap (qb2 f) (qcz hb)).trans hu) ⟨_,q⟩ ?_
 exact⟨hz,its',_,hv,q⟩
theorem Inv.lnew {its:List Value}{t':Nat} (I:Inv X pins σ H s) (hv:aQ ys its) (hz:ys.length<=qaS) :
  Inv X pins σ (upd H s.heap.objs.size (.lst ys)) { s with heap:=s.heap.push { cls:=.type "list",data:=.seq its.toArray },toks:=t' }:=
 I.laid (λ_ _ q=>qag _ q) (qan _) ⟨hz,its,0,hv,qaA _ rfl⟩
theorem Inv.fresh (I:Inv X pins σ H s):H s.heap.objs.size=none:=I.hok.fresh (qan _)
theorem Inv.lstM (I:Inv X pins σ H s) (hH:H l=some (.lst xs)):xs.length<=qaS/\∃ (its:List Value) (n:Nat),aQ xs its/\xs.length=its.length/\s.heap.get? l=some { cls:=.type "list",data:=.seq its.toArray n }:=by
 obtain⟨z,its,n,r,e⟩:=I.hok l _ hH
 exact⟨z,its,n,r,r.length,e⟩
theorem uq {n:Nat} (h:n<=qaS):qcx n=false:=by
 unfold qcx
 exact decide_eq_false (by lia)
end
section
variable {X:Cx}
def By:V->List V->Hp->VK->Prop:=λx vs H Q=>∃ l xs y,x=.ref l/\vs=[y]/\H l=some (.lst xs)/\xs.length<qaS/\Q .non (upd H l (.lst (xs++[y])))
theorem xk:MtM X "list.append" By:=by
 intro pins s σ H x vs v us Q I rx rv h
 obtain⟨l,xs,y,rfl,rfl,hH,hz,q⟩:=h
 cases rx
 obtain⟨u,rfl,ru⟩:=rv.one
 obtain⟨z,its,n,r,hl,e⟩:=I.lstM hH
 refine qdh qf0 ⟨_,e,rfl⟩ qfQ (qfG _ _) (qfN l its.toArray n u (by rw[qaz];lia)) ⟨e,?_⟩
 refine⟨.non,_,I.lset (its':=its++[u]) hH e (by simp) (r.append (.cons ru .nil)) ?_,rfl,q⟩
 rw[qa2,qeT]
 lia
def DT:V->List V->Hp->VK->Prop:=λx vs H Q=>∃ l xs i k y,x=.ref l/\vs=[.int i]/\H l=some (.lst xs)/\-(2^63)<=i/\i<2^63/\qk0 i xs.length=some k/\xs[k]?=some y/\Q y (upd H l (.lst (xs.eraseIdx k)))
theorem Aq:MtM X "list.pop" DT:=by
 intro pins s σ H x vs v us Q I rx rv h
 obtain⟨l,xs,i,k,y,rfl,rfl,hH,h1,h2,hk,hy,q⟩:=h
 cases rx
 obtain⟨u,rfl,ru⟩:=rv.one
 obtain⟨t,rfl⟩:=ru
 obtain⟨z,its,n,r,hl,e⟩:=I.lstM hH
 obtain⟨w,hw,rw'⟩:=r.get hy
 refine qdh F.slot_list_pop ⟨_,e,rfl⟩ F.entry_list_pop (F.args_list_pop_2 _ _)
  (MeetsSeq.list_pop_at l its.toArray n i t k w (qlg h1 h2) (by rw[qaz,<-hl];exact hk) (by rw[<-qcc];exact hw) (by rw[qaz];lia)) ⟨e,?_⟩
 refine⟨y,_,I.lset (its':=its.eraseIdx k) hH e ?_ (r.eraseIdx k) ?_,rw',q⟩
 ·show its.toArray.eraseIdxIfInBounds k=(its.eraseIdx k).toArray
  rw[List.eraseIdxIfInBounds_toArray]
 ·have:=qk xs k
  lia
theorem qY {α:Type} (xs:List α) (k:Nat):(qaT k xs).flatten.length=k*xs.length:=by
 induction k with
 |zero=>simp
 |succ k ih=>rw[qbG,qcn,qa2,ih,Nat.succ_mul,qf7]
end
section
variable {prog:qaX}{w:World}{A:qbc}{E:Value->qaj->Prop}{s:qaj}
end
section
variable {X:Cx}
end
end L2
namespace Att
open PySem PySem.W PySem.Calls PyProof.Rows
theorem ng {P:Params}{h:Heap}:∀ (ns:List Int) (vs:List Value),WellAll P h vs (ns.map WData.int)->qcT vs ns:=by
 intro ns
 induction ns with
 |nil=>
  intro vs w
  rw[qcM]at w
  cases w
  exact .nil
 |cons n ns ih=>
  intro vs w
  rw[qal]at w
  cases w with
  |cons a b=>
   cases a
   exact .cons _ _ (ih _ b)
theorem xj {l:OpenLaw}{n:Nat} (hn:l.most=some n) {P:Params}{h:Heap}{args:List WData}{vals:List Value}
  (hpre:l.row.toRowW.claim.pre args=true) (hwl:WellAll P h vals args) :
  ∃ a vs ns,vals=[Value.ref a]/\args=[WData.list (ns.map WData.int)]/\h.get? a=some { cls:=.type "list",data:=.seq vs.toArray }/\qcT vs ns/\ns.length<=n:=by
 have hsh:WShape.hasAll [] args [.list .int]=true:=(pre_splitW hpre).1
 have hc:l.pre.holds [] { args:=args }=true:=(pre_splitW hpre).2
 obtain⟨d,r,rfl,h1,h2⟩:=hasAllW_cons hsh
 obtain rfl:=hasAllW_nil h2
 obtain⟨xs,rfl,h3⟩:=hasW_list h1
 obtain⟨ns,rfl⟩:=items_int h3
 have hlen:ns.length<=n:=by
  unfold OpenLaw.pre at hc
  have h4:(WTm.not (.lt (.lit (.int (n:Int))) (.len (.arg 0)))).holds [] { args:=[.list (ns.map .int)] }=true:=by
   have h4:=(holds_andW hc).1
   rw[hn]at h4
   exact h4
  have h5:=condW_of h4 (w_not (w_lt w_lit (w_len_list (w_arg rfl))))
  rw[qae]at h5
  refine Nat.le_of_not_lt λq=>?_
  have q':(n:Int)<((ns.length:Nat):Int):=by lia
  first
   |(rw[decide_eq_true q']at h5;exact absurd h5 (by decide))
   |(simp at h5;lia)
 cases hwl with
 |cons w1 w2=>
  cases w2
  cases w1 with
  |list ho hall=>exact⟨_,_,ns,rfl,rfl,ho,ng ns _ hall,hlen⟩
theorem x9 (l:OpenLaw) (args:List WData):l.row.toRowW.claim.post args (.bool true) args=true:=
 postW_of (r:=l.row.toRowW) (X:=(true==true))
  (show qjK [] (.bool true) .bool=true by first|rfl|decide|simp[qjK,WShape.arms,WShape.armsAll])
  (show (WTm.eq .res (.lit (.bool true))).value [] { args:=args,res:=some (.bool true),after:=args }=some (.bool (true==true)) from w_eq_bool (w_res rfl) w_lit) rfl
theorem attach_call {l:OpenLaw}{n:Nat}{q:qaX}{loose:List Str}{XP:(Str->Option Value)->Heap->Prop}{YP:World->Heap->Prop}{d:DefRec}
  (hn:l.most=some n) (hdf:d.params.defaults=[])
  (call:∀ (w:World) (s₀ s₁:qaj) (mg mb:Str->Option Value) (fa:Addr) (o:Obj) (pm cd doc:Value) (a:Addr) (vs:List Value) (ns:List Int),
    Ground q loose [] XP w s₀ mg mb s₁.heap->YP w s₁.heap->
    s₁.heap.get? fa=some o->o.data=.func (docDef d.name d.params d.body d.scope pm cd doc)->s₁.heap.CodeRec cd d.name->mg d.name=some (.ref fa)->
    s₁.heap.get? a=some { cls:=.type "list",data:=.seq vs.toArray }->qcT vs ns->ns.length<=n->s₁.gens=#[]->
    qes (model l.prog w) qhm (.call (.ref fa) ⟨[.ref a],[]⟩) (λr s'=>r=.ok (.ret (.bool true))/\OldK s₁.heap s'.heap/\s'.os=s₁.os/\qf1 s'.gens) s₁) :
  WalkO q loose XP YP l.row.toRowW d [] (λf vs=>qik f vs):=by
 intro w s₀ s₁ mg mb G Y fa o pm cd doc dV kV ho hd hcd hD hmg hg args vals as hpre hlay hrd hwl hlo
 obtain rfl:dV=.none:=Dflts.none hD hdf
 obtain rfl:kV=.none:=Dflts.noKw hD
 obtain⟨a,vs,ns,rfl,rfl,hobj,hints,hlen⟩:=xj hn hpre hwl
 refine enter_call (qfA (call w s₀ s₁ mg mb fa o pm cd doc a vs ns G Y ho (fd_plain hd) hcd hmg hobj hints hlen hg) λr s' hq=>?_)
 obtain⟨rfl,h2,h3,h4⟩:=hq
 exact⟨.inl ⟨.bool true,.bool true,[],rfl,λ_=>rfl,.bool true,x9 l _,λ_=>⟨List.Pairwise.nil,λ_ hm=>(nomatch hm)⟩⟩,h2,h3,h4⟩
section
variable {prog:qaX}{w:World}{A:qbc}{E:Value->qaj->Prop}{s:qaj}{K:Frag}
end
end Att
namespace L2
open PySem PySem.Spec PyProof.Rows
theorem qI:∀ {vs:List Value}{ns:List Int},qcT vs ns->aQ (ns.map V.int) vs
 |_,_,.nil=>.nil
 |_,_,.cons n t h=>.cons ⟨t,rfl⟩ (qI h)
def Cp (H:Hp):Prop:=∀ b,H b=none\/∃ o xs,H b=some (.frz o (.lst xs))
theorem zp {P:qaX}{w:World}{K:qai}{mg mb:Str->Option Value}{CX:CXT}{k:Nat}{fa a:Addr}{fd:qbb}{x:Str}{sp:Sp}{s₁:qaj}{vs:List Value}{ns:List Int}
  (KX:K.In s₁.heap) (hns:s₁.heap.Ns qaE mg) (hb:s₁.heap.Ns qhY mb) (hbb:∀ x:Str,x≠"__name__"->mb x=qdB x) (hlim:s₁.heap.NoLimit) (hg:s₁.gens=#[])
  (ha:s₁.heap.get? a=some { cls:=.type "list",data:=.seq vs.toArray }) (hi:qcT vs ns) (hl:ns.length<=qaS) (hr:cZ k qhm)
  (F:∀ base:Heap,K.In base->base.Ns qaE mg->bX P w K mg base CX k fa fd [x] sp) (hbind:∀ (s:qaj) (u:Value),qis s fd ⟨[u],[]⟩ [(x,u)])
  (hsp:∀ H:Hp,Cp H->SqL K H a (ns.map V.int)->sp [.ref a] H (λv _=>v=.bl true) λ_ _ _=>False)
  (hCX:∀ H e s',CX [] H s₁ (λ_ _ _=>False) e s'->False) :
  qes (model P w) qhm (.call (.ref fa) ⟨[.ref a],[]⟩) (λr s'=>r=.ok (.ret (.bool true))/\OldK s₁.heap s'.heap/\s'.os=s₁.os/\qf1 s'.gens) s₁:=by
 have rv:=qI hi
 have lenV:=hi.length
 -- from an abstract heap in which nothing but the script may be tracked
 have core:∀ H:Hp,Cp H->SqL K H a (ns.map V.int)->HOk P w H s₁.heap->(∀ b,H b≠none->b=a)->(H a≠none->K.lookup a=none)->
   qes (model P w) qhm (.call (.ref fa) ⟨[.ref a],[]⟩) (λr s'=>r=.ok (.ret (.bool true))/\OldK s₁.heap s'.heap/\s'.os=s₁.os/\qf1 s'.gens) s₁:=by
  intro H hO hS hok hA hK
  have base_of:∀ {b:Addr}{o:Obj},s₁.heap.get? b=some o->H b=none->(sq s₁.heap H).get? b=some o:=λe n=>zM e n
  have noA:∀ {b:Addr}{o:Obj}{es:Array qex}{ep:Nat},s₁.heap.get? b=some o->o.data=.dict es ep->H b=none:=λ{b o es ep} e d=>by
   cases q:H b with
   |none=>rfl
   |some u=>
    have e':b=a:=hA b (by rw[q];simp)
    subst e'
    rw[ha]at e;cases e
    have d':Data.seq vs.toArray _=Data.dict es ep:=d
    cases d'
  have nsK:∀ {b:Addr}{m:Str->Option Value},s₁.heap.Ns b m->(sq s₁.heap H).Ns b m:=λ{b m} ⟨o,es,ep,e,d,r⟩=>⟨o,es,ep,base_of e (noA e d),d,r⟩
  have hKb:K.In (sq s₁.heap H):=λb o e=>base_of (KX b o e) (by
   cases q:H b with
   |none=>rfl
   |some u=>
    have e':b=a:=hA b (by rw[q];simp)
    subst e'
    rw[hK (by rw[q];simp)]at e;cases e)
  have hM:Mod K mg (sq s₁.heap H):=⟨hKb,nsK hns,⟨mb,nsK hb,hbb⟩,let ⟨mc,h1,h2⟩:=hlim;⟨mc,nsK h1,h2⟩⟩
  have e0:Bv P w K mg (sq s₁.heap H) qhm [] s₁ H:=⟨rfl,hM,λb o e=>Bo e,qdR (xA _ _),trivial,λb hb=>absurd (show b∈([]:List Addr) from hb) (by simp),hok,.of_eq hg⟩
  refine qfA ((F _ hKb (nsK hns)).run qhm [] s₁ H ⟨[.ref a],[]⟩ [.ref a] [.ref a] _ _ hr e0 (hbind s₁ (.ref a)) (.cons rfl .nil) (hsp H hO hS)) λr s' h=>?_
  cases r with
  |error e=>exact (hCX H e s' h).elim
  |ok fl=>
   cases fl with
   |next=>exact qdl h
   |brk=>exact qdl h
   |cont=>exact qdl h
   |ret u=>
    obtain⟨v,H',os,bare,un,hok',r',q⟩:=h
    have q':v=.bl true:=q
    subst q'
    obtain rfl:u=Value.bool true:=r'
    refine⟨rfl,OldK.of_keep λb o e=>?_,os,bare⟩
    cases q:H b with
    |none=>exact un.keep b o e q (by intro z;exact absurd (show b∈([]:List Addr) from z) (by simp)) (by simp)
    |some u=>
     rcases hO b with z|⟨ob,xs,z⟩
     ·rw[q]at z;cases z
     ·have z2:=un.frzs b ob _ z
      obtain⟨e1,_⟩:=hok b _ z
      obtain⟨e2,_⟩:=hok' b _ z2
      rw[e]at e1;cases e1
      exact e2
 cases hk:K.lookup a with
 |some o=>
  -- the script is one of the module's own objects
  have e:=KX a o hk
  rw[ha]at e
  cases e
  refine core (λ_=>none) (λ_=>.inl rfl) (.inr ⟨_,vs.toArray,_,hk,rfl,rfl,rfl,by rw[qaz,lenV];exact hl,by simpa using rv⟩) (λb u z=>by have z':(none:Option HO)=some u:=z;cases z') (λb z=>absurd rfl z) λz=>absurd rfl z
 |none=>
  refine core (λb=>if b=a then some (.frz { cls:=.type "list",data:=.seq vs.toArray } (.lst (ns.map V.int))) else none) (λb=>?_) (.inl (.inr ⟨{ cls:=.type "list",data:=.seq vs.toArray },if_pos rfl⟩)) (λb u z=>?_) (λb z=>?_) λ_=>hk
  ·by_cases hb:b=a
   ·exact .inr ⟨_,_,if_pos hb⟩
   ·exact .inl (if_neg hb)
  ·by_cases hb:b=a
   ·have z':=(if_pos hb).symm.trans z
    cases z'
    subst hb
    exact⟨ha,by rw[qae];exact hl,vs,_,rv,ha⟩
   ·have z':=(if_neg hb).symm.trans z
    cases z'
  ·by_cases hb:b=a
   ·exact hb
   ·exact absurd (if_neg hb) z
theorem walk_of {l:qfW}{n k:Nat}{q:qaX}{loose:List Str}{XP:(Str->Option Value)->Heap->Prop}{YP:World->Heap->Prop}{d:DefRec}{K:Params->qai}{CX:World->CXT}{sp:World->Sp}{x:Str}
  (hn:l.most=some n) (hn2:n<=qaS) (hdf:d.params.defaults=[]) (hr:cZ k qhm)
  (hY:∀ (w:World) (h:Heap),YP w h->(K w.params).In h)
  (F:∀ (w:World) (mg:Str->Option Value) (fa:Addr) (h:Heap),(K w.params).In h->h.Ns qaE mg->mg d.name=some (.ref fa)->
    ∃ fd:qbb,(∀ (s:qaj) (u:Value),qis s fd ⟨[u],[]⟩ [(x,u)])/\
     ∀ base:Heap,(K w.params).In base->base.Ns qaE mg->bX l.prog w (K w.params) mg base (CX w) k fa fd [x] (sp w))
  (hsp:∀ (w:World) (H:Hp) (a:Addr) (ns:List Int),ns.length<=n->Cp H->SqL (K w.params) H a (ns.map V.int)->sp w [.ref a] H (λv _=>v=.bl true) λ_ _ _=>False)
  (hCX:∀ (w:World) (H:Hp) (s:qaj) (e:Value) (s':qaj),CX w [] H s (λ_ _ _=>False) e s'->False) :
  qiM q loose XP YP l.row.toRowW d [] (λf vs=>qik f vs):=by
 refine Att.attach_call hn hdf λw s₀ s₁ mg mb fa o pm cd doc a vs ns G Y ho hd hcd hmg hobj hints hlen hg=>?_
 have KX:=hY w _ Y
 obtain⟨fd,hb,hF⟩:=F w mg fa _ KX G.T.g hmg
 exact zp KX G.T.g G.T.b G.T.builtins G.T.nolimit hg hobj hints (qaH hlen hn2) hr hF hb (λH hO hS=>hsp w H a ns hlen hO hS) λH e s'=>hCX w H s₁ e s'
def aK (s:Stmt):Arguments:=match s with
 |.FunctionDef _ a _ _ _ _ _ _ _ _=>a
 |_=>{ posonlyargs:=[],args:=[],vararg:=none,kwonlyargs:=[],kw_defaults:=[],kwarg:=none,defaults:=[] }
def aF (s:Stmt):List Stmt:=match s with
 |.FunctionDef _ _ b _ _ _ _ _ _ _=>b
 |_=>[]
def ae (s:Stmt):Scope:=match s with
 |.FunctionDef _ _ _ _ _ _ sc _ _ _=>sc
 |_=>{ kind:=.function,names:=[],isGenerator:=false,isCoroutine:=false }
abbrev CX0:CXT:=λ_ _ _ _ _ _=>False
abbrev E0:XK:=λ_ _ _=>False
theorem FV {X:Cx}:vI CX0 X E0:=λ_ _ _ _ _ _ _ h=>h.elim
structure Fun (K:qai) (x qual:Str) (st:Stmt) (f:Addr) (fd:qbb):Prop where
 ex:∃ (oc:Value) (od:Option Addr) (kV doc pm:Value) (an:Option Addr) (cdv ct:Value) (osl:Array (Option Value)),
  fd=qaU x qual (aK st) (aF st) (ae st) .none kV doc pm an cdv ct/\K.lookup f=some ⟨oc,od,.func fd,osl⟩/\qaM K cdv qual=true
 kp:qaI K (.ref f)=true
section
variable {P:qaX}{w:World}{K:qai}{mg:Str->Option Value}{base:Heap}
theorem Fun.ok {x qual:Str}{st:Stmt}{f:Addr}{fd:qbb}{N ps:List Str}{k:Nat}{sp:Sp} (F:Fun K x qual st f fd) (S:aH N ps (ae st)) (len:∀ vs H Q E,sp vs H Q E->vs.length=ps.length)
  (hbody:∀ (cdv:Value) (A:qbc) (outer:List Env) (s:qaj) (H:Hp) (vs:List V) (Q:VK) (E:XK),cZ k (A.deeper (qgj qual (ae st) s.heap.objs.size f cdv))->sp vs H Q E->
    ∃ t,PSs (rT CX0 P w K mg base N qual (ae st) f cdv A outer s H E).nox (aF st) t/\t { nx:=λ_ H'=>Q .non H',rt:=Q } (start N vs) H):bX P w K mg base CX0 (k+1) f fd ps sp:=by
 obtain⟨oc,od,kV,doc,pm,an,cdv,ct,osl,rfl,lk,hcd⟩:=F.ex
 refine FT lk hcd S len λA outer s H vs Q E hr hsp=>?_
 obtain⟨t,h,q⟩:=hbody cdv A outer s H vs Q E hr hsp
 exact⟨t,h.nox,q⟩
theorem Fun.binds {x qual:Str}{st:Stmt}{f:Addr}{fd:qbb}{ps:List Str} (F:Fun K x qual st f fd)
  (h:∀ (kV doc pm:Value) (an:Option Addr) (cdv ct:Value) (us:List Value),us.length=ps.length->bindArgs (qaU x qual (aK st) (aF st) (ae st) .none kV doc pm an cdv ct) ⟨us,[]⟩=pure (ps.zip us)):bz K fd ps []:=by
 obtain⟨oc,od,kV,doc,pm,an,cdv,ct,osl,rfl,lk,hcd⟩:=F.ex
 exact .all (h kV doc pm an cdv ct)
theorem bm {x qual:Str}{st:Stmt}{f:Addr}{oc:Value}{od an:Option Addr}{osl:Array (Option Value)}{kV doc pm cdv ct:Value} (l:K.lookup f=some ⟨oc,od,.func (qaU x qual (aK st) (aF st) (ae st) .none kV doc pm an cdv ct),osl⟩)
  (c:qaM K cdv qual=true) (k:qaI K (.ref f)=true):Fun K x qual st f (qaU x qual (aK st) (aF st) (ae st) .none kV doc pm an cdv ct):=⟨⟨oc,od,kV,doc,pm,an,cdv,ct,osl,rfl,l,c⟩,k⟩
end
theorem yQ {A:qbc}{k:Nat} (hr:cZ k A):A.units+1<cLine:=qel (Nat.add_le_add_left (by decide:1<=64) _) hr.units
theorem xm {n:Nat} (h:n<=1000):n<qaS:=qel h (by decide)
section
variable {X:Cx}
end
theorem zx {A B:Prop} (h:B):if false=true then A else B:=by
 rw[if_neg qaq]
 exact h
theorem zd {A B:Prop} (h:A):if true=true then A else B:=by
 rw[if_pos rfl]
 exact h
def bH (H H':Hp):Prop:=∀ b o,H b=some o->H' b=some o
theorem bH.refl (H:Hp):bH H H:=λ_ _ h=>h
def ca (cells:List (Str×Addr)):List (Str×qb9)->List (Str×Addr)->List (Str×Addr)
 |[],acc=>acc
 |(n,k)::r,acc=>if k==.free then ca cells r ((n,(cells.lookup n).getD 0)::acc) else ca cells r acc
theorem kB {env:Env} (f:Str×qb9->List (Str×Addr)->Sem (ForInStep (List (Str×Addr))))
  (hf:∀ n k cs,f (n,k) cs=if k==.free then (do let c <-cellOf env n;pure (.yield ((n,c)::cs))) else pure (.yield cs)) :
  ∀ (names:List (Str×qb9)) (acc:List (Str×Addr)),(∀ x∈names,x.2=.free->∃ c,env.cells.lookup x.1=some c)->
   forIn names acc f=pure (ca env.cells names acc)
 |[],acc,_=>by rw[qgP];rfl
 |(n,k)::r,acc,h=>by
  rw[qi0,hf]
  unfold ca
  by_cases hk:(k==.free)=true
  ·obtain⟨c,hc⟩:=h (n,k) qak (beq_iff_eq.mp hk)
   have hc':env.cells.lookup n=some c:=hc
   rw[if_pos hk,if_pos hk]
   have:cellOf env n=pure c:=by unfold cellOf;rw[hc']
   rw[this,hc']
   simp only[pure_bind,Option.getD_some]
   exact kB f hf r _ λx hx=>h x (qah _ hx)
  ·rw[if_neg hk,if_neg hk]
   simp only[pure_bind]
   exact kB f hf r _ λx hx=>h x (qah _ hx)
theorem kg {scope:Scope}{env:Env} (h:∀ x∈scope.names,x.2=.free->∃ c,env.cells.lookup x.1=some c) :
  closureFor scope env=pure (ca env.cells scope.names []):=by
 simp only[closureFor]
 rw[kB (env:=env) _ (λn k cs=>by cases hk:k==NameKind.free<;>simp[hk]) scope.names [] h]
 simp
theorem ic {cells:List (Str×Addr)}:∀ (names:List (Str×qb9)) (acc:List (Str×Addr)) {x:Str}{c:Addr},(ca cells names acc).lookup x=some c->
  acc.lookup x=some c\/((x,NameKind.free)∈names/\c=(cells.lookup x).getD 0)
 |[],_,_,_,h=>.inl h
 |(n,k)::r,acc,x,c,h=>by
  unfold ca at h
  by_cases hk:(k==.free)=true
  ·rw[if_pos hk]at h
   rcases ic r _ h with q|⟨q1,q2⟩
   ·rw[qbW]at q
    cases hx:x==n with
    |true=>
     rw[hx]at q
     have e:=beq_iff_eq.mp hx
     subst e
     exact .inr ⟨by rw[<-beq_iff_eq.mp hk];exact qak,(qaR q).symm⟩
    |false=>rw[hx]at q;exact .inl q
   ·exact .inr ⟨qah _ q1,q2⟩
  ·rw[if_neg hk]at h
   rcases ic r _ h with q|⟨q1,q2⟩
   ·exact .inl q
   ·exact .inr ⟨qah _ q1,q2⟩
theorem gX {cells:List (Str×Addr)}{x:Str}:∀ (names:List (Str×qb9)) (acc:List (Str×Addr)),((x,NameKind.free)∈names\/(acc.lookup x).isSome=true)->((ca cells names acc).lookup x).isSome=true
 |[],_,h=>h.elim (λz=>nomatch z) id
 |(n,k)::r,acc,h=>by
  unfold ca
  by_cases hk:(k==.free)=true
  ·rw[if_pos hk]
   refine gX r _ ?_
   rcases h with h|h
   ·rcases qaC.mp h with e|h
    ·cases e
     exact .inr (by rw[qbW,beq_self_eq_true];rfl)
    ·exact .inl h
   ·refine .inr ?_
    rw[qbW]
    cases x==n
    ·exact h
    ·rfl
  ·rw[if_neg hk]
   refine gX r _ ?_
   rcases h with h|h
   ·rcases qaC.mp h with e|h
    ·cases e;exact absurd rfl hk
    ·exact .inl h
   ·exact .inr h
theorem eL:∀ (names:List (Str×qb9)) (n:Nat) (acc:List (Str×Addr)) {x:Str}{c:Addr},(qcb n names acc).lookup x=some c->acc.lookup x=some c\/((x,NameKind.cell)∈names/\n<=c)
 |[],_,_,_,_,h=>.inl h
 |(m,k)::r,n,acc,x,c,h=>by
  unfold qcb at h
  by_cases hk:(k==.cell)=true
  ·rw[if_pos hk]at h
   rcases eL r _ _ h with q|⟨q1,q2⟩
   ·rw[qbW]at q
    cases hx:x==m with
    |true=>
     rw[hx]at q
     have e:=beq_iff_eq.mp hx
     subst e
     exact .inr ⟨by rw[<-beq_iff_eq.mp hk];exact qak,by rw[qaR q];exact qan _⟩
    |false=>rw[hx]at q;exact .inl q
   ·exact .inr ⟨qah _ q1,Nat.le_of_succ_le q2⟩
  ·rw[if_neg hk]at h
   rcases eL r _ _ h with q|⟨q1,q2⟩
   ·exact .inl q
   ·exact .inr ⟨qah _ q1,q2⟩
theorem p8:∀ (names:List (Str×qb9)) (n:Nat) (acc:List (Str×Addr)),(∀ p∈acc,p.2<n)->∀ {x y:Str}{c:Addr},(qcb n names acc).lookup x=some c->(qcb n names acc).lookup y=some c->n<=c->x=y:=by
 have key:∀ (names:List (Str×qb9)) (n:Nat) (acc:List (Str×Addr)) (lo:Nat),lo<=n->(∀ p∈acc,p.2<n)->(∀ p∈acc,∀ q∈acc,lo<=p.2->p.2=q.2->p.1=q.1)->
   ∀ p∈qcb n names acc,∀ q∈qcb n names acc,lo<=p.2->p.2=q.2->p.1=q.1:=by
  intro names
  induction names with
  |nil=>intro n acc lo _ _ h;exact h
  |cons z r ih=>
   intro n acc lo hlo hlt h
   obtain⟨m,k⟩:=z
   unfold qcb
   by_cases hk:(k==.cell)=true
   ·rw[if_pos hk]
    refine ih _ _ lo (Nat.le_succ_of_le hlo) (λp hp=>?_) (λp hp q hq l e=>?_)
    ·rcases qaC.mp hp with e|hp
     ·rw[e];exact qb4 _
     ·exact qa0 (hlt p hp)
    ·rcases qaC.mp hp with e1|hp<;>rcases qaC.mp hq with e2|hq
     ·rw[e1,e2]
     ·rw[e1]at e;exact absurd (hlt q hq) (by rw[<-e];exact qck _)
     ·rw[e2]at e;exact absurd (hlt p hp) (by rw[e];exact qck _)
     ·exact h p hp q hq l e
   ·rw[if_neg hk]
    exact ih _ _ lo hlo hlt h
 intro names n acc hlt x y c hx hy hc
 exact key names n acc n (qan _) hlt (λp hp q hq l _=>absurd (hlt p hp) (Nat.not_lt.mpr l)) _ (qby hx) _ (qby hy) hc rfl
theorem fk:∀ (names:List (Str×qb9)) (h:Heap) (acc:List (Str×Addr)),(∀ p∈acc,∃ v,h.IsCell p.2 v)->∀ p∈qcb h.objs.size names acc,∃ v,(qfx h names).IsCell p.2 v
 |[],_,_,h=>h
 |(m,k)::r,h,acc,hc=>by
  unfold qcb qfx
  by_cases hk:(k==.cell)=true
  ·rw[if_pos hk,if_pos hk]
   have:=fk r (h.push { cls:=.type "cell",data:=.cell none }) ((m,h.objs.size)::acc) (λp hp=>by
    rcases qaC.mp hp with e|hp
    ·rw[e];exact⟨none,_,qaA _ rfl,rfl⟩
    ·obtain⟨v,z⟩:=hc p hp
     exact⟨v,z.keeps λb o e=>qag _ e⟩)
   rwa [qbU]at this
  ·rw[if_neg hk,if_neg hk]
   exact fk r h acc hc
theorem fE {names:List (Str×qb9)} (nd:(names.map (·.1)).Nodup):∀ {x:Str}{k:qb9},(x,k)∈names->names.lookup x=some k:=by
 induction names with
 |nil=>intro x k h;cases h
 |cons z r ih=>
  intro x k h
  obtain⟨m,k'⟩:=z
  rw[qal,qbR]at nd
  rw[qbW]
  rcases qaC.mp h with e|h
  ·cases e;rw[beq_self_eq_true]
  ·have:(x==m)=false:=beq_eq_false_iff_ne.mpr λe=>nd.1 (e ▸ qap.mpr ⟨(x,k),by assumption,rfl⟩)
   rw[this]
   exact ih nd.2 h
theorem dQ {env:Env}:∀ {names:List (Str×qb9)}{x:Str}{k:qb9},
  (names.map λ(n,k)=>if (k==NameKind.free&&env.scope.kind==.function&&env.kindOf n==some .cell) then (n,NameKind.cell) else (n,k)).lookup x=some k->
  ∃ k0,names.lookup x=some k0/\(k=k0\/(k0=.free/\k=.cell))
 |[],_,_,h=>by cases h
 |(n,k0)::r,x,k,h=>by
  rw[qal]at h
  dsimp only at h
  rw[qbW]
  by_cases hc:(k0==NameKind.free&&env.scope.kind==.function&&env.kindOf n==some .cell)=true
  ·rw[if_pos hc,qbW]at h
   cases hx:x==n with
   |true=>
    rw[hx]at h
    refine⟨k0,rfl,.inr ⟨?_,(qaR h).symm⟩⟩
    simp only[qa8]at hc
    exact beq_iff_eq.mp hc.1.1
   |false=>rw[hx]at h;exact dQ h
  ·rw[if_neg hc,qbW]at h
   cases hx:x==n with
   |true=>rw[hx]at h;exact⟨k0,rfl,.inl (qaR h).symm⟩
   |false=>rw[hx]at h;exact dQ h
theorem iE {env:Env}:∀ {names:List (Str×qb9)}{x:Str},names.lookup x=some .free->
  (names.map λ(n,k)=>if (k==NameKind.free&&env.scope.kind==.function&&env.kindOf n==some .cell) then (n,NameKind.cell) else (n,k)).lookup x=some .free\/
  (names.map λ(n,k)=>if (k==NameKind.free&&env.scope.kind==.function&&env.kindOf n==some .cell) then (n,NameKind.cell) else (n,k)).lookup x=some .cell
 |[],_,h=>by cases h
 |(n,k0)::r,x,h=>by
  rw[qal]
  dsimp only
  rw[qbW]at h
  by_cases hc:(k0==NameKind.free&&env.scope.kind==.function&&env.kindOf n==some .cell)=true
  ·rw[if_pos hc,qbW]
   cases hx:x==n with
   |true=>exact .inr rfl
   |false=>rw[hx]at h;exact iE h
  ·rw[if_neg hc,qbW]
   cases hx:x==n with
   |true=>rw[hx]at h;exact .inl h
   |false=>rw[hx]at h;exact iE h
theorem lE {M:Model}{A:qbc}{E:Value->qaj->Prop}{s:qaj}{scope:Scope}{env:Env}{cl:List (Str×Addr)}{Q:Env->qaj->Prop}
  (hQ:Q (newEnv scope s.heap.objs.size env.globals (qcb (s.heap.objs.size+1) scope.names cl) env.qual none .none (some env) qhY)
    { s with heap:=qfx (s.heap.push { cls:=.type "dict",data:=.dict #[] }) scope.names }) :
  wpAny M A (qle scope env.globals cl [] env.qual none .none (some env)) Q E s:=by
 simp only[qle,qhL,if_true]
 refine qaa (qi4 ?_)
 refine qaa (wpAny_layCells _ (λname kind cells=>by cases hkc:kind==NameKind.cell<;>simp[hkc]) _ _ _ _ ?_)
 rw[show ({ s with heap:=s.heap.push { cls:=.type "dict",data:=.dict #[] } }:qaj).heap.objs.size=s.heap.objs.size+1 from qbU ..]
 refine qaa ?_
 rw[qgP]
 exact qab (qab hQ)
theorem eS {prog:qaX}{w:World}{A:qbc}{R:qjr->qaj->Prop}{s:qaj}{elt target iter:Expr}{ifs:List Expr}{scope:Scope}{pos:Pos}{it acc:Value}{env:Env} (I:Nat->qaj->Prop)
  (turn:∀ n s,I n s->wpAny (model prog w) A (qeC it) (λr s₁=>match r with
    |none=>R (.ok .next) s₁
    | some v=>wpAny (model prog w) A (qfy target it v) (λ_ s₁'=>wpAny (model prog w) A (qfS target env v) (λ_ s₂=>
      wpAny (model prog w) A (forIn ifs true λc r=>if r=true then do let ok <-isTrue c env (eval c env);pure (ForInStep.yield ok) else pure (ForInStep.yield r)) (λok s₃=>
       if ok=true then wpAny (model prog w) A (eval elt env) (λx s₄=>
        wpAny (model prog w) A (call (.builtin "list.append") [acc,x]) (λ_ s₅=>∃ m,m<n/\I m s₅) (λ_ _=>False) s₄) (λ_ _=>False) s₃
       else ∃ m,m<n/\I m s₃) (λ_ _=>False) s₂) (λ_ _=>False) s₁') (λ_ _=>False) s₁) (λ_ _=>False) s)
  (n:Nat) (h:I n s) :
  qes (model prog w) A (.compLoop (.ListComp elt [⟨target,iter,ifs,0⟩] scope pos) 0 it acc env) R s:=by
 refine codeAny_loop rfl I (λn s hI=>?_) n h
 show wpAny _ A ((compTurn (.ListComp elt [⟨target,iter,ifs,0⟩] scope pos) 0 it acc env).onRaise (λx=>do noteFrame x env;theTreesLotGoes x)) _ _ s
 refine wpAny_noted ?_
 rw[compTurn_list]
 refine qaa (qed (qaa (qcu (turn n s hI) (λr s₁ h₁=>?_) λ_ _ h'=>h'.elim)))
 cases r with
 |none=>exact qab h₁
 |some v=>
  refine qaa (qcu h₁ (λ_ s₁' h₁'=>?_) λ_ _ h'=>h'.elim)
  refine qaa (qcu h₁' (λ_ s₂ h₂=>qaa (qcu h₂ (λok s₃ h₃=>?_) λ_ _ h'=>h'.elim)) λ_ _ h'=>h'.elim)
  cases ok with
  |false=>exact qab ⟨rfl,h₃⟩
  |true=>
   exact qaa (qaa (qcu h₃ (λx s₄ h₄=>qaa (qcu h₄ (λ_ s₅ h₅=>qab (qab ⟨rfl,h₅⟩)) λ_ _ h'=>h'.elim)) λ_ _ h'=>h'.elim))
def lcX (X:Cx) (scope:Scope) (cells:List (Str×Addr)) (Nc:List Str) (s:qaj) (H:Hp) (C:Addr) (fp:List Addr):Cx where
 prog:=X.prog
 w:=X.w
 K:=X.K
 mg:=X.mg
 base:=X.base
 A:=X.A
 N:=Nc
 s₀:=s
 H₀:=H
 env:=qih scope cells C X.env
 outer:=X.stack
 stack:=X.stack
 ex:=fp
 fn:=λx=>scope.names.lookup x==some .cell
 calm:=X.calm
 pn:=[]
 xe:=λ_ _=>False
structure gG (X:Cx) (scope:Scope) (Nc:List Str) (emb:St->St):Prop where
 kind:scope.kind=.function
 nd:(scope.names.map (·.1)).Nodup
 nN:Nc.Nodup
 free:∀ x∈scope.names,x.2=.free->X.env.kindOf x.1=some .cell\/X.env.kindOf x.1=some .free
 len:∀ σ:St,σ.length=X.N.length->(emb σ).length=Nc.length
 emb:∀ σ:St,σ.length=X.N.length->∀ (i:Nat) (x:Str) (v:V),Nc[i]?=some x->(emb σ)[i]?=some (some v)->∃ j:Nat,X.N[j]?=some x/\σ[j]?=some (some v)/\scope.names.lookup x=some .free
section
variable {X:Cx}{pins:List (Addr×Obj)}{σ:St}{H:Hp}{s:qaj}{scope:Scope}{Nc:List Str}{emb:St->St}
theorem gG.clos (S:gG X scope Nc emb) (ok:X.Ok):∀ x∈scope.names,x.2=.free->∃ c,X.env.cells.lookup x.1=some c:=λx hx h=>ok.has x.1 (S.free x hx h)
theorem uh (S:gG X scope Nc emb) (I:Inv X pins σ H s) {fp:List Addr} (hf:∀ b∈fp,j9 X pins H b) (hfo:∀ b∈fp,∃ o,s.heap.get? b=some o) {lo:Obj} (hlo:∀ v,lo.data≠.cell v) (hfr:lo.isFreed=false) :
  Inv (lcX X scope (qcb (s.heap.objs.size+2) scope.names (ca X.env.cells scope.names [])) Nc s H (s.heap.objs.size+1) fp) [(s.heap.objs.size,lo)] (emb σ) H
   { s with heap:=qfx ((s.heap.push lo).push { cls:=.type "dict",data:=.dict #[] }) scope.names }:=by
 have hsz2:((s.heap.push lo).push { cls:=.type "dict",data:=.dict #[] }).objs.size=s.heap.objs.size+2:=by rw[qbU,qbU]
 have hsz1:(s.heap.push lo).objs.size=s.heap.objs.size+1:=by rw[qbU]
 have hk:∀ b o,s.heap.get? b=some o->(qfx ((s.heap.push lo).push { cls:=.type "dict",data:=.dict #[] }) scope.names).get? b=some o:=λb o e=>
  qde _ _ b o (qag _ (qag _ e))
 have has:=S.clos I.ok
 have cl_old:∀ {x:Str}{c:Addr},(ca X.env.cells scope.names []).lookup x=some c->X.env.cells.lookup x=some c/\(x,NameKind.free)∈scope.names:=λ{x c} h=>by
  rcases ic _ _ h with q|⟨q1,q2⟩
  ·cases q
  ·obtain⟨c',hc'⟩:=has _ q1 rfl
   have hc'':X.env.cells.lookup x=some c':=hc'
   rw[hc'']at q2
   exact⟨by rw[hc'',q2];rfl,q1⟩
 have cells_cases:∀ {x:Str}{c:Addr},(qcb (s.heap.objs.size+2) scope.names (ca X.env.cells scope.names [])).lookup x=some c->
   (X.env.cells.lookup x=some c/\(x,NameKind.free)∈scope.names)\/((x,NameKind.cell)∈scope.names/\s.heap.objs.size+2<=c):=λ{x c} h=>by
  rcases eL _ _ _ h with q|q
  ·exact .inl (cl_old q)
  ·exact .inr q
 have oldlt:∀ {x:Str}{c:Addr},X.env.cells.lookup x=some c->c<s.heap.objs.size:=λ{x c} h=>by
  obtain⟨v,z⟩:=I.cell x c h
  exact z.lt
 have fplt:∀ b∈fp,b<s.heap.objs.size:=λb hb=>by obtain⟨o,e⟩:=hfo b hb;exact qao e
 have accmem:∀ p∈ca X.env.cells scope.names [],∃ x,X.env.cells.lookup x=some p.2:=by
  have key:∀ (names:List (Str×qb9)) (acc:List (Str×Addr)),(∀ x∈names,x.2=.free->∃ c,X.env.cells.lookup x.1=some c)->(∀ p∈acc,∃ x,X.env.cells.lookup x=some p.2)->∀ p∈ca X.env.cells names acc,∃ x,X.env.cells.lookup x=some p.2:=by
   intro names
   induction names with
   |nil=>intro acc _ h;exact h
   |cons z r ih=>
    intro acc hn h
    obtain⟨m,k⟩:=z
    unfold ca
    by_cases hk:(k==.free)=true
    ·rw[if_pos hk]
     refine ih _ (λx hx=>hn x (qah _ hx)) λp hp=>?_
     rcases qaC.mp hp with e|hp
     ·obtain⟨c,hc⟩:=hn _ qak (beq_iff_eq.mp hk)
      have hc':X.env.cells.lookup m=some c:=hc
      exact⟨m,by rw[e,hc'];rfl⟩
     ·exact h p hp
    ·rw[if_neg hk]
     exact ih _ (λx hx=>hn x (qah _ hx)) h
  exact key _ _ has λp hp=>nomatch hp
 refine⟨⟨I.ok.mod,S.kind,I.ok.glob,I.ok.blt,qcS _,λx y c h1 h2=>?_,λx hx=>?_,λx c hx h=>?_,I.ok.hd,I.ok.frames,.inl rfl,λb hb=>?_,I.bs,qaH I.ok.bsz I.sz,λb o e hb=>?_,λb hb=>?_,I.stack,I.stkFree⟩,
  rfl,I.bare,Un.kept hk,⟨_,(Heap.Ns.new (s.heap.push lo) (.type "dict")).keeps (qde _ _) |> λq=>by rw[hsz1]at q;exact q,λi x v h1 h2 _=>?_⟩,λx c h=>?_,I.hok.fresh (qcS _),λx c h=>?_,λp hp=>?_,I.hok.kept hk,S.len σ I.len⟩
 ·-- inj
  have h1':(qcb (s.heap.objs.size+2) scope.names (ca X.env.cells scope.names [])).lookup x=some c:=h1
  have h2':(qcb (s.heap.objs.size+2) scope.names (ca X.env.cells scope.names [])).lookup y=some c:=h2
  rcases cells_cases h1' with⟨q1,_⟩|⟨_,q1⟩
  ·rcases cells_cases h2' with⟨q2,_⟩|⟨_,q2⟩
   ·exact I.ok.inj x y c q1 q2
   ·exact absurd (qaP (qa0 (qa0 (oldlt q1))) q2) (qck _)
  ·refine p8 scope.names _ _ (λp hp=>?_) h1' h2' q1
   obtain⟨z,hz⟩:=accmem p hp
   exact qa0 (qa0 (oldlt hz))
 ·-- has
  have hx':(relabel scope X.env).names.lookup x=some .cell\/(relabel scope X.env).names.lookup x=some .free:=hx
  have:∃ k0,scope.names.lookup x=some k0/\(k0=.cell\/k0=.free):=by
   rcases hx' with q|q
   ·obtain⟨k0,h1,h2⟩:=dQ q
    exact⟨k0,h1,h2.elim (λe=>.inl e.symm) λe=>.inr e.1⟩
   ·obtain⟨k0,h1,h2⟩:=dQ q
    exact⟨k0,h1,h2.elim (λe=>.inr e.symm) λe=>by cases e.2⟩
  obtain⟨k0,h1,h2⟩:=this
  refine qdj.mp (qdr scope.names _ _ ?_)
  rcases h2 with rfl|rfl
  ·exact .inl h1
  ·exact .inr (gX _ _ (.inl (qby h1)))
 ·-- cab
  have hx':scope.names.lookup x=some .cell:=beq_iff_eq.mp hx
  rcases cells_cases h with⟨_,q⟩|⟨_,q⟩
  ·have:=fE S.nd q
   rw[hx']at this;cases this
  ·exact qaH (qiZ _ 2) q
 ·-- exf
  refine⟨qat (qa0 (fplt b hb)),λx c h=>?_⟩
  rcases cells_cases h with⟨q,_⟩|⟨_,q⟩
  ·exact (hf b hb).2.2.2.2.1 x c q
  ·intro e
   exact absurd (qaP (qa0 (qa0 (fplt b hb))) (e ▸ q)) (qck _)
 ·-- noex
  have hb':b∈fp:=hb
  rcases (hf b hb').2.2.2.1 with q|q
  ·exact I.ok.noex b o e q
  ·exact absurd (qaP (qao (I.ok.bs b o e).1) q) (qck _)
 ·-- exfs
  intro hb2
  rcases qaC.mp (I.stkSub b hb2) with q|q
  ·exact (hf b hb).2.1 q
  ·exact (hf b hb).2.2.1 q
 ·-- loc
  obtain⟨j,e1,e2,e3⟩:=S.emb σ I.len i x v h1 h2
  have kx:=S.free (x,.free) (qby e3) rfl
  have kx':X.env.kindOf x=some .cell\/X.env.kindOf x=some .free:=kx
  obtain⟨m,hn,hl⟩:=I.loc
  obtain⟨u,ru,lk⟩:=hl j x v e1 e2 (.inr kx')
  refine⟨u,ru,.inr ⟨?_,?_⟩⟩
  ·rcases iE (env:=X.env) e3 with q|q
   ·exact .inr q
   ·exact .inl q
  ·rcases lk with⟨z,_⟩|⟨_,c,hc,hcell⟩
   ·rcases kx' with q|q<;>(rw[z]at q;cases q)
   ·obtain⟨c',hc'⟩:=qdj.mp (qdr scope.names (s.heap.objs.size+2) (ca X.env.cells scope.names []) (x:=x) (.inr (gX _ _ (.inl (qby e3)))))
    rcases cells_cases hc' with⟨q,_⟩|⟨q,_⟩
    ·rw[hc]at q
     cases q
     exact⟨c,hc',hcell.keeps hk⟩
    ·have:=fE S.nd q
     rw[e3]at this;cases this
 ·-- cell
  have h':(qcb (s.heap.objs.size+2) scope.names (ca X.env.cells scope.names [])).lookup x=some c:=h
  have:=fk scope.names ((s.heap.push lo).push { cls:=.type "dict",data:=.dict #[] }) (ca X.env.cells scope.names []) (λp hp=>by
   obtain⟨z,hz⟩:=accmem p hp
   obtain⟨v,q⟩:=I.cell z p.2 hz
   exact⟨v,q.keeps λb o e=>qag _ (qag _ e)⟩) (x,c) (by rw[hsz2];exact qby h')
  exact this
 ·-- freeC
  rcases cells_cases h with⟨q,_⟩|⟨_,q⟩
  ·exact I.freeC x c q
  ·exact I.hok.fresh (qaH (qiZ _ 2) q)
 ·-- pin
  have hp':p=(s.heap.objs.size,lo):=by
   have:p∈([]:List (Addr×Obj))++[(s.heap.objs.size,lo)]:=hp
   simpa using this
  subst hp'
  refine⟨qde _ _ _ _ (qag _ (qaA _ hfr)),I.hok.fresh (qan _),qat (qb4 _),λhb=>?_,hlo⟩
  rcases qaC.mp (I.stkSub _ hb) with q|q
  ·exact absurd I.lt (by rw[<-q];exact qck _)
  ·exact I.nofs (qan _) q
end
def PTs (X:Cx) (ifs:List Expr) (t:TT):Prop:=
 ∀ (pins:List (Addr×Obj)) (s:qaj) (σ:St) (H:Hp) (Q:Bool->Hp->Prop),Inv X pins σ H s->t σ H Q->
  wpAny (model X.prog X.w) X.A (forIn ifs true λc r=>if r=true then do let ok <-isTrue c X.env (eval c X.env);pure (ForInStep.yield ok) else pure (ForInStep.yield r)) (TP X pins σ Q) X.xe s
def GF:TT:=λ_ H Q=>Q true H
theorem Cq {X:Cx}:PTs X [] GF:=λ_ _ _ H _ I h=>wpAny_tests_nil ⟨H,I,h⟩
theorem BK {X:Cx}{c:Expr}{t:TT} (hc:PT X c t):PTs X [c] t:=λpins s σ H Q I h=>wpAny_tests_one (hc pins s σ H Q I h)
def Sub (σ σ':St):Prop:=σ.length=σ'.length/\∀ (i:Nat) (v:V),σ[i]?=some (some v)->σ'[i]?=some (some v)
def FX (J:It) (σe:St) (g:TG) (tt:TT) (te:TE) (H1:Hp) (Q:VK):Prop:=∃ W:Nat->Nat->List V->Hp->Prop,(∃ m,W 0 m [] H1)/\∀ i m ys H,W i m ys H->
 (J.stop i H/\∀ D,H D=none->Q (.ref D) (upd H D (.lst ys)))\/
 (J.go i H/\ys.length<qaS/\∃ N:List V->Hp->Prop,(∀ ys' H',N ys' H'->∃ m',m'<m/\W (i+1) m' ys' H')/\∀ x H',J.yld i H x H'->g x σe H' λσ2 H2=>Sub σe σ2/\tt σ2 H2 λb H3=>if b=true then te σ2 H3 λv H4=>N (ys++[v]) H4 else N ys H3)
def tLc (emb:St->St) (wi:TI) (g:TG) (tt:TT) (te:TE):TE:=λσ H Q=>wi σ H λJ H1=>FX J (emb σ) g tt te H1 Q
section
variable {X:Cx}{scope:Scope}{Nc:List Str}{emb:St->St}{elt iter tg:Expr}{ifs:List Expr}{pos:Pos}{wi:TI}{g:TG}{tt:TT}{te:TE}
theorem Ga (S:gG X scope Nc emb) (hc:X.calm=true) (hi:PI X tg iter wi)
  (hg:∀ cells s H C fp,PG (lcX X scope cells Nc s H C fp) tg g) (ht:∀ cells s H C fp,PTs (lcX X scope cells Nc s H C fp) ifs tt) (he:∀ cells s H C fp,PE (lcX X scope cells Nc s H C fp) elt te)
  (hs:∀ x,qcR iter X.env x=pure x:=by intro _;rfl):PE X (.ListComp elt [⟨tg,iter,ifs,0⟩] scope pos) (tLc emb wi g tt te):=by
 intro pins s σ H Q I h
 rw[eval_ListComp]
 refine qhS (use:=none) rfl hs (kg (S.clos I.ok)) S.kind (λx hx hl=>fE S.nd (by rw[<-hl];exact hx)) ?_
 refine thn (hi pins s σ H _ I h) λv s1 h1=>thn h1 λitv s2 h2=>?_
 obtain⟨it,fp,tn,J,H2,e,I2,T,st2,f2,W,⟨m0,w0⟩,turn⟩:=h2
 subst e
 refine qbi (lE ?_)
 rw[show (s2.heap.push { cls:=.type "list",dict:=none,data:=.seq ([]:List Value).toArray }).objs.size=s2.heap.objs.size+1 from qbU ..]
 generalize hD:s2.heap.objs.size=D
 generalize hlo:({ cls:=.type "list",dict:=none,data:=.seq ([]:List Value).toArray }:Obj)=lo
 have fplt:∀ b∈fp,b<s2.heap.objs.size:=λb hb=>by obtain⟨o,e,_⟩:=T.obj _ _ st2 b hb;exact qao e
 have I3:=uh (lo:=lo) S I2 f2 (λb hb=>by obtain⟨o,e,_⟩:=T.obj _ _ st2 b hb;exact⟨o,e⟩) (by rw[<-hlo];intro v z;cases z) (by rw[<-hlo];rfl)
 rw[hD]at I3
 generalize hcells:qcb (D+2) scope.names (ca X.env.cells scope.names [])=cells at I3
 generalize hX':lcX X scope cells Nc s2 H2 (D+1) fp=X' at I3
 have hfpX:∀ {H':Hp}{ps:List (Addr×Obj)},(∀ b∈fp,H' b=none)->(∀ p∈ps,p.1=D)->∀ b∈fp,j9 X' ps H' b:=λ{H' ps} hn hps b hb=>by
  have ok:=I3.ok
  refine⟨hn b hb,?_,?_,.inl (by rw[<-hX'];exact hb),?_,λp hp=>?_⟩
  ·exact (ok.exf b (by rw[<-hX'];exact hb)).1
  ·exact ok.exfs b (by rw[<-hX'];exact hb)
  ·exact (ok.exf b (by rw[<-hX'];exact hb)).2
  ·have hp':p∈([]:List (Addr×Obj))++ps:=by rw[<-hX']at hp;exact hp
   have e:p.1=D:=hps p (by simpa using hp')
   rw[e,<-hD]
   exact qbA (fplt b hb)
 have Dex:D∈X'.ex\/X'.s₀.heap.objs.size<=D:=.inr (by rw[<-hX',<-hD];exact qan _)
 have Dloc:D≠X'.env.locals:=by rw[<-hX'];exact qat (qb4 _)
 have pD:=I3.pin (D,lo) (by rw[<-hX'];exact qau _ qak)
 have Dfs:D∉X'.fs:=pD.2.2.2.1
 have Dcell:∀ x c,X'.env.cells.lookup x=some c->c≠D:=λx c hc' e=>by
  obtain⟨v,o,ho,hd⟩:=I3.cell x c hc'
  rw[e,pD.1]at ho
  cases ho
  exact pD.2.2.2.2 v hd
 -- the loop
 have loop:∀ s3:qaj,s3={ s2 with heap:=qfx ((s2.heap.push lo).push { cls:=.type "dict",data:=.dict #[] }) scope.names }->
   qes (model X.prog X.w) X.A (.compLoop (.ListComp elt [⟨tg,iter,ifs,0⟩] scope pos) 0 (.ref it) (.ref D) (qih scope cells (D+1) X.env))
    (compPost (model X.prog X.w) X.A X.xe none (EP X pins σ Q) (.ref D) (D+1)) s3:=by
  rintro s3 rfl
  refine eS (λn s'=>∃ i ys its k H',Inv X' [(D,{ cls:=.type "list",data:=.seq its.toArray k })] (emb σ) H' s'/\aQ ys its/\tn i s'.heap/\(∀ b∈fp,H' b=none)/\ys.length<=qaS/\W i n ys H') ?_ m0
   ⟨0,[],[],0,H2,?_,.nil,?_,λb hb=>(f2 b hb).1,qa7 _,w0⟩
  ·rintro n s4 ⟨i,ys,its,k,H4,I4,rv,st4,fr4,hlen,w4⟩
   have hps:∀ p∈[(D,({ cls:=.type "list",data:=.seq its.toArray k }:Obj))],p.1=D:=λp hp=>by
    have:=qaO.mp hp
    rw[this]
   rcases turn i n ys H4 w4 with⟨stop,qn⟩|⟨go,hlt,N,hN,step⟩
   ·-- the end
    have TD:=T.done X' (by rw[<-hX'];rfl) (by rw[<-hX'];rfl) (by rw[<-hX'];rfl) (by rw[<-hX'];exact hc) i _ s4 (emb σ) H4 (λ_ _=>False) I4 (hfpX fr4 hps) st4 stop
    rw[show X'.A=X.A by rw[<-hX'];rfl]at TD
    refine thn TD λr s5 ⟨hr,I5⟩=>?_
    subst hr
    obtain⟨m5,hn5,_⟩:=id I5.loc
    have eC:X'.env.locals=D+1:=by rw[<-hX'];rfl
    rw[eC]at hn5
    refine⟨m5,hn5,λh' hsb=>?_⟩
    have pD5:=I5.pin (D,{ cls:=.type "list",data:=.seq its.toArray k }) (by rw[<-hX'];exact qau _ qak)
    have neC:∀ b u,H4 b=some u->b≠D+1:=λb u e z=>by
     have:=I5.free
     rw[eC,<-z,e]at this
     cases this
    have hD4:H4 D=none:=pD5.2.1
    have un:=I5.base
    have un':Un (frs X.stack) fp H2 H4 s2.heap s5.heap:=by rw[<-hX']at un;exact un
    have old_ne:∀ b o,s2.heap.get? b=some o->b≠D/\b≠D+1:=λb o e=>by
     have q:=qao e
     rw[hD]at q
     exact⟨qat q,qat (qa0 q)⟩
    have h2D:H2 D=none:=by rw[<-hD];exact I2.fresh
    have hok':HOk X.prog X.w H4 h':=λb u e=>by
     have ob:di X.prog X.w H4 s5.heap b u:=by have:=I5.hok b u e;rw[<-hX']at this;exact this
     refine ob.stay (λc v hcv q=>(hsb.2 c ?_).trans q) (λ_ q=>q) λ_ _ q=>q
     rcases hcv with z|z
     ·rw[z];exact neC b u e
     ·exact neC c _ z
    have hokD:HOk X.prog X.w (upd H4 D (.lst ys)) h':=λb u e=>by
     by_cases hb:b=D
     ·subst hb
      rw[bb]at e
      cases e
      exact⟨hlen,its,k,rv,(hsb.2 b (qat (qb4 _))).trans pD5.1⟩
     ·rw[aO hb]at e
      refine (hok' b u e).stay (λ_ _ _ q=>q) (λc q=>?_) λc z q=>?_
      all_goals first
       |(rw[aO (aP q hD4)];exact q)
       |(rw[aO (aP z hD4)];exact z)
    refine⟨.ref D,upd H4 D (.lst ys),?_,rfl,qn D hD4⟩
    refine I2.call' (s':={ s5 with heap:=h' }) (ch:=fp) ?_ ⟨λb o e nb hb hx=>?_,λb o e nb hb hx=>?_,λb o e nb hx=>?_,λb o e hx=>?_,λb xs e=>?_,λb o u e=>?_,λb ps e=>?_⟩ hokD I5.bare (λb hb=>?_)
    ·have:=I5.os
     rw[<-hX']at this
     exact this
    ·exact (hsb.2 b (old_ne b o e).2).trans (un'.keep b o e nb hb hx)
    ·obtain⟨sl,q⟩:=un'.slot b o e nb hb hx
     exact⟨sl,(hsb.2 b (old_ne b o e).2).trans q⟩
    ·rw[aO (old_ne b o e).1]
     exact un'.free b o e nb hx
    ·obtain⟨o',q⟩:=un'.there b o e hx
     exact⟨o',(hsb.2 b (old_ne b o e).2).trans q⟩
    ·rw[aO (aP e h2D)]
     exact un'.tups b xs e
    ·rw[aO (aP e h2D)]
     exact un'.frzs b o u e
    ·obtain⟨m,q⟩:=un'.tbls b ps e
     exact⟨m,by rw[aO (aP e h2D)];exact q⟩
    ·obtain⟨q0,q1,q2,q3,q4,q5⟩:=f2 b hb
     exact⟨q3,q1,q4,q5⟩
   ·-- a turn
    have hA:X'.A=X.A:=by rw[<-hX'];rfl
    have hP:X'.prog=X.prog:=by rw[<-hX'];rfl
    have hw:X'.w=X.w:=by rw[<-hX'];rfl
    have hE:X'.env=qih scope cells (D+1) X.env:=by rw[<-hX'];rfl
    have hxe:X'.xe=λ_ _=>False:=by rw[<-hX'];rfl
    have TI':=T.item X' hP hw (by rw[<-hX'];rfl) (by rw[<-hX'];exact hc) i _ s4 (emb σ) H4 (λ_ _=>False) I4 (hfpX fr4 hps) st4 go
    rw[hA]at TI'
    refine thn TI' λr s5 ⟨u,hr,h5⟩=>?_
    subst hr
    refine thn h5 λ_ s6 ⟨x,H6,I6,r6,y6,st6,fr6⟩=>?_
    have I6':=I6.pinned (hfpX fr6 hps) (T.obj _ _ st6)
    have G:=hg cells s2 H2 (D+1) fp
    have TT':=ht cells s2 H2 (D+1) fp
    have EE:=he cells s2 H2 (D+1) fp
    rw[hX']at G TT' EE
    have G':=G _ s6 (emb σ) H6 x u _ I6' r6 (step x H6 y6)
    rw[hA,hP,hw,hE,hxe]at G'
    refine thn G' λ_ s7 ⟨σ7,H7,I7,sb7,q7⟩=>?_
    have T':=TT' _ s7 σ7 H7 _ I7 q7
    rw[hA,hP,hw,hE,hxe]at T'
    refine thn T' λok s8 ⟨H8,I8,q8⟩=>?_
    -- what is pinned
    have pin_fp:∀ {σ9:St}{H9:Hp}{s9:qaj},Inv X' ([(D,({ cls:=.type "list",data:=.seq its.toArray k }:Obj))]++mq fp s6.heap) σ9 H9 s9->tn (i+1) s9.heap/\∀ b∈fp,H9 b=none:=λ{σ9 H9 s9} I9=>
     ⟨T.keep _ _ _ st6 λb hb o e=>(I9.pin (b,o) (qau _ (qau _ (dE hb e)))).1,λb hb=>by
      obtain⟨o,e,_⟩:=T.obj _ _ st6 b hb
      exact (I9.pin (b,o) (qau _ (qau _ (dE hb e)))).2.1⟩
    cases ok with
    |false=>
     rw[if_neg (by decide)]at q8
     rw[if_neg (by decide)]
     obtain⟨m',hm,w8⟩:=hN _ _ q8
     exact⟨m',hm,i+1,ys,its,k,H8,I8.unpinned.weak sb7.1 sb7.2,rv,(pin_fp I8).1,(pin_fp I8).2,hlen,w8⟩
    |true=>
     rw[if_pos rfl]at q8
     rw[if_pos rfl]
     have E':=EE _ s8 σ7 H8 _ I8 q8
     rw[hA,hP,hw,hE,hxe]at E'
     refine thn E' λy s9 ⟨v9,H9,I9,r9,n9⟩=>?_
     obtain⟨m',hm,w9⟩:=hN _ _ n9
     have pD9:=I9.pin (D,{ cls:=.type "list",data:=.seq its.toArray k }) (qau _ (qcG _ qak))
     have hl:=rv.length
     have I9n:Inv X' [] σ7 H9 s9:=I9.pins_of λp hp=>nomatch hp
     refine qdh qf0 ⟨_,pD9.1,rfl⟩ qfQ (qfG _ _) (qfN D its.toArray k y (by rw[qaz];lia)) ⟨pD9.1,?_⟩
     have up:∃ k':Nat,(s9.heap.update D (qb2 λxs=>xs.push y)).get? D=some { cls:=.type "list",data:=.seq (its++[y]).toArray k' }:=by
      have q:=qfC pD9.1 (λxs:Array Value=>xs.push y)
      simp only[qiB]at q
      exact⟨_,q⟩
     obtain⟨k',up⟩:=up
     have hoth:∀ b o,b≠D->s9.heap.get? b=some o->(s9.heap.update D (qb2 λxs=>xs.push y)).get? b=some o:=λb o hb e=>(qbo s9.heap _ (qcz hb)).trans e
     have I10:=I9n.turned (t':=s9.toks) hoth pD9.2.1 Dloc Dex Dcell (λp hp=>absurd (show p∈([]:List (Addr×Obj)) by rw[<-hX']at hp;exact hp) (by simp))
     refine⟨m',hm,i+1,ys++[v9],its++[y],k',H9,(I10.weak sb7.1 sb7.2).pins_of (λp hp=>?_),rv.append (.cons r9 .nil),T.keep _ _ _ (pin_fp I9).1 (λb hb o e=>hoth b o (by rw[<-hD];exact qat (fplt b hb)) e),(pin_fp I9).2,?_,w9⟩
     ·have:=qaO.mp hp
      subst this
      exact⟨up,pD9.2.1,Dloc,Dfs,λv z=>by cases z⟩
     ·rw[qa2,qeT]
      lia
  ·have q:lo={ cls:=.type "list",data:=.seq ([]:List Value).toArray 0 }:=hlo.symm
   rw[<-q]
   exact I3
  ·exact T.keep _ _ _ st2 λb hb o e=>qde _ _ b o (qag _ (qag _ e))
 refine qiv ?_ ?_
 ·exact loop _ rfl
 ·refine T.self X.A 0 _ _ _ (T.keep _ _ _ st2 λb hb o e=>qde _ _ b o (qag _ (qag _ e))) ?_
  exact loop _ rfl
end
end L2
namespace L2
open PySem PySem.Spec PyProof.Rows
open PySem.AutoSeq1 (wpAny_loadPart')
section
variable {prog:qaX}{w:World}{A:qbc}{E:Value->qaj->Prop}{s:qaj}
theorem kO {it l:Addr}{i:Nat}{items}{x:Value}{Q:Value->qaj->Prop} (hit:s.heap.IsTupleIter it l i)
  (hl:s.heap.IsTuple l items) (hx:items[i]?=some x)
  (hQ:∀ h',h'.IsTupleIter it l (i+1)->qbq it s.heap h'->Q x { s with heap:=h' }) :
  wpAny (model prog w) A (qcP (.ref it)) Q E s:=by
 obtain⟨o,ho,hc,hd⟩:=id hit
 obtain⟨ol,hol,_,nl,hdl⟩:=hl
 unfold qcP
 refine qaa (qbO (name:=qbH "__next__") hit.typeIs qdf
  (qbn qdf hit.typeIs qg6 ?_ (qgS _)))
 show wpAny _ _ (field (.ref it) 0 >>= _) _ _ s
 refine qaa (qep ho hd (x:=.ref l) rfl ?_)
 show wpAny _ _ (if (Value.ref l==Value.none)=true then _ else _) _ _ s
 rw[if_neg (show ¬ ((Value.ref l==Value.none)=true) from qaq)]
 show wpAny _ _ (field (.ref it) 1 >>= _) _ _ s
 refine qaa (qep ho hd (x:=.int i 0) rfl ?_)
 show wpAny _ _ (qhk (.ref l) >>= _) _ _ s
 refine qaa (qeG hol hdl ?_)
 simp only[qaW,hx]
 refine qaa (qdp ho hd (by simp) (qab ⟨x,rfl,qab (hQ _ ?_ (qbl ..))⟩))
 exact⟨_,qbY _ ho (qdP (qcf hd _)),(qeA ..).trans hc,by
  rw[qcf hd];simp[qe8]⟩
theorem mo {it l:Addr}{i:Nat}{items}{Q:Value->qaj->Prop} (hh:A.handled=none)
  (hit:s.heap.IsTupleIter it l i) (hl:s.heap.IsTuple l items) (hx:items[i]?=none)
  (hE:∀ h' e,qh6 it s.heap h'->(∃ o,h'.get? e=some o/\o.cls=.type "StopIteration")->E (.ref e) { s with heap:=h' }) :
  wpAny (model prog w) A (qcP (.ref it)) Q E s:=by
 obtain⟨o,ho,hc,hd⟩:=id hit
 obtain⟨ol,hol,_,nl,hdl⟩:=hl
 unfold qcP
 refine qaa (qbO (name:=qbH "__next__") hit.typeIs qdf
  (qbn qdf hit.typeIs qg6 ?_ (qgS _)))
 show wpAny _ _ (field (.ref it) 0 >>= _) _ _ s
 refine qaa (qep ho hd (x:=.ref l) rfl ?_)
 show wpAny _ _ (if (Value.ref l==Value.none)=true then _ else _) _ _ s
 rw[if_neg (show ¬ ((Value.ref l==Value.none)=true) from qaq)]
 show wpAny _ _ (field (.ref it) 1 >>= _) _ _ s
 refine qaa (qep ho hd (x:=.int i 0) rfl ?_)
 show wpAny _ _ (qhk (.ref l) >>= _) _ _ s
 refine qaa (qeG hol hdl ?_)
 simp only[qaW,hx]
 refine qaa (qc2 (qaa (qdp ho hd (by simp) ?_)))
 show wpAny _ _ (qjl (.type "StopIteration") [] >>= _) _ _ _
 refine qaa ?_
 simp only[qjl,newTuple]
 refine qaa (qbi ?_ (by size_fits))
 refine qaa (m:=qdX _ _) (qeX (a:=Value.none) (by first|rfl|(simp only[qdX];rfl)) ?_)
 refine qbi ?_ (by size_fits)
 simp only[raiseNew]
 refine qaa (qia ?_)
 first|rw[show A.in1.handled=none from hh]|rw[hh]
 refine qaa (qab (qi2 ?_))
 exact hE _ _ (((qbl ..).extBut.push _).push _) ⟨_,qaA _ rfl,rfl⟩
theorem jf (hh:A.handled=none) (it l:Addr) (hne:l≠it) (items:Array Value) :
  Draws prog w A it [it,l] items.size (λi v=>items[i]?=some v) (λi h=>h.IsTupleIter it l i/\h.IsTuple l items) where
 live:=λ_ _ st=>let ⟨o,ho,_⟩:=st.1;⟨o,ho⟩
 frame:=λ_ _ _ st hk=>⟨st.1.at λo e=>hk it (by simp) o e,by
  obtain⟨o,e,r⟩:=st.2
  exact⟨o,hk l (by simp) o e,r⟩⟩
 item:=λi s Q E hi st hQ=>by
  refine kO st.1 st.2 (x:=items[i]) (by simp[hi]) λh' hit' hs'=>?_
  refine hQ _ h' s.toks (by simp[hi]) ⟨hit',?_⟩ hs'
  obtain⟨o,e,r⟩:=st.2
  exact⟨o,(hs'.2 l hne).trans e,r⟩
 done:=λs Q E st hE=>mo hh st.1 st.2 (by simp) hE
end
theorem jz (l:Addr) (items:Array Value) (n:Nat) (dct:Option Addr) (sl:Array (Option Value)) :
  Meets (qcB.«enumerate.__new__» ⟨[.type "enumerate",.ref l],[]⟩) (λ_ R s=>s.heap.get? l=some { cls:=.type "tuple",dict:=dct,data:=.seq items n,slots:=sl }/\
   R (.ok (.ret (.ref (s.heap.push { cls:=.type "tuple_iterator",data:=.fields #[.ref l,.int 0 0] }).objs.size)))
    { s with heap:=(s.heap.push { cls:=.type "tuple_iterator",data:=.fields #[.ref l,.int 0 0] }).push { cls:=.type "enumerate",data:=.fields #[.none,.bool false,.ref s.heap.objs.size,qe8 0,.none,.none] } }):=
 .of_wp λprog w A R s h=>by
  obtain⟨hp,g,d,tk,os⟩:=s;obtain⟨hl,h⟩:=h
  have hsub:=sub_enumerate
  have hL:Heap.IsTuple (Shared.heap ⟨hp,g,d,tk,os⟩) l items:=⟨_,hl,rfl,n,rfl⟩
  wp_walk using wpAny_loadPart' hl
  refine wpAny_stack_any λst=>qab ?_
  split
  ·rename_i c _ _ _ _ _
   cases (c==Value.type "enumerate")
   ·wp_walk using wpAny_loadPart' hl,qdJ hL
    exact⟨_,rfl,h⟩
   ·wp_walk using wpAny_loadPart' hl,qdJ hL
    exact⟨_,rfl,h⟩
  ·wp_walk using wpAny_loadPart' hl,qdJ hL
   exact⟨_,rfl,h⟩
theorem jw {prog:qaX}{w:World}{A:qbc}{E:Value->qaj->Prop}{s:qaj}{l:Addr}{items:Array Value}{Q:Value->qaj->Prop} (hL:s.heap.IsTuple l items)
  (h:∀ h',IsEnum h' (s.heap.objs.size+1) s.heap.objs.size 0 .none->h'.IsTupleIter s.heap.objs.size l 0->h'.objs.size=s.heap.objs.size+2->
    (∀ b o,s.heap.get? b=some o->h'.get? b=some o)->Q (.ref (s.heap.objs.size+1)) { s with heap:=h' }) :
  wpAny (model prog w) A (call (.type "enumerate") [.ref l]) Q E s:=by
 obtain⟨⟨c,dct,dt,sl⟩,hl,hc,n,hd⟩:=hL
 replace hc:c=.type "tuple":=hc
 replace hd:dt=.seq items n:=hd
 subst hc hd
 refine callType_new F.called_enumerate (by decide) (F.typeCall_enumerate_1 _) (F.newCall_enumerate_1 _) (λobj=>F.args_object_init_2 obj _) F.entry_enumerate_new
  (jz l items n dct sl) ⟨hl,?_⟩
 have hz:(s.heap.push { cls:=.type "tuple_iterator",data:=.fields #[.ref l,.int 0 0] }).objs.size=s.heap.objs.size+1:=qbU ..
 show _/\_
 rw[hz]
 have he:IsEnum ((s.heap.push { cls:=.type "tuple_iterator",data:=.fields #[.ref l,.int 0 0] }).push
   { cls:=.type "enumerate",data:=.fields #[.none,.bool false,.ref s.heap.objs.size,qe8 0,.none,.none] }) (s.heap.objs.size+1) s.heap.objs.size 0 .none:=by
  have:=qaA (s.heap.push { cls:=.type "tuple_iterator",data:=.fields #[.ref l,.int 0 0] })
   (o:={ cls:=.type "enumerate",data:=.fields #[.none,.bool false,.ref s.heap.objs.size,qe8 0,.none,.none] }) rfl
  rw[hz]at this;exact this
 refine⟨⟨_,he,rfl⟩,h _ he ⟨_,qag _ (qaA _ rfl),rfl,rfl⟩ (by rw[qbU,hz]) λb o x=>qag _ (qag _ x)⟩
section
variable {X:Cx}{pins:List (Addr×Obj)}{σ:St}{H:Hp}{s:qaj}{h':Heap}{fp:List Addr}
theorem j9.ch (hf:∀ b∈fp,j9 X pins H b):∀ b∈fp,(b∈X.ex\/X.s₀.heap.objs.size<=b)/\b≠X.env.locals/\(∀ x c,X.env.cells.lookup x=some c->c≠b)/\∀ p∈X.pn++pins,p.1≠b:=λb hb=>
 let ⟨_,f1,_,f3,f4,f5⟩:=hf b hb
 ⟨f3,f1,f4,f5⟩
theorem Inv.turns {t':Nat} (I:Inv X pins σ H s) (hf:∀ b∈fp,j9 X pins H b) (k:∀ b o,b∉fp->s.heap.get? b=some o->h'.get? b=some o):Inv X pins σ H { s with heap:=h',toks:=t' }:=by
 have nit:∀ b u,H b=some u->b∉fp:=λb u e z=>by have:=(hf b z).1;rw[e]at this;cases this
 refine I.step (g':=s.gens) (d':=s.drawn) (ch:=fp) (j9.ch hf) (λb o _ _ hc e _=>k b o hc e) (λb o _ _ hc e _=>⟨o.slots,k b o hc e⟩) (λ_ _ _ _ n=>n)
  (λb o hc e=>⟨o,k b o hc e⟩) (λ_ _ e=>e) (λ_ _ _ e=>e) (λb ps e=>⟨#[],by rw[e];simp⟩) (λm hm=>?_) (λb u e=>?_) I.bare
 ·obtain⟨o,es,ep,ho,r⟩:=hm
  exact⟨o,es,ep,k _ o (λz=>(hf _ z).2.1 rfl) ho,r⟩
 ·refine (I.hok b u e).stay (λc v hc q=>k c v ?_ q) (λ_ q=>q) λ_ _ q=>q
  rcases hc with z|z
  ·rw[z];exact nit b u e
  ·exact nit c _ z
theorem Inv.turnsT {t':Nat}{T:Addr}{xs:List V}{its:Array Value} (I:Inv X pins σ H s) (hf:∀ b∈fp,j9 X pins H b) (k:∀ b o,b∉fp->s.heap.get? b=some o->h'.get? b=some o)
  (hT:s.heap.objs.size<=T) (ht:eJ h' T its) (rv:aQ xs its.toList) (hz:xs.length<=qaS):Inv X pins σ (upd H T (.tup xs)) { s with heap:=h',toks:=t' }:=by
 have nit:∀ b u,H b=some u->b∉fp:=λb u e z=>by have:=(hf b z).1;rw[e]at this;cases this
 have hTn:H T=none:=I.hok.fresh hT
 have lt:∀ b o,s.heap.get? b=some o->b≠T:=λb o e=>qat (qaP (qao e) hT)
 refine I.step (g':=s.gens) (d':=s.drawn) (ch:=fp) (j9.ch hf) (λb o _ _ hc e _=>k b o hc e) (λb o _ _ hc e _=>⟨o.slots,k b o hc e⟩) (λb o _ e n=>by rw[aO (lt b o e)];exact n)
  (λb o hc e=>⟨o,k b o hc e⟩) (λb _ e=>by rw[aO (aP e hTn)];exact e) (λb _ _ e=>by rw[aO (aP e hTn)];exact e) (λb ps e=>⟨#[],by rw[aO (aP e hTn),e];simp⟩) (λm hm=>?_) (λb u e=>?_) I.bare
 ·obtain⟨o,es,ep,ho,r⟩:=hm
  exact⟨o,es,ep,k _ o (λz=>(hf _ z).2.1 rfl) ho,r⟩
 ·by_cases hb:b=T
  ·subst hb
   rw[bb]at e
   cases e
   refine⟨hz,its.toList,rv,?_⟩
   show eJ h' b its.toList.toArray
   simpa using ht
  ·rw[aO hb]at e
   refine (I.hok b u e).stay (λc v hc q=>k c v ?_ q) (λc q=>?_) λc z q=>?_
   ·rcases hc with z|z
    ·rw[z];exact nit b u e
    ·exact nit c _ z
   all_goals first
    |(rw[aO (aP q hTn)];exact q)
    |(rw[aO (aP z hTn)];exact z)
end
def Ite (S:Hp->List V->Prop):It:=
 ⟨λi H=>∃ xs x,S H xs/\xs[i]?=some x,λi H x H'=>∃ T v,(∀ xs,S H xs->xs[i]?=some v)/\H T=none/\x=.ref T/\H'=upd H T (.tup [.int i,v]),λi H=>∃ xs,S H xs/\xs.length=i⟩
theorem uO {P:qaX}{w:World}{K:qai}{elts:List Expr}{k:Nat}{pos:Pos} (a it e:Addr) (hei:e≠it) (hae:a≠e) (hai:a≠it) :
  yf P w K (.Tuple elts k pos) (Ite λH xs=>SqL K H a xs) [e,it] e (λi h=>(∃ old,IsEnum h e it i old)/\h.IsListIter it a i) where
 mem:=by simp
 obj:=λi h st b hb=>by
  rcases qaC.mp hb with rfl|hb
  ·obtain⟨⟨old,q⟩,_⟩:=st
   exact⟨_,q,λv z=>by cases z⟩
  ·rw[qaO.mp hb]
   obtain⟨_,o,e,c,d⟩:=st
   exact⟨o,e,λv z=>by rw[d]at z;cases z⟩
 keep:=λi h h' st kk=>⟨let ⟨old,q⟩:=st.1;⟨old,kk e (by simp) _ q⟩,st.2.at λo q=>kk it (by simp) o q⟩
 item:=by
  intro X hP hw hK hc i pins s σ H E I hf st hg
  subst hP hw hK
  obtain⟨xs,x,hq,hx⟩:=hg
  obtain⟨its,rv,p,hz⟩:=I.list hq
  obtain⟨u,hu,ru⟩:=rv.get hx
  have W:=qfI (qkT (prog:=X.prog) (w:=X.w) (A:=X.A.in1) (I.ok.hd hc) it a hai its.toArray) e hei (by simp[hei,qcz hae]) (by simp)
  have hi:i<its.toArray.size:=by
   have:=(qay.mp hu).1
   simpa using this
  obtain⟨⟨ol,he0⟩,hit0⟩:=st
  refine qh9 (qkT (prog:=X.prog) (w:=X.w) (A:=X.A.in1) (I.ok.hd hc) it a hai its.toArray) he0 ⟨hit0,p.isList⟩ hi hei (by simp[hei,qcz hae]) λy h1 t hy ho hs' ht hsz hk=>⟨_,rfl,?_⟩
  have hm:(λ(i:Nat) (T:Addr) (h:Heap)=>(∃ x,IsEnumOut h e it ((i:Int)+1) x T)/\_/\T≠e/\T≠it) i s.heap.objs.size h1:=⟨⟨_,ho⟩,hs',qbA (qao he0),qbA (let ⟨_,q,_⟩:=hit0;qao q)⟩
  have kk:∀ b o,b∉[e,it]->s.heap.get? b=some o->h1.get? b=some o:=λb o hb q=>hk b o (λz=>hb (by simp[z])) (λz=>hb (by simp[z])) q
  generalize eT:s.heap.objs.size=T at ht ho hm ⊢
  have hT:s.heap.objs.size<=T:=qdR eT
  have etk:∃ tk,tk=t+1:=⟨_,rfl⟩
  obtain⟨tk,etk⟩:=etk
  rw[<-etk]
  have ey:y=u:=by
   have hy':its[i]?=some y:=by simpa using hy
   rw[hu]at hy'
   exact (qaR hy').symm
  subst ey
  refine W.go elts k pos i T _ _ _ hm λh2 hst kk2=>?_
  have nT:T∉[e,it]:=W.apart i T _ hm
  refine⟨.ref T,upd H T (.tup [.int i,x]),?_,rfl,⟨T,x,λys hy=>by rw[I.list_inj hy hq];exact hx,I.hok.fresh hT,rfl,rfl⟩,⟨hst.1,hst.2.1⟩,λb hb=>?_⟩
  ·have ht2:eJ h2 T #[.int i t,y]:=⟨_,kk2 T _ nT ht,rfl,⟨_,rfl⟩,rfl⟩
   have I2:Inv X pins σ (upd H T (.tup [.int i,x])) { s with heap:=h2,toks:=tk }:=
    I.turnsT (fp:=[e,it]) (h':=h2) (t':=tk) (its:=#[.int i t,y]) hf (λb o hb q=>kk2 b o hb (kk b o hb q)) hT ht2 (.cons ⟨t,rfl⟩ (.cons ru .nil)) (by show 2<=qaS;decide)
   exact I2
  ·rw[aO (show b≠T from λz=>nT (z ▸ hb))]
   exact (hf b hb).1
 done:=by
  intro X hP hw hK hc i pins s σ H E I hf st hg
  subst hP hw hK
  obtain⟨xs,hq,hx⟩:=hg
  obtain⟨its,rv,p,hz⟩:=I.list hq
  have hl:=rv.length
  have hx':its.toArray[i]?=none:=by simp;lia
  obtain⟨⟨old,he⟩,hit⟩:=st
  -- the end at place i
  obtain⟨f0,f1,f2,f3,f4,f5⟩:=hf e (by simp)
  refine wpAny_pyNext_enum_end (I.ok.hd hc) he hit p.isList hx' λh' eb=>⟨rfl,?_⟩
  exact I.turns (t':=s.toks) (fp:=[e,it]) hf λb o hb q=>eb b o (by simp at hb;exact hb.2) q
 self:=λ_ _ _ _ _ st h=>let ⟨⟨_,he⟩,_⟩:=st;qeN he h
theorem vn {P:qaX}{w:World}{K:qai}{elts:List Expr}{k:Nat}{pos:Pos} (a it e:Addr) (hei:e≠it) (hae:a≠e) (hai:a≠it) :
  yf P w K (.Tuple elts k pos) (Ite λH xs=>SqT K H a xs) [e,it] e (λi h=>(∃ old,IsEnum h e it i old)/\h.IsTupleIter it a i) where
 mem:=by simp
 obj:=λi h st b hb=>by
  rcases qaC.mp hb with rfl|hb
  ·obtain⟨⟨old,q⟩,_⟩:=st
   exact⟨_,q,λv z=>by cases z⟩
  ·rw[qaO.mp hb]
   obtain⟨_,o,e,c,d⟩:=st
   exact⟨o,e,λv z=>by rw[d]at z;cases z⟩
 keep:=λi h h' st kk=>⟨let ⟨old,q⟩:=st.1;⟨old,kk e (by simp) _ q⟩,st.2.at λo q=>kk it (by simp) o q⟩
 item:=by
  intro X hP hw hK hc i pins s σ H E I hf st hg
  subst hP hw hK
  obtain⟨xs,x,hq,hx⟩:=hg
  obtain⟨its,rv,p,hz⟩:=I.tuple hq
  obtain⟨u,hu,ru⟩:=rv.get hx
  have W:=qfI (jf (prog:=X.prog) (w:=X.w) (A:=X.A.in1) (I.ok.hd hc) it a hai its.toArray) e hei (by simp[hei,qcz hae]) (by simp)
  have hi:i<its.toArray.size:=by
   have:=(qay.mp hu).1
   simpa using this
  obtain⟨⟨ol,he0⟩,hit0⟩:=st
  refine qh9 (jf (prog:=X.prog) (w:=X.w) (A:=X.A.in1) (I.ok.hd hc) it a hai its.toArray) he0 ⟨hit0,p⟩ hi hei (by simp[hei,qcz hae]) λy h1 t hy ho hs' ht hsz hk=>⟨_,rfl,?_⟩
  have hm:(λ(i:Nat) (T:Addr) (h:Heap)=>(∃ x,IsEnumOut h e it ((i:Int)+1) x T)/\_/\T≠e/\T≠it) i s.heap.objs.size h1:=⟨⟨_,ho⟩,hs',qbA (qao he0),qbA (let ⟨_,q,_⟩:=hit0;qao q)⟩
  have kk:∀ b o,b∉[e,it]->s.heap.get? b=some o->h1.get? b=some o:=λb o hb q=>hk b o (λz=>hb (by simp[z])) (λz=>hb (by simp[z])) q
  generalize eT:s.heap.objs.size=T at ht ho hm ⊢
  have hT:s.heap.objs.size<=T:=qdR eT
  have etk:∃ tk,tk=t+1:=⟨_,rfl⟩
  obtain⟨tk,etk⟩:=etk
  rw[<-etk]
  have ey:y=u:=by
   have hy':its[i]?=some y:=by simpa using hy
   rw[hu]at hy'
   exact (qaR hy').symm
  subst ey
  refine W.go elts k pos i T _ _ _ hm λh2 hst kk2=>?_
  have nT:T∉[e,it]:=W.apart i T _ hm
  refine⟨.ref T,upd H T (.tup [.int i,x]),?_,rfl,⟨T,x,λys hy=>by rw[I.tuple_inj hy hq];exact hx,I.hok.fresh hT,rfl,rfl⟩,⟨hst.1,hst.2.1⟩,λb hb=>?_⟩
  ·have ht2:eJ h2 T #[.int i t,y]:=⟨_,kk2 T _ nT ht,rfl,⟨_,rfl⟩,rfl⟩
   have I2:Inv X pins σ (upd H T (.tup [.int i,x])) { s with heap:=h2,toks:=tk }:=
    I.turnsT (fp:=[e,it]) (h':=h2) (t':=tk) (its:=#[.int i t,y]) hf (λb o hb q=>kk2 b o hb (kk b o hb q)) hT ht2 (.cons ⟨t,rfl⟩ (.cons ru .nil)) (by show 2<=qaS;decide)
   exact I2
  ·rw[aO (show b≠T from λz=>nT (z ▸ hb))]
   exact (hf b hb).1
 done:=by
  intro X hP hw hK hc i pins s σ H E I hf st hg
  subst hP hw hK
  obtain⟨xs,hq,hx⟩:=hg
  obtain⟨its,rv,p,hz⟩:=I.tuple hq
  have hl:=rv.length
  have W:=qfI (jf (prog:=X.prog) (w:=X.w) (A:=X.A.in1) (I.ok.hd hc) it a hai its.toArray) e hei (by simp[hei,qcz hae]) (by simp)
  have hi:i=its.toArray.size:=by simp;lia
  subst hi
  refine W.done s _ _ ⟨st.1,st.2,p⟩ λh' tk kk=>⟨rfl,I.turns (fp:=[e,it]) hf kk⟩
 self:=λ_ _ _ _ _ st h=>let ⟨⟨_,he⟩,_⟩:=st;qeN he h
end L2
namespace L2
open PySem PySem.Spec PyProof.Rows
section
variable {X:Cx}
def C9 (K:qai) (ta:TA):TI:=λσ H R=>ta σ H λvs H1=>∃ a,vs=[.ref a]/\(∃ xs,SqL K H1 a xs)/\R (Ite λH xs=>SqL K H a xs) H1
theorem AG {elts:List Expr}{k:Nat}{tpos:Pos}{a:Expr}{ta:TA}{p pos:Pos} (hg:Gl X "enumerate") (hm:X.mg "enumerate" = none) (ha:PA X [a] ta) (hs:qbB [a] X.env=[(false,eval a X.env)]:=by rfl) :
  PI X (.Tuple elts k tpos) (.Call (.Name "enumerate" p) [a] [] pos) (C9 X.K ta):=by
 intro pins s σ H R I h
 refine Call_ (je I hg hm qlh (qce (thn (ha pos pins s σ H _ I h) λus s1 ⟨vs,H1,I1,r1,q1⟩=>?_) hs rfl))
 obtain⟨l,e,⟨xs,hq⟩,q⟩:=q1
 subst e
 cases r1 with
 |cons r rr=>
  cases rr
  cases r
  obtain⟨its,rv,p',hz⟩:=I1.list hq
  refine call_enumerate_list p'.isList λh' he hit hsz hk=>qeN he ?_
  have hlt:l<s1.heap.objs.size:=by obtain⟨_,_,e,_⟩:=p';exact qao e
  refine⟨_,[s1.heap.objs.size+1,s1.heap.objs.size],_,_,H1,rfl,I1.kept (t':=s1.toks) hk,uO l s1.heap.objs.size (s1.heap.objs.size+1) (qgn _) (qat (qa0 hlt)) (qat hlt),⟨⟨_,he⟩,hit⟩,λb hb=>?_,q⟩
  have hb':s1.heap.objs.size<=b:=by
   rcases qaC.mp hb with e|hb
   ·rw[e];exact qcS _
   ·rw[qaO.mp hb];exact qan _
  exact I1.fpOk hb' (I1.hok.fresh hb')
def CW (K:qai) (ta:TA):TI:=λσ H R=>ta σ H λvs H1=>∃ a,vs=[.ref a]/\(∃ xs,SqT K H1 a xs)/\R (Ite λH xs=>SqT K H a xs) H1
theorem zg {elts:List Expr}{k:Nat}{tpos:Pos}{a:Expr}{ta:TA}{p pos:Pos} (hg:Gl X "enumerate") (hm:X.mg "enumerate" = none) (ha:PA X [a] ta) (hs:qbB [a] X.env=[(false,eval a X.env)]:=by rfl) :
  PI X (.Tuple elts k tpos) (.Call (.Name "enumerate" p) [a] [] pos) (CW X.K ta):=by
 intro pins s σ H R I h
 refine Call_ (je I hg hm qlh (qce (thn (ha pos pins s σ H _ I h) λus s1 ⟨vs,H1,I1,r1,q1⟩=>?_) hs rfl))
 obtain⟨l,e,⟨xs,hq⟩,q⟩:=q1
 subst e
 cases r1 with
 |cons r rr=>
  cases rr
  cases r
  obtain⟨its,rv,p',hz⟩:=I1.tuple hq
  refine jw p' λh' he hit hsz hk=>qeN he ?_
  have hlt:l<s1.heap.objs.size:=by obtain⟨_,e,_⟩:=p';exact qao e
  refine⟨_,[s1.heap.objs.size+1,s1.heap.objs.size],_,_,H1,rfl,I1.kept (t':=s1.toks) hk,vn l s1.heap.objs.size (s1.heap.objs.size+1) (qgn _) (qat (qa0 hlt)) (qat hlt),⟨⟨_,he⟩,hit⟩,λb hb=>?_,q⟩
  have hb':s1.heap.objs.size<=b:=by
   rcases qaC.mp hb with e|hb
   ·rw[e];exact qcS _
   ·rw[qaO.mp hb];exact qan _
  exact I1.fpOk hb' (I1.hok.fresh hb')
theorem uY {ns:List Int}:∀ {us:List Value},aQ (ns.map V.int) us->∃ xs:Array (Int×Tok),us.toArray=intItems xs/\xs.toList.map (·.1)=ns:=by
 induction ns with
 |nil=>intro us r;cases r;exact⟨#[],by simp[intItems],rfl⟩
 |cons n ns ih=>
  intro us r
  rw[qal]at r
  cases r with
  |cons r rr=>
   obtain⟨t,rfl⟩:=r
   obtain⟨xs,e,e2⟩:=ih rr
   refine⟨#[(n,t)]++xs,?_,by simp[e2]⟩
   apply qbf.mp
   have e':=congrArg qhw e
   simp[intItems]at e' ⊢
   exact e'
theorem AR:cx X (.builtin "sum") (λxs H Q=>X.calm=true/\∃ (a:Addr) (ns:List Int),xs=[.ref a]/\SqL X.K H a (ns.map V.int)/\Q (.int ns.sum) H):=by
 intro pins s σ H xs us Q I rv h
 obtain⟨hc,a,ns,rfl,hq,q⟩:=h
 cases rv with
 |cons r rr=>
  cases rr
  cases r
  obtain⟨its,rv,p,hz⟩:=I.list hq
  obtain⟨ps,e1,e2⟩:=uY rv
  have hl:=p.isList
  rw[e1]at hl
  refine sum_intListG (I.ok.hd hc) hl λh' tk t' hk=>?_
  refine⟨.int ns.sum,H,I.kept (t':=tk) hk,⟨t',?_⟩,q⟩
  rw[preSum_eq,qcs (by simp),e2]
def fA:V->PyData
 |.non=>.none
 |.bl b=>.bool b
 |.int i=>.int i
 |.str x=>.str x
 |_=>.none
def rS (ys:List V):Str:=(PyData.tuple (ys.map fA)).shown
def gx (y:V):Prop:=y=.non\/∃ i:Int,y=.int i/\0<=i/\i<1024
theorem uS:cx X (.builtin "repr") (λxs H Q=>∃ i:Int,xs=[.int i]/\i.natAbs.log2<1920/\Q (.str (toString i)) H):=by
 intro pins s σ H xs us Q I rv h
 obtain⟨i,rfl,hi,q⟩:=h
 cases rv with
 |cons r rr=>
  cases rr
  obtain⟨t,rfl⟩:=r
  exact call_repr_gives (qfH s i t) F.slot_int_repr F.entry_int_repr (F.args_int_repr_1 _) (gives_int_repr i t hi) ⟨.str _,H,I.tok _,⟨_,rfl⟩,q⟩ (hx:=int_text_fits hi)
theorem jx {h:Heap}:∀ {ys:List V}{us:List Value},aQ ys us->(∀ y∈ys,gx y)->ReadsAll h us (ys.map fA) []
 |_,_,.nil,_=>.nil
 |_,_,.cons (a:=y) r rr,hp=>by
  have hr:=jx (h:=h) rr λz hz=>hp z (qah _ hz)
  rcases hp y qak with e|⟨i,e,_⟩
  ·subst e;cases r;exact .cons (as:=[]) (bs:=[]) .none hr
  ·subst e;obtain⟨t,rfl⟩:=r;exact .cons (as:=[]) (bs:=[]) (.int i t) hr
theorem xU {i:Int} (h0:0<=i) (h1:i<1024):((toString i:String):Str).length<=10:=by
 obtain⟨n,rfl⟩:=qbr h0
 have hn:n < 2 ^ 10:=by have:(1024:Int)=((2 ^ 10:Nat):Int):=by decide
                        lia
 have e:(toString (n:Int))=Nat.repr n:=rfl
 have:=nat_repr_length_le (k:=10) (by decide) hn
 rw[e,PySem.ofString_length]
 exact this
theorem mN:∀ {ys:List V},(∀ y∈ys,gx y)->piled (qcE (ys.map fA))<=12*ys.length
 |[],_=>by simp[qcE,piled]
 |y::ys,hp=>by
  have ih:=mN (ys:=ys) λz hz=>hp z (qah _ hz)
  rw[qal,qcE,piled_cons,qas]
  have:(fA y).shown.length<=10:=by
   rcases hp y qak with e|⟨i,e,h0,h1⟩
   ·subst e;decide
   ·subst e;exact xU h0 h1
  lia
theorem jc:∀ {ys:List V},(∀ y∈ys,gx y)->qhK (ys.map fA)=true
 |[],_=>rfl
 |y::ys,hp=>by
  have ih:=jc (ys:=ys) λz hz=>hp z (qah _ hz)
  rw[qal,qhK,ih,qhf]
  rcases hp y qak with e|⟨i,e,h0,h1⟩
  ·subst e;rfl
  ·subst e
   show decide (i.natAbs.log2<1920)=true
   refine decide_eq_true ?_
   have hn0:i.natAbs<1024:=by lia
   have hn:i.natAbs<2^1920:=qaP (show i.natAbs<2^10 from hn0) (qbg (by decide) (by decide))
   by_cases hz:i.natAbs=0
   ·rw[hz];decide
   ·exact (qk7 hz).mpr hn
theorem lC:∀ {ys:List V},(∀ y∈ys,gx y)->qh2 (ys.map fA)=false
 |[],_=>rfl
 |y::ys,hp=>by
  have ih:=lC (ys:=ys) λz hz=>hp z (qah _ hz)
  rw[qal,qh2,ih,qeE]
  rcases hp y qak with e|⟨i,e,_⟩<;>subst e<;>rfl
theorem t9:∀ {ys:List V},(∀ y∈ys,gx y)->(PyData.tuple (ys.map fA)).depth<=2:=by
 intro ys hp
 have:∀ {ys:List V},(∀ y∈ys,gx y)->qf5 (ys.map fA)<=1:=by
  intro ys
  induction ys with
  |nil=>intro _;simp[qf5]
  |cons y ys ih=>
   intro hp
   have:=ih λz hz=>hp z (qah _ hz)
   rw[qal,qf5]
   have:(fA y).depth<=1:=by
    rcases hp y qak with e|⟨i,e,_⟩<;>subst e<;>simp[fA,qjc]
   lia
 have:=this hp
 simp only[qjc]
 lia
theorem u8 (hg:X.A.guards=some []) (hu:X.A.units+64<cLine):cx X (.builtin "repr") (λxs H Q=>∃ a ys,xs=[.ref a]/\SqT X.K H a ys/\(∀ y∈ys,gx y)/\ys.length<=1000/\Q (.str (rS ys)) H):=by
 intro pins s σ H xs us Q I rv h
 obtain⟨a,ys,rfl,hq,hp,hl,q⟩:=h
 cases rv with
 |cons r rr=>
  cases rr
  cases r
  obtain⟨its,rv,p,hz⟩:=I.tuple hq
  obtain⟨o,ho,hc,n,hd⟩:=p
  have rd:Reads s.heap (.ref a) (.tuple (ys.map fA)) []:=.tuple ho hc hd (by simpa using jx rv hp)
  refine repr_of_reads' rd (jc hp) (PyData.noDict_hsm (lC hp)) hg (by have:=t9 hp;lia) (λ_ _ e=>e) (λh' u tk hk=>⟨.str _,H,I.kept (t':=tk) hk,⟨u,rfl⟩,q⟩) ?_
  show (tupleText (qcE (ys.map fA))).length<=qaS
  have hs:=mN hp
  have hz2:(Str.join ", " (qcE (ys.map fA))).length<=12*ys.length:=by
   cases e:qcE (ys.map fA) with
   |nil=>exact qa7 _
   |cons x r=>
    have:=join_length_add (qcE (ys.map fA)) (by rw[e];simp)
    rw[e]at this
    rw[e]at hs
    lia
  unfold tupleText
  rw[strLen_append,strLen_append]
  have h2:((if (qcE (ys.map fA)).length==1 then ",)" else ")" : String):Str).length<=2:=by split<;>decide
  have h1:((("(" : String):Str)).length=1:=rfl
  have hsz:qaS=16777216:=rfl
  have h1':(("(" : Str)).length=1:=rfl
  lia
end
def iZ (k:Nat) (js:List Nat) (σ:St):St:=qaT k none++js.map λj=>(σ[j]?).getD none
def Fh (scope:Scope) (ns:List (Str×qb9)) (N Nc:List Str) (k:Nat) (js:List Nat):Bool:=
 decide ((scope.names.map (·.1)).Nodup)&&decide Nc.Nodup&&decide (Nc.length=k+js.length) &&
 (scope.names.all λx=>x.2 != .free||ns.lookup x.1==some .cell||ns.lookup x.1==some .free) &&
 ((qam js.length).all λi=>match Nc[k+i]?,js[i]? with|some x,some j=>N[j]?==some x&&scope.names.lookup x==some .free|_,_=>false)
theorem cg {X:Cx}{scope:Scope} (ns:List (Str×qb9)) (N Nc:List Str) (k:Nat) (js:List Nat) (hns:X.env.scope.names=ns) (hN:X.N=N) (hk:scope.kind=.function) (h:Fh scope ns N Nc k js=true):gG X scope Nc (iZ k js):=by
 unfold Fh at h
 simp only[qa8,decide_eq_true_eq]at h
 obtain⟨⟨⟨⟨h1,h2⟩,h3⟩,h4⟩,h5⟩:=h
 refine⟨hk,h1,h2,λx hx hf=>?_,λσ _=>?_,λσ _ i x v e1 e2=>?_⟩
 ·have:=qaw.mp h4 x hx
  rw[hf]at this
  simp only[qdw,beq_iff_eq,bne_self_eq_false,qax,false_or]at this
  unfold qmm
  rw[hns]
  exact this
 ·unfold iZ
  rw[qa2,qc3,qae,h3]
 ·unfold iZ at e2
  by_cases hi:i<k
  ·rw[qaY (by simpa using hi),qdu,if_pos hi]at e2
   cases e2
  ·rw[qbd (by simpa using hi),qc3,qaZ]at e2
   cases ej:js[i - k]? with
   |none=>rw[ej]at e2;cases e2
   |some j=>
    rw[ej]at e2
    have hlt:=(qay.mp ej).1
    have:=qaw.mp h5 (i - k) (qaK.mpr hlt)
    rw[show k+(i - k)=i by lia,e1,ej]at this
    simp only[qa8,beq_iff_eq]at this
    refine⟨j,by rw[hN];exact this.1,?_,this.2⟩
    have e3:(σ[j]?).getD none=some v:=qaR e2
    cases eq:σ[j]? with
    |none=>rw[eq]at e3;cases e3
    |some o=>rw[eq]at e3;rw[show o=some v from e3]
def Fy (names ns:List (Str×qb9)):List (Str×qb9):=names.map λx=>if (x.2==NameKind.free&&ns.lookup x.1==some .cell) then (x.1,.cell) else x
theorem lB {X:Cx}{scope:Scope}{cells:List (Str×Addr)}{Nc:List Str}{s:qaj}{H:Hp}{C:Addr}{fp:List Addr}{ns:List (Str×qb9)} (hk:X.env.scope.kind=.function) (hns:X.env.scope.names=ns) :
  (lcX X scope cells Nc s H C fp).env.scope.names=Fy scope.names ns:=by
 show (scope.names.map _)=_
 unfold Fy
 congr 1
 funext x
 obtain⟨n,k⟩:=x
 show (if (k==.free&&X.env.scope.kind==.function&&X.env.kindOf n==some .cell)=true then (n,NameKind.cell) else (n,k))=(if (k==.free&&ns.lookup n==some .cell)=true then (n,NameKind.cell) else (n,k))
 unfold qmm
 rw[hk,hns,show (ScopeKind.function==ScopeKind.function)=true from rfl,qhf]
section
variable {σe tl:St}{tt:TT}{te:TE}{H:Hp}{Q:VK}
end
section
variable {X:Cx}
theorem B9:OpR X (qbC .Mult) (rI qhd λi j=>.int (i*j)):=opI λ_ _ _ _ _ _ _ hc q=>mul_int q hc
end
theorem bH.new {H:Hp}{p:Addr} (h:H p=none) (o:HO):bH H (upd H p o):=λb u q=>by rw[aO (aP q h)];exact q
theorem xS {X:Cx} (hg:X.A.guards=some []) (hu:X.A.units+64 < cLine):cx X (.builtin "repr") (λxs H Q=>(∃ i:Int,xs=[.int i]/\i.natAbs.log2 < 1920/\Q (.str (toString i)) H)\/
  (∃ a ys,xs=[.ref a]/\SqT X.K H a ys/\(∀ y∈ys,gx y)/\ys.length<=1000/\Q (.str (rS ys)) H)):=cx.or uS (u8 hg hu)
theorem jX {n:Nat} (h:n<=1000):n<=qaS:=qdQ (xm h)
theorem p18:rV 10 18:=⟨by decide,by decide,by decide⟩
end L2
namespace L2
open PySem PySem.Spec PyProof.Rows
open PySem.AutoSeq1 (wpAny_loadPart')
theorem yE (l:Addr) (items:Array Value) (n:Nat) (dct:Option Addr) (sl:Array (Option Value)) (u:Tok) :
  Meets (qcB.«tuple.__mul__» ⟨[.ref l,.int 1 u],[]⟩) (λ_ R s=>s.heap.get? l=some { cls:=.type "tuple",dict:=dct,data:=.seq items n,slots:=sl }/\R (.ok (.ret (.ref l))) s):=
 .of_wp λprog w A R s h=>by
  obtain⟨hp,g,d,tk,os⟩:=s;obtain⟨hl,h⟩:=h
  wp_walk using wpAny_loadPart' hl
  exact⟨_,rfl,h⟩
theorem xt (l:Addr) (items:Array Value) (n:Nat) (dct:Option Addr) (sl:Array (Option Value)) (x:Int) (u:Tok) (h2:2<=x) (h3:x<1000) (he:items.isEmpty=false) (hz:items.size<=1000)
  (hsz:((qaT x.toNat items).foldl (λx1 x2=>x1++x2) #[]).size<=qaS) :
  Meets (qcB.«tuple.__mul__» ⟨[.ref l,.int x u],[]⟩) (λ_ R s=>s.heap.get? l=some { cls:=.type "tuple",dict:=dct,data:=.seq items n,slots:=sl }/\
   R (.ok (.ret (.ref s.heap.objs.size))) { s with heap:=s.heap.push { cls:=.type "tuple",data:=.seq ((qaT x.toNat items).foldl (λx1 x2=>x1++x2) #[]) } }):=
 .of_wp λprog w A R s h=>by
  obtain⟨hp,g,d,tk,os⟩:=s;obtain⟨hl,h⟩:=h
  have c1:(x < -(2^63)||x>=2^63)=false:=by simp;lia
  have c2:(items.isEmpty||x==1)=false:=by rw[he];simp;lia
  have c3:(x<=0||items.isEmpty)=false:=by rw[he];simp;lia
  have hpr:(items.size:Int)*x<=1000000:=by
   have a1:(items.size:Int)*x<=1000*x:=Int.mul_le_mul_of_nonneg_right (by lia) (by lia)
   lia
  have c4:¬ ((items.size:Int)*x > (2^63 - 1) / 8):=by lia
  have c5:qfn ((items.size:Int)*x)=false:=by
   unfold qfn
   exact decide_eq_false (by have:(qaS:Nat)=16777216:=rfl
                             lia)
  wp_walk using wpAny_loadPart' hl
  refine qfv (decide_eq_false (by rw[c1];exact qaq)) ?_
  wp_walk using wpAny_loadPart' hl
  refine qfv (decide_eq_false (by rw[c2];exact qaq)) ?_
  wp_walk using wpAny_loadPart' hl
  refine qfv (decide_eq_false (by rw[c3];exact qaq)) ?_
  wp_walk using wpAny_loadPart' hl
  refine qfv (decide_eq_false c4) ?_
  wp_walk using wpAny_loadPart' hl
  exact⟨_,rfl,h⟩
theorem lU:fillsNumberSlot (.type "tuple") "mul" = pure false:=
 PySem.fillsNumberSlot_seq (id:="tuple.__mul__") (r:=some (.builtin "tuple.__rmul__")) qeV.lookup (by decide +kernel) qjg.lookup (by decide +kernel)
theorem rX:seqRepeat? (.type "tuple")=pure (some (.builtin "tuple.__mul__")):=by
 unfold seqRepeat?
 rw[qiy (T:="tuple") (name:="__mul__") (id:="tuple.__mul__") qeV.lookup (by decide +kernel),qiy (T:="tuple") (name:="__rmul__") (id:="tuple.__rmul__") qjg.lookup (by decide +kernel)]
 rfl
theorem oV (a:Int) (t:Tok) (l:Addr) (items:Array Value) (n:Nat) (dct:Option Addr) (sl:Array (Option Value)) :
  Meets (qcB.«int.__rmul__» ⟨[.int a t,.ref l],[]⟩) (λ_ R s=>s.heap.get? l=some { cls:=.type "tuple",dict:=dct,data:=.seq items n,slots:=sl }/\R (.ok (.ret Value.notImplemented)) s):=
 .of_wp λprog w A R s h=>by obtain⟨hp,g,d,tk,os⟩:=s;obtain⟨hl,h⟩:=h;wp_walk using wpAny_loadPart' hl;exact⟨_,rfl,h⟩
section
variable {X:Cx}
def ET (K:qai):R2:=λx y H Q=>∃ l k xs,x=.ref l/\y=.int k/\SqT K H l xs/\xs≠[]/\xs.length<=1000/\1<=k/\k<1000/\(k=1->Q (.ref l) H)/\
 (k≠1->∀ p,H p=none->Q (.ref p) (upd H p (.tup (qaT k.toNat xs).flatten)))
theorem BP:OpR X (qbC .Mult) (ET X.K):=by
 intro pins s σ H x y v u Q I rx ry h
 obtain⟨l,k,xs,rfl,rfl,hq,hne,hl1,h1,h2,q1,q2⟩:=h
 cases rx
 obtain⟨t,rfl⟩:=ry
 obtain⟨its,rv,p,hz⟩:=I.tuple hq
 obtain⟨⟨c,dct,dt,sl⟩,e,hc,n,hd⟩:=p
 replace hc:c=.type "tuple":=hc
 replace hd:dt=.seq its.toArray n:=hd
 subst hc hd
 have hlen:=rv.length
 refine qhH (T:="tuple") (U:="int") (by decide) ⟨_,e,rfl⟩ (λs'=>qfH s' k t) lU qjT qfg rX qjz.lookup
  (qdh qfg (qfH s k t) qjA (qji _ _) (oV k t l its.toArray n dct sl) ⟨e,rfl,⟨_,e,rfl⟩,?_⟩)
 by_cases hk:k=1
 ·subst hk
  exact qdh qeV ⟨_,e,rfl⟩ qjh (qi1 _ _) (yE l its.toArray n dct sl t) ⟨e,.ref l,H,I,rfl,q1 rfl⟩
 ·have f0:qe4 (λx1 x2=>x1++x2) #[] (qaT k.toNat its.toArray)=(qaT k.toNat its).flatten.toArray:=by
   have:=mn its k.toNat []
   rw[qcH]at this
   exact this
  have hsz:(qaT k.toNat xs).flatten.length<=qaS:=by
   rw[qY]
   have:k.toNat*xs.length<=1000*1000:=qg3 (by lia) hl1
   have hs:qaS=16777216:=rfl
   lia
  have hsz2:(qaT k.toNat its).flatten.length<=qaS:=by
   rw[qY]at hsz ⊢
   rw[<-hlen];exact hsz
  refine qdh qeV ⟨_,e,rfl⟩ qjh (qi1 _ _) (xt l its.toArray n dct sl k t (by lia) h2 ?_ (by rw[qaz];lia) (by rw[f0,qaz];exact hsz2)) ⟨e,?_⟩
  ·cases its with
   |nil=>cases xs with
    |nil=>exact absurd rfl hne
    |cons _ _=>cases hlen
   |cons _ _=>rfl
  ·rw[f0]
   refine⟨.ref _,_,I.laid (t':=s.toks) (o:=.tup (qaT k.toNat xs).flatten) (λ_ _ q=>qag _ q) (qan _) ⟨hsz,(qaT k.toNat its).flatten,rv.rep k.toNat,⟨_,qaA _ rfl,rfl,⟨0,rfl⟩,rfl⟩⟩,rfl,q2 hk _ I.fresh⟩
end
end L2
namespace L2
open PySem PySem.Spec PyProof.Rows
section
variable {X:Cx}{K:qai}
theorem E1 (hc:X.calm=true:=by rfl) (hK:X.K=K:=by rfl):cx X (.builtin "sum") (λxs H Q=>∃ (a:Addr) (ns:List Int),xs=[.ref a]/\SqL K H a (ns.map V.int)/\Q (.int ns.sum) H):=by
 subst hK
 intro pins s σ H xs us Q I rv h
 exact AR pins s σ H xs us Q I rv ⟨hc,h⟩
theorem zb {k:Nat} (hr:cZ k X.A) (hK:X.K=K:=by rfl):cx X (.builtin "repr") (λxs H Q=>(∃ i:Int,xs=[.int i]/\i.natAbs.log2 < 1920/\Q (.str (toString i)) H)\/
  (∃ a ys,xs=[.ref a]/\SqT K H a ys/\(∀ y∈ys,gx y)/\ys.length<=1000/\Q (.str (rS ys)) H)):=by subst hK;exact xS hr.gd hr.units
end
section
variable {X:Cx}
end
theorem we {n j:Nat} (h:j<n):ixN n (j:Int)=some j:=by
 unfold ixN
 rw[if_pos (by lia),if_pos (by lia),qaW]
section
variable {X:Cx}{e:Expr}{ty:TE}{p1 p2 p3 p4 dpos apos cpos:Pos}{j1 j2 j3 j4:Nat}
end
end L2
namespace L2
open PySem PySem.Spec PyProof.Rows
open PySem.AutoSeq1 (wpAny_loadPart')
section
variable {prog:qaX}{w:World}{A:qbc}{E:Value->qaj->Prop}{s:qaj}
end
section
variable {X:Cx}
end
section
variable {prog:qaX}{w:World}{A:qbc}{E:Value->qaj->Prop}{s:qaj}
end
section
variable {X:Cx}{e:Expr}{te:TE}{p1 p2 p3 pos:Pos}{j:Nat}
end
end L2
namespace L2
open PySem PySem.Spec PyProof.Rows
theorem aQ.at {xs:List V}{us:List Value} (r:aQ xs us):∀ (j:Nat) (h:j<us.length) ,∃ h':j<xs.length,aV xs[j] us[j]:=by
 induction r with
 |nil=>intro j h;exact absurd h (qd6 j)
 |cons a t ih=>
  intro j h
  cases j with
  |zero=>exact⟨Nat.zero_lt_succ _,a⟩
  |succ j=>
   obtain⟨h1,r1⟩:=ih j (qhz h)
   exact⟨Nat.succ_lt_succ h1,r1⟩
theorem pB (e:Nat->Bool) (n:Nat):(qam (n+1)).all e=(e 0&&(qam n).all λj=>e (j+1)):=by
 rw[qht,qbL,qhD];rfl
section
variable {X:Cx}{K:qai}{pins:List (Addr×Obj)}{σ:St}{H:Hp}{s:qaj}{A:qbc}{a b:Addr}{xs ys:List V}
end
section
variable {X:Cx}{pos p1 p2:Pos}{j1 j2:Nat}
end
section
variable {K:qai}{H:Hp}
end
section
variable {X:Cx}{K:qai}
end
end L2
namespace HT
open PySem PySem.Spec PyProof.Rows L2
section
variable {prog:qaX}{w:World}{A:qbc}{E:Value->qaj->Prop}{s:qaj}
theorem getItem_tuple_all {t sl:Addr}{items:Array Value}{vl vu:Value}{lo hi:Option Int}{Q:Value->qaj->Prop} (ht:IsTup s.heap t items) (hs:s.heap.IsSliceOf sl vl vu .none) (pl:qgQ vl lo) (pu:qgQ vu hi)
  (hw:sIx items.size 0 lo=0/\sIx items.size items.size hi=items.size) (h:Q (.ref t) s):wpAny (model prog w) A (qfz (.ref t) (.ref sl)) Q E s:=by
 obtain⟨os,hos,hcs,hds⟩:=id hs
 have hTs:s.TypeIs (.ref sl) "slice":=⟨os,hos,hcs⟩
 unfold qfz
 try with_reducible refine qbj ?_
 first|refine qaa (qab ?_)|skip
 refine qaa (qjB ht.typeIs (by decide) ?_)
 refine qaa (qbO (name:=qbH "__getitem__") ht.typeIs qbE
  (qbn qbE ht.typeIs qja ?_ (qjo _ _)))
 show wpAny _ _ (qfo (.ref t) >>= _) _ _ s
 refine qaa (tupleItemsOf_ ht ?_)
 refine qaa (qft hTs ?_)
 rw[if_pos (by decide)]
 refine qaa (iq hs pl pu ?_)
 have hyes:(((sIx items.size 0 lo:Nat):Int)==0&&(1:Int)==1&&(sIx items.size items.size hi - sIx items.size 0 lo)==items.size)=true:=by
  rw[hw.1,hw.2]
  simp
 show wpAny _ _ (if (((sIx items.size 0 lo:Nat):Int)==0&&(1:Int)==1&&(sIx items.size items.size hi - sIx items.size 0 lo)==items.size)=true then _ else _) _ _ s
 rw[if_pos hyes]
 unfold qjU
 refine qaa (qaa (qft ht.typeIs (qab ?_)))
 show wpAny _ _ (if ((Value.type "tuple")==(Value.type "tuple"))=true then _ else _) _ _ s
 rw[if_pos (beq_self_eq_true _)]
 first
  |exact qaa (qc2 (qab ⟨_,rfl,qab h⟩))
  |exact qaa (qaa (qc2 (qab (qab ⟨_,rfl,qab h⟩))))
  |exact qaa (qc2 (qaa (qab (qab ⟨_,rfl,qab h⟩))))
  |exact qaa (qc2 (qaa (qab ⟨_,rfl,qab h⟩)))
end
end HT
namespace L2
open PySem PySem.Spec PyProof.Rows
def Gg (K:qai):V->Option Int->Option Int->Hp->VK->Prop:=λx lo hi H Q=>∃ a xs,x=.ref a/\SqT K H a xs/\
 ((¬ (HT.sIx xs.length 0 lo=0/\HT.sIx xs.length xs.length hi=xs.length)/\∀ p,H p=none->Q (.ref p) (upd H p (.tup (r8 xs lo hi))))\/
   ((HT.sIx xs.length 0 lo=0/\HT.sIx xs.length xs.length hi=xs.length)/\Q (.ref a) H))
theorem DS {X:Cx}{K:qai} (hK:X.K=K:=by rfl):SlR X (Gg K):=by
 subst hK
 intro pins s σ H x v vl vu lo hi sl Q I rx hs pl pu h
 obtain⟨a,xs,rfl,hx,h⟩:=h
 rcases h with⟨hw,q⟩|⟨hw,q⟩
 ·exact Ew pins s σ H _ v vl vu lo hi sl Q I rx hs pl pu ⟨a,xs,rfl,hx,hw,q⟩
 ·cases rx
  obtain⟨its,r,ht,hz⟩:=I.tuple hx
  have hlen:its.toArray.size=xs.length:=by rw[qaz];exact r.length.symm
  refine⟨"tuple",_,qbE.lookup,ht.typeIs,?_⟩
  exact HT.getItem_tuple_all ht hs pl pu (by rw[hlen];exact hw) ⟨.ref a,H,I,rfl,q⟩
section
variable {X:Cx}{scope:Scope}{Nc:List Str}{emb:St->St}{elt iter tg:Expr}{ifs:List Expr}{pos:Pos}{wi:TI}{g:TG}{tt:TT}{te:TE}
theorem Fq {i0:Nat}{x0:Str}{py spos:Pos} (hN0:X.N.Nodup) (hi0:X.N[i0]?=some x0) (hx0:Loc X.env.scope x0) (S:gG X scope Nc emb) (hc:X.calm=true) (hi:PI X tg iter wi)
  (hg:∀ cells s H C fp,PG (lcX X scope cells Nc s H C fp) tg g) (ht:∀ cells s H C fp,PTs (lcX X scope cells Nc s H C fp) ifs tt) (he:∀ cells s H C fp,PE (lcX X scope cells Nc s H C fp) elt te)
  (hsw:qeO (.ListComp elt [⟨tg,iter,ifs,0⟩] scope pos) (some (.Name x0 py)) spos.line X.env=pure true:=by rfl)
  (hf0:X.fn x0=true\/X.env.scope.names.lookup x0=some .local:=by first|exact .inl rfl|exact .inr rfl|assumption)
  (hs:∀ x,qcR iter X.env x=pure x:=by intro _;rfl):PS X (.Assign [.Name x0 py] (.ListComp elt [⟨tg,iter,ifs,0⟩] scope pos) spos) (Ey (tLc emb wi g tt te) (sQ i0)):=by
 intro pins s σ H DD I h
 rw[exec_Assign_Name_used _ _ _ _ hsw]
 refine qaa (qed (qaa ?_))
 show wpAny _ X.A (do let _ <-comprehension (.ListComp elt [⟨tg,iter,ifs,0⟩] scope pos) scope X.env _ (qk2 []) false (eval iter X.env) (some (qfS (.Name x0 py) X.env))) _ _ s
 refine qaa (qcu (qhS (use:=some (qfS (.Name x0 py) X.env)) (Q:=λ_ s'=>SP X pins DD .next s') rfl hs (kg (S.clos I.ok)) S.kind (λx hx hl=>fE S.nd (by rw[<-hl];exact hx)) ?_) (λ_ s' hq=>qab (qab hq)) λ_ _ e=>e)
 refine thn (hi pins s σ H _ I h) λv s1 h1=>thn h1 λitv s2 h2=>?_
 obtain⟨it,fp,tn,J,H2,e,I2,T,st2,f2,W,⟨m0,w0⟩,turn⟩:=h2
 subst e
 refine qbi (lE ?_)
 rw[show (s2.heap.push { cls:=.type "list",dict:=none,data:=.seq ([]:List Value).toArray }).objs.size=s2.heap.objs.size+1 from qbU ..]
 generalize hD:s2.heap.objs.size=D
 generalize hlo:({ cls:=.type "list",dict:=none,data:=.seq ([]:List Value).toArray }:Obj)=lo
 have fplt:∀ b∈fp,b<s2.heap.objs.size:=λb hb=>by obtain⟨o,e,_⟩:=T.obj _ _ st2 b hb;exact qao e
 have I3:=uh (lo:=lo) S I2 f2 (λb hb=>by obtain⟨o,e,_⟩:=T.obj _ _ st2 b hb;exact⟨o,e⟩) (by rw[<-hlo];intro v z;cases z) (by rw[<-hlo];rfl)
 rw[hD]at I3
 generalize hcells:qcb (D+2) scope.names (ca X.env.cells scope.names [])=cells at I3
 generalize hX':lcX X scope cells Nc s2 H2 (D+1) fp=X' at I3
 have hfpX:∀ {H':Hp}{ps:List (Addr×Obj)},(∀ b∈fp,H' b=none)->(∀ p∈ps,p.1=D)->∀ b∈fp,j9 X' ps H' b:=λ{H' ps} hn hps b hb=>by
  have ok:=I3.ok
  refine⟨hn b hb,?_,?_,.inl (by rw[<-hX'];exact hb),?_,λp hp=>?_⟩
  ·exact (ok.exf b (by rw[<-hX'];exact hb)).1
  ·exact ok.exfs b (by rw[<-hX'];exact hb)
  ·exact (ok.exf b (by rw[<-hX'];exact hb)).2
  ·have hp':p∈([]:List (Addr×Obj))++ps:=by rw[<-hX']at hp;exact hp
   have e:p.1=D:=hps p (by simpa using hp')
   rw[e,<-hD]
   exact qbA (fplt b hb)
 have Dex:D∈X'.ex\/X'.s₀.heap.objs.size<=D:=.inr (by rw[<-hX',<-hD];exact qan _)
 have Dloc:D≠X'.env.locals:=by rw[<-hX'];exact qat (qb4 _)
 have pD:=I3.pin (D,lo) (by rw[<-hX'];exact qau _ qak)
 have Dfs:D∉X'.fs:=pD.2.2.2.1
 have Dcell:∀ x c,X'.env.cells.lookup x=some c->c≠D:=λx c hc' e=>by
  obtain⟨v,o,ho,hd⟩:=I3.cell x c hc'
  rw[e,pD.1]at ho
  cases ho
  exact pD.2.2.2.2 v hd
 -- the loop
 have loop:∀ s3:qaj,s3={ s2 with heap:=qfx ((s2.heap.push lo).push { cls:=.type "dict",data:=.dict #[] }) scope.names }->
   qes (model X.prog X.w) X.A (.compLoop (.ListComp elt [⟨tg,iter,ifs,0⟩] scope pos) 0 (.ref it) (.ref D) (qih scope cells (D+1) X.env))
    (compPost (model X.prog X.w) X.A X.xe (some (qfS (.Name x0 py) X.env)) (λ_ s'=>SP X pins DD .next s') (.ref D) (D+1)) s3:=by
  rintro s3 rfl
  refine eS (λn s'=>∃ i ys its k H',Inv X' [(D,{ cls:=.type "list",data:=.seq its.toArray k })] (emb σ) H' s'/\aQ ys its/\tn i s'.heap/\(∀ b∈fp,H' b=none)/\ys.length<=qaS/\W i n ys H') ?_ m0
   ⟨0,[],[],0,H2,?_,.nil,?_,λb hb=>(f2 b hb).1,qa7 _,w0⟩
  ·rintro n s4 ⟨i,ys,its,k,H4,I4,rv,st4,fr4,hlen,w4⟩
   have hps:∀ p∈[(D,({ cls:=.type "list",data:=.seq its.toArray k }:Obj))],p.1=D:=λp hp=>by
    have:=qaO.mp hp
    rw[this]
   rcases turn i n ys H4 w4 with⟨stop,qn⟩|⟨go,hlt,N,hN,step⟩
   ·-- the end
    have TD:=T.done X' (by rw[<-hX'];rfl) (by rw[<-hX'];rfl) (by rw[<-hX'];rfl) (by rw[<-hX'];exact hc) i _ s4 (emb σ) H4 (λ_ _=>False) I4 (hfpX fr4 hps) st4 stop
    rw[show X'.A=X.A by rw[<-hX'];rfl]at TD
    refine thn TD λr s5 ⟨hr,I5⟩=>?_
    subst hr
    obtain⟨m5,hn5,_⟩:=id I5.loc
    have eC:X'.env.locals=D+1:=by rw[<-hX'];rfl
    rw[eC]at hn5
    suffices inv5:∀ h',qbq (D+1) s5.heap h'->Inv X pins σ (upd H4 D (.lst ys)) { s5 with heap:=h' } by
     have I5X:Inv X pins σ (upd H4 D (.lst ys)) s5:=inv5 s5.heap ⟨rfl,λ_ _=>rfl⟩
     have hD4':H4 D=none:=(I5.pin (D,{ cls:=.type "list",data:=.seq its.toArray k }) (by rw[<-hX'];exact qau _ qak)).2.1
     have hC4:upd H4 D (.lst ys) (D+1)=none:=by
      have:=I5.free
      rw[eC]at this
      rw[aO (qbA (qb4 D))]
      exact this
     have fpC:∀ b∈[D+1],j9 X pins (upd H4 D (.lst ys)) b:=λb hb=>by
      have e:=qaO.mp hb
      subst e
      exact I2.fpOk (by rw[hD];exact qcS D) hC4
     obtain⟨oC,esC,epC,getC,datC,relC⟩:=id hn5
     have I5p:=I5X.pinned fpC λb hb=>by
      have e:=qaO.mp hb
      subst e
      exact⟨oC,getC,λv z=>by rw[datC]at z;cases z⟩
     refine qjE (jv I5p hN0 hi0 hx0 (v:=.ref D) rfl (λs6 I6=>?_) hf0)
     have pC:=(I6.pin (D+1,oC) (qau _ (qau _ (dE qak getC)))).1
     refine⟨m5,⟨oC,esC,epC,pC,datC,relC⟩,λh' hsb=>?_⟩
     have I6u:=I6.unpinned
     exact⟨_,_,I6u.turns (t':=s6.toks) fpC (λb o hb e=>(hsb.2 b (λz=>hb (by rw[z];exact qak))).trans e),qn D hD4'⟩
    intro h' hsb
    have pD5:=I5.pin (D,{ cls:=.type "list",data:=.seq its.toArray k }) (by rw[<-hX'];exact qau _ qak)
    have neC:∀ b u,H4 b=some u->b≠D+1:=λb u e z=>by
     have:=I5.free
     rw[eC,<-z,e]at this
     cases this
    have hD4:H4 D=none:=pD5.2.1
    have un:=I5.base
    have un':Un (frs X.stack) fp H2 H4 s2.heap s5.heap:=by rw[<-hX']at un;exact un
    have old_ne:∀ b o,s2.heap.get? b=some o->b≠D/\b≠D+1:=λb o e=>by
     have q:=qao e
     rw[hD]at q
     exact⟨qat q,qat (qa0 q)⟩
    have h2D:H2 D=none:=by rw[<-hD];exact I2.fresh
    have hok':HOk X.prog X.w H4 h':=λb u e=>by
     have ob:di X.prog X.w H4 s5.heap b u:=by have:=I5.hok b u e;rw[<-hX']at this;exact this
     refine ob.stay (λc v hcv q=>(hsb.2 c ?_).trans q) (λ_ q=>q) λ_ _ q=>q
     rcases hcv with z|z
     ·rw[z];exact neC b u e
     ·exact neC c _ z
    have hokD:HOk X.prog X.w (upd H4 D (.lst ys)) h':=λb u e=>by
     by_cases hb:b=D
     ·subst hb
      rw[bb]at e
      cases e
      exact⟨hlen,its,k,rv,(hsb.2 b (qat (qb4 _))).trans pD5.1⟩
     ·rw[aO hb]at e
      refine (hok' b u e).stay (λ_ _ _ q=>q) (λc q=>?_) λc z q=>?_
      all_goals first
       |(rw[aO (aP q hD4)];exact q)
       |(rw[aO (aP z hD4)];exact z)
    refine I2.call' (s':={ s5 with heap:=h' }) (ch:=fp) ?_ ⟨λb o e nb hb hx=>?_,λb o e nb hb hx=>?_,λb o e nb hx=>?_,λb o e hx=>?_,λb xs e=>?_,λb o u e=>?_,λb ps e=>?_⟩ hokD I5.bare (λb hb=>?_)
    ·have:=I5.os
     rw[<-hX']at this
     exact this
    ·exact (hsb.2 b (old_ne b o e).2).trans (un'.keep b o e nb hb hx)
    ·obtain⟨sl,q⟩:=un'.slot b o e nb hb hx
     exact⟨sl,(hsb.2 b (old_ne b o e).2).trans q⟩
    ·rw[aO (old_ne b o e).1]
     exact un'.free b o e nb hx
    ·obtain⟨o',q⟩:=un'.there b o e hx
     exact⟨o',(hsb.2 b (old_ne b o e).2).trans q⟩
    ·rw[aO (aP e h2D)]
     exact un'.tups b xs e
    ·rw[aO (aP e h2D)]
     exact un'.frzs b o u e
    ·obtain⟨m,q⟩:=un'.tbls b ps e
     exact⟨m,by rw[aO (aP e h2D)];exact q⟩
    ·obtain⟨q0,q1,q2,q3,q4,q5⟩:=f2 b hb
     exact⟨q3,q1,q4,q5⟩
   ·-- a turn
    have hA:X'.A=X.A:=by rw[<-hX'];rfl
    have hP:X'.prog=X.prog:=by rw[<-hX'];rfl
    have hw:X'.w=X.w:=by rw[<-hX'];rfl
    have hE:X'.env=qih scope cells (D+1) X.env:=by rw[<-hX'];rfl
    have hxe:X'.xe=λ_ _=>False:=by rw[<-hX'];rfl
    have TI':=T.item X' hP hw (by rw[<-hX'];rfl) (by rw[<-hX'];exact hc) i _ s4 (emb σ) H4 (λ_ _=>False) I4 (hfpX fr4 hps) st4 go
    rw[hA]at TI'
    refine thn TI' λr s5 ⟨u,hr,h5⟩=>?_
    subst hr
    refine thn h5 λ_ s6 ⟨x,H6,I6,r6,y6,st6,fr6⟩=>?_
    have I6':=I6.pinned (hfpX fr6 hps) (T.obj _ _ st6)
    have G:=hg cells s2 H2 (D+1) fp
    have TT':=ht cells s2 H2 (D+1) fp
    have EE:=he cells s2 H2 (D+1) fp
    rw[hX']at G TT' EE
    have G':=G _ s6 (emb σ) H6 x u _ I6' r6 (step x H6 y6)
    rw[hA,hP,hw,hE,hxe]at G'
    refine thn G' λ_ s7 ⟨σ7,H7,I7,sb7,q7⟩=>?_
    have T':=TT' _ s7 σ7 H7 _ I7 q7
    rw[hA,hP,hw,hE,hxe]at T'
    refine thn T' λok s8 ⟨H8,I8,q8⟩=>?_
    -- what is pinned
    have pin_fp:∀ {σ9:St}{H9:Hp}{s9:qaj},Inv X' ([(D,({ cls:=.type "list",data:=.seq its.toArray k }:Obj))]++mq fp s6.heap) σ9 H9 s9->tn (i+1) s9.heap/\∀ b∈fp,H9 b=none:=λ{σ9 H9 s9} I9=>
     ⟨T.keep _ _ _ st6 λb hb o e=>(I9.pin (b,o) (qau _ (qau _ (dE hb e)))).1,λb hb=>by
      obtain⟨o,e,_⟩:=T.obj _ _ st6 b hb
      exact (I9.pin (b,o) (qau _ (qau _ (dE hb e)))).2.1⟩
    cases ok with
    |false=>
     rw[if_neg (by decide)]at q8
     rw[if_neg (by decide)]
     obtain⟨m',hm,w8⟩:=hN _ _ q8
     exact⟨m',hm,i+1,ys,its,k,H8,I8.unpinned.weak sb7.1 sb7.2,rv,(pin_fp I8).1,(pin_fp I8).2,hlen,w8⟩
    |true=>
     rw[if_pos rfl]at q8
     rw[if_pos rfl]
     have E':=EE _ s8 σ7 H8 _ I8 q8
     rw[hA,hP,hw,hE,hxe]at E'
     refine thn E' λy s9 ⟨v9,H9,I9,r9,n9⟩=>?_
     obtain⟨m',hm,w9⟩:=hN _ _ n9
     have pD9:=I9.pin (D,{ cls:=.type "list",data:=.seq its.toArray k }) (qau _ (qcG _ qak))
     have hl:=rv.length
     have I9n:Inv X' [] σ7 H9 s9:=I9.pins_of λp hp=>nomatch hp
     refine qdh qf0 ⟨_,pD9.1,rfl⟩ qfQ (qfG _ _) (qfN D its.toArray k y (by rw[qaz];lia)) ⟨pD9.1,?_⟩
     have up:∃ k':Nat,(s9.heap.update D (qb2 λxs=>xs.push y)).get? D=some { cls:=.type "list",data:=.seq (its++[y]).toArray k' }:=by
      have q:=qfC pD9.1 (λxs:Array Value=>xs.push y)
      simp only[qiB]at q
      exact⟨_,q⟩
     obtain⟨k',up⟩:=up
     have hoth:∀ b o,b≠D->s9.heap.get? b=some o->(s9.heap.update D (qb2 λxs=>xs.push y)).get? b=some o:=λb o hb e=>(qbo s9.heap _ (qcz hb)).trans e
     have I10:=I9n.turned (t':=s9.toks) hoth pD9.2.1 Dloc Dex Dcell (λp hp=>absurd (show p∈([]:List (Addr×Obj)) by rw[<-hX']at hp;exact hp) (by simp))
     refine⟨m',hm,i+1,ys++[v9],its++[y],k',H9,(I10.weak sb7.1 sb7.2).pins_of (λp hp=>?_),rv.append (.cons r9 .nil),T.keep _ _ _ (pin_fp I9).1 (λb hb o e=>hoth b o (by rw[<-hD];exact qat (fplt b hb)) e),(pin_fp I9).2,?_,w9⟩
     ·have:=qaO.mp hp
      subst this
      exact⟨up,pD9.2.1,Dloc,Dfs,λv z=>by cases z⟩
     ·rw[qa2,qeT]
      lia
  ·have q:lo={ cls:=.type "list",data:=.seq ([]:List Value).toArray 0 }:=hlo.symm
   rw[<-q]
   exact I3
  ·exact T.keep _ _ _ st2 λb hb o e=>qde _ _ b o (qag _ (qag _ e))
 refine qiv ?_ ?_
 ·exact loop _ rfl
 ·refine T.self X.A 0 _ _ _ (T.keep _ _ _ st2 λb hb o e=>qde _ _ b o (qag _ (qag _ e))) ?_
  exact loop _ rfl
end
def aU:Expr->Bool
 |.Starred _ _=>false
 |_=>true
theorem bE {e:Expr}{es:List Expr}{env:Env} (h:aU e=true):qbB (e::es) env=(false,eval e env)::qbB es env:=by
 cases e<;>first|(cases h;done)|rfl
theorem dr {pos:Pos}{env:Env}:∀ {es:List Expr},es.all aU=true->(qea pos (qbB es env)).any (·.1)=false
 |[],_=>by simp[qbB,qea]
 |e::es,h=>by
  rw[qbL,qa8]at h
  rw[bE h.1]
  have:=dr (pos:=pos) (env:=env) h.2
  unfold qea at this ⊢
  rw[qal,qcj,this]
  rfl
theorem zX {pos:Pos}{env:Env}{es:List Expr} (h:es.all aU=true) (hl:es.length < 30):((qea pos (qbB es env)).all (λx=>!x.1) && (qgl pos (qer [] env)).all (λx=>x.1.isSome)
   && decide (es.length+([]:List qgC).length+(if ([]:List qgC).isEmpty then 0 else 1)<30))=true:=by
 have h1:(qea pos (qbB es env)).all (λx=>!x.1)=true:=by
  have:=dr (pos:=pos) (env:=env) h
  rw[qaw]
  intro x hx
  rw[List.any_eq_false]at this
  simpa using this x hx
 have h2:(qgl pos (qer [] env)).all (λx=>x.1.isSome)=true:=by simp[qer,qgl]
 rw[h1,h2]
 simpa using hl
theorem pz {e:Expr}{env:Env} (h:aU e=true):qbB [e] env=[(false,eval e env)]:=by rw[bE h];rfl
theorem pi {t:Expr}{ts:List Expr}{env:Env} (h:aU t=true):qbZ (t::ts) env=(false,qfS t env)::qbZ ts env:=by
 cases t<;>first|(cases h;done)|rfl
theorem sr {env:Env}:∀ {ts:List Expr},ts.all aU=true->(qbZ ts env).length=ts.length
 |[],_=>by simp[qbZ]
 |t::ts,h=>by
  rw[qbL,qa8]at h
  rw[pi h.1,qas,sr h.2,qas]
theorem oo {env:Env}:∀ {ts:List Expr},ts.all aU=true->(qbZ ts env).findIdx? (·.1)=none
 |[],_=>by simp[qbZ]
 |t::ts,h=>by
  rw[qbL,qa8]at h
  rw[pi h.1,List.findIdx?_cons,oo h.2]
  rfl
theorem v6 {t:Expr}{ts:List Expr}{env:Env} (h:aU t=true):(qbZ (t::ts) env).map (·.2)=qfS t env::(qbZ ts env).map (·.2):=by rw[pi h];rfl
theorem wM {t:Expr}{env:Env} (h:aU t=true):(qbZ [t] env).map (·.2)=[qfS t env]:=by rw[v6 h];simp[qbZ]
def lT:Expr->Bool
 |.Slice _ _ _ _=>false
 |_=>true
theorem v4 {o i:Expr}{pos:Pos}{env:Env} (h:lT i=true) (v:Value):qfS (.Subscript o i pos) env v=(do
   let ov <-qfU [v] (eval o env)
   let iv <-qfU [v,ov] (eval i env)
   standAt pos
   qfU [v,ov,iv] (qkZ ov iv v)
   release [v,ov,iv] []):=by
 cases i<;>first|(cases h;done)|rfl
theorem sN {i:Expr} (h:lT i=true):wR i:=by
 intro o j
 cases i<;>first|(cases h;done)|rfl
inductive D where
 |non|bl (b:Bool)|int (i:Int)|str (x:Str)|ty (n:String)|dct|scr (ns:List Int)|tup (ds:List D)|lst (ds:List D)
 deriving Inhabited
inductive W where
 |d (x:D)|h (n:Nat)
 deriving Inhabited
inductive C where
 |l (ds:List D)|n (ws:List W)|m (kvs:List (List Int×D))|k (kvs:List (Int×D))
 deriving Inhabited
abbrev Sto:=List C
def lg (st:Sto) (n:Nat):Option (List D):=match st[n]? with
 |some (.l ds)=>some ds
 |_=>none
def ii (l:List Int):List Key:=l.map Sum.inl
abbrev Ev:=List (Option W)
def KLs (K:qai) (a:Addr) (xs:List V):Prop:=
 ∃ (o:Obj) (its:Array Value) (n:Nat),K.lookup a=some o/\o.cls=.type "list"/\o.dict=none/\o.data=.seq its n/\its.size<=qaS/\aQ xs its.toList
section
variable (K:qai) (H:Hp) (φ:List Addr)
mutual
def Rl:D->V->Prop
 |.non,v=>v=.non
 |.bl b,v=>v=.bl b
 |.int i,v=>v=.int i
 |.str x,v=>v=.str x
 |.ty n,v=>v=.ty n
 |.dct,v=>∃ a,v=.ref a/\a∉φ/\((∃ d,H a=some (.dK d))\/∃ d,H a=some (.dT d))
 |.scr ns,v=>∃ a,v=.ref a/\((∃ o,H a=some (.frz o (.lst (ns.map V.int))))\/KLs K a (ns.map V.int))
 |.tup ds,v=>∃ a vs,v=.ref a/\H a=some (.tup vs)/\Rls ds vs
 |.lst ds,v=>∃ a vs,v=.ref a/\a∉φ/\Rd H a (.lst vs)/\Rls ds vs
def Rls:List D->List V->Prop
 |[],vs=>vs=[]
 |d::ds,vs=>∃ v r,vs=v::r/\Rl d v/\Rls ds r
end
def Rw:W->V->Prop
 |.d x,v=>Rl K H φ x v
 |.h n,v=>∃ a,φ[n]?=some a/\v=.ref a
def Rws:List W->List V->Prop
 |[],vs=>vs=[]
 |d::ds,vs=>∃ v r,vs=v::r/\Rw K H φ d v/\Rws ds r
def Rkv:List (List Int×D)->List (List Key×V)->Prop
 |[],vs=>vs=[]
 |(k,d)::ds,vs=>∃ v r,vs=(ii k,v)::r/\Rl K H φ d v/\Rkv ds r
def Rkk:List (Int×D)->List (Key×V)->Prop
 |[],vs=>vs=[]
 |(k,d)::ds,vs=>∃ v r,vs=(Sum.inl k,v)::r/\Rl K H φ d v/\Rkk ds r
def Rc (k:Nat) (a:Addr):C->Prop
 |.l ds=>∃ vs,H a=some (.lst vs)/\Rls K H φ ds vs
 |.n ws=>∃ vs,H a=some (.lst vs)/\Rws K H φ ws vs/\∀ m,W.h m∈ws->m<k
 |.m kvs=>∃ vs,H a=some (.dT vs)/\Rkv K H φ kvs vs
 |.k kvs=>∃ vs,H a=some (.dK vs)/\Rkk K H φ kvs vs
structure Sr (st:Sto):Prop where
 nd:φ.Nodup
 len:φ.length=st.length
 at_:∀ (n:Nat) a c,φ[n]?=some a->st[n]?=some c->Rc K H φ n a c
structure Er (env:Ev) (σ:St):Prop where
 len:env.length=σ.length
 at_:∀ (i:Nat) w,env[i]?=some (some w)->∃ v,σ[i]?=some (some v)/\Rw K H φ w v
end
structure Fw (φ φ':List Addr) (H H':Hp):Prop where
 ext:∃ ψ,φ'=φ++ψ/\∀ a∈ψ,H a=none
 keep:∀ b o,b∉φ->H b=some o->H' b=some o
 there:∀ b o,H b=some o->∃ o',H' b=some o'
section
variable {K:qai}{H H1 H2 H':Hp}{φ φ1 φ2 φ':List Addr}{st st':Sto}
theorem Fw.refl (φ:List Addr) (H:Hp):Fw φ φ H H:=⟨⟨[],by simp,by simp⟩,λ_ _ _ h=>h,λ_ o h=>⟨o,h⟩⟩
theorem Fw.trans (a:Fw φ φ1 H H1) (b:Fw φ1 φ2 H1 H2):Fw φ φ2 H H2:=by
 obtain⟨ψ,rfl,e1⟩:=a.ext
 obtain⟨ψ2,rfl,e2⟩:=b.ext
 refine⟨⟨ψ++ψ2,by rw[qb8],λc hc=>?_⟩,λc o hc h=>?_,λc o h=>?_⟩
 ·rcases qbe.mp hc with z|z
  ·exact e1 c z
  ·cases q:H c with
   |none=>rfl
   |some o=>
    obtain⟨o',q'⟩:=a.there c o q
    rw[e2 c z]at q';cases q'
 ·refine b.keep c o (λz=>?_) (a.keep c o hc h)
  rcases qbe.mp z with z|z
  ·exact hc z
  ·rw[e1 c z]at h;cases h
 ·obtain⟨o',q⟩:=a.there c o h
  exact b.there c o' q
theorem Fw.same (s:bH H H'):Fw φ φ H H':=⟨⟨[],by simp,by simp⟩,λb o _ h=>s b o h,λb o h=>⟨o,s b o h⟩⟩
theorem Fw.new {p:Addr}{o:HO} (hp:H p=none):Fw φ φ H (upd H p o):=.same (bH.new hp o)
theorem Fw.get (f:Fw φ φ' H H') {n:Nat}{a:Addr} (h:φ[n]?=some a):φ'[n]?=some a:=by
 obtain⟨ψ,rfl,_⟩:=f.ext
 rw[qaY (qay.mp h).1];exact h
theorem Fw.nin (f:Fw φ φ' H H') {a:Addr}{o:HO} (h:a∉φ) (q:H a=some o):a∉φ':=by
 obtain⟨ψ,rfl,e⟩:=f.ext
 intro z
 rcases qbe.mp z with z|z
 ·exact h z
 ·rw[e a z]at q;cases q
def Fi:HO->Bool
 |.lst _=>true
 |.dT _=>true
 |.dK _=>true
 |_=>false
theorem Rc.ob {k:Nat}{a:Addr}{c:C} (h:Rc K H φ k a c):∃ o,H a=some o/\Fi o=true:=by
 cases c with
 |l ds=>obtain⟨vs,q,_⟩:=h;exact⟨_,q,rfl⟩
 |n ds=>obtain⟨vs,q,_⟩:=h;exact⟨_,q,rfl⟩
 |m ds=>obtain⟨vs,q,_⟩:=h;exact⟨_,q,rfl⟩
 |k ds=>obtain⟨vs,q,_⟩:=h;exact⟨_,q,rfl⟩
theorem Sr.lst (S:Sr K H φ st) {a:Addr} (h:a∈φ):∃ o,H a=some o/\Fi o=true:=by
 obtain⟨n,hn,e⟩:=qdc.mp h
 have hs:n<st.length:=by rw[<-S.len];exact hn
 exact (S.at_ n a st[n] (by rw[qaD hn,e]) (by rw[qaD hs])).ob
theorem wV {st:Sto}{n:Nat}{ds:List D} (h:lg st n=some ds):st[n]?=some (.l ds):=by
 unfold lg at h
 split at h
 ·rename_i q;cases h;exact q
 ·cases h
theorem Sr.atl (S:Sr K H φ st) (n:Nat) (a:Addr) (ds:List D) (e1:φ[n]?=some a) (e2:lg st n=some ds):∃ vs,H a=some (.lst vs)/\Rls K H φ ds vs:=S.at_ n a _ e1 (wV e2)
theorem Sr.nin (S:Sr K H φ st) {a:Addr} (h:H a=none):a∉φ:=λz=>by
 obtain⟨vs,q,_⟩:=S.lst z
 rw[q]at h;cases h
theorem Rd.nin (S:Sr K H φ st) {a:Addr}{vs:List V} (h:Rd H a (.tup vs)):a∉φ:=λz=>by
 obtain⟨ws,q,qm⟩:=S.lst z
 rcases h with h|⟨o,h⟩<;>(rw[q]at h;cases h;cases qm)
theorem Rd.fw (f:Fw φ φ' H H') {a:Addr}{u:HO} (hn:a∉φ) (h:Rd H a u):Rd H' a u:=by
 rcases h with h|⟨o,h⟩
 ·exact .inl (f.keep _ _ hn h)
 ·exact .inr ⟨o,f.keep _ _ hn h⟩
theorem SqT.fw (S:Sr K H φ st) (f:Fw φ φ' H H') {a:Addr}{vs:List V} (h:SqT K H a vs):SqT K H' a vs:=by
 rcases h with h|h
 ·exact .inl (f.keep _ _ (Rd.nin S (.inl h)) h)
 ·exact .inr h
theorem Rd.some {a:Addr}{u:HO} (h:Rd H a u):∃ o,H a=some o:=by
 rcases h with h|⟨o,h⟩
 ·exact⟨_,h⟩
 ·exact⟨_,h⟩
mutual
theorem Rl.fw (S:Sr K H φ st) (f:Fw φ φ' H H'):∀ {d:D}{v:V},Rl K H φ d v->Rl K H' φ' d v
 |.non,_,h=>h
 |.bl _,_,h=>h
 |.int _,_,h=>h
 |.str _,_,h=>h
 |.ty _,_,h=>h
 |.dct,_,h=>by
  obtain⟨a,rfl,hn,h⟩:=h
  rcases h with⟨d,h⟩|⟨d,h⟩
  ·exact⟨a,rfl,f.nin hn h,.inl ⟨d,f.keep _ _ hn h⟩⟩
  ·exact⟨a,rfl,f.nin hn h,.inr ⟨d,f.keep _ _ hn h⟩⟩
 |.scr ns,_,h=>by
  obtain⟨a,rfl,h⟩:=h
  refine⟨a,rfl,?_⟩
  rcases h with⟨o,h⟩|h
  ·refine .inl ⟨o,f.keep _ _ (λz=>?_) h⟩
   obtain⟨ws,q,qm⟩:=S.lst z
   rw[q]at h;cases h;cases qm
  ·exact .inr h
 |.tup ds,_,h=>by
  obtain⟨a,vs,rfl,h1,h2⟩:=h
  exact⟨a,vs,rfl,f.keep _ _ (Rd.nin S (.inl h1)) h1,Rls.fw S f h2⟩
 |.lst ds,_,h=>by
  obtain⟨a,vs,rfl,h0,h1,h2⟩:=h
  obtain⟨o,e⟩:=h1.some
  exact⟨a,vs,rfl,f.nin h0 e,h1.fw f h0,Rls.fw S f h2⟩
theorem Rls.fw (S:Sr K H φ st) (f:Fw φ φ' H H'):∀ {ds:List D}{vs:List V},Rls K H φ ds vs->Rls K H' φ' ds vs
 |[],_,h=>h
 |d::ds,_,h=>by
  obtain⟨v,r,rfl,h1,h2⟩:=h
  exact⟨v,r,rfl,Rl.fw S f h1,Rls.fw S f h2⟩
end
theorem Rw.fw (S:Sr K H φ st) (f:Fw φ φ' H H') {w:W}{v:V} (h:Rw K H φ w v):Rw K H' φ' w v:=by
 cases w with
 |d x=>exact Rl.fw S f h
 |h n=>obtain⟨a,e,rfl⟩:=h;exact⟨a,f.get e,rfl⟩
theorem Rws.fw (S:Sr K H φ st) (f:Fw φ φ' H H'):∀ {ws:List W}{vs:List V},Rws K H φ ws vs->Rws K H' φ' ws vs
 |[],_,h=>h
 |d::ds,_,h=>by
  obtain⟨v,r,rfl,h1,h2⟩:=h
  exact⟨v,r,rfl,h1.fw S f,Rws.fw S f h2⟩
theorem Er.fw (S:Sr K H φ st) (f:Fw φ φ' H H') {env:Ev}{σ:St} (h:Er K H φ env σ):Er K H' φ' env σ:=
 ⟨h.len,λi w e=>let ⟨v,e1,r⟩:=h.at_ i w e;⟨v,e1,r.fw S f⟩⟩
theorem Rkv.fw (S:Sr K H φ st) (f:Fw φ φ' H H'):∀ {ds:List (List Int×D)}{vs:List (List Key×V)},Rkv K H φ ds vs->Rkv K H' φ' ds vs
 |[],_,h=>h
 |(k,d)::ds,_,h=>by
  obtain⟨v,r,rfl,h1,h2⟩:=h
  exact⟨v,r,rfl,Rl.fw S f h1,Rkv.fw S f h2⟩
theorem Rkk.fw (S:Sr K H φ st) (f:Fw φ φ' H H'):∀ {ds:List (Int×D)}{vs:List (Key×V)},Rkk K H φ ds vs->Rkk K H' φ' ds vs
 |[],_,h=>h
 |(k,d)::ds,_,h=>by
  obtain⟨v,r,rfl,h1,h2⟩:=h
  exact⟨v,r,rfl,Rl.fw S f h1,Rkk.fw S f h2⟩
theorem Rc.fw (S:Sr K H φ st) (f:Fw φ φ' H H') {k:Nat}{a:Addr}{c:C} (e:∀ o,H a=some o->H' a=some o) (h:Rc K H φ k a c):Rc K H' φ' k a c:=by
 cases c with
 |l ds=>obtain⟨vs,q,r⟩:=h;exact⟨vs,e _ q,r.fw S f⟩
 |n ds=>obtain⟨vs,q,r,b⟩:=h;exact⟨vs,e _ q,r.fw S f,b⟩
 |m ds=>obtain⟨vs,q,r⟩:=h;exact⟨vs,e _ q,r.fw S f⟩
 |k ds=>obtain⟨vs,q,r⟩:=h;exact⟨vs,e _ q,r.fw S f⟩
theorem Sr.same (S:Sr K H φ st) (s:bH H H'):Sr K H' φ st:=
 ⟨S.nd,S.len,λn a c e1 e2=>(S.at_ n a c e1 e2).fw S (Fw.same s) λo h=>s _ _ h⟩
theorem Sr.new (S:Sr K H φ st) {p:Addr}{o:HO} (hp:H p=none):Sr K (upd H p o) φ st:=S.same (bH.new hp o)
theorem Rls.length:∀ {ds:List D}{vs:List V},Rls K H φ ds vs->ds.length=vs.length
 |[],_,h=>by cases h;rfl
 |d::ds,_,h=>by
  obtain⟨v,r,rfl,h1,h2⟩:=h
  rw[qas,qas,Rls.length h2]
theorem Rws.length:∀ {ds:List W}{vs:List V},Rws K H φ ds vs->ds.length=vs.length
 |[],_,h=>by cases h;rfl
 |d::ds,_,h=>by
  obtain⟨v,r,rfl,h1,h2⟩:=h
  rw[qas,qas,Rws.length h2]
theorem Rls.append:∀ {ds es:List D}{vs us:List V},Rls K H φ ds vs->Rls K H φ es us->Rls K H φ (ds++es) (vs++us)
 |[],_,_,_,h,h'=>by cases h;exact h'
 |d::ds,_,_,_,h,h'=>by
  obtain⟨v,r,rfl,h1,h2⟩:=h
  exact⟨v,r++_,rfl,h1,Rls.append h2 h'⟩
theorem Rls.get:∀ {ds:List D}{vs:List V},Rls K H φ ds vs->∀ {i:Nat}{d:D},ds[i]?=some d->∃ v,vs[i]?=some v/\Rl K H φ d v
 |[],_,h,i,d,e=>by simp at e
 |d::ds,_,h,i,e,q=>by
  obtain⟨v,r,rfl,h1,h2⟩:=h
  cases i with
  |zero=>simp at q;subst q;exact⟨v,rfl,h1⟩
  |succ i=>simpa using Rls.get h2 (i:=i) (d:=e) (by simpa using q)
theorem Rls.take:∀ {ds:List D}{vs:List V} (n:Nat),Rls K H φ ds vs->Rls K H φ (ds.take n) (vs.take n)
 |_,_,0,_=>by rw[qdK,qdK];exact rfl
 |[],_,n+1,h=>by cases h;exact rfl
 |d::ds,_,n+1,h=>by
  obtain⟨v,r,rfl,h1,h2⟩:=h
  exact⟨v,_,rfl,h1,Rls.take n h2⟩
theorem Rls.drop:∀ {ds:List D}{vs:List V} (n:Nat),Rls K H φ ds vs->Rls K H φ (ds.drop n) (vs.drop n)
 |_,_,0,h=>h
 |[],_,n+1,h=>by cases h;exact rfl
 |d::ds,_,n+1,h=>by
  obtain⟨v,r,rfl,h1,h2⟩:=h
  exact Rls.drop n h2
theorem Rls.set:∀ {ds:List D}{vs:List V} (n:Nat) {d:D}{v:V},Rls K H φ ds vs->Rl K H φ d v->Rls K H φ (ds.set n d) (vs.set n v)
 |[],_,_,_,_,h,_=>by cases h;exact rfl
 |e::ds,_,0,d,v,h,hd=>by
  obtain⟨u,r,rfl,h1,h2⟩:=h
  exact⟨v,r,rfl,hd,h2⟩
 |e::ds,_,n+1,d,v,h,hd=>by
  obtain⟨u,r,rfl,h1,h2⟩:=h
  exact⟨u,_,rfl,h1,Rls.set n h2 hd⟩
theorem Rls.rep {ds:List D}{vs:List V} (h:Rls K H φ ds vs):∀ k:Nat,Rls K H φ (qaT k ds).flatten (qaT k vs).flatten
 |0=>rfl
 |k+1=>by rw[qbG,qbG,qcn,qcn];exact h.append (Rls.rep h k)
theorem Rls.ints:∀ {ns:List Int}{vs:List V},Rls K H φ (ns.map D.int) vs->vs=ns.map V.int
 |[],_,h=>h
 |n::ns,_,h=>by
  obtain⟨v,r,rfl,h1,h2⟩:=h
  rw[show v=.int n from h1,Rls.ints h2];rfl
theorem Rls.of_ints:∀ (ns:List Int),Rls K H φ (ns.map D.int) (ns.map V.int)
 |[]=>rfl
 |n::ns=>⟨_,_,rfl,rfl,Rls.of_ints ns⟩
theorem Rl.less {ψ:List Addr}:∀ {d:D}{v:V},Rl K H (φ++ψ) d v->Rl K H φ d v:=by
 intro d v
 refine (?_:∀ v,Rl K H (φ++ψ) d v->Rl K H φ d v) v
 refine D.rec (motive_1:=λd=>∀ v,Rl K H (φ++ψ) d v->Rl K H φ d v) (motive_2:=λds=>∀ vs,Rls K H (φ++ψ) ds vs->Rls K H φ ds vs) ?_ ?_ ?_ ?_ ?_ ?_ ?_ ?_ ?_ ?_ ?_ d
 ·exact λv h=>h
 ·exact λb v h=>h
 ·exact λb v h=>h
 ·exact λb v h=>h
 ·exact λb v h=>h
 ·rintro v ⟨a,e,hn,h⟩;exact⟨a,e,λz=>hn (qcG _ z),h⟩
 ·exact λns v h=>h
 ·rintro ds ih v ⟨a,vs,rfl,h1,h2⟩;exact⟨a,vs,rfl,h1,ih vs h2⟩
 ·rintro ds ih v ⟨a,vs,rfl,h0,h1,h2⟩;exact⟨a,vs,rfl,λz=>h0 (qcG _ z),h1,ih vs h2⟩
 ·exact λvs h=>h
 ·rintro d ds ih1 ih2 vs ⟨v,r,rfl,h1,h2⟩;exact⟨v,r,rfl,ih1 v h1,ih2 r h2⟩
theorem Rls.less {ψ:List Addr}:∀ {ds:List D}{vs:List V},Rls K H (φ++ψ) ds vs->Rls K H φ ds vs
 |[],_,h=>h
 |d::ds,_,h=>by
  obtain⟨v,r,rfl,h1,h2⟩:=h
  exact⟨v,r,rfl,Rl.less h1,Rls.less h2⟩
theorem Rkv.less {ψ:List Addr}:∀ {ds:List (List Int×D)}{vs:List (List Key×V)},Rkv K H (φ++ψ) ds vs->Rkv K H φ ds vs
 |[],_,h=>h
 |(k,d)::ds,_,h=>by
  obtain⟨v,r,rfl,h1,h2⟩:=h
  exact⟨v,r,rfl,Rl.less h1,Rkv.less h2⟩
theorem Rkk.less {ψ:List Addr}:∀ {ds:List (Int×D)}{vs:List (Key×V)},Rkk K H (φ++ψ) ds vs->Rkk K H φ ds vs
 |[],_,h=>h
 |(k,d)::ds,_,h=>by
  obtain⟨v,r,rfl,h1,h2⟩:=h
  exact⟨v,r,rfl,Rl.less h1,Rkk.less h2⟩
theorem Rws.less {ψ:List Addr}:∀ {ds:List W}{vs:List V},(∀ m,W.h m∈ds->m<φ.length)->Rws K H (φ++ψ) ds vs->Rws K H φ ds vs
 |[],_,_,h=>h
 |d::ds,_,hm,h=>by
  obtain⟨v,r,rfl,h1,h2⟩:=h
  refine⟨v,r,rfl,?_,Rws.less (λm z=>hm m (qah _ z)) h2⟩
  cases d with
  |d x=>exact Rl.less h1
  |h m=>
   obtain⟨a,e,rfl⟩:=h1
   rw[qaY (hm m qak)]at e
   exact⟨a,e,rfl⟩
theorem Rc.less {ψ:List Addr}{k:Nat}{a:Addr}{c:C} (hk:k<φ.length) (h:Rc K H (φ++ψ) k a c):Rc K H φ k a c:=by
 cases c with
 |l ds=>obtain⟨vs,q,r⟩:=h;exact⟨vs,q,r.less⟩
 |n ds=>obtain⟨vs,q,r,b⟩:=h;exact⟨vs,q,r.less λm z=>qhM (b m z) hk,b⟩
 |m ds=>obtain⟨vs,q,r⟩:=h;exact⟨vs,q,r.less⟩
 |k ds=>obtain⟨vs,q,r⟩:=h;exact⟨vs,q,r.less⟩
theorem Sr.less {ψ:List Addr} (S:Sr K H (φ++ψ) st):Sr K H φ (st.take φ.length):=by
 have hl:=S.len
 rw[qa2]at hl
 refine⟨(qdE.mp S.nd).1,by rw[qdk];lia,λn a ds e1 e2=>?_⟩
 have hn:=(qay.mp e1).1
 rw[qg5 hn]at e2
 exact (S.at_ n a ds (by rw[qaY hn];exact e1) e2).less hn
end
end L2
namespace L2
open PySem PySem.Spec PyProof.Rows
abbrev Ef:=Ev->Sto->Option (W×Sto)
abbrev Af:=Ev->Sto->Option (List W×Sto)
abbrev Tf:=Ev->Sto->Option (Bool×Sto)
abbrev Lf:=Ev->Sto->Option (List D×Sto)
abbrev Fn:=List W->Sto->Option (W×Sto)
section
variable (K:qai)
def tI (env:Ev) (st:Sto) (r:W×Sto):TE:=λσ H Q=>∃ φ,Er K H φ env σ/\Sr K H φ st/\∀ v H' φ',Fw φ φ' H H'->Sr K H' φ' r.2->Rw K H' φ' r.1 v->Q v H'
def tIA (env:Ev) (st:Sto) (r:List W×Sto):TA:=λσ H Q=>∃ φ,Er K H φ env σ/\Sr K H φ st/\∀ vs H' φ',Fw φ φ' H H'->Sr K H' φ' r.2->Rws K H' φ' r.1 vs->Q vs H'
def tIT (env:Ev) (st:Sto) (r:Bool×Sto):TT:=λσ H Q=>∃ φ,Er K H φ env σ/\Sr K H φ st/\∀ H' φ',Fw φ φ' H H'->Sr K H' φ' r.2->Q r.1 H'
def tIL (env:Ev) (st:Sto) (r:List D×Sto):TE:=λσ H Q=>∃ φ,Er K H φ env σ/\Sr K H φ st/\∀ a vs H1 φ',Fw φ φ' H H1->Sr K H1 φ' r.2->H1 a=none->Rls K H1 φ' r.1 vs->Q (.ref a) (upd H1 a (.lst vs))
structure IE (X:Cx) (e:Expr) (f:Ef):Prop where
 run:∀ env st r,f env st=some r->PE X e (tI K env st r)
structure IA (X:Cx) (es:List Expr) (f:Af):Prop where
 run:∀ env st r,f env st=some r->PA X es (tIA K env st r)
structure IT (X:Cx) (e:Expr) (f:Tf):Prop where
 run:∀ env st r,f env st=some r->PT X e (tIT K env st r)
structure ITW (X:Cx) (e:Expr) (f:Tf):Prop where
 run:∀ env st r,f env st=some r->PW X e (tIT K env st r)
structure IL (X:Cx) (e:Expr) (f:Lf):Prop where
 run:∀ env st r,f env st=some r->PE X e (tIL K env st r)
def rD (st:Sto) (x y:W) (d:D):R2:=λvx vy H Q=>∃ φ,Sr K H φ st/\Rw K H φ x vx/\Rw K H φ y vy/\∀ v H',bH H H'->Rl K H' φ d v->Q v H'
structure OpD (X:Cx) (f:Value->Value->Sem Value) (g:Sto->W->W->Option D):Prop where
 run:∀ st x y d,g st x y=some d->OpR X f (rD K st x y d)
def rCD (st:Sto) (ws:List W) (d:D):List V->Hp->VK->Prop:=λvs H Q=>∃ φ,Sr K H φ st/\Rws K H φ ws vs/\∀ v H',bH H H'->Rl K H' φ d v->Q v H'
structure mT (X:Cx) (f:Value) (g:Sto->List W->Option D):Prop where
 run:∀ st ws d,g st ws=some d->cx X f (rCD K st ws d)
def rCL (st:Sto) (ws:List W) (ds:List D):List V->Hp->VK->Prop:=λvs H Q=>∃ φ,Sr K H φ st/\Rws K H φ ws vs/\∀ a us H1,bH H H1->H1 a=none->Rls K H1 φ ds us->Q (.ref a) (upd H1 a (.lst us))
structure CH (X:Cx) (f:Value) (g:Sto->List W->Option (List D)):Prop where
 run:∀ st ws d,g st ws=some d->cx X f (rCL K st ws d)
end
def iV (i:Nat):Ef
 |env,st=>(env.getD i none).map λw=>(w,st)
def iC (d:D):Ef
 |_,st=>some (.d d,st)
def iOp (g:Sto->W->W->Option D) (a b:Ef):Ef
 |env,st=>(a env st).bind λx=>(b env x.2).bind λy=>(g y.2 x.1 y.1).map λd=>(.d d,y.2)
def rP:D->Option Bool
 |.bl b=>some b
 |_=>none
def cm (g:Sto->W->W->Option D) (a b:Ef):Tf
 |env,st=>(a env st).bind λx=>(b env x.2).bind λy=>(g y.2 x.1 y.1).bind λd=>(rP d).map λk=>(k,y.2)
def iUn (g:W->Option D) (a:Ef):Ef
 |env,st=>(a env st).bind λx=>(g x.1).map λd=>(.d d,x.2)
def se (c:Tf) (a b:Ef):Ef
 |env,st=>(c env st).bind λr=>if r.1=true then a env r.2 else b env r.2
def qF (a b:Tf):Tf
 |env,st=>(a env st).bind λr=>if r.1=true then b env r.2 else some (false,r.2)
def ak:Af
 |_,st=>some ([],st)
def ab (a:Ef) (r:Af):Af
 |env,st=>(a env st).bind λx=>(r env x.2).map λy=>(x.1::y.1,y.2)
def iCB (g:Sto->List W->Option D) (a:Af):Ef
 |env,st=>(a env st).bind λr=>(g r.2 r.1).map λd=>(.d d,r.2)
def iCL (g:Sto->List W->Option (List D)) (a:Af):Lf
 |env,st=>(a env st).bind λr=>(g r.2 r.1).map λd=>(d,r.2)
def aD (m:Fn) (a:Af):Ef
 |env,st=>(a env st).bind λr=>m r.1 r.2
def mx:List W->Option (List D)
 |[]=>some []
 |.d x::ws=>(mx ws).map λr=>x::r
 |.h _::_=>none
def cp (a:Af):Ef
 |env,st=>(a env st).bind λr=>(mx r.1).bind λds=>if ds.length<=1000 then some (.d (.tup ds),r.2) else none
def eI (a:Af):Lf
 |env,st=>(a env st).bind λr=>(mx r.1).bind λds=>if ds.length<=1000 then some (ds,r.2) else none
def aC (a:Lf):Ef
 |env,st=>(a env st).map λr=>(.d (.lst r.1),r.2)
def mB (a:Lf):Ef
 |env,st=>(a env st).map λr=>(.h r.2.length,r.2++[.l r.1])
section
variable {K:qai}{X:Cx}{e a b c:Expr}{es:List Expr}{pos:Pos}{f fa fb fc:Ef}
theorem PE.imp {t t':TE} (h:PE X e t) (m:∀ σ H Q,t' σ H Q->t σ H Q):PE X e t':=λpins s σ H Q I q=>h pins s σ H Q I (m σ H Q q)
theorem PT.imp {t t':TT} (h:PT X e t) (m:∀ σ H Q,t' σ H Q->t σ H Q):PT X e t':=λpins s σ H Q I q=>h pins s σ H Q I (m σ H Q q)
theorem PW.imp {t t':TT} (h:PW X e t) (m:∀ σ H Q,t' σ H Q->t σ H Q):PW X e t':=λwh pins s σ H Q I q=>h wh pins s σ H Q I (m σ H Q q)
theorem PA.imp {t t':TA} (h:PA X es t) (m:∀ σ H Q,t' σ H Q->t σ H Q):PA X es t':=λpos pins s σ H Q I q=>h pos pins s σ H Q I (m σ H Q q)
theorem OpR.imp {g:Value->Value->Sem Value}{r r':R2} (h:OpR X g r) (m:∀ x y H Q,r' x y H Q->r x y H Q):OpR X g r':=λpins s σ H x y v u Q I rx ry q=>h pins s σ H x y v u Q I rx ry (m _ _ _ _ q)
theorem cx.imp {g:Value}{r r':List V->Hp->VK->Prop} (h:cx X g r) (m:∀ xs H Q,r' xs H Q->r xs H Q):cx X g r':=λpins s σ H xs us Q I rx q=>h pins s σ H xs us Q I rx (m _ _ _ q)
theorem sR:PE X e (λ_ _ _=>False):=λ_ _ _ _ _ _ q=>q.elim
theorem zO:PW X e (λ_ _ _=>False):=λ_ _ _ _ _ _ _ q=>q.elim
theorem CT {i:Nat}{x:Str}{t:TE} (h:PE X (.Name x pos) (Db i)):IE K X (.Name x pos) (iV i):=by
 refine⟨λenv st r hr=>?_⟩
 unfold iV at hr
 obtain⟨w,hw,rfl⟩:=qaf.mp hr
 refine h.imp ?_
 rintro σ H Q ⟨φ,hE,hS,q⟩
 have hi:env[i]?=some (some w):=by
  rw[qhC]at hw
  cases q:env[i]? with
  |none=>rw[q]at hw;cases hw
  |some o=>rw[q]at hw;rw[show o=some w from hw]
 obtain⟨v,e1,r⟩:=hE.at_ i w hi
 exact⟨v,e1,q v H φ (Fw.refl φ H) hS r⟩
theorem iv (i:Nat) {x:Str} (hN:X.N[i]?=some x:=by rfl) (hv:Vis X.env.scope x:=by first|exact Or.inl rfl|exact Or.inr (Or.inl rfl)|exact Or.inr (Or.inr rfl)) (hd:(x==("__debug__" : Str))=false:=by decide)
  (hcd:(x==("__classdict__" : Str))=false:=by decide):IE K X (.Name x pos) (iV i):=CT (t:=Db i) (Ee hN hv hd hcd)
theorem AX {d:D}{v:V} (h:PE X e (tC v)) (r:∀ H φ,Rl K H φ d v):IE K X e (iC d):=by
 refine⟨λenv st r hr=>?_⟩
 cases hr
 refine h.imp ?_
 rintro σ H Q ⟨φ,hE,hS,q⟩
 exact q v H φ (Fw.refl φ H) hS (r H φ)
theorem ai {i j}:IE K X (.Constant (.int i) j pos) (iC (.int i)):=AX D3 λ_ _=>rfl
theorem AM {i j}:IE K X (.Constant (.bool i) j pos) (iC (.bl i)):=AX ES λ_ _=>rfl
theorem D2 {j}:IE K X (.Constant .none j pos) (iC .non):=AX DW λ_ _=>rfl
theorem iM {x j}:IE K X (.Constant (.str x) j pos) (iC (.str x)):=AX Eo λ_ _=>rfl
theorem uT {env:Ev}{st:Sto}{x y:W×Sto}{d:D}{σ:St}{H:Hp}{Q:VK} (h:tI K env st (.d d,y.2) σ H Q):tOp (rD K y.2 x.1 y.1 d) (tI K env st x) (tI K env x.2 y) σ H Q:=by
 obtain⟨φ,hE,hS,q⟩:=h
 refine⟨φ,hE,hS,λv H1 φ1 f1 s1 w1=>⟨φ1,hE.fw hS f1,s1,λu H2 φ2 f2 s2 w2=>⟨φ2,s2,w1.fw s1 f2,w2,λv3 H3 f3 w3=>?_⟩⟩⟩
 exact q v3 H3 φ2 ((f1.trans f2).trans (Fw.same f3)) (s2.same f3) w3
theorem aM {op:Operator}{g:Sto->W->W->Option D} (ho:OpD K X (qbC op) g) (ha:IE K X a fa) (hb:IE K X b fb):IE K X (.BinOp a op b pos) (iOp g fa fb):=by
 refine⟨λenv st r hr=>?_⟩
 simp only[iOp,qac,qaf]at hr
 obtain⟨x,hx,y,hy,d,hd,rfl⟩:=hr
 exact (EZ (ho.run _ _ _ _ hd) (ha.run _ _ _ hx) (hb.run _ _ _ hy)).imp λσ H Q h=>uT h
theorem yj {d:D}{k:Bool} (h:rP d=some k):d=.bl k:=by
 cases d<;>first|(cases h;done)|(injection h with h;subst h;rfl)
theorem bD {op:CmpOp}{g:Sto->W->W->Option D} (ho:OpD K X (qcF op) g) (ha:IE K X a fa) (hb:IE K X b fb) (hm:qgk op b=false):IT K X (.Compare a [op] [b] pos) (cm g fa fb):=by
 refine⟨λenv st r hr=>?_⟩
 simp only[cm,qac,qaf]at hr
 obtain⟨x,hx,y,hy,d,hd,k,hk,rfl⟩:=hr
 cases yj hk
 refine (B7 (ho.run _ _ _ _ hd) (ha.run _ _ _ hx) (hb.run _ _ _ hy) hm).imp λσ H Q h=>?_
 obtain⟨φ,hE,hS,q⟩:=h
 refine uT ⟨φ,hE,hS,λv H1 φ1 f1 s1 w1=>⟨k,w1,q H1 φ1 f1 s1⟩⟩
def pY:W->Option D
 |.d (.int i)=>some (.int (-i))
 |_=>none
theorem lW (ha:IE K X a fa):IE K X (.UnaryOp .USub a pos) (iUn pY fa):=by
 refine⟨λenv st r hr=>?_⟩
 simp only[iUn,qac,qaf]at hr
 obtain⟨⟨x,s1⟩,hx,d,hd,rfl⟩:=hr
 cases x with
 |h n=>cases hd
 |d x=>
  cases x with
  |int i=>
   cases hd
   refine (FJ ED (ha.run _ _ _ hx)).imp ?_
   rintro σ H Q ⟨φ,hE,hS,q⟩
   exact⟨φ,hE,hS,λv H1 φ1 f1 s1 w1=>⟨i,w1,q _ H1 φ1 f1 s1 rfl⟩⟩
  |_=>cases hd
variable {ta tb:Tf}
theorem D6 (h:ITW K X a ta):IT K X a ta:=⟨λenv st r hr=>(h.run env st r hr).pt⟩
theorem yr (h:IT K X a ta):ITW K X (.BoolOp .And [a] pos) ta:=⟨λenv st r hr=>AV (h.run env st r hr)⟩
theorem B6 {rest:List Expr} (ha:IT K X a ta) (hb:ITW K X (.BoolOp .And (b::rest) pos) tb):ITW K X (.BoolOp .And (a::b::rest) pos) (qF ta tb):=by
 refine⟨λenv st r hr=>?_⟩
 simp only[qF,qac]at hr
 obtain⟨⟨k,s1⟩,hx,hr⟩:=hr
 cases k with
 |false=>
  rw[if_neg qaq]at hr
  cases hr
  refine (Aw (ha.run _ _ _ hx) zO).imp ?_
  rintro σ H Q ⟨φ,hE,hS,q⟩
  refine⟨φ,hE,hS,λH1 φ1 f1 s1=>?_⟩
  refine zx ?_
  exact q H1 φ1 f1 s1
 |true=>
  rw[if_pos rfl]at hr
  refine (Aw (ha.run _ _ _ hx) (hb.run _ _ _ hr)).imp ?_
  rintro σ H Q ⟨φ,hE,hS,q⟩
  refine⟨φ,hE,hS,λH1 φ1 f1 s1=>?_⟩
  refine zd ?_
  exact⟨φ1,hE.fw hS f1,s1,λH2 φ2 f2 s2=>q H2 φ2 (f1.trans f2) s2⟩
theorem Aa {tc:Tf} (hc:IT K X c tc) (ha:IE K X a fa) (hb:IE K X b fb):IE K X (.IfExp c a b pos) (se tc fa fb):=by
 refine⟨λenv st r hr=>?_⟩
 simp only[se,qac]at hr
 obtain⟨⟨k,s1⟩,hx,hr⟩:=hr
 cases k with
 |true=>
  rw[if_pos rfl]at hr
  refine (tR (hc.run _ _ _ hx) (ha.run _ _ _ hr) sR).imp ?_
  rintro σ H Q ⟨φ,hE,hS,q⟩
  refine⟨φ,hE,hS,λH1 φ1 f1 s1=>?_⟩
  refine zd ?_
  exact⟨φ1,hE.fw hS f1,s1,λu H2 φ2 f2 s2 w2=>q u H2 φ2 (f1.trans f2) s2 w2⟩
 |false=>
  rw[if_neg qaq]at hr
  refine (tR (hc.run _ _ _ hx) sR (hb.run _ _ _ hr)).imp ?_
  rintro σ H Q ⟨φ,hE,hS,q⟩
  refine⟨φ,hE,hS,λH1 φ1 f1 s1=>?_⟩
  refine zx ?_
  exact⟨φ1,hE.fw hS f1,s1,λu H2 φ2 f2 s2 w2=>q u H2 φ2 (f1.trans f2) s2 w2⟩
def kC (st:Sto):W->Option (List D)
 |.d (.tup ds)=>some ds
 |.d (.lst ds)=>some ds
 |.d (.scr ns)=>some (ns.map D.int)
 |.h n=>lg st n
 |_=>none
theorem uK {st:Sto}{H:Hp}{φ:List Addr}{w:W}{v:V}{ds:List D} (S:Sr K H φ st) (r:Rw K H φ w v) (e:kC st w=some ds):∃ a vs,v=.ref a/\(SqL K H a vs\/H a=some (.tup vs))/\Rls K H φ ds vs:=by
 cases w with
 |h n=>
  obtain⟨a,ea,rfl⟩:=r
  obtain⟨vs,q,rl⟩:=S.atl n a ds ea e
  exact⟨a,vs,rfl,.inl (SqL.of q),rl⟩
 |d x=>
  cases x with
  |tup es=>cases e;obtain⟨a,vs,rfl,h1,h2⟩:=r;exact⟨a,vs,rfl,.inr h1,h2⟩
  |lst es=>cases e;obtain⟨a,vs,rfl,h0,h1,h2⟩:=r;exact⟨a,vs,rfl,.inl (.inl h1),h2⟩
  |scr ns=>
   cases e
   obtain⟨a,rfl,h⟩:=r
   refine⟨a,_,rfl,.inl ?_,Rls.of_ints ns⟩
   rcases h with⟨o,h⟩|h
   ·exact .inl (.inr ⟨o,h⟩)
   ·exact .inr h
  |_=>cases e
theorem rJ {st:Sto}{H:Hp}{φ:List Addr}{w:W}{v:V}{ds:List D} (S:Sr K H φ st) (r:Rw K H φ w v) (e:kC st w=some ds):∃ a vs,v=.ref a/\(SqL K H a vs\/SqT K H a vs)/\Rls K H φ ds vs:=by
 obtain⟨a,vs,h0,h1,h2⟩:=uK S r e
 exact⟨a,vs,h0,h1.imp id SqT.of,h2⟩
variable {af:Af}
theorem ag:IA K X [] ak:=by
 refine⟨λenv st r hr=>?_⟩
 cases hr
 refine DM.imp ?_
 rintro σ H Q ⟨φ,hE,hS,q⟩
 exact q [] H φ (Fw.refl φ H) hS rfl
theorem aa (ha:IE K X e fa) (hr:IA K X es af) (hs:aU e=true:=by rfl):IA K X (e::es) (ab fa af):=by
 refine⟨λenv st r h=>?_⟩
 simp only[ab,qac,qaf]at h
 obtain⟨x,hx,y,hy,rfl⟩:=h
 refine (BM (ha.run _ _ _ hx) (hr.run _ _ _ hy) (bE hs)).imp ?_
 rintro σ H Q ⟨φ,hE,hS,q⟩
 refine⟨φ,hE,hS,λv H1 φ1 f1 s1 w1=>⟨φ1,hE.fw hS f1,s1,λu H2 φ2 f2 s2 w2=>?_⟩⟩
 exact q _ H2 φ2 (f1.trans f2) s2 ⟨v,u,rfl,w1.fw s1 f2,w2⟩
theorem cN {x:Str}{id:String}{p:Pos}{g:Sto->List W->Option D} (hc:mT K X (.builtin id) g) (hg:Gl X x) (hm:X.mg x=none) (hv:qdB x=some (.builtin id)) (ha:IA K X (e::es) af)
  (hn:x≠"__name__":=by decide) (hdb:(x==("__debug__" : Str))=false:=by decide) (hs:aU e=true:=by rfl) (hp:es.all aU=true:=by rfl) :
  IE K X (.Call (.Name x p) (e::es) [] pos) (iCB g af):=by
 refine⟨λenv st r hr=>?_⟩
 simp only[iCB,qac,qaf]at hr
 obtain⟨y,hy,d,hd,rfl⟩:=hr
 refine (oa (hc.run _ _ _ hd) hg hm hv (ha.run _ _ _ hy) hn hdb (bE hs) (dr hp)).imp ?_
 rintro σ H Q ⟨φ,hE,hS,q⟩
 exact⟨φ,hE,hS,λv H1 φ1 f1 s1 w1=>⟨φ1,s1,w1,λu H2 f2 w2=>q u H2 φ1 (f1.trans (Fw.same f2)) (s1.same f2) w2⟩⟩
theorem jE {x:Str}{T:String}{p:Pos}{g:Sto->List W->Option D} (hc:mT K X (.type T) g) (hg:Gl X x) (hm:X.mg x=none) (hv:qdB x=some (.type T)) (ha:IA K X (e::es) af)
  (hn:x≠"__name__":=by decide) (hdb:(x==("__debug__" : Str))=false:=by decide) (hs:aU e=true:=by rfl) (hp:es.all aU=true:=by rfl) :
  IE K X (.Call (.Name x p) (e::es) [] pos) (iCB g af):=by
 refine⟨λenv st r hr=>?_⟩
 simp only[iCB,qac,qaf]at hr
 obtain⟨y,hy,d,hd,rfl⟩:=hr
 refine (xT (hc.run _ _ _ hd) hg hm hv (ha.run _ _ _ hy) hn hdb (bE hs) (dr hp)).imp ?_
 rintro σ H Q ⟨φ,hE,hS,q⟩
 exact⟨φ,hE,hS,λv H1 φ1 f1 s1 w1=>⟨φ1,s1,w1,λu H2 f2 w2=>q u H2 φ1 (f1.trans (Fw.same f2)) (s1.same f2) w2⟩⟩
theorem CA {x:Str}{id:String}{p:Pos}{g:Sto->List W->Option (List D)} (hc:CH K X (.builtin id) g) (hg:Gl X x) (hm:X.mg x=none) (hv:qdB x=some (.builtin id)) (ha:IA K X (e::es) af)
  (hn:x≠"__name__":=by decide) (hdb:(x==("__debug__" : Str))=false:=by decide) (hs:aU e=true:=by rfl) (hp:es.all aU=true:=by rfl) :
  IL K X (.Call (.Name x p) (e::es) [] pos) (iCL g af):=by
 refine⟨λenv st r hr=>?_⟩
 simp only[iCL,qac,qaf]at hr
 obtain⟨y,hy,d,hd,rfl⟩:=hr
 refine (oa (hc.run _ _ _ hd) hg hm hv (ha.run _ _ _ hy) hn hdb (bE hs) (dr hp)).imp ?_
 rintro σ H Q ⟨φ,hE,hS,q⟩
 exact⟨φ,hE,hS,λv H1 φ1 f1 s1 w1=>⟨φ1,s1,w1,λa us H2 f2 n2 w2=>q a us H2 φ1 (f1.trans (Fw.same f2)) (s1.same f2) n2 w2⟩⟩
theorem oI {H:Hp}{φ:List Addr}:∀ {ws:List W}{vs:List V}{ds:List D},mx ws=some ds->Rws K H φ ws vs->Rls K H φ ds vs
 |[],_,_,e,h=>by cases e;exact h
 |.d x::ws,_,_,e,h=>by
  obtain⟨v,r,rfl,h1,h2⟩:=h
  obtain⟨es,e1,rfl⟩:=qaf.mp e
  exact⟨v,r,rfl,h1,oI e1 h2⟩
 |.h n::ws,_,_,e,h=>by cases e
theorem dj {x1} (h:IA K X es af):IE K X (.Tuple es x1 pos) (cp af):=by
 refine⟨λenv st r hr=>?_⟩
 simp only[cp,qac]at hr
 obtain⟨y,hy,ds,hd,hr⟩:=hr
 split at hr
 ·cases hr
  rename_i hl
  refine (DU (h.run _ _ _ hy)).imp ?_
  rintro σ H Q ⟨φ,hE,hS,q⟩
  refine⟨φ,hE,hS,λvs H1 φ1 f1 s1 w1=>?_⟩
  have w:=oI hd w1
  refine⟨by rw[<-w.length];exact jX hl,λp hp=>?_⟩
  exact q _ _ φ1 (f1.trans (Fw.new hp)) (s1.new hp) ⟨p,vs,rfl,bb,w.fw s1 (Fw.new hp)⟩
 ·cases hr
theorem gz (h:IA K X es af):IL K X (.List es pos) (eI af):=by
 refine⟨λenv st r hr=>?_⟩
 simp only[eI,qac]at hr
 obtain⟨y,hy,ds,hd,hr⟩:=hr
 split at hr
 ·cases hr
  rename_i hl
  refine (AN (h.run _ _ _ hy)).imp ?_
  rintro σ H Q ⟨φ,hE,hS,q⟩
  refine⟨φ,hE,hS,λvs H1 φ1 f1 s1 w1=>?_⟩
  have w:=oI hd w1
  exact⟨by rw[<-w.length];exact jX hl,λp hp=>q p vs H1 φ1 f1 s1 hp w⟩
 ·cases hr
theorem aL {lf:Lf} (h:IL K X e lf):IE K X e (aC lf):=by
 refine⟨λenv st r hr=>?_⟩
 simp only[aC,qaf]at hr
 obtain⟨y,hy,rfl⟩:=hr
 refine (h.run _ _ _ hy).imp ?_
 rintro σ H Q ⟨φ,hE,hS,q⟩
 refine⟨φ,hE,hS,λa vs H1 φ1 f1 s1 n1 w1=>?_⟩
 exact q _ _ φ1 (f1.trans (Fw.new n1)) (s1.new n1) ⟨a,vs,rfl,s1.nin n1,.inl bb,w1.fw s1 (Fw.new n1)⟩
theorem Sr.moreC {H:Hp}{φ:List Addr}{st:Sto}{a:Addr}{o:HO}{c:C} (S:Sr K H φ st) (n:H a=none) (w:Rc K (upd H a o) (φ++[a]) φ.length a c):Sr K (upd H a o) (φ++[a]) (st++[c]):=by
 have f:Fw φ (φ++[a]) H (upd H a o):=⟨⟨[a],rfl,λb hb=>by rw[qaO.mp hb];exact n⟩,λb o _ h=>bH.new n _ b o h,λb o h=>⟨o,bH.new n _ b o h⟩⟩
 refine⟨?_,by rw[qa2,qa2,S.len];rfl,λi b es e1 e2=>?_⟩
 ·rw[qdE]
  refine⟨S.nd,by simp,λx hx y hy e=>?_⟩
  rw[qaO.mp hy]at e
  rw[e]at hx
  exact S.nin n hx
 ·by_cases hi:i<φ.length
  ·rw[qaY hi]at e1
   rw[qaY (by rw[<-S.len];exact hi)]at e2
   exact (S.at_ i b es e1 e2).fw S f λo h=>bH.new n _ _ _ h
  ·have e:i=φ.length:=by
    have:=(qay.mp e1).1
    rw[qa2]at this
    simp at this
    lia
   subst e
   rw[qbd (qan _)]at e1
   rw[S.len,qbd (qan _)]at e2
   simp at e1 e2
   subst e1 e2
   exact w
theorem Fw.moreO {H:Hp}{φ:List Addr}{a:Addr}{o:HO} (n:H a=none):Fw φ (φ++[a]) H (upd H a o):=
 ⟨⟨[a],rfl,λb hb=>by rw[qaO.mp hb];exact n⟩,λb o _ h=>bH.new n _ b o h,λb o h=>⟨o,bH.new n _ b o h⟩⟩
theorem Fw.more {H:Hp}{φ:List Addr}{a:Addr}{vs:List V} (n:H a=none):Fw φ (φ++[a]) H (upd H a (.lst vs)):=Fw.moreO n
theorem Sr.more {H:Hp}{φ:List Addr}{st:Sto}{a:Addr}{vs:List V}{ds:List D} (S:Sr K H φ st) (n:H a=none) (w:Rls K H φ ds vs):Sr K (upd H a (.lst vs)) (φ++[a]) (st++[.l ds]):=
 S.moreC n ⟨vs,bb,w.fw S (Fw.moreO n)⟩
theorem pA {lf:Lf} (h:IL K X e lf):IE K X e (mB lf):=by
 refine⟨λenv st r hr=>?_⟩
 simp only[mB,qaf]at hr
 obtain⟨y,hy,rfl⟩:=hr
 refine (h.run _ _ _ hy).imp ?_
 rintro σ H Q ⟨φ,hE,hS,q⟩
 refine⟨φ,hE,hS,λa vs H1 φ1 f1 s1 n1 w1=>?_⟩
 exact q _ _ (φ1++[a]) (f1.trans (Fw.more n1)) (s1.more n1 w1) ⟨a,by rw[<-s1.len];simp,rfl⟩
def spI (K:qai) (m:Fn):Sp:=λvs H Q _=>∃ φ st ws r,m ws st=some r/\Rws K H φ ws vs/\Sr K H φ st/\∀ v H' φ',Fw φ φ' H H'->Sr K H' φ' r.2->Rw K H' φ' r.1 v->Q v H'
theorem ax {x:Str}{k j:Nat}{ff:Addr}{fd:qbb}{ps:List Str}{m:Fn}{p:Pos} (F:bX X.prog X.w X.K X.mg X.base CX0 j ff fd ps (spI K m)) (hjk:j<=k) (hr:cZ k X.A) (hg:Gl X x) (hm:X.mg x=some (.ref ff)) (hk:qaI X.K (.ref ff)=true) (hb:bz X.K fd ps [])
  (ha:IA K X (e::es) af) (hdb:(x==("__debug__" : Str))=false:=by decide) (hs:aU e=true:=by rfl) (hp:es.all aU=true:=by rfl) :
  IE K X (.Call (.Name x p) (e::es) [] pos) (aD m af):=by
 refine⟨λenv st r h=>?_⟩
 simp only[aD,qac]at h
 obtain⟨y,hy,h⟩:=h
 refine (Br (F.mono hjk) hr hg hm hk hb .nil FV (ha.run _ _ _ hy) hdb (bE hs) (dr hp)).imp ?_
 rintro σ H Q ⟨φ,hE,hS,q⟩
 refine⟨φ,hE,hS,λvs H1 φ1 f1 s1 w1=>?_⟩
 show spI K m (vs++[]) H1 Q E0
 rw[qc4]
 exact⟨φ1,y.2,y.1,r,h,w1,s1,λv H2 φ2 f2 s2 w2=>q v H2 φ2 (f1.trans f2) s2 w2⟩
end
inductive Fl where
 |nx (env:Ev) (st:Sto)|rt (w:W) (st:Sto)|bk (env:Ev) (st:Sto)|ct (env:Ev) (st:Sto)
abbrev Sf:=Ev->Sto->Option Fl
def yI (K:qai) (φ:List Addr) (H:Hp) (D:tT):Fl->Prop
 |.nx e s=>∀ σ' H' φ',Fw φ φ' H H'->Er K H' φ' e σ'->Sr K H' φ' s->D.nx σ' H'
 |.rt w s=>∀ v H' φ',Fw φ φ' H H'->Sr K H' φ' s->Rw K H' φ' w v->D.rt v H'
 |.bk e s=>∀ σ' H' φ',Fw φ φ' H H'->Er K H' φ' e σ'->Sr K H' φ' s->D.bk σ' H'
 |.ct e s=>∀ σ' H' φ',Fw φ φ' H H'->Er K H' φ' e σ'->Sr K H' φ' s->D.ct σ' H'
theorem yI.fw {K:qai}{φ φ1:List Addr}{H H1:Hp}{D:tT}{r:Fl} (h:yI K φ H D r) (f:Fw φ φ1 H H1):yI K φ1 H1 D r:=by
 cases r with
 |nx e s=>exact λσ' H' φ' f'=>h σ' H' φ' (f.trans f')
 |rt w s=>exact λv H' φ' f'=>h v H' φ' (f.trans f')
 |bk e s=>exact λσ' H' φ' f'=>h σ' H' φ' (f.trans f')
 |ct e s=>exact λσ' H' φ' f'=>h σ' H' φ' (f.trans f')
def tS (K:qai) (env:Ev) (st:Sto) (r:Fl):TS:=λD σ H=>∃ φ,Er K H φ env σ/\Sr K H φ st/\yI K φ H D r
structure IS (K:qai) (X:Cx) (s:Stmt) (g:Sf):Prop where
 run:∀ env st r,g env st=some r->PS X s (tS K env st r)
structure ISs (K:qai) (X:Cx) (s:List Stmt) (g:Sf):Prop where
 run:∀ env st r,g env st=some r->PSs X s (tS K env st r)
inductive Tg where
 |nm (i:Nat)|tp (is:List Nat)
def BC:Tg->List Nat
 |.nm i=>[i]
 |.tp is=>is
def qA:List Nat->List D->Ev->Ev
 |i::is,d::ds,env=>qA is ds (env.set i (some (.d d)))
 |_,_,env=>env
def fV:Tg->W->Ev->Option Ev
 |.nm i,w,env=>some (env.set i (some w))
 |.tp is,.d (.tup ds),env=>if is.length=ds.length then some (qA is ds env) else none
 |.tp is,.d (.lst ds),env=>if is.length=ds.length then some (qA is ds env) else none
 |_,_,_=>none
def Cb (is:List Nat) (σ σ':St):Prop:=σ'.length=σ.length/\∀ j,j∉is->σ'[j]?=σ[j]?
def tG (K:qai) (g:Tg):TG:=λv σ H Q=>∃ φ st env w env',Er K H φ env σ/\Sr K H φ st/\Rw K H φ w v/\fV g w env=some env'/\∀ σ',Er K H φ env' σ'->Cb (BC g) σ σ'->Q σ' H
def tGs (K:qai) (is:List Nat):TGs:=λvs σ H Q=>∃ φ st env ds,Er K H φ env σ/\Sr K H φ st/\Rls K H φ ds vs/\is.length=ds.length/\∀ σ',Er K H φ (qA is ds env) σ'->Cb is σ σ'->Q σ' H
def gF:Sf
 |env,st=>some (.nx env st)
def ay (a b:Sf):Sf
 |env,st=>(a env st).bind λr=>match r with
 |.nx e s=>b e s
 |r=>some r
def aW (g:Tg) (f:Ef):Sf
 |env,st=>(f env st).bind λr=>(fV g r.1 env).map λe=>.nx e r.2
def ul (i j:Nat) (a:Af):Sf
 |env,st=>(a env st).bind λr=>match r.1 with
 |[x,y]=>some (.nx ((env.set i (some x)).set j (some y)) r.2)
 |_=>none
def ue (st:Sto) (o i v:W):Option Sto:=match o,i,v with
 |.h n,.d (.int k),.d x=>(lg st n).bind λds=>(ixN ds.length k).map λj=>st.set n (.l (ds.set j x))
 |_,_,_=>none
def oJ (o i v:Ef):Sf
 |env,st=>(v env st).bind λrv=>(o env rv.2).bind λro=>(i env ro.2).bind λri=>(ue ri.2 ro.1 ri.1 rv.1).map λs=>.nx env s
def bM (f:Ef):Sf
 |env,st=>(f env st).map λr=>.rt r.1 r.2
def i5 (f:Ef):Sf
 |env,st=>(f env st).map λr=>.nx env r.2
def ix (c:Tf) (a b:Sf):Sf
 |env,st=>(c env st).bind λr=>if r.1=true then a env r.2 else b env r.2
def mh (g:Tg) (body:Sf):List D->Ev->Sto->Option Fl
 |[],env,st=>some (.nx env st)
 |d::ds,env,st=>(fV g (.d d) env).bind λe=>(body e st).bind λr=>match r with
  |.nx e s=>mh g body ds e s
  |.ct e s=>mh g body ds e s
  |.bk e s=>some (.nx e s)
  |.rt w s=>some (.rt w s)
def gE (fi:Lf) (g:Tg) (body:Sf):Sf
 |env,st=>(fi env st).bind λr=>mh g body r.1 env r.2
def dl (c:Tf) (body:Sf):Nat->Ev->Sto->Option Fl
 |0,_,_=>none
 |n+1,env,st=>(c env st).bind λk=>if k.1=true then (body env k.2).bind λr=>match r with
   |.nx e s=>dl c body n e s
   |.ct e s=>dl c body n e s
   |.bk e s=>some (.nx e s)
   |.rt w s=>some (.rt w s)
  else some (.nx env k.2)
def lcI (g:Tg) (tt:Tf) (te:Ef) (env:Ev):List D->Sto->Option (List D×Sto)
 |[],st=>some ([],st)
 |d::ds,st=>(fV g (.d d) env).bind λe=>(tt e st).bind λb=>if b.1=true then (te e b.2).bind λx=>(mx [x.1]).bind λys=>(lcI g tt te env ds x.2).map λr=>(ys++r.1,r.2)
   else lcI g tt te env ds b.2
def lz (k:Nat) (js:List Nat) (env:Ev):Ev:=qaT k none++js.map λj=>env.getD j none
def iLc (k:Nat) (js:List Nat) (fi:Lf) (g:Tg) (tt:Tf) (te:Ef):Lf
 |env,st=>(fi env st).bind λr=>if r.1.length<=1000000 then lcI g tt te (lz k js env) r.1 r.2 else none
def bB:Tf
 |_,st=>some (true,st)
def aB (f:Ef):Lf
 |env,st=>(f env st).bind λr=>match r.1 with
 |.d (.tup ds)=>some (ds,r.2)
 |.d (.lst ds)=>some (ds,r.2)
 |_=>none
def eZ (lo:Int) (n:Nat):List D:=(qam n).map λk:Nat=>D.int (lo+k)
def ci (a:Af):Lf
 |env,st=>(a env st).bind λr=>match r.1 with
 |[.d (.int j)]=>if -(2^62)<=j/\j<2^62 then some (eZ 0 j.toNat,r.2) else none
 |_=>none
def dJ:Nat->List D->List D
 |_,[]=>[]
 |k,d::ds=>.tup [.int k,d]::dJ (k+1) ds
def pM (a:Af):Lf
 |env,st=>(a env st).bind λr=>match r.1 with
 |[.d (.tup ds)]=>some (dJ 0 ds,r.2)
 |[.d (.lst ds)]=>some (dJ 0 ds,r.2)
 |_=>none
section
variable {K:qai}{X:Cx}{pos:Pos}
theorem PS.imp {s:Stmt}{t t':TS} (h:PS X s t) (m:∀ D σ H,t' D σ H->t D σ H):PS X s t':=λpins s σ H D I q=>h pins s σ H D I (m D σ H q)
theorem PSs.imp {s:List Stmt}{t t':TS} (h:PSs X s t) (m:∀ D σ H,t' D σ H->t D σ H):PSs X s t':=λpins s σ H D I q=>h pins s σ H D I (m D σ H q)
theorem Er.set {H:Hp}{φ:List Addr}{env:Ev}{σ:St} (h:Er K H φ env σ) (i:Nat) {w:W}{v:V} (r:Rw K H φ w v):Er K H φ (env.set i (some w)) (σ.set i (some v)):=by
 refine⟨by rw[qcI,qcI,h.len],λj w' e=>?_⟩
 by_cases hj:i=j
 ·subst hj
  have hi:i<env.length:=by
   have:=(qay.mp e).1
   rwa [qcI]at this
  rw[qcW hi]at e
  cases e
  exact⟨v,by rw[qcW (by rw[<-h.len];exact hi)],r⟩
 ·rw[qch hj]at e
  obtain⟨v',e1,r1⟩:=h.at_ j w' e
  exact⟨v',by rw[qch hj];exact e1,r1⟩
theorem yx (i:Nat) (σ:St) (v:Option V):Cb [i] σ (σ.set i v):=⟨by rw[qcI],λj hj=>by rw[qch (by rintro rfl;simp at hj)]⟩
theorem aT {i:Nat}{x:Str} (h:PG X (.Name x pos) (sQ i)):PG X (.Name x pos) (tG K (.nm i)):=by
 intro pins s σ H v u Q I rv q
 obtain⟨φ,st,env,w,env',hE,hS,r,e,q⟩:=q
 cases e
 exact h pins s σ H v u Q I rv (q _ (hE.set i r) (yx i σ _))
theorem dB:PGs X [] (tGs K []):=by
 intro pins s σ H vs us Q I rv q
 obtain⟨φ,st,env,ds,hE,hS,r,e,q⟩:=q
 cases ds with
 |nil=>cases r;exact BN pins s σ H [] us Q I rv ⟨rfl,q σ hE ⟨rfl,λ_ _=>rfl⟩⟩
 |cons _ _=>cases e
theorem ba {i:Nat}{is:List Nat}{x:Str}{es:List Expr} (h1:PG X (.Name x pos) (sQ i)) (h2:PGs X es (tGs K is)):PGs X (.Name x pos::es) (tGs K (i::is)):=by
 intro pins s σ H vs us Q I rv q
 obtain⟨φ,st,env,ds,hE,hS,r,e,q⟩:=q
 cases ds with
 |nil=>cases e
 |cons d ds=>
  obtain⟨v,vr,rfl,r1,r2⟩:=r
  refine yG h1 h2 (v6 rfl) pins s σ H _ us Q I rv ⟨v,vr,rfl,φ,st,_,ds,hE.set i (w:=.d d) r1,hS,r2,by simpa using e,λσ' e' s'=>q σ' e' ?_⟩
  refine⟨by rw[s'.1,qcI],λj hj=>?_⟩
  rw[s'.2 j (λz=>hj (qah _ z)),qch (by rintro rfl;exact hj qak)]
def Gn (K:qai) (n:Nat) (t:TGs):TG:=λv σ H Q=>∃ a xs,v=.ref a/\SqL K H a xs/\xs.length=n/\t xs σ H Q
theorem DV {es:List Expr}{k:Nat}{t:TGs}{n:Nat} (hc:X.calm=true) (h:PGs X es t) (hn:(qbZ es X.env).length=n) (hst:(qbZ es X.env).findIdx? (·.1)=none):PG X (.Tuple es k pos) (Gn X.K n t):=by
 intro pins s σ H v u Q I r hw
 obtain⟨a,xs,e1,hq,hl,hw⟩:=hw
 subst e1
 cases r
 obtain⟨its,rv,p,hz⟩:=I.list hq
 rw[assign_Tuple]
 refine qaa (qed ?_)
 unfold unpack
 rw[show (qbZ es X.env).length=its.toArray.size by simp[hn,<-hl,rv.length],hst]
 refine qaa (qbj (PySem.W.kun_itemsOf (I.ok.hd hc) p.isList λh' hx=>?_))
 have I1:Inv X pins σ H { s with heap:=h' }:=I.kept (t':=s.toks) λb o e=>hx b o (qat (qao e)) e
 exact h pins _ σ H xs _ Q I1 (by simpa using rv) hw
theorem fm {es:List Expr}{k n:Nat}{is:List Nat} (h:PGs X es (tGs K is)) (hes:es.all aU=true:=by rfl) (hn:es.length=n:=by rfl) (hi:is.length=n:=by rfl) (hc:X.calm=true:=by rfl) (hK:X.K=K:=by rfl):PG X (.Tuple es k pos) (tG K (.tp is)):=by
 subst hK
 intro pins s σ H v u Q I rv q
 obtain⟨φ,st,env,w,env',hE,hS,r,e,q⟩:=q
 cases w with
 |h n=>cases e
 |d x=>
  cases x with
  |tup ds=>
   have e':(if is.length=ds.length then some (qA is ds env) else none)=some env':=e
   by_cases hl:is.length=ds.length
   ·rw[if_pos hl]at e'
    cases e'
    obtain⟨a,vs,rfl,hq,hr⟩:=r
    exact Df hc h ((sr hes).trans hn) (oo hes) pins s σ H _ u Q I rv ⟨a,vs,rfl,(SqT.of hq),by rw[<-hr.length,<-hl,hi],φ,st,env,ds,hE,hS,hr,hl,q⟩
   ·rw[if_neg hl]at e'
    cases e'
  |lst ds=>
   have e':(if is.length=ds.length then some (qA is ds env) else none)=some env':=e
   by_cases hl:is.length=ds.length
   ·rw[if_pos hl]at e'
    cases e'
    obtain⟨a,vs,rfl,_,hq,hr⟩:=r
    exact DV hc h ((sr hes).trans hn) (oo hes) pins s σ H _ u Q I rv ⟨a,vs,rfl,.inl hq,by rw[<-hr.length,<-hl,hi],φ,st,env,ds,hE,hS,hr,hl,q⟩
   ·rw[if_neg hl]at e'
    cases e'
  |_=>cases e
variable {s:Stmt}{ss rest:List Stmt}{e a b c:Expr}{ga gb:Sf}{f fa fb fc:Ef}
theorem dU:ISs K X [] gF:=by
 refine⟨λenv st r hr=>?_⟩
 cases hr
 exact BE.imp λD σ H ⟨φ,hE,hS,q⟩=>q σ H φ (Fw.refl φ H) hE hS
theorem ap (h:IS K X s ga):ISs K X [s] ga:=⟨λenv st r hr=>Cd (h.run env st r hr)⟩
theorem al (h1:IS K X s ga) (h2:ISs K X rest gb):ISs K X (s::rest) (ay ga gb):=by
 refine⟨λenv st r hr=>?_⟩
 simp only[ay,qac]at hr
 obtain⟨r1,e1,hr⟩:=hr
 cases r1 with
 |nx e s1=>
  refine (kN (h1.run _ _ _ e1) (h2.run _ _ _ hr)).imp ?_
  rintro D σ H ⟨φ,hE,hS,q⟩
  exact⟨φ,hE,hS,λσ' H' φ' f' e' s'=>⟨φ',e',s',q.fw f'⟩⟩
 |rt w s1=>
  cases hr
  exact (kN (h1.run _ _ _ e1) iu).imp λD σ H ⟨φ,hE,hS,q⟩=>⟨φ,hE,hS,q⟩
 |bk w s1=>
  cases hr
  exact (kN (h1.run _ _ _ e1) iu).imp λD σ H ⟨φ,hE,hS,q⟩=>⟨φ,hE,hS,q⟩
 |ct w s1=>
  cases hr
  exact (kN (h1.run _ _ _ e1) iu).imp λD σ H ⟨φ,hE,hS,q⟩=>⟨φ,hE,hS,q⟩
theorem aN {i:Nat}{x:Str}{pos':Pos} (hN:X.N.Nodup) (hi:X.N[i]?=some x) (hx:Loc X.env.scope x) (he:IE K X e f) (hs:qeO e (some (.Name x pos')) pos.line X.env=pure false:=by rfl) (hf:X.fn x=true\/X.env.scope.names.lookup x=some .local:=by first|exact .inl rfl|exact .inr rfl|assumption) :
  IS K X (.Assign [.Name x pos'] e pos) (aW (.nm i) f):=by
 refine⟨λenv st r hr=>?_⟩
 simp only[aW,fV,qac,qaf]at hr
 obtain⟨y,hy,e',ee,rfl⟩:=hr
 cases ee
 refine (Ec hN hi hx (he.run _ _ _ hy) hs hf).imp ?_
 rintro D σ H ⟨φ,hE,hS,q⟩
 exact⟨φ,hE,hS,λv H1 φ1 f1 s1 w1=>q _ H1 φ1 f1 ((hE.fw hS f1).set i w1) s1⟩
theorem Sr.putC {H:Hp}{φ:List Addr}{st:Sto}{n:Nat}{a:Addr}{o:HO}{c:C} (S:Sr K H φ st) (hn:φ[n]?=some a) (w:Fw φ φ H (upd H a o)->Rc K (upd H a o) φ n a c) :
  Fw φ φ H (upd H a o)/\Sr K (upd H a o) φ (st.set n c):=by
 have ha:a∈φ:=qbu hn
 have f:Fw φ φ H (upd H a o):=⟨⟨[],by simp,by simp⟩,λb o hb h=>by rw[aO (λz=>hb (by rw[z];exact ha))];exact h,λb o h=>by
  by_cases z:b=a
  ·subst z;exact⟨_,bb⟩
  ·exact⟨o,by rw[aO z];exact h⟩⟩
 refine⟨f,S.nd,by rw[qcI];exact S.len,λm b es e1 e2=>?_⟩
 by_cases hm:n=m
 ·subst hm
  rw[e1]at hn;cases hn
  have hl:n<st.length:=by rw[<-S.len];exact (qay.mp e1).1
  rw[qcW hl]at e2
  cases e2
  exact w f
 ·rw[qch hm]at e2
  have q:=S.at_ m b es e1 e2
  have hne:b≠a:=by
   rintro rfl
   obtain⟨h1,h1'⟩:=qay.mp hn
   obtain⟨h2,h2'⟩:=qay.mp e1
   exact hm ((qga S.nd).mp (h1'.trans h2'.symm))
  exact q.fw S f λo h=>by rw[aO hne];exact h
theorem Sr.put {H:Hp}{φ:List Addr}{st:Sto}{n:Nat}{a:Addr}{vs:List V}{ds:List D} (S:Sr K H φ st) (hn:φ[n]?=some a) (w:Rls K H φ ds vs) :
  Fw φ φ H (upd H a (.lst vs))/\Sr K (upd H a (.lst vs)) φ (st.set n (.l ds)):=S.putC hn λf=>⟨vs,bb,w.fw S f⟩
theorem vR {st s':Sto}{o i v:W} (h:ue st o i v=some s'):∃ n k x ds j,o=.h n/\i=.d (.int k)/\v=.d x/\lg st n=some ds/\ixN ds.length k=some j/\s'=st.set n (.l (ds.set j x)):=by
 unfold ue at h
 split at h
 ·obtain⟨ds,e1,h⟩:=qac.mp h
  obtain⟨j,e2,h⟩:=qaf.mp h
  exact⟨_,_,_,ds,j,rfl,rfl,rfl,e1,e2,h.symm⟩
 ·cases h
theorem zN {tpos:Pos} (ho:IE K X a fa) (hi:IE K X b fb) (hv:IE K X e f) (hb:lT b=true:=by rfl) (hs:qgg [.Subscript a b tpos] e pos.line X.env=pure false:=by rfl) (hw:qgh [.Subscript a b tpos] e X.env=pure none:=by rfl) :
  IS K X (.Assign [.Subscript a b tpos] e pos) (oJ fa fb f):=by
 refine⟨λenv st r hr=>?_⟩
 simp only[oJ,qac,qaf]at hr
 obtain⟨rv,ev,ro,eo,ri,ei,s',es,rfl⟩:=hr
 refine (zJ (hv.run _ _ _ ev) (yq (ho.run _ _ _ eo) (hi.run _ _ _ ei) uc (v4 hb)) hs hw (wM rfl)).imp ?_
 rintro D σ H ⟨φ,hE,hS,q⟩
 refine⟨φ,hE,hS,λv H1 φ1 f1 s1 w1=>⟨φ1,hE.fw hS f1,s1,λo H2 φ2 f2 s2 w2=>⟨φ2,(hE.fw hS f1).fw s1 f2,s2,λi H3 φ3 f3 s3 w3=>?_⟩⟩⟩
 have e3:=((hE.fw hS f1).fw s1 f2).fw s2 f3
 have w1':=(w1.fw s1 f2).fw s2 f3
 have w2':=w2.fw s2 f3
 obtain⟨ro1,ro2⟩:=ro
 obtain⟨rv1,rv2⟩:=rv
 obtain⟨ri1,ri2⟩:=ri
 obtain⟨n,k,x,ds,j,rfl,rfl,rfl,eds,ej,rfl⟩:=vR es
 obtain⟨p,ep,rfl⟩:=w2'
 obtain⟨vs,hp,rl⟩:=s3.atl n p ds ep eds
 have w3':i=.int k:=w3
 subst w3'
 obtain⟨f4,s4⟩:=s3.put ep (Rls.set j rl w1')
 refine⟨p,vs,k,j,rfl,rfl,hp,by rw[<-rl.length];exact ej,?_⟩
 exact q _ _ φ3 (((f1.trans f2).trans f3).trans f4) (e3.fw s3 f4) s4
theorem aR (h:IE K X e f):IS K X (.Return (some e) pos) (bM f):=by
 refine⟨λenv st r hr=>?_⟩
 simp only[bM,qaf]at hr
 obtain⟨y,hy,rfl⟩:=hr
 exact (Dq (h.run _ _ _ hy)).imp λD σ H ⟨φ,hE,hS,q⟩=>⟨φ,hE,hS,q⟩
theorem lG (h:IE K X e f) (hs:qeO e none pos.line X.env=pure false:=by rfl):IS K X (.Expr e pos) (i5 f):=by
 refine⟨λenv st r hr=>?_⟩
 simp only[i5,qaf]at hr
 obtain⟨y,hy,rfl⟩:=hr
 exact (Bk (h.run _ _ _ hy) hs).imp λD σ H ⟨φ,hE,hS,q⟩=>⟨φ,hE,hS,λv H1 φ1 f1 s1 w1=>q σ H1 φ1 f1 (hE.fw hS f1) s1⟩
theorem jr {tc:Tf}{sa sb:List Stmt} (hc:IT K X c tc) (ha:ISs K X sa ga) (hb:ISs K X sb gb):IS K X (.If c sa sb pos) (ix tc ga gb):=by
 refine⟨λenv st r hr=>?_⟩
 simp only[ix,qac]at hr
 obtain⟨⟨k,s1⟩,hx,hr⟩:=hr
 cases k with
 |true=>
  rw[if_pos rfl]at hr
  refine (CS (hc.run _ _ _ hx) (ha.run _ _ _ hr) iu).imp ?_
  rintro D σ H ⟨φ,hE,hS,q⟩
  refine⟨φ,hE,hS,λH1 φ1 f1 s1=>zd ?_⟩
  exact⟨φ1,hE.fw hS f1,s1,q.fw f1⟩
 |false=>
  rw[if_neg qaq]at hr
  refine (CS (hc.run _ _ _ hx) iu (hb.run _ _ _ hr)).imp ?_
  rintro D σ H ⟨φ,hE,hS,q⟩
  refine⟨φ,hE,hS,λH1 φ1 f1 s1=>zx ?_⟩
  exact⟨φ1,hE.fw hS f1,s1,q.fw f1⟩
def FO (K:qai) (g:Sf):TS:=λD σ H=>∃ env st r,g env st=some r/\tS K env st r D σ H
def CG (K:qai) (f:Ef):TE:=λσ H Q=>∃ env st r,f env st=some r/\tI K env st r σ H Q
def Am (K:qai) (f:Tf):TT:=λσ H Q=>∃ env st r,f env st=some r/\tIT K env st r σ H Q
theorem ISs.any (h:ISs K X ss ga):PSs X ss (FO K ga):=λpins s σ H D I ⟨env,st,r,e,q⟩=>h.run env st r e pins s σ H D I q
theorem IE.any (h:IE K X e f):PE X e (CG K f):=λpins s σ H D I ⟨env,st,r,e,q⟩=>h.run env st r e pins s σ H D I q
theorem IT.any {tf:Tf} (h:IT K X e tf):PT X e (Am K tf):=λpins s σ H D I ⟨env,st,r,e,q⟩=>h.run env st r e pins s σ H D I q
def Yl (K:qai) (φ0:List Addr) (H0:Hp) (J:It) (ds:List D):Prop:=∀ (H:Hp) (φ:List Addr) (st:Sto) (i:Nat),Fw φ0 φ H0 H->Sr K H φ st->
 (∀ d,ds[i]?=some d->J.go i H/\∀ x H',J.yld i H x H'->bH H H'/\Rl K H' φ d x)/\(ds.length=i->J.stop i H)
def tII (K:qai) (env:Ev) (st:Sto) (r:List D×Sto):TI:=λσ H R=>∃ φ,Er K H φ env σ/\Sr K H φ st/\∀ J H' φ',Fw φ φ' H H'->Sr K H' φ' r.2->Yl K φ' H' J r.1->R J H'
structure II (K:qai) (X:Cx) (tg iter:Expr) (f:Lf):Prop where
 run:∀ env st r,f env st=some r->PI X tg iter (tII K env st r)
theorem PI.imp {tg iter:Expr}{t t':TI} (h:PI X tg iter t) (m:∀ σ H R,t' σ H R->t σ H R):PI X tg iter t':=λpins s σ H R I q=>h pins s σ H R I (m σ H R q)
variable {tg:Expr}
end
section
variable {K:qai}{X:Cx}{pos:Pos}{tg e a b:Expr}{f:Ef}{af:Af}
theorem bu (h:IE K X e f) (hK:X.K=K:=by rfl):II K X tg e (aB f):=by
 subst hK
 refine⟨λenv st r hr=>?_⟩
 simp only[aB,qac]at hr
 obtain⟨⟨w,s1⟩,hy,hr⟩:=hr
 dsimp only at hr
 split at hr
 next ds=>
  cases hr
  refine (Ds (h.run _ _ _ hy)).imp ?_
  rintro σ H R ⟨φ,hE,hS,q⟩
  refine⟨φ,hE,hS,λv H1 φ1 f1 s1 w1=>?_⟩
  obtain⟨a,vs,rfl,hq,hr⟩:=w1
  refine⟨a,rfl,⟨vs,(SqT.of hq)⟩,q _ H1 φ1 f1 s1 λH2 φ2 st2 i f2 s2=>?_⟩
  have hq2:=(SqT.of hq).fw s1 f2
  have hr2:=hr.fw s1 f2
  refine⟨λd hd=>?_,λhi=>⟨vs,hq2,by rw[<-hr2.length];exact qdR hi⟩⟩
  obtain⟨v,ev,rv⟩:=hr2.get hd
  refine⟨⟨vs,v,hq2,ev⟩,λx H' y=>?_⟩
  obtain⟨rfl,y⟩:=y
  have:=y vs hq2
  rw[ev]at this
  cases this
  exact⟨bH.refl _,rv⟩
 next ds=>
  cases hr
  refine (wE (h.run _ _ _ hy)).imp ?_
  rintro σ H R ⟨φ,hE,hS,q⟩
  refine⟨φ,hE,hS,λv H1 φ1 f1 s1 w1=>?_⟩
  obtain⟨a,vs,rfl,h0,hq,hr⟩:=w1
  refine⟨a,rfl,⟨vs,.inl hq⟩,q _ H1 φ1 f1 s1 λH2 φ2 st2 i f2 s2=>?_⟩
  have hq2:SqL X.K H2 a vs:=.inl (hq.fw f2 h0)
  have hr2:=hr.fw s1 f2
  refine⟨λd hd=>?_,λhi=>⟨vs,hq2,by rw[<-hr2.length];exact qdR hi⟩⟩
  obtain⟨v,ev,rv⟩:=hr2.get hd
  refine⟨⟨vs,v,hq2,ev⟩,λx H' y=>?_⟩
  obtain⟨rfl,y⟩:=y
  have:=y vs hq2
  rw[ev]at this
  cases this
  exact⟨bH.refl _,rv⟩
 next=>cases hr
theorem sY (lo:Int) (n i:Nat):(eZ lo n)[i]?=if i<n then some (.int (lo+i)) else none:=by
 unfold eZ
 rw[qaZ]
 by_cases h:i<n
 ·rw[List.getElem?_range h,if_pos h];rfl
 ·rw[qdO (by simpa using h),if_neg h];rfl
theorem cu (lo:Int) (n:Nat):(eZ lo n).length=n:=by unfold eZ;rw[qae,qc9]
theorem Di (lo:Int) (n:Nat) {φ:List Addr}{H:Hp}:Yl K φ H (Itr lo n) (eZ lo n):=by
 intro H2 φ2 st2 i f2 s2
 refine⟨λd hd=>?_,λhi=>by rw[cu]at hi;exact qdR hi⟩
 rw[sY]at hd
 by_cases h:i<n
 ·rw[if_pos h]at hd
  cases hd
  refine⟨h,λx H' y=>?_⟩
  obtain⟨rfl,rfl⟩:=y
  exact⟨bH.refl _,rfl⟩
 ·rw[if_neg h]at hd;cases hd
theorem dA {p:Pos} (hg:Gl X "range") (hm:X.mg "range" = none) (ha:IA K X [a] af) (hs:aU a=true:=by rfl):II K X tg (.Call (.Name "range" p) [a] [] pos) (ci af):=by
 refine⟨λenv st r hr=>?_⟩
 simp only[ci,qac]at hr
 obtain⟨⟨ws,s1⟩,hy,hr⟩:=hr
 dsimp only at hr
 split at hr
 next j=>
  have hr':(if -(2^62)<=j/\j<2^62 then some (eZ 0 j.toNat,s1) else none)=some r:=hr
  by_cases hj:-(2^62)<=j/\j<2^62
  ·rw[if_pos hj]at hr'
   cases hr'
   refine (xl hg hm (ha.run _ _ _ hy) (pz hs)).imp ?_
   rintro σ H R ⟨φ,hE,hS,q⟩
   refine⟨φ,hE,hS,λvs H1 φ1 f1 s1 w1=>?_⟩
   obtain⟨v,r,rfl,r1,rfl⟩:=w1
   exact⟨j,by rw[show v=.int j from r1],hj.1,hj.2,q _ H1 φ1 f1 s1 (Di 0 _)⟩
  ·rw[if_neg hj]at hr';cases hr'
 next=>cases hr
theorem lY:∀ (ds:List D) (k i:Nat),(dJ k ds)[i]?=(ds[i]?).map λd=>D.tup [.int ((k+i:Nat):Int),d]
 |[],k,i=>by simp[dJ]
 |d::ds,k,0=>by simp[dJ]
 |d::ds,k,i+1=>by
  have:=lY ds (k+1) i
  rw[show k+1+i=k+(i+1) by lia]at this
  simpa [dJ] using this
theorem j5:∀ (ds:List D) (k:Nat),(dJ k ds).length=ds.length
 |[],_=>rfl
 |d::ds,k=>by rw[dJ,qas,qas,j5 ds]
theorem wS {S:Hp->List V->Prop}{ds:List D}{vs:List V}{φ:List Addr}{H:Hp} (hS:∀ H' φ',Fw φ φ' H H'->S H' vs) (hr:∀ H' φ',Fw φ φ' H H'->Rls K H' φ' ds vs):Yl K φ H (Ite S) (dJ 0 ds):=by
 intro H2 φ2 st2 i f2 s2
 have q2:=hS H2 φ2 f2
 have r2:=hr H2 φ2 f2
 refine⟨λd hd=>?_,λhi=>⟨vs,q2,by rw[<-r2.length,<-j5 ds 0];exact hi⟩⟩
 rw[lY,qaf]at hd
 obtain⟨d',hd',rfl⟩:=hd
 obtain⟨v,ev,rv⟩:=r2.get hd'
 refine⟨⟨vs,v,q2,ev⟩,λx H' y=>?_⟩
 obtain⟨T,v',y1,hT,rfl,rfl⟩:=y
 have:=y1 vs q2
 rw[ev]at this
 cases this
 refine⟨bH.new hT _,T,_,rfl,bb,_,_,rfl,?_,_,_,rfl,rv.fw s2 (Fw.new hT),rfl⟩
 show V.int (i:Int)=V.int ((0+i:Nat):Int)
 rw[qbz]
theorem wv {elts:List Expr}{k:Nat}{tpos p:Pos} (hg:Gl X "enumerate") (hm:X.mg "enumerate" = none) (ha:IA K X [a] af) (hs:aU a=true:=by rfl) (hK:X.K=K:=by rfl) :
  II K X (.Tuple elts k tpos) (.Call (.Name "enumerate" p) [a] [] pos) (pM af):=by
 subst hK
 refine⟨λenv st r hr=>?_⟩
 simp only[pM,qac]at hr
 obtain⟨⟨ws,s1⟩,hy,hr⟩:=hr
 dsimp only at hr
 split at hr
 next ds=>
  cases hr
  refine (zg hg hm (ha.run _ _ _ hy) (pz hs)).imp ?_
  rintro σ H R ⟨φ,hE,hS,q⟩
  refine⟨φ,hE,hS,λvs H1 φ1 f1 s1 w1=>?_⟩
  obtain⟨v,r,rfl,⟨a,us,rfl,hq,hr⟩,rfl⟩:=w1
  exact⟨a,rfl,⟨us,(SqT.of hq)⟩,q _ H1 φ1 f1 s1 (wS (λH' φ' f=>(SqT.of hq).fw s1 f) λH' φ' f=>hr.fw s1 f)⟩
 next ds=>
  cases hr
  refine (AG hg hm (ha.run _ _ _ hy) (pz hs)).imp ?_
  rintro σ H R ⟨φ,hE,hS,q⟩
  refine⟨φ,hE,hS,λvs H1 φ1 f1 s1 w1=>?_⟩
  obtain⟨v,r,rfl,⟨a,us,rfl,h0,hq,hr⟩,rfl⟩:=w1
  exact⟨a,rfl,⟨us,.inl hq⟩,q _ H1 φ1 f1 s1 (wS (λH' φ' f=>.inl (hq.fw f h0)) λH' φ' f=>hr.fw s1 f)⟩
 next=>cases hr
theorem d8 {iter:Expr}{body:List Stmt}{fi:Lf}{g:Tg}{gb:Sf} (hi:II K X tg iter fi) (hg:PG X tg (tG K g)) (hb:ISs K X body gb) (hp:qhp (model X.prog X.w) X.A X.env X.xe) (hc:X.calm=true:=by rfl)
  (hs:∀ x,qcR iter X.env x=pure x:=by intro _;rfl):IS K X (.For tg iter body [] pos) (gE fi g gb):=by
 refine⟨λenv st r hr=>?_⟩
 simp only[gE,qac]at hr
 obtain⟨⟨ds,s1⟩,hy,hr⟩:=hr
 refine (yL hp hc (hi.run _ _ _ hy) hg hb.any hs).imp ?_
 rintro D σ H ⟨φ,hE,hS,q⟩
 refine⟨φ,hE,hS,λJ H1 φ1 f1 S1 yl=>?_⟩
 refine⟨λi m σ H=>m=ds.length - i/\i<=ds.length/\∃ env st φ2,Fw φ1 φ2 H1 H/\Er K H φ2 env σ/\Sr K H φ2 st/\mh g gb (ds.drop i) env st=some r,⟨ds.length,by simp,qa7 _,env,s1,φ1,Fw.refl _ _,hE.fw hS f1,S1,hr⟩,?_⟩
 rintro i m σ H2 ⟨rfl,hi,env2,st2,φ2,f2,e2,S2,h2⟩
 obtain⟨y1,y2⟩:=yl H2 φ2 st2 i f2 S2
 by_cases hlt:i<ds.length
 ·obtain⟨go,yld⟩:=y1 ds[i] (qaD hlt)
  rw[qca hlt]at h2
  simp only[mh,qac]at h2
  obtain⟨e3,he3,r3,hr3,h3⟩:=h2
  refine .inr ⟨go,λσ' H'=>i+1<=ds.length/\∃ env st φ2,Fw φ1 φ2 H1 H'/\Er K H' φ2 env σ'/\Sr K H' φ2 st/\mh g gb (ds.drop (i+1)) env st=some r,λσ' H' ⟨hn,p'⟩=>⟨ds.length - (i+1),by lia,rfl,hn,p'⟩,λx H' y=>?_⟩
  obtain⟨sm,rx⟩:=yld x H' y
  have S3:=S2.same sm
  have f3:=f2.trans (Fw.same (φ:=φ2) sm)
  refine⟨φ2,st2,env2,.d ds[i],e3,e2.fw S2 (Fw.same sm),S3,rx,he3,λσ' e' _=>?_⟩
  refine⟨e3,st2,r3,hr3,φ2,e',S3,?_⟩
  cases r3 with
  |nx e4 s4=>exact λσ4 H4 φ4 f4 e4' s4'=>⟨hlt,e4,s4,φ4,f3.trans f4,e4',s4',h3⟩
  |ct e4 s4=>exact λσ4 H4 φ4 f4 e4' s4'=>⟨hlt,e4,s4,φ4,f3.trans f4,e4',s4',h3⟩
  |bk e4 s4=>
   cases h3
   exact λσ4 H4 φ4 f4 e4' s4'=>q σ4 H4 φ4 (f1.trans (f3.trans f4)) e4' s4'
  |rt w s4=>
   cases h3
   exact λv H4 φ4 f4 s4' w4=>q v H4 φ4 (f1.trans (f3.trans f4)) s4' w4
 ·have hi':i=ds.length:=by lia
  subst hi'
  rw[qgb]at h2
  cases h2
  exact .inl ⟨y2 rfl,q σ H2 φ2 (f1.trans f2) e2 S2⟩
def n8 (n:Nat) (c:Tf) (b:Sf):Sf
 |env,st=>dl c b n env st
theorem uI {c:Expr}{body:List Stmt}{tc:Tf}{gb:Sf} (n:Nat) (hc:IT K X c tc) (hb:ISs K X body gb) (hp:qhp (model X.prog X.w) X.A X.env X.xe):IS K X (.While c body [] pos) (n8 n tc gb):=by
 refine⟨λenv st r hr=>?_⟩
 refine (zU hp hc.any hb.any).imp ?_
 rintro D σ H ⟨φ,hE,hS,q⟩
 refine⟨λm σ H'=>∃ env st φ2,Fw φ φ2 H H'/\Er K H' φ2 env σ/\Sr K H' φ2 st/\dl tc gb m env st=some r,⟨n,env,st,φ,Fw.refl _ _,hE,hS,hr⟩,?_⟩
 rintro m σ H2 ⟨env2,st2,φ2,f2,e2,S2,h2⟩
 cases m with
 |zero=>cases h2
 |succ m=>
  simp only[dl,qac]at h2
  obtain⟨⟨k,s3⟩,hk,h2⟩:=h2
  refine⟨env2,st2,_,hk,φ2,e2,S2,λH3 φ3 f3 S3=>?_⟩
  cases k with
  |false=>
   rw[if_neg qaq]at h2
   cases h2
   exact zx (q σ H3 φ3 (f2.trans f3) (e2.fw S2 f3) S3)
  |true=>
   simp only[if_true,qac]at h2
   obtain⟨r3,hr3,h3⟩:=h2
   refine zd ⟨λσ' H'=>∃ env st φ2,Fw φ φ2 H H'/\Er K H' φ2 env σ'/\Sr K H' φ2 st/\dl tc gb m env st=some r,λσ' H' p'=>⟨m,qb4 _,p'⟩,?_⟩
   refine⟨env2,s3,r3,hr3,φ3,e2.fw S2 f3,S3,?_⟩
   have f3':=f2.trans f3
   cases r3 with
   |nx e4 s4=>exact λσ4 H4 φ4 f4 e4' s4'=>⟨e4,s4,φ4,f3'.trans f4,e4',s4',h3⟩
   |ct e4 s4=>exact λσ4 H4 φ4 f4 e4' s4'=>⟨e4,s4,φ4,f3'.trans f4,e4',s4',h3⟩
   |bk e4 s4=>
    cases h3
    exact λσ4 H4 φ4 f4 e4' s4'=>q σ4 H4 φ4 (f3'.trans f4) e4' s4'
   |rt w s4=>
    cases h3
    exact λv H4 φ4 f4 s4' w4=>q v H4 φ4 (f3'.trans f4) s4' w4
structure ITs (K:qai) (X:Cx) (ifs:List Expr) (t:Tf):Prop where
 run:PTs X ifs (Am K t)
theorem bP:ITs K X [] bB:=by
 refine⟨λpins s σ H Q I ⟨env,st,r,e,φ,hE,hS,q⟩=>?_⟩
 cases e
 exact Cq pins s σ H Q I (q H φ (Fw.refl φ H) hS)
theorem eO {c:Expr}{t:Tf} (h:IT K X c t):ITs K X [c] t:=⟨BK h.any⟩
theorem Er.emb {H:Hp}{φ:List Addr}{env:Ev}{σ:St} (h:Er K H φ env σ) (k:Nat) (js:List Nat):Er K H φ (lz k js env) (iZ k js σ):=by
 refine⟨by unfold lz iZ;simp,λi w e=>?_⟩
 unfold lz at e
 unfold iZ
 by_cases hi:i<k
 ·rw[qaY (by simpa using hi),qdu,if_pos hi]at e
  cases e
 ·rw[qbd (by simpa using hi),qc3,qaZ,qaf]at e
  obtain⟨j,ej,e⟩:=e
  have ej2:env[j]?=some (some w):=by
   rw[qhC]at e
   cases q:env[j]? with
   |none=>rw[q]at e;cases e
   |some o=>rw[q]at e;rw[show o=some w from e]
  obtain⟨v,ev,rv⟩:=h.at_ j w ej2
  refine⟨v,?_,rv⟩
  rw[qbd (by simpa using hi),qc3,qaZ,ej]
  show some ((σ[j]?).getD none)=_
  rw[ev];rfl
theorem Sub.stay {k:Nat}{js is:List Nat}{σ σ':St} (h:Cb is (iZ k js σ) σ') (hi:∀ j∈is,j<k):Sub (iZ k js σ) σ':=by
 refine⟨h.1.symm,λj v e=>?_⟩
 by_cases hj:j∈is
 ·have:=hi j hj
  unfold iZ at e
  rw[qaY (by simpa using this),qdu,if_pos this]at e
  cases e
 ·rw[h.2 j hj];exact e
theorem zK {k:Nat}{js:List Nat}{g:Tg}{tt:Tf}{te:Ef}{env:Ev}{st s1:Sto}{ds:List D}{r:List D×Sto} (hgi:∀ j∈BC g,j<k) (hdl:ds.length<=1000000) (hr':lcI g tt te (lz k js env) ds s1=some r) :
  ∀ σ H Q,tIL K env st r σ H Q->tLc (iZ k js) (tII K env st (ds,s1)) (tG K g) (Am K tt) (CG K te) σ H Q:=by
 rintro σ H Q ⟨φ,hE,hS,q⟩
 refine⟨φ,hE,hS,λJ H1 φ1 f1 S1 yl=>?_⟩
 have hE1:=(hE.fw hS f1).emb k js
 refine⟨λi m ys H2=>m=ds.length - i/\i<=ds.length/\∃ st φ2 es r2,Fw φ1 φ2 H1 H2/\Sr K H2 φ2 st/\Rls K H2 φ2 es ys/\es.length<=i/\lcI g tt te (lz k js env) (ds.drop i) st=some r2/\r=(es++r2.1,r2.2),⟨ds.length,by simp,qa7 _,s1,φ1,[],r,Fw.refl _ _,S1,rfl,qan _,hr',rfl⟩,?_⟩
 rintro i m ys H2 ⟨rfl,hi,st2,φ2,es,r2,f2,S2,rl2,hle,h2,rfl⟩
 obtain⟨y1,y2⟩:=yl H2 φ2 st2 i f2 S2
 by_cases hlt:i<ds.length
 ·obtain⟨go,yld⟩:=y1 ds[i] (qaD hlt)
  rw[qca hlt]at h2
  simp only[lcI,qac]at h2
  obtain⟨e3,he3,⟨kb,s3⟩,hb3,h3⟩:=h2
  have hz:ys.length<qaS:=by
   rw[<-rl2.length]
   have:qaS=16777216:=qb5
   lia
  refine .inr ⟨go,hz,λys' H'=>i+1<=ds.length/\∃ st φ2 es' r2',Fw φ1 φ2 H1 H'/\Sr K H' φ2 st/\Rls K H' φ2 es' ys'/\es'.length<=i+1/\lcI g tt te (lz k js env) (ds.drop (i+1)) st=some r2'/\(es++r2.1,r2.2)=(es'++r2'.1,r2'.2),λys' H' ⟨hn,p'⟩=>⟨ds.length - (i+1),by lia,rfl,hn,p'⟩,λx H' y=>?_⟩
  obtain⟨sm,rx⟩:=yld x H' y
  have S3:=S2.same sm
  have f3:=f2.trans (Fw.same (φ:=φ2) sm)
  refine⟨φ2,st2,lz k js env,.d ds[i],e3,hE1.fw S1 f3,S3,rx,he3,λσ' e' stay=>⟨Sub.stay stay hgi,?_⟩⟩
  refine⟨e3,st2,_,hb3,φ2,e',S3,λH4 φ4 f4 S4=>?_⟩
  cases kb with
  |false=>
   rw[if_neg qaq]at h3
   exact zx ⟨hlt,s3,φ4,es,r2,f3.trans f4,S4,(rl2.fw S2 (Fw.same sm)).fw S3 f4,by lia,h3,rfl⟩
  |true=>
   simp only[if_true,qac,qaf]at h3
   obtain⟨x5,hx5,zs,hzs,r5,hr5,rfl⟩:=h3
   refine zd ⟨e3,s3,x5,hx5,φ4,e'.fw S3 f4,S4,λv H5 φ5 f5 S5 w5=>?_⟩
   obtain⟨x5,s5⟩:=x5
   cases x5 with
   |h n=>cases hzs
   |d z=>
    cases hzs
    refine⟨hlt,s5,φ5,es++[z],r5,(f3.trans f4).trans f5,S5,(((rl2.fw S2 (Fw.same sm)).fw S3 f4).fw S4 f5).append ⟨v,[],rfl,w5,rfl⟩,by rw[qa2];simp;lia,hr5,?_⟩
    simp
 ·have hi':i=ds.length:=by lia
  subst hi'
  rw[qgb]at h2
  cases h2
  refine .inl ⟨y2 rfl,λDn hD=>?_⟩
  have:=q Dn ys H2 φ2 (f1.trans f2) S2 hD
  exact this (by simpa using rl2)
theorem cC {scope:Scope}{Nc:List Str}{k:Nat}{js:List Nat}{elt iter:Expr}{ifs:List Expr}{fi:Lf}{g:Tg}{tt:Tf}{te:Ef}
  (S:gG X scope Nc (iZ k js)) (hc:X.calm=true) (hgi:∀ j∈BC g,j<k) (hi:II K X tg iter fi)
  (hg:∀ cells s H C fp,PG (lcX X scope cells Nc s H C fp) tg (tG K g)) (ht:∀ cells s H C fp,ITs K (lcX X scope cells Nc s H C fp) ifs tt) (he:∀ cells s H C fp,IE K (lcX X scope cells Nc s H C fp) elt te)
  (hs:∀ x,qcR iter X.env x=pure x:=by intro _;rfl):IL K X (.ListComp elt [⟨tg,iter,ifs,0⟩] scope pos) (iLc k js fi g tt te):=by
 refine⟨λenv st r hr=>?_⟩
 simp only[iLc,qac]at hr
 obtain⟨⟨ds,s1⟩,hy,hr⟩:=hr
 have hr':(if ds.length<=1000000 then lcI g tt te (lz k js env) ds s1 else none)=some r:=hr
 by_cases hdn:¬ ds.length<=1000000
 ·rw[if_neg hdn]at hr';cases hr'
 have hdl:ds.length<=1000000:=by lia
 rw[if_pos hdl]at hr'
 refine (Ga S hc (hi.run _ _ _ hy) hg (λcells s H C fp=>(ht cells s H C fp).run) (λcells s H C fp=>(he cells s H C fp).any) hs).imp (zK hgi hdl hr')
theorem AD {scope:Scope}{Nc:List Str}{k:Nat}{js:List Nat}{elt iter:Expr}{ifs:List Expr}{fi:Lf}{g:Tg}{tt:Tf}{te:Ef}{i0:Nat}{x0:Str}{py spos:Pos}
  (hN0:X.N.Nodup) (hi0:X.N[i0]?=some x0) (hx0:Loc X.env.scope x0) (S:gG X scope Nc (iZ k js)) (hc:X.calm=true) (hgi:∀ j∈BC g,j<k) (hi:II K X tg iter fi)
  (hg:∀ cells s H C fp,PG (lcX X scope cells Nc s H C fp) tg (tG K g)) (ht:∀ cells s H C fp,ITs K (lcX X scope cells Nc s H C fp) ifs tt) (he:∀ cells s H C fp,IE K (lcX X scope cells Nc s H C fp) elt te)
  (hsw:qeO (.ListComp elt [⟨tg,iter,ifs,0⟩] scope pos) (some (.Name x0 py)) spos.line X.env=pure true:=by rfl)
  (hf0:X.fn x0=true\/X.env.scope.names.lookup x0=some .local:=by first|exact .inl rfl|exact .inr rfl|assumption)
  (hs:∀ x,qcR iter X.env x=pure x:=by intro _;rfl):IS K X (.Assign [.Name x0 py] (.ListComp elt [⟨tg,iter,ifs,0⟩] scope pos) spos) (aW (.nm i0) (aC (iLc k js fi g tt te)))/\
   IS K X (.Assign [.Name x0 py] (.ListComp elt [⟨tg,iter,ifs,0⟩] scope pos) spos) (aW (.nm i0) (mB (iLc k js fi g tt te))):=by
 have key:∀ env st r0 r,iLc k js fi g tt te env st=some r->(∀ σ φ H (D:tT),Er K H φ env σ->Sr K H φ st->yI K φ H D r0->∀ a vs H1 φ',Fw φ φ' H H1->Sr K H1 φ' r.2->H1 a=none->Rls K H1 φ' r.1 vs->D.nx (σ.set i0 (some (.ref a))) (upd H1 a (.lst vs)))->
   PS X (.Assign [.Name x0 py] (.ListComp elt [⟨tg,iter,ifs,0⟩] scope pos) spos) (tS K env st r0):=by
  intro env st r0 r hr h
  simp only[iLc,qac]at hr
  obtain⟨⟨ds,s1⟩,hy,hr⟩:=hr
  have hr':(if ds.length<=1000000 then lcI g tt te (lz k js env) ds s1 else none)=some r:=hr
  by_cases hdn:¬ ds.length<=1000000
  ·rw[if_neg hdn]at hr';cases hr'
  have hdl:ds.length<=1000000:=by lia
  rw[if_pos hdl]at hr'
  refine (Fq hN0 hi0 hx0 S hc (hi.run _ _ _ hy) hg (λcells s H C fp=>(ht cells s H C fp).run) (λcells s H C fp=>(he cells s H C fp).any) hsw hf0 hs).imp ?_
  rintro D σ H ⟨φ,hE,hS,q⟩
  exact zK hgi hdl hr' σ H _ ⟨φ,hE,hS,h σ φ H D hE hS q⟩
 constructor
 ·refine⟨λenv st r hr=>?_⟩
  simp only[aW,aC,fV,qac,qaf]at hr
  obtain⟨y,⟨r2,hy,rfl⟩,e',ee,rfl⟩:=hr
  cases ee
  refine key _ _ _ _ hy λσ φ H D hE hS q a vs H1 φ1 f1 s1 n1 w1=>?_
  exact q _ _ φ1 (f1.trans (Fw.new n1)) ((((hE.fw hS f1).fw s1 (Fw.new n1))).set i0 (w:=.d (.lst r2.1)) ⟨a,vs,rfl,s1.nin n1,.inl bb,w1.fw s1 (Fw.new n1)⟩) (s1.new n1)
 ·refine⟨λenv st r hr=>?_⟩
  simp only[aW,mB,fV,qac,qaf]at hr
  obtain⟨y,⟨r2,hy,rfl⟩,e',ee,rfl⟩:=hr
  cases ee
  refine key _ _ _ _ hy λσ φ H D hE hS q a vs H1 φ1 f1 s1 n1 w1=>?_
  exact q _ _ (φ1++[a]) (f1.trans (Fw.more n1)) (((hE.fw hS f1).fw s1 (Fw.more n1)).set i0 (w:=.h r2.2.length) ⟨a,by rw[<-s1.len];simp,rfl⟩) (s1.more n1 w1)
end
def dg (n k:Nat) (b:Sf):Fn
 |ws,st=>if ws.length=k then (b (ws.map some++qaT (n - k) none) st).bind λr=>match r with
 |.nx _ s=>some (.d .non,s)
 |.rt w s=>some (w,s)
 |_=>none
 else none
def BY (n:Nat) (w:W) (s:Sto):Option (W×Sto):=match w with
 |.d x=>some (.d x,s.take n)
 |.h m=>if m<n then some (.h m,s.take n) else (lg s m).map λds=>(.d (.lst ds),s.take n)
def ni (n k:Nat) (b:Sf):Fn
 |ws,st=>if ws.length=k then (b (ws.map some++qaT (n - k) none) st).bind λr=>match r with
 |.nx _ s=>some (.d .non,s.take st.length)
 |.rt w s=>BY st.length w s
 |_=>none
 else none
section
variable {P:qaX}{w:World}{K:qai}{mg:Str->Option Value}{base:Heap}
theorem uB {H:Hp}{φ:List Addr}{N:List Str}{k:Nat}:∀ {ws:List W}{vs:List V},Rws K H φ ws vs->ws.length=k->Er K H φ (ws.map some++qaT (N.length - k) none) (start N vs):=by
 intro ws vs r hk
 have hl:=r.length
 refine⟨by unfold start;simp;lia,λi x e=>?_⟩
 unfold start
 by_cases hi:i<ws.length
 ·rw[qaY (by simpa using hi),qaZ,qaf]at e
  obtain⟨y,ey,e⟩:=e
  have:∃ v,vs[i]?=some v/\Rw K H φ y v:=by
   clear hk hl hi e
   induction ws generalizing vs i with
   |nil=>simp at ey
   |cons w ws ih=>
    obtain⟨v,r',rfl,r1,r2⟩:=r
    cases i with
    |zero=>simp at ey;subst ey;exact⟨v,rfl,r1⟩
    |succ i=>simpa using ih r2 i (by simpa using ey)
  obtain⟨v,ev,rv⟩:=this
  cases e
  refine⟨v,?_,rv⟩
  rw[qaY (by rw[qae,<-hl];exact hi),qaZ,ev];rfl
 ·rw[qbd (by simpa using hi)]at e
  have:=qbu e
  have:=(List.mem_replicate.mp this).2
  cases this
theorem eU {x qual:Str}{st:Stmt}{f:Addr}{fd:qbb}{N ps:List Str}{k:Nat}{b:Sf} (F:Fun K x qual st f fd) (S:aH N ps (ae st))
  (hb:∀ (cdv:Value) (A:qbc) (outer:List Env) (s:qaj) (H:Hp) (E:XK),cZ k (A.deeper (qgj qual (ae st) s.heap.objs.size f cdv))->ISs K (rT CX0 P w K mg base N qual (ae st) f cdv A outer s H E).nox (aF st) b) :
  bX P w K mg base CX0 (k+1) f fd ps (spI K (dg N.length ps.length b)):=by
 refine F.ok S (λvs H Q E h=>?_) λcdv A outer s H vs Q E hr h=>?_
 ·obtain⟨φ,st,ws,r,e,rw,_⟩:=h
  rw[dg]at e
  by_cases hl:ws.length=ps.length
  ·rw[<-rw.length,hl]
  ·rw[if_neg hl]at e;cases e
 ·obtain⟨φ,st',ws,r,e,rw,S',q⟩:=h
  rw[dg]at e
  by_cases hl:ws.length=ps.length
  ·rw[if_pos hl]at e
   obtain⟨fl,e1,e2⟩:=qac.mp e
   refine⟨_,(hb cdv A outer s H E hr).run _ _ _ e1,φ,uB rw hl,S',?_⟩
   cases fl with
   |nx e s=>cases e2;exact λσ' H' φ' f' e' s'=>q .non H' φ' f' s' rfl
   |rt w s=>cases e2;exact λv H' φ' f' s' w'=>q v H' φ' f' s' w'
   |bk e s=>cases e2
   |ct e s=>cases e2
  ·rw[if_neg hl]at e;cases e
theorem Fw.less {φ φ':List Addr}{H H':Hp} (f:Fw φ φ' H H'):Fw φ φ H H':=⟨⟨[],by simp,by simp⟩,f.keep,f.there⟩
theorem vh {x qual:Str}{st:Stmt}{f:Addr}{fd:qbb}{N ps:List Str}{k:Nat}{b:Sf} (F:Fun K x qual st f fd) (S:aH N ps (ae st))
  (hb:∀ (cdv:Value) (A:qbc) (outer:List Env) (s:qaj) (H:Hp) (E:XK),cZ k (A.deeper (qgj qual (ae st) s.heap.objs.size f cdv))->ISs K (rT CX0 P w K mg base N qual (ae st) f cdv A outer s H E).nox (aF st) b) :
  bX P w K mg base CX0 (k+1) f fd ps (spI K (ni N.length ps.length b)):=by
 refine F.ok S (λvs H Q E h=>?_) λcdv A outer s H vs Q E hr h=>?_
 ·obtain⟨φ,st,ws,r,e,rw,_⟩:=h
  rw[ni]at e
  by_cases hl:ws.length=ps.length
  ·rw[<-rw.length,hl]
  ·rw[if_neg hl]at e;cases e
 ·obtain⟨φ,st',ws,r,e,rw,S',q⟩:=h
  rw[ni]at e
  by_cases hl:ws.length=ps.length
  ·rw[if_pos hl]at e
   obtain⟨fl,e1,e2⟩:=qac.mp e
   refine⟨_,(hb cdv A outer s H E hr).run _ _ _ e1,φ,uB rw hl,S',?_⟩
   have less:∀ {H':Hp}{φ':List Addr}{s':Sto},Fw φ φ' H H'->Sr K H' φ' s'->Sr K H' φ (s'.take st'.length):=λ{H' φ' s'} f' S2=>by
    obtain⟨ψ,rfl,_⟩:=f'.ext
    rw[<-S'.len]
    exact S2.less
   cases fl with
   |nx e s=>cases e2;exact λσ' H' φ' f' e' s'=>q .non H' φ f'.less (less f' s') rfl
   |rt w s=>
    intro v H' φ' f' s' w'
    have e3:BY st'.length w s=some r:=e2
    obtain⟨ψ,eψ,_⟩:=f'.ext
    cases w with
    |d x=>
     cases e3
     subst eψ
     exact q v H' φ f'.less (less f' s') (Rl.less w')
    |h m=>
     obtain⟨a,ea,rfl⟩:=w'
     unfold BY at e3
     by_cases hm:m<st'.length
     ·have e4:some (W.h m,s.take st'.length)=some r:=by
       have:=e3
       simp only[hm,if_true]at this
       exact this
      cases e4
      subst eψ
      rw[qaY (by rw[S'.len];exact hm)]at ea
      exact q _ H' φ f'.less (less f' s') ⟨a,ea,rfl⟩
     ·simp only[hm,if_false]at e3
      obtain⟨ds,eds,rfl⟩:=qaf.mp e3
      obtain⟨vs,hv,rl⟩:=s'.atl m a ds ea eds
      have hn:a∉φ:=λz=>by
       obtain⟨i,hi,ei⟩:=qdc.mp z
       have h1:φ'[i]?=some a:=by subst eψ;rw[qaY hi,qaD hi,ei]
       obtain⟨h2,h2'⟩:=qay.mp h1
       obtain⟨h3,h3'⟩:=qay.mp ea
       have:=(qga s'.nd).mp (h2'.trans h3'.symm)
       rw[S'.len]at hi
       lia
      subst eψ
      exact q _ H' φ f'.less (less f' s') ⟨a,vs,rfl,hn,.inl hv,rl.less⟩
   |bk e s=>cases e2
   |ct e s=>cases e2
  ·rw[if_neg hl]at e;cases e
end
def cQ:D->Bool
 |.non=>true
 |.bl _=>true
 |.int _=>true
 |.str _=>true
 |_=>false
def vOf:D->V
 |.bl b=>.bl b
 |.int i=>.int i
 |.str x=>.str x
 |_=>.non
mutual
def eqD:D->D->Bool
 |.non,.non=>true
 |.bl a,.bl b=>a==b
 |.bl a,.int b=>(if a then 1 else 0)==b
 |.int a,.bl b=>a==(if b then 1 else 0)
 |.int a,.int b=>a==b
 |.str a,.str b=>a==b
 |.tup as,.tup bs=>h9 as bs
 |.lst as,.lst bs=>h9 as bs
 |_,_=>false
def h9:List D->List D->Bool
 |[],[]=>true
 |a::as,b::bs=>eqD a b&&h9 as bs
 |_,_=>false
end
def okD:Nat->D->Bool
 |_,.non=>true
 |_,.bl _=>true
 |_,.int _=>true
 |_,.str _=>true
 |n+1,.tup ds=>ds.all (okD n)
 |n+1,.lst ds=>ds.all (okD n)
 |_,_=>false
def lsD (st:Sto):W->Option (List D)
 |.d (.lst ds)=>some ds
 |.h n=>lg st n
 |_=>none
def dO (st:Sto) (x y:W):Option D:=match x,y with
 |.d (.int i),.d (.int j)=>some (.int (i+j))
 |.d (.tup a),.d (.tup b)=>if a.length+b.length<=1000000 then some (.tup (a++b)) else none
 |.d (.str a),.d (.str b)=>if a.length+b.length<=1000000 then some (.str (a++b)) else none
 |x,y=>(lsD st x).bind λa=>(lsD st y).bind λb=>if a.length+b.length<=1000000 then some (.lst (a++b)) else none
def vN (_:Sto):W->W->Option D
 |.d (.int i),.d (.int j)=>some (.int (i - j))
 |_,_=>none
instance (a b:Int):Decidable (qhd a b):=by unfold qhd;infer_instance
def fu (_:Sto):W->W->Option D
 |.d (.int i),.d (.int j)=>if qhd i j then some (.int (i*j)) else none
 |.d (.tup a),.d (.int k)=>if a≠[]/\a.length<=1000/\1<=k/\k<1000 then some (.tup (qaT k.toNat a).flatten) else none
 |.d (.lst a),.d (.int k)=>if a.length<=1000/\-1000<=k/\k<1000 then some (.lst (qaT k.toNat a).flatten) else none
 |_,_=>none
def kf (_:Sto):W->W->Option D
 |.d (.int i),.d (.int j)=>if 0<j/\j<1073741824 then some (.int (i / j)) else none
 |_,_=>none
def i6 (_:Sto):W->W->Option D
 |.d (.int i),.d (.int j)=>if 0<j then some (.int (i%j)) else none
 |_,_=>none
instance (i j:Int):Decidable (rV i j):=by unfold rV;infer_instance
def ya (_:Sto):W->W->Option D
 |.d (.int i),.d (.int j)=>if rV i j then some (.int (i^j.toNat)) else none
 |_,_=>none
def zt (_:Sto):W->W->Option D
 |.d (.int i),.d (.int j)=>if rV i j then some (.int (i*2^j.toNat)) else none
 |_,_=>none
def t6 (_:Sto):W->W->Option D
 |.d (.int i),.d (.int j)=>if 0<=j then some (.int (i / 2^j.toNat)) else none
 |_,_=>none
def EO (_:Sto):W->W->Option D
 |.d (.int i),.d (.int j)=>some (.int (qeW i j))
 |_,_=>none
def dLt (_:Sto):W->W->Option D
 |.d (.int i),.d (.int j)=>some (.bl (decide (i<j)))
 |_,_=>none
def dLe (_:Sto):W->W->Option D
 |.d (.int i),.d (.int j)=>some (.bl (decide (i<=j)))
 |_,_=>none
def dGt (_:Sto):W->W->Option D
 |.d (.int i),.d (.int j)=>some (.bl (decide (j<i)))
 |_,_=>none
def dGe (_:Sto):W->W->Option D
 |.d (.int i),.d (.int j)=>some (.bl (decide (j<=i)))
 |_,_=>none
def yC:D->Bool
 |.non=>true
 |_=>false
def yR (_:Sto):W->W->Option D
 |.d x,.d .non=>some (.bl (!yC x))
 |_,_=>none
def inD (x:D) (ds:List D):Bool:=ds.any λy=>eqD y x
def rf (st:Sto) (x y:W):Option D:=match x with
 |.d x=>(kC st y).bind λds=>if cQ x=true/\ds.all cQ=true then some (.bl (!inD x ds)) else none
 |_=>none
section
variable {K:qai}{X:Cx}
theorem eR {H:Hp}{φ:List Addr}{d:D}{v:V} (h:cQ d=true) (r:Rl K H φ d v):v=vOf d/\gr v=true:=by
 cases d with
 |non=>cases (show v=.non from r);exact⟨rfl,rfl⟩
 |bl b=>cases (show v=.bl b from r);exact⟨rfl,rfl⟩
 |int b=>cases (show v=.int b from r);exact⟨rfl,rfl⟩
 |str b=>cases (show v=.str b from r);exact⟨rfl,rfl⟩
 |_=>cases h
theorem nI {a b:D} (ha:cQ a=true) (hb:cQ b=true):eqV (vOf a) (vOf b)=eqD a b:=by
 cases a<;>cases b<;>first|rfl|(cases ha;done)|(cases hb;done)|(simp[eqV,vOf,eqD];done)
theorem tF {H:Hp}{φ:List Addr}:∀ {ds:List D}{vs:List V},ds.all cQ=true->Rls K H φ ds vs->vs=ds.map vOf/\vs.all gr=true
 |[],_,_,h=>by cases h;exact⟨rfl,rfl⟩
 |d::ds,_,h,r=>by
  rw[qbL,qa8]at h
  obtain⟨v,vr,rfl,r1,r2⟩:=r
  obtain⟨e1,e2⟩:=eR h.1 r1
  obtain⟨e3,e4⟩:=tF h.2 r2
  exact⟨by rw[e1,e3];rfl,by rw[qbL,e2,e4];rfl⟩
theorem wj {x:D} (hx:cQ x=true):∀ {ds:List D},ds.all cQ=true->inV (vOf x) (ds.map vOf)=inD x ds
 |[],_=>rfl
 |d::ds,h=>by
  rw[qbL,qa8]at h
  have ih:=wj hx h.2
  unfold inV inD at ih ⊢
  rw[qal,qcj,qcj,ih,nI h.1 hx]
theorem Ab {f:Value->Value->Sem Value}{g:Sto->W->W->Option D} (h:∀ st x y d,g st x y=some d->∃ i j,x=.d (.int i)/\y=.d (.int j)/\OpR X f (λvx vy H Q=>vx=.int i/\vy=.int j/\Q (vOf d) H)/\cQ d=true):OpD K X f g:=by
 refine⟨λst x y d hd=>?_⟩
 obtain⟨i,j,rfl,rfl,ho,hf⟩:=h st x y d hd
 refine ho.imp ?_
 rintro vx vy H Q ⟨φ,S,r1,r2,q⟩
 refine⟨r1,r2,q _ H (bH.refl H) ?_⟩
 cases d<;>first|rfl|cases hf
def i2 (f:Int->Int->Option D):W->W->Option D
 |.d (.int i),.d (.int j)=>f i j
 |_,_=>none
theorem CB {f:Int->Int->Option D}{x y:W}{d:D} (h:i2 f x y=some d):∃ i j,x=.d (.int i)/\y=.d (.int j)/\f i j=some d:=by
 unfold i2 at h
 split at h
 ·exact⟨_,_,rfl,rfl,h⟩
 ·cases h
theorem o9 {f:Value->Value->Sem Value}{g:Sto->W->W->Option D}{r:Int->Int->D} (hg:∀ st,g st=i2 λi j=>some (r i j)) (hf:∀ i j,cQ (r i j)=true) (h:∀ i j,OpR X f (λvx vy H Q=>vx=.int i/\vy=.int j/\Q (vOf (r i j)) H)):OpD K X f g:=Ab λst x y d e=>by
 rw[hg]at e
 obtain⟨i,j,e1,e2,e3⟩:=CB e
 cases e3
 exact⟨i,j,e1,e2,h i j,hf i j⟩
theorem og {f:Value->Value->Sem Value}{g:Sto->W->W->Option D}{r:Int->Int->D}{c:Int->Int->Prop} [∀ i j,Decidable (c i j)] (hg:∀ st,g st=i2 λi j=>if c i j then some (r i j) else none) (hf:∀ i j,cQ (r i j)=true) (h:∀ i j,c i j->OpR X f (λvx vy H Q=>vx=.int i/\vy=.int j/\Q (vOf (r i j)) H)):OpD K X f g:=Ab λst x y d e=>by
 rw[hg]at e
 obtain⟨i,j,e1,e2,e3⟩:=CB e
 split at e3
 next hc=>
  cases e3
  exact⟨i,j,e1,e2,h i j hc,hf i j⟩
 next=>cases e3
theorem u5:OpD K X (qbC .Sub) vN:=o9 (λ_=>rfl) (λ_ _=>rfl) λi j=>DZ.imp λvx vy H Q h=>⟨i,j,h.1,h.2.1,h.2.2⟩
theorem DJ:OpD K X (qbC .BitXor) EO:=o9 (λ_=>rfl) (λ_ _=>rfl) λi j=>Dw.imp λvx vy H Q h=>⟨i,j,h.1,h.2.1,h.2.2⟩
theorem CD:OpD K X (qcF .Lt) dLt:=o9 (λ_=>rfl) (λ_ _=>rfl) λi j=>FG.imp λvx vy H Q h=>⟨i,j,h.1,h.2.1,h.2.2⟩
theorem Fm:OpD K X (qcF .LtE) dLe:=o9 (λ_=>rfl) (λ_ _=>rfl) λi j=>Fp.imp λvx vy H Q h=>⟨i,j,h.1,h.2.1,h.2.2⟩
theorem CM:OpD K X (qcF .Gt) dGt:=o9 (λ_=>rfl) (λ_ _=>rfl) λi j=>Ff.imp λvx vy H Q h=>⟨i,j,h.1,h.2.1,h.2.2⟩
theorem E4:OpD K X (qcF .GtE) dGe:=o9 (λ_=>rfl) (λ_ _=>rfl) λi j=>Fb.imp λvx vy H Q h=>⟨i,j,h.1,h.2.1,h.2.2⟩
theorem ly:OpD K X (qbC .FloorDiv) kf:=og (λ_=>rfl) (λ_ _=>rfl) λi j hc=>A3.imp λvx vy H Q h=>⟨i,j,h.1,h.2.1,hc,h.2.2⟩
theorem hW:OpD K X (qbC .Mod) i6:=og (λ_=>rfl) (λ_ _=>rfl) λi j hc=>Dc.imp λvx vy H Q h=>⟨i,j,h.1,h.2.1,hc,h.2.2⟩
theorem zV:OpD K X (qbC .Pow) ya:=og (λ_=>rfl) (λ_ _=>rfl) λi j hc=>Dz.imp λvx vy H Q h=>⟨i,j,h.1,h.2.1,hc,h.2.2⟩
theorem AH:OpD K X (qbC .LShift) zt:=og (λ_=>rfl) (λ_ _=>rfl) λi j hc=>D5.imp λvx vy H Q h=>⟨i,j,h.1,h.2.1,hc,h.2.2⟩
theorem ve:OpD K X (qbC .RShift) t6:=og (λ_=>rfl) (λ_ _=>rfl) λi j hc=>EG.imp λvx vy H Q h=>⟨i,j,h.1,h.2.1,hc,h.2.2⟩
theorem DQ {H:Hp}{φ:List Addr}{d:D}{v:V} (r:Rl K H φ d v):decide (v=.non)=yC d:=by
 cases d with
 |non=>cases (show v=.non from r);rfl
 |bl b=>cases (show v=.bl b from r);rfl
 |int b=>cases (show v=.int b from r);rfl
 |str b=>cases (show v=.str b from r);rfl
 |ty b=>cases (show v=.ty b from r);rfl
 |dct=>obtain⟨a,rfl,_⟩:=r;rfl
 |scr ns=>obtain⟨a,rfl,_⟩:=r;rfl
 |tup ds=>obtain⟨a,vs,rfl,_⟩:=r;rfl
 |lst ds=>obtain⟨a,vs,rfl,_⟩:=r;rfl
theorem Ba:OpD K X (qcF .IsNot) yR:=by
 refine⟨λst x y d h=>?_⟩
 unfold yR at h
 split at h
 next x=>
  cases h
  refine BZ.imp ?_
  rintro vx vy H Q ⟨φ,S,r1,r2,q⟩
  refine⟨r2,q _ H (bH.refl H) ?_⟩
  rw[DQ r1];rfl
 next=>cases h
theorem zP (hK:X.K=K:=by rfl):OpD K X (qcF .NotIn) rf:=by
 subst hK
 refine⟨λst x y d h=>?_⟩
 match x,h with
 |.d x,h=>
  simp only[rf,qac]at h
  obtain⟨ds,hs,h⟩:=h
  split at h
  ·rename_i hc
   cases h
   refine rR.imp ?_
   rintro vx vy H Q ⟨φ,S,r1,r2,q⟩
   obtain⟨a,vs,rfl,h1,h2⟩:=rJ S r2 hs
   obtain⟨e1,e2⟩:=eR hc.1 r1
   obtain⟨e3,e4⟩:=tF hc.2 h2
   refine⟨a,vs,rfl,h1,e2,e4,q _ H (bH.refl H) ?_⟩
   rw[e1,e3,wj hc.1 hc.2];rfl
  ·cases h
end
end L2
namespace L2
open PySem PySem.Spec PyProof.Rows
section
variable {K:qai}{X:Cx}
theorem BT:OpR X (qbC .Add) (λx y H Q=>∃ l b xs zs,x=.ref l/\y=.ref b/\Rd H l (.lst xs)/\Rd H b (.lst zs)/\xs.length+zs.length<=qaS/\∀ p,H p=none->Q (.ref p) (upd H p (.lst (xs++zs)))):=by
 intro pins s σ H x y v u Q I rx ry h
 obtain⟨l,b,xs,zs,rfl,rfl,hH,hB,hz,q⟩:=h
 cases rx
 cases ry
 obtain⟨z,its,n,r,e⟩:=hH.ok I.hok
 obtain⟨z2,its2,n2,r2,e2⟩:=hB.ok I.hok
 have hl:=r.length
 have hl2:=r2.length
 refine PySem.P.add_list e e2 ?_ (by rw[qaz,qaz];lia)
 have ea:its.toArray++its2.toArray=(its++its2).toArray:=by simp
 rw[ea]
 exact⟨.ref _,_,I.lnew (t':=s.toks) (r.append r2) (by rw[qa2];lia),rfl,q _ I.fresh⟩
theorem zQ:OpR X (qbC .Add) (λx y H Q=>∃ a b xs ys,x=.ref a/\y=.ref b/\SqT X.K H a xs/\SqT X.K H b ys/\xs.length+ys.length<=qaS/\
  (xs=[]->Q (.ref b) H)/\(ys=[]->Q (.ref a) H)/\∀ p,H p=none->Q (.ref p) (upd H p (.tup (xs++ys)))):=by
 intro pins s σ H x y v u Q I rx ry h
 obtain⟨a,b,xs,ys,rfl,rfl,ha,hb,hz,q0,q1,q2⟩:=h
 by_cases hx:xs=[]
 ·cases rx
  cases ry
  obtain⟨its,r1,p1,_⟩:=I.tuple ha
  obtain⟨its2,r2,p2,_⟩:=I.tuple hb
  obtain⟨⟨cls,dd,data,sl⟩,ho,hc,n,hd⟩:=id p1
  obtain⟨⟨cls2,dd2,data2,sl2⟩,ho2,hc2,n2,hd2⟩:=id p2
  simp only at hc hd hc2 hd2
  subst hc hd hc2 hd2
  exact qiJ ⟨_,ho,rfl⟩ ⟨_,ho2,rfl⟩ qgY qie qez qev (qei _ _)
   (tuple_addW0 a b its.toArray its2.toArray n n2 dd dd2 sl sl2 (by simp[r1.nil_iff.mpr hx])) ⟨ho,ho2,.ref b,H,I,rfl,q0 hx⟩
 ·exact A7 pins s σ H _ _ v u Q I rx ry ⟨a,b,xs,ys,rfl,rfl,ha,hb,hx,hz,q1,λ_ p hp=>q2 p hp⟩
theorem lZ {st:Sto}{H:Hp}{φ:List Addr}{w:W}{v:V}{ds:List D} (S:Sr K H φ st) (r:Rw K H φ w v) (e:lsD st w=some ds):∃ a vs,v=.ref a/\Rd H a (.lst vs)/\Rls K H φ ds vs:=by
 cases w with
 |h n=>
  obtain⟨a,ea,rfl⟩:=r
  obtain⟨vs,q,rl⟩:=S.atl n a ds ea e
  exact⟨a,vs,rfl,.inl q,rl⟩
 |d x=>
  cases x with
  |lst es=>cases e;obtain⟨a,vs,rfl,h0,h1,h2⟩:=r;exact⟨a,vs,rfl,h1,h2⟩
  |_=>cases e
theorem mil:(1000000:Nat)<=qaS:=by rw[qb5];decide
theorem db (hK:X.K=K:=by rfl):OpD K X (qbC .Add) dO:=by
 subst hK
 refine⟨λst x y d h=>?_⟩
 have lists:(lsD st x).bind (λa=>(lsD st y).bind λb=>if a.length+b.length<=1000000 then some (.lst (a++b)) else none)=some d->OpR X (qbC .Add) (rD X.K st x y d):=λh=>by
  simp only[qac]at h
  obtain⟨as,ha,bs,hb,h⟩:=h
  split at h
  ·rename_i hl
   cases h
   refine BT.imp ?_
   rintro vx vy H Q ⟨φ,S,r1,r2,q⟩
   obtain⟨a,us,rfl,h1,h2⟩:=lZ S r1 ha
   obtain⟨b,vs,rfl,h3,h4⟩:=lZ S r2 hb
   refine⟨a,b,us,vs,rfl,rfl,h1,h3,by rw[<-h2.length,<-h4.length];exact qaH hl mil,λp hp=>q _ _ (bH.new hp _) ?_⟩
   exact⟨p,_,rfl,S.nin hp,.inl bb,(h2.append h4).fw S (Fw.new hp)⟩
  ·cases h
 unfold dO at h
 split at h
 next i j=>
  cases h
  refine EC.imp ?_
  rintro vx vy H Q ⟨φ,S,r1,r2,q⟩
  exact⟨i,j,r1,r2,q _ H (bH.refl H) rfl⟩
 next as bs=>
  split at h
  ·rename_i hl
   cases h
   refine zQ.imp ?_
   rintro vx vy H Q ⟨φ,S,⟨a,us,rfl,h1,h2⟩,⟨b,vs,rfl,h3,h4⟩,q⟩
   refine⟨a,b,us,vs,rfl,rfl,(SqT.of h1),(SqT.of h3),by rw[<-h2.length,<-h4.length];exact qaH hl mil,λe=>?_,λe=>?_,λp hp=>?_⟩
   ·subst e
    have:as=[]:=by cases as with|nil=>rfl|cons _ _=>cases h2.length
    subst this
    exact q _ H (bH.refl H) ⟨b,vs,rfl,h3,h4⟩
   ·subst e
    have:bs=[]:=by cases bs with|nil=>rfl|cons _ _=>cases h4.length
    subst this
    exact q _ H (bH.refl H) ⟨a,us,rfl,h1,by rw[qc4];exact h2⟩
   ·exact q _ _ (bH.new hp _) ⟨p,_,rfl,bb,(h2.append h4).fw S (Fw.new hp)⟩
  ·cases h
 next as bs=>
  split at h
  ·rename_i hl
   cases h
   refine vT.imp ?_
   rintro vx vy H Q ⟨φ,S,r1,r2,q⟩
   exact⟨as,bs,r1,r2,qaH hl mil,q _ H (bH.refl H) rfl⟩
  ·cases h
 next=>exact lists h
theorem Co:OpR X (qbC .Mult) (λx y H Q=>∃ l k xs,x=.ref l/\y=.int k/\Rd H l (.lst xs)/\-(2 ^ 63)<=k/\k < 2 ^ 63/\xs.length*k.toNat<=qaS/\
 ∀ p,H p=none->Q (.ref p) (upd H p (.lst (qaT k.toNat xs).flatten))):=by
 intro pins s σ H x y v u Q I rx ry h
 obtain⟨l,k,xs,rfl,rfl,hH,h1,h2,hz,q⟩:=h
 cases rx
 obtain⟨t,rfl⟩:=ry
 obtain⟨z,its,n,r,e⟩:=hH.ok I.hok
 have hl:=r.length
 have hlen:its.toArray.size*k.toNat<=qaS:=by rw[qaz,<-hl];exact hz
 have hcap:¬ its.toArray.size*k.toNat > (2^63 - 1) / 8:=by
  have:(qaS:Nat)<=(2^63 - 1) / 8:=by decide
  lia
 have hfit:¬ (!Builtin.List.listFitsIndex k)=true:=by
  rw[qlg h1 h2]
  exact qaq
 have hlong:¬ qcx (its.toArray.size*k.toNat)=true:=by
  rw[uq hlen]
  exact qaq
 have hnew:qe4 (λx1 x2=>x1++x2) #[] (qaT (if its.toArray.isEmpty=true then 0 else k.toNat) its.toArray)=(qaT k.toNat its).flatten.toArray:=by
  have f0:∀ m:Nat,qe4 (λx1 x2=>x1++x2) #[] (qaT m its.toArray)=(qaT m its).flatten.toArray:=λm=>by
   have:=mn its m []
   rw[qcH]at this
   exact this
  rw[f0]
  cases its with
  |nil=>simp
  |cons a r'=>rw[if_neg (by simp)]
 refine qhH (T:="list") (U:="int") (by decide) ⟨_,e,rfl⟩ (λs'=>qfH s' k t) noFill_list_mul qjT qfg repeat_list qjz.lookup
  (qdh qfg (qfH s k t) qjA (qji _ _) (int___rmul___int_list k t l its.toArray n)
    ⟨e,rfl,⟨_,e,rfl⟩,qdh F.slot_list_mul ⟨_,e,rfl⟩ F.entry_list_mul (F.args_list_mul_2 _ _) (AutoListH.list___mul___list_int_3 l its.toArray n k t hfit hcap hlong) ⟨e,?_⟩⟩)
 rw[hnew]
 exact⟨.ref _,_,I.lnew (t':=s.toks) (r.rep k.toNat) (by rw[qY,Nat.mul_comm];exact hz),rfl,q _ I.fresh⟩
theorem d7 (hK:X.K=K:=by rfl):OpD K X (qbC .Mult) fu:=by
 subst hK
 refine⟨λst x y d h=>?_⟩
 unfold fu at h
 split at h
 next i j=>
  split at h
  ·rename_i hl
   cases h
   refine B9.imp ?_
   rintro vx vy H Q ⟨φ,S,r1,r2,q⟩
   exact⟨i,j,r1,r2,hl,q _ H (bH.refl H) rfl⟩
  ·cases h
 next as k=>
  split at h
  ·rename_i hl
   cases h
   refine BP.imp ?_
   rintro vx vy H Q ⟨φ,S,⟨a,us,rfl,h1,h2⟩,r2,q⟩
   have hne:us≠[]:=by rintro rfl;cases as with|nil=>exact hl.1 rfl|cons _ _=>cases h2.length
   refine⟨a,k,us,rfl,r2,(SqT.of h1),hne,by rw[<-h2.length];exact hl.2.1,hl.2.2.1,hl.2.2.2,λe=>?_,λ_ p hp=>?_⟩
   ·subst e
    exact q _ H (bH.refl H) ⟨a,us,rfl,h1,by simpa using h2⟩
   ·exact q _ _ (bH.new hp _) ⟨p,_,rfl,bb,(h2.rep _).fw S (Fw.new hp)⟩
  ·cases h
 next as k=>
  split at h
  ·rename_i hl
   cases h
   refine Co.imp ?_
   rintro vx vy H Q ⟨φ,S,⟨a,us,rfl,h0,h1,h2⟩,r2,q⟩
   refine⟨a,k,us,rfl,r2,h1,by lia,by lia,?_,λp hp=>?_⟩
   ·rw[<-h2.length]
    have:as.length*k.toNat<=1000*1000:=qg3 hl.1 (by lia)
    exact qaH this mil
   ·exact q _ _ (bH.new hp _) ⟨p,_,rfl,S.nin hp,.inl bb,(h2.rep _).fw S (Fw.new hp)⟩
  ·cases h
 next=>cases h
def dIx (st:Sto) (x y:W):Option D:=match x,y with
 |.d (.str z),.d (.int i)=>if z.length<=1000000 then (atI z.cps.toList i).map λc=>.str ⟨#[c]⟩ else none
 |x,.d (.int i)=>(kC st x).bind λds=>atI ds i
 |_,_=>none
theorem Ek {H:Hp}{φ:List Addr}{ds:List D}{vs:List V}{i:Int}{d:D} (r:Rls K H φ ds vs) (e:atI ds i=some d):∃ v,atI vs i=some v/\Rl K H φ d v:=by
 unfold atI at e ⊢
 rw[<-r.length]
 obtain⟨j,e1,e2⟩:=qac.mp e
 obtain⟨v,ev,rv⟩:=r.get e2
 exact⟨v,by rw[e1];exact ev,rv⟩
theorem IxR.imp {r r':R2} (h:IxR X r) (m:∀ x y H Q,r' x y H Q->r x y H Q):IxR X r':=λvalue slice pins s σ H x y v u Q I rx ry q hs=>h value slice pins s σ H x y v u Q I rx ry (m _ _ _ _ q) hs
theorem FW (st:Sto) (x y:W) (d:D) (h:dIx st x y=some d) (hK:X.K=K):IxR X (rD K st x y d):=by
 subst hK
 unfold dIx at h
 split at h
 next z i=>
  split at h
  next hl=>
   obtain⟨c,e1,rfl⟩:=qaf.mp h
   refine vz.imp ?_
   rintro vx vy H Q ⟨φ,S,r1,r2,q⟩
   exact .inr (.inr ⟨z,i,c,r1,r2,qaH hl mil,e1,q _ H (bH.refl H) rfl⟩)
  next=>cases h
 next x i _=>
  obtain⟨ds,e1,e2⟩:=qac.mp h
  refine vz.imp ?_
  rintro vx vy H Q ⟨φ,S,r1,r2,q⟩
  obtain⟨a,vs,rfl,h1,h2⟩:=rJ S r1 e1
  obtain⟨v,ev,rv⟩:=Ek h2 e2
  rcases h1 with h1|h1
  ·exact .inl ⟨a,vs,i,v,rfl,r2,h1,ev,q _ H (bH.refl H) rv⟩
  ·exact .inr (.inl ⟨a,vs,i,v,rfl,r2,h1,ev,q _ H (bH.refl H) rv⟩)
 next=>cases h
variable {e a b:Expr}{pos p2:Pos}{f fa fb:Ef}
theorem cH (ha:IE K X a fa) (hb:IE K X b fb) (hs:lT b=true:=by rfl) (hK:X.K=K:=by rfl):IE K X (.Subscript a b pos) (iOp dIx fa fb):=by
 refine⟨λenv st r hr=>?_⟩
 simp only[iOp,qac,qaf]at hr
 obtain⟨x,hx,y,hy,d,hd,rfl⟩:=hr
 exact (Cy (FW _ _ _ _ hd hK) (ha.run _ _ _ hx) (hb.run _ _ _ hy) (sN hs)).imp λσ H Q h=>uT h
abbrev Pf:=Ev->Sto->Option (Option Int×Sto)
def iPn:Pf
 |_,st=>some (none,st)
def Ed:W->Option Int
 |.d (.int i)=>some i
 |_=>none
theorem xW {w:W}{i:Int} (h:Ed w=some i):w=.d (.int i):=by
 cases w with
 |h n=>cases h
 |d x=>cases x<;>first|(cases h;done)|(injection h with h;subst h;rfl)
def iPs (f:Ef):Pf
 |env,st=>(f env st).bind λr=>(Ed r.1).map λi=>(some i,r.2)
def tIO (K:qai) (env:Ev) (st:Sto) (r:Option Int×Sto):TO:=λσ H Q=>∃ φ,Er K H φ env σ/\Sr K H φ st/\∀ H' φ',Fw φ φ' H H'->Sr K H' φ' r.2->Q r.1 H'
structure IO (K:qai) (X:Cx) (e:Option Expr) (f:Pf):Prop where
 run:∀ env st r,f env st=some r->PO X e (tIO K env st r)
theorem PO.imp {e:Option Expr}{t t':TO} (h:PO X e t) (m:∀ σ H Q,t' σ H Q->t σ H Q):PO X e t':=λpins s σ H Q I q=>h pins s σ H Q I (m σ H Q q)
theorem v8:IO K X none iPn:=by
 refine⟨λenv st r hr=>?_⟩
 cases hr
 exact BV.imp λσ H Q ⟨φ,hE,hS,q⟩=>q H φ (Fw.refl φ H) hS
theorem wO (h:IE K X e f):IO K X (some e) (iPs f):=by
 refine⟨λenv st r hr=>?_⟩
 simp only[iPs,qac,qaf]at hr
 obtain⟨⟨x,s1⟩,hx,i,hi,rfl⟩:=hr
 cases xW hi
 refine (B0 (h.run _ _ _ hx)).imp ?_
 rintro σ H Q ⟨φ,hE,hS,q⟩
 exact⟨φ,hE,hS,λv H1 φ1 f1 s1 w1=>⟨i,w1,q H1 φ1 f1 s1⟩⟩
def n6 (xs:List D) (lo hi:Option Int):List D:=(xs.drop (HT.sIx xs.length 0 lo)).take (HT.sIx xs.length xs.length hi - HT.sIx xs.length 0 lo)
theorem wx {H:Hp}{φ:List Addr}{ds:List D}{vs:List V} (r:Rls K H φ ds vs) (lo hi:Option Int):Rls K H φ (n6 ds lo hi) (r8 vs lo hi):=by
 unfold n6 r8
 rw[r.length]
 exact (r.drop _).take _
def dSl (st:Sto) (x:W) (lo hi:Option Int):Option D:=match x with
 |.d (.tup ds)=>some (.tup (n6 ds lo hi))
 |.d (.lst ds)=>some (.lst (n6 ds lo hi))
 |.h n=>(lg st n).map λds=>.lst (n6 ds lo hi)
 |.d (.scr ns)=>some (.lst (n6 (ns.map D.int) lo hi))
 |_=>none
def iSl (f:Ef) (lo hi:Pf):Ef
 |env,st=>(f env st).bind λx=>(lo env x.2).bind λl=>(hi env l.2).bind λu=>(dSl u.2 x.1 l.1 u.1).map λd=>(.d d,u.2)
theorem CI {lo hi:Option Expr}{fl fh:Pf} (h:IE K X e f) (hl:IO K X lo fl) (hh:IO K X hi fh) (hK:X.K=K:=by rfl):IE K X (.Subscript e (.Slice lo hi none p2) pos) (iSl f fl fh):=by
 subst hK
 refine⟨λenv st r hr=>?_⟩
 simp only[iSl,qac,qaf]at hr
 obtain⟨⟨x,s1⟩,hx,l,hl',u,hu',d,hd,rfl⟩:=hr
 have list:(∀ {H:Hp}{φ:List Addr}{v:V},Sr X.K H φ u.2->Rw X.K H φ x v->∃ a vs ds,v=.ref a/\SqL X.K H a vs/\Rls X.K H φ ds vs/\d=.lst (n6 ds l.1 u.1))->PE X (.Subscript e (.Slice lo hi none p2) pos) (tI X.K env st (.d d,u.2)):=λhq=>by
  refine (tw BW (h.run _ _ _ hx) (hl.run _ _ _ hl') (hh.run _ _ _ hu')).imp ?_
  rintro σ H Q ⟨φ,hE,hS,q⟩
  refine⟨φ,hE,hS,λv H1 φ1 f1 s1 w1=>⟨φ1,hE.fw hS f1,s1,λH2 φ2 f2 s2=>⟨φ2,(hE.fw hS f1).fw s1 f2,s2,λH3 φ3 f3 s3=>?_⟩⟩⟩
  obtain⟨a,vs,ds,rfl,h1,h2,rfl⟩:=hq s3 ((w1.fw s1 f2).fw s2 f3)
  refine⟨a,vs,rfl,h1,λp hp=>q _ _ φ3 (((f1.trans f2).trans f3).trans (Fw.new hp)) (s3.new hp) ?_⟩
  exact⟨p,_,rfl,s3.nin hp,.inl bb,(wx h2 _ _).fw s3 (Fw.new hp)⟩
 dsimp only at hd
 unfold dSl at hd
 split at hd
 next ds=>
  cases hd
  refine (tw (DS (K:=X.K) rfl) (h.run _ _ _ hx) (hl.run _ _ _ hl') (hh.run _ _ _ hu')).imp ?_
  rintro σ H Q ⟨φ,hE,hS,q⟩
  refine⟨φ,hE,hS,λv H1 φ1 f1 s1 w1=>⟨φ1,hE.fw hS f1,s1,λH2 φ2 f2 s2=>⟨φ2,(hE.fw hS f1).fw s1 f2,s2,λH3 φ3 f3 s3=>?_⟩⟩⟩
  obtain⟨a,vs,rfl,h1,h2⟩:=(w1.fw s1 f2).fw s2 f3
  refine⟨a,vs,rfl,(SqT.of h1),?_⟩
  by_cases hc:HT.sIx vs.length 0 l.1=0/\HT.sIx vs.length vs.length u.1=vs.length
  ·refine .inr ⟨hc,q _ _ φ3 ((f1.trans f2).trans f3) s3 ⟨a,vs,rfl,h1,?_⟩⟩
   have e:n6 ds l.1 u.1=ds:=by
    unfold n6
    rw[h2.length,hc.1,hc.2,qem,qf6,<-h2.length,qbv]
   rw[e]
   exact h2
  ·exact .inl ⟨hc,λp hp=>q _ _ φ3 (((f1.trans f2).trans f3).trans (Fw.new hp)) (s3.new hp) ⟨p,_,rfl,bb,(wx h2 _ _).fw s3 (Fw.new hp)⟩⟩
 next ds=>
  cases hd
  refine list λ{H φ v} S w=>?_
  obtain⟨a,vs,rfl,h0,h1,h2⟩:=w
  exact⟨a,vs,ds,rfl,.inl h1,h2,rfl⟩
 next n=>
  obtain⟨ds,e1,rfl⟩:=qaf.mp hd
  refine list λ{H φ v} S w=>?_
  obtain⟨a,ea,rfl⟩:=w
  obtain⟨vs,q,rl⟩:=S.atl n a ds ea e1
  exact⟨a,vs,ds,rfl,SqL.of q,rl,rfl⟩
 next ns=>
  cases hd
  refine list λ{H φ v} S w=>?_
  obtain⟨a,rfl,h⟩:=w
  refine⟨a,_,_,rfl,?_,Rls.of_ints ns,rfl⟩
  rcases h with⟨o,h⟩|h
  ·exact .inl (.inr ⟨o,h⟩)
  ·exact .inr h
 next=>cases hd
end
section
variable {K:qai}{X:Cx}{pins:List (Addr×Obj)}{σ:St}{H:Hp}{s:qaj}{φ:List Addr}{st:Sto}
theorem gu:∀ (xs ys:List D),((qam (min xs.length ys.length)).all (λj=>eqD (xs.getD j .non) (ys.getD j .non))&&xs.length==ys.length)=h9 xs ys
 |[],[]=>rfl
 |[],y::ys=>by simp[h9]
 |x::xs,[]=>by simp[h9]
 |x::xs,y::ys=>by
  show ((qam (min (xs.length+1) (ys.length+1))).all (λj=>eqD ((x::xs).getD j .non) ((y::ys).getD j .non))&&(xs.length+1==ys.length+1))=(eqD x y&&h9 xs ys)
  rw[show min (xs.length+1) (ys.length+1)=min xs.length ys.length+1 by lia,pB,<-gu xs ys]
  have e:(xs.length+1==ys.length+1)=(xs.length==ys.length):=by rw[qdx];simp
  rw[e,Bool.and_assoc]
  rfl
theorem ko {xs ys:List D} (h:xs.length=ys.length):(qam xs.length).all (λj=>eqD (xs.getD j .non) (ys.getD j .non))=h9 xs ys:=by
 rw[<-gu xs ys,<-h,Nat.min_self];simp
theorem tQ:∀ {xs ys:List D},xs.length≠ys.length->h9 xs ys=false
 |[],[],h=>absurd rfl h
 |[],_::_,_=>rfl
 |_::_,[],_=>rfl
 |x::xs,y::ys,h=>by
  show (eqD x y&&h9 xs ys)=false
  rw[tQ (by intro e;apply h;rw[qas,qas,e]),qgV]
theorem Ct (I:Inv X pins σ H s) {a:Addr}{vs ws:List V} (h:Rd H a (.lst vs)) (h':Rd H a (.lst ws)):vs=ws:=I.list_inj (.inl h) (.inl h')
theorem D9 {x:V} (h:gr x=true):eqV x x=true:=by
 cases x<;>first|(cases h;done)|(simp[eqV];done)
theorem yw {d e:D}{v:V} (f1:cQ d=true) (f2:cQ e=true) (r1:Rl K H φ d v) (r2:Rl K H φ e v):eqD d e=true:=by
 obtain⟨e1,g1⟩:=eR f1 r1
 obtain⟨e2,_⟩:=eR f2 r2
 rw[<-nI f1 f2,<-e1,<-e2]
 exact D9 g1
theorem oi {n:Nat}{d e:D}{v:V} (f:cQ d=true) (r1:Rl K H φ d v) (r2:Rl K H φ e v) (o2:okD n e=true):eqD d e=true:=by
 have g1:=(eR f r1).2
 cases e with
 |tup es=>obtain⟨b,us,q,_⟩:=r2;rw[q]at g1;cases g1
 |lst es=>obtain⟨b,us,q,_⟩:=r2;rw[q]at g1;cases g1
 |_=>first|exact yw f rfl r1 r2|(cases n<;>cases o2;done)
theorem vZ (I:Inv X pins σ H s):∀ (n:Nat) {d e:D}{v:V},Rl X.K H φ d v->Rl X.K H φ e v->okD n d=true->okD n e=true->eqD d e=true:=by
 intro n
 induction n with
 |zero=>
  intro d e v r1 r2 o1 o2
  refine oi ?_ r1 r2 o2
  cases d<;>first|rfl|(cases o1;done)
 |succ n ih=>
  have lists:∀ {ds es:List D}{vs:List V},Rls X.K H φ ds vs->Rls X.K H φ es vs->(∀ d∈ds,okD n d=true)->(∀ d∈es,okD n d=true)->h9 ds es=true:=by
   intro ds
   induction ds with
   |nil=>
    intro es vs r1 r2 _ _
    cases r1
    cases es with
    |nil=>rfl
    |cons e es=>obtain⟨_,_,q,_⟩:=r2;cases q
   |cons d ds ihd=>
    intro es vs r1 r2 o1 o2
    obtain⟨v,r,rfl,a1,a2⟩:=r1
    cases es with
    |nil=>cases r2
    |cons e es=>
     obtain⟨v',r',q,b1,b2⟩:=r2
     cases q
     show (eqD d e&&h9 ds es)=true
     rw[ih a1 b1 (o1 d qak) (o2 e qak),ihd a2 b2 (λx hx=>o1 x (qah _ hx)) (λx hx=>o2 x (qah _ hx))]
     rfl
  intro d e v r1 r2 o1 o2
  cases d with
  |tup ds=>
   obtain⟨a,vs,rfl,h1,h2⟩:=r1
   cases e with
   |tup es=>
    obtain⟨b,us,q,h3,h4⟩:=r2
    cases q
    rw[I.tuple_inj (SqT.of h3) (SqT.of h1)]at h4
    exact lists h2 h4 (qaw.mp o1) (qaw.mp o2)
   |lst es=>
    obtain⟨b,us,q,_,h3,h4⟩:=r2
    cases q
    obtain⟨_,_,p1,_⟩:=I.tuple (SqT.of h1)
    obtain⟨_,_,p2,_⟩:=I.list (.inl h3)
    exact absurd rfl (qg9 p2.isList p1)
   |_=>first|(cases o2;done)|(cases r2;done)
  |lst ds=>
   obtain⟨a,vs,rfl,h0,h1,h2⟩:=r1
   cases e with
   |lst es=>
    obtain⟨b,us,q,_,h3,h4⟩:=r2
    cases q
    rw[Ct I h3 h1]at h4
    exact lists h2 h4 (qaw.mp o1) (qaw.mp o2)
   |tup es=>
    obtain⟨b,us,q,h3,h4⟩:=r2
    cases q
    obtain⟨_,_,p1,_⟩:=I.tuple (SqT.of h3)
    obtain⟨_,_,p2,_⟩:=I.list (.inl h1)
    exact absurd rfl (qg9 p2.isList p1)
   |_=>first|(cases o2;done)|(cases r2;done)
  |non=>exact oi rfl r1 r2 o2
  |bl b=>exact oi rfl r1 r2 o2
  |int b=>exact oi rfl r1 r2 o2
  |str b=>exact oi rfl r1 r2 o2
  |ty b=>cases o1
  |scr b=>cases o1
  |dct=>cases o1
theorem fZ {ds:List D}{vs:List V}{us:List Value} (r:Rls K H φ ds vs) (rv:aQ vs us):∀ (j:Nat) (h:j<us.length),∃ v,Rl K H φ (ds.getD j .non) v/\aV v us[j]/\ds.getD j .non∈ds:=by
 intro j h
 obtain⟨h',q⟩:=rv.at j h
 have hd:j<ds.length:=by rw[r.length];exact h'
 have e:ds[j]?=some ds[j]:=qaD hd
 obtain⟨v,ev,rl⟩:=r.get e
 rw[qaD h']at ev
 cases ev
 refine⟨_,?_,q,?_⟩
 ·rw[qhC,e];exact rl
 ·rw[qhC,e];exact qcU hd
theorem C6 (I:Inv X pins σ H s):∀ (n:Nat) {A:qbc}{d e:D}{v u:V}{vv uu:Value},Rl X.K H φ d v->Rl X.K H φ e u->aV v vv->aV u uu->okD n d=true->okD n e=true->A.units+n<cLine->qeu A s vv uu (eqD d e):=by
 have flat:∀ {A:qbc}{d e:D}{v u:V}{vv uu:Value},cQ d=true->cQ e=true->Rl X.K H φ d v->Rl X.K H φ e u->aV v vv->aV u uu->qeu A s vv uu (eqD d e):=by
  intro A d e v u vv uu f1 f2 r1 r2 q1 q2
  obtain⟨e1,g1⟩:=eR f1 r1
  obtain⟨e2,g2⟩:=eR f2 r2
  rw[<-nI f1 f2,<-e1,<-e2]
  exact vG q1 q2 g1 g2
 intro n
 induction n with
 |zero=>
  intro A d e v u vv uu r1 r2 q1 q2 o1 o2 hu
  refine flat ?_ ?_ r1 r2 q1 q2
  ·cases d<;>first|rfl|cases o1
  ·cases e<;>first|rfl|cases o2
 |succ n ih=>
  intro A d e v u vv uu r1 r2 q1 q2 o1 o2 hu
  have hu0:A.units<cLine:=by lia
  have hu1:A.in1.units+n<cLine:=by show A.units+1+n<cLine;lia
  cases d with
  |tup ds=>
   obtain⟨a,vs,rfl,h1,h2⟩:=r1
   cases q1
   obtain⟨its,rv,p1,_⟩:=I.tuple (SqT.of h1)
   cases e with
   |tup es=>
    obtain⟨b,us,rfl,h3,h4⟩:=id r2
    cases q2
    by_cases hab:a=b
    ·subst hab
     rw[vZ I (n+1) (d:=.tup ds) ⟨a,vs,rfl,h1,h2⟩ r2 o1 o2]
     exact qfJ _
    ·obtain⟨its2,rv2,p2,_⟩:=I.tuple (SqT.of h3)
     have z:=qe9 (A:=A) (e:=λj=>eqD (ds.getD j .non) (es.getD j .non)) p1 p2 hu0 λj g1 g2=>by
      obtain⟨v1,k1,k2,k3⟩:=fZ h2 rv j (by simpa using g1)
      obtain⟨v2,k4,k5,k6⟩:=fZ h4 rv2 j (by simpa using g2)
      exact ih k1 k4 (by simpa using k2) (by simpa using k5) (qaw.mp o1 _ k3) (qaw.mp o2 _ k6) hu1
     have e1:its.toArray.size=ds.length:=by simp[<-rv.length,h2.length]
     have e2:its2.toArray.size=es.length:=by simp[<-rv2.length,h4.length]
     rw[e1,e2,gu]at z
     exact qeQ hab z
   |lst es=>
    obtain⟨b,us,rfl,_,h3,h4⟩:=id r2
    cases q2
    obtain⟨its2,rv2,p2,_⟩:=I.list (.inl h3)
    exact qlS p1 p2.isList hu0
   |non=>cases r2;cases q2;exact qlR p1 hu0
   |bl x=>cases r2;cases q2;exact qlU x p1 hu0
   |int x=>cases r2;obtain⟨t,rfl⟩:=q2;exact qlT x t p1 hu0
   |str x=>cases r2;obtain⟨t,rfl⟩:=q2;exact qlQ x t p1 hu0
   |ty _=>cases o2
   |scr _=>cases o2
   |dct=>cases o2
  |lst ds=>
   obtain⟨a,vs,rfl,h0,h1,h2⟩:=r1
   cases q1
   obtain⟨its,rv,p1,_⟩:=I.list (.inl h1)
   cases e with
   |lst es=>
    obtain⟨b,us,rfl,_,h3,h4⟩:=id r2
    cases q2
    by_cases hab:a=b
    ·subst hab
     rw[vZ I (n+1) (d:=.lst ds) ⟨a,vs,rfl,h0,h1,h2⟩ r2 o1 o2]
     exact qfJ _
    ·obtain⟨its2,rv2,p2,_⟩:=I.list (.inl h3)
     have e1:its.toArray.size=ds.length:=by simp[<-rv.length,h2.length]
     have e2:its2.toArray.size=es.length:=by simp[<-rv2.length,h4.length]
     by_cases hl:ds.length=es.length
     ·have z:=qhn (A:=A) (e:=λj=>eqD (ds.getD j .non) (es.getD j .non)) p1.isList p2.isList (by rw[e1,e2,hl]) hu0 λj g1 g2=>by
       obtain⟨v1,k1,k2,k3⟩:=fZ h2 rv j (by simpa using g1)
       obtain⟨v2,k4,k5,k6⟩:=fZ h4 rv2 j (by simpa using g2)
       exact ih k1 k4 (by simpa using k2) (by simpa using k5) (qaw.mp o1 _ k3) (qaw.mp o2 _ k6) hu1
      rw[e1,ko hl]at z
      exact qeQ hab z
     ·have z:=qfV (A:=A) p1.isList p2.isList (by rw[e1,e2];simpa using hl) hu0
      show qeu A s _ _ (h9 ds es)
      rw[tQ hl]
      exact qeQ hab z
   |tup es=>
    obtain⟨b,us,rfl,h3,h4⟩:=id r2
    cases q2
    obtain⟨its2,rv2,p2,_⟩:=I.tuple (SqT.of h3)
    exact ql5 p1.isList p2 hu0
   |non=>cases r2;cases q2;exact ql7 p1.isList hu0
   |bl x=>cases r2;cases q2;exact ql9 x p1.isList hu0
   |int x=>cases r2;obtain⟨t,rfl⟩:=q2;exact ql8 x t p1.isList hu0
   |str x=>cases r2;obtain⟨t,rfl⟩:=q2;exact ql6 x t p1.isList hu0
   |ty _=>cases o2
   |scr _=>cases o2
   |dct=>cases o2
  |non=>
   cases r1;cases q1
   cases e with
   |tup es=>obtain⟨b,us,rfl,h3,h4⟩:=r2;cases q2;obtain⟨_,_,p2,_⟩:=I.tuple (SqT.of h3);exact ql0 p2 hu0
   |lst es=>obtain⟨b,us,rfl,_,h3,h4⟩:=r2;cases q2;obtain⟨_,_,p2,_⟩:=I.list (.inl h3);exact ql2 p2.isList hu0
   |_=>first|(cases o2;done)|exact flat rfl rfl (d:=.non) rfl r2 (v:=.non) rfl q2
  |bl x=>
   cases r1;cases q1
   cases e with
   |tup es=>obtain⟨b,us,rfl,h3,h4⟩:=r2;cases q2;obtain⟨_,_,p2,_⟩:=I.tuple (SqT.of h3);exact qmf x p2 hu0
   |lst es=>obtain⟨b,us,rfl,_,h3,h4⟩:=r2;cases q2;obtain⟨_,_,p2,_⟩:=I.list (.inl h3);exact qmi x p2.isList hu0
   |_=>first|(cases o2;done)|exact flat rfl rfl (d:=.bl x) rfl r2 (v:=.bl x) rfl q2
  |int x=>
   cases r1;obtain⟨t1,rfl⟩:=q1
   cases e with
   |tup es=>obtain⟨b,us,rfl,h3,h4⟩:=r2;cases q2;obtain⟨_,_,p2,_⟩:=I.tuple (SqT.of h3);exact qma x t1 p2 hu0
   |lst es=>obtain⟨b,us,rfl,_,h3,h4⟩:=r2;cases q2;obtain⟨_,_,p2,_⟩:=I.list (.inl h3);exact qmc x t1 p2.isList hu0
   |_=>first|(cases o2;done)|exact flat rfl rfl (d:=.int x) rfl r2 (v:=.int x) ⟨t1,rfl⟩ q2
  |str x=>
   cases r1;obtain⟨t1,rfl⟩:=q1
   cases e with
   |tup es=>obtain⟨b,us,rfl,h3,h4⟩:=r2;cases q2;obtain⟨_,_,p2,_⟩:=I.tuple (SqT.of h3);exact qlV x t1 p2 hu0
   |lst es=>obtain⟨b,us,rfl,_,h3,h4⟩:=r2;cases q2;obtain⟨_,_,p2,_⟩:=I.list (.inl h3);exact qlY x t1 p2.isList hu0
   |_=>first|(cases o2;done)|exact flat rfl rfl (d:=.str x) rfl r2 (v:=.str x) ⟨t1,rfl⟩ q2
  |ty _=>cases o1
  |scr _=>cases o1
  |dct=>cases o1
theorem Em {A:qbc}{y x:V}{u v:Value} (ry:aV y u) (rx:aV x v) (fy:gr y=true) (fx:gr x=true):qkF A s u v (eqV y x):=by
 cases y with
 |non=>
  cases ry
  cases x with
  |non=>cases rx;exact qlv
  |bl b=>cases rx;exact qly b
  |int b=>obtain⟨t,rfl⟩:=rx;exact qlx b t
  |str b=>obtain⟨t,rfl⟩:=rx;exact qlu b t
  |_=>cases fx
 |bl a=>
  cases ry
  cases x with
  |non=>cases rx;exact qlM a
  |bl b=>cases rx;exact qlP a b
  |int b=>obtain⟨t,rfl⟩:=rx;exact qlO a b t
  |str b=>obtain⟨t,rfl⟩:=rx;exact qlL a b t
  |_=>cases fx
 |int a=>
  obtain⟨t',rfl⟩:=ry
  cases x with
  |non=>cases rx;exact qlG a t'
  |bl b=>cases rx;exact qlJ a t' b
  |int b=>obtain⟨t,rfl⟩:=rx;exact qlI a t' b t
  |str b=>obtain⟨t,rfl⟩:=rx;exact qlF a t' b t
  |_=>cases fx
 |str a=>
  obtain⟨t',rfl⟩:=ry
  cases x with
  |non=>cases rx;exact qlp a t'
  |bl b=>cases rx;exact qls a t' b
  |int b=>obtain⟨t,rfl⟩:=rx;exact qlr a t' b t
  |str b=>obtain⟨t,rfl⟩:=rx;exact qlo a t' b t
  |_=>cases fx
 |_=>cases fy
theorem yP {A:qbc}{y x:V}{u v:Value} (ry:aV y u) (rx:aV x v) (fy:gr y=true) (fx:gr x=true):qjq A s u v (!eqV y x):=by
 cases y with
 |non=>
  cases ry
  cases x with
  |non=>cases rx;exact qki
  |bl b=>cases rx;exact qkl b
  |int b=>obtain⟨t,rfl⟩:=rx;exact qkk b t
  |str b=>obtain⟨t,rfl⟩:=rx;exact qkh b t
  |_=>cases fx
 |bl a=>
  cases ry
  cases x with
  |non=>cases rx;exact qkB a
  |bl b=>cases rx;exact qkE a b
  |int b=>obtain⟨t,rfl⟩:=rx;exact qkD a b t
  |str b=>obtain⟨t,rfl⟩:=rx;exact qkA a b t
  |_=>cases fx
 |int a=>
  obtain⟨t',rfl⟩:=ry
  cases x with
  |non=>cases rx;exact qkv a t'
  |bl b=>cases rx;exact qky a t' b
  |int b=>obtain⟨t,rfl⟩:=rx;exact qkx a t' b t
  |str b=>obtain⟨t,rfl⟩:=rx;exact qku a t' b t
  |_=>cases fx
 |str a=>
  obtain⟨t',rfl⟩:=ry
  cases x with
  |non=>cases rx;exact qkc a t'
  |bl b=>cases rx;exact qkf a t' b
  |int b=>obtain⟨t,rfl⟩:=rx;exact qke a t' b t
  |str b=>obtain⟨t,rfl⟩:=rx;exact qkb a t' b t
  |_=>cases fx
 |_=>cases fy
inductive Kin where
 |fl (d:D)|tp (ds:List D)|ls (ds:List D)
def kj (st:Sto):W->Option Kin
 |.d (.tup ds)=>some (.tp ds)
 |.d (.lst ds)=>some (.ls ds)
 |.h n=>(lg st n).map .ls
 |.d .non=>some (.fl .non)
 |.d (.bl b)=>some (.fl (.bl b))
 |.d (.int i)=>some (.fl (.int i))
 |.d (.str x)=>some (.fl (.str x))
 |_=>none
def eqK:Kin->Kin->Option Bool
 |.fl a,.fl b=>some (eqD a b)
 |.tp as,.tp bs=>if (as.isEmpty||bs.isEmpty)=true then some (as.isEmpty&&bs.isEmpty) else if as.all (okD 60)=true/\bs.all (okD 60)=true then some (h9 as bs) else none
 |.ls as,.ls bs=>if as.length=bs.length then (if as.all (okD 60)=true/\bs.all (okD 60)=true then some (h9 as bs) else none) else some false
 |.fl _,.tp _=>some false
 |.tp _,.fl _=>some false
 |.fl _,.ls _=>some false
 |.ls _,.fl _=>some false
 |.tp _,.ls _=>some false
 |.ls _,.tp _=>some false
def dEq (st:Sto) (x y:W):Option D:=(kj st x).bind λa=>(kj st y).bind λb=>(eqK a b).map λk=>.bl k
def dNe (st:Sto) (x y:W):Option D:=(kj st x).bind λa=>(kj st y).bind λb=>(eqK a b).map λk=>.bl (!k)
def DK (K:qai) (H:Hp) (φ:List Addr):Kin->V->Prop
 |.fl d,v=>cQ d=true/\Rl K H φ d v
 |.tp ds,v=>∃ a vs,v=.ref a/\SqT K H a vs/\Rls K H φ ds vs
 |.ls ds,v=>∃ a vs,v=.ref a/\Rd H a (.lst vs)/\Rls K H φ ds vs
theorem nR {w:W}{v:V}{k:Kin} (S:Sr K H φ st) (r:Rw K H φ w v) (e:kj st w=some k):DK K H φ k v:=by
 cases w with
 |h n=>
  obtain⟨a,ea,rfl⟩:=r
  obtain⟨ds,e1,rfl⟩:=qaf.mp e
  obtain⟨vs,q,rl⟩:=S.atl n a ds ea e1
  exact⟨a,vs,rfl,.inl q,rl⟩
 |d x=>
  cases x with
  |tup es=>cases e;obtain⟨a,vs,rfl,h1,h2⟩:=r;exact⟨a,vs,rfl,SqT.of h1,h2⟩
  |lst es=>cases e;obtain⟨a,vs,rfl,h0,h1,h2⟩:=r;exact⟨a,vs,rfl,h1,h2⟩
  |non=>cases e;exact⟨rfl,r⟩
  |bl b=>cases e;exact⟨rfl,r⟩
  |int b=>cases e;exact⟨rfl,r⟩
  |str b=>cases e;exact⟨rfl,r⟩
  |_=>cases e
theorem DC {A:qbc}{k:Nat} (hr:cZ k A):A.in1.units+60<cLine:=by
 have:=hr.un
 show A.units+1+60<cLine
 lia
theorem yW {k:Nat} (hr:cZ k X.A) (I:Inv X pins σ H s) {a b:Kin}{v u:V}{vv uu:Value}{r:Bool} (ra:DK X.K H φ a v) (rb:DK X.K H φ b u) (qa:aV v vv) (qb:aV u uu) (e:eqK a b=some r) :
  qkF X.A s vv uu r/\qjq X.A s vv uu (!r):=by
 have hu0:=hr.units0
 have items:∀ {ds es:List D}{vs us:List V}{its its2:List Value},Rls X.K H φ ds vs->Rls X.K H φ es us->aQ vs its->aQ us its2->ds.all (okD 60)=true->es.all (okD 60)=true->
   ∀ j (g1:j<its.toArray.size) (g2:j<its2.toArray.size),qeu X.A.in1 s its.toArray[j] its2.toArray[j] (eqD (ds.getD j .non) (es.getD j .non)):=by
  intro ds es vs us its its2 h2 h4 rv rv2 o1 o2 j g1 g2
  obtain⟨v1,k1,k2,k3⟩:=fZ h2 rv j (by simpa using g1)
  obtain⟨v2,k4,k5,k6⟩:=fZ h4 rv2 j (by simpa using g2)
  exact C6 I 60 k1 k4 (by simpa using k2) (by simpa using k5) (qaw.mp o1 _ k3) (qaw.mp o2 _ k6) (DC hr)
 match a,b,e with
 |.fl d,.fl d',e=>
  cases e
  obtain⟨f1,r1⟩:=ra
  obtain⟨f2,r2⟩:=rb
  obtain⟨e1,g1⟩:=eR f1 r1
  obtain⟨e2,g2⟩:=eR f2 r2
  rw[<-nI f1 f2,<-e1,<-e2]
  exact⟨Em qa qb g1 g2,yP qa qb g1 g2⟩
 |.tp ds,.tp es,e=>
  simp only[eqK]at e
  obtain⟨a,vs,rfl,h1,h2⟩:=ra
  obtain⟨b,us,rfl,h3,h4⟩:=rb
  cases qa;cases qb
  obtain⟨its,rv,p1,_⟩:=I.tuple h1
  obtain⟨its2,rv2,p2,_⟩:=I.tuple h3
  have e1:its.toArray.size=ds.length:=by simp[<-rv.length,h2.length]
  have e2:its2.toArray.size=es.length:=by simp[<-rv2.length,h4.length]
  split at e
  ·rename_i hc
   cases e
   have hv:∀ j (g1:j<its.toArray.size) (g2:j<its2.toArray.size),qeu X.A.in1 s its.toArray[j] its2.toArray[j] (eqD (ds.getD j .non) (es.getD j .non)):=λj g1 g2=>by
    rw[e1]at g1
    rw[e2]at g2
    rw[qdw]at hc
    rcases hc with hc|hc
    ·rw[qiP.mp hc]at g1;exact absurd g1 (qd6 _)
    ·rw[qiP.mp hc]at g2;exact absurd g2 (qd6 _)
   have z:=qe9 (A:=X.A) p1 p2 hu0 hv
   have z':=qgp (A:=X.A) p1 p2 hu0 hv
   rw[e1,e2,gu]at z z'
   have e3:h9 ds es=(ds.isEmpty&&es.isEmpty):=by
    cases ds with
    |nil=>cases es<;>rfl
    |cons _ _=>cases es with
     |nil=>rfl
     |cons _ _=>cases hc
   rw[e3]at z z'
   exact⟨z,z'⟩
  ·split at e
   ·rename_i hc
    cases e
    have z:=qe9 (A:=X.A) p1 p2 hu0 (items h2 h4 rv rv2 hc.1 hc.2)
    have z':=qgp (A:=X.A) p1 p2 hu0 (items h2 h4 rv rv2 hc.1 hc.2)
    rw[e1,e2,gu]at z z'
    exact⟨z,z'⟩
   ·cases e
 |.ls ds,.ls es,e=>
  simp only[eqK]at e
  obtain⟨a,vs,rfl,h1,h2⟩:=ra
  obtain⟨b,us,rfl,h3,h4⟩:=rb
  cases qa;cases qb
  obtain⟨its,rv,p1,_⟩:=I.list (.inl h1)
  obtain⟨its2,rv2,p2,_⟩:=I.list (.inl h3)
  have e1:its.toArray.size=ds.length:=by simp[<-rv.length,h2.length]
  have e2:its2.toArray.size=es.length:=by simp[<-rv2.length,h4.length]
  split at e
  ·rename_i hl
   split at e
   ·rename_i hc
    cases e
    have z:=qhn (A:=X.A) p1.isList p2.isList (by rw[e1,e2,hl]) hu0 (items h2 h4 rv rv2 hc.1 hc.2)
    have z':=qkn (A:=X.A) p1.isList p2.isList (by rw[e1,e2,hl]) hu0 (items h2 h4 rv rv2 hc.1 hc.2)
    rw[e1,ko hl]at z z'
    exact⟨z,z'⟩
   ·cases e
  ·rename_i hl
   cases e
   have z:=qfV (A:=X.A) p1.isList p2.isList (by rw[e1,e2];simpa using hl) hu0
   have z':=qkm (A:=X.A) p1.isList p2.isList (by rw[e1,e2];simpa using hl) hu0
   exact⟨z,z'⟩
 |.fl d,.tp es,e=>
  cases e
  obtain⟨f1,r1⟩:=ra
  obtain⟨b,us,rfl,h3,h4⟩:=rb
  cases qb
  obtain⟨its2,rv2,p2,_⟩:=I.tuple h3
  cases d with
  |non=>cases r1;cases qa;exact⟨qlt p2 hu0,qkg p2 hu0⟩
  |bl x=>cases r1;cases qa;exact⟨qlK x p2 hu0,qkz x p2 hu0⟩
  |int x=>cases r1;obtain⟨t,rfl⟩:=qa;exact⟨qlE x t p2 hu0,qkt x t p2 hu0⟩
  |str x=>cases r1;obtain⟨t,rfl⟩:=qa;exact⟨qln x t p2 hu0,qka x t p2 hu0⟩
  |_=>cases f1
 |.tp es,.fl d,e=>
  cases e
  obtain⟨f1,r1⟩:=rb
  obtain⟨b,us,rfl,h3,h4⟩:=ra
  cases qa
  obtain⟨its2,rv2,p2,_⟩:=I.tuple h3
  cases d with
  |non=>cases r1;cases qb;exact⟨qlj p2 hu0,qj6 p2 hu0⟩
  |bl x=>cases r1;cases qb;exact⟨qlm x p2 hu0,qj9 x p2 hu0⟩
  |int x=>cases r1;obtain⟨t,rfl⟩:=qb;exact⟨qll x t p2 hu0,qj8 x t p2 hu0⟩
  |str x=>cases r1;obtain⟨t,rfl⟩:=qb;exact⟨qli x t p2 hu0,qj5 x t p2 hu0⟩
  |_=>cases f1
 |.fl d,.ls es,e=>
  cases e
  obtain⟨f1,r1⟩:=ra
  obtain⟨b,us,rfl,h3,h4⟩:=rb
  cases qb
  obtain⟨its2,rv2,p2,_⟩:=I.list (.inl h3)
  replace p2:=p2.isList
  cases d with
  |non=>cases r1;cases qa;exact⟨qlw p2 hu0,qkj p2 hu0⟩
  |bl x=>cases r1;cases qa;exact⟨qlN x p2 hu0,qkC x p2 hu0⟩
  |int x=>cases r1;obtain⟨t,rfl⟩:=qa;exact⟨qlH x t p2 hu0,qkw x t p2 hu0⟩
  |str x=>cases r1;obtain⟨t,rfl⟩:=qa;exact⟨qlq x t p2 hu0,qkd x t p2 hu0⟩
  |_=>cases f1
 |.ls es,.fl d,e=>
  cases e
  obtain⟨f1,r1⟩:=rb
  obtain⟨b,us,rfl,h3,h4⟩:=ra
  cases qa
  obtain⟨its2,rv2,p2,_⟩:=I.list (.inl h3)
  replace p2:=p2.isList
  cases d with
  |non=>cases r1;cases qb;exact⟨qlB p2 hu0,qkq p2 hu0⟩
  |bl x=>cases r1;cases qb;exact⟨qlD x p2 hu0,qks x p2 hu0⟩
  |int x=>cases r1;obtain⟨t,rfl⟩:=qb;exact⟨qlC x t p2 hu0,qkr x t p2 hu0⟩
  |str x=>cases r1;obtain⟨t,rfl⟩:=qb;exact⟨qlA x t p2 hu0,qkp x t p2 hu0⟩
  |_=>cases f1
 |.tp ds,.ls es,e=>
  cases e
  obtain⟨a,vs,rfl,h1,h2⟩:=ra
  obtain⟨b,us,rfl,h3,h4⟩:=rb
  cases qa;cases qb
  obtain⟨its,rv,p1,_⟩:=I.tuple h1
  obtain⟨its2,rv2,p2,_⟩:=I.list (.inl h3)
  exact⟨qlk p1 p2.isList hu0,qj7 p1 p2.isList hu0⟩
 |.ls ds,.tp es,e=>
  cases e
  obtain⟨a,vs,rfl,h1,h2⟩:=ra
  obtain⟨b,us,rfl,h3,h4⟩:=rb
  cases qa;cases qb
  obtain⟨its,rv,p1,_⟩:=I.list (.inl h1)
  obtain⟨its2,rv2,p2,_⟩:=I.tuple h3
  exact⟨qlz p1.isList p2 hu0,qko p1.isList p2 hu0⟩
theorem gQ {k:Nat} (hr:cZ k X.A) (hK:X.K=K:=by rfl):OpD K X (qcF .Eq) dEq:=by
 subst hK
 refine⟨λst x y d h=>?_⟩
 simp only[dEq,qac,qaf]at h
 obtain⟨a,ha,b,hb,r,e,rfl⟩:=h
 intro pins s σ H vx vy v u Q I rx ry q
 obtain⟨φ,S,r1,r2,q⟩:=q
 exact (yW hr I (nR S r1 ha) (nR S r2 hb) rx ry e).1 _ _ _ _ ⟨.bl r,H,I,rfl,q _ H (bH.refl H) rfl⟩
theorem tL {k:Nat} (hr:cZ k X.A) (hK:X.K=K:=by rfl):OpD K X (qcF .NotEq) dNe:=by
 subst hK
 refine⟨λst x y d h=>?_⟩
 simp only[dNe,qac,qaf]at h
 obtain⟨a,ha,b,hb,r,e,rfl⟩:=h
 intro pins s σ H vx vy v u Q I rx ry q
 obtain⟨φ,S,r1,r2,q⟩:=q
 exact (yW hr I (nR S r1 ha) (nR S r2 hb) rx ry e).2 _ _ _ _ ⟨.bl (!r),H,I,rfl,q _ H (bH.refl H) rfl⟩
end
section
variable {K:qai}{X:Cx}
def bf:List D->Option (List Int)
 |[]=>some []
 |.int i::ds=>(bf ds).map λr=>i::r
 |_=>none
theorem cL:∀ {ds:List D}{ns:List Int},bf ds=some ns->ds=ns.map D.int
 |[],_,h=>by cases h;rfl
 |.int i::ds,_,h=>by
  obtain⟨r,e,rfl⟩:=qaf.mp h
  rw[cL e];rfl
 |.non::_,_,h=>by cases h
 |.bl _::_,_,h=>by cases h
 |.str _::_,_,h=>by cases h
 |.ty _::_,_,h=>by cases h
 |.dct::_,_,h=>by cases h
 |.scr _::_,_,h=>by cases h
 |.tup _::_,_,h=>by cases h
 |.lst _::_,_,h=>by cases h
theorem bC:∀ (ns:List Int),bf (ns.map D.int)=some ns
 |[]=>rfl
 |n::ns=>by rw[qal,bf,bC ns];rfl
def eB (st:Sto):List W->Option D
 |[.d (.str x)]=>if x.length<=1000000 then some (.int x.length) else none
 |[w]=>(kC st w).map λds=>.int ds.length
 |_=>none
def yu (_:Sto):List W->Option D
 |[.d (.int i)]=>some (.int (if i<0 then -i else i))
 |_=>none
def me (_:Sto):List W->Option D
 |[.d (.lst ds)]=>(bf ds).map λns=>.int ns.sum
 |_=>none
def iO (st:Sto):List W->Option D
 |[w]=>(kC st w).map λds=>.tup ds
 |_=>none
def uQ:D->Bool
 |.non=>true
 |.int i=>decide (0<=i)&&decide (i<1024)
 |_=>false
def lA (_:Sto):List W->Option D
 |[.d (.int i)]=>if i.natAbs.log2<1920 then some (.str (toString i)) else none
 |[.d (.tup ds)]=>if ds.all uQ=true/\ds.length<=1000 then some (.str (rS (ds.map vOf))) else none
 |_=>none
theorem eA (hK:X.K=K:=by rfl):mT K X (.builtin "len") eB:=by
 subst hK
 refine⟨λst ws d h=>?_⟩
 have seq:∀ w,(kC st w).map (λds=>D.int ds.length)=some d->cx X (.builtin "len") (rCD X.K st [w] d):=λw h=>by
  obtain⟨ds,e,rfl⟩:=qaf.mp h
  refine sn.imp ?_
  rintro vs H Q ⟨φ,S,⟨v,r,rfl,r1,rfl⟩,q⟩
  obtain⟨a,us,rfl,h1,h2⟩:=rJ S r1 e
  exact⟨a,us,rfl,h1,q _ H (bH.refl H) (by rw[<-h2.length];rfl)⟩
 cases ws with
 |nil=>cases h
 |cons w tl=>
  cases tl with
  |cons _ _=>
   cases w with
   |h n=>cases h
   |d x=>cases x<;>cases h
  |nil=>
   cases w with
   |h n=>exact seq _ h
   |d x=>
    cases x with
    |str x=>
     simp only[eB]at h
     split at h
     ·rename_i hl
      cases h
      refine sv.imp ?_
      rintro vs H Q ⟨φ,S,⟨v,r,rfl,r1,rfl⟩,q⟩
      exact⟨x,by rw[show v=.str x from r1],qaH hl mil,q _ H (bH.refl H) rfl⟩
     ·cases h
    |tup ds=>exact seq _ h
    |lst ds=>exact seq _ h
    |scr ds=>exact seq _ h
    |_=>cases h
theorem yN:mT K X (.builtin "abs") yu:=by
 refine⟨λst ws d h=>?_⟩
 match ws,h with
 |[.d (.int i)],h=>
  cases h
  refine AL.imp ?_
  rintro vs H Q ⟨φ,S,⟨v,r,rfl,r1,rfl⟩,q⟩
  exact⟨i,by rw[show v=.int i from r1],q _ H (bH.refl H) rfl⟩
theorem oj (hc:X.calm=true:=by rfl) (hK:X.K=K:=by rfl):mT K X (.builtin "sum") me:=by
 subst hK
 refine⟨λst ws d h=>?_⟩
 unfold me at h
 split at h
 next ds=>
  obtain⟨ns,e,rfl⟩:=qaf.mp h
  cases cL e
  refine (E1 (K:=X.K) hc rfl).imp ?_
  rintro vs H Q ⟨φ,S,⟨v,r,rfl,⟨a,us,rfl,h0,h1,h2⟩,rfl⟩,q⟩
  cases h2.ints
  exact⟨a,ns,rfl,.inl h1,q _ H (bH.refl H) rfl⟩
 next=>cases h
theorem gh (hK:X.K=K:=by rfl):mT K X (.type "tuple") iO:=by
 subst hK
 refine⟨λst ws d h=>?_⟩
 unfold iO at h
 split at h
 next w=>
  obtain⟨ds,e,rfl⟩:=qaf.mp h
  refine p5.imp ?_
  rintro vs H Q ⟨φ,S,⟨v,r,rfl,r1,rfl⟩,q⟩
  obtain⟨a,us,rfl,h1,h2⟩:=uK S r1 e
  refine⟨a,us,rfl,?_⟩
  rcases h1 with h1|h1
  ·exact .inl ⟨h1,λl hl=>q _ _ (bH.new hl _) ⟨l,us,rfl,bb,h2.fw S (Fw.new hl)⟩⟩
  ·exact .inr ⟨SqT.of h1,q _ H (bH.refl H) ⟨a,us,rfl,h1,h2⟩⟩
 next=>cases h
theorem sO {H:Hp}{φ:List Addr}:∀ {ds:List D}{vs:List V},ds.all uQ=true->Rls K H φ ds vs->vs=ds.map vOf/\∀ y∈vs,gx y
 |[],_,_,h=>by cases h;exact⟨rfl,λ_ h=>nomatch h⟩
 |d::ds,_,h,r=>by
  rw[qbL,qa8]at h
  obtain⟨v,vr,rfl,r1,r2⟩:=r
  obtain⟨e3,e4⟩:=sO h.2 r2
  have hv:v=vOf d/\gx v:=by
   cases d with
   |non=>cases (show v=.non from r1);exact⟨rfl,.inl rfl⟩
   |int i=>
    cases (show v=.int i from r1)
    have:=h.1
    simp[uQ]at this
    exact⟨rfl,.inr ⟨i,rfl,this.1,this.2⟩⟩
   |_=>cases h.1
  refine⟨by rw[hv.1,e3];rfl,λy hy=>?_⟩
  rcases qaC.mp hy with z|z
  ·rw[z];exact hv.2
  ·exact e4 y z
theorem wA {k:Nat} (hr:cZ k X.A) (hK:X.K=K:=by rfl):mT K X (.builtin "repr") lA:=by
 subst hK
 refine⟨λst ws d h=>?_⟩
 match ws,h with
 |[.d (.int i)],h=>
  simp only[lA]at h
  split at h
  ·rename_i hl
   cases h
   refine (zb (K:=X.K) hr rfl).imp ?_
   rintro vs H Q ⟨φ,S,⟨v,r,rfl,r1,rfl⟩,q⟩
   exact .inl ⟨i,by rw[show v=.int i from r1],hl,q _ H (bH.refl H) rfl⟩
  ·cases h
 |[.d (.tup ds)],h=>
  simp only[lA]at h
  split at h
  ·rename_i hl
   cases h
   refine (zb (K:=X.K) hr rfl).imp ?_
   rintro vs H Q ⟨φ,S,⟨v,r,rfl,⟨a,us,rfl,h1,h2⟩,rfl⟩,q⟩
   obtain⟨e1,e2⟩:=sO hl.1 h2
   exact .inr ⟨a,us,rfl,(SqT.of h1),e2,by rw[<-h2.length];exact hl.2,q _ H (bH.refl H) (by rw[e1];rfl)⟩
  ·cases h
variable {e a b:Expr}{es:List Expr}{pos:Pos}{f fa fb:Ef}{af:Af}
def gt (g:List D->List W->Option (D×List D)) (o:Ef) (a:Af):Ef
 |env,st=>(o env st).bind λx=>(a env x.2).bind λr=>match x.1 with
 |.h n=>(lg x.2 n).bind λ_=>(lg r.2 n).bind λds=>(g ds r.1).map λy=>(.d y.1,r.2.set n (.l y.2))
 |_=>none
def gU (ds:List D):List W->Option (D×List D)
 |[.d x]=>if ds.length<1000000 then some (.non,ds++[x]) else none
 |_=>none
theorem vi {name:Str}{id:String}{apos:Pos}{rr:V->List V->Hp->VK->Prop}{g:List D->List W->Option (D×List D)} (slot:Slot "list" name id) (hty:typeOf (.builtin id)=pure (.type "method_descriptor")) (hm:MtR X id rr)
  (hg:∀ (H:Hp) (φ:List Addr) (st:Sto) (n:Nat) (ad:Addr) (ds:List D) (vs:List V) (ws:List W) (us:List V) (y:D×List D) (Q:VK),Sr K H φ st->φ[n]?=some ad->lg st n=some ds->H ad=some (.lst vs)->Rls K H φ ds vs->Rws K H φ ws us->g ds ws=some y->
    (∀ v vs',Rl K H φ y.1 v->Rls K H φ y.2 vs'->(∀ b,v≠.ref b)->Q v (upd H ad (.lst vs')))->rr (.ref ad) us H Q)
  (hfl:∀ ds ws y,g ds ws=some y->cQ y.1=true)
  (ho:IE K X a fa) (ha:IA K X (e::es) af) (hbase:qeh a name X.env (eval a X.env)=eval a X.env:=by rfl)
  (hall:(e::es).all aU=true:=by rfl) (hfl30:(e::es).length<30:=by decide) (hline:(apos.endLine==pos.line)=true:=by rfl) (hK:X.K=K:=by rfl) :
  IE K X (.Call (.Attribute a name apos) (e::es) [] pos) (gt g fa af):=by
 subst hK
 have hall2:aU e=true/\es.all aU=true:=by rw[qbL,qa8]at hall;exact hall
 refine⟨λenv st r hr=>?_⟩
 simp only[gt,qac]at hr
 obtain⟨⟨x,s1⟩,hx,⟨ws,s2⟩,hw,hr⟩:=hr
 cases x with
 |d x=>cases hr
 |h n=>
  simp only[qac,qaf]at hr
  obtain⟨ds1,hds1,ds,hds,y,hy,rfl⟩:=hr
  refine (Ft PySem.F.plainAttrs_list slot hty hm (ho.run _ _ _ hx) (ha.run _ _ _ hw) hbase (zX hall hfl30) hline (bE hall2.1) (dr hall2.2)).imp ?_
  rintro σ H Q ⟨φ,hE,hS,q⟩
  refine⟨φ,hE,hS,λv H1 φ1 f1 S1 w1=>?_⟩
  obtain⟨ad,ea,rfl⟩:=w1
  obtain⟨vs1,hv1,_⟩:=S1.atl n ad _ ea hds1
  refine⟨.inl ⟨rfl,vs1,SqL.of hv1⟩,φ1,hE.fw hS f1,S1,λus H2 φ2 f2 S2 w2=>?_⟩
  have ea2:=f2.get ea
  obtain⟨vs2,hv2,rl2⟩:=S2.atl n ad ds ea2 hds
  refine hg H2 φ2 s2 n ad ds vs2 ws us y _ S2 ea2 hds hv2 rl2 w2 hy λv vs' r1 r2 hb=>?_
  obtain⟨f3,S3⟩:=S2.put ea2 r2
  exact q v _ φ2 ((f1.trans f2).trans f3) S3 (r1.fw S2 f3)
theorem mj {apos:Pos} (ho:IE K X a fa) (ha:IA K X (e::es) af) (hbase:qeh a "append" X.env (eval a X.env)=eval a X.env:=by rfl)
  (hall:(e::es).all aU=true:=by rfl) (hfl30:(e::es).length<30:=by decide) (hline:(apos.endLine==pos.line)=true:=by rfl) (hK:X.K=K:=by rfl) :
  IE K X (.Call (.Attribute a "append" apos) (e::es) [] pos) (gt gU fa af):=by
 refine vi PySem.F.slot_list_append PySem.F.type_list_append xk (λH φ st n ad ds vs ws us y Q S ea eds hv rl rw hy q=>?_) (λds ws y h=>?_) ho ha hbase hall hfl30 hline hK
 ·match ws,hy with
  |[.d x],hy=>
   simp only[gU]at hy
   split at hy
   ·rename_i hl
    cases hy
    obtain⟨v,r,rfl,r1,rfl⟩:=rw
    exact⟨ad,vs,v,rfl,rfl,hv,by rw[<-rl.length];exact qaP hl mil,q _ _ rfl (rl.append ⟨v,[],rfl,r1,rfl⟩) (λb z=>nomatch z)⟩
   ·cases hy
 ·match ws,h with
  |[.d x],h=>
   simp only[gU]at h
   split at h
   ·cases h;rfl
   ·cases h
end
section
variable {K:qai}{X:Cx}{e a b:Expr}{es:List Expr}{pos:Pos}{f fa fb:Ef}{af:Af}
theorem wy {i j:Nat}{x y:Str}{px py pt:Pos}{kt k2 pt2}
  (h:∀ ta,PA X [a,b] ta->PS X (.Assign [.Tuple [.Name x px,.Name y py] kt pt] (.Tuple [a,b] k2 pt2) pos) (FA i j ta)) (ha:IA K X [a,b] af) :
  IS K X (.Assign [.Tuple [.Name x px,.Name y py] kt pt] (.Tuple [a,b] k2 pt2) pos) (ul i j af):=by
 refine⟨λenv st r hr=>?_⟩
 simp only[ul,qac]at hr
 obtain⟨⟨ws,s1⟩,hy,hr⟩:=hr
 match ws,hr with
 |[x,y],hr=>
  cases hr
  refine (h _ (ha.run _ _ _ hy)).imp ?_
  rintro D σ H ⟨φ,hE,hS,q⟩
  refine⟨φ,hE,hS,λvs H1 φ1 f1 s1 w1=>?_⟩
  obtain⟨v,r,rfl,r1,u,r',rfl,r2,r3⟩:=w1
  cases r3
  exact⟨v,u,rfl,q _ H1 φ1 f1 (((hE.fw hS f1).set i r1).set j r2) s1⟩
def vo (x:Int):List Int->List Int
 |[]=>[x]
 |y::ys=>if x<=y then x::y::ys else y::vo x ys
def oB:List Int->List Int
 |[]=>[]
 |x::xs=>vo x (oB xs)
theorem mC (x:Int):∀ ys,(vo x ys).Perm (x::ys)
 |[]=>qcv _
 |y::ys=>by
  unfold vo
  split
  ·exact qcv _
  ·exact (List.Perm.cons y (mC x ys)).trans (List.Perm.swap x y ys)
theorem mL:∀ xs,(oB xs).Perm xs
 |[]=>qcv _
 |x::xs=>(mC x _).trans (List.Perm.cons x (mL xs))
theorem mV (x:Int):∀ {ys:List Int},ys.Pairwise (·<=·)->(vo x ys).Pairwise (·<=·)
 |[],_=>by simp[vo]
 |y::ys,h=>by
  unfold vo
  split
  ·rename_i hxy
   refine qbx.mpr ⟨λz hz=>?_,h⟩
   rcases qaC.mp hz with rfl|hz
   ·exact hxy
   ·exact qe5 hxy ((qbx.mp h).1 z hz)
  ·rename_i hxy
   refine qbx.mpr ⟨λz hz=>?_,mV x (qbx.mp h).2⟩
   rcases qaC.mp ((mC x ys).mem_iff.mp hz) with rfl|hz
   ·lia
   ·exact (qbx.mp h).1 z hz
theorem kh:∀ xs,(oB xs).Pairwise (·<=·)
 |[]=>List.Pairwise.nil
 |x::xs=>mV x (kh xs)
theorem mK {xs ys:List Int} (p:xs.Perm ys) (h1:xs.Pairwise (·<=·)) (h2:ys.Pairwise (·<=·)):xs=ys:=
 qd7 (λa b _ _ h1 h2=>qje h1 h2) h1 h2 p
theorem iQ:∀ {ns:List Int}{us:List Value},qcT us ns->aQ (ns.map V.int) us
 |_,_,.nil=>.nil
 |_,_,.cons n t h=>.cons ⟨t,rfl⟩ (iQ h)
theorem Ch {H:Hp}{ad:Addr}{ns:List Int}{m:Fn} (hO:Cp H) (hS:SqL K H ad (ns.map V.int)) (h:∃ st,m [.d (.scr ns)] []=some (.d (.bl true),st)):spI K m [.ref ad] H (λv _=>v=.bl true) λ_ _ _=>False:=by
 obtain⟨st,h⟩:=h
 refine⟨[],[],[.d (.scr ns)],_,h,⟨_,[],rfl,⟨ad,rfl,?_⟩,rfl⟩,⟨qgN,rfl,λn a ds e=>by simp at e⟩,λv H' φ' _ _ r=>r⟩
 rcases hS with (h|h)|h
 ·rcases hO ad with z|⟨o,xs,z⟩
  ·rw[h]at z;cases z
  ·rw[h]at z;cases z
 ·exact .inl h
 ·exact .inr h
end
end L2
namespace L2
open PySem
theorem bS {g:Tg}{body:Sf}:∀ {ds:List D} (Pv:Nat->Ev->Sto->Prop) {env:Ev}{st:Sto},Pv 0 env st->
  (∀ i d env st,ds[i]?=some d->Pv i env st->∃ e1 e2 s2,fV g (.d d) env=some e1/\(body e1 st=some (.nx e2 s2)\/body e1 st=some (.ct e2 s2))/\Pv (i+1) e2 s2)->
  ∃ env' st',mh g body ds env st=some (.nx env' st')/\Pv ds.length env' st'
 |[],Pv,env,st,h0,_=>⟨env,st,rfl,h0⟩
 |d::ds,Pv,env,st,h0,hs=>by
  obtain⟨e1,e2,s2,h1,h2,h3⟩:=hs 0 d env st rfl h0
  obtain⟨e',s',h4,h5⟩:=bS (g:=g) (body:=body) (ds:=ds) (λi=>Pv (i+1)) h3 λi d' env' st' hd p=>hs (i+1) d' env' st' (by simpa using hd) p
  refine⟨e',s',?_,h5⟩
  unfold mh
  rw[h1,qad]
  rcases h2 with h2|h2<;>(rw[h2,qad];exact h4)
theorem nH {g:Tg}{tt:Tf}{te:Ef}{env:Ev}:∀ {ds:List D} (Pv:Nat->List D->Sto->Prop) {st:Sto}{ys0:List D},Pv 0 ys0 st->
  (∀ i d ys st,ds[i]?=some d->Pv i ys st->∃ e1,fV g (.d d) env=some e1/\((∃ s1 x s2,tt e1 st=some (true,s1)/\te e1 s1=some (.d x,s2)/\Pv (i+1) (ys++[x]) s2)\/∃ s1,tt e1 st=some (false,s1)/\Pv (i+1) ys s1))->
  ∃ ys st',lcI g tt te env ds st=some (ys,st')/\Pv ds.length (ys0++ys) st'
 |[],Pv,st,ys0,h0,_=>⟨[],st,rfl,by rw[qc4];exact h0⟩
 |d::ds,Pv,st,ys0,h0,hs=>by
  obtain⟨e1,h1,h2⟩:=hs 0 d ys0 st rfl h0
  rcases h2 with⟨s1,x,s2,h2,h3,h4⟩|⟨s1,h2,h4⟩
  ·obtain⟨ys,s',h5,h6⟩:=nH (g:=g) (tt:=tt) (te:=te) (env:=env) (ds:=ds) (λi=>Pv (i+1)) h4 λi d' ys' st' hd p=>hs (i+1) d' ys' st' (by simpa using hd) p
   refine⟨x::ys,s',?_,by simpa using h6⟩
   unfold lcI
   rw[h1,qad,h2,qad,if_pos rfl,h3,qad,h5]
   rfl
  ·obtain⟨ys,s',h5,h6⟩:=nH (g:=g) (tt:=tt) (te:=te) (env:=env) (ds:=ds) (λi=>Pv (i+1)) h4 λi d' ys' st' hd p=>hs (i+1) d' ys' st' (by simpa using hd) p
   refine⟨ys,s',?_,by simpa using h6⟩
   unfold lcI
   rw[h1,qad,h2,qad,if_neg qaq,h5]
theorem dm {g:Tg}{tt:Tf}{te:Ef}{env:Ev}{st:Sto} (p:D->Bool) (F:D->D):∀ {ds:List D},(∀ d∈ds,∃ e1,fV g (.d d) env=some e1/\tt e1 st=some (p d,st)/\(p d=true->te e1 st=some (.d (F d),st)))->
  lcI g tt te env ds st=some ((ds.filter p).map F,st)
 |[],_=>rfl
 |d::ds,h=>by
  obtain⟨e1,h1,h2,h3⟩:=h d qak
  have ih:=dm (g:=g) (tt:=tt) (te:=te) (env:=env) (st:=st) p F (ds:=ds) λx hx=>h x (qah _ hx)
  unfold lcI
  rw[h1,qad,h2,qad]
  cases hp:p d with
  |true=>rw[if_pos rfl,h3 hp,qad,ih,qcy,hp];rfl
  |false=>rw[if_neg qaq,ih,qcy,hp];rfl
theorem lc {g:Tg}{te:Ef}{env:Ev}{st:Sto} (F:D->D) {ds:List D} (h:∀ d∈ds,∃ e1,fV g (.d d) env=some e1/\te e1 st=some (.d (F d),st)):lcI g bB te env ds st=some (ds.map F,st):=by
 have:=dm (g:=g) (tt:=bB) (te:=te) (env:=env) (st:=st) (λ_=>true) F (ds:=ds) λd hd=>by
  obtain⟨e1,h1,h2⟩:=h d hd
  exact⟨e1,h1,rfl,λ_=>h2⟩
 rw[this,qfm.mpr λ_ _=>rfl]
theorem kY {a b:Int} (h:-(2^64)<a/\a<2^64):qbF a b:=BD.ok (.inl h)
theorem fW {a b:Int} (h:-(2^64)<b/\b<2^64):qbF a b:=BD.ok (.inr h)
theorem xh {α:Type} (a:α) (l:List α):atI (a::l) 0=some a:=iW (j:=0) rfl
theorem EQ {α:Type} (a b:α) (l:List α):atI (a::b::l) 1=some b:=iW (j:=1) rfl
theorem Gr {α:Type} (a b c:α) (l:List α):atI (a::b::c::l) 2=some c:=iW (j:=2) rfl
theorem Fo (n:Nat):ixN (n+1) 0=some 0:=we (j:=0) (by lia)
theorem Gz (n:Nat):ixN (n+3) 2=some 2:=we (j:=2) (by lia)
theorem fF {n i:Nat}{d:D} (h:(eZ 0 n)[i]?=some d):d=.int (i:Int)/\i<n:=by
 rw[sY]at h
 by_cases hi:i<n
 ·rw[if_pos hi]at h
  cases h
  exact⟨by rw[qcp],hi⟩
 ·rw[if_neg hi]at h;cases h
end L2
namespace L2
open PySem PySem.Spec PyProof.Rows
def Fc:Nat->Nat->StateT qbk Sem (Option Nat):=sortPriv% PySem.Builtin.countRun
def Ei:Nat->Nat->Nat->StateT qbk Sem Bool:=sortPriv% PySem.Builtin.binarySort
def rq:Bool->Keyed->Array Keyed->Nat->Nat->Nat->StateT qbk Sem (Option Nat):=sortPriv% PySem.Builtin.gallop
def Fj:Array Keyed->Array Keyed->StateT qbk Sem (Array Keyed):=sortPriv% PySem.Builtin.mergeLo
def FK:Array Keyed->Array Keyed->StateT qbk Sem (Array Keyed):=sortPriv% PySem.Builtin.mergeHi
def CK:Nat->StateT qbk Sem Bool:=sortPriv% PySem.Builtin.mergeAt
abbrev Ex (st:qbk) (g:Nat):qbk:=qbI (kindOf st) (arrOf st) (qbs st) g (qb6 st)
def Cm (prog:qaX) (w:World) (A:qbc) (s:qaj) (κ:qdi) (O:qec) (rk:Keyed->O.α) (S:Keyed->Prop):Prop:=
 ∀ x y,S x->S y->∀ (Q:Bool->qaj->Prop) (E:Value->qaj->Prop),Q (O.blt (rk x) (rk y)) s->wpAny (model prog w) A (keyLt' κ x.1 y.1) Q E s
section
variable {prog:qaX}{w:World}{A:qbc}{E:Value->qaj->Prop}{s:qaj}{κ:qdi}{O:qec}{rk:Keyed->O.α}{S:Keyed->Prop}
theorem tV (hC:Cm prog w A s κ O rk S) {x y:Keyed}{st:qbk}{Q:Option Bool->qbk->Prop} (hk:kindOf st=κ) (hx:S x) (hy:S y) (h:Q (some (O.blt (rk x) (rk y))) st) :
  wpS (model prog w) A E s (lt' x y) Q st:=by
 rw[lt'_eq]
 refine qav (qd3 ?_)
 rw[hk]
 exact qav (wpS_lift (qeY (hC x y hx hy _ _ ⟨rfl,qaG h⟩)))
theorem bv {c:Prop} [Decidable c] {M:Model}{A':qbc}{E':Value->qaj->Prop}{s':qaj}{α:Type}{a b:StateT qbk Sem α}{Q:α->qbk->Prop}{st:qbk} (h:c) (k:wpS M A' E' s' a Q st):wpS M A' E' s' (if c then a else b) Q st:=by rw[if_pos h];exact k
theorem bi {c:Prop} [Decidable c] {M:Model}{A':qbc}{E':Value->qaj->Prop}{s':qaj}{α:Type}{a b:StateT qbk Sem α}{Q:α->qbk->Prop}{st:qbk} (h:¬ c) (k:wpS M A' E' s' b Q st):wpS M A' E' s' (if c then a else b) Q st:=by rw[if_neg h];exact k
theorem bw {arr:Array Keyed}{i:Nat}{x:Keyed}{st:qbk}{Q:Keyed->qbk->Prop} (hi:arr[i]?=some x) (h:Q x st):wpS (model prog w) A E s (elem' arr i) Q st:=by
 rw[elem'_eq,hi];exact qaG h
theorem iP {t:String}{st:qbk}{Q:Unit->qbk->Prop} (h:Q () st):wpS (model prog w) A E s (liftM (rule t):StateT qbk Sem Unit) Q st:=wpS_lift (qc2 ⟨rfl,h⟩)
def kyd (arr:Array Keyed) (i:Nat):Keyed:=(arr[i]?).getD (.none,.none)
theorem bj {arr:Array Keyed}{i:Nat} (h:i<arr.size):arr[i]?=some (kyd arr i):=by
 unfold kyd;simp[h]
theorem dL {a b:Array Keyed}{i j:Nat} (h:a[i]?=b[j]?):kyd a i=kyd b j:=by
 unfold kyd;rw[h]
theorem Bt (hC:Cm prog w A s κ O rk S) {i j:Nat}{st:qbk}{Q:Option Bool->qbk->Prop} (hk:kindOf st=κ) (hi:i<(arrOf st).size) (hj:j<(arrOf st).size) (hx:S (kyd (arrOf st) i)) (hy:S (kyd (arrOf st) j))
  (h:Q (some (O.blt (rk (kyd (arrOf st) i)) (rk (kyd (arrOf st) j)))) st):wpS (model prog w) A E s (ltAt' i j) Q st:=by
 rw[ltAt'_eq]
 refine qav (qd3 ?_)
 exact qav (bw (bj hi) (qav (bw (bj hj) (tV hC hk hx hy h))))
structure SB (κ:qdi) (a0:Array Keyed) (lo:Nat) (p0:Array (Nat×Nat×Nat)) (g0:Nat) (st:qbk):Prop where
 perm:(arrOf st).Perm a0
 pre:∀ k,k<lo->(arrOf st)[k]?=a0[k]?
 kind:kindOf st=κ
 fail:qb6 st=none
 pend:qbs st=p0
 gal:qeg st=g0
variable {a0:Array Keyed}{lo:Nat}{p0:Array (Nat×Nat×Nat)}{g0:Nat}{st:qbk}
theorem SB.size (h:SB κ a0 lo p0 g0 st):(arrOf st).size=a0.size:=h.perm.size_eq
theorem SB.mem (h:SB κ a0 lo p0 g0 st) (hS:∀ x∈a0.toList,S x) {i:Nat} (hi:i<a0.size):S (kyd (arrOf st) i):=by
 have hi':i<(arrOf st).size:=by rw[h.size];exact hi
 refine hS _ ((qcw.mp h.perm).mem_iff.mp ?_)
 have e:=bj hi'
 rw[qaJ hi']at e
 rw[<-qaR e]
 exact qgW hi'
theorem SB.set (h:SB κ a0 lo p0 g0 st) {xs:Array Keyed} (hp:xs.Perm (arrOf st)) (hl:∀ k,k<lo->xs[k]?=(arrOf st)[k]?):SB κ a0 lo p0 g0 (qhV st xs):=
 ⟨hp.trans h.perm,λk hk=>(hl k hk).trans (h.pre k hk),h.kind,h.fail,h.pend,h.gal⟩
theorem wG (hC:Cm prog w A s κ O rk S) (hS:∀ x∈a0.toList,S x) (hB:SB κ a0 lo p0 g0 st) {i j:Nat}{Q:Option Bool->qbk->Prop} (hi:i<a0.size) (hj:j<a0.size)
  (h:Q (some (O.blt (rk (kyd (arrOf st) i)) (rk (kyd (arrOf st) j)))) st):wpS (model prog w) A E s (ltAt' i j) Q st:=
 Bt hC hB.kind (by rw[hB.size];exact hi) (by rw[hB.size];exact hj) (hB.mem hS hi) (hB.mem hS hj) h
def Up (rk:Keyed->O.α) (arr:Array Keyed) (lo n:Nat):Prop:=∀ i j,lo<=i->i<=j->j<lo+n->O.kle (rk (kyd arr i)) (rk (kyd arr j))
def i7 (rk:Keyed->O.α) (arr:Array Keyed) (lo n:Nat):Prop:=∀ i j,lo<=i->i<=j->j<lo+n->O.kle (rk (kyd arr j)) (rk (kyd arr i))
theorem kI {xs:Array Keyed}{i j:Nat} (hj:j<=xs.size) (k:Nat):kyd (qgi xs i j ((j - i) / 2)) k=if i<=k/\k<j then kyd xs (i+j - 1 - k) else kyd xs k:=by
 have e:=qi9 (i:=i) hj k
 by_cases h1:i<=k/\k<j
 ·rw[if_pos h1]at e ⊢;exact dL e
 ·rw[if_neg h1]at e ⊢;exact dL e
theorem oP {xs:Array Keyed}{src d:Nat} (hs:src<xs.size) (hd:d<=src) (k:Nat) :
  kyd (bubble xs src d) k=if k=src - d then kyd xs src else if src - d<k/\k<=src then kyd xs (k - 1) else kyd xs k:=by
 have e:=qk4 hs d hd k
 by_cases h1:k=src - d
 ·rw[if_pos h1]at e ⊢;exact dL e
 ·rw[if_neg h1]at e ⊢
  by_cases h2:src - d<k/\k<=src
  ·rw[if_pos h2]at e ⊢;exact dL e
  ·rw[if_neg h2]at e ⊢;exact dL e
theorem SB.rev (hB:SB κ a0 lo p0 g0 st) {i j:Nat} (hi:lo<=i) (hj:j<=a0.size):SB κ a0 lo p0 g0 (qhV st (qgi (arrOf st) i j ((j - i) / 2))):=
 hB.set (mirror_perm _ _ _ _) λk hk=>by
  rw[qi9 (by rw[hB.size];exact hj),if_neg (by lia)]
theorem jd {xs:Array Keyed}{i j:Nat} (hj:j<=xs.size) (he:∀ k,i<=k->k<j->rk (kyd xs k)=rk (kyd xs (j - 1))) (k:Nat):rk (kyd (qgi xs i j ((j - i) / 2)) k)=rk (kyd xs k):=by
 rw[kI hj]
 split
 ·rw[he (i+j - 1 - k) (by lia) (by lia),he k (by lia) (by lia)]
 ·rfl
theorem rZ {i j:Nat}{Q:Unit->qbk->Prop} (h:Q () (qhV st (qgi (arrOf st) i j ((j - i) / 2)))):wpS (model prog w) A E s (reverseSlice' i j) Q st:=by
 rw[reverseSlice'_eq];exact qc1 h
theorem Up.more {arr:Array Keyed}{n:Nat} (h:Up rk arr lo n) (h1:1<=n) (hl:O.kle (rk (kyd arr (lo+n - 1))) (rk (kyd arr (lo+n)))):Up rk arr lo (n+1):=by
 intro i j hi hij hj
 by_cases hjx:j<lo+n
 ·exact h i j hi hij hjx
 ·have hj':j=lo+n:=by lia
  subst hj'
  by_cases hi':i=lo+n
  ·subst hi';exact qcZ _
  ·exact qbt (h i (lo+n - 1) hi (by lia) (by lia)) hl
theorem i7.more {arr:Array Keyed}{n:Nat} (h:i7 rk arr lo n) (h1:1<=n) (hl:O.kle (rk (kyd arr (lo+n))) (rk (kyd arr (lo+n - 1)))):i7 rk arr lo (n+1):=by
 intro i j hi hij hj
 by_cases hjx:j<lo+n
 ·exact h i j hi hij hjx
 ·have hj':j=lo+n:=by lia
  subst hj'
  by_cases hi':i=lo+n
  ·subst hi';exact qcZ _
  ·exact qbt hl (h i (lo+n - 1) hi (by lia) (by lia))
theorem Up.one {arr:Array Keyed}:Up rk arr lo 1:=λi j hi hij hj=>by
 have:i=j:=by lia
 subst this;exact qcZ _
theorem i7.congr {xs ys:Array Keyed}{n:Nat} (h:i7 rk xs lo n) (e:∀ k,rk (kyd ys k)=rk (kyd xs k)):i7 rk ys lo n:=λi j hi hij hj=>by
 rw[e,e];exact h i j hi hij hj
end
section
variable {prog:qaX}{w:World}{A:qbc}{E:Value->qaj->Prop}{s:qaj}{κ:qdi}{O:qec}{rk:Keyed->O.α}{S:Keyed->Prop}
variable {a0:Array Keyed}{lo:Nat}{p0:Array (Nat×Nat×Nat)}{g0:Nat}{st:qbk}
theorem yU {n0 nrem:Nat}{f:Nat->Option (Option Nat)×Nat->StateT qbk Sem (ForInStep (Option (Option Nat)×Nat))}{Q:Option (Option Nat)×Nat->qbk->Prop}
  (hf:∀ x n (Q':ForInStep (Option (Option Nat)×Nat)->qbk->Prop),1<=n->n < nrem->(O.blt (rk (kyd (arrOf st) (lo+n))) (rk (kyd (arrOf st) (lo+n - 1)))=true->Q' (.done (none,n)) st)->
    (O.blt (rk (kyd (arrOf st) (lo+n))) (rk (kyd (arrOf st) (lo+n - 1)))=false->Q' (.yield (none,n+1)) st)->wpS (model prog w) A E s (f x (none,n)) Q' st)
  (h1:1<=n0) (hn:n0<=nrem) (hu:Up rk (arrOf st) lo n0)
  (h:∀ n,n0<=n->n<=nrem->Up rk (arrOf st) lo n->(n=nrem\/O.klt (rk (kyd (arrOf st) (lo+n))) (rk (kyd (arrOf st) (lo+n - 1))))->Q (none,n) st):wpS (model prog w) A E s (forIn [n0:nrem] (none,n0) f) Q st:=by
 refine qbV (I:=λx c st'=>st'=st/\c=(none,x)/\Up rk (arrOf st) lo x) ?_ ?_ ⟨rfl,rfl,hu⟩
 ·rintro x c st' hx hxn ⟨rfl,rfl,hs⟩
  exact hf x x _ (by lia) hxn (λhl=>h x hx (by lia) hs (.inr hl)) λhl=>⟨rfl,rfl,hs.more (by lia) hl⟩
 ·rintro c st' ⟨rfl,rfl,hs⟩
  rw[show max n0 nrem=nrem by lia]at hs ⊢
  exact h nrem hn (qan _) hs (.inl rfl)
def Eqs (rk:Keyed->O.α) (arr:Array Keyed) (lo m q:Nat):Prop:=q+1<=m/\∀ i,lo+m - (q+1)<=i->i<lo+m->rk (kyd arr i)=rk (kyd arr (lo+m - 1))
theorem Bf {n0 nrem:Nat}{f:Nat->Option (Option Nat)×Nat×Nat->StateT qbk Sem (ForInStep (Option (Option Nat)×Nat×Nat))}{Q:Option (Option Nat)×Nat×Nat->qbk->Prop}
  (hf:∀ x n q st' (Q':ForInStep (Option (Option Nat)×Nat×Nat)->qbk->Prop),1<=n->n < nrem->SB κ a0 lo p0 g0 st'->
    (O.blt (rk (kyd (arrOf st') (lo+n))) (rk (kyd (arrOf st') (lo+n - 1)))=true->0<q->Q' (.yield (none,n+1,0)) (qhV st' (qgi (arrOf st') (lo+n - (q+1)) (lo+n) ((lo+n - (lo+n - (q+1))) / 2))))->
    (O.blt (rk (kyd (arrOf st') (lo+n))) (rk (kyd (arrOf st') (lo+n - 1)))=true->q=0->Q' (.yield (none,n+1,0)) st')->
    (O.blt (rk (kyd (arrOf st') (lo+n - 1))) (rk (kyd (arrOf st') (lo+n)))=true->Q' (.done (none,n,q)) st')->
    (O.blt (rk (kyd (arrOf st') (lo+n))) (rk (kyd (arrOf st') (lo+n - 1)))=false->O.blt (rk (kyd (arrOf st') (lo+n - 1))) (rk (kyd (arrOf st') (lo+n)))=false->Q' (.yield (none,n+1,q+1)) st')->
    wpS (model prog w) A E s (f x (none,n,q)) Q' st')
  (h1:1<=n0) (hn:n0<=nrem) (hz:lo+nrem<=a0.size) (hB:SB κ a0 lo p0 g0 st) (hd:i7 rk (arrOf st) lo n0)
  (h:∀ n q st',n0<=n->n<=nrem->SB κ a0 lo p0 g0 st'->i7 rk (arrOf st') lo n->Eqs rk (arrOf st') lo n q->Q (none,n,q) st'):wpS (model prog w) A E s (forIn [n0:nrem] (none,n0,0) f) Q st:=by
 have one:∀ (arr:Array Keyed) m,1<=m->Eqs rk arr lo m 0:=λarr m hm=>⟨by lia,λi h1 h2=>by rw[show i=lo+m - 1 by lia]⟩
 refine qbV (I:=λx c st'=>∃ q,c=(none,x,q)/\SB κ a0 lo p0 g0 st'/\i7 rk (arrOf st') lo x/\Eqs rk (arrOf st') lo x q) ?_ ?_ ⟨0,rfl,hB,hd,one _ _ h1⟩
 ·rintro x c st' hx hxn ⟨q,rfl,hB',hs,he⟩
  have hsz:lo+x<=(arrOf st').size:=by rw[hB'.size];lia
  refine hf x x q st' _ (by lia) hxn hB' (λhl hq=>?_) (λhl hq=>?_) (λhl=>h x q st' hx (by lia) hB' hs he) λhl hl2=>?_
  ·have e:=jd (rk:=rk) (xs:=arrOf st') (i:=lo+x - (q+1)) (j:=lo+x) hsz he.2
   exact⟨0,rfl,hB'.rev (by have:=he.1;lia) (by lia),i7.congr (hs.more (by lia) (qdD hl)) e,one _ _ (by lia)⟩
  ·exact⟨0,rfl,hB',hs.more (by lia) (qdD hl),one _ _ (by lia)⟩
  ·have eq:rk (kyd (arrOf st') (lo+x))=rk (kyd (arrOf st') (lo+x - 1)):=qhE hl2 hl
   refine⟨q+1,rfl,hB',hs.more (by lia) (by rw[eq];exact qcZ _),by have:=he.1;lia,λi h1 h2=>?_⟩
   rw[show lo+(x+1) - 1=lo+x by lia,eq]
   by_cases hi:i=lo+x
   ·rw[hi,eq]
   ·exact he.2 i (by lia) (by lia)
 ·rintro c st' ⟨q,rfl,hB',hs,he⟩
  rw[show max n0 nrem=nrem by lia]at hs he ⊢
  exact h nrem q st' hn (qan _) hB' hs he
theorem EA {m nrem:Nat}{f:Nat->Option (Option Nat)×Nat->StateT qbk Sem (ForInStep (Option (Option Nat)×Nat))}{k:Option (Option Nat)×Nat->StateT qbk Sem (Option Nat)}{Q:Option Nat->qbk->Prop}
  (hB:SB κ a0 lo p0 g0 st) (hd:i7 rk (arrOf st) lo m) (h1:1<=m) (hm:m<=nrem) (hz:lo+nrem<=a0.size)
  (hf:∀ x n (Q':ForInStep (Option (Option Nat)×Nat)->qbk->Prop) st4,SB κ a0 lo p0 g0 st4->1<=n->n < nrem->(O.blt (rk (kyd (arrOf st4) (lo+n))) (rk (kyd (arrOf st4) (lo+n - 1)))=true->Q' (.done (none,n)) st4)->
    (O.blt (rk (kyd (arrOf st4) (lo+n))) (rk (kyd (arrOf st4) (lo+n - 1)))=false->Q' (.yield (none,n+1)) st4)->wpS (model prog w) A E s (f x (none,n)) Q' st4)
  (hk:∀ n st4,SB κ a0 lo p0 g0 st4->1<=n->n<=nrem->Up rk (arrOf st4) lo n->wpS (model prog w) A E s (k (none,n)) Q st4) :
  wpS (model prog w) A E s (do reverseSlice' lo (lo+m);let r <-forIn [m:nrem] (none,m) f;k r) Q st:=by
 refine qav (rZ ?_)
 have hB4:=hB.rev (i:=lo) (j:=lo+m) (qan _) (by lia)
 refine qav (yU (rk:=rk) (lo:=lo) (λx n Q' hn1 hn2 hy hno=>hf x n Q' _ hB4 hn1 hn2 hy hno) h1 hm ?_ λn' hn1' hn2' hu' _=>hk n' _ hB4 (by lia) hn2' hu')
 intro i j hi hij hj
 have hs3:lo+m<=(arrOf st).size:=by rw[hB.size];lia
 show O.kle (rk (kyd (qgi (arrOf st) lo (lo+m) ((lo+m - lo) / 2)) i)) (rk (kyd (qgi (arrOf st) lo (lo+m) ((lo+m - lo) / 2)) j))
 rw[kI hs3,kI hs3,if_pos (by lia),if_pos (by lia)]
 exact hd _ _ (by lia) (by lia) (by lia)
set_option maxHeartbeats 1000000 in
theorem ww (hC:Cm prog w A s κ O rk S) (hS:∀ x∈a0.toList,S x) {nrem:Nat}{Q:Option Nat->qbk->Prop} (hB:SB κ a0 lo p0 g0 st) (h1:1<=nrem) (hz:lo+nrem<=a0.size)
  (h:∀ m st',SB κ a0 lo p0 g0 st'->1<=m->m<=nrem->Up rk (arrOf st') lo m->Q (some m) st'):wpS (model prog w) A E s (Fc lo nrem) Q st:=by
 have asc:∀ st' (_:SB κ a0 lo p0 g0 st') n (Q':Option Bool->qbk->Prop),1<=n->n<nrem->Q' (some (O.blt (rk (kyd (arrOf st') (lo+n))) (rk (kyd (arrOf st') (lo+n - 1))))) st'->
   wpS (model prog w) A E s (ltAt' (lo+n) (lo+n - 1)) Q' st':=λst' hB' n Q' h1 h2 hq=>wG hC hS hB' (by lia) (by lia) hq
 refine qav (yU (rk:=rk) (lo:=lo) (λx n Q' hn1 hn2 hy hno=>?_) (qan 1) h1 Up.one λn hn1 hn2 hu hor=>?_)
 ·refine qav (asc st hB n _ hn1 hn2 ?_)
  cases hl:O.blt (rk (kyd (arrOf st) (lo+n))) (rk (kyd (arrOf st) (lo+n - 1))) with
  |true=>exact qaG (hy hl)
  |false=>exact qaG (hno hl)
 dsimp only
 by_cases hnn:n=nrem
 ·refine bv (by simpa using hnn) ?_
  exact qaG (h n st hB hn1 hn2 hu)
 refine bi (by simpa using hnn) ?_
 have hlt:=hor.resolve_left hnn
 have hn3:n+1<=nrem:=by lia
 have hsz:lo+n<=(arrOf st).size:=by rw[hB.size];lia
 by_cases hgt:n > 1
 case' pos=>
  refine bv hgt ?_
  refine qav (wG hC hS hB (by lia) (by lia) ?_)
  by_cases hrose:O.blt (rk (kyd (arrOf st) lo)) (rk (kyd (arrOf st) (lo+n - 1)))=true
  ·rw[hrose];exact qaG (h n st hB hn1 hn2 hu)
  rw[qeK]at hrose
  rw[hrose]
  have hall:∀ k,lo<=k->k<lo+n->rk (kyd (arrOf st) k)=rk (kyd (arrOf st) (lo+n - 1)):=λk hk1 hk2=>
   qhE (hu k (lo+n - 1) hk1 (by lia) (by lia)) (qbt hrose (hu lo k (by lia) hk1 hk2))
  refine qav (rZ ?_)
  have hB2:=hB.rev (i:=lo) (j:=lo+n) (qan _) (by lia)
  have hd:i7 rk (arrOf (qhV st (qgi (arrOf st) lo (lo+n) ((lo+n - lo) / 2)))) lo (n+1):=by
   refine i7.congr (xs:=arrOf st) (i7.more (λi j hi hij hj=>?_) (by lia) (qdD hlt)) (jd hsz hall)
   rw[hall i hi (by lia),hall j (by lia) hj];exact qcZ _
  generalize qhV st (qgi (arrOf st) lo (lo+n) ((lo+n - lo) / 2))=st2 at hB2 hd ⊢
  clear hu hlt hrose hall hB hsz hor
 case' neg=>
  refine bi hgt ?_
  have hB2:=hB
  have hd:i7 rk (arrOf st) lo (n+1):=by
   refine i7.more (λi j hi hij hj=>?_) (by lia) (qdD hlt)
   rw[show i=j by lia];exact qcZ _
  clear hu hlt hB hsz hor
  revert hB2 hd
  generalize st=st2
  intro hB2 hd
 all_goals
  refine qav (iP ?_)
  refine qav (Bf (λx m q st' Q' hm1 hm2 hB' c1 c2 c3 c4=>?_) (by lia) hn3 hz hB2 hd λm q st' hm1 hm2 hB' hd' he=>?_)
  ·refine qav (asc st' hB' m _ hm1 hm2 ?_)
   cases hl:O.blt (rk (kyd (arrOf st') (lo+m))) (rk (kyd (arrOf st') (lo+m - 1))) with
   |true=>
    dsimp only
    refine bv rfl ?_
    by_cases hq:q > 0
    ·rw[if_pos hq];exact qav (rZ (qaG (c1 hl hq)))
    ·rw[if_neg hq];exact qaG (c2 hl (by lia))
   |false=>
    dsimp only
    refine bi (by simp) ?_
    refine qav (wG hC hS hB' (by lia) (by lia) ?_)
    cases hl2:O.blt (rk (kyd (arrOf st') (lo+m - 1))) (rk (kyd (arrOf st') (lo+m))) with
    |true=>exact qaG (c3 hl2)
    |false=>exact qaG (c4 hl hl2)
  have hsz':lo+m<=(arrOf st').size:=by rw[hB'.size];lia
  dsimp only
  by_cases hq:q > 0
  case' pos=>
   refine bv hq ?_
   refine qav (rZ ?_)
   have hB3:=hB'.rev (i:=lo+m - (q+1)) (j:=lo+m) (by have:=he.1;lia) (by lia)
   have hd3:i7 rk (arrOf (qhV st' (qgi (arrOf st') (lo+m - (q+1)) (lo+m) ((lo+m - (lo+m - (q+1))) / 2)))) lo m:=i7.congr hd' (jd hsz' he.2)
   generalize qhV st' (qgi (arrOf st') (lo+m - (q+1)) (lo+m) ((lo+m - (lo+m - (q+1))) / 2))=st3 at hB3 hd3 ⊢
  case' neg=>
   refine bi hq ?_
   have hB3:=hB'
   have hd3:=hd'
  all_goals
   refine EA hB3 hd3 (by lia) hm2 hz (λx n' Q' st4 hB4 hn1' hn2' hy hno=>?_) λn' st4 hB4 a1 a2 a3=>qaG (h n' st4 hB4 a1 a2 a3)
   refine qav (asc st4 hB4 n' _ hn1' hn2' ?_)
   cases hl:O.blt (rk (kyd (arrOf st4) (lo+n'))) (rk (kyd (arrOf st4) (lo+n' - 1))) with
   |true=>exact qaG (hy hl)
   |false=>exact qaG (hno hl)
end
section
variable {prog:qaX}{w:World}{A:qbc}{E:Value->qaj->Prop}{s:qaj}{κ:qdi}{O:qec}{rk:Keyed->O.α}{S:Keyed->Prop}
variable {a0:Array Keyed}{lo:Nat}{p0:Array (Nat×Nat×Nat)}{g0:Nat}{st:qbk}
set_option maxHeartbeats 1000000 in
theorem tK (hC:Cm prog w A s κ O rk S) (hS:∀ x∈a0.toList,S x) {n ok:Nat}{Q:Bool->qbk->Prop} (hB:SB κ a0 lo p0 g0 st) (h1:1<=ok) (hok:ok<=n) (hz:lo+n<=a0.size) (hu:Up rk (arrOf st) lo ok)
  (h:∀ st',SB κ a0 lo p0 g0 st'->Up rk (arrOf st') lo n->Q true st'):wpS (model prog w) A E s (Ei lo n ok) Q st:=by
 refine qav (qdI (qbV (I:=λk c st'=>c=(none,())/\SB κ a0 lo p0 g0 st'/\Up rk (arrOf st') lo (min k n)) (Q:=λc st'=>c=(none,())/\SB κ a0 lo p0 g0 st'/\Up rk (arrOf st') lo n) ?_ ?_ ?_) ?_)
 ·rintro k c st' hk hkn ⟨rfl,hB',hs⟩
  rw[show min k n=k by lia]at hs
  dsimp only
  refine qav (qdI (qbV (I:=λx c st2=>st2=st'/\∃ l r,c=(none,l,r)/\l<=r/\r<=k/\r - l<=k - x/\(∀ i,i < l->O.kle (rk (kyd (arrOf st') (lo+i))) (rk (kyd (arrOf st') (lo+k))))/\
    ∀ i,r<=i->i<k->O.klt (rk (kyd (arrOf st') (lo+k))) (rk (kyd (arrOf st') (lo+i))))
   (Q:=λc st2=>st2=st'/\∃ l r,c=(none,l,r)/\l<=k/\(∀ i,i<l->O.kle (rk (kyd (arrOf st') (lo+i))) (rk (kyd (arrOf st') (lo+k))))/\∀ i,l<=i->i<k->O.klt (rk (kyd (arrOf st') (lo+k))) (rk (kyd (arrOf st') (lo+i)))) ?_ ?_ ?_) ?_)
  ·rintro x c st2 _ hxk ⟨rfl,l,r,rfl,hlr,hrk,hm,hlo,hhi⟩
   dsimp only
   by_cases hge:l>=r
   ·refine bv hge ?_
    have e:l=r:=by lia
    subst e
    exact qaG ⟨rfl,l,l,rfl,hrk,hlo,hhi⟩
   ·refine bi hge ?_
    refine qav (wG hC hS hB' (by lia) (by lia) ?_)
    cases hl:O.blt (rk (kyd (arrOf st2) (lo+k))) (rk (kyd (arrOf st2) (lo+(l+r) / 2))) with
    |true=>exact qaG ⟨rfl,l,(l+r) / 2,rfl,by lia,by lia,by lia,hlo,λi h1 h2=>qgD hl (hs _ _ (by lia) (by lia) (by lia))⟩
    |false=>exact qaG ⟨rfl,(l+r) / 2+1,r,rfl,by lia,by lia,by lia,λi h1=>qbt (hs (lo+i) (lo+(l+r) / 2) (by lia) (by lia) (by lia)) hl,hhi⟩
  ·rintro c st2 ⟨rfl,l,r,rfl,hlr,hrk,hm,hlo,hhi⟩
   have e:l=r:=by lia
   subst e
   exact⟨rfl,l,l,rfl,hrk,hlo,hhi⟩
  ·exact⟨rfl,0,k,rfl,by lia,by lia,by lia,λi hi=>by lia,λi h1 h2=>by lia⟩
  ·rintro c st2 ⟨rfl,l,r,rfl,hlk,hlo,hhi⟩
   dsimp only
   refine qav (m:=moveDown' (lo+k) (lo+l)) ?_
   rw[moveDown'_eq]
   have hks:lo+k<(arrOf st2).size:=by rw[hB'.size];lia
   refine qc1 (qaG ⟨rfl,hB'.set (bubble_perm _ _ _) λi hi=>?_,?_⟩)
   ·rw[qk4 hks _ (by lia),if_neg (by lia),if_neg (by lia)]
   ·rw[show min (k+1) n=k+1 by lia]
    intro i j hi hij hj
    show O.kle (rk (kyd (bubble (arrOf st2) (lo+k) (lo+k - (lo+l))) i)) (rk (kyd (bubble (arrOf st2) (lo+k) (lo+k - (lo+l))) j))
    rw[oP hks (by lia),oP hks (by lia),show lo+k - (lo+k - (lo+l))=lo+l by lia]
    have hlo':∀ i,lo<=i->i<lo+l->O.kle (rk (kyd (arrOf st2) i)) (rk (kyd (arrOf st2) (lo+k))):=λi h1 h2=>by
     have:=hlo (i - lo) (by lia);rwa [show lo+(i - lo)=i by lia]at this
    have hhi':∀ i,lo+l<=i->i<lo+k->O.klt (rk (kyd (arrOf st2) (lo+k))) (rk (kyd (arrOf st2) i)):=λi h1 h2=>by
     have:=hhi (i - lo) (by lia) (by lia);rwa [show lo+(i - lo)=i by lia]at this
    repeat' split
    all_goals first
     |(exfalso;lia)
     |exact qcZ _
     |exact hlo' _ (by lia) (by lia)
     |exact qdD (hhi' _ (by lia) (by lia))
     |exact hs _ _ (by lia) (by lia) (by lia)
 ·rintro c st' ⟨rfl,hB',hs⟩
  rw[show min (max (max ok 1) n) n=n by lia]at hs
  exact⟨rfl,hB',hs⟩
 ·rw[show max ok 1=ok by lia,show min ok n=ok by lia]
  exact⟨rfl,hB,hu⟩
 ·rintro c st' ⟨rfl,hB',hs⟩
  exact qaG (h st' hB' hs)
def bey (O:qec) (rk:Keyed->O.α) (left:Bool) (key x:Keyed):Bool:=if left=true then O.blt (rk x) (rk key) else !O.blt (rk key) (rk x)
set_option maxHeartbeats 1000000 in
theorem gc (hC:Cm prog w A s κ O rk S) {left:Bool}{key:Keyed}{arr:Array Keyed}{base n hint:Nat}{Q:Option Nat->qbk->Prop} (hk:kindOf st=κ) (hkey:S key) (hz:base+n<=arr.size) (hS:∀ i,i<n->S (kyd arr (base+i)))
  (hh:hint<n) (anti:∀ i j,i<=j->j<n->bey O rk left key (kyd arr (base+j))=true->bey O rk left key (kyd arr (base+i))=true)
  (h:∀ k,k<=n->(∀ i,i<k->bey O rk left key (kyd arr (base+i))=true)->(∀ i,k<=i->i<n->bey O rk left key (kyd arr (base+i))=false)->Q (some k) st) :
  wpS (model prog w) A E s (rq left key arr base n hint) Q st:=by
 have bey1:∀ i (Q':Option Bool->qbk->Prop),i<n->Q' (some (bey O rk left key (kyd arr (base+i)))) st->wpS (model prog w) A E s (elem' arr (base+i) >>= λx=>if left=true then lt' x key else lt' key x >>= λb=>pure (b.map (!·))) Q' st:=λi Q' hi hq=>by
  refine qav (bw (bj (by lia)) ?_)
  cases left with
  |true=>exact tV hC hk (hS i hi) hkey hq
  |false=>exact qav (tV hC hk hkey (hS i hi) (qaG hq))
 have bin:∀ l0 h0,l0<=h0->h0<=n->(∀ i,i<l0->bey O rk left key (kyd arr (base+i))=true)->(∀ i,h0<=i->i<n->bey O rk left key (kyd arr (base+i))=false)->
   ∀ (f:Nat->Option (Option Nat)×Nat×Nat->StateT qbk Sem (ForInStep (Option (Option Nat)×Nat×Nat))) (k:Option (Option Nat)×Nat×Nat->StateT qbk Sem (Option Nat)),
   (∀ x l r (Q':ForInStep (Option (Option Nat)×Nat×Nat)->qbk->Prop),l<=r->r<=n->(r<=l->Q' (.done (none,l,r)) st)->(l < r->bey O rk left key (kyd arr (base+(l+(r - l) / 2)))=true->Q' (.yield (none,l+(r - l) / 2+1,r)) st)->
     (l<r->bey O rk left key (kyd arr (base+(l+(r - l) / 2)))=false->Q' (.yield (none,l,l+(r - l) / 2)) st)->wpS (model prog w) A E s (f x (none,l,r)) Q' st)->
   (∀ l r,k (none,l,r)=pure (some r))->wpS (model prog w) A E s (forIn [0:n] (none,l0,h0) f >>= k) Q st:=λl0 h0 e1 e2 e3 e4 f k hf hkk=>by
  refine qav (qdI (qbV (I:=λx c st2=>st2=st/\∃ l r,c=(none,l,r)/\l<=r/\r<=n/\r - l<=n - x/\(∀ i,i < l->bey O rk left key (kyd arr (base+i))=true)/\∀ i,r<=i->i < n->bey O rk left key (kyd arr (base+i))=false)
   (Q:=λc st2=>st2=st/\∃ r,c=(none,r,r)/\r<=n/\(∀ i,i<r->bey O rk left key (kyd arr (base+i))=true)/\∀ i,r<=i->i<n->bey O rk left key (kyd arr (base+i))=false) ?_ ?_ ?_) ?_)
  ·rintro x c st2 _ hx ⟨rfl,l,r,rfl,a1,a2,a3,a4,a5⟩
   refine hf x l r _ a1 a2 (λhrl=>?_) (λhlr ht=>?_) λhlr ht=>?_
   ·have e:l=r:=by lia
    subst e
    exact⟨rfl,l,rfl,a2,a4,a5⟩
   ·refine⟨rfl,_,_,rfl,by lia,a2,by lia,λi hi=>?_,a5⟩
    exact anti i (l+(r - l) / 2) (by lia) (by lia) ht
   ·refine⟨rfl,_,_,rfl,by lia,by lia,by lia,a4,λi h1 h2=>?_⟩
    cases q:bey O rk left key (kyd arr (base+i)) with
    |false=>rfl
    |true=>rw[anti (l+(r - l) / 2) i h1 h2 q]at ht;cases ht
  ·rintro c st2 ⟨rfl,l,r,rfl,a1,a2,a3,a4,a5⟩
   have e:l=r:=by lia
   subst e
   exact⟨rfl,l,rfl,a2,a4,a5⟩
  ·exact⟨rfl,l0,h0,rfl,e1,e2,by lia,e3,e4⟩
  ·rintro c st2 ⟨rfl,r,rfl,a2,a4,a5⟩
   rw[hkk]
   exact qaG (h r a2 a4 a5)
 refine qav (bey1 hint _ hh ?_)
 dsimp only
 cases hb:bey O rk left key (kyd arr (base+hint)) with
 |true=>
  refine bv rfl ?_
  refine qav (qdI (qbV (I:=λx c st2=>st2=st/\∃ l o,c=(none,l,o)/\l < o/\x+1<=o/\hint+l < n/\bey O rk left key (kyd arr (base+(hint+l)))=true)
   (Q:=λc st2=>st2=st/\∃ l o,c=(none,l,o)/\l<o/\hint+l<n/\bey O rk left key (kyd arr (base+(hint+l)))=true/\(n - hint<=o\/hint+o<n/\bey O rk left key (kyd arr (base+(hint+o)))=false)) ?_ ?_ ?_) ?_)
  ·rintro x c st2 _ hx ⟨rfl,l,o,rfl,a1,a2,a3,a4⟩
   dsimp only
   by_cases ho:o>=n - hint
   ·rw[if_pos ho];exact qaG ⟨rfl,l,o,rfl,a1,a3,a4,.inl ho⟩
   ·refine bi ho ?_
    refine qav (bey1 (hint+o) _ (by lia) ?_)
    cases hb2:bey O rk left key (kyd arr (base+(hint+o))) with
    |true=>exact qaG ⟨rfl,o,2*o+1,rfl,by lia,by lia,by lia,hb2⟩
    |false=>exact qaG ⟨rfl,l,o,rfl,a1,a3,a4,.inr ⟨by lia,hb2⟩⟩
  ·rintro c st2 ⟨rfl,l,o,rfl,a1,a2,a3,a4⟩
   exact⟨rfl,l,o,rfl,a1,a3,a4,.inl (by lia)⟩
  ·exact⟨rfl,0,1,rfl,by lia,by lia,by lia,hb⟩
  ·rintro c st2 ⟨rfl,l,o,rfl,a1,a3,a4,a5⟩
   dsimp only
   refine bin _ _ (by lia) (by lia) (λi hi=>anti i (hint+l) (by lia) a3 a4) (λi h1 h2=>?_) _ _ (λx l r Q' b1 b2 c1 c2 c3=>?_) λl r=>rfl
   ·rcases a5 with a5|a5
    ·lia
    ·cases q:bey O rk left key (kyd arr (base+i)) with
     |false=>rfl
     |true=>rw[anti (hint+o) i (by lia) h2 q]at a5;exact absurd a5.2 (by simp)
   ·dsimp only
    by_cases hge:l>=r
    ·rw[if_pos hge];exact qaG (c1 hge)
    ·refine bi hge ?_
     refine qav (bey1 (l+(r - l) / 2) _ (by lia) ?_)
     cases hb3:bey O rk left key (kyd arr (base+(l+(r - l) / 2))) with
     |true=>exact qaG (c2 (by lia) hb3)
     |false=>exact qaG (c3 (by lia) hb3)
 |false=>
  refine bi (by simp) ?_
  refine qav (qdI (qbV (I:=λx c st2=>st2=st/\∃ l o,c=(none,l,o)/\l < o/\x+1<=o/\l<=hint/\bey O rk left key (kyd arr (base+(hint - l)))=false)
   (Q:=λc st2=>st2=st/\∃ l o,c=(none,l,o)/\l<o/\l<=hint/\bey O rk left key (kyd arr (base+(hint - l)))=false/\(hint+1<=o\/o<=hint/\bey O rk left key (kyd arr (base+(hint - o)))=true)) ?_ ?_ ?_) ?_)
  ·rintro x c st2 _ hx ⟨rfl,l,o,rfl,a1,a2,a3,a4⟩
   dsimp only
   by_cases ho:o>=hint+1
   ·rw[if_pos ho];exact qaG ⟨rfl,l,o,rfl,a1,a3,a4,.inl ho⟩
   ·refine bi ho ?_
    refine qav (bey1 (hint - o) _ (by lia) ?_)
    cases hb2:bey O rk left key (kyd arr (base+(hint - o))) with
    |false=>exact qaG ⟨rfl,o,2*o+1,rfl,by lia,by lia,by lia,hb2⟩
    |true=>exact qaG ⟨rfl,l,o,rfl,a1,a3,a4,.inr ⟨by lia,hb2⟩⟩
  ·rintro c st2 ⟨rfl,l,o,rfl,a1,a2,a3,a4⟩
   exact⟨rfl,l,o,rfl,a1,a3,a4,.inl (by lia)⟩
  ·exact⟨rfl,0,1,rfl,by lia,by lia,by lia,hb⟩
  ·rintro c st2 ⟨rfl,l,o,rfl,a1,a3,a4,a5⟩
   dsimp only
   refine bin _ _ (by lia) (by lia) (λi hi=>?_) (λi h1 h2=>?_) _ _ (λx l r Q' b1 b2 c1 c2 c3=>?_) λl r=>rfl
   ·rcases a5 with a5|a5
    ·lia
    ·exact anti i (hint - o) (by lia) (by lia) a5.2
   ·cases q:bey O rk left key (kyd arr (base+i)) with
    |false=>rfl
    |true=>rw[anti (hint - l) i (by lia) h2 q]at a4;cases a4
   ·dsimp only
    by_cases hge:l>=r
    ·rw[if_pos hge];exact qaG (c1 hge)
    ·refine bi hge ?_
     refine qav (bey1 (l+(r - l) / 2) _ (by lia) ?_)
     cases hb3:bey O rk left key (kyd arr (base+(l+(r - l) / 2))) with
     |true=>exact qaG (c2 (by lia) hb3)
     |false=>exact qaG (c3 (by lia) hb3)
end
section
variable {O:qec}{rk:Keyed->O.α}
def mrg (O:qec) (rk:Keyed->O.α) (xs ys:List Keyed):List Keyed:=List.merge xs ys λx y=>!O.blt (rk y) (rk x)
theorem iz (xs:List Keyed):mrg O rk xs []=xs:=by unfold mrg;simp
theorem j7 (ys:List Keyed):mrg O rk [] ys=ys:=by unfold mrg;simp
theorem qz {x y:Keyed}{xs ys:List Keyed} (h:O.blt (rk y) (rk x)=false):mrg O rk (x::xs) (y::ys)=x::mrg O rk xs (y::ys):=by
 unfold mrg;rw[qhP,h];rfl
theorem ox {x y:Keyed}{xs ys:List Keyed} (h:O.blt (rk y) (rk x)=true):mrg O rk (x::xs) (y::ys)=y::mrg O rk (x::xs) ys:=by
 unfold mrg;rw[qhP,h];rfl
theorem sE {x:Keyed}:∀ {ys:List Keyed},(∀ y∈ys,O.blt (rk y) (rk x)=true)->mrg O rk [x] ys=ys++[x]
 |[],_=>iz _
 |y::ys,h=>by rw[ox (h y qak),sE λz hz=>h z (qah _ hz)];rfl
theorem lX {x:Keyed}:∀ (xs ys:List Keyed),(∀ y∈ys,O.blt (rk y) (rk x)=true)->mrg O rk (xs++[x]) ys=mrg O rk xs ys++[x]
 |[],ys,h=>by rw[qcH,sE h,j7]
 |a::xs,[],h=>by rw[iz,iz]
 |a::xs,y::ys,h=>by
  rw[qb3]
  cases hb:O.blt (rk y) (rk a) with
  |true=>rw[ox hb,ox hb,<-qb3,lX (a::xs) ys λz hz=>h z (qah _ hz)];rfl
  |false=>rw[qz hb,qz hb,lX xs (y::ys) h];rfl
termination_by xs ys=>xs.length+ys.length
theorem wU {y:Keyed}:∀ {xs:List Keyed},(∀ x∈xs,O.blt (rk y) (rk x)=false)->mrg O rk xs [y]=xs++[y]
 |[],_=>j7 _
 |x::xs,h=>by rw[qz (h x qak),wU λz hz=>h z (qah _ hz)];rfl
theorem ms {y:Keyed}:∀ (xs ys:List Keyed),(∀ x∈xs,O.blt (rk y) (rk x)=false)->mrg O rk xs (ys++[y])=mrg O rk xs ys++[y]
 |xs,[],h=>by rw[qcH,wU h,iz]
 |[],b::ys,h=>by rw[j7,j7]
 |a::xs,b::ys,h=>by
  rw[qb3]
  cases hb:O.blt (rk b) (rk a) with
  |true=>rw[ox hb,ox hb,ms (a::xs) ys h];rfl
  |false=>rw[qz hb,qz hb,<-qb3,ms xs (b::ys) λz hz=>h z (qah _ hz)];rfl
termination_by xs ys=>xs.length+ys.length
theorem oM (xs ys:List Keyed):(mrg O rk xs ys).Perm (xs++ys):=List.merge_perm_append _
theorem DO {xs ys:List Keyed} (hx:xs.Pairwise λa b=>O.kle (rk a) (rk b)) (hy:ys.Pairwise λa b=>O.kle (rk a) (rk b)):(mrg O rk xs ys).Pairwise λa b=>O.kle (rk a) (rk b):=by
 have:=List.pairwise_merge (le:=λx y=>!O.blt (rk y) (rk x)) (λa b c h1 h2=>by
   simp only[qcq]at *;exact qbt (O:=O) h1 h2) (λa b=>by
   simp only[qdw,qcq]
   cases h:O.blt (rk b) (rk a) with
   |false=>exact .inl rfl
   |true=>exact .inr (qiq (O:=O) h)) xs ys (hx.imp λh=>by rw[qcq];exact h) (hy.imp λh=>by rw[qcq];exact h)
 exact this.imp λh=>by rw[qcq]at h;exact h
theorem eY {a:Array Keyed}{i:Nat} (h:i<a.size):a.toList.drop i=kyd a i::a.toList.drop (i+1):=by
 have e:=bj h
 rw[qaJ h]at e
 rw[qca (by simpa using h)]
 rw[<-qaR e];simp
theorem nZ {a:Array Keyed}{i:Nat} (h:i<a.size):a.toList.take (i+1)=a.toList.take i++[kyd a i]:=by
 have e:=bj h
 rw[qaJ h]at e
 rw[qdC (by simpa using h)]
 rw[<-qaR e];simp
theorem wW {a:Array Keyed}{x:Keyed} (h:x∈a.toList):∃ i,i<a.size/\x=kyd a i:=by
 obtain⟨i,hi,e⟩:=qdc.mp h
 have hi':i<a.size:=by simpa using hi
 refine⟨i,hi',?_⟩
 have q:=bj hi'
 rw[qaJ hi']at q
 rw[<-qaR q,<-e];simp
def MI (O:qec) (rk:Keyed->O.α) (a b out:Array Keyed) (ia ib:Nat):Prop:=out.toList++mrg O rk (a.toList.drop ia) (b.toList.drop ib)=mrg O rk a.toList b.toList
variable {a b out:Array Keyed}{ia ib:Nat}
theorem MI.start:MI O rk a b #[] 0 0:=by unfold MI;simp
theorem MI.b1 (h:MI O rk a b out ia ib) (hb:ib<b.size) (ha:ia<a.size) (hl:O.blt (rk (kyd b ib)) (rk (kyd a ia))=true):MI O rk a b (out.push (kyd b ib)) ia (ib+1):=by
 unfold MI at *
 rw[eY ha,eY hb,ox hl]at h
 rw[<-h,eY ha];simp
theorem MI.a1 (h:MI O rk a b out ia ib) (hb:ib<b.size) (ha:ia<a.size) (hl:O.blt (rk (kyd b ib)) (rk (kyd a ia))=false):MI O rk a b (out.push (kyd a ia)) (ia+1) ib:=by
 unfold MI at *
 rw[eY ha,eY hb,qz hl]at h
 rw[<-h,eY hb];simp
theorem pk {a:Array Keyed}{i k:Nat} (h:i+k<a.size):(out++a.extract i (i+(k+1)))=(out++a.extract i (i+k)).push (kyd a (i+k)):=by
 apply qbf.mp
 rw[qit,qa9,qa9,qbD,qbD]
 simp only[qbT,Nat.add_sub_cancel_left]
 have e:(a.toList.drop i).take (k+1)=(a.toList.drop i).take k++[kyd a (i+k)]:=by
  rw[qdC (by simp;lia)]
  have q:=bj h
  rw[qaJ h]at q
  rw[<-qaR q];simp
 rw[e,qb8]
theorem sS {a:Array Keyed}{i:Nat}:out++a.extract i (i+0)=out:=by
 apply qbf.mp
 simp
theorem MI.as (h:MI O rk a b out ia ib) (hb:ib<b.size):∀ k,ia+k<=a.size->(∀ i,i<k->bey O rk false (kyd b ib) (kyd a (ia+i))=true)->MI O rk a b (out++a.extract ia (ia+k)) (ia+k) ib
 |0,_,_=>by rw[sS];exact h
 |k+1,hk,hq=>by
  rw[pk (by lia)]
  have:=MI.a1 (MI.as h hb k (by lia) λi hi=>hq i (by lia)) hb (by lia) (by simpa [bey] using hq k (by lia))
  exact this
theorem MI.bs (h:MI O rk a b out ia ib) (ha:ia<a.size):∀ k,ib+k<=b.size->(∀ i,i<k->bey O rk true (kyd a ia) (kyd b (ib+i))=true)->MI O rk a b (out++b.extract ib (ib+k)) ia (ib+k)
 |0,_,_=>by rw[sS];exact h
 |k+1,hk,hq=>by
  rw[pk (by lia)]
  exact MI.b1 (MI.bs h ha k (by lia) λi hi=>hq i (by lia)) (by lia) ha (by simpa [bey] using hq k (by lia))
theorem gO {a:Array Keyed}{i:Nat}:(a.extract i a.size).toList=a.toList.drop i:=by
 rw[qbD,qbT,qcs (by simp)]
theorem MI.doneB (h:MI O rk a b out ia ib) (hb:ib=b.size):(out++a.extract ia a.size++b.extract ib b.size).toList=mrg O rk a.toList b.toList:=by
 unfold MI at h
 subst hb
 rw[qa9,qa9,gO,gO,<-h]
 rw[show b.toList.drop b.size=[] by simp,iz,qc4]
theorem MI.doneA (h:MI O rk a b out ia ib) (ha:ia=a.size):(out++a.extract ia a.size++b.extract ib b.size).toList=mrg O rk a.toList b.toList:=by
 unfold MI at h
 subst ha
 rw[qa9,qa9,gO,gO,<-h]
 rw[show a.toList.drop a.size=[] by simp,j7,qc4]
theorem MI.lastA (h:MI O rk a b out ia ib) (ha:ia+1=a.size) (hl:∀ i,i<b.size->O.blt (rk (kyd b i)) (rk (kyd a (a.size - 1)))=true):(out++b.extract ib b.size++a.extract ia a.size).toList=mrg O rk a.toList b.toList:=by
 unfold MI at h
 rw[qa9,qa9,gO,gO,<-h,eY (by lia:ia<a.size),show a.toList.drop (ia+1)=[] by simp;lia,sE,qb8]
 intro y hy
 obtain⟨i,hi,rfl⟩:=wW (qhO hy)
 rw[show ia=a.size - 1 by lia]
 exact hl i hi
def MH (O:qec) (rk:Keyed->O.α) (a b out:Array Keyed) (na nb:Nat):Prop:=mrg O rk (a.toList.take na) (b.toList.take nb)++out.toList.reverse=mrg O rk a.toList b.toList
variable {na nb:Nat}
theorem MH.start:MH O rk a b #[] a.size b.size:=by
 unfold MH
 rw[qcs (by simp),qcs (by simp)];simp
theorem MH.a1 (h:MH O rk a b out (na+1) nb) (ha:na<a.size) (hl:∀ i,i<nb->i<b.size->O.blt (rk (kyd b i)) (rk (kyd a na))=true):MH O rk a b (out.push (kyd a na)) na nb:=by
 unfold MH at *
 rw[nZ ha,lX _ _ λy hy=>?_]at h
 ·rw[<-h];simp
 ·obtain⟨i,hi,e⟩:=qdc.mp hy
  have hi':i<nb/\i<b.size:=by simp at hi;lia
  have q:=bj hi'.2
  rw[qaJ hi'.2]at q
  have:y=kyd b i:=by rw[<-e,<-qaR q];simp
  rw[this];exact hl i hi'.1 hi'.2
theorem MH.b1 (h:MH O rk a b out na (nb+1)) (hb:nb<b.size) (hl:∀ i,i<na->i<a.size->O.blt (rk (kyd b nb)) (rk (kyd a i))=false):MH O rk a b (out.push (kyd b nb)) na nb:=by
 unfold MH at *
 rw[nZ hb,ms _ _ λy hy=>?_]at h
 ·rw[<-h];simp
 ·obtain⟨i,hi,e⟩:=qdc.mp hy
  have hi':i<na/\i<a.size:=by simp at hi;lia
  have q:=bj hi'.2
  rw[qaJ hi'.2]at q
  have:y=kyd a i:=by rw[<-e,<-qaR q];simp
  rw[this];exact hl i hi'.1 hi'.2
end
section
variable {prog:qaX}{w:World}{A:qbc}{E:Value->qaj->Prop}{s:qaj}{κ:qdi}{O:qec}{rk:Keyed->O.α}{S:Keyed->Prop}{st:qbk}{a b:Array Keyed}
def Gs (st st':qbk):Prop:=∃ g,st'=Ex st g
theorem Gs.refl:Gs st st:=⟨qeg st,rfl⟩
theorem Gs.kind {st':qbk} (h:Gs st st'):kindOf st'=kindOf st:=by obtain⟨g,rfl⟩:=h;rfl
theorem Gs.set {st':qbk} (h:Gs st st') (g:Nat):Gs st (qbI (kindOf st') (arrOf st') (qbs st') g (qb6 st')):=by obtain⟨g',rfl⟩:=h;exact⟨g,rfl⟩
structure Two (O:qec) (rk:Keyed->O.α) (S:Keyed->Prop) (a b:Array Keyed):Prop where
 sa:∀ i,i<a.size->S (kyd a i)
 sb:∀ i,i<b.size->S (kyd b i)
 ua:Up rk a 0 a.size
 ub:Up rk b 0 b.size
 pa:0<a.size
 pb:0<b.size
 first:O.blt (rk (kyd b 0)) (rk (kyd a 0))=true
 last:∀ i,i<b.size->O.blt (rk (kyd b i)) (rk (kyd a (a.size - 1)))=true
theorem Two.galA (T:Two O rk S a b) {ia na:Nat}{key:Keyed} (hn:ia+na<=a.size):∀ i j,i<=j->j<na->bey O rk false key (kyd a (ia+j))=true->bey O rk false key (kyd a (ia+i))=true:=λi j hij hj h=>by
 simp only[bey,qax,if_false,qcq]at h ⊢
 exact qbt (O:=O) (T.ua (ia+i) (ia+j) (qa7 _) (by lia) (by lia)) h
theorem Two.galB (T:Two O rk S a b) {ib nb:Nat}{key:Keyed} (hn:ib+nb<=b.size):∀ i j,i<=j->j<nb->bey O rk true key (kyd b (ib+j))=true->bey O rk true key (kyd b (ib+i))=true:=λi j hij hj h=>by
 simp only[bey,if_true]at h ⊢
 exact qen (O:=O) (T.ub (ib+i) (ib+j) (qa7 _) (by lia) (by lia)) h
set_option maxHeartbeats 4000000 in
structure Hid (G:Prop):Prop where
 out:G
theorem shr {C:Prop} [Decidable C] {G P:Prop} (hp:C->Hid G->P) (hn:¬ C->Hid G->P) (g:G):P:=if h:C then hp h ⟨g⟩ else hn h ⟨g⟩
theorem Bp (hC:Cm prog w A s κ O rk S) {Q:Array Keyed->qbk->Prop} (hk:kindOf st=κ) (T:Two O rk S a b)
  (h:∀ r st',Gs st st'->r.toList=mrg O rk a.toList b.toList->Q r st'):wpS (model prog w) A E s (Fj a b) Q st:=by
 refine qav (iP ?_)
 refine qav (bw (bj T.pb) ?_)
 have I0:MI O rk a b #[kyd b 0] 0 1:=MI.start.b1 T.pb T.pa T.first
 dsimp -zeta only
 by_cases e1:1=b.size
 ·refine bv (by simpa using e1) ?_
  exact qaG (h _ _ .refl (I0.doneB e1))
 refine bi (by simpa using e1) ?_
 by_cases e2:0+1=a.size
 ·refine bv (by simpa using e2) ?_
  exact qaG (h _ _ .refl (I0.lastA e2 T.last))
 refine bi (by simpa using e2) ?_
 have pa:=T.pa
 have pb:=T.pb
 refine qav (qd3 ?_)
 refine qav (qdI (qbV (I:=λx c st'=>∃ out ia ib g,c=(none,out,ia,ib,g)/\MI O rk a b out ia ib/\ia+1 < a.size/\ib < b.size/\x+1<=ia+ib/\Gs st st')
  (Q:=λc st'=>∃ r c',c=(some r,c')/\r.toList=mrg O rk a.toList b.toList/\Gs st st') ?_ ?_ ?_) ?_)
 ·rintro x c st' _ hx ⟨out,ia,ib,g,rfl,I,ha,hb,hp,hG⟩
  have hk':kindOf st'=κ:=hG.kind.trans hk
  refine qav (qdI (qbV (I:=λy c st2=>st2=st'/\∃ out ja jb ac bc,c=(none,out,ja,jb,ac,bc)/\MI O rk a b out ja jb/\ja+1 < a.size/\jb < b.size/\ia+ib+y<=ja+jb)
   (Q:=λc st2=>st2=st'/\((∃ r c',c=(some r,c')/\r.toList=mrg O rk a.toList b.toList)\/∃ out ja jb ac bc,c=(none,out,ja,jb,ac,bc)/\MI O rk a b out ja jb/\ja+1<a.size/\jb<b.size/\ia+ib+1<=ja+jb)) ?_ ?_ ?_) ?_)
  ·rintro y c st2 _ hy ⟨rfl,out2,ja,jb,ac,bc,rfl,I2,ha2,hb2,hp2⟩
   dsimp only
   refine qav (bw (bj hb2) (qav (bw (bj (by lia)) (qav (tV hC hk' (T.sb _ hb2) (T.sa _ (by lia)) ?_)))))
   cases hl:O.blt (rk (kyd b jb)) (rk (kyd a ja)) with
   |true=>
    dsimp only
    refine bv rfl ?_
    refine qav (bw (bj hb2) ?_)
    have I3:=I2.b1 hb2 (by lia) hl
    by_cases e3:jb+1=b.size
    ·refine bv (by simpa using e3) ?_
     exact qaG ⟨rfl,.inl ⟨_,_,rfl,I3.doneB e3⟩⟩
    ·refine bi (by simpa using e3) ?_
     split
     ·exact qaG ⟨rfl,.inr ⟨_,_,_,_,_,rfl,I3,ha2,by lia,by lia⟩⟩
     ·exact qaG ⟨rfl,_,_,_,_,_,rfl,I3,ha2,by lia,by lia⟩
   |false=>
    dsimp only
    refine bi (by simp) ?_
    refine qav (bw (bj (by lia)) ?_)
    have I3:=I2.a1 hb2 (by lia) hl
    by_cases e3:ja+1+1=a.size
    ·refine bv (by simpa using e3) ?_
     exact qaG ⟨rfl,.inl ⟨_,_,rfl,I3.lastA e3 T.last⟩⟩
    ·refine bi (by simpa using e3) ?_
     split
     ·exact qaG ⟨rfl,.inr ⟨_,_,_,_,_,rfl,I3,by lia,hb2,by lia⟩⟩
     ·exact qaG ⟨rfl,_,_,_,_,_,rfl,I3,by lia,hb2,by lia⟩
  ·rintro c st2 ⟨rfl,out2,ja,jb,ac,bc,rfl,I2,ha2,hb2,hp2⟩
   exact⟨rfl,.inr ⟨_,_,_,_,_,rfl,I2,ha2,hb2,by lia⟩⟩
  ·exact⟨rfl,out,ia,ib,0,0,rfl,I,ha,hb,by lia⟩
  ·rintro c st2 ⟨rfl,⟨r,c',rfl,hr⟩|⟨out2,ja,jb,ac,bc,rfl,I2,ha2,hb2,hp2⟩⟩
   ·exact qaG ⟨_,_,rfl,hr,hG⟩
   refine qav (iP ?_)
   refine qav (qdI (qbV (I:=λy c st3=>Gs st st3/\∃ out ja jb g ac bc,c=(none,out,ja,jb,g,ac,bc)/\MI O rk a b out ja jb/\ja+1 < a.size/\jb < b.size/\ia+ib+1<=ja+jb)
    (Q:=λc st3=>Gs st st3/\((∃ r c',c=(some r,c')/\r.toList=mrg O rk a.toList b.toList)\/∃ out ja jb g ac bc,c=(none,out,ja,jb,g,ac,bc)/\MI O rk a b out ja jb/\ja+1<a.size/\jb<b.size/\ia+ib+1<=ja+jb)) ?_ ?_ ?_) ?_)
   ·rintro y c st3 _ hy ⟨hG3,out3,ja,jb,g3,ac,bc,rfl,I3,ha3,hb3,hp3⟩
    dsimp -zeta only
    have gal1:∀ (g4:Nat) (Q':Option Nat->qbk->Prop),(∀ k,k<=a.size - ja->(∀ i,i<k->bey O rk false (kyd b jb) (kyd a (ja+i))=true)->(∀ i,k<=i->i<a.size - ja->bey O rk false (kyd b jb) (kyd a (ja+i))=false)->Q' (some k) (qbI (kindOf st3) (arrOf st3) (qbs st3) g4 (qb6 st3)))->
      wpS (model prog w) A E s (rq false (kyd b jb) a ja (a.size - ja) 0) Q' (qbI (kindOf st3) (arrOf st3) (qbs st3) g4 (qb6 st3)):=λg4 Q' hq=>
     gc hC (hG3.kind.trans hk) (T.sb _ hb3) (by lia) (λi hi=>T.sa _ (by lia)) (by lia) (T.galA (by lia)) hq
    dsimp only
    apply shr (C:=g3 > 1)
    case hp=>
     intro hg1 tail
     refine bv hg1 ?_
     generalize g3 - 1=g4
     revert g4
     exact tail.out
    case hn=>
     intro hg1 tail
     refine bi hg1 ?_
     exact tail.out g3
    case g=>
     intro g4
     refine qav (qc1 ?_)
     refine qav (bw (bj hb3) (qav (gal1 _ _ λk hk1 hk2 hk3=>?_)))
     have I4:=I3.as hb3 k (by lia) hk2
     clear gal1 hk2
     dsimp only
     apply shr (C:=k > 0)
     case hp=>
      intro hk0 tail
      refine bv hk0 ?_
      by_cases e3:ja+k+1=a.size
      ·refine bv (by simpa using e3) ?_
       exact qaG ⟨hG3.set _,.inl ⟨_,_,rfl,I4.lastA e3 T.last⟩⟩
      refine bi (by simpa using e3) ?_
      by_cases e4:ja+k=a.size
      ·refine bv (by simpa using e4) ?_
       exact qaG ⟨hG3.set _,.inl ⟨_,_,rfl,I4.doneA e4⟩⟩
      refine bi (by simpa using e4) ?_
      have hb5:O.blt (rk (kyd b jb)) (rk (kyd a (ja+k)))=true:=by simpa [bey] using hk3 k (qan _) (by lia)
      have z:MI O rk a b (out3++a.extract ja (ja+k)) (ja+k) jb/\O.blt (rk (kyd b jb)) (rk (kyd a (ja+k)))=true/\ja+k+1<a.size/\ia+ib+1<=ja+k+jb:=⟨I4,hb5,by lia,by lia⟩
      generalize out3++a.extract ja (ja+k)=out5 at z ⊢
      generalize ja+k=ja5 at z ⊢
      generalize k=ac5
      revert z
      revert ac5 out5 ja5
      exact tail.out
     case hn=>
      intro hk0 tail
      refine bi hk0 ?_
      have hb5:O.blt (rk (kyd b jb)) (rk (kyd a ja))=true:=by simpa [bey] using hk3 0 (by lia) (by lia)
      exact tail.out _ _ _ ⟨I3,hb5,ha3,hp3⟩
     case g=>
      clear I4 hk3 hk1 I3
      intro out5 ja5 ac5 z
      obtain⟨I4,hb5,ha5,hp5⟩:=z
      refine qav (bw (bj hb3) ?_)
      have I5:=I4.b1 hb3 (by lia) hb5
      by_cases e5:jb+1=b.size
      ·refine bv (by simpa using e5) ?_
       exact qaG ⟨hG3.set _,.inl ⟨_,_,rfl,I5.doneB e5⟩⟩
      refine bi (by simpa using e5) ?_
      refine qav (bw (bj (by lia)) (qav (gc hC (hG3.kind.trans hk) (T.sa _ (by lia)) (by lia) (λi hi=>T.sb _ (by lia)) (by lia) (T.galB (by lia)) λk2 hk1 hk2 hk3=>?_)))
      have I6:=I5.bs (by lia) k2 (by lia) hk2
      clear hk2
      dsimp only
      apply shr (C:=k2 > 0)
      case hp=>
       intro hk20 tail
       refine bv hk20 ?_
       by_cases e6:jb+1+k2=b.size
       ·refine bv (by simpa using e6) ?_
        exact qaG ⟨hG3.set _,.inl ⟨_,_,rfl,I6.doneB e6⟩⟩
       refine bi (by simpa using e6) ?_
       have hb7:O.blt (rk (kyd b (jb+1+k2))) (rk (kyd a ja5))=false:=by simpa [bey] using hk3 k2 (qan _) (by lia)
       have z:MI O rk a b (out5.push (kyd b jb)++b.extract (jb+1) (jb+1+k2)) ja5 (jb+1+k2)/\O.blt (rk (kyd b (jb+1+k2))) (rk (kyd a ja5))=false/\jb+1+k2<b.size/\ia+ib+1<=ja5+1+(jb+1+k2):=⟨I6,hb7,by lia,by lia⟩
       generalize out5.push (kyd b jb)++b.extract (jb+1) (jb+1+k2)=out7 at z ⊢
       generalize jb+1+k2=jb7 at z ⊢
       generalize k2=bc7
       revert z
       revert bc7 out7 jb7
       exact tail.out
      case hn=>
       intro hk20 tail
       refine bi hk20 ?_
       have hb7:O.blt (rk (kyd b (jb+1))) (rk (kyd a ja5))=false:=by simpa [bey] using hk3 0 (by lia) (by lia)
       exact tail.out _ _ _ ⟨I5,hb7,by lia,by lia⟩
      case g=>
       clear I6 hk3 hk1 I5 I4
       intro out7 jb7 bc7 z
       obtain⟨I6,hb7,hj7,hp7⟩:=z
       refine qav (bw (bj (by lia)) ?_)
       have I7:=I6.a1 hj7 (by lia) hb7
       by_cases e7:ja5+1+1=a.size
       ·refine bv (by simpa using e7) ?_
        exact qaG ⟨hG3.set _,.inl ⟨_,_,rfl,I7.lastA e7 T.last⟩⟩
       refine bi (by simpa using e7) ?_
       split
       ·exact qaG ⟨hG3.set _,.inr ⟨_,_,_,_,_,_,rfl,I7,by lia,hj7,hp7⟩⟩
       ·exact qaG ⟨hG3.set _,_,_,_,_,_,_,rfl,I7,by lia,hj7,hp7⟩
   ·rintro c st3 ⟨hG3,out3,ja,jb,g3,ac,bc,rfl,I3,ha3,hb3,hp3⟩
    exact⟨hG3,.inr ⟨_,_,_,_,_,_,rfl,I3,ha3,hb3,hp3⟩⟩
   ·exact⟨hG,_,_,_,_,_,_,rfl,I2,ha2,hb2,hp2⟩
   ·rintro c st3 ⟨hG3,⟨r,c',rfl,hr⟩|⟨out3,ja,jb,g3,ac,bc,rfl,I3,ha3,hb3,hp3⟩⟩
    ·exact qaG ⟨_,_,rfl,hr,hG3⟩
    ·refine qav (qc1 (qaG ⟨out3,ja,jb,_,rfl,I3,ha3,hb3,by lia,hG3.set _⟩))
 ·rintro c st' ⟨out,ia,ib,g,rfl,I,ha,hb,hp,hG⟩
  exfalso;lia
 ·exact⟨_,_,_,_,rfl,I0,by lia,by lia,by lia,.refl⟩
 ·rintro c st' ⟨r,c',rfl,hr,hG⟩
  exact qaG (h r st' hG hr)
end
section
variable {prog:qaX}{w:World}{A:qbc}{E:Value->qaj->Prop}{s:qaj}{κ:qdi}{O:qec}{rk:Keyed->O.α}{S:Keyed->Prop}{st:qbk}{a b out:Array Keyed}{na nb:Nat}
theorem jM {a:Array Keyed}{n:Nat}:(a.extract 0 n).toList=a.toList.take n:=by
 rw[qbD,qbT];simp
theorem MH.doneA (h:MH O rk a b out na nb) (e:na=0):(a.extract 0 na++b.extract 0 nb++out.reverse).toList=mrg O rk a.toList b.toList:=by
 unfold MH at h
 subst e
 rw[qa9,qa9,jM,jM,qe7,<-h,qdK,j7,qcH]
theorem MH.doneB (h:MH O rk a b out na nb) (e:nb=0):(a.extract 0 na++b.extract 0 nb++out.reverse).toList=mrg O rk a.toList b.toList:=by
 unfold MH at h
 subst e
 rw[qa9,qa9,jM,jM,qe7,<-h,qdK,iz,qc4]
theorem MH.firstB (T:Two O rk S a b) (h:MH O rk a b out na nb) (ha:0<na) (e:nb=1):(b.extract 0 nb++a.extract 0 na++out.reverse).toList=mrg O rk a.toList b.toList:=by
 unfold MH at h
 subst e
 have e1:b.toList.take 1=[kyd b 0]:=by rw[nZ T.pb];simp
 have e2:a.toList.take na=kyd a 0::(a.toList.drop 1).take (na - 1):=by
  obtain⟨m,rfl⟩:∃ m,na=m+1:=⟨na - 1,by lia⟩
  have:=eY T.pa
  rw[qem]at this
  rw[this];simp
 rw[qa9,qa9,jM,jM,qe7,<-h,e1,e2,ox T.first,iz]
 rfl
theorem Two.belowB (T:Two O rk S a b) {i j:Nat}{x:Keyed} (hij:i<=j) (hj:j<b.size) (h:O.blt (rk (kyd b j)) (rk x)=true):O.blt (rk (kyd b i)) (rk x)=true:=
 qen (O:=O) (T.ub i j (qa7 _) hij (by lia)) h
theorem Two.belowA (T:Two O rk S a b) {i j:Nat}{x:Keyed} (hij:i<=j) (hj:j<a.size) (h:O.blt (rk x) (rk (kyd a j))=false):O.blt (rk x) (rk (kyd a i))=false:=
 qbt (O:=O) (T.ua i j (qa7 _) hij (by lia)) h
theorem tP {a:Array Keyed}{t k:Nat} (h:t+k<a.size):out++(a.extract t (t+(k+1))).reverse=(out.push (kyd a (t+k)))++(a.extract t (t+k)).reverse:=by
 apply qbf.mp
 have e:=pk (out:=#[]) (a:=a) (i:=t) (k:=k) h
 have e':a.extract t (t+(k+1))=(a.extract t (t+k)).push (kyd a (t+k)):=by
  have z:∀ x:Array Keyed,#[]++x=x:=λx=>by simp
  rw[z,z]at e;exact e
 rw[e'];simp
theorem MH.as (T:Two O rk S a b) {t:Nat} (hb:∀ i,i<nb->i<b.size->∀ j,t<=j->j<a.size->O.blt (rk (kyd b i)) (rk (kyd a j))=true):∀ (k:Nat) {out:Array Keyed},MH O rk a b out (t+k) nb->t+k<=a.size->MH O rk a b (out++(a.extract t (t+k)).reverse) t nb
 |0,out,h,_=>by
  have:out++(a.extract t (t+0)).reverse=out:=by apply qbf.mp;simp
  rw[this];exact h
 |k+1,out,h,hz=>by
  rw[tP (by lia)]
  exact MH.as T hb k (MH.a1 (na:=t+k) h (by lia) λi h1 h2=>hb i h1 h2 (t+k) (by lia) (by lia)) (by lia)
theorem MH.bs (T:Two O rk S a b) {t:Nat} (hb:∀ i,i<na->i<a.size->∀ j,t<=j->j<b.size->O.blt (rk (kyd b j)) (rk (kyd a i))=false):∀ (k:Nat) {out:Array Keyed},MH O rk a b out na (t+k)->t+k<=b.size->MH O rk a b (out++(b.extract t (t+k)).reverse) na t
 |0,out,h,_=>by
  have:out++(b.extract t (t+0)).reverse=out:=by apply qbf.mp;simp
  rw[this];exact h
 |k+1,out,h,hz=>by
  rw[tP (by lia)]
  exact MH.bs T hb k (MH.b1 (nb:=t+k) h (by lia) λi h1 h2=>hb i h1 h2 (t+k) (by lia) (by lia)) (by lia)
theorem MH.a1' (T:Two O rk S a b) (h:MH O rk a b out na nb) (ha:0<na) (hz:na<=a.size) (hb:0<nb) (hz2:nb<=b.size) (hl:O.blt (rk (kyd b (nb - 1))) (rk (kyd a (na - 1)))=true):MH O rk a b (out.push (kyd a (na - 1))) (na - 1) nb:=
 MH.a1 (by rw[show na - 1+1=na by lia];exact h) (by lia) λi h1 h2=>T.belowB (by lia) (by lia) hl
theorem MH.b1' (T:Two O rk S a b) (h:MH O rk a b out na nb) (ha:0<na) (hz:na<=a.size) (hb:0<nb) (hz2:nb<=b.size) (hl:O.blt (rk (kyd b (nb - 1))) (rk (kyd a (na - 1)))=false):MH O rk a b (out.push (kyd b (nb - 1))) na (nb - 1):=
 MH.b1 (by rw[show nb - 1+1=nb by lia];exact h) (by lia) λi h1 h2=>T.belowA (by lia) (by lia) hl
theorem MH.as' (T:Two O rk S a b) {t:Nat} (h:MH O rk a b out na nb) (ht:t<=na) (hz:na<=a.size) (hb:0<nb) (hz2:nb<=b.size) (hq:∀ i,t<=i->i<na->bey O rk false (kyd b (nb - 1)) (kyd a (0+i))=false):MH O rk a b (out++(a.extract t na).reverse) t nb:=by
 by_cases e:t=na
 ·subst e
  have:out++(a.extract t t).reverse=out:=by apply qbf.mp;simp
  rw[this];exact h
 have e2:t+(na - t)=na:=by lia
 have:=MH.as T (t:=t) (nb:=nb) (a:=a) (b:=b) (λi h1 h2 j h3 h4=>?_) (na - t) (out:=out) (by rw[e2];exact h) (by lia)
 ·rw[e2]at this;exact this
 ·have q:=hq t (qan _) (by lia)
  simp only[bey,qax,if_false,qfM,qbz]at q
  exact T.belowB (j:=nb - 1) (by lia) (by lia) (qgD (O:=O) q (T.ua t j (qa7 _) h3 (by lia)))
theorem MH.bs' (T:Two O rk S a b) {t:Nat} (h:MH O rk a b out na nb) (ht:t<=nb) (hz:nb<=b.size) (ha:0<na) (hz2:na<=a.size) (hq:∀ i,t<=i->i<nb->bey O rk true (kyd a (na - 1)) (kyd b (0+i))=false):MH O rk a b (out++(b.extract t nb).reverse) na t:=by
 by_cases e:t=nb
 ·subst e
  have:out++(b.extract t t).reverse=out:=by apply qbf.mp;simp
  rw[this];exact h
 have e2:t+(nb - t)=nb:=by lia
 have:=MH.bs T (t:=t) (na:=na) (a:=a) (b:=b) (λi h1 h2 j h3 h4=>?_) (nb - t) (out:=out) (by rw[e2];exact h) (by lia)
 ·rw[e2]at this;exact this
 ·have q:=hq t (qan _) (by lia)
  simp only[bey,if_true,qbz]at q
  exact T.belowA (j:=na - 1) (by lia) (by lia) (qbt (O:=O) q (T.ub t j (qa7 _) h3 (by lia)))
set_option maxHeartbeats 4000000 in
theorem A2 (hC:Cm prog w A s κ O rk S) {Q:Array Keyed->qbk->Prop} (hk:kindOf st=κ) (T:Two O rk S a b)
  (h:∀ r st',Gs st st'->r.toList=mrg O rk a.toList b.toList->Q r st'):wpS (model prog w) A E s (FK a b) Q st:=by
 have pa:=T.pa
 have pb:=T.pb
 refine qav (iP ?_)
 refine qav (bw (bj (by lia)) ?_)
 have I0:MH O rk a b #[kyd a (a.size - 1)] (a.size - 1) b.size:=by
  have e:a.size - 1+1=a.size:=by lia
  exact MH.a1 (out:=#[]) (by rw[e];exact MH.start) (by lia) λi h1 h2=>T.last i h2
 dsimp -zeta only
 by_cases e1:a.size - 1=0
 ·refine bv (by simpa using e1) ?_
  exact qaG (h _ _ .refl (I0.doneA e1))
 refine bi (by simpa using e1) ?_
 by_cases e2:b.size=1
 ·refine bv (by simpa using e2) ?_
  exact qaG (h _ _ .refl (I0.firstB T (by lia) e2))
 refine bi (by simpa using e2) ?_
 refine qav (qd3 ?_)
 refine qav (qdI (qbV (I:=λx c st'=>∃ out na nb g,c=(none,na,nb,out,g)/\MH O rk a b out na nb/\0 < na/\1 < nb/\na<=a.size/\nb<=b.size/\na+nb+x+1<=a.size+b.size/\Gs st st')
  (Q:=λc st'=>∃ r c',c=(some r,c')/\r.toList=mrg O rk a.toList b.toList/\Gs st st') ?_ ?_ ?_) ?_)
 ·rintro x c st' _ hx ⟨out,na,nb,g,rfl,I,ha,hb,hza,hzb,hp,hG⟩
  have hk':kindOf st'=κ:=hG.kind.trans hk
  refine qav (qdI (qbV (I:=λy c st2=>st2=st'/\∃ out ma mb ac bc,c=(none,ma,mb,out,ac,bc)/\MH O rk a b out ma mb/\0 < ma/\1 < mb/\ma<=a.size/\mb<=b.size/\ma+mb+y<=na+nb)
   (Q:=λc st2=>st2=st'/\((∃ r c',c=(some r,c')/\r.toList=mrg O rk a.toList b.toList)\/∃ out ma mb ac bc,c=(none,ma,mb,out,ac,bc)/\MH O rk a b out ma mb/\0<ma/\1<mb/\ma<=a.size/\mb<=b.size/\ma+mb+1<=na+nb)) ?_ ?_ ?_) ?_)
  ·rintro y c st2 _ hy ⟨rfl,out2,ma,mb,ac,bc,rfl,I2,ha2,hb2,za2,zb2,hp2⟩
   dsimp only
   refine qav (bw (bj (by lia)) (qav (bw (bj (by lia)) (qav (tV hC hk' (T.sb _ (by lia)) (T.sa _ (by lia)) ?_)))))
   cases hl:O.blt (rk (kyd b (mb - 1))) (rk (kyd a (ma - 1))) with
   |true=>
    dsimp only
    refine bv rfl ?_
    refine qav (bw (bj (by lia)) ?_)
    have I3:=I2.a1' T ha2 za2 (by lia) zb2 hl
    by_cases e3:ma - 1=0
    ·refine bv (by simpa using e3) ?_
     exact qaG ⟨rfl,.inl ⟨_,_,rfl,I3.doneA e3⟩⟩
    ·refine bi (by simpa using e3) ?_
     split
     ·exact qaG ⟨rfl,.inr ⟨_,_,_,_,_,rfl,I3,by lia,hb2,by lia,zb2,by lia⟩⟩
     ·exact qaG ⟨rfl,_,_,_,_,_,rfl,I3,by lia,hb2,by lia,zb2,by lia⟩
   |false=>
    dsimp only
    refine bi (by simp) ?_
    refine qav (bw (bj (by lia)) ?_)
    have I3:=I2.b1' T ha2 za2 (by lia) zb2 hl
    by_cases e3:mb - 1=1
    ·refine bv (by simpa using e3) ?_
     exact qaG ⟨rfl,.inl ⟨_,_,rfl,I3.firstB T ha2 e3⟩⟩
    ·refine bi (by simpa using e3) ?_
     split
     ·exact qaG ⟨rfl,.inr ⟨_,_,_,_,_,rfl,I3,ha2,by lia,za2,by lia,by lia⟩⟩
     ·exact qaG ⟨rfl,_,_,_,_,_,rfl,I3,ha2,by lia,za2,by lia,by lia⟩
  ·rintro c st2 ⟨rfl,out2,ma,mb,ac,bc,rfl,I2,ha2,hb2,za2,zb2,hp2⟩
   exact⟨rfl,.inr ⟨_,_,_,_,_,rfl,I2,ha2,hb2,za2,zb2,by lia⟩⟩
  ·exact⟨rfl,out,na,nb,0,0,rfl,I,ha,hb,hza,hzb,by lia⟩
  ·rintro c st2 ⟨rfl,⟨r,c',rfl,hr⟩|⟨out2,ma,mb,ac,bc,rfl,I2,ha2,hb2,za2,zb2,hp2⟩⟩
   ·exact qaG ⟨_,_,rfl,hr,hG⟩
   refine qav (iP ?_)
   refine qav (qdI (qbV (I:=λy c st3=>Gs st st3/\∃ out ma mb g ac bc,c=(none,ma,mb,out,g,ac,bc)/\MH O rk a b out ma mb/\0 < ma/\1 < mb/\ma<=a.size/\mb<=b.size/\ma+mb+1<=na+nb)
    (Q:=λc st3=>Gs st st3/\((∃ r c',c=(some r,c')/\r.toList=mrg O rk a.toList b.toList)\/∃ out ma mb g ac bc,c=(none,ma,mb,out,g,ac,bc)/\MH O rk a b out ma mb/\0<ma/\1<mb/\ma<=a.size/\mb<=b.size/\ma+mb+1<=na+nb)) ?_ ?_ ?_) ?_)
   ·rintro y c st3 _ hy ⟨hG3,out3,ma,mb,g3,ac,bc,rfl,I3,ha3,hb3,za3,zb3,hp3⟩
    have gal1:∀ (g4:Nat) (Q':Option Nat->qbk->Prop),(∀ k,k<=ma->(∀ i,i<k->bey O rk false (kyd b (mb - 1)) (kyd a (0+i))=true)->(∀ i,k<=i->i<ma->bey O rk false (kyd b (mb - 1)) (kyd a (0+i))=false)->Q' (some k) (qbI (kindOf st3) (arrOf st3) (qbs st3) g4 (qb6 st3)))->
      wpS (model prog w) A E s (rq false (kyd b (mb - 1)) a 0 ma (ma - 1)) Q' (qbI (kindOf st3) (arrOf st3) (qbs st3) g4 (qb6 st3)):=λg4 Q' hq=>
     gc hC (hG3.kind.trans hk) (T.sb _ (by lia)) (by lia) (λi hi=>T.sa _ (by lia)) (by lia) (T.galA (by lia)) hq
    dsimp only
    apply shr (C:=g3 > 1)
    case hp=>
     intro hg1 tail
     refine bv hg1 ?_
     generalize g3 - 1=g4
     revert g4
     exact tail.out
    case hn=>
     intro hg1 tail
     refine bi hg1 ?_
     exact tail.out g3
    case g=>
     intro g4
     refine qav (qc1 ?_)
     refine qav (bw (bj (by lia)) (qav (gal1 _ _ λt hk1 hk2 hk3=>?_)))
     have I4:=I3.as' T hk1 za3 (by lia) zb3 hk3
     have hb5:∀ i,i<t->O.blt (rk (kyd b (mb - 1))) (rk (kyd a i))=false:=λi hi=>by simpa [bey] using hk2 i hi
     clear hk2 hk3 gal1
     dsimp only
     apply shr (C:=ma - t > 0)
     case hp=>
      intro hk0 tail
      refine bv hk0 ?_
      by_cases e3:t=0
      ·refine bv (by simpa using e3) ?_
       exact qaG ⟨hG3.set _,.inl ⟨_,_,rfl,I4.doneA e3⟩⟩
      refine bi (by simpa using e3) ?_
      have ha5:0<t:=by lia
      have za5:t<=a.size:=by lia
      have hp5:t+mb+1<=na+nb:=by lia
      have J4:=I4
      have jb5:=hb5
      generalize out3++(a.extract t ma).reverse=out5 at J4 ⊢
      generalize ma - t=ac5
      generalize t=t5 at jb5 J4 ha5 za5 hp5 ⊢
      revert jb5 J4 ha5 za5 hp5
      revert ac5 out5 t5
      exact tail.out
     case hn=>
      intro hk0 tail
      refine bi hk0 ?_
      have e0:t=ma:=by lia
      subst e0
      have e9:out3++(a.extract t t).reverse=out3:=by apply qbf.mp;simp
      rw[e9]at I4
      exact tail.out _ _ t hb5 I4 ha3 za3 hp3
     case g=>
      clear I4 hb5 hk1
      intro out5 ac5 t hb5 I4 ha5 za5 hp5
      refine qav (bw (bj (by lia)) ?_)
      have I5:=I4.b1' T ha5 za5 (by lia) zb3 (hb5 _ (by lia))
      by_cases e5:mb - 1=1
      ·refine bv (by simpa using e5) ?_
       exact qaG ⟨hG3.set _,.inl ⟨_,_,rfl,I5.firstB T ha5 e5⟩⟩
      refine bi (by simpa using e5) ?_
      refine qav (bw (bj (by lia)) (qav (gc hC (hG3.kind.trans hk) (T.sa _ (by lia)) (by lia) (λi hi=>T.sb _ (by lia)) (by lia) (T.galB (by lia)) λu hk1 hk2 hk3=>?_)))
      have I6:=I5.bs' T hk1 (by lia) ha5 za5 hk3
      have hb7:∀ i,i<u->O.blt (rk (kyd b i)) (rk (kyd a (t - 1)))=true:=λi hi=>by simpa [bey] using hk2 i hi
      clear hk2 hk3
      dsimp only
      apply shr (C:=mb - 1 - u > 0)
      case hp=>
       intro hk20 tail
       refine bv hk20 ?_
       by_cases e6:u=1
       ·refine bv (by simpa using e6) ?_
        exact qaG ⟨hG3.set _,.inl ⟨_,_,rfl,I6.firstB T ha5 e6⟩⟩
       refine bi (by simpa using e6) ?_
       by_cases e7:u=0
       ·refine bv (by simpa using e7) ?_
        exact qaG ⟨hG3.set _,.inl ⟨_,_,rfl,I6.doneB e7⟩⟩
       refine bi (by simpa using e7) ?_
       have hj7:1<u:=by lia
       have zj7:u<=b.size:=by lia
       have hp7:t+u+1<=na+nb:=by lia
       have J6:=I6
       have jb7:=hb7
       generalize out5.push (kyd b (mb - 1))++(b.extract u (mb - 1)).reverse=out7 at J6 ⊢
       generalize mb - 1 - u=bc7
       generalize u=u7 at jb7 J6 hj7 zj7 hp7 ⊢
       revert jb7 J6 hj7 zj7 hp7
       revert bc7 out7 u7
       exact tail.out
      case hn=>
       intro hk20 tail
       refine bi hk20 ?_
       have e0:u=mb - 1:=by lia
       subst e0
       have e9:out5.push (kyd b (mb - 1))++(b.extract (mb - 1) (mb - 1)).reverse=out5.push (kyd b (mb - 1)):=by apply qbf.mp;simp
       rw[e9]at I6
       exact tail.out _ _ (mb - 1) hb7 I6 (by lia) (by lia) (by lia)
      case g=>
       clear I6 hb7 hk1
       intro out7 bc7 u hb7 I6 hj7 zj7 hp7
       refine qav (bw (bj (by lia)) ?_)
       have I7:=I6.a1' T ha5 za5 (by lia) zj7 (hb7 _ (by lia))
       by_cases e7:t - 1=0
       ·refine bv (by simpa using e7) ?_
        exact qaG ⟨hG3.set _,.inl ⟨_,_,rfl,I7.doneA e7⟩⟩
       refine bi (by simpa using e7) ?_
       split
       ·exact qaG ⟨hG3.set _,.inr ⟨_,_,_,_,_,_,rfl,I7,by lia,hj7,by lia,zj7,by lia⟩⟩
       ·exact qaG ⟨hG3.set _,_,_,_,_,_,_,rfl,I7,by lia,hj7,by lia,zj7,by lia⟩
   ·rintro c st3 ⟨hG3,out3,ja,jb,g3,ac,bc,rfl,I3,ha3,hb3,za3,zb3,hp3⟩
    exact⟨hG3,.inr ⟨_,_,_,_,_,_,rfl,I3,ha3,hb3,za3,zb3,hp3⟩⟩
   ·exact⟨hG,_,_,_,_,_,_,rfl,I2,ha2,hb2,za2,zb2,hp2⟩
   ·rintro c st3 ⟨hG3,⟨r,c',rfl,hr⟩|⟨out3,ja,jb,g3,ac,bc,rfl,I3,ha3,hb3,za3,zb3,hp3⟩⟩
    ·exact qaG ⟨_,_,rfl,hr,hG3⟩
    ·refine qav (qc1 (qaG ⟨out3,ja,jb,_,rfl,I3,ha3,hb3,za3,zb3,by lia,hG3.set _⟩))
 ·rintro c st' ⟨out,ia,ib,g,rfl,I,ha,hb,hza,hzb,hp,hG⟩
  exfalso;lia
 ·exact⟨_,_,_,_,rfl,I0,by lia,by lia,by lia,by lia,by lia,.refl⟩
 ·rintro c st' ⟨r,c',rfl,hr,hG⟩
  exact qaG (h r st' hG hr)
end
section
variable {prog:qaX}{w:World}{A:qbc}{E:Value->qaj->Prop}{s:qaj}{κ:qdi}{O:qec}{rk:Keyed->O.α}{S:Keyed->Prop}{st:qbk}{arr:Array Keyed}{n1 n2:Nat}
theorem wp (sa:Nat):∀ (l:List Keyed) (n:Nat) (arr:Array Keyed),sa+n+l.length<=arr.size->
  ((l.zipIdx n).foldl (λ(a:Array Keyed) x=>match x with|(p,j)=>a.setIfInBounds (sa+j) p) arr).toList=arr.toList.take (sa+n)++l++arr.toList.drop (sa+n+l.length)
 |[],n,arr,h=>by simp
 |p::l,n,arr,h=>by
  rw[List.zipIdx_cons,qbw,wp sa l (n+1) _ (by simp only[qas]at h;simp;lia)]
  have hn:sa+n<arr.toList.length:=by simp only[qas]at h;simp;lia
  rw[Array.toList_setIfInBounds,<-qfO,qdC (by rw[qcI];exact hn),List.getElem_set_self,List.take_set_of_le (qan _),List.drop_set_of_lt (by lia),qas]
  simp[qfO,qf7 1]
theorem fX {a:Array Keyed}{i j k:Nat} (h:k<j - i) (hj:j<=a.size):kyd (a.extract i j) k=kyd a (i+k):=by
 apply dL
 rw[Array.getElem?_extract_of_lt (by lia),qaJ (by lia)]
theorem ql {a:Array Keyed} (h:Up rk a 0 a.size):a.toList.Pairwise λx y=>O.kle (rk x) (rk y):=by
 rw[List.pairwise_iff_getElem]
 intro i j hi hj hij
 have hi':i<a.size:=by simpa using hi
 have hj':j<a.size:=by simpa using hj
 have q:=h i j (qa7 _) (by lia) (by lia)
 have e1:=bj hi'
 have e2:=bj hj'
 rw[qaJ hi']at e1
 rw[qaJ hj']at e2
 rw[<-qaR e1,<-qaR e2]at q
 simpa using q
theorem rA {a:Array Keyed}{i j:Nat} (h:Up rk a i (j - i)) (hj:j<=a.size):Up rk (a.extract i j) 0 (a.extract i j).size:=by
 intro x y _ hxy hy
 have hs:(a.extract i j).size=j - i:=by simp;lia
 rw[fX (by lia) hj,fX (by lia) hj]
 exact h _ _ (by lia) (by lia) (by lia)
theorem nO {a:Array Keyed}{i j:Nat}{x:Keyed} (h:x∈(a.extract i j).toList) (hj:j<=a.size):∃ k,i<=k/\k<j/\x=kyd a k:=by
 obtain⟨k,hk,rfl⟩:=wW h
 have hs:(a.extract i j).size=j - i:=by simp;lia
 exact⟨i+k,by lia,by lia,by rw[fX (by lia) hj]⟩
theorem Do {a:Array Keyed}{i j k:Nat} (h1:i<=j) (h2:j<=k) (h3:k<=a.size):a.toList=a.toList.take i++(a.extract i j).toList++(a.extract j k).toList++a.toList.drop k:=by
 have e1:(a.extract i j).toList=(a.toList.drop i).take (j - i):=by rw[qbD,qbT]
 have e2:(a.extract j k).toList=(a.toList.drop j).take (k - j):=by rw[qbD,qbT]
 rw[e1,e2]
 have c1:a.toList.take i++(a.toList.drop i).take (j - i)=a.toList.take j:=by
  rw[<-qjt,show i+(j - i)=j by lia]
 have c2:a.toList.take j++(a.toList.drop j).take (k - j)=a.toList.take k:=by
  rw[<-qjt,show j+(k - j)=k by lia]
 rw[c1,c2,qhA]
set_option maxHeartbeats 2000000 in
theorem A0 (hC:Cm prog w A s κ O rk S) {Q:Bool->qbk->Prop}{p q:Nat} (hk:kindOf st=κ) (hf:qb6 st=none) (hp:qbs st=#[(0,n1,p),(n1,n2,q)]) (hS:∀ x∈(arrOf st).toList,S x) (hz:(arrOf st).size=n1+n2) (h1:0<n1) (h2:0<n2)
  (u1:Up rk (arrOf st) 0 n1) (u2:Up rk (arrOf st) n1 n2)
  (h:∀ st',(arrOf st').toList.Perm (arrOf st).toList->(arrOf st').toList.Pairwise (λx y=>O.kle (rk x) (rk y))->qb6 st'=none->qbs st'=#[(0,n1+n2,p)]->Q true st'):wpS (model prog w) A E s (CK 0) Q st:=by
 have hSi:∀ i,i<n1+n2->S (kyd (arrOf st) i):=λi hi=>by
  have hi':i<(arrOf st).size:=by lia
  refine hS _ ?_
  have e:=bj hi'
  rw[qaJ hi']at e
  rw[<-qaR e];exact qgW hi'
 refine qav (qd3 ?_)
 have e1:(qbs st)[0]?=some (0,n1,p):=by rw[hp];rfl
 have e2:(qbs st)[0+1]?=some (n1,n2,q):=by rw[hp];rfl
 rw[e1,e2]
 refine qav ?_
 have hset:∀ (x:qbk) (Q':PUnit->qbk->Prop) (st0:qbk),Q' ⟨⟩ x->wpS (model prog w) A E s (set x:StateT qbk Sem PUnit) Q' st0:=λx Q' st0 hq=>by
  unfold wpS;exact qab ⟨rfl,hq⟩
 refine hset _ _ _ ?_
 have e3:((qbs st).setIfInBounds 0 (0,n1+n2,p)).eraseIdxIfInBounds (0+1)=#[(0,n1+n2,p)]:=by
  rw[hp];apply qbf.mp;simp[Array.eraseIdxIfInBounds]
 rw[e3]
 clear e1 e2 e3 hp
 delta arrOf kindOf qb6 qeg at *
 obtain⟨kd,arr,pn,gl,fl⟩:=st
 dsimp only at hk hf hS hz u1 u2 h hSi
 dsimp -zeta only
 have h:∀ st',(arrOf st').toList.Perm arr.toList->(arrOf st').toList.Pairwise (λx y=>O.kle (rk x) (rk y))->qb6 st'=none->qbs st'=#[(0,n1+n2,p)]->Q true st':=h
 have k2:kindOf (qbI kd arr #[(0,n1+n2,p)] gl fl)=κ:=hk
 have a2:arrOf (qbI kd arr #[(0,n1+n2,p)] gl fl)=arr:=rfl
 have f2:qb6 (qbI kd arr #[(0,n1+n2,p)] gl fl)=none:=hf
 have p2:qbs (qbI kd arr #[(0,n1+n2,p)] gl fl)=#[(0,n1+n2,p)]:=rfl
 have whole:O.kle (rk (kyd arr (n1 - 1))) (rk (kyd arr n1))->arr.toList.Pairwise λx y=>O.kle (rk x) (rk y):=λhm=>ql λi j _ hij hj=>by
  by_cases c1:j<n1
  ·exact u1 i j (qa7 _) hij (by lia)
  ·by_cases c2:n1<=i
   ·exact u2 i j c2 hij (by lia)
   ·exact qbt (qbt (u1 i (n1 - 1) (qa7 _) (by lia) (by lia)) hm) (u2 n1 j (qan _) (by lia) (by lia))
 have ok:arr.toList.Pairwise (λx y=>O.kle (rk x) (rk y))->Q true (qbI kd arr #[(0,n1+n2,p)] gl fl):=λhw=>h (qbI kd arr #[(0,n1+n2,p)] gl fl) (by rw[a2]) (by rw[a2];exact hw) f2 p2
 refine qav (bw (bj (by lia)) (qav (gc hC k2 (hSi _ (by lia)) (by lia) (λi hi=>hSi _ (by lia)) (by lia) (λi j hij hj hb=>?_) λk hk1 hk2 hk3=>?_)))
 ·simp only[bey,qax,if_false,qcq]at hb ⊢
  exact qbt (O:=O) (u1 (0+i) (0+j) (qa7 _) (by lia) (by lia)) hb
 simp only[bey,qax,if_false,qcq,qfM,qbz]at hk2 hk3
 dsimp only
 by_cases c1:n1 - k=0
 ·refine bv (by simpa using c1) ?_
  exact qaG (ok (whole (hk2 (n1 - 1) (by lia))))
 refine bi (by simpa using c1) ?_
 rw[show 0+k+(n1 - k) - 1=n1 - 1 by lia,qbz]
 refine qav (bw (bj (by lia)) (qav (gc hC k2 (hSi _ (by lia)) (by lia) (λi hi=>hSi _ (by lia)) (by lia) (λi j hij hj hb=>?_) λnb hb1 hb2 hb3=>?_)))
 ·simp only[bey,if_true]at hb ⊢
  exact qen (O:=O) (u2 (n1+i) (n1+j) (by lia) (by lia) (by lia)) hb
 simp only[bey,if_true]at hb2 hb3
 dsimp only
 by_cases c2:nb=0
 ·refine bv (by simpa using c2) ?_
  exact qaG (ok (whole (hb3 0 (by lia) (by lia))))
 refine bi (by simpa using c2) ?_
 have sx:(arr.extract k n1).size=n1 - k:=by simp;lia
 have sy:(arr.extract n1 (n1+nb)).size=nb:=by simp;lia
 have T:Two O rk S (arr.extract k n1) (arr.extract n1 (n1+nb)):=by
  refine⟨λi hi=>?_,λi hi=>?_,rA (λi j a b c=>u1 i j (qa7 _) b (by lia)) (by lia),rA (λi j a b c=>u2 i j a b (by lia)) (by lia),by lia,by lia,?_,λi hi=>?_⟩
  ·rw[fX (by lia) (by lia)];exact hSi _ (by lia)
  ·rw[fX (by lia) (by lia)];exact hSi _ (by lia)
  ·rw[fX (by lia) (by lia),fX (by lia) (by lia)];exact hk3 _ (by lia) (by lia)
  ·rw[fX (by lia) (by lia),fX (by lia) (by lia),sx,show k+(n1 - k - 1)=n1 - 1 by lia];exact hb2 i (by lia)
 have fin:∀ (r:Array Keyed) st',Gs (qbI kd arr #[(0,n1+n2,p)] gl fl) st'->r.toList=mrg O rk (arr.extract k n1).toList (arr.extract n1 (n1+nb)).toList->
   Q true (qbI (kindOf st') ((r.toList.zipIdx).foldl (λ(a:Array Keyed) x=>match x with|(p,j)=>a.setIfInBounds (k+j) p) (arrOf st')) (qbs st') (qeg st') (qb6 st')):=by
  rintro r st' ⟨g,rfl⟩ hr
  have hl:r.toList.length=n1 - k+nb:=by rw[hr,(oM _ _).length_eq,qa2,qa5,qa5,sx,sy]
  have e5:=wp k r.toList 0 arr (by lia)
  rw[qhN,hl,show k+(n1 - k+nb)=n1+nb by lia,hr]at e5
  have e6:=Do (a:=arr) (i:=k) (j:=n1) (k:=n1+nb) (by lia) (by lia) (by lia)
  refine h _ ?_ ?_ f2 p2
  ·show (qe4 _ (arrOf (qbI kd arr #[(0,n1+n2,p)] gl fl)) _).toList.Perm _
   rw[a2,hr,e5]
   conv=>rhs;rw[e6]
   exact ((oM _ _).append_left _ |>.append_right _).trans (by rw[qb8,qb8,qb8,qb8])
  ·show (qe4 _ (arrOf (qbI kd arr #[(0,n1+n2,p)] gl fl)) _).toList.Pairwise _
   rw[a2,hr,e5]
   have m1:∀ x∈arr.toList.take k,∃ i,i<k/\x=kyd arr i:=λx hx=>by
    rw[<-jM]at hx
    obtain⟨i,_,hi,e⟩:=nO hx (by lia)
    exact⟨i,hi,e⟩
   have m2:∀ x∈arr.toList.drop (n1+nb),∃ i,n1+nb<=i/\i<arr.size/\x=kyd arr i:=λx hx=>by
    rw[<-gO]at hx
    obtain⟨i,h1,h2,e⟩:=nO hx (qan _)
    exact⟨i,h1,h2,e⟩
   have m3:∀ x∈mrg O rk (arr.extract k n1).toList (arr.extract n1 (n1+nb)).toList,∃ i,k<=i/\i<n1+nb/\x=kyd arr i:=λx hx=>by
    rcases qbe.mp ((oM _ _).mem_iff.mp hx) with hx|hx
    ·obtain⟨i,h1,h2,e⟩:=nO hx (by lia);exact⟨i,h1,by lia,e⟩
    ·obtain⟨i,h1,h2,e⟩:=nO hx (by lia);exact⟨i,by lia,h2,e⟩
   have lowHi:∀ i j,i<k->n1<=j->j<n1+n2->O.kle (rk (kyd arr i)) (rk (kyd arr j)):=λi j hi h3 h4=>qbt (hk2 i hi) (u2 n1 j (qan _) h3 h4)
   have hiHi:∀ i j,i<n1->n1+nb<=j->j<n1+n2->O.kle (rk (kyd arr i)) (rk (kyd arr j)):=λi j hi h3 h4=>by
    have:=hb3 (j - n1) (by lia) (by lia)
    rw[show n1+(j - n1)=j by lia]at this
    exact qbt (u1 i (n1 - 1) (qa7 _) (by lia) (by lia)) this
   refine qfa.mpr ⟨qfa.mpr ⟨?_,DO (ql T.ua) (ql T.ub),?_⟩,?_,?_⟩
   ·rw[<-jM]
    exact ql (rA (λi j a b c=>u1 i j (qa7 _) b (by lia)) (by lia))
   ·intro x hx y hy
    obtain⟨i,hi,rfl⟩:=m1 x hx
    obtain⟨j,j1,j2,rfl⟩:=m3 y hy
    by_cases c:j<n1
    ·exact u1 i j (qa7 _) (by lia) (by lia)
    ·exact lowHi i j hi (by lia) (by lia)
   ·rw[<-gO]
    exact ql (rA (λi j a b c=>u2 i j (by lia) b (by lia)) (qan _))
   ·intro x hx y hy
    obtain⟨j,j1,j2,rfl⟩:=m2 y hy
    have hx':∃ i,i<n1+nb/\x=kyd arr i:=by
     rcases qbe.mp hx with hx|hx
     ·obtain⟨i,hi,e⟩:=m1 x hx;exact⟨i,by lia,e⟩
     ·obtain⟨i,_,hi,e⟩:=m3 x hx;exact⟨i,hi,e⟩
    obtain⟨i,hi,rfl⟩:=hx'
    by_cases c:i<n1
    ·exact hiHi i j c j1 (by lia)
    ·exact u2 i j (by lia) (by lia) (by lia)
 have isn:∀ st',Gs (qbI kd arr #[(0,n1+n2,p)] gl fl) st'->qb6 st'=none:=by rintro st' ⟨g,rfl⟩;exact f2
 split
 ·refine qav (Bp hC k2 T λr st' hG hr=>?_)
  refine qav (qc1 (qav (qd3 (qaG ?_))))
  have:=fin r st' hG hr
  have e:=isn st' hG
  have e':(qb6 st').isNone=true:=by rw[e];rfl
  rw[<-e']at this
  exact this
 ·refine qav (A2 hC k2 T λr st' hG hr=>?_)
  refine qav (qc1 (qav (qd3 (qaG ?_))))
  have:=fin r st' hG hr
  have e:=isn st' hG
  have e':(qb6 st').isNone=true:=by rw[e];rfl
  rw[<-e']at this
  exact this
end
section
variable {prog:qaX}{w:World}{A:qbc}{E:Value->qaj->Prop}{s:qaj}{κ:qdi}{O:qec}{rk:Keyed->O.α}{S:Keyed->Prop}{st:qbk}{a0:Array Keyed}
structure C5 (κ:qdi) (O:qec) (rk:Keyed->O.α) (a0:Array Keyed) (n1:Nat) (st:qbk):Prop where
 perm:(arrOf st).Perm a0
 kind:kindOf st=κ
 fail:qb6 st=none
 pend:qbs st=#[(0,n1,0)]
 up:Up rk (arrOf st) 0 n1
structure A6 (κ:qdi) (O:qec) (rk:Keyed->O.α) (a0:Array Keyed) (st:qbk):Prop where
 perm:(arrOf st).Perm a0
 kind:kindOf st=κ
 fail:qb6 st=none
 ex:∃ n1 n2 p,0<n1/\0<n2/\n1+n2=a0.size/\qbs st=#[(0,n1,p),(n1,n2,0)]/\Up rk (arrOf st) 0 n1/\Up rk (arrOf st) n1 n2
theorem E6 {n:Nat} (h2:2<=n) (h64:n<=64):(n<64/\minRun' n n 0=n)\/n=64/\minRun' n n 0=32:=by
 by_cases h:n=64
 ·subst h;exact .inr ⟨rfl,rfl⟩
 ·obtain⟨f,rfl⟩:∃ f,n=f+1:=⟨n - 1,by lia⟩
  exact .inl ⟨by lia,by rw[minRun'_succ,if_pos (by lia)]⟩
set_option maxHeartbeats 2000000 in
theorem BL (hC:Cm prog w A s κ O rk S) {Q:Unit->qbk->Prop} (hk:kindOf st=κ) (hf:qb6 st=none) (hp:qbs st=#[]) (ha:arrOf st=a0) (hS:∀ x∈a0.toList,S x) (h2:2<=a0.size) (h64:a0.size<=64)
  (h:∀ st',(arrOf st').toList.Perm a0.toList->(arrOf st').toList.Pairwise (λx y=>O.kle (rk x) (rk y))->qb6 st'=none->Q () st'):wpS (model prog w) A E s sortRuns' Q st:=by
 obtain⟨mr,hm0,hmr⟩:∃ mr,(sortPriv% PySem.Builtin.minRun) a0.size a0.size 0=mr/\((a0.size<64/\mr=a0.size)\/a0.size=64/\mr=32):=⟨_,rfl,E6 h2 h64⟩
 refine qav (qd3 ?_)
 have hz:(arrOf st).size=a0.size:=by rw[ha]
 dsimp only
 rw[hz,hm0]
 refine qav (qdI (qbV (I:=λx c st'=>(x=0/\c=(none,0)/\SB κ a0 0 #[] (qeg st) st')\/(∃ n1,c=(none,n1)/\C5 κ O rk a0 n1 st'/\1<=x/\(n1=a0.size\/x=1/\32<=n1/\n1 < 64/\a0.size=64))\/(c=(none,a0.size)/\A6 κ O rk a0 st'/\1<=x))
  (Q:=λc st'=>c.1=none/\(C5 κ O rk a0 a0.size st'\/A6 κ O rk a0 st')) ?_ ?_ ?_) ?_)
 ·rintro x c st' _ hx H
  rcases H with⟨rfl,rfl,hB⟩|⟨n1,rfl,hR,hx1,hor⟩|⟨rfl,hR,hx1⟩
  ·dsimp only
   refine bi (by lia) ?_
   refine qav (ww hC hS hB (by lia) (by lia) λm st2 hB2 m1 m2 u=>?_)
   have put:∀ n st3,SB κ a0 0 #[] (qeg st) st3->Up rk (arrOf st3) 0 n->mr<=n->n<=a0.size->
     C5 κ O rk a0 n (qbI (kindOf st3) (arrOf st3) ((qbs st3).push (0,n,0)) (qeg st3) (qb6 st3))/\(n=a0.size\/0+1=1/\32<=n/\n<64/\a0.size=64):=λn st3 hB3 u3 h1 h2=>
    ⟨⟨hB3.perm,hB3.kind,hB3.fail,by show (qbs st3).push _=_;rw[hB3.pend];rfl,u3⟩,by lia⟩
   dsimp only
   by_cases hlt:m<mr
   ·refine bv hlt ?_
    refine qav (iP (qav (tK hC hS hB2 m1 (by lia) (by lia) u λst3 hB3 u3=>?_)))
    refine bi (by simp) ?_
    have hP:=put _ st3 hB3 u3 (by lia) (by lia)
    refine qav (qd3 ?_)
    have hb:(qbs st3).back?=none:=by rw[hB3.pend];rfl
    rw[hb]
    exact qav (qc1 (qaG (.inr (.inl ⟨_,by rw[qbz],hP.1,by lia,hP.2⟩))))
   ·refine bi hlt ?_
    have hP:=put m st2 hB2 u (by lia) (by lia)
    refine qav (qd3 ?_)
    have hb:(qbs st2).back?=none:=by rw[hB2.pend];rfl
    rw[hb]
    exact qav (qc1 (qaG (.inr (.inl ⟨_,by rw[qbz],hP.1,by lia,hP.2⟩))))
  ·dsimp only
   by_cases hge:n1>=a0.size
   ·refine bv hge ?_
    have e:n1=a0.size:=by lia
    subst e
    exact qaG ⟨rfl,.inl hR⟩
   refine bi hge ?_
   have hsz:(arrOf st').size=a0.size:=hR.perm.size_eq
   have hS':∀ x∈(arrOf st').toList,S x:=λx hx=>hS x ((qcw.mp hR.perm).mem_iff.mp hx)
   have hB:SB κ (arrOf st') n1 #[(0,n1,0)] (qeg st') st':=⟨qmn _,λ_ _=>rfl,hR.kind,hR.fail,hR.pend,rfl⟩
   have hn:32<=n1/\n1<64/\a0.size=64/\mr=32:=by lia
   refine qav (ww hC hS' hB (by lia) (by lia) λm st2 hB2 m1 m2 u=>?_)
   have put:∀ n pw st3,n=a0.size - n1->SB κ (arrOf st') n1 #[(0,n1,0)] (qeg st') st3->Up rk (arrOf st3) n1 n->
     A6 κ O rk a0 (qbI (kindOf st3) (arrOf st3) (((qbs st3).modify ((qbs st3).size - 1) λx=>(x.1,x.2.1,pw)).push (n1,n,0)) (qeg st3) (qb6 st3)):=λn pw st3 hn3 hB3 u3=>
    ⟨hB3.perm.trans hR.perm,hB3.kind,hB3.fail,n1,n,pw,by lia,by lia,by lia,by show (Array.modify (qbs st3) _ _).push _=_;rw[hB3.pend];simp,λi j a b c=>by
     show O.kle (rk (kyd (arrOf st3) i)) (rk (kyd (arrOf st3) j))
     rw[dL (hB3.pre i (by lia)),dL (hB3.pre j (by lia))]
     exact hR.up i j a b c,u3⟩
   have inner:∀ st3,SB κ (arrOf st') n1 #[(0,n1,0)] (qeg st') st3->∀ (f:Nat->Option Unit×Unit->StateT qbk Sem (ForInStep (Option Unit×Unit))) (Q':Option Unit×Unit->qbk->Prop),
     (∀ x,∀ Q'':ForInStep (Option Unit×Unit)->qbk->Prop,Q'' (.done (none,())) st3->wpS (model prog w) A E s (f x (none,())) Q'' st3)->Q' (none,()) st3->wpS (model prog w) A E s (forIn [0:a0.size] (none,()) f) Q' st3:=λst3 hB3 f Q' hf hq=>
    qbV (I:=λ_ c st4=>c=(none,())/\st4=st3) (λi c st4 _ _ hI=>by
     obtain⟨rfl,rfl⟩:=hI
     exact hf i _ hq) (λc st4 hI=>by obtain⟨rfl,rfl⟩:=hI;exact hq) ⟨rfl,rfl⟩
   dsimp only
   by_cases hlt:m<mr
   case' pos=>
    refine bv hlt ?_
    refine qav (iP (qav (tK hC hS' hB2 m1 (by lia) (by lia) u λst3 hB3 u3=>?_)))
    refine bi (by simp) ?_
    have e9:min (a0.size - n1) mr=a0.size - n1:=by lia
    rw[e9]at u3 ⊢
   case' neg=>
    refine bi hlt ?_
    have e9:m=a0.size - n1:=by lia
    subst e9
    have hB3:=hB2
    have u3:=u
    revert hB3 u3
    clear u hB2
    generalize st2=st3
    intro hB3 u3
   all_goals
    refine qav (qd3 ?_)
    have hb:(qbs st3).back?=some (0,n1,0):=by rw[hB3.pend];rfl
    rw[hb]
    refine qav (inner st3 hB3 _ _ (λx Q'' hq=>?_) ?_)
    ·refine qav (qd3 ?_)
     have hb2:(if (qbs st3).size > 1 then (qbs st3)[(qbs st3).size - 2]? else none)=none:=by rw[hB3.pend];rfl
     rw[hb2]
     exact qaG hq
    ·refine qav (qc1 (qav (qc1 (qaG (.inr (.inr ⟨?_,put _ _ st3 rfl hB3 u3,by lia⟩))))))
     rw[show n1+(a0.size - n1)=a0.size by lia]
  ·dsimp only
   refine bv (qan _) ?_
   exact qaG ⟨rfl,.inr hR⟩
 ·rintro c st' (⟨hx,_⟩|⟨n1,rfl,hR,hx1,hor⟩|⟨rfl,hR,hx1⟩)
  ·lia
  ·have e:n1=a0.size:=by lia
   subst e
   exact⟨rfl,.inl hR⟩
  ·exact⟨rfl,.inr hR⟩
 ·exact .inl ⟨rfl,rfl,by rw[ha],λ_ _=>by rw[ha],hk,hf,hp,rfl⟩
 ·rintro⟨c1,c2⟩ st' ⟨rfl,hR⟩
  dsimp only
  refine qav (qdI (qbV (I:=λy c st2=>c=(none,())/\((y=0/\A6 κ O rk a0 st2)\/((qbs st2).size=1/\(arrOf st2).toList.Perm a0.toList/\(arrOf st2).toList.Pairwise (λx y=>O.kle (rk x) (rk y))/\qb6 st2=none)))
   (Q:=λc st2=>c=(none,())/\(arrOf st2).toList.Perm a0.toList/\(arrOf st2).toList.Pairwise (λx y=>O.kle (rk x) (rk y))/\qb6 st2=none) ?_ ?_ ?_) ?_)
  ·rintro y c st2 _ hy ⟨rfl,⟨rfl,hR2⟩|⟨h1,h2',h3,h4⟩⟩
   ·refine qav (qd3 ?_)
    obtain⟨n1,n2,p,z1,z2,z3,z4,u1,u2⟩:=hR2.ex
    have hsz:(arrOf st2).size=a0.size:=hR2.perm.size_eq
    have z5:(sortPriv% PySem.Builtin.SortState.pending) st2=#[(0,n1,p),(n1,n2,0)]:=z4
    rw[z5]
    refine qav (m:=CK 0) (A0 hC hR2.kind hR2.fail z4 (λx hx=>hS x ((qcw.mp hR2.perm).mem_iff.mp hx)) (by lia) z1 z2 u1 u2 λst3 a1 a2 a3 a4=>?_)
    refine bi (by simp) ?_
    exact qaG ⟨rfl,.inr ⟨by rw[a4];rfl,a1.trans (qcw.mp hR2.perm),a2,a3⟩⟩
   ·refine qav (qd3 ?_)
    have h1':(qbs st2).size<=1:=by lia
    refine bv h1' ?_
    exact qaG ⟨rfl,h2',h3,h4⟩
  ·rintro c st2 ⟨rfl,⟨hy,_⟩|⟨h1,h2',h3,h4⟩⟩
   ·lia
   ·exact⟨rfl,h2',h3,h4⟩
  ·refine⟨rfl,?_⟩
   rcases hR with hR|hR
   ·have hsz:(arrOf st').size=a0.size:=hR.perm.size_eq
    exact .inr ⟨by rw[hR.pend];rfl,qcw.mp hR.perm,ql (by rw[hsz];exact hR.up),hR.fail⟩
   ·exact .inl ⟨rfl,hR⟩
  ·rintro c st2 ⟨rfl,h2',h3,h4⟩
   exact qaG (h st2 h2' h3 h4)
end
end L2
namespace L2
open PySem PySem.Spec PyProof.Rows PySem.SeqAt
open MeetsSeq MeetsSeq2 MeetsSeq3 SeqRoads2
open AutoSeq1 (wpAny_loadPart')
def qc (A:qbc) (s:qaj) (y x:Value) (b:Bool):Prop:=∀ (prog:qaX) (w:World) (E:Value->qaj->Prop) (Q:Value->qaj->Prop),Q (.bool b) s->wpAny (model prog w) A (richCompare .Lt y x) Q E s
def pL (e l:Nat->Bool) (fin:Bool):Nat->Nat->Bool
 |0,_=>fin
 |k+1,i=>if e i=true then pL e l fin k (i+1) else l i
theorem oK (p q:Addr) (us vs:Array Value) (n n2:Nat) (dd dd2:Option Addr) (sl sl2:Array (Option Value)) (e l:Nat->Bool) :
  Meets (qcB.«tuple.__lt__» ⟨[.ref p,.ref q],[]⟩)
   (λA R s=>(s.heap.get? p=some ⟨.type "tuple",dd,.seq us n,sl⟩/\s.heap.get? q=some ⟨.type "tuple",dd2,.seq vs n2,sl2⟩)/\
     (∀ j (h1:j<us.size) (h2:j<vs.size),EqAt A.in1 s us[j] vs[j] (e j)/\(e j=false->qc A.in1 s us[j] vs[j] (l j)))/\
     R (.ok (.ret (.bool (pL e l (decide (us.size<vs.size)) (min us.size vs.size) 0)))) s):=
 .of_wp λprog w A R s h=>by
  obtain⟨hp,g,d,tk,os⟩:=s
  obtain⟨⟨h1,h2⟩,he,h⟩:=h
  have f2:=qgo
  have hZ:(us.toList.zip vs.toList).length=min us.size vs.size:=by simp
  wp_walk using wpAny_loadPart' h1,wpAny_loadPart' h2,wpAny_forIn_list _ (λrest b s'=>b.1=none/\s'=⟨hp,g,d,tk,os⟩/\∃ i,i<=min us.size vs.size/\rest=(us.toList.zip vs.toList).drop i/\
   R (.ok (.ret (.bool (pL e l (decide (us.size<vs.size)) (min us.size vs.size - i) i)))) ⟨hp,g,d,tk,os⟩) _
  case turn=>
   rintro⟨y,x⟩ rest b s' ⟨hb',rfl,i,hi,hz,hR⟩
   have hlt:i<(us.toList.zip vs.toList).length:=by
    rcases qkP i (us.toList.zip vs.toList).length with h'|h'
    ·exact h'
    ·rw[List.drop_of_length_le h']at hz;cases hz
   rw[hZ]at hlt
   have g1:i<us.size:=by lia
   have g2:i<vs.size:=by lia
   rw[qca (by rw[hZ];exact hlt)]at hz
   injection hz with hyx hrest
   have hy:y=us[i]:=by have:=congrArg qa6 hyx;simpa using this
   have hx:x=vs[i]:=by have:=congrArg Prod.snd hyx;simpa using this
   subst hy hx
   obtain⟨k,hk⟩:∃ k,min us.size vs.size - i=k+1:=⟨min us.size vs.size - i - 1,by lia⟩
   rw[hk]at hR
   have hR':R (.ok (.ret (.bool (if e i=true then pL e l (decide (us.size<vs.size)) k (i+1) else l i)))) ⟨hp,g,d,tk,os⟩:=hR
   refine qaa ((he i g1 g2).1 prog w _ _ ?_)
   cases hy:e i with
   |true=>
    rw[hy,if_pos rfl]at hR'
    wp_walk
    exact⟨rfl,rfl,i+1,by lia,hrest,by rw[show min us.size vs.size - (i+1)=k by lia];exact hR'⟩
   |false=>
    rw[hy,if_neg (by simp)]at hR'
    simp only[qdM,if_true]
    refine qaa (qc2 ?_)
    refine qaa ((he i g1 g2).2 hy prog w _ _ ?_)
    wp_walk
    exact⟨_,rfl,hR'⟩
  case fin=>
   rintro⟨b1,b2⟩ s' ⟨hb',rfl,i,hi,hz,hR⟩
   simp only at hb'
   subst hb'
   have hge:min us.size vs.size<=i:=by
    rcases qkP i (us.toList.zip vs.toList).length with h'|h'
    ·rw[qca h']at hz;cases hz
    ·rw[hZ]at h';exact h'
   rw[show min us.size vs.size - i=0 by lia]at hR
   wp_walk
   exact⟨_,rfl,by simpa [qjV,pL] using hR⟩
  case h=>exact⟨rfl,rfl,0,qa7 _,rfl,h⟩
section
variable {A:qbc}{s:qaj}{p q:Addr}{us vs:Array Value}{e l:Nat->Bool}
theorem qc.tuples (hl:s.heap.IsTuple p us) (hb:s.heap.IsTuple q vs) (hu:A.units<cLine) (he:∀ j (h1:j<us.size) (h2:j<vs.size),EqAt A.in1 s us[j] vs[j] (e j)/\(e j=false->qc A.in1 s us[j] vs[j] (l j))) :
  qc A s (.ref p) (.ref q) (pL e l (decide (us.size<vs.size)) (min us.size vs.size) 0):=λprog w E Q h=>by
 obtain⟨⟨cls,dd,data,sl⟩,ho,hc,n,hd⟩:=id hl
 obtain⟨⟨cls2,dd2,data2,sl2⟩,ho2,hc2,n2,hd2⟩:=id hb
 simp only at hc hd hc2 hd2
 subst hc hd hc2 hd2
 exact richCompare_meets_room (op:=.Lt) ⟨_,ho,rfl⟩ ⟨_,ho2,rfl⟩ qeH qgJ (qgz _ _) (oK p q us vs n n2 dd dd2 sl sl2 e l)
  ⟨⟨ho,ho2⟩,he,(λx=>nomatch x),h⟩ hu
end
end L2
namespace L2
open PySem PySem.Spec PyProof.Rows PySem.SeqAt PySem.W
def bY:List Int->List Int->Bool
 |[],[]=>false
 |[],_::_=>true
 |_::_,[]=>false
 |a::as,b::bs=>if a=b then bY as bs else decide (a<b)
theorem lj:∀ a,bY a a=false
 |[]=>rfl
 |a::as=>by unfold bY;rw[if_pos rfl];exact lj as
theorem jp:∀ a b,bY a b=false->bY b a=false->a=b
 |[],[],_,_=>rfl
 |[],_::_,h,_=>by cases h
 |_::_,[],_,h=>by cases h
 |a::as,b::bs,h,h'=>by
  unfold bY at h h'
  by_cases e:a=b
  ·subst e
   rw[if_pos rfl]at h h'
   rw[jp as bs h h']
  ·rw[if_neg e]at h
   rw[if_neg (qcz e)]at h'
   rw[decide_eq_false_iff_not]at h h'
   lia
theorem nD:∀ a b c,bY a b=true->bY b c=true->bY a c=true
 |[],[],_,h,_=>by cases h
 |[],_::_,[],_,h=>by cases h
 |[],_::_,_::_,_,_=>rfl
 |_::_,[],_,h,_=>by cases h
 |_::_,_::_,[],_,h=>by cases h
 |a::as,b::bs,c::cs,h,h'=>by
  unfold bY at h h' ⊢
  by_cases e:a=b
  ·subst e
   rw[if_pos rfl]at h
   by_cases e2:a=c
   ·subst e2;rw[if_pos rfl]at h' ⊢;exact nD as bs cs h h'
   ·rw[if_neg e2]at h' ⊢;exact h'
  ·rw[if_neg e,decide_eq_true_iff]at h
   by_cases e2:b=c
   ·subst e2;rw[if_neg e,decide_eq_true_iff];exact h
   ·rw[if_neg e2,decide_eq_true_iff]at h'
    rw[if_neg (by lia),decide_eq_true_iff];lia
theorem zi:∀ a b c,bY a c=true->bY a b=true\/bY b c=true
 |a,b,c,h=>by
  by_cases h1:bY a b=true
  ·exact .inl h1
  ·rw[qeK]at h1
   by_cases h2:bY b a=true
   ·exact .inr (nD b a c h2 h)
   ·rw[qeK]at h2
    rw[jp a b h1 h2]at h;exact .inr h
def OI:qec:=⟨List Int,bY,lj,nD,zi,jp⟩
def TuI (h:Heap) (v:Value) (l:List Int):Prop:=∃ a its,v=.ref a/\h.IsTuple a its/\qcT its.toList l
def bq:Value->Int
 |.int n _=>n
 |_=>0
def tuI (h:Heap):Value->List Int
 |.ref a=>match h.get? a with
  |some o=>match o.data with
   |.seq its _=>its.toList.map bq
   |_=>[]
  |none=>[]
 |_=>[]
theorem lL:∀ {us:List Value}{l:List Int},qcT us l->us.map bq=l
 |_,_,.nil=>rfl
 |_,_,.cons n t h=>by rw[qal,lL h];rfl
theorem d5:∀ {us:List Value}{l:List Int},qcT us l->us.length=l.length
 |_,_,.nil=>rfl
 |_,_,.cons n t h=>by rw[qas,qas,d5 h]
theorem iJ:∀ {us:List Value}{l:List Int},qcT us l->∀ (j:Nat) (h:j<us.length),∃ t,us[j]=.int (l.getD j 0) t
 |_,_,.nil,j,h=>absurd h (qd6 j)
 |_,_,.cons n t hh,0,h=>⟨t,rfl⟩
 |_,_,.cons n t hh,j+1,h=>by
  obtain⟨t',e⟩:=iJ hh j (qhz h)
  exact⟨t',by simpa using e⟩
theorem TuI.is {h:Heap}{v:Value}{l:List Int} (t:TuI h v l):tuI h v=l:=by
 obtain⟨a,its,rfl,⟨o,ho,hc,n,hd⟩,hi⟩:=t
 simp only[tuI,ho,hd]
 exact lL hi
theorem TuI.fit {h h':Heap}{v:Value}{l:List Int} (t:TuI h v l) (hk:∀ b o,h.get? b=some o->h'.get? b=some o):TuI h' v l:=by
 obtain⟨a,its,rfl,⟨o,ho,r⟩,hi⟩:=t
 exact⟨a,its,rfl,⟨o,hk _ _ ho,r⟩,hi⟩
theorem ou:∀ (l m:List Int) (i:Nat) (e f:Nat->Bool),(∀ j,j<l.length->j<m.length->e (i+j)=decide (l.getD j 0=m.getD j 0)/\f (i+j)=decide (l.getD j 0<m.getD j 0))->
  pL e f (decide (l.length<m.length)) (min l.length m.length) i=bY l m
 |[],[],i,e,f,_=>by simp[pL,bY]
 |[],b::m,i,e,f,_=>by simp[pL,bY]
 |a::l,[],i,e,f,_=>by simp[pL,bY]
 |a::l,b::m,i,e,f,h=>by
  have h0:=h 0 (by simp) (by simp)
  rw[qas,qas,show min (l.length+1) (m.length+1)=min l.length m.length+1 by lia]
  have e1:decide (l.length+1<m.length+1)=decide (l.length<m.length):=by rw[qdx];simp
  rw[e1]
  show (if e i=true then pL e f (decide (l.length<m.length)) (min l.length m.length) (i+1) else f i)=if a=b then bY l m else decide (a<b)
  rw[qhN]at h0
  rw[h0.1,h0.2]
  by_cases q:a=b
  ·subst q
   simp only[qa1,decide_true,if_true]
   exact ou l m (i+1) e f λj h1 h2=>by
    have:=h (j+1) (by simpa using h1) (by simpa using h2)
    rw[show i+1+j=i+(j+1) by lia]
    simpa using this
  ·simp[q]
section
variable {prog:qaX}{w:World}{A:qbc}{E:Value->qaj->Prop}{s:qaj}{x y:Value}{l m:List Int}
theorem qc.ints {a b:Int}{t u:Tok}:qc A s (.int a t) (.int b u) (decide (a<b)):=λprog w E Q h=>qgq h
theorem EqAt.ints {a b:Int}{t u:Tok}:EqAt A s (.int a t) (.int b u) (decide (a=b)):=by
 have:=vG (A:=A) (s:=s) (y:=.int a) (x:=.int b) (u:=.int a t) (v:=.int b u) ⟨t,rfl⟩ ⟨u,rfl⟩ rfl rfl
 have e:eqV (.int a) (.int b)=decide (a=b):=by simp[eqV,Bool.beq_eq_decide_eq]
 rw[e]at this;exact this
theorem TuI.lt (tx:TuI s.heap x l) (ty:TuI s.heap y m) (hu:A.units<cLine):qc A s x y (bY l m):=by
 obtain⟨a,us,rfl,h1,i1⟩:=tx
 obtain⟨b,vs,rfl,h2,i2⟩:=ty
 have e1:us.size=l.length:=by rw[<-qa5];exact d5 i1
 have e2:vs.size=m.length:=by rw[<-qa5];exact d5 i2
 have z:=qc.tuples (A:=A) (e:=λj=>decide (l.getD j 0=m.getD j 0)) (l:=λj=>decide (l.getD j 0<m.getD j 0)) h1 h2 hu λj g1 g2=>by
  obtain⟨t,q1⟩:=iJ i1 j (by simpa using g1)
  obtain⟨t',q2⟩:=iJ i2 j (by simpa using g2)
  rw[qdU]at q1 q2
  rw[q1,q2]
  exact⟨EqAt.ints,λ_=>qc.ints⟩
 rw[e1,e2,ou l m 0 _ _ λj h1 h2=>by rw[qbz];exact⟨rfl,rfl⟩]at z
 exact z
theorem TuI.one (tx:TuI s.heap x l) (ty:TuI s.heap y m) (hu:A.units<cLine) {Q:Bool->qaj->Prop} (h:Q (bY l m) s) (b:Bool):wpAny (model prog w) A (oneLt' b x y) Q E s:=by
 cases b with
 |false=>exact kat_one _ _ (tx.lt ty hu _ _ _ _ h)
 |true=>
  rw[oneLt'_eq]
  simp only[if_true]
  refine qaa (wpAny_cRoomFor hu ?_)
  obtain⟨a,us,rfl,h1,i1⟩:=id tx
  obtain⟨c,vs,rfl,h2,i2⟩:=id ty
  obtain⟨⟨cls,dd,data,sl⟩,ho,hc,n,hd⟩:=id h1
  obtain⟨⟨cls2,dd2,data2,sl2⟩,ho2,hc2,n2,hd2⟩:=id h2
  simp only at hc hd hc2 hd2
  subst hc hd hc2 hd2
  have e1:us.size=l.length:=by rw[<-qa5];exact d5 i1
  have e2:vs.size=m.length:=by rw[<-qa5];exact d5 i2
  refine qaa (wpAny_callSpecialIfBound?_slot (T:="tuple") ⟨_,ho,rfl⟩ qeH (qdh qeH ⟨_,ho,rfl⟩ qgJ (qgz _ _)
   (oK a c us vs n n2 dd dd2 sl sl2 (λj=>decide (l.getD j 0=m.getD j 0)) λj=>decide (l.getD j 0<m.getD j 0)) ⟨⟨ho,ho2⟩,λj g1 g2=>?_,?_⟩))
  ·obtain⟨t,q1⟩:=iJ i1 j (by simpa using g1)
   obtain⟨t',q2⟩:=iJ i2 j (by simpa using g2)
   rw[qdU]at q1 q2
   rw[q1,q2]
   exact⟨EqAt.ints,λ_=>qc.ints⟩
  ·rw[e1,e2,ou l m 0 _ _ λj h1 h2=>by rw[qbz];exact⟨rfl,rfl⟩]
   exact qgv h
theorem yH {Q:Bool->qaj->Prop}{fin:Bool}:∀ {us vs:List Value}{l m:List Int} (i:Nat),qcT us l->qcT vs m->(fin=decide (l.length<m.length))->Q (bY l m) s->KatLex prog w A true fin Q (us.zip vs) i s
 |_,_,_,_,i,.nil,.nil,hf,h=>kat_nil (by rw[hf];exact h)
 |_,_,_,_,i,.nil,.cons n t r,hf,h=>kat_nil (by rw[hf];simpa [bY] using h)
 |_,_,_,_,i,.cons n t r,.nil,hf,h=>kat_nil (by rw[hf];simpa [bY] using h)
 |_,_,_,_,i,.cons (vs:=us) (ns:=l) a t r,.cons (vs:=vs) (ns:=m) b u r',hf,h=>by
  rw[qio]
  refine kat_cons (EqAt.ints prog w _ _ ?_)
  unfold bY at h
  by_cases e:a=b
  ·subst e
   rw[if_pos rfl]at h
   rw[decide_eq_true rfl]
   exact kat_yes (yH (i+1) r r' (by rw[hf,qdx];simp) h)
  ·rw[if_neg e]at h
   rw[decide_eq_false e]
   refine kat_no ?_
   cases (true&&i==0) with
   |true=>exact oneLt_int h
   |false=>exact kat_one _ _ (qgq h)
theorem TuI.tups (tx:TuI s.heap x l) (ty:TuI s.heap y m) {Q:Bool->qaj->Prop} (h:Q (bY l m) s):wpAny (model prog w) A (keyLt' (tuples' true) x y) Q E s:=by
 obtain⟨a,us,rfl,⟨o,ho,hc,n,hd⟩,i1⟩:=tx
 obtain⟨c,vs,rfl,⟨o2,ho2,hc2,n2,hd2⟩,i2⟩:=ty
 have e1:us.size=l.length:=by rw[<-qa5];exact d5 i1
 have e2:vs.size=m.length:=by rw[<-qa5];exact d5 i2
 exact kat_lt ho hd ho2 hd2 (yH 0 i1 i2 (by rw[e1,e2]) h)
end
section
variable {prog:qaX}{w:World}{A:qbc}{E:Value->qaj->Prop}{s:qaj}{O:qec}{rk:Keyed->O.α}{S:Keyed->Prop}{vs:List Value}
theorem um:∀ (vs:List Value),vs.zip vs=vs.map λv=>(v,v)
 |[]=>rfl
 |v::vs=>by rw[qio,um vs];rfl
theorem DN {α β:Type}{f:α->β}{R:β->β->Prop}:∀ {vs:List α},vs.toArray.size<2->(vs.map f).Pairwise R
 |[],_=>List.Pairwise.nil
 |[v],_=>qhb _ _
 |_::_::_,h=>absurd h (by simp)
set_option maxHeartbeats 1000000 in
theorem ml {a:Addr}{n:Nat}{P:PySem.Fin->qaj->Prop} (ho:s.heap.get? a=some (qct "list" vs.toArray n)) (h64:vs.length<=64)
  (hyp:∀ h',(∀ b o,b≠a->s.heap.get? b=some o->h'.get? b=some o)->∃ κ,(2<=vs.length->∀ (Q':qdi->qaj->Prop) E',Q' κ { s with heap:=h' }->wpAny (model prog w) A (qjm vs.toArray) Q' E' { s with heap:=h' })/\Cm prog w A { s with heap:=h' } κ O rk S)
  (hS:∀ v∈vs,S (v,v))
  (h:∀ out:List Value,out.Perm vs->out.Pairwise (λx y=>O.kle (rk (x,x)) (rk (y,y)))->P (.done (.ret .none)) { s with heap:=qhT s.heap a vs out.toArray }) :
  wpAny (model prog w) A (qcB.«list.sort» ⟨[.ref a],[]⟩) P E s:=by
 rw[list_sort_plain]
 have hlt:a<s.heap.objs.size:=qao ho
 have hsz:vs.toArray.size=vs.length:=by simp
 refine qaa (listItems_at ho rfl ?_)
 refine qaa (qig ho rfl ?_ (by rw[hsz,qb5];lia))
 obtain⟨e1,ho1⟩:∃ e1,(s.heap.update a (qb2 λ_=>#[])).get? a=some (qct "list" #[] e1):=⟨_,get?_update_seq ho (λ_=>#[])⟩
 refine qaa (qi6 ho1 rfl ?_)
 refine qaa (wpAny_newTuple ?_ (by rw[qb5];show vs.toArray.toList.length<=_;simp;lia))
 refine qaa (qee ?_)
 refine qbj ?_
 have z1:(s.heap.update a (qb2 λ_=>(#[]:Array Value))).objs.size=s.heap.objs.size:=qiQ ..
 have keepN:∀ b o,b<s.heap.objs.size->(s.heap.update a (qb2 λ_=>(#[]:Array Value))).get? b=some o->
   (((s.heap.update a (qb2 λ_=>#[])).push (qct "tuple" vs.toArray 0)).push (qct "list" #[] 0)).get? b=some o:=λb o hb q=>by
  rw[qda _ _ _ (qat (by rw[qhU,z1];exact qa0 hb)),qda _ _ _ (qat (by rw[z1];exact hb))]
  exact q
 have ho6:=keepN a _ hlt ho1
 obtain⟨κ,hkk,hC⟩:=hyp (((s.heap.update a (qb2 λ_=>#[])).push (qct "tuple" vs.toArray 0)).push (qct "list" #[] 0)) λb o hb q=>
  keepN b o (qao q) (by rw[qh5 _ _ _ _ hb];exact q)
 show wpAny (model prog w) A _ P E { s with heap:=((s.heap.update a (qb2 λ_=>#[])).push (qct "tuple" vs.toArray 0)).push (qct "list" #[] 0) }
 have pt:(vs.toArray.zip vs.toArray).toList=vs.map λv=>(v,v):=by rw[<-um];simp
 have fin:∀ st':qbk,(arrOf st').toList.Perm (vs.map λv=>(v,v))->(arrOf st').toList.Pairwise (λx y=>O.kle (rk x) (rk y))->∃ out:List Value,out.length=vs.length/\(arrOf st').map (·.2)=out.toArray/\P (.done (.ret .none)) { s with heap:=qhT s.heap a vs out.toArray }:=λst' h1 h2=>by
  refine⟨(arrOf st').toList.map (·.2),by rw[qae,h1.length_eq,qae],by apply qbf.mp;simp,h _ ?_ ?_⟩
  ·have:=h1.map (·.2)
   rw[qaL]at this
   have e:(vs.map ((λx=>x.2) ∘ λv=>((v,v):Keyed)))=vs:=by rw[show ((λx:Keyed=>x.2) ∘ λv=>((v,v):Keyed))=id from rfl,qdF]
   rw[e]at this;exact this
  ·rw[qcm]
   refine h2.imp_of_mem λ{x y} hx hy q=>?_
   have dx:x=(x.2,x.2):=by obtain⟨v,_,rfl⟩:=qap.mp (h1.mem_iff.mp hx);rfl
   have dy:y=(y.2,y.2):=by obtain⟨v,_,rfl⟩:=qap.mp (h1.mem_iff.mp hy);rfl
   rw[<-dx,<-dy];exact q
 dsimp only
 by_cases h2:vs.toArray.size<2
 ·rw[if_pos h2,if_pos h2]
  refine qaa (qab ?_)
  rw[StateT.run_pure]
  refine qaa (qab ?_)
  dsimp only
  obtain⟨out,q0,q1,q2⟩:=fin (qbI general' (vs.toArray.zip vs.toArray) #[] 7 none) (by rw[pt]) (by rw[pt];exact DN h2)
  refine qaa (qi6 ho6 rfl ?_)
  rw[q1]
  refine qaa (qig ho6 rfl ?_ (hsz2:=by show out.length<=_;rw[q0,qb5];lia))
  simp only[bne_self_eq_false,qax,if_false]
  exact qab q2
 ·rw[if_neg h2,if_neg h2]
  refine qaa (hkk (by lia) _ _ ?_)
  refine qaa (qcu (BL hC (st:=qbI κ (vs.toArray.zip vs.toArray) #[] 7 none) (a0:=vs.toArray.zip vs.toArray) (Q:=λ_ st'=>(arrOf st').toList.Perm (vs.map λv=>(v,v))/\(arrOf st').toList.Pairwise (λx y=>O.kle (rk x) (rk y))/\qb6 st'=none)
   rfl rfl rfl rfl (λx hx=>?_) (by simp;lia) (by simp;lia) λst' a1 a2 a3=>⟨by rw[<-pt];exact a1,a2,a3⟩) ?_ λ_ _ e=>e)
  ·rw[pt]at hx
   obtain⟨v,hv,rfl⟩:=qap.mp hx
   exact hS v hv
  rintro⟨⟨⟩,st'⟩ s' ⟨rfl,a1,a2,a3⟩
  dsimp only
  obtain⟨out,q0,q1,q2⟩:=fin st' a1 a2
  refine qaa (qi6 ho6 rfl ?_)
  rw[q1]
  refine qaa (qig ho6 rfl ?_ (hsz2:=by show out.length<=_;rw[q0,qb5];lia))
  rw[a3]
  simp only[bne_self_eq_false,qax,if_false]
  exact qab q2
theorem pd {l:Addr}{Q:Value->qaj->Prop} (hl:s.heap.IsList l vs.toArray) (h64:vs.length<=64)
  (hyp:∀ h',(∀ b o,s.heap.get? b=some o->h'.get? b=some o)->∃ κ,(2<=vs.length->∀ (Q':qdi->qaj->Prop) E',Q' κ { s with heap:=h' }->wpAny (model prog w) A.in1.in1 (qjm vs.toArray) Q' E' { s with heap:=h' })/\Cm prog w A.in1.in1 { s with heap:=h' } κ O rk S)
  (hS:∀ v∈vs,S (v,v))
  (h:∀ out:List Value,out.Perm vs->out.Pairwise (λx y=>O.kle (rk (x,x)) (rk (y,y)))->Q (.ref (s.heap.objs.size+1)) { s with heap:=qkX s.heap vs out.toArray }) :
  wpAny (model prog w) A (call (.builtin "sorted") [.ref l]) Q E s:=by
 refine qej qi7 qiH qiI (qiL _) ?_
 unfold qcB.«sorted»
 refine qaa (m:=qjI "sorted" 1 1 _) (qab ?_)
 refine qaa (collect_list hl ?_ (by rw[qb5];lia))
 refine qaa (qee ?_ (by rw[qb5];lia))
 have hz:((s.heap.push (qct "list" #[] 0)).update s.heap.objs.size (qb2 (·++vs.toArray))).objs.size=s.heap.objs.size+1:=by rw[qiQ,qhU]
 generalize hh:((s.heap.push (qct "list" #[] 0)).update s.heap.objs.size (qb2 (·++vs.toArray)))=hB at hz ⊢
 have hoL:(hB.push (qct "list" vs.toArray 0)).get? (s.heap.objs.size+1)=some (qct "list" vs.toArray 0):=by
  rw[<-hz];exact qaA _ rfl
 have keep:∀ b o,s.heap.get? b=some o->b≠s.heap.objs.size+1/\(hB.push (qct "list" vs.toArray 0)).get? b=some o:=λb o q=>by
  have hlt:b<s.heap.objs.size:=qao q
  refine⟨qat (qa0 hlt),?_⟩
  rw[qda _ _ _ (qat (by rw[hz];exact qa0 hlt)),<-hh,qh5 _ _ _ _ (qat hlt),qda _ _ _ (qat hlt)]
  exact q
 show wpAny _ _ _ _ _ { s with heap:=hB.push (qct "list" vs.toArray 0) }
 rw[hz]
 refine qaa (qbj (qbn qhI ⟨_,hoL,rfl⟩ qhl (ml (s:={ s with heap:=hB.push (qct "list" vs.toArray 0) }) hoL h64 (λh' hk=>hyp h' λb o q=>hk b o (keep b o q).1 (keep b o q).2) hS λout a1 a2=>⟨_,rfl,?_⟩) (qhJ _)))
 refine qab ⟨_,rfl,?_⟩
 have:=h out a1 a2
 unfold qkX at this
 rw[hh]at this
 exact this
end
def mG (h:Heap):Value->Option Value
 |.ref a=>match h.get? a with
  |some o=>match o.data with
   |.seq its _=>its[0]?
   |_=>none
  |none=>none
 |_=>none
theorem TuI.fst {h:Heap}{v:Value}{l:List Int} (t:TuI h v l):mG h v=none\/∃ n t,mG h v=some (.int n t):=by
 obtain⟨a,its,rfl,⟨o,ho,hc,n,hd⟩,hi⟩:=t
 simp only[mG,ho,hd]
 by_cases hz:0<its.size
 ·obtain⟨t,e⟩:=iJ hi 0 (by simpa using hz)
  exact .inr ⟨_,t,by rw[qaJ hz];rw[qdU]at e;rw[e]⟩
 ·exact .inl (qbP (by lia))
section
variable {prog:qaX}{w:World}{A:qbc}{E:Value->qaj->Prop}{s:qaj}
theorem wn {v:Value}{l:List Int} (t:TuI s.heap v l) {Q:Value->qaj->Prop} (h:Q (.type "tuple") s):wpAny (model prog w) A (typeOf v) Q E s:=by
 obtain⟨a,its,rfl,⟨o,ho,hc,n,hd⟩,hi⟩:=t
 refine Looks.here (show Looks (model prog w) s.heap (typeOf (.ref a)) o.cls from (Looks.ld ho).andThen .now) ?_
 rw[hc];exact h
theorem xo {v:Value}{l:List Int} (t:TuI s.heap v l) {Q:Option Value->qaj->Prop} (h:Q (mG s.heap v) s):wpAny (model prog w) A (firstOfTuple' v) Q E s:=by
 rw[kas_first_eq]
 refine qaa (wn t ?_)
 obtain⟨a,its,rfl,⟨o,ho,hc,n,hd⟩,hi⟩:=t
 rw[if_neg (by simp)]
 simp only[mG,ho,hd]at h
 exact qaa (listItems_at ho hd (qab h))
theorem iB:∀ {vs:List Value}{Q:List (Option Value)->qaj->Prop},(∀ v∈vs,∃ l,TuI s.heap v l)->Q (vs.map (mG s.heap)) s->wpAny (model prog w) A (vs.mapM firstOfTuple') Q E s
 |[],_,_,h=>by rw[List.mapM_nil];exact qab h
 |v::vs,Q,t,h=>by
  rw[List.mapM_cons]
  obtain⟨l,tv⟩:=t v qak
  refine qaa (xo tv (qaa (iB (Q:=λbs s'=>wpAny (model prog w) A (pure (mG s.heap v::bs)) Q E s') (λu hu=>t u (qah _ hu)) (qab h))))
theorem uX {x y:Value}{l m:List Int} (hx:TuI s.heap x l) (hy:TuI s.heap y m) {Q:Bool->qaj->Prop} (h:Q (OI.blt (tuI s.heap x) (tuI s.heap y)) s):Q (bY l m) s:=by
 have h':Q (bY (tuI s.heap x) (tuI s.heap y)) s:=h
 rw[hx.is,hy.is]at h';exact h'
theorem sX {vs:List Value} (t:∀ v∈vs,∃ l,TuI s.heap v l) (hu:A.units<cLine):∃ κ,(2<=vs.length->∀ (Q':qdi->qaj->Prop) E',Q' κ s->wpAny (model prog w) A (qjm vs.toArray) Q' E' s)/\
  Cm prog w A s κ OI (λp=>tuI s.heap p.1) (λp=>∃ l,TuI s.heap p.1 l):=by
 by_cases c1:(vs.map (mG s.heap)).toArray.all (·.isSome)=true
 ·refine⟨tuples' true,λh2 Q' E' hq=>?_,λx y ⟨l,hx⟩ ⟨m,hy⟩ Q E h=>hx.tups hy (uX hx hy h)⟩
  rw[qi8,qdG,map_eq_pure_bind]
  refine qaa (qaa (iB t (qab ?_)))
  rw[if_pos c1]
  refine qaa (qc2 ?_)
  have hf:∀ v∈(vs.map (mG s.heap)).filterMap id,∃ n t,v=.int n t:=λv hv=>by
   obtain⟨o,ho,e⟩:=qfK.mp hv
   obtain⟨u,hu,rfl⟩:=qap.mp ho
   obtain⟨l,tu⟩:=t u hu
   rcases tu.fst with q|⟨n,t',q⟩
   ·rw[q]at e;cases e
   ·rw[q]at e;exact⟨n,t',(qaR e).symm⟩
  have hl:∃ f fr,(vs.map (mG s.heap)).filterMap id=f::fr:=by
   match vs,h2,c1 with
   |v::vs,_,c1=>
    simp only[qal,qgc,qbL,qa8]at c1
    obtain⟨u,hu⟩:=qdj.mp c1.1
    exact⟨u,(vs.map (mG s.heap)).filterMap id,by rw[qal,qd2,hu];rfl⟩
  obtain⟨f,fr,e⟩:=hl
  have e2:(vs.map (mG s.heap)).toArray.filterMap id=(f::fr).toArray:=by rw[<-e];simp
  rw[e2,qk1,qdG,map_eq_pure_bind]
  refine qaa (qaa (qaa (kas_mapM (r:=.type "int") _ (λv hv Q'' hq'=>?_) (qab ?_))))
  ·rw[<-e]at hv
   obtain⟨n,t',rfl⟩:=hf v hv
   exact qab hq'
  ·have h0:(qe3 (λ_=>Value.type "int") (f::fr)).toArray[0]?=some (.type "int"):=by simp
   rw[h0]
   have hall:((qe3 (λ_=>Value.type "int") (f::fr)).toArray.all λx=>x==.type "int")=true:=by
    simp only[qgc,qhD,qaw];intro _ _;rfl
   simp only[hall,if_true]
   exact qab (qab hq)
 ·by_cases c2:((vs.map (mG s.heap)).toArray[0]?.bind id).isSome=true
  ·refine⟨general',λh2 Q' E' hq=>?_,λx y ⟨l,hx⟩ ⟨m,hy⟩ Q E h=>hx.one hy hu (uX hx hy h) false⟩
   rw[qi8,qdG,map_eq_pure_bind]
   refine qaa (qaa (iB t (qab ?_)))
   rw[if_neg c1,if_pos c2]
   exact qab hq
  ·refine⟨qif,λh2 Q' E' hq=>?_,λx y ⟨l,hx⟩ ⟨m,hy⟩ Q E h=>hx.one hy hu (uX hx hy h) true⟩
   rw[qi8,qdG,map_eq_pure_bind]
   refine qaa (qaa (iB t (qab ?_)))
   rw[if_neg c1,if_neg c2,qk1,qdG,map_eq_pure_bind]
   refine qaa (qaa (qaa (kas_mapM (r:=.type "tuple") _ (λv hv Q'' hq'=>?_) (qab ?_))))
   ·obtain⟨l,tv⟩:=t v hv
    exact wn tv hq'
   ·obtain⟨v,vs,rfl⟩:∃ v r,vs=v::r:=by
     match vs,h2 with
     |v::r,_=>exact⟨v,r,rfl⟩
    have h0:(qe3 (λ_=>Value.type "tuple") (v::vs)).toArray[0]?=some (.type "tuple"):=by simp
    rw[h0]
    have hall:((qe3 (λ_=>Value.type "tuple") (v::vs)).toArray.all λx=>x==.type "tuple")=true:=by
     simp only[qgc,qhD,qaw];intro _ _;rfl
    simp only[hall,if_true]
    exact qab (qab hq)
theorem sZ {vs:List Value}{ns:List Int} (t:qcT vs ns):(2<=vs.length->∀ (Q':qdi->qaj->Prop) E',Q' qif s->wpAny (model prog w) A (qjm vs.toArray) Q' E' s)/\
  Cm prog w A s qif OI (λp=>[bq p.1]) (λp=>∃ n t,p.1=.int n t):=by
 refine⟨λh2 Q' E' hq=>?_,λx y ⟨n,t,hx⟩ ⟨m,u,hy⟩ Q E h=>?_⟩
 ·match vs,h2,t with
  |v1::v2::r,_,t=>rw[keyKind_ints t];exact qab hq
 ·rw[keyLt'_oneType,hx,hy]
  refine oneLt_int ?_
  have e:OI.blt [bq x.1] [bq y.1]=decide (n<m):=by
   rw[hx,hy]
   show (if n=m then bY [] [] else decide (n<m))=_
   by_cases q:n=m
   ·subst q;simp[bY]
   ·rw[if_neg q]
  rw[e]at h;exact h
end
def vJ (x:List Int):List (List Int)->List (List Int)
 |[]=>[x]
 |y::ys=>if bY y x=true then y::vJ x ys else x::y::ys
def bh:List (List Int)->List (List Int)
 |[]=>[]
 |x::xs=>vJ x (bh xs)
theorem my (x:List Int):∀ ys,(vJ x ys).Perm (x::ys)
 |[]=>qcv _
 |y::ys=>by
  unfold vJ
  split
  ·exact (List.Perm.cons y (my x ys)).trans (List.Perm.swap x y ys)
  ·exact qcv _
theorem aZ:∀ xs,(bh xs).Perm xs
 |[]=>qcv _
 |x::xs=>(my x _).trans (List.Perm.cons x (aZ xs))
def leL (a b:List Int):Prop:=bY b a=false
theorem xv {a b c:List Int} (h:leL a b) (h':leL b c):leL a c:=qbt (O:=OI) h h'
theorem ym {a b:List Int} (h:leL a b) (h':leL b a):a=b:=jp a b h' h
theorem mJ (x:List Int):∀ {ys:List (List Int)},ys.Pairwise leL->(vJ x ys).Pairwise leL
 |[],_=>by simp[vJ]
 |y::ys,h=>by
  unfold vJ
  split
  ·rename_i hxy
   refine qbx.mpr ⟨λz hz=>?_,mJ x (qbx.mp h).2⟩
   rcases qaC.mp ((my x ys).mem_iff.mp hz) with rfl|hz
   ·exact qiq (O:=OI) hxy
   ·exact (qbx.mp h).1 z hz
  ·rename_i hxy
   rw[qeK]at hxy
   refine qbx.mpr ⟨λz hz=>?_,h⟩
   rcases qaC.mp hz with rfl|hz
   ·exact hxy
   ·exact xv hxy ((qbx.mp h).1 z hz)
theorem cJ:∀ xs,(bh xs).Pairwise leL
 |[]=>List.Pairwise.nil
 |x::xs=>mJ x (cJ xs)
theorem fQ {xs ys:List (List Int)} (p:xs.Perm ys) (h1:xs.Pairwise leL) (h2:ys.Pairwise leL):xs=ys:=
 qd7 (λa b _ _ h1 h2=>ym h1 h2) h1 h2 p
def mt:List D->Option (List (List Int))
 |[]=>some []
 |.tup l::ds=>(bf l).bind λns=>(mt ds).map λr=>ns::r
 |_=>none
def aj (l:List Int):D:=.tup (l.map D.int)
theorem mU:∀ {ds:List D}{ls:List (List Int)},mt ds=some ls->ds=ls.map aj
 |[],_,h=>by cases h;rfl
 |.tup l::ds,_,h=>by
  simp only[mt,qac,qaf]at h
  obtain⟨ns,e1,r,e2,rfl⟩:=h
  rw[mU e2,cL e1];rfl
 |.non::_,_,h=>by cases h
 |.bl _::_,_,h=>by cases h
 |.int _::_,_,h=>by cases h
 |.str _::_,_,h=>by cases h
 |.ty _::_,_,h=>by cases h
 |.dct::_,_,h=>by cases h
 |.scr _::_,_,h=>by cases h
 |.lst _::_,_,h=>by cases h
theorem oN:∀ (ls:List (List Int)),mt (ls.map aj)=some ls
 |[]=>rfl
 |l::ls=>by
  have:bf (l.map D.int)=some l:=by
   induction l with
   |nil=>rfl
   |cons a l ih=>simp[bf,ih]
  simp only[qal,aj,mt,this,qad]
  rw[show qe3 aj ls=qe3 aj ls from rfl,oN ls];rfl
def oU (ds:List D):Option (List D):=match bf ds with
 |some ns=>some ((oB ns).map D.int)
 |none=>(mt ds).map λls=>(bh ls).map aj
def jP (st:Sto):List W->Option (List D)
 |[w]=>(lsD st w).bind λds=>if ds.length<=64 then oU ds else none
 |_=>none
section
variable {K:qai}{X:Cx}{pins:List (Addr×Obj)}{σ:St}{H:Hp}{s:qaj}{φ:List Addr}
def toV:Value->V
 |.ref a=>.ref a
 |_=>.non
theorem B3 {l:List Int}{v:V}{u:Value} (I:Inv X pins σ H s) (r:Rl X.K H φ (aj l) v) (q:aV v u):TuI s.heap u l/\v=toV u/\aV (toV u) u:=by
 obtain⟨a,vs,rfl,h1,h2⟩:=r
 obtain⟨its,rv,p,_⟩:=I.tuple (SqT.of h1)
 have e:=h2.ints
 subst e
 have e:u=.ref a:=q
 subst e
 exact⟨⟨a,its.toArray,rfl,p,by simpa using iD rv⟩,rfl,rfl⟩
theorem o8 (I:Inv X pins σ H s):∀ {ls:List (List Int)}{vs:List V}{us:List Value},Rls X.K H φ (ls.map aj) vs->aQ vs us->
  us.map (tuI s.heap)=ls/\∀ u∈us,TuI s.heap u (tuI s.heap u)/\Rl X.K H φ (aj (tuI s.heap u)) (toV u)/\aV (toV u) u
 |[],_,us,h,q=>by cases h;cases q;exact⟨rfl,λu hu=>by cases hu⟩
 |l::ls,_,us,h,q=>by
  obtain⟨v,r,rfl,h1,h2⟩:=h
  cases q with
  |cons q1 q2=>
   rename_i u us
   obtain⟨t,e,e'⟩:=B3 I h1 q1
   obtain⟨i1,i2⟩:=o8 I h2 q2
   refine⟨by rw[qal,i1,t.is],λx hx=>?_⟩
   rcases qaC.mp hx with rfl|hx
   ·rw[t.is,<-e];exact⟨t,h1,q1⟩
   ·exact i2 x hx
theorem nY:∀ {us:List Value},(∀ u∈us,TuI s.heap u (tuI s.heap u)/\Rl K H φ (aj (tuI s.heap u)) (toV u)/\aV (toV u) u)->Rls K H φ (us.map λu=>aj (tuI s.heap u)) (us.map toV)/\aQ (us.map toV) us
 |[],_=>⟨rfl,.nil⟩
 |u::us,h=>by
  have h1:=h u qak
  have h2:=nY λx hx=>h x (qah _ hx)
  exact⟨⟨_,_,rfl,h1.2.1,h2.1⟩,.cons h1.2.2 h2.2⟩
theorem jU:∀ {us:List Value}{l:List Int},qcT us l->∀ u∈us,∃ n t,u=.int n t
 |_,_,.nil,u,hu=>by cases hu
 |_,_,.cons n t h,u,hu=>by
  rcases qaC.mp hu with rfl|hu
  ·exact⟨n,t,rfl⟩
  ·exact jU h u hu
theorem mI:∀ {us:List Value},(∀ u∈us,∃ n t,u=.int n t)->qcT us (us.map bq)
 |[],_=>.nil
 |u::us,h=>by
  obtain⟨n,t,rfl⟩:=h u qak
  exact .cons n t (mI λx hx=>h x (qah _ hx))
theorem tH {k:Nat} (hr:cZ k X.A) (hK:X.K=K:=by rfl):CH K X (.builtin "sorted") jP:=by
 subst hK
 refine⟨λst ws d h=>?_⟩
 unfold jP at h
 split at h
 next w=>
  simp only[qac]at h
  obtain⟨ds,e1,h⟩:=h
  split at h
  ·rename_i hl
   intro pins s σ H xs us Q I rv q
   obtain⟨φ,S,⟨v,r,rfl,r1,rfl⟩,q⟩:=q
   obtain⟨a,vs,rfl,h1,h2⟩:=lZ S r1 e1
   obtain⟨u,rfl,ru⟩:=lv rv
   cases ru
   obtain⟨its,rv',pl,hz⟩:=I.list (.inl h1)
   have hlen:its.length<=64:=by
    have:=rv'.length
    have:=h2.length
    lia
   have hun:X.A.in1.in1.units<cLine:=by
    have:=hr.un
    show X.A.units+1+1<cLine
    lia
   have hn:H (s.heap.objs.size+1)=none:=I.hok.fresh (qcS _)
   have lay:∀ (out:List Value) (vs':List V),aQ vs' out->out.length<=64->Inv X pins σ (upd H (s.heap.objs.size+1) (.lst vs')) { s with heap:=qkX s.heap its out.toArray }:=λout vs' hv ho=>by
    obtain⟨ep,he⟩:=sortedAll_at s.heap its out.toArray
    refine I.laid (t':=s.toks) (a:=s.heap.objs.size+1) (o:=.lst vs') (λb o q=>sortedAll_old q) (qcS _) ⟨?_,out,ep,hv,by simpa [qct] using he⟩
    rw[hv.length];exact jX (by lia)
   unfold oU at h
   cases hi:bf ds with
   |some ns=>
    rw[hi]at h
    cases h
    cases cL hi
    cases h2.ints
    have hI:=iD rv'
    refine pd (O:=OI) (rk:=λp=>[bq p.1]) (S:=λp=>∃ n t,p.1=.int n t) pl.isList hlen (λh' _=>⟨qif,sZ (s:={ s with heap:=h' }) hI⟩) (λv hv=>jU hI v hv) λout a1 a2=>?_
    have ho:∀ u∈out,∃ n t,u=.int n t:=λu hu=>jU hI u (a1.mem_iff.mp hu)
    have hp:(out.map bq).Perm ns:=by
     have:=a1.map bq
     rw[lL hI]at this;exact this
    have hs:(out.map bq).Pairwise (·<=·):=by
     rw[qcm]
     refine a2.imp λ{x y} q=>?_
     have q':bY [bq y] [bq x]=false:=q
     by_cases e:bq y=bq x
     ·lia
     ·have:bY [bq y] [bq x]=decide (bq y<bq x):=by show (if _ then _ else _)=_;rw[if_neg e]
      rw[this,decide_eq_false_iff_not]at q';lia
    have e:out.map bq=oB ns:=mK (hp.trans (mL ns).symm) hs (kh ns)
    have hv:=iQ (mI ho)
    rw[e]at hv
    exact⟨.ref _,_,lay out _ hv (by rw[a1.length_eq];exact hlen),rfl,q _ _ H (bH.refl H) hn (Rls.of_ints _)⟩
   |none=>
    rw[hi]at h
    obtain⟨ls,hls,rfl⟩:=qaf.mp h
    cases mU hls
    obtain⟨m1,m2⟩:=o8 I h2 rv'
    refine pd (O:=OI) (rk:=λp=>tuI s.heap p.1) (S:=λp=>∃ l,TuI s.heap p.1 l) pl.isList hlen (λh' hk=>?_) (λv hv=>⟨_,(m2 v hv).1⟩) λout a1 a2=>?_
    ·obtain⟨κ,k1,k2⟩:=sX (prog:=X.prog) (w:=X.w) (s:={ s with heap:=h' }) (vs:=its) (λv hv=>⟨_,(m2 v hv).1.fit hk⟩) hun
     refine⟨κ,k1,λx y ⟨l,hx⟩ ⟨m,hy⟩ Q E hq=>k2 x y ⟨l,hx.fit hk⟩ ⟨m,hy.fit hk⟩ Q E ?_⟩
     have hx':=hx.fit hk
     have hy':=hy.fit hk
     have hq':Q (bY (tuI s.heap x.1) (tuI s.heap y.1)) { s with heap:=h' }:=hq
     show Q (bY (tuI h' x.1) (tuI h' y.1)) { s with heap:=h' }
     rw[hx'.is,hy'.is]
     rw[hx.is,hy.is]at hq'
     exact hq'
    ·have ho:=λu hu=>m2 u (a1.mem_iff.mp hu)
     obtain⟨b1,b2⟩:=nY (K:=X.K) (H:=H) (φ:=φ) ho
     have hp:(out.map (tuI s.heap)).Perm ls:=by
      have:=a1.map (tuI s.heap)
      rw[m1]at this;exact this
     have hs:(out.map (tuI s.heap)).Pairwise leL:=by
      rw[qcm]
      exact a2.imp λ{x y} q=>q
     have e:out.map (tuI s.heap)=bh ls:=fQ (hp.trans (aZ ls).symm) hs (cJ ls)
     have e2:(out.map λu=>aj (tuI s.heap u))=(bh ls).map aj:=by rw[<-e,qaL];rfl
     rw[e2]at b1
     exact⟨.ref _,_,lay out _ b2 (by rw[a1.length_eq];exact hlen),rfl,q _ _ H (bH.refl H) hn b1⟩
  ·cases h
 next=>cases h
end
end L2
namespace L2
open PySem PySem.Spec PyProof.Rows
open PySem.AutoSeq1 (wpAny_loadPart')
section
variable {prog:qaX}{w:World}{A:qbc}{E:Value->qaj->Prop}{s:qaj}{k k2:Bool}
variable {z TI TO i1 i2 l1 l2:Addr}{n:Nat}{xs ys:Array Value}{a b:Value}
end
section
variable {prog:qaX}{w:World}{A:qbc}{E:Value->qaj->Prop}{s:qaj}{k k2:Bool}
end
section
variable {K:qai}{X:Cx}{a b:Expr}{pos:Pos}{af:Af}
end
end L2
namespace L2
open PySem PySem.Spec PyProof.Rows
def gD:List Int->Int->Int
 |[],m=>m
 |n::ns,m=>gD ns (if n > m then n else m)
section
variable {prog:qaX}{w:World}{A:qbc}{s:qaj}{I l S:Addr}{items:Array Value}{ns:List Int}{kw:List (Str×Value)}{R:qjr->qaj->Prop}
theorem tM (h:qcT items.toList ns) {j:Nat}{n:Int} (hn:ns[j]?=some n):∃ t,items[j]?=some (.int n t):=by
 have hj:j<items.toList.length:=by rw[d5 h];exact (qay.mp hn).1
 obtain⟨t,e⟩:=iJ h j hj
 refine⟨t,?_⟩
 have hj':j<items.size:=by simpa using hj
 rw[qaJ hj']
 rw[qdU]at e
 rw[e,qaQ,hn];rfl
theorem uG (h:qcT items.toList ns) {j:Nat} (hn:ns[j]?=none):items[j]?=none:=by
 rw[qgO]at hn
 have:=d5 h
 rw[Array.getElem?_eq_none_iff]
 rw[qa5]at this
 lia
theorem Dj (hh:A.handled=none) (hi:qcT items.toList ns) (hSI:S≠I) (hlI:l≠I) (hlS:l≠S):∀ (rest:List Int) (j:Nat) (s:qaj) (m:Int) (t:Tok) (c:Nat),ns.drop j=rest->s.heap.IsListIter I l j->s.heap.IsList l items->
  s.heap.get? S=some { cls:=.type "list",dict:=none,data:=.seq #[.int m t,.int m t] c,slots:=#[] }->
  (∀ t' h',(∀ b o,b≠I->b≠S->s.heap.get? b=some o->h'.get? b=some o)->R (.ok (.ret (.int (gD rest m) t'))) { s with heap:=h' })->qes (model prog w) A (.builtin "max.loop" ⟨[.ref I,.none,.ref S],kw⟩) R s:=by
 have hname:(toString "max"++toString ".loop" : String) = "max.loop":=by decide
 intro rest
 induction rest with
 |nil=>
  intro j s m t c hd hit hl hS hR
  have hn:ns[j]?=none:=by
   rw[qgO]
   have:=congrArg qgt hd
   simp at this;lia
  refine qb7 qgG ?_
  rw[qcC qcX _]
  show wpAny _ A.in1 (qhk (.ref S) >>= _) _ _ s
  refine qaa (qeG hS rfl ?_)
  show wpAny _ A.in1 (tryCatch (qeC (.ref I)) _ >>= _) _ _ s
  refine qaa (qeF (qfu hh hit hl (uG hi hn) λh1 e1=>?_))
  show wpAny _ A.in1 (updateSeq S (λ_=>#[]) >>= _) _ _ _
  refine qaa (qfs (e1 _ _ hSI hS) rfl (qaa (qhg (qab ?_))))
  exact hR t _ λb o hb1 hb2 q=>(qbo _ _ (qcz hb2)).trans (e1 _ _ hb1 q)
 |cons n rest ih=>
  intro j s m t c hd hit hl hS hR
  have hn:ns[j]?=some n:=by
   have:=congrArg (λl=>l[0]?) hd
   simpa using this
  have hd':ns.drop (j+1)=rest:=by
   have:=congrArg (qml 1) hd
   simpa [qjd,qf7] using this
  obtain⟨tn,hx⟩:=tM hi hn
  refine qb7 qgG ?_
  rw[qcC qcX _]
  show wpAny _ A.in1 (qhk (.ref S) >>= _) _ _ s
  refine qaa (qeG hS rfl ?_)
  show wpAny _ A.in1 (tryCatch (qeC (.ref I)) _ >>= _) _ _ s
  refine qaa (qeF (qfe hit hl hx λh1 hit1 s1=>?_))
  have e1:=s1.extBut
  have hS1:=e1 _ _ hSI hS
  show wpAny _ A.in1 (tryCatch (qfU [.int n tn,.int n tn] (richCompare .Gt (.int n tn) (.int m t) >>= _)) _ >>= _) _ _ _
  refine qaa (qeF (qbj (qaa (qkG ?_))))
  refine qaa (qbj (qgv ?_))
  refine qaa (qhg (qab ?_))
  by_cases hb:n > m
  ·have hb':decide (n > m)=true:=by simp[hb]
   rw[hb']
   simp only[if_true]
   refine qaa (qfs hS1 rfl (qaa (qhg ?_)))
   rw[hname]
   refine qab ⟨qef qcX _,ih (j+1) _ n tn _ hd' (hit1.at λo q=>(qbo _ _ hSI).trans q) (Heap.IsList.at hl λo q=>(qbo _ _ (qcz hlS)).trans (e1 _ _ hlI q)) (qbY _ hS1 rfl) λt' h' k=>?_⟩
   have:=hR t' h' λb o hb1 hb2 q=>k b o hb1 hb2 ((qbo _ _ (qcz hb2)).trans (e1 _ _ hb1 q))
   rw[gD,if_pos hb]at this
   exact this
  ·have hb':decide (n > m)=false:=by simp[hb]
   rw[hb']
   simp only[qax,if_false]
   refine qaa (qhg ?_)
   rw[hname]
   refine qab ⟨qef qcX _,ih (j+1) _ m t c hd' hit1 (Heap.IsList.at hl λo q=>e1 _ _ hlI q) hS1 λt' h' k=>?_⟩
   have:=hR t' h' λb o hb1 hb2 q=>k b o hb1 hb2 (e1 _ _ hb1 q)
   rw[gD,if_neg hb]at this
   exact this
variable {E:Value->qaj->Prop}
theorem kK {id:String}{b:qcB}{args:List Value}{kw:List (Str×Value)}{Q:Value->qaj->Prop} (hk:builtinKind id=none) (hp:plainId id=true) (hb:qg7 table id=some b) (ha:qhZ id ⟨args,kw⟩)
  (hc:wpAny (model prog w) A.in1 (b ⟨args,kw⟩) (λfin s'=>match fin with
    |.done f=>(match (Except.ok f:qjr) with|.ok (.ret v)=>Q v s'|.ok _=>False|.error e=>E e s')
    |.again c'=>c'.quiet=true/\qes (model prog w) A c' (λr s'=>match r with|.ok (.ret v)=>Q v s'|.ok _=>False|.error e=>E e s') s') E s) :
  wpAny (model prog w) A (call (.builtin id) args kw) Q E s:=by
 refine qjD (qiY hp hb ?_)
 simp only[qj4,hk]
 cases hsig:Manifest.signature? id with
 |none=>exact qab hc
 |some sig=>
  have h2:qjj id sig ⟨args,kw⟩=pure ():=by simpa only[qhZ,hsig] using ha
  show wpAny _ A.in1 (qjj id sig ⟨args,kw⟩) _ _ s
  rw[h2];exact qab hc
theorem xQ (a v:Value):qhZ "max" ⟨[a],[(qbH "default",v)]⟩:=by unfold qhZ;kernel_rfl
def wK (ns:List Int) (d:Option Int):Option Int:=match ns with
 |n::r=>some (gD r n)
 |[]=>d
theorem xn (hh:A.handled=none) (hi:qcT items.toList ns) (hSI:S≠I) (hlI:l≠I) (hlS:l≠S) {c:Nat} (hit:s.heap.IsListIter I l 0) (hl:s.heap.IsList l items) (hS:s.heap.get? S=some { cls:=.type "list",dict:=none,data:=.seq #[] c,slots:=#[] })
  (hR:∀ v h',(∀ b o,b≠I->b≠S->s.heap.get? b=some o->h'.get? b=some o)->(∀ n r,ns=n::r->∃ t,v=.int (gD r n) t)->(ns=[]->∃ k,kw=[(k,v)])->R (.ok (.ret v)) { s with heap:=h' })
  (h0:ns=[]->∃ k v,kw=[(k,v)]):qes (model prog w) A (.builtin "max.loop" ⟨[.ref I,.none,.ref S],kw⟩) R s:=by
 have hname:(toString "max"++toString ".loop" : String) = "max.loop":=by decide
 refine qb7 qgG ?_
 rw[qcC qcX _]
 show wpAny _ A.in1 (qhk (.ref S) >>= _) _ _ s
 refine qaa (qeG hS rfl ?_)
 show wpAny _ A.in1 (tryCatch (qeC (.ref I)) _ >>= _) _ _ s
 cases hn:ns with
 |nil=>
  obtain⟨k,v,rfl⟩:=h0 hn
  refine qaa (qeF (qfu hh hit hl (uG hi (j:=0) (by rw[hn];rfl)) λh1 e1=>?_))
  refine qaa (qc2 (qab ?_))
  exact hR v _ (λb o hb1 _ q=>e1 _ _ hb1 q) (λn r e=>by rw[hn]at e;cases e) λ_=>⟨k,rfl⟩
 |cons n rest=>
  obtain⟨tn,hx⟩:=tM hi (j:=0) (n:=n) (by rw[hn];rfl)
  refine qaa (qeF (qfe hit hl hx λh1 hit1 s1=>?_))
  have e1:=s1.extBut
  have hS1:=e1 _ _ hSI hS
  show wpAny _ A.in1 (updateSeq S (λ_=>#[.int n tn,.int n tn]) >>= _) _ _ _
  refine qaa (qfs hS1 rfl ?_)
  rw[hname]
  refine qab ⟨qef qcX _,Dj hh hi hSI hlI hlS rest 1 _ n tn _ (by rw[hn];rfl) (hit1.at λo q=>(qbo _ _ hSI).trans q) (Heap.IsList.at hl λo q=>(qbo _ _ (qcz hlS)).trans (e1 _ _ hlI q)) (qbY _ hS1 rfl) λt' h' k=>?_⟩
  exact hR _ h' (λb o hb1 hb2 q=>k b o hb1 hb2 ((qbo _ _ (qcz hb2)).trans (e1 _ _ hb1 q))) (λn' r' e=>by rw[hn]at e;cases e;exact⟨t',rfl⟩) λe=>by rw[hn]at e;cases e
theorem qW {Q:Value->qaj->Prop} (hh:A.handled=none) (hi:qcT items.toList ns) (hl:s.heap.IsList l items) (hk:kw=[]\/∃ v,kw=[(qbH "default",v)]) (h0:ns=[]->kw≠[])
  (h:∀ v h',(∀ b o,s.heap.get? b=some o->h'.get? b=some o)->(∀ n r,ns=n::r->∃ t,v=.int (gD r n) t)->(ns=[]->∃ k,kw=[(k,v)])->Q v { s with heap:=h' }) :
  wpAny (model prog w) A (call (.builtin "max") [.ref l] kw) Q E s:=by
 have hname:(toString "max"++toString ".loop" : String) = "max.loop":=by decide
 have hlt:l<s.heap.objs.size:=by obtain⟨_,e,_⟩:=hl;exact qao e
 have hsz:(s.heap.push { cls:=.type "list_iterator",data:=.fields #[.ref l,.int 0 0] }).objs.size=s.heap.objs.size+1:=qbU ..
 have fin:∀ dd:List Value,kw=dd.map (λd=>((qbH "default",d):Str×Value))->wpAny (model prog w) A.in1 (do
   let it <-qhW (.ref l)
   let b <-qk2 []
   PySem.again (.builtin "max.loop" ⟨[it,.none,b],dd.map λd=>(qbH "default",d)⟩)) (λfin s'=>match fin with
   |.done f=>(match (Except.ok f:qjr) with|.ok (.ret v)=>Q v s'|.ok _=>False|.error e=>E e s')
   |.again c'=>c'.quiet=true/\qes (model prog w) A c' (λr s'=>match r with|.ok (.ret v)=>Q v s'|.ok _=>False|.error e=>E e s') s') E s:=λdd hdd=>by
  refine qaa (qjC hl (qaa (qbi ?_)))
  refine qab ⟨qef qcX _,?_⟩
  rw[<-hdd]
  refine xn (S:=(s.heap.push { cls:=.type "list_iterator",data:=.fields #[.ref l,.int 0 0] }).objs.size) (I:=s.heap.objs.size) (l:=l) hh hi (by rw[hsz];exact qgn _) (qat hlt) (by rw[hsz];exact qat (qa0 hlt))
   ⟨_,qag _ (qaA _ rfl),rfl,rfl⟩ (Heap.IsList.at hl λo q=>qag _ (qag _ q)) (qaA _ rfl) (λv h' k h1 h2=>?_) (λe=>?_)
  ·refine h v h' (λb o q=>?_) h1 h2
   have hb:=qao q
   exact k b o (qat hb) (by rw[hsz];exact qat (qa0 hb)) (qag _ (qag _ q))
  ·rcases hk with hk|⟨v,hk⟩
   ·exact absurd hk (h0 e)
   ·exact⟨_,v,hk⟩
 rcases hk with rfl|⟨v,rfl⟩
 ·refine kK F.kind_max F.plain_max F.entry_max (F.args_max1 _) ?_
  show wpAny _ A.in1 (qcK "max" ["key","default"] 0 ⟨[],[]⟩ >>= _) _ _ s
  refine qaa (qeX (show qcK "max" ["key","default"] 0 ⟨[],[]⟩=pure [none,none] from rfl) ?_)
  refine qaa (qab ?_)
  have:=fin [] rfl
  rw[<-hname]at this
  exact this
 ·refine kK F.kind_max F.plain_max F.entry_max (xQ _ _) ?_
  show wpAny _ A.in1 (qcK "max" ["key","default"] 0 ⟨[],[(qbH "default",v)]⟩ >>= _) _ _ s
  refine qaa (qeX (show qcK "max" ["key","default"] 0 ⟨[],[(qbH "default",v)]⟩=pure [none,some v] from by kernel_rfl) ?_)
  refine qaa (qab ?_)
  have:=fin [v] rfl
  rw[<-hname]at this
  exact this
end
section
variable {K:qai}{X:Cx}{e a b:Expr}{es:List Expr}{pos:Pos}{f fa fb:Ef}{af:Af}
def lsI (st:Sto) (w:W):Option (List Int):=(lsD st w).bind bf
theorem qJ (hc:X.calm=true) {kw:List (Str×Value)}{d:Option V}{ns:List Int}{pins:List (Addr×Obj)}{σ:St}{H:Hp}{s:qaj}{ad:Addr}{Q:VK}{E:XK}{r:Int} (I:Inv X pins σ H s) (hl:Rd H ad (.lst (ns.map V.int)))
  (hk:(kw=[]/\ns≠[])\/∃ c t,kw=[(qbH "default",.int c t)]/\(ns=[]->r=c)) (hr:∀ n q,ns=n::q->r=gD q n) (q:Q (.int r) H) :
  wpAny (model X.prog X.w) X.A (call (.builtin "max") [.ref ad] kw) (EP X pins σ Q) X.xe s:=by
 obtain⟨its,rv,pl,hz⟩:=I.list (.inl hl)
 refine qW (items:=its.toArray) (ns:=ns) (I.ok.hd hc) (by simpa using iD rv) pl.isList ?_ ?_ λv h' kp h1 h2=>?_
 ·rcases hk with hk|⟨c,t,hk,_⟩
  ·exact .inl hk.1
  ·exact .inr ⟨_,hk⟩
 ·intro e z
  rcases hk with hk|⟨c,t,hk,_⟩
  ·exact hk.2 e
  ·rw[hk]at z;cases z
 ·have hv:∃ t,v=.int r t:=by
   cases hn:ns with
   |nil=>
    obtain⟨k,hk2⟩:=h2 hn
    rcases hk with hk|⟨c,t,hk,hc'⟩
    ·exact absurd hn hk.2
    ·rw[hk]at hk2
     cases hk2
     rw[hc' hn];exact⟨t,rfl⟩
   |cons n q=>
    rw[hr n q hn]
    exact h1 n q hn
  exact⟨.int r,H,I.kept kp,hv,q⟩
def dMx (st:Sto):List W->Option D
 |[.d (.int i),.d (.int j)]=>some (.int (if j > i then j else i))
 |[w]=>(lsI st w).bind λns=>(wK ns none).map D.int
 |_=>none
theorem wb {st:Sto}{H:Hp}{φ:List Addr}{w:W}{v:V}{ns:List Int} (S:Sr K H φ st) (r:Rw K H φ w v) (h:lsI st w=some ns):∃ ad,v=.ref ad/\Rd H ad (.lst (ns.map V.int)):=by
 obtain⟨ds,e1,e2⟩:=qac.mp h
 obtain⟨ad,vs,rfl,h1,h2⟩:=lZ S r e1
 cases cL e2
 cases h2.ints
 exact⟨ad,rfl,h1⟩
theorem Fu (hc:X.calm=true:=by rfl):mT K X (.builtin "max") dMx:=by
 refine⟨λst ws d h=>?_⟩
 have one:∀ w,((lsI st w).bind λns=>(wK ns none).map D.int)=some d->cx X (.builtin "max") (rCD K st [w] d):=λw h=>by
  obtain⟨ns,e1,h⟩:=qac.mp h
  obtain⟨r,e2,rfl⟩:=qaf.mp h
  intro pins s σ H xs us Q I rv q
  obtain⟨φ,S,⟨v,rr,rfl,r1,rfl⟩,q⟩:=q
  obtain⟨ad,rfl,hl⟩:=wb S r1 e1
  obtain⟨u,rfl,ru⟩:=lv rv
  cases ru
  refine qJ (E:=λ_ _ _=>False) (d:=none) hc I hl (.inl ⟨rfl,λe=>by rw[e]at e2;cases e2⟩) (λn q hn=>by rw[hn]at e2;exact (qaR e2).symm) (q _ H (bH.refl H) rfl)
 match ws,h with
 |[.d (.int i),.d (.int j)],h=>
  cases h
  refine (xq hc).imp ?_
  rintro vs H Q ⟨φ,S,⟨v,r,rfl,r1,u,r',rfl,r2,rfl⟩,q⟩
  exact⟨i,j,by rw[show v=.int i from r1,show u=.int j from r2],q _ H (bH.refl H) rfl⟩
 |[w],h=>exact one w (by cases w with|h n=>exact h|d x=>cases x<;>exact h)
def fg (a d:Ef):Ef
 |env,st=>(a env st).bind λx=>(d env x.2).bind λy=>(lsI y.2 x.1).bind λns=>match y.1 with
  |.d (.int c)=>(wK ns (some c)).map λr=>(.d (.int r),y.2)
  |_=>none
theorem kP {p kpos:Pos}{d:Expr}{fd:Ef} (hg:Gl X "max") (hm:X.mg "max" = none) (ha:IE K X a fa) (hd:IE K X d fd) (hs:aU a=true:=by rfl) (hc:X.calm=true:=by rfl) :
  IE K X (.Call (.Name "max" p) [a] [⟨some (qbH "default"),d,kpos⟩] pos) (fg fa fd):=by
 refine⟨λenv st r hr=>?_⟩
 simp only[fg,qac]at hr
 obtain⟨⟨x,s1⟩,hx,⟨y,s2⟩,hy,ns,e1,hr⟩:=hr
 cases y with
 |h n=>cases hr
 |d yd=>
  cases yd with
  |int c=>
   obtain⟨rr,e2,rfl⟩:=qaf.mp hr
   have ha':=(aa (es:=[]) ha ag hs).run env st ([x],s1) (by simp only[ab,ak,hx,qad,qaB])
   have hd':=Cf (nm:=some (qbH "default")) (kpos:=kpos) (kws:=[]) (hd.run env s1 (.d (.int c),s2) hy) Dh
   intro pins s σ H Q I h
   obtain⟨φ,hE,hS,q⟩:=h
   refine qc8 (je I hg hm qf3 ?_ (by decide) (by decide))
   refine callWith_kw (thn (ha' pos pins s σ H (λvs H1=>∃ φ1,Fw φ φ1 H H1/\Sr K H1 φ1 s1/\Rws K H1 φ1 [x] vs) I ⟨φ,hE,hS,λvs H1 φ1 f1 S1 w1=>⟨φ1,f1,S1,w1⟩⟩) λus t1 z1=>?_) (by rw[bE hs];rfl) (by rw[bE hs];simp[qbB,qea]) rfl rfl
   obtain⟨vs,H1,I1,r1,φ1,f1,S1,w1⟩:=z1
   refine thn (hd' pos pins t1 σ H1 (λzs H2=>∃ φ2 v,zs=[v]/\Fw φ1 φ2 H1 H2/\Sr K H2 φ2 s2/\Rw K H2 φ2 (.d (.int c)) v) I1 ⟨φ1,hE.fw hS f1,S1,λv H2 φ2 f2 S2 w2=>⟨φ2,v,rfl,f2,S2,w2⟩⟩) λws t2 z2=>?_
   obtain⟨zs,H2,I2,r2,φ2,v,ez,f2,S2,w2⟩:=z2
   subst ez
   obtain⟨v0,rr',rfl,rx,rfl⟩:=w1
   obtain⟨ad,rfl,hl⟩:=wb S2 (rx.fw S1 f2) e1
   obtain⟨u,rfl,ru⟩:=lv r1
   cases ru
   obtain⟨u2,rfl,ru2⟩:=lv r2
   have w2':v=.int c:=w2
   subst w2'
   obtain⟨t,rfl⟩:=ru2
   refine qJ (E:=λ_ _ _=>False) (d:=none) (r:=rr) hc I2 hl (.inr ⟨c,t,rfl,λe=>by rw[e]at e2;exact (qaR e2).symm⟩) (λn q hn=>by rw[hn]at e2;exact (qaR e2).symm) ?_
   exact q _ H2 φ2 (f1.trans f2) S2 rfl
  |_=>cases hr
end
section
variable {K:qai}{X:Cx}
def rC (_:Sto):W->W->Option D
 |.d (.int i),.d (.int j)=>some (.int (qdb i j))
 |_,_=>none
theorem rE:OpD K X (qbC .BitAnd) rC:=o9 (λ_=>rfl) (λ_ _=>rfl) λi j=>DY.imp λvx vy H Q h=>⟨i,j,h.1,h.2.1,h.2.2⟩
end
section
variable {K:qai}{X:Cx}{pos:Pos}{a b:Expr}{af:Af}
end
def iF (a b:Ef):Ef
 |env,st=>(a env st).bind λx=>(b env x.2).bind λy=>match x.1,y.1 with
 | .h n,.d (.int i)=>(match y.2[n]? with
  |some (.n ws)=>(atI ws i).map λw=>(w,y.2)
  |_=>none)
 |_,_=>none
def wY (a:Af):Ef
 |env,st=>(a env st).bind λr=>if r.1.length<=1000 then some (.h r.2.length,r.2++[.n r.1]) else none
def kS (o i v:Ef):Sf
 |env,st=>(v env st).bind λrv=>(o env rv.2).bind λro=>(i env ro.2).bind λri=>match ro.1,ri.1,rv.1 with
 | .h n,.d (.int k),.d x=>(match ri.2[n]? with
  |some (.n ws)=>(ixN ws.length k).map λj=>.nx env (ri.2.set n (.n (ws.set j (.d x))))
  |_=>none)
 |_,_,_=>none
def AF (ds:List D):List W->Option (D×List D)
 |[.d (.int i)]=>(ixN ds.length i).bind λk=>(ds[k]?).bind λd=>if cQ d=true/\-(2^62)<=i/\i<2^62 then some (d,ds.eraseIdx k) else none
 |_=>none
section
variable {K:qai}{X:Cx}{pos:Pos}{e a b c:Expr}{es:List Expr}{f fa fb:Ef}{af:Af}
theorem Rws.get {H:Hp}{φ:List Addr}:∀ {ds:List W}{vs:List V},Rws K H φ ds vs->∀ {i:Nat}{d:W},ds[i]?=some d->∃ v,vs[i]?=some v/\Rw K H φ d v
 |[],_,h,i,d,e=>by simp at e
 |d::ds,_,h,i,e,q=>by
  obtain⟨v,r,rfl,h1,h2⟩:=h
  cases i with
  |zero=>simp at q;subst q;exact⟨v,rfl,h1⟩
  |succ i=>simpa using Rws.get h2 (i:=i) (d:=e) (by simpa using q)
theorem Rws.set {H:Hp}{φ:List Addr}:∀ {ds:List W}{vs:List V} (n:Nat) {d:W}{v:V},Rws K H φ ds vs->Rw K H φ d v->Rws K H φ (ds.set n d) (vs.set n v)
 |[],_,_,_,_,h,_=>by cases h;exact rfl
 |e::ds,_,0,d,v,h,hd=>by
  obtain⟨u,r,rfl,h1,h2⟩:=h
  exact⟨v,r,rfl,hd,h2⟩
 |e::ds,_,n+1,d,v,h,hd=>by
  obtain⟨u,r,rfl,h1,h2⟩:=h
  exact⟨u,_,rfl,h1,Rws.set n h2 hd⟩
theorem Rws.mem {H:Hp}{φ:List Addr}:∀ {ds:List W}{vs:List V},Rws K H φ ds vs->∀ {m:Nat},W.h m∈ds->m<φ.length
 |[],_,_,m,hm=>nomatch hm
 |d::ds,_,h,m,hm=>by
  obtain⟨v,r,rfl,h1,h2⟩:=h
  rcases qaC.mp hm with z|z
  ·subst z
   obtain⟨a,e,_⟩:=h1
   exact (qay.mp e).1
  ·exact Rws.mem h2 z
theorem Sr.atn {H:Hp}{φ:List Addr}{st:Sto} (S:Sr K H φ st) {n:Nat}{p:Addr}{ws:List W} (e1:φ[n]?=some p) (e2:st[n]?=some (.n ws)):∃ vs,H p=some (.lst vs)/\Rws K H φ ws vs/\∀ m,W.h m∈ws->m<n:=S.at_ n p _ e1 e2
theorem BJ {H:Hp}{φ:List Addr}{ds:List W}{vs:List V}{i:Int}{d:W} (r:Rws K H φ ds vs) (e:atI ds i=some d):∃ v,atI vs i=some v/\Rw K H φ d v:=by
 unfold atI at e ⊢
 rw[<-r.length]
 obtain⟨j,e1,e2⟩:=qac.mp e
 obtain⟨v,ev,rv⟩:=r.get e2
 exact⟨v,by rw[e1];exact ev,rv⟩
theorem ft (ha:IE K X a fa) (hb:IE K X b fb) (hs:lT b=true:=by rfl) (hK:X.K=K:=by rfl):IE K X (.Subscript a b pos) (iF fa fb):=by
 subst hK
 refine⟨λenv st r hr=>?_⟩
 simp only[iF,qac]at hr
 obtain⟨⟨x,s1⟩,hx,⟨y,s2⟩,hy,hr⟩:=hr
 match x,y,hr with
 |.h n,.d (.int i),hr=>
  dsimp only at hr
  split at hr
  ·rename_i ws hws
   obtain⟨w,hw,rfl⟩:=qaf.mp hr
   refine (Cy vz (ha.run _ _ _ hx) (hb.run _ _ _ hy) (sN hs)).imp ?_
   rintro σ H Q ⟨φ,hE,hS,q⟩
   refine⟨φ,hE,hS,λv H1 φ1 f1 S1 w1=>⟨φ1,hE.fw hS f1,S1,λu H2 φ2 f2 S2 w2=>?_⟩⟩
   obtain⟨p,ep,rfl⟩:=w1.fw S1 f2
   obtain⟨vs,hv,rl,_⟩:=S2.atn ep hws
   obtain⟨z,ez,rz⟩:=BJ rl hw
   exact .inl ⟨p,vs,i,z,rfl,w2,SqL.of hv,ez,q z H2 φ2 (f1.trans f2) S2 rz⟩
  ·cases hr
theorem Cu (h:IA K X es af):IE K X (.List es pos) (wY af):=by
 refine⟨λenv st r hr=>?_⟩
 simp only[wY,qac]at hr
 obtain⟨y,hy,hr⟩:=hr
 split at hr
 ·cases hr
  rename_i hl
  refine (AN (h.run _ _ _ hy)).imp ?_
  rintro σ H Q ⟨φ,hE,hS,q⟩
  refine⟨φ,hE,hS,λvs H1 φ1 f1 s1 w1=>?_⟩
  refine⟨by rw[<-w1.length];exact jX hl,λp hp=>?_⟩
  exact q _ _ (φ1++[p]) (f1.trans (Fw.more hp)) (s1.moreC hp ⟨vs,bb,w1.fw s1 (Fw.more hp),λm hm=>w1.mem hm⟩) ⟨p,by rw[<-s1.len];simp,rfl⟩
 ·cases hr
theorem x8 {tpos:Pos} (ho:IE K X a fa) (hi:IE K X b fb) (hv:IE K X e f) (hb:lT b=true:=by rfl) (hs:qgg [.Subscript a b tpos] e pos.line X.env=pure false:=by rfl) (hw:qgh [.Subscript a b tpos] e X.env=pure none:=by rfl) :
  IS K X (.Assign [.Subscript a b tpos] e pos) (kS fa fb f):=by
 refine⟨λenv st r hr=>?_⟩
 simp only[kS,qac]at hr
 obtain⟨⟨rv,s1⟩,ev,⟨ro,s2⟩,eo,⟨ri,s3⟩,ei,hr⟩:=hr
 match ro,ri,rv,hr with
 |.h n,.d (.int k),.d x,hr=>
  dsimp only at hr
  split at hr
  ·rename_i ws hws
   obtain⟨j,ej,rfl⟩:=qaf.mp hr
   refine (zJ (hv.run _ _ _ ev) (yq (ho.run _ _ _ eo) (hi.run _ _ _ ei) uc (v4 hb)) hs hw (wM rfl)).imp ?_
   rintro D σ H ⟨φ,hE,hS,q⟩
   refine⟨φ,hE,hS,λv H1 φ1 f1 s1 w1=>⟨φ1,hE.fw hS f1,s1,λo H2 φ2 f2 s2 w2=>⟨φ2,(hE.fw hS f1).fw s1 f2,s2,λi H3 φ3 f3 s3 w3=>?_⟩⟩⟩
   have e3:=((hE.fw hS f1).fw s1 f2).fw s2 f3
   have w1':=(w1.fw s1 f2).fw s2 f3
   obtain⟨p,ep,rfl⟩:=w2.fw s2 f3
   obtain⟨vs,hp,rl,bd⟩:=s3.atn ep hws
   have w3':i=.int k:=w3
   subst w3'
   obtain⟨f4,s4⟩:=s3.putC (o:=.lst (vs.set j v)) (c:=.n (ws.set j (.d x))) ep λf=>⟨_,bb,(Rws.set j rl w1').fw s3 f,λm hm=>by
    rcases List.mem_or_eq_of_mem_set hm with z|z
    ·exact bd m z
    ·cases z⟩
   refine⟨p,vs,k,j,rfl,rfl,hp,by rw[<-rl.length];exact ej,?_⟩
   exact q _ _ φ3 (((f1.trans f2).trans f3).trans f4) (e3.fw s3 f4) s4
  ·cases hr
theorem Rls.erase {H:Hp}{φ:List Addr}:∀ {ds:List D}{vs:List V} (n:Nat),Rls K H φ ds vs->Rls K H φ (ds.eraseIdx n) (vs.eraseIdx n)
 |[],_,_,h=>by cases h;exact rfl
 |d::ds,_,0,h=>by
  obtain⟨v,r,rfl,h1,h2⟩:=h
  exact h2
 |d::ds,_,n+1,h=>by
  obtain⟨v,r,rfl,h1,h2⟩:=h
  exact⟨v,_,rfl,h1,Rls.erase n h2⟩
theorem EM {apos:Pos} (ho:IE K X a fa) (ha:IA K X (e::es) af) (hbase:qeh a "pop" X.env (eval a X.env)=eval a X.env:=by rfl)
  (hall:(e::es).all aU=true:=by rfl) (hfl30:(e::es).length<30:=by decide) (hline:(apos.endLine==pos.line)=true:=by rfl) (hK:X.K=K:=by rfl) :
  IE K X (.Call (.Attribute a "pop" apos) (e::es) [] pos) (gt AF fa af):=by
 refine vi PySem.F.slot_list_pop PySem.F.type_list_pop Aq (λH φ st n ad ds vs ws us y Q S ea eds hv rl rw hy q=>?_) (λds ws y h=>?_) ho ha hbase hall hfl30 hline hK
 ·match ws,hy with
  |[.d (.int i)],hy=>
   simp only[AF,qac]at hy
   obtain⟨k,hk,d,hd,hy⟩:=hy
   split at hy
   ·rename_i hl
    cases hy
    obtain⟨v,r,rfl,r1,rfl⟩:=rw
    obtain⟨x,ex,rx⟩:=rl.get hd
    refine⟨ad,vs,i,k,x,rfl,by rw[show v=.int i from r1],hv,by lia,by lia,by rw[<-rl.length];exact (rK hk).1,ex,q _ _ rx (rl.erase k) λb z=>?_⟩
    obtain⟨z1,z2⟩:=eR hl.1 rx
    rw[z]at z2
    cases z2
   ·cases hy
 ·match ws,h with
  |[.d (.int i)],h=>
   simp only[AF,qac]at h
   obtain⟨k,hk,d,hd,h⟩:=h
   split at h
   ·rename_i hl
    cases h;exact hl.1
   ·cases h
end
def aw (m:Nat):List Nat:=(qam 6).filter λk=>m.testBit k
def CZ (m k:Nat):Bool:=((aw m).toArray[qa4 (aw m).toArray k]?==some k)==m.testBit k
theorem ye:∀ m:Fin 64,∀ k:Fin 6,CZ m.1 k.1=true:=by decide +kernel
theorem vw {m k:Nat} (hm:m<64) (hk:k<6):((aw m).toArray[qa4 (aw m).toArray k]?==some k)=m.testBit k:=eq_of_beq (ye ⟨m,hm⟩ ⟨k,hk⟩)
def zB (m k:Nat):Bool:=m.testBit k||(aw (m|||1 <<< k)==(aw m).take (qa4 (aw m).toArray k)++k::(aw m).drop (qa4 (aw m).toArray k))
theorem xV:∀ m:Fin 64,∀ k:Fin 6,zB m.1 k.1=true:=by decide +kernel
theorem vp {m k:Nat} (hm:m<64) (hk:k<6) (hb:m.testBit k=false):aw (m|||1 <<< k)=(aw m).take (qa4 (aw m).toArray k)++k::(aw m).drop (qa4 (aw m).toArray k):=by
 have:=xV ⟨m,hm⟩ ⟨k,hk⟩
 unfold zB at this
 rw[show (⟨m,hm⟩:Fin 64).1=m from rfl,show (⟨k,hk⟩:Fin 6).1=k from rfl,hb,qdZ]at this
 exact eq_of_beq this
def z6 (m k:Nat):Bool:=!m.testBit k||((aw m)[qa4 (aw m).toArray k]?==some k&&(aw (m^^^1 <<< k)==(aw m).take (qa4 (aw m).toArray k)++(aw m).drop (qa4 (aw m).toArray k+1)))
theorem xu:∀ m:Fin 64,∀ k:Fin 6,z6 m.1 k.1=true:=by decide +kernel
theorem vf {m k:Nat} (hm:m<64) (hk:k<6) (hb:m.testBit k=true):(aw m)[qa4 (aw m).toArray k]?=some k/\aw (m^^^1 <<< k)=(aw m).take (qa4 (aw m).toArray k)++(aw m).drop (qa4 (aw m).toArray k+1):=by
 have:=xu ⟨m,hm⟩ ⟨k,hk⟩
 unfold z6 at this
 rw[show (⟨m,hm⟩:Fin 64).1=m from rfl,show (⟨k,hk⟩:Fin 6).1=k from rfl,hb,qbM,qdZ,qa8]at this
 exact⟨eq_of_beq this.1,eq_of_beq this.2⟩
def ky:List Nat:=[7,15,31]
def EH (m mask:Nat):Bool:=qek mask 0 0 true true ((aw m).map λ(k:Nat)=>(k:Int)).toArray==some (⟨mask,(aw m).toArray,#[],0,true,0,true⟩,qd1 (aw m).length)
theorem xG:∀ m:Fin 64,(ky.all λq=>EH m.1 q)=true:=by decide +kernel
theorem Ai (mask f mv:Nat) (l p:Bool) (hs:Array Int):qek mask f mv l p hs=(qek mask 0 0 true true hs).map λx=>({ x.1 with finger:=f,led:=l,moves:=mv,plain:=p },x.2):=by
 unfold qek
 cases SetTable.layClean mask hs<;>rfl
theorem wZ {m mask:Nat} (hm:m<64) (hq:mask∈ky) (f mv:Nat) (l p:Bool):qek mask f mv l p ((aw m).map λ(k:Nat)=>(k:Int)).toArray=some (⟨mask,(aw m).toArray,#[],f,l,mv,p⟩,qd1 (aw m).length):=by
 have:=qaw.mp (xG ⟨m,hm⟩) mask hq
 rw[Ai,eq_of_beq this];rfl
def vX (m i:Nat):Bool:=i<(aw m).length.succ&&!(qa4 (aw m).toArray (if i=0 then 0 else (aw m).getD (i - 1) 0+1)==i) 
theorem vQ:∀ m:Fin 64,∀ i:Fin 7,vX m.1 i.1=false:=by decide +kernel
def pj (m i:Nat):Nat:=if i=0 then 0 else (aw m).getD (i - 1) 0+1
theorem vm:∀ m:Fin 64,(aw m.1).length<=6:=by decide +kernel
theorem iy {m:Nat} (hm:m<64):(aw m).length<=6:=vm ⟨m,hm⟩
theorem Cj {m i:Nat} (hm:m<64) (hi:i<=(aw m).length):qa4 (aw m).toArray (pj m i)=i:=by
 have hl:=iy hm
 have:=vQ ⟨m,hm⟩ ⟨i,by lia⟩
 unfold vX at this
 have h1:decide (i<(aw m).length.succ)=true:=decide_eq_true (by lia)
 rw[show (⟨m,hm⟩:Fin 64).1=m from rfl,show ((⟨i,by lia⟩:Fin 7)).1=i from rfl,h1,Bool.true_and,qfM]at this
 exact eq_of_beq this
def wP (m d:Nat):Bool:=m&&&d != 0||decide ((aw m).length+(aw d).length<=6)
theorem uW:∀ m:Fin 64,∀ d:Fin 64,wP m.1 d.1=true:=by decide +kernel
theorem A1 {m d:Nat} (hm:m<64) (hd:d<64) (h:m&&&d=0):(aw m).length+(aw d).length<=6:=by
 have:=uW ⟨m,hm⟩ ⟨d,hd⟩
 unfold wP at this
 rw[show (⟨m,hm⟩:Fin 64).1=m from rfl,show (⟨d,hd⟩:Fin 64).1=d from rfl,h]at this
 simpa using this
theorem oA {m k:Nat}:k∈aw m↔k<6/\m.testBit k=true:=by
 unfold aw;rw[qb0,qaK]
theorem wk {m k:Nat} (h:k∈aw m):k<6:=(oA.mp h).1
theorem rL {m k:Nat} (hm:m < 64) (hk:k < 6):m ||| 1 <<< k < 64:=Nat.or_lt_two_pow (n:=6) hm (by
 rw[qfZ];exact qff (by decide) hk)
theorem uw {m k:Nat} (hm:m < 64) (hk:k < 6):m ^^^ 1 <<< k < 64:=qiA (n:=6) hm (by
 rw[qfZ];exact qff (by decide) hk)
theorem jm {k j:Nat}:(1 <<< k).testBit j=decide (k=j):=by rw[qfZ,Nat.testBit_two_pow]
def aS (m:Nat) (f:Nat->Tok):Array (Int×Value):=((aw m).map λ(k:Nat)=>((k:Int),Value.int k (f k))).toArray
theorem aS.size (m:Nat) (f:Nat->Tok):(aS m f).size=(aw m).length:=by simp[aS]
theorem aS.toList (m:Nat) (f:Nat->Tok):(aS m f).toList=(aw m).map λ(k:Nat)=>((k:Int),Value.int k (f k)):=by simp[aS]
theorem aS.hashes (m:Nat) (f:Nat->Tok):(aS m f).map (·.1)=((aw m).map λ(k:Nat)=>(k:Int)).toArray:=by
 simp[aS,qaL,Function.comp_def]
structure fq (b:Bool) (t:qg8) (m d:Nat):Prop where
 msk:t.mask∈ky
 pl:t.place=(aw m).toArray
 du:t.dummies=(aw d).toArray
 led:t.led=!b
 plain:t.plain=true
section
variable {b:Bool}{t:qg8}{m d k:Nat}
theorem fq.fits (T:fq b t m d) (hm:m<64) (hd:d<64) (h:m&&&d=0) (f:Nat->Tok):t.fits (aS m f).size=true:=by
 have:=A1 hm hd h
 have hk:=T.msk
 have h7:7<=t.mask:=by
  have hk:t.mask=7\/t.mask=15\/t.mask=31:=by simpa [ky] using hk
  lia
 simp only[SetTable.fits,qiw,T.pl,T.du,aS.size,qaz,qa8,beq_iff_eq,decide_eq_true_eq,true_and]
 lia
theorem u9 {k mask:Nat} (hk:k<6) (hq:mask∈ky):qix (k:Int)%(mask+1)=k:=by
 have hq:mask=7\/mask=15\/mask=31:=by simpa [ky] using hq
 unfold qix
 have e:((k:Int)%(2^64:Int)).toNat=k:=by lia
 rw[e]
 rcases hq with rfl|rfl|rfl<;>lia
theorem fq.slot (T:fq b t m d) (hm:m<64) (hd:d<64) (hk:k<6) (h1:m.testBit k=false) (h2:d.testBit k=false):t.slot k=.empty:=by
 unfold SetTable.slot qgH
 dsimp only
 rw[T.pl,T.du,vw hm hk,vw hd hk,h1,h2]
 rfl
theorem fq.free (T:fq b t m d) (hm:m<64) (hd:d<64) (hk:k<6) (h1:m.testBit k=false) (h2:d.testBit k=false):t.freeSlot (k:Int)=some (k,false):=by
 have e:t.probe (λ_=>(k:Int)+1) k (t.probeStart k)=some (.empty k none):=by
  unfold SetTable.probe
  have hf:∃ n,10*qf2 t.mask=n+1:=⟨10*qf2 t.mask - 1,by unfold qf2;lia⟩
  obtain⟨n,hn⟩:=hf
  rw[hn]
  unfold qjp SetTable.probeStart
  dsimp only
  rw[u9 hk T.msk,T.slot hm hd hk h1 h2]
 unfold SetTable.freeSlot
 rw[e];rfl
theorem aS.ins (f:Nat->Tok) (tk:Tok) (hm:m<64) (hk:k<6) (h1:m.testBit k=false):qfk (aS m f) (qa4 (aw m).toArray k) ((k:Int),Value.int k tk)=aS (m|||1 <<< k) (λj=>if j=k then tk else f j):=by
 apply qbf.mp
 rw[qeb,aS.toList,aS.toList,vp hm hk h1,qba,qal,<-qhc,<-qjv]
 have hn:∀ j∈aw m,j≠k:=λj hj e=>by
  rw[e,oA]at hj
  rw[hj.2]at h1;cases h1
 congr 1
 ·exact qar λj hj=>by rw[if_neg (hn j (qfb hj))]
 ·rw[if_pos rfl]
  congr 1
  exact qar λj hj=>by rw[if_neg (hn j (qhO hj))]
theorem fq.put (T:fq b t m d) (hm:m<64) (hk:k<6) (h1:m.testBit k=false) (hd:d<64) (h2:d.testBit k=false):fq b (t.put k).1 (m|||1 <<< k) d/\(t.put k).2=qa4 (aw m).toArray k:=by
 unfold SetTable.put
 dsimp only
 have hh:qgH t.dummies k=false:=by unfold qgH;rw[T.du,vw hd hk,h2]
 rw[hh]
 refine⟨⟨T.msk,?_,T.du,T.led,T.plain⟩,by rw[T.pl]⟩
 apply qbf.mp
 show (qfk t.place (qa4 t.place k) k).toList=_
 rw[qeb,T.pl,vp hm hk h1]
theorem wg (h:m&&&d=0) (h2:d.testBit k=false):(m|||1 <<< k)&&&d=0:=by
 apply qci
 intro j
 have:=congrArg (λx=>x.testBit j) h
 simp only[qd5,qcg]at this
 rw[qd5,qcl,jm,qcg]
 by_cases e:k=j
 ·subst e;rw[h2,qgV]
 ·rw[decide_eq_false e,qeE,this]
theorem fq.lay (T:fq b t m d) (hm:m<64) (hk:k<6) (h1:m.testBit k=false) (hd:d<64) (h2:d.testBit k=false) (h:m&&&d=0) (f:Nat->Tok) (tk:Tok) :
  layNew t (aS m f) k (.int k tk)=(aS (m|||1 <<< k) (λj=>if j=k then tk else f j),(t.put k).1,false,false):=by
 have T':=T.put hm hk h1 hd h2
 have hf:=T'.1.fits (rL hm hk) hd (wg h h2) (λj=>if j=k then tk else f j)
 unfold layNew
 rw[T.free hm hd hk h1 h2]
 dsimp only
 rw[T'.2,aS.ins f tk hm hk h1]
 unfold SetTable.orStandIn
 rw[hf];rfl
theorem kH {n:Nat} (h:n<32):qd0 n - 1∈ky/\qd0 n<=32:=by
 have:∀ n:Fin 32,qd0 n.1 - 1∈ky/\qd0 n.1<=32:=by decide +kernel
 exact this ⟨n,h⟩
theorem xI (n:Nat):coversAll (qd1 n) n=true:=by
 unfold coversAll
 rw[qh7]
 exact List.isPerm_iff.mpr (qcv _)
theorem oQ {α:Type} (es:Array α):(qd1 es.size).filterMap (es[·]?)=es:=by
 apply qbf.mp
 rw[Array.toList_filterMap,qh7]
 exact filterMap_getElem?_range es
theorem fq.relaid (T:fq b t m d) (hm:m<64) {n:Nat} (hn:n<32):∃ t',fq b t' m 0/\t.relaid ((aw m).map λ(k:Nat)=>(k:Int)).toArray n=some (t',qd1 (aw m).length):=by
 unfold SetTable.relaid
 rw[wZ hm (kH hn).1]
 refine⟨_,?_,rfl⟩
 exact⟨(kH hn).1,rfl,by simp[aw],T.led,T.plain⟩
theorem fq.relayAll (T:fq b t m d) (hm:m<64) (f:Nat->Tok) {n:Nat} (hn:n<32):∃ t',fq b t' m 0/\relayAll t (aS m f) n=(aS m f,t',false):=by
 obtain⟨t',T',e⟩:=T.relaid hm hn
 refine⟨t',T',?_⟩
 unfold PySem.relayAll
 rw[aS.hashes,e]
 dsimp only
 have h0:m&&&0=0:=qe2 m
 rw[<-aS.size m f,xI,oQ,T'.fits hm (by decide) h0 f]
 rfl
end
def byT (w:World):Bool:=w.params.followText "set-order"
def Ca (w:World) (o:Obj) (m d:Nat):Prop:=m<64/\d<64/\m&&&d=0/\o.ExactSet/\∃ f ep t,o.data=.set (aS m f) ep t/\fq (byT w) t m d
def aY (w:World) (h:Heap) (a:Addr) (m d:Nat):Prop:=∃ o,h.get? a=some o/\Ca w o m d
theorem vb:∀ k:_root_.Fin 6,hashInt ((k.1:Nat):Int)=(k.1:Int):=by decide +kernel
theorem rQ {k:Nat} (hk:k<6):hashInt (k:Int)=k:=vb ⟨k,hk⟩
section
variable {prog:qaX}{w:World}{A:qbc}{E:Value->qaj->Prop}{s:qaj}{a:Addr}{m d k:Nat}
theorem aY.type (S:aY w s.heap a m d):s.TypeIs (.ref a) "set":=let ⟨o,ho,_,_,_,hx,_⟩:=S;⟨o,ho,hx.1⟩
theorem aY.at' {h h':Heap} (S:aY w h a m d) (e:∀ o,h.get? a=some o->h'.get? a=some o):aY w h' a m d:=let ⟨o,ho,r⟩:=S;⟨o,e o ho,r⟩
theorem wa (m:Nat) (f:Nat->Tok):ElemsOf (qdV prog w) (aS m f).toList:=by
 intro e he
 rw[aS.toList]at he
 obtain⟨j,hj,rfl⟩:=qap.mp he
 exact⟨⟨(j:Int),qhX _ _ _ _,(rQ (wk hj)).symm⟩,rfl⟩
def DB (m k:Nat):Bool:=(aw m).findIdx? (λj=>j==k)==(if m.testBit k then some (qa4 (aw m).toArray k) else none)
theorem yb:∀ m:_root_.Fin 64,∀ k:_root_.Fin 6,DB m.1 k.1=true:=by decide +kernel
theorem As (hm:m<64) (hk:k<6) (f:Nat->Tok):(aS m f).toList.findIdx? (λe=>(qdV prog w).is (k:Int) e.2)=(if m.testBit k then some (qa4 (aw m).toArray k) else none):=by
 rw[<-eq_of_beq (yb ⟨m,hm⟩ ⟨k,hk⟩),aS.toList,List.findIdx?_map]
 congr 1
 funext j
 show (((j:Int))==(k:Int))=(j==k)
 by_cases e:j=k
 ·subst e;simp
 ·rw[beq_false_of_ne e,beq_false_of_ne (by lia)]
theorem oR (hm:m<64) (f:Nat->Tok):(aS m f).size<scanBound:=by
 have:=iy hm
 rw[aS.size];unfold scanBound;lia
theorem ge {o:Obj}{es:Array (Int×Value)}{ep:Nat}{t t':qg8}{m' d':Nat}{f':Nat->Tok}{h:Heap} (ho:h.get? a=some o) (hx:o.ExactSet) (hd:o.data=.set es ep t) (h1:m'<64) (h2:d'<64) (h3:m'&&&d'=0) (T:fq (byT w) t' m' d') :
  ∃ o',(h.update a (qfY (aS m' f') t')).get? a=some o'/\o'.ExactSet/\o'.data=.set (aS m' f') (ep+1) t'/\aY w (h.update a (qfY (aS m' f') t')) a m' d':=by
 have hg:(h.update a (qfY (aS m' f') t')).get? a=some { o with data:=.set (aS m' f') (ep+1) t' }:=by
  have:=qbY (qfY (aS m' f') t') ho (by rw[putSet_of _ t' hd];rfl)
  rw[putSet_of _ t' hd]at this;exact this
 exact⟨_,hg,hx,rfl,_,hg,h1,h2,h3,hx,f',ep+1,t',rfl,T⟩
theorem eD {m:Nat} (hm:m<64) (f:Nat->Tok):(aS m f).size<=qaS:=by
 have:=iy hm
 rw[aS.size,qb5];lia
theorem uf (h:m.testBit k=true):m|||1 <<< k=m:=by
 apply qci
 intro j
 rw[qcl,jm]
 by_cases e:k=j
 ·subst e;rw[h];rfl
 ·rw[decide_eq_false e,qeE]
theorem qZ {tk:Tok}{Q:Bool->qaj->Prop} (S:aY w s.heap a m d) (hk:k<6) (hdk:m.testBit k=true\/d.testBit k=false)
  (h:∀ h' d' b,qbq a s.heap h'->aY w h' a (m|||1 <<< k) d'->(d'=d\/d'=0)->Q b { s with heap:=h' }) :
  wpAny (model prog w) A (qiF a (.int k tk) (k:Int)) Q E s:=by
 obtain⟨o,ho,hm,hd,h0,hx,f,ep,t,hdat,T⟩:=id S
 have hf:=T.fits hm hd h0 f
 have hel:=wa (prog:=prog) (w:=w) m f
 unfold qiF setAddHashedIn
 refine qbj (qaa (qcQ ho hdat hf ?_))
 dsimp only
 rw[byScan_of (knd:=qdV prog w) rfl (oR hm f) hel]
 simp only[↓reduceIte]
 unfold setAddByScan
 refine qaa ?_
 refine qaa (qc2 ?_)
 have key:(qdV prog w).is (k:Int) (.int k tk)=true:=qhX _ _ _ _
 have hh:(k:Int)=(qdV prog w).hash (k:Int):=(rQ hk).symm
 refine qaa ?_
 rw[show qkY a (Value.int k tk) (k:Int) true (aS m f)=qkY a (Value.int k tk) ((qdV prog w).hash (k:Int)) true (aS m f) from by rw[<-hh]]
 refine qj0 (knd:=qdV prog w) key ho hdat hf hel ?_
 rw[As hm hk f]
 cases hb:m.testBit k with
 |true=>
  rw[if_pos rfl]
  dsimp only
  refine qab (qab ?_)
  have e:s={ s with heap:=s.heap }:=by cases s;rfl
  have:=h s.heap d false (qdY a s.heap) (by rw[uf hb];exact S) (.inl rfl)
  rw[e];exact this
 |false=>
  rw[if_neg qaq]
  dsimp only
  have hdk':d.testBit k=false:=by
   rcases hdk with z|z
   ·rw[hb]at z;cases z
   ·exact z
  rw[T.lay hm hk hb hd hdk' h0 f tk]
  dsimp only
  have T1:=(T.put hm hk hb hd hdk').1
  have h01:=wg (m:=m) h0 hdk'
  have hm1:=rL hm hk
  refine qaa (m:=pure ()) (qab ?_)
  have hpl:(t.put k).1.plain=true:=T1.plain
  rw[if_pos hpl]
  refine qaa ?_
  rw[hashByValue_scannable 8 rfl]
  refine qab ?_
  dsimp only[plainKind]
  rw[if_pos rfl]
  refine qaa (qdg ho hdat ?_ (eD hm1 _))
  obtain⟨o1,ho1,hx1,hd1,S1⟩:=ge (w:=w) (f':=λj=>if j=k then tk else f j) ho hx hdat hm1 hd h01 T1
  have hsb1:=qbl s.heap a (qfY (aS (m|||1 <<< k) (λj=>if j=k then tk else f j)) (t.put k).1)
  split
  ·have hn:qij (aS (m|||1 <<< k) (λj=>if j=k then tk else f j)).size<32:=by
    have:=iy hm1
    rw[aS.size];unfold qij;split<;>lia
   obtain⟨t2,T2,e2⟩:=T1.relayAll hm1 (λj=>if j=k then tk else f j) hn
   rw[e2]
   dsimp only
   refine qaa (m:=pure ()) (qab ?_)
   refine qaa (qdg ho1 hd1 ?_ (eD hm1 _))
   obtain⟨o2,ho2,hx2,hd2,S2⟩:=ge (w:=w) (f':=λj=>if j=k then tk else f j) ho1 hx1 hd1 hm1 (by decide) (qe2 _) T2
   refine qab (qab ?_)
   exact h _ 0 true (hsb1.trans (qbl _ a _)) S2 (.inr rfl)
  ·refine qab (qab ?_)
   exact h _ d true hsb1 S1 (.inl rfl)
end
theorem cv:Slot "set_iterator" "__next__" "set_iterator.__next__":=
 .of (owner:="set_iterator") (n:="__next__") (by rw[qkW,qiK];kernel_rfl) (by decide +kernel) (by decide +kernel) (by decide +kernel)
  (by first|exact .inl (by decide +kernel)|exact .inr (by decide +kernel)) (by rw[qdW];kernel_rfl)
theorem iY:qg7 table "set_iterator.__next__" = some qcB.«set_iterator.__next__»:=entryFor_of_tree (by kernel_rfl)
theorem oS:Manifest.owners.lookup (String.ofList ['r','o','t','a','r','e','t','i','_','t','e','s'].reverse)=some Manifest.sig_set_iterator:=by kernel_rfl
theorem jA (a:Value):qhZ "set_iterator.__next__" ⟨[a],[]⟩:=by
 unfold qhZ;rw[signature?_of (id:="set_iterator.__next__") (n:=['_','_','t','x','e','n','_','_']) (o:=['r','o','t','a','r','e','t','i','_','t','e','s']) (by kernel_rfl) oS];kernel_rfl
theorem jH:Slot "set_iterator" "__iter__" "set_iterator.__iter__":=
 .of (owner:="set_iterator") (n:="__iter__") (by rw[qkW,qiK];kernel_rfl) (by decide +kernel) (by decide +kernel) (by decide +kernel)
  (by first|exact .inl (by decide +kernel)|exact .inr (by decide +kernel)) (by rw[qdW];kernel_rfl)
theorem nt:qg7 table "set_iterator.__iter__" = some qcB.«dict_keyiterator.__iter__»:=
 qfR (id':="dict_keyiterator.__iter__") (by kernel_rfl) rfl (by decide +kernel) (by kernel_rfl)
theorem oh (a:Value):qhZ "set_iterator.__iter__" ⟨[a],[]⟩:=by
 unfold qhZ;rw[signature?_of (id:="set_iterator.__iter__") (n:=['_','_','r','e','t','i','_','_']) (o:=['r','o','t','a','r','e','t','i','_','t','e','s']) (by kernel_rfl) oS];kernel_rfl
theorem nV:qg7 table "set.__iter__" = some qcB.«frozenset.__iter__»:=
 qfR (id':="frozenset.__iter__") (by kernel_rfl) rfl (by decide +kernel) (by kernel_rfl)
def bI (w:World) (h:Heap) (a:Addr) (m d:Nat) (f:Nat->Tok) (ep:Nat):Prop:=m<64/\d<64/\m&&&d=0/\∃ o t,h.get? a=some o/\o.ExactSet/\o.data=.set (aS m f) ep t/\fq (byT w) t m d
theorem aY.dat {w:World}{h:Heap}{a:Addr}{m d:Nat} (S:aY w h a m d):∃ f ep,bI w h a m d f ep:=let ⟨o,ho,h1,h2,h3,hx,f,ep,t,hd,T⟩:=S;⟨f,ep,h1,h2,h3,o,t,ho,hx,hd,T⟩
theorem bI.at' {w:World}{h h':Heap}{a:Addr}{m d ep:Nat}{f:Nat->Tok} (S:bI w h a m d f ep) (e:∀ o,h.get? a=some o->h'.get? a=some o):bI w h' a m d f ep:=let ⟨h1,h2,h3,o,t,ho,r⟩:=S;⟨h1,h2,h3,o,t,e o ho,r⟩
def jR (w:World) (a:Addr) (m:Nat) (f:Nat->Tok) (ep:Nat):Array (Int×Value):=if byT w then pickOrder (w.params.setOrder a ep) (aS m f) else aS m f
def eN (h:Heap) (it a:Addr) (x:Nat) (i n ep:Nat):Prop:=∃ o,h.get? it=some o/\o.cls=.type "set_iterator"/\o.data=.fields #[.int x 0,.int i 0,.ref a,.int n 0,.int ep 0]
theorem eN.typeIs {s:qaj}{it a:Addr}{x i n ep:Nat} (h:eN s.heap it a x i n ep):s.TypeIs (.ref it) "set_iterator":=let ⟨o,ho,hc,_⟩:=h;⟨o,ho,hc⟩
theorem eN.at' {h h':Heap}{it a:Addr}{x i n ep:Nat} (z:eN h it a x i n ep) (e:∀ o,h.get? it=some o->h'.get? it=some o):eN h' it a x i n ep:=let ⟨o,ho,r⟩:=z;⟨o,e o ho,r⟩
theorem oE {α:Type}:∀ (l:List α) (i:Nat) (h:i<l.length),([l[i]]++l.eraseIdx i).Perm l
 |x::l,0,_=>qcv _
 |x::l,i+1,h=>by
  have ih:=oE l i (by simpa using h)
  simp only[List.getElem_cons_succ,List.eraseIdx_cons_succ]
  exact (List.Perm.swap x _ _).trans (List.Perm.cons x ih)
theorem lu {α:Type} (nx:Nat->Nat):∀ (fuel k:Nat) (l:List α) (out:Array α),l.length<=fuel->(qfj nx fuel k l out).toList.Perm (out.toList++l)
 |0,k,l,out,h=>by
  have:l=[]:=qeD.mp (Nat.le_zero.mp h)
  subst this
  simp[qfj]
 |fuel+1,k,[],out,h=>by simp[qfj]
 |fuel+1,k,x::l,out,h=>by
  unfold qfj
  have hlt:nx k%(x::l).length<(x::l).length:=Nat.mod_lt _ (by simp)
  rw[qaD hlt]
  dsimp only
  refine (lu nx fuel (k+1) ((x::l).eraseIdx (nx k%(x::l).length)) _ (by rw[List.length_eraseIdx_of_lt hlt];simp at h ⊢;lia)).trans ?_
  rw[qit,qb8]
  refine List.Perm.append_left _ ?_
  exact oE _ _ hlt
theorem oW (w:World) (a:Addr) (m:Nat) (f:Nat->Tok) (ep:Nat):(jR w a m f ep).toList.Perm (aS m f).toList:=by
 unfold jR
 split
 ·unfold pickOrder
  exact (lu _ _ _ _ _ (by simp)).trans (by simp)
 ·exact qcv _
theorem lh (w:World) (a:Addr) (m:Nat) (f:Nat->Tok) (ep:Nat):(jR w a m f ep).size=(aw m).length:=by
 have:=(oW w a m f ep).length_eq
 rw[qa5,qa5,aS.size]at this;exact this
section
variable {prog:qaX}{w:World}{A:qbc}{E:Value->qaj->Prop}{s:qaj}{a it:Addr}{m d ep i:Nat}{f:Nat->Tok}
theorem bI.state {Q:(Array (Int×Value)×Nat×qg8)->qaj->Prop} (S:bI w s.heap a m d f ep) (h:∀ t,fq (byT w) t m d->Q (aS m f,ep,t) s):wpAny (model prog w) A (setState a) Q E s:=by
 obtain⟨h1,h2,h3,o,t,ho,hx,hd,T⟩:=S
 exact qcQ ho hd (T.fits h1 h2 h3 f) (h t T)
theorem il {Q:Bool->qaj->Prop} (h:Q (byT w) s):wpAny (model prog w) A setsByText Q E s:=by
 unfold setsByText
 exact qaa (qgX (qab h))
theorem bI.walk {Q:Array (Int×Value)->qaj->Prop} (S:bI w s.heap a m d f ep) (h:Q (jR w a m f ep) s):wpAny (model prog w) A (setWalk a) Q E s:=by
 unfold setWalk
 refine qaa (S.state λt T=>?_)
 dsimp only
 refine qaa (il ?_)
 unfold jR at h
 cases hb:byT w with
 |true=>
  rw[hb,if_pos rfl]at h
  rw[if_pos rfl]
  exact qaa (qgX (qab h))
 |false=>
  rw[hb,if_neg qaq]at h
  rw[if_neg qaq]
  have hl:t.led=true:=by rw[T.led,hb];rfl
  refine qeo (λz=>?_) λ_=>?_
  ·exfalso
   revert z
   show ¬ ((!t.plain&&_)=true)
   rw[T.plain];simp
  ·refine qaa (Q:=_) ?_
   show wpAny _ _ (if (!t.led&&_)=true then _ else _) _ _ _
   rw[hl]
   simp only[qbM,qgU,qax,↓reduceIte]
   exact qab (qab h)
theorem yy {Q:Value->qaj->Prop} (S:bI w s.heap a m d f ep)
  (hQ:Q (.ref s.heap.objs.size) { s with heap:=s.heap.push { cls:=.type "set_iterator",data:=.fields #[.int 0 0,.int 0 0,.ref a,.int (aw m).length 0,.int ep 0] } }) :
  wpAny (model prog w) A (qhW (.ref a)) Q E s:=by
 have hT:s.TypeIs (.ref a) "set":=let ⟨_,_,_,o,t,ho,hx,_⟩:=S;⟨o,ho,hx.1⟩
 refine qgw hT qg1 (qbn qg1 hT nV ?_ (PySem.F.args_set_iter_1 _))
 unfold qcB.«frozenset.__iter__» qiS qid
 simp only[qdT,qbM,qax,↓reduceIte,bind_assoc,qbS,bne_self_eq_false]
 unfold qdL qiT qjH setDrawn
 refine qaa (qab ?_)
 try dsimp only
 refine qaa (qab ?_)
 refine qaa (qaa (qaa (S.state λt T=>qab (qab ?_))))
 refine qaa (qaa (S.state λt T=>?_))
 dsimp only
 refine qaa (il (qab ?_))
 have e0:(!byT w&&(!t.plain&&decide ((aS m f).size > 1)))=false:=by rw[T.plain];simp
 refine qeo (λz=>absurd (z.symm.trans (show _=false from e0)) (by simp)) λ_=>?_
 refine qaa (qab ?_)
 unfold qjk
 refine qaa (qaa (S.state λt T=>qab ?_))
 simp only[newFields]
 refine qaa (qbi (qab ⟨_,rfl,"set_iterator",_,⟨_,qaA _ rfl,rfl⟩,cv.lookup,?_⟩))
 simpa [qe8,aS.size] using hQ
end
section
variable {prog:qaX}{w:World}{A:qbc}{E:Value->qaj->Prop}{s:qaj}{a it:Addr}{m d ep i:Nat}{f:Nat->Tok}
def ir (w:World) (m i:Nat):Nat:=if byT w then 0 else pj m i
theorem bI.next {Q:Option (Value×Nat)->qaj->Prop} (S:bI w s.heap a m d f ep) (hi:i<=(aw m).length)
  (h:Q ((jR w a m f ep)[i]?.map λe=>(e.2,ir w m (i+1))) s):wpAny (model prog w) A (setNext a (ir w m i) i ep) Q E s:=by
 have hm:m<64:=S.1
 unfold setNext
 refine qaa (S.state λt T=>?_)
 dsimp only
 refine qaa (il ?_)
 cases hb:byT w with
 |true=>
  rw[if_pos rfl]
  simp only[bne_self_eq_false,qax,↓reduceIte]
  refine qaa (S.walk (qab ?_))
  unfold ir at h
  rw[hb,if_pos rfl]at h
  unfold ir
  rw[hb,if_pos rfl]
  exact h
 |false=>
  rw[if_neg qaq]
  have hl:t.led=true:=by rw[T.led,hb];rfl
  refine qeo (λz=>?_) λ_=>?_
  ·exfalso
   revert z
   show ¬ ((!t.plain&&_)=true)
   rw[T.plain];simp
  ·refine qaa (Q:=_) ?_
   show wpAny _ _ (if (!t.led&&_)=true then _ else _) _ _ _
   rw[hl]
   simp only[qbM,qgU,qax,↓reduceIte]
   refine qab ?_
   unfold ir at h
   rw[hb,if_neg qaq]at h
   unfold jR at h
   rw[hb,if_neg qaq]at h
   unfold ir
   rw[hb,if_neg qaq,T.pl,Cj hm hi]
   refine qab ?_
   by_cases hlt:i<(aw m).length
   ·have e1:(aS m f)[i]?=some (((aw m)[i]:Int),Value.int ((aw m)[i]:Nat) (f (aw m)[i])):=by
     rw[<-qcc,aS.toList,qaZ,qaD hlt];rfl
    have e2:(aw m).toArray[i]?=some (aw m)[i]:=by simp[hlt]
    rw[e1,e2]
    rw[e1]at h
    have e3:pj m (i+1)=(aw m)[i]+1:=by
     unfold pj
     rw[if_neg (by lia)]
     simp[qaQ,hlt]
    rw[e3]at h
    exact h
   ·have e1:(aS m f)[i]?=none:=qbP (by rw[aS.size];lia)
    rw[e1]at h ⊢
    exact h
theorem p6 {Q:Option Value->qaj->Prop} (hit:eN s.heap it a (ir w m i) i (aw m).length ep) (S:bI w s.heap a m d f ep) (hi:i<(aw m).length) {e:Int×Value} (he:(jR w a m f ep)[i]?=some e)
  (hQ:∀ h',eN h' it a (ir w m (i+1)) (i+1) (aw m).length ep->qbq it s.heap h'->Q (some e.2) { s with heap:=h' }) :
  wpAny (model prog w) A (qeC (.ref it)) Q E s:=by
 obtain⟨o,ho,hc,hd⟩:=id hit
 unfold qeC
 refine qaa (qeY (qbO (name:=qbH "__next__") hit.typeIs cv
  (qbn cv hit.typeIs iY ?_ (jA _))))
 unfold qcB.«set_iterator.__next__» qid
 simp only[qdT,qbM,qax,↓reduceIte,qbS,bne_self_eq_false]
 refine qaa (qab ?_)
 dsimp only
 unfold fieldsOf
 dsimp only
 refine qaa ?_
 refine qaa (qgx ho ?_)
 rw[hd]
 refine qab ?_
 dsimp only
 unfold qjH
 refine qaa (qaa (S.state λt T=>qab ?_))
 have e1:(((aS m f).size:Int) != ((aw m).length:Int))=false:=by rw[aS.size];simp
 dsimp only
 rw[if_neg (by rw[e1];exact qaq)]
 refine qaa ?_
 simp only[qaW]
 refine S.next (qdQ hi) ?_
 rw[he]
 dsimp only[qjN]
 refine qaa (qdp ho hd (by simp) ?_)
 have ho1:=qbY (qhq λxs=>xs.setIfInBounds 0 (qe8 (ir w m (i+1)))) ho (qdP (qcf hd _))
 have hd1:=qcf hd (λxs=>xs.setIfInBounds 0 (qe8 (ir w m (i+1))))
 refine qaa (qdp ho1 hd1 (by simp) (qab ⟨e.2,rfl,qab (hQ _ ?_ ((qbl ..).trans (qbl ..)))⟩))
 refine⟨_,qbY _ ho1 (qdP (qcf hd1 _)),(qeA ..).trans ((qeA ..).trans hc),?_⟩
 rw[qcf hd1];simp[qe8]
theorem rF {Q:Option Value->qaj->Prop} (hh:A.handled=none) (hit:eN s.heap it a (ir w m (aw m).length) (aw m).length (aw m).length ep) (S:bI w s.heap a m d f ep)
  (hQ:∀ h',qh6 it s.heap h'->Q none { s with heap:=h' }):wpAny (model prog w) A (qeC (.ref it)) Q E s:=by
 obtain⟨o,ho,hc,hd⟩:=id hit
 unfold qeC
 refine qaa (qeY (qbO (name:=qbH "__next__") hit.typeIs cv
  (qbn cv hit.typeIs iY ?_ (jA _))))
 unfold qcB.«set_iterator.__next__» qid
 simp only[qdT,qbM,qax,↓reduceIte,qbS,bne_self_eq_false]
 refine qaa (qab ?_)
 dsimp only
 unfold fieldsOf
 dsimp only
 refine qaa ?_
 refine qaa (qgx ho ?_)
 rw[hd]
 refine qab ?_
 dsimp only
 unfold qjH
 refine qaa (qaa (S.state λt T=>qab ?_))
 have e1:(((aS m f).size:Int) != ((aw m).length:Int))=false:=by rw[aS.size];simp
 dsimp only
 rw[if_neg (by rw[e1];exact qaq)]
 refine qaa ?_
 simp only[qaW]
 refine S.next (qan _) ?_
 rw[qbP (by rw[lh];exact qan _)]
 dsimp only[qjN]
 refine qaa (qdp ho hd (by simp) ?_)
 show wpAny _ _ (qjl (.type "StopIteration") [] >>= _) _ _ _
 refine qaa ?_
 simp only[qjl,newTuple]
 refine qaa (qbi ?_ (by size_fits))
 refine qaa (m:=qdX _ _) (qeX (a:=Value.none) (by first|rfl|(simp only[qdX];rfl)) ?_)
 refine qbi ?_ (by size_fits)
 simp only[raiseNew]
 refine qaa (qia ?_)
 rw[show A.in1.handled=none from hh]
 refine qaa (qab (qi2 ?_))
 refine qaa (qd4 (T:="StopIteration") (b:=true) ⟨_,qaA _ rfl,rfl⟩ qlf ?_)
 exact qab (hQ _ (((qbl ..).extBut.push _).push _))
theorem zu {x i n:Nat}{Q:Value->qaj->Prop} (hit:eN s.heap it a x i n ep) (h:Q (.ref it) s):wpAny (model prog w) A (qhW (.ref it)) Q E s:=by
 refine qgw hit.typeIs jH (qbn jH hit.typeIs nt ?_ (oh _))
 show wpAny _ _ (ret (.ref it)) _ _ s
 exact qab ⟨_,rfl,"set_iterator",_,hit.typeIs,cv.lookup,h⟩
theorem xC (hh:A.handled=none) (I a:Addr) (hne:a≠I) (m d ep:Nat) (f:Nat->Tok) :
  Walks prog w A I [I,a] [I] (aw m).length (λi v=>∃ e,(jR w a m f ep)[i]?=some e/\v=e.2) (λi h=>eN h I a (ir w m i) i (aw m).length ep/\bI w h a m d f ep) where
 sub:=λb hb=>by simp at hb;simp[hb]
 frame:=λ_ _ _ st hk=>⟨st.1.at' λo e=>hk I (by simp) o e,st.2.at' λo e=>hk a (by simp) o e⟩
 item:=λi s Q E hi st hQ=>by
  obtain⟨e,he⟩:∃ e,(jR w a m f ep)[i]?=some e:=⟨_,qaJ (by rw[lh];exact hi)⟩
  refine p6 st.1 st.2 hi he λh' hit' hs'=>?_
  exact hQ _ h' s.toks ⟨e,he,rfl⟩ ⟨hit',st.2.at' λo q=>hs'.extBut a o hne q⟩ λb o hb q=>hs'.extBut b o (λh=>hb (by simp[h])) q
 done:=λs Q E st hQ=>rF hh st.1 st.2 λh' he'=>hQ h' s.toks λb o hb e=>he' b o (λh=>hb (by simp[h])) e
 self:=λ_ _ _ _ st hQ=>zu st.1 hQ
theorem zS {Q:Bool->qaj->Prop} (hT:s.TypeIs (.ref a) "set") (h:Q false s):wpAny (model prog w) A (qfq (.ref a)) Q E s:=by
 unfold qfq
 refine qaa (qkV hT PySem.F.slot_set_len.lookup ?_)
 generalize hid:("set.__len__" : String)=id0
 wp_delta
 rw[show splitId id0=some ("set","__len__") from by subst hid;decide +kernel]
 subst hid
 refine qaa (qd4 (T:="set") (b:=true) hT (by rw[qdW];kernel_rfl) ?_)
 refine qeo (λhab=>absurd hab (by decide)) (λ_=>?_)
 refine qeo (λ_=>?_) (λhab=>absurd (by decide +kernel) hab)
 refine qaa (qft hT ?_)
 exact qab h
theorem Bq (prog:qaX) (w:World) (a:Addr) (m d ep:Nat) (f:Nat->Tok):qiz prog w "set" a a (aw m).length (λi v=>∃ e,(jR w a m f ep)[i]?=some e/\v=e.2) (λh=>bI w h a m d f ep) where
 type:=λs S=>let ⟨_,_,_,o,t,ho,hx,_⟩:=S;⟨o,ho,hx.1⟩
 there:=λh S=>let ⟨_,_,_,o,t,ho,hx,_⟩:=S;⟨qao ho,qao ho⟩
 keep:=λh h' S hk=>S.at' λo e=>hk a (.inl rfl) o e
 notList:=by decide
 notTuple:=by decide
 hint:=λA E s Q S h=>zS (let ⟨_,_,_,o,t,ho,hx,_⟩:=S;⟨o,ho,hx.1⟩) h
 iter:=λA s hh S=>⟨_,_,λE Q h=>yy S h,xC hh s.heap.objs.size a (let ⟨_,_,_,o,t,ho,hx,_⟩:=S;qat (qao ho)) m d ep f,
  ⟨⟨_,qaA _ rfl,rfl,by unfold ir pj;split<;>rfl⟩,S.at' λo e=>qag _ e⟩⟩
end
def av (l:List Int):Nat:=l.foldl (λm k=>m|||1 <<< k.toNat) 0
def in6 (l:List Int):Bool:=l.all λk=>decide (0<=k/\k<6)
theorem tZ (l:List Int) (k:Int):av (l++[k])=av l|||1 <<< k.toNat:=by unfold av;rw[qdH];rfl
theorem ut {l:List Int}{i:Nat} (h:i<l.length):av (l.take (i+1))=av (l.take i)|||1 <<< (l.getD i 0).toNat:=by
 rw[qbK,qaD h]
 show av (l.take i++[l[i]])=_
 rw[tZ,qaQ,qaD h];rfl
theorem Ck {l:List Int} (h:in6 l=true) {i:Nat} (hi:i<l.length):0<=l.getD i 0/\l.getD i 0<6:=by
 have:=qaw.mp h l[i] (qcU hi)
 rw[qaQ,qaD hi]
 simpa using this
section
variable {prog:qaX}{w:World}{A:qbc}{E:Value->qaj->Prop}{s:qaj}
theorem xi (led:Bool) (hl:led=!byT w):Ca w { cls:=.type "set",dict:=none,data:=.set #[] 0 (.fresh 0 0 led) } 0 0:=
 ⟨by decide,by decide,rfl,⟨rfl,rfl,rfl⟩,λ_=>0,0,.fresh 0 0 led,by simp[aS,aw],⟨by simp[qdy,ky],by simp[qdy,aw],by simp[qdy,aw],hl,rfl⟩⟩
end
section
variable {prog:qaX}{w:World}{A:qbc}{R:qjr->qaj->Prop}{I:Addr}{fp wr:List Addr}{G:Array qjy->Array qjy->Prop}{P:Nat->Value->Prop}{St:Nat->qaj->Prop}
theorem y0 {ns:List Int} (W:WalksS prog w A.in1 I fp wr G ns.length P St) (S:Addr) (hSf:S∉fp) (hval:∀ i v,P i v->∃ t,v=.int (ns.getD i 0) t) (h6:in6 ns=true) :
  ∀ (k i:Nat) (s:qaj),ns.length - i=k->i<=ns.length->St i s->aY w s.heap S (av (ns.take i)) 0->
   (∀ s',Moved (S::wr) G s s'->aY w s'.heap S (av ns) 0->R (.ok (.ret .none)) s')->
   qes (model prog w) A (.builtin "set.update.loop" ⟨[.ref S,.ref I],[]⟩) R s:=by
 have hSw:S∉wr:=λh=>hSf (W.sub _ h)
 have hsub:∀ b∈wr,b∈S::wr:=λb hb=>qah _ hb
 intro k
 induction k with
 |zero=>
  intro i s hk hi hst hS hR
  have hin:i=ns.length:=by lia
  subst hin
  refine qb7 qew ?_
  rw[qcC qcV _]
  show wpAny _ A.in1 (qeC (.ref I) >>= _) _ _ s
  refine qaa (W.done s _ _ hst λs' hm=>?_)
  show wpAny _ A.in1 (ret Value.none) _ _ s'
  refine qab (hR s' (hm.mono hsub) ?_)
  rw[qbv]at hS
  exact hS.at' λo e=>hm.heap S _ hSw e
 |succ k ih=>
  intro i s hk hi hst hS hR
  have hlt:i<ns.length:=by lia
  refine qb7 qew ?_
  rw[qcC qcV _]
  show wpAny _ A.in1 (qeC (.ref I) >>= _) _ _ s
  refine qaa (W.item i s _ _ hlt hst λv s' hP hst' hm=>?_)
  obtain⟨t,rfl⟩:=hval i v hP
  have hS':aY w s'.heap S (av (ns.take i)) 0:=hS.at' λo e=>hm.heap S _ hSw e
  obtain⟨hg0,hg6⟩:=Ck h6 hlt
  have hbt:=ut hlt
  generalize hgv:ns.getD i 0=g at hg0 hg6 hbt ⊢
  obtain⟨g',rfl⟩:=qbr hg0
  have hg6':g'<6:=by lia
  rw[qaW]at hbt
  show wpAny _ A.in1 (qfU [Value.int (g':Int) t] (setAdd S (.int (g':Int) t)) >>= _) _ _ s'
  refine qaa (qbj ?_)
  unfold setAdd
  refine qbj ?_
  refine qaa ((qdV prog w).pyHash (k:=(g':Int)) (qhX _ _ _ _) ?_)
  rw[show (qdV prog w).hash ((g':Nat):Int)=(g':Int) from rQ hg6']
  refine qZ (s:={ s' with toks:=s'.toks+1 }) hS' hg6' (.inr (qcg _)) λh' d' b hsb hS2 hd'=>?_
  have hd0:d'=0:=by rcases hd' with z|z<;>exact z
  subst hd0
  rw[<-hbt]at hS2
  refine qab ⟨qef qcV _,ih (i+1) _ (by lia) hlt (W.frame _ s' _ _ hst' (qcS _) λb hb o e=>?_) hS2 λs'' hm'' hS''=>?_⟩
  ·rw[hsb.2 b (λh:b=S=>hSf (by rw[<-h];exact hb))];exact e
  ·refine hR s'' (Moved.trans W.gtrans ((hm.mono hsub).then_heap (qcS _) λb o hb e=>?_) hm'') hS''
   rw[hsb.2 b (λh:b=S=>hb (by rw[h];exact qak))];exact e
end
section
variable {prog:qaX}{w:World}{A:qbc}{E:Value->qaj->Prop}{s:qaj}
theorem pF (a:Value) {Q₁:Value->qaj->Prop}
  (h:Q₁ (.ref s.heap.objs.size) { s with heap:=s.heap.push { cls:=.type "set",dict:=none,data:=.set #[] 0 (.fresh 0 0 (!byT w)) } }) :
  qes (model prog w) A (.call (.builtin "set.__new__") ⟨[.type "set",a],[]⟩) (wants Q₁ E) s:=by
 refine qk6 ?_
 show wpAny _ A.in1 (do qj4 "set.__new__" ⟨[.type "set",a],[]⟩;again (.builtin "set.__new__" ⟨[.type "set",a],[]⟩)) _ _ s
 refine qaa (qeX (PySem.F.newCall_set_1 a) (qab ⟨qef qg2 _,qb7 PySem.F.entry_set_new ?_⟩))
 rw[qcC qg2 _]
 unfold qcB.«set.__new__» qiV
 have hsub:=sub_set_self
 obtain⟨hp,g,d,tk,os⟩:=s
 dsimp only
 wp_walk
 refine qgX (qab ?_)
 dsimp only
 simp only[newObj]
 refine qaa (qi4 (qab ?_))
 exact qab h
theorem qh:qk3 (.type "tuple") (.type "set")=pure false:=by rw[qdW];kernel_rfl
theorem j8:qk3 (.type "tuple") (.type "frozenset")=pure false:=by rw[qdW];kernel_rfl
set_option maxHeartbeats 3200000 in
theorem ph {l:Addr}{items:Array Value}{ns:List Int}{Q:Value->qaj->Prop}
  (hh:A.handled=none) (hl:s.heap.IsTuple l items) (hi:qkJ items.toList ns) (h6:in6 ns=true)
  (h:∀ (h':Heap) (tk:Nat),aY w h' s.heap.objs.size (av ns) 0->
    (∀ b o,b<s.heap.objs.size->s.heap.get? b=some o->h'.get? b=some o)->Q (.ref s.heap.objs.size) { s with heap:=h',toks:=tk }) :
  wpAny (model prog w) A (call (.type "set") [.ref l]) Q E s:=by
 obtain⟨c,tl,hmro⟩:=qcd.mro
 have hmade:=qcd.made
 have hsub:=qcd.sub
 refine qjD (qk6 ?_)
 show wpAny _ _ (callAny (.type "set") _) _ _ _
 refine qab ⟨qfL _ (by decide +kernel),qb7 PySem.F.entry_type_call ?_⟩
 rw[Around.under_plain (weight_type_call_type "set" [.ref l] []) rfl]
 have h1:=qcd.notType
 have h2:=qcd.canCreate
 have hct:=PySem.F.typeCall_set_1 (.ref l)
 repeat (any_goals (first|assumption|wp_step))
 refine qfA (pF (.ref l) (E:=E) (Q₁:=λobj s₁=>obj=.ref s.heap.objs.size/\s₁={ s with heap:=s.heap.push { cls:=.type "set",dict:=none,data:=.set #[] 0 (.fresh 0 0 (!byT w)) } }) ⟨rfl,rfl⟩) λr s₁ hr=>?_
 cases r with
 |error e=>exact hr
 |ok fl=>
  cases fl with
  |ret obj=>
   obtain⟨rfl,rfl⟩:=hr
   have hS:(s.heap.push { cls:=.type "set",dict:=none,data:=.set #[] 0 (.fresh 0 0 (!byT w)) }).get? s.heap.objs.size=some { cls:=.type "set",dict:=none,data:=.set #[] 0 (.fresh 0 0 (!byT w)) }:=qaA _ rfl
   have hT:Shared.TypeIs { s with heap:=s.heap.push { cls:=.type "set",dict:=none,data:=.set #[] 0 (.fresh 0 0 (!byT w)) } } (.ref s.heap.objs.size) "set":=⟨_,hS,rfl⟩
   have hli:=qcd.init.lookup
   have hbi:=qcd.init.bind (.ref s.heap.objs.size)
   repeat (any_goals (first|assumption|wp_step))
   refine qfA (qiY (R:=wants (λr s₂=>r=.none/\∃ h' tk,s₂={ s with heap:=h',toks:=tk }/\
     aY w h' s.heap.objs.size (av ns) 0/\
     (∀ b o,b<s.heap.objs.size->s.heap.get? b=some o->h'.get? b=some o)) E) qcd.init.plain PySem.F.entry_set_init (check_set_init_1 hT ?_)) λr₂ s₂ hr₂=>?_
   ·generalize hled:(!byT w)=led at hS hT ⊢
    obtain⟨ol,hol,hcl,nl,hdl⟩:=hl
    obtain⟨ocls,odict,odata,oslots⟩:=ol
    simp only at hcl hdl
    subst hcl;subst hdl
    have hol':(s.heap.push { cls:=.type "set",dict:=none,data:=.set #[] 0 (.fresh 0 0 led) }).get? l=some { cls:=.type "tuple",dict:=odict,data:=.seq items nl,slots:=oslots }:=qag _ hol
    have hsls:=qh
    have hslf:=j8
    have hne:(Value.type "tuple"==Value.type "dict")=false:=by decide
    have hl1:(s.heap.push { cls:=.type "set",dict:=none,data:=.set #[] 0 (.fresh 0 0 led) }).IsTuple l items:=⟨_,hol',rfl,nl,rfl⟩
    unfold qcB.«set.__init__» noKeywords qdn
    generalize hPI:qhW=PI
    wp_walk
    subst hPI
    refine qdJ hl1 ?_
    refine qaa (qhG ?_)
    have hlS:l<s.heap.objs.size:=qao hol
    have hh3:A.in1.in1.in1.handled=none:=by simp[hh]
    have hneI:l≠(s.heap.push { cls:=.type "set",dict:=none,data:=.set #[] 0 (.fresh 0 0 led) }).objs.size:=by
     rw[qbU];exact qat (qa0 hlS)
    have hSf:s.heap.objs.size∉[(s.heap.push { cls:=.type "set",dict:=none,data:=.set #[] 0 (.fresh 0 0 led) }).objs.size,l]:=by
     rw[qbU];simp only[qaC,qaO,qiN,or_false,not_or]
     exact⟨qat (qb4 _),qbA hlS⟩
    have hval:∀ (i:Nat) (v:Value),items[i]?=some v->∃ t,v=.int (ns.getD i 0) t:=λi v hv=>
     qh1 hi i v (by rw[qcc];exact hv)
    have hlen:items.size=ns.length:=by
     have:=qh0 hi
     rw[qa5]at this;exact this
    have WW:=(Walks.tuple (prog:=prog) (w:=w) hh3 (s.heap.push { cls:=.type "set",dict:=none,data:=.set #[] 0 (.fresh 0 0 led) }).objs.size l hneI items).toS
    rw[hlen]at WW
    refine y0 WW s.heap.objs.size hSf hval h6 (ns.length - 0) 0 _ (by lia) (qa7 _)
     ⟨⟨_,qaA _ rfl,rfl,rfl⟩,(hl1.push _)⟩ ?hS0 ?hR
    case hS0=>
     have hget:((s.heap.push { cls:=.type "set",dict:=none,data:=.set #[] 0 (.fresh 0 0 led) }).push { cls:=.type "tuple_iterator",data:=.fields #[.ref l,.int 0 0] }).get? s.heap.objs.size
       = some { cls:=.type "set",dict:=none,data:=.set #[] 0 (.fresh 0 0 led) }:=qag _ hS
     exact⟨_,hget,xi led hled.symm⟩
    case hR=>
     intro s' hm hS'
     obtain⟨h',g',d',tk',os'⟩:=s'
     have eg:g'=s.gens:=hm.gens
     have ed:d'=s.drawn:=hm.drawn
     have eo:os'=s.os:=hm.os
     subst eg;subst ed;subst eo
     show wpAny _ _ _ _ _ _
     refine qab ?_
     show wpAny _ _ (ret Value.none) _ _ _
     refine qab ⟨rfl,h',tk',rfl,hS',λb o hb e=>?_⟩
     have hb1:b≠s.heap.objs.size:=qat hb
     have hb2:b≠(s.heap.push { cls:=.type "set",dict:=none,data:=.set #[] 0 (.fresh 0 0 led) }).objs.size:=by
      rw[qbU];exact qat (qa0 hb)
     exact hm.heap b o (by simp only[qaC,qaO,qiN,or_false,not_or];exact⟨hb1,hb2⟩) (qag _ (qag _ e))
   ·cases r₂ with
    |error e=>exact hr₂
    |ok fl₂=>
     cases fl₂ with
     |ret r=>
      obtain⟨rfl,h',tk,rfl,hS',hk'⟩:=hr₂
      repeat (any_goals (first|assumption|wp_step))
      exact h _ _ hS' hk'
     |_=>exact hr₂.elim
  |_=>exact hr.elim
end
section
variable {prog:qaX}{w:World}{A:qbc}{E:Value->qaj->Prop}{s:qaj}{a r o:Addr}{m m1 m2 d k ep:Nat}{f:Nat->Tok}
theorem xY {n:Nat}{Q:Unit->qaj->Prop} (S:aY w s.heap a m d) (hn:n<32) (h:∀ h',qbq a s.heap h'->aY w h' a m 0->Q () { s with heap:=h' }) :
  wpAny (model prog w) A (setRelay a n) Q E s:=by
 obtain⟨ob,ho,hm,hd,h0,hx,f,ep,t,hdat,T⟩:=id S
 have hf:=T.fits hm hd h0 f
 unfold setRelay
 refine qaa (qcQ ho hdat hf ?_)
 dsimp only
 rw[if_neg (by have:=(kH hn).2;rw[qb5];lia)]
 obtain⟨t',T',e⟩:=T.relaid hm hn
 refine qaa ?_
 rw[aS.hashes,e]
 wp_delta
 have hs:((qd1 (aw m).length).filterMap ((aS m f)[·]?))=aS m f:=by rw[<-aS.size m f];exact oQ _
 simp only[hs,bne_self_eq_false,qax,↓reduceIte]
 refine qab ?_
 dsimp only
 obtain⟨o1,ho1,hx1,hd1,S1⟩:=ge (w:=w) (f':=f) ho hx hdat hm (by decide) (qe2 _) T'
 exact qdg ho hdat (h _ (qbl ..) S1) (eD hm f)
theorem Al {n:Nat}{Q:Unit->qaj->Prop} (S:aY w s.heap a m d) (hn:n<=6) (h:∀ h' d',qbq a s.heap h'->aY w h' a m d'->(d'=d\/d'=0)->Q () { s with heap:=h' }) :
  wpAny (model prog w) A (setRoomFor a n) Q E s:=by
 obtain⟨ob,ho,hm,hd,h0,hx,f,ep,t,hdat,T⟩:=id S
 have hf:=T.fits hm hd h0 f
 unfold setRoomFor
 refine qaa (qcQ ho hdat hf ?_)
 dsimp only
 have e:s={ s with heap:=s.heap }:=by cases s;rfl
 unfold SetTable.roomFor
 split
 ·rename_i x hx
  split at hx
  ·cases hx
   refine xY S ?_ λh' a1 a2=>h h' 0 a1 a2 (.inr rfl)
   have:=iy hm
   rw[T.pl,qaz];lia
  ·cases hx
 ·refine qab ?_
  have:=h s.heap d (qdY ..) S (.inl rfl)
  rw[e];exact this
theorem pq {α:Type} (J:List α->qaj->Prop) {g:α->PUnit->Sem (ForInStep PUnit)} (hg:∀ x l s,J (x::l) s->wpAny (model prog w) A (g x ⟨⟩) (λr s'=>r=.yield ⟨⟩/\J l s') E s) :
  ∀ (l:List α) (s:qaj) (Q:PUnit->qaj->Prop),J l s->(∀ s',J [] s'->Q ⟨⟩ s')->wpAny (model prog w) A (forIn l ⟨⟩ g) Q E s
 |[],s,Q,h,hQ=>by rw[qgP];exact qab (hQ s h)
 |x::l,s,Q,h,hQ=>by
  rw[qi0]
  refine qaa (qcu (hg x l s h) (λr s' hr=>?_) λ_ _ e=>e)
  obtain⟨rfl,hj⟩:=hr
  exact pq J hg l s' Q hj hQ
def gj (l:List Nat):Nat:=l.foldl (λm k=>m|||1 <<< k) 0
theorem qX:∀ (l:List Nat) (m:Nat),l.foldl (λm k=>m|||1 <<< k) m=m|||gj l
 |[],m=>(qim m).symm
 |k::l,m=>by
  unfold gj
  rw[qbw,qbw,qX l,qX l (0|||1 <<< k),qfD,qkO]
theorem pJ (k:Nat) (l:List Nat):gj (k::l)=1 <<< k|||gj l:=by
 show (k::l).foldl (λm k=>m|||1 <<< k) 0=_
 rw[qbw,qX,qfD]
theorem gg (j:Nat):∀ l:List Nat,(gj l).testBit j=decide (j∈l)
 |[]=>by simp[gj]
 |k::l=>by
  rw[pJ,qcl,jm,gg j l]
  by_cases e:k=j
  ·subst e;simp
  ·rw[decide_eq_false e,qdZ]
   simp[show ¬ j=k from λz=>e z.symm]
theorem pH {l l':List Nat} (p:l.Perm l'):gj l=gj l':=by
 apply qci
 intro j
 rw[gg,gg]
 exact decide_eq_decide.mpr p.mem_iff
theorem re:∀ m:_root_.Fin 64,gj (aw m.1)=m.1:=by decide +kernel
theorem lN (hm:m<64):gj (aw m)=m:=re ⟨m,hm⟩
def BB (l:List (Int×Value)):Prop:=∀ e∈l,∃ k:Nat,∃ t:Tok,k<6/\e=((k:Int),Value.int k t)
def kq (l:List (Int×Value)):List Nat:=l.map λe=>e.1.toNat
theorem nz (w:World) (a:Addr) (m:Nat) (f:Nat->Tok) (ep:Nat):BB (jR w a m f ep).toList:=λe he=>by
 have:=(oW w a m f ep).mem_iff.mp he
 rw[aS.toList]at this
 obtain⟨k,hk,rfl⟩:=qap.mp this
 exact⟨k,f k,wk hk,rfl⟩
theorem jQ (w:World) (a:Addr) (m:Nat) (f:Nat->Tok) (ep:Nat):(kq (jR w a m f ep).toList).Perm (aw m):=by
 have:=(oW w a m f ep).map (λe:Int×Value=>e.1.toNat)
 rw[aS.toList,qaL]at this
 have e:((λe:Int×Value=>e.1.toNat) ∘ λ(k:Nat)=>((k:Int),Value.int k (f k)))=id:=by funext k;simp
 rw[e,qdF]at this
 exact this
theorem bI.unseen {Q:Array (Int×Value)->qaj->Prop}{os:List Addr}{fl:Option Addr} (S:bI w s.heap a m d f ep) (h:Q (jR w a m f ep) s):wpAny (model prog w) A (setWalkUnseen a os fl) Q E s:=by
 unfold setWalkUnseen
 refine qaa (S.state λt T=>?_)
 dsimp only
 refine qaa (il ?_)
 have e:(byT w||t.led&&t.plain)=true:=by rw[T.led,T.plain];cases byT w<;>rfl
 rw[if_pos (by rw[e];rfl)]
 exact S.walk h
theorem qy {each:Sem Unit}{Q:Unit->qaj->Prop} (hne:r≠o) (S1:aY w s.heap r m1 0) (S2:bI w s.heap o m2 0 f ep)
  (he:∀ (s':qaj) (Q':Unit->qaj->Prop),bI w s'.heap o m2 0 f ep->Q' () s'->wpAny (model prog w) A each Q' E s')
  (h:∀ h',qbq r s.heap h'->aY w h' r (m1|||m2) 0->Q () { s with heap:=h' }) :
  wpAny (model prog w) A (setMerge r o each) Q E s:=by
 have es:s={ s with heap:=s.heap }:=by cases s;rfl
 have hm2:m2<64:=S2.1
 have keepO:∀ {h':Heap},qbq r s.heap h'->bI w h' o m2 0 f ep:=λsb=>S2.at' λob q=>(sb.2 o (qcz hne)).trans q
 unfold setMerge
 rw[if_neg (by simpa using hne)]
 refine qaa (S2.state λt2 T2=>?_)
 dsimp only
 by_cases hem:(aS m2 f).isEmpty=true
 ·rw[if_pos hem]
  refine qab ?_
  have h0:(aw m2).length=0:=by rw[<-aS.size m2 f];simpa using hem
  have z:m2=0:=by
   have:=lN hm2
   rw[qeD.mp h0]at this
   exact this.symm
  have:=h s.heap (qdY ..) (by rw[z,qim];exact S1)
  rw[es];exact this
 ·rw[if_neg hem]
  refine qaa (Al S1 (by rw[aS.size];exact iy hm2) λh1 d' sb1 S1' hd'=>?_)
  have hd0:d'=0:=by rcases hd' with z|z<;>exact z
  subst hd0
  obtain⟨o1,ho1,hm1,_,h01,hx1,f1,ep1,t1,hd1,T1⟩:=id S1'
  have hf1:=T1.fits hm1 (by decide) h01 f1
  refine qaa (qcQ ho1 hd1 hf1 ?_)
  dsimp only
  have z1:t1.fill=0->m1=0:=λz=>by
   have hp:(aw m1).length=0:=by
    unfold qiw at z
    rw[T1.pl,qaz]at z;lia
   have:=lN hm1
   rw[qeD.mp hp]at this
   exact this.symm
  have hled:(t1.led&&t2.led)=!byT w:=by rw[T1.led,T2.led];cases byT w<;>rfl
  have hpl:(t1.plain&&t2.plain)=true:=by rw[T1.plain,T2.plain];rfl
  generalize hrd:t1.road t2=rd
  unfold SetTable.road at hrd
  by_cases hf0:(t1.fill != 0)=true
  ·rw[if_pos hf0]at hrd
   subst hrd
   dsimp only
   refine qaa (Q:=_) ((keepO sb1).unseen ?_)
   rw[<-qh8]
   refine qaa (pq (λl s'=>∃ h' m',s'={ s with heap:=h' }/\qbq r s.heap h'/\aY w h' r m' 0/\m'|||gj (kq l)=m1|||m2/\BB l) (λx l s' hJ=>?_) _ _ _ ⟨h1,m1,rfl,sb1,S1',?_,nz _ _ _ _ _⟩ λs' hJ=>?_)
   ·obtain⟨h',m',rfl,sb,S',hbm,hE⟩:=hJ
    obtain⟨k,tk,hk,rfl⟩:=hE x qak
    dsimp only
    refine qaa (qbj (qZ (s:={ s with heap:=h' }) S' hk (.inr (qcg _)) λh2 d' b sb2 S2' hd'=>?_))
    have hd0:d'=0:=by rcases hd' with z|z<;>exact z
    subst hd0
    have sb3:qbq r s.heap h2:=sb.trans sb2
    refine qaa (he { s with heap:=h2 } _ (keepO sb3) ?_)
    refine qaa ((keepO sb3).state (s:={ s with heap:=h2 }) λt T=>?_)
    simp only[bne_self_eq_false,qax,↓reduceIte]
    refine qab ⟨rfl,h2,_,rfl,sb3,S2',?_,λe he=>hE e (qah _ he)⟩
    rw[<-hbm]
    show _=m'|||gj ((k:Int).toNat::kq l)
    rw[qaW,pJ,qkO]
   ·rw[pH (jQ ..),lN hm2]
   ·obtain⟨h',m',rfl,sb,S',hbm,hE⟩:=hJ
    have e0:m'=m1|||m2:=by rw[<-hbm];exact (qim m').symm
    rw[e0]at S'
    exact qab (h h' sb S')
  ·rw[if_neg hf0]at hrd
   have hm10:m1=0:=z1 (by simpa using hf0)
   subst hm10
   rw[qfD]at h
   split at hrd
   ·subst hrd
    dsimp only
    have T':fq (byT w) { t2 with finger:=t1.finger,led:=t1.led&&t2.led,moves:=t1.moves,plain:=t1.plain&&t2.plain } m2 0:=⟨T2.msk,T2.pl,T2.du,hled,hpl⟩
    obtain⟨o',ho',hx',hd',S'⟩:=ge (w:=w) (f':=f) ho1 hx1 hd1 hm2 (by decide) (qe2 _) T'
    exact qdg ho1 hd1 (h _ (sb1.trans (qbl ..)) S') (eD hm2 f)
   ·subst hrd
    dsimp only
    refine qaa ?_
    rw[aS.hashes,wZ hm2 T1.msk]
    wp_delta
    have hs:((qd1 (aw m2).length).filterMap ((aS m2 f)[·]?))=aS m2 f:=by rw[<-aS.size m2 f];exact oQ _
    simp only[hs,bne_self_eq_false,qax,↓reduceIte]
    refine qab ?_
    dsimp only
    have T':fq (byT w) (⟨t1.mask,(aw m2).toArray,#[],t1.finger,t1.led&&t2.led,t1.moves,t1.plain&&t2.plain⟩:qg8) m2 0:=⟨T1.msk,rfl,by simp[aw],hled,hpl⟩
    obtain⟨o',ho',hx',hd',S'⟩:=ge (w:=w) (f':=f) ho1 hx1 hd1 hm2 (by decide) (qe2 _) T'
    exact qdg ho1 hd1 (h _ (sb1.trans (qbl ..)) S') (eD hm2 f)
end
theorem rB:qg7 table "set.__or__" = some qcB.«frozenset.__or__»:=
 qfR (id':="frozenset.__or__") (by kernel_rfl) rfl (by decide +kernel) (by kernel_rfl)
theorem pN:qg7 table "set.__xor__" = some qcB.«frozenset.__xor__»:=
 qfR (id':="frozenset.__xor__") (by kernel_rfl) rfl (by decide +kernel) (by kernel_rfl)
theorem mR:qk3 (.type "set") (.type "set")=pure true:=by rw[qdW];kernel_rfl
section
variable {prog:qaX}{w:World}{A:qbc}{E:Value->qaj->Prop}{s:qaj}{a b r o:Addr}{m m1 m2 d k ep:Nat}{f:Nat->Tok}
theorem jZ {Q:Bool->qaj->Prop} (hT:s.TypeIs (.ref a) "set") (h:Q true s):wpAny (model prog w) A (qcL (.ref a)) Q E s:=by
 unfold qcL orM
 refine qaa (qd4 (T:="set") (b:=true) hT mR ?_)
 exact qab h
theorem sH {Q:Value->qaj->Prop} (hT:s.TypeIs (.ref a) "set") (h:Q (.type "set") s):wpAny (model prog w) A (qfd a) Q E s:=by
 unfold qfd
 refine qaa (qd4 (T:="set") (b:=true) hT mR ?_)
 exact qab h
theorem wX {Q:Value->qaj->Prop} (h:aY w (s.heap.push { cls:=.type "set",dict:=none,data:=.set #[] 0 (.fresh 0 0 (!byT w)) }) s.heap.objs.size 0 0->Q (.ref s.heap.objs.size) { s with heap:=s.heap.push { cls:=.type "set",dict:=none,data:=.set #[] 0 (.fresh 0 0 (!byT w)) } }) :
  wpAny (model prog w) A (newSet (.type "set")) Q E s:=by
 unfold newSet
 refine qaa (il ?_)
 simp only[newObj]
 refine qaa (qi4 (qab (h ⟨_,qaA _ rfl,?_⟩)))
 exact⟨by decide,by decide,rfl,⟨rfl,rfl,rfl⟩,λ_=>0,0,.fresh 0 0 (!byT w),by simp[aS,aw],⟨by simp[qdy,ky],by simp[qdy,aw],by simp[qdy,aw],rfl,rfl⟩⟩
theorem aY.keep {h h':Heap} (S:aY w h a m d) (hne:a≠r) (sb:qbq r h h'):aY w h' a m d:=S.at' λo q=>(sb.2 a hne).trans q
theorem bI.keep {h h':Heap} (S:bI w h a m d f ep) (hne:a≠r) (sb:qbq r h h'):bI w h' a m d f ep:=S.at' λo q=>(sb.2 a hne).trans q
theorem zk {id:String} (s':qaj) (Q':Unit->qaj->Prop) (S:bI w s'.heap o m 0 f ep) (h:Q' () s'):wpAny (model prog w) A (qeP id o ep) Q' E s':=by
 unfold qeP qjk
 refine qaa (qaa (S.state λt T=>qab ?_))
 simp only[bne_self_eq_false,qax,↓reduceIte]
 exact qab h
theorem yh {id:String}{Q:Unit->qaj->Prop} (hne:r≠o) (S1:aY w s.heap r m1 0) (S2:aY w s.heap o m2 0)
  (h:∀ h',qbq r s.heap h'->aY w h' r (m1|||m2) 0->Q () { s with heap:=h' }):wpAny (model prog w) A (qfi id r o) Q E s:=by
 obtain⟨f,ep,D⟩:=S2.dat
 unfold qfi qjk
 refine qaa (qaa (D.state λt T=>qab ?_))
 exact qy hne S1 D (λs' Q' Sd hq=>zk s' Q' Sd hq) h
theorem po {id:String}{Q:Unit->qaj->Prop} (hne:r≠o) (S1:aY w s.heap r m1 0) (S2:aY w s.heap o m2 0)
  (h:∀ h',qbq r s.heap h'->aY w h' r (m1|||m2) 0->Q () { s with heap:=h' }):wpAny (model prog w) A (qdn id r (.ref o)) Q E s:=by
 unfold qdn
 refine qaa (jZ S2.type ?_)
 rw[if_pos rfl]
 refine qaa (m:=pure o) (qab ?_)
 exact yh hne S1 S2 h
theorem yi {Q:Value->qaj->Prop} (S1:aY w s.heap a m1 0) (S2:aY w s.heap b m2 0) (hab:a≠b)
  (h:∀ h' p,(∀ c o,s.heap.get? c=some o->h'.get? c=some o)->s.heap.objs.size<=p->aY w h' p (m1|||m2) 0->Q (.ref p) { s with heap:=h' }) :
  wpAny (model prog w) A (qbC .BitOr (.ref a) (.ref b)) Q E s:=by
 refine qi3 (op:=.BitOr) (T:="set") S1.type S2.type PySem.F.fills_set_or qho (qbn qho S1.type rB ?_ (PySem.F.args_set_or_2 _ _))
 unfold qcB.«frozenset.__or__»
 wp_delta
 unfold qfh qid
 simp only[qdT,qbM,qax,↓reduceIte,qbS,qas,bne_self_eq_false]
 refine qaa (qaa (qab (qab ?_)))
 dsimp only
 refine qaa ?_
 unfold andM
 refine qaa (jZ S1.type ?_)
 show wpAny _ _ (qcL (.ref b)) _ _ _
 refine jZ S2.type ?_
 simp only[qbM,qax,↓reduceIte]
 unfold qdL
 refine qaa (qab ?_)
 try dsimp only
 refine qaa ?_
 wp_delta
 unfold qiW
 refine qaa (qaa (sH S1.type ?_))
 refine qaa (wX λS0=>?_)
 have la:a<s.heap.objs.size:=let ⟨o,ho,_⟩:=S1;qao ho
 have lb:b<s.heap.objs.size:=let ⟨o,ho,_⟩:=S2;qao ho
 refine qaa (m:=pure s.heap.objs.size) (qab ?_)
 have S1':aY w (s.heap.push { cls:=.type "set",dict:=none,data:=.set #[] 0 (.fresh 0 0 (!byT w)) }) a m1 0:=S1.at' λo e=>qag _ e
 obtain⟨f1,ep1,D1⟩:=S1'.dat
 refine qaa (qy (s:={ s with heap:=s.heap.push { cls:=.type "set",dict:=none,data:=.set #[] 0 (.fresh 0 0 (!byT w)) } }) (qbA la) S0 D1 (λs' Q' _ hq=>qab hq) λh1 sb1 T1=>?_)
 refine qab ?_
 rw[qfD]at T1
 have hb:(Value.ref b != Value.ref a)=true:=by simp[qcz hab]
 rw[if_pos hb]
 have S2':aY w h1 b m2 0:=(S2.at' λo e=>qag _ e).keep (qat lb) sb1
 refine qaa (m:=pure s.heap.objs.size) (qab ?_)
 refine qaa (qbj ?_)
 refine po (s:={ s with heap:=h1 }) (qbA lb) T1 S2' λh2 sb2 T2=>?_
 refine qab (qab ⟨_,rfl,?_,h h2 _ (λc o e=>?_) (qan _) T2⟩)
 ·exact λe=>nomatch e
 ·have hc:c≠s.heap.objs.size:=qat (qao e)
  exact (sb2.2 c hc).trans ((sb1.2 c hc).trans (qag _ e))
end
section
variable {prog:qaX}{w:World}{A:qbc}{E:Value->qaj->Prop}{s:qaj}{a b r o:Addr}{m m1 m2 d k ep:Nat}{f:Nat->Tok}
theorem yX (h0:m&&&d=0):(m^^^1 <<< k)&&&(d|||1 <<< k)=0↔m.testBit k=true:=by
 constructor
 ·intro h
  have:=congrArg (λx=>x.testBit k) h
  simp only[qd5,qdz,qcl,jm,qcg,decide_true,Bool.or_true,qhf]at this
  simpa using this
 ·intro h
  apply qci
  intro j
  have hj:=congrArg (λx=>x.testBit j) h0
  simp only[qd5,qcg]at hj
  rw[qd5,qdz,qcl,jm,qcg]
  by_cases e:k=j
  ·subst e;rw[h];simp
  ·rw[decide_eq_false e,qgT,qeE,hj]
theorem vj (h:m.testBit k=false):m|||1 <<< k=m^^^1 <<< k:=by
 apply qci
 intro j
 rw[qcl,qdz,jm]
 by_cases e:k=j
 ·subst e;rw[h];simp
 ·rw[decide_eq_false e];simp
theorem AJ (hm:m<64) (hk:k<6) (h1:m.testBit k=true) (f:Nat->Tok):qet (aS m f) (qa4 (aw m).toArray k)=aS (m^^^1 <<< k) f:=by
 apply qbf.mp
 unfold qet
 rw[qa9,qbD,qbD,aS.toList,aS.toList,(vf hm hk h1).2,qba,aS.size]
 simp only[qbT,qem,qf6,qhc,qjv]
 congr 1
 rw[qcs (by simp)]
theorem AZ {t:qg8}{by_:Bool} (T:fq by_ t m d) (hm:m<64) (hd:d<64) (hk:k<6) (h1:m.testBit k=true) (h2:d.testBit k=false):fq by_ (t.drop (qa4 (aw m).toArray k)) (m^^^1 <<< k) (d|||1 <<< k):=by
 have e:t.place[qa4 (aw m).toArray k]?=some k:=by rw[T.pl];simpa using (vf hm hk h1).1
 unfold SetTable.drop
 rw[e]
 refine⟨T.msk,?_,?_,T.led,T.plain⟩
 ·apply qbf.mp
  show (qet t.place (qa4 (aw m).toArray k)).toList=_
  unfold qet
  rw[T.pl,qa9,qbD,qbD,(vf hm hk h1).2]
  simp only[qbT,qem,qf6]
  congr 1
  rw[qcs (by simp)]
 ·apply qbf.mp
  show (qfk t.dummies (qa4 t.dummies k) k).toList=_
  rw[qeb,T.du,vp hd hk h2]
theorem At (hd:d<64) (hk:k<6):d|||1 <<< k<64:=rL hd hk
theorem AI {tk:Tok}{Q:Unit->qaj->Prop} (S:aY w s.heap a m d) (hk:k<6) (hdk:d.testBit k=false)
  (h:∀ h' d',qbq a s.heap h'->aY w h' a (m^^^1 <<< k) d'->(∀ j,j≠k->d.testBit j=false->d'.testBit j=false)->Q () { s with heap:=h' }) :
  wpAny (model prog w) A (qfU [Value.int k tk] (do
   if !(<-qj2 a (.int k tk) (k:Int)) then
    let _ <-qiF a (.int k tk) (k:Int))) Q E s:=by
 obtain⟨ob,ho,hm,hd,h0,hx,f,ep,t,hdat,T⟩:=id S
 have hf:=T.fits hm hd h0 f
 have hel:=wa (prog:=prog) (w:=w) m f
 have es:s={ s with heap:=s.heap }:=by cases s;rfl
 have key:(qdV prog w).is (k:Int) (.int k tk)=true:=qhX _ _ _ _
 have hh:(k:Int)=(qdV prog w).hash (k:Int):=(rQ hk).symm
 refine qbj (qaa ?_)
 unfold qj2 setFind setFindIn
 refine qaa (qaa (qcQ ho hdat hf ?_))
 dsimp only
 rw[byScan_of (knd:=qdV prog w) rfl (oR hm f) hel]
 simp only[↓reduceIte]
 refine qaa (qc2 ?_)
 refine qaa ?_
 rw[show qkY a (Value.int k tk) (k:Int) false (aS m f)=qkY a (Value.int k tk) ((qdV prog w).hash (k:Int)) false (aS m f) from by rw[<-hh]]
 refine qj0 (knd:=qdV prog w) key ho hdat hf hel ?_
 rw[As hm hk f]
 cases hb:m.testBit k with
 |true=>
  rw[if_pos rfl]
  dsimp only
  refine qab ?_
  dsimp only
  refine qaa (qcQ ho hdat hf ?_)
  dsimp only
  rw[qbz,AJ hm hk hb f]
  have T':=AZ T hm hd hk hb hdk
  obtain⟨o1,ho1,hx1,hd1,S1⟩:=ge (w:=w) (f':=f) ho hx hdat (uw hm hk) (At hd hk) ((yX h0).mpr hb) T'
  refine qaa (qdg ho hdat ?_ (eD (uw hm hk) f))
  refine qaa (wpAny_point (qab ?_))
  simp only[qbM,qax,↓reduceIte]
  refine qab (h _ _ (qbl ..) S1 λj hj hdj=>?_)
  rw[qcl,jm,hdj,decide_eq_false (qcz hj)];rfl
 |false=>
  rw[if_neg qaq]
  dsimp only
  refine qab ?_
  dsimp only
  refine qab ?_
  simp only[qdM,↓reduceIte]
  refine qaa (qZ S hk (.inr hdk) λh' d' b sb S' hd'=>qab ?_)
  rw[vj hb]at S'
  refine h h' d' sb S' λj hj hdj=>?_
  rcases hd' with z|z
  ·rw[z];exact hdj
  ·rw[z];exact qcg _
def sJ (l:List Nat):Nat:=l.foldl (λm k=>m^^^1 <<< k) 0
theorem mw:∀ (l:List Nat) (m:Nat),l.foldl (λm k=>m^^^1 <<< k) m=m^^^sJ l
 |[],m=>(qkM m).symm
 |k::l,m=>by
  unfold sJ
  rw[qbw,qbw,mw l,mw l (0^^^1 <<< k),qkK,qjO]
theorem qR (k:Nat) (l:List Nat):sJ (k::l)=1 <<< k^^^sJ l:=by
 show (k::l).foldl (λm k=>m^^^1 <<< k) 0=_
 rw[qbw,mw,qkK]
theorem qM (j:Nat):∀ l:List Nat,l.Nodup->(sJ l).testBit j=decide (j∈l)
 |[],_=>by simp[sJ]
 |k::l,hn=>by
  have hn':=qbR.mp hn
  rw[qR,qdz,jm,qM j l hn'.2]
  by_cases e:k=j
  ·subst e;simp[hn'.1]
  ·rw[decide_eq_false e,Bool.false_xor]
   simp[show ¬ j=k from λz=>e z.symm]
theorem xO {l:List Nat} (h:l.Nodup):sJ l=gj l:=by
 apply qci
 intro j
 rw[qM j l h,gg]
theorem sM (m:Nat):(aw m).Nodup:=qjS _ qf8
theorem Bz {Q:Value->qaj->Prop} (S1:aY w s.heap a m1 0) (S2:aY w s.heap b m2 0) (hab:a≠b)
  (h:∀ h' p d,(∀ c o,s.heap.get? c=some o->h'.get? c=some o)->s.heap.objs.size<=p->aY w h' p (m2^^^m1) d->Q (.ref p) { s with heap:=h' }) :
  wpAny (model prog w) A (qbC .BitXor (.ref a) (.ref b)) Q E s:=by
 refine qi3 (op:=.BitXor) (T:="set") S1.type S2.type PySem.F.fills_set_xor qha (qbn qha S1.type pN ?_ (PySem.F.args_set_xor_2 _ _))
 unfold qcB.«frozenset.__xor__»
 wp_delta
 unfold qfh qid
 simp only[qdT,qbM,qax,↓reduceIte,qbS,qas,bne_self_eq_false]
 refine qaa (qaa (qab (qab ?_)))
 dsimp only
 refine qaa ?_
 unfold andM
 refine qaa (jZ S1.type ?_)
 show wpAny _ _ (qcL (.ref b)) _ _ _
 refine jZ S2.type ?_
 simp only[qbM,qax,↓reduceIte]
 unfold qdL
 refine qaa (qab ?_)
 try dsimp only
 refine qaa ?_
 wp_delta
 unfold qiU
 refine qaa (sH S1.type ?_)
 refine qaa (qaa (wX λS0=>?_))
 have la:a<s.heap.objs.size:=let ⟨o,ho,_⟩:=S1;qao ho
 have lb:b<s.heap.objs.size:=let ⟨o,ho,_⟩:=S2;qao ho
 refine qaa (m:=pure s.heap.objs.size) (qab ?_)
 refine qaa (qbj ?_)
 have S2':aY w (s.heap.push { cls:=.type "set",dict:=none,data:=.set #[] 0 (.fresh 0 0 (!byT w)) }) b m2 0:=S2.at' λo e=>qag _ e
 refine po (s:={ s with heap:=s.heap.push { cls:=.type "set",dict:=none,data:=.set #[] 0 (.fresh 0 0 (!byT w)) } }) (qbA lb) S0 S2' λh1 sb1 T1=>?_
 rw[qfD]at T1
 refine qab ?_
 refine qaa (m:=pure s.heap.objs.size) (qab ?_)
 refine qaa (qbj ?_)
 have S1':aY w h1 a m1 0:=(S1.at' λo e=>qag _ e).keep (qat la) sb1
 obtain⟨f1,ep1,D1⟩:=S1'.dat
 unfold qiR
 have hne:(Value.ref a==Value.ref s.heap.objs.size)=false:=by simp[qat la]
 rw[if_neg (by rw[hne];exact qaq)]
 dsimp only
 refine qaa (qft (T:="set") (S1'.type (s:={ s with heap:=h1 })) ?_)
 rw[if_neg (by decide)]
 refine qaa (jZ (s:={ s with heap:=h1 }) S1'.type ?_)
 rw[if_pos rfl]
 refine qaa (qab ?_)
 refine qaa (m:=pure a) (qab ?_)
 unfold qjk
 refine qaa (qaa (D1.state (s:={ s with heap:=h1 }) λt T=>qab ?_))
 dsimp only
 refine qbj ?_
 refine qaa (D1.unseen (s:={ s with heap:=h1 }) ?_)
 rw[<-qh8]
 have kp:∀ {h':Heap},qbq s.heap.objs.size h1 h'->bI w h' a m1 0 f1 ep1:=λsb=>D1.keep (qat la) sb
 refine qaa (pq (λl s'=>∃ h' m' d',s'={ s with heap:=h' }/\qbq s.heap.objs.size h1 h'/\aY w h' s.heap.objs.size m' d'/\m'^^^sJ (kq l)=m2^^^m1/\BB l/\(kq l).Nodup/\∀ j∈kq l,d'.testBit j=false) (λx l s' hJ=>?_) _ _ _ ⟨h1,m2,0,rfl,qdY ..,T1,?_,nz _ _ _ _ _,(jQ w a m1 f1 ep1).nodup_iff.mpr (sM m1),λj _=>qcg j⟩ λs' hJ=>?_)
 ·obtain⟨h',m',d',rfl,sb,S',hbm,hE,hN,hD⟩:=hJ
  obtain⟨k,tk,hk,rfl⟩:=hE x qak
  have eK:kq (((k:Int),Value.int k tk)::l)=k::kq l:=by show (k:Int).toNat::kq l=_;rw[qaW]
  rw[eK]at hbm hN hD
  dsimp only
  refine qaa (AI (s:={ s with heap:=h' }) S' hk (hD k qak) λh2 d2 sb2 S2' hd2=>?_)
  refine qaa (zk { s with heap:=h2 } _ (kp (sb.trans sb2)) (qab ⟨rfl,h2,_,d2,rfl,sb.trans sb2,S2',?_,λe he=>hE e (qah _ he),(qbR.mp hN).2,λj hj=>hd2 j (λe=>(qbR.mp hN).1 (e ▸ hj)) (hD j (qah _ hj))⟩))
  rw[<-hbm,qR,qjO]
 ·rw[xO ((jQ w a m1 f1 ep1).nodup_iff.mpr (sM m1)),pH (jQ ..),lN D1.1]
 ·obtain⟨h',m',d',rfl,sb,S',hbm,hE,hN,hD⟩:=hJ
  have e0:m'=m2^^^m1:=by rw[<-hbm];exact (qkM m').symm
  rw[e0]at S'
  refine qab (qab (qab ⟨_,rfl,(λe=>nomatch e),h h' _ d' (λc o e=>?_) (qan _) S'⟩))
  have hc:c≠s.heap.objs.size:=qat (qao e)
  exact (sb.2 c hc).trans ((sb1.2 c hc).trans (qag _ e))
end
section
variable {prog:qaX}{w:World}{A:qbc}{E:Value->qaj->Prop}{s:qaj}{a:Addr}{m d ep:Nat}{f:Nat->Tok}
theorem ud {Q:List Value->qaj->Prop} (S:bI w s.heap a m d f ep) (hh:A.handled=none)
  (h:∀ h' tk,(∀ b o,s.heap.get? b=some o->h'.get? b=some o)->s.heap.objs.size<h'.objs.size->Q ((jR w a m f ep).toList.map (·.2)) { s with heap:=h',toks:=tk }) :
  wpAny (model prog w) A (qk5 (.ref a)) Q E s:=by
 have hlt:a<s.heap.objs.size:=let ⟨_,_,_,o,t,ho,_⟩:=S;qao ho
 have hn:(aw m).length<=qaS:=by have:=iy S.1;rw[qb5];lia
 unfold qk5
 refine qaa (qhG (qb7 qiX ?_))
 show wpAny _ _ (do again (.builtin "list.__iadd__" ⟨[<-qk2 [],.ref a],[]⟩)) _ _ s
 refine qaa (qee (qab ⟨qfL _ (by decide +kernel),qb7 qj3 ?_⟩))
 show wpAny _ _ (qfr (.ref s.heap.objs.size) (.ref a) (.ref s.heap.objs.size)) _ _ { s with heap:=s.heap.push (qct "list" #[] 0) }
 refine qhx (A:=A) (R:=λr s'=>match r with
   | .ok (.ret v)=>wpAny (model prog w) A (match v with
     |.ref a=>do
      let o <-load a
      match o.data with
      |.seq xs _=>pure xs.toList
      |_=>qeZ "internal:collect"
     |_=>qeZ "internal:collect") Q E s'
   |.ok _=>False
   |.error e=>E e s') (s:={ s with heap:=s.heap.push (qct "list" #[] 0) }) (Bq prog w a m d ep f) hh (S.at' λo e=>qag _ e) s.heap.objs.size (qbA hlt) (qbA hlt) (.ref s.heap.objs.size) 0 (qaA _ rfl) (λh' tk acc c hk hS hI=>?_) hn
 show wpAny (model prog w) A (do
   let o <-load s.heap.objs.size
   match o.data with
   |.seq xs _=>pure xs.toList
   |_=>qeZ "internal:collect") Q E { s with heap:=h',toks:=tk }
 refine qaa (qgx hS ?_)
 show wpAny _ _ (pure acc.toList) Q E _
 have e:acc.toList=(jR w a m f ep).toList.map (·.2):=by
  apply qiD
  intro i
  rw[qaZ,qcc,qcc]
  by_cases hi:i<acc.size
  ·obtain⟨e,he,hv⟩:=hI.2 i acc[i] (qaJ hi)
   rw[he,qaJ hi,hv];rfl
  ·rw[qbP (by lia),qbP (by rw[lh,<-hI.1];lia)];rfl
 rw[e]
 refine qab (h h' tk (λb o q=>?_) (qao hS))
 exact hk b o (qat (qao q)) (qag _ q)
theorem tj (w:World) (a:Addr) (m:Nat) (f:Nat->Tok) (ep:Nat):∀ {l:List (Int×Value)},BB l->qcT (l.map (·.2)) (l.map (·.1))
 |[],_=>.nil
 |e::l,h=>by
  obtain⟨k,t,_,rfl⟩:=h e qak
  exact .cons _ _ (tj w a m f ep λe he=>h e (qah _ he))
theorem xK (m:Nat):((aw m).map λk=>((k:Nat):Int)).Pairwise (·<=·):=by
 rw[qcm]
 have:(qam 6).Pairwise (·<·):=qhu
 exact (this.filter _).imp λ{a b} h=>by lia
theorem uR {Q:Value->qaj->Prop} (S:aY w s.heap a m d) (hh:A.in1.handled=none)
  (h:∀ (h':Heap) (tk:Nat) (p:Addr) (ep:Nat) (out:List Value),(∀ b o,s.heap.get? b=some o->h'.get? b=some o)->s.heap.objs.size<=p->h'.get? p=some (qct "list" out.toArray ep)->aQ (((aw m).map λk=>((k:Nat):Int)).map V.int) out->Q (.ref p) { s with heap:=h',toks:=tk }) :
  wpAny (model prog w) A (call (.builtin "sorted") [.ref a]) Q E s:=by
 obtain⟨f,ep,D⟩:=S.dat
 refine qej qi7 qiH qiI (qiL _) ?_
 unfold qcB.«sorted»
 refine qaa (m:=qjI "sorted" 1 1 _) (qab ?_)
 refine qaa (ud D hh λh1 tk hk hlt=>?_)
 have hI:=tj w a m f ep (nz w a m f ep)
 generalize hvs:(jR w a m f ep).toList.map (·.2)=vs at hI ⊢
 have hv64:vs.length<=64:=by
  have:=iy D.1
  rw[<-hvs,qae,qa5,lh];lia
 refine qaa (qee ?_ (by rw[qb5];lia))
 have hoL:(h1.push (qct "list" vs.toArray 0)).get? h1.objs.size=some (qct "list" vs.toArray 0):=qaA _ rfl
 show wpAny _ _ _ _ _ { s with heap:=h1.push (qct "list" vs.toArray 0),toks:=tk }
 refine qaa (qbj (qbn qhI ⟨_,hoL,rfl⟩ qhl (ml (O:=OI) (rk:=λp=>[bq p.1]) (S:=λp=>∃ n t,p.1=.int n t) (s:={ s with heap:=h1.push (qct "list" vs.toArray 0),toks:=tk }) hoL hv64 (λh' _=>⟨qif,sZ (s:={ s with heap:=h',toks:=tk }) hI⟩) (λv hv=>jU hI v hv) λout a1 a2=>⟨_,rfl,?_⟩) (qhJ _)))
 refine qab ⟨_,rfl,?_⟩
 obtain⟨ep',he⟩:=sortedHeap_at (out:=out.toArray) hoL
 refine h _ tk h1.objs.size ep' out (λb o q=>?_) (qdQ hlt) he ?_
 ·have q1:=hk b o q
  have hb:b<h1.objs.size:=qao q1
  show (qhT (h1.push (qct "list" vs.toArray 0)) h1.objs.size vs out.toArray).get? b=some o
  rw[qlb (qat hb) (by rw[qhU];exact qa0 hb),qda _ _ _ (qat hb)]
  exact q1
 ·have ho:∀ u∈out,∃ n t,u=.int n t:=λu hu=>jU hI u (a1.mem_iff.mp hu)
  have hpm:(out.map bq).Perm ((aw m).map λk=>((k:Nat):Int)):=by
   have z1:=a1.map bq
   rw[lL hI]at z1
   have z2:=(jQ w a m f ep).map (λk=>((k:Nat):Int))
   refine z1.trans (List.Perm.trans ?_ z2)
   unfold kq
   rw[qaL]
   refine List.Perm.of_eq (qar λe he=>?_)
   obtain⟨k,t,_,rfl⟩:=nz w a m f ep e he
   simp
  have hs:(out.map bq).Pairwise (·<=·):=by
   rw[qcm]
   refine a2.imp λ{x y} q=>?_
   have q':bY [bq y] [bq x]=false:=q
   by_cases e:bq y=bq x
   ·lia
   ·have:bY [bq y] [bq x]=decide (bq y<bq x):=by show (if _ then _ else _)=_;rw[if_neg e]
    rw[this,decide_eq_false_iff_not]at q';lia
  have e:=mK hpm hs (xK m)
  have hvv:=iQ (mI ho)
  rw[e]at hvv;exact hvv
end
def PX (X:Cx) (z:Bool) (e:Expr) (t:St->Hp->(Nat->Hp->Prop)->Prop):Prop:=
 ∀ (pins:List (Addr×Obj)) (s:qaj) (σ:St) (H:Hp) (Q:Nat->Hp->Prop),Inv X pins σ H s->t σ H Q->wpAny (model X.prog X.w) X.A (eval e X.env)
  (λu s'=>∃ a o m d H',u=.ref a/\s'.heap.get? a=some o/\Ca X.w o m d/\(z=true->d=0)/\H' a=none/\a≠X.env.locals/\a∉X.fs/\(∀ p∈pins,p.1≠a)/\Inv X pins σ H' s'/\Q m H') X.xe s
abbrev Xf:=Ev->Sto->Option (Nat×Sto)
def tIX (K:qai) (env:Ev) (st:Sto) (r:Nat×Sto):St->Hp->(Nat->Hp->Prop)->Prop:=λσ H Q=>∃ φ,Er K H φ env σ/\Sr K H φ st/\∀ H' φ',Fw φ φ' H H'->Sr K H' φ' r.2->Q r.1 H'
structure IX (K:qai) (X:Cx) (z:Bool) (e:Expr) (f:Xf):Prop where
 run:∀ env st r,f env st=some r->PX X z e (tIX K env st r)
def dP (fe:Ef):Xf
 |env,st=>(fe env st).bind λx=>match x.1 with
 |.d (.tup ds)=>(bf ds).bind λns=>if in6 ns=true then some (av ns,x.2) else none
 |_=>none
def oF (fa fb:Xf):Xf
 |env,st=>(fa env st).bind λx=>(fb env x.2).map λy=>(x.1|||y.1,y.2)
def kR (fa fb:Xf):Xf
 |env,st=>(fa env st).bind λx=>(fb env x.2).map λy=>(y.1^^^x.1,y.2)
def jB (fx:Xf):Lf
 |env,st=>(fx env st).map λx=>((aw x.1).map λk=>D.int (k:Nat),x.2)
section
variable {K:qai}{X:Cx}{pos p:Pos}{e a b:Expr}{fe:Ef}{fa fb:Xf}
theorem si (hg:Gl X "set") (hm:X.mg "set" = none) (ha:IE K X e fe) (hc:X.calm=true:=by rfl) (hs:aU e=true:=by rfl) (hK:X.K=K:=by rfl):IX K X true (.Call (.Name "set" p) [e] [] pos) (dP fe):=by
 subst hK
 refine⟨λenv st r hr=>?_⟩
 simp only[dP,qac]at hr
 obtain⟨⟨x,s1⟩,hx,hr⟩:=hr
 dsimp only at hr
 split at hr
 case h_2=>cases hr
 rename_i ds
 obtain⟨ns,hns,hr⟩:=qac.mp hr
 split at hr
 ·rename_i h6
  cases hr
  intro pins s σ H Q I h
  refine qc8 (je I hg hm qkI ?_)
  refine qce ?_ (bE hs) (dr (es:=[]) rfl)
  rw[bE hs]
  show wpAny _ _ (qic ((false,eval e X.env)::qea pos (qbB [] X.env))) _ _ s
  obtain⟨φ,hE,hS,q⟩:=h
  refine qdq (thn ((ha.run _ _ _ hx) pins s σ H (λv H'=>∃ φ',Sr X.K H' φ' s1/\Fw φ φ' H H'/\Rw X.K H' φ' (.d (.tup ds)) v) I ⟨φ,hE,hS,λv H' φ' f1 S1 w1=>⟨φ',S1,f1,w1⟩⟩) λu s2 ⟨v,H1,I1,r1,φ1,S1,f1,w1⟩=>?_)
  show wpAny _ _ (qic []) _ _ s2
  refine qey ?_
  obtain⟨ad,vs,rfl,h1,h2⟩:=w1
  cases r1
  cases cL hns
  cases h2.ints
  have fin:∀ (h':Heap) (tk:Nat),aY X.w h' s2.heap.objs.size (av ns) 0->(∀ b o,b<s2.heap.objs.size->s2.heap.get? b=some o->h'.get? b=some o)->
    ∃ a o m d H',Value.ref s2.heap.objs.size=.ref a/\(({ s2 with heap:=h',toks:=tk }:qaj)).heap.get? a=some o/\Ca X.w o m d/\(true=true->d=0)/\H' a=none/\a≠X.env.locals/\a∉X.fs/\(∀ p∈pins,p.1≠a)/\Inv X pins σ H' { s2 with heap:=h',toks:=tk }/\Q m H':=λh' tk ⟨o,ho,so⟩ hk=>by
   refine⟨_,o,_,0,H1,rfl,ho,so,λ_=>rfl,I1.hok.fresh (qan _),qbA I1.lt,I1.nofs (qan _),λp hp=>qat (qao (I1.pin p (qau _ hp)).1),I1.kept (λb u e=>hk b u (qao e) e),q H1 φ1 f1 S1⟩
  obtain⟨its,rv,pl,_⟩:=I1.tuple (SqT.of h1)
  exact ph (items:=its.toArray) (ns:=ns) (I1.ok.hd hc) pl (by simpa using iD rv) h6 fin
 ·cases hr
theorem zc {op:Operator}{g:Nat->Nat->Nat}{env:Ev}{st:Sto}{x y:Nat×Sto} (ha:PX X true a (tIX K env st x)) (hb:PX X true b (tIX K env x.2 y))
  (hop:∀ (s:qaj) (u v:Addr) (m1 m2:Nat) (Q:Value->qaj->Prop),aY X.w s.heap u m1 0->aY X.w s.heap v m2 0->u≠v->
    (∀ h' p d,(∀ c o,s.heap.get? c=some o->h'.get? c=some o)->s.heap.objs.size<=p->aY X.w h' p (g m1 m2) d->Q (.ref p) { s with heap:=h' })->wpAny (model X.prog X.w) X.A (qbC op (.ref u) (.ref v)) Q X.xe s) :
  PX X false (.BinOp a op b pos) (tIX K env st (g x.1 y.1,y.2)):=by
 intro pins s σ H Q I h
 obtain⟨φ,hE,hS,q⟩:=h
 refine wpAny_BinOp (thn (ha pins s σ H (λm H'=>m=x.1/\∃ φ',Sr K H' φ' x.2/\Fw φ φ' H H') I ⟨φ,hE,hS,λH' φ' f1 S1=>⟨rfl,φ',S1,f1⟩⟩) λu s1 hu=>?_)
 obtain⟨a1,o1,m1,d1,H1,rfl,g1,so1,z1,n1,l1,fs1,pn1,I1,rfl,φ1,S1,f1⟩:=hu
 have cells:∀ v,o1.data≠.cell v:=λv hv=>by obtain⟨_,_,_,_,f,ep,t,hd,_⟩:=so1;rw[hd]at hv;cases hv
 have I1':Inv X ((a1,o1)::pins) σ H1 s1:=I1.pins_of λp hp=>by
  rcases qaC.mp hp with rfl|hp
  ·exact⟨g1,n1,l1,fs1,cells⟩
  ·exact I1.pin p (qau _ hp)
 refine thn (hb ((a1,o1)::pins) s1 σ H1 (λm H'=>m=y.1/\∃ φ',Sr K H' φ' y.2/\Fw φ1 φ' H1 H') I1' ⟨φ1,hE.fw hS f1,S1,λH' φ' f2 S2=>⟨rfl,φ',S2,f2⟩⟩) λv s2 hv=>?_
 obtain⟨a2,o2,m2,d2,H2,rfl,g2,so2,z2,n2,l2,fs2,pn2,I2,rfl,φ2,S2,f2⟩:=hv
 cases z1 rfl
 cases z2 rfl
 have ga:=(I2.pin (a1,o1) (qau _ qak)).1
 refine hop s2 a1 a2 x.1 y.1 _ ⟨o1,ga,so1⟩ ⟨o2,g2,so2⟩ (pn2 _ qak) λh' p d hk hp ⟨o3,g3,so3⟩=>?_
 have I2':Inv X pins σ H2 s2:=I2.pins_of λp hp=>I2.pin p (qau _ (qah _ hp))
 have I3:Inv X pins σ H2 { s2 with heap:=h' }:=I2'.kept (t':=s2.toks) hk
 exact⟨p,o3,_,d,H2,rfl,g3,so3,(λz=>nomatch z),I2.hok.fresh hp,qbA (qaP I2.lt hp),I2.nofs hp,λp' hp'=>qat (qaP (qao (I2'.pin p' (qau _ hp')).1) hp),I3,q H2 φ2 (f1.trans f2) S2⟩
theorem Fg (ha:IX K X true a fa) (hb:IX K X true b fb):IX K X false (.BinOp a .BitOr b pos) (oF fa fb):=by
 refine⟨λenv st r hr=>?_⟩
 simp only[oF,qac,qaf]at hr
 obtain⟨x,hx,y,hy,rfl⟩:=hr
 exact zc (g:=λm1 m2=>m1|||m2) (ha.run _ _ _ hx) (hb.run _ _ _ hy) λs u v m1 m2 Q S1 S2 hne h=>yi S1 S2 hne λh' p hk hp S=>h h' p 0 hk hp S
theorem EN (ha:IX K X true a fa) (hb:IX K X true b fb):IX K X false (.BinOp a .BitXor b pos) (kR fa fb):=by
 refine⟨λenv st r hr=>?_⟩
 simp only[kR,qac,qaf]at hr
 obtain⟨x,hx,y,hy,rfl⟩:=hr
 exact zc (g:=λm1 m2=>m2^^^m1) (ha.run _ _ _ hx) (hb.run _ _ _ hy) λs u v m1 m2 Q S1 S2 hne h=>Bz S1 S2 hne λh' p d hk hp S=>h h' p d hk hp S
theorem uj {z:Bool} (hg:Gl X "sorted") (hm:X.mg "sorted" = none) (ha:IX K X z e fa) (hc:X.calm=true:=by rfl) (hs:aU e=true:=by rfl):IL K X (.Call (.Name "sorted" p) [e] [] pos) (jB fa):=by
 refine⟨λenv st r hr=>?_⟩
 simp only[jB,qaf]at hr
 obtain⟨x,hx,rfl⟩:=hr
 intro pins s σ H Q I h
 obtain⟨φ,hE,hS,q⟩:=h
 refine qc8 (je I hg hm qc6 ?_)
 refine qe1 ?_ (bE hs) (dr (es:=[]) rfl)
 rw[bE hs]
 show wpAny _ _ (qic ((false,eval e X.env)::qea pos (qbB [] X.env))) _ _ s
 refine qdq (thn ((ha.run _ _ _ hx) pins s σ H (λm H'=>m=x.1/\∃ φ',Sr K H' φ' x.2/\Fw φ φ' H H') I ⟨φ,hE,hS,λH' φ' f1 S1=>⟨rfl,φ',S1,f1⟩⟩) λu s1 hu=>?_)
 obtain⟨a1,o1,m1,d1,H1,rfl,g1,so1,z1,n1,l1,fs1,pn1,I1,rfl,φ1,S1,f1⟩:=hu
 show wpAny _ _ (qic []) _ _ s1
 refine qey ?_
 refine uR ⟨o1,g1,so1⟩ (I1.ok.hd hc) λh' tk p' ep out hk hp he hv=>?_
 have hn:H1 p'=none:=I1.hok.fresh hp
 have hlen:out.length<=1000:=by
  have:=iy so1.1
  rw[<-hv.length,qae,qae];lia
 have hlay:Inv X pins σ (upd H1 p' (.lst (((aw x.1).map λk=>((k:Nat):Int)).map V.int))) { s1 with heap:=h',toks:=tk }:=by
  refine I1.laid (t':=tk) (a:=p') (o:=.lst (((aw x.1).map λk=>((k:Nat):Int)).map V.int)) hk hp ⟨?_,out,ep,hv,by simpa [qct] using he⟩
  rw[hv.length];exact jX hlen
 refine⟨.ref p',_,hlay,rfl,q p' _ H1 φ1 f1 S1 hn ?_⟩
 have:=Rls.of_ints (K:=K) (H:=H1) (φ:=φ1) ((aw x.1).map λk=>((k:Nat):Int))
 rw[qaL]at this
 exact this
end
def CN:Ef
 |_,_=>none
section
variable {K:qai}{X:Cx}{e:Expr}
theorem BX:IE K X e CN:=⟨λenv st r hr=>by cases hr⟩
end
section
variable {κ:Type} [DecidableEq κ]
def i9 (kvs:List (κ×V)) (k:κ):Option V:=(kvs.find? λkv=>decide (kv.1=k)).map (·.2)
def kT (kvs:List (κ×V)) (k:κ) (v:V):List (κ×V):=
 if (kvs.any λkv=>decide (kv.1=k))=true then kvs.map (λkv=>if kv.1=k then (kv.1,v) else kv) else kvs++[(k,v)]
theorem oy {p:κ×V}{r:List (κ×V)}{k:κ} (e:p.1=k):i9 (p::r) k=some p.2:=by simp[i9,qdv,e]
theorem o7 {p:κ×V}{r:List (κ×V)}{k:κ} (e:¬ p.1=k):i9 (p::r) k=i9 r k:=by simp[i9,qdv,e]
theorem ug (k:κ):∀ kvs:List (κ×V),(kvs.any λkv=>decide (kv.1=k))=(i9 kvs k).isSome
 |[]=>rfl
 |p::r=>by
  rw[qcj]
  by_cases e:p.1=k
  ·simp only[oy e,decide_eq_true e,Bool.true_or,qhL]
  ·rw[o7 e,decide_eq_false e,qdZ];exact ug k r
theorem mX (kvs:List (κ×V)) (k:κ) (v:V):(kT kvs k v).length<=kvs.length+1:=by
 unfold kT
 split
 ·rw[qae];lia
 ·rw[qa2,qas,qbS];lia
theorem nj.isSome_eq {o:Option V}{u:Option Value} (r:nj o u):o.isSome=u.isSome:=by
 cases o with
 |none=>cases u with
  |none=>rfl
  |some _=>exact (show False from r).elim
 |some _=>cases u with
  |none=>exact (show False from r).elim
  |some _=>rfl
theorem nj.getD {o:Option V}{u:Option Value}{d:V}{d':Value} (r:nj o u) (rd:aV d d'):aV (o.getD d) (u.getD d'):=by
 cases o with
 |none=>cases u with
  |none=>exact rd
  |some _=>exact (show False from r).elim
 |some _=>cases u with
  |none=>exact (show False from r).elim
  |some _=>exact r
theorem KV.val {kvs:List (κ×V)}{vs:List (κ×Value)} (r:KV kvs vs) (k:κ):nj (i9 kvs k) (qhi vs k):=by
 unfold KV at r
 induction r with
 |nil=>exact True.intro
 |@cons p q ps qs h t ih=>
  obtain⟨h1,h2⟩:=h
  by_cases e:p.1=k
  ·have e':q.1=k:=h1.symm.trans e
   have b:qhi (q::qs) k=some q.2:=by simp[qhi,qdv,e']
   rw[oy e,b];exact h2
  ·have e':¬ q.1=k:=λz=>e (h1.trans z)
   have b:qhi (q::qs) k=qhi qs k:=by simp[qhi,qdv,e']
   rw[o7 e,b];exact ih
theorem KV.any {kvs:List (κ×V)}{vs:List (κ×Value)} (r:KV kvs vs) (k:κ):(kvs.any λkv=>decide (kv.1=k))=vs.any λkv=>decide (kv.1=k):=by
 unfold KV at r
 induction r with
 |nil=>rfl
 |cons h t ih=>rw[qcj,qcj,ih,h.1]
theorem KV.repl {kvs:List (κ×V)}{vs:List (κ×Value)} (r:KV kvs vs) (k:κ) {y:V}{u:Value} (ry:aV y u) :
  KV (kvs.map λkv=>if kv.1=k then (kv.1,y) else kv) (vs.map λkv=>if kv.1=k then (kv.1,u) else kv):=by
 unfold KV at r ⊢
 induction r with
 |nil=>exact .nil
 |@cons p q ps qs h t ih=>
  rw[qal,qal]
  refine .cons ?_ ih
  obtain⟨h1,h2⟩:=h
  by_cases e:p.1=k
  ·rw[if_pos e,if_pos (h1.symm.trans e)];exact⟨h1,ry⟩
  ·rw[if_neg e,if_neg (λz=>e (h1.trans z))];exact⟨h1,h2⟩
theorem KV.put {kvs:List (κ×V)}{vs:List (κ×Value)} (r:KV kvs vs) (k:κ) {y:V}{u:Value} (ry:aV y u):KV (kT kvs k y) (stored vs k u):=by
 unfold kT stored
 rw[r.any k]
 by_cases e:(vs.any λkv=>decide (kv.1=k))=true
 ·rw[if_pos e,if_pos e];exact r.repl k ry
 ·rw[if_neg e,if_neg e];exact qjs r ⟨rfl,ry⟩
theorem KV.length {kvs:List (κ×V)}{vs:List (κ×Value)} (r:KV kvs vs):kvs.length=vs.length:=qgL r
end
theorem wQ {P:qaX}{w:World}{k:Key}{u:Value} (r:aV (kV k) u):(cE P w).is k u=true:=by
 cases k with
 |inl i=>obtain⟨t,e⟩:=(show ∃ t,u=Value.int i t from r);subst e;exact uy P w i t
 |inr x=>obtain⟨t,e⟩:=(show ∃ t,u=Value.str x t from r);subst e;exact t7 P w x t
theorem qp {P:qaX}{w:World}:∀ {ks:List Key}{us:List Value},aQ (ks.map kV) us->ItemsAre (cE P w) ks us
 |[],_,r=>by rw[qcM]at r;cases r;exact .nil
 |k::ks,_,r=>by
  rw[qal]at r
  cases r with
  |cons h t=>exact .cons (wQ h) (qp t)
abbrev KT (H:Hp):List (List Key×V)->List (List Key×Addr×Value)->Prop:=qgM λp q=>p.1=q.1/\H q.2.1=some (.tup (p.1.map kV))/\aV p.2 q.2.2
theorem KT.val {H:Hp}{kvs:List (List Key×V)}{xs:List (List Key×Addr×Value)} (r:KT H kvs xs) (k:List Key):nj (i9 kvs k) ((atKey xs k).map (·.2)):=by
 induction r with
 |nil=>exact True.intro
 |@cons p q ps qs h t ih=>
  obtain⟨h1,_,h2⟩:=h
  by_cases e:p.1=k
  ·have e':q.1=k:=h1.symm.trans e
   have b:atKey (q::qs) k=some q.2:=by simp[atKey,qdv,e']
   rw[oy e,b];exact h2
  ·have e':¬ q.1=k:=λz=>e (h1.trans z)
   have b:atKey (q::qs) k=atKey qs k:=by simp[atKey,qdv,e']
   rw[o7 e,b];exact ih
theorem KT.repl {H:Hp}{kvs:List (List Key×V)}{xs:List (List Key×Addr×Value)} (r:KT H kvs xs) (k:List Key) {y:V}{u:Value} (ry:aV y u) :
  KT H (kvs.map λkv=>if kv.1=k then (kv.1,y) else kv) (xs.map (putAt k u)):=by
 induction r with
 |nil=>exact .nil
 |@cons p q ps qs h t ih=>
  rw[qal,qal]
  refine .cons ?_ ih
  obtain⟨h1,h2,h3⟩:=h
  unfold putAt
  by_cases e:p.1=k
  ·rw[if_pos e,if_pos (h1.symm.trans e)];exact⟨h1,h2,ry⟩
  ·rw[if_neg e,if_neg (λz=>e (h1.trans z))];exact⟨h1,h2,h3⟩
theorem KT.put {H:Hp}{kvs:List (List Key×V)}{xs:List (List Key×Addr×Value)} (r:KT H kvs xs) (k:List Key) {b:Addr}{y:V}{u:Value} (hb:H b=some (.tup (k.map kV))) (ry:aV y u) :
  KT H (kT kvs k y) (storedH xs k b u):=by
 have e:(kvs.any λkv=>decide (kv.1=k))=(atKey xs k).isSome:=by
  rw[ug,(r.val k).isSome_eq,Option.isSome_map]
 unfold kT storedH
 rw[e]
 by_cases q:(atKey xs k).isSome=true
 ·rw[if_pos q,if_pos q];exact r.repl k ry
 ·rw[if_neg q,if_neg q];exact qjs r ⟨rfl,hb,ry⟩
theorem KT.keeps {H H':Hp}{kvs:List (List Key×V)}{xs:List (List Key×Addr×Value)} (r:KT H kvs xs) (ht:∀ b ys,H b=some (.tup ys)->H' b=some (.tup ys)):KT H' kvs xs:=
 qgM.mapP r λ_ _ z=>⟨z.1,ht _ _ z.2.1,z.2.2⟩
section
variable {P:qaX}{w:World}{H:Hp}{h:Heap}{a:Addr}
theorem CO {u:HO} (ok:HOk P w H h) (e:Rd H a u):di P w H h a u:=e.ok ok
theorem uE {kvs:List (Key×V)} (ok:HOk P w H h) (e:Rd H a (.dK kvs)):kvs.length<=qaS/\(a==qcD)=false/\∃ vs,KV kvs vs/\h.DictOf (cE P w) a vs:=
 show di P w H h a (.dK kvs) from CO ok e
theorem FZ {kvs:List (Key×V)} (ok:HOk P w H h) (e:H a=some (.dK kvs)):kvs.length<=qaS/\(a==qcD)=false/\∃ vs,KV kvs vs/\h.DictOf (cE P w) a vs:=uE ok (.inl e)
theorem rG {ks:List Key} (ok:HOk P w H h) (e:H a=some (.tup (ks.map kV))):(qgf (cE P w)).is h ks a:=by
 obtain⟨_,its,r,o,h1,h2,⟨n,h3⟩,_⟩:=(show di P w H h a (.tup (ks.map kV)) from ok a _ e)
 exact⟨o,its.toArray,n,h1,h2,h3,by simpa using qp r⟩
theorem uv {kvs:List (List Key×V)} (ok:HOk P w H h) (e:Rd H a (.dT kvs)):kvs.length<=qaS/\(a==qcD)=false/\
  ∃ xs,KT H kvs xs/\h.DictOfH (qgf (cE P w)) a xs:=by
 obtain⟨z,y,xs,r,o,es,ep,h1,h2,h3,h4,h5⟩:=(show di P w H h a (.dT kvs) from CO ok e)
 refine⟨z,y,xs,r,o,es,ep,h1,h2,h3,h4,λx hx=>?_,h5⟩
 have all:∀ {l:List (List Key×V)}{m:List (List Key×Addr×Value)},KT H l m->∀ x∈m,(qgf (cE P w)).is h x.1 x.2.1:=by
  intro l m q
  induction q with
  |nil=>intro x hx;exact nomatch hx
  |@cons p q ps qs hq t ih=>
   intro x hx
   rcases qaC.mp hx with e|hx
   ·subst e
    exact rG ok (by rw[<-hq.1];exact hq.2.1)
   ·exact ih x hx
 exact all r x hx
theorem Cw {kvs:List (List Key×V)} (ok:HOk P w H h) (e:H a=some (.dT kvs)):kvs.length<=qaS/\(a==qcD)=false/\
  ∃ xs,KT H kvs xs/\h.DictOfH (qgf (cE P w)) a xs:=uv ok (.inl e)
end
def sg (H:Hp) (a:Addr) (y:V) (r:Option V):Prop:=
 (∃ kvs k,Rd H a (.dK kvs)/\y=kV k/\r=i9 kvs k)\/∃ kvs k b,Rd H a (.dT kvs)/\y=.ref b/\H b=some (.tup (k.map kV))/\r=i9 kvs k
def z7 (H:Hp) (a:Addr) (y v:V) (H':Hp):Prop:=
 (∃ kvs k,H a=some (.dK kvs)/\y=kV k/\kvs.length<qaS/\H'=upd H a (.dK (kT kvs k v)))\/
 ∃ kvs k b,H a=some (.dT kvs)/\y=.ref b/\H b=some (.tup (k.map kV))/\kvs.length<qaS/\H'=upd H a (.dT (kT kvs k v))
theorem sg.t {H:Hp}{a b:Addr}{kvs:List (List Key×V)}{k:List Key} (e:H a=some (.dT kvs)) (eb:H b=some (.tup (k.map kV))):sg H a (.ref b) (i9 kvs k):=.inr ⟨kvs,k,b,.inl e,rfl,eb,rfl⟩
theorem z7.t {H:Hp}{a b:Addr}{kvs:List (List Key×V)}{k:List Key}{v:V} (e:H a=some (.dT kvs)) (eb:H b=some (.tup (k.map kV))) (hl:kvs.length<qaS) :
  z7 H a (.ref b) v (upd H a (.dT (kT kvs k v))):=.inr ⟨kvs,k,b,e,rfl,eb,hl,rfl⟩
section
variable {X:Cx}{pins:List (Addr×Obj)}{σ:St}{H:Hp}{s:qaj}{a:Addr}{y v:V}{u r:Value}{o:Option V}{A:qbc}{E:Value->qaj->Prop}
theorem Inv.big (I:Inv X pins σ H s):qcD<s.heap.objs.size:=by
 have h:qaE<s.heap.objs.size:=(I.mod.glob.keeps I.bk).lt
 exact qhM (by decide) h
theorem xP {Q:Value->qaj->Prop} (hu:A.units+1<cLine) (I:Inv X pins σ H s) (g:sg H a y (some v)) (ry:aV y u) (h:∀ w' s',Inv X pins σ H s'->aV v w'->Q w' s') :
  wpAny (model X.prog X.w) A (qfz (.ref a) u) Q E s:=by
 rcases g with⟨kvs,k,e,ey,l⟩|⟨kvs,k,b,e,ey,eb,l⟩
 ·subst ey
  obtain⟨z,hd,vs,rel,dd⟩:=uE I.hok e
  obtain⟨w',hw,rw'⟩:=nj.some_of (v:=v) (o:=qhi vs k) (by rw[l];exact rel.val k)
  exact wpAny_getItem_of (wQ ry) dd.mapOf hw (h w' _ (I.tok _) rw')
 ·subst ey
  cases (show u=Value.ref b from ry)
  obtain⟨z,hd,xs,rel,dd⟩:=uv I.hok e
  obtain⟨w',hw,rw'⟩:=nj.some_of (v:=v) (o:=(atKey xs k).map (·.2)) (by rw[l];exact rel.val k)
  obtain⟨p,hp,hp2⟩:=qaf.mp hw
  refine wpAny_getItem_heap (qge hu) (rG I.hok eb) dd hp ?_
  rw[hp2]
  exact h w' _ (I.tok _) rw'
theorem wu {h':Heap}{t':Nat}{ob:HO} (I:Inv X pins σ H s) (mu:Mut (H a)) (hs:qbq a s.heap h') (he:∃ q,h'.get? a=some q) (new:di X.prog X.w (upd H a ob) h' a ob) :
  Inv X pins σ (upd H a ob) { s with heap:=h',toks:=t' }:=
 I.write (x:=a) (e:=a) mu (.inl rfl) (λb q hb z=>(hs.2 b hb).trans z) he new
theorem Eg {P:qaX}{w:World}{H':Hp}{h':Heap}{kvs:List (Key×V)}{vs:List (Key×Value)} (z:kvs.length<=qaS) (hd:(a==qcD)=false) (rel:KV kvs vs) (dd:h'.DictOf (cE P w) a vs) :
  di P w H' h' a (.dK kvs):=⟨z,hd,vs,rel,dd⟩
theorem xE {H':Hp}{Q:Unit->qaj->Prop} (hu:A.units+1<cLine) (I:Inv X pins σ H s) (g:z7 H a y v H') (ry:aV y u) (rv:aV v r) (h:∀ s',Inv X pins σ H' s'->Q () s') :
  wpAny (model X.prog X.w) A (qkZ (.ref a) u r) Q E s:=by
 rcases g with⟨kvs,k,e,ey,l,eH⟩|⟨kvs,k,b,e,ey,eb,l,eH⟩
 ·subst ey eH
  obtain⟨z,hd,vs,rel,dd⟩:=FZ I.hok e
  have hz:vs.length<=qaS:=by rw[<-rel.length];exact z
  have hl:(kT kvs k v).length<=qaS:=by have:=mX kvs k v;lia
  refine wpAny_setItem_pairs (hsz:=hz) (wQ ry) dd λh' dd' hs=>h _ ?_
  have he:∃ q,h'.get? a=some q:=let ⟨q,_,_,hq,_⟩:=dd';⟨q,hq⟩
  exact wu I (by rw[e];exact True.intro) hs he (Eg hl hd (rel.put k rv) dd')
 ·subst ey eH
  cases (show u=Value.ref b from ry)
  obtain⟨z,hd,xs,rel,dd⟩:=Cw I.hok e
  have hz:xs.length<=qaS:=by rw[<-qgL rel];exact z
  have hl:(kT kvs k v).length<=qaS:=by have:=mX kvs k v;lia
  refine wpAny_setItem_heap (hsz:=hz) (qge hu) (rG I.hok eb) dd λh' dd' hs=>h _ ?_
  obtain⟨q,es,ep,hq,h2,h3,h4,_,h5⟩:=dd'
  refine wu I (by rw[e];exact True.intro) hs ⟨q,hq⟩ ⟨hl,hd,_,(rel.put k eb rv).keeps λc ys ec=>?_,q,es,ep,hq,h2,h3,h4,h5⟩
  rw[aO (Gf ec e (λz=>nomatch z))]
  exact ec
end
section
variable {X:Cx}{pins:List (Addr×Obj)}{σ:St}{H:Hp}{s:qaj}{a:Addr}{kvs:List (Key×V)}{k:Key}{u:Value}{A:qbc}{E:Value->qaj->Prop}
end
def Ez (i:Expr):Prop:=∀ ov iv,qhj i false ov iv=operate [ov,iv] (qfz ov iv)
theorem BH {prog:qaX}{w:World}{A:qbc}{E:Value->qaj->Prop}{s:qaj}{env:Env}{value slice:Expr}{pos:Pos}{T id:String}{Q:Value->qaj->Prop}
  (hl:typeLookup (.type T) "__getitem__" = pure (some (.builtin id))) (hs:Ez slice)
  (h:wpAny (model prog w) A (eval value env) (λo s₁=>wpAny (model prog w) A (eval slice env) (λi s₂=>s₂.TypeIs o T/\wpAny (model prog w) A (qfz o i) Q E s₂) E s₁) E s) :
  wpAny (model prog w) A (eval (.Subscript value slice pos) env) Q E s:=by
 refine qjM (qcu h (λo s₁ h₁=>qcu h₁ (λi s₂ h₂=>?_) λ_ _ x=>x) λ_ _ x=>x)
 obtain⟨hT,h₂⟩:=h₂
 unfold qib
 refine qaa ?_
 rw[getitemInPython_of_ne hT.not_modules]
 refine qaa (qkV hT hl ?_)
 have fin:wpAny (model prog w) A (qhj slice false o i) (λr s₃=>wpAny (model prog w) A (letTemporaryGo value o r >>= λ_=>pure r) Q E s₃) E s₂:=by
  rw[hs o i]
  exact wpAny_operating (qcu h₂ (λr s₃ h₃=>qaa (wpAny_letTemporaryGo (qab h₃))) λ_ _ x=>x)
 first
  |exact qab (qaa fin)
  |exact qaa (qab (qaa fin))
  |exact qaa fin
theorem sV {X:Cx}{pins:List (Addr×Obj)}{σ:St}{H:Hp}{s:qaj}{a:Addr}{y:V}{o:Option V} (I:Inv X pins σ H s) (g:sg H a y o):s.TypeIs (.ref a) "dict":=by
 rcases g with⟨kvs,k,e,_,_⟩|⟨kvs,k,b,e,_,_,_⟩
 ·obtain⟨_,_,vs,_,dd⟩:=uE I.hok e
  exact dd.typeIs
 ·obtain⟨_,_,xs,_,dd⟩:=uv I.hok e
  exact dd.typeIs
def EX (td ty:TE):TE:=λσ H Q=>td σ H λx H1=>ty σ H1 λy H2=>∃ a v,x=.ref a/\sg H2 a y (some v)/\Q v H2
def FM (td ty tv:TE):TS:=λD σ H=>tv σ H λv H1=>td σ H1 λx H2=>ty σ H2 λy H3=>∃ a H4,x=.ref a/\z7 H3 a y v H4/\D.nx σ H4
section
variable {X:Cx}{o i e value:Expr}{pos pos' tpos:Pos}{td ty tv:TE}
theorem Bd (hu:X.A.units+1<cLine) (ho:PE X o td) (hi:PE X i ty) (hs:Ez i):PE X (.Subscript o i pos) (EX td ty):=by
 intro pins s σ H Q I h
 refine BH PySem.F.slot_dict_getitem.lookup hs (thn (ho pins s σ H _ I h) λu s1 ⟨x,H1,I1,rx,q1⟩=>thn (hi pins s1 σ H1 _ I1 q1) λiv s2 ⟨y,H2,I2,ry,a,v,ex,g,q2⟩=>?_)
 subst ex
 obtain rfl:u=Value.ref a:=rx
 exact⟨sV I2 g,xP hu I2 g ry λw' s3 I3 rw'=>⟨v,H2,I3,rw',q2⟩⟩
theorem Bm (hu:X.A.units+1<cLine) (ho:PE X o td) (hi:PE X i ty) (hv:PE X value tv) (hs:qeO value (some (.Subscript o i pos')) pos.line X.env=pure false) :
  PS X (.Assign [.Subscript o i pos'] value pos) (FM td ty tv):=by
 intro pins s σ H D I h
 refine wpAny_Assign_Subscript (thn (hv pins s σ H _ I h) λr s1 ⟨v,H1,I1,rv,q1⟩=>thn (ho pins s1 σ H1 _ I1 q1) λu s2 ⟨x,H2,I2,rx,q2⟩=>thn (hi pins s2 σ H2 _ I2 q2) λiv s3 ⟨y,H3,I3,ry,a,H4,ex,g,q3⟩=>?_) hs
 subst ex
 obtain rfl:u=Value.ref a:=rx
 exact xE hu I3 g ry rv λs4 I4=>⟨σ,H4,I4,q3⟩
end
theorem AK {P:qaX}{w:World}{H:Hp} (h:Heap) (hb:qcD<h.objs.size):di P w H (h.push { cls:=.type "dict",data:=.dict #[] }) h.objs.size (.dT []):=
 ⟨qa7 _,beq_eq_false_iff_ne.mpr (qcz (qat hb)),[],.nil,_,#[],0,qaA _ rfl,⟨rfl,rfl,rfl⟩,rfl,rfl,qgN⟩
def Du:TE:=λ_ H Q=>∀ p,H p=none->Q (.ref p) (upd H p (.dT []))
section
variable {X:Cx}{pos:Pos}
theorem zY:PE X (.Dict [] [] pos) Du:=λpins s σ H Q I h=>
 wpAny_Dict_empty ⟨.ref s.heap.objs.size,_,I.laid (a:=s.heap.objs.size) (o:=.dT []) (t':=s.toks) (λ_ _ q=>qag _ q) (qan _) (AK s.heap I.big),rfl,h _ (I.hok.fresh (qan _))⟩
end
structure M2 (X:Cx) (o:Expr) (m:Str) (apos:Pos) (e f:Expr) (cpos:Pos):Prop where
 base:qeh o m X.env (eval o X.env)=eval o X.env
 few:((qea cpos (qbB [e,f] X.env)).all (λx=>!x.1) && (qgl cpos (qer [] X.env)).all (λx=>x.1.isSome)
  && decide (([e,f]:List Expr).length+([]:List qgC).length+(if ([]:List qgC).isEmpty then 0 else 1)<30))=true
 line:(apos.endLine==cpos.line)=true
 trees:qea cpos (qbB [e,f] X.env)=[(false,eval e X.env),(false,eval f X.env)]
def IsD (H:Hp) (a:Addr):Prop:=(∃ kvs,Rd H a (.dK kvs))\/∃ kvs,Rd H a (.dT kvs)
theorem CV {X:Cx}{pins:List (Addr×Obj)}{σ:St}{H:Hp}{s:qaj}{a:Addr} (I:Inv X pins σ H s) (d:IsD H a) :
  s.TypeIs (.ref a) "dict"/\(∀ b,Value.ref a=.ref b->∃ ob,s.heap.get? b=some ob/\ob.dict=none)/\(a==qcD)=false:=by
 rcases d with⟨kvs,e⟩|⟨kvs,e⟩
 ·obtain⟨_,hd,vs,_,dd⟩:=uE I.hok e
  refine⟨dd.typeIs,λb q=>?_,hd⟩
  cases q
  obtain⟨ob,_,_,h1,h2,_⟩:=dd
  exact⟨ob,h1,h2.2.1⟩
 ·obtain⟨_,hd,xs,_,dd⟩:=uv I.hok e
  refine⟨dd.typeIs,λb q=>?_,hd⟩
  cases q
  obtain⟨ob,_,_,h1,h2,_⟩:=dd
  exact⟨ob,h1,h2.2.1⟩
section
variable {X:Cx}{pins:List (Addr×Obj)}{σ:St}{H:Hp}{s:qaj}{a:Addr}{y d:V}{u r:Value}{o:Option V}{A:qbc}{E:Value->qaj->Prop}
theorem C2 {Q:Value->qaj->Prop} (hu:A.units+1<cLine) (I:Inv X pins σ H s) (g:sg H a y o) (ry:aV y u) (rd:aV d r) (h:∀ w' s',Inv X pins σ H s'->aV (o.getD d) w'->Q w' s') :
  wpAny (model X.prog X.w) A (call (.builtin "dict.get") [.ref a,u,r]) Q E s:=by
 rcases g with⟨kvs,k,e,ey,l⟩|⟨kvs,k,b,e,ey,eb,l⟩
 ·subst ey
  obtain⟨z,hd,vs,rel,dd⟩:=uE I.hok e
  refine call_meetsIn qeI dd.typeIs qgK (qgA _ _ _) (meets_dict_get_default (cE X.prog X.w) a (wQ ry) hd r) ⟨_,dd.mapOf,h _ _ (I.tok _) ?_⟩
  rw[l]
  exact (rel.val k).getD rd
 ·subst ey
  cases (show u=Value.ref b from ry)
  obtain⟨z,hd,xs,rel,dd⟩:=uv I.hok e
  refine call_meetsIn qeI dd.typeIs qgK (qgA _ _ _) (meetsH_dict_get_default (qgf (cE X.prog X.w)) a b hd r) ⟨qge hu,k,xs,rG I.hok eb,dd,h _ _ (I.tok _) ?_⟩
  rw[l]
  exact (rel.val k).getD rd
end
def C4 (td ty tx:TE):TE:=λσ H Q=>td σ H λx H1=>∃ a,x=.ref a/\IsD H1 a/\ty σ H1 λy H2=>tx σ H2 λz H3=>∃ o,sg H3 a y o/\Q (o.getD z) H3
section
variable {X:Cx}{o e f:Expr}{apos cpos:Pos}{td ty tx:TE}
theorem Ae (hu:X.A.units+1<cLine) (ho:PE X o td) (he:PE X e ty) (hf:PE X f tx) (m:M2 X o "get" apos e f cpos):PE X (.Call (.Attribute o "get" apos) [e,f] [] cpos) (C4 td ty tx):=by
 intro pins s σ H Q I h
 refine wpAny_Call_method m.base m.few m.line PySem.F.plainAttrs_dict qeI PySem.F.type_dict_get (thn (ho pins s σ H _ I h) λu s1 ⟨x,H1,I1,rx,a,ex,d,q1⟩=>?_)
 subst ex
 obtain rfl:u=Value.ref a:=rx
 obtain⟨t1,t2,_⟩:=CV I1 d
 refine⟨t1,t2,?_⟩
 rw[m.trees]
 refine qhe rfl (qhF (qdq (thn (he pins s1 σ H1 _ I1 q1) λiv s2 ⟨y,H2,I2,ry,q2⟩=>
  qdq (thn (hf pins s2 σ H2 _ I2 q2) λfv s3 ⟨z,H3,I3,rz,ov,g,q3⟩=>qey ?_))))
 exact C2 hu I3 g ry rz λw' s4 I4 rw'=>⟨_,H3,I4,rw',q3⟩
end
section
variable {X:Cx}{pins:List (Addr×Obj)}{σ:St}{H:Hp}{s:qaj}{a:Addr}{kvs:List (Key×V)}{A:qbc}{E:Value->qaj->Prop}
end
section
variable {X:Cx}{pins:List (Addr×Obj)}{σ:St}{H:Hp}{s:qaj}{a:Addr}{y:V}{u:Value}{A:qbc}{E:Value->qaj->Prop}
end
section
variable {prog:qaX}{w:World}{A:qbc}{E:Value->qaj->Prop}{s:qaj}{κ:Type} [DecidableEq κ] {knd:KeyKind prog w κ}{a:Addr}{kvs:List (κ×Value)}
end
section
variable {X:Cx}{pins:List (Addr×Obj)}{σ:St}{H:Hp}{s:qaj}{a:Addr}{kvs:List (Key×V)}{k:Key}{u r:Value}{A:qbc}{E:Value->qaj->Prop}{z:V}
end
section
variable {K:qai}{X:Cx}{pos:Pos}{e a b o f:Expr}{fe fa fb fo ff:Ef}
end
section
variable {K:qai}{X:Cx}
end
def lw (h:Heap) (d:Addr) (es:Array qex) (ep:Nat):Prop:=∃ o,h.get? d=some o/\o.ExactDict/\o.data=.dict es ep
theorem lw.at' {h h':Heap}{d:Addr}{es:Array qex}{ep:Nat} (x:lw h d es ep) (e:∀ o,h.get? d=some o->h'.get? d=some o):lw h' d es ep:=let ⟨o,ho,r⟩:=x;⟨o,e o ho,r⟩
theorem lw.type {s:qaj}{d:Addr}{es:Array qex}{ep:Nat} (x:lw s.heap d es ep):s.TypeIs (.ref d) "dict":=let ⟨o,ho,hc,_⟩:=x;⟨o,ho,hc.1⟩
theorem lw.lt {h:Heap}{d:Addr}{es:Array qex}{ep:Nat} (x:lw h d es ep):d<h.objs.size:=let ⟨o,ho,_⟩:=x;qao ho
section
variable {prog:qaX}{w:World}{A:qbc}{E:Value->qaj->Prop}{s:qaj}{d it:Addr}{es:Array qex}{i ep:Nat}
theorem zZ {Q:Value->qaj->Prop} (hd:(d==qcD)=false) (hm:lw s.heap d es ep)
  (hQ:Q (.ref s.heap.objs.size) { s with heap:=s.heap.push { cls:=.type "dict_keyiterator",data:=.fields #[.ref d,.int 0 0,.int es.size 0,.int ep 0] } }) :
  wpAny (model prog w) A (qhW (.ref d)) Q E s:=by
 have hT:=hm.type
 obtain⟨o,ho,hc,hdat⟩:=id hm
 refine qgw hT qgI (qbn qgI hT PySem.F.entry_dict_iter ?_ (PySem.F.args_dict_iter_1 _))
 unfold qcB.«dict.__iter__»
 refine qaa ?_
 unfold qkU
 refine qaa (wpAny_notOrdered_dict hT ?_)
 show wpAny _ _ (pure (Value.ref d)) _ _ s
 refine qab ?_
 show wpAny _ _ (qgd d >>= _) _ _ s
 unfold qgd
 rw[if_neg (by rw[hd];exact qaq)]
 refine qaa (qab ?_)
 refine qaa (qgy ho hdat ?_)
 refine qaa (qhh ho hdat ?_)
 refine qaa (qbi (qab ⟨_,rfl,"dict_keyiterator",_,⟨_,qaA _ rfl,rfl⟩,qbX.lookup,?_⟩))
 simpa [qe8] using hQ
theorem yp {Q:Option Value->qaj->Prop} (hit:s.heap.IsKeyIter it d i es.size ep) (hm:lw s.heap d es ep) (hlt':i<es.size)
  (hQ:∀ h',h'.IsKeyIter it d (i+1) es.size ep->qbq it s.heap h'->Q (some es[i].key) { s with heap:=h' }) :
  wpAny (model prog w) A (qeC (.ref it)) Q E s:=by
 obtain⟨o,ho,hc,hd⟩:=id hit
 obtain⟨od,hod,hcd,hdd⟩:=id hm
 unfold qeC
 refine qaa (qeY (qbO (name:=qbH "__next__") hit.typeIs qbX
  (qbn qbX hit.typeIs qe0 ?_ (qeR _))))
 refine qaa (qab ?_)
 refine qaa ?_
 refine qaa ?_
 first|refine qaa (qc0 hit.typeIs (qab ?_))|refine qaa (qdA hit.typeIs (qab ?_))
 refine qaa (qk9 ho hd ?_)
 have hown:qeJ "dict_keyiterator" = false:=by decide
 simp only[hown,qax,if_false]
 show wpAny _ _ (if (Value.ref d==Value.none)=true then _ else _) _ _ s
 rw[if_neg (show ¬ ((Value.ref d==Value.none)=true) from qaq)]
 refine qaa (qab ?_)
 refine qaa (qgy hod hdd ?_)
 rw[if_neg (by simp)]
 refine qaa (qab ?_)
 refine qaa (qhh hod hdd ?_)
 rw[if_neg (by simp)]
 refine qab ?_
 simp only[show ¬ ((i:Int)<0) from by lia,if_false,qaW,qaJ hlt']
 refine qaa ?_
 first|refine qaa (qc0 hit.typeIs (qab ?_))|refine qaa (qdA hit.typeIs (qab ?_))
 refine qaa (qiE hit.typeIs ?_)
 show wpAny _ _ (setField (.ref it) 1 (qe8 ((i:Int)+1)) >>= _) _ _ s
 refine qaa (qdp ho hd (by simp) ?_)
 have hit':(s.heap.update it (qhq (·.setIfInBounds 1 (qe8 ((i:Int)+1))))).IsKeyIter it d (i+1) es.size ep:=
  ⟨_,qbY _ ho (qdP (qcf hd _)),(qeA ..).trans hc,by rw[qcf hd];simp[qe8]⟩
 refine qaa (qbj ?_)
 refine qaa (qiE (s:={ s with heap:=s.heap.update it (qhq (·.setIfInBounds 1 (qe8 ((i:Int)+1)))) }) hit'.typeIs ?_)
 show wpAny _ _ (pure es[i].key) _ _ _
 exact qab (qab ⟨_,rfl,qab (hQ _ hit' (qbl ..))⟩)
theorem Cs {Q:Option Value->qaj->Prop} (hh:A.handled=none) (hit:s.heap.IsKeyIter it d es.size es.size ep) (hm:lw s.heap d es ep)
  (hQ:∀ h',qh6 it s.heap h'->Q none { s with heap:=h' }):wpAny (model prog w) A (qeC (.ref it)) Q E s:=by
 obtain⟨o,ho,hc,hd⟩:=id hit
 obtain⟨od,hod,hcd,hdd⟩:=id hm
 unfold qeC
 refine qaa (qeY (qbO (name:=qbH "__next__") hit.typeIs qbX
  (qbn qbX hit.typeIs qe0 ?_ (qeR _))))
 refine qaa (qab ?_)
 refine qaa ?_
 refine qaa ?_
 first|refine qaa (qc0 hit.typeIs (qab ?_))|refine qaa (qdA hit.typeIs (qab ?_))
 refine qaa (qk9 ho hd ?_)
 have hown:qeJ "dict_keyiterator" = false:=by decide
 simp only[hown,qax,if_false]
 show wpAny _ _ (if (Value.ref d==Value.none)=true then _ else _) _ _ s
 rw[if_neg (show ¬ ((Value.ref d==Value.none)=true) from qaq)]
 refine qaa (qab ?_)
 refine qaa (qgy hod hdd ?_)
 rw[if_neg (by simp)]
 refine qaa (qab ?_)
 refine qaa (qhh hod hdd ?_)
 rw[if_neg (by simp)]
 refine qab ?_
 have hge:es.size<=es.size:=qan _
 simp only[show ¬ ((es.size:Int)<0) from by lia,if_false,qaW,qbP hge]
 refine qaa ?_
 first|refine qaa (qc0 hit.typeIs (qab ?_))|refine qaa (qdA hit.typeIs (qab ?_))
 show wpAny _ _ (setField (.ref it) 0 .none >>= _) _ _ s
 refine qaa (qdp ho hd (by simp) ?_)
 show wpAny _ _ (qjl (.type "StopIteration") [] >>= _) _ _ _
 refine qaa ?_
 simp only[qjl,newTuple]
 refine qaa (qbi ?_ (by size_fits))
 refine qaa (m:=qdX _ _) (qeX (a:=Value.none) (by first|rfl|(simp only[qdX];rfl)) ?_)
 refine qbi ?_ (by size_fits)
 simp only[raiseNew]
 refine qaa (qia ?_)
 rw[show A.in1.handled=none from hh]
 refine qaa (qab (qi2 ?_))
 refine qaa (qd4 (T:="StopIteration") (b:=true) ⟨_,qaA _ rfl,rfl⟩ qlf ?_)
 exact qab (hQ _ (((qbl ..).extBut.push _).push _))
theorem xR (hh:A.handled=none) (I d:Addr) (hne:d≠I) (es:Array qex) (ep:Nat) :
  Walks prog w A I [I,d] [I] es.size (λi v=>∃ e,es[i]?=some e/\v=e.key) (λi h=>h.IsKeyIter I d i es.size ep/\lw h d es ep) where
 sub:=λb hb=>by simp at hb;simp[hb]
 frame:=λ_ _ _ st hk=>⟨st.1.at λo e=>hk I (by simp) o e,st.2.at' λo e=>hk d (by simp) o e⟩
 item:=λi s Q E hi st hQ=>by
  refine yp st.1 st.2 hi λh' hit' hs'=>?_
  exact hQ _ h' s.toks ⟨es[i],by simp[hi],rfl⟩ ⟨hit',st.2.at' λo q=>hs'.extBut d o hne q⟩ λb o hb q=>hs'.extBut b o (λh=>hb (by simp[h])) q
 done:=λs Q E st hQ=>Cs hh st.1 st.2 λh' he'=>hQ h' s.toks λb o hb e=>he' b o (λh=>hb (by simp[h])) e
 self:=λ_ _ _ _ st hQ=>wpAny_pyIter_keyiter st.1 hQ
theorem BU (prog:qaX) (w:World) (d:Addr) (es:Array qex) (ep:Nat) (lo:(d==qcD)=false):qiz prog w "dict" d d es.size (λi v=>∃ e,es[i]?=some e/\v=e.key) (λh=>lw h d es ep) where
 type:=λs S=>S.type
 there:=λh S=>⟨S.lt,S.lt⟩
 keep:=λh h' S hk=>S.at' λo e=>hk d (.inl rfl) o e
 notList:=by decide
 notTuple:=by decide
 hint:=λA E s Q S h=>PySem.W.kdl_hint_dict S.type h
 iter:=λA s hh S=>⟨_,_,λE Q h=>zZ lo S h,xR hh s.heap.objs.size d (qat S.lt) es ep,
  ⟨⟨_,qaA _ rfl,rfl,rfl⟩,S.at' λo e=>qag _ e⟩⟩
end
section
variable {prog:qaX}{w:World}{A:qbc}{E:Value->qaj->Prop}{s:qaj}{d:Addr}{es:Array qex}{ep:Nat}
theorem uA {Q:List Value->qaj->Prop} (lo:(d==qcD)=false) (S:lw s.heap d es ep) (hh:A.handled=none) (hn:es.size<=qaS)
  (h:∀ h' tk,(∀ b o,s.heap.get? b=some o->h'.get? b=some o)->s.heap.objs.size<h'.objs.size->Q (es.toList.map (·.key)) { s with heap:=h',toks:=tk }) :
  wpAny (model prog w) A (qk5 (.ref d)) Q E s:=by
 have hlt:d<s.heap.objs.size:=S.lt
 unfold qk5
 refine qaa (qhG (qb7 qiX ?_))
 show wpAny _ _ (do again (.builtin "list.__iadd__" ⟨[<-qk2 [],.ref d],[]⟩)) _ _ s
 refine qaa (qee (qab ⟨qfL _ (by decide +kernel),qb7 qj3 ?_⟩))
 show wpAny _ _ (qfr (.ref s.heap.objs.size) (.ref d) (.ref s.heap.objs.size)) _ _ { s with heap:=s.heap.push (qct "list" #[] 0) }
 refine qhx (A:=A) (R:=λr s'=>match r with
   | .ok (.ret v)=>wpAny (model prog w) A (match v with
     |.ref a=>do
      let o <-load a
      match o.data with
      |.seq xs _=>pure xs.toList
      |_=>qeZ "internal:collect"
     |_=>qeZ "internal:collect") Q E s'
   |.ok _=>False
   |.error e=>E e s') (s:={ s with heap:=s.heap.push (qct "list" #[] 0) }) (BU prog w d es ep lo) hh (S.at' λo e=>qag _ e) s.heap.objs.size (qbA hlt) (qbA hlt) (.ref s.heap.objs.size) 0 (qaA _ rfl) (λh' tk acc c hk hS hI=>?_) hn
 show wpAny (model prog w) A (do
   let o <-load s.heap.objs.size
   match o.data with
   |.seq xs _=>pure xs.toList
   |_=>qeZ "internal:collect") Q E { s with heap:=h',toks:=tk }
 refine qaa (qgx hS ?_)
 show wpAny _ _ (pure acc.toList) Q E _
 have e:acc.toList=es.toList.map (·.key):=by
  apply qiD
  intro i
  rw[qaZ,qcc,qcc]
  by_cases hi:i<acc.size
  ·obtain⟨e,he,hv⟩:=hI.2 i acc[i] (qaJ hi)
   rw[he,qaJ hi,hv];rfl
  ·rw[qbP (by lia),qbP (by rw[<-hI.1];lia)];rfl
 rw[e]
 refine qab (h h' tk (λb o q=>?_) (qao hS))
 exact hk b o (qat (qao q)) (qag _ q)
theorem vO {Q:Value->qaj->Prop}{vs:List Value} (lo:(d==qcD)=false) (S:lw s.heap d es ep) (hh:A.in1.handled=none) (hvs:es.toList.map (·.key)=vs) (h64:vs.length<=64) (hu:A.in1.in1.units<cLine)
  (t:∀ v∈vs,∃ l,TuI s.heap v l)
  (h:∀ (h':Heap) (tk:Nat) (p:Addr) (ep:Nat) (out:List Value),(∀ b o,s.heap.get? b=some o->h'.get? b=some o)->s.heap.objs.size<=p->h'.get? p=some (qct "list" out.toArray ep)->out.Perm vs->out.Pairwise (λx y=>OI.kle (tuI s.heap x) (tuI s.heap y))->Q (.ref p) { s with heap:=h',toks:=tk }) :
  wpAny (model prog w) A (call (.builtin "sorted") [.ref d]) Q E s:=by
 refine qej qi7 qiH qiI (qiL _) ?_
 unfold qcB.«sorted»
 refine qaa (m:=qjI "sorted" 1 1 _) (qab ?_)
 have hsz:es.size<=qaS:=by
  have:=congrArg qgt hvs
  rw[qae,qa5]at this
  rw[qb5];lia
 refine qaa (uA lo S hh hsz λh1 tk hk hlt=>?_)
 rw[hvs]
 refine qaa (qee ?_ (by rw[qb5];lia))
 have hoL:(h1.push (qct "list" vs.toArray 0)).get? h1.objs.size=some (qct "list" vs.toArray 0):=qaA _ rfl
 show wpAny _ _ _ _ _ { s with heap:=h1.push (qct "list" vs.toArray 0),toks:=tk }
 refine qaa (qbj (qbn qhI ⟨_,hoL,rfl⟩ qhl (ml (O:=OI) (rk:=λp=>tuI s.heap p.1) (S:=λp=>∃ l,TuI s.heap p.1 l) (s:={ s with heap:=h1.push (qct "list" vs.toArray 0),toks:=tk }) hoL h64 (λh' hk'=>?_) (λv hv=>t v hv) λout a1 a2=>⟨_,rfl,?_⟩) (qhJ _)))
 ·have hk2:∀ b o,s.heap.get? b=some o->h'.get? b=some o:=λb o q=>hk' b o (qat (qao (hk b o q))) (qag _ (hk b o q))
  obtain⟨κ,k1,k2⟩:=sX (prog:=prog) (w:=w) (s:={ s with heap:=h',toks:=tk }) (vs:=vs) (λv hv=>let ⟨l,tl⟩:=t v hv;⟨l,tl.fit hk2⟩) hu
  refine⟨κ,k1,λx y ⟨l,hx⟩ ⟨m,hy⟩ Q E hq=>k2 x y ⟨l,hx.fit hk2⟩ ⟨m,hy.fit hk2⟩ Q E ?_⟩
  have hx':=hx.fit hk2
  have hy':=hy.fit hk2
  have hq':Q (bY (tuI s.heap x.1) (tuI s.heap y.1)) { s with heap:=h',toks:=tk }:=hq
  show Q (bY (tuI h' x.1) (tuI h' y.1)) { s with heap:=h',toks:=tk }
  rw[hx'.is,hy'.is]
  rw[hx.is,hy.is]at hq'
  exact hq'
 ·refine qab ⟨_,rfl,?_⟩
  obtain⟨ep',he⟩:=sortedHeap_at (out:=out.toArray) hoL
  refine h _ tk h1.objs.size ep' out (λb o q=>?_) (qdQ hlt) he a1 (a2.imp λ{x y} q=>q)
  have q1:=hk b o q
  have hb:b<h1.objs.size:=qao q1
  show (qhT (h1.push (qct "list" vs.toArray 0)) h1.objs.size vs out.toArray).get? b=some o
  rw[qlb (qat hb) (by rw[qhU];exact qa0 hb),qda _ _ _ (qat hb)]
  exact q1
end
def mgt (st:Sto) (n:Nat):Option (List (List Int×D)):=match st[n]? with
 |some (.m kvs)=>some kvs
 |_=>none
def vM (kvs:List (List Int×D)) (k:List Int):Option D:=(kvs.find? λp=>decide (p.1=k)).map (·.2)
def kA (kvs:List (List Int×D)) (k:List Int) (d:D):List (List Int×D):=if (kvs.any λp=>decide (p.1=k))=true then kvs.map λp=>if p.1=k then (p.1,d) else p else kvs++[(k,d)]
def yO:Ef
 |_,st=>some (.h st.length,st++[.m []])
def ux (o k v:Ef):Ef
 |env,st=>(o env st).bind λx=>(k env x.2).bind λy=>(v env y.2).bind λz=>match x.1,y.1,z.1 with
 |.h n,.d (.tup ds),.d d=>(mgt x.2 n).bind λ_=>(mgt z.2 n).bind λkvs=>(bf ds).map λl=>(.d ((vM kvs l).getD d),z.2)
 |_,_,_=>none
def yc (o k:Ef):Ef
 |env,st=>(o env st).bind λx=>(k env x.2).bind λy=>match x.1,y.1 with
 |.h n,.d (.tup ds)=>(mgt y.2 n).bind λkvs=>(bf ds).bind λl=>(vM kvs l).map λd=>(.d d,y.2)
 |_,_=>none
def qP (o k v:Ef):Sf
 |env,st=>(v env st).bind λz=>(o env z.2).bind λx=>(k env x.2).bind λy=>match x.1,y.1,z.1 with
 |.h n,.d (.tup ds),.d d=>(mgt y.2 n).bind λkvs=>(bf ds).bind λl=>if kvs.length<1000 then some (.nx env (y.2.set n (.m (kA kvs l d)))) else none
 |_,_,_=>none
def md (a:Ef):Lf
 |env,st=>(a env st).bind λx=>match x.1 with
 |.h n=>(mgt x.2 n).bind λkvs=>if kvs.length<=64 then some ((bh (kvs.map (·.1))).map aj,x.2) else none
 |_=>none
section
variable {K:qai}{X:Cx}{pos:Pos}{e a b o f:Expr}{fe fa fb fo ff:Ef}
theorem zE {st:Sto}{n:Nat}{kvs:List (List Int×D)} (h:mgt st n=some kvs):st[n]?=some (.m kvs):=by
 unfold mgt at h
 split at h
 ·rename_i q;cases h;exact q
 ·cases h
theorem Sr.atm {H:Hp}{φ:List Addr}{st:Sto} (S:Sr K H φ st) {n:Nat}{p:Addr}{kvs:List (List Int×D)} (e1:φ[n]?=some p) (e2:mgt st n=some kvs):∃ vs,H p=some (.dT vs)/\Rkv K H φ kvs vs:=S.at_ n p _ e1 (zE e2)
theorem Rkv.length {H:Hp}{φ:List Addr}:∀ {ds:List (List Int×D)}{vs:List (List Key×V)},Rkv K H φ ds vs->ds.length=vs.length
 |[],_,h=>by cases h;rfl
 |(k,d)::ds,_,h=>by
  obtain⟨v,r,rfl,h1,h2⟩:=h
  rw[qas,qas,Rkv.length h2]
theorem lm:∀ {a b:List Int},ii a=ii b->a=b
 |[],[],_=>rfl
 |[],_::_,h=>by cases h
 |_::_,[],h=>by cases h
 |x::a,y::b,h=>by
  have h':(Sum.inl x:Key)::ii a=Sum.inl y::ii b:=h
  injection h' with h1 h2
  injection h1 with h1
  rw[h1,lm h2]
theorem wC (l:List Int):(ii l).map kV=l.map V.int:=by
 unfold ii
 rw[qaL];rfl
theorem Rkv.val {H:Hp}{φ:List Addr}{i:List Int}:∀ {ds:List (List Int×D)}{vs:List (List Key×V)},Rkv K H φ ds vs->(∀ d,vM ds i=some d->∃ v,i9 vs (ii i)=some v/\Rl K H φ d v)/\(vM ds i=none->i9 vs (ii i)=none)
 |[],_,h=>by cases h;exact⟨(λd e=>nomatch e),λ_=>rfl⟩
 |(k,d)::ds,_,h=>by
  obtain⟨v,r,rfl,h1,h2⟩:=h
  have ih:=Rkv.val (i:=i) h2
  by_cases e:k=i
  ·subst e
   have e1:vM ((k,d)::ds) k=some d:=by unfold vM;rw[qeL (by simp)];rfl
   have e2:i9 ((ii k,v)::r) (ii k)=some v:=by unfold i9;rw[qeL (by simp)];rfl
   rw[e1,e2]
   exact⟨λd' q=>⟨v,rfl,by cases q;exact h1⟩,λq=>nomatch q⟩
  ·have e1:vM ((k,d)::ds) i=vM ds i:=by unfold vM;rw[qeM (by simpa using e)]
   have e2:i9 ((ii k,v)::r) (ii i)=i9 r (ii i):=by unfold i9;rw[qeM (by simpa using λz=>e (lm z))]
   rw[e1,e2]
   exact ih
theorem Rkv.any {H:Hp}{φ:List Addr}{i:List Int}:∀ {ds:List (List Int×D)}{vs:List (List Key×V)},Rkv K H φ ds vs->(vs.any λp=>decide (p.1=ii i))=ds.any λp=>decide (p.1=i)
 |[],_,h=>by cases h;rfl
 |(k,d)::ds,_,h=>by
  obtain⟨v,r,rfl,h1,h2⟩:=h
  rw[qcj,qcj,Rkv.any h2]
  congr 1
  exact decide_eq_decide.mpr ⟨λz=>lm z,λz=>congrArg ii z⟩
theorem Rkv.repl {H:Hp}{φ:List Addr}{i:List Int}{x:D}{y:V} (hx:Rl K H φ x y):∀ {ds:List (List Int×D)}{vs:List (List Key×V)},Rkv K H φ ds vs->Rkv K H φ (ds.map λp=>if p.1=i then (p.1,x) else p) (vs.map λp=>if p.1=ii i then (p.1,y) else p)
 |[],_,h=>by cases h;exact rfl
 |(k,d)::ds,_,h=>by
  obtain⟨v,r,rfl,h1,h2⟩:=h
  rw[qal,qal]
  by_cases e:k=i
  ·rw[if_pos e,if_pos (by rw[e])]
   exact⟨y,_,rfl,hx,Rkv.repl hx h2⟩
  ·rw[if_neg e,if_neg (λz=>e (lm z))]
   exact⟨v,_,rfl,h1,Rkv.repl hx h2⟩
theorem Rkv.snoc {H:Hp}{φ:List Addr}:∀ {ds:List (List Int×D)}{vs:List (List Key×V)}{k:List Int}{d:D}{v:V},Rkv K H φ ds vs->Rl K H φ d v->Rkv K H φ (ds++[(k,d)]) (vs++[(ii k,v)])
 |[],_,_,_,_,h,hd=>by cases h;exact⟨_,[],rfl,hd,rfl⟩
 |(k,d)::ds,_,_,_,_,h,hd=>by
  obtain⟨v,r,rfl,h1,h2⟩:=h
  exact⟨v,_,rfl,h1,Rkv.snoc h2 hd⟩
theorem Rkv.put {H:Hp}{φ:List Addr}{ds:List (List Int×D)}{vs:List (List Key×V)}{k:List Int}{d:D}{v:V} (h:Rkv K H φ ds vs) (hd:Rl K H φ d v):Rkv K H φ (kA ds k d) (kT vs (ii k) v):=by
 unfold kA kT
 rw[h.any]
 split
 ·exact h.repl hd
 ·exact h.snoc hd
theorem rm {H:Hp}{φ:List Addr}{ds:List D}{l:List Int}{v:V} (hl:bf ds=some l) (r:Rl K H φ (.tup ds) v):∃ p,v=.ref p/\H p=some (.tup ((ii l).map kV)):=by
 obtain⟨p,vs,rfl,h1,h2⟩:=r
 cases cL hl
 cases h2.ints
 rw[wC]
 exact⟨p,rfl,h1⟩
theorem wI:IE K X (.Dict [] [] pos) yO:=by
 refine⟨λenv st r hr=>?_⟩
 cases hr
 refine zY.imp ?_
 rintro σ H Q ⟨φ,hE,hS,q⟩
 exact λp hp=>q _ _ (φ++[p]) (Fw.moreO hp) (hS.moreC hp ⟨[],bb,rfl⟩) ⟨p,by rw[<-hS.len];simp,rfl⟩
theorem BG {k:Nat}{apos:Pos} (hr0:cZ k X.A) (ho:IE K X o fo) (he:IE K X e fe) (hf:IE K X f ff) (m:M2 X o "get" apos e f pos):IE K X (.Call (.Attribute o "get" apos) [e,f] [] pos) (ux fo fe ff):=by
 refine⟨λenv st r hr=>?_⟩
 simp only[ux,qac]at hr
 obtain⟨⟨x,s1⟩,hx,⟨y,s2⟩,hy,⟨z,s3⟩,hz,hr⟩:=hr
 dsimp only at hr
 split at hr
 next n ds d=>
  simp only[qac,qaf]at hr
  obtain⟨kv1,hk1,kvs,hk,l,hl,rfl⟩:=hr
  refine (Ae (yQ hr0) (ho.run _ _ _ hx) (he.run _ _ _ hy) (hf.run _ _ _ hz) m).imp ?_
  rintro σ H Q ⟨φ,hE,hS,q⟩
  refine⟨φ,hE,hS,λv H1 φ1 f1 S1 w1=>?_⟩
  obtain⟨p,ep,rfl⟩:=id w1
  obtain⟨vs1,hv1,_⟩:=S1.atm ep hk1
  refine⟨p,rfl,.inr ⟨vs1,.inl hv1⟩,φ1,hE.fw hS f1,S1,λu H2 φ2 f2 S2 w2=>⟨φ2,(hE.fw hS f1).fw S1 f2,S2,λz' H3 φ3 f3 S3 w3=>?_⟩⟩
  have ep3:=f3.get (f2.get ep)
  obtain⟨vs,hv,rl⟩:=S3.atm ep3 hk
  obtain⟨b,rfl,hb⟩:=rm hl (Rl.fw S2 f3 w2)
  refine⟨_,sg.t hv hb,?_⟩
  cases hc:vM kvs l with
  |none=>
   rw[rl.val.2 hc]
   exact q _ H3 φ3 ((f1.trans f2).trans f3) S3 (by rw[hc];exact w3)
  |some d'=>
   obtain⟨v2,e2,r2⟩:=rl.val.1 d' hc
   rw[e2]
   exact q _ H3 φ3 ((f1.trans f2).trans f3) S3 (by rw[hc];exact r2)
 ·cases hr
theorem AE {k:Nat} (hr0:cZ k X.A) (ha:IE K X a fa) (hb:IE K X b fb) (hs:Ez b):IE K X (.Subscript a b pos) (yc fa fb):=by
 refine⟨λenv st r hr=>?_⟩
 simp only[yc,qac]at hr
 obtain⟨⟨x,s1⟩,hx,⟨y,s2⟩,hy,hr⟩:=hr
 dsimp only at hr
 split at hr
 next n ds=>
  simp only[qac,qaf]at hr
  obtain⟨kvs,hk,l,hl,d,hd,rfl⟩:=hr
  refine (Bd (yQ hr0) (ha.run _ _ _ hx) (hb.run _ _ _ hy) hs).imp ?_
  rintro σ H Q ⟨φ,hE,hS,q⟩
  refine⟨φ,hE,hS,λv H1 φ1 f1 S1 w1=>⟨φ1,hE.fw hS f1,S1,λu H2 φ2 f2 S2 w2=>?_⟩⟩
  obtain⟨p,ep,rfl⟩:=w1.fw S1 f2
  obtain⟨vs,hv,rl⟩:=S2.atm ep hk
  obtain⟨v2,e2,r2⟩:=rl.val.1 d hd
  obtain⟨b',rfl,hb'⟩:=rm hl w2
  refine⟨p,v2,rfl,?_,q _ H2 φ2 (f1.trans f2) S2 r2⟩
  rw[<-e2]
  exact sg.t hv hb'
 ·cases hr
theorem wJ {k:Nat}{tpos:Pos} (hr0:cZ k X.A) (ho:IE K X a fa) (hi:IE K X b fb) (hv:IE K X e fe) (hs:qeO e (some (.Subscript a b tpos)) pos.line X.env=pure false:=by rfl) :
  IS K X (.Assign [.Subscript a b tpos] e pos) (qP fa fb fe):=by
 refine⟨λenv st r hr=>?_⟩
 simp only[qP,qac]at hr
 obtain⟨⟨z,s1⟩,hz,⟨x,s2⟩,hx,⟨y,s3⟩,hy,hr⟩:=hr
 dsimp only at hr
 split at hr
 next n ds d=>
  simp only[qac]at hr
  obtain⟨kvs,hk,l,hl,hr⟩:=hr
  split at hr
  ·rename_i hlen
   cases hr
   refine (Bm (yQ hr0) (ho.run _ _ _ hx) (hi.run _ _ _ hy) (hv.run _ _ _ hz) hs).imp ?_
   rintro D σ H ⟨φ,hE,hS,q⟩
   refine⟨φ,hE,hS,λv H1 φ1 f1 S1 w1=>⟨φ1,hE.fw hS f1,S1,λu H2 φ2 f2 S2 w2=>⟨φ2,(hE.fw hS f1).fw S1 f2,S2,λt H3 φ3 f3 S3 w3=>?_⟩⟩⟩
   obtain⟨p,ep,rfl⟩:=w2.fw S2 f3
   obtain⟨vs,hp,rl⟩:=S3.atm ep hk
   obtain⟨b',rfl,hb'⟩:=rm hl w3
   have w1':=Rl.fw S2 f3 (Rl.fw S1 f2 w1)
   obtain⟨f4,S4⟩:=S3.putC (o:=.dT (kT vs (ii l) v)) (c:=.m (kA kvs l d)) ep λf=>⟨_,bb,(rl.put w1').fw S3 f⟩
   refine⟨p,_,rfl,z7.t hp hb' (by rw[<-rl.length];exact qaP hlen (by rw[qb5];decide)),?_⟩
   exact q _ _ φ3 (((f1.trans f2).trans f3).trans f4) (((((hE.fw hS f1).fw S1 f2).fw S2 f3)).fw S3 f4) S4
  ·cases hr
 ·cases hr
theorem wc {H:Hp}{φ:List Addr}:∀ {kvs:List (List Int×D)}{vs:List (List Key×V)}{xs:List (List Key×Addr×Value)},Rkv K H φ kvs vs->KT H vs xs->
  Rls K H φ ((kvs.map (·.1)).map aj) (xs.map λx=>V.ref x.2.1)/\aQ (xs.map λx=>V.ref x.2.1) (xs.map λx=>Value.ref x.2.1)
 |[],_,_,h,t=>by cases h;cases t;exact⟨rfl,.nil⟩
 |(k,d)::kvs,_,_,h,t=>by
  obtain⟨v,r,rfl,h1,h2⟩:=h
  cases t with
  |cons q t=>
   rename_i x xs
   obtain⟨i1,i2⟩:=wc h2 t
   have e:H x.2.1=some (.tup (k.map V.int)):=by rw[<-wC];exact q.2.1
   exact⟨⟨_,_,rfl,⟨x.2.1,k.map V.int,rfl,e,Rls.of_ints k⟩,i1⟩,.cons rfl i2⟩
theorem Au {k:Nat}{p:Pos} (hr0:cZ k X.A) (hg:Gl X "sorted") (hm:X.mg "sorted" = none) (ha:IE K X a fa) (hc:X.calm=true:=by rfl) (hs:aU a=true:=by rfl) (hK:X.K=K:=by rfl):IL K X (.Call (.Name "sorted" p) [a] [] pos) (md fa):=by
 subst hK
 refine⟨λenv st r hr=>?_⟩
 simp only[md,qac]at hr
 obtain⟨⟨x,s1⟩,hx,hr⟩:=hr
 match x,hr with
 |.h n,hr=>
  simp only[qac]at hr
  obtain⟨kvs,hk,hr⟩:=hr
  split at hr
  ·rename_i hl
   cases hr
   have hA:=(aa (K:=X.K) (X:=X) ha ag hs).run env st ([.h n],s1) (by simp only[ab,ak,hx,qad,qaB])
   have hC:cx X (.builtin "sorted") (λxs H Q=>∃ φ q,Sr X.K H φ s1/\φ[n]?=some q/\xs=[.ref q]/\∀ l us,H l=none->Rls X.K H φ ((bh (kvs.map (·.1))).map aj) us->Q (.ref l) (upd H l (.lst us))):=by
    intro pins s σ H xs us Q I rv q
    obtain⟨φ,ad,S,ead,rfl,q⟩:=q
    obtain⟨u,rfl,ru⟩:=lv rv
    cases ru
    obtain⟨vs,hv,rl⟩:=S.atm ead hk
    obtain⟨z',hd,xs,rel,o,es,ep,g1,g2,g3,g4,g5,g6⟩:=Cw I.hok hv
    obtain⟨b1,b2⟩:=wc rl rel
    have hlen:xs.length<=64:=by
     have e1:=rel.length
     have e2:=rl.length
     lia
    have hkeys:es.toList.map (·.key)=xs.map λx=>Value.ref x.2.1:=by rw[g4,qaL];rfl
    obtain⟨m1,m2⟩:=o8 I b1 b2
    have hun:X.A.in1.in1.units<cLine:=by
     have:=hr0.un
     show X.A.units+1+1<cLine
     lia
    refine vO hd ⟨o,g1,g2,g3⟩ (I.ok.hd hc) hkeys (by rw[qae];exact hlen) hun (λv hv=>⟨_,(m2 v hv).1⟩) λh' tk p ep' out hkeep hp he a1 a2=>?_
    have hn:H p=none:=I.hok.fresh hp
    have ho:=λu hu=>m2 u (a1.mem_iff.mp hu)
    obtain⟨c1,c2⟩:=nY (K:=X.K) (H:=H) (φ:=φ) ho
    have hpm:(out.map (tuI s.heap)).Perm (kvs.map (·.1)):=by
     have:=a1.map (tuI s.heap)
     rw[m1]at this;exact this
    have hsrt:(out.map (tuI s.heap)).Pairwise leL:=by
     rw[qcm]
     exact a2.imp λ{x y} q=>q
    have e:out.map (tuI s.heap)=bh (kvs.map (·.1)):=fQ (hpm.trans (aZ _).symm) hsrt (cJ _)
    have e2:(out.map λu=>aj (tuI s.heap u))=(bh (kvs.map (·.1))).map aj:=by rw[<-e,qaL];rfl
    rw[e2]at c1
    have hlay:Inv X pins σ (upd H p (.lst (out.map toV))) { s with heap:=h',toks:=tk }:=by
     refine I.laid (t':=tk) (a:=p) (o:=.lst (out.map toV)) hkeep hp ⟨?_,out,ep',c2,by simpa [qct] using he⟩
     rw[qae,a1.length_eq,qae];exact jX (by lia)
    exact⟨.ref p,_,hlay,rfl,q p _ hn c1⟩
   refine (oa hC hg hm qc6 hA (by decide) (by decide) (bE hs) (dr (es:=[]) rfl)).imp ?_
   rintro σ H Q ⟨φ,hE,hS,q⟩
   refine⟨φ,hE,hS,λvs H1 φ1 f1 S1 w1=>?_⟩
   obtain⟨v,r,rfl,⟨ad,ead,rfl⟩,rfl⟩:=w1
   exact⟨φ1,ad,S1,ead,rfl,λl us hl' hr'=>q l _ H1 φ1 f1 S1 hl' hr'⟩
  ·cases hr
end
end L2
namespace L2
open PySem PySem.SeqAt MeetsSeq MeetsSeq2 MeetsSeq3
open AutoSeq1 (wpAny_loadPart')
end L2
namespace L2
open PySem PySem.Spec PyProof.Rows
section
variable {K:qai}{X:Cx}{pos:Pos}{a e:Expr}{fa:Ef}{af:Af}
end
section
variable {K:qai}{X:Cx}{pos:Pos}{a e:Expr}{fa:Ef}{af:Af}
end
end L2
namespace L2
open PySem PySem.Spec PyProof.Rows
open AutoSeq1 (wpAny_loadPart')
section
variable {K:qai}{X:Cx}{pos:Pos}{a e:Expr}{es:List Expr}{fa:Ef}{af:Af}
end
theorem rp (l:Addr) (items:Array Value) (n:Nat) (b:Addr) (items2:Array Value) (n2:Nat) (dd:Option Addr) (sl:Array (Option Value)) (hs0:¬(!items.isEmpty&&qcx (items.size+items2.size))=true) (hs1:items.size<=qaS) (hs2:items.size+items2.size<=qaS+1) :
  Meets (qcB.«list.extend» ⟨[.ref l,.ref b],[]⟩) (λ_ R s=>s.heap.get? l=some { cls:=.type "list",dict:=none,data:=.seq items n,slots:=#[] }/\s.heap.get? b=some { cls:=.type "list",dict:=dd,data:=.seq items2 n2,slots:=sl }/\R (.ok (.ret Value.none)) { s with heap:=s.heap.update l (qb2 λx=>x++items2),toks:=s.toks }):=
 .of_wp λprog w A R s h=>by
  obtain⟨hp,g,d,tk,os⟩:=s;obtain⟨hl,hb,h⟩:=h;have f1:=AutoSeq1.idx_int;have f2:=qgo;have f3:=AutoSeq1.sub_list_list;have f4:=AutoSeq1.sub_tuple_list;have f5:=AutoSeq1.sub_list_tuple
  have hz':(items++items2).size<=qaS+1:=by rw[Array.size_append];exact hs2
  wp_walk using (qfs hl rfl (hz:=hs1) (_hz':=hz')),wpAny_loadPart' hl,wpAny_loadPart' hb
  exact⟨_,rfl,h⟩
section
variable {K:qai}{X:Cx}{pos:Pos}{a e:Expr}{es:List Expr}{fa:Ef}{af:Af}
def Fe (X:Cx):V->List V->Hp->VK->Prop:=λx vs H Q=>∃ l b xs zs,x=.ref l/\vs=[.ref b]/\H l=some (.lst xs)/\Rd H b (.lst zs)/\b≠l/\xs.length+zs.length<=qaS/\Q .non (upd H l (.lst (xs++zs)))
theorem A8:MtR X "list.extend" (Fe X):=by
 intro pins s σ H x vs v us Q I rx rv h
 obtain⟨l,b,xs,zs,rfl,rfl,hH,hB,hne,hz,q⟩:=h
 cases rx
 obtain⟨u,rfl,ru⟩:=rv.one
 cases ru
 obtain⟨z,its,n,r,hl,e⟩:=I.lstM hH
 obtain⟨its2,r2,⟨⟨c,dd,dt,sl⟩,n2,e2,hc,hdd,hd⟩,hz2⟩:=I.list (.inl hB)
 replace hc:c=.type "list":=hc
 replace hd:dt=.seq its2.toArray n2:=hd
 subst hc hd
 have hl2:=r2.length
 have hsz:its.toArray.size+its2.toArray.size<=qaS:=by rw[qaz,qaz];lia
 have hlong:¬ (!its.toArray.isEmpty&&qcx (its.toArray.size+its2.toArray.size))=true:=by
  rw[uq hsz,qgV]
  exact qaq
 refine qdh F.slot_list_extend ⟨_,e,rfl⟩ F.entry_list_extend (F.args_list_extend_2 _ _)
  (rp l its.toArray n b its2.toArray n2 dd sl hlong (by rw[qaz];lia) (by lia)) ⟨e,e2,?_⟩
 refine⟨.non,_,I.lset (its':=its++its2) hH e (by simp) (r.append r2) ?_,rfl,q⟩
 rw[qa2]
 lia
def qK (ds:List D):List W->Option (D×List D)
 |[.d (.lst xs)]=>if ds.length+xs.length<=1000000 then some (.non,ds++xs) else none
 |_=>none
theorem BI {apos:Pos} (ho:IE K X a fa) (ha:IA K X (e::es) af) (hbase:qeh a "extend" X.env (eval a X.env)=eval a X.env:=by rfl)
  (hall:(e::es).all aU=true:=by rfl) (hfl30:(e::es).length<30:=by decide) (hline:(apos.endLine==pos.line)=true:=by rfl) (hK:X.K=K:=by rfl) :
  IE K X (.Call (.Attribute a "extend" apos) (e::es) [] pos) (gt qK fa af):=by
 subst hK
 refine vi PySem.F.slot_list_extend PySem.F.type_list_extend A8 (λH φ st n ad ds vs ws us y Q S ea eds hv rl rw hy q=>?_) (λds ws y h=>?_) ho ha hbase hall hfl30 hline rfl
 ·match ws,hy with
  |[.d (.lst xs)],hy=>
   simp only[qK]at hy
   split at hy
   ·rename_i hl
    cases hy
    obtain⟨v,r,rfl,⟨b,zs,rfl,hnb,hq,hz⟩,rfl⟩:=rw
    exact⟨ad,b,vs,zs,rfl,rfl,hv,hq,(λe=>hnb (by rw[e];exact qbu ea)),by rw[<-rl.length,<-hz.length];exact qaH hl mil,q _ _ rfl (rl.append hz) (λb z=>nomatch z)⟩
   ·cases hy
 ·match ws,h with
  |[.d (.lst xs)],h=>
   simp only[qK]at h
   split at h
   ·cases h;rfl
   ·cases h
end
end L2
namespace L2
open PySem PySem.Spec PyProof.Rows
open Classical in
def lcH (n:Nat) (all:List D) (g:Tg) (tt:Tf) (te:Ef) (env:Ev):List D->Sto->Option (List D×Sto)
 |[],st=>if lg st n=some all then some ([],st) else none
 | d::ds,st=>if lg st n=some all then ((fV g (.d d) env).bind λe=>(tt e st).bind λb=>if b.1=true then (te e b.2).bind λx=>(mx [x.1]).bind λys=>(lcH n all g tt te env ds x.2).map λr=>(ys++r.1,r.2)
   else lcH n all g tt te env ds b.2) else none
section
variable {K:qai}{X:Cx}{pos:Pos}{tg:Expr}
def YlH (K:qai) (φ0:List Addr) (H0:Hp) (J:It) (n:Nat) (ds:List D):Prop:=∀ (H:Hp) (φ:List Addr) (st:Sto) (i:Nat),Fw φ0 φ H0 H->Sr K H φ st->lg st n=some ds->
 (∀ d,ds[i]?=some d->J.go i H/\∀ x H',J.yld i H x H'->bH H H'/\Rl K H' φ d x)/\(ds.length=i->J.stop i H)
def GB (K:qai) (env:Ev) (st:Sto) (n:Nat) (ds:List D) (s1:Sto):TI:=λσ H R=>∃ φ,Er K H φ env σ/\Sr K H φ st/\∀ J H' φ',Fw φ φ' H H'->Sr K H' φ' s1->YlH K φ' H' J n ds->R J H'
theorem Ci {e:Expr}{f:Ef}{env:Ev}{st s1:Sto}{n:Nat}{ds:List D} (h:IE K X e f) (hK:X.K=K) (hf:f env st=some (.h n,s1)) (hn:lg s1 n=some ds):PI X tg e (GB K env st n ds s1):=by
 subst hK
 refine (wE (h.run _ _ _ hf)).imp ?_
 rintro σ H R ⟨φ,hE,hS,q⟩
 refine⟨φ,hE,hS,λv H1 φ1 f1 S1 w1=>?_⟩
 obtain⟨a,vs,rfl,hq,hr⟩:=lZ S1 w1 (show lsD s1 (.h n)=some ds from hn)
 refine⟨a,rfl,⟨vs,.inl hq⟩,q _ H1 φ1 f1 S1 λH2 φ2 st2 i f2 S2 hn2=>?_⟩
 obtain⟨a2,vs2,ea,hq2,hr2⟩:=lZ S2 (Rw.fw S1 f2 w1) (show lsD st2 (.h n)=some ds from hn2)
 cases ea
 have hq3:SqL X.K H2 a vs2:=.inl hq2
 refine⟨λd hd=>?_,λhi=>⟨vs2,hq3,by rw[<-hr2.length];exact qdR hi⟩⟩
 obtain⟨v,ev,rv⟩:=hr2.get hd
 refine⟨⟨vs2,v,hq3,ev⟩,λx H' y=>?_⟩
 obtain⟨rfl,y⟩:=y
 have:=y vs2 hq3
 rw[ev]at this
 cases this
 exact⟨bH.refl _,rv⟩
end
open Classical in
def qf (n:Nat) (all:List D) (g:Tg) (body:Sf):List D->Ev->Sto->Option Fl
 |[],env,st=>if lg st n=some all then some (.nx env st) else none
 | d::ds,env,st=>if lg st n=some all then ((fV g (.d d) env).bind λe=>(body e st).bind λr=>match r with
  |.nx e s=>qf n all g body ds e s
  |.ct e s=>qf n all g body ds e s
  |.bk e s=>some (.nx e s)
  |.rt w s=>some (.rt w s)) else none
def ur (fe:Ef) (g:Tg) (body:Sf):Sf
 |env,st=>(fe env st).bind λr=>match r.1 with
  |.h n=>(lg r.2 n).bind λds=>qf n ds g body ds env r.2
  |.d (.tup ds)=>mh g body ds env r.2
  |.d (.lst ds)=>mh g body ds env r.2
  |_=>none
section
variable {K:qai}{X:Cx}{pos:Pos}{tg:Expr}
theorem Bj {iter:Expr}{body:List Stmt}{fe:Ef}{g:Tg}{gb:Sf} (he:IE K X iter fe) (hii:II K X tg iter (aB fe)) (hg:PG X tg (tG K g)) (hb:ISs K X body gb) (hp:qhp (model X.prog X.w) X.A X.env X.xe) (hc:X.calm=true:=by rfl)
  (hs:∀ x,qcR iter X.env x=pure x:=by intro _;rfl) (hK:X.K=K:=by rfl):IS K X (.For tg iter body [] pos) (ur fe g gb):=by
 refine⟨λenv st r hr=>?_⟩
 simp only[ur,qac]at hr
 obtain⟨⟨x,s1⟩,hx,hr⟩:=hr
 cases x with
 |d x=>
  refine (d8 hii hg hb hp hc hs).run env st r ?_
  cases x with
  |tup ds=>simp only[gE,aB,hx,qad];exact hr
  |lst ds=>simp only[gE,aB,hx,qad];exact hr
  |_=>cases hr
 |h n=>
  simp only[qac]at hr
  obtain⟨ds,hds,hr⟩:=hr
  refine (yL hp hc (Ci he hK hx hds) hg hb.any hs).imp ?_
  rintro D σ H ⟨φ,hE,hS,q⟩
  refine⟨φ,hE,hS,λJ H1 φ1 f1 S1 yl=>?_⟩
  refine⟨λi m σ H=>m=ds.length - i/\i<=ds.length/\∃ env st φ2,Fw φ1 φ2 H1 H/\Er K H φ2 env σ/\Sr K H φ2 st/\qf n ds g gb (ds.drop i) env st=some r,⟨ds.length,by simp,qa7 _,env,s1,φ1,Fw.refl _ _,hE.fw hS f1,S1,hr⟩,?_⟩
  rintro i m σ H2 ⟨rfl,hi,env2,st2,φ2,f2,e2,S2,h2⟩
  by_cases hlt:i<ds.length
  ·rw[qca hlt]at h2
   rw[qf]at h2
   by_cases hg2:lg st2 n=some ds
   ·rw[if_pos hg2]at h2
    obtain⟨y1,y2⟩:=yl H2 φ2 st2 i f2 S2 hg2
    obtain⟨go,yld⟩:=y1 ds[i] (qaD hlt)
    simp only[qac]at h2
    obtain⟨e3,he3,r3,hr3,h3⟩:=h2
    refine .inr ⟨go,λσ' H'=>i+1<=ds.length/\∃ env st φ2,Fw φ1 φ2 H1 H'/\Er K H' φ2 env σ'/\Sr K H' φ2 st/\qf n ds g gb (ds.drop (i+1)) env st=some r,λσ' H' ⟨hn,p'⟩=>⟨ds.length - (i+1),by lia,rfl,hn,p'⟩,λx H' y=>?_⟩
    obtain⟨sm,rx⟩:=yld x H' y
    have S3:=S2.same sm
    have f3:=f2.trans (Fw.same (φ:=φ2) sm)
    refine⟨φ2,st2,env2,.d ds[i],e3,e2.fw S2 (Fw.same sm),S3,rx,he3,λσ' e' _=>?_⟩
    refine⟨e3,st2,r3,hr3,φ2,e',S3,?_⟩
    cases r3 with
    |nx e4 s4=>exact λσ4 H4 φ4 f4 e4' s4'=>⟨hlt,e4,s4,φ4,f3.trans f4,e4',s4',h3⟩
    |ct e4 s4=>exact λσ4 H4 φ4 f4 e4' s4'=>⟨hlt,e4,s4,φ4,f3.trans f4,e4',s4',h3⟩
    |bk e4 s4=>
     cases h3
     exact λσ4 H4 φ4 f4 e4' s4'=>q σ4 H4 φ4 (f1.trans (f3.trans f4)) e4' s4'
    |rt w s4=>
     cases h3
     exact λv H4 φ4 f4 s4' w4=>q v H4 φ4 (f1.trans (f3.trans f4)) s4' w4
   ·rw[if_neg hg2]at h2;cases h2
  ·have hi':i=ds.length:=by lia
   subst hi'
   rw[qgb,qf]at h2
   by_cases hg2:lg st2 n=some ds
   ·rw[if_pos hg2]at h2
    cases h2
    obtain⟨y1,y2⟩:=yl H2 φ2 st2 ds.length f2 S2 hg2
    exact .inl ⟨y2 rfl,q σ H2 φ2 (f1.trans f2) e2 S2⟩
   ·rw[if_neg hg2]at h2;cases h2
end
theorem tB {n:Nat}{all:List D}{g:Tg}{body:Sf}:∀ {ds:List D} (Pv:Nat->Ev->Sto->Prop) {env:Ev}{st:Sto},Pv 0 env st->(∀ i env st,Pv i env st->lg st n=some all)->
  (∀ i d env st,ds[i]?=some d->Pv i env st->∃ e1 e2 s2,fV g (.d d) env=some e1/\(body e1 st=some (.nx e2 s2)\/body e1 st=some (.ct e2 s2))/\Pv (i+1) e2 s2)->
  ∃ env' st',qf n all g body ds env st=some (.nx env' st')/\Pv ds.length env' st'
 |[],Pv,env,st,h0,hk,_=>⟨env,st,by rw[qf,if_pos (hk _ _ _ h0)],h0⟩
 |d::ds,Pv,env,st,h0,hk,hs=>by
  obtain⟨e1,e2,s2,h1,h2,h3⟩:=hs 0 d env st rfl h0
  obtain⟨e',s',h4,h5⟩:=tB (g:=g) (body:=body) (ds:=ds) (λi=>Pv (i+1)) h3 (λi=>hk (i+1)) λi d' env' st' hd p=>hs (i+1) d' env' st' (by simpa using hd) p
  refine⟨e',s',?_,h5⟩
  rw[qf,if_pos (hk _ _ _ h0),h1,qad]
  rcases h2 with h2|h2<;>(rw[h2,qad];exact h4)
end L2
namespace Own
open PySem L2
noncomputable section
def ip:Sf:=(aW (.nm 1) (iOp fu (iV 1) (iC (.int 2))))
def el:Sf:=(ay (aW (.nm 1) (iC (.int 1))) (ay (gE (ci (ab (iV 0) ak)) (.nm 2) ip) (bM (iV 1))))
def gs:Fn:=dg 3 1 el
def nG:Sf:=(bM (iOp i6 (iOp kf (iV 0) (aD gs (ab (iV 1) ak))) (iC (.int 2))))
def sk:Fn:=dg 2 2 nG
def jK:Sf:=(aW (.nm 1) (iOp fu (iV 1) (iV 2)))
def fN:Sf:=(ay (aW (.nm 1) (iC (.int 1))) (ay (gE (aB (iV 0)) (.nm 2) jK) (bM (iV 1))))
def fS:Fn:=dg 3 1 fN
def dh:Tf:=(cm dLt (iV 2) (iCB eB (ab (iV 0) ak)))
def e8:Sf:=(ay (aW (.nm 2) (iOp fu (iV 2) (iC (.int 2)))) (aW (.nm 1) (iOp dO (iV 1) (iC (.int 1)))))
def hU:Sf:=(ay (aW (.nm 1) (iC (.int 0))) (ay (aW (.nm 2) (iC (.int 1))) (ay (n8 1000000000000000000000000000000 dh e8) (bM (iV 1)))))
def dq:Fn:=dg 3 1 hU
def kr:Ef:=(iV 0)
def ki:Tf:=(cm yR (iV 1) (iC .non))
def gP:Sf:=(bM (iCB iO (ab (aC (iLc 2 [] (pM (ab (iV 0) ak)) (.tp [0,1]) ki kr)) ak)))
def jo:Fn:=dg 1 1 gP
def iw:Sf:=(bM (se (cm dEq (iOp dIx (iV 0) (iV 1)) (iC (.int 1))) (iC (.int 1)) (iUn pY (iC (.int 1)))))
def lV:Fn:=dg 2 2 iw
def ll:Ef:=(iOp dO (iV 0) (cp (ab (iV 2) ak)))
def lO:Tf:=(cm dLt (iCB eB (ab (iV 0) ak)) (iV 1))
def kQ:Sf:=(aW (.nm 2) (iOp dO (iV 2) (aC (iLc 1 [1,3] (aB (iV 2)) (.nm 0) lO ll))))
def iI:Sf:=(ay (aW (.nm 2) (aC (eI (ab (cp ak) ak)))) (ay (gE (ci (ab (iV 0) ak)) (.nm 3) kQ) (bM (iCB iO (ab (aC (iCL jP (ab (iV 2) ak))) ak)))))
def kG:Fn:=dg 4 2 iI
def fL:Ef:=(aD sk (ab (iV 1) (ab (iV 0) ak)))
def dI:Sf:=(ay (aW (.nm 3) (iCB me (ab (aC (iLc 1 [2] (aB (iV 1)) (.nm 0) bB fL)) ak))) (ay (ix (cm dEq (iV 0) (iC (.str "both"))) (bM (se (cm dEq (iV 3) (iCB eB (ab (iV 1) ak))) (iC (.int 1)) (iC (.int 0)))) gF) (bM (se (cm dEq (iOp i6 (iV 3) (iC (.int 2))) (iC (.int 1))) (iUn pY (iC (.int 1))) (iC (.int 1))))))
def kF:Fn:=dg 4 3 dI
def ku:Ef:=(cp (ab (iV 0) (ab (yc (iV 1) (iV 0)) ak)))
def kc:Tf:=(cm dNe (yc (iV 1) (iV 0)) (iC (.int 0)))
def gI:Sf:=(bM (cp (ab (iV 0) (ab (iCB iO (ab (aC (iLc 1 [1] (aB (aC (md (iV 1)))) (.nm 0) kc ku)) ak)) ak))))
def eW:Fn:=dg 2 2 gI
def ig:Ef:=(iCB eB (ab (iV 0) ak))
def gM:Sf:=(bM (fg (aC (iLc 2 [] (aB (iOp dIx (iV 0) (iC (.int 1)))) (.tp [0,1]) bB ig)) (iC (.int 0))))
def jj:Fn:=dg 1 1 gM
def bO:Sf:=(qP (iV 2) (iV 3) (iOp dO (ux (iV 2) (iV 3) (iC (.int 0))) (iV 4)))
def iL:Sf:=(ay (aW (.nm 2) yO) (ay (ur (iV 1) (.tp [3,4]) bO) (bM (aD eW (ab (iV 0) (ab (iV 2) ak))))))
def dH:Fn:=ni 5 2 iL
def nQ:Sf:=(bM (aD dH (ab (iOp dIx (iV 0) (iC (.int 0))) (ab (iOp dO (iOp dIx (iV 0) (iC (.int 1))) (iOp dIx (iV 1) (iC (.int 1)))) ak))))
def nC:Fn:=dg 2 2 nQ
def jt:Sf:=(ay (ix (cm dEq (iV 0) (iC (.str "both"))) (bM (iCB iO (ab (aC (jB (oF (dP (iV 1)) (dP (iV 2))))) ak))) gF) (bM (iCB iO (ab (aC (jB (kR (dP (iV 1)) (dP (iV 2))))) ak))))
def oZ:Fn:=dg 3 3 jt
def jC:Ef:=(cp (ab (aD oZ (ab (iV 2) (ab (iV 3) (ab (iV 0) ak)))) (ab (iOp fu (iV 4) (iV 1)) ak)))
def jO:Sf:=(i5 (gt qK (iV 3) (ab (aC (iLc 2 [2,4,5] (aB (iOp dIx (iV 1) (iC (.int 1)))) (.tp [0,1]) bB jC)) ak)))
def fK:Sf:=(ay (aW (.nm 2) (iOp dIx (iV 0) (iC (.int 0)))) (ay (aW (.nm 3) (mB (eI ak))) (ay (gE (aB (iOp dIx (iV 0) (iC (.int 1)))) (.tp [4,5]) jO) (bM (aD dH (ab (iV 2) (ab (iV 3) ak)))))))
def fR:Fn:=ni 6 2 fK
def qO:Ef:=(cp (ab (iV 0) (ab (iOp fu (iV 2) (iV 1)) ak)))
def nw:Sf:=(bM (aD dH (ab (iOp dIx (iV 0) (iC (.int 0))) (ab (aC (iLc 2 [1] (aB (iOp dIx (iV 0) (iC (.int 1)))) (.tp [0,1]) bB qO)) ak))))
def ny:Fn:=dg 2 2 nw
def qD:Ef:=(iOp dO (iV 0) (iV 1))
def qo:Ef:=(cp (ab (iCB iO (ab (aC (iLc 1 [2] (aB (iV 0)) (.nm 0) bB qD)) ak)) (ab (iV 1) ak)))
def nF:Sf:=(bM (cp (ab (iOp dIx (iV 0) (iC (.int 0))) (ab (iCB iO (ab (aC (iLc 2 [1] (aB (iOp dIx (iV 0) (iC (.int 1)))) (.tp [0,1]) bB qo)) ak)) ak))))
def ln:Fn:=dg 2 2 nF
def dN:Sf:=(bM (iOp fu (aD lV (ab (iV 0) (ab (iV 3) ak))) (aD kF (ab (iV 1) (ab (iV 2) (ab (iV 3) ak))))))
def gw:Fn:=dg 4 4 dN
def oY:Ef:=(aD gw (ab (iV 1) (ab (iV 2) (ab (iV 3) (ab (iV 0) ak)))))
def kX:Sf:=(bM (iCB me (ab (aC (iLc 1 [0,1,2] (aB (aD jo (ab (iV 0) ak))) (.nm 0) bB oY)) ak)))
def lQ:Fn:=dg 3 3 kX
def eF:Sf:=(qP (iV 2) (iV 3) (aD lQ (ab (iV 0) (ab (iC (.str "odd")) (ab (iV 3) ak)))))
def dR:Sf:=(ay (aW (.nm 1) (aD dq (ab (iV 0) ak))) (ay (aW (.nm 2) yO) (ay (gE (aB (aD kG (ab (iV 1) (ab (iV 1) ak)))) (.nm 3) eF) (bM (aD eW (ab (iC (.str "odd")) (ab (iV 2) ak)))))))
def df:Fn:=ni 4 1 dR
def iU:Sf:=(ay (aW (.nm 2) (aD df (ab (iV 0) ak))) (ay (ix (cm dEq (iV 1) (iC (.str "odd"))) (bM (iV 2)) gF) (bM CN)))
def eG:Fn:=dg 3 2 iU
def dY:Sf:=(bM (aD jj (ab (aD df (ab (iV 0) ak)) ak)))
def gB:Fn:=dg 1 1 dY
def ie:Sf:=(ay (i5 (gt gU (iV 1) (ab (aD ln (ab (aD eG (ab (iV 3) (ab (iC (.str "odd")) ak))) (ab (iV 2) ak))) ak))) (aW (.nm 2) (iOp dO (iV 2) (aD dq (ab (iV 3) ak)))))
def gS:Sf:=(ay (aW (.nm 1) (mB (eI ak))) (ay (aW (.nm 2) (iC (.int 0))) (ay (gE (aB (iV 0)) (.nm 3) ie) (bM (iV 1)))))
def gR:Fn:=dg 4 1 gS
def kM:Sf:=(aW (.nm 4) (aD fR (ab (iV 4) (ab (aD ny (ab (iOp dIx (iV 3) (iV 5)) (ab (iUn pY (iC (.int 1))) ak))) ak))))
def fT:Ef:=(iCB eB (ab (iV 1) ak))
def et:Tf:=(cm rf (iV 0) (iV 2))
def iS:Sf:=(ay (aW (.nm 4) (cp (ab (iC (.str "odd")) (ab (cp (ab (cp (ab (cp ak) (ab (iOp fu (iV 1) (aD fS (ab (aC (iLc 2 [0] (pM (ab (iV 2) ak)) (.tp [0,1]) et fT)) ak))) ak))) ak)) ak)))) (ay (gE (aB (iV 0)) (.nm 5) kM) (bM (iV 4))))
def gp:Fn:=dg 6 4 iS
def kJ:Sf:=(aW (.nm 3) (aD nC (ab (iV 3) (ab (aD gp (ab (iV 4) (ab (iV 5) (ab (iV 1) (ab (iV 2) ak))))) ak))))
def iN:Sf:=(ay (aW (.nm 2) (aD gR (ab (iV 1) ak))) (ay (aW (.nm 3) (cp (ab (iC (.str "odd")) (ab (cp ak) ak)))) (ay (gE (aB (iOp dIx (iV 0) (iC (.int 1)))) (.tp [4,5]) kJ) (bM (iV 3)))))
def iH:Fn:=ni 6 2 iN
def ow:Ef:=(iOp dIx (iV 1) (iV 0))
def jJ:Ef:=(iCB me (ab (aC (iLc 1 [2] (aB (iV 0)) (.nm 0) bB ow)) ak))
def jL:Ef:=(aD gB (ab (iV 0) ak))
def fM:Sf:=(ay (aW (.nm 2) (aC (iLc 1 [] (aB (iV 1)) (.nm 0) bB jL))) (bM (fg (aC (iLc 2 [2] (aB (iOp dIx (iV 0) (iC (.int 1)))) (.tp [0,1]) bB jJ)) (iC (.int 0)))))
def fP:Fn:=dg 3 2 fM
def dW:Ef:=(iCB yu (ab (iV 0) ak))
def dZ:Tf:=(cm dGe (iCB yu (ab (iV 0) ak)) (iOp ya (iC (.int 10)) (iC (.int 18))))
def gf:Sf:=(aW (.nm 1) (iOp i6 (iOp dO (iOp fu (iV 1) (iC (.int 1000003))) (iV 2)) (iC (.int 2305843009213693951))))
def fD:Sf:=(ay (aW (.nm 1) (iOp dO (iCB eB (ab (iV 0) ak)) (iC (.int 11)))) (ay (gE (aB (iSl (iV 0) iPn (iPs (iC (.int 63))))) (.nm 2) gf) (bM (wY (ab (mB (iLc 1 [] (aB (iSl (iV 0) iPn (iPs (iC (.int 63))))) (.nm 0) dZ dW)) (ab (iV 1) (ab (iC (.int 0)) ak)))))))
def fB:Fn:=dg 3 1 fD
def da:Tf:=(qF (cm dNe (iF (iV 0) (iC (.int 0))) (aC (eI ak))) (cm dEq (iOp dIx (iF (iV 0) (iC (.int 0))) (iC (.int 0))) (iC (.int 0))))
def h8:Sf:=(i5 (gt AF (iF (iV 0) (iC (.int 0))) (ab (iC (.int 0)) ak)))
def eX:Sf:=(ay (n8 1000000000000000000000000000000 da h8) (ay (ix (cm dNe (iF (iV 0) (iC (.int 0))) (aC (eI ak))) (ay (aW (.nm 2) (iOp i6 (iOp dIx (iF (iV 0) (iC (.int 0))) (iC (.int 0))) (iV 1))) (ay (oJ (iF (iV 0) (iC (.int 0))) (iC (.int 0)) (iOp kf (iOp dIx (iF (iV 0) (iC (.int 0))) (iC (.int 0))) (iV 1))) (bM (iV 2)))) gF) (ay (kS (iV 0) (iC (.int 2)) (iOp dO (iF (iV 0) (iC (.int 2))) (iC (.int 1)))) (ay (aW (.nm 3) (iOp i6 (iOp fu (iOp dO (iF (iV 0) (iC (.int 1))) (iOp fu (iC (.int 104729)) (iF (iV 0) (iC (.int 2))))) (iC (.int 48271))) (iC (.int 2305843009213693951)))) (ay (aW (.nm 4) (iOp i6 (iOp fu (iV 3) (iOp dO (iOp dO (iOp kf (iV 3) (iC (.int 1000003))) (iOp fu (iF (iV 0) (iC (.int 2))) (iF (iV 0) (iC (.int 2))))) (iC (.int 7)))) (iC (.int 2305843009213693921)))) (bM (iOp i6 (iOp kf (iV 4) (iC (.int 8191))) (iV 1))))))))
def aA:Fn:=dg 5 2 eX
def eh:Ef:=(iV 0)
def d4:Tf:=(cm dLe (iCB eB (ab (iV 0) ak)) (iV 1))
def jD:Ef:=(iV 0)
def jq:Tf:=(cm dEq (iOp rC (iOp t6 (iV 1) (iV 0)) (iC (.int 1))) (iC (.int 1)))
def gm:Ef:=(iCB iO (ab (aC (iLc 1 [0] (ci (ab (iV 1) ak)) (.nm 0) jq jD)) ak))
def fH:Sf:=(ay (aW (.nm 2) (aC (iLc 1 [0] (ci (ab (iOp zt (iC (.int 1)) (iV 0)) ak)) (.nm 0) bB gm))) (bM (aC (iCL jP (ab (aC (iLc 1 [1] (aB (iV 2)) (.nm 0) d4 eh)) ak)))))
def fO:Fn:=dg 3 2 fH
def gZ:Sf:=(ay (aW (.nm 5) (iOp dIx (aC (eI (ab (iC (.int 1)) (ab (iUn pY (iC (.int 1))) (ab (iC (.int 2)) (ab (iUn pY (iC (.int 2))) (ab (iC (.int 3)) (ab (iUn pY (iC (.int 3))) (ab (iC (.int 1)) (ab (iOp vN (iOp ya (iC (.int 10)) (iC (.int 18))) (aD aA (ab (iV 0) (ab (iC (.int 99)) ak)))) ak)))))))))) (aD aA (ab (iV 0) (ab (iC (.int 8)) ak))))) (ix (cm dGt (aD aA (ab (iV 0) (ab (iC (.int 3)) ak))) (iC (.int 0))) (i5 (gt gU (iV 3) (ab (cp (ab (iV 4) (ab (iV 5) ak))) ak))) gF))
def gH:Sf:=(ay (aW (.nm 3) (mB (eI ak))) (ay (gE (aB (aD fO (ab (iV 2) (ab (iV 2) ak)))) (.nm 4) gZ) (bM (cp (ab (iV 1) (ab (iCB iO (ab (iV 3) ak)) ak))))))
def gJ:Fn:=ni 6 3 gH
def hV:Sf:=(ay (aW (.nm 6) (aD aA (ab (iV 0) (ab (iC (.int 2)) ak)))) (i5 (gt gU (iV 4) (ab (iOp dIx (aC (eI (ab (iV 6) (ab (iV 6) (ab (iV 3) (ab (iOp i6 (iOp dO (iOp dO (iOp i6 (iV 5) (iC (.int 2))) (iOp kf (iV 5) (iC (.int 2)))) (iV 3)) (iC (.int 2))) ak)))))) (iV 2)) ak))))
def gL:Sf:=(ay (ul 2 3 (ab (aD aA (ab (iV 0) (ab (iC (.int 4)) ak))) (ab (aD aA (ab (iV 0) (ab (iC (.int 2)) ak))) ak))) (ay (aW (.nm 4) (mB (eI ak))) (ay (gE (ci (ab (iOp zt (iC (.int 1)) (iV 1)) ak)) (.nm 5) hV) (bM (iCB iO (ab (iV 4) ak))))))
def jg:Fn:=ni 7 2 gL
def jh:Ef:=(aD aA (ab (iV 1) (ab (iC (.int 3)) ak)))
def jN:Ef:=(aD aA (ab (iV 1) (ab (iC (.int 2)) ak)))
def cF:Sf:=(ay (ul 1 2 (ab (aD aA (ab (iV 0) (ab (iC (.int 6)) ak))) (ab (aD aA (ab (iV 0) (ab (iC (.int 4)) ak))) ak))) (ay (ix (cm dEq (iV 1) (iC (.int 0))) (bM (aC (iLc 1 [0] (ci (ab (iOp dO (iC (.int 3)) (iV 2)) ak)) (.nm 0) bB jN))) gF) (ay (ix (cm dEq (iV 1) (iC (.int 1))) (bM (aC (eI (ab (iOp dO (iC (.int 3)) (iV 2)) ak)))) gF) (ay (ix (cm dEq (iV 1) (iC (.int 2))) (ay (aW (.nm 3) (aD aA (ab (iV 0) (ab (iC (.int 7)) ak)))) (bM (aC (eI (ab (iV 3) (ab (aD aA (ab (iV 0) (ab (iOp vN (iC (.int 7)) (iV 3)) ak))) ak)))))) gF) (bM (aC (iLc 1 [0] (ci (ab (iV 2) ak)) (.nm 0) bB jh)))))))
def fU:Fn:=dg 4 1 cF
def cX:Ef:=(iV 0)
def de:Tf:=(cm dEq (iOp rC (iOp t6 (iOp EO (iV 1) (iV 2)) (iV 0)) (iC (.int 1))) (iC (.int 1)))
def cr:Ef:=(iOp fu (iOp dIx (iV 1) (iV 0)) (iOp vN (iC (.int 1)) (iOp i6 (iOp fu (iC (.int 2)) (iCB eB (ab (aC (iLc 1 [2,0] (ci (ab (iC (.int 6)) ak)) (.nm 0) de cX)) ak))) (iC (.int 4)))))
def gk:Ef:=(iV 0)
def gi:Tf:=(cm dEq (iOp rC (iOp t6 (iV 1) (iV 0)) (iC (.int 1))) (iC (.int 1)))
def d6:Ef:=(iV 0)
def d0:Tf:=(cm dEq (iOp rC (iV 0) (iV 1)) (iV 0))
def gC:Sf:=(ay (aW (.nm 3) (aC (iLc 1 [2] (ci (ab (iCB eB (ab (iV 0) ak)) ak)) (.nm 0) d0 d6))) (ay (aW (.nm 4) (iCB eB (ab (aC (iLc 1 [2] (ci (ab (iC (.int 6)) ak)) (.nm 0) gi gk)) ak))) (ay (aW (.nm 5) (aC (iLc 1 [0,2] (aB (iV 3)) (.nm 0) bB cr))) (ix (cm dNe (iCB me (ab (iV 5) ak)) (iC (.int 0))) (aW (.nm 1) (iCB dMx (ab (iV 1) (ab (iV 4) ak)))) gF))))
def fI:Sf:=(ay (aW (.nm 1) (iC (.int 0))) (ay (gE (ci (ab (iCB eB (ab (iV 0) ak)) ak)) (.nm 2) gC) (bM (iV 1))))
def iA:Fn:=dg 6 1 fI
def nJ:Ef:=(iCB eB (ab (iV 0) ak))
def Be:Ef:=(iOp dIx (iV 1) (iV 0))
def wl:Ef:=(iCB me (ab (aC (iLc 1 [2] (aB (iV 0)) (.nm 0) bB Be)) ak))
def wL:Sf:=(ay (aW (.nm 7) (fg (aC (iLc 2 [6] (aB (iOp dIx (iV 4) (iC (.int 1)))) (.tp [0,1]) bB wl)) (iC (.int 0)))) (ay (ix (cm dNe (iCB lA (ab (aD fP (ab (iV 4) (ab (iV 5) ak))) ak)) (iCB lA (ab (iV 7) ak))) (bM (iC (.bl false))) gF) (ix (cm dGt (fg (aC (iLc 2 [] (aB (iOp dIx (aD iH (ab (iV 4) (ab (iV 5) ak))) (iC (.int 1)))) (.tp [0,1]) bB nJ)) (iC (.int 0))) (iV 7)) (bM (iC (.bl false))) gF)))
def rO:Ef:=(aD iA (ab (iV 0) ak))
def nA:Ef:=(aD jg (ab (iV 1) (ab (iV 0) ak)))
def wm:Sf:=(ay (aW (.nm 3) (aD fU (ab (iV 1) ak))) (ay (aW (.nm 4) (aD gJ (ab (iV 1) (ab (iC (.str "odd")) (ab (iCB eB (ab (iV 3) ak)) ak))))) (ay (aW (.nm 5) (iCB iO (ab (aC (iLc 1 [1] (aB (iV 3)) (.nm 0) bB nA)) ak))) (ay (aW (.nm 6) (aC (iLc 1 [] (aB (iV 5)) (.nm 0) bB rO))) wL))))
def wN:Sf:=(ay (aW (.nm 1) (aD fB (ab (iV 0) ak))) (ay (gE (ci (ab (iC (.int 3)) ak)) (.nm 2) wm) (bM (iC (.bl true)))))
def tD:Fn:=ni 8 1 wN
end
end Own
section
set_option maxHeartbeats 2000000
namespace Own
open PySem L2
def top (i:Nat):Stmt:=PySem.Challenge.pw_signpoly_k67_degrees_put_together.main.body.getD i (.Pass ⟨0,0,0,0⟩)
abbrev bT:Stmt:=top 1
abbrev iX:Stmt:=top 2
abbrev cD:Stmt:=top 3
abbrev ck:Stmt:=top 5
abbrev cA:Stmt:=top 6
abbrev eE:Stmt:=top 7
abbrev cM:Stmt:=top 9
abbrev cU:Stmt:=top 10
abbrev cy:Stmt:=top 12
abbrev cz:Stmt:=top 13
abbrev dD:Stmt:=top 15
abbrev iR:Stmt:=top 16
abbrev gn:Stmt:=top 17
abbrev cf:Stmt:=top 18
abbrev gN:Stmt:=top 19
abbrev fJ:Stmt:=top 21
abbrev bW:Stmt:=top 27
abbrev eV:Stmt:=top 29
abbrev bV:Stmt:=top 30
abbrev dF:Stmt:=top 31
abbrev bU:Stmt:=top 32
abbrev cP:Stmt:=top 34
abbrev cK:Stmt:=top 35
abbrev dG:Stmt:=top 36
abbrev bG:Stmt:=top 37
abbrev ce:Stmt:=top 39
abbrev cV:Stmt:=top 40
abbrev bF:Stmt:=top 41
abbrev cS:Stmt:=top 42
abbrev cR:Stmt:=top 43
abbrev bQ:Stmt:=top 44
abbrev bA:Stmt:=top 45
abbrev i3:Stmt:=top 46
theorem dz:aH ["k","power","step"] ["k"] (ae bT):=⟨rfl,rfl,rfl,by decide +kernel,rfl,by decide +kernel,by decide +kernel⟩
theorem Ac:aH ["row","k"] ["row","k"] (ae iX):=⟨rfl,rfl,rfl,by decide +kernel,rfl,by decide +kernel,by decide +kernel⟩
theorem eQ:aH ["numbers","product","number"] ["numbers"] (ae cD):=⟨rfl,rfl,rfl,by decide +kernel,rfl,by decide +kernel,by decide +kernel⟩
theorem dc:aH ["f","many","rows"] ["f"] (ae ck):=⟨rfl,rfl,rfl,by decide +kernel,rfl,by decide +kernel,by decide +kernel⟩
theorem rN:aH ["f"] ["f"] (ae cA):=⟨rfl,rfl,rfl,by decide +kernel,rfl,by decide +kernel,by decide +kernel⟩
theorem vS:aH ["f","row"] ["f","row"] (ae eE):=⟨rfl,rfl,rfl,by decide +kernel,rfl,by decide +kernel,by decide +kernel⟩
theorem gK:aH ["n","size","terms","k"] ["n","size"] (ae cM):=⟨rfl,rfl,rfl,by decide +kernel,rfl,by decide +kernel,by decide +kernel⟩
theorem mS:aH ["kind","term","row","many"] ["kind","term","row"] (ae cU):=⟨rfl,rfl,rfl,by decide +kernel,rfl,by decide +kernel,by decide +kernel⟩
theorem q9:aH ["kind","numbers"] ["kind","numbers"] (ae cy):=⟨rfl,rfl,rfl,by decide +kernel,rfl,by decide +kernel,by decide +kernel⟩
theorem rM:aH ["poly"] ["poly"] (ae cz):=⟨rfl,rfl,rfl,by decide +kernel,rfl,by decide +kernel,by decide +kernel⟩
theorem gW:aH ["kind","parts","numbers","term","number"] ["kind","parts"] (ae dD):=⟨rfl,rfl,rfl,by decide +kernel,rfl,by decide +kernel,by decide +kernel⟩
theorem y8:aH ["one","other"] ["one","other"] (ae iR):=⟨rfl,rfl,rfl,by decide +kernel,rfl,by decide +kernel,by decide +kernel⟩
theorem xJ:aH ["kind","one","other"] ["kind","one","other"] (ae gn):=⟨rfl,rfl,rfl,by decide +kernel,rfl,by decide +kernel,by decide +kernel⟩
theorem dv:aH ["one","other","kind","parts","term","number"] ["one","other"] (ae cf):=⟨rfl,rfl,rfl,by decide +kernel,rfl,by decide +kernel,by decide +kernel⟩
theorem yS:aH ["poly","number"] ["poly","number"] (ae gN):=⟨rfl,rfl,rfl,by decide +kernel,rfl,by decide +kernel,by decide +kernel⟩
theorem zH:aH ["poly","by"] ["poly","by"] (ae fJ):=⟨rfl,rfl,rfl,by decide +kernel,rfl,by decide +kernel,by decide +kernel⟩
theorem mZ:aH ["f","kind","term","row"] ["f","kind","term","row"] (ae bW):=⟨rfl,rfl,rfl,by decide +kernel,rfl,by decide +kernel,by decide +kernel⟩
theorem xL:aH ["f","kind","term"] ["f","kind","term"] (ae eV):=⟨rfl,rfl,rfl,by decide +kernel,rfl,by decide +kernel,by decide +kernel⟩
theorem dw:aH ["f","n","numbers","term"] ["f"] (ae bV):=⟨rfl,rfl,rfl,by decide +kernel,rfl,by decide +kernel,by decide +kernel⟩
theorem mW:aH ["f","kind","by_odd"] ["f","kind"] (ae dF):=⟨rfl,rfl,rfl,by decide +kernel,rfl,by decide +kernel,by decide +kernel⟩
theorem np:aH ["f"] ["f"] (ae bU):=⟨rfl,rfl,rfl,by decide +kernel,rfl,by decide +kernel,by decide +kernel⟩
theorem d9:aH ["parts","exacts","ahead","part"] ["parts"] (ae cP):=⟨rfl,rfl,rfl,by decide +kernel,rfl,by decide +kernel,by decide +kernel⟩
theorem gT:aH ["term","number","parts","exacts","poly","k"] ["term","number","parts","exacts"] (ae cK):=⟨rfl,rfl,rfl,by decide +kernel,rfl,by decide +kernel,by decide +kernel⟩
theorem dM:aH ["poly","parts","exacts","told","term","number"] ["poly","parts"] (ae dG):=⟨rfl,rfl,rfl,by decide +kernel,rfl,by decide +kernel,by decide +kernel⟩
theorem kl:aH ["poly","parts","degrees"] ["poly","parts"] (ae bG):=⟨rfl,rfl,rfl,by decide +kernel,rfl,by decide +kernel,by decide +kernel⟩
theorem eP:aH ["_law_script","_law_seed","_law_cell"] ["_law_script"] (ae ce):=⟨rfl,rfl,rfl,by decide +kernel,rfl,by decide +kernel,by decide +kernel⟩
theorem fG:aH ["_law_spool_here","_law_many","_law_digit","_law_once","_law_twice"] ["_law_spool_here","_law_many"] (ae cV):=⟨rfl,rfl,rfl,by decide +kernel,rfl,by decide +kernel,by decide +kernel⟩
theorem ke:aH ["_law_n","_law_size","_law_every"] ["_law_n","_law_size"] (ae bF):=⟨rfl,rfl,rfl,by decide +kernel,rfl,by decide +kernel,by decide +kernel⟩
theorem fC:aH ["_law_spool_here","_law_kind","_law_n","_law_parts","_law_term","_law_number"] ["_law_spool_here","_law_kind","_law_n"] (ae cS):=⟨rfl,rfl,rfl,by decide +kernel,rfl,by decide +kernel,by decide +kernel⟩
theorem dS:aH ["_law_spool_here","_law_n","_law_way","_law_one","_law_some","_law_at","_law_drawn"] ["_law_spool_here","_law_n"] (ae cR):=⟨rfl,rfl,rfl,by decide +kernel,rfl,by decide +kernel,by decide +kernel⟩
theorem hX:aH ["_law_spool_here","_law_way","_law_many","_law_first"] ["_law_spool_here"] (ae bQ):=⟨rfl,rfl,rfl,by decide +kernel,rfl,by decide +kernel,by decide +kernel⟩
theorem cj:aH ["_law_part","_law_found","_law_whole","_law_below","_law_size","_law_signed"] ["_law_part"] (ae bA):=⟨rfl,rfl,rfl,by decide +kernel,rfl,by decide +kernel,by decide +kernel⟩
theorem jF:aH ["_law_script","_law_spool_here","_law_turn","_law_shape_here","_law_poly_here","_law_parts","_law_degrees","_law_due"] ["_law_script"] (ae i3):=⟨rfl,rfl,rfl,by decide +kernel,rfl,by decide +kernel,by decide +kernel⟩
set_option genSizeOf false in
set_option genInjectivity false in
structure Adr where
 f0:Addr
 g0:qbb
 f1:Addr
 g1:qbb
 f2:Addr
 g2:qbb
 f3:Addr
 g3:qbb
 f4:Addr
 g4:qbb
 f5:Addr
 g5:qbb
 f6:Addr
 g6:qbb
 f7:Addr
 g7:qbb
 f8:Addr
 g8:qbb
 f9:Addr
 g9:qbb
 f10:Addr
 g10:qbb
 f11:Addr
 g11:qbb
 f12:Addr
 g12:qbb
 f13:Addr
 g13:qbb
 f14:Addr
 g14:qbb
 f15:Addr
 g15:qbb
 f16:Addr
 g16:qbb
 f17:Addr
 g17:qbb
 f18:Addr
 g18:qbb
 f19:Addr
 g19:qbb
 f20:Addr
 g20:qbb
 f21:Addr
 g21:qbb
 f22:Addr
 g22:qbb
 f23:Addr
 g23:qbb
 f24:Addr
 g24:qbb
 f25:Addr
 g25:qbb
 f26:Addr
 g26:qbb
 f27:Addr
 g27:qbb
 f28:Addr
 g28:qbb
 f29:Addr
 g29:qbb
 f30:Addr
 g30:qbb
 f31:Addr
 g31:qbb
 f32:Addr
 g32:qbb
structure Txt (K:qai) (mg:Str->Option Value) (t:Adr):Prop where
 F0:Fun K "power_of_two" "power_of_two" bT t.f0 t.g0
 m0:mg "power_of_two" = some (.ref t.f0)
 b0:bz K t.g0 ["k"] []
 F1:Fun K "on_in" "on_in" iX t.f1 t.g1
 m1:mg "on_in" = some (.ref t.f1)
 b1:bz K t.g1 ["row","k"] []
 F2:Fun K "multiplied" "multiplied" cD t.f2 t.g2
 m2:mg "multiplied" = some (.ref t.f2)
 b2:bz K t.g2 ["numbers"] []
 F3:Fun K "switches_of" "switches_of" ck t.f3 t.g3
 m3:mg "switches_of" = some (.ref t.f3)
 b3:bz K t.g3 ["f"] []
 F4:Fun K "told_rows" "told_rows" cA t.f4 t.g4
 m4:mg "told_rows" = some (.ref t.f4)
 b4:bz K t.g4 ["f"] []
 F5:Fun K "sign_at" "sign_at" eE t.f5 t.g5
 m5:mg "sign_at" = some (.ref t.f5)
 b5:bz K t.g5 ["f","row"] []
 F6:Fun K "terms_to" "terms_to" cM t.f6 t.g6
 m6:mg "terms_to" = some (.ref t.f6)
 b6:bz K t.g6 ["n","size"] []
 F7:Fun K "value_of" "value_of" cU t.f7 t.g7
 m7:mg "value_of" = some (.ref t.f7)
 b7:bz K t.g7 ["kind","term","row"] []
 F8:Fun K "poly_from" "poly_from" cy t.f8 t.g8
 m8:mg "poly_from" = some (.ref t.f8)
 b8:bz K t.g8 ["kind","numbers"] []
 F9:Fun K "degree_of" "degree_of" cz t.f9 t.g9
 m9:mg "degree_of" = some (.ref t.f9)
 b9:bz K t.g9 ["poly"] []
 F10:Fun K "gathered" "gathered" dD t.f10 t.g10
 m10:mg "gathered" = some (.ref t.f10)
 b10:bz K t.g10 ["kind","parts"] []
 F11:Fun K "added" "added" iR t.f11 t.g11
 m11:mg "added" = some (.ref t.f11)
 b11:bz K t.g11 ["one","other"] []
 F12:Fun K "joined" "joined" gn t.f12 t.g12
 m12:mg "joined" = some (.ref t.f12)
 b12:bz K t.g12 ["kind","one","other"] []
 F13:Fun K "product_of" "product_of" cf t.f13 t.g13
 m13:mg "product_of" = some (.ref t.f13)
 b13:bz K t.g13 ["one","other"] []
 F14:Fun K "often" "often" gN t.f14 t.g14
 m14:mg "often" = some (.ref t.f14)
 b14:bz K t.g14 ["poly","number"] []
 F15:Fun K "moved" "moved" fJ t.f15 t.g15
 m15:mg "moved" = some (.ref t.f15)
 b15:bz K t.g15 ["poly","by"] []
 F16:Fun K "signed_value" "signed_value" bW t.f16 t.g16
 m16:mg "signed_value" = some (.ref t.f16)
 b16:bz K t.g16 ["f","kind","term","row"] []
 F17:Fun K "sum_by" "sum_by" eV t.f17 t.g17
 m17:mg "sum_by" = some (.ref t.f17)
 b17:bz K t.g17 ["f","kind","term"] []
 F18:Fun K "exact_by_odd" "exact_by_odd" bV t.f18 t.g18
 m18:mg "exact_by_odd" = some (.ref t.f18)
 b18:bz K t.g18 ["f"] []
 F19:Fun K "exact_of" "exact_of" dF t.f19 t.g19
 m19:mg "exact_of" = some (.ref t.f19)
 b19:bz K t.g19 ["f","kind"] []
 F20:Fun K "exact_degree" "exact_degree" bU t.f20 t.g20
 m20:mg "exact_degree" = some (.ref t.f20)
 b20:bz K t.g20 ["f"] []
 F21:Fun K "exacts_of" "exacts_of" cP t.f21 t.g21
 m21:mg "exacts_of" = some (.ref t.f21)
 b21:bz K t.g21 ["parts"] []
 F22:Fun K "put_term" "put_term" cK t.f22 t.g22
 m22:mg "put_term" = some (.ref t.f22)
 b22:bz K t.g22 ["term","number","parts","exacts"] []
 F23:Fun K "put_poly" "put_poly" dG t.f23 t.g23
 m23:mg "put_poly" = some (.ref t.f23)
 b23:bz K t.g23 ["poly","parts"] []
 F24:Fun K "put_degree" "put_degree" bG t.f24 t.g24
 m24:mg "put_degree" = some (.ref t.f24)
 b24:bz K t.g24 ["poly","parts"] []
 F25:Fun K "_law_spool" "_law_spool" ce t.f25 t.g25
 m25:mg "_law_spool" = some (.ref t.f25)
 b25:bz K t.g25 ["_law_script"] []
 F26:Fun K "_law_take" "_law_take" cV t.f26 t.g26
 m26:mg "_law_take" = some (.ref t.f26)
 b26:bz K t.g26 ["_law_spool_here","_law_many"] []
 F27:Fun K "_law_terms" "_law_terms" bF t.f27 t.g27
 m27:mg "_law_terms" = some (.ref t.f27)
 b27:bz K t.g27 ["_law_n","_law_size"] []
 F28:Fun K "_law_poly" "_law_poly" cS t.f28 t.g28
 m28:mg "_law_poly" = some (.ref t.f28)
 b28:bz K t.g28 ["_law_spool_here","_law_kind","_law_n"] []
 F29:Fun K "_law_full" "_law_full" cR t.f29 t.g29
 m29:mg "_law_full" = some (.ref t.f29)
 b29:bz K t.g29 ["_law_spool_here","_law_n"] []
 F30:Fun K "_law_shape" "_law_shape" bQ t.f30 t.g30
 m30:mg "_law_shape" = some (.ref t.f30)
 b30:bz K t.g30 ["_law_spool_here"] []
 F31:Fun K "_law_exact" "_law_exact" bA t.f31 t.g31
 m31:mg "_law_exact" = some (.ref t.f31)
 b31:bz K t.g31 ["_law_part"] []
 F32:Fun K "law" "law" i3 t.f32 t.g32
 m32:mg "law" = some (.ref t.f32)
 b32:bz K t.g32 ["_law_script"] []
 z_abs:mg "abs" = none
 z_enumerate:mg "enumerate" = none
 z_len:mg "len" = none
 z_max:mg "max" = none
 z_range:mg "range" = none
 z_repr:mg "repr" = none
 z_set:mg "set" = none
 z_sorted:mg "sorted" = none
 z_sum:mg "sum" = none
 z_tuple:mg "tuple" = none
abbrev Bdy (P:qaX) (w:World) (K:qai) (mg:Str->Option Value) (base:Heap) (k:Nat) (N:List Str) (x:Str) (sd:Stmt) (f:Addr) (b:Sf):Prop:=∀ (cdv:Value) (A:qbc) (outer:List Env) (s:qaj) (H:Hp) (E:XK),cZ k (A.deeper (qkH x (ae sd) s.heap.objs.size f cdv))->ISs K (rT CX0 P w K mg base N x (ae sd) f cdv A outer s H E).nox (aF sd) b
section
variable {P:qaX}{w:World}{K:qai}{mg:Str->Option Value}{base:Heap}{t:Adr}
theorem lR (T:Txt K mg t):Bdy P w K mg base 0 ["k","power","step"] "power_of_two" bT t.f0 el:=
 λ_ _ _ _ _ _ hr=>(al (aN (i:=1) dz.nd rfl (.inl rfl) ai rfl (.inl rfl)) (al (d8 (dA rfl T.z_range (aa (iv 0) ag rfl) rfl) (aT (ar (i:=2) dz.nd rfl (.inl rfl))) (ap (aN (i:=1) dz.nd rfl (.inl rfl) (aM (d7 rfl) (iv 1) ai) rfl (.inl rfl))) qbp rfl (λ_=>rfl)) (ap (aR (iv 1)))))
theorem nc (T:Txt K mg t):bX P w K mg base CX0 1 t.f0 t.g0 ["k"] (spI K gs):=
 eU (N:=["k","power","step"]) (b:=el) T.F0 dz (lR T)
theorem vU (T:Txt K mg t):Bdy P w K mg base 1 ["row","k"] "on_in" iX t.f1 nG:=
 λ_ _ _ _ _ _ hr=>(ap (aR (aM hW (aM ly (iv 0) (ax (nc T) (by decide) hr rfl T.m0 T.F0.kp T.b0 (aa (iv 1) ag rfl) (by decide) rfl rfl)) ai)))
theorem Ax (T:Txt K mg t):bX P w K mg base CX0 2 t.f1 t.g1 ["row","k"] (spI K sk):=
 eU (N:=["row","k"]) (b:=nG) T.F1 Ac (vU T)
theorem no (T:Txt K mg t):Bdy P w K mg base 0 ["numbers","product","number"] "multiplied" cD t.f2 fN:=
 λ_ _ _ _ _ _ hr=>(al (aN (i:=1) eQ.nd rfl (.inl rfl) ai rfl (.inl rfl)) (al (d8 (bu (iv 0) rfl) (aT (ar (i:=2) eQ.nd rfl (.inl rfl))) (ap (aN (i:=1) eQ.nd rfl (.inl rfl) (aM (d7 rfl) (iv 1) (iv 2)) rfl (.inl rfl))) qbp rfl (λ_=>rfl)) (ap (aR (iv 1)))))
theorem qi (T:Txt K mg t):bX P w K mg base CX0 1 t.f2 t.g2 ["numbers"] (spI K fS):=
 eU (N:=["numbers","product","number"]) (b:=fN) T.F2 eQ (no T)
theorem lS (T:Txt K mg t):Bdy P w K mg base 0 ["f","many","rows"] "switches_of" ck t.f3 hU:=
 λ_ _ _ _ _ _ hr=>(al (aN (i:=1) dc.nd rfl (.inl rfl) ai rfl (.inl rfl)) (al (aN (i:=2) dc.nd rfl (.inl rfl) ai rfl (.inl rfl)) (al (uI 1000000000000000000000000000000 (bD CD (iv 2) (cN (eA rfl) rfl T.z_len qbQ (aa (iv 0) ag rfl) (by decide) (by decide) rfl rfl) (bJ _)) (al (aN (i:=2) dc.nd rfl (.inl rfl) (aM (d7 rfl) (iv 2) ai) rfl (.inl rfl)) (ap (aN (i:=1) dc.nd rfl (.inl rfl) (aM (db rfl) (iv 1) ai) rfl (.inl rfl)))) qbp) (ap (aR (iv 1))))))
theorem jS (T:Txt K mg t):bX P w K mg base CX0 1 t.f3 t.g3 ["f"] (spI K dq):=
 eU (N:=["f","many","rows"]) (b:=hU) T.F3 dc (lS T)
theorem n5 (T:Txt K mg t):Bdy P w K mg base 0 ["f"] "told_rows" cA t.f4 gP:=
 λ_ _ _ _ _ _ hr=>(ap (aR (jE (gh rfl) rfl T.z_tuple qbh (aa (aL (cC (cg (ae cA).names ["f"] ["row","value"] 2 [] rfl rfl rfl (by decide +kernel)) rfl (by decide) (wv rfl T.z_enumerate (aa (iv 0) ag rfl) rfl rfl) (λ_ _ _ _ _=>(fm (ba (ar (i:=0) (show qa3 (α:=Str) ["row","value"] by decide +kernel) rfl (.inl rfl)) (ba (ar (i:=1) (show qa3 (α:=Str) ["row","value"] by decide +kernel) rfl (.inl rfl)) dB)) rfl rfl rfl rfl rfl)) (λ_ _ _ _ _=>(eO (bD Ba (iv 1) D2 (bJ _)))) (λ_ _ _ _ _=>(iv 0)) (λ_=>rfl))) ag rfl) (by decide) (by decide) rfl rfl)))
theorem rc (T:Txt K mg t):bX P w K mg base CX0 1 t.f4 t.g4 ["f"] (spI K jo):=
 eU (N:=["f"]) (b:=gP) T.F4 rN (n5 T)
theorem rg (T:Txt K mg t):Bdy P w K mg base 0 ["f","row"] "sign_at" eE t.f5 iw:=
 λ_ _ _ _ _ _ hr=>(ap (aR (Aa (bD (gQ hr rfl) (cH (iv 0) (iv 1) rfl rfl) ai (bJ _)) ai (lW ai))))
theorem uZ (T:Txt K mg t):bX P w K mg base CX0 1 t.f5 t.g5 ["f","row"] (spI K lV):=
 eU (N:=["f","row"]) (b:=iw) T.F5 vS (rg T)
theorem pX (T:Txt K mg t):Bdy P w K mg base 0 ["n","size","terms","k"] "terms_to" cM t.f6 iI:=
 λ_ _ _ _ _ _ hr=>(al (aN (i:=2) gK.nd rfl (.inl rfl) (aL (gz (aa (dj ag) ag rfl))) rfl (.inl rfl)) (al (d8 (dA rfl T.z_range (aa (iv 0) ag rfl) rfl) (aT (ar (i:=3) gK.nd rfl (.inr rfl))) (ap (aN (i:=2) gK.nd rfl (.inl rfl) (aM (db rfl) (iv 2) (aL (cC (cg (ae cM).names ["n","size","terms","k"] ["term","size","k"] 1 [1,3] rfl rfl rfl (by decide +kernel)) rfl (by decide) (bu (iv 2) rfl) (λ_ _ _ _ _=>(aT (ar (i:=0) (show qa3 (α:=Str) ["term","size","k"] by decide +kernel) rfl (.inl rfl)))) (λ_ _ _ _ _=>(eO (bD CD (cN (eA rfl) rfl T.z_len qbQ (aa (iv 0) ag rfl) (by decide) (by decide) rfl rfl) (iv 1) (bJ _)))) (λ_ _ _ _ _=>(aM (db rfl) (iv 0) (dj (aa (iv 2) ag rfl)))) (λ_=>rfl)))) rfl (.inl rfl))) qbp rfl (λ_=>rfl)) (ap (aR (jE (gh rfl) rfl T.z_tuple qbh (aa (aL (CA (tH hr rfl) rfl T.z_sorted qc6 (aa (iv 2) ag rfl) (by decide) (by decide) rfl rfl)) ag rfl) (by decide) (by decide) rfl rfl)))))
theorem t8 (T:Txt K mg t):bX P w K mg base CX0 1 t.f6 t.g6 ["n","size"] (spI K kG):=
 eU (N:=["n","size","terms","k"]) (b:=iI) T.F6 gK (pX T)
theorem pO (T:Txt K mg t):Bdy P w K mg base 2 ["kind","term","row","many"] "value_of" cU t.f7 dI:=
 λ_ _ _ _ _ _ hr=>(al (aN (i:=3) mS.nd rfl (.inl rfl) (cN (oj rfl rfl) rfl T.z_sum qcN (aa (aL (cC (cg (ae cU).names ["kind","term","row","many"] ["k","row"] 1 [2] rfl rfl rfl (by decide +kernel)) rfl (by decide) (bu (iv 1) rfl) (λ_ _ _ _ _=>(aT (ar (i:=0) (show qa3 (α:=Str) ["k","row"] by decide +kernel) rfl (.inl rfl)))) (λ_ _ _ _ _=>bP) (λ_ _ _ _ _=>(ax (Ax T) (by decide) hr rfl T.m1 T.F1.kp T.b1 (aa (iv 1) (aa (iv 0) ag rfl) rfl) (by decide) rfl rfl)) (λ_=>rfl))) ag rfl) (by decide) (by decide) rfl rfl) rfl (.inl rfl)) (al (jr (bD (gQ hr rfl) (iv 0) iM (bJ _)) (ap (aR (Aa (bD (gQ hr rfl) (iv 3) (cN (eA rfl) rfl T.z_len qbQ (aa (iv 1) ag rfl) (by decide) (by decide) rfl rfl) (bJ _)) ai ai))) dU) (ap (aR (Aa (bD (gQ hr rfl) (aM hW (iv 3) ai) ai (bJ _)) (lW ai) ai)))))
theorem uF (T:Txt K mg t):bX P w K mg base CX0 3 t.f7 t.g7 ["kind","term","row"] (spI K kF):=
 eU (N:=["kind","term","row","many"]) (b:=dI) T.F7 mS (pO T)
theorem pe (T:Txt K mg t):Bdy P w K mg base 0 ["kind","numbers"] "poly_from" cy t.f8 gI:=
 λ_ _ _ _ _ _ hr=>(ap (aR (dj (aa (iv 0) (aa (jE (gh rfl) rfl T.z_tuple qbh (aa (aL (cC (cg (ae cy).names ["kind","numbers"] ["term","numbers"] 1 [1] rfl rfl rfl (by decide +kernel)) rfl (by decide) (bu (aL (Au hr rfl T.z_sorted (iv 1) rfl rfl rfl)) rfl) (λ_ _ _ _ _=>(aT (ar (i:=0) (show qa3 (α:=Str) ["term","numbers"] by decide +kernel) rfl (.inl rfl)))) (λ_ _ _ _ _=>(eO (bD (tL hr rfl) (AE hr (iv 1) (iv 0) (λ_ _=>rfl)) ai (bJ _)))) (λ_ _ _ _ _=>(dj (aa (iv 0) (aa (AE hr (iv 1) (iv 0) (λ_ _=>rfl)) ag rfl) rfl))) (λ_=>rfl))) ag rfl) (by decide) (by decide) rfl rfl) ag rfl) rfl))))
theorem lI (T:Txt K mg t):bX P w K mg base CX0 1 t.f8 t.g8 ["kind","numbers"] (spI K eW):=
 eU (N:=["kind","numbers"]) (b:=gI) T.F8 q9 (pe T)
theorem oH (T:Txt K mg t):Bdy P w K mg base 0 ["poly"] "degree_of" cz t.f9 gM:=
 λ_ _ _ _ _ _ hr=>(ap (aR (kP rfl T.z_max (aL (cC (cg (ae cz).names ["poly"] ["term","number"] 2 [] rfl rfl rfl (by decide +kernel)) rfl (by decide) (bu (cH (iv 0) ai rfl rfl) rfl) (λ_ _ _ _ _=>(fm (ba (ar (i:=0) (show qa3 (α:=Str) ["term","number"] by decide +kernel) rfl (.inl rfl)) (ba (ar (i:=1) (show qa3 (α:=Str) ["term","number"] by decide +kernel) rfl (.inl rfl)) dB)) rfl rfl rfl rfl rfl)) (λ_ _ _ _ _=>bP) (λ_ _ _ _ _=>(cN (eA rfl) rfl T.z_len qbQ (aa (iv 0) ag rfl) (by decide) (by decide) rfl rfl)) (λ_=>rfl))) ai rfl rfl)))
theorem qV (T:Txt K mg t):bX P w K mg base CX0 1 t.f9 t.g9 ["poly"] (spI K jj):=
 eU (N:=["poly"]) (b:=gM) T.F9 rM (oH T)
theorem pV (T:Txt K mg t):Bdy P w K mg base 1 ["kind","parts","numbers","term","number"] "gathered" dD t.f10 iL:=
 λ_ _ _ _ _ _ hr=>(al (aN (i:=2) gW.nd rfl (.inl rfl) wI rfl (.inl rfl)) (al (Bj (iv 1) (bu (iv 1) rfl) (fm (ba (ar (i:=3) gW.nd rfl (.inl rfl)) (ba (ar (i:=4) gW.nd rfl (.inl rfl)) dB)) rfl rfl rfl rfl rfl) (ap (wJ hr (iv 2) (iv 3) (aM (db rfl) (BG hr (iv 2) (iv 3) ai ⟨rfl,rfl,rfl,rfl⟩) (iv 4)) rfl)) qbp rfl (λ_=>rfl) rfl) (ap (aR (ax (lI T) (by decide) hr rfl T.m8 T.F8.kp T.b8 (aa (iv 0) (aa (iv 2) ag rfl) rfl) (by decide) rfl rfl)))))
theorem ju (T:Txt K mg t):bX P w K mg base CX0 2 t.f10 t.g10 ["kind","parts"] (spI K dH):=
 vh (N:=["kind","parts","numbers","term","number"]) (b:=iL) T.F10 gW (pV T)
theorem vd (T:Txt K mg t):Bdy P w K mg base 2 ["one","other"] "added" iR t.f11 nQ:=
 λ_ _ _ _ _ _ hr=>(ap (aR (ax (ju T) (by decide) hr rfl T.m10 T.F10.kp T.b10 (aa (cH (iv 0) ai rfl rfl) (aa (aM (db rfl) (cH (iv 0) ai rfl rfl) (cH (iv 1) ai rfl rfl)) ag rfl) rfl) (by decide) rfl rfl)))
theorem zz (T:Txt K mg t):bX P w K mg base CX0 3 t.f11 t.g11 ["one","other"] (spI K nC):=
 eU (N:=["one","other"]) (b:=nQ) T.F11 y8 (vd T)
theorem uL (T:Txt K mg t):Bdy P w K mg base 0 ["kind","one","other"] "joined" gn t.f12 jt:=
 λ_ _ _ _ _ _ hr=>(al (jr (bD (gQ hr rfl) (iv 0) iM (bJ _)) (ap (aR (jE (gh rfl) rfl T.z_tuple qbh (aa (aL (uj rfl T.z_sorted (Fg (si rfl T.z_set (iv 1) rfl rfl rfl) (si rfl T.z_set (iv 2) rfl rfl rfl)) rfl rfl)) ag rfl) (by decide) (by decide) rfl rfl))) dU) (ap (aR (jE (gh rfl) rfl T.z_tuple qbh (aa (aL (uj rfl T.z_sorted (EN (si rfl T.z_set (iv 1) rfl rfl rfl) (si rfl T.z_set (iv 2) rfl rfl rfl)) rfl rfl)) ag rfl) (by decide) (by decide) rfl rfl))))
theorem xc (T:Txt K mg t):bX P w K mg base CX0 1 t.f12 t.g12 ["kind","one","other"] (spI K oZ):=
 eU (N:=["kind","one","other"]) (b:=jt) T.F12 xJ (uL T)
theorem nq (T:Txt K mg t):Bdy P w K mg base 2 ["one","other","kind","parts","term","number"] "product_of" cf t.f13 fK:=
 λ_ _ _ _ _ _ hr=>(al (aN (i:=2) dv.nd rfl (.inr rfl) (cH (iv 0) ai rfl rfl) rfl (.inl rfl)) (al (aN (i:=3) dv.nd rfl (.inl rfl) (pA (gz ag)) rfl (.inl rfl)) (al (d8 (bu (cH (iv 0) ai rfl rfl) rfl) (fm (ba (ar (i:=4) dv.nd rfl (.inr rfl)) (ba (ar (i:=5) dv.nd rfl (.inr rfl)) dB)) rfl rfl rfl rfl rfl) (ap (lG (BI (iv 3) (aa (aL (cC (cg (ae cf).names ["one","other","kind","parts","term","number"] ["second","times","kind","term","number"] 2 [2,4,5] rfl rfl rfl (by decide +kernel)) rfl (by decide) (bu (cH (iv 1) ai rfl rfl) rfl) (λ_ _ _ _ _=>(fm (ba (ar (i:=0) (show qa3 (α:=Str) ["second","times","kind","term","number"] by decide +kernel) rfl (.inl rfl)) (ba (ar (i:=1) (show qa3 (α:=Str) ["second","times","kind","term","number"] by decide +kernel) rfl (.inl rfl)) dB)) rfl rfl rfl rfl rfl)) (λ_ _ _ _ _=>bP) (λ_ _ _ _ _=>(dj (aa (ax (xc T) (by decide) hr rfl T.m12 T.F12.kp T.b12 (aa (iv 2) (aa (iv 3) (aa (iv 0) ag rfl) rfl) rfl) (by decide) rfl rfl) (aa (aM (d7 rfl) (iv 4) (iv 1)) ag rfl) rfl))) (λ_=>rfl))) ag rfl) rfl rfl (by decide) rfl rfl) rfl)) qbp rfl (λ_=>rfl)) (ap (aR (ax (ju T) (by decide) hr rfl T.m10 T.F10.kp T.b10 (aa (iv 2) (aa (iv 3) ag rfl) rfl) (by decide) rfl rfl))))))
theorem p9 (T:Txt K mg t):bX P w K mg base CX0 3 t.f13 t.g13 ["one","other"] (spI K fR):=
 vh (N:=["one","other","kind","parts","term","number"]) (b:=fK) T.F13 dv (nq T)
theorem u4 (T:Txt K mg t):Bdy P w K mg base 2 ["poly","number"] "often" gN t.f14 nw:=
 λ_ _ _ _ _ _ hr=>(ap (aR (ax (ju T) (by decide) hr rfl T.m10 T.F10.kp T.b10 (aa (cH (iv 0) ai rfl rfl) (aa (aL (cC (cg (ae gN).names ["poly","number"] ["term","times","number"] 2 [1] rfl rfl rfl (by decide +kernel)) rfl (by decide) (bu (cH (iv 0) ai rfl rfl) rfl) (λ_ _ _ _ _=>(fm (ba (ar (i:=0) (show qa3 (α:=Str) ["term","times","number"] by decide +kernel) rfl (.inl rfl)) (ba (ar (i:=1) (show qa3 (α:=Str) ["term","times","number"] by decide +kernel) rfl (.inl rfl)) dB)) rfl rfl rfl rfl rfl)) (λ_ _ _ _ _=>bP) (λ_ _ _ _ _=>(dj (aa (iv 0) (aa (aM (d7 rfl) (iv 2) (iv 1)) ag rfl) rfl))) (λ_=>rfl))) ag rfl) rfl) (by decide) rfl rfl)))
theorem AQ (T:Txt K mg t):bX P w K mg base CX0 3 t.f14 t.g14 ["poly","number"] (spI K ny):=
 eU (N:=["poly","number"]) (b:=nw) T.F14 yS (u4 T)
theorem u6 (T:Txt K mg t):Bdy P w K mg base 0 ["poly","by"] "moved" fJ t.f15 nF:=
 λ_ _ _ _ _ _ hr=>(ap (aR (dj (aa (cH (iv 0) ai rfl rfl) (aa (jE (gh rfl) rfl T.z_tuple qbh (aa (aL (cC (cg (ae fJ).names ["poly","by"] ["term","number","by"] 2 [1] rfl rfl rfl (by decide +kernel)) rfl (by decide) (bu (cH (iv 0) ai rfl rfl) rfl) (λ_ _ _ _ _=>(fm (ba (ar (i:=0) (show qa3 (α:=Str) ["term","number","by"] by decide +kernel) rfl (.inl rfl)) (ba (ar (i:=1) (show qa3 (α:=Str) ["term","number","by"] by decide +kernel) rfl (.inl rfl)) dB)) rfl rfl rfl rfl rfl)) (λ_ _ _ _ _=>bP) (λ_ _ _ _ _=>(dj (aa (jE (gh rfl) rfl T.z_tuple qbh (aa (aL (cC (cg _ ["term","number","by"] ["k","by"] 1 [2] (lB (ns:=(ae fJ).names) rfl rfl) rfl rfl (by decide +kernel)) rfl (by decide) (bu (iv 0) rfl) (λ_ _ _ _ _=>(aT (ar (i:=0) (show qa3 (α:=Str) ["k","by"] by decide +kernel) rfl (.inl rfl)))) (λ_ _ _ _ _=>bP) (λ_ _ _ _ _=>(aM (db rfl) (iv 0) (iv 1))) (λ_=>rfl))) ag rfl) (by decide) (by decide) rfl rfl) (aa (iv 1) ag rfl) rfl))) (λ_=>rfl))) ag rfl) (by decide) (by decide) rfl rfl) ag rfl) rfl))))
theorem Az (T:Txt K mg t):bX P w K mg base CX0 1 t.f15 t.g15 ["poly","by"] (spI K ln):=
 eU (N:=["poly","by"]) (b:=nF) T.F15 zH (u6 T)
theorem lK (T:Txt K mg t):Bdy P w K mg base 3 ["f","kind","term","row"] "signed_value" bW t.f16 dN:=
 λ_ _ _ _ _ _ hr=>(ap (aR (aM (d7 rfl) (ax (uZ T) (by decide) hr rfl T.m5 T.F5.kp T.b5 (aa (iv 0) (aa (iv 3) ag rfl) rfl) (by decide) rfl rfl) (ax (uF T) (by decide) hr rfl T.m7 T.F7.kp T.b7 (aa (iv 1) (aa (iv 2) (aa (iv 3) ag rfl) rfl) rfl) (by decide) rfl rfl))))
theorem nv (T:Txt K mg t):bX P w K mg base CX0 4 t.f16 t.g16 ["f","kind","term","row"] (spI K gw):=
 eU (N:=["f","kind","term","row"]) (b:=dN) T.F16 mZ (lK T)
theorem tz (T:Txt K mg t):Bdy P w K mg base 4 ["f","kind","term"] "sum_by" eV t.f17 kX:=
 λ_ _ _ _ _ _ hr=>(ap (aR (cN (oj rfl rfl) rfl T.z_sum qcN (aa (aL (cC (cg (ae eV).names ["f","kind","term"] ["row","f","kind","term"] 1 [0,1,2] rfl rfl rfl (by decide +kernel)) rfl (by decide) (bu (ax (rc T) (by decide) hr rfl T.m4 T.F4.kp T.b4 (aa (iv 0) ag rfl) (by decide) rfl rfl) rfl) (λ_ _ _ _ _=>(aT (ar (i:=0) (show qa3 (α:=Str) ["row","f","kind","term"] by decide +kernel) rfl (.inl rfl)))) (λ_ _ _ _ _=>bP) (λ_ _ _ _ _=>(ax (nv T) (by decide) hr rfl T.m16 T.F16.kp T.b16 (aa (iv 1) (aa (iv 2) (aa (iv 3) (aa (iv 0) ag rfl) rfl) rfl) rfl) (by decide) rfl rfl)) (λ_=>rfl))) ag rfl) (by decide) (by decide) rfl rfl)))
theorem xr (T:Txt K mg t):bX P w K mg base CX0 5 t.f17 t.g17 ["f","kind","term"] (spI K lQ):=
 eU (N:=["f","kind","term"]) (b:=kX) T.F17 xL (tz T)
theorem lD (T:Txt K mg t):Bdy P w K mg base 5 ["f","n","numbers","term"] "exact_by_odd" bV t.f18 dR:=
 λ_ _ _ _ _ _ hr=>(al (aN (i:=1) dw.nd rfl (.inl rfl) (ax (jS T) (by decide) hr rfl T.m3 T.F3.kp T.b3 (aa (iv 0) ag rfl) (by decide) rfl rfl) rfl (.inl rfl)) (al (aN (i:=2) dw.nd rfl (.inl rfl) wI rfl (.inl rfl)) (al (d8 (bu (ax (t8 T) (by decide) hr rfl T.m6 T.F6.kp T.b6 (aa (iv 1) (aa (iv 1) ag rfl) rfl) (by decide) rfl rfl) rfl) (aT (ar (i:=3) dw.nd rfl (.inl rfl))) (ap (wJ hr (iv 2) (iv 3) (ax (xr T) (by decide) hr rfl T.m17 T.F17.kp T.b17 (aa (iv 0) (aa iM (aa (iv 3) ag rfl) rfl) rfl) (by decide) rfl rfl) rfl)) qbp rfl (λ_=>rfl)) (ap (aR (ax (lI T) (by decide) hr rfl T.m8 T.F8.kp T.b8 (aa iM (aa (iv 2) ag rfl) rfl) (by decide) rfl rfl))))))
theorem i4 (T:Txt K mg t):bX P w K mg base CX0 6 t.f18 t.g18 ["f"] (spI K df):=
 vh (N:=["f","n","numbers","term"]) (b:=dR) T.F18 dw (lD T)
theorem qj (T:Txt K mg t):Bdy P w K mg base 6 ["f","kind","by_odd"] "exact_of" dF t.f19 iU:=
 λ_ _ _ _ _ _ hr=>(al (aN (i:=2) mW.nd rfl (.inl rfl) (ax (i4 T) (by decide) hr rfl T.m18 T.F18.kp T.b18 (aa (iv 0) ag rfl) (by decide) rfl rfl) rfl (.inl rfl)) (al (jr (bD (gQ hr rfl) (iv 1) iM (bJ _)) (ap (aR (iv 2))) dU) (ap (aR BX))))
theorem tO (T:Txt K mg t):bX P w K mg base CX0 7 t.f19 t.g19 ["f","kind"] (spI K eG):=
 eU (N:=["f","kind","by_odd"]) (b:=iU) T.F19 mW (qj T)
theorem lF (T:Txt K mg t):Bdy P w K mg base 6 ["f"] "exact_degree" bU t.f20 dY:=
 λ_ _ _ _ _ _ hr=>(ap (aR (ax (qV T) (by decide) hr rfl T.m9 T.F9.kp T.b9 (aa (ax (i4 T) (by decide) hr rfl T.m18 T.F18.kp T.b18 (aa (iv 0) ag rfl) (by decide) rfl rfl) ag rfl) (by decide) rfl rfl)))
theorem nk (T:Txt K mg t):bX P w K mg base CX0 7 t.f20 t.g20 ["f"] (spI K gB):=
 eU (N:=["f"]) (b:=dY) T.F20 np (lF T)
theorem pg (T:Txt K mg t):Bdy P w K mg base 7 ["parts","exacts","ahead","part"] "exacts_of" cP t.f21 gS:=
 λ_ _ _ _ _ _ hr=>(al (aN (i:=1) d9.nd rfl (.inl rfl) (pA (gz ag)) rfl (.inl rfl)) (al (aN (i:=2) d9.nd rfl (.inl rfl) ai rfl (.inl rfl)) (al (d8 (bu (iv 0) rfl) (aT (ar (i:=3) d9.nd rfl (.inl rfl))) (al (lG (mj (iv 1) (aa (ax (Az T) (by decide) hr rfl T.m15 T.F15.kp T.b15 (aa (ax (tO T) (by decide) hr rfl T.m19 T.F19.kp T.b19 (aa (iv 3) (aa iM ag rfl) rfl) (by decide) rfl rfl) (aa (iv 2) ag rfl) rfl) (by decide) rfl rfl) ag rfl) rfl rfl (by decide) rfl rfl) rfl) (ap (aN (i:=2) d9.nd rfl (.inl rfl) (aM (db rfl) (iv 2) (ax (jS T) (by decide) hr rfl T.m3 T.F3.kp T.b3 (aa (iv 3) ag rfl) (by decide) rfl rfl)) rfl (.inl rfl)))) qbp rfl (λ_=>rfl)) (ap (aR (iv 1))))))
theorem qT (T:Txt K mg t):bX P w K mg base CX0 8 t.f21 t.g21 ["parts"] (spI K gR):=
 eU (N:=["parts","exacts","ahead","part"]) (b:=gS) T.F21 d9 (pg T)
theorem pR (T:Txt K mg t):Bdy P w K mg base 3 ["term","number","parts","exacts","poly","k"] "put_term" cK t.f22 iS:=
 λ_ _ _ _ _ _ hr=>(al (aN (i:=4) gT.nd rfl (.inl rfl) (dj (aa iM (aa (dj (aa (dj (aa (dj ag) (aa (aM (d7 rfl) (iv 1) (ax (qi T) (by decide) hr rfl T.m2 T.F2.kp T.b2 (aa (aL (cC (cg (ae cK).names ["term","number","parts","exacts","poly","k"] ["k","part","term"] 2 [0] rfl rfl rfl (by decide +kernel)) rfl (by decide) (wv rfl T.z_enumerate (aa (iv 2) ag rfl) rfl rfl) (λ_ _ _ _ _=>(fm (ba (ar (i:=0) (show qa3 (α:=Str) ["k","part","term"] by decide +kernel) rfl (.inl rfl)) (ba (ar (i:=1) (show qa3 (α:=Str) ["k","part","term"] by decide +kernel) rfl (.inl rfl)) dB)) rfl rfl rfl rfl rfl)) (λ_ _ _ _ _=>(eO (bD (zP rfl) (iv 0) (iv 2) rfl))) (λ_ _ _ _ _=>(cN (eA rfl) rfl T.z_len qbQ (aa (iv 1) ag rfl) (by decide) (by decide) rfl rfl)) (λ_=>rfl))) ag rfl) (by decide) rfl rfl)) ag rfl) rfl)) ag rfl)) ag rfl) rfl)) rfl (.inl rfl)) (al (d8 (bu (iv 0) rfl) (aT (ar (i:=5) gT.nd rfl (.inl rfl))) (ap (aN (i:=4) gT.nd rfl (.inl rfl) (ax (p9 T) (by decide) hr rfl T.m13 T.F13.kp T.b13 (aa (iv 4) (aa (ax (AQ T) (by decide) hr rfl T.m14 T.F14.kp T.b14 (aa (cH (iv 3) (iv 5) rfl rfl) (aa (lW ai) ag rfl) rfl) (by decide) rfl rfl) ag rfl) rfl) (by decide) rfl rfl) rfl (.inl rfl))) qbp rfl (λ_=>rfl)) (ap (aR (iv 4)))))
theorem ui (T:Txt K mg t):bX P w K mg base CX0 4 t.f22 t.g22 ["term","number","parts","exacts"] (spI K gp):=
 eU (N:=["term","number","parts","exacts","poly","k"]) (b:=iS) T.F22 gT (pR T)
theorem pT (T:Txt K mg t):Bdy P w K mg base 8 ["poly","parts","exacts","told","term","number"] "put_poly" dG t.f23 iN:=
 λ_ _ _ _ _ _ hr=>(al (aN (i:=2) dM.nd rfl (.inl rfl) (ax (qT T) (by decide) hr rfl T.m21 T.F21.kp T.b21 (aa (iv 1) ag rfl) (by decide) rfl rfl) rfl (.inl rfl)) (al (aN (i:=3) dM.nd rfl (.inl rfl) (dj (aa iM (aa (dj ag) ag rfl) rfl)) rfl (.inl rfl)) (al (d8 (bu (cH (iv 0) ai rfl rfl) rfl) (fm (ba (ar (i:=4) dM.nd rfl (.inl rfl)) (ba (ar (i:=5) dM.nd rfl (.inl rfl)) dB)) rfl rfl rfl rfl rfl) (ap (aN (i:=3) dM.nd rfl (.inl rfl) (ax (zz T) (by decide) hr rfl T.m11 T.F11.kp T.b11 (aa (iv 3) (aa (ax (ui T) (by decide) hr rfl T.m22 T.F22.kp T.b22 (aa (iv 4) (aa (iv 5) (aa (iv 1) (aa (iv 2) ag rfl) rfl) rfl) rfl) (by decide) rfl rfl) ag rfl) rfl) (by decide) rfl rfl) rfl (.inl rfl))) qbp rfl (λ_=>rfl)) (ap (aR (iv 3))))))
theorem tX (T:Txt K mg t):bX P w K mg base CX0 9 t.f23 t.g23 ["poly","parts"] (spI K iH):=
 vh (N:=["poly","parts","exacts","told","term","number"]) (b:=iN) T.F23 dM (pT T)
theorem nh (T:Txt K mg t):Bdy P w K mg base 7 ["poly","parts","degrees"] "put_degree" bG t.f24 fM:=
 λ_ _ _ _ _ _ hr=>(al (aN (i:=2) kl.nd rfl (.inr rfl) (aL (cC (cg (ae bG).names ["poly","parts","degrees"] ["part"] 1 [] rfl rfl rfl (by decide +kernel)) rfl (by decide) (bu (iv 1) rfl) (λ_ _ _ _ _=>(aT (ar (i:=0) (show qa3 (α:=Str) ["part"] by decide +kernel) rfl (.inl rfl)))) (λ_ _ _ _ _=>bP) (λ_ _ _ _ _=>(ax (nk T) (by decide) hr rfl T.m20 T.F20.kp T.b20 (aa (iv 0) ag rfl) (by decide) rfl rfl)) (λ_=>rfl))) rfl (.inl rfl)) (ap (aR (kP rfl T.z_max (aL (cC (cg (ae bG).names ["poly","parts","degrees"] ["term","number","degrees"] 2 [2] rfl rfl rfl (by decide +kernel)) rfl (by decide) (bu (cH (iv 0) ai rfl rfl) rfl) (λ_ _ _ _ _=>(fm (ba (ar (i:=0) (show qa3 (α:=Str) ["term","number","degrees"] by decide +kernel) rfl (.inl rfl)) (ba (ar (i:=1) (show qa3 (α:=Str) ["term","number","degrees"] by decide +kernel) rfl (.inl rfl)) dB)) rfl rfl rfl rfl rfl)) (λ_ _ _ _ _=>bP) (λ_ _ _ _ _=>(cN (oj rfl rfl) rfl T.z_sum qcN (aa (aL (cC (cg _ ["term","number","degrees"] ["k","degrees"] 1 [2] (lB (ns:=(ae bG).names) rfl rfl) rfl rfl (by decide +kernel)) rfl (by decide) (bu (iv 0) rfl) (λ_ _ _ _ _=>(aT (ar (i:=0) (show qa3 (α:=Str) ["k","degrees"] by decide +kernel) rfl (.inl rfl)))) (λ_ _ _ _ _=>bP) (λ_ _ _ _ _=>(cH (iv 1) (iv 0) rfl rfl)) (λ_=>rfl))) ag rfl) (by decide) (by decide) rfl rfl)) (λ_=>rfl))) ai rfl rfl))))
theorem qg (T:Txt K mg t):bX P w K mg base CX0 8 t.f24 t.g24 ["poly","parts"] (spI K fP):=
 eU (N:=["poly","parts","degrees"]) (b:=fM) T.F24 kl (nh T)
theorem nr (T:Txt K mg t):Bdy P w K mg base 0 ["_law_script","_law_seed","_law_cell"] "_law_spool" ce t.f25 fD:=
 λ_ _ _ _ _ _ hr=>(al (aN (i:=1) eP.nd rfl (.inl rfl) (aM (db rfl) (cN (eA rfl) rfl T.z_len qbQ (aa (iv 0) ag rfl) (by decide) (by decide) rfl rfl) ai) rfl (.inl rfl)) (al (d8 (bu (CI (iv 0) v8 (wO ai) rfl) rfl) (aT (ar (i:=2) eP.nd rfl (.inl rfl))) (ap (aN (i:=1) eP.nd rfl (.inl rfl) (aM hW (aM (db rfl) (aM (d7 rfl) (iv 1) ai) (iv 2)) ai) rfl (.inl rfl))) qbp rfl (λ_=>rfl)) (ap (aR (Cu (aa (pA (cC (cg (ae ce).names ["_law_script","_law_seed","_law_cell"] ["_law_cell"] 1 [] rfl rfl rfl (by decide +kernel)) rfl (by decide) (bu (CI (iv 0) v8 (wO ai) rfl) rfl) (λ_ _ _ _ _=>(aT (ar (i:=0) (show qa3 (α:=Str) ["_law_cell"] by decide +kernel) rfl (.inl rfl)))) (λ_ _ _ _ _=>(eO (bD E4 (cN yN rfl T.z_abs qf4 (aa (iv 0) ag rfl) (by decide) (by decide) rfl rfl) (aM zV ai ai) (bJ _)))) (λ_ _ _ _ _=>(cN yN rfl T.z_abs qf4 (aa (iv 0) ag rfl) (by decide) (by decide) rfl rfl)) (λ_=>rfl))) (aa (iv 1) (aa ai ag rfl) rfl) rfl))))))
theorem p7 (T:Txt K mg t):bX P w K mg base CX0 1 t.f25 t.g25 ["_law_script"] (spI K fB):=
 eU (N:=["_law_script","_law_seed","_law_cell"]) (b:=fD) T.F25 eP (nr T)
theorem oq (T:Txt K mg t):Bdy P w K mg base 0 ["_law_spool_here","_law_many","_law_digit","_law_once","_law_twice"] "_law_take" cV t.f26 eX:=
 λ_ _ _ _ _ _ hr=>(al (uI 1000000000000000000000000000000 (D6 (B6 (bD (tL hr rfl) (ft (iv 0) ai rfl rfl) (aL (gz ag)) (bJ _)) (yr (bD (gQ hr rfl) (cH (ft (iv 0) ai rfl rfl) ai rfl rfl) ai (bJ _))))) (ap (lG (EM (ft (iv 0) ai rfl rfl) (aa ai ag rfl) rfl rfl (by decide) rfl rfl) rfl)) qbp) (al (jr (bD (tL hr rfl) (ft (iv 0) ai rfl rfl) (aL (gz ag)) (bJ _)) (al (aN (i:=2) fG.nd rfl (.inl rfl) (aM hW (cH (ft (iv 0) ai rfl rfl) ai rfl rfl) (iv 1)) rfl (.inl rfl)) (al (zN (ft (iv 0) ai rfl rfl) ai (aM ly (cH (ft (iv 0) ai rfl rfl) ai rfl rfl) (iv 1)) rfl rfl rfl) (ap (aR (iv 2))))) dU) (al (x8 (iv 0) ai (aM (db rfl) (ft (iv 0) ai rfl rfl) ai) rfl rfl rfl) (al (aN (i:=3) fG.nd rfl (.inl rfl) (aM hW (aM (d7 rfl) (aM (db rfl) (ft (iv 0) ai rfl rfl) (aM (d7 rfl) ai (ft (iv 0) ai rfl rfl))) ai) ai) rfl (.inl rfl)) (al (aN (i:=4) fG.nd rfl (.inl rfl) (aM hW (aM (d7 rfl) (iv 3) (aM (db rfl) (aM (db rfl) (aM ly (iv 3) ai) (aM (d7 rfl) (ft (iv 0) ai rfl rfl) (ft (iv 0) ai rfl rfl))) ai)) ai) rfl (.inl rfl)) (ap (aR (aM hW (aM ly (iv 4) ai) (iv 1)))))))))
theorem bo (T:Txt K mg t):bX P w K mg base CX0 1 t.f26 t.g26 ["_law_spool_here","_law_many"] (spI K aA):=
 eU (N:=["_law_spool_here","_law_many","_law_digit","_law_once","_law_twice"]) (b:=eX) T.F26 fG (oq T)
theorem nn (T:Txt K mg t):Bdy P w K mg base 0 ["_law_n","_law_size","_law_every"] "_law_terms" bF t.f27 fH:=
 λ_ _ _ _ _ _ hr=>(al (qjZ (AD (i0:=2) ke.nd rfl (.inl rfl) (cg (ae bF).names ["_law_n","_law_size","_law_every"] ["_law_at","_law_n"] 1 [0] rfl rfl rfl (by decide +kernel)) rfl (by decide) (dA rfl T.z_range (aa (aM AH ai (iv 0)) ag rfl) rfl) (λ_ _ _ _ _=>(aT (ar (i:=0) (show qa3 (α:=Str) ["_law_at","_law_n"] by decide +kernel) rfl (.inr rfl)))) (λ_ _ _ _ _=>bP) (λ_ _ _ _ _=>(jE (gh rfl) rfl T.z_tuple qbh (aa (aL (cC (cg _ ["_law_at","_law_n"] ["_law_k","_law_at"] 1 [0] (lB (ns:=(ae bF).names) rfl rfl) rfl rfl (by decide +kernel)) rfl (by decide) (dA rfl T.z_range (aa (iv 1) ag rfl) rfl) (λ_ _ _ _ _=>(aT (ar (i:=0) (show qa3 (α:=Str) ["_law_k","_law_at"] by decide +kernel) rfl (.inl rfl)))) (λ_ _ _ _ _=>(eO (bD (gQ hr rfl) (aM rE (aM ve (iv 1) (iv 0)) ai) ai (bJ _)))) (λ_ _ _ _ _=>(iv 0)) (λ_=>rfl))) ag rfl) (by decide) (by decide) rfl rfl)) rfl (.inl rfl) (λ_=>rfl))) (ap (aR (aL (CA (tH hr rfl) rfl T.z_sorted qc6 (aa (aL (cC (cg (ae bF).names ["_law_n","_law_size","_law_every"] ["_law_term","_law_size"] 1 [1] rfl rfl rfl (by decide +kernel)) rfl (by decide) (bu (iv 2) rfl) (λ_ _ _ _ _=>(aT (ar (i:=0) (show qa3 (α:=Str) ["_law_term","_law_size"] by decide +kernel) rfl (.inl rfl)))) (λ_ _ _ _ _=>(eO (bD Fm (cN (eA rfl) rfl T.z_len qbQ (aa (iv 0) ag rfl) (by decide) (by decide) rfl rfl) (iv 1) (bJ _)))) (λ_ _ _ _ _=>(iv 0)) (λ_=>rfl))) ag rfl) (by decide) (by decide) rfl rfl)))))
theorem pS (T:Txt K mg t):bX P w K mg base CX0 1 t.f27 t.g27 ["_law_n","_law_size"] (spI K fO):=
 eU (N:=["_law_n","_law_size","_law_every"]) (b:=fH) T.F27 ke (nn T)
theorem pf (T:Txt K mg t):Bdy P w K mg base 1 ["_law_spool_here","_law_kind","_law_n","_law_parts","_law_term","_law_number"] "_law_poly" cS t.f28 gH:=
 λ_ _ _ _ _ _ hr=>(al (aN (i:=3) fC.nd rfl (.inl rfl) (pA (gz ag)) rfl (.inl rfl)) (al (d8 (bu (ax (pS T) (by decide) hr rfl T.m27 T.F27.kp T.b27 (aa (iv 2) (aa (iv 2) ag rfl) rfl) (by decide) rfl rfl) rfl) (aT (ar (i:=4) fC.nd rfl (.inl rfl))) (al (aN (i:=5) fC.nd rfl (.inl rfl) (cH (aL (gz (aa ai (aa (lW ai) (aa ai (aa (lW ai) (aa ai (aa (lW ai) (aa ai (aa (aM u5 (aM zV ai ai) (ax (bo T) (by decide) hr rfl T.m26 T.F26.kp T.b26 (aa (iv 0) (aa ai ag rfl) rfl) (by decide) rfl rfl)) ag rfl) rfl) rfl) rfl) rfl) rfl) rfl) rfl))) (ax (bo T) (by decide) hr rfl T.m26 T.F26.kp T.b26 (aa (iv 0) (aa ai ag rfl) rfl) (by decide) rfl rfl) rfl rfl) rfl (.inl rfl)) (ap (jr (bD CM (ax (bo T) (by decide) hr rfl T.m26 T.F26.kp T.b26 (aa (iv 0) (aa ai ag rfl) rfl) (by decide) rfl rfl) ai (bJ _)) (ap (lG (mj (iv 3) (aa (dj (aa (iv 4) (aa (iv 5) ag rfl) rfl)) ag rfl) rfl rfl (by decide) rfl rfl) rfl)) dU))) qbp rfl (λ_=>rfl)) (ap (aR (dj (aa (iv 1) (aa (jE (gh rfl) rfl T.z_tuple qbh (aa (iv 3) ag rfl) (by decide) (by decide) rfl rfl) ag rfl) rfl))))))
theorem qU (T:Txt K mg t):bX P w K mg base CX0 2 t.f28 t.g28 ["_law_spool_here","_law_kind","_law_n"] (spI K gJ):=
 vh (N:=["_law_spool_here","_law_kind","_law_n","_law_parts","_law_term","_law_number"]) (b:=gH) T.F28 fC (pf T)
theorem pG (T:Txt K mg t):Bdy P w K mg base 1 ["_law_spool_here","_law_n","_law_way","_law_one","_law_some","_law_at","_law_drawn"] "_law_full" cR t.f29 gL:=
 λ_ _ _ _ _ _ hr=>(al (wy (i:=2) (j:=3) (λ_ h=>zF rfl dS.nd rfl rfl (by decide) rfl rfl h rfl) (aa (ax (bo T) (by decide) hr rfl T.m26 T.F26.kp T.b26 (aa (iv 0) (aa ai ag rfl) rfl) (by decide) rfl rfl) (aa (ax (bo T) (by decide) hr rfl T.m26 T.F26.kp T.b26 (aa (iv 0) (aa ai ag rfl) rfl) (by decide) rfl rfl) ag rfl) rfl)) (al (aN (i:=4) dS.nd rfl (.inl rfl) (pA (gz ag)) rfl (.inl rfl)) (al (d8 (dA rfl T.z_range (aa (aM AH ai (iv 1)) ag rfl) rfl) (aT (ar (i:=5) dS.nd rfl (.inl rfl))) (al (aN (i:=6) dS.nd rfl (.inl rfl) (ax (bo T) (by decide) hr rfl T.m26 T.F26.kp T.b26 (aa (iv 0) (aa ai ag rfl) rfl) (by decide) rfl rfl) rfl (.inl rfl)) (ap (lG (mj (iv 4) (aa (cH (aL (gz (aa (iv 6) (aa (iv 6) (aa (iv 3) (aa (aM hW (aM (db rfl) (aM (db rfl) (aM hW (iv 5) ai) (aM ly (iv 5) ai)) (iv 3)) ai) ag rfl) rfl) rfl) rfl))) (iv 2) rfl rfl) ag rfl) rfl rfl (by decide) rfl rfl) rfl))) qbp rfl (λ_=>rfl)) (ap (aR (jE (gh rfl) rfl T.z_tuple qbh (aa (iv 4) ag rfl) (by decide) (by decide) rfl rfl))))))
theorem su (T:Txt K mg t):bX P w K mg base CX0 2 t.f29 t.g29 ["_law_spool_here","_law_n"] (spI K jg):=
 vh (N:=["_law_spool_here","_law_n","_law_way","_law_one","_law_some","_law_at","_law_drawn"]) (b:=gL) T.F29 dS (pG T)
theorem nu (T:Txt K mg t):Bdy P w K mg base 1 ["_law_spool_here","_law_way","_law_many","_law_first"] "_law_shape" bQ t.f30 cF:=
 λ_ _ _ _ _ _ hr=>(al (wy (i:=1) (j:=2) (λ_ h=>zF rfl hX.nd rfl rfl (by decide) rfl rfl h rfl) (aa (ax (bo T) (by decide) hr rfl T.m26 T.F26.kp T.b26 (aa (iv 0) (aa ai ag rfl) rfl) (by decide) rfl rfl) (aa (ax (bo T) (by decide) hr rfl T.m26 T.F26.kp T.b26 (aa (iv 0) (aa ai ag rfl) rfl) (by decide) rfl rfl) ag rfl) rfl)) (al (jr (bD (gQ hr rfl) (iv 1) ai (bJ _)) (ap (aR (aL (cC (cg (ae bQ).names ["_law_spool_here","_law_way","_law_many","_law_first"] ["_law_part","_law_spool_here"] 1 [0] rfl rfl rfl (by decide +kernel)) rfl (by decide) (dA rfl T.z_range (aa (aM (db rfl) ai (iv 2)) ag rfl) rfl) (λ_ _ _ _ _=>(aT (ar (i:=0) (show qa3 (α:=Str) ["_law_part","_law_spool_here"] by decide +kernel) rfl (.inl rfl)))) (λ_ _ _ _ _=>bP) (λ_ _ _ _ _=>(ax (bo T) (by decide) hr rfl T.m26 T.F26.kp T.b26 (aa (iv 1) (aa ai ag rfl) rfl) (by decide) rfl rfl)) (λ_=>rfl))))) dU) (al (jr (bD (gQ hr rfl) (iv 1) ai (bJ _)) (ap (aR (aL (gz (aa (aM (db rfl) ai (iv 2)) ag rfl))))) dU) (al (jr (bD (gQ hr rfl) (iv 1) ai (bJ _)) (al (aN (i:=3) hX.nd rfl (.inl rfl) (ax (bo T) (by decide) hr rfl T.m26 T.F26.kp T.b26 (aa (iv 0) (aa ai ag rfl) rfl) (by decide) rfl rfl) rfl (.inl rfl)) (ap (aR (aL (gz (aa (iv 3) (aa (ax (bo T) (by decide) hr rfl T.m26 T.F26.kp T.b26 (aa (iv 0) (aa (aM u5 ai (iv 3)) ag rfl) rfl) (by decide) rfl rfl) ag rfl) rfl)))))) dU) (ap (aR (aL (cC (cg (ae bQ).names ["_law_spool_here","_law_way","_law_many","_law_first"] ["_law_part","_law_spool_here"] 1 [0] rfl rfl rfl (by decide +kernel)) rfl (by decide) (dA rfl T.z_range (aa (iv 2) ag rfl) rfl) (λ_ _ _ _ _=>(aT (ar (i:=0) (show qa3 (α:=Str) ["_law_part","_law_spool_here"] by decide +kernel) rfl (.inl rfl)))) (λ_ _ _ _ _=>bP) (λ_ _ _ _ _=>(ax (bo T) (by decide) hr rfl T.m26 T.F26.kp T.b26 (aa (iv 1) (aa ai ag rfl) rfl) (by decide) rfl rfl)) (λ_=>rfl)))))))))
theorem pU (T:Txt K mg t):bX P w K mg base CX0 2 t.f30 t.g30 ["_law_spool_here"] (spI K fU):=
 eU (N:=["_law_spool_here","_law_way","_law_many","_law_first"]) (b:=cF) T.F30 hX (nu T)
theorem mY (T:Txt K mg t):Bdy P w K mg base 0 ["_law_part","_law_found","_law_whole","_law_below","_law_size","_law_signed"] "_law_exact" bA t.f31 fI:=
 λ_ _ _ _ _ _ hr=>(al (aN (i:=1) cj.nd rfl (.inl rfl) ai rfl (.inl rfl)) (al (d8 (dA rfl T.z_range (aa (cN (eA rfl) rfl T.z_len qbQ (aa (iv 0) ag rfl) (by decide) (by decide) rfl rfl) ag rfl) rfl) (aT (ar (i:=2) cj.nd rfl (.inr rfl))) (al (qjZ (AD (i0:=3) cj.nd rfl (.inl rfl) (cg (ae bA).names ["_law_part","_law_found","_law_whole","_law_below","_law_size","_law_signed"] ["_law_at","_law_whole"] 1 [2] rfl rfl rfl (by decide +kernel)) rfl (by decide) (dA rfl T.z_range (aa (cN (eA rfl) rfl T.z_len qbQ (aa (iv 0) ag rfl) (by decide) (by decide) rfl rfl) ag rfl) rfl) (λ_ _ _ _ _=>(aT (ar (i:=0) (show qa3 (α:=Str) ["_law_at","_law_whole"] by decide +kernel) rfl (.inl rfl)))) (λ_ _ _ _ _=>(eO (bD (gQ hr rfl) (aM rE (iv 0) (iv 1)) (iv 0) (bJ _)))) (λ_ _ _ _ _=>(iv 0)) rfl (.inl rfl) (λ_=>rfl))) (al (aN (i:=4) cj.nd rfl (.inl rfl) (cN (eA rfl) rfl T.z_len qbQ (aa (aL (cC (cg (ae bA).names ["_law_part","_law_found","_law_whole","_law_below","_law_size","_law_signed"] ["_law_k","_law_whole"] 1 [2] rfl rfl rfl (by decide +kernel)) rfl (by decide) (dA rfl T.z_range (aa ai ag rfl) rfl) (λ_ _ _ _ _=>(aT (ar (i:=0) (show qa3 (α:=Str) ["_law_k","_law_whole"] by decide +kernel) rfl (.inl rfl)))) (λ_ _ _ _ _=>(eO (bD (gQ hr rfl) (aM rE (aM ve (iv 1) (iv 0)) ai) ai (bJ _)))) (λ_ _ _ _ _=>(iv 0)) (λ_=>rfl))) ag rfl) (by decide) (by decide) rfl rfl) rfl (.inl rfl)) (al (qjZ (AD (i0:=5) cj.nd rfl (.inl rfl) (cg (ae bA).names ["_law_part","_law_found","_law_whole","_law_below","_law_size","_law_signed"] ["_law_at","_law_part","_law_whole"] 1 [0,2] rfl rfl rfl (by decide +kernel)) rfl (by decide) (bu (iv 3) rfl) (λ_ _ _ _ _=>(aT (ar (i:=0) (show qa3 (α:=Str) ["_law_at","_law_part","_law_whole"] by decide +kernel) rfl (.inr rfl)))) (λ_ _ _ _ _=>bP) (λ_ _ _ _ _=>(aM (d7 rfl) (cH (iv 1) (iv 0) rfl rfl) (aM u5 ai (aM hW (aM (d7 rfl) ai (cN (eA rfl) rfl T.z_len qbQ (aa (aL (cC (cg _ ["_law_at","_law_part","_law_whole"] ["_law_k","_law_whole","_law_at"] 1 [2,0] (lB (ns:=(ae bA).names) rfl rfl) rfl rfl (by decide +kernel)) rfl (by decide) (dA rfl T.z_range (aa ai ag rfl) rfl) (λ_ _ _ _ _=>(aT (ar (i:=0) (show qa3 (α:=Str) ["_law_k","_law_whole","_law_at"] by decide +kernel) rfl (.inl rfl)))) (λ_ _ _ _ _=>(eO (bD (gQ hr rfl) (aM rE (aM ve (aM DJ (iv 1) (iv 2)) (iv 0)) ai) ai (bJ _)))) (λ_ _ _ _ _=>(iv 0)) (λ_=>rfl))) ag rfl) (by decide) (by decide) rfl rfl)) ai)))) rfl (.inl rfl) (λ_=>rfl))) (ap (jr (bD (tL hr rfl) (cN (oj rfl rfl) rfl T.z_sum qcN (aa (iv 5) ag rfl) (by decide) (by decide) rfl rfl) ai (bJ _)) (ap (aN (i:=1) cj.nd rfl (.inl rfl) (cN (Fu rfl) rfl T.z_max qf3 (aa (iv 1) (aa (iv 4) ag rfl) rfl) (by decide) (by decide) rfl rfl) rfl (.inl rfl))) dU))))) qbp rfl (λ_=>rfl)) (ap (aR (iv 1)))))
theorem pP (T:Txt K mg t):bX P w K mg base CX0 1 t.f31 t.g31 ["_law_part"] (spI K iA):=
 eU (N:=["_law_part","_law_found","_law_whole","_law_below","_law_size","_law_signed"]) (b:=fI) T.F31 cj (mY T)
theorem yv (T:Txt K mg t):Bdy P w K mg base 9 ["_law_script","_law_spool_here","_law_turn","_law_shape_here","_law_poly_here","_law_parts","_law_degrees","_law_due"] "law" i3 t.f32 wN:=
 λ_ _ _ _ _ _ hr=>(al (aN (i:=1) jF.nd rfl (.inr rfl) (ax (p7 T) (by decide) hr rfl T.m25 T.F25.kp T.b25 (aa (iv 0) ag rfl) (by decide) rfl rfl) rfl (.inl rfl)) (al (d8 (dA rfl T.z_range (aa ai ag rfl) rfl) (aT (ar (i:=2) jF.nd rfl (.inl rfl))) (al (aN (i:=3) jF.nd rfl (.inl rfl) (ax (pU T) (by decide) hr rfl T.m30 T.F30.kp T.b30 (aa (iv 1) ag rfl) (by decide) rfl rfl) rfl (.inl rfl)) (al (aN (i:=4) jF.nd rfl (.inl rfl) (ax (qU T) (by decide) hr rfl T.m28 T.F28.kp T.b28 (aa (iv 1) (aa iM (aa (cN (eA rfl) rfl T.z_len qbQ (aa (iv 3) ag rfl) (by decide) (by decide) rfl rfl) ag rfl) rfl) rfl) (by decide) rfl rfl) rfl (.inl rfl)) (al (aN (i:=5) jF.nd rfl (.inl rfl) (jE (gh rfl) rfl T.z_tuple qbh (aa (aL (cC (cg (ae i3).names ["_law_script","_law_spool_here","_law_turn","_law_shape_here","_law_poly_here","_law_parts","_law_degrees","_law_due"] ["_law_n","_law_spool_here"] 1 [1] rfl rfl rfl (by decide +kernel)) rfl (by decide) (bu (iv 3) rfl) (λ_ _ _ _ _=>(aT (ar (i:=0) (show qa3 (α:=Str) ["_law_n","_law_spool_here"] by decide +kernel) rfl (.inl rfl)))) (λ_ _ _ _ _=>bP) (λ_ _ _ _ _=>(ax (su T) (by decide) hr rfl T.m29 T.F29.kp T.b29 (aa (iv 1) (aa (iv 0) ag rfl) rfl) (by decide) rfl rfl)) (λ_=>rfl))) ag rfl) (by decide) (by decide) rfl rfl) rfl (.inl rfl)) (al (aN (i:=6) jF.nd rfl (.inr rfl) (aL (cC (cg (ae i3).names ["_law_script","_law_spool_here","_law_turn","_law_shape_here","_law_poly_here","_law_parts","_law_degrees","_law_due"] ["_law_part"] 1 [] rfl rfl rfl (by decide +kernel)) rfl (by decide) (bu (iv 5) rfl) (λ_ _ _ _ _=>(aT (ar (i:=0) (show qa3 (α:=Str) ["_law_part"] by decide +kernel) rfl (.inl rfl)))) (λ_ _ _ _ _=>bP) (λ_ _ _ _ _=>(ax (pP T) (by decide) hr rfl T.m31 T.F31.kp T.b31 (aa (iv 0) ag rfl) (by decide) rfl rfl)) (λ_=>rfl))) rfl (.inl rfl)) (al (aN (i:=7) jF.nd rfl (.inl rfl) (kP rfl T.z_max (aL (cC (cg (ae i3).names ["_law_script","_law_spool_here","_law_turn","_law_shape_here","_law_poly_here","_law_parts","_law_degrees","_law_due"] ["_law_term","_law_number","_law_degrees"] 2 [6] rfl rfl rfl (by decide +kernel)) rfl (by decide) (bu (cH (iv 4) ai rfl rfl) rfl) (λ_ _ _ _ _=>(fm (ba (ar (i:=0) (show qa3 (α:=Str) ["_law_term","_law_number","_law_degrees"] by decide +kernel) rfl (.inl rfl)) (ba (ar (i:=1) (show qa3 (α:=Str) ["_law_term","_law_number","_law_degrees"] by decide +kernel) rfl (.inl rfl)) dB)) rfl rfl rfl rfl rfl)) (λ_ _ _ _ _=>bP) (λ_ _ _ _ _=>(cN (oj rfl rfl) rfl T.z_sum qcN (aa (aL (cC (cg _ ["_law_term","_law_number","_law_degrees"] ["_law_at","_law_degrees"] 1 [2] (lB (ns:=(ae i3).names) rfl rfl) rfl rfl (by decide +kernel)) rfl (by decide) (bu (iv 0) rfl) (λ_ _ _ _ _=>(aT (ar (i:=0) (show qa3 (α:=Str) ["_law_at","_law_degrees"] by decide +kernel) rfl (.inl rfl)))) (λ_ _ _ _ _=>bP) (λ_ _ _ _ _=>(cH (iv 1) (iv 0) rfl rfl)) (λ_=>rfl))) ag rfl) (by decide) (by decide) rfl rfl)) (λ_=>rfl))) ai rfl rfl) rfl (.inl rfl)) (al (jr (bD (tL hr rfl) (cN (wA hr rfl) rfl T.z_repr qfX (aa (ax (qg T) (by decide) hr rfl T.m24 T.F24.kp T.b24 (aa (iv 4) (aa (iv 5) ag rfl) rfl) (by decide) rfl rfl) ag rfl) (by decide) (by decide) rfl rfl) (cN (wA hr rfl) rfl T.z_repr qfX (aa (iv 7) ag rfl) (by decide) (by decide) rfl rfl) (bJ _)) (ap (aR AM)) dU) (ap (jr (bD CM (kP rfl T.z_max (aL (cC (cg (ae i3).names ["_law_script","_law_spool_here","_law_turn","_law_shape_here","_law_poly_here","_law_parts","_law_degrees","_law_due"] ["_law_term","_law_number"] 2 [] rfl rfl rfl (by decide +kernel)) rfl (by decide) (bu (cH (ax (tX T) (by decide) hr rfl T.m23 T.F23.kp T.b23 (aa (iv 4) (aa (iv 5) ag rfl) rfl) (by decide) rfl rfl) ai rfl rfl) rfl) (λ_ _ _ _ _=>(fm (ba (ar (i:=0) (show qa3 (α:=Str) ["_law_term","_law_number"] by decide +kernel) rfl (.inl rfl)) (ba (ar (i:=1) (show qa3 (α:=Str) ["_law_term","_law_number"] by decide +kernel) rfl (.inl rfl)) dB)) rfl rfl rfl rfl rfl)) (λ_ _ _ _ _=>bP) (λ_ _ _ _ _=>(cN (eA rfl) rfl T.z_len qbQ (aa (iv 0) ag rfl) (by decide) (by decide) rfl rfl)) (λ_=>rfl))) ai rfl rfl) (iv 7) (bJ _)) (ap (aR AM)) dU)))))))) qbp rfl (λ_=>rfl)) (ap (aR AM))))
theorem EL (T:Txt K mg t):bX P w K mg base CX0 10 t.f32 t.g32 ["_law_script"] (spI K tD):=
 vh (N:=["_law_script","_law_spool_here","_law_turn","_law_shape_here","_law_poly_here","_law_parts","_law_degrees","_law_due"]) (b:=wN) T.F32 jF (yv T)
end
end Own
end
namespace L2
open PySem
end L2
namespace L2
def fj:Nat->List (List Int)
 |0=>[[]]
 |n+1=>fj n++(fj n).map λt=>t++[(n:Int)]
def cO (n:Nat):List (List Int):=bh (fj n)
theorem ot:∀ n,(fj n).length=2^n
 |0=>rfl
 |n+1=>by rw[fj,qa2,qae,ot n,qkN];lia
theorem t0 (n:Nat):(cO n).length=2^n:=by rw[cO,(aZ _).length_eq,ot]
def Trm (n:Nat) (t:List Int):Prop:=t.Pairwise (·<·)/\∀ k∈t,0<=k/\k<n
theorem Trm.mono {n m:Nat}{t:List Int} (h:Trm n t) (hn:n<=m):Trm m t:=⟨h.1,λk hk=>⟨(h.2 k hk).1,by have:=(h.2 k hk).2;lia⟩⟩
theorem jI:∀ (n:Nat) {t:List Int},t∈fj n->Trm n t
 |0,t,h=>by
  rw[fj,qaO]at h
  subst h
  exact⟨List.Pairwise.nil,λk hk=>by cases hk⟩
 |n+1,t,h=>by
  rcases qbe.mp h with h|h
  ·exact (jI n h).mono (qcS n)
  ·obtain⟨u,hu,rfl⟩:=qap.mp h
   have:=jI n hu
   refine⟨qfa.mpr ⟨this.1,qhb _ _,λa ha b hb=>?_⟩,λk hk=>?_⟩
   ·rw[qaO.mp hb];exact (this.2 a ha).2
   ·rcases qbe.mp hk with hk|hk
    ·exact⟨(this.2 k hk).1,by have:=(this.2 k hk).2;lia⟩
    ·rw[qaO.mp hk];lia
theorem ij {n:Nat}{t:List Int} (h:t∈cO n):Trm n t:=jI n ((aZ _).mem_iff.mp h)
theorem gY {n:Nat}{t:List Int} (h:Trm n t):t.length<=n:=by
 have key:∀ (t:List Int) (a:Int),t.Pairwise (·<·)->(∀ k∈t,a<=k/\k<n)->(t.length:Int)<=max 0 ((n:Int) - a):=by
  intro t
  induction t with
  |nil=>intro a _ _;simp;lia
  |cons x t ih=>
   intro a hp hm
   have h1:=hm x qak
   have:=ih (x+1) (qbx.mp hp).2 λk hk=>⟨(qbx.mp hp).1 k hk,(hm k (qah _ hk)).2⟩
   rw[qas];push_cast;lia
 have:=key t 0 h.1 h.2
 lia
theorem pQ (p:List Int->Bool) (l:List (List Int)):bh (l.filter p)=(bh l).filter p:=
 fQ ((aZ _).trans ((aZ l).symm.filter p)) (cJ _) ((cJ l).filter p)
def eu (m:Int):Nat->List (List Int)
 |0=>[[]]
 |n+1=>eu m n++((eu m n).filter λt=>decide ((t.length:Int)<m)).map λt=>t++[(n:Int)]
theorem nE (m:Int) (h0:0<=m):∀ n,eu m n=(fj n).filter λt=>decide ((t.length:Int)<=m)
 |0=>by simp[eu,fj,h0]
 |n+1=>by
  rw[eu,fj,qip,nE m h0 n,List.filter_filter,qcJ]
  congr 2
  refine qiC λt _=>?_
  rw[qdx]
  simp
  lia
theorem t3 (m:Int) (h0:0<=m) (n:Nat):(eu m n).length<=2^n:=by
 rw[nE m h0,<-ot n];exact qcA _ _
def onI (row k:Int):Int:=row / 2^k.toNat%2
def cI (row:Int):List Int->Int
 |[]=>0
 |k::t=>onI row k+cI row t
theorem mQ (row k:Int):onI row k=0\/onI row k=1:=by unfold onI;lia
theorem sW (row:Int):∀ t:List Int,(t.map (onI row)).sum=cI row t
 |[]=>rfl
 |k::t=>by rw[qal,qaF,sW row t];rfl
theorem mP (row:Int):∀ t:List Int,((t.filter λk=>onI row k==1).length:Int)=cI row t
 |[]=>rfl
 |k::t=>by
  rw[qcy]
  have ih:=mP row t
  rcases mQ row k with e|e
  ·rw[e];simp only[cI,e];simpa using ih
  ·rw[e];simp only[cI,e,beq_self_eq_true,if_true,qas];push_cast;lia
theorem nS (row:Int):∀ t:List Int,0<=cI row t/\cI row t<=t.length
 |[]=>by simp[cI]
 |k::t=>by
  have ih:=nS row t
  rcases mQ row k with e|e<;>(simp only[cI,e,qas];push_cast;lia)
theorem n4:∀ (ls:List (List Int)),oU (ls.map aj)=some ((bh ls).map aj)
 |[]=>rfl
 |t::r=>by
  have e:bf ((t::r).map aj)=none:=rfl
  unfold oU
  rw[e,oN];rfl
def zn (u:D):Prop:=u=.non\/u=.int 0\/u=.int 1
def dn:Nat->List D->List Int
 |_,[]=>[]
 |i,.non::r=>dn (i+1) r
 |i,_::r=>(i:Int)::dn (i+1) r
def sgD:D->Int
 |.int v=>if v=1 then 1 else -1
 |_=>1
def sgS (g:Int->Int):Nat->List D->Int
 |_,[]=>0
 |i,.non::r=>sgS g (i+1) r
 |i,d::r=>sgD d*g i+sgS g (i+1) r
theorem sL (g:Int->Int) (fs:List D):∀ (r:List D) (i:Nat),(∀ u∈r,zn u)->fs.drop i=r->((dn i r).map λj=>sgD (fs.getD j.toNat .non)*g j).sum=sgS g i r
 |[],i,_,_=>rfl
 |d::r,i,hv,h=>by
  have hd:fs[i]?=some d:=by
   have:=congrArg (λl=>l[0]?) h
   simpa using this
  have hr:fs.drop (i+1)=r:=by
   have:=congrArg (qml 1) h
   simpa [qjd,qf7] using this
  have ih:=sL g fs r (i+1) (λu hu=>hv u (qah _ hu)) hr
  rcases hv d qak with rfl|rfl|rfl
  ·exact ih
  ·show ((_::dn (i+1) r).map _).sum=sgD (.int 0)*g i+sgS g (i+1) r
   rw[qal,qaF,ih,qaW,qaQ,hd];rfl
  ·show ((_::dn (i+1) r).map _).sum=sgD (.int 1)*g i+sgS g (i+1) r
   rw[qal,qaF,ih,qaW,qaQ,hd];rfl
theorem qQ:∀ (r:List D) (i:Nat) {j:Int},j∈dn i r->∃ m:Nat,j=((i+m:Nat):Int)/\m<r.length/\r[m]?≠some .non
 |[],i,j,h=>by cases h
 |d::r,i,j,h=>by
  have up:j∈dn (i+1) r->∃ m:Nat,j=((i+m:Nat):Int)/\m<(d::r).length/\(d::r)[m]?≠some .non:=λh=>by
   obtain⟨m,e,hm,hn⟩:=qQ r (i+1) h
   exact⟨m+1,by rw[e];congr 1;lia,by simpa using hm,by simpa using hn⟩
  cases d with
  |non=>exact up h
  |_=>
   rcases qaC.mp h with rfl|h
   ·exact⟨0,by simp,by simp,by simp⟩
   ·exact up h
def Bi:D->Bool
 |.tup [_,v]=>!yC v
 |_=>false
def FD:D->D
 |.tup [j,_]=>j
 |d=>d
theorem om:∀ (r:List D) (i:Nat),((dJ i r).filter Bi).map FD=(dn i r).map D.int
 |[],i=>rfl
 |d::r,i=>by
  have ih:=om r (i+1)
  have e0:dJ i (d::r)=.tup [.int (i:Int),d]::dJ (i+1) r:=rfl
  rw[e0,qcy]
  cases d<;>first
   |(rw[if_neg (show ¬ Bi (.tup [.int (i:Int),.non])=true from (λh=>by cases h))];exact ih)
   |(rw[if_pos (show Bi (.tup [.int (i:Int),_])=true from rfl),qal,ih];rfl)
theorem qv:∀ (r:List D) (i:Nat),(dn i r).length<=r.length
 |[],i=>qan _
 |d::r,i=>by
  have ih:=qv r (i+1)
  cases d<;>first
   |(show (dn (i+1) r).length<=r.length+1;lia)
   |(show (dn (i+1) r).length+1<=r.length+1;lia)
def qe (b:Bool) (on:Int):Int:=if b=true then on else 1 - 2*on
end L2
namespace L2
open PySem
abbrev Prt:=List Int×Int
def au (p:Prt):D:=.tup [aj p.1,.int p.2]
def ao (kd:Str) (ps:List Prt):D:=.tup [.str kd,.tup (ps.map au)]
theorem mf {ps:List Prt}{i:Nat}{d:D} (h:(ps.map au)[i]?=some d):∃ p,ps[i]?=some p/\d=.tup [aj p.1,.int p.2]:=by
 rw[qaZ,qaf]at h
 obtain⟨p,hp,rfl⟩:=h
 exact⟨p,hp,rfl⟩
theorem gy {te:Ef}{env:Ev}{st:Sto} (F:Prt->D):∀ {ps:List Prt},(∀ p∈ps,∃ e1,fV (.tp [0,1]) (.d (au p)) env=some e1/\te e1 st=some (.d (F p),st))->lcI (.tp [0,1]) bB te env (ps.map au) st=some (ps.map F,st)
 |[],_=>rfl
 |p::ps,h=>by
  obtain⟨e1,h1,h2⟩:=h p qak
  have ih:=gy (te:=te) (env:=env) (st:=st) F (ps:=ps) λx hx=>h x (qah _ hx)
  rw[qal,qal]
  unfold lcI
  rw[h1,qad,show bB e1 st=some (true,st) from rfl,qad,if_pos rfl,h2,qad,ih];rfl
theorem kZ:∀ (ns:List Int) (m:Int),m<=gD ns m/\∀ n∈ns,n<=gD ns m
 |[],m=>⟨qdm _,λ_ h=>by cases h⟩
 |n::ns,m=>by
  have ih:=kZ ns (if n > m then n else m)
  rw[gD]
  refine⟨qe5 ?_ ih.1,λk hk=>?_⟩
  ·split<;>lia
  ·rcases qaC.mp hk with rfl|hk
   ·refine qe5 ?_ ih.1
    split<;>lia
   ·exact ih.2 k hk
theorem oD (ns:List Int) (h:∀ n∈ns,0<=n):wK ns (some 0)=some (gD ns 0):=by
 cases ns with
 |nil=>rfl
 |cons n r=>
  have:(if n > 0 then n else 0)=n:=by have:=h n qak;split<;>lia
  show some (gD r n)=some (gD r (if n > 0 then n else 0))
  rw[this]
theorem nP {M:Int}:∀ (ns:List Int) (m:Int),m<=M->(∀ n∈ns,n<=M)->gD ns m<=M
 |[],m,hm,_=>hm
 |n::ns,m,hm,h=>by
  rw[gD]
  refine nP ns _ ?_ λk hk=>h k (qah _ hk)
  have:=h n qak
  split<;>lia
theorem az {g:Sto->W->W->Option D}{a b:Ef}{env:Ev}{st s1 s2:Sto}{x y:W}{d:D} (ha:a env st=some (x,s1)) (hb:b env s1=some (y,s2)) (hg:g s2 x y=some d):iOp g a b env st=some (.d d,s2):=by
 simp only[iOp,ha,hb,hg,qad,qaB]
theorem aX {g:Sto->W->W->Option D}{a b:Ef}{env:Ev}{st s1 s2:Sto}{x y:W}{k:Bool} (ha:a env st=some (x,s1)) (hb:b env s1=some (y,s2)) (hg:g s2 x y=some (.bl k)):cm g a b env st=some (k,s2):=by
 simp only[cm,ha,hb,hg,qad,rP,qaB]
theorem am {a b:Sf}{env e:Ev}{st s:Sto}{r:Fl} (ha:a env st=some (.nx e s)) (hb:b e s=some r):ay a b env st=some r:=by
 simp only[ay,ha,hb,qad]
theorem iK {a b:Sf}{env:Ev}{st s:Sto}{w:W} (ha:a env st=some (.rt w s)):ay a b env st=some (.rt w s):=by
 simp only[ay,ha,qad]
theorem aJ {i:Nat}{f:Ef}{env:Ev}{st s:Sto}{w:W} (h:f env st=some (w,s)):aW (.nm i) f env st=some (.nx (env.set i (some w)) s):=by
 simp only[aW,h,qad,fV,qaB]
theorem aq {m:Fn}{a:Af}{env:Ev}{st s:Sto}{ws:List W}{r:W×Sto} (ha:a env st=some (ws,s)) (hm:m ws s=some r):aD m a env st=some r:=by
 simp only[aD,ha,hm,qad]
theorem bn {g:Sto->List W->Option D}{a:Af}{env:Ev}{st s:Sto}{ws:List W}{d:D} (ha:a env st=some (ws,s)) (hm:g s ws=some d):iCB g a env st=some (.d d,s):=by
 simp only[iCB,ha,hm,qad,qaB]
theorem ah {a:Ef}{b:Af}{env:Ev}{st s1 s2:Sto}{x:W}{y:List W} (ha:a env st=some (x,s1)) (hb:b env s1=some (y,s2)):ab a b env st=some (x::y,s2):=by
 simp only[ab,ha,hb,qad,qaB]
theorem dC {fi:Lf}{g:Tg}{b:Sf}{env:Ev}{st s:Sto}{ds:List D}{r:Fl} (h:fi env st=some (ds,s)) (hf:mh g b ds env s=some r):gE fi g b env st=some r:=by
 simp only[gE,h,hf,qad]
theorem aI {f:Ef}{env:Ev}{st s:Sto}{w:W} (h:f env st=some (w,s)):bM f env st=some (.rt w s):=by
 simp only[bM,h,qaB]
theorem lP {c:Tf}{a b:Sf}{env:Ev}{st s:Sto}{r:Option Fl} (h:c env st=some (true,s)) (ha:a env s=r):ix c a b env st=r:=by
 simp only[ix,h,qad,if_true,ha]
theorem im {c:Tf}{a b:Sf}{env:Ev}{st s:Sto}{r:Option Fl} (h:c env st=some (false,s)) (hb:b env s=r):ix c a b env st=r:=by
 simp only[ix,h,qad,qax,if_false,hb]
theorem bK {k:Nat}{js:List Nat}{fi:Lf}{g:Tg}{tt:Tf}{te:Ef}{env:Ev}{st s s2:Sto}{ds ys:List D} (h:fi env st=some (ds,s)) (hl:ds.length<=1000000) (hc:lcI g tt te (lz k js env) ds s=some (ys,s2)):iLc k js fi g tt te env st=some (ys,s2):=by
 simp only[iLc,h,hc,hl,qad,if_true]
theorem aE {a:Lf}{env:Ev}{st s:Sto}{ds:List D} (h:a env st=some (ds,s)):aC a env st=some (.d (.lst ds),s):=by
 simp only[aC,h,qaB]
theorem aG {n k:Nat}{b:Sf}{ws:List W}{st s:Sto}{w:W} (hl:ws.length=k) (h:b (ws.map some++qaT (n - k) none) st=some (.rt w s)):dg n k b ws st=some (w,s):=by
 simp only[dg,hl,if_true,h,qad]
theorem gq {n k:Nat}{b:Sf}{ws:List W}{st s:Sto}{x:D} (hl:ws.length=k) (h:b (ws.map some++qaT (n - k) none) st=some (.rt (.d x) s)):ni n k b ws st=some (.d x,s.take st.length):=by
 simp only[ni,hl,if_true,h,qad,BY]
structure Spo where
 xs:List Int
 s:Int
 c:Int
def spo (p:Spo) (rest:Sto):Sto:=.l (p.xs.map D.int)::.n [.h 0,.d (.int p.s),.d (.int p.c)]::rest
def okP (p:Spo) (Z:Int):Prop:=(∀ x∈p.xs,0<=x)/\p.xs.length<=63/\0<=p.c/\p.c<=Z
theorem okP.mono {p:Spo}{Z Z':Int} (h:okP p Z) (hz:Z<=Z'):okP p Z':=⟨h.1,h.2.1,h.2.2.1,qe5 h.2.2.2 hz⟩
theorem wq (p:Spo) (rest:Sto):(spo p rest).length=rest.length+2:=rfl
theorem uH (p:Spo) (rest:Sto):(spo p rest)[0]?=some (.l (p.xs.map D.int)):=rfl
theorem sT (p:Spo) (rest:Sto):(spo p rest)[1]?=some (.n [.h 0,.d (.int p.s),.d (.int p.c)]):=rfl
theorem tE (p:Spo) (rest:Sto) (ys:List Int):(spo p rest).set 0 (.l (ys.map D.int))=spo { p with xs:=ys } rest:=rfl
theorem yK (p:Spo) (rest:Sto) (a b:Int):(spo p rest).set 1 (.n [.h 0,.d (.int a),.d (.int b)])=spo { p with s:=a,c:=b } rest:=rfl
theorem uC (p:Spo) (rest u:Sto):(spo p (rest++u)).take (rest.length+2)=spo p rest:=by
 unfold spo
 rw[qh4,qh4,List.take_left]
theorem Dk (p:Spo) (rest:Sto) (c:C):(spo p (rest++[c]))[rest.length+2]?=some c:=by
 unfold spo
 simp
theorem rW (p:Spo) (rest:Sto) (ds:List D):lg (spo p (rest++[.l ds])) (rest.length+2)=some ds:=by
 unfold lg;rw[Dk]
theorem wT (p:Spo) (rest:Sto) (c c':C):(spo p (rest++[c])).set (rest.length+2) c'=spo p (rest++[c']):=by
 unfold spo
 simp
end L2
section
set_option maxHeartbeats 1000000
namespace Own
open PySem L2
theorem Gc:rV 10 18:=p18
theorem CQ {many:Int}:∀ (xs:List Int) (p:Spo) (rest:Sto) (f:Nat),p.xs=xs->xs.length<f->(∀ x∈xs,0<=x)->
  ∃ ys:List Int,ys.length<=xs.length/\(∀ x∈ys,0<=x)/\(∀ x l,ys=x::l->x≠0)/\
   ∀ rest:Sto,dl da h8 f [some (.h 1),some (.d (.int many)),none,none,none] (spo p rest)=some (.nx [some (.h 1),some (.d (.int many)),none,none,none] (spo { p with xs:=ys } rest))
 |[],p,_,f+1,h,_,_=>by
  refine⟨[],qan _,(λx hx=>nomatch hx),(λx l e=>nomatch e),λrest=>?_⟩
  obtain⟨pxs,ps,pc⟩:=p
  dsimp only at h;subst h
  unfold dl
  simp only[da,iV,iC,iOp,cm,qF,ak,eI,aC,mx,rP,kC,dIx,dEq,dNe,kj,eqK,h9,qad,qaB,qa1,qcM,qbS,if_true,if_false,qax,qbM,xh,qeU,and_self,iF,lg,qa7,uH,sT,qcM,qbM]
 |x::xs,p,rest0,f+1,h,hf,h0=>by
  obtain⟨pxs,ps,pc⟩:=p
  dsimp only at h;subst h
  by_cases hx:x=0
  ·subst hx
   obtain⟨ys,a1,a2,a3,a4⟩:=CQ (many:=many) xs ⟨xs,ps,pc⟩ rest0 f rfl (by simp at hf;lia) λy hy=>h0 y (qah _ hy)
   refine⟨ys,by simp;lia,a2,a3,λrest=>?_⟩
   have a5:=a4 rest
   unfold dl
   have e:=tE ⟨0::xs,ps,pc⟩ rest xs
   simp only[da,h8,iV,iC,iOp,cm,qF,ak,ab,eI,aC,i5,gt,mx,rP,kC,dIx,dEq,dNe,kj,eqK,eqD,h9,cQ,qad,qaB,qa1,qal,qas,qbS,if_true,if_false,qdM,xh,Fo,List.getElem?_cons_zero,qbL,qeU,and_self,iF,AF,lg,qa7,qfF,uH,sT,show ((0:Int)==0)=true from rfl,List.eraseIdx_cons_zero,show ((-(2^62):Int)<=0) by decide,show ((0:Int)<2^62) by decide,e]
   exact a5
  ·refine⟨x::xs,qan _,h0,λy l e=>by cases e;exact hx,λrest=>?_⟩
   unfold dl
   have hb:(x==0)=false:=by rw[beq_eq_false_iff_ne];exact hx
   simp only[da,iV,iC,iOp,cm,qF,ak,eI,aC,mx,rP,kC,dIx,dEq,dNe,kj,eqK,eqD,h9,qad,qaB,qa1,qal,qas,qbS,if_true,if_false,qax,qdM,xh,qbL,qeU,iF,lg,qa7,qfF,uH,sT,hb]
theorem d3 {p:Spo}{m Z:Int} (h:okP p Z) (hZ:Z<1000000000) (m0:0<m) (m1:m<1073741824):∃ r p',0<=r/\r<m/\okP p' (Z+1)/\∀ rest,aA [.h 1,.d (.int m)] (spo p rest)=some (.d (.int r),spo p' rest):=by
 obtain⟨h0,h63,c0,c1⟩:=h
 obtain⟨ys,y1,y2,y3,y4⟩:=CQ (many:=m) p.xs p [] 1000000000000000000000000000000 rfl (by lia) h0
 obtain⟨pxs,ps,pc⟩:=p
 dsimp only at h0 h63 c0 c1 y1 y4
 cases ys with
 |cons x l=>
  refine⟨x%m,⟨x / m::l,ps,pc⟩,qgF _ (by lia),qfP _ m0,⟨λz hz=>?_,by simp at y1 ⊢;lia,c0,by dsimp only;lia⟩,λrest=>?_⟩
  ·rcases qaC.mp hz with hz|hz
   ·subst hz;exact qjf (y2 x qak) (by lia)
   ·exact y2 z (qah _ hz)
  ·have e:=tE ⟨x::l,ps,pc⟩ rest (x / m::l)
   have y5:=y4 rest
   simp only[qal]at e
   simp only[aA,eX,n8,iV,iC,iOp,cm,ak,eI,aC,gF,ay,aW,ue,oJ,bM,ix,dg,fV,mx,rP,kC,lsD,dIx,dO,fu,kf,i6,dNe,kj,eqK,h9,qad,qaB,qa1,qbm,qds,qdt,qal,qcM,qas,qbS,qbG,qfl,qb3,qcH,qhs,qhr,if_true,if_false,qdM,xh,Fo,qbz,qbL,qeU,and_self,iF,kS,lg,qa7,qfF,qhv,y5,uH,sT,m0,m1,e]
 |nil=>
  obtain⟨u,hu⟩:∃ u,(ps+104729*(pc+1))*48271%2305843009213693951=u:=⟨_,rfl⟩
  have u0:0<=u:=by rw[<-hu];exact qgF _ (by decide)
  have u1:u<2305843009213693951:=by rw[<-hu];exact qfP _ (by decide)
  have k1:∀ q,qbF 104729 q:=λq=>kY (by decide)
  have k2:∀ q,qbF q 48271:=λq=>fW (by decide)
  have k3:qbF (pc+1) (pc+1):=fW ⟨by lia,by lia⟩
  have k4:∀ q,qbF u q:=λq=>kY ⟨by lia,by lia⟩
  refine⟨u*(u / 1000003+(pc+1)*(pc+1)+7)%2305843009213693921 / 8191%m,⟨[],ps,pc+1⟩,qgF _ (by lia),qfP _ m0,⟨λz hz=>(nomatch hz),by simp,by dsimp only;lia,by dsimp only;lia⟩,λrest=>?_⟩
  have y5:=y4 rest
  have e:=yK ⟨[],ps,pc⟩ rest ps (pc+1)
  simp only[aA,eX,n8,iV,iC,iOp,cm,ak,eI,aC,gF,ay,aW,ue,oJ,bM,ix,dg,fV,mx,rP,kC,lsD,dIx,dO,fu,kf,i6,dNe,kj,eqK,h9,qad,qaB,qa1,qbm,qds,qdt,qal,qcM,qas,qbS,qbG,qfl,qb3,qcH,qhs,qhr,if_true,if_false,qax,qbM,xh,EQ,Gr,Gz,qbz,qeU,and_self,iF,kS,lg,qa7,qhv,y5,uH,sT,m0,e,k1,k2,k3,k4,hu,show (0:Int)<2305843009213693921 by decide,show (0:Int)<2305843009213693951 by decide,show (0:Int)<1000003 by decide,show (1000003:Int)<1073741824 by decide,show (0:Int)<8191 by decide,show (8191:Int)<1073741824 by decide]
theorem AT (ns:List Int) (hn:ns.length<=63):∃ p,okP p 0/\fB [.d (.scr ns)] []=some (.h 1,spo p []):=by
 have ec:n6 (ns.map D.int) none (some 63)=ns.map D.int:=by
  unfold n6
  have e1:HT.sIx (ns.map D.int).length 0 none=0:=rfl
  have e2:HT.sIx (ns.map D.int).length (ns.map D.int).length (some 63)=(ns.map D.int).length:=by
   unfold HT.sIx;simp;lia
  rw[e1,e2,qem,qf6,qbv]
 have k1:∀ q,qbF q 1000003:=λq=>fW (by decide)
 have hF:∀ (l:List Int) (sd:Int) (last:Option W) ,∃ sd' last',mh (.nm 2) gf (l.map D.int) [some (.d (.scr ns)),some (.d (.int sd)),last] []=some (.nx [some (.d (.scr ns)),some (.d (.int sd')),last'] []):=by
  intro l
  induction l with
  |nil=>exact λsd last=>⟨sd,last,rfl⟩
  |cons x l ih=>
   intro sd last
   obtain⟨a,b,e⟩:=ih ((sd*1000003+x)%2305843009213693951) (some (.d (.int x)))
   refine⟨a,b,?_⟩
   rw[qal]
   unfold mh
   simp only[gf,iV,iC,iOp,aW,fV,lsD,dO,fu,i6,qad,qaB,qa1,qbm,qds,qdt,if_true,lg,qhv,k1,show (0:Int)<2305843009213693951 by decide]
   exact e
 have hL:lcI (.nm 0) dZ dW [none] (ns.map D.int) []=some (((ns.filter λx=>decide (x.natAbs>=10^18)).map λx:Int=>(x.natAbs:Int)).map D.int,[]):=by
  have:=dm (g:=.nm 0) (tt:=dZ) (te:=dW) (env:=[none]) (st:=[]) (λd=>match d with|.int x=>decide (x.natAbs>=10^18)|_=>false) (λd=>match d with|.int x=>.int (x.natAbs:Int)|d=>d) (ds:=ns.map D.int) λd hd=>by
   obtain⟨x,_,rfl⟩:=qap.mp hd
   have ea:(if x<0 then -x else x)=(x.natAbs:Int):=by split<;>lia
   refine⟨[some (.d (.int x))],rfl,?_,λ_=>?_⟩
   ·have eb:decide ((x.natAbs:Int)>=10^qhQ 18)=decide (x.natAbs>=10^18):=by
     rw[show qhQ 18=18 from rfl]
     rw[qdx];simp;lia
    simp only[dZ,iV,iC,iOp,cm,ak,ab,iCB,rP,ya,dGe,yu,qad,qaB,qa1,if_true,ea,Gc,eb]
   ·simp only[dW,iV,ak,ab,iCB,yu,qad,qaB,qa1,ea]
  rw[this]
  rw[qcJ,qaL,qaL]
  rfl
 obtain⟨sd',last',e1⟩:=hF ns ((ns.length:Int)+11) none
 refine⟨⟨(ns.filter λx=>decide (x.natAbs>=10^18)).map λx:Int=>(x.natAbs:Int),sd',0⟩,⟨λx hx=>?_,?_,qdm 0,qdm 0⟩,?_⟩
 ·obtain⟨y,_,rfl⟩:=qap.mp hx;lia
 ·rw[qae];exact qaH (qcA _ _) hn
 ·have hlen:ns.length<=1000000:=by lia
  simp only[fB,fD,iV,iC,iOp,ak,ab,iCB,mB,ay,aW,bM,gE,iLc,aB,iSl,iPn,iPs,dg,fV,Ed,lz,kC,lsD,dO,eB,dSl,qad,qaB,qa1,qbm,qds,qdt,qal,qcM,qas,qbS,qbG,qfl,qb3,qcH,qhs,qhr,if_true,qbz,wY,lg,ec,qae,e1,hlen,hL,show (3:Nat)<=1000 by decide]
  rfl
end Own
end
section
set_option maxHeartbeats 1000000
namespace Own
open PySem L2
theorem cn {a:Af}{env:Ev}{st s:Sto}{ws:List W}{ds:List D} (h:a env st=some (ws,s)) (hd:mx ws=some ds) (hl:ds.length<=1000:=by decide):cp a env st=some (.d (.tup ds),s):=by
 simp only[cp,h,hd,hl,qad,if_true]
theorem lJ {a:Af}{env:Ev}{st s:Sto}{ws:List W}{ds:List D} (h:a env st=some (ws,s)) (hd:mx ws=some ds) (hl:ds.length<=1000:=by decide):eI a env st=some (ds,s):=by
 simp only[eI,h,hd,hl,qad,if_true]
theorem ik {f:Ef}{env:Ev}{st s:Sto}{ds:List D} (h:f env st=some (.d (.tup ds),s)):aB f env st=some (ds,s):=by
 simp only[aB,h,qad]
theorem fz {e:Ef}{z:Int}{m:Nat}{env:Ev}{st s:Sto} (he:e env st=some (.d (.int z),s)) (h0:0<=z) (h1:z<=1000) (hm:z.toNat=m):ci (ab e ak) env st=some (eZ 0 m,s):=by
 have hb:-(2^62)<=z/\z<2^62:=⟨qe5 (by decide) h0,Int.lt_of_le_of_lt h1 (by decide)⟩
 have h2:=ah (b:=ak) he rfl
 simp only[ci,h2,qad,hb,and_self,if_true,hm]
theorem fY {f:Ef}{env:Ev}{st s:Sto}{ds:List D} (h:f env st=some (.d (.lst ds),s)):aB f env st=some (ds,s):=by
 simp only[aB,h,qad]
theorem cw {f:Ef}{env:Ev}{st s:Sto}{ds:List D} (h:f env st=some (.d (.tup ds),s)):aB f env st=some (ds,s):=by
 simp only[aB,h,qad]
theorem vV {c:Tf}{a b:Ef}{env:Ev}{st s:Sto}{r:Option (W×Sto)} (h:c env st=some (true,s)) (ha:a env s=r):se c a b env st=r:=by
 simp only[se,h,qad,if_true,ha]
theorem vP {c:Tf}{a b:Ef}{env:Ev}{st s:Sto}{r:Option (W×Sto)} (h:c env st=some (false,s)) (hb:b env s=r):se c a b env st=r:=by
 simp only[se,h,qad,qax,if_false,hb]
theorem xb (s:Sto) (ns:List Int):me s [.d (.lst (ns.map D.int))]=some (.int ns.sum):=by
 show (bf (ns.map D.int)).map (λns=>D.int ns.sum)=_
 rw[bC];rfl
theorem Cz (s:Sto) {a b:Int} (h:0<=b):t6 s (.d (.int a)) (.d (.int b))=some (.int (a / 2^b.toNat)):=if_pos h
theorem kn (s:Sto) (a b:Int):dEq s (.d (.int a)) (.d (.int b))=some (.bl (a==b)):=by
 show ((eqK (.fl (.int a)) (.fl (.int b))).map λk=>D.bl k)=_
 rfl
theorem CP (s:Sto) (a b:Str):dEq s (.d (.str a)) (.d (.str b))=some (.bl (a==b)):=by
 show ((eqK (.fl (.str a)) (.fl (.str b))).map λk=>D.bl k)=_
 rfl
theorem Ej (s:Sto) {a b:List D} (h:a.length+b.length<=1000000):dO s (.d (.lst a)) (.d (.lst b))=some (.lst (a++b)):=if_pos h
theorem Ar (s:Sto) {a b:List D} (h:a.length+b.length<=1000000):dO s (.d (.tup a)) (.d (.tup b))=some (.tup (a++b)):=if_pos h
theorem qw (s:Sto) {a b:Int} (h:qbF a b):fu s (.d (.int a)) (.d (.int b))=some (.int (a*b)):=if_pos h
theorem qx (s:Sto) {a b:Int} (h:0<b):i6 s (.d (.int a)) (.d (.int b))=some (.int (a%b)):=if_pos h
theorem CU (s:Sto) {a b:Int}{k:Bool} (h:decide (a > b)=k):dGt s (.d (.int a)) (.d (.int b))=some (.bl k):=by rw[<-h];rfl
theorem GD (s:Sto) {a b:Int}{k:Bool} (h:decide (a<=b)=k):dLe s (.d (.int a)) (.d (.int b))=some (.bl k):=by rw[<-h];rfl
theorem zA (s:Sto) {a b:Int} (h:0<b/\b<1073741824):kf s (.d (.int a)) (.d (.int b))=some (.int (a / b)):=if_pos h
theorem Av {st:Sto}{k:Int} (hk0:0<=k) (hk:k<=60):gs [.d (.int k)] st=some (.d (.int (2^k.toNat)),st):=by
 obtain⟨env',s2,e2,o,rfl,rfl⟩:=bS (g:=.nm 2) (body:=ip) (ds:=eZ 0 k.toNat) (λi env s=>∃ o,env=[some (.d (.int k)),some (.d (.int (2^i))),o]/\s=st) (env:=[some (.d (.int k)),some (.d (.int 1)),none]) (st:=st)
  ⟨none,rfl,rfl⟩ (λi d env s hd ⟨o,e,es⟩=>by
   subst e es
   obtain⟨rfl,hi⟩:=fF hd
   have km:qbF (2^i:Int) 2:=fW (by decide)
   have e1:(2^i:Int)*2=2^(i+1):=by rw[qkR]
   refine⟨_,[some (.d (.int k)),some (.d (.int (2^(i+1)))),some (.d (.int i))],s,rfl,.inl ?_,_,rfl,rfl⟩
   generalize (2^i:Int)=p at km e1
   rw[<-e1]
   exact aJ (i:=1) (az rfl rfl (qw _ km)))
 rw[cu]at e2
 generalize (2^k.toNat:Int)=q at e2 ⊢
 exact aG (n:=3) (k:=1) (b:=el) rfl (am (aJ (i:=1) (w:=.d (.int 1)) rfl) (am (dC (fz rfl hk0 (by lia) rfl) e2) (aI rfl)))
theorem xg {j:Nat} (h:j<=20):(0:Int)<2^j/\(2:Int)^j<1073741824:=by
 have h1:∀ m:Nat,m<=20->2^m<=2^20:=λm hm=>qbg (by decide) hm
 have h2:(2:Nat)^20=1048576:=by decide
 have h3:=h1 j h
 have h4:((2^j:Nat):Int)=(2:Int)^j:=by push_cast;rfl
 have h5:0<2^j:=qfE (by decide)
 lia
theorem Bb {st:Sto}{row k:Int} (k0:0<=k) (k1:k<=20):sk [.d (.int row),.d (.int k)] st=some (.d (.int (onI row k)),st):=by
 have h:=xg (j:=k.toNat) (by lia)
 have e:=Av (st:=st) k0 (by lia)
 unfold onI
 generalize (2^k.toNat:Int)=q at h e ⊢
 exact aG (n:=2) (k:=2) (b:=nG) rfl (aI (az (az rfl (aq rfl e) (zA _ ⟨h.1,h.2⟩)) rfl (qx _ (by decide))))
def br (b:Bool) (t:List Int) (row:Int):Int:=if b=true then (if cI row t=(t.length:Int) then 1 else 0) else (if cI row t%2=1 then -1 else 1)
def bg (b:Bool):Str:=if b=true then "both" else "odd"
theorem qL (b:Bool):(bg b==("both" : Str))=b:=by cases b<;>decide
theorem yA {st:Sto}{b:Bool}{t:List Int}{row:Int} (ht:∀ k∈t,0<=k/\k<=20) (hl:t.length<=1000):kF [.d (.str (bg b)),.d (aj t),.d (.int row)] st=some (.d (.int (br b t row)),st):=by
 have key:lcI (.nm 0) bB fL [none,some (.d (.int row))] (t.map D.int) st=some ((t.map D.int).map λd=>match d with|.int k=>.int (onI row k)|d=>d,st):=lc _ λd hd=>by
  obtain⟨k,hk,rfl⟩:=qap.mp hd
  exact⟨_,rfl,aq rfl (Bb (st:=st) (row:=row) (ht k hk).1 (ht k hk).2)⟩
 have e1:((t.map D.int).map λd=>match d with|.int k=>.int (onI row k)|d=>d)=(t.map (onI row)).map D.int:=by rw[qaL,qaL];rfl
 rw[e1]at key
 have hsm:=xb st (t.map (onI row))
 rw[sW]at hsm
 have hlm:(t.map D.int).length<=1000000:=by rw[qae];lia
 have hle:eB st [.d (aj t)]=some (.int (t.length:Int)):=by
  show some (D.int (((t.map D.int).length:Nat):Int))=_
  rw[qae]
 have kb:dEq st (.d (.str (bg b))) (.d (.str "both"))=some (.bl b):=by rw[CP,qL]
 have hv:br b t row=if b=true then (if (cI row t==(t.length:Int))=true then 1 else 0) else (if (cI row t%2==(1:Int))=true then -1 else 1):=by simp only[br,beq_iff_eq]
 rw[hv]
 have first:∀ (tl:Sf) (r:Option Fl),tl [some (.d (.str (bg b))),some (.d (aj t)),some (.d (.int row)),some (.d (.int (cI row t)))] st=r->ay (aW (.nm 3) (iCB me (ab (aC (iLc 1 [2] (aB (iV 1)) (.nm 0) bB fL)) ak))) tl [some (.d (.str (bg b))),some (.d (aj t)),some (.d (.int row)),none] st=r:=λtl r h=>by
  have q:aW (.nm 3) (iCB me (ab (aC (iLc 1 [2] (aB (iV 1)) (.nm 0) bB fL)) ak)) [some (.d (.str (bg b))),some (.d (aj t)),some (.d (.int row)),none] st=some (.nx [some (.d (.str (bg b))),some (.d (aj t)),some (.d (.int row)),some (.d (.int (cI row t)))] st):=aJ (i:=3) (bn (ah (aE (bK (cw rfl) hlm key)) rfl) hsm)
  simp only[ay,q,qad,h]
 generalize bg b=kd at *
 generalize aj t=tt at *
 cases b with
 |true=>
  cases hq:(cI row t==(t.length:Int)) with
  |true=>exact aG (n:=4) (k:=3) (b:=dI) rfl (first _ _ (iK (lP (aX rfl rfl kb) (aI (vV (aX rfl (bn rfl hle) (by rw[kn,hq])) rfl)))))
  |false=>exact aG (n:=4) (k:=3) (b:=dI) rfl (first _ _ (iK (lP (aX rfl rfl kb) (aI (vP (aX rfl (bn rfl hle) (by rw[kn,hq])) rfl)))))
 |false=>
  cases hq:(cI row t%2==(1:Int)) with
  |true=>exact aG (n:=4) (k:=3) (b:=dI) rfl (first _ _ (am (im (aX rfl rfl kb) rfl) (aI (vV (aX (az rfl rfl (qx _ (by decide))) rfl (by rw[kn,hq])) rfl))))
  |false=>exact aG (n:=4) (k:=3) (b:=dI) rfl (first _ _ (am (im (aX rfl rfl kb) rfl) (aI (vP (aX (az rfl rfl (qx _ (by decide))) rfl (by rw[kn,hq])) rfl))))
theorem zy (b:Bool) (t:List Int) (row:Int):-1<=br b t row/\br b t row<=1:=by
 unfold br
 split<;>split<;>lia
theorem BS {st:Sto}{fs:List D} (hl:fs.length<=1000):jo [.d (.tup fs)] st=some (.d (.tup ((dn 0 fs).map D.int)),st):=by
 have key:lcI (.tp [0,1]) ki kr [none,none] (dJ 0 fs) st=some (((dJ 0 fs).filter Bi).map FD,st):=dm _ _ λd hd=>by
  obtain⟨i,hi⟩:=qhB.mp hd
  rw[lY]at hi
  obtain⟨e,he,rfl⟩:=qaf.mp hi
  exact⟨_,rfl,aX rfl rfl rfl,λ_=>rfl⟩
 rw[om]at key
 have hz:(dJ 0 fs).length<=1000000:=by rw[j5];lia
 exact aG (n:=1) (k:=1) (b:=gP) rfl (aI (bn (ah (aE (bK rfl hz key)) rfl) rfl))
theorem A4 {st:Sto}{fs:List D}{j:Nat}{d:D} (hd:fs[j]?=some d) (hv:zn d) (hn:d≠.non):lV [.d (.tup fs),.d (.int (j:Int))] st=some (.d (.int (sgD d)),st):=by
 have e:atI fs (j:Int)=some d:=iW hd
 rcases hv with rfl|rfl|rfl
 ·exact absurd rfl hn
 ·exact aG (n:=2) (k:=2) (b:=iw) rfl (aI (vP (aX (az rfl rfl (show atI fs (j:Int)=_ from e)) rfl (kn _ _ _)) rfl))
 ·exact aG (n:=2) (k:=2) (b:=iw) rfl (aI (vV (aX (az rfl rfl (show atI fs (j:Int)=_ from e)) rfl (kn _ _ _)) rfl))
theorem sg1 {d:D}:sgD d=1\/sgD d=-1:=by
 unfold sgD
 split
 ·split
  ·exact .inl rfl
  ·exact .inr rfl
 ·exact .inl rfl
theorem xF {st:Sto}{fs:List D}{j:Nat}{d:D}{b:Bool}{t:List Int} (hd:fs[j]?=some d) (hv:zn d) (hn:d≠.non) (ht:∀ k∈t,0<=k/\k<=20) (hl:t.length<=1000) :
  gw [.d (.tup fs),.d (.str (bg b)),.d (aj t),.d (.int (j:Int))] st=some (.d (.int (sgD d*br b t j)),st):=by
 have e1:=A4 (st:=st) hd hv hn
 have e2:=yA (st:=st) (b:=b) (row:=j) ht hl
 have km:qbF (sgD d) (br b t j):=kY (by rcases sg1 (d:=d) with h|h<;>(rw[h];decide))
 generalize bg b=kd at e2 ⊢
 generalize aj t=tt at e2 ⊢
 exact aG (n:=4) (k:=4) (b:=dN) rfl (aI (az (aq rfl e1) (aq rfl e2) (qw _ km)))
theorem zm {st:Sto}{fs:List D}{b:Bool}{t:List Int} (hf:fs.length<=1000) (hv:∀ u∈fs,zn u) (ht:∀ k∈t,0<=k/\k<=20) (hl:t.length<=1000) :
  lQ [.d (.tup fs),.d (.str (bg b)),.d (aj t)] st=some (.d (.int (sgS (br b t) 0 fs)),st):=by
 have key:lcI (.nm 0) bB oY [none,some (.d (.tup fs)),some (.d (.str (bg b))),some (.d (aj t))] ((dn 0 fs).map D.int) st =
   some (((dn 0 fs).map D.int).map λd=>match d with|.int j=>.int (sgD (fs.getD j.toNat .non)*br b t j)|d=>d,st):=lc _ λd hd=>by
  obtain⟨j,hj,rfl⟩:=qap.mp hd
  obtain⟨m,rfl,hm,hn⟩:=qQ fs 0 hj
  rw[qbz]
  have he:=qaD hm
  have e:=xF (st:=st) (b:=b) he (hv _ (qcU hm)) (λq=>hn (by rw[he,q])) ht hl
  have eg:fs.getD m .non=fs[m]:=by rw[qaQ,he];rfl
  refine⟨_,rfl,?_⟩
  show _=some (W.d (D.int (sgD (fs.getD ((m:Int)).toNat .non)*br b t m)),st)
  rw[qaW,eg]
  generalize bg b=kd at e ⊢
  generalize aj t=tt at e ⊢
  exact aq rfl e
 have e1:(((dn 0 fs).map D.int).map λd=>match d with|.int j=>.int (sgD (fs.getD j.toNat .non)*br b t j)|d=>d)=((dn 0 fs).map λj=>sgD (fs.getD j.toNat .non)*br b t j).map D.int:=by rw[qaL,qaL];rfl
 rw[e1]at key
 have hs:bf (((dn 0 fs).map λj=>sgD (fs.getD j.toNat .non)*br b t j).map D.int)=some ((dn 0 fs).map λj=>sgD (fs.getD j.toNat .non)*br b t j):=bC _
 have hsum:=sL (br b t) fs fs 0 hv rfl
 have hz:((dn 0 fs).map D.int).length<=1000000:=by rw[qae];have:=qv fs 0;lia
 have e2:=BS (st:=st) hf
 generalize bg b=kd at key ⊢
 generalize aj t=tt at key ⊢
 generalize ((dn 0 fs).map λj=>sgD (fs.getD j.toNat .non)*br b t j)=L at key hs hsum
 generalize (dn 0 fs).map D.int=R at key hz e2
 have hsm:=xb st L
 rw[hsum]at hsm
 exact aG (n:=3) (k:=3) (b:=kX) rfl (aI (bn (ah (aE (bK (cw (aq rfl e2)) hz key)) rfl) hsm))
theorem ix0 (s:Sto) (a:D) (l:List D):dIx s (.d (.tup (a::l))) (.d (.int 0))=some a:=by simp only[dIx,kC,qad,xh]
theorem ix1 (s:Sto) (a b:D) (l:List D):dIx s (.d (.tup (a::b::l))) (.d (.int 1))=some b:=by simp only[dIx,kC,qad,EQ]
theorem vW (s:Sto) (a b:Str):dEq s (.d (.str a)) (.d (.str b))=some (.bl (a==b)):=CP s a b
theorem C7 (s:Sto) (a b:Int):dEq s (.d (.int a)) (.d (.int b))=some (.bl (a==b)):=kn s a b
theorem Dp (s:Sto) (a b:Int):dNe s (.d (.int a)) (.d (.int b))=some (.bl (!(a==b))):=by
 show ((eqK (.fl (.int a)) (.fl (.int b))).map λk=>D.bl (!k))=_
 rfl
theorem CL {n:Int} (n0:0<=n) (n1:n<=6):∃ q:Int,(∀ s,zt s (.d (.int 1)) (.d (.int n))=some (.int q))/\q.toNat=2^n.toNat/\(-(2^62)<=q/\q<2^62)/\2^n.toNat<=64:=by
 have h:n=0\/n=1\/n=2\/n=3\/n=4\/n=5\/n=6:=by lia
 rcases h with rfl|rfl|rfl|rfl|rfl|rfl|rfl
 ·exact⟨1,λs=>rfl,by decide,by decide,by decide⟩
 ·exact⟨2,λs=>rfl,by decide,by decide,by decide⟩
 ·exact⟨4,λs=>rfl,by decide,by decide,by decide⟩
 ·exact⟨8,λs=>rfl,by decide,by decide,by decide⟩
 ·exact⟨16,λs=>rfl,by decide,by decide,by decide⟩
 ·exact⟨32,λs=>rfl,by decide,by decide,by decide⟩
 ·exact⟨64,λs=>rfl,by decide,by decide,by decide⟩
def bN (b:Bool) (ps:List Prt) (row:Int):Int:=(ps.map λp=>p.2*br b p.1 row).sum
theorem Fz {n:Nat}{t:List Int} (h:Trm n t) (hn:n<=6):∀ k∈t,0<=k/\k<=20:=λk hk=>⟨(h.2 k hk).1,by have:=(h.2 k hk).2;lia⟩
theorem GC {x:Int} (h:0<=x):qdb x 1=x%2:=by
 unfold qdb
 have h1:decide (0<=x)=true:=decide_eq_true h
 rw[h1,show decide ((0:Int)<=1)=true from rfl]
 show ((x.toNat&&&(1:Int).toNat:Nat):Int)=_
 rw[show (1:Int).toNat=1 from rfl,Nat.and_one_is_mod];lia
theorem yt {row k:Int} (h:0<=row):qdb (row / 2^k.toNat) 1=onI row k:=GC (qjf h (Int.le_of_lt (qk8 (by decide))))
theorem FU {st:Sto}{row k:Int} (r0:0<=row) (k0:0<=k):cm dEq (iOp rC (iOp t6 (iV 1) (iV 0)) (iC (.int 1))) (iC (.int 1)) [some (.d (.int k)),some (.d (.int row))] st=some (onI row k==1,st):=
 aX (x:=.d (.int (onI row k))) (az (az rfl rfl (Cz _ k0)) rfl (by rw[<-yt r0];rfl)) rfl (kn _ _ _)
theorem zL {tt:Tf}{te:Ef}{st:Sto}{row:Int} (r0:0<=row) (ht:tt=cm dEq (iOp rC (iOp t6 (iV 1) (iV 0)) (iC (.int 1))) (iC (.int 1))) (he:te=iV 0) {t:List Int} (h0:∀ k∈t,0<=k) :
  lcI (.nm 0) tt te [none,some (.d (.int row))] (t.map D.int) st=some ((t.filter λk=>onI row k==1).map D.int,st):=by
 subst ht;subst he
 have:=dm (g:=.nm 0) (tt:=cm dEq (iOp rC (iOp t6 (iV 1) (iV 0)) (iC (.int 1))) (iC (.int 1))) (te:=iV 0) (env:=[none,some (.d (.int row))]) (st:=st) (λd=>match d with|.int k=>onI row k==1|_=>false) id (ds:=t.map D.int) λd hd=>by
  obtain⟨k,hk,rfl⟩:=qap.mp hd
  exact⟨_,rfl,FU r0 (h0 k hk),λ_=>rfl⟩
 rw[this,qcJ,qaL]
 rfl
def bt (n a:Nat):List Int:=((qam n).map λk:Nat=>(k:Int)).filter λk=>onI (a:Int) k==1
theorem DI:((qam 7).all λn=>bh ((qam (2^n)).map (bt n))==cO n)=true:=by decide +kernel
theorem Dy {n:Nat} (hn:n<=6):bh ((qam (2^n)).map (bt n))=cO n:=eq_of_beq (qaw.mp DI n (qaK.mpr (by lia)))
theorem kL (n:Nat):eZ 0 n=((qam n).map λk:Nat=>(k:Int)).map D.int:=by
 unfold eZ
 rw[qaL]
 exact qar λk _=>by show D.int (0+(k:Int))=D.int k;rw[qcp]
theorem Dv {n a:Nat}:(bt n a).length<=n:=by
 unfold bt
 refine qaH (qcA _ _) ?_
 rw[qae,qc9];exact qan _
theorem Ag {st:Sto}{n:Nat} (hn:n<=6):fO [.d (.int n),.d (.int n)] st=some (.d (.lst ((cO n).map aj)),st):=by
 obtain⟨q,hq,q1,_,q2⟩:=CL (n:=(n:Int)) (by lia) (by lia)
 rw[qaW]at q1 q2
 have hq0:0<=q:=by have:0<2^n:=qfE (by decide);lia
 have k1:lcI (.nm 0) bB gm [none,some (.d (.int n))] (eZ 0 (2^n)) st=some (((qam (2^n)).map (bt n)).map aj,st):=by
  have:=lc (g:=.nm 0) (te:=gm) (env:=[none,some (.d (.int n))]) (st:=st) (λd=>match d with|.int a=>aj (bt n a.toNat)|d=>d) (ds:=eZ 0 (2^n)) λd hd=>by
   obtain⟨i,hi⟩:=qfc hd
   obtain⟨rfl,_⟩:=fF hi
   refine⟨_,rfl,?_⟩
   have kk:=zL (tt:=jq) (te:=jD) (st:=st) (row:=(i:Int)) (by lia) rfl rfl (t:=(qam n).map λk:Nat=>(k:Int)) (λk hk=>by
    obtain⟨j,_,rfl⟩:=qap.mp hk;lia)
   rw[<-kL]at kk
   exact bn (ah (aE (bK (fz rfl (by lia) (by lia) (qaW n)) (by rw[cu];lia) kk)) rfl) rfl
  rw[this,kL,qaL,qaL,qaL]
  rfl
 have hlen:(((qam (2^n)).map (bt n)).map aj).length<=64:=by rw[qae,qae,qc9];exact q2
 have k2:lcI (.nm 0) d4 eh [none,some (.d (.int n))] (((qam (2^n)).map (bt n)).map aj) st=some (((qam (2^n)).map (bt n)).map aj,st):=by
  have:=dm (g:=.nm 0) (tt:=d4) (te:=eh) (env:=[none,some (.d (.int n))]) (st:=st) (λ_=>true) id (ds:=((qam (2^n)).map (bt n)).map aj) λd hd=>by
   obtain⟨t,ht,rfl⟩:=qap.mp hd
   obtain⟨a,_,rfl⟩:=qap.mp ht
   refine⟨_,rfl,?_,λ_=>rfl⟩
   have hb:=Dv (n:=n) (a:=a)
   refine aX (x:=.d (.int ((bt n a).length:Int))) (bn (ah rfl rfl) (by show some (D.int (((bt n a).map D.int).length:Nat))=_;rw[qae])) rfl (GD _ (decide_eq_true (by lia)))
  rw[this,qfm.mpr (λ_ _=>rfl),qdF]
 have hs:jP st [.d (.lst (((qam (2^n)).map (bt n)).map aj))]=some ((cO n).map aj):=by
  show (if (((qam (2^n)).map (bt n)).map aj).length<=64 then oU (((qam (2^n)).map (bt n)).map aj) else none)=_
  rw[if_pos hlen,n4,Dy hn]
 generalize ((qam (2^n)).map (bt n)).map aj=LL at k1 k2 hlen hs
 generalize (cO n).map aj=AA at hs ⊢
 have hcl:iCL jP (ab (aC (iLc 1 [1] (aB (iV 2)) (.nm 0) d4 eh)) ak) [some (.d (.int n)),some (.d (.int n)),some (.d (.lst LL))] st=some (AA,st):=by
  have q:=ah (b:=ak) (aE (bK (k:=1) (js:=[1]) (env:=[some (.d (.int n)),some (.d (.int n)),some (.d (.lst LL))]) (fY (f:=iV 2) (st:=st) rfl) (by lia) k2)) rfl
  simp only[iCL,q,qad,hs,qaB]
 exact aG (n:=3) (k:=2) (b:=fH) rfl (am (aJ (i:=2) (aE (bK (fz (az rfl rfl (hq _)) hq0 (by lia) q1) (by rw[cu];lia) k1))) (aI (aE hcl)))
end Own
end
section
set_option maxHeartbeats 1000000
namespace Own
open PySem L2
theorem iT (k:List Int) (d:D) (r:List (List Int×D)) (t:List Int):vM ((k,d)::r) t=if k=t then some d else vM r t:=by
 unfold vM
 by_cases e:k=t
 ·rw[qeL (by simpa using e),if_pos e];rfl
 ·rw[qeM (by simpa using e),if_neg e]
theorem wf (kvs:List (List Int×D)) (k:List Int):(kvs.any λp=>decide (p.1=k))=decide (k∈kvs.map qa6):=by
 induction kvs with
 |nil=>rfl
 |cons p r ih=>
  rw[qcj,ih,qal]
  by_cases e:p.1=k
  ·simp[e]
  ·have:¬ k=p.1:=λz=>e z.symm
   simp[e,this]
theorem tU (kvs:List (List Int×D)) (k:List Int) (d:D):(kA kvs k d).map qa6=if k∈kvs.map qa6 then kvs.map qa6 else kvs.map qa6++[k]:=by
 unfold kA
 rw[wf]
 by_cases h:k∈kvs.map qa6
 ·rw[if_pos (decide_eq_true h),if_pos h,qaL]
  refine qar λp _=>?_
  show (if p.1=k then (p.1,d) else p).1=p.1
  split<;>rfl
 ·rw[if_neg (by simpa using h),if_neg h,qba];rfl
theorem sw (k:List Int) (d:D) (j:List Int):∀ kvs:List (List Int×D),k∈kvs.map qa6->vM (kvs.map λp=>if p.1=k then (p.1,d) else p) j=if j=k then some d else vM kvs j
 |[],h=>by cases h
 |(k',d')::r,h=>by
  rw[qal]
  by_cases e:k'=k
  ·rw[if_pos e,iT,iT]
   subst e
   by_cases ej:k'=j
   ·rw[if_pos ej,if_pos ej.symm]
   ·rw[if_neg ej,if_neg (λz=>ej z.symm),if_neg ej]
    by_cases hm:k'∈r.map qa6
    ·rw[sw k' d j r hm,if_neg (λz=>ej z.symm)]
    ·have:(r.map λp=>if p.1=k' then (p.1,d) else p)=r:=by
      conv=>rhs;rw[<-qdF r]
      refine qar λp hp=>?_
      rw[if_neg (λz=>hm (by rw[<-z];exact qcr hp))];rfl
     rw[this]
  ·rw[if_neg e,iT,iT]
   rw[qal,qaC]at h
   have hm:k∈r.map qa6:=h.resolve_left λz=>e z.symm
   rw[sw k d j r hm]
   by_cases ej:k'=j
   ·rw[if_pos ej,if_pos ej,if_neg (λz=>e (ej.trans z))]
   ·rw[if_neg ej,if_neg ej]
theorem Aj (k:List Int) (d:D) (j:List Int):∀ kvs:List (List Int×D),k∉kvs.map qa6->vM (kvs++[(k,d)]) j=if j=k then some d else vM kvs j
 |[],_=>by
  show vM [(k,d)] j=_
  rw[iT]
  by_cases e:k=j
  ·rw[if_pos e,if_pos e.symm]
  ·rw[if_neg e,if_neg (λz=>e z.symm)]
 |(k',d')::r,h=>by
  rw[qal,qaC,not_or]at h
  rw[qb3,iT,iT,Aj k d j r h.2]
  by_cases ej:k'=j
  ·rw[if_pos ej,if_pos ej,if_neg (λz=>h.1 (z.symm.trans ej.symm))]
  ·rw[if_neg ej,if_neg ej]
theorem Eh (kvs:List (List Int×D)) (k:List Int) (d:D) (j:List Int):vM (kA kvs k d) j=if j=k then some d else vM kvs j:=by
 unfold kA
 rw[wf]
 by_cases h:k∈kvs.map qa6
 ·rw[if_pos (decide_eq_true h)];exact sw k d j kvs h
 ·rw[if_neg (by simpa using h)];exact Aj k d j kvs h
def bp (L:List Prt) (t:List Int):Int:=((L.filter λp=>decide (p.1=t)).map Prod.snd).sum
theorem vC (L:List Prt) (p:Prt) (t:List Int):bp (L++[p]) t=bp L t+if p.1=t then p.2 else 0:=by
 unfold bp
 rw[qip,qba,qeS]
 congr 1
 by_cases e:p.1=t<;>simp[e]
theorem kD {L:List Prt}{t:List Int} (h:t∉L.map qa6):bp L t=0:=by
 unfold bp
 rw[List.filter_eq_nil_iff.mpr]
 ·rfl
 ·intro p hp e
  exact h (by rw[<-of_decide_eq_true e];exact qcr hp)
structure GK (kvs:List (List Int×D)) (L:List Prt):Prop where
 nd:(kvs.map qa6).Nodup
 mem:∀ t,t∈kvs.map qa6↔t∈L.map qa6
 val:∀ t,vM kvs t=if t∈L.map qa6 then some (.int (bp L t)) else none
theorem GK.nil:GK [] []:=⟨qgN,λt=>Iff.rfl,λt=>by simp[vM]⟩
theorem GK.getD {kvs:List (List Int×D)}{L:List Prt} (G:GK kvs L) (t:List Int):(vM kvs t).getD (.int 0)=.int (bp L t):=by
 rw[G.val t]
 by_cases h:t∈L.map qa6
 ·rw[if_pos h];rfl
 ·rw[if_neg h,kD h];rfl
theorem GK.put {kvs:List (List Int×D)}{L:List Prt} (G:GK kvs L) (p:Prt):GK (kA kvs p.1 (.int (bp L p.1+p.2))) (L++[p]):=by
 refine⟨?_,λt=>?_,λt=>?_⟩
 ·rw[tU]
  split
  ·exact G.nd
  ·rename_i h
   rw[qdE]
   exact⟨G.nd,by simp,λa ha b hb e=>h (by rw[qaO]at hb;rw[<-hb,<-e];exact ha)⟩
 ·rw[tU,qba,qbe]
  split
  ·rename_i h
   rw[G.mem t]
   refine⟨.inl,λz=>z.elim id λz=>?_⟩
   have:t=p.1:=by simpa using z
   rw[this];exact (G.mem p.1).mp h
  ·rw[qbe,G.mem t];rfl
 ·rw[Eh,vC,G.val t,qba]
  by_cases e:t=p.1
  ·subst e
   rw[if_pos rfl,if_pos rfl,if_pos (qau _ (by simp))]
  ·have hs:(bp L t+if p.1=t then p.2 else 0)=bp L t:=by rw[if_neg (λz=>e z.symm),qe6]
   rw[if_neg e,hs]
   have:(t∈qe3 qa6 L++qe3 qa6 [p])↔t∈L.map qa6:=by simp[e]
   by_cases h:t∈L.map qa6
   ·rw[if_pos h,if_pos (this.mpr h)]
   ·rw[if_neg h,if_neg (λz=>h (this.mp z))]
theorem wH {α:Type} [DecidableEq α]:∀ {l m:List α},l.Nodup->(∀ x∈l,x∈m)->l.length<=m.length
 |[],m,_,_=>qa7 _
 |x::l,m,hn,hs=>by
  have hn':=qbR.mp hn
  have hx:=hs x qak
  have:=wH (l:=l) (m:=m.erase x) hn'.2 λy hy=>(List.mem_erase_of_ne (λe=>hn'.1 (by rw[<-e];exact hy))).mpr (hs y (qah _ hy))
  rw[List.length_erase_of_mem hx]at this
  have hp:0<m.length:=List.length_pos_of_mem hx
  rw[qas];lia
def ksI (m:Nat):List Int:=(aw m).map λk=>((k:Nat):Int)
theorem CF (m:Nat):(aw m).map (λk=>D.int ((k:Nat):Int))=(ksI m).map D.int:=by unfold ksI;rw[qaL];rfl
theorem lH {m:Nat}{z:Int}:z∈ksI m↔∃ k:Nat,z=k/\k<6/\m.testBit k=true:=by
 unfold ksI
 rw[qap]
 exact⟨λ⟨k,h,e⟩=>⟨k,e.symm,(oA.mp h).1,(oA.mp h).2⟩,λ⟨k,e,h1,h2⟩=>⟨k,oA.mpr ⟨h1,h2⟩,e.symm⟩⟩
theorem rn (m:Nat):Trm 6 (ksI m):=by
 refine⟨?_,λk hk=>?_⟩
 ·unfold ksI aw
  rw[qcm]
  have:(qam 6).Pairwise (·<·):=qhu
  exact (this.filter _).imp λ{a b} h=>by lia
 ·obtain⟨j,rfl,h,_⟩:=lH.mp hk
  lia
theorem yo (l:List Int):av l=gj (l.map qhQ):=by unfold av gj;rw[List.foldl_map]
theorem bR {t:List Int} (h:Trm 6 t) (j:Nat):(av t).testBit j=decide ((j:Int)∈t):=by
 rw[yo,gg]
 apply decide_eq_decide.mpr
 rw[qap]
 constructor
 ·rintro⟨z,hz,e⟩
  have:=(h.2 z hz).1
  have:(j:Int)=z:=by lia
  rw[this];exact hz
 ·intro hj
  exact⟨j,hj,by simp⟩
theorem xN {t:List Int} (h:Trm 6 t):av t<64:=by
 refine qg4 (n:=6) _ λj hj=>?_
 rw[bR h,decide_eq_false_iff_not]
 intro z
 have:=(h.2 _ z).2
 lia
theorem io {t:List Int} (h:Trm 6 t):ksI (av t)=t:=by
 have hm:∀ z,z∈ksI (av t)↔z∈t:=λz=>by
  rw[lH]
  constructor
  ·rintro⟨k,rfl,_,hk⟩
   rw[bR h]at hk
   exact of_decide_eq_true hk
  ·intro hz
   have h1:=h.2 z hz
   obtain⟨k,rfl⟩:=qbr h1.1
   exact⟨k,rfl,by lia,by rw[bR h];exact decide_eq_true hz⟩
 have hn:∀ {l:List Int},l.Pairwise (·<·)->l.Nodup:=λhl=>hl.imp λ{a b} hab e=>by lia
 refine qd7 (le:=(·<·)) (λa b _ _ h1 h2=>by lia) (rn _).1 h.1 ?_
 exact (qgB (hn (rn _).1) (hn h.1)).mpr hm
theorem oz {l:List (List Int)} (hn:l.Nodup) (h:∀ t∈l,Trm 6 t):l.length<=64:=by
 have:=wH (m:=(qam 64).map ksI) hn λt ht=>qap.mpr ⟨av t,qaK.mpr (xN (h t ht)),io (h t ht)⟩
 rw[qae,qc9]at this
 exact this
def ltL (a b:List Int):Prop:=bY a b=true
theorem C0 {a b:List Int} (h:leL a b) (hne:a≠b):ltL a b:=by
 unfold ltL
 cases e:bY a b with
 |true=>rfl
 |false=>exact absurd (jp a b e h) hne
theorem jW {l:List (List Int)} (hn:l.Nodup):(bh l).Pairwise ltL:=by
 have h2:(bh l).Nodup:=(aZ l).nodup_iff.mpr hn
 exact (cJ l).imp₂ (λa b h1 h2=>C0 h1 h2) h2
def dX (ks:List (List Int)) (L:List Prt):List Prt:=(ks.filter λt=>decide (bp L t≠0)).map λt=>(t,bp L t)
theorem BQ (s:Sto) (a:Int):dNe s (.d (.int a)) (.d (.int 0))=some (.bl (decide (a≠0))):=by
 show some (D.bl (!(a==0)))=_
 by_cases h:a=0<;>simp[h]
theorem wo {st:Sto}{kd:Str}{n:Nat}{kvs:List (List Int×D)}{L:List Prt} (hm:mgt st n=some kvs) (G:GK kvs L) (h6:∀ p∈L,Trm 6 p.1) :
  eW [.d (.str kd),.h n] st=some (.d (ao kd (dX (bh (kvs.map qa6)) L)),st):=by
 have htr:∀ t∈kvs.map qa6,Trm 6 t:=λt ht=>by
  obtain⟨p,hp,rfl⟩:=qap.mp ((G.mem t).mp ht)
  exact h6 p hp
 have hlen:kvs.length<=64:=by
  have:=oz G.nd htr
  rw[qae]at this;exact this
 have hsl:(bh (kvs.map qa6)).length<=64:=by rw[(aZ _).length_eq,qae];exact hlen
 have hmem:∀ t∈bh (kvs.map qa6),vM kvs t=some (.int (bp L t)):=λt ht=>by
  rw[G.val t,if_pos ((G.mem t).mp ((aZ _).mem_iff.mp ht))]
 have mix:∀ t∈bh (kvs.map qa6),yc (iV 1) (iV 0) [some (.d (aj t)),some (.h n)] st=some (.d (.int (bp L t)),st):=λt ht=>by
  have e1:bf (t.map D.int)=some t:=bC t
  have e2:=hmem t ht
  simp only[yc,iV,aj,qa1,qbm,qaB,qad,hm,e1,e2]
 have key:=dm (g:=.nm 0) (tt:=kc) (te:=ku) (env:=[none,some (.h n)]) (st:=st) (λd=>match d with|.tup ds=>(match bf ds with|some t=>decide (bp L t≠0)|none=>false)|_=>false) (λd=>match d with|.tup ds=>(match bf ds with|some t=>au (t,bp L t)|none=>d)|d=>d) (ds:=(bh (kvs.map qa6)).map aj) λd hd=>by
  obtain⟨t,ht,rfl⟩:=qap.mp hd
  have e1:bf (t.map D.int)=some t:=bC t
  refine⟨_,rfl,?_,λ_=>?_⟩
  ·show _=some ((match bf (t.map D.int) with|some t=>decide (bp L t≠0)|none=>false),st)
   rw[e1]
   exact aX (mix t ht) rfl (BQ _ _)
  ·show _=some (W.d (match bf (t.map D.int) with|some t=>au (t,bp L t)|none=>aj t),st)
   rw[e1]
   exact cn (ah rfl (ah (mix t ht) rfl)) rfl (by show 2<=1000;decide)
 have e:((((bh (kvs.map qa6)).map aj).filter (λd=>match d with|.tup ds=>(match bf ds with|some t=>decide (bp L t≠0)|none=>false)|_=>false)).map (λd=>match d with|.tup ds=>(match bf ds with|some t=>au (t,bp L t)|none=>d)|d=>d))=(dX (bh (kvs.map qa6)) L).map au:=by
  unfold dX
  rw[qcJ,qaL,qaL]
  have e1:∀ t:List Int,bf (t.map D.int)=some t:=bC
  congr 1
  ·funext t
   show (match bf (t.map D.int) with|some t=>au (t,bp L t)|none=>aj t)=au (t,bp L t)
   rw[e1]
  ·refine qiC λt _=>?_
   show (match bf (t.map D.int) with|some t=>decide (bp L t≠0)|none=>false)=_
   rw[e1]
 rw[e]at key
 have hso:md (iV 1) [some (.d (.str kd)),some (.h n)] st=some ((bh (kvs.map qa6)).map aj,st):=by
  simp only[md,iV,qa1,qbm,qaB,qad,hm,hlen,if_true]
 have hit:aB (aC (md (iV 1))) [some (.d (.str kd)),some (.h n)] st=some ((bh (kvs.map qa6)).map aj,st):=by
  simp only[aB,aC,hso,qaB,qad]
 have hz:((bh (kvs.map qa6)).map aj).length<=1000000:=by rw[qae];lia
 unfold ao
 exact aG (n:=2) (k:=2) (b:=gI) rfl (aI (cn (ah rfl (ah (bn (ah (aE (bK hit hz key)) rfl) rfl) rfl)) rfl (by show 2<=1000;decide)))
theorem lx (st:Sto) (kvs:List (List Int×D)):mgt (st++[.m kvs]) st.length=some kvs:=by
 unfold mgt
 rw[qbd (qan _),qdo];rfl
theorem zW {st:Sto}{n:Nat}{ds:List D} (h:lg st n=some ds) (u:Sto):lg (st++u) n=some ds:=by
 have hn:st[n]?=some (.l ds):=wV h
 have hlt:=(qay.mp hn).1
 unfold lg
 rw[qaY hlt,hn]
theorem zq {st:Sto}{kvs:List (List Int×D)}{L:List Prt}{a0 a1:Option W}{p:Prt} (G:GK kvs L) (hl:kvs.length<1000) :
  bO [a0,a1,some (.h st.length),some (.d (aj p.1)),some (.d (.int p.2))] (st++[.m kvs])=some (.nx [a0,a1,some (.h st.length),some (.d (aj p.1)),some (.d (.int p.2))] (st++[.m (kA kvs p.1 (.int (bp L p.1+p.2)))])):=by
 have e1:bf (p.1.map D.int)=some p.1:=bC p.1
 have e2:=lx st kvs
 have e3:=G.getD p.1
 have e4:(st++[C.m kvs]).set st.length (.m (kA kvs p.1 (.int (bp L p.1+p.2))))=st++[.m (kA kvs p.1 (.int (bp L p.1+p.2)))]:=by
  rw[qdN _ _ (qan _),qdo];rfl
 have g:ux (iV 2) (iV 3) (iC (.int 0)) [a0,a1,some (.h st.length),some (.d (aj p.1)),some (.d (.int p.2))] (st++[.m kvs])=some (.d (.int (bp L p.1)),st++[.m kvs]):=by
  simp only[ux,iV,iC,aj,qa1,qbm,qaB,qad,e1,e2,e3]
 have g2:=az (g:=dO) (b:=iV 4) (y:=.d (.int p.2)) (d:=.int (bp L p.1+p.2)) g rfl rfl
 simp only[aj]at g2 ⊢
 simp only[bO,qP,g2,iV,qa1,qbm,qaB,qad,e1,e2,hl,if_true,e4]
def rY (st:Sto) (w:W) (L:List Prt):Prop:=w=.d (.tup (L.map au))\/w=.d (.lst (L.map au))\/∃ n,w=.h n/\lg st n=some (L.map au)
theorem zv {kvs:List (List Int×D)}{L:List Prt} (G:GK kvs L) (h6:∀ p∈L,Trm 6 p.1):kvs.length<=64:=by
 have:=oz G.nd λt ht=>by
  obtain⟨p,hp,rfl⟩:=qap.mp ((G.mem t).mp ht)
  exact h6 p hp
 rw[qae]at this;exact this
theorem Bc {st:Sto}{kd:Str}{w:W}{L:List Prt} (hw:rY st w L) (h6:∀ p∈L,Trm 6 p.1) :
  ∃ ks:List (List Int),ks.Pairwise ltL/\ks.Nodup/\(∀ t,t∈ks↔t∈L.map qa6)/\dH [.d (.str kd),w] st=some (.d (ao kd (dX ks L)),st):=by
 have step:∀ (i:Nat) (d:D) (env:Ev) (s:Sto),(L.map au)[i]?=some d->(∃ o3 o4 kvs,env=[some (.d (.str kd)),some w,some (.h st.length),o3,o4]/\s=st++[.m kvs]/\GK kvs (L.take i))->
   ∃ e1 e2 s2,fV (.tp [3,4]) (.d d) env=some e1/\(bO e1 s=some (.nx e2 s2)\/bO e1 s=some (.ct e2 s2))/\∃ o3 o4 kvs,e2=[some (.d (.str kd)),some w,some (.h st.length),o3,o4]/\s2=st++[.m kvs]/\GK kvs (L.take (i+1)):=by
  rintro i d env s hd ⟨o3,o4,kvs,rfl,rfl,G⟩
  obtain⟨p,hp,rfl⟩:=mf hd
  have hlen:=zv G λq hq=>h6 q (qfb hq)
  have htk:L.take (i+1)=L.take i++[p]:=by rw[qbK,hp];rfl
  exact⟨_,_,_,rfl,.inl (zq G (by lia)),_,_,_,rfl,rfl,by rw[htk];exact G.put p⟩
 have fin:∀ (kvs:List (List Int×D)) (o3 o4:Option W),GK kvs L->ur (iV 1) (.tp [3,4]) bO [some (.d (.str kd)),some w,some (.h st.length),none,none] (st++[.m []])=some (.nx [some (.d (.str kd)),some w,some (.h st.length),o3,o4] (st++[.m kvs]))->
   ∃ ks:List (List Int),ks.Pairwise ltL/\ks.Nodup/\(∀ t,t∈ks↔t∈L.map qa6)/\dH [.d (.str kd),w] st=some (.d (ao kd (dX ks L)),st):=by
  intro kvs o3 o4 G hF
  refine⟨bh (kvs.map qa6),jW G.nd,(aZ _).nodup_iff.mpr G.nd,λt=>((aZ _).mem_iff).trans (G.mem t),?_⟩
  have hf:=wo (st:=st++[.m kvs]) (kd:=kd) (lx st kvs) G h6
  have hq:=gq (n:=5) (k:=2) (b:=iL) (ws:=[.d (.str kd),w]) (st:=st) (s:=st++[.m kvs]) (x:=ao kd (dX (bh (kvs.map qa6)) L)) rfl
   (am (aJ (w:=.h st.length) (s:=st++[C.m []]) rfl) (am hF (aI (aq rfl hf))))
  have ht:(st++[C.m kvs]).take st.length=st:=by rw[qgr];rfl
  rw[ht]at hq
  exact hq
 rcases hw with rfl|rfl|⟨n,rfl,hn⟩
 ·obtain⟨e',s',hF,o3,o4,kvs,rfl,rfl,G⟩:=bS (g:=.tp [3,4]) (body:=bO) (ds:=L.map au) (λi env s=>∃ o3 o4 kvs,env=[some (.d (.str kd)),some (.d (.tup (L.map au))),some (.h st.length),o3,o4]/\s=st++[.m kvs]/\GK kvs (L.take i)) (env:=[some (.d (.str kd)),some (.d (.tup (L.map au))),some (.h st.length),none,none]) (st:=st++[.m []]) ⟨none,none,[],rfl,rfl,GK.nil⟩ step
  rw[qae,qbv]at G
  exact fin kvs o3 o4 G hF
 ·obtain⟨e',s',hF,o3,o4,kvs,rfl,rfl,G⟩:=bS (g:=.tp [3,4]) (body:=bO) (ds:=L.map au) (λi env s=>∃ o3 o4 kvs,env=[some (.d (.str kd)),some (.d (.lst (L.map au))),some (.h st.length),o3,o4]/\s=st++[.m kvs]/\GK kvs (L.take i)) (env:=[some (.d (.str kd)),some (.d (.lst (L.map au))),some (.h st.length),none,none]) (st:=st++[.m []]) ⟨none,none,[],rfl,rfl,GK.nil⟩ step
  rw[qae,qbv]at G
  exact fin kvs o3 o4 G hF
 ·obtain⟨e',s',hF,o3,o4,kvs,rfl,rfl,G⟩:=tB (n:=n) (all:=L.map au) (g:=.tp [3,4]) (body:=bO) (ds:=L.map au) (λi env s=>∃ o3 o4 kvs,env=[some (.d (.str kd)),some (.h n),some (.h st.length),o3,o4]/\s=st++[.m kvs]/\GK kvs (L.take i)) (env:=[some (.d (.str kd)),some (.h n),some (.h st.length),none,none]) (st:=st++[.m []]) ⟨none,none,[],rfl,rfl,GK.nil⟩ (by
   rintro i env s ⟨o3,o4,kvs,rfl,rfl,G⟩
   exact zW hn _) step
  rw[qae,qbv]at G
  refine fin kvs o3 o4 G ?_
  have:=zW hn [C.m []]
  simp only[ur,iV,qa1,qbm,qaB,qad,this]
  exact hF
theorem gA {α:Type}:∀ l:List α,(l.map λ_=>(0:Int)).sum=0
 |[]=>rfl
 |x::l=>by rw[qal,qaF,gA l];rfl
theorem pE (p:Prt) (L:List Prt) (t:List Int):bp (p::L) t=(if p.1=t then p.2 else 0)+bp L t:=by
 unfold bp
 rw[qcy]
 by_cases e:p.1=t
 ·rw[if_pos (decide_eq_true e),if_pos e,qal,qaF]
 ·rw[if_neg (by simpa using e),if_neg e,qcp]
theorem uM (f:List Int->Int) (c:Int) (t:List Int):∀ ks:List (List Int),ks.Nodup->t∈ks->(ks.map λk=>(if t=k then c else 0)*f k).sum=c*f t
 |[],_,h=>by cases h
 |k::ks,hn,h=>by
  have hn':=qbR.mp hn
  rw[qal,qaF]
  by_cases e:t=k
  ·subst e
   rw[if_pos rfl]
   have:(ks.map λk=>(if t=k then c else 0)*f k).sum=0:=by
    have:(ks.map λk=>(if t=k then c else 0)*f k)=ks.map λ_=>(0:Int):=qar λk hk=>by
     rw[if_neg (λz=>hn'.1 (by rw[z];exact hk)),qco]
    rw[this,gA]
   rw[this,qe6]
  ·rw[if_neg e,qco,qcp]
   exact uM f c t ks hn'.2 ((qaC.mp h).resolve_left e)
theorem lM {α:Type} (f g:α->Int):∀ l:List α,(l.map λx=>f x+g x).sum=(l.map f).sum+(l.map g).sum
 |[]=>rfl
 |x::l=>by rw[qal,qal,qal,qaF,qaF,qaF,lM f g l];lia
theorem tY (f:List Int->Int) {ks:List (List Int)} (hn:ks.Nodup):∀ L:List Prt,(∀ p∈L,p.1∈ks)->(ks.map λt=>bp L t*f t).sum=(L.map λp=>p.2*f p.1).sum
 |[],_=>by
  have:(ks.map λt=>bp [] t*f t)=ks.map λ_=>(0:Int):=qar λt _=>by show (0:Int)*_=0;rw[qco]
  rw[this,gA];rfl
 |p::L,h=>by
  rw[qal,qaF,<-tY f hn L λq hq=>h q (qah _ hq)]
  have e:(ks.map λt=>bp (p::L) t*f t)=ks.map λt=>(if p.1=t then p.2 else 0)*f t+bp L t*f t:=qar λt _=>by
   rw[pE,qir]
  rw[e,lM,uM f p.2 p.1 ks hn (h p qak)]
theorem xH (f:List Int->Int) (ks:List (List Int)) (L:List Prt):((dX ks L).map λp=>p.2*f p.1).sum=(ks.map λt=>bp L t*f t).sum:=by
 unfold dX
 rw[qaL]
 induction ks with
 |nil=>rfl
 |cons t ks ih=>
  rw[qcy]
  by_cases h:bp L t=0
  ·rw[if_neg (by simp[h]),qal,qaF,h,qco,qcp];exact ih
  ·rw[if_pos (by simp[h]),qal,qal,qaF,qaF,ih];rfl
theorem AS {b:Bool}{row:Int}{ks:List (List Int)}{L:List Prt} (hn:ks.Nodup) (hm:∀ t,t∈ks↔t∈L.map qa6):bN b (dX ks L) row=bN b L row:=by
 unfold bN
 rw[xH (λt=>br b t row),tY (λt=>br b t row) hn L λp hp=>(hm p.1).mpr (qcr hp)]
end Own
end
section
set_option maxHeartbeats 1000000
namespace Own
open PySem L2
theorem DA (s:Sto) (a b:Str):dNe s (.d (.str a)) (.d (.str b))=some (.bl (!(a==b))):=by
 show ((eqK (.fl (.str a)) (.fl (.str b))).map λk=>D.bl (!k))=_
 rfl
theorem xf {i:Int} (h:i.natAbs<2^200):decide (i.natAbs.log2<1920)=true:=by
 refine decide_eq_true ?_
 rcases Nat.eq_zero_or_pos i.natAbs with h0|hp
 ·rw[h0];decide
 ·exact qhM ((qk7 (qbA hp)).mpr h) (by decide)
theorem mH {n:Nat}{t:List Int} (hn:n<=6) (h:Trm n t):av t<2^n:=by
 apply qg4
 intro i hi
 rw[bR (h.mono hn)]
 exact decide_eq_false λhm=>by have:=(h.2 _ hm).2;lia
theorem An:((qam 7).all λn=>(qam (2^n)).all λm=>(cO n).contains (ksI m))=true:=by decide +kernel
theorem nW {n:Nat}{t:List Int} (hn:n<=6) (h:Trm n t):t∈cO n:=by
 have:=qaw.mp (qaw.mp An n (qaK.mpr (by lia))) (av t) (qaK.mpr (mH hn h))
 rw[io (h.mono hn)]at this
 simpa using this
theorem zI {a b:List Int} (h:ltL a b):leL a b:=by
 unfold leL
 cases e:bY b a with
 |false=>rfl
 |true=>
  have:=nD a b a h e
  rw[lj]at this;cases this
theorem jV {ls:List (List Int)} (h:ls.Pairwise ltL):ls.Nodup:=h.imp λ{a b} hab e=>by
 subst e
 have:bY a a=true:=hab
 rw[lj]at this;cases this
def eM (n:Nat) (ps:List Prt):Prop:=(∀ p∈ps,Trm n p.1/\p.2≠0)/\(ps.map qa6).Pairwise ltL
theorem eM.len {n:Nat}{ps:List Prt} (h:eM n ps) (hn:n<=6):ps.length<=64:=by
 have:=oz (jV h.2) λt ht=>by
  obtain⟨p,hp,rfl⟩:=qap.mp ht
  exact (h.1 p hp).1.mono hn
 rw[qae]at this;exact this
end Own
end
section
set_option maxHeartbeats 1000000
namespace Own
open PySem L2
theorem BF:(fj 6).Nodup:=by decide +kernel
theorem B4:(cO 6).Pairwise ltL:=jW BF
def pv (L:List Prt):List (List Int):=(cO 6).filter λt=>decide (t∈L.map qa6)
theorem gv {L:List Prt} (h6:∀ p∈L,Trm 6 p.1) (t:List Int):t∈pv L↔t∈L.map qa6:=by
 unfold pv
 rw[qb0,decide_eq_true_eq]
 refine⟨λh=>h.2,λh=>⟨?_,h⟩⟩
 obtain⟨p,hp,rfl⟩:=qap.mp h
 exact nW (qan 6) (h6 p hp)
theorem jY (L:List Prt):(pv L).Pairwise ltL:=B4.filter _
theorem qS {L:List Prt}{ks:List (List Int)} (h6:∀ p∈L,Trm 6 p.1) (h1:ks.Pairwise ltL) (h3:∀ t,t∈ks↔t∈L.map qa6):ks=pv L:=by
 refine fQ ((qgB (jV h1) (jV (jY L))).mpr λt=>?_) (h1.imp λ{a b} hab=>zI hab) ((jY L).imp λ{a b} hab=>zI hab)
 rw[h3,gv h6]
def cY (L:List Prt):List Prt:=dX (pv L) L
theorem rj {st:Sto}{kd:Str}{w:W}{L:List Prt} (hw:rY st w L) (h6:∀ p∈L,Trm 6 p.1):dH [.d (.str kd),w] st=some (.d (ao kd (cY L)),st):=by
 obtain⟨ks,k1,k2,k3,k4⟩:=Bc (kd:=kd) hw h6
 rw[qS h6 k1 k3]at k4
 exact k4
theorem pK {b:Bool}{row:Int}{L:List Prt} (h6:∀ p∈L,Trm 6 p.1):bN b (cY L) row=bN b L row:=AS (jV (jY L)) (gv h6)
theorem nK {n:Nat}{L:List Prt} (hn:n<=6) (h:∀ p∈L,Trm n p.1):eM n (cY L):=by
 have h6:∀ p∈L,Trm 6 p.1:=λp hp=>(h p hp).mono hn
 refine⟨λp hp=>?_,?_⟩
 ·unfold cY dX at hp
  obtain⟨t,ht,rfl⟩:=qap.mp hp
  have:=qb0.mp ht
  obtain⟨q,hq,e⟩:=qap.mp ((gv h6 t).mp this.1)
  exact⟨e ▸ h q hq,of_decide_eq_true this.2⟩
 ·unfold cY dX
  rw[qaL]
  have:(qa6 ∘ λt=>(t,bp L t))=(id:List Int->List Int):=rfl
  rw[this,qdF]
  exact (jY L).filter _
theorem sf {B:Nat}:∀ {l:List Int},(∀ x∈l,x.natAbs<=B)->l.sum.natAbs<=l.length*B
 |[],_=>qa7 _
 |x::l,h=>by
  have ih:=sf (l:=l) λy hy=>h y (qah _ hy)
  have h1:=h x qak
  have h2:=Int.natAbs_add_le x l.sum
  rw[qaF,qas,qin];lia
theorem uD {B:Nat}{L:List Prt} (h:∀ q∈L,q.2.natAbs<=B):∀ p∈cY L,p.2.natAbs<=L.length*B:=λp hp=>by
 unfold cY dX at hp
 obtain⟨t,_,rfl⟩:=qap.mp hp
 unfold bp
 refine qaH (sf (B:=B) λx hx=>?_) (qh3 _ ?_)
 ·obtain⟨q,hq,rfl⟩:=qap.mp hx
  exact h q (qb0.mp hq).1
 ·rw[qae];exact qcA _ _
theorem FP {o:Ef}{a:Af}{env:Ev}{st s1 s2:Sto}{n:Nat}{ds ds0 xs:List D} (ho:o env st=some (.h n,s1)) (ha:a env s1=some ([.d (.lst xs)],s2)) (h0:lg s1 n=some ds0) (hg:lg s2 n=some ds) (hz:ds.length+xs.length<=1000000):i5 (gt qK o a) env st=some (.nx env (s2.set n (.l (ds++xs)))):=by
 simp only[i5,gt,ho,ha,h0,hg,qK,hz,if_true,qad,qaB]
theorem nL (row:Int):∀ t:List Int,cI row t=(t.length:Int)↔∀ k∈t,onI row k=1
 |[]=>by simp[cI]
 |k::t=>by
  have ih:=nL row t
  have hc:=nS row t
  rw[cI,qas]
  constructor
  ·intro h j hj
   rcases mQ row k with e|e
   ·rw[e]at h;push_cast at h;lia
   ·rcases qaC.mp hj with rfl|hj
    ·exact e
    ·exact ih.mp (by rw[e]at h;push_cast at h;lia) j hj
  ·intro h
   rw[h k qak,ih.mpr λj hj=>h j (qah _ hj)];push_cast;lia
def cB (row:Int) (m:Nat) (l:List Nat):Int:=(l.map λk=>if m.testBit k=true then onI row (k:Int) else 0).sum
theorem kU (row:Int) (m:Nat):∀ l:List Nat,cI row ((l.filter λk=>m.testBit k).map λk=>((k:Nat):Int))=cB row m l
 |[]=>rfl
 |k::l=>by
  have ih:=kU row m l
  unfold cB at *
  rw[qcy,qal,qaF,<-ih]
  by_cases h:m.testBit k=true
  ·rw[if_pos h,if_pos h];rfl
  ·rw[if_neg h,if_neg h,qcp]
theorem wF (row:Int) (m1 m2:Nat):∀ l:List Nat,cB row (m2^^^m1) l%2=(cB row m1 l+cB row m2 l)%2
 |[]=>rfl
 |k::l=>by
  have ih:=wF row m1 m2 l
  unfold cB at *
  rw[qal,qal,qal,qaF,qaF,qaF,qdz]
  have h:=mQ row (k:Int)
  cases m1.testBit k<;>cases m2.testBit k<;>simp only[qgT,Bool.xor_true,qbM,qdM,qax,if_true,if_false]<;>lia
def jn (b:Bool) (t u:List Int):List Int:=if b=true then ksI (av t|||av u) else ksI (av u^^^av t)
theorem vD (b:Bool) (t u:List Int):Trm 6 (jn b t u):=by unfold jn;split<;>exact rn _
theorem DF {b:Bool}{t u:List Int} (row:Int) (ht:Trm 6 t) (hu:Trm 6 u):br b (jn b t u) row=br b t row*br b u row:=by
 cases b with
 |true=>
  simp only[br,jn,if_true]
  have hm:(∀ k∈ksI (av t|||av u),onI row k=1)↔(∀ k∈t,onI row k=1)/\∀ k∈u,onI row k=1:=by
   have mem:∀ z,z∈ksI (av t|||av u)↔z∈t\/z∈u:=λz=>by
    rw[lH]
    constructor
    ·rintro⟨k,rfl,_,h⟩
     rw[qcl,bR ht,bR hu,qdw,decide_eq_true_eq,decide_eq_true_eq]at h
     exact h
    ·intro h
     have hz:0<=z/\z<6:=h.elim (λh=>ht.2 z h) λh=>hu.2 z h
     obtain⟨k,rfl⟩:=qbr hz.1
     refine⟨k,rfl,by lia,?_⟩
     rw[qcl,bR ht,bR hu,qdw,decide_eq_true_eq,decide_eq_true_eq]
     exact h
   exact⟨λh=>⟨λk hk=>h k ((mem k).mpr (.inl hk)),λk hk=>h k ((mem k).mpr (.inr hk))⟩,λh k hk=>((mem k).mp hk).elim (h.1 k) (h.2 k)⟩
  rw[<-nL,<-nL,<-nL]at hm
  by_cases h1:cI row t=(t.length:Int)<;>by_cases h2:cI row u=(u.length:Int)
  ·rw[if_pos h1,if_pos h2,if_pos (hm.mpr ⟨h1,h2⟩)];rfl
  ·rw[if_pos h1,if_neg h2,if_neg (λz=>h2 (hm.mp z).2)];rfl
  ·rw[if_neg h1,if_pos h2,if_neg (λz=>h1 (hm.mp z).1)];rfl
  ·rw[if_neg h1,if_neg h2,if_neg (λz=>h1 (hm.mp z).1)];rfl
 |false=>
  simp only[br,jn,qax,if_false]
  have e1:cI row t=cB row (av t) (qam 6):=by rw[<-kU];exact congrArg _ (io ht).symm
  have e2:cI row u=cB row (av u) (qam 6):=by rw[<-kU];exact congrArg _ (io hu).symm
  have e3:cI row (ksI (av u^^^av t))=cB row (av u^^^av t) (qam 6):=kU row _ _
  have hx:=wF row (av t) (av u) (qam 6)
  rw[<-e1,<-e2,<-e3]at hx
  by_cases h1:cI row t%2=1<;>by_cases h2:cI row u%2=1
  ·rw[if_pos h1,if_pos h2,if_neg (by lia)];rfl
  ·rw[if_pos h1,if_neg h2,if_pos (by lia)];rfl
  ·rw[if_neg h1,if_pos h2,if_pos (by lia)];rfl
  ·rw[if_neg h1,if_neg h2,if_neg (by lia)];rfl
theorem wD {t:List Int} (h:Trm 6 t):in6 t=true:=by
 unfold in6
 refine qaw.mpr λk hk=>?_
 exact decide_eq_true (h.2 k hk)
theorem xD {st:Sto}{b:Bool}{t u:List Int} (ht:Trm 6 t) (hu:Trm 6 u):oZ [.d (.str (bg b)),.d (aj t),.d (aj u)] st=some (.d (aj (jn b t u)),st):=by
 have s1:dP (iV 1) [some (.d (.str (bg b))),some (.d (aj t)),some (.d (aj u))] st=some (av t,st):=by
  simp only[dP,iV,aj,qa1,qbm,qaB,qad,bC,wD ht,if_true]
 have s2:dP (iV 2) [some (.d (.str (bg b))),some (.d (aj t)),some (.d (aj u))] st=some (av u,st):=by
  simp only[dP,iV,aj,qa1,qbm,qaB,qad,bC,wD hu,if_true]
 have kb:=qL b
 cases b with
 |true=>
  have e:jB (oF (dP (iV 1)) (dP (iV 2))) [some (.d (.str (bg true))),some (.d (aj t)),some (.d (aj u))] st=some ((jn true t u).map D.int,st):=by
   simp only[jB,oF,s1,s2,qad,qaB,CF,jn,if_true]
  exact aG (n:=3) (k:=3) (b:=jt) rfl (iK (lP (aX (x:=.d (.str (bg true))) rfl rfl (by rw[vW,kb])) (aI (bn (ah (aE e) rfl) rfl))))
 |false=>
  have e:jB (kR (dP (iV 1)) (dP (iV 2))) [some (.d (.str (bg false))),some (.d (aj t)),some (.d (aj u))] st=some ((jn false t u).map D.int,st):=by
   simp only[jB,kR,s1,s2,qad,qaB,CF,jn,qax,if_false]
  exact aG (n:=3) (k:=3) (b:=jt) rfl (am (im (aX (x:=.d (.str (bg false))) rfl rfl (by rw[vW,kb])) rfl) (aI (bn (ah (aE e) rfl) rfl)))
def ji (b:Bool) (p:Prt) (qs:List Prt):List Prt:=qs.map λq=>(jn b p.1 q.1,p.2*q.2)
def bL (b:Bool) (ps qs:List Prt):List Prt:=(ps.map λp=>ji b p qs).flatten
theorem nU (b:Bool) (row:Int) (a c:List Prt):bN b (a++c) row=bN b a row+bN b c row:=by unfold bN;rw[qba,qeS]
theorem tN {b:Bool}{row:Int}{p:Prt} (hp:Trm 6 p.1):∀ {qs:List Prt},(∀ q∈qs,Trm 6 q.1)->bN b (ji b p qs) row=p.2*br b p.1 row*bN b qs row
 |[],_=>by show (0:Int)=_*(0:Int);rw[qcO]
 |q::qs,h=>by
  have ih:=tN (b:=b) (row:=row) hp λx hx=>h x (qah _ hx)
  have e:ji b p (q::qs)=[(jn b p.1 q.1,p.2*q.2)]++ji b p qs:=rfl
  have e2:bN b (q::qs) row=q.2*br b q.1 row+bN b qs row:=by unfold bN;rw[qal,qaF]
  rw[e,nU,ih,e2]
  have e3:bN b [(jn b p.1 q.1,p.2*q.2)] row=p.2*q.2*br b (jn b p.1 q.1) row:=by unfold bN;simp
  rw[e3,DF row hp (h q qak),qgE]
  congr 1
  rw[qb1,qb1]
  congr 1
  rw[<-qb1,qhR q.2,qb1]
theorem qq {b:Bool}{row:Int}{qs:List Prt} (hq:∀ q∈qs,Trm 6 q.1):∀ {ps:List Prt},(∀ p∈ps,Trm 6 p.1)->bN b (bL b ps qs) row=bN b ps row*bN b qs row
 |[],_=>by show (0:Int)=(0:Int)*_;rw[qco]
 |p::ps,h=>by
  have ih:=qq (b:=b) (row:=row) hq (ps:=ps) λx hx=>h x (qah _ hx)
  have e:bL b (p::ps) qs=ji b p qs++bL b ps qs:=by unfold bL;rw[qal,qcn]
  have e2:bN b (p::ps) row=p.2*br b p.1 row+bN b ps row:=by unfold bN;rw[qal,qaF]
  rw[e,nU,ih,tN (h p qak) hq,e2,qir]
theorem mi {b:Bool}{ps qs:List Prt}:∀ p∈bL b ps qs,Trm 6 p.1:=λp hp=>by
 unfold bL at hp
 obtain⟨l,hl,hp⟩:=qf9.mp hp
 obtain⟨x,_,rfl⟩:=qap.mp hl
 unfold ji at hp
 obtain⟨y,_,rfl⟩:=qap.mp hp
 exact vD _ _ _
theorem qN (b:Bool) (qs:List Prt):∀ ps:List Prt,(bL b ps qs).length=ps.length*qs.length
 |[]=>by simp[bL]
 |p::ps=>by
  have e:bL b (p::ps) qs=ji b p qs++bL b ps qs:=by unfold bL;rw[qal,qcn]
  rw[e,qa2,qN b qs ps,qas,qin]
  unfold ji
  rw[qae];lia
theorem uP {b:Bool}{ps qs:List Prt}{i:Nat}{p:Prt} (h:ps[i]?=some p):bL b (ps.take (i+1)) qs=bL b (ps.take i) qs++ji b p qs:=by
 unfold bL
 rw[qbK,h,qba,List.flatten_append]
 simp
theorem Bs {st:Sto}{b:Bool}{ps qs:List Prt} (hp:∀ p∈ps,Trm 6 p.1) (hq:∀ q∈qs,Trm 6 q.1) (lp:ps.length<=64) (lq:qs.length<=64) (hb:∀ q∈qs,-(2^64)<q.2/\q.2<2^64) :
  fR [.d (ao (bg b) ps),.d (ao (bg b) qs)] st=some (.d (ao (bg b) (cY (bL b ps qs))),st):=by
 have hlc:∀ (p:Prt),Trm 6 p.1->∀ s,lcI (.tp [0,1]) bB jC [none,none,some (.d (.str (bg b))),some (.d (aj p.1)),some (.d (.int p.2))] (qs.map au) s=some ((ji b p qs).map au,s):=λp h1 s=>by
  unfold ji
  rw[qaL]
  refine gy _ λq hm=>⟨_,rfl,?_⟩
  have e:=xD (st:=s) (b:=b) h1 (hq q hm)
  exact cn (ah (aq rfl e) (ah (az (x:=.d (.int p.2)) (y:=.d (.int q.2)) (d:=.int (p.2*q.2)) rfl rfl (by
   show (if qbF p.2 q.2 then some (D.int (p.2*q.2)) else none)=_
   rw[if_pos (fW (hb q hm))])) rfl)) rfl (by show 2<=1000;decide)
 obtain⟨e',s',hF,o4,o5,rfl,rfl⟩:=bS (g:=.tp [4,5]) (body:=jO) (ds:=ps.map au) (λi env s=>∃ o4 o5,env=[some (.d (ao (bg b) ps)),some (.d (ao (bg b) qs)),some (.d (.str (bg b))),some (.h st.length),o4,o5]/\s=st++[.l ((bL b (ps.take i) qs).map au)])
  (env:=[some (.d (ao (bg b) ps)),some (.d (ao (bg b) qs)),some (.d (.str (bg b))),some (.h st.length),none,none]) (st:=st++[.l []]) ⟨none,none,rfl,rfl⟩ (by
  rintro i d env s hd ⟨o4,o5,rfl,rfl⟩
  obtain⟨p,hpi,rfl⟩:=mf hd
  have hmem:=qbu hpi
  have hl:=hlc p (hp p hmem) (st++[.l ((bL b (ps.take i) qs).map au)])
  have hg2:lg (st++[C.l ((bL b (ps.take i) qs).map au)]) st.length=some ((bL b (ps.take i) qs).map au):=by
   unfold lg
   rw[qbd (qan _),qdo];rfl
  have hln:(bL b (ps.take i) qs).length<=64*64:=by
   rw[qN]
   exact qg3 (qaH (List.length_take_le _ _) (by have:=(qay.mp hpi).1;lia)) lq
  have hz:((bL b (ps.take i) qs).map au).length+((ji b p qs).map au).length<=1000000:=by
   unfold ji
   rw[qae,qae,qae];lia
  have hset:(st++[C.l ((bL b (ps.take i) qs).map au)]).set st.length (.l ((bL b (ps.take i) qs).map au++(ji b p qs).map au))=st++[.l ((bL b (ps.take (i+1)) qs).map au)]:=by
   rw[qdN _ _ (qan _),qdo,uP hpi,qba];rfl
  refine⟨_,_,_,rfl,.inl ?_,some (.d (aj p.1)),some (.d (.int p.2)),rfl,rfl⟩
  rw[<-hset]
  have hz2:(qs.map au).length<=1000000:=by rw[qae];lia
  unfold ao
  generalize (ji b p qs).map au=RL at hl hz
  generalize (bL b (ps.take i) qs).map au=AC at hl hg2 hz
  generalize qs.map au=QQ at hl hz2
  generalize ps.map au=PP
  have q1:=aE (bK (k:=2) (js:=[2,4,5]) (env:=[some (.d (.tup [.str (bg b),.tup PP])),some (.d (.tup [.str (bg b),.tup QQ])),some (.d (.str (bg b))),some (.h st.length),some (.d (aj p.1)),some (.d (.int p.2))]) (ik (f:=iOp dIx (iV 1) (iC (.int 1))) (az rfl rfl (ix1 _ _ _ _))) hz2 hl)
  have q2:=ah (b:=ak) q1 rfl
  exact FP (o:=iV 3) rfl q2 hg2 hg2 hz)
 rw[qae,qbv]at hF
 have hw:rY (st++[C.l ((bL b ps qs).map au)]) (.h st.length) (bL b ps qs):=.inr (.inr ⟨_,rfl,by
  unfold lg
  rw[qbd (qan _),qdo];rfl⟩)
 have k4:=rj (kd:=bg b) hw mi
 generalize cY (bL b ps qs)=R at k4 ⊢
 have hq2:=gq (n:=6) (k:=2) (b:=fK) (ws:=[.d (ao (bg b) ps),.d (ao (bg b) qs)]) (st:=st) (s:=st++[C.l ((bL b ps qs).map au)]) (x:=ao (bg b) R) rfl
  (am (aJ (w:=.d (.str (bg b))) (s:=st) (az rfl rfl (ix0 _ _ _))) (am (aJ (w:=.h st.length) (s:=st++[C.l []]) rfl) (am (dC (ik (az rfl rfl (ix1 _ _ _ _))) hF) (aI (aq rfl k4)))))
 have ht:(st++[C.l ((bL b ps qs).map au)]).take st.length=st:=by rw[qgr];rfl
 rw[ht]at hq2
 exact hq2
theorem FE {b:Bool}{n:Nat}{t u:List Int} (hn:n<=6) (ht:Trm n t) (hu:Trm n u):Trm n (jn b t u):=by
 have key:∀ k:Nat,((av t).testBit k=true\/(av u).testBit k=true)->(k:Int)<n:=λk h=>by
  rw[bR (ht.mono hn),bR (hu.mono hn),decide_eq_true_eq,decide_eq_true_eq]at h
  exact h.elim (λh=>(ht.2 _ h).2) λh=>(hu.2 _ h).2
 refine⟨(vD b t u).1,λz hz=>⟨((vD b t u).2 z hz).1,?_⟩⟩
 unfold jn at hz
 split at hz
 ·obtain⟨k,rfl,_,h⟩:=lH.mp hz
  rw[qcl,qdw]at h
  exact key k h
 ·obtain⟨k,rfl,_,h⟩:=lH.mp hz
  rw[qdz]at h
  refine key k ?_
  cases h1:(av t).testBit k with
  |true=>exact .inl rfl
  |false=>
   rw[h1,qgT]at h
   exact .inr h
theorem z9 {b:Bool}{n:Nat}{ps qs:List Prt} (hn:n<=6) (hp:∀ p∈ps,Trm n p.1) (hq:∀ q∈qs,Trm n q.1):∀ p∈bL b ps qs,Trm n p.1:=λp h=>by
 unfold bL at h
 obtain⟨l,hl,h⟩:=qf9.mp h
 obtain⟨x,hx,rfl⟩:=qap.mp hl
 unfold ji at h
 obtain⟨y,hy,rfl⟩:=qap.mp h
 exact FE hn (hp x hx) (hq y hy)
theorem oT (b:Bool) (row c:Int):∀ ps:List Prt,bN b (ps.map λp=>(p.1,c*p.2)) row=c*bN b ps row
 |[]=>by show (0:Int)=c*0;rw[qcO]
 |p::ps=>by
  have ih:=oT b row c ps
  have e2:bN b (p::ps) row=p.2*br b p.1 row+bN b ps row:=by unfold bN;rw[qal,qaF]
  have e3:bN b ((p::ps).map λp=>(p.1,c*p.2)) row=c*p.2*br b p.1 row+bN b (ps.map λp=>(p.1,c*p.2)) row:=by unfold bN;rw[qal,qal,qaF]
  rw[e2,e3,ih,qgE,qb1]
theorem za {st:Sto}{b:Bool}{ps:List Prt}{c:Int} (hp:∀ p∈ps,Trm 6 p.1) (lp:ps.length<=64) (hc:-(2^64)<c/\c<2^64) :
  ny [.d (ao (bg b) ps),.d (.int c)] st=some (.d (ao (bg b) (cY (ps.map λp:Prt=>((p.1,c*p.2):Prt)))),st):=by
 have h6:∀ p∈ps.map (λp:Prt=>((p.1,c*p.2):Prt)),Trm 6 p.1:=λp hm=>by
  obtain⟨q,hq,rfl⟩:=qap.mp hm
  exact hp q hq
 have key:lcI (.tp [0,1]) bB qO [none,none,some (.d (.int c))] (ps.map au) st=some ((ps.map λp:Prt=>((p.1,c*p.2):Prt)).map au,st):=by
  rw[qaL]
  refine gy _ λq hm=>⟨_,rfl,?_⟩
  exact cn (ah rfl (ah (az (x:=.d (.int c)) (y:=.d (.int q.2)) (d:=.int (c*q.2)) rfl rfl (by
   show (if qbF c q.2 then some (D.int (c*q.2)) else none)=_
   rw[if_pos (kY hc)])) rfl)) rfl (by show 2<=1000;decide)
 have k4:=rj (st:=st) (kd:=bg b) (w:=.d (.lst ((ps.map λp:Prt=>((p.1,c*p.2):Prt)).map au))) (.inr (.inl rfl)) h6
 generalize cY (ps.map λp:Prt=>((p.1,c*p.2):Prt))=R at k4 ⊢
 have hz:(ps.map au).length<=1000000:=by rw[qae];lia
 generalize (ps.map λp:Prt=>((p.1,c*p.2):Prt)).map au=LL at *
 unfold ao at k4 ⊢
 generalize ps.map au=PP at *
 exact aG (n:=2) (k:=2) (b:=nw) rfl (aI (aq (ah (az rfl rfl (ix0 _ _ _)) (ah (aE (bK (ik (az rfl rfl (ix1 _ _ _ _))) hz key)) rfl)) k4))
end Own
end
section
set_option maxHeartbeats 1000000
namespace Own
open PySem L2
theorem pI (b:Bool) (row:Int):∀ (t:List Int) (a:Int),(t.foldl (λv k=>v*qe b (onI row k)) a)=a*br b t row
 |[],a=>by cases b<;>simp[br,cI]
 |k::t,a=>by
  rw[qbw,pI b row t]
  have hc:=nS row t
  rw[qb1]
  congr 1
  cases b with
  |true=>
   simp only[qe,if_true,br,cI,qas]
   rcases mQ row k with e|e
   ·simp only[e,qco]
    split
    ·push_cast at *;lia
    ·rfl
   ·simp only[e,qd8]
    split<;>split<;>first|rfl|(push_cast at *;lia)
  |false=>
   simp only[qe,qax,if_false,br,cI]
   rcases mQ row k with e|e
   ·simp only[e,qcp]
    split<;>rfl
   ·simp only[e]
    split<;>split<;>first|rfl|lia
theorem qH (b:Bool) (t:List Int) (k row:Int):br b (t++[k]) row=br b t row*qe b (onI row k):=by
 have h1:=pI b row (t++[k]) 1
 have h2:=pI b row t 1
 rw[qdH,h2,qd8,qd8]at h1
 exact h1.symm
theorem jG {α:Type} (a:α->Int) (c:Int):∀ l:List α,(l.map λx=>a x*c).sum=(l.map a).sum*c
 |[]=>by show (0:Int)=0*c;rw[qco]
 |x::l=>by rw[qal,qal,qaF,qaF,jG a c l,qir]
theorem cT {α:Type} (a:α->Int) (c:Int):∀ l:List α,(l.map λx=>c*a x).sum=c*(l.map a).sum
 |[]=>by show (0:Int)=c*0;rw[qcO]
 |x::l=>by rw[qal,qal,qaF,qaF,cT a c l,qgE]
theorem jk {α β:Type} (F:α->β->Int) (m:List β):∀ l:List α,(l.map λt=>(m.map λr=>F t r).sum).sum=(m.map λr=>(l.map λt=>F t r).sum).sum
 |[]=>by
  show (0:Int)=(m.map λ_=>(0:Int)).sum
  rw[gA]
 |t::l=>by
  rw[qal,qaF,jk F m l,<-lM]
  rfl
theorem mF (s:Nat->Int) (C:Int) (x:Nat):∀ l:List Nat,l.Nodup->x∈l->(l.map λr=>s r*(if r=x then C else 0)).sum=s x*C
 |[],_,h=>by cases h
 |r::l,hn,h=>by
  rw[qal,qaF]
  rw[qbR]at hn
  by_cases e:r=x
  ·subst e
   have:(l.map λy=>s y*(if y=r then C else 0))=l.map λ_=>(0:Int):=qar λy hy=>by
    rw[if_neg (λz:y=r=>hn.1 (z ▸ hy)),qcO]
   rw[this,gA,if_pos rfl,qe6]
  ·rw[if_neg e,qcO,qcp]
   exact mF s C x l hn.2 ((qaC.mp h).resolve_left λz=>e z.symm)
def orP (r q:Int):Nat->Int
 |0=>1
 |n+1=>orP r q n*(1+qe false (onI r n)*qe false (onI q n))
theorem Et (r q:Int):∀ n:Nat,((fj n).map λt=>br false t r*br false t q).sum=orP r q n
 |0=>by simp[fj,orP,br,cI]
 |n+1=>by
  rw[fj,qba,qeS,qaL,Et r q n,orP,qgE,qd9]
  congr 1
  rw[<-Et r q n,<-jG]
  congr 1
  refine qar λt _=>?_
  show br false (t++[(n:Int)]) r*br false (t++[(n:Int)]) q=_
  rw[qH,qH]
  generalize br false t r=a
  generalize br false t q=b
  generalize qe false (onI r n)=c
  generalize qe false (onI q n)=d
  rw[qb1,qeB c b d,<-qb1]
theorem Ah (r q k:Int):qe false (onI r k)*qe false (onI q k)=if onI r k=onI q k then 1 else -1:=by
 rcases mQ r k with a|a<;>rcases mQ q k with b|b<;>rw[a,b]<;>decide
theorem uk (r q:Int) {k:Nat} (h:onI r k≠onI q k):∀ n:Nat,k<n->orP r q n=0
 |0,hk=>by lia
 |n+1,hk=>by
  rw[orP]
  by_cases e:k=n
  ·subst e
   rw[Ah,if_neg h];show _*(0:Int)=0;rw[qcO]
  ·rw[uk r q h n (by lia),qco]
theorem sU (r:Int):∀ n:Nat,orP r r n=2^n
 |0=>rfl
 |n+1=>by rw[orP,sU r n,Ah,if_pos rfl,qkR];rfl
theorem wt (r k:Nat):onI (r:Int) (k:Int)=((r / 2^k%2:Nat):Int):=by
 unfold onI
 rw[qaW];push_cast;rfl
theorem uJ {n r q:Nat} (hr:r<2^n) (hq:q<2^n) (h:r≠q):∃ k,k<n/\onI (r:Int) (k:Int)≠onI (q:Int) (k:Int):=by
 apply qc7
 intro hc
 refine h (qci λk=>?_)
 by_cases hk:k<n
 ·have:onI (r:Int) (k:Int)=onI (q:Int) (k:Int):=qc7 λz=>hc ⟨k,hk,z⟩
  rw[wt,wt]at this
  have h2:r / 2^k%2=q / 2^k%2:=by lia
  rw[qfT,qfT,h2]
 ·have hp:2^n<=2^k:=qbg (by decide) (by lia)
  rw[qhy (qaP hr hp),qhy (qaP hq hp)]
theorem AB {n r q:Nat} (hr:r<2^n) (hq:q<2^n):((fj n).map λt=>br false t (r:Int)*br false t (q:Int)).sum=if r=q then 2^n else 0:=by
 rw[Et]
 by_cases e:r=q
 ·subst e;rw[if_pos rfl,sU]
 ·obtain⟨k,hk,hd⟩:=uJ hr hq e
  rw[if_neg e,uk _ _ hd n hk]
theorem xX (s:Nat->Int) {n row:Nat} (h:row<2^n):((fj n).map λt=>((qam (2^n)).map λr:Nat=>s r*br false t (r:Int)).sum*br false t (row:Int)).sum=2^n*s row:=by
 have e1:((fj n).map λt=>((qam (2^n)).map λr:Nat=>s r*br false t (r:Int)).sum*br false t (row:Int))=(fj n).map λt=>((qam (2^n)).map λr:Nat=>s r*br false t (r:Int)*br false t (row:Int)).sum:=qar λt _=>(jG _ _ _).symm
 rw[e1,jk]
 have e2:((qam (2^n)).map λr:Nat=>((fj n).map λt=>s r*br false t (r:Int)*br false t (row:Int)).sum)=(qam (2^n)).map λr:Nat=>s r*(if r=row then 2^n else 0):=qar λr hr=>by
  rw[<-AB (qaK.mp hr) h,<-cT]
  congr 1
  refine qar λt _=>?_
  rw[qb1]
 rw[e2,mF s (2^n) row _ qf8 (qaK.mpr h),qhR]
theorem FR {c:Tf}{b:Sf}{n:Nat}{env:Ev}{st s:Sto} (h:c env st=some (false,s)):dl c b (n+1) env st=some (.nx env s):=by
 unfold dl
 rw[h,qad,if_neg qaq]
theorem EV {c:Tf}{b:Sf}{n:Nat}{env e:Ev}{st s s2:Sto} (h:c env st=some (true,s)) (hb:b env s=some (.nx e s2)):dl c b (n+1) env st=dl c b n e s2:=by
 rw[dl,h,qad,if_pos rfl,hb,qad]
theorem A5 {st:Sto}{f:D}{L:Int}{n:Nat} (hL:L=((2^n:Nat):Int)) (hf:∀ s,eB s [.d f]=some (.int L)):∀ (g j fuel:Nat) (many:Int),j+g=n->n<=60->g<fuel->dl dh e8 fuel [some (.d f),some (.d (.int many)),some (.d (.int ((2^j:Nat):Int)))] st=some (.nx [some (.d f),some (.d (.int (many+g))),some (.d (.int ((2^n:Nat):Int)))] st):=by
 intro g
 induction g with
 |zero=>
  intro j fuel many hj hn hf'
  obtain⟨k,rfl⟩:∃ k,fuel=k+1:=⟨fuel - 1,by lia⟩
  have e:j=n:=by lia
  subst e
  have hc:dh [some (.d f),some (.d (.int many)),some (.d (.int ((2^j:Nat):Int)))] st=some (false,st):=by
   refine aX rfl (bn rfl (hf st)) ?_
   show some (D.bl (decide (((2^j:Nat):Int)<L)))=_
   rw[hL];simp
  rw[FR hc]
  simp
 |succ g ih=>
  intro j fuel many hj hn hf'
  obtain⟨k,rfl⟩:∃ k,fuel=k+1:=⟨fuel - 1,by lia⟩
  have e:=ih (j+1) k (many+1) (by lia) hn (by lia)
  have hlt:2^j<2^n:=qff (by decide) (by lia)
  have hc:dh [some (.d f),some (.d (.int many)),some (.d (.int ((2^j:Nat):Int)))] st=some (true,st):=by
   refine aX rfl (bn rfl (hf st)) ?_
   show some (D.bl (decide (((2^j:Nat):Int)<L)))=_
   rw[hL,decide_eq_true (by lia)]
  have e2:((2^(j+1):Nat):Int)=((2^j:Nat):Int)*2:=by rw[qkN];push_cast;rfl
  have km:qbF (((2^j:Nat):Int)) 2:=fW (by decide)
  have hb:e8 [some (.d f),some (.d (.int many)),some (.d (.int ((2^j:Nat):Int)))] st=some (.nx [some (.d f),some (.d (.int (many+1))),some (.d (.int ((2^(j+1):Nat):Int)))] st):=by
   rw[e2]
   refine am (aJ (az rfl rfl ?_)) rfl
   show (if qhd _ 2 then some (D.int (((2^j:Nat):Int)*2)) else none)=_
   rw[if_pos km]
  rw[EV hc hb,e]
  have e3:many+1+(g:Int)=many+((g+1:Nat):Int):=by push_cast;lia
  rw[e3]
theorem mM {st:Sto}{f:List Int}{n:Nat} (hf:f.length=2^n) (hn:n<=6):dq [.d (aj f)] st=some (.d (.int n),st):=by
 have e:=A5 (st:=st) (f:=aj f) (L:=((2 ^ n:Nat):Int)) (n:=n) rfl (λs=>by
  show some (D.int ((f.map D.int).length:Int))=_
  rw[qae,hf]) n 0 1000000000000000000000000000000 0 (by lia) (by lia) (by lia)
 rw[qcp]at e
 exact aG rfl (am (e:=[some (.d (aj f)),some (.d (.int 0)),none]) (s:=st) rfl (am (e:=[some (.d (aj f)),some (.d (.int 0)),some (.d (.int 1))]) (s:=st) rfl (am e rfl)))
theorem vE {st:Sto}{n m:Int} (n0:0<=n) (n1:n<=6) (m0:0<=m):kG [.d (.int n),.d (.int m)] st=some (.d (.tup (((cO n.toNat).filter λt=>decide ((t.length:Int)<=m)).map aj)),st):=by
 obtain⟨env',s2,e2,o,rfl,rfl⟩:=bS (g:=.nm 3) (body:=kQ) (ds:=eZ 0 n.toNat) (λi env s=>∃ o,env=[some (.d (.int n)),some (.d (.int m)),some (.d (.lst ((eu m i).map aj))),o]/\s=st) (env:=[some (.d (.int n)),some (.d (.int m)),some (.d (.lst [.tup []])),none]) (st:=st)
  ⟨none,rfl,rfl⟩ (λi d env s hd ⟨o,e,es⟩=>by
   subst e es
   obtain⟨rfl,hi⟩:=fF hd
   have hl:(eu m i).length<=64:=qaH (t3 m m0 i) (qaH (qbg (by decide) (by lia:i<=6)) (by decide))
   have ht:∀ t∈eu m i,t.length<=i:=λt ht=>by
    rw[nE m m0]at ht
    exact gY (jI i (qb0.mp ht).1)
   have key:lcI (.nm 0) lO ll [none,some (.d (.int m)),some (.d (.int i))] ((eu m i).map aj) s =
     some ((((eu m i).map aj).filter λd=>match d with|.tup ds=>decide ((ds.length:Int)<m)|_=>false).map λd=>match d with|.tup ds=>.tup (ds++[.int i])|d=>d,s):=dm _ _ λd hd=>by
    obtain⟨t,htm,rfl⟩:=qap.mp hd
    have htl:=ht t htm
    have hk:(t.map D.int).length+1<=1000000:=by rw[qae];lia
    exact⟨_,rfl,aX (bn rfl rfl) rfl rfl,λ_=>az rfl (cn (ds:=[.int i]) (ah rfl rfl) rfl (by show 1<=1000;decide)) (Ar _ hk)⟩
   have e1:((((eu m i).map aj).filter λd=>match d with|.tup ds=>decide ((ds.length:Int)<m)|_=>false).map λd=>match d with|.tup ds=>.tup (ds++[.int i])|d=>d) =
     (((eu m i).filter λt=>decide ((t.length:Int)<m)).map λt=>t++[(i:Int)]).map aj:=by
    rw[qcJ,qaL,qaL]
    have e0:((λd=>match d with|.tup ds=>decide ((ds.length:Int)<m)|_=>false) ∘ aj)=λt:List Int=>decide ((t.length:Int)<m):=by
     funext t
     show decide (((t.map D.int).length:Int)<m)=_
     rw[qae]
    rw[e0]
    refine qar λt _=>?_
    show D.tup (t.map D.int++[.int i])=D.tup ((t++[(i:Int)]).map D.int)
    rw[qba];rfl
   rw[e1]at key
   have e3:(eu m (i+1)).map aj=(eu m i).map aj++(((eu m i).filter λt=>decide ((t.length:Int)<m)).map λt=>t++[(i:Int)]).map aj:=by rw[eu,qba]
   have h1:((eu m i).map aj).length<=1000000:=by rw[qae];lia
   have h2:((eu m i).map aj).length+((((eu m i).filter λt=>decide ((t.length:Int)<m)).map λt=>t++[(i:Int)]).map aj).length<=1000000:=by
    have:=qcA (λt:List Int=>decide ((t.length:Int)<m)) (eu m i)
    simp only[qae];lia
   refine⟨_,[some (.d (.int n)),some (.d (.int m)),some (.d (.lst ((eu m (i+1)).map aj))),some (.d (.int i))],s,rfl,.inl ?_,_,rfl,rfl⟩
   rw[e3]
   generalize (((eu m i).filter λt=>decide ((t.length:Int)<m)).map λt=>t++[(i:Int)]).map aj=B at key h2 ⊢
   generalize (eu m i).map aj=A at key h1 h2 ⊢
   exact aJ (i:=2) (az rfl (aE (bK (fY rfl) h1 key)) (Ej _ h2)))
 rw[cu]at e2
 have hl:((eu m n.toNat).map aj).length<=64:=by
  rw[qae]
  exact qaH (t3 m m0 _) (qaH (qbg (by decide) (by lia:n.toNat<=6)) (by decide))
 have hs:oU ((eu m n.toNat).map aj)=some (((cO n.toNat).filter λt=>decide ((t.length:Int)<=m)).map aj):=by
  have e9:bh (eu m n.toNat)=(cO n.toNat).filter λt=>decide ((t.length:Int)<=m):=by rw[nE m m0,pQ];rfl
  rw[n4,e9]
 generalize (eu m n.toNat).map aj=A at e2 hl hs
 generalize ((cO n.toNat).filter λt=>decide ((t.length:Int)<=m)).map aj=B at hs ⊢
 have hst:jP s2 [.d (.lst A)]=some B:=by
  show (if A.length<=64 then oU A else none)=_
  rw[if_pos hl,hs]
 have hq:iCL jP (ab (iV 2) ak) [some (.d (.int n)),some (.d (.int m)),some (.d (.lst A)),o] s2=some (B,s2):=by
  have q:=ah (a:=iV 2) (b:=ak) (env:=[some (.d (.int n)),some (.d (.int m)),some (.d (.lst A)),o]) (st:=s2) (x:=.d (.lst A)) rfl rfl
  simp only[iCL,q,qad,hst,qaB]
 exact aG (n:=4) (k:=2) (b:=iI) rfl (am (aJ (i:=2) (aE (lJ (ds:=[.tup []]) (ah (cn (ds:=[]) rfl rfl (by decide)) rfl) rfl (by show 1<=1000;decide)))) (am (dC (fz rfl n0 (by lia) rfl) e2) (aI (bn (ah (aE hq) rfl) rfl))))
theorem wB (st:Sto) (ds:List D):lg (st++[C.l ds]) st.length=some ds:=by
 unfold lg
 rw[qbd (qan _),qdo];rfl
theorem yn (st:Sto) (x y:C):(st++[x]).set st.length y=st++[y]:=by
 rw[qdN _ _ (qan _),qdo];rfl
theorem qr (st:Sto) (x:C):(st++[x]).take st.length=st:=by rw[qgr];rfl
def sI (v:Int):Int:=if v=1 then 1 else -1
theorem j6 (g:Int->Int):∀ (f:List Int) (i:Nat),sgS g i (f.map D.int)=((qam f.length).map λr:Nat=>sI (f.getD r 0)*g ((i+r:Nat):Int)).sum
 |[],_=>rfl
 |v::f,i=>by
  rw[qal,qas,qht,qal,qaF,qaL]
  show sgD (.int v)*g i+sgS g (i+1) (f.map D.int)=_
  rw[j6 g f (i+1)]
  congr 1
  congr 1
  refine qar λr _=>?_
  show sI (f.getD r 0)*g ((i+1+r:Nat):Int)=sI ((v::f).getD (r+1) 0)*g ((i+(r+1):Nat):Int)
  rw[qbm,show i+1+r=i+(r+1) by lia]
theorem zD {α:Type} (f:α->Int) {l m:List α} (h:l.Perm m):(l.map f).sum=(m.map f).sum:=by
 induction h with
 |nil=>rfl
 |cons x _ ih=>rw[qal,qal,qaF,qaF,ih]
 |swap x y l=>simp only[qal,qaF];lia
 |trans _ _ a b=>exact a.trans b
def exN (f:List Int) (t:List Int):Int:=sgS (br false t) 0 (f.map D.int)
def exL (f:List Int) (n:Nat):List Prt:=(cO n).map λt=>(t,exN f t)
theorem Bw {f:List Int}{n row:Nat} (hf:f.length=2^n) (h:row<2^n):bN false (exL f n) (row:Int)=2^n*sI (f.getD row 0):=by
 unfold bN exL
 rw[qaL,<-xX (λr=>sI (f.getD r 0)) h]
 refine (zD _ (aZ (fj n))).trans ?_
 congr 1
 refine qar λt _=>?_
 show exN f t*br false t row=_
 rw[exN,j6,hf]
 congr 2
 refine qar λr _=>?_
 rw[qbz]
theorem kE:∀ n:Nat,(fj n).Nodup
 |0=>by simp[fj]
 |n+1=>by
  rw[fj,qdE]
  refine⟨kE n,?_,?_⟩
  ·refine qjR _ (λa b hab=>?_) (kE n)
   intro e
   exact hab (List.append_cancel_right e)
  ·intro a ha b hb e
   subst e
   obtain⟨t,_,rfl⟩:=qap.mp hb
   have:=(jI n ha).2 (n:Int) (qau _ (qaO.mpr rfl))
   lia
theorem oe (n:Nat):(cO n).Nodup:=(aZ _).nodup_iff.mpr (kE n)
theorem oO (f:List Int) (n:Nat):(exL f n).map qa6=cO n:=by
 unfold exL
 rw[qaL]
 conv=>rhs;rw[<-qdF (cO n)]
 rfl
theorem nM {f:List Int}{n:Nat}:∀ p∈exL f n,Trm n p.1:=λp hp=>by
 obtain⟨t,ht,rfl⟩:=qap.mp hp
 exact ij ht
theorem zC {st:Sto}{f:List Int}{n:Nat} (hf:f.length=2^n) (hn:n<=6) (hv:∀ v∈f,v=0\/v=1) :
  ∃ ks:List (List Int),ks.Pairwise ltL/\ks.Nodup/\(∀ t,t∈ks↔t∈(exL f n).map qa6)/\df [.d (aj f)] st=some (.d (ao (bg false) (dX ks (exL f n))),st):=by
 have h6:∀ p∈exL f n,Trm 6 p.1:=λp hp=>(nM p hp).mono hn
 have hsw:=mM (st:=st) hf hn
 have h64:f.length<=64:=by rw[hf];exact qaH (qbg (by decide) hn) (by decide)
 have hvf:∀ u∈f.map D.int,zn u:=λu hu=>by
  obtain⟨v,h,rfl⟩:=qap.mp hu
  rcases hv v h with rfl|rfl
  ·exact .inr (.inl rfl)
  ·exact .inr (.inr rfl)
 obtain⟨e',s',hF,o3,kvs,rfl,rfl,G⟩:=bS (g:=.nm 3) (body:=eF) (ds:=(cO n).map aj) (λi env s=>∃ o3 kvs,env=[some (.d (aj f)),some (.d (.int n)),some (.h st.length),o3]/\s=st++[.m kvs]/\GK kvs ((exL f n).take i))
  (env:=[some (.d (aj f)),some (.d (.int n)),some (.h st.length),none]) (st:=st++[.m []]) ⟨none,[],rfl,rfl,GK.nil⟩ (by
  rintro i d env s hd ⟨o3,kvs,rfl,rfl,G⟩
  rw[qaZ,qaf]at hd
  obtain⟨t,ht,rfl⟩:=hd
  have htr:=(ij (qbu ht)).mono hn
  have hp:(exL f n)[i]?=some (t,exN f t):=by unfold exL;rw[qaZ,ht];rfl
  have htk:(exL f n).take (i+1)=(exL f n).take i++[(t,exN f t)]:=by rw[qbK,hp];rfl
  have hnew:t∉((exL f n).take i).map qa6:=λhm=>by
   rw[qhc,oO]at hm
   have hnd:=oe n
   rw[<-qhA i (cO n),qdE]at hnd
   exact hnd.2.2 t hm t (qhB.mpr ⟨0,by rw[List.getElem?_drop];exact ht⟩) rfl
  have G2:=G.put (t,exN f t)
  rw[kD hnew,qcp]at G2
  have hlen:=zv G λq hq=>h6 q (qfb hq)
  have hs:=zm (st:=st++[C.m kvs]) (fs:=f.map D.int) (b:=false) (t:=t) (by rw[qae];lia) hvf (Fz htr (qan 6)) (by have:=gY htr;lia)
  refine⟨_,_,_,rfl,.inl ?_,some (.d (aj t)),kA kvs t (.int (exN f t)),rfl,rfl,by rw[htk];exact G2⟩
  have e1:bf (t.map D.int)=some t:=bC t
  have e2:=lx st kvs
  have e4:(st++[C.m kvs]).set st.length (.m (kA kvs t (.int (exN f t))))=st++[.m (kA kvs t (.int (exN f t)))]:=by
   rw[qdN _ _ (qan _),qdo];rfl
  have hl:kvs.length<1000:=by lia
  have g2:aD lQ (ab (iV 0) (ab (iC (.str "odd")) (ab (iV 3) ak))) [some (.d (aj f)),some (.d (.int n)),some (.h st.length),some (.d (aj t))] (st++[C.m kvs])=some (.d (.int (exN f t)),st++[C.m kvs]):=aq rfl hs
  simp only[aj]at g2 ⊢
  simp only[eF,qP,g2,iV,qdt,qds,qa1,qbm,qaB,qad,e1,e2,hl,if_true,e4])
 rw[qae,<-oO f n,qae,qbv]at G
 refine⟨bh (kvs.map qa6),jW G.nd,(aZ _).nodup_iff.mpr G.nd,λt=>((aZ _).mem_iff).trans (G.mem t),?_⟩
 have hfr:eW [.d (.str "odd"),.h st.length] (st++[C.m kvs])=some (.d (ao (bg false) (dX (bh (kvs.map qa6)) (exL f n))),st++[C.m kvs]):=wo (kd:=bg false) (lx st kvs) G h6
 generalize dX (bh (kvs.map qa6)) (exL f n)=R at hfr ⊢
 have hto:=vE (st:=st++[C.m []]) (n:=n) (m:=n) (by lia) (by lia) (by lia)
 have hflt:((cO (n:Int).toNat).filter λt=>decide ((t.length:Int)<=(n:Int)))=cO n:=by
  rw[qaW]
  refine qfm.mpr λt ht=>?_
  have:=gY (ij ht)
  exact decide_eq_true (by lia)
 rw[hflt]at hto
 have hq:=gq (n:=4) (k:=1) (b:=dR) (ws:=[.d (aj f)]) (st:=st) (s:=st++[C.m kvs]) (x:=ao (bg false) R) rfl
  (am (aJ (i:=1) (aq rfl hsw)) (am (aJ (i:=2) (w:=.h st.length) (s:=st++[C.m []]) rfl) (am (dC (ik (aq rfl hto)) hF) (aI (aq rfl hfr)))))
 rw[qr]at hq
 exact hq
theorem Ad {f:List Int}{n:Nat}{t:List Int} (h:t∈cO n):bp (exL f n) t=exN f t:=by
 have key:∀ (l:List (List Int)),l.Nodup->t∈l->bp (l.map λt=>(t,exN f t)) t=exN f t:=λl=>by
  induction l with
  |nil=>intro _ h;cases h
  |cons u l ih=>
   intro hn h
   rw[qbR]at hn
   rw[qal,pE]
   by_cases e:u=t
   ·subst e
    rw[if_pos rfl,kD (by rw[qaL];intro hm;obtain⟨x,hx,e⟩:=qap.mp hm;exact hn.1 (by have e':x=u:=e;rw[<-e'];exact hx)),qe6]
   ·rw[if_neg e,qcp]
    exact ih hn.2 ((qaC.mp h).resolve_left λz=>e z.symm)
 exact key _ (oe n) h
end Own
end
section
set_option maxHeartbeats 1000000
namespace Own
open PySem L2
def mvP (m:Int) (p:Prt):Prt:=(p.1.map (·+m),p.2)
theorem De {te:Ef}{st:Sto}{m:Int} (hte:∀ k:Int,te [some (.d (.int k)),some (.d (.int m))] st=some (.d (.int (k+m)),st)) (t:List Int):lcI (.nm 0) bB te [none,some (.d (.int m))] (t.map D.int) st=some ((t.map (·+m)).map D.int,st):=by
 have:(t.map (·+m)).map D.int=(t.map D.int).map λd=>match d with|.int k=>.int (k+m)|d=>d:=by rw[qaL,qaL];rfl
 rw[this]
 exact lc _ λd hd=>by
  obtain⟨k,_,rfl⟩:=qap.mp hd
  exact⟨_,rfl,hte k⟩
theorem ze {st:Sto}{kd:Str}{ps:List Prt}{m:Int} (hl:ps.length<=1000) (hp:∀ p∈ps,p.1.length<=1000):ln [.d (ao kd ps),.d (.int m)] st=some (.d (ao kd (ps.map (mvP m))),st):=by
 have key:lcI (.tp [0,1]) bB qo [none,none,some (.d (.int m))] (ps.map au) st=some (ps.map λp=>au (mvP m p),st):=gy _ λp hm=>by
  refine⟨_,rfl,?_⟩
  have k2:=De (te:=qD) (st:=st) (m:=m) (λk=>rfl) p.1
  have hz:(p.1.map D.int).length<=1000000:=by rw[qae];have:=hp p hm;lia
  show _=some (W.d (.tup [.tup ((p.1.map (·+m)).map D.int),.int p.2]),st)
  generalize (p.1.map (·+m)).map D.int=L at k2 ⊢
  unfold aj
  generalize p.1.map D.int=PP at k2 hz ⊢
  exact cn (ah (bn (ah (aE (bK (cw rfl) hz k2)) rfl) rfl) (ah rfl rfl)) rfl (by show 2<=1000;decide)
 have hz:(ps.map au).length<=1000000:=by rw[qae];lia
 have em:(ps.map (mvP m)).map au=ps.map λp=>au (mvP m p):=by rw[qaL];rfl
 unfold ao
 rw[em]
 generalize (ps.map λp=>au (mvP m p))=L at key ⊢
 generalize ps.map au=PP at key hz ⊢
 exact aG (n:=2) (k:=2) (b:=nF) rfl (aI (cn (ah (az rfl rfl (ix0 _ _ _)) (ah (bn (ah (aE (bK (ik (az rfl rfl (ix1 _ _ _ _))) hz key)) rfl) rfl) rfl)) rfl (by show 2<=1000;decide)))
theorem DR {n m:Nat}{t:List Int} (h:Trm m t):Trm (n+m) (t.map (·+(n:Int))):=by
 refine⟨?_,λk hk=>?_⟩
 ·rw[qcm]
  exact h.1.imp λ{a b} hab=>by lia
 ·obtain⟨j,hj,rfl⟩:=qap.mp hk
  have:=h.2 j hj
  push_cast;lia
def cG (ns:List Int):Int:=ns.foldl (λa x=>a*x) 1
theorem vc {ns:List Int}{i:Nat}{x:Int} (h:ns[i]?=some x):cG (ns.take (i+1))=cG (ns.take i)*x:=by
 unfold cG
 rw[qbK,h,qdH];rfl
theorem D7 (s:Sto) {a b:Int} (h:-(2^64)<b/\b<2^64):fu s (.d (.int a)) (.d (.int b))=some (.int (a*b)):=qw _ (fW h)
theorem pW {st:Sto}{ns:List Int} (hb:∀ x∈ns,-(2^64)<x/\x<2^64):fS [.d (.lst (ns.map D.int))] st=some (.d (.int (cG ns)),st):=by
 obtain⟨e',s',hF,o,rfl,rfl⟩:=bS (g:=.nm 2) (body:=jK) (ds:=ns.map D.int) (λi env s=>∃ o,env=[some (.d (.lst (ns.map D.int))),some (.d (.int (cG (ns.take i)))),o]/\s=st)
  (env:=[some (.d (.lst (ns.map D.int))),some (.d (.int 1)),none]) (st:=st) ⟨none,rfl,rfl⟩ (by
  rintro i d env s hd ⟨o,rfl,rfl⟩
  rw[qaZ,qaf]at hd
  obtain⟨x,hx,rfl⟩:=hd
  refine⟨_,_,_,rfl,.inl (aJ (i:=1) (az rfl rfl (D7 _ (hb x (qbu hx))))),some (.d (.int x)),?_,rfl⟩
  rw[vc hx];rfl)
 rw[qae,qbv]at hF
 generalize ns.map D.int=L at *
 exact aG (n:=3) (k:=1) (b:=fN) rfl (am (aJ (i:=1) (w:=.d (.int 1)) rfl) (am (dC (fY rfl) hF) (aI rfl)))
theorem E8 (s:Sto) {a b:Int} (h:-(2^64)<b/\b<2^64):fu s (.d (.int a)) (.d (.int b))=some (.int (a*b)):=qw _ (fW h)
def exQ (f:List Int) (n:Nat):List Prt:=cY (exL f n)
structure cq (n:Nat) (f:List Int):Prop where
 len:f.length=2^n
 v:∀ v∈f,v=0\/v=1
section
variable {st:Sto}{n:Nat}{f:List Int}
theorem mz (hn:n<=6):eM n (exQ f n):=nK hn nM
theorem yz (h:cq n f) (hn:n<=6):df [.d (aj f)] st=some (.d (ao "odd" (exQ f n)),st):=by
 obtain⟨ks,k1,k2,k3,k4⟩:=zC (st:=st) h.len hn h.v
 rw[qS (λp hp=>(nM p hp).mono hn) k1 k3]at k4
 exact k4
theorem Cv (h:cq n f) (hn:n<=6):eG [.d (aj f),.d (.str "odd")] st=some (.d (ao "odd" (exQ f n)),st):=by
 have e:=yz (st:=st) h hn
 generalize ao "odd" (exQ f n)=R at e ⊢
 exact aG (n:=3) (k:=2) (b:=iU) rfl (am (aJ (aq rfl e)) (iK (lP (aX rfl rfl (by rw[vW,beq_self_eq_true])) (aI rfl))))
theorem DE (v:Int):(sI v).natAbs=1:=by unfold sI;split<;>rfl
theorem Cc (h:cq n f) (hn:n<=6) (t:List Int):(exN f t).natAbs<=64:=by
 unfold exN
 rw[j6]
 refine qaH (sf (B:=1) λx hx=>?_) ?_
 ·obtain⟨r,_,rfl⟩:=qap.mp hx
  rw[qjw,DE,Nat.one_mul]
  have:=zy false t ((0+r:Nat):Int)
  lia
 ·rw[qae,qc9,h.len,Nat.mul_one]
  exact qaH (qbg (by decide) hn) (by decide)
theorem BR (h:cq n f) (hn:n<=6):∀ p∈exQ f n,p.2.natAbs<=4096:=λp hp=>by
 have h1:=uD (L:=exL f n) (B:=64) (λq hq=>by
  obtain⟨t,_,rfl⟩:=qap.mp hq
  exact Cc h hn t) p hp
 have h2:(exL f n).length<=64:=by
  unfold exL
  rw[qae,t0]
  exact qaH (qbg (by decide) hn) (by decide)
 lia
end
abbrev Pt:=Nat×List Int
def PtD (q:Pt):D:=aj q.2
def tot (qs:List Pt):Nat:=(qs.map qa6).sum
def li (qs:List Pt):Prop:=(∀ q∈qs,cq q.1 q.2)/\tot qs<=6
theorem jT (q:Pt) (qs:List Pt):tot (q::qs)=q.1+tot qs:=by unfold tot;rw[qal,qaF]
theorem B8 (a b:List Pt):tot (a++b)=tot a+tot b:=by unfold tot;rw[qba,qeS]
theorem j0 {q:Pt}:∀ {qs:List Pt},q∈qs->q.1<=tot qs
 |x::qs,h=>by
  rw[jT]
  rcases qaC.mp h with rfl|h
  ·lia
  ·have:=j0 h;lia
def bZ:Nat->List Pt->List (List Prt)
 |_,[]=>[]
 |a,q::qs=>(exQ q.2 q.1).map (mvP (a:Int))::bZ (a+q.1) qs
theorem qC:∀ (qs:List Pt) (a:Nat) (q:Pt),bZ a (qs++[q])=bZ a qs++[(exQ q.2 q.1).map (mvP ((a+tot qs:Nat):Int))]
 |[],a,q=>rfl
 |x::qs,a,q=>by
  rw[qb3,bZ,bZ,qC qs,jT,qb3]
  congr 3
  rw[qfO]
theorem nX:∀ (qs:List Pt) (a:Nat),(bZ a qs).length=qs.length
 |[],_=>rfl
 |q::qs,a=>by rw[bZ,qas,qas,nX qs]
theorem wz:∀ (qs:List Pt) (a:Nat),(∀ q∈qs,cq q.1 q.2)->a+tot qs<=6->∀ E∈bZ a qs,E.length<=64/\∀ p∈E,Trm (a+tot qs) p.1/\p.2.natAbs<=4096
 |[],_,_,_,E,h=>nomatch h
 |q::qs,a,ho,ht,E,h=>by
  rw[jT]at ht ⊢
  rw[bZ]at h
  rcases qaC.mp h with rfl|h
  ·have hq:=ho q qak
   refine⟨by rw[qae];exact (mz (f:=q.2) (n:=q.1) (by lia)).len (by lia),λp hp=>?_⟩
   obtain⟨x,hx,rfl⟩:=qap.mp hp
   exact⟨(DR (n:=a) ((mz (f:=q.2) (n:=q.1) (by lia)).1 x hx).1).mono (by lia),BR hq (by lia) x hx⟩
  ·have:=wz qs (a+q.1) (λx hx=>ho x (qah _ hx)) (by lia) E h
   rw[qfO]at this
   exact this
def pr:List Int->Int
 |[]=>1
 |x::l=>x*pr l
theorem sK:∀ (l:List Int) (a:Int),l.foldl (λa x=>a*x) a=a*pr l
 |[],a=>(qd9 a).symm
 |x::l,a=>by rw[qbw,sK l,pr,qb1]
theorem zl (l:List Int):cG l=pr l:=by unfold cG;rw[sK,qd8]
def lnN (t:List Int):Nat->List Pt->List Int
 |_,[]=>[]
 |i,q::qs=>if (i:Int)∈t then lnN t (i+1) qs else 2^q.1::lnN t (i+1) qs
theorem yM:∀ (qs:List Pt) (i:Nat) (t:List Int),(∀ q∈qs,q.1<=6)->∀ x∈lnN t i qs,-(2^64)<x/\x<2^64
 |[],_,_,_,x,h=>nomatch h
 |q::qs,i,t,hq,x,h=>by
  rw[lnN]at h
  have key:-(2^64)<(2:Int)^q.1/\(2:Int)^q.1<2^64:=by
   have h1:=hq q qak
   have h2:(2:Nat)^q.1<=64:=qaH (qbg (by decide) h1) (by decide)
   have h3:((2^q.1:Nat):Int)=(2:Int)^q.1:=by push_cast;rfl
   lia
  split at h
  ·exact yM qs _ t (λy hy=>hq y (qah _ hy)) x h
  ·rcases qaC.mp h with rfl|h
   ·exact key
   ·exact yM qs _ t (λy hy=>hq y (qah _ hy)) x h
end Own
end
section
set_option maxHeartbeats 1000000
namespace Own
open PySem L2
theorem CY {o a:Ef}{env:Ev}{st s1 s2:Sto}{n:Nat}{d:D}{ds0 ds:List D} (ho:o env st=some (.h n,s1)) (ha:a env s1=some (.d d,s2)) (h0:lg s1 n=some ds0) (hg:lg s2 n=some ds) (hz:ds.length<1000000):i5 (gt gU o (ab a ak)) env st=some (.nx env (s2.set n (.l (ds++[d])))):=by
 have hc:=ah (b:=ak) ha rfl
 simp only[i5,gt,ho,hc,h0,hg,gU,hz,if_true,qad,qaB]
theorem DX {st:Sto}{EE:List D}{R1 R2 tq:D}{QQ:W}{a n:Int} (e1:eG [.d tq,.d (.str "odd")] (st++[.l EE])=some (.d R2,st++[.l EE])) (e2:ln [.d R2,.d (.int a)] (st++[.l EE])=some (.d R1,st++[.l EE]))
  (e3:dq [.d tq] (st++[.l (EE++[R1])])=some (.d (.int n),st++[.l (EE++[R1])])) (hln:EE.length<1000000) :
  ie [some QQ,some (.h st.length),some (.d (.int a)),some (.d tq)] (st++[.l EE])=some (.nx [some QQ,some (.h st.length),some (.d (.int (a+n))),some (.d tq)] (st++[.l (EE++[R1])])):=by
 have lg1:=wB st EE
 have a1:aD eG (ab (iV 3) (ab (iC (.str "odd")) ak)) [some QQ,some (.h st.length),some (.d (.int a)),some (.d tq)] (st++[.l EE])=some (.d R2,st++[.l EE]):=aq (ws:=[.d tq,.d (.str "odd")]) rfl e1
 have a2:aD ln (ab (aD eG (ab (iV 3) (ab (iC (.str "odd")) ak))) (ab (iV 2) ak)) [some QQ,some (.h st.length),some (.d (.int a)),some (.d tq)] (st++[.l EE])=some (.d R1,st++[.l EE]):=aq (ws:=[.d R2,.d (.int a)]) (ah a1 rfl) e2
 have s1:=CY (o:=iV 1) (env:=[some QQ,some (.h st.length),some (.d (.int a)),some (.d tq)]) (st:=st++[.l EE]) (n:=st.length) (s1:=st++[.l EE]) rfl a2 lg1 lg1 hln
 rw[yn]at s1
 exact am s1 (aJ (az rfl (aq rfl e3) rfl))
theorem zh {qs:List Pt}{i:Nat}{q:Pt} (h:qs[i]?=some q):((tot (qs.take (i+1)):Nat):Int)=((tot (qs.take i):Nat):Int)+(q.1:Int):=by
 have htk:qs.take (i+1)=qs.take i++[q]:=by rw[qbK,h];rfl
 have e:tot [q]=q.1:=by rw[jT];exact qhN _
 rw[htk,B8,e];push_cast;rfl
theorem zo {qs:List Pt}{i:Nat}{q:Pt} (h:qs[i]?=some q):(bZ 0 (qs.take (i+1))).map (ao "odd")=(bZ 0 (qs.take i)).map (ao "odd")++[ao "odd" ((exQ q.2 q.1).map (mvP ((tot (qs.take i):Nat):Int)))]:=by
 have htk:qs.take (i+1)=qs.take i++[q]:=by rw[qbK,h];rfl
 rw[htk,qC,qba,qbz];rfl
theorem xw {st:Sto}{qs:List Pt} (h:li qs) (hl:qs.length<=6):gR [.d (.tup (qs.map PtD))] st=some (.h st.length,st++[.l ((bZ 0 qs).map (ao "odd"))]):=by
 obtain⟨e',s',hF,o3,rfl,rfl⟩:=bS (g:=.nm 3) (body:=ie) (ds:=qs.map PtD)
  (λi env s=>∃ o3,env=[some (.d (.tup (qs.map PtD))),some (.h st.length),some (.d (.int ((tot (qs.take i):Nat):Int))),o3]/\s=st++[.l ((bZ 0 (qs.take i)).map (ao "odd"))])
  (env:=[some (.d (.tup (qs.map PtD))),some (.h st.length),some (.d (.int 0)),none]) (st:=st++[.l []]) ⟨none,by rw [qdK];rfl,by rw [qdK];rfl⟩ (by
  rintro i d env s hd ⟨o3,rfl,rfl⟩
  rw[qaZ,qaf]at hd
  obtain⟨q,hq,rfl⟩:=hd
  have hqm:=qbu hq
  have hi:=(qay.mp hq).1
  have hn:q.1<=6:=qaH (j0 hqm) h.2
  have ho:=h.1 q hqm
  have e1:=Cv (st:=st++[.l ((bZ 0 (qs.take i)).map (ao "odd"))]) ho hn
  have hin:=mz (f:=q.2) (n:=q.1) hn
  have e2:=ze (st:=st++[.l ((bZ 0 (qs.take i)).map (ao "odd"))]) (kd:="odd") (ps:=exQ q.2 q.1) (m:=((tot (qs.take i):Nat):Int)) (by have:=hin.len hn;lia) λp hp=>qaH (gY (hin.1 p hp).1) (by lia)
  have hln:((bZ 0 (qs.take i)).map (ao "odd")).length<1000000:=by rw[qae,nX,qdk];lia
  have e3:=mM (st:=st++[.l ((bZ 0 (qs.take i)).map (ao "odd")++[ao "odd" ((exQ q.2 q.1).map (mvP ((tot (qs.take i):Nat):Int)))])]) ho.len hn
  have e4:=DX (QQ:=.d (.tup (qs.map PtD))) e1 e2 e3 hln
  rw[<-zo hq,<-zh hq]at e4
  exact⟨_,_,_,rfl,.inl e4,some (.d (aj q.2)),rfl,rfl⟩)
 rw[qae,qbv]at hF
 generalize (bZ 0 qs).map (ao "odd")=EE at hF ⊢
 generalize qs.map PtD=QQ at hF ⊢
 have s0:aW (.nm 1) (mB (eI ak)) [some (.d (.tup QQ)),none,none,none] st=some (.nx [some (.d (.tup QQ)),some (.h st.length),none,none] (st++[.l []])):=rfl
 exact aG (n:=4) (k:=1) (b:=gS) rfl (am s0 (am (aJ (w:=.d (.int 0)) rfl) (am (dC (cw rfl) hF) (aI rfl))))
def ngP (E:List Prt):List Prt:=cY (E.map λp:Prt=>((p.1,(-1)*p.2):Prt))
def ptS (Es:List (List Prt)) (ps:List Prt) (k:Int):List Prt:=cY (bL false ps (ngP (Es.getD k.toNat [])))
def ptL (Es:List (List Prt)) (c:Int) (t:List Int):List Prt:=t.foldl (ptS Es) [(([]:List Int),c)]
structure jy (N:Nat) (Es:List (List Prt)):Prop where
 n:N<=6
 e:∀ E∈Es,E.length<=64/\∀ p∈E,Trm N p.1/\p.2.natAbs<=4096
section
variable {N:Nat}{Es:List (List Prt)}
theorem jy.at' (h:jy N Es) (k:Nat):(Es.getD k []).length<=64/\∀ p∈Es.getD k [],Trm N p.1/\p.2.natAbs<=4096:=by
 by_cases hk:k<Es.length
 ·rw[qaQ,qaD hk]
  exact h.e _ (qcU hk)
 ·rw[qaQ,qdO (by lia)]
  exact⟨qa7 _,(λp hp=>nomatch hp)⟩
theorem vk (h:jy N Es) (k:Nat):∀ p∈(Es.getD k []).map (λp:Prt=>((p.1,(-1)*p.2):Prt)),Trm N p.1:=λp hp=>by
 obtain⟨q,hq,rfl⟩:=qap.mp hp
 exact ((h.at' k).2 q hq).1
theorem uN (h:jy N Es) (k:Nat):eM N (ngP (Es.getD k [])):=nK h.n (vk h k)
theorem Dd (h:jy N Es) (k:Nat):∀ q∈ngP (Es.getD k []),-(2^64)<q.2/\q.2<2^64:=λq hq=>by
 have h1:=uD (L:=(Es.getD k []).map λp:Prt=>((p.1,(-1)*p.2):Prt)) (B:=4096) (λp hp=>by
  obtain⟨x,hx,rfl⟩:=qap.mp hp
  have:=((h.at' k).2 x hx).2
  show ((-1)*x.2).natAbs<=4096
  rw[qjw];lia) q hq
 rw[qae]at h1
 have h2:=qh3 4096 (h.at' k).1
 lia
theorem Dg (h:jy N Es) (k:Nat) (r:Int):bN false (ngP (Es.getD k [])) r=(-1)*bN false (Es.getD k []) r:=by
 unfold ngP
 rw[pK λp hp=>(vk h k p hp).mono h.n,oT]
theorem yB (h:jy N Es) {ps:List Prt} (hp:∀ p∈ps,Trm N p.1) (k:Int):eM N (ptS Es ps k):=nK h.n (z9 h.n hp λq hq=>((uN h k.toNat).1 q hq).1)
theorem B5 (h:jy N Es) {ps:List Prt} (hp:∀ p∈ps,Trm N p.1) (k r:Int):bN false (ptS Es ps k) r=bN false ps r*((-1)*bN false (Es.getD k.toNat []) r):=by
 unfold ptS
 rw[pK mi,qq (λq hq=>((uN h k.toNat).1 q hq).1.mono h.n) (λp hp'=>(hp p hp').mono h.n),Dg h]
theorem vL (h:jy N Es):∀ (t:List Int) (ps:List Prt),(∀ p∈ps,Trm N p.1)->ps.length<=64->(∀ p∈t.foldl (ptS Es) ps,Trm N p.1)/\(t.foldl (ptS Es) ps).length<=64/\∀ r,bN false (t.foldl (ptS Es) ps) r=t.foldl (λv k=>v*((-1)*bN false (Es.getD k.toNat []) r)) (bN false ps r)
 |[],ps,hp,hl=>⟨hp,hl,λr=>rfl⟩
 |k::t,ps,hp,hl=>by
  have hi:=yB h hp k
  obtain⟨a,b,c⟩:=vL h t (ptS Es ps k) (λp hp'=>(hi.1 p hp').1) (hi.len h.n)
  refine⟨a,b,λr=>?_⟩
  rw[qbw,qbw,c r,B5 h hp]
theorem sF (c:Int):∀ p∈[(([]:List Int),c)],Trm N p.1:=λp hp=>by
 rw[qaO.mp hp]
 exact⟨.nil,(λk hk=>nomatch hk)⟩
end
theorem yV {st:Sto}{t:List Int}:∀ (qs:List Pt) (i:Nat),(∀ q∈qs,cq q.1 q.2)->lcI (.tp [0,1]) et fT [none,none,some (.d (aj t))] (dJ i (qs.map PtD)) st=some ((lnN t i qs).map D.int,st)
 |[],i,_=>rfl
 |q::qs,i,ho=>by
  have ih:=yV (st:=st) (t:=t) qs (i+1) λx hx=>ho x (qah _ hx)
  have hq:=ho q qak
  have hin:∀ k:Bool,decide ((i:Int)∈t)=k->rf st (.d (.int (i:Int))) (.d (aj t))=some (.bl (!k)):=λk hk=>by
   have hfl:(t.map D.int).all cQ=true:=qaw.mpr λd hd=>by
    obtain⟨z,_,rfl⟩:=qap.mp hd
    rfl
   have hi2:inD (.int (i:Int)) (t.map D.int)=k:=by
    rw[<-hk,qdx]
    unfold inD
    rw[List.any_eq_true,decide_eq_true_eq]
    constructor
    ·rintro⟨d,hd,e⟩
     obtain⟨z,hz,rfl⟩:=qap.mp hd
     simp only[eqD,beq_iff_eq]at e
     rw[<-e];exact hz
    ·intro hz
     exact⟨.int (i:Int),qcr hz,by simp[eqD]⟩
   show (if cQ (.int (i:Int))=true/\(t.map D.int).all cQ=true then some (D.bl (!inD (.int (i:Int)) (t.map D.int))) else none)=_
   rw[if_pos ⟨rfl,hfl⟩,hi2]
  have hlen:eB st [.d (PtD q)]=some (.int (2^q.1)):=by
   show some (D.int ((q.2.map D.int).length:Nat))=_
   rw[qae,hq.len];push_cast;rfl
  rw[qal,dJ]
  unfold lcI
  rw[show fV (.tp [0,1]) (.d (.tup [.int (i:Int),PtD q])) [none,none,some (.d (aj t))]=some [some (.d (.int (i:Int))),some (.d (PtD q)),some (.d (aj t))] from rfl,qad]
  by_cases hm:(i:Int)∈t
  ·have ht:et [some (.d (.int (i:Int))),some (.d (PtD q)),some (.d (aj t))] st=some (false,st):=aX rfl rfl (hin true (decide_eq_true hm))
   rw[ht,qad,lnN,if_pos hm]
   exact ih
  ·have ht:et [some (.d (.int (i:Int))),some (.d (PtD q)),some (.d (aj t))] st=some (true,st):=aX rfl rfl (hin false (decide_eq_false hm))
   have he:fT [some (.d (.int (i:Int))),some (.d (PtD q)),some (.d (aj t))] st=some (.d (.int (2^q.1)),st):=bn (ah rfl rfl) hlen
   rw[ht,qad,if_pos rfl,he,qad,lnN,if_neg hm]
   simp only[ih,qaB,qal]
   rfl
theorem y9 {st:Sto}{hh N:Nat}{qs:List Pt}{Es:List (List Prt)}{t:List Int}{c:Int} (h:li qs) (hl:qs.length<=6) (hE:jy N Es) (hg:lg st hh=some (Es.map (ao "odd"))) (ht:∀ k∈t,0<=k/\k.toNat<Es.length) (htl:t.length<=6) :
  gp [.d (aj t),.d (.int c),.d (.tup (qs.map PtD)),.h hh] st=some (.d (ao "odd" (ptL Es (c*cG (lnN t 0 qs)) t)),st):=by
 have k1:=yV (st:=st) (t:=t) qs 0 h.1
 have hb:=yM qs 0 t λq hq=>qaH (j0 hq) h.2
 have k2:=pW (st:=st) hb
 have hpl:-(2^64)<cG (lnN t 0 qs)/\cG (lnN t 0 qs)<2^64\/True:=.inr trivial
 have hmul:qbF c (cG (lnN t 0 qs))\/True:=.inr trivial
 have hpb:(cG (lnN t 0 qs)).natAbs<2^64:=by
  rw[zl]
  have key:∀ (l:List Pt) (i:Nat),∃ e:Nat,pr (lnN t i l)=2^e/\e<=tot l:=λl=>by
   induction l with
   |nil=>exact λi=>⟨0,rfl,qa7 _⟩
   |cons q l ih=>
    intro i
    obtain⟨e,he,hle⟩:=ih (i+1)
    rw[jT,lnN]
    split
    ·exact⟨e,he,by lia⟩
    ·exact⟨q.1+e,by rw[pr,he,Int.pow_add],by lia⟩
  obtain⟨e,he,hle⟩:=key qs 0
  rw[he,Int.natAbs_pow]
  exact qel (qbg (by decide) (qaH hle h.2)) (by decide)
 have hm:fu st (.d (.int c)) (.d (.int (cG (lnN t 0 qs))))=some (.int (c*cG (lnN t 0 qs))):=E8 _ (by lia)
 have hz:(dJ 0 (qs.map PtD)).length<=1000000:=by rw[j5,qae];lia
 generalize c*cG (lnN t 0 qs)=c0 at hm ⊢
 generalize cG (lnN t 0 qs)=pp at k2 hm
 obtain⟨e',s',hF,o5,rfl,rfl⟩:=bS (g:=.nm 5) (body:=kM) (ds:=t.map D.int)
  (λi env s=>∃ o5,env=[some (.d (aj t)),some (.d (.int c)),some (.d (.tup (qs.map PtD))),some (.h hh),some (.d (ao "odd" (ptL Es c0 (t.take i)))),o5]/\s=st)
  (env:=[some (.d (aj t)),some (.d (.int c)),some (.d (.tup (qs.map PtD))),some (.h hh),some (.d (ao "odd" [(([]:List Int),c0)])),none]) (st:=st) ⟨none,rfl,rfl⟩ (by
  rintro i d env s hd ⟨o5,rfl,rfl⟩
  rw[qaZ,qaf]at hd
  obtain⟨k,hk,rfl⟩:=hd
  have hkm:=ht k (qbu hk)
  have htk:t.take (i+1)=t.take i++[k]:=by rw[qbK,hk];rfl
  have hpa:=vL hE (t.take i) _ (sF (N:=N) c0) (by show 1<=64;decide)
  have hat:=hE.at' k.toNat
  have e1:dIx s (.h hh) (.d (.int k))=some (ao "odd" (Es.getD k.toNat [])):=by
   obtain⟨j,rfl⟩:=qbr hkm.1
   rw[qaW]at hkm ⊢
   show (lg s hh).bind (λds=>atI ds (j:Int))=_
   rw[hg,qad]
   refine iW ?_
   rw[qaZ,qaQ,qaD hkm.2];rfl
  have e2:ny [.d (ao "odd" (Es.getD k.toNat [])),.d (.int (-1))] s=some (.d (ao "odd" (ngP (Es.getD k.toNat []))),s):=za (st:=s) (b:=false) (c:=-1) (λp hp=>((hat.2 p hp).1).mono hE.n) hat.1 (by decide)
  have e3:fR [.d (ao "odd" (ptL Es c0 (t.take i))),.d (ao "odd" (ngP (Es.getD k.toNat [])))] s=some (.d (ao "odd" (ptS Es (ptL Es c0 (t.take i)) k)),s):=Bs (st:=s) (b:=false) (λp hp=>(hpa.1 p hp).mono hE.n) (λq hq=>((uN hE k.toNat).1 q hq).1.mono hE.n) hpa.2.1 ((uN hE k.toNat).len hE.n) (Dd hE k.toNat)
  have hcp:ptL Es c0 (t.take (i+1))=ptS Es (ptL Es c0 (t.take i)) k:=by unfold ptL;rw[htk,qdH];rfl
  refine⟨_,_,_,rfl,.inl ?_,some (.d (.int k)),rfl,rfl⟩
  rw[hcp]
  generalize ao "odd" (ptS Es (ptL Es c0 (t.take i)) k)=R1 at e3 ⊢
  generalize ao "odd" (ptL Es c0 (t.take i))=R2 at e3 ⊢
  generalize ao "odd" (ngP (Es.getD k.toNat []))=R3 at e2 e3
  generalize ao "odd" (Es.getD k.toNat [])=R4 at e1 e2
  exact aJ (aq (ah rfl (ah (aq (ah (az rfl rfl e1) (ah (x:=.d (.int (-1))) rfl rfl)) e2) rfl)) e3))
 rw[qae,qbv]at hF
 generalize ao "odd" (ptL Es c0 t)=R at hF ⊢
 generalize (lnN t 0 qs).map D.int=LL at k1 k2
 generalize qs.map PtD=QQ at *
 have s1:aW (.nm 4) (cp (ab (iC (.str "odd")) (ab (cp (ab (cp (ab (cp ak) (ab (iOp fu (iV 1) (aD fS (ab (aC (iLc 2 [0] (pM (ab (iV 2) ak)) (.tp [0,1]) et fT)) ak))) ak))) ak)) ak))) [some (.d (aj t)),some (.d (.int c)),some (.d (.tup QQ)),some (.h hh),none,none] s'=some (.nx [some (.d (aj t)),some (.d (.int c)),some (.d (.tup QQ)),some (.h hh),some (.d (ao "odd" [(([]:List Int),c0)])),none] s'):=
  aJ (cn (ds:=[.str "odd",.tup [.tup [.tup [],.int c0]]]) (ah rfl (ah (cn (ds:=[.tup [.tup [],.int c0]]) (ah (cn (ds:=[.tup [],.int c0]) (ah (cn (ds:=[]) rfl rfl (by decide)) (ah (az rfl (aq (ah (aE (bK (ds:=dJ 0 QQ) (s:=s') rfl hz k1)) rfl) k2) hm) rfl)) rfl (by show 2<=1000;decide)) rfl) rfl (by show 1<=1000;decide)) rfl)) rfl (by show 2<=1000;decide))
 exact aG (n:=6) (k:=4) (b:=iS) rfl (am s1 (am (dC (cw rfl) hF) (aI rfl)))
end Own
end
section
set_option maxHeartbeats 1000000
namespace Own
open PySem L2
theorem yJ {st:Sto}{ps qs:List Prt} (hp:∀ p∈ps,Trm 6 p.1) (hq:∀ q∈qs,Trm 6 q.1) (lp:ps.length<=64) (lq:qs.length<=64) :
  nC [.d (ao "odd" ps),.d (ao "odd" qs)] st=some (.d (ao "odd" (cY (ps++qs))),st):=by
 have h6:∀ p∈ps++qs,Trm 6 p.1:=λp hm=>(qbe.mp hm).elim (hp p) (hq p)
 have k4:=rj (st:=st) (kd:="odd") (w:=.d (.tup ((ps++qs).map au))) (L:=ps++qs) (.inl rfl) h6
 generalize cY (ps++qs)=R at k4 ⊢
 rw[qba]at k4
 have hz:(ps.map au).length+(qs.map au).length<=1000000:=by rw[qae,qae];lia
 unfold ao at k4 ⊢
 generalize ps.map au=PP at *
 generalize qs.map au=QQ at *
 have a1:=Ar st hz
 exact aG (n:=2) (k:=2) (b:=nQ) rfl (aI (aq (ah (az rfl rfl (ix0 _ _ _)) (ah (az (az rfl rfl (ix1 _ _ _ _)) (az rfl rfl (ix1 _ _ _ _)) a1) rfl)) k4))
def puS (qs:List Pt) (Es:List (List Prt)) (acc:List Prt) (p:Prt):List Prt:=cY (acc++ptL Es (p.2*cG (lnN p.1 0 qs)) p.1)
def puL (qs:List Pt) (Es:List (List Prt)) (ps:List Prt):List Prt:=ps.foldl (puS qs Es) []
section
variable {N:Nat}{Es:List (List Prt)}{qs:List Pt}
theorem kW (h:jy N Es) (c:Int) (t:List Int):(∀ p∈ptL Es c t,Trm N p.1)/\(ptL Es c t).length<=64/\∀ r,bN false (ptL Es c t) r=t.foldl (λv k=>v*((-1)*bN false (Es.getD k.toNat []) r)) c:=by
 obtain⟨a,b,d⟩:=vL h t _ (sF (N:=N) c) (by show 1<=64;decide)
 refine⟨a,b,λr=>?_⟩
 have e:bN false [(([]:List Int),c)] r=c:=by
  unfold bN
  rw[qal,qaF]
  show c*br false [] r+0=c
  rw[show br false [] r=1 from rfl];lia
 rw[<-e]
 have:=d r
 rw[e]at this ⊢
 exact this
theorem z8 (h:jy N Es) {acc:List Prt} (ha:∀ p∈acc,Trm N p.1) (p:Prt):eM N (puS qs Es acc p):=nK h.n λx hx=>(qbe.mp hx).elim (ha x) ((kW h _ _).1 x)
theorem vF (h:jy N Es):∀ (ps acc:List Prt),eM N acc->eM N (ps.foldl (puS qs Es) acc)/\∀ r,bN false (ps.foldl (puS qs Es) acc) r=bN false acc r+(ps.map λp=>bN false (ptL Es (p.2*cG (lnN p.1 0 qs)) p.1) r).sum
 |[],acc,ha=>⟨ha,λr=>by rw[qcM,qjP,qe6];rfl⟩
 |p::ps,acc,ha=>by
  have hacc:∀ x∈acc,Trm N x.1:=λx hx=>(ha.1 x hx).1
  obtain⟨a,b⟩:=vF h ps (puS qs Es acc p) (z8 h hacc p)
  refine⟨a,λr=>?_⟩
  rw[qbw,b r,qal,qaF]
  have e:bN false (puS qs Es acc p) r=bN false acc r+bN false (ptL Es (p.2*cG (lnN p.1 0 qs)) p.1) r:=by
   unfold puS
   rw[pK (λx hx=>((qbe.mp hx).elim (hacc x) ((kW h _ _).1 x)).mono h.n),nU]
  rw[e];lia
theorem vt (N:Nat):eM N []:=⟨(λp hp=>nomatch hp),.nil⟩
end
theorem vK {qs:List Pt} (h:li qs):jy (tot qs) (bZ 0 qs):=⟨h.2,λE hE=>by
 have:=wz qs 0 h.1 (by rw[qbz];exact h.2) E hE
 rw[qbz]at this
 exact this⟩
theorem zw {st:Sto}{qs:List Pt}{ps:List Prt} (h:li qs) (hl:qs.length<=6) (hp:∀ p∈ps,Trm qs.length p.1) (lp:ps.length<=64):iH [.d (ao "odd" ps),.d (.tup (qs.map PtD))] st=some (.d (ao "odd" (puL qs (bZ 0 qs) ps)),st):=by
 have hE:=vK h
 have e1:=xw (st:=st) h hl
 have lg1:=wB st ((bZ 0 qs).map (ao "odd"))
 obtain⟨e',s',hF,o4,o5,rfl,rfl⟩:=bS (g:=.tp [4,5]) (body:=kJ) (ds:=ps.map au)
  (λi env s=>∃ o4 o5,env=[some (.d (ao "odd" ps)),some (.d (.tup (qs.map PtD))),some (.h st.length),some (.d (ao "odd" (puL qs (bZ 0 qs) (ps.take i)))),o4,o5]/\s=st++[.l ((bZ 0 qs).map (ao "odd"))])
  (env:=[some (.d (ao "odd" ps)),some (.d (.tup (qs.map PtD))),some (.h st.length),some (.d (ao "odd" [])),none,none]) (st:=st++[.l ((bZ 0 qs).map (ao "odd"))]) ⟨none,none,rfl,rfl⟩ (by
  rintro i d env s hd ⟨o4,o5,rfl,rfl⟩
  obtain⟨p,hpi,rfl⟩:=mf hd
  have hpm:=hp p (qbu hpi)
  have htk:ps.take (i+1)=ps.take i++[p]:=by rw[qbK,hpi];rfl
  have hacc:=(vF (qs:=qs) hE (ps.take i) [] (vt _)).1
  have hpt:=kW hE (p.2*cG (lnN p.1 0 qs)) p.1
  have e2:=y9 (st:=st++[.l ((bZ 0 qs).map (ao "odd"))]) (hh:=st.length) (t:=p.1) (c:=p.2) h hl hE lg1 (λk hk=>⟨(hpm.2 k hk).1,by rw[nX];have:=hpm.2 k hk;lia⟩) (qaH (gY hpm) hl)
  have e3:=yJ (st:=st++[.l ((bZ 0 qs).map (ao "odd"))]) (ps:=puL qs (bZ 0 qs) (ps.take i)) (qs:=ptL (bZ 0 qs) (p.2*cG (lnN p.1 0 qs)) p.1) (λx hx=>(hacc.1 x hx).1.mono hE.n) (λx hx=>(hpt.1 x hx).mono hE.n) (hacc.len hE.n) hpt.2.1
  have hcp:puL qs (bZ 0 qs) (ps.take (i+1))=cY (puL qs (bZ 0 qs) (ps.take i)++ptL (bZ 0 qs) (p.2*cG (lnN p.1 0 qs)) p.1):=by unfold puL;rw[htk,qdH];rfl
  refine⟨_,[some (.d (ao "odd" ps)),some (.d (.tup (qs.map PtD))),some (.h st.length),some (.d (ao "odd" (puL qs (bZ 0 qs) (ps.take (i+1))))),some (.d (aj p.1)),some (.d (.int p.2))],_,rfl,.inl ?_,_,_,rfl,rfl⟩
  rw[hcp]
  generalize ao "odd" (cY (puL qs (bZ 0 qs) (ps.take i)++ptL (bZ 0 qs) (p.2*cG (lnN p.1 0 qs)) p.1))=R1 at e3 ⊢
  generalize ao "odd" (puL qs (bZ 0 qs) (ps.take i))=R2 at e3 ⊢
  generalize ao "odd" (ptL (bZ 0 qs) (p.2*cG (lnN p.1 0 qs)) p.1)=R3 at e2 e3
  generalize (bZ 0 qs).map (ao "odd")=EE at *
  generalize qs.map PtD=QQ at *
  generalize ao "odd" ps=P0 at *
  have a1:aD gp (ab (iV 4) (ab (iV 5) (ab (iV 1) (ab (iV 2) ak)))) [some (.d P0),some (.d (.tup QQ)),some (.h st.length),some (.d R2),some (.d (aj p.1)),some (.d (.int p.2))] (st++[.l EE])=some (.d R3,st++[.l EE]):=aq (ws:=[.d (aj p.1),.d (.int p.2),.d (.tup QQ),.h st.length]) rfl e2
  have a2:aD nC (ab (iV 3) (ab (aD gp (ab (iV 4) (ab (iV 5) (ab (iV 1) (ab (iV 2) ak))))) ak)) [some (.d P0),some (.d (.tup QQ)),some (.h st.length),some (.d R2),some (.d (aj p.1)),some (.d (.int p.2))] (st++[.l EE])=some (.d R1,st++[.l EE]):=aq (ws:=[.d R2,.d R3]) (ah rfl (ah a1 rfl)) e3
  exact aJ (i:=3) a2)
 rw[qae,qbv]at hF
 have ht:=qr st (.l ((bZ 0 qs).map (ao "odd")))
 generalize ao "odd" (puL qs (bZ 0 qs) ps)=R at hF ⊢
 generalize (bZ 0 qs).map (ao "odd")=EE at *
 generalize qs.map PtD=QQ at *
 have b1:aW (.nm 2) (aD gR (ab (iV 1) ak)) [some (.d (ao "odd" ps)),some (.d (.tup QQ)),none,none,none,none] st=some (.nx [some (.d (ao "odd" ps)),some (.d (.tup QQ)),some (.h st.length),none,none,none] (st++[.l EE])):=aJ (aq (ws:=[.d (.tup QQ)]) rfl e1)
 have b2:aW (.nm 3) (cp (ab (iC (.str "odd")) (ab (cp ak) ak))) [some (.d (ao "odd" ps)),some (.d (.tup QQ)),some (.h st.length),none,none,none] (st++[.l EE])=some (.nx [some (.d (ao "odd" ps)),some (.d (.tup QQ)),some (.h st.length),some (.d (ao "odd" [])),none,none] (st++[.l EE])):=aJ (cn (ds:=[.str "odd",.tup []]) (ah rfl (ah (cn (ds:=[]) rfl rfl (by decide)) rfl)) rfl (by show 2<=1000;decide))
 have b3:aB (iOp dIx (iV 0) (iC (.int 1))) [some (.d (ao "odd" ps)),some (.d (.tup QQ)),some (.h st.length),some (.d (ao "odd" [])),none,none] (st++[.l EE])=some (ps.map au,st++[.l EE]):=ik (az rfl rfl (ix1 _ _ _ _))
 have hq:=gq (n:=6) (k:=2) (b:=iN) (ws:=[.d (ao "odd" ps),.d (.tup QQ)]) (st:=st) (s:=st++[.l EE]) (x:=R) rfl (am b1 (am b2 (am (dC b3 hF) (aI rfl))))
 rw[ht]at hq
 exact hq
theorem tJ {te:Ef}{m:Int} (N:Nat) (hte:∀ (d:D) (s:Sto),te [some (.d d),some (.h 1)] s=aA [.h 1,.d (.int m)] s) (m0:0<m) (m1:m<=100) {p:Spo}{Z:Int} (h:okP p Z) (hZ:Z+N<900000000) (rest:Sto) :
  ∃ (l:List Int) (p':Spo),l.length=N/\(∀ x∈l,0<=x/\x<m)/\okP p' (Z+N)/\lcI (.nm 0) bB te [none,some (.h 1)] (eZ 0 N) (spo p rest)=some (l.map D.int,spo p' rest):=by
 obtain⟨ys,s',hL,p3,l,rfl,rfl,h3,hv,hl⟩:=nH (g:=.nm 0) (tt:=bB) (te:=te) (env:=[none,some (.h 1)]) (ds:=eZ 0 N)
  (λi ys s=>∃ p l,ys=l.map D.int/\s=spo p rest/\okP p (Z+i)/\(∀ x ∈ l,0<=x/\x < m)/\l.length=i) (st:=spo p rest) (ys0:=[]) ⟨p,[],rfl,rfl,h.mono (by lia),(λx hx=>nomatch hx),rfl⟩ (by
  rintro i d ys s hd ⟨p,l,rfl,rfl,hp,hv,hl⟩
  obtain⟨rfl,hi⟩:=fF hd
  obtain⟨r,p',r0,r1,hp',e⟩:=d3 hp (by lia) (m:=m) m0 (by lia)
  refine⟨_,rfl,.inl ⟨_,_,_,rfl,(hte _ _).trans (e rest),p',l++[r],by rw[qba];rfl,rfl,hp'.mono (by push_cast;lia),λz hz=>?_,by simp[hl]⟩⟩
  rcases qbe.mp hz with hz|hz
  ·exact hv z hz
  ·rw[qaO.mp hz];exact⟨r0,r1⟩)
 rw[cu]at hl h3
 exact⟨l,p3,hl,hv,h3,hL⟩
structure Dr (n:Nat) (ps:List Prt):Prop where
 t:eM n ps
 b:∀ p∈ps,-1000000000000000000<=p.2/\p.2<=1000000000000000000
def FN (r:Int):List D:=[.int 1,.int (-1),.int 2,.int (-2),.int 3,.int (-3),.int 1,.int (1000000000000000000 - r)]
theorem Dl {r c:Int} (r0:0<=r) (r1:r<99) (c0:0<=c) (c1:c<8) (s:Sto):∃ x:Int,x≠0/\-1000000000000000000<=x/\x<=1000000000000000000/\dIx s (.d (.lst (FN r))) (.d (.int c))=some (.int x):=by
 have h:c=0\/c=1\/c=2\/c=3\/c=4\/c=5\/c=6\/c=7:=by lia
 rcases h with rfl|rfl|rfl|rfl|rfl|rfl|rfl|rfl
 ·exact⟨1,by lia,by lia,by lia,rfl⟩
 ·exact⟨-1,by lia,by lia,by lia,rfl⟩
 ·exact⟨2,by lia,by lia,by lia,rfl⟩
 ·exact⟨-2,by lia,by lia,by lia,rfl⟩
 ·exact⟨3,by lia,by lia,by lia,rfl⟩
 ·exact⟨-3,by lia,by lia,by lia,rfl⟩
 ·exact⟨1,by lia,by lia,by lia,rfl⟩
 ·exact⟨1000000000000000000 - r,by lia,by lia,by lia,rfl⟩
theorem EU (s:Sto):ya s (.d (.int 10)) (.d (.int 18))=some (.int 1000000000000000000):=by
 show (if rV 10 18 then some (D.int (10^qhQ 18)) else none)=_
 rw[if_pos Gc];rfl
theorem BA {p:Spo}{Z:Int}{kd:Str}{n:Nat} (rest:Sto) (h:okP p Z) (hZ:Z<900000000) (hn:n<=6):∃ (ps:List Prt) (p':Spo),Dr n ps/\okP p' (Z+192)/\gJ [.h 1,.d (.str kd),.d (.int n)] (spo p rest)=some (.d (ao kd ps),spo p' rest):=by
 have hlen:(cO n).length<=64:=by
  rw[t0]
  exact qaH (qbg (by decide) hn) (by decide)
 obtain⟨e',s',hF,p1,ps,o4,o5,rfl,rfl,h1,hs,hb⟩:=bS (g:=.nm 4) (body:=gZ) (ds:=(cO n).map aj)
  (λi env s=>∃ (p:Spo) (ps:List Prt) (o4 o5:Option W),env=[some (.h 1),some (.d (.str kd)),some (.d (.int n)),some (.h (rest.length+2)),o4,o5]/\s=spo p (rest++[.l (ps.map au)])/\okP p (Z+3*i)/\(ps.map qa6).Sublist ((cO n).take i)/\∀ q∈ps,q.2≠0/\-1000000000000000000<=q.2/\q.2<=1000000000000000000)
  (env:=[some (.h 1),some (.d (.str kd)),some (.d (.int n)),some (.h (rest.length+2)),none,none]) (st:=spo p (rest++[.l []])) ⟨p,[],none,none,rfl,rfl,h.mono (by lia),List.nil_sublist _,(λq hq=>nomatch hq)⟩ (by
  rintro i d env s hd ⟨p,ps,o4,o5,rfl,rfl,hp,hs,hb⟩
  rw[qaZ,qaf]at hd
  obtain⟨t,ht,rfl⟩:=hd
  have hi:i<64:=by have:=(qay.mp ht).1;lia
  have htk:(cO n).take (i+1)=(cO n).take i++[t]:=by rw[qbK,ht];rfl
  obtain⟨r,p1,r0,r1,h1,e1⟩:=d3 hp (by lia) (m:=99) (by decide) (by decide)
  obtain⟨c,p2,c0,c1,h2,e2⟩:=d3 h1 (by lia) (m:=8) (by decide) (by decide)
  obtain⟨u,p3,u0,u1,h3,e3⟩:=d3 h2 (by lia) (m:=3) (by decide) (by decide)
  obtain⟨x,x0,x1,x2,ex⟩:=Dl r0 r1 c0 c1 (spo p2 (rest++[.l (ps.map au)]))
  have f1:=e1 (rest++[.l (ps.map au)])
  have f2:=e2 (rest++[.l (ps.map au)])
  have f3:=e3 (rest++[.l (ps.map au)])
  have hpl:ps.length<=64:=by
   have:=hs.length_le
   rw[qae,qdk]at this;lia
  have lg3:=rW p3 rest (ps.map au)
  have st3:=wT p3 rest (.l (ps.map au)) (.l (ps.map au++[au (t,x)]))
  have s1:aW (.nm 5) (iOp dIx (aC (eI (ab (iC (.int 1)) (ab (iUn pY (iC (.int 1))) (ab (iC (.int 2)) (ab (iUn pY (iC (.int 2))) (ab (iC (.int 3)) (ab (iUn pY (iC (.int 3))) (ab (iC (.int 1)) (ab (iOp vN (iOp ya (iC (.int 10)) (iC (.int 18))) (aD aA (ab (iV 0) (ab (iC (.int 99)) ak)))) ak)))))))))) (aD aA (ab (iV 0) (ab (iC (.int 8)) ak))))
    [some (.h 1),some (.d (.str kd)),some (.d (.int n)),some (.h (rest.length+2)),some (.d (aj t)),o5] (spo p (rest++[.l (ps.map au)]))=some (.nx [some (.h 1),some (.d (.str kd)),some (.d (.int n)),some (.h (rest.length+2)),some (.d (aj t)),some (.d (.int x))] (spo p2 (rest++[.l (ps.map au)]))):=
   aJ (az (aE (lJ (ds:=FN r) (ah rfl (ah rfl (ah rfl (ah rfl (ah rfl (ah rfl (ah rfl (ah (az (az rfl rfl (EU _)) (aq rfl f1) rfl) rfl)))))))) rfl (by show 8<=1000;decide))) (aq rfl f2) ex)
  by_cases hu:u > 0
  ·refine⟨_,_,_,rfl,.inl (am s1 (lP (aX (aq rfl f3) rfl (CU _ (decide_eq_true hu))) (CY (d:=au (t,x)) rfl (cn (ah rfl (ah rfl rfl)) rfl (by show 2<=1000;decide)) lg3 lg3 (by rw[qae];lia)))),p3,ps++[(t,x)],_,_,rfl,?_,h3.mono (by push_cast;lia),?_,?_⟩
   ·rw[st3,qba];rfl
   ·rw[htk,qba]
    exact hs.append (qkQ _)
   ·intro q hq
    rcases qbe.mp hq with hq|hq
    ·exact hb q hq
    ·rw[qaO.mp hq];exact⟨x0,x1,x2⟩
  ·refine⟨_,_,_,rfl,.inl (am s1 (im (aX (aq rfl f3) rfl (CU _ (decide_eq_false hu))) rfl)),p3,ps,_,_,rfl,rfl,h3.mono (by push_cast;lia),?_,hb⟩
   rw[htk]
   exact hs.trans (List.sublist_append_left _ _))
 rw[qae]at h1 hs
 rw[qbv]at hs
 have hsub:∀ q∈ps,Trm n q.1:=λq hq=>ij (hs.subset (qcr hq))
 have hpl:ps.length<=64:=by
  have:=hs.length_le
  rw[qae]at this;lia
 refine⟨ps,p1,⟨⟨λq hq=>⟨hsub q hq,(hb q hq).1⟩,?_⟩,λq hq=>(hb q hq).2⟩,h1.mono (by lia),?_⟩
 ·refine qjQ hs ?_
  have:(fj n).Nodup:=by
   have hk:((qam 7).all λn=>decide (fj n).Nodup)=true:=by decide +kernel
   exact of_decide_eq_true (qaw.mp hk n (qaK.mpr (by lia)))
  exact jW this
 ·have lg1:=rW p1 rest (ps.map au)
  have ht:=Ag (st:=spo p (rest++[.l []])) hn
  have htake:=uC p1 rest [.l (ps.map au)]
  unfold ao
  generalize (cO n).map aj=AA at hF ht
  generalize ps.map au=PP at hF lg1 htake ⊢
  have hd:iO (spo p1 (rest++[.l PP])) [.h (rest.length+2)]=some (.tup PP):=by
   show (lg _ _).map _=_
   rw[lg1];rfl
  have s1:aW (.nm 3) (mB (eI ak)) [some (.h 1),some (.d (.str kd)),some (.d (.int n)),none,none,none] (spo p rest)=some (.nx [some (.h 1),some (.d (.str kd)),some (.d (.int n)),some (.h (rest.length+2)),none,none] (spo p (rest++[.l []]))):=rfl
  have s2:gE (aB (aD fO (ab (iV 2) (ab (iV 2) ak)))) (.nm 4) gZ [some (.h 1),some (.d (.str kd)),some (.d (.int n)),some (.h (rest.length+2)),none,none] (spo p (rest++[.l []]))=some (.nx [some (.h 1),some (.d (.str kd)),some (.d (.int n)),some (.h (rest.length+2)),o4,o5] (spo p1 (rest++[.l PP]))):=dC (fY (aq (ws:=[.d (.int n),.d (.int n)]) rfl ht)) hF
  have s3:iCB iO (ab (iV 3) ak) [some (.h 1),some (.d (.str kd)),some (.d (.int n)),some (.h (rest.length+2)),o4,o5] (spo p1 (rest++[.l PP]))=some (.d (.tup PP),spo p1 (rest++[.l PP])):=bn (ws:=[.h (rest.length+2)]) rfl hd
  have s4:bM (cp (ab (iV 1) (ab (iCB iO (ab (iV 3) ak)) ak))) [some (.h 1),some (.d (.str kd)),some (.d (.int n)),some (.h (rest.length+2)),o4,o5] (spo p1 (rest++[.l PP]))=some (.rt (.d (.tup [.str kd,.tup PP])) (spo p1 (rest++[.l PP]))):=aI (cn (ws:=[.d (.str kd),.d (.tup PP)]) (ah rfl (ah s3 rfl)) rfl (by show 2<=1000;decide))
  have hq:=gq (n:=6) (k:=3) (b:=gH) (ws:=[.h 1,.d (.str kd),.d (.int n)]) (st:=spo p rest) (s:=spo p1 (rest++[.l PP])) (x:=.tup [.str kd,.tup PP]) rfl (am s1 (am s2 s4))
  rw[wq,htake]at hq
  exact hq
theorem Gb {i j:Nat}{a:Af}{env:Ev}{st s:Sto}{x y:W} (h:a env st=some ([x,y],s)):ul i j a env st=some (.nx ((env.set i (some x)).set j (some y)) s):=by
 simp only[ul,h,qad]
theorem Ao (s:Sto) {q:Pt} (h:cq q.1 q.2):eB s [.d (PtD q)]=some (.int (2^q.1)):=by
 show some (D.int ((q.2.map D.int).length:Nat))=_
 rw[qae,h.len];push_cast;rfl
theorem E2 (s:Sto) {a b c d w:Int} (w0:0<=w) (w1:w<4) (ha:a=0\/a=1) (hb:b=0\/b=1) (hc:c=0\/c=1) (hd:d=0\/d=1):∃ x:Int,(x=0\/x=1)/\dIx s (.d (.lst [.int a,.int b,.int c,.int d])) (.d (.int w))=some (.int x):=by
 have h:w=0\/w=1\/w=2\/w=3:=by lia
 rcases h with rfl|rfl|rfl|rfl
 ·exact⟨a,ha,rfl⟩
 ·exact⟨b,hb,rfl⟩
 ·exact⟨c,hc,rfl⟩
 ·exact⟨d,hd,rfl⟩
def iG (l:List Nat):List D:=l.map λc:Nat=>D.int (c:Int)
theorem vq:∀ {l:List Int}{m:Int},(∀ x∈l,0<=x/\x<m)->∃ ns:List Nat,l.map D.int=iG ns/\ns.length=l.length/\∀ n∈ns,(n:Int)<m
 |[],m,_=>⟨[],rfl,rfl,(λn hn=>nomatch hn)⟩
 |x::l,m,h=>by
  obtain⟨ns,e,hl,hm⟩:=vq (l:=l) (m:=m) λy hy=>h y (qah _ hy)
  have hx:=h x qak
  obtain⟨j,rfl⟩:=qbr hx.1
  refine⟨j::ns,by rw[qal,e];rfl,by rw[qas,qas,hl],λn hn=>?_⟩
  rcases qaC.mp hn with rfl|hn
  ·exact hx.2
  ·exact hm n hn
theorem vB {B:Nat}:∀ {ns:List Nat},(∀ n∈ns,n<=B)->ns.sum<=ns.length*B
 |[],_=>qa7 _
 |n::ns,h=>by
  have:=vB (ns:=ns) λx hx=>h x (qah _ hx)
  have h1:=h n qak
  rw[qaF,qas,qin];lia
theorem yZ {p:Spo}{Z:Int} (rest:Sto) (h:okP p Z) (hZ:Z<800000000):∃ (ns:List Nat) (p':Spo),ns.sum<=6/\ns.length<=6/\okP p' (Z+10)/\fU [.h 1] (spo p rest)=some (.d (.lst (iG ns)),spo p' rest):=by
 obtain⟨w,p1,w0,w1,h1,e1⟩:=d3 h (by lia) (m:=6) (by decide) (by decide)
 obtain⟨mm,p2,m0,m1,h2,e2⟩:=d3 h1 (by lia) (m:=4) (by decide) (by decide)
 obtain⟨m,rfl⟩:=qbr m0
 have b1:ul 1 2 (ab (aD aA (ab (iV 0) (ab (iC (.int 6)) ak))) (ab (aD aA (ab (iV 0) (ab (iC (.int 4)) ak))) ak)) [some (.h 1),none,none,none] (spo p rest)=some (.nx [some (.h 1),some (.d (.int w)),some (.d (.int (m:Int))),none] (spo p2 rest)):=
  Gb (ah (aq rfl (e1 rest)) (ah (aq rfl (e2 rest)) rfl))
 have c:∀ (z:Int) (k:Bool),(w==z)=k->cm dEq (iV 1) (iC (.int z)) [some (.h 1),some (.d (.int w)),some (.d (.int (m:Int))),none] (spo p2 rest)=some (k,spo p2 rest):=λz k hk=>aX rfl rfl (by rw[C7,hk])
 by_cases hw0:w=0
 ·obtain⟨l,p3,l1,l2,h3,e3⟩:=tJ (te:=jN) (m:=2) (3+m) (λd s=>rfl) (by decide) (by decide) h2 (by push_cast;lia) rest
  obtain⟨ns,en,hl,hb⟩:=vq l2
  have hs:=vB (ns:=ns) (B:=1) λn hn=>by have:=hb n hn;lia
  refine⟨ns,p3,by lia,by lia,h3.mono (by push_cast;lia),?_⟩
  rw[<-en]
  generalize l.map D.int=LL at e3 ⊢
  exact aG (n:=4) (k:=1) (b:=cF) rfl (am b1 (iK (lP (c 0 true (by rw[hw0];rfl)) (aI (aE (bK (k:=1) (js:=[0]) (fz (z:=3+(m:Int)) (az rfl rfl rfl) (by lia) (by lia) (show (3+(m:Int)).toNat=3+m by lia)) (by rw[cu];lia) e3))))))
 by_cases hw1:w=1
 ·refine⟨[3+m],p2,by show 3+m+0<=6;lia,by show 1<=6;decide,h2.mono (by lia),?_⟩
  have hx:aC (eI (ab (iOp dO (iC (.int 3)) (iV 2)) ak)) [some (.h 1),some (.d (.int w)),some (.d (.int (m:Int))),none] (spo p2 rest)=some (.d (.lst [.int ((3+m:Nat):Int)]),spo p2 rest):=
   aE (lJ (ah (az rfl rfl (show some (D.int (3+(m:Int)))=some (D.int ((3+m:Nat):Int)) by push_cast;rfl)) rfl) rfl (by show 1<=1000;decide))
  exact aG (n:=4) (k:=1) (b:=cF) rfl (am b1 (am (im (c 0 false (by rw[beq_eq_false_iff_ne];exact hw0)) rfl) (iK (lP (c 1 true (by rw[hw1];rfl)) (aI hx)))))
 by_cases hw2:w=2
 ·obtain⟨a,p3,a0,a1,h3,e3⟩:=d3 h2 (by lia) (m:=7) (by decide) (by decide)
  obtain⟨a,rfl⟩:=qbr a0
  obtain⟨b,p4,b0,b1',h4,e4⟩:=d3 h3 (by lia) (m:=7 - (a:Int)) (by lia) (by lia)
  obtain⟨b,rfl⟩:=qbr b0
  refine⟨[a,b],p4,by show a+(b+0)<=6;lia,by show 2<=6;decide,h4.mono (by lia),?_⟩
  have x1:aW (.nm 3) (aD aA (ab (iV 0) (ab (iC (.int 7)) ak))) [some (.h 1),some (.d (.int w)),some (.d (.int (m:Int))),none] (spo p2 rest)=some (.nx [some (.h 1),some (.d (.int w)),some (.d (.int (m:Int))),some (.d (.int (a:Int)))] (spo p3 rest)):=aJ (aq rfl (e3 rest))
  have x2:aC (eI (ab (iV 3) (ab (aD aA (ab (iV 0) (ab (iOp vN (iC (.int 7)) (iV 3)) ak))) ak))) [some (.h 1),some (.d (.int w)),some (.d (.int (m:Int))),some (.d (.int (a:Int)))] (spo p3 rest)=some (.d (.lst [.int (a:Int),.int (b:Int)]),spo p4 rest):=
   aE (lJ (ah rfl (ah (aq (ws:=[.h 1,.d (.int (7 - (a:Int)))]) rfl (e4 rest)) rfl)) rfl (by show 2<=1000;decide))
  exact aG (n:=4) (k:=1) (b:=cF) rfl (am b1 (am (im (c 0 false (by rw[beq_eq_false_iff_ne];exact hw0)) rfl) (am (im (c 1 false (by rw[beq_eq_false_iff_ne];exact hw1)) rfl) (iK (lP (c 2 true (by rw[hw2];rfl)) (am x1 (aI x2)))))))
 ·obtain⟨l,p3,l1,l2,h3,e3⟩:=tJ (te:=jh) (m:=3) m (λd s=>rfl) (by decide) (by decide) h2 (by push_cast;lia) rest
  obtain⟨ns,en,hl,hb⟩:=vq l2
  have hs:=vB (ns:=ns) (B:=2) λn hn=>by have:=hb n hn;lia
  refine⟨ns,p3,by lia,by lia,h3.mono (by push_cast;lia),?_⟩
  rw[<-en]
  generalize l.map D.int=LL at e3 ⊢
  exact aG (n:=4) (k:=1) (b:=cF) rfl (am b1 (am (im (c 0 false (by rw[beq_eq_false_iff_ne];exact hw0)) rfl) (am (im (c 1 false (by rw[beq_eq_false_iff_ne];exact hw1)) rfl) (am (im (c 2 false (by rw[beq_eq_false_iff_ne];exact hw2)) rfl) (aI (aE (bK (k:=1) (js:=[0]) (fz rfl (by lia) (by lia) (qaW m)) (by rw[cu];lia) e3)))))))
end Own
end
section
set_option maxHeartbeats 1000000
namespace Own
open PySem L2
def pm (m r:Nat):Int:=if (aw (m&&&r)).length%2=1 then -1 else 1
def dk (w:Nat):Nat:=(aw w).length
def ek (a w:Nat):Bool:=a&&&w==a
theorem Eu:((qam 64).all λm=>(qam 64).all λr=>br false (ksI m) (r:Int)==pm m r)=true:=by decide +kernel
theorem zr {t:List Int}{r:Nat} (ht:Trm 6 t) (hr:r<64):br false t (r:Int)=pm (av t) r:=by
 have:=eq_of_beq (qaw.mp (qaw.mp Eu (av t) (qaK.mpr (mH (qan 6) ht))) r (qaK.mpr hr))
 rw[io ht]at this
 exact this
theorem Gv:((qam 7).all λn=>(qam (2^n)).all λw=>(qam (2^n)).all λt=>decide (dk w<=dk t)||((qam (2^n)).map λa=>if ek a w=true then pm 63 (w^^^a)*pm t a else 0).sum==0)=true:=by decide +kernel
theorem Gm:((qam 7).all λn=>(qam (2^n)).all λw=>(qam (2^n)).all λt=>decide (dk t<=dk w)||((qam (2^n)).map λr=>if ek w r=true then pm t r else 0).sum==0)=true:=by decide +kernel
theorem Gu:((qam 7).all λn=>(qam (2^n)).all λr=>(qam (2^n)).all λa=>((qam (2^n)).map λw=>if ek w r=true then (if ek a w=true then pm 63 (w^^^a) else 0) else 0).sum==(if a=r then 1 else 0))=true:=by decide +kernel
end Own
end
section
set_option maxHeartbeats 1000000
namespace Own
open PySem L2
def jl (ps:List Prt):Int:=gD (ps.map λp=>(p.1.length:Int)) 0
theorem xp {st:Sto}{kd:Str}{ps:List Prt} (hl:ps.length<=1000):jj [.d (ao kd ps)] st=some (.d (.int (jl ps)),st):=by
 have key:lcI (.tp [0,1]) bB ig [none,none] (ps.map au) st=some (ps.map λp=>.int (p.1.length:Int),st):=gy _ λp hm=>by
  refine⟨_,rfl,?_⟩
  have e:((p.1.map D.int).length:Int)=(p.1.length:Int):=by rw[qae]
  exact bn (ah rfl rfl) (by show some (D.int (((p.1.map D.int).length:Nat):Int))=_;rw[e])
 have hs:bf (ps.map λp=>.int (p.1.length:Int))=some (ps.map λp=>(p.1.length:Int)):=by
  have:=bC (ps.map λp=>(p.1.length:Int))
  rw[qaL]at this;exact this
 have hz:(ps.map au).length<=1000000:=by rw[qae];lia
 have hm:=oD (ps.map λp=>(p.1.length:Int)) λn hn=>by
  obtain⟨p,_,rfl⟩:=qap.mp hn
  lia
 unfold jl
 generalize ps.map (λp=>(p.1.length:Int))=L at hs hm ⊢
 generalize (ps.map λp=>D.int (p.1.length:Int))=LD at key hs
 unfold ao
 generalize ps.map au=PP at key hz ⊢
 have hix:iOp dIx (iV 0) (iC (.int 1)) [some (.d (.tup [.str kd,.tup PP]))] st=some (.d (.tup PP),st):=az rfl rfl (ix1 _ _ _ _)
 have hq:aC (iLc 2 [] (aB (iOp dIx (iV 0) (iC (.int 1)))) (.tp [0,1]) bB ig) [some (.d (.tup [.str kd,.tup PP]))] st=some (.d (.lst LD),st):=aE (bK (cw hix) hz key)
 have hls:lsI st (.d (.lst LD))=some L:=hs
 refine aG (n:=1) (k:=1) (b:=gM) rfl (aI ?_)
 have hc:iC (.int 0) [some (.d (.tup [.str kd,.tup PP]))] st=some (.d (.int 0),st):=rfl
 show fg _ _ [some (.d (.tup [.str kd,.tup PP]))] st=_
 simp only[fg,hq,hc,hls,hm,qad,qaB]
theorem Ak {ps:List Prt}{p:Prt} (h:p∈ps):(p.1.length:Int)<=jl ps:=(kZ _ 0).2 _ (qcr (f:=λp:Prt=>(p.1.length:Int)) h)
theorem AO (ps:List Prt):0<=jl ps:=(kZ _ 0).1
theorem E5 {ps:List Prt} (h:∀ p∈ps,Trm 6 p.1):jl ps<=6:=nP _ _ (by decide) λn hn=>by
 obtain⟨p,hp,rfl⟩:=qap.mp hn
 have:=gY (h p hp)
 lia
section
variable {n:Nat}{f:List Int}
def cW (w a:Nat):Int:=if ek a w=true then pm 63 (w^^^a) else 0
def mbS (f:List Int) (n w:Nat):Int:=((qam (2^n)).map λa=>f.getD a 0*cW w a).sum
theorem sA {w t:Nat} (hn:n<=6) (hw:w<2^n) (ht:t<2^n) (h:dk t<dk w):((qam (2^n)).map λa=>cW w a*pm t a).sum=0:=by
 have:=qaw.mp (qaw.mp (qaw.mp Gv n (qaK.mpr (by lia))) w (qaK.mpr hw)) t (qaK.mpr ht)
 rw[decide_eq_false (by lia),qdZ]at this
 rw[<-eq_of_beq this]
 congr 1
 refine qar λa _=>?_
 unfold cW
 split
 ·rfl
 ·exact qco _
theorem sB {w t:Nat} (hn:n<=6) (hw:w<2^n) (ht:t<2^n) (h:dk w<dk t):((qam (2^n)).map λr=>(if ek w r=true then 1 else 0)*pm t r).sum=0:=by
 have:=qaw.mp (qaw.mp (qaw.mp Gm n (qaK.mpr (by lia))) w (qaK.mpr hw)) t (qaK.mpr ht)
 rw[decide_eq_false (by lia),qdZ]at this
 refine qkS (congrArg qju (qar λa _=>?_)) (eq_of_beq this)
 by_cases hc:ek w a=true
 ·rw[if_pos hc,if_pos hc];exact qd8 _
 ·rw[if_neg hc,if_neg hc];exact qco _
theorem sC {r a:Nat} (hn:n<=6) (hr:r<2^n) (ha:a<2^n):((qam (2^n)).map λw=>cW w a*(if ek w r=true then 1 else 0)).sum=if a=r then 1 else 0:=by
 have:=qaw.mp (qaw.mp (qaw.mp Gu n (qaK.mpr (by lia))) r (qaK.mpr hr)) a (qaK.mpr ha)
 refine qkS (congrArg qju (qar λw _=>?_)) (eq_of_beq this)
 unfold cW
 by_cases hc:ek w r=true
 ·rw[if_pos hc,if_pos hc];exact qd9 _
 ·rw[if_neg hc,if_neg hc];exact qcO _
theorem p64 (hn:n<=6) {r:Nat} (h:r<2^n):r<64:=qaP h (qaH (qbg (by decide) hn) (by decide))
theorem DL (h:cq n f) (hn:n<=6) {t:List Int} (ht:Trm n t):exN f t=((qam (2^n)).map λr=>sI (f.getD r 0)*pm (av t) r).sum:=by
 unfold exN
 rw[j6,h.len]
 congr 1
 refine qar λr hr=>?_
 rw[qbz,zr (ht.mono hn) (p64 hn (qaK.mp hr))]
theorem f01 (h:cq n f) {r:Nat} (hr:r<2^n):sI (f.getD r 0)=2*f.getD r 0 - 1:=by
 have hl:r<f.length:=by rw[h.len];exact hr
 have:=h.v _ (qcU hl)
 rw[qaQ,qaD hl]
 show sI f[r]=2*f[r] - 1
 rcases this with e|e<;>rw[e]<;>rfl
theorem En (h:cq n f) (hn:n<=6) {a:Nat} (ha:a<2^n):2^n*sI (f.getD a 0)=((cO n).map λt=>exN f t*pm (av t) a).sum:=by
 rw[<-Bw h.len ha]
 unfold bN exL
 rw[qaL]
 congr 1
 refine qar λt ht=>?_
 show exN f t*br false t (a:Int)=_
 rw[zr ((ij ht).mono hn) (p64 hn ha)]
theorem nB {t:List Int} (ht:Trm 6 t):dk (av t)=t.length:=by
 have:=congrArg qgt (io ht)
 unfold ksI at this
 rw[qae]at this;exact this
theorem Cn (h:cq n f) (hn:n<=6) {w:Nat} (hw:w<2^n) (hp:0<dk w) (h0:∀ t,Trm n t->exN f t≠0->t.length<dk w):mbS f n w=0:=by
 have z0:=sA hn hw (qfE (n:=n) (by decide:0<2)) (show dk 0<dk w by have:dk 0=0:=rfl;lia)
 have e1:((qam (2^n)).map λa=>cW w a*(2^n*sI (f.getD a 0))).sum=0:=by
  have:((qam (2^n)).map λa=>cW w a*(2^n*sI (f.getD a 0)))=(qam (2^n)).map λa=>((cO n).map λt=>exN f t*(cW w a*pm (av t) a)).sum:=qar λa ha=>by
   rw[En h hn (qaK.mp ha),<-cT]
   congr 1
   refine qar λt _=>?_
   rw[qeB]
  rw[this,jk (λa t=>exN f t*(cW w a*pm (av t) a))]
  have:((cO n).map λt=>((qam (2^n)).map λa=>exN f t*(cW w a*pm (av t) a)).sum)=(cO n).map λ_=>(0:Int):=qar λt ht=>by
   rw[cT]
   by_cases he:exN f t=0
   ·rw[he,qco]
   ·have ht':=ij ht
    have hl:=h0 t ht' he
    rw[sA hn hw (mH hn ht') (by rw[nB (ht'.mono hn)];exact hl),qcO]
  rw[this,gA]
 have e2:((qam (2^n)).map λa=>cW w a*(2^n*sI (f.getD a 0))).sum=2^n*(2*mbS f n w - ((qam (2^n)).map λa=>cW w a*pm 0 a).sum):=by
  unfold mbS
  rw[<-cT,Int.sub_eq_add_neg,<-Int.neg_one_mul,<-cT,<-lM,<-cT]
  congr 1
  refine qar λa ha=>?_
  have hpm:pm 0 a=1:=by unfold pm;rw[qkL];rfl
  rw[f01 h (qaK.mp ha),hpm]
  generalize cW w a=c
  generalize f.getD a 0=v
  generalize (2:Int)^n=N
  rw[qeB]
  congr 1
  rw[qd9,Int.mul_sub,qd9,qeB c 2 v,qhR c v];lia
 rw[e2,z0,Int.sub_zero]at e1
 have hN:(2:Int)^n≠0:=Int.ne_of_gt (qk8 (by decide))
 rcases Int.mul_eq_zero.mp e1 with z|z
 ·exact absurd z hN
 ·lia
theorem Fk (hn:n<=6) {r:Nat} (hr:r<2^n):((qam (2^n)).map λw=>mbS f n w*(if ek w r=true then 1 else 0)).sum=f.getD r 0:=by
 have e:((qam (2^n)).map λw=>mbS f n w*(if ek w r=true then 1 else 0))=(qam (2^n)).map λw=>((qam (2^n)).map λa=>f.getD a 0*(cW w a*(if ek w r=true then 1 else 0))).sum:=qar λw _=>by
  unfold mbS
  rw[<-jG]
  congr 1
  exact qar λa _=>qb1 _ _ _
 rw[e,jk (λw a=>f.getD a 0*(cW w a*(if ek w r=true then 1 else 0)))]
 have e2:((qam (2^n)).map λa=>((qam (2^n)).map λw=>f.getD a 0*(cW w a*(if ek w r=true then 1 else 0))).sum)=(qam (2^n)).map λa=>f.getD a 0*(if a=r then 1 else 0):=qar λa ha=>by
  rw[cT,sC hn hr (qaK.mp ha)]
 rw[e2,mF (λa=>f.getD a 0) 1 r _ qf8 (qaK.mpr hr),qd9]
theorem Cg (h:cq n f) (hn:n<=6) {t:List Int} (ht:Trm n t) (hp:0<t.length) (h0:∀ w,w<2^n->mbS f n w≠0->dk w<t.length):exN f t=0:=by
 have hb:=mH hn ht
 have hl:=nB (ht.mono hn)
 have z0:=sB hn (qfE (n:=n) (by decide:0<2)) hb (show dk 0<dk (av t) by have:dk 0=0:=rfl;lia)
 have e0:((qam (2^n)).map λr=>pm (av t) r).sum=0:=by
  refine qkS (congrArg qju (qar λr _=>?_)) z0
  have:ek 0 r=true:=by unfold ek;rw[qkL];rfl
  rw[if_pos this];exact (qd8 _).symm
 have e1:((qam (2^n)).map λr=>f.getD r 0*pm (av t) r).sum=0:=by
  have:((qam (2^n)).map λr=>f.getD r 0*pm (av t) r)=(qam (2^n)).map λr=>((qam (2^n)).map λw=>mbS f n w*((if ek w r=true then 1 else 0)*pm (av t) r)).sum:=qar λr hr=>by
   rw[<-Fk (f:=f) hn (qaK.mp hr),<-jG]
   congr 1
   exact qar λw _=>qb1 _ _ _
  rw[this,jk (λr w=>mbS f n w*((if ek w r=true then 1 else 0)*pm (av t) r))]
  have:((qam (2^n)).map λw=>((qam (2^n)).map λr=>mbS f n w*((if ek w r=true then 1 else 0)*pm (av t) r)).sum)=(qam (2^n)).map λ_=>(0:Int):=qar λw hw=>by
   rw[cT]
   by_cases he:mbS f n w=0
   ·rw[he,qco]
   ·rw[sB hn (qaK.mp hw) hb (by rw[hl];exact h0 w (qaK.mp hw) he),qcO]
  rw[this,gA]
 rw[DL h hn ht]
 have e2:((qam (2^n)).map λr=>sI (f.getD r 0)*pm (av t) r)=(qam (2^n)).map λr=>2*(f.getD r 0*pm (av t) r)+(-1)*pm (av t) r:=qar λr hr=>by
  rw[f01 h (qaK.mp hr),Int.sub_mul,qd8,qb1];lia
 rw[e2,lM,cT,cT,e0,e1];rfl
theorem Bg {p:Prt} (hn:n<=6) (hp:p∈exQ f n):Trm n p.1/\exN f p.1≠0:=by
 have ht:=((mz (f:=f) hn).1 p hp).1
 refine⟨ht,?_⟩
 unfold exQ cY dX at hp
 obtain⟨t,hm,rfl⟩:=qap.mp hp
 have h2:=of_decide_eq_true (qb0.mp hm).2
 rw[Ad (nW hn ht)]at h2
 exact h2
theorem C1 (hn:n<=6) {t:List Int} (ht:Trm n t) (h0:exN f t≠0):∃ p∈exQ f n,p.1=t:=by
 have ha:=nW hn ht
 refine⟨(t,bp (exL f n) t),?_,rfl⟩
 unfold exQ cY dX
 refine qap.mpr ⟨t,qb0.mpr ⟨(gv (λp hp=>(nM p hp).mono hn) t).mpr ?_,decide_eq_true ?_⟩,rfl⟩
 ·rw[oO];exact ha
 ·rw[Ad ha];exact h0
def er (f:List Int) (n:Nat):Nat->Int
 |0=>0
 |w+1=>if mbS f n w=0 then er f n w else if (dk w:Int) > er f n w then (dk w:Int) else er f n w
theorem sG {D:Int} (hD:0<=D):∀ k,(∀ w,w<k->mbS f n w≠0->(dk w:Int)<=D)->er f n k<=D
 |0,_=>hD
 |w+1,h=>by
  have ih:=sG hD w λx hx=>h x (by lia)
  rw[er]
  split
  ·exact ih
  ·rename_i hm
   have:=h w (qb4 w) hm
   split<;>lia
theorem sP:∀ k,0<=er f n k/\∀ w,w<k->mbS f n w≠0->(dk w:Int)<=er f n k
 |0=>⟨qdm 0,λw hw=>absurd hw (qd6 _)⟩
 |k+1=>by
  have ih:=sP k
  have hmono:er f n k<=er f n (k+1):=by
   rw[er]
   split
   ·exact qdm _
   ·split<;>lia
  refine⟨by lia,λw hw hm=>?_⟩
  by_cases e:w=k
  ·subst e
   rw[er,if_neg hm]
   split<;>lia
  ·have:=ih.2 w (by lia) hm
   lia
theorem v5:∀ (l:List Int) (a:Int),gD l a=a\/gD l a∈l
 |[],a=>.inl rfl
 |x::l,a=>by
  rw[gD]
  rcases v5 l (if x > a then x else a) with h|h
  ·rw[h]
   split
   ·exact .inr qak
   ·exact .inl rfl
  ·exact .inr (qah _ h)
theorem xB (h:cq n f) (hn:n<=6):er f n (2^n)=jl (exQ f n):=by
 have g:=sP (f:=f) (n:=n) (2^n)
 refine qje (sG (AO _) _ λw hw hm=>?_) ?_
 ·apply qc7
  intro hlt
  have h0:=AO (exQ f n)
  refine hm (Cn h hn hw (by lia) λt ht he=>?_)
  obtain⟨p,hp,rfl⟩:=C1 hn ht he
  have:=Ak hp
  lia
 ·unfold jl
  rcases v5 ((exQ f n).map λp=>(p.1.length:Int)) 0 with e|e
  ·rw[e];exact g.1
  ·generalize gD ((exQ f n).map λp=>(p.1.length:Int)) 0=M at e
   obtain⟨p,hp,rfl⟩:=qap.mp e
   obtain⟨ht,he⟩:=Bg hn hp
   by_cases hz:p.1.length=0
   ·rw[hz];exact g.1
   ·apply qc7
    intro hlt
    refine he (Cg h hn ht (by lia) λw hw hm=>?_)
    have:=g.2 w hw hm
    lia
end
end Own
end
section
set_option maxHeartbeats 1000000
namespace Own
open PySem L2
def kz:List Int:=(qam 6).map λk:Nat=>(k:Int)
theorem wd:((qam 64).all λw=>cI (w:Int) kz==(dk w:Int)&&(1 - 2*cI (w:Int) kz%4==pm 63 w))=true:=by decide +kernel
theorem A9 {w:Nat} (h:w<64):cI (w:Int) kz=(dk w:Int):=by
 have:=qaw.mp wd w (qaK.mpr h)
 rw[qa8]at this
 exact eq_of_beq this.1
theorem Ep {w:Nat} (h:w<64):1 - 2*cI (w:Int) kz%4=pm 63 w:=by
 have:=qaw.mp wd w (qaK.mpr h)
 rw[qa8]at this
 exact eq_of_beq this.2
theorem D8:((qam 64).all λw=>(qam 64).all λa=>qeW (w:Int) (a:Int)==((w^^^a:Nat):Int)&&(qdb (a:Int) (w:Int)==((a&&&w:Nat):Int)))=true:=by decide +kernel
theorem bx {w a:Nat} (hw:w<64) (ha:a<64):qeW (w:Int) (a:Int)=((w^^^a:Nat):Int)/\qdb (a:Int) (w:Int)=((a&&&w:Nat):Int):=by
 have:=qaw.mp (qaw.mp D8 w (qaK.mpr hw)) a (qaK.mpr ha)
 rw[qa8]at this
 exact⟨eq_of_beq this.1,eq_of_beq this.2⟩
theorem DH:∀ k∈kz,(0:Int)<=k:=by decide
theorem vY (s:Sto) (x:Int):eB s [.d (.lst ((kz.filter λk=>onI x k==1).map D.int))]=some (.int (cI x kz)):=by
 show some (D.int (((kz.filter λk=>onI x k==1).map D.int).length:Nat))=_
 rw[qae,mP]
theorem FB {w a:Nat} (hw:w<64) (ha:a<64):w^^^a<64:=qiA (n:=6) hw ha
theorem Bn {st:Sto}{w a:Nat} (hw:w<64) (ha:a<64):lcI (.nm 0) de cX [none,some (.d (.int (w:Int))),some (.d (.int (a:Int)))] (eZ 0 6) st=some ((kz.filter λk=>onI ((w^^^a:Nat):Int) k==1).map D.int,st):=by
 have:=dm (g:=.nm 0) (tt:=de) (te:=cX) (env:=[none,some (.d (.int (w:Int))),some (.d (.int (a:Int)))]) (st:=st) (λd=>match d with|.int k=>onI ((w^^^a:Nat):Int) k==1|_=>false) id (ds:=eZ 0 6) λd hd=>by
  obtain⟨i,hi0⟩:=qfc hd
  obtain⟨rfl,hi⟩:=fF hi0
  refine⟨_,rfl,?_,λ_=>rfl⟩
  have x1:EO st (.d (.int (w:Int))) (.d (.int (a:Int)))=some (.int ((w^^^a:Nat):Int)):=by rw[<-(bx hw ha).1];rfl
  exact aX (x:=.d (.int (onI ((w^^^a:Nat):Int) (i:Int)))) (az (az (az rfl rfl x1) rfl (Cz _ (by lia))) rfl (by rw[<-yt (by lia)];rfl)) rfl (kn _ _ _)
 rw[this,kL,qcJ,qdF]
 rfl
theorem FY {st:Sto}{q:Pt}{w a:Nat} (h:cq q.1 q.2) (hn:q.1<=6) (hw:w<64) (ha:a<2^q.1):cr [some (.d (.int (a:Int))),some (.d (PtD q)),some (.d (.int (w:Int)))] st=some (.d (.int (q.2.getD a 0*pm 63 (w^^^a))),st):=by
 have ha64:=p64 hn ha
 have k:=Bn (st:=st) hw ha64
 have hl:=vY st ((w^^^a:Nat):Int)
 have hpm:=Ep (FB hw ha64)
 have hc:=nS ((w^^^a:Nat):Int) kz
 have hix:dIx st (.d (PtD q)) (.d (.int (a:Int)))=some (.int (q.2.getD a 0)):=by
  have hlen:a<q.2.length:=by rw[h.len];exact ha
  show atI (q.2.map D.int) _=_
  refine iW ?_
  rw[qaZ,qaQ,qaD hlen];rfl
 have hb:-(2^64)<pm 63 (w^^^a)/\pm 63 (w^^^a)<2^64:=by unfold pm;split<;>decide
 rw[<-hpm]at hb ⊢
 generalize (kz.filter λk=>onI ((w^^^a:Nat):Int) k==1).map D.int=LL at k hl
 generalize cI ((w^^^a:Nat):Int) kz=cc at hl hb hc ⊢
 generalize q.2.getD a 0=v at hix ⊢
 generalize PtD q=tq at hix ⊢
 have s1:iCB eB (ab (aC (iLc 1 [2,0] (ci (ab (iC (.int 6)) ak)) (.nm 0) de cX)) ak) [some (.d (.int (a:Int))),some (.d tq),some (.d (.int (w:Int)))] st=some (.d (.int cc),st):=bn (ws:=[.d (.lst LL)]) (ah (aE (bK (fz (m:=6) rfl (by decide) (by decide) rfl) (by rw[cu];decide) k)) rfl) hl
 have s2:iOp vN (iC (.int 1)) (iOp i6 (iOp fu (iC (.int 2)) (iCB eB (ab (aC (iLc 1 [2,0] (ci (ab (iC (.int 6)) ak)) (.nm 0) de cX)) ak))) (iC (.int 4))) [some (.d (.int (a:Int))),some (.d tq),some (.d (.int (w:Int)))] st=some (.d (.int (1 - 2*cc%4)),st):=az rfl (az (az rfl s1 (qw _ (kY (by decide)))) rfl (qx _ (by decide))) rfl
 exact az (az rfl rfl hix) s2 (qw _ (fW hb))
theorem uz {α:Type} (p:α->Bool) (g:α->Int):∀ l:List α,((l.filter p).map g).sum=(l.map λx=>if p x=true then g x else 0).sum
 |[]=>rfl
 |x::l=>by
  rw[qcy,qal,qaF,<-uz p g l]
  by_cases hc:p x=true
  ·rw[if_pos hc,if_pos hc,qal,qaF]
  ·rw[if_neg hc,if_neg hc,qcp]
theorem Ap (f:List Int) (n w:Nat):(((qam (2^n)).filter λa=>ek a w).map λa=>f.getD a 0*pm 63 (w^^^a)).sum=mbS f n w:=by
 rw[uz]
 unfold mbS cW
 congr 1
 refine qar λa _=>?_
 by_cases hc:ek a w=true
 ·rw[if_pos hc,if_pos hc]
 ·rw[if_neg hc,if_neg hc,qcO]
theorem zj {st:Sto}{q:Pt}{w:Nat}{x3 x4 x5:Option W}{fd:Int} (h:cq q.1 q.2) (hn:q.1<=6) (hw:w<2^q.1) :
  ∃ y3 y4 y5,gC [some (.d (PtD q)),some (.d (.int fd)),some (.d (.int (w:Int))),x3,x4,x5] st=some (.nx [some (.d (PtD q)),some (.d (.int (if mbS q.2 q.1 w=0 then fd else if (dk w:Int) > fd then (dk w:Int) else fd))),some (.d (.int (w:Int))),y3,y4,y5] st):=by
 have hw64:=p64 hn hw
 have hlp:=Ao st h
 have k1:lcI (.nm 0) d0 d6 [none,some (.d (.int (w:Int)))] (eZ 0 (2^q.1)) st=some (iG ((qam (2^q.1)).filter λa=>ek a w),st):=by
  have:=dm (g:=.nm 0) (tt:=d0) (te:=d6) (env:=[none,some (.d (.int (w:Int)))]) (st:=st) (λd=>match d with|.int k=>ek k.toNat w|_=>false) id (ds:=eZ 0 (2^q.1)) λd hd=>by
   obtain⟨i,hi0⟩:=qfc hd
   obtain⟨rfl,hi⟩:=fF hi0
   refine⟨_,rfl,?_,λ_=>rfl⟩
   have x1:rC st (.d (.int (i:Int))) (.d (.int (w:Int)))=some (.int ((i&&&w:Nat):Int)):=by rw[<-(bx hw64 (p64 hn hi)).2];rfl
   refine aX (az rfl rfl x1) rfl ?_
   rw[kn]
   congr 2
   show (((i&&&w:Nat):Int)==(i:Int))=(i&&&w==i)
   by_cases e:i&&&w=i
   ·rw[e];simp
   ·rw[beq_false_of_ne e,beq_false_of_ne (by lia)]
  rw[this,kL,qcJ,qcJ,qdF]
  unfold iG
  rw[qaL]
  rfl
 have k2:=zL (tt:=gi) (te:=gk) (st:=st) (row:=(w:Int)) (by lia) rfl rfl (t:=kz) DH
 have hr6:kz.map D.int=eZ 0 6:=(kL 6).symm
 rw[hr6]at k2
 have hl2:=vY st (w:Int)
 rw[A9 hw64]at hl2
 have k3:lcI (.nm 0) bB cr [none,some (.d (PtD q)),some (.d (.int (w:Int)))] (iG ((qam (2^q.1)).filter λa=>ek a w)) st=some ((((qam (2^q.1)).filter λa=>ek a w).map λa=>q.2.getD a 0*pm 63 (w^^^a)).map D.int,st):=by
  have:∀ l:List Nat,(∀ a∈l,a<2^q.1)->lcI (.nm 0) bB cr [none,some (.d (PtD q)),some (.d (.int (w:Int)))] (iG l) st=some ((l.map λa=>q.2.getD a 0*pm 63 (w^^^a)).map D.int,st):=λl=>by
   induction l with
   |nil=>exact λ_=>rfl
   |cons a l ih=>
    intro hl
    have ih':=ih λx hx=>hl x (qah _ hx)
    have he:=FY (st:=st) h hn hw64 (hl a qak)
    show lcI (.nm 0) bB cr _ (D.int (a:Int)::iG l) st=_
    unfold lcI
    rw[show fV (.nm 0) (.d (.int (a:Int))) [none,some (.d (PtD q)),some (.d (.int (w:Int)))]=some [some (.d (.int (a:Int))),some (.d (PtD q)),some (.d (.int (w:Int)))] from rfl,qad,show bB [some (.d (.int (a:Int))),some (.d (PtD q)),some (.d (.int (w:Int)))] st=some (true,st) from rfl,qad,if_pos rfl,he,qad]
    simp only[ih',qaB,qal]
    rfl
  exact this _ λa ha=>qaK.mp (qb0.mp ha).1
 have hsum:=xb st (((qam (2^q.1)).filter λa=>ek a w).map λa=>q.2.getD a 0*pm 63 (w^^^a))
 rw[Ap]at hsum
 have hp2:(2:Nat)^q.1<=64:=qaH (qbg (by decide) hn) (by decide)
 have hp3:((2^q.1:Nat):Int)=(2:Int)^q.1:=by push_cast;rfl
 have hz:(iG ((qam (2^q.1)).filter λa=>ek a w)).length<=1000000:=by
  unfold iG
  rw[qae]
  refine qaH (qcA _ _) ?_
  rw[qc9];lia
 generalize (((qam (2^q.1)).filter λa=>ek a w).map λa=>q.2.getD a 0*pm 63 (w^^^a)).map D.int=L5 at k3 hsum
 generalize iG ((qam (2^q.1)).filter λa=>ek a w)=L3 at k1 k3 hz
 generalize (kz.filter λk=>onI (w:Int) k==1).map D.int=L4 at k2 hl2
 generalize mbS q.2 q.1 w=M at hsum ⊢
 generalize PtD q=tq at *
 have s1:aW (.nm 3) (aC (iLc 1 [2] (ci (ab (iCB eB (ab (iV 0) ak)) ak)) (.nm 0) d0 d6)) [some (.d tq),some (.d (.int fd)),some (.d (.int (w:Int))),x3,x4,x5] st=some (.nx [some (.d tq),some (.d (.int fd)),some (.d (.int (w:Int))),some (.d (.lst L3)),x4,x5] st):=aJ (aE (bK (fz (bn (ws:=[.d tq]) rfl hlp) (by lia) (by lia) (show ((2:Int)^q.1).toNat=2^q.1 by rw[<-hp3];exact qaW _)) (by rw[cu];lia) k1))
 have s2:aW (.nm 4) (iCB eB (ab (aC (iLc 1 [2] (ci (ab (iC (.int 6)) ak)) (.nm 0) gi gk)) ak)) [some (.d tq),some (.d (.int fd)),some (.d (.int (w:Int))),some (.d (.lst L3)),x4,x5] st=some (.nx [some (.d tq),some (.d (.int fd)),some (.d (.int (w:Int))),some (.d (.lst L3)),some (.d (.int (dk w:Int))),x5] st):=aJ (bn (ws:=[.d (.lst L4)]) (ah (aE (bK (fz (m:=6) rfl (by decide) (by decide) rfl) (by rw[cu];decide) k2)) rfl) hl2)
 have s3:aW (.nm 5) (aC (iLc 1 [0,2] (aB (iV 3)) (.nm 0) bB cr)) [some (.d tq),some (.d (.int fd)),some (.d (.int (w:Int))),some (.d (.lst L3)),some (.d (.int (dk w:Int))),x5] st=some (.nx [some (.d tq),some (.d (.int fd)),some (.d (.int (w:Int))),some (.d (.lst L3)),some (.d (.int (dk w:Int))),some (.d (.lst L5))] st):=aJ (aE (bK (fY rfl) hz k3))
 have s4:∀ k:Bool,(!(M==0))=k->cm dNe (iCB me (ab (iV 5) ak)) (iC (.int 0)) [some (.d tq),some (.d (.int fd)),some (.d (.int (w:Int))),some (.d (.lst L3)),some (.d (.int (dk w:Int))),some (.d (.lst L5))] st=some (k,st):=λk hk=>aX (bn (ws:=[.d (.lst L5)]) rfl hsum) rfl (by rw[Dp,hk])
 refine⟨some (.d (.lst L3)),some (.d (.int (dk w:Int))),some (.d (.lst L5)),am s1 (am s2 (am s3 ?_))⟩
 by_cases hM:M=0
 ·rw[if_pos hM]
  exact im (s4 false (by rw[hM];rfl)) rfl
 ·rw[if_neg hM]
  exact lP (s4 true (by rw[beq_false_of_ne hM];rfl)) (aJ (i:=1) (bn (ws:=[.d (.int fd),.d (.int (dk w:Int))]) rfl rfl))
theorem yk {st:Sto}{q:Pt} (h:cq q.1 q.2) (hn:q.1<=6):iA [.d (PtD q)] st=some (.d (.int (jl (exQ q.2 q.1))),st):=by
 have hlp:=Ao st h
 obtain⟨e',s',hF,o2,o3,o4,o5,rfl,rfl⟩:=bS (g:=.nm 2) (body:=gC) (ds:=eZ 0 (2^q.1))
  (λi env s=>∃ o2 o3 o4 o5,env=[some (.d (PtD q)),some (.d (.int (er q.2 q.1 i))),o2,o3,o4,o5]/\s=st)
  (env:=[some (.d (PtD q)),some (.d (.int 0)),none,none,none,none]) (st:=st) ⟨none,none,none,none,rfl,rfl⟩ (by
  rintro i d env s hd ⟨o2,o3,o4,o5,rfl,rfl⟩
  obtain⟨rfl,hi⟩:=fF hd
  obtain⟨y3,y4,y5,e⟩:=zj (st:=s) (x3:=o3) (x4:=o4) (x5:=o5) (fd:=er q.2 q.1 i) h hn hi
  exact⟨_,_,_,rfl,.inl e,_,y3,y4,y5,rfl,rfl⟩)
 rw[cu,xB h hn]at hF
 have hp2:(2:Nat)^q.1<=64:=qaH (qbg (by decide) hn) (by decide)
 have hp3:((2^q.1:Nat):Int)=(2:Int)^q.1:=by push_cast;rfl
 generalize jl (exQ q.2 q.1)=DG at hF ⊢
 generalize PtD q=tq at *
 exact aG (n:=6) (k:=1) (b:=fI) rfl (am (aJ (i:=1) (w:=.d (.int 0)) rfl) (am (dC (fz (bn (ws:=[.d tq]) rfl hlp) (by lia) (by lia) (show ((2:Int)^q.1).toNat=2^q.1 by rw[<-hp3];exact qaW _)) hF) (aI rfl)))
theorem AY {st:Sto}{q:Pt} (h:cq q.1 q.2) (hn:q.1<=6):gB [.d (PtD q)] st=some (.d (.int (jl (exQ q.2 q.1))),st):=by
 have e1:=yz (st:=st) h hn
 have e2:=xp (st:=st) (kd:="odd") (ps:=exQ q.2 q.1) (by have:=(mz (f:=q.2) (n:=q.1) hn).len hn;lia)
 unfold PtD
 generalize ao "odd" (exQ q.2 q.1)=R at e1 e2
 exact aG (n:=1) (k:=1) (b:=dY) rfl (aI (aq (ah (aq rfl e1) rfl) e2))
end Own
end
section
set_option maxHeartbeats 1000000
namespace Own
open PySem L2
def DGs (qs:List Pt):List Int:=qs.map λq=>jl (exQ q.2 q.1)
def i8 (DG:List Int) (t:List Int):Int:=(t.map λk=>DG.getD k.toNat 0).sum
def qd (DG:List Int) (ps:List Prt):Int:=gD (ps.map λp=>i8 DG p.1) 0
theorem FC (qs:List Pt) (k:Nat):0<=(DGs qs).getD k 0:=by
 by_cases hk:k<(DGs qs).length
 ·rw[qaQ,qaD hk]
  obtain⟨q,_,e⟩:=qap.mp (qcU hk)
  show 0<=(DGs qs)[k]
  rw[<-e];exact AO _
 ·rw[qaQ,qdO (by lia)];exact qdm 0
theorem w6 (qs:List Pt):∀ t:List Int,0<=i8 (DGs qs) t
 |[]=>qdm 0
 |k::t=>by
  have:=w6 qs t
  have h2:=FC qs k.toNat
  unfold i8 at *
  rw[qal,qaF];lia
theorem Dt {te1 te2:Ef}{st:Sto}{DG t:List Int}{c:Option W} (h1:te1=iOp dIx (iV 1) (iV 0)) (h2:te2=iCB me (ab (aC (iLc 1 [2] (aB (iV 0)) (.nm 0) bB te1)) ak)) (ht:∀ k∈t,0<=k/\k.toNat<DG.length) (hl:t.length<=6) :
  te2 [some (.d (aj t)),c,some (.d (.lst (DG.map D.int)))] st=some (.d (.int (i8 DG t)),st):=by
 subst h1;subst h2
 have k:lcI (.nm 0) bB (iOp dIx (iV 1) (iV 0)) [none,some (.d (.lst (DG.map D.int)))] (t.map D.int) st=some ((t.map λk=>DG.getD k.toNat 0).map D.int,st):=by
  have:=lc (g:=.nm 0) (te:=iOp dIx (iV 1) (iV 0)) (env:=[none,some (.d (.lst (DG.map D.int)))]) (st:=st) (λd=>match d with|.int k=>.int (DG.getD k.toNat 0)|d=>d) (ds:=t.map D.int) λd hd=>by
   obtain⟨k,hk,rfl⟩:=qap.mp hd
   have h1:=ht k hk
   obtain⟨j,rfl⟩:=qbr h1.1
   rw[qaW]at h1
   refine⟨_,rfl,az rfl rfl ?_⟩
   show atI (DG.map D.int) (j:Int)=_
   refine iW ?_
   show _=some (D.int (DG.getD (j:Int).toNat 0))
   rw[qaZ,qaW,qaQ,qaD h1.2];rfl
  rw[this,qaL,qaL];rfl
 have hs:=xb st (t.map λk=>DG.getD k.toNat 0)
 have hz:(t.map D.int).length<=1000000:=by rw[qae];lia
 unfold i8
 generalize (t.map λk=>DG.getD k.toNat 0)=LL at k hs ⊢
 generalize LL.map D.int=LD at k hs
 generalize DG.map D.int=DD at *
 exact bn (ws:=[.d (.lst LD)]) (ah (aE (bK (cw rfl) hz k)) rfl) hs
theorem CJ {te2:Ef}{f:Ef}{env:Ev}{st:Sto}{js:List Nat}{qs:List Pt}{ps:List Prt} (hf:f env st=some (.d (.tup (ps.map au)),st)) (hemb:lz 2 js env=[none,none,some (.d (.lst ((DGs qs).map D.int)))]) (h2:te2=iCB me (ab (aC (iLc 1 [2] (aB (iV 0)) (.nm 0) bB (iOp dIx (iV 1) (iV 0)))) ak)) (hp:∀ p∈ps,Trm qs.length p.1) (hl:qs.length<=6) (lp:ps.length<=64) :
  fg (aC (iLc 2 js (aB f) (.tp [0,1]) bB te2)) (iC (.int 0)) env st=some (.d (.int (qd (DGs qs) ps)),st):=by
 have key:lcI (.tp [0,1]) bB te2 [none,none,some (.d (.lst ((DGs qs).map D.int)))] (ps.map au) st=some (ps.map λp=>.int (i8 (DGs qs) p.1),st):=gy _ λp hm=>by
  have ht:=hp p hm
  exact⟨_,rfl,Dt (te1:=iOp dIx (iV 1) (iV 0)) rfl h2 (λk hk=>⟨(ht.2 k hk).1,by unfold DGs;rw[qae];have:=ht.2 k hk;lia⟩) (qaH (gY ht) hl)⟩
 have hs:bf (ps.map λp=>.int (i8 (DGs qs) p.1))=some (ps.map λp=>i8 (DGs qs) p.1):=by
  have:=bC (ps.map λp=>i8 (DGs qs) p.1)
  rw[qaL]at this;exact this
 have hz:(ps.map au).length<=1000000:=by rw[qae];lia
 have hm:=oD (ps.map λp=>i8 (DGs qs) p.1) λn hn=>by
  obtain⟨p,_,rfl⟩:=qap.mp hn
  exact w6 qs p.1
 unfold qd
 rw[<-hemb]at key
 generalize ps.map (λp=>i8 (DGs qs) p.1)=L at hs hm ⊢
 generalize (ps.map λp=>D.int (i8 (DGs qs) p.1))=LD at key hs
 generalize ps.map au=PP at key hz hf
 have hq:aC (iLc 2 js (aB f) (.tp [0,1]) bB te2) env st=some (.d (.lst LD),st):=aE (bK (cw hf) hz key)
 have hc:iC (.int 0) env st=some (.d (.int 0),st):=rfl
 have hls:lsI st (.d (.lst LD))=some L:=hs
 simp only[fg,hq,hc,hls,hm,qad,qaB]
theorem rh {te:Ef}{st:Sto}:∀ (qs:List Pt),(∀ q∈qs,te [some (.d (PtD q))] st=some (.d (.int (jl (exQ q.2 q.1))),st))->lcI (.nm 0) bB te [none] (qs.map PtD) st=some ((DGs qs).map D.int,st)
 |[],_=>rfl
 |q::qs,h=>by
  have ih:=rh qs λx hx=>h x (qah _ hx)
  have he:=h q qak
  rw[qal]
  unfold lcI
  rw[show fV (.nm 0) (.d (PtD q)) [none]=some [some (.d (PtD q))] from rfl,qad,show bB [some (.d (PtD q))] st=some (true,st) from rfl,qad,if_pos rfl,he,qad]
  simp only[ih,qaB]
  rfl
theorem Cr {st:Sto}{qs:List Pt}{ps:List Prt} (h:li qs) (hl:qs.length<=6) (hp:∀ p∈ps,Trm qs.length p.1) (lp:ps.length<=64):fP [.d (ao "odd" ps),.d (.tup (qs.map PtD))] st=some (.d (.int (qd (DGs qs) ps)),st):=by
 have k:=rh (te:=jL) (st:=st) qs λq hq=>aq rfl (AY (st:=st) (h.1 q hq) (qaH (j0 hq) h.2))
 have hz:(qs.map PtD).length<=1000000:=by rw[qae];lia
 have e2:=CJ (te2:=jJ) (f:=iOp dIx (iV 0) (iC (.int 1))) (env:=[some (.d (ao "odd" ps)),some (.d (.tup (qs.map PtD))),some (.d (.lst ((DGs qs).map D.int)))]) (st:=st) (js:=[2]) (qs:=qs) (az rfl rfl (ix1 _ _ _ _)) rfl rfl hp hl lp
 generalize qd (DGs qs) ps=DD at e2 ⊢
 generalize (DGs qs).map D.int=GG at k e2
 generalize qs.map PtD=QQ at *
 exact aG (n:=3) (k:=2) (b:=fM) rfl (am (aJ (i:=2) (aE (bK (cw rfl) hz k))) (aI e2))
theorem t4:((qam 64).all λa=>(qam 64).all λb=>decide ((aw (b^^^a)).length<=(aw a).length+(aw b).length))=true:=by decide +kernel
theorem Ce {t u:List Int} (ht:Trm 6 t) (hu:Trm 6 u):(jn false t u).length<=t.length+u.length:=by
 have:=of_decide_eq_true (qaw.mp (qaw.mp t4 (av t) (qaK.mpr (mH (qan 6) ht))) (av u) (qaK.mpr (mH (qan 6) hu)))
 have e1:=nB ht
 have e2:=nB hu
 unfold dk at e1 e2
 have e3:(jn false t u).length=(aw (av u^^^av t)).length:=by
  unfold jn
  rw[if_neg qaq];unfold ksI;rw[qae]
 lia
theorem mk {L:List Prt} (h6:∀ p∈L,Trm 6 p.1):∀ p∈cY L,∃ q∈L,q.1=p.1:=λp hp=>by
 unfold cY dX at hp
 obtain⟨t,ht,rfl⟩:=qap.mp hp
 obtain⟨q,hq,e⟩:=qap.mp ((gv h6 t).mp (qb0.mp ht).1)
 exact⟨q,hq,e⟩
section
variable {N:Nat}{Es:List (List Prt)}{B:Int->Int}{qs:List Pt}
theorem Bx (h:jy N Es) {ps:List Prt}{M:Int}{k:Int} (hp:∀ p∈ps,Trm N p.1/\(p.1.length:Int)<=M) (hB:∀ p∈Es.getD k.toNat [],(p.1.length:Int)<=B k):∀ x∈ptS Es ps k,(x.1.length:Int)<=M+B k:=λx hx=>by
 obtain⟨y,hy,e⟩:=mk mi x hx
 rw[<-e]
 unfold bL at hy
 obtain⟨l,hl,hy⟩:=qf9.mp hy
 obtain⟨a,ha,rfl⟩:=qap.mp hl
 unfold ji at hy
 obtain⟨b,hb,rfl⟩:=qap.mp hy
 obtain⟨c,hc,ec⟩:=mk (λp hp=>(vk h k.toNat p hp).mono h.n) b hb
 obtain⟨d,hd,rfl⟩:=qap.mp hc
 have h1:=hp a ha
 have h2:=hB d hd
 have h3:=Ce (h1.1.mono h.n) (((uN h k.toNat).1 b hb).1.mono h.n)
 have h4:b.1.length=d.1.length:=by rw[<-ec]
 show ((jn false a.1 b.1).length:Int)<=_
 lia
theorem zG (h:jy N Es):∀ (t:List Int) (ps:List Prt) (M:Int),(∀ k∈t,∀ p∈Es.getD k.toNat [],(p.1.length:Int)<=B k)->(∀ p∈ps,Trm N p.1/\(p.1.length:Int)<=M)->∀ x∈t.foldl (ptS Es) ps,(x.1.length:Int)<=M+(t.map B).sum
 |[],ps,M,_,hp,x,hx=>by
  have:=(hp x hx).2
  rw[qcM,qjP];lia
 |k::t,ps,M,hB,hp,x,hx=>by
  rw[qbw]at hx
  have hi:=yB h (λp hp'=>(hp p hp').1) k
  have hl:=Bx (B:=B) h hp (hB k qak)
  have:=zG h t (ptS Es ps k) (M+B k) (λj hj=>hB j (qah _ hj)) (λp hp'=>⟨(hi.1 p hp').1,hl p hp'⟩) x hx
  rw[qal,qaF];lia
theorem yT (h:jy N Es) {D:Int}:∀ (ps acc:List Prt),eM N acc->(∀ p∈acc,(p.1.length:Int)<=D)->(∀ p∈ps,∀ x∈ptL Es (p.2*cG (lnN p.1 0 qs)) p.1,(x.1.length:Int)<=D)->∀ x∈ps.foldl (puS qs Es) acc,(x.1.length:Int)<=D
 |[],acc,_,ha,_,x,hx=>ha x hx
 |p::ps,acc,hin,ha,hp,x,hx=>by
  rw[qbw]at hx
  have hacc:∀ x∈acc,Trm N x.1:=λx hx=>(hin.1 x hx).1
  refine yT h ps (puS qs Es acc p) (z8 h hacc p) (λy hy=>?_) (λq hq=>hp q (qah _ hq)) x hx
  obtain⟨z,hz,e⟩:=mk (λx hx=>((qbe.mp hx).elim (hacc x) ((kW h _ _).1 x)).mono h.n) y hy
  rw[<-e]
  exact (qbe.mp hz).elim (ha z) (hp p qak z)
end
theorem tW:∀ (qs:List Pt) (a k:Nat),∀ p∈(bZ a qs).getD k [],(p.1.length:Int)<=(DGs qs).getD k 0
 |[],_,k,p,h=>by
  have:([]:List (List Prt)).getD k []=[]:=by cases k<;>rfl
  rw[bZ,this]at h;cases h
 |q::qs,a,0,p,h=>by
  obtain⟨x,hx,rfl⟩:=qap.mp (show p∈(exQ q.2 q.1).map (mvP (a:Int)) from h)
  show ((x.1.map (·+(a:Int))).length:Int)<=jl (exQ q.2 q.1)
  rw[qae];exact Ak hx
 |q::qs,a,k+1,p,h=>tW qs (a+q.1) k p h
theorem Bh {qs:List Pt}{ps:List Prt} (h:li qs):∀ x∈puL qs (bZ 0 qs) ps,(x.1.length:Int)<=qd (DGs qs) ps:=by
 have hE:=vK h
 have h0:=kZ (ps.map λp=>i8 (DGs qs) p.1) 0
 refine yT (qs:=qs) hE ps [] (vt _) (λp hp=>nomatch hp) λp hp x hx=>?_
 have h1:=zG (B:=λk=>(DGs qs).getD k.toNat 0) hE p.1 _ 0 (λk _ y hy=>tW qs 0 k.toNat y hy) (λy hy=>⟨sF _ y hy,by rw[qaO.mp hy];exact qdm 0⟩) x hx
 have h2:=h0.2 _ (qcr (f:=λp:Prt=>i8 (DGs qs) p.1) hp)
 unfold i8 at h2
 unfold qd
 unfold i8
 lia
theorem AW {p:Spo}{Z:Int}{n:Nat} (rest:Sto) (h:okP p Z) (hZ:Z<900000000) (hn:n<=6):∃ (f:List Int) (p':Spo),cq n f/\okP p' (Z+66)/\jg [.h 1,.d (.int n)] (spo p rest)=some (.d (aj f),spo p' rest):=by
 obtain⟨w,p1,w0,w1,h1,e1⟩:=d3 h (by lia) (m:=4) (by decide) (by decide)
 obtain⟨o,p2,o0,o1,h2,e2⟩:=d3 h1 (by lia) (m:=2) (by decide) (by decide)
 obtain⟨q,hq,q1,_,q2⟩:=CL (n:=(n:Int)) (by lia) (by lia)
 rw[qaW]at q1 q2
 have q0:0<=q:=by have:0<2^n:=qfE (by decide);lia
 obtain⟨e',s',hF,p3,f,o5,o6,rfl,rfl,h3,hv,hl⟩:=bS (g:=.nm 5) (body:=hV) (ds:=eZ 0 (2^n))
  (λi env s=>∃ (p:Spo) (l:List Int) (o5 o6:Option W),env=[some (.h 1),some (.d (.int n)),some (.d (.int w)),some (.d (.int o)),some (.h (rest.length+2)),o5,o6]/\s=spo p (rest++[.l (l.map D.int)])/\okP p (Z+2+i)/\(∀ x∈l,x=0\/x=1)/\l.length=i)
  (env:=[some (.h 1),some (.d (.int n)),some (.d (.int w)),some (.d (.int o)),some (.h (rest.length+2)),none,none]) (st:=spo p2 (rest++[.l []])) ⟨p2,[],none,none,rfl,rfl,h2.mono (by lia),(λx hx=>nomatch hx),rfl⟩ (by
  rintro i d env s hd ⟨p,l,o5,o6,rfl,rfl,hp,hv,hl⟩
  obtain⟨rfl,hi⟩:=fF hd
  obtain⟨a,r1,a0,a1,g1,f1⟩:=d3 hp (by lia) (m:=2) (by decide) (by decide)
  have ff:=f1 (rest++[.l (l.map D.int)])
  have lg1:=rW r1 rest (l.map D.int)
  obtain⟨x,hx,ex⟩:=E2 (spo r1 (rest++[.l (l.map D.int)])) (a:=a) (b:=a) (c:=o) (d:=((i:Int)%2+(i:Int) / 2+o)%2) w0 w1 (by lia) (by lia) (by lia) (by lia)
  have st1:=wT r1 rest (.l (l.map D.int)) (.l (l.map D.int++[.int x]))
  have he:iOp dIx (aC (eI (ab (iV 6) (ab (iV 6) (ab (iV 3) (ab (iOp i6 (iOp dO (iOp dO (iOp i6 (iV 5) (iC (.int 2))) (iOp kf (iV 5) (iC (.int 2)))) (iV 3)) (iC (.int 2))) ak)))))) (iV 2) [some (.h 1),some (.d (.int n)),some (.d (.int w)),some (.d (.int o)),some (.h (rest.length+2)),some (.d (.int (i:Int))),some (.d (.int a))] (spo r1 (rest++[.l (l.map D.int)]))=some (.d (.int x),spo r1 (rest++[.l (l.map D.int)])):=
   az (aE (lJ (ds:=[.int a,.int a,.int o,.int (((i:Int)%2+(i:Int) / 2+o)%2)]) (ah rfl (ah rfl (ah rfl (ah (az (x:=.d (.int ((i:Int)%2+(i:Int) / 2+o))) (az (x:=.d (.int ((i:Int)%2+(i:Int) / 2))) (az (az rfl rfl (qx _ (by decide))) (az rfl rfl (zA _ (by decide))) rfl) rfl rfl) rfl (qx _ (by decide))) rfl)))) rfl (by show 4<=1000;decide))) rfl ex
  refine⟨_,_,_,rfl,.inl (am (aJ (i:=6) (aq (ws:=[.h 1,.d (.int 2)]) rfl ff)) (CY (d:=.int x) rfl he lg1 lg1 (by rw[qae];lia))),r1,l++[x],_,_,rfl,?_,g1.mono (by push_cast;lia),?_,by rw[qa2,hl];rfl⟩
  ·rw[st1,qba];rfl
  ·intro y hy
   rcases qbe.mp hy with hy|hy
   ·exact hv y hy
   ·rw[qaO.mp hy];exact hx)
 rw[cu]at h3 hl
 refine⟨f,p3,⟨hl,hv⟩,h3.mono (by push_cast;lia),?_⟩
 have lg1:=rW p3 rest (f.map D.int)
 have htake:=uC p3 rest [.l (f.map D.int)]
 unfold aj
 generalize f.map D.int=FF at hF lg1 htake ⊢
 have hd:iO (spo p3 (rest++[.l FF])) [.h (rest.length+2)]=some (.tup FF):=by
  show (lg _ _).map _=_
  rw[lg1];rfl
 have b1:ul 2 3 (ab (aD aA (ab (iV 0) (ab (iC (.int 4)) ak))) (ab (aD aA (ab (iV 0) (ab (iC (.int 2)) ak))) ak)) [some (.h 1),some (.d (.int n)),none,none,none,none,none] (spo p rest)=some (.nx [some (.h 1),some (.d (.int n)),some (.d (.int w)),some (.d (.int o)),none,none,none] (spo p2 rest)):=Gb (ah (aq (ws:=[.h 1,.d (.int 4)]) rfl (e1 rest)) (ah (aq (ws:=[.h 1,.d (.int 2)]) rfl (e2 rest)) rfl))
 have b2:aW (.nm 4) (mB (eI ak)) [some (.h 1),some (.d (.int n)),some (.d (.int w)),some (.d (.int o)),none,none,none] (spo p2 rest)=some (.nx [some (.h 1),some (.d (.int n)),some (.d (.int w)),some (.d (.int o)),some (.h (rest.length+2)),none,none] (spo p2 (rest++[.l []]))):=rfl
 have b3:gE (ci (ab (iOp zt (iC (.int 1)) (iV 1)) ak)) (.nm 5) hV [some (.h 1),some (.d (.int n)),some (.d (.int w)),some (.d (.int o)),some (.h (rest.length+2)),none,none] (spo p2 (rest++[.l []]))=some (.nx [some (.h 1),some (.d (.int n)),some (.d (.int w)),some (.d (.int o)),some (.h (rest.length+2)),o5,o6] (spo p3 (rest++[.l FF]))):=dC (fz (az rfl rfl (hq _)) q0 (by lia) q1) hF
 have b4:bM (iCB iO (ab (iV 4) ak)) [some (.h 1),some (.d (.int n)),some (.d (.int w)),some (.d (.int o)),some (.h (rest.length+2)),o5,o6] (spo p3 (rest++[.l FF]))=some (.rt (.d (.tup FF)) (spo p3 (rest++[.l FF]))):=aI (bn (ws:=[.h (rest.length+2)]) rfl hd)
 have hqq:=gq (n:=7) (k:=2) (b:=gL) (ws:=[.h 1,.d (.int n)]) (st:=spo p rest) (s:=spo p3 (rest++[.l FF])) (x:=.tup FF) rfl (am b1 (am b2 (am b3 b4)))
 rw[wq,htake]at hqq
 exact hqq
theorem FL (st:Sto) {i:Int} (h0:0<=i) (h:i<=1000):∃ x:Str,lA st [.d (.int i)]=some (.str x):=by
 have e:lA st [.d (.int i)]=(if i.natAbs.log2<1920 then some (D.str (toString i)) else none):=rfl
 rw[if_pos (of_decide_eq_true (xf (by exact qel (show i.natAbs<=1000 by lia) (by decide))))]at e
 exact⟨_,e⟩
theorem xa {DG:List Int} (h:∀ k:Nat,DG.getD k 0<=6):∀ t:List Int,i8 DG t<=6*(t.length:Int)
 |[]=>qdm 0
 |k::t=>by
  have:=xa h t
  have h2:=h k.toNat
  unfold i8 at *
  rw[qal,qaF,qas];push_cast;lia
theorem Da {qs:List Pt}{ps:List Prt} (h:li qs) (hl:qs.length<=6) (hp:∀ p∈ps,Trm qs.length p.1):0<=qd (DGs qs) ps/\qd (DGs qs) ps<=1000:=by
 have hd:∀ k:Nat,(DGs qs).getD k 0<=6:=λk=>by
  by_cases hk:k<(DGs qs).length
  ·rw[qaQ,qaD hk]
   obtain⟨q,hq,e⟩:=qap.mp (qcU hk)
   show (DGs qs)[k]<=6
   rw[<-e]
   have hn:q.1<=6:=qaH (j0 hq) h.2
   exact E5 λp hp=>((mz (f:=q.2) hn).1 p hp).1.mono hn
  ·rw[qaQ,qdO (by lia)];decide
 refine⟨(kZ _ 0).1,nP _ _ (by decide) λn hn=>?_⟩
 obtain⟨p,hpm,rfl⟩:=qap.mp hn
 have:=xa hd p.1
 have h2:=gY (hp p hpm)
 lia
theorem C8 {st:Sto}{env:Ev}{f:Ef}{ps:List Prt} (hf:f env st=some (.d (.tup (ps.map au)),st)) (hemb:lz 2 [] env=[none,none]) (lp:ps.length<=64):fg (aC (iLc 2 [] (aB f) (.tp [0,1]) bB nJ)) (iC (.int 0)) env st=some (.d (.int (jl ps)),st):=by
 have key:lcI (.tp [0,1]) bB nJ [none,none] (ps.map au) st=some (ps.map λp=>.int (p.1.length:Int),st):=gy _ λp hm=>by
  refine⟨_,rfl,bn (ah rfl rfl) ?_⟩
  show some (D.int ((p.1.map D.int).length:Nat))=_
  rw[qae]
 have hs:bf (ps.map λp=>.int (p.1.length:Int))=some (ps.map λp=>(p.1.length:Int)):=by
  have:=bC (ps.map λp=>(p.1.length:Int))
  rw[qaL]at this;exact this
 have hz:(ps.map au).length<=1000000:=by rw[qae];lia
 have hm:=oD (ps.map λp=>(p.1.length:Int)) λn hn=>by
  obtain⟨p,_,rfl⟩:=qap.mp hn
  lia
 unfold jl
 rw[<-hemb]at key
 generalize ps.map (λp=>(p.1.length:Int))=L at hs hm ⊢
 generalize (ps.map λp=>D.int (p.1.length:Int))=LD at key hs
 generalize ps.map au=PP at key hz hf
 have hq:aC (iLc 2 [] (aB f) (.tp [0,1]) bB nJ) env st=some (.d (.lst LD),st):=aE (bK (cw hf) hz key)
 have hc:iC (.int 0) env st=some (.d (.int 0),st):=rfl
 have hls:lsI st (.d (.lst LD))=some L:=hs
 simp only[fg,hq,hc,hls,hm,qad,qaB]
theorem yD {n:Nat}:∀ {l:List Nat},n∈l->n<=l.sum
 |x::l,h=>by
  rw[qaF]
  rcases qaC.mp h with rfl|h
  ·lia
  ·have:=yD h;lia
theorem Cl {st:Sto}{a0 a1 a2 a3 x7:Option W}{qs:List Pt}{ps:List Prt} (h:li qs) (hl:qs.length<=6) (hp:∀ p∈ps,Trm qs.length p.1) (lp:ps.length<=64) :
  ∃ y7,wL [a0,a1,a2,a3,some (.d (ao "odd" ps)),some (.d (.tup (qs.map PtD))),some (.d (.lst ((DGs qs).map D.int))),x7] st=some (.nx [a0,a1,a2,a3,some (.d (ao "odd" ps)),some (.d (.tup (qs.map PtD))),some (.d (.lst ((DGs qs).map D.int))),y7] st):=by
 have e1:=CJ (te2:=wl) (f:=iOp dIx (iV 4) (iC (.int 1))) (env:=[a0,a1,a2,a3,some (.d (ao "odd" ps)),some (.d (.tup (qs.map PtD))),some (.d (.lst ((DGs qs).map D.int))),x7]) (st:=st) (js:=[6]) (qs:=qs) (az rfl rfl (ix1 _ _ _ _)) rfl rfl hp hl lp
 have e2:=Cr (st:=st) h hl hp lp
 have e3:=zw (st:=st) h hl hp lp
 obtain⟨b0,b1⟩:=Da h hl hp
 obtain⟨x,ex⟩:=FL st b0 b1
 have hin:eM (tot qs) (puL qs (bZ 0 qs) ps):=(vF (qs:=qs) (vK h) ps [] (vt _)).1
 have lr:=hin.len h.2
 have hlen:=Bh (ps:=ps) h
 have hdg:jl (puL qs (bZ 0 qs) ps)<=qd (DGs qs) ps:=nP _ _ b0 λn hn=>by
  obtain⟨p,hpm,rfl⟩:=qap.mp hn
  exact hlen p hpm
 generalize qd (DGs qs) ps=DD at *
 have e4:=C8 (st:=st) (f:=iOp dIx (aD iH (ab (iV 4) (ab (iV 5) ak))) (iC (.int 1))) (env:=[a0,a1,a2,a3,some (.d (ao "odd" ps)),some (.d (.tup (qs.map PtD))),some (.d (.lst ((DGs qs).map D.int))),some (.d (.int DD))]) (az (aq (ws:=[.d (ao "odd" ps),.d (.tup (qs.map PtD))]) rfl e3) rfl (ix1 _ _ _ _)) rfl lr
 generalize jl (puL qs (bZ 0 qs) ps)=LD at *
 generalize ao "odd" ps=P0 at *
 generalize qs.map PtD=QQ at *
 generalize (DGs qs).map D.int=GG at *
 have s1:cm dNe (iCB lA (ab (aD fP (ab (iV 4) (ab (iV 5) ak))) ak)) (iCB lA (ab (iV 7) ak)) [a0,a1,a2,a3,some (.d P0),some (.d (.tup QQ)),some (.d (.lst GG)),some (.d (.int DD))] st=some (false,st):=aX (bn (ws:=[.d (.int DD)]) (ah (aq (ws:=[.d P0,.d (.tup QQ)]) rfl e2) rfl) ex) (bn (ws:=[.d (.int DD)]) rfl ex) (by rw[DA,beq_self_eq_true];rfl)
 exact⟨_,am (aJ (i:=7) e1) (am (im s1 rfl) (im (aX e4 rfl (CU _ (decide_eq_false (by lia)))) rfl))⟩
theorem zT (ns:List Int) (hl:ns.length<=63):∃ st,tD [.d (.scr ns)] []=some (.d (.bl true),st):=by
 obtain⟨p,hp,e1⟩:=AT ns hl
 obtain⟨e',s',hF,p',x2,x3,x4,x5,x6,x7,rfl,rfl,hp'⟩:=bS (g:=.nm 2) (body:=wm) (ds:=eZ 0 3)
  (λi env s=>∃ p x2 x3 x4 x5 x6 x7,env=[some (.d (.scr ns)),some (.h 1),x2,x3,x4,x5,x6,x7]/\s=spo p []/\okP p (10000*(i:Int)))
  (env:=[some (.d (.scr ns)),some (.h 1),none,none,none,none,none,none]) (st:=spo p []) ⟨p,_,_,_,_,_,_,rfl,rfl,by simpa using hp⟩ (by
  rintro i d env s hd ⟨p,x2,x3,x4,x5,x6,x7,rfl,rfl,hp⟩
  obtain⟨rfl,hi⟩:=fF hd
  obtain⟨sh,p1,hs6,hl6,h1,f1⟩:=yZ [] hp (by lia)
  obtain⟨ps,p2,dp,h2,f2⟩:=BA (kd:="odd") [] h1 (by lia) hl6
  obtain⟨ys,s',hL,p3,qs,rfl,rfl,h3,hv,hm⟩:=nH (g:=.nm 0) (tt:=bB) (te:=nA) (env:=[none,some (.h 1)]) (ds:=iG sh)
   (λj ys s=>∃ (p:Spo) (qs:List Pt),ys=qs.map PtD/\s=spo p []/\okP p (10000*(i:Int)+202+130*j)/\(∀ q ∈ qs,cq q.1 q.2)/\qs.map qa6=sh.take j) (st:=spo p2 []) (ys0:=[]) ⟨p2,[],rfl,rfl,h2.mono (by lia),(λx hx=>nomatch hx),rfl⟩ (by
   rintro j d ys s hd ⟨p,qs,rfl,rfl,hp,hv,hm⟩
   unfold iG at hd
   rw[qaZ,qaf]at hd
   obtain⟨n,hn,rfl⟩:=hd
   have hj:=(qay.mp hn).1
   have hn6:n<=6:=by
    have:n<=sh.sum:=yD (qbu hn)
    lia
   obtain⟨f,p',ho,hp',ef⟩:=AW [] hp (by lia) hn6
   have he:nA [some (.d (.int (n:Int))),some (.h 1)] (spo p [])=some (.d (aj f),spo p' []):=aq (ws:=[.h 1,.d (.int (n:Int))]) rfl ef
   refine⟨_,rfl,.inl ⟨_,_,_,rfl,he,p',qs++[(n,f)],by rw[qba];rfl,rfl,hp'.mono (by push_cast;lia),λz hz=>?_,?_⟩⟩
   ·rcases qbe.mp hz with hz|hz
    ·exact hv z hz
    ·rw[qaO.mp hz];exact ho
   ·rw[qba,hm,qbK,hn];rfl)
  have hcl:(iG sh).length=sh.length:=by unfold iG;rw[qae]
  rw[hcl]at h3 hm
  rw[qbv]at hm
  have hqt:tot qs=sh.sum:=by unfold tot;rw[hm]
  have hql:qs.length=sh.length:=by rw[<-hm,qae]
  have hOk:li qs:=⟨hv,by lia⟩
  have hpt:∀ p∈ps,Trm qs.length p.1:=λp hp=>hql ▸ (dp.t.1 p hp).1
  have lp:=dp.t.len hl6
  have kd:=rh (te:=rO) (st:=spo p3 []) qs λq hq=>aq rfl (yk (st:=spo p3 []) (hv q hq) (qaH (j0 hq) hOk.2))
  obtain⟨y7,f3⟩:=Cl (st:=spo p3 []) (a0:=some (.d (.scr ns))) (a1:=some (.h 1)) (a2:=some (.d (.int (i:Int)))) (a3:=some (.d (.lst (iG sh)))) (x7:=x7) hOk (by lia) hpt lp
  have hlen:eB (spo p1 []) [.d (.lst (iG sh))]=some (.int (sh.length:Int)):=by
   show some (D.int ((iG sh).length:Nat))=_
   rw[hcl]
  have hz:(iG sh).length<=1000000:=by lia
  have hzq:(qs.map PtD).length<=1000000:=by rw[qae];lia
  generalize ao "odd" ps=P0 at *
  generalize (DGs qs).map D.int=GG at *
  generalize qs.map PtD=QQ at *
  generalize iG sh=SS at *
  have s1:aW (.nm 3) (aD fU (ab (iV 1) ak)) [some (.d (.scr ns)),some (.h 1),some (.d (.int (i:Int))),x3,x4,x5,x6,x7] (spo p [])=some (.nx [some (.d (.scr ns)),some (.h 1),some (.d (.int (i:Int))),some (.d (.lst SS)),x4,x5,x6,x7] (spo p1 [])):=aJ (aq (ws:=[.h 1]) rfl f1)
  have s2:aW (.nm 4) (aD gJ (ab (iV 1) (ab (iC (.str "odd")) (ab (iCB eB (ab (iV 3) ak)) ak)))) [some (.d (.scr ns)),some (.h 1),some (.d (.int (i:Int))),some (.d (.lst SS)),x4,x5,x6,x7] (spo p1 [])=some (.nx [some (.d (.scr ns)),some (.h 1),some (.d (.int (i:Int))),some (.d (.lst SS)),some (.d P0),x5,x6,x7] (spo p2 [])):=aJ (aq (ws:=[.h 1,.d (.str "odd"),.d (.int (sh.length:Int))]) (ah rfl (ah rfl (ah (bn (ws:=[.d (.lst SS)]) rfl hlen) rfl))) f2)
  have s3:aW (.nm 5) (iCB iO (ab (aC (iLc 1 [1] (aB (iV 3)) (.nm 0) bB nA)) ak)) [some (.d (.scr ns)),some (.h 1),some (.d (.int (i:Int))),some (.d (.lst SS)),some (.d P0),x5,x6,x7] (spo p2 [])=some (.nx [some (.d (.scr ns)),some (.h 1),some (.d (.int (i:Int))),some (.d (.lst SS)),some (.d P0),some (.d (.tup QQ)),x6,x7] (spo p3 [])):=aJ (bn (ws:=[.d (.lst QQ)]) (ah (aE (bK (k:=1) (js:=[1]) (fY rfl) hz hL)) rfl) rfl)
  have s4:aW (.nm 6) (aC (iLc 1 [] (aB (iV 5)) (.nm 0) bB rO)) [some (.d (.scr ns)),some (.h 1),some (.d (.int (i:Int))),some (.d (.lst SS)),some (.d P0),some (.d (.tup QQ)),x6,x7] (spo p3 [])=some (.nx [some (.d (.scr ns)),some (.h 1),some (.d (.int (i:Int))),some (.d (.lst SS)),some (.d P0),some (.d (.tup QQ)),some (.d (.lst GG)),x7] (spo p3 [])):=aJ (aE (bK (k:=1) (js:=[]) (cw rfl) hzq kd))
  exact⟨_,_,_,rfl,.inl (am s1 (am s2 (am s3 (am s4 f3)))),p3,_,_,_,_,_,_,rfl,rfl,h3.mono (by push_cast;lia)⟩)
 exact⟨_,gq (n:=8) (k:=1) (b:=wN) rfl (am (aJ (aq rfl e1)) (am (dC (fz (m:=3) rfl (by decide) (by decide) rfl) hF) (aI rfl)))⟩
end Own
end
namespace Own
open PySem L2
theorem mD {us:List Value} (h:us.length=1):∃ a0,us=[a0]:=List.length_eq_one_iff.mp h
theorem Bu {us:List Value}{n:Nat} (h:us.length=n+1):∃ a t,us=a::t/\t.length=n:=by
 cases us with
 |nil=>cases h
 |cons a t=>exact⟨a,t,rfl,Nat.succ.inj h⟩
theorem ka {us:List Value} (h:us.length=2):∃ a0 a1,us=[a0,a1]:=by
 obtain⟨a,t,rfl,k⟩:=Bu h
 obtain⟨b,rfl⟩:=mD k
 exact⟨a,b,rfl⟩
theorem Ay {us:List Value} (h:us.length=3):∃ a0 a1 a2,us=[a0,a1,a2]:=by
 obtain⟨a,t,rfl,k⟩:=Bu h
 obtain⟨b,c,rfl⟩:=ka k
 exact⟨a,b,c,rfl⟩
theorem EI {us:List Value} (h:us.length=4):∃ a0 a1 a2 a3,us=[a0,a1,a2,a3]:=by
 obtain⟨a,t,rfl,k⟩:=Bu h
 obtain⟨b,c,d,rfl⟩:=Ay k
 exact⟨a,b,c,d,rfl⟩
theorem GN {us:List Value} (h:us.length=5):∃ a0 a1 a2 a3 a4,us=[a0,a1,a2,a3,a4]:=by
 obtain⟨a,t,rfl,k⟩:=Bu h
 obtain⟨b,c,d,e,rfl⟩:=EI k
 exact⟨a,b,c,d,e,rfl⟩
theorem txt_mk {K:qai}{h:Heap}{mg:Str->Option Value} (X:K.In h) (G:h.Ns qaE mg)
  {f0:Addr}{od0 an0:Option Addr}{sl0:Array (Option Value)}{oc0 kV0 dc0 pm0 cd0 ct0:Value}
  (a0:qaN K qaE "power_of_two" = some (some (.ref f0))) (l0:K.lookup f0=some ⟨oc0,od0,.func (qaU "power_of_two" "power_of_two" (aK bT) (aF bT) (ae bT) .none kV0 dc0 pm0 an0 cd0 ct0),sl0⟩) (c0:qaM K cd0 "power_of_two" = true) (k0:qaI K (.ref f0)=true)
  {f1:Addr}{od1 an1:Option Addr}{sl1:Array (Option Value)}{oc1 kV1 dc1 pm1 cd1 ct1:Value}
  (a1:qaN K qaE "on_in" = some (some (.ref f1))) (l1:K.lookup f1=some ⟨oc1,od1,.func (qaU "on_in" "on_in" (aK iX) (aF iX) (ae iX) .none kV1 dc1 pm1 an1 cd1 ct1),sl1⟩) (c1:qaM K cd1 "on_in" = true) (k1:qaI K (.ref f1)=true)
  {f2:Addr}{od2 an2:Option Addr}{sl2:Array (Option Value)}{oc2 kV2 dc2 pm2 cd2 ct2:Value}
  (a2:qaN K qaE "multiplied" = some (some (.ref f2))) (l2:K.lookup f2=some ⟨oc2,od2,.func (qaU "multiplied" "multiplied" (aK cD) (aF cD) (ae cD) .none kV2 dc2 pm2 an2 cd2 ct2),sl2⟩) (c2:qaM K cd2 "multiplied" = true) (k2:qaI K (.ref f2)=true)
  {f3:Addr}{od3 an3:Option Addr}{sl3:Array (Option Value)}{oc3 kV3 dc3 pm3 cd3 ct3:Value}
  (a3:qaN K qaE "switches_of" = some (some (.ref f3))) (l3:K.lookup f3=some ⟨oc3,od3,.func (qaU "switches_of" "switches_of" (aK ck) (aF ck) (ae ck) .none kV3 dc3 pm3 an3 cd3 ct3),sl3⟩) (c3:qaM K cd3 "switches_of" = true) (k3:qaI K (.ref f3)=true)
  {f4:Addr}{od4 an4:Option Addr}{sl4:Array (Option Value)}{oc4 kV4 dc4 pm4 cd4 ct4:Value}
  (a4:qaN K qaE "told_rows" = some (some (.ref f4))) (l4:K.lookup f4=some ⟨oc4,od4,.func (qaU "told_rows" "told_rows" (aK cA) (aF cA) (ae cA) .none kV4 dc4 pm4 an4 cd4 ct4),sl4⟩) (c4:qaM K cd4 "told_rows" = true) (k4:qaI K (.ref f4)=true)
  {f5:Addr}{od5 an5:Option Addr}{sl5:Array (Option Value)}{oc5 kV5 dc5 pm5 cd5 ct5:Value}
  (a5:qaN K qaE "sign_at" = some (some (.ref f5))) (l5:K.lookup f5=some ⟨oc5,od5,.func (qaU "sign_at" "sign_at" (aK eE) (aF eE) (ae eE) .none kV5 dc5 pm5 an5 cd5 ct5),sl5⟩) (c5:qaM K cd5 "sign_at" = true) (k5:qaI K (.ref f5)=true)
  {f6:Addr}{od6 an6:Option Addr}{sl6:Array (Option Value)}{oc6 kV6 dc6 pm6 cd6 ct6:Value}
  (a6:qaN K qaE "terms_to" = some (some (.ref f6))) (l6:K.lookup f6=some ⟨oc6,od6,.func (qaU "terms_to" "terms_to" (aK cM) (aF cM) (ae cM) .none kV6 dc6 pm6 an6 cd6 ct6),sl6⟩) (c6:qaM K cd6 "terms_to" = true) (k6:qaI K (.ref f6)=true)
  {f7:Addr}{od7 an7:Option Addr}{sl7:Array (Option Value)}{oc7 kV7 dc7 pm7 cd7 ct7:Value}
  (a7:qaN K qaE "value_of" = some (some (.ref f7))) (l7:K.lookup f7=some ⟨oc7,od7,.func (qaU "value_of" "value_of" (aK cU) (aF cU) (ae cU) .none kV7 dc7 pm7 an7 cd7 ct7),sl7⟩) (c7:qaM K cd7 "value_of" = true) (k7:qaI K (.ref f7)=true)
  {f8:Addr}{od8 an8:Option Addr}{sl8:Array (Option Value)}{oc8 kV8 dc8 pm8 cd8 ct8:Value}
  (a8:qaN K qaE "poly_from" = some (some (.ref f8))) (l8:K.lookup f8=some ⟨oc8,od8,.func (qaU "poly_from" "poly_from" (aK cy) (aF cy) (ae cy) .none kV8 dc8 pm8 an8 cd8 ct8),sl8⟩) (c8:qaM K cd8 "poly_from" = true) (k8:qaI K (.ref f8)=true)
  {f9:Addr}{od9 an9:Option Addr}{sl9:Array (Option Value)}{oc9 kV9 dc9 pm9 cd9 ct9:Value}
  (a9:qaN K qaE "degree_of" = some (some (.ref f9))) (l9:K.lookup f9=some ⟨oc9,od9,.func (qaU "degree_of" "degree_of" (aK cz) (aF cz) (ae cz) .none kV9 dc9 pm9 an9 cd9 ct9),sl9⟩) (c9:qaM K cd9 "degree_of" = true) (k9:qaI K (.ref f9)=true)
  {f10:Addr}{od10 an10:Option Addr}{sl10:Array (Option Value)}{oc10 kV10 dc10 pm10 cd10 ct10:Value}
  (a10:qaN K qaE "gathered" = some (some (.ref f10))) (l10:K.lookup f10=some ⟨oc10,od10,.func (qaU "gathered" "gathered" (aK dD) (aF dD) (ae dD) .none kV10 dc10 pm10 an10 cd10 ct10),sl10⟩) (c10:qaM K cd10 "gathered" = true) (k10:qaI K (.ref f10)=true)
  {f11:Addr}{od11 an11:Option Addr}{sl11:Array (Option Value)}{oc11 kV11 dc11 pm11 cd11 ct11:Value}
  (a11:qaN K qaE "added" = some (some (.ref f11))) (l11:K.lookup f11=some ⟨oc11,od11,.func (qaU "added" "added" (aK iR) (aF iR) (ae iR) .none kV11 dc11 pm11 an11 cd11 ct11),sl11⟩) (c11:qaM K cd11 "added" = true) (k11:qaI K (.ref f11)=true)
  {f12:Addr}{od12 an12:Option Addr}{sl12:Array (Option Value)}{oc12 kV12 dc12 pm12 cd12 ct12:Value}
  (a12:qaN K qaE "joined" = some (some (.ref f12))) (l12:K.lookup f12=some ⟨oc12,od12,.func (qaU "joined" "joined" (aK gn) (aF gn) (ae gn) .none kV12 dc12 pm12 an12 cd12 ct12),sl12⟩) (c12:qaM K cd12 "joined" = true) (k12:qaI K (.ref f12)=true)
  {f13:Addr}{od13 an13:Option Addr}{sl13:Array (Option Value)}{oc13 kV13 dc13 pm13 cd13 ct13:Value}
  (a13:qaN K qaE "product_of" = some (some (.ref f13))) (l13:K.lookup f13=some ⟨oc13,od13,.func (qaU "product_of" "product_of" (aK cf) (aF cf) (ae cf) .none kV13 dc13 pm13 an13 cd13 ct13),sl13⟩) (c13:qaM K cd13 "product_of" = true) (k13:qaI K (.ref f13)=true)
  {f14:Addr}{od14 an14:Option Addr}{sl14:Array (Option Value)}{oc14 kV14 dc14 pm14 cd14 ct14:Value}
  (a14:qaN K qaE "often" = some (some (.ref f14))) (l14:K.lookup f14=some ⟨oc14,od14,.func (qaU "often" "often" (aK gN) (aF gN) (ae gN) .none kV14 dc14 pm14 an14 cd14 ct14),sl14⟩) (c14:qaM K cd14 "often" = true) (k14:qaI K (.ref f14)=true)
  {f15:Addr}{od15 an15:Option Addr}{sl15:Array (Option Value)}{oc15 kV15 dc15 pm15 cd15 ct15:Value}
  (a15:qaN K qaE "moved" = some (some (.ref f15))) (l15:K.lookup f15=some ⟨oc15,od15,.func (qaU "moved" "moved" (aK fJ) (aF fJ) (ae fJ) .none kV15 dc15 pm15 an15 cd15 ct15),sl15⟩) (c15:qaM K cd15 "moved" = true) (k15:qaI K (.ref f15)=true)
  {f16:Addr}{od16 an16:Option Addr}{sl16:Array (Option Value)}{oc16 kV16 dc16 pm16 cd16 ct16:Value}
  (a16:qaN K qaE "signed_value" = some (some (.ref f16))) (l16:K.lookup f16=some ⟨oc16,od16,.func (qaU "signed_value" "signed_value" (aK bW) (aF bW) (ae bW) .none kV16 dc16 pm16 an16 cd16 ct16),sl16⟩) (c16:qaM K cd16 "signed_value" = true) (k16:qaI K (.ref f16)=true)
  {f17:Addr}{od17 an17:Option Addr}{sl17:Array (Option Value)}{oc17 kV17 dc17 pm17 cd17 ct17:Value}
  (a17:qaN K qaE "sum_by" = some (some (.ref f17))) (l17:K.lookup f17=some ⟨oc17,od17,.func (qaU "sum_by" "sum_by" (aK eV) (aF eV) (ae eV) .none kV17 dc17 pm17 an17 cd17 ct17),sl17⟩) (c17:qaM K cd17 "sum_by" = true) (k17:qaI K (.ref f17)=true)
  {f18:Addr}{od18 an18:Option Addr}{sl18:Array (Option Value)}{oc18 kV18 dc18 pm18 cd18 ct18:Value}
  (a18:qaN K qaE "exact_by_odd" = some (some (.ref f18))) (l18:K.lookup f18=some ⟨oc18,od18,.func (qaU "exact_by_odd" "exact_by_odd" (aK bV) (aF bV) (ae bV) .none kV18 dc18 pm18 an18 cd18 ct18),sl18⟩) (c18:qaM K cd18 "exact_by_odd" = true) (k18:qaI K (.ref f18)=true)
  {f19:Addr}{od19 an19:Option Addr}{sl19:Array (Option Value)}{oc19 kV19 dc19 pm19 cd19 ct19:Value}
  (a19:qaN K qaE "exact_of" = some (some (.ref f19))) (l19:K.lookup f19=some ⟨oc19,od19,.func (qaU "exact_of" "exact_of" (aK dF) (aF dF) (ae dF) .none kV19 dc19 pm19 an19 cd19 ct19),sl19⟩) (c19:qaM K cd19 "exact_of" = true) (k19:qaI K (.ref f19)=true)
  {f20:Addr}{od20 an20:Option Addr}{sl20:Array (Option Value)}{oc20 kV20 dc20 pm20 cd20 ct20:Value}
  (a20:qaN K qaE "exact_degree" = some (some (.ref f20))) (l20:K.lookup f20=some ⟨oc20,od20,.func (qaU "exact_degree" "exact_degree" (aK bU) (aF bU) (ae bU) .none kV20 dc20 pm20 an20 cd20 ct20),sl20⟩) (c20:qaM K cd20 "exact_degree" = true) (k20:qaI K (.ref f20)=true)
  {f21:Addr}{od21 an21:Option Addr}{sl21:Array (Option Value)}{oc21 kV21 dc21 pm21 cd21 ct21:Value}
  (a21:qaN K qaE "exacts_of" = some (some (.ref f21))) (l21:K.lookup f21=some ⟨oc21,od21,.func (qaU "exacts_of" "exacts_of" (aK cP) (aF cP) (ae cP) .none kV21 dc21 pm21 an21 cd21 ct21),sl21⟩) (c21:qaM K cd21 "exacts_of" = true) (k21:qaI K (.ref f21)=true)
  {f22:Addr}{od22 an22:Option Addr}{sl22:Array (Option Value)}{oc22 kV22 dc22 pm22 cd22 ct22:Value}
  (a22:qaN K qaE "put_term" = some (some (.ref f22))) (l22:K.lookup f22=some ⟨oc22,od22,.func (qaU "put_term" "put_term" (aK cK) (aF cK) (ae cK) .none kV22 dc22 pm22 an22 cd22 ct22),sl22⟩) (c22:qaM K cd22 "put_term" = true) (k22:qaI K (.ref f22)=true)
  {f23:Addr}{od23 an23:Option Addr}{sl23:Array (Option Value)}{oc23 kV23 dc23 pm23 cd23 ct23:Value}
  (a23:qaN K qaE "put_poly" = some (some (.ref f23))) (l23:K.lookup f23=some ⟨oc23,od23,.func (qaU "put_poly" "put_poly" (aK dG) (aF dG) (ae dG) .none kV23 dc23 pm23 an23 cd23 ct23),sl23⟩) (c23:qaM K cd23 "put_poly" = true) (k23:qaI K (.ref f23)=true)
  {f24:Addr}{od24 an24:Option Addr}{sl24:Array (Option Value)}{oc24 kV24 dc24 pm24 cd24 ct24:Value}
  (a24:qaN K qaE "put_degree" = some (some (.ref f24))) (l24:K.lookup f24=some ⟨oc24,od24,.func (qaU "put_degree" "put_degree" (aK bG) (aF bG) (ae bG) .none kV24 dc24 pm24 an24 cd24 ct24),sl24⟩) (c24:qaM K cd24 "put_degree" = true) (k24:qaI K (.ref f24)=true)
  {f25:Addr}{od25 an25:Option Addr}{sl25:Array (Option Value)}{oc25 kV25 dc25 pm25 cd25 ct25:Value}
  (a25:qaN K qaE "_law_spool" = some (some (.ref f25))) (l25:K.lookup f25=some ⟨oc25,od25,.func (qaU "_law_spool" "_law_spool" (aK ce) (aF ce) (ae ce) .none kV25 dc25 pm25 an25 cd25 ct25),sl25⟩) (c25:qaM K cd25 "_law_spool" = true) (k25:qaI K (.ref f25)=true)
  {f26:Addr}{od26 an26:Option Addr}{sl26:Array (Option Value)}{oc26 kV26 dc26 pm26 cd26 ct26:Value}
  (a26:qaN K qaE "_law_take" = some (some (.ref f26))) (l26:K.lookup f26=some ⟨oc26,od26,.func (qaU "_law_take" "_law_take" (aK cV) (aF cV) (ae cV) .none kV26 dc26 pm26 an26 cd26 ct26),sl26⟩) (c26:qaM K cd26 "_law_take" = true) (k26:qaI K (.ref f26)=true)
  {f27:Addr}{od27 an27:Option Addr}{sl27:Array (Option Value)}{oc27 kV27 dc27 pm27 cd27 ct27:Value}
  (a27:qaN K qaE "_law_terms" = some (some (.ref f27))) (l27:K.lookup f27=some ⟨oc27,od27,.func (qaU "_law_terms" "_law_terms" (aK bF) (aF bF) (ae bF) .none kV27 dc27 pm27 an27 cd27 ct27),sl27⟩) (c27:qaM K cd27 "_law_terms" = true) (k27:qaI K (.ref f27)=true)
  {f28:Addr}{od28 an28:Option Addr}{sl28:Array (Option Value)}{oc28 kV28 dc28 pm28 cd28 ct28:Value}
  (a28:qaN K qaE "_law_poly" = some (some (.ref f28))) (l28:K.lookup f28=some ⟨oc28,od28,.func (qaU "_law_poly" "_law_poly" (aK cS) (aF cS) (ae cS) .none kV28 dc28 pm28 an28 cd28 ct28),sl28⟩) (c28:qaM K cd28 "_law_poly" = true) (k28:qaI K (.ref f28)=true)
  {f29:Addr}{od29 an29:Option Addr}{sl29:Array (Option Value)}{oc29 kV29 dc29 pm29 cd29 ct29:Value}
  (a29:qaN K qaE "_law_full" = some (some (.ref f29))) (l29:K.lookup f29=some ⟨oc29,od29,.func (qaU "_law_full" "_law_full" (aK cR) (aF cR) (ae cR) .none kV29 dc29 pm29 an29 cd29 ct29),sl29⟩) (c29:qaM K cd29 "_law_full" = true) (k29:qaI K (.ref f29)=true)
  {f30:Addr}{od30 an30:Option Addr}{sl30:Array (Option Value)}{oc30 kV30 dc30 pm30 cd30 ct30:Value}
  (a30:qaN K qaE "_law_shape" = some (some (.ref f30))) (l30:K.lookup f30=some ⟨oc30,od30,.func (qaU "_law_shape" "_law_shape" (aK bQ) (aF bQ) (ae bQ) .none kV30 dc30 pm30 an30 cd30 ct30),sl30⟩) (c30:qaM K cd30 "_law_shape" = true) (k30:qaI K (.ref f30)=true)
  {f31:Addr}{od31 an31:Option Addr}{sl31:Array (Option Value)}{oc31 kV31 dc31 pm31 cd31 ct31:Value}
  (a31:qaN K qaE "_law_exact" = some (some (.ref f31))) (l31:K.lookup f31=some ⟨oc31,od31,.func (qaU "_law_exact" "_law_exact" (aK bA) (aF bA) (ae bA) .none kV31 dc31 pm31 an31 cd31 ct31),sl31⟩) (c31:qaM K cd31 "_law_exact" = true) (k31:qaI K (.ref f31)=true)
  {f32:Addr}{od32 an32:Option Addr}{sl32:Array (Option Value)}{oc32 kV32 dc32 pm32 cd32 ct32:Value}
  (a32:qaN K qaE "law" = some (some (.ref f32))) (l32:K.lookup f32=some ⟨oc32,od32,.func (qaU "law" "law" (aK i3) (aF i3) (ae i3) .none kV32 dc32 pm32 an32 cd32 ct32),sl32⟩) (c32:qaM K cd32 "law" = true) (k32:qaI K (.ref f32)=true)
  (z_abs:qaN K qaE "abs" = some none)
  (z_enumerate:qaN K qaE "enumerate" = some none)
  (z_len:qaN K qaE "len" = some none)
  (z_max:qaN K qaE "max" = some none)
  (z_range:qaN K qaE "range" = some none)
  (z_repr:qaN K qaE "repr" = some none)
  (z_set:qaN K qaE "set" = some none)
  (z_sorted:qaN K qaE "sorted" = some none)
  (z_sum:qaN K qaE "sum" = some none)
  (z_tuple:qaN K qaE "tuple" = some none)
  : ∃ t,Txt K mg t/\t.f32=f32:=by
 have F0:=bm (st:=bT) l0 c0 k0
 have F1:=bm (st:=iX) l1 c1 k1
 have F2:=bm (st:=cD) l2 c2 k2
 have F3:=bm (st:=ck) l3 c3 k3
 have F4:=bm (st:=cA) l4 c4 k4
 have F5:=bm (st:=eE) l5 c5 k5
 have F6:=bm (st:=cM) l6 c6 k6
 have F7:=bm (st:=cU) l7 c7 k7
 have F8:=bm (st:=cy) l8 c8 k8
 have F9:=bm (st:=cz) l9 c9 k9
 have F10:=bm (st:=dD) l10 c10 k10
 have F11:=bm (st:=iR) l11 c11 k11
 have F12:=bm (st:=gn) l12 c12 k12
 have F13:=bm (st:=cf) l13 c13 k13
 have F14:=bm (st:=gN) l14 c14 k14
 have F15:=bm (st:=fJ) l15 c15 k15
 have F16:=bm (st:=bW) l16 c16 k16
 have F17:=bm (st:=eV) l17 c17 k17
 have F18:=bm (st:=bV) l18 c18 k18
 have F19:=bm (st:=dF) l19 c19 k19
 have F20:=bm (st:=bU) l20 c20 k20
 have F21:=bm (st:=cP) l21 c21 k21
 have F22:=bm (st:=cK) l22 c22 k22
 have F23:=bm (st:=dG) l23 c23 k23
 have F24:=bm (st:=bG) l24 c24 k24
 have F25:=bm (st:=ce) l25 c25 k25
 have F26:=bm (st:=cV) l26 c26 k26
 have F27:=bm (st:=bF) l27 c27 k27
 have F28:=bm (st:=cS) l28 c28 k28
 have F29:=bm (st:=cR) l29 c29 k29
 have F30:=bm (st:=bQ) l30 c30 k30
 have F31:=bm (st:=bA) l31 c31 k31
 have F32:=bm (st:=i3) l32 c32 k32
 refine⟨⟨f0,_,f1,_,f2,_,f3,_,f4,_,f5,_,f6,_,f7,_,f8,_,f9,_,f10,_,f11,_,f12,_,f13,_,f14,_,f15,_,f16,_,f17,_,f18,_,f19,_,f20,_,f21,_,f22,_,f23,_,f24,_,f25,_,f26,_,f27,_,f28,_,f29,_,f30,_,f31,_,f32,_⟩,⟨F0,qaV X G a0,F0.binds λ_ _ _ _ _ _ us hl=>(by obtain⟨_,rfl⟩:=mD hl;rfl),F1,qaV X G a1,F1.binds λ_ _ _ _ _ _ us hl=>(by obtain⟨_,_,rfl⟩:=ka hl;rfl),F2,qaV X G a2,F2.binds λ_ _ _ _ _ _ us hl=>(by obtain⟨_,rfl⟩:=mD hl;rfl),F3,qaV X G a3,F3.binds λ_ _ _ _ _ _ us hl=>(by obtain⟨_,rfl⟩:=mD hl;rfl),F4,qaV X G a4,F4.binds λ_ _ _ _ _ _ us hl=>(by obtain⟨_,rfl⟩:=mD hl;rfl),F5,qaV X G a5,F5.binds λ_ _ _ _ _ _ us hl=>(by obtain⟨_,_,rfl⟩:=ka hl;rfl),F6,qaV X G a6,F6.binds λ_ _ _ _ _ _ us hl=>(by obtain⟨_,_,rfl⟩:=ka hl;rfl),F7,qaV X G a7,F7.binds λ_ _ _ _ _ _ us hl=>(by obtain⟨_,_,_,rfl⟩:=Ay hl;rfl),F8,qaV X G a8,F8.binds λ_ _ _ _ _ _ us hl=>(by obtain⟨_,_,rfl⟩:=ka hl;rfl),F9,qaV X G a9,F9.binds λ_ _ _ _ _ _ us hl=>(by obtain⟨_,rfl⟩:=mD hl;rfl),F10,qaV X G a10,F10.binds λ_ _ _ _ _ _ us hl=>(by obtain⟨_,_,rfl⟩:=ka hl;rfl),F11,qaV X G a11,F11.binds λ_ _ _ _ _ _ us hl=>(by obtain⟨_,_,rfl⟩:=ka hl;rfl),F12,qaV X G a12,F12.binds λ_ _ _ _ _ _ us hl=>(by obtain⟨_,_,_,rfl⟩:=Ay hl;rfl),F13,qaV X G a13,F13.binds λ_ _ _ _ _ _ us hl=>(by obtain⟨_,_,rfl⟩:=ka hl;rfl),F14,qaV X G a14,F14.binds λ_ _ _ _ _ _ us hl=>(by obtain⟨_,_,rfl⟩:=ka hl;rfl),F15,qaV X G a15,F15.binds λ_ _ _ _ _ _ us hl=>(by obtain⟨_,_,rfl⟩:=ka hl;rfl),F16,qaV X G a16,F16.binds λ_ _ _ _ _ _ us hl=>(by obtain⟨_,_,_,_,rfl⟩:=EI hl;rfl),F17,qaV X G a17,F17.binds λ_ _ _ _ _ _ us hl=>(by obtain⟨_,_,_,rfl⟩:=Ay hl;rfl),F18,qaV X G a18,F18.binds λ_ _ _ _ _ _ us hl=>(by obtain⟨_,rfl⟩:=mD hl;rfl),F19,qaV X G a19,F19.binds λ_ _ _ _ _ _ us hl=>(by obtain⟨_,_,rfl⟩:=ka hl;rfl),F20,qaV X G a20,F20.binds λ_ _ _ _ _ _ us hl=>(by obtain⟨_,rfl⟩:=mD hl;rfl),F21,qaV X G a21,F21.binds λ_ _ _ _ _ _ us hl=>(by obtain⟨_,rfl⟩:=mD hl;rfl),F22,qaV X G a22,F22.binds λ_ _ _ _ _ _ us hl=>(by obtain⟨_,_,_,_,rfl⟩:=EI hl;rfl),F23,qaV X G a23,F23.binds λ_ _ _ _ _ _ us hl=>(by obtain⟨_,_,rfl⟩:=ka hl;rfl),F24,qaV X G a24,F24.binds λ_ _ _ _ _ _ us hl=>(by obtain⟨_,_,rfl⟩:=ka hl;rfl),F25,qaV X G a25,F25.binds λ_ _ _ _ _ _ us hl=>(by obtain⟨_,rfl⟩:=mD hl;rfl),F26,qaV X G a26,F26.binds λ_ _ _ _ _ _ us hl=>(by obtain⟨_,_,rfl⟩:=ka hl;rfl),F27,qaV X G a27,F27.binds λ_ _ _ _ _ _ us hl=>(by obtain⟨_,_,rfl⟩:=ka hl;rfl),F28,qaV X G a28,F28.binds λ_ _ _ _ _ _ us hl=>(by obtain⟨_,_,_,rfl⟩:=Ay hl;rfl),F29,qaV X G a29,F29.binds λ_ _ _ _ _ _ us hl=>(by obtain⟨_,_,rfl⟩:=ka hl;rfl),F30,qaV X G a30,F30.binds λ_ _ _ _ _ _ us hl=>(by obtain⟨_,rfl⟩:=mD hl;rfl),F31,qaV X G a31,F31.binds λ_ _ _ _ _ _ us hl=>(by obtain⟨_,rfl⟩:=mD hl;rfl),F32,qaV X G a32,F32.binds λ_ _ _ _ _ _ us hl=>(by obtain⟨_,rfl⟩:=mD hl;rfl),qbN X G z_abs,qbN X G z_enumerate,qbN X G z_len,qbN X G z_max,qbN X G z_range,qbN X G z_repr,qbN X G z_set,qbN X G z_sorted,qbN X G z_sum,qbN X G z_tuple⟩,rfl⟩
theorem txt_ex {K:qai}{mg:Str->Option Value}{f:Addr} (h:∃ t,Txt K mg t/\t.f32=f):∃ t,Txt K mg t:=let ⟨t,a,_⟩:=h;⟨t,a⟩
theorem walk {l:qfW}{q:qaX}{loose:List Str}{XP:(Str->Option Value)->Heap->Prop}{YP:World->Heap->Prop}{d:DefRec}{K:Params->qai} (hn:l.most=some 63) (hdf:d.params.defaults=[])
  (hY:∀ (w:World) (h:Heap),YP w h->(K w.params).In h)
  (F:∀ (w:World) (mg:Str->Option Value) (fa:Addr) (h:Heap),(K w.params).In h->h.Ns qaE mg->mg d.name=some (.ref fa)->
    ∃ fd:qbb,(∀ (s:qaj) (u:Value),qis s fd ⟨[u],[]⟩ [("_law_script",u)])/\∀ base:Heap,(K w.params).In base->base.Ns qaE mg->bX l.prog w (K w.params) mg base CX0 10 fa fd ["_law_script"] (spI (K w.params) tD)) :
  qiM q loose XP YP l.row.toRowW d [] (λf vs=>qik f vs):=
 L2.walk_of (n:=63) (k:=10) (x:="_law_script") (CX:=λ_=>CX0) (sp:=λw=>spI (K w.params) tD) hn (by decide) hdf ⟨rfl,by decide,by decide,rfl⟩ hY F (λ_ _ a ns hl hO hS=>Ch hO hS (zT ns hl)) λ_ _ _ _ _ z=>z
theorem law_mk {l:qfW}{w:World}{K:qai}{h:Heap}{mg:Str->Option Value}{fa:Addr} (hfa:mg "law" = some (.ref fa)) (T0:∃ t,Txt K mg t) :
  ∃ fd:qbb,(∀ (s:qaj) (v:Value),qis s fd ⟨[v],[]⟩ [("_law_script",v)])/\∀ base:Heap,K.In base->base.Ns qaE mg->bX l.prog w K mg base CX0 10 fa fd ["_law_script"] (spI K tD):=by
 obtain⟨t,T⟩:=T0
 have e:=hfa.symm.trans T.m32
 cases e
 refine⟨t.g32,λs v=>?_,λbase _ _=>EL T⟩
 obtain⟨oc,od,kV,doc,pm,an,cdv,ct,osl,e,_⟩:=T.F32.ex
 rw[e]
 exact .of_eq rfl
end Own
theorem PySem.W.Fast.tw13572849069454271554:True:=trivial
theorem PySem.W.Fast.tw16593151264337780437:True:=trivial
theorem PySem.W.Fast.tw2050314025692466858:True:=trivial
theorem PySem.W.Fast.tw17963059940437639874:True:=trivial
theorem PySem.W.Fast.tw8441565981626561736:True:=trivial
theorem PySem.W.Fast.tw15543200959488573065:True:=trivial
theorem PySem.W.Fast.tw1393942285264350641:True:=trivial
theorem PySem.W.Fast.tw7452547997155328493:True:=trivial
theorem PySem.W.Fast.tw2744920354484685250:True:=trivial
theorem PySem.W.Fast.tw4453265483812380528:True:=trivial
theorem PySem.W.Fast.tw12055413703717643477:True:=trivial
theorem PySem.W.Fast.tw17179640663571761872:True:=trivial
theorem PySem.W.Fast.tw16796932348638488937:True:=trivial
theorem PySem.W.Fast.tw7720042905556101625:True:=trivial
theorem PySem.W.Fast.tw1148540831638950555:True:=trivial
theorem PySem.W.Fast.tw17157066044933733522:True:=trivial
theorem PySem.W.Fast.tw1508916259595734238:True:=trivial
theorem PySem.W.Fast.tw16046859497888229892:True:=trivial
theorem PySem.W.Fast.tw953802645609680792:True:=trivial
theorem PySem.W.Fast.tw8553463707310735019:True:=trivial
theorem PySem.W.Fast.tw5085498758524241885:True:=trivial
theorem PySem.W.Fast.tw4021551913529920567:True:=trivial
theorem PySem.W.Fast.tw17503749220831781229:True:=trivial
theorem PySem.W.Fast.tw17801346511909200311:True:=trivial
theorem PySem.W.Fast.tw674758130829795510:True:=trivial
theorem PySem.W.Fast.tw9884288949536196477:True:=trivial
theorem PySem.W.Fast.tw7269136720896372112:True:=trivial
theorem PySem.W.Fast.tw56429752470209868:True:=trivial
theorem PySem.W.Fast.tw1517807501269858007:True:=trivial
theorem PySem.W.Fast.tw11825140368992168344:True:=trivial
theorem PySem.W.Fast.tw5133548036135317409:True:=trivial
theorem PySem.W.Fast.tw2762799784757601500:True:=trivial
theorem PySem.W.Fast.tw15332818669252307630:True:=trivial
theorem PySem.W.Fast.tw10226064793717833433:True:=trivial
theorem PySem.W.Fast.tw4511952994377079800:True:=trivial
theorem PySem.W.Fast.tw10177488470282242600:True:=trivial
theorem PySem.W.Fast.tw171899477154796432:True:=trivial
theorem PySem.W.Fast.tw7264043025734848243:True:=trivial
theorem PySem.W.Fast.tw8540233188833106129:True:=trivial
theorem PySem.W.Fast.tw3301997755432021009:True:=trivial
theorem PySem.W.Fast.tw5820642471280330475:True:=trivial
theorem PySem.W.Fast.tw17133404457980712808:True:=trivial
theorem PySem.W.Fast.tw9528380952934067585:True:=trivial
theorem PySem.W.Fast.tw10558564405118223997:True:=trivial
theorem PySem.W.Fast.tw1713390526249847544:True:=trivial
theorem PySem.W.Fast.tw5473360186970463850:True:=trivial
theorem PySem.W.Fast.tw2172626830486420727:True:=trivial
theorem PySem.W.Fast.tw15479725600213468626:True:=trivial
theorem PySem.W.Fast.tw12878525241607393869:True:=trivial
theorem PySem.W.Fast.tw2346960162037967796:True:=trivial
theorem PySem.W.Fast.tw13396679811797387818:True:=trivial
theorem PySem.W.Fast.tw16701112623981106429:True:=trivial
theorem PySem.W.Fast.tw12755634665000554859:True:=trivial
theorem PySem.W.Fast.tw16819251717126152608:True:=trivial
theorem PySem.W.Fast.tw1689854782465233739:True:=trivial
theorem PySem.W.Fast.tw1873663829092329968:True:=trivial
theorem PySem.W.Fast.tw11211102146790478456:True:=trivial
theorem PySem.W.Fast.tw510104662298675512:True:=trivial
theorem PySem.W.Fast.tw11094797555698737142:True:=trivial
theorem PySem.W.Fast.tw13291826550412047843:True:=trivial
theorem PySem.W.Fast.tw2837657150403709131:True:=trivial
theorem PySem.W.Fast.tw16888004670699040411:True:=trivial
theorem PySem.W.Fast.tw10287765931116239964:True:=trivial
theorem PySem.W.Fast.tw645089870308059188:True:=trivial
theorem PySem.W.Fast.tw9830756216411018219:True:=trivial
theorem PySem.W.Fast.tw1895077166814022026:True:=trivial
theorem PySem.W.Fast.tw13464210653053228988:True:=trivial
theorem PySem.W.Fast.tw17904700235967086816:True:=trivial
theorem PySem.W.Fast.tw16187826438939518162:True:=trivial
open PySem PySem.W PyProof.Rows
set_option maxRecDepth 100000 in
set_option maxHeartbeats 0 in
theorem PySem.Challenge.cw_signpoly_k67_degrees_put_together_holds : PySem.Challenge.rw_signpoly_k67_degrees_put_together.Holds := by
 w_on;o_law;k_head;(case hw=>w_witness2)
 k_fill
 refine Own.walk (l:=PySem.Challenge.rw_signpoly_k67_degrees_put_together) rfl rfl (λw h Y=>PySem.W.kIn_of Y) ?F
 case F=>
  intro w mg fa h KX G hmg
  refine Own.law_mk (h:=h) hmg ?T
  case T=>
   refine' Own.txt_ex (Own.txt_mk KX G ?a0 ?l0 ?c0 ?k0 ?a1 ?l1 ?c1 ?k1 ?a2 ?l2 ?c2 ?k2 ?a3 ?l3 ?c3 ?k3 ?a4 ?l4 ?c4 ?k4 ?a5 ?l5 ?c5 ?k5 ?a6 ?l6 ?c6 ?k6 ?a7 ?l7 ?c7 ?k7 ?a8 ?l8 ?c8 ?k8 ?a9 ?l9 ?c9 ?k9 ?a10 ?l10 ?c10 ?k10 ?a11 ?l11 ?c11 ?k11 ?a12 ?l12 ?c12 ?k12 ?a13 ?l13 ?c13 ?k13 ?a14 ?l14 ?c14 ?k14 ?a15 ?l15 ?c15 ?k15 ?a16 ?l16 ?c16 ?k16 ?a17 ?l17 ?c17 ?k17 ?a18 ?l18 ?c18 ?k18 ?a19 ?l19 ?c19 ?k19 ?a20 ?l20 ?c20 ?k20 ?a21 ?l21 ?c21 ?k21 ?a22 ?l22 ?c22 ?k22 ?a23 ?l23 ?c23 ?k23 ?a24 ?l24 ?c24 ?k24 ?a25 ?l25 ?c25 ?k25 ?a26 ?l26 ?c26 ?k26 ?a27 ?l27 ?c27 ?k27 ?a28 ?l28 ?c28 ?k28 ?a29 ?l29 ?c29 ?k29 ?a30 ?l30 ?c30 ?k30 ?a31 ?l31 ?c31 ?k31 ?a32 ?l32 ?c32 ?k32 ?z_abs ?z_enumerate ?z_len ?z_max ?z_range ?z_repr ?z_set ?z_sorted ?z_sum ?z_tuple)
   case a0=>k_is
   case l0=>k_is
   case c0=>k_is
   case k0=>k_is
   case a1=>k_is
   case l1=>k_is
   case c1=>k_is
   case k1=>k_is
   case a2=>k_is
   case l2=>k_is
   case c2=>k_is
   case k2=>k_is
   case a3=>k_is
   case l3=>k_is
   case c3=>k_is
   case k3=>k_is
   case a4=>k_is
   case l4=>k_is
   case c4=>k_is
   case k4=>k_is
   case a5=>k_is
   case l5=>k_is
   case c5=>k_is
   case k5=>k_is
   case a6=>k_is
   case l6=>k_is
   case c6=>k_is
   case k6=>k_is
   case a7=>k_is
   case l7=>k_is
   case c7=>k_is
   case k7=>k_is
   case a8=>k_is
   case l8=>k_is
   case c8=>k_is
   case k8=>k_is
   case a9=>k_is
   case l9=>k_is
   case c9=>k_is
   case k9=>k_is
   case a10=>k_is
   case l10=>k_is
   case c10=>k_is
   case k10=>k_is
   case a11=>k_is
   case l11=>k_is
   case c11=>k_is
   case k11=>k_is
   case a12=>k_is
   case l12=>k_is
   case c12=>k_is
   case k12=>k_is
   case a13=>k_is
   case l13=>k_is
   case c13=>k_is
   case k13=>k_is
   case a14=>k_is
   case l14=>k_is
   case c14=>k_is
   case k14=>k_is
   case a15=>k_is
   case l15=>k_is
   case c15=>k_is
   case k15=>k_is
   case a16=>k_is
   case l16=>k_is
   case c16=>k_is
   case k16=>k_is
   case a17=>k_is
   case l17=>k_is
   case c17=>k_is
   case k17=>k_is
   case a18=>k_is
   case l18=>k_is
   case c18=>k_is
   case k18=>k_is
   case a19=>k_is
   case l19=>k_is
   case c19=>k_is
   case k19=>k_is
   case a20=>k_is
   case l20=>k_is
   case c20=>k_is
   case k20=>k_is
   case a21=>k_is
   case l21=>k_is
   case c21=>k_is
   case k21=>k_is
   case a22=>k_is
   case l22=>k_is
   case c22=>k_is
   case k22=>k_is
   case a23=>k_is
   case l23=>k_is
   case c23=>k_is
   case k23=>k_is
   case a24=>k_is
   case l24=>k_is
   case c24=>k_is
   case k24=>k_is
   case a25=>k_is
   case l25=>k_is
   case c25=>k_is
   case k25=>k_is
   case a26=>k_is
   case l26=>k_is
   case c26=>k_is
   case k26=>k_is
   case a27=>k_is
   case l27=>k_is
   case c27=>k_is
   case k27=>k_is
   case a28=>k_is
   case l28=>k_is
   case c28=>k_is
   case k28=>k_is
   case a29=>k_is
   case l29=>k_is
   case c29=>k_is
   case k29=>k_is
   case a30=>k_is
   case l30=>k_is
   case c30=>k_is
   case k30=>k_is
   case a31=>k_is
   case l31=>k_is
   case c31=>k_is
   case k31=>k_is
   case a32=>k_is
   case l32=>k_is
   case c32=>k_is
   case k32=>k_is
   case z_abs=>k_is
   case z_enumerate=>k_is
   case z_len=>k_is
   case z_max=>k_is
   case z_range=>k_is
   case z_repr=>k_is
   case z_set=>k_is
   case z_sorted=>k_is
   case z_sum=>k_is
   case z_tuple=>k_is
