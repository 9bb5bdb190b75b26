import PyProof.Rows.All
import KE.IntBitsLaws
import KE.KDictList
import KE.KIsAll
import KE.KSortTup
import KE.KUnpack
import PySem.Challenge.RW_signpoly_k72_alone_or_other
set_option Elab.async false
set_option linter.all false
set_option maxRecDepth 100000
set_option genSizeOf false
set_option compiler.extract_closed false
set_option bootstrap.genMatcherCode false
set_option compiler.reuse false
set_option autoImplicit true
noncomputable section
open And renaming right -> qeA, left -> qe9
open Array renaming getElem?_eq_getElem -> qbJ, length_toList -> qcU, getElem?_eq_none -> qdH, getElem_toList -> qdX, getElem?_toList -> qeT, perm_iff_toList_perm -> qgp, toList -> qhb
open Bool renaming false_ne_true -> qaW, and_eq_true -> qaZ, false_eq_true -> qbs, eq_iff_iff -> qd9, not_eq_true -> qeM, or_eq_true -> qgo, and_false -> qiE, and_true -> qiV, and_self -> qiW
open Classical renaming byContradiction -> qfY
open Decidable renaming byContradiction -> qfX
open False renaming elim -> qcL
open Int renaming mul_left_comm -> qaR, mul_comm -> qaV, mul_zero -> qa7, toNat_natCast -> qbc, mul_right_comm -> qbt, mul_assoc -> qbu, zero_mul -> qbV, zero_add -> qcc, le_refl -> qcs, mul_add -> qcA, mul_eq_zero -> qcS, one_mul -> qc0, mul_sub -> qc1, ofNat_dvd_left -> qc7, neg_mul -> qdd, natAbs_mul -> qdr, mul_one -> qdv, mul_le_mul_of_nonneg_left -> qd0, mul_ediv_cancel' -> qd1, mul_lt_mul_of_pos_right -> qec, ediv_nonneg -> qed, lt_of_mul_lt_mul_right -> qeh, fdiv_eq_ediv_of_nonneg -> qei, lt_or_eq_of_le -> qem, le_trans -> qen, mul_nonneg -> qes, eq_of_mul_eq_mul_left -> qet, add_mul -> qeK, sub_mul -> qft, mul_le_mul_of_nonneg_right -> qf5, add_zero -> qf6, mul_neg -> qgw, eq_of_mul_eq_mul_right -> qgF, mul_neg_of_pos_of_neg -> qgN, mul_ediv_cancel_left -> qgT, reduceNeg -> qg9, eq_ofNat_of_zero_le -> qha, sub_zero -> qhr, le_of_lt -> qhs, emod_lt_of_pos -> qh7, emod_nonneg -> qiC, natAbs_neg -> qiQ, mul_pos -> qkq
open List renaming mem_cons_self -> qag, length_map -> qah, getElem?_eq_getElem -> qai, mem_cons_of_mem -> qaj, range -> qak, mem_singleton -> qan, length_range -> qaq, getElem?_eq_some_iff -> qas, length_cons -> qat, getD_eq_getElem?_getD -> qau, getElem?_eq_none -> qav, mem_cons -> qaw, getElem?_map -> qay, map_cons -> qaz, length_append -> qaA, mem_append_right -> qaB, mem_range -> qaD, size_toArray -> qaE, replicate -> qaG, getElem?_append_left -> qaH, getElem?_append_right -> qaI, mem_map -> qaJ, map_map -> qaM, getElem?_range -> qaS, mem_append -> qaT, all_eq_true -> qaY, getElem?_eq_none_iff -> qa2, ext_getElem? -> qa6, pairwise_cons -> qa8, mem_append_left -> qa9, not_mem_nil -> qbd, getElem?_set_self -> qbz, all_cons -> qbB, getElem_mem -> qbC, getD_cons_zero -> qbG, lookup_cons -> qbH, getElem?_set_ne -> qbK, append_assoc -> qbR, mem_of_getElem? -> qbS, mem_filter -> qbX, append_nil -> qbY, getD_cons_succ -> qb1, map_congr_left -> qcf, drop_eq_getElem_cons -> qcg, map_append -> qci, length_set -> qcj, any_cons -> qco, nodup_cons -> qcr, sum_cons -> qcw, length_singleton -> qcx, length_filter_le -> qcy, mem_iff_getElem -> qcK, nodup_append -> qcN, length_nil -> qcO, length_replicate -> qda, forall_mem_cons -> qdh, nodup_nil -> qdk, getElem_map -> qdo, filter_cons -> qdp, any_eq_true -> qdq, map_nil -> qdu, idxOf?_eq_some_iff -> qdB, getElem?_replicate -> qdC, find?_cons -> qdD, take_of_length_le -> qdI, range_succ_eq_map -> qdJ, range' -> qdL, mapM_toArray -> qdM, take_left -> qdR, take_length -> qdT, length_take -> qdU, getElem_inj -> qdV, cons_append -> qdW, range_eq_range' -> qdZ, replicate_zero -> qd3, replicate_succ -> qd4, nil_append -> qd5, mem_map_of_mem -> qd6, lookup -> qd7, forIn_cons -> qd8, pairwise_map -> qew, getElem?_take_of_lt -> qex, filter_cons_of_pos -> qeD, filter_cons_of_neg -> qeE, zipIdx_cons -> qeI, drop_length -> qeJ, find?_cons_of_pos -> qeO, find?_cons_of_neg -> qeP, zipIdx_nil -> qeW, range_succ -> qeX, all_map -> qeY, forIn_nil -> qfc, length -> qfg, filter_sublist -> qfh, filterMap_cons -> qfi, zip_cons_cons -> qfz, set_comm -> qfA, mem_filterMap -> qfB, getElem_range -> qfC, any_eq_false -> qfN, length_drop -> qf2, all_toArray -> qf3, of_mem_zip -> qgl, getD -> qgm, drop_zero -> qgD, pairwise_singleton -> qgS, filter_eq_nil_iff -> qg7, drop_eq_nil_of_le -> qg8, replicate_succ' -> qhq, map_id -> qhz, getElem_of_mem -> qhA, flatten_append -> qhB, filter_eq_self -> qhC, set_cons_zero -> qhT, set_cons_succ -> qhU, map -> qhV, take_sublist -> qh2, push_toArray -> qh3, flatten_cons -> qh4, filter_congr -> qh5, Nodup -> qh6, range'_succ -> qil, isEmpty_iff -> qim, ext_getElem -> qin, take_left' -> qis, drop_drop -> qiA, map_drop -> qiP, foldl -> qko, drop -> qlC
open List.Pairwise renaming sublist -> qfU, map -> qjc
open List.Perm renaming refl -> qdE, eq_of_pairwise -> qf4
open List.Sublist renaming refl -> qj7
open Nat renaming le_refl -> qao, ne_of_lt -> qaC, add_sub_cancel_left -> qaK, le_trans -> qaN, lt_of_lt_of_le -> qaP, lt_succ_of_lt -> qa0, lt_irrefl -> qa4, zero_add -> qbg, pow_le_pow_right -> qbq, zero_le -> qbM, lt_of_le_of_lt -> qbN, le_add_right -> qbZ, ne_of_gt -> qca, lt_succ_self -> qcb, mul_le_mul_right -> qcM, not_lt_zero -> qcR, le_succ -> qcZ, add_sub_cancel -> qc5, mul_le_mul -> qdn, le_of_eq -> qdx, two_pow_pos -> qeb, lt_trans -> qel, succ_ne_self -> qeN, sub_self -> qe3, le_of_lt -> qe4, add_comm -> qe5, reduceSub -> qfG, lt_or_ge -> qf1, pow_pos -> qgu, gcd -> qgv, reduceAdd -> qg6, sub_zero -> qho, mul_comm -> qhp, pow_add -> qhR, log2_lt -> qhS, not_lt -> qik, mod_eq_of_lt -> qiq, min_eq_right -> qir, min_eq_left -> qiz, dvd_trans -> qjb, pow_succ -> qj4, gcd_comm -> qj5, add_zero -> qj6, pow_mul -> qkl, one_mul -> qkm, add_mul -> qkn
open Ne renaming symm -> qbp
open Option renaming bind_eq_some_iff -> qab, bind_some -> qac, map_eq_some_iff -> qad, map_some -> qap, isSome_iff_exists -> qcF, getD_none -> qhQ
open Option.some renaming inj -> qaL, injEq -> qgM
open Prod renaming fst -> qdg, snd -> qge
open PyProof.Rows renaming boot_list -> qaU, boot_isinstance -> qaX, boot_sorted -> qa3, boot_tuple -> qba, boot_repr -> qbe, boot_bool -> qbf, boot_sum -> qbi, boot_str -> qbj, boot_max -> qbk, boot_int -> qbl, boot_any -> qbm, boot_all -> qbn, boot_abs -> qbo, wpS_bind -> qbI, slot_tuple_getitem -> qbO, callWith_type1 -> qb0, SortSt -> qb8, wpS_pure -> qcl, IntsAre -> qcz, assignInOrder_cons -> qdf, SortKind -> qdz, wpS_forRange -> qeB, envOfC -> qeS, pendingOf -> qfo, boot_range -> qfM, KeyOrd -> qfO, AllBare -> qfZ, seqObj -> qf9, lt_int -> qgj, gt_int -> qgk, assignInOrder_nil -> qgr, wpS_modify -> qht, wpS_get -> qhG, listUpdate_at -> qhL, failedOf -> qhM, subscriptTail_builtinR -> qhY, seqEpoch_at -> qiu, keyKind'_eq -> qiv, getElem?_mirror_all -> qiw, entry_tuple_getitem -> qix, wpS_mono -> qiF, oneType' -> qiH, keyKind' -> qiI, gallopOf -> qiJ, args_tuple_getitem -> qiL, unpackItems_tuple -> qi1, size_push' -> qi3, Subscript_ -> qi7, truthy_int -> qj1, envOfC -> qj2, callWith_builtin1 -> qj3, sortedAll -> qkb, oneTypeOnly'_eq -> qke, mirror -> qkf, getElem?_bubble -> qki, entry_list_sort -> qkj, slot_list_sort -> qks, slicePart_none -> qkt, boot_enumerate -> qky, args_list_sort -> qkz
open PyProof.Rows.IsTup renaming new -> qkp
open PyProof.Rows.KeyOrd renaming kle_refl -> qc6, kle_of_klt -> qdF, kle_trans -> qdS, kle_antisymm -> qhf
open PyProof.Rows.SortSt renaming mk' -> qi8
open PySem renaming wpAny_bind -> qaa, Shared -> qal, wpAny_pure -> qam, sizeLine -> qaF, Program -> qaO, Around -> qa1, wpAny_seqItems -> qbb, Spec -> qbr, boot_len -> qbv, wpAny_setField_rec -> qbw, wpAny_callSpecial?_slot -> qbx, wpAny_field -> qby, starEach -> qbA, foldedSetIterable -> qbE, mem_of_lookup -> qbF, wpAny_call_entry -> qbL, binaryOp -> qbP, IntMulOk -> qbW, wpAny_holding -> qb4, wpAny_newObj_type -> qb5, compareOp -> qb6, assignEach -> qb7, NameKind -> qb9, wpAny_letGo -> qcd, FuncData -> qch, mainGlobals -> qck, bootBuiltins -> qcm, swapsWith -> qcq, wpAny_tryCatch -> qct, wpAny_truthy_bool -> qcu, wpAny_mono -> qcC, sysModules -> qcD, call_meets -> qcE, wpAny_pyIter_tuple -> qcG, wpAny_onRaise -> qcH, cellsFrom -> qcI, attributeBase -> qcJ, sizeLine_eq -> qcQ, wpAny_updateSeq -> qcW, wpAny_rule -> qcX, codeAny_builtin -> qcY, swapsWithSole -> qc2, swappedStores -> qc3, wpAny_typeNameOfWhole_keyiter -> qc8, wpAny_passesOwn -> qdi, pushCells_keeps -> qdj, plainId_quiet -> qdm, wpAny_attempt -> qdO, strLen_append -> qdP, codeAny -> qdQ, wpAny_pyIter_list -> qdY, wpAny_standAt -> qee, sliceBounds -> qeo, DictEntry -> qeu, wpAny_Call_Name_kw -> qeC, wpAny_bindName -> qeF, wpAny_pyIter_enum -> qeQ, pyNext -> qeR, wpAny_pyNext_tuple_item -> qe1, Builtin -> qe6, wpAny_pyIter_zip -> qe7, wpAny_pyNext_tuple_end -> qfa, wpAny_pyNext_list_item -> qfb, wpAny_pyNext_list_end -> qfk, wpAny_ite_false -> qfl, wpAny_execs_nil -> qfm, pushCells -> qfn, getItem -> qfp, backTo -> qfq, typeIs_int -> qfw, wpAny_updateSeq_pair -> qfD, list_append -> qfE, wpAny_setField -> qfJ, rawInt -> qfK, holding -> qfP, wpAny_newList -> qf8, behindInMarks -> qga, wpAny_dictEntries -> qgq, codeAny_mono -> qgy, assign -> qgz, Paired -> qgC, IsPart -> qgE, wpAny_isInstance -> qgH, noFill_tuple_add -> qgI, wpAny_of_eq -> qgV, wpAny_dictEpoch -> qgW, tupleKind -> qgX, subscripted -> qgY, seqItems? -> qgZ, letOwnedTupleGo -> qg0, keywordEach -> qg1, ofString_length -> qg3, Within -> qg4, PassesOwn -> qg5, intBits_le_iff -> qhc, wpAny_newTuple -> qhh, wpAny_letOwnedTupleGo_zip -> qhi, wpAny_binaryOp_repeat_ref -> qhj, isSubtype_stop -> qhk, wpAny_comprehension_free -> qhu, builtinsNs -> qhv, Result -> qhw, IsPair -> qhD, wpAny_pyNext_enum_itemD -> qhH, valueAt -> qhI, seq_tuple_add -> qhJ, rangeSize_one -> qhK, compEnvC -> qhN, callerA -> qhO, call -> qhP, IntMulOk -> qhW, BindsTo -> qhX, codeAny_compStart_list -> qhZ, wpAny_typeOf -> qh8, wpAny_isOneOf_keyiter -> qh9, updateSeq -> qia, tupleText -> qib, seqIndex_neg -> qic, pyIter -> qid, concat_meets -> qie, callType_new -> qif, seqIndex_of -> qit, Keyword -> qiB, tupleKind_room_in1 -> qiG, backToKw -> qiK, GenState -> qiS, wpAny_sequenceKey -> qiX, wpAny_call -> qiY, wpAny_assign_Name -> qiZ, wpAny_Name -> qi0, slot_list_getitem -> qi2, piled_cons -> qi4, again -> qi9, wpAny_execs_cons -> qjm, checkBuiltinCall -> qjn, standAt -> qka, setItem -> qkc, seqIndex? -> qkd, join_length_add -> qkg, isTrue -> qkh, argsOk -> qkk, wpAny_fieldsOf -> qkr, repr_of_reads' -> qku, recursionLimit -> qkv, fitsIndex_both -> qkw, firstArgMember -> qkx
open PySem.Around renaming under_plainId -> qcB, under -> qgU
open PySem.AutoSeq1 renaming sub_tuple_tuple -> qgg
open PySem.Builtin renaming bitAnd -> qdG
open PySem.Builtin.Builtins renaming bindParams -> qcP
open PySem.Builtin.Dict renaming showsAll -> qf7
open PySem.Builtin.List renaming listTooLong -> qde
open PySem.Builtin.Range renaming rangeFitsLong -> qfe, rangeSize -> qfI, small -> qjl
open PySem.Builtin.Slice renaming slicePlaces -> qc4, sliceAdjust -> qfv, slicePartIndex -> qjj, sliceApplied -> qjk
open PySem.Builtin.SmallTypes renaming nextOf -> qbh, ownedTupleIsFree -> qbQ, ownedTupleHandOut -> qce
open PySem.Builtin.Tuple renaming tupleItemsOf -> qfj, tupleTooMany -> qjh, tupleCompareSizes -> qji
open PySem.Calls renaming Name_function_global -> qgn, call_function_entry -> qgx
open PySem.Code renaming isGuard -> qjf, isFrame -> qjg, frames -> qj9
open PySem.Draws renaming list -> qj8
open PySem.Env renaming kindOf -> qlE
open PySem.F renaming plain_max_loop -> qbD, slot_dict_keyiterator_next -> qb2, slot_zip_next -> qcT, slot_tuple_iterator_next -> qdl, slot_list_index -> qdt, entry_max_loop -> qdy, args_tuple_add_2 -> qeg, plainAttrs_list -> qeq, entry_tuple_add -> qer, slot_tuple_add -> qey, slot_tuple_lt -> qeH, args_zip_next_1 -> qeL, args_dict_keyiterator_next_1 -> qeV, slot_tuple_mul -> qeZ, entry_zip_next -> qe0, entry_dict_keyiterator_next -> qe2, slot_int_rmul -> qfd, args_list_append_2 -> qfu, entry_list_append -> qfH, slot_list_append -> qfV, args_tuple_mul_2 -> qfW, args_list_index_2 -> qgd, entry_tuple_mul -> qgf, entry_list_index -> qgi, type_list_index -> qgs, args_tuple_lt_2 -> qgt, slot_dict_iter -> qgA, entry_tuple_lt -> qgB, args_tuple_iterator_next_1 -> qgG, plain_max -> qgO, entry_tuple_iterator_next -> qgP, entry_max -> qgQ, kind_max -> qhg, args_int_rmul_2 -> qiD, slot_int_index -> qiT, entry_int_rmul -> qiU, fills_int_mul -> qjd, entry_zip_new -> qje, called_zip -> qlD
open PySem.Heap renaming get?_push_of_some -> qaf, get?_push_size -> qar, lt_size -> qax, get?_update_other -> qaQ, size_push -> qa5, get?_update_self -> qb3, SameBut -> qdc, get?_push_ne -> qdN, get?_update_ne -> qhE, ExtBut -> qhF, size_update -> qio
open PySem.Heap.IsSliceOf renaming new -> qiR
open PySem.Heap.SameBut renaming update -> qdb
open PySem.IntMulOk renaming of_le -> qiN
open PySem.IsL renaming update -> qfs
open PySem.Obj renaming mapSeq -> qcv, data_mapFields -> qek, isFreed_of_fields -> qhn, cls_mapFields -> qij
open PySem.Paired renaming length -> qff, snoc -> qiO
open PySem.PassesOwn renaming never -> qez
open PySem.PyData renaming shownAll -> qbU, depthAll -> qdw, depth -> qdK, showableAll -> qea, hasDictAll -> qej, shown -> qfF, noDict_hsm -> qhy, showable -> qh1, hasDict -> qii
open PySem.SeqAt renaming EqAt -> qep, list_indexAt -> qfL, ne_of_list_tuple -> qgR, RcNeAt -> qiM, RcAt -> qjZ
open PySem.SeqAt.EqAt renaming of_refs -> qeU, same -> qfy, str_str -> qgJ, str_int -> qgK, int_str -> qgL, tuple_str -> qk8, tuple_none -> qk9, tuple_list -> qla, tuple_int -> qlb, tuple_bool -> qlc, str_tuple -> qld, str_none -> qle, str_list -> qlf, str_bool -> qlg, none_tuple -> qlh, none_str -> qli, none_list -> qlj, none_int -> qlk, none_bool -> qll, list_tuple -> qlm, list_str -> qln, list_none -> qlo, list_int -> qlp, list_bool -> qlq, int_tuple -> qlr, int_none -> qls, int_list -> qlt, int_int -> qlu, int_bool -> qlv, bool_tuple -> qlw, bool_str -> qlx, bool_none -> qly, bool_list -> qlz, bool_int -> qlA, bool_bool -> qlB
open PySem.SeqAt.RcAt renaming tuples -> qe8, lists_lengths -> qfQ, lists -> qg2, tuple_str -> qkA, tuple_none -> qkB, tuple_list -> qkC, tuple_int -> qkD, tuple_bool -> qkE, str_tuple -> qkF, str_str -> qkG, str_none -> qkH, str_list -> qkI, str_int -> qkJ, str_bool -> qkK, none_tuple -> qkL, none_str -> qkM, none_none -> qkN, none_list -> qkO, none_int -> qkP, none_bool -> qkQ, list_tuple -> qkR, list_str -> qkS, list_none -> qkT, list_int -> qkU, list_bool -> qkV, int_tuple -> qkW, int_str -> qkX, int_none -> qkY, int_list -> qkZ, int_int -> qk0, int_bool -> qk1, bool_tuple -> qk2, bool_str -> qk3, bool_none -> qk4, bool_list -> qk5, bool_int -> qk6, bool_bool -> qk7
open PySem.SeqAt.RcNeAt renaming tuples -> qgh, tuple_str -> qjp, tuple_none -> qjq, tuple_list -> qjr, tuple_int -> qjs, tuple_bool -> qjt, str_tuple -> qju, str_str -> qjv, str_none -> qjw, str_list -> qjx, str_int -> qjy, str_bool -> qjz, none_tuple -> qjA, none_str -> qjB, none_none -> qjC, none_list -> qjD, none_int -> qjE, none_bool -> qjF, lists_lengths -> qjG, lists -> qjH, list_tuple -> qjI, list_str -> qjJ, list_none -> qjK, list_int -> qjL, list_bool -> qjM, int_tuple -> qjN, int_str -> qjO, int_none -> qjP, int_list -> qjQ, int_int -> qjR, int_bool -> qjS, bool_tuple -> qjT, bool_str -> qjU, bool_none -> qjV, bool_list -> qjW, bool_int -> qjX, bool_bool -> qjY
open PySem.Shared renaming heap -> qf0
open PySem.Str renaming ofString -> qcp
open PySem.Value renaming isStrOf -> qiy, isInt -> qi6
open PySem.W renaming Frag -> qae, kia_one -> qbT, findIn -> qcn, keepIn -> qcV, emptyDict -> qc9, instObj -> qds, cellsFrom_some -> qdA, fnOf -> qd2, hasDictIn -> qef, plainGet -> qev, nsIn -> qeG, plainOver -> qfr, takerIn -> qfR, makesIn -> qfS, OpenLaw -> qfT, lookIn -> qgb, codeIn -> qgc, kitx_tuple -> qhd, callWith_K -> qhe, kitx_list -> qhl, kitx_dict -> qhm, handedIn -> qhx, kitOne -> qh0, mg_of -> qig, WalkO -> qih, isFn -> qip
open PySem.W.Looks renaming here -> qja
open PySem.W.WShape renaming has -> qi5
open PySem.Walks renaming list -> qjo
open PySem.WalksT renaming enumerateD -> qfx
open PySem.Within renaming cons -> qj0
def U{α:Sort u}{a:α}:a=a:=rfl
def iFN{d:Decidable c}(h:¬c){α:Sort u}{t e:α}:ite c t e=e :=if_neg h
def iFP{d:Decidable c}(h:c){α:Sort u}{t e:α}:ite c t e=t :=if_pos h
namespace L2
open PySem PySem.Spec PyProof.Rows
abbrev Key:=Sum Int Str
def pW:Key->Value->Bool
 |.inl k,v=>qi6 k v
 |.inr x,v=>qiy x v
def HS (w:World):Key->Int
 |.inl k=>hashInt k
 |.inr x=>hashStr w x
theorem bx:∀ {k:Key}{v:Value},pW k v=true->(∃ i t,k=Sum.inl i/\v=Value.int i t)\/(∃ x t,k=Sum.inr x/\v=Value.str x t)
 |.inl i,v,h=>by
  obtain⟨t,e⟩:=Value.isInt_shape h;exact .inl ⟨i,t,U,e⟩
 |.inr x,v,h=>by
  obtain⟨t,e⟩:=Value.isStrOf_shape h;exact .inr ⟨x,t,U,e⟩
theorem yE (i) (t):pW (.inl i) (.int i t)=true :=by simp[pW,qi6]
theorem yF (x) (t):pW (.inr x) (.str x t)=true :=by simp[pW,qiy]
theorem Ew (a b):decide ((Sum.inl a:Key)=Sum.inl b)=(a==b) :=by
 by_cases e:a=b
 ·subst e;simp
 ·rw[decide_eq_false (λq=>e (Sum.inl.inj q))]
  exact (beq_eq_false_iff_ne.mpr e).symm
theorem Ez (a b):decide ((Sum.inr a:Key)=Sum.inr b)=decide (a=b) :=by
 by_cases e:a=b
 ·simp
 ·rw[decide_eq_false (λq=>e (Sum.inr.inj q)),decide_eq_false e]
theorem Ex (a) (b):decide ((Sum.inl a:Key)=Sum.inr b)=false :=decide_eq_false (λq=>nomatch q)
theorem Ey (a) (b):decide ((Sum.inr a:Key)=Sum.inl b)=false :=decide_eq_false (λq=>nomatch q)
def bU (prog:qaO) (w:World):PySem.KeyKind prog w Key where
 is:=pW
 hash:=HS w
 inj:=λv a b f hb=>by
  rcases bx f with⟨i,t,rfl,rfl⟩|⟨x,t,rfl,rfl⟩
  ·rcases bx hb with⟨j,u,rfl,e⟩|⟨y,u,rfl,e⟩
   ·injection e with c _;rw[c]
   ·exact nomatch e
  ·rcases bx hb with⟨j,u,rfl,e⟩|⟨y,u,rfl,e⟩
   ·exact nomatch e
   ·injection e with c _;rw[c]
 byValue:=λk v h=>by
  rcases bx h with⟨i,t,rfl,rfl⟩|⟨x,t,rfl,rfl⟩<;>rfl
 pyHash:=λd h=>by
  rcases bx d with⟨i,t,rfl,rfl⟩|⟨x,t,rfl,rfl⟩
  ·exact wpAny_pyHash_int h
  ·exact wpAny_pyHash_str h
 eqBool:=λg d h=>by
  rcases bx g with⟨i,t,rfl,rfl⟩|⟨x,t,rfl,rfl⟩
  ·rcases bx d with⟨j,u,rfl,rfl⟩|⟨y,u,rfl,rfl⟩
   ·rw[Ew]at h;exact wpAny_eqBool_int h
   ·rw[Ex]at h;exact qgL i t y u _ _ _ _ h
  ·rcases bx d with⟨j,u,rfl,rfl⟩|⟨y,u,rfl,rfl⟩
   ·rw[Ey]at h;exact qgK x t j u _ _ _ _ h
   ·rw[Ez]at h;exact wpAny_eqBool_str h
 «strs»:=λk x t v h=>by
  rcases bx h with⟨i,u,rfl,e⟩|⟨y,u,rfl,e⟩
  ·exact nomatch e
  ·injection e with c _
   subst c;cases v<;>rfl
theorem uv (prog) (w) (i) (t):(bU prog w).is (.inl i) (.int i t)=true :=yE i t
theorem uw (prog) (w) (x) (t):(bU prog w).is (.inr x) (.str x t)=true :=yF x t
inductive V where
 |non|bl (b:Bool)|int (i:Int)|str (x:Str)|byt (b:Array UInt8)|flt (b:UInt64)|ref (a:Addr)|ty (n:String)
 deriving DecidableEq
def aM:V->Value->Prop
 |.non,u=>u=Value.none
 |.bl b,u=>u=Value.bool b
 |.int i,u=>∃ t,u=Value.int i t
 |.str x,u=>∃ t,u=Value.str x t
 |.byt b,u=>∃ t,u=Value.bytes b t
 |.flt b,u=>∃ t,u=Value.float b t
 |.ref a,u=>u=Value.ref a
 |.ty n,u=>u=Value.type n
abbrev aG:List V->List Value->Prop:=qgC aM
theorem aG.length (r:aG xs a):xs.length=a.length :=qff r
theorem aG.get:∀ {xs:List V}{a:List Value}{i:Nat}{x:V},aG xs a->xs[i]?=some x->∃ u,a[i]?=some u/\aM x u
 |_,_,_,_,.nil,e=>by simp at e
 |_,_,0,_,.cons r _,e=>by simp at e;subst e;exact⟨_,U,r⟩
 |_,_,i+1,x,.cons _ t,e=>by
  obtain⟨u,c,b⟩:=aG.get t (by simpa using e);exact⟨u,by simpa using c,b⟩
theorem aG.set {x:V}{u:Value} (r:aM x u):∀ {xs:List V}{a:List Value} (i:Nat),aG xs a->aG (xs.set i x) (a.set i u)
 |_,_,_,.nil=>.nil
 |_,_,0,.cons _ t=>.cons r t
 |_,_,i+1,.cons q t=>.cons q (aG.set r i t)
theorem aG.append:∀ {xs b:List V}{a ws:List Value},aG xs a->aG b ws->aG (xs++b) (a++ws)
 |_,_,_,_,.nil,s=>s
 |_,_,_,_,.cons r t,s=>.cons r (aG.append t s)
theorem aG.take:∀ {xs:List V}{a:List Value} (n:Nat),aG xs a->aG (xs.take n) (a.take n)
 |_,_,0,_=>.nil
 |_,_,_+1,.nil=>.nil
 |_,_,n+1,.cons r t=>.cons r (aG.take n t)
theorem aG.drop:∀ {xs:List V}{a:List Value} (n:Nat),aG xs a->aG (xs.drop n) (a.drop n)
 |_,_,0,r=>r
 |_,_,_+1,.nil=>.nil
 |_,_,n+1,.cons _ t=>aG.drop n t
def lK:Option V->Option Value->Prop
 |some v,some u=>aM v u
 |none,none=>True
 |_,_=>False
def KV {a:Type}:List (a×V)->List (a×Value)->Prop:=qgC λ(p:a×V) (q:a×Value)=>p.1=q.1/\aM p.2 q.2
def kV:Key->V
 |.inl i=>.int i
 |.inr x=>.str x
inductive HO where
 |lst (xs:List V)
 |tup (xs:List V)
 |dK (kvs:List (Key×V))|dT (kvs:List (List Key×V))
 |set (S:Int->Bool) (n:Nat)
 |ins (C dx:Addr) (fs:List (Str×V))
 |own (x:Addr)
 |xd (fs:List (Str×V))
 |met (f x:Addr)
 |rng (lo hi:Int)
 |frz (o:Obj) (u:HO)
 |tbl (ps:Array Value)
 |ext (φ:Heap->Prop)
abbrev Hp:=Addr->Option HO
noncomputable def upd (H:Hp) (a:Addr) (o:HO):Hp:=λb=>if b=a then some o else H b
theorem upd_same :upd H a o a=some o :=by unfold upd;rw[iFP U]
theorem upd_ne (h:b≠a):upd H a o b=H b :=by unfold upd;rw[iFN h]
theorem GD {H:Hp}(h:H a=some o) (h':H b=some u) (d:o≠u):a≠b :=by
 intro e;subst e;rw[h]at h';exact d (qaL h')
theorem aK {H:Hp}(h:H a=some o) (h':H b=none):a≠b :=by
 intro e;subst e;rw[h]at h';cases h'
def dE (h:Heap) (a:Addr) (its:Array Value):Prop:=∃ o:Obj,h.get? a=some o/\o.cls=.type "tuple"/\(∃ n,o.data=.seq its n)/\o.dict=none
theorem dE.tup (x:dE h a its):IsTup h a its :=let ⟨o,e,c,n,_⟩:=x;⟨o,e,c,n⟩
theorem dE.new (h:Heap) (its):dE (h.push { cls:=.type "tuple",data:=.seq its }) h.objs.size its :=⟨_,qar _ U,U,⟨_,U⟩,U⟩
section
variable (P:qaO) (w:World)
def bW (H:Hp) (h:Heap) (a:Addr):HO->Prop
 |.lst xs=>xs.length<=qaF/\∃ (its:List Value) (n:Nat),aG xs its/\h.get? a=some { cls:=.type "list",data:=.seq its.toArray n }
 |.tup xs=>xs.length<=qaF/\∃ its:List Value,aG xs its/\dE h a its.toArray
 |.dK b=>b.length<=qaF/\(a==qcD)=false/\∃ g,KV b g/\h.DictOf (bU P w) a g
 |.dT b=>b.length<=qaF/\(a==qcD)=false/\∃ xs:List (List Key×Addr×Value),
   qgC (λ(p:List Key×V) (q:List Key×Addr×Value)=>p.1=q.1/\H q.2.1=some (.tup (p.1.map kV))/\aM p.2 q.2.2) b xs/\
   ∃ o es j,h.get? a=some o/\o.ExactDict/\o.data=.dict es j/\es.toList=xs.map (entryOfKey (qgX (bU P w)))/\(xs.map (·.1)).Nodup
 |.set S n=>h.SetOf (intKind P w) a S n
 |.ins C d fs=>H d=some (.own a)/\fs.length<=1000/\d≠a/\h.get? a=some (qds C d)/\
   ∃ c,h.Ns1 d c/\(∀ f,lK (fs.lookup f) (c f))/\qg4 c (fs.map (·.1))
 |.own _=>∃ o,h.get? a=some o
 |.xd fs=>∃ c,h.Ns1 a c/\∀ f,lK (fs.lookup f) (c f)
 |.rng lo hi=>∃ t u v,h.get? a=some { cls:=.type "range",data:=.fields #[.int lo t,.int hi u,.int 1 v] }
 |.frz o u=>h.get? a=some o/\bW H h a u
 |.tbl ps=>h.get? a=some { cls:=.none,data:=.fields ps }
 |.met f x=>h.get? a=some (PySem.W.methodObj (.ref f) (.ref x))
 |.ext φ=>φ h/\(∃ o,h.get? a=some o)/\∀ i e:Heap,φ i->(∀ o,i.get? a=some o->e.get? a=some o)->φ e
def HOk (H:Hp) (h:Heap):Prop:=∀ a o,H a=some o->bW P w H h a o
end
section
variable {P:qaO}{w:World}{H H':Hp}{h h':Heap}{a:Addr}{o:HO}
theorem bW.lt (x:bW P w H h a o):a<h.objs.size:=by
 cases o with
 |lst xs=>obtain⟨_,_,_,_,e⟩:=x;exact qax e
 |tup xs=>obtain⟨_,_,_,p⟩:=x;exact p.tup.lt
 |dK l=>obtain⟨_,_,_,_,o,_,_,e,_⟩:=x;exact qax e
 |dT l=>obtain⟨_,_,_,_,o,_,_,e,_⟩:=x;exact qax e
 |set S n=>obtain⟨o,_,_,_,e,_⟩:=x;exact qax e
 |ins C D fs=>obtain⟨_,_,_,e,_⟩:=x;exact qax e
 |own y=>obtain⟨_,e⟩:=x;exact qax e
 |xd fs=>obtain⟨_,⟨_,_,_,e,_⟩,_⟩:=x;exact qax e
 |rng lo hi=>obtain⟨_,_,_,e⟩:=x;exact qax e
 |frz ob u=>obtain⟨e,_⟩:=x;exact qax e
 |tbl ps=>exact qax (x)
 |met f y=>exact qax (x)
 |ext φ=>obtain⟨_,⟨_,e⟩,_⟩:=x;exact qax e
theorem qgC.mapP :∀ {j:List α}{i},qgC F j i->(∀ a b,F a b->G a b)->qgC G j i
 |_,_,.nil,_=>.nil
 |_,_,.cons r t,f=>.cons (f _ _ r) (qgC.mapP t f)
theorem bW.stay (x:bW P w H h a o) (k:∀ b u,(b=a\/H b=some (.own a))->h.get? b=some u->h'.get? b=some u)
  (E:∀ b,H b=some (.own a)->H' b=some (.own a)) (I:∀ b xs,H b=some (.tup xs)->H' b=some (.tup xs)):bW P w H' h' a o:=by
 induction o with
 |lst xs=>obtain⟨z,its,n,r,e⟩:=x;exact⟨z,its,n,r,k _ _ (.inl U) e⟩
 |tup xs=>obtain⟨z,its,r,ob,e,c⟩:=x;exact⟨z,its,r,ob,k _ _ (.inl U) e,c⟩
 |dK l=>obtain⟨z,y,K,r,ob,es,g,e,c⟩:=x;exact⟨z,y,K,r,ob,es,g,k _ _ (.inl U) e,c⟩
 |dT l=>
  obtain⟨z,y,xs,r,ob,es,g,e,c⟩:=x;exact⟨z,y,xs,qgC.mapP r λp q z=>⟨z.1,I _ _ z.2.1,z.2.2⟩,ob,es,g,k _ _ (.inl U) e,c⟩
 |set S n=>obtain⟨ob,es,g,t,e,c⟩:=x;exact⟨ob,es,g,t,k _ _ (.inl U) e,c⟩
 |ins C D fs=>
  obtain⟨d,z,ne,e,s,⟨m,es,g,L,c⟩,r⟩:=x;exact⟨E _ d,z,ne,k _ _ (.inl U) e,s,⟨m,es,g,k _ _ (.inr d) L,c⟩,r⟩
 |own y=>obtain⟨ob,e⟩:=x;exact⟨ob,k _ _ (.inl U) e⟩
 |xd fs=>obtain⟨s,⟨m,es,g,e,c⟩,r⟩:=x;exact⟨s,⟨m,es,g,k _ _ (.inl U) e,c⟩,r⟩
 |rng lo hi=>obtain⟨t,u,v,e⟩:=x;exact⟨t,u,v,k _ _ (.inl U) e⟩
 |frz ob u J=>obtain⟨e,q⟩:=x;exact⟨k _ _ (.inl U) e,J q⟩
 |tbl ps=>
  exact k a _ (.inl U) x
 |met f y=>
  exact k a _ (.inl U) x
 |ext φ=>obtain⟨p,⟨o,e⟩,st⟩:=x;exact⟨st _ _ p λo q=>k _ _ (.inl U) q,⟨o,k _ _ (.inl U) e⟩,st⟩
theorem HOk.lt (x:HOk P w H h) (e:H a=some o):a<h.objs.size:=(x a o e).lt
theorem HOk.fresh (x:HOk P w H h) (e:h.objs.size<=a):H a=none:=by
 cases q:H a with
 |none=>rfl
 |some u=>exact absurd (qaP (x.lt q) e) (qa4 _)
theorem HOk.kept (x:HOk P w H h) (k:∀ b u,h.get? b=some u->h'.get? b=some u):HOk P w H h':=λa o e=>
 (x a o e).stay (λb u _ q=>k b u q) (λ_ q=>q) λ_ _ q=>q
theorem HOk.laid (x:HOk P w H h) (k:∀ b u,h.get? b=some u->h'.get? b=some u) (B:h.objs.size<=a) (new:bW P w (upd H a o) h' a o):HOk P w (upd H a o) h':=λb u e=>by
 have hn:=x.fresh B;by_cases hb:b=a
 ·subst hb;rw[upd_same]at e;cases e;exact new
 ·rw[upd_ne hb]at e
  exact (x b u e).stay (λc v _ q=>k c v q) (λc q=>by rw[upd_ne (aK q hn)];exact q) λc xs q=>by rw[upd_ne (aK q hn)];exact q
end
def Rd (H:Hp) (a:Addr) (u:HO):Prop:=H a=some u\/∃ o,H a=some (.frz o u)
theorem Rd.of (h:H a=some u):Rd H a u :=.inl h
theorem Rd.ok (r:Rd H a u) (x:HOk P w H h):bW P w H h a u :=by
 rcases r with r|⟨o,r⟩
 ·exact x a u r
 ·obtain⟨_,q⟩:=x a _ r
  exact q
def Mut:Option HO->Prop
 |some (.lst _)=>True
 |some (.dK _)=>True
 |some (.dT _)=>True
 |some (.set _ _)=>True
 |some (.ins _ _ _)=>True
 |some (.ext _)=>True
 |_=>False
section
variable {P:qaO}{w:World}{H:Hp}{h h':Heap}{x e:Addr}{j:HO}
theorem HOk.write (ok:HOk P w H h) (g:Mut (H x)) (l:e=x\/H e=some (.own x)) (k:∀ b u,b≠e->h.get? b=some u->h'.get? b=some u) (i:∃ u,h'.get? e=some u)
  (new:bW P w (upd H x j) h' x j):HOk P w (upd H x j) h':=λb u q=>by
 have d:∀ c y,H c=some (.own y)->c≠x:=λc y r z=>by subst z;rw[r]at g;exact g
 by_cases hb:b=x
 ·subst hb;rw[upd_same]at q;cases q;exact new
 ·rw[upd_ne hb]at q
  by_cases a:b=e
  ·have m:H b=some (.own x):=by
    rcases l with z|z
    ·exact absurd (a.trans z) hb
    ·rw[a];exact z
   rw[q]at m;cases m;obtain⟨v,n⟩:=i;exact⟨v,by rw[a];exact n⟩
  ·refine (ok b u q).stay (λc v f r=>k c v ?_ r) (λc r=>by rw[upd_ne (d c b r)];exact r) λc xs r=>by rw[upd_ne ((λc xs r z=>by subst z;rw[r]at g;exact g) c xs r)];exact r
   rcases f with rfl|f
   ·exact a
   ·rintro rfl
    rcases l with z|z
    ·exact d c b f z
    ·rw[f]at z;cases z;exact hb U
end
structure Un (fs ex:List Addr) (H H':Hp) (h h':Heap):Prop where
 keep:∀ b o,h.get? b=some o->H b=none->b∉fs->b∉ex->h'.get? b=some o
 slot:∀ b o,h.get? b=some o->H b=none->b∈fs->b∉ex->∃ sl,h'.get? b=some { o with slots:=sl }
 free:∀ b o,h.get? b=some o->H b=none->b∉ex->H' b=none
 there:∀ b o,h.get? b=some o->b∉ex->∃ o',h'.get? b=some o'
 tups:∀ b xs,H b=some (.tup xs)->H' b=some (.tup xs)
 frzs:∀ b o u,H b=some (.frz o u)->H' b=some (.frz o u)
 tbls:∀ b ps,H b=some (.tbl ps)->∃ more,H' b=some (.tbl (ps++more))
section
variable {fs m ex p:List Addr}{H H1 H2:Hp}{h g s h':Heap}{a x e:Addr}{o:HO}
theorem Un.any (u:Un fs ex H H1 h g) (q:h.get? b=some ob) (n:H b=none) (hx:b∉ex):∃ l,g.get? b=some { ob with slots:=l } :=by
 by_cases hb:b∈fs
 ·exact u.slot b ob q n hb hx
 ·exact⟨ob.slots,u.keep b ob q n hb hx⟩
theorem Un.kept (k:∀ b u,h.get? b=some u->h'.get? b=some u):Un fs ex H H h h':=
 ⟨λb ob q _ _ _=>k b ob q,λb ob q _ _ _=>⟨ob.slots,k b ob q⟩,λ_ _ _ n _=>n,λb ob q _=>⟨ob,k b ob q⟩,λ_ _ q=>q,λ_ _ _ q=>q,λ_ ps q=>⟨#[],by rw[q];simp⟩⟩
theorem Un.refl:Un fs ex H H h h:=Un.kept λ_ _ q=>q
theorem Un.laid (k:∀ b u,h.get? b=some u->h'.get? b=some u) (i:h.objs.size<=a) (hn:H a=none):Un fs ex H (upd H a o) h h' where
 keep:=λb u q _ _ _=>k b u q
 slot:=λb u q _ _ _=>⟨u.slots,k b u q⟩
 free:=λb u q n _=>by rw[upd_ne (qaC (qaP (qax q) i))];exact n
 there:=λb u q _=>⟨u,k b u q⟩
 tups:=λb xs q=>by rw[upd_ne (aK q hn)];exact q
 frzs:=λb u xs q=>by rw[upd_ne (aK q hn)];exact q
 tbls:=λb ps q=>⟨#[],by rw[upd_ne (aK q hn),q];simp⟩
theorem Un.write (d:Mut (H x)) (j:e=x\/H e=some (.own x)) (k:∀ b u,b≠e->h.get? b=some u->h'.get? b=some u) (f:∃ u,h'.get? e=some u):Un fs ex H (upd H x o) h h':=by
 have hx:∀ b,H b=none->b≠x:=λb n z=>by subst z;rw[n]at d;exact d
 have hb:∀ b,H b=none->b≠e:=λb n z=>by
  subst z;rcases j with r|r
  ·exact hx b n r
  ·rw[n]at r;cases r
 have hm:∀ b u,H b=some u->¬ Mut (some u)->b≠x:=λb u q nm z=>by subst z;rw[q]at d;exact nm d
 refine⟨λb u q n _ _=>k b u (hb b n) q,λb u q n _ _=>⟨u.slots,k b u (hb b n) q⟩,λb u q n _=>by rw[upd_ne (hx b n)];exact n,λb u q _=>?_,
  λb xs q=>by rw[upd_ne (hm b _ q λz=>z)];exact q,λb u xs q=>by rw[upd_ne (hm b _ q λz=>z)];exact q,λb ps q=>⟨#[],by rw[upd_ne (hm b _ q λz=>z),q];simp⟩⟩
 by_cases c:b=e
 ·subst c;exact f
 ·exact⟨u,k b u c q⟩
end
def trk (h:Heap) (H:Hp):List Addr:=(qak h.objs.size).filter λa=>(H a).isSome
def yu (h:Heap) (H:Hp):Heap:=PySem.W.hideAll h (trk h H)
theorem yv (h) (H):(yu h H).objs.size=h.objs.size :=PySem.W.hideAll_size _ _
theorem zN (e:h.get? b=some o) (n:H b=none):(yu h H).get? b=some o :=
 PySem.W.hideAll_get _ e λhm=>by
  have q:=(qbX.mp hm).2;rw[n]at q;simp at q
theorem Cu (e:(yu h H).get? b=some o):h.get? b=some o/\H b=none :=by
 have a:=PySem.W.of_hideAll _ e;refine⟨a,?_⟩;cases q:H b with
 |none=>rfl
 |some x=>
  have z:(yu h H).get? b=none:=PySem.W.hideAll_none _ (qbX.mpr ⟨qaD.mpr (qax a),by simp[q]⟩);rw[z]at e;cases e
structure Mod (K:qae) (mg:Str->Option Value) (base:Heap):Prop where
 kin:K.In base
 glob:base.Ns qck mg
 blt:∃ mb,base.Ns qhv mb/\∀ x:Str,x≠"__name__"->mb x=qcm x
 nolimit:base.NoLimit
structure Cx where
 prog:qaO
 w:World
 K:qae
 mg:Str->Option Value
 base:Heap
 A:qa1
 N:List Str
 s₀:qal
 H₀:Hp
 env:Env
 outer:List Env
 stack:List Env
 ex:List Addr
 fn:Str->Bool
 calm:Bool
 pn:List (Addr×Obj)
 xe:Value->qal->Prop
def frs (l:List Env):List Addr:=l.filterMap (·.frame)
abbrev Cx.fs (X:Cx):List Addr:=frs X.outer
def Vis (a:Scope) (x:Str):Prop:=a.names.lookup x=some .local\/a.names.lookup x=some .cell\/a.names.lookup x=some .free
def Loc (a:Scope) (x:Str):Prop:=a.names.lookup x=some .local\/a.names.lookup x=some .cell
def HB (env:Env) (h:Heap) (m:Str->Option Value) (x:Str) (u:Value):Prop:=
 (env.kindOf x=some .local/\m x=some u)\/((env.kindOf x=some .cell\/env.kindOf x=some .free)/\∃ c,env.cells.lookup x=some c/\h.IsCell c (some u))
structure Cx.Ok (X:Cx):Prop where
 mod:Mod X.K X.mg X.base
 kind:X.env.scope.kind=.function
 glob:X.env.globals=qck
 blt:X.env.builtins=qhv
 above:X.s₀.heap.objs.size<=X.env.locals
 inj:∀ x y c,X.env.cells.lookup x=some c->X.env.cells.lookup y=some c->x=y
 has:∀ x,(X.env.kindOf x=some .cell\/X.env.kindOf x=some .free)->∃ c,X.env.cells.lookup x=some c
 cab:∀ x c,X.fn x=true->X.env.cells.lookup x=some c->X.s₀.heap.objs.size<=c
 hd:X.calm=true->X.A.handled=none
 frames:X.A.frames=some X.stack
 stk:X.stack=X.outer\/(X.stack=X.env::X.outer/\X.env.frame=some X.env.locals)
 exf:∀ b∈X.ex,b≠X.env.locals/\∀ x c,X.env.cells.lookup x=some c->c≠b
 bs:∀ b o,X.base.get? b=some o->X.s₀.heap.get? b=some o/\X.H₀ b=none
 bsz:X.base.objs.size<=X.s₀.heap.objs.size
 noex:∀ b o,X.base.get? b=some o->b∉X.ex
 exfs:∀ b∈X.ex,b∉X.fs
 funs:X.s₀.heap.FunFrames X.base X.outer
 frf:∀ b∈X.fs,X.H₀ b=none
structure Inv (X:Cx) (pins:List (Addr×Obj)) (σ:List (Option V)) (H:Hp) (s:qal):Prop where
 ok:X.Ok
 os:s.os=X.s₀.os
 bare:qfZ s.gens
 base:Un X.fs X.ex X.H₀ H X.s₀.heap s.heap
 loc:∃ m,s.heap.Ns X.env.locals m/\∀ (i:Nat) (x:Str) (v:V),X.N[i]?=some x->σ[i]?=some (some v)->Vis X.env.scope x->∃ u,aM v u/\HB X.env s.heap m x u
 cell:∀ x c,X.env.cells.lookup x=some c->∃ v,s.heap.IsCell c v
 free:H X.env.locals=none
 freeC:∀ x c,X.env.cells.lookup x=some c->H c=none
 pin:∀ p∈X.pn++pins,s.heap.get? p.1=some p.2/\H p.1=none/\p.1≠X.env.locals/\p.1∉X.fs/\∀ v,p.2.data≠.cell v
 hok:HOk X.prog X.w H s.heap
 len:σ.length=X.N.length
section
variable {X:Cx}{f:List (Addr×Obj)}{g:List (Option V)}{H H':Hp}{s:qal}{h':Heap}
theorem Cx.Ok.nofr (ok:X.Ok) (e:X.base.get? b=some o):b∉X.fs :=λhb=>by
 have:=(ok.funs.mem hb).1
 rw[e]at this;cases this
theorem Inv.bs (I:Inv X f g H s):∀ b o,X.base.get? b=some o->s.heap.get? b=some o/\H b=none:=λb o e=>
 ⟨I.base.keep b o (I.ok.bs b o e).1 (I.ok.bs b o e).2 (I.ok.nofr e) (I.ok.noex b o e),I.base.free b o (I.ok.bs b o e).1 (I.ok.bs b o e).2 (I.ok.noex b o e)⟩
theorem Inv.bk (I:Inv X f g H s):∀ b o,X.base.get? b=some o->s.heap.get? b=some o:=λb o e=>(I.bs b o e).1
theorem Inv.mod (I:Inv X f g H s):Mod X.K X.mg X.base:=I.ok.mod
theorem Inv.kIn (I:Inv X f g H s):X.K.In s.heap:=I.ok.mod.kin.keeps I.bk
theorem Inv.fr (I:Inv X f g H s):∃ m,Fr X.base X.env.locals s.heap m:=
 let ⟨m,hn,_⟩:=I.loc
 ⟨m,hn,I.bk,qaN I.ok.bsz I.ok.above⟩
theorem Inv.lt (I:Inv X f g H s):X.env.locals<s.heap.objs.size:=let ⟨_,hn,_⟩:=I.loc;hn.lt
theorem Inv.sz (I:Inv X f g H s):X.s₀.heap.objs.size<=s.heap.objs.size:=qaN I.ok.above (qe4 I.lt)
theorem Inv.nofs (I:Inv X f g H s) {a:Addr} (h:s.heap.objs.size<=a):a∉X.fs:=λhb=>by
 obtain⟨_,o,D,_⟩:=I.ok.funs.mem hb;exact absurd (qaP (qax D) (qaN I.sz h)) (qa4 _)
theorem Inv.cne (I:Inv X f g H s):∀ x c,X.env.cells.lookup x=some c->c≠X.env.locals:=λx c e z=>by
 obtain⟨v,o,D,hd⟩:=I.cell x c e;obtain⟨m,⟨P,es,ep,O,hd',_⟩,_⟩:=I.loc;rw[z,O]at D;cases D;rw[hd']at hd;cases hd
theorem Inv.funs (I:Inv X f g H s):s.heap.FunFrames X.base X.outer:=by
 have all:∀ (l:List Env),(∀ b∈frs l,b∈X.fs)->X.s₀.heap.FunFrames X.base l->s.heap.FunFrames X.base l:=by
  intro l
  induction l with
  |nil=>intro _ _;trivial
  |cons env r ih=>
   intro F hl;obtain⟨hk,⟨L,o,W,hn,D,hd⟩,hr⟩:=hl;have S:=F L (by unfold frs;rw[qfi,W];exact qag);obtain⟨sl,e⟩:=I.base.slot L o D (I.ok.frf L S) S λz=>I.ok.exfs L z S;exact⟨hk,⟨L,_,W,hn,e,hd⟩,ih (λb hb=>F b (by unfold frs;rw[qfi,W];exact qaj _ hb)) hr⟩
 exact all X.outer (λ_ hb=>hb) I.ok.funs
theorem Inv.stack (I:Inv X f g H s):s.heap.FunFrames X.base X.stack:=by
 rcases I.ok.stk with e|⟨e,W⟩
 ·rw[e];exact I.funs
 ·rw[e]
  obtain⟨m,hn,_⟩:=I.loc;refine .cons (by rw[I.ok.kind];decide) W hn ?_ I.funs;exact Heap.get?_none_of_le (qaN I.ok.bsz I.ok.above)
theorem Inv.stkSub (I:Inv X f g H s):∀ b∈frs X.stack,b∈X.env.locals::X.fs:=λb hb=>by
 rcases I.ok.stk with e|⟨e,W⟩
 ·rw[e]at hb;exact qaj _ hb
 ·rw[e]at hb
  unfold frs at hb;rw[qfi,W]at hb;exact hb
theorem Inv.stkFree (I:Inv X f g H s):∀ b∈frs X.stack,H b=none:=λb hb=>by
 rcases qaw.mp (I.stkSub b hb) with e|hb
 ·rw[e];exact I.free
 ·obtain⟨_,o,D,_⟩:=I.ok.funs.mem hb
  exact I.base.free b o D (I.ok.frf b hb) λz=>I.ok.exfs b z hb
theorem Inv.step {ch:List Addr} (I:Inv X f g H s)
  (G:∀ b∈ch,(b∈X.ex\/X.s₀.heap.objs.size<=b)/\b≠X.env.locals/\(∀ x c,X.env.cells.lookup x=some c->c≠b)/\∀ p∈X.pn++f,p.1≠b)
  (keep:∀ b o,b≠X.env.locals->b∉X.fs->b∉ch->s.heap.get? b=some o->H b=none->h'.get? b=some o)
  (slot:∀ b o,b≠X.env.locals->b∈X.fs->b∉ch->s.heap.get? b=some o->H b=none->∃ sl,h'.get? b=some { o with slots:=sl }) (free:∀ b o,b∉ch->s.heap.get? b=some o->H b=none->H' b=none)
  (there:∀ b o,b∉ch->s.heap.get? b=some o->∃ P,h'.get? b=some P)
  (tups:∀ b xs,H b=some (.tup xs)->H' b=some (.tup xs)) (frzs:∀ b o u,H b=some (.frz o u)->H' b=some (.frz o u)) (tbls:∀ b ps,H b=some (.tbl ps)->∃ more,H' b=some (.tbl (ps++more)))
  (ns:∀ m,s.heap.Ns X.env.locals m->h'.Ns X.env.locals m) (hok:HOk X.prog X.w H' h') (hg:qfZ g') :
  Inv X f g H' { s with heap:=h',gens:=g',drawn:=d',toks:=t' } :=by
 have neL:∀ b o,X.s₀.heap.get? b=some o->b≠X.env.locals:=λb o e=>qaC (qaP (qax e) I.ok.above);have neC:∀ b o,X.s₀.heap.get? b=some o->b∉X.ex->b∉ch:=λb o e hx hb=>by
  rcases (G b hb).1 with z|z
  ·exact hx z
  ·exact absurd (qaP (qax e) z) (qa4 _)
 have cellK:∀ x c,X.env.cells.lookup x=some c->∀ v,s.heap.IsCell c v->h'.IsCell c v:=λx c e v ⟨o,D,hd⟩=>by
  have nch:=λz=>(G c z).2.2.1 x c e U;by_cases B:c∈X.fs
  ·obtain⟨sl,q⟩:=slot c o (I.cne x c e) B nch D (I.freeC x c e)
   exact⟨_,q,hd⟩
  ·exact⟨o,keep c o (I.cne x c e) B nch D (I.freeC x c e),hd⟩
 refine⟨I.ok,I.os,hg,⟨λb o e n hb hx=>?_,λb o e n hb hx=>?_,λb o e n hx=>?_,λb o e hx=>?_,λb xs e=>tups b xs (I.base.tups b xs e),λb o xs e=>frzs b o xs (I.base.frzs b o xs e),λb ps e=>?_⟩,?_,λx c e=>?_,?_,λx c e=>?_,λp R=>?_,hok,I.len⟩
 ·exact keep b o (neL b o e) hb (neC b o e hx) (I.base.keep b o e n hb hx) (I.base.free b o e n hx)
 ·obtain⟨sl,C⟩:=I.base.slot b o e n hb hx
  obtain⟨sl',J⟩:=slot b _ (neL b o e) hb (neC b o e hx) C (I.base.free b o e n hx);exact⟨sl',J⟩
 ·obtain⟨P,C⟩:=I.base.there b o e hx
  exact free b P (neC b o e hx) C (I.base.free b o e n hx)
 ·obtain⟨P,C⟩:=I.base.there b o e hx
  exact there b P (neC b o e hx) C
 ·obtain⟨m1,C⟩:=I.base.tbls b ps e
  obtain⟨m2,J⟩:=tbls b _ C;exact⟨_,by rw[J,Array.append_assoc]⟩
 ·obtain⟨m,hn,hl⟩:=I.loc
  refine⟨m,ns m hn,λi x v C J e3=>?_⟩;obtain⟨u,r,l⟩:=hl i x v C J e3;refine⟨u,r,?_⟩;rcases l with l|⟨k,c,e,z⟩
  ·exact .inl l
  ·exact .inr ⟨k,c,e,cellK x c e _ z⟩
 ·obtain⟨v,z⟩:=I.cell x c e
  exact⟨v,cellK x c e v z⟩
 ·obtain⟨m,⟨o,_,_,D,_⟩,_⟩:=I.loc
  exact free _ o (λz=>(G _ z).2.1 U) D I.free
 ·obtain⟨v,o,D,hd⟩:=I.cell x c e
  exact free c o (λz=>(G c z).2.2.1 x c e U) D (I.freeC x c e)
 ·obtain⟨e,n,ne,nf,d⟩:=I.pin p R
  have nch:=λz=>(G p.1 z).2.2.2 p R U;exact⟨keep p.1 p.2 ne nf nch e n,free p.1 p.2 nch e n,ne,nf,d⟩
theorem Inv.un (I:Inv X f g H s) (u:Un X.fs [] H H' s.heap h') (hok:HOk X.prog X.w H' h'):Inv X f g H' { s with heap:=h',toks:=t' } :=by
 obtain⟨m,⟨o,es,ep,D,r⟩,_⟩:=id I.loc;obtain⟨sl,S⟩:=u.any D I.free (by simp)
 exact I.step (ch:=[]) (λ_ z=>nomatch z) (λb o _ hb _ e n=>u.keep b o e n hb (by simp)) (λb o _ hb _ e n=>u.slot b o e n hb (by simp)) (λb o _ e n=>u.free b o e n (by simp)) (λb o _ e=>u.there b o e (by simp)) u.tups u.frzs u.tbls (λm' hm=>by
  obtain⟨P,es',ep',O,r'⟩:=hm;rw[D]at O;cases O
  exact⟨_,es',ep',S,r'⟩) hok I.bare
theorem Inv.call (I:Inv X f g H s) (u:Un (frs X.stack) ch H H' s.heap h') (hok:HOk X.prog X.w H' h') (hg:qfZ g')
  (G:∀ b∈ch,(b∈X.ex\/X.s₀.heap.objs.size<=b)/\b≠X.env.locals/\(∀ x c,X.env.cells.lookup x=some c->c≠b)/\∀ p∈X.pn++f,p.1≠b) :
  Inv X f g H' { s with heap:=h',gens:=g',drawn:=d',toks:=t' } :=by
 obtain⟨m,⟨o,es,ep,D,r⟩,_⟩:=id I.loc;obtain⟨sl,S⟩:=u.any D I.free λz=>(G _ z).2.1 U
 exact I.step G (λb o S hb B e n=>u.keep b o e n (λz=>(qaw.mp (I.stkSub b z)).elim S hb) B) (λb o _ _ B e n=>u.any e n B) (λb o B e n=>u.free b o e n B) (λb o B e=>u.there b o e B) u.tups u.frzs u.tbls (λm' hm=>by
  obtain⟨P,es',ep',O,r'⟩:=hm;rw[D]at O;cases O
  exact⟨_,es',ep',S,r'⟩) hok hg
theorem Inv.turned (I:Inv X f g H s) (k:∀ b o,b≠it->s.heap.get? b=some o->h'.get? b=some o) (hn:H it=none) (S:it≠X.env.locals)
  (h1:it∈X.ex\/X.s₀.heap.objs.size<=it) (h2:∀ x c,X.env.cells.lookup x=some c->c≠it) (h3:∀ p∈X.pn++f,p.1≠it):Inv X f g H { s with heap:=h',toks:=t' } :=by
 have nit:∀ b u,H b=some u->b≠it:=λb u e z=>by rw[z,hn]at e;cases e
 refine I.step (ch:=[it]) (λb hb=>?_) (λb o _ _ B e _=>k b o (λz=>B (by simp[z])) e) (λb o _ _ B e _=>⟨o.slots,k b o (λz=>B (by simp[z])) e⟩) (λ_ _ _ _ n=>n)
  (λb o B e=>⟨o,k b o (λz=>B (by simp[z])) e⟩) (λ_ _ e=>e) (λ_ _ _ e=>e) (λb ps e=>⟨#[],by rw[e];simp⟩) (λm hm=>?_) (λb u e=>?_) I.bare
 ·have e:=by simpa using hb
  subst e;exact⟨h1,S,h2,h3⟩
 ·obtain⟨o,es,ep,D,r⟩:=hm
  exact⟨o,es,ep,k _ o (qbp S) D,r⟩
 ·refine (I.hok b u e).stay (λc v B q=>k c v ?_ q) (λ_ q=>q) λ_ _ q=>q
  rcases B with z|z
  ·rw[z];exact nit b u e
  ·exact nit c _ z
theorem Inv.tok (I:Inv X f g H s) (t):Inv X f g H { s with toks:=t } :=I.un Un.refl I.hok
theorem Inv.kept (I:Inv X f g H s) (k:∀ b u,s.heap.get? b=some u->h'.get? b=some u):Inv X f g H { s with heap:=h',toks:=t' } :=I.un (Un.kept k) (I.hok.kept k)
theorem Inv.laid {a:Addr}(I:Inv X f g H s) (k:∀ b u,s.heap.get? b=some u->h'.get? b=some u) (R:s.heap.objs.size<=a) (new:bW X.prog X.w (upd H a o) h' a o) :
  Inv X f g (upd H a o) { s with heap:=h',toks:=t' } :=I.un (Un.laid k R (I.hok.fresh R)) (I.hok.laid k R new)
theorem Inv.write (I:Inv X f g H s) (mu:Mut (H x)) (he:e=x\/H e=some (.own x)) (k:∀ b u,b≠e->s.heap.get? b=some u->h'.get? b=some u) (heo:∃ u,h'.get? e=some u)
  (new:bW X.prog X.w (upd H x o) h' x o):Inv X f g (upd H x o) { s with heap:=h',toks:=t' } :=I.un (Un.write mu he k heo) (I.hok.write mu he k heo new)
theorem Inv.weak (I:Inv X f g H s) (hl:σ'.length=g.length) (w:∀ (i:Nat) v,σ'[i]?=some (some v)->g[i]?=some (some v)):Inv X f σ' H s :=
 ⟨I.ok,I.os,I.bare,I.base,let ⟨m,hn,hl'⟩:=I.loc;⟨m,hn,λi x v C J e3=>hl' i x v C (w i v J) e3⟩,I.cell,I.free,I.freeC,I.pin,I.hok,hl.trans I.len⟩
theorem Inv.pins_of (I:Inv X f g H s) (h:∀ p∈T,s.heap.get? p.1=some p.2/\H p.1=none/\p.1≠X.env.locals/\p.1∉X.fs/\∀ v,p.2.data≠.cell v):Inv X T g H s :=
 ⟨I.ok,I.os,I.bare,I.base,I.loc,I.cell,I.free,I.freeC,λp R=>(qaT.mp R).elim (λz=>I.pin p (qa9 _ z)) (h p),I.hok,I.len⟩
theorem uy {N:List Str} (hN:N.Nodup) { j:Nat}(a:N[i]?=some x) (b:N[j]?=some x):i=j :=by
 obtain⟨h1,C⟩:=qas.mp a;obtain⟨h2,J⟩:=qas.mp b;exact (qdV hN).mp (C.trans J.symm)
theorem y7 (I:Inv X f g H s) (hN:X.N.Nodup) (hi:X.N[i]?=some x) (hx:Loc X.env.scope x) (r:aM v u)
  (h:∀ s',Inv X f (g.set i (some v)) H s'->(∃ a,qdc a s.heap s'.heap/\(a=X.env.locals\/X.env.cells.lookup x=some a))->Q () s') (W:X.fn x=true\/X.env.scope.names.lookup x=some .local:=by first|exact .inl U|exact .inr U|assumption):wpAny M A (storeName X.env x u) Q E s :=by
 obtain⟨m,hn,hl⟩:=id I.loc;have hcls:(X.env.scope.kind==.class||(X.env.scope.kind==.module&&X.env.locals != X.env.globals))=false:=by rw[I.ok.kind];rfl
 have hiσ:i<g.length:=by rw[I.len];exact (qas.mp hi).1
 have cne:=I.cne;have K:∀ {a:Addr}{h':Heap},(∃ o,s.heap.get? a=some o/\H a=none)->qdc a s.heap h'->HOk X.prog X.w H h':=λ{a h'} ha F b ob e=>by
  obtain⟨_,_,Y⟩:=ha;refine (I.hok b ob e).stay (λc w' B q=>(F.2 c ?_).trans q) (λ_ q=>q) λ_ _ q=>q
  rintro rfl
  rcases B with rfl|B
  ·rw[Y]at e;cases e
  ·rw[Y]at B;cases B
 rcases hx with hk|hk
 ·refine wpAny_storeName_local hk hn (λh' hn' F=>?_) hcls
  obtain⟨oL,_,_,hoL,_⟩:=id hn;refine h _ ⟨I.ok,I.os,I.bare,⟨λb o e n hb hx=>?_,λb o e n hb hx=>?_,I.base.free,λb o e hx=>?_,I.base.tups,I.base.frzs,I.base.tbls⟩,⟨_,hn',λj y v' C J e3=>?_⟩,λy c e=>?_,I.free,I.freeC,λp R=>?_,K ⟨oL,hoL,I.free⟩ F,by simpa using I.len⟩ ⟨_,F,.inl U⟩
  ·exact (F.2 b (qaC (qaP (qax e) I.ok.above))).trans (I.base.keep b o e n hb hx)
  ·obtain⟨sl,C⟩:=I.base.slot b o e n hb hx
   exact⟨sl,(F.2 b (qaC (qaP (qax e) I.ok.above))).trans C⟩
  ·obtain⟨P,C⟩:=I.base.there b o e hx
   exact⟨P,(F.2 b (qaC (qaP (qax e) I.ok.above))).trans C⟩
  ·by_cases hj:j=i
   ·subst hj
    rw[hi]at C;cases C;rw[qbz hiσ]at J;cases J;exact⟨u,r,.inl ⟨hk,by simp⟩⟩
   ·rw[qbK (qbp hj)]at J
    obtain⟨u',r',q⟩:=hl j y v' C J e3;refine⟨u',r',?_⟩;rcases q with⟨k,e⟩|⟨k,c,e,z⟩
    ·refine .inl ⟨k,?_⟩
     have:y≠x:=λe=>hj (uy hN C (e ▸ hi))
     simp[this,e]
    ·exact .inr ⟨k,c,e,z.sameBut F (cne y c e)⟩
  ·obtain⟨w',z⟩:=I.cell y c e
   exact⟨w',z.sameBut F (cne y c e)⟩
  ·obtain⟨e,n,ne,nf,d⟩:=I.pin p R
   exact⟨(F.2 p.1 ne).trans e,n,ne,nf,d⟩
 ·have hfn:X.fn x=true:=by
   rcases W with z|z
   ·exact z
   ·rw[z]at hk;cases hk
  obtain⟨c,B⟩:=I.ok.has x (.inl hk);obtain⟨w',z⟩:=I.cell x c B;refine wpAny_storeName_cell I.ok.kind hk B z (λh' hc' F=>?_);obtain⟨oc,hoc,hocd⟩:=id z;refine h { s with heap:=h' } ⟨I.ok,I.os,I.bare,⟨λb o e n hb hx=>?_,λb o e n hb hx=>?_,I.base.free,λb o e hx=>?_,I.base.tups,I.base.frzs,I.base.tbls⟩,⟨m,hn.sameBut F (qbp (cne x c B)),λj y v' C J e3=>?_⟩,λy c' e=>?_,I.free,I.freeC,λp R=>?_,K ⟨oc,hoc,I.freeC x c B⟩ F,by simpa using I.len⟩ ⟨c,F,.inr B⟩
  ·exact (F.2 b (qaC (qaP (qax e) (I.ok.cab x c hfn B)))).trans (I.base.keep b o e n hb hx)
  ·obtain⟨sl,C⟩:=I.base.slot b o e n hb hx
   exact⟨sl,(F.2 b (qaC (qaP (qax e) (I.ok.cab x c hfn B)))).trans C⟩
  ·obtain⟨P,C⟩:=I.base.there b o e hx
   exact⟨P,(F.2 b (qaC (qaP (qax e) (I.ok.cab x c hfn B)))).trans C⟩
  ·by_cases hj:j=i
   ·subst hj
    rw[hi]at C;cases C;rw[qbz hiσ]at J;cases J;exact⟨u,r,.inr ⟨.inl hk,c,B,hc'⟩⟩
   ·rw[qbK (qbp hj)]at J
    obtain⟨u',r',q⟩:=hl j y v' C J e3;refine⟨u',r',?_⟩;rcases q with q|⟨k,c',e,z'⟩
    ·exact .inl q
    ·refine .inr ⟨k,c',e,z'.sameBut F ?_⟩
     rintro rfl
     exact hj (uy hN C (I.ok.inj _ _ _ e B ▸ hi))
  ·by_cases hcc:c'=c
   ·subst hcc;exact⟨_,hc'⟩
   ·obtain⟨w2,z2⟩:=I.cell y c' e
    exact⟨w2,z2.sameBut F hcc⟩
  ·obtain⟨e,n,ne,nf,d⟩:=I.pin p R
   refine⟨(F.2 p.1 ?_).trans e,n,ne,nf,d⟩;intro q;rw[q,hoc]at e;exact d w' (by rw[<-(qaL e)];exact hocd)
theorem cX (I:Inv X f g H s) (hN:X.N.Nodup) (hi:X.N[i]?=some x) (hx:Loc X.env.scope x) (r:aM v u)
  (h:∀ s',Inv X f (g.set i (some v)) H s'->Q () s') (W:X.fn x=true\/X.env.scope.names.lookup x=some .local:=by first|exact .inl U|exact .inr U|assumption):wpAny M A (storeName X.env x u) Q E s :=
 y7 I hN hi hx r (λs' I' _=>h s' I') W
theorem Inv.call' (I:Inv X f g H s) (D:s'.os=s.os) (u:Un (frs X.stack) ch H H' s.heap s'.heap) (hok:HOk X.prog X.w H' s'.heap) (hg:qfZ s'.gens)
  (G:∀ b∈ch,(b∈X.ex\/X.s₀.heap.objs.size<=b)/\b≠X.env.locals/\(∀ x c,X.env.cells.lookup x=some c->c≠b)/\∀ p∈X.pn++f,p.1≠b):Inv X f g H' s' :=by
 obtain⟨h',g',d',t',P⟩:=s';subst D;exact I.call u hok hg G
end
abbrev XK:=Value->Option Addr->Hp->Prop
abbrev St:=List (Option V)
abbrev VK:=V->Hp->Prop
abbrev TE:=St->Hp->VK->Prop
abbrev TT:=St->Hp->(Bool->Hp->Prop)->Prop
abbrev TA:=St->Hp->(List V->Hp->Prop)->Prop
structure mV where
 nx:St->Hp->Prop
 rt:VK
 bk:St->Hp->Prop:=λ_ _=>False
 ct:St->Hp->Prop:=λ_ _=>False
abbrev TS:=mV->St->Hp->Prop
def EP (X:Cx) (a:List (Addr×Obj)) (b:St) (Q:VK) (u:Value) (s':qal):Prop:=∃ v H',Inv X a b H' s'/\aM v u/\Q v H'
def TP (X:Cx) (a:List (Addr×Obj)) (c:St) (Q:Bool->Hp->Prop) (b:Bool) (s':qal):Prop:=∃ H',Inv X a c H' s'/\Q b H'
def AP (X:Cx) (a:List (Addr×Obj)) (c:St) (Q:List V->Hp->Prop) (d:List Value) (s':qal):Prop:=∃ b H',Inv X a c H' s'/\aG b d/\Q b H'
def SP (X:Cx) (b:List (Addr×Obj)) (D:mV) (f:Flow) (s':qal):Prop:=
 match f with
 |.next=>∃ a H',Inv X b a H' s'/\D.nx a H'
 |.brk=>∃ a H',Inv X b a H' s'/\D.bk a H'
 |.cont=>∃ a H',Inv X b a H' s'/\D.ct a H'
 |.ret u=>∃ v a H',Inv X b a H' s'/\aM v u/\D.rt v H'
def PE (X:Cx) (e:Expr) (t:TE):Prop:=
 ∀ (a:List (Addr×Obj)) (s:qal) (b:St) (H:Hp) (Q:VK),Inv X a b H s->t b H Q->wpAny (model X.prog X.w) X.A (eval e X.env) (EP X a b Q) X.xe s
def PT (X:Cx) (e:Expr) (t:TT):Prop:=
 ∀ (a:List (Addr×Obj)) (s:qal) (b:St) (H:Hp) (Q:Bool->Hp->Prop),Inv X a b H s->t b H Q->wpAny (model X.prog X.w) X.A (qkh e X.env (eval e X.env)) (TP X a b Q) X.xe s
def PW (X:Cx) (e:Expr) (t:TT):Prop:=
 ∀ (whole:Sem Value) (a:List (Addr×Obj)) (s:qal) (b:St) (H:Hp) (Q:Bool->Hp->Prop),Inv X a b H s->t b H Q->wpAny (model X.prog X.w) X.A (qkh e X.env whole) (TP X a b Q) X.xe s
theorem PW.pt (h:PW X e t):PT X e t :=h _
def PA (X:Cx) (es:List Expr) (t:TA):Prop:=
 ∀ (pos:Pos) (a:List (Addr×Obj)) (s:qal) (b:St) (H:Hp) (Q:List V->Hp->Prop),Inv X a b H s->t b H Q->wpAny (model X.prog X.w) X.A (spliced (qfq pos (qbA es X.env))) (AP X a b Q) X.xe s
def PS (X:Cx) (st:Stmt) (t:TS):Prop:=
 ∀ (a:List (Addr×Obj)) (s:qal) (b:St) (H:Hp) (D:mV),Inv X a b H s->t D b H->wpAny (model X.prog X.w) X.A (exec st X.env) (SP X a D) X.xe s
def PSs (X:Cx) (st:List Stmt) (t:TS):Prop:=
 ∀ (a:List (Addr×Obj)) (s:qal) (b:St) (H:Hp) (D:mV),Inv X a b H s->t D b H->wpAny (model X.prog X.w) X.A (execs st X.env) (SP X a D) X.xe s
theorem thn {t:Sem α}(h:wpAny M A t Q E s) (b:∀ a s,Q a s->Q' a s):wpAny M A t Q' E s :=qcC h b λ_ _ x=>x
section
variable {X:Cx}
def uQ (i:Nat):TE:=λg H Q=>∃ v,g[i]?=some (some v)/\Q v H
def tC (v:V):TE:=λ_ H Q=>Q v H
theorem jq {pos} (hN:X.N[i]?=some x) (C:Vis X.env.scope x) (hd:(x==("__debug__"))=false:=by decide) (F:(x==("__classdict__"))=false:=by decide):PE X (.Name x pos) (uQ i) :=by
 intro f s g H Q I h;obtain⟨v,e,h⟩:=h;obtain⟨m,hn,K⟩:=I.loc;obtain⟨u,r,l⟩:=K i x v hN e C;have fin:EP X f g Q u s:=⟨v,H,I,r,h⟩;rcases l with⟨A,hm⟩|⟨A,c,D,q⟩
 ·exact qi0 (wpAny_loadName_local I.ok.kind A hn hm fin) hd
 ·rcases A with A|A
  ·exact qi0 (wpAny_loadName_cell I.ok.kind A D q fin) hd
  ·exact qi0 (wpAny_loadName_free I.ok.kind A D q fin F) hd
theorem EY :PE X (.Constant (.int i) j pos) (tC (.int i)) :=λ_ _ _ H _ I h=>wpAny_Constant_int ⟨.int i,H,I.tok _,⟨_,U⟩,h⟩
theorem GN :PE X (.Constant (.bool b) j pos) (tC (.bl b)) :=λ_ _ _ H _ I h=>Constant_bool ⟨.bl b,H,I,U,h⟩
theorem EZ :PE X (.Constant .none j pos) (tC .non) :=λ_ _ _ H _ I h=>Constant_none ⟨.non,H,I,U,h⟩
theorem E2 :PE X (.Constant (.str x) j pos) (tC (.str x)) :=λ_ _ _ H _ I h=>Calls.Constant_str ⟨.str x,H,I.tok _,⟨_,U⟩,h⟩
def Gl (X:Cx) (x:Str):Prop:=X.env.kindOf x=some .globalImplicit
theorem wW {g:St}(I:Inv X f g H s) (hg:Gl X x) (hm:X.mg x=some u) (h:Q u s)
  (hd:(x==("__debug__"))=false:=by decide):wpAny (model X.prog X.w) X.A (eval (.Name x pos) X.env) Q E s :=
 qgn I.ok.kind hg (Calls.loadGlobal_global (by rw[I.ok.glob];exact I.mod.glob.keeps I.bk) hm h) hd
theorem hJ {E}{g:St}{pos}(I:Inv X f g H s) (hg:Gl X x) (hm:X.mg x=none) (C:qcm x=some u) (h:Q u s)
  (hn:x≠"__name__":=by decide) (hd:(x==("__debug__"))=false:=by decide):wpAny (model X.prog X.w) X.A (eval (.Name x pos) X.env) Q E s :=by
 obtain⟨M,L,J⟩:=I.mod.blt;exact qgn I.ok.kind hg (Calls.loadGlobal_builtin (by rw[I.ok.glob];exact I.mod.glob.keeps I.bk) hm (by rw[I.ok.blt];exact L.keeps I.bk) ((J x hn).trans C) h) hd
theorem CF {pos} (hg:Gl X x) (hm:X.mg x=none) (C:qcm x=some u) (r:aM v u) (hn:x≠"__name__":=by decide) (hd:(x==("__debug__"))=false:=by decide):PE X (.Name x pos) (tC v) :=
 λ_ _ _ H _ I h=>hJ I hg hm C ⟨v,H,I,r,h⟩ hn hd
variable {a b:Expr}{z y:TE}{pos:Pos}
variable {p w:TT}{k:List Expr}
def Ik (t u:TT):TT:=λg H Q=>t g H λc H1=>if c=true then u g H1 Q else Q false H1
def tOr (t u:TT):TT:=λg H Q=>t g H λc H1=>if c=true then Q true H1 else u g H1 Q
def Iu (t:TT):TT:=λg H Q=>t g H λc H1=>Q (!c) H1
theorem CW (n:PT X a p):PW X (.BoolOp .And [a] pos) p:=by
 intro B f s g H Q I h;refine isTrue_and (thn (n f s g H Q I h) λc s1 e=>?_);cases c with
 |true=>exact isTrue_and_nil e
 |false=>exact e
theorem Fb (n:PT X a p):PW X (.BoolOp .Or [a] pos) p:=by
 intro B f s g H Q I h;refine isTrue_or (thn (n f s g H Q I h) λc s1 e=>?_);cases c with
 |false=>exact isTrue_or_nil e
 |true=>exact e
theorem AS (n:PT X a p) (hb:PW X (.BoolOp .And (b::k) pos) w):PW X (.BoolOp .And (a::b::k) pos) (Ik p w):=by
 intro B f s g H Q I h;refine isTrue_and (thn (n f s g H _ I h) λc s1 ⟨H1,I1,o⟩=>?_);cases c with
 |true=>exact hb B f s1 g H1 Q I1 o
 |false=>exact⟨H1,I1,o⟩
theorem DH (n:PT X a p) (hb:PW X (.BoolOp .Or (b::k) pos) w):PW X (.BoolOp .Or (a::b::k) pos) (tOr p w):=by
 intro B f s g H Q I h;refine isTrue_or (thn (n f s g H _ I h) λc s1 ⟨H1,I1,o⟩=>?_);cases c with
 |true=>exact⟨H1,I1,o⟩
 |false=>exact hb B f s1 g H1 Q I1 o
theorem E9 (n:PT X a p):PT X (.UnaryOp .Not a pos) (Iu p):=by
 intro f s g H Q I h;exact isTrue_not (n f s g H _ I h)
def Hc (z y:TE):TE:=λg H Q=>z g H λx H1=>∃ c,x=.bl c/\if c=true then y g H1 Q else Q (.bl false) H1
theorem E1 (h:PE X a t):PE X (.BoolOp op [a] pos) t :=λf s g H Q I hw=>BoolOp_one (h f s g H Q I hw)
theorem At (n:PE X a z) (hb:PE X (.BoolOp .And (b::k) pos) y):PE X (.BoolOp .And (a::b::k) pos) (Hc z y):=by
 intro f s g H Q I h;refine BoolOp_and (thn (n f s g H _ I h) λv s1 ⟨x,H1,I1,G,o⟩=>?_);obtain⟨c,rfl,o⟩:=o;cases G;refine qcu ?_;cases c with
 |true=>exact hb f s1 g H1 Q I1 o
 |false=>exact⟨.bl false,H1,I1,U,o⟩
def tIf (t:TT) (z y:TE):TE:=λg H Q=>t g H λc H1=>if c=true then z g H1 Q else y g H1 Q
theorem uA (D:PT X c p) (n:PE X a z) (hb:PE X b y):PE X (.IfExp c a b pos) (tIf p z y) :=by
 intro f s g H Q I h;refine wpAny_IfExp (thn (D f s g H _ I h) λd s1 ⟨H1,I1,o⟩=>?_);cases d with
 |true=>exact n f s1 g H1 Q I1 o
 |false=>exact hb f s1 g H1 Q I1 o
end
def SqL (K:qae) (H:Hp) (a:Addr) (xs:List V):Prop:=
 Rd H a (.lst xs)\/
  ∃ (o:Obj) (its:Array Value) (n:Nat),K.lookup a=some o/\o.cls=.type "list"/\o.dict=none/\o.data=.seq its n/\its.size<=qaF/\aG xs its.toList
def SqT (K:qae) (H:Hp) (a:Addr) (xs:List V):Prop:=
 H a=some (.tup xs)\/
  ∃ (o:Obj) (its:Array Value) (n:Nat),K.lookup a=some o/\o.cls=.type "tuple"/\o.data=.seq its n/\its.size<=qaF/\aG xs its.toList/\o.dict=none
def HD:Value->Option V
 |.none=>some .non
 |.bool b=>some (.bl b)
 |.int i _=>some (.int i)
 |.str x _=>some (.str x)
 |.bytes b _=>some (.byt b)
 |.float b _=>some (.flt b)
 |.ref a=>some (.ref a)
 |.type n=>some (.ty n)
 |_=>none
theorem aM.abs (r:aM x u):HD u=some x :=by
 cases x with
 |non=>cases r;rfl
 |bl _=>cases r;rfl
 |int _=>obtain⟨t,rfl⟩:=r;rfl
 |str _=>obtain⟨t,rfl⟩:=r;rfl
 |byt _=>obtain⟨t,rfl⟩:=r;rfl
 |flt _=>obtain⟨t,rfl⟩:=r;rfl
 |ref _=>cases r;rfl
 |ty _=>cases r;rfl
theorem aM.inj (r:aM x u) (q:aM y u):x=y :=qaL (r.abs.symm.trans q.abs)
theorem aG.inj:∀ {xs b:List V}{a:List Value},aG xs a->aG b a->xs=b
 |_,_,_,.nil,.nil=>rfl
 |_,_,_,.cons r t,.cons c t'=>by rw[r.inj c,aG.inj t t']
section
variable {X:Cx}{b:List (Addr×Obj)}{f:St}{H:Hp}{s:qal}{a:Addr}{xs l:List V}
theorem SqL.of {K} (h:H a=some (.lst xs)):SqL K H a xs :=.inl (.inl h)
theorem SqT.of {K} (h:H a=some (.tup xs)):SqT K H a xs :=.inl h
theorem Inv.list (I:Inv X b f H s) (h:SqL X.K H a xs):∃ its,aG xs its/\PlainL s.heap a its.toArray/\xs.length<=qaF :=by
 rcases h with h|⟨o,its,n,i,g,hd,m,hz,r⟩
 ·obtain⟨z,its,n,r,e⟩:=h.ok I.hok
  exact⟨its,r,⟨_,n,e,U,U,U⟩,z⟩
 ·refine⟨its.toList,r,⟨o,n,I.kIn a o i,g,hd,by simpa using m⟩,?_⟩
  have e:=r.length;simp only[qcU]at e;lia
theorem Inv.tuple (I:Inv X b f H s) (h:SqT X.K H a xs):∃ its,aG xs its/\IsTup s.heap a its.toArray/\xs.length<=qaF :=by
 rcases h with h|⟨o,its,n,i,g,m,hz,r,_⟩
 ·obtain⟨z,its,r,p⟩:=(Rd.of h).ok I.hok
  exact⟨its,r,p.tup,z⟩
 ·refine⟨its.toList,r,⟨o,I.kIn a o i,g,n,by simpa using m⟩,?_⟩
  have e:=r.length;simp only[qcU]at e;lia
theorem Inv.tuple1 (I:Inv X b f H s) (h:SqT X.K H a xs):∃ o,s.heap.get? a=some o/\o.cls=.type "tuple"/\o.dict=none :=by
 rcases h with h|⟨o,its,n,i,g,m,hz,r,hd⟩
 ·obtain⟨z,its,r,o,e,c,_,hd⟩:=(Rd.of h).ok I.hok
  exact⟨o,e,c,hd⟩
 ·exact⟨o,I.kIn a o i,g,hd⟩
theorem Inv.list_inj (I:Inv X b f H s) (h:SqL X.K H a xs) (h':SqL X.K H a l):xs=l:=by
 obtain⟨its,r,⟨o,n,e,_,_,d⟩,_⟩:=I.list h;obtain⟨its',q,⟨t,u,j,_,_,k⟩,_⟩:=I.list h';rw[e]at j;cases j;rw[d]at k;injection k with d1 _
 have:=by simpa using congrArg qhb d1
 subst this;exact r.inj q
theorem Inv.tuple_inj (I:Inv X b f H s) (h:SqT X.K H a xs) (h':SqT X.K H a l):xs=l:=by
 obtain⟨its,r,⟨o,e,_,n,d⟩,_⟩:=I.tuple h;obtain⟨its',q,⟨t,j,_,u,k⟩,_⟩:=I.tuple h';rw[e]at j;cases j;rw[d]at k;injection k with d1 _
 have:=by simpa using congrArg qhb d1
 subst this;exact r.inj q
end
abbrev Cx.wish (X:Cx) (E:Value->qal->Prop):Cx:={ X with xe:=E }
abbrev Cx.nox (X:Cx):Cx:=X.wish λ_ _=>False
theorem Cx.Ok.wish {X:Cx} (ok:X.Ok) (E):(X.wish E).Ok :=
 ⟨ok.mod,ok.kind,ok.glob,ok.blt,ok.above,ok.inj,ok.has,ok.cab,ok.hd,ok.frames,ok.stk,ok.exf,ok.bs,ok.bsz,ok.noex,ok.exfs,ok.funs,ok.frf⟩
theorem Cx.Ok.unwish {X:Cx}(ok:(X.wish E).Ok):X.Ok :=
 ⟨ok.mod,ok.kind,ok.glob,ok.blt,ok.above,ok.inj,ok.has,ok.cab,ok.hd,ok.frames,ok.stk,ok.exf,ok.bs,ok.bsz,ok.noex,ok.exfs,ok.funs,ok.frf⟩
section
variable {X:Cx}{a:List (Addr×Obj)}{c:St}{H:Hp}{s:qal}{E:Value->qal->Prop}
theorem Inv.wish (I:Inv X a c H s) (E):Inv (X.wish E) a c H s :=⟨I.ok.wish E,I.os,I.bare,I.base,I.loc,I.cell,I.free,I.freeC,I.pin,I.hok,I.len⟩
theorem Inv.unwish (I:Inv (X.wish E) a c H s):Inv X a c H s:=⟨I.ok.unwish,I.os,I.bare,I.base,I.loc,I.cell,I.free,I.freeC,I.pin,I.hok,I.len⟩
theorem SP.unwish (h:SP (X.wish E) a D f s'):SP X a D f s' :=by
 cases f with
 |next=>obtain⟨b,H',I,q⟩:=h;exact⟨b,H',I.unwish,q⟩
 |brk=>obtain⟨b,H',I,q⟩:=h;exact⟨b,H',I.unwish,q⟩
 |cont=>obtain⟨b,H',I,q⟩:=h;exact⟨b,H',I.unwish,q⟩
 |ret u=>obtain⟨v,b,H',I,r,q⟩:=h;exact⟨v,b,H',I.unwish,r,q⟩
theorem PSs.nox {st}(h:PSs X.nox st t):PSs X st t :=λa s c H D I hw=>
 qcC (h a s c H D (I.wish _) hw) (λ_ _ q=>q.unwish) λ_ _ z=>qcL z
end
section
variable {X:Cx}{st:Stmt}{j:List Stmt}{t u:TS}{e:Expr}{te:TE}{pos:Pos}
def Hl:TS:=λD i H=>D.nx i H
def Iw (t u:TS):TS:=λD i H=>t { D with nx:=u D } i H
theorem CS:PSs X [] Hl:=λ_ _ i H _ I h=>qfm ⟨i,H,I,h⟩
theorem cV (o:PS X st t) (z:PSs X j u):PSs X (st::j) (Iw t u):=by
 intro g s i H D I h;refine qjm (thn (o g s i H { D with nx:=u D } I h) λf s1 q=>?_);cases f with
 |next=>
  obtain⟨m,H',I',q⟩:=q;exact z g s1 m H' D I' q
 |ret v=>exact q
 |brk=>exact q
 |cont=>exact q
theorem xE (o:PS X st t):PSs X [st] t:=by
 intro g s i H D I h;refine qjm (thn (o g s i H D I h) λf s1 q=>?_);cases f with
 |next=>exact qfm q
 |ret v=>exact q
 |brk=>exact q
 |cont=>exact q
def FC:TS:=λD i H=>D.bk i H
def Hg:TS:=λD i H=>D.ct i H
theorem AJ:PS X (.Break pos) FC:=λ_ _ i H _ I h=>wpAny_Break ⟨i,H,I,h⟩
theorem uE:PS X (.Continue pos) Hg:=λ_ _ i H _ I h=>wpAny_Continue ⟨i,H,I,h⟩
theorem Inv.quiet {i:St}(I:Inv X g i H s):interactive X.env=false :=by simp[interactive,I.ok.kind]
def Hi (te:TE):TS:=λD i H=>te i H λ_ H1=>D.nx i H1
theorem CP (l:PE X e te) (A:qcq e none pos.line X.env=pure false:=by rfl):PS X (.Expr e pos) (Hi te):=by
 intro g s i H D I h;exact wpAny_Expr_any (thn (l g s i H _ I h) λv s1 ⟨x,H1,I1,p,k⟩=>⟨i,H1,I1,k⟩) I.quiet A
def Iv (te:TE):TS:=λD i H=>te i H D.rt
theorem E7 (l:PE X e te):PS X (.Return (some e) pos) (Iv te):=by
 intro g s i H D I h;exact wpAny_Return_some (thn (l g s i H _ I h) λv s1 ⟨x,H1,I1,p,k⟩=>⟨x,i,H1,I1,p,k⟩)
def Io (c:TT) (t u:TS):TS:=λD i H=>c i H λb H1=>if b=true then t D i H1 else u D i H1
theorem DG (w:PT X c r) (y:PSs X a t) (hb:PSs X b u):PS X (.If c a b pos) (Io r t u) :=by
 intro g s i H D I h;refine wpAny_If (thn (w g s i H _ I h) λd s1 ⟨H1,I1,k⟩=>?_);cases d with
 |true=>exact y g s1 i H1 D I1 k
 |false=>exact hb g s1 i H1 D I1 k
def FE:TS:=λ_ _ _=>False
theorem fE :PSs X n FE :=λ_ _ _ _ _ _ h=>h.elim
end
abbrev TG:=V->St->Hp->(St->Hp->Prop)->Prop
abbrev TGs:=List V->St->Hp->(St->Hp->Prop)->Prop
def PG (X:Cx) (a:Expr) (t:TG):Prop:=
 ∀ (b:List (Addr×Obj)) (s:qal) (d:St) (H:Hp) (v:V) (u:Value) (Q:St->Hp->Prop),Inv X b d H s->aM v u->t v d H Q->
  wpAny (model X.prog X.w) X.A (qgz a X.env u) (λ_ s'=>∃ c H',Inv X b c H' s'/\Q c H') X.xe s
def PGs (X:Cx) (f:List Expr) (t:TGs):Prop:=
 ∀ (a:List (Addr×Obj)) (s:qal) (c:St) (H:Hp) (d:List V) (e:List Value) (Q:St->Hp->Prop),Inv X a c H s->aG d e->t d c H Q->
  wpAny (model X.prog X.w) X.A (assignInOrder ((qb7 f X.env).map (·.2)) e) (λ_ s'=>∃ b H',Inv X a b H' s'/\Q b H') X.xe s
abbrev DX:=V->V->V->Hp->(Hp->Prop)->Prop
def FT (X:Cx) (t:DX):Prop:=
 ∀ (a:List (Addr×Obj)) (s:qal) (b:St) (H:Hp) (o i v:V) (c iv u:Value) (Q:Hp->Prop),Inv X a b H s->aM o c->aM i iv->aM v u->t o i v H Q->
  wpAny (model X.prog X.w) X.A (qkc c iv u) (λ_ s'=>∃ H',Inv X a b H' s'/\Q H') X.xe s
section
variable {X:Cx}{pos:Pos}
def lv (i:Nat):TG:=λv d H Q=>Q (d.set i (some v)) H
theorem f8 (hN:X.N.Nodup) (hi:X.N[i]?=some x) (hx:Loc X.env.scope x) (R:X.fn x=true\/X.env.scope.names.lookup x=some .local:=by first|exact .inl U|exact .inr U|assumption):PG X (.Name x pos) (lv i) :=by
 intro c s d H v u Q I r h;exact qiZ (cX I hN hi hx r (λs' I'=>⟨_,H,I',h⟩) R)
def HK:TGs:=λz d H Q=>z=[]/\Q d H
def Gd (t:TG) (u:TGs):TGs:=λz d H Q=>∃ v r,z=v::r/\t v d H λS H'=>u r S H' Q
theorem xy:PGs X [] HK:=by
 intro c s d H z us Q I r h;obtain⟨e,h⟩:=h;exact qgr ⟨d,H,I,h⟩
theorem kh (h1:PG X e t) (h2:PGs X es u)
  (l:(qb7 (e::es) X.env).map (·.2)=qgz e X.env::(qb7 es X.env).map (·.2):=by rfl):PGs X (e::es) (Gd t u) :=by
 intro c s d H z us Q I r h;obtain⟨v,vr,E,h⟩:=h;subst E;cases r with
 |cons r rr=>
  rw[l];refine qdf (thn (h1 c s d H _ _ _ I r h) λ_ s1 ⟨σ1,H1,I1,f⟩=>?_);exact h2 c s1 σ1 H1 _ _ Q I1 rr f
def HM (K:qae) (n:Nat) (t:TGs):TG:=λv d H Q=>∃ a xs,v=.ref a/\SqT K H a xs/\xs.length=n/\t xs d H Q
theorem AA {k}(T:X.calm=true) (h:PGs X es t)
  (hn:(qb7 es X.env).length=n:=by rfl) (W:(qb7 es X.env).findIdx? (·.1)=none:=by rfl):PG X (.Tuple es k pos) (HM X.K n t) :=by
 intro c s d H v u Q I r hw;obtain⟨a,xs,E,hq,hl,hw⟩:=hw;subst E;cases r;obtain⟨its,J,ht,hz⟩:=I.tuple hq;refine assign_Tuple_tuple (I.ok.hd T) ht (by simp[hn,<-hl,J.length]) W λh' hx=>?_;exact h c _ d H xs _ Q (I.kept λb o e=>hx b o (qaC (qax e)) e) (by simpa using J) hw
def HL (to ti:TE) (t:DX):TG:=λv d H Q=>to d H λo H1=>ti d H1 λi H2=>t o i v H2 λH3=>Q d H3
theorem sE (ho:PE X o to) (hi:PE X i ti) (l:FT X t)
  (P:∀ v,qgz (.Subscript o i pos) X.env v=(do
    let B <-qfP [v] (eval o X.env)
    let iv <-qfP [v,B] (eval i X.env)
    qka pos
    qfP [v,B,iv] (qkc B iv v)
    release [v,B,iv] []):=by intro _;rfl):PG X (.Subscript o i pos) (HL to ti t) :=by
 intro c s d H v u Q I r h;rw[P];refine qaa (qb4 (thn (ho c s d H _ I h) λB s1 ⟨x,H1,I1,A,f⟩=>?_));refine qaa (qb4 (thn (hi c s1 d H1 _ I1 f) λiv G ⟨y,H2,I2,r2,q2⟩=>?_));refine qaa (qee (qaa (qb4 (thn (l c G d H2 x y v B iv u _ I2 A r2 r q2) λ_ s3 ⟨H3,I3,q3⟩=>?_))));exact wpAny_release ⟨d,H3,I3,q3⟩
def FB (te:TE) (g:TG):TS:=λD d H=>te d H λx H1=>g x d H1 D.nx
theorem oG (O:PE X e te) (hg:PG X C g) (l:qc2 [C] e pos.line X.env=pure false:=by rfl) (hw:qc3 [C] e X.env=pure none:=by rfl)
  (h1:(qb7 [C] X.env).map (·.2)=[qgz C X.env]:=by rfl):PS X (.Assign [C] e pos) (FB te g) :=by
 intro c s d H D I h;refine wpAny_Assign_stores (thn (O c s d H _ I h) λv s1 ⟨x,H1,I1,A,f⟩=>?_) l hw;rw[h1];exact thn (hg c s1 d H1 x v _ I1 A f) λ_ G q=>q
theorem E8 (hN:X.N.Nodup) (hi:X.N[i]?=some x) (hx:Loc X.env.scope x) (O:PE X e te) (l:qcq e (some (.Name x m)) pos.line X.env=pure false:=by rfl) (R:X.fn x=true\/X.env.scope.names.lookup x=some .local:=by first|exact .inl U|exact .inr U|assumption) :
  PS X (.Assign [.Name x m] e pos) (FB te (lv i)) :=by
 intro c s d H D I h;refine wpAny_Assign_Name (thn (O c s d H _ I h) λv s1 ⟨y,H1,I1,A,f⟩=>?_) l;exact cX I1 hN hi hx A (λG I2=>⟨_,H1,I2,f⟩) R
def Hm (i j:Nat) (L:TA):TS:=λD d H=>L d H λz H1=>∃ v w,z=[v,w]/\D.nx ((d.set i (some v)).set j (some w)) H1
theorem sF (T:X.calm=true) (hN:X.N.Nodup) (hi:X.N[i]?=some x) (hj:X.N[j]?=some y) (hij:i≠j)
  (hx:X.env.scope.names.lookup x=some .local) (hy:X.env.scope.names.lookup y=some .local) (P:PA X [a,b] L)
  (hw:qc3 [.Tuple [.Name x N,.Name y py] kt pt] (.Tuple [a,b] k2 pt2) X.env=pure (some [x,y]))
  (l:qc2 [.Tuple [.Name x N,.Name y py] kt pt] (.Tuple [a,b] k2 pt2) pos.line X.env=pure false:=by rfl) :
  PS X (.Assign [.Tuple [.Name x N,.Name y py] kt pt] (.Tuple [a,b] k2 pt2) pos) (Hm i j L) :=by
 intro c s d H D I h;refine qaa (qee ?_);refine qaa (qam ?_);refine qaa (Tuple_ (thn (P _ c s d H _ I h) λus s1 ⟨z,H1,I1,A,f⟩=>?_));obtain⟨v,w,E,f⟩:=f;subst E;obtain⟨F,M,rfl,J,Y⟩:∃ F M,us=[F,M]/\aM v F/\aM w M:=by
  cases A with
  |cons p q=>
   cases q with
   |cons p' q'=>
    cases q';exact⟨_,_,U,p,p'⟩
 refine qb5 ?_ (by show 2<=qaF;decide);rw[hw];refine qaa (qam ?_);refine qaa (qcX (qaa (qi1 (items:=#[F,M]) (I.ok.hd T) (qkp s1.heap _) λh' V=>?_)));refine qaa (qdf (qeF (cX ((I1.kept λb o e=>qaf _ e).kept λb o e=>V b o (qaC (qax e)) e) hN hj (.inl hy) Y (λG I4=>?_) (.inr hy))));refine qdf (qeF (cX I4 hN hi (.inl hx) J (λs3 I5=>qgr (qam ?_)) (.inr hx)));rw[qfA _ _ (qbp hij)]at I5;exact⟨_,H1,I5,f⟩
end
section
variable {X:Cx}{pos:Pos}
def FF (c:TT) (o:TS):TS:=λD i H=>∃ W:Nat->St->Hp->Prop,(∃ m,W m i H)/\∀ m i H,W m i H->
 c i H λb H1=>if b=true then ∃ N:St->Hp->Prop,(∀ d H',N d H'->∃ j,j<m/\W j d H')/\o { D with nx:=N,ct:=N,bk:=D.nx } i H1 else D.nx i H1
theorem AO (r:qg5 (model X.prog X.w) X.A X.env X.xe) (w:PT X c t) (hb:PSs X body o):PS X (.While c body [] pos) (FF t o) :=by
 intro a s i H D I h;obtain⟨W,⟨m0,w0⟩,turn⟩:=h;refine wpAny_While (codeAny_whileLoop (λn s'=>∃ d H',Inv X a d H' s'/\W n d H') ?_ m0 ⟨i,H,I,w0⟩)
 rintro n s1 ⟨g,H1,I1,x⟩
 refine qdi r (thn (w a s1 g H1 _ I1 (turn n g H1 x)) λb u ⟨H2,I2,k⟩=>?_);cases b with
 |true=>
  obtain⟨N,hN,k⟩:=k;refine qdi r (thn (hb a u g H2 _ I2 k) λf y l=>?_);cases f with
  |next=>
   obtain⟨e,H3,I3,q⟩:=l;obtain⟨j,hm,p⟩:=hN e H3 q;exact⟨j,hm,e,H3,I3,p⟩
  |cont=>
   obtain⟨e,H3,I3,q⟩:=l;obtain⟨j,hm,p⟩:=hN e H3 q;exact⟨j,hm,e,H3,I3,p⟩
  |brk=>exact l
  |ret v=>exact l
 |false=>
  exact qfm ⟨g,H2,I2,k⟩
end
structure It where
 go:Nat->Hp->Prop
 yld:Nat->Hp->V->Hp->Prop
 stop:Nat->Hp->Prop
def iS (X:Cx) (a:List (Addr×Obj)) (H:Hp) (b:Addr):Prop:=
 H b=none/\b≠X.env.locals/\b∉X.fs/\(b∈X.ex\/X.s₀.heap.objs.size<=b)/\(∀ x c,X.env.cells.lookup x=some c->c≠b)/\∀ p∈X.pn++a,p.1≠b
theorem Inv.fpOk {d:St}{b:Addr} (I:Inv X a d H s) (hb:s.heap.objs.size<=b) (hn:H' b=none):iS X a H' b :=by
 refine⟨hn,qca (qaP I.lt hb),I.nofs hb,.inr (qaN I.sz hb),λx c e z=>?_,λp f z=>?_⟩
 ·obtain⟨v,q⟩:=I.cell x c e
  exact absurd (qaP q.lt (by rw[z];exact hb)) (qa4 _)
 ·exact absurd (qaP (qax (I.pin p f).1) (by rw[z];exact hb)) (qa4 _)
structure tm (P:qaO) (w:World) (K:qae) (tg:Expr) (J:It) (fp:List Addr) (it:Addr) (tn:Nat->Heap->Prop):Prop where
 mem:it∈fp
 obj:∀ i h,tn i h->∀ b∈fp,∃ o,h.get? b=some o/\∀ v,o.data≠.cell v
 keep:∀ i h h',tn i h->(∀ b∈fp,∀ o,h.get? b=some o->h'.get? b=some o)->tn i h'
 item:∀ (X:Cx),X.prog=P->X.w=w->X.K=K->X.calm=true->∀ (i:Nat) (pins:List (Addr×Obj)) (s:qal) (σ:St) (H:Hp) (E:Value->qal->Prop),Inv X pins σ H s->(∀ b∈fp,iS X pins H b)->tn i s.heap->J.go i H->
  wpAny (model P w) X.A (qeR (.ref it)) (λr s1=>∃ u,r=some u/\
   wpAny (model P w) X.A (qg0 tg (.ref it) u) (λ_ s2=>∃ x H',Inv X pins σ H' s2/\aM x u/\J.yld i H x H'/\tn (i+1) s2.heap/\∀ b∈fp,H' b=none) E s1) E s
 done:∀ (X:Cx),X.prog=P->X.w=w->X.K=K->X.calm=true->∀ (i:Nat) (pins:List (Addr×Obj)) (s:qal) (σ:St) (H:Hp) (E:Value->qal->Prop),Inv X pins σ H s->(∀ b∈fp,iS X pins H b)->tn i s.heap->J.stop i H->
  wpAny (model P w) X.A (qeR (.ref it)) (λr s1=>r=none/\Inv X pins σ H s1) E s
 self:∀ (A:qa1) (i:Nat) (s:qal) (Q:Value->qal->Prop) (E:Value->qal->Prop),tn i s.heap->Q (.ref it) s->wpAny (model P w) A (qid (.ref it)) Q E s
abbrev TI:=St->Hp->(It->Hp->Prop)->Prop
def PIE (X:Cx) (a:List (Addr×Obj)) (h:St) (g:Expr) (R:It->Hp->Prop) (c:Value) (e:qal):Prop:=
 ∃ (d:Addr) (fp:List Addr) (f:Nat->Heap->Prop) (J:It) (H':Hp),c=.ref d/\Inv X a h H' e/\tm X.prog X.w X.K g J fp d f/\f 0 e.heap/\(∀ b∈fp,iS X a H' b)/\R J H'
def PI (X:Cx) (c iter:Expr) (d:TI):Prop:=
 ∀ (a:List (Addr×Obj)) (s:qal) (b:St) (H:Hp) (R:It->Hp->Prop),Inv X a b H s->d b H R->
  wpAny (model X.prog X.w) X.A (eval iter X.env) (λv s1=>wpAny (model X.prog X.w) X.A (qid v) (PIE X a b c R) X.xe s1) X.xe s
theorem zM (d:s.heap.get? c=some o) (e:o.cls=.type n) (hd:o.data=.fields f)
  (hn:["enumerate","zip","dict_itemiterator","dict_reverseitemiterator","odict_iterator","itertools.zip_longest","itertools.pairwise"].contains n=false) (a:Q () s):wpAny M A (qg0 b (.ref c) u) Q E s :=by
 cases b<;>first
  |exact qam a
  | (cases u<;>first
      |exact qam a
      | (refine qaa (wpAny_load d ?_)
         rw[e,hd];show wpAny M A (if _=true then _ else _) Q E s;rw[iFN (by intro h;rw[hn]at h;cases h)]
         exact qam a))
def Itl (K:qae) (a:Addr):It:=
 ⟨λi H=>∃ xs x,SqL K H a xs/\xs[i]?=some x,λi H x H'=>H'=H/\∀ xs,SqL K H a xs->xs[i]?=some x,λi H=>∃ xs,SqL K H a xs/\xs.length<=i⟩
def Itt (K:qae) (a:Addr):It:=
 ⟨λi H=>∃ xs x,SqT K H a xs/\xs[i]?=some x,λi H x H'=>H'=H/\∀ xs,SqT K H a xs->xs[i]?=some x,λi H=>∃ xs,SqT K H a xs/\xs.length<=i⟩
def Itr (lo:Int) (n:Nat):It:=⟨λi _=>i<n,λi H x H'=>H'=H/\x=.int (lo+i),λi _=>n<=i⟩
theorem zb {K}(a f):tm P w K M (Itl K a) [f] f (λi h=>h.IsListIter f a i)  where
 mem:=by simp
 obj:=λi h st b hb=>by
  have e:=by simpa using hb
  subst e;obtain⟨o,e,c,d⟩:=st;exact⟨o,e,λv z=>by rw[d]at z;cases z⟩
 keep:=λi h h' st k=>st.at λo e=>k f (by simp) o e
 item:=by
  intro X t hw r D i j s G H E I l st hg;subst t hw r;obtain⟨xs,x,m,hx⟩:=hg;obtain⟨its,q,p,hz⟩:=I.list m;obtain⟨u,J,L⟩:=q.get hx;obtain⟨A,y,F,B,n,C⟩:=l f (by simp);refine qfb st p.isList (by simpa using J) λh' g Q=>?_;obtain⟨o,e,c,d⟩:=id g;exact⟨u,U,zM e c d (by decide) ⟨x,H,(I.turned (λb o hb e=>(Q.2 b hb).trans e) A y B n C),L,⟨U,λR N=>by rw[I.list_inj N m];exact hx⟩,g,λb hb=>(l b hb).1⟩⟩
 done:=by
  intro X t hw r D i j s G H E I l st hg;subst t hw r;obtain⟨xs,m,hx⟩:=hg;obtain⟨its,q,p,hz⟩:=I.list m;obtain⟨A,y,F,B,n,C⟩:=l f (by simp);have S:=q.length;exact qfk (I.ok.hd D) st p.isList (by simp;lia) λh' O=>⟨U,I.turned (λb o hb e=>O b o hb e) A y B n C⟩
 self:=λ_ _ _ _ _ st h=>wpAny_pyIter_listiter st h
theorem wd {K}(a f):tm P w K M (Itt K a) [f] f (λi h=>h.IsTupleIter f a i)  where
 mem:=by simp
 obj:=λi h st b hb=>by
  have e:=by simpa using hb
  subst e;obtain⟨o,e,c,d⟩:=st;exact⟨o,e,λv z=>by rw[d]at z;cases z⟩
 keep:=λi h h' st k=>st.at λo e=>k f (by simp) o e
 item:=by
  intro X t hw r D i j s G H E I l st hg;subst t hw r;obtain⟨xs,x,m,hx⟩:=hg;obtain⟨its,q,p,hz⟩:=I.tuple m;obtain⟨u,J,L⟩:=q.get hx;obtain⟨A,y,F,B,n,C⟩:=l f (by simp);refine qe1 st (p) (by simpa using J) λh' g Q=>?_;obtain⟨o,e,c,d⟩:=id g;exact⟨u,U,zM e c d (by decide) ⟨x,H,(I.turned (λb o hb e=>(Q.2 b hb).trans e) A y B n C),L,⟨U,λR N=>by rw[I.tuple_inj N m];exact hx⟩,g,λb hb=>(l b hb).1⟩⟩
 done:=by
  intro X t hw r D i j s G H E I l st hg;subst t hw r;obtain⟨xs,m,hx⟩:=hg;obtain⟨its,q,p,hz⟩:=I.tuple m;obtain⟨A,y,F,B,n,C⟩:=l f (by simp);have S:=q.length;exact qfa (I.ok.hd D) st (p) (by simp;lia) λh' O=>⟨U,I.turned (λb o hb e=>O b o hb e) A y B n C⟩
 self:=λ_ _ _ _ _ st h=>wpAny_pyIter_tupleiter st h
theorem wc {K}(a) (lo) (n):tm P w K x (Itr lo n) [a] a (λi h=>IsRangeIter h a (lo+(i)*1) ((n) - (i)) 1)  where
 mem:=by simp
 obj:=λi h st b hb=>by
  have e:=by simpa using hb
  subst e
  exact⟨_,st,λv z=>by
   cases z⟩
 keep:=λi h h' st k=>k a (by simp) _ st
 item:=by
  intro X A hw y j i d s u H E I f st hg;obtain⟨m,l,r,p,g,q⟩:=f a (by simp);refine (Walks.range (I.ok.hd j) a lo 1 n).item i s _ _ hg st λv h' F D c B=>?_;obtain⟨t,rfl⟩:=D;refine⟨_,U,zM c U U (by decide) ⟨.int _,H,(I.turned (λb o hb e=>B b o (by simpa using hb) e) m l p g q),⟨t,?_⟩,⟨U,U⟩,c,λb hb=>(f b hb).1⟩⟩;rw[qdv]
 done:=by
  intro X A hw y j i d s u H E I f st hg;obtain⟨m,l,r,p,g,q⟩:=f a (by simp);exact wpAny_pyNext_range_end (I.ok.hd j) st (by have:n<=i:=hg;lia) λh' C=>⟨U,I.turned (λb o hb e=>C b o hb e) m l p g q⟩
 self:=λ_ _ _ _ _ st h=>wpAny_pyIter_rangeiter st h
section
variable {X:Cx}{G:Expr}
def Gg (K:qae) (tl:TE):TI:=λk H R=>tl k H λx H1=>∃ a,x=.ref a/\(∃ xs,SqL K H1 a xs)/\R (Itl K a) H1
def HP (K:qae) (tl:TE):TI:=λk H R=>tl k H λx H1=>∃ a,x=.ref a/\(∃ xs,SqT K H1 a xs)/\R (Itt K a) H1
theorem xA (hl:PE X l tl):PI X G l (Gg X.K tl) :=by
 intro c s k H R I h;refine thn (hl c s k H _ I h) λv s1 ⟨x,H1,I1,P,M⟩=>?_;obtain⟨a,e,⟨xs,hq⟩,q⟩:=M;subst e;cases P;obtain⟨its,rv,p,hz⟩:=I1.list hq;refine qdY p.isList ?_;refine⟨s1.heap.objs.size,_,_,_,H1,U,I1.kept λb o e=>qaf _ e,zb a _,⟨_,qar _ U,U,U⟩,λb hb=>?_,q⟩;have e:=by simpa using hb
 subst e;exact I1.fpOk (qao _) (I1.hok.fresh (qao _))
theorem E4 (hl:PE X l tl):PI X G l (HP X.K tl) :=by
 intro c s k H R I h;refine thn (hl c s k H _ I h) λv s1 ⟨x,H1,I1,P,M⟩=>?_;obtain⟨a,e,⟨xs,hq⟩,q⟩:=M;subst e;cases P;obtain⟨its,rv,p,hz⟩:=I1.tuple hq;refine qcG (p) ?_;refine⟨s1.heap.objs.size,_,_,_,H1,U,I1.kept λb o e=>qaf _ e,wd a _,⟨_,qar _ U,U,U⟩,λb hb=>?_,q⟩;have e:=by simpa using hb
 subst e;exact I1.fpOk (qao _) (I1.hok.fresh (qao _))
theorem AX {k:St}{lo }(I:Inv X c k H s) (h1:-(2^62)<=lo) (h2:lo<2^62) (h3:-(2^62)<=hi) (h4:hi<2^62)
  (q:R (Itr lo (hi - lo).toNat) H):wpAny (model X.prog X.w) X.A (qid (.ref s.heap.objs.size)) (PIE X c k G R) E { s with heap:=s.heap.push { cls:=.type "range",data:=.fields #[.int lo t,.int hi u,.int 1 v] },toks:=tk } :=by
 refine wpAny_pyIter_range (IsRange.new ..) (small_one h1 h2 h3 h4) ?_;have I1:Inv X c k H { s with heap:=s.heap.push { cls:=.type "range",data:=.fields #[.int lo t,.int hi u,.int 1 v] },toks:=tk }:=I.kept λb o e=>qaf _ e
 refine⟨_,_,_,_,H,U,
  I1.kept λb o e=>qaf _ e,wc _ lo (hi - lo).toNat,?_,λb hb=>?_,q⟩
 ·have e1:lo+((0:Nat))*1=lo:=by simp
  have e2:(((hi - lo).toNat)) - ((0:Nat))=qfI lo hi 1:=by rw[qhK];split<;>lia
  rw[e1,e2];exact qar _ U
 ·have e:b=(s.heap.push { cls:=.type "range",data:=.fields #[.int lo t,.int hi u,.int 1 v] }).objs.size:=by simpa using hb
  subst e;exact I1.fpOk (qao _) (I1.hok.fresh (qao _))
def Gh (ta:TA):TI:=λk H R=>ta k H λvs H1=>∃ j:Int,vs=[.int j]/\-(2^62)<=j/\j<2^62/\R (Itr 0 j.toNat) H1
theorem yR (hg:Gl X "range") (hm:X.mg "range" = none) (ha:PA X [a] ta) (hs:qbA [a] X.env=[(false,eval a X.env)]:=by rfl):PI X G (.Call (.Name "range" p) [a] [] pos) (Gh ta) :=by
 intro c s k H R I h;refine Call_ (hJ I hg hm boot_range (qb0 (thn (ha pos c s k H _ I h) λus s1 ⟨vs,H1,I1,P,M⟩=>?_) hs U));obtain⟨j,e,M,q2,q⟩:=M;subst e;cases P with
 |cons r rr=>
  cases rr;obtain⟨t,rfl⟩:=r;exact call_range_1 (AX I1 (by lia) (by lia) M q2 (by simpa using q))
def Im (wi:TI) (g:TG) (Y:TS):TS:=λD k H=>wi k H λJ H1=>∃ W:Nat->Nat->St->Hp->Prop,(∃ m,W 0 m k H1)/\∀ i m k H,W i m k H->
 (J.stop i H/\D.nx k H)\/(J.go i H/\∃ N:St->Hp->Prop,(∀ y H',N y H'->∃ m',m'<m/\W (i+1) m' y H')/\∀ x H',J.yld i H x H'->g x k H' λσ2 H2=>Y { D with nx:=N,ct:=N,bk:=D.nx } σ2 H2)
def oF (fp:List Addr) (h:Heap):List (Addr×Obj):=fp.filterMap λb=>(h.get? b).map λo=>(b,o)
theorem ca (hb:b∈fp) (e:h.get? b=some o):(b,o)∈oF fp h :=qfB.mpr ⟨b,hb,by rw[e];rfl⟩
theorem yO (B:p∈oF fp h):p.1∈fp/\h.get? p.1=some p.2 :=by
 obtain⟨b,hb,e⟩:=qfB.mp B;cases q:h.get? b with
 |none=>rw[q]at e;cases e
 |some o=>
  rw[q]at e;have e':=qaL e;subst e';exact⟨hb,q⟩
theorem Inv.pinned {k:St}(I:Inv X c k H s) (hf:∀ b∈fp,iS X c H b) (ho:∀ b∈fp,∃ o,s.heap.get? b=some o/\∀ v,o.data≠.cell v):Inv X (c++oF fp s.heap) k H s :=
 I.pins_of λp B=>(qaT.mp B).elim (λz=>I.pin p (qaB _ z)) λz=>by
  obtain⟨hb,e⟩:=yO z;obtain⟨f0,f1,V,_⟩:=hf p.1 hb;obtain⟨o,e',d⟩:=ho p.1 hb;rw[e]at e';cases e';exact⟨e,f0,f1,V,d⟩
theorem Inv.unpinned {k:St}(I:Inv X (c++pl) k H s):Inv X c k H s :=I.pins_of λp B=>I.pin p (qaB _ (qa9 _ B))
theorem AL (B:qg5 (model X.prog X.w) X.A X.env X.xe) (hc:X.calm=true) (hi:PI X G iter wi) (hg:PG X G g) (hb:PSs X body Y)
  (hs:∀ x,qbE iter X.env x=pure x:=by intro _;rfl):PS X (.For G iter body [] pos) (Im wi g Y) :=by
 intro c s k H D I h;refine wpAny_For (thn (hi c s k H _ I h) λv s1 h1=>thn h1 λitv s2 h2=>?_) hs;obtain⟨it,fp,tn,J,H2,e,I2,T,st2,V,W,⟨m0,w0⟩,turn⟩:=h2;subst e
 -- what stays true of the iterator's objects through the loop
 have C:∀ {H':Hp},(∀ b∈fp,H' b=none)->∀ b∈fp,iS X c H' b:=λhn b hb=>⟨hn b hb,(V b hb).2⟩;refine codeAny_forLoop_any (λn s'=>∃ i y H',Inv X c y H' s'/\tn i s'.heap/\(∀ b∈fp,H' b=none)/\W i n y H') ?_ m0 ⟨0,k,H2,I2,st2,λb hb=>(V b hb).1,w0⟩
 rintro n s3 ⟨i,A,H3,I3,S,Q,w3⟩
 rcases turn i n A H3 w3 with⟨stop,qn⟩|⟨go,N,hN,step⟩
 ·refine qdi B (thn (T.done X U U U hc i c s3 A H3 X.xe I3 (C Q) S stop) λr s4 ⟨hr,I4⟩=>?_)
  subst hr;exact qfm ⟨A,H3,I4,qn⟩
 ·refine qdi B (thn (T.item X U U U hc i c s3 A H3 X.xe I3 (C Q) S go) λr s4 ⟨u,hr,h4⟩=>?_)
  subst hr;refine qdi B (thn h4 λ_ s5 ⟨x,H5,I5,r5,y5,L,fr5⟩=>?_);refine qdi B (thn (hg _ s5 A H5 x u _ (I5.pinned (C fr5) (T.obj _ _ L)) r5 (step x H5 y5)) λ_ s6 ⟨σ6,H6,I6,q6⟩=>?_);refine qdi B (thn (hb _ s6 σ6 H6 _ I6 q6) λf s7 F=>?_);have again:∀ {w:St}{H7:Hp},Inv X _ w H7 s7->N w H7->∃ m,m<n/\∃ i y H',Inv X c y H' s7/\tn i s7.heap/\(∀ b∈fp,H' b=none)/\W i m y H':=λ{w H7} I7 O=>by
   obtain⟨m',hm,w7⟩:=hN w H7 O;refine⟨m',hm,_,w,H7,I7.unpinned,T.keep _ _ _ L λb hb o e=>(I7.pin (b,o) (qaB _ (qaB _ (ca hb e)))).1,λb hb=>?_,w7⟩;obtain⟨o,e,d⟩:=T.obj _ _ L b hb;exact (I7.pin (b,o) (qaB _ (qaB _ (ca hb e)))).2.1
  cases f with
  |next=>obtain⟨w,H7,I7,O⟩:=F;exact again I7 O
  |cont=>obtain⟨w,H7,I7,O⟩:=F;exact again I7 O
  |brk=>obtain⟨w,H7,I7,F⟩:=F;exact⟨w,H7,I7.unpinned,F⟩
  |ret v=>obtain⟨x7,w,H7,I7,r7,F⟩:=F;exact⟨x7,w,H7,I7.unpinned,r7,F⟩
end
abbrev R2:=V->V->Hp->VK->Prop
def OpR (X:Cx) (f:Value->Value->Sem Value) (r:R2):Prop:=
 ∀ (a:List (Addr×Obj)) (s:qal) (b:St) (H:Hp) (x y:V) (v u:Value) (Q:VK),Inv X a b H s->aM x v->aM y u->r x y H Q->
  wpAny (model X.prog X.w) X.A (f v u) (EP X a b Q) X.xe s
def UnR (X:Cx) (f:Value->Sem Value) (r:V->Hp->VK->Prop):Prop:=
 ∀ (a:List (Addr×Obj)) (s:qal) (b:St) (H:Hp) (x:V) (v:Value) (Q:VK),Inv X a b H s->aM x v->r x H Q->
  wpAny (model X.prog X.w) X.A (f v) (EP X a b Q) X.xe s
def a7 (X:Cx) (f:Value) (r:List V->Hp->VK->Prop):Prop:=
 ∀ (a:List (Addr×Obj)) (s:qal) (b:St) (H:Hp) (xs:List V) (c:List Value) (Q:VK),Inv X a b H s->aG xs c->r xs H Q->
  wpAny (model X.prog X.w) X.A (call f c) (EP X a b Q) X.xe s
def HC (X:Cx) (r:V->Hp->(Bool->Hp->Prop)->Prop):Prop:=
 ∀ (a:List (Addr×Obj)) (s:qal) (b:St) (H:Hp) (x:V) (v:Value) (Q:Bool->Hp->Prop),Inv X a b H s->aM x v->r x H Q->
  wpAny (model X.prog X.w) X.A (truthy v) (TP X a b Q) X.xe s
def tOp (r:R2) (b c:TE):TE:=λa H Q=>b a H λx H1=>c a H1 λy H2=>r x y H2 Q
def tUn (r:V->Hp->VK->Prop) (b:TE):TE:=λa H Q=>b a H λx H1=>r x H1 Q
def rI (C:Int->Int->Prop) (g:Int->Int->V):R2:=λx y H Q=>∃ i j,x=.int i/\y=.int j/\C i j/\Q (g i j) H
def rI0 (g:Int->Int->V):R2:=λx y H Q=>∃ i j,x=.int i/\y=.int j/\Q (g i j) H
def rU (g:Int->V):V->Hp->VK->Prop:=λx H Q=>∃ i,x=.int i/\Q (g i) H
section
variable {X:Cx}{a b c:Expr}{p D P:TE}{pos:Pos}
theorem D4 (w:PE X a p) (hb:PE X b D) {e:St}{R:V->V->Hp->Prop} (I:Inv X d e H s)
  (h:p e H λx H1=>D e H1 λy H2=>R x y H2) {f:Value->Value->Sem Value}
  (N:∀ v u o x y H2,Inv X d e H2 o->aM x v->aM y u->R x y H2->wpAny (model X.prog X.w) X.A (f v u) Q X.xe o) :
  wpAny (model X.prog X.w) X.A (eval a X.env) (λv A=>wpAny (model X.prog X.w) X.A (eval b X.env) (λu z=>wpAny (model X.prog X.w) X.A (f v u) Q X.xe z) X.xe A) X.xe s :=by
 refine thn (w d s e H _ I h) λv s1 ⟨x,H1,I1,J,L⟩=>?_;refine thn (hb d s1 e H1 _ I1 L) λu o ⟨y,H2,I2,M,O⟩=>?_;exact N v u o x y H2 I2 J M O
theorem DF (K:OpR X (qbP B) r) (w:PE X a p) (hb:PE X b D):PE X (.BinOp a B b pos) (tOp r p D) :=by
 intro d s e H Q I h;exact wpAny_BinOp (D4 w hb I h λv u o x y H2 I2 m n q=>K d o e H2 x y v u Q I2 m n q)
theorem GP (K:UnR X (unaryOp B) r) (w:PE X a p):PE X (.UnaryOp B a pos) (tUn r p) :=by
 intro d s e H Q I h;exact UnaryOp_ (thn (w d s e H _ I h) λv s1 ⟨x,H1,I1,J,L⟩=>K d s1 e H1 x v Q I1 J L)
theorem opI {g:Int->Int->Int}
  (rule:∀ (i j) (t u) (s) (Q) (E),C i j->Q (.int (g i j) s.toks) { s with toks:=s.toks+1 }->wpAny (model X.prog X.w) X.A (f (.int i t) (.int j u)) Q E s) :
  OpR X f (rI C λi j=>.int (g i j)) :=by
 intro d s e H x y v u Q I m n h;obtain⟨i,j,rfl,rfl,l,q⟩:=h;obtain⟨t,rfl⟩:=m;obtain⟨t',rfl⟩:=n;exact rule i j t t' s _ _ l ⟨.int _,H,I.tok _,⟨_,U⟩,q⟩
theorem EM {g:Int->Int->Int}
  (rule:∀ (i j) (t u) (s) (Q) (E),Q (.int (g i j) s.toks) { s with toks:=s.toks+1 }->wpAny (model X.prog X.w) X.A (f (.int i t) (.int j u)) Q E s) :
  OpR X f (rI0 λi j=>.int (g i j)) :=by
 intro d s e H x y v u Q I m n h;obtain⟨i,j,rfl,rfl,q⟩:=h;obtain⟨t,rfl⟩:=m;obtain⟨t',rfl⟩:=n;exact rule i j t t' s _ _ ⟨.int _,H,I.tok _,⟨_,U⟩,q⟩
theorem Cw {g:Int->Int->Bool}
  (rule:∀ (i j) (t u) (s) (Q) (E),Q (.bool (g i j)) s->wpAny (model X.prog X.w) X.A (f (.int i t) (.int j u)) Q E s) :
  OpR X f (rI0 λi j=>.bl (g i j)) :=by
 intro d s e H x y v u Q I m n h;obtain⟨i,j,rfl,rfl,q⟩:=h;obtain⟨t,rfl⟩:=m;obtain⟨t',rfl⟩:=n;exact rule i j t t' s _ _ ⟨.bl _,H,I,U,q⟩
def HA (i j:Int):Prop:=0<j/\j<1073741824
def uZ (i j:Int):Prop:=0<=j/\j<=1000000/\i.natAbs<2^64
def BC (i j:Int):Prop:=(-(2^64)<i/\i<2^64)\/(-(2^64)<j/\j<2^64)
theorem BC.ok (h:BC i j):qhW i j :=by
 rcases h with⟨G,F⟩|⟨G,F⟩
 ·exact .of_left (intBits_le_64 G F)
 ·exact .of_right (intBits_le_64 G F)
theorem we (k):(0:Int)<=2^k :=by
 exact Int.natCast_nonneg _
theorem EN:OpR X (qbP .Add) (rI0 λi j=>.int (i+j)):=EM λ_ _ _ _ _ _ _ q=>add_int q
theorem EV:OpR X (qbP .Sub) (rI0 λi j=>.int (i - j)):=EM λ_ _ _ _ _ _ _ q=>sub_int q
theorem CA:OpR X (qbP .FloorDiv) (rI HA λi j=>.int (i / j)):=opI λi j _ _ _ _ _ l q=>by
 have G:=l.1;have F:=l.2;exact floordiv_int (by lia) (by rw[qei i (by lia)];exact q) (.inl (PyProof.noPylong_small (by lia)))
theorem ER:OpR X (qbP .Mod) (rI (λ_ j=>0<j) λi j=>.int (i%j)):=opI λi j _ _ _ _ _ l q=>by
 exact mod_int' (by lia) (by rw[Int.fmod_eq_emod_of_nonneg i (by lia)];exact q)
theorem ES:OpR X (qbP .Pow) (rI uZ λi j=>.int (i^j.toNat)):=opI λ_ _ _ _ _ _ _ l q=>pow_int_small l.1 l.2.1 l.2.2 q
theorem ET:OpR X (qbP .LShift) (rI uZ λi j=>.int (i*2^j.toNat)):=opI λ_ _ _ _ _ _ _ l q=>lshift_int_small l.1 l.2.1 l.2.2 q
theorem EU:OpR X (qbP .RShift) (rI (λ_ j=>0<=j) λi j=>.int (i / 2^j.toNat)):=opI λi j _ _ _ _ _ l q=>
 rshift_int l (by rw[qei i (we _)];exact q)
theorem EO:OpR X (qbP .BitAnd) (rI0 λi j=>.int (qdG i j)):=EM λ_ _ _ _ _ _ _ q=>and_int q
theorem unI {g:Int->Int}
  (rule:∀ (i) (t) (s) (Q) (E),Q (.int (g i) s.toks) { s with toks:=s.toks+1 }->wpAny (model X.prog X.w) X.A (f (.int i t)) Q E s) :
  UnR X f (rU λi=>.int (g i)) :=by
 intro d s e H x v Q I m h;obtain⟨i,rfl,q⟩:=h;obtain⟨t,rfl⟩:=m;exact rule i t s _ _ ⟨.int _,H,I.tok _,⟨_,U⟩,q⟩
theorem FJ:UnR X (unaryOp .USub) (rU λi=>.int (-i)):=unI λ_ _ _ _ _ q=>neg_int q
end
section
variable {X:Cx}{a b c:Expr}{D L tc:TE}{pos:Pos}
theorem zJ {f:St}(I:Inv X d f H s) (q:Q (.bl k) H) (e:k=W):EP X d f Q (.bool W) s :=by
 subst e;exact⟨.bl k,H,I,U,q⟩
theorem GL:OpR X (qb6 .Lt) (rI0 λi j=>.bl (decide (i<j))):=Cw λ_ _ _ _ _ _ _ q=>lt_int q
theorem GK:OpR X (qb6 .LtE) (rI0 λi j=>.bl (decide (i<=j))):=Cw λ_ _ _ _ _ _ _ q=>le_int q
theorem GJ:OpR X (qb6 .Gt) (rI0 λi j=>.bl (decide (j<i))):=Cw λ_ _ _ _ _ _ _ q=>gt_int q
theorem GI:OpR X (qb6 .GtE) (rI0 λi j=>.bl (decide (j<=i))):=Cw λ_ _ _ _ _ _ _ q=>ge_int q
theorem EQ:OpR X (qb6 .Is) (λx y H Q=>y=.non/\Q (.bl (decide (x=.non))) H):=by
 intro d s f H x y v u Q I l B h;obtain⟨rfl,q⟩:=h;cases B;refine is_none_gen (zJ I q ?_);cases x<;>first
  |(rfl)
  |(obtain⟨t,rfl⟩:=l;rfl)
theorem CC:OpR X (qb6 .IsNot) (λx y H Q=>y=.non/\Q (.bl (!decide (x=.non))) H):=by
 intro d s f H x y v u Q I l B h;obtain⟨rfl,q⟩:=h;cases B;refine isnot_none_gen (zJ I q ?_);cases x<;>first
  |(rfl)
  |(obtain⟨t,rfl⟩:=l;rfl)
theorem CG (O:OpR X (qb6 C) r) (G:PE X a D) (hb:PE X b L) (hm:qga C b=false):PE X (.Compare a [C] [b] pos) (tOp r D L) :=by
 intro d s f H Q I h;exact wpAny_Compare1 (D4 G hb I h λv u M x y H2 I2 l B q=>O d M f H2 x y v u Q I2 l B q) hm
def Hq (t:TE):TT:=λf H Q=>t f H λx H'=>∃ k,x=.bl k/\Q k H'
theorem CT (O:OpR X (qb6 C) r) (G:PE X a D) (hb:PE X b L) (hm:qga C b=false):PT X (.Compare a [C] [b] pos) (Hq (tOp r D L)) :=by
 intro d s f H Q I h
 refine wpAny_isTrue_Compare1 (thn (G d s f H _ I h) λv s1 ⟨x,H1,I1,o,S⟩=>thn (hb d s1 f H1 _ I1 S) λu M ⟨y,H2,I2,F,q2⟩=>
  thn (O d M f H2 x y v u _ I2 o F q2) λc s3 ⟨z,H3,I3,P,k,e,q3⟩=>?_) hm
 subst e;cases P;exact qcu ⟨H3,I3,q3⟩
def BG (K:qae) (x:V) (H:Hp) (k:Bool):Prop:=
 match x with
 |.non=>k=false
 |.bl b=>k=b
 |.int i=>k=(i != 0)
 |.str y=>y.length<=qaF/\k=((y.length:Int) != 0)
 |.byt y=>y.size<=qaF/\k=((y.size:Int) != 0)
 |.ref p=>(∃ xs,SqL K H p xs/\k=!xs.isEmpty)\/(∃ xs,SqT K H p xs/\k=!xs.isEmpty)\/∃ g,H p=some (.dK g)/\k=!g.isEmpty
 |_=>False
theorem vq (r:KV g E):(!E.isEmpty)=!g.isEmpty :=by
 cases r<;>rfl
theorem nX (r:aG xs its):(!its.toArray.isEmpty)=!xs.isEmpty :=by
 cases r<;>simp
theorem kS:(qaF)<2^63 :=by decide
theorem FG:HC X (λx H Q=>∃ k,BG X.K x H k/\Q k H):=by
 intro d s f H x v Q I l h;obtain⟨k,e,q⟩:=h;have hs:=qcQ;cases x with
 |non=>
  cases l;subst e;exact truthy_none ⟨H,I,q⟩
 |bl b=>
  cases l;subst e;exact qcu ⟨H,I,q⟩
 |int i=>
  obtain⟨t,rfl⟩:=l;subst e;exact PySem.P.truthy_int ⟨H,I,q⟩
 |str y=>
  obtain⟨t,rfl⟩:=l;obtain⟨hy,n⟩:y.length<=qaF/\k=_:=e;subst n;exact PySem.P.truthy_str (by lia) ⟨H,I.tok _,q⟩
 |byt y=>
  obtain⟨t,rfl⟩:=l;obtain⟨hy,n⟩:y.size<=qaF/\k=_:=e;subst n;exact PySem.W.truthy_bytes (by lia) ⟨H,I.tok _,q⟩
 |ref p=>
  cases l;have n:=e;rcases n with⟨xs,hx,n⟩|⟨xs,hx,n⟩|⟨g,hx,n⟩
  ·subst n
   obtain⟨its,r,N,hz⟩:=I.list hx;have w:=r.length;exact wpAny_truthy_list N.isList (by simp only[qaE];lia) ⟨H,I.tok _,by rw[nX r];exact q⟩
  ·subst n
   obtain⟨its,r,N,hz⟩:=I.tuple hx;have w:=r.length;exact truthy_tuple N (by simp only[qaE];lia) ⟨H,I.tok _,by rw[nX r];exact q⟩
  ·subst n
   obtain⟨hz,hS,E,r,m⟩:g.length<=qaF/\(p==qcD)=false/\∃ E,KV g E/\s.heap.DictOf _ p E:=I.hok p _ hx;have w:=qff r;exact wpAny_truthy_dict hS m (by lia) ⟨H,I.tok _,by rw[vq r];exact q⟩
 |_=>exact (show False from e).elim
theorem AQ (G:PE X a D) (he:∀ whole,qkh a X.env whole=(do let v <-whole;qka a.pos;qfP [v] (truthy v))) :
  PT X a (λf H Q=>D f H λx H'=>∃ k,BG X.K x H' k/\Q k H'):=by
 intro d s f H Q I h;exact isTrue_plain (thn (G d s f H _ I h) λv s1 ⟨x,H1,I1,o,S⟩=>FG d s1 f H1 x v Q I1 o S) (he _)
theorem vT:OpR X (qbP .Add) (λx y H Q=>∃ i j,x=.str i/\y=.str j/\i.length+j.length<=qaF/\Q (.str (i++j)) H):=by
 intro d s f H x y v u Q I l B h;obtain⟨i,j,rfl,rfl,hz,q⟩:=h;obtain⟨t,rfl⟩:=l;obtain⟨t',rfl⟩:=B;exact add_str (λt' T=>⟨.str _,H,I.tok _,⟨_,U⟩,q⟩) hz
theorem fJ (r:aG [x] A):∃ u,A=[u]/\aM x u :=by
 cases r with
 |cons o F=>cases F;exact⟨_,U,o⟩
theorem Ht (r:aG [x,y] A):∃ u R,A=[u,R]/\aM x u/\aM y R :=by
 cases r with
 |cons o F=>
  cases F with
  |cons P r4=>cases r4;exact⟨_,_,U,o,P⟩
theorem zu:a7 X (.builtin "abs") (λxs H Q=>∃ i,xs=[.int i]/\Q (.int (if i<0 then -i else i)) H):=by
 intro d s f H xs A Q I r h;obtain⟨i,rfl,q⟩:=h;obtain⟨u,rfl,t,rfl⟩:=fJ r;exact call_abs_int λu T=>⟨.int _,H,I.tok _,⟨_,U⟩,q⟩
theorem yg (hc:X.calm=true):a7 X (.builtin "max") (λxs H Q=>∃ i j,xs=[.int i,.int j]/\Q (.int (if j > i then j else i)) H):=by
 intro d s f H xs A Q I r h;obtain⟨i,j,rfl,q⟩:=h;obtain⟨u,R,rfl,⟨t,rfl⟩,⟨t',rfl⟩⟩:=Ht r;refine max_two_ints (I.ok.hd hc) λh' T k=>⟨_,H,I.kept k,?_,q⟩;by_cases J:j > i
 ·rw[iFP J,iFP J];exact⟨_,U⟩
 ·rw[iFN J,iFN J];exact⟨_,U⟩
theorem pN:a7 X (.type "int") (λxs H Q=>(∃ i,xs=[.int i]/\Q (.int i) H)\/∃ k,xs=[.bl k]/\Q (.int (if k then 1 else 0)) H):=by
 intro d s f H xs A Q I r h;rcases h with⟨i,rfl,q⟩|⟨k,rfl,q⟩
 ·obtain⟨u,rfl,t,rfl⟩:=fJ r
  exact call_int_int ⟨.int i,H,I,⟨_,U⟩,q⟩
 ·obtain⟨u,rfl,o⟩:=fJ r
  cases o;exact call_int_bool ⟨.int _,H,I.tok _,⟨_,U⟩,q⟩
end
structure x9 (h:Heap) (x dx C:Addr) (mA:Str->Option Value):Prop where
 obj:h.get? x=some (qds C dx)
 ns:h.Ns1 dx mA
 ne:dx≠x
theorem yJ {h:Heap}(n:h.Ns1 c f):∃ d,h.get? c=some d/\∀ name,qgb name d=some (f name) :=by
 obtain⟨o,es,l,g,hd,k,_,hm⟩:=n;refine⟨o,g,λname=>?_⟩;have e:=hm name;unfold nsFind findBy at e;rw[<-Array.find?_toList]at e;unfold qgb;rw[hd];dsimp only;split
 ·rename_i y q
  rw[q]at e;exact congrArg some e
 ·rename_i q
  rw[q]at e;have a:es.toList.any (·.refKey)=false:=by
   rw[qfN];intro y j;obtain⟨z,t,b⟩:=k y (Array.mem_toList_iff.mp j);simp[DictEntry.refKey,b]
  have i:¬ es.toList.any (·.refKey)=true:=by rw[a];exact qaW
  rw[iFN i];exact congrArg some e
theorem x9.look (I:x9 h x b C c):∃ a,PySem.W.InstAt h x (qds C b) C (some a)/\∀ name,qgb name a=some (c name) :=
 let ⟨a,ho,hl⟩:=yJ I.ns
 ⟨a,⟨I.obj,U,U,ho⟩,hl⟩
section
variable {prog:qaO}{w:World}{A:qa1}{E:Value->qal->Prop}{s:qal}{K:qae}{x g C f:Addr}{e:Str->Option Value}{name:Str}{v:Value}
theorem BY (X:K.In s.heap) (I:x9 s.heap x g C e) (hg:qev K C name=true) (l:qef K C=true)
  (r:qcn K (.ref C) name=some none) (D:e name=some v) (o:qhx v=true) (h:Q v { s with toks:=s.toks+1 }) :
  wpAny (model prog w) A (getAttr (.ref x) name a) Q E s :=by
 obtain⟨F,J,q⟩:=I.look;exact PySem.W.get_value X J (PySem.W.plainGet_of hg).1 (PySem.W.findObj_own l r U (by rw[q,D])) o h
theorem C9 (X:K.In s.heap) (I:x9 s.heap x g C e)
  (u:qcn K (.ref C) "__setattr__" = some (some (.builtin "object.__setattr__"))) (z:qfr K C=true) (t:qfR K C name=some none) (l:qef K C=true)
  (hw:qg4 e ns) (H:ns.length<=qaF)
  (h:∀ h',x9 h' x g C (λy=>if y=name then some v else e y)->qdc g s.heap h'->Q () { s with heap:=h',toks:=s.toks+2 }) :
  wpAny (model prog w) A (setAttr (.ref x) name v) Q E s :=by
 obtain⟨F,J,q⟩:=I.look;refine PySem.W.set_plain X J u (PySem.W.osa_open X J z t λb=>?_);obtain⟨O,G,n⟩:=PySem.W.any_some l;refine qaa (qam (qaa (qaa (wpAny_loadPart I.obj (qaa (qja (PySem.W.looks_clsIn X G) ?_))))));rw[n];refine qam (qaa (qam (qaa ?_)));refine wpAny_nsSet1 I.ns λh' c d=>?_;obtain⟨N,L,M,m,k,j⟩:=c.count (qj0 name v hw);refine qaa (wpAny_lookBehind m (by rw[k];exact pastItsLine_dict (qaN j (by rw[qat];lia))) ?_);exact qam (h _ ⟨(d.2 _ (qbp I.ne)).trans I.obj,c,I.ne⟩ d)
theorem Ae (X:K.In s.heap) (hm:qfS K C=true)
  (hi:qcn K (.ref C) "__init__" = some (some (.ref f))) (B:PySem.W.typeIn K (.ref f)=some (.type "function"))
  (h:qdQ (model prog w) (A.under (.builtin "type.__call__" ⟨.ref C::p,i⟩)) (.call (.ref f) ⟨.ref (s.heap.objs.size+1)::p,i⟩) (PySem.W.InitBack (s.heap.objs.size+1) R)
    { s with heap:=(s.heap.push qc9).push (qds C s.heap.objs.size) }) :
  qdQ (model prog w) A (.call (.ref C) ⟨p,i⟩) R s :=by
 exact PySem.W.make_core (PySem.W.makes_of X hm) (PySem.W.looks_findIn X hi) (λself=>PySem.W.bind_fn X self B) (.inl U) h
end
def fF (f:Str) (v:V):List (Str×V)->List (Str×V)
 |[]=>[(f,v)]
 |(g,x)::r=>if g=f then (g,v)::r else (g,x)::fF f v r
theorem lD (f g:Str) (v:V):∀ fs:List (Str×V),(fF f v fs).lookup g=if g=f then some v else fs.lookup g
 |[]=>by
  show qd7 g [(f,v)]=_;by_cases h:g=f
  ·simp only[qd7,(beq_iff_eq.mpr h),iFP h]
  ·simp only[qd7,(beq_eq_false_iff_ne.mpr h),iFN h]
 |(k,x)::r=>by
  rw[show fF f v _=(if k=f then (k,v)::r else (k,x)::fF f v r) from U];by_cases a:k=f
  ·rw[iFP a]
   by_cases h:g=k
   ·simp only[qd7,(beq_iff_eq.mpr h),iFP (h.trans a)]
   ·simp only[qd7,(beq_eq_false_iff_ne.mpr h),iFN (λe:g=f=>h (e.trans a.symm))]
  ·rw[iFN a]
   by_cases h:g=k
   ·simp only[qd7,(beq_iff_eq.mpr h),iFN (λe=>a (h.symm.trans e))]
   ·simp only[qd7,(beq_eq_false_iff_ne.mpr h)]
    exact (lD f g v r)
theorem kR (f:Str) (v:V):∀ fs:List (Str×V),f∈(fF f v fs).map (·.1)/\∀ g,g∈fs.map (·.1)->g∈(fF f v fs).map (·.1)
 |[]=>⟨by simp[fF],λg h=>by simp at h⟩
 |(k,x)::r=>by
  obtain⟨b,c⟩:=kR f v r;rw[show fF f v _=(if k=f then (k,v)::r else (k,x)::fF f v r) from U];by_cases a:k=f
  ·subst a
   exact⟨by simp,λg h=>by simpa using h⟩
  ·rw[iFN a]
   refine⟨?_,λg h=>?_⟩
   ·exact qaj _ b
   ·rcases qaw.mp h with e|e
    ·exact qaw.mpr (.inl e)
    ·exact qaj _ (c g e)
theorem lB (f:Str) (v:V):∀ fs:List (Str×V),(fF f v fs).length<=fs.length+1
 |[]=>by simp[fF]
 |(k,x)::r=>by
  have b:=lB f v r;rw[show fF f v _=(if k=f then (k,v)::r else (k,x)::fF f v r) from U];by_cases a:k=f
  ·rw[iFP a,qat,qat];lia
  ·rw[iFN a,qat,qat];lia
theorem lK.some_of (r:lK (some v) o):∃ u,o=some u/\aM v u :=by
 cases o with
 |none=>exact (r).elim
 |some u=>exact⟨u,U,r⟩
theorem yt (r:aM v u):qhx u=true :=by
 cases v with
 |non=>cases (r);rfl
 |bl b=>cases (r);rfl
 |int i=>obtain⟨t,e⟩:=(r);cases e;rfl
 |str x=>obtain⟨t,e⟩:=(r);cases e;rfl
 |byt b=>obtain⟨t,e⟩:=(r);cases e;rfl
 |flt b=>obtain⟨t,e⟩:=(r);cases e;rfl
 |ref a=>cases (r);rfl
 |ty n=>cases (r);rfl
section
variable {P:qaO}{w:World}{H H':Hp}{h h':Heap}{a C c:Addr}{fs g:List (Str×V)}
theorem rC (hok:HOk P w H h) (e:H a=some (.ins C c fs)):∃ b,x9 h a c C b/\(∀ f,lK (fs.lookup f) (b f))/\qg4 b (fs.map (·.1))/\fs.length<=1000/\H c=some (.own a):=by
 obtain⟨d,z,ne,ob,b,n,r,q⟩:=(hok a _ e);exact⟨b,⟨ob,n,ne⟩,r,q,z,d⟩
end
structure Cls (K:qae) (C:Addr):Prop where
 pg:qev K C Str.empty=true
 hd:qef K C=true
 po:qfr K C=true
 sa:qcn K (.ref C) "__setattr__" = some (some (.builtin "object.__setattr__"))
theorem Cls.get {K}(c:Cls K C) (f):qev K C f=true :=c.pg
def b6 (K:qae) (C:Addr) (f:Str):Prop:=qcn K (.ref C) f=some none
theorem b6.taker {K}(n:b6 K C f):qfR K C f=some none :=by
 unfold qfR;rw[n];rfl
section
variable {X:Cx}{d:List (Addr×Obj)}{i:St}{H:Hp}{s:qal}{a C k:Addr}{fs:List (Str×V)}{f:Str}{v:V}{A:qa1}{E:Value->qal->Prop}
theorem vj (I:Inv X d i H s) (e:H a=some (.ins C k fs)) (c:Cls X.K C) (n:b6 X.K C f) (l:fs.lookup f=some v)
  (h:∀ u s',Inv X d i H s'->aM v u->Q u s'):wpAny (model X.prog X.w) A (getAttr (.ref a) f b) Q E s :=by
 obtain⟨B,O,r,_,_,_⟩:=rC I.hok e;obtain⟨u,K,x⟩:=lK.some_of (by rw[<-l];exact r f);exact BY I.kIn O (c.get f) c.hd n K (yt x) (h u _ (I.tok _) x)
theorem v7 (I:Inv X d i H s) (e:H a=some (.ins C k fs)) (c:Cls X.K C) (n:b6 X.K C f) (M:fs.length<1000) (G:aM y u)
  (h:∀ s',Inv X d i (upd H a (.ins C k (fF f y fs))) s'->Q () s'):wpAny (model X.prog X.w) A (setAttr (.ref a) f u) Q E s :=by
 obtain⟨B,O,r,p,_,m⟩:=rC I.hok e;have hz:(fs.map (·.1)).length<=qaF:=by rw[qah,qcQ];lia
 refine C9 I.kIn O c.sa c.po n.taker c.hd p hz λh' O' J=>h _ ?_;refine I.write (by rw[e];exact True.intro) (.inr m) (λb q hb z=>(J.2 b hb).trans z) (let ⟨o,_,_,e',_⟩:=O'.ns;⟨o,e'⟩) ?_;refine⟨by rw[upd_ne O.ne];exact m,?_,O.ne,O'.obj,_,O'.ns,λg=>?_,λg hg=>?_⟩
 ·have:=lB f y fs;lia
 ·rw[lD]
  by_cases q:g=f
  ·rw[iFP q,iFP q];exact G
  ·rw[iFN q,iFN q];exact r g
 ·by_cases q:g=f
  ·rw[q];exact (kR f y fs).1
  ·refine (kR f y fs).2 g (p g λz=>hg ?_)
   show (if g=f then some u else B g)=none;rw[iFN q];exact z
theorem Inv.made (I:Inv X d i H s):Inv X d i (upd (upd H s.heap.objs.size (.own (s.heap.objs.size+1))) (s.heap.objs.size+1) (.ins C s.heap.objs.size []))
  { s with heap:=(s.heap.push qc9).push (qds C s.heap.objs.size) }:=by
 have t:(s.heap.push qc9).get? s.heap.objs.size=some qc9:=qar s.heap U;have L:=by
  have:=qar (s.heap.push qc9) (o:=qds C s.heap.objs.size) U
  rwa [qa5]at this
 refine (I.laid (o:=.own _) (t':=s.toks) (λb u q=>qaf _ q) (qao _) ⟨_,t⟩).laid (λb u q=>qaf _ q) (qdx (qa5 _ _)) ?_;have ne:s.heap.objs.size≠s.heap.objs.size+1:=qaC (qcb _);refine⟨by rw[upd_ne ne,upd_same],qbM _,ne,L,_,(Heap.Ns1.of_empty ⟨qc9,_,_,t,U,(λe F=>absurd F (by simp)),λ_=>rfl⟩).at λo q=>qaf _ q,λ_=>True.intro,λy D=>absurd U D⟩
theorem BK (hb:qcJ e f env (eval e env)=eval e env)
  (h:wpAny (model prog w) A (eval e env) (λo j=>wpAny (model prog w) A (getAttr o f true) Q E j) E s):wpAny (model prog w) A (eval (.Attribute e f pos) env) Q E s :=
 Attribute_any_ h (by rw[arm_eval_Attribute,hb])
end
def Il (K:qae) (d:TE) (f:Str):TE:=λb H Q=>d b H λx H1=>∃ a C c fs v,x=.ref a/\H1 a=some (.ins C c fs)/\Cls K C/\b6 K C f/\fs.lookup f=some v/\Q v H1
def Ii (K:qae) (d e:TE) (f:Str):TS:=λD b H=>e b H λy H1=>d b H1 λx H2=>∃ a C c fs,x=.ref a/\H2 a=some (.ins C c fs)/\Cls K C/\b6 K C f/\fs.length<1000/\
 D.nx b (upd H2 a (.ins C c (fF f y fs)))
section
variable {X:Cx}{o e b:Expr}{f:Str}{pos g r:Pos}{j p:TE}
theorem EX (w:PE X e j) (hb:qcJ e f X.env (eval e X.env)=eval e X.env):PE X (.Attribute e f pos) (Il X.K j f):=by
 intro d s i H Q I h;refine BK hb (thn (w d s i H _ I h) λu s1 ⟨x,H1,I1,k,a,C,t,fs,v,ex,m,c,n,l,q⟩=>?_);subst ex;obtain rfl:u=Value.ref a:=k;exact vj I1 m c n l λM z I2 E=>⟨v,H1,I2,E,q⟩
theorem AK (A:PE X o j) (K:PE X b p) (F:qcq b (some (.Attribute o f g)) pos.line X.env=pure false):PS X (.Assign [.Attribute o f g] b pos) (Ii X.K j p f):=by
 intro d s i H D I h;refine plainObj_wpAny_Assign_Attribute (thn (K d s i H _ I h) λu s1 ⟨y,H1,I1,J,q⟩=>thn (A d s1 i H1 _ I1 q) λB z ⟨x,H2,I2,k,a,C,t,fs,ex,m,c,n,l,G⟩=>?_) F;subst ex;obtain rfl:B=Value.ref a:=k;exact v7 I2 m c n l J λL I3=>⟨i,_,I3,G⟩
end
section
variable {X:Cx}{j:List (Addr×Obj)}{r:St}{H:Hp}{s:qal}{A:qa1}{E:Value->qal->Prop}{Q:Value->qal->Prop}{c:Value}{b:Bool}
inductive lM (K:qae) (H:Hp):V->Value->Prop where
 |non:lM K H .non (.type "NoneType")
 |bl (x:Bool):lM K H (.bl x) (.type "bool")
 |int (i:Int):lM K H (.int i) (.type "int")
 |str (x:Str):lM K H (.str x) (.type "str")
 |flt (x:UInt64):lM K H (.flt x) (.type "float")
 |lst {a:Addr}{xs:List V} (e:H a=some (.lst xs)):lM K H (.ref a) (.type "list")
 |frz {a:Addr}{o:Obj}{xs:List V} (e:H a=some (.frz o (.lst xs))):lM K H (.ref a) (.type "list")
 |tup {a:Addr}{xs:List V} (e:H a=some (.tup xs)):lM K H (.ref a) (.type "tuple")
 |dK {a:Addr}{kvs:List (Key×V)} (e:H a=some (.dK kvs)):lM K H (.ref a) (.type "dict")
 |dT {a:Addr}{kvs:List (List Key×V)} (e:H a=some (.dT kvs)):lM K H (.ref a) (.type "dict")
 |ins {a C dx:Addr}{fs:List (Str×V)} (e:H a=some (.ins C dx fs)) (cl:Cls K C) (ha:qcn K (.ref C) "__class__" = some (some (.builtin "object.__class__")))
   (hn:PySem.W.specialIn K (.builtin "object.__class__") "__get__" = some (some (.builtin "getset_descriptor.__get__"))) (htk:PySem.W.takesIn K (.builtin "object.__class__")=some true)
   (hm:PySem.W.mroIn K C (.type "object")=some true):lM K H (.ref a) (.ref C)
theorem bS (I:Inv X j r H s) (d:aM x u) (ty:lM X.K H x t) (e:qh0 X.K t c=some b) (h:∀ m,Q (.bool b) { s with toks:=m }) :
  wpAny (model X.prog X.w) A (call (.builtin "isinstance") [u,c]) Q E s :=by
 cases ty with
 |non=>cases (d);exact qbT PySem.W.kitx_none I.kIn True.intro e (λz=>nomatch z) h
 |bl y=>cases (d);exact qbT PySem.W.kitx_bool I.kIn True.intro e (λz=>nomatch z) h
 |int i=>obtain⟨t,q⟩:=(d);cases q;exact qbT PySem.W.kitx_int I.kIn True.intro e (λz=>nomatch z) h
 |str y=>obtain⟨t,q⟩:=(d);cases q;exact qbT PySem.W.kitx_str I.kIn True.intro e (λz=>nomatch z) h
 |flt y=>obtain⟨t,q⟩:=(d);cases q;exact qbT PySem.W.kitx_float I.kIn True.intro e (λz=>nomatch z) h
 |@lst a xs f=>
  cases (show u=Value.ref a from d);obtain⟨_,_,n,_,g⟩:=(I.hok a _ f);exact qbT qhl I.kIn ⟨_,g,U⟩ e (λz=>nomatch z) h
 |@frz a ob xs f=>
  cases (d);obtain⟨_,_,_,n,_,g⟩:=(I.hok a _ f);exact qbT qhl I.kIn ⟨_,g,U⟩ e (λz=>nomatch z) h
 |@tup a xs f=>
  cases (show u=Value.ref a from d);obtain⟨_,_,_,p⟩:=(I.hok a _ f);obtain⟨o,g,k,_⟩:=p;exact qbT qhd I.kIn ⟨o,g,k⟩ e (λz=>nomatch z) h
 |@dK a kvs f=>
  cases (show u=Value.ref a from d);obtain⟨_,_,B,_,p⟩:=(I.hok a _ f);obtain⟨o,es,l,g,k,_⟩:=p;exact qbT qhm I.kIn ⟨o,g,k.1⟩ e (λz=>nomatch z) h
 |@dT a kvs f=>
  cases (show u=Value.ref a from d);obtain⟨_,_,xs,_,o,es,l,g,k,_⟩:=(I.hok a _ f);exact qbT qhm I.kIn ⟨o,g,k.1⟩ e (λz=>nomatch z) h
 |@ins a C dx fs f cl ha hn htk hm=>
  cases (d);obtain⟨w,O,_⟩:=rC I.hok f;obtain⟨v,J,_⟩:=O.look;exact qbT (PySem.W.kitx_own (cl.get _) cl.hd ha hn htk hm) I.kIn J e (λz=>nomatch z) h
end
structure bj (k:Nat) (A:qa1):Prop where
 hd:A.handled=none
 dp:A.depth+3*k+5<qkv
 un:A.units+16*k+200<cLine
 gd:A.guards=some []
theorem bj.mono (r:bj k A) (h:j<=k):bj j A :=⟨r.hd,by have:=r.dp;lia,by have:=r.un;lia,r.gd⟩
theorem bj.deeper (r:bj (k+1) A) (env):bj k (A.deeper env) :=
 ⟨r.hd,by have:=r.dp;show A.depth+1+3*k+5<_;lia,by have:=r.un;show A.units+3+16*k+200<_;lia,r.gd⟩
theorem vL {A:qa1}:(A.under (.builtin "type.__call__" ⟨.ref C::a,b⟩)).depth=A.depth+1 :=by
 first|rfl|simp[qgU,Code.weight,Code.isCreation,qjf,Code.isCaller,qj9,qjg,guardIds]
theorem vN {A:qa1}:(A.under (.builtin "type.__call__" ⟨.ref C::a,b⟩)).units=A.units+1 :=by
 first|rfl|simp[qgU,Code.cUnits,qj9,qjg]
theorem bj.make (r:bj (k+1) A) (C) (a) (b):bj k (A.under (.builtin "type.__call__" ⟨.ref C::a,b⟩)) :=
 ⟨r.hd,by have:=r.dp;rw[vL];lia,by have:=r.un;rw[vN];lia,by
  unfold qgU
  simp[r.gd,pushGuards,Code.guards,qjf,guardIds]⟩
theorem bj.depth (r:bj k A):A.depth<qkv :=by have:=r.dp;lia
theorem bj.units (r:bj k A):A.units+64<cLine :=by have:=r.un;lia
theorem bj.units0 (r:bj k A):A.units<cLine :=by have:=r.un;lia
def Ir:TA:=λ_ H Q=>Q [] H
def Hf (b:TE) (c:TA):TA:=λa H Q=>b a H λx H1=>c a H1 λxs H2=>Q (x::xs) H2
section
variable {X:Cx}{e:Expr}{es:List Expr}{te:TE}{t:TA}{pos:Pos}
theorem sD:PA X [] Ir:=λ_ _ _ _ H Q I h=>Calls.spliced_nil ⟨_,H,I,.nil,h⟩
theorem mQ (l:PE X e te) (n:PA X es t) (m:qbA (e::es) X.env=(false,eval e X.env)::qbA es X.env:=by rfl):PA X (e::es) (Hf te t):=by
 intro pos a s c H Q I h;rw[m];refine Calls.spliced_cons (thn (l a s c H _ I h) λu s1 ⟨x,H1,I1,g,j⟩=>?_);exact thn (n pos a s1 c H1 _ I1 j) λd o ⟨xs,H2,I2,k,i⟩=>⟨_,H2,I2,.cons g k,i⟩
def Ix (t:TA):TE:=λc H Q=>t c H λxs H1=>xs.length<=qaF/\∀ p,H1 p=none->Q (.ref p) (upd H1 p (.tup xs))
def Iq (t:TA):TE:=λc H Q=>t c H λxs H1=>xs.length<=qaF/\∀ p,H1 p=none->Q (.ref p) (upd H1 p (.lst xs))
theorem Ay (h:PA X es t):PE X (.Tuple es x1 pos) (Ix t) :=by
 intro a s c H Q I f;refine wpAny_Tuple_spliced (thn (h pos a s c H _ I f) λd s1 ⟨xs,H1,I1,r,z,q⟩=>⟨by rw[<-r.length];exact z,?_⟩);refine⟨.ref s1.heap.objs.size,_,I1.laid (λb u e=>qaf _ e) (qao _) ?_,U,q _ (I1.hok.fresh (qao _))⟩;exact⟨z,d,r,dE.new _ _⟩
theorem Ax (h:PA X es t):PE X (.List es pos) (Iq t):=by
 intro a s c H Q I f;refine wpAny_List_spliced (thn (h pos a s c H _ I f) λd s1 ⟨xs,H1,I1,r,z,q⟩=>⟨by rw[<-r.length];exact z,?_⟩);refine⟨.ref s1.heap.objs.size,_,I1.laid (λb u e=>qaf _ e) (qao _) ?_,U,q _ (I1.hok.fresh (qao _))⟩;exact⟨z,d,0,r,qar _ U⟩
end
abbrev Sp:=List V->Hp->VK->XK->Prop
abbrev CXT:=List Env->Hp->qal->XK->Value->qal->Prop
structure x8 (P:qaO) (w:World) (K:qae) (mg:Str->Option Value) (base:Heap) (A:qa1) (outer:List Env) (s:qal) (H:Hp):Prop where
 frames:A.frames=some outer
 mod:Mod K mg base
 bs:∀ b o,base.get? b=some o->s.heap.get? b=some o/\H b=none
 bsz:base.objs.size<=s.heap.objs.size
 funs:s.heap.FunFrames base outer
 frf:∀ b∈frs outer,H b=none
 hok:HOk P w H s.heap
 bare:qfZ s.gens
def CE (outer:List Env) (P:qaO) (w:World) (H:Hp) (s:qal) (Q:VK) (u:Value) (s':qal):Prop:=
 ∃ v H',s'.os=s.os/\qfZ s'.gens/\Un (frs outer) [] H H' s.heap s'.heap/\HOk P w H' s'.heap/\aM v u/\Q v H'
def CR (CX:CXT) (outer:List Env) (P:qaO) (w:World) (H:Hp) (s:qal) (Q:VK) (E:XK) (r:qhw) (s':qal):Prop:=
 match r with
 |.ok (.ret u)=>CE outer P w H s Q u s'
 |.ok _=>False
 |.error e=>CX outer H s E e s'
structure dh (P:qaO) (w:World) (K:qae) (mg:Str->Option Value) (base:Heap) (CX:CXT) (k:Nat) (f:Addr) (fd:qch) (ps:List Str) (sp:Sp):Prop where
 len:∀ vs H Q E,sp vs H Q E->vs.length=ps.length
 run:∀ (A:qa1) (outer:List Env) (s:qal) (H:Hp) (args:Args) (us:List Value) (vs:List V) (Q:VK) (E:XK),bj k A->x8 P w K mg base A outer s H->qhX s fd args (ps.zip us)->aG vs us->sp vs H Q E->
  qdQ (model P w) A (.call (.ref f) args) (CR CX outer P w H s Q E) s
theorem dh.mono {K}(F:dh P w K mg base CX j f fd ps sp) (h:j<=k) :
  dh P w K mg base CX k f fd ps sp :=⟨F.len,λA outer s H args b a Q E c=>F.run A outer s H args b a Q E (c.mono h)⟩
theorem x8.make {K}(e:x8 P w K mg base A outer s H) (C) (a) (b) :
  x8 P w K mg base (A.under (.builtin "type.__call__" ⟨.ref C::a,b⟩)) outer s H :=⟨by first|exact e.frames|(simpa  using e.frames),e.mod,e.bs,e.bsz,e.funs,e.frf,e.hok,e.bare⟩
section
variable {X:Cx}{a:List (Addr×Obj)}{c:St}{H:Hp}{s s':qal}
theorem Inv.env0 (I:Inv X a c H s):x8 X.prog X.w X.K X.mg X.base X.A X.stack s H:=
 ⟨I.ok.frames,I.ok.mod,I.bs,qaN I.ok.bsz I.sz,I.stack,I.stkFree,I.hok,I.bare⟩
theorem Inv.after (I:Inv X a c H s) (h:CE X.stack X.prog X.w H s Q u s'):EP X a c Q u s' :=by
 obtain⟨v,H',os,bare,un,hok,r,q⟩:=h;obtain⟨f,g,d,t,e⟩:=s';obtain rfl:e=s.os:=os;exact⟨v,H',I.call un hok bare (λb z=>absurd z (by simp)),r,q⟩
end
def He (sp:Sp) (a:List V) (E:XK) (t:TA):TE:=λb H Q=>t b H λc H1=>sp (c++a) H1 Q E
def Hk (C:Addr) (sp:Sp) (b:List V) (E:XK) (t:TA):TE:=λc H Q=>t c H λd H1=>∀ x a,H1 x=none->H1 a=none->a≠x->
 sp (.ref x::(d++b)) (upd (upd H1 a (.own x)) x (.ins C a [])) (λv H2=>v=.non/\Q (.ref x) H2) E
def cO (K:qae) (fd:qch) (ps:List Str) (ds:List Value):Prop:=
 ∀ (s:qal) (a:List Value),K.In s.heap->(a++ds).length=ps.length->qhX s fd ⟨a,[]⟩ (ps.zip (a++ds))
theorem cO.all {K}(h:∀ a,a.length=ps.length->bindArgs fd ⟨a,[]⟩=pure (ps.zip a)):cO K fd ps [] :=λs a _ b=>by
 rw[qbY]at b ⊢;exact .of_eq (h a b)
def mW (CX:CXT) (X:Cx) (E:XK):Prop:=∀ (a:List (Addr×Obj)) (b:St) (H:Hp) (s:qal) (e:Value) (s':qal),Inv X a b H s->CX X.stack H s E e s'->X.xe e s'
section
variable {X:Cx}{CX:CXT}{k:Nat}{f C:Addr}{fd:qch}{ps:List Str}{sp:Sp}{b:List V}{ds:List Value}{E:XK}{x m:Str}{p pos G:Pos}{e o:Expr}{es:List Expr}{P:TE}{t:TA}
theorem Fo {c:St}(F:dh X.prog X.w X.K X.mg X.base CX k f fd ps sp) (w:bj k X.A) (hb:cO X.K fd ps ds) (hd:aG b ds) (hx:mW CX X E)
  (I:Inv X a c H s) (r:aG n g) (h:sp (n++b) H Q E):wpAny (model X.prog X.w) X.A (call (.ref f) g) (EP X a c Q) X.xe s :=by
 have y:=r.append hd;have D:(g++ds).length=ps.length:=by rw[<-y.length];exact F.len _ _ _ _ h
 refine qiY (qgy (F.run X.A X.stack s H _ _ _ Q E w I.env0 (hb s g I.kIn D) y h) λr s' i=>?_);cases r with
 |error e=>exact hx a c H s e s' I i
 |ok fl=>
  cases fl with
  |ret u=>exact I.after i
  |next=>exact qcL i
  |brk=>exact qcL i
  |cont=>exact qcL i
theorem xx (F:dh X.prog X.w X.K X.mg X.base CX k f fd ps sp) (w:bj k X.A) (hg:Gl X x) (hm:X.mg x=some (.ref f)) (L:qcV X.K (.ref f)=true) (hb:cO X.K fd ps ds) (hd:aG b ds) (hx:mW CX X E)
  (B:PA X (e::es) t) (l:(x==("__debug__"))=false:=by decide) (A:qbA (e::es) X.env=(false,eval e X.env)::qbA es X.env:=by rfl) (j:(qfq pos (qbA es X.env)).any (·.1)=false:=by rfl) :
  PE X (.Call (.Name x p) (e::es) [] pos) (He sp b E t) :=by
 intro a s c H Q I h;refine qeC (wW I hg hm ?_ l);refine qhe I.ok.mod.kin L (thn (B pos a s c H _ I h) λg s1 ⟨n,H1,I1,r,q⟩=>⟨I1.kIn,?_⟩) A j;exact Fo F w hb hd hx I1 r q
structure Mk (K:qae) (C f:Addr):Prop where
 makes:qfS K C=true
 init:qcn K (.ref C) "__init__" = some (some (.ref f))
 fn:qip K (.ref f)=true
 kp:qcV K (.ref C)=true
theorem Bb {c:St}(M:Mk X.K C f) (F:dh X.prog X.w X.K X.mg X.base CX k f fd ps sp) (w:bj (k+1) X.A) (hb:cO X.K fd ps ds) (hd:aG b ds)
  (hx:mW CX X E) (I:Inv X a c H s) (r:aG n g)
  (h:∀ x z,H x=none->H z=none->z≠x->sp (.ref x::(n++b)) (upd (upd H z (.own x)) x (.ins C z [])) (λv H2=>v=.non/\Q (.ref x) H2) E) :
  wpAny (model X.prog X.w) X.A (call (.ref C) g) (EP X a c Q) X.xe s :=by
 have i:=h _ s.heap.objs.size (I.hok.fresh (qcZ _)) (I.hok.fresh (qao _)) (qaC (qcb _));have I2:=Inv.made (C:=C) I;have y:aG (V.ref (s.heap.objs.size+1)::_) _:=.cons U (r.append hd);have D:=by
  have e:=y.length;rw[F.len _ _ _ _ i]at e;exact e.symm
 refine qiY (Ae I.kIn M.makes M.init (beq_iff_eq.mp M.fn) (qgy (F.run _ X.stack _ _ _ _ _ _ E (w.make C g [])
  (I2.env0.make C g []) (hb _ _ I2.kIn D) y i) λr s' d=>?_))
 cases r with
 |error e=>exact hx a c _ _ e s' I2 d
 |ok fl=>
  cases fl with
  |ret u=>
   obtain⟨v,H',I3,N,O,J⟩:=I2.after d;subst O;exact⟨N,⟨V.ref _,H',I3,U,J⟩⟩
  |next=>exact qcL d
  |brk=>exact qcL d
  |cont=>exact qcL d
theorem CI (M:Mk X.K C f) (F:dh X.prog X.w X.K X.mg X.base CX k f fd ps sp) (w:bj (k+1) X.A) (hg:Gl X x) (hm:X.mg x=some (.ref C)) (hb:cO X.K fd ps ds) (hd:aG b ds) (hx:mW CX X E)
  (B:PA X (e::es) t) (l:(x==("__debug__"))=false:=by decide) (A:qbA (e::es) X.env=(false,eval e X.env)::qbA es X.env:=by rfl) (j:(qfq pos (qbA es X.env)).any (·.1)=false:=by rfl) :
  PE X (.Call (.Name x p) (e::es) [] pos) (Hk C sp b E t) :=by
 intro a s c H Q I h;refine qeC (wW I hg hm ?_ l);refine qhe I.ok.mod.kin M.kp (thn (B pos a s c H _ I h) λg s1 ⟨n,H1,I1,r,q⟩=>⟨I1.kIn,?_⟩) A j;exact Bb M F w hb hd hx I1 r q
end
section
variable {X:Cx}{CX:CXT}{k:Nat}{f C:Addr}{fd:qch}{ps i:List Str}{sp:Sp}{E:XK}{x m:Str}{p pos b a:Pos}{e o:Expr}{es:List Expr}{c:List qiB}{te j:TE}{t h:TA}{nm:Option Str}
variable {g:List Value->List Value->List Value}{d:List V->List V->List V}
end
structure b5 (N P:List Str) (sc:Scope):Prop where
 kind:sc.kind=.function
 co:sc.isCoroutine=false
 gen:sc.isGenerator=false
 nd:N.Nodup
 pre:N.take P.length=P
 par:∀ x∈P,sc.names.lookup x=some .local\/sc.names.lookup x=some .cell
 nofree:∀ y∈sc.names,y.2≠.free
theorem pM {kindOf:Str->Option qb9}{x:Str}:∀ {binds:List (Str×Value)}{m:Str->Option Value},(∀ v,(x,v)∉binds)->bindL kindOf binds m x=m x
 |[],_,_=>rfl
 |(n,v)::r,m,h=>by
  unfold bindL;rw[pM λw hw=>h w (qaj _ hw)];split
  ·have:x≠n:=by rintro rfl;exact h v qag
   simp[this]
  ·rfl
theorem pK {kindOf:Str->Option qb9}{x:Str}:∀ {binds:List (Str×Value)}{m:Str->Option Value},(∀ v,(x,v)∉binds)->bindC kindOf binds m x=m x
 |[],_,_=>rfl
 |(n,v)::r,m,h=>by
  unfold bindC;rw[pK λw hw=>h w (qaj _ hw)];split
  ·rfl
  ·have:x≠n:=by rintro rfl;exact h v qag
   simp[this]
theorem pL {kindOf}{x}{v}:∀ {P:List Str}{a}{i:Nat}{m},P.Nodup->P[i]?=some x->a[i]?=some v->kindOf x=some .local->
  bindL kindOf (P.zip a) m x=some v
 |[],_,_,_,_,h,_,_=>by simp at h
 |_::_,[],_,_,_,_,h,_=>by simp at h
 |p::P,w::a,0,m,nd,c,b,d=>by
  simp at c b;subst c;subst b
  show bindL kindOf ((p,w)::P.zip a) m p=_;unfold bindL;rw[pM λv e=>(qcr.mp nd).1 (qgl e).1,iFP d]
  simp
 |p::P,w::a,i+1,m,nd,c,b,d=>by
  unfold bindL;exact pL (qcr.mp nd).2 (by simpa using c) (by simpa using b) d
theorem pJ {kindOf}{x}{v}:∀ {P:List Str}{a}{i:Nat}{m},P.Nodup->P[i]?=some x->a[i]?=some v->kindOf x≠some .local->
  bindC kindOf (P.zip a) m x=some v
 |[],_,_,_,_,h,_,_=>by simp at h
 |_::_,[],_,_,_,_,h,_=>by simp at h
 |p::P,w::a,0,m,nd,c,b,d=>by
  simp at c b;subst c;subst b
  show bindC kindOf ((p,w)::P.zip a) m p=_;unfold bindC;rw[pK λv e=>(qcr.mp nd).1 (qgl e).1,iFN d]
  simp
 |p::P,w::a,i+1,m,nd,c,b,d=>by
  unfold bindC;exact pJ (qcr.mp nd).2 (by simpa using c) (by simpa using b) d
def iy (N:List Str) (a:List V):St:=a.map some++qaG (N.length - a.length) none
def fj (CX:CXT) (P:qaO) (w:World) (K:qae) (mg:Str->Option Value) (base:Heap) (N:List Str) (b:Str) (a:Scope) (f:Addr) (d:Value) (A:qa1) (outer:List Env) (s:qal) (H:Hp) (E:XK):Cx where
 prog:=P
 w:=w
 K:=K
 mg:=mg
 base:=base
 A:=A.deeper (qeS b a s.heap.objs.size f d)
 N:=N
 s₀:=s
 H₀:=H
 env:=qeS b a s.heap.objs.size f d
 outer:=outer
 stack:=qeS b a s.heap.objs.size f d::outer
 ex:=[]
 calm:=true
 fn:=λ_=>true
 pn:=[]
 xe:=λe s'=>wpAny (model P w) (A.deeper (qeS b a s.heap.objs.size f d)) (leaving (qeS b a s.heap.objs.size f d) e) (λ_ c=>CX outer H s E e c) (λg c=>CX outer H s E g c) s'
theorem tQ {a:Scope}(h:a.names.lookup x=some .cell):∃ c,(qcI n a.names []).lookup x=some c :=by
 exact qcF.mp (qdA a.names n [] (.inl h))
theorem yC {K}(S:b5 N ps d) (hd:A.handled=none) (e0:x8 P w K mg base A outer s H) (O:m.length=ps.length) (r:aG m D)
  (x:InCallC s s.heap.objs.size (bindL (qeS g d s.heap.objs.size f B).kindOf (ps.zip D) λ_=>none) (qcI (s.heap.objs.size+1) d.names []) (bindC (qeS g d s.heap.objs.size f B).kindOf (ps.zip D) λ_=>none) s1) :
  Inv (fj CX P w K mg base N g d f B A outer s H E) [] (iy N m) H s1 :=by
 have I:ps.length<=N.length:=by have:=congrArg qfg S.pre;rw[qdU]at this;lia
 obtain⟨C,M,rfl,F⟩:=x.done;have l:∀ b ,b∉(fj CX P w K mg base N g d f B A outer s H E).ex:=λb z=>absurd (show b∈([]) from z) (by simp)
 refine⟨⟨e0.mod,S.kind,U,U,qao _,λy z c C j=>?_,λy t=>?_,λy c _ h=>?_,λ_=>hd,Around.frames_deeper e0.frames,.inr ⟨U,U⟩,λb z=>absurd z (l b),e0.bs,e0.bsz,λb _ _=>l b,λb z=>absurd z (l b),e0.funs,e0.frf⟩,
  rfl,e0.bare,Un.kept F,⟨_,x.toInCall.ns,λi y v C j Q=>?_⟩,λy c h=>⟨_,x.cell y c h⟩,e0.hok.fresh (qao _),λy c h=>?_,λp n=>absurd (show p∈([]) from n) (by simp),e0.hok.kept F,?_⟩
 ·exact name_of_addr x.apart (qbF C) (qbF j)
 ·rcases t with t|t
  ·exact tQ t
  ·exact absurd U (S.nofree _ (qbF t))
 ·exact qe4 (x.above y c (qbF h))
 ·have hi:i<m.length:=by
   unfold iy at j;by_cases hi:i<m.length
   ·exact hi
   ·rw[qaI (by simpa using hi)]at j
    rw[qdC]at j;split at j<;>cases j
  have J:m[i]?=some v:=by
   unfold iy at j;rw[qaH (by simpa using hi),qay]at j;cases e:m[i]? with
   |none=>rw[e]at j;cases j
   |some a=>rw[e]at j;cases j;rfl
  obtain⟨u,G,L⟩:=r.get J;have n:ps[i]?=some y:=by
   rw[<-S.pre,qex (by lia)];exact C
  have o:ps.Nodup:=by rw[<-S.pre];exact S.nd.sublist (qh2 _ _)
  refine⟨u,L,?_⟩;rcases S.par y (qbS n) with k|k
  ·exact .inl ⟨k,pL o n G k⟩
  ·obtain⟨c,e⟩:=tQ k
   refine .inr ⟨.inl k,c,e,?_⟩;have q:=x.cell y c e;rw[pJ o n G (by show d.names.lookup y≠_;rw[k];decide)]at q;exact q
 ·exact e0.hok.fresh (qe4 (x.above y c (qbF h)))
 ·unfold iy
  show _=N.length;rw[qaA,qah,qda];lia
theorem Gb {K}{ kV     }(R:K.lookup f=some ⟨O,T,.func (qd2 name c d body a G kV m D F g ct),y⟩) (z:qgc K g c=true) (S:b5 N ps a)
  (len:∀ j H Q E,sp j H Q E->j.length=ps.length)
  (i:∀ (A) (outer) (s) (H) (j) (Q) (E),bj k (A.deeper (qeS c a s.heap.objs.size f g))->sp j H Q E->
    ∃ t,PSs (fj CX P w K mg base N c a f g A outer s H E) body t/\t { nx:=λ_ H'=>Q .non H',rt:=Q } (iy N j) H) :
  dh P w K mg base CX (k+1) f (qd2 name c d body a G kV m D F g ct) ps sp :=by
 refine⟨len,λA outer s H args X j Q E C e0 hb r p=>?_⟩;have KX:=e0.mod.kin.keeps λb o e=>(e0.bs b o e).1;refine codeAny_call_function C.depth (KX _ _ R) U S.co S.gen U (PySem.W.codeRec_of KX z) (hb _ _ _ _ ?_)
 refine wpAny_newFunctionEnv_cells S.kind (λ⟨n,v⟩ W=>by
  rcases S.par n (qgl W).1 with q|q
  ·exact .inl q
  ·exact .inr ⟨q,qdA _ _ _ (.inl q)⟩) λenv I s1 x=>?_
 subst I;refine⟨(e0.mod.nolimit.keeps λb o e=>(e0.bs b o e).1).keeps x.toInCall.keep,codeAny_func ?_⟩;obtain⟨t,L,M⟩:=i A outer s H j Q E (C.deeper _) p;refine qcC (L [] s1 _ H _ (yC S C.hd e0 (len _ _ _ _ p) r x) M) (λfl s' l=>?_) λe s' l=>l;have fin:∀ {h:St}{H':Hp}{v:V}{u:Value},Inv (fj CX P w K mg base N c a f g A outer s H E) [] h H' s'->aM v u->Q v H'->CE outer P w H s Q u s':=
  λ{h H' v u} J B q=>⟨v,H',J.os,J.bare,J.base,J.hok,B,q⟩
 cases fl with
 |ret u=>
  obtain⟨v,h,H',J,B,q⟩:=l;exact fin J B q
 |next=>
  obtain⟨h,H',J,q⟩:=l;exact fin (v:=V.non) J U q
 |brk=>
  obtain⟨_,_,_,q⟩:=l;exact qcL q
 |cont=>
  obtain⟨_,_,_,q⟩:=l;exact qcL q
section
variable {X:Cx}{x:Str}{p pos:Pos}{e:Expr}{es:List Expr}{t:TA}{id T:String}{r:List V->Hp->VK->Prop}
def tCB (r:List V->Hp->VK->Prop) (t:TA):TE:=λb H Q=>t b H λf H1=>r f H1 Q
theorem oB (k:a7 X (.builtin id) r) (hg:Gl X x) (hm:X.mg x=none) (m:qcm x=some (.builtin id)) (l:PA X (e::es) t) (hn:x≠"__name__":=by decide) (d:(x==("__debug__"))=false:=by decide)
  (j:qbA (e::es) X.env=(false,eval e X.env)::qbA es X.env:=by rfl) (c:(qfq pos (qbA es X.env)).any (·.1)=false:=by rfl):PE X (.Call (.Name x p) (e::es) [] pos) (tCB r t) :=by
 intro a s b H Q I h;refine qeC (hJ I hg hm m ?_ hn d);exact qj3 (thn (l pos a s b H _ I h) λn s1 ⟨f,H1,I1,g,i⟩=>k a s1 b H1 f n Q I1 g i) j c
theorem cH (k:a7 X (.type T) r) (hg:Gl X x) (hm:X.mg x=none) (m:qcm x=some (.type T)) (l:PA X (e::es) t) (hn:x≠"__name__":=by decide) (d:(x==("__debug__"))=false:=by decide)
  (j:qbA (e::es) X.env=(false,eval e X.env)::qbA es X.env:=by rfl) (c:(qfq pos (qbA es X.env)).any (·.1)=false:=by rfl):PE X (.Call (.Name x p) (e::es) [] pos) (tCB r t) :=by
 intro a s b H Q I h;refine qeC (hJ I hg hm m ?_ hn d);exact qb0 (thn (l pos a s b H _ I h) λn s1 ⟨f,H1,I1,g,i⟩=>k a s1 b H1 f n Q I1 g i) j c
end
end L2
namespace HT
open PySem PyProof.Rows
section
open PySem.SeqAt
open PySem.AutoSeq1 (wpAny_loadPart')
open PySem.MeetsSeq PySem.MeetsSeq2 PySem.MeetsSeq3
end
section
variable {prog:qaO}{w:World}{A:qa1}{E:Value->qal->Prop}{s:qal}
theorem cat_tup (y:IsTup s.heap t l.toArray) (hb:IsTup s.heap b ws.toArray) (F:l≠[])
  (V:ws=[]->Q (.ref t) s) (T:ws≠[]->Q (.ref s.heap.objs.size) { s with heap:=s.heap.push { cls:=.type "tuple",data:=.seq (l++ws).toArray } })
  (C:l.length+ws.length<=qaF):wpAny (model prog w) A (qbP .Add (.ref t) (.ref b)) Q E s :=by
 obtain⟨⟨cls,R,data,g⟩,I,S,n,hd⟩:=id y;obtain⟨⟨O,G,data2,B⟩,f,M,P,N⟩:=id hb;subst S hd M N;have e:l.toArray++ws.toArray=(l++ws).toArray:=by simp
 by_cases hw:ws=[]
 ·exact qie ⟨_,I,U⟩ ⟨_,f,U⟩ qgI qhJ qey qer (qeg _ _)
   (tuple_addW1 t b l.toArray ws.toArray n P R G g B (by simpa using F) (by simp[hw])) ⟨I,f,V hw⟩
 ·refine qie ⟨_,I,U⟩ ⟨_,f,U⟩ qgI qhJ qey qer (qeg _ _)
   (tuple_addW2 t b l.toArray ws.toArray n P R G g B (by simpa using F) (by simpa using hw) (by exact C)) ⟨I,f,?_⟩
  rw[e];exact T hw
def sIx (n d:Nat):Option Int->Nat
 |none=>d
 |some v=>if v<0 then (v+(n:Int)).toNat else min v.toNat n
theorem sIx_none (n d):sIx n d none=d :=rfl
theorem sIx_nat (n d k:Nat):sIx n d (some (k))=min k n :=by
 show (if (k)<0 then ((k)+(n:Int)).toNat else min (k:Int).toNat n)=min k n;rw[iFN (by lia),qbc]
theorem Ij (n d) (hd:d<=n) (o):sIx n d o<=n :=by
 cases o with
 |none=>exact hd
 |some v=>
  show (if v<0 then (v+_).toNat else min v.toNat n)<=n;by_cases F:v<0
  ·lia
  ·rw[iFN F];exact Nat.min_le_right _ _
theorem wo (v) (n d:Nat):(if v<0 then max (v+(n:Int)) 0 else min v (n))=((sIx n d (some v))) :=by
 show _=(((if v<0 then (v+_).toNat else min v.toNat n):Nat):Int);by_cases F:v<0
 ·lia
 ·lia
theorem u4 (lo hi) (n:Nat):qfv lo hi 1 (n)=(((sIx n 0 lo):Int),((sIx n n hi):Int)) :=by
 refine Prod.ext ?_ ?_
 ·cases lo with
  |none=>rfl
  |some v=>exact wo v n 0
 ·cases hi with
  |none=>rfl
  |some v=>exact wo v n n
theorem vU (i j:Nat):qc4 (i) (j) 1=j - i :=by
 unfold qc4;split<;>lia
theorem oQ (p:qgE v o) (h:Q o s):wpAny (model prog w) A (qjj v) Q E s :=by
 cases p with
 |none=>exact qkt h
 |int i t=>exact slicePart_int h
theorem fH {lo }{n:Nat}(H:s.heap.IsSliceOf g z u .none) (J:qgE z lo) (L:qgE u hi)
  (h:Q (((sIx n 0 lo)),1,sIx n n hi - sIx n 0 lo) s):wpAny (model prog w) A (qjk (.ref g) (pure (n))) Q E s :=by
 obtain⟨os,a,D,c⟩:=id H;refine qaa (qaa (qby a c (x:=z) U (qaa (qby a c (x:=u) U (qaa (qby a c U (qam ?_)))))));refine qaa (qkt ?_);refine qaa (oQ J (qaa (oQ L (qaa (qam ?_)))));show wpAny _ _ (match qfv lo hi 1 _ with|(lo,hi)=>pure (lo,_,qc4 lo hi 1)) _ _ s
 rw[u4 lo hi n];show wpAny _ _ (pure (_,_,qc4 _ _ 1)) _ _ s;rw[vU];exact qam h
theorem AD (xs:Array Value) (i k:Nat):((qak k).filterMap λ(m:Nat)=>xs[((i)+(m:Int)*1).toNat]?).toArray=((xs.toList.drop i).take k).toArray :=by
 have e:(λ(m:Nat)=>xs[((i)+(m:Int)*1).toNat]?)=λm=>xs[i+m]?:=by
  funext m
  have:((i)+(m:Int)*1).toNat=i+m:=by lia
  rw[this]
 rw[e]
 have:=pick_run xs i k
 rw[List.filterMap_map]at this;have W:(_ ∘ λx=>i+x)=λm=>xs[i+m]?:=rfl;rw[W]at this;rw[this]
theorem getItem_tuple_cut {lo }(y:IsTup s.heap t items) (H:s.heap.IsSliceOf g z u .none) (J:qgE z lo) (L:qgE u hi)
  (hw:¬ (sIx items.size 0 lo=0/\sIx items.size items.size hi=items.size))
  (h:Q (.ref s.heap.objs.size) { s with heap:=s.heap.push { cls:=.type "tuple",data:=.seq ((items.toList.drop (sIx items.size 0 lo)).take (sIx items.size items.size hi - sIx items.size 0 lo)).toArray } })
  (C:items.size<=qaF):wpAny (model prog w) A (qfp (.ref t) (.ref g)) Q E s :=by
 have r:=by
  show ((items.toList.drop (sIx items.size 0 lo)).take (sIx items.size items.size hi - sIx items.size 0 lo)).toArray.size<=qaF;rw[qaE,qdU,qf2,qcU];lia
 obtain⟨os,a,D,c⟩:=id H;unfold qfp
 try with_reducible refine qb4 ?_
 refine qaa (qiX y.typeIs (by decide) ?_)
 refine qaa (qbx y.typeIs qbO
  (qbL qbO y.typeIs qix ?_ (qiL _ _)))
 show wpAny _ _ (qfj _ >>= _) _ _ s;refine qaa (tupleItemsOf_ y ?_);refine qaa (qh8 ⟨os,a,D⟩ ?_);refine qaa (fH H J L ?_);have K:¬ ((((sIx items.size 0 lo):Int)==0&&(1:Int)==1&&(sIx items.size items.size hi - sIx items.size 0 lo)==items.size)=true):=by
  intro q;exact hw ⟨by lia,by lia⟩
 show wpAny _ _ (if _=true then _ else _) _ _ s;rw[iFN K,AD]
 first
  |exact qaa (qb5 (qam ⟨_,rfl,qam h⟩) r)
  |exact qaa _
  |exact qaa _
  |exact qaa _
end
end HT
namespace L2
open PySem PySem.Spec PyProof.Rows
abbrev TO:=St->Hp->(Option Int->Hp->Prop)->Prop
def PO (X:Cx) (e:Option Expr) (t:TO):Prop:=
 ∀ (a:List (Addr×Obj)) (s:qal) (b:St) (H:Hp) (Q:Option Int->Hp->Prop),Inv X a b H s->t b H Q->
  wpAny (model X.prog X.w) X.A (evalPart e X.env) (λu s'=>∃ o H',Inv X a b H' s'/\qgE u o/\Q o H') X.xe s
def Df:TO:=λ_ H Q=>Q none H
def Ho (t:TE):TO:=λa H Q=>t a H λx H1=>∃ i,x=.int i/\Q (some i) H1
theorem dN :∀ {a},aG (ns.map V.int) a->qcz a ns :=by
 induction ns with
 |nil=>intro a r;cases r;exact .nil
 |cons n ns c=>
  intro a r;cases r with
  |cons b d=>
   obtain⟨t,e⟩:=b;subst e;exact .cons n t (c d)
section
variable {X:Cx}{e:Expr}{te:TE}{lo hi:Option Expr}{tl B:TO}{pos L:Pos}
theorem CL:PO X none Df:=by
 intro c s d H Q I h;exact qam ⟨none,H,I,.none,h⟩
theorem CM (h:PE X e te):PO X (some e) (Ho te):=by
 intro c s d H Q I hw;refine thn (h c s d H _ I hw) λu s1 ⟨x,H1,I1,g,n⟩=>?_;obtain⟨i,rfl,q⟩:=n;obtain⟨t,rfl⟩:=g;exact⟨_,H1,I1,.int i t,q⟩
def SlR (X:Cx) (r:V->Option Int->Option Int->Hp->VK->Prop):Prop:=
 ∀ (c:List (Addr×Obj)) (s:qal) (d:St) (H:Hp) (x:V) (v m j:Value) (lo hi:Option Int) (E:Addr) (Q:VK),Inv X c d H s->aM x v->s.heap.IsSliceOf E m j .none->qgE m lo->qgE j hi->r x lo hi H Q->
  ∃ T id,typeLookup (.type T) "__getitem__" = pure (some (.builtin id))/\s.TypeIs v T/\wpAny (model X.prog X.w) X.A (qfp v (.ref E)) (EP X c d Q) X.xe s
def tSl (r:V->Option Int->Option Int->Hp->VK->Prop) (te:TE) (tl B:TO):TE:=λd H Q=>te d H λx H1=>tl d H1 λl H2=>B d H2 λu H3=>r x l u H3 Q
theorem uB (hr:SlR X r) (O:PE X e te) (hl:PO X lo tl) (W:PO X hi B):PE X (.Subscript e (.Slice lo hi none L) pos) (tSl r te tl B) :=by
 intro c s d H Q I h;refine qi7 (thn (O c s d H _ I h) λv s1 ⟨x,H1,I1,g,n⟩=>?_);refine wpAny_Slice (thn (hl c s1 d H1 _ I1 n) λm P ⟨l,H2,I2,C,J⟩=>thn (W c P d H2 _ I2 J) λj D ⟨u,H3,I3,G,R⟩=>?_);refine qam ?_;obtain⟨T,id,hT,A,hg⟩:=hr c { D with heap:=D.heap.push { cls:=.type "slice",data:=.fields #[m,j,.none] } } d H3 x v m j l u D.heap.objs.size Q (I3.kept λb ob q=>qaf _ q) g (qiR ..) C G R
 exact tail_any A hT hg (by with_unfolding_all rfl)
def vb (xs:List V) (lo hi:Option Int):List V:=(xs.drop (HT.sIx xs.length 0 lo)).take (HT.sIx xs.length xs.length hi - HT.sIx xs.length 0 lo)
theorem lu (xs) (lo hi):(vb xs lo hi).length<=xs.length :=by
 unfold vb;rw[qdU,qf2];lia
def Ih (K:qae):V->Option Int->Option Int->Hp->VK->Prop:=λx lo hi H Q=>∃ a xs,x=.ref a/\SqT K H a xs/\
 ¬ (HT.sIx xs.length 0 lo=0/\HT.sIx xs.length xs.length hi=xs.length)/\∀ p,H p=none->Q (.ref p) (upd H p (.tup (vb xs lo hi)))
theorem Fs:SlR X (Ih X.K):=by
 intro c s d H x v m j lo hi E Q I F Y C G h;obtain⟨a,xs,rfl,hx,hw,q⟩:=h;cases F;obtain⟨its,r,A,hz⟩:=I.tuple hx;have f:its.toArray.size=xs.length:=by exact r.length.symm
 refine⟨"tuple",_,qbO.lookup,A.typeIs,?_⟩
 refine HT.getItem_tuple_cut A Y C G (by rw[f];exact hw) ?_ (by rw[f];exact hz);rw[f];refine⟨.ref s.heap.objs.size,_,I.laid (λb ob q=>qaf _ q) (qao _) ?_,U,q _ (I.hok.fresh (qao _))⟩;exact⟨qaN (lu xs lo hi) hz,_,(r.drop _).take _,dE.new _ _⟩
def GV (K:qae):R2:=λx y H Q=>∃ a b xs k,x=.ref a/\y=.ref b/\SqT K H a xs/\SqT K H b k/\xs≠[]/\xs.length+k.length<=qaF/\
 (k=[]->Q (.ref a) H)/\(k≠[]->∀ p,H p=none->Q (.ref p) (upd H p (.tup (xs++k))))
theorem aG.nil_iff (r:aG xs N):N=[]↔xs=[] :=by
 cases r with
 |nil=>simp
 |cons _ _=>simp
theorem Cz:OpR X (qbP .Add) (GV X.K):=by
 intro c s d H x y v u Q I F ry h;obtain⟨a,b,xs,k,rfl,rfl,S,hb,hx,hz,n,J⟩:=h;cases F;cases ry;obtain⟨its,g,p1,_⟩:=I.tuple S;obtain⟨M,o,L,_⟩:=I.tuple hb;refine HT.cat_tup p1 L (λz=>hx (g.nil_iff.mp z)) (λz=>⟨.ref a,H,I,U,n (o.nil_iff.mp z)⟩) (λz=>?_) (by rw[<-g.length,<-o.length];exact hz);refine⟨.ref s.heap.objs.size,_,I.laid (λb ob q=>qaf _ q) (qao _) ?_,U,J (λw=>z (o.nil_iff.mpr w)) _ (I.hok.fresh (qao _))⟩;exact⟨by rw[qaA];exact hz,_,g.append o,dE.new _ _⟩
end
noncomputable def ixN (n:Nat) (i:Int):Option Nat:=if 0<=i then (if i<n then some i.toNat else none) else if -(n:Int)<=i then some (i+n).toNat else none
def atI {α:Type} (xs:List α) (i:Int):Option α:=(ixN xs.length i).bind λj=>xs[j]?
theorem mJ (h:ixN n i=some j):qkd i n=some j/\j<n/\-(n)<=i/\i<n :=by
 unfold ixN at h;by_cases b:0<=i
 ·rw[iFP b]at h
  by_cases a:i<n
  ·rw[iFP a]at h
   exact⟨by rw[qit b a,(qaL h)],by lia,by lia,a⟩
  ·rw[iFN a]at h;cases h
 ·rw[iFN b]at h
  by_cases a:-(n)<=i
  ·rw[iFP a]at h
   exact⟨by rw[qic (by lia) a,(qaL h)],by lia,a,by lia⟩
  ·rw[iFN a]at h;cases h
theorem qq {v} (h:atI xs i=some v):∃ j,qkd i xs.length=some j/\xs[j]?=some v/\j<xs.length/\-(xs.length)<=i/\i<xs.length :=by
 unfold atI at h;cases e:ixN xs.length i with
 |none=>rw[e]at h;cases h
 |some j=>
  rw[e]at h;obtain⟨c,d,b,a⟩:=mJ e;exact⟨j,c,h,d,b,a⟩
theorem di {j:Nat}{v} (h:xs[j]?=some v):atI xs (j)=some v :=by
 have a:=(qas.mp h).1;have e:ixN xs.length (j)=some j:=by
  unfold ixN;rw[iFP (by lia),iFP (by lia)];simp
 unfold atI;rw[e];exact h
theorem zn (xs) (v:α):atI (xs++[v]) (-1)=some v :=by
 have a:(xs++[v]).length=xs.length+1:=by simp
 have e:ixN (xs++[v]).length (-1)=some xs.length:=by
  unfold ixN;rw[iFN (by decide),iFP (by lia)]
  congr 1
  lia
 unfold atI;rw[e]
 simp
def wj (b:Expr):Prop:=∀ o i,qgY b false o i=operate [o,i] (qfp o i)
def IxR (X:Cx) (r:R2):Prop:=
 ∀ (c a:Expr) (b:List (Addr×Obj)) (s:qal) (d:St) (H:Hp) (x y:V) (v u:Value) (Q:VK),Inv X b d H s->aM x v->aM y u->r x y H Q->
  qgY a false v u=operate [v,u] (qfp v u)->wpAny (model X.prog X.w) X.A (subscriptTail c a v u) (EP X b d Q) X.xe s
def MtR (X:Cx) (id:String) (r:V->List V->Hp->VK->Prop):Prop:=
 ∀ (a:List (Addr×Obj)) (s:qal) (b:St) (H:Hp) (x:V) (xs:List V) (v:Value) (c:List Value) (Q:VK),Inv X a b H s->aM x v->aG xs c->r x xs H Q->
  wpAny (model X.prog X.w) X.A (call (.builtin id) (v::c)) (EP X a b Q) X.xe s
section
variable {X:Cx}{a b:Expr}{ta tb:TE}{pos:Pos}
theorem IxR.or (h:IxR X r) (h':IxR X L):IxR X (λx y H Q=>r x y H Q\/L x y H Q) :=by
 intro F J d s B H x y v u Q I g M q P;rcases q with q|q
 ·exact h F J d s B H x y v u Q I g M q P
 ·exact h' F J d s B H x y v u Q I g M q P
theorem Aw (hr:IxR X r) (ha:PE X a ta) (hb:PE X b tb) (P:wj b):PE X (.Subscript a b pos) (tOp r ta tb) :=by
 intro d s B H Q I h;exact qi7 (D4 ha hb I h λv u s2 x y H2 I2 g M q=>hr a b d s2 B H2 x y v u Q I2 g M q (P _ _))
def GY (K:qae):R2:=λx y H Q=>∃ p xs i v,x=.ref p/\y=.int i/\SqL K H p xs/\atI xs i=some v/\Q v H
def G0 (K:qae):R2:=λx y H Q=>∃ p xs i v,x=.ref p/\y=.int i/\SqT K H p xs/\atI xs i=some v/\Q v H
def GZ:R2:=λx y H Q=>∃ z i c,x=.str z/\y=.int i/\z.length<=qaF/\atI z.cps.toList i=some c/\Q (.str ⟨#[c]⟩) H
theorem B8:IxR X (GY X.K):=by
 intro F J d s B H x y v u Q I g M h P;obtain⟨p,xs,i,z,rfl,rfl,m,he,q⟩:=h;cases g;obtain⟨t,rfl⟩:=M;obtain⟨its,r,C,hz⟩:=I.list m;obtain⟨j,N,h2,h3,h4,h5⟩:=qq he;obtain⟨w,ew,rw'⟩:=r.get h2;have hl:=r.length;have hn:=kS;have fin:EP X d B Q w s:=⟨z,H,I,rw',q⟩;by_cases h0:0<=i
 ·have hj:=by
   rw[qit h0 h5]at N;exact qaL N
  exact item_listR C.isList h0 (by lia) (by rw[hj];simpa using ew) fin P
 ·have hj:(i+(its.toArray.size)).toNat=j:=by
   rw[qic (by lia) h4]at N;rw[qaE,<-hl];exact qaL N
  exact qhY C.isList.typeIs qi2.lookup
   (wpAny_getItem_list_neg C.isList (by lia) (by rw[qaE]<;>lia) (by lia) (by rw[hj];simpa using ew) ⟨U,fin⟩) P
theorem Et:IxR X (G0 X.K):=by
 intro F J d s B H x y v u Q I g M h P;obtain⟨p,xs,i,z,rfl,rfl,m,he,q⟩:=h;cases g;obtain⟨t,rfl⟩:=M;obtain⟨its,r,C,hz⟩:=I.tuple m;obtain⟨j,N,h2,h3,h4,h5⟩:=qq he;obtain⟨w,ew,rw'⟩:=r.get h2;have hn:=kS;exact qhY C.typeIs slot_tuple_getitem.lookup
  (getItem_tuple C (by lia) (by lia) (by rw[qaE,<-r.length];exact N) (by simpa using ew) ⟨U,⟨z,H,I,rw',q⟩⟩) P
theorem Es:IxR X GZ:=by
 intro F J d s B H x y v u Q I g M h P;obtain⟨z,i,c,rfl,rfl,hz,he,q⟩:=h;obtain⟨t,rfl⟩:=g;obtain⟨t',rfl⟩:=M;obtain⟨j,N,h2,h3,h4,h5⟩:=qq he;have hl:z.cps.toList.length=z.length:=by simp[Str.length]
 rw[hl]at N h4 h5;have hn:=kS
 exact tail_any (typeIs_str s z t) slot_str_getitem.lookup (getItem_str (by
  rw[(decide_eq_false (by lia)),(decide_eq_false (by lia)),Bool.or_false]) (by rw[N];simpa using h2) ⟨.str _,H,I.tok _,⟨_,U⟩,q⟩) P
def rIx (K:qae):R2:=λx y H Q=>GY K x y H Q\/G0 K x y H Q\/GZ x y H Q
theorem rR:IxR X (rIx X.K):=B8.or (Et.or Es)
theorem vO (its:List Value) (n j) (u):qcv (·.setIfInBounds j u) { cls:=.type "list",data:=.seq its.toArray n }={ cls:=.type "list",data:=.seq (its.set j u).toArray n } :=by
 simp[qcv]
theorem Inv.lst {B:St}(I:Inv X d B H s) (h:H p=some (.lst xs)) :
  ∃ (its:List Value) (n:Nat),aG xs its/\s.heap.get? p=some { cls:=.type "list",data:=.seq its.toArray n }/\xs.length<=qaF :=by
 obtain⟨z,its,n,r,e⟩:=I.hok p _ h;exact⟨its,n,r,e,z⟩
theorem Inv.lstUpd {B:St}{its :List Value}(I:Inv X d B H s) (h:H p=some (.lst xs))
  (ho:s.heap.get? p=some { cls:=.type "list",data:=.seq its.toArray n }) (hf:f { cls:=.type "list",data:=.seq its.toArray n }={ cls:=.type "list",data:=.seq its'.toArray n' }) (r:aG E its') (hz:E.length<=qaF) (t) :
  Inv X d B (upd H p (.lst E)) { s with heap:=s.heap.update p f,toks:=t } :=by
 have e:(s.heap.update p f).get? p=some { cls:=.type "list",data:=.seq its'.toArray n' }:=by
  rw[qb3 f ho (by rw[hf]<;>rfl),hf]
 refine I.write (by rw[h];trivial) (.inl U) (λb u hb q=>(qaQ _ _ (qbp hb)).trans q) ⟨_,e⟩ ?_;exact⟨hz,its',n',r,e⟩
def G2:V->V->V->Hp->(Hp->Prop)->Prop:=λo i v H Q=>∃ p xs k j,o=.ref p/\i=.int k/\H p=some (.lst xs)/\ixN xs.length k=some j/\Q (upd H p (.lst (xs.set j v)))
theorem kq:FT X G2:=by
 intro d s B H o i v ov iv u Q I ro ri rv h;obtain⟨p,xs,k,j,rfl,rfl,hp,hj,q⟩:=h;cases ro;obtain⟨t,rfl⟩:=ri;obtain⟨its,n,r,ho,hz⟩:=I.lst hp;obtain⟨N,h2,h3,h4⟩:=mJ hj;have hl:=r.length;have hn:=kS;have I':=
  I.lstUpd hp ho (vO its n j u) (r.set rv j) (by rw[qcj];exact hz) s.toks
 by_cases h0:0<=k
 ·have W:=by
   rw[qit h0 h4]at N;exact qaL N
  exact PySem.W.ki_setAt ho h0 (by lia) (by rw[qaE,<-hl];exact h4) (by rw[W];exact⟨_,I',q⟩)
 ·have W:(k+(its.toArray.size)).toNat=j:=by
   rw[qic (by lia) h3]at N;rw[qaE,<-hl];exact qaL N
  exact PySem.W.ki_setBack ho (by lia) (by rw[qaE,<-hl];exact h3) (by lia) (by rw[W];exact⟨_,I',q⟩)
theorem sP (lo hi) (n):(qeo lo hi none n).1=((HT.sIx n 0 lo))/\(qeo lo hi none n).2.1=((HT.sIx n n hi))/\(qeo lo hi none n).2.2=1 :=by
 refine⟨?_,?_,U⟩
 ·cases lo with
  |none=>simp[qeo,HT.sIx]
  |some i=>
   simp only[qeo,HT.sIx,qhQ,show (1:Int) > 0 by decide,if_true];by_cases h:i<0
   ·simp only[h,if_true]<;>lia
   ·simp only[h,if_false]<;>lia
 ·cases hi with
  |none=>simp[qeo,HT.sIx]
  |some i=>
   simp only[qeo,HT.sIx,qhQ,show (1:Int) > 0 by decide,if_true];by_cases h:i<0
   ·simp only[h,if_true]<;>lia
   ·simp only[h,if_false]<;>lia
theorem pF (its:List Value) (lo hi):slicePick its.toArray lo hi none=((its.drop (HT.sIx its.length 0 lo)).take (HT.sIx its.length its.length hi - HT.sIx its.length 0 lo)).toArray :=by
 obtain⟨N,h2,h3⟩:=sP lo hi its.toArray.size;unfold slicePick;rw[N,h2,h3];simp only[sliceRange_one,pick_run,qaE]<;>rfl
def Ig (K:qae):V->Option Int->Option Int->Hp->VK->Prop:=λx lo hi H Q=>∃ a xs,x=.ref a/\SqL K H a xs/\∀ p,H p=none->Q (.ref p) (upd H p (.lst (vb xs lo hi)))
theorem Da:SlR X (Ig X.K):=by
 intro d s B H x v vl vu lo hi sl Q I g P C pu h;obtain⟨a,xs,rfl,hx,q⟩:=h;cases g;obtain⟨its,r,ht,hz⟩:=I.list hx;have D:=r.length;refine⟨"list",_,qi2.lookup,ht.isList.typeIs,?_⟩
 refine wpAny_getItem_list_slice ht.isList P C pu .none (by simp) ?_ (by rw[qaE]<;>lia);rw[pF,<-D];refine⟨.ref s.heap.objs.size,_,I.laid (λb ob q=>qaf _ q) (qao _) ?_,U,q _ (I.hok.fresh (qao _))⟩;exact⟨qaN (lu xs lo hi) hz,_,0,(r.drop _).take _,qar _ U⟩
def eD:V->Bool
 |.non=>true
 |.bl _=>true
 |.int _=>true
 |.str _=>true
 |_=>false
def eqV:V->V->Bool
 |.non,.non=>true
 |.bl a,.bl b=>a==b
 |.bl a,.int b=>(if a then 1 else 0)==b
 |.int a,.bl b=>a==(if b then 1 else 0)
 |.int a,.int b=>a==b
 |.str a,.str b=>a==b
 |_,_=>false
theorem vi (M:aM y u) (g:aM x v) (fy:eD y=true) (R:eD x=true):qep A s u v (eqV y x) :=by
 cases y with
 |non=>
  cases M;cases x with
  |non=>cases g;exact qfy _
  |bl b=>cases g;exact qll b
  |int b=>obtain⟨t,rfl⟩:=g;exact qlk b t
  |str b=>obtain⟨t,rfl⟩:=g;exact qli b t
  |_=>exact absurd (R) qaW
 |bl a=>
  cases M;cases x with
  |non=>cases g;exact qly a
  |bl b=>cases g;exact qlB a b
  |int b=>obtain⟨t,rfl⟩:=g;exact qlA a b t
  |str b=>obtain⟨t,rfl⟩:=g;exact qlx a b t
  |_=>exact absurd (R) qaW
 |int a=>
  obtain⟨t',rfl⟩:=M;cases x with
  |non=>cases g;exact qls a t'
  |bl b=>cases g;exact qlv a t' b
  |int b=>obtain⟨t,rfl⟩:=g;exact qlu a t' b t
  |str b=>obtain⟨t,rfl⟩:=g;exact qgL a t' b t
  |_=>exact absurd (R) qaW
 |str a=>
  obtain⟨t',rfl⟩:=M;cases x with
  |non=>cases g;exact qle a t'
  |bl b=>cases g;exact qlg a t' b
  |int b=>obtain⟨t,rfl⟩:=g;exact qgK a t' b t
  |str b=>obtain⟨t,rfl⟩:=g;exact qgJ a t' b t
  |_=>exact absurd (R) qaW
 |_=>exact absurd (fy) qaW
def eqU (x:V) (u:Value):Bool:=match u with
 |.none=>eqV .non x
 |.bool b=>eqV (.bl b) x
 |.int i _=>eqV (.int i) x
 |.str z _=>eqV (.str z) x
 |_=>false
theorem zF (r:aM y u) (f:eD y=true):eqU x u=eqV y x :=by
 cases y with
 |non=>cases r;rfl
 |bl b=>cases r;rfl
 |int i=>obtain⟨t,rfl⟩:=r;rfl
 |str z=>obtain⟨t,rfl⟩:=r;rfl
 |_=>exact absurd (f) qaW
theorem jw :∀ {xs}{O},aG xs O->xs.all eD=true->O.any (eqU x)=xs.any λy=>eqV y x
 |_,_,.nil,_=>rfl
 |y::xs,u::O,.cons r t,f=>by
  rw[qbB,qaZ]at f;rw[qco,qco,zF r f.1,jw t f.2]
theorem io {x}{v} (g:aM x v) (R:eD x=true):∀ {xs}{O},aG xs O->xs.all eD=true->∀ u∈O,qep A s u v (eqU x u)
 |_,_,.nil,_=>λu hu=>by cases hu
 |y::xs,u::O,.cons r t,f=>λu' hu=>by
  rw[qbB,qaZ]at f;rcases qaw.mp hu with rfl|hu
  ·rw[zF r f.1];exact vi r g f.1 R
  ·exact io g R t f.2 u' hu
def inV (x:V) (xs:List V):Bool:=xs.any λy=>eqV y x
def rIn (K:qae) (neg:Bool):R2:=λx y H Q=>∃ p xs,y=.ref p/\(SqL K H p xs\/SqT K H p xs)/\eD x=true/\xs.all eD=true/\Q (.bl (if neg then !inV x xs else inV x xs)) H
theorem yP:OpR X (qb6 .In) (rIn X.K false):=by
 intro d s B H x y v u Q I g M h;obtain⟨p,xs,rfl,m,R,fs,q⟩:=h;cases M;rcases m with m|m
 ·obtain⟨its,r,C,hz⟩:=I.list m
  refine SeqAt.in_listAt _ C.isList (λw hw=>io g R r fs w (by simpa using hw)) ⟨.bl _,H,I,U,?_⟩;rw[show its.toArray.any _=its.any (eqU x) by simp,jw r fs];exact q
 ·obtain⟨its,r,C,hz⟩:=I.tuple m
  refine SeqAt.in_tupleAt _ C (λw hw=>io g R r fs w (by simpa using hw)) ⟨.bl _,H,I,U,?_⟩;rw[show its.toArray.any _=its.any (eqU x) by simp,jw r fs];exact q
theorem sC:OpR X (qb6 .NotIn) (rIn X.K true):=by
 intro d s B H x y v u Q I g M h;obtain⟨p,xs,rfl,m,R,fs,q⟩:=h;cases M;rcases m with m|m
 ·obtain⟨its,r,C,hz⟩:=I.list m
  refine SeqAt.notIn_listAt _ C.isList (λw hw=>io g R r fs w (by simpa using hw)) ⟨.bl _,H,I,U,?_⟩;rw[show its.toArray.any _=its.any (eqU x) by simp,jw r fs];exact q
 ·obtain⟨its,r,C,hz⟩:=I.tuple m
  refine SeqAt.notIn_tupleAt _ C (λw hw=>io g R r fs w (by simpa using hw)) ⟨.bl _,H,I,U,?_⟩;rw[show its.toArray.any _=its.any (eqU x) by simp,jw r fs];exact q
theorem qx:a7 X (.builtin "len") (λxs H Q=>∃ p E,xs=[.ref p]/\(SqL X.K H p E\/SqT X.K H p E)/\Q (.int E.length) H):=by
 intro d s B H xs O Q I r h;obtain⟨p,E,rfl,m,q⟩:=h;obtain⟨u,rfl,g⟩:=fJ r;cases g;have hn:=kS;rcases m with m|m
 ·obtain⟨its,L,C,hz⟩:=I.list m
  have D:=L.length;exact Calls.call_len_list C.isList (by simp only[qaE]<;>lia) ⟨.int E.length,H,I.tok _,⟨_,by rw[qaE,D]⟩,q⟩
 ·obtain⟨its,L,C,hz⟩:=I.tuple m
  have D:=L.length;exact len_tuple C (by simp only[qaE]<;>lia) ⟨.int E.length,H,I.tok _,⟨_,by rw[qaE,D]⟩,q⟩
theorem qy:a7 X (.builtin "len") (λxs H Q=>∃ z,xs=[.str z]/\z.length<=qaF/\Q (.int z.length) H):=by
 intro d s B H xs O Q I r h;obtain⟨z,rfl,hz,q⟩:=h;obtain⟨u,rfl,t,rfl⟩:=fJ r;have hn:=kS;exact len_str (by lia) ⟨.int z.length,H,I.tok _,⟨_,U⟩,q⟩
theorem a7.or (h:a7 X f r) (h':a7 X f L):a7 X f (λxs H Q=>r xs H Q\/L xs H Q) :=by
 intro d s B H xs O Q I rs q;rcases q with q|q
 ·exact h d s B H xs O Q I rs q
 ·exact h' d s B H xs O Q I rs q
theorem qz:a7 X (.type "list") (λxs H Q=>∃ p E,xs=[.ref p]/\(SqL X.K H p E\/SqT X.K H p E)/\∀ l,H l=none->Q (.ref l) (upd H l (.lst E))):=by
 intro d s B H xs O Q I r h;obtain⟨p,E,rfl,m,q⟩:=h;obtain⟨u,rfl,g⟩:=fJ r;cases g;have fin:∀ (its:List Value),aG E its->E.length<=qaF->∀ (h':Heap) (c':Nat),_->
   h'.get? s.heap.objs.size=some { cls:=.type "list",dict:=none,data:=.seq its.toArray c',slots:=#[] }->EP X d B Q _ { s with heap:=h' }:=λits L hz h' c' kp e=>
  ⟨.ref s.heap.objs.size,_,I.laid kp (qao _) (show bW X.prog X.w _ h' _ (.lst E) from ⟨hz,its,c',L,e⟩),U,q _ (I.hok.fresh (qao _))⟩
 rcases m with m|m
 ·obtain⟨its,L,C,hz⟩:=I.list m
  have D:=L.length;obtain⟨o,ho,hc,n,hd⟩:=C.isList;exact call_list_seq p (.inl U) ho hc hd (λh' c' kp e=>fin its L hz h' c' kp e) (by simp only[qaE]<;>lia)
 ·obtain⟨its,L,C,hz⟩:=I.tuple m
  have D:=L.length;obtain⟨o,ho,hc,n,hd⟩:=C;exact call_list_seq p (.inr U) ho hc hd (λh' c' kp e=>fin its L hz h' c' kp e) (by simp only[qaE]<;>lia)
theorem pq:a7 X (.type "tuple") (λxs H Q=>∃ p E,xs=[.ref p]/\((SqL X.K H p E/\∀ l,H l=none->Q (.ref l) (upd H l (.tup E)))\/(SqT X.K H p E/\Q (.ref p) H))):=by
 intro d s B H xs O Q I r h;obtain⟨p,E,rfl,h⟩:=h;obtain⟨u,rfl,g⟩:=fJ r;cases g;rcases h with⟨m,q⟩|⟨m,q⟩
 ·obtain⟨its,L,C,hz⟩:=I.list m
  have D:=L.length;refine call_tuple_list C.isList (λh' kp=>?_) (by simp only[qaE]<;>lia);have I1:=I.kept (t':=s.toks) kp;exact⟨.ref h'.objs.size,_,(I1.laid (λb o e=>qaf _ e) (qao _) (show bW X.prog X.w _ _ _ (.tup E) from ⟨hz,its,L,dE.new _ _⟩)),U,q _ (I1.hok.fresh (qao _))⟩
 ·obtain⟨its,L,C,hz⟩:=I.tuple m
  exact call_tuple_same C ⟨.ref p,H,I,U,q⟩
def tyV (K:qae) (T:String) (x:V) (H:Hp):Prop:=match x with
 |.str _=>T = "str"
 |.int _=>T = "int"
 |.ref p=>(T = "list"/\∃ xs,SqL K H p xs)\/(T = "tuple"/\((∃ o,K.lookup p=some o/\o.cls=.type "tuple"/\o.dict=none)\/∃ xs,SqT K H p xs))\/
   (T = "dict"/\((∃ Y,H p=some (.dK Y))\/∃ Y,H p=some (.dT Y)))\/(T = "set"/\∃ S n,H p=some (.set S n))
 |_=>False
theorem FI {B:St}(I:Inv X d B H s) (r:aM x v) (ty:tyV X.K T x H) :
  s.TypeIs v T/\∀ a,v=.ref a->∃ ob,s.heap.get? a=some ob/\ob.dict=none :=by
 cases x with
 |str z=>
  obtain⟨t,rfl⟩:=r;cases (ty);exact⟨typeIs_str s z t,λ_ e=>nomatch e⟩
 |int i=>
  obtain⟨t,rfl⟩:=r;cases (ty);exact⟨qfw s i t,λ_ e=>nomatch e⟩
 |ref p=>
  cases r;rcases ty with⟨rfl,xs,m⟩|⟨rfl,ht⟩|⟨rfl,W⟩|⟨rfl,S,n,W⟩
  ·obtain⟨its,_,C,_⟩:=I.list m
   refine⟨C.isList.typeIs,λa e=>?_⟩;cases e;obtain⟨o,n,e,c,hd,_⟩:=C;exact⟨o,e,hd⟩
  ·have z:∃ o:Obj,s.heap.get? p=some o/\o.cls=.type "tuple"/\o.dict=none:=by
    rcases ht with⟨o,W,hc,hd⟩|⟨xs,m⟩
    ·exact⟨o,I.kIn p o W,hc,hd⟩
    ·exact I.tuple1 m
   obtain⟨o,e1,hc,hd⟩:=z;refine⟨⟨o,e1,hc⟩,λa e=>?_⟩;cases e;exact⟨o,e1,hd⟩
  ·have z:∃ o,s.heap.get? p=some o/\o.ExactDict:=by
    rcases W with⟨Y,W⟩|⟨Y,W⟩
    ·obtain⟨_,_,_,_,o,_,_,e,ex,_⟩:=I.hok p _ W
     exact⟨o,e,ex⟩
    ·obtain⟨_,_,_,_,o,_,_,e,ex,_⟩:=I.hok p _ W
     exact⟨o,e,ex⟩
   obtain⟨o,e,ex⟩:=z;refine⟨⟨o,e,ex.1⟩,λa e2=>?_⟩;cases e2;exact⟨o,e,ex.2.1⟩
  ·obtain⟨o,_,_,_,e,ex,_⟩:=I.hok p _ W
   refine⟨⟨o,e,ex.1⟩,λa e2=>?_⟩;cases e2;exact⟨o,e,ex.2.1⟩
 |_=>exact qcL ty
def tBM (K:qae) (T:String) (r:V->List V->Hp->VK->Prop) (to:TE) (t:TA):TE:=λB H Q=>to B H λx H1=>tyV K T x H1/\t B H1 λxs H2=>r x xs H2 Q
variable {o e:Expr}{es:List Expr}{to:TE}{t:TA}{name:Str}{apos G:Pos}{T id:String}{r:V->List V->Hp->VK->Prop}
theorem Au (pa:PlainAttrs T) (slot:Slot T name id) (hty:typeOf (.builtin id)=pure (.type "method_descriptor")) (hm:MtR X id r) (ho:PE X o to) (ha:PA X (e::es) t)
  (hbase:qcJ o name X.env (eval o X.env)=eval o X.env:=by rfl)
  (hfew:((qfq G (qbA (e::es) X.env)).all (λx=>!x.1) && (qiK G (qg1 [] X.env)).all (λx=>x.1.isSome)
    && decide ((e::es).length+([]:List qiB).length+(if ([]:List qiB).isEmpty then 0 else 1)<30))=true:=by rfl)
  (hline:(apos.endLine==G.line)=true:=by rfl) (P:qbA (e::es) X.env=(false,eval e X.env)::qbA es X.env:=by rfl) (hplain:(qfq G (qbA es X.env)).any (·.1)=false:=by rfl) :
  PE X (.Call (.Attribute o name apos) (e::es) [] G) (tBM X.K T r to t):=by
 intro d s B H Q I h;refine wpAny_Call_method_late hbase hfew hline U (thn (ho d s B H _ I h) λv s1 ⟨x,H1,I1,r1,ty,q1⟩=>?_);obtain⟨N,h2⟩:=FI I1 r1 ty;refine⟨T,id,pa,slot,hty,N,h2,?_⟩;have hA:=ha G d s1 B H1 _ I1 q1;rw[P]at hA ⊢;refine Calls.callWith_builtin (by show (false||(qfq G _).any _)=false;rw[hplain]<;>rfl) (Calls.evalArgs_plain ?_);exact thn hA λO s2 ⟨vs,H2,I2,r2,q2⟩=>hm d s2 B H2 x vs v O Q I2 r1 r2 q2
end
def MtM (X:Cx) (id:String) (r:V->List V->Hp->VK->Prop):Prop:=
 ∀ (a:List (Addr×Obj)) (s:qal) (b:St) (H:Hp) (x:V) (xs:List V) (v:Value) (c:List Value) (Q:VK),Inv X a b H s->aM x v->aG xs c->r x xs H Q->
  wpAny (model X.prog X.w) X.A (call (.builtin id) (v::c)) (EP X a b Q) X.xe s
theorem aG.one (h:aG [x] a):∃ u,a=[u]/\aM x u :=by
 cases h with
 |cons r t=>cases t;exact⟨_,U,r⟩
theorem aG.two (h:aG [x,y] a):∃ u v,a=[u,v]/\aM x u/\aM y v :=by
 cases h with
 |cons r t=>cases t with
  |cons q t2=>cases t2;exact⟨_,_,U,r,q⟩
theorem aG.eraseIdx:∀ {xs:List V}{a:List Value} (i:Nat),aG xs a->aG (xs.eraseIdx i) (a.eraseIdx i)
 |_,_,_,.nil=>.nil
 |_,_,0,.cons _ t=>t
 |_,_,i+1,.cons r t=>.cons r (aG.eraseIdx i t)
theorem aG.rep (h:aG xs a):∀ k,aG (qaG k xs).flatten (qaG k a).flatten
 |0=>.nil
 |k+1=>by
  exact aG.append h (aG.rep h k)
theorem pZ {α:Type}:∀ (l:List α) (i),(l.eraseIdx i).length<=l.length
 |[],_=>qao _
 |_::_,0=>qcZ _
 |_::r,i+1=>Nat.succ_le_succ (pZ r i)
theorem kI (its):∀ (k) (acc:List Value),
  qko (λx1 x2=>x1++x2) acc.toArray (qaG k its.toArray)=(acc++(qaG k its).flatten).toArray
 |0,acc=>by simp
 |k+1,acc=>by
  have e:acc.toArray++its.toArray=(acc++its).toArray:=by simp
  have a:(acc++its)++(qaG k its).flatten=acc++(qaG (k+1) its).flatten:=by
   rw[qd4,qh4,qbR]
  rw[<-a,<-kI its k _,<-e,qd4,List.foldl_cons]
section
variable {X:Cx}{a:List (Addr×Obj)}{c:St}{H:Hp}{s:qal}{l b:Addr}{xs d m:List V}
theorem Inv.lset {its :List Value}(I:Inv X a c H s) (i:H l=some (.lst xs))
  (e:s.heap.get? l=some { cls:=.type "list",data:=.seq its.toArray n }) (j:f its.toArray=its'.toArray) (g:aG d its') (hz:d.length<=qaF) :
  Inv X a c (upd H l (.lst d)) { s with heap:=s.heap.update l (qcv f),toks:=t' } :=by
 have q:=qfs e f;rw[j]at q;refine I.write (by rw[i];exact trivial) (.inl U) (λo u hb k=>(qaQ s.heap _ (qbp hb)).trans k) ⟨_,q⟩ ?_;exact⟨hz,its',_,g,q⟩
theorem Inv.lnew (I:Inv X a c H s) (g:aG d its) (hz:d.length<=qaF) :
  Inv X a c (upd H s.heap.objs.size (.lst d)) { s with heap:=s.heap.push { cls:=.type "list",data:=.seq its.toArray },toks:=t' } :=
 I.laid (λ_ _ q=>qaf _ q) (qao _) ⟨hz,its,0,g,qar _ U⟩
theorem Inv.fresh (I:Inv X a c H s):H s.heap.objs.size=none:=I.hok.fresh (qao _)
theorem Inv.lstM (I:Inv X a c H s) (i:H l=some (.lst xs)):xs.length<=qaF/\∃ (its:List Value) (n:Nat),aG xs its/\xs.length=its.length/\s.heap.get? l=some { cls:=.type "list",data:=.seq its.toArray n }:=by
 obtain⟨z,its,n,r,e⟩:=I.hok l _ i;exact⟨z,its,n,r,r.length,e⟩
theorem uz (h:n<=qaF):qde n=false :=by
 exact decide_eq_false (by lia)
end
section
variable {X:Cx}
def C0:V->List V->Hp->VK->Prop:=λx c H Q=>∃ l xs y,x=.ref l/\c=[y]/\H l=some (.lst xs)/\xs.length<qaF/\Q .non (upd H l (.lst (xs++[y])))
theorem yN:MtM X "list.append" C0:=by
 intro a s p H x c v D Q I d g h;obtain⟨l,xs,y,rfl,rfl,b,hz,q⟩:=h;cases d;obtain⟨u,rfl,j⟩:=g.one;obtain⟨z,its,n,r,m,e⟩:=I.lstM b;refine qcE qfV ⟨_,e,U⟩ qfH (qfu _ _) (qfE l its.toArray n u (by rw[qaE];lia)) ⟨e,?_⟩;refine⟨.non,_,I.lset b e (by simp) (r.append (.cons j .nil)) ?_,U,q⟩;rw[qaA,qcx];lia
def Fh:V->List V->Hp->VK->Prop:=λx c H Q=>∃ l xs i k y,x=.ref l/\c=[.int i]/\H l=some (.lst xs)/\-(2^63)<=i/\i<2^63/\qkd i xs.length=some k/\xs[k]?=some y/\Q y (upd H l (.lst (xs.eraseIdx k)))
theorem Ai:MtM X "list.pop" Fh:=by
 intro a s p H x c v D Q I d g h;obtain⟨l,xs,i,k,y,rfl,rfl,b,E,B,A,o,q⟩:=h;cases d;obtain⟨u,rfl,j⟩:=g.one;obtain⟨t,rfl⟩:=j;obtain⟨z,its,n,r,m,e⟩:=I.lstM b;obtain⟨w,hw,f⟩:=r.get o;refine qcE F.slot_list_pop ⟨_,e,U⟩ F.entry_list_pop (F.args_list_pop_2 _ _)
  (MeetsSeq.list_pop_at l its.toArray n i t k w (qkw E B) (by rw[qaE,<-m];exact A) (by rw[<-qeT];exact hw) (by rw[qaE];lia)) ⟨e,?_⟩
 refine⟨y,_,I.lset b e ?_ (r.eraseIdx k) ?_,f,q⟩
 ·rw[List.eraseIdxIfInBounds_toArray]
 ·have:=pZ xs k
  lia
theorem rY {α:Type} (xs:List α) (k):(qaG k xs).flatten.length=k*xs.length :=by
 induction k with
 |zero=>simp
 |succ k C=>rw[qd4,qh4,qaA,C,Nat.succ_mul,qe5]
end
section
variable {prog:qaO}{w:World}{A:qa1}{E:Value->qal->Prop}{s:qal}
end
section
variable {X:Cx}
end
end L2
namespace Att
open PySem PySem.W PySem.Calls PyProof.Rows
theorem lU :∀ (ns) (c),WellAll P h c (ns.map WData.int)->qcz c ns :=by
 intro ns
 induction ns with
 |nil=>
  intro c w;cases w;exact .nil
 |cons n ns d=>
  intro c w;cases w with
  |cons a b=>
   cases a;exact .cons _ _ (d _ b)
theorem yV {l:OpenLaw}(hn:l.most=some n) (b:l.row.toRowW.claim.pre args=true) (i:WellAll P h c args) :
  ∃ a k ns,c=[Value.ref a]/\args=[WData.list (ns.map WData.int)]/\h.get? a=some { cls:=.type "list",data:=.seq k.toArray }/\qcz k ns/\ns.length<=n :=by
 obtain⟨d,r,rfl,s,p⟩:=hasAllW_cons ((pre_splitW b).1);obtain rfl:=hasAllW_nil p;obtain⟨xs,rfl,o⟩:=hasW_list s;obtain⟨ns,rfl⟩:=items_int o;have f:ns.length<=n:=by
  have g:=by
   have g:=(holds_andW ((pre_splitW b).2)).1;rw[hn]at g;exact g
  have j:=condW_of g (w_not (w_lt w_lit (w_len_list (w_arg U))))
  first
   |(exact absurd j _)
   |(simp at j;lia)
 cases i with
 |cons q w2=>
  cases w2;cases q with
  |list m e=>exact⟨_,_,ns,U,U,m,lU ns _ e,f⟩
theorem yS (l:OpenLaw) (args):l.row.toRowW.claim.post args (.bool true) args=true :=
 postW_of
  (show qi5 [] _ .bool=true by first|rfl|decide|simp[qi5,WShape.arms,WShape.armsAll])
  (w_eq_bool (w_res U) w_lit) U
theorem attach_call {l:OpenLaw}(hn:l.most=some n) (y:d.params.defaults=[])
  (call:∀ (w) (s₀ b) (mg s) (m) (o) (t p e) (a) (h) (ns),
    Ground q c [] XP w s₀ mg s b.heap->YP w b.heap->
    b.heap.get? m=some o->o.data=.func (docDef d.name d.params d.body d.scope t p e)->b.heap.CodeRec p d.name->mg d.name=some (.ref m)->
    b.heap.get? a=some { cls:=.type "list",data:=.seq h.toArray }->qcz h ns->ns.length<=n->b.gens=#[]->
    qdQ (model l.prog w) qhO (.call (.ref m) ⟨[.ref a],[]⟩) (λr s'=>r=.ok (.ret (.bool true))/\OldK b.heap s'.heap/\s'.os=b.os/\qfZ s'.gens) b) :
  WalkO q c XP YP l.row.toRowW d [] (λf h=>qhP f h) :=by
 intro w s₀ b mg s G Y m o t p e I kV C hd u A x hg args z as i B J v K;obtain rfl:I=.none:=Dflts.none A y;obtain rfl:kV=.none:=Dflts.noKw A;obtain⟨a,h,ns,rfl,rfl,k,g,j⟩:=yV hn i v;refine enter_call (qgy (call w s₀ b mg s m o t p e a h ns G Y C (fd_plain hd) u x k g j hg) λr s' D=>?_);obtain⟨rfl,F,H,E⟩:=D;exact⟨.inl ⟨_,_,_,U,λ_=>rfl,.bool true,yS l _,λ_=>⟨List.Pairwise.nil,λ_ hm=>(nomatch hm)⟩⟩,F,H,E⟩
section
variable {prog:qaO}{w:World}{A:qa1}{E:Value->qal->Prop}{s:qal}{K:Frag}
end
end Att
namespace L2
open PySem PySem.Spec PyProof.Rows
theorem qj:∀ {a:List Value}{ns:List Int},qcz a ns->aG (ns.map V.int) a
 |_,_,.nil=>.nil
 |_,_,.cons n t h=>.cons ⟨t,U⟩ (qj h)
def BE (H:Hp):Prop:=∀ b,H b=none\/∃ o xs,H b=some (.frz o (.lst xs))
theorem zZ {K}(KX:K.In c.heap) (hns:c.heap.Ns qck mg) (hb:c.heap.Ns qhv I) (J:∀ x:Str,x≠"__name__"->I x=qcm x) (t:c.heap.NoLimit) (hg:c.gens=#[])
  (A:c.heap.get? a=some { cls:=.type "list",data:=.seq y.toArray }) (hi:qcz y ns) (R:ns.length<=qaF) (W:bj k qhO)
  (F:∀ base,K.In base->base.Ns qck mg->dh P w K mg base CX k C fd [x] sp) (j:∀ (s) (u),qhX s fd ⟨[u],[]⟩ [(x,u)])
  (G:∀ H,BE H->SqL K H a (ns.map V.int)->sp [.ref a] H (λv _=>v=.bl true) λ_ _ _=>False)
  (E:∀ H e s',CX [] H c (λ_ _ _=>False) e s'->False) :
  qdQ (model P w) qhO (.call (.ref C) ⟨[.ref a],[]⟩) (λr s'=>r=.ok (.ret (.bool true))/\OldK c.heap s'.heap/\s'.os=c.os/\qfZ s'.gens) c :=by
 have O:=qj hi;have i:∀ H ,BE H->SqL K H a (ns.map V.int)->HOk P w H c.heap->(∀ b,H b≠none->b=a)->(H a≠none->K.lookup a=none)->
   qdQ (model P w) qhO (.call (.ref C) ⟨[.ref a],[]⟩) (λr s'=>r=.ok (.ret (.bool true))/\OldK c.heap s'.heap/\s'.os=c.os/\qfZ s'.gens) c:=by
  intro H N T hok hA S;have f:∀ {b:Addr}{o:Obj},c.heap.get? b=some o->H b=none->(yu c.heap H).get? b=some o:=λe n=>zN e n;have D:∀ {b:Addr}{o:Obj}{es:Array qeu}{B:Nat},c.heap.get? b=some o->o.data=.dict es B->H b=none:=λ{b o es B} e d=>by
   cases q:H b with
   |none=>rfl
   |some u=>
    have L:=hA b (by rw[q];simp);subst L;rw[A]at e;cases e;cases d
  have g:∀ {b:Addr}{m:Str->Option Value},c.heap.Ns b m->(yu c.heap H).Ns b m:=λ{b m} ⟨o,es,B,e,d,r⟩=>⟨o,es,B,f e (D e d),d,r⟩
  have l:=λb o e=>f (KX b o e) (by
   cases q:H b with
   |none=>rfl
   |some u=>
    have L:=hA b (by rw[q];simp);subst L
    rw[S (by rw[q];simp)]at e;cases e)
  refine qgy ((F _ l (g hns)).run qhO [] c H ⟨[.ref a],[]⟩ [.ref a] [.ref a] _ _ W ⟨U,⟨l,g hns,⟨I,g hb,J⟩,let ⟨mc,h1,h2⟩:=t;⟨mc,g h1,h2⟩⟩,λb o e=>Cu e,qdx (yv _ _),trivial,λb hb=>absurd (show b∈([]) from hb) (by simp),hok,.of_eq hg⟩ (j c _) (.cons U .nil) (G H N T)) λr s' h=>?_;cases r with
  |error e=>exact (E H e s' h).elim
  |ok fl=>
   cases fl with
   |next=>exact qcL h
   |brk=>exact qcL h
   |cont=>exact qcL h
   |ret u=>
    obtain⟨v,H',os,bare,un,p,X,q⟩:=h;subst q;obtain rfl:u=Value.bool true:=X;refine⟨U,OldK.of_keep λb o e=>?_,os,bare⟩;cases q:H b with
    |none=>exact un.keep b o e q (by intro z;exact absurd (show b∈([]) from z) (by simp)) (by simp)
    |some u=>
     rcases N b with z|⟨ob,xs,z⟩
     ·rw[q]at z;cases z
     ·obtain⟨Q,_⟩:=hok b _ z
      obtain⟨Y,_⟩:=p b _ (un.frzs b ob _ z);rw[e]at Q;cases Q;exact Y
 cases hk:K.lookup a with
 |some o=>
  -- the script is one of the module's own objects
  have e:=KX a o hk;rw[A]at e;cases e;refine i _ (λ_=>.inl U) (.inr ⟨_,y.toArray,_,hk,U,U,U,by rw[qaE,hi.length];exact R,by simpa using O⟩) (λb u z=>by cases z) (λb z=>absurd U z) λz=>absurd U z
 |none=>
  refine i (λb=>if b=a then some _ else none) (λb=>?_) (.inl (.inr ⟨{ cls:=.type "list",data:=.seq y.toArray },iFP U⟩)) (λb u z=>?_) (λb z=>?_) λ_=>hk
  ·by_cases hb:b=a
   ·exact .inr ⟨_,_,iFP hb⟩
   ·exact .inl (iFN hb)
  ·by_cases hb:b=a
   ·have M:=(iFP hb).symm.trans z
    cases M;subst hb;exact⟨A,by rw[qah];exact R,y,_,O,A⟩
   ·have M:=(iFN hb).symm.trans z
    cases M
  ·by_cases hb:b=a
   ·exact hb
   ·exact absurd (iFN hb) z
theorem walk_of {l:qfT}{K:Params->qae}{CX:World->CXT}{sp:World->Sp}(hn:l.most=some n) (t:n<=qaF) (z:d.params.defaults=[]) (L:bj k qhO)
  (J:∀ (w) (h),YP w h->(K w.params).In h)
  (F:∀ (w) (mg) (m) (h),(K w.params).In h->h.Ns qck mg->mg d.name=some (.ref m)->
    ∃ fd,(∀ (s) (u),qhX s fd ⟨[u],[]⟩ [(x,u)])/\
     ∀ base,(K w.params).In base->base.Ns qck mg->dh l.prog w (K w.params) mg base (CX w) k m fd [x] (sp w))
  (r:∀ (w) (H) (a) (ns:List Int),ns.length<=n->BE H->SqL (K w.params) H a (ns.map V.int)->sp w [.ref a] H (λv _=>v=.bl true) λ_ _ _=>False)
  (p:∀ (w) (H) (s) (e) (s'),CX w [] H s (λ_ _ _=>False) e s'->False) :
  qih q g XP YP l.row.toRowW d [] (λf A=>qhP f A) :=by
 refine Att.attach_call hn z λw s₀ i mg M m o N P D a A ns G Y O hd E y j c b hg=>?_;have KX:=J w _ Y;obtain⟨fd,hb,B⟩:=F w mg m _ KX G.T.g y;exact zZ KX G.T.g G.T.b G.T.builtins G.T.nolimit hg j c (qaN b t) L B hb (λH C I=>r w H a ns b C I) λH e s'=>p w H i e s'
def l6 (s:Stmt):Arguments:=match s with
 |.FunctionDef _ a _ _ _ _ _ _ _ _=>a
 |_=>{ posonlyargs:=[],args:=[],vararg:=none,kwonlyargs:=[],kw_defaults:=[],kwarg:=none,defaults:=[] }
def aY (s:Stmt):List Stmt:=match s with
 |.FunctionDef _ _ b _ _ _ _ _ _ _=>b
 |_=>[]
def au (s:Stmt):Scope:=match s with
 |.FunctionDef _ _ _ _ _ _ a _ _ _=>a
 |_=>{ kind:=.function,names:=[],isGenerator:=false,isCoroutine:=false }
abbrev CX0:CXT:=λ_ _ _ _ _ _=>False
abbrev E0:XK:=λ_ _ _=>False
theorem As :mW CX0 X E0 :=λ_ _ _ _ _ _ _ h=>h.elim
structure Fun (K:qae) (x qual:Str) (st:Stmt) (f:Addr) (fd:qch):Prop where
 ex:∃ (oc:Value) (od:Option Addr) (kV doc pm:Value) (an:Option Addr) (cdv ct:Value) (osl:Array (Option Value)),
  fd=qd2 x qual (l6 st) (aY st) (au st) .none kV doc pm an cdv ct/\K.lookup f=some ⟨oc,od,.func fd,osl⟩/\qgc K cdv qual=true
 kp:qcV K (.ref f)=true
section
variable {P:qaO}{w:World}{K:qae}{mg:Str->Option Value}{base:Heap}
theorem Fun.ok {st}(F:Fun K x a st f fd) (S:b5 N ps (au st)) (len:∀ m H Q E,sp m H Q E->m.length=ps.length)
  (j:∀ (b) (A) (outer) (s) (H) (m) (Q) (E),bj k (A.deeper (qeS a (au st) s.heap.objs.size f b))->sp m H Q E->
    ∃ t,PSs (fj CX0 P w K mg base N a (au st) f b A outer s H E).nox (aY st) t/\t { nx:=λ_ H'=>Q .non H',rt:=Q } (iy N m) H):dh P w K mg base CX0 (k+1) f fd ps sp :=by
 obtain⟨p,o,kV,d,i,g,b,ct,e,rfl,v,n⟩:=F.ex;refine Gb v n S len λA outer s H m Q E y r=>?_;obtain⟨t,h,q⟩:=j b A outer s H m Q E y r;exact⟨t,h.nox,q⟩
theorem Fun.binds {st}(F:Fun K x a st f fd)
  (h:∀ (kV d i) (g) (b ct) (u),u.length=ps.length->bindArgs (qd2 x a (l6 st) (aY st) (au st) .none kV d i g b ct) ⟨u,[]⟩=pure (ps.zip u)):cO K fd ps [] :=by
 obtain⟨p,o,kV,d,i,g,b,ct,e,rfl,v,n⟩:=F.ex;exact .all (h kV d i g b ct)
theorem fun_mk {st}{kV    } (l:K.lookup f=some ⟨p,o,.func (qd2 x a (l6 st) (aY st) (au st) .none kV d i g b ct),e⟩)
  (c:qgc K b a=true) (k:qcV K (.ref f)=true):Fun K x a st f (qd2 x a (l6 st) (aY st) (au st) .none kV d i g b ct) :=⟨⟨p,o,kV,d,i,g,b,ct,e,U,l,c⟩,k⟩
end
theorem Du (a:bj k A):A.units+1<cLine :=qbN (Nat.add_le_add_left (by decide) _) a.units
theorem yZ (h:n<=1000):n<qaF :=qbN h (by decide)
section
variable {X:Cx}
end
theorem B5 { B:Prop} (h:B):if false=true then A else B :=by
 exact h
theorem B6 { B:Prop} (h:A):if true=true then A else B :=by
 exact h
def aP (H H':Hp):Prop:=∀ b o,H b=some o->H' b=some o
theorem aP.refl (H):aP H H :=λ_ _ h=>h
theorem aP.trans (a:aP H H1) (b:aP H1 H2):aP H H2 :=λc o h=>b c o (a c o h)
def b7 (a:List (Str×Addr)):List (Str×qb9)->List (Str×Addr)->List (Str×Addr)
 |[],acc=>acc
 |(n,k)::r,acc=>if k==.free then b7 a r ((n,(a.lookup n).getD 0)::acc) else b7 a r acc
theorem ji (f)
  (d:∀ n k e,f (n,k) e=if k==.free then (do let c <-cellOf env n;pure (.yield ((n,c)::e))) else pure (.yield e)) :
  ∀ (names) (acc),(∀ x∈names,x.2=.free->∃ c,env.cells.lookup x.1=some c)->
   forIn names acc f=pure (b7 env.cells names acc)
 |[],acc,_=>by rfl
 |(n,k)::r,acc,h=>by
  rw[qd8,d];unfold b7;by_cases b:(k==.free)=true
  ·obtain⟨c,g⟩:=h (n,k) qag (beq_iff_eq.mp b)
   have a:=g;rw[iFP b,iFP b]
   have:cellOf env n=pure c:=by unfold cellOf;rw[a]
   rw[this,a];exact ji f d r _ λx hx=>h x (qaj _ hx)
  ·rw[iFN b,iFN b]
   exact ji f d r _ λx hx=>h x (qaj _ hx)
theorem iZ (h:∀ x∈a.names,x.2=.free->∃ c,env.cells.lookup x.1=some c) :
  closureFor a env=pure (b7 env.cells a.names []) :=by
 simp only[closureFor];rw[ji _ (λn k b=>by cases hk:k==NameKind.free<;>simp[hk]) a.names [] h]
 simp
theorem eU {a:List (Str×Addr)}:∀ (names:List (Str×qb9)) (acc:List (Str×Addr)) {x:Str}{c:Addr},(b7 a names acc).lookup x=some c->
  acc.lookup x=some c\/((x,NameKind.free)∈names/\c=(a.lookup x).getD 0)
 |[],_,_,_,h=>.inl h
 |(n,k)::r,acc,x,c,h=>by
  unfold b7 at h;by_cases d:(k==.free)=true
  ·rw[iFP d]at h
   rcases eU r _ h with q|⟨f,b⟩
   ·rw[qbH]at q
    cases hx:x==n with
    |true=>
     rw[hx]at q;have e:=beq_iff_eq.mp hx;subst e;exact .inr ⟨by rw[<-beq_iff_eq.mp d];exact qag,(qaL q).symm⟩
    |false=>rw[hx]at q;exact .inl q
   ·exact .inr ⟨qaj _ f,b⟩
  ·rw[iFN d]at h
   rcases eU r _ h with q|⟨f,b⟩
   ·exact .inl q
   ·exact .inr ⟨qaj _ f,b⟩
theorem d9 :∀ (names) (acc),((x,NameKind.free)∈names\/(acc.lookup x).isSome=true)->((b7 a names acc).lookup x).isSome=true
 |[],_,h=>h.elim (λz=>nomatch z) id
 |(n,k)::r,acc,h=>by
  unfold b7;by_cases b:(k==.free)=true
  ·rw[iFP b]
   refine d9 r _ ?_;rcases h with h|h
   ·rcases qaw.mp h with e|h
    ·cases e
     exact .inr (by rw[qbH,beq_self_eq_true];rfl)
    ·exact .inl h
   ·refine .inr ?_
    rw[qbH];cases x==n
    ·exact h
    ·rfl
  ·rw[iFN b]
   refine d9 r _ ?_;rcases h with h|h
   ·rcases qaw.mp h with e|h
    ·cases e;exact absurd U b
    ·exact .inl h
   ·exact .inr h
theorem cA:∀ (names:List (Str×qb9)) (n:Nat) (acc:List (Str×Addr)) {x:Str}{c:Addr},(qcI n names acc).lookup x=some c->acc.lookup x=some c\/((x,NameKind.cell)∈names/\n<=c)
 |[],_,_,_,_,h=>.inl h
 |(m,k)::r,n,acc,x,c,h=>by
  unfold qcI at h;by_cases b:(k==.cell)=true
  ·rw[iFP b]at h
   rcases cA r _ _ h with q|⟨d,a⟩
   ·rw[qbH]at q
    cases hx:x==m with
    |true=>
     rw[hx]at q;have e:=beq_iff_eq.mp hx;subst e;exact .inr ⟨by rw[<-beq_iff_eq.mp b];exact qag,by rw[qaL q];exact qao _⟩
    |false=>rw[hx]at q;exact .inl q
   ·exact .inr ⟨qaj _ d,Nat.le_of_succ_le a⟩
  ·rw[iFN b]at h
   rcases cA r _ _ h with q|⟨d,a⟩
   ·exact .inl q
   ·exact .inr ⟨qaj _ d,a⟩
theorem pv:∀ (names) (n:Nat) (acc:List (Str×Addr)),(∀ p∈acc,p.2<n)->∀ {x y}{c},(qcI n names acc).lookup x=some c->(qcI n names acc).lookup y=some c->n<=c->x=y :=by
 have g:∀ (names:List _) (n:Nat) (acc:List _) (lo:Nat),lo<=n->(∀ p∈acc,p.2<n)->(∀ p∈acc,∀ q∈acc,lo<=p.2->p.2=q.2->p.1=q.1)->
   ∀ p∈qcI n names acc,∀ q∈qcI n names acc,lo<=p.2->p.2=q.2->p.1=q.1:=by
  intro names
  induction names with
  |nil=>intro n acc lo _ _ h;exact h
  |cons z r o=>
   intro n acc lo f a h;obtain⟨m,k⟩:=z;unfold qcI;by_cases j:(k==.cell)=true
   ·rw[iFP j]
    refine o _ _ lo (Nat.le_succ_of_le f) (λp b=>?_) (λp b q d l e=>?_)
    ·rcases qaw.mp b with e|b
     ·rw[e];exact qcb _
     ·exact qa0 (a p b)
    ·rcases qaw.mp b with i|b<;>rcases qaw.mp d with s|d
     ·rw[i,s]
     ·rw[i]at e;exact absurd (a q d) (by rw[<-e];exact qa4 _)
     ·rw[s]at e;exact absurd (a p b) (by rw[e];exact qa4 _)
     ·exact h p b q d l e
   ·rw[iFN j]
    exact o _ _ lo f a h
 intro names n acc a x y c hx t u;exact g names n acc n (qao _) a (λp b q d l _=>absurd (a p b) (qik.mpr l)) _ (qbF hx) _ (qbF t) u U
theorem dc:∀ (names) (h) (acc),(∀ p∈acc,∃ v,h.IsCell p.2 v)->∀ p∈qcI h.objs.size names acc,∃ v,(qfn h names).IsCell p.2 v
 |[],_,_,h=>h
 |(m,k)::r,h,acc,d=>by
  unfold qcI qfn;by_cases a:(k==.cell)=true
  ·rw[iFP a,iFP a]
   have:=dc r (h.push { cls:=.type "cell",data:=.cell none }) ((m,h.objs.size)::acc) (λp c=>by
    rcases qaw.mp c with e|c
    ·rw[e];exact⟨none,_,qar _ U,U⟩
    ·obtain⟨v,z⟩:=d p c
     exact⟨v,z.keeps λb o e=>qaf _ e⟩)
   rwa [qa5]at this
  ·rw[iFN a,iFN a]
   exact dc r h acc d
theorem dA {names:List _} (nd:(names.map (·.1)).Nodup):∀ {x:Str}{k:qb9},(x,k)∈names->names.lookup x=some k :=by
 induction names with
 |nil=>intro x k h;cases h
 |cons z r a=>
  intro x k h;obtain⟨m,b⟩:=z;rw[qaz,qcr]at nd;rw[qbH];rcases qaw.mp h with e|h
  ·cases e;rw[beq_self_eq_true]
  ·have:(x==m)=false:=beq_eq_false_iff_ne.mpr λe=>nd.1 (e ▸ qaJ.mpr ⟨(x,k),by assumption,U⟩)
   rw[this];exact a nd.2 h
theorem cv {env:Env}:∀ {names:List (Str×qb9)}{x:Str}{k:qb9},
  (names.map λ(n,k)=>if (k==NameKind.free&&env.scope.kind==.function&&env.kindOf n==some .cell) then (n,NameKind.cell) else (n,k)).lookup x=some k->
  ∃ a,names.lookup x=some a/\(k=a\/(a=.free/\k=.cell))
 |[],_,_,h=>by cases h
 |(n,a)::r,x,k,h=>by
  rw[qaz]at h;dsimp only at h;rw[qbH];by_cases b:(a==NameKind.free&&env.scope.kind==.function&&env.kindOf n==some .cell)=true
  ·rw[iFP b,qbH]at h
   cases hx:x==n with
   |true=>
    rw[hx]at h;refine⟨a,U,.inr ⟨?_,(qaL h).symm⟩⟩;simp only[qaZ]at b;exact beq_iff_eq.mp b.1.1
   |false=>rw[hx]at h;exact cv h
  ·rw[iFN b,qbH]at h
   cases hx:x==n with
   |true=>rw[hx]at h;exact⟨a,U,.inl (qaL h).symm⟩
   |false=>rw[hx]at h;exact cv h
theorem gf {env:Env}:∀ {names:List _}{x},names.lookup x=some .free->
  (names.map λ(n,k)=>if (k==NameKind.free&&env.scope.kind==.function&&env.kindOf n==some .cell) then (n,NameKind.cell) else (n,k)).lookup x=some .free\/
  (names.map λ(n,k)=>if (k==NameKind.free&&env.scope.kind==.function&&env.kindOf n==some .cell) then (n,NameKind.cell) else (n,k)).lookup x=some .cell
 |[],_,h=>by cases h
 |(n,b)::r,x,h=>by
  rw[qaz];dsimp only;rw[qbH]at h;by_cases a:(b==NameKind.free&&env.scope.kind==.function&&env.kindOf n==some .cell)=true
  ·rw[iFP a,qbH]
   cases hx:x==n with
   |true=>exact .inr U
   |false=>rw[hx]at h;exact gf h
  ·rw[iFN a,qbH]
   cases hx:x==n with
   |true=>rw[hx]at h;exact .inl h
   |false=>rw[hx]at h;exact gf h
theorem ke (d:Q (newEnv a s.heap.objs.size env.globals (qcI (s.heap.objs.size+1) a.names c) env.qual none .none (some env) qhv)
    { s with heap:=qfn (s.heap.push { cls:=.type "dict",data:=.dict #[] }) a.names }) :
  wpAny M A (newFunctionEnv a env.globals c [] env.qual none .none (some env)) Q E s :=by
 refine qaa (wpAny_alloc ?_);refine qaa (wpAny_layCells _ (λname kind b=>by cases hkc:kind==NameKind.cell<;>simp[hkc]) _ _ _ _ ?_);rw[qa5 ..];refine qaa ?_;exact qam (qam d)
theorem cQ (I:Nat->qal->Prop)
  (turn:∀ n s,I n s->wpAny (model prog w) A (qeR z) (λr b=>match r with
    |none=>R (.ok .next) b
    | some v=>wpAny (model prog w) A (qg0 a z v) (λ_ d=>wpAny (model prog w) A (qgz a env v) (λ_ j=>
      wpAny (model prog w) A (forIn q true λc r=>if r=true then do let ok <-qkh c env (eval c env);pure (ForInStep.yield ok) else pure (ForInStep.yield r)) (λok e=>
       if ok=true then wpAny (model prog w) A (eval p env) (λx k=>
        wpAny (model prog w) A (call (.builtin "list.append") [acc,x]) (λ_ g=>∃ m,m<n/\I m g) (λ_ _=>False) k) (λ_ _=>False) e
       else ∃ m,m<n/\I m e) (λ_ _=>False) j) (λ_ _=>False) d) (λ_ _=>False) b) (λ_ _=>False) s)
  (n) (h:I n s) :
  qdQ (model prog w) A (.compLoop (.ListComp p [⟨a,iter,q,0⟩] l pos) 0 z acc env) R s :=by
 refine codeAny_loop U I (λn s B=>?_) n h;refine wpAny_noted ?_;rw[compTurn_list];refine qaa (qee (qaa (qcC (turn n s B) (λr b i=>?_) λ_ _ h'=>h'.elim)));cases r with
 |none=>exact qam i
 |some v=>
  refine qaa (qcC i (λ_ d o=>?_) λ_ _ h'=>h'.elim);refine qaa (qcC o (λ_ j u=>qaa (qcC u (λok e f=>?_) λ_ _ h'=>h'.elim)) λ_ _ h'=>h'.elim);cases ok with
  |false=>exact qam ⟨U,f⟩
  |true=>
   exact qaa (qaa (qcC f (λx k t=>qaa (qcC t (λ_ g y=>qam (qam ⟨U,y⟩)) λ_ _ h'=>h'.elim)) λ_ _ h'=>h'.elim))
def lcX (X:Cx) (a:Scope) (b:List (Str×Addr)) (Nc:List Str) (s:qal) (H:Hp) (C:Addr) (fp:List Addr):Cx where
 prog:=X.prog
 w:=X.w
 K:=X.K
 mg:=X.mg
 base:=X.base
 A:=X.A
 N:=Nc
 s₀:=s
 H₀:=H
 env:=qhN a b C X.env
 outer:=X.stack
 stack:=X.stack
 ex:=fp
 fn:=λx=>a.names.lookup x==some .cell
 calm:=X.calm
 pn:=[]
 xe:=λ_ _=>False
structure cI (X:Cx) (scope:Scope) (Nc:List Str) (emb:St->St):Prop where
 kind:scope.kind=.function
 nd:(scope.names.map (·.1)).Nodup
 nN:Nc.Nodup
 free:∀ x∈scope.names,x.2=.free->X.env.kindOf x.1=some .cell\/X.env.kindOf x.1=some .free
 len:∀ σ:St,σ.length=X.N.length->(emb σ).length=Nc.length
 emb:∀ σ:St,σ.length=X.N.length->∀ (i:Nat) (x:Str) (v:V),Nc[i]?=some x->(emb σ)[i]?=some (some v)->∃ j:Nat,X.N[j]?=some x/\σ[j]?=some (some v)/\scope.names.lookup x=some .free
section
variable {X:Cx}{D:List (Addr×Obj)}{Q:St}{H:Hp}{s:qal}{a:Scope}{Nc:List Str}{emb:St->St}
theorem cI.clos (S:cI X a Nc emb) (ok:X.Ok):∀ x∈a.names,x.2=.free->∃ c,X.env.cells.lookup x.1=some c:=λx hx h=>ok.has x.1 (S.free x hx h)
theorem ul (S:cI X a Nc emb) (I:Inv X D Q H s) (R:∀ b∈fp,iS X D H b) (V:∀ b∈fp,∃ o,s.heap.get? b=some o) {lo} (hlo:∀ v,lo.data≠.cell v) (W:lo.isFreed=false) :
  Inv (lcX X a (qcI (s.heap.objs.size+2) a.names (b7 X.env.cells a.names [])) Nc s H (s.heap.objs.size+1) fp) [(s.heap.objs.size,lo)] (emb Q) H
   { s with heap:=qfn ((s.heap.push lo).push { cls:=.type "dict",data:=.dict #[] }) a.names } :=by
 have O:((s.heap.push lo).push { cls:=.type "dict",data:=.dict #[] }).objs.size=s.heap.objs.size+2:=by rw[qa5,qa5]
 have N:(s.heap.push lo).objs.size=s.heap.objs.size+1:=by rw[qa5]
 have F:∀ b o,s.heap.get? b=some o->(qfn ((s.heap.push lo).push { cls:=.type "dict",data:=.dict #[] }) a.names).get? b=some o:=λb o e=>
  qdj _ _ b o (qaf _ (qaf _ e))
 have has:=S.clos I.ok;have A:∀ {x:Str}{c:Addr},(b7 X.env.cells a.names []).lookup x=some c->X.env.cells.lookup x=some c/\(x,NameKind.free)∈a.names:=λ{x c} h=>by
  rcases eU _ _ h with q|⟨G,K⟩
  ·cases q
  ·obtain⟨c',w⟩:=has _ G U
   have B:=w;rw[B]at K;exact⟨by rw[B,K];rfl,G⟩
 have d:∀ {x:Str}{c:Addr},(qcI (s.heap.objs.size+2) a.names _).lookup x=some c->
   _\/_:=λ{x c} h=>by
  rcases cA _ _ _ h with q|q
  ·exact .inl (A q)
  ·exact .inr q
 have g:∀ {x:Str}{c:Addr},X.env.cells.lookup x=some c->c<s.heap.objs.size:=λ{x c} h=>by
  obtain⟨v,z⟩:=I.cell x c h;exact z.lt
 have C:∀ b∈fp,b<s.heap.objs.size:=λb hb=>by obtain⟨o,e⟩:=V b hb;exact qax e
 have f:∀ p∈b7 X.env.cells a.names [],∃ x,X.env.cells.lookup x=some p.2:=by
  have key:∀ (names:List _) (acc:List _),(∀ x∈names,x.2=.free->∃ c,X.env.cells.lookup x.1=some c)->(∀ p∈acc,∃ x,X.env.cells.lookup x=some p.2)->∀ p∈b7 X.env.cells names acc,∃ x,X.env.cells.lookup x=some p.2:=by
   intro names
   induction names with
   |nil=>intro acc _ h;exact h
   |cons z r ih=>
    intro acc hn h;obtain⟨m,k⟩:=z;unfold b7;by_cases F:(k==.free)=true
    ·rw[iFP F]
     refine ih _ (λx hx=>hn x (qaj _ hx)) λp l=>?_;rcases qaw.mp l with e|l
     ·obtain⟨c,hc⟩:=hn _ qag (beq_iff_eq.mp F)
      exact⟨m,by rw[e,hc];rfl⟩
     ·exact h p l
    ·rw[iFN F]
     exact ih _ (λx hx=>hn x (qaj _ hx)) h
  exact key _ _ has λp l=>nomatch l
 refine⟨⟨I.ok.mod,S.kind,I.ok.glob,I.ok.blt,qcZ _,λx y c n t=>?_,λx hx=>?_,λx c hx h=>?_,I.ok.hd,I.ok.frames,.inl U,λb hb=>?_,I.bs,qaN I.ok.bsz I.sz,λb o e hb=>?_,λb hb=>?_,I.stack,I.stkFree⟩,
  rfl,I.bare,Un.kept F,⟨_,(Heap.Ns.new _ _).keeps (qdj _ _) |> λq=>by rw[N]at q;exact q,λi x v n t _=>?_⟩,λx c h=>?_,I.hok.fresh (qcZ _),λx c h=>?_,λp l=>?_,I.hok.kept F,S.len Q I.len⟩
 ·-- inj
  have P:=n;have L:=t;rcases d P with⟨G,_⟩|⟨_,G⟩
  ·rcases d L with⟨K,_⟩|⟨_,K⟩
   ·exact I.ok.inj x y c G K
   ·exact absurd (qaP (qa0 (qa0 (g G))) K) (qa4 _)
  ·refine pv a.names _ _ (λp l=>?_) P L G
   obtain⟨z,hz⟩:=f p l;exact qa0 (qa0 (g hz))
 ·-- has
  have:∃ E,a.names.lookup x=some E/\(E=.cell\/E=.free):=by
   rcases hx with q|q
   ·obtain⟨E,n,t⟩:=cv q
    exact⟨E,n,t.elim (λe=>.inl e.symm) λe=>.inr e.1⟩
   ·obtain⟨E,n,t⟩:=cv q
    exact⟨E,n,t.elim (λe=>.inr e.symm) λe=>by cases e.2⟩
  obtain⟨E,n,t⟩:=this;refine qcF.mp (qdA a.names _ _ ?_);rcases t with rfl|rfl
  ·exact .inl n
  ·exact .inr (d9 _ _ (.inl (qbF n)))
 ·-- cab
  rcases d h with⟨_,q⟩|⟨_,q⟩
  ·have:=dA S.nd q
   rw[(beq_iff_eq.mp hx)]at this;cases this
  ·exact qaN (qbZ _ 2) q
 ·-- exf
  refine⟨qaC (qa0 (C b hb)),λx c h=>?_⟩;rcases d h with⟨q,_⟩|⟨_,q⟩
  ·exact (R b hb).2.2.2.2.1 x c q
  ·intro e
   exact absurd (qaP (qa0 (qa0 (C b hb))) (e ▸ q)) (qa4 _)
 ·-- noex
  rcases (R b hb).2.2.2.1 with q|q
  ·exact I.ok.noex b o e q
  ·exact absurd (qaP (qax (I.ok.bs b o e).1) q) (qa4 _)
 ·-- exfs
  intro hb2;rcases qaw.mp (I.stkSub b hb2) with q|q
  ·exact (R b hb).2.1 q
  ·exact (R b hb).2.2.1 q
 ·-- loc
  obtain⟨j,e1,e2,T⟩:=S.emb Q I.len i x v n t;have M:=(S.free (x,.free) (qbF T) U);obtain⟨m,hn,hl⟩:=I.loc;obtain⟨u,ru,lk⟩:=hl j x v e1 e2 (.inr M);refine⟨u,ru,.inr ⟨?_,?_⟩⟩
  ·rcases gf T with q|q
   ·exact .inr q
   ·exact .inl q
  ·rcases lk with⟨z,_⟩|⟨_,c,hc,J⟩
   ·rcases M with q|q<;>(rw[z]at q;cases q)
   ·obtain⟨c',w⟩:=qcF.mp (qdA a.names _ _ (.inr (d9 _ _ (.inl (qbF T)))))
    rcases d w with⟨q,_⟩|⟨q,_⟩
    ·rw[hc]at q
     cases q;exact⟨c,w,J.keeps F⟩
    ·have:=dA S.nd q
     rw[T]at this;cases this
 ·-- cell
  exact (dc a.names _ (b7 X.env.cells a.names []) (λp l=>by
   obtain⟨z,hz⟩:=f p l;obtain⟨v,q⟩:=I.cell z p.2 hz
   exact⟨v,q.keeps λb o e=>qaf _ (qaf _ e)⟩) (x,c) (by rw[O];exact qbF h))
 ·-- freeC
  rcases d h with⟨q,_⟩|⟨_,q⟩
  ·exact I.freeC x c q
  ·exact I.hok.fresh (qaN (qbZ _ 2) q)
 ·-- pin
  have Y:=by
   have:p∈([])++[(s.heap.objs.size,lo)]:=l
   simpa using this
  subst Y;refine⟨qdj _ _ _ _ (qaf _ (qar _ W)),I.hok.fresh (qao _),qaC (qcb _),λhb=>?_,hlo⟩;rcases qaw.mp (I.stkSub _ hb) with q|q
  ·exact absurd I.lt (by rw[<-q];exact qa4 _)
  ·exact I.nofs (qao _) q
end
def PTs (X:Cx) (d:List Expr) (t:TT):Prop:=
 ∀ (a:List (Addr×Obj)) (s:qal) (b:St) (H:Hp) (Q:Bool->Hp->Prop),Inv X a b H s->t b H Q->
  wpAny (model X.prog X.w) X.A (forIn d true λc r=>if r=true then do let ok <-qkh c X.env (eval c X.env);pure (ForInStep.yield ok) else pure (ForInStep.yield r)) (TP X a b Q) X.xe s
def Iy:TT:=λ_ H Q=>Q true H
theorem CU :PTs X [] Iy :=λ_ _ _ H _ I h=>wpAny_tests_nil ⟨H,I,h⟩
theorem CV (d:PT X c t):PTs X [c] t :=λa s b H Q I h=>wpAny_tests_one (d a s b H Q I h)
def Sub (b a:St):Prop:=b.length=a.length/\∀ (i:Nat) (v:V),b[i]?=some (some v)->a[i]?=some (some v)
def FR (J:It) (c:St) (g:TG) (tt:TT) (te:TE) (H1:Hp) (Q:VK):Prop:=∃ W:Nat->Nat->List V->Hp->Prop,(∃ m,W 0 m [] H1)/\∀ i m e H,W i m e H->
 (J.stop i H/\∀ D,H D=none->Q (.ref D) (upd H D (.lst e)))\/
 (J.go i H/\e.length<qaF/\∃ N:List V->Hp->Prop,(∀ d H',N d H'->∃ f,f<m/\W (i+1) f d H')/\∀ x H',J.yld i H x H'->g x c H' λa H2=>Sub c a/\tt a H2 λb H3=>if b=true then te a H3 λv H4=>N (e++[v]) H4 else N e H3)
def tLc (emb:St->St) (b:TI) (g:TG) (tt:TT) (te:TE):TE:=λa H Q=>b a H λJ H1=>FR J (emb a) g tt te H1 Q
section
variable {X:Cx}{j:Scope}{Nc:List Str}{emb:St->St}{elt iter tg:Expr}{ifs:List Expr}{pos:Pos}{wi:TI}{g:TG}{tt:TT}{te:TE}
theorem GO (S:cI X j Nc emb) (hc:X.calm=true) (hi:PI X tg iter wi)
  (hg:∀ f s H C fp,PG (lcX X j f Nc s H C fp) tg g) (ht:∀ f s H C fp,PTs (lcX X j f Nc s H C fp) ifs tt) (he:∀ f s H C fp,PE (lcX X j f Nc s H C fp) elt te)
  (hs:∀ x,qbE iter X.env x=pure x:=by intro _;rfl):PE X (.ListComp elt [⟨tg,iter,ifs,0⟩] j pos) (tLc emb wi g tt te):=by
 intro pins s σ H Q I h;refine qhu U hs (iZ (S.clos I.ok)) S.kind (λx hx hl=>dA S.nd (by rw[<-hl];exact hx)) ?_;refine thn (hi pins s σ H _ I h) λv s1 h1=>thn h1 λitv O h2=>?_;obtain⟨it,fp,tn,J,H2,e,I2,T,P,f2,W,⟨m0,w0⟩,turn⟩:=h2;subst e;refine qb5 (ke ?_);rw[qa5 ..];generalize hD:O.heap.objs.size=D;generalize hlo:({ cls:=.type "list",dict:=none,data:=.seq ([]:List Value).toArray }:Obj)=lo
 have fplt:∀ b∈fp,b<O.heap.objs.size:=λb hb=>by obtain⟨o,e,_⟩:=T.obj _ _ P b hb;exact qax e
 have I3:=ul (lo:=lo) S I2 f2 (λb hb=>by obtain⟨o,e,_⟩:=T.obj _ _ P b hb;exact⟨o,e⟩) (by rw[<-hlo];intro v z;cases z) (by rw[<-hlo];rfl);rw[hD]at I3;generalize hcells:qcI (D+2) j.names _=f at I3;generalize d:lcX X j f Nc O H2 (D+1) fp=X' at I3;have B:∀ {H':Hp}{ps:List (Addr×Obj)},(∀ b∈fp,H' b=none)->(∀ p∈ps,p.1=D)->∀ b∈fp,iS X' ps H' b:=λ{H' ps} hn K b hb=>by
  have ok:=I3.ok;refine⟨hn b hb,?_,?_,.inl (by rw[<-d];exact hb),?_,λp A=>?_⟩
  ·exact (ok.exf b (by rw[<-d];exact hb)).1
  ·exact ok.exfs b (by rw[<-d];exact hb)
  ·exact (ok.exf b (by rw[<-d];exact hb)).2
  ·have hp':p∈([])++ps:=by rw[<-d]at A;exact A
   rw[(K p (by simpa using hp')),<-hD];exact qca (fplt b hb)
 have Dex:D∈X'.ex\/X'.s₀.heap.objs.size<=D:=.inr (by rw[<-d,<-hD];exact qao _);have Dloc:D≠X'.env.locals:=by rw[<-d];exact qaC (qcb _)
 have pD:=I3.pin (D,lo) (by rw[<-d];exact qaB _ qag);have Dcell:∀ x c,X'.env.cells.lookup x=some c->c≠D:=λx c hc' e=>by
  obtain⟨v,o,ho,hd⟩:=I3.cell x c hc';rw[e,pD.1]at ho;cases ho;exact pD.2.2.2.2 v hd
 -- the E
 have E:∀ s3:qal,s3={ O with heap:=qfn ((O.heap.push lo).push { cls:=.type "dict",data:=.dict #[] }) j.names }->
   qdQ (model X.prog X.w) X.A (.compLoop (.ListComp elt [⟨tg,iter,ifs,0⟩] j pos) 0 (.ref it) (.ref D) (qhN j f (D+1) X.env))
    (compPost (model X.prog X.w) X.A X.xe none (EP X pins σ Q) (.ref D) (D+1)) s3:=by
  rintro s3 rfl
  refine cQ (λn s'=>∃ i R its k H',Inv X' [(D,{ cls:=.type "list",data:=.seq its.toArray k })] (emb σ) H' s'/\aG R its/\tn i s'.heap/\(∀ b∈fp,H' b=none)/\R.length<=qaF/\W i n R H') ?_ m0
   ⟨0,[],[],0,H2,?_,.nil,?_,λb hb=>(f2 b hb).1,qbM _,w0⟩
  ·rintro n s4 ⟨i,R,its,k,H4,I4,rv,st4,fr4,Y,w4⟩
   have K:∀ p∈[(D,({ cls:=.type "list",data:=.seq its.toArray k }:Obj))],p.1=D:=λp A=>by
    have:=qan.mp A
    rw[this]
   rcases turn i n R H4 w4 with⟨stop,qn⟩|⟨go,hlt,N,hN,step⟩
   ·-- the end
    have TD:=T.done X' (by rw[<-d];rfl) (by rw[<-d];rfl) (by rw[<-d];rfl) (by rw[<-d];exact hc) i _ s4 (emb σ) H4 (λ_ _=>False) I4 (B fr4 K) st4 stop;rw[show X'.A=X.A by rw[<-d];rfl]at TD;refine thn TD λr s5 ⟨hr,I5⟩=>?_;subst hr;obtain⟨m5,hn5,_⟩:=id I5.loc;have eC:X'.env.locals=D+1:=by rw[<-d];rfl
    rw[eC]at hn5;refine⟨m5,hn5,λh' F=>?_⟩;have pD5:=I5.pin (D,{ cls:=.type "list",data:=.seq its.toArray k }) (by rw[<-d];exact qaB _ qag)
    have neC:∀ b u,H4 b=some u->b≠D+1:=λb u e z=>by
     have:=I5.free
     rw[eC,<-z,e]at this;cases this
    have hD4:H4 D=none:=pD5.2.1;have un:=I5.base;have w:Un (frs X.stack) fp H2 H4 O.heap s5.heap:=by rw[<-d]at un;exact un
    have t:∀ b o,O.heap.get? b=some o->b≠D/\b≠D+1:=λb o e=>by
     have q:=qax e;rw[hD]at q;exact⟨qaC q,qaC (qa0 q)⟩
    have h2D:H2 D=none:=by rw[<-hD];exact I2.fresh
    have hok':HOk X.prog X.w H4 h':=λb u e=>by
     have ob:bW X.prog X.w H4 s5.heap b u:=by have:=I5.hok b u e;rw[<-d]at this;exact this
     refine ob.stay (λc v hcv q=>(F.2 c ?_).trans q) (λ_ q=>q) λ_ _ q=>q;rcases hcv with z|z
     ·rw[z];exact neC b u e
     ·exact neC c _ z
    have hokD:HOk X.prog X.w (upd H4 D (.lst R)) h':=λb u e=>by
     by_cases hb:b=D
     ·subst hb
      rw[upd_same]at e;cases e;exact⟨Y,its,k,rv,(F.2 b (qaC (qcb _))).trans pD5.1⟩
     ·rw[upd_ne hb]at e
      refine (hok' b u e).stay (λ_ _ _ q=>q) (λc q=>?_) λc z q=>?_
      all_goals first
       |(rw[upd_ne (aK q hD4)];exact q)
       |(rw[upd_ne (aK z hD4)];exact z)
    refine⟨.ref D,upd H4 D (.lst R),?_,U,qn D hD4⟩;refine I2.call' (s':={ s5 with heap:=h' }) (ch:=fp) ?_ ⟨λb o e nb hb hx=>?_,λb o e nb hb hx=>?_,λb o e nb hx=>?_,λb o e hx=>?_,λb xs e=>?_,λb o u e=>?_,λb ps e=>?_⟩ hokD I5.bare (λb hb=>?_)
    ·have:=I5.os
     rw[<-d]at this;exact this
    ·exact (F.2 b (t b o e).2).trans (w.keep b o e nb hb hx)
    ·obtain⟨sl,q⟩:=w.slot b o e nb hb hx
     exact⟨sl,(F.2 b (t b o e).2).trans q⟩
    ·rw[upd_ne (t b o e).1]
     exact w.free b o e nb hx
    ·obtain⟨o',q⟩:=w.there b o e hx
     exact⟨o',(F.2 b (t b o e).2).trans q⟩
    ·rw[upd_ne (aK e h2D)]
     exact w.tups b xs e
    ·rw[upd_ne (aK e h2D)]
     exact w.frzs b o u e
    ·obtain⟨m,q⟩:=w.tbls b ps e
     exact⟨m,by rw[upd_ne (aK e h2D)];exact q⟩
    ·obtain⟨q0,q1,q2,q3,q4,q5⟩:=f2 b hb
     exact⟨q3,q1,q4,q5⟩
   ·-- a turn
    have hA:X'.A=X.A:=by rw[<-d];rfl
    have hP:X'.prog=X.prog:=by rw[<-d];rfl
    have hw:X'.w=X.w:=by rw[<-d];rfl
    have hE:X'.env=qhN j f (D+1) X.env:=by rw[<-d];rfl
    have hxe:X'.xe=λ_ _=>False:=by rw[<-d];rfl
    have TI':=T.item X' hP hw (by rw[<-d];rfl) (by rw[<-d];exact hc) i _ s4 (emb σ) H4 (λ_ _=>False) I4 (B fr4 K) st4 go;rw[hA]at TI';refine thn TI' λr s5 ⟨u,hr,h5⟩=>?_;subst hr;refine thn h5 λ_ s6 ⟨x,H6,I6,r6,y6,st6,fr6⟩=>?_;have I6':=I6.pinned (B fr6 K) (T.obj _ _ st6);have G:=hg f O H2 (D+1) fp;have TT':=ht f O H2 (D+1) fp;have EE:=he f O H2 (D+1) fp;rw[d]at G TT' EE;have G':=G _ s6 (emb σ) H6 x u _ I6' r6 (step x H6 y6);rw[hA,hP,hw,hE,hxe]at G';refine thn G' λ_ s7 ⟨σ7,H7,I7,V,q7⟩=>?_;have T':=TT' _ s7 σ7 H7 _ I7 q7;rw[hA,hP,hw,hE,hxe]at T';refine thn T' λok s8 ⟨H8,I8,q8⟩=>?_
    -- what is pinned
    have l:∀ {σ9:St}{H9:Hp}{M:qal},Inv X' ([(D,({ cls:=.type "list",data:=.seq its.toArray k }:Obj))]++oF fp s6.heap) σ9 H9 M->tn (i+1) M.heap/\∀ b∈fp,H9 b=none:=λ{σ9 H9 M} I9=>
     ⟨T.keep _ _ _ st6 λb hb o e=>(I9.pin (b,o) (qaB _ (qaB _ (ca hb e)))).1,λb hb=>by
      obtain⟨o,e,_⟩:=T.obj _ _ st6 b hb
      exact (I9.pin (b,o) (qaB _ (qaB _ (ca hb e)))).2.1⟩
    cases ok with
    |false=>
     rw[iFN (by decide)]at q8;rw[iFN (by decide)];obtain⟨m',hm,w8⟩:=hN _ _ q8;exact⟨m',hm,i+1,R,its,k,H8,I8.unpinned.weak V.1 V.2,rv,(l I8).1,(l I8).2,Y,w8⟩
    |true=>
     rw[iFP U]at q8;rw[iFP U];have E':=EE _ s8 σ7 H8 _ I8 q8;rw[hA,hP,hw,hE,hxe]at E';refine thn E' λy M ⟨v9,H9,I9,r9,n9⟩=>?_;obtain⟨m',hm,w9⟩:=hN _ _ n9;have L:=I9.pin (D,{ cls:=.type "list",data:=.seq its.toArray k }) (qaB _ (qa9 _ qag))
     have hl:=rv.length;have I9n:Inv X' [] σ7 H9 M:=I9.pins_of λp A=>nomatch A
     refine qcE qfV ⟨_,L.1,U⟩ qfH (qfu _ _) (qfE D its.toArray k y (by rw[qaE];lia)) ⟨L.1,?_⟩;have up:∃ k':Nat,(M.heap.update D (qcv λxs=>xs.push y)).get? D=some { cls:=.type "list",data:=.seq (its++[y]).toArray k' }:=by
      have q:=qfs L.1 (λxs:Array Value=>xs.push y);simp only[qh3]at q;exact⟨_,q⟩
     obtain⟨k',up⟩:=up;have hoth:∀ b o,b≠D->M.heap.get? b=some o->(M.heap.update D (qcv λxs=>xs.push y)).get? b=some o:=λb o hb e=>(qaQ M.heap _ (qbp hb)).trans e;have I10:=I9n.turned (t':=M.toks) hoth L.2.1 Dloc Dex Dcell (λp A=>absurd (show p∈([]:List (Addr×Obj)) by rw[<-d]at A;exact A) (by simp));refine⟨m',hm,i+1,R++[v9],its++[y],k',H9,(I10.weak V.1 V.2).pins_of (λp A=>?_),rv.append (.cons r9 .nil),T.keep _ _ _ (l I9).1 (λb hb o e=>hoth b o (by rw[<-hD];exact qaC (fplt b hb)) e),(l I9).2,?_,w9⟩
     ·have:=qan.mp A
      subst this;exact⟨up,L.2.1,Dloc,(pD.2.2.2.1),λv z=>by cases z⟩
     ·rw[qaA,qcx]
      lia
  ·rw[<-hlo.symm]
   exact I3
  ·exact T.keep _ _ _ P λb hb o e=>qdj _ _ b o (qaf _ (qaf _ e))
 refine qhZ ?_ ?_
 ·exact E _ U
 ·refine T.self X.A 0 _ _ _ (T.keep _ _ _ P λb hb o e=>qdj _ _ b o (qaf _ (qaf _ e))) ?_
  exact E _ U
end
end L2
namespace L2
open PySem PySem.Spec PyProof.Rows
open PySem.AutoSeq1 (wpAny_loadPart')
section
variable {prog:qaO}{w:World}{A:qa1}{E:Value->qal->Prop}{s:qal}
theorem eL (b:s.heap.IsTupleIter c l i)
  (t:s.heap.IsTuple l items) (hx:items[i]?=some x)
  (q:∀ h',h'.IsTupleIter c l (i+1)->qdc c s.heap h'->Q x { s with heap:=h' }) :
  wpAny (model prog w) A (qbh (.ref c)) Q E s :=by
 obtain⟨o,d,y,hd⟩:=id b;obtain⟨B,f,_,C,g⟩:=t
 refine qaa (qbx b.typeIs qdl
  (qbL qdl b.typeIs qgP ?_ (qgG _)))
 show wpAny _ _ (field _ 0 >>= _) _ _ s;refine qaa (qby d hd (x:=.ref l) U ?_);refine qaa (qby d hd U ?_);refine qaa (qbb f g ?_);simp only[qbc,hx];refine qaa (qfJ d hd (by simp) (qam ⟨x,U,qam (q _ ?_ (qdb ..))⟩))
 exact⟨_,qb3 _ d (qhn (qek hd _)),(qij ..).trans y,by
  rw[qek hd];simp[qfK]⟩
theorem fD (n:A.handled=none)
  (b:s.heap.IsTupleIter c l i) (t:s.heap.IsTuple l items) (hx:items[i]?=none)
  (u:∀ h' e,qhF c s.heap h'->(∃ o,h'.get? e=some o/\o.cls=.type "StopIteration")->E (.ref e) { s with heap:=h' }) :
  wpAny (model prog w) A (qbh (.ref c)) Q E s :=by
 obtain⟨o,d,y,hd⟩:=id b;obtain⟨B,f,_,C,g⟩:=t
 refine qaa (qbx b.typeIs qdl
  (qbL qdl b.typeIs qgP ?_ (qgG _)))
 show wpAny _ _ (field _ 0 >>= _) _ _ s;refine qaa (qby d hd (x:=.ref l) U ?_);refine qaa (qby d hd U ?_);refine qaa (qbb f g ?_);simp only[qbc,hx];refine qaa (qcX (qaa (qfJ d hd (by simp) ?_)));refine qaa ?_;refine qaa (m:=qkx _ _) (qgV (a:=Value.none) (by first|rfl|(rfl)) ?_)
 refine qb5 ?_ (by size_fits);refine qaa (wpAny_handled ?_)
 first|rw[n]|rw[n]
 refine qaa (qam (wpAny_throw ?_));exact u _ _ (((qdb ..).extBut.push _).push _) ⟨_,qar _ U,U⟩
theorem gO (n:A.handled=none) (c l) (p:l≠c) (items) :
  Draws prog w A c [c,l] items.size (λi v=>items[i]?=some v) (λi h=>h.IsTupleIter c l i/\h.IsTuple l items)  where
 live:=λ_ _ st=>let ⟨o,d,_⟩:=st.1;⟨o,d⟩
 frame:=λ_ _ _ st z=>⟨st.1.at λo e=>z c (by simp) o e,by
  obtain⟨o,e,r⟩:=st.2
  exact⟨o,z l (by simp) o e,r⟩⟩
 item:=λi s Q E hi st q=>by
  refine eL st.1 st.2 (x:=items[i]) (by simp[hi]) λh' k j=>?_;refine q _ h' s.toks (by simp[hi]) ⟨k,?_⟩ j;obtain⟨o,e,r⟩:=st.2;exact⟨o,(j.2 l p).trans e,r⟩
 done:=λs Q E st u=>fD n st.1 st.2 (by simp) u
end
theorem im (l) (items) (n) (dct) (f) :
  Meets (qe6.«enumerate.__new__» ⟨[.type "enumerate",.ref l],[]⟩) (λ_ R s=>s.heap.get? l=some { cls:=.type "tuple",dict:=dct,data:=.seq items n,slots:=f }/\
   R (.ok (.ret (.ref (s.heap.push { cls:=.type "tuple_iterator",data:=.fields #[.ref l,.int 0 0] }).objs.size)))
    { s with heap:=(s.heap.push { cls:=.type "tuple_iterator",data:=.fields #[.ref l,.int 0 0] }).push { cls:=.type "enumerate",data:=.fields #[.none,.bool false,.ref s.heap.objs.size,qfK 0,.none,.none] } }) :=
 .of_wp λprog w A R s h=>by
  obtain⟨i,g,d,j,os⟩:=s;obtain⟨a,h⟩:=h;have e:=sub_enumerate;have b:Heap.IsTuple _ l items:=⟨_,a,U,n,U⟩
  wp_walk using wpAny_loadPart' a
  refine wpAny_stack_any λst=>qam ?_;split
  ·rename_i c _ _ _ _ _
   cases (c==Value.type "enumerate")
   ·wp_walk using wpAny_loadPart' a,qcG b
    exact⟨_,U,h⟩
   ·wp_walk using wpAny_loadPart' a,qcG b
    exact⟨_,U,h⟩
  ·wp_walk using wpAny_loadPart' a,qcG b
   exact⟨_,U,h⟩
theorem gL {s:qal}(g:s.heap.IsTuple l items)
  (h:∀ h',IsEnum h' (s.heap.objs.size+1) s.heap.objs.size 0 .none->h'.IsTupleIter s.heap.objs.size l 0->h'.objs.size=s.heap.objs.size+2->
    (∀ b o,s.heap.get? b=some o->h'.get? b=some o)->Q (.ref (s.heap.objs.size+1)) { s with heap:=h' }) :
  wpAny (model prog w) A (call (.type "enumerate") [.ref l]) Q E s :=by
 obtain⟨⟨c,dct,dt,d⟩,f,e,n,hd⟩:=g;subst e hd;refine qif F.called_enumerate (by decide) (F.typeCall_enumerate_1 _) (F.newCall_enumerate_1 _) (λobj=>F.args_object_init_2 obj _) F.entry_enumerate_new
  (im l items n dct d) ⟨f,?_⟩
 have hz:(s.heap.push { cls:=.type "tuple_iterator",data:=.fields #[.ref l,.int 0 0] }).objs.size=s.heap.objs.size+1:=qa5 ..
 rw[hz];have a:=by
  have:=qar (s.heap.push { cls:=.type "tuple_iterator",data:=.fields #[.ref l,.int 0 0] })
   (o:={ cls:=.type "enumerate",data:=.fields #[.none,.bool false,.ref s.heap.objs.size,qfK 0,.none,.none] }) U
  rw[hz]at this;exact this
 refine⟨⟨_,a,U⟩,h _ a ⟨_,qaf _ (qar _ U),U,U⟩ (by rw[qa5,hz]) λb o x=>qaf _ (qaf _ x)⟩
section
variable {X:Cx}{a:List (Addr×Obj)}{i:St}{H:Hp}{s:qal}{h':Heap}{fp:List Addr}
theorem iS.ch (h:∀ b∈fp,iS X a H b):∀ b∈fp,(b∈X.ex\/X.s₀.heap.objs.size<=b)/\b≠X.env.locals/\(∀ x c,X.env.cells.lookup x=some c->c≠b)/\∀ p∈X.pn++a,p.1≠b:=λb hb=>
 let ⟨_,f1,_,f3,f4,f5⟩:=h b hb
 ⟨f3,f1,f4,f5⟩
theorem Inv.turns (I:Inv X a i H s) (h:∀ b∈fp,iS X a H b) (k:∀ b o,b∉fp->s.heap.get? b=some o->h'.get? b=some o):Inv X a i H { s with heap:=h',toks:=t' } :=by
 have f:∀ b u,H b=some u->b∉fp:=λb u e z=>by have:=(h b z).1;rw[e]at this;cases this
 refine I.step (iS.ch h) (λb o _ _ d e _=>k b o d e) (λb o _ _ d e _=>⟨o.slots,k b o d e⟩) (λ_ _ _ _ n=>n)
  (λb o d e=>⟨o,k b o d e⟩) (λ_ _ e=>e) (λ_ _ _ e=>e) (λb ps e=>⟨#[],by rw[e];simp⟩) (λm hm=>?_) (λb u e=>?_) I.bare
 ·obtain⟨o,es,l,j,r⟩:=hm
  exact⟨o,es,l,k _ o (λz=>(h _ z).2.1 U) j,r⟩
 ·refine (I.hok b u e).stay (λc v d q=>k c v ?_ q) (λ_ q=>q) λ_ _ q=>q
  rcases d with z|z
  ·rw[z];exact f b u e
  ·exact f c _ z
theorem Inv.turnsT {T:Addr}(I:Inv X a i H s) (h:∀ b∈fp,iS X a H b) (k:∀ b o,b∉fp->s.heap.get? b=some o->h'.get? b=some o)
  (t:s.heap.objs.size<=T) (y:dE h' T its) (w:aG xs its.toList) (hz:xs.length<=qaF):Inv X a i (upd H T (.tup xs)) { s with heap:=h',toks:=t' } :=by
 have f:∀ b u,H b=some u->b∉fp:=λb u e z=>by have:=(h b z).1;rw[e]at this;cases this
 have g:=I.hok.fresh t;refine I.step (iS.ch h) (λb o _ _ d e _=>k b o d e) (λb o _ _ d e _=>⟨o.slots,k b o d e⟩) (λb o _ e n=>by rw[upd_ne ((λb o e=>qaC (qaP (qax e) t)) b o e)];exact n)
  (λb o d e=>⟨o,k b o d e⟩) (λb _ e=>by rw[upd_ne (aK e g)];exact e) (λb _ _ e=>by rw[upd_ne (aK e g)];exact e) (λb ps e=>⟨#[],by rw[upd_ne (aK e g),e];simp⟩) (λm hm=>?_) (λb u e=>?_) I.bare
 ·obtain⟨o,es,l,j,r⟩:=hm
  exact⟨o,es,l,k _ o (λz=>(h _ z).2.1 U) j,r⟩
 ·by_cases hb:b=T
  ·subst hb
   rw[upd_same]at e;cases e;refine⟨hz,its.toList,w,?_⟩;simpa using y
  ·rw[upd_ne hb]at e
   refine (I.hok b u e).stay (λc v d q=>k c v ?_ q) (λc q=>?_) λc z q=>?_
   ·rcases d with z|z
    ·rw[z];exact f b u e
    ·exact f c _ z
   all_goals first
    |(rw[upd_ne (aK q g)];exact q)
    |(exact z)
end
def Ite (S:Hp->List V->Prop):It:=
 ⟨λi H=>∃ xs x,S H xs/\xs[i]?=some x,λi H x H'=>∃ T v,(∀ xs,S H xs->xs[i]?=some v)/\H T=none/\x=.ref T/\H'=upd H T (.tup [.int i,v]),λi H=>∃ xs,S H xs/\xs.length=i⟩
theorem wa {K}(a f e) (j:e≠f) (B:a≠e) (C:a≠f) :
  tm P w K (.Tuple l k pos) (Ite λH xs=>SqL K H a xs) [e,f] e (λi h=>(∃ g,IsEnum h e f i g)/\h.IsListIter f a i)  where
 mem:=by simp
 obj:=λi h st b hb=>by
  rcases qaw.mp hb with rfl|hb
  ·obtain⟨⟨g,q⟩,_⟩:=st
   exact⟨_,q,λv z=>by cases z⟩
  ·rw[qan.mp hb]
   obtain⟨_,o,e,c,d⟩:=st;exact⟨o,e,λv z=>by rw[d]at z;cases z⟩
 keep:=λi h h' st O=>⟨let ⟨g,q⟩:=st.1;⟨g,O e (by simp) _ q⟩,st.2.at λo q=>O f (by simp) o q⟩
 item:=by
  intro X V hw S N i r s σ H E I L st hg;subst V hw S;obtain⟨xs,x,M,hx⟩:=hg;obtain⟨its,R,p,hz⟩:=I.list M;obtain⟨u,hu,ru⟩:=R.get hx;have W:=qfx (qj8 (prog:=X.prog) (w:=X.w) (A:=X.A.in1) (I.ok.hd N) f a C its.toArray) e j (by simp[j,qbp B]) (by simp);have hi:=by
   simpa using ((qas.mp hu).1)
  obtain⟨⟨ol,J⟩,m⟩:=st;refine qhH (qj8 (A:=X.A.in1) (I.ok.hd N) f a C its.toArray) J ⟨m,p.isList⟩ hi j (by simp[j,qbp B]) λy h1 t hy ho hs' ht hsz hk=>⟨_,U,?_⟩;have hm:(λ_ (T) (h)=>(∃ x,IsEnumOut h e f _ x T)/\_/\T≠e/\T≠f) i s.heap.objs.size h1:=⟨⟨_,ho⟩,hs',qca (qax J),qca (let ⟨_,q,_⟩:=m;qax q)⟩;have O:∀ b o,b∉[e,f]->s.heap.get? b=some o->h1.get? b=some o:=λb o hb q=>hk b o (λz=>hb (by simp[z])) (λz=>hb (by simp[z])) q;generalize eT:s.heap.objs.size=T at ht ho hm ⊢;have hT:=qdx eT;have n:∃ tk,tk=t+1:=⟨_,U⟩;obtain⟨tk,n⟩:=n;rw[<-n];have ey:=by
   have F:=by simpa using hy
   rw[hu]at F;exact (qaL F).symm
  subst ey;refine W.go l k pos i T _ _ _ hm λh2 G D=>?_;have nT:=W.apart i T _ hm;refine⟨.ref T,_,?_,U,⟨T,x,λys hy=>by rw[I.list_inj hy M];exact hx,I.hok.fresh hT,U,U⟩,⟨G.1,G.2.1⟩,λb hb=>?_⟩
  ·exact (I.turnsT L (λb o hb q=>D b o hb (O b o hb q)) hT ⟨_,D T _ nT ht,U,⟨_,U⟩,U⟩ (.cons ⟨t,U⟩ (.cons ru .nil)) (by show 2<=qaF;decide))
  ·rw[upd_ne (show b≠T from λz=>nT (z ▸ hb))]
   exact (L b hb).1
 done:=by
  intro X V hw S N i r s σ H E I L st hg;subst V hw S;obtain⟨xs,M,hx⟩:=hg;obtain⟨its,R,p,hz⟩:=I.list M;have hl:=R.length;have Y:its.toArray[i]?=none:=by simp;lia
  obtain⟨⟨g,Q⟩,hit⟩:=st
  -- the end at place i
  refine wpAny_pyNext_enum_end (I.ok.hd N) Q hit p.isList Y λh' eb=>⟨U,?_⟩;exact I.turns L λb o hb q=>eb b o (by simp at hb;exact hb.2) q
 self:=λ_ _ _ _ _ st h=>let ⟨⟨_,Q⟩,_⟩:=st;qeQ Q h
theorem wb {K}(a g e) (f:e≠g) (n:a≠e) (r:a≠g) :
  tm P w K (.Tuple l k pos) (Ite λH xs=>SqT K H a xs) [e,g] e (λi h=>(∃ j,IsEnum h e g i j)/\h.IsTupleIter g a i)  where
 mem:=by simp
 obj:=λi h st b hb=>by
  rcases qaw.mp hb with rfl|hb
  ·obtain⟨⟨j,q⟩,_⟩:=st
   exact⟨_,q,λv z=>by cases z⟩
  ·rw[qan.mp hb]
   obtain⟨_,o,e,c,d⟩:=st;exact⟨o,e,λv z=>by rw[d]at z;cases z⟩
 keep:=λi h h' st B=>⟨let ⟨j,q⟩:=st.1;⟨j,B e (by simp) _ q⟩,st.2.at λo q=>B g (by simp) o q⟩
 item:=by
  intro X V hw S O i D s σ H E I M st hg;subst V hw S;obtain⟨xs,x,N,hx⟩:=hg;obtain⟨its,R,p,hz⟩:=I.tuple N;obtain⟨u,hu,ru⟩:=R.get hx;have W:=qfx (gO (prog:=X.prog) (w:=X.w) (A:=X.A.in1) (I.ok.hd O) g a r its.toArray) e f (by simp[f,qbp n]) (by simp);have hi:=by
   simpa using ((qas.mp hu).1)
  obtain⟨⟨ol,L⟩,m⟩:=st;refine qhH (gO (A:=X.A.in1) (I.ok.hd O) g a r its.toArray) L ⟨m,p⟩ hi f (by simp[f,qbp n]) λy h1 t Y ho hs' ht hsz hk=>⟨_,U,?_⟩;have hm:(λ_ (T) (h)=>(∃ x,IsEnumOut h e g _ x T)/\_/\T≠e/\T≠g) i s.heap.objs.size h1:=⟨⟨_,ho⟩,hs',qca (qax L),qca (let ⟨_,q,_⟩:=m;qax q)⟩;have B:∀ b o,b∉[e,g]->s.heap.get? b=some o->h1.get? b=some o:=λb o hb q=>hk b o (λz=>hb (by simp[z])) (λz=>hb (by simp[z])) q;generalize eT:s.heap.objs.size=T at ht ho hm ⊢;have hT:=qdx eT;have C:∃ Q,Q=t+1:=⟨_,U⟩;obtain⟨Q,C⟩:=C;have ey:=by
   have G:=by simpa using Y
   rw[hu]at G;exact (qaL G).symm
  subst ey;refine W.go l k pos i T _ _ _ hm λh2 J F=>?_;have nT:=W.apart i T _ hm;refine⟨.ref T,_,?_,U,⟨T,x,λys Y=>by rw[I.tuple_inj Y N];exact hx,I.hok.fresh hT,U,U⟩,⟨J.1,J.2.1⟩,λb hb=>?_⟩
  ·exact (I.turnsT M (λb o hb q=>F b o hb (B b o hb q)) hT ⟨_,F T _ nT ht,U,⟨_,U⟩,U⟩ (.cons ⟨t,U⟩ (.cons ru .nil)) (by show 2<=qaF;decide))
  ·rw[upd_ne (show b≠T from λz=>nT (z ▸ hb))]
   exact (M b hb).1
 done:=by
  intro X V hw S O i D s σ H E I M st hg;subst V hw S;obtain⟨xs,N,hx⟩:=hg;obtain⟨its,R,p,hz⟩:=I.tuple N;have hl:=R.length;have hi:i=its.toArray.size:=by simp;lia
  subst hi;refine (qfx (gO (A:=X.A.in1) (I.ok.hd O) g a r its.toArray) e f (by simp[f,qbp n]) (by simp)).done s _ _ ⟨st.1,st.2,p⟩ λh' Q B=>⟨U,I.turns M B⟩
 self:=λ_ _ _ _ _ st h=>let ⟨⟨_,he⟩,_⟩:=st;qeQ he h
section
variable {X:Cx}
def Eb (K:qae) (L:TA):TI:=λC H R=>L C H λvs H1=>∃ a,vs=[.ref a]/\(∃ xs,SqL K H1 a xs)/\R (Ite λH xs=>SqL K H a xs) H1
theorem AB (hg:Gl X "enumerate") (hm:X.mg "enumerate" = none) (ha:PA X [a] L) (hs:qbA [a] X.env=[(false,eval a X.env)]:=by rfl) :
  PI X (.Tuple B k D) (.Call (.Name "enumerate" p) [a] [] pos) (Eb X.K L) :=by
 intro d s C H R I h;refine Call_ (hJ I hg hm qky (qb0 (thn (ha pos d s C H _ I h) λw s1 ⟨vs,H1,I1,r1,q1⟩=>?_) hs U));obtain⟨l,e,⟨xs,J⟩,q⟩:=q1;subst e;cases r1 with
 |cons r m=>
  cases m;cases r;obtain⟨its,g,T,hz⟩:=I1.list J;refine call_enumerate_list T.isList λh' O M Y G=>qeQ O ?_;have j:l<s1.heap.objs.size:=by obtain⟨_,_,e,_⟩:=T;exact qax e
  refine⟨_,_,_,_,H1,U,I1.kept G,wa l s1.heap.objs.size _ (qeN _) (qaC (qa0 j)) (qaC j),⟨⟨_,O⟩,M⟩,λb hb=>?_,q⟩;have E:s1.heap.objs.size<=b:=by
   rcases qaw.mp hb with e|hb
   ·rw[e];exact qcZ _
   ·rw[qan.mp hb];exact qao _
  exact I1.fpOk E (I1.hok.fresh E)
def Ec (K:qae) (L:TA):TI:=λC H R=>L C H λvs H1=>∃ a,vs=[.ref a]/\(∃ xs,SqT K H1 a xs)/\R (Ite λH xs=>SqT K H a xs) H1
theorem AC (hg:Gl X "enumerate") (hm:X.mg "enumerate" = none) (ha:PA X [a] L) (hs:qbA [a] X.env=[(false,eval a X.env)]:=by rfl) :
  PI X (.Tuple B k D) (.Call (.Name "enumerate" p) [a] [] pos) (Ec X.K L) :=by
 intro d s C H R I h;refine Call_ (hJ I hg hm qky (qb0 (thn (ha pos d s C H _ I h) λw s1 ⟨vs,H1,I1,r1,q1⟩=>?_) hs U));obtain⟨l,e,⟨xs,J⟩,q⟩:=q1;subst e;cases r1 with
 |cons r m=>
  cases m;cases r;obtain⟨its,g,T,hz⟩:=I1.tuple J;refine gL T λh' O M Y G=>qeQ O ?_;have j:l<s1.heap.objs.size:=by obtain⟨_,e,_⟩:=T;exact qax e
  refine⟨_,_,_,_,H1,U,I1.kept G,wb l s1.heap.objs.size _ (qeN _) (qaC (qa0 j)) (qaC j),⟨⟨_,O⟩,M⟩,λb hb=>?_,q⟩;have E:s1.heap.objs.size<=b:=by
   rcases qaw.mp hb with e|hb
   ·rw[e];exact qcZ _
   ·rw[qan.mp hb];exact qao _
  exact I1.fpOk E (I1.hok.fresh E)
theorem wg :∀ {w},aG (ns.map V.int) w->∃ xs,w.toArray=intItems xs/\xs.toList.map (·.1)=ns :=by
 induction ns with
 |nil=>intro w r;cases r;exact⟨#[],by simp[intItems],U⟩
 |cons n ns ih=>
  intro w r;cases r with
  |cons r m=>
   obtain⟨t,rfl⟩:=r;obtain⟨xs,e,e2⟩:=ih m;refine⟨#[(n,t)]++xs,?_,by simp[e2]⟩;have e':=congrArg qhb e;simp[intItems]at e' ⊢;exact e'
theorem zw:a7 X (.builtin "sum") (λxs H Q=>X.calm=true/\∃ (a:Addr) (ns:List Int),xs=[.ref a]/\SqL X.K H a (ns.map V.int)/\Q (.int ns.sum) H):=by
 intro d s C H xs w Q I g h;obtain⟨W,a,ns,rfl,J,q⟩:=h;cases g with
 |cons r m=>
  cases m;cases r;obtain⟨its,g,p,hz⟩:=I.list J;obtain⟨ps,e1,e2⟩:=wg g;have hl:=p.isList;rw[e1]at hl;refine sum_intListG (I.ok.hd W) hl λh' tk t' G=>?_;refine⟨.int ns.sum,H,I.kept G,⟨t',?_⟩,q⟩;rw[preSum_eq,qdI (by simp),e2]
theorem zv:a7 X (.builtin "all") (λxs H Q=>X.calm=true/\∃ (a:Addr) (bs:List Bool),xs=[.ref a]/\SqL X.K H a (bs.map V.bl)/\Q (.bl (bs.all id)) H):=by
 intro d s C H xs w Q I g h;obtain⟨W,a,bs,rfl,J,q⟩:=h;cases g with
 |cons r m=>
  cases m;cases r;obtain⟨its,g,p,hz⟩:=I.list J;have j:a<s.heap.objs.size:=by obtain⟨_,_,e,_⟩:=p;exact qax e
  have P:=by have:=g.length;simpa using this.symm
  refine call_all_walk (qdY p.isList ?_);refine⟨s.heap.objs.size,_,_,_,_,_,λi=>(bs[i]?).getD true,U,qjo (A:=X.A.in1) (I.ok.hd W) s.heap.objs.size a (qaC j) its.toArray,⟨⟨_,qar _ U,U,U⟩,p.isList.push _⟩,?_,λh' tk G=>?_⟩
  ·intro i v s' Q' E' hv hQ'
   have hv':=by simpa using hv
   have hi:=(qas.mp hv').1;obtain⟨b,hb⟩:∃ b,bs[i]?=some b:=⟨bs[i]'(by lia),by simp[show i<bs.length by lia]⟩
   have:(bs.map V.bl)[i]?=some (.bl b):=by rw[qay,hb];rfl
   obtain⟨u,hu,ru⟩:=g.get this;rw[hv']at hu;cases hu;cases ru;have N:Q' ((bs[i]?).getD true) s':=hQ';rw[hb]at N;exact qcu N
  ·refine⟨_,H,I.kept (λb o e=>G b o (λz=>absurd (qax e) (by rw[qan.mp z];exact qa4 _)) (qaf _ e)),?_,q⟩
   congr 1
   have:∀ n,n=bs.length->((qak n).all λi=>(bs[i]?).getD true)=bs.all id:=by
    intro n hn;rw[qd9,qaY,qaY];constructor
    ·intro h b hb
     obtain⟨i,hi,e⟩:=qcK.mp hb
     have:=h i (qaD.mpr (by lia))
     simp[hi,e]at this;exact this
    ·intro h i hi
     have hi':=qaD.mp hi;have S:i<bs.length:=by lia
     simp[S];exact h _ (qbC _)
   exact this _ (by simpa using P)
def gh:V->PyData
 |.non=>.none
 |.bl b=>.bool b
 |.int i=>.int i
 |.str x=>.str x
 |_=>.none
def sO (c:List V):Str:=(PyData.tuple (c.map gh)).shown
def dF (y:V):Prop:=y=.non\/∃ i:Int,y=.int i/\0<=i/\i<1024
theorem u7:a7 X (.builtin "repr") (λxs H Q=>∃ i,xs=[.int i]/\i.natAbs.log2<1920/\Q (.str (toString i)) H) :=by
 intro d s C H xs w Q I g h;obtain⟨i,rfl,hi,q⟩:=h;cases g with
 |cons r m=>
  cases m;obtain⟨t,rfl⟩:=r;exact call_repr_gives (qfw s i t) F.slot_int_repr F.entry_int_repr (F.args_int_repr_1 _) (gives_int_repr i t hi) ⟨.str _,H,I.tok _,⟨_,U⟩,q⟩ (hx:=int_text_fits hi)
theorem iu :∀ {c}{w},aG c w->(∀ y∈c,dF y)->ReadsAll h w (c.map gh) []
 |_,_,.nil,_=>.nil
 |_,_,.cons (a:=y) r m,f=>by
  have hr:=iu (h:=h) m λz hz=>f z (qaj _ hz);rcases f y qag with e|⟨i,e,_⟩
  ·subst e;cases r;exact .cons .none hr
  ·subst e;obtain⟨t,rfl⟩:=r;exact .cons (.int i t) hr
theorem yB {i:Int} (h0:0<=i) (h1:i<1024):((toString i):Str).length<=10 :=by
 obtain⟨n,rfl⟩:=qha h0;have hn:n<2^10:=by lia
 have:=nat_repr_length_le (by decide) hn
 rw[qg3];exact this
theorem lF:∀ {c:List V},(∀ y∈c,dF y)->piled (qbU (c.map gh))<=12*c.length
 |[],_=>by simp[qbU,piled]
 |y::c,f=>by
  have ih:=lF λz hz=>f z (qaj _ hz);rw[qaz,qbU,qi4,qat]
  have:(gh y).shown.length<=10:=by
   rcases f y qag with e|⟨i,e,h0,h1⟩
   ·subst e;decide
   ·subst e;exact yB h0 h1
  lia
theorem ix:∀ {c:List V},(∀ y∈c,dF y)->qea (c.map gh)=true
 |[],_=>rfl
 |y::c,f=>by
  rw[qaz,qea,(ix λz hz=>f z (qaj _ hz)),qiV];rcases f y qag with e|⟨i,e,h0,h1⟩
  ·subst e;rfl
  ·subst e
   refine decide_eq_true ?_;have hn0:i.natAbs<1024:=by lia
   by_cases hz:i.natAbs=0
   ·rw[hz];decide
   ·exact (qhS hz).mpr (qaP (show i.natAbs<2^10 from hn0) (qbq (by decide) (by decide)))
theorem kf:∀ {c:List V},(∀ y∈c,dF y)->qej (c.map gh)=false
 |[],_=>rfl
 |y::c,f=>by
  rw[qaz,qej,(kf λz hz=>f z (qaj _ hz))];rcases f y qag with e|⟨i,e,_⟩<;>subst e<;>rfl
theorem tY:∀ {c:List V},(∀ y∈c,dF y)->(PyData.tuple (c.map gh)).depth<=2:=by
 intro c f
 have:∀ {c:List V},(∀ y∈c,dF y)->qdw (c.map gh)<=1:=by
  intro c
  induction c with
  |nil=>intro _;simp[qdw]
  |cons y c ih=>
   intro f
   have:=ih λz hz=>f z (qaj _ hz)
   rw[qaz,qdw]
   have:(gh y).depth<=1:=by
    rcases f y qag with e|⟨i,e,_⟩<;>subst e<;>simp[gh,qdK]
   lia
 have:=this f
 simp only[qdK];lia
theorem u8 (hg:X.A.guards=some []) (hu:X.A.units+64<cLine):a7 X (.builtin "repr") (λxs H Q=>∃ a c,xs=[.ref a]/\SqT X.K H a c/\(∀ y∈c,dF y)/\c.length<=1000/\Q (.str (sO c)) H):=by
 intro d s C H xs w Q I g h;obtain⟨a,c,rfl,J,f,hl,q⟩:=h;cases g with
 |cons r m=>
  cases m;cases r;obtain⟨its,g,p,hz⟩:=I.tuple J;obtain⟨o,ho,W,n,hd⟩:=p;refine qku (.tuple ho W hd (by simpa using iu g f)) (ix f) (qhy (kf f)) hg (by have:=tY f;lia) (λ_ _ e=>e) (λh' u tk G=>⟨.str _,H,I.kept G,⟨u,U⟩,q⟩) ?_;show (qib _).length<=qaF;have hs:=lF f;have hz2:(Str.join ", " (qbU (c.map gh))).length<=12*c.length:=by
   cases e:qbU _ with
   |nil=>exact qbM _
   |cons x r=>
    have:=qkg (qbU _) (by rw[e];simp)
    lia
  unfold qib;rw[qdP,qdP];have h2:((if (qbU (c.map gh)).length==1 then ",)" else ")"):Str).length<=2:=by split<;>decide
  have Y:qaF=16777216:=rfl;have h1':(("(" : Str)).length=1:=rfl
  lia
end
def dI (k:Nat) (js:List Nat) (a:St):St:=qaG k none++js.map λj=>(a[j]?).getD none
def uk (a:Scope) (ns:List (Str×qb9)) (N Nc:List Str) (k:Nat) (js:List Nat):Bool:=
 decide ((a.names.map (·.1)).Nodup)&&decide Nc.Nodup&&decide (Nc.length=k+js.length) &&
 (a.names.all λx=>x.2 != .free||ns.lookup x.1==some .cell||ns.lookup x.1==some .free) &&
 ((qak js.length).all λi=>match Nc[k+i]?,js[i]? with|some x,some j=>N[j]?==some x&&a.names.lookup x==some .free|_,_=>false)
theorem pY (ns) (N Nc) (k) (js) (hns:X.env.scope.names=ns) (hN:X.N=N) (m:a.kind=.function) (h:uk a ns N Nc k js=true):cI X a Nc (dI k js) :=by
 unfold uk at h;simp only[qaZ,decide_eq_true_eq]at h;obtain⟨⟨⟨⟨r,p⟩,f⟩,n⟩,q⟩:=h;refine⟨m,r,p,λx hx g=>?_,λd _=>?_,λd _ i x v l b=>?_⟩
 ·have:=qaY.mp n x hx
  rw[g]at this;simp only[qgo,beq_iff_eq,bne_self_eq_false,qbs,false_or]at this;unfold qlE;rw[hns];exact this
 ·unfold dI
  rw[qaA,qda,qah,f]
 ·unfold dI at b
  by_cases hi:i<k
  ·rw[qaH (by simpa using hi),qdC,iFP hi]at b
   cases b
  ·rw[qaI (by simpa using hi),qda,qay]at b
   cases ej:js[i - k]? with
   |none=>rw[ej]at b;cases b
   |some j=>
    rw[ej]at b;have e:=(qas.mp ej).1
    have:=qaY.mp q _ (qaD.mpr e)
    rw[show k+_=i by lia,l,ej]at this;simp only[qaZ,beq_iff_eq]at this;refine⟨j,by rw[hN];exact this.1,?_,this.2⟩;have c:(d[j]?).getD none=some v:=qaL b;cases eq:d[j]? with
    |none=>rw[eq]at c;cases c
    |some o=>rw[eq]at c;rw[show o=some v from c]
def vW (names ns:List (Str×qb9)):List (Str×qb9):=names.map λx=>if (x.2==NameKind.free&&ns.lookup x.1==some .cell) then (x.1,.cell) else x
theorem iO (c:X.env.scope.kind=.function) (hns:X.env.scope.names=ns) :
  (lcX X a b Nc s H C fp).env.scope.names=vW a.names ns :=by
 show (a.names.map _)=_
 congr 1
 funext x
 obtain⟨n,k⟩:=x;show (if _=true then (n,NameKind.cell) else (n,k))=_;unfold qlE;rw[c,hns,show (ScopeKind.function==ScopeKind.function)=true from U,qiV]
section
variable {a tl:St}{tt:TT}{te:TE}{H:Hp}{Q:VK}
end
section
variable {X:Cx}
theorem CB:OpR X (qbP .Mult) (rI qhW λi j=>.int (i*j)):=opI λ_ _ _ _ _ _ _ a q=>mul_int q a
end
theorem aP.new (h:H p=none) (o):aP H (upd H p o) :=λb u q=>by rw[upd_ne (aK q h)];exact q
theorem yi (hg:X.A.guards=some []) (c:X.A.units+64 < cLine):a7 X (.builtin "repr") (λxs H Q=>(∃ i,xs=[.int i]/\i.natAbs.log2 < 1920/\Q (.str (toString i)) H)\/
  (∃ a b,xs=[.ref a]/\SqT X.K H a b/\(∀ y∈b,dF y)/\b.length<=1000/\Q (.str (sO b)) H)) :=a7.or u7 (u8 hg c)
theorem iQ (h:n<=1000):n<=qaF :=qe4 (yZ h)
theorem Bp (l) (items) (n) (dct) (a) (u) :
  Meets (qe6.«tuple.__mul__» ⟨[.ref l,.int 1 u],[]⟩) (λ_ R s=>s.heap.get? l=some { cls:=.type "tuple",dict:=dct,data:=.seq items n,slots:=a }/\R (.ok (.ret (.ref l))) s) :=
 .of_wp λprog w A R s h=>by
  obtain⟨b,h⟩:=h
  wp_walk using wpAny_loadPart' b
  exact⟨_,U,h⟩
theorem y8 (l) (items) (n) (dct) (d) (x) (u) (j:2<=x) (g:x<1000) (a:items.isEmpty=false) (hz:items.size<=1000)
  (f:((qaG x.toNat items).foldl (λx1 x2=>x1++x2) #[]).size<=qaF) :
  Meets (qe6.«tuple.__mul__» ⟨[.ref l,.int x u],[]⟩) (λ_ R s=>s.heap.get? l=some { cls:=.type "tuple",dict:=dct,data:=.seq items n,slots:=d }/\
   R (.ok (.ret (.ref s.heap.objs.size))) { s with heap:=s.heap.push { cls:=.type "tuple",data:=.seq ((qaG x.toNat items).foldl (λx1 x2=>x1++x2) #[]) } }) :=
 .of_wp λprog w A R s h=>by
  obtain⟨b,h⟩:=h;have c1:(x < -(2^63)||x>=2^63)=false:=by simp;lia
  have c2:(items.isEmpty||x==1)=false:=by rw[a];simp;lia
  have c3:(x<=0||items.isEmpty)=false:=by rw[a];simp;lia
  have c:(items.size:Int)*x<=1000000:=by
   have i:(items.size:Int)*x<=1000*x:=qf5 (by lia) (by lia);lia
  have e:¬ ((items.size:Int)*x > (2^63 - 1) / 8):=by lia
  have k:qjh ((items.size:Int)*x)=false:=by
   exact decide_eq_false (by have:(qaF:Nat)=16777216:=rfl
                             lia)
  refine qfl (decide_eq_false (by rw[c1];exact qaW)) ?_
  wp_walk using wpAny_loadPart' b
  refine qfl (decide_eq_false (by rw[c2];exact qaW)) ?_;refine qfl (decide_eq_false (by rw[c3];exact qaW)) ?_;refine qfl (decide_eq_false e) ?_
  wp_walk using wpAny_loadPart' b
  exact⟨_,U,h⟩
theorem y9 (l) (items) (n) (dct) (a) (u) (c:items.isEmpty=false) :
  Meets (qe6.«tuple.__mul__» ⟨[.ref l,.int 0 u],[]⟩) (λ_ R s=>s.heap.get? l=some { cls:=.type "tuple",dict:=dct,data:=.seq items n,slots:=a }/\R (.ok (.ret (.ref s.heap.objs.size))) { s with heap:=s.heap.push { cls:=.type "tuple",data:=.seq #[] } }) :=
 .of_wp λprog w A R s h=>by
  obtain⟨b,h⟩:=h
  wp_walk using wpAny_loadPart' b
  exact⟨_,U,h⟩
theorem kU:fillsNumberSlot (.type "tuple") "mul" = pure false:=
 PySem.fillsNumberSlot_seq qeZ.lookup (by decide +kernel) F.slot_tuple_rmul.lookup (by decide +kernel)
theorem sK:seqRepeat? (.type "tuple")=pure (some (.builtin "tuple.__mul__")):=by
 rfl
theorem nU (a) (t) (l) (items) (n) (dct) (b) :
  Meets (qe6.«int.__rmul__» ⟨[.int a t,.ref l],[]⟩) (λ_ R s=>s.heap.get? l=some { cls:=.type "tuple",dict:=dct,data:=.seq items n,slots:=b }/\R (.ok (.ret Value.notImplemented)) s) :=
 .of_wp λprog w A R s h=>by obtain⟨c,h⟩:=h;wp_walk using wpAny_loadPart' c;exact⟨_,U,h⟩
section
variable {X:Cx}
def G1 (K:qae):R2:=λx y H Q=>∃ l k xs,x=.ref l/\y=.int k/\SqT K H l xs/\xs≠[]/\xs.length<=1000/\0<=k/\k<1000/\(k=1->Q (.ref l) H)/\
 (k≠1->∀ p,H p=none->Q (.ref p) (upd H p (.tup (qaG k.toNat xs).flatten)))
theorem CD:OpR X (qbP .Mult) (G1 X.K):=by
 intro w s L H x y v u Q I D J h;obtain⟨l,k,xs,rfl,rfl,C,f,m,N,F,G,B⟩:=h;cases D;obtain⟨t,rfl⟩:=J;obtain⟨its,z,p,hz⟩:=I.tuple C;obtain⟨⟨c,dct,dt,i⟩,e,E,n,hd⟩:=p;subst E hd;have a:=z.length;refine qhj (by decide) ⟨_,e,U⟩ (λs'=>qfw s' k t) kU qjd qfd sK qiT.lookup
  (qcE qfd (qfw s k t) qiU (qiD _ _) (nU k t l its.toArray n dct i) ⟨e,U,⟨_,e,U⟩,?_⟩)
 by_cases j:k=1
 ·subst j
  exact qcE qeZ ⟨_,e,U⟩ qgf (qfW _ _) (Bp l its.toArray n dct i t) ⟨e,.ref l,H,I,U,G U⟩
 ·have A:=by
   exact (kI its k.toNat [])
  have b:(qaG k.toNat xs).flatten.length<=qaF:=by
   rw[rY]
   have:k.toNat*xs.length<=1000*1000:=qdn (by lia) m
   have M:qaF=16777216:=rfl;lia
  have g:(qaG k.toNat its).flatten.length<=qaF:=by
   rw[rY]at b ⊢;rw[<-a];exact b
  have d:its.toArray.isEmpty=false:=by
   cases its with
   |nil=>cases xs with
    |nil=>exact absurd U f
    |cons _ _=>cases a
   |cons _ _=>rfl
  by_cases r:k=0
  ·subst r
   refine qcE qeZ ⟨_,e,U⟩ qgf (qfW _ _) (y9 l its.toArray n dct i t d) ⟨e,?_⟩;exact⟨.ref _,_,I.laid (o:=.tup []) (λ_ _ q=>qaf _ q) (qao _) ⟨qbM _,_,.nil,⟨_,qar _ U,U,⟨0,U⟩,U⟩⟩,U,B j _ I.fresh⟩
  refine qcE qeZ ⟨_,e,U⟩ qgf (qfW _ _) (y8 l its.toArray n dct i k t (by lia) F ?_ (by rw[qaE];lia) (by rw[A];exact g)) ⟨e,?_⟩
  ·cases its with
   |nil=>cases xs with
    |nil=>exact absurd U f
    |cons _ _=>cases a
   |cons _ _=>rfl
  ·rw[A]
   refine⟨.ref _,_,I.laid (o:=.tup (qaG k.toNat xs).flatten) (λ_ _ q=>qaf _ q) (qao _) ⟨b,_,z.rep k.toNat,⟨_,qar _ U,U,⟨0,U⟩,U⟩⟩,U,B j _ I.fresh⟩
end
section
variable {X:Cx}{K:qae}
theorem Gr (e:X.calm=true:=by rfl) (c:X.K=K:=by rfl):a7 X (.builtin "sum") (λxs H Q=>∃ (a:Addr) (ns:List Int),xs=[.ref a]/\SqL K H a (ns.map V.int)/\Q (.int ns.sum) H):=by
 subst c;intro b s f H xs j Q I g h;exact zw b s f H xs j Q I g ⟨e,h⟩
theorem Gq (e:X.calm=true:=by rfl) (c:X.K=K:=by rfl):a7 X (.builtin "all") (λxs H Q=>∃ (a:Addr) (bs:List Bool),xs=[.ref a]/\SqL K H a (bs.map V.bl)/\Q (.bl (bs.all id)) H):=by
 subst c;intro b s f H xs j Q I g h;exact zv b s f H xs j Q I g ⟨e,h⟩
theorem zX (l:bj k X.A) (c:X.K=K:=by rfl):a7 X (.builtin "repr") (λxs H Q=>(∃ i,xs=[.int i]/\i.natAbs.log2 < 1920/\Q (.str (toString i)) H)\/
  (∃ a d,xs=[.ref a]/\SqT K H a d/\(∀ y∈d,dF y)/\d.length<=1000/\Q (.str (sO d)) H)) :=by subst c;exact yi l.gd l.units
end
section
variable {X:Cx}
end
theorem eF (h:j<n):ixN n (j)=some j :=by
 unfold ixN;rw[iFP (by lia),iFP (by lia),qbc]
section
variable {X:Cx}{e:Expr}{ty:TE}{p1 h j f a b c:Pos}{i k d g:Nat}
end
section
variable {prog:qaO}{w:World}{A:qa1}{E:Value->qal->Prop}{s:qal}
end
section
variable {X:Cx}
theorem B9:a7 X (.type "range") (λxs H Q=>∃ j,xs=[.int j]/\∀ p,H p=none->Q (.ref p) (upd H p (.rng 0 j))) :=by
 intro a s d H xs e Q I b h;obtain⟨j,rfl,q⟩:=h;cases b with
 |cons r c=>
  cases c;obtain⟨t,rfl⟩:=r;exact call_range_1 ⟨.ref _,_,I.laid (o:=.rng 0 j) (λ_ _ q=>qaf _ q) (qao _) ⟨_,_,_,qar _ U⟩,U,q _ I.fresh⟩
end
section
variable {prog:qaO}{w:World}{A:qa1}{E:Value->qal->Prop}{s:qal}
end
section
variable {X:Cx}{e:Expr}{te:TE}{p1 a b pos:Pos}{j:Nat}
end
theorem aG.at (r:aG xs b):∀ (j:Nat) (h) ,∃ h',aM xs[j] b[j] :=by
 induction r with
 |nil=>intro j h;exact absurd h (qcR j)
 |cons a t d=>
  intro j h;cases j with
  |zero=>exact⟨Nat.zero_lt_succ _,a⟩
  |succ j=>
   obtain⟨e,c⟩:=d j _;exact⟨Nat.succ_lt_succ e,c⟩
theorem m7 (e) (n):(qak (n+1)).all e=(e 0&&(qak n).all λj=>e (j+1)) :=by
 rw[qdJ,qbB,qeY];rfl
section
variable {X:Cx}{K:qae}{c:List (Addr×Obj)}{d:St}{H:Hp}{s:qal}{A:qa1}{a b:Addr}{xs e:List V}
end
section
variable {X:Cx}{pos p1 a:Pos}{b c:Nat}
end
section
variable {K:qae}{H:Hp}
end
section
variable {X:Cx}{K:qae}
end
end L2
namespace HT
open PySem PySem.Spec PyProof.Rows L2
section
variable {prog:qaO}{w:World}{A:qa1}{E:Value->qal->Prop}{s:qal}
theorem getItem_tuple_all {lo }(b:IsTup s.heap t items) (g:s.heap.IsSliceOf f i e .none) (l:qgE i lo) (j:qgE e hi)
  (hw:sIx items.size 0 lo=0/\sIx items.size items.size hi=items.size) (h:Q (.ref t) s):wpAny (model prog w) A (qfp (.ref t) (.ref f)) Q E s :=by
 obtain⟨os,c,d,k⟩:=id g;unfold qfp
 try with_reducible refine qb4 ?_
 refine qaa (qiX b.typeIs (by decide) ?_)
 refine qaa (qbx b.typeIs qbO
  (qbL qbO b.typeIs qix ?_ (qiL _ _)))
 show wpAny _ _ (qfj _ >>= _) _ _ s;refine qaa (tupleItemsOf_ b ?_);refine qaa (qh8 ⟨os,c,d⟩ ?_);refine qaa (fH g l j ?_);have a:(((sIx items.size 0 lo):Int)==0&&(1:Int)==1&&(sIx items.size items.size hi - sIx items.size 0 lo)==items.size)=true:=by
  rw[hw.1,hw.2]
  simp
 show wpAny _ _ (if _=true then _ else _) _ _ s;rw[iFP a];refine qaa (qaa (qh8 b.typeIs (qam ?_)))
 first
  |exact qaa (qcX (qam ⟨_,rfl,qam h⟩))
  |exact qaa _
  |exact qaa _
  |exact qaa _
end
end HT
namespace L2
open PySem PySem.Spec PyProof.Rows
def G3 (K:qae):V->Option Int->Option Int->Hp->VK->Prop:=λx lo hi H Q=>∃ a xs,x=.ref a/\SqT K H a xs/\
 ((¬ (HT.sIx xs.length 0 lo=0/\HT.sIx xs.length xs.length hi=xs.length)/\∀ p,H p=none->Q (.ref p) (upd H p (.tup (vb xs lo hi))))\/
   ((HT.sIx xs.length 0 lo=0/\HT.sIx xs.length xs.length hi=xs.length)/\Q (.ref a) H))
theorem Eu {K} (k:X.K=K:=by rfl):SlR X (G3 K) :=by
 subst k;intro b s l H x v n j lo hi m Q I d i f e h;obtain⟨a,xs,rfl,hx,h⟩:=h;rcases h with⟨hw,q⟩|⟨hw,q⟩
 ·exact Fs b s l H _ v n j lo hi m Q I d i f e ⟨a,xs,U,hx,hw,q⟩
 ·cases d
  obtain⟨its,r,g,hz⟩:=I.tuple hx;have c:its.toArray.size=xs.length:=by exact r.length.symm
  refine⟨"tuple",_,qbO.lookup,g.typeIs,?_⟩
  exact HT.getItem_tuple_all g i f e (by rw[c];exact hw) ⟨.ref a,H,I,U,q⟩
section
variable {X:Cx}{f:Scope}{Nc:List Str}{emb:St->St}{V iter tg:Expr}{Y:List Expr}{pos:Pos}{wi:TI}{g:TG}{tt:TT}{te:TE}
theorem AN { spos} (hN0:X.N.Nodup) (hi0:X.N[i0]?=some x0) (hx0:Loc X.env.scope x0) (S:cI X f Nc emb) (hc:X.calm=true) (hi:PI X tg iter wi)
  (hg:∀ j s H C fp,PG (lcX X f j Nc s H C fp) tg g) (ht:∀ j s H C fp,PTs (lcX X f j Nc s H C fp) Y tt) (he:∀ j s H C fp,PE (lcX X f j Nc s H C fp) V te)
  (hsw:qcq (.ListComp V [⟨tg,iter,Y,0⟩] f pos) (some (.Name x0 py)) spos.line X.env=pure true:=by rfl)
  (hf0:X.fn x0=true\/X.env.scope.names.lookup x0=some .local:=by first|exact .inl U|exact .inr U|assumption)
  (hs:∀ x,qbE iter X.env x=pure x:=by intro _;rfl):PS X (.Assign [.Name x0 py] (.ListComp V [⟨tg,iter,Y,0⟩] f pos) spos) (FB (tLc emb wi g tt te) (lv i0)) :=by
 intro w s σ H DD I h;rw[exec_Assign_Name_used _ _ _ _ hsw];refine qaa (qee (qaa ?_));refine qaa (qcC (qhu U hs (iZ (S.clos I.ok)) S.kind (λx hx hl=>dA S.nd (by rw[<-hl];exact hx)) ?_) (λ_ s' hq=>qam (qam hq)) λ_ _ e=>e);refine thn (hi w s σ H _ I h) λv s1 h1=>thn h1 λitv Q h2=>?_;obtain⟨it,fp,tn,J,H2,e,I2,T,R,f2,W,⟨m0,w0⟩,turn⟩:=h2;subst e;refine qb5 (ke ?_);rw[qa5 ..];generalize hD:Q.heap.objs.size=D;generalize hlo:({ cls:=.type "list",dict:=none,data:=.seq ([]:List Value).toArray }:Obj)=lo
 have fplt:∀ b∈fp,b<Q.heap.objs.size:=λb hb=>by obtain⟨o,e,_⟩:=T.obj _ _ R b hb;exact qax e
 have I3:=ul (lo:=lo) S I2 f2 (λb hb=>by obtain⟨o,e,_⟩:=T.obj _ _ R b hb;exact⟨o,e⟩) (by rw[<-hlo];intro v z;cases z) (by rw[<-hlo];rfl);rw[hD]at I3;generalize hcells:qcI (D+2) f.names _=j at I3;generalize d:lcX X f j Nc Q H2 (D+1) fp=X' at I3;have K:∀ {H':Hp}{ps:List (Addr×Obj)},(∀ b∈fp,H' b=none)->(∀ p∈ps,p.1=D)->∀ b∈fp,iS X' ps H' b:=λ{H' ps} hn M b hb=>by
  have ok:=I3.ok;refine⟨hn b hb,?_,?_,.inl (by rw[<-d];exact hb),?_,λp F=>?_⟩
  ·exact (ok.exf b (by rw[<-d];exact hb)).1
  ·exact ok.exfs b (by rw[<-d];exact hb)
  ·exact (ok.exf b (by rw[<-d];exact hb)).2
  ·have hp':p∈([])++ps:=by rw[<-d]at F;exact F
   rw[(M p (by simpa using hp')),<-hD];exact qca (fplt b hb)
 have Dex:D∈X'.ex\/X'.s₀.heap.objs.size<=D:=.inr (by rw[<-d,<-hD];exact qao _);have Dloc:D≠X'.env.locals:=by rw[<-d];exact qaC (qcb _)
 have pD:=I3.pin (D,lo) (by rw[<-d];exact qaB _ qag);have Dcell:∀ x c,X'.env.cells.lookup x=some c->c≠D:=λx c hc' e=>by
  obtain⟨v,o,ho,hd⟩:=I3.cell x c hc';rw[e,pD.1]at ho;cases ho;exact pD.2.2.2.2 v hd
 -- the L
 have L:∀ s3:qal,s3={ Q with heap:=qfn ((Q.heap.push lo).push { cls:=.type "dict",data:=.dict #[] }) f.names }->
   qdQ (model X.prog X.w) X.A (.compLoop (.ListComp V [⟨tg,iter,Y,0⟩] f pos) 0 (.ref it) (.ref D) (qhN f j (D+1) X.env))
    (compPost (model X.prog X.w) X.A X.xe (some (qgz (.Name x0 py) X.env)) (λ_ s'=>SP X w DD .next s') (.ref D) (D+1)) s3:=by
  rintro s3 rfl
  refine cQ (λn s'=>∃ i E its k H',Inv X' [(D,{ cls:=.type "list",data:=.seq its.toArray k })] (emb σ) H' s'/\aG E its/\tn i s'.heap/\(∀ b∈fp,H' b=none)/\E.length<=qaF/\W i n E H') ?_ m0
   ⟨0,[],[],0,H2,?_,.nil,?_,λb hb=>(f2 b hb).1,qbM _,w0⟩
  ·rintro n s4 ⟨i,E,its,k,H4,I4,rv,st4,fr4,hlen,w4⟩
   have M:∀ p∈[(D,({ cls:=.type "list",data:=.seq its.toArray k }:Obj))],p.1=D:=λp F=>by
    have:=qan.mp F
    rw[this]
   rcases turn i n E H4 w4 with⟨stop,qn⟩|⟨go,hlt,N,hN,step⟩
   ·-- the end
    have TD:=T.done X' (by rw[<-d];rfl) (by rw[<-d];rfl) (by rw[<-d];rfl) (by rw[<-d];exact hc) i _ s4 (emb σ) H4 (λ_ _=>False) I4 (K fr4 M) st4 stop;rw[show X'.A=X.A by rw[<-d];rfl]at TD;refine thn TD λr s5 ⟨hr,I5⟩=>?_;subst hr;obtain⟨m5,hn5,_⟩:=id I5.loc;have eC:X'.env.locals=D+1:=by rw[<-d];rfl
    rw[eC]at hn5
    suffices inv5:∀ h',qdc (D+1) s5.heap h'->Inv X w σ (upd H4 D (.lst E)) { s5 with heap:=h' } by
     have I5X:Inv X w σ (upd H4 D (.lst E)) s5:=inv5 s5.heap ⟨U,λ_ _=>rfl⟩;have hD4':H4 D=none:=(I5.pin (D,{ cls:=.type "list",data:=.seq its.toArray k }) (by rw[<-d];exact qaB _ qag)).2.1
     have hC4:upd H4 D (.lst E) (D+1)=none:=by
      have:=I5.free
      rw[eC]at this;rw[upd_ne (qca (qcb D))];exact this
     have fpC:∀ b∈[D+1],iS X w (upd H4 D (.lst E)) b:=λb hb=>by
      have e:=qan.mp hb;subst e;exact I2.fpOk (by rw[hD];exact qcZ D) hC4
     obtain⟨oC,esC,epC,getC,datC,relC⟩:=id hn5;have I5p:=I5X.pinned fpC λb hb=>by
      have e:=qan.mp hb;subst e;exact⟨oC,getC,λv z=>by rw[datC]at z;cases z⟩
     refine qiZ (cX I5p hN0 hi0 hx0 (v:=.ref D) U (λs6 I6=>?_) hf0);have pC:=(I6.pin (D+1,oC) (qaB _ (qaB _ (ca qag getC)))).1;refine⟨m5,⟨oC,esC,epC,pC,datC,relC⟩,λh' B=>?_⟩;have I6u:=I6.unpinned;exact⟨_,_,I6u.turns (t':=s6.toks) fpC (λb o hb e=>(B.2 b (λz=>hb (by rw[z];exact qag))).trans e),qn D hD4'⟩
    intro h' B;have pD5:=I5.pin (D,{ cls:=.type "list",data:=.seq its.toArray k }) (by rw[<-d];exact qaB _ qag)
    have neC:∀ b u,H4 b=some u->b≠D+1:=λb u e z=>by
     have:=I5.free
     rw[eC,<-z,e]at this;cases this
    have hD4:H4 D=none:=pD5.2.1;have un:=I5.base;have A:Un (frs X.stack) fp H2 H4 Q.heap s5.heap:=by rw[<-d]at un;exact un
    have t:∀ b o,Q.heap.get? b=some o->b≠D/\b≠D+1:=λb o e=>by
     have q:=qax e;rw[hD]at q;exact⟨qaC q,qaC (qa0 q)⟩
    have h2D:H2 D=none:=by rw[<-hD];exact I2.fresh
    have hok':HOk X.prog X.w H4 h':=λb u e=>by
     have ob:bW X.prog X.w H4 s5.heap b u:=by have:=I5.hok b u e;rw[<-d]at this;exact this
     refine ob.stay (λc v hcv q=>(B.2 c ?_).trans q) (λ_ q=>q) λ_ _ q=>q;rcases hcv with z|z
     ·rw[z];exact neC b u e
     ·exact neC c _ z
    have hokD:HOk X.prog X.w (upd H4 D (.lst E)) h':=λb u e=>by
     by_cases hb:b=D
     ·subst hb
      rw[upd_same]at e;cases e;exact⟨hlen,its,k,rv,(B.2 b (qaC (qcb _))).trans pD5.1⟩
     ·rw[upd_ne hb]at e
      refine (hok' b u e).stay (λ_ _ _ q=>q) (λc q=>?_) λc z q=>?_
      all_goals first
       |(rw[upd_ne (aK q hD4)];exact q)
       |(rw[upd_ne (aK z hD4)];exact z)
    refine I2.call' (s':={ s5 with heap:=h' }) (ch:=fp) ?_ ⟨λb o e nb hb hx=>?_,λb o e nb hb hx=>?_,λb o e nb hx=>?_,λb o e hx=>?_,λb xs e=>?_,λb o u e=>?_,λb ps e=>?_⟩ hokD I5.bare (λb hb=>?_)
    ·have:=I5.os
     rw[<-d]at this;exact this
    ·exact (B.2 b (t b o e).2).trans (A.keep b o e nb hb hx)
    ·obtain⟨sl,q⟩:=A.slot b o e nb hb hx
     exact⟨sl,(B.2 b (t b o e).2).trans q⟩
    ·rw[upd_ne (t b o e).1]
     exact A.free b o e nb hx
    ·obtain⟨o',q⟩:=A.there b o e hx
     exact⟨o',(B.2 b (t b o e).2).trans q⟩
    ·rw[upd_ne (aK e h2D)]
     exact A.tups b xs e
    ·rw[upd_ne (aK e h2D)]
     exact A.frzs b o u e
    ·obtain⟨m,q⟩:=A.tbls b ps e
     exact⟨m,by rw[upd_ne (aK e h2D)];exact q⟩
    ·obtain⟨q0,q1,q2,q3,q4,q5⟩:=f2 b hb
     exact⟨q3,q1,q4,q5⟩
   ·-- a turn
    have hA:X'.A=X.A:=by rw[<-d];rfl
    have hP:X'.prog=X.prog:=by rw[<-d];rfl
    have hw:X'.w=X.w:=by rw[<-d];rfl
    have hE:X'.env=qhN f j (D+1) X.env:=by rw[<-d];rfl
    have hxe:X'.xe=λ_ _=>False:=by rw[<-d];rfl
    have TI':=T.item X' hP hw (by rw[<-d];rfl) (by rw[<-d];exact hc) i _ s4 (emb σ) H4 (λ_ _=>False) I4 (K fr4 M) st4 go;rw[hA]at TI';refine thn TI' λr s5 ⟨u,hr,h5⟩=>?_;subst hr;refine thn h5 λ_ s6 ⟨x,H6,I6,r6,y6,st6,fr6⟩=>?_;have I6':=I6.pinned (K fr6 M) (T.obj _ _ st6);have G:=hg j Q H2 (D+1) fp;have TT':=ht j Q H2 (D+1) fp;have EE:=he j Q H2 (D+1) fp;rw[d]at G TT' EE;have G':=G _ s6 (emb σ) H6 x u _ I6' r6 (step x H6 y6);rw[hA,hP,hw,hE,hxe]at G';refine thn G' λ_ s7 ⟨σ7,H7,I7,sb7,q7⟩=>?_;have T':=TT' _ s7 σ7 H7 _ I7 q7;rw[hA,hP,hw,hE,hxe]at T';refine thn T' λok s8 ⟨H8,I8,q8⟩=>?_
    -- what is pinned
    have l:∀ {σ9:St}{H9:Hp}{P:qal},Inv X' ([(D,({ cls:=.type "list",data:=.seq its.toArray k }:Obj))]++oF fp s6.heap) σ9 H9 P->tn (i+1) P.heap/\∀ b∈fp,H9 b=none:=λ{σ9 H9 P} I9=>
     ⟨T.keep _ _ _ st6 λb hb o e=>(I9.pin (b,o) (qaB _ (qaB _ (ca hb e)))).1,λb hb=>by
      obtain⟨o,e,_⟩:=T.obj _ _ st6 b hb
      exact (I9.pin (b,o) (qaB _ (qaB _ (ca hb e)))).2.1⟩
    cases ok with
    |false=>
     rw[iFN (by decide)]at q8;rw[iFN (by decide)];obtain⟨m',hm,w8⟩:=hN _ _ q8;exact⟨m',hm,i+1,E,its,k,H8,I8.unpinned.weak sb7.1 sb7.2,rv,(l I8).1,(l I8).2,hlen,w8⟩
    |true=>
     rw[iFP U]at q8;rw[iFP U];have E':=EE _ s8 σ7 H8 _ I8 q8;rw[hA,hP,hw,hE,hxe]at E';refine thn E' λy P ⟨v9,H9,I9,r9,n9⟩=>?_;obtain⟨m',hm,w9⟩:=hN _ _ n9;have O:=I9.pin (D,{ cls:=.type "list",data:=.seq its.toArray k }) (qaB _ (qa9 _ qag))
     have hl:=rv.length;have I9n:Inv X' [] σ7 H9 P:=I9.pins_of λp F=>nomatch F
     refine qcE qfV ⟨_,O.1,U⟩ qfH (qfu _ _) (qfE D its.toArray k y (by rw[qaE];lia)) ⟨O.1,?_⟩;have up:∃ k':Nat,(P.heap.update D (qcv λxs=>xs.push y)).get? D=some { cls:=.type "list",data:=.seq (its++[y]).toArray k' }:=by
      have q:=qfs O.1 (λxs:Array Value=>xs.push y);simp only[qh3]at q;exact⟨_,q⟩
     obtain⟨k',up⟩:=up;have hoth:∀ b o,b≠D->P.heap.get? b=some o->(P.heap.update D (qcv λxs=>xs.push y)).get? b=some o:=λb o hb e=>(qaQ P.heap _ (qbp hb)).trans e;have I10:=I9n.turned (t':=P.toks) hoth O.2.1 Dloc Dex Dcell (λp F=>absurd (show p∈([]:List (Addr×Obj)) by rw[<-d]at F;exact F) (by simp));refine⟨m',hm,i+1,E++[v9],its++[y],k',H9,(I10.weak sb7.1 sb7.2).pins_of (λp F=>?_),rv.append (.cons r9 .nil),T.keep _ _ _ (l I9).1 (λb hb o e=>hoth b o (by rw[<-hD];exact qaC (fplt b hb)) e),(l I9).2,?_,w9⟩
     ·have:=qan.mp F
      subst this;exact⟨up,O.2.1,Dloc,(pD.2.2.2.1),λv z=>by cases z⟩
     ·rw[qaA,qcx]
      lia
  ·rw[<-hlo.symm]
   exact I3
  ·exact T.keep _ _ _ R λb hb o e=>qdj _ _ b o (qaf _ (qaf _ e))
 refine qhZ ?_ ?_
 ·exact L _ U
 ·refine T.self X.A 0 _ _ _ (T.keep _ _ _ R λb hb o e=>qdj _ _ b o (qaf _ (qaf _ e))) ?_
  exact L _ U
end
def aw:Expr->Bool
 |.Starred _ _=>false
 |_=>true
theorem aO (h:aw e=true):qbA (e::es) env=(false,eval e env)::qbA es env :=by
 cases e<;>first|(cases h;done)|rfl
theorem bf :∀ {es},es.all aw=true->(qfq pos (qbA es env)).any (·.1)=false
 |[],_=>by simp[qbA,qfq]
 |e::es,h=>by
  rw[qbB,qaZ]at h;rw[aO h.1]
  have:=bf (pos:=pos) (env:=env) h.2
  unfold qfq at this ⊢;rw[qaz,qco,this];rfl
theorem oS (h:es.all aw=true) (a:es.length < 30):((qfq pos (qbA es env)).all (λx=>!x.1) && (qiK pos (qg1 [] env)).all (λx=>x.1.isSome)
   && decide (es.length+([]:List qiB).length+(if ([]:List qiB).isEmpty then 0 else 1)<30))=true :=by
 have c:(qfq pos (qbA es env)).all (λx=>!x.1)=true:=by
  have:=bf (pos:=pos) (env:=env) h
  rw[qaY];intro x hx;rw[qfN]at this;simpa using this x hx
 have b:(qiK pos (qg1 [] env)).all (λx=>x.1.isSome)=true:=by simp[qg1,qiK]
 rw[c,b];simpa using a
theorem fI (h:aw e=true):qbA [e] env=[(false,eval e env)] :=by rw[aO h];rfl
theorem oT (h:aw e=true) (b:aw a=true):qbA [e,a] env=[(false,eval e env),(false,eval a env)] :=by rw[aO h,fI b]
def AG:Expr->Bool
 |.UnaryOp .Not _ _=>false
 |.BoolOp _ _ _=>false
 |.IfExp _ _ _ _=>false
 |.Compare _ _ _ _=>false
 |_=>true
theorem za (h:AG a=true):∀ whole,PySem.isTrue a env whole=(do let v <-whole;qka a.pos;qfP [v] (truthy v)) :=by
 intro whole;cases a with
 |UnaryOp b x p=>cases b<;>first|(cases h;done)|rfl
 |BoolOp _ _ _=>cases h
 |IfExp _ _ _ _=>cases h
 |Compare _ _ _ _=>cases h
 |_=>rfl
theorem m8 (h:aw t=true):qb7 (t::a) env=(false,qgz t env)::qb7 a env :=by
 cases t<;>first|(cases h;done)|rfl
theorem lV :∀ {a},a.all aw=true->(qb7 a env).length=a.length
 |[],_=>by simp[qb7]
 |t::a,h=>by
  rw[qbB,qaZ]at h;rw[m8 h.1,qat,lV h.2,qat]
theorem jx :∀ {a},a.all aw=true->(qb7 a env).findIdx? (·.1)=none
 |[],_=>by simp[qb7]
 |t::a,h=>by
  rw[qbB,qaZ]at h;rw[m8 h.1,List.findIdx?_cons,jx h.2];rfl
theorem jy (h:aw t=true):(qb7 (t::a) env).map (·.2)=qgz t env::(qb7 a env).map (·.2) :=by rw[m8 h];rfl
theorem jz (h:aw t=true):(qb7 [t] env).map (·.2)=[qgz t env] :=by rw[jy h];simp[qb7]
def kW:Expr->Bool
 |.Slice _ _ _ _=>false
 |_=>true
theorem lW (h:kW i=true) (v):qgz (.Subscript o i pos) env v=(do
   let ov <-qfP [v] (eval o env)
   let iv <-qfP [v,ov] (eval i env)
   qka pos
   qfP [v,ov,iv] (qkc ov iv v)
   release [v,ov,iv] []) :=by
 cases i<;>first|(cases h;done)|rfl
theorem nZ (h:kW i=true):wj i :=by
 intro o j;cases i<;>first|(cases h;done)|rfl
inductive D where
 |non|bl (b:Bool)|int (i:Int)|str (x:Str)|ty (n:String)|dct|scr (ns:List Int)|tup (ds:List D)|lst (ds:List D)|ob (ns:List Str) (ds:List D)
 deriving Inhabited
inductive W where
 |d (x:D)|h (n:Nat)
 deriving Inhabited
inductive C where
 |l (ds:List D)|n (ws:List W)|m (kvs:List (List Int×D))|k (kvs:List (Int×D))|o (fs:List (Str×W))
 deriving Inhabited
abbrev Sto:=List C
noncomputable def lg (st:Sto) (n:Nat):Option (List D):=match st[n]? with
 |some (.l ds)=>some ds
 |_=>none
def gD (l:List Int):List Key:=l.map Sum.inl
abbrev Ev:=List (Option W)
def KLs (K:qae) (a:Addr) (xs:List V):Prop:=
 ∃ (o:Obj) (its:Array Value) (n:Nat),K.lookup a=some o/\o.cls=.type "list"/\o.dict=none/\o.data=.seq its n/\its.size<=qaF/\aG xs its.toList
section
variable (K:qae) (H:Hp) (φ:List Addr)
mutual
def Rl:D->V->Prop
 |.non,v=>v=.non
 |.bl b,v=>v=.bl b
 |.int i,v=>v=.int i
 |.str x,v=>v=.str x
 |.ty n,v=>v=.ty n
 |.dct,v=>∃ a,v=.ref a/\a∉φ/\((∃ d,H a=some (.dK d))\/∃ d,H a=some (.dT d))
 |.scr ns,v=>∃ a,v=.ref a/\((∃ o,H a=some (.frz o (.lst (ns.map V.int))))\/KLs K a (ns.map V.int))
 |.tup ds,v=>∃ a vs,v=.ref a/\H a=some (.tup vs)/\Rls ds vs
 |.lst ds,v=>∃ a vs,v=.ref a/\a∉φ/\Rd H a (.lst vs)/\Rls ds vs
 |.ob ns ds,v=>∃ a Cl dx fs vs,v=.ref a/\a∉φ/\H a=some (.ins Cl dx fs)/\fs=ns.zip vs/\ns.length=vs.length/\5<ns.length/\Cls K Cl/\(∀ f∈ns,b6 K Cl f)/\Rls ds vs
def Rls:List D->List V->Prop
 |[],vs=>vs=[]
 |d::ds,vs=>∃ v r,vs=v::r/\Rl d v/\Rls ds r
end
def Rw:W->V->Prop
 |.d x,v=>Rl K H φ x v
 |.h n,v=>∃ a,φ[n]?=some a/\v=.ref a
def Rws:List W->List V->Prop
 |[],vs=>vs=[]
 |d::ds,vs=>∃ v r,vs=v::r/\Rw K H φ d v/\Rws ds r
def Rkv:List (List Int×D)->List (List Key×V)->Prop
 |[],vs=>vs=[]
 |(k,d)::ds,vs=>∃ v r,vs=(gD k,v)::r/\Rl K H φ d v/\Rkv ds r
def Rkk:List (Int×D)->List (Key×V)->Prop
 |[],vs=>vs=[]
 |(k,d)::ds,vs=>∃ v r,vs=(Sum.inl k,v)::r/\Rl K H φ d v/\Rkk ds r
def Rfs:List (Str×W)->List (Str×V)->Prop
 |[],vs=>vs=[]
 |(k,d)::ds,vs=>∃ v r,vs=(k,v)::r/\Rw K H φ d v/\Rfs ds r
def Rc (k:Nat) (a:Addr):C->Prop
 |.l ds=>∃ vs,H a=some (.lst vs)/\Rls K H φ ds vs
 |.n ws=>∃ vs,H a=some (.lst vs)/\Rws K H φ ws vs/\∀ m,W.h m∈ws->m<k
 |.m e=>∃ vs,H a=some (.dT vs)/\Rkv K H φ e vs
 |.k e=>∃ vs,H a=some (.dK vs)/\Rkk K H φ e vs
 |.o fs=>∃ Cl dx vs,H a=some (.ins Cl dx vs)/\Rfs K H φ fs vs/\(∀ m,W.h m∈fs.map (·.2)->m<k)/\Cls K Cl/\∀ p∈fs,b6 K Cl p.1
structure Sr (st:Sto):Prop where
 nd:φ.Nodup
 len:φ.length=st.length
 at_:∀ (n:Nat) a c,φ[n]?=some a->st[n]?=some c->Rc K H φ n a c
structure Er (env:Ev) (σ:St):Prop where
 len:env.length=σ.length
 at_:∀ (i:Nat) w,env[i]?=some (some w)->∃ v,σ[i]?=some (some v)/\Rw K H φ w v
end
structure Fw (φ φ':List Addr) (H H':Hp):Prop where
 ext:∃ ψ,φ'=φ++ψ/\∀ a∈ψ,H a=none
 keep:∀ b o,b∉φ->H b=some o->H' b=some o
 there:∀ b o,H b=some o->∃ o',H' b=some o'
section
variable {K:qae}{H H1 H2 H':Hp}{φ A t φ':List Addr}{st R:Sto}
theorem Fw.refl (φ) (H):Fw φ φ H H :=⟨⟨[],by simp,by simp⟩,λ_ _ _ h=>h,λ_ o h=>⟨o,h⟩⟩
theorem Fw.trans (a:Fw φ A H H1) (b:Fw A t H1 H2):Fw φ t H H2:=by
 obtain⟨ψ,rfl,g⟩:=a.ext;obtain⟨O,rfl,j⟩:=b.ext;refine⟨⟨_,by rw[qbR],λc B=>?_⟩,λc o B h=>?_,λc o h=>?_⟩
 ·rcases qaT.mp B with z|z
  ·exact g c z
  ·cases q:H c with
   |none=>rfl
   |some o=>
    obtain⟨J,M⟩:=a.there c o q;rw[j c z]at M;cases M
 ·refine b.keep c o (λz=>?_) (a.keep c o B h)
  rcases qaT.mp z with z|z
  ·exact B z
  ·rw[g c z]at h;cases h
 ·obtain⟨J,q⟩:=a.there c o h
  exact b.there c J q
theorem Fw.same (s:aP H H'):Fw φ φ H H':=⟨⟨[],by simp,by simp⟩,λb o _ h=>s b o h,λb o h=>⟨o,s b o h⟩⟩
theorem Fw.new (F:H p=none):Fw φ φ H (upd H p o) :=.same (aP.new F o)
theorem Fw.get (f:Fw φ φ' H H') {n:Nat}(h:φ[n]?=some a):φ'[n]?=some a :=by
 obtain⟨ψ,rfl,_⟩:=f.ext;rw[qaH (qas.mp h).1];exact h
theorem Fw.nin (f:Fw φ φ' H H') (h:a∉φ) (q:H a=some o):a∉φ' :=by
 obtain⟨ψ,rfl,e⟩:=f.ext;intro z;rcases qaT.mp z with z|z
 ·exact h z
 ·rw[e a z]at q;cases q
def GC:HO->Bool
 |.lst _=>true
 |.dT _=>true
 |.dK _=>true
 |.ins _ _ _=>true
 |_=>false
theorem Rc.ob (h:Rc K H φ k a c):∃ o,H a=some o/\GC o=true :=by
 cases c with
 |l ds=>obtain⟨vs,q,_⟩:=h;exact⟨_,q,U⟩
 |n ds=>obtain⟨vs,q,_⟩:=h;exact⟨_,q,U⟩
 |m ds=>obtain⟨vs,q,_⟩:=h;exact⟨_,q,U⟩
 |k ds=>obtain⟨vs,q,_⟩:=h;exact⟨_,q,U⟩
 |o ds=>obtain⟨_,_,vs,q,_⟩:=h;exact⟨_,q,U⟩
theorem Sr.lst (S:Sr K H φ st) (h:a∈φ):∃ o,H a=some o/\GC o=true :=by
 obtain⟨n,hn,e⟩:=qcK.mp h;have Q:n<st.length:=by rw[<-S.len];exact hn
 exact (S.at_ n a st[n] (by rw[qai hn,e]) (by rw[qai Q])).ob
theorem wX (h:lg st n=some ds):st[n]?=some (.l ds) :=by
 unfold lg at h;split at h
 ·rename_i q;cases h;exact q
 ·cases h
theorem Sr.atl (S:Sr K H φ st) (n) (a) (ds) (g:φ[n]?=some a) (j:lg st n=some ds):∃ vs,H a=some (.lst vs)/\Rls K H φ ds vs :=S.at_ n a _ g (wX j)
theorem Sr.nin (S:Sr K H φ st) (h:H a=none):a∉φ :=λz=>by
 obtain⟨vs,q,_⟩:=S.lst z;rw[q]at h;cases h
theorem Rd.nin (S:Sr K H φ st) (h:Rd H a (.tup vs)):a∉φ :=λz=>by
 obtain⟨ws,q,qm⟩:=S.lst z;rcases h with h|⟨o,h⟩<;>(rw[q]at h;cases h;cases qm)
theorem Rd.fw (f:Fw φ φ' H H') (hn:a∉φ) (h:Rd H a u):Rd H' a u :=by
 rcases h with h|⟨o,h⟩
 ·exact .inl (f.keep _ _ hn h)
 ·exact .inr ⟨o,f.keep _ _ hn h⟩
theorem SqT.fw (S:Sr K H φ st) (f:Fw φ φ' H H') (h:SqT K H a vs):SqT K H' a vs :=by
 rcases h with h|h
 ·exact .inl (f.keep _ _ (Rd.nin S (.inl h)) h)
 ·exact .inr h
theorem Rd.some (h:Rd H a u):∃ o,H a=some o :=by
 rcases h with h|⟨o,h⟩
 ·exact⟨_,h⟩
 ·exact⟨_,h⟩
mutual
theorem Rl.fw (S:Sr K H φ st) (f:Fw φ φ' H H'):∀ {d:D}{v:V},Rl K H φ d v->Rl K H' φ' d v
 |.non,_,h=>h
 |.bl _,_,h=>h
 |.int _,_,h=>h
 |.str _,_,h=>h
 |.ty _,_,h=>h
 |.dct,_,h=>by
  obtain⟨a,rfl,hn,h⟩:=h;rcases h with⟨d,h⟩|⟨d,h⟩
  ·exact⟨a,U,f.nin hn h,.inl ⟨d,f.keep _ _ hn h⟩⟩
  ·exact⟨a,U,f.nin hn h,.inr ⟨d,f.keep _ _ hn h⟩⟩
 |.scr ns,_,h=>by
  obtain⟨a,rfl,h⟩:=h;refine⟨a,U,?_⟩;rcases h with⟨o,h⟩|h
  ·refine .inl ⟨o,f.keep _ _ (λz=>?_) h⟩
   obtain⟨ws,q,qm⟩:=S.lst z;rw[q]at h;cases h;cases qm
  ·exact .inr h
 |.tup ds,_,h=>by
  obtain⟨a,vs,rfl,h1,h2⟩:=h;exact⟨a,vs,U,f.keep _ _ (Rd.nin S (.inl h1)) h1,Rls.fw S f h2⟩
 |.lst ds,_,h=>by
  obtain⟨a,vs,rfl,h0,h1,h2⟩:=h;obtain⟨o,e⟩:=h1.some;exact⟨a,vs,U,f.nin h0 e,h1.fw f h0,Rls.fw S f h2⟩
 |.ob ns ds,_,h=>by
  obtain⟨a,Cl,dx,fs,vs,rfl,h0,h1,h2,h3,h4,h5,h7,h6⟩:=h;exact⟨a,Cl,dx,fs,vs,U,f.nin h0 h1,f.keep _ _ h0 h1,h2,h3,h4,h5,h7,Rls.fw S f h6⟩
theorem Rls.fw (S:Sr K H φ st) (f:Fw φ φ' H H'):∀ {ds:List D}{vs:List V},Rls K H φ ds vs->Rls K H' φ' ds vs
 |[],_,h=>h
 |d::ds,_,h=>by
  obtain⟨v,r,rfl,h1,h2⟩:=h;exact⟨v,r,U,Rl.fw S f h1,Rls.fw S f h2⟩
end
theorem Rw.fw (S:Sr K H φ st) (f:Fw φ φ' H H') (h:Rw K H φ w v):Rw K H' φ' w v :=by
 cases w with
 |d x=>exact Rl.fw S f h
 |h n=>obtain⟨a,e,rfl⟩:=h;exact⟨a,f.get e,U⟩
theorem Rws.fw (S:Sr K H φ st) (f:Fw φ φ' H H'):∀ {ws:List W}{vs:List V},Rws K H φ ws vs->Rws K H' φ' ws vs
 |[],_,h=>h
 |d::ds,_,h=>by
  obtain⟨v,r,rfl,h1,h2⟩:=h;exact⟨v,r,U,h1.fw S f,Rws.fw S f h2⟩
theorem Er.fw (S:Sr K H φ st) (f:Fw φ φ' H H') (h:Er K H φ env I):Er K H' φ' env I :=
 ⟨h.len,λi w e=>let ⟨v,g,r⟩:=h.at_ i w e;⟨v,g,r.fw S f⟩⟩
theorem Rkv.fw (S:Sr K H φ st) (f:Fw φ φ' H H'):∀ {ds:List (List Int×D)}{vs:List (List Key×V)},Rkv K H φ ds vs->Rkv K H' φ' ds vs
 |[],_,h=>h
 |(k,d)::ds,_,h=>by
  obtain⟨v,r,rfl,h1,h2⟩:=h;exact⟨v,r,U,Rl.fw S f h1,Rkv.fw S f h2⟩
theorem Rkk.fw (S:Sr K H φ st) (f:Fw φ φ' H H'):∀ {ds:List (Int×D)}{vs:List (Key×V)},Rkk K H φ ds vs->Rkk K H' φ' ds vs
 |[],_,h=>h
 |(k,d)::ds,_,h=>by
  obtain⟨v,r,rfl,h1,h2⟩:=h;exact⟨v,r,U,Rl.fw S f h1,Rkk.fw S f h2⟩
theorem Rfs.fw (S:Sr K H φ st) (f:Fw φ φ' H H'):∀ {ds:List (Str×W)}{vs:List (Str×V)},Rfs K H φ ds vs->Rfs K H' φ' ds vs
 |[],_,h=>h
 |(k,d)::ds,_,h=>by
  obtain⟨v,r,rfl,h1,h2⟩:=h;exact⟨v,r,U,h1.fw S f,Rfs.fw S f h2⟩
theorem Rc.fw (S:Sr K H φ st) (f:Fw φ φ' H H') (e:∀ o,H a=some o->H' a=some o) (h:Rc K H φ k a c):Rc K H' φ' k a c :=by
 cases c with
 |l ds=>obtain⟨vs,q,r⟩:=h;exact⟨vs,e _ q,r.fw S f⟩
 |n ds=>obtain⟨vs,q,r,b⟩:=h;exact⟨vs,e _ q,r.fw S f,b⟩
 |m ds=>obtain⟨vs,q,r⟩:=h;exact⟨vs,e _ q,r.fw S f⟩
 |k ds=>obtain⟨vs,q,r⟩:=h;exact⟨vs,e _ q,r.fw S f⟩
 |o ds=>obtain⟨Cl,dx,vs,q,r,b⟩:=h;exact⟨Cl,dx,vs,e _ q,r.fw S f,b⟩
theorem Sr.same (S:Sr K H φ st) (s:aP H H'):Sr K H' φ st:=
 ⟨S.nd,S.len,λn a c g j=>(S.at_ n a c g j).fw S (Fw.same s) λo h=>s _ _ h⟩
theorem Sr.new (S:Sr K H φ st) (F:H p=none):Sr K (upd H p o) φ st :=S.same (aP.new F o)
theorem Rls.length:∀ {ds:List D}{vs:List V},Rls K H φ ds vs->ds.length=vs.length
 |[],_,h=>by cases h;rfl
 |d::ds,_,h=>by
  obtain⟨v,r,rfl,h1,h2⟩:=h;rw[qat,qat,Rls.length h2]
theorem Rws.length:∀ {ds:List W}{vs:List V},Rws K H φ ds vs->ds.length=vs.length
 |[],_,h=>by cases h;rfl
 |d::ds,_,h=>by
  obtain⟨v,r,rfl,h1,h2⟩:=h;rw[qat,qat,Rws.length h2]
theorem Rls.append:∀ {ds es:List D}{vs N:List V},Rls K H φ ds vs->Rls K H φ es N->Rls K H φ (ds++es) (vs++N)
 |[],_,_,_,h,h'=>by cases h;exact h'
 |d::ds,_,_,_,h,h'=>by
  obtain⟨v,r,rfl,h1,h2⟩:=h;exact⟨v,_,U,h1,Rls.append h2 h'⟩
theorem Rls.get:∀ {ds:List D}{vs:List V},Rls K H φ ds vs->∀ {i:Nat}{d:D},ds[i]?=some d->∃ v,vs[i]?=some v/\Rl K H φ d v
 |[],_,h,i,d,e=>by simp at e
 |d::ds,_,h,i,e,q=>by
  obtain⟨v,r,rfl,h1,h2⟩:=h;cases i with
  |zero=>simp at q;subst q;exact⟨v,U,h1⟩
  |succ i=>simpa using Rls.get h2 (by simpa using q)
theorem Rls.take:∀ {ds:List D}{vs:List V} (n:Nat),Rls K H φ ds vs->Rls K H φ (ds.take n) (vs.take n)
 |_,_,0,_=>by exact U
 |[],_,n+1,h=>by cases h;exact U
 |d::ds,_,n+1,h=>by
  obtain⟨v,r,rfl,h1,h2⟩:=h;exact⟨v,_,U,h1,Rls.take n h2⟩
theorem Rls.drop:∀ {ds:List D}{vs:List V} (n:Nat),Rls K H φ ds vs->Rls K H φ (ds.drop n) (vs.drop n)
 |_,_,0,h=>h
 |[],_,n+1,h=>by cases h;exact U
 |d::ds,_,n+1,h=>by
  obtain⟨v,r,rfl,h1,h2⟩:=h;exact Rls.drop n h2
theorem Rls.set:∀ {ds:List D}{vs:List V} (n:Nat) {d:D}{v:V},Rls K H φ ds vs->Rl K H φ d v->Rls K H φ (ds.set n d) (vs.set n v)
 |[],_,_,_,_,h,_=>by cases h;exact U
 |e::ds,_,0,d,v,h,hd=>by
  obtain⟨u,r,rfl,h1,h2⟩:=h;exact⟨v,r,U,hd,h2⟩
 |e::ds,_,n+1,d,v,h,hd=>by
  obtain⟨u,r,rfl,h1,h2⟩:=h;exact⟨u,_,U,h1,Rls.set n h2 hd⟩
theorem Rls.rep (h:Rls K H φ ds vs):∀ k,Rls K H φ (qaG k ds).flatten (qaG k vs).flatten
 |0=>rfl
 |k+1=>by exact h.append (Rls.rep h k)
theorem Rls.ints:∀ {ns:List Int}{vs},Rls K H φ (ns.map D.int) vs->vs=ns.map V.int
 |[],_,h=>h
 |n::ns,_,h=>by
  obtain⟨v,r,rfl,h1,h2⟩:=h;rw[h1,Rls.ints h2];rfl
theorem Rls.bools:∀ {ns:List Bool}{vs},Rls K H φ (ns.map D.bl) vs->vs=ns.map V.bl
 |[],_,h=>h
 |n::ns,_,h=>by
  obtain⟨v,r,rfl,h1,h2⟩:=h;rw[h1,Rls.bools h2];rfl
theorem Rls.of_ints:∀ (ns:List Int),Rls K H φ (ns.map D.int) (ns.map V.int)
 |[]=>rfl
 |n::ns=>⟨_,_,U,U,Rls.of_ints ns⟩
theorem Rl.less {ψ:List Addr}:∀ {d:D}{v:V},Rl K H (φ++ψ) d v->Rl K H φ d v:=by
 intro d v;refine (?_:∀ v,Rl K H _ d v->Rl K H φ d v) v;refine D.rec (motive_2:=λds=>∀ vs,Rls K H (φ++ψ) ds vs->Rls K H φ ds vs) ?_ ?_ ?_ ?_ ?_ ?_ ?_ ?_ ?_ ?_ ?_ ?_ d
 ·exact λv h=>h
 ·exact λb v h=>h
 ·exact λb v h=>h
 ·exact λb v h=>h
 ·exact λb v h=>h
 ·rintro v ⟨a,e,hn,h⟩;exact⟨a,e,λz=>hn (qa9 _ z),h⟩
 ·exact λns v h=>h
 ·rintro ds y v ⟨a,vs,rfl,h1,h2⟩;exact⟨a,vs,U,h1,y vs h2⟩
 ·rintro ds y v ⟨a,vs,rfl,h0,h1,h2⟩;exact⟨a,vs,U,λz=>h0 (qa9 _ z),h1,y vs h2⟩
 ·rintro ns ds y v ⟨a,Cl,dx,fs,vs,rfl,h0,h1,h2,h3,h4,h5,h7,h6⟩;exact⟨a,Cl,dx,fs,vs,U,λz=>h0 (qa9 _ z),h1,h2,h3,h4,h5,h7,y vs h6⟩
 ·exact λvs h=>h
 ·rintro d ds G E vs ⟨v,r,rfl,h1,h2⟩;exact⟨v,r,U,G v h1,E r h2⟩
theorem Rls.less {ψ:List Addr}:∀ {ds:List D}{vs:List V},Rls K H (φ++ψ) ds vs->Rls K H φ ds vs
 |[],_,h=>h
 |d::ds,_,h=>by
  obtain⟨v,r,rfl,h1,h2⟩:=h;exact⟨v,r,U,Rl.less h1,Rls.less h2⟩
theorem Rkv.less {ψ:List Addr}:∀ {ds:List (List Int×D)}{vs:List (List Key×V)},Rkv K H (φ++ψ) ds vs->Rkv K H φ ds vs
 |[],_,h=>h
 |(k,d)::ds,_,h=>by
  obtain⟨v,r,rfl,h1,h2⟩:=h;exact⟨v,r,U,Rl.less h1,Rkv.less h2⟩
theorem Rkk.less {ψ:List Addr}:∀ {ds:List (Int×D)}{vs:List (Key×V)},Rkk K H (φ++ψ) ds vs->Rkk K H φ ds vs
 |[],_,h=>h
 |(k,d)::ds,_,h=>by
  obtain⟨v,r,rfl,h1,h2⟩:=h;exact⟨v,r,U,Rl.less h1,Rkk.less h2⟩
theorem Rws.less :∀ {ds}{vs},(∀ m,W.h m∈ds->m<φ.length)->Rws K H (φ++ψ) ds vs->Rws K H φ ds vs
 |[],_,_,h=>h
 |d::ds,_,hm,h=>by
  obtain⟨v,r,rfl,h1,h2⟩:=h;refine⟨v,r,U,?_,Rws.less (λm z=>hm m (qaj _ z)) h2⟩;cases d with
  |d x=>exact Rl.less h1
  |h m=>
   obtain⟨a,e,rfl⟩:=h1;rw[qaH (hm m qag)]at e;exact⟨a,e,U⟩
theorem Rfs.less {ψ:List Addr}:∀ {ds:List (Str×W)}{vs:List (Str×V)},(∀ m,W.h m∈ds.map (·.2)->m<φ.length)->Rfs K H (φ++ψ) ds vs->Rfs K H φ ds vs
 |[],_,_,h=>h
 |(k,d)::ds,_,hm,h=>by
  obtain⟨v,r,rfl,h1,h2⟩:=h;refine⟨v,r,U,?_,Rfs.less (λm z=>hm m (qaj _ z)) h2⟩;cases d with
  |d x=>exact Rl.less h1
  |h m=>
   obtain⟨a,e,rfl⟩:=h1;rw[qaH (hm m qag)]at e;exact⟨a,e,U⟩
theorem Rc.less (L:k<φ.length) (h:Rc K H (φ++ψ) k a c):Rc K H φ k a c :=by
 cases c with
 |l ds=>obtain⟨vs,q,r⟩:=h;exact⟨vs,q,r.less⟩
 |n ds=>obtain⟨vs,q,r,b⟩:=h;exact⟨vs,q,r.less λm z=>qel (b m z) L,b⟩
 |m ds=>obtain⟨vs,q,r⟩:=h;exact⟨vs,q,r.less⟩
 |k ds=>obtain⟨vs,q,r⟩:=h;exact⟨vs,q,r.less⟩
 |o ds=>obtain⟨Cl,dx,vs,q,r,b,c⟩:=h;exact⟨Cl,dx,vs,q,r.less λm z=>qel (b m z) L,b,c⟩
theorem Sr.less (S:Sr K H (φ++ψ) st):Sr K H φ (st.take φ.length) :=by
 have P:=S.len;rw[qaA]at P;refine⟨(qcN.mp S.nd).1,by rw[qdU];lia,λn a ds g j=>?_⟩;have hn:=(qas.mp g).1;rw[qex hn]at j;exact (S.at_ n a ds (by rw[qaH hn];exact g) j).less hn
end
abbrev Ef:=Ev->Sto->Option (W×Sto)
abbrev Af:=Ev->Sto->Option (List W×Sto)
abbrev Tf:=Ev->Sto->Option (Bool×Sto)
abbrev Lf:=Ev->Sto->Option (List D×Sto)
abbrev Fn:=List W->Sto->Option (W×Sto)
section
variable (K:qae)
def tI (env:Ev) (st:Sto) (r:W×Sto):TE:=λh H Q=>∃ φ,Er K H φ env h/\Sr K H φ st/\∀ v H' b,Fw φ b H H'->Sr K H' b r.2->Rw K H' b r.1 v->Q v H'
def tIA (env:Ev) (st:Sto) (r:List W×Sto):TA:=λh H Q=>∃ φ,Er K H φ env h/\Sr K H φ st/\∀ c H' b,Fw φ b H H'->Sr K H' b r.2->Rws K H' b r.1 c->Q c H'
def tIT (env:Ev) (st:Sto) (r:Bool×Sto):TT:=λh H Q=>∃ φ,Er K H φ env h/\Sr K H φ st/\∀ H' b,Fw φ b H H'->Sr K H' b r.2->Q r.1 H'
def tIL (env:Ev) (st:Sto) (r:List D×Sto):TE:=λh H Q=>∃ φ,Er K H φ env h/\Sr K H φ st/\∀ a c H1 b,Fw φ b H H1->Sr K H1 b r.2->H1 a=none->Rls K H1 b r.1 c->Q (.ref a) (upd H1 a (.lst c))
structure IE (X:Cx) (e:Expr) (f:Ef):Prop where
 run:∀ env st r,f env st=some r->PE X e (tI K env st r)
structure IA (X:Cx) (es:List Expr) (f:Af):Prop where
 run:∀ env st r,f env st=some r->PA X es (tIA K env st r)
structure IT (X:Cx) (e:Expr) (f:Tf):Prop where
 run:∀ env st r,f env st=some r->PT X e (tIT K env st r)
structure ITW (X:Cx) (e:Expr) (f:Tf):Prop where
 run:∀ env st r,f env st=some r->PW X e (tIT K env st r)
structure IL (X:Cx) (e:Expr) (f:Lf):Prop where
 run:∀ env st r,f env st=some r->PE X e (tIL K env st r)
def rD (st:Sto) (x y:W) (d:D):R2:=λk j H Q=>∃ φ,Sr K H φ st/\Rw K H φ x k/\Rw K H φ y j/\∀ v H',aP H H'->Rl K H' φ d v->Q v H'
structure OpD (X:Cx) (f:Value->Value->Sem Value) (g:Sto->W->W->Option D):Prop where
 run:∀ st x y d,g st x y=some d->OpR X f (rD K st x y d)
def rCD (st:Sto) (ws:List W) (d:D):List V->Hp->VK->Prop:=λc H Q=>∃ φ,Sr K H φ st/\Rws K H φ ws c/\∀ v H',aP H H'->Rl K H' φ d v->Q v H'
structure cP (X:Cx) (f:Value) (g:Sto->List W->Option D):Prop where
 run:∀ st ws d,g st ws=some d->a7 X f (rCD K st ws d)
def rCL (st:Sto) (ws:List W) (ds:List D):List V->Hp->VK->Prop:=λc H Q=>∃ φ,Sr K H φ st/\Rws K H φ ws c/\∀ a i H1,aP H H1->H1 a=none->Rls K H1 φ ds i->Q (.ref a) (upd H1 a (.lst i))
structure tj (X:Cx) (f:Value) (g:Sto->List W->Option (List D)):Prop where
 run:∀ st ws d,g st ws=some d->a7 X f (rCL K st ws d)
end
noncomputable def iV (i:Nat):Ef
 |env,st=>(env.getD i none).map λw=>(w,st)
def iC (d:D):Ef
 |_,st=>some (.d d,st)
def iOp (g:Sto->W->W->Option D) (a b:Ef):Ef
 |env,st=>(a env st).bind λx=>(b env x.2).bind λy=>(g y.2 x.1 y.1).map λd=>(.d d,y.2)
def yc:D->Option Bool
 |.bl b=>some b
 |_=>none
def blW:W->Option Bool
 |.d (.bl b)=>some b
 |_=>none
def aE (g:Sto->W->W->Option D) (a b:Ef):Tf
 |env,st=>(a env st).bind λx=>(b env x.2).bind λy=>(g y.2 x.1 y.1).bind λd=>(yc d).map λk=>(k,y.2)
def iUn (g:W->Option D) (a:Ef):Ef
 |env,st=>(a env st).bind λx=>(g x.1).map λd=>(.d d,x.2)
def nF (a b:Ef):Ef
 |env,st=>(a env st).bind λx=>(blW x.1).bind λk=>if k=true then b env x.2 else some (.d (.bl false),x.2)
def eY (c:Tf) (a b:Ef):Ef
 |env,st=>(c env st).bind λr=>if r.1=true then a env r.2 else b env r.2
def df (c:Tf):Tf
 |env,st=>(c env st).map λr=>(!r.1,r.2)
def dL (a b:Tf):Tf
 |env,st=>(a env st).bind λr=>if r.1=true then b env r.2 else some (false,r.2)
def dM (a b:Tf):Tf
 |env,st=>(a env st).bind λr=>if r.1=true then some (true,r.2) else b env r.2
def bX (g:Sto->W->Option Bool) (a:Ef):Tf
 |env,st=>(a env st).bind λx=>(g x.2 x.1).map λk=>(k,x.2)
def ae:Af
 |_,st=>some ([],st)
def aa (a:Ef) (r:Af):Af
 |env,st=>(a env st).bind λx=>(r env x.2).map λy=>(x.1::y.1,y.2)
def iCB (g:Sto->List W->Option D) (a:Af):Ef
 |env,st=>(a env st).bind λr=>(g r.2 r.1).map λd=>(.d d,r.2)
def iCL (g:Sto->List W->Option (List D)) (a:Af):Lf
 |env,st=>(a env st).bind λr=>(g r.2 r.1).map λd=>(d,r.2)
def az (m:Fn) (a:Af):Ef
 |env,st=>(a env st).bind λr=>m r.1 r.2
def qP:List W->Option (List D)
 |[]=>some []
 |.d x::ws=>(qP ws).map λr=>x::r
 |.h _::_=>none
def a8 (a:Af):Ef
 |env,st=>(a env st).bind λr=>(qP r.1).bind λds=>if ds.length<=1000 then some (.d (.tup ds),r.2) else none
def bm (a:Af):Lf
 |env,st=>(a env st).bind λr=>(qP r.1).bind λds=>if ds.length<=1000 then some (ds,r.2) else none
def ap (a:Lf):Ef
 |env,st=>(a env st).map λr=>(.d (.lst r.1),r.2)
def bR (a:Lf):Ef
 |env,st=>(a env st).map λr=>(.h r.2.length,r.2++[.l r.1])
section
variable {K:qae}{X:Cx}{e a b c:Expr}{es:List Expr}{pos:Pos}{f fa fb fc:Ef}
theorem PE.imp (h:PE X e t) (m:∀ E H Q,t' E H Q->t E H Q):PE X e t' :=λM s E H Q I q=>h M s E H Q I (m E H Q q)
theorem PT.imp (h:PT X e t) (m:∀ E H Q,t' E H Q->t E H Q):PT X e t' :=λM s E H Q I q=>h M s E H Q I (m E H Q q)
theorem PW.imp (h:PW X e t) (m:∀ E H Q,t' E H Q->t E H Q):PW X e t' :=λwh M s E H Q I q=>h wh M s E H Q I (m E H Q q)
theorem PA.imp (h:PA X es t) (m:∀ E H Q,t' E H Q->t E H Q):PA X es t' :=λpos M s E H Q I q=>h pos M s E H Q I (m E H Q q)
theorem OpR.imp (h:OpR X g r) (m:∀ x y H Q,r' x y H Q->r x y H Q):OpR X g r' :=λM s E H x y v u Q I rx ry q=>h M s E H x y v u Q I rx ry (m _ _ _ _ q)
theorem a7.imp (h:a7 X g r) (m:∀ xs H Q,r' xs H Q->r xs H Q):a7 X g r' :=λM s E H xs us Q I rx q=>h M s E H xs us Q I rx (m _ _ _ q)
theorem oE:PE X e (λ_ _ _=>False):=λ_ _ _ _ _ _ q=>q.elim
theorem uG:PW X e (λ_ _ _=>False):=λ_ _ _ _ _ _ _ q=>q.elim
theorem Eg {t:TE} (h:PE X (.Name x pos) (uQ i)):IE K X (.Name x pos) (iV i) :=by
 refine⟨λenv st r A=>?_⟩;obtain⟨w,hw,rfl⟩:=qad.mp A;refine h.imp ?_
 rintro E H Q ⟨φ,G,B,q⟩
 have hi:env[i]?=some (some w):=by
  rw[qgm]at hw;cases q:env[i]? with
  |none=>rw[q]at hw;cases hw
  |some o=>rw[q]at hw;rw[show o=some w from hw]
 obtain⟨v,e1,r⟩:=G.at_ i w hi;exact⟨v,e1,q v H φ (Fw.refl φ H) B r⟩
theorem iv (i) (hN:X.N[i]?=some x:=by rfl) (hv:Vis X.env.scope x:=by first|exact Or.inl U|exact Or.inr _|exact Or.inr _) (hd:(x==("__debug__"))=false:=by decide)
  (hcd:(x==("__classdict__"))=false:=by decide):IE K X (.Name x pos) (iV i) :=Eg (t:=uQ i) (jq hN hv hd hcd)
theorem zR (h:PE X e (tC v)) (r:∀ H φ,Rl K H φ d v):IE K X e (iC d) :=by
 refine⟨λenv st r A=>?_⟩;cases A;refine h.imp ?_
 rintro E H Q ⟨φ,G,B,q⟩
 exact q v H φ (Fw.refl φ H) B (r H φ)
theorem kL :IE K X (.Constant (.int i) j pos) (iC (.int i)) :=zR EY λ_ _=>rfl
theorem wF :IE K X (.Constant (.bool i) j pos) (iC (.bl i)) :=zR GN λ_ _=>rfl
theorem rg :IE K X (.Constant .none j pos) (iC .non) :=zR EZ λ_ _=>rfl
theorem rm :IE K X (.Constant (.str x) j pos) (iC (.str x)) :=zR E2 λ_ _=>rfl
theorem sS {st}(h:tI K env st (.d d,y.2) E H Q):tOp (rD K y.2 x.1 y.1 d) (tI K env st x) (tI K env x.2 y) E H Q :=by
 obtain⟨φ,G,B,q⟩:=h;refine⟨φ,G,B,λv H1 z J s1 P=>⟨z,G.fw B J,s1,λu H2 O R s2 w2=>⟨O,s2,P.fw s1 R,w2,λv3 H3 f3 w3=>?_⟩⟩⟩;exact q v3 H3 O ((J.trans R).trans (Fw.same f3)) (s2.same f3) w3
theorem nK (ho:OpD K X (qbP op) g) (N:IE K X a fa) (hb:IE K X b fb):IE K X (.BinOp a op b pos) (iOp g fa fb) :=by
 refine⟨λenv st r A=>?_⟩;simp only[iOp,qab,qad]at A;obtain⟨x,hx,y,Y,d,hd,rfl⟩:=A;exact (DF (ho.run _ _ _ _ hd) (N.run _ _ _ hx) (hb.run _ _ _ Y)).imp λE H Q h=>sS h
theorem qX (ho:OpD K X (qb6 op) g) (N:IE K X a fa) (hb:IE K X b fb) (hm:qga op b=false):IE K X (.Compare a [op] [b] pos) (iOp g fa fb) :=by
 refine⟨λenv st r A=>?_⟩;simp only[iOp,qab,qad]at A;obtain⟨x,hx,y,Y,d,hd,rfl⟩:=A;exact (CG (ho.run _ _ _ _ hd) (N.run _ _ _ hx) (hb.run _ _ _ Y) hm).imp λE H Q h=>sS h
theorem yd (h:yc d=some k):d=.bl k :=by
 cases d<;>first|(cases h;done)|(injection h with h;subst h;rfl)
theorem zt (h:blW d=some k):d=.d (.bl k) :=by
 cases d with
 |h n=>cases h
 |d x=>cases x<;>first|(cases h;done)|(injection h with h;subst h;rfl)
theorem rM (ho:OpD K X (qb6 op) g) (N:IE K X a fa) (hb:IE K X b fb) (hm:qga op b=false):IT K X (.Compare a [op] [b] pos) (aE g fa fb) :=by
 refine⟨λenv st r A=>?_⟩;simp only[aE,qab,qad]at A;obtain⟨x,hx,y,Y,d,hd,k,hk,rfl⟩:=A;cases yd hk;refine (CT (ho.run _ _ _ _ hd) (N.run _ _ _ hx) (hb.run _ _ _ Y) hm).imp λE H Q h=>?_;obtain⟨φ,G,B,q⟩:=h;refine sS ⟨φ,G,B,λv H1 z J s1 P=>⟨k,P,q H1 z J s1⟩⟩
def gA:W->Option D
 |.d (.int i)=>some (.int (-i))
 |_=>none
theorem nJ (N:IE K X a fa):IE K X (.UnaryOp .USub a pos) (iUn gA fa):=by
 refine⟨λenv st r A=>?_⟩;simp only[iUn,qab,qad]at A;obtain⟨⟨x,s1⟩,hx,d,hd,rfl⟩:=A;cases x with
 |h n=>cases hd
 |d x=>
  cases x with
  |int i=>
   cases hd;refine (GP FJ (N.run _ _ _ hx)).imp ?_
   rintro E H Q ⟨φ,G,B,q⟩
   exact⟨φ,G,B,λv H1 z J s1 P=>⟨i,P,q _ H1 z J s1 U⟩⟩
  |_=>cases hd
theorem rh (h:IE K X a fa):IE K X (.BoolOp op [a] pos) fa :=⟨λenv st r A=>E1 (h.run env st r A)⟩
theorem qW (N:IE K X a fa) (hb:IE K X (.BoolOp .And (b::rest) pos) fb):IE K X (.BoolOp .And (a::b::rest) pos) (nF fa fb) :=by
 refine⟨λenv st r A=>?_⟩;simp only[nF,qab]at A;obtain⟨x,hx,k,hk,A⟩:=A;have e:=zt hk;cases k with
 |false=>
  cases A;refine (At (N.run _ _ _ hx) oE).imp ?_
  rintro E H Q ⟨φ,G,B,q⟩
  refine⟨φ,G,B,λv H1 z J s1 P=>⟨false,by rw[e]at P;exact P,?_⟩⟩;exact q _ H1 z J s1 U
 |true=>
  refine (At (N.run _ _ _ hx) (hb.run _ _ _ A)).imp ?_
  rintro E H Q ⟨φ,G,B,q⟩
  refine⟨φ,G,B,λv H1 z J s1 P=>⟨true,by rw[e]at P;exact P,?_⟩⟩;exact⟨z,G.fw B J,s1,λu H2 O R s2 w2=>q u H2 O (J.trans R) s2 w2⟩
variable {ta tb:Tf}
theorem rO (N:IT K X a ta):IT K X (.UnaryOp .Not a pos) (df ta):=by
 refine⟨λenv st r A=>?_⟩;simp only[df,qad]at A;obtain⟨x,hx,rfl⟩:=A;refine (E9 (N.run _ _ _ hx)).imp ?_
 rintro E H Q ⟨φ,G,B,q⟩
 exact⟨φ,G,B,λH1 z J s1=>q H1 z J s1⟩
theorem Eo (h:ITW K X a ta):IT K X a ta:=⟨λenv st r A=>(h.run env st r A).pt⟩
theorem jW (h:IT K X a ta):ITW K X (.BoolOp .And [a] pos) ta:=⟨λenv st r A=>CW (h.run env st r A)⟩
theorem mI (h:IT K X a ta):ITW K X (.BoolOp .Or [a] pos) ta:=⟨λenv st r A=>Fb (h.run env st r A)⟩
theorem mH (N:IT K X a ta) (hb:ITW K X (.BoolOp .And (b::rest) pos) tb):ITW K X (.BoolOp .And (a::b::rest) pos) (dL ta tb) :=by
 refine⟨λenv st r A=>?_⟩;simp only[dL,qab]at A;obtain⟨⟨k,s1⟩,hx,A⟩:=A;cases k with
 |false=>
  cases A;refine (AS (N.run _ _ _ hx) uG).imp ?_
  rintro E H Q ⟨φ,G,B,q⟩
  refine⟨φ,G,B,λH1 z J s1=>?_⟩;exact q H1 z J s1
 |true=>
  refine (AS (N.run _ _ _ hx) (hb.run _ _ _ A)).imp ?_
  rintro E H Q ⟨φ,G,B,q⟩
  refine⟨φ,G,B,λH1 z J s1=>?_⟩;exact⟨z,G.fw B J,s1,λH2 O R s2=>q H2 O (J.trans R) s2⟩
theorem rQ (N:IT K X a ta) (hb:ITW K X (.BoolOp .Or (b::rest) pos) tb):ITW K X (.BoolOp .Or (a::b::rest) pos) (dM ta tb) :=by
 refine⟨λenv st r A=>?_⟩;simp only[dM,qab]at A;obtain⟨⟨k,s1⟩,hx,A⟩:=A;cases k with
 |true=>
  cases A;refine (DH (N.run _ _ _ hx) uG).imp ?_
  rintro E H Q ⟨φ,G,B,q⟩
  refine⟨φ,G,B,λH1 z J s1=>?_⟩;exact q H1 z J s1
 |false=>
  refine (DH (N.run _ _ _ hx) (hb.run _ _ _ A)).imp ?_
  rintro E H Q ⟨φ,G,B,q⟩
  refine⟨φ,G,B,λH1 z J s1=>?_⟩;exact⟨z,G.fw B J,s1,λH2 O R s2=>q H2 O (J.trans R) s2⟩
theorem wH (hc:IT K X c tc) (N:IE K X a fa) (hb:IE K X b fb):IE K X (.IfExp c a b pos) (eY tc fa fb) :=by
 refine⟨λenv st r A=>?_⟩;simp only[eY,qab]at A;obtain⟨⟨k,s1⟩,hx,A⟩:=A;cases k with
 |true=>
  refine (uA (hc.run _ _ _ hx) (N.run _ _ _ A) oE).imp ?_
  rintro E H Q ⟨φ,G,B,q⟩
  refine⟨φ,G,B,λH1 z J s1=>?_⟩;exact⟨z,G.fw B J,s1,λu H2 O R s2 w2=>q u H2 O (J.trans R) s2 w2⟩
 |false=>
  refine (uA (hc.run _ _ _ hx) oE (hb.run _ _ _ A)).imp ?_
  rintro E H Q ⟨φ,G,B,q⟩
  refine⟨φ,G,B,λH1 z J s1=>?_⟩;exact⟨z,G.fw B J,s1,λu H2 O R s2 w2=>q u H2 O (J.trans R) s2 w2⟩
def gG (st:Sto):W->Option (List D)
 |.d (.tup ds)=>some ds
 |.d (.lst ds)=>some ds
 |.d (.scr ns)=>some (ns.map D.int)
 |.h n=>lg st n
 |_=>none
theorem uK {st}(S:Sr K H φ st) (r:Rw K H φ w v) (e:gG st w=some ds):∃ a L,v=.ref a/\(SqL K H a L\/H a=some (.tup L))/\Rls K H φ ds L :=by
 cases w with
 |h n=>
  obtain⟨a,ea,rfl⟩:=r;obtain⟨L,q,rl⟩:=S.atl n a ds ea e;exact⟨a,L,U,.inl (SqL.of q),rl⟩
 |d x=>
  cases x with
  |tup es=>cases e;obtain⟨a,L,rfl,h1,h2⟩:=r;exact⟨a,L,U,.inr h1,h2⟩
  |lst es=>cases e;obtain⟨a,L,rfl,h0,h1,h2⟩:=r;exact⟨a,L,U,.inl (.inl h1),h2⟩
  |scr ns=>
   cases e;obtain⟨a,rfl,h⟩:=r;refine⟨a,_,U,.inl ?_,Rls.of_ints ns⟩;rcases h with⟨o,h⟩|h
   ·exact .inl (.inr ⟨o,h⟩)
   ·exact .inr h
  |_=>cases e
theorem iP {st}(S:Sr K H φ st) (r:Rw K H φ w v) (e:gG st w=some ds):∃ a L,v=.ref a/\(SqL K H a L\/SqT K H a L)/\Rls K H φ ds L :=by
 obtain⟨a,L,h0,h1,h2⟩:=uK S r e;exact⟨a,L,h0,h1.imp id SqT.of,h2⟩
def cb (st:Sto):W->Option Bool
 |.d .non=>some false
 |.d (.bl b)=>some b
 |.d (.int i)=>some (i != 0)
 |w=>(gG st w).map λds=>!ds.isEmpty
theorem Dh {st}(S:Sr K H φ st) (r:Rw K H φ w v) (e:cb st w=some k):BG K v H k :=by
 have seq:∀ ds,gG st w=some ds->k=!ds.isEmpty->BG K v H k:=λds h hk=>by
  obtain⟨a,L,rfl,h1,h2⟩:=iP S r h;have e':k=!L.isEmpty:=by
   rw[hk];cases ds<;>cases L<;>first|rfl|cases h2.length
  rcases h1 with h1|h1
  ·exact .inl ⟨L,h1,e'⟩
  ·exact .inr (.inl ⟨L,h1,e'⟩)
 cases w with
 |h n=>
  obtain⟨ds,h1,h2⟩:=qad.mp e;exact seq ds h1 h2.symm
 |d x=>
  cases x with
  |non=>subst r;cases e;exact U
  |bl b=>subst r;cases e;exact U
  |int i=>subst r;cases e;exact U
  |tup ds=>exact seq ds U (qaL e).symm
  |lst ds=>exact seq ds U (qaL e).symm
  |scr ds=>exact seq _ U (qaL e).symm
  |_=>cases e
theorem rP (N:IE K X a fa) (he:AG a=true:=by rfl) (hK:X.K=K:=by rfl):IT K X a (bX cb fa):=by
 subst hK;refine⟨λenv st r A=>?_⟩;simp only[bX,qab,qad]at A;obtain⟨x,hx,k,hk,rfl⟩:=A;refine (AQ (N.run _ _ _ hx) (za he)).imp ?_
 rintro E H Q ⟨φ,G,B,q⟩
 exact⟨φ,G,B,λv H1 z J s1 P=>⟨k,Dh s1 P hk,q H1 z J s1⟩⟩
variable {af:Af}
theorem bY:IA K X [] ae:=by
 refine⟨λenv st r A=>?_⟩;cases A;refine sD.imp ?_
 rintro E H Q ⟨φ,G,B,q⟩
 exact q [] H φ (Fw.refl φ H) B U
theorem bo (N:IE K X e fa) (A:IA K X es af) (hs:aw e=true:=by rfl):IA K X (e::es) (aa fa af):=by
 refine⟨λenv st r h=>?_⟩;simp only[aa,qab,qad]at h;obtain⟨x,hx,y,Y,rfl⟩:=h;refine (mQ (N.run _ _ _ hx) (A.run _ _ _ Y) (aO hs)).imp ?_
 rintro E H Q ⟨φ,G,B,q⟩
 refine⟨φ,G,B,λv H1 z J s1 P=>⟨z,G.fw B J,s1,λu H2 O R s2 w2=>?_⟩⟩;exact q _ H2 O (J.trans R) s2 ⟨v,u,U,P.fw s1 R,w2⟩
theorem pS {id}{p}(hc:cP K X (.builtin id) g) (hg:Gl X x) (hm:X.mg x=none) (hv:qcm x=some (.builtin id)) (N:IA K X (e::es) af)
  (hn:x≠"__name__":=by decide) (hdb:(x==("__debug__"))=false:=by decide) (hs:aw e=true:=by rfl) (hp:es.all aw=true:=by rfl) :
  IE K X (.Call (.Name x p) (e::es) [] pos) (iCB g af) :=by
 refine⟨λenv st r A=>?_⟩;simp only[iCB,qab,qad]at A;obtain⟨y,Y,d,hd,rfl⟩:=A;refine (oB (hc.run _ _ _ hd) hg hm hv (N.run _ _ _ Y) hn hdb (aO hs) (bf hp)).imp ?_
 rintro E H Q ⟨φ,G,B,q⟩
 exact⟨φ,G,B,λv H1 z J s1 P=>⟨z,s1,P,λu H2 R w2=>q u H2 z (J.trans (Fw.same R)) (s1.same R) w2⟩⟩
theorem Gi {p}(hc:cP K X (.type T) g) (hg:Gl X x) (hm:X.mg x=none) (hv:qcm x=some (.type T)) (N:IA K X (e::es) af)
  (hn:x≠"__name__":=by decide) (hdb:(x==("__debug__"))=false:=by decide) (hs:aw e=true:=by rfl) (hp:es.all aw=true:=by rfl) :
  IE K X (.Call (.Name x p) (e::es) [] pos) (iCB g af) :=by
 refine⟨λenv st r A=>?_⟩;simp only[iCB,qab,qad]at A;obtain⟨y,Y,d,hd,rfl⟩:=A;refine (cH (hc.run _ _ _ hd) hg hm hv (N.run _ _ _ Y) hn hdb (aO hs) (bf hp)).imp ?_
 rintro E H Q ⟨φ,G,B,q⟩
 exact⟨φ,G,B,λv H1 z J s1 P=>⟨z,s1,P,λu H2 R w2=>q u H2 z (J.trans (Fw.same R)) (s1.same R) w2⟩⟩
theorem Gj {id}{p}(hc:tj K X (.builtin id) g) (hg:Gl X x) (hm:X.mg x=none) (hv:qcm x=some (.builtin id)) (N:IA K X (e::es) af)
  (hn:x≠"__name__":=by decide) (hdb:(x==("__debug__"))=false:=by decide) (hs:aw e=true:=by rfl) (hp:es.all aw=true:=by rfl) :
  IL K X (.Call (.Name x p) (e::es) [] pos) (iCL g af) :=by
 refine⟨λenv st r A=>?_⟩;simp only[iCL,qab,qad]at A;obtain⟨y,Y,d,hd,rfl⟩:=A;refine (oB (hc.run _ _ _ hd) hg hm hv (N.run _ _ _ Y) hn hdb (aO hs) (bf hp)).imp ?_
 rintro E H Q ⟨φ,G,B,q⟩
 exact⟨φ,G,B,λv H1 z J s1 P=>⟨z,s1,P,λa us H2 R n2 w2=>q a us H2 z (J.trans (Fw.same R)) (s1.same R) n2 w2⟩⟩
theorem Dw {p}(hc:tj K X (.type T) g) (hg:Gl X x) (hm:X.mg x=none) (hv:qcm x=some (.type T)) (N:IA K X (e::es) af)
  (hn:x≠"__name__":=by decide) (hdb:(x==("__debug__"))=false:=by decide) (hs:aw e=true:=by rfl) (hp:es.all aw=true:=by rfl) :
  IL K X (.Call (.Name x p) (e::es) [] pos) (iCL g af) :=by
 refine⟨λenv st r A=>?_⟩;simp only[iCL,qab,qad]at A;obtain⟨y,Y,d,hd,rfl⟩:=A;refine (cH (hc.run _ _ _ hd) hg hm hv (N.run _ _ _ Y) hn hdb (aO hs) (bf hp)).imp ?_
 rintro E H Q ⟨φ,G,B,q⟩
 exact⟨φ,G,B,λv H1 z J s1 P=>⟨z,s1,P,λa us H2 R n2 w2=>q a us H2 z (J.trans (Fw.same R)) (s1.same R) n2 w2⟩⟩
theorem ni :∀ {ws}{L}{ds},qP ws=some ds->Rws K H φ ws L->Rls K H φ ds L
 |[],_,_,e,h=>by cases e;exact h
 |.d x::ws,_,_,e,h=>by
  obtain⟨v,r,rfl,h1,h2⟩:=h;obtain⟨es,e1,rfl⟩:=qad.mp e;exact⟨v,r,U,h1,ni e1 h2⟩
 |.h n::ws,_,_,e,h=>by cases e
theorem rn (h:IA K X es af):IE K X (.Tuple es x1 pos) (a8 af) :=by
 refine⟨λenv st r A=>?_⟩;simp only[a8,qab]at A;obtain⟨y,Y,ds,hd,A⟩:=A;split at A
 ·cases A
  rename_i hl;refine (Ay (h.run _ _ _ Y)).imp ?_
  rintro E H Q ⟨φ,G,B,q⟩
  refine⟨φ,G,B,λL H1 z J s1 P=>?_⟩;have w:=ni hd P;refine⟨by rw[<-w.length];exact iQ hl,λp hp=>?_⟩;exact q _ _ z (J.trans (Fw.new hp)) (s1.new hp) ⟨p,L,U,upd_same,w.fw s1 (Fw.new hp)⟩
 ·cases A
theorem kM (h:IA K X es af):IL K X (.List es pos) (bm af):=by
 refine⟨λenv st r A=>?_⟩;simp only[bm,qab]at A;obtain⟨y,Y,ds,hd,A⟩:=A;split at A
 ·cases A
  rename_i hl;refine (Ax (h.run _ _ _ Y)).imp ?_
  rintro E H Q ⟨φ,G,B,q⟩
  refine⟨φ,G,B,λL H1 z J s1 P=>?_⟩;have w:=ni hd P;exact⟨by rw[<-w.length];exact iQ hl,λp hp=>q p L H1 z J s1 hp w⟩
 ·cases A
theorem du (h:IL K X e lf):IE K X e (ap lf) :=by
 refine⟨λenv st r A=>?_⟩;simp only[ap,qad]at A;obtain⟨y,Y,rfl⟩:=A;refine (h.run _ _ _ Y).imp ?_
 rintro E H Q ⟨φ,G,B,q⟩
 refine⟨φ,G,B,λa L H1 z J s1 n1 P=>?_⟩;exact q _ _ z (J.trans (Fw.new n1)) (s1.new n1) ⟨a,L,U,s1.nin n1,.inl upd_same,P.fw s1 (Fw.new n1)⟩
theorem Sr.moreC {st}{a}{c} (S:Sr K H φ st) (n:H a=none) (w:Rc K (upd H a o) (φ++[a]) φ.length a c):Sr K (upd H a o) (φ++[a]) (st++[c]) :=by
 refine⟨?_,by rw[qaA,qaA,S.len];rfl,λi b es e1 e2=>?_⟩
 ·rw[qcN]
  refine⟨S.nd,by simp,λx hx y Y e=>?_⟩;rw[qan.mp Y]at e;rw[e]at hx;exact S.nin n hx
 ·by_cases hi:i<φ.length
  ·rw[qaH hi]at e1
   rw[qaH (by rw[<-S.len];exact hi)]at e2;exact (S.at_ i b es e1 e2).fw S ⟨⟨_,U,λb hb=>by rw[qan.mp hb];exact n⟩,λb o _ h=>aP.new n _ b o h,λb o h=>⟨o,aP.new n _ b o h⟩⟩ λo h=>aP.new n _ _ _ h
  ·have e:i=φ.length:=by
    have:=(qas.mp e1).1
    simp at this
    lia
   subst e;rw[qaI (qao _)]at e1;rw[S.len,qaI (qao _)]at e2
   simp at e1 e2
   subst e1 e2;exact w
theorem Fw.moreO {a}(n:H a=none):Fw φ (φ++[a]) H (upd H a o) :=
 ⟨⟨_,U,λb hb=>by rw[qan.mp hb];exact n⟩,λb o _ h=>aP.new n _ b o h,λb o h=>⟨o,aP.new n _ b o h⟩⟩
theorem Fw.more {a}(n:H a=none):Fw φ (φ++[a]) H (upd H a (.lst L)) :=Fw.moreO n
theorem Sr.more {st}{a}(S:Sr K H φ st) (n:H a=none) (w:Rls K H φ ds L):Sr K (upd H a (.lst L)) (φ++[a]) (st++[.l ds]) :=
 S.moreC n ⟨L,upd_same,w.fw S (Fw.moreO n)⟩
theorem kN (h:IL K X e lf):IE K X e (bR lf) :=by
 refine⟨λenv st r A=>?_⟩;simp only[bR,qad]at A;obtain⟨y,Y,rfl⟩:=A;refine (h.run _ _ _ Y).imp ?_
 rintro E H Q ⟨φ,G,B,q⟩
 refine⟨φ,G,B,λa L H1 z J s1 n1 P=>?_⟩;exact q _ _ _ (J.trans (Fw.more n1)) (s1.more n1 P) ⟨a,by rw[<-s1.len];simp,U⟩
def spI (K:qae) (m:Fn):Sp:=λL H Q _=>∃ φ st ws r,m ws st=some r/\Rws K H φ ws L/\Sr K H φ st/\∀ v H' φ',Fw φ φ' H H'->Sr K H' φ' r.2->Rw K H' φ' r.1 v->Q v H'
theorem B1 {p} (F:dh X.prog X.w X.K X.mg X.base CX0 j ff fd ps (spI K m)) (hjk:j<=k) (A:bj k X.A) (hg:Gl X x) (hm:X.mg x=some (.ref ff)) (hk:qcV X.K (.ref ff)=true) (hb:cO X.K fd ps [])
  (N:IA K X (e::es) af) (hdb:(x==("__debug__"))=false:=by decide) (hs:aw e=true:=by rfl) (hp:es.all aw=true:=by rfl) :
  IE K X (.Call (.Name x p) (e::es) [] pos) (az m af) :=by
 refine⟨λenv st r h=>?_⟩;simp only[az,qab]at h;obtain⟨y,Y,h⟩:=h;refine (xx (F.mono hjk) A hg hm hk hb .nil As (N.run _ _ _ Y) hdb (aO hs) (bf hp)).imp ?_
 rintro E H Q ⟨φ,G,B,q⟩
 refine⟨φ,G,B,λL H1 z J s1 P=>?_⟩;show spI K m _ H1 Q E0;rw[qbY];exact⟨z,_,_,r,h,P,s1,λv H2 O R s2 w2=>q v H2 O (J.trans R) s2 w2⟩
end
inductive Fl where
 |nx (env:Ev) (st:Sto)|rt (w:W) (st:Sto)|bk (env:Ev) (st:Sto)|ct (env:Ev) (st:Sto)
abbrev Sf:=Ev->Sto->Option Fl
def xZ (K:qae) (φ:List Addr) (H:Hp) (D:mV):Fl->Prop
 |.nx e s=>∀ b H' a,Fw φ a H H'->Er K H' a e b->Sr K H' a s->D.nx b H'
 |.rt w s=>∀ v H' a,Fw φ a H H'->Sr K H' a s->Rw K H' a w v->D.rt v H'
 |.bk e s=>∀ b H' a,Fw φ a H H'->Er K H' a e b->Sr K H' a s->D.bk b H'
 |.ct e s=>∀ b H' a,Fw φ a H H'->Er K H' a e b->Sr K H' a s->D.ct b H'
theorem xZ.fw {K}{D}(h:xZ K φ H D r) (f:Fw φ d H H1):xZ K d H1 D r :=by
 cases r with
 |nx e s=>exact λb H' a c=>h b H' a (f.trans c)
 |rt w s=>exact λv H' a c=>h v H' a (f.trans c)
 |bk e s=>exact λb H' a c=>h b H' a (f.trans c)
 |ct e s=>exact λb H' a c=>h b H' a (f.trans c)
def tS (K:qae) (env:Ev) (st:Sto) (r:Fl):TS:=λD a H=>∃ φ,Er K H φ env a/\Sr K H φ st/\xZ K φ H D r
structure IS (K:qae) (X:Cx) (s:Stmt) (g:Sf):Prop where
 run:∀ env st r,g env st=some r->PS X s (tS K env st r)
structure ISs (K:qae) (X:Cx) (s:List Stmt) (g:Sf):Prop where
 run:∀ env st r,g env st=some r->PSs X s (tS K env st r)
inductive Tg where
 |nm (i:Nat)|tp (is:List Nat)|tq (i:Nat) (is:List Nat)
def nH:Tg->List Nat
 |.nm i=>[i]
 |.tp is=>is
 |.tq i is=>i::is
def oP:List Nat->List D->Ev->Ev
 |i::is,d::ds,env=>oP is ds (env.set i (some (.d d)))
 |_,_,env=>env
def cx:Tg->W->Ev->Option Ev
 |.nm i,w,env=>some (env.set i (some w))
 |.tp is,.d (.tup ds),env=>if is.length=ds.length then some (oP is ds env) else none
 |.tp is,.d (.lst ds),env=>if is.length=ds.length then some (oP is ds env) else none
 |.tq i is,.d (.tup [d,.tup ds]),env=>if is.length=ds.length then some (oP is ds (env.set i (some (.d d)))) else none
 |_,_,_=>none
def BF (is:List Nat) (b a:St):Prop:=a.length=b.length/\∀ j,j∉is->a[j]?=b[j]?
def tG (K:qae) (g:Tg):TG:=λv c H Q=>∃ φ st env w a,Er K H φ env c/\Sr K H φ st/\Rw K H φ w v/\cx g w env=some a/\∀ b,Er K H φ a b->BF (nH g) c b->Q b H
def tGs (K:qae) (is:List Nat):TGs:=λc b H Q=>∃ φ st env ds,Er K H φ env b/\Sr K H φ st/\Rls K H φ ds c/\is.length=ds.length/\∀ a,Er K H φ (oP is ds env) a->BF is b a->Q a H
def aQ:Sf
 |env,st=>some (.nx env st)
def ag (a b:Sf):Sf
 |env,st=>(a env st).bind λr=>match r with
 |.nx e s=>b e s
 |r=>some r
def aB (g:Tg) (f:Ef):Sf
 |env,st=>(f env st).bind λr=>(cx g r.1 env).map λe=>.nx e r.2
def uf (i j:Nat) (a:Af):Sf
 |env,st=>(a env st).bind λr=>match r.1 with
 |[x,y]=>some (.nx ((env.set i (some x)).set j (some y)) r.2)
 |_=>none
def gz (st:Sto) (o i v:W):Option Sto:=match o,i,v with
 |.h n,.d (.int k),.d x=>(lg st n).bind λds=>(ixN ds.length k).map λj=>st.set n (.l (ds.set j x))
 |_,_,_=>none
def bq (o i v:Ef):Sf
 |env,st=>(v env st).bind λb=>(o env b.2).bind λc=>(i env c.2).bind λa=>(gz a.2 c.1 a.1 b.1).map λs=>.nx env s
def aN (f:Ef):Sf
 |env,st=>(f env st).map λr=>.rt r.1 r.2
def cT (f:Ef):Sf
 |env,st=>(f env st).map λr=>.nx env r.2
def bb (c:Tf) (a b:Sf):Sf
 |env,st=>(c env st).bind λr=>if r.1=true then a env r.2 else b env r.2
def vk:Sf
 |env,st=>some (.bk env st)
def pQ:Sf
 |env,st=>some (.ct env st)
def bH (g:Tg) (body:Sf):List D->Ev->Sto->Option Fl
 |[],env,st=>some (.nx env st)
 |d::ds,env,st=>(cx g (.d d) env).bind λe=>(body e st).bind λr=>match r with
  |.nx e s=>bH g body ds e s
  |.ct e s=>bH g body ds e s
  |.bk e s=>some (.nx e s)
  |.rt w s=>some (.rt w s)
def dq (a:Lf) (g:Tg) (body:Sf):Sf
 |env,st=>(a env st).bind λr=>bH g body r.1 env r.2
def bB (c:Tf) (body:Sf):Nat->Ev->Sto->Option Fl
 |0,_,_=>none
 |n+1,env,st=>(c env st).bind λk=>if k.1=true then (body env k.2).bind λr=>match r with
   |.nx e s=>bB c body n e s
   |.ct e s=>bB c body n e s
   |.bk e s=>some (.nx e s)
   |.rt w s=>some (.rt w s)
  else some (.nx env k.2)
def lcI (g:Tg) (tt:Tf) (te:Ef) (env:Ev):List D->Sto->Option (List D×Sto)
 |[],st=>some ([],st)
 |d::ds,st=>(cx g (.d d) env).bind λe=>(tt e st).bind λb=>if b.1=true then (te e b.2).bind λx=>(qP [x.1]).bind λa=>(lcI g tt te env ds x.2).map λr=>(a++r.1,r.2)
   else lcI g tt te env ds b.2
def jI (k:Nat) (js:List Nat) (env:Ev):Ev:=qaG k none++js.map λj=>env.getD j none
def iLc (k:Nat) (js:List Nat) (a:Lf) (g:Tg) (tt:Tf) (te:Ef):Lf
 |env,st=>(a env st).bind λr=>if r.1.length<=1000000 then lcI g tt te (jI k js env) r.1 r.2 else none
def aJ:Tf
 |_,st=>some (true,st)
def aA (f:Ef):Lf
 |env,st=>(f env st).bind λr=>match r.1 with
 |.d (.tup ds)=>some (ds,r.2)
 |.d (.lst ds)=>some (ds,r.2)
 |_=>none
noncomputable def cW (lo:Int) (n:Nat):List D:=(qak n).map λk:Nat=>D.int (lo+k)
def bA (a:Af):Lf
 |env,st=>(a env st).bind λr=>match r.1 with
 |[.d (.int j)]=>if -(2^62)<=j/\j<2^62 then some (cW 0 j.toNat,r.2) else none
 |_=>none
def bE:Nat->List D->List D
 |_,[]=>[]
 |k,d::ds=>.tup [.int k,d]::bE (k+1) ds
def bN (a:Af):Lf
 |env,st=>(a env st).bind λr=>match r.1 with
 |[.d (.tup ds)]=>some (bE 0 ds,r.2)
 |[.d (.lst ds)]=>some (bE 0 ds,r.2)
 |_=>none
section
variable {K:qae}{X:Cx}{pos:Pos}
theorem PS.imp (h:PS X s t) (m:∀ D A H,t' D A H->t D A H):PS X s t' :=λB s A H D I q=>h B s A H D I (m D A H q)
theorem PSs.imp (h:PSs X s t) (m:∀ D A H,t' D A H->t D A H):PSs X s t' :=λB s A H D I q=>h B s A H D I (m D A H q)
theorem Er.set (h:Er K H φ env A) (i) (r:Rw K H φ w v):Er K H φ (env.set i (some w)) (A.set i (some v)) :=by
 refine⟨by rw[qcj,qcj,h.len],λj w' e=>?_⟩;by_cases hj:i=j
 ·subst hj
  have hi:=by
   have:=(qas.mp e).1
   rwa [qcj]at this
  rw[qbz hi]at e;cases e;exact⟨v,by rw[qbz (by rw[<-h.len];exact hi)],r⟩
 ·rw[qbK hj]at e
  obtain⟨v',N,r1⟩:=h.at_ j w' e;exact⟨v',by rw[qbK hj];exact N,r1⟩
theorem Bk (i) (A) (v):BF [i] A (A.set i v) :=⟨by rw[qcj],λj hj=>by rw[qbK (by rintro rfl;simp at hj)]⟩
theorem jN (h:PG X (.Name x pos) (lv i)):PG X (.Name x pos) (tG K (.nm i)) :=by
 intro B s A H v u Q I P q;obtain⟨φ,st,env,w,env',E,F,r,e,q⟩:=q;cases e;exact h B s A H v u Q I P (q _ (E.set i r) (Bk i A _))
theorem jO:PGs X [] (tGs K []):=by
 intro B s A H Y us Q I P q;obtain⟨φ,st,env,ds,E,F,r,e,q⟩:=q;cases ds with
 |nil=>cases r;exact xy B s A H [] us Q I P ⟨U,q A E ⟨U,λ_ _=>rfl⟩⟩
 |cons _ _=>cases e
theorem fz (h1:PG X (.Name x pos) (lv i)) (h2:PGs X es (tGs K is)):PGs X (.Name x pos::es) (tGs K (i::is)) :=by
 intro B s A H Y us Q I P q;obtain⟨φ,st,env,ds,E,F,r,e,q⟩:=q;cases ds with
 |nil=>cases e
 |cons d ds=>
  obtain⟨v,vr,rfl,r1,r2⟩:=r;refine kh h1 h2 (jy U) B s A H _ us Q I P ⟨v,vr,U,φ,st,_,ds,E.set i (w:=.d d) r1,F,r2,by simpa using e,λσ' O s'=>q σ' O ?_⟩;refine⟨by rw[s'.1,qcj],λj hj=>?_⟩;rw[s'.2 j (λz=>hj (qaj _ z)),qbK (by rintro rfl;exact hj qag)]
def HJ (K:qae) (n:Nat) (t:TGs):TG:=λv A H Q=>∃ a xs,v=.ref a/\SqL K H a xs/\xs.length=n/\t xs A H Q
theorem E3 (hc:X.calm=true) (h:PGs X es t) (hn:(qb7 es X.env).length=n) (hst:(qb7 es X.env).findIdx? (·.1)=none):PG X (.Tuple es k pos) (HJ X.K n t) :=by
 intro B s A H v u Q I r hw;obtain⟨a,xs,N,hq,T,hw⟩:=hw;subst N;cases r;obtain⟨its,P,p,hz⟩:=I.list hq;refine qaa (qee ?_);unfold unpack;rw[show (qb7 es X.env).length=its.toArray.size by simp[hn,<-T,P.length],hst];refine qaa (qb4 (PySem.W.kun_itemsOf (I.ok.hd hc) p.isList λh' hx=>?_));exact h B _ A H xs _ Q (I.kept λb o e=>hx b o (qaC (qax e)) e) (by simpa using P) hw
theorem nL {k n}(h:PGs X es (tGs K is)) (hes:es.all aw=true:=by rfl) (hn:es.length=n:=by rfl) (hi:is.length=n:=by rfl) (hc:X.calm=true:=by rfl) (hK:X.K=K:=by rfl):PG X (.Tuple es k pos) (tG K (.tp is)) :=by
 intro B s A H v u Q I P q;obtain⟨φ,st,env,w,env',E,F,r,e,q⟩:=q;cases w with
 |h n=>cases e
 |d x=>
  cases x with
  |tup ds=>
   have O:(if is.length=ds.length then some _ else none)=some env':=e;by_cases T:is.length=ds.length
   ·rw[iFP T]at O
    cases O;obtain⟨a,Y,rfl,hq,G⟩:=r;exact AA hc h ((lV hes).trans hn) (jx hes) B s A H _ u Q I P ⟨a,Y,U,(SqT.of hq),by rw[<-G.length,<-T,hi],φ,st,env,ds,E,F,G,T,q⟩
   ·rw[iFN T]at O
    cases O
  |lst ds=>
   have O:(if is.length=ds.length then some _ else none)=some env':=e;by_cases T:is.length=ds.length
   ·rw[iFP T]at O
    cases O;obtain⟨a,Y,rfl,_,hq,G⟩:=r;exact E3 hc h ((lV hes).trans hn) (jx hes) B s A H _ u Q I P ⟨a,Y,U,.inl hq,by rw[<-G.length,<-T,hi],φ,st,env,ds,E,F,G,T,q⟩
   ·rw[iFN T]at O
    cases O
  |_=>cases e
variable {s:Stmt}{ss rest:List Stmt}{e a b c:Expr}{ga gb:Sf}{f fa fb fc:Ef}
theorem mE:ISs K X [] aQ:=by
 refine⟨λenv st r G=>?_⟩;cases G;exact CS.imp λD A H ⟨φ,E,F,q⟩=>q A H φ (Fw.refl φ H) E F
theorem mF (h:IS K X s ga):ISs K X [s] ga:=⟨λenv st r G=>xE (h.run env st r G)⟩
theorem jV (h1:IS K X s ga) (h2:ISs K X rest gb):ISs K X (s::rest) (ag ga gb):=by
 refine⟨λenv st r G=>?_⟩;simp only[ag,qab]at G;obtain⟨r1,N,G⟩:=G;cases r1 with
 |nx e s1=>
  refine (cV (h1.run _ _ _ N) (h2.run _ _ _ G)).imp ?_
  rintro D A H ⟨φ,E,F,q⟩
  exact⟨φ,E,F,λσ' H' φ' f' O s'=>⟨φ',O,s',q.fw f'⟩⟩
 |rt w s1=>
  cases G;exact (cV (h1.run _ _ _ N) fE).imp λD A H ⟨φ,E,F,q⟩=>⟨φ,E,F,q⟩
 |bk w s1=>
  cases G;exact (cV (h1.run _ _ _ N) fE).imp λD A H ⟨φ,E,F,q⟩=>⟨φ,E,F,q⟩
 |ct w s1=>
  cases G;exact (cV (h1.run _ _ _ N) fE).imp λD A H ⟨φ,E,F,q⟩=>⟨φ,E,F,q⟩
theorem rJ (hN:X.N.Nodup) (hi:X.N[i]?=some x) (hx:Loc X.env.scope x) (he:IE K X e f) (hs:qcq e (some (.Name x pos')) pos.line X.env=pure false:=by rfl) (hf:X.fn x=true\/X.env.scope.names.lookup x=some .local:=by first|exact .inl U|exact .inr U|assumption) :
  IS K X (.Assign [.Name x pos'] e pos) (aB (.nm i) f) :=by
 refine⟨λenv st r G=>?_⟩;simp only[aB,cx,qab,qad]at G;obtain⟨y,hy,O,ee,rfl⟩:=G;cases ee;refine (E8 hN hi hx (he.run _ _ _ hy) hs hf).imp ?_
 rintro D A H ⟨φ,E,F,q⟩
 exact⟨φ,E,F,λv H1 L M s1 w1=>q _ H1 L M ((E.fw F M).set i w1) s1⟩
theorem Sr.putC {st}{a}{c} (S:Sr K H φ st) (hn:φ[n]?=some a) (w:Fw φ φ H (upd H a o)->Rc K (upd H a o) φ n a c) :
  Fw φ φ H (upd H a o)/\Sr K (upd H a o) φ (st.set n c) :=by
 have f:Fw φ φ H (upd H a o):=⟨⟨[],by simp,by simp⟩,λb o hb h=>by rw[upd_ne (λz=>hb (by rw[z];exact (qbS hn)))];exact h,λb o h=>by
  by_cases z:b=a
  ·subst z;exact⟨_,upd_same⟩
  ·exact⟨o,by rw[upd_ne z];exact h⟩⟩
 refine⟨f,S.nd,by rw[qcj];exact S.len,λm b es N e2=>?_⟩;by_cases hm:n=m
 ·subst hm
  rw[N]at hn;cases hn;have T:n<st.length:=by rw[<-S.len];exact (qas.mp N).1
  rw[qbz T]at e2;cases e2;exact w f
 ·rw[qbK hm]at e2
  have hne:b≠a:=by
   rintro rfl
   obtain⟨h1,h1'⟩:=qas.mp hn;obtain⟨h2,h2'⟩:=qas.mp N;exact hm ((qdV S.nd).mp (h1'.trans h2'.symm))
  exact (S.at_ m b es N e2).fw S f λo h=>by rw[upd_ne hne];exact h
theorem Sr.put {st}{a}(S:Sr K H φ st) (hn:φ[n]?=some a) (w:Rls K H φ ds Y) :
  Fw φ φ H (upd H a (.lst Y))/\Sr K (upd H a (.lst Y)) φ (st.set n (.l ds)) :=S.putC hn λf=>⟨Y,upd_same,w.fw S f⟩
theorem v5 {st }(h:gz st o i v=some s'):∃ n k x ds j,o=.h n/\i=.d (.int k)/\v=.d x/\lg st n=some ds/\ixN ds.length k=some j/\s'=st.set n (.l (ds.set j x)) :=by
 unfold gz at h;split at h
 ·obtain⟨ds,N,h⟩:=qab.mp h
  obtain⟨j,e2,h⟩:=qad.mp h;exact⟨_,_,_,ds,j,U,U,U,N,e2,h.symm⟩
 ·cases h
theorem jT {tpos} (ho:IE K X a fa) (hi:IE K X b fb) (hv:IE K X e f) (hb:kW b=true:=by rfl) (hs:qc2 [.Subscript a b tpos] e pos.line X.env=pure false:=by rfl) (hw:qc3 [.Subscript a b tpos] e X.env=pure none:=by rfl) :
  IS K X (.Assign [.Subscript a b tpos] e pos) (bq fa fb f) :=by
 refine⟨λenv st r G=>?_⟩;simp only[bq,qab,qad]at G;obtain⟨P,ev,ro,eo,ri,ei,s',es,rfl⟩:=G;refine (oG (hv.run _ _ _ ev) (sE (ho.run _ _ _ eo) (hi.run _ _ _ ei) kq (lW hb)) hs hw (jz U)).imp ?_
 rintro D A H ⟨φ,E,F,q⟩
 refine⟨φ,E,F,λv H1 L M s1 w1=>⟨L,E.fw F M,s1,λo H2 φ2 f2 s2 w2=>⟨φ2,(E.fw F M).fw s1 f2,s2,λi H3 φ3 f3 s3 w3=>?_⟩⟩⟩;obtain⟨ro1,ro2⟩:=ro;obtain⟨rv1,rv2⟩:=P;obtain⟨ri1,ri2⟩:=ri;obtain⟨n,k,x,ds,j,rfl,rfl,rfl,eds,ej,rfl⟩:=v5 es;obtain⟨p,ep,rfl⟩:=(w2.fw s2 f3);obtain⟨Y,hp,rl⟩:=s3.atl n p ds ep eds;subst w3;obtain⟨f4,s4⟩:=s3.put ep (Rls.set j rl ((w1.fw s1 f2).fw s2 f3));refine⟨p,Y,k,j,U,U,hp,by rw[<-rl.length];exact ej,?_⟩;exact q _ _ φ3 (((M.trans f2).trans f3).trans f4) ((((E.fw F M).fw s1 f2).fw s2 f3).fw s3 f4) s4
theorem rH (h:IE K X e f):IS K X (.Return (some e) pos) (aN f):=by
 refine⟨λenv st r G=>?_⟩;simp only[aN,qad]at G;obtain⟨y,hy,rfl⟩:=G;exact (E7 (h.run _ _ _ hy)).imp λD A H ⟨φ,E,F,q⟩=>⟨φ,E,F,q⟩
theorem mq (h:IE K X e f) (hs:qcq e none pos.line X.env=pure false:=by rfl):IS K X (.Expr e pos) (cT f):=by
 refine⟨λenv st r G=>?_⟩;simp only[cT,qad]at G;obtain⟨y,hy,rfl⟩:=G;exact (CP (h.run _ _ _ hy) hs).imp λD A H ⟨φ,E,F,q⟩=>⟨φ,E,F,λv H1 L M s1 w1=>q A H1 L M (E.fw F M) s1⟩
theorem wP (hc:IT K X c tc) (ha:ISs K X sa ga) (hb:ISs K X sb gb):IS K X (.If c sa sb pos) (bb tc ga gb) :=by
 refine⟨λenv st r G=>?_⟩;simp only[bb,qab]at G;obtain⟨⟨k,s1⟩,hx,G⟩:=G;cases k with
 |true=>
  refine (DG (hc.run _ _ _ hx) (ha.run _ _ _ G) fE).imp ?_
  rintro D A H ⟨φ,E,F,q⟩
  refine⟨φ,E,F,λH1 L M s1=>B6 ?_⟩;exact⟨L,E.fw F M,s1,q.fw M⟩
 |false=>
  refine (DG (hc.run _ _ _ hx) fE (hb.run _ _ _ G)).imp ?_
  rintro D A H ⟨φ,E,F,q⟩
  refine⟨φ,E,F,λH1 L M s1=>B5 ?_⟩;exact⟨L,E.fw F M,s1,q.fw M⟩
theorem jS:IS K X (.Break pos) vk:=by
 refine⟨λenv st r G=>?_⟩;cases G;exact AJ.imp λD A H ⟨φ,E,F,q⟩=>q A H φ (Fw.refl φ H) E F
theorem mo:IS K X (.Continue pos) pQ:=by
 refine⟨λenv st r G=>?_⟩;cases G;exact uE.imp λD A H ⟨φ,E,F,q⟩=>q A H φ (Fw.refl φ H) E F
def Hd (K:qae) (g:Sf):TS:=λD A H=>∃ env st r,g env st=some r/\tS K env st r D A H
def Bn (K:qae) (f:Ef):TE:=λA H Q=>∃ env st r,f env st=some r/\tI K env st r A H Q
def xO (K:qae) (f:Tf):TT:=λA H Q=>∃ env st r,f env st=some r/\tIT K env st r A H Q
theorem ISs.any (h:ISs K X ss ga):PSs X ss (Hd K ga):=λB s A H D I ⟨env,st,r,e,q⟩=>h.run env st r e B s A H D I q
theorem IE.any (h:IE K X e f):PE X e (Bn K f):=λB s A H D I ⟨env,st,r,e,q⟩=>h.run env st r e B s A H D I q
theorem IT.any (h:IT K X e tf):PT X e (xO K tf) :=λB s A H D I ⟨env,st,r,e,q⟩=>h.run env st r e B s A H D I q
def Yl (K:qae) (φ0:List Addr) (H0:Hp) (J:It) (ds:List D):Prop:=∀ (H:Hp) (φ:List Addr) (st:Sto) (i:Nat),Fw φ0 φ H0 H->Sr K H φ st->
 (∀ d,ds[i]?=some d->J.go i H/\∀ x H',J.yld i H x H'->aP H H'/\Rl K H' φ d x)/\(ds.length=i->J.stop i H)
def tII (K:qae) (env:Ev) (st:Sto) (r:List D×Sto):TI:=λA H R=>∃ φ,Er K H φ env A/\Sr K H φ st/\∀ J H' φ',Fw φ φ' H H'->Sr K H' φ' r.2->Yl K φ' H' J r.1->R J H'
structure II (K:qae) (X:Cx) (tg iter:Expr) (f:Lf):Prop where
 run:∀ env st r,f env st=some r->PI X tg iter (tII K env st r)
theorem PI.imp (h:PI X tg iter t) (m:∀ A H R,t' A H R->t A H R):PI X tg iter t' :=λB s A H R I q=>h B s A H R I (m A H R q)
variable {tg:Expr}
end
section
variable {K:qae}{X:Cx}{pos:Pos}{tg e a b:Expr}{f:Ef}{af:Af}
theorem nM (h:IE K X e f) (hK:X.K=K:=by rfl):II K X tg e (aA f):=by
 subst hK;refine⟨λenv st r B=>?_⟩;simp only[aA,qab]at B;obtain⟨⟨w,s1⟩,hy,B⟩:=B;dsimp only at B;split at B
 ·rename_i ds
  cases B;refine (E4 (h.run _ _ _ hy)).imp ?_
  rintro G H R ⟨φ,P,N,q⟩
  refine⟨φ,P,N,λv H1 E f1 s1 w1=>?_⟩;obtain⟨a,Y,rfl,hq,B⟩:=w1;refine⟨a,U,⟨Y,(SqT.of hq)⟩,q _ H1 E f1 s1 λH2 u O i f2 s2=>?_⟩;have hq2:=(SqT.of hq).fw s1 f2;have hr2:=B.fw s1 f2;refine⟨λd hd=>?_,λhi=>⟨Y,hq2,by rw[<-hr2.length];exact qdx hi⟩⟩;obtain⟨v,ev,rv⟩:=hr2.get hd;refine⟨⟨Y,v,hq2,ev⟩,λx H' y=>?_⟩;obtain⟨rfl,y⟩:=y
  have:=y Y hq2
  rw[ev]at this;cases this;exact⟨aP.refl _,rv⟩
 ·rename_i ds
  cases B;refine (xA (h.run _ _ _ hy)).imp ?_
  rintro G H R ⟨φ,P,N,q⟩
  refine⟨φ,P,N,λv H1 E f1 s1 w1=>?_⟩;obtain⟨a,Y,rfl,h0,hq,B⟩:=w1;refine⟨a,U,⟨Y,.inl hq⟩,q _ H1 E f1 s1 λH2 u O i f2 s2=>?_⟩;have hq2:SqL X.K H2 a Y:=.inl (hq.fw f2 h0);have hr2:=B.fw s1 f2;refine⟨λd hd=>?_,λhi=>⟨Y,hq2,by rw[<-hr2.length];exact qdx hi⟩⟩;obtain⟨v,ev,rv⟩:=hr2.get hd;refine⟨⟨Y,v,hq2,ev⟩,λx H' y=>?_⟩;obtain⟨rfl,y⟩:=y
  have:=y Y hq2
  rw[ev]at this;cases this;exact⟨aP.refl _,rv⟩
 all_goals cases B
theorem uJ (lo) (n i):(cW lo n)[i]?=if i<n then some (.int (lo+i)) else none :=by
 unfold cW;rw[qay];by_cases h:i<n
 ·rw[qaS h,iFP h];rfl
 ·rw[qav (by simpa using h),iFN h];rfl
theorem ki (lo) (n):(cW lo n).length=n :=by unfold cW;rw[qah,qaq]
theorem FL (lo) (n) :Yl K φ H (Itr lo n) (cW lo n) :=by
 intro H2 u O i f2 s2;refine⟨λd hd=>?_,λhi=>by rw[ki]at hi;exact qdx hi⟩;rw[uJ]at hd;by_cases h:i<n
 ·rw[iFP h]at hd
  cases hd;refine⟨h,λx H' y=>?_⟩;obtain⟨rfl,rfl⟩:=y;exact⟨aP.refl _,U⟩
 ·rw[iFN h]at hd;cases hd
theorem mj (hg:Gl X "range") (hm:X.mg "range" = none) (ha:IA K X [a] af) (hs:aw a=true:=by rfl):II K X tg (.Call (.Name "range" p) [a] [] pos) (bA af) :=by
 refine⟨λenv st r B=>?_⟩;simp only[bA,qab]at B;obtain⟨⟨ws,s1⟩,hy,B⟩:=B;dsimp only at B;split at B
 case h_2=>cases B
 rename_i j;have L:(if -(2^62)<=j/\j<2^62 then some (cW 0 j.toNat,s1) else none)=some r:=B;by_cases hj:-(2^62)<=j/\j<2^62
 ·rw[iFP hj]at L
  cases L;refine (yR hg hm (ha.run _ _ _ hy) (fI hs)).imp ?_
  rintro G H R ⟨φ,P,N,q⟩
  refine⟨φ,P,N,λY H1 E f1 s1 w1=>?_⟩;obtain⟨v,r,rfl,r1,rfl⟩:=w1;exact⟨j,by rw[show v=.int j from r1],hj.1,hj.2,q _ H1 E f1 s1 (FL 0 _)⟩
 ·rw[iFN hj]at L;cases L
theorem cD:∀ (ds) (k i),(bE k ds)[i]?=(ds[i]?).map λd=>D.tup [.int ((k+i:Nat)),d]
 |[],k,i=>by simp[bE]
 |d::ds,k,0=>by simp[bE]
 |d::ds,k,i+1=>by
  have:=cD ds (k+1) i
  rw[show k+1+i=k+(i+1) by lia]at this;simpa [bE] using this
theorem kG:∀ (ds) (k),(bE k ds).length=ds.length
 |[],_=>rfl
 |d::ds,k=>by rw[bE,qat,qat,kG ds]
theorem xX (N:∀ H' W,Fw φ W H H'->S H' Y) (B:∀ H' W,Fw φ W H H'->Rls K H' W ds Y):Yl K φ H (Ite S) (bE 0 ds) :=by
 intro H2 u O i f2 s2;have q2:=N H2 u f2;have r2:=B H2 u f2;refine⟨λd hd=>?_,λhi=>⟨Y,q2,by rw[<-r2.length,<-kG ds 0];exact hi⟩⟩;rw[cD,qad]at hd;obtain⟨d',hd',rfl⟩:=hd;obtain⟨v,ev,rv⟩:=r2.get hd';refine⟨⟨Y,v,q2,ev⟩,λx H' y=>?_⟩;obtain⟨T,v',y1,hT,rfl,rfl⟩:=y
 have:=y1 Y q2
 rw[ev]at this;cases this;refine⟨aP.new hT _,T,_,U,upd_same,_,_,U,?_,_,_,U,rv.fw s2 (Fw.new hT),U⟩;show V.int _=V.int _;rw[qbg]
theorem mh {elts}{k}{tpos p} (hg:Gl X "enumerate") (hm:X.mg "enumerate" = none) (ha:IA K X [a] af) (hs:aw a=true:=by rfl) (hK:X.K=K:=by rfl) :
  II K X (.Tuple elts k tpos) (.Call (.Name "enumerate" p) [a] [] pos) (bN af) :=by
 subst hK;refine⟨λenv st r B=>?_⟩;simp only[bN,qab]at B;obtain⟨⟨ws,s1⟩,hy,B⟩:=B;dsimp only at B;split at B
 ·rename_i ds
  cases B;refine (AC hg hm (ha.run _ _ _ hy) (fI hs)).imp ?_
  rintro G H R ⟨φ,P,N,q⟩
  refine⟨φ,P,N,λY H1 E f1 s1 w1=>?_⟩;obtain⟨v,r,rfl,⟨a,us,rfl,hq,B⟩,rfl⟩:=w1;exact⟨a,U,⟨us,(SqT.of hq)⟩,q _ H1 E f1 s1 (xX (λH' W f=>(SqT.of hq).fw s1 f) λH' W f=>B.fw s1 f)⟩
 ·rename_i ds
  cases B;refine (AB hg hm (ha.run _ _ _ hy) (fI hs)).imp ?_
  rintro G H R ⟨φ,P,N,q⟩
  refine⟨φ,P,N,λY H1 E f1 s1 w1=>?_⟩;obtain⟨v,r,rfl,⟨a,us,rfl,h0,hq,B⟩,rfl⟩:=w1;exact⟨a,U,⟨us,.inl hq⟩,q _ H1 E f1 s1 (xX (λH' W f=>.inl (hq.fw f h0)) λH' W f=>B.fw s1 f)⟩
 all_goals cases B
theorem nY (hi:II K X tg iter fi) (hg:PG X tg (tG K g)) (hb:ISs K X body gb) (hp:qg5 (model X.prog X.w) X.A X.env X.xe) (hc:X.calm=true:=by rfl)
  (hs:∀ x,qbE iter X.env x=pure x:=by intro _;rfl):IS K X (.For tg iter body [] pos) (dq fi g gb) :=by
 refine⟨λenv st r B=>?_⟩;simp only[dq,qab]at B;obtain⟨⟨ds,s1⟩,hy,B⟩:=B;refine (AL hp hc (hi.run _ _ _ hy) hg hb.any hs).imp ?_
 rintro D G H ⟨φ,P,N,q⟩
 refine⟨φ,P,N,λJ H1 E f1 S1 yl=>?_⟩;refine⟨λi m G H=>m=ds.length - i/\i<=ds.length/\∃ env st u,Fw E u H1 H/\Er K H u env G/\Sr K H u st/\bH g gb (ds.drop i) env st=some r,⟨ds.length,by simp,qbM _,env,s1,E,Fw.refl _ _,P.fw N f1,S1,B⟩,?_⟩
 rintro i m G H2 ⟨rfl,hi,env2,O,u,f2,e2,S2,h2⟩
 obtain⟨y1,y2⟩:=yl H2 u O i f2 S2;by_cases hlt:i<ds.length
 ·obtain⟨go,yld⟩:=y1 ds[i] (qai hlt)
  rw[qcg hlt]at h2;simp only[bH,qab]at h2;obtain⟨e3,he3,r3,hr3,h3⟩:=h2;refine .inr ⟨go,λσ' H'=>i+1<=ds.length/\∃ env st u,Fw E u H1 H'/\Er K H' u env σ'/\Sr K H' u st/\bH g gb _ env st=some r,λσ' H' ⟨hn,p'⟩=>⟨_,by lia,U,hn,p'⟩,λx H' y=>?_⟩;obtain⟨sm,rx⟩:=yld x H' y;have S3:=S2.same sm;have f3:=f2.trans (Fw.same sm);refine⟨u,O,env2,.d ds[i],e3,e2.fw S2 (Fw.same sm),S3,rx,he3,λσ' e' _=>?_⟩;refine⟨e3,O,r3,hr3,u,e',S3,?_⟩;cases r3 with
  |nx e4 s4=>exact λσ4 H4 F f4 e4' M=>⟨hlt,e4,s4,F,f3.trans f4,e4',M,h3⟩
  |ct e4 s4=>exact λσ4 H4 F f4 e4' M=>⟨hlt,e4,s4,F,f3.trans f4,e4',M,h3⟩
  |bk e4 s4=>
   cases h3;exact λσ4 H4 F f4 e4' M=>q σ4 H4 F (f1.trans (f3.trans f4)) e4' M
  |rt w s4=>
   cases h3;exact λv H4 F f4 M w4=>q v H4 F (f1.trans (f3.trans f4)) M w4
 ·have hi':i=ds.length:=by lia
  subst hi';rw[qeJ]at h2;cases h2;exact .inl ⟨y2 U,q G H2 u (f1.trans f2) e2 S2⟩
def qU (n:Nat) (c:Tf) (b:Sf):Sf
 |env,st=>bB c b n env st
theorem jU (n) (hc:IT K X c tc) (hb:ISs K X body gb) (hp:qg5 (model X.prog X.w) X.A X.env X.xe):IS K X (.While c body [] pos) (qU n tc gb) :=by
 refine⟨λenv st r B=>?_⟩;refine (AO hp hc.any hb.any).imp ?_
 rintro D G H ⟨φ,P,N,q⟩
 refine⟨λm G H'=>∃ env st u,Fw φ u H H'/\Er K H' u env G/\Sr K H' u st/\bB tc gb m env st=some r,⟨n,env,st,φ,Fw.refl _ _,P,N,B⟩,?_⟩
 rintro m G H2 ⟨env2,O,u,f2,e2,S2,h2⟩
 cases m with
 |zero=>cases h2
 |succ m=>
  simp only[bB,qab]at h2;obtain⟨⟨k,s3⟩,hk,h2⟩:=h2;refine⟨env2,O,_,hk,u,e2,S2,λH3 φ3 f3 S3=>?_⟩;cases k with
  |false=>
   cases h2;exact B5 (q G H3 φ3 (f2.trans f3) (e2.fw S2 f3) S3)
  |true=>
   simp only[if_true,qab]at h2;obtain⟨r3,hr3,h3⟩:=h2;refine B6 ⟨_,λσ' H' p'=>⟨m,qcb _,p'⟩,?_⟩;refine⟨env2,s3,r3,hr3,φ3,e2.fw S2 f3,S3,?_⟩;have f3':=f2.trans f3;cases r3 with
   |nx e4 s4=>exact λσ4 H4 F f4 e4' M=>⟨e4,s4,F,f3'.trans f4,e4',M,h3⟩
   |ct e4 s4=>exact λσ4 H4 F f4 e4' M=>⟨e4,s4,F,f3'.trans f4,e4',M,h3⟩
   |bk e4 s4=>
    cases h3;exact λσ4 H4 F f4 e4' M=>q σ4 H4 F (f3'.trans f4) e4' M
   |rt w s4=>
    cases h3;exact λv H4 F f4 M w4=>q v H4 F (f3'.trans f4) M w4
structure ITs (K:qae) (X:Cx) (ifs:List Expr) (t:Tf):Prop where
 run:PTs X ifs (xO K t)
theorem iG:ITs K X [] aJ:=by
 refine⟨λpins s G H Q I ⟨env,st,r,e,φ,P,N,q⟩=>?_⟩;cases e;exact CU pins s G H Q I (q H φ (Fw.refl φ H) N)
theorem mG (h:IT K X c t):ITs K X [c] t :=⟨CV h.any⟩
theorem Er.emb (h:Er K H φ env G) (k) (js):Er K H φ (jI k js env) (dI k js G) :=by
 refine⟨by unfold jI dI;simp,λi w e=>?_⟩;unfold jI at e;unfold dI;by_cases hi:i<k
 ·rw[qaH (by simpa using hi),qdC,iFP hi]at e
  cases e
 ·rw[qaI (by simpa using hi),qda,qay,qad]at e
  obtain⟨j,ej,e⟩:=e;have ej2:env[j]?=some (some w):=by
   rw[qgm]at e;cases q:env[j]? with
   |none=>rw[q]at e;cases e
   |some o=>rw[q]at e;rw[show o=some w from e]
  obtain⟨v,ev,rv⟩:=h.at_ j w ej2;refine⟨v,?_,rv⟩;rw[qaI (by simpa using hi),qda,qay,ej];show some ((G[j]?).getD none)=_;rw[ev];rfl
theorem Sub.stay (h:BF is (dI k js G) σ') (hi:∀ j∈is,j<k):Sub (dI k js G) σ' :=by
 refine⟨h.1.symm,λj v e=>?_⟩;by_cases hj:j∈is
 ·have:=hi j hj
  unfold dI at e;rw[qaH (by simpa using this),qdC,iFP this]at e;cases e
 ·rw[h.2 j hj];exact e
theorem vC {st }(hgi:∀ j∈nH g,j<k) (hdl:ds.length<=1000000) (L:lcI g tt te (jI k js env) ds s1=some r) :
  ∀ G H Q,tIL K env st r G H Q->tLc (dI k js) (tII K env st (ds,s1)) (tG K g) (xO K tt) (Bn K te) G H Q :=by
 rintro G H Q ⟨φ,P,N,q⟩
 refine⟨φ,P,N,λJ H1 E f1 S1 yl=>?_⟩;refine⟨λi m ys H2=>m=ds.length - i/\i<=ds.length/\∃ st u es r2,Fw E u H1 H2/\Sr K H2 u st/\Rls K H2 u es ys/\es.length<=i/\lcI g tt te _ (ds.drop i) st=some r2/\r=(es++r2.1,r2.2),⟨ds.length,by simp,qbM _,s1,E,[],r,Fw.refl _ _,S1,U,qao _,L,U⟩,?_⟩
 rintro i m ys H2 ⟨rfl,hi,O,u,es,r2,f2,S2,rl2,hle,h2,rfl⟩
 obtain⟨y1,y2⟩:=yl H2 u O i f2 S2;by_cases hlt:i<ds.length
 ·obtain⟨go,yld⟩:=y1 ds[i] (qai hlt)
  rw[qcg hlt]at h2;simp only[lcI,qab]at h2;obtain⟨e3,he3,⟨kb,s3⟩,hb3,h3⟩:=h2;have hz:ys.length<qaF:=by
   rw[<-rl2.length]
   have:=qcQ
   lia
  refine .inr ⟨go,hz,λys' H'=>i+1<=ds.length/\∃ st u es' r2',Fw E u H1 H'/\Sr K H' u st/\Rls K H' u es' ys'/\es'.length<=i+1/\lcI g tt te _ _ st=some r2'/\(es++r2.1,r2.2)=(es'++r2'.1,r2'.2),λys' H' ⟨hn,p'⟩=>⟨_,by lia,U,hn,p'⟩,λx H' y=>?_⟩;obtain⟨sm,rx⟩:=yld x H' y;have S3:=S2.same sm;have f3:=f2.trans (Fw.same sm);refine⟨u,O,_,.d ds[i],e3,((P.fw N f1).emb k js).fw S1 f3,S3,rx,he3,λσ' e' stay=>⟨Sub.stay stay hgi,?_⟩⟩;refine⟨e3,O,_,hb3,u,e',S3,λH4 F f4 S4=>?_⟩;cases kb with
  |false=>
   exact B5 ⟨hlt,s3,F,es,r2,f3.trans f4,S4,(rl2.fw S2 (Fw.same sm)).fw S3 f4,by lia,h3,U⟩
  |true=>
   simp only[if_true,qab,qad]at h3;obtain⟨x5,hx5,zs,hzs,r5,hr5,rfl⟩:=h3;refine B6 ⟨e3,s3,x5,hx5,F,e'.fw S3 f4,S4,λv H5 φ5 f5 S5 w5=>?_⟩;obtain⟨x5,s5⟩:=x5;cases x5 with
   |h n=>cases hzs
   |d z=>
    cases hzs;refine⟨hlt,s5,φ5,es++[z],r5,(f3.trans f4).trans f5,S5,(((rl2.fw S2 (Fw.same sm)).fw S3 f4).fw S4 f5).append ⟨v,_,U,w5,U⟩,by simp;lia,hr5,?_⟩
    simp
 ·have hi':i=ds.length:=by lia
  subst hi';rw[qeJ]at h2;cases h2;refine .inl ⟨y2 U,λDn hD=>?_⟩
  have:=q Dn ys H2 u (f1.trans f2) S2 hD
  exact this (by simpa using rl2)
theorem zT (S:cI X A Nc (dI k js)) (hc:X.calm=true) (hgi:∀ j∈nH g,j<k) (hi:II K X tg iter fi)
  (hg:∀ l s H C fp,PG (lcX X A l Nc s H C fp) tg (tG K g)) (ht:∀ l s H C fp,ITs K (lcX X A l Nc s H C fp) ifs tt) (he:∀ l s H C fp,IE K (lcX X A l Nc s H C fp) elt te)
  (hs:∀ x,qbE iter X.env x=pure x:=by intro _;rfl):IL K X (.ListComp elt [⟨tg,iter,ifs,0⟩] A pos) (iLc k js fi g tt te) :=by
 refine⟨λenv st r B=>?_⟩;simp only[iLc,qab]at B;obtain⟨⟨ds,s1⟩,hy,B⟩:=B;have L:=B;by_cases hdn:¬ ds.length<=1000000
 ·rw[iFN hdn]at L;cases L
 have hdl:ds.length<=1000000:=by lia
 rw[iFP hdl]at L;refine (GO S hc (hi.run _ _ _ hy) hg (λl s H C fp=>(ht l s H C fp).run) (λl s H C fp=>(he l s H C fp).any) hs).imp (vC hgi hdl L)
theorem Gm { spos}
  (hN0:X.N.Nodup) (hi0:X.N[i0]?=some x0) (hx0:Loc X.env.scope x0) (S:cI X A Nc (dI k js)) (hc:X.calm=true) (hgi:∀ j∈nH g,j<k) (hi:II K X tg iter fi)
  (hg:∀ l s H C fp,PG (lcX X A l Nc s H C fp) tg (tG K g)) (ht:∀ l s H C fp,ITs K (lcX X A l Nc s H C fp) ifs tt) (he:∀ l s H C fp,IE K (lcX X A l Nc s H C fp) elt te)
  (hsw:qcq (.ListComp elt [⟨tg,iter,ifs,0⟩] A pos) (some (.Name x0 py)) spos.line X.env=pure true:=by rfl)
  (hf0:X.fn x0=true\/X.env.scope.names.lookup x0=some .local:=by first|exact .inl U|exact .inr U|assumption)
  (hs:∀ x,qbE iter X.env x=pure x:=by intro _;rfl):IS K X (.Assign [.Name x0 py] (.ListComp elt [⟨tg,iter,ifs,0⟩] A pos) spos) (aB (.nm i0) (ap (iLc k js fi g tt te)))/\
   IS K X (.Assign [.Name x0 py] (.ListComp elt [⟨tg,iter,ifs,0⟩] A pos) spos) (aB (.nm i0) (bR (iLc k js fi g tt te))) :=by
 have key:∀ env st r0 r,iLc k js fi g tt te env st=some r->(∀ G φ H (D:mV),Er K H φ env G->Sr K H φ st->xZ K φ H D r0->∀ a Y H1 W,Fw φ W H H1->Sr K H1 W r.2->H1 a=none->Rls K H1 W r.1 Y->D.nx (G.set i0 (some (.ref a))) (upd H1 a (.lst Y)))->
   PS X (.Assign [.Name x0 py] (.ListComp elt [⟨tg,iter,ifs,0⟩] A pos) spos) (tS K env st r0):=by
  intro env st r0 r B h;simp only[iLc,qab]at B;obtain⟨⟨ds,s1⟩,hy,B⟩:=B;have L:=B;by_cases hdn:¬ ds.length<=1000000
  ·rw[iFN hdn]at L;cases L
  have hdl:ds.length<=1000000:=by lia
  rw[iFP hdl]at L;refine (AN hN0 hi0 hx0 S hc (hi.run _ _ _ hy) hg (λl s H C fp=>(ht l s H C fp).run) (λl s H C fp=>(he l s H C fp).any) hsw hf0 hs).imp ?_
  rintro D G H ⟨φ,P,N,q⟩
  exact vC hgi hdl L G H _ ⟨φ,P,N,h G φ H D P N q⟩
 constructor
 ·refine⟨λenv st r B=>?_⟩
  simp only[aB,ap,cx,qab,qad]at B;obtain⟨y,⟨r2,hy,rfl⟩,e',ee,rfl⟩:=B;cases ee;refine key _ _ _ _ hy λG φ H D P N q a Y H1 E f1 s1 n1 w1=>?_;exact q _ _ E (f1.trans (Fw.new n1)) ((((P.fw N f1).fw s1 (Fw.new n1))).set i0 ⟨a,Y,U,s1.nin n1,.inl upd_same,w1.fw s1 (Fw.new n1)⟩) (s1.new n1)
 ·refine⟨λenv st r B=>?_⟩
  simp only[aB,bR,cx,qab,qad]at B;obtain⟨y,⟨r2,hy,rfl⟩,e',ee,rfl⟩:=B;cases ee;refine key _ _ _ _ hy λG φ H D P N q a Y H1 E f1 s1 n1 w1=>?_;exact q _ _ _ (f1.trans (Fw.more n1)) (((P.fw N f1).fw s1 (Fw.more n1)).set i0 ⟨a,by rw[<-s1.len];simp,U⟩) (s1.more n1 w1)
end
def bz (n k:Nat) (b:Sf):Fn
 |ws,st=>if ws.length=k then (b (ws.map some++qaG (n - k) none) st).bind λr=>match r with
 |.nx _ s=>some (.d .non,s)
 |.rt w s=>some (w,s)
 |_=>none
 else none
def zI (n:Nat) (w:W) (s:Sto):Option (W×Sto):=match w with
 |.d x=>some (.d x,s.take n)
 |.h m=>if m<n then some (.h m,s.take n) else (lg s m).map λds=>(.d (.lst ds),s.take n)
def d8 (n k:Nat) (b:Sf):Fn
 |ws,st=>if ws.length=k then (b (ws.map some++qaG (n - k) none) st).bind λr=>match r with
 |.nx _ s=>some (.d .non,s.take st.length)
 |.rt w s=>zI st.length w s
 |_=>none
 else none
section
variable {P:qaO}{w:World}{K:qae}{mg:Str->Option Value}{base:Heap}
theorem nC {k}:∀ {ws}{o},Rws K H φ ws o->ws.length=k->Er K H φ (ws.map some++qaG (N.length - k) none) (iy N o) :=by
 intro ws o r Y;have n:=r.length;refine⟨by unfold iy;simp;lia,λi x e=>?_⟩;unfold iy;by_cases hi:i<ws.length
 ·rw[qaH (by simpa using hi),qay,qad]at e
  obtain⟨y,C,e⟩:=e
  have:∃ v,o[i]?=some v/\Rw K H φ y v:=by
   clear Y n hi e
   induction ws generalizing o i with
   |nil=>simp at C
   |cons w ws ih=>
    obtain⟨v,r',rfl,r1,X⟩:=r;cases i with
    |zero=>simp at C;subst C;exact⟨v,U,r1⟩
    |succ i=>simpa using ih X i (by simpa using C)
  obtain⟨v,ev,rv⟩:=this;cases e;refine⟨v,?_,rv⟩;rw[qaH (by rw[qah,<-n];exact hi),qay,ev];rfl
 ·rw[qaI (by simpa using hi)]at e
  have:=qbS e
  have:=(List.mem_replicate.mp this).2
  cases this
theorem HI {st}(F:Fun K x g st f fd) (S:b5 N ps (au st))
  (hb:∀ (j) (A) (outer) (s) (H) (E),bj k (A.deeper (qeS g (au st) s.heap.objs.size f j))->ISs K (fj CX0 P w K mg base N g (au st) f j A outer s H E).nox (aY st) b) :
  dh P w K mg base CX0 (k+1) f fd ps (spI K (bz N.length ps.length b)) :=by
 refine F.ok S (λo H Q E h=>?_) λj A outer s H o Q E R h=>?_
 ·obtain⟨φ,st,ws,r,e,rw,_⟩:=h
  rw[bz]at e;by_cases n:ws.length=ps.length
  ·rw[<-rw.length,n]
  ·rw[iFN n]at e;cases e
 ·obtain⟨φ,p,ws,r,e,rw,S',q⟩:=h
  rw[bz]at e;by_cases n:ws.length=ps.length
  ·rw[iFP n]at e
   obtain⟨fl,O,u⟩:=qab.mp e;refine⟨_,(hb j A outer s H E R).run _ _ _ O,φ,nC rw n,S',?_⟩;cases fl with
   |nx e s=>cases u;exact λL H' c l e' s'=>q .non H' c l s' U
   |rt w s=>cases u;exact λv H' c l s' D=>q v H' c l s' D
   |bk e s=>cases u
   |ct e s=>cases u
  ·rw[iFN n]at e;cases e
theorem Fw.less (f:Fw φ c H H'):Fw φ φ H H' :=⟨⟨[],by simp,by simp⟩,f.keep,f.there⟩
theorem Gc {st}(F:Fun K x g st f fd) (S:b5 N ps (au st))
  (hb:∀ (j) (A) (outer) (s) (H) (E),bj k (A.deeper (qeS g (au st) s.heap.objs.size f j))->ISs K (fj CX0 P w K mg base N g (au st) f j A outer s H E).nox (aY st) b) :
  dh P w K mg base CX0 (k+1) f fd ps (spI K (d8 N.length ps.length b)) :=by
 refine F.ok S (λo H Q E h=>?_) λj A outer s H o Q E R h=>?_
 ·obtain⟨φ,st,ws,r,e,rw,_⟩:=h
  rw[d8]at e;by_cases n:ws.length=ps.length
  ·rw[<-rw.length,n]
  ·rw[iFN n]at e;cases e
 ·obtain⟨φ,p,ws,r,e,rw,S',q⟩:=h
  rw[d8]at e;by_cases n:ws.length=ps.length
  ·rw[iFP n]at e
   obtain⟨fl,O,u⟩:=qab.mp e;refine⟨_,(hb j A outer s H E R).run _ _ _ O,φ,nC rw n,S',?_⟩;have less:∀ {H':Hp}{c:List Addr}{s':Sto},Fw φ c H H'->Sr K H' c s'->Sr K H' φ (s'.take p.length):=λ{H' c s'} l S2=>by
    obtain⟨ψ,rfl,_⟩:=l.ext;rw[<-S'.len];exact S2.less
   cases fl with
   |nx e s=>cases u;exact λL H' c l e' s'=>q .non H' φ l.less (less l s') U
   |rt w s=>
    intro v H' c l s' D;have B:zI p.length w s=some r:=u;obtain⟨ψ,t,_⟩:=l.ext;cases w with
    |d x=>
     cases B;subst t;exact q v H' φ l.less (less l s') (Rl.less D)
    |h m=>
     obtain⟨a,G,rfl⟩:=D;unfold zI at B;by_cases hm:m<p.length
     ·have e4:=by
       have:=B
       simp only[hm,if_true]at this;exact this
      cases e4;subst t;rw[qaH (by rw[S'.len];exact hm)]at G;exact q _ H' φ l.less (less l s') ⟨a,G,U⟩
     ·simp only[hm,if_false]at B
      obtain⟨ds,J,rfl⟩:=qad.mp B;obtain⟨o,hv,T⟩:=s'.atl m a ds G J;have hn:a∉φ:=λz=>by
       obtain⟨i,hi,ei⟩:=qcK.mp z;have h1:c[i]?=some a:=by subst t;rw[qaH hi,qai hi,ei]
       obtain⟨h2,M⟩:=qas.mp h1;obtain⟨h3,I⟩:=qas.mp G
       have:=(qdV s'.nd).mp (M.trans I.symm)
       rw[S'.len]at hi;lia
      subst t;exact q _ H' φ l.less (less l s') ⟨a,o,U,hn,.inl hv,T.less⟩
   |bk e s=>cases u
   |ct e s=>cases u
  ·rw[iFN n]at e;cases e
end
def bG:D->Bool
 |.non=>true
 |.bl _=>true
 |.int _=>true
 |.str _=>true
 |_=>false
def vOf:D->V
 |.bl b=>.bl b
 |.int i=>.int i
 |.str x=>.str x
 |_=>.non
mutual
def eqD:D->D->Bool
 |.non,.non=>true
 |.bl a,.bl b=>a==b
 |.bl a,.int b=>(if a then 1 else 0)==b
 |.int a,.bl b=>a==(if b then 1 else 0)
 |.int a,.int b=>a==b
 |.str a,.str b=>a==b
 |.tup as,.tup bs=>gC as bs
 |.lst as,.lst bs=>gC as bs
 |_,_=>false
def gC:List D->List D->Bool
 |[],[]=>true
 |a::as,b::bs=>eqD a b&&gC as bs
 |_,_=>false
end
def okD:Nat->D->Bool
 |_,.non=>true
 |_,.bl _=>true
 |_,.int _=>true
 |_,.str _=>true
 |n+1,.tup ds=>ds.all (okD n)
 |n+1,.lst ds=>ds.all (okD n)
 |_,_=>false
def lsD (st:Sto):W->Option (List D)
 |.d (.lst ds)=>some ds
 |.h n=>lg st n
 |_=>none
def aZ (st:Sto) (x y:W):Option D:=match x,y with
 |.d (.int i),.d (.int j)=>some (.int (i+j))
 |.d (.tup a),.d (.tup b)=>if a.length+b.length<=1000000 then some (.tup (a++b)) else none
 |.d (.str a),.d (.str b)=>if a.length+b.length<=1000000 then some (.str (a++b)) else none
 |x,y=>(lsD st x).bind λa=>(lsD st y).bind λb=>if a.length+b.length<=1000000 then some (.lst (a++b)) else none
def gB (_:Sto):W->W->Option D
 |.d (.int i),.d (.int j)=>some (.int (i - j))
 |_,_=>none
instance (a b:Int):Decidable (qhW a b):=by unfold qhW;infer_instance
def aR (_:Sto):W->W->Option D
 |.d (.int i),.d (.int j)=>if qhW i j then some (.int (i*j)) else none
 |.d (.tup a),.d (.int k)=>if a≠[]/\a.length<=1000/\0<=k/\k<1000 then some (.tup (qaG k.toNat a).flatten) else none
 |.d (.lst a),.d (.int k)=>if a.length<=1000/\-1000<=k/\k<1000 then some (.lst (qaG k.toNat a).flatten) else none
 |_,_=>none
def gN (_:Sto):W->W->Option D
 |.d (.int i),.d (.int j)=>if 0<j/\j<1073741824 then some (.int (i / j)) else none
 |_,_=>none
def fk (_:Sto):W->W->Option D
 |.d (.int i),.d (.int j)=>if 0<j then some (.int (i%j)) else none
 |_,_=>none
instance (i j:Int):Decidable (uZ i j):=by unfold uZ;infer_instance
def BS (_:Sto):W->W->Option D
 |.d (.int i),.d (.int j)=>if uZ i j then some (.int (i^j.toNat)) else none
 |_,_=>none
def BU (_:Sto):W->W->Option D
 |.d (.int i),.d (.int j)=>if uZ i j then some (.int (i*2^j.toNat)) else none
 |_,_=>none
def ym (_:Sto):W->W->Option D
 |.d (.int i),.d (.int j)=>if 0<=j then some (.int (i / 2^j.toNat)) else none
 |_,_=>none
def dLt (_:Sto):W->W->Option D
 |.d (.int i),.d (.int j)=>some (.bl (decide (i<j)))
 |_,_=>none
def dLe (_:Sto):W->W->Option D
 |.d (.int i),.d (.int j)=>some (.bl (decide (i<=j)))
 |_,_=>none
def dGt (_:Sto):W->W->Option D
 |.d (.int i),.d (.int j)=>some (.bl (decide (j<i)))
 |_,_=>none
def dGe (_:Sto):W->W->Option D
 |.d (.int i),.d (.int j)=>some (.bl (decide (j<=i)))
 |_,_=>none
noncomputable def cU:D->Bool
 |.non=>true
 |_=>false
def kD (_:Sto):W->W->Option D
 |.d x,.d .non=>some (.bl (cU x))
 |_,_=>none
def tX (_:Sto):W->W->Option D
 |.d x,.d .non=>some (.bl (!cU x))
 |_,_=>none
def inD (x:D) (ds:List D):Bool:=ds.any λy=>eqD y x
def dIn (st:Sto) (x y:W):Option D:=match x with
 |.d x=>(gG st y).bind λds=>if bG x=true/\ds.all bG=true then some (.bl (inD x ds)) else none
 |_=>none
def qL (st:Sto) (x y:W):Option D:=match x with
 |.d x=>(gG st y).bind λds=>if bG x=true/\ds.all bG=true then some (.bl (!inD x ds)) else none
 |_=>none
section
variable {K:qae}{X:Cx}
theorem eO (h:bG d=true) (r:Rl K H φ d v):v=vOf d/\eD v=true :=by
 cases d with
 |non=>cases (r);exact⟨U,U⟩
 |bl b=>cases (r);exact⟨U,U⟩
 |int b=>cases (r);exact⟨U,U⟩
 |str b=>cases (r);exact⟨U,U⟩
 |_=>cases h
theorem qS (G:bG a=true) (hb:bG b=true):eqV (vOf a) (vOf b)=eqD a b :=by
 cases a<;>cases b<;>first|rfl|(cases G;done)|(cases hb)|(done)
theorem oM {H:Hp}{φ:List Addr}:∀ {ds:List D}{m:List V},ds.all bG=true->Rls K H φ ds m->m=ds.map vOf/\m.all eD=true
 |[],_,_,h=>by cases h;exact⟨U,U⟩
 |d::ds,_,h,r=>by
  rw[qbB,qaZ]at h;obtain⟨v,L,rfl,l,k⟩:=r;obtain⟨t,w⟩:=eO h.1 l;obtain⟨u,s⟩:=oM h.2 k;exact⟨by rw[t,u];rfl,by rw[qbB,w,s];rfl⟩
theorem rA (hx:bG x=true):∀ {ds},ds.all bG=true->inV (vOf x) (ds.map vOf)=inD x ds
 |[],_=>rfl
 |d::ds,h=>by
  rw[qbB,qaZ]at h;have E:=rA hx h.2;unfold inV inD at E ⊢;rw[qaz,qco,qco,E,qS h.1 hx]
theorem EJ (h:∀ st x y d,g st x y=some d->∃ i j,x=.d (.int i)/\y=.d (.int j)/\OpR X f (λo p H Q=>o=.int i/\p=.int j/\Q (vOf d) H)/\bG d=true):OpD K X f g :=by
 refine⟨λst x y d hd=>?_⟩;obtain⟨i,j,rfl,rfl,I,J⟩:=h st x y d hd;refine I.imp ?_
 rintro o p H Q ⟨φ,S,l,k,q⟩
 refine⟨l,k,q _ H (aP.refl H) ?_⟩;cases d<;>first|rfl|cases J
theorem w2 {x y:W}{F:Int->Int->Option D} (h:(match x,y with|.d (.int i),.d (.int j)=>F i j|_,_=>none)=some d):∃ i j,x=.d (.int i)/\y=.d (.int j)/\F i j=some d :=by
 split at h
 ·exact⟨_,_,U,U,h⟩
 ·cases h
theorem ifS [Decidable c] {a d:D} (h:(if c then some a else none)=some d):c/\a=d :=by
 split at h
 ·rename_i q
  exact⟨q,qaL h⟩
 ·cases h
theorem gy {F:Int->Int->Option D} (e:∀ st x y,g st x y=match x,y with|.d (.int i),.d (.int j)=>F i j|_,_=>none) (h:∀ i j d,F i j=some d->OpR X f (λo p H Q=>o=.int i/\p=.int j/\Q (vOf d) H)/\bG d=true):OpD K X f g :=EJ λst x y d hd=>by
 rw[e]at hd;obtain⟨i,j,rfl,rfl,hd⟩:=w2 hd;exact⟨i,j,U,U,h i j d hd⟩
theorem sA:OpD K X (qbP .Sub) gB:=gy (λ_ _ _=>rfl) λi j d h=>by cases h;exact⟨EV.imp λ_ _ _ _ q=>⟨i,j,q⟩,U⟩
theorem xr:OpD K X (qb6 .Lt) dLt:=gy (λ_ _ _=>rfl) λi j d h=>by cases h;exact⟨GL.imp λ_ _ _ _ q=>⟨i,j,q⟩,U⟩
theorem xq:OpD K X (qb6 .LtE) dLe:=gy (λ_ _ _=>rfl) λi j d h=>by cases h;exact⟨GK.imp λ_ _ _ _ q=>⟨i,j,q⟩,U⟩
theorem xn:OpD K X (qb6 .Gt) dGt:=gy (λ_ _ _=>rfl) λi j d h=>by cases h;exact⟨GJ.imp λ_ _ _ _ q=>⟨i,j,q⟩,U⟩
theorem xm:OpD K X (qb6 .GtE) dGe:=gy (λ_ _ _=>rfl) λi j d h=>by cases h;exact⟨GI.imp λ_ _ _ _ q=>⟨i,j,q⟩,U⟩
theorem mN:OpD K X (qbP .FloorDiv) gN:=gy (λ_ _ _=>rfl) λi j d h=>by obtain⟨c,rfl⟩:=ifS h;exact⟨CA.imp λ_ _ _ _ q=>⟨i,j,q.1,q.2.1,c,q.2.2⟩,U⟩
theorem sk:OpD K X (qbP .Mod) fk:=gy (λ_ _ _=>rfl) λi j d h=>by obtain⟨c,rfl⟩:=ifS h;exact⟨ER.imp λ_ _ _ _ q=>⟨i,j,q.1,q.2.1,c,q.2.2⟩,U⟩
theorem su:OpD K X (qbP .Pow) BS:=gy (λ_ _ _=>rfl) λi j d h=>by obtain⟨c,rfl⟩:=ifS h;exact⟨ES.imp λ_ _ _ _ q=>⟨i,j,q.1,q.2.1,c,q.2.2⟩,U⟩
theorem sv:OpD K X (qbP .LShift) BU:=gy (λ_ _ _=>rfl) λi j d h=>by obtain⟨c,rfl⟩:=ifS h;exact⟨ET.imp λ_ _ _ _ q=>⟨i,j,q.1,q.2.1,c,q.2.2⟩,U⟩
theorem sw:OpD K X (qbP .RShift) ym:=gy (λ_ _ _=>rfl) λi j d h=>by obtain⟨c,rfl⟩:=ifS h;exact⟨EU.imp λ_ _ _ _ q=>⟨i,j,q.1,q.2.1,c,q.2.2⟩,U⟩
theorem A7 (r:Rl K H φ d v):decide (v=.non)=cU d :=by
 cases d with
 |non=>cases (r);rfl
 |bl b=>cases (r);rfl
 |int b=>cases (r);rfl
 |str b=>cases (r);rfl
 |ty b=>cases (r);rfl
 |dct=>obtain⟨a,rfl,_⟩:=r;rfl
 |scr ns=>obtain⟨a,rfl,_⟩:=r;rfl
 |tup ds=>obtain⟨a,m,rfl,_⟩:=r;rfl
 |lst ds=>obtain⟨a,m,rfl,_⟩:=r;rfl
 |ob ns ds=>obtain⟨a,_,_,_,m,rfl,_⟩:=r;rfl
theorem sj:OpD K X (qb6 .Is) kD:=by
 refine⟨λst x y d h=>?_⟩
 match x,y,h with
 |.d x,.d .non,h=>
  cases h;refine EQ.imp ?_
  rintro o p H Q ⟨φ,S,l,k,q⟩
  refine⟨k,q _ H (aP.refl H) ?_⟩;rw[A7 l];rfl
theorem mO:OpD K X (qb6 .IsNot) tX:=by
 refine⟨λst x y d h=>?_⟩
 match x,y,h with
 |.d x,.d .non,h=>
  cases h;refine CC.imp ?_
  rintro o p H Q ⟨φ,S,l,k,q⟩
  refine⟨k,q _ H (aP.refl H) ?_⟩;rw[A7 l];rfl
theorem xo (A:X.K=K:=by rfl):OpD K X (qb6 .In) dIn:=by
 subst A;refine⟨λst x y d h=>?_⟩
 match x,h with
 |.d x,h=>
  simp only[dIn,qab]at h;obtain⟨ds,z,h⟩:=h;split at h
  ·rename_i n
   cases h;refine yP.imp ?_
   rintro o p H Q ⟨φ,S,l,k,q⟩
   obtain⟨a,m,rfl,C,B⟩:=iP S k z;obtain⟨t,w⟩:=eO n.1 l;obtain⟨u,s⟩:=oM n.2 B;refine⟨a,m,U,C,w,s,q _ H (aP.refl H) ?_⟩;rw[t,u,rA n.1 n.2];rfl
  ·cases h
theorem kg (A:X.K=K:=by rfl):OpD K X (qb6 .NotIn) qL:=by
 subst A;refine⟨λst x y d h=>?_⟩
 match x,h with
 |.d x,h=>
  simp only[qL,qab]at h;obtain⟨ds,z,h⟩:=h;split at h
  ·rename_i n
   cases h;refine sC.imp ?_
   rintro o p H Q ⟨φ,S,l,k,q⟩
   obtain⟨a,m,rfl,C,B⟩:=iP S k z;obtain⟨t,w⟩:=eO n.1 l;obtain⟨u,s⟩:=oM n.2 B;refine⟨a,m,U,C,w,s,q _ H (aP.refl H) ?_⟩;rw[t,u,rA n.1 n.2];rfl
  ·cases h
end
section
variable {K:qae}{X:Cx}
theorem Cy:OpR X (qbP .Add) (λx y H Q=>∃ l b xs zs,x=.ref l/\y=.ref b/\Rd H l (.lst xs)/\Rd H b (.lst zs)/\xs.length+zs.length<=qaF/\∀ p,H p=none->Q (.ref p) (upd H p (.lst (xs++zs)))):=by
 intro E s L H x y v u Q I rx ry h;obtain⟨l,b,xs,zs,rfl,rfl,hH,hB,hz,q⟩:=h;cases rx;cases ry;obtain⟨z,its,n,r,e⟩:=hH.ok I.hok;obtain⟨z2,M,n2,J,e2⟩:=hB.ok I.hok;have G:=r.length;have hl2:=J.length;refine PySem.P.add_list e e2 ?_ (by rw[qaE,qaE];lia);have ea:its.toArray++M.toArray=(its++M).toArray:=by simp
 rw[ea];exact⟨.ref _,_,I.lnew (r.append J) (by rw[qaA];lia),U,q _ I.fresh⟩
theorem Ao:OpR X (qbP .Add) (λx y H Q=>∃ a b xs ys,x=.ref a/\y=.ref b/\SqT X.K H a xs/\SqT X.K H b ys/\xs.length+ys.length<=qaF/\
  (xs=[]->Q (.ref b) H)/\(ys=[]->Q (.ref a) H)/\∀ p,H p=none->Q (.ref p) (upd H p (.tup (xs++ys)))):=by
 intro E s L H x y v u Q I rx ry h;obtain⟨a,b,xs,ys,rfl,rfl,ha,hb,hz,q0,q1,q2⟩:=h;by_cases hx:xs=[]
 ·cases rx
  cases ry;obtain⟨its,N,p1,_⟩:=I.tuple ha;obtain⟨M,J,p2,_⟩:=I.tuple hb;obtain⟨⟨cls,dd,data,sl⟩,ho,hc,n,hd⟩:=id p1;obtain⟨⟨cls2,dd2,data2,sl2⟩,ho2,hc2,n2,hd2⟩:=id p2;subst hc hd hc2 hd2;exact qie ⟨_,ho,U⟩ ⟨_,ho2,U⟩ qgI qhJ qey qer (qeg _ _)
   (tuple_addW0 a b its.toArray M.toArray n n2 dd dd2 sl sl2 (by simp[N.nil_iff.mpr hx])) ⟨ho,ho2,.ref b,H,I,U,q0 hx⟩
 ·exact Cz E s L H _ _ v u Q I rx ry ⟨a,b,xs,ys,U,U,ha,hb,hx,hz,q1,λ_ p C=>q2 p C⟩
theorem kT {st}(S:Sr K H φ st) (r:Rw K H φ w v) (e:lsD st w=some ds):∃ a g,v=.ref a/\Rd H a (.lst g)/\Rls K H φ ds g :=by
 cases w with
 |h n=>
  obtain⟨a,ea,rfl⟩:=r;obtain⟨g,q,rl⟩:=S.atl n a ds ea e;exact⟨a,g,U,.inl q,rl⟩
 |d x=>
  cases x with
  |lst es=>cases e;obtain⟨a,g,rfl,h0,B,A⟩:=r;exact⟨a,g,U,B,A⟩
  |_=>cases e
theorem mil:(1000000)<=qaF :=by decide
theorem jp (hK:X.K=K:=by rfl):OpD K X (qbP .Add) aZ:=by
 subst hK;refine⟨λst x y d h=>?_⟩;have R:(lsD st x).bind (λa=>(lsD st y).bind λb=>if a.length+b.length<=1000000 then some (.lst (a++b)) else none)=some d->OpR X _ (rD X.K st x y d):=λh=>by
  simp only[qab]at h;obtain⟨as,ha,bs,hb,h⟩:=h;split at h
  ·rename_i G
   cases h;refine Cy.imp ?_
   rintro vx vy H Q ⟨φ,S,N,J,q⟩
   obtain⟨a,Y,rfl,B,A⟩:=kT S N ha;obtain⟨b,g,rfl,h3,h4⟩:=kT S J hb;refine⟨a,b,Y,g,U,U,B,h3,by rw[<-A.length,<-h4.length];exact qaN G mil,λp C=>q _ _ (aP.new C _) ?_⟩;exact⟨p,_,U,S.nin C,.inl upd_same,(A.append h4).fw S (Fw.new C)⟩
  ·cases h
 match x,y,h with
 |.d (.int i),.d (.int j),h=>
  cases h;refine EN.imp ?_
  rintro vx vy H Q ⟨φ,S,N,J,q⟩
  exact⟨i,j,N,J,q _ H (aP.refl H) U⟩
 |.d (.tup as),.d (.tup bs),h=>
  simp only[aZ]at h;split at h
  ·rename_i G
   cases h;refine Ao.imp ?_
   rintro vx vy H Q ⟨φ,S,⟨a,Y,rfl,B,A⟩,⟨b,g,rfl,h3,h4⟩,q⟩
   refine⟨a,b,Y,g,U,U,(SqT.of B),(SqT.of h3),by rw[<-A.length,<-h4.length];exact qaN G mil,λe=>?_,λe=>?_,λp C=>?_⟩
   ·subst e
    have:as=[]:=by cases as with|nil=>rfl|cons _ _=>cases A.length
    subst this;exact q _ H (aP.refl H) ⟨b,g,U,h3,h4⟩
   ·subst e
    have:bs=[]:=by cases bs with|nil=>rfl|cons _ _=>cases h4.length
    subst this;exact q _ H (aP.refl H) ⟨a,Y,U,B,by rw[qbY];exact A⟩
   ·exact q _ _ (aP.new C _) ⟨p,_,U,upd_same,(A.append h4).fw S (Fw.new C)⟩
  ·cases h
 |.d (.str as),.d (.str bs),h=>
  simp only[aZ]at h;split at h
  ·rename_i G
   cases h;refine vT.imp ?_
   rintro vx vy H Q ⟨φ,S,N,J,q⟩
   exact⟨as,bs,N,J,qaN G mil,q _ H (aP.refl H) U⟩
  ·cases h
 |.d (.lst as),y,h=>exact R (by cases y with|h n=>exact h|d y=>cases y<;>exact h)
 |.h n,y,h=>exact R (by cases y with|h n=>exact h|d y=>cases y<;>exact h)
theorem xv:OpR X (qbP .Mult) (λx y H Q=>∃ l k xs,x=.ref l/\y=.int k/\Rd H l (.lst xs)/\-(2 ^ 63)<=k/\k < 2 ^ 63/\xs.length*k.toNat<=qaF/\
 ∀ p,H p=none->Q (.ref p) (upd H p (.lst (qaG k.toNat xs).flatten))):=by
 intro E s L H x y v u Q I rx ry h;obtain⟨l,k,xs,rfl,rfl,hH,B,A,hz,q⟩:=h;cases rx;obtain⟨t,rfl⟩:=ry;obtain⟨z,its,n,r,e⟩:=hH.ok I.hok;have hlen:its.toArray.size*k.toNat<=qaF:=by rw[qaE,<-r.length];exact hz
 have hcap:¬ its.toArray.size*k.toNat > (2^63 - 1) / 8:=by
  have:(qaF)<=(2^63 - 1) / 8:=by decide
  lia
 have hfit:¬ (!Builtin.List.listFitsIndex k)=true:=by
  rw[qkw B A];exact qaW
 have hlong:¬ qde (its.toArray.size*k.toNat)=true:=by
  rw[uz hlen];exact qaW
 have hnew:qko (λx1 x2=>x1++x2) #[] (qaG (if its.toArray.isEmpty=true then 0 else k.toNat) its.toArray)=(qaG k.toNat its).flatten.toArray:=by
  have f0:=λm=>by
   have:=kI its m []
   rw[qd5]at this;exact this
  rw[f0];cases its with
  |nil=>simp
  |cons a r'=>rw[iFN (by simp)]
 refine qhj (by decide) ⟨_,e,U⟩ (λs'=>qfw s' k t) noFill_list_mul qjd qfd repeat_list qiT.lookup
  (qcE qfd (qfw s k t) qiU (qiD _ _) (int___rmul___int_list k t l its.toArray n)
    ⟨e,U,⟨_,e,U⟩,qcE F.slot_list_mul ⟨_,e,U⟩ F.entry_list_mul (F.args_list_mul_2 _ _) (AutoListH.list___mul___list_int_3 l its.toArray n k t hfit hcap hlong) ⟨e,?_⟩⟩)
 rw[hnew];exact⟨.ref _,_,I.lnew (r.rep k.toNat) (by rw[rY,qhp];exact hz),U,q _ I.fresh⟩
theorem sq (hK:X.K=K:=by rfl):OpD K X (qbP .Mult) aR:=by
 refine⟨λst x y d h=>?_⟩
 match x,y,h with
 |.d (.int i),.d (.int j),h=>
  simp only[aR]at h;split at h
  ·rename_i G
   cases h;refine CB.imp ?_
   rintro vx vy H Q ⟨φ,S,N,J,q⟩
   exact⟨i,j,N,J,G,q _ H (aP.refl H) U⟩
  ·cases h
 |.d (.tup as),.d (.int k),h=>
  simp only[aR]at h;split at h
  ·rename_i G
   cases h;refine CD.imp ?_
   rintro vx vy H Q ⟨φ,S,⟨a,Y,rfl,B,A⟩,J,q⟩
   have hne:Y≠[]:=by rintro rfl;cases as with|nil=>exact G.1 U|cons _ _=>cases A.length
   refine⟨a,k,Y,U,J,(SqT.of B),hne,by rw[<-A.length];exact G.2.1,G.2.2.1,G.2.2.2,λe=>?_,λ_ p C=>?_⟩
   ·subst e
    exact q _ H (aP.refl H) ⟨a,Y,U,B,by simpa using A⟩
   ·exact q _ _ (aP.new C _) ⟨p,_,U,upd_same,(A.rep _).fw S (Fw.new C)⟩
  ·cases h
 |.d (.lst as),.d (.int k),h=>
  simp only[aR]at h;split at h
  ·rename_i G
   cases h;refine xv.imp ?_
   rintro vx vy H Q ⟨φ,S,⟨a,Y,rfl,h0,B,A⟩,J,q⟩
   refine⟨a,k,Y,U,J,B,by lia,by lia,?_,λp C=>?_⟩
   ·rw[<-A.length]
    have:as.length*k.toNat<=1000*1000:=qdn G.1 (by lia)
    exact qaN this mil
   ·exact q _ _ (aP.new C _) ⟨p,_,U,S.nin C,.inl upd_same,(A.rep _).fw S (Fw.new C)⟩
  ·cases h
def dIx (st:Sto) (x y:W):Option D:=match x,y with
 |.d (.str z),.d (.int i)=>if z.length<=1000000 then (atI z.cps.toList i).map λc=>.str ⟨#[c]⟩ else none
 |x,.d (.int i)=>(gG st x).bind λds=>atI ds i
 |_,_=>none
theorem D2 (r:Rls K H φ ds g) (e:atI ds i=some d):∃ v,atI g i=some v/\Rl K H φ d v :=by
 unfold atI at e ⊢;rw[<-r.length];obtain⟨j,e1,e2⟩:=qab.mp e;obtain⟨v,ev,rv⟩:=r.get e2;exact⟨v,by rw[e1];exact ev,rv⟩
theorem IxR.imp (h:IxR X r) (m:∀ x y H Q,r' x y H Q->r x y H Q):IxR X r' :=λvalue slice E s L H x y v u Q I rx ry q hs=>h value slice E s L H x y v u Q I rx ry (m _ _ _ _ q) hs
theorem Hx (st) (x y) (d) (h:dIx st x y=some d) (hK:X.K=K):IxR X (rD K st x y d) :=by
 subst hK
 match y,h with
 |.d (.int i),h=>
  have seq:(gG st x).bind _=some d->IxR X (rD X.K st x (.d (.int i)) d):=λh=>by
   obtain⟨ds,e1,e2⟩:=qab.mp h;refine rR.imp ?_
   rintro vx vy H Q ⟨φ,S,N,J,q⟩
   obtain⟨a,g,rfl,B,A⟩:=iP S N e1;obtain⟨v,ev,rv⟩:=D2 A e2;rcases B with B|B
   ·exact .inl ⟨a,g,i,v,U,J,B,ev,q _ H (aP.refl H) rv⟩
   ·exact .inr (.inl ⟨a,g,i,v,U,J,B,ev,q _ H (aP.refl H) rv⟩)
  match x,h with
  |.d (.str z),h=>
   simp only[dIx]at h;split at h
   ·rename_i G
    obtain⟨c,e1,rfl⟩:=qad.mp h;refine rR.imp ?_
    rintro vx vy H Q ⟨φ,S,N,J,q⟩
    exact .inr (.inr ⟨z,i,c,N,J,qaN G mil,e1,q _ H (aP.refl H) U⟩)
   ·cases h
  |.d (.tup z),h=>exact seq h
  |.d (.lst z),h=>exact seq h
  |.d (.scr z),h=>exact seq h
  |.h z,h=>exact seq h
 |.d .non,h=>cases x with|h n=>cases h|d x=>cases x<;>cases h
 |.d (.ob _ _),h=>cases x with|h n=>cases h|d x=>cases x<;>cases h
 |.d (.bl _),h=>cases x with|h n=>cases h|d x=>cases x<;>cases h
 |.d (.str _),h=>cases x with|h n=>cases h|d x=>cases x<;>cases h
 |.d (.ty _),h=>cases x with|h n=>cases h|d x=>cases x<;>cases h
 |.d (.scr _),h=>cases x with|h n=>cases h|d x=>cases x<;>cases h
 |.d .dct,h=>cases x with|h n=>cases h|d x=>cases x<;>cases h
 |.d (.tup _),h=>cases x with|h n=>cases h|d x=>cases x<;>cases h
 |.d (.lst _),h=>cases x with|h n=>cases h|d x=>cases x<;>cases h
 |.h _,h=>cases x with|h n=>cases h|d x=>cases x<;>cases h
variable {e a b:Expr}{pos p2:Pos}{f fa fb:Ef}
theorem wI (ha:IE K X a fa) (hb:IE K X b fb) (hs:kW b=true:=by rfl) (hK:X.K=K:=by rfl):IE K X (.Subscript a b pos) (iOp dIx fa fb):=by
 refine⟨λenv st r hr=>?_⟩;simp only[iOp,qab,qad]at hr;obtain⟨x,hx,y,hy,d,hd,rfl⟩:=hr;exact (Aw (Hx _ _ _ _ hd hK) (ha.run _ _ _ hx) (hb.run _ _ _ hy) (nZ hs)).imp λL H Q h=>sS h
abbrev Pf:=Ev->Sto->Option (Option Int×Sto)
def iPn:Pf
 |_,st=>some (none,st)
def Gk:W->Option Int
 |.d (.int i)=>some i
 |_=>none
theorem yA (h:Gk w=some i):w=.d (.int i) :=by
 cases w with
 |h n=>cases h
 |d x=>cases x<;>first|(cases h;done)|(injection h with h;subst h;rfl)
def iPs (f:Ef):Pf
 |env,st=>(f env st).bind λr=>(Gk r.1).map λi=>(some i,r.2)
def tIO (K:qae) (env:Ev) (st:Sto) (r:Option Int×Sto):TO:=λL H Q=>∃ φ,Er K H φ env L/\Sr K H φ st/\∀ H' φ',Fw φ φ' H H'->Sr K H' φ' r.2->Q r.1 H'
structure IO (K:qae) (X:Cx) (e:Option Expr) (f:Pf):Prop where
 run:∀ env st r,f env st=some r->PO X e (tIO K env st r)
theorem PO.imp {e}(h:PO X e t) (m:∀ L H Q,t' L H Q->t L H Q):PO X e t' :=λE s L H Q I q=>h E s L H Q I (m L H Q q)
theorem mm:IO K X none iPn:=by
 refine⟨λenv st r hr=>?_⟩;cases hr;exact CL.imp λL H Q ⟨φ,T,O,q⟩=>q H φ (Fw.refl φ H) O
theorem mn (h:IE K X e f):IO K X (some e) (iPs f):=by
 refine⟨λenv st r hr=>?_⟩;simp only[iPs,qab,qad]at hr;obtain⟨⟨x,s1⟩,hx,i,hi,rfl⟩:=hr;cases yA hi;refine (CM (h.run _ _ _ hx)).imp ?_
 rintro L H Q ⟨φ,T,O,q⟩
 exact⟨φ,T,O,λv H1 P f1 s1 w1=>⟨i,w1,q H1 P f1 s1⟩⟩
def gM (xs:List D) (lo hi:Option Int):List D:=(xs.drop (HT.sIx xs.length 0 lo)).take (HT.sIx xs.length xs.length hi - HT.sIx xs.length 0 lo)
theorem wp (r:Rls K H φ ds g) (lo hi):Rls K H φ (gM ds lo hi) (vb g lo hi) :=by
 unfold gM vb;rw[r.length];exact (r.drop _).take _
def dSl (st:Sto) (x:W) (lo hi:Option Int):Option D:=match x with
 |.d (.tup ds)=>some (.tup (gM ds lo hi))
 |.d (.lst ds)=>some (.lst (gM ds lo hi))
 |.h n=>(lg st n).map λds=>.lst (gM ds lo hi)
 |.d (.scr ns)=>some (.lst (gM (ns.map D.int) lo hi))
 |_=>none
def iSl (f:Ef) (lo hi:Pf):Ef
 |env,st=>(f env st).bind λx=>(lo env x.2).bind λl=>(hi env l.2).bind λu=>(dSl u.2 x.1 l.1 u.1).map λd=>(.d d,u.2)
theorem wJ {lo }(h:IE K X e f) (G:IO K X lo fl) (hh:IO K X hi fh) (hK:X.K=K:=by rfl):IE K X (.Subscript e (.Slice lo hi none p2) pos) (iSl f fl fh) :=by
 subst hK;refine⟨λenv st r hr=>?_⟩;simp only[iSl,qab,qad]at hr;obtain⟨⟨x,s1⟩,hx,l,hl',u,hu',d,hd,rfl⟩:=hr;have list:(∀ {H:Hp}{φ:List Addr}{v:V},Sr X.K H φ u.2->Rw X.K H φ x v->∃ a g ds,v=.ref a/\SqL X.K H a g/\Rls X.K H φ ds g/\d=.lst (gM ds l.1 u.1))->PE X (.Subscript e (.Slice lo hi none p2) pos) (tI X.K env st (.d d,u.2)):=λhq=>by
  refine (uB Da (h.run _ _ _ hx) (G.run _ _ _ hl') (hh.run _ _ _ hu')).imp ?_
  rintro L H Q ⟨φ,T,O,q⟩
  refine⟨φ,T,O,λv H1 P f1 s1 w1=>⟨P,T.fw O f1,s1,λH2 φ2 f2 s2=>⟨φ2,(T.fw O f1).fw s1 f2,s2,λH3 φ3 f3 s3=>?_⟩⟩⟩;obtain⟨a,g,ds,rfl,B,A,rfl⟩:=hq s3 ((w1.fw s1 f2).fw s2 f3);refine⟨a,g,U,B,λp C=>q _ _ φ3 (((f1.trans f2).trans f3).trans (Fw.new C)) (s3.new C) ?_⟩;exact⟨p,_,U,s3.nin C,.inl upd_same,(wp A _ _).fw s3 (Fw.new C)⟩
 match x,hd with
 |.d (.tup ds),hd=>
  cases hd;refine (uB (Eu U) (h.run _ _ _ hx) (G.run _ _ _ hl') (hh.run _ _ _ hu')).imp ?_
  rintro L H Q ⟨φ,T,O,q⟩
  refine⟨φ,T,O,λv H1 P f1 s1 w1=>⟨P,T.fw O f1,s1,λH2 φ2 f2 s2=>⟨φ2,(T.fw O f1).fw s1 f2,s2,λH3 φ3 f3 s3=>?_⟩⟩⟩;obtain⟨a,g,rfl,B,A⟩:=(w1.fw s1 f2).fw s2 f3;refine⟨a,g,U,(SqT.of B),?_⟩;by_cases hc:HT.sIx g.length 0 l.1=0/\HT.sIx g.length g.length u.1=g.length
  ·refine .inr ⟨hc,q _ _ φ3 ((f1.trans f2).trans f3) s3 ⟨a,g,U,B,?_⟩⟩
   have e:gM ds l.1 u.1=ds:=by
    unfold gM;rw[A.length,hc.1,hc.2,qgD,qho,<-A.length,qdT]
   rw[e];exact A
  ·exact .inl ⟨hc,λp C=>q _ _ φ3 (((f1.trans f2).trans f3).trans (Fw.new C)) (s3.new C) ⟨p,_,U,upd_same,(wp A _ _).fw s3 (Fw.new C)⟩⟩
 |.d (.lst ds),hd=>
  cases hd;refine list λ{H φ v} S w=>?_;obtain⟨a,g,rfl,h0,B,A⟩:=w;exact⟨a,g,ds,U,.inl B,A,U⟩
 |.d (.scr ns),hd=>
  cases hd;refine list λ{H φ v} S w=>?_;obtain⟨a,rfl,h⟩:=w;refine⟨a,_,_,U,?_,Rls.of_ints ns,U⟩;rcases h with⟨o,h⟩|h
  ·exact .inl (.inr ⟨o,h⟩)
  ·exact .inr h
 |.h n,hd=>
  obtain⟨ds,e1,rfl⟩:=qad.mp hd;refine list λ{H φ v} S w=>?_;obtain⟨a,ea,rfl⟩:=w;obtain⟨g,q,rl⟩:=S.atl n a ds ea e1;exact⟨a,g,ds,U,SqL.of q,rl,U⟩
end
section
variable {K:qae}{X:Cx}{R:List (Addr×Obj)}{σ:St}{H:Hp}{s:qal}{φ:List Addr}{st:Sto}
theorem dJ:∀ (xs N),((qak (min xs.length N.length)).all (λj=>eqD (xs.getD j .non) (N.getD j .non))&&xs.length==N.length)=gC xs N
 |[],[]=>rfl
 |[],y::N=>by simp[gC]
 |x::xs,[]=>by simp[gC]
 |x::xs,y::N=>by
  show ((qak (min (xs.length+1) (N.length+1))).all _&&(xs.length+1==N.length+1))=(eqD x y&&gC xs N);rw[show min _ _=min xs.length N.length+1 by lia,m7,<-dJ xs N];have e:(xs.length+1==N.length+1)=(xs.length==N.length):=by simp
  rw[e,Bool.and_assoc];rfl
theorem i8 (h:xs.length=N.length):(qak xs.length).all (λj=>eqD (xs.getD j .non) (N.getD j .non))=gC xs N :=by
 rw[<-dJ xs N,<-h,Nat.min_self];simp
theorem t8:∀ {xs N:List D},xs.length≠N.length->gC xs N=false
 |[],[],h=>absurd U h
 |[],_::_,_=>rfl
 |_::_,[],_=>rfl
 |x::xs,y::N,h=>by
  show (eqD x y&&gC xs N)=false;rw[t8 (by intro e;apply h;rw[qat,qat,e]),qiE]
theorem C2 (I:Inv X R σ H s) (h:Rd H a (.lst E)) (h':Rd H a (.lst ws)):E=ws :=I.list_inj (.inl h) (.inl h')
theorem ww (I:Inv X R σ H s):∀ (n) {d e}{v},Rl X.K H φ d v->Rl X.K H φ e v->okD n d=true->okD n e=true->eqD d e=true :=by
 intro n
 induction n with
 |zero=>
  intro d e v m l M F;cases d<;>first|(cases M;done)|skip
  all_goals (cases e<;>first|(cases F;done)|skip)
  all_goals (first|rfl|(cases m.symm.trans l;done)|(cases m.symm.trans l;simp[eqD]))
 |succ n ih=>
  have lists:∀ {ds es:List D}{E:List V},Rls X.K H φ ds E->Rls X.K H φ es E->(∀ d∈ds,okD n d=true)->(∀ d∈es,okD n d=true)->gC ds es=true:=by
   intro ds
   induction ds with
   |nil=>
    intro es E m l _ _;cases m;cases es with
    |nil=>rfl
    |cons e es=>obtain⟨_,_,q,_⟩:=l;cases q
   |cons d ds ihd=>
    intro es E m l M F;obtain⟨v,r,rfl,a1,a2⟩:=m;cases es with
    |nil=>cases l
    |cons e es=>
     obtain⟨v',r',q,b1,b2⟩:=l;cases q;show (eqD d e&&gC ds es)=true;rw[ih a1 b1 (M d qag) (F e qag),ihd a2 b2 (λx hx=>M x (qaj _ hx)) (λx hx=>F x (qaj _ hx))];rfl
  intro d e v m l M F;cases d with
  |tup ds=>
   obtain⟨a,E,rfl,O,L⟩:=m;cases e with
   |tup es=>
    obtain⟨b,G,q,p,B⟩:=l;cases q;rw[I.tuple_inj (SqT.of p) (SqT.of O)]at B;exact lists L B (qaY.mp M) (qaY.mp F)
   |lst es=>
    obtain⟨b,G,q,_,p,B⟩:=l;cases q;obtain⟨_,_,p1,_⟩:=I.tuple (SqT.of O);obtain⟨_,_,f,_⟩:=I.list (.inl p);exact absurd U (qgR f.isList p1)
   |_=>first|(cases F;done)|(cases l)
  |lst ds=>
   obtain⟨a,E,rfl,h0,O,L⟩:=m;cases e with
   |lst es=>
    obtain⟨b,G,q,_,p,B⟩:=l;cases q;rw[C2 I p O]at B;exact lists L B (qaY.mp M) (qaY.mp F)
   |tup es=>
    obtain⟨b,G,q,p,B⟩:=l;cases q;obtain⟨_,_,p1,_⟩:=I.tuple (SqT.of p);obtain⟨_,_,f,_⟩:=I.list (.inl O);exact absurd U (qgR f.isList p1)
   |_=>first|(cases F;done)|(cases l)
  |non=>cases e<;>first|rfl|(cases F;done)|(cases m.symm.trans l)|(cases m;obtain⟨_,_,q,_⟩:=l;cases q)
  |bl b=>cases e<;>first|(cases F;done)|(cases m.symm.trans l;simp[eqD])|(cases m.symm.trans l)|(cases m;obtain⟨_,_,q,_⟩:=l;cases q)
  |int b=>cases e<;>first|(cases F;done)|(cases m.symm.trans l;simp[eqD])|(cases m.symm.trans l)|(cases m;obtain⟨_,_,q,_⟩:=l;cases q)
  |str b=>cases e<;>first|(cases F;done)|(cases m.symm.trans l;simp[eqD])|(cases m.symm.trans l)|(cases m;obtain⟨_,_,q,_⟩:=l;cases q)
  |ty b=>cases M
  |scr b=>cases M
  |dct=>cases M
  |ob _ _=>cases M
theorem dD (r:Rls K H φ ds E) (T:aG E G):∀ (j) (h),∃ v,Rl K H φ (ds.getD j .non) v/\aM v G[j]/\ds.getD j .non∈ds :=by
 intro j h;obtain⟨h',q⟩:=T.at j h;have hd:j<ds.length:=by rw[r.length];exact h'
 have e:=qai hd;obtain⟨v,ev,rl⟩:=r.get e;rw[qai h']at ev;cases ev;refine⟨_,?_,q,?_⟩
 ·rw[qgm,e];exact rl
 ·rw[qgm,e];exact qbC hd
theorem D8 (I:Inv X R σ H s):∀ (n) {A}{d e}{v u}{vv uu},Rl X.K H φ d v->Rl X.K H φ e u->aM v vv->aM u uu->okD n d=true->okD n e=true->A.units+n<cLine->qep A s vv uu (eqD d e) :=by
 have flat:∀ {A:qa1}{d e:D}{v u:V}{vv uu:Value},bG d=true->bG e=true->Rl X.K H φ d v->Rl X.K H φ e u->aM v vv->aM u uu->qep A s vv uu (eqD d e):=by
  intro A d e v u vv uu f1 f2 m l q1 J;obtain⟨P,g1⟩:=eO f1 m;obtain⟨Y,g2⟩:=eO f2 l;rw[<-qS f1 f2,<-P,<-Y];exact vi q1 J g1 g2
 intro n
 induction n with
 |zero=>
  intro A d e v u vv uu m l q1 J M F hu;refine flat ?_ ?_ m l q1 J
  ·cases d<;>first|rfl|cases M
  ·cases e<;>first|rfl|cases F
 |succ n ih=>
  intro A d e v u vv uu m l q1 J M F hu;have c:A.units<cLine:=by lia
  have hu1:A.in1.units+n<cLine:=by show A.units+1+n<cLine;lia
  cases d with
  |tup ds=>
   obtain⟨a,E,rfl,O,L⟩:=m;cases q1;obtain⟨its,T,p1,_⟩:=I.tuple (SqT.of O);cases e with
   |tup es=>
    obtain⟨b,G,rfl,p,B⟩:=id l;cases J;by_cases hab:a=b
    ·subst hab
     rw[ww I (n+1) (d:=.tup ds) ⟨a,E,U,O,L⟩ l M F];exact qfy _
    ·obtain⟨g,o,f,_⟩:=I.tuple (SqT.of p)
     have z:=qe8 (A:=A) p1 f c λj g1 g2=>by
      obtain⟨v1,k1,k2,k3⟩:=dD L T j (by simpa using g1);obtain⟨v2,k4,k5,k6⟩:=dD B o j (by simpa using g2);exact ih k1 k4 (by simpa using k2) (by simpa using k5) (qaY.mp M _ k3) (qaY.mp F _ k6) hu1
     have P:its.toArray.size=ds.length:=by simp[<-T.length,L.length]
     have Y:g.toArray.size=es.length:=by simp[<-o.length,B.length]
     rw[P,Y,dJ]at z;exact qeU hab z
   |lst es=>
    obtain⟨b,G,rfl,_,p,B⟩:=id l;cases J;obtain⟨g,o,f,_⟩:=I.list (.inl p);exact qla p1 f.isList c
   |non=>cases l;cases J;exact qk9 p1 c
   |bl x=>cases l;cases J;exact qlc x p1 c
   |int x=>cases l;obtain⟨t,rfl⟩:=J;exact qlb x t p1 c
   |str x=>cases l;obtain⟨t,rfl⟩:=J;exact qk8 x t p1 c
   |ty _=>cases F
   |scr _=>cases F
   |dct=>cases F
   |ob _ _=>cases F
  |lst ds=>
   obtain⟨a,E,rfl,h0,O,L⟩:=m;cases q1;obtain⟨its,T,p1,_⟩:=I.list (.inl O);cases e with
   |lst es=>
    obtain⟨b,G,rfl,_,p,B⟩:=id l;cases J;by_cases hab:a=b
    ·subst hab
     rw[ww I (n+1) (d:=.lst ds) ⟨a,E,U,h0,O,L⟩ l M F];exact qfy _
    ·obtain⟨g,o,f,_⟩:=I.list (.inl p)
     have P:its.toArray.size=ds.length:=by simp[<-T.length,L.length]
     have Y:g.toArray.size=es.length:=by simp[<-o.length,B.length]
     by_cases hl:ds.length=es.length
     ·have z:=qg2 (A:=A) p1.isList f.isList (by rw[P,Y,hl]) c λj g1 g2=>by
       obtain⟨v1,k1,k2,k3⟩:=dD L T j (by simpa using g1);obtain⟨v2,k4,k5,k6⟩:=dD B o j (by simpa using g2);exact ih k1 k4 (by simpa using k2) (by simpa using k5) (qaY.mp M _ k3) (qaY.mp F _ k6) hu1
      rw[P,i8 hl]at z;exact qeU hab z
     ·show qep A s _ _ (gC ds es)
      rw[t8 hl];exact qeU hab (qfQ (A:=A) p1.isList f.isList (by rw[P,Y];simpa using hl) c)
   |tup es=>
    obtain⟨b,G,rfl,p,B⟩:=id l;cases J;obtain⟨g,o,f,_⟩:=I.tuple (SqT.of p);exact qlm p1.isList f c
   |non=>cases l;cases J;exact qlo p1.isList c
   |bl x=>cases l;cases J;exact qlq x p1.isList c
   |int x=>cases l;obtain⟨t,rfl⟩:=J;exact qlp x t p1.isList c
   |str x=>cases l;obtain⟨t,rfl⟩:=J;exact qln x t p1.isList c
   |ty _=>cases F
   |scr _=>cases F
   |dct=>cases F
   |ob _ _=>cases F
  |non=>
   cases m;cases q1;cases e with
   |tup es=>obtain⟨b,G,rfl,p,B⟩:=l;cases J;obtain⟨_,_,f,_⟩:=I.tuple (SqT.of p);exact qlh f c
   |lst es=>obtain⟨b,G,rfl,_,p,B⟩:=l;cases J;obtain⟨_,_,f,_⟩:=I.list (.inl p);exact qlj f.isList c
   |_=>first|(cases F;done)|exact flat U U (d:=.non) U l (v:=.non) U J
  |bl x=>
   cases m;cases q1;cases e with
   |tup es=>obtain⟨b,G,rfl,p,B⟩:=l;cases J;obtain⟨_,_,f,_⟩:=I.tuple (SqT.of p);exact qlw x f c
   |lst es=>obtain⟨b,G,rfl,_,p,B⟩:=l;cases J;obtain⟨_,_,f,_⟩:=I.list (.inl p);exact qlz x f.isList c
   |_=>first|(cases F;done)|exact flat U U (d:=.bl x) U l (v:=.bl x) U J
  |int x=>
   cases m;obtain⟨t1,rfl⟩:=q1;cases e with
   |tup es=>obtain⟨b,G,rfl,p,B⟩:=l;cases J;obtain⟨_,_,f,_⟩:=I.tuple (SqT.of p);exact qlr x t1 f c
   |lst es=>obtain⟨b,G,rfl,_,p,B⟩:=l;cases J;obtain⟨_,_,f,_⟩:=I.list (.inl p);exact qlt x t1 f.isList c
   |_=>first|(cases F;done)|exact flat U U (d:=.int x) U l (v:=.int x) ⟨t1,U⟩ J
  |str x=>
   cases m;obtain⟨t1,rfl⟩:=q1;cases e with
   |tup es=>obtain⟨b,G,rfl,p,B⟩:=l;cases J;obtain⟨_,_,f,_⟩:=I.tuple (SqT.of p);exact qld x t1 f c
   |lst es=>obtain⟨b,G,rfl,_,p,B⟩:=l;cases J;obtain⟨_,_,f,_⟩:=I.list (.inl p);exact qlf x t1 f.isList c
   |_=>first|(cases F;done)|exact flat U U (d:=.str x) U l (v:=.str x) ⟨t1,U⟩ J
  |ty _=>cases M
  |scr _=>cases M
  |dct=>cases M
  |ob _ _=>cases M
theorem Fi (ry:aM y u) (C:aM x v) (fy:eD y=true) (fx:eD x=true):qjZ A s u v (eqV y x) :=by
 cases y with
 |non=>
  cases ry;cases x with
  |non=>cases C;exact qkN
  |bl b=>cases C;exact qkQ b
  |int b=>obtain⟨t,rfl⟩:=C;exact qkP b t
  |str b=>obtain⟨t,rfl⟩:=C;exact qkM b t
  |_=>cases fx
 |bl a=>
  cases ry;cases x with
  |non=>cases C;exact qk4 a
  |bl b=>cases C;exact qk7 a b
  |int b=>obtain⟨t,rfl⟩:=C;exact qk6 a b t
  |str b=>obtain⟨t,rfl⟩:=C;exact qk3 a b t
  |_=>cases fx
 |int a=>
  obtain⟨t',rfl⟩:=ry;cases x with
  |non=>cases C;exact qkY a t'
  |bl b=>cases C;exact qk1 a t' b
  |int b=>obtain⟨t,rfl⟩:=C;exact qk0 a t' b t
  |str b=>obtain⟨t,rfl⟩:=C;exact qkX a t' b t
  |_=>cases fx
 |str a=>
  obtain⟨t',rfl⟩:=ry;cases x with
  |non=>cases C;exact qkH a t'
  |bl b=>cases C;exact qkK a t' b
  |int b=>obtain⟨t,rfl⟩:=C;exact qkJ a t' b t
  |str b=>obtain⟨t,rfl⟩:=C;exact qkG a t' b t
  |_=>cases fx
 |_=>cases fy
theorem A1 (ry:aM y u) (C:aM x v) (fy:eD y=true) (fx:eD x=true):qiM A s u v (!eqV y x) :=by
 cases y with
 |non=>
  cases ry;cases x with
  |non=>cases C;exact qjC
  |bl b=>cases C;exact qjF b
  |int b=>obtain⟨t,rfl⟩:=C;exact qjE b t
  |str b=>obtain⟨t,rfl⟩:=C;exact qjB b t
  |_=>cases fx
 |bl a=>
  cases ry;cases x with
  |non=>cases C;exact qjV a
  |bl b=>cases C;exact qjY a b
  |int b=>obtain⟨t,rfl⟩:=C;exact qjX a b t
  |str b=>obtain⟨t,rfl⟩:=C;exact qjU a b t
  |_=>cases fx
 |int a=>
  obtain⟨t',rfl⟩:=ry;cases x with
  |non=>cases C;exact qjP a t'
  |bl b=>cases C;exact qjS a t' b
  |int b=>obtain⟨t,rfl⟩:=C;exact qjR a t' b t
  |str b=>obtain⟨t,rfl⟩:=C;exact qjO a t' b t
  |_=>cases fx
 |str a=>
  obtain⟨t',rfl⟩:=ry;cases x with
  |non=>cases C;exact qjw a t'
  |bl b=>cases C;exact qjz a t' b
  |int b=>obtain⟨t,rfl⟩:=C;exact qjy a t' b t
  |str b=>obtain⟨t,rfl⟩:=C;exact qjv a t' b t
  |_=>cases fx
 |_=>cases fy
inductive Kin where
 |fl (d:D)|tp (ds:List D)|ls (ds:List D)
def n4 (st:Sto):W->Option Kin
 |.d (.tup ds)=>some (.tp ds)
 |.d (.lst ds)=>some (.ls ds)
 |.h n=>(lg st n).map .ls
 |.d .non=>some (.fl .non)
 |.d (.bl b)=>some (.fl (.bl b))
 |.d (.int i)=>some (.fl (.int i))
 |.d (.str x)=>some (.fl (.str x))
 |_=>none
def eqK:Kin->Kin->Option Bool
 |.fl a,.fl b=>some (eqD a b)
 |.tp as,.tp bs=>if (as.isEmpty||bs.isEmpty)=true then some (as.isEmpty&&bs.isEmpty) else if as.all (okD 60)=true/\bs.all (okD 60)=true then some (gC as bs) else none
 |.ls as,.ls bs=>if as.length=bs.length then (if as.all (okD 60)=true/\bs.all (okD 60)=true then some (gC as bs) else none) else some false
 |.fl _,.tp _=>some false
 |.tp _,.fl _=>some false
 |.fl _,.ls _=>some false
 |.ls _,.fl _=>some false
 |.tp _,.ls _=>some false
 |.ls _,.tp _=>some false
def dEq (st:Sto) (x y:W):Option D:=(n4 st x).bind λa=>(n4 st y).bind λb=>(eqK a b).map λk=>.bl k
def dNe (st:Sto) (x y:W):Option D:=(n4 st x).bind λa=>(n4 st y).bind λb=>(eqK a b).map λk=>.bl (!k)
def DV (K:qae) (H:Hp) (φ:List Addr):Kin->V->Prop
 |.fl d,v=>bG d=true/\Rl K H φ d v
 |.tp ds,v=>∃ a E,v=.ref a/\SqT K H a E/\Rls K H φ ds E
 |.ls ds,v=>∃ a E,v=.ref a/\Rd H a (.lst E)/\Rls K H φ ds E
theorem mK (S:Sr K H φ st) (r:Rw K H φ w v) (e:n4 st w=some k):DV K H φ k v :=by
 cases w with
 |h n=>
  obtain⟨a,ea,rfl⟩:=r;obtain⟨ds,P,rfl⟩:=qad.mp e;obtain⟨E,q,rl⟩:=S.atl n a ds ea P;exact⟨a,E,U,.inl q,rl⟩
 |d x=>
  cases x with
  |tup es=>cases e;obtain⟨a,E,rfl,O,L⟩:=r;exact⟨a,E,U,SqT.of O,L⟩
  |lst es=>cases e;obtain⟨a,E,rfl,h0,O,L⟩:=r;exact⟨a,E,U,O,L⟩
  |non=>cases e;exact⟨U,r⟩
  |bl b=>cases e;exact⟨U,r⟩
  |int b=>cases e;exact⟨U,r⟩
  |str b=>cases e;exact⟨U,r⟩
  |_=>cases e
theorem Eh (hr:bj k A):A.in1.units+60<cLine :=by
 have:=hr.un
 lia
theorem A0 (hr:bj k X.A) (I:Inv X R σ H s) (ra:DV X.K H φ a v) (rb:DV X.K H φ b u) (qa:aM v vv) (qb:aM u uu) (e:eqK a b=some r) :
  qjZ X.A s vv uu r/\qiM X.A s vv uu (!r) :=by
 have c:=hr.units0;have items:∀ {ds es:List D}{E G:List V}{its g:List Value},Rls X.K H φ ds E->Rls X.K H φ es G->aG E its->aG G g->ds.all (okD 60)=true->es.all (okD 60)=true->
   ∀ j (g1:j<its.toArray.size) (g2:j<g.toArray.size),qep X.A.in1 s its.toArray[j] g.toArray[j] (eqD (ds.getD j .non) (es.getD j .non)):=by
  intro ds es E G its g L B T o M F j g1 g2;obtain⟨v1,k1,k2,k3⟩:=dD L T j (by simpa using g1);obtain⟨v2,k4,k5,k6⟩:=dD B o j (by simpa using g2);exact D8 I 60 k1 k4 (by simpa using k2) (by simpa using k5) (qaY.mp M _ k3) (qaY.mp F _ k6) (Eh hr)
 match a,b,e with
 |.fl d,.fl d',e=>
  cases e;obtain⟨f1,m⟩:=ra;obtain⟨f2,l⟩:=rb;obtain⟨P,g1⟩:=eO f1 m;obtain⟨Y,g2⟩:=eO f2 l;rw[<-qS f1 f2,<-P,<-Y];exact⟨Fi qa qb g1 g2,A1 qa qb g1 g2⟩
 |.tp ds,.tp es,e=>
  simp only[eqK]at e;obtain⟨a,E,rfl,O,L⟩:=ra;obtain⟨b,G,rfl,p,B⟩:=rb;cases qa;cases qb;obtain⟨its,T,p1,_⟩:=I.tuple O;obtain⟨g,o,f,_⟩:=I.tuple p;have P:its.toArray.size=ds.length:=by simp[<-T.length,L.length]
  have Y:g.toArray.size=es.length:=by simp[<-o.length,B.length]
  split at e
  ·rename_i hc
   cases e;have hv:∀ j (g1:j<its.toArray.size) (g2:j<g.toArray.size),qep X.A.in1 s its.toArray[j] g.toArray[j] (eqD (ds.getD j .non) (es.getD j .non)):=λj g1 g2=>by
    rw[P]at g1;rw[Y]at g2;rw[qgo]at hc;rcases hc with hc|hc
    ·rw[qim.mp hc]at g1;exact absurd g1 (qcR _)
    ·rw[qim.mp hc]at g2;exact absurd g2 (qcR _)
   have z:=qe8 (A:=X.A) p1 f c hv;have z':=qgh (A:=X.A) p1 f c hv;rw[P,Y,dJ]at z z';have e3:gC ds es=(ds.isEmpty&&es.isEmpty):=by
    cases ds with
    |nil=>cases es<;>rfl
    |cons _ _=>cases es with
     |nil=>rfl
     |cons _ _=>cases hc
   rw[e3]at z z';exact⟨z,z'⟩
  ·split at e
   ·rename_i hc
    cases e;have z:=qe8 (A:=X.A) p1 f c (items L B T o hc.1 hc.2);have z':=qgh (A:=X.A) p1 f c (items L B T o hc.1 hc.2);rw[P,Y,dJ]at z z';exact⟨z,z'⟩
   ·cases e
 |.ls ds,.ls es,e=>
  simp only[eqK]at e;obtain⟨a,E,rfl,O,L⟩:=ra;obtain⟨b,G,rfl,p,B⟩:=rb;cases qa;cases qb;obtain⟨its,T,p1,_⟩:=I.list (.inl O);obtain⟨g,o,f,_⟩:=I.list (.inl p);have P:its.toArray.size=ds.length:=by simp[<-T.length,L.length]
  have Y:g.toArray.size=es.length:=by simp[<-o.length,B.length]
  split at e
  ·rename_i hl
   split at e
   ·rename_i hc
    cases e;have z:=qg2 (A:=X.A) p1.isList f.isList (by rw[P,Y,hl]) c (items L B T o hc.1 hc.2);have z':=qjH (A:=X.A) p1.isList f.isList (by rw[P,Y,hl]) c (items L B T o hc.1 hc.2);rw[P,i8 hl]at z z';exact⟨z,z'⟩
   ·cases e
  ·rename_i hl
   cases e;have z':=qjG (A:=X.A) p1.isList f.isList (by rw[P,Y];simpa using hl) c;exact⟨(qfQ (A:=X.A) p1.isList f.isList (by rw[P,Y];simpa using hl) c),z'⟩
 |.fl d,.tp es,e=>
  cases e;obtain⟨f1,m⟩:=ra;obtain⟨b,G,rfl,p,B⟩:=rb;cases qb;obtain⟨g,o,f,_⟩:=I.tuple p;cases d with
  |non=>cases m;cases qa;exact⟨qkL f c,qjA f c⟩
  |bl x=>cases m;cases qa;exact⟨qk2 x f c,qjT x f c⟩
  |int x=>cases m;obtain⟨t,rfl⟩:=qa;exact⟨qkW x t f c,qjN x t f c⟩
  |str x=>cases m;obtain⟨t,rfl⟩:=qa;exact⟨qkF x t f c,qju x t f c⟩
  |_=>cases f1
 |.tp es,.fl d,e=>
  cases e;obtain⟨f1,m⟩:=rb;obtain⟨b,G,rfl,p,B⟩:=ra;cases qa;obtain⟨g,o,f,_⟩:=I.tuple p;cases d with
  |non=>cases m;cases qb;exact⟨qkB f c,qjq f c⟩
  |bl x=>cases m;cases qb;exact⟨qkE x f c,qjt x f c⟩
  |int x=>cases m;obtain⟨t,rfl⟩:=qb;exact⟨qkD x t f c,qjs x t f c⟩
  |str x=>cases m;obtain⟨t,rfl⟩:=qb;exact⟨qkA x t f c,qjp x t f c⟩
  |_=>cases f1
 |.fl d,.ls es,e=>
  cases e;obtain⟨f1,m⟩:=ra;obtain⟨b,G,rfl,p,B⟩:=rb;cases qb;obtain⟨g,o,f,_⟩:=I.list (.inl p);replace f:=f.isList;cases d with
  |non=>cases m;cases qa;exact⟨qkO f c,qjD f c⟩
  |bl x=>cases m;cases qa;exact⟨qk5 x f c,qjW x f c⟩
  |int x=>cases m;obtain⟨t,rfl⟩:=qa;exact⟨qkZ x t f c,qjQ x t f c⟩
  |str x=>cases m;obtain⟨t,rfl⟩:=qa;exact⟨qkI x t f c,qjx x t f c⟩
  |_=>cases f1
 |.ls es,.fl d,e=>
  cases e;obtain⟨f1,m⟩:=rb;obtain⟨b,G,rfl,p,B⟩:=ra;cases qa;obtain⟨g,o,f,_⟩:=I.list (.inl p);replace f:=f.isList;cases d with
  |non=>cases m;cases qb;exact⟨qkT f c,qjK f c⟩
  |bl x=>cases m;cases qb;exact⟨qkV x f c,qjM x f c⟩
  |int x=>cases m;obtain⟨t,rfl⟩:=qb;exact⟨qkU x t f c,qjL x t f c⟩
  |str x=>cases m;obtain⟨t,rfl⟩:=qb;exact⟨qkS x t f c,qjJ x t f c⟩
  |_=>cases f1
 |.tp ds,.ls es,e=>
  cases e;obtain⟨a,E,rfl,O,L⟩:=ra;obtain⟨b,G,rfl,p,B⟩:=rb;cases qa;cases qb;obtain⟨its,T,p1,_⟩:=I.tuple O;obtain⟨g,o,f,_⟩:=I.list (.inl p);exact⟨qkC p1 f.isList c,qjr p1 f.isList c⟩
 |.ls ds,.tp es,e=>
  cases e;obtain⟨a,E,rfl,O,L⟩:=ra;obtain⟨b,G,rfl,p,B⟩:=rb;cases qa;cases qb;obtain⟨its,T,p1,_⟩:=I.list (.inl O);obtain⟨g,o,f,_⟩:=I.tuple p;exact⟨qkR p1.isList f c,qjI p1.isList f c⟩
theorem xk (hr:bj k X.A) (hK:X.K=K:=by rfl):OpD K X (qb6 .Eq) dEq :=by
 subst hK;refine⟨λst x y d h=>?_⟩;simp only[dEq,qab,qad]at h;obtain⟨a,ha,b,hb,r,e,rfl⟩:=h;intro R s σ H vx vy v u Q I C ry q;obtain⟨φ,S,m,l,q⟩:=q;exact (A0 hr I (mK S m ha) (mK S l hb) C ry e).1 _ _ _ _ ⟨.bl r,H,I,U,q _ H (aP.refl H) U⟩
theorem xu (hr:bj k X.A) (hK:X.K=K:=by rfl):OpD K X (qb6 .NotEq) dNe :=by
 subst hK;refine⟨λst x y d h=>?_⟩;simp only[dNe,qab,qad]at h;obtain⟨a,ha,b,hb,r,e,rfl⟩:=h;intro R s σ H vx vy v u Q I C ry q;obtain⟨φ,S,m,l,q⟩:=q;exact (A0 hr I (mK S m ha) (mK S l hb) C ry e).2 _ _ _ _ ⟨.bl _,H,I,U,q _ H (aP.refl H) U⟩
end
section
variable {K:qae}{X:Cx}
noncomputable def a5:List D->Option (List Int)
 |[]=>some []
 |.int i::ds=>(a5 ds).map λr=>i::r
 |_=>none
theorem bv:∀ {ds:List D}{ns:List Int},a5 ds=some ns->ds=ns.map D.int
 |[],_,h=>by cases h;rfl
 |.int i::ds,_,h=>by
  obtain⟨r,e,rfl⟩:=qad.mp h;rw[bv e];rfl
 |.non::_,_,h=>by cases h
 |.bl _::_,_,h=>by cases h
 |.str _::_,_,h=>by cases h
 |.ty _::_,_,h=>by cases h
 |.dct::_,_,h=>by cases h
 |.scr _::_,_,h=>by cases h
 |.tup _::_,_,h=>by cases h
 |.lst _::_,_,h=>by cases h
theorem bh:∀ (ns),a5 (ns.map D.int)=some ns
 |[]=>rfl
 |n::ns=>by rw[qaz,a5,bh ns];rfl
def gJ:List D->Option (List Bool)
 |[]=>some []
 |.bl i::ds=>(gJ ds).map λr=>i::r
 |_=>none
theorem gK:∀ {ds:List D}{ns:List Bool},gJ ds=some ns->ds=ns.map D.bl
 |[],_,h=>by cases h;rfl
 |.bl i::ds,_,h=>by
  obtain⟨r,e,rfl⟩:=qad.mp h;rw[gK e];rfl
 |.non::_,_,h=>by cases h
 |.int _::_,_,h=>by cases h
 |.str _::_,_,h=>by cases h
 |.ty _::_,_,h=>by cases h
 |.dct::_,_,h=>by cases h
 |.scr _::_,_,h=>by cases h
 |.tup _::_,_,h=>by cases h
 |.lst _::_,_,h=>by cases h
theorem jh:∀ (ns),gJ (ns.map D.bl)=some ns
 |[]=>rfl
 |n::ns=>by rw[qaz,gJ,jh ns];rfl
def aV (st:Sto):List W->Option D
 |[.d (.str x)]=>if x.length<=1000000 then some (.int x.length) else none
 |[w]=>(gG st w).map λds=>.int ds.length
 |_=>none
def vd (_:Sto):List W->Option D
 |[.d (.int i)]=>some (.int (if i<0 then -i else i))
 |_=>none
def vf (_:Sto):List W->Option D
 |[.d (.int i)]=>some (.int i)
 |[.d (.bl k)]=>some (.int (if k then 1 else 0))
 |_=>none
def lS (_:Sto):List W->Option D
 |[.d (.lst ds)]=>(a5 ds).map λns=>.int ns.sum
 |_=>none
def BR (_:Sto):List W->Option D
 |[.d (.lst ds)]=>(gJ ds).map λns=>.bl (ns.all id)
 |_=>none
def dk (st:Sto):List W->Option D
 |[w]=>(gG st w).map λds=>.tup ds
 |_=>none
def wV (st:Sto):List W->Option (List D)
 |[w]=>gG st w
 |_=>none
def vV:D->Bool
 |.non=>true
 |.int i=>decide (0<=i)&&decide (i<1024)
 |_=>false
def wq (_:Sto):List W->Option D
 |[.d (.int i)]=>if i.natAbs.log2<1920 then some (.str (toString i)) else none
 |[.d (.tup ds)]=>if ds.all vV=true/\ds.length<=1000 then some (.str (sO (ds.map vOf))) else none
 |_=>none
def FH (st:Sto):W->Option String
 |.d .non=>some "NoneType"
 |.d (.bl _)=>some "bool"
 |.d (.int _)=>some "int"
 |.d (.str _)=>some "str"
 |.d (.tup _)=>some "tuple"
 |.d (.lst _)=>some "list"
 |.d .dct=>some "dict"
 |.h n=>(lg st n).map λ_=>"list"
 |_=>none
def Em (t c:String):Option Bool:=
 if c = "int" then some (t=="int" || t=="bool")
 else if c = "bool"\/c = "str"\/c = "tuple"\/c = "list" then some (t==c)
 else none
def iT (st:Sto):List W->Option D
 |[w,.d (.ty c)]=>(FH st w).bind λt=>(Em t c).map λb=>.bl b
 |_=>none
theorem fN (O:X.K=K:=by rfl):cP K X (.builtin "len") aV:=by
 subst O;refine⟨λst ws d h=>?_⟩;have Y:∀ w,(gG st w).map (λds=>D.int ds.length)=some d->a7 X _ (rCD X.K st [w] d):=λw h=>by
  obtain⟨ds,e,rfl⟩:=qad.mp h;refine qx.imp ?_
  rintro A H Q ⟨φ,S,⟨v,r,rfl,j,rfl⟩,q⟩
  obtain⟨a,C,rfl,m,L⟩:=iP S j e;exact⟨a,C,U,m,q _ H (aP.refl H) (by rw[<-L.length];rfl)⟩
 cases ws with
 |nil=>cases h
 |cons w tl=>
  cases tl with
  |cons _ _=>
   cases w with
   |h n=>cases h
   |d x=>cases x<;>cases h
  |nil=>
   cases w with
   |h n=>exact Y _ h
   |d x=>
    cases x with
    |str x=>
     simp only[aV]at h;split at h
     ·rename_i P
      cases h;refine qy.imp ?_
      rintro A H Q ⟨φ,S,⟨v,r,rfl,j,rfl⟩,q⟩
      exact⟨x,by rw[j],qaN P mil,q _ H (aP.refl H) U⟩
     ·cases h
    |tup ds=>exact Y _ h
    |lst ds=>exact Y _ h
    |scr ds=>exact Y _ h
    |_=>cases h
theorem qC:cP K X (.builtin "abs") vd:=by
 refine⟨λst ws d h=>?_⟩
 match ws,h with
 |[.d (.int i)],h=>
  cases h;refine zu.imp ?_
  rintro A H Q ⟨φ,S,⟨v,r,rfl,j,rfl⟩,q⟩
  exact⟨i,by rw[j],q _ H (aP.refl H) U⟩
theorem qF:cP K X (.type "int") vf:=by
 refine⟨λst ws d h=>?_⟩
 match ws,h with
 |[.d (.int i)],h=>
  cases h;refine pN.imp ?_
  rintro A H Q ⟨φ,S,⟨v,r,rfl,j,rfl⟩,q⟩
  exact .inl ⟨i,by rw[j],q _ H (aP.refl H) U⟩
 |[.d (.bl i)],h=>
  cases h;refine pN.imp ?_
  rintro A H Q ⟨φ,S,⟨v,r,rfl,j,rfl⟩,q⟩
  exact .inr ⟨i,by rw[j],q _ H (aP.refl H) U⟩
theorem qI (hc:X.calm=true:=by rfl) (O:X.K=K:=by rfl):cP K X (.builtin "sum") lS:=by
 refine⟨λst ws d h=>?_⟩
 match ws,h with
 |[.d (.lst ds)],h=>
  obtain⟨ns,e,rfl⟩:=qad.mp h;cases bv e;refine (Gr hc U).imp ?_
  rintro A H Q ⟨φ,S,⟨v,r,rfl,⟨a,C,rfl,h0,m,L⟩,rfl⟩,q⟩
  cases L.ints;exact⟨a,ns,U,.inl m,q _ H (aP.refl H) U⟩
theorem qD (hc:X.calm=true:=by rfl) (O:X.K=K:=by rfl):cP K X (.builtin "all") BR:=by
 refine⟨λst ws d h=>?_⟩
 match ws,h with
 |[.d (.lst ds)],h=>
  obtain⟨ns,e,rfl⟩:=qad.mp h;cases gK e;refine (Gq hc U).imp ?_
  rintro A H Q ⟨φ,S,⟨v,r,rfl,⟨a,C,rfl,h0,m,L⟩,rfl⟩,q⟩
  cases L.bools;exact⟨a,ns,U,.inl m,q _ H (aP.refl H) U⟩
theorem qJ (O:X.K=K:=by rfl):cP K X (.type "tuple") dk:=by
 subst O;refine⟨λst ws d h=>?_⟩
 match ws,h with
 |[w],h=>
  obtain⟨ds,e,rfl⟩:=qad.mp h;refine pq.imp ?_
  rintro A H Q ⟨φ,S,⟨v,r,rfl,j,rfl⟩,q⟩
  obtain⟨a,C,rfl,m,L⟩:=uK S j e;refine⟨a,C,U,?_⟩;rcases m with m|m
  ·exact .inl ⟨m,λl P=>q _ _ (aP.new P _) ⟨l,C,U,upd_same,L.fw S (Fw.new P)⟩⟩
  ·exact .inr ⟨SqT.of m,q _ H (aP.refl H) ⟨a,C,U,m,L⟩⟩
theorem iA (O:X.K=K:=by rfl):tj K X (.type "list") wV:=by
 subst O;refine⟨λst ws d h=>?_⟩
 match ws,h with
 |[w],h=>
  refine qz.imp ?_
  rintro A H Q ⟨φ,S,⟨v,r,rfl,j,rfl⟩,q⟩
  obtain⟨a,C,rfl,m,L⟩:=iP S j h;exact⟨a,C,U,m,λl P=>q l C H (aP.refl H) P L⟩
theorem uD {H:Hp}{φ:List Addr}:∀ {ds:List D}{A:List V},ds.all vV=true->Rls K H φ ds A->A=ds.map vOf/\∀ y∈A,dF y
 |[],_,_,h=>by cases h;exact⟨U,λ_ h=>nomatch h⟩
 |d::ds,_,h,r=>by
  rw[qbB,qaZ]at h;obtain⟨v,vr,rfl,j,r2⟩:=r;obtain⟨e3,e4⟩:=uD h.2 r2;have hv:v=vOf d/\dF v:=by
   cases d with
   |non=>cases (j);exact⟨U,.inl U⟩
   |int i=>
    cases (j)
    have:=h.1
    simp[vV]at this;exact⟨U,.inr ⟨i,U,this.1,this.2⟩⟩
   |_=>cases h.1
  refine⟨by rw[hv.1,e3];rfl,λy T=>?_⟩;rcases qaw.mp T with z|z
  ·rw[z];exact hv.2
  ·exact e4 y z
theorem BM (hr:bj k X.A) (O:X.K=K:=by rfl):cP K X (.builtin "repr") wq :=by
 refine⟨λst ws d h=>?_⟩
 match ws,h with
 |[.d (.int i)],h=>
  simp only[wq]at h;split at h
  ·rename_i P
   cases h;refine (zX hr U).imp ?_
   rintro A H Q ⟨φ,S,⟨v,r,rfl,j,rfl⟩,q⟩
   exact .inl ⟨i,by rw[j],P,q _ H (aP.refl H) U⟩
  ·cases h
 |[.d (.tup ds)],h=>
  simp only[wq]at h;split at h
  ·rename_i P
   cases h;refine (zX hr U).imp ?_
   rintro A H Q ⟨φ,S,⟨v,r,rfl,⟨a,C,rfl,m,L⟩,rfl⟩,q⟩
   obtain⟨e1,e2⟩:=uD P.1 L;exact .inr ⟨a,C,U,(SqT.of m),e2,by rw[<-L.length];exact P.2,q _ H (aP.refl H) (by rw[e1];rfl)⟩
  ·cases h
theorem eZ (N:t = "NoneType"\/t = "bool"\/t = "int"\/t = "str"\/t = "tuple"\/t = "list"\/t = "dict") (h:Em t c=some b):qh0 K (.type t) (.type c)=some b :=by
 unfold Em at h;split at h
 ·rename_i hc
  subst hc;rcases N with rfl|rfl|rfl|rfl|rfl|rfl|rfl<;>(cases h;rfl)
 ·split at h
  ·rename_i _ hc
   rcases hc with rfl|rfl|rfl|rfl<;>rcases N with rfl|rfl|rfl|rfl|rfl|rfl|rfl<;>(cases h;rfl)
  ·cases h
theorem qG (O:X.K=K:=by rfl):cP K X (.builtin "isinstance") iT:=by
 subst O;refine⟨λst ws d h=>?_⟩;unfold iT at h;split at h
 case h_2=>cases h
 rename_i w c;simp only[iT,qab,qad]at h;obtain⟨t,N,b,hb,rfl⟩:=h;intro pins s σ H xs C Q I rv q;obtain⟨φ,S,⟨v,r,rfl,j,u,r',rfl,r2,rfl⟩,q⟩:=q;cases (show u=.ty c from r2);obtain⟨vv,uu,rfl,B,rv2⟩:=rv.two;cases rv2;have fin:∀ tk,EP X pins σ Q (.bool b) { s with toks:=tk }:=λtk=>⟨.bl b,H,I.tok tk,U,q _ H (aP.refl H) U⟩;cases w with
 |h n=>
  obtain⟨a,ea,rfl⟩:=j;obtain⟨ds,eds,rfl⟩:=qad.mp N;obtain⟨A,hv,_⟩:=S.atl n a ds ea eds;exact bS I B (.lst hv) (eZ (by simp) hb) fin
 |d x=>
  cases x with
  |non=>cases N;cases j;exact bS I B .non (eZ (by simp) hb) fin
  |ob _ _=>cases N
  |bl x=>cases N;cases j;exact bS I B (.bl x) (eZ (by simp) hb) fin
  |int x=>cases N;cases j;exact bS I B (.int x) (eZ (by simp) hb) fin
  |str x=>cases N;cases j;exact bS I B (.str x) (eZ (by simp) hb) fin
  |lst ds=>
   cases N;obtain⟨a,A,rfl,h0,m,L⟩:=j;rcases m with m|⟨o,m⟩
   ·exact bS I B (.lst m) (eZ (by simp) hb) fin
   ·exact bS I B (.frz m) (eZ (by simp) hb) fin
  |tup ds=>
   cases N;obtain⟨a,A,rfl,m,L⟩:=j;cases B;obtain⟨its,_,p,_⟩:=I.tuple (SqT.of m);obtain⟨o,e1,e2,_⟩:=p;exact qbT qhd I.kIn ⟨o,e1,e2⟩ (eZ (by simp) hb) (λz=>nomatch z) fin
  |dct=>
   cases N;obtain⟨a,rfl,_,m⟩:=j;rcases m with⟨d,m⟩|⟨d,m⟩
   ·exact bS I B (.dK m) (eZ (by simp) hb) fin
   ·exact bS I B (.dT m) (eZ (by simp) hb) fin
  |ty x=>cases N
  |scr x=>cases N
variable {e a b:Expr}{es:List Expr}{pos:Pos}{f fa fb:Ef}{af:Af}
theorem wK (hg:Gl X x) (hm:X.mg x=none) (hv:qcm x=some (.type c)) (hn:x≠"__name__":=by decide) (hd:(x==("__debug__"))=false:=by decide):IE K X (.Name x pos) (iC (.ty c)) :=
 zR (v:=.ty c) (CF hg hm hv U hn hd) λ_ _=>rfl
def de (g:List D->List W->Option (D×List D)) (o:Ef) (a:Af):Ef
 |env,st=>(o env st).bind λx=>(a env x.2).bind λr=>match x.1 with
 |.h n=>(lg x.2 n).bind λ_=>(lg r.2 n).bind λds=>(g ds r.1).map λy=>(.d y.1,r.2.set n (.l y.2))
 |_=>none
def dw (ds:List D):List W->Option (D×List D)
 |[.d x]=>if ds.length<1000000 then some (.non,ds++[x]) else none
 |_=>none
theorem vm {id}{E}(slot:Slot "list" name id) (hty:typeOf (.builtin id)=pure (.type "method_descriptor")) (hm:MtR X id rr)
  (hg:∀ (H) (φ) (st) (n) (ad) (ds) (A) (ws) (C) (y) (Q),Sr K H φ st->φ[n]?=some ad->lg st n=some ds->H ad=some (.lst A)->Rls K H φ ds A->Rws K H φ ws C->g ds ws=some y->
    (∀ v vs',Rl K H φ y.1 v->Rls K H φ y.2 vs'->(∀ b,v≠.ref b)->Q v (upd H ad (.lst vs')))->rr (.ref ad) C H Q)
  (hfl:∀ ds ws y,g ds ws=some y->bG y.1=true)
  (ho:IE K X a fa) (ha:IA K X (e::es) af) (M:qcJ a name X.env (eval a X.env)=eval a X.env:=by rfl)
  (F:(e::es).all aw=true:=by rfl) (J:(e::es).length<30:=by decide) (G:(E.endLine==pos.line)=true:=by rfl) (O:X.K=K:=by rfl) :
  IE K X (.Call (.Attribute a name E) (e::es) [] pos) (de g fa af) :=by
 have R:=by rw[qbB,qaZ]at F;exact F
 refine⟨λenv st r hr=>?_⟩;simp only[de,qab]at hr;obtain⟨⟨x,s1⟩,hx,⟨ws,s2⟩,hw,hr⟩:=hr;cases x with
 |d x=>cases hr
 |h n=>
  simp only[qab,qad]at hr;obtain⟨ds1,hds1,ds,hds,y,T,rfl⟩:=hr;refine (Au qeq slot hty hm (ho.run _ _ _ hx) (ha.run _ _ _ hw) M (oS F J) G (aO R.1) (bf R.2)).imp ?_
  rintro σ H Q ⟨φ,hE,hS,q⟩
  refine⟨φ,hE,hS,λv H1 φ1 f1 S1 w1=>?_⟩;obtain⟨ad,ea,rfl⟩:=w1;obtain⟨vs1,hv1,_⟩:=S1.atl n ad _ ea hds1;refine⟨.inl ⟨U,vs1,SqL.of hv1⟩,φ1,hE.fw hS f1,S1,λC H2 φ2 f2 S2 w2=>?_⟩;have ea2:=f2.get ea;obtain⟨vs2,hv2,rl2⟩:=S2.atl n ad ds ea2 hds;refine hg H2 φ2 s2 n ad ds vs2 ws C y _ S2 ea2 hds hv2 rl2 w2 T λv vs' j r2 hb=>?_;obtain⟨f3,S3⟩:=S2.put ea2 r2;exact q v _ φ2 ((f1.trans f2).trans f3) S3 (j.fw S2 f3)
theorem iB {E} (ho:IE K X a fa) (ha:IA K X (e::es) af) (M:qcJ a "append" X.env (eval a X.env)=eval a X.env:=by rfl)
  (F:(e::es).all aw=true:=by rfl) (J:(e::es).length<30:=by decide) (G:(E.endLine==pos.line)=true:=by rfl) (O:X.K=K:=by rfl) :
  IE K X (.Call (.Attribute a "append" E) (e::es) [] pos) (de dw fa af) :=by
 refine vm PySem.F.slot_list_append PySem.F.type_list_append yN (λH φ st n ad ds A ws C y Q S ea eds hv rl rw T q=>?_) (λds ws y h=>?_) ho ha M F J G O
 ·match ws,T with
  |[.d x],T=>
   simp only[dw]at T;split at T
   ·rename_i P
    cases T;obtain⟨v,r,rfl,j,rfl⟩:=rw;exact⟨ad,A,v,U,U,hv,by rw[<-rl.length];exact qaP P mil,q _ _ U (rl.append ⟨v,_,U,j,U⟩) (λb z=>nomatch z)⟩
   ·cases T
 ·match ws,h with
  |[.d x],h=>
   simp only[dw]at h;split at h
   ·cases h;rfl
   ·cases h
end
section
variable {K:qae}{X:Cx}{e a b:Expr}{es:List Expr}{pos:Pos}{f fa Y:Ef}{af:Af}
theorem mv (h:∀ ta,PA X [a,b] ta->PS X (.Assign [.Tuple [.Name x R,.Name y py] kt pt] (.Tuple [a,b] k2 pt2) pos) (Hm i j ta)) (J:IA K X [a,b] af) :
  IS K X (.Assign [.Tuple [.Name x R,.Name y py] kt pt] (.Tuple [a,b] k2 pt2) pos) (uf i j af) :=by
 refine⟨λenv st r l=>?_⟩;simp only[uf,qab]at l;obtain⟨⟨ws,s1⟩,N,l⟩:=l;dsimp only at l;split at l
 case h_2=>cases l
 rename_i x y;cases l;refine (h _ (J.run _ _ _ N)).imp ?_
 rintro D σ H ⟨φ,E,w,q⟩
 refine⟨φ,E,w,λvs H1 A F s1 O=>?_⟩;obtain⟨v,r,rfl,r1,u,r',rfl,L,r3⟩:=O;cases r3;exact⟨v,u,U,q _ H1 A F (((E.fw w F).set i r1).set j L) s1⟩
def rL (K:qae) (st:Sto) (x y:W) (ds:List D):R2:=λvx vy H Q=>∃ φ,Sr K H φ st/\Rw K H φ x vx/\Rw K H φ y vy/\∀ p s,H p=none->Rls K H φ ds s->Q (.ref p) (upd H p (.lst s))
structure OpL (K:qae) (X:Cx) (f:Value->Value->Sem Value) (g:Sto->W->W->Option (List D)):Prop where
 run:∀ st x y d,g st x y=some d->OpR X f (rL K st x y d)
def ue (g:Sto->W->W->Option (List D)) (a b:Ef):Lf
 |env,st=>(a env st).bind λx=>(b env x.2).bind λy=>(g y.2 x.1 y.1).map λd=>(d,y.2)
theorem wM (ho:OpL K X (qbP op) g) (J:IE K X a fa) (hb:IE K X b Y):IL K X (.BinOp a op b pos) (ue g fa Y) :=by
 refine⟨λenv st r l=>?_⟩;simp only[ue,qab,qad]at l;obtain⟨x,hx,y,N,d,hd,rfl⟩:=l;refine (DF (ho.run _ _ _ _ hd) (J.run _ _ _ hx) (hb.run _ _ _ N)).imp ?_
 rintro σ H Q ⟨φ,E,w,q⟩
 exact⟨φ,E,w,λv H1 A F s1 O=>⟨A,E.fw w F,s1,λu H2 C P T w2=>⟨C,T,O.fw s1 P,w2,λp s M r=>q p s H2 C (F.trans P) T M r⟩⟩⟩
def n8 (_:Sto):W->W->Option (List D)
 |.d (.lst a),.d (.int k)=>if a.length<=1000/\-1000<=k/\k<1000 then some (qaG k.toNat a).flatten else none
 |_,_=>none
theorem sB:OpL K X (qbP .Mult) n8:=by
 refine⟨λst x y d h=>?_⟩
 match x,y,h with
 |.d (.lst as),.d (.int k),h=>
  simp only[n8]at h;split at h
  ·rename_i hl
   cases h;refine xv.imp ?_
   rintro vx vy H Q ⟨φ,S,⟨a,s,rfl,h0,G,B⟩,L,q⟩
   refine⟨a,k,s,U,L,G,by lia,by lia,?_,λp M=>q p _ M (B.rep _)⟩;rw[<-B.length]
   have:as.length*k.toNat<=1000*1000:=qdn hl.1 (by lia)
   exact qaN this mil
  ·cases h
def vn (x:Int):List Int->List Int
 |[]=>[x]
 |y::c=>if x<=y then x::y::c else y::vn x c
def rK:List Int->List Int
 |[]=>[]
 |x::xs=>vn x (rK xs)
theorem kO (x):∀ c,(vn x c).Perm (x::c)
 |[]=>qdE _
 |y::c=>by
  unfold vn;split
  ·exact qdE _
  ·exact (List.Perm.cons y (kO x c)).trans (List.Perm.swap x y c)
theorem lA:∀ xs,(rK xs).Perm xs
 |[]=>qdE _
 |x::xs=>(kO x _).trans (List.Perm.cons x (lA xs))
theorem ly (x):∀ {c},c.Pairwise (·<=·)->(vn x c).Pairwise (·<=·)
 |[],_=>by simp[vn]
 |y::c,h=>by
  unfold vn;split
  ·rename_i I
   refine qa8.mpr ⟨λz hz=>?_,h⟩;rcases qaw.mp hz with rfl|hz
   ·exact I
   ·exact qen I ((qa8.mp h).1 z hz)
  ·refine qa8.mpr ⟨λz hz=>?_,ly x (qa8.mp h).2⟩
   rcases qaw.mp ((kO x c).mem_iff.mp hz) with rfl|hz
   ·lia
   ·exact (qa8.mp h).1 z hz
theorem i9:∀ xs,(rK xs).Pairwise (·<=·)
 |[]=>List.Pairwise.nil
 |x::xs=>ly x (i9 xs)
theorem uN { c:List Int} (p:xs.Perm c) (G:xs.Pairwise (·<=·)) (B:c.Pairwise (·<=·)):xs=c :=
 qf4 (λa b _ _ G B=>Int.le_antisymm G B) G B p
theorem ky:∀ {ns:List Int}{s:List Value},qcz s ns->aG (ns.map V.int) s
 |_,_,.nil=>.nil
 |_,_,.cons n t h=>.cons ⟨t,U⟩ (ky h)
theorem Db {ad}(hO:BE H) (w:SqL K H ad (ns.map V.int)) (h:∃ st,m [.d (.scr ns)] []=some (.d (.bl true),st)):spI K m [.ref ad] H (λv _=>v=.bl true) λ_ _ _=>False :=by
 obtain⟨st,h⟩:=h;refine⟨_,_,_,_,h,⟨_,_,U,⟨ad,U,?_⟩,U⟩,⟨qdk,U,λn a ds e=>by simp at e⟩,λv H' φ' _ _ r=>r⟩;rcases w with (h|h)|h
 ·rcases hO ad with z|⟨o,xs,z⟩
  ·rw[h]at z;cases z
  ·rw[h]at z;cases z
 ·exact .inl h
 ·exact .inr h
end
end L2
namespace L2
open PySem
theorem bI :∀ {ds} (Pv:Nat->Ev->Sto->Prop) {env}{st},Pv 0 env st->
  (∀ i d env st,ds[i]?=some d->Pv i env st->∃ e f c,cx g (.d d) env=some e/\(body e st=some (.nx f c)\/body e st=some (.ct f c))/\Pv (i+1) f c)->
  ∃ a b,bH g body ds env st=some (.nx a b)/\Pv ds.length a b
 |[],Pv,env,st,j,_=>⟨env,st,U,j⟩
 |d::ds,Pv,env,st,j,k=>by
  obtain⟨e,f,c,r,h,m⟩:=k 0 d env st U j;obtain⟨o,s',n,l⟩:=bI _ m λi q a b hd p=>k (i+1) q a b (by simpa using hd) p;refine⟨o,s',?_,l⟩;unfold bH;rw[r,qac];rcases h with h|h<;>(rw[h];exact n)
theorem rW {env}:∀ {ds} (Pv:Nat->List D->Sto->Prop) {st}{b},Pv 0 b st->
  (∀ i d c st,ds[i]?=some d->Pv i c st->∃ f,cx g (.d d) env=some f/\((∃ s1 x k,tt f st=some (true,s1)/\te f s1=some (.d x,k)/\Pv (i+1) (c++[x]) k)\/∃ s1,tt f st=some (false,s1)/\Pv (i+1) c s1))->
  ∃ c a,lcI g tt te env ds st=some (c,a)/\Pv ds.length (b++c) a
 |[],Pv,st,b,m,_=>⟨_,st,U,by rw[qbY];exact m⟩
 |d::ds,Pv,st,b,m,q=>by
  obtain⟨f,r,h⟩:=q 0 d b st U m;rcases h with⟨s1,x,k,h,s,l⟩|⟨s1,h,l⟩
  ·obtain⟨c,s',j,o⟩:=rW _ l λi n e a hd p=>q (i+1) n e a (by simpa using hd) p
   refine⟨_,s',?_,by simpa using o⟩;unfold lcI;rw[r,qac,h,qac,s,qac,j];rfl
  ·obtain⟨c,s',j,o⟩:=rW _ l λi n e a hd p=>q (i+1) n e a (by simpa using hd) p
   refine⟨c,s',?_,by simpa using o⟩;unfold lcI;rw[r,qac,h,qac,iFN qaW,j]
theorem jZ (p) (F):∀ {ds},(∀ d∈ds,∃ a,cx g (.d d) env=some a/\tt a st=some (p d,st)/\(p d=true->te a st=some (.d (F d),st)))->
  lcI g tt te env ds st=some ((ds.filter p).map F,st)
 |[],_=>rfl
 |d::ds,h=>by
  obtain⟨a,f,e,c⟩:=h d qag;have b:=jZ p F λx hx=>h x (qaj _ hx);unfold lcI;rw[f,qac,e,qac];cases hp:p d with
  |true=>rw[c hp,qac,b,qdp,hp];rfl
  |false=>rw[b,qdp,hp];rfl
theorem rX (F) (h:∀ d∈ds,∃ a,cx g (.d d) env=some a/\te a st=some (.d (F d),st)):lcI g aJ te env ds st=some (ds.map F,st) :=by
 have:=jZ (tt:=aJ) _ F λd hd=>by
  obtain⟨a,c,b⟩:=h d hd;exact⟨a,c,U,λ_=>b⟩
 rw[this,qhC.mpr λ_ _=>rfl]
theorem cL (h:-(2^64)<a/\a<2^64):qbW a b :=BC.ok (.inl h)
theorem cM (h:-(2^64)<b/\b<2^64):qbW a b :=BC.ok (.inr h)
theorem D1 (a:α) (l):atI (a::l) 0=some a :=di U
theorem HR (n):ixN (n+1) 0=some 0 :=eF (by lia)
theorem C4 (h:(cW 0 n)[i]?=some d):d=.int (i)/\i<n :=by
 rw[uJ]at h;by_cases hi:i<n
 ·rw[iFP hi]at h
  cases h;exact⟨by rw[qcc],hi⟩
 ·rw[iFN hi]at h;cases h
end L2
namespace L2
open PySem PySem.Spec PyProof.Rows
def F2:Nat->Nat->StateT qb8 Sem (Option Nat):=sortPriv% PySem.Builtin.countRun
def D3:Nat->Nat->Nat->StateT qb8 Sem Bool:=sortPriv% PySem.Builtin.binarySort
def Cm (prog:qaO) (w:World) (A:qa1) (s:qal) (a:qdz) (O:qfO) (rk:Keyed->O.α) (S:Keyed->Prop):Prop:=
 ∀ x y,S x->S y->∀ (Q:Bool->qal->Prop) (E:Value->qal->Prop),Q (O.blt (rk x) (rk y)) s->wpAny (model prog w) A (keyLt' a x.1 y.1) Q E s
section
variable {prog:qaO}{w:World}{A:qa1}{E:Value->qal->Prop}{s:qal}{κ:qdz}{O:qfO}{rk:Keyed->O.α}{S:Keyed->Prop}
theorem Hv (z:Cm prog w A s κ O rk S) {st}(q:kindOf st=κ) (hx:S x) (D:S y) (h:Q (some (O.blt (rk x) (rk y))) st) :
  wpS (model prog w) A E s (lt' x y) Q st :=by
 rw[lt'_eq];refine qbI (qhG ?_);rw[q];exact qbI (wpS_lift (qdO (z x y hx D _ _ ⟨U,qcl h⟩)))
theorem lJ [Decidable c] {M}{A'}{E'}{s'}{α}{a b}{Q:α->qb8->Prop}{st} (h:c) (k:wpS M A' E' s' a Q st):wpS M A' E' s' (if c then a else b) Q st :=by rw[iFP h];exact k
theorem qk [Decidable c] {M}{A'}{E'}{s'}{α}{a b}{Q:α->qb8->Prop}{st} (h:¬ c) (k:wpS M A' E' s' b Q st):wpS M A' E' s' (if c then a else b) Q st :=by rw[iFN h];exact k
theorem xV {st}(hi:f[i]?=some x) (h:Q x st):wpS (model prog w) A E s (elem' f i) Q st :=by
 rw[elem'_eq,hi];exact qcl h
theorem xW {st:qb8}(h:Q () st):wpS (model prog w) A E s (liftM (rule t)) Q st :=wpS_lift (qcX ⟨U,h⟩)
def kyd (f:Array Keyed) (i:Nat):Keyed:=(f[i]?).getD (.none,.none)
theorem n5 (h:i<f.size):f[i]?=some (kyd f i) :=by
 unfold kyd;simp[h]
theorem fA (h:a[i]?=b[j]?):kyd a i=kyd b j :=by
 unfold kyd;rw[h]
theorem Dm (z:Cm prog w A s κ O rk S) {st}(q:kindOf st=κ) (hi:i<(arrOf st).size) (m:j<(arrOf st).size) (hx:S (kyd (arrOf st) i)) (D:S (kyd (arrOf st) j))
  (h:Q (some (O.blt (rk (kyd (arrOf st) i)) (rk (kyd (arrOf st) j)))) st):wpS (model prog w) A E s (ltAt' i j) Q st :=by
 refine qbI (qhG ?_);exact qbI (xV (n5 hi) (qbI (xV (n5 m) (Hv z q hx D h))))
structure SB (κ:qdz) (a0:Array Keyed) (lo:Nat) (p0:Array (Nat×Nat×Nat)) (g0:Nat) (st:qb8):Prop where
 perm:(arrOf st).Perm a0
 pre:∀ k,k<lo->(arrOf st)[k]?=a0[k]?
 kind:kindOf st=κ
 fail:qhM st=none
 pend:qfo st=p0
 gal:qiJ st=g0
variable {a0:Array Keyed}{lo:Nat}{p0:Array (Nat×Nat×Nat)}{g0:Nat}{st:qb8}
theorem SB.size (h:SB κ a0 lo p0 g0 st):(arrOf st).size=a0.size:=h.perm.size_eq
theorem SB.mem (h:SB κ a0 lo p0 g0 st) (C:∀ x∈a0.toList,S x) (hi:i<a0.size):S (kyd (arrOf st) i) :=by
 have l:i<(arrOf st).size:=by rw[h.size];exact hi
 refine C _ ((qgp.mp h.perm).mem_iff.mp ?_);have e:=n5 l;rw[qbJ l]at e;rw[<-qaL e];exact Array.getElem_mem_toList l
theorem SB.set (h:SB κ a0 lo p0 g0 st) (J:xs.Perm (arrOf st)) (B:∀ k,k<lo->xs[k]?=(arrOf st)[k]?):SB κ a0 lo p0 g0 (setArr st xs) :=
 ⟨J.trans h.perm,λk q=>(B k q).trans (h.pre k q),h.kind,h.fail,h.pend,h.gal⟩
theorem xU (z:Cm prog w A s κ O rk S) (C:∀ x∈a0.toList,S x) (p:SB κ a0 lo p0 g0 st) (hi:i<a0.size) (m:j<a0.size)
  (h:Q (some (O.blt (rk (kyd (arrOf st) i)) (rk (kyd (arrOf st) j)))) st):wpS (model prog w) A E s (ltAt' i j) Q st :=
 Dm z p.kind (by rw[p.size];exact hi) (by rw[p.size];exact m) (p.mem C hi) (p.mem C m) h
def Up (rk:Keyed->O.α) (f:Array Keyed) (lo n:Nat):Prop:=∀ i j,lo<=i->i<=j->j<lo+n->O.kle (rk (kyd f i)) (rk (kyd f j))
def iR (rk:Keyed->O.α) (f:Array Keyed) (lo n:Nat):Prop:=∀ i j,lo<=i->i<=j->j<lo+n->O.kle (rk (kyd f j)) (rk (kyd f i))
theorem jk (m:j<=xs.size) (k):kyd (qkf xs i j ((j - i) / 2)) k=if i<=k/\k<j then kyd xs (i+j - 1 - k) else kyd xs k :=by
 have e:=qiw (i:=i) m k;by_cases u:i<=k/\k<j
 ·rw[iFP u]at e ⊢;exact fA e
 ·rw[iFN u]at e ⊢;exact fA e
theorem n6 (I:g<xs.size) (hd:d<=g) (k) :
  kyd (bubble xs g d) k=if k=g - d then kyd xs g else if g - d<k/\k<=g then kyd xs (k - 1) else kyd xs k :=by
 have e:=qki I d hd k;by_cases u:k=g - d
 ·rw[iFP u]at e ⊢;exact fA e
 ·rw[iFN u]at e ⊢
  by_cases H:g - d<k/\k<=g
  ·rw[iFP H]at e ⊢;exact fA e
  ·rw[iFN H]at e ⊢;exact fA e
theorem SB.rev (p:SB κ a0 lo p0 g0 st) (hi:lo<=i) (m:j<=a0.size):SB κ a0 lo p0 g0 (setArr st (qkf (arrOf st) i j ((j - i) / 2))) :=
 p.set (mirror_perm _ _ _ _) λk q=>by
  rw[qiw (by rw[p.size];exact m),iFN (by lia)]
theorem iw (m:j<=xs.size) (F:∀ k,i<=k->k<j->rk (kyd xs k)=rk (kyd xs (j - 1))) (k):rk (kyd (qkf xs i j ((j - i) / 2)) k)=rk (kyd xs k) :=by
 rw[jk m];split
 ·rw[F _ (by lia) (by lia),F k (by lia) (by lia)]
 ·rfl
theorem sZ (h:Q () (setArr st (qkf (arrOf st) i j ((j - i) / 2)))):wpS (model prog w) A E s (reverseSlice' i j) Q st :=by
 exact qht h
theorem Up.more (h:Up rk f lo n) (u:1<=n) (B:O.kle (rk (kyd f (lo+n - 1))) (rk (kyd f (lo+n)))):Up rk f lo (n+1) :=by
 intro i j hi o m;by_cases r:j<lo+n
 ·exact h i j hi o r
 ·have v:j=lo+n:=by lia
  subst v;by_cases l:i=lo+n
  ·subst l;exact qc6 _
  ·exact qdS (h i _ hi (by lia) (by lia)) B
theorem iR.more (h:iR rk f lo n) (u:1<=n) (B:O.kle (rk (kyd f (lo+n))) (rk (kyd f (lo+n - 1)))):iR rk f lo (n+1) :=by
 intro i j hi o m;by_cases r:j<lo+n
 ·exact h i j hi o r
 ·have v:j=lo+n:=by lia
  subst v;by_cases l:i=lo+n
  ·subst l;exact qc6 _
  ·exact qdS B (h i _ hi (by lia) (by lia))
theorem Up.one :Up rk f lo 1 :=λi j hi o m=>by
 have:i=j:=by lia
 subst this;exact qc6 _
theorem iR.congr (h:iR rk xs lo n) (e:∀ k,rk (kyd G k)=rk (kyd xs k)):iR rk G lo n :=λi j hi o m=>by
 rw[e,e];exact h i j hi o m
end
section
variable {prog:qaO}{w:World}{A:qa1}{E:Value->qal->Prop}{s:qal}{F:qdz}{O:qfO}{rk:Keyed->O.α}{S:Keyed->Prop}
variable {a0:Array Keyed}{lo:Nat}{L:Array (Nat×Nat×Nat)}{K:Nat}{st:qb8}
theorem Bw {Q:Option (Option Nat)×Nat->qb8->Prop}
  (hf:∀ x n (Q'),1<=n->n < b->(O.blt (rk (kyd (arrOf st) (lo+n))) (rk (kyd (arrOf st) (lo+n - 1)))=true->Q' (.done (none,n)) st)->
    (O.blt (rk (kyd (arrOf st) (lo+n))) (rk (kyd (arrOf st) (lo+n - 1)))=false->Q' (.yield (none,n+1)) st)->wpS (model prog w) A E s (f x (none,n)) Q' st)
  (R:1<=o) (hn:o<=b) (V:Up rk (arrOf st) lo o)
  (h:∀ n,o<=n->n<=b->Up rk (arrOf st) lo n->(n=b\/O.klt (rk (kyd (arrOf st) (lo+n))) (rk (kyd (arrOf st) (lo+n - 1))))->Q (none,n) st):wpS (model prog w) A E s (forIn [o:b] (none,o) f) Q st :=by
 refine qeB (I:=λx c a=>a=st/\c=(none,x)/\Up rk _ lo x) ?_ ?_ ⟨U,U,V⟩
 ·rintro x c a hx X ⟨rfl,rfl,u⟩
  exact hf x x _ (by lia) X (λl=>h x hx (by lia) u (.inr l)) λl=>⟨U,U,u.more (by lia) l⟩
 ·rintro c a ⟨rfl,rfl,u⟩
  rw[show max o b=b by lia]at u ⊢;exact h b hn (qao _) u (.inl U)
def Eqs (rk:Keyed->O.α) (C:Array Keyed) (lo m q:Nat):Prop:=q+1<=m/\∀ i,lo+m - (q+1)<=i->i<lo+m->rk (kyd C i)=rk (kyd C (lo+m - 1))
theorem Dl {Q:Option (Option Nat)×Nat×Nat->qb8->Prop}
  (hf:∀ x n q a (Q'),1<=n->n < b->SB F a0 lo L K a->
    (O.blt (rk (kyd (arrOf a) (lo+n))) (rk (kyd (arrOf a) (lo+n - 1)))=true->0<q->Q' (.yield (none,n+1,0)) (setArr a (qkf (arrOf a) (lo+n - (q+1)) (lo+n) ((lo+n - (lo+n - (q+1))) / 2))))->
    (O.blt (rk (kyd (arrOf a) (lo+n))) (rk (kyd (arrOf a) (lo+n - 1)))=true->q=0->Q' (.yield (none,n+1,0)) a)->
    (O.blt (rk (kyd (arrOf a) (lo+n - 1))) (rk (kyd (arrOf a) (lo+n)))=true->Q' (.done (none,n,q)) a)->
    (O.blt (rk (kyd (arrOf a) (lo+n))) (rk (kyd (arrOf a) (lo+n - 1)))=false->O.blt (rk (kyd (arrOf a) (lo+n - 1))) (rk (kyd (arrOf a) (lo+n)))=false->Q' (.yield (none,n+1,q+1)) a)->
    wpS (model prog w) A E s (f x (none,n,q)) Q' a)
  (R:1<=o) (hn:o<=b) (hz:lo+b<=a0.size) (p:SB F a0 lo L K st) (hd:iR rk (arrOf st) lo o)
  (h:∀ n q a,o<=n->n<=b->SB F a0 lo L K a->iR rk (arrOf a) lo n->Eqs rk (arrOf a) lo n q->Q (none,n,q) a):wpS (model prog w) A E s (forIn [o:b] (none,o,0) f) Q st :=by
 have one:∀ (C:Array Keyed) m,1<=m->Eqs rk C lo m 0:=λC m hm=>⟨by lia,λi R h2=>by rw[show i=lo+m - 1 by lia]⟩;refine qeB (I:=λx c a=>∃ q,c=(none,x,q)/\SB F a0 lo L K a/\iR rk (arrOf a) lo x/\Eqs rk (arrOf a) lo x q) ?_ ?_ ⟨0,U,p,hd,one _ _ R⟩
 ·rintro x c a hx X ⟨q,rfl,e,u,B⟩
  have H:lo+x<=(arrOf a).size:=by rw[e.size];lia
  refine hf x x q a _ (by lia) X e (λl J=>?_) (λl J=>?_) (λl=>h x q a hx (by lia) e u B) λl P=>?_
  ·exact⟨0,U,e.rev (by have:=B.1;lia) (by lia),iR.congr (u.more (by lia) (qdF l)) (iw (rk:=rk) (xs:=arrOf a) (j:=lo+x) H B.2),one _ _ (by lia)⟩
  ·exact⟨0,U,e,u.more (by lia) (qdF l),one _ _ (by lia)⟩
  ·have eq:=qhf P l
   refine⟨_,U,e,u.more (by lia) (by rw[eq];exact qc6 _),by have:=B.1;lia,λi R h2=>?_⟩;rw[show lo+_ - 1=lo+x by lia,eq];by_cases hi:i=lo+x
   ·rw[hi,eq]
   ·exact B.2 i (by lia) (by lia)
 ·rintro c a ⟨q,rfl,e,u,B⟩
  rw[show max o b=b by lia]at u B ⊢;exact h b q a hn (qao _) e u B
theorem FK {k:Option (Option Nat)×Nat->StateT qb8 Sem (Option Nat)}(p:SB F a0 lo L K st) (hd:iR rk (arrOf st) lo m) (R:1<=m) (hm:m<=b) (hz:lo+b<=a0.size)
  (hf:∀ x n (Q') d,SB F a0 lo L K d->1<=n->n < b->(O.blt (rk (kyd (arrOf d) (lo+n))) (rk (kyd (arrOf d) (lo+n - 1)))=true->Q' (.done (none,n)) d)->
    (O.blt (rk (kyd (arrOf d) (lo+n))) (rk (kyd (arrOf d) (lo+n - 1)))=false->Q' (.yield (none,n+1)) d)->wpS (model prog w) A E s (f x (none,n)) Q' d)
  (hk:∀ n d,SB F a0 lo L K d->1<=n->n<=b->Up rk (arrOf d) lo n->wpS (model prog w) A E s (k (none,n)) Q d) :
  wpS (model prog w) A E s (do reverseSlice' lo (lo+m);let r <-forIn [m:b] (none,m) f;k r) Q st :=by
 refine qbI (sZ ?_);have v:=p.rev (j:=lo+m) (qao _) (by lia);refine qbI (Bw (λx n Q' z y hy G=>hf x n Q' _ v z y hy G) R hm ?_ λn' T D hu' _=>hk n' _ v (by lia) D hu');intro i j hi hij hj;have hs3:lo+m<=(arrOf st).size:=by rw[p.size];lia
 rw[jk hs3,jk hs3,iFP (by lia),iFP (by lia)];exact hd _ _ (by lia) (by lia) (by lia)
set_option maxHeartbeats 1000000 in
theorem Dk (hC:Cm prog w A s F O rk S) (hS:∀ x∈a0.toList,S x) (p:SB F a0 lo L K st) (R:1<=b) (hz:lo+b<=a0.size)
  (h:∀ m a,SB F a0 lo L K a->1<=m->m<=b->Up rk (arrOf a) lo m->Q (some m) a):wpS (model prog w) A E s (F2 lo b) Q st :=by
 have asc:∀ a (_:SB F a0 lo L K a) n (Q':Option Bool->qb8->Prop),1<=n->n<b->Q' _ a->
   wpS (model prog w) A E s (ltAt' (lo+n) (lo+n - 1)) Q' a:=λa e n Q' R h2 J=>xU hC hS e (by lia) (by lia) J
 refine qbI (Bw (rk:=rk) (lo:=lo) (λx n Q' z y hy G=>?_) (qao 1) R Up.one λn z y V Y=>?_)
 ·refine qbI (asc st p n _ z y ?_)
  cases l:O.blt (rk (kyd (arrOf st) (lo+n))) _ with
  |true=>exact qcl (hy l)
  |false=>exact qcl (G l)
 dsimp only;by_cases hnn:n=b
 ·refine lJ (by simpa using hnn) ?_
  exact qcl (h n st p z y V)
 refine qk (by simpa using hnn) ?_;have N:=Y.resolve_left hnn;have hn3:n+1<=b:=by lia
 have H:lo+n<=(arrOf st).size:=by rw[p.size];lia
 by_cases hgt:n > 1
 case' pos=>
  refine lJ hgt ?_;refine qbI (xU hC hS p (by lia) (by lia) ?_);by_cases g:O.blt (rk (kyd (arrOf st) lo)) (rk (kyd (arrOf st) (lo+n - 1)))=true
  ·rw[g];exact qcl (h n st p z y V)
  rw[qeM]at g;rw[g];have t:=λk hk1 hk2=>
   qhf (V k (lo+n - 1) hk1 (by lia) (by lia)) (qdS g (V lo k (by lia) hk1 hk2))
  refine qbI (sZ ?_);have M:=p.rev (i:=lo) (j:=lo+n) (qao _) (by lia);have hd:=by
   refine iR.congr (xs:=arrOf st) (iR.more (λi j hi hij hj=>?_) (by lia) (qdF N)) (iw H t);rw[t i hi (by lia),t j (by lia) hj];exact qc6 _
  clear V N g t p H Y
 case' neg=>
  refine qk hgt ?_;have M:=p;have hd:iR rk (arrOf st) lo (n+1):=by
   refine iR.more (λi j hi hij hj=>?_) (by lia) (qdF N);rw[show i=j by lia];exact qc6 _
  clear V N p H Y
  revert M hd
  generalize st=st2;intro M hd
 all_goals
  refine qbI (xW ?_);refine qbI (Dl (λx m q a Q' hm1 W e c1 c2 c3 c4=>?_) (by lia) hn3 hz M hd λm q a hm1 W e hd' B=>?_)
  ·refine qbI (asc a e m _ hm1 W ?_)
   cases l:O.blt (rk (kyd (arrOf a) (lo+m))) _ with
   |true=>
    dsimp only;refine lJ U ?_;by_cases J:q > 0
    ·rw[iFP J];exact qbI (sZ (qcl (c1 l J)))
    ·rw[iFN J];exact qcl (c2 l (by lia))
   |false=>
    dsimp only;refine qbI (xU hC hS e (by lia) (by lia) ?_);cases P:O.blt _ (rk (kyd (arrOf a) (lo+m))) with
    |true=>exact qcl (c3 P)
    |false=>exact qcl (c4 l P)
  have hsz':lo+m<=(arrOf a).size:=by rw[e.size];lia
  dsimp only;by_cases J:q > 0
  case' pos=>
   refine lJ J ?_;refine qbI (sZ ?_);have hB3:=e.rev (i:=lo+m - (q+1)) (j:=lo+m) (by have:=B.1;lia) (by lia);have hd3:=iR.congr hd' (iw hsz' B.2)
  case' neg=>
   refine qk J ?_;have hB3:=e;have hd3:=hd'
  all_goals
   refine FK hB3 hd3 (by lia) W hz (λx n' Q' d v T D hy G=>?_) λn' d v a1 a2 a3=>qcl (h n' d v a1 a2 a3);refine qbI (asc d v n' _ T D ?_);cases l:O.blt (rk (kyd (arrOf d) (lo+n'))) _ with
   |true=>exact qcl (hy l)
   |false=>exact qcl (G l)
end
section
variable {prog:qaO}{w:World}{A:qa1}{E:Value->qal->Prop}{s:qal}{y:qdz}{O:qfO}{rk:Keyed->O.α}{S:Keyed->Prop}
variable {a0:Array Keyed}{lo:Nat}{C:Array (Nat×Nat×Nat)}{B:Nat}{st:qb8}
set_option maxHeartbeats 1000000 in
theorem Bx (H:Cm prog w A s y O rk S) (N:∀ x∈a0.toList,S x) (K:SB y a0 lo C B st) (z:1<=ok) (hok:ok<=n) (hz:lo+n<=a0.size) (J:Up rk (arrOf st) lo ok)
  (h:∀ a,SB y a0 lo C B a->Up rk (arrOf a) lo n->Q true a):wpS (model prog w) A E s (D3 lo n ok) Q st :=by
 refine qbI (qiF (qeB (I:=λk c a=>c=(none,())/\SB y a0 lo C B a/\Up rk (arrOf a) lo (min k n)) (Q:=λc a=>c=(none,())/\SB y a0 lo C B a/\Up rk (arrOf a) lo n) ?_ ?_ ?_) ?_)
 ·rintro k c a R L ⟨rfl,d,o⟩
  dsimp only
  refine qbI (qiF (qeB (I:=λx c b=>b=a/\∃ l r,c=(none,l,r)/\l<=r/\r<=k/\r - l<=k - x/\(∀ i,i < l->O.kle (rk (kyd (arrOf a) (lo+i))) (rk (kyd (arrOf a) (lo+k))))/\
    ∀ i,r<=i->i<k->O.klt (rk (kyd (arrOf a) (lo+k))) (rk (kyd (arrOf a) (lo+i))))
   (Q:=λc b=>b=a/\∃ l r,c=(none,l,r)/\l<=k/\(∀ i,i<l->O.kle (rk (kyd (arrOf a) (lo+i))) (rk (kyd (arrOf a) (lo+k))))/\∀ i,l<=i->i<k->O.klt (rk (kyd (arrOf a) (lo+k))) (rk (kyd (arrOf a) (lo+i)))) ?_ ?_ ?_) ?_)
  ·rintro x c b _ M ⟨rfl,l,r,rfl,D,p,hm,g,f⟩
   dsimp only;by_cases u:l>=r
   ·refine lJ u ?_
    have e:l=r:=by lia
    subst e;exact qcl ⟨U,l,l,U,p,g,f⟩
   ·refine qk u ?_
    refine qbI (xU H N d (by lia) (by lia) ?_);cases hl:O.blt (rk (kyd (arrOf b) (lo+k))) _ with
    |true=>exact qcl ⟨U,l,(l+r) / 2,U,by lia,by lia,by lia,g,λi z F=>KeyOrd.klt_of_klt_of_kle hl (o _ _ (by lia) (by lia) (by lia))⟩
    |false=>exact qcl ⟨U,(l+r) / 2+1,r,U,by lia,by lia,by lia,λi z=>qdS (o (lo+i) (lo+(l+r) / 2) (by lia) (by lia) (by lia)) hl,f⟩
  ·rintro c b ⟨rfl,l,r,rfl,D,p,hm,g,f⟩
   have e:l=r:=by lia
   subst e;exact⟨U,l,l,U,p,g,f⟩
  ·exact⟨U,0,k,U,by lia,by lia,by lia,λi hi=>by lia,λi z F=>by lia⟩
  ·rintro c b ⟨rfl,l,r,rfl,G,g,f⟩
   dsimp only;refine qbI (m:=moveDown' (lo+k) (lo+l)) ?_;rw[moveDown'_eq];have q:lo+k<(arrOf b).size:=by rw[d.size];lia
   refine qht (qcl ⟨U,d.set (bubble_perm _ _ _) λi hi=>?_,?_⟩)
   ·rw[qki q _ (by lia),iFN (by lia),iFN (by lia)]
   ·intro i j hi P T
    rw[n6 q (by lia),n6 q (by lia),show lo+k - (lo+k - (lo+l))=lo+l by lia];have v:∀ i,lo<=i->i<lo+l->O.kle (rk (kyd (arrOf b) i)) (rk (kyd (arrOf b) (lo+k))):=λi z F=>by
     have:=g (i - lo) (by lia);rwa [show lo+(i - lo)=i by lia]at this
    have t:∀ i,lo+l<=i->i<lo+k->O.klt (rk (kyd (arrOf b) (lo+k))) (rk (kyd (arrOf b) i)):=λi z F=>by
     have:=f (i - lo) (by lia) (by lia);rwa [show lo+(i - lo)=i by lia]at this
    repeat' split
    all_goals first
     |(exfalso;lia)
     |exact qc6 _
     |exact v _ (by lia) (by lia)
     |exact qdF (t _ (by lia) (by lia))
     |exact o _ _ (by lia) (by lia) (by lia)
 ·rintro c a ⟨rfl,d,o⟩
  rw[show min (max (max ok 1) n) n=n by lia]at o;exact⟨U,d,o⟩
 ·rw[show max ok 1=ok by lia,show min ok n=ok by lia]
  exact⟨U,K,J⟩
 ·rintro c a ⟨rfl,d,o⟩
  exact qcl (h a d o)
end
section
variable {O:qfO}{rk:Keyed->O.α}
variable {a b c:Array Keyed}{d f:Nat}
variable {na e:Nat}
end
section
variable {prog:qaO}{w:World}{A:qa1}{E:Value->qal->Prop}{s:qal}{c:qdz}{O:qfO}{rk:Keyed->O.α}{S:Keyed->Prop}{st:qb8}{a b:Array Keyed}
end
section
variable {prog:qaO}{w:World}{A:qa1}{E:Value->qal->Prop}{s:qal}{d:qdz}{O:qfO}{rk:Keyed->O.α}{S:Keyed->Prop}{st:qb8}{a b c:Array Keyed}{na e:Nat}
end
section
variable {prog:qaO}{w:World}{A:qa1}{E:Value->qal->Prop}{s:qal}{n:qdz}{O:qfO}{rk:Keyed->O.α}{S:Keyed->Prop}{st:qb8}{g:Array Keyed}{l m:Nat}
theorem Hs (h:Up rk a 0 a.size):a.toList.Pairwise λx y=>O.kle (rk x) (rk y) :=by
 rw[List.pairwise_iff_getElem];intro i j hi f k;have b:=by simpa using hi
 have c:=by simpa using f
 have q:=h i j (qbM _) (by lia) (by lia);have d:=n5 b;have e:=n5 c;rw[qbJ b]at d;rw[qbJ c]at e;rw[<-qaL d,<-qaL e]at q;simpa using q
end
section
variable {prog:qaO}{w:World}{A:qa1}{E:Value->qal->Prop}{s:qal}{κ:qdz}{O:qfO}{rk:Keyed->O.α}{S:Keyed->Prop}{st:qb8}{a0:Array Keyed}
structure DW (κ:qdz) (O:qfO) (rk:Keyed->O.α) (a0:Array Keyed) (n1:Nat) (st:qb8):Prop where
 perm:(arrOf st).Perm a0
 kind:kindOf st=κ
 fail:qhM st=none
 pend:qfo st=#[(0,n1,0)]
 up:Up rk (arrOf st) 0 n1
theorem GA (B:2<=n) (l:n<64):minRun' n n 0=n :=by
 obtain⟨f,rfl⟩:∃ f,n=f+1:=⟨n - 1,by lia⟩;rw[minRun'_succ,iFP (by lia)]
set_option maxHeartbeats 2000000 in
theorem Do (v:Cm prog w A s κ O rk S) (C:kindOf st=κ) (F:qhM st=none) (D:qfo st=#[]) (o:arrOf st=a0) (z:∀ x∈a0.toList,S x) (B:2<=a0.size) (l:a0.size<64)
  (h:∀ a,(arrOf a).toList.Perm a0.toList->(arrOf a).toList.Pairwise (λx y=>O.kle (rk x) (rk y))->qhM a=none->Q () a):wpS (model prog w) A E s sortRuns' Q st :=by
 obtain⟨k,p,K⟩:∃ k,(sortPriv% PySem.Builtin.minRun) a0.size a0.size 0=k/\k=a0.size:=⟨_,U,GA B l⟩;refine qbI (qhG ?_);have hz:(arrOf st).size=a0.size:=by rw[o]
 dsimp only;rw[hz,p]
 refine qbI (qiF (qeB (I:=λx c a=>(x=0/\c=(none,0)/\SB κ a0 0 #[] (qiJ st) a)\/(c=(none,a0.size)/\DW κ O rk a0 a0.size a/\1<=x))
  (Q:=λc a=>c.1=none/\DW κ O rk a0 a0.size a) ?_ ?_ ?_) ?_)
 ·rintro x c a _ hx H
  rcases H with⟨rfl,rfl,J⟩|⟨rfl,g,r⟩
  ·refine qk (by lia) ?_
   refine qbI (Dk v z J (by lia) (by lia) λm b i G m2 u=>?_);have put:∀ n e,SB κ a0 0 #[] (qiJ st) e->Up rk _ 0 n->n=a0.size->
     DW κ O rk a0 a0.size (qi8 _ _ ((qfo e).push (0,n,0)) (qiJ e) _):=λn e d q hn=>
    ⟨d.perm,d.kind,d.fail,by rw[d.pend,hn];rfl,by rw[<-hn];exact q⟩
   by_cases j:m<k
   ·refine lJ j ?_
    refine qbI (xW (qbI (Bx v z i G (by lia) (by lia) u λe d q=>?_)));have hn:min (a0.size - 0) k=a0.size:=by lia
    refine qbI (qhG ?_);have hb:(qfo e).back?=none:=by rw[d.pend];rfl
    rw[hb];exact qbI (qht (qcl (.inr ⟨by rw[qbg,hn],(put _ e d q hn),by lia⟩)))
   ·refine qk j ?_
    have hn:m=a0.size:=by lia
    refine qbI (qhG ?_);have hb:(qfo b).back?=none:=by rw[i.pend];rfl
    rw[hb];exact qbI (qht (qcl (.inr ⟨by rw[qbg,hn],(put m b i u hn),by lia⟩)))
  ·refine lJ (qao _) ?_
   exact qcl ⟨U,g⟩
 ·rintro c a (⟨hx,_⟩|⟨rfl,g,r⟩)
  ·lia
  ·exact⟨U,g⟩
 ·exact .inl ⟨U,U,by rw[o],λ_ _=>by rw[o],C,F,D,U⟩
 ·rintro⟨c1,c2⟩ a ⟨rfl,g⟩
  refine qbI (qiF (qeB (I:=λy c b=>c=(none,())/\b=a) (Q:=λc b=>c=(none,())/\b=a) ?_ ?_ ?_) ?_)
  ·rintro y c b _ L ⟨rfl,rfl⟩
   refine qbI (qhG ?_);have t:(qfo b).size<=1:=by rw[g.pend];exact qao 1
   refine lJ t ?_;exact qcl ⟨U,U⟩
  ·rintro c b ⟨rfl,rfl⟩
   exact⟨U,U⟩
  ·exact⟨U,U⟩
  ·rintro c b ⟨rfl,rfl⟩
   exact qcl (h _ (qgp.mp g.perm) (Hs (by rw[g.perm.size_eq];exact g.up)) g.fail)
end
end L2
namespace L2
open PySem PySem.Spec PyProof.Rows PySem.SeqAt
open MeetsSeq MeetsSeq2 MeetsSeq3 SeqRoads2
open AutoSeq1 (wpAny_loadPart')
def pj (A:qa1) (s:qal) (y x:Value) (b:Bool):Prop:=∀ (prog:qaO) (w:World) (E:Value->qal->Prop) (Q:Value->qal->Prop),Q (.bool b) s->wpAny (model prog w) A (richCompare .Lt y x) Q E s
def oi (e l:Nat->Bool) (fin:Bool):Nat->Nat->Bool
 |0,_=>fin
 |k+1,i=>if e i=true then oi e l fin k (i+1) else l i
theorem pd (p q) (a c) (n O) (P F) (N B) (e l) :
  Meets (qe6.«tuple.__lt__» ⟨[.ref p,.ref q],[]⟩)
   (λA R s=>(s.heap.get? p=some ⟨.type "tuple",P,.seq a n,N⟩/\s.heap.get? q=some ⟨.type "tuple",F,.seq c O,B⟩)/\
     (∀ j (I) (H:j<c.size),EqAt A.in1 s a[j] c[j] (e j)/\(e j=false->pj A.in1 s a[j] c[j] (l j)))/\
     R (.ok (.ret (.bool (oi e l (decide (a.size<c.size)) (min a.size c.size) 0)))) s) :=
 .of_wp λprog w A R s h=>by
  obtain⟨D,g,d,C,os⟩:=s;obtain⟨⟨I,H⟩,G,h⟩:=h;have Q:=qgg;have E:(a.toList.zip c.toList).length=min a.size c.size:=by simp
  wp_walk using wpAny_loadPart' I,wpAny_loadPart' H,wpAny_forIn_list _ (λm b s'=>b.1=none/\s'=⟨D,g,d,C,os⟩/\∃ i,i<=min a.size c.size/\m=(a.toList.zip c.toList).drop i/\
   R (.ok (.ret (.bool (oi e l (decide (a.size<c.size)) (min a.size c.size - i) i)))) ⟨D,g,d,C,os⟩) _
  case turn=>
   rintro⟨y,x⟩ m b s' ⟨r,rfl,i,hi,hz,t⟩
   have u:i<(a.toList.zip c.toList).length:=by
    rcases qf1 i (a.toList.zip c.toList).length with h'|h'
    ·exact h'
    ·rw[List.drop_of_length_le h']at hz;cases hz
   rw[E]at u;have K:i<a.size:=by lia
   have J:i<c.size:=by lia
   rw[qcg (by rw[E];exact u)]at hz;injection hz with v o;have z:y=a[i]:=by have:=congrArg qdg v;simpa using this
   have hx:x=c[i]:=by have:=congrArg qge v;simpa using this
   subst z hx;obtain⟨k,L⟩:∃ k,min a.size c.size - i=k+1:=⟨min a.size c.size - i - 1,by lia⟩;rw[L]at t;have f:R (.ok (.ret (.bool (if e i=true then oi e l (decide (a.size<c.size)) k (i+1) else l i)))) ⟨D,g,d,C,os⟩:=t;refine qaa ((G i K J).1 prog w _ _ ?_);cases z:e i with
   |true=>
    rw[z,iFP U]at f
    wp_walk
    exact⟨U,U,i+1,by lia,o,by rw[show min a.size c.size - (i+1)=k by lia];exact f⟩
   |false=>
    rw[z,iFN (by simp)]at f;simp only[Bool.not_false,if_true];refine qaa (qcX ?_);refine qaa ((G i K J).2 z prog w _ _ ?_)
    wp_walk
    exact⟨_,U,f⟩
  case fin=>
   rintro⟨T,S⟩ s' ⟨r,rfl,i,hi,hz,t⟩
   simp only at r
   subst r;have M:min a.size c.size<=i:=by
    rcases qf1 i (a.toList.zip c.toList).length with h'|h'
    ·rw[qcg h']at hz;cases hz
    ·rw[E]at h';exact h'
   rw[show min a.size c.size - i=0 by lia]at t
   wp_walk
   exact⟨_,U,by simpa [qji,oi] using t⟩
  case h=>exact⟨U,U,0,qbM _,U,h⟩
section
variable {A:qa1}{s:qal}{p q:Addr}{b a:Array Value}{e l:Nat->Bool}
theorem pj.tuples (z:s.heap.IsTuple p b) (hb:s.heap.IsTuple q a) (y:A.units<cLine) (o:∀ j (C) (B:j<a.size),EqAt A.in1 s b[j] a[j] (e j)/\(e j=false->pj A.in1 s b[j] a[j] (l j))) :
  pj A s (.ref p) (.ref q) (oi e l (decide (b.size<a.size)) (min b.size a.size) 0) :=λprog w E Q h=>by
 obtain⟨⟨cls,v,data,r⟩,k,t,n,hd⟩:=id z;obtain⟨⟨m,i,data2,d⟩,c,f,u,g⟩:=id hb;subst t hd f g;exact richCompare_meets_room ⟨_,k,U⟩ ⟨_,c,U⟩ qeH qgB (qgt _ _) (pd p q b a n u v i r d e l)
  ⟨⟨k,c⟩,o,(λx=>nomatch x),h⟩ y
end
end L2
namespace L2
open PySem PySem.Spec PyProof.Rows PySem.SeqAt PySem.W
def br:List Int->List Int->Bool
 |[],[]=>false
 |[],_::_=>true
 |_::_,[]=>false
 |a::as,b::bs=>if a=b then br as bs else decide (a<b)
theorem oh:∀ a,br a a=false
 |[]=>rfl
 |a::as=>by unfold br;rw[iFP U];exact oh as
theorem ie:∀ a b,br a b=false->br b a=false->a=b
 |[],[],_,_=>rfl
 |[],_::_,h,_=>by cases h
 |_::_,[],_,h=>by cases h
 |a::as,b::bs,h,h'=>by
  unfold br at h h';by_cases e:a=b
  ·subst e
   rw[iFP U]at h h';rw[ie as bs h h']
  ·lia
theorem mM:∀ a b c,br a b=true->br b c=true->br a c=true
 |[],[],_,h,_=>by cases h
 |[],_::_,[],_,h=>by cases h
 |[],_::_,_::_,_,_=>rfl
 |_::_,[],_,h,_=>by cases h
 |_::_,_::_,[],_,h=>by cases h
 |a::as,b::bs,c::f,h,h'=>by
  unfold br at h h' ⊢;by_cases e:a=b
  ·subst e
   rw[iFP U]at h;by_cases d:a=c
   ·subst d;rw[iFP U]at h' ⊢;exact mM as bs f h h'
   ·rw[iFN d]at h' ⊢;exact h'
  ·rw[iFN e,decide_eq_true_iff]at h
   by_cases d:b=c
   ·subst d;rw[iFN e,decide_eq_true_iff];exact h
   ·lia
theorem Aa:∀ a b c,br a c=true->br a b=true\/br b c=true
 |a,b,c,h=>by
  by_cases e:br a b=true
  ·exact .inl e
  ·rw[qeM]at e
   by_cases d:br b a=true
   ·exact .inr (mM b a c d h)
   ·rw[qeM]at d
    rw[ie a b e d]at h;exact .inr h
def OI:qfO:=⟨List Int,br,oh,mM,Aa,ie⟩
def TuI (h:Heap) (v:Value) (l:List Int):Prop:=∃ a its,v=.ref a/\h.IsTuple a its/\qcz its.toList l
def bZ:Value->Int
 |.int n _=>n
 |_=>0
def tuI (h:Heap):Value->List Int
 |.ref a=>match h.get? a with
  |some o=>match o.data with
   |.seq its _=>its.toList.map bZ
   |_=>[]
  |none=>[]
 |_=>[]
theorem nW:∀ {a:List Value}{l:List Int},qcz a l->a.map bZ=l
 |_,_,.nil=>rfl
 |_,_,.cons n t h=>by rw[qaz,nW h];rfl
theorem cq:∀ {a:List Value}{l:List Int},qcz a l->a.length=l.length
 |_,_,.nil=>rfl
 |_,_,.cons n t h=>by rw[qat,qat,cq h]
theorem fU:∀ {a:List Value}{l:List Int},qcz a l->∀ (j:Nat) (h:j<a.length),∃ t,a[j]=.int (l.getD j 0) t
 |_,_,.nil,j,h=>absurd h (qcR j)
 |_,_,.cons n t b,0,h=>⟨t,U⟩
 |_,_,.cons n t b,j+1,h=>by
  obtain⟨t',e⟩:=fU b j _;exact⟨t',by simpa using e⟩
theorem TuI.is (t:TuI h v l):tuI h v=l :=by
 obtain⟨a,its,rfl,⟨o,b,c,n,hd⟩,hi⟩:=t;simp only[tuI,b,hd];exact nW hi
theorem TuI.fit (t:TuI h v l) (c:∀ b o,h.get? b=some o->h'.get? b=some o):TuI h' v l :=by
 obtain⟨a,its,rfl,⟨o,d,r⟩,hi⟩:=t;exact⟨a,its,U,⟨o,c _ _ d,r⟩,hi⟩
theorem oj:∀ (l m) (i) (e f),(∀ j,j<l.length->j<m.length->e (i+j)=decide (l.getD j 0=m.getD j 0)/\f (i+j)=decide (l.getD j 0<m.getD j 0))->
  oi e f (decide (l.length<m.length)) (min l.length m.length) i=br l m
 |[],[],i,e,f,_=>by simp[oi,br]
 |[],b::m,i,e,f,_=>by simp[oi,br]
 |a::l,[],i,e,f,_=>by simp[oi,br]
 |a::l,b::m,i,e,f,h=>by
  have c:=h 0 (by simp) (by simp);rw[qat,qat,show min _ _=min l.length m.length+1 by lia];have d:decide (l.length+1<m.length+1)=decide (l.length<m.length):=by simp
  rw[d];show (if e i=true then oi e f _ _ _ else f i)=if a=b then br l m else decide _;rw[qj6]at c;rw[c.1,c.2];by_cases q:a=b
  ·subst q
   simp only[qbG,decide_true,if_true];exact oj l m _ e f λj k g=>by
    have:=h (j+1) (by simpa using k) (by simpa using g)
    rw[show i+1+j=i+(j+1) by lia];simpa using this
  ·simp[q]
section
variable {prog:qaO}{w:World}{A:qa1}{E:Value->qal->Prop}{s:qal}{x y:Value}{l m:List Int}
theorem pj.ints :pj A s (.int a t) (.int b u) (decide (a<b)) :=λprog w E Q h=>qgj h
theorem EqAt.ints :EqAt A s (.int a t) (.int b u) (decide (a=b)) :=by
 exact (vi (A:=A) (s:=s) (y:=.int a) (x:=.int b) ⟨t,U⟩ ⟨u,U⟩ U U)
theorem TuI.lt (B:TuI s.heap x l) (ty:TuI s.heap y m) (L:A.units<cLine):pj A s x y (br l m):=by
 obtain⟨a,d,rfl,G,g⟩:=B;obtain⟨b,f,rfl,F,k⟩:=ty;have D:d.size=l.length:=by exact cq g
 have K:f.size=m.length:=by exact cq k
 have z:=pj.tuples G F L λj W V=>by
  obtain⟨t,I⟩:=fU g j _;obtain⟨t',H⟩:=fU k j _;rw[qdX]at I H;rw[I,H];exact⟨EqAt.ints,λ_=>pj.ints⟩
 rw[D,K,oj l m 0 _ _ λj G F=>by rw[qbg];exact⟨U,U⟩]at z;exact z
theorem TuI.one (B:TuI s.heap x l) (ty:TuI s.heap y m) (L:A.units<cLine) (h:Q (br l m) s) (b):wpAny (model prog w) A (oneLt' b x y) Q E s :=by
 cases b with
 |false=>exact kat_one _ _ (B.lt ty L _ _ _ _ h)
 |true=>
  refine qaa (wpAny_cRoomFor L ?_);obtain⟨a,d,rfl,G,g⟩:=id B;obtain⟨c,f,rfl,F,k⟩:=id ty;obtain⟨⟨cls,T,data,S⟩,C,R,n,hd⟩:=id G;obtain⟨⟨O,N,data2,M⟩,q,J,P,v⟩:=id F;subst R hd J v;have D:d.size=l.length:=by exact cq g
  have K:f.size=m.length:=by exact cq k
  refine qaa (wpAny_callSpecialIfBound?_slot ⟨_,C,U⟩ qeH (qcE qeH ⟨_,C,U⟩ qgB (qgt _ _)
   (pd a c d f n P T N S M (λj=>decide (l.getD j 0=m.getD j 0)) λj=>decide (l.getD j 0<m.getD j 0)) ⟨⟨C,q⟩,λj W V=>?_,?_⟩))
  ·obtain⟨t,I⟩:=fU g j _
   obtain⟨t',H⟩:=fU k j _;rw[qdX]at I H;rw[I,H];exact⟨EqAt.ints,λ_=>pj.ints⟩
  ·rw[D,K,oj l m 0 _ _ λj G F=>by rw[qbg];exact⟨U,U⟩]
   exact qcu h
theorem Ab {fin}:∀ {d f}{l m} (i),qcz d l->qcz f m->(fin=decide (l.length<m.length))->Q (br l m) s->KatLex prog w A true fin Q (d.zip f) i s
 |_,_,_,_,i,.nil,.nil,p,h=>kat_nil (by rw[p];exact h)
 |_,_,_,_,i,.nil,.cons n t r,p,h=>kat_nil (by rw[p];simpa [br] using h)
 |_,_,_,_,i,.cons n t r,.nil,p,h=>kat_nil (by rw[p];simpa [br] using h)
 |_,_,_,_,i,.cons a t r,.cons b u X,p,h=>by
  refine kat_cons (EqAt.ints prog w _ _ ?_);unfold br at h;by_cases e:a=b
  ·subst e
   rw[iFP U]at h;rw[decide_eq_true U];exact kat_yes (Ab _ r X (by rw[p];simp) h)
  ·rw[iFN e]at h
   rw[decide_eq_false e];refine kat_no ?_;cases (true&&i==0) with
   |true=>exact oneLt_int h
   |false=>exact kat_one _ _ (qgj h)
theorem TuI.tups (B:TuI s.heap x l) (ty:TuI s.heap y m) (h:Q (br l m) s):wpAny (model prog w) A (keyLt' (tuples' true) x y) Q E s :=by
 obtain⟨a,d,rfl,⟨o,C,R,n,hd⟩,g⟩:=B;obtain⟨c,f,rfl,⟨Y,q,J,P,v⟩,k⟩:=ty;have D:d.size=l.length:=by exact cq g
 have K:f.size=m.length:=by exact cq k
 exact kat_lt C hd q v (Ab 0 g k (by rw[D,K]) h)
end
section
variable {prog:qaO}{w:World}{A:qa1}{E:Value->qal->Prop}{s:qal}{O:qfO}{rk:Keyed->O.α}{S:Keyed->Prop}{c:List Value}
theorem uY:∀ (c:List Value),c.zip c=c.map λv=>(v,v)
 |[]=>rfl
 |v::c=>by rw[qfz,uY c];rfl
theorem Fa {α F:Type}{f:α->F}{R}:∀ {c:List α},c.toArray.size<2->(c.map f).Pairwise R
 |[],_=>List.Pairwise.nil
 |[v],_=>qgS _ _
 |_::_::_,h=>absurd h (by simp)
set_option maxHeartbeats 1000000 in
theorem qe (C:s.heap.get? a=some (qf9 "list" c.toArray n)) (u:c.length<64)
  (m:∀ h',(∀ b o,b≠a->s.heap.get? b=some o->h'.get? b=some o)->∃ r,(2<=c.length->∀ (Q') E',Q' r { s with heap:=h' }->wpAny (model prog w) A (qiI c.toArray) Q' E' { s with heap:=h' })/\Cm prog w A { s with heap:=h' } r O rk S)
  (G:∀ v∈c,S (v,v))
  (h:∀ d:List Value,d.Perm c->d.Pairwise (λx y=>O.kle (rk (x,x)) (rk (y,y)))->P (.done (.ret .none)) { s with heap:=sortedHeap s.heap a c d.toArray }) :
  wpAny (model prog w) A (qe6.«list.sort» ⟨[.ref a],[]⟩) P E s :=by
 rw[list_sort_plain];have H:c.toArray.size=c.length:=by simp
 refine qaa (listItems_at C U ?_);refine qaa (qhL C U ?_ (by rw[H,qcQ];lia));obtain⟨N,B⟩:∃ N,(s.heap.update a (qcv λ_=>#[])).get? a=some (qf9 "list" #[] N):=⟨_,get?_update_seq C (λ_=>#[])⟩
 refine qaa (qiu B U ?_);refine qaa (qhh ?_ (by rw[qcQ];show c.toArray.toList.length<=_;simp;lia));refine qaa (qf8 ?_);refine qb4 ?_;have V:(s.heap.update a (qcv λ_=>(#[]:Array Value))).objs.size=s.heap.objs.size:=qio ..;have i:∀ b o,b<s.heap.objs.size->(s.heap.update a (qcv λ_=>(#[]:Array Value))).get? b=some o->
   (((s.heap.update a (qcv λ_=>#[])).push (qf9 "tuple" c.toArray 0)).push (qf9 "list" #[] 0)).get? b=some o:=λb o hb q=>by
  rw[qdN _ _ _ (qaC (by rw[qi3,V];exact qa0 hb)),qdN _ _ _ (qaC (by rw[V];exact hb))];exact q
 have k:=i a _ (qax C) B;obtain⟨r,K,X⟩:=m _ λb o hb q=>
  i b o (qax q) (by rw[qhE _ _ _ _ hb];exact q)
 have pt:(c.toArray.zip c.toArray).toList=c.map λv=>(v,v):=by rw[<-uY];simp
 have fin:∀ g:qb8,(arrOf g).toList.Perm (c.map λv=>(v,v))->(arrOf g).toList.Pairwise (λx y=>O.kle (rk x) (rk y))->∃ d:List Value,d.length=c.length/\(arrOf g).map (·.2)=d.toArray/\P (.done (.ret .none)) { s with heap:=sortedHeap s.heap a c d.toArray }:=λg D p=>by
  refine⟨(arrOf g).toList.map (·.2),by rw[qah,D.length_eq,qah],by apply Array.toList_inj.mp;simp,h _ ?_ ?_⟩
  ·have:=D.map (·.2)
   rw[qaM]at this;have e:(c.map ((λx=>x.2) ∘ λv=>((v,v):Keyed)))=c:=by rw[show ((λx:Keyed=>x.2) ∘ λv=>((v,v):Keyed))=id from U,qhz]
   rw[e]at this;exact this
  ·rw[qew]
   refine p.imp_of_mem λ{x y} hx hy q=>?_;have W:x=(x.2,x.2):=by obtain⟨v,_,rfl⟩:=qaJ.mp (D.mem_iff.mp hx);rfl
   have dy:y=(y.2,y.2):=by obtain⟨v,_,rfl⟩:=qaJ.mp (D.mem_iff.mp hy);rfl
   rw[<-W,<-dy];exact q
 dsimp only;by_cases p:c.toArray.size<2
 ·rw[iFP p,iFP p]
  refine qaa (qam ?_);rw[StateT.run_pure];refine qaa (qam ?_);dsimp only;obtain⟨d,q0,L,I⟩:=fin (qi8 general' (c.toArray.zip c.toArray) #[] 7 none) (by rw[pt]) (by rw[pt];exact Fa p);refine qaa (qiu k U ?_);rw[L];refine qaa (qhL k U ?_);simp only[bne_self_eq_false,qbs,if_false];exact qam I
 ·rw[iFN p,iFN p]
  refine qaa (K (by lia) _ _ ?_)
  refine qaa (qcC (Do X (a0:=c.toArray.zip c.toArray) (Q:=λ_ g=>(arrOf g).toList.Perm (c.map λv=>(v,v))/\(arrOf g).toList.Pairwise (λx y=>O.kle (rk x) (rk y))/\qhM g=none)
   rfl U U U (λx hx=>?_) (by simp;lia) (by simp;lia) λg t a2 J=>⟨by rw[<-pt];exact t,a2,J⟩) ?_ λ_ _ e=>e)
  ·rw[pt]at hx
   obtain⟨v,hv,rfl⟩:=qaJ.mp hx;exact G v hv
  rintro⟨⟨⟩,g⟩ s' ⟨rfl,t,a2,J⟩
  dsimp only;obtain⟨d,q0,L,I⟩:=fin g t a2;refine qaa (qiu k U ?_);rw[L];refine qaa (qhL k U ?_);rw[J];simp only[bne_self_eq_false,qbs,if_false];exact qam I
theorem oR (hl:s.heap.IsList l c.toArray) (u:c.length<64)
  (m:∀ h',(∀ b o,s.heap.get? b=some o->h'.get? b=some o)->∃ r,(2<=c.length->∀ (Q') E',Q' r { s with heap:=h' }->wpAny (model prog w) A.in1.in1 (qiI c.toArray) Q' E' { s with heap:=h' })/\Cm prog w A.in1.in1 { s with heap:=h' } r O rk S)
  (G:∀ v∈c,S (v,v))
  (h:∀ d:List Value,d.Perm c->d.Pairwise (λx y=>O.kle (rk (x,x)) (rk (y,y)))->Q (.ref (s.heap.objs.size+1)) { s with heap:=qkb s.heap c d.toArray }) :
  wpAny (model prog w) A (call (.builtin "sorted") [.ref l]) Q E s :=by
 refine qgx kind_sorted plain_sorted entry_sorted (args_sorted1 _) ?_;refine qaa (qam ?_);refine qaa (collect_list hl ?_ (by rw[qcQ];lia));refine qaa (qf8 ?_ (by rw[qcQ];lia));have hz:((s.heap.push (qf9 "list" #[] 0)).update s.heap.objs.size (qcv (·++c.toArray))).objs.size=s.heap.objs.size+1:=by rw[qio,qi3]
 generalize T:((s.heap.push _).update s.heap.objs.size _)=M at hz ⊢;have z:(M.push (qf9 "list" c.toArray 0)).get? (s.heap.objs.size+1)=some (qf9 "list" c.toArray 0):=by
  rw[<-hz];exact qar _ U
 have keep:∀ b o,s.heap.get? b=some o->b≠s.heap.objs.size+1/\(M.push (qf9 "list" c.toArray 0)).get? b=some o:=λb o q=>by
  have j:=qax q;refine⟨qaC (qa0 j),?_⟩;rw[qdN _ _ _ (qaC (by rw[hz];exact qa0 j)),<-T,qhE _ _ _ _ (qaC j),qdN _ _ _ (qaC j)];exact q
 rw[hz];refine qaa (qb4 (qbL qks ⟨_,z,U⟩ qkj (qe z u (λh' Y=>m h' λb o q=>Y b o (keep b o q).1 (keep b o q).2) G λd t a2=>⟨_,U,?_⟩) (qkz _)));refine qam ⟨_,U,?_⟩
 have:=h d t a2
 unfold qkb at this;rw[T]at this;exact this
end
def nD (h:Heap):Value->Option Value
 |.ref a=>match h.get? a with
  |some o=>match o.data with
   |.seq its _=>its[0]?
   |_=>none
  |none=>none
 |_=>none
theorem TuI.fst (t:TuI h v l):nD h v=none\/∃ n t,nD h v=some (.int n t) :=by
 obtain⟨a,its,rfl,⟨o,b,c,n,hd⟩,hi⟩:=t;simp only[nD,b,hd];by_cases hz:0<its.size
 ·obtain⟨t,e⟩:=fU hi 0 _
  exact .inr ⟨_,t,by rw[qbJ hz];rw[qdX]at e;rw[e]⟩
 ·exact .inl (qdH (by lia))
section
variable {prog:qaO}{w:World}{A:qa1}{E:Value->qal->Prop}{s:qal}
theorem xS (t:TuI s.heap v l) (h:Q (.type "tuple") s):wpAny (model prog w) A (typeOf v) Q E s :=by
 obtain⟨a,its,rfl,⟨o,k,F,n,hd⟩,hi⟩:=t;refine Looks.here ((Looks.ld k).andThen .now) ?_;rw[F];exact h
theorem yr (t:TuI s.heap v l) (h:Q (nD s.heap v) s):wpAny (model prog w) A (firstOfTuple' v) Q E s :=by
 refine qaa (xS t ?_);obtain⟨a,its,rfl,⟨o,k,F,n,hd⟩,hi⟩:=t;simp only[nD,k,hd]at h;exact qaa (listItems_at k hd (qam h))
theorem fR:∀ {b:List Value}{Q:List (Option Value)->qal->Prop},(∀ v∈b,∃ l,TuI s.heap v l)->Q (b.map (nD s.heap)) s->wpAny (model prog w) A (b.mapM firstOfTuple') Q E s
 |[],_,_,h=>by exact qam h
 |v::b,Q,t,h=>by
  rw[List.mapM_cons];obtain⟨l,C⟩:=t v qag;refine qaa (yr C (qaa (fR (λu g=>t u (qaj _ g)) (qam h))))
theorem u9 (hx:TuI s.heap x l) (c:TuI s.heap y m) {Q:Bool->qal->Prop} (h:Q (OI.blt (tuI s.heap x) (tuI s.heap y)) s):Q (br l m) s :=by
 have h':=h;rw[hx.is,c.is]at h';exact h'
theorem uj {b:List Value} (t:∀ v∈b,∃ l,TuI s.heap v l) (g:A.units<cLine):∃ G,(2<=b.length->∀ (Q') E',Q' G s->wpAny (model prog w) A (qiI b.toArray) Q' E' s)/\
  Cm prog w A s G OI (λp=>tuI s.heap p.1) (λp=>∃ l,TuI s.heap p.1 l) :=by
 by_cases c1:(b.map (nD s.heap)).toArray.all (·.isSome)=true
 ·refine⟨_,λz Q' E' j=>?_,λx y ⟨l,hx⟩ ⟨m,c⟩ Q E h=>hx.tups c (u9 hx c h)⟩
  rw[qiv,qdM];refine qaa (qaa (fR t (qam ?_)));rw[iFP c1];refine qaa (qcX ?_);have H:∀ v∈(b.map (nD s.heap)).filterMap id,∃ n t,v=.int n t:=λv B=>by
   obtain⟨o,k,e⟩:=qfB.mp B;obtain⟨u,g,rfl⟩:=qaJ.mp k;obtain⟨l,I⟩:=t u g;rcases I.fst with q|⟨n,t',q⟩
   ·rw[q]at e;cases e
   ·rw[q]at e;exact⟨n,t',(qaL e).symm⟩
  have J:∃ f fr,(b.map (nD s.heap)).filterMap id=f::fr:=by
   match b,z,c1 with
   |v::b,_,c1=>
    simp only[qaz,qf3,qbB,qaZ]at c1;obtain⟨u,g⟩:=qcF.mp c1.1;exact⟨u,_,by rw[qaz,g];rfl⟩
  obtain⟨f,fr,e⟩:=J;have K:(b.map (nD s.heap)).toArray.filterMap id=(f::fr).toArray:=by rw[<-e];simp
  rw[K,qke,qdM];refine qaa (qaa (qaa (kas_mapM (r:=.type "int") _ (λv B Q'' i=>?_) (qam ?_))))
  ·rw[<-e]at B
   obtain⟨n,t',rfl⟩:=H v B;exact qam i
  ·have D:(qhV (λ_=>Value.type "int") (f::fr)).toArray[0]?=some (.type "int"):=by simp
   rw[D];have d:((qhV (λ_=>Value.type "int") (f::fr)).toArray.all λx=>x==.type "int")=true:=by
    simp only[qf3,qeY,qaY];intro _ _;rfl
   simp only[d,if_true];exact qam (qam j)
 ·by_cases c2:((b.map (nD s.heap)).toArray[0]?.bind id).isSome=true
  ·refine⟨general',λz Q' E' j=>?_,λx y ⟨l,hx⟩ ⟨m,c⟩ Q E h=>hx.one c g (u9 hx c h) false⟩
   rw[qiv,qdM];refine qaa (qaa (fR t (qam ?_)));rw[iFN c1,iFP c2];exact qam j
  ·refine⟨qiH,λz Q' E' j=>?_,λx y ⟨l,hx⟩ ⟨m,c⟩ Q E h=>hx.one c g (u9 hx c h) true⟩
   rw[qiv,qdM];refine qaa (qaa (fR t (qam ?_)));rw[iFN c1,iFN c2,qke,qdM];refine qaa (qaa (qaa (kas_mapM (r:=.type "tuple") _ (λv B Q'' i=>?_) (qam ?_))))
   ·obtain⟨l,C⟩:=t v B
    exact xS C i
   ·obtain⟨v,b,rfl⟩:∃ v r,b=v::r:=by
     match b,z with
     |v::r,_=>exact⟨v,r,U⟩
    have D:(qhV (λ_=>Value.type "tuple") (v::b)).toArray[0]?=some (.type "tuple"):=by simp
    rw[D];have d:((qhV (λ_=>Value.type "tuple") (v::b)).toArray.all λx=>x==.type "tuple")=true:=by
     simp only[qf3,qeY,qaY];intro _ _;rfl
    simp only[d,if_true];exact qam (qam j)
theorem zY (t:qcz b ns):(2<=b.length->∀ (Q') E',Q' qiH s->wpAny (model prog w) A (qiI b.toArray) Q' E' s)/\
  Cm prog w A s qiH OI (λp=>[bZ p.1]) (λp=>∃ n t,p.1=.int n t) :=by
 refine⟨λz Q' E' j=>?_,λx y ⟨n,t,hx⟩ ⟨m,u,c⟩ Q E h=>?_⟩
 ·match b,z,t with
  |v1::L::r,_,t=>rw[keyKind_ints t];exact qam j
 ·rw[hx,c]
  refine oneLt_int ?_;have e:OI.blt [bZ x.1] [bZ y.1]=decide (n<m):=by
   rw[hx,c];show (if n=m then br [] [] else decide (n<m))=_;by_cases q:n=m
   ·subst q;simp[br]
   ·rw[iFN q]
  rw[e]at h;exact h
end
def vo (x:List Int):List (List Int)->List (List Int)
 |[]=>[x]
 |y::a=>if br y x=true then y::vo x a else x::y::a
def aD:List (List Int)->List (List Int)
 |[]=>[]
 |x::xs=>vo x (aD xs)
theorem kP (x):∀ a,(vo x a).Perm (x::a)
 |[]=>qdE _
 |y::a=>by
  unfold vo;split
  ·exact (List.Perm.cons y (kP x a)).trans (List.Perm.swap x y a)
  ·exact qdE _
theorem aI:∀ xs,(aD xs).Perm xs
 |[]=>qdE _
 |x::xs=>(kP x _).trans (List.Perm.cons x (aI xs))
def leL (a b:List Int):Prop:=br b a=false
theorem yG (h:leL a b) (h':leL b c):leL a c :=qdS (O:=OI) h h'
theorem z8 (h:leL a b) (h':leL b a):a=b :=ie a b h' h
theorem lz (x):∀ {b},b.Pairwise leL->(vo x b).Pairwise leL
 |[],_=>by simp[vo]
 |y::b,h=>by
  unfold vo;split
  ·rename_i a
   refine qa8.mpr ⟨λz hz=>?_,lz x (qa8.mp h).2⟩;rcases qaw.mp ((kP x b).mem_iff.mp hz) with rfl|hz
   ·exact KeyOrd.klt_asymm (O:=OI) a
   ·exact (qa8.mp h).1 z hz
  ·rename_i a
   rw[qeM]at a;refine qa8.mpr ⟨λz hz=>?_,h⟩;rcases qaw.mp hz with rfl|hz
   ·exact a
   ·exact yG a ((qa8.mp h).1 z hz)
theorem cK:∀ xs,(aD xs).Pairwise leL
 |[]=>List.Pairwise.nil
 |x::xs=>lz x (cK xs)
theorem ku { e:List _} (p:xs.Perm e) (d:xs.Pairwise leL) (c:e.Pairwise leL):xs=e :=
 qf4 (λa b _ _ d c=>z8 d c) d c p
def sV:List D->Option (List (List Int))
 |[]=>some []
 |.tup l::ds=>(a5 l).bind λns=>(sV ds).map λr=>ns::r
 |_=>none
def ak (l:List Int):D:=.tup (l.map D.int)
theorem lI:∀ {ds:List D}{ls:List (List Int)},sV ds=some ls->ds=ls.map ak
 |[],_,h=>by cases h;rfl
 |.tup l::ds,_,h=>by
  simp only[sV,qab,qad]at h;obtain⟨ns,a,r,b,rfl⟩:=h;rw[lI b,bv a];rfl
 |.non::_,_,h=>by cases h
 |.bl _::_,_,h=>by cases h
 |.int _::_,_,h=>by cases h
 |.str _::_,_,h=>by cases h
 |.ty _::_,_,h=>by cases h
 |.dct::_,_,h=>by cases h
 |.scr _::_,_,h=>by cases h
 |.lst _::_,_,h=>by cases h
def DP (ds:List D):Option (List D):=match a5 ds with
 |some ns=>some ((rK ns).map D.int)
 |none=>(sV ds).map λls=>(aD ls).map ak
def vA (st:Sto):List W->Option (List D)
 |[w]=>(lsD st w).bind λds=>if ds.length<64 then DP ds else none
 |_=>none
section
variable {K:qae}{X:Cx}{i:List (Addr×Obj)}{N:St}{H:Hp}{s:qal}{φ:List Addr}
def toV:Value->V
 |.ref a=>.ref a
 |_=>.non
theorem C3 (I:Inv X i N H s) (r:Rl X.K H φ (ak l) v) (q:aM v u):TuI s.heap u l/\v=toV u/\aM (toV u) u :=by
 obtain⟨a,M,rfl,B,A⟩:=r;obtain⟨its,Y,p,_⟩:=I.tuple (SqT.of B);have e:=A.ints;subst e;subst q;exact⟨⟨a,its.toArray,U,p,by simpa using dN Y⟩,U,U⟩
theorem oN (I:Inv X i N H s):∀ {ls}{M}{f},Rls X.K H φ (ls.map ak) M->aG M f->
  f.map (tuI s.heap)=ls/\∀ u∈f,TuI s.heap u (tuI s.heap u)/\Rl X.K H φ (ak (tuI s.heap u)) (toV u)/\aM (toV u) u
 |[],_,f,h,q=>by cases h;cases q;exact⟨U,λu j=>by cases j⟩
 |l::ls,_,f,h,q=>by
  obtain⟨v,r,rfl,B,A⟩:=h;cases q with
  |cons q1 q2=>
   obtain⟨t,e,e'⟩:=C3 I B q1;obtain⟨i1,i2⟩:=oN I A q2;refine⟨by rw[qaz,i1,t.is],λx hx=>?_⟩;rcases qaw.mp hx with rfl|hx
   ·rw[t.is,<-e];exact⟨t,B,q1⟩
   ·exact i2 x hx
theorem oK:∀ {f},(∀ u∈f,TuI s.heap u (tuI s.heap u)/\Rl K H φ (ak (tuI s.heap u)) (toV u)/\aM (toV u) u)->Rls K H φ (f.map λu=>ak (tuI s.heap u)) (f.map toV)/\aG (f.map toV) f
 |[],_=>⟨U,.nil⟩
 |u::f,h=>by
  have B:=h u qag;have A:=oK λx hx=>h x (qaj _ hx);exact⟨⟨_,_,U,B.2.1,A.1⟩,.cons B.2.2 A.2⟩
theorem nV:∀ {f:List Value}{l:List Int},qcz f l->∀ u∈f,∃ n t,u=.int n t
 |_,_,.nil,u,j=>by cases j
 |_,_,.cons n t h,u,j=>by
  rcases qaw.mp j with rfl|j
  ·exact⟨n,t,U⟩
  ·exact nV h u j
theorem pT:∀ {f},(∀ u∈f,∃ n t,u=.int n t)->qcz f (f.map bZ)
 |[],_=>.nil
 |u::f,h=>by
  obtain⟨n,t,rfl⟩:=h u qag;exact .cons n t (pT λx hx=>h x (qaj _ hx))
theorem jE (hr:bj k X.A) (hK:X.K=K:=by rfl):tj K X (.builtin "sorted") vA :=by
 subst hK;refine⟨λst ws d h=>?_⟩
 match ws,h with
 |[w],h=>
  simp only[vA,qab]at h;obtain⟨ds,e1,h⟩:=h;split at h
  ·intro i s N H xs f Q I Y q
   obtain⟨φ,S,⟨v,r,rfl,r1,rfl⟩,q⟩:=q;obtain⟨a,M,rfl,B,A⟩:=kT S r1 e1;obtain⟨u,rfl,ru⟩:=fJ Y;cases ru;obtain⟨its,C,pl,hz⟩:=I.list (.inl B);have g:its.length<64:=by
    have:=C.length
    have:=A.length
    lia
   have R:X.A.in1.in1.units<cLine:=by
    have:=hr.un
    lia
   have hn:=I.hok.fresh (qcZ _);have L:∀ (c:List Value) (F:List V),aG F c->c.length<64->Inv X i N _ { s with heap:=qkb s.heap its c.toArray }:=λc F z ho=>by
    obtain⟨ep,he⟩:=sortedAll_at s.heap its c.toArray;refine I.laid (o:=.lst F) (λb o q=>sortedAll_old q) (qcZ _) ⟨?_,c,ep,z,by simpa  using he⟩;rw[z.length];exact iQ (by lia)
   unfold DP at h;cases hi:a5 ds with
   |some ns=>
    rw[hi]at h;cases h;cases bv hi;cases A.ints;have P:=dN C;refine oR pl.isList g (λh' _=>⟨qiH,zY P⟩) (λv z=>nV P v z) λc D a2=>?_;have W:=by
     have:=D.map bZ
     rw[nW P]at this;exact this
    have T:(c.map bZ).Pairwise (·<=·):=by
     rw[qew];refine a2.imp λ{x y} q=>?_;have q':br [bZ y] [bZ x]=false:=q;by_cases e:bZ y=bZ x
     ·lia
     ·have:br [bZ y] [bZ x]=decide (bZ y<bZ x):=by show (if _ then _ else _)=_;rw[iFN e]
      lia
    have z:=ky (pT (λu j=>nV P u (D.mem_iff.mp j)));rw[(uN (W.trans (lA ns).symm) T (i9 ns))]at z;exact⟨.ref _,_,L c _ z (by rw[D.length_eq];exact g),U,q _ _ H (aP.refl H) hn (Rls.of_ints _)⟩
   |none=>
    rw[hi]at h;obtain⟨ls,hls,rfl⟩:=qad.mp h;cases lI hls;obtain⟨m1,m2⟩:=oN I A C;refine oR (O:=OI) (rk:=λp=>tuI s.heap p.1) (S:=λp=>∃ l,TuI s.heap p.1 l) pl.isList g (λh' G=>?_) (λv z=>⟨_,(m2 v z).1⟩) λc D a2=>?_
    ·obtain⟨κ,k1,k2⟩:=uj (s:={ s with heap:=h' }) (λv z=>⟨_,(m2 v z).1.fit G⟩) R
     refine⟨κ,k1,λx y ⟨l,hx⟩ ⟨m,hy⟩ Q E hq=>k2 x y ⟨l,hx.fit G⟩ ⟨m,hy.fit G⟩ Q E ?_⟩;have J:Q (br (tuI s.heap x.1) (tuI s.heap y.1)) { s with heap:=h' }:=hq;show Q (br (tuI h' x.1) (tuI h' y.1)) { s with heap:=h' };rw[(hx.fit G).is,(hy.fit G).is];rw[hx.is,hy.is]at J;exact J
    ·obtain⟨b1,b2⟩:=oK (λu j=>m2 u (D.mem_iff.mp j))
     have W:=by
      have:=D.map (tuI s.heap)
      rw[m1]at this;exact this
     have T:(c.map (tuI s.heap)).Pairwise leL:=by
      rw[qew];exact a2.imp λ{x y} q=>q
     have e2:(c.map λu=>ak (tuI s.heap u))=(aD ls).map ak:=by rw[<-(ku (W.trans (aI ls).symm) T (cK ls)),qaM];rfl
     rw[e2]at b1;exact⟨.ref _,_,L c _ b2 (by rw[D.length_eq];exact g),U,q _ _ H (aP.refl H) hn b1⟩
  ·cases h
end
end L2
namespace L2
open PySem PySem.Spec PyProof.Rows
theorem kH:∀ a b:List Int,gC (a.map D.int) (b.map D.int)=decide (a=b)
 |[],[]=>rfl
 |[],_::_=>rfl
 |_::_,[]=>rfl
 |x::a,y::b=>by
  show (x==y&&gC _ _)=_;rw[kH a b,qd9];simp
section
variable {K:qae}{X:Cx}
end
end L2
namespace L2
open PySem PySem.Spec PyProof.Rows
open PySem.AutoSeq1 (wpAny_loadPart')
def SIt (k:Bool) (h:Heap) (a l:Addr) (i:Nat):Prop:=match k with
 |true=>h.IsTupleIter a l i
 |false=>h.IsListIter a l i
def SIs (k:Bool) (h:Heap) (l:Addr) (xs:Array Value):Prop:=match k with
 |true=>h.IsTuple l xs
 |false=>h.IsList l xs
theorem SIt.to (a:SIt k h b l i) (f:∀ o,h.get? b=some o->h'.get? b=some o):SIt k h' b l i :=by
 cases k with
 |true=>exact Heap.IsTupleIter.at a f
 |false=>exact Heap.IsListIter.at a f
theorem SIs.to (a:SIs k h l xs) (f:∀ o,h.get? l=some o->h'.get? l=some o):SIs k h' l xs :=by
 cases k with
 |true=>obtain⟨o,e,r⟩:=a;exact⟨o,f o e,r⟩
 |false=>exact Heap.IsList.at a f
theorem SIt.live (a:SIt k h b l i):∃ o c,h.get? b=some o/\o.data=.fields c :=by
 cases k with
 |true=>obtain⟨o,e,_,d⟩:=a;exact⟨o,_,e,d⟩
 |false=>obtain⟨o,e,_,d⟩:=a;exact⟨o,_,e,d⟩
section
variable {prog:qaO}{w:World}{A:qa1}{E:Value->qal->Prop}{s:qal}{k k2:Bool}
theorem eM (u:SIt k s.heap H l i) (hl:SIs k s.heap l xs) (hx:xs[i]?=some x)
  (R:∀ h',SIt k h' H l (i+1)->qdc H s.heap h'->Q x { s with heap:=h' }):wpAny (model prog w) A (qbh (.ref H)) Q E s :=by
 cases k with
 |true=>exact eL u hl hx R
 |false=>exact wpAny_nextOf_list_item u hl hx R
theorem oA (hh:A.handled=none) (u:SIt k s.heap H l i) (hl:SIs k s.heap l xs) (hx:xs[i]?=none)
  (hE:∀ h' e,qhF H s.heap h'->(∃ o,h'.get? e=some o/\o.cls=.type "StopIteration")->E (.ref e) { s with heap:=h' }):wpAny (model prog w) A (qbh (.ref H)) Q E s :=by
 cases k with
 |true=>exact fD hh u hl hx hE
 |false=>exact wpAny_nextOf_list_end hh u hl hx hE
variable {z TI TO i1 i2 l1 l2:Addr}{n:Nat}{xs S:Array Value}{a b:Value}
structure ZSt (k k2:Bool) (z TI TO i1 i2 l1 l2:Addr) (f0:Value) (n:Nat) (h:Heap):Prop where
 z:IsZip h z TI TO f0
 ti:qhD h TI (.ref i1) (.ref i2)
 to:∃ a b,qhD h TO a b
 t1:SIt k h i1 l1 n
 t2:SIt k2 h i2 l2 n
set_option maxHeartbeats 1000000 in
theorem BA (D:ZipApart z TI TO i1 i2 l1 l2) (hs:ZSt k k2 z TI TO i1 i2 l1 l2 .none n s.heap) (F:SIs k s.heap l1 xs) (O:SIs k2 s.heap l2 S) (hx:xs[n]?=some x) (hy:S[n]?=some y)
  (R:∀ h',ZSt k k2 z TI TO i1 i2 l1 l2 (qfK s.heap.objs.size) (n+1) h'->qhD h' s.heap.objs.size x y->h'.objs.size=s.heap.objs.size+1->
    (∀ c o,c≠z->c≠TO->c≠i1->c≠i2->s.heap.get? c=some o->h'.get? c=some o)->Q (some (.ref s.heap.objs.size)) { s with heap:=h' }) :
  wpAny (model prog w) A (qeR (.ref z)) Q E s :=by
 obtain⟨hz,C,⟨a,b,N⟩,h1,h2⟩:=hs;have hT:s.TypeIs (.ref z) "zip":=⟨_,hz,U⟩
 unfold qeR;refine qaa (qdO (qbx (name:=qcp "__next__") hT qcT (qbL qcT hT qe0 ?_ (qeL _))))
 show wpAny _ _ (field (.ref z) 2 >>= _) _ _ _;refine qaa (qby hz U (x:=.bool false) U ?_);show wpAny _ _ (field (.ref z) 3 >>= _) _ _ _;refine qaa (qby hz U (x:=.ref TI) U (qaa (qbb C U ?_)));refine qaa ?_;unfold qbQ;refine qaa (qby hz U (x:=.none) U (qam ?_));simp only[if_true];refine qaa (qcX (qaa (qby hz U (x:=.ref TO) U ?_)));refine qaa (qbw hz (by simp) λg1 r s1=>?_);replace r:IsZip g1 z TI TO .ellipsis:=r;refine qaa ?_;simp only[qeI,qeW,qd8,qfc];have f:=s1.extBut;refine qaa (qaa (qcH ?_));refine qaa (eM (h1.to λo q=>f _ o D.i1z q) (F.to λo q=>f _ o D.l1z q) hx λg2 h12 K=>qam ?_);have v:=K.extBut;have d:qhD g2 TO a b:=v _ _ D.TOi1 (f _ _ D.TOz N);refine qaa (qbb d U (qaa (qfD d λg3 m M=>?_)));replace m:qhD g3 TO x b:=m;have B:=M.extBut;refine qaa (qcd (qam ?_));refine qaa (qaa (qcH ?_));refine qaa (eM (h2.to λo q=>B _ o D.TOi2.symm (v _ o D.i12.symm (f _ o D.i2z q))) (O.to λo q=>B _ o D.l2TO (v _ o D.l2i1 (f _ o D.l2z q))) hy λg4 h24 s4=>qam ?_);have e4:=s4.extBut;have I:qhD g4 TO x b:=e4 _ _ D.TOi2 m;refine qaa (qbb I U (qaa (qfD I λg p Y=>?_)));replace p:qhD g TO x y:=p;have e5:=Y.extBut;refine qaa (qcd (qam (qam ?_)));refine qaa (qbb p U (qaa (qhh ?_)));have hsz:g.objs.size=s.heap.objs.size:=by rw[Y.1,s4.1,M.1,K.1,s1.1]
 have hz5:IsZip g z TI TO .ellipsis:=e5 _ _ D.TOz.symm (e4 _ _ D.i2z.symm (B _ _ D.TOz.symm (v _ _ D.i1z.symm r)));have kp:∀ c o,c≠z->c≠TO->c≠i1->c≠i2->s.heap.get? c=some o->g.get? c=some o:=λc o c1 c2 c3 c4 e=>e5 _ _ c2 (e4 _ _ c4 (B _ _ c2 (v _ _ c3 (f _ _ c1 e))));have h25:SIt k2 g i2 l2 (n+1):=h24.to λo q=>e5 _ o D.TOi2.symm q;have J:z<g.objs.size:=qax hz5;show wpAny _ _ (qce (.ref z) (.ref g.objs.size) >>= _) _ _ _;refine qaa ?_;unfold qce;have hz6:IsZip (g.push { cls:=.type "tuple",data:=.seq #[x,y] }) z TI TO .ellipsis:=qaf _ hz5
 refine qaa (qbw hz6 (by simp) λg7 P s7=>?_);replace P:IsZip g7 z TI TO (qfK g.objs.size):=P;refine qbw P (by simp) λV G s8=>?_;replace G:IsZip V z TI TO (qfK g.objs.size):=G;have up:∀ c o,c≠z->g.get? c=some o->V.get? c=some o:=λc o c1 e=>s8.extBut _ _ c1 (s7.extBut _ _ c1 (qaf _ e));have hT8:qhD V g.objs.size x y:=s8.extBut _ _ (qca J) (s7.extBut _ _ (qca J) (qar _ U));have W:V.objs.size=g.objs.size+1:=by rw[s8.1,s7.1,qa5]
 rw[hsz]at G hT8 W;refine qam ⟨_,U,qam ?_⟩;show Q (some (.ref g.objs.size)) _;rw[hsz];exact R V ⟨G,up _ _ D.TIz (kp _ _ D.TIz D.TITO D.TIi1 D.TIi2 C),⟨_,_,up _ _ D.TOz p⟩,(h12.to λo q=>e5 _ o D.TOi1.symm (e4 _ o D.i12 (B _ o D.TOi1.symm q))).to λo q=>up _ o D.i1z q,h25.to λo q=>up _ o D.i2z q⟩ hT8 W λc o c1 c2 c3 c4 e=>up c o c1 (kp c o c1 c2 c3 c4 e)
set_option maxHeartbeats 1000000 in
theorem Dq (hh:A.in1.handled=none) (D:ZipApart z TI TO i1 i2 l1 l2) (hs:ZSt k k2 z TI TO i1 i2 l1 l2 .none n s.heap) (F:SIs k s.heap l1 xs) (O:SIs k2 s.heap l2 S) (hend:xs[n]?=none\/S[n]?=none)
  (R:∀ h',(∀ c o,c≠z->c≠TO->c≠i1->c≠i2->s.heap.get? c=some o->h'.get? c=some o)->Q none { s with heap:=h' }):wpAny (model prog w) A (qeR (.ref z)) Q E s :=by
 obtain⟨hz,C,⟨a,b,N⟩,h1,h2⟩:=hs;have hT:s.TypeIs (.ref z) "zip":=⟨_,hz,U⟩
 have fin:∀ (h':Heap) (e:Addr),_->(∃ o,h'.get? e=some o/\o.cls=.type "StopIteration")->
   wpAny (model prog w) A (do if (<-isInstance (.ref e) _) then pure none else throw (.ref e)) Q E { s with heap:=h' }:=λh' e hk ⟨o,ho,hc⟩=>
  qaa (qgH ⟨o,ho,hc⟩ qhk (qam (R _ hk)))
 refine qaa (qdO (qbx hT qcT (qbL qcT hT qe0 ?_ (qeL _))));show wpAny _ _ (field (.ref z) 2 >>= _) _ _ _;refine qaa (qby hz U (x:=.bool false) U ?_);refine qaa (qby hz U U (qaa (qbb C U ?_)));refine qaa ?_;refine qaa (qby hz U U (qam ?_));refine qaa (qcX (qaa (qby hz U U ?_)));refine qaa (qbw hz (by simp) λg1 r s1=>?_);refine qaa ?_;simp only[qeI,qeW,qd8,qfc];have f:=s1.extBut;refine qaa (qaa (qcH ?_));cases hx:xs[n]? with
 |none=>
  refine qaa (oA hh (h1.to λo q=>f _ o D.i1z q) (F.to λo q=>f _ o D.l1z q) hx λg2 e K he=>?_);obtain⟨oe,j,t⟩:=he;have X:IsZip g2 z TI TO .ellipsis:=K _ _ D.i1z.symm r;have L:e≠z:=λx=>by subst x;rw[X]at j;cases j;simp at t
  exact qbw X (by simp) λg3 _ M=>fin g3 e (λc o c1 _ c3 _ x=>M.extBut _ _ c1 (K _ _ c3 (f _ _ c1 x))) ⟨oe,M.extBut _ _ L j,t⟩
 |some x=>
  have hy:S[n]?=none:=by rcases hend with h|h;rw[hx]at h;cases h;exact h
  refine qaa (eM (h1.to λo q=>f _ o D.i1z q) (F.to λo q=>f _ o D.l1z q) hx λg2 h12 K=>qam ?_);have v:=K.extBut;have d:=v _ _ D.TOi1 (f _ _ D.TOz N);refine qaa (qbb d U (qaa (qfD d λg3 m M=>?_)));have B:=M.extBut;refine qaa (qcd (qam ?_));refine qaa (qaa (qcH ?_));refine qaa (oA hh (h2.to λo q=>B _ o D.TOi2.symm (v _ o D.i12.symm (f _ o D.i2z q))) (O.to λo q=>B _ o D.l2TO (v _ o D.l2i1 (f _ o D.l2z q))) hy λg4 e s4 he=>?_);obtain⟨oe,j,t⟩:=he;have T:IsZip g4 z TI TO .ellipsis:=s4 _ _ D.i2z.symm (B _ _ D.TOz.symm (v _ _ D.i1z.symm r));have L:e≠z:=λx=>by subst x;rw[T]at j;cases j;simp at t
  exact qbw T (by simp) λg _ Y=>fin g e (λc o c1 c2 c3 c4 x=>Y.extBut _ _ c1 (s4 _ _ c4 (B _ _ c2 (v _ _ c3 (f _ _ c1 x))))) ⟨oe,Y.extBut _ _ L j,t⟩
end
noncomputable def Gn (k:Bool):Value:=if k=true then .type "tuple_iterator" else .type "list_iterator"
def gr (k:Bool) (l:Addr):Obj:={ cls:=Gn k,data:=.fields #[.ref l,.int 0 0] }
abbrev zH1 (k:Bool) (h:Heap) (a:Addr):Heap:=h.push (gr k a)
abbrev zH2 (k k2:Bool) (h:Heap) (a b:Addr):Heap:=(zH1 k h a).push (gr k2 b)
abbrev zH3 (k k2:Bool) (h:Heap) (a b:Addr):Heap:=(zH2 k k2 h a b).push { cls:=.type "tuple",data:=.seq #[.ref h.objs.size,.ref (zH1 k h a).objs.size] }
abbrev zH4 (k k2:Bool) (h:Heap) (a b:Addr):Heap:=(zH3 k k2 h a b).push { cls:=.type "tuple",data:=.seq #[.none,.none] }
abbrev zH5 (k k2:Bool) (h:Heap) (a b:Addr):Heap:=(zH4 k k2 h a b).push { cls:=.type "zip",data:=.fields #[.none,.bool false,.bool false,.ref (zH2 k k2 h a b).objs.size,.ref (zH3 k k2 h a b).objs.size] }
section
variable {prog:qaO}{w:World}{A:qa1}{E:Value->qal->Prop}{s:qal}{k k2:Bool}
theorem gW (C:SIs k s.heap l xs) (h:Q (.ref s.heap.objs.size) { s with heap:=s.heap.push (gr k l) }):wpAny (model prog w) A (qid (.ref l)) Q E s :=by
 cases k with
 |true=>exact qcG C h
 |false=>exact qdY C h
theorem pw (a b) (xs j) (k k2) :
  Meets (qe6.«zip.__new__» ⟨[.type "zip",.ref a,.ref b],[]⟩) (λ_ R s=>SIs k s.heap a xs/\SIs k2 s.heap b j/\R (.ok (.ret (.ref (zH4 k k2 s.heap a b).objs.size))) { s with heap:=zH5 k k2 s.heap a b }) :=
 .of_wp λprog w A R s h=>by
  obtain⟨I,g,d,G,os⟩:=s;obtain⟨f,i,h⟩:=h;have y:=sub_zip;have p:SIs k2 (qf0 ⟨I.push (gr k a),g,d,G,os⟩) b j:=i.to λo q=>qaf _ q
  wp_walk using gW f,gW p
  exact⟨_,U,h⟩
theorem gU (k) (e:h.get? u=some (gr k l)):SIt k h u l 0 :=by
 cases k with
 |true=>exact⟨_,e,U,U⟩
 |false=>exact⟨_,e,U,U⟩
theorem qB (f:SIs k s.heap a xs) (i:SIs k2 s.heap b j)
  (h:∀ h',ZSt k k2 (s.heap.objs.size+4) (s.heap.objs.size+2) (s.heap.objs.size+3) s.heap.objs.size (s.heap.objs.size+1) a b .none 0 h'->
    (∀ c o,s.heap.get? c=some o->h'.get? c=some o)->Q (.ref (s.heap.objs.size+4)) { s with heap:=h' }) :
  wpAny (model prog w) A (call (.type "zip") [.ref a,.ref b]) Q E s :=by
 refine qif qlD (by decide) (F.typeCall_zip_2 _ _) (F.newCall_zip_2 _ _) (λobj=>F.args_object_init_3 obj _ _) qje (pw a b xs j k k2) ⟨f,i,?_⟩;have t:(zH1 k s.heap a).objs.size=s.heap.objs.size+1:=qa5 ..;have m:(zH2 k k2 s.heap a b).objs.size=s.heap.objs.size+2:=by rw[qa5,t]
 have n:(zH3 k k2 s.heap a b).objs.size=s.heap.objs.size+3:=by rw[qa5,m]
 have v:(zH4 k k2 s.heap a b).objs.size=s.heap.objs.size+4:=by rw[qa5,n]
 have up:∀ {h:Heap}{H:Obj}{c:Addr}{o:Obj},h.get? c=some o->(h.push H).get? c=some o:=λe=>qaf _ e;have r:(zH5 k k2 s.heap a b).get? (zH4 k k2 s.heap a b).objs.size=some _:=qar _ U;have B:(zH5 k k2 s.heap a b).get? (zH3 k k2 s.heap a b).objs.size=some _:=up (qar _ U);have z:(zH5 k k2 s.heap a b).get? (zH2 k k2 s.heap a b).objs.size=some _:=up (up (qar _ U));have D:(zH5 k k2 s.heap a b).get? (zH1 k s.heap a).objs.size=some _:=up (up (up (qar _ U)));rw[m,n,v]at r;rw[t,m]at z;rw[n]at B;rw[t]at D;rw[v];exact⟨⟨_,r,U⟩,h _ ⟨r,z,⟨_,_,B⟩,gU k (up (up (up (up (qar _ U))))),gU k2 D⟩ λc o x=>up (up (up (up (up x))))⟩
end
def SqK (k:Bool) (K:qae) (H:Hp) (a:Addr) (xs:List V):Prop:=match k with
 |true=>SqT K H a xs
 |false=>SqL K H a xs
def Itz (S1 S2:Hp->List V->Prop):It:=
 ⟨λi H=>∃ xs a x y,S1 H xs/\S2 H a/\xs[i]?=some x/\a[i]?=some y,λi H x H'=>∃ T v u,(∀ xs,S1 H xs->xs[i]?=some v)/\(∀ a,S2 H a->a[i]?=some u)/\H T=none/\x=.ref T/\H'=upd H T (.tup [v,u]),
  λi H=>∃ xs a,S1 H xs/\S2 H a/\(xs[i]?=none\/a[i]?=none)⟩
theorem Inv.seqK {c:St}(I:Inv X b c H s) (h:SqK k X.K H a xs):∃ its,aG xs its/\SIs k s.heap a its.toArray :=by
 cases k with
 |true=>obtain⟨its,r,p,_⟩:=I.tuple h;exact⟨its,r,p⟩
 |false=>obtain⟨its,r,p,_⟩:=I.list h;exact⟨its,r,p.isList⟩
theorem Inv.seqK_inj {d:St}(I:Inv X b d H s) (h:SqK k X.K H a xs) (h':SqK k X.K H a c):xs=c :=by
 cases k with
 |true=>exact I.tuple_inj h h'
 |false=>exact I.list_inj h h'
theorem Br {K}{ TI TO    } (D:ZipApart z TI TO r t M J) :
  tm P w K (.Tuple n kk pos) (Itz (λH xs=>SqK k K H M xs) λH xs=>SqK k2 K H J xs) [z,TI,TO,r,t] z (λi h=>ZSt k k2 z TI TO r t M J .none i h)  where
 mem:=by simp
 obj:=λi h st b hb=>by
  simp only[qaw,qbd,or_false]at hb;rcases hb with rfl|rfl|rfl|rfl|rfl
  ·exact⟨_,st.z,λv z=>by cases z⟩
  ·exact⟨_,st.ti,λv z=>by cases z⟩
  ·obtain⟨a,b,e⟩:=st.to;exact⟨_,e,λv z=>by cases z⟩
  ·obtain⟨o,O,e,d⟩:=st.t1.live;exact⟨o,e,λv z=>by rw[d]at z;cases z⟩
  ·obtain⟨o,O,e,d⟩:=st.t2.live;exact⟨o,e,λv z=>by rw[d]at z;cases z⟩
 keep:=λi h h' st kp=>by
  obtain⟨a,b,e⟩:=st.to;exact⟨kp z (by simp) _ st.z,kp TI (by simp) _ st.ti,⟨a,b,kp TO (by simp) _ e⟩,st.t1.to λo q=>kp r (by simp) o q,st.t2.to λo q=>kp t (by simp) o q⟩
 item:=by
  intro X G hw F R i p s T H E I B st hg;subst G hw F;obtain⟨xs,ys,x,y,g,f,hx,S⟩:=hg;obtain⟨us,l,p1⟩:=I.seqK g;obtain⟨O,j,N⟩:=I.seqK f;obtain⟨u,Y,ru⟩:=l.get hx;obtain⟨v,hv,rv⟩:=j.get S;refine BA D st p1 N (by simpa using Y) (by simpa using hv) λh1 c hT hsz kp=>⟨_,U,?_⟩;refine qhi c.z λh2 C V=>?_;have m:=V.extBut;obtain⟨c1,c2,L⟩:=c.to;have Q:∀ b∈[z,TI,TO,r,t],b≠s.heap.objs.size:=λb hb e=>by
   obtain⟨o,ho,_⟩:=(show ∃ o,s.heap.get? b=some o/\True by
    simp only[qaw,qbd,or_false]at hb;obtain⟨a',b',e'⟩:=st.to;obtain⟨o1,_,q1,_⟩:=st.t1.live;obtain⟨o2,_,q2,_⟩:=st.t2.live;rcases hb with rfl|rfl|rfl|rfl|rfl
    ·exact⟨_,st.z,trivial⟩
    ·exact⟨_,st.ti,trivial⟩
    ·exact⟨_,e',trivial⟩
    ·exact⟨_,q1,trivial⟩
    ·exact⟨_,q2,trivial⟩)
   have:=qax ho
   rw[e]at this;exact qa4 _ this
  refine⟨.ref s.heap.objs.size,_,?_,U,⟨s.heap.objs.size,x,y,λW hz=>by rw[I.seqK_inj hz g];exact hx,λW hz=>by rw[I.seqK_inj hz f];exact S,I.hok.fresh (qao _),U,U⟩,?_,λb hb=>?_⟩
  ·have I2:=I.turnsT (h':=h2) (t':=s.toks) B (λb o hb q=>by
    simp only[qaw,qbd,or_false,not_or]at hb
    exact m b o hb.1 (kp b o hb.1 hb.2.2.1 hb.2.2.2.1 hb.2.2.2.2 q)) (qao _) ⟨_,m _ _ (qbp (Q z (by simp))) hT,U,⟨_,U⟩,U⟩ (.cons ru (.cons rv .nil)) (by show 2<=qaF;decide)
   exact I2
  ·exact⟨C,m _ _ D.TIz c.ti,⟨c1,c2,m _ _ D.TOz L⟩,c.t1.to λo q=>m _ o D.i1z q,c.t2.to λo q=>m _ o D.i2z q⟩
  ·rw[upd_ne (Q b hb)];exact (B b hb).1
 done:=by
  intro X G hw F R i p s T H E I B st hg;subst G hw F;obtain⟨xs,ys,g,f,A⟩:=hg;obtain⟨us,l,p1⟩:=I.seqK g;obtain⟨O,j,N⟩:=I.seqK f;have hl1:=l.length;have hl2:=j.length
  refine Dq (I.ok.hd R) D st p1 N (by
   rcases A with h|h
   ·rw[qa2]at h;simp;lia
   ·rw[qa2]at h;simp;lia) λh' kp=>⟨U,I.turns B λb o hb q=>?_⟩
  simp only[qaw,qbd,or_false,not_or]at hb;exact kp b o hb.1 hb.2.2.1 hb.2.2.2.1 hb.2.2.2.2 q
 self:=λ_ _ _ _ _ st h=>qe7 st.z h
def HQ (K:qae) (k k2:Bool) (e:TA):L2.TI:=λc H R=>e c H λd H1=>∃ a b,d=[.ref a,.ref b]/\(∃ xs,SqK k K H1 a xs)/\(∃ xs,SqK k2 K H1 b xs)/\R (Itz (λH xs=>SqK k K H a xs) λH xs=>SqK k2 K H b xs) H1
theorem E5 {c}{F}{f}{p pos}{k k2} (hg:Gl X "zip") (hm:X.mg "zip" = none) (z:PA X [a,b] v) (B:qbA [a,b] X.env=[(false,eval a X.env),(false,eval b X.env)]:=by rfl) (i:qbA [b] X.env=[(false,eval b X.env)]:=by rfl) :
  PI X (.Tuple c F f) (.Call (.Name "zip" p) [a,b] [] pos) (HQ X.K k k2 v) :=by
 intro d s y H R I h;refine Call_ (hJ I hg hm boot_zip (qb0 (thn (z pos d s y H _ I h) λn s1 ⟨L,H1,I1,C,G⟩=>?_) (by rw[B,i]) (by rw[i];rfl)));obtain⟨l,m,e,⟨xs,E⟩,⟨M,t⟩,q⟩:=G;subst e;cases C with
 |cons r u=>
  cases u with
  |cons J u=>
   cases u;cases r;cases J;obtain⟨n,K,p1⟩:=I1.seqK E;obtain⟨L,D,x⟩:=I1.seqK t;have lt:∀ {k:Bool}{l:Addr}{n:Array Value},SIs k s1.heap l n->l<s1.heap.objs.size:=λ{k l n} w=>by
    cases k with
    |true=>obtain⟨_,o,_⟩:=w;exact qax o
    |false=>obtain⟨_,o,_⟩:=w;exact qax o
   refine qB p1 x λh' g A=>qe7 g.z ?_;refine⟨_,_,_,_,H1,U,I1.kept A,Br (zipApart_new (lt p1) (lt x)),g,λb hb=>?_,q⟩;have j:s1.heap.objs.size<=b:=by
    simp only[qaw,qbd,or_false]at hb;rcases hb with rfl|rfl|rfl|rfl|rfl
    ·exact qbZ _ 4
    ·exact qbZ _ 2
    ·exact qbZ _ 3
    ·exact qao _
    ·exact qbZ _ 1
   exact I1.fpOk j (I1.hok.fresh j)
def cg:List D->List D->List D
 |d::ds,e::es=>.tup [d,e]::cg ds es
 |_,_=>[]
def y4:W->Option (Bool×List D)
 |.d (.tup ds)=>some (true,ds)
 |.d (.lst ds)=>some (false,ds)
 |_=>none
def cp (c:Af):Lf
 |env,st=>(c env st).bind λr=>match r.1 with
  |[x,y]=>(y4 x).bind λa=>(y4 y).map λb=>(cg a.2 b.2,r.2)
  |_=>none
theorem d6:∀ (ds es) (i:Nat),(cg ds es)[i]?=(ds[i]?).bind λd=>(es[i]?).map λe=>D.tup [d,e]
 |[],es,i=>by simp[cg]
 |d::ds,[],i=>by cases i<;>simp[cg]
 |d::ds,e::es,0=>by simp[cg]
 |d::ds,e::es,i+1=>by simpa [cg] using d6 ds es i
theorem fK:∀ (ds es),(cg ds es).length=min ds.length es.length
 |[],es=>by simp[cg]
 |d::ds,[]=>by simp[cg]
 |d::ds,e::es=>by simp[cg,fK ds es]
section
variable {K:qae}{X:Cx}{a b:Expr}{pos:Pos}{af:Af}
theorem kx {st}(r:Rw K H φ w v) (e:y4 w=some p) (S:Sr K H φ st):∃ a l,v=.ref a/\SqK p.1 K H a l/\(∀ H' c,Fw φ c H H'->SqK p.1 K H' a l)/\Rls K H φ p.2 l :=by
 cases w with
 |h n=>cases e
 |d x=>
  cases x with
  |tup ds=>
   cases e;obtain⟨a,j,rfl,o,g⟩:=r;exact⟨a,j,U,(SqT.of o),λH' c f=>(SqT.of o).fw S f,g⟩
  |lst ds=>
   cases e;obtain⟨a,j,rfl,h0,o,g⟩:=r;exact⟨a,j,U,.inl o,λH' c f=>.inl (o.fw f h0),g⟩
  |_=>cases e
theorem FM (h1:∀ H' c,Fw φ c H H'->S1 H' l) (h2:∀ H' c,Fw φ c H H'->S2 H' j) (r1:∀ H' c,Fw φ c H H'->Rls K H' c ds l) (r2:∀ H' c,Fw φ c H H'->Rls K H' c es j) :
  Yl K φ H (Itz S1 S2) (cg ds es) :=by
 intro H2 m st2 i B s2;have Q:=h1 H2 m B;have P:=h2 H2 m B;have C:=r1 H2 m B;have w2:=r2 H2 m B;refine⟨λd hd=>?_,λhi=>⟨l,j,Q,P,?_⟩⟩
 ·rw[d6,qab]at hd
  obtain⟨d1,F,hd⟩:=hd;obtain⟨d2,Y,rfl⟩:=qad.mp hd;obtain⟨v,ev,rv⟩:=C.get F;obtain⟨u,eu,ru⟩:=w2.get Y;refine⟨⟨l,j,v,u,Q,P,ev,eu⟩,λx H' y=>?_⟩;obtain⟨T,v',u',y1,y2,O,rfl,rfl⟩:=y;have z1:=y1 l Q;have z2:=y2 j P;rw[ev]at z1;rw[eu]at z2;cases z1;cases z2;exact⟨aP.new O _,T,_,U,upd_same,_,_,U,rv.fw s2 (Fw.new O),_,_,U,ru.fw s2 (Fw.new O),U⟩
 ·rw[fK]at hi
  have l1:=C.length;have l2:=w2.length;rw[qa2,qa2];lia
theorem nO {s}{k}{t p} (hg:Gl X "zip") (hm:X.mg "zip" = none) (ha:IA K X [a,b] af) (hs:aw a=true:=by rfl) (z:aw b=true:=by rfl) (hK:X.K=K:=by rfl) :
  II K X (.Tuple s k t) (.Call (.Name "zip" p) [a,b] [] pos) (cp af) :=by
 subst hK;refine⟨λenv st r g=>?_⟩;simp only[cp,qab]at g;obtain⟨⟨ws,s1⟩,hy,g⟩:=g;dsimp only at g;split at g
 case h_2=>cases g
 rename_i x y;simp only[qab,qad]at g;obtain⟨p1,G,p2,J,rfl⟩:=g;refine (E5 (k:=p1.1) (k2:=p2.1) hg hm (ha.run _ _ _ hy) (oT hs z) (fI z)).imp ?_
 rintro σ H R ⟨φ,hE,hS,q⟩
 refine⟨φ,hE,hS,λl H1 I f1 s1 C=>?_⟩;obtain⟨v,r,rfl,rx,v2,r',rfl,ry,rfl⟩:=C;obtain⟨a,j,rfl,o,M,g⟩:=kx rx G s1;obtain⟨b,L,rfl,E,A,N⟩:=kx ry J s1;exact⟨a,b,U,⟨j,o⟩,⟨L,E⟩,q _ H1 I f1 s1 (FM M A (λH' c f=>g.fw s1 f) λH' c f=>N.fw s1 f)⟩
end
def fZ:List Int->Int->Int
 |[],m=>m
 |n::ns,m=>fZ ns (if n > m then n else m)
section
variable {prog:qaO}{w:World}{A:qa1}{s:qal}{I l S:Addr}{items:Array Value}{ns:List Int}{x:List (Str×Value)}{R:qhw->qal->Prop}
theorem jR (h:qcz items.toList ns) {j:Nat}(hn:ns[j]?=some n):∃ t,items[j]?=some (.int n t) :=by
 have hj:j<items.toList.length:=by rw[cq h];exact (qas.mp hn).1
 obtain⟨t,e⟩:=fU h j hj;refine⟨t,?_⟩;have hj':=by simpa using hj
 rw[qbJ hj'];rw[qdX]at e;rw[e,qau,hn];rfl
theorem jQ (h:qcz items.toList ns) {j:Nat} (hn:ns[j]?=none):items[j]?=none:=by
 rw[qa2]at hn
 have:=cq h
 rw[Array.getElem?_eq_none_iff];rw[qcU]at this;lia
theorem EG (P:A.handled=none) (hi:qcz items.toList ns) (u:S≠I) (H:l≠I) (J:l≠S):∀ (g) (j) (s) (m) (t) (c),ns.drop j=g->s.heap.IsListIter I l j->s.heap.IsList l items->
  s.heap.get? S=some { cls:=.type "list",dict:=none,data:=.seq #[.int m t,.int m t] c,slots:=#[] }->
  (∀ t' h',(∀ b o,b≠I->b≠S->s.heap.get? b=some o->h'.get? b=some o)->R (.ok (.ret (.int (fZ g m) t'))) { s with heap:=h' })->qdQ (model prog w) A (.builtin "max.loop" ⟨[.ref I,.none,.ref S],x⟩) R s :=by
 have G:(toString "max"++toString ".loop" : String) = "max.loop":=by decide
 intro g
 induction g with
 |nil=>
  intro j s m t c hd D C L M;have hn:ns[j]?=none:=by
   rw[qa2]
   have:=congrArg qfg hd
   simp at this;lia
  refine qcY qdy ?_;rw[qcB qbD _];show wpAny _ A.in1 (qgZ (.ref S) >>= _) _ _ s;refine qaa (qbb L U ?_);refine qaa (qct (qfk P D C (jQ hi hn) λV y=>?_));refine qaa (qcW (y _ _ u L) U (qaa (qcd (qam ?_))));exact M t _ λb o i p q=>(qaQ _ _ (qbp p)).trans (y _ _ i q)
 |cons n g ih=>
  intro j s m t c hd D C L M;have hn:ns[j]?=some n:=by
   have:=congrArg (λl=>l[0]?) hd
   simpa using this
  have W:ns.drop (j+1)=g:=by
   have:=congrArg (qlC 1) hd
   simpa [qiA,qe5] using this
  obtain⟨tn,hx⟩:=jR hi hn;refine qcY qdy ?_;rw[qcB qbD _];show wpAny _ A.in1 (qgZ (.ref S) >>= _) _ _ s;refine qaa (qbb L U ?_);refine qaa (qct (qfb D C hx λV z s1=>?_));have y:=s1.extBut;have B:=y _ _ u L;show wpAny _ A.in1 (tryCatch _ _ >>= _) _ _ _;refine qaa (qct (qb4 (qaa (qgk ?_))));refine qaa (qb4 (qcu ?_));refine qaa (qcd (qam ?_));by_cases hb:n > m
  ·have N:decide (n > m)=true:=by simp[hb]
   rw[N];simp only[if_true];refine qaa (qcW B U (qaa (qcd ?_)));rw[G];refine qam ⟨qdm qbD _,ih (j+1) _ n tn _ W (z.at λo q=>(qaQ _ _ u).trans q) (Heap.IsList.at C λo q=>(qaQ _ _ (qbp J)).trans (y _ _ H q)) (qb3 _ B U) λt' h' k=>?_⟩
   have:=M t' h' λb o i p q=>k b o i p ((qaQ _ _ (qbp p)).trans (y _ _ i q))
   rw[fZ,iFP hb]at this;exact this
  ·have N:decide (n > m)=false:=by simp[hb]
   rw[N];simp only[qbs,if_false];refine qaa (qcd ?_);rw[G];refine qam ⟨qdm qbD _,ih (j+1) _ m t c W z (Heap.IsList.at C λo q=>y _ _ H q) B λt' h' k=>?_⟩
   have:=M t' h' λb o i p q=>k b o i p (y _ _ i q)
   rw[fZ,iFN hb]at this;exact this
variable {E:Value->qal->Prop}
theorem dj {id}(K:builtinKind id=none) (hp:plainId id=true) (hb:entryFor table id=some b) (ha:qkk id ⟨args,x⟩)
  (hc:wpAny (model prog w) A.in1 (b ⟨args,x⟩) (λfin s'=>match fin with
    |.done f=>(match (Except.ok f) with|.ok (.ret v)=>Q v s'|.ok _=>False|.error e=>E e s')
    |.again X=>X.quiet=true/\qdQ (model prog w) A X (λr s'=>match r with|.ok (.ret v)=>Q v s'|.ok _=>False|.error e=>E e s') s') E s) :
  wpAny (model prog w) A (call (.builtin id) args x) Q E s :=by
 refine qiY (codeAny_call_builtin hp hb ?_);simp only[qjn,K];cases hsig:Manifest.signature? id with
 |none=>exact qam hc
 |some sig=>
  have h2:=by simpa only[qkk,hsig] using ha
  show wpAny _ A.in1 (Bind.checkArgs id sig _) _ _ s;rw[h2];exact qam hc
theorem pG (a v):qkk "max" ⟨[a],[(qcp "default",v)]⟩ :=by kernel_rfl
def wZ (ns:List Int) (d:Option Int):Option Int:=match ns with
 |n::r=>some (fZ r n)
 |[]=>d
theorem yM (P:A.handled=none) (hi:qcz items.toList ns) (u:S≠I) (H:l≠I) (J:l≠S) (D:s.heap.IsListIter I l 0) (C:s.heap.IsList l items) (L:s.heap.get? S=some { cls:=.type "list",dict:=none,data:=.seq #[] c,slots:=#[] })
  (M:∀ v h',(∀ b o,b≠I->b≠S->s.heap.get? b=some o->h'.get? b=some o)->(∀ n r,ns=n::r->∃ t,v=.int (fZ r n) t)->(ns=[]->∃ k,x=[(k,v)])->R (.ok (.ret v)) { s with heap:=h' })
  (h0:ns=[]->∃ k v,x=[(k,v)]):qdQ (model prog w) A (.builtin "max.loop" ⟨[.ref I,.none,.ref S],x⟩) R s :=by
 refine qcY qdy ?_;rw[qcB qbD _];refine qaa (qbb L U ?_);cases hn:ns with
 |nil=>
  obtain⟨k,v,rfl⟩:=h0 hn;refine qaa (qct (qfk P D C (jQ hi (by rw[hn];rfl)) λV y=>?_));refine qaa (qcX (qam ?_));exact M v _ (λb o i _ q=>y _ _ i q) (λn r e=>by rw[hn]at e;cases e) λ_=>⟨k,U⟩
 |cons n g=>
  obtain⟨tn,hx⟩:=jR hi (j:=0) (by rw[hn];rfl);refine qaa (qct (qfb D C hx λV z s1=>?_));have y:=s1.extBut;have B:=y _ _ u L;show wpAny _ A.in1 (qia S _ >>= _) _ _ _;refine qaa (qcW B U ?_);refine qam ⟨qdm qbD _,EG P hi u H J g 1 _ n tn _ (by rw[hn];rfl) (z.at λo q=>(qaQ _ _ u).trans q) (Heap.IsList.at C λo q=>(qaQ _ _ (qbp J)).trans (y _ _ H q)) (qb3 _ B U) λt' h' k=>?_⟩;exact M _ h' (λb o i p q=>k b o i p ((qaQ _ _ (qbp p)).trans (y _ _ i q))) (λn' r' e=>by rw[hn]at e;cases e;exact⟨t',U⟩) λe=>by rw[hn]at e;cases e
theorem qA (P:A.handled=none) (hi:qcz items.toList ns) (C:s.heap.IsList l items) (K:x=[]\/∃ v,x=[(qcp "default",v)]) (h0:ns=[]->x≠[])
  (h:∀ v h',(∀ b o,s.heap.get? b=some o->h'.get? b=some o)->(∀ n r,ns=n::r->∃ t,v=.int (fZ r n) t)->(ns=[]->∃ k,x=[(k,v)])->Q v { s with heap:=h' }) :
  wpAny (model prog w) A (call (.builtin "max") [.ref l] x) Q E s :=by
 have T:l<s.heap.objs.size:=by obtain⟨_,e,_⟩:=C;exact qax e
 have O:(s.heap.push { cls:=.type "list_iterator",data:=.fields #[.ref l,.int 0 0] }).objs.size=s.heap.objs.size+1:=qa5 ..
 have fin:∀ dd:List Value,x=dd.map _->wpAny (model prog w) A.in1 (do
   let it <-qid _
   let b <-newList []
   qi9 (.builtin "max.loop" ⟨[it,.none,b],dd.map λd=>(qcp "default",d)⟩)) (λfin s'=>match fin with
   |.done f=>(match (Except.ok f) with|.ok (.ret v)=>Q v s'|.ok _=>False|.error e=>E e s')
   |.again X=>X.quiet=true/\qdQ (model prog w) A X (λr s'=>match r with|.ok (.ret v)=>Q v s'|.ok _=>False|.error e=>E e s') s') E s:=λdd Y=>by
  refine qaa (qdY C (qaa (qb5 ?_)));refine qam ⟨qdm qbD _,?_⟩;rw[<-Y];refine yM P hi (by rw[O];exact qeN _) (qaC T) (by rw[O];exact qaC (qa0 T))
   ⟨_,qaf _ (qar _ U),U,U⟩ (Heap.IsList.at C λo q=>qaf _ (qaf _ q)) (qar _ U) (λv h' k V h2=>?_) (λe=>?_)
  ·refine h v h' (λb o q=>?_) V h2
   have hb:=qax q;exact k b o (qaC hb) (by rw[O];exact qaC (qa0 hb)) (qaf _ (qaf _ q))
  ·rcases K with K|⟨v,K⟩
   ·exact absurd K (h0 e)
   ·exact⟨_,v,K⟩
 rcases K with rfl|⟨v,rfl⟩
 ·refine dj qhg qgO qgQ (F.args_max1 _) ?_
  exact (fin [] U)
 ·refine dj qhg qgO qgQ (pG _ _) ?_
  exact (fin [v] U)
end
section
variable {K:qae}{X:Cx}{e a b:Expr}{es:List Expr}{pos:Pos}{f fa fb:Ef}{af:Af}
def lsI (st:Sto) (w:W):Option (List Int):=(lsD st w).bind a5
theorem yh (p:X.calm=true) {d:Option V}{A:St}{ad}{E:XK}(I:Inv X l A H s) (J:Rd H ad (.lst (ns.map V.int)))
  (g:(y=[]/\ns≠[])\/∃ c t,y=[(qcp "default",.int c t)]/\(ns=[]->r=c)) (R:∀ n q,ns=n::q->r=fZ q n) (q:Q (.int r) H) :
  wpAny (model X.prog X.w) X.A (call (.builtin "max") [.ref ad] y) (EP X l A Q) X.xe s :=by
 obtain⟨its,C,O,hz⟩:=I.list (.inl J);refine qA (I.ok.hd p) (by simpa using dN C) O.isList ?_ ?_ λv h' kp L G=>?_
 ·rcases g with g|⟨c,t,g,_⟩
  ·exact .inl g.1
  ·exact .inr ⟨_,g⟩
 ·intro e z
  rcases g with g|⟨c,t,g,_⟩
  ·exact g.2 e
  ·rw[g]at z;cases z
 ·have T:∃ t,v=.int r t:=by
   cases hn:ns with
   |nil=>
    obtain⟨k,o⟩:=G hn;rcases g with g|⟨c,t,g,M⟩
    ·exact absurd hn g.2
    ·rw[g]at o
     cases o;rw[M hn];exact⟨t,U⟩
   |cons n q=>
    rw[R n q hn];exact L n q hn
  exact⟨.int r,H,I.kept kp,T,q⟩
def dMx (st:Sto):List W->Option D
 |[.d (.int i),.d (.int j)]=>some (.int (if j > i then j else i))
 |[w]=>(lsI st w).bind λns=>(wZ ns none).map D.int
 |_=>none
theorem Cg {st}(S:Sr K H φ st) (r:Rw K H φ w v) (h:lsI st w=some ns):∃ ad,v=.ref ad/\Rd H ad (.lst (ns.map V.int)) :=by
 obtain⟨ds,F,m⟩:=qab.mp h;obtain⟨ad,Y,rfl,L,G⟩:=kT S r F;cases bv m;cases G.ints;exact⟨ad,U,L⟩
theorem F6 (p:X.calm=true:=by rfl):cP K X (.builtin "max") dMx:=by
 refine⟨λst ws d h=>?_⟩;have one:∀ w,((lsI st w).bind λns=>(wZ ns none).map D.int)=some d->a7 X _ (rCD K st [w] d):=λw h=>by
  obtain⟨ns,F,h⟩:=qab.mp h;obtain⟨r,m,rfl⟩:=qad.mp h;intro l s A H xs us Q I C q;obtain⟨φ,S,⟨v,rr,rfl,B,rfl⟩,q⟩:=q;obtain⟨ad,rfl,J⟩:=Cg S B F;obtain⟨u,rfl,P⟩:=fJ C;cases P;refine yh (E:=λ_ _ _=>False) (d:=none) p I J (.inl ⟨U,λe=>by rw[e]at m;cases m⟩) (λn q hn=>by rw[hn]at m;exact (qaL m).symm) (q _ H (aP.refl H) U)
 match ws,h with
 |[.d (.int i),.d (.int j)],h=>
  cases h;refine (yg p).imp ?_
  rintro Y H Q ⟨φ,S,⟨v,r,rfl,B,u,r',rfl,N,rfl⟩,q⟩
  exact⟨i,j,by rw[B,N],q _ H (aP.refl H) U⟩
 |[w],h=>exact one w (by cases w with|h n=>exact h|d x=>cases x<;>exact h)
end
section
variable {K:qae}{X:Cx}
def ve (_:Sto):W->W->Option D
 |.d (.int i),.d (.int j)=>some (.int (qdG i j))
 |_,_=>none
theorem sh:OpD K X (qbP .BitAnd) ve:=gy (λ_ _ _=>rfl) λi j d h=>by cases h;exact⟨EO.imp λ_ _ _ _ q=>⟨i,j,q⟩,U⟩
end
section
variable {K:qae}{X:Cx}{pos:Pos}{a b:Expr}{c:Af}
end
def cF (a b:Ef):Ef
 |env,st=>(a env st).bind λx=>(b env x.2).bind λy=>match x.1,y.1 with
 | .h n,.d (.int i)=>(match y.2[n]? with
  |some (.n ws)=>(atI ws i).map λw=>(w,y.2)
  |_=>none)
 |_,_=>none
def zP (a:Af):Ef
 |env,st=>(a env st).bind λr=>if r.1.length<=1000 then some (.h r.2.length,r.2++[.n r.1]) else none
def jK (o i v:Ef):Sf
 |env,st=>(v env st).bind λb=>(o env b.2).bind λc=>(i env c.2).bind λa=>match c.1,a.1,b.1 with
 | .h n,.d (.int k),.d x=>(match a.2[n]? with
  |some (.n ws)=>(ixN ws.length k).map λj=>.nx env (a.2.set n (.n (ws.set j (.d x))))
  |_=>none)
 |_,_,_=>none
def vK (ds:List D):List W->Option (D×List D)
 |[.d (.int i)]=>(ixN ds.length i).bind λk=>(ds[k]?).bind λd=>if bG d=true/\-(2^62)<=i/\i<2^62 then some (d,ds.eraseIdx k) else none
 |_=>none
def jJ (i j l:Nat) (a:Af):Sf
 |env,st=>(a env st).bind λr=>match r.1 with
 |[x,y,z]=>some (.nx (((env.set i (some x)).set j (some y)).set l (some z)) r.2)
 |_=>none
section
variable {K:qae}{X:Cx}{pos:Pos}{e a b c:Expr}{es:List Expr}{f fa fb:Ef}{af:Af}
theorem Rws.get {H:Hp}{φ:List Addr}:∀ {ds:List W}{t:List V},Rws K H φ ds t->∀ {i:Nat}{d:W},ds[i]?=some d->∃ v,t[i]?=some v/\Rw K H φ d v
 |[],_,h,i,d,e=>by simp at e
 |d::ds,_,h,i,e,q=>by
  obtain⟨v,r,rfl,R,P⟩:=h;cases i with
  |zero=>simp at q;subst q;exact⟨v,U,R⟩
  |succ i=>simpa using Rws.get P (by simpa using q)
theorem Rws.set {H:Hp}{φ:List Addr}:∀ {ds:List W}{t:List V} (n:Nat) {d:W}{v:V},Rws K H φ ds t->Rw K H φ d v->Rws K H φ (ds.set n d) (t.set n v)
 |[],_,_,_,_,h,_=>by cases h;exact U
 |e::ds,_,0,d,v,h,hd=>by
  obtain⟨u,r,rfl,R,P⟩:=h;exact⟨v,r,U,hd,P⟩
 |e::ds,_,n+1,d,v,h,hd=>by
  obtain⟨u,r,rfl,R,P⟩:=h;exact⟨u,_,U,R,Rws.set n P hd⟩
theorem Rws.mem {H:Hp}{φ:List Addr}:∀ {ds:List W}{t:List V},Rws K H φ ds t->∀ {m:Nat},W.h m∈ds->m<φ.length
 |[],_,_,m,hm=>nomatch hm
 |d::ds,_,h,m,hm=>by
  obtain⟨v,r,rfl,R,P⟩:=h;rcases qaw.mp hm with z|z
  ·subst z
   obtain⟨a,e,_⟩:=R;exact (qas.mp e).1
  ·exact Rws.mem P z
theorem Sr.atn {st} (S:Sr K H φ st) (e1:φ[n]?=some p) (e2:st[n]?=some (.n ws)):∃ t,H p=some (.lst t)/\Rws K H φ ws t/\∀ m,W.h m∈ws->m<n :=S.at_ n p _ e1 e2
theorem BJ (r:Rws K H φ ds t) (e:atI ds i=some d):∃ v,atI t i=some v/\Rw K H φ d v :=by
 unfold atI at e ⊢;rw[<-r.length];obtain⟨j,e1,e2⟩:=qab.mp e;obtain⟨v,ev,rv⟩:=r.get e2;exact⟨v,by rw[e1];exact ev,rv⟩
theorem qZ (T:IE K X a fa) (hb:IE K X b fb) (hs:kW b=true:=by rfl) (hK:X.K=K:=by rfl):IE K X (.Subscript a b pos) (cF fa fb):=by
 subst hK;refine⟨λenv st r g=>?_⟩;simp only[cF,qab]at g;obtain⟨⟨x,s1⟩,hx,⟨y,s2⟩,A,g⟩:=g;dsimp only at g;split at g
 case h_2=>cases g
 rename_i n i;split at g
 ·rename_i ws hws
  obtain⟨w,hw,rfl⟩:=qad.mp g;refine (Aw rR (T.run _ _ _ hx) (hb.run _ _ _ A) (nZ hs)).imp ?_
  rintro σ H Q ⟨φ,E,C,q⟩
  refine⟨φ,E,C,λv H1 B F S1 N=>⟨B,E.fw C F,S1,λu H2 φ2 f2 S2 w2=>?_⟩⟩;obtain⟨p,ep,rfl⟩:=N.fw S1 f2;obtain⟨t,hv,rl,_⟩:=S2.atn ep hws;obtain⟨z,ez,rz⟩:=BJ rl hw;exact .inl ⟨p,t,i,z,U,w2,SqL.of hv,ez,q z H2 φ2 (F.trans f2) S2 rz⟩
 ·cases g
theorem mf (h:IA K X es af):IE K X (.List es pos) (zP af):=by
 refine⟨λenv st r g=>?_⟩;simp only[zP,qab]at g;obtain⟨y,A,g⟩:=g;split at g
 ·cases g
  rename_i Y;refine (Ax (h.run _ _ _ A)).imp ?_
  rintro σ H Q ⟨φ,E,C,q⟩
  refine⟨φ,E,C,λt H1 B F s1 N=>?_⟩;refine⟨by rw[<-N.length];exact iQ Y,λp G=>?_⟩;exact q _ _ _ (F.trans (Fw.more G)) (s1.moreC G ⟨t,upd_same,N.fw s1 (Fw.more G),λm hm=>N.mem hm⟩) ⟨p,by rw[<-s1.len];simp,U⟩
 ·cases g
theorem iE {O} (ho:IE K X a fa) (hi:IE K X b fb) (hv:IE K X e f) (hb:kW b=true:=by rfl) (hs:qc2 [.Subscript a b O] e pos.line X.env=pure false:=by rfl) (hw:qc3 [.Subscript a b O] e X.env=pure none:=by rfl) :
  IS K X (.Assign [.Subscript a b O] e pos) (jK fa fb f) :=by
 refine⟨λenv st r g=>?_⟩;simp only[jK,qab]at g;obtain⟨⟨rv,s1⟩,ev,⟨ro,s2⟩,eo,⟨ri,s3⟩,ei,g⟩:=g;dsimp only at g;split at g
 case h_2=>cases g
 rename_i n k x;split at g
 ·rename_i ws hws
  obtain⟨j,ej,rfl⟩:=qad.mp g;refine (oG (hv.run _ _ _ ev) (sE (ho.run _ _ _ eo) (hi.run _ _ _ ei) kq (lW hb)) hs hw (jz U)).imp ?_
  rintro D σ H ⟨φ,E,C,q⟩
  refine⟨φ,E,C,λv H1 B F s1 N=>⟨B,E.fw C F,s1,λo H2 φ2 f2 s2 w2=>⟨φ2,(E.fw C F).fw s1 f2,s2,λi H3 φ3 f3 s3 w3=>?_⟩⟩⟩;have e3:=((E.fw C F).fw s1 f2).fw s2 f3;have w1':=(N.fw s1 f2).fw s2 f3;obtain⟨p,ep,rfl⟩:=w2.fw s2 f3;obtain⟨t,G,rl,bd⟩:=s3.atn ep hws;have w3':i=.int k:=w3;subst w3'
  obtain⟨f4,s4⟩:=s3.putC (o:=.lst (t.set j v)) (c:=.n (ws.set j (.d x))) ep λf=>⟨_,upd_same,(Rws.set j rl w1').fw s3 f,λm hm=>by
   rcases List.mem_or_eq_of_mem_set hm with z|z
   ·exact bd m z
   ·cases z⟩
  refine⟨p,t,k,j,U,U,G,by rw[<-rl.length];exact ej,?_⟩;exact q _ _ φ3 (((F.trans f2).trans f3).trans f4) (e3.fw s3 f4) s4
 ·cases g
theorem Rls.erase {H:Hp}{φ:List Addr}:∀ {ds:List D}{t:List V} (n:Nat),Rls K H φ ds t->Rls K H φ (ds.eraseIdx n) (t.eraseIdx n)
 |[],_,_,h=>by cases h;exact U
 |d::ds,_,0,h=>by
  obtain⟨v,r,rfl,R,P⟩:=h;exact P
 |d::ds,_,n+1,h=>by
  obtain⟨v,r,rfl,R,P⟩:=h;exact⟨v,_,U,R,Rls.erase n P⟩
theorem rj {apos} (ho:IE K X a fa) (T:IA K X (e::es) af) (hbase:qcJ a "pop" X.env (eval a X.env)=eval a X.env:=by rfl)
  (hall:(e::es).all aw=true:=by rfl) (hfl30:(e::es).length<30:=by decide) (hline:(apos.endLine==pos.line)=true:=by rfl) (hK:X.K=K:=by rfl) :
  IE K X (.Call (.Attribute a "pop" apos) (e::es) [] pos) (de vK fa af) :=by
 refine vm PySem.F.slot_list_pop PySem.F.type_list_pop Ai (λH φ st n ad ds t ws us y Q S ea eds hv rl rw A q=>?_) (λds ws y h=>?_) ho T hbase hall hfl30 hline hK
 ·match ws,A with
  |[.d (.int i)],A=>
   simp only[vK,qab]at A;obtain⟨k,hk,d,hd,A⟩:=A;split at A
   ·rename_i Y
    cases A;obtain⟨v,r,rfl,r1,rfl⟩:=rw;obtain⟨x,ex,rx⟩:=rl.get hd;refine⟨ad,t,i,k,x,U,by rw[r1],hv,by lia,by lia,by rw[<-rl.length];exact (mJ hk).1,ex,q _ _ rx (rl.erase k) λb z=>?_⟩;obtain⟨z1,z2⟩:=eO Y.1 rx;rw[z]at z2;cases z2
   ·cases A
 ·match ws,h with
  |[.d (.int i)],h=>
   simp only[vK,qab]at h;obtain⟨k,hk,d,hd,h⟩:=h;split at h
   ·rename_i Y
    cases h;exact Y.1
   ·cases h
def Hn (i j l:Nat) (ta:TA):TS:=λD σ H=>ta σ H λt H1=>∃ v w u,t=[v,w,u]/\D.nx (((σ.set i (some v)).set j (some w)).set l (some u)) H1
theorem CQ (hc:X.calm=true) (hN:X.N.Nodup) (hi:X.N[i]?=some x) (hj:X.N[j]?=some y) (Y:X.N[l]?=some z) (hij:i≠j) (hil:i≠l) (hjl:j≠l)
  (hx:X.env.scope.names.lookup x=some .local) (A:X.env.scope.names.lookup y=some .local) (hz:X.env.scope.names.lookup z=some .local) (T:PA X [a,b,c] ta)
  (hw:qc3 [.Tuple [.Name x L,.Name y J,.Name z M] kt pt] (.Tuple [a,b,c] k2 pt2) X.env=pure (some [x,y,z]))
  (hs:qc2 [.Tuple [.Name x L,.Name y J,.Name z M] kt pt] (.Tuple [a,b,c] k2 pt2) pos.line X.env=pure false) :
  PS X (.Assign [.Tuple [.Name x L,.Name y J,.Name z M] kt pt] (.Tuple [a,b,c] k2 pt2) pos) (Hn i j l ta) :=by
 intro pins s σ H D I h;refine qaa (qee ?_);refine qaa (qam ?_);refine qaa (Tuple_ (thn (T _ pins s σ H _ I h) λus s1 ⟨t,H1,I1,r1,q1⟩=>?_));obtain⟨v,w,u,e1,q1⟩:=q1;subst e1;obtain⟨u1,u2,u3,rfl,rv,rw',ru⟩:∃ u1 u2 u3,us=[u1,u2,u3]/\aM v u1/\aM w u2/\aM u u3:=by
  cases r1 with
  |cons p q=>
   cases q with
   |cons p' q'=>
    cases q' with
    |cons p2 q2=>
     cases q2;exact⟨_,_,_,U,p,p',p2⟩
 refine qb5 ?_ (by show 3<=qaF;decide);rw[hw];refine qaa (qam ?_);refine qaa (qcX (qaa (qi1 (items:=#[u1,u2,u3]) (I.ok.hd hc) (qkp s1.heap _) λh' hx'=>?_)));refine qaa (qdf (qeF (cX ((I1.kept λb o e=>qaf _ e).kept λb o e=>hx' b o (qaC (qax e)) e) hN Y (.inl hz) ru (λs2 I4=>?_) (.inr hz))));refine qdf (qeF (cX I4 hN hj (.inl A) rw' (λs3 I5=>?_) (.inr A)));refine qdf (qeF (cX I5 hN hi (.inl hx) rv (λs4 I6=>qgr (qam ?_)) (.inr hx)));rw[qfA _ _ (qbp hij),qfA _ _ (qbp hil),qfA _ _ (qbp hjl)]at I6;exact⟨_,H1,I6,q1⟩
theorem mz (hc:X.calm=true) (hN:X.N.Nodup) (hi:X.N[i]?=some x) (hj:X.N[j]?=some y) (Y:X.N[l]?=some z) (hij:i≠j) (hil:i≠l) (hjl:j≠l)
  (hx:X.env.scope.names.lookup x=some .local) (A:X.env.scope.names.lookup y=some .local) (hz:X.env.scope.names.lookup z=some .local) (T:IA K X [a,b,c] af)
  (hw:qc3 [.Tuple [.Name x L,.Name y J,.Name z M] kt pt] (.Tuple [a,b,c] k2 pt2) X.env=pure (some [x,y,z]))
  (hs:qc2 [.Tuple [.Name x L,.Name y J,.Name z M] kt pt] (.Tuple [a,b,c] k2 pt2) pos.line X.env=pure false) :
  IS K X (.Assign [.Tuple [.Name x L,.Name y J,.Name z M] kt pt] (.Tuple [a,b,c] k2 pt2) pos) (jJ i j l af) :=by
 refine⟨λenv st r g=>?_⟩;simp only[jJ,qab]at g;obtain⟨⟨ws,s1⟩,hy',g⟩:=g
 match ws,g with
 |[wx,wy,wz],g=>
  cases g;refine (CQ hc hN hi hj Y hij hil hjl hx A hz (T.run _ _ _ hy') hw hs).imp ?_
  rintro D σ H ⟨φ,E,C,q⟩
  refine⟨φ,E,C,λt H1 B F S1 N=>?_⟩;obtain⟨v,r,rfl,r1,u,r',rfl,r2,u3,r'',rfl,r3,r4⟩:=N;cases r4;exact⟨v,u,u3,U,q _ H1 B F ((((E.fw C F).set i r1).set j r2).set l r3) S1⟩
theorem mw (hx:PG X (.Name x L) (lv i)) (A:PG X (.Name y J) (lv j)) (hz:PG X (.Name z M) (lv l)) (T:IA K X [a,b,c] af) (hc:X.calm=true) (hK:X.K=K)
  (hs:qc2 [.Tuple [.Name x L,.Name y J,.Name z M] kt pt] (.Tuple [a,b,c] k2 pt2) pos.line X.env=pure false) (hw:qc3 [.Tuple [.Name x L,.Name y J,.Name z M] kt pt] (.Tuple [a,b,c] k2 pt2) X.env=pure none) :
  IS K X (.Assign [.Tuple [.Name x L,.Name y J,.Name z M] kt pt] (.Tuple [a,b,c] k2 pt2) pos) (jJ i j l af) :=by
 refine⟨λenv st r g=>?_⟩;simp only[jJ,qab]at g;obtain⟨⟨ws,s1⟩,hy',g⟩:=g
 match ws,g with
 |[wx,wy,wz],g=>
  cases g;refine (oG (Ay (x1:=k2) (pos:=pt2) (T.run _ _ _ hy')) (AA (k:=kt) (pos:=pt) hc (kh hx (kh A (kh hz xy (jy U)) (jy U)) (jy U)) ((lV U).trans U) (jx U)) hs hw (jz U)).imp ?_
  rintro D σ H ⟨φ,E,C,q⟩
  refine⟨φ,E,C,λt H1 B F S1 N=>?_⟩;obtain⟨v,r,rfl,r1,u,r',rfl,r2,u3,r'',rfl,r3,r4⟩:=N;cases r4;refine⟨by rw[qcQ];simp,λp G=>⟨p,_,U,SqT.of upd_same,U,v,_,U,u,_,U,u3,_,U,U,?_⟩⟩;exact q _ _ B (F.trans (Fw.new G)) (((((E.fw C F).fw S1 (Fw.new G)).set i (r1.fw S1 (Fw.new G))).set j (r2.fw S1 (Fw.new G))).set l (r3.fw S1 (Fw.new G))) (S1.new G)
end
def ay (f:Str) (a:Ef):Ef
 |env,st=>(a env st).bind λx=>match x.1 with
 |.d (.ob ns ds)=>((ns.zip ds).lookup f).map λd=>(.d d,x.2)
 | .h n=>(match x.2[n]? with
  |some (.o fs)=>(fs.lookup f).map λw=>(w,x.2)
  |_=>none)
 |_=>none
section
variable {K:qae}{H:Hp}{φ:List Addr}
theorem uX :∀ {ns:List Str}{ds}{b},Rls K H φ ds b->(ns.zip ds).lookup f=some d->∃ v,(ns.zip b).lookup f=some v/\Rl K H φ d v/\f∈ns
 |[],ds,b,r,h=>by cases h
 |n::ns,[],b,r,h=>by cases h
 |n::ns,x::ds,b,r,h=>by
  obtain⟨v,k,rfl,j,c⟩:=r;rw[qfz,qbH]at h ⊢;by_cases e:(f==n)=true
  ·rw[e]at h ⊢
   cases h;exact⟨v,U,j,by rw[beq_iff_eq.mp e];exact qag⟩
  ·rw[show (f==n)=false by simpa using e]at h ⊢
   obtain⟨l,s,q,o⟩:=uX c h;exact⟨l,s,q,qaj _ o⟩
theorem Rfs.look :∀ {fs}{b},Rfs K H φ fs b->fs.lookup f=some w->∃ v,b.lookup f=some v/\Rw K H φ w v/\∃ p∈fs,p.1=f
 |[],b,r,h=>by cases h
 |(n,x)::fs,b,r,h=>by
  obtain⟨v,k,rfl,j,c⟩:=r;rw[qbH]at h ⊢;by_cases e:(f==n)=true
  ·rw[e]at h ⊢
   cases h;exact⟨v,U,j,_,qag,(beq_iff_eq.mp e).symm⟩
  ·rw[show (f==n)=false by simpa using e]at h ⊢
   obtain⟨l,s,q,p,t,o⟩:=Rfs.look c h;exact⟨l,s,q,p,qaj _ t,o⟩
theorem Rfs.length:∀ {fs:List (Str×W)}{b:List (Str×V)},Rfs K H φ fs b->fs.length=b.length
 |[],b,r=>by cases r;rfl
 |(n,x)::fs,b,r=>by
  obtain⟨v,k,rfl,j,c⟩:=r;rw[qat,qat,Rfs.length c]
theorem Rfs.mem :∀ {fs}{b},Rfs K H φ fs b->W.h m∈fs.map (·.2)->m<φ.length
 |[],_,_,hm=>nomatch hm
 |(n,x)::fs,_,r,hm=>by
  obtain⟨v,k,rfl,j,c⟩:=r;rcases qaw.mp hm with z|z
  ·subst z
   obtain⟨a,e,_⟩:=j;exact (qas.mp e).1
  ·exact Rfs.mem c z
def oH (f:Str) (w:W):List (Str×W)->List (Str×W)
 |[]=>[(f,w)]
 |(g,x)::r=>if g=f then (g,w)::r else (g,x)::oH f w r
theorem Rfs.put {f:Str}{w:W}{v:V} (i:Rw K H φ w v):∀ {fs:List (Str×W)}{b:List (Str×V)},Rfs K H φ fs b->Rfs K H φ (oH f w fs) (fF f v b)
 |[],_,r=>by cases r;exact⟨v,_,U,i,U⟩
 |(g,x)::fs,_,r=>by
  obtain⟨l,k,rfl,j,c⟩:=r;unfold oH fF;by_cases e:g=f
  ·rw[iFP e,iFP e];exact⟨v,k,U,i,c⟩
  ·rw[iFN e,iFN e];exact⟨l,_,U,j,Rfs.put i c⟩
theorem oI {f:Str}{w:W}:∀ {fs:List (Str×W)}{p:Str×W},p∈oH f w fs->p∈fs\/p=(f,w)
 |[],p,h=>.inr (qan.mp h)
 |(g,x)::fs,p,h=>by
  unfold oH at h;by_cases e:g=f
  ·rw[iFP e]at h
   rcases qaw.mp h with z|z
   ·rw[e]at z;exact .inr z
   ·exact .inl (qaj _ z)
  ·rw[iFN e]at h
   rcases qaw.mp h with z|z
   ·exact .inl (z ▸ qag)
   ·rcases oI z with z|z
    ·exact .inl (qaj _ z)
    ·exact .inr z
theorem uF :∀ {b},f∉b.map (·.1)->fF f v b=b++[(f,v)]
 |[],_=>rfl
 |(g,x)::b,h=>by
  unfold fF;rw[iFN (by intro e;exact h (e ▸ qag)),uF λz=>h (qaj _ z)];rfl
theorem Rfs.keys:∀ {fs:List (Str×W)}{b:List (Str×V)},Rfs K H φ fs b->b.map (·.1)=fs.map (·.1)
 |[],b,r=>by cases r;rfl
 |(n,x)::fs,b,r=>by
  obtain⟨v,k,rfl,j,c⟩:=r;rw[qaz,qaz,Rfs.keys c]
theorem Rfs.snoc {f:Str}{w:W}{v:V} (i:Rw K H φ w v):∀ {fs:List (Str×W)}{b:List (Str×V)},Rfs K H φ fs b->Rfs K H φ (fs++[(f,w)]) (b++[(f,v)])
 |[],_,r=>by cases r;exact⟨v,_,U,i,U⟩
 |(g,x)::fs,_,r=>by
  obtain⟨l,k,rfl,j,c⟩:=r;exact⟨l,_,U,j,Rfs.snoc i c⟩
end
section
variable {K:qae}{X:Cx}{pos j:Pos}{e o:Expr}{P fb:Ef}{f:Str}
theorem l9 (h:IE K X e P) (hb:qcJ e f X.env (eval e X.env)=eval e X.env:=by rfl) (hK:X.K=K:=by rfl):IE K X (.Attribute e f pos) (ay f P):=by
 subst hK;refine⟨λenv st r b=>?_⟩;simp only[ay,qab]at b;obtain⟨⟨x,s1⟩,hx,b⟩:=b;refine (EX (h.run _ _ _ hx) hb).imp ?_
 rintro σ H Q ⟨φ,E,F,q⟩
 refine⟨φ,E,F,λv H1 i A l O=>?_⟩;cases x with
 |d x=>
  cases x with
  |ob ns ds=>
   obtain⟨d,hd,rfl⟩:=qad.mp b;obtain⟨a,Cl,k,fs,L,rfl,h0,I,rfl,h3,C,y,h6,h7⟩:=O;obtain⟨u,S,T,hf⟩:=uX h7 hd;exact⟨a,Cl,k,_,u,U,I,y,h6 f hf,S,q u H1 i A l T⟩
  |_=>cases b
 |h n=>
  dsimp only at b;split at b
  ·rename_i fs s
   obtain⟨w,hw,rfl⟩:=qad.mp b;obtain⟨a,N,rfl⟩:=O;obtain⟨Cl,k,L,I,G,h3,C,y⟩:=l.at_ n a _ N s;obtain⟨u,S,T,p,W,rfl⟩:=G.look hw;exact⟨a,Cl,k,L,u,U,I,C,y p W,S,q u H1 i A l T⟩
  ·cases b
def lx (f:Str) (o v:Ef):Sf
 |env,st=>(v env st).bind λM=>(o env M.2).bind λJ=>match J.1,M.1 with
 | .h n,.d x=>(match J.2[n]? with
  |some (.o fs)=>if fs.length<1000/\(fs.lookup f).isSome=true then some (.nx env (J.2.set n (.o (oH f (.d x) fs)))) else none
  |_=>none)
 |_,_=>none
theorem mC (ho:IE K X o P) (hv:IE K X e fb) (hs:qcq e (some (.Attribute o f j)) pos.line X.env=pure false:=by rfl) (hK:X.K=K:=by rfl):IS K X (.Assign [.Attribute o f j] e pos) (lx f P fb):=by
 subst hK;refine⟨λenv st r b=>?_⟩;simp only[lx,qab]at b;obtain⟨⟨M,s1⟩,ev,⟨J,B⟩,eo,b⟩:=b;cases J with
 |d x=>cases b
 |h n=>
  cases M with
  |h m=>cases b
  |d x=>
   dsimp only at b;split at b
   case h_2=>cases b
   rename_i fs s;split at b
   case isFalse=>cases b
   rename_i hc;cases b;refine (AK (ho.run _ _ _ eo) (hv.run _ _ _ ev) hs).imp ?_
   rintro D σ H ⟨φ,E,F,q⟩
   refine⟨φ,E,F,λv H1 i A s1 O=>⟨i,E.fw F A,s1,λu H2 Y R B w2=>?_⟩⟩;obtain⟨a,N,rfl⟩:=w2;obtain⟨Cl,k,L,I,G,h3,C,y⟩:=B.at_ n a _ N s;obtain⟨w0,hw0⟩:=qcF.mp hc.2;obtain⟨u0,hu0,ru0,p,W,V⟩:=G.look hw0;have na:=V ▸ y p W;refine⟨a,Cl,k,L,U,I,C,na,by rw[<-G.length];exact hc.1,?_⟩
   obtain⟨f3,s3⟩:=B.putC (o:=.ins Cl k (fF f v L)) (c:=.o (oH f (.d x) fs)) N λg=>⟨Cl,k,_,upd_same,(Rfs.put (O.fw s1 R) G).fw B g,(λm hm=>by
    obtain⟨p',t,e'⟩:=qaJ.mp hm;rcases oI t with z|z
    ·exact h3 m (e' ▸ qd6 (f:=(·.2)) z)
    ·rw[z]at e';cases e'),C,(λp' t=>by
    rcases oI t with z|z
    ·exact y p' z
    ·rw[z];exact na)⟩
   exact q σ _ Y ((A.trans R).trans f3) (((E.fw F A).fw s1 R).fw B f3) s3
end
section
variable {K:qae}{X:Cx}{pos:Pos}{a e:Expr}{fa:Ef}{af:Af}
def zO (o:Ef) (a:Af):Ef
 |env,st=>(o env st).bind λx=>(a env x.2).bind λr=>match x.1,r.1 with
 |.d (.lst ds),[.d (.int k)]=>(a5 ds).bind λns=>if ns.length<=1000 then (ns.idxOf? k).map λj=>(.d (.int (j:Nat)),r.2) else none
 |_,_=>none
def Ie (X:Cx):V->List V->Hp->VK->Prop:=λx xs H Q=>∃ (p:Addr) (ns:List Int) (k:Int) (j:Nat),x=.ref p/\xs=[.int k]/\SqL X.K H p (ns.map V.int)/\ns.length<=1000/\ns.idxOf? k=some j/\Q (.int (j:Nat)) H
theorem Ed:∀ {ns:List Int}{k:Int}{j:Nat},ns.idxOf? k=some j->j<ns.length/\ns[j]?=some k/\∀ i,i<j->ns[i]?≠some k:=by
 intro ns k j h;obtain⟨O,h3,h4⟩:=(qdB.mp h);refine⟨O,by rw[qai O,h3],λi hi z=>?_⟩;rw[qai (qel hi O)]at z;exact h4 i hi (qaL z)
theorem EH:MtR X "list.index" (Ie X):=by
 intro W s σ H x xs v us Q I rx rv h;obtain⟨p,ns,k,j,rfl,rfl,E,hl,J,q⟩:=h;cases rx;obtain⟨u,rfl,ru⟩:=rv.one;obtain⟨t,rfl⟩:=ru;obtain⟨its,r,pl,hz⟩:=I.list E;obtain⟨j1,j2,j3⟩:=Ed J;have l:its.length=ns.length:=by rw[<-r.length,qah]
 have at_:∀ (i:Nat) (hi:i<its.length),∃ t,∃ hn:i<ns.length,its[i]=.int ns[i] t:=λi hi=>by
  obtain⟨h',q'⟩:=r.at i hi;have hn:i<ns.length:=by rw[<-l];exact hi
  rw[(qdo ..)]at q';obtain⟨t,e'⟩:=q';exact⟨t,hn,e'⟩
 obtain⟨⟨c,dd,dt,sl⟩,T,hc,n,hd⟩:=pl.isList;subst hc hd;have D:j<its.length:=by rw[l];exact j1
 refine qcE qdt ⟨_,T,U⟩ qgi (qgd _ _) (qfL p its.toArray n dd sl _ _ j (by simpa using D) (by lia) ?_ (λm hm L=>?_)) ⟨T,λy hy=>(eq_isInt k t (dN r) y (by simpa using hy)).at _ _,?_⟩
 ·obtain⟨t',hn,e⟩:=at_ j D
  rw[qai hn]at j2
  have:its.toArray[j]'(by simpa using D)=.int k t':=by simpa [qaL j2] using e
  rw[this];simp[isInt]
 ·have F:=by simpa using hm
  obtain⟨t',hn,e⟩:=at_ m F
  have:its.toArray[m]'hm=.int ns[m] t':=by simpa using e
  rw[this]
  have:=j3 m L
  rw[qai hn]at this;have N:ns[m]≠k:=λz=>this (by rw[z]);simp[isInt,N]
 ·exact⟨.int _,H,I.kept λb o e=>e,⟨_,U⟩,q⟩
theorem qY {w} (ho:IE K X a fa) (ha:IA K X [e] af) (B:qcJ a "index" X.env (eval a X.env)=eval a X.env:=by rfl)
  (g:[e].all aw=true:=by rfl) (A:(w.endLine==pos.line)=true:=by rfl) (hK:X.K=K:=by rfl) :
  IE K X (.Call (.Attribute a "index" w) [e] [] pos) (zO fa af) :=by
 subst hK;have C:aw e=true:=by rw[qbB,qaZ]at g;exact g.1
 refine⟨λenv st r f=>?_⟩;simp only[zO,qab]at f;obtain⟨⟨x,s1⟩,hx,⟨ws,s2⟩,hw,f⟩:=f;dsimp only at f;split at f
 case h_2=>cases f
 rename_i ds k;simp only[qab]at f;obtain⟨ns,hns,f⟩:=f;split at f
 case isFalse=>cases f
 rename_i hl;obtain⟨j,J,rfl⟩:=qad.mp f;have P:=bv hns;subst P;refine (Au qeq qdt qgs EH (ho.run _ _ _ hx) (ha.run _ _ _ hw) B (oS g (by show 1<30;decide)) A (aO C) (bf U)).imp ?_
 rintro σ H Q ⟨φ,Y,hS,q⟩
 refine⟨φ,Y,hS,λv H1 R f1 S1 w1=>?_⟩;obtain⟨p,vs,rfl,h0,E,G⟩:=w1;have ev:=Rls.ints G;subst ev;refine⟨.inl ⟨U,_,.inl E⟩,R,Y.fw hS f1,S1,λus H2 M S S2 w2=>?_⟩;obtain⟨y,us',rfl,ry,rfl⟩:=w2;cases (show y=.int k from ry);exact⟨p,ns,k,j,U,U,.inl (E.fw S h0),hl,J,q _ H2 M (f1.trans S) S2 U⟩
end
section
variable {K:qae}{H:Hp}{φ ψ:List Addr}{x Cl J:Addr}{xs:List (Str×V)}{o:HO}
theorem Rl.chx (hx:H x=some (.ins Cl J xs)) (t:xs.length<=5) (j:∀ a∈ψ,a=x):∀ {d:D}{v:V},Rl K H φ d v->Rl K (upd H x o) (φ++ψ) d v:=by
 have ne:∀ {a:Addr}{u:HO},H a=some u->(∀ C d f,u≠.ins C d f)->a≠x:=λ{a u} h q z=>by
  subst z;rw[hx]at h;cases h;exact q _ _ _ U
 have nin:∀ {a:Addr},a≠x->a∉φ->a∉φ++ψ:=λ{a} n h z=>by
  rcases qaT.mp z with z|z
  ·exact h z
  ·exact n (j a z)
 intro d v;refine (?_:∀ v,Rl K H φ d v->Rl K _ _ d v) v;refine D.rec (motive_2:=λds=>∀ g,Rls K H φ ds g->Rls K (upd H x o) (φ++ψ) ds g) ?_ ?_ ?_ ?_ ?_ ?_ ?_ ?_ ?_ ?_ ?_ ?_ d
 ·exact λv h=>h
 ·exact λb v h=>h
 ·exact λb v h=>h
 ·exact λb v h=>h
 ·exact λb v h=>h
 ·rintro v ⟨a,e,hn,h⟩
  rcases h with⟨d,h⟩|⟨d,h⟩
  ·have n:=ne h (by intros;simp)
   exact⟨a,e,nin n hn,.inl ⟨d,by rw[upd_ne n];exact h⟩⟩
  ·have n:=ne h (by intros;simp)
   exact⟨a,e,nin n hn,.inr ⟨d,by rw[upd_ne n];exact h⟩⟩
 ·rintro ns v ⟨a,e,h⟩
  rcases h with⟨ob,h⟩|h
  ·exact⟨a,e,.inl ⟨ob,by rw[upd_ne (ne h (by intros;simp))];exact h⟩⟩
  ·exact⟨a,e,.inr h⟩
 ·rintro ds A v ⟨a,g,rfl,p,s⟩
  exact⟨a,g,U,by rw[upd_ne (ne p (by intros;simp))];exact p,A g s⟩
 ·rintro ds A v ⟨a,g,rfl,E,p,s⟩
  rcases p with p|⟨ob,p⟩
  ·have n:=ne p (by intros;simp)
   exact⟨a,g,U,nin n E,.inl (by rw[upd_ne n];exact p),A g s⟩
  ·have n:=ne p (by intros;simp)
   exact⟨a,g,U,nin n E,.inr ⟨ob,by rw[upd_ne n];exact p⟩,A g s⟩
 ·rintro ns ds A v ⟨a,C',I,fs,g,rfl,E,p,s,P,N,R,Q,M⟩
  have n:a≠x:=λz=>by
   subst z;rw[hx]at p;cases p;rw[s,List.length_zip]at t;lia
  exact⟨a,C',I,fs,g,U,nin n E,by rw[upd_ne n];exact p,s,P,N,R,Q,A g M⟩
 ·exact λg h=>h
 ·rintro d ds G F g ⟨v,r,rfl,p,s⟩;exact⟨v,r,U,G v p,F r s⟩
variable (hx:H x=some (.ins Cl J xs)) (t:xs.length<=5) (j:∀ a∈ψ,a=x)
include hx t j
theorem Rls.chx:∀ {ds:List D}{g:List V},Rls K H φ ds g->Rls K (upd H x o) (φ++ψ) ds g
 |[],_,h=>h
 |d::ds,_,h=>by
  obtain⟨v,r,rfl,p,s⟩:=h;exact⟨v,r,U,Rl.chx hx t j p,Rls.chx s⟩
theorem Rw.chx (h:Rw K H φ w v):Rw K (upd H x o) (φ++ψ) w v :=by
 cases w with
 |d y=>exact Rl.chx hx t j h
 |h n=>
  obtain⟨a,e,rfl⟩:=h;exact⟨a,by rw[qaH (qas.mp e).1];exact e,U⟩
theorem Rws.chx:∀ {ds:List W}{g:List V},Rws K H φ ds g->Rws K (upd H x o) (φ++ψ) ds g
 |[],_,h=>h
 |d::ds,_,h=>by
  obtain⟨v,r,rfl,p,s⟩:=h;exact⟨v,r,U,Rw.chx hx t j p,Rws.chx s⟩
theorem Rkv.chx:∀ {ds:List (List Int×D)}{g:List (List Key×V)},Rkv K H φ ds g->Rkv K (upd H x o) (φ++ψ) ds g
 |[],_,h=>h
 |(k,d)::ds,_,h=>by
  obtain⟨v,r,rfl,p,s⟩:=h;exact⟨v,r,U,Rl.chx hx t j p,Rkv.chx s⟩
theorem Rkk.chx:∀ {ds:List (Int×D)}{g:List (Key×V)},Rkk K H φ ds g->Rkk K (upd H x o) (φ++ψ) ds g
 |[],_,h=>h
 |(k,d)::ds,_,h=>by
  obtain⟨v,r,rfl,p,s⟩:=h;exact⟨v,r,U,Rl.chx hx t j p,Rkk.chx s⟩
theorem Rfs.chx:∀ {ds:List (Str×W)}{g:List (Str×V)},Rfs K H φ ds g->Rfs K (upd H x o) (φ++ψ) ds g
 |[],_,h=>h
 |(k,d)::ds,_,h=>by
  obtain⟨v,r,rfl,p,s⟩:=h;exact⟨v,r,U,Rw.chx hx t j p,Rfs.chx s⟩
theorem Rc.chx (B:a≠x) (h:Rc K H φ k a c):Rc K (upd H x o) (φ++ψ) k a c :=by
 cases c with
 |l ds=>obtain⟨g,q,r⟩:=h;exact⟨g,by rw[upd_ne B];exact q,Rls.chx hx t j r⟩
 |n ds=>obtain⟨g,q,r,b⟩:=h;exact⟨g,by rw[upd_ne B];exact q,Rws.chx hx t j r,b⟩
 |m ds=>obtain⟨g,q,r⟩:=h;exact⟨g,by rw[upd_ne B];exact q,Rkv.chx hx t j r⟩
 |k ds=>obtain⟨g,q,r⟩:=h;exact⟨g,by rw[upd_ne B];exact q,Rkk.chx hx t j r⟩
 |o ds=>obtain⟨C',O,g,q,r,b⟩:=h;exact⟨C',O,g,by rw[upd_ne B];exact q,Rfs.chx hx t j r,b⟩
theorem Er.chx (h:Er K H φ env L):Er K (upd H x o) (φ++ψ) env L :=
 ⟨h.len,λi w e=>let ⟨v,e1,r⟩:=h.at_ i w e;⟨v,e1,Rw.chx hx t j r⟩⟩
end
section
variable {K:qae}{H:Hp}{φ:List Addr}{x Cl i:Addr}{xs:List (Str×V)}{o:HO}{st:Sto}
theorem Sr.chx0 (S:Sr K H φ st) (hx:H x=some (.ins Cl i xs)) (g:xs.length<=5) (hn:x∉φ):Sr K (upd H x o) φ st:=by
 refine⟨S.nd,S.len,λn a c d e=>?_⟩
 have:=Rc.chx (o:=o) (ψ:=[]) hx g (λa z=>nomatch z) (λz=>hn (z ▸ qbS d)) (S.at_ n a c d e)
 rw[(qbY _)]at this;exact this
theorem Sr.chx1 (S:Sr K H φ st) (hx:H x=some (.ins Cl i xs)) (g:xs.length<=5) (hn:x∉φ) (k:Rc K (upd H x o) (φ++[x]) st.length x c):Sr K (upd H x o) (φ++[x]) (st++[c]) :=by
 refine⟨qcN.mpr ⟨S.nd,qcr.mpr ⟨qbd,qdk⟩,λa l b hb z=>by rw[qan.mp hb]at z;exact hn (z ▸ l)⟩,by rw[qaA,qaA,S.len];rfl,λn a j d e=>?_⟩;by_cases h:n<φ.length
 ·rw[qaH h]at d
  rw[qaH (by rw[<-S.len];exact h)]at e;exact Rc.chx hx g (λa z=>qan.mp z) (λz=>hn (z ▸ qbS d)) (S.at_ n a j d e)
 ·have m:=(qas.mp d).1
  rw[qaA,qcx]at m;have f:n=φ.length:=by lia
  subst f;rw[qaI (qao _),qe3]at d;rw[S.len,qaI (qao _),qe3]at e;cases d;cases e;rw[S.len];exact k
end
def rB:List (Str×Ef)->Ev->Sto->Option (List (Str×W)×Sto)
 |[],_,st=>some ([],st)
 |(f,g)::r,env,st=>(g env st).bind λx=>(rB r env x.2).map λy=>((f,x.1)::y.1,y.2)
structure FwX (x:Addr) (φ φ':List Addr) (H H':Hp):Prop where
 ext:∃ ψ,φ'=φ++ψ/\∀ a∈ψ,H a=none\/a=x
 keep:∀ b o,b∉φ->b≠x->H b=some o->H' b=some o
 there:∀ b o,H b=some o->∃ o',H' b=some o'
theorem FwX.pre (hx:H x=some n) (hn:x∉a) (f:Fw φ a H H1) (g:FwX x a e (upd H1 x o) H2):FwX x φ e H H2 :=by
 obtain⟨ψ,rfl,k⟩:=f.ext;obtain⟨m,rfl,p⟩:=g.ext;have l:∀ b u,H b=some u->∃ d,upd H1 x o b=some d:=λb u h=>by
  by_cases z:b=x
  ·exact⟨o,by rw[z,upd_same]⟩
  ·obtain⟨d,h'⟩:=f.there b u h
   exact⟨d,by rw[upd_ne z];exact h'⟩
 refine⟨⟨_,by rw[qbR],λc j=>?_⟩,λc u j i h=>?_,λc u h=>?_⟩
 ·rcases qaT.mp j with z|z
  ·exact .inl (k c z)
  ·rcases p c z with q|q
   ·left
    cases q':H c with
    |none=>rfl
    |some u=>
     obtain⟨d,h'⟩:=l c u q';rw[q]at h';cases h'
   ·exact .inr q
 ·refine g.keep c u (λz=>?_) i (by rw[upd_ne i];exact f.keep c u j h)
  rcases qaT.mp z with z|z
  ·exact j z
  ·rw[k c z]at h;cases h
 ·obtain⟨d,h'⟩:=l c u h
  exact g.there c d h'
def Ip (K:qae) (g:List (Str×Ef)) (env:Ev) (st:Sto) (y:List (Str×W)×Sto):TS:=λD b H=>∃ φ x Cl c xs fs,Er K H φ env b/\Sr K H φ st/\b[0]?=some (some (.ref x))/\x∉φ/\H x=some (.ins Cl c xs)/\Rfs K H φ fs xs/\
 Cls K Cl/\(∀ p∈fs,b6 K Cl p.1)/\(∀ p∈g,b6 K Cl p.1)/\fs.length+g.length=6/\(∀ p∈g,p.1∉fs.map (·.1))/\(g.map (·.1)).Nodup/\
 ∀ H' a,FwX x φ a H H'->Sr K H' a (y.2++[.o (fs++y.1)])->a[y.2.length]?=some x->D.nx b H'
structure INI (K:qae) (X:Cx) (ss:List Stmt) (g:List (Str×Ef)):Prop where
 run:∀ env st y,rB g env st=some y->PSs X ss (Ip K g env st y)
section
variable {K:qae}{X:Cx}{e:Expr}{G:Ef}{f:Str}{ss:List Stmt}{g:List (Str×Ef)}{pos c p1:Pos}
theorem ug {st}(P:X.N[0]?=some ("self" : Str)) (R:Vis X.env.scope "self") (M:IE K X e G) (hx:G env st=some (w,s1)) (Q:X.K=K)
  (N:qcq e (some (.Attribute (.Name "self" p1) f c)) pos.line X.env=pure false) :
  PS X (.Assign [.Attribute (.Name "self" p1) f c] e pos) (λD F H=>∃ φ x Cl j xs,Er K H φ env F/\Sr K H φ st/\F[0]?=some (some (.ref x))/\x ∉ φ/\H x=some (.ins Cl j xs)/\Cls K Cl/\b6 K Cl f/\xs.length<=5/\f ∉ xs.map (·.1)/\
   ∀ v H1 d,Fw φ d H H1->Sr K H1 d s1->Rw K H1 d w v->x∉d->H1 x=some (.ins Cl j xs)->D.nx F (upd H1 x (.ins Cl j (xs++[(f,v)])))) :=by
 subst Q;refine (AK (jq P R) (M.run _ _ _ hx) N).imp ?_
 rintro D F H ⟨φ,x,Cl,j,xs,I,A,J,C,t,r,E,T,B,q⟩
 refine⟨φ,I,A,λv H1 d l k L=>⟨_,J,x,Cl,j,xs,U,l.keep _ _ C t,r,E,by lia,?_⟩⟩;rw[uF B];exact q v H1 d l k L (l.nin C t) (l.keep _ _ C t)
theorem B3 (P:X.N[0]?=some ("self" : Str)) (R:Vis X.env.scope "self") (M:IE K X e G) (Q:X.K=K:=by rfl)
  (N:qcq e (some (.Attribute (.Name "self" p1) f c)) pos.line X.env=pure false:=by rfl):INI K X [.Assign [.Attribute (.Name "self" p1) f c] e pos] [(f,G)]:=by
 refine⟨λenv st y s=>?_⟩;simp only[rB,qab,qap]at s;obtain⟨⟨w,s1⟩,hx,s⟩:=s;cases s;refine (xE (ug P R M hx Q N)).imp ?_
 rintro D F H ⟨φ,x,Cl,j,xs,fs,I,A,J,C,t,r,E,T,B,V,S,n,q⟩
 have hl:xs.length=5:=by rw[<-r.length];simpa using V
 have nf:f∉xs.map (·.1):=by rw[r.keys];exact S _ qag
 refine⟨φ,x,Cl,j,xs,I,A,J,C,t,E,B _ qag,by lia,nf,λv H1 d l k L hn i=>?_⟩;have r1:=r.fw A l;have w2:=Rw.chx (o:=.ins Cl j (xs++[(f,v)])) i (by lia) (λa z=>qan.mp z) L
 refine q _ _ ?_ (k.chx1 i (by lia) hn ⟨Cl,j,_,upd_same,Rfs.snoc w2 (Rfs.chx (o:=.ins Cl j (xs++[(f,v)])) (ψ:=[x]) i (by lia) (λa z=>qan.mp z) r1),λm hm=>by rw [<-k.len];exact (Rfs.snoc (f:=f) L r1).mem hm,E,λp u=>by
  rcases qaT.mp u with z|z
  ·exact T p z
  ·rw[qan.mp z];exact B _ qag⟩) (by rw[<-k.len,qaI (qao _),qe3];rfl)
 refine FwX.pre t hn l ⟨⟨_,U,λa z=>.inr (qan.mp z)⟩,λb o _ _ h=>h,λb o h=>⟨o,h⟩⟩
theorem gR (P:X.N[0]?=some ("self" : Str)) (R:Vis X.env.scope "self") (M:IE K X e G) (hr:INI K X ss g) (hg:g≠[]:=by intro z;cases z) (Q:X.K=K:=by rfl)
  (N:qcq e (some (.Attribute (.Name "self" p1) f c)) pos.line X.env=pure false:=by rfl):INI K X (.Assign [.Attribute (.Name "self" p1) f c] e pos::ss) ((f,G)::g):=by
 refine⟨λenv st y s=>?_⟩;simp only[rB,qab]at s;obtain⟨⟨w,s1⟩,hx,s⟩:=s;obtain⟨y',Y,rfl⟩:=qad.mp s;refine (cV (ug P R M hx Q N) (hr.run _ _ _ Y)).imp ?_
 rintro D F H ⟨φ,x,Cl,j,xs,fs,I,A,J,C,t,r,E,T,B,V,S,n,q⟩
 have hg1:=List.length_pos_iff.mpr hg;have hl:xs.length<=4:=by rw[<-r.length];rw[qat]at V;lia
 have nf:f∉xs.map (·.1):=by rw[r.keys];exact S _ qag
 refine⟨φ,x,Cl,j,xs,I,A,J,C,t,E,B _ qag,by lia,nf,λv H1 d l k L hn i=>?_⟩;have r2:=Rfs.chx (o:=.ins Cl j (xs++[(f,v)])) (ψ:=[]) i (by lia) (λa z=>nomatch z) (r.fw A l)
 have w2:=Rw.chx (o:=.ins Cl j (xs++[(f,v)])) (ψ:=[]) i (by lia) (λa z=>nomatch z) L
 have O:=Er.chx (o:=.ins Cl j (xs++[(f,v)])) (ψ:=[]) i (by lia) (λa z=>nomatch z) (I.fw A l)
 rw[(qbY _)]at r2 w2 O;rw[qaz,qcr]at n;refine⟨d,x,Cl,j,_,_,O,k.chx0 i (by lia) hn,J,hn,upd_same,Rfs.snoc w2 r2,E,λp u=>?_,λp u=>B p (qaj _ u),by rw[qaA,qcx];rw[qat]at V;lia,λp u z=>?_,n.2,λH' φ' fx S' ex=>?_⟩
 ·rcases qaT.mp u with z|z
  ·exact T p z
  ·rw[qan.mp z];exact B _ qag
 ·rw[qci]at z
  rcases qaT.mp z with z|z
  ·exact S p (qaj _ u) z
  ·rw[qaz,qdu,qan]at z
   exact n.1 (z ▸ qd6 u)
 ·rw[qbR]at S'
  exact q H' φ' (FwX.pre t hn l fx) S' ex
end
def Dc (K:qae) (n:Nat) (ps:Nat) (g:List (Str×Ef)):Sp:=λd H Q _=>∃ φ st ws y x c Cl a H1,d=.ref x::a/\ws.length+1=ps/\rB g (none::(ws.map some++qaG (n - ps) none)) st=some y/\Rws K H1 φ ws a/\Sr K H1 φ st/\H1 x=none/\H1 c=none/\c≠x/\
 H=upd (upd H1 c (.own x)) x (.ins Cl c [])/\Cls K Cl/\(∀ p∈g,b6 K Cl p.1)/\g.length=6/\(g.map (·.1)).Nodup/\∀ H' b,Fw φ b H1 H'->Sr K H' b (y.2++[.o y.1])->b[y.2.length]?=some x->Q .non H'
theorem Ga {K}{st}(F:Fun K x c st f fd) (S:b5 N ps (au st)) (hN:ps.length<=N.length)
  (hb:∀ (j) (A) (outer) (s) (H) (E),bj k (A.deeper (qeS c (au st) s.heap.objs.size f j))->INI K (fj CX0 P w K mg base N c (au st) f j A outer s H E).nox (aY st) g) :
  dh P w K mg base CX0 (k+1) f fd ps (Dc K N.length ps.length g) :=by
 refine F.ok S (λW H Q E h=>?_) λj A outer s H W Q E X h=>?_
 ·obtain⟨φ,st,ws,y,x,n,Cl,l,H1,rfl,B,e,rw,_⟩:=h
  rw[qat,<-rw.length,B]
 ·obtain⟨φ,O,ws,y,x,n,Cl,l,H1,rfl,B,e,rw,S',hx,hd,m,rfl,L,hA,M,u,q⟩:=h
  refine⟨_,(hb j A outer s _ E X).run _ _ _ e,φ,x,Cl,n,_,[],?_,?_,?_,?_,upd_same,U,L,λp R=>(nomatch R),hA,by simpa using M,λp _ z=>(nomatch z),u,λH' C t S2 ex=>?_⟩
  ·have r:aP H1 (upd (upd H1 n (.own x)) x (.ins Cl n [])):=(aP.new hd _).trans (aP.new (by rw[upd_ne (qbp m)];exact hx) _)
   have D:=nC (N:=N) (ws:=.d .non::ws) ⟨_,l,U,U,(rw.fw S' (Fw.same r))⟩ (by exact B);refine⟨?_,λi w I=>?_⟩
   ·have:=D.len
    unfold iy at this ⊢
    simp at this ⊢
    lia
   ·cases i with
    |zero=>cases I
    |succ i=>
     obtain⟨v,G,T⟩:=D.at_ (i+1) w I;refine⟨v,?_,T⟩;unfold iy at G ⊢;simpa using G
  ·exact S'.same ((aP.new hd _).trans (aP.new (by rw[upd_ne (qbp m)];exact hx) _))
  ·rfl
  ·exact S'.nin hx
  ·refine q H' C ?_ S2 ex
   obtain⟨ψ,rfl,V⟩:=t.ext;have r:aP H1 (upd (upd H1 n (.own x)) x (.ins Cl n [])):=(aP.new hd _).trans (aP.new (by rw[upd_ne (qbp m)];exact hx) _);refine⟨⟨ψ,U,λa J=>?_⟩,λb o hb h=>?_,λb o h=>t.there b o (r b o h)⟩
   ·rcases V a J with z|z
    ·cases q':H1 a with
     |none=>rfl
     |some o=>rw[r a o q']at z;cases z
    ·rw[z];exact hx
   ·exact t.keep b o hb (λz=>by rw[z,hx]at h;cases h) (r b o h)
def nG (n ps:Nat) (g:List (Str×Ef)) (a:Af):Ef
 |env,st=>(a env st).bind λr=>if r.1.length+1=ps then (rB g (none::(r.1.map some++qaG (n - ps) none)) r.2).map λy=>(.h y.2.length,y.2++[.o y.1]) else none
theorem B2 {K}{ Cl}{N :List Str}{p pos}(M:Mk X.K Cl l) (F:dh X.prog X.w X.K X.mg X.base CX0 j l fd ps (Dc K N.length ps.length g)) (d:j<=k) (J:bj (k+1) X.A) (hg:Gl X x) (hm:X.mg x=some (.ref Cl)) (hb:cO X.K fd ps [])
  (t:Cls K Cl) (hA:∀ p∈g,b6 K Cl p.1) (u:g.length=6) (b:(g.map (·.1)).Nodup)
  (s:IA K X (e::es) m) (c:(x==("__debug__"))=false:=by decide) (v:aw e=true:=by rfl) (w:es.all aw=true:=by rfl) :
  IE K X (.Call (.Name x p) (e::es) [] pos) (nG N.length ps.length g m) :=by
 refine⟨λenv st r h=>?_⟩;simp only[nG,qab]at h;obtain⟨y,E,h⟩:=h;split at h
 case isFalse=>cases h
 rename_i D;obtain⟨z,hz,rfl⟩:=qad.mp h;refine (CI M (F.mono d) J hg hm hb .nil As (s.run _ _ _ E) c (aO v) (bf w)).imp ?_
 rintro L H Q ⟨φ,A,B,q⟩
 refine⟨φ,A,B,λI H1 i C s1 G=>λx o hx hd a=>?_⟩;rw[qbY];refine⟨i,_,_,z,x,o,Cl,I,H1,U,D,hz,G,s1,hx,hd,a,U,t,hA,u,b,λH' f n S2 ex=>⟨U,?_⟩⟩;exact q _ H' f (C.trans n) S2 ⟨x,ex,U⟩
def vwF (st:Sto):List (Str×W)->Option (List D)
 |[]=>some []
 |(_,.d x)::r=>(vwF st r).map λy=>x::y
 |(_,.h m)::r=>(lg st m).bind λds=>(vwF st r).map λy=>.lst ds::y
def vwW (st:Sto):W->Option W
 |.d x=>some (.d x)
 |.h n=>match st[n]? with
  |some (.o fs)=>if 5<fs.length then (vwF st fs).map λds=>.d (.ob (fs.map (·.1)) ds) else none
  |some (.l ds)=>some (.d (.lst ds))
  |_=>none
def vwA (st:Sto):List W->Option (List W)
 |[]=>some []
 |w::ws=>(vwW st w).bind λx=>(vwA st ws).map λy=>x::y
mutual
def okT:D->Bool
 |.non=>true
 |.bl _=>true
 |.int _=>true
 |.str _=>true
 |.tup ds=>vS ds
 |_=>false
def vS:List D->Bool
 |[]=>true
 |d::ds=>okT d&&vS ds
end
section
variable {K:qae}{H:Hp}{φ φ':List Addr}
mutual
theorem Rl.any:∀ {d:D}{v:V},okT d=true->Rl K H φ d v->Rl K H φ' d v
 |.non,_,_,h=>h
 |.bl _,_,_,h=>h
 |.int _,_,_,h=>h
 |.str _,_,_,h=>h
 |.tup ds,_,o,h=>by
  obtain⟨a,vs,rfl,h1,h2⟩:=h;exact⟨a,vs,U,h1,Rls.any (by rw[okT]at o;exact o) h2⟩
 |.ty _,_,o,_=>by rw[okT]at o<;>first|cases o|(intros;simp)
 |.dct,_,o,_=>by rw[okT]at o<;>first|cases o|(intros;simp)
 |.scr _,_,o,_=>by rw[okT]at o<;>first|cases o|(intros;simp)
 |.lst _,_,o,_=>by rw[okT]at o<;>first|cases o|(intros;simp)
 |.ob _ _,_,o,_=>by rw[okT]at o<;>first|cases o|(intros;simp)
theorem Rls.any:∀ {ds:List D}{vs:List V},vS ds=true->Rls K H φ ds vs->Rls K H φ' ds vs
 |[],_,_,h=>h
 |d::ds,_,o,h=>by
  rw[vS,qaZ]at o;obtain⟨v,r,rfl,h1,h2⟩:=h;exact⟨v,r,U,Rl.any o.1 h1,Rls.any o.2 h2⟩
end
theorem Rl.bare (h:Rl K H φ d v):Rl K H [] d v :=Rl.less h
theorem Rls.bare (h:Rls K H φ d v):Rls K H [] d v :=Rls.less h
theorem qo:∀ {fs:List (Str×W)}{vs:List (Str×V)},Rfs K H φ fs vs->vs=(fs.map (·.1)).zip (vs.map (·.2))
 |[],vs,r=>by cases r;rfl
 |(n,x)::fs,vs,r=>by
  obtain⟨v,l,rfl,c,e⟩:=r;rw[qaz,qaz,qfz,<-qo e]
theorem sY {st} (S:Sr K H φ st):∀ {fs}{vs}{ds},Rfs K H φ fs vs->vwF st fs=some ds->Rls K H [] ds (vs.map (·.2))
 |[],vs,ds,r,h=>by cases r;cases h;rfl
 |(n,.d x)::fs,vs,ds,r,h=>by
  obtain⟨v,l,rfl,c,e⟩:=r;obtain⟨y,j,rfl⟩:=qad.mp h;exact⟨v,_,U,Rl.bare c,sY S e j⟩
 |(n,.h m)::fs,vs,ds,r,h=>by
  obtain⟨v,l,rfl,c,e⟩:=r;obtain⟨es,t,h⟩:=qab.mp h;obtain⟨y,j,rfl⟩:=qad.mp h;obtain⟨a,i,rfl⟩:=c;obtain⟨k,A,u⟩:=S.atl m a es i t;exact⟨_,_,U,⟨a,k,U,qbd,.inl A,Rls.bare u⟩,sY S e j⟩
theorem xT {st} (S:Sr K H φ st):∀ {ws}{vs}{ws'},Rws K H φ ws vs->vwA st ws=some ws'->Rws K H [] ws' vs
 |[],vs,ws',r,h=>by cases h;exact r
 |w::ws,vs,ws',r,h=>by
  obtain⟨v,l,rfl,c,e⟩:=r;obtain⟨x,hx,h⟩:=qab.mp h;obtain⟨y,j,rfl⟩:=qad.mp h;refine⟨v,l,U,?_,xT S e j⟩;cases w with
  |d z=>cases hx;exact Rl.bare c
  |h n=>
   unfold vwW at hx;dsimp only at hx;split at hx
   ·rename_i fs s
    split at hx
    ·rename_i I
     obtain⟨ds,g,rfl⟩:=qad.mp hx;obtain⟨a,i,rfl⟩:=c;obtain⟨Cl,E,k,q,B,b,G,hA⟩:=S.at_ n a _ i s;refine⟨a,Cl,E,k,_,U,qbd,q,qo B,by rw[qah,qah,B.length],by rw[qah];exact I,G,λf F=>?_,sY S B g⟩;obtain⟨p,C,rfl⟩:=qaJ.mp F;exact hA p C
    ·cases hx
   ·rename_i ds g
    cases hx;obtain⟨a,i,rfl⟩:=c;obtain⟨k,A,u⟩:=S.at_ n a _ i g;exact⟨a,k,U,qbd,.inl A,Rls.bare u⟩
   ·cases hx
end
def cE (m:Fn) (a:Af):Ef
 |env,st=>(a env st).bind λr=>(vwA r.2 r.1).bind λws=>(m ws []).bind λy=>match y.1 with
 |.d x=>if okT x=true then some (.d x,r.2) else none
 |_=>none
theorem zS {K}{pos}{p} (F:dh X.prog X.w X.K X.mg X.base CX0 j f fd ps (spI K m)) (l:j<=k) (R:bj k X.A) (hg:Gl X x) (hm:X.mg x=some (.ref f)) (C:qcV X.K (.ref f)=true) (hb:cO X.K fd ps [])
  (B:IA K X (e::es) u) (i:(x==("__debug__"))=false:=by decide) (D:aw e=true:=by rfl) (E:es.all aw=true:=by rfl) :
  IE K X (.Call (.Name x p) (e::es) [] pos) (cE m u) :=by
 refine⟨λenv st r h=>?_⟩;simp only[cE,qab]at h;obtain⟨y,N,ws,g,⟨w,T⟩,hz,h⟩:=h;cases w with
 |h n=>cases h
 |d z=>
  dsimp only at h;split at h
  case isFalse=>cases h
  rename_i hok;cases h;refine (xx (F.mono l) R hg hm C hb .nil As (B.run _ _ _ N) i (aO D) (bf E)).imp ?_
  rintro S H Q ⟨φ,I,L,q⟩
  refine⟨φ,I,L,λV H1 s M s1 P=>?_⟩;show spI K m _ H1 Q E0;rw[qbY];refine⟨_,_,ws,_,hz,xT s1 P g,⟨qdk,U,λn a c J _=>by cases J⟩,λv H2 G A O w2=>?_⟩;have t:=λb o h=>A.keep b o qbd h;exact q v H2 s (M.trans (Fw.same t)) (s1.same t) (Rl.any hok w2)
theorem Rls.flat {K}{H H'}{φ c}:∀ {ds}{e},ds.all bG=true->Rls K H φ ds e->Rls K H' c ds e
 |[],_,_,h=>h
 |d::ds,_,o,h=>by
  rw[qbB,qaZ]at o;obtain⟨v,r,rfl,a,f⟩:=h;refine⟨v,r,U,?_,Rls.flat o.2 f⟩;cases d with
  |non=>exact a
  |bl b=>exact a
  |int b=>exact a
  |str b=>exact a
  |_=>exact absurd o.1 (by simp[bG])
def i3 (e h k f g:Nat) (fl:Lf):Sf
 |env,st=>(fl env st).bind λr=>match env.getD h none,env.getD k none,env.getD f none,env.getD g none with
 |some (.d (.int p)),some (.d (.int c)),some (.d (.lst b)),some (.d a)=>(ixN r.1.length p).bind λj=>(ixN b.length c).bind λi=>if b.length<=1000000/\e<env.length/\b.all bG=true then some (.nx (env.set e (some (.d (.lst (r.1.set j (.lst (b.set i a))))))) r.2) else none
 |_,_,_,_=>none
theorem l8 {env:Ev}(h:env.getD i none=some w):env[i]?=some (some w) :=by
 rw[qgm]at h;cases q:env[i]? with
 |none=>rw[q]at h;cases h
 |some o=>rw[q]at h;rw[show o=some w from h]
theorem B7 {v:α} (h:ixN xs.length i=some j) (a:xs[j]?=some v):atI xs i=some v :=by
 unfold atI;rw[h];exact a
theorem Ep (h:ixN n i=some j):j<n :=(mJ h).2.1
structure ISL (K:qae) (X:Cx) (s:Stmt) (i0:Nat) (fl:Lf):Prop where
 run:∀ env st r,fl env st=some r->PS X s (λD σ H=>∃ φ,Er K H φ env σ/\Sr K H φ st/\∀ a vs H1 φ',Fw φ φ' H H1->Sr K H1 φ' r.2->H1 a=none->Rls K H1 φ' r.1 vs->D.nx (σ.set i0 (some (.ref a))) (upd H1 a (.lst vs)))
theorem En {K}{ d}
  (n:X.N.Nodup) (u:X.N[w]?=some x0) (m:Loc X.env.scope x0) (S:cI X b Nc (dI k js)) (G:X.calm=true) (o:∀ j∈nH g,j<k) (hi:II K X i iter v)
  (hg:∀ a s H C fp,PG (lcX X b a Nc s H C fp) i (tG K g)) (B:∀ a s H C fp,ITs K (lcX X b a Nc s H C fp) f tt) (z:∀ a s H C fp,IE K (lcX X b a Nc s H C fp) e te)
  (hsw:qcq (.ListComp e [⟨i,iter,f,0⟩] b pos) (some (.Name x0 y)) d.line X.env=pure true:=by rfl)
  (t:X.fn x0=true\/X.env.scope.names.lookup x0=some .local:=by first|exact .inl U|exact .inr U|assumption)
  (E:∀ x,qbE iter X.env x=pure x:=by intro _;rfl):ISL K X (.Assign [.Name x0 y] (.ListComp e [⟨i,iter,f,0⟩] b pos) d) w (iLc k js v g tt te) :=by
 refine⟨λenv st r l=>?_⟩;simp only[iLc,qab]at l;obtain⟨⟨ds,s1⟩,J,l⟩:=l;have c:=l;by_cases p:¬ ds.length<=1000000
 ·rw[iFN p]at c;cases c
 have h:ds.length<=1000000:=by lia
 rw[iFP h]at c;refine (AN n u m S G (hi.run _ _ _ J) hg (λa s H C fp=>(B a s H C fp).run) (λa s H C fp=>(z a s H C fp).any) hsw t E).imp ?_
 rintro D A H ⟨φ,F,I,q⟩
 exact vC o h c A H _ ⟨φ,F,I,q⟩
section
variable {K:qae}{X:Cx}{W:Stmt}{m x E F I:Str}{l S Y T R:Nat}{comp:Expr}{fl:Lf}{ss:List Stmt}{gb:Sf}{p1 p2 p3 p4 p5 p6 p7 p8 p9 q1 q2 q3 q4 q5 q6 q7:Pos}
theorem iF (hN:X.N.Nodup) (nl:X.N[l]?=some m) (np:X.N[S]?=some x) (nc:X.N[Y]?=some E) (nt:X.N[T]?=some F) (na:X.N[R]?=some I)
  (ll:Loc X.env.scope m) (vl:Vis X.env.scope m) (vp:Vis X.env.scope x) (vc:Vis X.env.scope E) (vt:Vis X.env.scope F) (va:Vis X.env.scope I) (d1:l≠S) (d2:l≠Y) (d3:l≠T) (d4:l≠R)
  (bl:(m==("__debug__"))=false) (bp:(x==("__debug__"))=false) (bc:(E==("__debug__"))=false) (bt:(F==("__debug__"))=false) (ba:(I==("__debug__"))=false)
  (el:(m==("__classdict__"))=false) (ep:(x==("__classdict__"))=false) (ec:(E==("__classdict__"))=false) (et:(F==("__classdict__"))=false) (ea:(I==("__classdict__"))=false)
  (P:ISL K X W l fl) (hgL:Gl X "list") (hmL:X.mg "list" = none) (M:ISs K X ss gb)
  (hs2:qc2 [.Subscript (.Name m p3) (.Name x p4) p5] (.Call (.Name "list" p6) [.Name F p7] [] p8) p9.line X.env=pure false) (hw2:qc3 [.Subscript (.Name m p3) (.Name x p4) p5] (.Call (.Name "list" p6) [.Name F p7] [] p8) X.env=pure none)
  (hs3:qc2 [.Subscript (.Subscript (.Name m q1) (.Name x q2) q3) (.Name E q4) q5] (.Name I q6) q7.line X.env=pure false) (hw3:qc3 [.Subscript (.Subscript (.Name m q1) (.Name x q2) q3) (.Name E q4) q5] (.Name I q6) X.env=pure none) (hK:X.K=K) :
  ISs K X (W::.Assign [.Subscript (.Name m p3) (.Name x p4) p5] (.Call (.Name "list" p6) [.Name F p7] [] p8) p9::.Assign [.Subscript (.Subscript (.Name m q1) (.Name x q2) q3) (.Name E q4) q5] (.Name I q6) q7::ss) (ag (i3 l S Y T R fl) gb) :=by
 subst hK;refine⟨λenv st r hr=>?_⟩;simp only[ag,i3,qab]at hr;obtain⟨r1,⟨⟨ds,s1⟩,hfl,g⟩,hr⟩:=hr;split at g
 case h_2=>cases g
 rename_i p c ts a hp hc ht ha';simp only[qab]at g;obtain⟨j,hj,i,hi,g⟩:=g;split at g
 case isFalse=>cases g
 rename_i hz;cases g;have pl:∀ {q:Pos},PE X (.Name m q) (uQ l):=λ{q}=>jq nl vl bl el;have pp:∀ {q:Pos},PE X (.Name x q) (uQ S):=λ{q}=>jq np vp bp ep;have pc:∀ {q:Pos},PE X (.Name E q) (uQ Y):=λ{q}=>jq nc vc bc ec;have pt:∀ {q:Pos},PE X (.Name F q) (uQ T):=λ{q}=>jq nt vt bt et;have pa:∀ {q:Pos},PE X (.Name I q) (uQ R):=λ{q}=>jq na va ba ea
 refine (cV (P.run _ _ _ hfl) (cV (oG (cH ((iA (K:=X.K) U).run s1 [.d (.lst ts)] ts U) hgL hmL qaU (mQ pt sD) (by decide) (by decide)) (sE pl pp kq (lW U)) hs2 hw2 (jz U))
  (cV (oG pa (sE (Aw rR pl pp (nZ U)) pc kq (lW U)) hs3 hw3 (jz U)) (M.run _ _ _ hr)))).imp ?_
 rintro D σ H ⟨φ,hE,hS,q⟩
 refine⟨φ,hE,hS,λy vs H1 t f1 S1 C rl=>?_⟩;have s:=hE.fw hS f1;obtain⟨vp',gp,rp⟩:=s.at_ S _ (l8 hp);obtain⟨vc',gc,rc⟩:=s.at_ Y _ (l8 hc);obtain⟨vt',gt,rt⟩:=s.at_ T _ (l8 ht);obtain⟨J,ga,ra⟩:=s.at_ R _ (l8 ha');subst rp rc;have f:∀ {k:Nat}{u:V}{v:V},l≠k->σ[k]?=some _->(σ.set l (some v))[k]?=some (some u):=λ{k u v} h e=>by rw[qbK h];exact e
 -- the list's line
 refine⟨_,f d3 gt,t,S1.new C,⟨vt',_,U,?_,U⟩,λbl N H2 sm O ru=>?_⟩
 ·exact (Rl.fw S1 (Fw.new C) rt)
 have G:=sm _ _ upd_same;have B:=aK G O;have n:=rl.length.symm;have hil:(σ.set l (some (.ref y)))[l]?=some (some (.ref y)):=by
  rw[qbz];rw[<-hE.len];exact hz.2.1
 refine⟨_,hil,_,f d1 gp,y,vs,p,j,U,U,by rw[upd_ne B];exact G,by rw[n];exact hj,?_⟩;have hjl:j<vs.length:=by rw[n];exact Ep hj
 refine⟨_,f d4 ga,_,hil,_,f d1 gp,.inl ⟨y,_,p,.ref bl,U,U,SqL.of upd_same,B7 (j:=j) (by rw[qcj,n];exact hj) (by rw[qbz hjl]),?_⟩⟩;refine⟨_,f d2 gc,bl,N,c,i,U,U,by rw[upd_ne (qbp B),upd_same],by rw[ru.length.symm];exact hi,?_⟩;have L:aP H1 (upd (upd (upd H2 bl (.lst N)) y (.lst (vs.set j (.ref bl)))) bl (.lst (N.set i J))):=λb o h=>by
  have e1:b≠y:=λz=>by rw[z,C]at h;cases h
  have Q:=sm b o (by rw[upd_ne e1];exact h);have e2:b≠bl:=λz=>by rw[z,O]at Q;cases Q
  rw[upd_ne e2,upd_ne e1,upd_ne e2];exact Q
 dsimp only;generalize hH:upd (upd (upd H2 bl (.lst N)) y (.lst (vs.set j (.ref bl)))) bl (.lst (N.set i J))=H5 at L ⊢;have ha5:H5 y=some (.lst (vs.set j (.ref bl))):=by rw[<-hH,upd_ne B,upd_same]
 have hb5:H5 bl=some (.lst (N.set i J)):=by rw[<-hH,upd_same]
 have A:Fw t t H1 H5:=Fw.same L;have ru5:Rls X.K H5 t ts N:=Rls.flat hz.2.2 ru;refine⟨t,(s.fw S1 A).set l (w:=.d (.lst (ds.set j (.lst (ts.set i a))))) ?_,S1.same L,?_⟩
 ·exact⟨y,_,U,(S1.nin C),.inl ha5,Rls.set j (rl.fw S1 A) ⟨bl,_,U,(λz=>by
  obtain⟨o,ho,_⟩:=S1.lst z
  have:bl≠y:=qbp B
  have Q:H2 bl=some o:=sm bl o (by rw[upd_ne this];exact ho)
  rw[O]at Q;cases Q),.inl hb5,Rls.set i ru5 (Rl.fw S1 A ra)⟩⟩
 ·exact q.fw (f1.trans A)
end
section
variable {K:qae}{X:Cx}
def FQ (_ j:Int):Prop:=0<j/\j.natAbs.log2<9000
theorem Ap:OpR X (qbP .FloorDiv) (rI FQ λi j=>.int (i / j)):=opI λi j _ _ _ _ _ A q=>by
 obtain⟨h0,h1⟩:=A;exact floordiv_int (by lia) (by rw[qei i (by lia)];exact q) (.inl (PyProof.noPylong_of_log2 h1))
def qK (_:Sto):W->W->Option D
 |.d (.int i),.d (.int j)=>if 0<j/\j.natAbs.log2<9000 then some (.int (i / j)) else none
 |_,_=>none
theorem si:OpD K X (qbP .FloorDiv) qK:=gy (λ_ _ _=>rfl) λi j d h=>by obtain⟨c,rfl⟩:=ifS h;exact⟨Ap.imp λ_ _ _ _ q=>⟨i,j,q.1,q.2.1,c,q.2.2⟩,U⟩
theorem zW:a7 X (.type "range") (λxs H Q=>∃ i j,xs=[.int i,.int j]/\∀ p,H p=none->Q (.ref p) (upd H p (.rng i j))) :=by
 intro F s M H xs us Q I R h;obtain⟨i,j,rfl,q⟩:=h;cases R with
 |cons r G=>
  cases G with
  |cons r' G=>
   cases G;obtain⟨t,rfl⟩:=r;obtain⟨t',rfl⟩:=r';exact call_range_2 ⟨.ref _,_,I.laid (o:=.rng i j) (λ_ _ q=>qaf _ q) (qao _) ⟨_,_,_,qar _ U⟩,U,q _ I.fresh⟩
theorem zU {lo}(h:ItemsOf (λi v=>∃ t,v=Value.int (lo+(i)*1) t) acc n):aG ((qak n).map λk:Nat=>V.int (lo+k)) acc.toList :=by
 obtain⟨hz,hi⟩:=h;have key:∀ (l:List Value) (k:Nat),(∀ j v,l[j]?=some v->∃ t,v=Value.int (lo+((k+j:Nat))) t)->aG ((qdL k l.length).map λk:Nat=>V.int (lo+k)) l:=by
  intro l
  induction l with
  |nil=>intro k _;exact .nil
  |cons x l ih=>
   intro k h;obtain⟨t,e⟩:=h 0 x U;refine .cons ⟨t,e⟩ (ih _ λj v hv=>?_);obtain⟨t,e⟩:=h (j+1) v (by simpa using hv);exact⟨t,by rw[e,show k+_=k+1+j by lia]⟩
 have:=key acc.toList 0 λj v hv=>by
  obtain⟨t,e⟩:=hi j v (by simpa using hv);exact⟨t,by rw[e,qdv,qbg]⟩
 rw[qdZ];rw[qcU,hz]at this;exact this
theorem wS (A:X.calm=true:=by rfl):a7 X (.type "list") (λxs H Q=>∃ (p:Addr) (lo:Int) (n:Nat),xs=[.ref p]/\H p=some (.rng lo (lo+(n)))/\n<=1000/\-1000000<=lo/\lo<=1000000/\∀ l,H l=none->Q (.ref l) (upd H l (.lst ((qak n).map λk:Nat=>V.int (lo+k))))) :=by
 intro F s M H xs us Q I R h;obtain⟨p,lo,n,rfl,w,hn,l1,l2,q⟩:=h;cases R with
 |cons r G=>
  cases G;cases r;obtain⟨t,u,v,e⟩:=I.hok p _ w;refine call_list_range (I.ok.hd A) e ?_ (n:=n) ?_ (by lia) λh' tk acc c kp e' J=>?_
  ·have fl:∀ z ,-2000000<=z->z<=2000000->qfe z=true:=λz h1 h2=>by
    unfold qfe;simp only[qaZ,decide_eq_true_eq];omega
   have hsz:qfI lo (lo+(n)) 1=(n):=by rw[qhK];split<;>lia
   unfold qjl;rw[hsz];simp[fl lo (by lia) (by lia),fl (lo+(n)) (by lia) (by lia),fl 1 _ _,fl (n) _ (by lia)]
  ·rw[qhK];split<;>lia
  ·exact⟨.ref s.heap.objs.size,_,I.laid kp (qao _) (show bW X.prog X.w _ h' _ (.lst _) from ⟨by rw[qah,qaq];exact iQ hn,acc.toList,c,zU J,by simpa using e'⟩),U,q _ (I.hok.fresh (qao _))⟩
def yw (a:Af):Lf
 |env,st=>(a env st).bind λr=>match r.1 with
 |[.d (.int j)]=>if 0<=j/\j<=1000 then some (cW 0 j.toNat,r.2) else none
 |_=>none
def qT (a:Af):Lf
 |env,st=>(a env st).bind λr=>match r.1 with
 |[.d (.int i),.d (.int j)]=>if 0<=j - i/\j - i<=1000/\-1000000<=i/\i<=1000000 then some (cW i (j - i).toNat,r.2) else none
 |_=>none
theorem Rls.rng (lo) (n):Rls K H φ (cW lo n) ((qak n).map λk:Nat=>V.int (lo+k)) :=by
 have:cW lo n=((qak n).map λk:Nat=>lo+(k)).map D.int:=by rw[qaM];rfl
 rw[this,show ((qak n).map λk=>V.int _)=((qak n).map λk=>lo+_).map V.int by rw[qaM];rfl];exact Rls.of_ints _
variable {a b:Expr}{L:Af}{p1 p2 p3 p4:Pos}
theorem nP (C:Gl X "list") (g:X.mg "list" = none) (y:Gl X "range") (B:X.mg "range" = none) (N:IA K X [a] L) (A:X.calm=true:=by rfl) (O:aw a=true:=by rfl) :
  IL K X (.Call (.Name "list" p1) [.Call (.Name "range" p2) [a] [] p3] [] p4) (yw L):=by
 refine⟨λenv st r f=>?_⟩;simp only[yw,qab]at f;obtain⟨⟨ws,s1⟩,hw,f⟩:=f;dsimp only at f;split at f
 case h_2=>cases f
 rename_i j;split at f
 case isFalse=>cases f
 rename_i hj;cases f;refine (cH (wS A) C g qaU (mQ (cH B9 y B qfM (N.run _ _ _ hw) (by decide) (by decide) (aO O) (bf U)) sD (aO U)) (by decide) (by decide) (aO U) (bf U)).imp ?_
 rintro M H Q ⟨φ,S,T,q⟩
 refine⟨φ,S,T,λvs H1 E Y m w1=>?_⟩;obtain⟨v,r,rfl,P,rfl⟩:=w1;subst P;refine⟨j,U,λp w=>⟨p,0,j.toNat,U,?_,by lia,by lia,by lia,λl hl=>?_⟩⟩
 ·rw[upd_same,qcc,Int.toNat_of_nonneg hj.1]
 ·exact q l _ _ E (Y.trans (Fw.new w)) (m.new w) hl (Rls.rng 0 j.toNat)
theorem nQ (C:Gl X "list") (g:X.mg "list" = none) (y:Gl X "range") (B:X.mg "range" = none) (N:IA K X [a,b] L) (A:X.calm=true:=by rfl) (O:aw a=true:=by rfl) (hs2:aw b=true:=by rfl) :
  IL K X (.Call (.Name "list" p1) [.Call (.Name "range" p2) [a,b] [] p3] [] p4) (qT L):=by
 refine⟨λenv st r f=>?_⟩;simp only[qT,qab]at f;obtain⟨⟨ws,s1⟩,hw,f⟩:=f;dsimp only at f;split at f
 case h_2=>cases f
 rename_i i j;split at f
 case isFalse=>cases f
 cases f;refine (cH (wS A) C g qaU (mQ (cH zW y B qfM (N.run _ _ _ hw) (by decide) (by decide) (aO O) (bf (by rw[qbB,hs2];rfl))) sD (aO U)) (by decide) (by decide) (aO U) (bf U)).imp ?_
 rintro M H Q ⟨φ,S,T,q⟩
 refine⟨φ,S,T,λvs H1 E Y m w1=>?_⟩;obtain⟨v,r,rfl,P,u,r',rfl,r2,rfl⟩:=w1;subst P r2;refine⟨i,j,U,λp w=>⟨p,i,(j - i).toNat,U,?_,by lia,by lia,by lia,λl hl=>?_⟩⟩
 ·rw[upd_same,show i+_=j by lia]
 ·exact q l _ _ E (Y.trans (Fw.new w)) (m.new w) hl (Rls.rng i (j - i).toNat)
end
def D6 (_:Sto):List W->Option D
 |[.d (.tup ds)]=>(a5 ds).map λns=>.bl (ns.any λn=>decide (n≠0))
 |_=>none
section
variable {K:qae}{X:Cx}
theorem yf:a7 X (.builtin "any") (λxs H Q=>X.calm=true/\∃ (a:Addr) (ns:List Int),xs=[.ref a]/\H a=some (.tup (ns.map V.int))/\Q (.bl (ns.any λn=>decide (n≠0))) H):=by
 intro B s O H xs J Q I k h;obtain⟨m,a,bs,rfl,F,q⟩:=h;obtain⟨M,rfl,l⟩:=fJ k;cases l;obtain⟨z,its,k,p⟩:=(I.hok a _ F);have pt:=p.tup;have g:=by have:=k.length;simpa using this.symm
 refine call_any_walk (qcG pt ?_);refine⟨s.heap.objs.size,_,_,_,_,_,λi=>decide ((bs[i]?).getD 0≠0),U,Walks.tuple (A:=X.A.in1) (I.ok.hd m) s.heap.objs.size a (qaC (let ⟨_,e,_⟩:=p;qax e)) its.toArray,⟨⟨_,qar _ U,U,U⟩,pt.push _⟩,?_,λh' N C=>?_⟩
 ·intro i v s' Q' E' E w
  have j:=by simpa using E
  have hi:=(qas.mp j).1;obtain⟨b,hb⟩:∃ b,bs[i]?=some b:=⟨bs[i]'(by lia),by simp[show i<bs.length by lia]⟩
  have:(bs.map V.int)[i]?=some (.int b):=by rw[qay,hb];rfl
  obtain⟨u,y,D⟩:=k.get this;rw[j]at y;cases y;obtain⟨t,rfl⟩:=D;have c:Q' (decide _) s':=w;rw[hb]at c;refine qj1 ?_;have e:(b != 0)=decide (b≠0):=by
   by_cases h:b=0
   ·subst h;rfl
   ·rw[decide_eq_true h];simpa using h
  rw[e];exact c
 ·refine⟨_,H,I.kept (λb o e=>C b o (λz=>absurd (qax e) (by rw[qan.mp z];exact qa4 _)) (qaf _ e)),?_,q⟩
  congr 1
  have:∀ n,n=bs.length->((qak n).any λi=>decide ((bs[i]?).getD 0≠0))=bs.any λn=>decide (n≠0):=by
   intro n hn;subst hn;apply qd9.mpr;rw[qdq,qdq];constructor
   ·rintro⟨i,hi,h⟩
    have f:=qaD.mp hi;refine⟨_,qbC f,?_⟩;rw[qai f]at h;exact h
   ·rintro⟨x,hx,h⟩
    obtain⟨i,hi,rfl⟩:=qhA hx;refine⟨i,qaD.mpr hi,?_⟩;rw[qai hi];exact h
  exact this _ (by simpa using g)
theorem qE (m:X.calm=true:=by rfl) (P:X.K=K:=by rfl):cP K X (.builtin "any") D6:=by
 refine⟨λst ws d h=>?_⟩
 match ws,h with
 |[.d (.tup ds)],h=>
  obtain⟨ns,e,rfl⟩:=qad.mp h;cases bv e;refine a7.imp yf ?_
  rintro R H Q ⟨φ,S,⟨v,r,rfl,⟨a,J,rfl,L,G⟩,rfl⟩,q⟩
  cases G.ints;exact⟨m,a,ns,U,L,q _ H (aP.refl H) U⟩
end
def zy (_:Sto):List W->Option D
 |[.d (.lst ds)]=>(gJ ds).map λns=>.bl (ns.any id)
 |_=>none
section
variable {K:qae}{X:Cx}
theorem ye:a7 X (.builtin "any") (λxs H Q=>X.calm=true/\∃ (a:Addr) (bs:List Bool),xs=[.ref a]/\SqL X.K H a (bs.map V.bl)/\Q (.bl (bs.any id)) H):=by
 intro y s N H xs J Q I k h;obtain⟨m,a,bs,rfl,E,q⟩:=h;cases k with
 |cons r F=>
  cases F;cases r;obtain⟨its,k,p,hz⟩:=I.list E;have l:a<s.heap.objs.size:=by obtain⟨_,_,e,_⟩:=p;exact qax e
  have g:=by have:=k.length;simpa using this.symm
  refine call_any_walk (qdY p.isList ?_);refine⟨s.heap.objs.size,_,_,_,_,_,λi=>(bs[i]?).getD true,U,qjo (A:=X.A.in1) (I.ok.hd m) s.heap.objs.size a (qaC l) its.toArray,⟨⟨_,qar _ U,U,U⟩,p.isList.push _⟩,?_,λh' M B=>?_⟩
  ·intro i v s' Q' E' D t
   have j:=by simpa using D
   have hi:=(qas.mp j).1;obtain⟨b,hb⟩:∃ b,bs[i]?=some b:=⟨bs[i]'(by lia),by simp[show i<bs.length by lia]⟩
   have:(bs.map V.bl)[i]?=some (.bl b):=by rw[qay,hb];rfl
   obtain⟨u,w,C⟩:=k.get this;rw[j]at w;cases w;cases C;have c:Q' ((bs[i]?).getD true) s':=t;rw[hb]at c;exact qcu c
  ·refine⟨_,H,I.kept (λb o e=>B b o (λz=>absurd (qax e) (by rw[qan.mp z];exact qa4 _)) (qaf _ e)),?_,q⟩
   congr 1
   have:∀ n,n=bs.length->((qak n).any λi=>(bs[i]?).getD true)=bs.any id:=by
    intro n hn;subst hn;rw[qd9,qdq,qdq];constructor
    ·rintro⟨i,hi,h⟩
     have f:=qaD.mp hi;refine⟨_,qbC f,?_⟩;rw[qai f]at h;exact h
    ·rintro⟨x,hx,h⟩
     obtain⟨i,hi,rfl⟩:=qhA hx;refine⟨i,qaD.mpr hi,?_⟩;rw[qai hi];exact h
   exact this _ (by simpa using g)
theorem l5 (m:X.calm=true:=by rfl) (P:X.K=K:=by rfl):cP K X (.builtin "any") zy:=by
 refine⟨λst ws d h=>?_⟩
 match ws,h with
 |[.d (.lst ds)],h=>
  obtain⟨ns,e,rfl⟩:=qad.mp h;cases gK e;refine a7.imp ye ?_
  rintro R H Q ⟨φ,S,⟨v,r,rfl,⟨a,J,rfl,O,L,G⟩,rfl⟩,q⟩
  cases G.bools;exact⟨m,a,ns,U,.inl L,q _ H (aP.refl H) U⟩
end
structure Cal (P:qaO) (w:World) (K:qae) (mg:Str->Option Value) (base:Heap) (x:Str) (j:Nat) (m:Fn):Prop where
 ex:∃ ff fd ps,dh P w K mg base CX0 j ff fd ps (spI K m)/\mg x=some (.ref ff)/\qcV K (.ref ff)=true/\cO K fd ps []
section
variable {P:qaO}{w:World}{K:qae}{mg:Str->Option Value}{base:Heap}{x a:Str}{st:Stmt}{f:Addr}{fd:qch}{N ps:List Str}{k j:Nat}{b:Sf}{m:Fn}
theorem wB (F:Fun K x a st f fd) (S:b5 N ps (au st))
  (hb:∀ (d) (A) (outer) (s) (H) (E),bj k (A.deeper (qeS a (au st) s.heap.objs.size f d))->(fj CX0 P w K mg base N a (au st) f d A outer s H E).nox.N=N->(fj CX0 P w K mg base N a (au st) f d A outer s H E).nox.env.scope.names=(au st).names->N.Nodup->ISs K (fj CX0 P w K mg base N a (au st) f d A outer s H E).nox (aY st) b) :
  dh P w K mg base CX0 (k+1) f fd ps (spI K (d8 N.length ps.length b)) :=Gc F S λc A o s H E r=>hb c A o s H E r U U S.nd
theorem F4 (F:Fun K x a st f fd) (S:b5 N ps (au st)) (hm:mg x=some (.ref f)) (i:cO K fd ps [])
  (hb:∀ (d) (A) (outer) (s) (H) (E),bj k (A.deeper (qeS a (au st) s.heap.objs.size f d))->(fj CX0 P w K mg base N a (au st) f d A outer s H E).nox.N=N->(fj CX0 P w K mg base N a (au st) f d A outer s H E).nox.env.scope.names=(au st).names->N.Nodup->ISs K (fj CX0 P w K mg base N a (au st) f d A outer s H E).nox (aY st) b) :
  Cal P w K mg base x (k+1) (bz N.length ps.length b) :=⟨_,_,_,HI F S λc A o s H E r=>hb c A o s H E r U U S.nd,hm,F.kp,i⟩
theorem F5 (F:Fun K x a st f fd) (S:b5 N ps (au st)) (hm:mg x=some (.ref f)) (i:cO K fd ps [])
  (hb:∀ (d) (A) (outer) (s) (H) (E),bj k (A.deeper (qeS a (au st) s.heap.objs.size f d))->(fj CX0 P w K mg base N a (au st) f d A outer s H E).nox.N=N->(fj CX0 P w K mg base N a (au st) f d A outer s H E).nox.env.scope.names=(au st).names->N.Nodup->ISs K (fj CX0 P w K mg base N a (au st) f d A outer s H E).nox (aY st) b) :
  Cal P w K mg base x (k+1) (d8 N.length ps.length b) :=⟨_,_,_,Gc F S λc A o s H E r=>hb c A o s H E r U U S.nd,hm,F.kp,i⟩
variable {X:Cx}{e:Expr}{es:List Expr}{pos p:Pos}{q:Af}
theorem jL (B:X.K=K) (C:Cal X.prog X.w X.K X.mg X.base x j m) (I:bj k X.A) (u:j<=k) (hg:Gl X x) (l:IA K X (e::es) q) (h:(x==("__debug__"))=false) (n:aw e=true) (i:es.all aw=true) :
  IE K X (.Call (.Name x p) (e::es) [] pos) (az m q) :=by
 subst B;obtain⟨_,_,_,F,hm,G,hb⟩:=C.ex;exact B1 F u I hg hm G hb l h n i
theorem iD (B:X.K=K) (C:Cal X.prog X.w X.K X.mg X.base x j m) (I:bj k X.A) (u:j<=k) (hg:Gl X x) (l:IA K X (e::es) q) (h:(x==("__debug__"))=false) (n:aw e=true) (i:es.all aw=true) :
  IE K X (.Call (.Name x p) (e::es) [] pos) (cE m q) :=by
 subst B;obtain⟨_,_,_,F,hm,G,hb⟩:=C.ex;exact zS F u I hg hm G hb l h n i
theorem wG (z:qcm x=some v) (y:cP K X v g) (hg:Gl X x) (hm:X.mg x=none) (l:IA K X (e::es) q)
  (hn:x≠"__name__") (h:(x==("__debug__"))=false) (n:aw e=true) (i:es.all aw=true) (t:(match v with|.builtin _=>true|.type _=>true|_=>false)=true):IE K X (.Call (.Name x p) (e::es) [] pos) (iCB g q) :=by
 cases v<;>first|exact pS y hg hm z l hn h n i|exact Gi y hg hm z l hn h n i|cases t
theorem wL (z:qcm x=some v) (y:tj K X v g) (hg:Gl X x) (hm:X.mg x=none) (l:IA K X (e::es) q)
  (hn:x≠"__name__") (h:(x==("__debug__"))=false) (n:aw e=true) (i:es.all aw=true) (t:(match v with|.builtin _=>true|.type _=>true|_=>false)=true):IL K X (.Call (.Name x p) (e::es) [] pos) (iCL g q) :=by
 cases v<;>first|exact Gj y hg hm z l hn h n i|exact Dw y hg hm z l hn h n i|cases t
end
def tgN:Expr->List Str
 |.Name x _=>[x]
 |.Tuple es _ _=>es.flatMap λe=>match e with
  |.Name x _=>[x]
  |.Tuple es _ _=>es.flatMap λe=>match e with
   |.Name x _=>[x]
   |_=>[]
  |_=>[]
 |_=>[]
def lcN (a:Expr) (js:List Nat) (N:List Str):List Str:=tgN a++js.map λj=>N.getD j ""
theorem mL (h:uk a ns N Nc k js=true):Nc.Nodup :=by
 unfold uk at h;simp only[qaZ,decide_eq_true_eq]at h;exact h.1.1.1.2
section
variable {K:qae}{X:Cx}{d:Expr}{pos:Pos}{a:Scope}{k:Nat}{js:List Nat}{e iter:Expr}{f:List Expr}{n:Lf}{g:Tg}{tt:Tf}{te:Ef}{ns:List (Str×qb9)}{N:List Str}
theorem rq (hns:X.env.scope.names=ns) (hN:X.N=N) (h:uk a ns N (lcN d js N) k js=true) (q:a.kind=.function) (v:X.calm=true) (m:X.env.scope.kind=.function) (l:∀ j∈nH g,j<k) (hi:II K X d iter n)
  (hg:∀ b s H C fp,(lcX X a b (lcN d js N) s H C fp).N.Nodup->PG (lcX X a b (lcN d js N) s H C fp) d (tG K g)) (r:∀ b s H C fp,(lcX X a b (lcN d js N) s H C fp).env.scope.names=vW a.names ns->(lcX X a b (lcN d js N) s H C fp).N=lcN d js N->ITs K (lcX X a b (lcN d js N) s H C fp) f tt)
  (o:∀ b s H C fp,(lcX X a b (lcN d js N) s H C fp).env.scope.names=vW a.names ns->(lcX X a b (lcN d js N) s H C fp).N=lcN d js N->IE K (lcX X a b (lcN d js N) s H C fp) e te) (t:∀ x,qbE iter X.env x=pure x) :
  IL K X (.ListComp e [⟨d,iter,f,0⟩] a pos) (iLc k js n g tt te):=
 zT (pY ns N _ k js hns hN q h) v l hi (λc s H C fp=>hg c s H C fp (mL h)) (λc s H C fp=>r c s H C fp (iO m hns) U) (λc s H C fp=>o c s H C fp (iO m hns) U) t
variable {w:Nat}{x0:Str}{z i:Pos}
theorem gT (hns:X.env.scope.names=ns) (hN:X.N=N) (h:uk a ns N (lcN d js N) k js=true) (u:X.N.Nodup) (A:X.N[w]?=some x0) (p:Loc X.env.scope x0) (q:a.kind=.function) (v:X.calm=true) (m:X.env.scope.kind=.function) (l:∀ j∈nH g,j<k) (hi:II K X d iter n)
  (hg:∀ b s H C fp,(lcX X a b (lcN d js N) s H C fp).N.Nodup->PG (lcX X a b (lcN d js N) s H C fp) d (tG K g)) (r:∀ b s H C fp,(lcX X a b (lcN d js N) s H C fp).env.scope.names=vW a.names ns->(lcX X a b (lcN d js N) s H C fp).N=lcN d js N->ITs K (lcX X a b (lcN d js N) s H C fp) f tt)
  (o:∀ b s H C fp,(lcX X a b (lcN d js N) s H C fp).env.scope.names=vW a.names ns->(lcX X a b (lcN d js N) s H C fp).N=lcN d js N->IE K (lcX X a b (lcN d js N) s H C fp) e te)
  (hsw:qcq (.ListComp e [⟨d,iter,f,0⟩] a pos) (some (.Name x0 z)) i.line X.env=pure true) (y:X.fn x0=true\/X.env.scope.names.lookup x0=some .local) (t:∀ x,qbE iter X.env x=pure x) :
  IS K X (.Assign [.Name x0 z] (.ListComp e [⟨d,iter,f,0⟩] a pos) i) (aB (.nm w) (ap (iLc k js n g tt te)))/\
   IS K X (.Assign [.Name x0 z] (.ListComp e [⟨d,iter,f,0⟩] a pos) i) (aB (.nm w) (bR (iLc k js n g tt te))):=
 Gm u A p (pY ns N _ k js hns hN q h) v l hi (λc s H C fp=>hg c s H C fp (mL h)) (λc s H C fp=>r c s H C fp (iO m hns) U) (λc s H C fp=>o c s H C fp (iO m hns) U) hsw y t
end
theorem wQ {K}(h:ITW K X (.BoolOp o es pos) a):IT K X (.BoolOp o es pos) a :=Eo h
theorem ad (h:a) (g:a->b):a/\b :=⟨h,g h⟩
theorem mD {K}(hns:X.env.scope.names=ns) (hN:X.N=N) (h:uk a ns N (lcN d js N) k js=true) (m:X.N.Nodup) (p:X.N[r]?=some x0) (l:Loc X.env.scope x0) (v:a.kind=.function) (z:X.calm=true) (n:∀ j∈nH g,j<k) (hi:II K X d iter q)
  (hg:∀ b s H C fp,(lcX X a b (lcN d js N) s H C fp).N.Nodup->PG (lcX X a b (lcN d js N) s H C fp) d (tG K g)) (w:∀ b s H C fp,ITs K (lcX X a b (lcN d js N) s H C fp) i tt) (u:∀ b s H C fp,IE K (lcX X a b (lcN d js N) s H C fp) f te)
  (hsw:qcq (.ListComp f [⟨d,iter,i,0⟩] a pos) (some (.Name x0 t)) e.line X.env=pure true) (o:X.fn x0=true\/X.env.scope.names.lookup x0=some .local) (y:∀ x,qbE iter X.env x=pure x) :
  ISL K X (.Assign [.Name x0 t] (.ListComp f [⟨d,iter,i,0⟩] a pos) e) r (iLc k js q g tt te) :=
 En m p l (pY ns N _ k js hns hN v h) z n hi (λc s H C fp=>hg c s H C fp (mL h)) w u hsw o y
theorem jM {K}{ Cl}{N :List Str}(hm:X.mg x=some (.ref Cl)) (M:Mk X.K Cl d) (F:dh X.prog X.w X.K X.mg X.base CX0 j d fd ps (Dc K N.length ps.length g)) (o:bj (k+1) X.A) (a:j<=k) (hg:Gl X x) (hb:cO X.K fd ps [])
  (l:Cls K Cl) (hA:∀ p∈g,b6 K Cl p.1) (m:g.length=6) (b:(g.map (·.1)).Nodup)
  (i:IA K X (e::es) f) (c:(x==("__debug__"))=false) (n:aw e=true) (h:es.all aw=true) :
  IE K X (.Call (.Name x p) (e::es) [] pos) (nG N.length ps.length g f) :=B2 M F a o hg hm hb l hA m b i c n h
open Classical in
def lcH (n:Nat) (all:List D) (g:Tg) (tt:Tf) (te:Ef) (env:Ev):List D->Sto->Option (List D×Sto)
 |[],st=>if lg st n=some all then some ([],st) else none
 | d::ds,st=>if lg st n=some all then ((cx g (.d d) env).bind λe=>(tt e st).bind λb=>if b.1=true then (te e b.2).bind λx=>(qP [x.1]).bind λa=>(lcH n all g tt te env ds x.2).map λr=>(a++r.1,r.2)
   else lcH n all g tt te env ds b.2) else none
def ud (k:Nat) (js:List Nat) (a:Ef) (g:Tg) (tt:Tf) (te:Ef):Lf
 |env,st=>(a env st).bind λr=>match r.1 with
  |.h n=>(lg r.2 n).bind λds=>if ds.length<=1000000 then lcH n ds g tt te (jI k js env) ds r.2 else none
  |_=>none
section
variable {K:qae}{X:Cx}{pos:Pos}{tg:Expr}
def YlH (K:qae) (φ0:List Addr) (H0:Hp) (J:It) (n:Nat) (ds:List D):Prop:=∀ (H:Hp) (φ:List Addr) (st:Sto) (i:Nat),Fw φ0 φ H0 H->Sr K H φ st->lg st n=some ds->
 (∀ d,ds[i]?=some d->J.go i H/\∀ x H',J.yld i H x H'->aP H H'/\Rl K H' φ d x)/\(ds.length=i->J.stop i H)
def Hj (K:qae) (env:Ev) (st:Sto) (n:Nat) (ds:List D) (s1:Sto):TI:=λE H R=>∃ φ,Er K H φ env E/\Sr K H φ st/\∀ J H' A,Fw φ A H H'->Sr K H' A s1->YlH K A H' J n ds->R J H'
theorem xz {st }(h:IE K X e f) (hK:X.K=K) (hf:f env st=some (.h n,s1)) (hn:lg s1 n=some ds):PI X tg e (Hj K env st n ds s1) :=by
 subst hK;refine (xA (h.run _ _ _ hf)).imp ?_
 rintro E H R ⟨φ,N,M,q⟩
 refine⟨φ,N,M,λv H1 o P S1 w1=>?_⟩;obtain⟨a,vs,rfl,hq,p⟩:=kT S1 w1 (show lsD s1 (.h n)=some ds from hn);refine⟨a,U,⟨vs,.inl hq⟩,q _ H1 o P S1 λH2 l t i f2 S2 hn2=>?_⟩;obtain⟨a2,W,ea,hq2,hr2⟩:=kT S2 (Rw.fw S1 f2 w1) (show lsD t (.h n)=some ds from hn2);cases ea;have hq3:SqL X.K H2 a W:=.inl hq2;refine⟨λd hd=>?_,λhi=>⟨W,hq3,by rw[<-hr2.length];exact qdx hi⟩⟩;obtain⟨v,ev,rv⟩:=hr2.get hd;refine⟨⟨W,v,hq3,ev⟩,λx H' y=>?_⟩;obtain⟨rfl,y⟩:=y
 have:=y W hq3
 rw[ev]at this;cases this;exact⟨aP.refl _,rv⟩
theorem Ca {st }(hgi:∀ j∈nH g,j<k) (F:ds.length<=1000000) (hr':lcH n ds g tt te (jI k js env) ds s1=some r) :
  ∀ E H Q,tIL K env st r E H Q->tLc (dI k js) (Hj K env st n ds s1) (tG K g) (xO K tt) (Bn K te) E H Q :=by
 rintro E H Q ⟨φ,N,M,q⟩
 refine⟨φ,N,M,λJ H1 o P S1 yl=>?_⟩;have hE1:=(N.fw M P).emb k js;refine⟨λi m ys H2=>m=ds.length - i/\i<=ds.length/\∃ st l es O,Fw o l H1 H2/\Sr K H2 l st/\Rls K H2 l es ys/\es.length<=i/\lcH n ds g tt te (jI k js env) (ds.drop i) st=some O/\r=(es++O.1,O.2),⟨ds.length,by simp,qbM _,s1,o,[],r,Fw.refl _ _,S1,U,qao _,hr',U⟩,?_⟩
 rintro i m ys H2 ⟨rfl,hi,t,l,es,O,f2,S2,Y,hle,G,rfl⟩
 by_cases T:i<ds.length
 ·rw[qcg T]at G
  rw[lcH]at G;by_cases u:lg t n=some ds
  ·rw[iFP u]at G
   obtain⟨y1,y2⟩:=yl H2 l t i f2 S2 u;obtain⟨go,yld⟩:=y1 ds[i] (qai T);simp only[qab]at G;obtain⟨e3,he3,⟨kb,s3⟩,hb3,h3⟩:=G;have hz:ys.length<qaF:=by
    rw[<-Y.length]
    have:qaF=16777216:=qcQ
    lia
   refine .inr ⟨go,hz,λys' H'=>i+1<=ds.length/\∃ st l es' r2',Fw o l H1 H'/\Sr K H' l st/\Rls K H' l es' ys'/\es'.length<=i+1/\lcH n ds g tt te (jI k js env) (ds.drop (i+1)) st=some r2'/\(es++O.1,O.2)=(es'++r2'.1,r2'.2),λys' H' ⟨hn,p'⟩=>⟨ds.length - (i+1),by lia,U,hn,p'⟩,λx H' y=>?_⟩;obtain⟨sm,rx⟩:=yld x H' y;have S3:=S2.same sm;have f3:=f2.trans (Fw.same (φ:=l) sm);refine⟨l,t,jI k js env,.d ds[i],e3,hE1.fw S1 f3,S3,rx,he3,λσ' e' stay=>⟨Sub.stay stay hgi,?_⟩⟩;refine⟨e3,t,_,hb3,l,e',S3,λH4 φ4 f4 S4=>?_⟩;cases kb with
   |false=>
    rw[iFN qaW]at h3;exact B5 ⟨T,s3,φ4,es,O,f3.trans f4,S4,(Y.fw S2 (Fw.same sm)).fw S3 f4,by lia,h3,U⟩
   |true=>
    simp only[if_true,qab,qad]at h3;obtain⟨x5,hx5,zs,hzs,r5,hr5,rfl⟩:=h3;refine B6 ⟨e3,s3,x5,hx5,φ4,e'.fw S3 f4,S4,λv H5 φ5 f5 S5 w5=>?_⟩;obtain⟨x5,s5⟩:=x5;cases x5 with
    |h n=>cases hzs
    |d z=>
     cases hzs;refine⟨T,s5,φ5,es++[z],r5,(f3.trans f4).trans f5,S5,(((Y.fw S2 (Fw.same sm)).fw S3 f4).fw S4 f5).append ⟨v,[],U,w5,U⟩,by rw[qaA];simp;lia,hr5,?_⟩
     simp
  ·rw[iFN u]at G;cases G
 ·have hi':i=ds.length:=by lia
  subst hi';rw[qeJ,lcH]at G;by_cases u:lg t n=some ds
  ·rw[iFP u]at G
   obtain⟨y1,y2⟩:=yl H2 l t _ f2 S2 u;cases G;refine .inl ⟨y2 U,λDn hD=>?_⟩
   have:=q Dn ys H2 l (P.trans f2) S2 hD
   exact this (by simpa using Y)
  ·rw[iFN u]at G;cases G
theorem yx {st}(p:ud k js fe g tt te env st=some r):∃ n s1 ds,fe env st=some (.h n,s1)/\lg s1 n=some ds/\ds.length<=1000000/\lcH n ds g tt te (jI k js env) ds s1=some r :=by
 simp only[ud,qab]at p;obtain⟨⟨w,s1⟩,hy,p⟩:=p;cases w with
 |d x=>cases p
 |h n=>
  obtain⟨ds,hds,p⟩:=qab.mp p;by_cases F:ds.length<=1000000
  ·rw[iFP F]at p
   exact⟨n,s1,ds,hy,hds,F,p⟩
  ·rw[iFN F]at p;cases p
theorem El { B}
  (hN0:X.N.Nodup) (hi0:X.N[i0]?=some x0) (hx0:Loc X.env.scope x0) (S:cI X c Nc (dI k js)) (hc:X.calm=true) (hgi:∀ j∈nH g,j<k) (hi:IE K X iter fe) (hK:X.K=K)
  (hg:∀ b s H C fp,PG (lcX X c b Nc s H C fp) tg (tG K g)) (ht:∀ b s H C fp,ITs K (lcX X c b Nc s H C fp) L tt) (he:∀ b s H C fp,IE K (lcX X c b Nc s H C fp) I te)
  (hsw:qcq (.ListComp I [⟨tg,iter,L,0⟩] c pos) (some (.Name x0 py)) B.line X.env=pure true:=by rfl)
  (hf0:X.fn x0=true\/X.env.scope.names.lookup x0=some .local:=by first|exact .inl U|exact .inr U|assumption)
  (hs:∀ x,qbE iter X.env x=pure x:=by intro _;rfl):IS K X (.Assign [.Name x0 py] (.ListComp I [⟨tg,iter,L,0⟩] c pos) B) (aB (.nm i0) (ap (ud k js fe g tt te)))/\
   IS K X (.Assign [.Name x0 py] (.ListComp I [⟨tg,iter,L,0⟩] c pos) B) (aB (.nm i0) (bR (ud k js fe g tt te))) :=by
 have key:∀ env st r0 r,ud k js fe g tt te env st=some r->(∀ E φ H (D:mV),Er K H φ env E->Sr K H φ st->xZ K φ H D r0->∀ a vs H1 A,Fw φ A H H1->Sr K H1 A r.2->H1 a=none->Rls K H1 A r.1 vs->D.nx (E.set i0 (some (.ref a))) (upd H1 a (.lst vs)))->
   PS X (.Assign [.Name x0 py] (.ListComp I [⟨tg,iter,L,0⟩] c pos) B) (tS K env st r0):=by
  intro env st r0 r p h;obtain⟨n,s1,ds,hy,hds,F,hr'⟩:=yx p;refine (AN hN0 hi0 hx0 S hc (xz hi hK hy hds) hg (λb s H C fp=>(ht b s H C fp).run) (λb s H C fp=>(he b s H C fp).any) hsw hf0 hs).imp ?_
  rintro D E H ⟨φ,N,M,q⟩
  exact Ca hgi F hr' E H _ ⟨φ,N,M,h E φ H D N M q⟩
 constructor
 ·refine⟨λenv st r p=>?_⟩
  simp only[aB,ap,cx,qab,qad]at p;obtain⟨y,⟨O,hy,rfl⟩,e',ee,rfl⟩:=p;cases ee;refine key _ _ _ _ hy λE φ H D N M q a vs H1 o P s1 V w1=>?_;exact q _ _ o (P.trans (Fw.new V)) ((((N.fw M P).fw s1 (Fw.new V))).set i0 (w:=.d (.lst O.1)) ⟨a,vs,U,s1.nin V,.inl upd_same,w1.fw s1 (Fw.new V)⟩) (s1.new V)
 ·refine⟨λenv st r p=>?_⟩
  simp only[aB,bR,cx,qab,qad]at p;obtain⟨y,⟨O,hy,rfl⟩,e',ee,rfl⟩:=p;cases ee;refine key _ _ _ _ hy λE φ H D N M q a vs H1 o P s1 V w1=>?_;exact q _ _ (o++[a]) (P.trans (Fw.more V)) (((N.fw M P).fw s1 (Fw.more V)).set i0 (w:=.h O.2.length) ⟨a,by rw[<-s1.len];simp,U⟩) (s1.more V w1)
end
theorem eE {K}(hns:X.env.scope.names=ns) (hN:X.N=N) (h:uk a ns N (lcN d js N) k js=true) (n:X.N.Nodup) (t:X.N[p]?=some x0) (l:Loc X.env.scope x0) (w:a.kind=.function) (B:X.calm=true) (u:X.env.scope.kind=.function) (o:∀ j∈nH g,j<k) (hi:IE K X iter m) (A:X.K=K)
  (hg:∀ b s H C fp,(lcX X a b (lcN d js N) s H C fp).N.Nodup->PG (lcX X a b (lcN d js N) s H C fp) d (tG K g)) (y:∀ b s H C fp,(lcX X a b (lcN d js N) s H C fp).env.scope.names=vW a.names ns->(lcX X a b (lcN d js N) s H C fp).N=lcN d js N->ITs K (lcX X a b (lcN d js N) s H C fp) i tt)
  (v:∀ b s H C fp,(lcX X a b (lcN d js N) s H C fp).env.scope.names=vW a.names ns->(lcX X a b (lcN d js N) s H C fp).N=lcN d js N->IE K (lcX X a b (lcN d js N) s H C fp) f te)
  (hsw:qcq (.ListComp f [⟨d,iter,i,0⟩] a pos) (some (.Name x0 r)) e.line X.env=pure true) (q:X.fn x0=true\/X.env.scope.names.lookup x0=some .local) (z:∀ x,qbE iter X.env x=pure x) :
  IS K X (.Assign [.Name x0 r] (.ListComp f [⟨d,iter,i,0⟩] a pos) e) (aB (.nm p) (ap (ud k js m g tt te)))/\
   IS K X (.Assign [.Name x0 r] (.ListComp f [⟨d,iter,i,0⟩] a pos) e) (aB (.nm p) (bR (ud k js m g tt te))) :=
 El n t l (pY ns N _ k js hns hN w h) B o hi A (λc s H C fp=>hg c s H C fp (mL h)) (λc s H C fp=>y c s H C fp (iO u hns) U) (λc s H C fp=>v c s H C fp (iO u hns) U) hsw q z
end L2
namespace L2
open PySem PySem.Spec PyProof.Rows PySem.SeqAt PySem.W
def k9:List D->Option (List Str)
 |[]=>some []
 |.str x::ds=>(k9 ds).map λr=>x::r
 |_=>none
theorem lG:∀ {ds:List D}{a:List Str},k9 ds=some a->ds=a.map D.str
 |[],_,h=>by cases h;rfl
 |.str x::ds,_,h=>by
  simp only[k9,qad]at h;obtain⟨r,e,rfl⟩:=h;rw[lG e];rfl
 |.non::_,_,h=>by cases h
 |.bl _::_,_,h=>by cases h
 |.int _::_,_,h=>by cases h
 |.tup _::_,_,h=>by cases h
 |.ty _::_,_,h=>by cases h
 |.dct::_,_,h=>by cases h
 |.scr _::_,_,h=>by cases h
 |.lst _::_,_,h=>by cases h
 |.ob _ _::_,_,h=>by cases h
section
variable {K:qae}{X:Cx}{H:Hp}{φ:List Addr}
theorem Rls.strs:∀ {ns:List Str}{a},Rls K H φ (ns.map D.str) a->a=ns.map V.str
 |[],_,h=>h
 |n::ns,_,h=>by
  obtain⟨v,r,rfl,c,b⟩:=h;rw[c,Rls.strs b];rfl
end
end L2
namespace L2
open PySem PySem.Spec PyProof.Rows
section
variable {K:qae}{X:Cx}{pos:Pos}{a e:Expr}{fa:Ef}{af:Af}
def uc (o:Ef) (a:Af):Ef
 |env,st=>(o env st).bind λx=>(a env x.2).bind λr=>match x.1,r.1 with
 |.d (.lst ds),[.d (.str k)]=>(k9 ds).bind λns=>if ns.length<=1000 then (ns.idxOf? k).map λj=>(.d (.int (j:Nat)),r.2) else none
 |_,_=>none
def GX (X:Cx):V->List V->Hp->VK->Prop:=λx xs H Q=>∃ (p:Addr) (ns:List Str) (k:Str) (j:Nat),x=.ref p/\xs=[.str k]/\SqL X.K H p (ns.map V.str)/\ns.length<=1000/\ns.idxOf? k=some j/\Q (.int (j:Nat)) H
def Ek (k:Str):Value->Bool
 |.str s _=>s==k
 |_=>false
theorem B0:∀ {ns:List Str}{k:Str}{j:Nat},ns.idxOf? k=some j->j<ns.length/\ns[j]?=some k/\∀ i,i<j->ns[i]?≠some k:=by
 intro ns k j h;have h1:=qdB.mp h;obtain⟨P,h3,h4⟩:=h1;refine⟨P,by rw[qai P,h3],λi hi z=>?_⟩;have G:i<ns.length:=qel hi P;rw[qai G]at z;exact h4 i hi (qaL z)
theorem Cp:MtR X "list.index" (GX X):=by
 intro Y s σ H x xs v us Q I rx rv h;obtain⟨p,ns,k,j,rfl,rfl,E,hl,L,q⟩:=h;cases rx;obtain⟨u,rfl,ru⟩:=rv.one;obtain⟨t,rfl⟩:=ru;obtain⟨its,r,pl,hz⟩:=I.list E;obtain⟨j1,j2,j3⟩:=B0 L;have l:its.length=ns.length:=by rw[<-r.length,qah]
 have at_:∀ (i:Nat) (hi:i<its.length),∃ t,∃ hn:i<ns.length,its[i]=.str ns[i] t:=λi hi=>by
  obtain⟨h',q'⟩:=r.at i hi;have hn:i<ns.length:=by rw[<-l];exact hi
  have e:(ns.map V.str)[i]=V.str ns[i]:=qdo ..;rw[e]at q';obtain⟨t,e'⟩:=q';exact⟨t,hn,e'⟩
 obtain⟨⟨c,dd,dt,sl⟩,W,hc,n,hd⟩:=pl.isList
 simp only at hc hd
 subst hc hd;have D:j<its.length:=by rw[l];exact j1
 refine qcE qdt ⟨_,W,U⟩ qgi (qgd _ _) (qfL p its.toArray n dd sl (.str k t) (Ek k) j (by simpa using D) (by lia) ?_ (λm hm M=>?_)) ⟨W,λy hy=>?_,?_⟩
 ·obtain⟨t',hn,e⟩:=at_ j D
  rw[qai hn]at j2
  have:its.toArray[j]'(by simpa using D)=.str k t':=by simpa [qaL j2] using e
  rw[this];exact beq_self_eq_true k
 ·have F:m<its.length:=by simpa using hm
  obtain⟨t',hn,e⟩:=at_ m F
  have:its.toArray[m]'hm=.str ns[m] t':=by simpa using e
  rw[this]
  have:=j3 m M
  rw[qai hn]at this;have O:ns[m]≠k:=λz=>this (by rw[z]);show (ns[m]==k)=false;rw[beq_eq_false_iff_ne];exact O
 ·obtain⟨m,hm,rfl⟩:=qcK.mp (by simpa using hy:y∈its)
  obtain⟨t',hn,e⟩:=at_ m hm;rw[e];exact qgJ _ _ _ _
 ·exact⟨.int (j:Nat),H,I.kept (t':=s.toks+1) λb o e=>e,⟨_,U⟩,q⟩
theorem md {w} (ho:IE K X a fa) (ha:IA K X [e] af) (B:qcJ a "index" X.env (eval a X.env)=eval a X.env:=by rfl)
  (g:[e].all aw=true:=by rfl) (A:(w.endLine==pos.line)=true:=by rfl) (hK:X.K=K:=by rfl) :
  IE K X (.Call (.Attribute a "index" w) [e] [] pos) (uc fa af) :=by
 subst hK;have C:aw e=true:=by rw[qbB,qaZ]at g;exact g.1
 refine⟨λenv st r f=>?_⟩;simp only[uc,qab]at f;obtain⟨⟨x,s1⟩,hx,⟨ws,s2⟩,hw,f⟩:=f
 match x,ws,f with
 |.d (.lst ds),[.d (.str k)],f=>
  simp only[qab]at f;obtain⟨ns,hns,f⟩:=f;split at f
  case isFalse=>cases f
  rename_i hl;obtain⟨j,L,rfl⟩:=qad.mp f;have R:=lG hns;subst R;refine (Au qeq qdt qgs Cp (ho.run _ _ _ hx) (ha.run _ _ _ hw) B (oS g (by show 1<30;decide)) A (aO C) (bf U)).imp ?_
  rintro σ H Q ⟨φ,hE,hS,q⟩
  refine⟨φ,hE,hS,λv H1 S f1 S1 w1=>?_⟩;obtain⟨p,vs,rfl,h0,E,J⟩:=w1;have ev:=Rls.strs J;subst ev;refine⟨.inl ⟨U,_,.inl E⟩,S,hE.fw hS f1,S1,λus H2 N T S2 w2=>?_⟩;obtain⟨y,us',rfl,ry,rfl⟩:=w2;cases (show y=.str k from ry);exact⟨p,ns,k,j,U,U,.inl (E.fw T h0),hl,L,q _ H2 N (f1.trans T) S2 U⟩
end
section
variable {c:Type} [DecidableEq c]
def gH (a:List (c×V)) (k:c):Option V:=(a.find? λd=>decide (d.1=k)).map (·.2)
def kX (a:List (c×V)) (k:c) (v:V):List (c×V):=
 if (a.any λd=>decide (d.1=k))=true then a.map (λd=>if d.1=k then (d.1,v) else d) else a++[(k,v)]
theorem ph {k:c} (e:p.1=k):gH (p::r) k=some p.2 :=by simp[gH,qdD,e]
theorem pf {k:c} (e:¬ p.1=k):gH (p::r) k=gH r k :=by simp[gH,qdD,e]
theorem uV (k:c):∀ a:List (c×V),(a.any λd=>decide (d.1=k))=(gH a k).isSome
 |[]=>rfl
 |p::r=>by
  rw[qco];by_cases e:p.1=k
  ·simp only[ph e,decide_eq_true e,Bool.true_or,Option.isSome_some]
  ·rw[pf e,decide_eq_false e];exact uV k r
theorem lC (a) (k:c) (v):(kX a k v).length<=a.length+1 :=by
 unfold kX;split
 ·rw[qah];lia
 ·rw[qaA,qat,qcO];lia
theorem lK.isSome_eq (r:lK o u):o.isSome=u.isSome :=by
 cases o with
 |none=>cases u with
  |none=>rfl
  |some _=>exact (r).elim
 |some _=>cases u with
  |none=>exact (r).elim
  |some _=>rfl
theorem KV.val (r:KV a f) (k:c):lK (gH a k) (qhI f k) :=by
 induction r with
 |nil=>exact True.intro
 |@cons p q ps l h t i=>
  obtain⟨g,m⟩:=h;by_cases e:p.1=k
  ·have n:=g.symm.trans e
   have b:qhI (q::l) k=some q.2:=by simp[qhI,qdD,n]
   rw[ph e,b];exact m
  ·have n:¬ q.1=k:=λz=>e (g.trans z)
   have b:qhI (q::l) k=qhI l k:=by simp[qhI,qdD,n]
   rw[pf e,b];exact i
theorem KV.any (r:KV a f) (k:c):(a.any λd=>decide (d.1=k))=f.any λd=>decide (d.1=k) :=by
 induction r with
 |nil=>rfl
 |cons h t i=>rw[qco,qco,i,h.1]
theorem KV.repl (r:KV a f) (k:c) (j:aM y u) :
  KV (a.map λd=>if d.1=k then (d.1,y) else d) (f.map λd=>if d.1=k then (d.1,u) else d) :=by
 induction r with
 |nil=>exact .nil
 |@cons p q ps l h t i=>
  rw[qaz,qaz];refine .cons ?_ i;obtain⟨g,m⟩:=h;by_cases e:p.1=k
  ·rw[iFP e,iFP (g.symm.trans e)];exact⟨g,j⟩
  ·rw[iFN e,iFN (λz=>e (g.trans z))];exact⟨g,m⟩
theorem KV.put (r:KV a f) (k:c) (j:aM y u):KV (kX a k y) (stored f k u) :=by
 unfold kX stored;rw[r.any k];by_cases e:(f.any λd=>decide (d.1=k))=true
 ·rw[iFP e,iFP e];exact r.repl k j
 ·rw[iFN e,iFN e];exact qiO r ⟨U,j⟩
theorem KV.length {a:List (c×V)}(r:KV a f):a.length=f.length :=qff r
end
theorem zV (r:aM (kV k) u):(bU P w).is k u=true :=by
 cases k with
 |inl i=>obtain⟨t,e⟩:=(r);subst e;exact uv P w i t
 |inr x=>obtain⟨t,e⟩:=(r);subst e;exact uw P w x t
theorem pV {P:qaO}{w:World}:∀ {a:List Key}{b:List Value},aG (a.map kV) b->ItemsAre (bU P w) a b
 |[],_,r=>by cases r;exact .nil
 |k::a,_,r=>by
  cases r with
  |cons h t=>exact .cons (zV h) (pV t)
abbrev KT (H:Hp):List (List Key×V)->List (List Key×Addr×Value)->Prop:=qgC λp q=>p.1=q.1/\H q.2.1=some (.tup (p.1.map kV))/\aM p.2 q.2.2
theorem KT.val (r:KT H a xs) (k):lK (gH a k) ((atKey xs k).map (·.2)) :=by
 induction r with
 |nil=>exact True.intro
 |@cons p q ps c h t f=>
  obtain⟨d,_,g⟩:=h;by_cases e:p.1=k
  ·have b:atKey (q::c) k=some q.2:=by simp[atKey,qdD,(d.symm.trans e)]
   rw[ph e,b];exact g
  ·have i:¬ q.1=k:=λz=>e (d.trans z)
   have b:atKey (q::c) k=atKey c k:=by simp[atKey,qdD,i]
   rw[pf e,b];exact f
theorem KT.repl (r:KT H a xs) (k) (g:aM y u) :
  KT H (a.map λc=>if c.1=k then (c.1,y) else c) (xs.map (putAt k u)) :=by
 induction r with
 |nil=>exact .nil
 |@cons p q ps j h t i=>
  rw[qaz];refine .cons ?_ i;obtain⟨b,d,f⟩:=h;unfold putAt;by_cases e:p.1=k
  ·rw[iFP e,iFP (b.symm.trans e)];exact⟨b,d,g⟩
  ·rw[iFN e,iFN (λz=>e (b.trans z))];exact⟨b,d,f⟩
theorem KT.put (r:KT H a xs) (k) (hb:H b=some (.tup (k.map kV))) (c:aM y u) :
  KT H (kX a k y) (storedH xs k b u) :=by
 have e:(a.any λd=>decide (d.1=k))=(atKey xs k).isSome:=by
  rw[uV,(r.val k).isSome_eq,Option.isSome_map]
 unfold kX storedH;rw[e];by_cases q:(atKey xs k).isSome=true
 ·rw[iFP q,iFP q];exact r.repl k c
 ·rw[iFN q,iFN q];exact qiO r ⟨U,hb,c⟩
theorem KT.keeps (r:KT H a xs) (d:∀ b c,H b=some (.tup c)->H' b=some (.tup c)):KT H' a xs :=
 qgC.mapP r λ_ _ z=>⟨z.1,d _ _ z.2.1,z.2.2⟩
section
variable {P:qaO}{w:World}{H:Hp}{h:Heap}{a:Addr}
theorem DM (ok:HOk P w H h) (e:Rd H a u):bW P w H h a u :=e.ok ok
theorem zB (ok:HOk P w H h) (e:Rd H a (.dK b)):b.length<=qaF/\(a==qcD)=false/\∃ c,KV b c/\h.DictOf (bU P w) a c :=
 DM ok e
theorem F7 (ok:HOk P w H h) (e:H a=some (.dK b)):b.length<=qaF/\(a==qcD)=false/\∃ c,KV b c/\h.DictOf (bU P w) a c :=zB ok (.inl e)
theorem vz (ok:HOk P w H h) (e:H a=some (.tup (i.map kV))):(qgX (bU P w)).is h i a :=by
 obtain⟨_,its,r,o,g,f,⟨n,d⟩,_⟩:=(ok a _ e);exact⟨o,its.toArray,n,g,f,d,by simpa using pV r⟩
theorem zD (ok:HOk P w H h) (e:Rd H a (.dT b)):b.length<=qaF/\(a==qcD)=false/\
  ∃ xs,KT H b xs/\h.DictOfH (qgX (bU P w)) a xs :=by
 obtain⟨z,y,xs,r,o,es,s,g,f,d,v,k⟩:=(DM ok e);refine⟨z,y,xs,r,o,es,s,g,f,d,v,λx hx=>?_,k⟩;have all:∀ {l:List _}{m:List _},KT H l m->∀ x∈m,(qgX (bU P w)).is h x.1 x.2.1:=by
  intro l m q
  induction q with
  |nil=>intro x hx;exact nomatch hx
  |@cons p q ps B j t A=>
   intro x hx;rcases qaw.mp hx with e|hx
   ·subst e
    exact vz ok (by rw[<-j.1];exact j.2.1)
   ·exact A x hx
 exact all r x hx
theorem Ds (ok:HOk P w H h) (e:H a=some (.dT b)):b.length<=qaF/\(a==qcD)=false/\
  ∃ xs,KT H b xs/\h.DictOfH (qgX (bU P w)) a xs :=zD ok (.inl e)
end
def xY (H:Hp) (a:Addr) (y:V) (r:Option V):Prop:=
 (∃ c k,Rd H a (.dK c)/\y=kV k/\r=gH c k)\/∃ c k b,Rd H a (.dT c)/\y=.ref b/\H b=some (.tup (k.map kV))/\r=gH c k
def zg (H:Hp) (a:Addr) (y v:V) (H':Hp):Prop:=
 (∃ c k,H a=some (.dK c)/\y=kV k/\c.length<qaF/\H'=upd H a (.dK (kX c k v)))\/
 ∃ c k b,H a=some (.dT c)/\y=.ref b/\H b=some (.tup (k.map kV))/\c.length<qaF/\H'=upd H a (.dT (kX c k v))
theorem xY.t (e:H a=some (.dT c)) (d:H b=some (.tup (k.map kV))):xY H a (.ref b) (gH c k) :=.inr ⟨c,k,b,.inl e,U,d,U⟩
theorem zg.t (e:H a=some (.dT c)) (f:H b=some (.tup (k.map kV))) (d:c.length<qaF) :
  zg H a (.ref b) v (upd H a (.dT (kX c k v))) :=.inr ⟨c,k,b,e,U,f,d,U⟩
section
variable {X:Cx}{i:List (Addr×Obj)}{n:St}{H:Hp}{s:qal}{a:Addr}{y v:V}{u r:Value}{o:Option V}{A:qa1}{E:Value->qal->Prop}
theorem Inv.big (I:Inv X i n H s):qcD<s.heap.objs.size:=by
 exact qel (by decide) ((I.mod.glob.keeps I.bk).lt)
theorem yn (L:A.units+1<cLine) (I:Inv X i n H s) (g:xY H a y (some v)) (F:aM y u) (h:∀ B s',Inv X i n H s'->aM v B->Q B s') :
  wpAny (model X.prog X.w) A (qfp (.ref a) u) Q E s :=by
 rcases g with⟨f,k,e,t,l⟩|⟨f,k,b,e,t,J,l⟩
 ·subst t
  obtain⟨z,hd,C,d,j⟩:=zB I.hok e;obtain⟨B,hw,x⟩:=lK.some_of (by rw[l];exact d.val k);exact wpAny_getItem_of (zV F) j.mapOf hw (h B _ (I.tok _) x)
 ·subst t
  cases (F);obtain⟨z,hd,xs,d,j⟩:=zD I.hok e;obtain⟨B,hw,x⟩:=lK.some_of (by rw[l];exact d.val k);obtain⟨p,W,M⟩:=qad.mp hw;refine wpAny_getItem_heap (qiG L) (vz I.hok J) j W ?_;rw[M];exact h B _ (I.tok _) x
theorem wt (I:Inv X i n H s) (T:Mut (H a)) (D:qdc a s.heap h') (S:∃ q,h'.get? a=some q) (new:bW X.prog X.w (upd H a ob) h' a ob) :
  Inv X i n (upd H a ob) { s with heap:=h',toks:=t' } :=
 I.write T (.inl U) (λb q hb z=>(D.2 b hb).trans z) S new
theorem D7 {C} (z:f.length<=qaF) (hd:(a==qcD)=false) (d:KV f C) (j:h'.DictOf (bU P w) a C) :
  bW P w H' h' a (.dK f) :=⟨z,hd,C,d,j⟩
theorem yo (L:A.units+1<cLine) (I:Inv X i n H s) (g:zg H a y v H') (F:aM y u) (R:aM v r) (h:∀ s',Inv X i n H' s'->Q () s') :
  wpAny (model X.prog X.w) A (qkc (.ref a) u r) Q E s :=by
 rcases g with⟨f,k,e,t,l,K⟩|⟨f,k,b,e,t,J,l,K⟩
 ·subst t K
  obtain⟨z,hd,C,d,j⟩:=F7 I.hok e;have hz:C.length<=qaF:=by rw[<-d.length];exact z
  have N:(kX f k v).length<=qaF:=by have:=lC f k v;lia
  refine wpAny_setItem_pairs (zV F) j λh' m D=>h _ ?_;exact wt I (by rw[e];exact True.intro) D (let ⟨q,_,_,G,_⟩:=m;⟨q,G⟩) (D7 N hd (d.put k R) m)
 ·subst t K
  cases (F);obtain⟨z,hd,xs,d,j⟩:=Ds I.hok e;have hz:xs.length<=qaF:=by rw[<-qff d];exact z
  have N:(kX f k v).length<=qaF:=by have:=lC f k v;lia
  refine wpAny_setItem_heap (qiG L) (vz I.hok J) j λh' m D=>h _ ?_;obtain⟨q,es,Y,G,h2,h3,h4,_,h5⟩:=m;refine wt I (by rw[e];exact True.intro) D ⟨q,G⟩ ⟨N,hd,_,(d.put k J R).keeps λc ys O=>?_,q,es,Y,G,h2,h3,h4,h5⟩;rw[upd_ne (GD O e (λz=>nomatch z))]
  exact O
end
section
variable {X:Cx}{b:List (Addr×Obj)}{d:St}{H:Hp}{s:qal}{a:Addr}{c:List (Key×V)}{k:Key}{u:Value}{A:qa1}{E:Value->qal->Prop}
end
def DU (i:Expr):Prop:=∀ a iv,qgY i false a iv=operate [a,iv] (qfp a iv)
theorem De { id}(l:typeLookup (.type T) "__getitem__" = pure (some (.builtin id))) (m:DU a)
  (h:wpAny (model prog w) A (eval b env) (λo f=>wpAny (model prog w) A (eval a env) (λi c=>c.TypeIs o T/\wpAny (model prog w) A (qfp o i) Q E c) E f) E s) :
  wpAny (model prog w) A (eval (.Subscript b a pos) env) Q E s :=by
 refine qi7 (qcC h (λo f j=>qcC j (λi c d=>?_) λ_ _ x=>x) λ_ _ x=>x);obtain⟨k,d⟩:=d;refine qaa ?_;refine qaa (wpAny_specialOf k l ?_);have fin:wpAny (model prog w) A (qgY a false o i) (λr e=>wpAny (model prog w) A (letTemporaryGo b o r >>= λ_=>pure r) Q E e) E c:=by
  rw[m o i];exact wpAny_operating (qcC d (λr e g=>qaa (wpAny_letTemporaryGo (qam g))) λ_ _ x=>x)
 first
  |exact qam (qaa fin)
  |exact qaa _
  |exact qaa fin
theorem tZ {h:St}(I:Inv X c h H s) (g:xY H a y o):s.TypeIs (.ref a) "dict" :=by
 rcases g with⟨f,k,e,_,_⟩|⟨f,k,b,e,_,_,_⟩
 ·obtain⟨_,_,i,_,d⟩:=zB I.hok e
  exact d.typeIs
 ·obtain⟨_,_,xs,_,d⟩:=zD I.hok e
  exact d.typeIs
def Hh (c ty:TE):TE:=λb H Q=>c b H λx H1=>ty b H1 λy H2=>∃ a v,x=.ref a/\xY H2 a y (some v)/\Q v H2
def G5 (c ty d:TE):TS:=λD b H=>d b H λv H1=>c b H1 λx H2=>ty b H2 λy H3=>∃ a H4,x=.ref a/\zg H3 a y v H4/\D.nx b H4
section
variable {X:Cx}{o i e c:Expr}{pos d B:Pos}{j ty A:TE}
theorem CH (k:X.A.units+1<cLine) (m:PE X o j) (hi:PE X i ty) (l:DU i):PE X (.Subscript o i pos) (Hh j ty):=by
 intro b s f H Q I h;refine De PySem.F.slot_dict_getitem.lookup l (thn (m b s f H _ I h) λu s1 ⟨x,H1,I1,n,t⟩=>thn (hi b s1 f H1 _ I1 t) λiv z ⟨y,H2,I2,w,a,v,ex,g,q⟩=>?_);subst ex;obtain rfl:u=Value.ref a:=n;exact⟨tZ I2 g,yn k I2 g w λJ E I3 p=>⟨v,H2,I3,p,q⟩⟩
theorem CO (k:X.A.units+1<cLine) (m:PE X o j) (hi:PE X i ty) (G:PE X c A) (l:qcq c (some (.Subscript o i d)) pos.line X.env=pure false) :
  PS X (.Assign [.Subscript o i d] c pos) (G5 j ty A):=by
 intro b s f H D I h;refine wpAny_Assign_Subscript (thn (G b s f H _ I h) λr s1 ⟨v,H1,I1,F,t⟩=>thn (m b s1 f H1 _ I1 t) λu z ⟨x,H2,I2,n,q⟩=>thn (hi b z f H2 _ I2 q) λiv E ⟨y,H3,I3,w,a,H4,ex,g,C⟩=>?_) l;subst ex;obtain rfl:u=Value.ref a:=n;exact yo k I3 g w F λK I4=>⟨f,H4,I4,C⟩
end
theorem zC (h:Heap) (hb:qcD<h.objs.size):bW P w H (h.push { cls:=.type "dict",data:=.dict #[] }) h.objs.size (.dT []) :=
 ⟨qbM _,beq_eq_false_iff_ne.mpr (qbp (qaC hb)),_,.nil,_,_,0,qar _ U,⟨U,U,U⟩,U,U,qdk⟩
def FD:TE:=λ_ H Q=>∀ p,H p=none->Q (.ref p) (upd H p (.dT []))
section
variable {X:Cx}{pos:Pos}
theorem Av:PE X (.Dict [] [] pos) FD:=λa s b H Q I h=>
 wpAny_Dict_empty ⟨.ref s.heap.objs.size,_,I.laid (λ_ _ q=>qaf _ q) (qao _) (zC s.heap I.big),U,h _ (I.hok.fresh (qao _))⟩
end
section
variable {X:Cx}{b:List (Addr×Obj)}{c:St}{H:Hp}{s:qal}{a:Addr}{y d:V}{u r:Value}{o:Option V}{A:qa1}{E:Value->qal->Prop}
end
section
variable {X:Cx}{o e f:Expr}{b a:Pos}{d ty c:TE}
end
section
variable {X:Cx}{b:List (Addr×Obj)}{d:St}{H:Hp}{s:qal}{a:Addr}{c:List (Key×V)}{A:qa1}{E:Value->qal->Prop}
end
section
variable {X:Cx}{b:List (Addr×Obj)}{c:St}{H:Hp}{s:qal}{a:Addr}{y:V}{u:Value}{A:qa1}{E:Value->qal->Prop}
end
section
variable {prog:qaO}{w:World}{A:qa1}{E:Value->qal->Prop}{s:qal}{b:Type} [DecidableEq b] {c:KeyKind prog w b}{a:Addr}{d:List (b×Value)}
end
section
variable {X:Cx}{b:List (Addr×Obj)}{d:St}{H:Hp}{s:qal}{a:Addr}{c:List (Key×V)}{k:Key}{u r:Value}{A:qa1}{E:Value->qal->Prop}{z:V}
end
section
variable {K:qae}{X:Cx}{pos:Pos}{e a b o f:Expr}{g i c h d:Ef}
end
section
variable {K:qae}{X:Cx}
end
section
variable {b:Bool}{t:SetTable}{m d k:Nat}
end
section
variable {prog:qaO}{w:World}{A:qa1}{E:Value->qal->Prop}{s:qal}{a:Addr}{m d k:Nat}
end
section
variable {prog:qaO}{w:World}{A:qa1}{E:Value->qal->Prop}{s:qal}{a b:Addr}{m d c i:Nat}{f:Nat->Tok}
end
section
variable {prog:qaO}{w:World}{A:qa1}{E:Value->qal->Prop}{s:qal}{a b:Addr}{m d c i:Nat}{f:Nat->Tok}
end
section
variable {prog:qaO}{w:World}{A:qa1}{E:Value->qal->Prop}{s:qal}
end
section
variable {prog:qaO}{w:World}{A:qa1}{R:qhw->qal->Prop}{I:Addr}{fp a:List Addr}{G:Array qiS->Array qiS->Prop}{P:Nat->Value->Prop}{St:Nat->qal->Prop}
end
section
variable {prog:qaO}{w:World}{A:qa1}{E:Value->qal->Prop}{s:qal}
end
section
variable {prog:qaO}{w:World}{A:qa1}{E:Value->qal->Prop}{s:qal}{a r o:Addr}{m b m2 d k c:Nat}{f:Nat->Tok}
end
section
variable {prog:qaO}{w:World}{A:qa1}{E:Value->qal->Prop}{s:qal}{a b r o:Addr}{m c m2 d k e:Nat}{f:Nat->Tok}
end
section
variable {prog:qaO}{w:World}{A:qa1}{E:Value->qal->Prop}{s:qal}{a b r o:Addr}{m c m2 d k e:Nat}{f:Nat->Tok}
end
section
variable {prog:qaO}{w:World}{A:qa1}{E:Value->qal->Prop}{s:qal}{a:Addr}{m d b:Nat}{f:Nat->Tok}
end
section
variable {K:qae}{X:Cx}{pos p:Pos}{e a b:Expr}{c:Ef}{f d:Xf}
end
def jt (h:Heap) (d:Addr) (es:Array qeu) (a:Nat):Prop:=∃ o,h.get? d=some o/\o.ExactDict/\o.data=.dict es a
theorem jt.at' (x:jt h d es a) (e:∀ o,h.get? d=some o->h'.get? d=some o):jt h' d es a :=let ⟨o,ho,r⟩:=x;⟨o,e o ho,r⟩
theorem jt.type {s:qal}(x:jt s.heap d es a):s.TypeIs (.ref d) "dict" :=let ⟨o,ho,hc,_⟩:=x;⟨o,ho,hc.1⟩
theorem jt.lt (x:jt h d es a):d<h.objs.size :=let ⟨o,ho,_⟩:=x;qax ho
section
variable {prog:qaO}{w:World}{A:qa1}{E:Value->qal->Prop}{s:qal}{d n:Addr}{es:Array qeu}{i f:Nat}
theorem AY (hd:(d==qcD)=false) (hm:jt s.heap d es f)
  (l:Q (.ref s.heap.objs.size) { s with heap:=s.heap.push { cls:=.type "dict_keyiterator",data:=.fields #[.ref d,.int 0 0,.int es.size 0,.int f 0] } }) :
  wpAny (model prog w) A (qid (.ref d)) Q E s :=by
 have F:=hm.type;obtain⟨o,p,B,r⟩:=id hm;refine wpAny_pyIter_slot F qgA (qbL qgA F PySem.F.entry_dict_iter ?_ (PySem.F.args_dict_iter_1 _));refine qaa ?_;refine qaa (wpAny_notOrdered_dict F ?_);refine qam ?_;show wpAny _ _ (qf7 d >>= _) _ _ s;unfold qf7;rw[iFN (by rw[hd];exact qaW)];refine qaa (qam ?_);refine qaa (qgq p r ?_);refine qaa (qgW p r ?_);refine qaa (qb5 (qam ⟨_,U,"dict_keyiterator",_,⟨_,qar _ U,U⟩,qb2.lookup,?_⟩))
 simpa [qfK] using l
theorem AZ (c:s.heap.IsKeyIter n d i es.size f) (hm:jt s.heap d es f) (t)
  (l:∀ h',h'.IsKeyIter n d (i+1) es.size f->qdc n s.heap h'->Q (some es[i].key) { s with heap:=h' }) :
  wpAny (model prog w) A (qeR (.ref n)) Q E s :=by
 obtain⟨o,p,B,hd⟩:=id c;obtain⟨G,j,z,k⟩:=id hm
 refine qaa (qdO (qbx c.typeIs qb2
  (qbL qb2 c.typeIs qe2 ?_ (qeV _))))
 refine qaa (qam ?_);refine qaa ?_;refine qaa ?_
 first|refine qaa (qc8 c.typeIs (qam ?_))|refine qaa _
 refine qaa (qkr p hd ?_);refine qaa (qam ?_);refine qaa (qgq j k ?_);rw[iFN (by simp)];refine qaa (qam ?_);refine qaa (qgW j k ?_);rw[iFN (by simp)];refine qam ?_;simp only[show ¬ (_<0) from by lia,if_false,qbc,qbJ t];refine qaa ?_
 first|refine qaa (qc8 c.typeIs (qam ?_))|refine qaa _
 refine qaa (qh9 c.typeIs ?_);show wpAny _ _ (setField _ 1 _ >>= _) _ _ s;refine qaa (qfJ p hd (by simp) ?_);have g:(s.heap.update n (Obj.mapFields (·.setIfInBounds 1 (qfK ((i)+1))))).IsKeyIter n d (i+1) es.size f:=
  ⟨_,qb3 _ p (qhn (qek hd _)),(qij ..).trans B,by rw[qek hd];simp[qfK]⟩
 refine qaa (qb4 ?_);refine qaa (qh9 g.typeIs ?_);exact qam (qam ⟨_,U,qam (l _ g (qdb ..))⟩)
theorem C1 (u:A.handled=none) (c:s.heap.IsKeyIter n d es.size es.size f) (hm:jt s.heap d es f)
  (l:∀ h',qhF n s.heap h'->Q none { s with heap:=h' }):wpAny (model prog w) A (qeR (.ref n)) Q E s :=by
 obtain⟨o,p,B,hd⟩:=id c;obtain⟨G,j,z,k⟩:=id hm
 refine qaa (qdO (qbx c.typeIs qb2
  (qbL qb2 c.typeIs qe2 ?_ (qeV _))))
 refine qaa (qam ?_);refine qaa ?_;refine qaa ?_
 first|refine qaa (qc8 c.typeIs (qam ?_))|refine qaa _
 refine qaa (qkr p hd ?_);refine qaa (qam ?_);refine qaa (qgq j k ?_);rw[iFN (by simp)];refine qaa (qam ?_);refine qaa (qgW j k ?_);rw[iFN (by simp)];refine qam ?_;simp only[show ¬ (_<0) from by lia,if_false,qbc,qdH (qao _)];refine qaa ?_
 first|refine qaa (qc8 c.typeIs (qam ?_))|refine qaa _
 show wpAny _ _ (setField _ 0 .none >>= _) _ _ s;refine qaa (qfJ p hd (by simp) ?_);refine qaa ?_;refine qaa (m:=qkx _ _) (qgV (a:=Value.none) (by first|rfl|(rfl)) ?_)
 refine qb5 ?_ (by size_fits);refine qaa (wpAny_handled ?_);rw[u];refine qaa (qam (wpAny_throw ?_));refine qaa (qgH ⟨_,qar _ U,U⟩ qhk ?_);exact qam (l _ (((qdb ..).extBut.push _).push _))
theorem zd (u:A.handled=none) (I d) (C:d≠I) (es) (f) :
  Walks prog w A I [I,d] [I] es.size (λi v=>∃ e,es[i]?=some e/\v=e.key) (λi h=>h.IsKeyIter I d i es.size f/\jt h d es f)  where
 sub:=λb hb=>by simp at hb;simp[hb]
 frame:=λ_ _ _ st y=>⟨st.1.at λo e=>y I (by simp) o e,st.2.at' λo e=>y d (by simp) o e⟩
 item:=λi s Q E hi st l=>by
  refine AZ st.1 st.2 hi λh' g x=>?_;exact l _ h' s.toks ⟨_,by simp[hi],U⟩ ⟨g,st.2.at' λo q=>x.extBut d o C q⟩ λb o hb q=>x.extBut b o (λh=>hb (by simp[h])) q
 done:=λs Q E st l=>C1 u st.1 st.2 λh' D=>l h' s.toks λb o hb e=>D b o (λh=>hb (by simp[h])) e
 self:=λ_ _ _ _ st l=>wpAny_pyIter_keyiter st.1 l
theorem Dd (prog) (w) (d) (es) (f) (lo:(d==qcD)=false):PySem.W.KdlSrc prog w "dict" d d es.size (λi v=>∃ e,es[i]?=some e/\v=e.key) (λh=>jt h d es f)  where
 type:=λs S=>S.type
 there:=λh S=>⟨S.lt,S.lt⟩
 keep:=λh h' S y=>S.at' λo e=>y d (.inl U) o e
 notList:=by decide
 notTuple:=by decide
 hint:=λA E s Q S h=>PySem.W.kdl_hint_dict S.type h
 iter:=λA s u S=>⟨_,_,λE Q h=>AY lo S h,zd u s.heap.objs.size d (qaC S.lt) es f,
  ⟨⟨_,qar _ U,U,U⟩,S.at' λo e=>qaf _ e⟩⟩
end
section
variable {prog:qaO}{w:World}{A:qa1}{E:Value->qal->Prop}{s:qal}{d:Addr}{es:Array qeu}{z:Nat}
theorem tW (lo:(d==qcD)=false) (S:jt s.heap d es z) (N:A.handled=none) (hn:es.size<=qaF)
  (h:∀ h' f,(∀ b o,s.heap.get? b=some o->h'.get? b=some o)->s.heap.objs.size<h'.objs.size->Q (es.toList.map (·.key)) { s with heap:=h',toks:=f }) :
  wpAny (model prog w) A (collect (.ref d)) Q E s :=by
 have k:=S.lt;refine qaa (wpAny_runValue (qcY entry_proto_collect' ?_));refine qaa (qf8 (qam ⟨Code.quiet_builtin _ (by decide +kernel),qcY entry_list_iadd' ?_⟩))
 refine PySem.W.kdl_extend (R:=λr s'=>match r with
   | .ok (.ret v)=>wpAny _ A (match v with
     |.ref a=>do
      let o <-load a
      match o.data with
      |.seq xs _=>pure xs.toList
      |_=>unsupported "internal:collect"
     |_=>unsupported "internal:collect") Q E s'
   |.ok _=>False
   |.error e=>E e s') (Dd prog w d es z lo) N (S.at' λo e=>qaf _ e) s.heap.objs.size (qca k) (qca k) _ 0 (qar _ U) (λh' f acc c u T P=>?_) hn
 refine qaa (wpAny_load T ?_);show wpAny _ _ (pure acc.toList) Q E _;have e:acc.toList=es.toList.map (·.key):=by
  apply qa6;intro i;rw[qay,qeT,qeT];by_cases hi:i<acc.size
  ·obtain⟨e,H,D⟩:=P.2 i acc[i] (qbJ hi)
   rw[H,qbJ hi,D];rfl
  ·rw[qdH (by lia),qdH (by rw[<-P.1];lia)];rfl
 rw[e];refine qam (h h' f (λb o q=>?_) (qax T));exact u b o (qaC (qax q)) (qaf _ q)
theorem v8 (lo:(d==qcD)=false) (S:jt s.heap d es z) (N:A.in1.handled=none) (B:es.toList.map (·.key)=F) (J:F.length<64) (X:A.in1.in1.units<cLine)
  (t:∀ v∈F,∃ l,TuI s.heap v l)
  (h:∀ (h') (f) (p:Addr) (z) (g:List Value),(∀ b o,s.heap.get? b=some o->h'.get? b=some o)->s.heap.objs.size<=p->h'.get? p=some (qf9 "list" g.toArray z)->g.Perm F->g.Pairwise (λx y=>OI.kle (tuI s.heap x) (tuI s.heap y))->Q (.ref p) { s with heap:=h',toks:=f }) :
  wpAny (model prog w) A (call (.builtin "sorted") [.ref d]) Q E s :=by
 refine qgx kind_sorted plain_sorted entry_sorted (args_sorted1 _) ?_;refine qaa (qam ?_);have L:es.size<=qaF:=by
  have:=congrArg qfg B
  rw[qah,qcU]at this;rw[qcQ];lia
 refine qaa (tW lo S N L λG f u k=>?_);rw[B];refine qaa (qf8 ?_ (by rw[qcQ];lia));have n:(G.push _).get? G.objs.size=some (qf9 "list" F.toArray 0):=qar _ U
 refine qaa (qb4 (qbL qks ⟨_,n,U⟩ qkj (qe (O:=OI) (rk:=λp=>tuI s.heap p.1) (S:=λp=>∃ l,TuI s.heap p.1 l) (s:={ s with heap:=G.push _,toks:=f }) n J (λh' I=>?_) (λv D=>t v D) λg Y a2=>⟨_,U,?_⟩) (qkz _)))
 ·have j:=λb o q=>I b o (qaC (qax (u b o q))) (qaf _ (u b o q))
  obtain⟨κ,W,k2⟩:=uj (s:={ s with heap:=h',toks:=f }) (λv D=>let ⟨l,tl⟩:=t v D;⟨l,tl.fit j⟩) X;refine⟨κ,W,λx y ⟨l,hx⟩ ⟨m,M⟩ Q E hq=>k2 x y ⟨l,hx.fit j⟩ ⟨m,M.fit j⟩ Q E ?_⟩;have C:Q (br (tuI s.heap x.1) (tuI s.heap y.1)) { s with heap:=h',toks:=f }:=hq;show Q (br (tuI h' x.1) (tuI h' y.1)) { s with heap:=h',toks:=f };rw[(hx.fit j).is,(M.fit j).is];rw[hx.is,M.is]at C;exact C
 ·refine qam ⟨_,U,?_⟩
  obtain⟨K,H⟩:=sortedHeap_at n;refine h _ f G.objs.size K g (λb o q=>?_) (qe4 k) H Y (a2.imp λ{x y} q=>q);have V:=u b o q;have hb:=qax V;rw[sortedHeap_old (qaC hb) (by rw[qi3];exact qa0 hb),qdN _ _ _ (qaC hb)];exact V
end
def mgt (st:Sto) (n:Nat):Option (List (List Int×D)):=match st[n]? with
 |some (.m a)=>some a
 |_=>none
def vM (a:List (List Int×D)) (k:List Int):Option D:=(a.find? λp=>decide (p.1=k)).map (·.2)
def AR (a:List (List Int×D)) (k:List Int) (d:D):List (List Int×D):=if (a.any λp=>decide (p.1=k))=true then a.map λp=>if p.1=k then (p.1,d) else p else a++[(k,d)]
def Dv:Ef
 |_,st=>some (.h st.length,st++[.m []])
def yy (o k:Ef):Ef
 |env,st=>(o env st).bind λx=>(k env x.2).bind λy=>match x.1,y.1 with
 |.h n,.d (.tup ds)=>(mgt y.2 n).bind λa=>(a5 ds).bind λl=>(vM a l).map λd=>(.d d,y.2)
 |_,_=>none
def wE (o k v:Ef):Sf
 |env,st=>(v env st).bind λz=>(o env z.2).bind λx=>(k env x.2).bind λy=>match x.1,y.1,z.1 with
 |.h n,.d (.tup ds),.d d=>(mgt y.2 n).bind λa=>(a5 ds).bind λl=>if a.length<1000 then some (.nx env (y.2.set n (.m (AR a l d)))) else none
 |_,_,_=>none
def kK (a:Ef):Lf
 |env,st=>(a env st).bind λx=>match x.1 with
 |.h n=>(mgt x.2 n).bind λb=>if b.length<64 then some ((aD (b.map (·.1))).map ak,x.2) else none
 |_=>none
section
variable {K:qae}{X:Cx}{pos:Pos}{e a b o f:Expr}{fe fa fb fo ff:Ef}
theorem Ag {st}(h:mgt st n=some j):st[n]?=some (.m j) :=by
 unfold mgt at h;split at h
 ·rename_i q;cases h;exact q
 ·cases h
theorem Sr.atm {st} (S:Sr K H φ st) (e1:φ[n]?=some p) (M:mgt st n=some j):∃ w,H p=some (.dT w)/\Rkv K H φ j w :=S.at_ n p _ e1 (Ag M)
theorem Rkv.length {H:Hp}{φ:List Addr}:∀ {ds:List (List Int×D)}{w:List (List Key×V)},Rkv K H φ ds w->ds.length=w.length
 |[],_,h=>by cases h;rfl
 |(k,d)::ds,_,h=>by
  obtain⟨v,r,rfl,C,A⟩:=h;rw[qat,qat,Rkv.length A]
theorem jX:∀ {a b},gD a=gD b->a=b
 |[],[],_=>rfl
 |[],_::_,h=>by cases h
 |_::_,[],h=>by cases h
 |x::a,y::b,h=>by
  injection h with C A;injection C with C;rw[C,jX A]
theorem wT (l):(gD l).map kV=l.map V.int :=by
 unfold gD;rw[qaM];rfl
theorem Rkv.val {H:Hp}{φ:List Addr}{i:List Int}:∀ {ds:List (List Int×D)}{w:List (List Key×V)},Rkv K H φ ds w->(∀ d,vM ds i=some d->∃ v,gH w (gD i)=some v/\Rl K H φ d v)/\(vM ds i=none->gH w (gD i)=none)
 |[],_,h=>by cases h;exact⟨(λd e=>nomatch e),λ_=>rfl⟩
 |(k,d)::ds,_,h=>by
  obtain⟨v,r,rfl,C,A⟩:=h;by_cases e:k=i
  ·subst e
   have e1:vM ((k,d)::ds) k=some d:=by unfold vM;rw[qeO (by simp)];rfl
   have M:gH ((gD k,v)::r) (gD k)=some v:=by unfold gH;rw[qeO (by simp)];rfl
   rw[e1,M];exact⟨λd' q=>⟨v,U,by cases q;exact C⟩,λq=>nomatch q⟩
  ·have e1:vM ((k,d)::ds) i=vM ds i:=by unfold vM;rw[qeP (by simpa using e)]
   have M:gH ((gD k,v)::r) (gD i)=gH r (gD i):=by unfold gH;rw[qeP (by simpa using λz=>e (jX z))]
   rw[e1,M];exact (Rkv.val A)
theorem Rkv.any {H:Hp}{φ:List Addr}{i:List Int}:∀ {ds:List (List Int×D)}{w:List (List Key×V)},Rkv K H φ ds w->(w.any λp=>decide (p.1=gD i))=ds.any λp=>decide (p.1=i)
 |[],_,h=>by cases h;rfl
 |(k,d)::ds,_,h=>by
  obtain⟨v,r,rfl,C,A⟩:=h;rw[qco,Rkv.any A]
  congr 1
  exact decide_eq_decide.mpr ⟨λz=>jX z,λz=>congrArg gD z⟩
theorem Rkv.repl {H:Hp}{φ:List Addr}{i:List Int}{x:D}{y:V} (hx:Rl K H φ x y):∀ {ds:List (List Int×D)}{w:List (List Key×V)},Rkv K H φ ds w->Rkv K H φ (ds.map λp=>if p.1=i then (p.1,x) else p) (w.map λp=>if p.1=gD i then (p.1,y) else p)
 |[],_,h=>by cases h;exact U
 |(k,d)::ds,_,h=>by
  obtain⟨v,r,rfl,C,A⟩:=h;rw[qaz,qaz];by_cases e:k=i
  ·rw[iFP e,iFP (by rw[e])]
   exact⟨y,_,U,hx,Rkv.repl hx A⟩
  ·rw[iFN e,iFN (λz=>e (jX z))]
   exact⟨v,_,U,C,Rkv.repl hx A⟩
theorem Rkv.snoc {H:Hp}{φ:List Addr}:∀ {ds:List (List Int×D)}{w:List (List Key×V)}{k:List Int}{d:D}{v:V},Rkv K H φ ds w->Rl K H φ d v->Rkv K H φ (ds++[(k,d)]) (w++[(gD k,v)])
 |[],_,_,_,_,h,hd=>by cases h;exact⟨_,_,U,hd,U⟩
 |(k,d)::ds,_,_,_,_,h,hd=>by
  obtain⟨v,r,rfl,C,A⟩:=h;exact⟨v,_,U,C,Rkv.snoc A hd⟩
theorem Rkv.put (h:Rkv K H φ ds w) (hd:Rl K H φ d v):Rkv K H φ (AR ds k d) (kX w (gD k) v) :=by
 unfold AR kX;rw[h.any];split
 ·exact h.repl hd
 ·exact h.snoc hd
theorem xR (hl:a5 ds=some l) (r:Rl K H φ (.tup ds) v):∃ p,v=.ref p/\H p=some (.tup ((gD l).map kV)) :=by
 obtain⟨p,w,rfl,C,A⟩:=r;cases bv hl;cases A.ints;rw[wT];exact⟨p,U,C⟩
theorem me:IE K X (.Dict [] [] pos) Dv:=by
 refine⟨λenv st r g=>?_⟩;cases g;refine Av.imp ?_
 rintro σ H Q ⟨φ,L,F,q⟩
 exact λp R=>q _ _ _ (Fw.moreO R) (F.moreC R ⟨_,upd_same,U⟩) ⟨p,by rw[<-F.len];simp,U⟩
theorem re (J:bj k X.A) (ha:IE K X a fa) (hb:IE K X b fb) (hs:DU b):IE K X (.Subscript a b pos) (yy fa fb) :=by
 refine⟨λenv st r g=>?_⟩;simp only[yy,qab]at g;obtain⟨⟨x,s1⟩,hx,⟨y,s2⟩,hy,g⟩:=g;dsimp only at g;split at g
 next n ds=>
  simp only[qab,qad]at g;obtain⟨j,hk,l,hl,d,hd,rfl⟩:=g;refine (CH (Du J) (ha.run _ _ _ hx) (hb.run _ _ _ hy) hs).imp ?_
  rintro σ H Q ⟨φ,L,F,q⟩
  refine⟨φ,L,F,λv H1 E N S1 w1=>⟨E,L.fw F N,S1,λu H2 W f2 S2 w2=>?_⟩⟩;obtain⟨p,ep,rfl⟩:=w1.fw S1 f2;obtain⟨w,T,rl⟩:=S2.atm ep hk;obtain⟨v2,M,r2⟩:=rl.val.1 d hd;obtain⟨b',rfl,hb'⟩:=xR hl w2;refine⟨p,v2,U,?_,q _ H2 W (N.trans f2) S2 r2⟩;rw[<-M];exact xY.t T hb'
 ·cases g
theorem mB (J:bj k X.A) (ho:IE K X a fa) (hi:IE K X b fb) (T:IE K X e fe) (hs:qcq e (some (.Subscript a b O)) pos.line X.env=pure false:=by rfl) :
  IS K X (.Assign [.Subscript a b O] e pos) (wE fa fb fe) :=by
 refine⟨λenv st r g=>?_⟩;simp only[wE,qab]at g;obtain⟨⟨z,s1⟩,hz,⟨x,s2⟩,hx,⟨y,s3⟩,hy,g⟩:=g;dsimp only at g;split at g
 next n ds d=>
  simp only[qab]at g;obtain⟨j,hk,l,hl,g⟩:=g;split at g
  ·rename_i G
   cases g;refine (CO (Du J) (ho.run _ _ _ hx) (hi.run _ _ _ hy) (T.run _ _ _ hz) hs).imp ?_
   rintro D σ H ⟨φ,L,F,q⟩
   refine⟨φ,L,F,λv H1 E N S1 w1=>⟨E,L.fw F N,S1,λu H2 W f2 S2 w2=>⟨W,(L.fw F N).fw S1 f2,S2,λt H3 φ3 f3 S3 w3=>?_⟩⟩⟩;obtain⟨p,ep,rfl⟩:=w2.fw S2 f3;obtain⟨w,R,rl⟩:=S3.atm ep hk;obtain⟨b',rfl,hb'⟩:=xR hl w3;obtain⟨f4,S4⟩:=S3.putC (c:=.m _) ep λf=>⟨_,upd_same,(rl.put (Rl.fw S2 f3 (Rl.fw S1 f2 w1))).fw S3 f⟩;refine⟨p,_,U,zg.t R hb' (by rw[<-rl.length];exact qaP G (by decide)),?_⟩;exact q _ _ φ3 (((N.trans f2).trans f3).trans f4) (((((L.fw F N).fw S1 f2).fw S2 f3)).fw S3 f4) S4
  ·cases g
 ·cases g
theorem wU {H:Hp}{φ:List Addr}:∀ {j:List (List Int×D)}{w:List (List Key×V)}{xs:List (List Key×Addr×Value)},Rkv K H φ j w->KT H w xs->
  Rls K H φ ((j.map (·.1)).map ak) (xs.map λx=>V.ref x.2.1)/\aG (xs.map λx=>V.ref x.2.1) (xs.map λx=>Value.ref x.2.1)
 |[],_,_,h,t=>by cases h;cases t;exact⟨U,.nil⟩
 |(k,d)::j,_,_,h,t=>by
  obtain⟨v,r,rfl,C,A⟩:=h;cases t with
  |cons q t=>
   rename_i x xs;obtain⟨i1,i2⟩:=wU A t;have e:H x.2.1=some (.tup (k.map V.int)):=by rw[<-wT];exact q.2.1
   exact⟨⟨_,_,U,⟨_,_,U,e,Rls.of_ints k⟩,i1⟩,.cons U i2⟩
theorem jP {p} (J:bj k X.A) (hg:Gl X "sorted") (hm:X.mg "sorted" = none) (ha:IE K X a fa) (hc:X.calm=true:=by rfl) (hs:aw a=true:=by rfl) (hK:X.K=K:=by rfl):IL K X (.Call (.Name "sorted" p) [a] [] pos) (kK fa) :=by
 subst hK;refine⟨λenv st r g=>?_⟩;simp only[kK,qab]at g;obtain⟨⟨x,s1⟩,hx,g⟩:=g;dsimp only at g;split at g
 case h_2=>cases g
 rename_i n;simp only[qab]at g;obtain⟨j,hk,g⟩:=g;split at g
 ·rename_i hl
  cases g;have hA:=(bo (K:=X.K) (X:=X) ha bY hs).run env st ([.h n],s1) (by simp only[aa,ae,hx,qac,qap]);have hC:a7 X (.builtin "sorted") (λxs H Q=>∃ φ q,Sr X.K H φ s1/\φ[n]?=some q/\xs=[.ref q]/\∀ l us,H l=none->Rls X.K H φ ((aD (j.map (·.1))).map ak) us->Q (.ref l) (upd H l (.lst us))):=by
   intro pins s σ H xs us Q I rv q;obtain⟨φ,ad,S,P,rfl,q⟩:=q;obtain⟨u,rfl,ru⟩:=fJ rv;cases ru;obtain⟨w,T,rl⟩:=S.atm P hk;obtain⟨z',hd,xs,rel,o,es,ep,g1,g2,g3,g4,g5,g6⟩:=Ds I.hok T;obtain⟨b1,b2⟩:=wU rl rel;have G:xs.length<64:=by
    have e1:=rel.length;have M:=rl.length;lia
   have Y:es.toList.map (·.key)=xs.map λx=>Value.ref x.2.1:=by rw[g4,qaM];rfl
   obtain⟨m1,m2⟩:=oN I b1 b2;have hun:X.A.in1.in1.units<cLine:=by
    have:=J.un
    show X.A.units+1+1<cLine;lia
   refine v8 hd ⟨o,g1,g2,g3⟩ (I.ok.hd hc) Y (by rw[qah];exact G) hun (λv T=>⟨_,(m2 v T).1⟩) λh' tk p ep' B hkeep R he a1 a2=>?_;have hn:H p=none:=I.hok.fresh R;have ho:=λu hu=>m2 u (a1.mem_iff.mp hu);obtain⟨c1,c2⟩:=oK (K:=X.K) (H:=H) (φ:=φ) ho;have hpm:(B.map (tuI s.heap)).Perm (j.map (·.1)):=by
    have:=a1.map (tuI s.heap)
    rw[m1]at this;exact this
   have hsrt:(B.map (tuI s.heap)).Pairwise leL:=by
    rw[qew];exact a2.imp λ{x y} q=>q
   have e:B.map (tuI s.heap)=aD (j.map (·.1)):=ku (hpm.trans (aI _).symm) hsrt (cK _);have M:(B.map λu=>ak (tuI s.heap u))=(aD (j.map (·.1))).map ak:=by rw[<-e,qaM];rfl
   rw[M]at c1;have hlay:Inv X pins σ (upd H p (.lst (B.map toV))) { s with heap:=h',toks:=tk }:=by
    refine I.laid (t':=tk) (a:=p) (o:=.lst (B.map toV)) hkeep R ⟨?_,B,ep',c2,by simpa [qf9] using he⟩;rw[qah,a1.length_eq,qah];exact iQ (by lia)
   exact⟨.ref p,_,hlay,U,q p _ hn c1⟩
  refine (oB hC hg hm qa3 hA (by decide) (by decide) (aO hs) (bf (es:=[]) U)).imp ?_
  rintro σ H Q ⟨φ,L,F,q⟩
  refine⟨φ,L,F,λw H1 E N S1 w1=>?_⟩;obtain⟨v,r,rfl,⟨ad,P,rfl⟩,rfl⟩:=w1;exact⟨E,ad,S1,P,U,λl us hl' hr'=>q l _ H1 E N S1 hl' hr'⟩
 ·cases g
end
end L2
namespace L2
open PySem PySem.SeqAt MeetsSeq MeetsSeq2 MeetsSeq3
open AutoSeq1 (wpAny_loadPart')
end L2
namespace L2
open PySem PySem.Spec PyProof.Rows
section
variable {K:qae}{X:Cx}{pos:Pos}{a e:Expr}{b:Ef}{c:Af}
end
section
variable {K:qae}{X:Cx}{pos:Pos}{a e:Expr}{b:Ef}{c:Af}
end
end L2
namespace L2
open PySem PySem.Spec PyProof.Rows
open AutoSeq1 (wpAny_loadPart')
section
variable {K:qae}{X:Cx}{pos:Pos}{a e:Expr}{es:List Expr}{b:Ef}{c:Af}
end
theorem rZ (l) (items) (n) (b) (a) (m) (o) (k) (j:¬(!items.isEmpty&&qde (items.size+a.size))=true) (c:items.size<=qaF) (f:items.size+a.size<=qaF+1) :
  Meets (qe6.«list.extend» ⟨[.ref l,.ref b],[]⟩) (λ_ R s=>s.heap.get? l=some { cls:=.type "list",dict:=none,data:=.seq items n,slots:=#[] }/\s.heap.get? b=some { cls:=.type "list",dict:=o,data:=.seq a m,slots:=k }/\R (.ok (.ret Value.none)) { s with heap:=s.heap.update l (qcv λx=>x++a),toks:=s.toks }) :=
 .of_wp λprog w A R s h=>by
  obtain⟨r,g,d,u,os⟩:=s;obtain⟨i,hb,h⟩:=h;have v:=AutoSeq1.idx_int;have p:=qgg;have y:=AutoSeq1.sub_list_list;have t:=AutoSeq1.sub_tuple_list;have q:=AutoSeq1.sub_list_tuple;have e:(items++a).size<=qaF+1:=by rw[Array.size_append];exact f
  wp_walk using (qcW i U (hz:=c) (_hz':=e)),wpAny_loadPart' i,wpAny_loadPart' hb
  exact⟨_,U,h⟩
section
variable {K:qae}{X:Cx}{pos:Pos}{a e:Expr}{es:List Expr}{P:Ef}{M:Af}
def GW (X:Cx):V->List V->Hp->VK->Prop:=λx w H Q=>∃ l b xs o,x=.ref l/\w=[.ref b]/\H l=some (.lst xs)/\Rd H b (.lst o)/\b≠l/\xs.length+o.length<=qaF/\Q .non (upd H l (.lst (xs++o)))
theorem Co:MtR X "list.extend" (GW X):=by
 intro J s σ H x w v us Q I rx rv h;obtain⟨l,b,xs,o,rfl,rfl,N,hB,hne,hz,q⟩:=h;cases rx;obtain⟨u,rfl,ru⟩:=rv.one;cases ru;obtain⟨z,its,n,r,O,e⟩:=I.lstM N;obtain⟨f,G,⟨⟨c,dd,dt,sl⟩,L,e2,A,Y,hd⟩,hz2⟩:=I.list (.inl hB);replace A:c=.type "list":=A
 replace hd:dt=.seq f.toArray L:=hd;subst A hd;have hl2:=G.length;have C:its.toArray.size+f.toArray.size<=qaF:=by rw[qaE,qaE];lia
 have j:¬ (!its.toArray.isEmpty&&qde (its.toArray.size+f.toArray.size))=true:=by
  rw[uz C,qiE];exact qaW
 refine qcE F.slot_list_extend ⟨_,e,U⟩ F.entry_list_extend (F.args_list_extend_2 _ _)
  (rZ l its.toArray n b f.toArray L dd sl j (by rw[qaE];lia) (by lia)) ⟨e,e2,?_⟩
 refine⟨.non,_,I.lset (its':=its++f) N e (by simp) (r.append G) ?_,U,q⟩;rw[qaA];lia
def qg (ds:List D):List W->Option (D×List D)
 |[.d (.lst xs)]=>if ds.length+xs.length<=1000000 then some (.non,ds++xs) else none
 |_=>none
theorem ma {g} (ho:IE K X a P) (R:IA K X (e::es) M) (m:qcJ a "extend" X.env (eval a X.env)=eval a X.env:=by rfl)
  (t:(e::es).all aw=true:=by rfl) (k:(e::es).length<30:=by decide) (i:(g.endLine==pos.line)=true:=by rfl) (hK:X.K=K:=by rfl) :
  IE K X (.Call (.Attribute a "extend" g) (e::es) [] pos) (de qg P M) :=by
 subst hK;refine vm PySem.F.slot_list_extend PySem.F.type_list_extend Co (λH φ st n ad ds w ws us y Q S ea T hv E rw p q=>?_) (λds ws y h=>?_) ho R m t k i U
 ·match ws,p with
  |[.d (.lst xs)],p=>
   simp only[qg]at p;split at p
   ·rename_i O
    cases p;obtain⟨v,r,rfl,⟨b,o,rfl,B,hq,hz⟩,rfl⟩:=rw;exact⟨ad,b,w,o,U,U,hv,hq,(λe=>B (by rw[e];exact qbS ea)),by rw[<-E.length,<-hz.length];exact qaN O mil,q _ _ U (E.append hz) (λb z=>nomatch z)⟩
   ·cases p
 ·match ws,h with
  |[.d (.lst xs)],h=>
   simp only[qg]at h;split at h
   ·cases h;rfl
   ·cases h
end
end L2
namespace L2
open PySem PySem.Spec PyProof.Rows
open Classical in
def jj (n:Nat) (all:List D) (g:Tg) (body:Sf):List D->Ev->Sto->Option Fl
 |[],env,st=>if lg st n=some all then some (.nx env st) else none
 | d::ds,env,st=>if lg st n=some all then ((cx g (.d d) env).bind λe=>(body e st).bind λr=>match r with
  |.nx e s=>jj n all g body ds e s
  |.ct e s=>jj n all g body ds e s
  |.bk e s=>some (.nx e s)
  |.rt w s=>some (.rt w s)) else none
def pR (a:Ef) (g:Tg) (body:Sf):Sf
 |env,st=>(a env st).bind λr=>match r.1 with
  |.h n=>(lg r.2 n).bind λds=>jj n ds g body ds env r.2
  |.d (.tup ds)=>bH g body ds env r.2
  |.d (.lst ds)=>bH g body ds env r.2
  |_=>none
section
variable {K:qae}{X:Cx}{pos:Pos}{Q:Expr}
theorem ms (he:IE K X iter R) (M:II K X Q iter (aA R)) (hg:PG X Q (tG K g)) (hb:ISs K X body E) (hp:qg5 (model X.prog X.w) X.A X.env X.xe) (hc:X.calm=true:=by rfl)
  (W:∀ x,qbE iter X.env x=pure x:=by intro _;rfl) (hK:X.K=K:=by rfl):IS K X (.For Q iter body [] pos) (pR R g E) :=by
 refine⟨λenv st r l=>?_⟩;simp only[pR,qab]at l;obtain⟨⟨x,s1⟩,hx,l⟩:=l;cases x with
 |d x=>
  refine (nY M hg hb hp hc W).run env st r ?_;cases x with
  |tup ds=>simp only[dq,aA,hx,qac];exact l
  |lst ds=>simp only[dq,aA,hx,qac];exact l
  |_=>cases l
 |h n=>
  simp only[qab]at l;obtain⟨ds,S,l⟩:=l;refine (AL hp hc (xz he hK hx S) hg hb.any W).imp ?_
  rintro D C H ⟨φ,hE,hS,q⟩
  refine⟨φ,hE,hS,λJ H1 u G S1 yl=>?_⟩;refine⟨λi m C H=>m=ds.length - i/\i<=ds.length/\∃ env st a,Fw u a H1 H/\Er K H a env C/\Sr K H a st/\jj n ds g E (ds.drop i) env st=some r,⟨ds.length,by simp,qbM _,env,s1,u,Fw.refl _ _,hE.fw hS G,S1,l⟩,?_⟩
  rintro i m C H2 ⟨rfl,hi,A,f,a,B,e2,S2,j⟩
  by_cases o:i<ds.length
  ·rw[qcg o]at j
   rw[jj]at j;by_cases b:lg f n=some ds
   ·rw[iFP b]at j
    obtain⟨Y,V⟩:=yl H2 a f i B S2 b;obtain⟨go,yld⟩:=Y ds[i] (qai o);simp only[qab]at j;obtain⟨e3,T,r3,P,L⟩:=j;refine .inr ⟨go,λt H'=>i+1<=ds.length/\∃ env st a,Fw u a H1 H'/\Er K H' a env t/\Sr K H' a st/\jj n ds g E (ds.drop (i+1)) env st=some r,λt H' ⟨hn,p'⟩=>⟨ds.length - (i+1),by lia,U,hn,p'⟩,λx H' y=>?_⟩;obtain⟨N,rx⟩:=yld x H' y;have S3:=S2.same N;have I:=B.trans (Fw.same (φ:=a) N);refine⟨a,f,A,.d ds[i],e3,e2.fw S2 (Fw.same N),S3,rx,T,λt e' _=>?_⟩;refine⟨e3,f,r3,P,a,e',S3,?_⟩;cases r3 with
    |nx F z=>exact λs H4 e p k c=>⟨o,F,z,e,I.trans p,k,c,L⟩
    |ct F z=>exact λs H4 e p k c=>⟨o,F,z,e,I.trans p,k,c,L⟩
    |bk F z=>
     cases L;exact λs H4 e p k c=>q s H4 e (G.trans (I.trans p)) k c
    |rt w z=>
     cases L;exact λv H4 e p c w4=>q v H4 e (G.trans (I.trans p)) c w4
   ·rw[iFN b]at j;cases j
  ·have O:i=ds.length:=by lia
   subst O;rw[qeJ,jj]at j;by_cases b:lg f n=some ds
   ·rw[iFP b]at j
    cases j;obtain⟨Y,V⟩:=yl H2 a f ds.length B S2 b;exact .inl ⟨V U,q C H2 a (G.trans B) e2 S2⟩
   ·rw[iFN b]at j;cases j
end
section
variable {prog:qaO}{w:World}{A:qa1}{s:qal}{I l S:Addr}{items:Array Value}{ns:List Int}{G:List (Str×Value)}{R:qhw->qal->Prop}
theorem Ci (P:A.handled=none) (hi:qcz items.toList ns) (u:S≠I) (D:l≠I) (H:l≠S):∀ (g) (j) (s) (m) (t) (c),ns.drop j=g->s.heap.IsTupleIter I l j->s.heap.IsTuple l items->
  s.heap.get? S=some { cls:=.type "list",dict:=none,data:=.seq #[.int m t,.int m t] c,slots:=#[] }->
  (∀ t' h',(∀ b o,b≠I->b≠S->s.heap.get? b=some o->h'.get? b=some o)->R (.ok (.ret (.int (fZ g m) t'))) { s with heap:=h' })->qdQ (model prog w) A (.builtin "max.loop" ⟨[.ref I,.none,.ref S],G⟩) R s :=by
 have a:(toString "max"++toString ".loop" : String) = "max.loop":=by decide
 intro g
 induction g with
 |nil=>
  intro j s m t c hd C B J L;have hn:ns[j]?=none:=by
   rw[qa2]
   have:=congrArg qfg hd
   simp at this;lia
  refine qcY qdy ?_;rw[qcB qbD _];show wpAny _ A.in1 (qgZ (.ref S) >>= _) _ _ s;refine qaa (qbb J U ?_);show wpAny _ A.in1 (tryCatch (qeR (.ref I)) _ >>= _) _ _ s;refine qaa (qct (qfa P C B (jQ hi hn) λV x=>?_));show wpAny _ A.in1 (qia S (λ_=>#[]) >>= _) _ _ _;refine qaa (qcW (x _ _ u J) U (qaa (qcd (qam ?_))));exact L t _ λb o i p q=>(qaQ _ _ (qbp p)).trans (x _ _ i q)
 |cons n g ih=>
  intro j s m t c hd C B J L;have hn:ns[j]?=some n:=by
   have:=congrArg (λl=>l[0]?) hd
   simpa using this
  have W:ns.drop (j+1)=g:=by
   have:=congrArg (qlC 1) hd
   simpa [qiA,qe5] using this
  obtain⟨K,hx⟩:=jR hi hn;refine qcY qdy ?_;rw[qcB qbD _];show wpAny _ A.in1 (qgZ (.ref S) >>= _) _ _ s;refine qaa (qbb J U ?_);show wpAny _ A.in1 (tryCatch (qeR (.ref I)) _ >>= _) _ _ s;refine qaa (qct (qe1 C B hx λV y s1=>?_));have x:=s1.extBut;have z:=x _ _ u J;show wpAny _ A.in1 (tryCatch (qfP [.int n K,.int n K] (richCompare .Gt (.int n K) (.int m t) >>= _)) _ >>= _) _ _ _;refine qaa (qct (qb4 (qaa (qgk ?_))));refine qaa (qb4 (qcu ?_));refine qaa (qcd (qam ?_));by_cases hb:n > m
  ·have M:decide (n > m)=true:=by simp[hb]
   rw[M];simp only[if_true];refine qaa (qcW z U (qaa (qcd ?_)));rw[a];refine qam ⟨qdm qbD _,ih (j+1) _ n K _ W (y.at λo q=>(qaQ _ _ u).trans q) (Heap.IsTuple.at B λo q=>(qaQ _ _ (qbp H)).trans (x _ _ D q)) (qb3 _ z U) λt' h' k=>?_⟩
   have:=L t' h' λb o i p q=>k b o i p ((qaQ _ _ (qbp p)).trans (x _ _ i q))
   rw[fZ,iFP hb]at this;exact this
  ·have M:decide (n > m)=false:=by simp[hb]
   rw[M];simp only[qbs,if_false];refine qaa (qcd ?_);rw[a];refine qam ⟨qdm qbD _,ih (j+1) _ m t c W y (Heap.IsTuple.at B λo q=>x _ _ D q) z λt' h' k=>?_⟩
   have:=L t' h' λb o i p q=>k b o i p (x _ _ i q)
   rw[fZ,iFN hb]at this;exact this
variable {E:Value->qal->Prop}
theorem vP (P:A.handled=none) (hi:qcz items.toList ns) (u:S≠I) (D:l≠I) (H:l≠S) (C:s.heap.IsTupleIter I l 0) (B:s.heap.IsTuple l items) (J:s.heap.get? S=some { cls:=.type "list",dict:=none,data:=.seq #[] c,slots:=#[] })
  (L:∀ v h',(∀ b o,b≠I->b≠S->s.heap.get? b=some o->h'.get? b=some o)->(∀ n r,ns=n::r->∃ t,v=.int (fZ r n) t)->(ns=[]->∃ k,G=[(k,v)])->R (.ok (.ret v)) { s with heap:=h' })
  (h0:ns=[]->∃ k v,G=[(k,v)]):qdQ (model prog w) A (.builtin "max.loop" ⟨[.ref I,.none,.ref S],G⟩) R s :=by
 have a:(toString "max"++toString ".loop" : String) = "max.loop":=by decide
 refine qcY qdy ?_;rw[qcB qbD _];show wpAny _ A.in1 (qgZ (.ref S) >>= _) _ _ s;refine qaa (qbb J U ?_);show wpAny _ A.in1 (tryCatch (qeR (.ref I)) _ >>= _) _ _ s;cases hn:ns with
 |nil=>
  obtain⟨k,v,rfl⟩:=h0 hn;refine qaa (qct (qfa P C B (jQ hi (j:=0) (by rw[hn];rfl)) λV x=>?_));refine qaa (qcX (qam ?_));exact L v _ (λb o i _ q=>x _ _ i q) (λn r e=>by rw[hn]at e;cases e) λ_=>⟨k,U⟩
 |cons n g=>
  obtain⟨K,hx⟩:=jR hi (j:=0) (n:=n) (by rw[hn];rfl);refine qaa (qct (qe1 C B hx λV y s1=>?_));have x:=s1.extBut;have z:=x _ _ u J;show wpAny _ A.in1 (qia S (λ_=>#[.int n K,.int n K]) >>= _) _ _ _;refine qaa (qcW z U ?_);rw[a];refine qam ⟨qdm qbD _,Ci P hi u D H g 1 _ n K _ (by rw[hn];rfl) (y.at λo q=>(qaQ _ _ u).trans q) (Heap.IsTuple.at B λo q=>(qaQ _ _ (qbp H)).trans (x _ _ D q)) (qb3 _ z U) λt' h' k=>?_⟩;exact L _ h' (λb o i p q=>k b o i p ((qaQ _ _ (qbp p)).trans (x _ _ i q))) (λn' r' e=>by rw[hn]at e;cases e;exact⟨t',U⟩) λe=>by rw[hn]at e;cases e
theorem pk (P:A.handled=none) (hi:qcz items.toList ns) (B:s.heap.IsTuple l items) (O:G=[]\/∃ v,G=[(qcp "default",v)]) (h0:ns=[]->G≠[])
  (h:∀ v h',(∀ b o,s.heap.get? b=some o->h'.get? b=some o)->(∀ n r,ns=n::r->∃ t,v=.int (fZ r n) t)->(ns=[]->∃ k,G=[(k,v)])->Q v { s with heap:=h' }) :
  wpAny (model prog w) A (call (.builtin "max") [.ref l] G) Q E s :=by
 have a:(toString "max"++toString ".loop" : String) = "max.loop":=by decide
 have T:l<s.heap.objs.size:=by obtain⟨_,e,_⟩:=B;exact qax e
 have N:(s.heap.push { cls:=.type "tuple_iterator",data:=.fields #[.ref l,.int 0 0] }).objs.size=s.heap.objs.size+1:=qa5 ..
 have fin:∀ Y:List Value,G=Y.map (λd=>((qcp "default",d):Str×Value))->wpAny (model prog w) A.in1 (do
   let it <-qid (.ref l)
   let b <-newList []
   qi9 (.builtin "max.loop" ⟨[it,.none,b],Y.map λd=>(qcp "default",d)⟩)) (λfin s'=>match fin with
   |.done f=>(match (Except.ok f:qhw) with|.ok (.ret v)=>Q v s'|.ok _=>False|.error e=>E e s')
   |.again c'=>c'.quiet=true/\qdQ (model prog w) A c' (λr s'=>match r with|.ok (.ret v)=>Q v s'|.ok _=>False|.error e=>E e s') s') E s:=λY X=>by
  refine qaa (qcG B (qaa (qb5 ?_)));refine qam ⟨qdm qbD _,?_⟩;rw[<-X];refine vP (S:=(s.heap.push { cls:=.type "tuple_iterator",data:=.fields #[.ref l,.int 0 0] }).objs.size) (I:=s.heap.objs.size) (l:=l) P hi (by rw[N];exact qeN _) (qaC T) (by rw[N];exact qaC (qa0 T))
   ⟨_,qaf _ (qar _ U),U,U⟩ (Heap.IsTuple.at B λo q=>qaf _ (qaf _ q)) (qar _ U) (λv h' k V h2=>?_) (λe=>?_)
  ·refine h v h' (λb o q=>?_) V h2
   have hb:=qax q;exact k b o (qaC hb) (by rw[N];exact qaC (qa0 hb)) (qaf _ (qaf _ q))
  ·rcases O with O|⟨v,O⟩
   ·exact absurd O (h0 e)
   ·exact⟨_,v,O⟩
 rcases O with rfl|⟨v,rfl⟩
 ·refine dj qhg qgO qgQ (F.args_max1 _) ?_
  show wpAny _ A.in1 (qcP "max" ["key","default"] 0 ⟨[],[]⟩ >>= _) _ _ s
  refine qaa (qgV (show qcP "max" ["key","default"] 0 ⟨[],[]⟩=pure [none,none] from U) ?_)
  refine qaa (qam ?_)
  have:=fin [] U
  rw[<-a]at this;exact this
 ·refine dj qhg qgO qgQ (pG _ _) ?_
  show wpAny _ A.in1 (qcP "max" ["key","default"] 0 ⟨[],[(qcp "default",v)]⟩ >>= _) _ _ s
  refine qaa (qgV (show qcP "max" ["key","default"] 0 ⟨[],[(qcp "default",v)]⟩=pure [none,some v] from by kernel_rfl) ?_)
  refine qaa (qam ?_)
  have:=fin [v] U
  rw[<-a]at this;exact this
end
def yk (st:Sto) (ws:List W):Option D:=match ws with
 |[.d (.tup ds)]=>(a5 ds).bind λns=>(wZ ns none).map D.int
 |ws=>dMx st ws
section
variable {K:qae}{X:Cx}
theorem qH (f:X.calm=true:=by rfl):cP K X (.builtin "max") yk:=by
 refine⟨λst ws d h=>?_⟩;unfold yk at h;split at h
 next ds=>
  obtain⟨ns,i,h⟩:=qab.mp h;obtain⟨r,a,rfl⟩:=qad.mp h;cases bv i;intro c s w H xs A Q I b q;obtain⟨φ,S,⟨v,x,rfl,⟨ad,y,rfl,o,k⟩,rfl⟩,q⟩:=q;cases k.ints;obtain⟨u,rfl,l⟩:=fJ b;cases l;obtain⟨z,its,b,p⟩:=(show bW X.prog X.w H s.heap ad (.tup (ns.map V.int)) from I.hok ad _ o);have pt:s.heap.IsTuple ad its.toArray:=p.tup;refine pk (items:=its.toArray) (ns:=ns) (I.ok.hd f) (by simpa using dN b) pt (.inl U) (λe=>by rw[e]at a;cases a) λv h' kp j a2=>?_;have m:∃ t,v=.int r t:=by
   cases hn:ns with
   |nil=>rw[hn]at a;cases a
   |cons n g=>rw[hn]at a;cases a;exact j n g hn
  exact⟨.int r,H,I.kept kp,m,q _ H (aP.refl H) U⟩
 ·exact (F6 (K:=K) (X:=X) f).run st ws d h
end
mutual
def toP:D->PyData
 |.non=>.none
 |.bl b=>.bool b
 |.int i=>.int i
 |.str x=>.str x
 |.tup ds=>.tuple (iU ds)
 |.lst ds=>.list (iU ds)
 |_=>.none
def iU:List D->List PyData
 |[]=>[]
 |d::ds=>toP d::iU ds
end
mutual
def rpD:D->Bool
 |.non=>true
 |.bl _=>true
 |.int i=>decide (i.natAbs.log2<1920)
 |.str _=>true
 |.tup ds=>oO ds
 |.lst ds=>oO ds
 |_=>false
def oO:List D->Bool
 |[]=>true
 |d::ds=>rpD d&&oO ds
end
mutual
def wtD:D->Nat
 |.non=>10
 |.bl _=>10
 |.int _=>2000
 |.str x=>(reprText x).length
 |.tup ds=>uW ds+5
 |.lst ds=>uW ds+5
 |_=>0
def uW:List D->Nat
 |[]=>0
 |d::ds=>wtD d+2+uW ds
end
mutual
def dpD:D->Nat
 |.tup ds=>t4 ds+1
 |.lst ds=>t4 ds+1
 |_=>1
def t4:List D->Nat
 |[]=>0
 |d::ds=>max (dpD d) (t4 ds)
end
def qM (st:Sto):List W->Option D
 |[w]=>match w with
  |.d d=>if rpD d=true/\wtD d<=16000000/\dpD d<=50 then some (.str (toP d).shown) else none
  |.h _=>none
 |_=>none
theorem lH:∀ (a) (k) (acc),(textFrom k acc a).length<=acc.length+piled a
 |[],k,acc=>by show acc.length<=_;lia
 |t::r,k,acc=>by
  have h:=lH r (k+1) (acc++(if k > 0 then ", " else "" : String)++t)
  have e:(acc++(if k > 0 then ", " else "" : String)++t).length<=acc.length+2+t.length:=by
   rw[qdP,qdP]
   have:((if k > 0 then ", " else "" : String):Str).length<=2:=by split<;>decide
   lia
  rw[qi4];show (textFrom (k+1) _ r).length<=_;lia
theorem Bq (a):(qib a).length<=piled a+3 :=by
 have hz:(Str.join ", " a).length<=piled a:=by
  cases a with
  |nil=>exact qbM _
  |cons x r=>
   have:=qkg (x::r) (by simp)
   lia
 unfold qib;rw[qdP,qdP];have b:((if a.length==1 then ",)" else ")" : String):Str).length<=2:=by split<;>decide
 have c:((("(" : String):Str)).length=1:=rfl
 lia
theorem Cc (a):(listText a).length<=piled a+2 :=by
 have h:=lH a 0 "["
 unfold listText;rw[qdP];have b:((("[" : String):Str)).length=1:=rfl
 have c:((("]" : String):Str)).length=1:=rfl
 lia
mutual
theorem uL:∀ d:D,rpD d=true->(toP d).shown.length<=wtD d
 |.non,_=>by rw[toP,wtD];decide
 |.bl b,_=>by rw[toP,wtD];cases b<;>decide
 |.int i,h=>by
  rw[rpD,decide_eq_true_eq]at h;rw[toP,wtD,qfF]
  have:=int_text_length_le (k:=1920) (by decide) h
  rw[qg3];lia
 |.str x,_=>by rw[toP,wtD,qfF];exact qao _
 |.tup ds,h=>by
  rw[rpD]at h;rw[toP,wtD,qfF]
  have:=k8 ds h
  have:=Bq (qbU (iU ds))
  lia
 |.lst ds,h=>by
  rw[rpD]at h;rw[toP,wtD,qfF]
  have:=k8 ds h
  have:=Cc (qbU (iU ds))
  lia
 |.ty _,h=>by simp[rpD]at h
 |.dct,h=>by simp[rpD]at h
 |.scr _,h=>by simp[rpD]at h
theorem k8:∀ ds:List D,oO ds=true->piled (qbU (iU ds))<=uW ds
 |[],_=>by rw[iU,uW,qbU];exact qao _
 |d::ds,h=>by
  rw[oO,qaZ]at h;rw[iU,uW,qbU,qi4]
  have:=uL d h.1
  have:=k8 ds h.2
  lia
end
mutual
theorem wk:∀ d:D,rpD d=true->(toP d).showable=true/\(toP d).hasDict=false/\(toP d).depth<=dpD d
 |.non,_=>⟨U,U,by decide⟩
 |.bl b,_=>⟨U,U,by rw[toP,qdK];exact qbM _⟩
 |.int i,h=>by
  rw[rpD]at h;rw[toP];exact⟨h,U,by rw[qdK];exact qbM _⟩
 |.str x,_=>⟨U,U,by rw[toP,qdK];exact qbM _⟩
 |.tup ds,h=>by
  rw[rpD]at h;rw[toP,dpD,qh1,qii,qdK];obtain⟨a,b,c⟩:=mY ds h;exact⟨a,b,by lia⟩
 |.lst ds,h=>by
  rw[rpD]at h;rw[toP,dpD,qh1,qii,qdK];obtain⟨a,b,c⟩:=mY ds h;exact⟨a,b,by lia⟩
 |.ty _,h=>by simp[rpD]at h
 |.dct,h=>by simp[rpD]at h
 |.scr _,h=>by simp[rpD]at h
theorem mY:∀ ds:List D,oO ds=true->qea (iU ds)=true/\qej (iU ds)=false/\qdw (iU ds)<=t4 ds
 |[],_=>by rw[iU,t4];exact⟨U,U,by simp[qdw]⟩
 |d::ds,h=>by
  rw[oO,qaZ]at h;obtain⟨a,b,c⟩:=wk d h.1;obtain⟨f,e,g⟩:=mY ds h.2;rw[iU,t4,qea,qej,qdw,a,b,f,e];exact⟨U,U,by lia⟩
end
section
variable {K:qae}{X:Cx}{pins:List (Addr×Obj)}{σ:St}{H:Hp}{s:qal}{φ:List Addr}
mutual
theorem uI (I:Inv X pins σ H s):∀ (d:D) (v:V) (u:Value),rpD d=true->Rl X.K H φ d v->aM v u->∃ as,Reads s.heap u (toP d) as
 |.non,v,u,_,r,q=>by cases (show v=.non from r);cases q;exact⟨_,by rw[toP];exact .none⟩
 |.bl b,v,u,_,r,q=>by cases (show v=.bl b from r);cases q;exact⟨_,by rw[toP];exact .bool b⟩
 |.int i,v,u,_,r,q=>by cases (show v=.int i from r);obtain⟨t,rfl⟩:=q;exact⟨_,by rw[toP];exact .int i t⟩
 |.str x,v,u,_,r,q=>by cases (show v=.str x from r);obtain⟨t,rfl⟩:=q;exact⟨_,by rw[toP];exact .str x t⟩
 |.tup ds,v,u,h,r,q=>by
  rw[rpD]at h;obtain⟨a,vs,rfl,h1,h2⟩:=r;cases q;obtain⟨its,rv,⟨o,ho,hc,n,hd⟩,_⟩:=I.tuple (SqT.of h1);obtain⟨as,ra⟩:=k7 I ds vs its h h2 rv;exact⟨as,by rw[toP];exact .tuple ho hc hd (by simpa using ra)⟩
 |.lst ds,v,u,h,r,q=>by
  rw[rpD]at h;obtain⟨a,vs,rfl,_,h1,h2⟩:=r;cases q;obtain⟨its,rv,⟨o,n,ho,hc,hdd,hd⟩,_⟩:=I.list (.inl h1);obtain⟨as,ra⟩:=k7 I ds vs its h h2 rv;exact⟨a::as,by rw[toP];exact .list ho hc hd (by simpa using ra)⟩
 |.ty _,_,_,h,_,_=>by simp[rpD]at h
 |.dct,_,_,h,_,_=>by simp[rpD]at h
 |.scr _,_,_,h,_,_=>by simp[rpD]at h
theorem k7 (I:Inv X pins σ H s):∀ (ds:List D) (vs:List V) (us:List Value),oO ds=true->Rls X.K H φ ds vs->aG vs us->∃ as,ReadsAll s.heap us (iU ds) as
 |[],vs,us,_,r,q=>by cases r;cases q;exact⟨[],by rw[iU];exact .nil⟩
 |d::ds,vs,us,h,r,q=>by
  rw[oO,qaZ]at h;obtain⟨v,r',rfl,h1,h2⟩:=r;cases q with
  |cons q1 q2=>
   obtain⟨as,a1⟩:=uI I d v _ h.1 h1 q1;obtain⟨bs,a2⟩:=k7 I ds r' _ h.2 h2 q2;exact⟨as++bs,by rw[iU];exact .cons a1 a2⟩
end
end
def zA (st:Sto):List W->Option D
 |[.d (.tup ds)]=>qM st [.d (.tup ds)]
 |[.d (.lst ds)]=>qM st [.d (.lst ds)]
 |_=>none
theorem zx {K}(j:bj k X.A) (y:X.K=K:=by rfl):cP K X (.builtin "repr") zA :=by
 subst y;refine⟨λst ws d h=>?_⟩;have b:∀ x:D,(∀ (H:Hp) (φ:List Addr) v,Rl X.K H φ x v->∃ a,v=.ref a)->qM st [.d x]=some d->a7 X (.builtin "repr") (rCD X.K st [.d x] d):=by
  intro x hx h;simp only[qM]at h;split at h
  ·rename_i c
   cases h;intro i s A H xs E Q I t q;obtain⟨φ,S,⟨v,r,rfl,g,rfl⟩,q⟩:=q;obtain⟨u,rfl,f⟩:=fJ t;obtain⟨as,n⟩:=uI I x v u c.1 g f;obtain⟨a,rfl⟩:=hx H φ v g;cases f;obtain⟨w,p,B⟩:=wk x c.1;have C:=uL x c.1;have l:=j.units;refine qku n w (qhy p) j.gd (by lia) (λ_ _ e=>e) (λh' u m o=>⟨.str _,H,I.kept (t':=m) o,⟨u,U⟩,q _ H (aP.refl H) U⟩) ?_;rw[qcQ];lia
  ·cases h
 match ws,h with
 |[.d (.tup ds)],h=>exact b (.tup ds) (λH φ v ⟨a,z,e,_⟩=>⟨a,e⟩) h
 |[.d (.lst ds)],h=>exact b (.lst ds) (λH φ v ⟨a,z,e,_⟩=>⟨a,e⟩) h
def cB (st:Sto) (ws:List W):Option D:=match ws with
 |[.d (.int i)]=>wq st [.d (.int i)]
 |ws=>zA st ws
theorem jD {K}(b:bj k X.A) (a:X.K=K:=by rfl):cP K X (.builtin "repr") cB :=by
 refine⟨λst ws d h=>?_⟩;unfold cB at h;split at h
 ·exact (BM b a).run _ _ _ h
 ·exact (zx b a).run _ _ _ h
end L2
namespace L2
open PySem PySem.Spec PyProof.Rows
open PySem.AutoSeq1 (wpAny_loadPart')
namespace F3
theorem typeCall_zip_3 (a b c):checkTypeCall "zip" ⟨[a,b,c],[]⟩=pure () :=by kernel_rfl
theorem newCall_zip_3 (a b c):qjn "zip.__new__" ⟨[.type "zip",a,b,c],[]⟩=pure () :=by kernel_rfl
theorem args_object_init_4 (a b c d):qkk "object.__init__" ⟨[a,b,c,d],[]⟩ :=by
 unfold qkk;rw[signature?_of (id:="object.__init__") (n:=['_','_','t','i','n','i','_','_']) (o:=['t','c','e','j','b','o']) (by kernel_rfl) F.owner_object];kernel_rfl
end F3
abbrev ci (h:Heap) (T:Addr) (a b c:Value):Prop:=h.get? T=some { cls:=.type "tuple",data:=.seq #[a,b,c] }
structure zi (z TI TO i1 i2 i3 l1 l2 l3:Addr):Prop where
 TIz:TI≠z
 TOz:TO≠z
 i1z:i1≠z
 i2z:i2≠z
 i3z:i3≠z
 TITO:TI≠TO
 TIi1:TI≠i1
 TIi2:TI≠i2
 TIi3:TI≠i3
 TOi1:TO≠i1
 TOi2:TO≠i2
 TOi3:TO≠i3
 i12:i1≠i2
 i13:i1≠i3
 i23:i2≠i3
 l1z:l1≠z
 l2z:l2≠z
 l3z:l3≠z
 l2TO:l2≠TO
 l3TO:l3≠TO
 l2i1:l2≠i1
 l3i1:l3≠i1
 l3i2:l3≠i2
section
variable {prog:qaO}{w:World}{A:qa1}{E:Value->qal->Prop}{s:qal}{k k2 k3:Bool}
theorem bQ (hT:ci s.heap T a b c)
  (h:∀ h',h'.get? T=some { cls:=.type "tuple",data:=.seq ((#[a,b,c]).setIfInBounds j x) }->qdc T s.heap h'->Q () { s with heap:=h' }) :
  wpAny (model prog w) A (qia T (·.setIfInBounds j x)) Q E s :=by
 refine qcW hT U (h _ ?_ (qdb ..));rw[qb3 _ hT U];simp[qcv]
variable {z TI TO i1 i2 i3 l1 l2 l3:Addr}{n:Nat}{xs N O:Array Value}
structure ZS3 (k k2 k3:Bool) (z TI TO i1 i2 i3 l1 l2 l3:Addr) (f0:Value) (n:Nat) (h:Heap):Prop where
 z:IsZip h z TI TO f0
 ti:ci h TI (.ref i1) (.ref i2) (.ref i3)
 to:∃ a b c,ci h TO a b c
 t1:SIt k h i1 l1 n
 t2:SIt k2 h i2 l2 n
 t3:SIt k3 h i3 l3 n
set_option maxHeartbeats 1000000 in
theorem zf (D:zi z TI TO i1 i2 i3 l1 l2 l3) (hs:ZS3 k k2 k3 z TI TO i1 i2 i3 l1 l2 l3 .none n s.heap) (F:SIs k s.heap l1 xs) (G:SIs k2 s.heap l2 N) (H:SIs k3 s.heap l3 O) (hx:xs[n]?=some x) (hy:N[n]?=some y) (hv:O[n]?=some v)
  (hQ:∀ h',ZS3 k k2 k3 z TI TO i1 i2 i3 l1 l2 l3 (qfK s.heap.objs.size) (n+1) h'->ci h' s.heap.objs.size x y v->h'.objs.size=s.heap.objs.size+1->
    (∀ c o,c≠z->c≠TO->c≠i1->c≠i2->c≠i3->s.heap.get? c=some o->h'.get? c=some o)->Q (some (.ref s.heap.objs.size)) { s with heap:=h' }) :
  wpAny (model prog w) A (qeR (.ref z)) Q E s :=by
 obtain⟨hz,S,⟨a,b,W,hTO⟩,h1,h2,h3⟩:=hs;have hT:s.TypeIs (.ref z) "zip":=⟨_,hz,U⟩
 unfold qeR;refine qaa (qdO (qbx (name:=qcp "__next__") hT qcT (qbL qcT hT qe0 ?_ (qeL _))))
 show wpAny _ _ (field (.ref z) 2 >>= _) _ _ _;refine qaa (qby hz U (x:=.bool false) U ?_);show wpAny _ _ (field (.ref z) 3 >>= _) _ _ _;refine qaa (qby hz U (x:=.ref TI) U (qaa (qbb S U ?_)));show wpAny _ _ (qbQ (.ref z) >>= _) _ _ _;refine qaa ?_;unfold qbQ;refine qaa (qby hz U (x:=.none) U (qam ?_));simp only[if_true];refine qaa (qcX (qaa (qby hz U (x:=.ref TO) U ?_)));refine qaa (qbw hz (by simp) λg1 m s1=>?_);replace m:IsZip g1 z TI TO .ellipsis:=m;refine qaa ?_;simp only[qeI,qeW,qd8,qfc];have l:=s1.extBut;refine qaa (qaa (qcH ?_));show wpAny _ _ (qbh (.ref i1) >>= _) _ _ _;refine qaa (eM (h1.to λo q=>l _ o D.i1z q) (F.to λo q=>l _ o D.l1z q) hx λg2 h12 s2=>qam ?_);have p:=s2.extBut;have B:ci g2 TO a b W:=p _ _ D.TOi1 (l _ _ D.TOz hTO);refine qaa (qbb B U (qaa (bQ B λg3 i s3=>?_)));replace i:ci g3 TO x b W:=i;have r:=s3.extBut;refine qaa (qcd (qam ?_));refine qaa (qaa (qcH ?_));show wpAny _ _ (qbh (.ref i2) >>= _) _ _ _;refine qaa (eM (h2.to λo q=>r _ o D.TOi2.symm (p _ o D.i12.symm (l _ o D.i2z q))) (G.to λo q=>r _ o D.l2TO (p _ o D.l2i1 (l _ o D.l2z q))) hy λY h24 s4=>qam ?_);have K:=s4.extBut;have C:ci Y TO x b W:=K _ _ D.TOi2 i;refine qaa (qbb C U (qaa (bQ C λg5 I s5=>?_)));replace I:ci g5 TO x y W:=I;have L:=s5.extBut;refine qaa (qcd (qam ?_));refine qaa (qaa (qcH ?_));show wpAny _ _ (qbh (.ref i3) >>= _) _ _ _;refine qaa (eM (h3.to λo q=>L _ o D.TOi3.symm (K _ o D.i23.symm (r _ o D.TOi3.symm (p _ o D.i13.symm (l _ o D.i3z q))))) (H.to λo q=>L _ o D.l3TO (K _ o D.l3i2 (r _ o D.l3TO (p _ o D.l3i1 (l _ o D.l3z q))))) hv λg6 h36 s6=>qam ?_);have e6:=s6.extBut;have hTO6:ci g6 TO x y W:=e6 _ _ D.TOi3 I;refine qaa (qbb hTO6 U (qaa (bQ hTO6 λt J s7=>?_)));replace J:ci t TO x y v:=J;have e7:=s7.extBut;refine qaa (qcd (qam (qam ?_)));refine qaa (qbb J U (qaa (qhh ?_)));have hsz:t.objs.size=s.heap.objs.size:=by rw[s7.1,s6.1,s5.1,s4.1,s3.1,s2.1,s1.1]
 have kp:∀ c o,c≠z->c≠TO->c≠i1->c≠i2->c≠i3->s.heap.get? c=some o->t.get? c=some o:=λc o c1 c2 c3 c4 c5 e=>e7 _ _ c2 (e6 _ _ c5 (L _ _ c2 (K _ _ c4 (r _ _ c2 (p _ _ c3 (l _ _ c1 e))))));have hz7':IsZip t z TI TO .ellipsis:=e7 _ _ D.TOz.symm (e6 _ _ D.i3z.symm (L _ _ D.TOz.symm (K _ _ D.i2z.symm (r _ _ D.TOz.symm (p _ _ D.i1z.symm m)))));have h15:SIt k t i1 l1 (n+1):=h12.to λo q=>e7 _ o D.TOi1.symm (e6 _ o D.i13 (L _ o D.TOi1.symm (K _ o D.i12 (r _ o D.TOi1.symm q))));have h25:SIt k2 t i2 l2 (n+1):=h24.to λo q=>e7 _ o D.TOi2.symm (e6 _ o D.i23 (L _ o D.TOi2.symm q));have h35:SIt k3 t i3 l3 (n+1):=h36.to λo q=>e7 _ o D.TOi3.symm q;have hzlt:z<t.objs.size:=qax hz7';show wpAny _ _ (qce (.ref z) (.ref t.objs.size) >>= _) _ _ _;refine qaa ?_;unfold qce;have V:IsZip (t.push { cls:=.type "tuple",data:=.seq #[x,y,v] }) z TI TO .ellipsis:=qaf _ hz7'
 refine qaa (qbw V (by simp) λg8 hz8 s8=>?_);replace hz8:IsZip g8 z TI TO (qfK t.objs.size):=hz8;refine qbw hz8 (by simp) λg9 P s9=>?_;replace P:IsZip g9 z TI TO (qfK t.objs.size):=P;have up:∀ c o,c≠z->t.get? c=some o->g9.get? c=some o:=λc o c1 e=>s9.extBut _ _ c1 (s8.extBut _ _ c1 (qaf _ e));have hT9:ci g9 t.objs.size x y v:=s9.extBut _ _ (qca hzlt) (s8.extBut _ _ (qca hzlt) (qar _ U));have X:g9.objs.size=t.objs.size+1:=by rw[s9.1,s8.1,qa5]
 rw[hsz]at P hT9 X;refine qam ⟨_,U,qam ?_⟩;show Q (some (.ref t.objs.size)) _;rw[hsz];exact hQ g9 ⟨P,up _ _ D.TIz (kp _ _ D.TIz D.TITO D.TIi1 D.TIi2 D.TIi3 S),⟨_,_,_,up _ _ D.TOz J⟩,h15.to λo q=>up _ o D.i1z q,h25.to λo q=>up _ o D.i2z q,h35.to λo q=>up _ o D.i3z q⟩ hT9 X λc o c1 c2 c3 c4 c5 e=>up c o c1 (kp c o c1 c2 c3 c4 c5 e)
set_option maxHeartbeats 1000000 in
theorem Bz (hh:A.in1.handled=none) (D:zi z TI TO i1 i2 i3 l1 l2 l3) (hs:ZS3 k k2 k3 z TI TO i1 i2 i3 l1 l2 l3 .none n s.heap) (F:SIs k s.heap l1 xs) (G:SIs k2 s.heap l2 N) (H:SIs k3 s.heap l3 O) (hend:xs[n]?=none\/N[n]?=none\/O[n]?=none)
  (hQ:∀ h',(∀ c o,c≠z->c≠TO->c≠i1->c≠i2->c≠i3->s.heap.get? c=some o->h'.get? c=some o)->Q none { s with heap:=h' }):wpAny (model prog w) A (qeR (.ref z)) Q E s :=by
 obtain⟨hz,S,⟨a,b,W,hTO⟩,h1,h2,h3⟩:=hs;have hT:s.TypeIs (.ref z) "zip":=⟨_,hz,U⟩
 have fin:∀ (h':Heap) (e:Addr),(∀ c o,c≠z->c≠TO->c≠i1->c≠i2->c≠i3->s.heap.get? c=some o->h'.get? c=some o)->(∃ o,h'.get? e=some o/\o.cls=.type "StopIteration")->
   wpAny (model prog w) A (do if (<-isInstance (.ref e) (.type "StopIteration")) then pure none else throw (.ref e)) Q E { s with heap:=h' }:=λh' e hk ⟨o,ho,hc⟩=>
  qaa (qgH (T:="StopIteration") (b:=true) ⟨o,ho,hc⟩ qhk (qam (hQ _ hk)))
 unfold qeR;refine qaa (qdO (qbx (name:=qcp "__next__") hT qcT (qbL qcT hT qe0 ?_ (qeL _))))
 show wpAny _ _ (field (.ref z) 2 >>= _) _ _ _;refine qaa (qby hz U (x:=.bool false) U ?_);show wpAny _ _ (field (.ref z) 3 >>= _) _ _ _;refine qaa (qby hz U (x:=.ref TI) U (qaa (qbb S U ?_)));show wpAny _ _ (qbQ (.ref z) >>= _) _ _ _;refine qaa ?_;unfold qbQ;refine qaa (qby hz U (x:=.none) U (qam ?_));simp only[if_true];refine qaa (qcX (qaa (qby hz U (x:=.ref TO) U ?_)));refine qaa (qbw hz (by simp) λg1 m s1=>?_);replace m:IsZip g1 z TI TO .ellipsis:=m;refine qaa ?_;simp only[qeI,qeW,qd8,qfc];have l:=s1.extBut;refine qaa (qaa (qcH ?_));show wpAny _ _ (qbh (.ref i1) >>= _) _ _ _;cases hx:xs[n]? with
 |none=>
  refine qaa (oA hh (h1.to λo q=>l _ o D.i1z q) (F.to λo q=>l _ o D.l1z q) hx λg2 e s2 he=>?_);obtain⟨oe,f,u⟩:=he;have hz2:IsZip g2 z TI TO .ellipsis:=s2 _ _ D.i1z.symm m;have M:e≠z:=λx=>by subst x;rw[hz2]at f;cases f;simp at u
  exact qbw hz2 (by simp) λg3 _ s3=>fin g3 e (λc o c1 _ c3 _ _ x=>s3.extBut _ _ c1 (s2 _ _ c3 (l _ _ c1 x))) ⟨oe,s3.extBut _ _ M f,u⟩
 |some x=>
  refine qaa (eM (h1.to λo q=>l _ o D.i1z q) (F.to λo q=>l _ o D.l1z q) hx λg2 h12 s2=>qam ?_);have p:=s2.extBut;have B:ci g2 TO a b W:=p _ _ D.TOi1 (l _ _ D.TOz hTO);refine qaa (qbb B U (qaa (bQ B λg3 i s3=>?_)));replace i:ci g3 TO x b W:=i;have r:=s3.extBut;refine qaa (qcd (qam ?_));refine qaa (qaa (qcH ?_));show wpAny _ _ (qbh (.ref i2) >>= _) _ _ _;cases hy:N[n]? with
  |none=>
   refine qaa (oA hh (h2.to λo q=>r _ o D.TOi2.symm (p _ o D.i12.symm (l _ o D.i2z q))) (G.to λo q=>r _ o D.l2TO (p _ o D.l2i1 (l _ o D.l2z q))) hy λY e s4 he=>?_);obtain⟨oe,f,u⟩:=he;have hz4:IsZip Y z TI TO .ellipsis:=s4 _ _ D.i2z.symm (r _ _ D.TOz.symm (p _ _ D.i1z.symm m));have M:e≠z:=λx=>by subst x;rw[hz4]at f;cases f;simp at u
   exact qbw hz4 (by simp) λg5 _ s5=>fin g5 e (λc o c1 c2 c3 c4 _ x=>s5.extBut _ _ c1 (s4 _ _ c4 (r _ _ c2 (p _ _ c3 (l _ _ c1 x))))) ⟨oe,s5.extBut _ _ M f,u⟩
  |some y=>
   have hv:O[n]?=none:=by rcases hend with h|h|h<;>first|exact h|(rw[hx]at h;cases h)|(rw[hy]at h;cases h)
   refine qaa (eM (h2.to λo q=>r _ o D.TOi2.symm (p _ o D.i12.symm (l _ o D.i2z q))) (G.to λo q=>r _ o D.l2TO (p _ o D.l2i1 (l _ o D.l2z q))) hy λY h24 s4=>qam ?_);have K:=s4.extBut;have C:ci Y TO x b W:=K _ _ D.TOi2 i;refine qaa (qbb C U (qaa (bQ C λg5 I s5=>?_)));have L:=s5.extBut;refine qaa (qcd (qam ?_));refine qaa (qaa (qcH ?_));show wpAny _ _ (qbh (.ref i3) >>= _) _ _ _;refine qaa (oA hh (h3.to λo q=>L _ o D.TOi3.symm (K _ o D.i23.symm (r _ o D.TOi3.symm (p _ o D.i13.symm (l _ o D.i3z q))))) (H.to λo q=>L _ o D.l3TO (K _ o D.l3i2 (r _ o D.l3TO (p _ o D.l3i1 (l _ o D.l3z q))))) hv λg6 e s6 he=>?_);obtain⟨oe,f,u⟩:=he;have V:IsZip g6 z TI TO .ellipsis:=s6 _ _ D.i3z.symm (L _ _ D.TOz.symm (K _ _ D.i2z.symm (r _ _ D.TOz.symm (p _ _ D.i1z.symm m))));have M:e≠z:=λx=>by subst x;rw[V]at f;cases f;simp at u
   exact qbw V (by simp) λt _ s7=>fin t e (λc o c1 c2 c3 c4 c5 x=>s7.extBut _ _ c1 (s6 _ _ c5 (L _ _ c2 (K _ _ c4 (r _ _ c2 (p _ _ c3 (l _ _ c1 x))))))) ⟨oe,s7.extBut _ _ M f,u⟩
abbrev yH3 (k k2 k3:Bool) (h:Heap) (l1 l2 l3:Addr):Heap:=(zH2 k k2 h l1 l2).push (gr k3 l3)
abbrev yH4 (k k2 k3:Bool) (h:Heap) (l1 l2 l3:Addr):Heap:=(yH3 k k2 k3 h l1 l2 l3).push { cls:=.type "tuple",data:=.seq #[.ref h.objs.size,.ref (zH1 k h l1).objs.size,.ref (zH2 k k2 h l1 l2).objs.size] }
abbrev yH5 (k k2 k3:Bool) (h:Heap) (l1 l2 l3:Addr):Heap:=(yH4 k k2 k3 h l1 l2 l3).push { cls:=.type "tuple",data:=.seq #[.none,.none,.none] }
abbrev yH6 (k k2 k3:Bool) (h:Heap) (l1 l2 l3:Addr):Heap:=(yH5 k k2 k3 h l1 l2 l3).push { cls:=.type "zip",data:=.fields #[.none,.bool false,.bool false,.ref (yH3 k k2 k3 h l1 l2 l3).objs.size,.ref (yH4 k k2 k3 h l1 l2 l3).objs.size] }
set_option maxHeartbeats 4000000 in
theorem vQ (l1 l2 l3) (xs N O) (k k2 k3) :
  Meets (qe6.«zip.__new__» ⟨[.type "zip",.ref l1,.ref l2,.ref l3],[]⟩) (λ_ R s=>SIs k s.heap l1 xs/\SIs k2 s.heap l2 N/\SIs k3 s.heap l3 O/\R (.ok (.ret (.ref (yH5 k k2 k3 s.heap l1 l2 l3).objs.size))) { s with heap:=yH6 k k2 k3 s.heap l1 l2 l3 }) :=
 .of_wp λprog w A R s h=>by
  obtain⟨hp,g,d,tk,os⟩:=s;obtain⟨F,G,H,h⟩:=h;have hsub:=sub_zip;have hL1:SIs k (qf0 ⟨hp,g,d,tk,os⟩) l1 xs:=F;have hL2:SIs k2 (qf0 ⟨hp.push (gr k l1),g,d,tk,os⟩) l2 N:=G.to λo q=>qaf _ q;have hL3:SIs k3 (qf0 ⟨(hp.push (gr k l1)).push (gr k2 l2),g,d,tk,os⟩) l3 O:=H.to λo q=>qaf _ (qaf _ q)
  wp_walk using gW hL1,gW hL2,gW hL3
  exact⟨_,U,h⟩
theorem yj (F:SIs k s.heap l1 xs) (G:SIs k2 s.heap l2 N) (H:SIs k3 s.heap l3 O)
  (h:∀ h',ZS3 k k2 k3 (s.heap.objs.size+5) (s.heap.objs.size+3) (s.heap.objs.size+4) s.heap.objs.size (s.heap.objs.size+1) (s.heap.objs.size+2) l1 l2 l3 .none 0 h'->
    (∀ c o,s.heap.get? c=some o->h'.get? c=some o)->Q (.ref (s.heap.objs.size+5)) { s with heap:=h' }) :
  wpAny (model prog w) A (call (.type "zip") [.ref l1,.ref l2,.ref l3]) Q E s :=by
 refine qif qlD (by decide) (F3.typeCall_zip_3 _ _ _) (F3.newCall_zip_3 _ _ _) (λobj=>F3.args_object_init_4 obj _ _ _) qje (vQ l1 l2 l3 xs N O k k2 k3) ⟨F,G,H,?_⟩;have z1:(zH1 k s.heap l1).objs.size=s.heap.objs.size+1:=qa5 ..;have z2:(zH2 k k2 s.heap l1 l2).objs.size=s.heap.objs.size+2:=by rw[qa5,z1]
 have z3:(yH3 k k2 k3 s.heap l1 l2 l3).objs.size=s.heap.objs.size+3:=by rw[qa5,z2]
 have z4:(yH4 k k2 k3 s.heap l1 l2 l3).objs.size=s.heap.objs.size+4:=by rw[qa5,z3]
 have z5:(yH5 k k2 k3 s.heap l1 l2 l3).objs.size=s.heap.objs.size+5:=by rw[qa5,z4]
 have up:∀ {h:Heap}{o':Obj}{c:Addr}{o:Obj},h.get? c=some o->(h.push o').get? c=some o:=λe=>qaf _ e;have g6:(yH6 k k2 k3 s.heap l1 l2 l3).get? (yH5 k k2 k3 s.heap l1 l2 l3).objs.size=some _:=qar _ U;have g5:(yH6 k k2 k3 s.heap l1 l2 l3).get? (yH4 k k2 k3 s.heap l1 l2 l3).objs.size=some _:=up (qar _ U);have Y:(yH6 k k2 k3 s.heap l1 l2 l3).get? (yH3 k k2 k3 s.heap l1 l2 l3).objs.size=some _:=up (up (qar _ U));have g3:(yH6 k k2 k3 s.heap l1 l2 l3).get? (zH2 k k2 s.heap l1 l2).objs.size=some (gr k3 l3):=up (up (up (qar _ U)));have g2:(yH6 k k2 k3 s.heap l1 l2 l3).get? (zH1 k s.heap l1).objs.size=some (gr k2 l2):=up (up (up (up (qar _ U))));have g1:(yH6 k k2 k3 s.heap l1 l2 l3).get? s.heap.objs.size=some (gr k l1):=up (up (up (up (up (qar _ U)))));show _/\_;rw[z3,z4,z5]at g6;rw[z1,z2,z3]at Y;rw[z4]at g5;rw[z2]at g3;rw[z1]at g2;rw[z5];exact⟨⟨_,g6,U⟩,h _ ⟨g6,Y,⟨_,_,_,g5⟩,gU k g1,gU k2 g2,gU k3 g3⟩ λc o x=>up (up (up (up (up (up x)))))⟩
end
def DT (S1 S2 S3:Hp->List V->Prop):It:=
 ⟨λi H=>∃ xs b a x y v,S1 H xs/\S2 H b/\S3 H a/\xs[i]?=some x/\b[i]?=some y/\a[i]?=some v,λi H x H'=>∃ T v u t,(∀ xs,S1 H xs->xs[i]?=some v)/\(∀ b,S2 H b->b[i]?=some u)/\(∀ a,S3 H a->a[i]?=some t)/\H T=none/\x=.ref T/\H'=upd H T (.tup [v,u,t]),
  λi H=>∃ xs b a,S1 H xs/\S2 H b/\S3 H a/\(xs[i]?=none\/b[i]?=none\/a[i]?=none)⟩
theorem zc {K}{ TI TO   i3   } (D:zi z TI TO n A i3 l1 T Y) :
  tm P w K (.Tuple F kk pos) (DT (λH xs=>SqK k K H l1 xs) (λH xs=>SqK k2 K H T xs) λH xs=>SqK k3 K H Y xs) [z,TI,TO,n,A,i3] z (λi h=>ZS3 k k2 k3 z TI TO n A i3 l1 T Y .none i h)  where
 mem:=by simp
 obj:=λi h st b hb=>by
  simp only[qaw,qbd,or_false]at hb;rcases hb with rfl|rfl|rfl|rfl|rfl|rfl
  ·exact⟨_,st.z,λv z=>by cases z⟩
  ·exact⟨_,st.ti,λv z=>by cases z⟩
  ·obtain⟨a,b,c,e⟩:=st.to;exact⟨_,e,λv z=>by cases z⟩
  ·obtain⟨o,L,e,d⟩:=st.t1.live;exact⟨o,e,λv z=>by rw[d]at z;cases z⟩
  ·obtain⟨o,L,e,d⟩:=st.t2.live;exact⟨o,e,λv z=>by rw[d]at z;cases z⟩
  ·obtain⟨o,L,e,d⟩:=st.t3.live;exact⟨o,e,λv z=>by rw[d]at z;cases z⟩
 keep:=λi h h' st kp=>by
  obtain⟨a,b,c,e⟩:=st.to;exact⟨kp z (by simp) _ st.z,kp TI (by simp) _ st.ti,⟨a,b,c,kp TO (by simp) _ e⟩,st.t1.to λo q=>kp n (by simp) o q,st.t2.to λo q=>kp A (by simp) o q,st.t3.to λo q=>kp i3 (by simp) o q⟩
 item:=by
  intro X S hw R hc i m s σ H E I N st hg;subst S hw R;obtain⟨xs,ys,M,x,y,v0,j,g,l,hx,hy,J⟩:=hg;obtain⟨us,B,p1⟩:=I.seqK j;obtain⟨L,p,p2⟩:=I.seqK g;obtain⟨ws,r,Q⟩:=I.seqK l;obtain⟨u,hu,ru⟩:=B.get hx;obtain⟨v,hv,rv⟩:=p.get hy;obtain⟨t,ht,rt⟩:=r.get J;refine zf D st p1 p2 Q (x:=u) (y:=v) (v:=t) (by simpa using hu) (by simpa using hv) (by simpa using ht) λh1 f hT hsz kp=>⟨_,U,?_⟩;refine qhi f.z λV O s2=>?_;have C:=s2.extBut;obtain⟨c1,c2,c3,W⟩:=f.to;have nz:∀ b∈[z,TI,TO,n,A,i3],b≠s.heap.objs.size:=λb hb e=>by
   obtain⟨o,ho,_⟩:=(show ∃ o,s.heap.get? b=some o/\True by
    simp only[qaw,qbd,or_false]at hb;obtain⟨a',b',c',e'⟩:=st.to;obtain⟨o1,_,q1,_⟩:=st.t1.live;obtain⟨o2,_,q2,_⟩:=st.t2.live;obtain⟨o3,_,q3,_⟩:=st.t3.live;rcases hb with rfl|rfl|rfl|rfl|rfl|rfl
    ·exact⟨_,st.z,trivial⟩
    ·exact⟨_,st.ti,trivial⟩
    ·exact⟨_,e',trivial⟩
    ·exact⟨_,q1,trivial⟩
    ·exact⟨_,q2,trivial⟩
    ·exact⟨_,q3,trivial⟩)
   have:=qax ho
   rw[e]at this;exact qa4 _ this
  have hT2:dE V s.heap.objs.size #[u,v,t]:=⟨_,C _ _ (qbp (nz z (by simp))) hT,U,⟨_,U⟩,U⟩;refine⟨.ref s.heap.objs.size,upd H s.heap.objs.size (.tup [x,y,v0]),?_,U,⟨s.heap.objs.size,x,y,v0,λM hz=>by rw[I.seqK_inj hz j];exact hx,λM hz=>by rw[I.seqK_inj hz g];exact hy,λM hz=>by rw[I.seqK_inj hz l];exact J,I.hok.fresh (qao _),U,U⟩,?_,λb hb=>?_⟩
  ·have I2:Inv X m σ (upd H s.heap.objs.size (.tup [x,y,v0])) { s with heap:=V,toks:=s.toks }:=I.turnsT (fp:=[z,TI,TO,n,A,i3]) (h':=V) (t':=s.toks) (its:=#[u,v,t]) N (λb o hb q=>by
    simp only[qaw,qbd,or_false,not_or]at hb
    exact C b o hb.1 (kp b o hb.1 hb.2.2.1 hb.2.2.2.1 hb.2.2.2.2.1 hb.2.2.2.2.2 q)) (qao _) hT2 (.cons ru (.cons rv (.cons rt .nil))) (by show 3<=qaF;decide)
   exact I2
  ·exact⟨O,C _ _ D.TIz f.ti,⟨c1,c2,c3,C _ _ D.TOz W⟩,f.t1.to λo q=>C _ o D.i1z q,f.t2.to λo q=>C _ o D.i2z q,f.t3.to λo q=>C _ o D.i3z q⟩
  ·rw[upd_ne (nz b hb)];exact (N b hb).1
 done:=by
  intro X S hw R hc i m s σ H E I N st hg;subst S hw R;obtain⟨xs,ys,M,j,g,l,G⟩:=hg;obtain⟨us,B,p1⟩:=I.seqK j;obtain⟨L,p,p2⟩:=I.seqK g;obtain⟨ws,r,Q⟩:=I.seqK l;have hl1:=B.length;have hl2:=p.length;have hl3:=r.length
  refine Bz (I.ok.hd hc) D st p1 p2 Q (by
   rcases G with h|h|h
   ·left;rw[qa2]at h;simp;lia
   ·right;left;rw[qa2]at h;simp;lia
   ·right;right;rw[qa2]at h;simp;lia) λh' kp=>⟨U,I.turns (t':=s.toks) (fp:=[z,TI,TO,n,A,i3]) N λb o hb q=>?_⟩
  simp only[qaw,qbd,or_false,not_or]at hb;exact kp b o hb.1 hb.2.2.1 hb.2.2.2.1 hb.2.2.2.2.1 hb.2.2.2.2.2 q
 self:=λ_ _ _ _ _ st h=>qe7 st.z h
def Gp (K:qae) (k k2 k3:Bool) (f:TA):L2.TI:=λd H R=>f d H λe H1=>∃ a b c,e=[.ref a,.ref b,.ref c]/\(∃ xs,SqK k K H1 a xs)/\(∃ xs,SqK k2 K H1 b xs)/\(∃ xs,SqK k3 K H1 c xs)/\R (DT (λH xs=>SqK k K H a xs) (λH xs=>SqK k2 K H b xs) λH xs=>SqK k3 K H c xs) H1
theorem CJ {d}{N}{i}{p pos}{k k2 k3} (hg:Gl X "zip") (hm:X.mg "zip" = none) (E:PA X [a,b,c] z) (G:qbA [a,b,c] X.env=[(false,eval a X.env),(false,eval b X.env),(false,eval c X.env)]:=by rfl) (o:qbA [b,c] X.env=[(false,eval b X.env),(false,eval c X.env)]:=by rfl) (O:qbA [c] X.env=[(false,eval c X.env)]:=by rfl) :
  PI X (.Tuple d N i) (.Call (.Name "zip" p) [a,b,c] [] pos) (Gp X.K k k2 k3 z) :=by
 intro f s D H R I h;refine Call_ (hJ I hg hm boot_zip (qb0 (thn (E pos f s D H _ I h) λu s1 ⟨T,H1,I1,J,P⟩=>?_) (by rw[G,o]) (by rw[o];rfl)));obtain⟨l,m,n,e,⟨xs,L⟩,⟨W,w⟩,⟨V,y⟩,q⟩:=P;subst e;cases J with
 |cons r g=>
  cases g with
  |cons Q g=>
   cases g with
   |cons x g=>
    cases g;cases r;cases Q;cases x;obtain⟨u,S,p1⟩:=I1.seqK L;obtain⟨T,K,C⟩:=I1.seqK w;obtain⟨ws,M,A⟩:=I1.seqK y;have lt:∀ {k:Bool}{l:Addr}{u:Array Value},SIs k s1.heap l u->l<s1.heap.objs.size:=λ{k l u} B=>by
     cases k with
     |true=>obtain⟨_,v,_⟩:=B;exact qax v
     |false=>obtain⟨_,v,_⟩:=B;exact qax v
    have t1:=lt p1;have t2:=lt C;have t3:=lt A;refine yj p1 C A λh' j F=>qe7 j.z ?_;refine⟨_,[s1.heap.objs.size+5,s1.heap.objs.size+3,s1.heap.objs.size+4,s1.heap.objs.size,s1.heap.objs.size+1,s1.heap.objs.size+2],_,_,H1,U,I1.kept (t':=s1.toks) F,zc (by constructor<;>lia),j,λb hb=>?_,q⟩;have t:s1.heap.objs.size<=b:=by
     simp only[qaw,qbd,or_false]at hb;rcases hb with rfl|rfl|rfl|rfl|rfl|rfl
     ·exact qbZ _ 5
     ·exact qbZ _ 3
     ·exact qbZ _ 4
     ·exact qao _
     ·exact qbZ _ 1
     ·exact qbZ _ 2
    exact I1.fpOk t (I1.hok.fresh t)
def cz:List D->List D->List D->List D
 |d::ds,e::es,f::fs=>.tup [d,e,f]::cz ds es fs
 |_,_,_=>[]
def qV (d:Af):Lf
 |env,st=>(d env st).bind λr=>match r.1 with
  |[x,y,z]=>(y4 x).bind λa=>(y4 y).bind λb=>(y4 z).map λc=>(cz a.2 b.2 c.2,r.2)
  |_=>none
theorem lh:∀ (ds es fs) (i:Nat),(cz ds es fs)[i]?=(ds[i]?).bind λd=>(es[i]?).bind λe=>(fs[i]?).map λf=>D.tup [d,e,f]
 |[],es,fs,i=>by simp[cz]
 |d::ds,[],fs,i=>by cases i<;>simp[cz]
 |d::ds,e::es,[],i=>by cases i<;>simp[cz]
 |d::ds,e::es,f::fs,0=>by simp[cz]
 |d::ds,e::es,f::fs,i+1=>by simpa [cz] using lh ds es fs i
theorem li:∀ (ds es fs),(cz ds es fs).length=min ds.length (min es.length fs.length)
 |[],es,fs=>by simp[cz]
 |d::ds,[],fs=>by simp[cz]
 |d::ds,e::es,[]=>by simp[cz]
 |d::ds,e::es,f::fs=>by simp[cz,li ds es fs]
section
variable {K:qae}{X:Cx}{a b c:Expr}{pos:Pos}{af:Af}
theorem Dp {  C}(h1:∀ H' e,Fw φ e H H'->S1 H' n) (h2:∀ H' e,Fw φ e H H'->S2 H' j) (h3:∀ H' e,Fw φ e H H'->S3 H' C) (r1:∀ H' e,Fw φ e H H'->Rls K H' e ds n) (r2:∀ H' e,Fw φ e H H'->Rls K H' e es j) (r3:∀ H' e,Fw φ e H H'->Rls K H' e fs C) :
  Yl K φ H (DT S1 S2 S3) (cz ds es fs) :=by
 intro H2 g st2 i m M;have Y:=h1 H2 g m;have L:=h2 H2 g m;have q3:=h3 H2 g m;have E:=r1 H2 g m;have w2:=r2 H2 g m;have w3:=r3 H2 g m;refine⟨λd hd=>?_,λhi=>⟨n,j,C,Y,L,q3,?_⟩⟩
 ·rw[lh,qab]at hd
  obtain⟨d1,hd1,hd⟩:=hd;rw[qab]at hd;obtain⟨d2,hd2,hd⟩:=hd;obtain⟨d3,G,rfl⟩:=qad.mp hd;obtain⟨v,ev,rv⟩:=E.get hd1;obtain⟨u,eu,ru⟩:=w2.get hd2;obtain⟨t,et,rt⟩:=w3.get G;refine⟨⟨n,j,C,v,u,t,Y,L,q3,ev,eu,et⟩,λx H' y=>?_⟩;obtain⟨T,v',u',t',y1,y2,y3,F,rfl,rfl⟩:=y;have z1:=y1 n Y;have z2:=y2 j L;have z3:=y3 C q3;rw[ev]at z1;rw[eu]at z2;rw[et]at z3;cases z1;cases z2;cases z3;exact⟨aP.new F _,T,_,U,upd_same,_,_,U,rv.fw M (Fw.new F),_,_,U,ru.fw M (Fw.new F),_,_,U,rt.fw M (Fw.new F),U⟩
 ·rw[li]at hi
  have l1:=E.length;have l2:=w2.length;have l3:=w3.length;rw[qa2,qa2,qa2];lia
theorem ml {o}{k}{w p} (hg:Gl X "zip") (hm:X.mg "zip" = none) (ha:IA K X [a,b,c] af) (hs:aw a=true:=by rfl) (B:aw b=true:=by rfl) (l:aw c=true:=by rfl) (hK:X.K=K:=by rfl) :
  II K X (.Tuple o k w) (.Call (.Name "zip" p) [a,b,c] [] pos) (qV af) :=by
 subst hK;refine⟨λenv st r h=>?_⟩;simp only[qV,qab]at h;obtain⟨⟨ws,s1⟩,hy,h⟩:=h
 match ws,h with
 |[x,y,z],h=>
  simp only[qab,qad]at h;obtain⟨p1,I,p2,hp2,p3,Q,rfl⟩:=h;have J:qbA [a,b,c] X.env=[(false,eval a X.env),(false,eval b X.env),(false,eval c X.env)]:=by rw[aO hs,oT B l]
  refine (CJ (k:=p1.1) (k2:=p2.1) (k3:=p3.1) hg hm (ha.run _ _ _ hy) J (oT B l) (fI l)).imp ?_
  rintro σ H R ⟨φ,hE,hS,q⟩
  refine⟨φ,hE,hS,λn H1 φ1 f1 s1 E=>?_⟩;obtain⟨v,r,rfl,rx,v2,r',rfl,ry,v3,r'',rfl,rz,rfl⟩:=E;obtain⟨a,j,rfl,hq,P,h⟩:=kx rx I s1;obtain⟨b,S,rfl,hq2,A,W⟩:=kx ry hp2 s1;obtain⟨c,O,rfl,hq3,s,N⟩:=kx rz Q s1;exact⟨a,b,c,U,⟨j,hq⟩,⟨S,hq2⟩,⟨O,hq3⟩,q _ H1 φ1 f1 s1 (Dp P A s (λH' e f=>h.fw s1 f) (λH' e f=>W.fw s1 f) λH' e f=>N.fw s1 f)⟩
end
end L2
@[reducible]def Z(x:L2.D):Option L2.W:=some (.d x)
namespace Own
open PySem L2
noncomputable section
def fC:Sf:=(aB (.nm 1) (iOp aR (iV 1) (iC (.int 2))))
def ng:Sf:=(ag (aB (.nm 1) (iC (.int 1))) (ag (dq (bA (aa (iV 0) ae)) (.nm 2) fC) (aN (iV 1))))
def dU:Fn:=bz 3 1 ng
def BL:Sf:=(aN (iOp fk (iOp gN (iV 0) (az dU (aa (iV 1) ae))) (iC (.int 2))))
def se:Fn:=bz 2 2 BL
def d5:Tf:=(aE dNe (iV 3) (iC (.int 0)))
def eQ:Sf:=(ag (aB (.nm 4) (iOp fk (iV 1) (iV 3))) (ag (aB (.nm 1) (iV 3)) (aB (.nm 3) (iV 4))))
def eJ:Sf:=(ag (aB (.nm 3) (iCB vd (aa (iV 2) ae))) (qU (2^8000) d5 eQ))
def lQ:Sf:=(ag (aB (.nm 1) (iC (.int 0))) (ag (dq (aA (iV 0)) (.nm 2) eJ) (aN (iV 1))))
def bi:Fn:=bz 5 1 lQ
def t7:Ef:=(iOp qK (iV 0) (iV 1))
def ya:Sf:=(ag (aB (.nm 1) (az bi (aa (iV 0) ae))) (ag (bb (aE dEq (iV 1) (iC (.int 0))) (aN (iCB dk (aa (iV 0) ae))) aQ) (aN (iCB dk (aa (ap (iLc 1 [1] (aA (iV 0)) (.nm 0) aJ t7)) ae)))))
def cG:Fn:=bz 2 1 ya
def eW:Ef:=(iV 0)
def fg:Tf:=(aE tX (iV 1) (iC .non))
def lq:Sf:=(aN (iCB dk (aa (ap (iLc 2 [] (bN (aa (iV 0) ae)) (.tp [0,1]) fg eW)) ae)))
def bP:Fn:=bz 1 1 lq
def kB:Sf:=(aN (eY (aE dEq (iOp dIx (iV 0) (iV 1)) (iC (.int 1))) (iC (.int 1)) (iUn gA (iC (.int 1)))))
def dB:Fn:=bz 2 2 kB
def gP:Ef:=(iOp aZ (ap (iCL wV (aa (iV 0) ae))) (ap (bm (aa (iV 1) ae))))
def gQ:Ef:=(iUn gA (iV 0))
def bJ:List (Str×Ef):=[("amounts",(iCB aV (aa (iV 3) ae))),("lines",(ap (iLc 2 [] (cp (aa (iV 1) (aa (iV 2) ae))) (.tp [0,1]) aJ gP))),("goal",(iOp aZ (ap (iLc 1 [] (aA (iV 3)) (.nm 0) aJ gQ)) (ap (bm (aa (iC (.int 0)) ae))))),("part",(iC (.int 1))),("free",(bR (yw (aa (iCB aV (aa (iV 3) ae)) ae)))),("kept",(bR (qT (aa (iCB aV (aa (iV 3) ae)) (aa (iOp aZ (iCB aV (aa (iV 3) ae)) (iCB aV (aa (iV 1) ae))) ae)))))]
def aS:Sf:=(ag (bb (bX cb (iV 3)) (ag (aB (.nm 5) (iOp aR (iOp dIx (iV 1) (iV 4)) (iOp dIx (iV 2) (iOp dIx (iV 3) (iC (.int 0)))))) (ag (aB (.nm 6) (iOp aR (iOp dIx (iV 1) (iOp dIx (iV 3) (iC (.int 0)))) (iOp dIx (iV 2) (iV 4)))) (ag (bb (aE dGt (iV 5) (iV 6)) pQ aQ) (bb (aE dLt (iV 5) (iV 6)) (aB (.nm 3) (bR (bm ae))) aQ)))) aQ) (cT (de dw (iV 3) (aa (iV 4) ae))))
def iX:Sf:=(ag (aB (.nm 3) (bR (bm ae))) (ag (dq (aA (iV 0)) (.nm 4) aS) (aN (iV 3))))
def e8:Fn:=d8 7 3 iX
def yb:Sf:=(aN (iOp aZ (ap (bm (aa (iC .non) ae))) (ap (qT (aa (ay "amounts" (iV 0)) (aa (iOp aZ (ay "amounts" (iV 0)) (iCB aV (aa (ay "lines" (iV 0)) ae))) ae))))))
def dC:Fn:=bz 1 1 yb
def nu:Ef:=(eY (aE dEq (iV 0) (iV 1)) (ay "part" (iV 2)) (iC (.int 0)))
def nv:Ef:=(iOp dIx (iV 0) (iV 1))
def nw:Ef:=(iOp dIx (iV 0) (iUn gA (iC (.int 1))))
def fM:Sf:=(ag (bb (aE kD (iV 1) (iC .non)) (aN (ap (iLc 1 [] (aA (ay "lines" (iV 0))) (.nm 0) aJ nw))) aQ) (ag (bb (aE dIn (iV 1) (ay "free" (iV 0))) (ag (aB (.nm 2) (zO (ay "free" (iV 0)) (aa (iV 1) ae))) (aN (ap (iLc 1 [2] (aA (ay "lines" (iV 0))) (.nm 0) aJ nv)))) aQ) (aN (ap (iLc 1 [1,0] (aA (ay "kept" (iV 0))) (.nm 0) aJ nu)))))
def cr:Fn:=bz 3 2 fM
def eK:Sf:=(ag (bb (aE dLt (iCB aV (aa (iV 3) ae)) (iC (.int 2))) vk aQ) (aB (.nm 3) (az e8 (aa (iV 3) (aa (az cr (aa (iV 0) (aa (iV 4) ae))) (aa (iV 2) ae))))))
def t5:Ef:=(iV 0)
def uR:Tf:=(aE dGt (iV 1) (iC (.int 0)))
def t6:Ef:=(iOp dIx (iV 0) (iV 1))
def pH:Sf:=(ag (aB (.nm 2) (ap (iLc 1 [1] (aA (ay "lines" (iV 0))) (.nm 0) aJ t6))) (ag (aB (.nm 3) (ap (iLc 2 [] (bN (aa (iV 2) ae)) (.tp [0,1]) uR t5))) (ag (dq (aA (az dC (aa (iV 0) ae))) (.nm 4) eK) (aN (eY (bX cb (iV 3)) (iOp dIx (iV 3) (iC (.int 0))) (iC .non))))))
def iI:Fn:=bz 5 2 pH
def bO:Sf:=(ag (aB (.nm 6) (az cr (aa (iV 0) (aa (iV 5) ae)))) (ag (aB (.nm 7) (iOp gB (iOp aR (iV 4) (iOp dIx (iV 6) (iOp dIx (iV 2) (iC (.int 1))))) (iOp aR (iV 3) (iOp dIx (iV 6) (iOp dIx (iV 1) (iC (.int 1))))))) (bb (aE dNe (iV 7) (iC (.int 0))) (aN (iOp dGt (iV 7) (iC (.int 0)))) aQ)))
def qv:Sf:=(ag (aB (.nm 3) (iOp aR (iOp dIx (ay "goal" (iV 0)) (iOp dIx (iV 1) (iC (.int 0)))) (iOp dIx (iOp dIx (ay "lines" (iV 0)) (iOp dIx (iV 2) (iC (.int 1)))) (iOp dIx (iV 2) (iC (.int 0)))))) (ag (aB (.nm 4) (iOp aR (iOp dIx (ay "goal" (iV 0)) (iOp dIx (iV 2) (iC (.int 0)))) (iOp dIx (iOp dIx (ay "lines" (iV 0)) (iOp dIx (iV 1) (iC (.int 1)))) (iOp dIx (iV 1) (iC (.int 0)))))) (ag (dq (aA (az dC (aa (iV 0) ae))) (.nm 5) bO) (aN (iC (.bl false))))))
def bT:Fn:=bz 8 3 qv
def bK:Sf:=(ag (bb (aE dGe (iOp dIx (ay "goal" (iV 0)) (iV 2)) (iC (.int 0))) pQ aQ) (ag (aB (.nm 3) (a8 (aa (iV 2) (aa (az iI (aa (iV 0) (aa (iV 2) ae))) ae)))) (ag (bb (aE kD (iOp dIx (iV 3) (iC (.int 1))) (iC .non)) (aN (iV 3)) aQ) (bb (dM (aE kD (iV 1) (iC .non)) (bX cb (az bT (aa (iV 0) (aa (iV 3) (aa (iV 1) ae)))))) (aB (.nm 1) (iV 3)) aQ))))
def tL:Sf:=(ag (aB (.nm 1) (iC .non)) (ag (dq (bA (aa (iCB aV (aa (ay "free" (iV 0)) ae)) ae)) (.nm 2) bK) (aN (iV 1))))
def bF:Fn:=bz 4 1 tL
def kF:Ef:=(iOp qK (iOp gB (iOp aR (iV 2) (iV 0)) (iOp aR (iV 3) (iV 1))) (iV 4))
def wm:Sf:=(ag (aB (.nm 4) (iOp dIx (iV 1) (iV 2))) (ag (aB (.nm 5) (iOp dIx (iV 0) (iV 2))) (ag (aB (.nm 6) (bR (iLc 2 [4,5,3] (cp (aa (iV 0) (aa (iV 1) ae))) (.tp [0,1]) aJ kF))) (ag (bq (iV 6) (iV 2) (iUn gA (iV 5))) (aN (iV 6))))))
def j7:Fn:=d8 7 4 wm
def dm:Ef:=(az j7 (aa (iV 0) (aa (iV 1) (aa (iV 2) (aa (iV 3) ae)))))
def jf:Sf:=(ag (aB (.nm 3) (iOp dIx (ay "lines" (iV 0)) (iV 1))) (ag (aB (.nm 4) (ay "part" (iV 0))) (ag (i3 5 1 2 3 4 (iLc 1 [3,2,4] (aA (ay "lines" (iV 0))) (.nm 0) aJ dm)) (ag (lx "goal" (iV 0) (az j7 (aa (ay "goal" (iV 0)) (aa (iV 3) (aa (iV 2) (aa (iV 4) ae)))))) (ag (lx "lines" (iV 0) (iV 5)) (ag (lx "part" (iV 0) (iOp dIx (iV 3) (iV 2))) (ag (aB (.nm 6) (iOp dIx (ay "free" (iV 0)) (iV 2))) (ag (bq (ay "free" (iV 0)) (iV 2) (iOp dIx (ay "kept" (iV 0)) (iV 1))) (bq (ay "kept" (iV 0)) (iV 1) (iV 6))))))))))
def dS:Fn:=d8 7 3 jf
def oa:Sf:=(bb (aE dLt (iV 4) (ay "amounts" (iV 0))) (bq (iV 2) (iV 4) (iUn gA (iOp dIx (iOp dIx (ay "lines" (iV 0)) (iV 3)) (iV 1)))) aQ)
def tP:Sf:=(ag (aB (.nm 2) (bR (ue n8 (ap (bm (aa (iC (.int 0)) ae))) (ay "amounts" (iV 0))))) (ag (dq (bN (aa (ay "kept" (iV 0)) ae)) (.tp [3,4]) oa) (ag (bb (aE dLt (iOp dIx (ay "free" (iV 0)) (iV 1)) (ay "amounts" (iV 0))) (bq (iV 2) (iOp dIx (ay "free" (iV 0)) (iV 1)) (ay "part" (iV 0))) aQ) (aN (cE cG (aa (iV 2) ae))))))
def j8:Fn:=d8 5 2 tP
def gY:Sf:=(bb (aE dLt (iV 3) (ay "amounts" (iV 0))) (bq (iV 1) (iV 3) (iOp dIx (iOp dIx (ay "lines" (iV 0)) (iV 2)) (iUn gA (iC (.int 1))))) aQ)
def jA:Sf:=(ag (aB (.nm 1) (bR (ue n8 (ap (bm (aa (iC (.int 0)) ae))) (ay "amounts" (iV 0))))) (ag (dq (bN (aa (ay "kept" (iV 0)) ae)) (.tp [2,3]) gY) (aN (iV 1))))
def fX:Fn:=d8 4 1 jA
def ja:Sf:=(bb (aE dGe (iV 3) (ay "amounts" (iV 0))) (bq (iV 1) (iOp gB (iV 3) (ay "amounts" (iV 0))) (iOp dIx (ay "goal" (iV 0)) (iV 2))) aQ)
def lp:Sf:=(ag (aB (.nm 1) (bR (ue n8 (ap (bm (aa (iC (.int 0)) ae))) (iCB aV (aa (ay "lines" (iV 0)) ae))))) (ag (dq (bN (aa (ay "free" (iV 0)) ae)) (.tp [2,3]) ja) (aN (iV 1))))
def ik:Fn:=d8 4 1 lp
def dG:Ef:=(iOp qK (iV 0) (iV 1))
def dH:Ef:=(iOp qK (iV 0) (iV 1))
def jB:Sf:=(ag (aB (.nm 1) (az fX (aa (iV 0) ae))) (ag (aB (.nm 2) (az ik (aa (iV 0) ae))) (ag (aB (.nm 3) (az bi (aa (iOp aZ (iOp aZ (ap (bm (aa (ay "part" (iV 0)) ae))) (iV 1)) (iV 2)) ae))) (aN (a8 (aa (iC (.str "most")) (aa (iOp qK (ay "part" (iV 0)) (iV 3)) (aa (iCB dk (aa (ap (iLc 1 [3] (aA (iV 1)) (.nm 0) aJ dH)) ae)) (aa (iCB dk (aa (ap (iLc 1 [3] (aA (iV 2)) (.nm 0) aJ dG)) ae)) ae)))))))))
def fY:Fn:=bz 4 1 jB
def gg:Tf:=(aE tX (iV 4) (iC .non))
def eS:Sf:=(ag (bb (aE kD (iOp dIx (iV 4) (iC (.int 1))) (iC .non)) (aN (a8 (aa (iC (.str "beyond")) (aa (cE j8 (aa (iV 3) (aa (iOp dIx (iV 4) (iC (.int 0))) ae))) ae)))) aQ) (ag (cT (az dS (aa (iV 3) (aa (iOp dIx (iV 4) (iC (.int 1))) (aa (iOp dIx (iV 4) (iC (.int 0))) ae))))) (aB (.nm 4) (cE bF (aa (iV 3) ae)))))
def kA:Sf:=(ag (aB (.nm 3) (nG 4 4 bJ (aa (iV 0) (aa (iV 1) (aa (iV 2) ae))))) (ag (aB (.nm 4) (cE bF (aa (iV 3) ae))) (ag (qU (2^8000) gg eS) (aN (cE fY (aa (iV 3) ae))))))
def iJ:Fn:=bz 5 3 kA
def dn:Ef:=(az se (aa (iV 1) (aa (iV 0) ae)))
def u6:Sf:=(ag (aB (.nm 3) (iCB lS (aa (ap (iLc 1 [2] (aA (iV 1)) (.nm 0) aJ dn)) ae))) (ag (bb (aE dEq (iV 0) (iC (.str "both"))) (aN (eY (aE dEq (iV 3) (iCB aV (aa (iV 1) ae))) (iC (.int 1)) (iC (.int 0)))) aQ) (aN (eY (aE dEq (iOp fk (iV 3) (iC (.int 2))) (iC (.int 1))) (iUn gA (iC (.int 1))) (iC (.int 1))))))
def jo:Fn:=bz 4 3 u6
def i7:Ef:=(a8 (aa (iV 0) (aa (yy (iV 1) (iV 0)) ae)))
def jd:Tf:=(aE dNe (yy (iV 1) (iV 0)) (iC (.int 0)))
def tO:Sf:=(aN (a8 (aa (iV 0) (aa (iCB dk (aa (ap (iLc 1 [1] (aA (ap (kK (iV 1)))) (.nm 0) jd i7)) ae)) ae))))
def ij:Fn:=bz 2 2 tO
def ny:Ef:=(a8 (aa (iV 0) (aa (iOp qK (iV 1) (iV 2)) ae)))
def zp:Sf:=(aN (a8 (aa (iOp dIx (iV 0) (iC (.int 0))) (aa (iCB dk (aa (ap (iLc 2 [1] (aA (iOp dIx (iV 0) (iC (.int 1)))) (.tp [0,1]) aJ ny)) ae)) ae))))
def oo:Fn:=bz 2 2 zp
def nA:Ef:=(iV 1)
def zq:Sf:=(aN (az oo (aa (iV 0) (aa (az bi (aa (ap (iLc 2 [] (aA (iOp dIx (iV 0) (iC (.int 1)))) (.tp [0,1]) aJ nA)) ae)) ae))))
def oq:Fn:=bz 1 1 zq
def gI:Sf:=(aN (iOp aR (az dB (aa (iV 0) (aa (iV 3) ae))) (az jo (aa (iV 1) (aa (iV 2) (aa (iV 3) ae))))))
def cu:Fn:=bz 4 4 gI
def eA:Ef:=(az cu (aa (iV 1) (aa (iV 2) (aa (iV 0) (aa (iV 3) ae)))))
def eB:Ef:=(ap (iLc 1 [2,3,0] (aA (iV 1)) (.nm 0) aJ eA))
def lR:Sf:=(aN (ap (iLc 1 [2,0,1] (aA (az bP (aa (iV 0) ae))) (.nm 0) aJ eB)))
def c9:Fn:=bz 3 3 lR
def vh:Ef:=(eY (aE dEq (iV 0) (iV 1)) (iC (.int 1)) (iC (.int 0)))
def zo:Sf:=(aN (ap (iLc 1 [0] (bA (aa (iV 1) ae)) (.nm 0) aJ vh)))
def j6:Fn:=bz 2 2 zo
def i6:Ef:=(iUn gA (iV 0))
def tM:Sf:=(aN (iOp aZ (ap (iCL wV (aa (iV 0) ae))) (ap (iLc 1 [] (aA (iV 0)) (.nm 0) aJ i6))))
def ii:Fn:=bz 1 1 tM
def gZ:Sf:=(wE (iV 3) (iV 5) (iOp gB (iOp dIx (iV 2) (iV 4)) (iOp dIx (iV 2) (iOp aZ (iCB aV (aa (iV 1) ae)) (iV 4)))))
def pI:Sf:=(ag (aB (.nm 3) Dv) (ag (dq (bN (aa (iV 1) ae)) (.tp [4,5]) gZ) (aN (az oq (aa (az ij (aa (iV 0) (aa (iV 3) ae))) ae)))))
def iK:Fn:=d8 6 3 pI
def og:Sf:=(bq (iV 2) (iV 3) (iV 4))
def jC:Sf:=(ag (aB (.nm 2) (bR (ue n8 (ap (bm (aa (iC (.int 0)) ae))) (iCB aV (aa (iV 0) ae))))) (ag (dq (cp (aa (az bP (aa (iV 0) ae)) (aa (iV 1) ae))) (.tp [3,4]) og) (aN (iCB dk (aa (iV 2) ae)))))
def dz:Fn:=d8 5 2 jC
def fP:Ef:=(iCB dk (aa (iV 0) ae))
def fQ:Ef:=(iOp aZ (iOp aR (ap (bm (aa (iC (.int 0)) ae))) (iOp aR (iC (.int 2)) (iCB aV (aa (iV 1) ae)))) (az j6 (aa (iV 0) (aa (iV 2) ae))))
def sJ:Sf:=(ag (aB (.nm 6) (ap (iLc 1 [2,4] (bA (aa (iV 4) ae)) (.nm 0) aJ fQ))) (ag (aB (.nm 7) (az iJ (aa (iCB dk (aa (ap (iLc 1 [] (aA (iOp aZ (iV 5) (iV 6))) (.nm 0) aJ fP)) ae)) (aa (iOp aZ (iOp aR (a8 (aa (iC (.int 0)) ae)) (iV 4)) (iOp aR (a8 (aa (iC (.int 1)) ae)) (iV 4))) (aa (iOp aZ (iOp aR (a8 (aa (iC (.int 0)) ae)) (iOp aR (iC (.int 2)) (iCB aV (aa (iV 2) ae)))) (iOp aR (a8 (aa (iC (.int 1)) ae)) (iV 4))) ae))))) (aN (a8 (aa (az iK (aa (iV 1) (aa (iV 2) (aa (iOp dIx (iV 7) (iC (.int 2))) ae)))) (aa (az cG (aa (az dz (aa (iV 0) (aa (iSl (iOp dIx (iV 7) (iC (.int 3))) iPn (iPs (iV 4))) ae))) ae)) ae))))))
def qQ:Ef:=(iUn gA (iV 0))
def jH:Ef:=(iOp aZ (az ii (aa (ap (iLc 1 [] (aA (iV 1)) (.nm 0) aJ qQ)) ae)) (az j6 (aa (iV 0) (aa (iV 2) ae))))
def jg:Sf:=(ag (aB (.nm 3) (az c9 (aa (iV 0) (aa (iV 1) (aa (iV 2) ae))))) (ag (aB (.nm 4) (iCB aV (aa (iV 3) ae))) (ag (bb (aE dEq (iV 4) (iC (.int 0))) (aN (a8 (aa (a8 (aa (iV 1) (aa (a8 ae) ae))) (aa (az dz (aa (iV 0) (aa (a8 ae) ae))) ae)))) aQ) (ag (aB (.nm 5) (ap (iLc 2 [4] (bN (aa (iV 3) ae)) (.tp [0,1]) aJ jH))) sJ))))
def jn:Fn:=bz 8 3 jg
def zr:Sf:=(ag (aB (.nm 3) (az jn (aa (iV 0) (aa (iV 1) (aa (iV 2) ae))))) (ag (bb (bX cb (iCB D6 (aa (iOp dIx (iV 3) (iC (.int 1))) ae))) (aN (a8 (aa (iC (.str "bar")) (aa (iOp dIx (iV 3) (iC (.int 1))) ae)))) aQ) (aN (a8 (aa (iC (.str "poly")) (aa (iOp dIx (iV 3) (iC (.int 0))) ae))))))
def ou:Fn:=bz 4 3 zr
def pO:Ef:=(iOp aR (az dB (aa (iV 2) (aa (iV 0) ae))) (iOp gB (iV 3) (iV 1)))
def wl:Sf:=(ag (aB (.nm 3) (az ou (aa (iV 0) (aa (iV 1) (aa (iV 2) ae))))) (ag (bb (aE dEq (iOp dIx (iV 3) (iC (.int 0))) (iC (.str "poly"))) (aN (a8 (aa (iC (.str "alone")) (aa (iOp dIx (iV 3) (iC (.int 1))) ae)))) aQ) (ag (aB (.nm 4) (iCB yk (aa (iOp dIx (iV 3) (iC (.int 1))) ae))) (aN (a8 (aa (iC (.str "other")) (aa (iCB dk (aa (ap (iLc 2 [0,4] (bN (aa (iOp dIx (iV 3) (iC (.int 1))) ae)) (.tp [0,1]) aJ pO)) ae)) (aa (iV 4) ae))))))))
def iH:Fn:=d8 5 3 wl
def jY:Sf:=(ag (aB (.nm 1) (iOp fk (iOp aZ (iOp aR (iV 1) (iC (.int 69621))) (iV 3)) (iC (.int 2305843009213693951)))) (bb (aE dGe (iCB vd (aa (iV 3) ae)) (iOp BS (iC (.int 10)) (iC (.int 18)))) (cT (de dw (iV 2) (aa (iCB vd (aa (iV 3) ae)) ae))) aQ))
def u5:Sf:=(ag (uf 1 2 (aa (iOp aZ (iOp aR (iC (.int 7)) (iCB aV (aa (iV 0) ae))) (iC (.int 5))) (aa (bR (bm ae)) ae))) (ag (dq (aA (iSl (iV 0) iPn (iPs (iC (.int 63))))) (.nm 3) jY) (aN (zP (aa (iV 2) (aa (iV 1) (aa (iC (.int 0)) ae)))))))
def jm:Fn:=bz 4 1 u5
def iz:Tf:=(dL (aE dNe (cF (iV 0) (iC (.int 0))) (ap (bm ae))) (aE dEq (iOp dIx (cF (iV 0) (iC (.int 0))) (iC (.int 0))) (iC (.int 0))))
def je:Sf:=(cT (de vK (cF (iV 0) (iC (.int 0))) (aa (iC (.int 0)) ae)))
def tF:Sf:=(ag (qU (2^8000) iz je) (ag (bb (aE dNe (cF (iV 0) (iC (.int 0))) (ap (bm ae))) (ag (aB (.nm 2) (iOp fk (iOp dIx (cF (iV 0) (iC (.int 0))) (iC (.int 0))) (iV 1))) (ag (bq (cF (iV 0) (iC (.int 0))) (iC (.int 0)) (iOp gN (iOp dIx (cF (iV 0) (iC (.int 0))) (iC (.int 0))) (iV 1))) (aN (iV 2)))) aQ) (ag (jK (iV 0) (iC (.int 2)) (iOp aZ (cF (iV 0) (iC (.int 2))) (iC (.int 1)))) (ag (aB (.nm 3) (iOp fk (iOp aR (iOp aZ (cF (iV 0) (iC (.int 1))) (iOp aR (iOp aR (iC (.int 611953)) (cF (iV 0) (iC (.int 2)))) (cF (iV 0) (iC (.int 2))))) (iC (.int 48271))) (iC (.int 2305843009213693951)))) (ag (aB (.nm 4) (iOp aZ (iOp aZ (iOp gN (iV 3) (iC (.int 1009))) (iOp aR (iC (.int 40692)) (cF (iV 0) (iC (.int 2))))) (iC (.int 3)))) (aN (iOp fk (iOp gN (iOp fk (iOp aR (iOp aZ (iV 3) (cF (iV 0) (iC (.int 2)))) (iV 4)) (iC (.int 2305843009213693921))) (iC (.int 4099))) (iV 1))))))))
def aL:Fn:=bz 5 2 tF
def i5:Ef:=(iV 0)
def jc:Tf:=(aE dEq (iOp ve (iOp ym (iV 1) (iV 0)) (iC (.int 1))) (iC (.int 1)))
def tJ:Sf:=(ag (aB (.nm 3) (iCB aV (aa (ap (iLc 1 [2] (aA (iV 1)) (.nm 0) jc i5)) ae))) (aN (eY (aE dEq (iV 0) (iC (.str "both"))) (iCB vf (aa (iOp dEq (iV 3) (iCB aV (aa (iV 1) ae))) ae)) (iOp gB (iC (.int 1)) (iOp aR (iC (.int 2)) (iOp fk (iV 3) (iC (.int 2))))))))
def cc:Fn:=bz 4 3 tJ
def no:Ef:=(iV 0)
def oX:Tf:=(aE dEq (iOp ve (iOp ym (iV 1) (iV 0)) (iC (.int 1))) (iC (.int 1)))
def nq:Ef:=(iCB dk (aa (ap (iLc 1 [0] (bA (aa (iV 1) ae)) (.nm 0) oX no)) ae))
def qt:Sf:=(aN (ap (iCL vA (aa (ap (iLc 1 [0] (bA (aa (iOp BU (iC (.int 1)) (iV 0)) ae)) (.nm 0) aJ nq)) ae))))
def fV:Fn:=bz 1 1 qt
def nr:Ef:=(iOp aR (iV 1) (az cc (aa (iOp dIx (iV 2) (iC (.int 0))) (aa (iV 0) (aa (iV 3) ae)))))
def qu:Sf:=(aN (iCB lS (aa (ap (iLc 2 [0,1] (aA (iOp dIx (iV 0) (iC (.int 1)))) (.tp [0,1]) aJ nr)) ae)))
def fW:Fn:=bz 2 2 qu
def cC:Ef:=(iOp dLt (iV 0) (iV 1))
def fm:Ef:=(uc (iV 1) (aa (iCB cB (aa (iOp dIx (iV 0) (iC (.int 0))) ae)) ae))
def fB:Sf:=(ag (bb (dM (df (bX cb (iCB iT (aa (iV 4) (aa (iC (.ty "tuple")) ae))))) (dM (aE dNe (iCB aV (aa (iV 4) ae)) (iC (.int 2))) (aE qL (iCB cB (aa (iOp dIx (iV 4) (iC (.int 0))) ae)) (iV 3)))) (aN (iC (.bl false))) aQ) (bb (dM (df (bX cb (iCB iT (aa (iOp dIx (iV 4) (iC (.int 1))) (aa (iC (.ty "int")) ae))))) (dM (bX cb (iCB iT (aa (iOp dIx (iV 4) (iC (.int 1))) (aa (iC (.ty "bool")) ae)))) (aE dEq (iOp dIx (iV 4) (iC (.int 1))) (iC (.int 0))))) (aN (iC (.bl false))) aQ))
def fq:Ef:=(iCB cB (aa (iV 0) ae))
def m9:Sf:=(ag (bb (dM (df (bX cb (iCB iT (aa (iV 0) (aa (iC (.ty "tuple")) ae))))) (dM (aE dNe (iCB aV (aa (iV 0) ae)) (iC (.int 2))) (dM (df (bX cb (iCB iT (aa (iOp dIx (iV 0) (iC (.int 0))) (aa (iC (.ty "str")) ae))))) (aE dNe (iOp dIx (iV 0) (iC (.int 0))) (iV 1))))) (aN (iC (.bl false))) aQ) (ag (bb (df (bX cb (iCB iT (aa (iOp dIx (iV 0) (iC (.int 1))) (aa (iC (.ty "tuple")) ae))))) (aN (iC (.bl false))) aQ) (ag (aB (.nm 3) (ap (iLc 1 [] (aA (iV 2)) (.nm 0) aJ fq))) (ag (dq (aA (iOp dIx (iV 0) (iC (.int 1)))) (.nm 4) fB) (ag (aB (.nm 5) (ap (iLc 1 [3] (aA (iOp dIx (iV 0) (iC (.int 1)))) (.nm 0) aJ fm))) (aN (iCB BR (aa (ap (iLc 2 [] (cp (aa (iV 5) (aa (iSl (iV 5) (iPs (iC (.int 1))) iPn) ae))) (.tp [0,1]) aJ cC)) ae))))))))
def dR:Fn:=bz 6 3 m9
def cn:Ef:=(iOp dGt (iOp aR (az fW (aa (iV 1) (aa (iV 0) ae))) (iOp gB (iOp aR (iC (.int 2)) (iOp dIx (iV 2) (iV 0))) (iC (.int 1)))) (iC (.int 0)))
def eh:Ef:=(iV 0)
def eP:Tf:=(aE tX (iV 1) (iC .non))
def lP:Sf:=(ag (aB (.nm 2) (ap (iLc 2 [] (bN (aa (iV 1) ae)) (.tp [0,1]) eP eh))) (aN (iCB BR (aa (ap (iLc 1 [0,1] (aA (iV 2)) (.nm 0) aJ cn)) ae))))
def c8:Fn:=bz 3 2 lP
def vg:Ef:=(eY (aE dEq (az aL (aa (iV 1) (aa (iC (.int 3)) ae))) (iC (.int 0))) (iC .non) (iV 0))
def nk:Ef:=(iV 0)
def oV:Tf:=(aE dEq (iOp ve (iOp ym (iOp ve (iV 1) (iV 2)) (iV 0)) (iC (.int 1))) (iC (.int 1)))
def nn:Ef:=(iV 0)
def oW:Tf:=(aE dEq (iOp ve (iOp ym (iV 1) (iV 0)) (iC (.int 1))) (iC (.int 1)))
def jl:Sf:=(ag (aB (.nm 10) (iCB aV (aa (ap (iLc 1 [9] (bA (aa (iV 1) ae)) (.nm 0) oW nn)) ae))) (ag (aB (.nm 11) (iCB aV (aa (ap (iLc 1 [9,5] (bA (aa (iV 1) ae)) (.nm 0) oV nk)) ae))) (ag (aB (.nm 12) (az aL (aa (iV 0) (aa (iC (.int 2)) ae)))) (ag (aB (.nm 13) (ap (bm (aa (iV 12) (aa (iV 12) (aa (iOp fk (iV 11) (iC (.int 2))) (aa (iCB vf (aa (iOp dGe (iV 10) (iV 6)) ae)) (aa (iCB vf (aa (iOp dEq (iV 9) (iV 5)) ae)) (aa (iCB vf (aa (iOp dEq (iOp ve (iV 9) (iV 5)) (iV 5)) ae)) ae))))))))) (cT (de dw (iV 8) (aa (iOp fk (iOp aZ (iOp dIx (iV 13) (iV 4)) (iV 7)) (iC (.int 2))) ae)))))))
def tH:Sf:=(ag (uf 3 4 (aa (iOp BU (iC (.int 1)) (iV 1)) (aa (az aL (aa (iV 0) (aa (iC (.int 6)) ae))) ae))) (ag (jJ 5 6 7 (aa (az aL (aa (iV 0) (aa (iV 3) ae))) (aa (az aL (aa (iV 0) (aa (iOp aZ (iV 1) (iC (.int 2))) ae))) (aa (iOp gN (az aL (aa (iV 0) (aa (iC (.int 4)) ae))) (iC (.int 3))) ae)))) (ag (aB (.nm 8) (bR (bm ae))) (ag (dq (bA (aa (iV 3) ae)) (.nm 9) jl) (ag (bb (dL (df (bX cb (iV 2))) (aE dEq (az aL (aa (iV 0) (aa (iC (.int 2)) ae))) (iC (.int 0)))) (aB (.nm 8) (bR (ud 1 [0] (iV 8) (.nm 0) aJ vg))) aQ) (aN (iCB dk (aa (iV 8) ae))))))))
def on:Fn:=d8 14 3 tH
def cJ:Ef:=(iV 0)
def cN:Tf:=(aE dGt (az aL (aa (iV 1) (aa (iOp aZ (iC (.int 2)) (iOp fk (iV 2) (iC (.int 2)))) ae))) (iC (.int 0)))
def i4:Ef:=(iV 0)
def jb:Tf:=(aE dLe (iCB aV (aa (iV 0) ae)) (iV 1))
def lm:Sf:=(ag (jJ 2 3 4 (aa (az fV (aa (iV 1) ae)) (aa (az aL (aa (iV 0) (aa (iC (.int 4)) ae))) (aa (az aL (aa (iV 0) (aa (iOp aZ (iV 1) (iC (.int 1))) ae))) ae)))) (ag (bb (aE dEq (iV 3) (iC (.int 0))) (aN (iCB dk (aa (ap (iLc 1 [4] (aA (iV 2)) (.nm 0) jb i4)) ae))) aQ) (ag (bb (aE dEq (iV 3) (iC (.int 1))) (aN (iCB dk (aa (iSl (iV 2) (iPs (iV 4)) (iPs (iOp aZ (iV 4) (az aL (aa (iV 0) (aa (iC (.int 2)) ae)))))) ae))) aQ) (aN (iCB dk (aa (ap (iLc 1 [0,3] (aA (iV 2)) (.nm 0) cN cJ)) ae))))))
def ig:Fn:=bz 5 2 lm
def cm:Ef:=(iOp dNe (iV 0) (iOp aR (iV 2) (iOp gB (iOp aR (iC (.int 2)) (iV 1)) (iC (.int 1)))))
def ef:Ef:=(iOp aR (iOp gB (iV 0) (iOp aR (iV 3) (iOp gB (iOp aR (iC (.int 2)) (iV 1)) (iC (.int 1))))) (iV 2))
def jG:Ef:=(az cc (aa (iV 1) (aa (iV 2) (aa (iV 0) ae))))
def eG:Sf:=(ag (aB (.nm 7) (ap (iLc 1 [1,6] (bA (aa (iCB aV (aa (iV 0) ae)) ae)) (.nm 0) aJ jG))) (bb (aE dNe (iCB lS (aa (ap (iLc 3 [4] (qV (aa (iV 3) (aa (iV 0) (aa (iV 7) ae)))) (.tp [0,1,2]) aJ ef)) ae)) (iC (.int 0))) (aN (iC (.bl false))) aQ))
def eI:Sf:=(bb (dM (df (bX cb (iCB iT (aa (iV 5) (aa (iC (.ty "int")) ae))))) (dM (bX cb (iCB iT (aa (iV 5) (aa (iC (.ty "bool")) ae)))) (aE dGt (iCB vd (aa (iV 5) ae)) (iV 4)))) (aN (iC (.bl false))) aQ)
def lN:Sf:=(ag (bb (dM (df (bX cb (iCB iT (aa (iV 4) (aa (iC (.ty "int")) ae))))) (dM (bX cb (iCB iT (aa (iV 4) (aa (iC (.ty "bool")) ae)))) (aE dLt (iV 4) (iC (.int 1))))) (aN (iC (.bl false))) aQ) (ag (bb (dM (df (bX cb (iCB iT (aa (iV 3) (aa (iC (.ty "tuple")) ae))))) (aE dNe (iCB aV (aa (iV 3) ae)) (iCB aV (aa (iV 0) ae)))) (aN (iC (.bl false))) aQ) (ag (dq (aA (iV 3)) (.nm 5) eI) (ag (dq (aA (iV 2)) (.nm 6) eG) (aN (iCB zy (aa (ap (iLc 2 [4] (cp (aa (iV 3) (aa (iV 0) ae))) (.tp [0,1]) aJ cm)) ae)))))))
def cY:Fn:=bz 8 5 lN
def lO:Sf:=(ag (bb (dM (df (bX cb (iCB iT (aa (iV 3) (aa (iC (.ty "tuple")) ae))))) (dM (aE dEq (iCB aV (aa (iV 3) ae)) (iC (.int 0))) (df (bX cb (iCB iT (aa (iOp dIx (iV 3) (iC (.int 0))) (aa (iC (.ty "str")) ae))))))) (aN (iC (.bl false))) aQ) (ag (bb (dL (aE dEq (iOp dIx (iV 3) (iC (.int 0))) (iC (.str "alone"))) (aE dEq (iCB aV (aa (iV 3) ae)) (iC (.int 2)))) (aN (nF (az dR (aa (iOp dIx (iV 3) (iC (.int 1))) (aa (iV 1) (aa (iV 2) ae)))) (az c8 (aa (iOp dIx (iV 3) (iC (.int 1))) (aa (iV 0) ae))))) aQ) (aN (nF (iOp dEq (iOp dIx (iV 3) (iC (.int 0))) (iC (.str "other"))) (nF (iOp dEq (iCB aV (aa (iV 3) ae)) (iC (.int 3))) (az cY (aa (iV 0) (aa (iV 1) (aa (iV 2) (aa (iOp dIx (iV 3) (iC (.int 1))) (aa (iOp dIx (iV 3) (iC (.int 2))) ae)))))))))))
def cZ:Fn:=bz 4 4 lO
def gj:Ef:=(iOp gB (iOp aR (iC (.int 2)) (iV 0)) (iC (.int 1)))
def gk:Ef:=(iOp aR (iV 0) (iV 1))
def gm:Ef:=(iCB lS (aa (ap (iLc 2 [] (cp (aa (iV 1) (aa (iV 0) ae))) (.tp [0,1]) aJ gk)) ae))
def gu:Sf:=(bb (aE dNe (iV 8) (iCB dk (aa (ap (iLc 1 [] (aA (iV 0)) (.nm 0) aJ gj)) ae))) (bb (aE dEq (ap (iLc 1 [8] (aA (iV 3)) (.nm 0) aJ gm)) (iV 4)) (aN (iC (.bl true))) aQ) aQ)
def gv:Sf:=(cT (de qg (iV 7) (aa (ap (bm (aa (iOp aZ (iV 8) (a8 (aa (iUn gA (iC (.int 1))) ae))) (aa (iOp aZ (iV 8) (a8 (aa (iC (.int 0)) ae))) (aa (iOp aZ (iV 8) (a8 (aa (iC (.int 1)) ae))) ae))))) ae)))
def gw:Sf:=(ag (aB (.nm 7) (bR (bm ae))) (ag (pR (iV 5) (.nm 8) gv) (aB (.nm 5) (iV 7))))
def gn:Ef:=(iOp aR (iOp gB (iOp aR (iC (.int 2)) (iV 0)) (iC (.int 1))) (iV 1))
def gq:Ef:=(iCB lS (aa (ap (iLc 2 [] (cp (aa (iV 1) (aa (iV 0) ae))) (.tp [0,1]) aJ gn)) ae))
def kE:Ef:=(az cc (aa (iV 1) (aa (iV 2) (aa (iV 0) ae))))
def ft:Ef:=(ap (iLc 1 [2,0] (bA (aa (iCB aV (aa (iV 1) ae)) ae)) (.nm 0) aJ kE))
def iW:Sf:=(ag (aB (.nm 3) (ap (iLc 1 [0,1] (aA (iV 2)) (.nm 0) aJ ft))) (ag (aB (.nm 4) (ap (iLc 1 [0] (aA (iV 3)) (.nm 0) aJ gq))) (ag (aB (.nm 5) (bR (bm (aa (a8 ae) ae)))) (ag (dq (bA (aa (iCB aV (aa (iV 0) ae)) ae)) (.nm 6) gw) (ag (pR (iV 5) (.nm 8) gu) (aN (iC (.bl false))))))))
def b4:Fn:=d8 9 3 iW
def rV:Sf:=(ag (aB (.nm 3) (iOp dIx (iOp dIx (ap (bm (aa (ap (bm (aa (iC (.int 4)) (aa (iC (.int 3)) (aa (iC (.int 2)) (aa (iC (.int 3)) (aa (iC (.int 2)) (aa (iC (.int 1)) (aa (iC (.int 3)) (aa (iC (.int 2)) ae)))))))))) (aa (ap (bm (aa (iC (.int 0)) (aa (iC (.int 1)) (aa (iC (.int 2)) (aa (iC (.int 2)) (aa (iC (.int 3)) (aa (iC (.int 2)) (aa (iC (.int 1)) (aa (iC (.int 2)) ae)))))))))) ae)))) (iCB vf (aa (iOp dGt (iV 2) (iC (.int 0))) ae))) (az aL (aa (iV 1) (aa (iC (.int 8)) ae))))) (ag (jJ 4 5 6 (aa (az on (aa (iV 1) (aa (iV 3) (aa (iC (.bl true)) ae)))) (aa (iOp dIx (ap (bm (aa (iC (.str "both")) (aa (iC (.str "odd")) ae)))) (az aL (aa (iV 1) (aa (iC (.int 2)) ae)))) (aa (az ig (aa (iV 1) (aa (iV 3) ae))) ae)))) (ag (aB (.nm 7) (az iH (aa (iV 4) (aa (iV 5) (aa (iV 6) ae))))) (ag (bb (df (bX cb (az cZ (aa (iV 4) (aa (iV 5) (aa (iV 6) (aa (iV 7) ae))))))) (aN (iC (.bl false))) aQ) (ag (bb (dL (aE dLt (iV 3) (iC (.int 4))) (aE dNe (iCB cB (aa (az iH (aa (iV 4) (aa (iV 5) (aa (iV 6) ae)))) ae)) (iCB cB (aa (iV 7) ae)))) (aN (iC (.bl false))) aQ) (bb (dL (aE dEq (iOp dIx (iV 7) (iC (.int 0))) (iC (.str "alone"))) (dL (aE dLt (iV 3) (iC (.int 3))) (bX cb (az b4 (aa (iV 4) (aa (iV 5) (aa (iV 6) ae))))))) (aN (iC (.bl false))) aQ))))))
def FZ:Sf:=(ag (aB (.nm 1) (az jm (aa (iV 0) ae))) (ag (dq (bA (aa (iC (.int 3)) ae)) (.nm 2) rV) (aN (iC (.bl true)))))
def uq:Fn:=d8 8 1 FZ
end
end Own
section
set_option maxHeartbeats 0
namespace Own
open PySem L2
def top (i:Nat):Stmt:=PySem.Challenge.pw_signpoly_k72_alone_or_other.main.body.getD i (.Pass ⟨0,0,0,0⟩)
def BP (s:Stmt):List Stmt:=match s with
 |.ClassDef _ _ _ b _ _ _ _ _ _ _=>b
 |_=>[]
abbrev bV:Stmt:=(BP (top 9)).getD 0 (.Pass ⟨0,0,0,0⟩)
theorem pE:b5 ["self","rows","bounds","gains"] ["self","rows","bounds","gains"] (au bV):=⟨U,U,U,by decide +kernel,U,by decide +kernel,by decide +kernel⟩
abbrev rT (x:Str) (i:Nat) (N:List Str) (k:Nat):Str×Nat×List Str×Nat:=(x,i,N,k)
noncomputable def tbl:List (Str×Nat×List Str×Nat):=[rT "power_of_two" 1 ["k","power","step"] 1,rT "on_in" 2 ["row","k"] 2,rT "greatest_part" 3 ["numbers","found","number","rest","over"] 1,rT "lowered" 4 ["numbers","shared"] 1,rT "told_rows" 6 ["f"] 1,rT "sign_at" 7 ["f","row"] 2,rT "least_ratio" 10 ["places","tops","bottoms","least","place","mine","best"] 3,rT "weighed" 11 ["table"] 1,rT "numbers_by" 12 ["table","name","column"] 2,rT "leaving" 13 ["table","column","entries","places","name"] 2,rT "gains_more" 14 ["table","one","other","mine","best","name","numbers","more"] 3,rT "best_step" 15 ["table","best","column","step"] 1,rT "swept" 16 ["line","turning","column","part","pivot","entry","told"] 4,rT "exchange" 17 ["table","place","column","turning","part","lines","name"] 3,rT "way_of" 18 ["table","column","way","place","name"] 2,rT "amounts_of" 19 ["table","amounts","place","name"] 1,rT "prices_of" 20 ["table","prices","column","name"] 1,rT "found_most" 21 ["table","amounts","prices","shared"] 1,rT "most_of" 22 ["rows","bounds","gains","table","step"] 3,rT "value_of" 24 ["kind","term","row","many"] 3,rT "poly_from" 26 ["kind","numbers"] 2,rT "parted" 28 ["poly","number"] 2,rT "shrunk" 29 ["poly"] 1,rT "signed_value" 31 ["f","kind","term","row"] 4,rT "signed_values" 32 ["f","kind","terms"] 3,rT "one_at" 34 ["place","many"] 2,rT "both_ways" 35 ["numbers"] 1,rT "poly_by" 36 ["kind","terms","amounts","numbers","place","term"] 3,rT "weights_by" 37 ["f","numbers","weights","row","number"] 2,rT "split_of" 38 ["f","kind","terms","values","many","earned","limits","most"] 3,rT "solved" 39 ["f","kind","terms","split"] 3,rT "alone" 41 ["f","kind","terms","answer","part"] 3,rT "_law_pot" 43 ["_law_script","_law_seed","_law_great","_law_cell"] 1,rT "_law_draw" 44 ["_law_pot_here","_law_many","_law_digit","_law_once","_law_by"] 2,rT "_law_term" 45 ["_law_kind","_law_term_here","_law_row","_law_on"] 3,rT "_law_terms" 46 ["_law_n"] 1,rT "_law_value" 47 ["_law_poly","_law_row"] 2,rT "_law_is_poly" 48 ["_law_thing","_law_kind","_law_terms_here","_law_every","_law_part","_law_places"] 3,rT "_law_right_at" 49 ["_law_poly","_law_f_here","_law_rows"] 2,rT "_law_f" 50 ["_law_pot_here","_law_n","_law_full","_law_many","_law_way","_law_mask","_law_least","_law_other","_law_values","_law_row","_law_on","_law_in_mask","_law_drawn","_law_some_here"] 3,rT "_law_some" 51 ["_law_pot_here","_law_n","_law_terms_here","_law_way","_law_size"] 2,rT "_law_is_other" 52 ["_law_f_here","_law_kind","_law_terms_here","_law_numbers","_law_part","_law_number","_law_term_here","_law_own"] 5,rT "_law_is_shown" 53 ["_law_f_here","_law_kind","_law_terms_here","_law_thing"] 4,rT "_law_shares" 54 ["_law_f_here","_law_kind","_law_terms_here","_law_owns","_law_sums","_law_some_here","_law_row","_law_more","_law_numbers"] 3,rT "law" 55 ["_law_script","_law_pot_here","_law_turn","_law_n","_law_f_here","_law_kind","_law_terms_here","_law_found"] 1]
def tR (i:Nat):Str×Nat×List Str×Nat:=tbl.getD i ("",0,[],0)
def tN (i:Nat):Str:=(tR i).1
def tS (i:Nat):Stmt:=top (tR i).2.1
def tV (i:Nat):List Str:=(tR i).2.2.1
def tK (i:Nat):Nat:=(tR i).2.2.2
theorem scs:∀ p∈tbl,b5 p.2.2.1 (p.2.2.1.take p.2.2.2) (au (top p.2.1)):=by
 iterate 45 refine qdh.2 ⟨⟨U,U,U,by decide +kernel,U,by decide +kernel,by decide +kernel⟩,?_⟩
 exact λ_ h=>nomatch h
structure Txt (K:qae) (mg:Str->Option Value):Prop where
 F:∀ p∈tbl,∃ f g,Fun K p.1 p.1 (top p.2.1) f g/\mg p.1=some (.ref f)/\cO K g (p.2.2.1.take p.2.2.2) []
 z:∀ x∈(["abs","all","any","bool","enumerate","int","isinstance","len","list","max","range","repr","sorted","str","sum","tuple","zip"]:List Str),mg x=none
 c:∃ a f g,mg "Table" = some (.ref a)/\Fun K "__init__" "Table.__init__" bV f g/\cO K g ["self","rows","bounds","gains"] []/\Mk K a f/\Cls K a/\∀ p∈bJ,b6 K a p.1
section
variable {P:qaO}{w:World}{K:qae}{mg:Str->Option Value}{base:Heap}
theorem Dg (h:i<45):tR i∈tbl :=by
 unfold tR;rw[qau,qai (show i<tbl.length from h)];exact qbC _
abbrev Bd (P:qaO) (w:World) (K:qae) (mg:Str->Option Value) (base:Heap) (k i:Nat) (b:Sf):Prop:=∀ (f:Addr) (d:Value) (A:qa1) (outer:List Env) (s:qal) (H:Hp) (E:XK),bj k (A.deeper (qj2 (tN i) (au (tS i)) s.heap.objs.size f d))->(fj CX0 P w K mg base (tV i) (tN i) (au (tS i)) f d A outer s H E).nox.N=tV i->(fj CX0 P w K mg base (tV i) (tN i) (au (tS i)) f d A outer s H E).nox.env.scope.names=(au (tS i)).names->(tV i).Nodup->ISs K (fj CX0 P w K mg base (tV i) (tN i) (au (tS i)) f d A outer s H E).nox (aY (tS i)) b
abbrev Ck (P:qaO) (w:World) (K:qae) (mg:Str->Option Value) (base:Heap) (i j:Nat) (m:Fn):Prop:=Cal P w K mg base (tN i) j m
theorem BN (T:Txt K mg) (hi:i<45) (hb:Bd P w K mg base k i b):Ck P w K mg base i (k+1) (bz (tV i).length ((tV i).take (tK i)).length b) :=by
 obtain⟨f,g,F,m,B⟩:=T.F (tR i) (Dg hi);exact F4 F (scs _ (Dg hi)) m B (hb f)
theorem BO (T:Txt K mg) (hi:i<45) (hb:Bd P w K mg base k i b):Ck P w K mg base i (k+1) (d8 (tV i).length ((tV i).take (tK i)).length b) :=by
 obtain⟨f,g,F,m,B⟩:=T.F (tR i) (Dg hi);exact F5 F (scs _ (Dg hi)) m B (hb f)
theorem mP (T:Txt K mg) (F:Fun K "__init__" "Table.__init__" bV f g):dh P w K mg base CX0 1 f g ["self","rows","bounds","gains"] (Dc K ["self","rows","bounds","gains"].length ["self","rows","bounds","gains"].length bJ) :=
 Ga (N:=["self","rows","bounds","gains"]) (ps:=["self","rows","bounds","gains"]) (k:=0) (g:=bJ) F pE (by decide) (λ_ _ _ _ _ _ hr=>(gR U (by first|exact Or.inl U|exact Or.inr (Or.inl U)|exact Or.inr (Or.inr U)) (pS (fN U) U (T.z _ (by decide)) qbv (bo (iv 3) bY U) (by decide) (by decide) U U) (gR U (by first|exact Or.inl U|exact Or.inr (Or.inl U)|exact Or.inr (Or.inr U)) (du (zT (pY (au bV).names ["self","rows","bounds","gains"] ["row","bound"] 2 [] U U U (by decide +kernel)) U (by decide) (nO U (T.z _ (by decide)) (bo (iv 1) (bo (iv 2) bY U) U) U U U) (λ_ _ _ _ _=>(nL (fz (f8 (i:=0) (show qh6 (α:=Str) ["row","bound"] by decide +kernel) U (by first|exact Or.inl U|exact Or.inr U)) (fz (f8 (i:=1) (show qh6 (α:=Str) ["row","bound"] by decide +kernel) U (by first|exact Or.inl U|exact Or.inr U)) jO)) U U U U U)) (λ_ _ _ _ _=>iG) (λ_ _ _ _ _=>(nK (jp U) (du (Dw (iA U) U (T.z _ (by decide)) qaU (bo (iv 0) bY U) (by decide) (by decide) U U)) (du (kM (bo (iv 1) bY U))))) (λ_=>rfl))) (gR U (by first|exact Or.inl U|exact Or.inr (Or.inl U)|exact Or.inr (Or.inr U)) (nK (jp U) (du (zT (pY (au bV).names ["self","rows","bounds","gains"] ["gain"] 1 [] U U U (by decide +kernel)) U (by decide) (nM (iv 3) U) (λ_ _ _ _ _=>(jN (f8 (i:=0) (show qh6 (α:=Str) ["gain"] by decide +kernel) U (by first|exact Or.inl U|exact Or.inr U)))) (λ_ _ _ _ _=>iG) (λ_ _ _ _ _=>(nJ (iv 0))) (λ_=>rfl))) (du (kM (bo kL bY U)))) (gR U (by first|exact Or.inl U|exact Or.inr (Or.inl U)|exact Or.inr (Or.inr U)) kL (gR U (by first|exact Or.inl U|exact Or.inr (Or.inl U)|exact Or.inr (Or.inr U)) (kN (nP U (T.z _ (by decide)) U (T.z _ (by decide)) (bo (pS (fN U) U (T.z _ (by decide)) qbv (bo (iv 3) bY U) (by decide) (by decide) U U) bY U) U U)) (B3 U (by first|exact Or.inl U|exact Or.inr (Or.inl U)|exact Or.inr (Or.inr U)) (kN (nQ U (T.z _ (by decide)) U (T.z _ (by decide)) (bo (pS (fN U) U (T.z _ (by decide)) qbv (bo (iv 3) bY U) (by decide) (by decide) U U) (bo (nK (jp U) (pS (fN U) U (T.z _ (by decide)) qbv (bo (iv 3) bY U) (by decide) (by decide) U U) (pS (fN U) U (T.z _ (by decide)) qbv (bo (iv 1) bY U) (by decide) (by decide) U U)) bY U) U) U U U)) U U) (by intro z;cases z) U U) (by intro z;cases z) U U) (by intro z;cases z) U U) (by intro z;cases z) U U) (by intro z;cases z) U U))
theorem scL:b5 ["_law_script","_law_pot_here","_law_turn","_law_n","_law_f_here","_law_kind","_law_terms_here","_law_found"] ["_law_script"] (au (top 55)):=scs (rT "law" 55 ["_law_script","_law_pot_here","_law_turn","_law_n","_law_f_here","_law_kind","_law_terms_here","_law_found"] 1) (by decide +kernel)
theorem EK (T:Txt K mg):Ck P w K mg base 0 1 dU/\Ck P w K mg base 1 2 se/\Ck P w K mg base 2 1 bi/\Ck P w K mg base 3 2 cG/\Ck P w K mg base 4 1 bP/\Ck P w K mg base 5 1 dB/\Ck P w K mg base 6 1 e8/\Ck P w K mg base 7 1 dC/\Ck P w K mg base 8 1 cr/\Ck P w K mg base 9 2 iI/\Ck P w K mg base 10 2 bT/\Ck P w K mg base 11 3 bF/\Ck P w K mg base 12 1 j7:=by
 obtain⟨a,G,o,c1,c2,c3,S,O,Q⟩:=T.c;have y:=mP (P:=P) (w:=w) (base:=base) T c2
 repeat' first
  |assumption
  |exact rfl
  |decide
  |exact Or.inl rfl
  |exact Or.inr rfl
  |exact Or.inr (Or.inl rfl)
  |exact Or.inr (Or.inr rfl)
  |apply mE
  |apply mF
  |apply iF
  |apply jV
  |apply nP
  |apply nQ
  |apply bY
  |apply bo
  |apply kL
  |apply iv
  |apply nK
  |apply rH
  |(apply qe9;apply gT;(case hsw=>exact U);(case hns=>assumption);(case hN=>assumption);(case h=>decide +kernel))
  |(apply qeA;apply gT;(case hsw=>exact U);(case hns=>assumption);(case hN=>assumption);(case h=>decide +kernel))
  |(apply qe9;apply eE;(case hsw=>exact U);(case hns=>assumption);(case hN=>assumption);(case h=>decide +kernel))
  |(apply qeA;apply eE;(case hsw=>exact U);(case hns=>assumption);(case hN=>assumption);(case h=>decide +kernel))
  |apply rJ
  |apply wJ
  |apply wI
  |apply l9
  |apply rM
  |apply wP
  |apply rn
  |(apply rq;(case hns=>assumption);(case hN=>assumption);(case h=>decide +kernel))
  |apply mj
  |apply mh
  |apply nO
  |apply nM
  |apply rg
  |apply wF
  |apply rm
  |apply iG
  |apply mG
  |apply nY
  |apply jT
  |apply wQ
  |apply mI
  |apply rQ
  |apply jW
  |apply mH
  |apply rO
  |apply nJ
  |apply wH
  |apply qX
  |apply kM
  |apply wM
  |apply mC
  |apply jU
  |apply mq
  |apply mo
  |apply jS
  |apply mn
  |apply mm
  |(apply mD;(case hns=>assumption);(case hN=>assumption);(case h=>decide +kernel))
  |apply jM (N:=["self","rows","bounds","gains"]) (ps:=["self","rows","bounds","gains"])
  |refine jL rfl (by assumption) (by assumption) ?_ ?_ ?_ ?_ ?_ ?_
  |refine iD rfl (by assumption) (by assumption) ?_ ?_ ?_ ?_ ?_ ?_
  |refine wG (by with_reducible first|exact qbo|exact qbn|exact qbm|exact qbf|exact qbl|exact qaX|exact qaU|exact qbk|exact qbe|exact qa3|exact qbj|exact qbi|exact qba|exact qbv) ?_ ?_ ?_ ?_ ?_ ?_ ?_ ?_ ?_
  |refine wL (by with_reducible first|exact qbo|exact qbn|exact qbm|exact qbf|exact qbl|exact qaX|exact qaU|exact qbk|exact qbe|exact qa3|exact qbj|exact qbi|exact qba|exact qbv) ?_ ?_ ?_ ?_ ?_ ?_ ?_ ?_ ?_
  |apply qW
  |apply iB
  |apply ma
  |apply qY
  |apply md
  |apply qZ
  |apply re
  |apply me
  |apply mf
  |apply rh
  |apply rj
  |refine wK ?_ ?_ (by with_reducible first|exact qbo|exact qbn|exact qbm|exact qbf|exact qbl|exact qaX|exact qaU|exact qbk|exact qbe|exact qa3|exact qbj|exact qbi|exact qba|exact qbv) ?_ ?_
  |apply ml
  |apply jP
  |apply ms
  |refine mv (λ_ h=>sF U (by assumption) U U (by decide) U U h U) ?_
  |(apply mw;(case hw=>exact U))
  |apply mz
  |apply mB
  |apply iE
  |apply du
  |apply kN
  |apply rP
  |exact T.z _ (by decide)
  |exact qez
  |exact nomark _
  |exact λ_=>rfl
  |with_reducible first|apply jp|apply sh|apply xk|apply mN|apply si|apply xm|apply xn|apply xo|apply sj|apply xq|apply xr|apply sk|apply sq|apply xu|apply kg|apply mO|apply su|apply sv|apply sw|apply sA|apply sB|apply qC|apply qD|apply qE|apply l5|apply qF|apply qG|apply fN|apply qH|apply jD|apply qI|apply qJ|apply iA|apply jE
  |apply f8
  |apply jO
  |apply fz
  |apply jN
  |apply nL
  |apply ad
  |(apply BN T;(case hi=>decide);unfold Bd;(conv in (occs:=*) tV _=>whnf);(conv in (occs:=*) au _=>whnf);(conv in aY _=>whnf);intros)
  |(apply BO T;(case hi=>decide);unfold Bd;(conv in (occs:=*) tV _=>whnf);(conv in (occs:=*) au _=>whnf);(conv in aY _=>whnf);intros)
  |(refine wB (by assumption) scL ?_;(conv in aY _=>whnf);intros)
  |intro
theorem GG (T:Txt K mg):Ck P w K mg base 13 2 dS/\Ck P w K mg base 14 3 j8/\Ck P w K mg base 15 1 fX/\Ck P w K mg base 16 1 ik/\Ck P w K mg base 17 2 fY/\Ck P w K mg base 18 4 iJ/\Ck P w K mg base 19 3 jo/\Ck P w K mg base 20 1 ij/\Ck P w K mg base 21 1 oo/\Ck P w K mg base 22 2 oq/\Ck P w K mg base 23 4 cu/\Ck P w K mg base 24 5 c9/\Ck P w K mg base 25 1 j6:=by
 obtain⟨h0,h1,h2,h3,h4,h5,X,h7,Y,W,e,l,n⟩:=EK (P:=P) (w:=w) (base:=base) T;obtain⟨a,G,o,c1,c2,c3,S,O,Q⟩:=T.c;have y:=mP (P:=P) (w:=w) (base:=base) T c2
 repeat' first
  |assumption
  |exact rfl
  |decide
  |exact Or.inl rfl
  |exact Or.inr rfl
  |exact Or.inr (Or.inl rfl)
  |exact Or.inr (Or.inr rfl)
  |apply mE
  |apply mF
  |apply iF
  |apply jV
  |apply nP
  |apply nQ
  |apply bY
  |apply bo
  |apply kL
  |apply iv
  |apply nK
  |apply rH
  |(apply qe9;apply gT;(case hsw=>exact U);(case hns=>assumption);(case hN=>assumption);(case h=>decide +kernel))
  |(apply qeA;apply gT;(case hsw=>exact U);(case hns=>assumption);(case hN=>assumption);(case h=>decide +kernel))
  |(apply qe9;apply eE;(case hsw=>exact U);(case hns=>assumption);(case hN=>assumption);(case h=>decide +kernel))
  |(apply qeA;apply eE;(case hsw=>exact U);(case hns=>assumption);(case hN=>assumption);(case h=>decide +kernel))
  |apply rJ
  |apply wJ
  |apply wI
  |apply l9
  |apply rM
  |apply wP
  |apply rn
  |(apply rq;(case hns=>assumption);(case hN=>assumption);(case h=>decide +kernel))
  |apply mj
  |apply mh
  |apply nO
  |apply nM
  |apply rg
  |apply wF
  |apply rm
  |apply iG
  |apply mG
  |apply nY
  |apply jT
  |apply wQ
  |apply mI
  |apply rQ
  |apply jW
  |apply mH
  |apply rO
  |apply nJ
  |apply wH
  |apply qX
  |apply kM
  |apply wM
  |apply mC
  |apply jU
  |apply mq
  |apply mo
  |apply jS
  |apply mn
  |apply mm
  |(apply mD;(case hns=>assumption);(case hN=>assumption);(case h=>decide +kernel))
  |apply jM (N:=["self","rows","bounds","gains"]) (ps:=["self","rows","bounds","gains"])
  |refine jL rfl (by assumption) (by assumption) ?_ ?_ ?_ ?_ ?_ ?_
  |refine iD rfl (by assumption) (by assumption) ?_ ?_ ?_ ?_ ?_ ?_
  |refine wG (by with_reducible first|exact qbo|exact qbn|exact qbm|exact qbf|exact qbl|exact qaX|exact qaU|exact qbk|exact qbe|exact qa3|exact qbj|exact qbi|exact qba|exact qbv) ?_ ?_ ?_ ?_ ?_ ?_ ?_ ?_ ?_
  |refine wL (by with_reducible first|exact qbo|exact qbn|exact qbm|exact qbf|exact qbl|exact qaX|exact qaU|exact qbk|exact qbe|exact qa3|exact qbj|exact qbi|exact qba|exact qbv) ?_ ?_ ?_ ?_ ?_ ?_ ?_ ?_ ?_
  |apply qW
  |apply iB
  |apply ma
  |apply qY
  |apply md
  |apply qZ
  |apply re
  |apply me
  |apply mf
  |apply rh
  |apply rj
  |refine wK ?_ ?_ (by with_reducible first|exact qbo|exact qbn|exact qbm|exact qbf|exact qbl|exact qaX|exact qaU|exact qbk|exact qbe|exact qa3|exact qbj|exact qbi|exact qba|exact qbv) ?_ ?_
  |apply ml
  |apply jP
  |apply ms
  |refine mv (λ_ h=>sF U (by assumption) U U (by decide) U U h U) ?_
  |(apply mw;(case hw=>exact U))
  |apply mz
  |apply mB
  |apply iE
  |apply du
  |apply kN
  |apply rP
  |exact T.z _ (by decide)
  |exact qez
  |exact nomark _
  |exact λ_=>rfl
  |with_reducible first|apply jp|apply sh|apply xk|apply mN|apply si|apply xm|apply xn|apply xo|apply sj|apply xq|apply xr|apply sk|apply sq|apply xu|apply kg|apply mO|apply su|apply sv|apply sw|apply sA|apply sB|apply qC|apply qD|apply qE|apply l5|apply qF|apply qG|apply fN|apply qH|apply jD|apply qI|apply qJ|apply iA|apply jE
  |apply f8
  |apply jO
  |apply fz
  |apply jN
  |apply nL
  |apply ad
  |(apply BN T;(case hi=>decide);unfold Bd;(conv in (occs:=*) tV _=>whnf);(conv in (occs:=*) au _=>whnf);(conv in aY _=>whnf);intros)
  |(apply BO T;(case hi=>decide);unfold Bd;(conv in (occs:=*) tV _=>whnf);(conv in (occs:=*) au _=>whnf);(conv in aY _=>whnf);intros)
  |(refine wB (by assumption) scL ?_;(conv in aY _=>whnf);intros)
  |intro
theorem HX (T:Txt K mg):Ck P w K mg base 26 1 ii/\Ck P w K mg base 27 3 iK/\Ck P w K mg base 28 2 dz/\Ck P w K mg base 29 6 jn/\Ck P w K mg base 30 7 ou/\Ck P w K mg base 31 8 iH/\Ck P w K mg base 32 1 jm/\Ck P w K mg base 33 1 aL/\Ck P w K mg base 34 1 cc/\Ck P w K mg base 35 1 fV/\Ck P w K mg base 36 2 fW/\Ck P w K mg base 37 1 dR/\Ck P w K mg base 38 3 c8:=by
 obtain⟨h0,h1,h2,h3,h4,h5,X,h7,Y,W,e,l,n⟩:=EK (P:=P) (w:=w) (base:=base) T;obtain⟨V,M,C,u,q,t,J,D,I,v,L,R,r⟩:=GG (P:=P) (w:=w) (base:=base) T;obtain⟨a,G,o,c1,c2,c3,S,O,Q⟩:=T.c;have y:=mP (P:=P) (w:=w) (base:=base) T c2
 repeat' first
  |assumption
  |exact rfl
  |decide
  |exact Or.inl rfl
  |exact Or.inr rfl
  |exact Or.inr (Or.inl rfl)
  |exact Or.inr (Or.inr rfl)
  |apply mE
  |apply mF
  |apply iF
  |apply jV
  |apply nP
  |apply nQ
  |apply bY
  |apply bo
  |apply kL
  |apply iv
  |apply nK
  |apply rH
  |(apply qe9;apply gT;(case hsw=>exact U);(case hns=>assumption);(case hN=>assumption);(case h=>decide +kernel))
  |(apply qeA;apply gT;(case hsw=>exact U);(case hns=>assumption);(case hN=>assumption);(case h=>decide +kernel))
  |(apply qe9;apply eE;(case hsw=>exact U);(case hns=>assumption);(case hN=>assumption);(case h=>decide +kernel))
  |(apply qeA;apply eE;(case hsw=>exact U);(case hns=>assumption);(case hN=>assumption);(case h=>decide +kernel))
  |apply rJ
  |apply wJ
  |apply wI
  |apply l9
  |apply rM
  |apply wP
  |apply rn
  |(apply rq;(case hns=>assumption);(case hN=>assumption);(case h=>decide +kernel))
  |apply mj
  |apply mh
  |apply nO
  |apply nM
  |apply rg
  |apply wF
  |apply rm
  |apply iG
  |apply mG
  |apply nY
  |apply jT
  |apply wQ
  |apply mI
  |apply rQ
  |apply jW
  |apply mH
  |apply rO
  |apply nJ
  |apply wH
  |apply qX
  |apply kM
  |apply wM
  |apply mC
  |apply jU
  |apply mq
  |apply mo
  |apply jS
  |apply mn
  |apply mm
  |(apply mD;(case hns=>assumption);(case hN=>assumption);(case h=>decide +kernel))
  |apply jM (N:=["self","rows","bounds","gains"]) (ps:=["self","rows","bounds","gains"])
  |refine jL rfl (by assumption) (by assumption) ?_ ?_ ?_ ?_ ?_ ?_
  |refine iD rfl (by assumption) (by assumption) ?_ ?_ ?_ ?_ ?_ ?_
  |refine wG (by with_reducible first|exact qbo|exact qbn|exact qbm|exact qbf|exact qbl|exact qaX|exact qaU|exact qbk|exact qbe|exact qa3|exact qbj|exact qbi|exact qba|exact qbv) ?_ ?_ ?_ ?_ ?_ ?_ ?_ ?_ ?_
  |refine wL (by with_reducible first|exact qbo|exact qbn|exact qbm|exact qbf|exact qbl|exact qaX|exact qaU|exact qbk|exact qbe|exact qa3|exact qbj|exact qbi|exact qba|exact qbv) ?_ ?_ ?_ ?_ ?_ ?_ ?_ ?_ ?_
  |apply qW
  |apply iB
  |apply ma
  |apply qY
  |apply md
  |apply qZ
  |apply re
  |apply me
  |apply mf
  |apply rh
  |apply rj
  |refine wK ?_ ?_ (by with_reducible first|exact qbo|exact qbn|exact qbm|exact qbf|exact qbl|exact qaX|exact qaU|exact qbk|exact qbe|exact qa3|exact qbj|exact qbi|exact qba|exact qbv) ?_ ?_
  |apply ml
  |apply jP
  |apply ms
  |refine mv (λ_ h=>sF U (by assumption) U U (by decide) U U h U) ?_
  |(apply mw;(case hw=>exact U))
  |apply mz
  |apply mB
  |apply iE
  |apply du
  |apply kN
  |apply rP
  |exact T.z _ (by decide)
  |exact qez
  |exact nomark _
  |exact λ_=>rfl
  |with_reducible first|apply jp|apply sh|apply xk|apply mN|apply si|apply xm|apply xn|apply xo|apply sj|apply xq|apply xr|apply sk|apply sq|apply xu|apply kg|apply mO|apply su|apply sv|apply sw|apply sA|apply sB|apply qC|apply qD|apply qE|apply l5|apply qF|apply qG|apply fN|apply qH|apply jD|apply qI|apply qJ|apply iA|apply jE
  |apply f8
  |apply jO
  |apply fz
  |apply jN
  |apply nL
  |apply ad
  |(apply BN T;(case hi=>decide);unfold Bd;(conv in (occs:=*) tV _=>whnf);(conv in (occs:=*) au _=>whnf);(conv in aY _=>whnf);intros)
  |(apply BO T;(case hi=>decide);unfold Bd;(conv in (occs:=*) tV _=>whnf);(conv in (occs:=*) au _=>whnf);(conv in aY _=>whnf);intros)
  |(refine wB (by assumption) scL ?_;(conv in aY _=>whnf);intros)
  |intro
theorem HY (T:Txt K mg):Ck P w K mg base 39 2 on/\Ck P w K mg base 40 2 ig/\Ck P w K mg base 41 2 cY/\Ck P w K mg base 42 4 cZ/\Ck P w K mg base 43 2 b4/\∀ f g,Fun K "law" "law" (top 55) f g->dh P w K mg base CX0 9 f g ["_law_script"] (spI K uq):=by
 obtain⟨h0,h1,h2,h3,h4,h5,X,h7,Y,W,e,l,n⟩:=EK (P:=P) (w:=w) (base:=base) T;obtain⟨V,M,C,u,q,t,J,D,I,v,L,R,r⟩:=GG (P:=P) (w:=w) (base:=base) T;obtain⟨h26,h27,h28,h29,h30,h31,h32,h33,h34,h35,h36,h37,h38⟩:=HX (P:=P) (w:=w) (base:=base) T;obtain⟨a,G,o,c1,c2,c3,S,O,Q⟩:=T.c;have y:=mP (P:=P) (w:=w) (base:=base) T c2
 repeat' first
  |assumption
  |exact rfl
  |decide
  |exact Or.inl rfl
  |exact Or.inr rfl
  |exact Or.inr (Or.inl rfl)
  |exact Or.inr (Or.inr rfl)
  |apply mE
  |apply mF
  |apply iF
  |apply jV
  |apply nP
  |apply nQ
  |apply bY
  |apply bo
  |apply kL
  |apply iv
  |apply nK
  |apply rH
  |(apply qe9;apply gT;(case hsw=>exact U);(case hns=>assumption);(case hN=>assumption);(case h=>decide +kernel))
  |(apply qeA;apply gT;(case hsw=>exact U);(case hns=>assumption);(case hN=>assumption);(case h=>decide +kernel))
  |(apply qe9;apply eE;(case hsw=>exact U);(case hns=>assumption);(case hN=>assumption);(case h=>decide +kernel))
  |(apply qeA;apply eE;(case hsw=>exact U);(case hns=>assumption);(case hN=>assumption);(case h=>decide +kernel))
  |apply rJ
  |apply wJ
  |apply wI
  |apply l9
  |apply rM
  |apply wP
  |apply rn
  |(apply rq;(case hns=>assumption);(case hN=>assumption);(case h=>decide +kernel))
  |apply mj
  |apply mh
  |apply nO
  |apply nM
  |apply rg
  |apply wF
  |apply rm
  |apply iG
  |apply mG
  |apply nY
  |apply jT
  |apply wQ
  |apply mI
  |apply rQ
  |apply jW
  |apply mH
  |apply rO
  |apply nJ
  |apply wH
  |apply qX
  |apply kM
  |apply wM
  |apply mC
  |apply jU
  |apply mq
  |apply mo
  |apply jS
  |apply mn
  |apply mm
  |(apply mD;(case hns=>assumption);(case hN=>assumption);(case h=>decide +kernel))
  |apply jM (N:=["self","rows","bounds","gains"]) (ps:=["self","rows","bounds","gains"])
  |refine jL rfl (by assumption) (by assumption) ?_ ?_ ?_ ?_ ?_ ?_
  |refine iD rfl (by assumption) (by assumption) ?_ ?_ ?_ ?_ ?_ ?_
  |refine wG (by with_reducible first|exact qbo|exact qbn|exact qbm|exact qbf|exact qbl|exact qaX|exact qaU|exact qbk|exact qbe|exact qa3|exact qbj|exact qbi|exact qba|exact qbv) ?_ ?_ ?_ ?_ ?_ ?_ ?_ ?_ ?_
  |refine wL (by with_reducible first|exact qbo|exact qbn|exact qbm|exact qbf|exact qbl|exact qaX|exact qaU|exact qbk|exact qbe|exact qa3|exact qbj|exact qbi|exact qba|exact qbv) ?_ ?_ ?_ ?_ ?_ ?_ ?_ ?_ ?_
  |apply qW
  |apply iB
  |apply ma
  |apply qY
  |apply md
  |apply qZ
  |apply re
  |apply me
  |apply mf
  |apply rh
  |apply rj
  |refine wK ?_ ?_ (by with_reducible first|exact qbo|exact qbn|exact qbm|exact qbf|exact qbl|exact qaX|exact qaU|exact qbk|exact qbe|exact qa3|exact qbj|exact qbi|exact qba|exact qbv) ?_ ?_
  |apply ml
  |apply jP
  |apply ms
  |refine mv (λ_ h=>sF U (by assumption) U U (by decide) U U h U) ?_
  |(apply mw;(case hw=>exact U))
  |apply mz
  |apply mB
  |apply iE
  |apply du
  |apply kN
  |apply rP
  |exact T.z _ (by decide)
  |exact qez
  |exact nomark _
  |exact λ_=>rfl
  |with_reducible first|apply jp|apply sh|apply xk|apply mN|apply si|apply xm|apply xn|apply xo|apply sj|apply xq|apply xr|apply sk|apply sq|apply xu|apply kg|apply mO|apply su|apply sv|apply sw|apply sA|apply sB|apply qC|apply qD|apply qE|apply l5|apply qF|apply qG|apply fN|apply qH|apply jD|apply qI|apply qJ|apply iA|apply jE
  |apply f8
  |apply jO
  |apply fz
  |apply jN
  |apply nL
  |apply ad
  |(apply BN T;(case hi=>decide);unfold Bd;(conv in (occs:=*) tV _=>whnf);(conv in (occs:=*) au _=>whnf);(conv in aY _=>whnf);intros)
  |(apply BO T;(case hi=>decide);unfold Bd;(conv in (occs:=*) tV _=>whnf);(conv in (occs:=*) au _=>whnf);(conv in aY _=>whnf);intros)
  |(refine wB (by assumption) scL ?_;(conv in aY _=>whnf);intros)
  |intro
end
end Own
end
namespace L2
open PySem
def lT:Nat->List (List Int)
 |0=>[[]]
 |n+1=>lT n++(lT n).map λt=>t++[(n:Int)]
def cf (n:Nat):List (List Int):=aD (lT n)
theorem ua:∀ n,(lT n).length=2^n
 |0=>rfl
 |n+1=>by rw[lT,qaA,qah,ua n];lia
theorem m6 (n):(cf n).length=2^n :=by rw[cf,(aI _).length_eq,ua]
def Trm (n:Nat) (t:List Int):Prop:=t.Pairwise (·<·)/\∀ k∈t,0<=k/\k<n
theorem Trm.mono (h:Trm n t) (hn:n<=m):Trm m t :=⟨h.1,λk a=>⟨(h.2 k a).1,by have:=(h.2 k a).2;lia⟩⟩
theorem fu:∀ (n) {t},t∈lT n->Trm n t
 |0,t,h=>by
  rw[lT,qan]at h;subst h;exact⟨List.Pairwise.nil,λk c=>by cases c⟩
 |n+1,t,h=>by
  rcases qaT.mp h with h|h
  ·exact (fu n h).mono (qcZ n)
  ·obtain⟨u,e,rfl⟩:=qaJ.mp h
   have:=fu n e
   refine⟨List.pairwise_append.mpr ⟨this.1,qgS _ _,λa d b hb=>?_⟩,λk c=>?_⟩
   ·rw[qan.mp hb];exact (this.2 a d).2
   ·rcases qaT.mp c with c|c
    ·exact⟨(this.2 k c).1,by have:=(this.2 k c).2;lia⟩
    ·rw[qan.mp c];lia
theorem sU (h:Trm n t):t.length<=n :=by
 have b:∀ (t:List Int) (a:Int),t.Pairwise (·<·)->(∀ k∈t,a<=k/\k<n)->(t.length)<=max 0 ((n) - a):=by
  intro t
  induction t with
  |nil=>intro a _ _;simp;lia
  |cons x t e=>
   intro a c hm;have f:=hm x qag
   have:=e _ (qa8.mp c).2 λk d=>⟨(qa8.mp c).1 k d,(hm k (qaj _ d)).2⟩
   rw[qat];lia
 have:=b t 0 h.1 h.2
 lia
def onI (row k:Int):Int:=row / 2^k.toNat%2
def eV (row:Int):List Int->Int
 |[]=>0
 |k::t=>onI row k+eV row t
theorem DC (row k):onI row k=0\/onI row k=1 :=by unfold onI;lia
theorem tT (row):∀ t,(t.map (onI row)).sum=eV row t
 |[]=>rfl
 |k::t=>by rw[qaz,qcw,tT row t];rfl
theorem BQ (row):∀ t,0<=eV row t/\eV row t<=t.length
 |[]=>by simp[eV]
 |k::t=>by
  have a:=BQ row t;rcases DC row k with e|e<;>(simp only[eV,e,qat];lia)
def mX (u:D):Prop:=u=.non\/u=.int 0\/u=.int 1
def bD:Nat->List D->List Int
 |_,[]=>[]
 |i,.non::r=>bD (i+1) r
 |i,_::r=>(i:Int)::bD (i+1) r
def sgD:D->Int
 |.int v=>if v=1 then 1 else -1
 |_=>1
theorem lc:∀ (r) (i) {j},j∈bD i r->∃ m,j=((i+m:Nat))/\m<r.length/\r[m]?≠some .non
 |[],i,j,h=>by cases h
 |d::r,i,j,h=>by
  have up:j∈bD _ r->∃ m:Nat,j=((i+m))/\m<(d::r).length/\(d::r)[m]?≠some .non:=λh=>by
   obtain⟨m,e,hm,hn⟩:=lc r (i+1) h;exact⟨m+1,by lia,by simpa using hm,by simpa using hn⟩
  cases d with
  |non=>exact up h
  |_=>
   rcases qaw.mp h with rfl|h
   ·exact⟨0,by simp,by simp,by simp⟩
   ·exact up h
def C5:D->Bool
 |.tup [_,v]=>!cU v
 |_=>false
def Fk:D->D
 |.tup [j,_]=>j
 |d=>d
theorem oY:∀ (r) (i),((bE i r).filter C5).map Fk=(bD i r).map D.int
 |[],i=>rfl
 |d::r,i=>by
  have a:=oY r (i+1);have e0:bE i (d::r)=.tup [.int _,d]::bE _ r:=rfl;rw[e0,qdp];cases d<;>first
   |(exact a)
   |(rw[iFP (show C5 _=true from rfl),qaz,a];rfl)
theorem qi:∀ (r) (i),(bD i r).length<=r.length
 |[],i=>qao _
 |d::r,i=>by
  have a:=qi r (i+1);cases d<;>first
   |(show (bD _ r).length<=r.length+1;lia)
   |(show (bD _ r).length+1<=r.length+1;lia)
abbrev Prt:=List Int×Int
def ce (p:Prt):D:=.tup [ak p.1,.int p.2]
def bL (kd:Str) (ps:List Prt):D:=.tup [.str kd,.tup (ps.map ce)]
theorem xb:∀ (ns) (m),m<=fZ ns m/\∀ n∈ns,n<=fZ ns m
 |[],m=>⟨qcs _,λ_ h=>by cases h⟩
 |n::ns,m=>by
  have b:=xb ns (if n > m then n else m);rw[fZ];refine⟨qen ?_ b.1,λk a=>?_⟩
  ·split<;>lia
  ·rcases qaw.mp a with rfl|a
   ·split<;>lia
   ·exact b.2 k a
def cR:Nat->List Int->Nat
 |g,[]=>g
 |g,n::ns=>cR (qgv g n.natAbs) ns
theorem t9 (n):∀ (g) (ns),cR g (ns++[n])=qgv (cR g ns) n.natAbs
 |g,[]=>rfl
 |g,m::ns=>t9 n _ ns
theorem cS:∀ (g) (ns),cR g ns∣g/\∀ n∈ns,cR g ns∣n.natAbs
 |g,[]=>⟨Nat.dvd_refl _,λ_ h=>by cases h⟩
 |g,m::ns=>by
  have a:=cS (qgv g m.natAbs) ns;refine⟨qjb a.1 (Nat.gcd_dvd_left _ _),λn hn=>?_⟩;rcases qaw.mp hn with rfl|hn
  ·exact qjb a.1 (Nat.gcd_dvd_right _ _)
  ·exact a.2 n hn
theorem zL (hn:n∈ns) (b:n≠0):0<cR 0 ns/\cR 0 ns<=n.natAbs :=by
 have h:=(cS 0 ns).2 n hn;have a:0<n.natAbs:=by lia
 exact⟨Nat.pos_of_dvd_of_pos h a,Nat.le_of_dvd a h⟩
theorem ac (e:a env st=some (x,s1)) (hb:b env s1=some (y,c)) (hg:g c x y=some d):iOp g a b env st=some (.d d,c) :=by
 simp only[iOp,e,hb,hg,qac,qap]
theorem aj (d:a env st=some (x,s1)) (hb:b env s1=some (y,c)) (hg:g c x y=some (.bl k)):aE g a b env st=some (k,c) :=by
 simp only[aE,d,hb,hg,qac,yc,qap]
theorem mS (c:a env st=some (.nx e s)) (hb:b e s=some r):ag a b env st=some r :=by
 simp only[ag,c,hb,qac]
theorem xH (c:a env st=some (.rt w s)):ag a b env st=some (.rt w s) :=by
 simp only[ag,c,qac]
theorem ao (h:f env st=some (w,s)):aB (.nm i) f env st=some (.nx (env.set i (some w)) s) :=by
 simp only[aB,h,qac,cx,qap]
theorem ai (b:a env st=some (ws,s)) (hm:m ws s=some r):az m a env st=some r :=by
 simp only[az,b,hm,qac]
theorem ar (b:a env st=some (ws,s)) (hm:g s ws=some d):iCB g a env st=some (.d d,s) :=by
 simp only[iCB,b,hm,qac,qap]
theorem ab (d:a env st=some (x,s1)) (hb:b env s1=some (y,c)):aa a b env st=some (x::y,c) :=by
 simp only[aa,d,hb,qac,qap]
theorem bg (h:a env st=some (ds,s)) (c:bH g b ds env s=some r):dq a g b env st=some r :=by
 simp only[dq,h,c,qac]
theorem aC (h:f env st=some (w,s)):aN f env st=some (.rt w s) :=by
 simp only[aN,h,qap]
theorem DK (h:c env st=some (true,s)) (d:a env s=r):bb c a b env st=r :=by
 simp only[bb,h,qac,if_true,d]
theorem DJ (h:c env st=some (false,s)) (hb:b env s=r):bb c a b env st=r :=by
 simp only[bb,h,qac,qbs,if_false,hb]
theorem aH (h:c env st=some (ds,s)) (e:ds.length<=1000000) (d:lcI g tt te (jI k js env) ds s=some (b,a)):iLc k js c g tt te env st=some (b,a) :=by
 simp only[iLc,h,d,e,qac,if_true]
theorem aq (h:a env st=some (ds,s)):ap a env st=some (.d (.lst ds),s) :=by
 simp only[ap,h,qap]
theorem ax (a:ws.length=k) (h:b (ws.map some++qaG (n - k) none) st=some (.rt w s)):bz n k b ws st=some (w,s) :=by
 simp only[bz,a,if_true,h,qac]
theorem dX {b:Sf}(a:ws.length=k) (h:b (ws.map some++qaG (n - k) none) st=some (.rt (.d x) s)):d8 n k b ws st=some (.d x,s.take st.length) :=by
 simp only[d8,a,if_true,h,qac,zI]
structure Spo where
 xs:List Int
 s:Int
 c:Int
def spo (p:Spo) (a:Sto):Sto:=.l (p.xs.map D.int)::.n [.h 0,.d (.int p.s),.d (.int p.c)]::a
def okP (p:Spo) (Zq:Int):Prop:=(∀ x∈p.xs,0<=x)/\p.xs.length<=63/\0<=p.c/\p.c<=Zq
theorem okP.mono (h:okP p Zq) (hz:Zq<=Z'):okP p Z' :=⟨h.1,h.2.1,h.2.2.1,qen h.2.2.2 hz⟩
theorem Dx (n):ixN (n+1) 0=some 0 :=HR n
end L2
namespace Sx
abbrev Vec:=Nat->Int
def sumN:Nat->(Nat->Int)->Int
 |0,_=>0
 |n+1,f=>sumN n f+f n
theorem sumN_congr (h:∀ k,k<n->f k=g k):sumN n f=sumN n g :=by
 induction n with
 |zero=>rfl
 |succ n F=>rw[sumN,sumN,F λk H=>h k (by omega),h n (by omega)]
theorem sumN_add (n) (f g):sumN n (λk=>f k+g k)=sumN n f+sumN n g :=by
 induction n with
 |zero=>rfl
 |succ n F=>rw[sumN,sumN,sumN];omega
theorem sumN_mul (n) (c) (f):sumN n (λk=>c*f k)=c*sumN n f :=by
 induction n with
 |zero=>simp[sumN]
 |succ n F=>rw[sumN,sumN,F,qcA]
theorem sumN_zero (n):sumN n (λ_=>0)=0 :=by
 induction n with
 |zero=>rfl
 |succ n F=>rw[sumN,F];rfl
theorem sumN_single (hi:i<n) (h:∀ k,k<n->k≠i->f k=0):sumN n f=f i :=by
 induction n with
 |zero=>omega
 |succ n F=>
  rw[sumN];by_cases e:i=n
  ·subst e
   rw[sumN_congr λk H=>h k (by omega) (by omega),sumN_zero];omega
  ·rw[F (by omega) λk H s=>h k (by omega) s,h n (by omega) (by omega)];omega
theorem sumN_pair (hi:i<n) (N:j<n) (hij:i≠j) (h:∀ k,k<n->k≠i->k≠j->f k=0):sumN n f=f i+f j :=by
 have e:sumN n f=sumN n (λk=>(if k=i then f i else 0)+(if k=j then f j else 0)):=by
  refine sumN_congr λk H=>?_;by_cases J:k=i
  ·subst J;omega
  ·by_cases L:k=j
   ·subst L;omega
   ·rw[iFN J,iFN L,h k H J L];rfl
 rw[e,sumN_add,sumN_single hi λk _ s=>iFN s,sumN_single N λk _ s=>iFN s,iFP U,iFP U]
def skip (k j:Nat):Nat:=if j<k then j else j+1
def sg (k:Nat):Int:=if k%2=0 then 1 else -1
theorem sg_succ (k):sg (k+1)=- sg k :=by
 unfold sg;by_cases h:k%2=0
 ·rw[iFP h,iFN (by omega)]
 ·rw[iFN h,iFP (by omega)];rfl
def det:Nat->(Nat->Vec)->Int
 |0,_=>1
 |m+1,C=>sumN (m+1) λk=>sg k*C k 0*det m (λj t=>C (skip k j) (t+1))
theorem det_congr:∀ (m:Nat) {C E:Nat->Vec},(∀ k t,k<m->t<m->C k t=E k t)->det m C=det m E:=by
 intro m
 induction m with
 |zero=>intros;rfl
 |succ m F=>
  intro C E h;refine sumN_congr λk H=>?_;rw[h k 0 H (by omega),F λj t N ht=>h _ _ (by unfold skip;split<;>omega) (by omega)]
def upd (C:Nat->Vec) (i:Nat) (v:Vec):Nat->Vec:=λj=>if j=i then v else C j
theorem upd_same (C) (i) (v):upd C i v i=v :=iFP U
theorem upd_ne (h:j≠i):upd C i v j=C j :=iFN h
theorem upd_self (C) (i):upd C i (C i)=C :=by
 funext j
 by_cases h:j=i
 ·rw[h,upd_same]
 ·rw[upd_ne h]
theorem upd_upd (C) (i) (u v):upd (upd C i u) i v=upd C i v :=by
 funext j
 by_cases h:j=i
 ·rw[h,upd_same,upd_same]
 ·rw[upd_ne h,upd_ne h,upd_ne h]
theorem upd_comm (h:i≠j):upd (upd C i u) j v=upd (upd C j v) i u :=by
 funext k
 by_cases J:k=i
 ·subst J;rw[upd_ne h,upd_same,upd_same]
 ·by_cases L:k=j
  ·subst L;rw[upd_same,upd_ne J,upd_same]
  ·rw[upd_ne L,upd_ne J,upd_ne J,upd_ne L]
def unskip (k i:Nat):Nat:=if i<k then i else i - 1
theorem skip_upd (h:k≠i):(λj t=>upd C i v (skip k j) (t+1))=upd (λj t=>C (skip k j) (t+1)) (unskip k i) (λt=>v (t+1)) :=by
 funext j t
 unfold upd skip unskip;by_cases J:j<k<;>by_cases L:i<k<;>simp only[J,L,if_true,if_false]
 ·by_cases e:j=i
  ·rw[iFP e,iFP e]
  ·rw[iFN e,iFN e]
 ·rw[iFN (by omega),iFN (by omega)]
 ·rw[iFN (by omega),iFN (by omega)]
 ·by_cases e:j+1=i
  ·rw[iFP e,iFP (by omega)]
  ·rw[iFN e,iFN (by omega)]
theorem skip_self :(λj t=>upd C i v (skip i j) (t+1))=λj t=>C (skip i j) (t+1) :=by
 funext j t
 rw[upd_ne];unfold skip;split<;>omega
theorem det_add:∀ (m) (C) (i) (u v),i<m->det m (upd C i λt=>u t+v t)=det m (upd C i u)+det m (upd C i v) :=by
 intro m
 induction m with
 |zero=>omega
 |succ m F=>
  intro C i u v hi;rw[det,det,det,<-sumN_add];refine sumN_congr λk H=>?_;by_cases e:k=i
  ·subst e
   rw[skip_self,skip_self,skip_self,upd_same,upd_same,upd_same,qcA,qeK]
  ·rw[skip_upd e,skip_upd e,skip_upd e,upd_ne e,upd_ne e,upd_ne e,F _ _ _ _ (by unfold unskip;split<;>omega),qcA]
theorem det_mul:∀ (m) (C) (i) (c) (u),i<m->det m (upd C i λt=>c*u t)=c*det m (upd C i u) :=by
 intro m
 induction m with
 |zero=>omega
 |succ m F=>
  intro C i c u hi;rw[det,det,<-sumN_mul];refine sumN_congr λk H=>?_;by_cases e:k=i
  ·subst e
   rw[skip_self,skip_self,upd_same,upd_same];rw[show sg k*_=c*_ by rw[qaR],qbu]
  ·rw[skip_upd e,skip_upd e,upd_ne e,upd_ne e,F _ _ c _ (by unfold unskip;split<;>omega),qaR]
theorem det_adj:∀ (m) (C) (i),i+1<m->C i=C (i+1)->det m C=0 :=by
 intro m
 induction m with
 |zero=>omega
 |succ m F=>
  intro C i hi h;rw[det,sumN_pair (i:=i) (by omega) (by omega) (by omega) λk H J L=>?_]
  ·have e:(λj t=>C (skip i j) (t+1))=λj t=>C (skip (i+1) j) (t+1):=by
    funext j t
    by_cases e:j=i
    ·subst e
     have a1:skip j j=j+1:=by unfold skip;rw[iFN (by omega)]
     have a2:skip (j+1) j=j:=by unfold skip;rw[iFP (by omega)]
     rw[a1,a2,h]
    ·have:skip i j=skip (i+1) j:=by
      unfold skip;by_cases J:j<i
      ·rw[iFP J,iFP (by omega)]
      ·rw[iFN J,iFN (by omega)]
     rw[this]
   rw[e,h,sg_succ];rw[<-qeK,<-qeK];rw[show sg i+-sg i=0 by omega]
   simp
  ·have hz:det m (λj t=>C (skip k j) (t+1))=0:=by
    by_cases l:k<i
    ·refine F _ (i - 1) (by omega) ?_
     funext t
     have a1:skip k (i - 1)=i:=by unfold skip;rw[iFN (by omega)];omega
     have a2:skip k (i - 1+1)=i+1:=by unfold skip;rw[iFN (by omega)];omega
     rw[a1,a2,h]
    ·refine F _ i (by omega) ?_
     funext t
     have a1:skip k i=i:=by unfold skip;rw[iFP (by omega)]
     have a2:skip k (i+1)=i+1:=by unfold skip;rw[iFP (by omega)]
     rw[a1,a2,h]
   rw[hz,qa7]
theorem det_swap (C) (hi:i+1<m):det m (upd (upd C i (C (i+1))) (i+1) (C i))=- det m C :=by
 have Q:∀ u v ,det m (upd (upd C i u) (i+1) v)+det m (upd (upd C i v) (i+1) u)=0:=λu v=>by
  have h0:det m (upd (upd C i λt=>u t+v t) (i+1) λt=>u t+v t)=0:=det_adj m _ i hi (by rw[upd_ne (by omega),upd_same,upd_same]);have hv:det m (upd (upd C i v) (i+1) v)=0:=det_adj m _ i hi (by rw[upd_ne (by omega),upd_same,upd_same]);rw[det_add m _ _ u v hi,upd_comm (by omega),upd_comm (v:=v) (by omega),det_add m _ i u v (by omega),det_add m _ i u v (by omega)]at h0;rw[<-upd_comm (by omega),<-upd_comm (u:=v) (by omega),<-upd_comm (i:=i) (by omega),<-upd_comm (u:=v) (v:=v) (by omega),(det_adj m _ i hi (by rw[upd_ne (by omega),upd_same,upd_same]))]at h0;omega
 have:=Q (C i) (C (i+1))
 have e:upd (upd C i (C i)) (i+1) (C (i+1))=C:=by rw[upd_self,upd_self]
 rw[e]at this;omega
theorem det_same :∀ (d) (C) (i j),j=i+d+1->j<m->C i=C j->det m C=0 :=by
 intro d
 induction d with
 |zero=>intro C i j N hm h;subst N;exact det_adj m C i hm h
 |succ d F=>
  intro C i j N hm h;have hs:=det_swap (m:=m) C (i:=j - 1) (by omega);have e1:j - 1+1=j:=by omega
  rw[e1]at hs
  have:=F (upd (upd C (j - 1) _) j (C (j - 1))) i (j - 1) (by omega) (by omega) (by rw[upd_ne (by omega),upd_ne (by omega),upd_ne (by omega),upd_same,h])
  omega
theorem det_eq0 (C) (hi:i<m) (N:j<m) (hij:i≠j) (h:C i=C j):det m C=0 :=by
 rcases Nat.lt_or_gt_of_ne hij with J|J
 ·exact det_same (j - i - 1) C i j (by omega) N h
 ·exact det_same (i - j - 1) C j i (by omega) hi h.symm
theorem det_zero (C) (hi:i<m):det m (upd C i λ_=>0)=0 :=by
 simpa using (det_mul m C i 0 (λ_=>0) hi)
theorem det_sum (C) (hi:i<m) (x:Nat->Int) (V:Nat->Vec):∀ n,det m (upd C i λt=>sumN n λk=>x k*V k t)=sumN n λk=>x k*det m (upd C i (V k)) :=by
 intro n
 induction n with
 |zero=>exact det_zero C hi
 |succ n F=>
  have e:(λt=>sumN (n+1) λk=>x k*V k t)=λt=>_+x n*V n t:=rfl;rw[e,det_add m C i _ _ hi,F,det_mul m C i _ _ hi];rfl
theorem cramer (B) (a) (p) (x:Nat->Int) (h:∀ t,p*a t=sumN m λk=>x k*B k t) (hi:i<m):p*det m (upd B i a)=x i*det m B :=by
 rw[<-det_mul m B i p a hi];rw[(funext h),det_sum B hi x B m,sumN_single hi λk H s=>?_,upd_self];rw[det_eq0 _ hi H (qbp s) (by rw[upd_same,upd_ne s]),qa7]
theorem cramer2 (B) (a b) (p) (X:p=det m B) (hp0:p≠0) (x y:Nat->Int) (hx:∀ t,p*a t=sumN m λk=>x k*B k t) (hy:∀ t,p*b t=sumN m λk=>y k*B k t) (hi:i<m) (q:r<m) (o:i≠r) :
  p*det m (upd (upd B r a) i b)=x r*y i - x i*y r :=by
 have J:p*det m (upd (upd B r a) i b)=sumN m λk=>y k*det m (upd (upd B r a) i (B k)):=by
  rw[<-det_mul m _ i p b hi];rw[(funext hy),det_sum _ hi y B m]
 rw[J,sumN_pair hi q o λk H L h3=>?_]
 ·have e1:upd (upd B r a) i (B i)=upd B r a:=by
   have:(upd B r a) i=B i:=upd_ne o
   rw[<-this,upd_self]
  have e2:p*det m (upd B r a)=x r*p:=by rw[cramer B a p x hx q,<-X]
  have e3:p*det m (upd (upd B r a) i (B r))=- (x i*p):=by
   rw[(upd_comm (qbp o)),<-det_mul m _ r p a q];rw[(funext hx),det_sum _ q x B m,sumN_single hi λk H s=>?_]
   ·-- columns i and r exchanged
    have hsw:det m (upd (upd B i (B r)) r (B i))=- det m B:=by
     have:=(λu v=>by
      have z:∀ w ,det m (upd (upd B i w) r w)=0:=λw=>det_eq0 _ hi q o (by rw[upd_ne o,upd_same,upd_same]);have h0:=z λt=>u t+v t;rw[det_add m _ r u v q,upd_comm o,upd_comm o,det_add m _ i u v hi,det_add m _ i u v hi]at h0;rw[<-upd_comm o,<-upd_comm o,<-upd_comm o,<-upd_comm o,z u,z v]at h0
      omega) (B i) (B r)
     rw[show upd _ r (B r)=B by rw[upd_self,upd_self]]at this;omega
    rw[hsw,<-X,qgw]
   ·by_cases O:k=r
    ·subst O
     rw[det_eq0 _ hi q o (by rw[upd_ne o,upd_same,upd_same]),qa7]
    ·rw[det_eq0 _ q H (qbp O) (by rw[upd_same,upd_ne O,upd_ne s]),qa7]
  rw[e1]
  have:p*(y i*det m (upd B r a)+y r*det m (upd (upd B r a) i (B r)))=p*(x r*y i - x i*y r):=by
   rw[qcA,qaR,e2,qaR p _,e3,qc1,qgw];rw[show y i*_=p*_ by rw[qaV _,qbt,qaV]];rw[show y r*_=p*(x i*y r) by rw[qaV _,qbu,qaV p _,<-qbu,qaV _ p]];omega
  exact qet hp0 this
 ·rw[det_eq0 _ hi H (qbp L) (by rw[upd_same,upd_ne L,upd_ne h3]),qa7]
noncomputable def unit (k:Nat):Vec:=λt=>if t=k then 1 else 0
theorem det_unit:∀ m,det m unit=1:=by
 intro m
 induction m with
 |zero=>rfl
 |succ m F=>
  rw[det,sumN_single (i:=0) (by omega) λk H s=>by rw[show unit k 0=0 by unfold unit;rw[iFN (by omega)]];simp];have e:(λj t=>unit (skip 0 j) (t+1))=unit:=by
   funext j t
   unfold unit skip;rw[iFN (by omega:¬ j<0)];by_cases h:t=j
   ·rw[iFP (by omega),iFP h]
   ·rw[iFN (by omega),iFN h]
  rw[e,F];rfl
structure Pb where
 m:Nat
 n:Nat
 A:Nat->Vec
 b:Vec
 g:Nat->Int
structure Tb where
 p:Int
 kept:Nat->Nat
 free:Nat->Nat
 T:Nat->Nat->Int
 G:Nat->Int
variable (P:Pb)
def colV (S:Tb) (c:Nat):Vec:=if c<P.n then P.A (S.free c) else P.b
def gainC (S:Tb) (c:Nat):Int:=if c<P.n then P.g (S.free c) else 0
def basis (S:Tb):Nat->Vec:=λi=>P.A (S.kept i)
structure Good (S:Tb):Prop where
 pos:0<S.p
 dt:S.p=det P.m (basis P S)
 eq:∀ c,c<=P.n->∀ t,S.p*colV P S c t=sumN P.m λi=>S.T i c*P.A (S.kept i) t
 goal:∀ c,c<=P.n->S.G c=(sumN P.m λi=>P.g (S.kept i)*S.T i c) - S.p*gainC P S c
def piv (S:Tb) (r e:Nat):Tb where
 p:=S.T r e
 kept:=λi=>if i=r then S.free e else S.kept i
 free:=λc=>if c=e then S.kept r else S.free c
 T:=λi c=>if i=r then (if c=e then S.p else S.T r c) else (if c=e then - S.T i e else (S.T r e*S.T i c - S.T i e*S.T r c) / S.p)
 G:=λc=>if c=e then - S.G e else (S.T r e*S.G c - S.G e*S.T r c) / S.p
variable {P}
theorem Good.entry (h:Good P S) (M:c<=P.n) (hi:i<P.m):S.T i c=det P.m (upd (basis P S) i (colV P S c)) :=by
 have:=cramer (basis P S) _ S.p _ (λt=>h.eq c M t) hi
 rw[<-h.dt,qaV]at this;exact (qgF (by have:=h.pos;omega) this).symm
theorem Good.whole (h:Good P S) (K:e<=P.n) (M:c<=P.n) (hi:i<P.m) (q:r<P.m) (o:i≠r):∃ d,S.T r e*S.T i c - S.T i e*S.T r c=S.p*d :=
 ⟨_,(cramer2 _ _ _ S.p h.dt (by have:=h.pos;omega) _ _ (λt=>h.eq e K t) (λt=>h.eq c M t) hi q o).symm⟩
theorem ediv_of {  d:Int} (X:0<p) (h:a=p*d):p*(a / p)=a :=by
 rw[h,qgT _ (by omega)]
theorem piv_T (h:Good P S) (K:e<=P.n) (M:c<=P.n) (hi:i<P.m) (q:r<P.m) (o:i≠r) (D:c≠e):S.p*(piv S r e).T i c=S.T r e*S.T i c - S.T i e*S.T r c :=by
 obtain⟨d,hd⟩:=h.whole K M hi q o;show S.p*(if i=r then _ else _)=_;rw[iFN o,iFN D];exact ediv_of h.pos hd
theorem sumN_split (q:r<n) (f):sumN n f=f r+sumN n (λk=>if k=r then 0 else f k) :=by
 have e:sumN n f=sumN n (λk=>(if k=r then f r else 0)+(if k=r then 0 else f k)):=by
  refine sumN_congr λk H=>?_;by_cases h:k=r
  ·rw[h];omega
  ·omega
 rw[e,sumN_add,sumN_single q λk _ s=>iFN s,iFP U]
theorem sumN_sub (n) (f g):sumN n (λk=>f k - g k)=sumN n f - sumN n g :=by
 induction n with
 |zero=>rfl
 |succ n F=>rw[sumN,sumN,sumN];omega
theorem piv_eq (h:Good P S) (K:e<P.n) (q:r<P.m):∀ c,c<=P.n->∀ t,(piv S r e).p*colV P (piv S r e) c t=sumN P.m λi=>(piv S r e).T i c*P.A ((piv S r e).kept i) t :=by
 intro c M t;have X:=h.pos;have R:=h.eq e (by omega) t;have hcE:colV P S e=P.A _:=iFP K;rw[hcE,sumN_split q]at R;have kr:(piv S r e).kept r=S.free e:=iFP U;have kn:∀ i,i≠r->(piv S r e).kept i=S.kept i:=λi hi=>iFN hi;rw[sumN_split q,kr];by_cases D:c=e
 ·subst D
  have c1:colV P (piv S r c) c=P.A (S.kept r):=by
   unfold colV;rw[iFP K];show P.A (if c=c then _ else _)=_;rw[iFP U]
  have t1:(piv S r c).T r c=S.p:=by show (if r=r then _ else _)=_;rw[iFP U,iFP U]
  have t2:(sumN P.m λk=>if k=r then 0 else (piv S r c).T k c*P.A ((piv S r c).kept k) t)=- sumN P.m λk=>if k=r then 0 else S.T k c*P.A (S.kept k) t:=by
   have:(sumN P.m λk=>if k=r then 0 else (piv S r c).T k c*P.A ((piv S r c).kept k) t)=sumN P.m λk=>(-1)*(if k=r then 0 else S.T k c*P.A (S.kept k) t):=by
    refine sumN_congr λk H=>?_;by_cases l:k=r
    ·rw[iFP l,iFP l];rfl
    ·rw[iFN l,iFN l,kn k l]
     show (if k=r then _ else _)*_=_;rw[iFN l,iFP U,qdd,qdd,qc0]
   rw[this,sumN_mul];omega
  rw[c1,t1];show S.T r c*P.A _ t=_;omega
 ·have c1:colV P (piv S r e) c=colV P S c:=by
   unfold colV;by_cases I:c<P.n
   ·rw[iFP I,iFP I];show P.A (if c=e then _ else _)=_;rw[iFN D]
   ·rw[iFN I,iFN I]
  have t1:(piv S r e).T r c=S.T r c:=by show (if r=r then _ else _)=_;rw[iFP U,iFN D]
  have W:=h.eq c M t;rw[sumN_split q]at W;rw[c1,t1];refine qet (a:=S.p) (by omega) ?_;have t2:S.p*(sumN P.m λk=>if k=r then 0 else (piv S r e).T k c*P.A ((piv S r e).kept k) t)=(sumN P.m λk=>S.T r e*(if k=r then 0 else S.T k c*P.A (S.kept k) t)) - sumN P.m λk=>S.T r c*(if k=r then 0 else S.T k e*P.A (S.kept k) t):=by
   rw[<-sumN_mul,<-sumN_sub];refine sumN_congr λk H=>?_;by_cases l:k=r
   ·rw[iFP l,iFP l,iFP l];simp
   ·rw[iFN l,iFN l,iFN l,kn k l,<-qbu,piv_T h (by omega) M H q l D,qft]
    rw[qbu,qaV (S.T k e),qbu]
  rw[qcA,t2,sumN_mul,sumN_mul];show S.p*(S.T r e*colV P S c t)=_;rw[qaR,W,<-qbu S.p,qaV S.p _,qbu,R,qcA,qcA];rw[show S.T r e*_=S.T r c*_ by rw[qaR]];omega
theorem piv_goal (h:Good P S) (K:e<P.n) (q:r<P.m):∀ c,c<=P.n->(piv S r e).G c=(sumN P.m λi=>P.g ((piv S r e).kept i)*(piv S r e).T i c) - (piv S r e).p*gainC P (piv S r e) c :=by
 intro c M;have X:=h.pos;have R:=h.goal e (by omega);have gE:gainC P S e=P.g _:=iFP K;rw[gE,sumN_split q]at R;have kr:(piv S r e).kept r=S.free e:=iFP U;have kn:∀ i,i≠r->(piv S r e).kept i=S.kept i:=λi hi=>iFN hi;rw[sumN_split q,kr];by_cases D:c=e
 ·subst D
  have c1:gainC P (piv S r c) c=P.g (S.kept r):=by
   unfold gainC;rw[iFP K];show P.g (if c=c then _ else _)=_;rw[iFP U]
  have t1:(piv S r c).T r c=S.p:=by show (if r=r then _ else _)=_;rw[iFP U,iFP U]
  have t2:(sumN P.m λk=>if k=r then 0 else P.g ((piv S r c).kept k)*(piv S r c).T k c)=- sumN P.m λk=>if k=r then 0 else P.g (S.kept k)*S.T k c:=by
   have:(sumN P.m λk=>if k=r then 0 else P.g ((piv S r c).kept k)*(piv S r c).T k c)=sumN P.m λk=>(-1)*(if k=r then 0 else P.g (S.kept k)*S.T k c):=by
    refine sumN_congr λk H=>?_;by_cases l:k=r
    ·rw[iFP l,iFP l];rfl
    ·rw[iFN l,iFN l,kn k l]
     show _*(if k=r then _ else _)=_;rw[iFN l,iFP U,qgw,qdd,qc0]
   rw[this,sumN_mul];omega
  rw[c1,t1];show (if c=c then - S.G c else _)=_ - S.T r c*_;rw[iFP U,R,qaV _,qaV S.p];omega
 ·have c1:gainC P (piv S r e) c=gainC P S c:=by
   unfold gainC;by_cases I:c<P.n
   ·rw[iFP I,iFP I];show P.g (if c=e then _ else _)=_;rw[iFN D]
   ·rw[iFN I,iFN I]
  have t1:(piv S r e).T r c=S.T r c:=by show (if r=r then _ else _)=_;rw[iFP U,iFN D]
  have W:=h.goal c M;rw[sumN_split q]at W;rw[c1,t1];have t2:S.p*(sumN P.m λk=>if k=r then 0 else P.g ((piv S r e).kept k)*(piv S r e).T k c)=(sumN P.m λk=>S.T r e*(if k=r then 0 else P.g (S.kept k)*S.T k c)) - sumN P.m λk=>S.T r c*(if k=r then 0 else P.g (S.kept k)*S.T k e):=by
   rw[<-sumN_mul,<-sumN_sub];refine sumN_congr λk H=>?_;by_cases l:k=r
   ·rw[iFP l,iFP l,iFP l];simp
   ·rw[iFN l,iFN l,iFN l,kn k l,qaR,piv_T h (by omega) M H q l D,qc1]
    rw[qaR,qaV (S.T k e),qaR (S.T r c)]
  rw[sumN_mul,sumN_mul]at t2;have Q:S.T r e*S.G c - S.G e*S.T r c=S.p*(P.g (S.free e)*S.T r c+(sumN P.m λk=>if k=r then 0 else P.g ((piv S r e).kept k)*(piv S r e).T k c) - S.T r e*gainC P S c):=by
   rw[qc1,qcA,t2,W,R];generalize (sumN P.m λk=>if k=r then 0 else P.g _*S.T k e)=Y;rw[qc1,qcA,qft,qeK];rw[show S.T r e*_=P.g _*S.T r e*S.T r c by rw[qaR,qbu]];rw[show S.T r e*(S.p*gainC P S c)=S.p*_ by rw[qaR]];rw[show S.p*(P.g _*S.T r c)=S.p*P.g _*S.T r c by rw[qbu]];rw[qaV Y];omega
  show (if c=e then _ else _ / S.p)=_;rw[iFN D,Q,qgT _ (by omega)];rfl
theorem Good.piv (h:Good P S) (K:e<P.n) (q:r<P.m) (hq:0<S.T r e):Good P (piv S r e) :=by
 refine⟨hq,?_,piv_eq h K q,piv_goal h K q⟩;show S.T r e=_;rw[h.entry (by omega) q];refine congrArg _ ?_
 funext i
 unfold basis;by_cases hi:i=r
 ·rw[hi,upd_same]
  show colV P S e=P.A (if r=r then _ else _);rw[iFP U];exact iFP K
 ·rw[upd_ne hi]
  show _=P.A (if i=r then _ else _);rw[iFN hi]
def lexP (M:Nat) (v:Nat->Int):Prop:=∃ j,j<M/\0<v j/\∀ l,l<j->v l=0
theorem lexP_congr (h:∀ s,s<M->v s=w s) (F:lexP M v):lexP M w :=by
 obtain⟨j,q,z,u⟩:=F;exact⟨j,q,by rw[<-h j q];exact z,λl A=>by rw[<-h l (by omega)];exact u l A⟩
theorem lexP_mul (B:0<c) (F:lexP M v):lexP M λs=>c*v s :=by
 obtain⟨j,q,z,u⟩:=F;exact⟨j,q,qkq B z,λl A=>by show c*v l=0;rw[u l A,qa7]⟩
theorem lexP_unmul (B:0<c) (F:lexP M λs=>c*v s):lexP M v :=by
 obtain⟨j,q,z,u⟩:=F;have h2':0<v j*c:=by rw[qaV];exact z
 refine⟨j,q,Int.pos_of_mul_pos_left h2' B,λl A=>?_⟩
 have:=u l A
 rcases qcS.mp this with h|h
 ·omega
 ·exact h
theorem lexP_add (F:lexP M v) (hw:lexP M w):lexP M λs=>v s+w s :=by
 obtain⟨j,q,z,u⟩:=F;obtain⟨k,W,k2,k3⟩:=hw;rcases Nat.lt_trichotomy j k with h|h|h
 ·exact⟨j,q,by show 0<v j+w j;rw[k3 j h];omega,λl A=>by show v l+w l=0;rw[u l A,k3 l (by omega)];rfl⟩
 ·subst h
  exact⟨j,q,by show 0<v j+w j;omega,λl A=>by show v l+w l=0;rw[u l A,k3 l A];rfl⟩
 ·exact⟨k,W,by show 0<v k+w k;rw[u k h];omega,λl A=>by show v l+w l=0;rw[u l (by omega),k3 l A];rfl⟩
theorem lexP_addn (B:0<=c) (F:lexP M v) (hw:lexP M w):lexP M λs=>v s+c*w s :=by
 rcases qem B with h|h
 ·exact lexP_add F (lexP_mul h hw)
 ·subst h
  exact lexP_congr (λs _=>by rw[qbV,qf6]) F
theorem lexP_not0 (h:∀ s,s<M->v s=0):¬ lexP M v :=λ⟨j,q,z,_⟩=>by rw[h j q]at z;omega
theorem lexP_first (hM:0<M) (h:lexP M v):0<=v 0 :=by
 obtain⟨j,q,z,u⟩:=h;rcases Nat.eq_zero_or_pos j with e|e
 ·subst e;omega
 ·rw[u 0 e];exact qcs _
variable (P:Pb)
def XV (s:Nat):Vec:=if s=0 then P.b else unit (s - 1)
def LV (S:Tb) (i s:Nat):Int:=det P.m (upd (basis P S) i (XV P s))
def ZV (S:Tb) (s:Nat):Int:=sumN P.m λi=>P.g (S.kept i)*LV P S i s
structure Named (S:Tb):Prop where
 one:∀ r,r<P.m->P.A (P.n+r)=unit r
 all:∀ k,k<P.n+P.m->(∃ c,c<P.n/\S.free c=k)\/∃ i,i<P.m/\S.kept i=k
 bound:(∀ c,c<P.n->S.free c<P.n+P.m)/\∀ i,i<P.m->S.kept i<P.n+P.m
def Fe (S:Tb):Prop:=∀ i,i<P.m->lexP (P.m+1) (LV P S i)
variable {P}
theorem Good.rep_free (h:Good P S) (B:c<=P.n) (t):S.p*colV P S c t=sumN P.m λi=>det P.m (upd (basis P S) i (colV P S c))*P.A (S.kept i) t :=by
 rw[h.eq c B t];exact sumN_congr λi hi=>by rw[h.entry B hi]
theorem det_kept (h:Good P S) (hi:i<P.m) (H:j<P.m):det P.m (upd (basis P S) i (basis P S j))=if i=j then S.p else 0 :=by
 by_cases e:i=j
 ·subst e;rw[upd_self,iFP U,h.dt]
 ·rw[iFN e]
  exact det_eq0 _ hi H e (by rw[upd_same,upd_ne (qbp e)])
theorem Good.rep_kept (h:Good P S) (H:j<P.m) (t):S.p*P.A (S.kept j) t=sumN P.m λi=>det P.m (upd (basis P S) i (P.A (S.kept j)))*P.A (S.kept i) t :=by
 rw[sumN_single H λi hi O=>?_]
 ·have:=det_kept h H H
  rw[iFP U]at this;have e:det P.m (upd _ j (P.A _))=S.p:=this;rw[e]
 ·have:=det_kept h hi H
  rw[iFN O]at this;have e:det P.m (upd _ i (P.A _))=0:=this;rw[e,qbV]
theorem Good.rep (h:Good P S) (hn:Named P S) (E:s<P.m+1) (t):S.p*XV P s t=sumN P.m λi=>LV P S i s*P.A (S.kept i) t :=by
 unfold LV;by_cases h0:s=0
 ·subst h0
  have e:XV P 0=colV P S P.n:=by unfold XV colV;rw[iFP U,iFN (qa4 _)]
  rw[e];exact h.rep_free (qao _) t
 ·have e:XV P s=P.A (P.n+(s - 1)):=by unfold XV;rw[iFN h0,hn.one _ (by omega)]
  rw[e];rcases hn.all (P.n+(s - 1)) (by omega) with⟨c,B,D⟩|⟨j,H,D⟩
  ·have I:P.A (P.n+(s - 1))=colV P S c:=by unfold colV;rw[iFP B,D]
   rw[I];exact h.rep_free (by omega) t
  ·rw[<-D]
   exact h.rep_kept H t
theorem piv_basis (o:e<P.n):basis P (piv S r e)=upd (basis P S) r (colV P S e) :=by
 funext i
 unfold basis;by_cases hi:i=r
 ·rw[hi,upd_same]
  show P.A (if r=r then _ else _)=colV P S e;rw[iFP U];exact (iFP o).symm
 ·rw[upd_ne hi]
  show P.A (if i=r then _ else _)=_;rw[iFN hi]
theorem LV_r (o:e<P.n):LV P (piv S r e) r s=LV P S r s :=by
 unfold LV;rw[piv_basis o,upd_upd]
theorem LV_i (h:Good P S) (hn:Named P S) (o:e<P.n) (E:s<P.m+1) (hi:i<P.m) (n:r<P.m) (d:i≠r):S.p*LV P (piv S r e) i s=S.T r e*LV P S i s - S.T i e*LV P S r s :=by
 unfold LV;rw[piv_basis o];exact cramer2 _ _ _ S.p h.dt (by have:=h.pos;omega) _ _ (λt=>h.eq e (by omega) t) (λt=>h.rep hn E t) hi n d
theorem ZV_piv (h:Good P S) (hn:Named P S) (o:e<P.n) (E:s<P.m+1) (n:r<P.m):S.p*ZV P (piv S r e) s=S.T r e*ZV P S s - S.G e*LV P S r s :=by
 have hE:=h.goal e (by omega);have gE:gainC P S e=P.g _:=iFP o;rw[gE,sumN_split n]at hE;unfold ZV;have kr:(piv S r e).kept r=S.free e:=iFP U;have kn:∀ i,i≠r->(piv S r e).kept i=S.kept i:=λi hi=>iFN hi;rw[sumN_split n,kr,LV_r o,qcA];have t2:S.p*(sumN P.m λk=>if k=r then 0 else P.g ((piv S r e).kept k)*LV P (piv S r e) k s)=(sumN P.m λk=>S.T r e*(if k=r then 0 else P.g (S.kept k)*LV P S k s)) - sumN P.m λk=>LV P S r s*(if k=r then 0 else P.g (S.kept k)*S.T k e):=by
  rw[<-sumN_mul,<-sumN_sub];refine sumN_congr λk D=>?_;by_cases p:k=r
  ·rw[iFP p,iFP p,iFP p];simp
  ·rw[iFN p,iFN p,iFN p,kn k p,qaR,LV_i h hn o E D n p,qc1]
   rw[qaR,qaV (S.T k e),qaR (LV P S r s)]
 rw[t2,sumN_mul,sumN_mul,sumN_split n (λi=>P.g _*LV P S i s),hE];generalize (sumN P.m λk=>if k=r then 0 else P.g _*S.T k e)=Y;generalize LV P S r s=L;rw[qft,qeK,qcA];rw[show S.T r e*(P.g _*L)=P.g _*S.T r e*L by rw[qaR,qbu]];rw[show S.p*_=S.p*P.g _*L by rw[qbu]];rw[qaV Y];omega
def less (P:Pb) (S S':Tb):Prop:=lexP (P.m+1) λs=>S.p*ZV P S' s - S'.p*ZV P S s
theorem less_trans (q:0<S1.p) (z:0<S2.p) (u:0<S3.p) (a:less P S1 S2) (b:less P S2 S3):less P S1 S3 :=by
 refine lexP_unmul z (lexP_congr (λs _=>?_) (lexP_add (lexP_mul q b) (lexP_mul u a)));generalize ZV P S1 s=x;generalize ZV P S2 s=y;rw[qc1,qc1,qc1];rw[show S1.p*(S3.p*y)=S3.p*_ by rw[qaR],show S1.p*_=S2.p*_ by rw[qaR],show S3.p*(S2.p*x)=S2.p*_ by rw[qaR]];omega
theorem same_kept (h:Good P S) (h':Good P S') (e:∀ i,i<P.m->S.kept i=S'.kept i):S.p=S'.p/\∀ s,ZV P S s=ZV P S' s :=by
 have hb:∀ i,i<P.m->basis P S i=basis P S' i:=λi hi=>by unfold basis;rw[e i hi]
 have hL:∀ i s,i<P.m->LV P S i s=LV P S' i s:=λi s hi=>by
  refine det_congr P.m λk t D _=>?_;by_cases J:k=i
  ·rw[J,upd_same,upd_same]
  ·rw[upd_ne J,upd_ne J,hb k D]
 refine⟨?_,λs=>?_⟩
 ·rw[h.dt,h'.dt]
  exact det_congr P.m λk t D _=>by rw[hb k D]
 ·exact sumN_congr λi hi=>by rw[e i hi,hL i s hi]
theorem less_kept (h:Good P S) (h':Good P S') (l:less P S S'):¬ ∀ i,i<P.m->S.kept i=S'.kept i :=λe=>by
 obtain⟨G,I⟩:=same_kept h h' e;refine lexP_not0 (λs _=>?_) l;rw[G,I s];omega
theorem lines_unlike (h:Good P S) (hA:∀ i,i<P.m->∀ t,P.m<=t->P.A (S.kept i) t=0) (hi:i<P.m) (n:r<P.m) (d:i≠r) (ha:0<a) (E:∀ s,s<P.m+1->a*LV P S i s=b*LV P S r s):False :=by
 have T:∀ k,k<P.m->det P.m _=sumN P.m λs=>basis P S i s*LV P S k (s+1):=λk D=>by
  have e:basis P S i=λt=>sumN P.m λs=>basis P S i s*unit s t:=by
   funext t
   by_cases X:t<P.m
   ·rw[sumN_single X λs _ O=>by unfold unit;rw[iFN (qbp O),qa7]]
    unfold unit;rw[iFP U,qdv]
   ·rw[sumN_congr λs V=>by unfold unit;rw[iFN (by omega),qa7],sumN_zero]
    exact hA i hi t (by omega)
  have I:=det_sum (basis P S) D (λs=>basis P S i s) unit P.m;rw[<-e]at I;rw[I];refine sumN_congr λs V=>?_;unfold LV XV;rw[iFN (by omega),qc5]
 have W:=T i hi;have k2:=T r n;rw[det_kept h hi hi,iFP U]at W;rw[det_kept h n hi,iFN (qbp d)]at k2
 have:a*S.p=b*0:=by
  rw[W,k2,<-sumN_mul,<-sumN_mul];refine sumN_congr λs V=>?_;rw[qaR,E _ (by omega),qaR]
 have:=qkq ha h.pos
 omega
theorem Named.piv (hn:Named P S) (o:e<P.n) (n:r<P.m):Named P (piv S r e) :=by
 refine⟨hn.one,λk D=>?_,λc B=>?_,λi hi=>?_⟩
 ·rcases hn.all k D with⟨c,B,G⟩|⟨i,hi,G⟩
  ·by_cases Q:c=e
   ·subst Q;exact .inr ⟨r,n,by show (if r=r then _ else _)=_;rw[iFP U];exact G⟩
   ·exact .inl ⟨c,B,by show (if c=e then _ else _)=_;rw[iFN Q];exact G⟩
  ·by_cases d:i=r
   ·subst d;exact .inl ⟨e,o,by show (if e=e then _ else _)=_;rw[iFP U];exact G⟩
   ·exact .inr ⟨i,hi,by show (if i=r then _ else _)=_;rw[iFN d];exact G⟩
 ·show (if c=e then _ else _)<_
  split
  ·exact hn.bound.2 r n
  ·exact hn.bound.1 c B
 ·show (if i=r then _ else _)<_
  split
  ·exact hn.bound.1 e o
  ·exact hn.bound.2 i hi
theorem step (h:Good P S) (hn:Named P S) (K:Fe P S) (o:e<P.n) (n:r<P.m) (hq:0<S.T r e) (hg:S.G e<0)
  (R:∀ i,i<P.m->i≠r->0<S.T i e->lexP (P.m+1) λs=>S.T r e*LV P S i s - S.T i e*LV P S r s) :
  Good P (piv S r e)/\Named P (piv S r e)/\Fe P (piv S r e)/\less P S (piv S r e) :=by
 refine⟨h.piv o n hq,hn.piv o n,λi hi=>?_,?_⟩
 ·by_cases d:i=r
  ·subst d
   exact lexP_congr (λs _=>(LV_r o).symm) (K i hi)
  ·refine lexP_unmul h.pos (lexP_congr (λs E=>(LV_i h hn o E hi n d).symm) ?_)
   by_cases X:0<S.T i e
   ·exact R i hi d X
   ·refine lexP_congr (λs _=>?_) (lexP_addn (c:=- S.T i e) (by omega) (lexP_mul hq (K i hi)) (K r n))
    rw[qdd];omega
 ·refine lexP_congr (λs E=>?_) (lexP_mul (c:=- S.G e) (by omega) (K r n))
  show - S.G e*LV P S r s=S.p*ZV P _ s - S.T r e*ZV P S s;rw[ZV_piv h hn o E n,qdd];omega
theorem filt_len (N):∀ l:List Nat,(l.filter λx=>decide (x=N)).length+(l.filter λx=>decide (x≠N)).length=l.length
 |[]=>rfl
 |x::l=>by
  have ih:=filt_len N l;by_cases h:x=N
  ·rw[qeD (by simpa using h),qeE (by simpa using h),qat,qat];omega
  ·rw[qeE (by simpa using h),qeD (by simpa using h),qat,qat];omega
theorem nodup_le:∀ (N) (l:List Nat),l.Nodup->(∀ x∈l,x<N)->l.length<=N :=by
 intro N
 induction N with
 |zero=>
  intro l _ h;cases l with
  |nil=>exact qao _
  |cons x l=>exact absurd (h x qag) (by omega)
 |succ N ih=>
  intro l A h;have q:=ih (l.filter λx=>decide (x≠N)) (A.filter _) λx hx=>by
   have:=qbX.mp hx
   have z:=h x this.1;have u:=by simpa using this.2
   omega
  have z:(l.filter λx=>decide (x=N)).length<=1:=by
   have hn:=A.filter λx=>decide (x=N);have C:∀ x∈l.filter (λx=>decide (x=N)),x=N:=λx hx=>by simpa using (qbX.mp hx).2
   match l.filter _,hn,C with
   |[],_,_=>exact qbM _
   |[x],_,_=>exact qao _
   |x::y::r,hn,C=>
    exact absurd ((C x qag).trans (C y (qaj _ qag)).symm) ((qa8.mp hn).1 y qag)
  have u:=filt_len N l;omega
def code (b:Nat) (f:Nat->Nat):Nat->Nat
 |0=>0
 |m+1=>code b f m*b+f m
theorem code_lt :∀ {m},(∀ i,i<m->f i<b)->code b f m<b^m
 |0,_=>Nat.one_pos
 |m+1,h=>by
  have q:=h m (by omega)
  calc code b f m*b+f m<code b f m*b+b:=by omega
   _=(code b f m+1)*b:=by rw[qkn,qkm]
   _<=b^m*b:=qcM b (code_lt λi hi=>h i (by omega))
theorem code_inj {f g}:∀ {m},(∀ i,i<m->f i<b)->(∀ i,i<m->g i<b)->code b f m=code b g m->∀ i,i<m->f i=g i
 |0,_,_,_,i,hi=>absurd hi (by omega)
 |m+1,K,hg,e,i,hi=>by
  rw[code,code]at e;have z:=hg m (by omega);have G:=by
   have:=congrArg (·%b) e
   simp only[Nat.mul_add_mod_self_right]at this;rw[qiq (K m (by omega)),qiq z]at this;exact this
  have I:code b f m=code b g m:=by
   exact Nat.eq_of_mul_eq_mul_right (by omega:0<b) (by omega)
  by_cases him:i=m
  ·rw[him];exact G
  ·exact code_inj (λi hi=>K i (by omega)) (λi hi=>hg i (by omega)) I i (by omega)
def leastR (tops bots:Nat->Int):List Nat->List Nat->List Nat
 |[],least=>least
 |p::ps,[]=>leastR tops bots ps [p]
 |p::ps,g::r=>if tops p*bots g > tops g*bots p then leastR tops bots ps (g::r) else if tops p*bots g<tops g*bots p then leastR tops bots ps [p] else leastR tops bots ps ((g::r)++[p])
structure Least (tops bots:Nat->Int) (ps out:List Nat):Prop where
 ne:ps≠[]->out≠[]
 sub:∀ x∈out,x∈ps
 nd:ps.Nodup->out.Nodup
 eq:∀ x∈out,∀ y∈out,tops x*bots y=tops y*bots x
 lt:∀ x∈out,∀ y∈ps,y∉out->tops x*bots y<tops y*bots x
theorem ratio_lt {     r:Int} (Q:0<p) (hq:0<q) (O:0<r) (z:a*q<b*p) (H:b*r<=c*q):a*r<c*p :=by
 have w:=qec z O;have e2:b*r*p<=c*q*p:=qf5 H (by omega);rw[qbt b p r]at w;have Y:a*r*q<c*p*q:=by rw[qbt a r q,qbt c p q];omega
 exact qeh Y (by omega)
theorem leastR_ok { bots}:∀ (ps done least),(∀ x∈done++ps,0<bots x)->(done++ps).Nodup->Least tops bots done least->Least tops bots (done++ps) (leastR tops bots ps least) :=by
 intro ps
 induction ps with
 |nil=>intro done least _ _ h;rw[qbY];cases least<;>exact h
 |cons p ps A=>
  intro done least hb m h;have Q:=hb p (qaB _ qag);have R:=λhm=>by
   rw[qcN]at m;exact m.2.2 p hm p qag U
  have e:done++p::ps=(done++[p])++ps:=by simp
  have F:=(qcN.mp m).1;rw[e]at hb m ⊢;cases least with
  |nil=>
   have hd:done=[]:=by
    cases done with
    |nil=>rfl
    |cons x d=>exact absurd U (h.ne (by simp))
   subst hd;refine A _ _ hb m ⟨λ_=>by simp,λx hx=>by simpa using hx,λ_=>by simp,λx hx y f=>?_,λx hx y f hn=>absurd (by simpa using f) (by simpa using hn)⟩;rw[qan.mp hx,qan.mp f]
  |cons g r=>
   have o:g∈g::r:=qag;have hb0:=hb g (qa9 _ (qa9 _ (h.sub g o)));have K:=λy f=>hb y (qa9 _ (qa9 _ f));rw[leastR];by_cases c1:tops p*bots g > tops g*bots p
   ·rw[iFP c1]
    refine A _ _ hb m ⟨λ_=>by simp,λx hx=>qa9 _ (h.sub x hx),λ_=>h.nd F,h.eq,λx hx y f hn=>?_⟩;rcases qaT.mp f with f|f
    ·exact h.lt x hx y f hn
    ·rw[qan.mp f]
     exact Int.lt_of_lt_of_le (by
      have w:tops x*bots g*bots p=tops g*bots p*bots x:=by rw[<-(h.eq g o x hx),qbt]
      have Y:tops x*bots p*bots g<tops p*bots x*bots g:=by rw[qbt,w,qbt (tops p)];exact (qec c1 (K x (h.sub x hx)))
      exact qeh Y (by omega)) (qcs _)
   ·rw[iFN c1]
    by_cases c2:tops p*bots g<tops g*bots p
    ·rw[iFP c2]
     refine A _ _ hb m ⟨λ_=>by simp,λx hx=>by rw[qan.mp hx];simp,λ_=>by simp,λx hx y f=>by rw[qan.mp hx,qan.mp f],λx hx y f hn=>?_⟩;rw[qan.mp hx];rcases qaT.mp f with f|f
     ·have hle:tops g*bots y<=tops y*bots g:=by
       by_cases hm:y∈g::r
       ·exact Int.le_of_eq (h.eq g o y hm)
       ·exact qhs (h.lt g o y f hm)
      exact ratio_lt Q hb0 (K y f) c2 hle
     ·exact absurd (by simpa using f) (by simpa using hn)
    ·rw[iFN c2]
     have I:tops p*bots g=tops g*bots p:=by omega
     have B:=λx hx=>by
      have w:tops p*bots x*bots g=tops x*bots p*bots g:=by
       rw[qbt,I,qbt,(h.eq g o x hx),qbt]
      exact qgF (by omega) w
     refine A _ _ hb m ⟨λ_=>by simp,λx hx=>?_,λ_=>?_,λx hx y f=>?_,λx hx y f hn=>?_⟩
     ·rcases qaT.mp hx with hx|hx
      ·exact qa9 _ (h.sub x hx)
      ·exact qaB _ hx
     ·rw[qcN]
      refine⟨h.nd F,by simp,λx hx y f e=>?_⟩;rw[qan.mp f]at e;rw[e]at hx;exact R (h.sub p hx)
     ·rcases qaT.mp hx with hx|hx<;>rcases qaT.mp f with f|f
      ·exact h.eq x hx y f
      ·rw[qan.mp f];exact (B x hx).symm
      ·rw[qan.mp hx];exact B y f
      ·rw[qan.mp hx,qan.mp f]
     ·have G:y∈done:=by
       rcases qaT.mp f with f|f
       ·exact f
       ·exact absurd (qaB _ f) hn
      have J:=λhm=>hn (qa9 _ hm);rcases qaT.mp hx with hx|hx
      ·exact h.lt x hx y G J
      ·rw[qan.mp hx]
       have w:tops p*bots y*bots g<tops y*bots p*bots g:=by
        rw[qbt,I,qbt _,qbt (tops y)];exact qec (h.lt g o y G J) Q
       exact qeh w (by omega)
theorem least_of (hb:∀ x∈ps,0<bots x) (m:ps.Nodup):Least tops bots ps (leastR tops bots ps []) :=by
 simpa using (leastR_ok ps [] [] (by simpa using hb) (by simpa using m) ⟨λh=>absurd U h,λx hx=>(nomatch hx),λ_=>qdk,λx hx=>(nomatch hx),λx hx=>(nomatch hx)⟩)
def leaveL (W:Nat->Nat->Int) (bots:Nat->Int):List Nat->List Nat->List Nat
 |[],ps=>ps
 |s::ss,ps=>if ps.length<2 then ps else leaveL W bots ss (leastR (W s) bots ps [])
structure Lv (W:Nat->Nat->Int) (bots:Nat->Int) (C:List Nat) (s:Nat) (ps:List Nat):Prop where
 ne:ps≠[]
 nd:ps.Nodup
 sub:∀ x∈ps,x∈C
 eq:∀ x∈ps,∀ y∈ps,∀ l,l<s->bots x*W l y - bots y*W l x=0
 lt:∀ x∈ps,∀ y∈C,y∉ps->lexP s λl=>bots x*W l y - bots y*W l x
theorem lexP_mono (h:M<=N) (hv:lexP M v):lexP N v :=let ⟨j,z,H,n⟩:=hv;⟨j,by omega,H,n⟩
theorem Lv.step (hb:∀ x∈C,0<bots x) (h:Lv W bots C s ps):Lv W bots C (s+1) (leastR (W s) bots ps []) :=by
 have L:=least_of (tops:=W s) (λx hx=>hb x (h.sub x hx)) h.nd;refine⟨L.ne h.ne,L.nd h.nd,λx hx=>h.sub x (L.sub x hx),λx hx y f l u=>?_,λx hx y f hn=>?_⟩
 ·rcases qf1 l s with z|z
  ·exact h.eq x (L.sub x hx) y (L.sub y f) l z
  ·have:l=s:=by omega
   subst this
   have:=L.eq y f x hx
   rw[qaV _,qaV (bots y)];omega
 ·by_cases hm:y∈ps
  ·have u:=L.lt x hx y hm hn
   refine⟨s,by omega,?_,λl X=>h.eq x (L.sub x hx) y hm l X⟩;show 0<bots x*W s y - bots y*W s x;rw[qaV _,qaV (bots y)];omega
  ·exact lexP_mono (by omega) (h.lt x (L.sub x hx) y f hm)
theorem leaveL_ok (hb:∀ x∈C,0<bots x):∀ (k s) (ps),Lv W bots C s ps->∃ s',s<=s'/\s'<=s+k/\Lv W bots C s' (leaveL W bots ((qak k).map λj=>s+j) ps)/\(s'<s+k->(leaveL W bots ((qak k).map λj=>s+j) ps).length<2) :=by
 intro k
 induction k with
 |zero=>intro s ps h;exact⟨s,qao _,qao _,h,λh=>absurd h (by omega)⟩
 |succ k A=>
  intro s ps h;have e:(qak (k+1)).map (λj=>s+j)=s::(qak k).map λj=>(s+1)+j:=by
   rw[qdJ,qaz,qaM]
   congr 1
   refine qcf λj _=>?_;show s+_=_;omega
  rw[e,leaveL];by_cases u:ps.length<2
  ·rw[iFP u]
   exact⟨s,qao _,by omega,h,λ_=>u⟩
  ·rw[iFN u]
   obtain⟨s',z,H,n,T⟩:=A _ _ (h.step hb);exact⟨s',by omega,by omega,n,λh=>T (by omega)⟩
variable {P:Pb}
theorem leaving_ok (h:Good P S) (hA:∀ i,i<P.m->∀ t,P.m<=t->P.A (S.kept i) t=0) (D:∀ i,i∈C↔i<P.m/\0<S.T i e) (hn:C.Nodup) (V:C≠[]) :
  ∃ r,leaveL (λs i=>LV P S i s) (λi=>S.T i e) ((qak (P.m+1)).map λj=>0+j) C=[r]/\r<P.m/\0<S.T r e/\∀ i,i<P.m->i≠r->0<S.T i e->lexP (P.m+1) λs=>S.T r e*LV P S i s - S.T i e*LV P S r s :=by
 obtain⟨s',z,H,n,T⟩:=leaveL_ok (λx hx=>((D x).mp hx).2) _ 0 C ⟨V,hn,λx hx=>hx,λx _ y _ l u=>absurd u (by omega),λx _ y f hm=>absurd f hm⟩;generalize leaveL _ _ _ C=out at n T;have E:out.length<2:=by
  rcases qf1 out.length 2 with u|u
  ·exact u
  ·exfalso
   match out,u,n with
   |x::y::r,_,n=>
    have hx:=(D x).mp (n.sub x qag)
    refine lines_unlike h hA ((D y).mp (n.sub y (qaj _ qag))).1 hx.1 (qbp (λe=>by
     have:=(qa8.mp n.nd).1 y qag
     exact this e)) (b:=S.T y e) hx.2 λs hs'=>?_
    have:=n.eq x qag y (qaj _ qag) s (by omega)
    omega
 match out,E,n with
 |[],_,n=>exact absurd U n.ne
 |[r],_,n=>
  have O:=(D r).mp (n.sub r qag);refine⟨r,U,O.1,O.2,λi hi hir hT=>?_⟩;exact lexP_mono (by omega) (n.lt r qag i ((D i).mpr ⟨hi,hT⟩) (by simpa using hir))
variable {P:Pb}
theorem sumN_swap (n m) (f:Nat->Nat->Int):(sumN n λi=>sumN m λk=>f i k)=sumN m λk=>sumN n λi=>f i k :=by
 induction n with
 |zero=>exact (sumN_zero m).symm
 |succ n K=>
  rw[sumN,K];rw[<-sumN_add];rfl
theorem sumN_nonneg (h:∀ k,k<n->0<=f k):0<=sumN n f :=by
 induction n with
 |zero=>exact qcs _
 |succ n K=>rw[sumN];have:=K λk p=>h k (by omega);have:=h n (by omega);omega
theorem sumN_append (a b) (f):sumN (a+b) f=sumN a f+sumN b λk=>f (a+k) :=by
 induction b with
 |zero=>rw[sumN];simp
 |succ b K=>rw[<-Nat.add_assoc,sumN,sumN];omega
theorem sumN_right (n) (c) (f):sumN n (λk=>f k*c)=sumN n f*c :=by
 rw[qaV,<-sumN_mul];exact sumN_congr λk _=>qaV _ _
def byName (P:Pb) (S:Tb) (y:Nat->Int) (k:Nat):Int:=sumN P.m λi=>if S.kept i=k then y i else 0
theorem byName_sum (S) (y) (hN:∀ i,i<P.m->S.kept i<N) (f:Nat->Int):(sumN N λk=>byName P S y k*f k)=sumN P.m λi=>y i*f (S.kept i) :=by
 have e:(sumN N λk=>byName P S y k*f k)=sumN N λk=>sumN P.m λi=>_*f k:=sumN_congr λk _=>(sumN_right _ _ _).symm;rw[e,sumN_swap];refine sumN_congr λi hi=>?_;rw[sumN_single (hN i hi) λk _ d=>by rw[iFN (qbp d),qbV],iFP U]
theorem byName_nonneg (h:∀ i,i<P.m->0<=y i) (k):0<=byName P S y k :=sumN_nonneg λi hi=>by split;exact h i hi;exact qcs _
theorem byName_at (E:∀ i j,i<P.m->j<P.m->S.kept i=S.kept j->i=j) (hi:i<P.m):byName P S y (S.kept i)=y i :=by
 unfold byName;rw[sumN_single hi λj C d=>iFN λe=>d (E j i C hi e),iFP U]
theorem byName_not (h:∀ i,i<P.m->S.kept i≠k):byName P S y k=0 :=by
 unfold byName;rw[sumN_congr λi hi=>iFN (h i hi),sumN_zero]
theorem unit_sum {v:Vec}(u:r<m):(sumN m λk=>v k*unit k r)=v r :=by
 rw[sumN_single u λk _ d=>by unfold unit;rw[iFN (qbp d),qa7]];unfold unit;rw[iFP U,qdv]
theorem amounts_ok (h:Good P S) (hn:Named P S) (W:∀ i,i<P.m->0<=S.T i P.n) (u:r<P.m):(sumN P.n λj=>byName P S (λi=>S.T i P.n) j*P.A j r)<=S.p*P.b r :=by
 have z:=h.eq P.n (qao _) r;have c1:colV P S P.n=P.b:=by unfold colV;rw[iFN (qa4 _)]
 rw[c1]at z;have o:=byName_sum S (λi=>S.T i P.n) hn.bound.2 λk=>P.A k r;rw[sumN_append]at o;have e3:(sumN P.m λk=>byName P S (λi=>S.T i P.n) (P.n+k)*P.A (P.n+k) r)=byName P S (λi=>S.T i P.n) (P.n+r):=by
  rw[sumN_congr λk p=>by rw[hn.one k p]];exact unit_sum u
 have e4:=byName_nonneg (S:=S) W (P.n+r);omega
theorem gains_amounts (h:Good P S) (hn:Named P S) (hg:∀ r,r<P.m->P.g (P.n+r)=0):(sumN P.n λj=>byName P S (λi=>S.T i P.n) j*P.g j)=S.G P.n :=by
 have o:=byName_sum S (λi=>S.T i P.n) hn.bound.2 P.g;rw[sumN_append,sumN_congr (n:=P.m) λk p=>by rw[hg k p,qa7],sumN_zero,qf6]at o;rw[o,h.goal P.n (qao _)]
 have:gainC P S P.n=0:=by unfold gainC;rw[iFN (qa4 _)]
 rw[this,qa7,qhr];exact sumN_congr λi _=>qaV _ _
theorem det_by_units (X:∀ t,P.m<=t->v t=0) (hi:i<P.m):det P.m (upd (basis P S) i v)=sumN P.m λs=>v s*LV P S i (s+1) :=by
 have e:=by
  funext t
  by_cases w:t<P.m
  ·exact (unit_sum (v:=v) w).symm
  ·rw[sumN_congr λs Y=>by unfold unit;rw[iFN (by omega),qa7],sumN_zero]
   exact X t (by omega)
 have o:=det_sum (basis P S) hi (λs=>v s) unit P.m;rw[<-e]at o;rw[o];refine sumN_congr λs Y=>?_;unfold LV XV;rw[iFN (by omega),qc5]
theorem prices_col (X:∀ t,P.m<=t->v t=0):(sumN P.m λr=>v r*ZV P S (r+1))=sumN P.m λi=>P.g (S.kept i)*det P.m (upd (basis P S) i v) :=by
 have e:(sumN P.m λr=>v r*ZV P S (r+1))=sumN P.m λr=>sumN P.m λi=>P.g _*_:=sumN_congr λr _=>by
  unfold ZV;rw[<-sumN_mul];exact sumN_congr λi _=>by rw[qaR]
 rw[e,sumN_swap];refine sumN_congr λi hi=>?_;rw[sumN_mul,det_by_units X hi]
theorem prices_ok (h:Good P S) (hn:Named P S) (hA:∀ k,k<P.n+P.m->∀ t,P.m<=t->P.A k t=0) (J:∀ c,c<P.n->0<=S.G c) (C:j<P.n):S.p*P.g j<=sumN P.m λr=>P.A j r*ZV P S (r+1) :=by
 rw[prices_col (hA j (by omega))];rcases hn.all j (by omega) with⟨c,x,e⟩|⟨i,hi,e⟩
 ·have z:=h.goal c (by omega)
  have I:gainC P S c=P.g j:=by unfold gainC;rw[iFP x,e]
  have c1:colV P S c=P.A j:=by unfold colV;rw[iFP x,e]
  rw[I]at z;rw[(sumN_congr λi hi=>by rw[<-c1,<-h.entry (by omega) hi])]
  have:=J c x
  omega
 ·rw[sumN_single hi λk p d=>?_]
  ·have:=det_kept h hi hi
   rw[iFP U]at this;have o:det P.m (upd (basis P S) i (P.A j))=S.p:=by rw[<-e];exact this
   rw[o,e,qaV];exact qcs _
  ·have:=det_kept h p hi
   rw[iFN d]at this;have o:det P.m (upd (basis P S) k (P.A j))=0:=by rw[<-e];exact this
   rw[o,qa7]
theorem bounds_prices (h:Good P S) (hb:∀ t,P.m<=t->P.b t=0):(sumN P.m λr=>P.b r*ZV P S (r+1))=S.G P.n :=by
 have c1:colV P S P.n=P.b:=by unfold colV;rw[iFN (qa4 _)]
 have:gainC P S P.n=0:=by unfold gainC;rw[iFN (qa4 _)]
 rw[prices_col hb,h.goal P.n (qao _),this,qa7,qhr];exact sumN_congr λi hi=>by rw[h.entry (qao _) hi,c1]
theorem price_free (h:Good P S) (hn:Named P S) (hg:∀ r,r<P.m->P.g (P.n+r)=0) (u:r<P.m) (x:c<P.n) (e:S.free c=P.n+r):ZV P S (r+1)=S.G c :=by
 have I:gainC P S c=0:=by unfold gainC;rw[iFP x,e,hg r u]
 have c1:colV P S c=unit r:=by unfold colV;rw[iFP x,e,hn.one r u]
 rw[h.goal c (by omega),I,qa7,qhr];refine sumN_congr λi hi=>?_;rw[h.entry (by omega) hi,c1];unfold LV XV;rw[iFN (by omega),qc5]
theorem price_kept (h:Good P S) (hn:Named P S) (hg:∀ r,r<P.m->P.g (P.n+r)=0) (u:r<P.m) (C:j<P.m) (e:S.kept j=P.n+r):ZV P S (r+1)=0 :=by
 unfold ZV;rw[sumN_single C λk p d=>?_]
 ·rw[e,hg r u,qbV]
 ·have:=det_kept h p C
  rw[iFN d]at this;have o:LV P S k (r+1)=0:=by
   unfold LV XV;rw[qc5,<-hn.one r u,<-e];exact this
  rw[o,qa7]
def wayN (P:Pb) (S:Tb) (e k:Nat):Int:=byName P S (λi=>- S.T i e) k+if S.free e=k then S.p else 0
theorem way_sum (hn:Named P S) (B:e<P.n) (f:Nat->Int):(sumN (P.n+P.m) λk=>wayN P S e k*f k)=S.p*f (S.free e) - sumN P.m λi=>S.T i e*f (S.kept i) :=by
 have o:(sumN (P.n+P.m) λk=>(if S.free e=k then S.p else 0)*f k)=S.p*f (S.free e):=by
  rw[sumN_single (hn.bound.1 e B) λk _ d=>by rw[iFN (qbp d),qbV],iFP U]
 rw[(sumN_congr λk _=>by unfold wayN;rw[qeK]),sumN_add,(byName_sum S _ hn.bound.2 f)];have e4:(sumN P.m λi=>- S.T i e*f (S.kept i))=- sumN P.m λi=>S.T i e*f (S.kept i):=by
  have:(sumN P.m λi=>- S.T i e*f (S.kept i))=sumN P.m λi=>(-1)*_:=sumN_congr λi _=>by rw[qdd,qdd,qc0]
  rw[this,sumN_mul];omega
 omega
theorem way_nonneg (h:Good P S) (w:∀ i,i<P.m->S.T i e<=0) (k):0<=wayN P S e k :=by
 unfold wayN
 have:=byName_nonneg (S:=S) (λi hi=>by have:=w i hi;show 0<=- S.T i e;omega) k
 have:=h.pos
 split<;>omega
theorem way_rows (h:Good P S) (hn:Named P S) (B:e<P.n) (w:∀ i,i<P.m->S.T i e<=0) (u:r<P.m):(sumN P.n λk=>wayN P S e k*P.A k r)<=0 :=by
 have z:=way_sum hn B λk=>P.A k r;have o:=h.eq e (by omega) r;have c1:colV P S e=P.A (S.free e):=by unfold colV;rw[iFP B]
 rw[c1]at o;rw[sumN_append]at z;have e3:(sumN P.m λk=>wayN P S e (P.n+k)*P.A (P.n+k) r)=wayN P S e (P.n+r):=by
  rw[sumN_congr λk p=>by rw[hn.one k p]];exact unit_sum u
 have:=way_nonneg h w (P.n+r)
 omega
theorem way_gains (h:Good P S) (hn:Named P S) (hg:∀ r,r<P.m->P.g (P.n+r)=0) (B:e<P.n) (J:S.G e<0):0<sumN P.n λk=>wayN P S e k*P.g k :=by
 have z:=way_sum hn B P.g;rw[sumN_append,sumN_congr (n:=P.m) λk p=>by rw[hg k p,qa7],sumN_zero,qf6]at z;have o:=h.goal e (by omega);have I:gainC P S e=P.g (S.free e):=by unfold gainC;rw[iFP B]
 rw[I]at o;rw[z,(sumN_congr λi _=>qaV _ _)];omega
def tb0 (P:Pb) (T:Nat->Nat->Int) (G:Nat->Int):Tb:=⟨1,λi=>P.n+i,λc=>c,T,G⟩
theorem good0 (V:∀ r,r<P.m->P.A (P.n+r)=unit r) (hA:∀ k,k<P.n->∀ t,P.m<=t->P.A k t=0) (hb:∀ t,P.m<=t->P.b t=0) (hg:∀ r,r<P.m->P.g (P.n+r)=0)
  (W:∀ i c,i<P.m->c<P.n->T i c=P.A c i) (hL:∀ i,i<P.m->T i P.n=P.b i) (J:∀ c,c<P.n->G c=- P.g c) (R:G P.n=0):Good P (tb0 P T G)/\Named P (tb0 P T G)/\((∀ t,t<P.m->0<=P.b t)->Fe P (tb0 P T G)) :=by
 have A:∀ i,i<P.m->basis P (tb0 P T G) i=unit i:=λi hi=>V i hi;have F:det P.m (basis P (tb0 P T G))=1:=by
  rw[det_congr P.m λk t p _=>by rw[A k p],det_unit]
 have M:∀ c,c<=P.n->∀ t,_*colV P (tb0 P T G) c t=sumN P.m λi=>T i c*P.A _ t:=λc x t=>by
  rw[qc0,sumN_congr λi hi=>by rw[V i hi]];have D:∀ t',P.m<=t'->colV P (tb0 P T G) c t'=0:=λt' H=>by
   unfold colV;by_cases g:c<P.n
   ·rw[iFP g];exact hA c g t' H
   ·rw[iFN g];exact hb t' H
  by_cases w:t<P.m
  ·rw[unit_sum w]
   unfold colV;by_cases g:c<P.n
   ·rw[iFP g,W t c w g];rfl
   ·have:c=P.n:=by omega
    subst this;rw[iFN g,hL t w]
  ·rw[D t (by omega),sumN_congr λi hi=>by unfold unit;rw[iFN (by omega),qa7],sumN_zero]
 have q:Good P (tb0 P T G):=by
  refine⟨by show _<1;decide,F.symm,M,λc x=>?_⟩;show G c=(sumN P.m λi=>P.g (P.n+i)*T i c) - 1*gainC P _ c;rw[sumN_congr λi hi=>by rw[hg i hi,qbV],sumN_zero];unfold gainC;by_cases g:c<P.n
  ·rw[iFP g,J c g]
   show - P.g c=0 - 1*P.g c;omega
  ·have:c=P.n:=by omega
   subst this;rw[iFN g,R];rfl
 refine⟨q,⟨V,λk p=>?_,λc x=>by show c<_;omega,λi hi=>by show P.n+i<_;omega⟩,λO i hi=>?_⟩
 ·by_cases Q:k<P.n
  ·exact .inl ⟨k,Q,U⟩
  ·exact .inr ⟨k - P.n,by omega,by show P.n+_=k;omega⟩
 ·have l0:LV P (tb0 P T G) i 0=P.b i:=by
   have e:=q.entry (qao _) hi;have c1:colV P (tb0 P T G) P.n=P.b:=by unfold colV;rw[iFN (qa4 _)]
   rw[c1]at e;unfold LV XV;rw[iFP U,<-e];exact hL i hi
  have ls:∀ s,s<P.m->LV P _ i _=if i=s then 1 else 0:=λs hs=>by
   have:=det_kept q hi hs
   unfold LV XV;rw[qc5,<-A s hs];exact this
  rcases qem (O i hi) with L|L
  ·exact⟨0,by omega,by rw[l0];exact L,λl hl=>absurd hl (by omega)⟩
  ·refine⟨i+1,by omega,by rw[ls i hi,iFP U];decide,λl hl=>?_⟩
   cases l with
   |zero=>rw[l0,<-L]
   |succ l=>rw[ls l (by omega),iFN (by omega)]
end Sx
set_option maxHeartbeats 1000000
namespace Own
open PySem L2
open Sx (Pb Tb Good Named Fe LV ZV piv lexP leastR leaveL sumN unit colV basis)
theorem jr (f:e env st=some (.d (.int z),s)) (c:0<=z) (a:z<=1000) (hm:z.toNat=m):bA (aa e ae) env st=some (cW 0 m,s) :=by
 have hb:-(2^62)<=z/\z<2^62:=⟨qen (by decide) c,Int.lt_of_le_of_lt a (by decide)⟩;simp only[bA,(ab (b:=ae) f U),qac,hb,and_self,if_true,hm]
theorem aT (h:f env st=some (.d (.lst ds),s)):aA f env st=some (ds,s) :=by
 simp only[aA,h,qac,gG,qap]
theorem aX (h:f env st=some (.d (.tup ds),s)):aA f env st=some (ds,s) :=by
 simp only[aA,h,qac,gG,qap]
theorem oJ (h:c env st=some (true,s)) (d:a env s=r):eY c a b env st=r :=by
 simp only[eY,h,qac,if_true,d]
theorem sI (h:c env st=some (false,s)) (hb:b env s=r):eY c a b env st=r :=by
 simp only[eY,h,qac,qbs,if_false,hb]
theorem Hb (s) (ns:List Int):lS s [.d (.lst (ns.map D.int))]=some (.int ns.sum) :=by
 show (a5 _).map _=_;rw[bh];rfl
theorem Bg (s) (h:0<=b):ym s (.d (.int a)) (.d (.int b))=some (.int (a / 2^b.toNat)) :=iFP h
theorem cy (s) (a b):dEq s (.d (.int a)) (.d (.int b))=some (.bl (a==b)) :=by
 rfl
theorem Dt (s) (a b):dEq s (.d (.str a)) (.d (.str b))=some (.bl (a==b)) :=by
 rfl
theorem fL (s) (h:a.length+b.length<=1000000):aZ s (.d (.lst a)) (.d (.lst b))=some (.lst (a++b)) :=iFP h
theorem zk (s) (h:a.length+b.length<=1000000):aZ s (.d (.tup a)) (.d (.tup b))=some (.tup (a++b)) :=iFP h
def mpI (n:Nat) (f:Nat->Int):List D:=(qak n).map λk=>D.int (f k)
def lnD (n:Nat) (T:Nat->Nat->Int) (i:Nat):D:=.lst (mpI (n+1) (T i))
def aW (m n:Nat) (T:Nat->Nat->Int):List D:=(qak m).map (lnD n T)
def nI (f:Nat->Nat):Nat->Int:=λk=>((f k:Nat):Int)
abbrev obN:List Str:=["amounts","lines","goal","part","free","kept"]
def obD (P:Pb) (S:Tb):D:=.ob obN [.int (P.n:Int),.lst (aW P.m P.n S.T),.lst (mpI (P.n+1) S.G),.int S.p,.lst (mpI P.n (nI S.free)),.lst (mpI P.m (nI S.kept))]
theorem av (n) (f):(mpI n f).length=n :=by unfold mpI;rw[qah,qaq]
theorem b9 (m n) (T):(aW m n T).length=m :=by unfold aW;rw[qah,qaq]
theorem aU (h:k<n):(mpI n f)[k]?=some (.int (f k)) :=by
 unfold mpI;rw[qay,qaS h];rfl
theorem om (h:k<m):(aW m n T)[k]?=some (lnD n T k) :=by
 unfold aW;rw[qay,qaS h];rfl
theorem bu (h:∀ k,k<n->f k=g k):mpI n f=mpI n g :=by
 refine qcf λk a=>?_;rw[h k (qaD.mp a)]
theorem ox (n) (f):mpI (n+1) f=mpI n f++[.int (f n)] :=by
 unfold mpI;rw[qeX,qci];rfl
theorem bC (n) (f):mpI n f=((qak n).map f).map D.int :=by rw[qaM];rfl
theorem ux (n) (f):(mpI n f).all bG=true :=by
 rw[qaY];intro d hd;obtain⟨k,_,rfl⟩:=qaJ.mp hd;rfl
theorem f7 :(mpI n f).set k (.int x)=mpI n λj=>if j=k then x else f j :=by
 apply qa6;intro j;by_cases a:j<n
 ·rw[aU a]
  by_cases e:j=k
  ·subst e;rw[iFP U,qbz (by rw[av];exact a)]
  ·rw[iFN e,qbK (qbp e),aU a]
 ·rw[qav (by rw[qcj,av];lia),qav (by rw[av];lia)]
theorem dO (st) (h:k<n):dIx st (.d (.lst (mpI n f))) (.d (.int (k)))=some (.int (f k)) :=di (aU h)
theorem ui (st) (h:k<m):dIx st (.d (.lst (aW m n T))) (.d (.int (k)))=some (lnD n T k) :=di (om h)
theorem uh (st) (h:c<=n):dIx st (.d (lnD n T i)) (.d (.int (c)))=some (.int (T i c)) :=dO st (by lia)
theorem wR (st) :dIx st (.d (lnD n T i)) (.d (.int (-1)))=some (.int (T i n)) :=by
 show atI _ _=_;rw[ox];exact zn _ _
section
variable {P:Pb}{S:Tb}{a:Ef}{env:Ev}{st s:Sto}
theorem bM (h:a env st=some (.d (obD P S),s)):ay "amounts" a env st=some (.d (.int (P.n)),s) :=by simp only[ay,h,qac,obD];rfl
theorem cj (h:a env st=some (.d (obD P S),s)):ay "lines" a env st=some (.d (.lst (aW P.m P.n S.T)),s):=by simp only[ay,h,qac,obD];rfl
theorem lY (h:a env st=some (.d (obD P S),s)):ay "goal" a env st=some (.d (.lst (mpI (P.n+1) S.G)),s):=by simp only[ay,h,qac,obD];rfl
theorem lZ (h:a env st=some (.d (obD P S),s)):ay "part" a env st=some (.d (.int S.p),s):=by simp only[ay,h,qac,obD];rfl
theorem lX (h:a env st=some (.d (obD P S),s)):ay "free" a env st=some (.d (.lst (mpI P.n (nI S.free))),s):=by simp only[ay,h,qac,obD];rfl
theorem qr (h:a env st=some (.d (obD P S),s)):ay "kept" a env st=some (.d (.lst (mpI P.m (nI S.kept))),s):=by simp only[ay,h,qac,obD];rfl
end
theorem gx {l:Ev}(F):∀ {a:List Nat},(∀ k∈a,te (Z (g k)::l) st=some (.d (F k),st))->lcI (.nm 0) aJ te (none::l) (a.map g) st=some (a.map F,st)
 |[],_=>rfl
 |k::a,h=>by
  rw[qaz];unfold lcI;rw[show cx _ _ _=some (some _::l) from U,qac,show aJ _ st=some (true,st) from U,qac,(h k qag),qac,(gx F λx hx=>h x (qaj _ hx))];rfl
def Sm (z:Int):Prop:=z.natAbs<2^1900
theorem mulOk (x y) (c:a.natAbs<2^x) (hb:b.natAbs<2^y) (h:x+y<=134217728):qbW a b :=
 qiN (qhc.mpr c) (qhc.mpr hb) h
theorem EI { b:Int}(c:a.natAbs<2^x) (hb:b.natAbs<2^y):(a*b).natAbs<2^(x+y) :=by
 rw[qdr,qhR];exact Nat.mul_lt_mul'' c hb
theorem Sm.mulOk (c:Sm a) (hb:Sm b):qbW a b :=Own.mulOk 1900 1900 c hb (by decide)
theorem be (st) (h:qbW a b):aR st (.d (.int a)) (.d (.int b))=some (.int (a*b)) :=iFP h
theorem Sm.log (h:Sm a):a.natAbs.log2<9000 :=by
 by_cases b:a.natAbs=0
 ·rw[b];decide
 ·have:=(qhS b).mpr h
  lia
theorem qN (st) (c:0<b) (h:Sm b):qK st (.d (.int a)) (.d (.int b))=some (.int (a / b)) :=iFP ⟨c,h.log⟩
end Own
set_option maxHeartbeats 1000000
namespace Own
open PySem L2
open Sx (Pb Tb Good Named Fe LV ZV piv lexP leastR leaveL sumN unit colV basis)
theorem dY (h:a env st=some (.rt w s)):ag a b env st=some (.rt w s) :=by simp only[ag,h,qac]
theorem ah (h:a env st=some (.nx e s)) (hb:b e s=r):ag a b env st=r :=by simp only[ag,h,qac,hb]
theorem cw (h:c env st=some (true,s)) (d:a env s=r):bb c a b env st=r :=by simp only[bb,h,qac,if_true,d]
theorem bn (h:c env st=some (false,s)) (hb:b env s=r):bb c a b env st=r :=by simp only[bb,h,qac,qbs,if_false,hb]
theorem Fc (f:o env st=some (.h n,s1)) (g:a env s1=some (.d d,c)) (i:lg s1 n=some e) (hg:lg c n=some ds) (hz:ds.length<1000000):cT (de dw o (aa a ae)) env st=some (.nx env (c.set n (.l (ds++[d])))) :=by
 simp only[cT,de,f,(ab (b:=ae) g U),i,hg,dw,hz,if_true,qac,qap]
theorem kl (st:Sto) (a b:C):(st++[a]).set st.length b=st++[b]:=by
 simp
structure Okt (P:Pb) (S:Tb):Prop where
 good:Good P S
 named:Named P S
 m64:P.m<=100
 n64:P.n<=100
 sT:∀ i c,i<P.m->c<=P.n->Sm (S.T i c)
 sL:∀ i s,i<P.m->s<=P.m->Sm (LV P S i s)
 sG:∀ c,c<=P.n->Sm (S.G c)
 sp:Sm S.p
def psD (ps:List Nat):List D:=ps.map λk=>D.int ((k:Nat):Int)
theorem xD (ps):(psD ps).length=ps.length :=by unfold psD;rw[qah]
theorem mR (a:ws.length=k) (hb:b (ws.map some++qaG (n - k) none) st=some (.rt (.h h) s)) (c:st.length<=h) (hd:lg s h=some ds):d8 n k b ws st=some (.d (.lst ds),s.take st.length) :=by
 simp only[d8,a,if_true,hb,qac,zI,iFN (qik.mpr c),hd,qap]
theorem xI { u:Sto}(a:st.length<=h):(st++u).set h c=st++u.set (h - st.length) c :=by
 rw[List.set_append_right _ _ a]
theorem ED (hg:lg s h=some ds):lg (s.set h (.l es)) h=some es :=by
 have:=(qas.mp (wX hg)).1
 unfold lg;rw[qbz this]
theorem dQ (s:Sto) (ds):lg (s++[.l ds]) s.length=some ds :=by unfold lg;simp
theorem DQ (s) (hg:lg s h=some ds):cb s (.h h)=some (!ds.isEmpty) :=by
 show (lg s h).map _=_;rw[hg];rfl
theorem Go (s) (hg:lg s h=some (d::ds)):dIx s (.h h) (.d (.int 0))=some d :=by
 show (lg s h).bind _=_;rw[hg,qac,D1]
theorem Ad (s) (a b):dLt s (.d (.int a)) (.d (.int b))=some (.bl (decide (a<b))) :=rfl
theorem Ea (s) (a b):dGt s (.d (.int a)) (.d (.int b))=some (.bl (decide (a > b))) :=rfl
theorem Ge (s) (a b):dGe s (.d (.int a)) (.d (.int b))=some (.bl (decide (a>=b))) :=rfl
section
variable {tops bots:Nat->Int}{m:Nat}{st:Sto}{x0:Option W}
theorem j5 (F:∀ i,i<m->Sm (tops i)) (hb:∀ i,i<m->Sm (bots i)):∀ (ps least) (u) (h) (L f c),(∀ x∈ps,x<m)->(∀ x∈least,x<m)->lg (st++u) h=some (psD least)->st.length<=h->least.length+ps.length<=1000->
  ∃ v h' j k g,bH (.nm 4) aS (psD ps) [x0,Z (.lst (mpI m tops)),Z (.lst (mpI m bots)),some (.h h),L,f,c] (st++u)=some (.nx [x0,Z (.lst (mpI m tops)),Z (.lst (mpI m bots)),some (.h h'),j,k,g] (st++v))/\
   lg (st++v) h'=some (psD (leastR tops bots ps least))/\st.length<=h'
 |[],least,u,h,L,f,c,_,_,hg,w,_=>⟨u,h,L,f,c,U,by rw[leastR];exact hg,w⟩
 |p::ps,least,u,h,L,f,c,P,Q,hg,w,hz=>by
  have q:p<m:=P p qag;have C:∀ x∈ps,x<m:=λx hx=>P x (qaj _ hx);rw[qat]at hz;have O:∀ f c N,cx (.nm 4) (.d (.int ((p:Nat):Int))) [x0,Z (.lst (mpI m tops)),Z (.lst (mpI m bots)),some (.h N),L,f,c]=some [x0,Z (.lst (mpI m tops)),Z (.lst (mpI m bots)),some (.h N),Z (.int ((p:Nat):Int)),f,c]:=λ_ _ _=>rfl;have H:∀ (u:Sto) (h:Nat) (ls:List Nat) (f c:Option W),lg (st++u) h=some (psD ls)->st.length<=h->ls.length<1000->cT (de dw (iV 3) (aa (iV 4) ae)) [x0,Z (.lst (mpI m tops)),Z (.lst (mpI m bots)),some (.h h),Z (.int ((p:Nat):Int)),f,c] (st++u)=some _/\lg (st++u.set (h - st.length) (.l (psD (ls++[p])))) h=some (psD (ls++[p])):=λu h ls f c hg w Q=>by
   have e:=Fc (o:=iV 3) (a:=iV 4) (env:=[x0,Z (.lst (mpI m tops)),Z (.lst (mpI m bots)),some (.h h),Z (.int ((p:Nat):Int)),f,c]) (st:=st++u) (n:=h) (d:=.int ((p:Nat):Int)) U U hg hg (by rw[xD];lia);have e2:psD ls++[.int ((p:Nat):Int)]=psD (ls++[p]):=by unfold psD;rw[qci];rfl
   rw[e2,xI w]at e;refine⟨e,?_⟩;rw[<-xI w];exact ED hg
  cases least with
  |nil=>
   have K:bX cb (iV 3) [x0,Z (.lst (mpI m tops)),Z (.lst (mpI m bots)),some (.h h),Z (.int ((p:Nat):Int)),f,c] (st++u)=some (false,st++u):=by
    have:=DQ (st++u) hg
    simp only[bX,show iV 3 [x0,Z (.lst (mpI m tops)),Z (.lst (mpI m bots)),some (.h h),Z (.int ((p:Nat):Int)),f,c] (st++u)=some (.h h,st++u) from U,qac,this];rfl
   obtain⟨J,a2⟩:=H u h [] f c hg w (by decide);obtain⟨v,h',j,k,g,A,D,i3⟩:=j5 F hb ps [p] _ h (Z (.int ((p:Nat):Int))) f c C (λx hx=>by rw[qan.mp hx];exact q) a2 w (by simp at hz ⊢;lia);refine⟨v,h',j,k,g,?_,by rw[leastR];exact D,i3⟩;have s:aS [x0,Z (.lst (mpI m tops)),Z (.lst (mpI m bots)),some (.h h),Z (.int ((p:Nat):Int)),f,c] (st++u)=_:=ah (bn K U) J;show bH (.nm 4) aS (.int ((p:Nat):Int)::psD ps) _ _=_;simp only[bH,O,qac,s];exact A
  |cons t r=>
   have y:t<m:=Q t qag;have K:bX cb (iV 3) [x0,Z (.lst (mpI m tops)),Z (.lst (mpI m bots)),some (.h h),Z (.int ((p:Nat):Int)),f,c] (st++u)=some (true,st++u):=by
    have:=DQ (st++u) hg
    simp only[bX,show iV 3 [x0,Z (.lst (mpI m tops)),Z (.lst (mpI m bots)),some (.h h),Z (.int ((p:Nat):Int)),f,c] (st++u)=some (.h h,st++u) from U,qac,this];rfl
   have X:∀ f c,iOp dIx (iV 3) (iC (.int 0)) [x0,Z (.lst (mpI m tops)),Z (.lst (mpI m bots)),some (.h h),Z (.int ((p:Nat):Int)),f,c] (st++u)=some (.d (.int ((t:Nat):Int)),st++u):=λ_ _=>ac U U (Go (st++u) hg);have T:aB (.nm 5) (iOp aR (iOp dIx (iV 1) (iV 4)) (iOp dIx (iV 2) (iOp dIx (iV 3) (iC (.int 0))))) [x0,Z (.lst (mpI m tops)),Z (.lst (mpI m bots)),some (.h h),Z (.int ((p:Nat):Int)),f,c] (st++u)=some _:=
    ao (ac (ac U U (dO _ q)) (ac U (X _ _) (dO _ y)) (be _ (Sm.mulOk (F p q) (hb t y))))
   have V:aB (.nm 6) (iOp aR (iOp dIx (iV 1) (iOp dIx (iV 3) (iC (.int 0)))) (iOp dIx (iV 2) (iV 4))) [x0,Z (.lst (mpI m tops)),Z (.lst (mpI m bots)),some (.h h),Z (.int ((p:Nat):Int)),Z (.int (tops p*bots t)),c] (st++u)=some (.nx [x0,Z (.lst (mpI m tops)),Z (.lst (mpI m bots)),some (.h h),Z (.int ((p:Nat):Int)),Z (.int (tops p*bots t)),Z (.int (tops t*bots p))] (st++u)):=
    ao (ac (ac U (X _ _) (dO _ y)) (ac U U (dO _ q)) (be _ (Sm.mulOk (F t y) (hb p q))))
   generalize R:tops p*bots t=M at *;generalize S:tops t*bots p=B at *;have I:aE dGt (iV 5) (iV 6) [x0,Z (.lst (mpI m tops)),Z (.lst (mpI m bots)),some (.h h),Z (.int ((p:Nat):Int)),Z (.int M),Z (.int B)] (st++u)=some (decide (M > B),st++u):=aj U U (Ea _ _ _);have tl:aE dLt (iV 5) (iV 6) [x0,Z (.lst (mpI m tops)),Z (.lst (mpI m bots)),some (.h h),Z (.int ((p:Nat):Int)),Z (.int M),Z (.int B)] (st++u)=some (decide (M<B),st++u):=aj U U (Ad _ _ _);by_cases c1:M > B
   ·rw[decide_eq_true c1]at I
    obtain⟨v,h',j,k,g,A,D,i3⟩:=j5 F hb ps (t::r) u h (Z (.int ((p:Nat):Int))) (Z (.int M)) (Z (.int B)) C Q hg w (by lia);refine⟨v,h',j,k,g,?_,by rw[leastR,R,S,iFP c1];exact D,i3⟩;have s:aS [x0,Z (.lst (mpI m tops)),Z (.lst (mpI m bots)),some (.h h),Z (.int ((p:Nat):Int)),f,c] (st++u)=some (.ct [x0,Z (.lst (mpI m tops)),Z (.lst (mpI m bots)),some (.h h),Z (.int ((p:Nat):Int)),Z (.int M),Z (.int B)] (st++u)):=by
     have G:bb (bX cb (iV 3)) (ag (aB (.nm 5) (iOp aR (iOp dIx (iV 1) (iV 4)) (iOp dIx (iV 2) (iOp dIx (iV 3) (iC (.int 0)))))) (ag (aB (.nm 6) (iOp aR (iOp dIx (iV 1) (iOp dIx (iV 3) (iC (.int 0)))) (iOp dIx (iV 2) (iV 4)))) (ag (bb (aE dGt (iV 5) (iV 6)) pQ aQ) (bb (aE dLt (iV 5) (iV 6)) (aB (.nm 3) (bR (bm ae))) aQ)))) aQ [x0,Z (.lst (mpI m tops)),Z (.lst (mpI m bots)),some (.h h),Z (.int ((p:Nat):Int)),f,c] (st++u)=some (.ct [x0,Z (.lst (mpI m tops)),Z (.lst (mpI m bots)),some (.h h),Z (.int ((p:Nat):Int)),Z (.int M),Z (.int B)] (st++u)):=by
      refine cw K (ah T (ah V ?_))
      have:=cw (a:=pQ) (b:=aQ) I U
      simp only[ag,this];rfl
     show ag _ _ _ _=_;simp only[ag,G];rfl
    show bH (.nm 4) aS (.int ((p:Nat):Int)::psD ps) _ _=_;simp only[bH,O,qac,s];exact A
   ·rw[decide_eq_false c1]at I
    by_cases c2:M<B
    ·rw[decide_eq_true c2]at tl
     have hn:lg (st++(u++[.l []])) (st++u).length=some (psD []):=by rw[<-qbR];exact dQ _ _
     have E:st.length<=(st++u).length:=by rw[qaA];lia
     obtain⟨J,a2⟩:=H (u++[.l []]) (st++u).length [] (Z (.int M)) (Z (.int B)) hn E (by decide);obtain⟨v,h',j,k,g,A,D,i3⟩:=j5 F hb ps [p] _ (st++u).length (Z (.int ((p:Nat):Int))) (Z (.int M)) (Z (.int B)) C (λx hx=>by rw[qan.mp hx];exact q) a2 E (by simp at hz ⊢;lia);refine⟨v,h',j,k,g,?_,by rw[leastR,R,S,iFN c1,iFP c2];exact D,i3⟩;have Y:aB (.nm 3) (bR (bm ae)) [x0,Z (.lst (mpI m tops)),Z (.lst (mpI m bots)),some (.h h),Z (.int ((p:Nat):Int)),Z (.int M),Z (.int B)] (st++u)=some (.nx [x0,Z (.lst (mpI m tops)),Z (.lst (mpI m bots)),some (.h (st++u).length),Z (.int ((p:Nat):Int)),Z (.int M),Z (.int B)] (st++(u++[.l []]))):=by rw[<-qbR];rfl
     have s:aS [x0,Z (.lst (mpI m tops)),Z (.lst (mpI m bots)),some (.h h),Z (.int ((p:Nat):Int)),f,c] (st++u)=_:=ah (cw K (ah T (ah V (ah (bn I U) (cw tl Y))))) J;show bH (.nm 4) aS (.int ((p:Nat):Int)::psD ps) _ _=_;simp only[bH,O,qac,s];exact A
    ·rw[decide_eq_false c2]at tl
     obtain⟨J,a2⟩:=H u h (t::r) (Z (.int M)) (Z (.int B)) hg w (by rw[qat]at hz ⊢;lia)
     obtain⟨v,h',j,k,g,A,D,i3⟩:=j5 F hb ps ((t::r)++[p]) _ h (Z (.int ((p:Nat):Int))) (Z (.int M)) (Z (.int B)) C (λx hx=>by
      rcases qaT.mp hx with z|z
      ·exact Q x z
      ·rw[qan.mp z];exact q) a2 w (by rw[qaA,qcx];lia)
     refine⟨v,h',j,k,g,?_,by rw[leastR,R,S,iFN c1,iFN c2];exact D,i3⟩;have s:aS [x0,Z (.lst (mpI m tops)),Z (.lst (mpI m bots)),some (.h h),Z (.int ((p:Nat):Int)),f,c] (st++u)=_:=ah (cw K (ah T (ah V (ah (bn I U) (bn tl U))))) J;show bH (.nm 4) aS (.int ((p:Nat):Int)::psD ps) _ _=_;simp only[bH,O,qac,s];exact A
theorem Gy (F:∀ i,i<m->Sm (tops i)) (hb:∀ i,i<m->Sm (bots i)) (P:∀ x∈ps,x<m) (hz:ps.length<=1000):e8 [.d (.lst (psD ps)),.d (.lst (mpI m tops)),.d (.lst (mpI m bots))] st=some (.d (.lst (psD (leastR tops bots ps []))),st) :=by
 obtain⟨v,h',j,k,g,A,D,i3⟩:=j5 F hb ps [] [.l []] st.length none none none P (λx hx=>nomatch hx) (dQ st []) (qao _) (by simpa using hz)
 have:=mR (n:=7) (b:=iX) (ws:=[.d (.lst _),.d _,.d _]) U (ah U (ah (bg U A) U)) i3 D
 rw[qdR]at this;exact this
end
end Own
set_option maxHeartbeats 1000000
namespace Own
open PySem L2
open Sx (Pb Tb Good Named Fe LV ZV piv lexP leastR leaveL sumN unit colV basis)
theorem wO (s) (i):kD s (.d (.int i)) (.d .non)=some (.bl false) :=rfl
theorem rG (s):kD s (.d .non) (.d .non)=some (.bl true) :=rfl
theorem B4 (s) (l):kD s (.d (.tup l)) (.d .non)=some (.bl false) :=rfl
def dW (n:Nat):Nat->D
 |0=>.non
 |r+1=>.int (((n+r:Nat)):Int)
theorem yU (n m:Nat):D.non::cW (n) m=(qak (m+1)).map (dW n) :=by
 rw[qdJ,qaz,qaM]
 congr 1
theorem jF (st) (ds):aV st [.d (.lst ds)]=some (.int (ds.length)) :=rfl
theorem pi (h:Okt P S):dC [.d (obD P S)] st=some (.d (.lst ((qak (P.m+1)).map (dW P.n))),st) :=by
 have hm:=h.m64;have hn:=h.n64;have a:iV 0 [some _] st=some (.d (obD P S),st):=rfl;have b:=bM a;refine ax U (aC (ac (x:=.d (.lst [.non])) (y:=.d (.lst (cW (P.n) P.m))) (s1:=st) U (aq ?_) ?_))
 ·show qT _ [some _] st=_
  have e:aa (ay "amounts" (iV 0)) (aa (iOp aZ (ay "amounts" (iV 0)) (iCB aV (aa (ay "lines" (iV 0)) ae))) ae) [Z (obD P S)] st=some ([.d (.int (P.n)),.d (.int ((P.n)+(P.m)))],st):=by
   refine ab b (ab (ac b (ar (ab (cj a) U) (jF _ _)) ?_) U);rw[b9];rfl
  simp only[qT,e,qac];rw[iFP (by lia),show (_+_ - (P.n:Int)).toNat=P.m by lia]
 ·rw[<-yU]
  exact fL st (by rw[ki];simp;lia)
theorem Ei { k:Nat}:inD (.int (k)) (mpI n (nI f))=decide (∃ c,c<n/\f c=k) :=by
 rw[qd9];unfold inD mpI;rw[List.any_map,qdq,decide_eq_true_eq];constructor
 ·rintro⟨c,a,e⟩
  refine⟨c,qaD.mp a,?_⟩;have e:(((f c):Int)==_)=true:=e;lia
 ·rintro⟨c,a,e⟩
  refine⟨c,qaD.mpr a,?_⟩;show (((f c):Int)==_)=true;rw[e];exact beq_self_eq_true _
theorem Ee { k:Nat}(h:∃ c,c<n/\f c=k):∃ c,c<n/\f c=k/\((qak n).map (nI f)).idxOf? (k:Int)=some c :=by
 obtain⟨c,d,e⟩:=h;cases q:((qak n).map (nI f)).idxOf? _ with
 |none=>
  have:=List.idxOf?_eq_none_iff.mp q
  exact absurd (qaJ.mpr ⟨c,qaD.mpr d,by unfold nI;rw[e]⟩) this
 |some j=>
  obtain⟨b,a,_⟩:=qdB.mp q;rw[qah,qaq]at b;refine⟨j,b,?_,U⟩;rw[qdo,qfC]at a;have a:((f j):Int)=_:=a;lia
theorem gX (h:Good P S) (hi:i<P.m) (b:j<P.m) (e:S.kept i=S.kept j):i=j :=by
 rcases Nat.decEq i j with a|c
 ·have:=h.pos
  rw[h.dt,(Sx.det_eq0 _ hi b a (by unfold basis;rw[e]))]at this;exact absurd this (by decide)
 ·exact c
theorem Dz (h:Okt P S) (E:s<=P.m):cr [.d (obD P S),.d (dW P.n s)] st=some (.d (.lst (mpI P.m λi=>LV P S i s)),st) :=by
 have hg:=h.good;have hm:=h.m64;have hn:=h.n64;cases s with
 |zero=>
  have e:mpI P.m (λi=>LV P S i 0)=mpI P.m λi=>S.T i P.n:=bu λi hi=>by
   have e:=hg.entry (qao _) hi;have c1:colV P S P.n=P.b:=by unfold Sx.colV;rw[iFN (qa4 _)]
   rw[c1]at e;unfold LV Sx.XV;rw[iFP U,<-e]
  rw[e];refine ax (n:=3) (k:=2) (b:=fM) U (dY (cw (s:=st) (aj (x:=.d .non) U U (rG st)) (aC (aq (aH (aT (cj (P:=P) (S:=S) (st:=st) (a:=iV 0) U)) (by rw[b9];lia) ?_)))));exact gx _ λi _=>ac U U (wR st)
 |succ r=>
  have w:r<P.m:=by lia
  have q:∀ o,iV 0 [some _,Z (.int ((P.n+r:Nat))),o] st=some (.d (obD P S),st):=λ_=>rfl;have v:=lX (q none);have l:Sx.XV P (r+1)=unit r:=by unfold Sx.XV;rw[iFN (by lia),qc5]
  have tI:aE dIn (iV 1) (ay "free" (iV 0)) [Z (obD P S),Z (.int ((P.n+r:Nat))),none] st=some (decide (∃ c,c<P.n/\S.free c=P.n+r),st):=by
   refine aj U v ?_;simp only[dIn,gG,bG,ux,qac,and_self,if_true,Ei]
  refine ax (n:=3) (k:=2) (b:=fM) U (ah (bn (aj U U (wO st _)) U) ?_);by_cases m:∃ c,c<P.n/\S.free c=P.n+r
  ·rw[decide_eq_true m]at tI
   obtain⟨c,y,B,g⟩:=Ee m;have e:mpI P.m (λi=>LV P S i _)=mpI P.m λi=>S.T i c:=bu λi hi=>by
    have e:=hg.entry (c:=c) (by lia) hi;have c1:colV P S c=unit r:=by unfold Sx.colV;rw[iFP y,B,h.named.one r w]
    rw[c1]at e;unfold LV;rw[l,<-e]
   rw[e];have C:aB (.nm 2) (zO (ay "free" (iV 0)) (aa (iV 1) ae)) [Z (obD P S),Z (.int ((P.n+r:Nat))),none] st=some (.nx [Z (obD P S),Z (.int ((P.n+r:Nat))),Z (.int (c))] st):=by
    refine ao ?_;have A:a5 (mpI P.n (nI S.free))=some ((qak P.n).map (nI S.free)):=by rw[bC];exact bh _
    simp only[zO,v,qac,show aa (iV 1) ae [some _,some _,none] st=some ([.d _],st) from U,A];rw[iFP (by rw[qah,qaq];lia),g];rfl
   refine dY (cw tI (ah C (aC (aq (aH (aT (cj (P:=P) (S:=S) (q _))) (by rw[b9];lia) ?_)))));exact gx _ λi _=>ac U U (uh st (by lia))
  ·rw[decide_eq_false m]at tI
   obtain⟨j,u,t⟩:∃ j,j<P.m/\S.kept j=P.n+r:=(h.named.all _ (by lia)).elim (λz=>absurd z m) id;have e:mpI P.m (λi=>LV P S i _)=mpI P.m λi=>if S.kept i=P.n+r then S.p else 0:=bu λi hi=>by
    have e:=Sx.det_kept hg hi u;have c1:basis P S j=unit r:=by unfold Sx.basis;rw[t,h.named.one r w]
    rw[c1]at e;unfold LV;rw[l,e];by_cases f:i=j
    ·rw[iFP f,iFP (by rw[f];exact t)]
    ·rw[iFN f,iFN λz=>f (gX hg hi u (z.trans t.symm))]
   rw[e];refine ah (bn tI U) (aC (aq (aH (aT (qr (P:=P) (S:=S) (q none))) (by rw[av];lia) ?_)));refine gx (λi=>D.int _) λi _=>?_;have te:aE dEq (iV 0) (iV 1) [Z (.int (nI S.kept i)),Z (.int ((P.n+r:Nat):Int)),Z (obD P S)] st=some (decide (S.kept i=P.n+r),st):=by
    refine aj U U ?_;rw[cy]
    congr 2
    unfold nI;lia
   by_cases p:S.kept i=P.n+r
   ·rw[decide_eq_true p]at te
    rw[iFP p];exact oJ te (lZ (P:=P) (S:=S) (st:=st) (a:=iV 2) U)
   ·rw[decide_eq_false p]at te
    rw[iFN p];exact sI te U
theorem wu (m) (f):bE 0 (mpI m f)=(qak m).map λi=>D.tup [.int ((i:Nat)),.int (f i)] :=by
 apply qa6;intro i;rw[cD,qay];by_cases hi:i<m
 ·rw[aU hi,qaS hi,qbg];rfl
 ·rw[qav (by rw[av];lia),qav (by rw[qaq];lia)];rfl
theorem vB {l:Ev}{g:Nat->D×D} (p) (F):∀ {a:List Nat},(∀ k∈a,tt (Z (g k).1::some (.d (g k).2)::l) st=some (p k,st)/\(p k=true->te (Z (g k).1::some (.d (g k).2)::l) st=some (.d (F k),st)))->
  lcI (.tp [0,1]) tt te (none::none::l) (a.map λk=>D.tup [(g k).1,(g k).2]) st=some ((a.filter p).map F,st)
 |[],_=>rfl
 |k::a,h=>by
  have b:=vB p F λx hx=>h x (qaj _ hx);obtain⟨e,c⟩:=h k qag;rw[qaz];unfold lcI;rw[show cx _ _ _=some (some _::some _::l) from U,qac,e,qac];cases hp:p k with
  |true=>rw[c hp,qac,b,qeD hp];rfl
  |false=>rw[iFN (show ¬ (false=true) by decide),b,qeE (by rw[hp];decide)]
def iY (P:Pb) (S:Tb) (c:Nat):List Nat:=(qak P.m).filter λi=>decide (S.T i c > 0)
def hU (P:Pb) (S:Tb) (c:Nat):List Nat:=leaveL (λs i=>LV P S i s) (λi=>S.T i c) (qak (P.m+1)) (iY P S c)
theorem dP {m}:∀ {ps least},(∀ x∈ps,x<m)->(∀ x∈least,x<m)->(∀ x∈leastR tops bots ps least,x<m)/\(leastR tops bots ps least).length<=ps.length+least.length
 |[],least,_,h=>by rw[leastR];exact⟨h,by simp⟩
 |p::ps,[],b,_=>by
  rw[leastR]
  have:=dP (tops:=tops) (bots:=bots) (λx hx=>b x (qaj _ hx)) λx hx=>by rw[qan.mp hx];exact b p qag
  exact⟨this.1,by simp at this ⊢;lia⟩
 |p::ps,e::r,b,d=>by
  have a:=λx hx=>b x (qaj _ hx);have c:=b p qag;rw[leastR];split
  ·have:=dP (tops:=tops) (bots:=bots) a d
   exact⟨this.1,by simp at this ⊢;lia⟩
  ·split
   ·have:=dP (tops:=tops) (bots:=bots) a λx hx=>by rw[qan.mp hx];exact c
    exact⟨this.1,by simp at this ⊢;lia⟩
   ·have:=dP (tops:=tops) (bots:=bots) a λx hx=>by
     rcases qaT.mp hx with z|z
     ·exact d x z
     ·rw[qan.mp z];exact c
    exact⟨this.1,by simp at this ⊢;lia⟩
section
variable {P:Pb}{S:Tb}{st:Sto}{c:Nat}
theorem wY (h:Okt P S) (u:c<=P.n):∀ (v ps) (o),(∀ s∈v,s<=P.m)->(∀ x∈ps,x<P.m)->ps.length<=1000->
  ∃ p,bH (.nm 4) eK (v.map (dW P.n)) [Z (obD P S),Z (.int (c)),Z (.lst (mpI P.m λi=>S.T i c)),Z (.lst (psD ps)),o] st=some (.nx [Z (obD P S),Z (.int (c)),Z (.lst (mpI P.m λi=>S.T i c)),Z (.lst (psD (leaveL (λs i=>LV P S i s) (λi=>S.T i c) v ps))),p] st)
 |[],ps,o,_,_,_=>⟨o,U⟩
 |s::v,ps,o,w,F,hz=>by
  have m:cx (.nm 4) _ [some _,some _,some _,some _,o]=some [Z (obD P S),Z (.int (c)),Z (.lst (mpI P.m λi=>S.T i c)),Z (.lst (psD ps)),Z (dW P.n s)]:=rfl;have y:aE dLt (iCB aV (aa (iV 3) ae)) (iC (.int 2)) [Z (obD P S),Z (.int (c)),Z (.lst (mpI P.m λi=>S.T i c)),Z (.lst (psD ps)),Z (dW P.n s)] st=some (decide (ps.length<2),st):=by
   refine aj (ar U (jF _ _)) U ?_;rw[xD,Ad]
   congr 2
   lia
  rw[qaz,leaveL];by_cases q:ps.length<2
  ·rw[decide_eq_true q]at y
   rw[iFP q];refine⟨some (.d (dW P.n s)),?_⟩;have hb:eK [Z (obD P S),Z (.int (c)),Z (.lst (mpI P.m λi=>S.T i c)),Z (.lst (psD ps)),Z (dW P.n s)] st=some (.bk [Z (obD P S),Z (.int (c)),Z (.lst (mpI P.m λi=>S.T i c)),Z (.lst (psD ps)),Z (dW P.n s)] st):=by
    have:=cw (a:=vk) (b:=aQ) y U
    show ag _ _ _ _=_;simp only[ag,this];rfl
   simp only[bH,m,qac,hb]
  ·rw[decide_eq_false q]at y
   rw[iFN q];have f:=dP (tops:=λi=>LV P S i s) (bots:=λi=>S.T i c) (least:=[]) F (λx hx=>nomatch hx)
   obtain⟨p,H⟩:=wY h u v _ _ (λx hx=>w x (qaj _ hx)) f.1 (by have:=f.2;simp at this;lia);refine⟨p,?_⟩;have hb:eK [some _,some _,some _,some _,some _] st=some _:=
    ah (bn y U) (ao (ai (ab U (ab (ai U (Dz h (w s qag))) (ab U U))) (Gy (λi hi=>h.sL i s hi (w s qag)) (λi hi=>h.sT i c hi u) F hz)))
   simp only[bH,m,qac,hb];exact H
def EB (l:List Nat):D:=match l with
 |[]=>.non
 |r::_=>.int ((r:Nat):Int)
theorem vI (h:Okt P S) (u:c<=P.n):iI [.d (obD P S),.d (.int (c))] st=some (.d (EB (hU P S c)),st) :=by
 have hm:=h.m64;have A:bN (aa (iV 2) ae) [Z (obD P S),Z (.int (c)),Z (.lst (mpI P.m λi=>S.T i c)),none,none] st=some ((qak P.m).map λi=>D.tup [.int ((i:Nat)),.int (S.T i c)],st):=by
  rw[<-wu];rfl
 have B:∀ x∈iY P S c,x<P.m:=λx hx=>qaD.mp (qbX.mp hx).1;have E:(iY P S c).length<=1000:=by
  have:(iY P S c).length<=(qak P.m).length:=qcy ..
  rw[qaq]at this;lia
 obtain⟨o,I⟩:=wY (st:=st) h u (qak (P.m+1)) (iY P S c) none (λs w=>by have:=qaD.mp w;lia) B E;have hw:=pi (st:=st) h;have C:aA (az dC (aa (iV 0) ae)) [Z (obD P S),Z (.int (c:Int)),Z (.lst (mpI P.m λi=>S.T i c)),Z (.lst (psD (iY P S c))),none] st=some ((qak (P.m+1)).map (dW P.n),st):=aT (ai (ws:=[.d (obD P S)]) U hw);refine ax (n:=5) (k:=2) (b:=pH) U (ah (ao (aq (aH (aT (cj (P:=P) (S:=S) (env:=[some _,Z (.int (c)),none,none,none]) (st:=st) (a:=iV 0) U)) (by rw[b9];lia) (gx _ λi _=>ac U U (uh st u))))) (ah (ao (aq (aH A (by rw[qah,qaq];lia) (vB (g:=λi=>(D.int ((i:Nat):Int),.int (S.T i c))) (λi=>decide (S.T i c > 0)) (λi=>D.int ((i:Nat):Int)) λi _=>⟨aj U U (Ea _ _ _),λ_=>rfl⟩)))) (ah (bg C I) (aC ?_))));show eY _ _ _ [some _,some _,some _,Z (.lst (psD (hU P S c))),o] st=_;cases hU P S c with
 |nil=>rfl
 |cons r l=>exact oJ U (ac U U (D1 _ _))
theorem vG (hz:∀ i,i<P.m->S.T i c<=0):hU P S c=[]:=by
 have:iY P S c=[]:=by
  unfold iY;rw[qg7];intro i hi
  have:=hz i (qaD.mp hi)
  lia
 unfold hU;rw[this,qdJ,leaveL,iFP (by decide)]
theorem vH (h:Okt P S) (hA:∀ i,i<P.m->∀ t,P.m<=t->P.A (S.kept i) t=0) (hz:¬ ∀ i,i<P.m->S.T i c<=0) :
  ∃ r,hU P S c=[r]/\r<P.m/\0<S.T r c/\∀ i,i<P.m->i≠r->0<S.T i c->lexP (P.m+1) λs=>S.T r c*LV P S i s - S.T i c*LV P S r s:=by
 have G:∀ i,i∈iY P S c↔i<P.m/\0<S.T i c:=λi=>by
  unfold iY;rw[qbX,qaD,decide_eq_true_eq]
 obtain⟨r,J,q⟩:=Sx.leaving_ok h.good hA G (qfU qfh List.nodup_range) (λe=>hz λi hi=>by
  have:¬ _:=λz=>by
   have:=(G i).mpr z
   rw[e]at this;exact absurd this qbd
  lia)
 refine⟨r,?_,q⟩;rw[<-J];unfold hU;rw[show (λj=>0+j)=id by funext j;simp,qhz]
end
end Own
set_option maxHeartbeats 1000000
namespace Own
open PySem L2
open Sx (Pb Tb Good Named Fe LV ZV piv lexP leastR leaveL sumN unit colV basis)
theorem rS (s) (a b):dIx s (.d (.tup [a,b])) (.d (.int 0))=some a :=rfl
theorem kQ (s) (a b):dIx s (.d (.tup [a,b])) (.d (.int 1))=some b :=rfl
theorem uH (c:a env st=some (ws,s)) (h:qP ws=some ds) (b:ds.length<=1000):a8 a env st=some (.d (.tup ds),s) :=by
 simp only[a8,c,qac,h,qap,b,if_true]
section
variable {P:Pb}{S:Tb}{st:Sto}
theorem DB (s) (a):dNe s (.d (.int a)) (.d (.int 0))=some (.bl (!(a==0))) :=rfl
theorem Sm.two (ha:Sm a) (hb:Sm b):(a*b).natAbs<2^3800 :=EI ha hb
theorem wC (h:Okt P S) {c1  c2 :Nat}(g:o<P.m) (m:l<P.m) (hM:M.natAbs<2^3800) (hB:B.natAbs<2^3800):∀ (I:List Nat) (E q p),(∀ s∈I,s<=P.m)->
  (∃ b,bH (.nm 5) bO (I.map (dW P.n)) [Z (obD P S),Z (.tup [.int (c1),.int (o)]),Z (.tup [.int (c2),.int (l)]),Z (.int M),Z (.int B),E,q,p] st=some (.rt (.d (.bl b)) st))\/
  ∃ e,bH (.nm 5) bO (I.map (dW P.n)) [Z (obD P S),Z (.tup [.int (c1),.int (o)]),Z (.tup [.int (c2),.int (l)]),Z (.int M),Z (.int B),E,q,p] st=some (.nx e st)
 |[],E,q,p,_=>.inr ⟨_,U⟩
 |s::I,E,q,p,L=>by
  have G:=L s qag;have f:cx (.nm 5) _ [some _,some _,some _,some _,some _,E,q,p]=some [Z (obD P S),Z (.tup [.int (c1),.int (o)]),Z (.tup [.int (c2),.int (l)]),Z (.int M),Z (.int B),Z (dW P.n s),q,p]:=rfl;have s6:aB (.nm 6) (az cr (aa (iV 0) (aa (iV 5) ae))) [some _,Z (.tup [.int (c1),.int (o)]),Z (.tup [.int (c2),.int (l)]),Z (.int M),Z (.int B),some _,q,p] st=some _:=ao (ai U (Dz h G));have R:aB (.nm 7) (iOp gB (iOp aR (iV 4) (iOp dIx (iV 6) (iOp dIx (iV 2) (iC _)))) (iOp aR (iV 3) (iOp dIx (iV 6) (iOp dIx (iV 1) (iC _))))) [Z (obD P S),Z (.tup [.int (c1),.int _]),Z (.tup [.int (c2),.int _]),some _,some _,Z (dW P.n s),Z (.lst (mpI P.m λi=>LV P S i s)),p] st=some _:=
   ao (ac (ac U (ac U (ac U U (kQ st _ _)) (dO st m)) (be st (mulOk 3800 1900 hB (h.sL l s m G) (by decide)))) (ac U (ac U (ac U U (kQ st _ _)) (dO st g)) (be st (mulOk 3800 1900 hM (h.sL o s g G) (by decide)))) U)
  generalize B*LV P S l s - M*LV P S o s=Zq at R;have N:aE dNe (iV 7) (iC _) [Z (obD P S),Z (.tup [.int (c1),.int (o)]),Z (.tup [.int (c2),.int (l)]),Z (.int M),Z (.int B),Z (dW P.n s),Z (.lst (mpI P.m λi=>LV P S i s)),some _] st=some (!_,st):=aj U U (DB st Zq);rw[qaz];cases hz:(Zq==0) with
  |false=>
   rw[hz]at N
   left
   refine⟨decide (Zq > 0),?_⟩;have hb:bO [some _,some _,some _,some _,some _,some _,q,p] st=some _:=ah s6 (ah R (cw N (aC (ac U U (Ea st _ _)))));simp only[bH,f,qac,hb]
  |true=>
   rw[hz]at N;have hb:bO [some _,some _,some _,some _,some _,some _,q,p] st=some _:=ah s6 (ah R (bn N U));simp only[bH,f,qac,hb];exact (wC h g m hM hB I _ _ _ λx hx=>L x (qaj _ hx))
theorem Gf (h:Okt P S) (hc1:c1<P.n) (g:o<P.m) (hc2:c2<P.n) (m:l<P.m):∃ b,bT [.d (obD P S),.d (.tup [.int (c1),.int (o)]),.d (.tup [.int (c2),.int (l)])] st=some (.d (.bl b),st) :=by
 have H:∀ n o4 E q p,iV 0 [some _,Z (.tup [.int (c1),.int (o)]),Z (.tup [.int (c2),.int (l)]),n,o4,E,q,p] st=some (.d (obD P S),st):=λ_ _ _ _ _=>rfl;have u:aB (.nm 3) (iOp aR (iOp dIx _ (iOp dIx (iV 1) (iC _))) (iOp dIx (iOp dIx _ (iOp dIx (iV 2) (iC _))) (iOp dIx (iV 2) (iC _)))) [some _,some _,some _,none,none,none,none,none] st=some _:=
  ao (ac (ac (lY (H _ _ _ _ _)) (ac U U (rS st _ _)) (dO st (by lia))) (ac (ac (cj (H _ _ _ _ _)) (ac U U (kQ st _ _)) (ui st m)) (ac U U (rS st _ _)) (uh st (by lia))) (be st (Sm.mulOk (h.sG c1 (by lia)) (h.sT l c2 m (by lia)))))
 have s4:aB (.nm 4) (iOp aR (iOp dIx _ (iOp dIx (iV 2) (iC _))) (iOp dIx (iOp dIx _ (iOp dIx (iV 1) (iC _))) (iOp dIx (iV 1) (iC _)))) [some _,some _,some _,Z (.int (S.G c1*S.T l c2)),none,none,none,none] st=some _:=
  ao (ac (ac (lY (H _ _ _ _ _)) (ac U U (rS st _ _)) (dO st (by lia))) (ac (ac (cj (H _ _ _ _ _)) (ac U U (kQ st _ _)) (ui st g)) (ac U U (rS st _ _)) (uh st (by lia))) (be st (Sm.mulOk (h.sG c2 (by lia)) (h.sT o c1 g (by lia)))))
 have K:aA (az dC (aa (iV 0) ae)) [some _,Z (.tup [.int (c1),.int (o)]),Z (.tup [.int (c2),.int (l)]),Z (.int (S.G c1*S.T l c2)),Z (.int (S.G c2*S.T o c1)),none,none,none] st=some ((qak _).map _,st):=aT (ai U (pi h));rcases wC h g m (Sm.two (h.sG c1 (by lia)) (h.sT l c2 m (by lia))) (Sm.two (h.sG c2 (by lia)) (h.sT o c1 g (by lia))) (qak (P.m+1)) none none none (λs L=>by have:=qaD.mp L;lia) with⟨b,e⟩|⟨e,he⟩
 ·exact⟨b,ax U (ah u (ah s4 (dY (bg K e))))⟩
 ·exact⟨false,ax U (ah u (ah s4 (ah (bg K he) U)))⟩
def kz (P:Pb) (S:Tb) (x:D):Prop:=x=.non\/∃ c r,c<P.n/\S.G c<0/\hU P S c=[r]/\r<P.m/\0<S.T r c/\(∀ i,i<P.m->i≠r->0<S.T i c->lexP (P.m+1) λs=>S.T r c*LV P S i s - S.T i c*LV P S r s)/\x=.tup [.int (c:Int),.int (r:Int)]
theorem qw (h:Okt P S) (hA:∀ i,i<P.m->∀ t,P.m<=t->P.A (S.kept i) t=0):∀ (j k) (x) (C n),k+j=P.n->kz P S x->(x=.non->∀ c,c<k->0<=S.G c)->
  (∃ c,c<P.n/\S.G c<0/\(∀ i,i<P.m->S.T i c<=0)/\bH (.nm 2) bK ((qdL k j).map λc=>D.int ((c:Nat))) [Z (obD P S),Z x,C,n] st=some (.rt (.d (.tup [.int (c),.non])) st))\/
  ∃ y O Q,kz P S y/\(y=.non->∀ c,c<P.n->0<=S.G c)/\bH (.nm 2) bK ((qdL k j).map λc=>D.int ((c:Nat))) [Z (obD P S),Z x,C,n] st=some (.nx [Z (obD P S),Z y,O,Q] st)
 |0,k,x,C,n,hk,hx,w=>.inr ⟨x,C,n,hx,by rw[<-hk];exact w,U⟩
 |j+1,k,x,C,n,hk,hx,w=>by
  have F:k<P.n:=by lia
  have f:cx (.nm 2) _ [some _,some _,C,n]=some [Z (obD P S),Z x,Z (.int ((k))),n]:=rfl;have H:∀ a b d,iV 0 [some _,a,b,d] st=some (.d (obD P S),st):=λ_ _ _=>rfl;have A:aE dGe (iOp dIx _ (iV 2)) (iC _) [some _,Z x,some _,n] st=some (decide (S.G k>=0),st):=aj (ac (lY (H _ _ _)) U (dO st (by lia))) U (Ge st _ _);rw[qil,qaz];by_cases hg:S.G k>=0
  ·rw[decide_eq_true hg]at A
   have hb:bK [Z (obD P S),Z x,Z (.int ((k))),n] st=some (.ct [Z (obD P S),Z x,Z (.int ((k))),n] st):=by
    have:=cw (a:=pQ) (b:=aQ) A U
    show ag _ _ _ _=_;simp only[ag,this];rfl
   simp only[bH,f,qac,hb]
   exact (qw h hA j (k+1) x (Z (.int ((k:Nat):Int))) n (by lia) hx λe c hc=>by
    by_cases z:c=k
    ·rw[z];exact hg
    ·exact w e c (by lia))
  ·rw[decide_eq_false hg]at A
   have J:S.G k<0:=by lia
   have u:aB (.nm 3) (a8 (aa (iV 2) (aa (az iI (aa (iV 0) (aa (iV 2) ae))) ae))) [Z (obD P S),Z x,Z (.int ((k:Nat):Int)),n] st=some _:=
    ao (uH (ab U (ab (ai (ws:=[.d (obD P S),.d (.int ((k:Nat):Int))]) U (vI (st:=st) (c:=k) h (by lia))) U)) U (by show 2<=1000;decide))
   by_cases hz:∀ i,i<P.m->S.T i k<=0
   ·rw[vG hz]at u
    left
    refine⟨k,F,J,hz,?_⟩;have hb:bK [Z (obD P S),Z x,Z (.int ((k:Nat):Int)),n] st=some (.rt (.d (.tup [.int ((k:Nat):Int),.non])) st):=ah (bn A U) (ah u (dY (cw (aj (ac U U (kQ st _ _)) U (rG st)) U)));simp only[bH,f,qac,hb]
   ·obtain⟨r,l1,l2,l3,l4⟩:=vH h hA hz
    rw[l1]at u;have T:aE kD (iOp dIx (iV 3) (iC _)) (iC .non) [Z (obD P S),Z x,Z (.int ((k))),Z (.tup [.int ((k)),.int ((r))])] st=some (false,st):=aj (ac U U (kQ st _ _)) U (wO st _);have v:kz P S _:=.inr ⟨k,r,F,J,l1,l2,l3,l4,U⟩;have V:∃ y,kz P S y/\y≠.non/\bK [Z (obD P S),Z x,Z (.int ((k))),n] st=some (.nx [Z (obD P S),Z y,Z (.int ((k))),Z (.tup [.int ((k)),.int ((r))])] st):=by
     rcases hx with rfl|⟨c,Y,c1,c2,c3,c4,c5,c6,rfl⟩
     ·have t1:aE kD (iV 1) (iC .non) [Z (obD P S),some _,Z (.int ((k))),Z (.tup [.int ((k)),.int ((r))])] st=some (true,st):=aj U U (rG st)
      have t2:dM (aE kD (iV 1) (iC .non)) (bX cb (az bT (aa (iV 0) (aa (iV 3) (aa (iV 1) ae))))) [Z (obD P S),Z .non,Z (.int ((k))),Z (.tup [.int ((k)),.int ((r))])] st=some (true,st):=by simp only[dM,t1,qac,if_true]
      exact⟨_,v,by simp,ah (bn A U) (ah u (ah (bn T U) (cw t2 U)))⟩
     ·obtain⟨b,eb⟩:=Gf h F l2 c1 c4
      have t1:aE kD (iV 1) (iC .non) [Z (obD P S),Z (.tup [.int (c),.int (Y)]),Z (.int ((k))),Z (.tup [.int ((k)),.int ((r))])] st=some (false,st):=aj U U (B4 st _);have t3:az bT (aa (iV 0) (aa (iV 3) (aa (iV 1) ae))) [some _,some _,Z (.int ((k))),some _] st=some (.d _,st):=ai U eb;have t2:dM (aE kD (iV 1) (iC .non)) (bX cb (az bT (aa (iV 0) (aa (iV 3) (aa (iV 1) ae))))) [Z (obD P S),Z (.tup [.int (c),.int (Y)]),Z (.int ((k))),Z (.tup [.int ((k)),.int ((r))])] st=some (b,st):=by simp only[dM,t1,bX,t3,qac,qbs,if_false,cb,qap]
      cases b with
      |true=>exact⟨_,v,by simp,ah (bn A U) (ah u (ah (bn T U) (cw t2 U)))⟩
      |false=>exact⟨_,.inr ⟨c,Y,c1,c2,c3,c4,c5,c6,U⟩,by simp,ah (bn A U) (ah u (ah (bn T U) (bn t2 U)))⟩
    obtain⟨y,hy,X,hb⟩:=V;simp only[bH,f,qac,hb];exact (qw h hA j (k+1) y (Z (.int ((k:Nat):Int))) (Z (.tup [.int ((k:Nat):Int),.int ((r:Nat):Int)])) (by lia) hy λe=>absurd e X)
theorem F0 (h:Okt P S) (hA:∀ i,i<P.m->∀ t,P.m<=t->P.A (S.kept i) t=0) :
  (∃ c,c<P.n/\S.G c<0/\(∀ i,i<P.m->S.T i c<=0)/\bF [.d (obD P S)] st=some (.d (.tup [.int (c),.non]),st))\/
  ∃ y,kz P S y/\(y=.non->∀ c,c<P.n->0<=S.G c)/\bF [.d (obD P S)] st=some (.d y,st) :=by
 have hn:=h.n64;have hr:bA (aa (iCB aV (aa (ay "free" (iV 0)) ae)) ae) [Z (obD P S),Z .non,none,none] st=some ((qdL 0 P.n).map λc=>D.int ((c:Nat)),st):=by
  have e2:cW 0 P.n=(qdL 0 P.n).map λc=>D.int ((c:Nat)):=by
   unfold cW;rw[qdZ];exact qcf λk _=>by rw[qcc]
  rw[<-e2];exact (jr (ar (ab (lX U) U) (show aV st [.d _]=some _ by rw[jF,av])) (by lia) (by lia) (by lia))
 rcases qw h hA P.n 0 .non none none (by lia) (.inl rfl) (λ_ c hc=>absurd hc (by lia)) with⟨c,c1,c2,c3,e⟩|⟨y,C,n,y1,y2,e⟩
 ·exact .inl ⟨c,c1,c2,c3,ax U (ah U (dY (bg hr e)))⟩
 ·exact .inr ⟨y,y1,y2,ax U (ah U (ah (bg hr e) U))⟩
end
end Own
set_option maxHeartbeats 1000000
namespace Own
open PySem L2
open Sx (Pb Tb Good Named Fe LV ZV piv lexP leastR leaveL sumN unit colV basis)
theorem eF (h:k<n):ixN n (k)=some k :=by
 unfold ixN;rw[iFP (by lia),iFP (by lia)];rfl
theorem FP (n) (f g):cg (mpI n f) (mpI n g)=(qak n).map λc=>D.tup [.int (f c),.int (g c)] :=by
 apply qa6;intro i;rw[d6,qay];by_cases hi:i<n
 ·rw[aU hi,aU hi,qaS hi];rfl
 ·rw[qav (by rw[av];lia),qav (l:=qak n) (by rw[qaq];lia)];rfl
theorem z7 {l:Ev}{g:Nat->D×D} (F) {a:List Nat} (h:∀ k∈a,te (Z (g k).1::some (.d (g k).2)::l) st=some (.d (F k),st)) :
  lcI (.tp [0,1]) aJ te (none::none::l) (a.map λk=>D.tup [(g k).1,(g k).2]) st=some (a.map F,st) :=by
 have:=vB (tt:=aJ) _ F λk b=>⟨U,λ_=>h k b⟩
 rw[this,qhC.mpr λ_ _=>rfl]
theorem uP (m:e<=n) (r:0<p) (sp:Sm p) (j:∀ c,c<=n->Sm (f c)) (sg:∀ c,c<=n->Sm (g c)) (hn:n<=1000) :
  j7 [.d (.lst (mpI (n+1) f)),.d (.lst (mpI (n+1) g)),.d (.int (e)),.d (.int p)] st=some (.d (.lst (mpI (n+1) λc=>if c=e then - f e else (g e*f c - f e*g c) / p)),st) :=by
 have a:e<n+1:=by lia
 have hz:cp (aa (iV 0) (aa (iV 1) ae)) [Z (.lst (mpI (n+1) f)),Z (.lst (mpI (n+1) g)),Z (.int (e:Int)),Z (.int p),Z (.int (g e)),Z (.int (f e)),none] st=some ((qak (n+1)).map λc=>D.tup [.int (f c),.int (g c)],st):=by
  rw[<-FP];rfl
 have u:lcI (.tp [0,1]) aJ kF [none,none,Z (.int (g e)),Z (.int (f e)),Z (.int p)] ((qak (n+1)).map λc=>D.tup [.int (f c),.int (g c)]) st=some (mpI (n+1) λc=>(g e*f c - f e*g c) / p,st):=by
  refine z7 (g:=λc=>(D.int (f c),.int (g c))) _ λc o=>?_;have i:c<=n:=by have:=qaD.mp o;lia
  exact ac (ac (ac U U (be st (Sm.mulOk (sg e m) (j c i)))) (ac U U (be st (Sm.mulOk (j e m) (sg c i)))) U) U (qN st r sp)
 have q:aB (.nm 6) (bR (iLc 2 [4,5,3] (cp (aa (iV 0) (aa (iV 1) ae))) (.tp [0,1]) aJ kF)) [Z (.lst (mpI (n+1) f)),Z (.lst (mpI (n+1) g)),Z (.int (e:Int)),Z (.int p),Z (.int (g e)),Z (.int (f e)),none] st=some (.nx [Z (.lst (mpI (n+1) f)),Z (.lst (mpI (n+1) g)),Z (.int (e:Int)),Z (.int p),Z (.int (g e)),Z (.int (f e)),some (.h st.length)] (st++[.l (mpI (n+1) λc=>(g e*f c - f e*g c) / p)])):=by
  refine ao ?_
  have:=aH (k:=2) (js:=[4,5,3]) hz (by rw[qah,qaq];lia) u
  simp only[bR,this,qap]
 have t:bq (iV 6) (iV 2) (iUn gA (iV 5)) [Z (.lst (mpI (n+1) f)),Z (.lst (mpI (n+1) g)),Z (.int (e:Int)),Z (.int p),Z (.int (g e)),Z (.int (f e)),some (.h st.length)] (st++[.l (mpI (n+1) λc=>(g e*f c - f e*g c) / p)])=some (.nx [Z (.lst (mpI (n+1) f)),Z (.lst (mpI (n+1) g)),Z (.int (e:Int)),Z (.int p),Z (.int (g e)),Z (.int (f e)),some (.h st.length)] (st++[.l (mpI (n+1) λc=>if c=e then - f e else (g e*f c - f e*g c) / p)])):=by
  have w:gz (st++[.l (mpI (n+1) λc=>(g e*f c - f e*g c) / p)]) (.h st.length) (.d (.int (e:Int))) (.d (.int (- f e)))=some (st++[.l (mpI (n+1) λc=>if c=e then - f e else (g e*f c - f e*g c) / p)]):=by
   simp only[gz,dQ,qac,av,eF a,qap,kl,f7]
  have v:iUn gA (iV 5) [Z (.lst (mpI (n+1) f)),Z (.lst (mpI (n+1) g)),Z (.int (e:Int)),Z (.int p),Z (.int (g e)),Z (.int (f e)),some (.h st.length)] _=some (.d (.int (- f e)),st++[.l (mpI (n+1) λc=>(g e*f c - f e*g c) / p)]):=rfl;have x:iV 6 [Z (.lst (mpI (n+1) f)),Z (.lst (mpI (n+1) g)),Z (.int (e:Int)),Z (.int p),Z (.int (g e)),Z (.int (f e)),some (.h st.length)] _=some (.h st.length,st++[.l (mpI (n+1) λc=>(g e*f c - f e*g c) / p)]):=rfl;have s:iV 2 [Z (.lst (mpI (n+1) f)),Z (.lst (mpI (n+1) g)),Z (.int (e:Int)),Z (.int p),Z (.int (g e)),Z (.int (f e)),some (.h st.length)] _=some (.d (.int (e:Int)),st++[.l (mpI (n+1) λc=>(g e*f c - f e*g c) / p)]):=rfl;simp only[bq,v,x,s,qac,w,qap]
 have:=mR (n:=7) (k:=4) (b:=wm) (ws:=[.d (.lst (mpI (n+1) f)),.d (.lst (mpI (n+1) g)),.d (.int (e:Int)),.d (.int p)]) (st:=st) (h:=st.length) U (ah (ao (ac U U (dO st a))) (ah (ao (ac U U (dO st a))) (ah q (ah t U)))) (qao _) (dQ _ _)
 rw[qdR]at this;exact this
abbrev stG (st0:Sto) (fr kp:List D) (fs:List (Str×W)):Sto:=st0++[.l fr,.l kp,.o fs]
def fsO (n:Nat) (b:List D) (a:List D) (p:Int) (L:Nat):List (Str×W):=[("amounts",.d (.int (n:Int))),("lines",.d (.lst b)),("goal",.d (.lst a)),("part",.d (.int p)),("free",.h L),("kept",.h (L+1))]
section
variable {st0:Sto}{fr kp:List D}{fs:List (Str×W)}
theorem sg2:(stG st0 fr kp fs)[st0.length+2]?=some (.o fs):=by rw[qaI (by lia)];simp
theorem sg0:lg (stG st0 fr kp fs) st0.length=some fr:=by unfold lg;rw[qaI (by lia)];simp
theorem sg1:lg (stG st0 fr kp fs) (st0.length+1)=some kp:=by unfold lg;rw[qaI (by lia)];simp
theorem ss2 :(stG st0 fr kp fs).set (st0.length+2) (.o c)=stG st0 fr kp c :=by simp
theorem ss0 :(stG st0 fr kp fs).set st0.length (.l x)=stG st0 x kp fs :=by simp
theorem ss1 :(stG st0 fr kp fs).set (st0.length+1) (.l x)=stG st0 fr x fs :=by simp
theorem lj (h:a env (stG st0 fr kp fs)=some (.h (st0.length+2),stG st0 fr kp fs)) (b:fs.lookup f=some w):ay f a env (stG st0 fr kp fs)=some (w,stG st0 fr kp fs) :=by
 simp only[ay,h,qac,sg2,b,qap]
theorem sN (e:v env (stG st0 fr kp fs)=some (.d x,stG st0 fr kp fs)) (g:o env (stG st0 fr kp fs)=some (.h (st0.length+2),stG st0 fr kp fs)) (hz:fs.length<1000) (b:(fs.lookup f).isSome=true):lx f o v env (stG st0 fr kp fs)=some (.nx env (stG st0 fr kp (oH f (.d x) fs))) :=by
 simp only[lx,e,g,qac,sg2,hz,b,and_self,if_true,ss2]
end
section
variable {n L:Nat}{a b e c:List D}{p f:Int}
theorem CY:oH ("goal") (.d (.lst c)) (fsO n a b p L)=fsO n a c p L :=rfl
theorem AT:oH ("lines") (.d (.lst e)) (fsO n a b p L)=fsO n e b p L :=rfl
theorem CZ:oH ("part") (.d (.int f)) (fsO n a b p L)=fsO n a b f L :=rfl
theorem um:(fsO n a b p L).lookup ("lines" : Str)=some (.d (.lst a)):=rfl
theorem Cd:(fsO n a b p L).lookup ("goal" : Str)=some (.d (.lst b)):=rfl
theorem Ce:(fsO n a b p L).lookup ("part" : Str)=some (.d (.int p)):=rfl
end
def stO (st0:Sto) (P:Pb) (S:Tb):Sto:=stG st0 (mpI P.n (nI S.free)) (mpI P.m (nI S.kept)) (fsO P.n (aW P.m P.n S.T) (mpI (P.n+1) S.G) S.p st0.length)
theorem Bu (h:vwA (stO st0 P S) ws=some ws'):vwA (stO st0 P S) (.h (st0.length+2)::ws)=some (.d (obD P S)::ws') :=by
 have e:vwW (stO st0 P S) (.h (st0.length+2))=some (.d (obD P S)):=by
  unfold vwW stO;dsimp only;rw[sg2];dsimp only
  have:vwF (stG st0 (mpI P.n (nI S.free)) (mpI P.m (nI S.kept)) (fsO P.n (aW P.m P.n S.T) (mpI (P.n+1) S.G) S.p st0.length)) (fsO P.n (aW P.m P.n S.T) (mpI (P.n+1) S.G) S.p st0.length)=some [.int (P.n),.lst (aW P.m P.n S.T),.lst (mpI (P.n+1) S.G),.int S.p,.lst (mpI P.n (nI S.free)),.lst (mpI P.m (nI S.kept))]:=by
   simp only[fsO,vwF,qap,qac];rw[sg0,sg1];rfl
  rw[this];rfl
 simp only[vwA,e,h,qac,qap]
theorem yI {F:Nat->Nat->Int}:((qak m).map λi=>D.lst (mpI (n+1) (F i))).set r (.lst (mpI (n+1) g))=aW m n λi=>if i=r then g else F i :=by
 apply qa6;intro i;by_cases hi:i<m
 ·rw[om hi]
  by_cases e:i=r
  ·subst e
   rw[qbz (by rw[qah,qaq];exact hi)];unfold lnD;dsimp only;rw[iFP U]
  ·rw[qbK (qbp e),qay,qaS hi]
   unfold lnD;dsimp only;rw[iFN e];rfl
 ·rw[qav (by rw[qcj,qah,qaq];lia),qav (by rw[b9];lia)]
theorem BX (h:Okt P S) (w:r<P.m) (K:e<P.n):dS [.h (st0.length+2),.d (.int (r)),.d (.int (e))] (stO st0 P S)=some (.d .non,stO st0 P (piv S r e)) :=by
 have hm:=h.m64;have hn:=h.n64;have L:=h.good.pos
 -- turning,part
 generalize u:S.T=T at *;have fin:∀ (env:Ev) (s:Sto),jf [some _,some _,some _,none,none,none,none] _=some (.nx env s)->s.take (stO st0 P S).length=s->dS [.h (st0.length+2),.d (.int (r)),.d (.int (e))] _=some (.d .non,s):=λenv s h1 h2=>by
  show (jf [some _,some _,some _,none,none,none,none] _).bind _=_;rw[h1];show some (W.d .non,s.take (stO st0 P S).length)=_;rw[h2]
 have q:∀ (a b c d g i:Option W) (s:Sto),iV 0 [some _,a,b,c,d,g,i] s=some (.h (st0.length+2),s):=λ_ _ _ _ _ _ _=>rfl;have V:aB (.nm 3) (iOp dIx (ay ("lines") (iV 0)) (iV 1)) [some (.h (st0.length+2)),some (.d (.int (r))),some (.d (.int (e))),none,none,none,none] (stO st0 P S)=some (.nx [some (.h (st0.length+2)),some (.d (.int (r))),some (.d (.int (e))),some (.d (.lst (mpI (P.n+1) (T r)))),none,none,none] (stO st0 P S)):=by
  refine ao (ac (lj (q _ _ _ _ _ _ _) um) U ?_);rw[u];exact ui _ w
 have sT:∀ i c,i<P.m->c<=P.n->Sm (T i c):=λi c hi m=>by rw[<-u];exact h.sT i c hi m
 have E:iLc 1 [3,2,4] (aA (ay ("lines" : Str) (iV 0))) (.nm 0) aJ dm [some (.h (st0.length+2)),some (.d (.int (r:Int))),some (.d (.int (e:Int))),some (.d (.lst (mpI (P.n+1) (T r)))),some (.d (.int S.p)),none,none] (stO st0 P S)=some ((qak P.m).map λi=>D.lst (mpI (P.n+1) λc=>if c=e then - T i e else (T r e*T i c - T i e*T r c) / S.p),stO st0 P S):=by
  refine aH (aT (lj (f:=("lines" : Str)) (a:=iV 0) (st0:=st0) (fr:=mpI P.n (nI S.free)) (kp:=mpI P.m (nI S.kept)) (fs:=fsO P.n (aW P.m P.n S.T) (mpI (P.n+1) S.G) S.p st0.length) (q (some (.d (.int (r:Int)))) (some (.d (.int (e:Int)))) (some (.d (.lst (mpI (P.n+1) (T r))))) (some (.d (.int S.p))) none none _) um)) (by rw[b9];lia) ?_
  show lcI (.nm 0) aJ dm [none,some (.d (.lst (mpI (P.n+1) (T r)))),some (.d (.int (e:Int))),some (.d (.int S.p))] (aW P.m P.n S.T) (stO st0 P S)=_;rw[show aW P.m P.n S.T=(qak P.m).map (lnD P.n T) by rw[u];rfl];refine gx (g:=lnD P.n T) _ λi hi=>?_;exact ai (ws:=[.d (lnD P.n T i),.d (.lst (mpI (P.n+1) (T r))),.d (.int (e:Int)),.d (.int S.p)]) U (uP (f:=T i) (g:=T r) (by lia) L h.sp (λc m=>sT i c (qaD.mp hi) m) (λc m=>sT r c w m) (by lia))
 have X:i3 5 1 2 3 4 (iLc 1 [3,2,4] (aA (ay ("lines" : Str) (iV 0))) (.nm 0) aJ dm) [some (.h (st0.length+2)),some (.d (.int (r:Int))),some (.d (.int (e:Int))),some (.d (.lst (mpI (P.n+1) (T r)))),some (.d (.int S.p)),none,none] (stO st0 P S)=some (.nx [some (.h (st0.length+2)),some (.d (.int (r:Int))),some (.d (.int (e:Int))),some (.d (.lst (mpI (P.n+1) (T r)))),some (.d (.int S.p)),some (.d (.lst (aW P.m P.n (piv S r e).T))),none] (stO st0 P S)):=by
  simp only[i3,E,qac,qb1,qbG];rw[qah,qaq,eF w,av,eF (by lia:e<P.n+1),qac,qac,iFP ⟨by lia,by show 5<7;decide,ux _ _⟩,f7,yI];show some (Fl.nx [_,_,_,_,_,some (W.d (.lst (aW P.m P.n _))),none] _)=_
  have:(λi=>if i=r then (λj=>if j=e then S.p else T r j) else λc=>if c=e then - T i e else (T r e*T i c - T i e*T r c) / S.p)=(piv S r e).T:=by
   funext i c
   show _=if i=r then (if c=e then S.p else S.T r c) else _;rw[u];by_cases hi:i=r
   ·rw[iFP hi,iFP hi]
   ·rw[iFN hi,iFN hi]
  rw[this]
 have Y:=by
  have e0:=by
   funext c
   show _=if c=e then - S.G e else (S.T r e*S.G c - S.G e*S.T r c) / S.p;rw[u]
  have O:=uP (st:=stO st0 P S) (f:=S.G) (g:=T r) (n:=P.n) (e:=e) (by lia) L h.sp (λc m=>h.sG c m) (λc m=>sT r c w m) (by lia);rw[e0]at O
  have:=sN (f:=("goal" : Str)) (o:=iV 0) (v:=az j7 (aa (ay ("goal" : Str) (iV 0)) (aa (iV 3) (aa (iV 2) (aa (iV 4) ae))))) (st0:=st0) (fr:=mpI P.n (nI S.free)) (kp:=mpI P.m (nI S.kept)) (fs:=fsO P.n (aW P.m P.n S.T) (mpI (P.n+1) S.G) S.p st0.length) (ai (ab (lj (f:=("goal" : Str)) (a:=iV 0) (st0:=st0) (fr:=mpI P.n (nI S.free)) (kp:=mpI P.m (nI S.kept)) (fs:=fsO P.n (aW P.m P.n S.T) (mpI (P.n+1) S.G) S.p st0.length) (q (some (.d (.int (r:Int)))) (some (.d (.int (e:Int)))) (some (.d (.lst (mpI (P.n+1) (T r))))) (some (.d (.int S.p))) (some (.d (.lst (aW P.m P.n (piv S r e).T)))) none _) Cd) (ab U (ab U (ab U U)))) O) (q _ _ _ _ _ _ _) (by show 6<1000;decide) U
  rw[CY]at this;exact this
 have s7:=by
  have:=sN (f:=("lines" : Str)) (o:=iV 0) (v:=iV 5) (x:=.lst (aW P.m P.n (piv S r e).T)) (env:=[some (.h (st0.length+2)),some (.d (.int (r:Int))),some (.d (.int (e:Int))),some (.d (.lst (mpI (P.n+1) (T r)))),some (.d (.int S.p)),some (.d (.lst (aW P.m P.n (piv S r e).T))),none]) (st0:=st0) (fr:=mpI P.n (nI S.free)) (kp:=mpI P.m (nI S.kept)) (fs:=fsO P.n (aW P.m P.n S.T) (mpI (P.n+1) (piv S r e).G) S.p st0.length) U U (by show 6<1000;decide) U
  rw[AT]at this;exact this
 have Q:lx ("part" : Str) (iV 0) (iOp dIx (iV 3) (iV 2)) [some (.h (st0.length+2)),some (.d (.int (r:Int))),some (.d (.int (e:Int))),some (.d (.lst (mpI (P.n+1) (T r)))),some (.d (.int S.p)),some (.d (.lst (aW P.m P.n (piv S r e).T))),none] (stG st0 (mpI P.n (nI S.free)) (mpI P.m (nI S.kept)) (fsO P.n (aW P.m P.n (piv S r e).T) (mpI (P.n+1) (piv S r e).G) S.p st0.length))=some (.nx [some (.h (st0.length+2)),some (.d (.int (r:Int))),some (.d (.int (e:Int))),some (.d (.lst (mpI (P.n+1) (T r)))),some (.d (.int S.p)),some (.d (.lst (aW P.m P.n (piv S r e).T))),none] (stG st0 (mpI P.n (nI S.free)) (mpI P.m (nI S.kept)) (fsO P.n (aW P.m P.n (piv S r e).T) (mpI (P.n+1) (piv S r e).G) (piv S r e).p st0.length))):=by
  have R:(piv S r e).p=T r e:=by show S.T r e=_;rw[u]
  have:=sN (f:=("part" : Str)) (o:=iV 0) (v:=iOp dIx (iV 3) (iV 2)) (x:=.int (T r e)) (env:=[some (.h (st0.length+2)),some (.d (.int (r:Int))),some (.d (.int (e:Int))),some (.d (.lst (mpI (P.n+1) (T r)))),some (.d (.int S.p)),some (.d (.lst (aW P.m P.n (piv S r e).T))),none]) (st0:=st0) (fr:=mpI P.n (nI S.free)) (kp:=mpI P.m (nI S.kept)) (fs:=fsO P.n (aW P.m P.n (piv S r e).T) (mpI (P.n+1) (piv S r e).G) S.p st0.length) (ac U U (dO _ (by lia))) U (by show 6<1000;decide) U
  rw[CZ]at this;rw[R];exact this
 generalize t:fsO P.n (aW P.m P.n (piv S r e).T) (mpI (P.n+1) (piv S r e).G) (piv S r e).p st0.length=FS at Q;generalize hLN:W.d (.lst (aW P.m P.n (piv S r e).T))=LN at *;generalize hTR:W.d (.lst (mpI (P.n+1) (T r)))=TR at *;have y:∀ {fr kp:List D}{k:Nat}{d:D},fr[k]?=some d->dIx (stG st0 fr kp FS) (.h st0.length) (.d (.int (k:Int)))=some d:=λ{fr kp k d} B=>by
  show (lg (stG st0 fr kp FS) st0.length).bind (λds=>atI ds (k:Int))=_;rw[sg0,qac,di B]
 have z:∀ {fr kp:List D}{k:Nat}{d:D},kp[k]?=some d->dIx (stG st0 fr kp FS) (.h (st0.length+1)) (.d (.int (k:Int)))=some d:=λ{fr kp k d} B=>by
  show (lg (stG st0 fr kp FS) (st0.length+1)).bind (λds=>atI ds (k:Int))=_;rw[sg1,qac,di B]
 have N:FS.lookup ("free" : Str)=some (.h st0.length):=by rw[<-t];rfl
 have M:FS.lookup ("kept" : Str)=some (.h (st0.length+1)):=by rw[<-t];rfl
 have F:bq (ay ("free" : Str) (iV 0)) (iV 2) (iOp dIx (ay ("kept" : Str) (iV 0)) (iV 1)) [some (.h (st0.length+2)),some (.d (.int (r:Int))),some (.d (.int (e:Int))),some TR,some (.d (.int S.p)),some LN,some (.d (.int (nI S.free e)))] (stG st0 (mpI P.n (nI S.free)) (mpI P.m (nI S.kept)) FS)=some (.nx [some (.h (st0.length+2)),some (.d (.int (r:Int))),some (.d (.int (e:Int))),some TR,some (.d (.int S.p)),some LN,some (.d (.int (nI S.free e)))] (stG st0 (mpI P.n (nI (piv S r e).free)) (mpI P.m (nI S.kept)) FS)):=by
  have J:iOp dIx (ay ("kept" : Str) (iV 0)) (iV 1) [some (.h (st0.length+2)),some (.d (.int (r:Int))),some (.d (.int (e:Int))),some TR,some (.d (.int S.p)),some LN,some (.d (.int (nI S.free e)))] (stG st0 (mpI P.n (nI S.free)) (mpI P.m (nI S.kept)) FS)=some (.d (.int (nI S.kept r)),stG st0 (mpI P.n (nI S.free)) (mpI P.m (nI S.kept)) FS):=ac (lj (q _ _ _ _ _ _ _) M) U (z (aU w))
  have H:=lj (f:=("free" : Str)) (a:=iV 0) (st0:=st0) (fr:=mpI P.n (nI S.free)) (kp:=mpI P.m (nI S.kept)) (fs:=FS) (q (some (.d (.int (r:Int)))) (some (.d (.int (e:Int)))) (some TR) (some (.d (.int S.p))) (some LN) (some (.d (.int (nI S.free e)))) _) N
  have A:iV 2 [some (.h (st0.length+2)),some (.d (.int (r:Int))),some (.d (.int (e:Int))),some TR,some (.d (.int S.p)),some LN,some (.d (.int (nI S.free e)))] (stG st0 (mpI P.n (nI S.free)) (mpI P.m (nI S.kept)) FS)=some (.d (.int (e:Int)),stG st0 (mpI P.n (nI S.free)) (mpI P.m (nI S.kept)) FS):=rfl;have C:gz (stG st0 (mpI P.n (nI S.free)) (mpI P.m (nI S.kept)) FS) (.h st0.length) (.d (.int (e:Int))) (.d (.int (nI S.kept r)))=some (stG st0 (mpI P.n (nI (piv S r e).free)) (mpI P.m (nI S.kept)) FS):=by
   simp only[gz,sg0,qac,av,eF K,qap,ss0,f7]
   congr 3
   funext j
   show _=(((if j=e then S.kept r else S.free j:Nat)):Int);by_cases l:j=e
   ·rw[iFP l,iFP l];rfl
   ·rw[iFN l,iFN l];rfl
  simp only[bq,J,H,A,qac,C,qap]
 have I:bq (ay ("kept" : Str) (iV 0)) (iV 1) (iV 6) [some (.h (st0.length+2)),some (.d (.int (r:Int))),some (.d (.int (e:Int))),some TR,some (.d (.int S.p)),some LN,some (.d (.int (nI S.free e)))] (stG st0 (mpI P.n (nI (piv S r e).free)) (mpI P.m (nI S.kept)) FS)=some (.nx [some (.h (st0.length+2)),some (.d (.int (r:Int))),some (.d (.int (e:Int))),some TR,some (.d (.int S.p)),some LN,some (.d (.int (nI S.free e)))] (stG st0 (mpI P.n (nI (piv S r e).free)) (mpI P.m (nI (piv S r e).kept)) FS)):=by
  have J:iV 6 [some (.h (st0.length+2)),some (.d (.int (r:Int))),some (.d (.int (e:Int))),some TR,some (.d (.int S.p)),some LN,some (.d (.int (nI S.free e)))] (stG st0 (mpI P.n (nI (piv S r e).free)) (mpI P.m (nI S.kept)) FS)=some (.d (.int (nI S.free e)),stG st0 (mpI P.n (nI (piv S r e).free)) (mpI P.m (nI S.kept)) FS):=rfl;have H:=lj (f:=("kept" : Str)) (a:=iV 0) (st0:=st0) (fr:=mpI P.n (nI (piv S r e).free)) (kp:=mpI P.m (nI S.kept)) (fs:=FS) (q (some (.d (.int (r:Int)))) (some (.d (.int (e:Int)))) (some TR) (some (.d (.int S.p))) (some LN) (some (.d (.int (nI S.free e)))) _) M
  have A:iV 1 [some (.h (st0.length+2)),some (.d (.int (r:Int))),some (.d (.int (e:Int))),some TR,some (.d (.int S.p)),some LN,some (.d (.int (nI S.free e)))] (stG st0 (mpI P.n (nI (piv S r e).free)) (mpI P.m (nI S.kept)) FS)=some (.d (.int (r:Int)),stG st0 (mpI P.n (nI (piv S r e).free)) (mpI P.m (nI S.kept)) FS):=rfl;have C:gz (stG st0 (mpI P.n (nI (piv S r e).free)) (mpI P.m (nI S.kept)) FS) (.h (st0.length+1)) (.d (.int (r:Int))) (.d (.int (nI S.free e)))=some (stG st0 (mpI P.n (nI (piv S r e).free)) (mpI P.m (nI (piv S r e).kept)) FS):=by
   simp only[gz,sg1,qac,av,eF w,qap,ss1,f7]
   congr 3
   congr 1
   funext j
   show _=(((if j=r then S.free e else S.kept j:Nat)):Int);by_cases l:j=r
   ·rw[iFP l,iFP l];rfl
   ·rw[iFN l,iFN l];rfl
  simp only[bq,J,H,A,qac,C,qap]
 have:=fin _ _ (ah V (ah (ao (lj (q _ _ _ _ _ _ _) Ce)) (ah X (ah Y (ah s7 (ah Q (ah (ao (ac (lj (q _ _ _ _ _ _ _) N) U (y (aU K)))) (ah F I)))))))) ?_
 ·rw[this,<-t];rfl
 ·refine qdI ?_
  unfold stO stG;rw[qaA,qaA];exact qao _
end Own
namespace Sx
theorem sumN_abs (h:∀ k,k<n->(f k).natAbs<=B):(sumN n f).natAbs<=n*B :=by
 induction n with
 |zero=>rw[sumN];omega
 |succ n x=>
  rw[sumN,qkn];have o:=x λk e=>h k (by omega);have w:=h n (by omega);omega
theorem sg_abs (k):(sg k).natAbs=1 :=by unfold sg;split<;>rfl
theorem det_le :∀ (m) {C},m*B<=X->(∀ k t,k<m->t<m->(C k t).natAbs<=B)->(det m C).natAbs<=X^m
 |0,C,_,_=>by exact qao _
 |m+1,C,p,h=>by
  have:=sumN_abs (f:=λk=>sg k*C k 0*det m _) λk e=>by
   rw[qdr,qdr,sg_abs,qkm];exact qdn (h k 0 e (by omega)) (det_le m (C:=λj t=>C (skip k j) (t+1)) (qaN (qcM B (by omega)) p) λj t z d=>h _ _ (by unfold skip;split<;>omega) (by omega))
  refine qaN this ?_;rw[<-Nat.mul_assoc,qj4,qhp (X^m)];exact qcM _ p
structure Bd (P:Pb):Prop where
 m64:P.m<=32
 n64:P.n<=100
 A:∀ k,k<P.n+P.m->∀ t,t<P.m->(P.A k t).natAbs<=2^50
 b:∀ t,t<P.m->(P.b t).natAbs<=2^50
 g:∀ k,k<P.n+P.m->(P.g k).natAbs<=2^50
variable {P:Pb}
theorem Bd.det (h:Bd P) (u:∀ k t,k<P.m->t<P.m->(C k t).natAbs<=2^50):(det P.m C).natAbs<=2^1760 :=by
 have hm:=h.m64
 have o:=det_le (B:=2 ^ 50) (X:=2 ^ 55) P.m (C:=C) (by
  have:P.m*2^50<=32*2^50:=qcM _ hm
  exact qaN this (by decide)) u
 refine qaN o ?_;rw[<-qkl];exact qbq (by decide) (by omega)
theorem unit_le (r t):(unit r t).natAbs<=2^50 :=by unfold unit;split<;>decide
theorem Bd.basis (h:Bd P) (hn:Named P S) (q:∀ t,t<P.m->(v t).natAbs<=2^50) (i k t) (e:k<P.m) (d:t<P.m):(upd (basis P S) i v k t).natAbs<=2^50 :=by
 unfold upd;split
 ·exact q t d
 ·exact h.A _ (hn.bound.2 k e) t d
theorem Bd.T (h:Bd P) (hg:Good P S) (hn:Named P S) (hi:i<P.m) (l:c<=P.n):(S.T i c).natAbs<=2^1760 :=by
 rw[hg.entry l hi];refine h.det λk t e d=>h.basis hn (λt d=>?_) i k t e d;unfold colV;by_cases a:c<P.n
 ·rw[iFP a];exact h.A _ (hn.bound.1 c a) t d
 ·rw[iFN a];exact h.b t d
theorem Bd.L (h:Bd P) (hn:Named P S) (i s):(LV P S i s).natAbs<=2^1760 :=by
 refine h.det λk t e d=>h.basis hn (λt d=>?_) i k t e d;unfold XV;split
 ·exact h.b t d
 ·exact unit_le _ _
theorem Bd.p (h:Bd P) (hg:Good P S) (hn:Named P S):S.p.natAbs<=2^1760 :=by
 rw[hg.dt];exact h.det λk t e d=>h.A _ (hn.bound.2 k e) t d
theorem Bd.G (h:Bd P) (hg:Good P S) (hn:Named P S) (l:c<=P.n):(S.G c).natAbs<=65*(2^50*2^1760) :=by
 rw[hg.goal c l];have o:=sumN_abs (n:=P.m) (f:=λi=>P.g (S.kept i)*S.T i c) (B:=2^50*2^1760) λi hi=>by
  rw[qdr];exact qdn (h.g _ (hn.bound.2 i hi)) (h.T hg hn hi l)
 have w:(S.p*gainC P S c).natAbs<=2^50*2^1760:=by
  rw[qdr,qhp];refine qdn ?_ (h.p hg hn);unfold gainC;by_cases a:c<P.n
  ·rw[iFP a];exact h.g _ (hn.bound.1 c a)
  ·rw[iFN a];decide
 have y:=Int.natAbs_sub_le (sumN P.m λi=>P.g (S.kept i)*S.T i c) (S.p*gainC P S c);have D:P.m*(2^50*2^1760)<=32*(2^50*2^1760):=qcM _ h.m64;generalize 2^50*2^1760=Zq at *;omega
end Sx
set_option maxHeartbeats 1000000
namespace Own
open PySem L2
open Sx (Pb Tb Good Named Fe LV ZV piv lexP leastR leaveL sumN unit colV basis)
theorem xF (h:a<b):2^a<2^b :=Nat.pow_lt_pow_right (by decide) h
theorem Bh (h:z.natAbs<=2^1760):Sm z :=qbN h (xF (by decide))
theorem Ft (h:z.natAbs<=65*(2^50*2^1760)):Sm z :=by
 refine qbN h ?_;refine qbN (qcM (2^50*2^1760) (by decide:65<=2^7)) ?_;rw[<-qhR,<-qhR];exact xF (by decide)
theorem EL (b:Sx.Bd P) (g:Good P S) (n:Named P S):Okt P S :=by
 have d:=b.m64;exact⟨g,n,by lia,b.n64,λi c hi a=>Bh (b.T g n hi a),λi s _ _=>Bh (b.L n i s),λc a=>Ft (b.G g n a),Bh (b.p g n)⟩
theorem DL (h:c env st=some (false,s)):bB c b (m+1) env st=some (.nx env s) :=by
 rw[bB,h];rfl
theorem AV (h:c env st=some (true,s)) (hb:b env s=some (.nx e a)) (d:bB c b m e a=r):bB c b (m+1) env st=r :=by
 rw[bB,h];show ((b env s).bind _)=_;rw[hb];exact d
theorem GU (h:c env st=some (true,s)) (hb:b env s=some (.rt w a)):bB c b (m+1) env st=some (.rt w a) :=by
 rw[bB,h];show ((b env s).bind _)=_;rw[hb];rfl
theorem lw :∀ (n a b:Nat) (o),b<n->∃ c,bB d5 eQ n [a0,Z (.int (a)),a2,Z (.int (b)),o] st=some (.nx [a0,Z (.int ((qgv a b))),a2,Z (.int 0),c] st)
 |0,a,b,o,h=>by lia
 |n+1,a,b,o,h=>by
  by_cases hb:b=0
  ·subst hb
   refine⟨o,?_⟩;rw[Nat.gcd_zero_right];exact DL U
  ·have f:(!((b)==(0:Int)))=true:=by lia
   obtain⟨c,i⟩:=lw n b (a%b) _ (by have:=Nat.mod_lt a (Nat.pos_of_ne_zero hb);lia);refine⟨c,?_⟩;have g:qgv a b=qgv b (a%b):=by rw[qj5 a b,Nat.gcd_rec b a,qj5]
   have e:(0)<(b:Int):=by lia
   have em:fk st (.d (.int (a))) (.d (.int (b)))=some (.int ((a%b:Nat))):=by
    simp only[fk,e,if_true];rfl
   rw[g,<-i];exact AV (aj U U ((DB st _).trans (by rw[f]))) (ah (ao (ac U U em)) U) U
theorem wD (f:∀ (l:Ev) (s),aA (iV 0) (Z d0::l) s=some (ns.map D.int,s)) (hn:∀ n∈ns,Sm n):bi [.d d0] st=some (.d (.int ((cR 0 ns))),st) :=by
 obtain⟨m,t,k,⟨c,b,a,rfl⟩,rfl⟩:=bI (g:=.nm 2) (body:=eJ) (λi env s=>(∃ c b a,env=[Z d0,Z (.int ((cR 0 (ns.take i)))),c,b,a])/\s=st)
  ⟨⟨_,_,_,U⟩,U⟩ (λi d env s hd ⟨⟨c,b,a,e⟩,es⟩=>by
   subst e es;rw[qay,qad]at hd;obtain⟨n,j,rfl⟩:=hd;obtain⟨hi,h⟩:=qas.mp j;have r:vd s [.d (.int n)]=some (.int ((n.natAbs))):=by
    show some _=_;rw[show (if n<0 then -n else n)=((n.natAbs)) by split<;>lia]
   have o:cR 0 (ns.take (i+1))=qgv (cR 0 (ns.take i)) n.natAbs:=by
    rw[List.take_succ_eq_append_getElem hi,h,t9]
   obtain⟨q,p⟩:=lw (st:=s) (a0:=some (.d d0)) (a2:=some (.d (.int n))) (2^8000) (cR 0 (ns.take i)) n.natAbs a (qel (hn n (qbS j)) (xF (by decide)));refine⟨_,[some _,some _,Z (.int n),Z (.int 0),q],s,U,.inl ?_,⟨_,_,_,U⟩,U⟩;rw[o]
   exact ah (ao (ar (ab U U) r)) p)
 rw[qah,qdT]at k;exact ax U (ah U (ah (bg (f _ _) k) U))
theorem nE (hn:∀ n∈ns,Sm n):bi [.d (.lst (ns.map D.int))] st=some (.d (.int ((cR 0 ns))),st) :=wD (λ_ _=>aT U) hn
theorem qO {ns:List Int}(b:0<g) (hg:Sm g) (a:te=iOp qK (iV 0) (iV 1)):lcI (.nm 0) aJ te [none,Z (.int g)] (ns.map D.int) st=some ((ns.map λx=>x / g).map D.int,st) :=by
 subst a
 rw [(rX (λd=>match d with | .int x=>.int (x / g) | d=>d) λd hd=>by
  obtain⟨y,c,rfl⟩:=qaJ.mp hd
  exact⟨_,U,ac U U (qN st b hg)⟩),qaM,qaM];rfl
theorem kJ (hx:x∈ns) (x0:x≠0) (a:Sm x):0<((cR 0 ns):Int)/\Sm ((cR 0 ns)) :=by
 obtain⟨c,b⟩:=zL hx x0;refine⟨by lia,?_⟩;exact qbN b a
theorem vJ {ns:List Int} (hb:∀ x∈ns,Sm x) (a:∃ x∈ns,x≠0) (h:ns.length<=1000):cG [.d (.lst (ns.map D.int))] st=some (.d (.tup ((ns.map λx=>x / ((cR 0 ns):Int)).map D.int)),st) :=by
 obtain⟨x,hx,x0⟩:=a;have b:=nE (st:=st) hb;obtain⟨e,c⟩:=kJ hx x0 (hb x hx);generalize ((cR 0 ns):Int)=g at *;have f:(g==(0))=false:=by lia
 have hz:(ns.map D.int).length<=1000000:=by rw[qah];lia
 exact ax U (ah (ao (ai U b)) (ah (bn (aj U U (by rw[cy,f])) U) (aC (ar (ab (aq (aH (aT U) hz (qO e c U))) U) U))))
def acc (e:Nat->Nat) (y:Nat->Int) (i k:Nat):Int:=sumN i λj=>if e j=k then y j else 0
theorem tB (e) (y) (i k):acc e y (i+1) k=acc e y i k+if e i=k then y i else 0 :=rfl
theorem mZ (h:∀ j,j<i->e j≠k):acc e y i k=0 :=by
 unfold acc;rw[Sx.sumN_congr λj a=>iFN (h j a),Sx.sumN_zero]
theorem qp (hd:d<=e i) (b:∀ j,j<i->e j≠e i):(mpI N λr=>acc e y i (d+r)).set (e i - d) (.int (y i))=mpI N λr=>acc e y (i+1) (d+r) :=by
 rw[f7];refine bu λr _=>?_;rw[tB];by_cases c:r=e i - d
 ·rw[mZ λj a=>by have:=b j a;lia];lia
 ·lia
theorem tw (h:∀ r,r<N->e i≠d+r):(mpI N λr=>acc e y i (d+r))=mpI N λr=>acc e y (i+1) (d+r) :=by
 refine bu λr a=>?_;rw[tB,iFN (h r a)];lia
theorem By (n) (e) (y) (d):(qaG n [D.int 0]).flatten=mpI n λr=>acc e y 0 (d+r) :=by
 show _=(qak n).map λ_=>D.int 0
 induction n with
 |zero=>rfl
 |succ n a=>rw[qhq,qhB,a,qeX,qci];rfl
theorem iL {n:Nat} (b:f env st=some (.d (.int (n)),st)) (hn:n<=900) (e) (y) (d):bR (ue n8 (ap (bm (aa (iC (.int 0)) ae))) f) env st=some (.h st.length,st++[.l (mpI n λr=>acc e y 0 (d+r))]) :=by
 have a:ue n8 (ap (bm (aa (iC (.int 0)) ae))) f env st=some (mpI n λr=>acc e y 0 (d+r),st):=by
  show ((f env st).bind λq=>(n8 q.2 (.d (.lst [.int 0])) q.1).map λl=>(l,q.2))=_;rw[b];show (n8 st _ _).map _=_;unfold n8;dsimp only;rw[iFP ⟨by decide,by lia,by lia⟩,qbc,By n e y d];rfl
 simp only[bR,a,qap]
end Own
set_option maxHeartbeats 1000000
namespace Own
open PySem L2
open Sx (Pb Tb Good Named Fe LV ZV piv lexP leastR leaveL sumN unit colV basis)
theorem sIx {st:Sto}{k:Nat}(a:v env (st++[.l xs])=some (.d d,st++[.l xs])) (c:o env (st++[.l xs])=some (.h st.length,st++[.l xs])) (hi:i env (st++[.l xs])=some (.d (.int (k)),st++[.l xs])) (b:k<xs.length):bq o i v env (st++[.l xs])=some (.nx env (st++[.l (xs.set k d)])) :=by
 have e:gz (st++[.l xs]) (.h st.length) (.d (.int (k))) (.d d)=some (st++[.l (xs.set k d)]):=by
  simp only[gz,dQ,qac,eF b,qap,kl]
 simp only[bq,a,c,hi,qac,e,qap]
theorem qR (h:a env st=some (.d (.lst (mpI m (nI f))),st)):bN (aa a ae) env st=some ((qak m).map λi=>D.tup [.int ((i:Nat)),.int (nI f i)],st) :=by
 have:=ab (b:=ae) h U
 rw[<-wu];simp only[bN,this,qac]
theorem ow {d:D} (h:((qak m).map g)[i]?=some d):i<m/\d=g i :=by
 rw[qay,qad]at h;obtain⟨k,b,rfl⟩:=h;obtain⟨hi,a⟩:=qas.mp b;rw[qfC]at a;rw[qaq]at hi;exact⟨hi,by rw[a]⟩
theorem iM:∀ ns:List Int,vS (ns.map D.int)=true
 |[]=>rfl
 |n::ns=>iM ns
theorem Am (n) (f):okT (.tup (mpI n f))=true :=by
 rw[bC];exact iM _
section
variable {P:Pb}{S:Tb}{st:Sto}
theorem FW (h:Okt P S):fX [.d (obD P S)] st=some (.d (.lst (mpI P.n λk=>acc S.kept (λi=>S.T i P.n) P.m k)),st):=by
 have hn:=h.n64;generalize L:(λi=>S.T i P.n)=y;have q:∀ (a b c:Option W) (s:Sto),iV 0 [some _,a,b,c] s=some (.d (obD P S),s):=λ_ _ _ _=>rfl;obtain⟨w,s2,A,⟨m,p,rfl⟩,rfl⟩:=bI (g:=.tp [2,3]) (body:=gY) (ds:=(qak P.m).map λi=>D.tup [.int _,.int (nI S.kept i)])
  (λi env s=>(∃ m p,env=[Z (obD P S),some (.h st.length),m,p])/\s=st++[.l (mpI P.n λr=>acc S.kept y i (0+r))])
  ⟨⟨_,_,U⟩,U⟩ (λi d env s hd ⟨⟨m,p,e⟩,es⟩=>by
   subst e es;obtain⟨hi,rfl⟩:=ow hd;refine⟨_,_,_,U,.inl ?_,⟨some (.d (.int ((i:Nat):Int))),Z (.int (nI S.kept i)),U⟩,U⟩;generalize u:(mpI P.n λr=>acc S.kept y i (0+r))=xs;have tl:aE dLt (iV 3) _ [Z (obD P S),some (.h st.length),Z (.int ((i:Nat):Int)),Z (.int (nI S.kept i))] (st++[.l xs])=some (decide _,st++[.l xs]):=aj U (bM (q _ _ _ _)) (Ad _ _ _);by_cases t:S.kept i<P.n
   ·rw[decide_eq_true (by show ((S.kept i:Nat):Int)<_;lia)]at tl
    have M:iOp dIx (iOp dIx (ay ("lines" : Str) (iV 0)) (iV 2)) (iUn gA (iC (.int 1))) [Z (obD P S),some (.h st.length),Z (.int ((i:Nat):Int)),Z (.int (nI S.kept i))] (st++[.l xs])=some (.d (.int (y i)),st++[.l xs]):=by
     rw[<-L];exact ac (ac (cj (q _ _ _ _)) U (ui _ hi)) U (wR _)
    have:=sIx (k:=S.kept i) M (o:=iV 1) (i:=iV 3) U U (by rw[<-u,av];exact t)
    rw[<-u]at this ⊢ tl;rw[<-qp (d:=0) (N:=P.n) (e:=S.kept) (y:=y) (i:=i) (by lia) λj B e=>by have:=gX h.good (by lia) hi e;lia];exact cw tl this
   ·rw[decide_eq_false (by show ¬ ((S.kept i:Nat):Int)<_;lia)]at tl
    rw[<-tw (d:=0) (N:=P.n) (e:=S.kept) (y:=y) (i:=i) λr G=>by lia,u]
    exact bn tl U)
 rw[qah,qaq]at A
 have:=mR (n:=4) (k:=1) (b:=jA) (ws:=[.d (obD P S)]) (st:=st) (h:=st.length) U (ah (ao (iL (st:=st) (bM (q none none none st)) (by lia) S.kept y 0)) (ah (bg (qR (qr (q _ _ _ _))) A) U)) (qao _) (dQ _ _)
 rw[qdR]at this;simp only[qbg]at this;exact this
def pr (P:Pb) (S:Tb) (i r:Nat):Int:=if ∃ c,c<i/\S.free c=P.n+r then ZV P S (r+1) else 0
theorem GQ (h:Okt P S) (hg:∀ r,r<P.m->P.g (P.n+r)=0):ik [.d (obD P S)] st=some (.d (.lst (mpI P.m λr=>ZV P S (r+1))),st):=by
 have hm:=h.m64;have hn:=h.n64;have q:∀ (a b c:Option W) (s:Sto),iV 0 [Z (obD P S),a,b,c] s=some (.d (obD P S),s):=λ_ _ _ _=>rfl;have hz:(mpI P.m λr=>acc S.free S.G 0 (0+r))=mpI P.m λr=>pr P S 0 r:=bu λr _=>by
  unfold pr;rw[iFN λ⟨c,Q,_⟩=>by lia];rfl
 have H:=by
  have:=ar (g:=aV) (ab (b:=ae) (cj (q none none none st)) U) (jF _ _)
  rw[b9]at this;exact this
 have s1:=iL (st:=st) H (by lia) S.free S.G 0;rw[hz]at s1;obtain⟨w,s2,A,⟨m,p,rfl⟩,rfl⟩:=bI (g:=.tp [2,3]) (body:=ja) (ds:=(qak P.n).map λi=>D.tup [.int ((i:Nat):Int),.int (nI S.free i)])
  (λi env s=>(∃ m p,env=[Z (obD P S),some (.h st.length),m,p])/\s=st++[.l (mpI P.m λr=>pr P S i r)])
  ⟨⟨_,_,U⟩,U⟩ (λi d env s hd ⟨⟨m,p,e⟩,es⟩=>by
   subst e es;obtain⟨hi,rfl⟩:=ow hd;refine⟨_,_,_,U,.inl ?_,⟨some (.d (.int ((i:Nat):Int))),Z (.int (nI S.free i)),U⟩,U⟩;have hb:=h.named.bound.1 i hi;generalize u:(mpI P.m λr=>pr P S i r)=xs;have tl:aE dGe (iV 3) (ay ("amounts" : Str) (iV 0)) [Z (obD P S),some (.h st.length),Z (.int ((i:Nat):Int)),Z (.int (nI S.free i))] (st++[.l xs])=some (decide (nI S.free i>=(P.n:Int)),st++[.l xs]):=aj U (bM (q _ _ _ _)) (Ge _ _ _)
   by_cases t:P.n<=S.free i
   ·rw[decide_eq_true (by show ((S.free i:Nat):Int)>=_;lia)]at tl
    have ho:iOp gB (iV 3) (ay ("amounts" : Str) (iV 0)) [Z (obD P S),some (.h st.length),Z (.int ((i:Nat):Int)),Z (.int (nI S.free i))] (st++[.l xs])=some (.d (.int ((S.free i - P.n:Nat):Int)),st++[.l xs]):=by
     rw[show ((S.free i - P.n:Nat):Int)=nI S.free i - (P.n:Int) by show _=((S.free i:Nat):Int) - _;lia];exact ac U (bM (q _ _ _ _)) U
    have M:iOp dIx (ay ("goal" : Str) (iV 0)) (iV 2) [Z (obD P S),some (.h st.length),Z (.int ((i:Nat):Int)),Z (.int (nI S.free i))] (st++[.l xs])=some (.d (.int (S.G i)),st++[.l xs]):=ac (lY (q _ _ _ _)) U (dO _ (by lia))
    have:=sIx (k:=S.free i - P.n) M (o:=iV 1) U ho (by rw[<-u,av];lia)
    have E:xs.set (S.free i - P.n) (.int (S.G i))=mpI P.m λr=>pr P S (i+1) r:=by
     rw[<-u,f7];refine bu λr G=>?_;by_cases er:r=S.free i - P.n
     ·rw[iFP er]
      unfold pr;rw[iFP ⟨i,by lia,by lia⟩];exact (Sx.price_free h.good h.named hg G hi (by lia)).symm
     ·rw[iFN er]
      unfold pr;by_cases ex:∃ c,c<i/\S.free c=P.n+r
      ·rw[iFP ex];obtain⟨c,K,v⟩:=ex;rw[iFP ⟨c,by lia,v⟩]
      ·rw[iFN ex,iFN λ⟨c,K,v⟩=>ex ⟨c,by
        by_cases z:c=i
        ·subst z;lia
        ·lia,v⟩]
    rw[<-E];exact cw tl this
   ·rw[decide_eq_false (by show ¬ ((S.free i:Nat):Int)>=_;lia)]at tl
    have E:xs=mpI P.m λr=>pr P S (i+1) r:=by
     rw[<-u];refine bu λr G=>?_;unfold pr;by_cases ex:∃ c,c<i/\S.free c=P.n+r
     ·rw[iFP ex];obtain⟨c,K,v⟩:=ex;rw[iFP ⟨c,by lia,v⟩]
     ·rw[iFN ex,iFN λ⟨c,K,v⟩=>ex ⟨c,by
        by_cases z:c=i
        ·subst z;lia
        ·lia,v⟩]
    rw[<-E]
    exact bn tl U)
 rw[qah,qaq]at A
 have:=mR (n:=4) (k:=1) (b:=lp) (ws:=[.d (obD P S)]) (st:=st) (h:=st.length) U (ah (ao s1) (ah (bg (qR (lX (q _ _ _ _))) A) U)) (qao _) (dQ _ _)
 rw[qdR]at this
 rw[bu (f:=λr=>pr P S P.n r) (g:=λr=>ZV P S (r+1)) λr G=>by
  unfold pr;by_cases ex:∃ c,c<P.n/\S.free c=P.n+r
  ·rw[iFP ex]
  ·rw[iFN ex]
   rcases h.named.all (P.n+r) (by lia) with Q|⟨j,B,e⟩
   ·exact absurd Q ex
   ·exact (Sx.price_kept h.good h.named hg G B e).symm]at this
 exact this
theorem Hw (h:Okt P S) (Y:e<P.n) (ht:∀ i,i<P.m->S.T i e<=0) (hp:∃ k,k<P.n/\Sx.wayN P S e k≠0):∃ g,0<g/\(∀ k,k<P.n->g∣Sx.wayN P S e k)/\j8 [.d (obD P S),.d (.int (e))] []=some (.d (.tup (mpI P.n λk=>Sx.wayN P S e k / g)),[]) :=by
 have hm:=h.m64;have hn:=h.n64;have q:∀ (a b c d:Option W) (s:Sto),iV 0 [Z (obD P S),a,b,c,d] s=some (.d (obD P S),s):=λ_ _ _ _ _=>rfl;have R:∀ i,i<P.m->S.kept i≠S.free e:=λi hi e1=>by
  have K:=h.good.entry (c:=e) (by lia) hi;have v:colV P S e=basis P S i:=by unfold colV basis;rw[iFP Y,e1]
  rw[v,Sx.upd_self,<-h.good.dt]at K
  have:=ht i hi
  have:=h.good.pos
  lia
 generalize L:(λi=>- S.T i e)=y;have hw:∀ k,Sx.wayN P S e k=if k=S.free e then S.p else acc S.kept y P.m k:=λk=>by
  show Sx.byName P S (λi=>- S.T i e) k+_=_;rw[L];by_cases t:k=S.free e
  ·rw[iFP t,iFP t.symm,Sx.byName_not λi hi=>by rw[t];exact R i hi];lia
  ·rw[iFN t,iFN (qbp t)]
   show acc S.kept y P.m k+0=_;lia
 obtain⟨w,s2,A,⟨m,p,rfl⟩,rfl⟩:=bI (g:=.tp [3,4]) (body:=oa) (ds:=(qak P.m).map λi=>D.tup [.int ((i:Nat):Int),.int (nI S.kept i)])
  (λi env s=>(∃ m p,env=[Z (obD P S),Z (.int (e:Int)),some (.h 0),m,p])/\s=[]++[.l (mpI P.n λr=>acc S.kept y i (0+r))])
  (env:=[Z (obD P S),Z (.int (e:Int)),some (.h 0),none,none]) (st:=[]++[.l (mpI P.n λr=>acc S.kept y 0 (0+r))]) ⟨⟨_,_,U⟩,U⟩ (λi d env s hd ⟨⟨m,p,e0⟩,es⟩=>by
   subst e0 es;obtain⟨hi,rfl⟩:=ow hd;refine⟨_,_,_,U,.inl ?_,⟨some (.d (.int ((i:Nat):Int))),Z (.int (nI S.kept i)),U⟩,U⟩;generalize u:(mpI P.n λr=>acc S.kept y i (0+r))=xs;have tl:aE dLt (iV 4) (ay ("amounts" : Str) (iV 0)) [Z (obD P S),Z (.int (e:Int)),some (.h 0),Z (.int ((i:Nat):Int)),Z (.int (nI S.kept i))] ([]++[.l xs])=some (decide (nI S.kept i<(P.n:Int)),[]++[.l xs]):=aj U (bM (q _ _ _ _ _)) (Ad _ _ _)
   by_cases t:S.kept i<P.n
   ·rw[decide_eq_true (by show ((S.kept i:Nat):Int)<_;lia)]at tl
    have M:iUn gA (iOp dIx (iOp dIx (ay ("lines" : Str) (iV 0)) (iV 3)) (iV 1)) [Z (obD P S),Z (.int (e:Int)),some (.h 0),Z (.int ((i:Nat):Int)),Z (.int (nI S.kept i))] ([]++[.l xs])=some (.d (.int (y i)),[]++[.l xs]):=by
     rw[<-L]
     have:=ac (g:=dIx) (ac (g:=dIx) (cj (q (Z (.int (e:Int))) (some (.h 0)) (Z (.int ((i:Nat):Int))) (Z (.int (nI S.kept i))) ([]++[C.l xs]))) (b:=iV 3) U (ui _ hi)) (b:=iV 1) U (uh (c:=e) _ (by lia))
     simp only[iUn,this,qac];rfl
    have:=sIx (st:=[]) (k:=S.kept i) M (o:=iV 2) (i:=iV 4) U U (by rw[<-u,av];exact t)
    rw[<-u]at this ⊢ tl;rw[<-qp (d:=0) (N:=P.n) (e:=S.kept) (y:=y) (i:=i) (by lia) λj B e=>by have:=gX h.good (by lia) hi e;lia];exact cw tl this
   ·rw[decide_eq_false (by show ¬ ((S.kept i:Nat):Int)<_;lia)]at tl
    rw[<-tw (d:=0) (N:=P.n) (e:=S.kept) (y:=y) (i:=i) λr G=>by lia,u]
    exact bn tl U)
 rw[qah,qaq]at A;have s3:bb (aE dLt (iOp dIx (ay ("free" : Str) (iV 0)) (iV 1)) (ay ("amounts" : Str) (iV 0))) (bq (iV 2) (iOp dIx (ay ("free" : Str) (iV 0)) (iV 1)) (ay ("part" : Str) (iV 0))) aQ [Z (obD P S),Z (.int (e:Int)),some (.h 0),m,p] ([]++[.l (mpI P.n λr=>acc S.kept y P.m (0+r))])=some (.nx [Z (obD P S),Z (.int (e:Int)),some (.h 0),m,p] ([]++[.l (mpI P.n λk=>Sx.wayN P S e k)])):=by
  have qf:∀ s,iOp dIx (ay ("free" : Str) (iV 0)) (iV 1) [Z (obD P S),Z (.int (e:Int)),some (.h 0),m,p] s=some (.d (.int (nI S.free e)),s):=λs=>ac (lX (q _ _ _ _ _)) U (dO _ Y)
  generalize u:(mpI P.n λr=>acc S.kept y P.m (0+r))=xs;have tl:aE dLt (iOp dIx (ay ("free" : Str) (iV 0)) (iV 1)) (ay ("amounts" : Str) (iV 0)) [Z (obD P S),Z (.int (e:Int)),some (.h 0),m,p] ([]++[.l xs])=some (decide (nI S.free e<(P.n:Int)),[]++[.l xs]):=aj (qf _) (bM (q _ _ _ _ _)) (Ad _ _ _)
  by_cases t:S.free e<P.n
  ·rw[decide_eq_true (by show ((S.free e:Nat):Int)<_;lia)]at tl
   have:=sIx (st:=[]) (k:=S.free e) (lZ (q (Z (.int (e:Int))) (some (.h 0)) m p ([]++[C.l xs]))) (o:=iV 2) (i:=iOp dIx (ay ("free" : Str) (iV 0)) (iV 1)) U (qf _) (by rw[<-u,av];exact t)
   have E:xs.set (S.free e) (.int S.p)=mpI P.n λk=>Sx.wayN P S e k:=by
    rw[<-u,f7];refine bu λk _=>?_;rw[hw k,qbg]
   rw[E]at this;exact cw tl this
  ·rw[decide_eq_false (by show ¬ ((S.free e:Nat):Int)<_;lia)]at tl
   have E:xs=mpI P.n λk=>Sx.wayN P S e k:=by
    rw[<-u];refine bu λk hk'=>?_;rw[hw k,qbg,iFN (by lia)]
   rw[<-E];exact bn tl U
 obtain⟨V,F,I⟩:=hp;have J:∀ x∈(qak P.n).map (Sx.wayN P S e),Sm x:=λx hx=>by
  obtain⟨k,t,rfl⟩:=qaJ.mp hx;rw[hw k];by_cases z:k=S.free e
  ·rw[iFP z];exact h.sp
  ·rw[iFN z]
   by_cases ex:∃ i,i<P.m/\S.kept i=k
   ·obtain⟨i,hi,rfl⟩:=ex
    have:acc S.kept y P.m (S.kept i)=y i:=Sx.byName_at (λi j hi B=>gX h.good hi B) hi
    rw[this,<-L];show (- S.T i e).natAbs<_;rw[qiQ];exact h.sT i e hi (by lia)
   ·rw[mZ λj B e=>ex ⟨j,B,e⟩]
    exact qgu (by decide)
 have O:=vJ (st:=[]) J ⟨_,qaJ.mpr ⟨V,qaD.mpr F,U⟩,I⟩ (by rw[qah,qaq];lia);obtain⟨g0,g1⟩:=kJ (ns:=(qak P.n).map (Sx.wayN P S e)) (qaJ.mpr ⟨V,qaD.mpr F,U⟩) I (J _ (qaJ.mpr ⟨V,qaD.mpr F,U⟩));have gd:∀ k,k<P.n->((cR 0 ((qak P.n).map (Sx.wayN P S e)):Nat):Int)∣Sx.wayN P S e k:=λk t=>qc7.mpr ((cS 0 _).2 _ (qaJ.mpr ⟨k,qaD.mpr t,U⟩));generalize hG:((cR 0 ((qak P.n).map (Sx.wayN P S e)):Nat):Int)=g at *;refine⟨g,g0,gd,?_⟩;rw[<-bC,qaM,qaM]at O;have Q:cE cG (aa (iV 2) ae) [Z (obD P S),Z (.int (e:Int)),some (.h 0),m,p] ([]++[.l (mpI P.n λk=>Sx.wayN P S e k)])=some (.d (.tup (mpI P.n λk=>Sx.wayN P S e k / g)),[]++[.l (mpI P.n λk=>Sx.wayN P S e k)]):=by
  have ha:aa (iV 2) ae [Z (obD P S),Z (.int (e:Int)),some (.h 0),m,p] ([]++[.l (mpI P.n λk=>Sx.wayN P S e k)])=some ([.h 0],[]++[.l (mpI P.n λk=>Sx.wayN P S e k)]):=rfl;have X:vwA ([]++[.l (mpI P.n λk=>Sx.wayN P S e k)]) [.h 0]=some [.d (.lst (mpI P.n λk=>Sx.wayN P S e k))]:=rfl;have T:cG [.d (.lst (mpI P.n λk=>Sx.wayN P S e k))] []=some (.d (.tup (mpI P.n λk=>Sx.wayN P S e k / g)),[]):=O;simp only[cE,ha,qac,X,T];rw[iFP];exact Am _ _
 have:=dX (n:=5) (k:=2) (b:=tP) (ws:=[.d (obD P S),.d (.int (e:Int))]) (st:=[]) U (ah (ao (iL (st:=[]) (bM (q (Z (.int (e:Int))) none none none [])) (by lia) S.kept y 0)) (ah (bg (qR (qr (q _ _ _ _ _))) A) (ah s3 (aC Q))))
 exact this
end
end Own
set_option maxHeartbeats 1000000
namespace Own
open PySem L2
open Sx (Pb Tb Good Named Fe LV ZV piv lexP leastR leaveL sumN unit colV basis)
theorem nh {m:Fn}(e:a env st=some (ws,st)) (c:vwA st ws=some b) (hm:m b []=some (.d x,[])) (hx:okT x=true):cE m a env st=some (.d x,st) :=by
 simp only[cE,e,qac,c,hm];rw[iFP hx]
structure Pd (P:Pb):Prop where
 bd:Sx.Bd P
 hA:∀ k,k<P.n+P.m->∀ t,P.m<=t->P.A k t=0
 hb:∀ t,P.m<=t->P.b t=0
 hg:∀ r,r<P.m->P.g (P.n+r)=0
section
variable {P:Pb}{S:Tb}
theorem Pd.okt (d:Pd P) (g:Good P S) (n:Named P S):Okt P S:=EL d.bd g n
theorem Pd.kept (d:Pd P) (n:Named P S):∀ i,i<P.m->∀ t,P.m<=t->P.A (S.kept i) t=0:=λi hi t A=>d.hA _ (n.bound.2 i hi) t A
theorem HH (g:Good P S) (f:Fe P S):∀ i,i<P.m->0<=S.T i P.n:=λi hi=>by
 rw[g.entry (qao _) hi]
 have:colV P S P.n=Sx.XV P 0:=by unfold colV Sx.XV;rw[iFN (qa4 _),iFP U]
 rw[this];exact (Sx.lexP_first (by lia) (f i hi))
structure zh (P:Pb) (p:Int) (am pr:Nat->Int):Prop where
 p1:1<=p
 am0:∀ k,k<P.n->0<=am k
 pr0:∀ r,r<P.m->0<=pr r
 rows:∀ r,r<P.m->(sumN P.n λj=>am j*P.A j r)<=p*P.b r
 cols:∀ j,j<P.n->p*P.g j<=sumN P.m λr=>P.A j r*pr r
 same:(sumN P.m λr=>P.b r*pr r)=sumN P.n λj=>am j*P.g j
 sp:Sm p
 sa:∀ k,k<P.n->Sm (am k)
 sr:∀ r,r<P.m->Sm (pr r)
structure mU (P:Pb) (way:Nat->Int):Prop where
 w0:∀ k,k<P.n->0<=way k
 rows:∀ r,r<P.m->(sumN P.n λj=>way j*P.A j r)<=0
 gain:0<sumN P.n λj=>way j*P.g j
theorem nj { a:Int} (h:g∣a):g*(a / g)=a :=qd1 h
theorem sQ {f h:Nat->Int} (hd:∀ k,k<n->g∣f k):g*(sumN n λk=>f k / g*h k)=sumN n λk=>f k*h k :=by
 rw[<-Sx.sumN_mul];refine Sx.sumN_congr λk m=>?_;rw[<-qbu,nj (hd k m)]
theorem xM {f h:Nat->Int} (hd:∀ k,k<n->g∣f k):g*(sumN n λk=>h k*(f k / g))=sumN n λk=>h k*f k :=by
 rw[<-Sx.sumN_mul];refine Sx.sumN_congr λk m=>?_;rw[qaR,nj (hd k m)]
theorem Hy (h:Okt P S) (hg:∀ r,r<P.m->P.g (P.n+r)=0) (w:∀ c,c<P.n->0<=S.G c) (l:r<P.m):Sm (ZV P S (r+1))/\0<=ZV P S (r+1) :=by
 rcases h.named.all (P.n+r) (by lia) with⟨c,L,e⟩|⟨j,o,e⟩
 ·rw[Sx.price_free h.good h.named hg l L e];exact⟨h.sG c (by lia),w c L⟩
 ·rw[Sx.price_kept h.good h.named hg l o e];exact⟨qgu (by decide),qcs _⟩
theorem FX (h:Okt P S) (k):Sm (acc S.kept (λi=>S.T i P.n) P.m k) :=by
 by_cases ex:∃ i,i<P.m/\S.kept i=k
 ·obtain⟨i,hi,rfl⟩:=ex
  have:acc S.kept (λi=>S.T i P.n) P.m _=S.T i P.n:=Sx.byName_at (λi j hi o=>gX h.good hi o) hi
  rw[this];exact h.sT i P.n hi (qao _)
 ·rw[mZ λj o e=>ex ⟨j,o,e⟩]
  exact qgu (by decide)
theorem vF {  b:Int} (g0:0<g) (h:g*a<=g*b):a<=b :=Int.le_of_mul_le_mul_left h g0
theorem Sm.dv (h:Sm a) (q):Sm (a / q) :=qbN (Int.natAbs_ediv_le_natAbs a q) h
theorem F9 (d:Pd P) (g:Good P S) (n:Named P S) (f:Fe P S) (w:∀ c,c<P.n->0<=S.G c):∃ p am pr,zh P p am pr/\fY [.d (obD P S)] []=some (.d (.tup [.str "most",.int p,.tup (mpI P.n am),.tup (mpI P.m pr)]),[]):=by
 have h:=d.okt g n;have hm:=h.m64;have hn:=h.n64;have N:=HH g f;have e1:=FW (st:=[]) h;have e2:=GQ (st:=[]) h d.hg;have hg:=d.hg;have M1:=λr l=>Sx.amounts_ok g n N (r:=r) l;have M2:=Sx.gains_amounts g n d.hg;have M3:=λj o=>Sx.prices_ok g n d.hA w (j:=j) o;have M4:=Sx.bounds_prices g d.hb;have M5:∀ k,0<=acc S.kept (λi=>S.T i P.n) P.m k:=λk=>Sx.byName_nonneg (P:=P) (S:=S) N k;have M6:=FX h;have M7:=λr l=>Hy h d.hg w (r:=r) l;have M9:∀ j,Sx.byName P S (λi=>S.T i P.n) j=acc S.kept (λi=>S.T i P.n) P.m j:=λ_=>rfl;simp only[M9]at M1 M2;generalize acc S.kept (λi=>S.T i P.n) P.m=am at *;generalize C:(λr=>ZV P S (r+1))=pr at *;have y:∀ r,ZV P S (r+1)=pr r:=λr=>by rw[<-C]
 simp only[y]at M3 M4 M7;have hns:D.int S.p::(mpI P.n am++mpI P.m pr)=(S.p::((qak P.n).map am++(qak P.m).map pr)).map D.int:=by
  rw[qaz,qci,bC,bC]
 have G:∀ x∈S.p::((qak P.n).map am++(qak P.m).map pr),Sm x:=λx hx=>by
  rcases qaw.mp hx with rfl|hx
  ·exact h.sp
  ·rcases qaT.mp hx with hx|hx
   ·obtain⟨k,_,rfl⟩:=qaJ.mp hx;exact M6 k
   ·obtain⟨k,m,rfl⟩:=qaJ.mp hx;exact (M7 k (qaD.mp m)).1
 have M:=nE (st:=[]) G;have J:=g.pos;obtain⟨u,I⟩:=kJ qag (by lia) h.sp;have v:∀ x∈S.p::((qak P.n).map am++(qak P.m).map pr),_∣x:=λx hx=>qc7.mpr ((cS 0 _).2 _ hx);rw[<-hns]at M;generalize ((cR 0 _:Nat):Int)=q at *;have dp:q∣S.p:=v _ qag;have O:=λk m=>v _ (qaj _ (qa9 _ (qaJ.mpr ⟨k,qaD.mpr m,U⟩)));have K:=λk m=>v _ (qaj _ (qaB _ (qaJ.mpr ⟨k,qaD.mpr m,U⟩)));refine⟨S.p / q,λk=>am k / q,λr=>pr r / q,⟨?_,λk _=>qed (M5 k) (by lia),λr l=>qed (M7 r l).2 (by lia),λr l=>?_,λj o=>?_,?_,h.sp.dv _,λk _=>(M6 k).dv _,λr l=>(M7 r l).1.dv _⟩,?_⟩
 ·have:=nj dp
  rcases Int.lt_or_le (S.p / q) 1 with z|z
  ·have:q*(S.p / q)<=q*0:=qd0 (by lia) (by lia)
   lia
  ·exact z
 ·refine vF u ?_
  rw[sQ (h:=λj=>P.A j r) O,<-qbu,nj dp];exact M1 r l
 ·refine vF u ?_
  rw[xM (h:=λr=>P.A j r) K,<-qbu,nj dp];exact M3 j o
 ·refine qet (a:=q) (by lia) ?_
  rw[xM (h:=λr=>P.b r) K,sQ (h:=λj=>P.g j) O,M4,M2]
 ·have B:∀ (a b c:Option W) (s:Sto),iV 0 [Z (obD P S),a,b,c] s=some (.d (obD P S),s):=λ_ _ _ _=>rfl
  have R:lcI (.nm 0) aJ dH [none,Z (.int q)] (mpI P.n am) []=some (mpI P.n λk=>am k / q,[]):=by
   have:=qO (te:=dH) (st:=[]) (ns:=(qak P.n).map am) u I U
   rw[<-bC,qaM,qaM]at this;exact this
  have T:lcI (.nm 0) aJ dG [none,Z (.int q)] (mpI P.m pr) []=some (mpI P.m λk=>pr k / q,[]):=by
   have:=qO (te:=dG) (st:=[]) (ns:=(qak P.m).map pr) u I U
   rw[<-bC,qaM,qaM]at this;exact this
  have V:(mpI P.n am).length<=1000000:=by rw[av];lia
  have lr:(mpI P.m pr).length<=1000000:=by rw[av];lia
  have H:[D.int S.p].length+(mpI P.n am).length<=1000000:=by rw[av];show 1+_<=_;lia
  have F:([D.int S.p]++mpI P.n am).length+(mpI P.m pr).length<=1000000:=by rw[qaA,av,av];show 1+_+_<=_;lia
  generalize mpI P.n am=AM at *;generalize mpI P.m pr=PR at *;have X:aB (.nm 3) (az bi (aa (iOp aZ (iOp aZ (ap (bm (aa (ay ("part" : Str) (iV 0)) ae))) (iV 1)) (iV 2)) ae)) [Z (obD P S),Z (.lst AM),Z (.lst PR),none] []=some (.nx [Z (obD P S),Z (.lst AM),Z (.lst PR),Z (.int q)] []):=by
   have hl:bm (aa (ay ("part" : Str) (iV 0)) ae) [Z (obD P S),Z (.lst AM),Z (.lst PR),none] []=some ([.int S.p],[]):=by
    have:=ab (b:=ae) (lZ (B (Z (.lst AM)) (Z (.lst PR)) none [])) U
    rfl
   exact ao (ai (ab (ac (ac (aq hl) U (fL _ H)) U (fL _ F)) U) M)
  exact ax (n:=4) (k:=1) (b:=jB) U (ah (ao (ai (ab (B _ _ _ _) U) e1)) (ah (ao (ai (ab (B _ _ _ _) U) e2)) (ah X (aC (uH (ab U (ab (ac (lZ (B _ _ _ _)) U (qN _ u I)) (ab (ar (ab (aq (aH (aT U) V R)) U) U) (ab (ar (ab (aq (aH (aT U) lr T)) U) U) U)))) U (by show 4<=1000;decide))))))
theorem F1 (d:Pd P) (g:Good P S) (n:Named P S) (E:e<P.n) (A:∀ i,i<P.m->S.T i e<=0) (w:S.G e<0):∃ way,mU P way/\j8 [.d (obD P S),.d (.int (e))] []=some (.d (.tup (mpI P.n way)),[]) :=by
 have W1:=Sx.way_gains g n d.hg E w;have J:∃ k,k<P.n/\Sx.wayN P S e k≠0:=by
  by_cases z:∃ k,k<P.n/\Sx.wayN P S e k≠0
  ·exact z
  ·rw[Sx.sumN_congr λk m=>by
    by_cases Q:Sx.wayN P S e k=0
    ·rw[Q,qbV]
    ·exact absurd ⟨k,m,Q⟩ z,Sx.sumN_zero]at W1
   lia
 obtain⟨q,u,v,Y⟩:=Hw (d.okt g n) E A J;refine⟨_,⟨λk _=>qed (Sx.way_nonneg g A k) (by lia),λr l=>?_,?_⟩,Y⟩
 ·refine vF u ?_
  rw[sQ v,qa7];exact Sx.way_rows g n E A l
 ·refine Int.lt_of_mul_lt_mul_left (a:=q) ?_ (by lia)
  rw[sQ v,qa7];exact W1
end
end Own
set_option maxHeartbeats 1000000
namespace Own
open PySem L2
open Sx (Pb Tb Good Named Fe LV ZV piv lexP leastR leaveL sumN unit colV basis)
theorem HW (n) (f):okT (.tup [.str "beyond",.tup (mpI n f)])=true :=by
 simp only[okT,vS,bC,iM,qiW]
theorem GF (n m) (p) (f g):okT (.tup [.str "most",.int p,.tup (mpI n f),.tup (mpI m g)])=true :=by
 simp only[okT,vS,bC,iM,qiW]
def FV (P:Pb) (S:Tb) (x:D):Prop:=(∃ c,c<P.n/\S.G c<0/\(∀ i,i<P.m->S.T i c<=0)/\x=.tup [.int (c:Int),.non])\/(kz P S x/\(x=.non->∀ c,c<P.n->0<=S.G c))
section
variable {P:Pb}{S:Tb}
theorem Bl (d:Pd P) (g:Good P S) (n:Named P S):∃ x,FV P S x/\okT x=true/\bF [.d (obD P S)] []=some (.d x,[]):=by
 rcases F0 (d.okt g n) (d.kept n) with⟨c,m,hg,z,e⟩|⟨y,K,hn,e⟩
 ·exact⟨_,.inl ⟨c,m,hg,z,U⟩,U,e⟩
 ·refine⟨y,.inr ⟨K,hn⟩,?_,e⟩
  rcases K with rfl|⟨c,r,_,_,_,_,_,_,rfl⟩<;>rfl
theorem kC (e:bF [.d (obD P S)] []=some (.d x,[])) (hx:okT x=true):cE bF (aa (iV 3) ae) [a,b,c,some (.h (st0.length+2)),o] (stO st0 P S)=some (.d x,stO st0 P S) :=
 nh U (Bu U) e hx
def mV (P:Pb) (f:Nat) (S:Tb) (x:D):Prop:=
 (∃ S' k,mU P k/\∀ (st0:Sto) (a b c:Option W),bB gg eS f [a,b,c,some (.h (st0.length+2)),Z x] (stO st0 P S)=some (.rt (.d (.tup [.str "beyond",.tup (mpI P.n k)])) (stO st0 P S')))\/
 ∃ S',Good P S'/\Named P S'/\Fe P S'/\(∀ c,c<P.n->0<=S'.G c)/\∀ (st0:Sto) (a b c:Option W),bB gg eS f [a,b,c,some (.h (st0.length+2)),Z x] (stO st0 P S)=some (.nx [a,b,c,some (.h (st0.length+2)),Z .non] (stO st0 P S'))
theorem xf (d:Pd P):∀ (f) (V:List Nat) (S) (x),Good P S->Named P S->Fe P S->FV P S x->V.Nodup->(∀ v∈V,v<(P.n+P.m)^P.m)->(∀ v∈V,∃ S',Good P S'/\Named P S'/\Sx.code (P.n+P.m) S'.kept P.m=v/\Sx.less P S' S)->(P.n+P.m)^P.m<f+V.length->mV P f S x
 |0,V,S,x,_,_,_,_,A,hb,_,R=>by
  have:=Sx.nodup_le _ V A hb
  lia
 |f+1,V,S,x,hg,hn,G,hx,A,hb,J,R=>by
  have h:=d.okt hg hn;rcases hx with⟨c,m,E,z,rfl⟩|⟨hx,w⟩
  ·obtain⟨k,u,T⟩:=F1 d hg hn m z E
   refine .inl ⟨S,k,u,λst0 a b o=>?_⟩;refine GU U (dY (cw U (aC (uH (ws:=[.d _,.d _]) (ab U (ab ?_ U)) U (by show 2<=1000;decide)))));refine nh (ab U (ab (ac U U (rS _ _ _)) U)) (Bu U) T ?_;exact Am _ _
  ·rcases hx with rfl|⟨c,r,m,E,_,L,hT,p,rfl⟩
   ·exact .inr ⟨S,hg,hn,G,w U,λst0 a b o=>DL U⟩
   ·obtain⟨C,H,M,I⟩:=Sx.step hg hn G m L hT E p
    obtain⟨y,sy,X,Q⟩:=Bl d C H;have j:∀ {S':Tb},Named P S'->∀ i,i<P.m->S'.kept i<P.n+P.m:=λs i hi=>s.bound.2 i hi;have q:∀ (st0:Sto) (a b o:Option W),eS [a,b,o,some _,some _] _=some _:=λst0 a b o=>by
     have ed:cT (az dS (aa (iV 3) (aa (iOp dIx (iV 4) (iC (.int 1))) (aa (iOp dIx (iV 4) (iC (.int 0))) ae)))) [a,b,o,some (.h (st0.length+2)),Z (.tup [.int (c),.int (r)])] (stO st0 P S)=some (.nx [a,b,o,some (.h (st0.length+2)),Z (.tup [.int (c),.int (r)])] (stO st0 P (piv S r c))):=by
      have:=ai (a:=aa (iV 3) (aa (iOp dIx (iV 4) (iC _)) (aa (iOp dIx (iV 4) (iC _)) ae))) (env:=[a,b,o,some _,some _]) (st:=stO st0 P S) (ab U (ab (ac U U (kQ _ _ _)) (ab (ac U U (rS _ _ _)) U))) (BX h L m)
      simp only[cT,this,qap]
     exact ah (bn U U) (ah ed (ao (kC Q X)))
    rcases (xf d f _ _ y C H M sy
     (qcr.mpr ⟨λhm=>by
       obtain⟨S',t,s,F,B⟩:=J _ hm
       exact Sx.less_kept t hg B (Sx.code_inj (j s) (j hn) F),A⟩)
     (λv l=>by
       rcases qaw.mp l with rfl|l
       ·exact Sx.code_lt (j hn)
       ·exact hb v l)
     (λv l=>by
       rcases qaw.mp l with rfl|l
       ·exact⟨S,hg,hn,U,I⟩
       ·obtain⟨S',t,s,F,B⟩:=J v l
        exact⟨S',t,s,F,Sx.less_trans t.pos hg.pos C.pos B I⟩)
     (by rw[qat];lia)) with⟨S',k,u,hw⟩|⟨S',gS,N,O,Y,hw⟩
    ·exact .inl ⟨S',k,u,λst0 a b o=>AV U (q st0 a b o) (hw st0 a b o)⟩
    ·exact .inr ⟨S',gS,N,O,Y,λst0 a b o=>AV U (q st0 a b o) (hw st0 a b o)⟩
end
def gF (m n:Nat) (R:Nat->Nat->Int) (b g:Nat->Int):Pb where
 m:=m
 n:=n
 A:=λk t=>if k<n then (if t<m then R t k else 0) else unit (k - n) t
 b:=λt=>if t<m then b t else 0
 g:=λk=>if k<n then g k else 0
def Bo (m n:Nat) (R:Nat->Nat->Int) (b g:Nat->Int):Tb:=Sx.tb0 (gF m n R b g) (λi c=>if c<n then R i c else b i) (λc=>if c<n then - g c else 0)
def lE (m n:Nat) (R:Nat->Nat->Int):D:=.tup ((qak m).map λi=>D.tup (mpI n (R i)))
structure Inp (m n:Nat) (R:Nat->Nat->Int) (b g:Nat->Int):Prop where
 m64:m<=32
 n64:n<=100
 R:∀ i c,i<m->c<n->(R i c).natAbs<=2^50
 b:∀ i,i<m->(b i).natAbs<=2^50/\0<=b i
 g:∀ c,c<n->(g c).natAbs<=2^50
section
variable {m n:Nat}{R:Nat->Nat->Int}{b g:Nat->Int}
theorem DE (h:Inp m n R b g):Pd (gF m n R b g) where
 bd:={
  m64:=h.m64
  n64:=h.n64
  A:=λk _ t j=>by
   show (if k<n then _ else unit _ t).natAbs<=_;by_cases e:k<n
   ·rw[iFP e,iFP (show t<m from j)];exact h.R t k j e
   ·rw[iFN e];exact Sx.unit_le _ _
  b:=λt j=>by
   show (if t<m then b t else 0).natAbs<=_;rw[iFP (show t<m from j)];exact (h.b t j).1
  g:=λk _=>by
   show (if k<n then g k else 0).natAbs<=_;by_cases e:k<n
   ·rw[iFP e];exact h.g k e
   ·rw[iFN e];exact qbM _ }
 hA:=λk e t j=>by
  have hk':k<n+m:=e;have ht':m<=t:=j;show (if k<n then _ else unit _ t)=0;by_cases z:k<n
  ·rw[iFP z,iFN (by lia)]
  ·rw[iFN z];unfold unit;rw[iFN (by lia)]
 hb:=λt j=>iFN (qik.mpr j)
 hg:=λr _=>iFN (by show ¬ n+r<n;lia)
theorem BZ (h:Inp m n R b g):Good (gF m n R b g) (Bo m n R b g)/\Named (gF m n R b g) (Bo m n R b g)/\Fe (gF m n R b g) (Bo m n R b g):=by
 have d:=DE h
 have:=Sx.good0
  (λr _=>by
    funext t
    show (if n+r<n then _ else unit (n+r - n) t)=_
    rw[iFN (by lia),qaK])
  (λk e=>d.hA k (by lia)) d.hb d.hg
  (λi c hi w=>by
    show (if c<n then R i c else b i)=if c<n then _ else _
    rw[iFP (show c<n from w),iFP (show c<n from w),iFP (show i<m from hi)])
  (λi hi=>by
    show (if n<n then _ else b i)=if i<m then b i else 0
    rw[iFN (qa4 _),iFP (show i<m from hi)])
  (λc w=>by
    show (if c<n then - g c else 0)=- (if c<n then g c else 0)
    rw[iFP (show c<n from w),iFP (show c<n from w)])
  (by show (if n<n then _ else _)=0;rw[iFN (qa4 _)])
 refine⟨this.1,this.2.1,this.2.2 λt j=>?_⟩;show 0<=if t<m then b t else 0;rw[iFP (show t<m from j)];exact (h.b t j).2
theorem xg (f) (x):mpI n f++[.int x]=mpI (n+1) λc=>if c<n then f c else x :=by
 rw[ox,iFN (qa4 _)];rw[bu (g:=λc=>if c<n then f c else x) λk e=>by rw[iFP e]]
theorem A8 (lo:Nat) (m):cW (lo) m=mpI m (nI λi=>lo+i) :=by
 refine qcf λk _=>?_;show D.int _=D.int (((lo+k:Nat)));rw[Int.natCast_add]
theorem Gz (h:Inp m n R b g):nG 4 4 bJ (aa (iV 0) (aa (iV 1) (aa (iV 2) ae))) [some (.d (lE m n R)),some (.d (.tup (mpI m b))),some (.d (.tup (mpI n g))),O,Q] st0=some (.h (st0.length+2),stO st0 (gF m n R b g) (Bo m n R b g)) :=by
 have hm:=h.m64;have hn:=h.n64;generalize G:([none,some (.d (lE m n R)),some (.d (.tup (mpI m b))),some (.d (.tup (mpI n g)))]:Ev)=E;have v1:∀ s,iV 1 E s=some (.d (lE m n R),s):=λs=>by rw[<-G];rfl
 have v2:∀ s,iV 2 E s=some (.d (.tup (mpI m b)),s):=λs=>by rw[<-G];rfl
 have M:∀ s,iV 3 E s=some (.d (.tup (mpI n g)),s):=λs=>by rw[<-G];rfl
 have a:∀ s,iCB aV (aa (iV 3) ae) E s=some (.d (.int (n:Int)),s):=λs=>by
  have:=ar (g:=aV) (d:=.int ((mpI n g).length:Nat)) (ab (b:=ae) (M s) U) U
  rw[av]at this;exact this
 have o:∀ s,iCB aV (aa (iV 1) ae) E s=some (.d (.int (m:Int)),s):=λs=>by
  have:=ar (g:=aV) (d:=.int (((qak m).map λi=>D.tup (mpI n (R i))).length:Nat)) (ab (b:=ae) (v1 s) U) U
  rw[qah,qaq]at this;exact this
 have T:ap (iLc 2 [] (cp (aa (iV 1) (aa (iV 2) ae))) (.tp [0,1]) aJ gP) E st0=some (.d (.lst (aW m n λi c=>if c<n then R i c else b i)),st0):=by
  have hz:cp (aa (iV 1) (aa (iV 2) ae)) E st0=some ((qak m).map λi=>D.tup [.tup (mpI n (R i)),.int (b i)],st0):=by
   have F:cg ((qak m).map λi=>D.tup (mpI n (R i))) (mpI m b)=(qak m).map λi=>D.tup [.tup (mpI n (R i)),.int (b i)]:=by
    apply qa6;intro i;rw[d6,qay,qay];by_cases hi:i<m
    ·rw[aU hi,qaS hi];rfl
    ·rw[qav (l:=qak m) (by rw[qaq];lia)];rfl
   rw[<-F]
   have:=ab (v1 st0) (ab (b:=ae) (v2 st0) U)
   simp only[cp,this,qac];rfl
  refine aq (aH hz (by rw[qah,qaq];lia) ?_);refine z7 (g:=λi=>(D.tup (mpI n (R i)),.int (b i))) (lnD n λi c=>if c<n then R i c else b i) λi hi=>?_;unfold lnD;rw[<-xg (R i) (b i)];exact ac (aq (show iCL wV (aa (iV 0) ae) _ _=some (mpI n (R i),_) from U)) (aq (show bm (aa (iV 1) ae) _ _=some ([.int (b i)],_) from U)) (fL _ (by rw[av];show _+1<=_;lia))
 have f3:iOp aZ (ap (iLc 1 [] (aA (iV 3)) (.nm 0) aJ gQ)) (ap (bm (aa (iC (.int 0)) ae))) E st0=some (.d (.lst (mpI (n+1) λc=>if c<n then - g c else 0)),st0):=by
  rw[<-xg (λc=>- g c) 0];refine ac (aq (aH (aX (M st0)) (by rw[av];lia) (gx (g:=λk=>D.int (g k)) (λk=>D.int (- g k)) λk _=>rfl))) (aq (show bm (aa (iC (.int 0)) ae) E st0=some ([.int 0],st0) from U)) (fL _ ?_);rw[qah,qaq];show _+1<=_;lia
 have f5:bR (yw (aa (iCB aV (aa (iV 3) ae)) ae)) E st0=some (.h st0.length,st0++[.l (mpI n (nI λc=>c))]):=by
  have:=ab (b:=ae) (a st0) U
  have F:yw (aa (iCB aV (aa (iV 3) ae)) ae) E st0=some (mpI n (nI λc=>c),st0):=by
   simp only[yw,this,qac];rw[iFP ⟨by lia,by lia⟩,qbc,show cW 0 n=cW ((0:Nat):Int) n from U,A8];simp only[qbg]
  simp only[bR,F,qap]
 have f6:bR (qT (aa (iCB aV (aa (iV 3) ae)) (aa (iOp aZ (iCB aV (aa (iV 3) ae)) (iCB aV (aa (iV 1) ae))) ae))) E (st0++[.l (mpI n (nI λc=>c))])=some (.h (st0.length+1),st0++[.l (mpI n (nI λc=>c)),.l (mpI m (nI λi=>n+i))]):=by
  generalize hs:(st0++[C.l (mpI n (nI λc=>c))])=s1;have h2:iOp aZ (iCB aV (aa (iV 3) ae)) (iCB aV (aa (iV 1) ae)) E s1=some (.d (.int ((n:Int)+(m:Int))),s1):=ac (a s1) (o s1) U
  have:=ab (a s1) (ab (b:=ae) h2 U)
  have F:qT (aa (iCB aV (aa (iV 3) ae)) (aa (iOp aZ (iCB aV (aa (iV 3) ae)) (iCB aV (aa (iV 1) ae))) ae)) E s1=some (mpI m (nI λi=>n+i),s1):=by
   simp only[qT,this,qac];rw[iFP ⟨by lia,by lia,by lia,by lia⟩,show (((n:Int)+(m:Int)) - (n:Int)).toNat=m by lia,A8]
  simp only[bR,F,qap];rw[<-hs,qaA]
  simp
 have q:rB bJ E st0=some (fsO n (aW m n λi c=>if c<n then R i c else b i) (mpI (n+1) λc=>if c<n then - g c else 0) 1 st0.length,st0++[.l (mpI n (nI λc=>c)),.l (mpI m (nI λi=>n+i))]):=by
  unfold bJ;simp only[rB,a st0,T,f3,f5,f6,qac,qap,show iC (.int 1) E st0=some (.d (.int 1),st0) from U];rfl
 have Y:aa (iV 0) (aa (iV 1) (aa (iV 2) ae)) [some (.d (lE m n R)),some (.d (.tup (mpI m b))),some (.d (.tup (mpI n g))),O,Q] st0=some ([.d (lE m n R),.d (.tup (mpI m b)),.d (.tup (mpI n g))],st0):=rfl;simp only[nG,Y,qac];show (rB bJ [none,some (.d (lE m n R)),some (.d (.tup (mpI m b))),some (.d (.tup (mpI n g)))] st0).map _=_;rw[G,q,qap];rw[qaA,qbR];rfl
inductive BD (P:Pb):D->Prop
 |most (p:Int) (am pr:Nat->Int):zh P p am pr->BD P (.tup [.str "most",.int p,.tup (mpI P.n am),.tup (mpI P.m pr)])
 |beyond (way:Nat->Int):mU P way->BD P (.tup [.str "beyond",.tup (mpI P.n way)])
theorem AH (hm:m<=64) (hn:n<=100):(n+m)^m<2^8000 :=by
 have N:(n+m)^m<=(2^8)^m:=Nat.pow_le_pow_left (by lia) m;rw[<-qkl]at N;exact qbN N (xF (by lia))
theorem Cj (h:Inp m n R b g):∃ x,BD (gF m n R b g) x/\okT x=true/\∀ st,∃ u,iJ [.d (lE m n R),.d (.tup (mpI m b)),.d (.tup (mpI n g))] st=some (.d x,st++u) :=by
 have d:=DE h;obtain⟨S,K,f1⟩:=BZ h;obtain⟨y,sy,L,I⟩:=Bl d S K;have hl:=xf d (2^8000) [] _ y S K f1 sy qdk (λv H=>nomatch H) (λv H=>nomatch H) (by rw[qcO,qj6];exact AH (qaN h.m64 (by decide)) h.n64)
 generalize hM:(lE m n R)=A at *;generalize hB:D.tup (mpI m b)=B at *;generalize hC:D.tup (mpI n g)=C at *;have J:∀ st0,aB (.nm 3) (nG 4 4 bJ (aa (iV 0) (aa (iV 1) (aa (iV 2) ae)))) [Z A,Z B,Z C,none,none] st0=some (.nx [Z A,Z B,Z C,some (.h (st0.length+2)),none] (stO st0 (gF m n R b g) (Bo m n R b g))):=λst0=>by
  rw[<-hM,<-hB,<-hC];exact ao (Gz h)
 rcases hl with⟨S',way,bw,hw⟩|⟨S',gS,V,X,hS,hw⟩
 ·refine⟨_,.beyond way bw,HW _ _,λst0=>⟨_,ax (n:=5) (k:=3) (b:=kA) U (ah (J st0) (ah (ao (kC I L)) (dY (hw st0 _ _ _))))⟩⟩
 ·obtain⟨p,am,pr,mi,em⟩:=F9 d gS V X hS
  refine⟨_,.most p am pr mi,GF _ _ _ _ _,λst0=>⟨_,ax (n:=5) (k:=3) (b:=kA) U (ah (J st0) (ah (ao (kC I L)) (ah (hw st0 _ _ _) (aC (nh (ws:=[.h (st0.length+2)]) U (Bu (ws:=[]) (ws':=[]) U) em (GF _ _ _ _ _))))))⟩⟩
end
end Own
namespace Sx
def spR (N k:Nat) (V:Nat->Nat->Int) (r c:Nat):Int:=if r<N then (if c<k then - V r c else if c<k+k then V r (c - k) else if c - (k+k)=r then 1 else 0) else if c<k+k then 0 else if c - (k+k)=r - N then 1 else 0
def spB (N r:Nat):Int:=if r<N then 0 else 1
def spG (k c:Nat):Int:=if c<k+k then 0 else 1
section
variable {N k:Nat}{V:Nat->Nat->Int}{am pr:Nat->Int}{p:Int}
theorem sp_row (hi:i<N):(sumN (k+k+N) λj=>am j*spR N k V i j)=am (k+k+i) - sumN k λt=>(am t - am (k+t))*V i t :=by
 rw[sumN_append,sumN_append];have m:(sumN k λj=>am j*spR N k V i j)=sumN k λt=>(-1)*(am t*V i t):=sumN_congr λt o=>by
  unfold spR;rw[iFP hi,iFP o,qgw];omega
 have u:(sumN k λj=>am _*spR N k V i (k+j))=sumN k λt=>am (k+t)*V i t:=sumN_congr λt o=>by
  unfold spR;rw[iFP hi,iFN (by omega),iFP (by omega),qaK]
 have E:(sumN N λj=>am (k+k+j)*spR N k V i (k+k+j))=am (k+k+i):=by
  rw[sumN_single hi λj w c=>by unfold spR;rw[iFP hi,iFN (by omega),iFN (by omega),qaK,iFN c,qa7]];unfold spR;rw[iFP hi,iFN (by omega),iFN (by omega),qaK,iFP U,qdv]
 have J:(sumN k λt=>(am t - am (k+t))*V i t)=(sumN k λt=>am t*V i t) - sumN k λt=>am (k+t)*V i t:=by
  rw[<-sumN_sub];exact sumN_congr λt _=>qft _ _ _
 rw[m,sumN_mul];omega
theorem sp_lim (hi:i<N):(sumN (k+k+N) λj=>am j*spR N k V (N+i) j)=am (k+k+i) :=by
 rw[sumN_append];have m:(sumN (k+k) λj=>am j*spR N k V (N+i) j)=0:=by
  rw[sumN_congr λj w=>by unfold spR;rw[iFN (by omega),iFP w,qa7],sumN_zero]
 have E:(sumN N λj=>am (k+k+j)*spR N k V (N+i) (k+k+j))=am (k+k+i):=by
  rw[sumN_single hi λj w c=>by unfold spR;rw[iFN (by omega),iFN (by omega),qaK,qaK,iFN c,qa7]];unfold spR;rw[iFN (by omega),iFN (by omega),qaK,qaK,iFP U,qdv]
 rw[m,E,qcc]
theorem sp_colA (o:t<k):(sumN (N+N) λr=>spR N k V r t*pr r)=- sumN N λi=>V i t*pr i :=by
 rw[sumN_append];have m:(sumN N λr=>spR N k V r t*pr r)=sumN N λi=>(-1)*(V i t*pr i):=sumN_congr λr g=>by
  unfold spR;rw[iFP g,iFP o,qdd];omega
 have u:(sumN N λr=>spR N k V (N+r) t*pr (N+r))=0:=by
  rw[sumN_congr λj w=>by unfold spR;rw[iFN (by omega),iFP (by omega),qbV],sumN_zero]
 rw[m,sumN_mul];omega
theorem sp_colB (o:t<k):(sumN (N+N) λr=>spR N k V r (k+t)*pr r)=sumN N λi=>V i t*pr i :=by
 rw[sumN_append];have u:(sumN N λr=>spR N k V (N+r) (k+t)*pr (N+r))=0:=by
  rw[sumN_congr λj w=>by unfold spR;rw[iFN (by omega),iFP (by omega),qbV],sumN_zero]
 rw [(sumN_congr λr g=>by
  unfold spR;rw[iFP g,iFN (by omega),iFP (by omega),qaK]),u,qf6]
theorem sp_colE (hi:i<N):(sumN (N+N) λr=>spR N k V r (k+k+i)*pr r)=pr i+pr (N+i) :=by
 rw[sumN_append];have m:(sumN N λr=>spR N k V r (k+k+i)*pr r)=pr i:=by
  rw[sumN_single hi λr g c=>by unfold spR;rw[iFP g,iFN (by omega),iFN (by omega),qaK,iFN (qbp c),qbV]];unfold spR;rw[iFP hi,iFN (by omega),iFN (by omega),qaK,iFP U,qc0]
 have u:(sumN N λr=>spR N k V (N+r) (k+k+i)*pr (N+r))=pr (N+i):=by
  rw[sumN_single hi λr g c=>by unfold spR;rw[iFN (by omega),iFN (by omega),qaK,qaK,iFN (qbp c),qbV]];unfold spR;rw[iFN (by omega),iFN (by omega),qaK,qaK,iFP U,qc0]
 rw[m,u]
theorem sum0 (h:∀ i,i<n->0<=f i) (e:sumN n f=0):∀ i,i<n->f i=0 :=by
 induction n with
 |zero=>exact λi hi=>absurd hi (qcR _)
 |succ n I=>
  have L:=sumN_nonneg (n:=n) λi hi=>h i (by omega);have K:=h n (by omega);rw[sumN]at e;intro i hi;rcases Nat.lt_succ_iff_lt_or_eq.mp hi with z|z
  ·exact I (λi hi=>h i (by omega)) (by omega) i z
  ·rw[z];omega
theorem split_core (p1:1<=p) (am0:∀ j,j<k+k+N->0<=am j) (pr0:∀ r,r<N+N->0<=pr r) (rows:∀ r,r<N+N->(sumN (k+k+N) λj=>am j*spR N k V r j)<=p*spB N r)
  (cols:∀ j,j<k+k+N->p*spG k j<=sumN (N+N) λr=>spR N k V r j*pr r) (same:(sumN (N+N) λr=>spB N r*pr r)=sumN (k+k+N) λj=>am j*spG k j) :
  (∀ t,t<k->(sumN N λi=>V i t*pr i)=0)/\∀ i,i<N->0<=(sumN k λt=>(am t - am (k+t))*V i t)/\((sumN k λt=>(am t - am (k+t))*V i t)=0↔pr i≠0):=by
 have s:∀ t,t<k->(sumN N λi=>V i t*pr i)=0:=λt o=>by
  have a:=cols t (by omega);have b:=cols (k+t) (by omega);rw[sp_colA o]at a;rw[sp_colB o]at b;unfold spG at a b;rw[iFP (by omega)]at a b;omega
 have x:∀ i,i<N->am (k+k+i)<=sumN k λt=>(am t - am (k+t))*V i t:=λi hi=>by
  have a:=rows i (by omega);rw[sp_row hi]at a;unfold spB at a;rw[iFP hi]at a;omega
 have C:∀ i,i<N->am _<=p:=λi hi=>by
  have a:=rows (N+i) (by omega);rw[sp_lim hi]at a;unfold spB at a;rw[iFN (by omega),qdv]at a;exact a
 have hz:∀ i,i<N->p<=pr i+pr _:=λi hi=>by
  have a:=cols (k+k+i) (by omega);rw[sp_colE hi]at a;unfold spG at a;rw[iFN (by omega),qdv]at a;exact a
 have H:(sumN N λi=>pr (N+i))=sumN N λi=>am (k+k+i):=by
  have m:(sumN (N+N) λr=>spB N r*pr r)=sumN N λi=>pr (N+i):=by
   rw[sumN_append,sumN_congr λr g=>by unfold spB;rw[iFP g,qbV],sumN_zero,qcc];exact sumN_congr λr _=>by unfold spB;rw[iFN (by omega),qc0]
  have u:(sumN (k+k+N) λj=>am j*spG k j)=sumN N λi=>am (k+k+i):=by
   rw[sumN_append,sumN_congr λr g=>by unfold spG;rw[iFP g,qa7],sumN_zero,qcc];exact sumN_congr λr _=>by unfold spG;rw[iFN (by omega),qdv]
  rw[<-m,<-u];exact same
 have e0:∀ i,i<N->0<=am (k+k+i):=λi hi=>am0 _ (by omega);have y:∀ i,i<N->0<=pr i:=λi hi=>pr0 _ (by omega);have F:∀ i,i<N->0<=pr (N+i):=λi hi=>pr0 _ (by omega);have v:=by
  refine sum0 (λi hi=>qes (y i hi) (qen (e0 i hi) (x i hi))) ?_;have m:(sumN N λi=>pr i*sumN k λt=>_*V i t)=sumN N λi=>sumN k λt=>(am t - am (k+t))*_:=sumN_congr λi _=>by
   rw[<-sumN_mul];exact sumN_congr λt _=>by rw[qaV _,qbu]
  rw[m,sumN_swap,sumN_congr λt o=>by rw[sumN_mul,s t o,qa7],sumN_zero]
 have A:∀ i,i<N->pr i*am (k+k+i)=0:=λi hi=>by
  have a:=qd0 (x i hi) (y i hi);have b:=qes (y i hi) (e0 i hi);rw[v i hi]at a;omega
 have B:∀ i,i<N->pr (N+i)*(p - am (k+k+i))=0:=by
  refine sum0 (λi hi=>qes (F i hi) (by have:=C i hi;omega)) ?_;have a2:0<=sumN N λi=>am (k+k+i)*(pr (N+i) - p):=sumN_nonneg λi hi=>by
   have b:=qd0 (hz i hi) (e0 i hi);rw[qcA,qaV (am _) (pr i),(A i hi)]at b;rw[qc1];omega
  have D:0<=sumN N λi=>pr (N+i)*(p - am (k+k+i)):=sumN_nonneg λi hi=>qes (F i hi) (by have:=C i hi;omega)
  rw [(sumN_congr λi _=>by
   rw[qc1,qaV (am _),qaV (am _) p]),sumN_sub,sumN_mul]at a2
  rw [(sumN_congr λi _=>by
   rw[qc1,qaV _ p]),sumN_sub,sumN_mul]at D ⊢
  rw[H]at D ⊢;omega
 refine⟨s,λi hi=>⟨qen (e0 i hi) (x i hi),λM G=>?_,λG=>?_⟩⟩
 ·have a:=x i hi
  have d:=hz i hi;rcases qcS.mp (B i hi) with q|q<;>omega
 ·rcases qcS.mp (v i hi) with q|q
  ·exact absurd q G
  ·exact q
theorem split_most {l:Nat->Int} (w0:∀ j,j<k+k+N->0<=l j) (rows:∀ r,r<N+N->(sumN (k+k+N) λj=>l j*spR N k V r j)<=0) (gain:0<sumN (k+k+N) λj=>l j*spG k j):False:=by
 have u:(sumN (k+k+N) λj=>l j*spG k j)=0:=by
  rw[sumN_append,sumN_congr λr g=>by unfold spG;rw[iFP g,qa7],sumN_zero,qcc,sumN_congr λi hi=>?_,sumN_zero];have a:=rows (N+i) (by omega);rw[sp_lim hi]at a;have b:=w0 (k+k+i) (by omega);rw[show l _=0 by omega,qbV]
 omega
end
end Sx
set_option maxHeartbeats 1000000
namespace Own
open PySem L2
open Sx (Pb Tb Good Named Fe LV ZV piv lexP leastR leaveL sumN unit colV basis)
theorem ge (h:a env st=some (ws,s)) (hd:qP ws=some ds) (b:ds.length<=1000:=by decide):a8 a env st=some (.d (.tup ds),s) :=by
 simp only[a8,h,hd,b,qac,if_true]
theorem xG (h:a env st=some (ws,s)) (hd:qP ws=some ds) (b:ds.length<=1000:=by decide):bm a env st=some (ds,s) :=by
 simp only[bm,h,hd,b,qac,if_true]
theorem GB (s) (h:qbW a b):aR s (.d (.int a)) (.d (.int b))=some (.int (a*b)) :=iFP h
theorem Ah (s) (h:0<b):fk s (.d (.int a)) (.d (.int b))=some (.int (a%b)) :=iFP h
theorem D9 (s) (h:0<b/\b<1073741824):gN s (.d (.int a)) (.d (.int b))=some (.int (a / b)) :=iFP h
theorem AI (a:0<=k) (h:k<=60):dU [.d (.int k)] st=some (.d (.int (2^k.toNat)),st) :=by
 obtain⟨c,f,b,o,rfl,rfl⟩:=bI (g:=.nm 2) (body:=fC) (λi env s=>∃ o,env=[Z (.int k),Z (.int (2^i)),o]/\s=st)
  ⟨none,U,U⟩ (λi d env s hd ⟨o,e,es⟩=>by
   subst e es;obtain⟨rfl,hi⟩:=C4 hd;refine⟨_,[some _,some _,Z (.int i)],s,U,.inl ?_,_,U,U⟩
   exact ao (ac U U (GB _ (cM (by decide)))))
 rw[ki]at b;exact ax U (mS (ao U) (mS (bg (jr U a (by lia) U) b) (aC U)))
theorem yT (h:j<=20):(0:Int)<2^j/\(2:Int)^j<1073741824 :=by
 have a:∀ m ,m<=20->2^m<=2^20:=λm hm=>qbq (by decide) hm;have b:=a j h;have c:0<2^j:=qgu (by decide);lia
theorem Cv (a:0<=k) (b:k<=20):se [.d (.int row),.d (.int k)] st=some (.d (.int (onI row k)),st) :=by
 have h:=yT (j:=k.toNat) (by lia);exact ax U (aC (ac (ac U (ai U (AI a (by lia))) (D9 _ ⟨h.1,h.2⟩)) U (Ah _ (by decide))))
def a9 (b:Bool) (t:List Int) (row:Int):Int:=if b=true then (if eV row t=(t.length:Int) then 1 else 0) else (if eV row t%2=1 then -1 else 1)
def aF (b:Bool):Str:=if b=true then "both" else "odd"
theorem pX (b):(aF b==("both"))=b :=by cases b<;>decide
theorem Bt (j:∀ k∈t,0<=k/\k<=20) (n:t.length<=1000):jo [.d (.str (aF b)),.d (ak t),.d (.int row)] st=some (.d (.int (a9 b t row)),st) :=by
 have a:lcI (.nm 0) aJ dn [none,some _] _ st=some ((t.map D.int).map λd=>match d with|.int k=>.int (onI row k)|d=>d,st):=rX _ λd hd=>by
  obtain⟨k,i,rfl⟩:=qaJ.mp hd;exact⟨_,U,ai U (Cv (j k i).1 (j k i).2)⟩
 have l:((t.map D.int).map λd=>match d with|.int k=>.int (onI row k)|d=>d)=(t.map (onI row)).map D.int:=by rw[qaM,qaM];rfl
 rw[l]at a;have c:=Hb st (t.map (onI row));rw[tT]at c;have g:(t.map D.int).length<=1000000:=by rw[qah];lia
 have e:aV st [.d (ak t)]=some (.int (t.length)):=by
  show some (D.int _)=_;rw[qah]
 have f:dEq st (.d (.str (aF b))) (.d (.str "both"))=some (.bl b):=by rw[Dt,pX]
 have m:a9 b t row=if b=true then (if (eV row t==(t.length))=true then 1 else 0) else (if (eV row t%2==(1))=true then -1 else 1):=by simp only[a9,beq_iff_eq]
 rw[m];have first:∀ (tl:Sf) (r:Option Fl),tl [Z (.str (aF b)),Z (ak t),Z (.int row),Z (.int (eV row t))] st=r->ag (aB (.nm 3) (iCB lS (aa (ap (iLc 1 [2] (aA (iV 1)) (.nm 0) aJ dn)) ae))) tl [Z (.str (aF b)),Z (ak t),Z (.int row),none] st=r:=λtl r h=>by
  have q:aB (.nm 3) (iCB lS (aa (ap (iLc 1 [2] (aA (iV 1)) _ aJ dn)) ae)) [some _,some _,some _,none] st=some (.nx [Z (.str (aF b)),Z (ak t),some _,some _] st):=ao (ar (ab (aq (aH (aX U) g a)) U) c);simp only[ag,q,qac,h]
 generalize aF b=kd at *;cases b with
 |true=>
  cases hq:(eV row t==_) with
  |true=>exact ax U (first _ _ (xH (DK (aj U U f) (aC (oJ (aj U (ar U e) (by rw[cy,hq])) U)))))
  |false=>exact ax U (first _ _ (xH (DK (aj U U f) (aC (sI (aj U (ar U e) (by rw[cy,hq])) U)))))
 |false=>
  cases hq:(eV row t%2==_) with
  |true=>exact ax U (first _ _ (mS (DJ (aj U U f) U) (aC (oJ (aj (ac U U (Ah _ (by decide))) U (by rw[cy,hq])) U))))
  |false=>exact ax U (first _ _ (mS (DJ (aj U U f) U) (aC (sI (aj (ac U U (Ah _ (by decide))) U (by rw[cy,hq])) U))))
theorem xQ (b:fs.length<=1000):bP [.d (.tup fs)] st=some (.d (.tup ((bD 0 fs).map D.int)),st) :=by
 have a:lcI (.tp [0,1]) fg eW [none,none] (bE 0 fs) st=some (((bE 0 fs).filter C5).map Fk,st):=jZ _ _ λd hd=>by
  obtain⟨i,hi⟩:=List.mem_iff_getElem?.mp hd;rw[cD]at hi;obtain⟨e,c,rfl⟩:=qad.mp hi;exact⟨_,U,by simp only[fg,C5,iV,iC,aE,oP,yc,tX,cU,qac,qap,qbG,qb1,qhT,qhU,qbg],λ_=>by simp only[eW,Fk,iV,oP,qap,qbG,qhT,qhU,qbg]⟩
 rw[oY]at a;have hz:(bE 0 fs).length<=1000000:=by rw[kG];lia
 simp only[bP,lq,iV,ae,aa,iCB,ap,aN,iLc,bN,bz,jI,gG,dk,qac,qap,qbG,qaz,qdu,qat,qcO,qd4,qd3,qdW,qd5,qfG,if_true,qbg,lg,a,hz]
theorem xK {j:Nat}(hd:fs[j]?=some d) (a:mX d) (hn:d≠.non):dB [.d (.tup fs),.d (.int (j))] st=some (.d (.int (sgD d)),st) :=by
 have e:atI fs (j:Int)=some d:=di hd;rcases a with rfl|rfl|rfl
 ·exact absurd U hn
 ·simp only[dB,kB,iV,iC,iOp,aE,iUn,eY,aN,bz,yc,gG,dIx,dEq,n4,eqK,eqD,gA,qac,qap,qbG,qb1,qaz,qdu,qat,qcO,qd3,qdW,qd5,qg6,qfG,if_true,if_false,qbs,qbg,lg,qg9,e,sgD,show ((0:Int)==1)=false by decide,show ¬ (0:Int)=1 by decide]
 ·simp only[dB,kB,iV,iC,iOp,aE,iUn,eY,aN,bz,yc,gG,dIx,dEq,n4,eqK,eqD,gA,qac,qap,qbG,qb1,qaz,qdu,qat,qcO,qd3,qdW,qd5,qg6,qfG,if_true,qbg,lg,qg9,e,sgD,show ((1:Int)==1)=true by decide]
theorem G6 :sgD d=1\/sgD d=-1 :=by
 unfold sgD;split
 ·split
  ·exact .inl U
  ·exact .inr U
 ·exact .inl U
theorem yY {j:Nat}(hd:fs[j]?=some d) (g:mX d) (hn:d≠.non) (f:∀ k∈t,0<=k/\k<=20) (i:t.length<=1000) :
  cu [.d (.tup fs),.d (.str (aF b)),.d (ak t),.d (.int (j))] st=some (.d (.int (sgD d*a9 b t j)),st) :=by
 have e:=xK (st:=st) hd g hn;have a:=Bt (st:=st) (b:=b) (row:=j) f i;have c:qbW (sgD d) (a9 b t j):=cL (by rcases G6 (d:=d) with h|h<;>(rw[h];decide));generalize aF b=kd at a ⊢;generalize ak t=tt at a ⊢;simp only[cu,gI,iV,iOp,ae,aa,az,aN,bz,aR,qac,qap,qbG,qb1,qaz,qdu,qat,qcO,qd3,qdW,qd5,qg6,qfG,if_true,qbg,qg9,e,a,c]
end Own
set_option maxHeartbeats 1000000
namespace Own
open PySem L2
open Sx (Pb Tb Good Named Fe LV ZV piv lexP leastR leaveL sumN unit colV basis)
theorem iN {α b:Type} (a) (F:α->b) (l:List α):l.map F=(qak l.length).map λi=>F (l.getD i a) :=by
 apply qa6;intro i;rw[qay,qay];by_cases h:i<l.length
 ·rw[qaS h,qai h,qap,qap,qau,qai h];rfl
 ·rw[qav (by lia),qav (by rw[qaq];lia)];rfl
theorem oz (c:∀ i,i<n->g i=f i) (b:∀ i,i<l->g (n+i)=h i):mpI n f++mpI l h=mpI (n+l) g :=by
 apply qa6;intro i;by_cases q:i<n
 ·rw[qaH (by rw[av];exact q),aU q,aU (by lia),c i q]
 ·rw[qaI (by rw[av];lia),av]
  by_cases a:i<n+l
  ·rw[aU (by lia),aU a,<-b _ (by lia),show n+_=i by lia]
  ·rw[qav (by rw[av];lia),qav (by rw[av];lia)]
theorem vX (c):∀ n,(qaG n [D.int c]).flatten=mpI n λ_=>c
 |0=>rfl
 |n+1=>by rw[ox,qhq,qhB,vX c n];rfl
theorem vD {α:Type}{l:Ev}{g} (F):∀ {a:List α},(∀ k∈a,te (Z (g k)::l) st=some (.d (F k),st))->lcI (.nm 0) aJ te (none::l) (a.map g) st=some (a.map F,st)
 |[],_=>rfl
 |k::a,h=>by
  rw[qaz];unfold lcI;rw[show cx _ _ _=some (some _::l) from U,qac,show aJ _ st=some (true,st) from U,qac,(h k qag),qac,(vD F λx hx=>h x (qaj _ hx))];rfl
theorem wv (F) (n):bE 0 ((qak n).map F)=(qak n).map λi:Nat=>D.tup [.int ((i)),F i] :=by
 apply qa6;intro i;rw[cD,qay,qay];by_cases hi:i<n
 ·rw[qaS hi,qap,qap,qap,qbg]
 ·rw[qav (by rw[qaq];lia)];rfl
structure Spl (fs:List D) (ts:List (List Int)):Prop where
 fl:fs.length<=16
 fv:∀ d∈fs,mX d
 tl:ts.length<=16
 tt:∀ t∈ts,(∀ k∈t,0<=k/\k<=20)/\t.length<=20
 nd:ts.Nodup
def nR (fs:List D):Nat:=(bD 0 fs).length
def kj (fs:List D) (i:Nat):Int:=(bD 0 fs).getD i 0
def spV (fs:List D) (b:Bool) (a:List (List Int)) (i t:Nat):Int:=sgD (fs.getD (kj fs i).toNat .non)*a9 b (a.getD t []) (kj fs i)
def tsD (a:List (List Int)):D:=.tup (a.map ak)
section
variable {fs:List D}{b:Bool}{a:List (List Int)}
theorem Spl.n (h:Spl fs a):nR fs<=16:=qaN (qi fs 0) h.fl
theorem v4 (h:Spl fs a) (n:j∈bD 0 fs):∃ (m:Nat) (d:D),j=(m)/\m<fs.length/\fs[m]?=some d/\mX d/\d≠.non/\fs.getD j.toNat .non=d :=by
 obtain⟨m,e,hm,hn⟩:=lc fs 0 n;rw[qbg]at e;have hd:=qai hm;refine⟨m,_,e,hm,hd,h.fv _ (qbC hm),λq=>hn (by rw[hd,q]),?_⟩;rw[e,qbc,qau,hd];rfl
theorem uO (h:Spl fs a):c9 [.d (.tup fs),.d (.str (aF b)),.d (tsD a)] st=some (.d (.lst ((qak (nR fs)).map λi=>D.lst (mpI a.length (spV fs b a i)))),st) :=by
 have p:∀ j∈bD 0 fs,lcI _ aJ eA [none,some _,some _,Z _] _ st=some (a.map λt=>D.int (sgD (fs.getD j.toNat .non)*a9 b t j),st):=λj n=>by
  obtain⟨m,d,rfl,hm,hd,r,hn,hg⟩:=v4 h n;refine vD (g:=ak) _ λt l=>?_;rw[hg];exact ai (ab U (ab U (ab U (ab U U)))) (yY hd r hn (h.tt t l).1 (by have:=(h.tt t l).2;lia))
 have o:lcI _ aJ eB [none,some _,some _,some _] _ st=some ((bD 0 fs).map λj=>D.lst _,st):=
  vD _ λj n=>aq (aH (aX U) (by rw[qah];have:=h.tl;lia) (p j n))
 have e:((bD 0 fs).map λj=>D.lst (a.map λt=>D.int (sgD (fs.getD j.toNat .non)*a9 b t j)))=(qak (nR fs)).map λi=>D.lst (mpI a.length (spV fs b a i)):=by
  rw[iN 0 _ _];refine qcf λi _=>?_;rw[iN [] _ a];rfl
 rw[e]at o;exact ax U (aC (aq (aH (aX (ai U (xQ (by have:=h.fl;lia)))) (by rw[qah];have:=h.n;unfold nR at this;lia) o)))
theorem An {i N:Nat} (hN:N<=100):j6 [.d (.int (i)),.d (.int (N))] st=some (.d (.lst (mpI N λj=>if j=i then 1 else 0)),st) :=by
 exact ax U (aC (aq (aH (jr U (by lia) (by lia) (by lia)) (by unfold cW;rw [qah,qaq];lia) (gx (λj=>D.int _) λj _=>by
   have c:aE dEq (iV 0) (iV 1) [Z (.int (0+((j)))),Z (.int (i))] st=some (decide (j=i),st):=by
    have e:((0+((j)))==(i:Int))=decide (j=i):=by lia
    refine aj U U ?_;rw[cy,e]
   by_cases q:j=i
   ·rw[iFP q];rw[decide_eq_true q]at c;exact oJ c U
   ·rw[iFN q];rw[decide_eq_false q]at c;exact sI c U))))
theorem Dj (s:k<=100):ii [.d (.lst (mpI k f))] st=some (.d (.lst (mpI k f++mpI k λt=>- f t)),st) :=by
 have o:lcI _ aJ i6 [none] (mpI k f) st=some (mpI k λt=>- f t,st):=gx _ λt _=>rfl;exact ax U (aC (ac (aq (U)) (aq (aH (aT U) (by rw[av];lia) o)) (fL _ (by rw[av,av];lia))))
end
end Own
set_option maxHeartbeats 1000000
namespace Own
open PySem L2
open Sx (Pb Tb Good Named Fe LV ZV piv lexP leastR leaveL sumN unit colV basis)
theorem Fj {α:Type} (F:Nat->α) (n l):(qak n).map F++(qak l).map (λi=>F (n+i))=(qak (n+l)).map F :=by
 apply qa6;intro i;by_cases q:i<n
 ·rw[qaH (by rw[qah,qaq];exact q),qay,qay,qaS q,qaS (by lia)]
 ·rw[qaI (by rw[qah,qaq];lia),qay,qay,qah,qaq]
  by_cases a:i<n+l
  ·rw[qaS (by lia),qaS a,qap,qap,show n+_=i by lia]
  ·rw[qav (by rw[qaq];lia),qav (by rw[qaq];lia)];rfl
theorem kc (s) (c) {n:Nat} (hn:n<1000):aR s (.d (.tup [.int c])) (.d (.int (n)))=some (.tup (mpI n λ_=>c)) :=by
 show (if _ then some _ else none)=_;rw[iFP ⟨by simp,by show 1<=1000;decide,by lia,by lia⟩,qbc,vX]
theorem Aj (s) (c) {n:Nat} (hn:n<1000):aR s (.d (.lst [.int c])) (.d (.int (n)))=some (.lst (mpI n λ_=>c)) :=by
 show (if _ then some _ else none)=_;rw[iFP ⟨by show 1<=1000;decide,by lia,by lia⟩,qbc,vX]
theorem DR (s) (k:Nat):aR s (.d (.int 2)) (.d (.int (k)))=some (.int ((k+k:Nat))) :=by
 rw[be s (cL (by decide)),show _*_=((k+k:Nat):Int) by lia]
section
variable {fs:List D}{b:Bool}{a:List (List Int)}{N k:Nat}{V:Nat->Nat->Int}
theorem yq (hN:N<=16) (v:k<=16):lcI (.tp [0,1]) aJ jH [none,none,Z (.int (N))] ((qak N).map λi:Nat=>D.tup [.int ((i)),.lst (mpI k (V i))]) st=some ((qak N).map λi=>D.lst (mpI (k+k+N) (Sx.spR N k V i)),st) :=
 z7 (g:=λi=>(D.int _,D.lst _)) _ λi hi=>by
  have q:=qaD.mp hi;have H:mpI k _++mpI k (λt=>- - V i t)=mpI _ (Sx.spR N k V i):=oz (λt s=>by unfold Sx.spR;rw[iFP q,iFP s]) (λt s=>by unfold Sx.spR;rw[iFP q,iFN (by lia),iFP (by lia),qaK,Int.neg_neg]);have hw:=Dj (st:=st) (k:=k) (f:=λt=>- V i t) (by lia);rw[H]at hw;rw[<-(oz (λt s=>rfl) (λj l=>by unfold Sx.spR;rw[iFP q,iFN (by lia),iFN (by lia),qaK]))];exact ac (ai (ab (aq (aH (aT U) (by rw[av];lia) (gx _ λt _=>rfl))) U) hw) (ai (ab U (ab U U)) (An (st:=st) (i:=i) (N:=N) (by lia))) (fL _ (by rw[av,av];lia))
theorem yH (hN:N<=16) (v:a.length<=16):lcI (.nm 0) aJ fQ [none,Z (tsD a),Z (.int (N))] (cW 0 N) st=some ((qak N).map λi=>D.lst (mpI (a.length+a.length+N) (Sx.spR N a.length V (N+i))),st) :=
 gx _ λi hi=>by
  have o:aV st [.d (tsD a)]=some (.int (a.length)):=by
   show some (D.int _)=_;rw[qah]
  rw[<-(oz (λt s=>by unfold Sx.spR;rw[iFN (by lia),iFP s]) (λj l=>by unfold Sx.spR;rw[iFN (by lia),iFN (by lia),qaK,qaK])),qcc];exact ac (ac (aq (U)) (ac U (ar (ab U U) o) (DR st _)) (Aj st 0 (by lia))) (ai (ab U (ab U U)) (An (by lia))) (fL _ (by rw[av,av];lia))
theorem Fy (hN:N<=16) (v:k<=16) (C:∀ i t,(V i t).natAbs<=1):Inp (N+N) (k+k+N) (Sx.spR N k V) (Sx.spB N) (Sx.spG k):=by
 have one:∀ {z:Int},z.natAbs<=1->z.natAbs<=2^50:=λh=>qaN h (by decide);refine⟨by lia,by lia,λi c _ _=>one ?_,λi _=>⟨one ?_,?_⟩,λc _=>one ?_⟩
 ·unfold Sx.spR
  split
  ·split
   ·rw[qiQ];exact C _ _
   ·split
    ·exact C _ _
    ·split<;>decide
  ·split
   ·decide
   ·split<;>decide
 ·unfold Sx.spB;split<;>decide
 ·unfold Sx.spB;split<;>decide
 ·unfold Sx.spG;split<;>decide
structure FU (N k:Nat) (V:Nat->Nat->Int) (p:Int) (am pr:Nat->Int):Prop where
 bal:∀ t,t<k->(sumN N λi=>V i t*pr i)=0
 val:∀ i,i<N->0<=(sumN k λt=>(am t - am (k+t))*V i t)/\((sumN k λt=>(am t - am (k+t))*V i t)=0↔pr i≠0)
 sa:∀ j,j<k+k+N->Sm (am j)/\0<=am j
 sr:∀ i,i<N->Sm (pr i)/\0<=pr i
theorem G9 (M:BD (gF (N+N) (k+k+N) (Sx.spR N k V) (Sx.spB N) (Sx.spG k)) x):∃ p am pr,FU N k V p am pr/\x=.tup [.str "most",.int p,.tup (mpI (k+k+N) am),.tup (mpI (N+N) pr)] :=by
 have y:∀ {r j:Nat},r<N+N->j<k+k+N->(gF _ _ _ (Sx.spB N) (Sx.spG k)).A j r=Sx.spR N k V r j:=λm l=>by
  show (if _<k+k+N then _ else _)=_;rw[iFP l,iFP m]
 have E:∀ {r:Nat},r<N+N->(gF _ (k+k+N) (Sx.spR N k V) _ (Sx.spG k)).b r=Sx.spB N r:=λm=>iFP m;have pg:∀ {j:Nat},j<k+k+N->(gF (N+N) _ (Sx.spR N k V) (Sx.spB N) _).g j=Sx.spG k j:=λl=>iFP l;cases M with
 |beyond w M=>
  exfalso
  refine Sx.split_most (V:=V) M.w0 (λr m=>?_) ?_
  ·have:=M.rows r m
   rw[Sx.sumN_congr (g:=λj=>w j*(gF _ _ _ _ _).A j r) λj l=>by rw[y m l]];exact this
  ·have:=M.gain
   rw[Sx.sumN_congr (g:=λj=>w j*(gF _ _ _ _ _).g j) λj l=>by rw[pg l]];exact this
 |most p am pr M=>
  have c:=Sx.split_core M.p1 M.am0 M.pr0 (λr m=>by
   have:=M.rows r m
   rw[E m]at this;rw[Sx.sumN_congr (g:=λj=>am j*(gF _ _ _ _ _).A j r) λj l=>by rw[y m l]];exact this) (λj l=>by
   have:=M.cols j l
   rw[pg l]at this;rw[Sx.sumN_congr (g:=λr=>(gF _ _ _ _ _).A j r*pr r) λr m=>by rw[y m l]];exact this) (by
   have:=M.same
   rw[Sx.sumN_congr (g:=λr=>(gF _ _ _ _ _).b r*pr r) λr m=>by rw[E m],Sx.sumN_congr (n:=k+k+N) (g:=λj=>am j*(gF _ _ _ _ _).g j) λj l=>by rw[pg l]]
   exact this)
  exact⟨p,am,pr,⟨c.1,c.2,λj l=>⟨M.sa j l,M.am0 j l⟩,λi hi=>⟨M.sr i (show i<N+N by lia),M.pr0 i (show i<N+N by lia)⟩⟩,U⟩
theorem Fv (i t):(spV fs b a i t).natAbs<=1 :=by
 unfold spV;rw[qdr];have K:(sgD (fs.getD (kj fs i).toNat .non)).natAbs<=1:=by rcases G6 with h|h<;>rw[h]<;>decide
 have I:(a9 b (a.getD t []) (kj fs i)).natAbs<=1:=by
  unfold a9;split<;>split<;>decide
 exact qaN (qdn K I) (by decide)
theorem Gx (h:Spl fs a) (hN:0<nR fs):∃ p am pr,FU (nR fs) a.length (spV fs b a) p am pr/\∀ (st) (G),∃ u,
  ag (aB (.nm 6) (ap (iLc 1 [2,4] (bA (aa (iV 4) ae)) (.nm 0) aJ fQ))) (aB (.nm 7) (az iJ (aa (iCB dk (aa (ap (iLc 1 [] (aA (iOp aZ (iV 5) (iV 6))) (.nm 0) aJ fP)) ae)) (aa (iOp aZ (iOp aR (a8 (aa (iC (.int 0)) ae)) (iV 4)) (iOp aR (a8 (aa (iC (.int 1)) ae)) (iV 4))) (aa (iOp aZ (iOp aR (a8 (aa (iC (.int 0)) ae)) (iOp aR (iC (.int 2)) (iCB aV (aa (iV 2) ae)))) (iOp aR (a8 (aa (iC (.int 1)) ae)) (iV 4))) ae)))))
   [Z (.tup fs),Z (.str (aF b)),Z (tsD a),Z (.lst ((qak (nR fs)).map λi=>D.lst (mpI a.length (spV fs b a i)))),Z (.int (nR fs)),Z (.lst ((qak (nR fs)).map λi=>D.lst (mpI (a.length+a.length+nR fs) (Sx.spR (nR fs) a.length (spV fs b a) i)))),none,G] st
   = some (.nx [Z (.tup fs),Z (.str (aF b)),Z (tsD a),Z (.lst ((qak (nR fs)).map λi=>D.lst (mpI a.length (spV fs b a i)))),Z (.int (nR fs)),Z (.lst ((qak (nR fs)).map λi=>D.lst (mpI (a.length+a.length+nR fs) (Sx.spR (nR fs) a.length (spV fs b a) i)))),Z (.lst ((qak (nR fs)).map λi=>D.lst (mpI (a.length+a.length+nR fs) (Sx.spR (nR fs) a.length (spV fs b a) (nR fs+i))))),Z (.tup [.str "most",.int p,.tup (mpI (a.length+a.length+nR fs) am),.tup (mpI (nR fs+nR fs) pr)])] (st++u)) :=by
 have hn:=h.n;have v:=h.tl;obtain⟨x,M,_,hx⟩:=Cj (Fy hn v Fv);obtain⟨p,am,pr,B,rfl⟩:=G9 M;refine⟨p,am,pr,B,λst G=>?_⟩;obtain⟨u,e⟩:=hx st;refine⟨u,?_⟩;have o:aV st [.d (tsD a)]=some (.int (a.length)):=by
  show some (D.int _)=_;rw[qah]
 have J:=yH (st:=st) (V:=spV fs b a) hn v;have hb:mpI _ _++mpI (nR fs) _=mpI _ (Sx.spB (nR fs)):=oz (λi hi=>by unfold Sx.spB;rw[iFP hi]) (λi hi=>by unfold Sx.spB;rw[iFN (by lia)]);have hg:mpI _ _++mpI (nR fs) _=mpI _ (Sx.spG a.length):=oz (λi hi=>by unfold Sx.spG;rw[iFP hi]) (λi hi=>by unfold Sx.spG;rw[iFN (by lia)]);have m:=Fj (λr=>D.lst (mpI (a.length+a.length+nR fs) (Sx.spR (nR fs) a.length (spV fs b a) r))) (nR fs) (nR fs);have s:lcI _ aJ fP [none] _ st=some ((qak (nR fs+nR fs)).map λr=>D.tup _,st):=
  gx (g:=λr=>D.lst (mpI (a.length+a.length+nR fs) (Sx.spR (nR fs) a.length (spV fs b a) r))) _ λr _=>rfl
 generalize nR fs=N at *;generalize a.length=k at *;generalize spV fs b a=V at *;generalize ((qak N).map λi=>D.lst (mpI _ (Sx.spR N k V i)))=L5 at *;generalize ((qak N).map λi=>D.lst _)=L6 at *;have F:L5.length+L6.length<=1000000:=by
  have:=congrArg qfg m
  rw[qaA,qah,qaq]at this;lia
 refine ah (ao (aq (aH (jr U (by lia) (by lia) (by lia)) (by unfold cW;rw[qah,qaq];lia) J))) (ao (ai (ab (ar (ab (aq (aH (aT (ac U U (fL _ F))) (by rw[qaA];exact F) ?_)) U) U) (ab (ac (ac U U (kc st 0 (by lia))) (ac U U (kc st 1 (by lia))) ((zk _ (by rw[av,av];lia)).trans (by rw[hb]))) (ab (ac (ac U (ac U (ar (ab U U) o) (DR st _)) (kc st 0 (by lia))) (ac U U (kc st 1 (by lia))) ((zk _ (by rw[av,av];lia)).trans (by rw[hg]))) U))) e));rw[m];exact s
end
end Own
set_option maxHeartbeats 1000000
namespace Own
open PySem L2
open Sx (Pb Tb Good Named Fe LV ZV piv lexP leastR leaveL sumN unit colV basis)
theorem HN (h:∀ x∈ns,x=0):cR 0 ns=0 :=by
 have c:=λx hx=>qc7.mpr ((cS 0 ns).2 x hx)
 induction ns with
 |nil=>rfl
 |cons x ns b=>
  have hx:=h x qag;subst hx;exact b (λy a=>h y (qaj _ a)) (λy a=>qc7.mpr ((cS 0 ns).2 y a))
theorem Cf (m:∀ i,i<n->Sm (f i)) (hn:n<=1000):∃ (q:Int) (g:Nat->Int),0<q/\(∀ i,i<n->f i=q*g i)/\∀ st,cG [.d (.tup (mpI n f))] st=some (.d (.tup (mpI n g)),st) :=by
 have hb:∀ x∈(qak n).map f,Sm x:=λx hx=>by
  obtain⟨i,hi,rfl⟩:=qaJ.mp hx;exact m i (qaD.mp hi)
 have b:=λst=>wD (st:=st) (λ_ _=>by rw[<-bC];exact aX U) hb;by_cases hz:∀ x∈(qak n).map f,x=0
 ·refine⟨1,f,by decide,λi _=>(qc0 _).symm,λst=>?_⟩
  have e:=b st;rw[HN hz]at e;exact ax U (ah (ao (ai U e)) (dY (cw U U)))
 ·obtain⟨x,hx,x0⟩:∃ x∈(qak n).map f,x≠0:=by
   by_cases q:∃ x∈(qak n).map f,x≠0
   ·exact q
   ·exact absurd (λx hx=>qfX λh=>q ⟨x,hx,h⟩) hz
  obtain⟨c,k⟩:=kJ hx x0 (hb x hx);have gd:∀ i,i<n->_∣f i:=λi hi=>qc7.mpr ((cS 0 _).2 _ (qaJ.mpr ⟨i,qaD.mpr hi,U⟩));generalize ((cR 0 _):Int)=q at *;refine⟨q,_,c,λi hi=>(qd1 (gd i hi)).symm,λst=>?_⟩;have j:(q==(0))=false:=by lia
  have a:=qO (st:=st) (ns:=(qak n).map f) c k U;rw[<-bC,qaM,qaM]at a;have l:(mpI n f).length<=1000000:=by rw[av];lia
  exact ax U (ah (ao (ai U (b st))) (ah (bn (aj U U (by rw[cy,j])) U) (aC (ar (ab (aq (aH (aX U) l a)) U) U))))
def rN (fs:List D) (i:Nat):Nat:=(kj fs i).toNat
section
variable {fs:List D}{b:Bool}{x:List (List Int)}
theorem xP:∀ (r) (i),(bD i r).Nodup
 |[],_=>qdk
 |d::r,i=>by
  have B:=xP r (i+1);have w:∀ j∈bD _ r,(i)≠j:=λj t=>by
   obtain⟨m,e,_,_⟩:=lc r (i+1) t;lia
  cases d<;>first|exact B|exact (qcr.mpr ⟨λhm=>w _ hm U,B⟩)
theorem Bc (hi:i<nR fs):kj fs i∈bD 0 fs :=by
 unfold kj;rw[qau,qai hi];exact qbC hi
theorem qh (h:Spl fs x) (hi:i<nR fs):kj fs i=(rN fs i)/\rN fs i<fs.length :=by
 obtain⟨m,d,e,hm,_⟩:=v4 h (Bc hi);unfold rN;rw[e];exact⟨U,hm⟩
theorem vZ (h:Spl fs x) (hi:i<nR fs) (t:j<nR fs) (e:rN fs i=rN fs j):i=j :=by
 have p:kj fs i=kj fs j:=by rw[(qh h hi).1,(qh h t).1,e]
 unfold kj at p;rw[qau,qau,qai hi,qai t]at p;exact (qdV (xP fs 0)).mp p
theorem Bv (h:Spl fs x) (hm:m=nR fs\/m=0):dz [.d (.tup fs),.d (.tup (mpI m y))] st=some (.d (.tup (mpI fs.length λr=>acc (rN fs) y m r)),st) :=by
 have F:=h.fl;have hz:∀ (u c f:Option W) (s:Sto),bP [.d (.tup fs)] s=some (.d (.tup _),s)->cp (aa (az bP (aa (iV 0) ae)) (aa (iV 1) ae)) [Z (.tup fs),Z (.tup (mpI m y)),u,c,f] s=some ((qak m).map λi=>D.tup [.int _,.int (y i)],s):=λu c f s G=>by
  have p:cg ((bD 0 fs).map D.int) (mpI m y)=(qak m).map λi=>D.tup [.int ((rN fs i):Int),.int (y i)]:=by
   apply qa6;intro i;rw[d6,qay,qay];by_cases hi:i<m
   ·rw[aU hi,qaS hi]
    have q:i<(bD 0 fs).length:=by have:nR fs=(bD 0 fs).length:=rfl;lia
    have e:=(qh h (show i<nR fs by lia)).1;unfold kj at e;rw[qau,qai q]at e;rw[qai q,qap,qap,<-e];rfl
   ·rw[qav (l:=mpI m y) (by rw[av];lia),qav (l:=qak m) (by rw[qaq];lia)]
    cases (bD 0 fs)[i]?<;>rfl
  rw[<-p]
  have:=ab (ai (a:=aa (iV 0) ae) (env:=[some _,Z (.tup (mpI m y)),u,c,f]) U G) (ab (a:=iV 1) (b:=ae) U U)
  simp only[cp,this,qac];rfl
 obtain⟨A,H,C,⟨c,f,rfl⟩,rfl⟩:=bI (g:=.tp [3,4]) (ds:=(qak m).map λi=>D.tup [.int _,.int (y i)])
  (λi env s=>(∃ c f,env=[Z (.tup fs),Z (.tup (mpI m y)),some (.h st.length),c,f])/\s=st++[.l (mpI fs.length λr=>acc (rN fs) y i (0+r))])
  ⟨⟨_,_,U⟩,U⟩ (λi d env s hd ⟨⟨c,f,e⟩,es⟩=>by
   subst e es;obtain⟨hi,rfl⟩:=ow hd;refine⟨_,_,_,U,.inl ?_,⟨some (.d (.int ((rN fs i:Nat):Int))),Z (.int (y i)),U⟩,U⟩
   have:=sIx (k:=rN fs i) (env:=[Z (.tup fs),Z (.tup (mpI m y)),some (.h st.length),Z (.int ((rN fs i:Nat):Int)),Z (.int (y i))]) (v:=iV 4) (d:=.int (y i)) (st:=st) (xs:=mpI fs.length λr=>acc (rN fs) y i (0+r)) U (o:=iV 2) (i:=iV 3) U U (by rw[av];exact ((qh h (show i<nR fs by lia)).2))
   rw[<-qp (by lia) λj t e=>by have:=vZ h (show j<nR fs by lia) (show i<nR fs by lia) e;lia]
   exact this)
 rw[qah,qaq]at C;have z:=xQ (st:=st++[.l (mpI fs.length λr=>acc (rN fs) y 0 (0+r))]) (fs:=fs) (by lia);have E:iCB dk (aa (iV 2) ae) [Z (.tup fs),Z (.tup (mpI m y)),some (.h st.length),c,f] (st++[.l (mpI fs.length λr=>acc (rN fs) y m (0+r))])=some (.d (.tup (mpI fs.length λr=>acc (rN fs) y m (0+r))),st++[.l (mpI fs.length λr=>acc (rN fs) y m (0+r))]):=by
  refine ar (ab U U) ?_;show (lg (st++[.l (mpI fs.length λr=>acc (rN fs) y m (0+r))]) st.length).map _=_;rw[(dQ st (mpI fs.length λr=>acc (rN fs) y m (0+r)))];rfl
 have:=dX (n:=5) (b:=jC) (ws:=[.d _,.d _]) U (ah (ao (iL (ar (ab U U) U) (by lia) _ y 0)) (ah (bg (hz _ _ _ _ z) C) (aC E)))
 rw[qdR]at this;simp only[qbg]at this;exact this
end
end Own
set_option maxHeartbeats 1000000
namespace Own
open PySem L2
open Sx (Pb Tb Good Named Fe LV ZV piv lexP leastR leaveL sumN unit colV basis)
theorem sW (k) (d) (r) (t):vM ((k,d)::r) t=if k=t then some d else vM r t :=by
 unfold vM;by_cases e:k=t
 ·rw[qeO (by simpa using e),iFP e];rfl
 ·rw[qeP (by simpa using e),iFN e]
theorem BI (a:List (List Int×D)) (k):(a.any λp=>decide (p.1=k))=decide (k∈a.map qdg) :=by
 induction a with
 |nil=>rfl
 |cons p r b=>
  rw[qco,b];by_cases e:p.1=k
  ·simp[e]
  ·have:¬ k=p.1:=λz=>e z.symm
   simp[e,this]
theorem Bs (k:List Int) (d:D) (j:List Int):∀ a:List (List Int×D),k∉a.map qdg->vM (a++[(k,d)]) j=if j=k then some d else vM a j
 |[],_=>by
  show vM [(k,d)] j=_;rw[sW];by_cases e:k=j
  ·rw[iFP e,iFP e.symm]
  ·rw[iFN e,iFN (λz=>e z.symm)]
 |(c,f)::r,h=>by
  rw[qaz,qaw,not_or]at h;rw[qdW,sW,sW,Bs k d j r h.2];by_cases b:c=j
  ·rw[iFP b,iFP b,iFN (λz=>h.1 (z.symm.trans b.symm))]
  ·rw[iFN b,iFN b]
theorem BV (s) (a):dNe s (.d (.int a)) (.d (.int 0))=some (.bl (decide (a≠0))) :=by
 show some (D.bl (!(a==0)))=_;by_cases h:a=0<;>simp[h]
def a6 (a:List (List Int)) (X:List Int->Int):List Prt:=(a.filter λt=>decide (X t≠0)).map λt=>(t,X t)
theorem zK (hm:mgt st n=some a) (j:a.length<64) (m:∀ t∈a.map qdg,vM a t=some (.int (X t))) :
  ij [.d (.str kd),.h n] st=some (.d (bL kd (a6 (aD (a.map qdg)) X)),st) :=by
 have o:(aD (a.map qdg)).length<=64:=by rw[(aI _).length_eq,qah];lia
 have c:∀ t∈aD _,yy (iV 1) (iV 0) [Z (ak t),some (.h n)] st=some (.d (.int (X t)),st):=λt b=>by
  have p:=(λt b=>m t ((aI _).mem_iff.mp b)) t b;simp only[yy,iV,ak,qbG,qb1,qap,qac,hm,(bh t),p]
 have f:=jZ (g:=.nm 0) (tt:=jd) (te:=i7) (env:=[none,some _]) (λd=>match d with|.tup ds=>(match a5 ds with|some t=>decide (X t≠0)|none=>false)|_=>false) (λd=>match d with|.tup ds=>(match a5 ds with|some t=>ce (t,X t)|none=>d)|d=>d) (ds:=(aD _).map ak) λd hd=>by
  obtain⟨t,b,rfl⟩:=qaJ.mp hd;have i:=bh t;refine⟨_,U,?_,λ_=>?_⟩
  ·show _=some ((match a5 _ with|some t=>decide _|none=>false),st)
   rw[i];exact aj (c t b) U (BV _ _)
  ·show _=some (W.d (match a5 _ with|some t=>ce (t,X t)|none=>ak t),st)
   rw[i];exact ge (ab U (ab (c t b) U)) U (by show 2<=1000;decide)
 have e:((((aD (a.map qdg)).map ak).filter (λd=>match d with|.tup ds=>(match a5 ds with|some t=>decide (X t≠0)|none=>false)|_=>false)).map (λd=>match d with|.tup ds=>(match a5 ds with|some t=>ce (t,X t)|none=>d)|d=>d))=(a6 (aD (a.map qdg)) X).map ce:=by
  unfold a6;rw[List.filter_map,qaM,qaM];have i:=bh
  congr 1
  ·funext t
   show (match a5 _ with|some t=>ce (t,X t)|none=>ak t)=ce (t,X t)
   rw[i]
  ·refine qh5 λt _=>?_
   show (match a5 _ with|some t=>decide _|none=>false)=_
   rw[i]
 rw[e]at f;have k:kK (iV 1) [Z (.str kd),some (.h n)] st=some ((aD (a.map qdg)).map ak,st):=by
  simp only[kK,iV,qbG,qb1,qap,qac,hm,j,if_true]
 have l:aA (ap (kK (iV 1))) [Z (.str kd),some (.h n)] st=some ((aD (a.map qdg)).map ak,st):=by
  simp only[aA,ap,k,qap,qac]
 have hz:((aD (a.map qdg)).map ak).length<=1000000:=by rw[qah];lia
 exact ax U (aC (ge (ab U (ab (ar (ab (aq (aH l hz f)) U) U) U)) U (by show 2<=1000;decide)))
theorem ut (st:Sto) (a):mgt (st++[.m a]) st.length=some a :=by
 unfold mgt;rw[qaI (qao _),qe3];rfl
theorem vE {α:Type}{l:Ev}{g:α->D×D} (F):∀ {a:List α},(∀ k∈a,te (Z (g k).1::some (.d (g k).2)::l) st=some (.d (F k),st))->
  lcI (.tp [0,1]) aJ te (none::none::l) (a.map λk=>D.tup [(g k).1,(g k).2]) st=some (a.map F,st)
 |[],_=>rfl
 |k::a,h=>by
  rw[qaz];unfold lcI;rw[show cx _ _ _=some (some _::some _::l) from U,qac,show aJ _ st=some (true,st) from U,qac,(h k qag),qac,(vE F λx hx=>h x (qaj _ hx))];rfl
end Own
set_option maxHeartbeats 1000000
namespace Own
open PySem L2
open Sx (Pb Tb Good Named Fe LV ZV piv lexP leastR leaveL sumN unit colV basis)
def dvP (g:Int) (p:Prt):Prt:=(p.1,p.2 / g)
theorem yQ (c:ps.length<=1000) (hg:∀ p∈ps,0<g/\Sm g):oo [.d (bL kd ps),.d (.int g)] st=some (.d (bL kd (ps.map (dvP g))),st) :=by
 have a:lcI (.tp [0,1]) aJ ny [none,none,Z (.int g)] (ps.map ce) st=some ((ps.map (dvP g)).map ce,st):=by
  rw[qaM];exact vE (g:=λp:Prt=>(ak p.1,D.int p.2)) _ λp b=>ge (ab U (ab (ac U U (qN st (hg p b).1 (hg p b).2)) U)) U (by show 2<=1000;decide)
 have hz:(ps.map ce).length<=1000000:=by rw[qah];lia
 exact ax U (aC (ge (ab (ac U U (rS _ _ _)) (ab (ar (ab (aq (aH (aX (ac U U (kQ _ _ _))) hz a)) U) U) U)) U (by show 2<=1000;decide)))
theorem yX (c:ps.length<=1000) (hn:∀ p∈ps,p.2≠0/\Sm p.2):oq [.d (bL kd ps)] st=some (.d (bL kd (ps.map (dvP ((cR 0 (ps.map qge)))))),st) :=by
 have b:lcI (.tp [0,1]) aJ nA [none,none] (ps.map ce) st=some ((ps.map qge).map D.int,st):=by
  rw[qaM];exact vE (g:=λp:Prt=>(ak p.1,D.int p.2)) _ λp a=>rfl
 have hz:(ps.map ce).length<=1000000:=by rw[qah];lia
 exact ax U (aC (ai (ab U (ab (ai (ab (aq (aH (aX (ac U U (kQ _ _ _))) hz b)) U) (nE (st:=st) λn hm=>by
  obtain⟨p,a,rfl⟩:=qaJ.mp hm
  exact (hn p a).2)) U)) (yQ (st:=st) (kd:=kd) c λp a=>kJ (qd6 a) (hn p a).1 (hn p a).2)))
theorem Cs (hd:∀ t∈a,g∣X t):(a6 a X).map (dvP g)=a6 a λt=>X t / g :=by
 unfold a6;rw[qaM]
 have:(a.filter λt=>decide (X t≠0))=a.filter λt=>decide (X t / g≠0):=qh5 λt b=>by
  apply decide_eq_decide.mpr;refine not_congr ⟨λh=>by rw[h,Int.zero_ediv],λh=>by rw[<-(qd1 (hd t b)),h,qa7]⟩
 rw[this];rfl
def pkv (a:List (List Int)) (x:Nat->Int) (i:Nat):List (List Int×D):=(qak i).map λj=>(a.getD j [],.int (x j))
section
variable {f:List (List Int)}{x:Nat->Int}
theorem ub (hn:f.Nodup) (hi:i<f.length) (l:j<f.length) (e:f.getD i []=f.getD j []):i=j :=by
 rw[qau,qau,qai hi,qai l]at e;exact (qdV hn).mp e
theorem xC (i):(pkv f x i).map qdg=(qak i).map λj=>f.getD j [] :=by unfold pkv;rw[qaM];rfl
theorem xB:(pkv f x f.length).map qdg=f:=by
 have:=iN [] id f
 rw[qhz]at this;rw[xC];exact this.symm
theorem AE (hn:f.Nodup) (hi:i<f.length):f.getD i []∉(pkv f x i).map qdg :=λh=>by
 rw[xC]at h;obtain⟨j,l,e⟩:=qaJ.mp h;have N:=qaD.mp l
 have:=ub hn (show j<f.length by lia) hi e
 lia
theorem uC (i):pkv f x (i+1)=pkv f x i++[(f.getD i [],.int (x i))] :=by unfold pkv;rw[qeX,qci];rfl
theorem CK (hn:f.Nodup) (hi:i<f.length):AR (pkv f x i) (f.getD i []) (.int (x i))=pkv f x (i+1) :=by
 rw[uC];unfold AR;rw[BI,iFN (by rw[decide_eq_true_iff];exact (AE hn hi))]
theorem AF (hn:f.Nodup):∀ {i j},i<=f.length->j<i->vM (pkv f x i) (f.getD j [])=some (.int (x j))
 |0,_,_,l=>absurd l (qcR _)
 |i+1,j,hi,l=>by
  rw[uC,Bs _ _ _ _ (AE hn (by lia))];by_cases e:j=i
  ·subst e;rw[iFP U]
  ·rw[iFN (λq=>e (ub hn (by lia) (by lia) q)),AF hn (by lia) (by lia)]
def iq (f:List (List Int)) (x:Nat->Int) (t:List Int):Int:=match vM (pkv f x f.length) t with|some (.int z)=>z|_=>0
theorem Ct (hn:f.Nodup) (l:j<f.length):iq f x (f.getD j [])=x j :=by
 unfold iq;rw[AF hn (qao _) l]
theorem j9 (h:t∈f):∃ j,j<f.length/\f.getD j []=t :=by
 obtain⟨j,l,e⟩:=qcK.mp h;exact⟨j,l,by rw[qau,qai l];exact e⟩
theorem GM {st:Sto}(hn:f.Nodup) (G:f.length<=16) (hm:f.length+f.length<=m) (hi:i<f.length) :
  gZ [a0,Z (tsD f),Z (.tup (mpI m am)),some (.h st.length),Z (.int (i)),Z (ak (f.getD i []))] (st++[.m (pkv f (λj=>am j - am (f.length+j)) i)])
  = some (.nx [a0,Z (tsD f),Z (.tup (mpI m am)),some (.h st.length),Z (.int (i)),Z (ak (f.getD i []))] (st++[.m (pkv f (λj=>am j - am (f.length+j)) (i+1))])) :=by
 have A:=ut st (pkv f (λj=>am j - am (f.length+j)) i);have T:=CK (x:=λj=>am j - am (f.length+j)) hn hi;have P:=kl st (.m (pkv f (λj=>am j - am (f.length+j)) i)) (.m (pkv f (λj=>am j - am (f.length+j)) (i+1)));have V:(pkv f (λj=>am j - am (f.length+j)) i).length<1000:=by unfold pkv;rw[qah,qaq];lia
 have v:∀ s ,aV s [.d (tsD f)]=some _:=λs=>by
  show some (D.int _)=_;rw[qah]
 have Y:∀ s ,dIx s (.d (.tup (mpI m am))) (.d (.int (i)))=some _:=λs=>di (aU (by lia));have R:∀ s ,dIx s (.d (.tup (mpI m am))) (.d (.int ((f.length)+(i))))=some _:=λs=>by
  exact di (aU (by lia))
 generalize pkv f _ i=K at *;generalize f.getD i []=t at *;have M:=ac (g:=gB) (env:=[a0,some _,some _,some (.h st.length),some _,Z (ak t)]) (st:=st++[.m K]) (ac (a:=iV 2) (b:=iV 4) U U (Y _)) (ac (a:=iV 2) (b:=iOp aZ (iCB aV (aa (iV 1) ae)) (iV 4)) U (ac (ar (ab U U) (v _)) U U) (R _)) U;simp only[ak]at M ⊢;simp only[gZ,wE,M,iV,qbG,qb1,qap,qac,(bh _),A,V,if_true,T,P]
theorem EW (hn:f.Nodup) (G:f.length<=16) (hm:f.length+f.length<=m) (H:∀ j,j<f.length+f.length->Sm (am j)/\0<=am j) :
  ∃ (q:Int) (X:List Int->Int),0<q/\(∀ j,j<f.length->am j - am (f.length+j)=q*X (f.getD j []))/\∀ st,iK [.d (.str (aF b)),.d (tsD f),.d (.tup (mpI m am))] st=some (.d (bL (aF b) (a6 (aD f) X)),st) :=by
 have y:∀ j,j<f.length->iq f (λj=>am j - am _) (f.getD j [])=am j - am (f.length+j):=λj l=>Ct hn l;have r:∀ p∈a6 (aD f) (iq f λj=>am j - am (f.length+j)),p.2≠0/\Sm p.2:=λp w=>by
  obtain⟨t,u,rfl⟩:=qaJ.mp w;obtain⟨N,S⟩:=qbX.mp u;refine⟨of_decide_eq_true S,?_⟩;obtain⟨j,l,rfl⟩:=j9 ((aI _).mem_iff.mp N);rw[y j l];have a:=H j (by lia);have c:=H (f.length+j) (by lia);unfold Sm at *;lia
 have E:(a6 (aD f) (iq f λj=>am j - am (f.length+j))).length<=1000:=by
  unfold a6;rw[qah]
  have:=qcy (λt=>decide (iq f (λj=>am j - am (f.length+j)) t≠0)) (aD f)
  rw[(aI _).length_eq]at this;lia
 have o:∀ st:Sto,iK [.d (.str (aF b)),.d (tsD f),.d (.tup (mpI m am))] st=some (.d (bL (aF b) ((a6 (aD f) (iq f λj=>am j - am (f.length+j))).map (dvP ((cR 0 ((a6 (aD f) (iq f λj=>am j - am (f.length+j))).map qge):Nat):Int)))),st):=λst=>by
  have I:=zK (st:=st++[.m (pkv f _ f.length)]) (kd:=aF b) (X:=iq f λj=>am j - am (f.length+j)) (ut st _) (by unfold pkv;rw [qah,qaq];lia) (λt u=>by
   rw[xB]at u;obtain⟨j,l,rfl⟩:=j9 u;rw[y j l]
   exact AF hn (qao _) l)
  rw[xB]at I;have B:=yX (st:=st++[.m (pkv f (λj=>am j - am (f.length+j)) f.length)]) (kd:=aF b) E r;obtain⟨L,s2,A,⟨F,C,rfl⟩,rfl⟩:=bI (g:=.tp [4,5]) (ds:=(qak f.length).map λi:Nat=>D.tup [.int _,ak (f.getD i [])])
   (λi env s=>(∃ F C,env=[some _,Z (tsD f),some _,some (.h st.length),F,C])/\s=st++[.m (pkv f (λj=>am j - am (f.length+j)) i)])
   (env:=[Z (.str (aF b)),Z (tsD f),Z (.tup (mpI m am)),some (.h st.length),none,none]) ⟨⟨_,_,U⟩,U⟩ (λi d env s hd ⟨⟨F,C,e⟩,es⟩=>by
    subst e es;obtain⟨hi,rfl⟩:=ow hd
    exact⟨_,_,_,U,.inl (GM hn G hm hi),⟨_,_,U⟩,U⟩)
  rw[qah,qaq]at A;have O:bN (aa (iV 1) ae) [Z (.str (aF b)),Z (tsD f),Z (.tup (mpI m am)),some (.h st.length),none,none] (st++[.m []])=some ((qak f.length).map λi:Nat=>D.tup [.int ((i:Nat):Int),ak (f.getD i [])],st++[.m []]):=by
   rw[<-wv _,<-iN [] ak f];rfl
  generalize a6 (aD f) (iq f λj=>am j - am (f.length+j))=ps at *;generalize pkv f (λj=>am j - am (f.length+j)) f.length=K at *
  have:=dX (n:=6) (k:=3) (b:=pI) (ws:=[.d (.str (aF b)),.d (tsD f),.d (.tup (mpI m am))]) (st:=st) U (ah U (ah (bg O A) (aC (ai (ab (ai U I) U) B))))
  rw[qdR]at this;exact this
 by_cases J:a6 (aD f) (iq f λj=>am j - am (f.length+j))=[]
 ·refine⟨1,iq f λj=>am j - am (f.length+j),by decide,λj l=>by rw[y j l,qc0],λst=>?_⟩
  rw[o st,J];rfl
 ·obtain⟨p,w⟩:=List.exists_mem_of_ne_nil _ J
  have Q:=(kJ (qd6 w) (r p w).1 (r p w).2).1;have hd:∀ t∈aD f,((cR 0 ((a6 (aD f) _).map qge):Nat):Int)∣iq f _ t:=λt u=>by
   by_cases z:iq f (λj=>am j - am (f.length+j)) t=0
   ·rw[z];exact Int.dvd_zero _
   ·refine qc7.mpr ((cS 0 _).2 _ (qaJ.mpr ⟨(t,iq f _ t),?_,U⟩))
    exact qaJ.mpr ⟨t,qbX.mpr ⟨u,decide_eq_true z⟩,U⟩
  generalize ((cR 0 ((a6 (aD f) (iq f λj=>am j - am (f.length+j))).map qge):Nat):Int)=q at *;refine⟨q,λt=>iq f (λj=>am j - am (f.length+j)) t / q,Q,λj l=>?_,λst=>by rw[o st,(Cs hd)]⟩
  have:=hd (f.getD j []) ((aI _).mem_iff.mpr (by rw[qau,qai l];exact qbC l))
  rw[qd1 this,y j l]
end
end Own
set_option maxHeartbeats 1000000
namespace Own
open PySem L2
open Sx (Pb Tb Good Named Fe LV ZV piv lexP leastR leaveL sumN unit colV basis)
theorem HG (ds) (k:Nat):gM ds none (some (k))=ds.take k :=by
 unfold gM;rw[HT.sIx_nat,HT.sIx_none,qgD,qho];rcases Nat.le_total k ds.length with h|h
 ·rw[qiz h]
 ·rw[qir h,qdT,qdI h]
theorem Cn (h:k<=n):(mpI n f).take k=mpI k f :=by
 apply qa6;intro i;by_cases hi:i<k
 ·rw[qex hi,aU (by lia),aU hi]
 ·rw[qav (by rw[qdU];lia),qav (by rw[av];lia)]
theorem GT (h:ag a b env st=some (.nx e s)) (d:c e s=r):ag a (ag b c) env st=r :=by
 simp only[ag]at h ⊢;cases ha:a env st with
 |none=>rw[ha]at h;cases h
 |some x=>
  rw[ha,qac]at h;rw[qac];cases x with
  |nx f s1=>simp only at h ⊢;rw[h];exact d
  |_=>cases h
theorem zj (hi:i<m) (h:∀ j,j<m->e j=e i->j=i):acc e y m (e i)=y i :=by
 unfold acc;rw[Sx.sumN_single hi λj a q=>iFN λz=>q (h j a z),iFP U]
structure ju (fs:List D) (b:Bool) (ts:List (List Int)) (X:List Int->Int) (w:Nat->Int):Prop where
 bal:∀ t,t<ts.length->(sumN (nR fs) λi=>spV fs b ts i t*w (rN fs i))=0
 val:∀ i,i<nR fs->0<=(sumN ts.length λt=>X (ts.getD t [])*spV fs b ts i t)/\((sumN ts.length λt=>X (ts.getD t [])*spV fs b ts i t)=0↔w (rN fs i)≠0)
 w0:∀ r,r<fs.length->0<=w r/\Sm (w r)
 wn:∀ r,r<fs.length->fs.getD r .non=.non->w r=0
 sX:∀ t∈ts,Sm (X t)
theorem DO (a:0<q) (e:x=q*y) (h:Sm x):Sm y :=by
 refine qbN ?_ h;rw[e,qdr];exact Nat.le_mul_of_pos_left _ (by lia)
section
variable {fs:List D}{b:Bool}{l:List (List Int)}
theorem Fz (h:Spl fs l) (e:fs.getD r .non=.non) (hi:i<nR fs):rN fs i≠r :=λz=>by
 obtain⟨m,d,e1,_,_,_,hn,hg⟩:=v4 h (Bc hi);unfold rN at z;rw[z]at hg;exact hn (hg.symm.trans e)
theorem DY (h:Spl fs l) (hy:∀ i,i<nR fs->Sm (y i)/\0<=y i) (r):Sm (acc (rN fs) y (nR fs) r)/\0<=acc (rN fs) y (nR fs) r :=by
 by_cases q:∃ i,i<nR fs/\rN fs i=r
 ·obtain⟨i,hi,rfl⟩:=q
  rw[zj hi λj o z=>vZ h o hi z];exact hy i hi
 ·rw[mZ λj o z=>q ⟨j,o,z⟩]
  exact⟨qeb _,qcs _⟩
theorem Bj (h:Spl fs l):∃ X w,ju fs b l X w/\∀ st,∃ u,jn [.d (.tup fs),.d (.str (aF b)),.d (tsD l)] st=some (.d (.tup [bL (aF b) (a6 (aD l) X),.tup (mpI fs.length w)]),st++u) :=by
 have C:∀ s:Sto,aV s [.d (.lst ((qak (nR fs)).map λi=>D.lst (mpI l.length (spV fs b l i))))]=some (.int (nR fs:Int)):=λs=>by
  show some (D.int (((qak (nR fs)).map λi=>D.lst (mpI l.length (spV fs b l i))).length:Nat))=_;rw[qah,qaq]
 by_cases hN:nR fs=0
 ·refine⟨λ_=>0,λr=>acc (rN fs) (λ_=>0) 0 r,⟨λt _=>?_,λi hi=>absurd hi (by lia),λr _=>⟨qcs _,qeb _⟩,λ_ _ _=>rfl,λ_ _=>qeb _⟩,λst=>⟨[],?_⟩⟩
  ·rw[hN];rfl
  have Y:=uO (st:=st) (b:=b) h;have hw:=Bv (st:=st) (m:=0) (y:=λ_=>0) h (.inr U);have N:a6 (aD l) (λ_=>0)=[]:=by
   unfold a6;rw[qg7.mpr λt _=>by simp];rfl
  have T:_=some (D.int 0):=(C st).trans (by rw[hN];rfl);rw[N,qbY];generalize (mpI fs.length λr=>acc (rN fs) (λ_=>0) 0 r)=A at *;generalize ((qak (nR fs)).map λi=>D.lst (mpI l.length (spV fs b l i)))=L at *;generalize tsD l=K at *;generalize aF b=kd at *;exact ax (n:=8) (k:=3) (b:=jg) U (ah (ao (ai U Y)) (ah (ao (ar (ab U U) T)) (dY (cw (s:=st) U (aC (ge (ab (ge (ds:=[.str kd,.tup []]) U U (by show 2<=1000;decide)) (ab (ai (ab U (ab U U)) hw) U)) U (by show 2<=1000;decide)))))))
 ·obtain⟨p,am,pr,S,P⟩:=Gx (b:=b) h (by lia)
  have hn:=h.n;obtain⟨q,X,q0,hq,hp⟩:=EW (b:=b) (m:=l.length+l.length+nR fs) (am:=am) h.nd h.tl (by lia) λj o=>S.sa j (by lia);have E:=DY h (y:=pr) λi hi=>S.sr i hi;obtain⟨W,w,I,x,G⟩:=Cf (n:=fs.length) (f:=λr=>acc (rN fs) pr (nR fs) r) (λr _=>(E r).1) (by have:=h.fl;lia);have F:∀ i,i<nR fs->pr i=W*w (rN fs i):=λi hi=>by
   rw[<-x _ (qh h hi).2,zj hi λj o z=>vZ h o hi z]
  refine⟨X,w,⟨λt H=>?_,λi hi=>?_,λr J=>⟨?_,DO I (x r J) (E r).1⟩,λr J e=>?_,λt H=>?_⟩,λst=>?_⟩
  ·have e:=S.bal t H
   rw[Sx.sumN_congr (g:=λi=>W*(spV fs b l i t*w (rN fs i))) λi hi=>by rw[F i hi,qaR],Sx.sumN_mul]at e;exact (qcS.mp e).resolve_left (by lia)
  ·have e:=S.val i hi
   rw[Sx.sumN_congr (g:=λt=>q*(X (l.getD t [])*spV fs b l i t)) λt H=>by rw[hq t H,qbu],Sx.sumN_mul,F i hi]at e;generalize (sumN l.length λt=>X (l.getD t [])*spV fs b l i t)=v at *;refine⟨?_,?_⟩
   ·have:=e.1
    by_cases z:0<=v
    ·exact z
    ·have:=qgN q0 (show v<0 by lia)
     lia
   ·have e2:=e.2
    rw[qcS,ne_eq,qcS]at e2;have n1:¬ q=0:=by lia
    have n2:¬ W=0:=by lia
    simpa [n1,n2] using e2
  ·have e:=(E r).2
   rw[x r J]at e;by_cases z:0<=w r
   ·exact z
   ·have:=qgN I (show w r<0 by lia)
    lia
  ·have:=x r J
   rw[mZ λj o=>Fz h e o]at this;exact (qcS.mp this.symm).resolve_left (by lia)
  ·obtain⟨j,o,rfl⟩:=j9 H
   refine DO q0 (hq j o) ?_;have a:=S.sa j (by lia);have c:=S.sa (l.length+j) (by lia);unfold Sm at *;generalize (2:Nat)^1900=B at *;lia
  ·obtain⟨u,hu⟩:=P st none
   refine⟨u,?_⟩;have Y:=uO (st:=st) (b:=b) h;have he:=yq (st:=st) (V:=spV fs b l) (k:=l.length) hn h.tl;have N:bN (aa (iV 3) ae) [Z (.tup fs),Z (.str (aF b)),Z (tsD l),Z (.lst ((qak (nR fs)).map λi=>D.lst (mpI l.length (spV fs b l i)))),Z (.int (nR fs:Int)),none,none,none] st=some ((qak (nR fs)).map λi:Nat=>D.tup [.int ((i:Nat):Int),.lst (mpI l.length (spV fs b l i))],st):=by
    rw[<-wv (λi=>D.lst (mpI l.length (spV fs b l i)))];rfl
   have T:=C st;have Q:=hp (st++u);have M:=Bv (st:=st++u) (m:=nR fs) (y:=pr) h (.inl U);have hlo:=G (st++u);have sl:dSl (st++u) (.d (.tup (mpI (nR fs+nR fs) pr))) none (some (nR fs:Int))=some (.tup (mpI (nR fs) pr)):=by
    rw[<-Cn (n:=nR fs+nR fs) (k:=nR fs) (f:=pr) (by lia),<-HG];rfl
   have f0:((nR fs:Int)==(0:Int))=false:=by simp;lia
   have hz:((qak (nR fs)).map λi:Nat=>D.tup [.int ((i:Nat):Int),.lst (mpI l.length (spV fs b l i))]).length<=1000000:=by rw[qah,qaq];lia
   generalize (mpI fs.length λr=>acc (rN fs) pr (nR fs) r)=A at *;generalize mpI fs.length w=A2 at *;generalize mpI (nR fs) pr=A3 at *;generalize mpI (nR fs+nR fs) pr=A4 at *;generalize mpI (l.length+l.length+nR fs) am=A5 at *;generalize bL (aF b) (a6 (aD l) X)=R at *;generalize ((qak (nR fs)).map λi=>D.lst (mpI (l.length+l.length+nR fs) (Sx.spR (nR fs) l.length (spV fs b l) i)))=L5 at *;generalize ((qak (nR fs)).map λi=>D.lst (mpI (l.length+l.length+nR fs) (Sx.spR (nR fs) l.length (spV fs b l) (nR fs+i))))=L6 at *;generalize ((qak (nR fs)).map λi:Nat=>D.tup [.int ((i:Nat):Int),.lst (mpI l.length (spV fs b l i))])=LE at *;generalize ((qak (nR fs)).map λi=>D.lst (mpI l.length (spV fs b l i)))=L at *;generalize tsD l=K at *;generalize aF b=kd at *;have O:iSl (iOp dIx (iV 7) (iC (.int 3))) iPn (iPs (iV 4)) [Z (.tup fs),Z (.str kd),Z K,Z (.lst L),Z (.int (nR fs:Int)),Z (.lst L5),Z (.lst L6),Z (.tup [.str "most",.int p,.tup A5,.tup A4])] (st++u)=some (.d (.tup A3),st++u):=by
    have x1:iOp dIx (iV 7) (iC (.int 3)) [Z (.tup fs),Z (.str kd),Z K,Z (.lst L),Z (.int (nR fs:Int)),Z (.lst L5),Z (.lst L6),Z (.tup [.str "most",.int p,.tup A5,.tup A4])] (st++u)=some (.d (.tup A4),st++u):=ac U U U
    have x2:iPs (iV 4) [Z (.tup fs),Z (.str kd),Z K,Z (.lst L),Z (.int (nR fs:Int)),Z (.lst L5),Z (.lst L6),Z (.tup [.str "most",.int p,.tup A5,.tup A4])] (st++u)=some (some (nR fs:Int),st++u):=rfl
    simp only[iSl,x1,x2,iPn,qac,sl,qap]
   exact ax (n:=8) (k:=3) (b:=jg) U (ah (ao (ai U Y)) (ah (ao (ar (ab U U) T)) (ah (bn (s:=st) (aj U U (by rw[cy,f0])) U) (ah (ao (aq (aH N hz he))) (GT hu (aC (ge (ab (ai (ab U (ab U (ab (ac U U U) U))) Q) (ab (ai (ab (ai (ab U (ab O U)) M) U) hlo) U)) U (by show 2<=1000;decide))))))))
end
end Own
set_option maxHeartbeats 1000000
namespace Own
open PySem L2
open Sx (Pb Tb Good Named Fe LV ZV piv lexP leastR leaveL sumN unit colV basis)
theorem HE (h:0<=x):qdG x 1=x%2 :=by
 obtain⟨n,rfl⟩:=qha h;rw[show qdG _ _=((n&&&1:Nat)) from U,Nat.and_one_is_mod];lia
theorem kY (c:a env st=some (false,s)):dL a b env st=some (false,s) :=by
 simp only[dL,c,qac,qbs,if_false]
theorem kZ (c:a env st=some (true,s)) (hb:b env s=r):dL a b env st=r :=by
 simp only[dL,c,qac,if_true,hb]
theorem dg (c:a env st=some (false,s)) (hb:b env s=r):dM a b env st=r :=by
 simp only[dM,c,qac,qbs,if_false,hb]
theorem DS (h:c env st=some (false,s)):bB c b (n+1) env st=some (.nx env s) :=by
 unfold bB;rw[h,qac,iFN qaW]
theorem Hu (h:c env st=some (true,s)) (hb:b env s=some (.nx e a)):bB c b (n+1) env st=bB c b n e a :=by
 rw[bB,h,qac,iFP U,hb,qac]
theorem fO (s) (h:0<b):fk s (.d (.int a)) (.d (.int b))=some (.int (a%b)) :=iFP h
theorem l7 (s) (h:0<b/\b<1073741824):gN s (.d (.int a)) (.d (.int b))=some (.int (a / b)) :=iFP h
theorem pf0 (p) (a) (e:Ev):cF (iV 0) (iC (.int 0)) (some (.h 1)::e) (spo p a)=some (.h 0,spo p a) :=rfl
theorem pf1 (p) (a) (e:Ev):cF (iV 0) (iC (.int 1)) (some (.h 1)::e) (spo p a)=some (.d (.int p.s),spo p a) :=rfl
theorem pf2 (p) (a) (e:Ev):cF (iV 0) (iC (.int 2)) (some (.h 1)::e) (spo p a)=some (.d (.int p.c),spo p a) :=rfl
theorem pfx (x) (xs) (s c) (a) (e:Ev):iOp dIx (cF (iV 0) (iC (.int 0))) (iC (.int 0)) (some (.h 1)::e) (spo ⟨x::xs,s,c⟩ a)=some (.d (.int x),spo ⟨x::xs,s,c⟩ a) :=by
 refine ac (pf0 _ _ _) U ?_;exact D1 _ _
theorem HZ (x) (xs) (s c) (a) (e:Ev):de vK (cF (iV 0) (iC (.int 0))) (aa (iC (.int 0)) ae) (some (.h 1)::e) (spo ⟨x::xs,s,c⟩ a)=some (.d (.int x),spo ⟨xs,s,c⟩ a) :=by
 show ((vK _ [.d _]).map λy=>(W.d y.1,(spo _ a).set 0 _))=_
 have:vK ((x::xs).map D.int) [.d (.int 0)]=some (.int x,xs.map D.int):=by
  show (ixN ((xs.map D.int).length+1) 0).bind _=_;rw[Dx];rfl
 rw[this];rfl
theorem Dr {e:Ev}:∀ (xs) (f),xs.length<f->(∀ x∈xs,0<=x)->
  ∃ b,b.length<=xs.length/\(∀ x∈b,0<=x)/\∀ a,bB iz je f (some (.h 1)::e) (spo ⟨xs,s,c⟩ a)=some (.nx (some (.h 1)::e) (spo ⟨b,s,c⟩ a))
 |_,0,h,_=>absurd h (qcR _)
 |[],f+1,_,_=>⟨_,qao _,(λx hx=>nomatch hx),λa=>DS (kY (aj (pf0 _ _ _) U U))⟩
 |x::xs,f+1,j,d=>by
  have c1:∀ a ,aE dNe _ (ap (bm ae)) (some _::e) _=some (true,spo ⟨x::xs,s,c⟩ a):=λa=>aj (pf0 _ _ _) U U;have c2:∀ a ,aE dEq _ (iC _) (some _::e) _=some (x==0,spo ⟨x::xs,s,c⟩ a):=λa=>aj (pfx _ _ _ _ _ _) U (cy _ _ _);cases q:(x==0) with
  |true=>
   rw[q]at c2;obtain⟨b,k,a2,g⟩:=Dr xs f (by simpa using j) λy i=>d y (qaj _ i);refine⟨b,qaN k (qcZ _),a2,λa=>?_⟩;rw[<-g a];refine Hu (kZ (c1 a) (c2 a)) ?_;show cT _ _ _=_;simp only[cT,HZ,qap]
  |false=>
   rw[q]at c2;exact⟨_,qao _,d,λa=>DS (kZ (c1 a) (c2 a))⟩
theorem EF (h:n<=63):n<2^8000 :=qbN h (qaP (by decide:63<2^6) (qbq (by decide) (by decide)))
theorem ck (h:okP p Zq) (Q:Zq<900000000) (m0:0<m) (K:m<1073741824):∃ (r:Int) (B:Spo),0<=r/\r<m/\okP B (Zq+1)/\∀ a,aL [.h 1,.d (.int m)] (spo p a)=some (.d (.int r),spo B a) :=by
 obtain⟨xs,s,c⟩:=p;obtain⟨M,v,L,c1⟩:=h;obtain⟨G,I,y,O⟩:=Dr (s:=s) (c:=c) xs (2^8000) (EF v) M;have w:=O;cases G with
 |cons x l=>
  have c2:∀ a:Sto,aE dNe _ (ap (bm ae)) [some (.h 1),Z (.int m),none,none,none] _=some (true,spo ⟨x::l,s,c⟩ a):=λa=>aj (pf0 _ _ _) U U;refine⟨x%m,⟨x / m::l,s,c⟩,qiC _ (by lia),qh7 _ m0,⟨λz hz=>?_,by simp at I ⊢;lia,L,by lia⟩,λa=>?_⟩
  ·rcases qaw.mp hz with rfl|hz
   ·exact qed (y x qag) (by lia)
   ·exact y z (qaj _ hz)
  ·have t:bq (cF (iV 0) (iC (.int 0))) (iC (.int 0)) (iOp gN (iOp dIx (cF (iV 0) (iC (.int 0))) (iC (.int 0))) (iV 1)) [some (.h 1),Z (.int m),Z (.int (x%m)),none,none] (spo ⟨x::l,s,c⟩ a)=some (.nx [some (.h 1),Z (.int m),Z (.int (x%m)),none,none] (spo ⟨x / m::l,s,c⟩ a)):=by
    have H:gz (spo ⟨x::l,s,c⟩ a) (.h 0) (.d (.int 0)) (.d (.int (x / m)))=some (spo ⟨x / m::l,s,c⟩ a):=by
     show (ixN ((l.map D.int).length+1) 0).map (λj=>(spo ⟨x::l,s,c⟩ a).set 0 (.l (((x::l).map D.int).set j (.int (x / m)))))=_;rw[Dx];rfl
    simp only[bq,(ac (g:=gN) (b:=iV 1) (pfx x l s c a [Z (.int m),Z (.int (x%m)),none,none]) U (l7 _ ⟨m0,K⟩)),pf0,qac,iC,H,qap]
   exact ax (n:=5) (k:=2) U (ah (w a) (dY (cw (c2 a) (ah (ao (ac (pfx _ _ _ _ _ _) U (fO _ m0))) (ah t U)))))
 |nil=>
  have c2:∀ a:Sto,aE dNe _ (ap (bm ae)) [some (.h 1),Z (.int m),none,none,none] _=some (false,spo ⟨[],s,c⟩ a):=λa=>aj (pf0 _ _ _) U U;have t:∀ a:Sto,jK (iV 0) (iC (.int 2)) (iOp aZ (cF (iV 0) (iC (.int 2))) (iC (.int 1))) [some (.h 1),Z (.int m),none,none,none] (spo ⟨[],s,c⟩ a)=some _:=λa=>by
   simp only[jK,(ac (g:=aZ) (b:=iC (.int 1)) (pf2 ⟨[],s,c⟩ a [Z (.int m),none,none,none]) U U),qac,iC,iV];rfl
  obtain⟨u,F⟩:∃ u,(s+611953*(c+1)*(c+1))*48271%2305843009213693951=u:=⟨_,U⟩;refine⟨(u+(c+1))*(u / 1009+40692*(c+1)+3)%2305843009213693921 / 4099%m,⟨[],s,c+1⟩,qiC _ (by lia),qh7 _ m0,⟨λz hz=>(nomatch hz),by simp,by dsimp only;lia,by dsimp only;lia⟩,λa=>?_⟩
  have E:qbW 611953 (c+1):=cL (by decide);have k2:∀ q,qbW q (c+1):=λq=>cM ⟨by lia,by lia⟩;have k3:∀ q,qbW q 48271:=λq=>cM (by decide);have P:∀ q,qbW (u+(c+1)) q:=λq=>cL ⟨by lia,by lia⟩;have o:=λ(a:Sto) (e:Ev)=>pf2 ⟨[],s,c+1⟩ a e;have A:=λ(a:Sto) (e:Ev)=>pf1 ⟨[],s,c+1⟩ a e;dsimp only at A o;generalize c+1=d at *;have J:∀ (C f:Option W),aB (.nm 3) (iOp fk (iOp aR (iOp aZ (cF (iV 0) (iC (.int 1))) (iOp aR (iOp aR (iC (.int 611953)) (cF (iV 0) (iC (.int 2)))) (cF (iV 0) (iC (.int 2))))) (iC (.int 48271))) (iC (.int 2305843009213693951))) [some (.h 1),Z (.int m),none,C,f] (spo ⟨[],s,d⟩ a)=some (.nx [some (.h 1),Z (.int m),none,Z (.int u),f] (spo ⟨[],s,d⟩ a)):=λC f=>
   ao (i:=3) (ac (ac (ac (A _ _) (ac (ac U (o _ _) (be _ E)) (o _ _) (be _ (k2 _))) U) U (be _ (k3 _))) U (by rw[<-F];exact fO _ (by decide)))
  have N:∀ (f:Option W),aB (.nm 4) (iOp aZ (iOp aZ (iOp gN (iV 3) (iC (.int 1009))) (iOp aR (iC (.int 40692)) (cF (iV 0) (iC (.int 2))))) (iC (.int 3))) [some (.h 1),Z (.int m),none,Z (.int u),f] (spo ⟨[],s,d⟩ a)=some (.nx [some (.h 1),Z (.int m),none,Z (.int u),Z (.int (u / 1009+40692*d+3))] (spo ⟨[],s,d⟩ a)):=λf=>
   ao (i:=4) (ac (ac (ac U U (l7 _ (by decide))) (ac U (o _ _) (be _ (cL (by decide)))) U) U U)
  exact ax (n:=5) (k:=2) U (ah (w a) (ah (bn (c2 a) U) (ah (t a) (ah (J _ _) (ah (N _) (aC (ac (ac (ac (ac (ac U (o _ _) U) U (be _ (P _))) U (fO _ (by decide))) U (l7 _ (by decide))) U (fO _ m0))))))))
end Own
set_option maxHeartbeats 1000000
namespace Own
open PySem L2
open Sx (Pb Tb Good Named Fe LV ZV piv lexP leastR leaveL sumN unit colV basis)
theorem qsl (e:f env c=some (x,s1)) (h:lo env s1=some (l,b)) (g:hi env b=some (u,a)) (hd:dSl a x l u=some d):iSl f lo hi env c=some (.d d,a) :=by
 simp only[iSl,e,h,g,qac,hd,qap]
theorem p18:uZ 10 18:=by decide
theorem Ia (s):BS s (.d (.int 10)) (.d (.int 18))=some (.int (10^18)) :=by
 rfl
theorem E6 (ns) (hn:ns.length<=63):∃ p,okP p 0/\jm [.d (.scr ns)] []=some (.h 1,spo p []) :=by
 have z:gM (ns.map D.int) none (some 63)=ns.map D.int:=by
  unfold gM;have v:HT.sIx (ns.map D.int).length 0 none=0:=rfl;have m:HT.sIx (ns.map D.int).length (ns.map D.int).length (some 63)=(ns.map D.int).length:=by
   unfold HT.sIx;simp;lia
  rw[v,m,qgD,qho,qdT]
 have w:∀ q,qbW q 69621:=λq=>cM (by decide);obtain⟨r,s',m,xs,a,k,rfl,rfl,o,j⟩:=bI (g:=.nm 3) (body:=jY) (ds:=ns.map D.int)
  (λi env s=>∃ (xs:List Int) (a:Int) (k:Option W),env=[Z (.scr ns),Z (.int a),some (.h 0),k]/\s=[C.l (xs.map D.int)]/\xs.length<=i/\∀ x∈xs,0<=x)
  ⟨[],_,none,U,U,qao _,(λx hx=>nomatch hx)⟩ (λi d env s hd ⟨xs,a,k,e,es,o,j⟩=>by
   subst e es;rw[qay,qad]at hd;obtain⟨x,hx,rfl⟩:=hd;have hi:=(qas.mp hx).1;have s1:aB (.nm 1) (iOp fk (iOp aZ (iOp aR (iV 1) (iC _)) (iV 3)) (iC (.int 2305843009213693951))) [Z (.scr ns),Z (.int a),some (.h 0),Z (.int x)] [C.l (xs.map D.int)]=some _:=
    ao (ac (ac (ac U U (be _ (w _))) U U) U (fO _ (by decide)))
   generalize (a*69621+x)%2305843009213693951=t at *;have c:aE dGe (iCB vd (aa (iV 3) ae)) (iOp BS (iC _) (iC _)) [Z (.scr ns),Z (.int t),some (.h 0),Z (.int x)] [C.l _]=some (decide _,[C.l (xs.map D.int)]):=aj (ar (ab U U) U) (ac U U (Ia _)) U;by_cases hg:(10)^18<=(if x<0 then -x else x)
   ·rw[decide_eq_true hg]at c
    have hz:(xs.map D.int).length<1000000:=by rw[qah];lia
    refine⟨_,_,_,U,.inl (ah s1 (cw c (Fc U (ar (ab U U) U) U U hz))),xs++[if x<0 then -x else x],t,_,U,?_,by rw[qaA];show _+1<=_;lia,λy u=>?_⟩
    ·rw[qci];rfl
    ·rcases qaT.mp u with q|q
     ·exact j y q
     ·rw[qan.mp q];split<;>lia
   ·rw[decide_eq_false hg]at c
    exact⟨_,_,_,U,.inl (ah s1 (bn c U)),xs,t,_,U,U,by lia,j⟩)
 rw[qah]at o;refine⟨⟨xs,a,0⟩,⟨j,by lia,qcs _,qcs _⟩,?_⟩;have l:uf 1 2 (aa (iOp aZ (iOp aR (iC (.int 7)) (iCB aV (aa (iV 0) ae))) (iC (.int 5))) (aa (bR (bm ae)) ae)) [Z (.scr ns),none,none,none] []=some (.nx [Z (.scr ns),Z (.int (7*(ns.length)+5)),some (.h 0),none] [C.l []]):=by
  have f:aV [] [.d (.scr ns)]=some (.int (ns.length)):=by
   show some (D.int _)=_;rw[qah]
  have x1:iOp aZ (iOp aR (iC (.int 7)) (iCB aV (aa (iV 0) ae))) (iC (.int 5)) [some _,none,none,none] []=some (.d _,[]):=ac (ac U (ar (ab U U) f) (be _ (cL (by decide)))) U U;simp only[uf,(ab (b:=aa (bR (bm ae)) ae) x1 U),qac];rfl
 have n:aA (iSl (iV 0) iPn (iPs (iC (.int 63)))) [Z (.scr ns),Z (.int (7*(ns.length)+5)),some (.h 0),none] [C.l []]=some (ns.map D.int,[C.l []]):=by
  show some _=_;rw[z]
 exact ax U (ah l (ah (bg n m) (aC U)))
end Own
set_option maxHeartbeats 1000000
namespace Own
open PySem L2
open Sx (Pb Tb Good Named Fe LV ZV piv lexP leastR leaveL sumN unit colV basis)
theorem Ff (h:c env st=some (true,s)) (d:a env s=r):eY c a b env st=r :=by simp only[eY,h,qac,if_true,d]
theorem Fd (h:c env st=some (false,s)) (hb:b env s=r):eY c a b env st=r :=by simp only[eY,h,qac,qbs,if_false,hb]
theorem b8 {α:Type}{g} (F):∀ {b:List α},(∀ k∈b,∃ a,cx c (.d (g k)) env=some a/\te a st=some (.d (F k),st))->lcI c aJ te env (b.map g) st=some (b.map F,st)
 |[],_=>rfl
 |k::b,h=>by
  obtain⟨a,f,e⟩:=h k qag;rw[qaz,lcI,f,qac,show aJ a st=some (true,st) from U,qac,e,qac,(b8 F λx hx=>h x (qaj _ hx))];rfl
theorem j0 {α:Type}{g} (F) (p):∀ {b:List α},(∀ k∈b,∃ a,cx c (.d (g k)) env=some a/\tt a st=some (p k,st)/\te a st=some (.d (F k),st))->lcI c tt te env (b.map g) st=some ((b.filter p).map F,st)
 |[],_=>rfl
 |k::b,h=>by
  obtain⟨a,j,i,f⟩:=h k qag;have e:=j0 F p λx hx=>h x (qaj _ hx);rw[qaz,lcI,j,qac,i,qac,qdp];cases p k with
  |true=>
   rw[f,qac,e];rfl
  |false=>
   rw[iFN qaW,iFN qaW,e]
theorem D0 (h:0<=row):qdG (row / 2^k.toNat) 1=onI row k :=HE (qed h (qhs (Int.pow_pos (by decide))))
theorem tU (row):∀ t,(((t.filter λk=>onI row k==1).length))=eV row t
 |[]=>rfl
 |k::t=>by
  have a:=tU row t;rw[qdp];unfold eV;rcases DC row k with e|e
  ·lia
  ·rw[e,iFP (by decide),qat]
   lia
theorem uo (h:0<=row) (g:∀ k∈t,0<=k/\k<=20) (j:t.length<=1000):cc [.d (.str (aF b)),.d (ak t),.d (.int row)] st=some (.d (.int (a9 b t row)),st) :=by
 have a:aV st [.d (.lst ((t.filter λk=>onI row k==1).map D.int))]=some (.int (eV row t)):=by
  show some (D.int _)=_;rw[qah,tU]
 have tl:aV st [.d (ak t)]=some (.int (t.length)):=by
  show some (D.int _)=_;rw[qah]
 have hz:(t.map D.int).length<=1000000:=by rw[qah];lia
 have eq:a9 b t row=if b=true then (if eV row t=(t.length) then 1 else 0) else 1 - 2*(eV row t%2):=by
  unfold a9;cases b with
  |true=>rfl
  |false=>
   split<;>lia
 rw[eq];have e:aB (.nm 3) (iCB aV (aa (ap (iLc 1 [2] (aA (iV 1)) (.nm 0) jc i5)) ae)) [Z (.str (aF b)),Z (ak t),Z (.int row),none] st=some (.nx [Z (.str (aF b)),Z (ak t),Z (.int row),Z (.int (eV row t))] st):=
  ao (i:=3) (ar (ab (aq (aH (aX U) hz (j0 D.int _ λk f=>by
  refine⟨_,U,?_,U⟩;refine aj (ac (ac U U (Bg _ (g k f).1)) U ?_) U (cy _ _ _);show some _=_
  rw[D0 h]))) U) a)
 have c:aE dEq (iV 0) (iC _) [some _,Z (ak t),Z (.int row),Z (.int (eV row t))] st=some (b,st):=aj U U (by rw[Dt,(pX b)]);generalize eV row t=n at *;generalize aF b=kd at *;cases b with
 |true=>
  rw[iFP U]
  exact ax U (ah e (aC (Ff c (ar (ab (ac U (ar (ab U U) tl) (cy _ _ _)) U) (by
   by_cases q:n=(t.length)
   ·rw[q,iFP U,beq_self_eq_true];rfl
   ·rw[iFN q,show (n==_)=false by simpa using q];rfl)))))
 |false=>
  exact ax U (ah e (aC (Fd c (ac U (ac U (ac U U (fO _ (by decide))) (be _ (cL (by decide)))) U))))
theorem yK :∀ {n:Nat},n<=4->fV [.d (.int (n))] st=some (.d (.lst ((cf n).map ak)),st)
 |0,_=>rfl
 |1,_=>rfl
 |2,_=>rfl
 |3,_=>rfl
 |4,_=>rfl
end Own
set_option maxHeartbeats 1000000
namespace Own
open PySem L2
open Sx (Pb Tb Good Named Fe LV ZV piv lexP leastR leaveL sumN unit colV basis)
theorem nB:∀ (ds) (k),(bE k ds).length=ds.length
 |[],_=>rfl
 |_::ds,k=>by rw[bE,qat,qat,nB ds]
def sR (fs:List D) (g:Nat->Int) (r:Nat):Int:=if cU (fs.getD r .non)=true then 0 else g r
theorem GE (h:d≠.non):¬ cU d=true :=by
 cases d<;>first|exact absurd U h|exact Bool.noConfusion
theorem mT (b) (t) (row):(a9 b t row).natAbs<=1 :=by
 unfold a9;split<;>split<;>decide
theorem oU (f):∀ n,((qak n).map f).sum=sumN n f
 |0=>rfl
 |n+1=>by
  rw[qeX,qci,List.sum_append,oU f n];show _+(f n+0)=sumN n f+f n;lia
theorem Az {l :List Int} (h:l.Perm m):l.sum=m.sum :=by
 induction h with
 |nil=>rfl
 |cons x _ c=>rw[qcw,qcw,c]
 |swap x y l=>rw[qcw,qcw,qcw,qcw];lia
 |trans _ _ a b=>exact a.trans b
theorem xi (X g:List Int->Int):∀ a:List (List Int),((a6 a X).map λp=>p.2*g p.1).sum=(a.map λt=>X t*g t).sum
 |[]=>rfl
 |t::a=>by
  have b:=xi X g a;unfold a6 at b ⊢;rw[qdp,qaz,qcw];by_cases h:X t=0
  ·rw[iFN (by simp[h]),b,h,qbV,qcc]
  ·rw[iFP (by simp[h]),qaz,qaz,qcw,b]
theorem Al (X g:List Int->Int) (a):((a6 (aD a) X).map λp=>p.2*g p.1).sum=sumN a.length λt=>X (a.getD t [])*g (a.getD t []) :=by
 rw[xi,Az ((aI a).map λt=>X t*g t),iN [] _ a,oU]
theorem uT (g:Nat->Int):∀ (r) (k),((bD k r).map λj=>g j.toNat).sum=sumN r.length λj=>if cU (r.getD j .non)=true then 0 else g (k+j)
 |[],k=>rfl
 |d::r,k=>by
  rw[qat,qe5 r.length 1,Sx.sumN_append];have b:(sumN r.length λj=>if cU ((d::r).getD (1+j) .non)=true then 0 else g (k+(1+j)))=sumN r.length λj=>if cU _=true then 0 else g _:=Sx.sumN_congr λj _=>by
   rw[qe5 1 j,qb1,show k+_=k+1+j by lia]
  have c:(sumN 1 λj=>if cU ((d::r).getD j .non)=true then 0 else g (k+j))=if cU d=true then 0 else g k:=by
   show (0)+_=_;rw[qcc];rfl
  rw[b,c,<-(uT g r _)];have a:(((k:Int)::bD (k+1) r).map λj=>g j.toNat).sum=g k+((bD (k+1) r).map λj=>g j.toNat).sum:=by
   rw[qaz,qcw,qbc]
  cases d<;>first|exact (qcc _).symm|exact a
theorem uS:∀ (r) (k j),j<r.length->r.getD j .non≠.non->((k+j:Nat):Int)∈bD k r
 |[],_,_,h,_=>absurd h (qcR _)
 |d::r,k,0,_,hn=>by
  have:_∈(k:Int)::bD (k+1) r:=qag
  cases d<;>first|exact absurd U hn|exact this
 |d::r,k,j+1,h,hn=>by
  have a:=uS r (k+1) j (by rw[qat]at h;lia) (by exact hn);rw[show k+1+j=k+(j+1) by lia]at a;cases d<;>first|exact a|exact qaj _ a
section
variable {fs:List D}{b:Bool}{a:List (List Int)}{X:List Int->Int}{w:Nat->Int}
theorem C6 (h:Spl fs a) (S:ju fs b a X w) (g:t∈a):sumN fs.length (sR fs λr=>w r*sgD (fs.getD r .non)*a9 b t r)=0 :=by
 obtain⟨j,k,rfl⟩:=j9 g;have e:=uT (λr=>w r*sgD (fs.getD r .non)*a9 b (a.getD j []) r) fs 0;rw[iN 0 _ _,oU]at e;have m:sumN fs.length (sR fs λr=>w r*sgD _*a9 b _ r)=sumN fs.length λr=>if cU _=true then 0 else w (0+r)*sgD (fs.getD (0+r) .non)*a9 b (a.getD j []) ((0+r:Nat)):=Sx.sumN_congr λr _=>by rw[qbg];rfl
 rw[m,<-e];refine Eq.trans (Sx.sumN_congr λi hi=>?_) (S.bal j k);show w (rN fs i)*sgD (fs.getD (rN fs i) .non)*a9 b _ (rN fs i)=sgD (fs.getD (rN fs i) .non)*a9 b _ _*w _;rw[((qh h hi).1),qbu,qaV]
theorem C7 (h:Spl fs a) (S:ju fs b a X w) (f:r<fs.length) (hn:fs.getD r .non≠.non):0<=(sumN a.length λt=>X (a.getD t [])*a9 b (a.getD t []) r)*sgD (fs.getD r .non)/\((sumN a.length λt=>X (a.getD t [])*a9 b (a.getD t []) r)*sgD (fs.getD r .non)=0↔w r≠0) :=by
 have hm:=uS fs 0 r f hn;rw[qbg]at hm;obtain⟨i,hi,e⟩:=qcK.mp hm;have c:kj fs i=(r):=by
  unfold kj;rw[qau,qai hi];exact e
 have d:rN fs i=r:=by unfold rN;rw[c,qbc]
 have v:=S.val i hi;rw[d]at v;have l:(sumN a.length λt=>X (a.getD t [])*spV fs b a i t)=(sumN a.length λt=>X (a.getD t [])*a9 b (a.getD t []) r)*sgD (fs.getD r .non):=by
  rw[<-Sx.sumN_right];refine Sx.sumN_congr λt _=>?_;unfold spV;rw[c,qbc,qaV (sgD _),qbu]
 rw[l]at v;exact v
end
def sz (d:D):Int:=if cU d=true then 0 else sgD d
theorem sz3 (h:mX d):sz d=0\/sz d=1\/sz d=-1 :=by
 rcases h with rfl|rfl|rfl
 ·exact .inl U
 ·exact .inr (.inr U)
 ·exact .inr (.inl U)
theorem FA (h:mX d):sz d=0↔d=.non :=by
 rcases h with rfl|rfl|rfl
 ·exact⟨λ_=>rfl,λ_=>rfl⟩
 ·exact⟨λe=>absurd e (by decide),λe=>by cases e⟩
 ·exact⟨λe=>absurd e (by decide),λe=>by cases e⟩
theorem ze (b:∀ k,k<n->0<=f k) (c:sumN n f=0):∀ k,k<n->f k=0 :=λk a=>by
 rw[Sx.sumN_split a]at c
 have:=Sx.sumN_nonneg (f:=λi=>if i=k then 0 else f i) λi hi=>by split;exact qcs _;exact b i hi
 have:=b k a
 lia
section
variable {fs:List D}{b:Bool}{d:List (List Int)}{X:List Int->Int}{w:Nat->Int}
def vlR (b:Bool) (d:List (List Int)) (Y:Nat->Int) (r:Nat):Int:=sumN d.length λt=>Y t*a9 b (d.getD t []) r
def Hz (fs:List D) (b:Bool) (d:List (List Int)) (v:Nat->Int):Prop:=∀ t∈d,(sumN fs.length λr=>v r*sz (fs.getD r .non)*a9 b t r)=0
theorem dZ (h:Spl fs d) (f:r<fs.length):mX (fs.getD r .non) :=by
 rw[qau,qai f];exact h.fv _ (qbC f)
theorem Fx (h:Spl fs d) (S:ju fs b d X w):Hz fs b d w:=λt g=>by
 refine (Sx.sumN_congr λr _=>?_).trans (C6 h S g);unfold sR sz;split
 ·rw[qa7,qbV]
 ·rfl
theorem Bi (h:Spl fs d) (S:ju fs b d X w) (f:r<fs.length):0<=sz (fs.getD r .non)*vlR b d (λt=>X (d.getD t [])) r/\(fs.getD r .non≠.non->sz (fs.getD r .non)*vlR b d (λt=>X (d.getD t [])) r=0->w r≠0) :=by
 by_cases e:fs.getD r .non=.non
 ·rw[e]
  exact⟨by show 0<=0*_;rw[qbV];exact qcs _,λq=>absurd U q⟩
 ·obtain⟨a,c⟩:=C7 h S f e
  have es:sz _=sgD _:=iFN (GE e);rw[es];rw[qaV];exact⟨a,λ_ q=>c.mp q⟩
end
end Own
set_option maxHeartbeats 1000000
namespace Own
open PySem L2
open Sx (Pb Tb Good Named Fe LV ZV piv lexP leastR leaveL sumN unit colV basis)
theorem r8 {W }:∀ {ds},(∀ d∈ds,rpD d=true/\wtD d<=W/\dpD d<=K)->oO ds=true/\uW ds<=(W+2)*ds.length/\t4 ds<=K
 |[],_=>by exact⟨U,qbM _,qbM _⟩
 |d::ds,h=>by
  obtain⟨a,b,c⟩:=r8 λx hx=>h x (qaj _ hx);obtain⟨e,f,c1⟩:=h d qag;rw[oO,uW,t4,a,e,qat];exact⟨U,by lia,by lia⟩
theorem Cb (h:leL a b) (c:a≠b):br a b=true :=by
 cases e:br a b with
 |true=>rfl
 |false=>exact absurd (ie a b e h) c
theorem pU (hn:l.Nodup):(aD l).Pairwise λa b=>br a b=true :=by
 have c:=(aI l).nodup_iff.mpr hn;exact (cK l).imp₂ (λa b d c=>Cb d c) c
theorem xL:∀ {a c:List (List Int)},a.Pairwise (λx y=>br x y=true)->c.Pairwise (λx y=>br x y=true)->(∀ x,x∈a↔x∈c)->a=c
 |[],[],_,_,_=>rfl
 |[],y::c,_,_,h=>absurd ((h y).mpr qag) qbd
 |x::a,[],_,_,h=>absurd ((h x).mp qag) qbd
 |x::a,y::c,g,f,h=>by
  obtain⟨d,a2⟩:=qa8.mp g;obtain⟨c1,c2⟩:=qa8.mp f;have b:∀ {z:List Int},br z z=true->False:=λ{z} q=>by rw[oh]at q;cases q
  have e:x=y:=by
   rcases qaw.mp ((h x).mp qag) with q|q
   ·exact q
   rcases qaw.mp ((h y).mpr qag) with k|k
   ·exact k.symm
   exact (b (mM _ _ _ (c1 x q) (d y k))).elim
  subst e;rw[xL a2 c2 λz=>⟨λhz=>?_,λhz=>?_⟩]
  ·rcases qaw.mp ((h z).mp (qaj _ hz)) with q|q
   ·rw[q]at hz;exact (b (d x hz)).elim
   ·exact q
  ·rcases qaw.mp ((h z).mpr (qaj _ hz)) with q|q
   ·rw[q]at hz;exact (b (c1 x hz)).elim
   ·exact q
def rpS (t:List Int):Str:=(toP (D.tup (t.map D.int))).shown
theorem in2:∀ {n},n<=4->∀ t∈cf n,t∈cf 4
 |0,_=>by decide +kernel
 |1,_=>by decide +kernel
 |2,_=>by decide +kernel
 |3,_=>by decide +kernel
 |4,_=>λt h=>h
theorem C8:((cf 4).all λt=>(cf 4).all λu=>(rpS t==rpS u)==(t==u))=true:=by decide +kernel
theorem Fm (hn:n<=4) (a:t∈cf n) (b:u∈cf n) (e:rpS t=rpS u):t=u :=by
 have:=qaY.mp (qaY.mp C8 t (in2 hn t a)) u (in2 hn u b)
 rw[e,beq_self_eq_true,beq_iff_eq]at this;exact eq_of_beq this.symm
theorem sM (s) (hn:n<=4) (b:t∈cf n):cB s [.d (ak t)]=some (.str (rpS t)) :=by
 have h:=fu n ((aI _).mem_iff.mp b);have f:=sU h;obtain⟨a,c,e⟩:=r8 (W:=2000) (K:=1) (ds:=t.map D.int) λd hd=>by
  obtain⟨x,hx,rfl⟩:=qaJ.mp hd
  have:=h.2 x hx
  have:x=0\/x=1\/x=2\/x=3:=by lia
  rcases this with rfl|rfl|rfl|rfl
  ·exact⟨U,by decide,by decide⟩
  ·exact⟨U,by decide,by decide⟩
  ·exact⟨U,by decide,by decide⟩
  ·exact⟨U,by decide,by decide⟩
 rw[qah]at c;have r:rpD (ak t)=true/\wtD (ak t)<=16000000/\dpD (ak t)<=50:=by
  unfold ak;rw[wtD,dpD];exact⟨a,by lia,by lia⟩
 show (if rpD (ak t)=true/\wtD (ak t)<=16000000/\dpD (ak t)<=50 then some (D.str (rpS t)) else none)=_;rw[iFP r]
theorem fG (h:f env st=some (k,s)):df f env st=some (!k,s) :=by
 simp only[df,h,qap]
theorem f9 (h:f env st=some (.d (.bl k),s)):bX cb f env st=some (k,s) :=by
 simp only[bX,h,qac];rfl
theorem GR {bs:List Bool} (h:a env st=some ([.d (.lst (bs.map D.bl))],s)):iCB BR a env st=some (.d (.bl (bs.all id)),s) :=by
 refine ar h ?_;show (gJ _).map _=_;rw[jh];rfl
theorem Bm (s) (a):dNe s (.d (.str a)) (.d (.str a))=some (.bl false) :=by
 show some (D.bl (!(a==a)))=_;rw[beq_self_eq_true];rfl
theorem DA (s) (a b):dNe s (.d (.int a)) (.d (.int b))=some (.bl (!(a==b))) :=rfl
theorem pP:∀ v:List Str,(v.map D.str).all bG=true
 |[]=>rfl
 |x::v=>by rw[qaz,qbB,pP v];rfl
theorem wN :∀ {v:List Str},a∈v->inD (.str a) (v.map D.str)=true
 |[],h=>nomatch h
 |x::v,h=>by
  unfold inD;rw[qaz,qco,qgo];rcases qaw.mp h with rfl|h
  ·exact .inl (beq_self_eq_true a)
  ·exact .inr (wN h)
theorem Cr (s) {v:List Str} (h:a∈v):qL s (.d (.str a)) (.d (.lst (v.map D.str)))=some (.bl false) :=by
 show (if bG _=true/\(v.map D.str).all bG=true then some _ else none)=_;rw[iFP ⟨U,pP v⟩,wN h];rfl
theorem uM (c:a.Sublist (cf n)) (hd:a.Nodup) (b:(lT n).Nodup):aD a=a :=
 xL (pU hd) ((pU b).sublist c) λx=>(aI a).mem_iff
theorem yz {a:List (List Int)} (hd:a.Nodup):a.map (λt=>a.idxOf t)=qak a.length:=by
 refine qin (by rw[qah,qaq]) λi c b=>?_;rw[qdo,qfC];exact hd.idxOf_getElem i _
theorem xh:∀ {P:List Nat},P.Pairwise (·<·)->∀ d∈cg (P.map λk:Nat=>D.int (k)) ((P.drop 1).map λk:Nat=>D.int (k)),∃ a c:Nat,d=.tup [.int (a),.int (c)]/\a<c
 |[],_,d,h=>nomatch h
 |[x],_,d,h=>nomatch h
 |x::y::P,b,d,h=>by
  obtain⟨f,e⟩:=qa8.mp b;rcases qaw.mp (h) with rfl|h
  ·exact⟨x,y,U,f y qag⟩
  ·exact xh e d h
theorem HF (ds):gM ds (some 1) none=ds.drop 1 :=by
 unfold gM;rw[show (some 1)=some ((1:Nat):Int) from U,HT.sIx_nat];by_cases h:1<=ds.length
 ·rw[qiz h,qdI (by rw[qf2];exact qao _)]
 ·rw[qir (by lia),qg8 (qao _),qg8 (by lia),List.take_nil]
section
variable {n:Nat}{f:List (List Int)}{st:Sto}{kd:Str}{X:List Int->Int}
theorem zQ (hn:n<=4) (q:f.Sublist (cf n)) (hd:f.Nodup) (h:t∈f):(f.map rpS).idxOf? (rpS t)=some (f.idxOf t) :=by
 have B:=List.idxOf_lt_length_iff.mpr h;rw[qdB];refine⟨by rw[qah];exact B,by rw[qdo,List.getElem_idxOf B],λj hj e=>?_⟩;rw[qdo]at e;have A:j<f.length:=by lia
 have:=Fm hn (q.subset (qbC A)) (q.subset h) e
 have h2:=hd.idxOf_getElem j A;lia
theorem yD (hn:n<=4) (q:f.Sublist (cf n)) (hd:f.Nodup) (N:(lT n).Nodup) (B:f.length<=16):dR [.d (bL kd (a6 (aD f) X)),.d (.str kd),.d (tsD f)] st=some (.d (.bl true),st):=by
 rw[uM q hd N];have u:∀ p∈a6 f X,p.1∈f/\p.2≠0:=λp G=>by
  obtain⟨t,h,rfl⟩:=qaJ.mp G;obtain⟨a,c⟩:=qbX.mp h;exact⟨a,of_decide_eq_true c⟩
 have pl:(a6 f X).length<=16:=by
  unfold a6;rw[qah];exact qaN (qcy _ _) B
 have hP:((a6 f X).map λp=>f.idxOf p.1).Pairwise (·<·):=by
  have e:(a6 f X).map (λp=>f.idxOf p.1)=(f.filter λt=>decide (X t≠0)).map λt=>f.idxOf t:=by unfold a6;rw[qaM];rfl
  rw[e];refine qfU (qfh.map _) ?_;rw[yz hd];exact List.pairwise_lt_range
 have S:lcI (.nm 0) aJ fq [none] (f.map ak) st=some ((f.map rpS).map D.str,st):=by
  rw[qaM];exact b8 _ λt h=>⟨_,U,ar (ab U U) (sM st hn (q.subset h))⟩
 have k2:lcI (.nm 0) aJ fm [none,Z (.lst ((f.map rpS).map D.str))] ((a6 f X).map ce) st=some (((a6 f X).map λp=>f.idxOf p.1).map λk:Nat=>D.int (k),st):=by
  have em:((a6 f X).map λp=>f.idxOf p.1).map (λk:Nat=>D.int (k))=(a6 f X).map λp=>D.int ((f.idxOf p.1)):=by rw[qaM];rfl
  rw[em];refine b8 _ λp G=>⟨[some _,some _],U,?_⟩;have h:=(u p G).1;have r:aa (iCB cB (aa (iOp dIx (iV 0) (iC (.int 0))) ae)) ae [Z (ce p),Z (.lst ((f.map rpS).map D.str))] st=some ([.d _],st):=ab (ar (ab (ac U U U) U) (sM st hn (q.subset h))) U;have v:iV 1 [Z (ce p),some _] st=some (.d (.lst ((f.map rpS).map D.str)),st):=rfl;have Y:k9 ((f.map rpS).map D.str)=some (f.map rpS):=by
   generalize f.map rpS=L
   induction L with
   |nil=>rfl
   |cons x L ih=>rw[qaz,k9,ih];rfl
  show uc _ _ _ _=_;simp only[uc,v,r,qac,Y];rw[iFP (by rw[qah];lia),zQ hn q hd h];rfl
 obtain⟨J,s',M,C,rfl,rfl⟩:=bI (g:=.nm 4) (body:=fB) (ds:=(a6 f X).map ce) (λi env s=>∃ C,env=[some _,some _,some _,some _,C,none]/\s=st) (env:=[Z (bL kd (a6 f X)),Z (.str kd),Z (tsD f),Z (.lst ((f.map rpS).map D.str)),none,none]) ⟨_,U,U⟩ (by
  rintro i d env s w ⟨C,rfl,rfl⟩
  rw[qay,qad]at w;obtain⟨p,R,rfl⟩:=w;obtain⟨h,h0⟩:=u p (qbS R);have I:=Cr s (qaJ.mpr ⟨p.1,h,U⟩:rpS p.1∈f.map rpS);have z:(p.2==0)=false:=by simpa using h0
  refine⟨_,_,_,U,.inl (ah (bn (dg (fG (k:=true) (f9 (ar (ab U (ab U U)) U))) (dg (aj (ar (ab U U) U) U U) (aj (ar (ab (ac U U U) U) (sM s hn (q.subset h))) U I))) U) (bn (dg (fG (k:=true) (f9 (ar (ab (ac U U U) (ab U U)) U))) (dg (f9 (ar (ab (ac U U U) (ab U U)) U)) (aj (ac U U U) U (by rw[cy,z])))) U)),_,U,U⟩)
 generalize E:(a6 f X).map _=P at *;have k3:lcI (.tp [0,1]) aJ cC [none,none] _ s'=some ((cg _ _).map λ_=>D.bl true,s'):=rX _ λd H=>by
  obtain⟨a,c,rfl,hac⟩:=xh hP d H;refine⟨_,U,ac U U ?_⟩;show some _=_;rw[decide_eq_true (by lia)]
 have kb:((cg (P.map λk:Nat=>D.int (k)) ((P.drop 1).map λk:Nat=>D.int (k))).map λ_=>D.bl true)=((cg (P.map λk:Nat=>D.int (k)) ((P.drop 1).map λk:Nat=>D.int (k))).map λ_=>true).map D.bl:=by rw[qaM];rfl
 rw[kb]at k3;have Q:(cg (P.map λk:Nat=>D.int (k)) ((P.drop 1).map λk:Nat=>D.int (k))).length<=1000000:=by
  rw[fK,qah,<-E,qah];lia
 have ta:((cg (P.map λk:Nat=>D.int (k)) ((P.drop 1).map λk:Nat=>D.int (k))).map λ_=>true).all id=true:=by rw[qeY];exact qaY.mpr λ_ _=>rfl
 have T:dSl s' (.d (.lst (P.map λk:Nat=>D.int (k)))) (some 1) none=some (.lst ((P.drop 1).map λk:Nat=>D.int (k))):=by
  show some _=_;rw[HF,qiP]
 have tl:(f.map ak).length<=1000000:=by rw[qah];lia
 have ql:((a6 f X).map ce).length<=1000000:=by rw[qah];lia
 have K:∀ {m o l y:Option W},aA (iOp dIx (iV 0) (iC (.int 1))) [Z (bL kd _),m,Z (tsD f),o,l,y] s'=some ((a6 f X).map ce,s'):=λ{m o l y}=>aX (ac U U U);have V:∀ {m o l y:Option W},aA (iV 2) [Z (bL kd (a6 f X)),m,some _,o,l,y] s'=some (f.map ak,s'):=λ{m o l y}=>aX U;have O:∀ {e0 m F o l:Option W},cp (aa (iV 5) (aa (iSl (iV 5) (iPs (iC (.int 1))) iPn) ae)) [e0,m,F,o,l,Z (.lst (P.map λk:Nat=>D.int (k)))] s'=some (cg _ _,s'):=λ{e0 m F o l}=>by
  simp only[cp,(ab (a:=iV 5) (b:=aa (iSl (iV 5) (iPs (iC (.int 1))) iPn) ae) (env:=[e0,m,F,o,l,Z (.lst (P.map λk:Nat=>D.int (k:Int)))]) (st:=s') U (ab (qsl U U U T) U)),qac];rfl
 have fin:=aC (GR (a:=aa (ap (iLc 2 [] _ _ aJ cC)) ae) (env:=[Z (bL kd (a6 f X)),Z (.str kd),Z (tsD f),Z (.lst ((f.map rpS).map D.str)),C,some _]) (ab (aq (aH O Q k3)) U));rw[ta]at fin;exact ax U (ah (bn (dg (fG (k:=true) (f9 (ar (ab U (ab U U)) U))) (dg (aj (ar (ab U U) U) U U) (dg (fG (k:=true) (f9 (ar (ab (ac U U U) (ab U U)) U))) (aj (ac U U U) U (Bm _ _))))) U) (ah (bn (fG (k:=true) (f9 (ar (ab (ac U U U) (ab U U)) U))) U) (ah (ao (aq (aH V tl S))) (ah (bg K M) (ah (ao (aq (aH K ql k2))) fin)))))
end
end Own
set_option maxHeartbeats 1000000
namespace Own
open PySem L2
open Sx (Pb Tb Good Named Fe LV ZV piv lexP leastR leaveL sumN unit colV basis)
def nzW (n:Nat) (w:Nat->Int):Bool:=((qak n).map w).any λx=>decide (x≠0)
theorem vR :nzW n w=false↔∀ r,r<n->w r=0 :=by
 unfold nzW;rw[qfN];constructor
 ·intro h r a
  have:=h _ (qaJ.mpr ⟨r,qaD.mpr a,U⟩)
  exact qfX λq=>this (decide_eq_true q)
 ·intro h x hx
  obtain⟨r,a,rfl⟩:=qaJ.mp hx;rw[h r (qaD.mp a)];decide
theorem FY (s) (n) (w):D6 s [.d (.tup (mpI n w))]=some (.bl (nzW n w)) :=by
 rw[bC];show (a5 _).map _=_;rw[bh];rfl
theorem ur:∀ (ns) (m),fZ ns m∈ns\/fZ ns m=m
 |[],m=>.inr U
 |n::ns,m=>by
  rw[fZ];rcases ur ns _ with h|h
  ·exact .inl (qaj _ h)
  ·rw[h]
   split
   ·exact .inl qag
   ·exact .inr U
theorem Dy (s) (h:0<n) (w):∃ b,yk s [.d (.tup (mpI n w))]=some (.int b)/\(∀ r,r<n->w r<=b)/\∃ r,r<n/\w r=b :=by
 have e:yk s [.d (.tup (mpI n w))]=(wZ ((qak n).map w) none).map D.int:=by
  rw[bC];show (a5 _).bind _=_;rw[bh,qac]
 have f:((qak n).map w).length=n:=by rw[qah,qaq]
 have hm:∀ x,x∈(qak n).map w↔∃ r,r<n/\w r=x:=λx=>by
  rw[qaJ];exact⟨λ⟨r,a,c⟩=>⟨r,qaD.mp a,c⟩,λ⟨r,a,c⟩=>⟨r,qaD.mpr a,c⟩⟩
 rw[e];generalize (qak n).map w=L at *;cases L with
 |nil=>rw[qcO]at f;lia
 |cons x L=>
  refine⟨_,U,λr i=>?_,?_⟩
  ·have:=(hm _).mpr ⟨r,i,U⟩
   have g:=xb L x;rcases qaw.mp this with q|q
   ·rw[q];exact g.1
   ·exact g.2 _ q
  ·refine (hm _).mp ?_
   rcases ur L x with q|q
   ·exact qaj _ q
   ·rw[q];exact qag
theorem fT:∀ n,(lT n).Nodup
 |0=>by simp[lT]
 |n+1=>by
  rw[lT,qcN];refine⟨fT n,?_,?_⟩
  ·refine qjc _ (λa b c=>?_) (fT n)
   intro e;exact c (List.append_cancel_right e)
  ·intro a d b hb e
   subst e;obtain⟨t,_,rfl⟩:=qaJ.mp hb
   have:=(fu n d).2 _ (qaB _ (qan.mpr U))
   lia
theorem yp (c:n<=4) (fl:fs.length=2^n) (fv:∀ u∈fs,mX u) (a:b.Sublist (cf n)):Spl fs b :=by
 have d:2^n<=16:=qaN (qbq (by decide) c) (by decide);refine⟨by lia,fv,?_,λt f=>?_,((aI _).nodup_iff.mpr (fT _)).sublist a⟩
 ·have:=a.length_le
  rw[m6]at this;lia
 ·have hm:=fu _ ((aI _).mem_iff.mp (a.subset f))
  have g:=sU hm;exact⟨λk e=>by have:=hm.2 k e;lia,by lia⟩
theorem F8 :bE 0 (mpI n w)=(qak n).map λr:Nat=>D.tup [.int (r),.int (w r)] :=by
 refine qa6 λi=>?_;rw[cD,qay];by_cases h:i<n
 ·rw[aU h,qaS h,qap,qap,qbg]
 ·rw[qav (by rw[av];lia),qav (by rw[qaq];lia)];rfl
section
variable {fs:List D}{b:Bool}{c:List (List Int)}
def db (fs:List D) (w:Nat->Int) (a:Int) (r:Nat):Int:=sz (fs.getD r .non)*(a - w r)
def jv (fs:List D) (b:Bool) (c:List (List Int)) (X:List Int->Int) (w:Nat->Int) (a:Int):D:=if nzW fs.length w=true then .tup [.str "other",.tup (mpI fs.length (db fs w a)),.int a] else .tup [.str "alone",bL (aF b) (a6 (aD c) X)]
theorem zm (h:Spl fs c) (k:0<fs.length) (hn:∀ r,r<fs.length->fs.getD r .non≠.non):∃ X w a,ju fs b c X w/\(∀ r,r<fs.length->w r<=a)/\(∃ r,r<fs.length/\w r=a)/\∀ st,iH [.d (.tup fs),.d (.str (aF b)),.d (tsD c)] st=some (.d (jv fs b c X w a),st) :=by
 obtain⟨X,w,S,y⟩:=Bj h;obtain⟨a,_,l,m2⟩:=Dy [] k w;refine⟨X,w,a,S,l,m2,λst=>?_⟩;obtain⟨u,e⟩:=y st;have m:=FY (st++u) fs.length w;have j:yk (st++u) [.d (.tup (mpI fs.length w))]=some (.int a):=by
  obtain⟨v,n,A,r,f,C⟩:=Dy (st++u) k w;obtain⟨q,p,B⟩:=m2
  rw[n,show v=a by
   have:=A q p
   have:=l r f
   lia]
 have t:lcI (.tp [0,1]) aJ pO [none,none,Z (.tup fs),Z (.int a)] (bE 0 (mpI fs.length w)) (st++u)=some (mpI fs.length (db fs w a),st++u):=by
  rw[F8];refine b8 _ λr f=>⟨_,U,?_⟩;have f:=qaD.mp f;have g:=hn r f;have hd:fs[r]?=some (fs.getD r .non):=by rw[qau,qai f];rfl
  have sg:=xK (st:=st++u) hd (dZ h f) g;have es:sgD _=sz _:=(iFN (GE g)).symm;rw[es]at sg
  exact ac (ai (ab U (ab U U)) sg) (ac U U U) (be _ (cL (by
   rcases sz3 (dZ h f) with q|q|q<;>rw[q]<;>decide)))
 have o:(bE 0 (mpI fs.length w)).length<=1000000:=by
  have:=h.fl
  rw[nB,av];lia
 have i:∃ s,ou [.d (.tup fs),.d (.str (aF b)),.d (tsD c)] st=some (.d (if nzW fs.length w=true then .tup [.str "bar",.tup (mpI fs.length w)] else .tup [.str "poly",bL (aF b) (a6 (aD c) X)]),s)/\s=st++u:=by
  refine⟨_,?_,U⟩;generalize nzW fs.length w=z at *;cases z with
  |true=>exact ax U (ah (ao (ai U e)) (dY (cw (f9 (ar (ab (ac U U (kQ _ _ _)) U) m)) U)))
  |false=>exact ax U (ah (ao (ai U e)) (ah (bn (f9 (ar (ab (ac U U (kQ _ _ _)) U) m)) U) U))
 obtain⟨s,i,rfl⟩:=i;unfold jv;have fin:∀ {x:D},wl ([W.d _,.d _,.d _].map some++qaG (5 - 3) none) st=some (.rt (.d x) (st++u))->iH [.d (.tup fs),.d (.str (aF b)),.d (tsD c)] st=some (.d x,st):=λ{x} hb=>by
  have:=dX U hb
  rw[(qis  U)]at this;exact this
 generalize nzW fs.length w=z at *;cases z with
 |true=>
  exact fin (ah (ao (ai U i)) (ah (bn (aj (ac U U (rS _ _ _)) U U) U) (ah (ao (ar (ab (ac U U (kQ _ _ _)) U) j)) (aC (uH (ab U (ab (ar (ab (aq (aH U o t)) U) U) (ab U U))) U (by show 3<=1000;decide))))))
 |false=>
  exact fin (ah (ao (ai U i)) (dY (cw (aj (ac U U (rS _ _ _)) U U) (aC (uH (ab U (ab (ac U U (kQ _ _ _)) U)) U (by show 2<=1000;decide))))))
end
end Own
set_option maxHeartbeats 1000000
namespace Own
open PySem L2
open Sx (Pb Tb Good Named Fe LV ZV piv lexP leastR leaveL sumN unit colV basis)
def rF (fs:List D):List Nat:=(qak fs.length).filter λr=>!cU (fs.getD r .non)
theorem AW :r∈rF fs↔r<fs.length/\fs.getD r .non≠.non :=by
 unfold rF;rw[qbX,qaD];generalize fs.getD r .non=d;refine and_congr_right λ_=>?_;cases d<;>simp[cU]
theorem Fg (fs):(rF fs).length<=fs.length :=by
 have:=qcy (λr=>!cU (fs.getD r .non)) (qak fs.length)
 rwa [qaq]at this
theorem zE (fs):bE 0 fs=(qak fs.length).map λr:Nat=>D.tup [.int (r),fs.getD r .non] :=by
 refine qa6 λi=>?_;rw[cD,qay];by_cases h:i<fs.length
 ·have e:fs.getD i .non=fs[i]:=by rw[qau,qai h];rfl
  rw[qaS h,qai h,qap,qap,e,qbg]
 ·rw[qav (by lia),qav (by rw[qaq];lia)];rfl
theorem G8 (fv:∀ u∈fs,mX u) (g:r∈rF fs) {V } (b:V env s=some (.d (.tup fs),s)) (e:R env s=some (.d (.int (r)),s)):iOp gB (iOp aR (iC (.int 2)) (iOp dIx V R)) (iC (.int 1)) env s=some (.d (.int (sz (fs.getD r .non))),s) :=by
 obtain⟨a,hn⟩:=AW.mp g;have c:fs[r]?=some (fs.getD r .non):=by rw[qau,qai a];rfl
 have f:mX (fs.getD r .non):=fv _ (by rw[qau,qai a];exact qbC a);have hx:=by
  exact di c
 rcases f with q|q|q
 ·exact absurd q hn
 all_goals
  rw[q]at hx ⊢;exact ac (ac U (ac b e hx) (be _ (cL (by decide)))) U U
section
variable {b:Bool}{c:List (List Int)}{X:List Int->Int}{w:Nat->Int}{st:Sto}{fs:List D}
theorem yL (h:Spl fs c) {r:Nat}:fW [.d (bL (aF b) (a6 (aD c) X)),.d (.int (r))] st=some (.d (.int (vlR b c (λt=>X (c.getD t [])) r)),st) :=by
 have g:∀ p∈a6 _ X,p.1∈c:=λp i=>by
  obtain⟨t,v,rfl⟩:=qaJ.mp i;exact (aI _).mem_iff.mp (qbX.mp v).1
 have A:(a6 (aD c) X).length<=16:=by
  unfold a6;rw[qah]
  have:=qcy (λt=>decide (X t≠0)) (aD c)
  rw[(aI _).length_eq]at this
  have:=h.tl
  lia
 have z:lS st [.d (.lst ((a6 (aD c) X).map λp=>D.int (p.2*a9 b p.1 (r))))]=some (.int (vlR b c (λt=>X (c.getD t [])) r)):=by
  have e:((a6 (aD c) X).map λp=>D.int (p.2*a9 b p.1 (r)))=((a6 (aD c) X).map λp=>p.2*a9 b p.1 (r)).map D.int:=by rw[qaM];rfl
  rw[e];show (a5 _).map _=_;rw[bh,qap,Al X (λt=>a9 b t _) c];rfl
 have l:((a6 (aD c) X).map ce).length<=1000000:=by rw[qah];lia
 exact ax U (aC (ar (ab (aq (aH (aX (ac U U U)) l (b8 _ λp i=>by
  refine⟨_,U,?_⟩;have e:=uo (st:=st) (b:=b) (row:=(r)) (by lia) (h.tt _ (g p i)).1 (by have:=(h.tt _ (g p i)).2;lia)
  exact ac U (ai (ab (ac U U U) (ab U (ab U U))) e) (be _ (cM (by have:=mT b p.1 (r);lia)))))) U) z))
theorem A6 (h:Spl fs c) (S:ju fs b c X w) (hz:∀ r,r<fs.length->w r=0):c8 [.d (bL (aF b) (a6 (aD c) X)),.d (.tup fs)] st=some (.d (.bl true),st):=by
 have y:=h.fl;have n:=Fg fs;have u:lcI (.tp [0,1]) eP eh [none,none] (bE 0 fs) st=some ((rF fs).map λr:Nat=>D.int (r),st):=by
  rw[zE];exact j0 _ _ λr j=>⟨_,U,U,U⟩
 have k2:lcI (.nm 0) aJ cn [none,Z (bL (aF b) (a6 (aD c) X)),Z (.tup fs)] ((rF fs).map λr:Nat=>D.int (r)) st=some (((rF fs).map λ_=>true).map D.bl,st):=by
  have em:((rF fs).map λ_=>true).map D.bl=(rF fs).map λ_=>D.bl true:=by rw[qaM];rfl
  rw[em];refine b8 _ λr j=>⟨_,U,?_⟩;obtain⟨f,hn⟩:=AW.mp j;obtain⟨p1,o⟩:=Bi h S f;have pos:0<vlR b c (λt=>X (c.getD t [])) r*sz (fs.getD r .non):=by
   rw[qaV];rcases qem p1 with q|q
   ·exact q
   ·exact absurd (hz r f) (o hn q.symm)
  refine ac (ac (ai (ab U (ab U U)) (yL (st:=st) (b:=b) (X:=X) h (r:=r))) (G8 (s:=st) (env:=[Z (.int (r:Int)),Z (bL (aF b) (a6 (aD c) X)),Z (.tup fs)]) (V:=iV 2) (R:=iV 0) h.fv j U U) (be _ (cM (by
   rcases sz3 (dZ h f) with q|q|q<;>rw[q]<;>decide)))) rfl ?_
  show some _=_;rw[decide_eq_true pos]
 have k:((rF fs).map λr:Nat=>D.int (r)).length<=1000000:=by rw[qah];lia
 have m:(bE 0 fs).length<=1000000:=by rw[nB];lia
 have x:((rF fs).map λ_=>true).all id=true:=by rw[qeY];exact qaY.mpr λ_ _=>rfl
 have fin:=aC (GR (a:=aa (ap (iLc 1 [0,1] (aA (iV 2)) _ aJ cn)) ae) (env:=[some _,some _,some _]) (ab (aq (aH (aT U) k k2)) U));rw[x]at fin;exact ax U (ah (ao (aq (aH U m u))) fin)
end
end Own
set_option maxHeartbeats 1000000
namespace Own
open PySem L2
open Sx (Pb Tb Good Named Fe LV ZV piv lexP leastR leaveL sumN unit colV basis)
theorem Ib {bs:List Bool} (h:a env st=some ([.d (.lst (bs.map D.bl))],s)):iCB zy a env st=some (.d (.bl (bs.any id)),s) :=by
 refine ar h ?_;show (gJ _).map _=_;rw[jh];rfl
theorem sgv (b:mX d) (hn:d≠.non) {V}(a:V env s=some (.d d,s)):iOp gB (iOp aR (iC (.int 2)) V) (iC (.int 1)) env s=some (.d (.int (sz d)),s) :=by
 rcases b with q|q|q
 ·exact absurd q hn
 all_goals
  rw[q]at a ⊢;exact ac (ac U a (be _ (cL (by decide)))) U U
theorem BB (hN:fs.length=N):cg (mpI N g) fs=(qak N).map λr:Nat=>D.tup [.int (g r),fs.getD r .non] :=by
 refine qa6 λi=>?_;rw[d6,qay];by_cases h:i<N
 ·have e:fs.getD i .non=fs[i]'(by lia):=by rw[qau,qai _];rfl
  rw[aU h,qaS h,qai _];show some _=some (D.tup [.int _,fs.getD i .non]);rw[e]
 ·rw[qav (by rw[av];lia),qav (l:=qak N) (by rw[qaq];lia)];rfl
theorem FN (hN:fs.length=N):cz (mpI N g) fs (mpI N v)=(qak N).map λr:Nat=>D.tup [.int (g r),fs.getD r .non,.int (v r)] :=by
 refine qa6 λi=>?_;rw[lh,qay];by_cases h:i<N
 ·have e:fs.getD i .non=fs[i]'(by lia):=by rw[qau,qai _];rfl
  rw[aU h,aU h,qaS h,qai _];show some _=some (D.tup [.int _,fs.getD i .non,.int _]);rw[e]
 ·rw[qav (by rw[av];lia),qav (l:=qak N) (by rw[qaq];lia)];rfl
section
variable {fs:List D}{b:Bool}{l:List (List Int)}{X:List Int->Int}{w:Nat->Int}{f:Int}
theorem Aq (h:Spl fs l) (y:t∈l) (e1:a=some (.d (.str (aF b)))) (e2:c=some (.d (ak t))) (N:te=az cc (aa (iV 1) (aa (iV 2) (aa (iV 0) ae)))):lcI (.nm 0) aJ te [none,a,c] ((qak fs.length).map λr:Nat=>D.int (r)) s=some (mpI fs.length λr=>a9 b t (r),s) :=by
 subst e1 e2 N;refine b8 _ λr j=>?_;obtain⟨h1,h2⟩:=h.tt t y;exact⟨_,U,ai (ab U (ab U (ab U U))) (uo (by lia) h1 (by lia))⟩
theorem vY (hl:fs.length<=16) (h:e0 env s=some (.d (.tup fs),s)):bA (aa (iCB aV (aa e0 ae)) ae) env s=some ((qak fs.length).map λr:Nat=>D.int (r),s) :=by
 rw[(jr (ar (ab h U) U) (by lia) (by lia) (qbc _))];refine congrArg (λz=>some (z,s)) (qcf λk _=>by rw[qcc])
theorem xw (h:Spl fs l) (S:ju fs b l X w) (B:∀ r,r<fs.length->w r<=f) (j:r<fs.length):-f<=db fs w f r/\db fs w f r<=f :=by
 have w0:=(S.w0 r j).1;have m:=B r j;unfold db;rcases sz3 (dZ h j) with q|q|q<;>rw[q]<;>lia
theorem vw (h:Spl fs l) (S:ju fs b l X w) (hn:∀ r,r<fs.length->fs.getD r .non≠.non) (B:∀ r,r<fs.length->w r<=f) (hz:nzW fs.length w=true) (st):cY [.d (.tup fs),.d (.str (aF b)),.d (tsD l),.d (.tup (mpI fs.length (db fs w f))),.d (.int f)] st=some (.d (.bl true),st) :=by
 have F:=h.fl;have hw:∃ r,r<fs.length/\w r≠0:=qfY λq=>by
  have:=vR.mpr λr j=>qfY λk=>q ⟨r,j,k⟩
  rw[hz]at this;cases this
 have hm1:1<=f:=by
  obtain⟨r,j,k⟩:=hw
  have:=(S.w0 r j).1
  have:=B r j
  lia
 have v:∀ r,r<fs.length->sz _=1\/sz _=-1:=λr j=>by
  rcases sz3 (dZ h j) with q|q|q
  ·exact absurd ((FA (dZ h j)).mp q) (hn r j)
  ·exact .inl q
  ·exact .inr q
 have p:∀ r,r<fs.length->∀ s,aR s _ _=some (.int (f*sz _)):=λr j s=>be _ (cM (by rcases v r j with q|q<;>rw[q]<;>decide))
 -- the numbers are small enough
 obtain⟨J,s',E,o,rfl,rfl⟩:=bI (g:=.nm 5) (body:=eI) (ds:=mpI fs.length (db fs w f)) (λi env s=>∃ o,env=[Z (.tup fs),Z (.str (aF b)),Z (tsD l),Z (.tup (mpI fs.length (db fs w f))),Z (.int f),o,none,none]/\s=st) ⟨_,U,U⟩ (by
  rintro i d env s hd ⟨o,rfl,rfl⟩
  have hi:=by
   have:=(qas.mp hd).1
   rwa [av]at this
  rw[aU hi,qgM]at hd;subst hd;obtain⟨a1,a2⟩:=xw h S B hi;generalize db fs w f i=g at *;have I:dGt s (.d (.int (if g<0 then -g else g))) (.d (.int f))=some (.bl false):=by
   show some (D.bl (decide (_ > _)))=_;rw[decide_eq_false (by split<;>lia)]
  exact⟨_,_,_,U,.inl (bn (dg (fG (k:=true) (f9 (ar (ab U (ab U U)) U))) (dg (f9 (k:=false) (ar (ab U (ab U U)) U)) (aj (ar (ab U U) U) U I))) U),_,U,U⟩)
 -- each term's sum
 obtain⟨K,u,H,A,x,rfl,rfl⟩:=bI (g:=.nm 6) (body:=eG) (ds:=l.map ak) (λi env s=>∃ A x,env=[some _,some _,some _,some _,some _,o,A,x]/\s=s') (env:=[Z (.tup fs),Z (.str (aF b)),Z (tsD l),Z (.tup (mpI fs.length (db fs w f))),Z (.int f),o,none,none]) ⟨_,_,U,U⟩ (by
  rintro i d env s hd ⟨A,x,rfl,rfl⟩
  rw[qay,qad]at hd;obtain⟨t,Q,rfl⟩:=hd;have y:=qbS Q;have R:=Aq (b:=b) h y (s:=s) U U U;have k3:lcI (.tp [0,1,2]) aJ ef [none,none,none,Z (.int f)] (cz (mpI fs.length (db fs w f)) fs (mpI fs.length λr=>a9 b t (r:Nat))) s=some ((qak fs.length).map λr:Nat=>D.int (-(w r*sz (fs.getD r .non)*a9 b t (r:Nat))),s):=by
   rw[FN U];refine b8 (g:=λr:Nat=>D.tup [.int (db fs w f r),fs.getD r .non,.int (a9 b t (r:Nat))]) _ λr j=>⟨_,U,?_⟩;have j:=qaD.mp j;have e:db fs w f r - f*sz (fs.getD r .non)=-(w r*sz (fs.getD r .non)):=by
    unfold db;rcases v r j with q|q<;>rw[q]<;>lia
   have Y:qbW (db fs w f r - f*sz (fs.getD r .non)) (a9 b t (r:Nat)):=cM (by have:=mT b t (r:Nat);lia)
   have:=p r j s
   have sg:=sgv (dZ h j) (hn r j) (s:=s) (V:=iV 1) (env:=[Z (.int (db fs w f r)),Z (fs.getD r .non),Z (.int (a9 b t (r:Nat))),Z (.int f)]) U;rw[<-qdd,<-e];exact ac (ac U (ac U sg this) U) U (be _ Y)
  have T:lS s [.d (.lst ((qak fs.length).map λr:Nat=>D.int (-(w r*sz (fs.getD r .non)*a9 b t (r:Nat)))))]=some (.int 0):=by
   have e:((qak fs.length).map λr:Nat=>D.int (-(w r*sz (fs.getD r .non)*a9 b t (r:Nat))))=((qak fs.length).map λr:Nat=>-(w r*sz (fs.getD r .non)*a9 b t (r:Nat))).map D.int:=by rw[qaM];rfl
   rw[e];show (a5 _).map (λns=>D.int ns.sum)=_;rw[bh,qap,oU];have hb:=Fx h S t y;have e3:(sumN fs.length λr=>-(w r*sz (fs.getD r .non)*a9 b t (r:Nat)))=-1*sumN fs.length λr=>w r*sz (fs.getD r .non)*a9 b t r:=by
    rw[<-Sx.sumN_mul];exact Sx.sumN_congr λr _=>by rw[qdd,qc0]
   rw[e3,hb];rfl
  have P:(cz (mpI fs.length (db fs w f)) fs (mpI fs.length λr=>a9 b t (r:Nat))).length<=1000000:=by rw[li,av,av];lia
  have M:((qak fs.length).map λr:Nat=>D.int (r:Int)).length<=1000000:=by rw[qah,qaq];lia
  generalize mpI fs.length (db fs w f)=G at *;generalize (mpI fs.length λr=>a9 b t (r:Nat))=OW at *;generalize ((qak fs.length).map λr:Nat=>D.int (-(w r*sz (fs.getD r .non)*a9 b t (r:Nat))))=L at *;generalize aF b=kd at *;have O:qV (aa (iV 3) (aa (iV 0) (aa (iV 7) ae))) [Z (.tup fs),Z (.str kd),Z (tsD l),Z (.tup G),Z (.int f),o,Z (ak t),Z (.lst OW)] s=some (cz G fs OW,s):=rfl
  refine⟨_,_,_,U,.inl (ah (ao (i:=7) (aq (aH (vY (e0:=iV 0) (env:=[Z (.tup fs),Z (.str (aF b)),Z (tsD l),Z (.tup (mpI fs.length (db fs w f))),Z (.int f),o,Z (ak t),x]) (s:=s) F U) M R))) (bn (aj (ar (ab (aq (aH O P k3)) U) T) U U) U)),_,_,U,U⟩)
 -- and some row is another
 have k4:lcI (.tp [0,1]) aJ cm [none,none,Z (.int f)] (cg (mpI fs.length (db fs w f)) fs) u=some (((qak fs.length).map λr=>decide (w r≠0)).map D.bl,u):=by
  rw[BB U,qaM];refine b8 _ λr j=>⟨_,U,?_⟩;have j:=qaD.mp j;refine ac U (ac U (sgv (dZ h j) (hn r j) (s:=u) (V:=iV 1) (env:=[Z (.int (db fs w f r)),Z (fs.getD r .non),Z (.int f)]) U) (p r j u)) ?_;rw[DA];have e:(db fs w f r==f*sz (fs.getD r .non))=decide (w r=0):=by
   unfold db;rcases v r j with q|q<;>rw[q]<;>lia
  rw[e];show some _=some (D.bl (decide _));by_cases q:w r=0
  ·rw[decide_eq_true q,decide_eq_false (λz=>z q)];rfl
  ·rw[decide_eq_false q,decide_eq_true q];rfl
 have ta:((qak fs.length).map λr=>decide (w r≠0)).any id=true:=by
  obtain⟨r,j,k⟩:=hw;exact qdq.mpr ⟨true,qaJ.mpr ⟨r,qaD.mpr j,decide_eq_true k⟩,U⟩
 have C:(cg (mpI fs.length (db fs w f)) fs).length<=1000000:=by rw[fK,av];lia
 have lg:dNe u (.d (.int ((mpI fs.length (db fs w f)).length:Nat))) (.d (.int (fs.length:Nat)))=some (.bl false):=by
  rw[av,DA];simp
 have l1:dLt u (.d (.int f)) (.d (.int 1))=some (.bl false):=by
  show some _=_;rw[decide_eq_false (by lia)]
 generalize mpI fs.length _=G at *;generalize aF b=kd at *;have fin:=aC (Ib (a:=aa (ap (iLc 2 [4] (cp (aa (iV 3) (aa (iV 0) ae))) (.tp [0,1]) aJ cm)) ae) (env:=[Z (.tup fs),Z (.str kd),Z (tsD l),Z (.tup G),Z (.int f),o,A,x]) (st:=u) (ab (aq (aH U C k4)) U));rw[ta]at fin;exact ax (n:=8) (k:=5) U (ah (bn (dg (fG (k:=true) (f9 (ar (ab U (ab U U)) U))) (dg (f9 (ar (ab U (ab U U)) U)) (aj U U l1))) U) (ah (bn (dg (fG (k:=true) (f9 (ar (ab U (ab U U)) U))) (aj (ar (ab U U) U) (ar (ab U U) U) lg)) U) (ah (bg (aX U) E) (ah (bg (aX U) H) fin))))
end
end Own
set_option maxHeartbeats 1000000
namespace Own
open PySem L2
open Sx (Pb Tb Good Named Fe LV ZV piv lexP leastR leaveL sumN unit colV basis)
theorem sH (c:a env st=some (.d (.bl true),s)) (hb:b env s=r):nF a b env st=r :=by
 simp only[nF,c,qac];exact hb
section
variable {fs:List D}{b:Bool}{c:List (List Int)}{X:List Int->Int}{w:Nat->Int}{f:Int}{n:Nat}
theorem Bf (i:n<=4) (p:c.Sublist (cf n)) (h:Spl fs c) (S:ju fs b c X w) (hn:∀ r,r<fs.length->fs.getD r .non≠.non) (j:∀ r,r<fs.length->w r<=f) (st):cZ [.d (.tup fs),.d (.str (aF b)),.d (tsD c),.d (jv fs b c X w f)] st=some (.d (.bl true),st) :=by
 cases q:nzW fs.length w with
 |true=>
  have e:=vw h S hn j q st;unfold jv;rw[q];generalize mpI fs.length _=G at *;have a:∀ s,dIx s (.d (.tup [.str "other",.tup G,.int f])) (.d (.int 0))=some _:=λ_=>rfl
  exact ax U (ah (bn (dg (fG (k:=true) (f9 (ar (ab U (ab U U)) U))) (dg (aj (ar (ab U U) U) U U) (fG (k:=true) (f9 (ar (ab (ac U U (a _)) (ab U U)) U))))) U) (ah (bn (kY (aj (ac U U (a _)) U U)) U) (aC (sH (ac (ac U U (a _)) U U) (sH (ac (ar (ab U U) U) U U) (ai (ab U (ab U (ab U (ab (ac U U ((λ_=>rfl) _)) (ab (ac U U ((λ_=>rfl) _)) U))))) e))))))
 |false=>
  have o:c.length<=16:=by
   have:=h.tl
   lia
  have l:=yD (st:=st) (kd:=aF b) (X:=X) i p h.nd (fT n) o;have m:=A6 (st:=st) h S (vR.mp q);unfold jv;rw[q];generalize bL _ _=P at *;have g:∀ s,dIx s (.d (.tup [.str "alone",P])) (.d (.int 1))=some P:=λ_=>rfl
  have a:∀ s,dIx s (.d (.tup [.str "alone",P])) (.d (.int 0))=some _:=λ_=>rfl
  exact ax U (ah (bn (dg (fG (k:=true) (f9 (ar (ab U (ab U U)) U))) (dg (aj (ar (ab U U) U) U U) (fG (k:=true) (f9 (ar (ab (ac U U (a _)) (ab U U)) U))))) U) (dY (cw (kZ (aj (ac U U (a _)) U U) (aj (ar (ab U U) U) U U)) (aC (sH (ai (ab (ac U U (g _)) (ab U (ab U U))) l) (ai (ab (ac U U (g _)) (ab U U)) m))))))
end
end Own
set_option maxHeartbeats 1000000
namespace Own
open PySem L2
open Sx (Pb Tb Good Named Fe LV ZV piv lexP leastR leaveL sumN unit colV basis)
theorem zH (e:cx g (.d d) env=some a) (c:body a st=some (.nx b s)):bH g body (d::ds) env st=bH g body ds b s :=by
 rw[bH,e,qac,c,qac]
theorem GS (h:a env st=some ([x,y],s)):uf i j a env st=some (.nx ((env.set i (some x)).set j (some y)) s) :=by
 simp only[uf,h,qac]
theorem AU (h:a env st=some ([x,y,z],s)):jJ i j l a env st=some (.nx (((env.set i (some x)).set j (some y)).set l (some z)) s) :=by
 simp only[jJ,h,qac]
theorem G7 (s):∀ {n:Nat},n<=4->BU s (.d (.int 1)) (.d (.int (n)))=some (.int ((2^n:Nat)))
 |0,_=>rfl
 |1,_=>rfl
 |2,_=>rfl
 |3,_=>rfl
 |4,_=>rfl
def V01 (d:D):Prop:=d=.int 0\/d=.int 1
theorem HV (x):V01 (.int (x%2)) :=by
 have:=Int.emod_two_eq x
 rcases this with q|q<;>rw[q]
 ·exact .inl U
 ·exact .inr U
theorem GH {x1 x2:Int}{n:Nat} (hn:n<=4) { e0:Ev} (j:jI 1 js env=none::e0) (g:iV 1 env s=some (.d (.int (n)),s)) (l:∀ k:Nat,∃ p,tt (Z (.int (k))::e0) s=some (p,s)) (i:∀ k:Nat,te (Z (.int (k))::e0) s=some (.d (.int (k)),s)):∃ c,iCB aV (aa (ap (iLc 1 js (bA (aa (iV 1) ae)) (.nm 0) tt te)) ae) env s=some (.d (.int c),s) :=by
 have b:∃ a,lcI (.nm 0) tt te (none::e0) (cW 0 n) s=some (a,s):=by
  have:∀ f:List Nat,∃ a,lcI (.nm 0) tt te (none::e0) (f.map λk:Nat=>D.int (k)) s=some (a,s):=λf=>by
   refine⟨_,j0 (λk:Nat=>D.int (k)) (λk=>((tt (Z (.int (k))::e0) s).map qdg).getD false) λk _=>?_⟩;obtain⟨p,h⟩:=l k;refine⟨some _::e0,U,?_,i k⟩;rw[h];rfl
  obtain⟨a,e⟩:=this _;refine⟨a,?_⟩;rw[<-e];refine congrArg (λz=>lcI _ tt te _ z s) ?_;exact qcf λk _=>by rw[qcc]
 obtain⟨a,b⟩:=b;exact⟨_,ar (ab (aq (aH (jr g (by lia) (by lia) (qbc n)) (by rw[ki];lia) (by rw[j];exact b))) U) U⟩
theorem six (s) (h:0<=w) (b:w<6):∃ x,dIx s (.d (.lst [.int a,.int c,.int d,.int e,.int f,.int g])) (.d (.int w))=some (.int x) :=by
 have:w=0\/w=1\/w=2\/w=3\/w=4\/w=5:=by lia
 rcases this with rfl|rfl|rfl|rfl|rfl|rfl
 ·exact⟨a,U⟩
 ·exact⟨c,U⟩
 ·exact⟨d,U⟩
 ·exact⟨e,U⟩
 ·exact⟨f,U⟩
 ·exact⟨g,U⟩
theorem Ha (p) (A):lg (spo p [.l A]) 2=some A :=rfl
theorem Iz (p) (A B):(spo p [.l A]).set 2 (.l B)=spo p [.l B] :=rfl
section
variable {n:Nat}{w mk z C:Int}
theorem G4 (hn:n<=4) (w0:0<=w) (G:w<6) (h:okP p Zq) (F:Zq<900000000) (r:Nat) (hA:A.length<1000) (x2 x3 f e b c):∃ v y u i t s,V01 v/\okP y (Zq+1)/\jl [some (.h 1),Z (.int (n)),x2,x3,Z (.int w),Z (.int mk),Z (.int z),Z (.int C),some (.h 2),Z (.int (r)),f,e,b,c] (spo p [.l A])=some (.nx [some (.h 1),Z (.int (n)),x2,x3,Z (.int w),Z (.int mk),Z (.int z),Z (.int C),some (.h 2),Z (.int (r)),u,i,t,s] (spo y [.l (A++[v])])) :=by
 obtain⟨c1,K⟩:=GH (x1:=0) (x2:=0) hn (js:=[9]) (tt:=oW) (te:=nn) (env:=[some _,some _,x2,x3,some _,some _,some _,some _,some _,some _,f,e,b,c]) U U (λk=>⟨_,aj (ac (ac U U (Bg _ (by lia))) U U) U (cy _ _ _)⟩) λk=>rfl;obtain⟨c2,P⟩:=GH (x1:=0) (x2:=0) hn (js:=[9,5]) (tt:=oV) (te:=nk) (env:=[some _,some _,x2,x3,some _,Z (.int mk),some _,some _,some _,Z (.int _),some _,e,b,c]) U U (λk=>⟨_,aj (ac (ac (ac U U U) U (Bg _ (by lia))) U U) U (cy _ _ _)⟩) λk=>rfl;obtain⟨d,y,d0,d1,Q,V⟩:=ck (m:=2) h F (by decide) (by decide);obtain⟨x,hx⟩:=six _ w0 G;refine⟨.int ((x+C)%2),y,Z (.int c1),Z (.int c2),Z (.int d),Z (.lst [.int d,.int d,.int (c2%2),.int (if decide (z<=c1)=true then 1 else 0),.int (if ((r)==mk)=true then 1 else 0),.int (if (qdG (r) mk==mk)=true then 1 else 0)]),HV _,Q,?_⟩;exact ah (ao K) (ah (ao P) (ah (ao (ai (ab U (ab U U)) (V [.l A]))) (ah (ao (aq (xG (ab U (ab U (ab (ac U U (fO _ (by decide))) (ab (ar (ab (ac U U U) U) U) (ab (ar (ab (ac U U (cy _ _ _)) U) U) (ab (ar (ab (ac (ac U U U) U (cy _ _ _)) U) U) U)))))) U (by show 6<=1000;decide)))) (Fc (o:=iV 8) (a:=iOp fk (iOp aZ (iOp dIx (iV 13) (iV 4)) (iV 7)) (iC (.int 2))) (env:=[some (.h 1),Z (.int (n)),x2,x3,some _,Z (.int mk),Z (.int z),Z (.int C),some _,Z (.int (r)),Z (.int c1),Z (.int c2),Z (.int d),some _]) U (ac (ac (ac U U hx) U U) U (fO _ (by decide))) (Ha y A) (Ha y A) (by lia)))))
theorem Ba (hn:n<=4) (w0:0<=w) (G:w<6) (x2 x3:Option W):∀ (g j:Nat) {p:Spo}{Zq:Int} (h:okP p Zq) (F:Zq+g<900000000) {A:List D} (hA:A.length+g<1000) (H:∀ d∈A,V01 d) (E f e b c:Option W),∃ B y M u i t s,B.length=A.length+g/\(∀ d∈B,V01 d)/\okP y (Zq+g)/\bH (.nm 9) jl ((qdL j g).map λr:Nat=>D.int (r:Int)) [some (.h 1),Z (.int (n:Int)),x2,x3,Z (.int w),Z (.int mk),Z (.int z),Z (.int C),some (.h 2),E,f,e,b,c] (spo p [.l A])=some (.nx [some (.h 1),Z (.int (n:Int)),x2,x3,Z (.int w),Z (.int mk),Z (.int z),Z (.int C),some (.h 2),M,u,i,t,s] (spo y [.l B]))
 |0,j,p,Zq,h,F,A,hA,H,E,f,e,b,c=>⟨A,p,E,f,e,b,c,U,H,h.mono (by lia),U⟩
 |g+1,j,p,Zq,h,F,A,hA,H,E,f,e,b,c=>by
  obtain⟨v,p1,I,N,L,J,O,T,K⟩:=G4 hn w0 G h (by lia) j (A:=A) (by lia) x2 x3 f e b c
  obtain⟨B,X,M,u,i,t,s,S,hb,R,P⟩:=Ba hn w0 G x2 x3 g _ T (by lia) (A:=A++[v]) (by rw [qaA];show A.length+1+g < _;lia) (λd hd=>by
   rcases qaT.mp hd with q|q
   ·exact H d q
   ·rw[qan.mp q];exact O) _ I N L J
  refine⟨B,X,M,u,i,t,s,by rw[S,qaA];show A.length+1+g=_;lia,hb,R.mono (by lia),?_⟩;exact (zH U K).trans P
end
theorem Gw {n:Nat} (hn:n<=4) (h:okP p Zq) (Q:Zq+100<900000000):∃ fs j,fs.length=2^n/\(∀ u∈fs,V01 u)/\okP j (Zq+30)/\on [.h 1,.d (.int (n)),.d (.bl true)] (spo p [])=some (.d (.tup fs),spo j []) :=by
 have R:2^n<=16:=qaN (qbq (by decide) hn) (by decide);have q:=qeb n;obtain⟨w,p1,w0,J,G,e⟩:=ck (m:=6) h (by lia) (by decide) (by decide);obtain⟨mk,Y,m0,P,C,g⟩:=ck (m:=((2^n))) G (by lia) (by lia) (by lia);obtain⟨M,S,T,X,H,E⟩:=ck (m:=(n)+2) C (by lia) (by lia) (by lia);obtain⟨W,N,V,O,K,z⟩:=ck (m:=4) H (by lia) (by decide) (by decide);obtain⟨A,i,L,y,I,F,B,a,f,t,o⟩:=Ba hn w0 J _ _ (2^n) 0 K (by lia) (A:=[]) (by show 0+_<_;lia) (λd hd=>(nomatch hd)) none none none none none
 have a:A.length=2^n:=by rw[a];show 0+_=_;lia
 have e:=e [];have g:=g [];have v:=G7 (spo p []) hn;have c:(qdL 0 (2^n)).map (λr:Nat=>D.int (r))=cW 0 (2^n):=by
  unfold cW;rw[qdZ];exact qcf λk _=>by rw[qcc]
 rw[c]at o;refine⟨A,i,a,f,t.mono (by lia),?_⟩;exact dX (n:=14) (k:=3) (b:=tH) (ws:=[.h 1,.d (.int (n:Int)),.d (.bl true)]) (st:=spo p []) (s:=spo i [.l A]) (x:=.tup A) U (ah (GS (ab (ac U U v) (ab (ai (ab U (ab U U)) e) U))) (ah (AU (ab (ai (ab U (ab U U)) g) (ab (ai (ab U (ab (ac U U U) U)) (E [])) (ab (ac (ai (ab U (ab U U)) (z [])) U (l7 _ (by decide))) U)))) (ah U (ah (bg (jr U (by lia) (by lia) (qbc _)) o) (ah (bn (kY U) U) (aC (ar (ab U U) U)))))))
theorem Fu (h:okP p Zq) (C:Zq+100<900000000) (hA:A.length<=16):∃ (B:List _) (o:Spo),B.Sublist A/\okP o (Zq+20)/\lcI (.nm 0) cN cJ [none,some (.h 1),Z (.int w)] (A.map ak) (spo p [])=some (B.map ak,spo o []) :=by
 obtain⟨E,z,l,ls,a,v,f,k,rfl⟩:=rW (g:=.nm 0) (te:=cJ) (env:=[none,some _,some _])
  (λi q s=>∃ ls p,q=ls.map ak/\ls.Sublist (A.take i)/\okP p (Zq+i)/\s=spo p []) ⟨[],p,U,List.nil_sublist _,h.mono (by lia),U⟩ (λi d q s hd ⟨ls,p1,e,f,k,es⟩=>by
   subst e es;rw[qay]at hd;obtain⟨t,u,rfl⟩:=qad.mp hd;have hi:=(qas.mp u).1;have j:A.take (i+1)=A.take i++[t]:=by rw[List.take_add_one,u];rfl
   obtain⟨r,a,D,y,x,l⟩:=ck (m:=2+w%2) k (by lia) (by lia) (by lia);have n:cN [Z (ak t),some _,some _] _=some (decide _,spo a []):=aj (ai (ab U (ab (ac U (ac U U (fO _ (by decide))) U) U)) (l [])) U U;refine⟨_,U,?_⟩;have b:okP a (Zq+((i+1))):=x.mono (by lia);generalize decide (r > 0)=c at n;cases c with
   |true=>exact .inl ⟨_,_,_,n,U,ls++[t],a,by rw[qci];rfl,by rw[j];exact f.append (qj7 _),b,U⟩
   |false=>exact .inr ⟨_,n,ls,a,U,by rw[j];exact f.trans (List.sublist_append_left _ _),b,U⟩)
 rw[qah,qdT]at f;rw[qah]at k;exact⟨ls,a,f,k.mono (by lia),by rw[l];rw[<-v];rfl⟩
theorem Ac {n:Nat} (hn:n<=4) (h:okP p Zq) (L:Zq+200<900000000):∃ v y,v.Sublist (cf n)/\okP y (Zq+30)/\ig [.h 1,.d (.int (n))] (spo p [])=some (.d (tsD v),spo y []) :=by
 have hA:(cf n).length<=16:=by
  rw[m6];exact qaN (qbq (by decide) hn) (by decide)
 obtain⟨w,p1,w0,J,H,E⟩:=ck (m:=4) h (by lia) (by decide) (by decide);obtain⟨z,e,M,N,l,C⟩:=ck (m:=(n)+1) H (by lia) (by lia) (by lia);have hz:((cf n).map ak).length<=1000000:=by rw[qah];lia
 have pre:∀ {r:Option Fl},ag (bb (aE dEq (iV 3) (iC (.int 0))) (aN (iCB dk (aa (ap (iLc 1 [4] (aA (iV 2)) (.nm 0) jb i4)) ae))) aQ) (ag (bb (aE dEq (iV 3) (iC (.int 1))) (aN (iCB dk (aa (iSl (iV 2) (iPs (iV 4)) (iPs (iOp aZ (iV 4) (az aL (aa (iV 0) (aa (iC (.int 2)) ae)))))) ae))) aQ) (aN (iCB dk (aa (ap (iLc 1 [0,3] (aA (iV 2)) (.nm 0) cN cJ)) ae)))) [some (.h 1),Z (.int (n:Int)),Z (.lst ((cf n).map ak)),Z (.int w),Z (.int z)] (spo e [])=r->lm ([W.h 1,.d (.int (n:Int))].map some++qaG (5 - 2) none) (spo p [])=r:=λ{r} I=>
  ah (AU (ab (ai (ab U U) (yK (st:=spo p []) hn)) (ab (ai (ab U (ab U U)) (E [])) (ab (ai (ab U (ab (ac U U U) U)) (C [])) U)))) I
 have c:∀ (k:Int) (s:Sto),aE dEq (iV 3) (iC _) [some (.h 1),Z (.int (n)),Z (.lst ((cf n).map ak)),some _,Z (.int z)] s=some (w==k,s):=λk s=>aj U U (cy _ _ _);by_cases A:w=0
 ·subst A
  refine⟨(cf n).filter λt=>decide ((t.length)<=z),e,qfh,l.mono (by lia),?_⟩
  exact ax U (pre (dY (cw (c 0 _) (aC (ar (ab (aq (aH (aT U) hz (j0 ak _ λt K=>⟨_,U,by
   show some (decide _,spo e [])=_
   rw[qah],U⟩))) U) U)))))
 ·have G:(w==(0))=false:=by simp[A]
  have i:=c 0 (spo e []);rw[G]at i;by_cases x:w=1
  ·subst x
   obtain⟨d,f,d0,d1,q,o⟩:=ck (m:=2) l (by lia) (by decide) (by decide);have u:∃ B:List _,B.Sublist (cf n)/\gM ((cf n).map ak) (some z) (some (z+d))=B.map ak:=by
    unfold gM;exact⟨_,(qh2 _ _).trans (List.drop_sublist _ _),by rw[List.map_take,qiP]⟩
   obtain⟨B,j,u⟩:=u;have D:dSl (spo f []) (.d (.lst ((cf n).map ak))) (some z) (some (z+d))=some (.lst (B.map ak)):=by
    show some _=_;rw[u]
   refine⟨B,f,j,q.mono (by lia),?_⟩;have hi:iPs (iOp aZ (iV 4) (az aL (aa (iV 0) (aa (iC (.int 2)) ae)))) [some (.h 1),Z (.int (n:Int)),Z (.lst ((cf n).map ak)),Z (.int 1),Z (.int z)] (spo e [])=some (some (z+d),spo f []):=by
    simp only[iPs,(ac (g:=aZ) (a:=iV 4) (b:=az aL (aa (iV 0) (aa (iC (.int 2)) ae))) (env:=[some (.h 1),Z (.int (n:Int)),Z (.lst ((cf n).map ak)),Z (.int 1),Z (.int z)]) (st:=spo e []) U (ai (ab U (ab U U)) (o [])) U),qac];rfl
   exact ax U (pre (ah (bn i U) (dY (cw (c 1 _) (aC (ar (ab (qsl U U hi D) U) U))))))
  ·have F:(w==(1))=false:=by simp[x]
   have c1:=c 1 (spo e []);rw[F]at c1;obtain⟨B,f,j,q,o⟩:=Fu l (by lia) hA;refine⟨B,f,j,q.mono (by lia),?_⟩;exact ax U (pre (ah (bn i U) (ah (bn c1 U) (aC (ar (ab (aq (aH (aT U) hz o)) U) U)))))
end Own
set_option maxHeartbeats 1000000
namespace Own
open PySem L2
open Sx (Pb Tb Good Named Fe LV ZV piv lexP leastR leaveL sumN unit colV basis)
theorem DN (s) (h:rpD (.tup ds)=true/\wtD (.tup ds)<=16000000/\dpD (.tup ds)<=50):cB s [.d (.tup ds)]=some (.str (toP (.tup ds)).shown) :=by
 show (if rpD _=true/\wtD _<=16000000/\dpD _<=50 then some _ else none)=_;rw[iFP h]
theorem rE (h:Sm x):rpD (.int x)=true/\wtD (.int x)<=2000/\dpD (.int x)<=1 :=by
 refine⟨?_,qao _,qao _⟩;rw[rpD,decide_eq_true_iff];by_cases z:x.natAbs=0
 ·rw[z];decide
 ·exact (qhS z).mpr (qaP h (qbq (by decide) (by decide)))
theorem oZ {W  } (hN:ds.length<=N) (h:∀ d∈ds,rpD d=true/\wtD d<=W/\dpD d<=K):rpD (.tup ds)=true/\wtD (.tup ds)<=(W+2)*N+5/\dpD (.tup ds)<=K+1 :=by
 obtain⟨a,c,e⟩:=r8 h
 have:=Nat.mul_le_mul_left (W+2) hN
 rw[wtD,dpD];exact⟨a,by lia,by lia⟩
theorem wf {W } (b:rpD x=true/\wtD x<=W/\dpD x<=K) (a:rpD y=true/\wtD y<=W/\dpD y<=K):rpD (.tup [x,y])=true/\wtD (.tup [x,y])<=(W+2)*2+5/\dpD (.tup [x,y])<=K+1 :=oZ (qao 2) λd hd=>by
 rcases qaw.mp hd with rfl|hd
 ·exact b
 ·rw[qan.mp hd];exact a
theorem pe {W   } (h:rpD x=true/\wtD x<=W/\dpD x<=K) (a:W<=W') (b:K<=K'):rpD x=true/\wtD x<=W'/\dpD x<=K' :=⟨h.1,qaN h.2.1 a,qaN h.2.2 b⟩
theorem Hr (hn:n<=3) (a:t∈cf n):rpD (ak t)=true/\wtD (ak t)<=6011/\dpD (ak t)<=2 :=by
 have h:=fu n ((aI _).mem_iff.mp a);have b:=sU h;refine oZ (N:=3) (W:=2000) (by rw[qah];lia) λd hd=>?_;obtain⟨x,hx,rfl⟩:=qaJ.mp hd;refine rE ?_
 have:=h.2 x hx
 have:x=0\/x=1\/x=2:=by lia
 unfold Sm;rcases this with rfl|rfl|rfl<;>decide
section
variable {fs:List D}{b:Bool}{a:List (List Int)}{X:List Int->Int}{w:Nat->Int}{c:Int}{n:Nat}
theorem CN (hn:n<=3) (e:a.Sublist (cf n)) (u:∀ t∈a,Sm (X t)):rpD (bL (aF b) (a6 (aD a) X))=true/\wtD (bL (aF b) (a6 (aD a) X))<=1000000/\dpD (bL (aF b) (a6 (aD a) X))<=8:=by
 have g:=e.length_le;have k:(cf n).length<=8:=by
  rw[m6];exact qaN (qbq (by decide) hn) (by decide)
 have o:((a6 (aD a) X).map ce).length<=8:=by
  unfold a6;rw[qah,qah]
  have:=qcy (λt=>decide (X t≠0)) (aD a)
  rw[(aI a).length_eq]at this;lia
 have f:rpD (.str (aF b))=true/\wtD (.str (aF b))<=400000/\dpD (.str (aF b))<=4:=by
  cases b<;>exact⟨U,by decide +kernel,by decide +kernel⟩
 exact pe (wf f (pe (oZ o λd hd=>by
  obtain⟨p,l,rfl⟩:=qaJ.mp hd;obtain⟨t,q,rfl⟩:=qaJ.mp l;have hm:=(aI a).mem_iff.mp (qbX.mp q).1
  exact wf (Hr hn (e.subset hm)) (pe (rE (u t hm)) (by decide) (by decide))) (by decide) (by decide))) (by decide) (by decide)
theorem DZ (hn:n<=3) (fl:fs.length=2^n) (e:a.Sublist (cf n)) (h:Spl fs a) (S:ju fs b a X w) (m:∀ r,r<fs.length->w r<=c) (m2:∃ r,r<fs.length/\w r=c) (s):∃ T,cB s [.d (jv fs b a X w c)]=some (.str T) :=by
 have k:fs.length<=8:=by
  rw[fl];exact qaN (qbq (by decide) hn) (by decide)
 unfold jv;cases nzW fs.length w with
 |true=>
  have j:Sm c:=by
   obtain⟨r,v,rfl⟩:=m2;exact (S.w0 r v).2
  have f:rpD (.str "other")=true/\wtD (.str "other")<=400000/\dpD (.str "other")<=4:=⟨U,by decide +kernel,by decide +kernel⟩
  exact⟨_,DN s (pe (oZ (qao 3) λd hd=>by
   rcases qaw.mp hd with rfl|hd
   ·exact f
   rcases qaw.mp hd with rfl|hd
   ·exact pe (oZ (by rw [av];exact k) λd hd=>by
   obtain⟨i,hi⟩:=List.getElem?_of_mem hd;have g:=by
    have:=(qas.mp hi).1
    rwa [av]at this
   rw[aU g,qgM]at hi;rw[<-hi]
   have:=xw h S m g
   exact rE (qbN (by lia) j)) (by decide) (by decide)
   ·rw[qan.mp hd];exact pe (rE j) (by decide) (by decide)) (by decide) (by decide))⟩
 |false=>
  exact⟨_,DN s (pe (wf ⟨U,by decide +kernel,by decide +kernel⟩ (CN hn e S.sX)) (by decide) (by decide))⟩
end
end Own
set_option maxHeartbeats 1000000
namespace Own
open PySem L2
open Sx (Pb Tb Good Named Fe LV ZV piv lexP leastR leaveL sumN unit colV basis)
theorem wA (h:lg st n=some all) (e:cx g (.d d) env=some a) (c:body a st=some (.nx b s)):jj n all g body (d::ds) env st=jj n all g body ds b s :=by
 rw[jj,iFP h,e,qac,c,qac]
theorem zG (h:lg st n=some all):jj n all g body [] env st=some (.nx env st) :=by
 rw[jj,iFP h]
theorem DI (h:a env st=some (.h n,s)) (hg:lg s n=some ds) (b:jj n ds g body ds env s=some r):pR a g body env st=some r :=by
 simp only[pR,h,hg,b,qac]
theorem Ic (f:o env st=some (.h n,s1)) (g:a env s1=some (.d (.lst xs),c)) (i:lg s1 n=some e) (hg:lg c n=some ds) (hz:ds.length+xs.length<=1000000):cT (de qg o (aa a ae)) env st=some (.nx env (c.set n (.l (ds++xs)))) :=by
 simp only[cT,de,f,(ab (b:=ae) g U),i,hg,qg,hz,if_true,qac,qap]
def nxR (R:List (List Int)):List (List Int):=R.flatMap λx=>[x++[-1],x++[0],x++[1]]
def d7:Nat->List (List Int)
 |0=>[[]]
 |j+1=>nxR (d7 j)
theorem xj:∀ R,(nxR R).length=R.length*3
 |[]=>rfl
 |x::R=>by
  have:=xj R
  unfold nxR at this ⊢;rw[List.flatMap_cons,qaA,this];show 3+R.length*3=(R.length+1)*3;lia
theorem m4:∀ (j) {x},x∈d7 j->x.length=j/\∀ z∈x,z=-1\/z=0\/z=1
 |0,x,h=>by
  rw[d7,qan]at h;subst h;exact⟨U,λz hz=>nomatch hz⟩
 |j+1,x,h=>by
  rw[d7,nxR,List.mem_flatMap]at h;obtain⟨y,a,hx⟩:=h;obtain⟨d,b⟩:=m4 j a
  have:∃ z:Int,(z=-1\/z=0\/z=1)/\x=y++[z]:=by
   rcases qaw.mp hx with e|hx
   ·exact⟨_,.inl U,e⟩
   rcases qaw.mp hx with e|hx
   ·exact⟨0,.inr (.inl U),e⟩
   ·exact⟨1,.inr (.inr U),qan.mp hx⟩
  obtain⟨z,hz,rfl⟩:=this;refine⟨by rw[qaA,d];rfl,λu c=>?_⟩;rcases qaT.mp c with q|q
  ·exact b u q
  ·rw[qan.mp q];exact hz
theorem tE:∀ j,(d7 j).length=3^j
 |0=>rfl
 |j+1=>by rw[d7,xj,tE j,qj4]
section
variable {x0 x1 x2 x3 x4 x6:Option W}
theorem Be {C:Sto}{f}{all} (c:∀ A,lg (C++[.l A]) f=some all):∀ (R) (A) (a),A.length+R.length*3<=1000000->(∀ x∈R,x.length<=1000)->∃ b,jj f all (.nm 8) gv (R.map ak) [x0,x1,x2,x3,x4,some (.h f),x6,some (.h C.length),a] (C++[.l A])=some (.nx [x0,x1,x2,x3,x4,some (.h f),x6,some (.h C.length),b] (C++[.l (A++(nxR R).map ak)]))
 |[],A,a,_,_=>⟨a,by rw[qdu,zG (c A),show nxR []=[] from U,qdu,qbY]⟩
 |x::R,A,a,hz,hx=>by
  rw[qat]at hz;have I:=hx x qag;obtain⟨b,q⟩:=Be c R (A++[ak _,ak _,ak _]) _ (by rw[qaA];show A.length+3+_<=_;lia) λy t=>hx y (qaj _ t);refine⟨b,?_⟩;have E:(nxR (x::R)).map ak=[ak (x++[-1]),ak (x++[0]),ak (x++[1])]++(nxR R).map ak:=by
   rfl
  rw[E,<-qbR,<-q];have ad:∀ (z:Int) (s:Sto),aZ s (.d (ak x)) (.d (.tup [.int z]))=some (ak (x++[z])):=λz s=>by
   show (if (x.map D.int).length+1<=1000000 then some _ else none)=_;rw[iFP (by rw[qah];lia)];unfold ak;rw[qci];rfl
  have v:ap (bm (aa (iOp aZ (iV 8) (a8 (aa (iUn gA (iC (.int 1))) ae))) (aa (iOp aZ (iV 8) (a8 (aa (iC (.int 0)) ae))) (aa (iOp aZ (iV 8) (a8 (aa (iC (.int 1)) ae))) ae)))) [x0,x1,x2,x3,x4,some (.h f),x6,some (.h C.length),some _] _=some (.d _,C++[.l A]):=
   aq (xG (ab (ac U (uH U U (by decide)) (ad _ _)) (ab (ac U (uH U U (by decide)) (ad _ _)) (ab (ac U (uH U U (by decide)) (ad _ _)) U))) U (by show 3<=1000;decide))
  have ex:=Ic (o:=iV 7) U v (dQ _ _) (dQ _ _) (by show A.length+3<=_;lia);rw[kl]at ex;exact wA (c A) U ex
theorem xJ:∀ (g j) (B:Sto) (k i a),j+g<=8->∃ Uu p m b,bH (.nm 6) gw ((qdL j g).map λr:Nat=>D.int (r)) [x0,x1,x2,x3,x4,some (.h B.length),k,i,a] (B++[.l ((d7 j).map ak)])=some (.nx [x0,x1,x2,x3,x4,some (.h (B++Uu).length),p,m,b] (B++Uu++[.l ((d7 (j+g)).map ak)]))
 |0,j,B,k,i,a,_=>⟨_,k,i,a,by rw[qbY];rfl⟩
 |g+1,j,B,k,i,a,H=>by
  have c:∀ A ,lg (B++[.l ((d7 j).map ak)]++[.l A]) B.length=some _:=λA=>by
   unfold lg;rw[qbR,qaI (qao _),qe3];rfl
  have G:(d7 j).length<=6561:=by
   rw[tE];exact qaN (qbq (by decide) (by lia:j<=8)) (by decide)
  obtain⟨w,em⟩:=Be (x0:=x0) (x1:=x1) (x2:=x2) (x3:=x3) (x4:=x4) (x6:=some (.d (.int (j)))) c (d7 j) [] a (by rw[qcO];lia) λx hx=>by rw[(m4 j hx).1];lia
  obtain⟨Uu,p,m,b,q⟩:=xJ g (j+1) _ (Z (.int (j))) (some (.h (B++[C.l ((d7 j).map ak)]).length)) w (by lia);refine⟨.l ((d7 j).map ak)::Uu,p,m,b,?_⟩;have u:B++.l ((d7 j).map ak)::Uu=B++[.l ((d7 j).map ak)]++Uu:=by rw[qbR];rfl
  rw[u,qil,show j+(g+1)=j+1+g by lia,<-q];have F:(nxR (d7 j)).map ak=(d7 (j+1)).map ak:=rfl;rw[F]at em;generalize (d7 j).map ak=M at *;refine zH U ?_;refine ah (e:=[x0,x1,x2,x3,x4,some (.h B.length),Z (.int (j:Int)),some _,a]) U ?_;exact ah (DI (n:=B.length) (ds:=M) U (c []) em) U
end
section
variable {fs:List D}{b:Bool}{d:List (List Int)}{X:List Int->Int}{w:Nat->Int}
def sgR (fs:List D):List Int:=(qak fs.length).map λr=>sz (fs.getD r .non)
def smR (b:Bool) (N:Nat) (x:Nat->Int) (t:List Int):Int:=sumN N λr=>x r*a9 b t (r:Nat)
theorem Ak (h:Spl fs d) (S:ju fs b d X w) (hz:nzW fs.length w=false) (hn:∀ r,r<fs.length->fs.getD r .non≠.non) (hx:∀ r,r<fs.length->x r=-1\/x r=0\/x r=1) (n:∀ t∈d,smR b fs.length x t=smR b fs.length (λr=>sz (fs.getD r .non)) t):∀ r,r<fs.length->x r=sz (fs.getD r .non) :=by
 have g:∀ r,r<fs.length->0<sz _*vlR b d _ r:=λr f=>by
  obtain⟨a,c⟩:=Bi h S f;rcases qem a with q|q
  ·exact q
  ·exact absurd ((vR.mp hz) r f) (c (hn r f) q.symm)
 have e:(sumN fs.length λr=>(sz (fs.getD r .non) - x r)*vlR b d (λt=>X (d.getD t [])) r)=0:=by
  have j:(sumN fs.length λr=>(sz (fs.getD r .non) - x r)*vlR b d _ r)=sumN fs.length λr=>sumN d.length λt=>X (d.getD t [])*_:=Sx.sumN_congr λr _=>by
   unfold vlR;rw[<-Sx.sumN_mul];exact Sx.sumN_congr λt _=>qaR ..
  rw[j,Sx.sumN_swap];refine (Sx.sumN_congr λt i=>?_).trans (Sx.sumN_zero _);have hm:=n (d.getD t []) (by rw[qau,qai i];exact qbC i);unfold smR at hm;rw[Sx.sumN_mul];have m:(sumN fs.length λr=>(sz (fs.getD r .non) - x r)*a9 b (d.getD t []) r)=(sumN fs.length λr=>sz (fs.getD r .non)*a9 b (d.getD t []) r) - sumN fs.length λr=>x r*a9 b (d.getD t []) r:=by
   rw[<-Sx.sumN_sub];exact Sx.sumN_congr λr _=>qft ..
  rw[m,hm,Int.sub_self,qa7]
 intro r f
 have:=ze (λr f=>by
  have:=g r f
  rcases sz3 (dZ h f) with q|q|q<;>rw[q]at this ⊢
  ·lia
  ·rw[qc0]at this
   exact qes (by rcases hx r f with k|k|k<;>lia) (qhs this)
  ·have o:vlR b d (λt=>X (d.getD t [])) r<=0:=by lia
   have l:-1 - x r<=0:=by rcases hx r f with k|k|k<;>lia
   exact Int.mul_nonneg_of_nonpos_of_nonpos l o) e r f
 have p:=g r f;rcases qcS.mp this with q|q
 ·lia
 ·lia
end
end Own
set_option maxHeartbeats 1000000
namespace Own
open PySem L2
open Sx (Pb Tb Good Named Fe LV ZV piv lexP leastR leaveL sumN unit colV basis)
theorem FO (hN:fs.length=N):cg fs (mpI N v)=(qak N).map λr:Nat=>D.tup [fs.getD r .non,.int (v r)] :=by
 refine qa6 λi=>?_;rw[d6,qay];by_cases h:i<N
 ·have e:fs.getD i .non=fs[i]'(by lia):=by rw[qau,qai _];rfl
  rw[aU h,qaS h,qai _];show some _=some (D.tup [fs.getD i .non,.int _]);rw[e]
 ·rw[qav (by lia),qav (l:=qak N) (by rw[qaq];lia)];rfl
theorem Ej {x:List Int}(h:x.length=N):x.map D.int=mpI N λr=>x.getD r 0 :=by
 refine qa6 λi=>?_;rw[qay];by_cases q:i<N
 ·have e:x.getD i 0=x[i]'(by lia):=by rw[qau,qai _];rfl
  rw[aU q,qai _,e];rfl
 ·rw[qav (by lia),qav (by rw[av];lia)];rfl
theorem ir:∀ x:List Int,(x.map D.int).all (okD 60)=true
 |[]=>rfl
 |z::x=>by rw[qaz,qbB,ir x];rfl
theorem Cq (s) (hx:x≠[]) (a:y≠[]):dNe s (.d (ak x)) (.d (.tup (y.map D.int)))=some (.bl (!decide (x=y))) :=by
 have ex:(x.map D.int).isEmpty=false:=by cases x<;>first|exact absurd U hx|rfl
 have b:(y.map D.int).isEmpty=false:=by cases y<;>first|exact absurd U a|rfl
 show ((if _=true then some _ else if (x.map D.int).all _=true/\(y.map D.int).all _=true then some _ else none).map λk=>D.bl _)=_;rw[ex,b,iFN (by decide),iFP ⟨ir x,ir y⟩,kH];rfl
theorem BW (s) { y:List Int} (h:x.length=y.length):dEq s (.d (.lst (x.map D.int))) (.d (.lst (y.map D.int)))=some (.bl (decide (x=y))) :=by
 show ((if (x.map D.int).length=(y.map D.int).length then _ else some false).map λk=>D.bl k)=_;rw[iFP (by rw[qah,qah,h]),iFP ⟨ir x,ir y⟩,kH];rfl
section
variable {fs:List D}{b:Bool}{a:List (List Int)}{X:List Int->Int}{w:Nat->Int}
theorem xN (O:L=(qak N).map λr=>D.int (F r)):lS s [.d (.lst L)]=some (.int (sumN N F)) :=by
 have e:((qak N).map λr=>D.int (F r))=((qak N).map F).map D.int:=by rw[qaM];rfl
 rw[O,e];show (a5 _).map _=_;rw[bh,qap,oU]
theorem Fp (h):(sgR fs)[i]=sz (fs.getD i .non) :=by simp[sgR]
def pB (b:Bool) (N:Nat) (a:List (List Int)):List D:=a.map λt=>D.lst (mpI N λr=>a9 b t (r:Nat))
def lb (b:Bool) (N:Nat) (x:Nat->Int) (a:List (List Int)):List Int:=a.map (smR b N x)
theorem A9 (h:Spl fs a) (hx:x.length=fs.length) (s):lcI (.nm 0) aJ gm [none,Z (ak x)] (pB b fs.length a) s=some ((lb b fs.length (λr=>x.getD r 0) a).map D.int,s) :=by
 have em:(lb b fs.length (λr=>x.getD r 0) a).map D.int=a.map λt=>D.int (smR b fs.length (λr=>x.getD r 0) t):=by unfold lb;rw[qaM];rfl
 rw[em];refine b8 _ λt j=>⟨_,U,?_⟩;have k:lcI (.tp [0,1]) aJ gk [none,none] (cg (x.map D.int) (mpI fs.length λr=>a9 b t (r))) s=some ((qak fs.length).map λr=>D.int (x.getD r 0*a9 b t (r)),s):=by
  rw[Ej hx,BB (by rw[av])];refine b8 _ λr c=>⟨_,U,?_⟩;have e:(mpI fs.length λr=>a9 b t (r)).getD r .non=.int (a9 b t (r)):=by rw[qau,aU (qaD.mp c)];rfl
  rw[e];exact ac U U (be _ (cM (by have:=mT b t (r);lia)))
 have E:(cg (x.map D.int) (mpI fs.length λr=>a9 b t (r))).length<=1000000:=by
  have:=h.fl
  rw[fK,av];lia
 exact ar (ab (aq (aH U E k)) U) (xN U)
theorem Ar (h:Spl fs a) (hn:∀ r,r<fs.length->fs.getD r .non≠.non) (s):lcI (.nm 0) aJ gq [none,Z (.tup fs)] (pB b fs.length a) s=some ((lb b fs.length (λr=>sz (fs.getD r .non)) a).map D.int,s) :=by
 have em:(lb b fs.length (λr=>sz (fs.getD r .non)) a).map D.int=a.map λt=>D.int (smR b fs.length (λr=>sz (fs.getD r .non)) t):=by unfold lb;rw[qaM];rfl
 rw[em];refine b8 _ λt j=>⟨_,U,?_⟩;have k:lcI (.tp [0,1]) aJ gn [none,none] (cg fs (mpI fs.length λr=>a9 b t (r))) s=some ((qak fs.length).map λr=>D.int (sz (fs.getD r .non)*a9 b t (r)),s):=by
  rw[FO U];refine b8 _ λr c=>⟨_,U,?_⟩;have c:=qaD.mp c;exact ac (sgv (dZ h c) (hn r c) U) U (be _ (cM (by have:=mT b t (r);lia)))
 have E:(cg fs (mpI fs.length λr=>a9 b t (r))).length<=1000000:=by
  have:=h.fl
  rw[fK];lia
 exact ar (ab (aq (aH U E k)) U) (xN U)
theorem Fq (h:Spl fs a) (hn:∀ r,r<fs.length->fs.getD r .non≠.non) (s):lcI (.nm 0) aJ gj [none] fs s=some ((sgR fs).map D.int,s) :=by
 have P:fs=(qak fs.length).map λr=>fs.getD r .non:=by
  refine qa6 λi=>?_;rw[qay];by_cases q:i<fs.length
  ·rw[qaS q,qap,qau,qai q];rfl
  ·rw[qav (by lia),qav (by rw[qaq];lia)];rfl
 have e2:(sgR fs).map D.int=(qak fs.length).map λr=>D.int (sz (fs.getD r .non)):=by unfold sgR;rw[qaM];rfl
 rw[e2]
 conv=>lhs;arg 5;rw[P]
 exact b8 _ λr c=>⟨_,U,sgv (dZ h (qaD.mp c)) (hn r (qaD.mp c)) U⟩
theorem qc (h:Spl fs a) (S:ju fs b a X w) (hz:nzW fs.length w=false) (G:0<fs.length) (hn:∀ r,r<fs.length->fs.getD r .non≠.non) {C}(B:lg C v=some all) :∀ (R:List _) (u),(∀ x∈R,x.length=fs.length/\∀ z∈x,z=-1\/z=0\/z=1)->∃ m,jj v all (.nm 8) gu (R.map ak) [Z (.tup fs),x1,x2,Z (.lst (pB b fs.length a)),Z (.lst ((lb b fs.length (λr=>sz (fs.getD r .non)) a).map D.int)),some (.h v),x6,I,u] C=some (.nx [Z (.tup fs),x1,x2,Z (.lst (pB b fs.length a)),Z (.lst ((lb b fs.length (λr=>sz (fs.getD r .non)) a).map D.int)),some (.h v),x6,I,m] C)
 |[],u,_=>⟨u,by rw[qdu,zG B]⟩
 |x::R,u,hx=>by
  obtain⟨p,V⟩:=hx x qag;obtain⟨m,Y⟩:=qc h S hz G hn B R (Z (ak x)) λy T=>hx y (qaj _ T);refine⟨m,?_⟩;rw[<-Y];have g:(sgR fs).length=fs.length:=by unfold sgR;rw[qah,qaq]
  have o:=Fq h hn C;have f:=Cq C (x:=x) (y:=sgR fs) (λe=>by rw[e]at p;exact absurd p (by show ¬ 0=_;lia)) λe=>by rw[e]at g;exact absurd g (by show ¬ 0=_;lia)
  have n:=BW C (x:=lb b fs.length (λr=>x.getD r 0) a) (y:=lb b fs.length (λr=>sz (fs.getD r .non)) a) (by unfold lb;rw[qah,qah]);have fl:fs.length<=1000000:=by have:=h.fl;lia
  have A:(pB b fs.length a).length<=1000000:=by
   have:=h.tl
   unfold pB;rw[qah];lia
  refine wA B U ?_;by_cases e:x=sgR fs
  ·rw[decide_eq_true e]at f
   exact bn (aj U (ar (ab (aq (aH (aX U) fl o)) U) U) f) U
  ·rw[decide_eq_false e]at f
   rw [decide_eq_false ((λne e=>ne (by
   refine qin (by rw[p,g]) λi Q h2=>?_
   have:=(Ak (x:=λr=>x.getD r 0) h S hz hn (λr c=>by
    refine V _ ?_;rw[qau,qai (by lia)]
    exact qbC _) λt j=>by
    unfold lb at e
    exact List.map_inj_left.mp e t j) i (by lia)
   rw[qau,qai Q]at this;rw[Fp]
   exact this)) e)]at n
   exact cw (aj U (ar (ab (aq (aH (aX U) fl o)) U) U) f) (bn (aj (aq (aH (aT U) A (A9 h p C))) U n) U)
theorem yW (h:Spl fs a) (S:ju fs b a X w) (hz:nzW fs.length w=false) (G:0<fs.length) (h8:fs.length<=8) (hn:∀ r,r<fs.length->fs.getD r .non≠.non) (st):b4 [.d (.tup fs),.d (.str (aF b)),.d (tsD a)] st=some (.d (.bl false),st) :=by
 have tl:(a.map ak).length<=1000000:=by have:=h.tl;rw[qah];lia
 have A:(pB b fs.length a).length<=1000000:=by
  have:=h.tl
  unfold pB;rw[qah];lia
 have J:((qak fs.length).map λr:Nat=>D.int (r)).length<=1000000:=by rw[qah,qaq];lia
 have o:lcI (.nm 0) aJ ft [none,Z (.tup fs),Z (.str (aF b))] (a.map ak) st=some (pB b fs.length a,st):=by
  refine b8 _ λt j=>⟨_,U,?_⟩;exact aq (aH (vY h.fl U) J (Aq h j U U U))
 obtain⟨Uu,p6,p7,m,H⟩:=xJ fs.length 0 st none none none (by lia);have hg:lg _ (st++Uu).length=some ((d7 (0+fs.length)).map ak):=dQ _ _;obtain⟨q8,M⟩:=qc h S hz G hn hg (d7 (0+fs.length)) m λx hx=>by
  have:=m4 _ hx
  rwa [qbg]at this
 rw[<-qdZ]at H;have K:=vY (e0:=iV 0) (env:=[some _,Z (.str (aF b)),Z (tsD a),Z (.lst (pB b fs.length a)),Z (.lst ((lb b fs.length (λr=>sz (fs.getD r .non)) a).map D.int)),some (.h st.length),none,none,none]) (s:=st++[.l ((d7 0).map ak)]) h.fl U;have fin:∀ {s:Sto},s=st++Uu++[.l ((d7 (0+fs.length)).map ak)]->iW ([W.d _,.d _,.d _].map some++qaG (9 - 3) none) st=some (.rt (.d _) s)->b4 [.d (.tup fs),.d (.str (aF b)),.d (tsD a)] st=some (.d (.bl false),st):=λ{s} es hb=>by
  have:=dX U hb
  rw[es,qbR,qis U]at this;exact this
 refine fin U ?_;refine ah (ao (aq (aH (aX U) tl o))) ?_;refine ah (ao (aq (aH (aT U) A (Ar h hn st)))) ?_;refine ah U ?_;exact ah (bg K H) (ah (DI U hg M) U)
end
end Own
section
set_option maxHeartbeats 1000000
namespace Own
open PySem L2
open Sx (Pb Tb Good Named Fe LV ZV piv lexP leastR leaveL sumN unit colV basis)
def nsA:List D:=[.int 4,.int 3,.int 2,.int 3,.int 2,.int 1,.int 3,.int 2]
def nsB:List D:=[.int 0,.int 1,.int 2,.int 2,.int 3,.int 2,.int 1,.int 2]
theorem D5 (c) (F:0<=r) (h4:r<8):∃ n:Nat,n<=4/\∀ s,dIx s (.d (if c=true then .lst nsB else .lst nsA)) (.d (.int r))=some (.int (n)) :=by
 have:r=0\/r=1\/r=2\/r=3\/r=4\/r=5\/r=6\/r=7:=by lia
 cases c<;>rcases this with rfl|rfl|rfl|rfl|rfl|rfl|rfl|rfl
 ·exact⟨4,by decide,λs=>rfl⟩
 ·exact⟨3,by decide,λs=>rfl⟩
 ·exact⟨2,by decide,λs=>rfl⟩
 ·exact⟨3,by decide,λs=>rfl⟩
 ·exact⟨2,by decide,λs=>rfl⟩
 ·exact⟨1,by decide,λs=>rfl⟩
 ·exact⟨3,by decide,λs=>rfl⟩
 ·exact⟨2,by decide,λs=>rfl⟩
 ·exact⟨0,by decide,λs=>rfl⟩
 ·exact⟨1,by decide,λs=>rfl⟩
 ·exact⟨2,by decide,λs=>rfl⟩
 ·exact⟨2,by decide,λs=>rfl⟩
 ·exact⟨3,by decide,λs=>rfl⟩
 ·exact⟨2,by decide,λs=>rfl⟩
 ·exact⟨1,by decide,λs=>rfl⟩
 ·exact⟨2,by decide,λs=>rfl⟩
theorem EA (F:0<=r) (h2:r<2):∃ b,∀ s,dIx s (.d (.lst [.str "both",.str "odd"])) (.d (.int r))=some (.str (aF b)) :=by
 have:r=0\/r=1:=by lia
 rcases this with rfl|rfl
 ·exact⟨true,λs=>rfl⟩
 ·exact⟨false,λs=>rfl⟩
theorem BH (fs) (b) (a) (X) (w) (l) (s):dIx s (.d (jv fs b a X w l)) (.d (.int 0))=some (.str (if nzW fs.length w=true then "other" else "alone")) :=by
 unfold jv;cases nzW fs.length w<;>rfl
theorem Di {t:Nat}(h:okP p Zq) (V:Zq+400<900000000) (e0 x y o j v):∃ M C I G J E,okP M (Zq+80)/\rV [e0,some (.h 1),Z (.int (t)),x,y,o,j,v] (spo p [])=some (.nx [e0,some (.h 1),Z (.int (t)),C,I,G,J,E] (spo M [])) :=by
 obtain⟨r1,p1,a0,a1,h1,f1⟩:=ck h (m:=8) (by lia) (by decide) (by decide);obtain⟨c,hc⟩:∃ c,∀ s,dGt s (.d (.int (t))) (.d (.int 0))=some (.bl c):=⟨_,λs=>rfl⟩;obtain⟨n,hn,en⟩:=D5 c a0 a1;obtain⟨fs,p2,fl,K,h2,f2⟩:=Gw hn h1 (by lia);obtain⟨r2,p3,b0,b1,h3,f3⟩:=ck h2 (m:=2) (by lia) (by decide) (by decide);obtain⟨b,ek⟩:=EA b0 b1;obtain⟨a,f,A,h4,f4⟩:=Ac hn h3 (by lia);have P:0<fs.length:=by rw[fl];exact qeb n
 have B:∀ r,r<fs.length->fs.getD r .non≠.non:=λr O e=>by
  rw[qau,qai O]at e;rcases K _ (qbC O) with q|q<;>(rw[show fs[r]=D.non from e]at q;cases q)
 have H:=yp hn fl (λu hu=>.inr (K u hu)) A;obtain⟨X,w,l,S,m1,m2,g⟩:=zm H P B;have g:=g (spo f []);have Y:=Bf (b:=b) hn A H S B m1 (spo f []);have hm:iOp dIx (ap (bm (aa (ap (bm (aa (iC (.int 4)) (aa (iC (.int 3)) (aa (iC (.int 2)) (aa (iC (.int 3)) (aa (iC (.int 2)) (aa (iC (.int 1)) (aa (iC (.int 3)) (aa (iC (.int 2)) ae)))))))))) (aa (ap (bm (aa (iC (.int 0)) (aa (iC (.int 1)) (aa (iC (.int 2)) (aa (iC (.int 2)) (aa (iC (.int 3)) (aa (iC (.int 2)) (aa (iC (.int 1)) (aa (iC (.int 2)) ae)))))))))) ae)))) (iCB vf (aa (iOp dGt (iV 2) (iC (.int 0))) ae)) [e0,some (.h 1),Z (.int (t:Int)),x,y,o,j,v] (spo p [])=some (.d (if c=true then .lst nsB else .lst nsA),spo p []):=by
  have hl:∀ N:Ev,ap (bm (aa (ap (bm (aa (iC (.int 4)) (aa (iC (.int 3)) (aa (iC (.int 2)) (aa (iC (.int 3)) (aa (iC (.int 2)) (aa (iC (.int 1)) (aa (iC (.int 3)) (aa (iC (.int 2)) ae)))))))))) (aa (ap (bm (aa (iC (.int 0)) (aa (iC (.int 1)) (aa (iC (.int 2)) (aa (iC (.int 2)) (aa (iC (.int 3)) (aa (iC (.int 2)) (aa (iC (.int 1)) (aa (iC (.int 2)) ae)))))))))) ae))) N (spo p [])=some (.d (.lst [.lst nsA,.lst nsB]),spo p []):=λ_=>rfl;refine ac (hl _) (ar (d:=.int (if c=true then 1 else 0)) (ab (ac U U (hc _)) U) ?_) ?_
  ·cases c<;>rfl
  ·cases c<;>rfl
 have key:dL (aE dLt (iV 3) (iC (.int 4))) (aE dNe (iCB cB (aa (az iH (aa (iV 4) (aa (iV 5) (aa (iV 6) ae)))) ae)) (iCB cB (aa (iV 7) ae))) [e0,some (.h 1),Z (.int (t:Int)),Z (.int (n:Int)),Z (.tup fs),Z (.str (aF b)),Z (tsD a),Z (jv fs b a X w l)] (spo f [])=some (false,spo f []):=by
  by_cases q:n<=3
  ·obtain⟨T,O⟩:=DZ (b:=b) q fl A H S m1 m2 (spo f [])
   have z:dLt (spo f []) (.d (.int (n:Int))) (.d (.int 4))=some (.bl true):=by
    show some (D.bl (decide ((n:Int)<4)))=_;rw[decide_eq_true (by lia)]
   generalize aF b=kd at *;generalize jv fs b a X w l=R at *;exact kZ (aj U U z) (aj (k:=false) (ar (ab (ai (ab U (ab U (ab U U))) g) U) O) (ar (ab U U) O) (Bm _ _))
  ·refine kY (aj U U ?_)
   show some (D.bl (decide ((n:Int)<4)))=_;rw[decide_eq_false (by lia)]
 have L:dL (aE dEq (iOp dIx (iV 7) (iC (.int 0))) (iC (.str "alone"))) (dL (aE dLt (iV 3) (iC (.int 3))) (bX cb (az b4 (aa (iV 4) (aa (iV 5) (aa (iV 6) ae)))))) [e0,some (.h 1),Z (.int (t:Int)),Z (.int (n:Int)),Z (.tup fs),Z (.str (aF b)),Z (tsD a),Z (jv fs b a X w l)] (spo f [])=some (false,spo f []):=by
  have F:=BH fs b a X w l (spo f []);cases q:nzW fs.length w with
  |true=>
   rw[q,iFP U]at F;exact kY (aj (k:=false) (ac U U F) U U)
  |false=>
   rw[q,iFN qaW]at F;refine kZ (aj (k:=true) (ac U U F) U U) ?_;by_cases k:n<3
   ·have h8:fs.length<=8:=by
     rw[fl];exact qaN (qbq (by decide) (by lia:n<=3)) (by decide)
    have hs:=yW (b:=b) H S q P h8 B (spo f []);have z:dLt (spo f []) (.d (.int (n:Int))) (.d (.int 3))=some (.bl true):=by
     show some (D.bl (decide ((n:Int)<3)))=_;rw[decide_eq_true (by lia)]
    exact kZ (aj U U z) (f9 (ai (ab U (ab U (ab U U))) hs))
   ·refine kY (aj U U ?_)
    show some (D.bl (decide ((n:Int)<3)))=_;rw[decide_eq_false (by lia)]
 refine⟨f,Z (.int (n:Int)),Z (.tup fs),Z (.str (aF b)),Z (tsD a),Z (jv fs b a X w l),h4.mono (by lia),?_⟩;generalize aF b=kd at *;generalize jv fs b a X w l=R at *;exact ah (ao (i:=3) (ac hm (ai (ab U (ab U U)) (f1 [])) (en _))) (ah (AU (ab (ai (ab U (ab U (ab U U))) f2) (ab (ac ((λ_=>rfl) _) (ai (ab U (ab U U)) (f3 [])) (ek _)) (ab (ai (ab U (ab U U)) f4) U)))) (ah (ao (ai (ab U (ab U (ab U U))) g)) (ah (bn (fG (f9 (ai (ab U (ab U (ab U (ab U U)))) Y))) U) (ah (bn key U) (bn L U)))))
theorem uU (e0:Option W):∀ (a:List Nat) {p:Spo}{Zq:Int} (h:okP p Zq) (V:Zq+80*a.length+400<900000000) (Q x y o j v:Option W),∃ M q2 C I G J E,bH (.nm 2) rV (a.map λt:Nat=>D.int (t:Int)) [e0,some (.h 1),Q,x,y,o,j,v] (spo p [])=some (.nx [e0,some (.h 1),q2,C,I,G,J,E] (spo M []))
 |[],p,Zq,h,V,Q,x,y,o,j,v=>⟨p,Q,x,y,o,j,v,U⟩
 |t::a,p,Zq,h,V,Q,x,y,o,j,v=>by
  rw[qat]at V;obtain⟨p1,C,I,G,J,E,h1,N⟩:=Di h (by lia) e0 x y o j v;obtain⟨p2,r2,r3,r4,r5,r6,r7,e2⟩:=uU e0 a h1 (by lia) _ C I G J E;exact⟨p2,r2,r3,r4,r5,r6,r7,(zH U N).trans e2⟩
theorem z6 (ns) (hl:ns.length<=63):∃ st,uq [.d (.scr ns)] []=some (.d (.bl true),st) :=by
 obtain⟨p,P,N⟩:=E6 ns hl;obtain⟨M,q2,C,I,G,J,E,e2⟩:=uU _ [0,1,2] P (by show _+80*3+400<_;lia) none none none none none none;exact⟨_,dX U (ah (ao (ai (ab U U) N)) (ah (bg U e2) U))⟩
end Own
end
namespace Own
open PySem L2
theorem z9 {b:List Value}(h:b.length=n+1):∃ a r,b=a::r/\r.length=n :=by
 cases b with
 |nil=>cases h
 |cons a r=>exact⟨a,r,U,Nat.succ.inj h⟩
theorem Gs {b:List Value} (h:b.length=1):∃ a0,b=[a0]:=by
 obtain⟨a,r,rfl,g⟩:=z9 h;exact⟨a,by rw[List.length_eq_zero_iff.1 g]⟩
theorem Gu {c:List Value} (h:c.length=2):∃ a0 a,c=[a0,a]:=by
 obtain⟨b,r,rfl,g⟩:=z9 h;obtain⟨a,rfl⟩:=Gs g;exact⟨b,a,U⟩
theorem Gv {c:List Value} (h:c.length=3):∃ a0 a a2,c=[a0,a,a2]:=by
 obtain⟨b,r,rfl,g⟩:=z9 h;obtain⟨a,a2,rfl⟩:=Gu g;exact⟨b,a,a2,U⟩
theorem EC {d:List Value} (h:d.length=4):∃ a0 c a2 a,d=[a0,c,a2,a]:=by
 obtain⟨b,r,rfl,g⟩:=z9 h;obtain⟨c,a2,a,rfl⟩:=Gv g;exact⟨b,c,a2,a,U⟩
theorem HU {e:List Value} (h:e.length=5):∃ a0 c a2 a d,e=[a0,c,a2,a,d]:=by
 obtain⟨b,r,rfl,g⟩:=z9 h;obtain⟨c,a2,a,d,rfl⟩:=EC g;exact⟨b,c,a2,a,d,U⟩
theorem bnd :∀ p∈tbl,∀ f g,Fun K p.1 p.1 (top p.2.1) f g->cO K g (p.2.2.1.take p.2.2.2) [] :=by
 iterate 45 refine qdh.2 ⟨λf g F=>F.binds λ_ _ _ _ _ _ b a=>(by first|(obtain⟨_,rfl⟩:=Gs a;rfl)|(obtain⟨_,_,rfl⟩:=Gu a;rfl)|(obtain⟨_,_,_,rfl⟩:=Gv a;rfl)|(obtain⟨_,_,_,_,rfl⟩:=EC a;rfl)|(obtain⟨_,_,_,_,_,rfl⟩:=HU a;rfl)),?_⟩
 exact λ_ h=>nomatch h
theorem fa_mk (a:qeG K qck x=some (some (.ref f))) (b:Fun K x x (top i) f g):∃ f g,qeG K qck (rT x i N k).1=some (some (.ref f))/\Fun K (rT x i N k).1 (rT x i N k).1 (top (rT x i N k).2.1) f g :=⟨f,g,a,b⟩
theorem txt_mk (X:K.In h) (G:h.Ns qck mg) (F:∀ p∈tbl,∃ f g,qeG K qck p.1=some (some (.ref f))/\Fun K p.1 p.1 (top p.2.1) f g)
  (z:∀ x∈(["abs","all","any","bool","enumerate","int","isinstance","len","list","max","range","repr","sorted","str","sum","tuple","zip"]:List Str),qeG K qck x=some none)
  (c1:qeG K qck "Table" = some (some (.ref a))) (c2:qcn K (.ref a) "__init__" = some (some (.ref c))) (c3:Fun K "__init__" "Table.__init__" bV c e)
  (m0:qfS K a=true) (m2:qip K (.ref c)=true) (m3:qcV K (.ref a)=true) (d0:qev K a Str.empty=true) (d1:qef K a=true) (d2:qfr K a=true) (d3:qcn K (.ref a) "__setattr__" = some (some (.builtin "object.__setattr__")))
  (na:∀ p∈bJ,qcn K (.ref a) p.1=some none)
  : Txt K mg :=
 ⟨λp d=>let ⟨f,g,a,b⟩:=F p d;⟨f,g,b,qig X G a,bnd p d f g b⟩,λx h=>PySem.W.mg_none_of X G (z x h),a,c,e,qig X G c1,c3,c3.binds λ_ _ _ _ _ _ j i=>(by obtain⟨_,_,_,_,rfl⟩:=EC i;rfl),⟨m0,c2,m2,m3⟩,⟨d0,d1,d2,d3⟩,na⟩
theorem walk {l:qfT}{K:Params->qae} (hn:l.most=some 63) (c:d.params.defaults=[])
  (j:∀ (w) (h),YP w h->(K w.params).In h)
  (F:∀ (w) (mg) (e) (h),(K w.params).In h->h.Ns qck mg->mg d.name=some (.ref e)->
    ∃ fd,(∀ (s) (u),qhX s fd ⟨[u],[]⟩ [("_law_script",u)])/\∀ base,(K w.params).In base->base.Ns qck mg->dh l.prog w (K w.params) mg base CX0 9 e fd ["_law_script"] (spI (K w.params) uq)) :
  qih q b XP YP l.row.toRowW d [] (λf o=>qhP f o) :=
 L2.walk_of (n:=63) (k:=9) (x:="_law_script") (CX:=λ_=>CX0) (sp:=λw=>spI (K w.params) uq) hn (by decide) c ⟨U,by decide,by decide,U⟩ j F (λ_ _ a ns m g i=>Db g i (z6 ns m)) λ_ _ _ _ _ z=>z
theorem law_mk {l:qfT}{h:Heap}(a:mg "law" = some (.ref b)) (T:Txt K mg) :
  ∃ fd,(∀ (s) (v),qhX s fd ⟨[v],[]⟩ [("_law_script",v)])/\∀ base,K.In base->base.Ns qck mg->dh l.prog w K mg base CX0 9 b fd ["_law_script"] (spI K uq) :=by
 obtain⟨f,g,F,m,_⟩:=T.F (rT "law" 55 ["_law_script","_law_pot_here","_law_turn","_law_n","_law_f_here","_law_kind","_law_terms_here","_law_found"] 1) (by decide +kernel)
 have e:=a.symm.trans m;cases e
 refine⟨g,λs v=>?_,λbase _ _=>by
  have q:=HY (P:=l.prog) (w:=w) (base:=base) T
  iterate 5 replace q:=q.2
  exact q _ _ F⟩
 obtain⟨n,j,kV,d,o,k,i,ct,c,e,_⟩:=F.ex;rw[e];exact .of_eq U
end Own
namespace PySem.W.Fast
def tw4383556028126767370:=0
def tw8460978808871246016:=0
def tw7543059606822847364:=0
def tw16933197382473340086:=0
def tw1832378288235739108:=0
def tw10680386852413065727:=0
def tw17953107354499518479:=0
def tw6836243935709826289:=0
def tw1500325768972343991:=0
def tw14475981637690301556:=0
def tw16954292805767877962:=0
def tw2473590043042689277:=0
def tw1584495248598975791:=0
def tw9609185095417856807:=0
def tw18308619700974228565:=0
def tw2313362382444650007:=0
def tw5769880000780548882:=0
def tw7874085703063623820:=0
def tw719618356792163449:=0
def tw3447882041312006938:=0
def tw2419100441827423653:=0
def tw18338545711430378742:=0
def tw16380511520266229472:=0
def tw14466379423185150218:=0
def tw15145943000431015020:=0
def tw13061744424836236479:=0
def tw2537141314589821480:=0
def tw3361423219338297667:=0
def tw1530632302333061682:=0
def tw7816860480600508600:=0
def tw6977488841374661950:=0
def tw5754155917460435815:=0
def tw5903678071034414998:=0
def tw15619202103528555504:=0
def tw9087945819349229930:=0
def tw3584120889263620514:=0
def tw598574716977443910:=0
def tw17398102859353161033:=0
def tw15186602215349992068:=0
def tw7983593001187626271:=0
def tw10559574047150722909:=0
def tw8801812041417181808:=0
def tw16191436866547829391:=0
def tw10010653416061498877:=0
def tw18130830577490196413:=0
def tw9025886790832579325:=0
def tw16895092407345606926:=0
def tw9463091907902422600:=0
def tw17724018359753346136:=0
def tw12792561688589488027:=0
def tw13805551936944918453:=0
def tw1188687363361314384:=0
def tw5837520721991834227:=0
def tw3091322784385511694:=0
def tw11375157992329284007:=0
def tw10394222066666061672:=0
def tw8847892904664551837:=0
def tw3714256406409438779:=0
def tw7688694408447461543:=0
def tw15800829038708446583:=0
def tw1995661986160244208:=0
def tw6706256877827799807:=0
def tw6250551724978504408:=0
def tw15056128505971067078:=0
def tw17720940850407135874:=0
def tw4115147496470488367:=0
def tw12451785741411293008:=0
def tw11770962614910291980:=0
def tw8417022060642766325:=0
def tw11007736181436746335:=0
def tw10802168149747406692:=0
def tw4136335066010924971:=0
def tw1732907779298313483:=0
def tw8371877177839886949:=0
def tw14645211444656941586:=0
def tw5200994197418718507:=0
def tw1931619503044415161:=0
def tw17984346182672889051:=0
def tw11759848391294103642:=0
def tw8072760954524347399:=0
def tw8854619340682758789:=0
def tw2822422751460927851:=0
def tw12742110592421860100:=0
def tw11962389817329671071:=0
def tw2676817218905344332:=0
def tw10846071678468806132:=0
def tw4755970923193115302:=0
def tw12498024781537675177:=0
def tw2106598366371983270:=0
def tw5237384689266367150:=0
def tw12688934092566365503:=0
def tw14784720896660237426:=0
def tw2875448768286975206:=0
def tw16401057183102788134:=0
def tw380554785056126943:=0
def tw2464027502785264285:=0
def tw16167814730078662674:=0
def tw14187833122430416953:=0
def tw4570800181943732132:=0
def tw4951151274289628741:=0
def tw3662284758076439581:=0
def tw2195373414337371485:=0
def tw6716457754956030143:=0
def tw12920458452891892647:=0
def tw12158704154046427976:=0
def tw364788205366767427:=0
def tw5744748411097208407:=0
def tw11327990106135799282:=0
def tw11174155567891049182:=0
def tw6244064362318669571:=0
def tw10168586378283259790:=0
def tw16806927962305266342:=0
def tw15211787824837734828:=0
def tw12066297251853628193:=0
def tw4084848524534878002:=0
def tw16979278639483694923:=0
def tw16188558569897114694:=0
def tw5115232644435723293:=0
def tw10592892463255793138:=0
def tw9636896105717568317:=0
def tw6944552467543644983:=0
def tw6065319111332851995:=0
def tw17163249531499669694:=0
def tw17440856843689697418:=0
def tw14206322965236630680:=0
def tw5403779109954126424:=0
def tw10801314661760620004:=0
def tw15159828221957854430:=0
def tw9561756220269761984:=0
def tw12962956120860598917:=0
def tw17263711127897757146:=0
def tw15742027110108013844:=0
def tw13173598451310395714:=0
def tw3074727901179318497:=0
def tw9061196752337120865:=0
def tw7653975903896150977:=0
def tw15983727553224325241:=0
def tw1639716348511988054:=0
def tw6170241482354643406:=0
def tw6528014976685041771:=0
def tw10109846198251537894:=0
def tw12795578106570056530:=0
def tw13799418256957218403:=0
def tw4701594137106597295:=0
def tw7277824462502418544:=0
def tw13865544780398380969:=0
def tw4027827941122724009:=0
def tw11779474035499594574:=0
def tw14237740140816196904:=0
def tw10118934572077481862:=0
def tw6265868492207909301:=0
def tw3329400954401067608:=0
def tw15102730066188536152:=0
def tw478457779266223107:=0
def tw9471014614121657300:=0
def tw10235273914225104399:=0
def tw13296018365299725294:=0
def tw10542394742435013617:=0
def tw10496920725909258055:=0
def tw7253219288547611954:=0
def tw12710424553526694033:=0
def tw18443352304854466588:=0
def tw13765249780299318822:=0
end PySem.W.Fast
open PySem PySem.W PyProof.Rows
set_option maxRecDepth 100000 in
set_option maxHeartbeats 0 in
theorem PySem.Challenge.cw_signpoly_k72_alone_or_other_holds : PySem.Challenge.rw_signpoly_k72_alone_or_other.Holds := by
 w_on;o_law;k_head;(case hw=>w_witness2)
 k_fill
 refine Own.walk (l:=PySem.Challenge.rw_signpoly_k72_alone_or_other) rfl rfl (λw h Y=>PySem.W.kIn_of Y) ?F
 case F=>
  intro w mg d h KX G a;refine Own.law_mk (h:=h) a ?T
  case T=>
   refine' Own.txt_mk KX G ?F ?z ?c1 ?c2 ?c3 ?m0 ?m2 ?m3 ?d0 ?d1 ?d2 ?d3 ?na
   case F=>(iterate 45 (refine' qdh.2 ⟨Own.fa_mk ?e ?b,?_⟩;(case e=>k_is);(case b=>(refine' L2.fun_mk ?l ?c ?k;(case l=>k_is);(case c=>k_is);case k=>k_is))));intro _ h;cases h
   case z=>(iterate 17 (refine qdh.2 ⟨by k_is,?_⟩));intro _ h;cases h
   case c1=>k_is
   case c2=>k_is
   case c3=>refine' L2.fun_mk ?l ?c ?k;(case l=>k_is);(case c=>k_is);case k=>k_is
   case m0=>kernel_rfl
   case m2=>kernel_rfl
   case m3=>kernel_rfl
   case d0=>kernel_rfl
   case d1=>kernel_rfl
   case d2=>kernel_rfl
   case d3=>kernel_rfl
   case na=>(iterate 6 (refine qdh.2 ⟨by kernel_rfl,?_⟩));intro _ h;cases h
