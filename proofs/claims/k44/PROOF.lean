import PyProof.Rows.All
import Wide.All
import OpenK.AllK
import Wide.FinOn
import Lean
import PyProof.EqAt
import PyProof.EqKinds
import PyProof.TupleCall
import PyProof.ListRange
import PyProof.NeKinds
import KE.KUnpack
import KE.KSortTup
import PyProof.ZipIter
import PyProof.Rows.CallKwBuiltin
import KE.KFind
import KE.KDictLaws
import KE.KDictList
import PyProof.SetKind
import PyProof.SetRoads
import PyProof.Rows.SetFrom
import PyProof.WalksMore
import PyProof.Rows.SortStr
import KE.KTupSum
import PySem.Challenge.RW_signpoly_k44_widest_margins
set_option Elab.async false
set_option linter.all false
set_option maxRecDepth 100000
set_option genSizeOf false
noncomputable section
open And renaming right -> qg5, left -> qhN
open Array renaming getElem?_eq_getElem -> qbD, length_toList -> qcN, getElem?_eq_none -> qdv, getElem_toList -> qdL, perm_iff_toList_perm -> qf8, toList -> qgP, getElem?_toList -> qgQ
open Bool renaming and_eq_true -> qaX, false_ne_true -> qa5, false_eq_true -> qbk, not_eq_true -> qet, eq_iff_iff -> qeG, or_eq_true -> qib, and_true -> qiG, and_self -> qiH, true_or -> qi6
open Decidable renaming byContradiction -> qcx
open False renaming elim -> qcH
open Int renaming mul_left_comm -> qaN, mul_comm -> qa6, toNat_natCast -> qa7, mul_le_mul_of_nonneg_left -> qba, mul_zero -> qbi, mul_right_comm -> qbl, mul_assoc -> qbr, mul_le_mul_of_nonneg_right -> qbT, natAbs_mul -> qb3, eq_ofNat_of_zero_le -> qb4, zero_mul -> qci, ofNat_dvd_left -> qcn, one_mul -> qcy, mul_add -> qcz, mul_ediv_cancel_left -> qcM, zero_add -> qcP, natAbs_natCast -> qcY, mul_ediv_cancel' -> qda, le_of_mul_le_mul_left -> qdh, mul_one -> qdl, neg_mul -> qdE, mul_sub -> qdF, le_refl -> qdG, mul_lt_mul_of_pos_right -> qdV, lt_of_mul_lt_mul_right -> qd1, fdiv_eq_ediv_of_nonneg -> qd2, eq_of_mul_eq_mul_right -> qd3, lt_or_eq_of_le -> qd6, eq_of_mul_eq_mul_left -> qed, add_mul -> qes, natCast_mul -> qeP, ediv_nonneg -> qeQ, add_zero -> qeR, zero_ediv -> qfn, sub_zero -> qfL, le_trans -> qfM, le_of_lt -> qfN, sub_mul -> qgf, mul_neg -> qgg, mul_eq_zero -> qgh, reduceNeg -> qgN, mul_ediv_mul_of_pos -> qgO, le_total -> qg4, natAbs_of_nonneg -> qhi, emod_lt_of_pos -> qhL, emod_nonneg -> qil, natAbs_neg -> qiA, ediv_self -> qiY, neg_neg -> qka, mul_pos -> qkb
open List renaming length_map -> qaf, mem_cons_self -> qag, mem_cons_of_mem -> qaj, mem_singleton -> qal, range -> qam, getElem?_eq_getElem -> qao, length_cons -> qap, getElem?_eq_some_iff -> qar, map_cons -> qas, length_range -> qav, mem_append_right -> qaw, length_append -> qax, mem_cons -> qay, mem_map -> qaz, getD_eq_getElem?_getD -> qaB, replicate -> qaC, mem_range -> qaD, getElem?_append_left -> qaE, getElem?_map -> qaF, map_map -> qaG, size_toArray -> qaI, getElem?_append_right -> qaJ, mem_append -> qaK, getD_cons_zero -> qaO, getElem?_eq_none -> qaQ, all_eq_true -> qaW, getD_cons_succ -> qaY, mem_append_left -> qa0, pairwise_cons -> qa4, getElem?_set_self -> qbm, replicate_zero -> qbu, replicate_succ -> qbv, map_congr_left -> qbw, all_cons -> qbx, nil_append -> qbA, lookup_cons -> qbB, getElem?_set_ne -> qbE, set_cons_zero -> qbG, map_append -> qbJ, length_nil -> qbK, getElem?_range -> qbL, not_mem_nil -> qbM, cons_append -> qbN, mem_of_getElem? -> qbO, getElem_mem -> qbV, ext_getElem? -> qbX, set_cons_succ -> qb2, take_of_length_le -> qb7, sum_cons -> qb8, getElem?_eq_none_iff -> qb9, mem_filter -> qcb, length_singleton -> qcc, length_set -> qcd, any_cons -> qcr, map_nil -> qcs, nodup_cons -> qcu, append_nil -> qcv, mem_iff_getElem -> qcG, pairwise_map -> qcI, nodup_append -> qcJ, append_assoc -> qcK, take_left -> qcR, nodup_nil -> qcS, length_replicate -> qc1, length_filter_le -> qc2, forall_mem_cons -> qc6, drop_eq_getElem_cons -> qdb, length_take -> qdf, getElem_map -> qdg, zip_cons_cons -> qdp, getElem?_replicate -> qdq, find?_cons -> qdr, range_succ_eq_map -> qdy, mapM_toArray -> qdz, getElem_inj -> qdJ, filter_cons -> qdK, range_succ -> qdR, mem_map_of_mem -> qdS, lookup -> qdT, filter_cons_of_pos -> qem, filter_cons_of_neg -> qen, take_length -> qeq, length_drop -> qer, find?_cons_of_pos -> qev, find?_cons_of_neg -> qew, mem_iff_getElem? -> qeE, replicate_succ' -> qeT, range' -> qeZ, filter_sublist -> qe0, filterMap_cons -> qe1, mem_filterMap -> qfi, take_succ_eq_append_getElem -> qfm, filter_congr -> qft, all_map -> qfA, all_toArray -> qfJ, of_mem_zip -> qf2, map_id -> qf3, length -> qf4, getD -> qf5, forIn_cons -> qf6, drop_zero -> qgo, getElem?_take_of_lt -> qgv, pairwise_singleton -> qgz, map -> qgA, idxOf?_eq_some_iff -> qgB, drop_eq_nil_of_le -> qgM, range_eq_range' -> qg3, length_pos_iff -> qhe, flatten_append -> qhf, filter_eq_self -> qhg, getElem_range -> qhw, take_add_one -> qhG, push_toArray -> qhH, flatten_cons -> qhI, any_eq_false -> qhJ, Nodup -> qhK, zipIdx_cons -> qhZ, isEmpty_iff -> qh0, drop_length -> qh1, zipIdx_nil -> qh8, foldl_cons -> qh9, filter_map -> qia, forIn_nil -> qij, foldl -> qj9
open List.Pairwise renaming sublist -> qiW, map -> qiX
open List.Perm renaming refl -> qds, eq_of_pairwise -> qfK
open List.Sublist renaming refl -> qjS
open Nat renaming le_refl -> qan, ne_of_lt -> qaA, lt_of_lt_of_le -> qaP, le_trans -> qaS, lt_of_le_of_lt -> qaZ, lt_succ_of_lt -> qa1, lt_irrefl -> qa2, zero_add -> qbj, gcd -> qbs, zero_le -> qby, pow_le_pow_right -> qbS, lt_succ_self -> qb5, ne_of_gt -> qch, mul_le_mul_right -> qcq, not_lt_zero -> qcL, add_sub_cancel -> qcW, mul_le_mul -> qde, le_add_right -> qdi, le_succ -> qdk, add_sub_cancel_left -> qdt, le_of_eq -> qdI, reduceSub -> qdO, reduceAdd -> qdP, pow_pos -> qdU, lt_trans -> qd5, le_mul_of_pos_left -> qeA, sub_self -> qeN, le_of_lt -> qeO, pow_add -> qfc, gcd_dvd_right -> qfz, mul_comm -> qfF, lt_or_ge -> qfG, gcd_comm -> qfH, add_comm -> qfI, succ_ne_self -> qfX, gcd_dvd_left -> qfY, two_pow_pos -> qge, gcd_pos_of_pos_right -> qgy, sub_zero -> qg1, add_zero -> qg2, pow_lt_pow_right -> qhd, pos_of_ne_zero -> qhE, gcd_zero_right -> qhF, not_lt -> qhX, gcd_zero_left -> qhY, mul_lt_mul'' -> qh4, mod_eq_of_lt -> qh5, min_eq_right -> qh6, gcd_mul_left -> qh7, min_eq_left -> qii, le_of_dvd -> qiU, dvd_trans -> qiV, succ_mul -> qjQ, min_self -> qjR, pow_mul -> qj5, one_mul -> qj6, gcd_rec -> qj7, add_mul -> qj8, mod_lt -> qlo
open Ne renaming symm -> qbz
open Option renaming bind_some -> qaa, bind_eq_some_iff -> qab, map_eq_some_iff -> qad, map_some -> qak, isSome_iff_exists -> qcC, getD_none -> qhv
open Option.some renaming inj -> qaL, injEq -> qj4
open Prod renaming snd -> qcF, fst -> qc5
open PyProof.Rows renaming boot_list -> qaR, boot_isinstance -> qaT, boot_sorted -> qaV, boot_tuple -> qa3, boot_repr -> qa8, boot_bool -> qa9, boot_sum -> qbb, boot_str -> qbc, boot_min -> qbd, boot_max -> qbe, boot_int -> qbf, boot_all -> qbg, boot_abs -> qbh, wpS_bind -> qbC, slot_tuple_getitem -> qbI, SortSt -> qb1, wpS_pure -> qcj, callWith_type1 -> qcm, IntsAre -> qct, SortKind -> qdn, wpS_forRange -> qej, lt_int -> qel, envOfC -> qez, pendingOf -> qe7, boot_range -> qfs, KeyOrd -> qfu, AllBare -> qfD, seqObj -> qfR, assignInOrder_cons -> qfU, wpS_modify -> qg6, wpS_get -> qhl, listUpdate_at -> qhq, failedOf -> qhr, subscriptTail_builtinR -> qhz, seqEpoch_at -> qid, keyKind'_eq -> qie, getElem?_mirror_all -> qif, entry_tuple_getitem -> qig, wpS_mono -> qio, oneType' -> qir, keyKind' -> qis, gallopOf -> qit, args_tuple_getitem -> qiv, size_push' -> qiN, assignInOrder_nil -> qiO, Subscript_ -> qiR, gt_int -> qjN, envOfC -> qjO, callWith_builtin1 -> qjP, sortedAll -> qjW, oneTypeOnly'_eq -> qjY, mirror -> qjZ, getElem?_bubble -> qj1, entry_list_sort -> qj2, slot_list_sort -> qkf, slicePart_none -> qkg, boot_enumerate -> qkk, args_list_sort -> qkl
open PyProof.Rows.KeyOrd renaming kle_refl -> qcX, kle_of_klt -> qdu, kle_trans -> qdH, kle_antisymm -> qgU
open PyProof.Rows.SortSt renaming mk' -> qiS
open PySem renaming wpAny_bind -> qac, Shared -> qai, wpAny_pure -> qaq, sizeLine -> qaH, Program -> qaM, Around -> qaU, boot_len -> qbo, compareOp -> qbq, mem_of_lookup -> qbt, starEach -> qbF, Spec -> qbH, wpAny_callSpecial?_slot -> qbP, binaryOp -> qbQ, IntMulOk -> qbU, wpAny_call_entry -> qbY, foldedSetIterable -> qbZ, assignEach -> qb0, NameKind -> qb6, FuncData -> qca, wpAny_truthy_bool -> qce, wpAny_field -> qcf, mainGlobals -> qcg, wpAny_seqItems -> qck, wpAny_holding -> qcl, bootBuiltins -> qco, wpAny_newObj_type -> qcw, wpAny_mono -> qcA, sysModules -> qcB, swapsWith -> qcD, cellsFrom -> qcE, wpAny_typeNameOfWhole_keyiter -> qcZ, wpAny_setField_rec -> qc4, wpAny_passesOwn -> qc7, sizeLine_eq -> qc8, pushCells_keeps -> qc9, call_meets -> qdd, wpAny_pyIter_tuple -> qdC, attributeBase -> qdD, wpAny_rule -> qdM, swapsWithSole -> qdX, swappedStores -> qdY, wpAny_letGo -> qd7, sliceBounds -> qd8, codeAny_builtin -> qd9, codeAny -> qea, DictEntry -> qee, wpAny_Call_Name_kw -> qek, wpAny_tryCatch -> qeo, wpAny_pyIter_list -> qex, wpAny_pyIter_enum -> qey, wpAny_standAt -> qeI, wpAny_attempt -> qeJ, strLen_append -> qeK, wpAny_pyNext_list_item -> qeU, wpAny_pyNext_list_end -> qe3, wpAny_ite_false -> qe4, wpAny_execs_nil -> qe5, pushCells -> qe6, getItem -> qe8, backTo -> qe9, Builtin -> qff, wpAny_updateSeq_pair -> qfj, list_append -> qfk, wpAny_setField -> qfr, wpAny_onRaise -> qfP, wpAny_newList -> qfQ, plainId_quiet -> qfS, behindInMarks -> qfT, wpAny_dictEntries -> qf9, typeIs_int -> qga, holding -> qgb, codeAny_mono -> qgk, assign -> qgl, Paired -> qgn, IsPart -> qgp, noFill_tuple_add -> qgr, wpAny_updateSeq -> qgD, wpAny_dictEpoch -> qgE, tupleKind -> qgF, subscripted -> qgG, rawInt -> qgH, letOwnedTupleGo -> qgI, keywordEach -> qgJ, Within -> qgL, intBits_le_iff -> qgR, wpAny_binaryOp_repeat_ref -> qgV, wpAny_comprehension_free -> qg7, pyNext -> qg8, builtinsNs -> qg9, IsPair -> qhh, wpAny_pyNext_enum_itemD -> qhm, valueAt -> qhn, seq_tuple_add -> qho, rangeSize_one -> qhp, compEnvC -> qhs, callerA -> qht, call -> qhu, IntMulOk -> qhx, BindsTo -> qhy, richCompare_meets_room -> qhA, codeAny_compStart_list -> qhB, wpAny_typeOf -> qhO, wpAny_isOneOf_keyiter -> qhP, seqIndex_neg -> qhQ, concat_meets -> qhR, PassesOwn -> qhV, seqIndex_of -> qic, Keyword -> qik, tupleKind_room_in1 -> qip, pyIter -> qiq, backToKw -> qiu, Result -> qix, GenState -> qiC, wpAny_sequenceKey -> qiI, wpAny_call -> qiJ, wpAny_assign_Name -> qiK, wpAny_Name -> qiL, slot_list_getitem -> qiM, wpAny_pyIter_zip -> qi7, wpAny_isInstance -> qi8, wpAny_forIn_list -> qi9, wpAny_execs_cons -> qja, standAt -> qjV, setItem -> qjX, isTrue -> qj0, wpAny_newTuple -> qkc, wpAny_fieldsOf -> qkd, wpAny_bindName -> qke, recursionLimit -> qkh, isSubtype_stop -> qki, firstArgMember -> qkj
open PySem.Around renaming under_plainId -> qeH, under -> qgC
open PySem.AutoSeq1 renaming sub_tuple_tuple -> qf0
open PySem.Builtin.Dict renaming showsAll -> qfO
open PySem.Builtin.List renaming listTooLong -> qfq
open PySem.Builtin.Range renaming rangeFitsLong -> qeX, rangeSize -> qfp, small -> qi5
open PySem.Builtin.Slice renaming slicePlaces -> qcV, sliceAdjust -> qfe, slicePartIndex -> qi3, sliceApplied -> qi4
open PySem.Builtin.SmallTypes renaming nextOf -> qcQ, ownedTupleHandOut -> qdW, ownedTupleIsFree -> qhM
open PySem.Builtin.Tuple renaming tupleCompareSizes -> qeB, tupleItemsOf -> qe2, tupleTooMany -> qi2
open PySem.Calls renaming Name_function_global -> qf7, call_function_entry -> qgj
open PySem.Code renaming isGuard -> qi0, isFrame -> qi1, frames -> qjU
open PySem.Draws renaming list -> qjT
open PySem.Env renaming kindOf -> qlp
open PySem.F renaming slot_dict_keyiterator_next -> qbW, plain_max_loop -> qcU, slot_tuple_iterator_next -> qdc, slot_tuple_lt -> qdx, args_tuple_add_2 -> qd0, entry_tuple_add -> qeb, args_tuple_lt_2 -> qec, slot_tuple_add -> qeg, entry_tuple_lt -> qeh, args_dict_keyiterator_next_1 -> qeD, slot_tuple_mul -> qeF, entry_dict_keyiterator_next -> qeM, slot_zip_next -> qeV, slot_int_rmul -> qeW, args_list_append_2 -> qfd, entry_list_append -> qfo, slot_list_append -> qfB, args_tuple_mul_2 -> qfC, entry_tuple_mul -> qfZ, slot_list_index -> qgc, plainAttrs_list -> qgd, entry_max_loop -> qgi, slot_dict_iter -> qgm, args_tuple_iterator_next_1 -> qgq, entry_tuple_iterator_next -> qgw, args_zip_next_1 -> qim, args_int_rmul_2 -> qin, slot_int_index -> qiD, entry_zip_next -> qiE, entry_int_rmul -> qiF, fills_int_mul -> qiZ
open PySem.Heap renaming get?_push_of_some -> qah, get?_push_size -> qat, lt_size -> qau, get?_update_other -> qbn, size_push -> qbp, get?_update_self -> qc3, SameBut -> qdm, get?_push_ne -> qdA, get?_update_ne -> qhj, ExtBut -> qhk, size_update -> qh2
open PySem.Heap.IsSliceOf renaming new -> qiB
open PySem.Heap.SameBut renaming update -> qdB
open PySem.IntMulOk renaming of_le -> qiy
open PySem.IsL renaming update -> qfb
open PySem.Obj renaming mapSeq -> qcT, data_mapFields -> qd4, isFreed_of_fields -> qg0, cls_mapFields -> qhW
open PySem.Paired renaming length -> qeY, snoc -> qiz
open PySem.PassesOwn renaming never -> qei
open PySem.PyData renaming shownAll -> qdN, depth -> qeu, shown -> qfl, depthAll -> qfE, showableAll -> qgZ, hasDictAll -> qhc, showable -> qhD, hasDict -> qhU
open PySem.SeqAt renaming EqAt -> qdw, ne_of_list_tuple -> qgx, notIn_tupleAt -> qgW, notIn_listAt -> qha, RcNeAt -> qiw, RcAt -> qjL, list_indexAt -> qj3
open PySem.SeqAt.EqAt renaming of_refs -> qeC, same -> qfh, str_int -> qgs, int_str -> qgt, int_int -> qgu, tuple_str -> qkU, tuple_none -> qkV, tuple_list -> qkW, tuple_int -> qkX, tuple_bool -> qkY, str_tuple -> qkZ, str_str -> qk0, str_none -> qk1, str_list -> qk2, str_bool -> qk3, none_tuple -> qk4, none_str -> qk5, none_list -> qk6, none_int -> qk7, none_bool -> qk8, list_tuple -> qk9, list_str -> qla, list_none -> qlb, list_int -> qlc, list_bool -> qld, int_tuple -> qle, int_none -> qlf, int_list -> qlg, int_bool -> qlh, bool_tuple -> qli, bool_str -> qlj, bool_none -> qlk, bool_list -> qll, bool_int -> qlm, bool_bool -> qln
open PySem.SeqAt.RcAt renaming tuples -> qeS, lists_lengths -> qfv, lists -> qgK, tuple_str -> qkm, tuple_none -> qkn, tuple_list -> qko, tuple_int -> qkp, tuple_bool -> qkq, str_tuple -> qkr, str_str -> qks, str_none -> qkt, str_list -> qku, str_int -> qkv, str_bool -> qkw, none_tuple -> qkx, none_str -> qky, none_none -> qkz, none_list -> qkA, none_int -> qkB, none_bool -> qkC, list_tuple -> qkD, list_str -> qkE, list_none -> qkF, list_int -> qkG, list_bool -> qkH, int_tuple -> qkI, int_str -> qkJ, int_none -> qkK, int_list -> qkL, int_int -> qkM, int_bool -> qkN, bool_tuple -> qkO, bool_str -> qkP, bool_none -> qkQ, bool_list -> qkR, bool_int -> qkS, bool_bool -> qkT
open PySem.SeqAt.RcNeAt renaming tuples -> qf1, tuple_str -> qjb, tuple_none -> qjc, tuple_list -> qjd, tuple_int -> qje, tuple_bool -> qjf, str_tuple -> qjg, str_str -> qjh, str_none -> qji, str_list -> qjj, str_int -> qjk, str_bool -> qjl, none_tuple -> qjm, none_str -> qjn, none_none -> qjo, none_list -> qjp, none_int -> qjq, none_bool -> qjr, lists_lengths -> qjs, lists -> qjt, list_tuple -> qju, list_str -> qjv, list_none -> qjw, list_int -> qjx, list_bool -> qjy, int_tuple -> qjz, int_str -> qjA, int_none -> qjB, int_list -> qjC, int_int -> qjD, int_bool -> qjE, bool_tuple -> qjF, bool_str -> qjG, bool_none -> qjH, bool_list -> qjI, bool_int -> qjJ, bool_bool -> qjK
open PySem.Str renaming ofString -> qeL
open PySem.Value renaming isStrOf -> qih, isInt -> qiQ
open PySem.W renaming Frag -> qae, kia_one -> qbR, findIn -> qcp, keepIn -> qcO, emptyDict -> qc0, instObj -> qdj, cellsFrom_some -> qdo, fnOf -> qdQ, hasDictIn -> qdZ, plainGet -> qef, nsIn -> qep, plainOver -> qfa, takerIn -> qfw, makesIn -> qfx, OpenLaw -> qfy, lookIn -> qfV, codeIn -> qfW, kitx_tuple -> qgS, callWith_K -> qgT, kitx_list -> qgX, kitx_dict -> qgY, handedIn -> qhb, kitOne -> qhC, mg_of -> qhS, WalkO -> qhT, isFn -> qh3
open PySem.W.Looks renaming here -> qiT
open PySem.W.WShape renaming has -> qiP
open PySem.WalksT renaming enumerateD -> qfg
open PySem.Within renaming cons -> qjM
def U{α:Sort u}{a:α}:a=a:=rfl
def iFN{c:Prop}[d:Decidable c](h:¬c){α:Sort u}{t e:α}:ite c t e=e:=if_neg h
def iFP{c:Prop}[d:Decidable c](h:c){α:Sort u}{t e:α}:ite c t e=t:=if_pos h
namespace L2
open PySem PySem.Spec PyProof.Rows
abbrev Key:=Sum Int Str
def pJ:Key->Value->Bool
 |.inl k,v=>qiQ k v
 |.inr x,v=>qih x v
def GA (w:World):Key->Int
 |.inl k=>hashInt k
 |.inr x=>hashStr w x
theorem bI:∀ {k:Key}{v:Value},pJ k v=true->(∃ i t,k=Sum.inl i/\v=Value.int i t)\/(∃ x t,k=Sum.inr x/\v=Value.str x t)
 |.inl i,v,h=>by
  obtain⟨t,e⟩:=Value.isInt_shape h;exact .inl ⟨i,t,U,e⟩
 |.inr x,v,h=>by
  obtain⟨t,e⟩:=Value.isStrOf_shape h;exact .inr ⟨x,t,U,e⟩
theorem yg (i:Int) (t:Tok):pJ (.inl i) (.int i t)=true:=by simp[pJ,qiQ]
theorem yh (x:Str) (t:Tok):pJ (.inr x) (.str x t)=true:=by simp[pJ,qih]
theorem DG (a b:Int):decide ((Sum.inl a:Key)=Sum.inl b)=(a==b):=by
 by_cases e:a=b
 ·subst e;simp
 ·rw[decide_eq_false (λq=>e (Sum.inl.inj q))]
  exact (beq_eq_false_iff_ne.mpr e).symm
theorem DJ (a b:Str):decide ((Sum.inr a:Key)=Sum.inr b)=decide (a=b):=by
 by_cases e:a=b
 ·simp
 ·rw[decide_eq_false (λq=>e (Sum.inr.inj q)),decide_eq_false e]
theorem DH (a:Int) (b:Str):decide ((Sum.inl a:Key)=Sum.inr b)=false:=decide_eq_false (λq=>nomatch q)
theorem DI (a:Str) (b:Int):decide ((Sum.inr a:Key)=Sum.inl b)=false:=decide_eq_false (λq=>nomatch q)
def cq (prog:qaM) (w:World):PySem.KeyKind prog w Key where
 is:=pJ
 hash:=GA w
 inj:=λv a b f hb=>by
  rcases bI f with⟨i,t,rfl,rfl⟩|⟨x,t,rfl,rfl⟩
  ·rcases bI hb with⟨j,u,rfl,e⟩|⟨y,u,rfl,e⟩
   ·injection e with c _;rw[c]
   ·exact nomatch e
  ·rcases bI hb with⟨j,u,rfl,e⟩|⟨y,u,rfl,e⟩
   ·exact nomatch e
   ·injection e with c _;rw[c]
 byValue:=λk v h=>by
  rcases bI h with⟨i,t,rfl,rfl⟩|⟨x,t,rfl,rfl⟩<;>rfl
 pyHash:=λd h=>by
  rcases bI d with⟨i,t,rfl,rfl⟩|⟨x,t,rfl,rfl⟩
  ·exact wpAny_pyHash_int h
  ·exact wpAny_pyHash_str h
 eqBool:=λg d h=>by
  rcases bI g with⟨i,t,rfl,rfl⟩|⟨x,t,rfl,rfl⟩
  ·rcases bI d with⟨j,u,rfl,rfl⟩|⟨y,u,rfl,rfl⟩
   ·rw[DG]at h;exact wpAny_eqBool_int h
   ·rw[DH]at h;exact qgt i t y u _ _ _ _ h
  ·rcases bI d with⟨j,u,rfl,rfl⟩|⟨y,u,rfl,rfl⟩
   ·rw[DI]at h;exact qgs x t j u _ _ _ _ h
   ·rw[DJ]at h;exact wpAny_eqBool_str h
 «strs»:=λk x t v h=>by
  rcases bI h with⟨i,u,rfl,e⟩|⟨y,u,rfl,e⟩
  ·exact nomatch e
  ·injection e with c _
   subst c;cases v<;>rfl
theorem ui (prog:qaM) (w:World) (i:Int) (t:Tok):(cq prog w).is (.inl i) (.int i t)=true:=yg i t
theorem uj (prog:qaM) (w:World) (x:Str) (t:Tok):(cq prog w).is (.inr x) (.str x t)=true:=yh x t
inductive V where
 |non|bl (b:Bool)|int (i:Int)|str (x:Str)|byt (b:Array UInt8)|flt (b:UInt64)|ref (a:Addr)|ty (n:String)
 deriving DecidableEq
def aP:V->Value->Prop
 |.non,u=>u=Value.none
 |.bl b,u=>u=Value.bool b
 |.int i,u=>∃ t,u=Value.int i t
 |.str x,u=>∃ t,u=Value.str x t
 |.byt b,u=>∃ t,u=Value.bytes b t
 |.flt b,u=>∃ t,u=Value.float b t
 |.ref a,u=>u=Value.ref a
 |.ty n,u=>u=Value.type n
abbrev aL:List V->List Value->Prop:=qgn aP
theorem aL.length {xs:List V}{a:List Value} (r:aL xs a):xs.length=a.length:=qeY r
theorem aL.get:∀ {xs:List V}{a:List Value}{i:Nat}{x:V},aL xs a->xs[i]?=some x->∃ u,a[i]?=some u/\aP x u
 |_,_,_,_,.nil,e=>by simp at e
 |_,_,0,_,.cons r _,e=>by simp at e;subst e;exact⟨_,U,r⟩
 |_,_,i+1,x,.cons _ t,e=>by
  obtain⟨u,c,b⟩:=aL.get t (by simpa using e);exact⟨u,by simpa using c,b⟩
theorem aL.set {x:V}{u:Value} (r:aP x u):∀ {xs:List V}{a:List Value} (i:Nat),aL xs a->aL (xs.set i x) (a.set i u)
 |_,_,_,.nil=>.nil
 |_,_,0,.cons _ t=>.cons r t
 |_,_,i+1,.cons q t=>.cons q (aL.set r i t)
theorem aL.append:∀ {xs a:List V}{b ws:List Value},aL xs b->aL a ws->aL (xs++a) (b++ws)
 |_,_,_,_,.nil,s=>s
 |_,_,_,_,.cons r t,s=>.cons r (aL.append t s)
theorem aL.take:∀ {xs:List V}{a:List Value} (n:Nat),aL xs a->aL (xs.take n) (a.take n)
 |_,_,0,_=>.nil
 |_,_,_+1,.nil=>.nil
 |_,_,n+1,.cons r t=>.cons r (aL.take n t)
theorem aL.drop:∀ {xs:List V}{a:List Value} (n:Nat),aL xs a->aL (xs.drop n) (a.drop n)
 |_,_,0,r=>r
 |_,_,_+1,.nil=>.nil
 |_,_,n+1,.cons _ t=>aL.drop n t
def lP:Option V->Option Value->Prop
 |some v,some u=>aP v u
 |none,none=>True
 |_,_=>False
def KV {a:Type}:List (a×V)->List (a×Value)->Prop:=qgn λ(p:a×V) (q:a×Value)=>p.1=q.1/\aP p.2 q.2
def kV:Key->V
 |.inl i=>.int i
 |.inr x=>.str x
inductive HO where
 |lst (xs:List V)
 |tup (xs:List V)
 |dK (kvs:List (Key×V))|dT (kvs:List (List Key×V))
 |set (S:Int->Bool) (n:Nat)
 |ins (C dx:Addr) (fs:List (Str×V))
 |own (x:Addr)
 |xd (fs:List (Str×V))
 |met (f x:Addr)
 |rng (lo hi:Int)
 |frz (o:Obj) (u:HO)
 |tbl (ps:Array Value)
 |ext (φ:Heap->Prop)
abbrev Hp:=Addr->Option HO
def upd (H:Hp) (a:Addr) (o:HO):Hp:=λb=>if b=a then some o else H b
theorem upd_same {H:Hp}{a:Addr}{o:HO}:upd H a o a=some o:=by unfold upd;rw[iFP U]
theorem upd_ne {H:Hp}{a b:Addr}{o:HO} (h:b≠a):upd H a o b=H b:=by unfold upd;rw[iFN h]
theorem FA {H:Hp}{a b:Addr}{o u:HO} (h:H a=some o) (h':H b=some u) (d:o≠u):a≠b:=by
 intro e;subst e;rw[h]at h';exact d (qaL h')
theorem aO {H:Hp}{a b:Addr}{o:HO} (h:H a=some o) (h':H b=none):a≠b:=by
 intro e;subst e;rw[h]at h';cases h'
def fL (h:Heap) (a:Addr) (b:Array Value):Prop:=∃ o:Obj,h.get? a=some o/\o.cls=.type "tuple"/\(∃ n,o.data=.seq b n)/\o.dict=none
theorem fL.tup {h:Heap}{a:Addr}{b:Array Value} (x:fL h a b):IsTup h a b:=let ⟨o,e,c,n,_⟩:=x;⟨o,e,c,n⟩
theorem fL.new (h:Heap) (a:Array Value):fL (h.push { cls:=.type "tuple",data:=.seq a }) h.objs.size a:=⟨_,qat _ U,U,⟨_,U⟩,U⟩
section
variable (P:qaM) (w:World)
def cA (H:Hp) (h:Heap) (a:Addr):HO->Prop
 |.lst xs=>xs.length<=qaH/\∃ (b:List Value) (n:Nat),aL xs b/\h.get? a=some { cls:=.type "list",data:=.seq b.toArray n }
 |.tup xs=>xs.length<=qaH/\∃ b:List Value,aL xs b/\fL h a b.toArray
 |.dK c=>c.length<=qaH/\(a==qcB)=false/\∃ g,KV c g/\h.DictOf (cq P w) a g
 |.dT c=>c.length<=qaH/\(a==qcB)=false/\∃ xs:List (List Key×Addr×Value),
   qgn (λ(p:List Key×V) (q:List Key×Addr×Value)=>p.1=q.1/\H q.2.1=some (.tup (p.1.map kV))/\aP p.2 q.2.2) c xs/\
   ∃ o es k,h.get? a=some o/\o.ExactDict/\o.data=.dict es k/\es.toList=xs.map (entryOfKey (qgF (cq P w)))/\(xs.map (·.1)).Nodup
 |.set S n=>h.SetOf (intKind P w) a S n
 |.ins C e fs=>H e=some (.own a)/\fs.length<=1000/\e≠a/\h.get? a=some (qdj C e)/\
   ∃ d,h.Ns1 e d/\(∀ f,lP (fs.lookup f) (d f))/\qgL d (fs.map (·.1))
 |.own _=>∃ o,h.get? a=some o
 |.xd fs=>∃ d,h.Ns1 a d/\∀ f,lP (fs.lookup f) (d f)
 |.rng lo hi=>∃ t u v,h.get? a=some { cls:=.type "range",data:=.fields #[.int lo t,.int hi u,.int 1 v] }
 |.frz o u=>h.get? a=some o/\cA H h a u
 |.tbl ps=>h.get? a=some { cls:=.none,data:=.fields ps }
 |.met f x=>h.get? a=some (PySem.W.methodObj (.ref f) (.ref x))
 |.ext φ=>φ h/\(∃ o,h.get? a=some o)/\∀ j i:Heap,φ j->(∀ o,j.get? a=some o->i.get? a=some o)->φ i
def HOk (H:Hp) (h:Heap):Prop:=∀ a o,H a=some o->cA P w H h a o
end
section
variable {P:qaM}{w:World}{H H':Hp}{h h':Heap}{a:Addr}{o:HO}
theorem cA.lt (x:cA P w H h a o):a<h.objs.size:=by
 cases o with
 |lst xs=>obtain⟨_,_,_,_,e⟩:=x;exact qau e
 |tup xs=>obtain⟨_,_,_,p⟩:=x;exact p.tup.lt
 |dK l=>obtain⟨_,_,_,_,o,_,_,e,_⟩:=x;exact qau e
 |dT l=>obtain⟨_,_,_,_,o,_,_,e,_⟩:=x;exact qau e
 |set S n=>obtain⟨o,_,_,_,e,_⟩:=x;exact qau e
 |ins C L fs=>obtain⟨_,_,_,e,_⟩:=x;exact qau e
 |own y=>obtain⟨_,e⟩:=x;exact qau e
 |xd fs=>obtain⟨_,⟨_,_,_,e,_⟩,_⟩:=x;exact qau e
 |rng lo hi=>obtain⟨_,_,_,e⟩:=x;exact qau e
 |frz ob u=>obtain⟨e,_⟩:=x;exact qau e
 |tbl ps=>exact qau (x)
 |met f y=>exact qau (x)
 |ext φ=>obtain⟨_,⟨_,e⟩,_⟩:=x;exact qau e
theorem qgn.mapP {α B:Type}{F G:α->B->Prop}:∀ {j:List α}{i:List B},qgn F j i->(∀ a b,F a b->G a b)->qgn G j i
 |_,_,.nil,_=>.nil
 |_,_,.cons r t,f=>.cons (f _ _ r) (qgn.mapP t f)
theorem cA.stay (x:cA P w H h a o) (k:∀ b u,(b=a\/H b=some (.own a))->h.get? b=some u->h'.get? b=some u)
  (K:∀ b,H b=some (.own a)->H' b=some (.own a)) (J:∀ b xs,H b=some (.tup xs)->H' b=some (.tup xs)):cA P w H' h' a o:=by
 induction o with
 |lst xs=>obtain⟨z,m,n,r,e⟩:=x;exact⟨z,m,n,r,k _ _ (.inl U) e⟩
 |tup xs=>obtain⟨z,m,r,ob,e,c⟩:=x;exact⟨z,m,r,ob,k _ _ (.inl U) e,c⟩
 |dK l=>obtain⟨z,y,D,r,ob,es,g,e,c⟩:=x;exact⟨z,y,D,r,ob,es,g,k _ _ (.inl U) e,c⟩
 |dT l=>
  obtain⟨z,y,xs,r,ob,es,g,e,c⟩:=x;exact⟨z,y,xs,qgn.mapP r λp q z=>⟨z.1,J _ _ z.2.1,z.2.2⟩,ob,es,g,k _ _ (.inl U) e,c⟩
 |set S n=>obtain⟨ob,es,g,t,e,c⟩:=x;exact⟨ob,es,g,t,k _ _ (.inl U) e,c⟩
 |ins C L fs=>
  obtain⟨d,z,ne,e,A,⟨s,es,g,I,c⟩,r⟩:=x;exact⟨K _ d,z,ne,k _ _ (.inl U) e,A,⟨s,es,g,k _ _ (.inr d) I,c⟩,r⟩
 |own y=>obtain⟨ob,e⟩:=x;exact⟨ob,k _ _ (.inl U) e⟩
 |xd fs=>obtain⟨A,⟨s,es,g,e,c⟩,r⟩:=x;exact⟨A,⟨s,es,g,k _ _ (.inl U) e,c⟩,r⟩
 |rng lo hi=>obtain⟨t,u,v,e⟩:=x;exact⟨t,u,v,k _ _ (.inl U) e⟩
 |frz ob u M=>obtain⟨e,q⟩:=x;exact⟨k _ _ (.inl U) e,M q⟩
 |tbl ps=>
  exact k a _ (.inl U) x
 |met f y=>
  exact k a _ (.inl U) x
 |ext φ=>obtain⟨p,⟨o,e⟩,st⟩:=x;exact⟨st _ _ p λo q=>k _ _ (.inl U) q,⟨o,k _ _ (.inl U) e⟩,st⟩
theorem HOk.lt (x:HOk P w H h) (e:H a=some o):a<h.objs.size:=(x a o e).lt
theorem HOk.fresh (x:HOk P w H h) (e:h.objs.size<=a):H a=none:=by
 cases q:H a with
 |none=>rfl
 |some u=>exact absurd (qaP (x.lt q) e) (qa2 _)
theorem HOk.kept (x:HOk P w H h) (k:∀ b u,h.get? b=some u->h'.get? b=some u):HOk P w H h':=λa o e=>
 (x a o e).stay (λb u _ q=>k b u q) (λ_ q=>q) λ_ _ q=>q
theorem HOk.laid (x:HOk P w H h) (k:∀ b u,h.get? b=some u->h'.get? b=some u) (E:h.objs.size<=a) (new:cA P w (upd H a o) h' a o):HOk P w (upd H a o) h':=λb u e=>by
 have hn:=x.fresh E;by_cases hb:b=a
 ·subst hb;rw[upd_same]at e;cases e;exact new
 ·rw[upd_ne hb]at e
  exact (x b u e).stay (λc v _ q=>k c v q) (λc q=>by rw[upd_ne (aO q hn)];exact q) λc xs q=>by rw[upd_ne (aO q hn)];exact q
end
def Rd (H:Hp) (a:Addr) (u:HO):Prop:=H a=some u\/∃ o,H a=some (.frz o u)
theorem Rd.of {H:Hp}{a:Addr}{u:HO} (h:H a=some u):Rd H a u:=.inl h
theorem Rd.ok {P:qaM}{w:World}{H:Hp}{h:Heap}{a:Addr}{u:HO} (r:Rd H a u) (x:HOk P w H h):cA P w H h a u:=by
 rcases r with r|⟨o,r⟩
 ·exact x a u r
 ·obtain⟨_,q⟩:=x a _ r
  exact q
def Mut:Option HO->Prop
 |some (.lst _)=>True
 |some (.dK _)=>True
 |some (.dT _)=>True
 |some (.set _ _)=>True
 |some (.ins _ _ _)=>True
 |some (.ext _)=>True
 |_=>False
section
variable {P:qaM}{w:World}{H:Hp}{h h':Heap}{x e:Addr}{j:HO}
theorem HOk.write (ok:HOk P w H h) (f:Mut (H x)) (m:e=x\/H e=some (.own x)) (k:∀ b u,b≠e->h.get? b=some u->h'.get? b=some u) (i:∃ u,h'.get? e=some u)
  (new:cA P w (upd H x j) h' x j):HOk P w (upd H x j) h':=λb u q=>by
 have d:∀ c y,H c=some (.own y)->c≠x:=λc y r z=>by subst z;rw[r]at f;exact f
 by_cases hb:b=x
 ·subst hb;rw[upd_same]at q;cases q;exact new
 ·rw[upd_ne hb]at q
  by_cases a:b=e
  ·have l:H b=some (.own x):=by
    rcases m with z|z
    ·exact absurd (a.trans z) hb
    ·rw[a];exact z
   rw[q]at l;cases l;obtain⟨v,n⟩:=i;exact⟨v,by rw[a];exact n⟩
  ·refine (ok b u q).stay (λc v g r=>k c v ?_ r) (λc r=>by rw[upd_ne (d c b r)];exact r) λc xs r=>by rw[upd_ne ((λc xs r z=>by subst z;rw[r]at f;exact f) c xs r)];exact r
   rcases g with rfl|g
   ·exact a
   ·rintro rfl
    rcases m with z|z
    ·exact d c b g z
    ·rw[g]at z;cases z;exact hb U
end
structure Un (fs ex:List Addr) (H H':Hp) (h h':Heap):Prop where
 keep:∀ b o,h.get? b=some o->H b=none->b∉fs->b∉ex->h'.get? b=some o
 slot:∀ b o,h.get? b=some o->H b=none->b∈fs->b∉ex->∃ sl,h'.get? b=some { o with slots:=sl }
 free:∀ b o,h.get? b=some o->H b=none->b∉ex->H' b=none
 there:∀ b o,h.get? b=some o->b∉ex->∃ o',h'.get? b=some o'
 tups:∀ b xs,H b=some (.tup xs)->H' b=some (.tup xs)
 frzs:∀ b o u,H b=some (.frz o u)->H' b=some (.frz o u)
 tbls:∀ b ps,H b=some (.tbl ps)->∃ more,H' b=some (.tbl (ps++more))
section
variable {fs s ex l:List Addr}{H H1 H2:Hp}{h i t h':Heap}{a x e:Addr}{o:HO}
theorem Un.any (u:Un fs ex H H1 h i) {b:Addr}{ob:Obj} (q:h.get? b=some ob) (n:H b=none) (d:b∉ex):∃ j,i.get? b=some { ob with slots:=j }:=by
 by_cases hb:b∈fs
 ·exact u.slot b ob q n hb d
 ·exact⟨ob.slots,u.keep b ob q n hb d⟩
theorem Un.kept (k:∀ b u,h.get? b=some u->h'.get? b=some u):Un fs ex H H h h':=
 ⟨λb ob q _ _ _=>k b ob q,λb ob q _ _ _=>⟨ob.slots,k b ob q⟩,λ_ _ _ n _=>n,λb ob q _=>⟨ob,k b ob q⟩,λ_ _ q=>q,λ_ _ _ q=>q,λ_ ps q=>⟨#[],by rw[q];simp⟩⟩
theorem Un.refl:Un fs ex H H h h:=Un.kept λ_ _ q=>q
theorem Un.laid (k:∀ b u,h.get? b=some u->h'.get? b=some u) (m:h.objs.size<=a) (hn:H a=none):Un fs ex H (upd H a o) h h' where
 keep:=λb u q _ _ _=>k b u q
 slot:=λb u q _ _ _=>⟨u.slots,k b u q⟩
 free:=λb u q n _=>by rw[upd_ne (qaA (qaP (qau q) m))];exact n
 there:=λb u q _=>⟨u,k b u q⟩
 tups:=λb xs q=>by rw[upd_ne (aO q hn)];exact q
 frzs:=λb u xs q=>by rw[upd_ne (aO q hn)];exact q
 tbls:=λb ps q=>⟨#[],by rw[upd_ne (aO q hn),q];simp⟩
theorem Un.write (f:Mut (H x)) (p:e=x\/H e=some (.own x)) (k:∀ b u,b≠e->h.get? b=some u->h'.get? b=some u) (g:∃ u,h'.get? e=some u):Un fs ex H (upd H x o) h h':=by
 have d:∀ b,H b=none->b≠x:=λb n z=>by subst z;rw[n]at f;exact f
 have hb:∀ b,H b=none->b≠e:=λb n z=>by
  subst z;rcases p with r|r
  ·exact d b n r
  ·rw[n]at r;cases r
 have hm:∀ b u,H b=some u->¬ Mut (some u)->b≠x:=λb u q nm z=>by subst z;rw[q]at f;exact nm f
 refine⟨λb u q n _ _=>k b u (hb b n) q,λb u q n _ _=>⟨u.slots,k b u (hb b n) q⟩,λb u q n _=>by rw[upd_ne (d b n)];exact n,λb u q _=>?_,
  λb xs q=>by rw[upd_ne (hm b _ q λz=>z)];exact q,λb u xs q=>by rw[upd_ne (hm b _ q λz=>z)];exact q,λb ps q=>⟨#[],by rw[upd_ne (hm b _ q λz=>z),q];simp⟩⟩
 by_cases c:b=e
 ·subst c;exact g
 ·exact⟨u,k b u c q⟩
end
def trk (h:Heap) (H:Hp):List Addr:=(qam h.objs.size).filter λa=>(H a).isSome
def x4 (h:Heap) (H:Hp):Heap:=PySem.W.hideAll h (trk h H)
theorem x6 (h:Heap) (H:Hp):(x4 h H).objs.size=h.objs.size:=PySem.W.hideAll_size _ _
theorem zi {h:Heap}{H:Hp}{b:Addr}{o:Obj} (e:h.get? b=some o) (n:H b=none):(x4 h H).get? b=some o:=
 PySem.W.hideAll_get _ e λhm=>by
  have q:=(qcb.mp hm).2;rw[n]at q;simp at q
theorem BC {h:Heap}{H:Hp}{b:Addr}{o:Obj} (e:(x4 h H).get? b=some o):h.get? b=some o/\H b=none:=by
 have a:=PySem.W.of_hideAll _ e;refine⟨a,?_⟩;cases q:H b with
 |none=>rfl
 |some x=>
  have z:(x4 h H).get? b=none:=PySem.W.hideAll_none _ (qcb.mpr ⟨qaD.mpr (qau a),by simp[q]⟩);rw[z]at e;cases e
structure Mod (K:qae) (mg:Str->Option Value) (base:Heap):Prop where
 kin:K.In base
 glob:base.Ns qcg mg
 blt:∃ mb,base.Ns qg9 mb/\∀ x:Str,x≠"__name__"->mb x=qco x
 nolimit:base.NoLimit
structure Cx where
 prog:qaM
 w:World
 K:qae
 mg:Str->Option Value
 base:Heap
 A:qaU
 N:List Str
 s₀:qai
 H₀:Hp
 env:Env
 outer:List Env
 stack:List Env
 ex:List Addr
 fn:Str->Bool
 calm:Bool
 pn:List (Addr×Obj)
 xe:Value->qai->Prop
def frs (l:List Env):List Addr:=l.filterMap (·.frame)
abbrev Cx.fs (X:Cx):List Addr:=frs X.outer
def Vis (a:Scope) (x:Str):Prop:=a.names.lookup x=some .local\/a.names.lookup x=some .cell\/a.names.lookup x=some .free
def Loc (a:Scope) (x:Str):Prop:=a.names.lookup x=some .local\/a.names.lookup x=some .cell
def Gk (env:Env) (h:Heap) (m:Str->Option Value) (x:Str) (u:Value):Prop:=
 (env.kindOf x=some .local/\m x=some u)\/((env.kindOf x=some .cell\/env.kindOf x=some .free)/\∃ c,env.cells.lookup x=some c/\h.IsCell c (some u))
structure Cx.Ok (X:Cx):Prop where
 mod:Mod X.K X.mg X.base
 kind:X.env.scope.kind=.function
 glob:X.env.globals=qcg
 blt:X.env.builtins=qg9
 above:X.s₀.heap.objs.size<=X.env.locals
 inj:∀ x y c,X.env.cells.lookup x=some c->X.env.cells.lookup y=some c->x=y
 has:∀ x,(X.env.kindOf x=some .cell\/X.env.kindOf x=some .free)->∃ c,X.env.cells.lookup x=some c
 cab:∀ x c,X.fn x=true->X.env.cells.lookup x=some c->X.s₀.heap.objs.size<=c
 hd:X.calm=true->X.A.handled=none
 frames:X.A.frames=some X.stack
 stk:X.stack=X.outer\/(X.stack=X.env::X.outer/\X.env.frame=some X.env.locals)
 exf:∀ b∈X.ex,b≠X.env.locals/\∀ x c,X.env.cells.lookup x=some c->c≠b
 bs:∀ b o,X.base.get? b=some o->X.s₀.heap.get? b=some o/\X.H₀ b=none
 bsz:X.base.objs.size<=X.s₀.heap.objs.size
 noex:∀ b o,X.base.get? b=some o->b∉X.ex
 exfs:∀ b∈X.ex,b∉X.fs
 funs:X.s₀.heap.FunFrames X.base X.outer
 frf:∀ b∈X.fs,X.H₀ b=none
structure Inv (X:Cx) (pins:List (Addr×Obj)) (σ:List (Option V)) (H:Hp) (s:qai):Prop where
 ok:X.Ok
 os:s.os=X.s₀.os
 bare:qfD s.gens
 base:Un X.fs X.ex X.H₀ H X.s₀.heap s.heap
 loc:∃ m,s.heap.Ns X.env.locals m/\∀ (i:Nat) (x:Str) (v:V),X.N[i]?=some x->σ[i]?=some (some v)->Vis X.env.scope x->∃ u,aP v u/\Gk X.env s.heap m x u
 cell:∀ x c,X.env.cells.lookup x=some c->∃ v,s.heap.IsCell c v
 free:H X.env.locals=none
 freeC:∀ x c,X.env.cells.lookup x=some c->H c=none
 pin:∀ p∈X.pn++pins,s.heap.get? p.1=some p.2/\H p.1=none/\p.1≠X.env.locals/\p.1∉X.fs/\∀ v,p.2.data≠.cell v
 hok:HOk X.prog X.w H s.heap
 len:σ.length=X.N.length
section
variable {X:Cx}{f:List (Addr×Obj)}{g:List (Option V)}{H H':Hp}{s:qai}{h':Heap}
theorem Cx.Ok.nofr (ok:X.Ok) {b:Addr}{o:Obj} (e:X.base.get? b=some o):b∉X.fs:=λhb=>by
 have:=(ok.funs.mem hb).1
 rw[e]at this;cases this
theorem Inv.bs (I:Inv X f g H s):∀ b o,X.base.get? b=some o->s.heap.get? b=some o/\H b=none:=λb o e=>
 ⟨I.base.keep b o (I.ok.bs b o e).1 (I.ok.bs b o e).2 (I.ok.nofr e) (I.ok.noex b o e),I.base.free b o (I.ok.bs b o e).1 (I.ok.bs b o e).2 (I.ok.noex b o e)⟩
theorem Inv.bk (I:Inv X f g H s):∀ b o,X.base.get? b=some o->s.heap.get? b=some o:=λb o e=>(I.bs b o e).1
theorem Inv.mod (I:Inv X f g H s):Mod X.K X.mg X.base:=I.ok.mod
theorem Inv.kIn (I:Inv X f g H s):X.K.In s.heap:=I.ok.mod.kin.keeps I.bk
theorem Inv.fr (I:Inv X f g H s):∃ m,Fr X.base X.env.locals s.heap m:=
 let ⟨m,hn,_⟩:=I.loc
 ⟨m,hn,I.bk,qaS I.ok.bsz I.ok.above⟩
theorem Inv.lt (I:Inv X f g H s):X.env.locals<s.heap.objs.size:=let ⟨_,hn,_⟩:=I.loc;hn.lt
theorem Inv.sz (I:Inv X f g H s):X.s₀.heap.objs.size<=s.heap.objs.size:=qaS I.ok.above (qeO I.lt)
theorem Inv.nofs (I:Inv X f g H s) {a:Addr} (h:s.heap.objs.size<=a):a∉X.fs:=λhb=>by
 obtain⟨_,o,F,_⟩:=I.ok.funs.mem hb;exact absurd (qaP (qau F) (qaS I.sz h)) (qa2 _)
theorem Inv.cne (I:Inv X f g H s):∀ x c,X.env.cells.lookup x=some c->c≠X.env.locals:=λx c e z=>by
 obtain⟨v,o,F,hd⟩:=I.cell x c e;obtain⟨m,⟨R,es,ep,P,hd',_⟩,_⟩:=I.loc;rw[z,P]at F;cases F;rw[hd']at hd;cases hd
theorem Inv.funs (I:Inv X f g H s):s.heap.FunFrames X.base X.outer:=by
 have all:∀ (l:List Env),(∀ b∈frs l,b∈X.fs)->X.s₀.heap.FunFrames X.base l->s.heap.FunFrames X.base l:=by
  intro l
  induction l with
  |nil=>intro _ _;trivial
  |cons env r ih=>
   intro G hl;obtain⟨hk,⟨L,o,W,hn,F,hd⟩,hr⟩:=hl;have S:=G L (by unfold frs;rw[qe1,W];exact qag);obtain⟨sl,e⟩:=I.base.slot L o F (I.ok.frf L S) S λz=>I.ok.exfs L z S;exact⟨hk,⟨L,_,W,hn,e,hd⟩,ih (λb hb=>G b (by unfold frs;rw[qe1,W];exact qaj _ hb)) hr⟩
 exact all X.outer (λ_ hb=>hb) I.ok.funs
theorem Inv.stack (I:Inv X f g H s):s.heap.FunFrames X.base X.stack:=by
 rcases I.ok.stk with e|⟨e,W⟩
 ·rw[e];exact I.funs
 ·rw[e]
  obtain⟨m,hn,_⟩:=I.loc;refine .cons (by rw[I.ok.kind];decide) W hn ?_ I.funs;exact Heap.get?_none_of_le (qaS I.ok.bsz I.ok.above)
theorem Inv.stkSub (I:Inv X f g H s):∀ b∈frs X.stack,b∈X.env.locals::X.fs:=λb hb=>by
 rcases I.ok.stk with e|⟨e,W⟩
 ·rw[e]at hb;exact qaj _ hb
 ·rw[e]at hb
  unfold frs at hb;rw[qe1,W]at hb;exact hb
theorem Inv.stkFree (I:Inv X f g H s):∀ b∈frs X.stack,H b=none:=λb hb=>by
 rcases qay.mp (I.stkSub b hb) with e|hb
 ·rw[e];exact I.free
 ·obtain⟨_,o,F,_⟩:=I.ok.funs.mem hb
  exact I.base.free b o F (I.ok.frf b hb) λz=>I.ok.exfs b z hb
theorem Inv.step {g':Array qiC}{t':Nat}{d':Drawn}{ch:List Addr} (I:Inv X f g H s)
  (J:∀ b∈ch,(b∈X.ex\/X.s₀.heap.objs.size<=b)/\b≠X.env.locals/\(∀ x c,X.env.cells.lookup x=some c->c≠b)/\∀ p∈X.pn++f,p.1≠b)
  (keep:∀ b o,b≠X.env.locals->b∉X.fs->b∉ch->s.heap.get? b=some o->H b=none->h'.get? b=some o)
  (slot:∀ b o,b≠X.env.locals->b∈X.fs->b∉ch->s.heap.get? b=some o->H b=none->∃ sl,h'.get? b=some { o with slots:=sl }) (free:∀ b o,b∉ch->s.heap.get? b=some o->H b=none->H' b=none)
  (there:∀ b o,b∉ch->s.heap.get? b=some o->∃ R,h'.get? b=some R)
  (tups:∀ b xs,H b=some (.tup xs)->H' b=some (.tup xs)) (frzs:∀ b o u,H b=some (.frz o u)->H' b=some (.frz o u)) (tbls:∀ b ps,H b=some (.tbl ps)->∃ more,H' b=some (.tbl (ps++more)))
  (ns:∀ m,s.heap.Ns X.env.locals m->h'.Ns X.env.locals m) (hok:HOk X.prog X.w H' h') (hg:qfD g') :
  Inv X f g H' { s with heap:=h',gens:=g',drawn:=d',toks:=t' }:=by
 have neL:∀ b o,X.s₀.heap.get? b=some o->b≠X.env.locals:=λb o e=>qaA (qaP (qau e) I.ok.above);have neC:∀ b o,X.s₀.heap.get? b=some o->b∉X.ex->b∉ch:=λb o e C hb=>by
  rcases (J b hb).1 with z|z
  ·exact C z
  ·exact absurd (qaP (qau e) z) (qa2 _)
 have cellK:∀ x c,X.env.cells.lookup x=some c->∀ v,s.heap.IsCell c v->h'.IsCell c v:=λx c e v ⟨o,F,hd⟩=>by
  have Y:=λz=>(J c z).2.2.1 x c e U;by_cases B:c∈X.fs
  ·obtain⟨sl,q⟩:=slot c o (I.cne x c e) B Y F (I.freeC x c e)
   exact⟨_,q,hd⟩
  ·exact⟨o,keep c o (I.cne x c e) B Y F (I.freeC x c e),hd⟩
 refine⟨I.ok,I.os,hg,⟨λb o e n hb C=>?_,λb o e n hb C=>?_,λb o e n C=>?_,λb o e C=>?_,λb xs e=>tups b xs (I.base.tups b xs e),λb o xs e=>frzs b o xs (I.base.frzs b o xs e),λb ps e=>?_⟩,?_,λx c e=>?_,?_,λx c e=>?_,λp T=>?_,hok,I.len⟩
 ·exact keep b o (neL b o e) hb (neC b o e C) (I.base.keep b o e n hb C) (I.base.free b o e n C)
 ·obtain⟨sl,D⟩:=I.base.slot b o e n hb C
  obtain⟨sl',K⟩:=slot b _ (neL b o e) hb (neC b o e C) D (I.base.free b o e n C);exact⟨sl',K⟩
 ·obtain⟨R,D⟩:=I.base.there b o e C
  exact free b R (neC b o e C) D (I.base.free b o e n C)
 ·obtain⟨R,D⟩:=I.base.there b o e C
  exact there b R (neC b o e C) D
 ·obtain⟨m1,D⟩:=I.base.tbls b ps e
  obtain⟨m2,K⟩:=tbls b _ D;exact⟨_,by rw[K,Array.append_assoc]⟩
 ·obtain⟨m,hn,hl⟩:=I.loc
  refine⟨m,ns m hn,λi x v D K e3=>?_⟩;obtain⟨u,r,l⟩:=hl i x v D K e3;refine⟨u,r,?_⟩;rcases l with l|⟨k,c,e,z⟩
  ·exact .inl l
  ·exact .inr ⟨k,c,e,cellK x c e _ z⟩
 ·obtain⟨v,z⟩:=I.cell x c e
  exact⟨v,cellK x c e v z⟩
 ·obtain⟨m,⟨o,_,_,F,_⟩,_⟩:=I.loc
  exact free _ o (λz=>(J _ z).2.1 U) F I.free
 ·obtain⟨v,o,F,hd⟩:=I.cell x c e
  exact free c o (λz=>(J c z).2.2.1 x c e U) F (I.freeC x c e)
 ·obtain⟨e,n,ne,nf,d⟩:=I.pin p T
  have Y:=λz=>(J p.1 z).2.2.2 p T U;exact⟨keep p.1 p.2 ne nf Y e n,free p.1 p.2 Y e n,ne,nf,d⟩
theorem Inv.un {t':Nat} (I:Inv X f g H s) (u:Un X.fs [] H H' s.heap h') (hok:HOk X.prog X.w H' h'):Inv X f g H' { s with heap:=h',toks:=t' }:=by
 obtain⟨m,⟨o,es,ep,F,r⟩,_⟩:=id I.loc;obtain⟨sl,S⟩:=u.any F I.free (by simp)
 exact I.step (ch:=[]) (λ_ z=>nomatch z) (λb o _ hb _ e n=>u.keep b o e n hb (by simp)) (λb o _ hb _ e n=>u.slot b o e n hb (by simp)) (λb o _ e n=>u.free b o e n (by simp)) (λb o _ e=>u.there b o e (by simp)) u.tups u.frzs u.tbls (λm' hm=>by
  obtain⟨R,es',ep',P,r'⟩:=hm;rw[F]at P;cases P
  exact⟨_,es',ep',S,r'⟩) hok I.bare
theorem Inv.call {g':Array qiC}{t':Nat}{d':Drawn}{ch:List Addr} (I:Inv X f g H s) (u:Un (frs X.stack) ch H H' s.heap h') (hok:HOk X.prog X.w H' h') (hg:qfD g')
  (J:∀ b∈ch,(b∈X.ex\/X.s₀.heap.objs.size<=b)/\b≠X.env.locals/\(∀ x c,X.env.cells.lookup x=some c->c≠b)/\∀ p∈X.pn++f,p.1≠b) :
  Inv X f g H' { s with heap:=h',gens:=g',drawn:=d',toks:=t' }:=by
 obtain⟨m,⟨o,es,ep,F,r⟩,_⟩:=id I.loc;obtain⟨sl,S⟩:=u.any F I.free λz=>(J _ z).2.1 U
 exact I.step J (λb o S hb B e n=>u.keep b o e n (λz=>(qay.mp (I.stkSub b z)).elim S hb) B) (λb o _ _ B e n=>u.any e n B) (λb o B e n=>u.free b o e n B) (λb o B e=>u.there b o e B) u.tups u.frzs u.tbls (λm' hm=>by
  obtain⟨R,es',ep',P,r'⟩:=hm;rw[F]at P;cases P
  exact⟨_,es',ep',S,r'⟩) hok hg
theorem Inv.turned {t':Nat}{it:Addr} (I:Inv X f g H s) (k:∀ b o,b≠it->s.heap.get? b=some o->h'.get? b=some o) (hn:H it=none) (S:it≠X.env.locals)
  (h1:it∈X.ex\/X.s₀.heap.objs.size<=it) (h2:∀ x c,X.env.cells.lookup x=some c->c≠it) (h3:∀ p∈X.pn++f,p.1≠it):Inv X f g H { s with heap:=h',toks:=t' }:=by
 have nit:∀ b u,H b=some u->b≠it:=λb u e z=>by rw[z,hn]at e;cases e
 refine I.step (ch:=[it]) (λb hb=>?_) (λb o _ _ B e _=>k b o (λz=>B (by simp[z])) e) (λb o _ _ B e _=>⟨o.slots,k b o (λz=>B (by simp[z])) e⟩) (λ_ _ _ _ n=>n)
  (λb o B e=>⟨o,k b o (λz=>B (by simp[z])) e⟩) (λ_ _ e=>e) (λ_ _ _ e=>e) (λb ps e=>⟨#[],by rw[e];simp⟩) (λm hm=>?_) (λb u e=>?_) I.bare
 ·have e:=by simpa using hb
  subst e;exact⟨h1,S,h2,h3⟩
 ·obtain⟨o,es,ep,F,r⟩:=hm
  exact⟨o,es,ep,k _ o (qbz S) F,r⟩
 ·refine (I.hok b u e).stay (λc v B q=>k c v ?_ q) (λ_ q=>q) λ_ _ q=>q
  rcases B with z|z
  ·rw[z];exact nit b u e
  ·exact nit c _ z
theorem Inv.tok (I:Inv X f g H s) (t:Nat):Inv X f g H { s with toks:=t }:=I.un Un.refl I.hok
theorem Inv.kept {t':Nat} (I:Inv X f g H s) (k:∀ b u,s.heap.get? b=some u->h'.get? b=some u):Inv X f g H { s with heap:=h',toks:=t' }:=I.un (Un.kept k) (I.hok.kept k)
theorem Inv.laid {a:Addr}{o:HO}{t':Nat} (I:Inv X f g H s) (k:∀ b u,s.heap.get? b=some u->h'.get? b=some u) (T:s.heap.objs.size<=a) (new:cA X.prog X.w (upd H a o) h' a o) :
  Inv X f g (upd H a o) { s with heap:=h',toks:=t' }:=I.un (Un.laid k T (I.hok.fresh T)) (I.hok.laid k T new)
theorem Inv.write {x e:Addr}{o:HO}{t':Nat} (I:Inv X f g H s) (mu:Mut (H x)) (he:e=x\/H e=some (.own x)) (k:∀ b u,b≠e->s.heap.get? b=some u->h'.get? b=some u) (heo:∃ u,h'.get? e=some u)
  (new:cA X.prog X.w (upd H x o) h' x o):Inv X f g (upd H x o) { s with heap:=h',toks:=t' }:=I.un (Un.write mu he k heo) (I.hok.write mu he k heo new)
theorem Inv.weak {σ':List (Option V)} (I:Inv X f g H s) (hl:σ'.length=g.length) (w:∀ (i:Nat) v,σ'[i]?=some (some v)->g[i]?=some (some v)):Inv X f σ' H s:=
 ⟨I.ok,I.os,I.bare,I.base,let ⟨m,hn,hl'⟩:=I.loc;⟨m,hn,λi x v D K e3=>hl' i x v D (w i v K) e3⟩,I.cell,I.free,I.freeC,I.pin,I.hok,hl.trans I.len⟩
theorem Inv.pins_of {pins':List (Addr×Obj)} (I:Inv X f g H s) (h:∀ p∈pins',s.heap.get? p.1=some p.2/\H p.1=none/\p.1≠X.env.locals/\p.1∉X.fs/\∀ v,p.2.data≠.cell v):Inv X pins' g H s:=
 ⟨I.ok,I.os,I.bare,I.base,I.loc,I.cell,I.free,I.freeC,λp T=>(qaK.mp T).elim (λz=>I.pin p (qa0 _ z)) (h p),I.hok,I.len⟩
theorem uo {N:List Str} (hN:N.Nodup) {i j:Nat}{x:Str} (a:N[i]?=some x) (b:N[j]?=some x):i=j:=by
 obtain⟨h1,D⟩:=qar.mp a;obtain⟨h2,K⟩:=qar.mp b;exact (qdJ hN).mp (D.trans K.symm)
theorem yD {M:Model}{A:qaU}{E:Value->qai->Prop}{i:Nat}{x:Str}{v:V}{u:Value}{Q:Unit->qai->Prop} (I:Inv X f g H s) (hN:X.N.Nodup) (hi:X.N[i]?=some x) (C:Loc X.env.scope x) (r:aP v u)
  (h:∀ s',Inv X f (g.set i (some v)) H s'->(∃ a,qdm a s.heap s'.heap/\(a=X.env.locals\/X.env.cells.lookup x=some a))->Q () s') (W:X.fn x=true\/X.env.scope.names.lookup x=some .local:=by first|exact .inl U|exact .inr U|assumption):wpAny M A (storeName X.env x u) Q E s:=by
 obtain⟨m,hn,hl⟩:=id I.loc;have hcls:(X.env.scope.kind==.class||(X.env.scope.kind==.module&&X.env.locals != X.env.globals))=false:=by rw[I.ok.kind];rfl
 have hiσ:i<g.length:=by rw[I.len];exact (qar.mp hi).1
 have cne:=I.cne;have O:∀ {a:Addr}{h':Heap},(∃ o,s.heap.get? a=some o/\H a=none)->qdm a s.heap h'->HOk X.prog X.w H h':=λ{a h'} ha G b ob e=>by
  obtain⟨_,_,hfree⟩:=ha;refine (I.hok b ob e).stay (λc w' B q=>(G.2 c ?_).trans q) (λ_ q=>q) λ_ _ q=>q
  rintro rfl
  rcases B with rfl|B
  ·rw[hfree]at e;cases e
  ·rw[hfree]at B;cases B
 rcases C with hk|hk
 ·refine wpAny_storeName_local hk hn (λh' hn' G=>?_) hcls
  obtain⟨oL,_,_,hoL,_⟩:=id hn;refine h _ ⟨I.ok,I.os,I.bare,⟨λb o e n hb C=>?_,λb o e n hb C=>?_,I.base.free,λb o e C=>?_,I.base.tups,I.base.frzs,I.base.tbls⟩,⟨_,hn',λj y v' D K e3=>?_⟩,λy c e=>?_,I.free,I.freeC,λp T=>?_,O ⟨oL,hoL,I.free⟩ G,by simpa using I.len⟩ ⟨_,G,.inl U⟩
  ·exact (G.2 b (qaA (qaP (qau e) I.ok.above))).trans (I.base.keep b o e n hb C)
  ·obtain⟨sl,D⟩:=I.base.slot b o e n hb C
   exact⟨sl,(G.2 b (qaA (qaP (qau e) I.ok.above))).trans D⟩
  ·obtain⟨R,D⟩:=I.base.there b o e C
   exact⟨R,(G.2 b (qaA (qaP (qau e) I.ok.above))).trans D⟩
  ·by_cases hj:j=i
   ·subst hj
    rw[hi]at D;cases D;rw[qbm hiσ]at K;cases K;exact⟨u,r,.inl ⟨hk,by simp⟩⟩
   ·rw[qbE (qbz hj)]at K
    obtain⟨u',r',q⟩:=hl j y v' D K e3;refine⟨u',r',?_⟩;rcases q with⟨k,e⟩|⟨k,c,e,z⟩
    ·refine .inl ⟨k,?_⟩
     have:y≠x:=λe=>hj (uo hN D (e ▸ hi))
     simp[this,e]
    ·exact .inr ⟨k,c,e,z.sameBut G (cne y c e)⟩
  ·obtain⟨w',z⟩:=I.cell y c e
   exact⟨w',z.sameBut G (cne y c e)⟩
  ·obtain⟨e,n,ne,nf,d⟩:=I.pin p T
   exact⟨(G.2 p.1 ne).trans e,n,ne,nf,d⟩
 ·have hfn:X.fn x=true:=by
   rcases W with z|z
   ·exact z
   ·rw[z]at hk;cases hk
  obtain⟨c,B⟩:=I.ok.has x (.inl hk);obtain⟨w',z⟩:=I.cell x c B;refine wpAny_storeName_cell I.ok.kind hk B z (λh' hc' G=>?_);obtain⟨oc,hoc,hocd⟩:=id z;refine h { s with heap:=h' } ⟨I.ok,I.os,I.bare,⟨λb o e n hb C=>?_,λb o e n hb C=>?_,I.base.free,λb o e C=>?_,I.base.tups,I.base.frzs,I.base.tbls⟩,⟨m,hn.sameBut G (qbz (cne x c B)),λj y v' D K e3=>?_⟩,λy c' e=>?_,I.free,I.freeC,λp T=>?_,O ⟨oc,hoc,I.freeC x c B⟩ G,by simpa using I.len⟩ ⟨c,G,.inr B⟩
  ·exact (G.2 b (qaA (qaP (qau e) (I.ok.cab x c hfn B)))).trans (I.base.keep b o e n hb C)
  ·obtain⟨sl,D⟩:=I.base.slot b o e n hb C
   exact⟨sl,(G.2 b (qaA (qaP (qau e) (I.ok.cab x c hfn B)))).trans D⟩
  ·obtain⟨R,D⟩:=I.base.there b o e C
   exact⟨R,(G.2 b (qaA (qaP (qau e) (I.ok.cab x c hfn B)))).trans D⟩
  ·by_cases hj:j=i
   ·subst hj
    rw[hi]at D;cases D;rw[qbm hiσ]at K;cases K;exact⟨u,r,.inr ⟨.inl hk,c,B,hc'⟩⟩
   ·rw[qbE (qbz hj)]at K
    obtain⟨u',r',q⟩:=hl j y v' D K e3;refine⟨u',r',?_⟩;rcases q with q|⟨k,c',e,z'⟩
    ·exact .inl q
    ·refine .inr ⟨k,c',e,z'.sameBut G ?_⟩
     rintro rfl
     exact hj (uo hN D (I.ok.inj _ _ _ e B ▸ hi))
  ·by_cases hcc:c'=c
   ·subst hcc;exact⟨_,hc'⟩
   ·obtain⟨w2,z2⟩:=I.cell y c' e
    exact⟨w2,z2.sameBut G hcc⟩
  ·obtain⟨e,n,ne,nf,d⟩:=I.pin p T
   refine⟨(G.2 p.1 ?_).trans e,n,ne,nf,d⟩;intro q;rw[q,hoc]at e;exact d w' (by rw[<-(qaL e)];exact hocd)
theorem iX {M:Model}{A:qaU}{E:Value->qai->Prop}{i:Nat}{x:Str}{v:V}{u:Value}{Q:Unit->qai->Prop} (I:Inv X f g H s) (hN:X.N.Nodup) (hi:X.N[i]?=some x) (C:Loc X.env.scope x) (r:aP v u)
  (h:∀ s',Inv X f (g.set i (some v)) H s'->Q () s') (W:X.fn x=true\/X.env.scope.names.lookup x=some .local:=by first|exact .inl U|exact .inr U|assumption):wpAny M A (storeName X.env x u) Q E s:=
 yD I hN hi C r (λs' I' _=>h s' I') W
theorem Inv.call' {s':qai}{ch:List Addr} (I:Inv X f g H s) (F:s'.os=s.os) (u:Un (frs X.stack) ch H H' s.heap s'.heap) (hok:HOk X.prog X.w H' s'.heap) (hg:qfD s'.gens)
  (J:∀ b∈ch,(b∈X.ex\/X.s₀.heap.objs.size<=b)/\b≠X.env.locals/\(∀ x c,X.env.cells.lookup x=some c->c≠b)/\∀ p∈X.pn++f,p.1≠b):Inv X f g H' s':=by
 obtain⟨h',g',d',t',R⟩:=s';subst F;exact I.call u hok hg J
end
abbrev XK:=Value->Option Addr->Hp->Prop
abbrev St:=List (Option V)
abbrev VK:=V->Hp->Prop
abbrev TE:=St->Hp->VK->Prop
abbrev TT:=St->Hp->(Bool->Hp->Prop)->Prop
abbrev TA:=St->Hp->(List V->Hp->Prop)->Prop
structure oP where
 nx:St->Hp->Prop
 rt:VK
 bk:St->Hp->Prop:=λ_ _=>False
 ct:St->Hp->Prop:=λ_ _=>False
abbrev TS:=oP->St->Hp->Prop
def EP (X:Cx) (a:List (Addr×Obj)) (b:St) (Q:VK) (u:Value) (s':qai):Prop:=∃ v H',Inv X a b H' s'/\aP v u/\Q v H'
def TP (X:Cx) (a:List (Addr×Obj)) (c:St) (Q:Bool->Hp->Prop) (b:Bool) (s':qai):Prop:=∃ H',Inv X a c H' s'/\Q b H'
def AP (X:Cx) (a:List (Addr×Obj)) (c:St) (Q:List V->Hp->Prop) (d:List Value) (s':qai):Prop:=∃ b H',Inv X a c H' s'/\aL b d/\Q b H'
def SP (X:Cx) (b:List (Addr×Obj)) (D:oP) (f:Flow) (s':qai):Prop:=
 match f with
 |.next=>∃ a H',Inv X b a H' s'/\D.nx a H'
 |.brk=>∃ a H',Inv X b a H' s'/\D.bk a H'
 |.cont=>∃ a H',Inv X b a H' s'/\D.ct a H'
 |.ret u=>∃ v a H',Inv X b a H' s'/\aP v u/\D.rt v H'
def PE (X:Cx) (e:Expr) (t:TE):Prop:=
 ∀ (a:List (Addr×Obj)) (s:qai) (b:St) (H:Hp) (Q:VK),Inv X a b H s->t b H Q->wpAny (model X.prog X.w) X.A (eval e X.env) (EP X a b Q) X.xe s
def PT (X:Cx) (e:Expr) (t:TT):Prop:=
 ∀ (a:List (Addr×Obj)) (s:qai) (b:St) (H:Hp) (Q:Bool->Hp->Prop),Inv X a b H s->t b H Q->wpAny (model X.prog X.w) X.A (qj0 e X.env (eval e X.env)) (TP X a b Q) X.xe s
def PW (X:Cx) (e:Expr) (t:TT):Prop:=
 ∀ (whole:Sem Value) (a:List (Addr×Obj)) (s:qai) (b:St) (H:Hp) (Q:Bool->Hp->Prop),Inv X a b H s->t b H Q->wpAny (model X.prog X.w) X.A (qj0 e X.env whole) (TP X a b Q) X.xe s
theorem PW.pt {X:Cx}{e:Expr}{t:TT} (h:PW X e t):PT X e t:=h _
def PA (X:Cx) (es:List Expr) (t:TA):Prop:=
 ∀ (pos:Pos) (a:List (Addr×Obj)) (s:qai) (b:St) (H:Hp) (Q:List V->Hp->Prop),Inv X a b H s->t b H Q->wpAny (model X.prog X.w) X.A (spliced (qe9 pos (qbF es X.env))) (AP X a b Q) X.xe s
def PS (X:Cx) (st:Stmt) (t:TS):Prop:=
 ∀ (a:List (Addr×Obj)) (s:qai) (b:St) (H:Hp) (D:oP),Inv X a b H s->t D b H->wpAny (model X.prog X.w) X.A (exec st X.env) (SP X a D) X.xe s
def PSs (X:Cx) (st:List Stmt) (t:TS):Prop:=
 ∀ (a:List (Addr×Obj)) (s:qai) (b:St) (H:Hp) (D:oP),Inv X a b H s->t D b H->wpAny (model X.prog X.w) X.A (execs st X.env) (SP X a D) X.xe s
theorem thn {α:Type}{t:Sem α}{Q Q':α->qai->Prop}{M:Model}{A:qaU}{E:Value->qai->Prop}{s:qai} (h:wpAny M A t Q E s) (b:∀ a s,Q a s->Q' a s):wpAny M A t Q' E s:=qcA h b λ_ _ x=>x
section
variable {X:Cx}
def uK (i:Nat):TE:=λg H Q=>∃ v,g[i]?=some (some v)/\Q v H
def tC (v:V):TE:=λ_ H Q=>Q v H
theorem jK {i:Nat}{x:Str}{pos:Pos} (hN:X.N[i]?=some x) (B:Vis X.env.scope x) (hd:(x==("__debug__" : Str))=false:=by decide) (F:(x==("__classdict__" : Str))=false:=by decide):PE X (.Name x pos) (uK i):=by
 intro f s g H Q I h;obtain⟨v,e,h⟩:=h;obtain⟨m,hn,L⟩:=I.loc;obtain⟨u,r,l⟩:=L i x v hN e B;have fin:EP X f g Q u s:=⟨v,H,I,r,h⟩;rcases l with⟨z,hm⟩|⟨z,c,D,w⟩
 ·exact qiL (wpAny_loadName_local I.ok.kind z hn hm fin) hd
 ·rcases z with z|z
  ·exact qiL (wpAny_loadName_cell I.ok.kind z D w fin) hd
  ·exact qiL (wpAny_loadName_free I.ok.kind z D w fin F) hd
theorem D2 {i j pos}:PE X (.Constant (.int i) j pos) (tC (.int i)):=λ_ _ _ H _ I h=>wpAny_Constant_int ⟨.int i,H,I.tok _,⟨_,U⟩,h⟩
theorem FJ {b j pos}:PE X (.Constant (.bool b) j pos) (tC (.bl b)):=λ_ _ _ H _ I h=>Constant_bool ⟨.bl b,H,I,U,h⟩
theorem D4 {j pos}:PE X (.Constant .none j pos) (tC .non):=λ_ _ _ H _ I h=>Constant_none ⟨.non,H,I,U,h⟩
theorem D7 {x j pos}:PE X (.Constant (.str x) j pos) (tC (.str x)):=λ_ _ _ H _ I h=>Calls.Constant_str ⟨.str x,H,I.tok _,⟨_,U⟩,h⟩
def Gl (X:Cx) (x:Str):Prop:=X.env.kindOf x=some .globalImplicit
theorem wN {E:Value->qai->Prop}{f:List (Addr×Obj)}{s:qai}{g:St}{H:Hp}{x:Str}{u:Value}{pos:Pos}{Q:Value->qai->Prop} (I:Inv X f g H s) (hg:Gl X x) (hm:X.mg x=some u) (h:Q u s)
  (hd:(x==("__debug__" : Str))=false:=by decide):wpAny (model X.prog X.w) X.A (eval (.Name x pos) X.env) Q E s:=
 qf7 I.ok.kind hg (Calls.loadGlobal_global (by rw[I.ok.glob];exact I.mod.glob.keeps I.bk) hm h) hd
theorem jH {E:Value->qai->Prop}{f:List (Addr×Obj)}{s:qai}{g:St}{H:Hp}{x:Str}{u:Value}{pos:Pos}{Q:Value->qai->Prop} (I:Inv X f g H s) (hg:Gl X x) (hm:X.mg x=none) (B:qco x=some u) (h:Q u s)
  (hn:x≠"__name__":=by decide) (hd:(x==("__debug__" : Str))=false:=by decide):wpAny (model X.prog X.w) X.A (eval (.Name x pos) X.env) Q E s:=by
 obtain⟨M,J,K⟩:=I.mod.blt;exact qf7 I.ok.kind hg (Calls.loadGlobal_builtin (by rw[I.ok.glob];exact I.mod.glob.keeps I.bk) hm (by rw[I.ok.blt];exact J.keeps I.bk) ((K x hn).trans B) h) hd
theorem BL {x:Str}{v:V}{u:Value}{pos:Pos} (hg:Gl X x) (hm:X.mg x=none) (B:qco x=some u) (r:aP v u) (hn:x≠"__name__":=by decide) (hd:(x==("__debug__" : Str))=false:=by decide):PE X (.Name x pos) (tC v):=
 λ_ _ _ H _ I h=>jH I hg hm B ⟨v,H,I,r,h⟩ hn hd
variable {a b:Expr}{o q:TE}{pos:Pos}
variable {y C:TT}{k:List Expr}
def tOr (t u:TT):TT:=λg H Q=>t g H λc H1=>if c=true then Q true H1 else u g H1 Q
def GU (t:TT):TT:=λg H Q=>t g H λc H1=>Q (!c) H1
theorem Ej (p:PT X a y):PW X (.BoolOp .Or [a] pos) y:=by
 intro G f s g H Q I h;refine isTrue_or (thn (p f s g H Q I h) λc s1 e=>?_);cases c with
 |false=>exact isTrue_or_nil e
 |true=>exact e
theorem CW (p:PT X a y) (hb:PW X (.BoolOp .Or (b::k) pos) C):PW X (.BoolOp .Or (a::b::k) pos) (tOr y C):=by
 intro G f s g H Q I h;refine isTrue_or (thn (p f s g H _ I h) λc s1 ⟨H1,I1,n⟩=>?_);cases c with
 |true=>exact⟨H1,I1,n⟩
 |false=>exact hb G f s1 g H1 Q I1 n
theorem Eh (p:PT X a y):PT X (.UnaryOp .Not a pos) (GU y):=by
 intro f s g H Q I h;exact isTrue_not (p f s g H _ I h)
def FY (o q:TE):TE:=λg H Q=>o g H λx H1=>∃ c,x=.bl c/\if c=true then q g H1 Q else Q (.bl false) H1
def GV (o q:TE):TE:=λg H Q=>o g H λx H1=>∃ c,x=.bl c/\if c=true then Q (.bl true) H1 else q g H1 Q
def F7 (o:TE):TE:=λg H Q=>o g H λx H1=>∃ c,x=.bl c/\Q (.bl (!c)) H1
theorem D6 {op}{t:TE} (h:PE X a t):PE X (.BoolOp op [a] pos) t:=λf s g H Q I hw=>BoolOp_one (h f s g H Q I hw)
theorem zP (p:PE X a o) (hb:PE X (.BoolOp .And (b::k) pos) q):PE X (.BoolOp .And (a::b::k) pos) (FY o q):=by
 intro f s g H Q I h;refine BoolOp_and (thn (p f s g H _ I h) λv s1 ⟨x,H1,I1,A,n⟩=>?_);obtain⟨c,rfl,n⟩:=n;cases A;refine qce ?_;cases c with
 |true=>exact hb f s1 g H1 Q I1 n
 |false=>exact⟨.bl false,H1,I1,U,n⟩
theorem CT (p:PE X a o) (hb:PE X (.BoolOp .Or (b::k) pos) q):PE X (.BoolOp .Or (a::b::k) pos) (GV o q):=by
 intro f s g H Q I h;refine BoolOp_or (thn (p f s g H _ I h) λv s1 ⟨x,H1,I1,A,n⟩=>?_);obtain⟨c,rfl,n⟩:=n;cases A;refine qce ?_;cases c with
 |false=>exact hb f s1 g H1 Q I1 n
 |true=>exact⟨.bl true,H1,I1,U,n⟩
theorem D5 (p:PE X a o):PE X (.UnaryOp .Not a pos) (F7 o):=by
 intro f s g H Q I h;refine UnaryOp_ (thn (p f s g H _ I h) λv s1 ⟨x,H1,I1,A,n⟩=>?_);obtain⟨c,rfl,n⟩:=n;cases A;exact not_of (qce ⟨.bl _,H1,I1,U,n⟩)
def tIf (t:TT) (o q:TE):TE:=λg H Q=>t g H λc H1=>if c=true then o g H1 Q else q g H1 Q
theorem uw {c:Expr} (D:PT X c y) (p:PE X a o) (hb:PE X b q):PE X (.IfExp c a b pos) (tIf y o q):=by
 intro f s g H Q I h;refine wpAny_IfExp (thn (D f s g H _ I h) λd s1 ⟨H1,I1,n⟩=>?_);cases d with
 |true=>exact p f s1 g H1 Q I1 n
 |false=>exact hb f s1 g H1 Q I1 n
end
def SqL (K:qae) (H:Hp) (a:Addr) (xs:List V):Prop:=
 Rd H a (.lst xs)\/
  ∃ (o:Obj) (b:Array Value) (n:Nat),K.lookup a=some o/\o.cls=.type "list"/\o.dict=none/\o.data=.seq b n/\b.size<=qaH/\aL xs b.toList
def SqT (K:qae) (H:Hp) (a:Addr) (xs:List V):Prop:=
 H a=some (.tup xs)\/
  ∃ (o:Obj) (b:Array Value) (n:Nat),K.lookup a=some o/\o.cls=.type "tuple"/\o.data=.seq b n/\b.size<=qaH/\aL xs b.toList/\o.dict=none
def Gn:Value->Option V
 |.none=>some .non
 |.bool b=>some (.bl b)
 |.int i _=>some (.int i)
 |.str x _=>some (.str x)
 |.bytes b _=>some (.byt b)
 |.float b _=>some (.flt b)
 |.ref a=>some (.ref a)
 |.type n=>some (.ty n)
 |_=>none
theorem aP.abs {x:V}{u:Value} (r:aP x u):Gn u=some x:=by
 cases x with
 |non=>cases r;rfl
 |bl _=>cases r;rfl
 |int _=>obtain⟨t,rfl⟩:=r;rfl
 |str _=>obtain⟨t,rfl⟩:=r;rfl
 |byt _=>obtain⟨t,rfl⟩:=r;rfl
 |flt _=>obtain⟨t,rfl⟩:=r;rfl
 |ref _=>cases r;rfl
 |ty _=>cases r;rfl
theorem aP.inj {x y:V}{u:Value} (r:aP x u) (q:aP y u):x=y:=qaL (r.abs.symm.trans q.abs)
theorem aL.inj:∀ {xs a:List V}{b:List Value},aL xs b->aL a b->xs=a
 |_,_,_,.nil,.nil=>rfl
 |_,_,_,.cons r t,.cons r' t'=>by rw[r.inj r',aL.inj t t']
section
variable {X:Cx}{f:List (Addr×Obj)}{j:St}{H:Hp}{s:qai}{a:Addr}{xs t:List V}
theorem SqL.of {K:qae} (h:H a=some (.lst xs)):SqL K H a xs:=.inl (.inl h)
theorem SqT.of {K:qae} (h:H a=some (.tup xs)):SqT K H a xs:=.inl h
theorem Inv.list (I:Inv X f j H s) (h:SqL X.K H a xs):∃ b:List Value,aL xs b/\PlainL s.heap a b.toArray/\xs.length<=qaH:=by
 rcases h with h|⟨o,b,n,l,k,hd,q,u,r⟩
 ·obtain⟨z,b,n,r,e⟩:=h.ok I.hok
  exact⟨b,r,⟨_,n,e,U,U,U⟩,z⟩
 ·refine⟨b.toList,r,⟨o,n,I.kIn a o l,k,hd,by simpa using q⟩,?_⟩
  have e:=r.length;simp only[qcN]at e;lia
theorem Inv.tuple (I:Inv X f j H s) (h:SqT X.K H a xs):∃ b:List Value,aL xs b/\IsTup s.heap a b.toArray/\xs.length<=qaH:=by
 rcases h with h|⟨o,b,n,l,k,q,u,r,_⟩
 ·obtain⟨z,b,r,p⟩:=(Rd.of h).ok I.hok
  exact⟨b,r,p.tup,z⟩
 ·refine⟨b.toList,r,⟨o,I.kIn a o l,k,n,by simpa using q⟩,?_⟩
  have e:=r.length;simp only[qcN]at e;lia
theorem Inv.tuple1 (I:Inv X f j H s) (h:SqT X.K H a xs):∃ o:Obj,s.heap.get? a=some o/\o.cls=.type "tuple"/\o.dict=none:=by
 rcases h with h|⟨o,b,n,l,k,q,u,r,hd⟩
 ·obtain⟨z,b,r,o,e,c,_,hd⟩:=(Rd.of h).ok I.hok
  exact⟨o,e,c,hd⟩
 ·exact⟨o,I.kIn a o l,k,hd⟩
theorem Inv.list_inj (I:Inv X f j H s) (h:SqL X.K H a xs) (h':SqL X.K H a t):xs=t:=by
 obtain⟨b,r,⟨o,n,e,_,_,d⟩,_⟩:=I.list h;obtain⟨i,r',⟨v,w,m,_,_,g⟩,_⟩:=I.list h';rw[e]at m;cases m;rw[d]at g;injection g with d1 _
 have:=by simpa using congrArg qgP d1
 subst this;exact r.inj r'
theorem Inv.tuple_inj (I:Inv X f j H s) (h:SqT X.K H a xs) (h':SqT X.K H a t):xs=t:=by
 obtain⟨b,r,⟨o,e,_,n,d⟩,_⟩:=I.tuple h;obtain⟨i,r',⟨v,m,_,w,g⟩,_⟩:=I.tuple h';rw[e]at m;cases m;rw[d]at g;injection g with d1 _
 have:=by simpa using congrArg qgP d1
 subst this;exact r.inj r'
end
abbrev Cx.wish (X:Cx) (E:Value->qai->Prop):Cx:={ X with xe:=E }
abbrev Cx.nox (X:Cx):Cx:=X.wish λ_ _=>False
theorem Cx.Ok.wish {X:Cx} (ok:X.Ok) (E:Value->qai->Prop):(X.wish E).Ok:=
 ⟨ok.mod,ok.kind,ok.glob,ok.blt,ok.above,ok.inj,ok.has,ok.cab,ok.hd,ok.frames,ok.stk,ok.exf,ok.bs,ok.bsz,ok.noex,ok.exfs,ok.funs,ok.frf⟩
theorem Cx.Ok.unwish {X:Cx}{E:Value->qai->Prop} (ok:(X.wish E).Ok):X.Ok:=
 ⟨ok.mod,ok.kind,ok.glob,ok.blt,ok.above,ok.inj,ok.has,ok.cab,ok.hd,ok.frames,ok.stk,ok.exf,ok.bs,ok.bsz,ok.noex,ok.exfs,ok.funs,ok.frf⟩
section
variable {X:Cx}{a:List (Addr×Obj)}{c:St}{H:Hp}{s:qai}{E:Value->qai->Prop}
theorem Inv.wish (I:Inv X a c H s) (E:Value->qai->Prop):Inv (X.wish E) a c H s:=⟨I.ok.wish E,I.os,I.bare,I.base,I.loc,I.cell,I.free,I.freeC,I.pin,I.hok,I.len⟩
theorem Inv.unwish (I:Inv (X.wish E) a c H s):Inv X a c H s:=⟨I.ok.unwish,I.os,I.bare,I.base,I.loc,I.cell,I.free,I.freeC,I.pin,I.hok,I.len⟩
theorem SP.unwish {D:oP}{f:Flow}{s':qai} (h:SP (X.wish E) a D f s'):SP X a D f s':=by
 cases f with
 |next=>obtain⟨b,H',I,q⟩:=h;exact⟨b,H',I.unwish,q⟩
 |brk=>obtain⟨b,H',I,q⟩:=h;exact⟨b,H',I.unwish,q⟩
 |cont=>obtain⟨b,H',I,q⟩:=h;exact⟨b,H',I.unwish,q⟩
 |ret u=>obtain⟨v,b,H',I,r,q⟩:=h;exact⟨v,b,H',I.unwish,r,q⟩
theorem PSs.nox {st:List Stmt}{t:TS} (h:PSs X.nox st t):PSs X st t:=λa s c H D I hw=>
 qcA (h a s c H D (I.wish _) hw) (λ_ _ q=>q.unwish) λ_ _ z=>qcH z
end
section
variable {X:Cx}{st:Stmt}{j:List Stmt}{t u:TS}{e:Expr}{te:TE}{pos:Pos}
def F6:TS:=λD i H=>D.nx i H
def GX (t u:TS):TS:=λD i H=>t { D with nx:=u D } i H
theorem BX:PSs X [] F6:=λ_ _ i H _ I h=>qe5 ⟨i,H,I,h⟩
theorem dC (o:PS X st t) (y:PSs X j u):PSs X (st::j) (GX t u):=by
 intro g s i H D I h;refine qja (thn (o g s i H { D with nx:=u D } I h) λf s1 q=>?_);cases f with
 |next=>
  obtain⟨n,H',I',q⟩:=q;exact y g s1 n H' D I' q
 |ret v=>exact q
 |brk=>exact q
 |cont=>exact q
theorem xn (o:PS X st t):PSs X [st] t:=by
 intro g s i H D I h;refine qja (thn (o g s i H D I h) λf s1 q=>?_);cases f with
 |next=>exact qe5 q
 |ret v=>exact q
 |brk=>exact q
 |cont=>exact q
def Ex:TS:=λD i H=>D.bk i H
def F2:TS:=λD i H=>D.ct i H
theorem z6:PS X (.Break pos) Ex:=λ_ _ i H _ I h=>wpAny_Break ⟨i,H,I,h⟩
theorem uB:PS X (.Continue pos) F2:=λ_ _ i H _ I h=>wpAny_Continue ⟨i,H,I,h⟩
theorem Inv.quiet {g:List (Addr×Obj)}{i:St}{H:Hp}{s:qai} (I:Inv X g i H s):interactive X.env=false:=by simp[interactive,I.ok.kind]
def F4 (te:TE):TS:=λD i H=>te i H λ_ H1=>D.nx i H1
theorem BW (m:PE X e te) (w:qcD e none pos.line X.env=pure false:=by rfl):PS X (.Expr e pos) (F4 te):=by
 intro g s i H D I h;exact wpAny_Expr_any (thn (m g s i H _ I h) λv s1 ⟨x,H1,I1,r,k⟩=>⟨i,H1,I1,k⟩) I.quiet w
def GW (te:TE):TS:=λD i H=>te i H D.rt
theorem Ee (m:PE X e te):PS X (.Return (some e) pos) (GW te):=by
 intro g s i H D I h;exact wpAny_Return_some (thn (m g s i H _ I h) λv s1 ⟨x,H1,I1,r,k⟩=>⟨x,i,H1,I1,r,k⟩)
def GQ (c:TT) (t u:TS):TS:=λD i H=>c i H λb H1=>if b=true then t D i H1 else u D i H1
theorem CU {c:Expr}{a b:List Stmt}{p:TT} (A:PT X c p) (z:PSs X a t) (hb:PSs X b u):PS X (.If c a b pos) (GQ p t u):=by
 intro g s i H D I h;refine wpAny_If (thn (A g s i H _ I h) λd s1 ⟨H1,I1,k⟩=>?_);cases d with
 |true=>exact z g s1 i H1 D I1 k
 |false=>exact hb g s1 i H1 D I1 k
def EA:TS:=λ_ _ _=>False
theorem gu {l:List Stmt}:PSs X l EA:=λ_ _ _ _ _ _ h=>h.elim
end
abbrev TG:=V->St->Hp->(St->Hp->Prop)->Prop
abbrev TGs:=List V->St->Hp->(St->Hp->Prop)->Prop
def PG (X:Cx) (a:Expr) (t:TG):Prop:=
 ∀ (b:List (Addr×Obj)) (s:qai) (d:St) (H:Hp) (v:V) (u:Value) (Q:St->Hp->Prop),Inv X b d H s->aP v u->t v d H Q->
  wpAny (model X.prog X.w) X.A (qgl a X.env u) (λ_ s'=>∃ c H',Inv X b c H' s'/\Q c H') X.xe s
def PGs (X:Cx) (ts:List Expr) (t:TGs):Prop:=
 ∀ (a:List (Addr×Obj)) (s:qai) (d:St) (H:Hp) (c:List V) (e:List Value) (Q:St->Hp->Prop),Inv X a d H s->aL c e->t c d H Q->
  wpAny (model X.prog X.w) X.A (assignInOrder ((qb0 ts X.env).map (·.2)) e) (λ_ s'=>∃ b H',Inv X a b H' s'/\Q b H') X.xe s
abbrev Db:=V->V->V->Hp->(Hp->Prop)->Prop
def ER (X:Cx) (t:Db):Prop:=
 ∀ (a:List (Addr×Obj)) (s:qai) (b:St) (H:Hp) (o i v:V) (c iv u:Value) (Q:Hp->Prop),Inv X a b H s->aP o c->aP i iv->aP v u->t o i v H Q->
  wpAny (model X.prog X.w) X.A (qjX c iv u) (λ_ s'=>∃ H',Inv X a b H' s'/\Q H') X.xe s
section
variable {X:Cx}{pos:Pos}
def tB (i:Nat):TG:=λv d H Q=>Q (d.set i (some v)) H
theorem gL {i:Nat}{x:Str} (hN:X.N.Nodup) (hi:X.N[i]?=some x) (l:Loc X.env.scope x) (O:X.fn x=true\/X.env.scope.names.lookup x=some .local:=by first|exact .inl U|exact .inr U|assumption):PG X (.Name x pos) (tB i):=by
 intro c s d H v u Q I r h;exact qiK (iX I hN hi l r (λs' I'=>⟨_,H,I',h⟩) O)
def Gr:TGs:=λA d H Q=>A=[]/\Q d H
def E6 (t:TG) (u:TGs):TGs:=λA d H Q=>∃ v r,A=v::r/\t v d H λσ' H'=>u r σ' H' Q
theorem BP:PGs X [] Gr:=by
 intro c s d H A R Q I r h;obtain⟨e,h⟩:=h;exact qiO ⟨d,H,I,h⟩
theorem zR {e:Expr}{es:List Expr}{t:TG}{u:TGs} (S:PG X e t) (h2:PGs X es u)
  (z:(qb0 (e::es) X.env).map (·.2)=qgl e X.env::(qb0 es X.env).map (·.2):=by rfl):PGs X (e::es) (E6 t u):=by
 intro c s d H A R Q I r h;obtain⟨v,vr,F,h⟩:=h;subst F;cases r with
 |cons r rr=>
  rw[z];refine qfU (thn (S c s d H _ _ _ I r h) λ_ s1 ⟨σ1,H1,I1,f⟩=>?_);exact h2 c s1 σ1 H1 _ _ Q I1 rr f
def Gu (K:qae) (n:Nat) (t:TGs):TG:=λv d H Q=>∃ a xs,v=.ref a/\SqT K H a xs/\xs.length=n/\t xs d H Q
theorem Ea {es:List Expr}{k:Nat}{t:TGs}{n:Nat} (P:X.calm=true) (h:PGs X es t)
  (hn:(qb0 es X.env).length=n:=by rfl) (V:(qb0 es X.env).findIdx? (·.1)=none:=by rfl):PG X (.Tuple es k pos) (Gu X.K n t):=by
 intro c s d H v u Q I r hw;obtain⟨a,xs,F,hq,hl,hw⟩:=hw;subst F;cases r;obtain⟨its,N,ht,hz⟩:=I.tuple hq;refine assign_Tuple_tuple (I.ok.hd P) ht (by simp[hn,<-hl,N.length]) V λh' l=>?_;exact h c _ d H xs _ Q (I.kept λb o e=>l b o (qaA (qau e)) e) (by simpa using N) hw
def Gs (to ti:TE) (t:Db):TG:=λv d H Q=>to d H λo H1=>ti d H1 λi H2=>t o i v H2 λH3=>Q d H3
theorem vF {o i:Expr}{to ti:TE}{t:Db} (ho:PE X o to) (hi:PE X i ti) (z:ER X t)
  (Y:∀ v,qgl (.Subscript o i pos) X.env v=(do
    let C <-qgb [v] (eval o X.env)
    let iv <-qgb [v,C] (eval i X.env)
    qjV pos
    qgb [v,C,iv] (qjX C iv v)
    release [v,C,iv] []):=by intro _;rfl):PG X (.Subscript o i pos) (Gs to ti t):=by
 intro c s d H v u Q I r h;rw[Y];refine qac (qcl (thn (ho c s d H _ I h) λC s1 ⟨x,H1,I1,B,f⟩=>?_));refine qac (qcl (thn (hi c s1 d H1 _ I1 f) λiv J ⟨y,H2,I2,r2,q2⟩=>?_));refine qac (qeI (qac (qcl (thn (z c J d H2 x y v C iv u _ I2 B r2 r q2) λ_ s3 ⟨H3,I3,q3⟩=>?_))));exact wpAny_release ⟨d,H3,I3,q3⟩
def Ew (te:TE) (g:TG):TS:=λD d H=>te d H λx H1=>g x d H1 D.nx
theorem rQ {E e:Expr}{te:TE}{g:TG} (W:PE X e te) (hg:PG X E g) (z:qdX [E] e pos.line X.env=pure false:=by rfl) (hw:qdY [E] e X.env=pure none:=by rfl)
  (S:(qb0 [E] X.env).map (·.2)=[qgl E X.env]:=by rfl):PS X (.Assign [E] e pos) (Ew te g):=by
 intro c s d H D I h;refine wpAny_Assign_stores (thn (W c s d H _ I h) λv s1 ⟨x,H1,I1,B,f⟩=>?_) z hw;rw[S];exact thn (hg c s1 d H1 x v _ I1 B f) λ_ J q=>q
theorem Eg {i:Nat}{x:Str}{e:Expr}{te:TE}{m:Pos} (hN:X.N.Nodup) (hi:X.N[i]?=some x) (l:Loc X.env.scope x) (W:PE X e te) (z:qcD e (some (.Name x m)) pos.line X.env=pure false:=by rfl) (O:X.fn x=true\/X.env.scope.names.lookup x=some .local:=by first|exact .inl U|exact .inr U|assumption) :
  PS X (.Assign [.Name x m] e pos) (Ew te (tB i)):=by
 intro c s d H D I h;refine wpAny_Assign_Name (thn (W c s d H _ I h) λv s1 ⟨y,H1,I1,B,f⟩=>?_) z;exact iX I1 hN hi l B (λJ I2=>⟨_,H1,I2,f⟩) O
def F8 (i j:Nat) (L:TA):TS:=λD d H=>L d H λA H1=>∃ v w,A=[v,w]/\D.nx ((d.set i (some v)).set j (some w)) H1
theorem rR {i j:Nat}{x y:Str}{a b:Expr}{L:TA}{px py pt:Pos}{kt k2 pt2} (P:X.calm=true) (hN:X.N.Nodup) (hi:X.N[i]?=some x) (hj:X.N[j]?=some y) (hij:i≠j)
  (l:X.env.scope.names.lookup x=some .local) (hy:X.env.scope.names.lookup y=some .local) (Y:PA X [a,b] L)
  (hw:qdY [.Tuple [.Name x px,.Name y py] kt pt] (.Tuple [a,b] k2 pt2) X.env=pure (some [x,y]))
  (z:qdX [.Tuple [.Name x px,.Name y py] kt pt] (.Tuple [a,b] k2 pt2) pos.line X.env=pure false:=by rfl) :
  PS X (.Assign [.Tuple [.Name x px,.Name y py] kt pt] (.Tuple [a,b] k2 pt2) pos) (F8 i j L):=by
 intro c s d H D I h;refine qac (qeI ?_);refine qac (qaq ?_);refine qac (Tuple_ (thn (Y _ c s d H _ I h) λR s1 ⟨A,H1,I1,B,f⟩=>?_));obtain⟨v,w,F,f⟩:=f;subst F;obtain⟨G,M,rfl,N,rw'⟩:∃ G M,R=[G,M]/\aP v G/\aP w M:=by
  cases B with
  |cons p q=>
   cases q with
   |cons p' q'=>
    cases q';exact⟨_,_,U,p,p'⟩
 refine qcw ?_ (by show 2<=qaH;decide);rw[hw];refine qac (qaq ?_);refine qac (qdM (qac (unpackItems_tuple (items:=#[G,M]) (I.ok.hd P) (IsTup.new s1.heap _) λh' T=>?_)));refine qac (qfU (qke (iX ((I1.kept λb o e=>qah _ e).kept λb o e=>T b o (qaA (qau e)) e) hN hj (.inl hy) rw' (λJ I4=>?_) (.inr hy))));refine qfU (qke (iX I4 hN hi (.inl l) N (λs3 I5=>qiO (qaq ?_)) (.inr l)));rw[List.set_comm _ _ (qbz hij)]at I5;exact⟨_,H1,I5,f⟩
end
section
variable {X:Cx}{pos:Pos}
def EB (c:TT) (o:TS):TS:=λD i H=>∃ W:Nat->St->Hp->Prop,(∃ m,W m i H)/\∀ m i H,W m i H->
 c i H λb H1=>if b=true then ∃ N:St->Hp->Prop,(∀ a H',N a H'->∃ j,j<m/\W j a H')/\o { D with nx:=N,ct:=N,bk:=D.nx } i H1 else D.nx i H1
theorem z8 {c:Expr}{body:List Stmt}{r:TT}{o:TS} (t:qhV (model X.prog X.w) X.A X.env X.xe) (w:PT X c r) (hb:PSs X body o):PS X (.While c body [] pos) (EB r o):=by
 intro d s i H D I h;obtain⟨W,⟨m0,w0⟩,turn⟩:=h;refine wpAny_While (codeAny_whileLoop (λn s'=>∃ a H',Inv X d a H' s'/\W n a H') ?_ m0 ⟨i,H,I,w0⟩)
 rintro n s1 ⟨g,H1,I1,u⟩
 refine qc7 t (thn (w d s1 g H1 _ I1 (turn n g H1 u)) λb x ⟨H2,I2,k⟩=>?_);cases b with
 |true=>
  obtain⟨N,hN,k⟩:=k;refine qc7 t (thn (hb d x g H2 _ I2 k) λf y l=>?_);cases f with
  |next=>
   obtain⟨e,H3,I3,p⟩:=l;obtain⟨j,hm,q⟩:=hN e H3 p;exact⟨j,hm,e,H3,I3,q⟩
  |cont=>
   obtain⟨e,H3,I3,p⟩:=l;obtain⟨j,hm,q⟩:=hN e H3 p;exact⟨j,hm,e,H3,I3,q⟩
  |brk=>exact l
  |ret v=>exact l
 |false=>
  exact qe5 ⟨g,H2,I2,k⟩
end
structure It where
 go:Nat->Hp->Prop
 yld:Nat->Hp->V->Hp->Prop
 stop:Nat->Hp->Prop
def ji (X:Cx) (a:List (Addr×Obj)) (H:Hp) (b:Addr):Prop:=
 H b=none/\b≠X.env.locals/\b∉X.fs/\(b∈X.ex\/X.s₀.heap.objs.size<=b)/\(∀ x c,X.env.cells.lookup x=some c->c≠b)/\∀ p∈X.pn++a,p.1≠b
theorem Inv.fpOk {X:Cx}{a:List (Addr×Obj)}{d:St}{H H':Hp}{s:qai}{b:Addr} (I:Inv X a d H s) (hb:s.heap.objs.size<=b) (hn:H' b=none):ji X a H' b:=by
 refine⟨hn,qch (qaP I.lt hb),I.nofs hb,.inr (qaS I.sz hb),λx c e z=>?_,λp f z=>?_⟩
 ·obtain⟨v,q⟩:=I.cell x c e
  exact absurd (qaP q.lt (by rw[z];exact hb)) (qa2 _)
 ·exact absurd (qaP (qau (I.pin p f).1) (by rw[z];exact hb)) (qa2 _)
structure uT (P:qaM) (w:World) (K:qae) (tg:Expr) (J:It) (fp:List Addr) (it:Addr) (tn:Nat->Heap->Prop):Prop where
 mem:it∈fp
 obj:∀ i h,tn i h->∀ b∈fp,∃ o,h.get? b=some o/\∀ v,o.data≠.cell v
 keep:∀ i h h',tn i h->(∀ b∈fp,∀ o,h.get? b=some o->h'.get? b=some o)->tn i h'
 item:∀ (X:Cx),X.prog=P->X.w=w->X.K=K->X.calm=true->∀ (i:Nat) (pins:List (Addr×Obj)) (s:qai) (σ:St) (H:Hp) (E:Value->qai->Prop),Inv X pins σ H s->(∀ b∈fp,ji X pins H b)->tn i s.heap->J.go i H->
  wpAny (model P w) X.A (qg8 (.ref it)) (λr s1=>∃ u,r=some u/\
   wpAny (model P w) X.A (qgI tg (.ref it) u) (λ_ s2=>∃ x H',Inv X pins σ H' s2/\aP x u/\J.yld i H x H'/\tn (i+1) s2.heap/\∀ b∈fp,H' b=none) E s1) E s
 done:∀ (X:Cx),X.prog=P->X.w=w->X.K=K->X.calm=true->∀ (i:Nat) (pins:List (Addr×Obj)) (s:qai) (σ:St) (H:Hp) (E:Value->qai->Prop),Inv X pins σ H s->(∀ b∈fp,ji X pins H b)->tn i s.heap->J.stop i H->
  wpAny (model P w) X.A (qg8 (.ref it)) (λr s1=>r=none/\Inv X pins σ H s1) E s
 self:∀ (A:qaU) (i:Nat) (s:qai) (Q:Value->qai->Prop) (E:Value->qai->Prop),tn i s.heap->Q (.ref it) s->wpAny (model P w) A (qiq (.ref it)) Q E s
abbrev TI:=St->Hp->(It->Hp->Prop)->Prop
def PIE (X:Cx) (a:List (Addr×Obj)) (h:St) (i:Expr) (R:It->Hp->Prop) (c:Value) (e:qai):Prop:=
 ∃ (f:Addr) (d:List Addr) (g:Nat->Heap->Prop) (J:It) (H':Hp),c=.ref f/\Inv X a h H' e/\uT X.prog X.w X.K i J d f g/\g 0 e.heap/\(∀ b∈d,ji X a H' b)/\R J H'
def PI (X:Cx) (d iter:Expr) (c:TI):Prop:=
 ∀ (a:List (Addr×Obj)) (s:qai) (b:St) (H:Hp) (R:It->Hp->Prop),Inv X a b H s->c b H R->
  wpAny (model X.prog X.w) X.A (eval iter X.env) (λv s1=>wpAny (model X.prog X.w) X.A (qiq v) (PIE X a b d R) X.xe s1) X.xe s
theorem zh {M:Model}{A:qaU}{E:Value->qai->Prop}{s:qai}{b:Expr}{c:Addr}{u:Value}{o:Obj}{n:String}{d:Array Value}{Q:Unit->qai->Prop} (f:s.heap.get? c=some o) (e:o.cls=.type n) (hd:o.data=.fields d)
  (hn:["enumerate","zip","dict_itemiterator","dict_reverseitemiterator","odict_iterator","itertools.zip_longest","itertools.pairwise"].contains n=false) (a:Q () s):wpAny M A (qgI b (.ref c) u) Q E s:=by
 cases b<;>first
  |exact qaq a
  | (cases u<;>first
      |exact qaq a
      | (refine qac (wpAny_load f ?_)
         rw[e,hd];show wpAny M A (if _=true then _ else _) Q E s;rw[iFN (by intro h;rw[hn]at h;cases h)]
         exact qaq a))
def Itl (K:qae) (a:Addr):It:=
 ⟨λi H=>∃ xs x,SqL K H a xs/\xs[i]?=some x,λi H x H'=>H'=H/\∀ xs,SqL K H a xs->xs[i]?=some x,λi H=>∃ xs,SqL K H a xs/\xs.length<=i⟩
def Itt (K:qae) (a:Addr):It:=
 ⟨λi H=>∃ xs x,SqT K H a xs/\xs[i]?=some x,λi H x H'=>H'=H/\∀ xs,SqT K H a xs->xs[i]?=some x,λi H=>∃ xs,SqT K H a xs/\xs.length<=i⟩
def Itr (lo:Int) (n:Nat):It:=⟨λi _=>i<n,λi H x H'=>H'=H/\x=.int (lo+i),λi _=>n<=i⟩
theorem yH {P:qaM}{w:World}{K:qae}{L:Expr} (a f:Addr):uT P w K L (Itl K a) [f] f (λi h=>h.IsListIter f a i) where
 mem:=by simp
 obj:=λi h st b hb=>by
  have e:=by simpa using hb
  subst e;obtain⟨o,e,c,d⟩:=st;exact⟨o,e,λv z=>by rw[d]at z;cases z⟩
 keep:=λi h h' st k=>st.at λo e=>k f (by simp) o e
 item:=by
  intro X C hw y G i g s S H E I l st hg;subst C hw y;obtain⟨xs,x,m,n⟩:=hg;obtain⟨t,D,p,M⟩:=I.list m;obtain⟨u,N,T⟩:=D.get n;obtain⟨A,B,Q,q,F,r⟩:=l f (by simp);refine qeU st p.isList (by simpa using N) λh' j J=>?_;obtain⟨o,e,c,d⟩:=id j;exact⟨u,U,zh e c d (by decide) ⟨x,H,(I.turned (λb o hb e=>(J.2 b hb).trans e) A B q F r),T,⟨U,λW R=>by rw[I.list_inj R m];exact n⟩,j,λb hb=>(l b hb).1⟩⟩
 done:=by
  intro X C hw y G i g s S H E I l st hg;subst C hw y;obtain⟨xs,m,n⟩:=hg;obtain⟨t,D,p,M⟩:=I.list m;obtain⟨A,B,Q,q,F,r⟩:=l f (by simp);have V:=D.length;exact qe3 (I.ok.hd G) st p.isList (by simp;lia) λh' O=>⟨U,I.turned (λb o hb e=>O b o hb e) A B q F r⟩
 self:=λ_ _ _ _ _ st h=>wpAny_pyIter_listiter st h
theorem vV {P:qaM}{w:World}{K:qae}{L:Expr} (a f:Addr):uT P w K L (Itt K a) [f] f (λi h=>h.IsTupleIter f a i) where
 mem:=by simp
 obj:=λi h st b hb=>by
  have e:=by simpa using hb
  subst e;obtain⟨o,e,c,d⟩:=st;exact⟨o,e,λv z=>by rw[d]at z;cases z⟩
 keep:=λi h h' st k=>st.at λo e=>k f (by simp) o e
 item:=by
  intro X C hw y G i g s S H E I l st hg;subst C hw y;obtain⟨xs,x,m,n⟩:=hg;obtain⟨t,D,p,M⟩:=I.tuple m;obtain⟨u,N,T⟩:=D.get n;obtain⟨A,B,Q,q,F,r⟩:=l f (by simp);refine wpAny_pyNext_tuple_item st (p) (by simpa using N) λh' j J=>?_;obtain⟨o,e,c,d⟩:=id j;exact⟨u,U,zh e c d (by decide) ⟨x,H,(I.turned (λb o hb e=>(J.2 b hb).trans e) A B q F r),T,⟨U,λW R=>by rw[I.tuple_inj R m];exact n⟩,j,λb hb=>(l b hb).1⟩⟩
 done:=by
  intro X C hw y G i g s S H E I l st hg;subst C hw y;obtain⟨xs,m,n⟩:=hg;obtain⟨t,D,p,M⟩:=I.tuple m;obtain⟨A,B,Q,q,F,r⟩:=l f (by simp);have V:=D.length;exact wpAny_pyNext_tuple_end (I.ok.hd G) st (p) (by simp;lia) λh' O=>⟨U,I.turned (λb o hb e=>O b o hb e) A B q F r⟩
 self:=λ_ _ _ _ _ st h=>wpAny_pyIter_tupleiter st h
theorem vU {P:qaM}{w:World}{K:qae}{r:Expr} (a:Addr) (lo:Int) (n:Nat):uT P w K r (Itr lo n) [a] a (λi h=>IsRangeIter h a (lo+(i:Nat)*1) ((n:Int) - (i:Nat)) 1) where
 mem:=by simp
 obj:=λi h st b hb=>by
  have e:=by simpa using hb
  subst e
  exact⟨_,st,λv z=>by
   cases z⟩
 keep:=λi h h' st k=>k a (by simp) _ st
 item:=by
  intro X B hw A g i c s C H E I f st hg;obtain⟨m,p,x,j,q,l⟩:=f a (by simp);refine (Walks.range (I.ok.hd g) a lo 1 n).item i s _ _ hg st λv h' F y d D=>?_;obtain⟨t,rfl⟩:=y;refine⟨_,U,zh d U U (by decide) ⟨.int _,H,(I.turned (λb o hb e=>D b o (by simpa using hb) e) m p j q l),⟨t,?_⟩,⟨U,U⟩,d,λb hb=>(f b hb).1⟩⟩;rw[qdl]
 done:=by
  intro X B hw A g i c s C H E I f st hg;obtain⟨m,p,x,j,q,l⟩:=f a (by simp);exact wpAny_pyNext_range_end (I.ok.hd g) st (by have:n<=i:=hg;lia) λh' u=>⟨U,I.turned (λb o hb e=>u b o hb e) m p j q l⟩
 self:=λ_ _ _ _ _ st h=>wpAny_pyIter_rangeiter st h
section
variable {X:Cx}{L:Expr}
def Fc (K:qae) (tl:TE):TI:=λk H R=>tl k H λx H1=>∃ a,x=.ref a/\(∃ xs,SqL K H1 a xs)/\R (Itl K a) H1
def Gx (K:qae) (tl:TE):TI:=λk H R=>tl k H λx H1=>∃ a,x=.ref a/\(∃ xs,SqT K H1 a xs)/\R (Itt K a) H1
theorem BQ {l:Expr}{tl:TE} (hl:PE X l tl):PI X L l (Fc X.K tl):=by
 intro c s k H R I h;refine thn (hl c s k H _ I h) λv s1 ⟨x,H1,I1,V,O⟩=>?_;obtain⟨a,e,⟨xs,hq⟩,q⟩:=O;subst e;cases V;obtain⟨its,rv,p,hz⟩:=I1.list hq;refine qex p.isList ?_;refine⟨s1.heap.objs.size,_,_,_,H1,U,I1.kept λb o e=>qah _ e,yH a _,⟨_,qat _ U,U,U⟩,λb hb=>?_,q⟩;have e:=by simpa using hb
 subst e;exact I1.fpOk (qan _) (I1.hok.fresh (qan _))
theorem Eb {l:Expr}{tl:TE} (hl:PE X l tl):PI X L l (Gx X.K tl):=by
 intro c s k H R I h;refine thn (hl c s k H _ I h) λv s1 ⟨x,H1,I1,V,O⟩=>?_;obtain⟨a,e,⟨xs,hq⟩,q⟩:=O;subst e;cases V;obtain⟨its,rv,p,hz⟩:=I1.tuple hq;refine qdC (p) ?_;refine⟨s1.heap.objs.size,_,_,_,H1,U,I1.kept λb o e=>qah _ e,vV a _,⟨_,qat _ U,U,U⟩,λb hb=>?_,q⟩;have e:=by simpa using hb
 subst e;exact I1.fpOk (qan _) (I1.hok.fresh (qan _))
theorem Ae {c:List (Addr×Obj)}{k:St}{H:Hp}{s:qai}{R:It->Hp->Prop}{E:Value->qai->Prop}{lo hi:Int}{t u v:Tok}{tk:Nat} (I:Inv X c k H s) (h1:-(2^62)<=lo) (h2:lo<2^62) (h3:-(2^62)<=hi) (h4:hi<2^62)
  (q:R (Itr lo (hi - lo).toNat) H):wpAny (model X.prog X.w) X.A (qiq (.ref s.heap.objs.size)) (PIE X c k L R) E { s with heap:=s.heap.push { cls:=.type "range",data:=.fields #[.int lo t,.int hi u,.int 1 v] },toks:=tk }:=by
 refine wpAny_pyIter_range (IsRange.new ..) (small_one h1 h2 h3 h4) ?_;have I1:Inv X c k H { s with heap:=s.heap.push { cls:=.type "range",data:=.fields #[.int lo t,.int hi u,.int 1 v] },toks:=tk }:=I.kept λb o e=>qah _ e
 refine⟨_,_,_,_,H,U,
  I1.kept λb o e=>qah _ e,vU _ lo (hi - lo).toNat,?_,λb hb=>?_,q⟩
 ·have e1:lo+((0:Nat))*1=lo:=by simp
  have e2:(((hi - lo).toNat)) - ((0:Nat))=qfp lo hi 1:=by rw[qhp];split<;>lia
  rw[e1,e2];exact qat _ U
 ·have e:b=(s.heap.push { cls:=.type "range",data:=.fields #[.int lo t,.int hi u,.int 1 v] }).objs.size:=by simpa using hb
  subst e;exact I1.fpOk (qan _) (I1.hok.fresh (qan _))
def Fd (ta:TA):TI:=λk H R=>ta k H λvs H1=>∃ j:Int,vs=[.int j]/\-(2^62)<=j/\j<2^62/\R (Itr 0 j.toNat) H1
theorem yt {a:Expr}{ta:TA}{p pos:Pos} (hg:Gl X "range") (hm:X.mg "range" = none) (ha:PA X [a] ta) (hs:qbF [a] X.env=[(false,eval a X.env)]:=by rfl):PI X L (.Call (.Name "range" p) [a] [] pos) (Fd ta):=by
 intro c s k H R I h;refine Call_ (jH I hg hm boot_range (qcm (thn (ha pos c s k H _ I h) λus s1 ⟨vs,H1,I1,V,O⟩=>?_) hs U));obtain⟨j,e,O,q2,q⟩:=O;subst e;cases V with
 |cons r rr=>
  cases rr;obtain⟨t,rfl⟩:=r;exact call_range_1 (Ae I1 (by lia) (by lia) O q2 (by simpa using q))
def GP (Y:TI) (g:TG) (tb:TS):TS:=λD k H=>Y k H λJ H1=>∃ W:Nat->Nat->St->Hp->Prop,(∃ m,W 0 m k H1)/\∀ i m k H,W i m k H->
 (J.stop i H/\D.nx k H)\/(J.go i H/\∃ N:St->Hp->Prop,(∀ y H',N y H'->∃ m',m'<m/\W (i+1) m' y H')/\∀ x H',J.yld i H x H'->g x k H' λσ2 H2=>tb { D with nx:=N,ct:=N,bk:=D.nx } σ2 H2)
def om (A:List Addr) (h:Heap):List (Addr×Obj):=A.filterMap λb=>(h.get? b).map λo=>(b,o)
theorem cM {A:List Addr}{h:Heap}{b:Addr}{o:Obj} (hb:b∈A) (e:h.get? b=some o):(b,o)∈om A h:=qfi.mpr ⟨b,hb,by rw[e];rfl⟩
theorem yp {A:List Addr}{h:Heap}{p:Addr×Obj} (F:p∈om A h):p.1∈A/\h.get? p.1=some p.2:=by
 obtain⟨b,hb,e⟩:=qfi.mp F;cases q:h.get? b with
 |none=>rw[q]at e;cases e
 |some o=>
  rw[q]at e;have e':=qaL e;subst e';exact⟨hb,q⟩
theorem Inv.pinned {c:List (Addr×Obj)}{k:St}{H:Hp}{s:qai}{A:List Addr} (I:Inv X c k H s) (hf:∀ b∈A,ji X c H b) (ho:∀ b∈A,∃ o,s.heap.get? b=some o/\∀ v,o.data≠.cell v):Inv X (c++om A s.heap) k H s:=
 I.pins_of λp F=>(qaK.mp F).elim (λz=>I.pin p (qaw _ z)) λz=>by
  obtain⟨hb,e⟩:=yp z;obtain⟨f0,f1,f2,_⟩:=hf p.1 hb;obtain⟨o,e',d⟩:=ho p.1 hb;rw[e]at e';cases e';exact⟨e,f0,f1,f2,d⟩
theorem Inv.unpinned {c pl:List (Addr×Obj)}{k:St}{H:Hp}{s:qai} (I:Inv X (c++pl) k H s):Inv X c k H s:=I.pins_of λp F=>I.pin p (qaw _ (qa0 _ F))
theorem Ed {iter:Expr}{body:List Stmt}{Y:TI}{g:TG}{tb:TS}{pos:Pos} (F:qhV (model X.prog X.w) X.A X.env X.xe) (hc:X.calm=true) (hi:PI X L iter Y) (hg:PG X L g) (hb:PSs X body tb)
  (hs:∀ x,qbZ iter X.env x=pure x:=by intro _;rfl):PS X (.For L iter body [] pos) (GP Y g tb):=by
 intro c s k H D I h;refine wpAny_For (thn (hi c s k H _ I h) λv s1 h1=>thn h1 λitv s2 h2=>?_) hs;obtain⟨it,A,tn,J,H2,e,I2,T,st2,f2,W,⟨m0,w0⟩,turn⟩:=h2;subst e
 -- what stays true of the iterator's objects through the loop
 have C:∀ {H':Hp},(∀ b∈A,H' b=none)->∀ b∈A,ji X c H' b:=λhn b hb=>⟨hn b hb,(f2 b hb).2⟩;refine codeAny_forLoop_any (λn s'=>∃ i y H',Inv X c y H' s'/\tn i s'.heap/\(∀ b∈A,H' b=none)/\W i n y H') ?_ m0 ⟨0,k,H2,I2,st2,λb hb=>(f2 b hb).1,w0⟩
 rintro n s3 ⟨i,B,H3,I3,Q,P,w3⟩
 rcases turn i n B H3 w3 with⟨stop,qn⟩|⟨go,N,hN,step⟩
 ·refine qc7 F (thn (T.done X U U U hc i c s3 B H3 X.xe I3 (C P) Q stop) λr s4 ⟨hr,I4⟩=>?_)
  subst hr;exact qe5 ⟨B,H3,I4,qn⟩
 ·refine qc7 F (thn (T.item X U U U hc i c s3 B H3 X.xe I3 (C P) Q go) λr s4 ⟨u,hr,h4⟩=>?_)
  subst hr;refine qc7 F (thn h4 λ_ s5 ⟨x,H5,I5,r5,y5,M,fr5⟩=>?_);refine qc7 F (thn (hg _ s5 B H5 x u _ (I5.pinned (C fr5) (T.obj _ _ M)) r5 (step x H5 y5)) λ_ s6 ⟨σ6,H6,I6,q6⟩=>?_);refine qc7 F (thn (hb _ s6 σ6 H6 _ I6 q6) λf s7 G=>?_);have again:∀ {w:St}{H7:Hp},Inv X _ w H7 s7->N w H7->∃ m,m<n/\∃ i y H',Inv X c y H' s7/\tn i s7.heap/\(∀ b∈A,H' b=none)/\W i m y H':=λ{w H7} I7 S=>by
   obtain⟨m',hm,w7⟩:=hN w H7 S;refine⟨m',hm,_,w,H7,I7.unpinned,T.keep _ _ _ M λb hb o e=>(I7.pin (b,o) (qaw _ (qaw _ (cM hb e)))).1,λb hb=>?_,w7⟩;obtain⟨o,e,d⟩:=T.obj _ _ M b hb;exact (I7.pin (b,o) (qaw _ (qaw _ (cM hb e)))).2.1
  cases f with
  |next=>obtain⟨w,H7,I7,S⟩:=G;exact again I7 S
  |cont=>obtain⟨w,H7,I7,S⟩:=G;exact again I7 S
  |brk=>obtain⟨w,H7,I7,G⟩:=G;exact⟨w,H7,I7.unpinned,G⟩
  |ret v=>obtain⟨x7,w,H7,I7,r7,G⟩:=G;exact⟨x7,w,H7,I7.unpinned,r7,G⟩
end
abbrev R2:=V->V->Hp->VK->Prop
def OpR (X:Cx) (f:Value->Value->Sem Value) (r:R2):Prop:=
 ∀ (a:List (Addr×Obj)) (s:qai) (b:St) (H:Hp) (x y:V) (v u:Value) (Q:VK),Inv X a b H s->aP x v->aP y u->r x y H Q->
  wpAny (model X.prog X.w) X.A (f v u) (EP X a b Q) X.xe s
def UnR (X:Cx) (f:Value->Sem Value) (r:V->Hp->VK->Prop):Prop:=
 ∀ (a:List (Addr×Obj)) (s:qai) (b:St) (H:Hp) (x:V) (v:Value) (Q:VK),Inv X a b H s->aP x v->r x H Q->
  wpAny (model X.prog X.w) X.A (f v) (EP X a b Q) X.xe s
def bN (X:Cx) (f:Value) (r:List V->Hp->VK->Prop):Prop:=
 ∀ (a:List (Addr×Obj)) (s:qai) (b:St) (H:Hp) (xs:List V) (c:List Value) (Q:VK),Inv X a b H s->aL xs c->r xs H Q->
  wpAny (model X.prog X.w) X.A (call f c) (EP X a b Q) X.xe s
def Gm (X:Cx) (r:V->Hp->(Bool->Hp->Prop)->Prop):Prop:=
 ∀ (a:List (Addr×Obj)) (s:qai) (b:St) (H:Hp) (x:V) (v:Value) (Q:Bool->Hp->Prop),Inv X a b H s->aP x v->r x H Q->
  wpAny (model X.prog X.w) X.A (truthy v) (TP X a b Q) X.xe s
def tOp (r:R2) (b c:TE):TE:=λa H Q=>b a H λx H1=>c a H1 λy H2=>r x y H2 Q
def tUn (r:V->Hp->VK->Prop) (a:TE):TE:=λb H Q=>a b H λx H1=>r x H1 Q
def rI (C:Int->Int->Prop) (g:Int->Int->V):R2:=λx y H Q=>∃ i j,x=.int i/\y=.int j/\C i j/\Q (g i j) H
def rI0 (g:Int->Int->V):R2:=λx y H Q=>∃ i j,x=.int i/\y=.int j/\Q (g i j) H
def rU (g:Int->V):V->Hp->VK->Prop:=λx H Q=>∃ i,x=.int i/\Q (g i) H
section
variable {X:Cx}{a b c:Expr}{p B O:TE}{pos:Pos}
theorem Df (w:PE X a p) (hb:PE X b B) {d:List (Addr×Obj)}{s:qai}{l:St}{H:Hp}{R:V->V->Hp->Prop} (I:Inv X d l H s)
  (h:p l H λx H1=>B l H1 λy H2=>R x y H2) {Q:Value->qai->Prop}{f:Value->Value->Sem Value}
  (L:∀ v u o x y H2,Inv X d l H2 o->aP x v->aP y u->R x y H2->wpAny (model X.prog X.w) X.A (f v u) Q X.xe o) :
  wpAny (model X.prog X.w) X.A (eval a X.env) (λv A=>wpAny (model X.prog X.w) X.A (eval b X.env) (λu z=>wpAny (model X.prog X.w) X.A (f v u) Q X.xe z) X.xe A) X.xe s:=by
 refine thn (w d s l H _ I h) λv s1 ⟨x,H1,I1,G,K⟩=>?_;refine thn (hb d s1 l H1 _ I1 K) λu o ⟨y,H2,I2,M,N⟩=>?_;exact L v u o x y H2 I2 G M N
theorem CS {op:Operator}{r:R2} (J:OpR X (qbQ op) r) (w:PE X a p) (hb:PE X b B):PE X (.BinOp a op b pos) (tOp r p B):=by
 intro d s l H Q I h;exact wpAny_BinOp (Df w hb I h λv u o x y H2 I2 m n q=>J d o l H2 x y v u Q I2 m n q)
theorem FL {op:UnaryOp}{r:V->Hp->VK->Prop} (J:UnR X (unaryOp op) r) (w:PE X a p):PE X (.UnaryOp op a pos) (tUn r p):=by
 intro d s l H Q I h;exact UnaryOp_ (thn (w d s l H _ I h) λv s1 ⟨x,H1,I1,G,K⟩=>J d s1 l H1 x v Q I1 G K)
theorem opI {f:Value->Value->Sem Value}{C:Int->Int->Prop}{g:Int->Int->Int}
  (rule:∀ (i j:Int) (t u:Tok) (s:qai) (Q:Value->qai->Prop) (E:Value->qai->Prop),C i j->Q (.int (g i j) s.toks) { s with toks:=s.toks+1 }->wpAny (model X.prog X.w) X.A (f (.int i t) (.int j u)) Q E s) :
  OpR X f (rI C λi j=>.int (g i j)):=by
 intro d s l H x y v u Q I m n h;obtain⟨i,j,rfl,rfl,e,q⟩:=h;obtain⟨t,rfl⟩:=m;obtain⟨t',rfl⟩:=n;exact rule i j t t' s _ _ e ⟨.int _,H,I.tok _,⟨_,U⟩,q⟩
theorem FD {f:Value->Value->Sem Value}{g:Int->Int->Int}
  (rule:∀ (i j:Int) (t u:Tok) (s:qai) (Q:Value->qai->Prop) (E:Value->qai->Prop),Q (.int (g i j) s.toks) { s with toks:=s.toks+1 }->wpAny (model X.prog X.w) X.A (f (.int i t) (.int j u)) Q E s) :
  OpR X f (rI0 λi j=>.int (g i j)):=by
 intro d s l H x y v u Q I m n h;obtain⟨i,j,rfl,rfl,q⟩:=h;obtain⟨t,rfl⟩:=m;obtain⟨t',rfl⟩:=n;exact rule i j t t' s _ _ ⟨.int _,H,I.tok _,⟨_,U⟩,q⟩
theorem BE {f:Value->Value->Sem Value}{g:Int->Int->Bool}
  (rule:∀ (i j:Int) (t u:Tok) (s:qai) (Q:Value->qai->Prop) (E:Value->qai->Prop),Q (.bool (g i j)) s->wpAny (model X.prog X.w) X.A (f (.int i t) (.int j u)) Q E s) :
  OpR X f (rI0 λi j=>.bl (g i j)):=by
 intro d s l H x y v u Q I m n h;obtain⟨i,j,rfl,rfl,q⟩:=h;obtain⟨t,rfl⟩:=m;obtain⟨t',rfl⟩:=n;exact rule i j t t' s _ _ ⟨.bl _,H,I,U,q⟩
def Gj (i j:Int):Prop:=0<j/\j<1073741824
def sv (i j:Int):Prop:=0<=j/\j<=1000000/\i.natAbs<2^64
def AQ (i j:Int):Prop:=(-(2^64)<i/\i<2^64)\/(-(2^64)<j/\j<2^64)
theorem AQ.ok {i j:Int} (h:AQ i j):qhx i j:=by
 rcases h with⟨D,F⟩|⟨D,F⟩
 ·exact .of_left (intBits_le_64 D F)
 ·exact .of_right (intBits_le_64 D F)
theorem vW (k:Nat):(0:Int)<=2^k:=by
 exact Int.natCast_nonneg _
theorem DS:OpR X (qbQ .Add) (rI0 λi j=>.int (i+j)):=FD λ_ _ _ _ _ _ _ q=>add_int q
theorem DZ:OpR X (qbQ .Sub) (rI0 λi j=>.int (i - j)):=FD λ_ _ _ _ _ _ _ q=>sub_int q
theorem BH:OpR X (qbQ .FloorDiv) (rI Gj λi j=>.int (i / j)):=opI λi j _ _ _ _ _ e q=>by
 have D:=e.1;have F:=e.2;exact floordiv_int (by lia) (by rw[qd2 i (by lia)];exact q) (.inl (PyProof.noPylong_small (by lia)))
theorem DV:OpR X (qbQ .Mod) (rI (λ_ j=>0<j) λi j=>.int (i%j)):=opI λi j _ _ _ _ _ e q=>by
 exact mod_int' (by lia) (by rw[Int.fmod_eq_emod_of_nonneg i (by lia)];exact q)
theorem DW:OpR X (qbQ .Pow) (rI sv λi j=>.int (i^j.toNat)):=opI λ_ _ _ _ _ _ _ e q=>pow_int_small e.1 e.2.1 e.2.2 q
theorem DX:OpR X (qbQ .LShift) (rI sv λi j=>.int (i*2^j.toNat)):=opI λ_ _ _ _ _ _ _ e q=>lshift_int_small e.1 e.2.1 e.2.2 q
theorem DY:OpR X (qbQ .RShift) (rI (λ_ j=>0<=j) λi j=>.int (i / 2^j.toNat)):=opI λi j _ _ _ _ _ e q=>
 rshift_int e (by rw[qd2 i (vW _)];exact q)
theorem unI {f:Value->Sem Value}{g:Int->Int}
  (rule:∀ (i:Int) (t:Tok) (s:qai) (Q:Value->qai->Prop) (E:Value->qai->Prop),Q (.int (g i) s.toks) { s with toks:=s.toks+1 }->wpAny (model X.prog X.w) X.A (f (.int i t)) Q E s) :
  UnR X f (rU λi=>.int (g i)):=by
 intro d s l H x v Q I m h;obtain⟨i,rfl,q⟩:=h;obtain⟨t,rfl⟩:=m;exact rule i t s _ _ ⟨.int _,H,I.tok _,⟨_,U⟩,q⟩
theorem EG:UnR X (unaryOp .USub) (rU λi=>.int (-i)):=unI λ_ _ _ _ _ q=>neg_int q
end
section
variable {X:Cx}{a b c:Expr}{A E tc:TE}{pos:Pos}
theorem zd {f:List (Addr×Obj)}{g:St}{H:Hp}{s:qai}{Q:VK}{k k':Bool} (I:Inv X f g H s) (q:Q (.bl k) H) (e:k=k'):EP X f g Q (.bool k') s:=by
 subst e;exact⟨.bl k,H,I,U,q⟩
theorem FH:OpR X (qbq .Lt) (rI0 λi j=>.bl (decide (i<j))):=BE λ_ _ _ _ _ _ _ q=>lt_int q
theorem FG:OpR X (qbq .LtE) (rI0 λi j=>.bl (decide (i<=j))):=BE λ_ _ _ _ _ _ _ q=>le_int q
theorem FF:OpR X (qbq .Gt) (rI0 λi j=>.bl (decide (j<i))):=BE λ_ _ _ _ _ _ _ q=>gt_int q
theorem FE:OpR X (qbq .GtE) (rI0 λi j=>.bl (decide (j<=i))):=BE λ_ _ _ _ _ _ _ q=>ge_int q
theorem DT:OpR X (qbq .Is) (λx y H Q=>y=.non/\Q (.bl (decide (x=.non))) H):=by
 intro f s g H x y v u Q I n N h;obtain⟨rfl,q⟩:=h;cases N;refine is_none_gen (zd I q ?_);cases x<;>first
  |(rfl)
  |(obtain⟨t,rfl⟩:=n;rfl)
theorem BJ:OpR X (qbq .IsNot) (λx y H Q=>y=.non/\Q (.bl (!decide (x=.non))) H):=by
 intro f s g H x y v u Q I n N h;obtain⟨rfl,q⟩:=h;cases N;refine isnot_none_gen (zd I q ?_);cases x<;>first
  |(rfl)
  |(obtain⟨t,rfl⟩:=n;rfl)
theorem BM {op:CmpOp}{r:R2} (W:OpR X (qbq op) r) (M:PE X a A) (hb:PE X b E) (hm:qfT op b=false):PE X (.Compare a [op] [b] pos) (tOp r A E):=by
 intro f s g H Q I h;exact wpAny_Compare1 (Df M hb I h λv u R x y H2 I2 n N q=>W f R g H2 x y v u Q I2 n N q) hm
def Ga (t:TE):TT:=λg H Q=>t g H λx H'=>∃ k,x=.bl k/\Q k H'
theorem BY {op:CmpOp}{r:R2} (W:OpR X (qbq op) r) (M:PE X a A) (hb:PE X b E) (hm:qfT op b=false):PT X (.Compare a [op] [b] pos) (Ga (tOp r A E)):=by
 intro f s g H Q I h
 refine wpAny_isTrue_Compare1 (thn (M f s g H _ I h) λv s1 ⟨x,H1,I1,w,Y⟩=>thn (hb f s1 g H1 _ I1 Y) λu R ⟨y,H2,I2,F,q2⟩=>
  thn (W f R g H2 x y v u _ I2 w F q2) λc s3 ⟨z,H3,I3,T,k,e,q3⟩=>?_) hm
 subst e;cases T;exact qce ⟨H3,I3,q3⟩
def Ey (r r':R2) (A E tc:TE):TE:=λg H Q=>A g H λx H1=>E g H1 λy H2=>r x y H2 λz H3=>∃ k,z=.bl k/\
 (if k=true then tc g H3 λJ H4=>r' y J H4 Q else Q (.bl false) H3)
theorem ut {op L:CmpOp}{r r':R2} (W:OpR X (qbq op) r) (ho':OpR X (qbq L) r') (M:PE X a A) (hb:PE X b E) (P:PE X c tc)
  (hm:lastMarks [op,L] [b,c]=false:=by with_unfolding_all rfl):PE X (.Compare a [op,L] [b,c] pos) (Ey r r' A E tc):=by
 intro f s g H Q I h
 refine Compare_chain (thn (M f s g H _ I h) λv s1 ⟨x,H1,I1,w,Y⟩=>chain_link (thn (hb f s1 g H1 _ I1 Y) λu R ⟨y,H2,I2,F,q2⟩=>
  thn (W f R g H2 x y v u _ I2 w F q2) λd s3 ⟨z,H3,I3,T,k,e,q3⟩=>?_)) hm
 subst e;cases T;refine qce ?_;cases k with
 |false=>exact ite_ff ⟨.bl false,H3,I3,U,q3⟩
 |true=>exact ite_tt (chain_last (thn (P f s3 g H3 _ I3 q3) λJ s4 ⟨z',H4,I4,r4,q4⟩=>ho' f s4 g H4 y z' u J Q I4 F r4 q4))
def AU (K:qae) (x:V) (H:Hp) (k:Bool):Prop:=
 match x with
 |.non=>k=false
 |.bl b=>k=b
 |.int i=>k=(i != 0)
 |.str y=>y.length<=qaH/\k=((y.length:Int) != 0)
 |.byt y=>y.size<=qaH/\k=((y.size:Int) != 0)
 |.ref p=>(∃ xs,SqL K H p xs/\k=!xs.isEmpty)\/(∃ xs,SqT K H p xs/\k=!xs.isEmpty)\/∃ l,H p=some (.dK l)/\k=!l.isEmpty
 |_=>False
theorem vb {κ:Type}{l:List (κ×V)}{O:List (κ×Value)} (r:KV l O):(!O.isEmpty)=!l.isEmpty:=by
 cases r<;>rfl
theorem nP {xs:List V}{D:List Value} (r:aL xs D):(!D.toArray.isEmpty)=!xs.isEmpty:=by
 cases r<;>simp
theorem lb:(qaH:Nat)<2^63:=by decide
theorem EC:Gm X (λx H Q=>∃ k,AU X.K x H k/\Q k H):=by
 intro f s g H x v Q I n h;obtain⟨k,e,q⟩:=h;have hs:=qc8;cases x with
 |non=>
  cases n;subst e;exact truthy_none ⟨H,I,q⟩
 |bl b=>
  cases n;subst e;exact qce ⟨H,I,q⟩
 |int i=>
  obtain⟨t,rfl⟩:=n;subst e;exact PySem.P.truthy_int ⟨H,I,q⟩
 |str y=>
  obtain⟨t,rfl⟩:=n;obtain⟨hy,o⟩:y.length<=qaH/\k=_:=e;subst o;exact PySem.P.truthy_str (by lia) ⟨H,I.tok _,q⟩
 |byt y=>
  obtain⟨t,rfl⟩:=n;obtain⟨hy,o⟩:y.size<=qaH/\k=_:=e;subst o;exact PySem.W.truthy_bytes (by lia) ⟨H,I.tok _,q⟩
 |ref p=>
  cases n;have o:=e;rcases o with⟨xs,S,o⟩|⟨xs,S,o⟩|⟨l,S,o⟩
  ·subst o
   obtain⟨D,r,pl,hz⟩:=I.list S;have G:=r.length;exact wpAny_truthy_list pl.isList (by simp only[qaI];lia) ⟨H,I.tok _,by rw[nP r];exact q⟩
  ·subst o
   obtain⟨D,r,pl,hz⟩:=I.tuple S;have G:=r.length;exact truthy_tuple pl (by simp only[qaI];lia) ⟨H,I.tok _,by rw[nP r];exact q⟩
  ·subst o
   obtain⟨hz,hS,O,r,m⟩:l.length<=qaH/\(p==qcB)=false/\∃ O,KV l O/\s.heap.DictOf _ p O:=I.hok p _ S;have G:=qeY r;exact wpAny_truthy_dict hS m (by lia) ⟨H,I.tok _,by rw[vb r];exact q⟩
 |_=>exact (show False from e).elim
theorem z9 (M:PE X a A) (he:∀ whole,qj0 a X.env whole=(do let v <-whole;qjV a.pos;qgb [v] (truthy v))) :
  PT X a (λg H Q=>A g H λx H'=>∃ k,AU X.K x H' k/\Q k H'):=by
 intro f s g H Q I h;exact isTrue_plain (thn (M f s g H _ I h) λv s1 ⟨x,H1,I1,w,Y⟩=>EC f s1 g H1 x v Q I1 w Y) (he _)
theorem vE:OpR X (qbQ .Add) (λx y H Q=>∃ i j,x=.str i/\y=.str j/\i.length+j.length<=qaH/\Q (.str (i++j)) H):=by
 intro f s g H x y v u Q I n N h;obtain⟨i,j,rfl,rfl,hz,q⟩:=h;obtain⟨t,rfl⟩:=n;obtain⟨t',rfl⟩:=N;exact add_str (λt' tk=>⟨.str _,H,I.tok _,⟨_,U⟩,q⟩) hz
theorem g9 {x:V}{C:List Value} (r:aL [x] C):∃ u,C=[u]/\aP x u:=by
 cases r with
 |cons w F=>cases F;exact⟨_,U,w⟩
theorem C6 {x y:V}{C:List Value} (r:aL [x,y] C):∃ u J,C=[u,J]/\aP x u/\aP y J:=by
 cases r with
 |cons w F=>
  cases F with
  |cons T r4=>cases r4;exact⟨_,_,U,w,T⟩
theorem yS:bN X (.builtin "abs") (λxs H Q=>∃ i,xs=[.int i]/\Q (.int (if i<0 then -i else i)) H):=by
 intro f s g H xs C Q I r h;obtain⟨i,rfl,q⟩:=h;obtain⟨u,rfl,t,rfl⟩:=g9 r;exact call_abs_int λu tk=>⟨.int _,H,I.tok _,⟨_,U⟩,q⟩
theorem xR (P:X.calm=true):bN X (.builtin "max") (λxs H Q=>∃ i j,xs=[.int i,.int j]/\Q (.int (if j > i then j else i)) H):=by
 intro f s g H xs C Q I r h;obtain⟨i,j,rfl,q⟩:=h;obtain⟨u,J,rfl,⟨t,rfl⟩,⟨t',rfl⟩⟩:=C6 r;refine max_two_ints (I.ok.hd P) λh' tk k=>⟨_,H,I.kept k,?_,q⟩;by_cases B:j > i
 ·rw[iFP B,iFP B];exact⟨_,U⟩
 ·rw[iFN B,iFN B];exact⟨_,U⟩
theorem xT (P:X.calm=true):bN X (.builtin "min") (λxs H Q=>∃ i j,xs=[.int i,.int j]/\Q (.int (if j<i then j else i)) H):=by
 intro f s g H xs C Q I r h;obtain⟨i,j,rfl,q⟩:=h;obtain⟨u,J,rfl,⟨t,rfl⟩,⟨t',rfl⟩⟩:=C6 r;refine min_two_ints (I.ok.hd P) λh' tk k=>⟨_,H,I.kept k,?_,q⟩;by_cases B:j<i
 ·rw[iFP B,iFP B];exact⟨_,U⟩
 ·rw[iFN B,iFN B];exact⟨_,U⟩
theorem pz:bN X (.type "int") (λxs H Q=>(∃ i,xs=[.int i]/\Q (.int i) H)\/∃ k,xs=[.bl k]/\Q (.int (if k then 1 else 0)) H):=by
 intro f s g H xs C Q I r h;rcases h with⟨i,rfl,q⟩|⟨k,rfl,q⟩
 ·obtain⟨u,rfl,t,rfl⟩:=g9 r
  exact call_int_int ⟨.int i,H,I,⟨_,U⟩,q⟩
 ·obtain⟨u,rfl,w⟩:=g9 r
  cases w;exact call_int_bool ⟨.int _,H,I.tok _,⟨_,U⟩,q⟩
end
structure xL (h:Heap) (x dx C:Addr) (mA:Str->Option Value):Prop where
 obj:h.get? x=some (qdj C dx)
 ns:h.Ns1 dx mA
 ne:dx≠x
theorem yk {h:Heap}{c:Addr}{f:Str->Option Value} (n:h.Ns1 c f):∃ d,h.get? c=some d/\∀ name,qfV name d=some (f name):=by
 obtain⟨o,es,l,k,hd,j,_,hm⟩:=n;refine⟨o,k,λname=>?_⟩;have e:=hm name;unfold nsFind findBy at e;rw[<-Array.find?_toList]at e;unfold qfV;rw[hd];dsimp only;split
 ·rename_i y q
  rw[q]at e;exact congrArg some e
 ·rename_i q
  rw[q]at e;have a:es.toList.any (·.refKey)=false:=by
   rw[qhJ];intro y g;obtain⟨z,t,b⟩:=j y (Array.mem_toList_iff.mp g);simp[DictEntry.refKey,b]
  have i:¬ es.toList.any (·.refKey)=true:=by rw[a];exact qa5
  rw[iFN i];exact congrArg some e
theorem xL.look {h:Heap}{x b C:Addr}{c:Str->Option Value} (I:xL h x b C c):∃ a,PySem.W.InstAt h x (qdj C b) C (some a)/\∀ name,qfV name a=some (c name):=
 let ⟨a,ho,hl⟩:=yk I.ns
 ⟨a,⟨I.obj,U,U,ho⟩,hl⟩
section
variable {prog:qaM}{w:World}{A:qaU}{E:Value->qai->Prop}{s:qai}{K:qae}{x g C f:Addr}{e:Str->Option Value}{name:Str}{v:Value}
theorem Bf {a:Bool}{Q:Value->qai->Prop} (X:K.In s.heap) (I:xL s.heap x g C e) (hg:qef K C name=true) (l:qdZ K C=true)
  (B:qcp K (.ref C) name=some none) (D:e name=some v) (m:qhb v=true) (h:Q v { s with toks:=s.toks+1 }) :
  wpAny (model prog w) A (getAttr (.ref x) name a) Q E s:=by
 obtain⟨L,J,q⟩:=I.look;exact PySem.W.get_value X J (PySem.W.plainGet_of hg).1 (PySem.W.findObj_own l B U (by rw[q,D])) m h
theorem B9 {ns:List Str}{Q:Unit->qai->Prop} (X:K.In s.heap) (I:xL s.heap x g C e)
  (H:qcp K (.ref C) "__setattr__" = some (some (.builtin "object.__setattr__"))) (F:qfa K C=true) (z:qfw K C name=some none) (l:qdZ K C=true)
  (hw:qgL e ns) (G:ns.length<=qaH)
  (h:∀ h',xL h' x g C (λy=>if y=name then some v else e y)->qdm g s.heap h'->Q () { s with heap:=h',toks:=s.toks+2 }) :
  wpAny (model prog w) A (setAttr (.ref x) name v) Q E s:=by
 obtain⟨L,J,q⟩:=I.look;refine PySem.W.set_plain X J H (PySem.W.osa_open X J F z λb=>?_);obtain⟨O,u,j⟩:=PySem.W.any_some l;refine qac (qaq (qac (qac (wpAny_loadPart I.obj (qac (qiT (PySem.W.looks_clsIn X u) ?_))))));rw[j];refine qaq (qac (qaq (qac ?_)));refine wpAny_nsSet1 I.ns λh' c d=>?_;obtain⟨N,M,t,k,p,o⟩:=c.count (qjM name v hw);refine qac (wpAny_lookBehind k (by rw[p];exact pastItsLine_dict (qaS o (by rw[qap];lia))) ?_);exact qaq (h _ ⟨(d.2 _ (qbz I.ne)).trans I.obj,c,I.ne⟩ d)
theorem zF {R:qix->qai->Prop}{n:List Value}{i:List (Str×Value)} (X:K.In s.heap) (hm:qfx K C=true)
  (hi:qcp K (.ref C) "__init__" = some (some (.ref f))) (r:PySem.W.typeIn K (.ref f)=some (.type "function"))
  (h:qea (model prog w) (A.under (.builtin "type.__call__" ⟨.ref C::n,i⟩)) (.call (.ref f) ⟨.ref (s.heap.objs.size+1)::n,i⟩) (PySem.W.InitBack (s.heap.objs.size+1) R)
    { s with heap:=(s.heap.push qc0).push (qdj C s.heap.objs.size) }) :
  qea (model prog w) A (.call (.ref C) ⟨n,i⟩) R s:=by
 exact PySem.W.make_core (PySem.W.makes_of X hm) (PySem.W.looks_findIn X hi) (λself=>PySem.W.bind_fn X self r) (.inl U) h
end
def gv (f:Str) (v:V):List (Str×V)->List (Str×V)
 |[]=>[(f,v)]
 |(g,x)::r=>if g=f then (g,v)::r else (g,x)::gv f v r
theorem lI (f g:Str) (v:V):∀ fs:List (Str×V),(gv f v fs).lookup g=if g=f then some v else fs.lookup g
 |[]=>by
  show qdT g [(f,v)]=_;by_cases h:g=f
  ·simp only[qdT,(beq_iff_eq.mpr h),iFP h]
  ·simp only[qdT,(beq_eq_false_iff_ne.mpr h),iFN h]
 |(k,x)::r=>by
  rw[show gv f v _=(if k=f then (k,v)::r else (k,x)::gv f v r) from U];by_cases a:k=f
  ·rw[iFP a]
   by_cases h:g=k
   ·simp only[qdT,(beq_iff_eq.mpr h),iFP (h.trans a)]
   ·simp only[qdT,(beq_eq_false_iff_ne.mpr h),iFN (λe:g=f=>h (e.trans a.symm))]
  ·rw[iFN a]
   by_cases h:g=k
   ·simp only[qdT,(beq_iff_eq.mpr h),iFN (λe=>a (h.symm.trans e))]
   ·simp only[qdT,(beq_eq_false_iff_ne.mpr h)]
    exact (lI f g v r)
theorem k9 (f:Str) (v:V):∀ fs:List (Str×V),f∈(gv f v fs).map (·.1)/\∀ g,g∈fs.map (·.1)->g∈(gv f v fs).map (·.1)
 |[]=>⟨by simp[gv],λg h=>by simp at h⟩
 |(k,x)::r=>by
  obtain⟨b,c⟩:=k9 f v r;rw[show gv f v _=(if k=f then (k,v)::r else (k,x)::gv f v r) from U];by_cases a:k=f
  ·subst a
   exact⟨by simp,λg h=>by simpa using h⟩
  ·rw[iFN a]
   refine⟨?_,λg h=>?_⟩
   ·exact qaj _ b
   ·rcases qay.mp h with e|e
    ·exact qay.mpr (.inl e)
    ·exact qaj _ (c g e)
theorem lG (f:Str) (v:V):∀ fs:List (Str×V),(gv f v fs).length<=fs.length+1
 |[]=>by simp[gv]
 |(k,x)::r=>by
  have b:=lG f v r;rw[show gv f v _=(if k=f then (k,v)::r else (k,x)::gv f v r) from U];by_cases a:k=f
  ·rw[iFP a,qap,qap];lia
  ·rw[iFN a,qap,qap];lia
theorem lP.some_of {v:V}{o:Option Value} (r:lP (some v) o):∃ u,o=some u/\aP v u:=by
 cases o with
 |none=>exact (r).elim
 |some u=>exact⟨u,U,r⟩
theorem x3 {v:V}{u:Value} (r:aP v u):qhb u=true:=by
 cases v with
 |non=>cases (r);rfl
 |bl b=>cases (r);rfl
 |int i=>obtain⟨t,e⟩:=(r);cases e;rfl
 |str x=>obtain⟨t,e⟩:=(r);cases e;rfl
 |byt b=>obtain⟨t,e⟩:=(r);cases e;rfl
 |flt b=>obtain⟨t,e⟩:=(r);cases e;rfl
 |ref a=>cases (r);rfl
 |ty n=>cases (r);rfl
section
variable {P:qaM}{w:World}{H H':Hp}{h h':Heap}{a C c:Addr}{fs g:List (Str×V)}
theorem qQ (hok:HOk P w H h) (e:H a=some (.ins C c fs)):∃ b,xL h a c C b/\(∀ f,lP (fs.lookup f) (b f))/\qgL b (fs.map (·.1))/\fs.length<=1000/\H c=some (.own a):=by
 obtain⟨d,z,ne,ob,b,n,r,q⟩:=(hok a _ e);exact⟨b,⟨ob,n,ne⟩,r,q,z,d⟩
end
structure Cls (K:qae) (C:Addr):Prop where
 pg:qef K C Str.empty=true
 hd:qdZ K C=true
 po:qfa K C=true
 sa:qcp K (.ref C) "__setattr__" = some (some (.builtin "object.__setattr__"))
theorem Cls.get {K:qae}{C:Addr} (c:Cls K C) (f:Str):qef K C f=true:=c.pg
def cF (K:qae) (C:Addr) (f:Str):Prop:=qcp K (.ref C) f=some none
theorem cF.taker {K:qae}{C:Addr}{f:Str} (n:cF K C f):qfw K C f=some none:=by
 unfold qfw;rw[n];rfl
section
variable {X:Cx}{d:List (Addr×Obj)}{i:St}{H:Hp}{s:qai}{a C k:Addr}{fs:List (Str×V)}{f:Str}{v:V}{A:qaU}{E:Value->qai->Prop}
theorem u6 {b:Bool}{Q:Value->qai->Prop} (I:Inv X d i H s) (e:H a=some (.ins C k fs)) (c:Cls X.K C) (n:cF X.K C f) (l:fs.lookup f=some v)
  (h:∀ u s',Inv X d i H s'->aP v u->Q u s'):wpAny (model X.prog X.w) A (getAttr (.ref a) f b) Q E s:=by
 obtain⟨B,O,r,_,_,_⟩:=qQ I.hok e;obtain⟨u,J,t⟩:=lP.some_of (by rw[<-l];exact r f);exact Bf I.kIn O (c.get f) c.hd n J (x3 t) (h u _ (I.tok _) t)
theorem vO {y:V}{u:Value}{Q:Unit->qai->Prop} (I:Inv X d i H s) (e:H a=some (.ins C k fs)) (c:Cls X.K C) (n:cF X.K C f) (N:fs.length<1000) (M:aP y u)
  (h:∀ s',Inv X d i (upd H a (.ins C k (gv f y fs))) s'->Q () s'):wpAny (model X.prog X.w) A (setAttr (.ref a) f u) Q E s:=by
 obtain⟨B,O,r,m,_,p⟩:=qQ I.hok e;have K:(fs.map (·.1)).length<=qaH:=by rw[qaf,qc8];lia
 refine B9 I.kIn O c.sa c.po n.taker c.hd m K λh' O' D=>h _ ?_;refine I.write (by rw[e];exact True.intro) (.inr p) (λb q hb z=>(D.2 b hb).trans z) (let ⟨o,_,_,e',_⟩:=O'.ns;⟨o,e'⟩) ?_;refine⟨by rw[upd_ne O.ne];exact p,?_,O.ne,O'.obj,_,O'.ns,λg=>?_,λg hg=>?_⟩
 ·have:=lG f y fs;lia
 ·rw[lI]
  by_cases q:g=f
  ·rw[iFP q,iFP q];exact M
  ·rw[iFN q,iFN q];exact r g
 ·by_cases q:g=f
  ·rw[q];exact (k9 f y fs).1
  ·refine (k9 f y fs).2 g (m g λz=>hg ?_)
   show (if g=f then some u else B g)=none;rw[iFN q];exact z
theorem Inv.made (I:Inv X d i H s):Inv X d i (upd (upd H s.heap.objs.size (.own (s.heap.objs.size+1))) (s.heap.objs.size+1) (.ins C s.heap.objs.size []))
  { s with heap:=(s.heap.push qc0).push (qdj C s.heap.objs.size) }:=by
 have x:(s.heap.push qc0).get? s.heap.objs.size=some qc0:=qat s.heap U;have F:=by
  have:=qat (s.heap.push qc0) (o:=qdj C s.heap.objs.size) U
  rwa [qbp]at this
 refine (I.laid (o:=.own _) (t':=s.toks) (λb u q=>qah _ q) (qan _) ⟨_,x⟩).laid (λb u q=>qah _ q) (qdI (qbp _ _)) ?_;have ne:s.heap.objs.size≠s.heap.objs.size+1:=qaA (qb5 _);refine⟨by rw[upd_ne ne,upd_same],qby _,ne,F,_,(Heap.Ns1.of_empty ⟨qc0,_,_,x,U,(λe G=>absurd G (by simp)),λ_=>rfl⟩).at λo q=>qah _ q,λ_=>True.intro,λy L=>absurd U L⟩
theorem AZ {prog:qaM}{w:World}{env:Env}{e:Expr}{f:Str}{pos:Pos}{s:qai}{Q:Value->qai->Prop} (hb:qdD e f env (eval e env)=eval e env)
  (h:wpAny (model prog w) A (eval e env) (λo j=>wpAny (model prog w) A (getAttr o f true) Q E j) E s):wpAny (model prog w) A (eval (.Attribute e f pos) env) Q E s:=
 Attribute_any_ h (by rw[arm_eval_Attribute,hb])
end
def GO (K:qae) (b:TE) (f:Str):TE:=λd H Q=>b d H λx H1=>∃ a C c fs v,x=.ref a/\H1 a=some (.ins C c fs)/\Cls K C/\cF K C f/\fs.lookup f=some v/\Q v H1
def GM (K:qae) (d e:TE) (f:Str):TS:=λD b H=>e b H λy H1=>d b H1 λx H2=>∃ a C c fs,x=.ref a/\H2 a=some (.ins C c fs)/\Cls K C/\cF K C f/\fs.length<1000/\
 D.nx b (upd H2 a (.ins C c (gv f y fs)))
section
variable {X:Cx}{o e b:Expr}{f:Str}{pos g r:Pos}{j p:TE}
theorem D1 (z:PE X e j) (hb:qdD e f X.env (eval e X.env)=eval e X.env):PE X (.Attribute e f pos) (GO X.K j f):=by
 intro d s i H Q I h;refine AZ hb (thn (z d s i H _ I h) λu s1 ⟨x,H1,I1,k,a,C,E,fs,v,ex,m,c,n,l,q⟩=>?_);subst ex;obtain rfl:u=Value.ref a:=k;exact u6 I1 m c n l λL w I2 K=>⟨v,H1,I2,K,q⟩
theorem z7 (A:PE X o j) (B:PE X b p) (J:qcD b (some (.Attribute o f g)) pos.line X.env=pure false):PS X (.Assign [.Attribute o f g] b pos) (GM X.K j p f):=by
 intro d s i H D I h;refine plainObj_wpAny_Assign_Attribute (thn (B d s i H _ I h) λu s1 ⟨y,H1,I1,F,q⟩=>thn (A d s1 i H1 _ I1 q) λt w ⟨x,H2,I2,k,a,C,E,fs,ex,m,c,n,l,G⟩=>?_) J;subst ex;obtain rfl:t=Value.ref a:=k;exact vO I2 m c n l F λM I3=>⟨i,_,I3,G⟩
end
section
variable {X:Cx}{k:List (Addr×Obj)}{l:St}{H:Hp}{s:qai}{A:qaU}{E:Value->qai->Prop}{Q:Value->qai->Prop}{c:Value}{b:Bool}
inductive lQ (K:qae) (H:Hp):V->Value->Prop where
 |non:lQ K H .non (.type "NoneType")
 |bl (x:Bool):lQ K H (.bl x) (.type "bool")
 |int (i:Int):lQ K H (.int i) (.type "int")
 |str (x:Str):lQ K H (.str x) (.type "str")
 |flt (x:UInt64):lQ K H (.flt x) (.type "float")
 |lst {a:Addr}{xs:List V} (e:H a=some (.lst xs)):lQ K H (.ref a) (.type "list")
 |frz {a:Addr}{o:Obj}{xs:List V} (e:H a=some (.frz o (.lst xs))):lQ K H (.ref a) (.type "list")
 |tup {a:Addr}{xs:List V} (e:H a=some (.tup xs)):lQ K H (.ref a) (.type "tuple")
 |dK {a:Addr}{kvs:List (Key×V)} (e:H a=some (.dK kvs)):lQ K H (.ref a) (.type "dict")
 |dT {a:Addr}{kvs:List (List Key×V)} (e:H a=some (.dT kvs)):lQ K H (.ref a) (.type "dict")
 |ins {a C dx:Addr}{fs:List (Str×V)} (e:H a=some (.ins C dx fs)) (cl:Cls K C) (ha:qcp K (.ref C) "__class__" = some (some (.builtin "object.__class__")))
   (hn:PySem.W.specialIn K (.builtin "object.__class__") "__get__" = some (some (.builtin "getset_descriptor.__get__"))) (htk:PySem.W.takesIn K (.builtin "object.__class__")=some true)
   (hm:PySem.W.mroIn K C (.type "object")=some true):lQ K H (.ref a) (.ref C)
theorem cm {x:V}{u t:Value} (I:Inv X k l H s) (f:aP x u) (ty:lQ X.K H x t) (e:qhC X.K t c=some b) (h:∀ m,Q (.bool b) { s with toks:=m }) :
  wpAny (model X.prog X.w) A (call (.builtin "isinstance") [u,c]) Q E s:=by
 cases ty with
 |non=>cases (f);exact qbR PySem.W.kitx_none I.kIn True.intro e (λz=>nomatch z) h
 |bl y=>cases (f);exact qbR PySem.W.kitx_bool I.kIn True.intro e (λz=>nomatch z) h
 |int i=>obtain⟨t,q⟩:=(f);cases q;exact qbR PySem.W.kitx_int I.kIn True.intro e (λz=>nomatch z) h
 |str y=>obtain⟨t,q⟩:=(f);cases q;exact qbR PySem.W.kitx_str I.kIn True.intro e (λz=>nomatch z) h
 |flt y=>obtain⟨t,q⟩:=(f);cases q;exact qbR PySem.W.kitx_float I.kIn True.intro e (λz=>nomatch z) h
 |@lst a xs d=>
  cases (show u=Value.ref a from f);obtain⟨_,_,n,_,g⟩:=(I.hok a _ d);exact qbR qgX I.kIn ⟨_,g,U⟩ e (λz=>nomatch z) h
 |@frz a ob xs d=>
  cases (f);obtain⟨_,_,_,n,_,g⟩:=(I.hok a _ d);exact qbR qgX I.kIn ⟨_,g,U⟩ e (λz=>nomatch z) h
 |@tup a xs d=>
  cases (show u=Value.ref a from f);obtain⟨_,_,_,p⟩:=(I.hok a _ d);obtain⟨o,g,j,_⟩:=p;exact qbR qgS I.kIn ⟨o,g,j⟩ e (λz=>nomatch z) h
 |@dK a kvs d=>
  cases (show u=Value.ref a from f);obtain⟨_,_,v,_,p⟩:=(I.hok a _ d);obtain⟨o,es,r,g,j,_⟩:=p;exact qbR qgY I.kIn ⟨o,g,j.1⟩ e (λz=>nomatch z) h
 |@dT a kvs d=>
  cases (show u=Value.ref a from f);obtain⟨_,_,xs,_,o,es,r,g,j,_⟩:=(I.hok a _ d);exact qbR qgY I.kIn ⟨o,g,j.1⟩ e (λz=>nomatch z) h
 |@ins a C dx fs d cl ha hn htk hm=>
  cases (f);obtain⟨B,O,_⟩:=qQ I.hok d;obtain⟨w,J,_⟩:=O.look;exact qbR (PySem.W.kitx_own (cl.get _) cl.hd ha hn htk hm) I.kIn J e (λz=>nomatch z) h
end
structure bv (k:Nat) (A:qaU):Prop where
 hd:A.handled=none
 dp:A.depth+3*k+5<qkh
 un:A.units+16*k+200<cLine
 gd:A.guards=some []
theorem bv.mono {j k:Nat}{A:qaU} (r:bv k A) (h:j<=k):bv j A:=⟨r.hd,by have:=r.dp;lia,by have:=r.un;lia,r.gd⟩
theorem bv.deeper {k:Nat}{A:qaU} (r:bv (k+1) A) (env:Env):bv k (A.deeper env):=
 ⟨r.hd,by have:=r.dp;show A.depth+1+3*k+5<_;lia,by have:=r.un;show A.units+3+16*k+200<_;lia,r.gd⟩
theorem vz {A:qaU}{C:Addr}{b:List Value}{a:List (Str×Value)}:(A.under (.builtin "type.__call__" ⟨.ref C::b,a⟩)).depth=A.depth+1:=by
 first|rfl|simp[qgC,Code.weight,Code.isCreation,qi0,Code.isCaller,qjU,qi1,guardIds]
theorem vA {A:qaU}{C:Addr}{b:List Value}{a:List (Str×Value)}:(A.under (.builtin "type.__call__" ⟨.ref C::b,a⟩)).units=A.units+1:=by
 first|rfl|simp[qgC,Code.cUnits,qjU,qi1]
theorem bv.make {k:Nat}{A:qaU} (r:bv (k+1) A) (C:Addr) (b:List Value) (a:List (Str×Value)):bv k (A.under (.builtin "type.__call__" ⟨.ref C::b,a⟩)):=
 ⟨r.hd,by have:=r.dp;rw[vz];lia,by have:=r.un;rw[vA];lia,by
  unfold qgC
  simp[r.gd,pushGuards,Code.guards,qi0,guardIds]⟩
theorem bv.depth {k:Nat}{A:qaU} (r:bv k A):A.depth<qkh:=by have:=r.dp;lia
theorem bv.units {k:Nat}{A:qaU} (r:bv k A):A.units+64<cLine:=by have:=r.un;lia
theorem bv.units0 {k:Nat}{A:qaU} (r:bv k A):A.units<cLine:=by have:=r.un;lia
def GT:TA:=λ_ H Q=>Q [] H
def F1 (b:TE) (c:TA):TA:=λa H Q=>b a H λx H1=>c a H1 λxs H2=>Q (x::xs) H2
section
variable {X:Cx}{e:Expr}{es:List Expr}{te:TE}{t:TA}{pos:Pos}
theorem rO:PA X [] GT:=λ_ _ _ _ H Q I h=>Calls.spliced_nil ⟨_,H,I,.nil,h⟩
theorem mL (k:PE X e te) (n:PA X es t) (i:qbF (e::es) X.env=(false,eval e X.env)::qbF es X.env:=by rfl):PA X (e::es) (F1 te t):=by
 intro pos a s c H Q I h;rw[i];refine Calls.spliced_cons (thn (k a s c H _ I h) λu s1 ⟨x,H1,I1,m,l⟩=>?_);exact thn (n pos a s1 c H1 _ I1 l) λd o ⟨xs,H2,I2,j,g⟩=>⟨_,H2,I2,.cons m j,g⟩
def GY (t:TA):TE:=λc H Q=>t c H λxs H1=>xs.length<=qaH/\∀ p,H1 p=none->Q (.ref p) (upd H1 p (.tup xs))
def GS (t:TA):TE:=λc H Q=>t c H λxs H1=>xs.length<=qaH/\∀ p,H1 p=none->Q (.ref p) (upd H1 p (.lst xs))
theorem D8 {x1} (h:PA X es t):PE X (.Tuple es x1 pos) (GY t):=by
 intro a s c H Q I f;refine wpAny_Tuple_spliced (thn (h pos a s c H _ I f) λd s1 ⟨xs,H1,I1,r,z,q⟩=>⟨by rw[<-r.length];exact z,?_⟩);refine⟨.ref s1.heap.objs.size,_,I1.laid (λb u e=>qah _ e) (qan _) ?_,U,q _ (I1.hok.fresh (qan _))⟩;exact⟨z,d,r,fL.new _ _⟩
theorem D3 (h:PA X es t):PE X (.List es pos) (GS t):=by
 intro a s c H Q I f;refine wpAny_List_spliced (thn (h pos a s c H _ I f) λd s1 ⟨xs,H1,I1,r,z,q⟩=>⟨by rw[<-r.length];exact z,?_⟩);refine⟨.ref s1.heap.objs.size,_,I1.laid (λb u e=>qah _ e) (qan _) ?_,U,q _ (I1.hok.fresh (qan _))⟩;exact⟨z,d,0,r,qat _ U⟩
end
abbrev Sp:=List V->Hp->VK->XK->Prop
abbrev CXT:=List Env->Hp->qai->XK->Value->qai->Prop
structure xK (P:qaM) (w:World) (K:qae) (mg:Str->Option Value) (base:Heap) (A:qaU) (outer:List Env) (s:qai) (H:Hp):Prop where
 frames:A.frames=some outer
 mod:Mod K mg base
 bs:∀ b o,base.get? b=some o->s.heap.get? b=some o/\H b=none
 bsz:base.objs.size<=s.heap.objs.size
 funs:s.heap.FunFrames base outer
 frf:∀ b∈frs outer,H b=none
 hok:HOk P w H s.heap
 bare:qfD s.gens
def CE (outer:List Env) (P:qaM) (w:World) (H:Hp) (s:qai) (Q:VK) (u:Value) (s':qai):Prop:=
 ∃ v H',s'.os=s.os/\qfD s'.gens/\Un (frs outer) [] H H' s.heap s'.heap/\HOk P w H' s'.heap/\aP v u/\Q v H'
def CR (CX:CXT) (outer:List Env) (P:qaM) (w:World) (H:Hp) (s:qai) (Q:VK) (E:XK) (r:qix) (s':qai):Prop:=
 match r with
 |.ok (.ret u)=>CE outer P w H s Q u s'
 |.ok _=>False
 |.error e=>CX outer H s E e s'
structure dR (P:qaM) (w:World) (K:qae) (mg:Str->Option Value) (base:Heap) (CX:CXT) (k:Nat) (f:Addr) (fd:qca) (ps:List Str) (sp:Sp):Prop where
 len:∀ vs H Q E,sp vs H Q E->vs.length=ps.length
 run:∀ (A:qaU) (outer:List Env) (s:qai) (H:Hp) (args:Args) (us:List Value) (vs:List V) (Q:VK) (E:XK),bv k A->xK P w K mg base A outer s H->qhy s fd args (ps.zip us)->aL vs us->sp vs H Q E->
  qea (model P w) A (.call (.ref f) args) (CR CX outer P w H s Q E) s
theorem dR.mono {P:qaM}{w:World}{K:qae}{mg:Str->Option Value}{base:Heap}{CX:CXT}{j k:Nat}{f:Addr}{fd:qca}{ps:List Str}{sp:Sp} (F:dR P w K mg base CX j f fd ps sp) (h:j<=k) :
  dR P w K mg base CX k f fd ps sp:=⟨F.len,λA outer s H args c b Q E a=>F.run A outer s H args c b Q E (a.mono h)⟩
theorem xK.make {P:qaM}{w:World}{K:qae}{mg:Str->Option Value}{base:Heap}{A:qaU}{outer:List Env}{s:qai}{H:Hp} (e:xK P w K mg base A outer s H) (C:Addr) (b:List Value) (a:List (Str×Value)) :
  xK P w K mg base (A.under (.builtin "type.__call__" ⟨.ref C::b,a⟩)) outer s H:=⟨by first|exact e.frames|(simpa  using e.frames),e.mod,e.bs,e.bsz,e.funs,e.frf,e.hok,e.bare⟩
section
variable {X:Cx}{a:List (Addr×Obj)}{e:St}{H:Hp}{s s':qai}
theorem Inv.env0 (I:Inv X a e H s):xK X.prog X.w X.K X.mg X.base X.A X.stack s H:=
 ⟨I.ok.frames,I.ok.mod,I.bs,qaS I.ok.bsz I.sz,I.stack,I.stkFree,I.hok,I.bare⟩
theorem Inv.after {Q:VK}{u:Value} (I:Inv X a e H s) (h:CE X.stack X.prog X.w H s Q u s'):EP X a e Q u s':=by
 obtain⟨v,H',os,bare,un,hok,r,q⟩:=h;obtain⟨f,g,d,t,c⟩:=s';obtain rfl:c=s.os:=os;exact⟨v,H',I.call un hok bare (λb z=>absurd z (by simp)),r,q⟩
end
def F0 (sp:Sp) (a:List V) (E:XK) (t:TA):TE:=λb H Q=>t b H λc H1=>sp (c++a) H1 Q E
def F5 (C:Addr) (sp:Sp) (b:List V) (E:XK) (t:TA):TE:=λc H Q=>t c H λd H1=>∀ x a,H1 x=none->H1 a=none->a≠x->
 sp (.ref x::(d++b)) (upd (upd H1 a (.own x)) x (.ins C a [])) (λv H2=>v=.non/\Q (.ref x) H2) E
def dn (K:qae) (fd:qca) (ps:List Str) (ds:List Value):Prop:=
 ∀ (s:qai) (a:List Value),K.In s.heap->(a++ds).length=ps.length->qhy s fd ⟨a,[]⟩ (ps.zip (a++ds))
theorem dn.all {K:qae}{fd:qca}{ps:List Str} (h:∀ a:List Value,a.length=ps.length->bindArgs fd ⟨a,[]⟩=pure (ps.zip a)):dn K fd ps []:=λs a _ b=>by
 rw[qcv]at b ⊢;exact .of_eq (h a b)
def mP (CX:CXT) (X:Cx) (E:XK):Prop:=∀ (a:List (Addr×Obj)) (b:St) (H:Hp) (s:qai) (e:Value) (s':qai),Inv X a b H s->CX X.stack H s E e s'->X.xe e s'
section
variable {X:Cx}{CX:CXT}{k:Nat}{f C:Addr}{fd:qca}{ps:List Str}{sp:Sp}{b:List V}{ds:List Value}{E:XK}{x m:Str}{p pos J:Pos}{e o:Expr}{es:List Expr}{R:TE}{t:TA}
theorem En {a:List (Addr×Obj)}{g:St}{H:Hp}{s:qai}{Q:VK}{c:List Value}{w:List V} (F:dR X.prog X.w X.K X.mg X.base CX k f fd ps sp) (y:bv k X.A) (hb:dn X.K fd ps ds) (hd:aL b ds) (j:mP CX X E)
  (I:Inv X a g H s) (r:aL w c) (h:sp (w++b) H Q E):wpAny (model X.prog X.w) X.A (call (.ref f) c) (EP X a g Q) X.xe s:=by
 have z:=r.append hd;have B:(c++ds).length=ps.length:=by rw[<-z.length];exact F.len _ _ _ _ h
 refine qiJ (qgk (F.run X.A X.stack s H _ _ _ Q E y I.env0 (hb s c I.kIn B) z h) λr s' i=>?_);cases r with
 |error e=>exact j a g H s e s' I i
 |ok fl=>
  cases fl with
  |ret u=>exact I.after i
  |next=>exact qcH i
  |brk=>exact qcH i
  |cont=>exact qcH i
theorem xh (F:dR X.prog X.w X.K X.mg X.base CX k f fd ps sp) (y:bv k X.A) (hg:Gl X x) (hm:X.mg x=some (.ref f)) (N:qcO X.K (.ref f)=true) (hb:dn X.K fd ps ds) (hd:aL b ds) (j:mP CX X E)
  (G:PA X (e::es) t) (l:(x==("__debug__" : Str))=false:=by decide) (D:qbF (e::es) X.env=(false,eval e X.env)::qbF es X.env:=by rfl) (n:(qe9 pos (qbF es X.env)).any (·.1)=false:=by rfl) :
  PE X (.Call (.Name x p) (e::es) [] pos) (F0 sp b E t):=by
 intro a s g H Q I h;refine qek (wN I hg hm ?_ l);refine qgT I.ok.mod.kin N (thn (G pos a s g H _ I h) λc s1 ⟨w,H1,I1,r,q⟩=>⟨I1.kIn,?_⟩) D n;exact En F y hb hd j I1 r q
structure Mk (K:qae) (C f:Addr):Prop where
 makes:qfx K C=true
 init:qcp K (.ref C) "__init__" = some (some (.ref f))
 fn:qh3 K (.ref f)=true
 kp:qcO K (.ref C)=true
theorem Ao {a:List (Addr×Obj)}{g:St}{H:Hp}{s:qai}{Q:VK}{c:List Value}{w:List V} (M:Mk X.K C f) (F:dR X.prog X.w X.K X.mg X.base CX k f fd ps sp) (y:bv (k+1) X.A) (hb:dn X.K fd ps ds) (hd:aL b ds)
  (j:mP CX X E) (I:Inv X a g H s) (r:aL w c)
  (h:∀ x A,H x=none->H A=none->A≠x->sp (.ref x::(w++b)) (upd (upd H A (.own x)) x (.ins C A [])) (λv H2=>v=.non/\Q (.ref x) H2) E) :
  wpAny (model X.prog X.w) X.A (call (.ref C) c) (EP X a g Q) X.xe s:=by
 have i:=h _ s.heap.objs.size (I.hok.fresh (qdk _)) (I.hok.fresh (qan _)) (qaA (qb5 _));have I2:=Inv.made (C:=C) I;have z:aL (V.ref (s.heap.objs.size+1)::_) _:=.cons U (r.append hd);have B:=by
  have e:=z.length;rw[F.len _ _ _ _ i]at e;exact e.symm
 refine qiJ (zF I.kIn M.makes M.init (beq_iff_eq.mp M.fn) (qgk (F.run _ X.stack _ _ _ _ _ _ E (y.make C c [])
  (I2.env0.make C c []) (hb _ _ I2.kIn B) z i) λr s' d=>?_))
 cases r with
 |error e=>exact j a g _ _ e s' I2 d
 |ok fl=>
  cases fl with
  |ret u=>
   obtain⟨v,H',I3,P,O,L⟩:=I2.after d;subst O;exact⟨P,⟨V.ref _,H',I3,U,L⟩⟩
  |next=>exact qcH d
  |brk=>exact qcH d
  |cont=>exact qcH d
theorem BO (M:Mk X.K C f) (F:dR X.prog X.w X.K X.mg X.base CX k f fd ps sp) (y:bv (k+1) X.A) (hg:Gl X x) (hm:X.mg x=some (.ref C)) (hb:dn X.K fd ps ds) (hd:aL b ds) (j:mP CX X E)
  (G:PA X (e::es) t) (l:(x==("__debug__" : Str))=false:=by decide) (D:qbF (e::es) X.env=(false,eval e X.env)::qbF es X.env:=by rfl) (n:(qe9 pos (qbF es X.env)).any (·.1)=false:=by rfl) :
  PE X (.Call (.Name x p) (e::es) [] pos) (F5 C sp b E t):=by
 intro a s g H Q I h;refine qek (wN I hg hm ?_ l);refine qgT I.ok.mod.kin M.kp (thn (G pos a s g H _ I h) λc s1 ⟨w,H1,I1,r,q⟩=>⟨I1.kIn,?_⟩) D n;exact Ao M F y hb hd j I1 r q
end
section
variable {X:Cx}{CX:CXT}{k:Nat}{f C:Addr}{fd:qca}{ps i:List Str}{sp:Sp}{E:XK}{x m:Str}{p pos a b:Pos}{e o:Expr}{es:List Expr}{c:List qik}{te d:TE}{t h:TA}{nm:Option Str}
variable {g:List Value->List Value->List Value}{j:List V->List V->List V}
end
structure cD (N P:List Str) (sc:Scope):Prop where
 kind:sc.kind=.function
 co:sc.isCoroutine=false
 gen:sc.isGenerator=false
 nd:N.Nodup
 pre:N.take P.length=P
 par:∀ x∈P,sc.names.lookup x=some .local\/sc.names.lookup x=some .cell
 nofree:∀ y∈sc.names,y.2≠.free
theorem pv {kindOf:Str->Option qb6}{x:Str}:∀ {binds:List (Str×Value)}{m:Str->Option Value},(∀ v,(x,v)∉binds)->bindL kindOf binds m x=m x
 |[],_,_=>rfl
 |(n,v)::r,m,h=>by
  unfold bindL;rw[pv λw hw=>h w (qaj _ hw)];split
  ·have:x≠n:=by rintro rfl;exact h v qag
   simp[this]
  ·rfl
theorem pj {kindOf:Str->Option qb6}{x:Str}:∀ {binds:List (Str×Value)}{m:Str->Option Value},(∀ v,(x,v)∉binds)->bindC kindOf binds m x=m x
 |[],_,_=>rfl
 |(n,v)::r,m,h=>by
  unfold bindC;rw[pj λw hw=>h w (qaj _ hw)];split
  ·rfl
  ·have:x≠n:=by rintro rfl;exact h v qag
   simp[this]
theorem pq {kindOf:Str->Option qb6}{x:Str}{v:Value}:∀ {P:List Str}{a:List Value}{i:Nat}{m:Str->Option Value},P.Nodup->P[i]?=some x->a[i]?=some v->kindOf x=some .local->
  bindL kindOf (P.zip a) m x=some v
 |[],_,_,_,_,h,_,_=>by simp at h
 |_::_,[],_,_,_,_,h,_=>by simp at h
 |p::P,w::a,0,m,nd,c,b,d=>by
  simp at c b;subst c;subst b
  show bindL kindOf ((p,w)::P.zip a) m p=_;unfold bindL;rw[pv λv e=>(qcu.mp nd).1 (qf2 e).1,iFP d]
  simp
 |p::P,w::a,i+1,m,nd,c,b,d=>by
  unfold bindL;exact pq (qcu.mp nd).2 (by simpa using c) (by simpa using b) d
theorem pi {kindOf:Str->Option qb6}{x:Str}{v:Value}:∀ {P:List Str}{a:List Value}{i:Nat}{m:Str->Option Value},P.Nodup->P[i]?=some x->a[i]?=some v->kindOf x≠some .local->
  bindC kindOf (P.zip a) m x=some v
 |[],_,_,_,_,h,_,_=>by simp at h
 |_::_,[],_,_,_,_,h,_=>by simp at h
 |p::P,w::a,0,m,nd,c,b,d=>by
  simp at c b;subst c;subst b
  show bindC kindOf ((p,w)::P.zip a) m p=_;unfold bindC;rw[pj λv e=>(qcu.mp nd).1 (qf2 e).1,iFN d]
  simp
 |p::P,w::a,i+1,m,nd,c,b,d=>by
  unfold bindC;exact pi (qcu.mp nd).2 (by simpa using c) (by simpa using b) d
def gx (N:List Str) (a:List V):St:=a.map some++qaC (N.length - a.length) none
def fV (CX:CXT) (P:qaM) (w:World) (K:qae) (mg:Str->Option Value) (base:Heap) (N:List Str) (b:Str) (a:Scope) (f:Addr) (d:Value) (A:qaU) (outer:List Env) (s:qai) (H:Hp) (E:XK):Cx where
 prog:=P
 w:=w
 K:=K
 mg:=mg
 base:=base
 A:=A.deeper (qez b a s.heap.objs.size f d)
 N:=N
 s₀:=s
 H₀:=H
 env:=qez b a s.heap.objs.size f d
 outer:=outer
 stack:=qez b a s.heap.objs.size f d::outer
 ex:=[]
 calm:=true
 fn:=λ_=>true
 pn:=[]
 xe:=λe s'=>wpAny (model P w) (A.deeper (qez b a s.heap.objs.size f d)) (leaving (qez b a s.heap.objs.size f d) e) (λ_ c=>CX outer H s E e c) (λg c=>CX outer H s E g c) s'
theorem sO {a:Scope}{n:Nat}{x:Str} (h:a.names.lookup x=some .cell):∃ c,(qcE n a.names []).lookup x=some c:=by
 exact qcC.mp (qdo a.names n [] (.inl h))
theorem yb {CX:CXT}{P:qaM}{w:World}{K:qae}{mg:Str->Option Value}{base:Heap}{N ps:List Str}{g:Str}{d:Scope}{f:Addr}{D:Value}{A:qaU}{outer:List Env}{s s1:qai}{H:Hp}{E:XK}{F:List Value}{n:List V}
  (S:cD N ps d) (hd:A.handled=none) (l:xK P w K mg base A outer s H) (O:n.length=ps.length) (r:aL n F)
  (x:InCallC s s.heap.objs.size (bindL (qez g d s.heap.objs.size f D).kindOf (ps.zip F) λ_=>none) (qcE (s.heap.objs.size+1) d.names []) (bindC (qez g d s.heap.objs.size f D).kindOf (ps.zip F) λ_=>none) s1) :
  Inv (fV CX P w K mg base N g d f D A outer s H E) [] (gx N n) H s1:=by
 have L:ps.length<=N.length:=by have:=congrArg qf4 S.pre;rw[qdf]at this;lia
 obtain⟨C,R,rfl,G⟩:=x.done;have m:∀ b ,b∉(fV CX P w K mg base N g d f D A outer s H E).ex:=λb z=>absurd (show b∈([]) from z) (by simp)
 refine⟨⟨l.mod,S.kind,U,U,qan _,λy z c C j=>?_,λy t=>?_,λy c _ h=>?_,λ_=>hd,Around.frames_deeper l.frames,.inr ⟨U,U⟩,λb z=>absurd z (m b),l.bs,l.bsz,λb _ _=>m b,λb z=>absurd z (m b),l.funs,l.frf⟩,
  rfl,l.bare,Un.kept G,⟨_,x.toInCall.ns,λi y v C j Q=>?_⟩,λy c h=>⟨_,x.cell y c h⟩,l.hok.fresh (qan _),λy c h=>?_,λp B=>absurd (show p∈([]) from B) (by simp),l.hok.kept G,?_⟩
 ·exact name_of_addr x.apart (qbt C) (qbt j)
 ·rcases t with t|t
  ·exact sO t
  ·exact absurd U (S.nofree _ (qbt t))
 ·exact qeO (x.above y c (qbt h))
 ·have hi:i<n.length:=by
   unfold gx at j;by_cases hi:i<n.length
   ·exact hi
   ·rw[qaJ (by simpa using hi)]at j
    rw[qdq]at j;split at j<;>cases j
  have J:n[i]?=some v:=by
   unfold gx at j;rw[qaE (by simpa using hi),qaF]at j;cases e:n[i]? with
   |none=>rw[e]at j;cases j
   |some a=>rw[e]at j;cases j;rfl
  obtain⟨u,I,M⟩:=r.get J;have B:ps[i]?=some y:=by
   rw[<-S.pre,qgv (by lia)];exact C
  have o:ps.Nodup:=by rw[<-S.pre];exact S.nd.sublist (List.take_sublist _ _)
  refine⟨u,M,?_⟩;rcases S.par y (qbO B) with k|k
  ·exact .inl ⟨k,pq o B I k⟩
  ·obtain⟨c,e⟩:=sO k
   refine .inr ⟨.inl k,c,e,?_⟩;have q:=x.cell y c e;rw[pi o B I (by show d.names.lookup y≠_;rw[k];decide)]at q;exact q
 ·exact l.hok.fresh (qeO (x.above y c (qbt h)))
 ·unfold gx
  show _=N.length;rw[qax,qaf,qc1];lia
theorem E4 {CX:CXT}{P:qaM}{w:World}{K:qae}{mg:Str->Option Value}{base:Heap}{k:Nat}{f:Addr}{name c:Str}{d:Arguments}{body:List Stmt}{a:Scope}{I kV m F g ct L:Value}{G X:Option Addr}
  {z:Array (Option Value)}{N ps:List Str}{sp:Sp} (T:K.lookup f=some ⟨L,X,.func (qdQ name c d body a I kV m F G g ct),z⟩) (D:qfW K g c=true) (S:cD N ps a)
  (len:∀ j H Q E,sp j H Q E->j.length=ps.length)
  (i:∀ (A:qaU) (outer:List Env) (s:qai) (H:Hp) (j:List V) (Q:VK) (E:XK),bv k (A.deeper (qez c a s.heap.objs.size f g))->sp j H Q E->
    ∃ t,PSs (fV CX P w K mg base N c a f g A outer s H E) body t/\t { nx:=λ_ H'=>Q .non H',rt:=Q } (gx N j) H) :
  dR P w K mg base CX (k+1) f (qdQ name c d body a I kV m F G g ct) ps sp:=by
 refine⟨len,λA outer s H args Y j Q E C y hb r p=>?_⟩;have KX:=y.mod.kin.keeps λb o e=>(y.bs b o e).1;refine codeAny_call_function C.depth (KX _ _ T) U S.co S.gen U (PySem.W.codeRec_of KX D) (hb _ _ _ _ ?_)
 refine wpAny_newFunctionEnv_cells S.kind (λ⟨n,v⟩ W=>by
  rcases S.par n (qf2 W).1 with q|q
  ·exact .inl q
  ·exact .inr ⟨q,qdo _ _ _ (.inl q)⟩) λenv O s1 x=>?_
 subst O;refine⟨(y.mod.nolimit.keeps λb o e=>(y.bs b o e).1).keeps x.toInCall.keep,codeAny_func ?_⟩;obtain⟨t,R,M⟩:=i A outer s H j Q E (C.deeper _) p;refine qcA (R [] s1 _ H _ (yb S C.hd y (len _ _ _ _ p) r x) M) (λfl s' l=>?_) λe s' l=>l;have fin:∀ {h:St}{H':Hp}{v:V}{u:Value},Inv (fV CX P w K mg base N c a f g A outer s H E) [] h H' s'->aP v u->Q v H'->CE outer P w H s Q u s':=
  λ{h H' v u} J B q=>⟨v,H',J.os,J.bare,J.base,J.hok,B,q⟩
 cases fl with
 |ret u=>
  obtain⟨v,h,H',J,B,q⟩:=l;exact fin J B q
 |next=>
  obtain⟨h,H',J,q⟩:=l;exact fin (v:=V.non) J U q
 |brk=>
  obtain⟨_,_,_,q⟩:=l;exact qcH q
 |cont=>
  obtain⟨_,_,_,q⟩:=l;exact qcH q
section
variable {X:Cx}{x:Str}{p pos:Pos}{e:Expr}{es:List Expr}{t:TA}{id T:String}{r:List V->Hp->VK->Prop}
def tCB (r:List V->Hp->VK->Prop) (t:TA):TE:=λb H Q=>t b H λf H1=>r f H1 Q
theorem oj (k:bN X (.builtin id) r) (hg:Gl X x) (hm:X.mg x=none) (g:qco x=some (.builtin id)) (j:PA X (e::es) t) (hn:x≠"__name__":=by decide) (d:(x==("__debug__" : Str))=false:=by decide)
  (i:qbF (e::es) X.env=(false,eval e X.env)::qbF es X.env:=by rfl) (c:(qe9 pos (qbF es X.env)).any (·.1)=false:=by rfl):PE X (.Call (.Name x p) (e::es) [] pos) (tCB r t):=by
 intro a s b H Q I h;refine qek (jH I hg hm g ?_ hn d);exact qjP (thn (j pos a s b H _ I h) λl s1 ⟨f,H1,I1,n,m⟩=>k a s1 b H1 f l Q I1 n m) i c
theorem dj (k:bN X (.type T) r) (hg:Gl X x) (hm:X.mg x=none) (g:qco x=some (.type T)) (j:PA X (e::es) t) (hn:x≠"__name__":=by decide) (d:(x==("__debug__" : Str))=false:=by decide)
  (i:qbF (e::es) X.env=(false,eval e X.env)::qbF es X.env:=by rfl) (c:(qe9 pos (qbF es X.env)).any (·.1)=false:=by rfl):PE X (.Call (.Name x p) (e::es) [] pos) (tCB r t):=by
 intro a s b H Q I h;refine qek (jH I hg hm g ?_ hn d);exact qcm (thn (j pos a s b H _ I h) λl s1 ⟨f,H1,I1,n,m⟩=>k a s1 b H1 f l Q I1 n m) i c
end
end L2
namespace HT
open PySem PyProof.Rows
def lexLt:List Int->List Int->Bool
 |[],[]=>false
 |[],_::_=>true
 |_::_,[]=>false
 |x::xs,y::a=>if x=y then lexLt xs a else decide (x<y)
theorem lexLt_cons (x y:Int) (xs a:List Int):lexLt (x::xs) (y::a)=if x=y then lexLt xs a else decide (x<y):=rfl
theorem oY:lexLt [] []=false:=rfl
theorem n4 (y:Int) (a:List Int):lexLt [] (y::a)=true:=rfl
theorem nZ (x:Int) (xs:List Int):lexLt (x::xs) []=false:=rfl
theorem y9 (A:qaU) (s:qai) (a:Int) (t:Tok) (c:Int) (u:Tok):∃ e,qdw A s (.int a t) (.int c u) e/\(e=true↔a=c):=
 ⟨_,qgu a t c u,by simp⟩
theorem Aj (A:qaU) (s:qai) (a:Int) (t:Tok) (c:Int) (u:Tok) (prog:qaM) (w:World) (E:Value->qai->Prop) (Q:Value->qai->Prop) (h:Q (.bool (decide (a<c))) s) :
  wpAny (model prog w) A (richCompare .Lt (.int a t) (.int c u)) Q E s:=
 (qel h)
section
open PySem.SeqAt
open PySem.AutoSeq1 (wpAny_loadPart')
open PySem.MeetsSeq PySem.MeetsSeq2 PySem.MeetsSeq3
theorem pe (l b:Addr) (items f:Array Value) (n Q:Nat) (P K:Option Addr) (V J:Array (Option Value)) (ns I:List Int) (hi:qct items.toList ns) (M:qct f.toList I) :
  Meets (qff.«tuple.__lt__» ⟨[.ref l,.ref b],[]⟩)
   (λ_ R s=>s.heap.get? l=some { cls:=.type "tuple",dict:=P,data:=.seq items n,slots:=V }/\s.heap.get? b=some { cls:=.type "tuple",dict:=K,data:=.seq f Q,slots:=J }/\
     R (.ok (.ret (.bool (lexLt ns I)))) s):=
 .of_wp λprog w A R s h=>by
  obtain⟨F,g,d,G,os⟩:=s;obtain⟨S,hb,h⟩:=h;have f2:=qf0;have z1:items.size=ns.length:=by rw[<-hi.length];simp
  have z2:f.size=I.length:=by rw[<-M.length];simp
  wp_walk using wpAny_loadPart' S,wpAny_loadPart' hb,qi9 _ (λp b s'=>b.1=none/\s'=⟨F,g,d,G,os⟩/\∃ (H ws:List Value) (k j:List Int),p=H.zip ws/\
   qct H k/\qct ws j/\k.length+f.size=j.length+items.size/\R (.ok (.ret (.bool (lexLt k j)))) ⟨F,g,d,G,os⟩) _
  case turn=>
   rintro⟨y,x⟩ p b s' ⟨z,rfl,H,ws,k,j,o,C,m,i,v⟩
   cases C with
   |nil=>rw[List.zip_nil_left]at o;cases o
   |cons a t D=>
    cases m with
    |nil=>rw[List.zip_nil_right]at o;cases o
    |cons c u E=>
     rw[qdp]at o;injection o with L B;injection L with W O;subst W O;rw[lexLt_cons]at v;simp only[qap]at i;obtain⟨e,T,r⟩:=y9 A.in1 ⟨F,g,d,G,os⟩ a t c u;refine qac (T prog w _ _ ?_);cases e with
     |true=>
      rw[iFP (r.mp U)]at v
      wp_walk
      exact⟨U,U,_,_,_,_,B,D,E,by lia,v⟩
     |false=>
      rw[iFN (λq=>absurd (r.mpr q) qa5)]at v
      wp_walk using (Aj A.in1 ⟨F,g,d,G,os⟩ a t c u prog w)
      exact⟨_,U,by simpa using v⟩
  case fin=>
   rintro⟨Y,X⟩ s' ⟨z,rfl,H,ws,k,j,o,C,m,i,v⟩
   simp only at z
   subst z;have N:lexLt k j=decide (items.size<f.size):=by
    cases C with
    |nil=>
     cases m with
     |nil=>
      simp only[qbK]at i;rw[oY];exact (decide_eq_false (by lia)).symm
     |cons c u hw=>
      simp only[qbK,qap]at i;rw[n4];exact (decide_eq_true (by lia)).symm
    |cons a t N=>
     cases m with
     |nil=>
      simp only[qbK,qap]at i;rw[nZ];exact (decide_eq_false (by lia)).symm
     |cons c u hw=>
      rw[qdp]at o;cases o
   rw[N]at v
   wp_walk
   exact⟨_,U,by simpa [qeB] using v⟩
  case h=>
   exact⟨U,U,items.toList,f.toList,ns,I,U,hi,M,by lia,h⟩
end
section
variable {prog:qaM}{w:World}{A:qaU}{E:Value->qai->Prop}{s:qai}
theorem lt_tupInts {l b:Addr}{items a:Array Value}{ns W:List Int}{Q:Value->qai->Prop} (hl:IsTup s.heap l items) (hb:IsTup s.heap b a) (hi:qct items.toList ns) (X:qct a.toList W)
  (hu:A.units<cLine) (h:Q (.bool (lexLt ns W)) s):wpAny (model prog w) A (qbq .Lt (.ref l) (.ref b)) Q E s:=by
 obtain⟨⟨cls,N,data,g⟩,C,S,n,hd⟩:=id hl;obtain⟨⟨J,y,data2,u⟩,c,F,O,B⟩:=id hb;subst S hd F B;exact qhA (op:=.Lt) ⟨_,C,U⟩ ⟨_,c,U⟩ qdx qeh (qec _ _) (pe l b items a n O N y g u ns W hi X)
  ⟨C,c,⟨(λx=>nomatch x),h⟩⟩ hu
theorem cat_tup {t b:Addr}{z ws:List Value}{Q:Value->qai->Prop} (G:IsTup s.heap t z.toArray) (hb:IsTup s.heap b ws.toArray) (L:z≠[])
  (Y:ws=[]->Q (.ref t) s) (h2:ws≠[]->Q (.ref s.heap.objs.size) { s with heap:=s.heap.push { cls:=.type "tuple",data:=.seq (z++ws).toArray } })
  (M:z.length+ws.length<=qaH):wpAny (model prog w) A (qbQ .Add (.ref t) (.ref b)) Q E s:=by
 obtain⟨⟨cls,N,data,g⟩,C,S,n,hd⟩:=id G;obtain⟨⟨J,y,data2,u⟩,c,F,O,B⟩:=id hb;subst S hd F B;have e:z.toArray++ws.toArray=(z++ws).toArray:=by simp
 by_cases hw:ws=[]
 ·exact qhR ⟨_,C,U⟩ ⟨_,c,U⟩ qgr qho qeg qeb (qd0 _ _)
   (tuple_addW1 t b z.toArray ws.toArray n O N y g u (by simpa using L) (by simp[hw])) ⟨C,c,Y hw⟩
 ·refine qhR ⟨_,C,U⟩ ⟨_,c,U⟩ qgr qho qeg qeb (qd0 _ _)
   (tuple_addW2 t b z.toArray ws.toArray n O N y g u (by simpa using L) (by simpa using hw) (by exact M)) ⟨C,c,?_⟩
  rw[e];exact h2 hw
def sIx (n d:Nat):Option Int->Nat
 |none=>d
 |some v=>if v<0 then (v+(n:Int)).toNat else min v.toNat n
theorem sIx_none (n d:Nat):sIx n d none=d:=rfl
theorem sIx_nat (n d k:Nat):sIx n d (some (k:Int))=min k n:=by
 show (if (k)<0 then ((k)+(n:Int)).toNat else min (k:Int).toNat n)=min k n;rw[iFN (by lia),qa7]
theorem GN (n d:Nat) (hd:d<=n) (o:Option Int):sIx n d o<=n:=by
 cases o with
 |none=>exact hd
 |some v=>
  show (if v<0 then (v+_).toNat else min v.toNat n)<=n;by_cases L:v<0
  ·lia
  ·rw[iFN L];exact Nat.min_le_right _ _
theorem we (v:Int) (n d:Nat):(if v<0 then max (v+(n:Int)) 0 else min v (n:Int))=((sIx n d (some v):Nat):Int):=by
 show _=(((if v<0 then (v+_).toNat else min v.toNat n):Nat):Int);by_cases L:v<0
 ·lia
 ·lia
theorem uU (lo hi:Option Int) (n:Nat):qfe lo hi 1 (n:Int)=(((sIx n 0 lo:Nat):Int),((sIx n n hi:Nat):Int)):=by
 refine Prod.ext ?_ ?_
 ·cases lo with
  |none=>rfl
  |some v=>exact we v n 0
 ·cases hi with
  |none=>rfl
  |some v=>exact we v n n
theorem vG (i j:Nat):qcV (i:Int) (j:Int) 1=j - i:=by
 unfold qcV;split<;>lia
theorem oB {v:Value}{o:Option Int}{Q:Option Int->qai->Prop} (p:qgp v o) (h:Q o s):wpAny (model prog w) A (qi3 v) Q E s:=by
 cases p with
 |none=>exact qkg h
 |int i t=>exact slicePart_int h
theorem gw {g:Addr}{I H:Value}{lo hi:Option Int}{n:Nat}{Q:Int×Int×Nat->qai->Prop} (P:s.heap.IsSliceOf g I H .none) (T:qgp I lo) (V:qgp H hi)
  (h:Q (((sIx n 0 lo:Nat):Int),1,sIx n n hi - sIx n 0 lo) s):wpAny (model prog w) A (qi4 (.ref g) (pure (n:Int))) Q E s:=by
 obtain⟨os,f,K,r⟩:=id P;refine qac (qac (qcf f r (x:=I) U (qac (qcf f r (x:=H) U (qac (qcf f r U (qaq ?_)))))));refine qac (qkg ?_);refine qac (oB T (qac (oB V (qac (qaq ?_)))));show wpAny _ _ (match qfe lo hi 1 _ with|(lo,hi)=>pure (lo,_,qcV lo hi 1)) _ _ s
 rw[uU lo hi n];show wpAny _ _ (pure (_,_,qcV _ _ 1)) _ _ s;rw[vG];exact qaq h
theorem zU (xs:Array Value) (i k:Nat):((qam k).filterMap λ(m:Nat)=>xs[((i:Int)+(m:Int)*1).toNat]?).toArray=((xs.toList.drop i).take k).toArray:=by
 have e:(λ(m:Nat)=>xs[((i)+(m:Int)*1).toNat]?)=λm=>xs[i+m]?:=by
  funext m
  have:((i)+(m:Int)*1).toNat=i+m:=by lia
  rw[this]
 rw[e]
 have:=pick_run xs i k
 rw[List.filterMap_map]at this;have e2:(_ ∘ λx=>i+x)=λm=>xs[i+m]?:=rfl;rw[e2]at this;rw[this]
theorem getItem_tuple_cut {t g:Addr}{items:Array Value}{I H:Value}{lo hi:Option Int}{Q:Value->qai->Prop} (G:IsTup s.heap t items) (P:s.heap.IsSliceOf g I H .none) (T:qgp I lo) (V:qgp H hi)
  (hw:¬ (sIx items.size 0 lo=0/\sIx items.size items.size hi=items.size))
  (h:Q (.ref s.heap.objs.size) { s with heap:=s.heap.push { cls:=.type "tuple",data:=.seq ((items.toList.drop (sIx items.size 0 lo)).take (sIx items.size items.size hi - sIx items.size 0 lo)).toArray } })
  (M:items.size<=qaH):wpAny (model prog w) A (qe8 (.ref t) (.ref g)) Q E s:=by
 have D:=by
  show ((items.toList.drop (sIx items.size 0 lo)).take (sIx items.size items.size hi - sIx items.size 0 lo)).toArray.size<=qaH;rw[qaI,qdf,qer,qcN];lia
 obtain⟨os,f,K,r⟩:=id P;unfold qe8
 try with_reducible refine qcl ?_
 refine qac (qiI G.typeIs (by decide) ?_)
 refine qac (qbP G.typeIs qbI
  (qbY qbI G.typeIs qig ?_ (qiv _ _)))
 show wpAny _ _ (qe2 _ >>= _) _ _ s;refine qac (tupleItemsOf_ G ?_);refine qac (qhO ⟨os,f,K⟩ ?_);refine qac (gw P T V ?_);have R:¬ ((((sIx items.size 0 lo):Int)==0&&(1:Int)==1&&(sIx items.size items.size hi - sIx items.size 0 lo)==items.size)=true):=by
  intro q;exact hw ⟨by lia,by lia⟩
 show wpAny _ _ (if _=true then _ else _) _ _ s;rw[iFN R,zU]
 first
  |exact qac (qcw (qaq ⟨_,rfl,qaq h⟩) D)
  |exact qac _
  |exact qac _
  |exact qac _
end
end HT
namespace L2
open PySem PySem.Spec PyProof.Rows
abbrev TO:=St->Hp->(Option Int->Hp->Prop)->Prop
def PO (X:Cx) (e:Option Expr) (t:TO):Prop:=
 ∀ (a:List (Addr×Obj)) (s:qai) (b:St) (H:Hp) (Q:Option Int->Hp->Prop),Inv X a b H s->t b H Q->
  wpAny (model X.prog X.w) X.A (evalPart e X.env) (λu s'=>∃ o H',Inv X a b H' s'/\qgp u o/\Q o H') X.xe s
def Cj:TO:=λ_ H Q=>Q none H
def F9 (t:TE):TO:=λa H Q=>t a H λx H1=>∃ i,x=.int i/\Q (some i) H1
theorem dh {ns:List Int}:∀ {a:List Value},aL (ns.map V.int) a->qct a ns:=by
 induction ns with
 |nil=>intro a r;cases r;exact .nil
 |cons n ns c=>
  intro a r;cases r with
  |cons b d=>
   obtain⟨t,e⟩:=b;subst e;exact .cons n t (c d)
section
variable {X:Cx}{e:Expr}{te:TE}{lo hi:Option Expr}{tl F:TO}{pos B:Pos}
theorem BS:PO X none Cj:=by
 intro c s d H Q I h;exact qaq ⟨none,H,I,.none,h⟩
theorem BU (h:PE X e te):PO X (some e) (F9 te):=by
 intro c s d H Q I hw;refine thn (h c s d H _ I hw) λu s1 ⟨x,H1,I1,g,E⟩=>?_;obtain⟨i,rfl,q⟩:=E;obtain⟨t,rfl⟩:=g;exact⟨_,H1,I1,.int i t,q⟩
def SlR (X:Cx) (r:V->Option Int->Option Int->Hp->VK->Prop):Prop:=
 ∀ (c:List (Addr×Obj)) (s:qai) (d:St) (H:Hp) (x:V) (v n k:Value) (lo hi:Option Int) (O:Addr) (Q:VK),Inv X c d H s->aP x v->s.heap.IsSliceOf O n k .none->qgp n lo->qgp k hi->r x lo hi H Q->
  ∃ T id,typeLookup (.type T) "__getitem__" = pure (some (.builtin id))/\s.TypeIs v T/\wpAny (model X.prog X.w) X.A (qe8 v (.ref O)) (EP X c d Q) X.xe s
def tSl (r:V->Option Int->Option Int->Hp->VK->Prop) (te:TE) (tl F:TO):TE:=λd H Q=>te d H λx H1=>tl d H1 λl H2=>F d H2 λu H3=>r x l u H3 Q
theorem ux {r:V->Option Int->Option Int->Hp->VK->Prop} (hr:SlR X r) (he:PE X e te) (hl:PO X lo tl) (M:PO X hi F):PE X (.Subscript e (.Slice lo hi none B) pos) (tSl r te tl F):=by
 intro c s d H Q I h;refine qiR (thn (he c s d H _ I h) λv s1 ⟨x,H1,I1,g,E⟩=>?_);refine wpAny_Slice (thn (hl c s1 d H1 _ I1 E) λn s2 ⟨l,H2,I2,L,S⟩=>thn (M c s2 d H2 _ I2 S) λk W ⟨u,H3,I3,P,q3⟩=>?_);refine qaq ?_;obtain⟨T,id,hT,G,hg⟩:=hr c { W with heap:=W.heap.push { cls:=.type "slice",data:=.fields #[n,k,.none] } } d H3 x v n k l u W.heap.objs.size Q (I3.kept λb ob q=>qah _ q) g (qiB ..) L P q3
 exact tail_any G hT hg (by with_unfolding_all rfl)
def uY (xs:List V) (lo hi:Option Int):List V:=(xs.drop (HT.sIx xs.length 0 lo)).take (HT.sIx xs.length xs.length hi - HT.sIx xs.length 0 lo)
theorem lB (xs:List V) (lo hi:Option Int):(uY xs lo hi).length<=xs.length:=by
 unfold uY;rw[qdf,qer];lia
def GL (K:qae):V->Option Int->Option Int->Hp->VK->Prop:=λx lo hi H Q=>∃ a xs,x=.ref a/\SqT K H a xs/\
 ¬ (HT.sIx xs.length 0 lo=0/\HT.sIx xs.length xs.length hi=xs.length)/\∀ p,H p=none->Q (.ref p) (upd H p (.tup (uY xs lo hi)))
theorem Ep:SlR X (GL X.K):=by
 intro c s d H x v n k lo hi O Q I C hs L P h;obtain⟨a,xs,rfl,J,hw,q⟩:=h;cases C;obtain⟨j,r,G,D⟩:=I.tuple J;have f:j.toArray.size=xs.length:=by exact r.length.symm
 refine⟨"tuple",_,qbI.lookup,G.typeIs,?_⟩
 refine HT.getItem_tuple_cut G hs L P (by rw[f];exact hw) ?_ (by rw[f];exact D);rw[f];refine⟨.ref s.heap.objs.size,_,I.laid (λb ob q=>qah _ q) (qan _) ?_,U,q _ (I.hok.fresh (qan _))⟩;exact⟨qaS (lB xs lo hi) D,_,(r.drop _).take _,fL.new _ _⟩
def GJ (K:qae):R2:=λx y H Q=>∃ a b ns Y,x=.ref a/\y=.ref b/\SqT K H a (ns.map V.int)/\SqT K H b (Y.map V.int)/\Q (.bl (HT.lexLt ns Y)) H
theorem DU (M:X.A.units<cLine):OpR X (qbq .Lt) (GJ X.K):=by
 intro c s d H x y v u Q I C R h;obtain⟨a,b,ns,Y,rfl,rfl,N,hb,q⟩:=h;cases C;cases R;obtain⟨j,g,p1,_⟩:=I.tuple N;obtain⟨A,m,B,_⟩:=I.tuple hb;exact HT.lt_tupInts p1 B (dh g) (dh m) M ⟨.bl _,H,I,U,q⟩
def FP (K:qae):R2:=λx y H Q=>∃ a b xs o,x=.ref a/\y=.ref b/\SqT K H a xs/\SqT K H b o/\xs≠[]/\xs.length+o.length<=qaH/\
 (o=[]->Q (.ref a) H)/\(o≠[]->∀ p,H p=none->Q (.ref p) (upd H p (.tup (xs++o))))
theorem aL.nil_iff {xs:List V}{us:List Value} (r:aL xs us):us=[]↔xs=[]:=by
 cases r with
 |nil=>simp
 |cons _ _=>simp
theorem BG:OpR X (qbQ .Add) (FP X.K):=by
 intro c s d H x y v u Q I C R h;obtain⟨a,b,xs,o,rfl,rfl,N,hb,J,D,E,S⟩:=h;cases C;cases R;obtain⟨j,g,p1,_⟩:=I.tuple N;obtain⟨A,m,B,_⟩:=I.tuple hb;refine HT.cat_tup p1 B (λz=>J (g.nil_iff.mp z)) (λz=>⟨.ref a,H,I,U,E (m.nil_iff.mp z)⟩) (λz=>?_) (by rw[<-g.length,<-m.length];exact D);refine⟨.ref s.heap.objs.size,_,I.laid (λb ob q=>qah _ q) (qan _) ?_,U,S (λw=>z (m.nil_iff.mpr w)) _ (I.hok.fresh (qan _))⟩;exact⟨by rw[qax];exact D,_,g.append m,fL.new _ _⟩
end
def ixN (n:Nat) (i:Int):Option Nat:=if 0<=i then (if i<n then some i.toNat else none) else if -(n:Int)<=i then some (i+n).toNat else none
def atI {α:Type} (xs:List α) (i:Int):Option α:=(ixN xs.length i).bind λj=>xs[j]?
theorem q9 {n:Nat}{i:Int}{j:Nat} (h:ixN n i=some j):seqIndex? i n=some j/\j<n/\-(n:Int)<=i/\i<n:=by
 unfold ixN at h;by_cases b:0<=i
 ·rw[iFP b]at h
  by_cases a:i<n
  ·rw[iFP a]at h
   exact⟨by rw[qic b a,(qaL h)],by lia,by lia,a⟩
  ·rw[iFN a]at h;cases h
 ·rw[iFN b]at h
  by_cases a:-(n)<=i
  ·rw[iFP a]at h
   exact⟨by rw[qhQ (by lia) a,(qaL h)],by lia,a,by lia⟩
  ·rw[iFN a]at h;cases h
theorem pW {α:Type}{xs:List α}{i:Int}{v:α} (h:atI xs i=some v):∃ j,seqIndex? i xs.length=some j/\xs[j]?=some v/\j<xs.length/\-(xs.length:Int)<=i/\i<xs.length:=by
 unfold atI at h;cases e:ixN xs.length i with
 |none=>rw[e]at h;cases h
 |some j=>
  rw[e]at h;obtain⟨c,a,d,b⟩:=q9 e;exact⟨j,c,h,a,d,b⟩
theorem bZ {α:Type}{xs:List α}{j:Nat}{v:α} (h:xs[j]?=some v):atI xs (j:Int)=some v:=by
 have a:=(qar.mp h).1;have e:ixN xs.length (j)=some j:=by
  unfold ixN;rw[iFP (by lia),iFP (by lia)];simp
 unfold atI;rw[e];exact h
theorem sD {α:Type} (xs:List α) (v:α):atI (xs++[v]) (-1)=some v:=by
 have a:(xs++[v]).length=xs.length+1:=by simp
 have e:ixN (xs++[v]).length (-1)=some xs.length:=by
  unfold ixN;rw[iFN (by decide),iFP (by lia)]
  congr 1
  lia
 unfold atI;rw[e]
 simp
def vY (b:Expr):Prop:=∀ o i,qgG b false o i=operate [o,i] (qe8 o i)
def IxR (X:Cx) (r:R2):Prop:=
 ∀ (c a:Expr) (b:List (Addr×Obj)) (s:qai) (d:St) (H:Hp) (x y:V) (v u:Value) (Q:VK),Inv X b d H s->aP x v->aP y u->r x y H Q->
  qgG a false v u=operate [v,u] (qe8 v u)->wpAny (model X.prog X.w) X.A (subscriptTail c a v u) (EP X b d Q) X.xe s
def MtR (X:Cx) (id:String) (r:V->List V->Hp->VK->Prop):Prop:=
 ∀ (a:List (Addr×Obj)) (s:qai) (b:St) (H:Hp) (x:V) (xs:List V) (v:Value) (c:List Value) (Q:VK),Inv X a b H s->aP x v->aL xs c->r x xs H Q->
  wpAny (model X.prog X.w) X.A (call (.builtin id) (v::c)) (EP X a b Q) X.xe s
section
variable {X:Cx}{a b:Expr}{ta tb:TE}{pos:Pos}
theorem IxR.or {r r':R2} (h:IxR X r) (h':IxR X r'):IxR X (λx y H Q=>r x y H Q\/r' x y H Q):=by
 intro J L g s D H x y v u Q I m N q P;rcases q with q|q
 ·exact h J L g s D H x y v u Q I m N q P
 ·exact h' J L g s D H x y v u Q I m N q P
theorem CQ {r:R2} (hr:IxR X r) (ha:PE X a ta) (hb:PE X b tb) (P:vY b):PE X (.Subscript a b pos) (tOp r ta tb):=by
 intro g s D H Q I h;exact qiR (Df ha hb I h λv u s2 x y H2 I2 m N q=>hr a b g s2 D H2 x y v u Q I2 m N q (P _ _))
def FQ (K:qae):R2:=λx y H Q=>∃ p xs i v,x=.ref p/\y=.int i/\SqL K H p xs/\atI xs i=some v/\Q v H
def FT (K:qae):R2:=λx y H Q=>∃ p xs i v,x=.ref p/\y=.int i/\SqT K H p xs/\atI xs i=some v/\Q v H
def FR:R2:=λx y H Q=>∃ z i c,x=.str z/\y=.int i/\z.length<=qaH/\atI z.cps.toList i=some c/\Q (.str ⟨#[c]⟩) H
theorem Bo:IxR X (FQ X.K):=by
 intro J L g s D H x y v u Q I m N h P;obtain⟨p,xs,i,z,rfl,rfl,B,he,q⟩:=h;cases m;obtain⟨t,rfl⟩:=N;obtain⟨d,r,C,F⟩:=I.list B;obtain⟨j,O,h2,h3,h4,h5⟩:=pW he;obtain⟨w,ew,rw'⟩:=r.get h2;have hl:=r.length;have hn:=lb;have fin:EP X g D Q w s:=⟨z,H,I,rw',q⟩;by_cases h0:0<=i
 ·have hj:=by
   rw[qic h0 h5]at O;exact qaL O
  exact item_listR C.isList h0 (by lia) (by rw[hj];simpa using ew) fin P
 ·have hj:(i+(d.toArray.size)).toNat=j:=by
   rw[qhQ (by lia) h4]at O;rw[qaI,<-hl];exact qaL O
  exact qhz C.isList.typeIs qiM.lookup
   (wpAny_getItem_list_neg C.isList (by lia) (by rw[qaI]<;>lia) (by lia) (by rw[hj];simpa using ew) ⟨U,fin⟩) P
theorem DE:IxR X (FT X.K):=by
 intro J L g s D H x y v u Q I m N h P;obtain⟨p,xs,i,z,rfl,rfl,B,he,q⟩:=h;cases m;obtain⟨t,rfl⟩:=N;obtain⟨d,r,C,F⟩:=I.tuple B;obtain⟨j,O,h2,h3,h4,h5⟩:=pW he;obtain⟨w,ew,rw'⟩:=r.get h2;have hn:=lb;exact qhz C.typeIs slot_tuple_getitem.lookup
  (getItem_tuple C (by lia) (by lia) (by rw[qaI,<-r.length];exact O) (by simpa using ew) ⟨U,⟨z,H,I,rw',q⟩⟩) P
theorem DC:IxR X FR:=by
 intro J L g s D H x y v u Q I m N h P;obtain⟨z,i,c,rfl,rfl,F,he,q⟩:=h;obtain⟨t,rfl⟩:=m;obtain⟨t',rfl⟩:=N;obtain⟨j,O,h2,h3,h4,h5⟩:=pW he;have hl:z.cps.toList.length=z.length:=by simp[Str.length]
 rw[hl]at O h4 h5;have hn:=lb
 exact tail_any (typeIs_str s z t) slot_str_getitem.lookup (getItem_str (by
  rw[(decide_eq_false (by lia)),(decide_eq_false (by lia)),Bool.or_false]) (by rw[O];simpa using h2) ⟨.str _,H,I.tok _,⟨_,U⟩,q⟩) P
def rIx (K:qae):R2:=λx y H Q=>FQ K x y H Q\/FT K x y H Q\/FR x y H Q
theorem ve:IxR X (rIx X.K):=Bo.or (DE.or DC)
theorem vB (d:List Value) (n j:Nat) (u:Value):qcT (·.setIfInBounds j u) { cls:=.type "list",data:=.seq d.toArray n }={ cls:=.type "list",data:=.seq (d.set j u).toArray n }:=by
 simp[qcT]
theorem Inv.lst {g:List (Addr×Obj)}{D:St}{H:Hp}{s:qai}{p:Addr}{xs:List V} (I:Inv X g D H s) (h:H p=some (.lst xs)) :
  ∃ (d:List Value) (n:Nat),aL xs d/\s.heap.get? p=some { cls:=.type "list",data:=.seq d.toArray n }/\xs.length<=qaH:=by
 obtain⟨z,d,n,r,e⟩:=I.hok p _ h;exact⟨d,n,r,e,z⟩
theorem Inv.lstUpd {g:List (Addr×Obj)}{D:St}{H:Hp}{s:qai}{p:Addr}{xs G:List V}{d R:List Value}{n n':Nat}{f:Obj->Obj} (I:Inv X g D H s) (h:H p=some (.lst xs))
  (ho:s.heap.get? p=some { cls:=.type "list",data:=.seq d.toArray n }) (hf:f { cls:=.type "list",data:=.seq d.toArray n }={ cls:=.type "list",data:=.seq R.toArray n' }) (r:aL G R) (F:G.length<=qaH) (t:Nat) :
  Inv X g D (upd H p (.lst G)) { s with heap:=s.heap.update p f,toks:=t }:=by
 have e:(s.heap.update p f).get? p=some { cls:=.type "list",data:=.seq R.toArray n' }:=by
  rw[qc3 f ho (by rw[hf]<;>rfl),hf]
 refine I.write (by rw[h];trivial) (.inl U) (λb u hb q=>(qbn _ _ (qbz hb)).trans q) ⟨_,e⟩ ?_;exact⟨F,R,n',r,e⟩
def FV:V->V->V->Hp->(Hp->Prop)->Prop:=λo i v H Q=>∃ p xs k j,o=.ref p/\i=.int k/\H p=some (.lst xs)/\ixN xs.length k=some j/\Q (upd H p (.lst (xs.set j v)))
theorem oA:ER X FV:=by
 intro g s D H o i v ov iv u Q I ro ri rv h;obtain⟨p,xs,k,j,rfl,rfl,hp,hj,q⟩:=h;cases ro;obtain⟨t,rfl⟩:=ri;obtain⟨d,n,r,ho,F⟩:=I.lst hp;obtain⟨O,h2,h3,h4⟩:=q9 hj;have hl:=r.length;have hn:=lb;have I':=
  I.lstUpd hp ho (vB d n j u) (r.set rv j) (by rw[qcd];exact F) s.toks
 by_cases h0:0<=k
 ·have Y:=by
   rw[qic h0 h4]at O;exact qaL O
  exact PySem.W.ki_setAt ho h0 (by lia) (by rw[qaI,<-hl];exact h4) (by rw[Y];exact⟨_,I',q⟩)
 ·have Y:(k+(d.toArray.size)).toNat=j:=by
   rw[qhQ (by lia) h3]at O;rw[qaI,<-hl];exact qaL O
  exact PySem.W.ki_setBack ho (by lia) (by rw[qaI,<-hl];exact h3) (by lia) (by rw[Y];exact⟨_,I',q⟩)
theorem rZ (lo hi:Option Int) (n:Nat):(qd8 lo hi none n).1=((HT.sIx n 0 lo:Nat):Int)/\(qd8 lo hi none n).2.1=((HT.sIx n n hi:Nat):Int)/\(qd8 lo hi none n).2.2=1:=by
 refine⟨?_,?_,U⟩
 ·cases lo with
  |none=>simp[qd8,HT.sIx]
  |some i=>
   simp only[qd8,HT.sIx,qhv,show (1:Int) > 0 by decide,if_true];by_cases h:i<0
   ·simp only[h,if_true]<;>lia
   ·simp only[h,if_false]<;>lia
 ·cases hi with
  |none=>simp[qd8,HT.sIx]
  |some i=>
   simp only[qd8,HT.sIx,qhv,show (1:Int) > 0 by decide,if_true];by_cases h:i<0
   ·simp only[h,if_true]<;>lia
   ·simp only[h,if_false]<;>lia
theorem pd (d:List Value) (lo hi:Option Int):slicePick d.toArray lo hi none=((d.drop (HT.sIx d.length 0 lo)).take (HT.sIx d.length d.length hi - HT.sIx d.length 0 lo)).toArray:=by
 obtain⟨O,h2,h3⟩:=rZ lo hi d.toArray.size;unfold slicePick;rw[O,h2,h3];simp only[sliceRange_one,pick_run,qaI]<;>rfl
def GK (K:qae):V->Option Int->Option Int->Hp->VK->Prop:=λx lo hi H Q=>∃ a xs,x=.ref a/\SqL K H a xs/\∀ p,H p=none->Q (.ref p) (upd H p (.lst (uY xs lo hi)))
theorem Cc:SlR X (GK X.K):=by
 intro g s D H x v vl vu lo hi sl Q I m P C pu h;obtain⟨a,xs,rfl,hx,q⟩:=h;cases m;obtain⟨d,r,ht,F⟩:=I.list hx;have E:=r.length;refine⟨"list",_,qiM.lookup,ht.isList.typeIs,?_⟩
 refine wpAny_getItem_list_slice ht.isList P C pu .none (by simp) ?_ (by rw[qaI]<;>lia);rw[pd,<-E];refine⟨.ref s.heap.objs.size,_,I.laid (λb ob q=>qah _ q) (qan _) ?_,U,q _ (I.hok.fresh (qan _))⟩;exact⟨qaS (lB xs lo hi) F,_,0,(r.drop _).take _,qat _ U⟩
def fq:V->Bool
 |.non=>true
 |.bl _=>true
 |.int _=>true
 |.str _=>true
 |_=>false
def eqV:V->V->Bool
 |.non,.non=>true
 |.bl a,.bl b=>a==b
 |.bl a,.int b=>(if a then 1 else 0)==b
 |.int a,.bl b=>a==(if b then 1 else 0)
 |.int a,.int b=>a==b
 |.str a,.str b=>a==b
 |_,_=>false
theorem u5 {A:qaU}{s:qai}{y x:V}{u v:Value} (N:aP y u) (m:aP x v) (fy:fq y=true) (fx:fq x=true):qdw A s u v (eqV y x):=by
 cases y with
 |non=>
  cases N;cases x with
  |non=>cases m;exact qfh _
  |bl b=>cases m;exact qk8 b
  |int b=>obtain⟨t,rfl⟩:=m;exact qk7 b t
  |str b=>obtain⟨t,rfl⟩:=m;exact qk5 b t
  |_=>exact absurd (fx) qa5
 |bl a=>
  cases N;cases x with
  |non=>cases m;exact qlk a
  |bl b=>cases m;exact qln a b
  |int b=>obtain⟨t,rfl⟩:=m;exact qlm a b t
  |str b=>obtain⟨t,rfl⟩:=m;exact qlj a b t
  |_=>exact absurd (fx) qa5
 |int a=>
  obtain⟨t',rfl⟩:=N;cases x with
  |non=>cases m;exact qlf a t'
  |bl b=>cases m;exact qlh a t' b
  |int b=>obtain⟨t,rfl⟩:=m;exact qgu a t' b t
  |str b=>obtain⟨t,rfl⟩:=m;exact qgt a t' b t
  |_=>exact absurd (fx) qa5
 |str a=>
  obtain⟨t',rfl⟩:=N;cases x with
  |non=>cases m;exact qk1 a t'
  |bl b=>cases m;exact qk3 a t' b
  |int b=>obtain⟨t,rfl⟩:=m;exact qgs a t' b t
  |str b=>obtain⟨t,rfl⟩:=m;exact qk0 a t' b t
  |_=>exact absurd (fx) qa5
 |_=>exact absurd (fy) qa5
def eqU (x:V) (u:Value):Bool:=match u with
 |.none=>eqV .non x
 |.bool b=>eqV (.bl b) x
 |.int i _=>eqV (.int i) x
 |.str z _=>eqV (.str z) x
 |_=>false
theorem za {x y:V}{u:Value} (r:aP y u) (f:fq y=true):eqU x u=eqV y x:=by
 cases y with
 |non=>cases r;rfl
 |bl b=>cases r;rfl
 |int i=>obtain⟨t,rfl⟩:=r;rfl
 |str z=>obtain⟨t,rfl⟩:=r;rfl
 |_=>exact absurd (f) qa5
theorem jN {x:V}:∀ {xs:List V}{W:List Value},aL xs W->xs.all fq=true->W.any (eqU x)=xs.any λy=>eqV y x
 |_,_,.nil,_=>rfl
 |y::xs,u::W,.cons r t,f=>by
  rw[qbx,qaX]at f;rw[qcr,qcr,za r f.1,jN t f.2]
theorem iN {A:qaU}{s:qai}{x:V}{v:Value} (m:aP x v) (fx:fq x=true):∀ {xs:List V}{W:List Value},aL xs W->xs.all fq=true->∀ u∈W,qdw A s u v (eqU x u)
 |_,_,.nil,_=>λu hu=>by cases hu
 |y::xs,u::W,.cons r t,f=>λu' hu=>by
  rw[qbx,qaX]at f;rcases qay.mp hu with rfl|hu
  ·rw[za r f.1];exact u5 r m f.1 fx
  ·exact iN m fx t f.2 u' hu
def inV (x:V) (xs:List V):Bool:=xs.any λy=>eqV y x
def rIn (K:qae) (neg:Bool):R2:=λx y H Q=>∃ p xs,y=.ref p/\(SqL K H p xs\/SqT K H p xs)/\fq x=true/\xs.all fq=true/\Q (.bl (if neg then !inV x xs else inV x xs)) H
theorem yq:OpR X (qbq .In) (rIn X.K false):=by
 intro g s D H x y v u Q I m N h;obtain⟨p,xs,rfl,B,fx,fs,q⟩:=h;cases N;rcases B with B|B
 ·obtain⟨d,r,C,F⟩:=I.list B
  refine SeqAt.in_listAt _ C.isList (λw hw=>iN m fx r fs w (by simpa using hw)) ⟨.bl _,H,I,U,?_⟩;rw[show d.toArray.any _=d.any (eqU x) by simp,jN r fs];exact q
 ·obtain⟨d,r,C,F⟩:=I.tuple B
  refine SeqAt.in_tupleAt _ C (λw hw=>iN m fx r fs w (by simpa using hw)) ⟨.bl _,H,I,U,?_⟩;rw[show d.toArray.any _=d.any (eqU x) by simp,jN r fs];exact q
theorem rM:OpR X (qbq .NotIn) (rIn X.K true):=by
 intro g s D H x y v u Q I m N h;obtain⟨p,xs,rfl,B,fx,fs,q⟩:=h;cases N;rcases B with B|B
 ·obtain⟨d,r,C,F⟩:=I.list B
  refine qha _ C.isList (λw hw=>iN m fx r fs w (by simpa using hw)) ⟨.bl _,H,I,U,?_⟩;rw[show d.toArray.any _=d.any (eqU x) by simp,jN r fs];exact q
 ·obtain⟨d,r,C,F⟩:=I.tuple B
  refine qgW _ C (λw hw=>iN m fx r fs w (by simpa using hw)) ⟨.bl _,H,I,U,?_⟩;rw[show d.toArray.any _=d.any (eqU x) by simp,jN r fs];exact q
theorem qe:bN X (.builtin "len") (λxs H Q=>∃ p G,xs=[.ref p]/\(SqL X.K H p G\/SqT X.K H p G)/\Q (.int G.length) H):=by
 intro g s D H xs W Q I r h;obtain⟨p,G,rfl,B,q⟩:=h;obtain⟨u,rfl,m⟩:=g9 r;cases m;have hn:=lb;rcases B with B|B
 ·obtain⟨d,r',C,F⟩:=I.list B
  have E:=r'.length;exact Calls.call_len_list C.isList (by simp only[qaI]<;>lia) ⟨.int G.length,H,I.tok _,⟨_,by rw[qaI,E]⟩,q⟩
 ·obtain⟨d,r',C,F⟩:=I.tuple B
  have E:=r'.length;exact len_tuple C (by simp only[qaI]<;>lia) ⟨.int G.length,H,I.tok _,⟨_,by rw[qaI,E]⟩,q⟩
theorem qg:bN X (.builtin "len") (λxs H Q=>∃ z,xs=[.str z]/\z.length<=qaH/\Q (.int z.length) H):=by
 intro g s D H xs W Q I r h;obtain⟨z,rfl,F,q⟩:=h;obtain⟨u,rfl,t,rfl⟩:=g9 r;have hn:=lb;exact len_str (by lia) ⟨.int z.length,H,I.tok _,⟨_,U⟩,q⟩
theorem qh:bN X (.type "list") (λxs H Q=>∃ p G,xs=[.ref p]/\(SqL X.K H p G\/SqT X.K H p G)/\∀ l,H l=none->Q (.ref l) (upd H l (.lst G))):=by
 intro g s D H xs W Q I r h;obtain⟨p,G,rfl,B,q⟩:=h;obtain⟨u,rfl,m⟩:=g9 r;cases m;have fin:∀ (d:List Value),aL G d->G.length<=qaH->∀ (h':Heap) (c':Nat),_->
   h'.get? s.heap.objs.size=some { cls:=.type "list",dict:=none,data:=.seq d.toArray c',slots:=#[] }->EP X g D Q _ { s with heap:=h' }:=λd r' F h' c' kp e=>
  ⟨.ref s.heap.objs.size,_,I.laid kp (qan _) (show cA X.prog X.w _ h' _ (.lst G) from ⟨F,d,c',r',e⟩),U,q _ (I.hok.fresh (qan _))⟩
 rcases B with B|B
 ·obtain⟨d,r',C,F⟩:=I.list B
  have E:=r'.length;obtain⟨o,ho,hc,n,hd⟩:=C.isList;exact call_list_seq p (.inl U) ho hc hd (λh' c' kp e=>fin d r' F h' c' kp e) (by simp only[qaI]<;>lia)
 ·obtain⟨d,r',C,F⟩:=I.tuple B
  have E:=r'.length;obtain⟨o,ho,hc,n,hd⟩:=C;exact call_list_seq p (.inr U) ho hc hd (λh' c' kp e=>fin d r' F h' c' kp e) (by simp only[qaI]<;>lia)
theorem oT:bN X (.type "tuple") (λxs H Q=>∃ p G,xs=[.ref p]/\((SqL X.K H p G/\∀ l,H l=none->Q (.ref l) (upd H l (.tup G)))\/(SqT X.K H p G/\Q (.ref p) H))):=by
 intro g s D H xs W Q I r h;obtain⟨p,G,rfl,h⟩:=h;obtain⟨u,rfl,m⟩:=g9 r;cases m;rcases h with⟨B,q⟩|⟨B,q⟩
 ·obtain⟨d,r',C,F⟩:=I.list B
  have E:=r'.length;refine call_tuple_list C.isList (λh' kp=>?_) (by simp only[qaI]<;>lia);have I1:=I.kept (t':=s.toks) kp;exact⟨.ref h'.objs.size,_,(I1.laid (λb o e=>qah _ e) (qan _) (show cA X.prog X.w _ _ _ (.tup G) from ⟨F,d,r',fL.new _ _⟩)),U,q _ (I1.hok.fresh (qan _))⟩
 ·obtain⟨d,r',C,F⟩:=I.tuple B
  exact call_tuple_same C ⟨.ref p,H,I,U,q⟩
def tyV (K:qae) (T:String) (x:V) (H:Hp):Prop:=match x with
 |.str _=>T = "str"
 |.int _=>T = "int"
 |.ref p=>(T = "list"/\∃ xs,SqL K H p xs)\/(T = "tuple"/\((∃ o,K.lookup p=some o/\o.cls=.type "tuple"/\o.dict=none)\/∃ xs,SqT K H p xs))\/
   (T = "dict"/\((∃ kvs,H p=some (.dK kvs))\/∃ kvs,H p=some (.dT kvs)))\/(T = "set"/\∃ S n,H p=some (.set S n))
 |_=>False
theorem EF {g:List (Addr×Obj)}{D:St}{H:Hp}{s:qai}{T:String}{x:V}{v:Value} (I:Inv X g D H s) (r:aP x v) (ty:tyV X.K T x H) :
  s.TypeIs v T/\∀ a,v=.ref a->∃ ob,s.heap.get? a=some ob/\ob.dict=none:=by
 cases x with
 |str z=>
  obtain⟨t,rfl⟩:=r;cases (ty);exact⟨typeIs_str s z t,λ_ e=>nomatch e⟩
 |int i=>
  obtain⟨t,rfl⟩:=r;cases (ty);exact⟨qga s i t,λ_ e=>nomatch e⟩
 |ref p=>
  cases r;rcases ty with⟨rfl,xs,B⟩|⟨rfl,ht⟩|⟨rfl,Y⟩|⟨rfl,S,n,Y⟩
  ·obtain⟨d,_,C,_⟩:=I.list B
   refine⟨C.isList.typeIs,λa e=>?_⟩;cases e;obtain⟨o,n,e,c,hd,_⟩:=C;exact⟨o,e,hd⟩
  ·have z:∃ o:Obj,s.heap.get? p=some o/\o.cls=.type "tuple"/\o.dict=none:=by
    rcases ht with⟨o,Y,hc,hd⟩|⟨xs,B⟩
    ·exact⟨o,I.kIn p o Y,hc,hd⟩
    ·exact I.tuple1 B
   obtain⟨o,e1,hc,hd⟩:=z;refine⟨⟨o,e1,hc⟩,λa e=>?_⟩;cases e;exact⟨o,e1,hd⟩
  ·have z:∃ o,s.heap.get? p=some o/\o.ExactDict:=by
    rcases Y with⟨kvs,Y⟩|⟨kvs,Y⟩
    ·obtain⟨_,_,_,_,o,_,_,e,ex,_⟩:=I.hok p _ Y
     exact⟨o,e,ex⟩
    ·obtain⟨_,_,_,_,o,_,_,e,ex,_⟩:=I.hok p _ Y
     exact⟨o,e,ex⟩
   obtain⟨o,e,ex⟩:=z;refine⟨⟨o,e,ex.1⟩,λa e2=>?_⟩;cases e2;exact⟨o,e,ex.2.1⟩
  ·obtain⟨o,_,_,_,e,ex,_⟩:=I.hok p _ Y
   refine⟨⟨o,e,ex.1⟩,λa e2=>?_⟩;cases e2;exact⟨o,e,ex.2.1⟩
 |_=>exact qcH ty
def tBM (K:qae) (T:String) (r:V->List V->Hp->VK->Prop) (to:TE) (t:TA):TE:=λD H Q=>to D H λx H1=>tyV K T x H1/\t D H1 λxs H2=>r x xs H2 Q
variable {o e:Expr}{es:List Expr}{to:TE}{t:TA}{name:Str}{apos M:Pos}{T id:String}{r:V->List V->Hp->VK->Prop}
theorem CP (pa:PlainAttrs T) (slot:Slot T name id) (hty:typeOf (.builtin id)=pure (.type "method_descriptor")) (hm:MtR X id r) (ho:PE X o to) (ha:PA X (e::es) t)
  (hbase:qdD o name X.env (eval o X.env)=eval o X.env:=by rfl)
  (hfew:((qe9 M (qbF (e::es) X.env)).all (λx=>!x.1) && (qiu M (qgJ [] X.env)).all (λx=>x.1.isSome)
    && decide ((e::es).length+([]:List qik).length+(if ([]:List qik).isEmpty then 0 else 1)<30))=true:=by rfl)
  (hline:(apos.endLine==M.line)=true:=by rfl) (P:qbF (e::es) X.env=(false,eval e X.env)::qbF es X.env:=by rfl) (hplain:(qe9 M (qbF es X.env)).any (·.1)=false:=by rfl) :
  PE X (.Call (.Attribute o name apos) (e::es) [] M) (tBM X.K T r to t):=by
 intro g s D H Q I h;refine wpAny_Call_method_late hbase hfew hline U (thn (ho g s D H _ I h) λv s1 ⟨x,H1,I1,r1,ty,q1⟩=>?_);obtain⟨O,h2⟩:=EF I1 r1 ty;refine⟨T,id,pa,slot,hty,O,h2,?_⟩;have hA:=ha M g s1 D H1 _ I1 q1;rw[P]at hA ⊢;refine Calls.callWith_builtin (by show (false||(qe9 M _).any _)=false;rw[hplain]<;>rfl) (Calls.evalArgs_plain ?_);exact thn hA λW s2 ⟨vs,H2,I2,r2,q2⟩=>hm g s2 D H2 x vs v W Q I2 r1 r2 q2
end
def MtM (X:Cx) (id:String) (r:V->List V->Hp->VK->Prop):Prop:=
 ∀ (a:List (Addr×Obj)) (s:qai) (b:St) (H:Hp) (x:V) (xs:List V) (v:Value) (c:List Value) (Q:VK),Inv X a b H s->aP x v->aL xs c->r x xs H Q->
  wpAny (model X.prog X.w) X.A (call (.builtin id) (v::c)) (EP X a b Q) X.xe s
theorem aL.one {x:V}{a:List Value} (h:aL [x] a):∃ u,a=[u]/\aP x u:=by
 cases h with
 |cons r t=>cases t;exact⟨_,U,r⟩
theorem aL.two {x y:V}{a:List Value} (h:aL [x,y] a):∃ u v,a=[u,v]/\aP x u/\aP y v:=by
 cases h with
 |cons r t=>cases t with
  |cons q t2=>cases t2;exact⟨_,_,U,r,q⟩
theorem aL.rep {xs:List V}{a:List Value} (h:aL xs a):∀ k:Nat,aL (qaC k xs).flatten (qaC k a).flatten
 |0=>.nil
 |k+1=>by
  exact aL.append h (aL.rep h k)
theorem kT (a:List Value):∀ (k:Nat) (acc:List Value),
  qj9 (λb c=>b++c) acc.toArray (qaC k a.toArray)=(acc++(qaC k a).flatten).toArray
 |0,acc=>by simp
 |k+1,acc=>by
  have e:acc.toArray++a.toArray=(acc++a).toArray:=by simp
  have d:(acc++a)++(qaC k a).flatten=acc++(qaC (k+1) a).flatten:=by
   rw[qbv,qhI,qcK]
  rw[<-d,<-kT a k _,<-e,qbv,qh9]
section
variable {X:Cx}{c:List (Addr×Obj)}{g:St}{H:Hp}{s:qai}{l b:Addr}{xs i t:List V}
theorem Inv.lset {a d:List Value}{n:Nat}{f:Array Value->Array Value}{t':Nat} (I:Inv X c g H s) (k:H l=some (.lst xs))
  (e:s.heap.get? l=some { cls:=.type "list",data:=.seq a.toArray n }) (o:f a.toArray=d.toArray) (j:aL i d) (m:i.length<=qaH) :
  Inv X c g (upd H l (.lst i)) { s with heap:=s.heap.update l (qcT f),toks:=t' }:=by
 have q:=qfb e f;rw[o]at q;refine I.write (by rw[k];exact trivial) (.inl U) (λv u hb p=>(qbn s.heap _ (qbz hb)).trans p) ⟨_,q⟩ ?_;exact⟨m,d,_,j,q⟩
theorem Inv.lnew {a:List Value}{t':Nat} (I:Inv X c g H s) (j:aL i a) (m:i.length<=qaH) :
  Inv X c g (upd H s.heap.objs.size (.lst i)) { s with heap:=s.heap.push { cls:=.type "list",data:=.seq a.toArray },toks:=t' }:=
 I.laid (λ_ _ q=>qah _ q) (qan _) ⟨m,a,0,j,qat _ U⟩
theorem Inv.fresh (I:Inv X c g H s):H s.heap.objs.size=none:=I.hok.fresh (qan _)
theorem Inv.lstM (I:Inv X c g H s) (k:H l=some (.lst xs)):xs.length<=qaH/\∃ (a:List Value) (n:Nat),aL xs a/\xs.length=a.length/\s.heap.get? l=some { cls:=.type "list",data:=.seq a.toArray n }:=by
 obtain⟨z,a,n,r,e⟩:=I.hok l _ k;exact⟨z,a,n,r,r.length,e⟩
theorem zI {n:Nat} (h:n<=qaH):qfq n=false:=by
 exact decide_eq_false (by lia)
end
section
variable {X:Cx}
def B3:V->List V->Hp->VK->Prop:=λx b H Q=>∃ l xs y,x=.ref l/\b=[y]/\H l=some (.lst xs)/\xs.length<qaH/\Q .non (upd H l (.lst (xs++[y])))
theorem yo:MtM X "list.append" B3:=by
 intro d s o H x b v t Q I g f h;obtain⟨l,xs,y,rfl,rfl,c,p,q⟩:=h;cases g;obtain⟨u,rfl,j⟩:=f.one;obtain⟨z,a,n,r,m,e⟩:=I.lstM c;refine qdd qfB ⟨_,e,U⟩ qfo (qfd _ _) (qfk l a.toArray n u (by rw[qaI];lia)) ⟨e,?_⟩;refine⟨.non,_,I.lset c e (by simp) (r.append (.cons j .nil)) ?_,U,q⟩;rw[qax,qcc];lia
theorem rh {α:Type} (xs:List α) (k:Nat):(qaC k xs).flatten.length=k*xs.length:=by
 induction k with
 |zero=>simp
 |succ k i=>rw[qbv,qhI,qax,i,qjQ,qfI]
end
section
variable {prog:qaM}{w:World}{A:qaU}{E:Value->qai->Prop}{s:qai}
end
section
variable {X:Cx}
end
end L2
namespace Att
open PySem PySem.W PySem.Calls PyProof.Rows
theorem l5 {P:Params}{h:Heap}:∀ (ns:List Int) (c:List Value),WellAll P h c (ns.map WData.int)->qct c ns:=by
 intro ns
 induction ns with
 |nil=>
  intro c w;cases w;exact .nil
 |cons n ns d=>
  intro c w;cases w with
  |cons a b=>
   cases a;exact .cons _ _ (d _ b)
theorem yy {l:OpenLaw}{n:Nat} (hn:l.most=some n) {P:Params}{h:Heap}{args:List WData}{c:List Value}
  (b:l.row.toRowW.claim.pre args=true) (i:WellAll P h c args) :
  ∃ a j ns,c=[Value.ref a]/\args=[WData.list (ns.map WData.int)]/\h.get? a=some { cls:=.type "list",data:=.seq j.toArray }/\qct j ns/\ns.length<=n:=by
 obtain⟨d,r,rfl,s,m⟩:=hasAllW_cons ((pre_splitW b).1);obtain rfl:=hasAllW_nil m;obtain⟨xs,rfl,o⟩:=hasW_list s;obtain⟨ns,rfl⟩:=items_int o;have f:ns.length<=n:=by
  have g:=by
   have g:=(holds_andW ((pre_splitW b).2)).1;rw[hn]at g;exact g
  have k:=condW_of g (w_not (w_lt w_lit (w_len_list (w_arg U))))
  first
   |(exact absurd k _)
   |(simp at k;lia)
 cases i with
 |cons p w2=>
  cases w2;cases p with
  |list q e=>exact⟨_,_,ns,U,U,q,l5 ns _ e,f⟩
theorem yu (l:OpenLaw) (args:List WData):l.row.toRowW.claim.post args (.bool true) args=true:=
 postW_of
  (show qiP [] _ .bool=true by first|rfl|decide|simp[qiP,WShape.arms,WShape.armsAll])
  (w_eq_bool (w_res U) w_lit) U
theorem attach_call {l:OpenLaw}{n:Nat}{q:qaM}{c:List Str}{XP:(Str->Option Value)->Heap->Prop}{YP:World->Heap->Prop}{d:DefRec}
  (hn:l.most=some n) (u:d.params.defaults=[])
  (call:∀ (w:World) (s₀ b:qai) (mg v:Str->Option Value) (m:Addr) (o:Obj) (t p e:Value) (a:Addr) (h:List Value) (ns:List Int),
    Ground q c [] XP w s₀ mg v b.heap->YP w b.heap->
    b.heap.get? m=some o->o.data=.func (docDef d.name d.params d.body d.scope t p e)->b.heap.CodeRec p d.name->mg d.name=some (.ref m)->
    b.heap.get? a=some { cls:=.type "list",data:=.seq h.toArray }->qct h ns->ns.length<=n->b.gens=#[]->
    qea (model l.prog w) qht (.call (.ref m) ⟨[.ref a],[]⟩) (λr s'=>r=.ok (.ret (.bool true))/\OldK b.heap s'.heap/\s'.os=b.os/\qfD s'.gens) b) :
  WalkO q c XP YP l.row.toRowW d [] (λf h=>qhu f h):=by
 intro w s₀ b mg v G Y m o t p e K kV J hd y B x hg args z as j A H s F;obtain rfl:K=.none:=Dflts.none B u;obtain rfl:kV=.none:=Dflts.noKw B;obtain⟨a,h,ns,rfl,rfl,i,g,k⟩:=yy hn j s;refine enter_call (qgk (call w s₀ b mg v m o t p e a h ns G Y J (fd_plain hd) y x i g k hg) λr s' D=>?_);obtain⟨rfl,E,I,C⟩:=D;exact⟨.inl ⟨_,_,_,U,λ_=>rfl,.bool true,yu l _,λ_=>⟨List.Pairwise.nil,λ_ hm=>(nomatch hm)⟩⟩,E,I,C⟩
section
variable {prog:qaM}{w:World}{A:qaU}{E:Value->qai->Prop}{s:qai}{K:Frag}
end
end Att
namespace L2
open PySem PySem.Spec PyProof.Rows
theorem pP:∀ {a:List Value}{ns:List Int},qct a ns->aL (ns.map V.int) a
 |_,_,.nil=>.nil
 |_,_,.cons n t h=>.cons ⟨t,U⟩ (pP h)
def AS (H:Hp):Prop:=∀ b,H b=none\/∃ o xs,H b=some (.frz o (.lst xs))
theorem zw {P:qaM}{w:World}{K:qae}{mg I:Str->Option Value}{CX:CXT}{k:Nat}{M a:Addr}{fd:qca}{x:Str}{sp:Sp}{c:qai}{y:List Value}{ns:List Int}
  (KX:K.In c.heap) (hns:c.heap.Ns qcg mg) (hb:c.heap.Ns qg9 I) (E:∀ x:Str,x≠"__name__"->I x=qco x) (t:c.heap.NoLimit) (hg:c.gens=#[])
  (A:c.heap.get? a=some { cls:=.type "list",data:=.seq y.toArray }) (hi:qct y ns) (O:ns.length<=qaH) (X:bv k qht)
  (F:∀ base:Heap,K.In base->base.Ns qcg mg->dR P w K mg base CX k M fd [x] sp) (j:∀ (s:qai) (u:Value),qhy s fd ⟨[u],[]⟩ [(x,u)])
  (G:∀ H:Hp,AS H->SqL K H a (ns.map V.int)->sp [.ref a] H (λv _=>v=.bl true) λ_ _ _=>False)
  (L:∀ H e s',CX [] H c (λ_ _ _=>False) e s'->False) :
  qea (model P w) qht (.call (.ref M) ⟨[.ref a],[]⟩) (λr s'=>r=.ok (.ret (.bool true))/\OldK c.heap s'.heap/\s'.os=c.os/\qfD s'.gens) c:=by
 have R:=pP hi;have i:∀ H ,AS H->SqL K H a (ns.map V.int)->HOk P w H c.heap->(∀ b,H b≠none->b=a)->(H a≠none->K.lookup a=none)->
   qea (model P w) qht (.call (.ref M) ⟨[.ref a],[]⟩) (λr s'=>r=.ok (.ret (.bool true))/\OldK c.heap s'.heap/\s'.os=c.os/\qfD s'.gens) c:=by
  intro H N S hok hA W;have f:∀ {b:Addr}{o:Obj},c.heap.get? b=some o->H b=none->(x4 c.heap H).get? b=some o:=λe n=>zi e n;have C:∀ {b:Addr}{o:Obj}{es:Array qee}{B:Nat},c.heap.get? b=some o->o.data=.dict es B->H b=none:=λ{b o es B} e d=>by
   cases q:H b with
   |none=>rfl
   |some u=>
    have D:=hA b (by rw[q];simp);subst D;rw[A]at e;cases e;cases d
  have g:∀ {b:Addr}{m:Str->Option Value},c.heap.Ns b m->(x4 c.heap H).Ns b m:=λ{b m} ⟨o,es,B,e,d,r⟩=>⟨o,es,B,f e (C e d),d,r⟩
  have p:=λb o e=>f (KX b o e) (by
   cases q:H b with
   |none=>rfl
   |some u=>
    have D:=hA b (by rw[q];simp);subst D
    rw[W (by rw[q];simp)]at e;cases e)
  refine qgk ((F _ p (g hns)).run qht [] c H ⟨[.ref a],[]⟩ [.ref a] [.ref a] _ _ X ⟨U,⟨p,g hns,⟨I,g hb,E⟩,let ⟨mc,h1,h2⟩:=t;⟨mc,g h1,h2⟩⟩,λb o e=>BC e,qdI (x6 _ _),trivial,λb hb=>absurd (show b∈([]) from hb) (by simp),hok,.of_eq hg⟩ (j c _) (.cons U .nil) (G H N S)) λr s' h=>?_;cases r with
  |error e=>exact (L H e s' h).elim
  |ok fl=>
   cases fl with
   |next=>exact qcH h
   |brk=>exact qcH h
   |cont=>exact qcH h
   |ret u=>
    obtain⟨v,H',os,bare,un,l,r',q⟩:=h;subst q;obtain rfl:u=Value.bool true:=r';refine⟨U,OldK.of_keep λb o e=>?_,os,bare⟩;cases q:H b with
    |none=>exact un.keep b o e q (by intro z;exact absurd (show b∈([]) from z) (by simp)) (by simp)
    |some u=>
     rcases N b with z|⟨ob,xs,z⟩
     ·rw[q]at z;cases z
     ·obtain⟨Q,_⟩:=hok b _ z
      obtain⟨T,_⟩:=l b _ (un.frzs b ob _ z);rw[e]at Q;cases Q;exact T
 cases hk:K.lookup a with
 |some o=>
  -- the script is one of the module's own objects
  have e:=KX a o hk;rw[A]at e;cases e;refine i _ (λ_=>.inl U) (.inr ⟨_,y.toArray,_,hk,U,U,U,by rw[qaI,hi.length];exact O,by simpa using R⟩) (λb u z=>by cases z) (λb z=>absurd U z) λz=>absurd U z
 |none=>
  refine i (λb=>if b=a then some _ else none) (λb=>?_) (.inl (.inr ⟨{ cls:=.type "list",data:=.seq y.toArray },iFP U⟩)) (λb u z=>?_) (λb z=>?_) λ_=>hk
  ·by_cases hb:b=a
   ·exact .inr ⟨_,_,iFP hb⟩
   ·exact .inl (iFN hb)
  ·by_cases hb:b=a
   ·have J:=(iFP hb).symm.trans z
    cases J;subst hb;exact⟨A,by rw[qaf];exact O,y,_,R,A⟩
   ·have J:=(iFN hb).symm.trans z
    cases J
  ·by_cases hb:b=a
   ·exact hb
   ·exact absurd (iFN hb) z
theorem walk_of {l:qfy}{n k:Nat}{q:qaM}{c:List Str}{XP:(Str->Option Value)->Heap->Prop}{YP:World->Heap->Prop}{d:DefRec}{K:Params->qae}{CX:World->CXT}{sp:World->Sp}{x:Str}
  (hn:l.most=some n) (p:n<=qaH) (t:d.params.defaults=[]) (J:bv k qht)
  (I:∀ (w:World) (h:Heap),YP w h->(K w.params).In h)
  (F:∀ (w:World) (mg:Str->Option Value) (m:Addr) (h:Heap),(K w.params).In h->h.Ns qcg mg->mg d.name=some (.ref m)->
    ∃ fd:qca,(∀ (s:qai) (u:Value),qhy s fd ⟨[u],[]⟩ [(x,u)])/\
     ∀ base:Heap,(K w.params).In base->base.Ns qcg mg->dR l.prog w (K w.params) mg base (CX w) k m fd [x] (sp w))
  (r:∀ (w:World) (H:Hp) (a:Addr) (ns:List Int),ns.length<=n->AS H->SqL (K w.params) H a (ns.map V.int)->sp w [.ref a] H (λv _=>v=.bl true) λ_ _ _=>False)
  (y:∀ (w:World) (H:Hp) (s:qai) (e:Value) (s':qai),CX w [] H s (λ_ _ _=>False) e s'->False) :
  qhT q c XP YP l.row.toRowW d [] (λf A=>qhu f A):=by
 refine Att.attach_call hn t λw s₀ j mg O m o N M B a A ns G Y P hd L z i g b hg=>?_;have KX:=I w _ Y;obtain⟨fd,hb,E⟩:=F w mg m _ KX G.T.g z;exact zw KX G.T.g G.T.b G.T.builtins G.T.nolimit hg i g (qaS b p) J E hb (λH D C=>r w H a ns b D C) λH e s'=>y w H j e s'
def me (s:Stmt):Arguments:=match s with
 |.FunctionDef _ a _ _ _ _ _ _ _ _=>a
 |_=>{ posonlyargs:=[],args:=[],vararg:=none,kwonlyargs:=[],kw_defaults:=[],kwarg:=none,defaults:=[] }
def bf (s:Stmt):List Stmt:=match s with
 |.FunctionDef _ _ b _ _ _ _ _ _ _=>b
 |_=>[]
def av (s:Stmt):Scope:=match s with
 |.FunctionDef _ _ _ _ _ _ a _ _ _=>a
 |_=>{ kind:=.function,names:=[],isGenerator:=false,isCoroutine:=false }
abbrev CX0:CXT:=λ_ _ _ _ _ _=>False
abbrev E0:XK:=λ_ _ _=>False
theorem zO {X:Cx}:mP CX0 X E0:=λ_ _ _ _ _ _ _ h=>h.elim
structure Fun (K:qae) (x qual:Str) (st:Stmt) (f:Addr) (fd:qca):Prop where
 ex:∃ (oc:Value) (od:Option Addr) (kV doc pm:Value) (an:Option Addr) (cdv ct:Value) (osl:Array (Option Value)),
  fd=qdQ x qual (me st) (bf st) (av st) .none kV doc pm an cdv ct/\K.lookup f=some ⟨oc,od,.func fd,osl⟩/\qfW K cdv qual=true
 kp:qcO K (.ref f)=true
section
variable {P:qaM}{w:World}{K:qae}{mg:Str->Option Value}{base:Heap}
theorem Fun.ok {x a:Str}{st:Stmt}{f:Addr}{fd:qca}{N ps:List Str}{k:Nat}{sp:Sp} (F:Fun K x a st f fd) (S:cD N ps (av st)) (len:∀ j H Q E,sp j H Q E->j.length=ps.length)
  (m:∀ (b:Value) (A:qaU) (outer:List Env) (s:qai) (H:Hp) (j:List V) (Q:VK) (E:XK),bv k (A.deeper (qez a (av st) s.heap.objs.size f b))->sp j H Q E->
    ∃ t,PSs (fV CX0 P w K mg base N a (av st) f b A outer s H E).nox (bf st) t/\t { nx:=λ_ H'=>Q .non H',rt:=Q } (gx N j) H):dR P w K mg base CX0 (k+1) f fd ps sp:=by
 obtain⟨o,p,kV,d,i,g,b,ct,e,rfl,v,n⟩:=F.ex;refine E4 v n S len λA outer s H j Q E y r=>?_;obtain⟨t,h,q⟩:=m b A outer s H j Q E y r;exact⟨t,h.nox,q⟩
theorem Fun.binds {x a:Str}{st:Stmt}{f:Addr}{fd:qca}{ps:List Str} (F:Fun K x a st f fd)
  (h:∀ (kV d i:Value) (g:Option Addr) (b ct:Value) (u:List Value),u.length=ps.length->bindArgs (qdQ x a (me st) (bf st) (av st) .none kV d i g b ct) ⟨u,[]⟩=pure (ps.zip u)):dn K fd ps []:=by
 obtain⟨o,p,kV,d,i,g,b,ct,e,rfl,v,n⟩:=F.ex;exact .all (h kV d i g b ct)
theorem fun_mk {x a:Str}{st:Stmt}{f:Addr}{o:Value}{p g:Option Addr}{e:Array (Option Value)}{kV d i b ct:Value} (l:K.lookup f=some ⟨o,p,.func (qdQ x a (me st) (bf st) (av st) .none kV d i g b ct),e⟩)
  (c:qfW K b a=true) (k:qcO K (.ref f)=true):Fun K x a st f (qdQ x a (me st) (bf st) (av st) .none kV d i g b ct):=⟨⟨o,p,kV,d,i,g,b,ct,e,U,l,c⟩,k⟩
end
theorem CF {A:qaU}{k:Nat} (a:bv k A):A.units+1<cLine:=qaZ (Nat.add_le_add_left (by decide) _) a.units
theorem yC {n:Nat} (h:n<=1000):n<qaH:=qaZ h (by decide)
section
variable {X:Cx}
end
theorem Dy {A B:Prop} (h:B):if false=true then A else B:=by
 exact h
theorem Dz {A B:Prop} (h:A):if true=true then A else B:=by
 exact h
def aS (H H':Hp):Prop:=∀ b o,H b=some o->H' b=some o
theorem aS.refl (H:Hp):aS H H:=λ_ _ h=>h
theorem aS.trans {H H1 H2:Hp} (a:aS H H1) (b:aS H1 H2):aS H H2:=λc o h=>b c o (a c o h)
def cG (a:List (Str×Addr)):List (Str×qb6)->List (Str×Addr)->List (Str×Addr)
 |[],acc=>acc
 |(n,k)::r,acc=>if k==.free then cG a r ((n,(a.lookup n).getD 0)::acc) else cG a r acc
theorem jA {env:Env} (f:Str×qb6->List (Str×Addr)->Sem (ForInStep (List (Str×Addr))))
  (d:∀ n k e,f (n,k) e=if k==.free then (do let c <-cellOf env n;pure (.yield ((n,c)::e))) else pure (.yield e)) :
  ∀ (names:List (Str×qb6)) (acc:List (Str×Addr)),(∀ x∈names,x.2=.free->∃ c,env.cells.lookup x.1=some c)->
   forIn names acc f=pure (cG env.cells names acc)
 |[],acc,_=>by rfl
 |(n,k)::r,acc,h=>by
  rw[qf6,d];unfold cG;by_cases a:(k==.free)=true
  ·obtain⟨c,i⟩:=h (n,k) qag (beq_iff_eq.mp a)
   have b:=i;rw[iFP a,iFP a]
   have:cellOf env n=pure c:=by unfold cellOf;rw[b]
   rw[this,b];exact jA f d r _ λx g=>h x (qaj _ g)
  ·rw[iFN a,iFN a]
   exact jA f d r _ λx g=>h x (qaj _ g)
theorem jq {a:Scope}{env:Env} (h:∀ x∈a.names,x.2=.free->∃ c,env.cells.lookup x.1=some c) :
  closureFor a env=pure (cG env.cells a.names []):=by
 simp only[closureFor];rw[jA _ (λn k b=>by cases hk:k==NameKind.free<;>simp[hk]) a.names [] h]
 simp
theorem fN {a:List (Str×Addr)}:∀ (names:List (Str×qb6)) (acc:List (Str×Addr)) {x:Str}{c:Addr},(cG a names acc).lookup x=some c->
  acc.lookup x=some c\/((x,NameKind.free)∈names/\c=(a.lookup x).getD 0)
 |[],_,_,_,h=>.inl h
 |(n,k)::r,acc,x,c,h=>by
  unfold cG at h;by_cases f:(k==.free)=true
  ·rw[iFP f]at h
   rcases fN r _ h with q|⟨d,b⟩
   ·rw[qbB]at q
    cases hx:x==n with
    |true=>
     rw[hx]at q;have e:=beq_iff_eq.mp hx;subst e;exact .inr ⟨by rw[<-beq_iff_eq.mp f];exact qag,(qaL q).symm⟩
    |false=>rw[hx]at q;exact .inl q
   ·exact .inr ⟨qaj _ d,b⟩
  ·rw[iFN f]at h
   rcases fN r _ h with q|⟨d,b⟩
   ·exact .inl q
   ·exact .inr ⟨qaj _ d,b⟩
theorem e8 {a:List (Str×Addr)}{x:Str}:∀ (names:List (Str×qb6)) (acc:List (Str×Addr)),((x,NameKind.free)∈names\/(acc.lookup x).isSome=true)->((cG a names acc).lookup x).isSome=true
 |[],_,h=>h.elim (λz=>nomatch z) id
 |(n,k)::r,acc,h=>by
  unfold cG;by_cases b:(k==.free)=true
  ·rw[iFP b]
   refine e8 r _ ?_;rcases h with h|h
   ·rcases qay.mp h with e|h
    ·cases e
     exact .inr (by rw[qbB,beq_self_eq_true];rfl)
    ·exact .inl h
   ·refine .inr ?_
    rw[qbB];cases x==n
    ·exact h
    ·rfl
  ·rw[iFN b]
   refine e8 r _ ?_;rcases h with h|h
   ·rcases qay.mp h with e|h
    ·cases e;exact absurd U b
    ·exact .inl h
   ·exact .inr h
theorem de:∀ (names:List (Str×qb6)) (n:Nat) (acc:List (Str×Addr)) {x:Str}{c:Addr},(qcE n names acc).lookup x=some c->acc.lookup x=some c\/((x,NameKind.cell)∈names/\n<=c)
 |[],_,_,_,_,h=>.inl h
 |(m,k)::r,n,acc,x,c,h=>by
  unfold qcE at h;by_cases d:(k==.cell)=true
  ·rw[iFP d]at h
   rcases de r _ _ h with q|⟨b,a⟩
   ·rw[qbB]at q
    cases hx:x==m with
    |true=>
     rw[hx]at q;have e:=beq_iff_eq.mp hx;subst e;exact .inr ⟨by rw[<-beq_iff_eq.mp d];exact qag,by rw[qaL q];exact qan _⟩
    |false=>rw[hx]at q;exact .inl q
   ·exact .inr ⟨qaj _ b,Nat.le_of_succ_le a⟩
  ·rw[iFN d]at h
   rcases de r _ _ h with q|⟨b,a⟩
   ·exact .inl q
   ·exact .inr ⟨qaj _ b,a⟩
theorem oU:∀ (names:List (Str×qb6)) (n:Nat) (acc:List (Str×Addr)),(∀ p∈acc,p.2<n)->∀ {x y:Str}{c:Addr},(qcE n names acc).lookup x=some c->(qcE n names acc).lookup y=some c->n<=c->x=y:=by
 have g:∀ (names:List _) (n:Nat) (acc:List _) (lo:Nat),lo<=n->(∀ p∈acc,p.2<n)->(∀ p∈acc,∀ q∈acc,lo<=p.2->p.2=q.2->p.1=q.1)->
   ∀ p∈qcE n names acc,∀ q∈qcE n names acc,lo<=p.2->p.2=q.2->p.1=q.1:=by
  intro names
  induction names with
  |nil=>intro n acc lo _ _ h;exact h
  |cons z r o=>
   intro n acc lo d a h;obtain⟨m,k⟩:=z;unfold qcE;by_cases j:(k==.cell)=true
   ·rw[iFP j]
    refine o _ _ lo (Nat.le_succ_of_le d) (λp b=>?_) (λp b q f l e=>?_)
    ·rcases qay.mp b with e|b
     ·rw[e];exact qb5 _
     ·exact qa1 (a p b)
    ·rcases qay.mp b with s|b<;>rcases qay.mp f with i|f
     ·rw[s,i]
     ·rw[s]at e;exact absurd (a q f) (by rw[<-e];exact qa2 _)
     ·rw[i]at e;exact absurd (a p b) (by rw[e];exact qa2 _)
     ·exact h p b q f l e
   ·rw[iFN j]
    exact o _ _ lo d a h
 intro names n acc a x y c v t u;exact g names n acc n (qan _) a (λp b q f l _=>absurd (a p b) (qhX.mpr l)) _ (qbt v) _ (qbt t) u U
theorem dJ:∀ (names:List (Str×qb6)) (h:Heap) (acc:List (Str×Addr)),(∀ p∈acc,∃ v,h.IsCell p.2 v)->∀ p∈qcE h.objs.size names acc,∃ v,(qe6 h names).IsCell p.2 v
 |[],_,_,h=>h
 |(m,k)::r,h,acc,d=>by
  unfold qcE qe6;by_cases a:(k==.cell)=true
  ·rw[iFP a,iFP a]
   have:=dJ r (h.push { cls:=.type "cell",data:=.cell none }) ((m,h.objs.size)::acc) (λp c=>by
    rcases qay.mp c with e|c
    ·rw[e];exact⟨none,_,qat _ U,U⟩
    ·obtain⟨v,z⟩:=d p c
     exact⟨v,z.keeps λb o e=>qah _ e⟩)
   rwa [qbp]at this
  ·rw[iFN a,iFN a]
   exact dJ r h acc d
theorem d6 {names:List (Str×qb6)} (nd:(names.map (·.1)).Nodup):∀ {x:Str}{k:qb6},(x,k)∈names->names.lookup x=some k:=by
 induction names with
 |nil=>intro x k h;cases h
 |cons z r a=>
  intro x k h;obtain⟨m,b⟩:=z;rw[qas,qcu]at nd;rw[qbB];rcases qay.mp h with e|h
  ·cases e;rw[beq_self_eq_true]
  ·have:(x==m)=false:=beq_eq_false_iff_ne.mpr λe=>nd.1 (e ▸ qaz.mpr ⟨(x,k),by assumption,U⟩)
   rw[this];exact a nd.2 h
theorem db {env:Env}:∀ {names:List (Str×qb6)}{x:Str}{k:qb6},
  (names.map λ(n,k)=>if (k==NameKind.free&&env.scope.kind==.function&&env.kindOf n==some .cell) then (n,NameKind.cell) else (n,k)).lookup x=some k->
  ∃ a,names.lookup x=some a/\(k=a\/(a=.free/\k=.cell))
 |[],_,_,h=>by cases h
 |(n,a)::r,x,k,h=>by
  rw[qas]at h;dsimp only at h;rw[qbB];by_cases b:(a==NameKind.free&&env.scope.kind==.function&&env.kindOf n==some .cell)=true
  ·rw[iFP b,qbB]at h
   cases hx:x==n with
   |true=>
    rw[hx]at h;refine⟨a,U,.inr ⟨?_,(qaL h).symm⟩⟩;simp only[qaX]at b;exact beq_iff_eq.mp b.1.1
   |false=>rw[hx]at h;exact db h
  ·rw[iFN b,qbB]at h
   cases hx:x==n with
   |true=>rw[hx]at h;exact⟨a,U,.inl (qaL h).symm⟩
   |false=>rw[hx]at h;exact db h
theorem gM {env:Env}:∀ {names:List (Str×qb6)}{x:Str},names.lookup x=some .free->
  (names.map λ(n,k)=>if (k==NameKind.free&&env.scope.kind==.function&&env.kindOf n==some .cell) then (n,NameKind.cell) else (n,k)).lookup x=some .free\/
  (names.map λ(n,k)=>if (k==NameKind.free&&env.scope.kind==.function&&env.kindOf n==some .cell) then (n,NameKind.cell) else (n,k)).lookup x=some .cell
 |[],_,h=>by cases h
 |(n,b)::r,x,h=>by
  rw[qas];dsimp only;rw[qbB]at h;by_cases a:(b==NameKind.free&&env.scope.kind==.function&&env.kindOf n==some .cell)=true
  ·rw[iFP a,qbB]
   cases hx:x==n with
   |true=>exact .inr U
   |false=>rw[hx]at h;exact gM h
  ·rw[iFN a,qbB]
   cases hx:x==n with
   |true=>rw[hx]at h;exact .inl h
   |false=>rw[hx]at h;exact gM h
theorem ku {M:Model}{A:qaU}{E:Value->qai->Prop}{s:qai}{a:Scope}{env:Env}{c:List (Str×Addr)}{Q:Env->qai->Prop}
  (d:Q (newEnv a s.heap.objs.size env.globals (qcE (s.heap.objs.size+1) a.names c) env.qual none .none (some env) qg9)
    { s with heap:=qe6 (s.heap.push { cls:=.type "dict",data:=.dict #[] }) a.names }) :
  wpAny M A (newFunctionEnv a env.globals c [] env.qual none .none (some env)) Q E s:=by
 refine qac (wpAny_alloc ?_);refine qac (wpAny_layCells _ (λname kind b=>by cases hkc:kind==NameKind.cell<;>simp[hkc]) _ _ _ _ ?_);rw[qbp ..];refine qac ?_;exact qaq (qaq d)
theorem dq {prog:qaM}{w:World}{A:qaU}{R:qix->qai->Prop}{s:qai}{u a iter:Expr}{y:List Expr}{l:Scope}{pos:Pos}{z acc:Value}{env:Env} (I:Nat->qai->Prop)
  (turn:∀ n s,I n s->wpAny (model prog w) A (qg8 z) (λr d=>match r with
    |none=>R (.ok .next) d
    | some v=>wpAny (model prog w) A (qgI a z v) (λ_ e=>wpAny (model prog w) A (qgl a env v) (λ_ k=>
      wpAny (model prog w) A (forIn y true λc r=>if r=true then do let ok <-qj0 c env (eval c env);pure (ForInStep.yield ok) else pure (ForInStep.yield r)) (λok b=>
       if ok=true then wpAny (model prog w) A (eval u env) (λx g=>
        wpAny (model prog w) A (call (.builtin "list.append") [acc,x]) (λ_ f=>∃ m,m<n/\I m f) (λ_ _=>False) g) (λ_ _=>False) b
       else ∃ m,m<n/\I m b) (λ_ _=>False) k) (λ_ _=>False) e) (λ_ _=>False) d) (λ_ _=>False) s)
  (n:Nat) (h:I n s) :
  qea (model prog w) A (.compLoop (.ListComp u [⟨a,iter,y,0⟩] l pos) 0 z acc env) R s:=by
 refine codeAny_loop U I (λn s B=>?_) n h;refine wpAny_noted ?_;rw[compTurn_list];refine qac (qeI (qac (qcA (turn n s B) (λr d j=>?_) λ_ _ h'=>h'.elim)));cases r with
 |none=>exact qaq j
 |some v=>
  refine qac (qcA j (λ_ e o=>?_) λ_ _ h'=>h'.elim);refine qac (qcA o (λ_ k t=>qac (qcA t (λok b i=>?_) λ_ _ h'=>h'.elim)) λ_ _ h'=>h'.elim);cases ok with
  |false=>exact qaq ⟨U,i⟩
  |true=>
   exact qac (qac (qcA i (λx g p=>qac (qcA p (λ_ f q=>qaq (qaq ⟨U,q⟩)) λ_ _ h'=>h'.elim)) λ_ _ h'=>h'.elim))
def lcX (X:Cx) (a:Scope) (b:List (Str×Addr)) (Nc:List Str) (s:qai) (H:Hp) (C:Addr) (c:List Addr):Cx where
 prog:=X.prog
 w:=X.w
 K:=X.K
 mg:=X.mg
 base:=X.base
 A:=X.A
 N:=Nc
 s₀:=s
 H₀:=H
 env:=qhs a b C X.env
 outer:=X.stack
 stack:=X.stack
 ex:=c
 fn:=λx=>a.names.lookup x==some .cell
 calm:=X.calm
 pn:=[]
 xe:=λ_ _=>False
structure dS (X:Cx) (scope:Scope) (Nc:List Str) (emb:St->St):Prop where
 kind:scope.kind=.function
 nd:(scope.names.map (·.1)).Nodup
 nN:Nc.Nodup
 free:∀ x∈scope.names,x.2=.free->X.env.kindOf x.1=some .cell\/X.env.kindOf x.1=some .free
 len:∀ σ:St,σ.length=X.N.length->(emb σ).length=Nc.length
 emb:∀ σ:St,σ.length=X.N.length->∀ (i:Nat) (x:Str) (v:V),Nc[i]?=some x->(emb σ)[i]?=some (some v)->∃ j:Nat,X.N[j]?=some x/\σ[j]?=some (some v)/\scope.names.lookup x=some .free
section
variable {X:Cx}{C:List (Addr×Obj)}{W:St}{H:Hp}{s:qai}{a:Scope}{Nc:List Str}{emb:St->St}
theorem dS.clos (S:dS X a Nc emb) (ok:X.Ok):∀ x∈a.names,x.2=.free->∃ c,X.env.cells.lookup x.1=some c:=λx t h=>ok.has x.1 (S.free x t h)
theorem ua (S:dS X a Nc emb) (I:Inv X C W H s) {V:List Addr} (R:∀ b∈V,ji X C H b) (hfo:∀ b∈V,∃ o,s.heap.get? b=some o) {lo:Obj} (hlo:∀ v,lo.data≠.cell v) (Y:lo.isFreed=false) :
  Inv (lcX X a (qcE (s.heap.objs.size+2) a.names (cG X.env.cells a.names [])) Nc s H (s.heap.objs.size+1) V) [(s.heap.objs.size,lo)] (emb W) H
   { s with heap:=qe6 ((s.heap.push lo).push { cls:=.type "dict",data:=.dict #[] }) a.names }:=by
 have P:((s.heap.push lo).push { cls:=.type "dict",data:=.dict #[] }).objs.size=s.heap.objs.size+2:=by rw[qbp,qbp]
 have M:(s.heap.push lo).objs.size=s.heap.objs.size+1:=by rw[qbp]
 have G:∀ b o,s.heap.get? b=some o->(qe6 ((s.heap.push lo).push { cls:=.type "dict",data:=.dict #[] }) a.names).get? b=some o:=λb o e=>
  qc9 _ _ b o (qah _ (qah _ e))
 have has:=S.clos I.ok;have B:∀ {x:Str}{c:Addr},(cG X.env.cells a.names []).lookup x=some c->X.env.cells.lookup x=some c/\(x,NameKind.free)∈a.names:=λ{x c} h=>by
  rcases fN _ _ h with q|⟨K,L⟩
  ·cases q
  ·obtain⟨c',A⟩:=has _ K U
   have D:=A;rw[D]at L;exact⟨by rw[D,L];rfl,K⟩
 have d:∀ {x:Str}{c:Addr},(qcE (s.heap.objs.size+2) a.names _).lookup x=some c->
   _\/_:=λ{x c} h=>by
  rcases de _ _ _ h with q|q
  ·exact .inl (B q)
  ·exact .inr q
 have l:∀ {x:Str}{c:Addr},X.env.cells.lookup x=some c->c<s.heap.objs.size:=λ{x c} h=>by
  obtain⟨v,z⟩:=I.cell x c h;exact z.lt
 have F:∀ b∈V,b<s.heap.objs.size:=λb hb=>by obtain⟨o,e⟩:=hfo b hb;exact qau e
 have f:∀ p∈cG X.env.cells a.names [],∃ x,X.env.cells.lookup x=some p.2:=by
  have key:∀ (names:List _) (acc:List _),(∀ x∈names,x.2=.free->∃ c,X.env.cells.lookup x.1=some c)->(∀ p∈acc,∃ x,X.env.cells.lookup x=some p.2)->∀ p∈cG X.env.cells names acc,∃ x,X.env.cells.lookup x=some p.2:=by
   intro names
   induction names with
   |nil=>intro acc _ h;exact h
   |cons z r ih=>
    intro acc hn h;obtain⟨m,k⟩:=z;unfold cG;by_cases G:(k==.free)=true
    ·rw[iFP G]
     refine ih _ (λx t=>hn x (qaj _ t)) λp g=>?_;rcases qay.mp g with e|g
     ·obtain⟨c,hc⟩:=hn _ qag (beq_iff_eq.mp G)
      exact⟨m,by rw[e,hc];rfl⟩
     ·exact h p g
    ·rw[iFN G]
     exact ih _ (λx t=>hn x (qaj _ t)) h
  exact key _ _ has λp g=>nomatch g
 refine⟨⟨I.ok.mod,S.kind,I.ok.glob,I.ok.blt,qdk _,λx y c n w=>?_,λx t=>?_,λx c t h=>?_,I.ok.hd,I.ok.frames,.inl U,λb hb=>?_,I.bs,qaS I.ok.bsz I.sz,λb o e hb=>?_,λb hb=>?_,I.stack,I.stkFree⟩,
  rfl,I.bare,Un.kept G,⟨_,(Heap.Ns.new _ _).keeps (qc9 _ _) |> λq=>by rw[M]at q;exact q,λi x v n w _=>?_⟩,λx c h=>?_,I.hok.fresh (qdk _),λx c h=>?_,λp g=>?_,I.hok.kept G,S.len W I.len⟩
 ·-- inj
  have Q:=n;have O:=w;rcases d Q with⟨K,_⟩|⟨_,K⟩
  ·rcases d O with⟨L,_⟩|⟨_,L⟩
   ·exact I.ok.inj x y c K L
   ·exact absurd (qaP (qa1 (qa1 (l K))) L) (qa2 _)
  ·refine oU a.names _ _ (λp g=>?_) Q O K
   obtain⟨z,hz⟩:=f p g;exact qa1 (qa1 (l hz))
 ·-- has
  have:∃ E,a.names.lookup x=some E/\(E=.cell\/E=.free):=by
   rcases t with q|q
   ·obtain⟨E,n,w⟩:=db q
    exact⟨E,n,w.elim (λe=>.inl e.symm) λe=>.inr e.1⟩
   ·obtain⟨E,n,w⟩:=db q
    exact⟨E,n,w.elim (λe=>.inr e.symm) λe=>by cases e.2⟩
  obtain⟨E,n,w⟩:=this;refine qcC.mp (qdo a.names _ _ ?_);rcases w with rfl|rfl
  ·exact .inl n
  ·exact .inr (e8 _ _ (.inl (qbt n)))
 ·-- cab
  rcases d h with⟨_,q⟩|⟨_,q⟩
  ·have:=d6 S.nd q
   rw[(beq_iff_eq.mp t)]at this;cases this
  ·exact qaS (qdi _ 2) q
 ·-- exf
  refine⟨qaA (qa1 (F b hb)),λx c h=>?_⟩;rcases d h with⟨q,_⟩|⟨_,q⟩
  ·exact (R b hb).2.2.2.2.1 x c q
  ·intro e
   exact absurd (qaP (qa1 (qa1 (F b hb))) (e ▸ q)) (qa2 _)
 ·-- noex
  rcases (R b hb).2.2.2.1 with q|q
  ·exact I.ok.noex b o e q
  ·exact absurd (qaP (qau (I.ok.bs b o e).1) q) (qa2 _)
 ·-- exfs
  intro hb2;rcases qay.mp (I.stkSub b hb2) with q|q
  ·exact (R b hb).2.1 q
  ·exact (R b hb).2.2.1 q
 ·-- loc
  obtain⟨j,e1,e2,T⟩:=S.emb W I.len i x v n w;have N:=(S.free (x,.free) (qbt T) U);obtain⟨m,hn,hl⟩:=I.loc;obtain⟨u,ru,lk⟩:=hl j x v e1 e2 (.inr N);refine⟨u,ru,.inr ⟨?_,?_⟩⟩
  ·rcases gM T with q|q
   ·exact .inr q
   ·exact .inl q
  ·rcases lk with⟨z,_⟩|⟨_,c,hc,J⟩
   ·rcases N with q|q<;>(rw[z]at q;cases q)
   ·obtain⟨c',A⟩:=qcC.mp (qdo a.names _ _ (.inr (e8 _ _ (.inl (qbt T)))))
    rcases d A with⟨q,_⟩|⟨q,_⟩
    ·rw[hc]at q
     cases q;exact⟨c,A,J.keeps G⟩
    ·have:=d6 S.nd q
     rw[T]at this;cases this
 ·-- cell
  exact (dJ a.names _ (cG X.env.cells a.names []) (λp g=>by
   obtain⟨z,hz⟩:=f p g;obtain⟨v,q⟩:=I.cell z p.2 hz
   exact⟨v,q.keeps λb o e=>qah _ (qah _ e)⟩) (x,c) (by rw[P];exact qbt h))
 ·-- freeC
  rcases d h with⟨q,_⟩|⟨_,q⟩
  ·exact I.freeC x c q
  ·exact I.hok.fresh (qaS (qdi _ 2) q)
 ·-- pin
  have hp':=by
   have:p∈([])++[(s.heap.objs.size,lo)]:=g
   simpa using this
  subst hp';refine⟨qc9 _ _ _ _ (qah _ (qat _ Y)),I.hok.fresh (qan _),qaA (qb5 _),λhb=>?_,hlo⟩;rcases qay.mp (I.stkSub _ hb) with q|q
  ·exact absurd I.lt (by rw[<-q];exact qa2 _)
  ·exact I.nofs (qan _) q
end
def PTs (X:Cx) (d:List Expr) (t:TT):Prop:=
 ∀ (a:List (Addr×Obj)) (s:qai) (b:St) (H:Hp) (Q:Bool->Hp->Prop),Inv X a b H s->t b H Q->
  wpAny (model X.prog X.w) X.A (forIn d true λc r=>if r=true then do let ok <-qj0 c X.env (eval c X.env);pure (ForInStep.yield ok) else pure (ForInStep.yield r)) (TP X a b Q) X.xe s
def GZ:TT:=λ_ H Q=>Q true H
theorem BZ {X:Cx}:PTs X [] GZ:=λ_ _ _ H _ I h=>wpAny_tests_nil ⟨H,I,h⟩
theorem B0 {X:Cx}{c:Expr}{t:TT} (b:PT X c t):PTs X [c] t:=λa s d H Q I h=>wpAny_tests_one (b a s d H Q I h)
def Sub (b a:St):Prop:=b.length=a.length/\∀ (i:Nat) (v:V),b[i]?=some (some v)->a[i]?=some (some v)
def EQ (J:It) (c:St) (g:TG) (tt:TT) (te:TE) (H1:Hp) (Q:VK):Prop:=∃ W:Nat->Nat->List V->Hp->Prop,(∃ m,W 0 m [] H1)/\∀ i m e H,W i m e H->
 (J.stop i H/\∀ D,H D=none->Q (.ref D) (upd H D (.lst e)))\/
 (J.go i H/\e.length<qaH/\∃ N:List V->Hp->Prop,(∀ d H',N d H'->∃ f,f<m/\W (i+1) f d H')/\∀ x H',J.yld i H x H'->g x c H' λa H2=>Sub c a/\tt a H2 λb H3=>if b=true then te a H3 λv H4=>N (e++[v]) H4 else N e H3)
def tLc (emb:St->St) (b:TI) (g:TG) (tt:TT) (te:TE):TE:=λa H Q=>b a H λJ H1=>EQ J (emb a) g tt te H1 Q
section
variable {X:Cx}{j:Scope}{Nc:List Str}{emb:St->St}{elt iter tg:Expr}{ifs:List Expr}{pos:Pos}{wi:TI}{g:TG}{tt:TT}{te:TE}
theorem FK (S:dS X j Nc emb) (hc:X.calm=true) (hi:PI X tg iter wi)
  (hg:∀ f s H C A,PG (lcX X j f Nc s H C A) tg g) (ht:∀ f s H C A,PTs (lcX X j f Nc s H C A) ifs tt) (he:∀ f s H C A,PE (lcX X j f Nc s H C A) elt te)
  (hs:∀ x,qbZ iter X.env x=pure x:=by intro _;rfl):PE X (.ListComp elt [⟨tg,iter,ifs,0⟩] j pos) (tLc emb wi g tt te):=by
 intro pins s σ H Q I h;refine qg7 U hs (jq (S.clos I.ok)) S.kind (λx V hl=>d6 S.nd (by rw[<-hl];exact V)) ?_;refine thn (hi pins s σ H _ I h) λv s1 h1=>thn h1 λitv P h2=>?_;obtain⟨it,A,tn,J,H2,e,I2,T,st2,f2,W,⟨m0,w0⟩,turn⟩:=h2;subst e;refine qcw (ku ?_);rw[qbp ..];generalize hD:P.heap.objs.size=D;generalize hlo:({ cls:=.type "list",dict:=none,data:=.seq ([]:List Value).toArray }:Obj)=lo
 have fplt:∀ b∈A,b<P.heap.objs.size:=λb hb=>by obtain⟨o,e,_⟩:=T.obj _ _ st2 b hb;exact qau e
 have I3:=ua (lo:=lo) S I2 f2 (λb hb=>by obtain⟨o,e,_⟩:=T.obj _ _ st2 b hb;exact⟨o,e⟩) (by rw[<-hlo];intro v z;cases z) (by rw[<-hlo];rfl);rw[hD]at I3;generalize hcells:qcE (D+2) j.names _=f at I3;generalize d:lcX X j f Nc P H2 (D+1) A=X' at I3;have O:∀ {H':Hp}{ps:List (Addr×Obj)},(∀ b∈A,H' b=none)->(∀ p∈ps,p.1=D)->∀ b∈A,ji X' ps H' b:=λ{H' ps} hn F b hb=>by
  have ok:=I3.ok;refine⟨hn b hb,?_,?_,.inl (by rw[<-d];exact hb),?_,λp L=>?_⟩
  ·exact (ok.exf b (by rw[<-d];exact hb)).1
  ·exact ok.exfs b (by rw[<-d];exact hb)
  ·exact (ok.exf b (by rw[<-d];exact hb)).2
  ·have hp':p∈([])++ps:=by rw[<-d]at L;exact L
   rw[(F p (by simpa using hp')),<-hD];exact qch (fplt b hb)
 have Dex:D∈X'.ex\/X'.s₀.heap.objs.size<=D:=.inr (by rw[<-d,<-hD];exact qan _);have Dloc:D≠X'.env.locals:=by rw[<-d];exact qaA (qb5 _)
 have pD:=I3.pin (D,lo) (by rw[<-d];exact qaw _ qag);have Dcell:∀ x c,X'.env.cells.lookup x=some c->c≠D:=λx c hc' e=>by
  obtain⟨v,o,ho,hd⟩:=I3.cell x c hc';rw[e,pD.1]at ho;cases ho;exact pD.2.2.2.2 v hd
 -- the M
 have M:∀ s3:qai,s3={ P with heap:=qe6 ((P.heap.push lo).push { cls:=.type "dict",data:=.dict #[] }) j.names }->
   qea (model X.prog X.w) X.A (.compLoop (.ListComp elt [⟨tg,iter,ifs,0⟩] j pos) 0 (.ref it) (.ref D) (qhs j f (D+1) X.env))
    (compPost (model X.prog X.w) X.A X.xe none (EP X pins σ Q) (.ref D) (D+1)) s3:=by
  rintro s3 rfl
  refine dq (λn s'=>∃ i Y l k H',Inv X' [(D,{ cls:=.type "list",data:=.seq l.toArray k })] (emb σ) H' s'/\aL Y l/\tn i s'.heap/\(∀ b∈A,H' b=none)/\Y.length<=qaH/\W i n Y H') ?_ m0
   ⟨0,[],[],0,H2,?_,.nil,?_,λb hb=>(f2 b hb).1,qby _,w0⟩
  ·rintro n s4 ⟨i,Y,l,k,H4,I4,rv,st4,fr4,hlen,w4⟩
   have F:∀ p∈[(D,({ cls:=.type "list",data:=.seq l.toArray k }:Obj))],p.1=D:=λp L=>by
    have:=qal.mp L
    rw[this]
   rcases turn i n Y H4 w4 with⟨stop,qn⟩|⟨go,hlt,N,hN,step⟩
   ·-- the end
    have TD:=T.done X' (by rw[<-d];rfl) (by rw[<-d];rfl) (by rw[<-d];rfl) (by rw[<-d];exact hc) i _ s4 (emb σ) H4 (λ_ _=>False) I4 (O fr4 F) st4 stop;rw[show X'.A=X.A by rw[<-d];rfl]at TD;refine thn TD λr s5 ⟨hr,I5⟩=>?_;subst hr;obtain⟨m5,hn5,_⟩:=id I5.loc;have eC:X'.env.locals=D+1:=by rw[<-d];rfl
    rw[eC]at hn5;refine⟨m5,hn5,λh' E=>?_⟩;have pD5:=I5.pin (D,{ cls:=.type "list",data:=.seq l.toArray k }) (by rw[<-d];exact qaw _ qag)
    have neC:∀ b u,H4 b=some u->b≠D+1:=λb u e z=>by
     have:=I5.free
     rw[eC,<-z,e]at this;cases this
    have hD4:H4 D=none:=pD5.2.1;have un:=I5.base;have B:Un (frs X.stack) A H2 H4 P.heap s5.heap:=by rw[<-d]at un;exact un
    have w:∀ b o,P.heap.get? b=some o->b≠D/\b≠D+1:=λb o e=>by
     have q:=qau e;rw[hD]at q;exact⟨qaA q,qaA (qa1 q)⟩
    have h2D:H2 D=none:=by rw[<-hD];exact I2.fresh
    have hok':HOk X.prog X.w H4 h':=λb u e=>by
     have ob:cA X.prog X.w H4 s5.heap b u:=by have:=I5.hok b u e;rw[<-d]at this;exact this
     refine ob.stay (λc v hcv q=>(E.2 c ?_).trans q) (λ_ q=>q) λ_ _ q=>q;rcases hcv with z|z
     ·rw[z];exact neC b u e
     ·exact neC c _ z
    have hokD:HOk X.prog X.w (upd H4 D (.lst Y)) h':=λb u e=>by
     by_cases hb:b=D
     ·subst hb
      rw[upd_same]at e;cases e;exact⟨hlen,l,k,rv,(E.2 b (qaA (qb5 _))).trans pD5.1⟩
     ·rw[upd_ne hb]at e
      refine (hok' b u e).stay (λ_ _ _ q=>q) (λc q=>?_) λc z q=>?_
      all_goals first
       |(rw[upd_ne (aO q hD4)];exact q)
       |(rw[upd_ne (aO z hD4)];exact z)
    refine⟨.ref D,upd H4 D (.lst Y),?_,U,qn D hD4⟩;refine I2.call' (s':={ s5 with heap:=h' }) (ch:=A) ?_ ⟨λb o e nb hb V=>?_,λb o e nb hb V=>?_,λb o e nb V=>?_,λb o e V=>?_,λb xs e=>?_,λb o u e=>?_,λb ps e=>?_⟩ hokD I5.bare (λb hb=>?_)
    ·have:=I5.os
     rw[<-d]at this;exact this
    ·exact (E.2 b (w b o e).2).trans (B.keep b o e nb hb V)
    ·obtain⟨sl,q⟩:=B.slot b o e nb hb V
     exact⟨sl,(E.2 b (w b o e).2).trans q⟩
    ·rw[upd_ne (w b o e).1]
     exact B.free b o e nb V
    ·obtain⟨o',q⟩:=B.there b o e V
     exact⟨o',(E.2 b (w b o e).2).trans q⟩
    ·rw[upd_ne (aO e h2D)]
     exact B.tups b xs e
    ·rw[upd_ne (aO e h2D)]
     exact B.frzs b o u e
    ·obtain⟨m,q⟩:=B.tbls b ps e
     exact⟨m,by rw[upd_ne (aO e h2D)];exact q⟩
    ·obtain⟨q0,q1,q2,q3,q4,q5⟩:=f2 b hb
     exact⟨q3,q1,q4,q5⟩
   ·-- a turn
    have hA:X'.A=X.A:=by rw[<-d];rfl
    have hP:X'.prog=X.prog:=by rw[<-d];rfl
    have hw:X'.w=X.w:=by rw[<-d];rfl
    have hE:X'.env=qhs j f (D+1) X.env:=by rw[<-d];rfl
    have hxe:X'.xe=λ_ _=>False:=by rw[<-d];rfl
    have TI':=T.item X' hP hw (by rw[<-d];rfl) (by rw[<-d];exact hc) i _ s4 (emb σ) H4 (λ_ _=>False) I4 (O fr4 F) st4 go;rw[hA]at TI';refine thn TI' λr s5 ⟨u,hr,h5⟩=>?_;subst hr;refine thn h5 λ_ s6 ⟨x,H6,I6,r6,y6,st6,fr6⟩=>?_;have I6':=I6.pinned (O fr6 F) (T.obj _ _ st6);have G:=hg f P H2 (D+1) A;have TT':=ht f P H2 (D+1) A;have EE:=he f P H2 (D+1) A;rw[d]at G TT' EE;have G':=G _ s6 (emb σ) H6 x u _ I6' r6 (step x H6 y6);rw[hA,hP,hw,hE,hxe]at G';refine thn G' λ_ s7 ⟨σ7,H7,I7,sb7,q7⟩=>?_;have T':=TT' _ s7 σ7 H7 _ I7 q7;rw[hA,hP,hw,hE,hxe]at T';refine thn T' λok s8 ⟨H8,I8,q8⟩=>?_
    -- what is pinned
    have t:∀ {σ9:St}{H9:Hp}{R:qai},Inv X' ([(D,({ cls:=.type "list",data:=.seq l.toArray k }:Obj))]++om A s6.heap) σ9 H9 R->tn (i+1) R.heap/\∀ b∈A,H9 b=none:=λ{σ9 H9 R} I9=>
     ⟨T.keep _ _ _ st6 λb hb o e=>(I9.pin (b,o) (qaw _ (qaw _ (cM hb e)))).1,λb hb=>by
      obtain⟨o,e,_⟩:=T.obj _ _ st6 b hb
      exact (I9.pin (b,o) (qaw _ (qaw _ (cM hb e)))).2.1⟩
    cases ok with
    |false=>
     rw[iFN (by decide)]at q8;rw[iFN (by decide)];obtain⟨m',hm,w8⟩:=hN _ _ q8;exact⟨m',hm,i+1,Y,l,k,H8,I8.unpinned.weak sb7.1 sb7.2,rv,(t I8).1,(t I8).2,hlen,w8⟩
    |true=>
     rw[iFP U]at q8;rw[iFP U];have E':=EE _ s8 σ7 H8 _ I8 q8;rw[hA,hP,hw,hE,hxe]at E';refine thn E' λy R ⟨v9,H9,I9,r9,n9⟩=>?_;obtain⟨m',hm,w9⟩:=hN _ _ n9;have K:=I9.pin (D,{ cls:=.type "list",data:=.seq l.toArray k }) (qaw _ (qa0 _ qag))
     have hl:=rv.length;have I9n:Inv X' [] σ7 H9 R:=I9.pins_of λp L=>nomatch L
     refine qdd qfB ⟨_,K.1,U⟩ qfo (qfd _ _) (qfk D l.toArray k y (by rw[qaI];lia)) ⟨K.1,?_⟩;have up:∃ k':Nat,(R.heap.update D (qcT λxs=>xs.push y)).get? D=some { cls:=.type "list",data:=.seq (l++[y]).toArray k' }:=by
      have q:=qfb K.1 (λxs:Array Value=>xs.push y);simp only[qhH]at q;exact⟨_,q⟩
     obtain⟨k',up⟩:=up;have hoth:∀ b o,b≠D->R.heap.get? b=some o->(R.heap.update D (qcT λxs=>xs.push y)).get? b=some o:=λb o hb e=>(qbn R.heap _ (qbz hb)).trans e;have I10:=I9n.turned (t':=R.toks) hoth K.2.1 Dloc Dex Dcell (λp L=>absurd (show p∈([]:List (Addr×Obj)) by rw[<-d]at L;exact L) (by simp));refine⟨m',hm,i+1,Y++[v9],l++[y],k',H9,(I10.weak sb7.1 sb7.2).pins_of (λp L=>?_),rv.append (.cons r9 .nil),T.keep _ _ _ (t I9).1 (λb hb o e=>hoth b o (by rw[<-hD];exact qaA (fplt b hb)) e),(t I9).2,?_,w9⟩
     ·have:=qal.mp L
      subst this;exact⟨up,K.2.1,Dloc,(pD.2.2.2.1),λv z=>by cases z⟩
     ·rw[qax,qcc]
      lia
  ·rw[<-hlo.symm]
   exact I3
  ·exact T.keep _ _ _ st2 λb hb o e=>qc9 _ _ b o (qah _ (qah _ e))
 refine qhB ?_ ?_
 ·exact M _ U
 ·refine T.self X.A 0 _ _ _ (T.keep _ _ _ st2 λb hb o e=>qc9 _ _ b o (qah _ (qah _ e))) ?_
  exact M _ U
end
end L2
namespace L2
open PySem PySem.Spec PyProof.Rows
open PySem.AutoSeq1 (wpAny_loadPart')
section
variable {prog:qaM}{w:World}{A:qaU}{E:Value->qai->Prop}{s:qai}
theorem fD {c l:Addr}{i:Nat}{items}{x:Value}{Q:Value->qai->Prop} (b:s.heap.IsTupleIter c l i)
  (q:s.heap.IsTuple l items) (u:items[i]?=some x)
  (y:∀ h',h'.IsTupleIter c l (i+1)->qdm c s.heap h'->Q x { s with heap:=h' }) :
  wpAny (model prog w) A (qcQ (.ref c)) Q E s:=by
 obtain⟨o,d,z,hd⟩:=id b;obtain⟨C,g,_,D,f⟩:=q
 refine qac (qbP b.typeIs qdc
  (qbY qdc b.typeIs qgw ?_ (qgq _)))
 show wpAny _ _ (field _ 0 >>= _) _ _ s;refine qac (qcf d hd (x:=.ref l) U ?_);refine qac (qcf d hd U ?_);refine qac (qck g f ?_);simp only[qa7,u];refine qac (qfr d hd (by simp) (qaq ⟨x,U,qaq (y _ ?_ (qdB ..))⟩))
 exact⟨_,qc3 _ d (qg0 (qd4 hd _)),(qhW ..).trans z,by
  rw[qd4 hd];simp[qgH]⟩
theorem gq {c l:Addr}{i:Nat}{items}{Q:Value->qai->Prop} (n:A.handled=none)
  (b:s.heap.IsTupleIter c l i) (q:s.heap.IsTuple l items) (u:items[i]?=none)
  (t:∀ h' e,qhk c s.heap h'->(∃ o,h'.get? e=some o/\o.cls=.type "StopIteration")->E (.ref e) { s with heap:=h' }) :
  wpAny (model prog w) A (qcQ (.ref c)) Q E s:=by
 obtain⟨o,d,z,hd⟩:=id b;obtain⟨C,g,_,D,f⟩:=q
 refine qac (qbP b.typeIs qdc
  (qbY qdc b.typeIs qgw ?_ (qgq _)))
 show wpAny _ _ (field _ 0 >>= _) _ _ s;refine qac (qcf d hd (x:=.ref l) U ?_);refine qac (qcf d hd U ?_);refine qac (qck g f ?_);simp only[qa7,u];refine qac (qdM (qac (qfr d hd (by simp) ?_)));refine qac ?_;refine qac (m:=qkj _ _) (wpAny_of_eq (a:=Value.none) (by first|rfl|(rfl)) ?_)
 refine qcw ?_ (by size_fits);refine qac (wpAny_handled ?_)
 first|rw[n]|rw[n]
 refine qac (qaq (wpAny_throw ?_));exact t _ _ (((qdB ..).extBut.push _).push _) ⟨_,qat _ U,U⟩
theorem im (n:A.handled=none) (c l:Addr) (p:l≠c) (items:Array Value) :
  Draws prog w A c [c,l] items.size (λi v=>items[i]?=some v) (λi h=>h.IsTupleIter c l i/\h.IsTuple l items) where
 live:=λ_ _ st=>let ⟨o,d,_⟩:=st.1;⟨o,d⟩
 frame:=λ_ _ _ st B=>⟨st.1.at λo e=>B c (by simp) o e,by
  obtain⟨o,e,r⟩:=st.2
  exact⟨o,B l (by simp) o e,r⟩⟩
 item:=λi s Q E hi st y=>by
  refine fD st.1 st.2 (x:=items[i]) (by simp[hi]) λh' k j=>?_;refine y _ h' s.toks (by simp[hi]) ⟨k,?_⟩ j;obtain⟨o,e,r⟩:=st.2;exact⟨o,(j.2 l p).trans e,r⟩
 done:=λs Q E st t=>gq n st.1 st.2 (by simp) t
end
theorem iM (l:Addr) (items:Array Value) (n:Nat) (dct:Option Addr) (f:Array (Option Value)) :
  Meets (qff.«enumerate.__new__» ⟨[.type "enumerate",.ref l],[]⟩) (λ_ R s=>s.heap.get? l=some { cls:=.type "tuple",dict:=dct,data:=.seq items n,slots:=f }/\
   R (.ok (.ret (.ref (s.heap.push { cls:=.type "tuple_iterator",data:=.fields #[.ref l,.int 0 0] }).objs.size)))
    { s with heap:=(s.heap.push { cls:=.type "tuple_iterator",data:=.fields #[.ref l,.int 0 0] }).push { cls:=.type "enumerate",data:=.fields #[.none,.bool false,.ref s.heap.objs.size,qgH 0,.none,.none] } }):=
 .of_wp λprog w A R s h=>by
  obtain⟨i,g,d,j,os⟩:=s;obtain⟨a,h⟩:=h;have e:=sub_enumerate;have b:Heap.IsTuple _ l items:=⟨_,a,U,n,U⟩
  wp_walk using wpAny_loadPart' a
  refine wpAny_stack_any λst=>qaq ?_;split
  ·rename_i c _ _ _ _ _
   cases (c==Value.type "enumerate")
   ·wp_walk using wpAny_loadPart' a,qdC b
    exact⟨_,U,h⟩
   ·wp_walk using wpAny_loadPart' a,qdC b
    exact⟨_,U,h⟩
  ·wp_walk using wpAny_loadPart' a,qdC b
   exact⟨_,U,h⟩
theorem ij {prog:qaM}{w:World}{A:qaU}{E:Value->qai->Prop}{s:qai}{l:Addr}{items:Array Value}{Q:Value->qai->Prop} (f:s.heap.IsTuple l items)
  (h:∀ h',IsEnum h' (s.heap.objs.size+1) s.heap.objs.size 0 .none->h'.IsTupleIter s.heap.objs.size l 0->h'.objs.size=s.heap.objs.size+2->
    (∀ b o,s.heap.get? b=some o->h'.get? b=some o)->Q (.ref (s.heap.objs.size+1)) { s with heap:=h' }) :
  wpAny (model prog w) A (call (.type "enumerate") [.ref l]) Q E s:=by
 obtain⟨⟨c,dct,dt,e⟩,g,i,n,hd⟩:=f;subst i hd;refine callType_new F.called_enumerate (by decide) (F.typeCall_enumerate_1 _) (F.newCall_enumerate_1 _) (λobj=>F.args_object_init_2 obj _) F.entry_enumerate_new
  (iM l items n dct e) ⟨g,?_⟩
 have a:(s.heap.push { cls:=.type "tuple_iterator",data:=.fields #[.ref l,.int 0 0] }).objs.size=s.heap.objs.size+1:=qbp ..
 rw[a];have d:=by
  have:=qat (s.heap.push { cls:=.type "tuple_iterator",data:=.fields #[.ref l,.int 0 0] })
   (o:={ cls:=.type "enumerate",data:=.fields #[.none,.bool false,.ref s.heap.objs.size,qgH 0,.none,.none] }) U
  rw[a]at this;exact this
 refine⟨⟨_,d,U⟩,h _ d ⟨_,qah _ (qat _ U),U,U⟩ (by rw[qbp,a]) λb o x=>qah _ (qah _ x)⟩
section
variable {X:Cx}{a:List (Addr×Obj)}{l:St}{H:Hp}{s:qai}{h':Heap}{i:List Addr}
theorem ji.ch (g:∀ b∈i,ji X a H b):∀ b∈i,(b∈X.ex\/X.s₀.heap.objs.size<=b)/\b≠X.env.locals/\(∀ x c,X.env.cells.lookup x=some c->c≠b)/\∀ p∈X.pn++a,p.1≠b:=λb hb=>
 let ⟨_,f1,_,f3,f4,f5⟩:=g b hb
 ⟨f3,f1,f4,f5⟩
theorem Inv.turns {t':Nat} (I:Inv X a l H s) (g:∀ b∈i,ji X a H b) (k:∀ b o,b∉i->s.heap.get? b=some o->h'.get? b=some o):Inv X a l H { s with heap:=h',toks:=t' }:=by
 have f:∀ b u,H b=some u->b∉i:=λb u e z=>by have:=(g b z).1;rw[e]at this;cases this
 refine I.step (ji.ch g) (λb o _ _ d e _=>k b o d e) (λb o _ _ d e _=>⟨o.slots,k b o d e⟩) (λ_ _ _ _ n=>n)
  (λb o d e=>⟨o,k b o d e⟩) (λ_ _ e=>e) (λ_ _ _ e=>e) (λb ps e=>⟨#[],by rw[e];simp⟩) (λm hm=>?_) (λb u e=>?_) I.bare
 ·obtain⟨o,es,t,w,r⟩:=hm
  exact⟨o,es,t,k _ o (λz=>(g _ z).2.1 U) w,r⟩
 ·refine (I.hok b u e).stay (λc v d q=>k c v ?_ q) (λ_ q=>q) λ_ _ q=>q
  rcases d with z|z
  ·rw[z];exact f b u e
  ·exact f c _ z
theorem Inv.turnsT {t':Nat}{T:Addr}{xs:List V}{j:Array Value} (I:Inv X a l H s) (g:∀ b∈i,ji X a H b) (k:∀ b o,b∉i->s.heap.get? b=some o->h'.get? b=some o)
  (y:s.heap.objs.size<=T) (B:fL h' T j) (A:aL xs j.toList) (C:xs.length<=qaH):Inv X a l (upd H T (.tup xs)) { s with heap:=h',toks:=t' }:=by
 have f:∀ b u,H b=some u->b∉i:=λb u e z=>by have:=(g b z).1;rw[e]at this;cases this
 have h:=I.hok.fresh y;refine I.step (ji.ch g) (λb o _ _ d e _=>k b o d e) (λb o _ _ d e _=>⟨o.slots,k b o d e⟩) (λb o _ e n=>by rw[upd_ne ((λb o e=>qaA (qaP (qau e) y)) b o e)];exact n)
  (λb o d e=>⟨o,k b o d e⟩) (λb _ e=>by rw[upd_ne (aO e h)];exact e) (λb _ _ e=>by rw[upd_ne (aO e h)];exact e) (λb ps e=>⟨#[],by rw[upd_ne (aO e h),e];simp⟩) (λm hm=>?_) (λb u e=>?_) I.bare
 ·obtain⟨o,es,t,w,r⟩:=hm
  exact⟨o,es,t,k _ o (λz=>(g _ z).2.1 U) w,r⟩
 ·by_cases hb:b=T
  ·subst hb
   rw[upd_same]at e;cases e;refine⟨C,j.toList,A,?_⟩;simpa using B
  ·rw[upd_ne hb]at e
   refine (I.hok b u e).stay (λc v d q=>k c v ?_ q) (λc q=>?_) λc z q=>?_
   ·rcases d with z|z
    ·rw[z];exact f b u e
    ·exact f c _ z
   all_goals first
    |(rw[upd_ne (aO q h)];exact q)
    |(exact z)
end
def Ite (S:Hp->List V->Prop):It:=
 ⟨λi H=>∃ xs x,S H xs/\xs[i]?=some x,λi H x H'=>∃ T v,(∀ xs,S H xs->xs[i]?=some v)/\H T=none/\x=.ref T/\H'=upd H T (.tup [.int i,v]),λi H=>∃ xs,S H xs/\xs.length=i⟩
theorem vS {P:qaM}{w:World}{K:qae}{n:List Expr}{k:Nat}{pos:Pos} (a g e:Addr) (j:e≠g) (G:a≠e) (B:a≠g) :
  uT P w K (.Tuple n k pos) (Ite λH xs=>SqL K H a xs) [e,g] e (λi h=>(∃ f,IsEnum h e g i f)/\h.IsListIter g a i) where
 mem:=by simp
 obj:=λi h st b hb=>by
  rcases qay.mp hb with rfl|hb
  ·obtain⟨⟨f,q⟩,_⟩:=st
   exact⟨_,q,λv z=>by cases z⟩
  ·rw[qal.mp hb]
   obtain⟨_,o,e,c,d⟩:=st;exact⟨o,e,λv z=>by rw[d]at z;cases z⟩
 keep:=λi h h' st Q=>⟨let ⟨f,q⟩:=st.1;⟨f,Q e (by simp) _ q⟩,st.2.at λo q=>Q g (by simp) o q⟩
 item:=by
  intro X hP hw hK N i C s σ H E I M st hg;subst hP hw hK;obtain⟨xs,x,O,R⟩:=hg;obtain⟨l,rv,p,hz⟩:=I.list O;obtain⟨u,hu,ru⟩:=rv.get R;have W:=qfg (qjT (prog:=X.prog) (w:=X.w) (A:=X.A.in1) (I.ok.hd N) g a B l.toArray) e j (by simp[j,qbz G]) (by simp);have hi:=by
   simpa using ((qar.mp hu).1)
  obtain⟨⟨ol,F⟩,m⟩:=st;refine qhm (qjT (A:=X.A.in1) (I.ok.hd N) g a B l.toArray) F ⟨m,p.isList⟩ hi j (by simp[j,qbz G]) λy h1 t hy ho S ht hsz hk=>⟨_,U,?_⟩;have hm:(λ_ (T) (h)=>(∃ x,IsEnumOut h e g _ x T)/\_/\T≠e/\T≠g) i s.heap.objs.size h1:=⟨⟨_,ho⟩,S,qch (qau F),qch (let ⟨_,q,_⟩:=m;qau q)⟩;have Q:∀ b o,b∉[e,g]->s.heap.get? b=some o->h1.get? b=some o:=λb o hb q=>hk b o (λz=>hb (by simp[z])) (λz=>hb (by simp[z])) q;generalize eT:s.heap.objs.size=T at ht ho hm ⊢;have hT:=qdI eT;have r:∃ tk,tk=t+1:=⟨_,U⟩;obtain⟨tk,r⟩:=r;rw[<-r];have ey:=by
   have L:=by simpa using hy
   rw[hu]at L;exact (qaL L).symm
  subst ey;refine W.go n k pos i T _ _ _ hm λh2 D J=>?_;have nT:=W.apart i T _ hm;refine⟨.ref T,_,?_,U,⟨T,x,λys hy=>by rw[I.list_inj hy O];exact R,I.hok.fresh hT,U,U⟩,⟨D.1,D.2.1⟩,λb hb=>?_⟩
  ·exact (I.turnsT M (λb o hb q=>J b o hb (Q b o hb q)) hT ⟨_,J T _ nT ht,U,⟨_,U⟩,U⟩ (.cons ⟨t,U⟩ (.cons ru .nil)) (by show 2<=qaH;decide))
  ·rw[upd_ne (show b≠T from λz=>nT (z ▸ hb))]
   exact (M b hb).1
 done:=by
  intro X hP hw hK N i C s σ H E I M st hg;subst hP hw hK;obtain⟨xs,O,R⟩:=hg;obtain⟨l,rv,p,hz⟩:=I.list O;have hl:=rv.length;have Y:l.toArray[i]?=none:=by simp;lia
  obtain⟨⟨f,he⟩,V⟩:=st
  -- the end at place i
  refine wpAny_pyNext_enum_end (I.ok.hd N) he V p.isList Y λh' eb=>⟨U,?_⟩;exact I.turns M λb o hb q=>eb b o (by simp at hb;exact hb.2) q
 self:=λ_ _ _ _ _ st h=>let ⟨⟨_,he⟩,_⟩:=st;qey he h
theorem vT {P:qaM}{w:World}{K:qae}{n:List Expr}{k:Nat}{pos:Pos} (a g e:Addr) (f:e≠g) (B:a≠e) (r:a≠g) :
  uT P w K (.Tuple n k pos) (Ite λH xs=>SqT K H a xs) [e,g] e (λi h=>(∃ l,IsEnum h e g i l)/\h.IsTupleIter g a i) where
 mem:=by simp
 obj:=λi h st b hb=>by
  rcases qay.mp hb with rfl|hb
  ·obtain⟨⟨l,q⟩,_⟩:=st
   exact⟨_,q,λv z=>by cases z⟩
  ·rw[qal.mp hb]
   obtain⟨_,o,e,c,d⟩:=st;exact⟨o,e,λv z=>by rw[d]at z;cases z⟩
 keep:=λi h h' st C=>⟨let ⟨l,q⟩:=st.1;⟨l,C e (by simp) _ q⟩,st.2.at λo q=>C g (by simp) o q⟩
 item:=by
  intro X hP hw hK O i D s σ H E I N st hg;subst hP hw hK;obtain⟨xs,x,Q,R⟩:=hg;obtain⟨j,rv,p,hz⟩:=I.tuple Q;obtain⟨u,hu,ru⟩:=rv.get R;have W:=qfg (im (prog:=X.prog) (w:=X.w) (A:=X.A.in1) (I.ok.hd O) g a r j.toArray) e f (by simp[f,qbz B]) (by simp);have hi:=by
   simpa using ((qar.mp hu).1)
  obtain⟨⟨ol,J⟩,m⟩:=st;refine qhm (im (A:=X.A.in1) (I.ok.hd O) g a r j.toArray) J ⟨m,p⟩ hi f (by simp[f,qbz B]) λy h1 t V ho S ht hsz hk=>⟨_,U,?_⟩;have hm:(λ_ (T) (h)=>(∃ x,IsEnumOut h e g _ x T)/\_/\T≠e/\T≠g) i s.heap.objs.size h1:=⟨⟨_,ho⟩,S,qch (qau J),qch (let ⟨_,q,_⟩:=m;qau q)⟩;have C:∀ b o,b∉[e,g]->s.heap.get? b=some o->h1.get? b=some o:=λb o hb q=>hk b o (λz=>hb (by simp[z])) (λz=>hb (by simp[z])) q;generalize eT:s.heap.objs.size=T at ht ho hm ⊢;have hT:=qdI eT;have F:∃ Y,Y=t+1:=⟨_,U⟩;obtain⟨Y,F⟩:=F;have ey:=by
   have M:=by simpa using V
   rw[hu]at M;exact (qaL M).symm
  subst ey;refine W.go n k pos i T _ _ _ hm λh2 G L=>?_;have nT:=W.apart i T _ hm;refine⟨.ref T,_,?_,U,⟨T,x,λys V=>by rw[I.tuple_inj V Q];exact R,I.hok.fresh hT,U,U⟩,⟨G.1,G.2.1⟩,λb hb=>?_⟩
  ·exact (I.turnsT N (λb o hb q=>L b o hb (C b o hb q)) hT ⟨_,L T _ nT ht,U,⟨_,U⟩,U⟩ (.cons ⟨t,U⟩ (.cons ru .nil)) (by show 2<=qaH;decide))
  ·rw[upd_ne (show b≠T from λz=>nT (z ▸ hb))]
   exact (N b hb).1
 done:=by
  intro X hP hw hK O i D s σ H E I N st hg;subst hP hw hK;obtain⟨xs,Q,R⟩:=hg;obtain⟨j,rv,p,hz⟩:=I.tuple Q;have hl:=rv.length;have hi:i=j.toArray.size:=by simp;lia
  subst hi;refine (qfg (im (A:=X.A.in1) (I.ok.hd O) g a r j.toArray) e f (by simp[f,qbz B]) (by simp)).done s _ _ ⟨st.1,st.2,p⟩ λh' Y C=>⟨U,I.turns N C⟩
 self:=λ_ _ _ _ _ st h=>let ⟨⟨_,he⟩,_⟩:=st;qey he h
section
variable {X:Cx}
def Dm (K:qae) (x:TA):TI:=λB H R=>x B H λO H1=>∃ a,O=[.ref a]/\(∃ xs,SqL K H1 a xs)/\R (Ite λH xs=>SqL K H a xs) H1
theorem zS {g:List Expr}{k:Nat}{j:Pos}{a:Expr}{x:TA}{p pos:Pos} (hg:Gl X "enumerate") (hm:X.mg "enumerate" = none) (W:PA X [a] x) (hs:qbF [a] X.env=[(false,eval a X.env)]:=by rfl) :
  PI X (.Tuple g k j) (.Call (.Name "enumerate" p) [a] [] pos) (Dm X.K x):=by
 intro c s B H R I h;refine Call_ (jH I hg hm qkk (qcm (thn (W pos c s B H _ I h) λC s1 ⟨O,H1,I1,r1,q1⟩=>?_) hs U));obtain⟨l,e,⟨xs,E⟩,q⟩:=q1;subst e;cases r1 with
 |cons r w=>
  cases w;cases r;obtain⟨y,m,P,Y⟩:=I1.list E;refine call_enumerate_list P.isList λh' G F hsz D=>qey G ?_;have d:l<s1.heap.objs.size:=by obtain⟨_,_,e,_⟩:=P;exact qau e
  refine⟨_,_,_,_,H1,U,I1.kept D,vS l s1.heap.objs.size _ (qfX _) (qaA (qa1 d)) (qaA d),⟨⟨_,G⟩,F⟩,λb hb=>?_,q⟩;have f:s1.heap.objs.size<=b:=by
   rcases qay.mp hb with e|hb
   ·rw[e];exact qdk _
   ·rw[qal.mp hb];exact qan _
  exact I1.fpOk f (I1.hok.fresh f)
def Do (K:qae) (x:TA):TI:=λB H R=>x B H λO H1=>∃ a,O=[.ref a]/\(∃ xs,SqT K H1 a xs)/\R (Ite λH xs=>SqT K H a xs) H1
theorem zT {g:List Expr}{k:Nat}{j:Pos}{a:Expr}{x:TA}{p pos:Pos} (hg:Gl X "enumerate") (hm:X.mg "enumerate" = none) (W:PA X [a] x) (hs:qbF [a] X.env=[(false,eval a X.env)]:=by rfl) :
  PI X (.Tuple g k j) (.Call (.Name "enumerate" p) [a] [] pos) (Do X.K x):=by
 intro c s B H R I h;refine Call_ (jH I hg hm qkk (qcm (thn (W pos c s B H _ I h) λC s1 ⟨O,H1,I1,r1,q1⟩=>?_) hs U));obtain⟨l,e,⟨xs,E⟩,q⟩:=q1;subst e;cases r1 with
 |cons r w=>
  cases w;cases r;obtain⟨y,m,P,Y⟩:=I1.tuple E;refine ij P λh' G F hsz D=>qey G ?_;have d:l<s1.heap.objs.size:=by obtain⟨_,e,_⟩:=P;exact qau e
  refine⟨_,_,_,_,H1,U,I1.kept D,vT l s1.heap.objs.size _ (qfX _) (qaA (qa1 d)) (qaA d),⟨⟨_,G⟩,F⟩,λb hb=>?_,q⟩;have f:s1.heap.objs.size<=b:=by
   rcases qay.mp hb with e|hb
   ·rw[e];exact qdk _
   ·rw[qal.mp hb];exact qan _
  exact I1.fpOk f (I1.hok.fresh f)
theorem oK {ns:List Int}:∀ {C:List Value},aL (ns.map V.int) C->∃ xs:Array (Int×Tok),C.toArray=intItems xs/\xs.toList.map (·.1)=ns:=by
 induction ns with
 |nil=>intro C r;cases r;exact⟨#[],by simp[intItems],U⟩
 |cons n ns ih=>
  intro C r;cases r with
  |cons r w=>
   obtain⟨t,rfl⟩:=r;obtain⟨xs,e,T⟩:=ih w;refine⟨#[(n,t)]++xs,?_,by simp[T]⟩;have e':=congrArg qgP e;simp[intItems]at e' ⊢;exact e'
theorem yU:bN X (.builtin "sum") (λxs H Q=>X.calm=true/\∃ (a:Addr) (ns:List Int),xs=[.ref a]/\SqL X.K H a (ns.map V.int)/\Q (.int ns.sum) H):=by
 intro c s B H xs C Q I m h;obtain⟨S,a,ns,rfl,E,q⟩:=h;cases m with
 |cons r w=>
  cases w;cases r;obtain⟨y,m,p,Y⟩:=I.list E;obtain⟨ps,e1,T⟩:=oK m;have hl:=p.isList;rw[e1]at hl;refine sum_intListG (I.ok.hd S) hl λh' tk t' D=>?_;refine⟨.int ns.sum,H,I.kept D,⟨t',?_⟩,q⟩;rw[preSum_eq,qb7 (by simp),T]
theorem yT:bN X (.builtin "all") (λxs H Q=>X.calm=true/\∃ (a:Addr) (bs:List Bool),xs=[.ref a]/\SqL X.K H a (bs.map V.bl)/\Q (.bl (bs.all id)) H):=by
 intro c s B H xs C Q I m h;obtain⟨S,a,bs,rfl,E,q⟩:=h;cases m with
 |cons r w=>
  cases w;cases r;obtain⟨y,m,p,Y⟩:=I.list E;have d:a<s.heap.objs.size:=by obtain⟨_,_,e,_⟩:=p;exact qau e
  have L:=by have:=m.length;simpa using this.symm
  refine call_all_walk (qex p.isList ?_);refine⟨s.heap.objs.size,_,_,_,_,_,λi=>(bs[i]?).getD true,U,Walks.list (A:=X.A.in1) (I.ok.hd S) s.heap.objs.size a (qaA d) y.toArray,⟨⟨_,qat _ U,U,U⟩,p.isList.push _⟩,?_,λh' tk D=>?_⟩
  ·intro i v s' Q' E' hv hQ'
   have J:=by simpa using hv
   have hi:=(qar.mp J).1;obtain⟨b,hb⟩:∃ b,bs[i]?=some b:=⟨bs[i]'(by lia),by simp[show i<bs.length by lia]⟩
   have:(bs.map V.bl)[i]?=some (.bl b):=by rw[qaF,hb];rfl
   obtain⟨u,hu,ru⟩:=m.get this;rw[J]at hu;cases hu;cases ru;have N:Q' ((bs[i]?).getD true) s':=hQ';rw[hb]at N;exact qce N
  ·refine⟨_,H,I.kept (λb o e=>D b o (λz=>absurd (qau e) (by rw[qal.mp z];exact qa2 _)) (qah _ e)),?_,q⟩
   congr 1
   have:∀ n,n=bs.length->((qam n).all λi=>(bs[i]?).getD true)=bs.all id:=by
    intro n hn;rw[qeG,qaW,qaW];constructor
    ·intro h b hb
     obtain⟨i,hi,e⟩:=qcG.mp hb
     have:=h i (qaD.mpr (by lia))
     simp[hi,e]at this;exact this
    ·intro h i hi
     have hi':=qaD.mp hi;have M:i<bs.length:=by lia
     simp[M];exact h _ (qbV _)
   exact this _ (by simpa using L)
end
def f8 (k:Nat) (js:List Nat) (a:St):St:=qaC k none++js.map λj=>(a[j]?).getD none
def vh (a:Scope) (ns:List (Str×qb6)) (N Nc:List Str) (k:Nat) (js:List Nat):Bool:=
 decide ((a.names.map (·.1)).Nodup)&&decide Nc.Nodup&&decide (Nc.length=k+js.length) &&
 (a.names.all λx=>x.2 != .free||ns.lookup x.1==some .cell||ns.lookup x.1==some .free) &&
 ((qam js.length).all λi=>match Nc[k+i]?,js[i]? with|some x,some j=>N[j]?==some x&&a.names.lookup x==some .free|_,_=>false)
theorem t8 {X:Cx}{a:Scope} (ns:List (Str×qb6)) (N Nc:List Str) (k:Nat) (js:List Nat) (hns:X.env.scope.names=ns) (hN:X.N=N) (r:a.kind=.function) (h:vh a ns N Nc k js=true):dS X a Nc (f8 k js):=by
 unfold vh at h;simp only[qaX,decide_eq_true_eq]at h;obtain⟨⟨⟨⟨s,m⟩,n⟩,f⟩,p⟩:=h;refine⟨r,s,m,λx q g=>?_,λd _=>?_,λd _ i x v l b=>?_⟩
 ·have:=qaW.mp f x q
  rw[g]at this;simp only[qib,beq_iff_eq,bne_self_eq_false,qbk,false_or]at this;unfold qlp;rw[hns];exact this
 ·unfold f8
  rw[qax,qc1,qaf,n]
 ·unfold f8 at b
  by_cases hi:i<k
  ·rw[qaE (by simpa using hi),qdq,iFP hi]at b
   cases b
  ·rw[qaJ (by simpa using hi),qc1,qaF]at b
   cases ej:js[i - k]? with
   |none=>rw[ej]at b;cases b
   |some j=>
    rw[ej]at b;have e:=(qar.mp ej).1
    have:=qaW.mp p _ (qaD.mpr e)
    rw[show k+_=i by lia,l,ej]at this;simp only[qaX,beq_iff_eq]at this;refine⟨j,by rw[hN];exact this.1,?_,this.2⟩;have c:(d[j]?).getD none=some v:=qaL b;cases eq:d[j]? with
    |none=>rw[eq]at c;cases c
    |some o=>rw[eq]at c;rw[show o=some v from c]
def Al (names ns:List (Str×qb6)):List (Str×qb6):=names.map λx=>if (x.2==NameKind.free&&ns.lookup x.1==some .cell) then (x.1,.cell) else x
theorem mN {X:Cx}{a:Scope}{b:List (Str×Addr)}{Nc:List Str}{s:qai}{H:Hp}{C:Addr}{c:List Addr}{ns:List (Str×qb6)} (d:X.env.scope.kind=.function) (hns:X.env.scope.names=ns) :
  (lcX X a b Nc s H C c).env.scope.names=Al a.names ns:=by
 show (a.names.map _)=_
 congr 1
 funext x
 obtain⟨n,k⟩:=x;show (if _=true then (n,NameKind.cell) else (n,k))=_;unfold qlp;rw[d,hns,show (ScopeKind.function==ScopeKind.function)=true from U,qiG]
section
variable {a tl:St}{tt:TT}{te:TE}{H:Hp}{Q:VK}
end
section
variable {X:Cx}
theorem BI:OpR X (qbQ .Mult) (rI qhx λi j=>.int (i*j)):=opI λ_ _ _ _ _ _ _ a q=>mul_int q a
end
theorem aS.new {H:Hp}{p:Addr} (h:H p=none) (o:HO):aS H (upd H p o):=λb u q=>by rw[upd_ne (aO q h)];exact q
theorem kD {n:Nat} (h:n<=1000):n<=qaH:=qeO (yC h)
theorem p18:sv 10 18:=⟨by decide,by decide,by decide⟩
theorem AC (l:Addr) (items:Array Value) (n:Nat) (dct:Option Addr) (a:Array (Option Value)) (u:Tok) :
  Meets (qff.«tuple.__mul__» ⟨[.ref l,.int 1 u],[]⟩) (λ_ R s=>s.heap.get? l=some { cls:=.type "tuple",dict:=dct,data:=.seq items n,slots:=a }/\R (.ok (.ret (.ref l))) s):=
 .of_wp λprog w A R s h=>by
  obtain⟨b,h⟩:=h
  wp_walk using wpAny_loadPart' b
  exact⟨_,U,h⟩
theorem yE (l:Addr) (items:Array Value) (n:Nat) (dct:Option Addr) (f:Array (Option Value)) (x:Int) (u:Tok) (j:2<=x) (k:x<1000) (d:items.isEmpty=false) (m:items.size<=1000)
  (g:((qaC x.toNat items).foldl (λa b=>a++b) #[]).size<=qaH) :
  Meets (qff.«tuple.__mul__» ⟨[.ref l,.int x u],[]⟩) (λ_ R s=>s.heap.get? l=some { cls:=.type "tuple",dict:=dct,data:=.seq items n,slots:=f }/\
   R (.ok (.ret (.ref s.heap.objs.size))) { s with heap:=s.heap.push { cls:=.type "tuple",data:=.seq ((qaC x.toNat items).foldl (λa b=>a++b) #[]) } }):=
 .of_wp λprog w A R s h=>by
  obtain⟨c,h⟩:=h;have c1:(x < -(2^63)||x>=2^63)=false:=by simp;lia
  have c2:(items.isEmpty||x==1)=false:=by rw[d];simp;lia
  have c3:(x<=0||items.isEmpty)=false:=by rw[d];simp;lia
  have e:(items.size:Int)*x<=1000000:=by
   have o:(items.size:Int)*x<=1000*x:=qbT (by lia) (by lia);lia
  have i:¬ ((items.size:Int)*x > (2^63 - 1) / 8):=by lia
  have p:qi2 ((items.size:Int)*x)=false:=by
   exact decide_eq_false (by have:(qaH:Nat)=16777216:=rfl
                             lia)
  refine qe4 (decide_eq_false (by rw[c1];exact qa5)) ?_
  wp_walk using wpAny_loadPart' c
  refine qe4 (decide_eq_false (by rw[c2];exact qa5)) ?_;refine qe4 (decide_eq_false (by rw[c3];exact qa5)) ?_;refine qe4 (decide_eq_false i) ?_
  wp_walk using wpAny_loadPart' c
  exact⟨_,U,h⟩
theorem yF (l:Addr) (items:Array Value) (n:Nat) (dct:Option Addr) (a:Array (Option Value)) (u:Tok) (c:items.isEmpty=false) :
  Meets (qff.«tuple.__mul__» ⟨[.ref l,.int 0 u],[]⟩) (λ_ R s=>s.heap.get? l=some { cls:=.type "tuple",dict:=dct,data:=.seq items n,slots:=a }/\R (.ok (.ret (.ref s.heap.objs.size))) { s with heap:=s.heap.push { cls:=.type "tuple",data:=.seq #[] } }):=
 .of_wp λprog w A R s h=>by
  obtain⟨b,h⟩:=h
  wp_walk using wpAny_loadPart' b
  exact⟨_,U,h⟩
theorem lc:fillsNumberSlot (.type "tuple") "mul" = pure false:=
 PySem.fillsNumberSlot_seq qeF.lookup (by decide +kernel) F.slot_tuple_rmul.lookup (by decide +kernel)
theorem rW:seqRepeat? (.type "tuple")=pure (some (.builtin "tuple.__mul__")):=by
 rfl
theorem nL (a:Int) (t:Tok) (l:Addr) (items:Array Value) (n:Nat) (dct:Option Addr) (b:Array (Option Value)) :
  Meets (qff.«int.__rmul__» ⟨[.int a t,.ref l],[]⟩) (λ_ R s=>s.heap.get? l=some { cls:=.type "tuple",dict:=dct,data:=.seq items n,slots:=b }/\R (.ok (.ret Value.notImplemented)) s):=
 .of_wp λprog w A R s h=>by obtain⟨c,h⟩:=h;wp_walk using wpAny_loadPart' c;exact⟨_,U,h⟩
section
variable {X:Cx}
def FU (K:qae):R2:=λx y H Q=>∃ l k xs,x=.ref l/\y=.int k/\SqT K H l xs/\xs≠[]/\xs.length<=1000/\0<=k/\k<1000/\(k=1->Q (.ref l) H)/\
 (k≠1->∀ p,H p=none->Q (.ref p) (upd H p (.tup (qaC k.toNat xs).flatten)))
theorem BK:OpR X (qbQ .Mult) (FU X.K):=by
 intro z s P H x y v u Q I G J h;obtain⟨l,k,xs,rfl,rfl,E,f,w,M,F,L,B⟩:=h;cases G;obtain⟨t,rfl⟩:=J;obtain⟨a,C,p,N⟩:=I.tuple E;obtain⟨⟨c,dct,dt,j⟩,e,D,n,hd⟩:=p;subst D hd;have b:=C.length;refine qgV (by decide) ⟨_,e,U⟩ (λs'=>qga s' k t) lc qiZ qeW rW qiD.lookup
  (qdd qeW (qga s k t) qiF (qin _ _) (nL k t l a.toArray n dct j) ⟨e,U,⟨_,e,U⟩,?_⟩)
 by_cases m:k=1
 ·subst m
  exact qdd qeF ⟨_,e,U⟩ qfZ (qfC _ _) (AC l a.toArray n dct j t) ⟨e,.ref l,H,I,U,L U⟩
 ·have A:=by
   exact (kT a k.toNat [])
  have d:(qaC k.toNat xs).flatten.length<=qaH:=by
   rw[rh]
   have:k.toNat*xs.length<=1000*1000:=qde (by lia) w
   have O:qaH=16777216:=rfl;lia
  have i:(qaC k.toNat a).flatten.length<=qaH:=by
   rw[rh]at d ⊢;rw[<-b];exact d
  have g:a.toArray.isEmpty=false:=by
   cases a with
   |nil=>cases xs with
    |nil=>exact absurd U f
    |cons _ _=>cases b
   |cons _ _=>rfl
  by_cases r:k=0
  ·subst r
   refine qdd qeF ⟨_,e,U⟩ qfZ (qfC _ _) (yF l a.toArray n dct j t g) ⟨e,?_⟩;exact⟨.ref _,_,I.laid (o:=.tup []) (λ_ _ q=>qah _ q) (qan _) ⟨qby _,_,.nil,⟨_,qat _ U,U,⟨0,U⟩,U⟩⟩,U,B m _ I.fresh⟩
  refine qdd qeF ⟨_,e,U⟩ qfZ (qfC _ _) (yE l a.toArray n dct j k t (by lia) F ?_ (by rw[qaI];lia) (by rw[A];exact i)) ⟨e,?_⟩
  ·cases a with
   |nil=>cases xs with
    |nil=>exact absurd U f
    |cons _ _=>cases b
   |cons _ _=>rfl
  ·rw[A]
   refine⟨.ref _,_,I.laid (o:=.tup (qaC k.toNat xs).flatten) (λ_ _ q=>qah _ q) (qan _) ⟨d,_,C.rep k.toNat,⟨_,qat _ U,U,⟨0,U⟩,U⟩⟩,U,B m _ I.fresh⟩
end
section
variable {X:Cx}{K:qae}
theorem Fo (e:X.calm=true:=by rfl) (g:X.K=K:=by rfl):bN X (.builtin "sum") (λxs H Q=>∃ (a:Addr) (ns:List Int),xs=[.ref a]/\SqL K H a (ns.map V.int)/\Q (.int ns.sum) H):=by
 subst g;intro b s d H xs f Q I c h;exact yU b s d H xs f Q I c ⟨e,h⟩
theorem Fm (e:X.calm=true:=by rfl) (g:X.K=K:=by rfl):bN X (.builtin "all") (λxs H Q=>∃ (a:Addr) (bs:List Bool),xs=[.ref a]/\SqL K H a (bs.map V.bl)/\Q (.bl (bs.all id)) H):=by
 subst g;intro b s d H xs f Q I c h;exact yT b s d H xs f Q I c ⟨e,h⟩
end
section
variable {X:Cx}
end
section
variable {X:Cx}{e:Expr}{ty:TE}{p1 h k d b c a:Pos}{f g j i:Nat}
end
section
variable {prog:qaM}{w:World}{A:qaU}{E:Value->qai->Prop}{s:qai}
end
section
variable {X:Cx}
theorem Bp:bN X (.type "range") (λxs H Q=>∃ j:Int,xs=[.int j]/\∀ p,H p=none->Q (.ref p) (upd H p (.rng 0 j))):=by
 intro a s d H xs e Q I c h;obtain⟨j,rfl,q⟩:=h;cases c with
 |cons r b=>
  cases b;obtain⟨t,rfl⟩:=r;exact call_range_1 ⟨.ref _,_,I.laid (o:=.rng 0 j) (λ_ _ q=>qah _ q) (qan _) ⟨_,_,_,qat _ U⟩,U,q _ I.fresh⟩
end
section
variable {prog:qaM}{w:World}{A:qaU}{E:Value->qai->Prop}{s:qai}
end
section
variable {X:Cx}{e:Expr}{te:TE}{p1 b a pos:Pos}{j:Nat}
end
theorem aL.at {xs:List V}{b:List Value} (r:aL xs b):∀ (j:Nat) (h:j<b.length) ,∃ h':j<xs.length,aP xs[j] b[j]:=by
 induction r with
 |nil=>intro j h;exact absurd h (qcL j)
 |cons a t e=>
  intro j h;cases j with
  |zero=>exact⟨Nat.zero_lt_succ _,a⟩
  |succ j=>
   obtain⟨d,c⟩:=e j _;exact⟨Nat.succ_lt_succ d,c⟩
theorem mT (e:Nat->Bool) (n:Nat):(qam (n+1)).all e=(e 0&&(qam n).all λj=>e (j+1)):=by
 rw[qdy,qbx,qfA];rfl
section
variable {X:Cx}{K:qae}{c:List (Addr×Obj)}{d:St}{H:Hp}{s:qai}{A:qaU}{a b:Addr}{xs e:List V}
end
section
variable {X:Cx}{pos p1 c:Pos}{a b:Nat}
end
section
variable {K:qae}{H:Hp}
end
section
variable {X:Cx}{K:qae}
end
end L2
namespace HT
open PySem PySem.Spec PyProof.Rows L2
section
variable {prog:qaM}{w:World}{A:qaU}{E:Value->qai->Prop}{s:qai}
theorem getItem_tuple_all {t e:Addr}{items:Array Value}{g i:Value}{lo hi:Option Int}{Q:Value->qai->Prop} (a:IsTup s.heap t items) (f:s.heap.IsSliceOf e g i .none) (l:qgp g lo) (k:qgp i hi)
  (hw:sIx items.size 0 lo=0/\sIx items.size items.size hi=items.size) (h:Q (.ref t) s):wpAny (model prog w) A (qe8 (.ref t) (.ref e)) Q E s:=by
 obtain⟨os,d,c,j⟩:=id f;unfold qe8
 try with_reducible refine qcl ?_
 refine qac (qiI a.typeIs (by decide) ?_)
 refine qac (qbP a.typeIs qbI
  (qbY qbI a.typeIs qig ?_ (qiv _ _)))
 show wpAny _ _ (qe2 _ >>= _) _ _ s;refine qac (tupleItemsOf_ a ?_);refine qac (qhO ⟨os,d,c⟩ ?_);refine qac (gw f l k ?_);have b:(((sIx items.size 0 lo):Int)==0&&(1:Int)==1&&(sIx items.size items.size hi - sIx items.size 0 lo)==items.size)=true:=by
  rw[hw.1,hw.2]
  simp
 show wpAny _ _ (if _=true then _ else _) _ _ s;rw[iFP b];refine qac (qac (qhO a.typeIs (qaq ?_)))
 first
  |exact qac (qdM (qaq ⟨_,rfl,qaq h⟩))
  |exact qac _
  |exact qac _
  |exact qac _
end
end HT
namespace L2
open PySem PySem.Spec PyProof.Rows
def FW (K:qae):V->Option Int->Option Int->Hp->VK->Prop:=λx lo hi H Q=>∃ a xs,x=.ref a/\SqT K H a xs/\
 ((¬ (HT.sIx xs.length 0 lo=0/\HT.sIx xs.length xs.length hi=xs.length)/\∀ p,H p=none->Q (.ref p) (upd H p (.tup (uY xs lo hi))))\/
   ((HT.sIx xs.length 0 lo=0/\HT.sIx xs.length xs.length hi=xs.length)/\Q (.ref a) H))
theorem DF {X:Cx}{K:qae} (p:X.K=K:=by rfl):SlR X (FW K):=by
 subst p;intro c s n H x v m o lo hi l Q I g e i f h;obtain⟨a,xs,rfl,k,h⟩:=h;rcases h with⟨hw,q⟩|⟨hw,q⟩
 ·exact Ep c s n H _ v m o lo hi l Q I g e i f ⟨a,xs,U,k,hw,q⟩
 ·cases g
  obtain⟨d,r,j,t⟩:=I.tuple k;have b:d.toArray.size=xs.length:=by exact r.length.symm
  refine⟨"tuple",_,qbI.lookup,j.typeIs,?_⟩
  exact HT.getItem_tuple_all j e i f (by rw[b];exact hw) ⟨.ref a,H,I,U,q⟩
section
variable {X:Cx}{f:Scope}{Nc:List Str}{emb:St->St}{elt iter tg:Expr}{Y:List Expr}{pos:Pos}{wi:TI}{g:TG}{tt:TT}{te:TE}
theorem CV {i0:Nat}{x0:Str}{py spos:Pos} (hN0:X.N.Nodup) (hi0:X.N[i0]?=some x0) (hx0:Loc X.env.scope x0) (S:dS X f Nc emb) (hc:X.calm=true) (hi:PI X tg iter wi)
  (hg:∀ j s H C A,PG (lcX X f j Nc s H C A) tg g) (ht:∀ j s H C A,PTs (lcX X f j Nc s H C A) Y tt) (he:∀ j s H C A,PE (lcX X f j Nc s H C A) elt te)
  (hsw:qcD (.ListComp elt [⟨tg,iter,Y,0⟩] f pos) (some (.Name x0 py)) spos.line X.env=pure true:=by rfl)
  (hf0:X.fn x0=true\/X.env.scope.names.lookup x0=some .local:=by first|exact .inl U|exact .inr U|assumption)
  (hs:∀ x,qbZ iter X.env x=pure x:=by intro _;rfl):PS X (.Assign [.Name x0 py] (.ListComp elt [⟨tg,iter,Y,0⟩] f pos) spos) (Ew (tLc emb wi g tt te) (tB i0)):=by
 intro B s σ H DD I h;rw[exec_Assign_Name_used _ _ _ _ hsw];refine qac (qeI (qac ?_));refine qac (qcA (qg7 U hs (jq (S.clos I.ok)) S.kind (λx hx hl=>d6 S.nd (by rw[<-hl];exact hx)) ?_) (λ_ s' hq=>qaq (qaq hq)) λ_ _ e=>e);refine thn (hi B s σ H _ I h) λv s1 h1=>thn h1 λitv R h2=>?_;obtain⟨it,A,tn,J,H2,e,I2,T,st2,f2,W,⟨m0,w0⟩,turn⟩:=h2;subst e;refine qcw (ku ?_);rw[qbp ..];generalize hD:R.heap.objs.size=D;generalize hlo:({ cls:=.type "list",dict:=none,data:=.seq ([]:List Value).toArray }:Obj)=lo
 have fplt:∀ b∈A,b<R.heap.objs.size:=λb hb=>by obtain⟨o,e,_⟩:=T.obj _ _ st2 b hb;exact qau e
 have I3:=ua (lo:=lo) S I2 f2 (λb hb=>by obtain⟨o,e,_⟩:=T.obj _ _ st2 b hb;exact⟨o,e⟩) (by rw[<-hlo];intro v z;cases z) (by rw[<-hlo];rfl);rw[hD]at I3;generalize hcells:qcE (D+2) f.names _=j at I3;generalize d:lcX X f j Nc R H2 (D+1) A=X' at I3;have Q:∀ {H':Hp}{ps:List (Addr×Obj)},(∀ b∈A,H' b=none)->(∀ p∈ps,p.1=D)->∀ b∈A,ji X' ps H' b:=λ{H' ps} hn L b hb=>by
  have ok:=I3.ok;refine⟨hn b hb,?_,?_,.inl (by rw[<-d];exact hb),?_,λp O=>?_⟩
  ·exact (ok.exf b (by rw[<-d];exact hb)).1
  ·exact ok.exfs b (by rw[<-d];exact hb)
  ·exact (ok.exf b (by rw[<-d];exact hb)).2
  ·have hp':p∈([])++ps:=by rw[<-d]at O;exact O
   rw[(L p (by simpa using hp')),<-hD];exact qch (fplt b hb)
 have Dex:D∈X'.ex\/X'.s₀.heap.objs.size<=D:=.inr (by rw[<-d,<-hD];exact qan _);have Dloc:D≠X'.env.locals:=by rw[<-d];exact qaA (qb5 _)
 have pD:=I3.pin (D,lo) (by rw[<-d];exact qaw _ qag);have Dcell:∀ x c,X'.env.cells.lookup x=some c->c≠D:=λx c hc' e=>by
  obtain⟨v,o,ho,hd⟩:=I3.cell x c hc';rw[e,pD.1]at ho;cases ho;exact pD.2.2.2.2 v hd
 -- the P
 have P:∀ s3:qai,s3={ R with heap:=qe6 ((R.heap.push lo).push { cls:=.type "dict",data:=.dict #[] }) f.names }->
   qea (model X.prog X.w) X.A (.compLoop (.ListComp elt [⟨tg,iter,Y,0⟩] f pos) 0 (.ref it) (.ref D) (qhs f j (D+1) X.env))
    (compPost (model X.prog X.w) X.A X.xe (some (qgl (.Name x0 py) X.env)) (λ_ s'=>SP X B DD .next s') (.ref D) (D+1)) s3:=by
  rintro s3 rfl
  refine dq (λn s'=>∃ i K l k H',Inv X' [(D,{ cls:=.type "list",data:=.seq l.toArray k })] (emb σ) H' s'/\aL K l/\tn i s'.heap/\(∀ b∈A,H' b=none)/\K.length<=qaH/\W i n K H') ?_ m0
   ⟨0,[],[],0,H2,?_,.nil,?_,λb hb=>(f2 b hb).1,qby _,w0⟩
  ·rintro n s4 ⟨i,K,l,k,H4,I4,rv,st4,fr4,hlen,w4⟩
   have L:∀ p∈[(D,({ cls:=.type "list",data:=.seq l.toArray k }:Obj))],p.1=D:=λp O=>by
    have:=qal.mp O
    rw[this]
   rcases turn i n K H4 w4 with⟨stop,qn⟩|⟨go,hlt,N,hN,step⟩
   ·-- the end
    have TD:=T.done X' (by rw[<-d];rfl) (by rw[<-d];rfl) (by rw[<-d];rfl) (by rw[<-d];exact hc) i _ s4 (emb σ) H4 (λ_ _=>False) I4 (Q fr4 L) st4 stop;rw[show X'.A=X.A by rw[<-d];rfl]at TD;refine thn TD λr s5 ⟨hr,I5⟩=>?_;subst hr;obtain⟨m5,hn5,_⟩:=id I5.loc;have eC:X'.env.locals=D+1:=by rw[<-d];rfl
    rw[eC]at hn5
    suffices inv5:∀ h',qdm (D+1) s5.heap h'->Inv X B σ (upd H4 D (.lst K)) { s5 with heap:=h' } by
     have I5X:Inv X B σ (upd H4 D (.lst K)) s5:=inv5 s5.heap ⟨U,λ_ _=>rfl⟩;have hD4':H4 D=none:=(I5.pin (D,{ cls:=.type "list",data:=.seq l.toArray k }) (by rw[<-d];exact qaw _ qag)).2.1
     have hC4:upd H4 D (.lst K) (D+1)=none:=by
      have:=I5.free
      rw[eC]at this;rw[upd_ne (qch (qb5 D))];exact this
     have fpC:∀ b∈[D+1],ji X B (upd H4 D (.lst K)) b:=λb hb=>by
      have e:=qal.mp hb;subst e;exact I2.fpOk (by rw[hD];exact qdk D) hC4
     obtain⟨oC,esC,epC,getC,datC,relC⟩:=id hn5;have I5p:=I5X.pinned fpC λb hb=>by
      have e:=qal.mp hb;subst e;exact⟨oC,getC,λv z=>by rw[datC]at z;cases z⟩
     refine qiK (iX I5p hN0 hi0 hx0 (v:=.ref D) U (λs6 I6=>?_) hf0);have pC:=(I6.pin (D+1,oC) (qaw _ (qaw _ (cM qag getC)))).1;refine⟨m5,⟨oC,esC,epC,pC,datC,relC⟩,λh' E=>?_⟩;have I6u:=I6.unpinned;exact⟨_,_,I6u.turns (t':=s6.toks) fpC (λb o hb e=>(E.2 b (λz=>hb (by rw[z];exact qag))).trans e),qn D hD4'⟩
    intro h' E;have pD5:=I5.pin (D,{ cls:=.type "list",data:=.seq l.toArray k }) (by rw[<-d];exact qaw _ qag)
    have neC:∀ b u,H4 b=some u->b≠D+1:=λb u e z=>by
     have:=I5.free
     rw[eC,<-z,e]at this;cases this
    have hD4:H4 D=none:=pD5.2.1;have un:=I5.base;have F:Un (frs X.stack) A H2 H4 R.heap s5.heap:=by rw[<-d]at un;exact un
    have w:∀ b o,R.heap.get? b=some o->b≠D/\b≠D+1:=λb o e=>by
     have q:=qau e;rw[hD]at q;exact⟨qaA q,qaA (qa1 q)⟩
    have h2D:H2 D=none:=by rw[<-hD];exact I2.fresh
    have hok':HOk X.prog X.w H4 h':=λb u e=>by
     have ob:cA X.prog X.w H4 s5.heap b u:=by have:=I5.hok b u e;rw[<-d]at this;exact this
     refine ob.stay (λc v hcv q=>(E.2 c ?_).trans q) (λ_ q=>q) λ_ _ q=>q;rcases hcv with z|z
     ·rw[z];exact neC b u e
     ·exact neC c _ z
    have hokD:HOk X.prog X.w (upd H4 D (.lst K)) h':=λb u e=>by
     by_cases hb:b=D
     ·subst hb
      rw[upd_same]at e;cases e;exact⟨hlen,l,k,rv,(E.2 b (qaA (qb5 _))).trans pD5.1⟩
     ·rw[upd_ne hb]at e
      refine (hok' b u e).stay (λ_ _ _ q=>q) (λc q=>?_) λc z q=>?_
      all_goals first
       |(rw[upd_ne (aO q hD4)];exact q)
       |(rw[upd_ne (aO z hD4)];exact z)
    refine I2.call' (s':={ s5 with heap:=h' }) (ch:=A) ?_ ⟨λb o e nb hb hx=>?_,λb o e nb hb hx=>?_,λb o e nb hx=>?_,λb o e hx=>?_,λb xs e=>?_,λb o u e=>?_,λb ps e=>?_⟩ hokD I5.bare (λb hb=>?_)
    ·have:=I5.os
     rw[<-d]at this;exact this
    ·exact (E.2 b (w b o e).2).trans (F.keep b o e nb hb hx)
    ·obtain⟨sl,q⟩:=F.slot b o e nb hb hx
     exact⟨sl,(E.2 b (w b o e).2).trans q⟩
    ·rw[upd_ne (w b o e).1]
     exact F.free b o e nb hx
    ·obtain⟨o',q⟩:=F.there b o e hx
     exact⟨o',(E.2 b (w b o e).2).trans q⟩
    ·rw[upd_ne (aO e h2D)]
     exact F.tups b xs e
    ·rw[upd_ne (aO e h2D)]
     exact F.frzs b o u e
    ·obtain⟨m,q⟩:=F.tbls b ps e
     exact⟨m,by rw[upd_ne (aO e h2D)];exact q⟩
    ·obtain⟨q0,q1,q2,q3,q4,q5⟩:=f2 b hb
     exact⟨q3,q1,q4,q5⟩
   ·-- a turn
    have hA:X'.A=X.A:=by rw[<-d];rfl
    have hP:X'.prog=X.prog:=by rw[<-d];rfl
    have hw:X'.w=X.w:=by rw[<-d];rfl
    have hE:X'.env=qhs f j (D+1) X.env:=by rw[<-d];rfl
    have hxe:X'.xe=λ_ _=>False:=by rw[<-d];rfl
    have TI':=T.item X' hP hw (by rw[<-d];rfl) (by rw[<-d];exact hc) i _ s4 (emb σ) H4 (λ_ _=>False) I4 (Q fr4 L) st4 go;rw[hA]at TI';refine thn TI' λr s5 ⟨u,hr,h5⟩=>?_;subst hr;refine thn h5 λ_ s6 ⟨x,H6,I6,r6,y6,st6,fr6⟩=>?_;have I6':=I6.pinned (Q fr6 L) (T.obj _ _ st6);have G:=hg j R H2 (D+1) A;have TT':=ht j R H2 (D+1) A;have EE:=he j R H2 (D+1) A;rw[d]at G TT' EE;have G':=G _ s6 (emb σ) H6 x u _ I6' r6 (step x H6 y6);rw[hA,hP,hw,hE,hxe]at G';refine thn G' λ_ s7 ⟨σ7,H7,I7,sb7,q7⟩=>?_;have T':=TT' _ s7 σ7 H7 _ I7 q7;rw[hA,hP,hw,hE,hxe]at T';refine thn T' λok s8 ⟨H8,I8,q8⟩=>?_
    -- what is pinned
    have t:∀ {σ9:St}{H9:Hp}{V:qai},Inv X' ([(D,({ cls:=.type "list",data:=.seq l.toArray k }:Obj))]++om A s6.heap) σ9 H9 V->tn (i+1) V.heap/\∀ b∈A,H9 b=none:=λ{σ9 H9 V} I9=>
     ⟨T.keep _ _ _ st6 λb hb o e=>(I9.pin (b,o) (qaw _ (qaw _ (cM hb e)))).1,λb hb=>by
      obtain⟨o,e,_⟩:=T.obj _ _ st6 b hb
      exact (I9.pin (b,o) (qaw _ (qaw _ (cM hb e)))).2.1⟩
    cases ok with
    |false=>
     rw[iFN (by decide)]at q8;rw[iFN (by decide)];obtain⟨m',hm,w8⟩:=hN _ _ q8;exact⟨m',hm,i+1,K,l,k,H8,I8.unpinned.weak sb7.1 sb7.2,rv,(t I8).1,(t I8).2,hlen,w8⟩
    |true=>
     rw[iFP U]at q8;rw[iFP U];have E':=EE _ s8 σ7 H8 _ I8 q8;rw[hA,hP,hw,hE,hxe]at E';refine thn E' λy V ⟨v9,H9,I9,r9,n9⟩=>?_;obtain⟨m',hm,w9⟩:=hN _ _ n9;have M:=I9.pin (D,{ cls:=.type "list",data:=.seq l.toArray k }) (qaw _ (qa0 _ qag))
     have hl:=rv.length;have I9n:Inv X' [] σ7 H9 V:=I9.pins_of λp O=>nomatch O
     refine qdd qfB ⟨_,M.1,U⟩ qfo (qfd _ _) (qfk D l.toArray k y (by rw[qaI];lia)) ⟨M.1,?_⟩;have up:∃ k':Nat,(V.heap.update D (qcT λxs=>xs.push y)).get? D=some { cls:=.type "list",data:=.seq (l++[y]).toArray k' }:=by
      have q:=qfb M.1 (λxs:Array Value=>xs.push y);simp only[qhH]at q;exact⟨_,q⟩
     obtain⟨k',up⟩:=up;have hoth:∀ b o,b≠D->V.heap.get? b=some o->(V.heap.update D (qcT λxs=>xs.push y)).get? b=some o:=λb o hb e=>(qbn V.heap _ (qbz hb)).trans e;have I10:=I9n.turned (t':=V.toks) hoth M.2.1 Dloc Dex Dcell (λp O=>absurd (show p∈([]:List (Addr×Obj)) by rw[<-d]at O;exact O) (by simp));refine⟨m',hm,i+1,K++[v9],l++[y],k',H9,(I10.weak sb7.1 sb7.2).pins_of (λp O=>?_),rv.append (.cons r9 .nil),T.keep _ _ _ (t I9).1 (λb hb o e=>hoth b o (by rw[<-hD];exact qaA (fplt b hb)) e),(t I9).2,?_,w9⟩
     ·have:=qal.mp O
      subst this;exact⟨up,M.2.1,Dloc,(pD.2.2.2.1),λv z=>by cases z⟩
     ·rw[qax,qcc]
      lia
  ·rw[<-hlo.symm]
   exact I3
  ·exact T.keep _ _ _ st2 λb hb o e=>qc9 _ _ b o (qah _ (qah _ e))
 refine qhB ?_ ?_
 ·exact P _ U
 ·refine T.self X.A 0 _ _ _ (T.keep _ _ _ st2 λb hb o e=>qc9 _ _ b o (qah _ (qah _ e))) ?_
  exact P _ U
end
def aC:Expr->Bool
 |.Starred _ _=>false
 |_=>true
theorem aV {e:Expr}{es:List Expr}{env:Env} (h:aC e=true):qbF (e::es) env=(false,eval e env)::qbF es env:=by
 cases e<;>first|(cases h;done)|rfl
theorem bx {pos:Pos}{env:Env}:∀ {es:List Expr},es.all aC=true->(qe9 pos (qbF es env)).any (·.1)=false
 |[],_=>by simp[qbF,qe9]
 |e::es,h=>by
  rw[qbx,qaX]at h;rw[aV h.1]
  have:=bx (pos:=pos) (env:=env) h.2
  unfold qe9 at this ⊢;rw[qas,qcr,this];rfl
theorem uI {pos:Pos}{env:Env}{es:List Expr} (h:es.all aC=true) (b:es.length < 30):((qe9 pos (qbF es env)).all (λx=>!x.1) && (qiu pos (qgJ [] env)).all (λx=>x.1.isSome)
   && decide (es.length+([]:List qik).length+(if ([]:List qik).isEmpty then 0 else 1)<30))=true:=by
 have d:(qe9 pos (qbF es env)).all (λx=>!x.1)=true:=by
  have:=bx (pos:=pos) (env:=env) h
  rw[qaW];intro x c;rw[qhJ]at this;simpa using this x c
 have a:(qiu pos (qgJ [] env)).all (λx=>x.1.isSome)=true:=by simp[qgJ,qiu]
 rw[d,a];simpa using b
theorem iW {e:Expr}{env:Env} (h:aC e=true):qbF [e] env=[(false,eval e env)]:=by rw[aV h];rfl
theorem As {e a:Expr}{env:Env} (h:aC e=true) (b:aC a=true):qbF [e,a] env=[(false,eval e env),(false,eval a env)]:=by rw[aV h,iW b]
def zY:Expr->Bool
 |.UnaryOp .Not _ _=>false
 |.BoolOp _ _ _=>false
 |.IfExp _ _ _ _=>false
 |.Compare _ _ _ _=>false
 |_=>true
theorem yG {a:Expr}{env:Env} (h:zY a=true):∀ whole,PySem.isTrue a env whole=(do let v <-whole;qjV a.pos;qgb [v] (truthy v)):=by
 intro whole;cases a with
 |UnaryOp op x p=>cases op<;>first|(cases h;done)|rfl
 |BoolOp _ _ _=>cases h
 |IfExp _ _ _ _=>cases h
 |Compare _ _ _ _=>cases h
 |_=>rfl
theorem mU {t:Expr}{ts:List Expr}{env:Env} (h:aC t=true):qb0 (t::ts) env=(false,qgl t env)::qb0 ts env:=by
 cases t<;>first|(cases h;done)|rfl
theorem pT {env:Env}:∀ {ts:List Expr},ts.all aC=true->(qb0 ts env).length=ts.length
 |[],_=>by simp[qb0]
 |t::ts,h=>by
  rw[qbx,qaX]at h;rw[mU h.1,qap,pT h.2,qap]
theorem mV {env:Env}:∀ {ts:List Expr},ts.all aC=true->(qb0 ts env).findIdx? (·.1)=none
 |[],_=>by simp[qb0]
 |t::ts,h=>by
  rw[qbx,qaX]at h;rw[mU h.1,List.findIdx?_cons,mV h.2];rfl
theorem v8 {t:Expr}{ts:List Expr}{env:Env} (h:aC t=true):(qb0 (t::ts) env).map (·.2)=qgl t env::(qb0 ts env).map (·.2):=by rw[mU h];rfl
theorem l6 {t:Expr}{env:Env} (h:aC t=true):(qb0 [t] env).map (·.2)=[qgl t env]:=by rw[v8 h];simp[qb0]
def rP:Expr->Bool
 |.Slice _ _ _ _=>false
 |_=>true
theorem pU {o i:Expr}{pos:Pos}{env:Env} (h:rP i=true) (v:Value):qgl (.Subscript o i pos) env v=(do
   let ov <-qgb [v] (eval o env)
   let iv <-qgb [v,ov] (eval i env)
   qjV pos
   qgb [v,ov,iv] (qjX ov iv v)
   release [v,ov,iv] []):=by
 cases i<;>first|(cases h;done)|rfl
theorem tZ {i:Expr} (h:rP i=true):vY i:=by
 intro o j;cases i<;>first|(cases h;done)|rfl
inductive D where
 |non|bl (b:Bool)|int (i:Int)|str (x:Str)|ty (n:String)|dct|scr (ns:List Int)|tup (ds:List D)|lst (ds:List D)|ob (ns:List Str) (ds:List D)
 deriving Inhabited
inductive W where
 |d (x:D)|h (n:Nat)
 deriving Inhabited
inductive C where
 |l (ds:List D)|n (ws:List W)|m (kvs:List (List Int×D))|k (kvs:List (Int×D))|o (fs:List (Str×W))
 deriving Inhabited
abbrev Sto:=List C
def lg (st:Sto) (n:Nat):Option (List D):=match st[n]? with
 |some (.l ds)=>some ds
 |_=>none
def ie (l:List Int):List Key:=l.map Sum.inl
abbrev Ev:=List (Option W)
def KLs (K:qae) (a:Addr) (xs:List V):Prop:=
 ∃ (o:Obj) (b:Array Value) (n:Nat),K.lookup a=some o/\o.cls=.type "list"/\o.dict=none/\o.data=.seq b n/\b.size<=qaH/\aL xs b.toList
section
variable (K:qae) (H:Hp) (φ:List Addr)
mutual
def Rl:D->V->Prop
 |.non,v=>v=.non
 |.bl b,v=>v=.bl b
 |.int i,v=>v=.int i
 |.str x,v=>v=.str x
 |.ty n,v=>v=.ty n
 |.dct,v=>∃ a,v=.ref a/\a∉φ/\((∃ d,H a=some (.dK d))\/∃ d,H a=some (.dT d))
 |.scr ns,v=>∃ a,v=.ref a/\((∃ o,H a=some (.frz o (.lst (ns.map V.int))))\/KLs K a (ns.map V.int))
 |.tup ds,v=>∃ a vs,v=.ref a/\H a=some (.tup vs)/\Rls ds vs
 |.lst ds,v=>∃ a vs,v=.ref a/\a∉φ/\Rd H a (.lst vs)/\Rls ds vs
 |.ob ns ds,v=>∃ a Cl dx fs vs,v=.ref a/\a∉φ/\H a=some (.ins Cl dx fs)/\fs=ns.zip vs/\ns.length=vs.length/\5<ns.length/\Cls K Cl/\(∀ f∈ns,cF K Cl f)/\Rls ds vs
def Rls:List D->List V->Prop
 |[],vs=>vs=[]
 |d::ds,vs=>∃ v r,vs=v::r/\Rl d v/\Rls ds r
end
def Rw:W->V->Prop
 |.d x,v=>Rl K H φ x v
 |.h n,v=>∃ a,φ[n]?=some a/\v=.ref a
def Rws:List W->List V->Prop
 |[],vs=>vs=[]
 |d::ds,vs=>∃ v r,vs=v::r/\Rw K H φ d v/\Rws ds r
def Rkv:List (List Int×D)->List (List Key×V)->Prop
 |[],vs=>vs=[]
 |(k,d)::ds,vs=>∃ v r,vs=(ie k,v)::r/\Rl K H φ d v/\Rkv ds r
def Rkk:List (Int×D)->List (Key×V)->Prop
 |[],vs=>vs=[]
 |(k,d)::ds,vs=>∃ v r,vs=(Sum.inl k,v)::r/\Rl K H φ d v/\Rkk ds r
def Rfs:List (Str×W)->List (Str×V)->Prop
 |[],vs=>vs=[]
 |(k,d)::ds,vs=>∃ v r,vs=(k,v)::r/\Rw K H φ d v/\Rfs ds r
def Rc (k:Nat) (a:Addr):C->Prop
 |.l ds=>∃ vs,H a=some (.lst vs)/\Rls K H φ ds vs
 |.n ws=>∃ vs,H a=some (.lst vs)/\Rws K H φ ws vs/\∀ m,W.h m∈ws->m<k
 |.m e=>∃ vs,H a=some (.dT vs)/\Rkv K H φ e vs
 |.k e=>∃ vs,H a=some (.dK vs)/\Rkk K H φ e vs
 |.o fs=>∃ Cl dx vs,H a=some (.ins Cl dx vs)/\Rfs K H φ fs vs/\(∀ m,W.h m∈fs.map (·.2)->m<k)/\Cls K Cl/\∀ p∈fs,cF K Cl p.1
structure Sr (st:Sto):Prop where
 nd:φ.Nodup
 len:φ.length=st.length
 at_:∀ (n:Nat) a c,φ[n]?=some a->st[n]?=some c->Rc K H φ n a c
structure Er (env:Ev) (σ:St):Prop where
 len:env.length=σ.length
 at_:∀ (i:Nat) w,env[i]?=some (some w)->∃ v,σ[i]?=some (some v)/\Rw K H φ w v
end
structure Fw (φ φ':List Addr) (H H':Hp):Prop where
 ext:∃ ψ,φ'=φ++ψ/\∀ a∈ψ,H a=none
 keep:∀ b o,b∉φ->H b=some o->H' b=some o
 there:∀ b o,H b=some o->∃ o',H' b=some o'
section
variable {K:qae}{H H1 H2 H':Hp}{φ y t φ':List Addr}{st P:Sto}
theorem Fw.refl (φ:List Addr) (H:Hp):Fw φ φ H H:=⟨⟨[],by simp,by simp⟩,λ_ _ _ h=>h,λ_ o h=>⟨o,h⟩⟩
theorem Fw.trans (a:Fw φ y H H1) (b:Fw y t H1 H2):Fw φ t H H2:=by
 obtain⟨ψ,rfl,g⟩:=a.ext;obtain⟨R,rfl,j⟩:=b.ext;refine⟨⟨_,by rw[qcK],λc B=>?_⟩,λc o B h=>?_,λc o h=>?_⟩
 ·rcases qaK.mp B with z|z
  ·exact g c z
  ·cases q:H c with
   |none=>rfl
   |some o=>
    obtain⟨N,I⟩:=a.there c o q;rw[j c z]at I;cases I
 ·refine b.keep c o (λz=>?_) (a.keep c o B h)
  rcases qaK.mp z with z|z
  ·exact B z
  ·rw[g c z]at h;cases h
 ·obtain⟨N,q⟩:=a.there c o h
  exact b.there c N q
theorem Fw.same (s:aS H H'):Fw φ φ H H':=⟨⟨[],by simp,by simp⟩,λb o _ h=>s b o h,λb o h=>⟨o,s b o h⟩⟩
theorem Fw.new {p:Addr}{o:HO} (E:H p=none):Fw φ φ H (upd H p o):=.same (aS.new E o)
theorem Fw.get (f:Fw φ φ' H H') {n:Nat}{a:Addr} (h:φ[n]?=some a):φ'[n]?=some a:=by
 obtain⟨ψ,rfl,_⟩:=f.ext;rw[qaE (qar.mp h).1];exact h
theorem Fw.nin (f:Fw φ φ' H H') {a:Addr}{o:HO} (h:a∉φ) (q:H a=some o):a∉φ':=by
 obtain⟨ψ,rfl,e⟩:=f.ext;intro z;rcases qaK.mp z with z|z
 ·exact h z
 ·rw[e a z]at q;cases q
def Fz:HO->Bool
 |.lst _=>true
 |.dT _=>true
 |.dK _=>true
 |.ins _ _ _=>true
 |_=>false
theorem Rc.ob {k:Nat}{a:Addr}{c:C} (h:Rc K H φ k a c):∃ o,H a=some o/\Fz o=true:=by
 cases c with
 |l ds=>obtain⟨vs,q,_⟩:=h;exact⟨_,q,U⟩
 |n ds=>obtain⟨vs,q,_⟩:=h;exact⟨_,q,U⟩
 |m ds=>obtain⟨vs,q,_⟩:=h;exact⟨_,q,U⟩
 |k ds=>obtain⟨vs,q,_⟩:=h;exact⟨_,q,U⟩
 |o ds=>obtain⟨_,_,vs,q,_⟩:=h;exact⟨_,q,U⟩
theorem Sr.lst (S:Sr K H φ st) {a:Addr} (h:a∈φ):∃ o,H a=some o/\Fz o=true:=by
 obtain⟨n,hn,e⟩:=qcG.mp h;have O:n<st.length:=by rw[<-S.len];exact hn
 exact (S.at_ n a st[n] (by rw[qao hn,e]) (by rw[qao O])).ob
theorem wP {st:Sto}{n:Nat}{ds:List D} (h:lg st n=some ds):st[n]?=some (.l ds):=by
 unfold lg at h;split at h
 ·rename_i q;cases h;exact q
 ·cases h
theorem Sr.atl (S:Sr K H φ st) (n:Nat) (a:Addr) (ds:List D) (g:φ[n]?=some a) (j:lg st n=some ds):∃ vs,H a=some (.lst vs)/\Rls K H φ ds vs:=S.at_ n a _ g (wP j)
theorem Sr.nin (S:Sr K H φ st) {a:Addr} (h:H a=none):a∉φ:=λz=>by
 obtain⟨vs,q,_⟩:=S.lst z;rw[q]at h;cases h
theorem Rd.nin (S:Sr K H φ st) {a:Addr}{vs:List V} (h:Rd H a (.tup vs)):a∉φ:=λz=>by
 obtain⟨ws,q,qm⟩:=S.lst z;rcases h with h|⟨o,h⟩<;>(rw[q]at h;cases h;cases qm)
theorem Rd.fw (f:Fw φ φ' H H') {a:Addr}{u:HO} (hn:a∉φ) (h:Rd H a u):Rd H' a u:=by
 rcases h with h|⟨o,h⟩
 ·exact .inl (f.keep _ _ hn h)
 ·exact .inr ⟨o,f.keep _ _ hn h⟩
theorem SqT.fw (S:Sr K H φ st) (f:Fw φ φ' H H') {a:Addr}{vs:List V} (h:SqT K H a vs):SqT K H' a vs:=by
 rcases h with h|h
 ·exact .inl (f.keep _ _ (Rd.nin S (.inl h)) h)
 ·exact .inr h
theorem Rd.some {a:Addr}{u:HO} (h:Rd H a u):∃ o,H a=some o:=by
 rcases h with h|⟨o,h⟩
 ·exact⟨_,h⟩
 ·exact⟨_,h⟩
mutual
theorem Rl.fw (S:Sr K H φ st) (f:Fw φ φ' H H'):∀ {d:D}{v:V},Rl K H φ d v->Rl K H' φ' d v
 |.non,_,h=>h
 |.bl _,_,h=>h
 |.int _,_,h=>h
 |.str _,_,h=>h
 |.ty _,_,h=>h
 |.dct,_,h=>by
  obtain⟨a,rfl,hn,h⟩:=h;rcases h with⟨d,h⟩|⟨d,h⟩
  ·exact⟨a,U,f.nin hn h,.inl ⟨d,f.keep _ _ hn h⟩⟩
  ·exact⟨a,U,f.nin hn h,.inr ⟨d,f.keep _ _ hn h⟩⟩
 |.scr ns,_,h=>by
  obtain⟨a,rfl,h⟩:=h;refine⟨a,U,?_⟩;rcases h with⟨o,h⟩|h
  ·refine .inl ⟨o,f.keep _ _ (λz=>?_) h⟩
   obtain⟨ws,q,qm⟩:=S.lst z;rw[q]at h;cases h;cases qm
  ·exact .inr h
 |.tup ds,_,h=>by
  obtain⟨a,vs,rfl,h1,h2⟩:=h;exact⟨a,vs,U,f.keep _ _ (Rd.nin S (.inl h1)) h1,Rls.fw S f h2⟩
 |.lst ds,_,h=>by
  obtain⟨a,vs,rfl,h0,h1,h2⟩:=h;obtain⟨o,e⟩:=h1.some;exact⟨a,vs,U,f.nin h0 e,h1.fw f h0,Rls.fw S f h2⟩
 |.ob ns ds,_,h=>by
  obtain⟨a,Cl,dx,fs,vs,rfl,h0,h1,h2,h3,h4,h5,h7,h6⟩:=h;exact⟨a,Cl,dx,fs,vs,U,f.nin h0 h1,f.keep _ _ h0 h1,h2,h3,h4,h5,h7,Rls.fw S f h6⟩
theorem Rls.fw (S:Sr K H φ st) (f:Fw φ φ' H H'):∀ {ds:List D}{vs:List V},Rls K H φ ds vs->Rls K H' φ' ds vs
 |[],_,h=>h
 |d::ds,_,h=>by
  obtain⟨v,r,rfl,h1,h2⟩:=h;exact⟨v,r,U,Rl.fw S f h1,Rls.fw S f h2⟩
end
theorem Rw.fw (S:Sr K H φ st) (f:Fw φ φ' H H') {w:W}{v:V} (h:Rw K H φ w v):Rw K H' φ' w v:=by
 cases w with
 |d x=>exact Rl.fw S f h
 |h n=>obtain⟨a,e,rfl⟩:=h;exact⟨a,f.get e,U⟩
theorem Rws.fw (S:Sr K H φ st) (f:Fw φ φ' H H'):∀ {ws:List W}{vs:List V},Rws K H φ ws vs->Rws K H' φ' ws vs
 |[],_,h=>h
 |d::ds,_,h=>by
  obtain⟨v,r,rfl,h1,h2⟩:=h;exact⟨v,r,U,h1.fw S f,Rws.fw S f h2⟩
theorem Er.fw (S:Sr K H φ st) (f:Fw φ φ' H H') {env:Ev}{J:St} (h:Er K H φ env J):Er K H' φ' env J:=
 ⟨h.len,λi w e=>let ⟨v,g,r⟩:=h.at_ i w e;⟨v,g,r.fw S f⟩⟩
theorem Rkv.fw (S:Sr K H φ st) (f:Fw φ φ' H H'):∀ {ds:List (List Int×D)}{vs:List (List Key×V)},Rkv K H φ ds vs->Rkv K H' φ' ds vs
 |[],_,h=>h
 |(k,d)::ds,_,h=>by
  obtain⟨v,r,rfl,h1,h2⟩:=h;exact⟨v,r,U,Rl.fw S f h1,Rkv.fw S f h2⟩
theorem Rkk.fw (S:Sr K H φ st) (f:Fw φ φ' H H'):∀ {ds:List (Int×D)}{vs:List (Key×V)},Rkk K H φ ds vs->Rkk K H' φ' ds vs
 |[],_,h=>h
 |(k,d)::ds,_,h=>by
  obtain⟨v,r,rfl,h1,h2⟩:=h;exact⟨v,r,U,Rl.fw S f h1,Rkk.fw S f h2⟩
theorem Rfs.fw (S:Sr K H φ st) (f:Fw φ φ' H H'):∀ {ds:List (Str×W)}{vs:List (Str×V)},Rfs K H φ ds vs->Rfs K H' φ' ds vs
 |[],_,h=>h
 |(k,d)::ds,_,h=>by
  obtain⟨v,r,rfl,h1,h2⟩:=h;exact⟨v,r,U,h1.fw S f,Rfs.fw S f h2⟩
theorem Rc.fw (S:Sr K H φ st) (f:Fw φ φ' H H') {k:Nat}{a:Addr}{c:C} (e:∀ o,H a=some o->H' a=some o) (h:Rc K H φ k a c):Rc K H' φ' k a c:=by
 cases c with
 |l ds=>obtain⟨vs,q,r⟩:=h;exact⟨vs,e _ q,r.fw S f⟩
 |n ds=>obtain⟨vs,q,r,b⟩:=h;exact⟨vs,e _ q,r.fw S f,b⟩
 |m ds=>obtain⟨vs,q,r⟩:=h;exact⟨vs,e _ q,r.fw S f⟩
 |k ds=>obtain⟨vs,q,r⟩:=h;exact⟨vs,e _ q,r.fw S f⟩
 |o ds=>obtain⟨Cl,dx,vs,q,r,b⟩:=h;exact⟨Cl,dx,vs,e _ q,r.fw S f,b⟩
theorem Sr.same (S:Sr K H φ st) (s:aS H H'):Sr K H' φ st:=
 ⟨S.nd,S.len,λn a c g j=>(S.at_ n a c g j).fw S (Fw.same s) λo h=>s _ _ h⟩
theorem Sr.new (S:Sr K H φ st) {p:Addr}{o:HO} (E:H p=none):Sr K (upd H p o) φ st:=S.same (aS.new E o)
theorem Rls.length:∀ {ds:List D}{vs:List V},Rls K H φ ds vs->ds.length=vs.length
 |[],_,h=>by cases h;rfl
 |d::ds,_,h=>by
  obtain⟨v,r,rfl,h1,h2⟩:=h;rw[qap,qap,Rls.length h2]
theorem Rws.length:∀ {ds:List W}{vs:List V},Rws K H φ ds vs->ds.length=vs.length
 |[],_,h=>by cases h;rfl
 |d::ds,_,h=>by
  obtain⟨v,r,rfl,h1,h2⟩:=h;rw[qap,qap,Rws.length h2]
theorem Rls.append:∀ {ds es:List D}{vs M:List V},Rls K H φ ds vs->Rls K H φ es M->Rls K H φ (ds++es) (vs++M)
 |[],_,_,_,h,h'=>by cases h;exact h'
 |d::ds,_,_,_,h,h'=>by
  obtain⟨v,r,rfl,h1,h2⟩:=h;exact⟨v,_,U,h1,Rls.append h2 h'⟩
theorem Rls.get:∀ {ds:List D}{vs:List V},Rls K H φ ds vs->∀ {i:Nat}{d:D},ds[i]?=some d->∃ v,vs[i]?=some v/\Rl K H φ d v
 |[],_,h,i,d,e=>by simp at e
 |d::ds,_,h,i,e,q=>by
  obtain⟨v,r,rfl,h1,h2⟩:=h;cases i with
  |zero=>simp at q;subst q;exact⟨v,U,h1⟩
  |succ i=>simpa using Rls.get h2 (by simpa using q)
theorem Rls.take:∀ {ds:List D}{vs:List V} (n:Nat),Rls K H φ ds vs->Rls K H φ (ds.take n) (vs.take n)
 |_,_,0,_=>by exact U
 |[],_,n+1,h=>by cases h;exact U
 |d::ds,_,n+1,h=>by
  obtain⟨v,r,rfl,h1,h2⟩:=h;exact⟨v,_,U,h1,Rls.take n h2⟩
theorem Rls.drop:∀ {ds:List D}{vs:List V} (n:Nat),Rls K H φ ds vs->Rls K H φ (ds.drop n) (vs.drop n)
 |_,_,0,h=>h
 |[],_,n+1,h=>by cases h;exact U
 |d::ds,_,n+1,h=>by
  obtain⟨v,r,rfl,h1,h2⟩:=h;exact Rls.drop n h2
theorem Rls.set:∀ {ds:List D}{vs:List V} (n:Nat) {d:D}{v:V},Rls K H φ ds vs->Rl K H φ d v->Rls K H φ (ds.set n d) (vs.set n v)
 |[],_,_,_,_,h,_=>by cases h;exact U
 |e::ds,_,0,d,v,h,hd=>by
  obtain⟨u,r,rfl,h1,h2⟩:=h;exact⟨v,r,U,hd,h2⟩
 |e::ds,_,n+1,d,v,h,hd=>by
  obtain⟨u,r,rfl,h1,h2⟩:=h;exact⟨u,_,U,h1,Rls.set n h2 hd⟩
theorem Rls.rep {ds:List D}{vs:List V} (h:Rls K H φ ds vs):∀ k:Nat,Rls K H φ (qaC k ds).flatten (qaC k vs).flatten
 |0=>rfl
 |k+1=>by exact h.append (Rls.rep h k)
theorem Rls.ints:∀ {ns:List Int}{vs:List V},Rls K H φ (ns.map D.int) vs->vs=ns.map V.int
 |[],_,h=>h
 |n::ns,_,h=>by
  obtain⟨v,r,rfl,h1,h2⟩:=h;rw[h1,Rls.ints h2];rfl
theorem Rls.bools:∀ {ns:List Bool}{vs:List V},Rls K H φ (ns.map D.bl) vs->vs=ns.map V.bl
 |[],_,h=>h
 |n::ns,_,h=>by
  obtain⟨v,r,rfl,h1,h2⟩:=h;rw[h1,Rls.bools h2];rfl
theorem Rls.of_ints:∀ (ns:List Int),Rls K H φ (ns.map D.int) (ns.map V.int)
 |[]=>rfl
 |n::ns=>⟨_,_,U,U,Rls.of_ints ns⟩
theorem Rl.less {ψ:List Addr}:∀ {d:D}{v:V},Rl K H (φ++ψ) d v->Rl K H φ d v:=by
 intro d v;refine (?_:∀ v,Rl K H _ d v->Rl K H φ d v) v;refine D.rec (motive_2:=λds=>∀ vs,Rls K H (φ++ψ) ds vs->Rls K H φ ds vs) ?_ ?_ ?_ ?_ ?_ ?_ ?_ ?_ ?_ ?_ ?_ ?_ d
 ·exact λv h=>h
 ·exact λb v h=>h
 ·exact λb v h=>h
 ·exact λb v h=>h
 ·exact λb v h=>h
 ·rintro v ⟨a,e,hn,h⟩;exact⟨a,e,λz=>hn (qa0 _ z),h⟩
 ·exact λns v h=>h
 ·rintro ds A v ⟨a,vs,rfl,h1,h2⟩;exact⟨a,vs,U,h1,A vs h2⟩
 ·rintro ds A v ⟨a,vs,rfl,h0,h1,h2⟩;exact⟨a,vs,U,λz=>h0 (qa0 _ z),h1,A vs h2⟩
 ·rintro ns ds A v ⟨a,Cl,dx,fs,vs,rfl,h0,h1,h2,h3,h4,h5,h7,h6⟩;exact⟨a,Cl,dx,fs,vs,U,λz=>h0 (qa0 _ z),h1,h2,h3,h4,h5,h7,A vs h6⟩
 ·exact λvs h=>h
 ·rintro d ds F G vs ⟨v,r,rfl,h1,h2⟩;exact⟨v,r,U,F v h1,G r h2⟩
theorem Rls.less {ψ:List Addr}:∀ {ds:List D}{vs:List V},Rls K H (φ++ψ) ds vs->Rls K H φ ds vs
 |[],_,h=>h
 |d::ds,_,h=>by
  obtain⟨v,r,rfl,h1,h2⟩:=h;exact⟨v,r,U,Rl.less h1,Rls.less h2⟩
theorem Rkv.less {ψ:List Addr}:∀ {ds:List (List Int×D)}{vs:List (List Key×V)},Rkv K H (φ++ψ) ds vs->Rkv K H φ ds vs
 |[],_,h=>h
 |(k,d)::ds,_,h=>by
  obtain⟨v,r,rfl,h1,h2⟩:=h;exact⟨v,r,U,Rl.less h1,Rkv.less h2⟩
theorem Rkk.less {ψ:List Addr}:∀ {ds:List (Int×D)}{vs:List (Key×V)},Rkk K H (φ++ψ) ds vs->Rkk K H φ ds vs
 |[],_,h=>h
 |(k,d)::ds,_,h=>by
  obtain⟨v,r,rfl,h1,h2⟩:=h;exact⟨v,r,U,Rl.less h1,Rkk.less h2⟩
theorem Rws.less {ψ:List Addr}:∀ {ds:List W}{vs:List V},(∀ m,W.h m∈ds->m<φ.length)->Rws K H (φ++ψ) ds vs->Rws K H φ ds vs
 |[],_,_,h=>h
 |d::ds,_,hm,h=>by
  obtain⟨v,r,rfl,h1,h2⟩:=h;refine⟨v,r,U,?_,Rws.less (λm z=>hm m (qaj _ z)) h2⟩;cases d with
  |d x=>exact Rl.less h1
  |h m=>
   obtain⟨a,e,rfl⟩:=h1;rw[qaE (hm m qag)]at e;exact⟨a,e,U⟩
theorem Rfs.less {ψ:List Addr}:∀ {ds:List (Str×W)}{vs:List (Str×V)},(∀ m,W.h m∈ds.map (·.2)->m<φ.length)->Rfs K H (φ++ψ) ds vs->Rfs K H φ ds vs
 |[],_,_,h=>h
 |(k,d)::ds,_,hm,h=>by
  obtain⟨v,r,rfl,h1,h2⟩:=h;refine⟨v,r,U,?_,Rfs.less (λm z=>hm m (qaj _ z)) h2⟩;cases d with
  |d x=>exact Rl.less h1
  |h m=>
   obtain⟨a,e,rfl⟩:=h1;rw[qaE (hm m qag)]at e;exact⟨a,e,U⟩
theorem Rc.less {ψ:List Addr}{k:Nat}{a:Addr}{c:C} (L:k<φ.length) (h:Rc K H (φ++ψ) k a c):Rc K H φ k a c:=by
 cases c with
 |l ds=>obtain⟨vs,q,r⟩:=h;exact⟨vs,q,r.less⟩
 |n ds=>obtain⟨vs,q,r,b⟩:=h;exact⟨vs,q,r.less λm z=>qd5 (b m z) L,b⟩
 |m ds=>obtain⟨vs,q,r⟩:=h;exact⟨vs,q,r.less⟩
 |k ds=>obtain⟨vs,q,r⟩:=h;exact⟨vs,q,r.less⟩
 |o ds=>obtain⟨Cl,dx,vs,q,r,b,c⟩:=h;exact⟨Cl,dx,vs,q,r.less λm z=>qd5 (b m z) L,b,c⟩
theorem Sr.less {ψ:List Addr} (S:Sr K H (φ++ψ) st):Sr K H φ (st.take φ.length):=by
 have Q:=S.len;rw[qax]at Q;refine⟨(qcJ.mp S.nd).1,by rw[qdf];lia,λn a ds g j=>?_⟩;have hn:=(qar.mp g).1;rw[qgv hn]at j;exact (S.at_ n a ds (by rw[qaE hn];exact g) j).less hn
end
abbrev Ef:=Ev->Sto->Option (W×Sto)
abbrev Af:=Ev->Sto->Option (List W×Sto)
abbrev Tf:=Ev->Sto->Option (Bool×Sto)
abbrev Lf:=Ev->Sto->Option (List D×Sto)
abbrev Fn:=List W->Sto->Option (W×Sto)
section
variable (K:qae)
def tI (env:Ev) (st:Sto) (r:W×Sto):TE:=λh H Q=>∃ φ,Er K H φ env h/\Sr K H φ st/\∀ v H' b,Fw φ b H H'->Sr K H' b r.2->Rw K H' b r.1 v->Q v H'
def tIA (env:Ev) (st:Sto) (r:List W×Sto):TA:=λh H Q=>∃ φ,Er K H φ env h/\Sr K H φ st/\∀ c H' b,Fw φ b H H'->Sr K H' b r.2->Rws K H' b r.1 c->Q c H'
def tIT (env:Ev) (st:Sto) (r:Bool×Sto):TT:=λh H Q=>∃ φ,Er K H φ env h/\Sr K H φ st/\∀ H' b,Fw φ b H H'->Sr K H' b r.2->Q r.1 H'
def tIL (env:Ev) (st:Sto) (r:List D×Sto):TE:=λh H Q=>∃ φ,Er K H φ env h/\Sr K H φ st/\∀ a c H1 b,Fw φ b H H1->Sr K H1 b r.2->H1 a=none->Rls K H1 b r.1 c->Q (.ref a) (upd H1 a (.lst c))
structure IE (X:Cx) (e:Expr) (f:Ef):Prop where
 run:∀ env st r,f env st=some r->PE X e (tI K env st r)
structure IA (X:Cx) (es:List Expr) (f:Af):Prop where
 run:∀ env st r,f env st=some r->PA X es (tIA K env st r)
structure IT (X:Cx) (e:Expr) (f:Tf):Prop where
 run:∀ env st r,f env st=some r->PT X e (tIT K env st r)
structure ITW (X:Cx) (e:Expr) (f:Tf):Prop where
 run:∀ env st r,f env st=some r->PW X e (tIT K env st r)
structure IL (X:Cx) (e:Expr) (f:Lf):Prop where
 run:∀ env st r,f env st=some r->PE X e (tIL K env st r)
def rD (st:Sto) (x y:W) (d:D):R2:=λk j H Q=>∃ φ,Sr K H φ st/\Rw K H φ x k/\Rw K H φ y j/\∀ v H',aS H H'->Rl K H' φ d v->Q v H'
structure OpD (X:Cx) (f:Value->Value->Sem Value) (g:Sto->W->W->Option D):Prop where
 run:∀ st x y d,g st x y=some d->OpR X f (rD K st x y d)
def rCD (st:Sto) (ws:List W) (d:D):List V->Hp->VK->Prop:=λc H Q=>∃ φ,Sr K H φ st/\Rws K H φ ws c/\∀ v H',aS H H'->Rl K H' φ d v->Q v H'
structure e6 (X:Cx) (f:Value) (g:Sto->List W->Option D):Prop where
 run:∀ st ws d,g st ws=some d->bN X f (rCD K st ws d)
def rCL (st:Sto) (ws:List W) (ds:List D):List V->Hp->VK->Prop:=λc H Q=>∃ φ,Sr K H φ st/\Rws K H φ ws c/\∀ a i H1,aS H H1->H1 a=none->Rls K H1 φ ds i->Q (.ref a) (upd H1 a (.lst i))
structure sw (X:Cx) (f:Value) (g:Sto->List W->Option (List D)):Prop where
 run:∀ st ws d,g st ws=some d->bN X f (rCL K st ws d)
end
def iV (i:Nat):Ef
 |env,st=>(env.getD i none).map λw=>(w,st)
def iC (d:D):Ef
 |_,st=>some (.d d,st)
def iOp (g:Sto->W->W->Option D) (a b:Ef):Ef
 |env,st=>(a env st).bind λx=>(b env x.2).bind λy=>(g y.2 x.1 y.1).map λd=>(.d d,y.2)
def kM:D->Option Bool
 |.bl b=>some b
 |_=>none
def blW:W->Option Bool
 |.d (.bl b)=>some b
 |_=>none
def aK (g:Sto->W->W->Option D) (a b:Ef):Tf
 |env,st=>(a env st).bind λx=>(b env x.2).bind λy=>(g y.2 x.1 y.1).bind λd=>(kM d).map λk=>(k,y.2)
def nB (g e:Sto->W->W->Option D) (a b c:Ef):Ef
 |env,st=>(a env st).bind λx=>(b env x.2).bind λy=>(g y.2 x.1 y.1).bind λd=>(kM d).bind λk=>
 if k=true then (c env y.2).bind λz=>(e z.2 y.1 z.1).map λd=>(.d d,z.2) else some (.d (.bl false),y.2)
def iUn (g:W->Option D) (a:Ef):Ef
 |env,st=>(a env st).bind λx=>(g x.1).map λd=>(.d d,x.2)
def zk (a:Ef):Ef
 |env,st=>(a env st).bind λx=>(blW x.1).map λk=>(.d (.bl (!k)),x.2)
def gX (a b:Ef):Ef
 |env,st=>(a env st).bind λx=>(blW x.1).bind λk=>if k=true then b env x.2 else some (.d (.bl false),x.2)
def zl (a b:Ef):Ef
 |env,st=>(a env st).bind λx=>(blW x.1).bind λk=>if k=true then some (.d (.bl true),x.2) else b env x.2
def j5 (c:Tf) (a b:Ef):Ef
 |env,st=>(c env st).bind λr=>if r.1=true then a env r.2 else b env r.2
def cv (c:Tf):Tf
 |env,st=>(c env st).map λr=>(!r.1,r.2)
def dz (a b:Tf):Tf
 |env,st=>(a env st).bind λr=>if r.1=true then some (true,r.2) else b env r.2
def cg (g:Sto->W->Option Bool) (a:Ef):Tf
 |env,st=>(a env st).bind λx=>(g x.2 x.1).map λk=>(k,x.2)
def ae:Af
 |_,st=>some ([],st)
def aa (a:Ef) (r:Af):Af
 |env,st=>(a env st).bind λx=>(r env x.2).map λy=>(x.1::y.1,y.2)
def iCB (g:Sto->List W->Option D) (a:Af):Ef
 |env,st=>(a env st).bind λr=>(g r.2 r.1).map λd=>(.d d,r.2)
def iCL (g:Sto->List W->Option (List D)) (a:Af):Lf
 |env,st=>(a env st).bind λr=>(g r.2 r.1).map λd=>(d,r.2)
def ap (m:Fn) (a:Af):Ef
 |env,st=>(a env st).bind λr=>m r.1 r.2
def oW:List W->Option (List D)
 |[]=>some []
 |.d x::ws=>(oW ws).map λr=>x::r
 |.h _::_=>none
def a9 (a:Af):Ef
 |env,st=>(a env st).bind λr=>(oW r.1).bind λds=>if ds.length<=1000 then some (.d (.tup ds),r.2) else none
def bn (a:Af):Lf
 |env,st=>(a env st).bind λr=>(oW r.1).bind λds=>if ds.length<=1000 then some (ds,r.2) else none
def au (a:Lf):Ef
 |env,st=>(a env st).map λr=>(.d (.lst r.1),r.2)
def dg (a:Lf):Ef
 |env,st=>(a env st).map λr=>(.h r.2.length,r.2++[.l r.1])
section
variable {K:qae}{X:Cx}{e a b c:Expr}{es:List Expr}{pos:Pos}{f fa fb fc:Ef}
theorem PE.imp {t t':TE} (h:PE X e t) (m:∀ L H Q,t' L H Q->t L H Q):PE X e t':=λR s L H Q I q=>h R s L H Q I (m L H Q q)
theorem PT.imp {t t':TT} (h:PT X e t) (m:∀ L H Q,t' L H Q->t L H Q):PT X e t':=λR s L H Q I q=>h R s L H Q I (m L H Q q)
theorem PW.imp {t t':TT} (h:PW X e t) (m:∀ L H Q,t' L H Q->t L H Q):PW X e t':=λwh R s L H Q I q=>h wh R s L H Q I (m L H Q q)
theorem PA.imp {t t':TA} (h:PA X es t) (m:∀ L H Q,t' L H Q->t L H Q):PA X es t':=λpos R s L H Q I q=>h pos R s L H Q I (m L H Q q)
theorem OpR.imp {g:Value->Value->Sem Value}{r r':R2} (h:OpR X g r) (m:∀ x y H Q,r' x y H Q->r x y H Q):OpR X g r':=λR s L H x y v u Q I rx ry q=>h R s L H x y v u Q I rx ry (m _ _ _ _ q)
theorem bN.imp {g:Value}{r r':List V->Hp->VK->Prop} (h:bN X g r) (m:∀ xs H Q,r' xs H Q->r xs H Q):bN X g r':=λR s L H xs us Q I rx q=>h R s L H xs us Q I rx (m _ _ _ q)
theorem iS:PE X e (λ_ _ _=>False):=λ_ _ _ _ _ _ q=>q.elim
theorem Ac:PW X e (λ_ _ _=>False):=λ_ _ _ _ _ _ _ q=>q.elim
theorem Dr {i:Nat}{x:Str}{t:TE} (h:PE X (.Name x pos) (uK i)):IE K X (.Name x pos) (iV i):=by
 refine⟨λenv st r B=>?_⟩;obtain⟨w,hw,rfl⟩:=qad.mp B;refine h.imp ?_
 rintro L H Q ⟨φ,G,E,q⟩
 have hi:env[i]?=some (some w):=by
  rw[qf5]at hw;cases q:env[i]? with
  |none=>rw[q]at hw;cases hw
  |some o=>rw[q]at hw;rw[show o=some w from hw]
 obtain⟨v,e1,r⟩:=G.at_ i w hi;exact⟨v,e1,q v H φ (Fw.refl φ H) E r⟩
theorem iv (i:Nat) {x:Str} (hN:X.N[i]?=some x:=by rfl) (hv:Vis X.env.scope x:=by first|exact Or.inl U|exact Or.inr (Or.inl U)|exact Or.inr (Or.inr U)) (hd:(x==("__debug__" : Str))=false:=by decide)
  (hcd:(x==("__classdict__" : Str))=false:=by decide):IE K X (.Name x pos) (iV i):=Dr (t:=uK i) (jK hN hv hd hcd)
theorem zn {d:D}{v:V} (h:PE X e (tC v)) (r:∀ H φ,Rl K H φ d v):IE K X e (iC d):=by
 refine⟨λenv st r B=>?_⟩;cases B;refine h.imp ?_
 rintro L H Q ⟨φ,G,E,q⟩
 exact q v H φ (Fw.refl φ H) E (r H φ)
theorem kW {i j}:IE K X (.Constant (.int i) j pos) (iC (.int i)):=zn D2 λ_ _=>rfl
theorem wv {i j}:IE K X (.Constant (.bool i) j pos) (iC (.bl i)):=zn FJ λ_ _=>rfl
theorem qI {j}:IE K X (.Constant .none j pos) (iC .non):=zn D4 λ_ _=>rfl
theorem qL {x j}:IE K X (.Constant (.str x) j pos) (iC (.str x)):=zn D7 λ_ _=>rfl
theorem se {env:Ev}{st:Sto}{x y:W×Sto}{d:D}{L:St}{H:Hp}{Q:VK} (h:tI K env st (.d d,y.2) L H Q):tOp (rD K y.2 x.1 y.1 d) (tI K env st x) (tI K env x.2 y) L H Q:=by
 obtain⟨φ,G,E,q⟩:=h;refine⟨φ,G,E,λv H1 A J s1 M=>⟨A,G.fw E J,s1,λu H2 N Y s2 w2=>⟨N,s2,M.fw s1 Y,w2,λv3 H3 f3 w3=>?_⟩⟩⟩;exact q v3 H3 N ((J.trans Y).trans (Fw.same f3)) (s2.same f3) w3
theorem nE {op:Operator}{g:Sto->W->W->Option D} (ho:OpD K X (qbQ op) g) (O:IE K X a fa) (hb:IE K X b fb):IE K X (.BinOp a op b pos) (iOp g fa fb):=by
 refine⟨λenv st r B=>?_⟩;simp only[iOp,qab,qad]at B;obtain⟨x,hx,y,hy,d,hd,rfl⟩:=B;exact (CS (ho.run _ _ _ _ hd) (O.run _ _ _ hx) (hb.run _ _ _ hy)).imp λL H Q h=>se h
theorem qF {op:CmpOp}{g:Sto->W->W->Option D} (ho:OpD K X (qbq op) g) (O:IE K X a fa) (hb:IE K X b fb) (hm:qfT op b=false):IE K X (.Compare a [op] [b] pos) (iOp g fa fb):=by
 refine⟨λenv st r B=>?_⟩;simp only[iOp,qab,qad]at B;obtain⟨x,hx,y,hy,d,hd,rfl⟩:=B;exact (BM (ho.run _ _ _ _ hd) (O.run _ _ _ hx) (hb.run _ _ _ hy) hm).imp λL H Q h=>se h
theorem pw {d:D}{k:Bool} (h:kM d=some k):d=.bl k:=by
 cases d<;>first|(cases h;done)|(injection h with h;subst h;rfl)
theorem mZ {d:W}{k:Bool} (h:blW d=some k):d=.d (.bl k):=by
 cases d with
 |h n=>cases h
 |d x=>cases x<;>first|(cases h;done)|(injection h with h;subst h;rfl)
theorem qW {op:CmpOp}{g:Sto->W->W->Option D} (ho:OpD K X (qbq op) g) (O:IE K X a fa) (hb:IE K X b fb) (hm:qfT op b=false):IT K X (.Compare a [op] [b] pos) (aK g fa fb):=by
 refine⟨λenv st r B=>?_⟩;simp only[aK,qab,qad]at B;obtain⟨x,hx,y,hy,d,hd,k,hk,rfl⟩:=B;cases pw hk;refine (BY (ho.run _ _ _ _ hd) (O.run _ _ _ hx) (hb.run _ _ _ hy) hm).imp λL H Q h=>?_;obtain⟨φ,G,E,q⟩:=h;refine se ⟨φ,G,E,λv H1 A J s1 M=>⟨k,M,q H1 A J s1⟩⟩
theorem j7 {op op':CmpOp}{g g':Sto->W->W->Option D} (ho:OpD K X (qbq op) g) (ho':OpD K X (qbq op') g') (O:IE K X a fa) (hb:IE K X b fb) (hc:IE K X c fc)
  (hm:lastMarks [op,op'] [b,c]=false:=by with_unfolding_all rfl):IE K X (.Compare a [op,op'] [b,c] pos) (nB g g' fa fb fc):=by
 refine⟨λenv st r B=>?_⟩;simp only[nB,qab]at B;obtain⟨x,hx,y,hy,d,hd,k,hk,B⟩:=B;cases pw hk;cases k with
 |false=>
  cases B;refine (ut (r':=λ_ _ _ _=>False) (ho.run _ _ _ _ hd) (λ_ _ _ _ _ _ _ _ _ _ _ _ q=>q.elim) (O.run _ _ _ hx) (hb.run _ _ _ hy) iS hm).imp ?_
  rintro L H Q ⟨φ,G,E,q⟩
  refine⟨φ,G,E,λv H1 A J s1 M=>⟨A,G.fw E J,s1,λu H2 N Y s2 w2=>⟨N,s2,M.fw s1 Y,w2,λv3 H3 f3 w3=>⟨false,w3,?_⟩⟩⟩⟩;exact q _ H3 N ((J.trans Y).trans (Fw.same f3)) (s2.same f3) U
 |true=>
  simp only[if_true,qab,qad]at B;obtain⟨z,hz,d',hd',rfl⟩:=B;refine (ut (ho.run _ _ _ _ hd) (ho'.run _ _ _ _ hd') (O.run _ _ _ hx) (hb.run _ _ _ hy) (hc.run _ _ _ hz) hm).imp ?_
  rintro L H Q ⟨φ,G,E,q⟩
  refine⟨φ,G,E,λv H1 A J s1 M=>⟨A,G.fw E J,s1,λu H2 N Y s2 w2=>⟨N,s2,M.fw s1 Y,w2,λv3 H3 f3 w3=>⟨true,w3,?_⟩⟩⟩⟩;have f13:=(J.trans Y).trans (Fw.same f3);refine⟨N,G.fw E f13,s2.same f3,λu4 H4 φ4 f4 s4 w4=>⟨φ4,s4,(w2.fw s2 (Fw.same f3)).fw (s2.same f3) f4,w4,λv5 H5 f5 w5=>?_⟩⟩;exact q v5 H5 φ4 (f13.trans (f4.trans (Fw.same f5))) (s4.same f5) w5
def ef:W->Option D
 |.d (.int i)=>some (.int (-i))
 |_=>none
theorem nD (O:IE K X a fa):IE K X (.UnaryOp .USub a pos) (iUn ef fa):=by
 refine⟨λenv st r B=>?_⟩;simp only[iUn,qab,qad]at B;obtain⟨⟨x,s1⟩,hx,d,hd,rfl⟩:=B;cases x with
 |h n=>cases hd
 |d x=>
  cases x with
  |int i=>
   cases hd;refine (FL EG (O.run _ _ _ hx)).imp ?_
   rintro L H Q ⟨φ,G,E,q⟩
   exact⟨φ,G,E,λv H1 A J s1 M=>⟨i,M,q _ H1 A J s1 U⟩⟩
  |_=>cases hd
theorem qJ (O:IE K X a fa):IE K X (.UnaryOp .Not a pos) (zk fa):=by
 refine⟨λenv st r B=>?_⟩;simp only[zk,qab,qad]at B;obtain⟨x,hx,k,hk,rfl⟩:=B;refine (D5 (O.run _ _ _ hx)).imp ?_
 rintro L H Q ⟨φ,G,E,q⟩
 exact⟨φ,G,E,λv H1 A J s1 M=>⟨k,by rw[(mZ hk)]at M;exact M,q _ H1 A J s1 U⟩⟩
theorem qK {op} (h:IE K X a fa):IE K X (.BoolOp op [a] pos) fa:=⟨λenv st r B=>D6 (h.run env st r B)⟩
theorem qE {rest:List Expr} (O:IE K X a fa) (hb:IE K X (.BoolOp .And (b::rest) pos) fb):IE K X (.BoolOp .And (a::b::rest) pos) (gX fa fb):=by
 refine⟨λenv st r B=>?_⟩;simp only[gX,qab]at B;obtain⟨x,hx,k,hk,B⟩:=B;have e:=mZ hk;cases k with
 |false=>
  cases B;refine (zP (O.run _ _ _ hx) iS).imp ?_
  rintro L H Q ⟨φ,G,E,q⟩
  refine⟨φ,G,E,λv H1 A J s1 M=>⟨false,by rw[e]at M;exact M,?_⟩⟩;exact q _ H1 A J s1 U
 |true=>
  refine (zP (O.run _ _ _ hx) (hb.run _ _ _ B)).imp ?_
  rintro L H Q ⟨φ,G,E,q⟩
  refine⟨φ,G,E,λv H1 A J s1 M=>⟨true,by rw[e]at M;exact M,?_⟩⟩;exact⟨A,G.fw E J,s1,λu H2 N Y s2 w2=>q u H2 N (J.trans Y) s2 w2⟩
theorem wz {rest:List Expr} (O:IE K X a fa) (hb:IE K X (.BoolOp .Or (b::rest) pos) fb):IE K X (.BoolOp .Or (a::b::rest) pos) (zl fa fb):=by
 refine⟨λenv st r B=>?_⟩;simp only[zl,qab]at B;obtain⟨x,hx,k,hk,B⟩:=B;have e:=mZ hk;cases k with
 |true=>
  cases B;refine (CT (O.run _ _ _ hx) iS).imp ?_
  rintro L H Q ⟨φ,G,E,q⟩
  refine⟨φ,G,E,λv H1 A J s1 M=>⟨true,by rw[e]at M;exact M,?_⟩⟩;exact q _ H1 A J s1 U
 |false=>
  refine (CT (O.run _ _ _ hx) (hb.run _ _ _ B)).imp ?_
  rintro L H Q ⟨φ,G,E,q⟩
  refine⟨φ,G,E,λv H1 A J s1 M=>⟨false,by rw[e]at M;exact M,?_⟩⟩;exact⟨A,G.fw E J,s1,λu H2 N Y s2 w2=>q u H2 N (J.trans Y) s2 w2⟩
variable {ta tb:Tf}
theorem qX (O:IT K X a ta):IT K X (.UnaryOp .Not a pos) (cv ta):=by
 refine⟨λenv st r B=>?_⟩;simp only[cv,qad]at B;obtain⟨x,hx,rfl⟩:=B;refine (Eh (O.run _ _ _ hx)).imp ?_
 rintro L H Q ⟨φ,G,E,q⟩
 exact⟨φ,G,E,λH1 A J s1=>q H1 A J s1⟩
theorem DA (h:ITW K X a ta):IT K X a ta:=⟨λenv st r B=>(h.run env st r B).pt⟩
theorem mF (h:IT K X a ta):ITW K X (.BoolOp .Or [a] pos) ta:=⟨λenv st r B=>Ej (h.run env st r B)⟩
theorem qZ {rest:List Expr} (O:IT K X a ta) (hb:ITW K X (.BoolOp .Or (b::rest) pos) tb):ITW K X (.BoolOp .Or (a::b::rest) pos) (dz ta tb):=by
 refine⟨λenv st r B=>?_⟩;simp only[dz,qab]at B;obtain⟨⟨k,s1⟩,hx,B⟩:=B;cases k with
 |true=>
  cases B;refine (CW (O.run _ _ _ hx) Ac).imp ?_
  rintro L H Q ⟨φ,G,E,q⟩
  refine⟨φ,G,E,λH1 A J s1=>?_⟩;exact q H1 A J s1
 |false=>
  refine (CW (O.run _ _ _ hx) (hb.run _ _ _ B)).imp ?_
  rintro L H Q ⟨φ,G,E,q⟩
  refine⟨φ,G,E,λH1 A J s1=>?_⟩;exact⟨A,G.fw E J,s1,λH2 N Y s2=>q H2 N (J.trans Y) s2⟩
theorem wx {tc:Tf} (hc:IT K X c tc) (O:IE K X a fa) (hb:IE K X b fb):IE K X (.IfExp c a b pos) (j5 tc fa fb):=by
 refine⟨λenv st r B=>?_⟩;simp only[j5,qab]at B;obtain⟨⟨k,s1⟩,hx,B⟩:=B;cases k with
 |true=>
  refine (uw (hc.run _ _ _ hx) (O.run _ _ _ B) iS).imp ?_
  rintro L H Q ⟨φ,G,E,q⟩
  refine⟨φ,G,E,λH1 A J s1=>?_⟩;exact⟨A,G.fw E J,s1,λu H2 N Y s2 w2=>q u H2 N (J.trans Y) s2 w2⟩
 |false=>
  refine (uw (hc.run _ _ _ hx) iS (hb.run _ _ _ B)).imp ?_
  rintro L H Q ⟨φ,G,E,q⟩
  refine⟨φ,G,E,λH1 A J s1=>?_⟩;exact⟨A,G.fw E J,s1,λu H2 N Y s2 w2=>q u H2 N (J.trans Y) s2 w2⟩
def dL (st:Sto):W->Option (List D)
 |.d (.tup ds)=>some ds
 |.d (.lst ds)=>some ds
 |.d (.scr ns)=>some (ns.map D.int)
 |.h n=>lg st n
 |_=>none
theorem uF {st:Sto}{H:Hp}{φ:List Addr}{w:W}{v:V}{ds:List D} (S:Sr K H φ st) (r:Rw K H φ w v) (e:dL st w=some ds):∃ a P,v=.ref a/\(SqL K H a P\/H a=some (.tup P))/\Rls K H φ ds P:=by
 cases w with
 |h n=>
  obtain⟨a,ea,rfl⟩:=r;obtain⟨P,q,rl⟩:=S.atl n a ds ea e;exact⟨a,P,U,.inl (SqL.of q),rl⟩
 |d x=>
  cases x with
  |tup es=>cases e;obtain⟨a,P,rfl,h1,h2⟩:=r;exact⟨a,P,U,.inr h1,h2⟩
  |lst es=>cases e;obtain⟨a,P,rfl,h0,h1,h2⟩:=r;exact⟨a,P,U,.inl (.inl h1),h2⟩
  |scr ns=>
   cases e;obtain⟨a,rfl,h⟩:=r;refine⟨a,_,U,.inl ?_,Rls.of_ints ns⟩;rcases h with⟨o,h⟩|h
   ·exact .inl (.inr ⟨o,h⟩)
   ·exact .inr h
  |_=>cases e
theorem gQ {st:Sto}{H:Hp}{φ:List Addr}{w:W}{v:V}{ds:List D} (S:Sr K H φ st) (r:Rw K H φ w v) (e:dL st w=some ds):∃ a P,v=.ref a/\(SqL K H a P\/SqT K H a P)/\Rls K H φ ds P:=by
 obtain⟨a,P,h0,h1,h2⟩:=uF S r e;exact⟨a,P,h0,h1.imp id SqT.of,h2⟩
def cz (st:Sto):W->Option Bool
 |.d .non=>some false
 |.d (.bl b)=>some b
 |.d (.int i)=>some (i != 0)
 |w=>(dL st w).map λds=>!ds.isEmpty
theorem Cp {st:Sto}{H:Hp}{φ:List Addr}{w:W}{v:V}{k:Bool} (S:Sr K H φ st) (r:Rw K H φ w v) (e:cz st w=some k):AU K v H k:=by
 have seq:∀ ds,dL st w=some ds->k=!ds.isEmpty->AU K v H k:=λds h hk=>by
  obtain⟨a,P,rfl,h1,h2⟩:=gQ S r h;have e':k=!P.isEmpty:=by
   rw[hk];cases ds<;>cases P<;>first|rfl|cases h2.length
  rcases h1 with h1|h1
  ·exact .inl ⟨P,h1,e'⟩
  ·exact .inr (.inl ⟨P,h1,e'⟩)
 cases w with
 |h n=>
  obtain⟨ds,h1,h2⟩:=qad.mp e;exact seq ds h1 h2.symm
 |d x=>
  cases x with
  |non=>subst r;cases e;exact U
  |bl b=>subst r;cases e;exact U
  |int i=>subst r;cases e;exact U
  |tup ds=>exact seq ds U (qaL e).symm
  |lst ds=>exact seq ds U (qaL e).symm
  |scr ds=>exact seq _ U (qaL e).symm
  |_=>cases e
theorem qY (O:IE K X a fa) (he:zY a=true:=by rfl) (hK:X.K=K:=by rfl):IT K X a (cg cz fa):=by
 subst hK;refine⟨λenv st r B=>?_⟩;simp only[cg,qab,qad]at B;obtain⟨x,hx,k,hk,rfl⟩:=B;refine (z9 (O.run _ _ _ hx) (yG he)).imp ?_
 rintro L H Q ⟨φ,G,E,q⟩
 exact⟨φ,G,E,λv H1 A J s1 M=>⟨k,Cp s1 M hk,q H1 A J s1⟩⟩
variable {af:Af}
theorem cw:IA K X [] ae:=by
 refine⟨λenv st r B=>?_⟩;cases B;refine rO.imp ?_
 rintro L H Q ⟨φ,G,E,q⟩
 exact q [] H φ (Fw.refl φ H) E U
theorem bE (O:IE K X e fa) (B:IA K X es af) (hs:aC e=true:=by rfl):IA K X (e::es) (aa fa af):=by
 refine⟨λenv st r h=>?_⟩;simp only[aa,qab,qad]at h;obtain⟨x,hx,y,hy,rfl⟩:=h;refine (mL (O.run _ _ _ hx) (B.run _ _ _ hy) (aV hs)).imp ?_
 rintro L H Q ⟨φ,G,E,q⟩
 refine⟨φ,G,E,λv H1 A J s1 M=>⟨A,G.fw E J,s1,λu H2 N Y s2 w2=>?_⟩⟩;exact q _ H2 N (J.trans Y) s2 ⟨v,u,U,M.fw s1 Y,w2⟩
theorem pG {x:Str}{id:String}{p:Pos}{g:Sto->List W->Option D} (hc:e6 K X (.builtin id) g) (hg:Gl X x) (hm:X.mg x=none) (hv:qco x=some (.builtin id)) (O:IA K X (e::es) af)
  (hn:x≠"__name__":=by decide) (hdb:(x==("__debug__" : Str))=false:=by decide) (hs:aC e=true:=by rfl) (hp:es.all aC=true:=by rfl) :
  IE K X (.Call (.Name x p) (e::es) [] pos) (iCB g af):=by
 refine⟨λenv st r B=>?_⟩;simp only[iCB,qab,qad]at B;obtain⟨y,hy,d,hd,rfl⟩:=B;refine (oj (hc.run _ _ _ hd) hg hm hv (O.run _ _ _ hy) hn hdb (aV hs) (bx hp)).imp ?_
 rintro L H Q ⟨φ,G,E,q⟩
 exact⟨φ,G,E,λv H1 A J s1 M=>⟨A,s1,M,λu H2 Y w2=>q u H2 A (J.trans (Fw.same Y)) (s1.same Y) w2⟩⟩
theorem Ff {x:Str}{T:String}{p:Pos}{g:Sto->List W->Option D} (hc:e6 K X (.type T) g) (hg:Gl X x) (hm:X.mg x=none) (hv:qco x=some (.type T)) (O:IA K X (e::es) af)
  (hn:x≠"__name__":=by decide) (hdb:(x==("__debug__" : Str))=false:=by decide) (hs:aC e=true:=by rfl) (hp:es.all aC=true:=by rfl) :
  IE K X (.Call (.Name x p) (e::es) [] pos) (iCB g af):=by
 refine⟨λenv st r B=>?_⟩;simp only[iCB,qab,qad]at B;obtain⟨y,hy,d,hd,rfl⟩:=B;refine (dj (hc.run _ _ _ hd) hg hm hv (O.run _ _ _ hy) hn hdb (aV hs) (bx hp)).imp ?_
 rintro L H Q ⟨φ,G,E,q⟩
 exact⟨φ,G,E,λv H1 A J s1 M=>⟨A,s1,M,λu H2 Y w2=>q u H2 A (J.trans (Fw.same Y)) (s1.same Y) w2⟩⟩
theorem Fg {x:Str}{id:String}{p:Pos}{g:Sto->List W->Option (List D)} (hc:sw K X (.builtin id) g) (hg:Gl X x) (hm:X.mg x=none) (hv:qco x=some (.builtin id)) (O:IA K X (e::es) af)
  (hn:x≠"__name__":=by decide) (hdb:(x==("__debug__" : Str))=false:=by decide) (hs:aC e=true:=by rfl) (hp:es.all aC=true:=by rfl) :
  IL K X (.Call (.Name x p) (e::es) [] pos) (iCL g af):=by
 refine⟨λenv st r B=>?_⟩;simp only[iCL,qab,qad]at B;obtain⟨y,hy,d,hd,rfl⟩:=B;refine (oj (hc.run _ _ _ hd) hg hm hv (O.run _ _ _ hy) hn hdb (aV hs) (bx hp)).imp ?_
 rintro L H Q ⟨φ,G,E,q⟩
 exact⟨φ,G,E,λv H1 A J s1 M=>⟨A,s1,M,λa us H2 Y n2 w2=>q a us H2 A (J.trans (Fw.same Y)) (s1.same Y) n2 w2⟩⟩
theorem CH {x:Str}{T:String}{p:Pos}{g:Sto->List W->Option (List D)} (hc:sw K X (.type T) g) (hg:Gl X x) (hm:X.mg x=none) (hv:qco x=some (.type T)) (O:IA K X (e::es) af)
  (hn:x≠"__name__":=by decide) (hdb:(x==("__debug__" : Str))=false:=by decide) (hs:aC e=true:=by rfl) (hp:es.all aC=true:=by rfl) :
  IL K X (.Call (.Name x p) (e::es) [] pos) (iCL g af):=by
 refine⟨λenv st r B=>?_⟩;simp only[iCL,qab,qad]at B;obtain⟨y,hy,d,hd,rfl⟩:=B;refine (dj (hc.run _ _ _ hd) hg hm hv (O.run _ _ _ hy) hn hdb (aV hs) (bx hp)).imp ?_
 rintro L H Q ⟨φ,G,E,q⟩
 exact⟨φ,G,E,λv H1 A J s1 M=>⟨A,s1,M,λa us H2 Y n2 w2=>q a us H2 A (J.trans (Fw.same Y)) (s1.same Y) n2 w2⟩⟩
theorem nh {H:Hp}{φ:List Addr}:∀ {ws:List W}{P:List V}{ds:List D},oW ws=some ds->Rws K H φ ws P->Rls K H φ ds P
 |[],_,_,e,h=>by cases e;exact h
 |.d x::ws,_,_,e,h=>by
  obtain⟨v,r,rfl,h1,h2⟩:=h;obtain⟨es,e1,rfl⟩:=qad.mp e;exact⟨v,r,U,h1,nh e1 h2⟩
 |.h n::ws,_,_,e,h=>by cases e
theorem qM {x1} (h:IA K X es af):IE K X (.Tuple es x1 pos) (a9 af):=by
 refine⟨λenv st r B=>?_⟩;simp only[a9,qab]at B;obtain⟨y,hy,ds,hd,B⟩:=B;split at B
 ·cases B
  rename_i hl;refine (D8 (h.run _ _ _ hy)).imp ?_
  rintro L H Q ⟨φ,G,E,q⟩
  refine⟨φ,G,E,λP H1 A J s1 M=>?_⟩;have w:=nh hd M;refine⟨by rw[<-w.length];exact kD hl,λp hp=>?_⟩;exact q _ _ A (J.trans (Fw.new hp)) (s1.new hp) ⟨p,P,U,upd_same,w.fw s1 (Fw.new hp)⟩
 ·cases B
theorem kX (h:IA K X es af):IL K X (.List es pos) (bn af):=by
 refine⟨λenv st r B=>?_⟩;simp only[bn,qab]at B;obtain⟨y,hy,ds,hd,B⟩:=B;split at B
 ·cases B
  rename_i hl;refine (D3 (h.run _ _ _ hy)).imp ?_
  rintro L H Q ⟨φ,G,E,q⟩
  refine⟨φ,G,E,λP H1 A J s1 M=>?_⟩;have w:=nh hd M;exact⟨by rw[<-w.length];exact kD hl,λp hp=>q p P H1 A J s1 hp w⟩
 ·cases B
theorem dY {lf:Lf} (h:IL K X e lf):IE K X e (au lf):=by
 refine⟨λenv st r B=>?_⟩;simp only[au,qad]at B;obtain⟨y,hy,rfl⟩:=B;refine (h.run _ _ _ hy).imp ?_
 rintro L H Q ⟨φ,G,E,q⟩
 refine⟨φ,G,E,λa P H1 A J s1 n1 M=>?_⟩;exact q _ _ A (J.trans (Fw.new n1)) (s1.new n1) ⟨a,P,U,s1.nin n1,.inl upd_same,M.fw s1 (Fw.new n1)⟩
theorem Sr.moreC {H:Hp}{φ:List Addr}{st:Sto}{a:Addr}{o:HO}{c:C} (S:Sr K H φ st) (n:H a=none) (w:Rc K (upd H a o) (φ++[a]) φ.length a c):Sr K (upd H a o) (φ++[a]) (st++[c]):=by
 refine⟨?_,by rw[qax,qax,S.len];rfl,λi b es e1 e2=>?_⟩
 ·rw[qcJ]
  refine⟨S.nd,by simp,λx hx y hy e=>?_⟩;rw[qal.mp hy]at e;rw[e]at hx;exact S.nin n hx
 ·by_cases hi:i<φ.length
  ·rw[qaE hi]at e1
   rw[qaE (by rw[<-S.len];exact hi)]at e2;exact (S.at_ i b es e1 e2).fw S ⟨⟨_,U,λb hb=>by rw[qal.mp hb];exact n⟩,λb o _ h=>aS.new n _ b o h,λb o h=>⟨o,aS.new n _ b o h⟩⟩ λo h=>aS.new n _ _ _ h
  ·have e:i=φ.length:=by
    have:=(qar.mp e1).1
    simp at this
    lia
   subst e;rw[qaJ (qan _)]at e1;rw[S.len,qaJ (qan _)]at e2
   simp at e1 e2
   subst e1 e2;exact w
theorem Fw.moreO {H:Hp}{φ:List Addr}{a:Addr}{o:HO} (n:H a=none):Fw φ (φ++[a]) H (upd H a o):=
 ⟨⟨_,U,λb hb=>by rw[qal.mp hb];exact n⟩,λb o _ h=>aS.new n _ b o h,λb o h=>⟨o,aS.new n _ b o h⟩⟩
theorem Fw.more {H:Hp}{φ:List Addr}{a:Addr}{P:List V} (n:H a=none):Fw φ (φ++[a]) H (upd H a (.lst P)):=Fw.moreO n
theorem Sr.more {H:Hp}{φ:List Addr}{st:Sto}{a:Addr}{P:List V}{ds:List D} (S:Sr K H φ st) (n:H a=none) (w:Rls K H φ ds P):Sr K (upd H a (.lst P)) (φ++[a]) (st++[.l ds]):=
 S.moreC n ⟨P,upd_same,w.fw S (Fw.moreO n)⟩
theorem kY {lf:Lf} (h:IL K X e lf):IE K X e (dg lf):=by
 refine⟨λenv st r B=>?_⟩;simp only[dg,qad]at B;obtain⟨y,hy,rfl⟩:=B;refine (h.run _ _ _ hy).imp ?_
 rintro L H Q ⟨φ,G,E,q⟩
 refine⟨φ,G,E,λa P H1 A J s1 n1 M=>?_⟩;exact q _ _ _ (J.trans (Fw.more n1)) (s1.more n1 M) ⟨a,by rw[<-s1.len];simp,U⟩
def spI (K:qae) (m:Fn):Sp:=λP H Q _=>∃ φ st ws r,m ws st=some r/\Rws K H φ ws P/\Sr K H φ st/\∀ v H' φ',Fw φ φ' H H'->Sr K H' φ' r.2->Rw K H' φ' r.1 v->Q v H'
theorem Bj {x:Str}{k j:Nat}{ff:Addr}{fd:qca}{ps:List Str}{m:Fn}{p:Pos} (F:dR X.prog X.w X.K X.mg X.base CX0 j ff fd ps (spI K m)) (hjk:j<=k) (B:bv k X.A) (hg:Gl X x) (hm:X.mg x=some (.ref ff)) (hk:qcO X.K (.ref ff)=true) (hb:dn X.K fd ps [])
  (O:IA K X (e::es) af) (hdb:(x==("__debug__" : Str))=false:=by decide) (hs:aC e=true:=by rfl) (hp:es.all aC=true:=by rfl) :
  IE K X (.Call (.Name x p) (e::es) [] pos) (ap m af):=by
 refine⟨λenv st r h=>?_⟩;simp only[ap,qab]at h;obtain⟨y,hy,h⟩:=h;refine (xh (F.mono hjk) B hg hm hk hb .nil zO (O.run _ _ _ hy) hdb (aV hs) (bx hp)).imp ?_
 rintro L H Q ⟨φ,G,E,q⟩
 refine⟨φ,G,E,λP H1 A J s1 M=>?_⟩;show spI K m _ H1 Q E0;rw[qcv];exact⟨A,_,_,r,h,M,s1,λv H2 N Y s2 w2=>q v H2 N (J.trans Y) s2 w2⟩
end
inductive Fl where
 |nx (env:Ev) (st:Sto)|rt (w:W) (st:Sto)|bk (env:Ev) (st:Sto)|ct (env:Ev) (st:Sto)
abbrev Sf:=Ev->Sto->Option Fl
def yK (K:qae) (φ:List Addr) (H:Hp) (D:oP):Fl->Prop
 |.nx e s=>∀ b H' a,Fw φ a H H'->Er K H' a e b->Sr K H' a s->D.nx b H'
 |.rt w s=>∀ v H' a,Fw φ a H H'->Sr K H' a s->Rw K H' a w v->D.rt v H'
 |.bk e s=>∀ b H' a,Fw φ a H H'->Er K H' a e b->Sr K H' a s->D.bk b H'
 |.ct e s=>∀ b H' a,Fw φ a H H'->Er K H' a e b->Sr K H' a s->D.ct b H'
theorem yK.fw {K:qae}{φ d:List Addr}{H H1:Hp}{D:oP}{r:Fl} (h:yK K φ H D r) (f:Fw φ d H H1):yK K d H1 D r:=by
 cases r with
 |nx e s=>exact λb H' a c=>h b H' a (f.trans c)
 |rt w s=>exact λv H' a c=>h v H' a (f.trans c)
 |bk e s=>exact λb H' a c=>h b H' a (f.trans c)
 |ct e s=>exact λb H' a c=>h b H' a (f.trans c)
def tS (K:qae) (env:Ev) (st:Sto) (r:Fl):TS:=λD a H=>∃ φ,Er K H φ env a/\Sr K H φ st/\yK K φ H D r
structure IS (K:qae) (X:Cx) (s:Stmt) (g:Sf):Prop where
 run:∀ env st r,g env st=some r->PS X s (tS K env st r)
structure ISs (K:qae) (X:Cx) (s:List Stmt) (g:Sf):Prop where
 run:∀ env st r,g env st=some r->PSs X s (tS K env st r)
inductive Tg where
 |nm (i:Nat)|tp (is:List Nat)|tq (i:Nat) (is:List Nat)
def tL:Tg->List Nat
 |.nm i=>[i]
 |.tp is=>is
 |.tq i is=>i::is
def ox:List Nat->List D->Ev->Ev
 |i::is,d::ds,env=>ox is ds (env.set i (some (.d d)))
 |_,_,env=>env
def cC:Tg->W->Ev->Option Ev
 |.nm i,w,env=>some (env.set i (some w))
 |.tp is,.d (.tup ds),env=>if is.length=ds.length then some (ox is ds env) else none
 |.tp is,.d (.lst ds),env=>if is.length=ds.length then some (ox is ds env) else none
 |.tq i is,.d (.tup [d,.tup ds]),env=>if is.length=ds.length then some (ox is ds (env.set i (some (.d d)))) else none
 |_,_,_=>none
def AT (is:List Nat) (b a:St):Prop:=a.length=b.length/\∀ j,j∉is->a[j]?=b[j]?
def tG (K:qae) (g:Tg):TG:=λv c H Q=>∃ φ st env w a,Er K H φ env c/\Sr K H φ st/\Rw K H φ w v/\cC g w env=some a/\∀ b,Er K H φ a b->AT (tL g) c b->Q b H
def tGs (K:qae) (is:List Nat):TGs:=λc b H Q=>∃ φ st env ds,Er K H φ env b/\Sr K H φ st/\Rls K H φ ds c/\is.length=ds.length/\∀ a,Er K H φ (ox is ds env) a->AT is b a->Q a H
def aR:Sf
 |env,st=>some (.nx env st)
def ah (a b:Sf):Sf
 |env,st=>(a env st).bind λr=>match r with
 |.nx e s=>b e s
 |r=>some r
def az (g:Tg) (f:Ef):Sf
 |env,st=>(f env st).bind λr=>(cC g r.1 env).map λe=>.nx e r.2
def tJ (i j:Nat) (a:Af):Sf
 |env,st=>(a env st).bind λr=>match r.1 with
 |[x,y]=>some (.nx ((env.set i (some x)).set j (some y)) r.2)
 |_=>none
def fG (st:Sto) (o i v:W):Option Sto:=match o,i,v with
 |.h n,.d (.int k),.d x=>(lg st n).bind λds=>(ixN ds.length k).map λj=>st.set n (.l (ds.set j x))
 |_,_,_=>none
def bC (o i v:Ef):Sf
 |env,st=>(v env st).bind λc=>(o env c.2).bind λb=>(i env b.2).bind λa=>(fG a.2 b.1 a.1 c.1).map λs=>.nx env s
def aN (f:Ef):Sf
 |env,st=>(f env st).map λr=>.rt r.1 r.2
def j0 (f:Ef):Sf
 |env,st=>(f env st).map λr=>.nx env r.2
def aZ (c:Tf) (a b:Sf):Sf
 |env,st=>(c env st).bind λr=>if r.1=true then a env r.2 else b env r.2
def u7:Sf
 |env,st=>some (.bk env st)
def pE:Sf
 |env,st=>some (.ct env st)
def cO (g:Tg) (body:Sf):List D->Ev->Sto->Option Fl
 |[],env,st=>some (.nx env st)
 |d::ds,env,st=>(cC g (.d d) env).bind λe=>(body e st).bind λr=>match r with
  |.nx e s=>cO g body ds e s
  |.ct e s=>cO g body ds e s
  |.bk e s=>some (.nx e s)
  |.rt w s=>some (.rt w s)
def eY (a:Lf) (g:Tg) (body:Sf):Sf
 |env,st=>(a env st).bind λr=>cO g body r.1 env r.2
def bM (c:Tf) (body:Sf):Nat->Ev->Sto->Option Fl
 |0,_,_=>none
 |n+1,env,st=>(c env st).bind λk=>if k.1=true then (body env k.2).bind λr=>match r with
   |.nx e s=>bM c body n e s
   |.ct e s=>bM c body n e s
   |.bk e s=>some (.nx e s)
   |.rt w s=>some (.rt w s)
  else some (.nx env k.2)
def lcI (g:Tg) (tt:Tf) (te:Ef) (env:Ev):List D->Sto->Option (List D×Sto)
 |[],st=>some ([],st)
 |d::ds,st=>(cC g (.d d) env).bind λe=>(tt e st).bind λb=>if b.1=true then (te e b.2).bind λx=>(oW [x.1]).bind λa=>(lcI g tt te env ds x.2).map λr=>(a++r.1,r.2)
   else lcI g tt te env ds b.2
def lZ (k:Nat) (js:List Nat) (env:Ev):Ev:=qaC k none++js.map λj=>env.getD j none
def iLc (k:Nat) (js:List Nat) (a:Lf) (g:Tg) (tt:Tf) (te:Ef):Lf
 |env,st=>(a env st).bind λr=>if r.1.length<=1000000 then lcI g tt te (lZ k js env) r.1 r.2 else none
def aJ:Tf
 |_,st=>some (true,st)
def aB (f:Ef):Lf
 |env,st=>(f env st).bind λr=>match r.1 with
 |.d (.tup ds)=>some (ds,r.2)
 |.d (.lst ds)=>some (ds,r.2)
 |_=>none
def bX (lo:Int) (n:Nat):List D:=(qam n).map λk:Nat=>D.int (lo+k)
def bV (a:Af):Lf
 |env,st=>(a env st).bind λr=>match r.1 with
 |[.d (.int j)]=>if -(2^62)<=j/\j<2^62 then some (bX 0 j.toNat,r.2) else none
 |_=>none
def bW:Nat->List D->List D
 |_,[]=>[]
 |k,d::ds=>.tup [.int k,d]::bW (k+1) ds
def cJ (a:Af):Lf
 |env,st=>(a env st).bind λr=>match r.1 with
 |[.d (.tup ds)]=>some (bW 0 ds,r.2)
 |[.d (.lst ds)]=>some (bW 0 ds,r.2)
 |_=>none
section
variable {K:qae}{X:Cx}{pos:Pos}
theorem PS.imp {s:Stmt}{t t':TS} (h:PS X s t) (m:∀ D A H,t' D A H->t D A H):PS X s t':=λB s A H D I q=>h B s A H D I (m D A H q)
theorem PSs.imp {s:List Stmt}{t t':TS} (h:PSs X s t) (m:∀ D A H,t' D A H->t D A H):PSs X s t':=λB s A H D I q=>h B s A H D I (m D A H q)
theorem Er.set {H:Hp}{φ:List Addr}{env:Ev}{A:St} (h:Er K H φ env A) (i:Nat) {w:W}{v:V} (r:Rw K H φ w v):Er K H φ (env.set i (some w)) (A.set i (some v)):=by
 refine⟨by rw[qcd,qcd,h.len],λj w' e=>?_⟩;by_cases hj:i=j
 ·subst hj
  have hi:=by
   have:=(qar.mp e).1
   rwa [qcd]at this
  rw[qbm hi]at e;cases e;exact⟨v,by rw[qbm (by rw[<-h.len];exact hi)],r⟩
 ·rw[qbE hj]at e
  obtain⟨v',O,r1⟩:=h.at_ j w' e;exact⟨v',by rw[qbE hj];exact O,r1⟩
theorem At (i:Nat) (A:St) (v:Option V):AT [i] A (A.set i v):=⟨by rw[qcd],λj hj=>by rw[qbE (by rintro rfl;simp at hj)]⟩
theorem j9 {i:Nat}{x:Str} (h:PG X (.Name x pos) (tB i)):PG X (.Name x pos) (tG K (.nm i)):=by
 intro B s A H v u Q I P q;obtain⟨φ,st,env,w,env',E,G,r,e,q⟩:=q;cases e;exact h B s A H v u Q I P (q _ (E.set i r) (At i A _))
theorem kc:PGs X [] (tGs K []):=by
 intro B s A H Y us Q I P q;obtain⟨φ,st,env,ds,E,G,r,e,q⟩:=q;cases ds with
 |nil=>cases r;exact BP B s A H [] us Q I P ⟨U,q A E ⟨U,λ_ _=>rfl⟩⟩
 |cons _ _=>cases e
theorem gf {i:Nat}{is:List Nat}{x:Str}{es:List Expr} (h1:PG X (.Name x pos) (tB i)) (h2:PGs X es (tGs K is)):PGs X (.Name x pos::es) (tGs K (i::is)):=by
 intro B s A H Y us Q I P q;obtain⟨φ,st,env,ds,E,G,r,e,q⟩:=q;cases ds with
 |nil=>cases e
 |cons d ds=>
  obtain⟨v,vr,rfl,r1,r2⟩:=r;refine zR h1 h2 (v8 U) B s A H _ us Q I P ⟨v,vr,U,φ,st,_,ds,E.set i (w:=.d d) r1,G,r2,by simpa using e,λσ' N s'=>q σ' N ?_⟩;refine⟨by rw[s'.1,qcd],λj hj=>?_⟩;rw[s'.2 j (λz=>hj (qaj _ z)),qbE (by rintro rfl;exact hj qag)]
def Gq (K:qae) (n:Nat) (t:TGs):TG:=λv A H Q=>∃ a xs,v=.ref a/\SqL K H a xs/\xs.length=n/\t xs A H Q
theorem D9 {es:List Expr}{k:Nat}{t:TGs}{n:Nat} (hc:X.calm=true) (h:PGs X es t) (hn:(qb0 es X.env).length=n) (hst:(qb0 es X.env).findIdx? (·.1)=none):PG X (.Tuple es k pos) (Gq X.K n t):=by
 intro B s A H v u Q I r hw;obtain⟨a,xs,O,hq,T,hw⟩:=hw;subst O;cases r;obtain⟨its,P,p,hz⟩:=I.list hq;refine qac (qeI ?_);unfold unpack;rw[show (qb0 es X.env).length=its.toArray.size by simp[hn,<-T,P.length],hst];refine qac (qcl (PySem.W.kun_itemsOf (I.ok.hd hc) p.isList λh' hx=>?_));exact h B _ A H xs _ Q (I.kept λb o e=>hx b o (qaA (qau e)) e) (by simpa using P) hw
theorem nF {es:List Expr}{k n:Nat}{is:List Nat} (h:PGs X es (tGs K is)) (hes:es.all aC=true:=by rfl) (hn:es.length=n:=by rfl) (hi:is.length=n:=by rfl) (hc:X.calm=true:=by rfl) (hK:X.K=K:=by rfl):PG X (.Tuple es k pos) (tG K (.tp is)):=by
 intro B s A H v u Q I P q;obtain⟨φ,st,env,w,env',E,G,r,e,q⟩:=q;cases w with
 |h n=>cases e
 |d x=>
  cases x with
  |tup ds=>
   have N:(if is.length=ds.length then some _ else none)=some env':=e;by_cases T:is.length=ds.length
   ·rw[iFP T]at N
    cases N;obtain⟨a,Y,rfl,hq,F⟩:=r;exact Ea hc h ((pT hes).trans hn) (mV hes) B s A H _ u Q I P ⟨a,Y,U,(SqT.of hq),by rw[<-F.length,<-T,hi],φ,st,env,ds,E,G,F,T,q⟩
   ·rw[iFN T]at N
    cases N
  |lst ds=>
   have N:(if is.length=ds.length then some _ else none)=some env':=e;by_cases T:is.length=ds.length
   ·rw[iFP T]at N
    cases N;obtain⟨a,Y,rfl,_,hq,F⟩:=r;exact D9 hc h ((pT hes).trans hn) (mV hes) B s A H _ u Q I P ⟨a,Y,U,.inl hq,by rw[<-F.length,<-T,hi],φ,st,env,ds,E,G,F,T,q⟩
   ·rw[iFN T]at N
    cases N
  |_=>cases e
variable {s:Stmt}{ss rest:List Stmt}{e a b c:Expr}{ga gb:Sf}{f fa fb fc:Ef}
theorem mC:ISs K X [] aR:=by
 refine⟨λenv st r F=>?_⟩;cases F;exact BX.imp λD A H ⟨φ,E,G,q⟩=>q A H φ (Fw.refl φ H) E G
theorem mD (h:IS K X s ga):ISs K X [s] ga:=⟨λenv st r F=>xn (h.run env st r F)⟩
theorem ki (h1:IS K X s ga) (h2:ISs K X rest gb):ISs K X (s::rest) (ah ga gb):=by
 refine⟨λenv st r F=>?_⟩;simp only[ah,qab]at F;obtain⟨r1,O,F⟩:=F;cases r1 with
 |nx e s1=>
  refine (dC (h1.run _ _ _ O) (h2.run _ _ _ F)).imp ?_
  rintro D A H ⟨φ,E,G,q⟩
  exact⟨φ,E,G,λσ' H' φ' f' N s'=>⟨φ',N,s',q.fw f'⟩⟩
 |rt w s1=>
  cases F;exact (dC (h1.run _ _ _ O) gu).imp λD A H ⟨φ,E,G,q⟩=>⟨φ,E,G,q⟩
 |bk w s1=>
  cases F;exact (dC (h1.run _ _ _ O) gu).imp λD A H ⟨φ,E,G,q⟩=>⟨φ,E,G,q⟩
 |ct w s1=>
  cases F;exact (dC (h1.run _ _ _ O) gu).imp λD A H ⟨φ,E,G,q⟩=>⟨φ,E,G,q⟩
theorem qV {i:Nat}{x:Str}{pos':Pos} (hN:X.N.Nodup) (hi:X.N[i]?=some x) (hx:Loc X.env.scope x) (he:IE K X e f) (hs:qcD e (some (.Name x pos')) pos.line X.env=pure false:=by rfl) (hf:X.fn x=true\/X.env.scope.names.lookup x=some .local:=by first|exact .inl U|exact .inr U|assumption) :
  IS K X (.Assign [.Name x pos'] e pos) (az (.nm i) f):=by
 refine⟨λenv st r F=>?_⟩;simp only[az,cC,qab,qad]at F;obtain⟨y,hy,N,ee,rfl⟩:=F;cases ee;refine (Eg hN hi hx (he.run _ _ _ hy) hs hf).imp ?_
 rintro D A H ⟨φ,E,G,q⟩
 exact⟨φ,E,G,λv H1 L M s1 w1=>q _ H1 L M ((E.fw G M).set i w1) s1⟩
theorem qS {tg:Expr}{g:Tg} (he:IE K X e f) (hg:PG X tg (tG K g)) (hs:qdX [tg] e pos.line X.env=pure false:=by rfl) (hw:qdY [tg] e X.env=pure none:=by rfl)
  (h1:aC tg=true:=by rfl):IS K X (.Assign [tg] e pos) (az g f):=by
 refine⟨λenv st r F=>?_⟩;simp only[az,qab,qad]at F;obtain⟨y,hy,N,ee,rfl⟩:=F;refine (rQ (he.run _ _ _ hy) hg hs hw (l6 h1)).imp ?_
 rintro D A H ⟨φ,E,G,q⟩
 exact⟨φ,E,G,λv H1 L M s1 w1=>⟨L,_,env,_,N,E.fw G M,s1,w1,ee,λσ' e'' _=>q σ' H1 L M e'' s1⟩⟩
theorem Sr.putC {H:Hp}{φ:List Addr}{st:Sto}{n:Nat}{a:Addr}{o:HO}{c:C} (S:Sr K H φ st) (hn:φ[n]?=some a) (w:Fw φ φ H (upd H a o)->Rc K (upd H a o) φ n a c) :
  Fw φ φ H (upd H a o)/\Sr K (upd H a o) φ (st.set n c):=by
 have f:Fw φ φ H (upd H a o):=⟨⟨[],by simp,by simp⟩,λb o hb h=>by rw[upd_ne (λz=>hb (by rw[z];exact (qbO hn)))];exact h,λb o h=>by
  by_cases z:b=a
  ·subst z;exact⟨_,upd_same⟩
  ·exact⟨o,by rw[upd_ne z];exact h⟩⟩
 refine⟨f,S.nd,by rw[qcd];exact S.len,λm b es O e2=>?_⟩;by_cases hm:n=m
 ·subst hm
  rw[O]at hn;cases hn;have T:n<st.length:=by rw[<-S.len];exact (qar.mp O).1
  rw[qbm T]at e2;cases e2;exact w f
 ·rw[qbE hm]at e2
  have hne:b≠a:=by
   rintro rfl
   obtain⟨h1,h1'⟩:=qar.mp hn;obtain⟨h2,h2'⟩:=qar.mp O;exact hm ((qdJ S.nd).mp (h1'.trans h2'.symm))
  exact (S.at_ m b es O e2).fw S f λo h=>by rw[upd_ne hne];exact h
theorem Sr.put {H:Hp}{φ:List Addr}{st:Sto}{n:Nat}{a:Addr}{Y:List V}{ds:List D} (S:Sr K H φ st) (hn:φ[n]?=some a) (w:Rls K H φ ds Y) :
  Fw φ φ H (upd H a (.lst Y))/\Sr K (upd H a (.lst Y)) φ (st.set n (.l ds)):=S.putC hn λf=>⟨Y,upd_same,w.fw S f⟩
theorem vN {st s':Sto}{o i v:W} (h:fG st o i v=some s'):∃ n k x ds j,o=.h n/\i=.d (.int k)/\v=.d x/\lg st n=some ds/\ixN ds.length k=some j/\s'=st.set n (.l (ds.set j x)):=by
 unfold fG at h;split at h
 ·obtain⟨ds,O,h⟩:=qab.mp h
  obtain⟨j,e2,h⟩:=qad.mp h;exact⟨_,_,_,ds,j,U,U,U,O,e2,h.symm⟩
 ·cases h
theorem kg {tpos:Pos} (ho:IE K X a fa) (hi:IE K X b fb) (hv:IE K X e f) (hb:rP b=true:=by rfl) (hs:qdX [.Subscript a b tpos] e pos.line X.env=pure false:=by rfl) (hw:qdY [.Subscript a b tpos] e X.env=pure none:=by rfl) :
  IS K X (.Assign [.Subscript a b tpos] e pos) (bC fa fb f):=by
 refine⟨λenv st r F=>?_⟩;simp only[bC,qab,qad]at F;obtain⟨P,ev,ro,eo,ri,ei,s',es,rfl⟩:=F;refine (rQ (hv.run _ _ _ ev) (vF (ho.run _ _ _ eo) (hi.run _ _ _ ei) oA (pU hb)) hs hw (l6 U)).imp ?_
 rintro D A H ⟨φ,E,G,q⟩
 refine⟨φ,E,G,λv H1 L M s1 w1=>⟨L,E.fw G M,s1,λo H2 φ2 f2 s2 w2=>⟨φ2,(E.fw G M).fw s1 f2,s2,λi H3 φ3 f3 s3 w3=>?_⟩⟩⟩;obtain⟨ro1,ro2⟩:=ro;obtain⟨rv1,rv2⟩:=P;obtain⟨ri1,ri2⟩:=ri;obtain⟨n,k,x,ds,j,rfl,rfl,rfl,eds,ej,rfl⟩:=vN es;obtain⟨p,ep,rfl⟩:=(w2.fw s2 f3);obtain⟨Y,hp,rl⟩:=s3.atl n p ds ep eds;subst w3;obtain⟨f4,s4⟩:=s3.put ep (Rls.set j rl ((w1.fw s1 f2).fw s2 f3));refine⟨p,Y,k,j,U,U,hp,by rw[<-rl.length];exact ej,?_⟩;exact q _ _ φ3 (((M.trans f2).trans f3).trans f4) ((((E.fw G M).fw s1 f2).fw s2 f3).fw s3 f4) s4
theorem qU (h:IE K X e f):IS K X (.Return (some e) pos) (aN f):=by
 refine⟨λenv st r F=>?_⟩;simp only[aN,qad]at F;obtain⟨y,hy,rfl⟩:=F;exact (Ee (h.run _ _ _ hy)).imp λD A H ⟨φ,E,G,q⟩=>⟨φ,E,G,q⟩
theorem mv (h:IE K X e f) (hs:qcD e none pos.line X.env=pure false:=by rfl):IS K X (.Expr e pos) (j0 f):=by
 refine⟨λenv st r F=>?_⟩;simp only[j0,qad]at F;obtain⟨y,hy,rfl⟩:=F;exact (BW (h.run _ _ _ hy) hs).imp λD A H ⟨φ,E,G,q⟩=>⟨φ,E,G,λv H1 L M s1 w1=>q A H1 L M (E.fw G M) s1⟩
theorem wF {tc:Tf}{sa sb:List Stmt} (hc:IT K X c tc) (ha:ISs K X sa ga) (hb:ISs K X sb gb):IS K X (.If c sa sb pos) (aZ tc ga gb):=by
 refine⟨λenv st r F=>?_⟩;simp only[aZ,qab]at F;obtain⟨⟨k,s1⟩,hx,F⟩:=F;cases k with
 |true=>
  refine (CU (hc.run _ _ _ hx) (ha.run _ _ _ F) gu).imp ?_
  rintro D A H ⟨φ,E,G,q⟩
  refine⟨φ,E,G,λH1 L M s1=>Dz ?_⟩;exact⟨L,E.fw G M,s1,q.fw M⟩
 |false=>
  refine (CU (hc.run _ _ _ hx) gu (hb.run _ _ _ F)).imp ?_
  rintro D A H ⟨φ,E,G,q⟩
  refine⟨φ,E,G,λH1 L M s1=>Dy ?_⟩;exact⟨L,E.fw G M,s1,q.fw M⟩
theorem kf:IS K X (.Break pos) u7:=by
 refine⟨λenv st r F=>?_⟩;cases F;exact z6.imp λD A H ⟨φ,E,G,q⟩=>q A H φ (Fw.refl φ H) E G
theorem mq:IS K X (.Continue pos) pE:=by
 refine⟨λenv st r F=>?_⟩;cases F;exact uB.imp λD A H ⟨φ,E,G,q⟩=>q A H φ (Fw.refl φ H) E G
def FZ (K:qae) (g:Sf):TS:=λD A H=>∃ env st r,g env st=some r/\tS K env st r D A H
def C3 (K:qae) (f:Ef):TE:=λA H Q=>∃ env st r,f env st=some r/\tI K env st r A H Q
def Az (K:qae) (f:Tf):TT:=λA H Q=>∃ env st r,f env st=some r/\tIT K env st r A H Q
theorem ISs.any (h:ISs K X ss ga):PSs X ss (FZ K ga):=λB s A H D I ⟨env,st,r,e,q⟩=>h.run env st r e B s A H D I q
theorem IE.any (h:IE K X e f):PE X e (C3 K f):=λB s A H D I ⟨env,st,r,e,q⟩=>h.run env st r e B s A H D I q
theorem IT.any {tf:Tf} (h:IT K X e tf):PT X e (Az K tf):=λB s A H D I ⟨env,st,r,e,q⟩=>h.run env st r e B s A H D I q
def Yl (K:qae) (φ0:List Addr) (H0:Hp) (J:It) (ds:List D):Prop:=∀ (H:Hp) (φ:List Addr) (st:Sto) (i:Nat),Fw φ0 φ H0 H->Sr K H φ st->
 (∀ d,ds[i]?=some d->J.go i H/\∀ x H',J.yld i H x H'->aS H H'/\Rl K H' φ d x)/\(ds.length=i->J.stop i H)
def tII (K:qae) (env:Ev) (st:Sto) (r:List D×Sto):TI:=λA H R=>∃ φ,Er K H φ env A/\Sr K H φ st/\∀ J H' φ',Fw φ φ' H H'->Sr K H' φ' r.2->Yl K φ' H' J r.1->R J H'
structure II (K:qae) (X:Cx) (tg iter:Expr) (f:Lf):Prop where
 run:∀ env st r,f env st=some r->PI X tg iter (tII K env st r)
theorem PI.imp {tg iter:Expr}{t t':TI} (h:PI X tg iter t) (m:∀ A H R,t' A H R->t A H R):PI X tg iter t':=λB s A H R I q=>h B s A H R I (m A H R q)
variable {tg:Expr}
end
section
variable {K:qae}{X:Cx}{pos:Pos}{tg e a b:Expr}{f:Ef}{af:Af}
theorem nG (h:IE K X e f) (hK:X.K=K:=by rfl):II K X tg e (aB f):=by
 subst hK;refine⟨λenv st r B=>?_⟩;simp only[aB,qab]at B;obtain⟨⟨w,s1⟩,hy,B⟩:=B;dsimp only at B;split at B
 ·rename_i ds
  cases B;refine (Eb (h.run _ _ _ hy)).imp ?_
  rintro G H R ⟨φ,P,N,q⟩
  refine⟨φ,P,N,λv H1 E f1 s1 w1=>?_⟩;obtain⟨a,W,rfl,hq,B⟩:=w1;refine⟨a,U,⟨W,(SqT.of hq)⟩,q _ H1 E f1 s1 λH2 u O i f2 s2=>?_⟩;have hq2:=(SqT.of hq).fw s1 f2;have hr2:=B.fw s1 f2;refine⟨λd hd=>?_,λhi=>⟨W,hq2,by rw[<-hr2.length];exact qdI hi⟩⟩;obtain⟨v,ev,rv⟩:=hr2.get hd;refine⟨⟨W,v,hq2,ev⟩,λx H' y=>?_⟩;obtain⟨rfl,y⟩:=y
  have:=y W hq2
  rw[ev]at this;cases this;exact⟨aS.refl _,rv⟩
 ·rename_i ds
  cases B;refine (BQ (h.run _ _ _ hy)).imp ?_
  rintro G H R ⟨φ,P,N,q⟩
  refine⟨φ,P,N,λv H1 E f1 s1 w1=>?_⟩;obtain⟨a,W,rfl,h0,hq,B⟩:=w1;refine⟨a,U,⟨W,.inl hq⟩,q _ H1 E f1 s1 λH2 u O i f2 s2=>?_⟩;have hq2:SqL X.K H2 a W:=.inl (hq.fw f2 h0);have hr2:=B.fw s1 f2;refine⟨λd hd=>?_,λhi=>⟨W,hq2,by rw[<-hr2.length];exact qdI hi⟩⟩;obtain⟨v,ev,rv⟩:=hr2.get hd;refine⟨⟨W,v,hq2,ev⟩,λx H' y=>?_⟩;obtain⟨rfl,y⟩:=y
  have:=y W hq2
  rw[ev]at this;cases this;exact⟨aS.refl _,rv⟩
 all_goals cases B
theorem uE (lo:Int) (n i:Nat):(bX lo n)[i]?=if i<n then some (.int (lo+i)) else none:=by
 unfold bX;rw[qaF];by_cases h:i<n
 ·rw[qbL h,iFP h];rfl
 ·rw[qaQ (by simpa using h),iFN h];rfl
theorem bL (lo:Int) (n:Nat):(bX lo n).length=n:=by unfold bX;rw[qaf,qav]
theorem EL (lo:Int) (n:Nat) {φ:List Addr}{H:Hp}:Yl K φ H (Itr lo n) (bX lo n):=by
 intro H2 u O i f2 s2;refine⟨λd hd=>?_,λhi=>by rw[bL]at hi;exact qdI hi⟩;rw[uE]at hd;by_cases h:i<n
 ·rw[iFP h]at hd
  cases hd;refine⟨h,λx H' y=>?_⟩;obtain⟨rfl,rfl⟩:=y;exact⟨aS.refl _,U⟩
 ·rw[iFN h]at hd;cases hd
theorem mm {p:Pos} (hg:Gl X "range") (hm:X.mg "range" = none) (ha:IA K X [a] af) (hs:aC a=true:=by rfl):II K X tg (.Call (.Name "range" p) [a] [] pos) (bV af):=by
 refine⟨λenv st r B=>?_⟩;simp only[bV,qab]at B;obtain⟨⟨ws,s1⟩,hy,B⟩:=B;dsimp only at B;split at B
 case h_2=>cases B
 rename_i j;have L:(if -(2^62)<=j/\j<2^62 then some (bX 0 j.toNat,s1) else none)=some r:=B;by_cases hj:-(2^62)<=j/\j<2^62
 ·rw[iFP hj]at L
  cases L;refine (yt hg hm (ha.run _ _ _ hy) (iW hs)).imp ?_
  rintro G H R ⟨φ,P,N,q⟩
  refine⟨φ,P,N,λW H1 E f1 s1 w1=>?_⟩;obtain⟨v,r,rfl,r1,rfl⟩:=w1;exact⟨j,by rw[show v=.int j from r1],hj.1,hj.2,q _ H1 E f1 s1 (EL 0 _)⟩
 ·rw[iFN hj]at L;cases L
theorem f9:∀ (ds:List D) (k i:Nat),(bW k ds)[i]?=(ds[i]?).map λd=>D.tup [.int ((k+i:Nat):Int),d]
 |[],k,i=>by simp[bW]
 |d::ds,k,0=>by simp[bW]
 |d::ds,k,i+1=>by
  have:=f9 ds (k+1) i
  rw[show k+1+i=k+(i+1) by lia]at this;simpa [bW] using this
theorem kS:∀ (ds:List D) (k:Nat),(bW k ds).length=ds.length
 |[],_=>rfl
 |d::ds,k=>by rw[bW,qap,qap,kS ds]
theorem xI {S:Hp->List V->Prop}{ds:List D}{W:List V}{φ:List Addr}{H:Hp} (N:∀ H' Y,Fw φ Y H H'->S H' W) (B:∀ H' Y,Fw φ Y H H'->Rls K H' Y ds W):Yl K φ H (Ite S) (bW 0 ds):=by
 intro H2 u O i f2 s2;have q2:=N H2 u f2;have r2:=B H2 u f2;refine⟨λd hd=>?_,λhi=>⟨W,q2,by rw[<-r2.length,<-kS ds 0];exact hi⟩⟩;rw[f9,qad]at hd;obtain⟨d',hd',rfl⟩:=hd;obtain⟨v,ev,rv⟩:=r2.get hd';refine⟨⟨W,v,q2,ev⟩,λx H' y=>?_⟩;obtain⟨T,v',y1,hT,rfl,rfl⟩:=y
 have:=y1 W q2
 rw[ev]at this;cases this;refine⟨aS.new hT _,T,_,U,upd_same,_,_,U,?_,_,_,U,rv.fw s2 (Fw.new hT),U⟩;show V.int _=V.int _;rw[qbj]
theorem ml {elts:List Expr}{k:Nat}{tpos p:Pos} (hg:Gl X "enumerate") (hm:X.mg "enumerate" = none) (ha:IA K X [a] af) (hs:aC a=true:=by rfl) (hK:X.K=K:=by rfl) :
  II K X (.Tuple elts k tpos) (.Call (.Name "enumerate" p) [a] [] pos) (cJ af):=by
 subst hK;refine⟨λenv st r B=>?_⟩;simp only[cJ,qab]at B;obtain⟨⟨ws,s1⟩,hy,B⟩:=B;dsimp only at B;split at B
 ·rename_i ds
  cases B;refine (zT hg hm (ha.run _ _ _ hy) (iW hs)).imp ?_
  rintro G H R ⟨φ,P,N,q⟩
  refine⟨φ,P,N,λW H1 E f1 s1 w1=>?_⟩;obtain⟨v,r,rfl,⟨a,us,rfl,hq,B⟩,rfl⟩:=w1;exact⟨a,U,⟨us,(SqT.of hq)⟩,q _ H1 E f1 s1 (xI (λH' Y f=>(SqT.of hq).fw s1 f) λH' Y f=>B.fw s1 f)⟩
 ·rename_i ds
  cases B;refine (zS hg hm (ha.run _ _ _ hy) (iW hs)).imp ?_
  rintro G H R ⟨φ,P,N,q⟩
  refine⟨φ,P,N,λW H1 E f1 s1 w1=>?_⟩;obtain⟨v,r,rfl,⟨a,us,rfl,h0,hq,B⟩,rfl⟩:=w1;exact⟨a,U,⟨us,.inl hq⟩,q _ H1 E f1 s1 (xI (λH' Y f=>.inl (hq.fw f h0)) λH' Y f=>B.fw s1 f)⟩
 all_goals cases B
theorem qT {iter:Expr}{body:List Stmt}{fi:Lf}{g:Tg}{gb:Sf} (hi:II K X tg iter fi) (hg:PG X tg (tG K g)) (hb:ISs K X body gb) (hp:qhV (model X.prog X.w) X.A X.env X.xe) (hc:X.calm=true:=by rfl)
  (hs:∀ x,qbZ iter X.env x=pure x:=by intro _;rfl):IS K X (.For tg iter body [] pos) (eY fi g gb):=by
 refine⟨λenv st r B=>?_⟩;simp only[eY,qab]at B;obtain⟨⟨ds,s1⟩,hy,B⟩:=B;refine (Ed hp hc (hi.run _ _ _ hy) hg hb.any hs).imp ?_
 rintro D G H ⟨φ,P,N,q⟩
 refine⟨φ,P,N,λJ H1 E f1 S1 yl=>?_⟩;refine⟨λi m G H=>m=ds.length - i/\i<=ds.length/\∃ env st u,Fw E u H1 H/\Er K H u env G/\Sr K H u st/\cO g gb (ds.drop i) env st=some r,⟨ds.length,by simp,qby _,env,s1,E,Fw.refl _ _,P.fw N f1,S1,B⟩,?_⟩
 rintro i m G H2 ⟨rfl,hi,env2,O,u,f2,e2,S2,h2⟩
 obtain⟨y1,y2⟩:=yl H2 u O i f2 S2;by_cases hlt:i<ds.length
 ·obtain⟨go,yld⟩:=y1 ds[i] (qao hlt)
  rw[qdb hlt]at h2;simp only[cO,qab]at h2;obtain⟨e3,he3,r3,hr3,h3⟩:=h2;refine .inr ⟨go,λσ' H'=>i+1<=ds.length/\∃ env st u,Fw E u H1 H'/\Er K H' u env σ'/\Sr K H' u st/\cO g gb _ env st=some r,λσ' H' ⟨hn,p'⟩=>⟨_,by lia,U,hn,p'⟩,λx H' y=>?_⟩;obtain⟨sm,rx⟩:=yld x H' y;have S3:=S2.same sm;have f3:=f2.trans (Fw.same sm);refine⟨u,O,env2,.d ds[i],e3,e2.fw S2 (Fw.same sm),S3,rx,he3,λσ' e' _=>?_⟩;refine⟨e3,O,r3,hr3,u,e',S3,?_⟩;cases r3 with
  |nx e4 s4=>exact λσ4 H4 F f4 e4' M=>⟨hlt,e4,s4,F,f3.trans f4,e4',M,h3⟩
  |ct e4 s4=>exact λσ4 H4 F f4 e4' M=>⟨hlt,e4,s4,F,f3.trans f4,e4',M,h3⟩
  |bk e4 s4=>
   cases h3;exact λσ4 H4 F f4 e4' M=>q σ4 H4 F (f1.trans (f3.trans f4)) e4' M
  |rt w s4=>
   cases h3;exact λv H4 F f4 M w4=>q v H4 F (f1.trans (f3.trans f4)) M w4
 ·have hi':i=ds.length:=by lia
  subst hi';rw[qh1]at h2;cases h2;exact .inl ⟨y2 U,q G H2 u (f1.trans f2) e2 S2⟩
def qD (n:Nat) (c:Tf) (b:Sf):Sf
 |env,st=>bM c b n env st
theorem kh {c:Expr}{body:List Stmt}{tc:Tf}{gb:Sf} (n:Nat) (hc:IT K X c tc) (hb:ISs K X body gb) (hp:qhV (model X.prog X.w) X.A X.env X.xe):IS K X (.While c body [] pos) (qD n tc gb):=by
 refine⟨λenv st r B=>?_⟩;refine (z8 hp hc.any hb.any).imp ?_
 rintro D G H ⟨φ,P,N,q⟩
 refine⟨λm G H'=>∃ env st u,Fw φ u H H'/\Er K H' u env G/\Sr K H' u st/\bM tc gb m env st=some r,⟨n,env,st,φ,Fw.refl _ _,P,N,B⟩,?_⟩
 rintro m G H2 ⟨env2,O,u,f2,e2,S2,h2⟩
 cases m with
 |zero=>cases h2
 |succ m=>
  simp only[bM,qab]at h2;obtain⟨⟨k,s3⟩,hk,h2⟩:=h2;refine⟨env2,O,_,hk,u,e2,S2,λH3 φ3 f3 S3=>?_⟩;cases k with
  |false=>
   cases h2;exact Dy (q G H3 φ3 (f2.trans f3) (e2.fw S2 f3) S3)
  |true=>
   simp only[if_true,qab]at h2;obtain⟨r3,hr3,h3⟩:=h2;refine Dz ⟨_,λσ' H' p'=>⟨m,qb5 _,p'⟩,?_⟩;refine⟨env2,s3,r3,hr3,φ3,e2.fw S2 f3,S3,?_⟩;have f3':=f2.trans f3;cases r3 with
   |nx e4 s4=>exact λσ4 H4 F f4 e4' M=>⟨e4,s4,F,f3'.trans f4,e4',M,h3⟩
   |ct e4 s4=>exact λσ4 H4 F f4 e4' M=>⟨e4,s4,F,f3'.trans f4,e4',M,h3⟩
   |bk e4 s4=>
    cases h3;exact λσ4 H4 F f4 e4' M=>q σ4 H4 F (f3'.trans f4) e4' M
   |rt w s4=>
    cases h3;exact λv H4 F f4 M w4=>q v H4 F (f3'.trans f4) M w4
structure ITs (K:qae) (X:Cx) (ifs:List Expr) (t:Tf):Prop where
 run:PTs X ifs (Az K t)
theorem i8:ITs K X [] aJ:=by
 refine⟨λpins s G H Q I ⟨env,st,r,e,φ,P,N,q⟩=>?_⟩;cases e;exact BZ pins s G H Q I (q H φ (Fw.refl φ H) N)
theorem mE {c:Expr}{t:Tf} (h:IT K X c t):ITs K X [c] t:=⟨B0 h.any⟩
theorem Er.emb {H:Hp}{φ:List Addr}{env:Ev}{G:St} (h:Er K H φ env G) (k:Nat) (js:List Nat):Er K H φ (lZ k js env) (f8 k js G):=by
 refine⟨by unfold lZ f8;simp,λi w e=>?_⟩;unfold lZ at e;unfold f8;by_cases hi:i<k
 ·rw[qaE (by simpa using hi),qdq,iFP hi]at e
  cases e
 ·rw[qaJ (by simpa using hi),qc1,qaF,qad]at e
  obtain⟨j,ej,e⟩:=e;have ej2:env[j]?=some (some w):=by
   rw[qf5]at e;cases q:env[j]? with
   |none=>rw[q]at e;cases e
   |some o=>rw[q]at e;rw[show o=some w from e]
  obtain⟨v,ev,rv⟩:=h.at_ j w ej2;refine⟨v,?_,rv⟩;rw[qaJ (by simpa using hi),qc1,qaF,ej];show some ((G[j]?).getD none)=_;rw[ev];rfl
theorem Sub.stay {k:Nat}{js is:List Nat}{G σ':St} (h:AT is (f8 k js G) σ') (hi:∀ j∈is,j<k):Sub (f8 k js G) σ':=by
 refine⟨h.1.symm,λj v e=>?_⟩;by_cases hj:j∈is
 ·have:=hi j hj
  unfold f8 at e;rw[qaE (by simpa using this),qdq,iFP this]at e;cases e
 ·rw[h.2 j hj];exact e
theorem vj {k:Nat}{js:List Nat}{g:Tg}{tt:Tf}{te:Ef}{env:Ev}{st s1:Sto}{ds:List D}{r:List D×Sto} (hgi:∀ j∈tL g,j<k) (hdl:ds.length<=1000000) (L:lcI g tt te (lZ k js env) ds s1=some r) :
  ∀ G H Q,tIL K env st r G H Q->tLc (f8 k js) (tII K env st (ds,s1)) (tG K g) (Az K tt) (C3 K te) G H Q:=by
 rintro G H Q ⟨φ,P,N,q⟩
 refine⟨φ,P,N,λJ H1 E f1 S1 yl=>?_⟩;refine⟨λi m ys H2=>m=ds.length - i/\i<=ds.length/\∃ st u es r2,Fw E u H1 H2/\Sr K H2 u st/\Rls K H2 u es ys/\es.length<=i/\lcI g tt te _ (ds.drop i) st=some r2/\r=(es++r2.1,r2.2),⟨ds.length,by simp,qby _,s1,E,[],r,Fw.refl _ _,S1,U,qan _,L,U⟩,?_⟩
 rintro i m ys H2 ⟨rfl,hi,O,u,es,r2,f2,S2,rl2,hle,h2,rfl⟩
 obtain⟨y1,y2⟩:=yl H2 u O i f2 S2;by_cases hlt:i<ds.length
 ·obtain⟨go,yld⟩:=y1 ds[i] (qao hlt)
  rw[qdb hlt]at h2;simp only[lcI,qab]at h2;obtain⟨e3,he3,⟨kb,s3⟩,hb3,h3⟩:=h2;have hz:ys.length<qaH:=by
   rw[<-rl2.length]
   have:=qc8
   lia
  refine .inr ⟨go,hz,λys' H'=>i+1<=ds.length/\∃ st u es' r2',Fw E u H1 H'/\Sr K H' u st/\Rls K H' u es' ys'/\es'.length<=i+1/\lcI g tt te _ _ st=some r2'/\(es++r2.1,r2.2)=(es'++r2'.1,r2'.2),λys' H' ⟨hn,p'⟩=>⟨_,by lia,U,hn,p'⟩,λx H' y=>?_⟩;obtain⟨sm,rx⟩:=yld x H' y;have S3:=S2.same sm;have f3:=f2.trans (Fw.same sm);refine⟨u,O,_,.d ds[i],e3,((P.fw N f1).emb k js).fw S1 f3,S3,rx,he3,λσ' e' stay=>⟨Sub.stay stay hgi,?_⟩⟩;refine⟨e3,O,_,hb3,u,e',S3,λH4 F f4 S4=>?_⟩;cases kb with
  |false=>
   exact Dy ⟨hlt,s3,F,es,r2,f3.trans f4,S4,(rl2.fw S2 (Fw.same sm)).fw S3 f4,by lia,h3,U⟩
  |true=>
   simp only[if_true,qab,qad]at h3;obtain⟨x5,hx5,zs,hzs,r5,hr5,rfl⟩:=h3;refine Dz ⟨e3,s3,x5,hx5,F,e'.fw S3 f4,S4,λv H5 φ5 f5 S5 w5=>?_⟩;obtain⟨x5,s5⟩:=x5;cases x5 with
   |h n=>cases hzs
   |d z=>
    cases hzs;refine⟨hlt,s5,φ5,es++[z],r5,(f3.trans f4).trans f5,S5,(((rl2.fw S2 (Fw.same sm)).fw S3 f4).fw S4 f5).append ⟨v,_,U,w5,U⟩,by simp;lia,hr5,?_⟩
    simp
 ·have hi':i=ds.length:=by lia
  subst hi';rw[qh1]at h2;cases h2;refine .inl ⟨y2 U,λDn hD=>?_⟩
  have:=q Dn ys H2 u (f1.trans f2) S2 hD
  exact this (by simpa using rl2)
theorem zp {A:Scope}{Nc:List Str}{k:Nat}{js:List Nat}{elt iter:Expr}{ifs:List Expr}{fi:Lf}{g:Tg}{tt:Tf}{te:Ef}
  (S:dS X A Nc (f8 k js)) (hc:X.calm=true) (hgi:∀ j∈tL g,j<k) (hi:II K X tg iter fi)
  (hg:∀ l s H C fp,PG (lcX X A l Nc s H C fp) tg (tG K g)) (ht:∀ l s H C fp,ITs K (lcX X A l Nc s H C fp) ifs tt) (he:∀ l s H C fp,IE K (lcX X A l Nc s H C fp) elt te)
  (hs:∀ x,qbZ iter X.env x=pure x:=by intro _;rfl):IL K X (.ListComp elt [⟨tg,iter,ifs,0⟩] A pos) (iLc k js fi g tt te):=by
 refine⟨λenv st r B=>?_⟩;simp only[iLc,qab]at B;obtain⟨⟨ds,s1⟩,hy,B⟩:=B;have L:=B;by_cases hdn:¬ ds.length<=1000000
 ·rw[iFN hdn]at L;cases L
 have hdl:ds.length<=1000000:=by lia
 rw[iFP hdl]at L;refine (FK S hc (hi.run _ _ _ hy) hg (λl s H C fp=>(ht l s H C fp).run) (λl s H C fp=>(he l s H C fp).any) hs).imp (vj hgi hdl L)
theorem Fi {A:Scope}{Nc:List Str}{k:Nat}{js:List Nat}{elt iter:Expr}{ifs:List Expr}{fi:Lf}{g:Tg}{tt:Tf}{te:Ef}{i0:Nat}{x0:Str}{py spos:Pos}
  (hN0:X.N.Nodup) (hi0:X.N[i0]?=some x0) (hx0:Loc X.env.scope x0) (S:dS X A Nc (f8 k js)) (hc:X.calm=true) (hgi:∀ j∈tL g,j<k) (hi:II K X tg iter fi)
  (hg:∀ l s H C fp,PG (lcX X A l Nc s H C fp) tg (tG K g)) (ht:∀ l s H C fp,ITs K (lcX X A l Nc s H C fp) ifs tt) (he:∀ l s H C fp,IE K (lcX X A l Nc s H C fp) elt te)
  (hsw:qcD (.ListComp elt [⟨tg,iter,ifs,0⟩] A pos) (some (.Name x0 py)) spos.line X.env=pure true:=by rfl)
  (hf0:X.fn x0=true\/X.env.scope.names.lookup x0=some .local:=by first|exact .inl U|exact .inr U|assumption)
  (hs:∀ x,qbZ iter X.env x=pure x:=by intro _;rfl):IS K X (.Assign [.Name x0 py] (.ListComp elt [⟨tg,iter,ifs,0⟩] A pos) spos) (az (.nm i0) (au (iLc k js fi g tt te)))/\
   IS K X (.Assign [.Name x0 py] (.ListComp elt [⟨tg,iter,ifs,0⟩] A pos) spos) (az (.nm i0) (dg (iLc k js fi g tt te))):=by
 have key:∀ env st r0 r,iLc k js fi g tt te env st=some r->(∀ G φ H (D:oP),Er K H φ env G->Sr K H φ st->yK K φ H D r0->∀ a W H1 Y,Fw φ Y H H1->Sr K H1 Y r.2->H1 a=none->Rls K H1 Y r.1 W->D.nx (G.set i0 (some (.ref a))) (upd H1 a (.lst W)))->
   PS X (.Assign [.Name x0 py] (.ListComp elt [⟨tg,iter,ifs,0⟩] A pos) spos) (tS K env st r0):=by
  intro env st r0 r B h;simp only[iLc,qab]at B;obtain⟨⟨ds,s1⟩,hy,B⟩:=B;have L:=B;by_cases hdn:¬ ds.length<=1000000
  ·rw[iFN hdn]at L;cases L
  have hdl:ds.length<=1000000:=by lia
  rw[iFP hdl]at L;refine (CV hN0 hi0 hx0 S hc (hi.run _ _ _ hy) hg (λl s H C fp=>(ht l s H C fp).run) (λl s H C fp=>(he l s H C fp).any) hsw hf0 hs).imp ?_
  rintro D G H ⟨φ,P,N,q⟩
  exact vj hgi hdl L G H _ ⟨φ,P,N,h G φ H D P N q⟩
 constructor
 ·refine⟨λenv st r B=>?_⟩
  simp only[az,au,cC,qab,qad]at B;obtain⟨y,⟨r2,hy,rfl⟩,e',ee,rfl⟩:=B;cases ee;refine key _ _ _ _ hy λG φ H D P N q a W H1 E f1 s1 n1 w1=>?_;exact q _ _ E (f1.trans (Fw.new n1)) ((((P.fw N f1).fw s1 (Fw.new n1))).set i0 ⟨a,W,U,s1.nin n1,.inl upd_same,w1.fw s1 (Fw.new n1)⟩) (s1.new n1)
 ·refine⟨λenv st r B=>?_⟩
  simp only[az,dg,cC,qab,qad]at B;obtain⟨y,⟨r2,hy,rfl⟩,e',ee,rfl⟩:=B;cases ee;refine key _ _ _ _ hy λG φ H D P N q a W H1 E f1 s1 n1 w1=>?_;exact q _ _ _ (f1.trans (Fw.more n1)) (((P.fw N f1).fw s1 (Fw.more n1)).set i0 ⟨a,by rw[<-s1.len];simp,U⟩) (s1.more n1 w1)
end
def bo (n k:Nat) (b:Sf):Fn
 |ws,st=>if ws.length=k then (b (ws.map some++qaC (n - k) none) st).bind λr=>match r with
 |.nx _ s=>some (.d .non,s)
 |.rt w s=>some (w,s)
 |_=>none
 else none
def zc (n:Nat) (w:W) (s:Sto):Option (W×Sto):=match w with
 |.d x=>some (.d x,s.take n)
 |.h m=>if m<n then some (.h m,s.take n) else (lg s m).map λds=>(.d (.lst ds),s.take n)
def gP (n k:Nat) (b:Sf):Fn
 |ws,st=>if ws.length=k then (b (ws.map some++qaC (n - k) none) st).bind λr=>match r with
 |.nx _ s=>some (.d .non,s.take st.length)
 |.rt w s=>zc st.length w s
 |_=>none
 else none
section
variable {P:qaM}{w:World}{K:qae}{mg:Str->Option Value}{base:Heap}
theorem nu {H:Hp}{φ:List Addr}{N:List Str}{k:Nat}:∀ {ws:List W}{o:List V},Rws K H φ ws o->ws.length=k->Er K H φ (ws.map some++qaC (N.length - k) none) (gx N o):=by
 intro ws o r X;have l:=r.length;refine⟨by unfold gx;simp;lia,λi x e=>?_⟩;unfold gx;by_cases hi:i<ws.length
 ·rw[qaE (by simpa using hi),qaF,qad]at e
  obtain⟨y,C,e⟩:=e
  have:∃ v,o[i]?=some v/\Rw K H φ y v:=by
   clear X l hi e
   induction ws generalizing o i with
   |nil=>simp at C
   |cons w ws ih=>
    obtain⟨v,r',rfl,r1,r2⟩:=r;cases i with
    |zero=>simp at C;subst C;exact⟨v,U,r1⟩
    |succ i=>simpa using ih r2 i (by simpa using C)
  obtain⟨v,ev,rv⟩:=this;cases e;refine⟨v,?_,rv⟩;rw[qaE (by rw[qaf,<-l];exact hi),qaF,ev];rfl
 ·rw[qaJ (by simpa using hi)]at e
  have:=qbO e
  have:=(List.mem_replicate.mp this).2
  cases this
theorem Gp {x g:Str}{st:Stmt}{f:Addr}{fd:qca}{N ps:List Str}{k:Nat}{b:Sf} (F:Fun K x g st f fd) (S:cD N ps (av st))
  (hb:∀ (j:Value) (A:qaU) (outer:List Env) (s:qai) (H:Hp) (E:XK),bv k (A.deeper (qez g (av st) s.heap.objs.size f j))->ISs K (fV CX0 P w K mg base N g (av st) f j A outer s H E).nox (bf st) b) :
  dR P w K mg base CX0 (k+1) f fd ps (spI K (bo N.length ps.length b)):=by
 refine F.ok S (λo H Q E h=>?_) λj A outer s H o Q E R h=>?_
 ·obtain⟨φ,st,ws,r,e,rw,_⟩:=h
  rw[bo]at e;by_cases l:ws.length=ps.length
  ·rw[<-rw.length,l]
  ·rw[iFN l]at e;cases e
 ·obtain⟨φ,u,ws,r,e,rw,S',q⟩:=h
  rw[bo]at e;by_cases l:ws.length=ps.length
  ·rw[iFP l]at e
   obtain⟨fl,M,t⟩:=qab.mp e;refine⟨_,(hb j A outer s H E R).run _ _ _ M,φ,nu rw l,S',?_⟩;cases fl with
   |nx e s=>cases t;exact λL H' c n Y s'=>q .non H' c n s' U
   |rt w s=>cases t;exact λv H' c n s' D=>q v H' c n s' D
   |bk e s=>cases t
   |ct e s=>cases t
  ·rw[iFN l]at e;cases e
theorem Fw.less {φ c:List Addr}{H H':Hp} (f:Fw φ c H H'):Fw φ φ H H':=⟨⟨[],by simp,by simp⟩,f.keep,f.there⟩
theorem E5 {x g:Str}{st:Stmt}{f:Addr}{fd:qca}{N ps:List Str}{k:Nat}{b:Sf} (F:Fun K x g st f fd) (S:cD N ps (av st))
  (hb:∀ (j:Value) (A:qaU) (outer:List Env) (s:qai) (H:Hp) (E:XK),bv k (A.deeper (qez g (av st) s.heap.objs.size f j))->ISs K (fV CX0 P w K mg base N g (av st) f j A outer s H E).nox (bf st) b) :
  dR P w K mg base CX0 (k+1) f fd ps (spI K (gP N.length ps.length b)):=by
 refine F.ok S (λo H Q E h=>?_) λj A outer s H o Q E R h=>?_
 ·obtain⟨φ,st,ws,r,e,rw,_⟩:=h
  rw[gP]at e;by_cases l:ws.length=ps.length
  ·rw[<-rw.length,l]
  ·rw[iFN l]at e;cases e
 ·obtain⟨φ,u,ws,r,e,rw,S',q⟩:=h
  rw[gP]at e;by_cases l:ws.length=ps.length
  ·rw[iFP l]at e
   obtain⟨fl,M,t⟩:=qab.mp e;refine⟨_,(hb j A outer s H E R).run _ _ _ M,φ,nu rw l,S',?_⟩;have less:∀ {H':Hp}{c:List Addr}{s':Sto},Fw φ c H H'->Sr K H' c s'->Sr K H' φ (s'.take u.length):=λ{H' c s'} n S2=>by
    obtain⟨ψ,rfl,_⟩:=n.ext;rw[<-S'.len];exact S2.less
   cases fl with
   |nx e s=>cases t;exact λL H' c n Y s'=>q .non H' φ n.less (less n s') U
   |rt w s=>
    intro v H' c n s' D;have B:zc u.length w s=some r:=t;obtain⟨ψ,p,_⟩:=n.ext;cases w with
    |d x=>
     cases B;subst p;exact q v H' φ n.less (less n s') (Rl.less D)
    |h m=>
     obtain⟨a,G,rfl⟩:=D;unfold zc at B;by_cases hm:m<u.length
     ·have e4:=by
       have:=B
       simp only[hm,if_true]at this;exact this
      cases e4;subst p;rw[qaE (by rw[S'.len];exact hm)]at G;exact q _ H' φ n.less (less n s') ⟨a,G,U⟩
     ·simp only[hm,if_false]at B
      obtain⟨ds,I,rfl⟩:=qad.mp B;obtain⟨o,hv,rl⟩:=s'.atl m a ds G I;have hn:a∉φ:=λz=>by
       obtain⟨i,hi,T⟩:=qcG.mp z;have h1:c[i]?=some a:=by subst p;rw[qaE hi,qao hi,T]
       obtain⟨h2,O⟩:=qar.mp h1;obtain⟨h3,J⟩:=qar.mp G
       have:=(qdJ s'.nd).mp (O.trans J.symm)
       rw[S'.len]at hi;lia
      subst p;exact q _ H' φ n.less (less n s') ⟨a,o,U,hn,.inl hv,rl.less⟩
   |bk e s=>cases t
   |ct e s=>cases t
  ·rw[iFN l]at e;cases e
end
def cf:D->Bool
 |.non=>true
 |.bl _=>true
 |.int _=>true
 |.str _=>true
 |_=>false
def vOf:D->V
 |.bl b=>.bl b
 |.int i=>.int i
 |.str x=>.str x
 |_=>.non
mutual
def eqD:D->D->Bool
 |.non,.non=>true
 |.bl a,.bl b=>a==b
 |.bl a,.int b=>(if a then 1 else 0)==b
 |.int a,.bl b=>a==(if b then 1 else 0)
 |.int a,.int b=>a==b
 |.str a,.str b=>a==b
 |.tup as,.tup bs=>dX as bs
 |.lst as,.lst bs=>dX as bs
 |_,_=>false
def dX:List D->List D->Bool
 |[],[]=>true
 |a::as,b::bs=>eqD a b&&dX as bs
 |_,_=>false
end
def okD:Nat->D->Bool
 |_,.non=>true
 |_,.bl _=>true
 |_,.int _=>true
 |_,.str _=>true
 |n+1,.tup ds=>ds.all (okD n)
 |n+1,.lst ds=>ds.all (okD n)
 |_,_=>false
def lsD (st:Sto):W->Option (List D)
 |.d (.lst ds)=>some ds
 |.h n=>lg st n
 |_=>none
def bg (st:Sto) (x y:W):Option D:=match x,y with
 |.d (.int i),.d (.int j)=>some (.int (i+j))
 |.d (.tup a),.d (.tup b)=>if a.length+b.length<=1000000 then some (.tup (a++b)) else none
 |.d (.str a),.d (.str b)=>if a.length+b.length<=1000000 then some (.str (a++b)) else none
 |x,y=>(lsD st x).bind λa=>(lsD st y).bind λb=>if a.length+b.length<=1000000 then some (.lst (a++b)) else none
def hW (_:Sto):W->W->Option D
 |.d (.int i),.d (.int j)=>some (.int (i - j))
 |_,_=>none
instance (a b:Int):Decidable (qhx a b):=by unfold qhx;infer_instance
def bm (_:Sto):W->W->Option D
 |.d (.int i),.d (.int j)=>if qhx i j then some (.int (i*j)) else none
 |.d (.tup a),.d (.int k)=>if a≠[]/\a.length<=1000/\0<=k/\k<1000 then some (.tup (qaC k.toNat a).flatten) else none
 |.d (.lst a),.d (.int k)=>if a.length<=1000/\-1000<=k/\k<1000 then some (.lst (qaC k.toNat a).flatten) else none
 |_,_=>none
def pB (_:Sto):W->W->Option D
 |.d (.int i),.d (.int j)=>if 0<j/\j<1073741824 then some (.int (i / j)) else none
 |_,_=>none
def fW (_:Sto):W->W->Option D
 |.d (.int i),.d (.int j)=>if 0<j then some (.int (i%j)) else none
 |_,_=>none
instance (i j:Int):Decidable (sv i j):=by unfold sv;infer_instance
def yY (_:Sto):W->W->Option D
 |.d (.int i),.d (.int j)=>if sv i j then some (.int (i^j.toNat)) else none
 |_,_=>none
def sR (_:Sto):W->W->Option D
 |.d (.int i),.d (.int j)=>if sv i j then some (.int (i*2^j.toNat)) else none
 |_,_=>none
def Ba (_:Sto):W->W->Option D
 |.d (.int i),.d (.int j)=>if 0<=j then some (.int (i / 2^j.toNat)) else none
 |_,_=>none
def dLt (_:Sto):W->W->Option D
 |.d (.int i),.d (.int j)=>some (.bl (decide (i<j)))
 |_,_=>none
def dLe (_:Sto):W->W->Option D
 |.d (.int i),.d (.int j)=>some (.bl (decide (i<=j)))
 |_,_=>none
def dGt (_:Sto):W->W->Option D
 |.d (.int i),.d (.int j)=>some (.bl (decide (j<i)))
 |_,_=>none
def dGe (_:Sto):W->W->Option D
 |.d (.int i),.d (.int j)=>some (.bl (decide (j<=i)))
 |_,_=>none
def dA:D->Bool
 |.non=>true
 |_=>false
def jB (_:Sto):W->W->Option D
 |.d x,.d .non=>some (.bl (dA x))
 |_,_=>none
def m8 (_:Sto):W->W->Option D
 |.d x,.d .non=>some (.bl (!dA x))
 |_,_=>none
def inD (x:D) (ds:List D):Bool:=ds.any λy=>eqD y x
def dIn (st:Sto) (x y:W):Option D:=match x with
 |.d x=>(dL st y).bind λds=>if cf x=true/\ds.all cf=true then some (.bl (inD x ds)) else none
 |_=>none
def qv (st:Sto) (x y:W):Option D:=match x with
 |.d x=>(dL st y).bind λds=>if cf x=true/\ds.all cf=true then some (.bl (!inD x ds)) else none
 |_=>none
section
variable {K:qae}{X:Cx}
theorem gN {H:Hp}{φ:List Addr}{d:D}{v:V} (h:cf d=true) (r:Rl K H φ d v):v=vOf d/\fq v=true:=by
 cases d with
 |non=>cases (r);exact⟨U,U⟩
 |bl b=>cases (r);exact⟨U,U⟩
 |int b=>cases (r);exact⟨U,U⟩
 |str b=>cases (r);exact⟨U,U⟩
 |_=>cases h
theorem qy {a b:D} (J:cf a=true) (hb:cf b=true):eqV (vOf a) (vOf b)=eqD a b:=by
 cases a<;>cases b<;>first|rfl|(cases J;done)|(cases hb)|(done)
theorem ow {H:Hp}{φ:List Addr}:∀ {ds:List D}{m:List V},ds.all cf=true->Rls K H φ ds m->m=ds.map vOf/\m.all fq=true
 |[],_,_,h=>by cases h;exact⟨U,U⟩
 |d::ds,_,h,r=>by
  rw[qbx,qaX]at h;obtain⟨v,M,rfl,k,l⟩:=r;obtain⟨w,t⟩:=gN h.1 k;obtain⟨s,u⟩:=ow h.2 l;exact⟨by rw[w,s];rfl,by rw[qbx,t,u];rfl⟩
theorem qO {x:D} (E:cf x=true):∀ {ds:List D},ds.all cf=true->inV (vOf x) (ds.map vOf)=inD x ds
 |[],_=>rfl
 |d::ds,h=>by
  rw[qbx,qaX]at h;have G:=qO E h.2;unfold inV inD at G ⊢;rw[qas,qcr,qcr,G,qy h.1 E]
theorem DP {f:Value->Value->Sem Value}{g:Sto->W->W->Option D} (h:∀ st x y d,g st x y=some d->∃ i j,x=.d (.int i)/\y=.d (.int j)/\OpR X f (λo p H Q=>o=.int i/\p=.int j/\Q (vOf d) H)/\cf d=true):OpD K X f g:=by
 refine⟨λst x y d hd=>?_⟩;obtain⟨i,j,rfl,rfl,L,I⟩:=h st x y d hd;refine L.imp ?_
 rintro o p H Q ⟨φ,S,k,l,q⟩
 refine⟨k,l,q _ H (aS.refl H) ?_⟩;cases d<;>first|rfl|cases I
theorem w2 {x y:W}{d:D}{F:Int->Int->Option D} (h:(match x,y with|.d (.int i),.d (.int j)=>F i j|_,_=>none)=some d):∃ i j,x=.d (.int i)/\y=.d (.int j)/\F i j=some d:=by
 split at h
 ·exact⟨_,_,U,U,h⟩
 ·cases h
theorem ifS {c:Prop} [Decidable c] {a d:D} (h:(if c then some a else none)=some d):c/\a=d:=by
 split at h
 ·rename_i q
  exact⟨q,qaL h⟩
 ·cases h
theorem iQ {f:Value->Value->Sem Value}{g:Sto->W->W->Option D}{F:Int->Int->Option D} (e:∀ st x y,g st x y=match x,y with|.d (.int i),.d (.int j)=>F i j|_,_=>none) (h:∀ i j d,F i j=some d->OpR X f (λo p H Q=>o=.int i/\p=.int j/\Q (vOf d) H)/\cf d=true):OpD K X f g:=DP λst x y d hd=>by
 rw[e]at hd;obtain⟨i,j,rfl,rfl,hd⟩:=w2 hd;exact⟨i,j,U,U,h i j d hd⟩
theorem rH:OpD K X (qbQ .Sub) hW:=iQ (λ_ _ _=>rfl) λi j d h=>by cases h;exact⟨DZ.imp λ_ _ _ _ q=>⟨i,j,q⟩,U⟩
theorem uq:OpD K X (qbq .Lt) dLt:=iQ (λ_ _ _=>rfl) λi j d h=>by cases h;exact⟨FH.imp λ_ _ _ _ q=>⟨i,j,q⟩,U⟩
theorem w6:OpD K X (qbq .LtE) dLe:=iQ (λ_ _ _=>rfl) λi j d h=>by cases h;exact⟨FG.imp λ_ _ _ _ q=>⟨i,j,q⟩,U⟩
theorem wY:OpD K X (qbq .Gt) dGt:=iQ (λ_ _ _=>rfl) λi j d h=>by cases h;exact⟨FF.imp λ_ _ _ _ q=>⟨i,j,q⟩,U⟩
theorem wX:OpD K X (qbq .GtE) dGe:=iQ (λ_ _ _=>rfl) λi j d h=>by cases h;exact⟨FE.imp λ_ _ _ _ q=>⟨i,j,q⟩,U⟩
theorem mI:OpD K X (qbQ .FloorDiv) pB:=iQ (λ_ _ _=>rfl) λi j d h=>by obtain⟨c,rfl⟩:=ifS h;exact⟨BH.imp λ_ _ _ _ q=>⟨i,j,q.1,q.2.1,c,q.2.2⟩,U⟩
theorem rB:OpD K X (qbQ .Mod) fW:=iQ (λ_ _ _=>rfl) λi j d h=>by obtain⟨c,rfl⟩:=ifS h;exact⟨DV.imp λ_ _ _ _ q=>⟨i,j,q.1,q.2.1,c,q.2.2⟩,U⟩
theorem rE:OpD K X (qbQ .Pow) yY:=iQ (λ_ _ _=>rfl) λi j d h=>by obtain⟨c,rfl⟩:=ifS h;exact⟨DW.imp λ_ _ _ _ q=>⟨i,j,q.1,q.2.1,c,q.2.2⟩,U⟩
theorem rF:OpD K X (qbQ .LShift) sR:=iQ (λ_ _ _=>rfl) λi j d h=>by obtain⟨c,rfl⟩:=ifS h;exact⟨DX.imp λ_ _ _ _ q=>⟨i,j,q.1,q.2.1,c,q.2.2⟩,U⟩
theorem rG:OpD K X (qbQ .RShift) Ba:=iQ (λ_ _ _=>rfl) λi j d h=>by obtain⟨c,rfl⟩:=ifS h;exact⟨DY.imp λ_ _ _ _ q=>⟨i,j,q.1,q.2.1,c,q.2.2⟩,U⟩
theorem Am {H:Hp}{φ:List Addr}{d:D}{v:V} (r:Rl K H φ d v):decide (v=.non)=dA d:=by
 cases d with
 |non=>cases (r);rfl
 |bl b=>cases (r);rfl
 |int b=>cases (r);rfl
 |str b=>cases (r);rfl
 |ty b=>cases (r);rfl
 |dct=>obtain⟨a,rfl,_⟩:=r;rfl
 |scr ns=>obtain⟨a,rfl,_⟩:=r;rfl
 |tup ds=>obtain⟨a,m,rfl,_⟩:=r;rfl
 |lst ds=>obtain⟨a,m,rfl,_⟩:=r;rfl
 |ob ns ds=>obtain⟨a,_,_,_,m,rfl,_⟩:=r;rfl
theorem rz:OpD K X (qbq .Is) jB:=by
 refine⟨λst x y d h=>?_⟩
 match x,y,h with
 |.d x,.d .non,h=>
  cases h;refine DT.imp ?_
  rintro o p H Q ⟨φ,S,k,l,q⟩
  refine⟨l,q _ H (aS.refl H) ?_⟩;rw[Am k];rfl
theorem mJ:OpD K X (qbq .IsNot) m8:=by
 refine⟨λst x y d h=>?_⟩
 match x,y,h with
 |.d x,.d .non,h=>
  cases h;refine BJ.imp ?_
  rintro o p H Q ⟨φ,S,k,l,q⟩
  refine⟨l,q _ H (aS.refl H) ?_⟩;rw[Am k];rfl
theorem wZ (B:X.K=K:=by rfl):OpD K X (qbq .In) dIn:=by
 subst B;refine⟨λst x y d h=>?_⟩
 match x,h with
 |.d x,h=>
  simp only[dIn,qab]at h;obtain⟨ds,C,h⟩:=h;split at h
  ·rename_i n
   cases h;refine yq.imp ?_
   rintro o p H Q ⟨φ,S,k,l,q⟩
   obtain⟨a,m,rfl,z,A⟩:=gQ S l C;obtain⟨w,t⟩:=gN n.1 k;obtain⟨s,u⟩:=ow n.2 A;refine⟨a,m,U,z,t,u,q _ H (aS.refl H) ?_⟩;rw[w,s,qO n.1 n.2];rfl
  ·cases h
theorem ky (B:X.K=K:=by rfl):OpD K X (qbq .NotIn) qv:=by
 subst B;refine⟨λst x y d h=>?_⟩
 match x,h with
 |.d x,h=>
  simp only[qv,qab]at h;obtain⟨ds,C,h⟩:=h;split at h
  ·rename_i n
   cases h;refine rM.imp ?_
   rintro o p H Q ⟨φ,S,k,l,q⟩
   obtain⟨a,m,rfl,z,A⟩:=gQ S l C;obtain⟨w,t⟩:=gN n.1 k;obtain⟨s,u⟩:=ow n.2 A;refine⟨a,m,U,z,t,u,q _ H (aS.refl H) ?_⟩;rw[w,s,qO n.1 n.2];rfl
  ·cases h
end
section
variable {K:qae}{X:Cx}
theorem BF:OpR X (qbQ .Add) (λx y H Q=>∃ l b xs zs,x=.ref l/\y=.ref b/\Rd H l (.lst xs)/\Rd H b (.lst zs)/\xs.length+zs.length<=qaH/\∀ p,H p=none->Q (.ref p) (upd H p (.lst (xs++zs)))):=by
 intro G s M H x y v u Q I rx ry h;obtain⟨l,b,xs,zs,rfl,rfl,hH,hB,hz,q⟩:=h;cases rx;cases ry;obtain⟨z,A,n,r,e⟩:=hH.ok I.hok;obtain⟨z2,N,n2,L,e2⟩:=hB.ok I.hok;have J:=r.length;have hl2:=L.length;refine PySem.P.add_list e e2 ?_ (by rw[qaI,qaI];lia);have ea:A.toArray++N.toArray=(A++N).toArray:=by simp
 rw[ea];exact⟨.ref _,_,I.lnew (r.append L) (by rw[qax];lia),U,q _ I.fresh⟩
theorem zM:OpR X (qbQ .Add) (λx y H Q=>∃ a b xs ys,x=.ref a/\y=.ref b/\SqT X.K H a xs/\SqT X.K H b ys/\xs.length+ys.length<=qaH/\
  (xs=[]->Q (.ref b) H)/\(ys=[]->Q (.ref a) H)/\∀ p,H p=none->Q (.ref p) (upd H p (.tup (xs++ys)))):=by
 intro G s M H x y v u Q I rx ry h;obtain⟨a,b,xs,ys,rfl,rfl,ha,hb,hz,q0,q1,q2⟩:=h;by_cases hx:xs=[]
 ·cases rx
  cases ry;obtain⟨A,O,p1,_⟩:=I.tuple ha;obtain⟨N,L,p2,_⟩:=I.tuple hb;obtain⟨⟨cls,dd,data,sl⟩,ho,hc,n,hd⟩:=id p1;obtain⟨⟨cls2,dd2,data2,sl2⟩,ho2,hc2,n2,hd2⟩:=id p2;subst hc hd hc2 hd2;exact qhR ⟨_,ho,U⟩ ⟨_,ho2,U⟩ qgr qho qeg qeb (qd0 _ _)
   (tuple_addW0 a b A.toArray N.toArray n n2 dd dd2 sl sl2 (by simp[O.nil_iff.mpr hx])) ⟨ho,ho2,.ref b,H,I,U,q0 hx⟩
 ·exact BG G s M H _ _ v u Q I rx ry ⟨a,b,xs,ys,U,U,ha,hb,hx,hz,q1,λ_ p E=>q2 p E⟩
theorem rm {st:Sto}{H:Hp}{φ:List Addr}{w:W}{v:V}{ds:List D} (S:Sr K H φ st) (r:Rw K H φ w v) (e:lsD st w=some ds):∃ a g,v=.ref a/\Rd H a (.lst g)/\Rls K H φ ds g:=by
 cases w with
 |h n=>
  obtain⟨a,ea,rfl⟩:=r;obtain⟨g,q,rl⟩:=S.atl n a ds ea e;exact⟨a,g,U,.inl q,rl⟩
 |d x=>
  cases x with
  |lst es=>cases e;obtain⟨a,g,rfl,h0,C,B⟩:=r;exact⟨a,g,U,C,B⟩
  |_=>cases e
theorem mil:(1000000:Nat)<=qaH:=by decide
theorem jJ (hK:X.K=K:=by rfl):OpD K X (qbQ .Add) bg:=by
 subst hK;refine⟨λst x y d h=>?_⟩;have P:(lsD st x).bind (λa=>(lsD st y).bind λb=>if a.length+b.length<=1000000 then some (.lst (a++b)) else none)=some d->OpR X _ (rD X.K st x y d):=λh=>by
  simp only[qab]at h;obtain⟨as,ha,bs,hb,h⟩:=h;split at h
  ·rename_i J
   cases h;refine BF.imp ?_
   rintro vx vy H Q ⟨φ,S,O,L,q⟩
   obtain⟨a,Y,rfl,C,B⟩:=rm S O ha;obtain⟨b,g,rfl,h3,h4⟩:=rm S L hb;refine⟨a,b,Y,g,U,U,C,h3,by rw[<-B.length,<-h4.length];exact qaS J mil,λp E=>q _ _ (aS.new E _) ?_⟩;exact⟨p,_,U,S.nin E,.inl upd_same,(B.append h4).fw S (Fw.new E)⟩
  ·cases h
 match x,y,h with
 |.d (.int i),.d (.int j),h=>
  cases h;refine DS.imp ?_
  rintro vx vy H Q ⟨φ,S,O,L,q⟩
  exact⟨i,j,O,L,q _ H (aS.refl H) U⟩
 |.d (.tup as),.d (.tup bs),h=>
  simp only[bg]at h;split at h
  ·rename_i J
   cases h;refine zM.imp ?_
   rintro vx vy H Q ⟨φ,S,⟨a,Y,rfl,C,B⟩,⟨b,g,rfl,h3,h4⟩,q⟩
   refine⟨a,b,Y,g,U,U,(SqT.of C),(SqT.of h3),by rw[<-B.length,<-h4.length];exact qaS J mil,λe=>?_,λe=>?_,λp E=>?_⟩
   ·subst e
    have:as=[]:=by cases as with|nil=>rfl|cons _ _=>cases B.length
    subst this;exact q _ H (aS.refl H) ⟨b,g,U,h3,h4⟩
   ·subst e
    have:bs=[]:=by cases bs with|nil=>rfl|cons _ _=>cases h4.length
    subst this;exact q _ H (aS.refl H) ⟨a,Y,U,C,by rw[qcv];exact B⟩
   ·exact q _ _ (aS.new E _) ⟨p,_,U,upd_same,(B.append h4).fw S (Fw.new E)⟩
  ·cases h
 |.d (.str as),.d (.str bs),h=>
  simp only[bg]at h;split at h
  ·rename_i J
   cases h;refine vE.imp ?_
   rintro vx vy H Q ⟨φ,S,O,L,q⟩
   exact⟨as,bs,O,L,qaS J mil,q _ H (aS.refl H) U⟩
  ·cases h
 |.d (.lst as),y,h=>exact P (by cases y with|h n=>exact h|d y=>cases y<;>exact h)
 |.h n,y,h=>exact P (by cases y with|h n=>exact h|d y=>cases y<;>exact h)
theorem xg:OpR X (qbQ .Mult) (λx y H Q=>∃ l k xs,x=.ref l/\y=.int k/\Rd H l (.lst xs)/\-(2 ^ 63)<=k/\k < 2 ^ 63/\xs.length*k.toNat<=qaH/\
 ∀ p,H p=none->Q (.ref p) (upd H p (.lst (qaC k.toNat xs).flatten))):=by
 intro G s M H x y v u Q I rx ry h;obtain⟨l,k,xs,rfl,rfl,hH,C,B,hz,q⟩:=h;cases rx;obtain⟨t,rfl⟩:=ry;obtain⟨z,A,n,r,e⟩:=hH.ok I.hok;have hlen:A.toArray.size*k.toNat<=qaH:=by rw[qaI,<-r.length];exact hz
 have hcap:¬ A.toArray.size*k.toNat > (2^63 - 1) / 8:=by
  have:(qaH)<=(2^63 - 1) / 8:=by decide
  lia
 have hfit:¬ (!Builtin.List.listFitsIndex k)=true:=by
  rw[fitsIndex_both C B];exact qa5
 have hlong:¬ qfq (A.toArray.size*k.toNat)=true:=by
  rw[zI hlen];exact qa5
 have hnew:qj9 (λx1 x2=>x1++x2) #[] (qaC (if A.toArray.isEmpty=true then 0 else k.toNat) A.toArray)=(qaC k.toNat A).flatten.toArray:=by
  have f0:=λm=>by
   have:=kT A m []
   rw[qbA]at this;exact this
  rw[f0];cases A with
  |nil=>simp
  |cons a r'=>rw[iFN (by simp)]
 refine qgV (by decide) ⟨_,e,U⟩ (λs'=>qga s' k t) noFill_list_mul qiZ qeW repeat_list qiD.lookup
  (qdd qeW (qga s k t) qiF (qin _ _) (int___rmul___int_list k t l A.toArray n)
    ⟨e,U,⟨_,e,U⟩,qdd F.slot_list_mul ⟨_,e,U⟩ F.entry_list_mul (F.args_list_mul_2 _ _) (AutoListH.list___mul___list_int_3 l A.toArray n k t hfit hcap hlong) ⟨e,?_⟩⟩)
 rw[hnew];exact⟨.ref _,_,I.lnew (r.rep k.toNat) (by rw[rh,qfF];exact hz),U,q _ I.fresh⟩
theorem rC (hK:X.K=K:=by rfl):OpD K X (qbQ .Mult) bm:=by
 refine⟨λst x y d h=>?_⟩
 match x,y,h with
 |.d (.int i),.d (.int j),h=>
  simp only[bm]at h;split at h
  ·rename_i J
   cases h;refine BI.imp ?_
   rintro vx vy H Q ⟨φ,S,O,L,q⟩
   exact⟨i,j,O,L,J,q _ H (aS.refl H) U⟩
  ·cases h
 |.d (.tup as),.d (.int k),h=>
  simp only[bm]at h;split at h
  ·rename_i J
   cases h;refine BK.imp ?_
   rintro vx vy H Q ⟨φ,S,⟨a,Y,rfl,C,B⟩,L,q⟩
   have hne:Y≠[]:=by rintro rfl;cases as with|nil=>exact J.1 U|cons _ _=>cases B.length
   refine⟨a,k,Y,U,L,(SqT.of C),hne,by rw[<-B.length];exact J.2.1,J.2.2.1,J.2.2.2,λe=>?_,λ_ p E=>?_⟩
   ·subst e
    exact q _ H (aS.refl H) ⟨a,Y,U,C,by simpa using B⟩
   ·exact q _ _ (aS.new E _) ⟨p,_,U,upd_same,(B.rep _).fw S (Fw.new E)⟩
  ·cases h
 |.d (.lst as),.d (.int k),h=>
  simp only[bm]at h;split at h
  ·rename_i J
   cases h;refine xg.imp ?_
   rintro vx vy H Q ⟨φ,S,⟨a,Y,rfl,h0,C,B⟩,L,q⟩
   refine⟨a,k,Y,U,L,C,by lia,by lia,?_,λp E=>?_⟩
   ·rw[<-B.length]
    have:as.length*k.toNat<=1000*1000:=qde J.1 (by lia)
    exact qaS this mil
   ·exact q _ _ (aS.new E _) ⟨p,_,U,S.nin E,.inl upd_same,(B.rep _).fw S (Fw.new E)⟩
  ·cases h
def dIx (st:Sto) (x y:W):Option D:=match x,y with
 |.d (.str z),.d (.int i)=>if z.length<=1000000 then (atI z.cps.toList i).map λc=>.str ⟨#[c]⟩ else none
 |x,.d (.int i)=>(dL st x).bind λds=>atI ds i
 |_,_=>none
theorem Dd {H:Hp}{φ:List Addr}{ds:List D}{g:List V}{i:Int}{d:D} (r:Rls K H φ ds g) (e:atI ds i=some d):∃ v,atI g i=some v/\Rl K H φ d v:=by
 unfold atI at e ⊢;rw[<-r.length];obtain⟨j,e1,e2⟩:=qab.mp e;obtain⟨v,ev,rv⟩:=r.get e2;exact⟨v,by rw[e1];exact ev,rv⟩
theorem IxR.imp {r r':R2} (h:IxR X r) (m:∀ x y H Q,r' x y H Q->r x y H Q):IxR X r':=λvalue slice G s M H x y v u Q I rx ry q hs=>h value slice G s M H x y v u Q I rx ry (m _ _ _ _ q) hs
theorem Gh (st:Sto) (x y:W) (d:D) (h:dIx st x y=some d) (hK:X.K=K):IxR X (rD K st x y d):=by
 subst hK
 match y,h with
 |.d (.int i),h=>
  have seq:(dL st x).bind _=some d->IxR X (rD X.K st x (.d (.int i)) d):=λh=>by
   obtain⟨ds,e1,e2⟩:=qab.mp h;refine ve.imp ?_
   rintro vx vy H Q ⟨φ,S,O,L,q⟩
   obtain⟨a,g,rfl,C,B⟩:=gQ S O e1;obtain⟨v,ev,rv⟩:=Dd B e2;rcases C with C|C
   ·exact .inl ⟨a,g,i,v,U,L,C,ev,q _ H (aS.refl H) rv⟩
   ·exact .inr (.inl ⟨a,g,i,v,U,L,C,ev,q _ H (aS.refl H) rv⟩)
  match x,h with
  |.d (.str z),h=>
   simp only[dIx]at h;split at h
   ·rename_i J
    obtain⟨c,e1,rfl⟩:=qad.mp h;refine ve.imp ?_
    rintro vx vy H Q ⟨φ,S,O,L,q⟩
    exact .inr (.inr ⟨z,i,c,O,L,qaS J mil,e1,q _ H (aS.refl H) U⟩)
   ·cases h
  |.d (.tup z),h=>exact seq h
  |.d (.lst z),h=>exact seq h
  |.d (.scr z),h=>exact seq h
  |.h z,h=>exact seq h
 |.d .non,h=>cases x with|h n=>cases h|d x=>cases x<;>cases h
 |.d (.ob _ _),h=>cases x with|h n=>cases h|d x=>cases x<;>cases h
 |.d (.bl _),h=>cases x with|h n=>cases h|d x=>cases x<;>cases h
 |.d (.str _),h=>cases x with|h n=>cases h|d x=>cases x<;>cases h
 |.d (.ty _),h=>cases x with|h n=>cases h|d x=>cases x<;>cases h
 |.d (.scr _),h=>cases x with|h n=>cases h|d x=>cases x<;>cases h
 |.d .dct,h=>cases x with|h n=>cases h|d x=>cases x<;>cases h
 |.d (.tup _),h=>cases x with|h n=>cases h|d x=>cases x<;>cases h
 |.d (.lst _),h=>cases x with|h n=>cases h|d x=>cases x<;>cases h
 |.h _,h=>cases x with|h n=>cases h|d x=>cases x<;>cases h
variable {e a b:Expr}{pos p2:Pos}{f fa fb:Ef}
theorem wy (ha:IE K X a fa) (hb:IE K X b fb) (hs:rP b=true:=by rfl) (hK:X.K=K:=by rfl):IE K X (.Subscript a b pos) (iOp dIx fa fb):=by
 refine⟨λenv st r hr=>?_⟩;simp only[iOp,qab,qad]at hr;obtain⟨x,hx,y,hy,d,hd,rfl⟩:=hr;exact (CQ (Gh _ _ _ _ hd hK) (ha.run _ _ _ hx) (hb.run _ _ _ hy) (tZ hs)).imp λM H Q h=>se h
abbrev Pf:=Ev->Sto->Option (Option Int×Sto)
def iPn:Pf
 |_,st=>some (none,st)
def Fh:W->Option Int
 |.d (.int i)=>some i
 |_=>none
theorem ya {w:W}{i:Int} (h:Fh w=some i):w=.d (.int i):=by
 cases w with
 |h n=>cases h
 |d x=>cases x<;>first|(cases h;done)|(injection h with h;subst h;rfl)
def iPs (f:Ef):Pf
 |env,st=>(f env st).bind λr=>(Fh r.1).map λi=>(some i,r.2)
def tIO (K:qae) (env:Ev) (st:Sto) (r:Option Int×Sto):TO:=λM H Q=>∃ φ,Er K H φ env M/\Sr K H φ st/\∀ H' φ',Fw φ φ' H H'->Sr K H' φ' r.2->Q r.1 H'
structure IO (K:qae) (X:Cx) (e:Option Expr) (f:Pf):Prop where
 run:∀ env st r,f env st=some r->PO X e (tIO K env st r)
theorem PO.imp {e:Option Expr}{t t':TO} (h:PO X e t) (m:∀ M H Q,t' M H Q->t M H Q):PO X e t':=λG s M H Q I q=>h G s M H Q I (m M H Q q)
theorem mn:IO K X none iPn:=by
 refine⟨λenv st r hr=>?_⟩;cases hr;exact BS.imp λM H Q ⟨φ,hE,T,q⟩=>q H φ (Fw.refl φ H) T
theorem mo (h:IE K X e f):IO K X (some e) (iPs f):=by
 refine⟨λenv st r hr=>?_⟩;simp only[iPs,qab,qad]at hr;obtain⟨⟨x,s1⟩,hx,i,hi,rfl⟩:=hr;cases ya hi;refine (BU (h.run _ _ _ hx)).imp ?_
 rintro M H Q ⟨φ,hE,T,q⟩
 exact⟨φ,hE,T,λv H1 R f1 s1 w1=>⟨i,w1,q H1 R f1 s1⟩⟩
def ik (xs:List D) (lo hi:Option Int):List D:=(xs.drop (HT.sIx xs.length 0 lo)).take (HT.sIx xs.length xs.length hi - HT.sIx xs.length 0 lo)
theorem wg {H:Hp}{φ:List Addr}{ds:List D}{g:List V} (r:Rls K H φ ds g) (lo hi:Option Int):Rls K H φ (ik ds lo hi) (uY g lo hi):=by
 unfold ik uY;rw[r.length];exact (r.drop _).take _
def dSl (st:Sto) (x:W) (lo hi:Option Int):Option D:=match x with
 |.d (.tup ds)=>some (.tup (ik ds lo hi))
 |.d (.lst ds)=>some (.lst (ik ds lo hi))
 |.h n=>(lg st n).map λds=>.lst (ik ds lo hi)
 |.d (.scr ns)=>some (.lst (ik (ns.map D.int) lo hi))
 |_=>none
def iSl (f:Ef) (lo hi:Pf):Ef
 |env,st=>(f env st).bind λx=>(lo env x.2).bind λl=>(hi env l.2).bind λu=>(dSl u.2 x.1 l.1 u.1).map λd=>(.d d,u.2)
theorem wA {lo hi:Option Expr}{fl fh:Pf} (h:IE K X e f) (J:IO K X lo fl) (hh:IO K X hi fh) (hK:X.K=K:=by rfl):IE K X (.Subscript e (.Slice lo hi none p2) pos) (iSl f fl fh):=by
 subst hK;refine⟨λenv st r hr=>?_⟩;simp only[iSl,qab,qad]at hr;obtain⟨⟨x,s1⟩,hx,l,hl',u,hu',d,hd,rfl⟩:=hr;have list:(∀ {H:Hp}{φ:List Addr}{v:V},Sr X.K H φ u.2->Rw X.K H φ x v->∃ a g ds,v=.ref a/\SqL X.K H a g/\Rls X.K H φ ds g/\d=.lst (ik ds l.1 u.1))->PE X (.Subscript e (.Slice lo hi none p2) pos) (tI X.K env st (.d d,u.2)):=λhq=>by
  refine (ux Cc (h.run _ _ _ hx) (J.run _ _ _ hl') (hh.run _ _ _ hu')).imp ?_
  rintro M H Q ⟨φ,hE,T,q⟩
  refine⟨φ,hE,T,λv H1 R f1 s1 w1=>⟨R,hE.fw T f1,s1,λH2 φ2 f2 s2=>⟨φ2,(hE.fw T f1).fw s1 f2,s2,λH3 φ3 f3 s3=>?_⟩⟩⟩;obtain⟨a,g,ds,rfl,C,B,rfl⟩:=hq s3 ((w1.fw s1 f2).fw s2 f3);refine⟨a,g,U,C,λp E=>q _ _ φ3 (((f1.trans f2).trans f3).trans (Fw.new E)) (s3.new E) ?_⟩;exact⟨p,_,U,s3.nin E,.inl upd_same,(wg B _ _).fw s3 (Fw.new E)⟩
 match x,hd with
 |.d (.tup ds),hd=>
  cases hd;refine (ux (DF U) (h.run _ _ _ hx) (J.run _ _ _ hl') (hh.run _ _ _ hu')).imp ?_
  rintro M H Q ⟨φ,hE,T,q⟩
  refine⟨φ,hE,T,λv H1 R f1 s1 w1=>⟨R,hE.fw T f1,s1,λH2 φ2 f2 s2=>⟨φ2,(hE.fw T f1).fw s1 f2,s2,λH3 φ3 f3 s3=>?_⟩⟩⟩;obtain⟨a,g,rfl,C,B⟩:=(w1.fw s1 f2).fw s2 f3;refine⟨a,g,U,(SqT.of C),?_⟩;by_cases hc:HT.sIx g.length 0 l.1=0/\HT.sIx g.length g.length u.1=g.length
  ·refine .inr ⟨hc,q _ _ φ3 ((f1.trans f2).trans f3) s3 ⟨a,g,U,C,?_⟩⟩
   have e:ik ds l.1 u.1=ds:=by
    unfold ik;rw[B.length,hc.1,hc.2,qgo,qg1,<-B.length,qeq]
   rw[e];exact B
  ·exact .inl ⟨hc,λp E=>q _ _ φ3 (((f1.trans f2).trans f3).trans (Fw.new E)) (s3.new E) ⟨p,_,U,upd_same,(wg B _ _).fw s3 (Fw.new E)⟩⟩
 |.d (.lst ds),hd=>
  cases hd;refine list λ{H φ v} S w=>?_;obtain⟨a,g,rfl,h0,C,B⟩:=w;exact⟨a,g,ds,U,.inl C,B,U⟩
 |.d (.scr ns),hd=>
  cases hd;refine list λ{H φ v} S w=>?_;obtain⟨a,rfl,h⟩:=w;refine⟨a,_,_,U,?_,Rls.of_ints ns,U⟩;rcases h with⟨o,h⟩|h
  ·exact .inl (.inr ⟨o,h⟩)
  ·exact .inr h
 |.h n,hd=>
  obtain⟨ds,e1,rfl⟩:=qad.mp hd;refine list λ{H φ v} S w=>?_;obtain⟨a,ea,rfl⟩:=w;obtain⟨g,q,rl⟩:=S.atl n a ds ea e1;exact⟨a,g,ds,U,SqL.of q,rl,U⟩
end
section
variable {K:qae}{X:Cx}{T:List (Addr×Obj)}{σ:St}{H:Hp}{s:qai}{φ:List Addr}{st:Sto}
theorem eF:∀ (xs P:List D),((qam (min xs.length P.length)).all (λj=>eqD (xs.getD j .non) (P.getD j .non))&&xs.length==P.length)=dX xs P
 |[],[]=>rfl
 |[],y::P=>by simp[dX]
 |x::xs,[]=>by simp[dX]
 |x::xs,y::P=>by
  show ((qam (min (xs.length+1) (P.length+1))).all _&&(xs.length+1==P.length+1))=(eqD x y&&dX xs P);rw[show min _ _=min xs.length P.length+1 by lia,mT,<-eF xs P];have e:(xs.length+1==P.length+1)=(xs.length==P.length):=by simp
  rw[e,Bool.and_assoc];rfl
theorem ju {xs P:List D} (h:xs.length=P.length):(qam xs.length).all (λj=>eqD (xs.getD j .non) (P.getD j .non))=dX xs P:=by
 rw[<-eF xs P,<-h,qjR];simp
theorem sZ:∀ {xs P:List D},xs.length≠P.length->dX xs P=false
 |[],[],h=>absurd U h
 |[],_::_,_=>rfl
 |_::_,[],_=>rfl
 |x::xs,y::P,h=>by
  show (eqD x y&&dX xs P)=false;rw[sZ (by intro e;apply h;rw[qap,qap,e]),Bool.and_false]
theorem B6 (I:Inv X T σ H s) {a:Addr}{E ws:List V} (h:Rd H a (.lst E)) (h':Rd H a (.lst ws)):E=ws:=I.list_inj (.inl h) (.inl h')
theorem wm (I:Inv X T σ H s):∀ (n:Nat) {d e:D}{v:V},Rl X.K H φ d v->Rl X.K H φ e v->okD n d=true->okD n e=true->eqD d e=true:=by
 intro n
 induction n with
 |zero=>
  intro d e v m l N F;cases d<;>first|(cases N;done)|skip
  all_goals (cases e<;>first|(cases F;done)|skip)
  all_goals (first|rfl|(cases m.symm.trans l;done)|(cases m.symm.trans l;simp[eqD]))
 |succ n ih=>
  have lists:∀ {ds es:List D}{E:List V},Rls X.K H φ ds E->Rls X.K H φ es E->(∀ d∈ds,okD n d=true)->(∀ d∈es,okD n d=true)->dX ds es=true:=by
   intro ds
   induction ds with
   |nil=>
    intro es E m l _ _;cases m;cases es with
    |nil=>rfl
    |cons e es=>obtain⟨_,_,q,_⟩:=l;cases q
   |cons d ds ihd=>
    intro es E m l N F;obtain⟨v,r,rfl,a1,a2⟩:=m;cases es with
    |nil=>cases l
    |cons e es=>
     obtain⟨v',r',q,b1,b2⟩:=l;cases q;show (eqD d e&&dX ds es)=true;rw[ih a1 b1 (N d qag) (F e qag),ihd a2 b2 (λx hx=>N x (qaj _ hx)) (λx hx=>F x (qaj _ hx))];rfl
  intro d e v m l N F;cases d with
  |tup ds=>
   obtain⟨a,E,rfl,O,M⟩:=m;cases e with
   |tup es=>
    obtain⟨b,J,q,p,B⟩:=l;cases q;rw[I.tuple_inj (SqT.of p) (SqT.of O)]at B;exact lists M B (qaW.mp N) (qaW.mp F)
   |lst es=>
    obtain⟨b,J,q,_,p,B⟩:=l;cases q;obtain⟨_,_,p1,_⟩:=I.tuple (SqT.of O);obtain⟨_,_,f,_⟩:=I.list (.inl p);exact absurd U (qgx f.isList p1)
   |_=>first|(cases F;done)|(cases l)
  |lst ds=>
   obtain⟨a,E,rfl,h0,O,M⟩:=m;cases e with
   |lst es=>
    obtain⟨b,J,q,_,p,B⟩:=l;cases q;rw[B6 I p O]at B;exact lists M B (qaW.mp N) (qaW.mp F)
   |tup es=>
    obtain⟨b,J,q,p,B⟩:=l;cases q;obtain⟨_,_,p1,_⟩:=I.tuple (SqT.of p);obtain⟨_,_,f,_⟩:=I.list (.inl O);exact absurd U (qgx f.isList p1)
   |_=>first|(cases F;done)|(cases l)
  |non=>cases e<;>first|rfl|(cases F;done)|(cases m.symm.trans l)|(cases m;obtain⟨_,_,q,_⟩:=l;cases q)
  |bl b=>cases e<;>first|(cases F;done)|(cases m.symm.trans l;simp[eqD])|(cases m.symm.trans l)|(cases m;obtain⟨_,_,q,_⟩:=l;cases q)
  |int b=>cases e<;>first|(cases F;done)|(cases m.symm.trans l;simp[eqD])|(cases m.symm.trans l)|(cases m;obtain⟨_,_,q,_⟩:=l;cases q)
  |str b=>cases e<;>first|(cases F;done)|(cases m.symm.trans l;simp[eqD])|(cases m.symm.trans l)|(cases m;obtain⟨_,_,q,_⟩:=l;cases q)
  |ty b=>cases N
  |scr b=>cases N
  |dct=>cases N
  |ob _ _=>cases N
theorem d9 {ds:List D}{E:List V}{J:List Value} (r:Rls K H φ ds E) (Y:aL E J):∀ (j:Nat) (h:j<J.length),∃ v,Rl K H φ (ds.getD j .non) v/\aP v J[j]/\ds.getD j .non∈ds:=by
 intro j h;obtain⟨h',q⟩:=Y.at j h;have hd:j<ds.length:=by rw[r.length];exact h'
 have e:=qao hd;obtain⟨v,ev,rl⟩:=r.get e;rw[qao h']at ev;cases ev;refine⟨_,?_,q,?_⟩
 ·rw[qf5,e];exact rl
 ·rw[qf5,e];exact qbV hd
theorem y8 (I:Inv X T σ H s):∀ (n:Nat) {A:qaU}{d e:D}{v u:V}{vv uu:Value},Rl X.K H φ d v->Rl X.K H φ e u->aP v vv->aP u uu->okD n d=true->okD n e=true->A.units+n<cLine->qdw A s vv uu (eqD d e):=by
 have flat:∀ {A:qaU}{d e:D}{v u:V}{vv uu:Value},cf d=true->cf e=true->Rl X.K H φ d v->Rl X.K H φ e u->aP v vv->aP u uu->qdw A s vv uu (eqD d e):=by
  intro A d e v u vv uu f1 f2 m l q1 L;obtain⟨R,g1⟩:=gN f1 m;obtain⟨e2,g2⟩:=gN f2 l;rw[<-qy f1 f2,<-R,<-e2];exact u5 q1 L g1 g2
 intro n
 induction n with
 |zero=>
  intro A d e v u vv uu m l q1 L N F hu;refine flat ?_ ?_ m l q1 L
  ·cases d<;>first|rfl|cases N
  ·cases e<;>first|rfl|cases F
 |succ n ih=>
  intro A d e v u vv uu m l q1 L N F hu;have c:A.units<cLine:=by lia
  have hu1:A.in1.units+n<cLine:=by show A.units+1+n<cLine;lia
  cases d with
  |tup ds=>
   obtain⟨a,E,rfl,O,M⟩:=m;cases q1;obtain⟨G,Y,p1,_⟩:=I.tuple (SqT.of O);cases e with
   |tup es=>
    obtain⟨b,J,rfl,p,B⟩:=id l;cases L;by_cases hab:a=b
    ·subst hab
     rw[wm I (n+1) (d:=.tup ds) ⟨a,E,U,O,M⟩ l N F];exact qfh _
    ·obtain⟨g,o,f,_⟩:=I.tuple (SqT.of p)
     have z:=qeS (A:=A) p1 f c λj g1 g2=>by
      obtain⟨v1,k1,k2,k3⟩:=d9 M Y j (by simpa using g1);obtain⟨v2,k4,k5,k6⟩:=d9 B o j (by simpa using g2);exact ih k1 k4 (by simpa using k2) (by simpa using k5) (qaW.mp N _ k3) (qaW.mp F _ k6) hu1
     have R:G.toArray.size=ds.length:=by simp[<-Y.length,M.length]
     have e2:g.toArray.size=es.length:=by simp[<-o.length,B.length]
     rw[R,e2,eF]at z;exact qeC hab z
   |lst es=>
    obtain⟨b,J,rfl,_,p,B⟩:=id l;cases L;obtain⟨g,o,f,_⟩:=I.list (.inl p);exact qkW p1 f.isList c
   |non=>cases l;cases L;exact qkV p1 c
   |bl x=>cases l;cases L;exact qkY x p1 c
   |int x=>cases l;obtain⟨t,rfl⟩:=L;exact qkX x t p1 c
   |str x=>cases l;obtain⟨t,rfl⟩:=L;exact qkU x t p1 c
   |ty _=>cases F
   |scr _=>cases F
   |dct=>cases F
   |ob _ _=>cases F
  |lst ds=>
   obtain⟨a,E,rfl,h0,O,M⟩:=m;cases q1;obtain⟨G,Y,p1,_⟩:=I.list (.inl O);cases e with
   |lst es=>
    obtain⟨b,J,rfl,_,p,B⟩:=id l;cases L;by_cases hab:a=b
    ·subst hab
     rw[wm I (n+1) (d:=.lst ds) ⟨a,E,U,h0,O,M⟩ l N F];exact qfh _
    ·obtain⟨g,o,f,_⟩:=I.list (.inl p)
     have R:G.toArray.size=ds.length:=by simp[<-Y.length,M.length]
     have e2:g.toArray.size=es.length:=by simp[<-o.length,B.length]
     by_cases hl:ds.length=es.length
     ·have z:=qgK (A:=A) p1.isList f.isList (by rw[R,e2,hl]) c λj g1 g2=>by
       obtain⟨v1,k1,k2,k3⟩:=d9 M Y j (by simpa using g1);obtain⟨v2,k4,k5,k6⟩:=d9 B o j (by simpa using g2);exact ih k1 k4 (by simpa using k2) (by simpa using k5) (qaW.mp N _ k3) (qaW.mp F _ k6) hu1
      rw[R,ju hl]at z;exact qeC hab z
     ·show qdw A s _ _ (dX ds es)
      rw[sZ hl];exact qeC hab (qfv (A:=A) p1.isList f.isList (by rw[R,e2];simpa using hl) c)
   |tup es=>
    obtain⟨b,J,rfl,p,B⟩:=id l;cases L;obtain⟨g,o,f,_⟩:=I.tuple (SqT.of p);exact qk9 p1.isList f c
   |non=>cases l;cases L;exact qlb p1.isList c
   |bl x=>cases l;cases L;exact qld x p1.isList c
   |int x=>cases l;obtain⟨t,rfl⟩:=L;exact qlc x t p1.isList c
   |str x=>cases l;obtain⟨t,rfl⟩:=L;exact qla x t p1.isList c
   |ty _=>cases F
   |scr _=>cases F
   |dct=>cases F
   |ob _ _=>cases F
  |non=>
   cases m;cases q1;cases e with
   |tup es=>obtain⟨b,J,rfl,p,B⟩:=l;cases L;obtain⟨_,_,f,_⟩:=I.tuple (SqT.of p);exact qk4 f c
   |lst es=>obtain⟨b,J,rfl,_,p,B⟩:=l;cases L;obtain⟨_,_,f,_⟩:=I.list (.inl p);exact qk6 f.isList c
   |_=>first|(cases F;done)|exact flat U U (d:=.non) U l (v:=.non) U L
  |bl x=>
   cases m;cases q1;cases e with
   |tup es=>obtain⟨b,J,rfl,p,B⟩:=l;cases L;obtain⟨_,_,f,_⟩:=I.tuple (SqT.of p);exact qli x f c
   |lst es=>obtain⟨b,J,rfl,_,p,B⟩:=l;cases L;obtain⟨_,_,f,_⟩:=I.list (.inl p);exact qll x f.isList c
   |_=>first|(cases F;done)|exact flat U U (d:=.bl x) U l (v:=.bl x) U L
  |int x=>
   cases m;obtain⟨t1,rfl⟩:=q1;cases e with
   |tup es=>obtain⟨b,J,rfl,p,B⟩:=l;cases L;obtain⟨_,_,f,_⟩:=I.tuple (SqT.of p);exact qle x t1 f c
   |lst es=>obtain⟨b,J,rfl,_,p,B⟩:=l;cases L;obtain⟨_,_,f,_⟩:=I.list (.inl p);exact qlg x t1 f.isList c
   |_=>first|(cases F;done)|exact flat U U (d:=.int x) U l (v:=.int x) ⟨t1,U⟩ L
  |str x=>
   cases m;obtain⟨t1,rfl⟩:=q1;cases e with
   |tup es=>obtain⟨b,J,rfl,p,B⟩:=l;cases L;obtain⟨_,_,f,_⟩:=I.tuple (SqT.of p);exact qkZ x t1 f c
   |lst es=>obtain⟨b,J,rfl,_,p,B⟩:=l;cases L;obtain⟨_,_,f,_⟩:=I.list (.inl p);exact qk2 x t1 f.isList c
   |_=>first|(cases F;done)|exact flat U U (d:=.str x) U l (v:=.str x) ⟨t1,U⟩ L
  |ty _=>cases N
  |scr _=>cases N
  |dct=>cases N
  |ob _ _=>cases N
theorem El {A:qaU}{y x:V}{u v:Value} (ry:aP y u) (C:aP x v) (fy:fq y=true) (fx:fq x=true):qjL A s u v (eqV y x):=by
 cases y with
 |non=>
  cases ry;cases x with
  |non=>cases C;exact qkz
  |bl b=>cases C;exact qkC b
  |int b=>obtain⟨t,rfl⟩:=C;exact qkB b t
  |str b=>obtain⟨t,rfl⟩:=C;exact qky b t
  |_=>cases fx
 |bl a=>
  cases ry;cases x with
  |non=>cases C;exact qkQ a
  |bl b=>cases C;exact qkT a b
  |int b=>obtain⟨t,rfl⟩:=C;exact qkS a b t
  |str b=>obtain⟨t,rfl⟩:=C;exact qkP a b t
  |_=>cases fx
 |int a=>
  obtain⟨t',rfl⟩:=ry;cases x with
  |non=>cases C;exact qkK a t'
  |bl b=>cases C;exact qkN a t' b
  |int b=>obtain⟨t,rfl⟩:=C;exact qkM a t' b t
  |str b=>obtain⟨t,rfl⟩:=C;exact qkJ a t' b t
  |_=>cases fx
 |str a=>
  obtain⟨t',rfl⟩:=ry;cases x with
  |non=>cases C;exact qkt a t'
  |bl b=>cases C;exact qkw a t' b
  |int b=>obtain⟨t,rfl⟩:=C;exact qkv a t' b t
  |str b=>obtain⟨t,rfl⟩:=C;exact qks a t' b t
  |_=>cases fx
 |_=>cases fy
theorem Ak {A:qaU}{y x:V}{u v:Value} (ry:aP y u) (C:aP x v) (fy:fq y=true) (fx:fq x=true):qiw A s u v (!eqV y x):=by
 cases y with
 |non=>
  cases ry;cases x with
  |non=>cases C;exact qjo
  |bl b=>cases C;exact qjr b
  |int b=>obtain⟨t,rfl⟩:=C;exact qjq b t
  |str b=>obtain⟨t,rfl⟩:=C;exact qjn b t
  |_=>cases fx
 |bl a=>
  cases ry;cases x with
  |non=>cases C;exact qjH a
  |bl b=>cases C;exact qjK a b
  |int b=>obtain⟨t,rfl⟩:=C;exact qjJ a b t
  |str b=>obtain⟨t,rfl⟩:=C;exact qjG a b t
  |_=>cases fx
 |int a=>
  obtain⟨t',rfl⟩:=ry;cases x with
  |non=>cases C;exact qjB a t'
  |bl b=>cases C;exact qjE a t' b
  |int b=>obtain⟨t,rfl⟩:=C;exact qjD a t' b t
  |str b=>obtain⟨t,rfl⟩:=C;exact qjA a t' b t
  |_=>cases fx
 |str a=>
  obtain⟨t',rfl⟩:=ry;cases x with
  |non=>cases C;exact qji a t'
  |bl b=>cases C;exact qjl a t' b
  |int b=>obtain⟨t,rfl⟩:=C;exact qjk a t' b t
  |str b=>obtain⟨t,rfl⟩:=C;exact qjh a t' b t
  |_=>cases fx
 |_=>cases fy
inductive Kin where
 |fl (d:D)|tp (ds:List D)|ls (ds:List D)
def gg (st:Sto):W->Option Kin
 |.d (.tup ds)=>some (.tp ds)
 |.d (.lst ds)=>some (.ls ds)
 |.h n=>(lg st n).map .ls
 |.d .non=>some (.fl .non)
 |.d (.bl b)=>some (.fl (.bl b))
 |.d (.int i)=>some (.fl (.int i))
 |.d (.str x)=>some (.fl (.str x))
 |_=>none
def eqK:Kin->Kin->Option Bool
 |.fl a,.fl b=>some (eqD a b)
 |.tp as,.tp bs=>if (as.isEmpty||bs.isEmpty)=true then some (as.isEmpty&&bs.isEmpty) else if as.all (okD 60)=true/\bs.all (okD 60)=true then some (dX as bs) else none
 |.ls as,.ls bs=>if as.length=bs.length then (if as.all (okD 60)=true/\bs.all (okD 60)=true then some (dX as bs) else none) else some false
 |.fl _,.tp _=>some false
 |.tp _,.fl _=>some false
 |.fl _,.ls _=>some false
 |.ls _,.fl _=>some false
 |.tp _,.ls _=>some false
 |.ls _,.tp _=>some false
def dEq (st:Sto) (x y:W):Option D:=(gg st x).bind λa=>(gg st y).bind λb=>(eqK a b).map λk=>.bl k
def dNe (st:Sto) (x y:W):Option D:=(gg st x).bind λa=>(gg st y).bind λb=>(eqK a b).map λk=>.bl (!k)
def C9 (K:qae) (H:Hp) (φ:List Addr):Kin->V->Prop
 |.fl d,v=>cf d=true/\Rl K H φ d v
 |.tp ds,v=>∃ a E,v=.ref a/\SqT K H a E/\Rls K H φ ds E
 |.ls ds,v=>∃ a E,v=.ref a/\Rd H a (.lst E)/\Rls K H φ ds E
theorem mG {w:W}{v:V}{k:Kin} (S:Sr K H φ st) (r:Rw K H φ w v) (e:gg st w=some k):C9 K H φ k v:=by
 cases w with
 |h n=>
  obtain⟨a,ea,rfl⟩:=r;obtain⟨ds,R,rfl⟩:=qad.mp e;obtain⟨E,q,rl⟩:=S.atl n a ds ea R;exact⟨a,E,U,.inl q,rl⟩
 |d x=>
  cases x with
  |tup es=>cases e;obtain⟨a,E,rfl,O,M⟩:=r;exact⟨a,E,U,SqT.of O,M⟩
  |lst es=>cases e;obtain⟨a,E,rfl,h0,O,M⟩:=r;exact⟨a,E,U,O,M⟩
  |non=>cases e;exact⟨U,r⟩
  |bl b=>cases e;exact⟨U,r⟩
  |int b=>cases e;exact⟨U,r⟩
  |str b=>cases e;exact⟨U,r⟩
  |_=>cases e
theorem Dt {A:qaU}{k:Nat} (hr:bv k A):A.in1.units+60<cLine:=by
 have:=hr.un
 lia
theorem Ai {k:Nat} (hr:bv k X.A) (I:Inv X T σ H s) {a b:Kin}{v u:V}{vv uu:Value}{r:Bool} (ra:C9 X.K H φ a v) (rb:C9 X.K H φ b u) (qa:aP v vv) (qb:aP u uu) (e:eqK a b=some r) :
  qjL X.A s vv uu r/\qiw X.A s vv uu (!r):=by
 have c:=hr.units0;have items:∀ {ds es:List D}{E J:List V}{G g:List Value},Rls X.K H φ ds E->Rls X.K H φ es J->aL E G->aL J g->ds.all (okD 60)=true->es.all (okD 60)=true->
   ∀ j (g1:j<G.toArray.size) (g2:j<g.toArray.size),qdw X.A.in1 s G.toArray[j] g.toArray[j] (eqD (ds.getD j .non) (es.getD j .non)):=by
  intro ds es E J G g M B Y o N F j g1 g2;obtain⟨v1,k1,k2,k3⟩:=d9 M Y j (by simpa using g1);obtain⟨v2,k4,k5,k6⟩:=d9 B o j (by simpa using g2);exact y8 I 60 k1 k4 (by simpa using k2) (by simpa using k5) (qaW.mp N _ k3) (qaW.mp F _ k6) (Dt hr)
 match a,b,e with
 |.fl d,.fl d',e=>
  cases e;obtain⟨f1,m⟩:=ra;obtain⟨f2,l⟩:=rb;obtain⟨R,g1⟩:=gN f1 m;obtain⟨e2,g2⟩:=gN f2 l;rw[<-qy f1 f2,<-R,<-e2];exact⟨El qa qb g1 g2,Ak qa qb g1 g2⟩
 |.tp ds,.tp es,e=>
  simp only[eqK]at e;obtain⟨a,E,rfl,O,M⟩:=ra;obtain⟨b,J,rfl,p,B⟩:=rb;cases qa;cases qb;obtain⟨G,Y,p1,_⟩:=I.tuple O;obtain⟨g,o,f,_⟩:=I.tuple p;have R:G.toArray.size=ds.length:=by simp[<-Y.length,M.length]
  have e2:g.toArray.size=es.length:=by simp[<-o.length,B.length]
  split at e
  ·rename_i hc
   cases e;have hv:∀ j (g1:j<G.toArray.size) (g2:j<g.toArray.size),qdw X.A.in1 s G.toArray[j] g.toArray[j] (eqD (ds.getD j .non) (es.getD j .non)):=λj g1 g2=>by
    rw[R]at g1;rw[e2]at g2;rw[qib]at hc;rcases hc with hc|hc
    ·rw[qh0.mp hc]at g1;exact absurd g1 (qcL _)
    ·rw[qh0.mp hc]at g2;exact absurd g2 (qcL _)
   have z:=qeS (A:=X.A) p1 f c hv;have z':=qf1 (A:=X.A) p1 f c hv;rw[R,e2,eF]at z z';have e3:dX ds es=(ds.isEmpty&&es.isEmpty):=by
    cases ds with
    |nil=>cases es<;>rfl
    |cons _ _=>cases es with
     |nil=>rfl
     |cons _ _=>cases hc
   rw[e3]at z z';exact⟨z,z'⟩
  ·split at e
   ·rename_i hc
    cases e;have z:=qeS (A:=X.A) p1 f c (items M B Y o hc.1 hc.2);have z':=qf1 (A:=X.A) p1 f c (items M B Y o hc.1 hc.2);rw[R,e2,eF]at z z';exact⟨z,z'⟩
   ·cases e
 |.ls ds,.ls es,e=>
  simp only[eqK]at e;obtain⟨a,E,rfl,O,M⟩:=ra;obtain⟨b,J,rfl,p,B⟩:=rb;cases qa;cases qb;obtain⟨G,Y,p1,_⟩:=I.list (.inl O);obtain⟨g,o,f,_⟩:=I.list (.inl p);have R:G.toArray.size=ds.length:=by simp[<-Y.length,M.length]
  have e2:g.toArray.size=es.length:=by simp[<-o.length,B.length]
  split at e
  ·rename_i hl
   split at e
   ·rename_i hc
    cases e;have z:=qgK (A:=X.A) p1.isList f.isList (by rw[R,e2,hl]) c (items M B Y o hc.1 hc.2);have z':=qjt (A:=X.A) p1.isList f.isList (by rw[R,e2,hl]) c (items M B Y o hc.1 hc.2);rw[R,ju hl]at z z';exact⟨z,z'⟩
   ·cases e
  ·rename_i hl
   cases e;have z':=qjs (A:=X.A) p1.isList f.isList (by rw[R,e2];simpa using hl) c;exact⟨(qfv (A:=X.A) p1.isList f.isList (by rw[R,e2];simpa using hl) c),z'⟩
 |.fl d,.tp es,e=>
  cases e;obtain⟨f1,m⟩:=ra;obtain⟨b,J,rfl,p,B⟩:=rb;cases qb;obtain⟨g,o,f,_⟩:=I.tuple p;cases d with
  |non=>cases m;cases qa;exact⟨qkx f c,qjm f c⟩
  |bl x=>cases m;cases qa;exact⟨qkO x f c,qjF x f c⟩
  |int x=>cases m;obtain⟨t,rfl⟩:=qa;exact⟨qkI x t f c,qjz x t f c⟩
  |str x=>cases m;obtain⟨t,rfl⟩:=qa;exact⟨qkr x t f c,qjg x t f c⟩
  |_=>cases f1
 |.tp es,.fl d,e=>
  cases e;obtain⟨f1,m⟩:=rb;obtain⟨b,J,rfl,p,B⟩:=ra;cases qa;obtain⟨g,o,f,_⟩:=I.tuple p;cases d with
  |non=>cases m;cases qb;exact⟨qkn f c,qjc f c⟩
  |bl x=>cases m;cases qb;exact⟨qkq x f c,qjf x f c⟩
  |int x=>cases m;obtain⟨t,rfl⟩:=qb;exact⟨qkp x t f c,qje x t f c⟩
  |str x=>cases m;obtain⟨t,rfl⟩:=qb;exact⟨qkm x t f c,qjb x t f c⟩
  |_=>cases f1
 |.fl d,.ls es,e=>
  cases e;obtain⟨f1,m⟩:=ra;obtain⟨b,J,rfl,p,B⟩:=rb;cases qb;obtain⟨g,o,f,_⟩:=I.list (.inl p);replace f:=f.isList;cases d with
  |non=>cases m;cases qa;exact⟨qkA f c,qjp f c⟩
  |bl x=>cases m;cases qa;exact⟨qkR x f c,qjI x f c⟩
  |int x=>cases m;obtain⟨t,rfl⟩:=qa;exact⟨qkL x t f c,qjC x t f c⟩
  |str x=>cases m;obtain⟨t,rfl⟩:=qa;exact⟨qku x t f c,qjj x t f c⟩
  |_=>cases f1
 |.ls es,.fl d,e=>
  cases e;obtain⟨f1,m⟩:=rb;obtain⟨b,J,rfl,p,B⟩:=ra;cases qa;obtain⟨g,o,f,_⟩:=I.list (.inl p);replace f:=f.isList;cases d with
  |non=>cases m;cases qb;exact⟨qkF f c,qjw f c⟩
  |bl x=>cases m;cases qb;exact⟨qkH x f c,qjy x f c⟩
  |int x=>cases m;obtain⟨t,rfl⟩:=qb;exact⟨qkG x t f c,qjx x t f c⟩
  |str x=>cases m;obtain⟨t,rfl⟩:=qb;exact⟨qkE x t f c,qjv x t f c⟩
  |_=>cases f1
 |.tp ds,.ls es,e=>
  cases e;obtain⟨a,E,rfl,O,M⟩:=ra;obtain⟨b,J,rfl,p,B⟩:=rb;cases qa;cases qb;obtain⟨G,Y,p1,_⟩:=I.tuple O;obtain⟨g,o,f,_⟩:=I.list (.inl p);exact⟨qko p1 f.isList c,qjd p1 f.isList c⟩
 |.ls ds,.tp es,e=>
  cases e;obtain⟨a,E,rfl,O,M⟩:=ra;obtain⟨b,J,rfl,p,B⟩:=rb;cases qa;cases qb;obtain⟨G,Y,p1,_⟩:=I.list (.inl O);obtain⟨g,o,f,_⟩:=I.tuple p;exact⟨qkD p1.isList f c,qju p1.isList f c⟩
theorem wW {k:Nat} (hr:bv k X.A) (hK:X.K=K:=by rfl):OpD K X (qbq .Eq) dEq:=by
 subst hK;refine⟨λst x y d h=>?_⟩;simp only[dEq,qab,qad]at h;obtain⟨a,ha,b,hb,r,e,rfl⟩:=h;intro T s σ H vx vy v u Q I C ry q;obtain⟨φ,S,m,l,q⟩:=q;exact (Ai hr I (mG S m ha) (mG S l hb) C ry e).1 _ _ _ _ ⟨.bl r,H,I,U,q _ H (aS.refl H) U⟩
theorem xb {k:Nat} (hr:bv k X.A) (hK:X.K=K:=by rfl):OpD K X (qbq .NotEq) dNe:=by
 subst hK;refine⟨λst x y d h=>?_⟩;simp only[dNe,qab,qad]at h;obtain⟨a,ha,b,hb,r,e,rfl⟩:=h;intro T s σ H vx vy v u Q I C ry q;obtain⟨φ,S,m,l,q⟩:=q;exact (Ai hr I (mG S m ha) (mG S l hb) C ry e).2 _ _ _ _ ⟨.bl _,H,I,U,q _ H (aS.refl H) U⟩
end
section
variable {K:qae}{X:Cx}
def bb:List D->Option (List Int)
 |[]=>some []
 |.int i::ds=>(bb ds).map λr=>i::r
 |_=>none
theorem bA:∀ {ds:List D}{ns:List Int},bb ds=some ns->ds=ns.map D.int
 |[],_,h=>by cases h;rfl
 |.int i::ds,_,h=>by
  obtain⟨r,e,rfl⟩:=qad.mp h;rw[bA e];rfl
 |.non::_,_,h=>by cases h
 |.bl _::_,_,h=>by cases h
 |.str _::_,_,h=>by cases h
 |.ty _::_,_,h=>by cases h
 |.dct::_,_,h=>by cases h
 |.scr _::_,_,h=>by cases h
 |.tup _::_,_,h=>by cases h
 |.lst _::_,_,h=>by cases h
theorem br:∀ (ns:List Int),bb (ns.map D.int)=some ns
 |[]=>rfl
 |n::ns=>by rw[qas,bb,br ns];rfl
def kN:List D->Option (List Bool)
 |[]=>some []
 |.bl i::ds=>(kN ds).map λr=>i::r
 |_=>none
theorem lA:∀ {ds:List D}{ns:List Bool},kN ds=some ns->ds=ns.map D.bl
 |[],_,h=>by cases h;rfl
 |.bl i::ds,_,h=>by
  obtain⟨r,e,rfl⟩:=qad.mp h;rw[lA e];rfl
 |.non::_,_,h=>by cases h
 |.int _::_,_,h=>by cases h
 |.str _::_,_,h=>by cases h
 |.ty _::_,_,h=>by cases h
 |.dct::_,_,h=>by cases h
 |.scr _::_,_,h=>by cases h
 |.tup _::_,_,h=>by cases h
 |.lst _::_,_,h=>by cases h
theorem m4:∀ (ns:List Bool),kN (ns.map D.bl)=some ns
 |[]=>rfl
 |n::ns=>by rw[qas,kN,m4 ns];rfl
def aY (st:Sto):List W->Option D
 |[.d (.str x)]=>if x.length<=1000000 then some (.int x.length) else none
 |[w]=>(dL st w).map λds=>.int ds.length
 |_=>none
def Dg (_:Sto):List W->Option D
 |[.d (.int i)]=>some (.int (if i<0 then -i else i))
 |_=>none
def Dh (_:Sto):List W->Option D
 |[.d (.int i),.d (.int j)]=>some (.int (if j<i then j else i))
 |_=>none
def jk (_:Sto):List W->Option D
 |[.d (.int i)]=>some (.int i)
 |[.d (.bl k)]=>some (.int (if k then 1 else 0))
 |_=>none
def oV (_:Sto):List W->Option D
 |[.d (.lst ds)]=>(bb ds).map λns=>.int ns.sum
 |_=>none
def qu (_:Sto):List W->Option D
 |[.d (.lst ds)]=>(kN ds).map λns=>.bl (ns.all id)
 |_=>none
def fX (st:Sto):List W->Option D
 |[w]=>(dL st w).map λds=>.tup ds
 |_=>none
def wL (st:Sto):List W->Option (List D)
 |[w]=>dL st w
 |_=>none
def ED (st:Sto):W->Option String
 |.d .non=>some "NoneType"
 |.d (.bl _)=>some "bool"
 |.d (.int _)=>some "int"
 |.d (.str _)=>some "str"
 |.d (.tup _)=>some "tuple"
 |.d (.lst _)=>some "list"
 |.d .dct=>some "dict"
 |.h n=>(lg st n).map λ_=>"list"
 |_=>none
def Dw (t c:String):Option Bool:=
 if c = "int" then some (t=="int" || t=="bool")
 else if c = "bool"\/c = "str"\/c = "tuple"\/c = "list" then some (t==c)
 else none
def hU (st:Sto):List W->Option D
 |[w,.d (.ty c)]=>(ED st w).bind λt=>(Dw t c).map λb=>.bl b
 |_=>none
theorem gB (P:X.K=K:=by rfl):e6 K X (.builtin "len") aY:=by
 subst P;refine⟨λst ws d h=>?_⟩;have Y:∀ w,(dL st w).map (λds=>D.int ds.length)=some d->bN X _ (rCD X.K st [w] d):=λw h=>by
  obtain⟨ds,e,rfl⟩:=qad.mp h;refine qe.imp ?_
  rintro G H Q ⟨φ,S,⟨v,r,rfl,A,rfl⟩,q⟩
  obtain⟨a,E,rfl,m,O⟩:=gQ S A e;exact⟨a,E,U,m,q _ H (aS.refl H) (by rw[<-O.length];rfl)⟩
 cases ws with
 |nil=>cases h
 |cons w tl=>
  cases tl with
  |cons _ _=>
   cases w with
   |h n=>cases h
   |d x=>cases x<;>cases h
  |nil=>
   cases w with
   |h n=>exact Y _ h
   |d x=>
    cases x with
    |str x=>
     simp only[aY]at h;split at h
     ·rename_i hl
      cases h;refine qg.imp ?_
      rintro G H Q ⟨φ,S,⟨v,r,rfl,A,rfl⟩,q⟩
      exact⟨x,by rw[A],qaS hl mil,q _ H (aS.refl H) U⟩
     ·cases h
    |tup ds=>exact Y _ h
    |lst ds=>exact Y _ h
    |scr ds=>exact Y _ h
    |_=>cases h
theorem qk:e6 K X (.builtin "abs") Dg:=by
 refine⟨λst ws d h=>?_⟩
 match ws,h with
 |[.d (.int i)],h=>
  cases h;refine yS.imp ?_
  rintro G H Q ⟨φ,S,⟨v,r,rfl,A,rfl⟩,q⟩
  exact⟨i,by rw[A],q _ H (aS.refl H) U⟩
theorem qq (T:X.calm=true:=by rfl):e6 K X (.builtin "min") Dh:=by
 refine⟨λst ws d h=>?_⟩
 match ws,h with
 |[.d (.int i),.d (.int j)],h=>
  cases h;refine (xT T).imp ?_
  rintro G H Q ⟨φ,S,⟨v,r,rfl,A,u,r',rfl,r2,rfl⟩,q⟩
  exact⟨i,j,by rw[A,r2],q _ H (aS.refl H) U⟩
theorem qo:e6 K X (.type "int") jk:=by
 refine⟨λst ws d h=>?_⟩
 match ws,h with
 |[.d (.int i)],h=>
  cases h;refine pz.imp ?_
  rintro G H Q ⟨φ,S,⟨v,r,rfl,A,rfl⟩,q⟩
  exact .inl ⟨i,by rw[A],q _ H (aS.refl H) U⟩
 |[.d (.bl i)],h=>
  cases h;refine pz.imp ?_
  rintro G H Q ⟨φ,S,⟨v,r,rfl,A,rfl⟩,q⟩
  exact .inr ⟨i,by rw[A],q _ H (aS.refl H) U⟩
theorem qr (T:X.calm=true:=by rfl) (P:X.K=K:=by rfl):e6 K X (.builtin "sum") oV:=by
 refine⟨λst ws d h=>?_⟩
 match ws,h with
 |[.d (.lst ds)],h=>
  obtain⟨ns,e,rfl⟩:=qad.mp h;cases bA e;refine (Fo T U).imp ?_
  rintro G H Q ⟨φ,S,⟨v,r,rfl,⟨a,E,rfl,h0,m,O⟩,rfl⟩,q⟩
  cases O.ints;exact⟨a,ns,U,.inl m,q _ H (aS.refl H) U⟩
theorem ql (T:X.calm=true:=by rfl) (P:X.K=K:=by rfl):e6 K X (.builtin "all") qu:=by
 refine⟨λst ws d h=>?_⟩
 match ws,h with
 |[.d (.lst ds)],h=>
  obtain⟨ns,e,rfl⟩:=qad.mp h;cases lA e;refine (Fm T U).imp ?_
  rintro G H Q ⟨φ,S,⟨v,r,rfl,⟨a,E,rfl,h0,m,O⟩,rfl⟩,q⟩
  cases O.bools;exact⟨a,ns,U,.inl m,q _ H (aS.refl H) U⟩
theorem qt (P:X.K=K:=by rfl):e6 K X (.type "tuple") fX:=by
 subst P;refine⟨λst ws d h=>?_⟩
 match ws,h with
 |[w],h=>
  obtain⟨ds,e,rfl⟩:=qad.mp h;refine oT.imp ?_
  rintro G H Q ⟨φ,S,⟨v,r,rfl,A,rfl⟩,q⟩
  obtain⟨a,E,rfl,m,O⟩:=uF S A e;refine⟨a,E,U,?_⟩;rcases m with m|m
  ·exact .inl ⟨m,λl hl=>q _ _ (aS.new hl _) ⟨l,E,U,upd_same,O.fw S (Fw.new hl)⟩⟩
  ·exact .inr ⟨SqT.of m,q _ H (aS.refl H) ⟨a,E,U,m,O⟩⟩
theorem iZ (P:X.K=K:=by rfl):sw K X (.type "list") wL:=by
 subst P;refine⟨λst ws d h=>?_⟩
 match ws,h with
 |[w],h=>
  refine qh.imp ?_
  rintro G H Q ⟨φ,S,⟨v,r,rfl,A,rfl⟩,q⟩
  obtain⟨a,E,rfl,m,O⟩:=gQ S A h;exact⟨a,E,U,m,λl hl=>q l E H (aS.refl H) hl O⟩
theorem fQ {t c:String}{b:Bool} (N:t = "NoneType"\/t = "bool"\/t = "int"\/t = "str"\/t = "tuple"\/t = "list"\/t = "dict") (h:Dw t c=some b):qhC K (.type t) (.type c)=some b:=by
 unfold Dw at h;split at h
 ·rename_i T
  subst T;rcases N with rfl|rfl|rfl|rfl|rfl|rfl|rfl<;>(cases h;rfl)
 ·split at h
  ·rename_i _ T
   rcases T with rfl|rfl|rfl|rfl<;>rcases N with rfl|rfl|rfl|rfl|rfl|rfl|rfl<;>(cases h;rfl)
  ·cases h
theorem qp (P:X.K=K:=by rfl):e6 K X (.builtin "isinstance") hU:=by
 subst P;refine⟨λst ws d h=>?_⟩;unfold hU at h;split at h
 case h_2=>cases h
 rename_i w c;simp only[hU,qab,qad]at h;obtain⟨t,N,b,hb,rfl⟩:=h;intro pins s σ H xs E Q I rv q;obtain⟨φ,S,⟨v,r,rfl,A,u,r',rfl,r2,rfl⟩,q⟩:=q;cases (show u=.ty c from r2);obtain⟨vv,uu,rfl,B,rv2⟩:=rv.two;cases rv2;have fin:∀ tk,EP X pins σ Q (.bool b) { s with toks:=tk }:=λtk=>⟨.bl b,H,I.tok tk,U,q _ H (aS.refl H) U⟩;cases w with
 |h n=>
  obtain⟨a,ea,rfl⟩:=A;obtain⟨ds,eds,rfl⟩:=qad.mp N;obtain⟨G,hv,_⟩:=S.atl n a ds ea eds;exact cm I B (.lst hv) (fQ (by simp) hb) fin
 |d x=>
  cases x with
  |non=>cases N;cases A;exact cm I B .non (fQ (by simp) hb) fin
  |ob _ _=>cases N
  |bl x=>cases N;cases A;exact cm I B (.bl x) (fQ (by simp) hb) fin
  |int x=>cases N;cases A;exact cm I B (.int x) (fQ (by simp) hb) fin
  |str x=>cases N;cases A;exact cm I B (.str x) (fQ (by simp) hb) fin
  |lst ds=>
   cases N;obtain⟨a,G,rfl,h0,m,O⟩:=A;rcases m with m|⟨o,m⟩
   ·exact cm I B (.lst m) (fQ (by simp) hb) fin
   ·exact cm I B (.frz m) (fQ (by simp) hb) fin
  |tup ds=>
   cases N;obtain⟨a,G,rfl,m,O⟩:=A;cases B;obtain⟨its,_,p,_⟩:=I.tuple (SqT.of m);obtain⟨o,e1,e2,_⟩:=p;exact qbR qgS I.kIn ⟨o,e1,e2⟩ (fQ (by simp) hb) (λz=>nomatch z) fin
  |dct=>
   cases N;obtain⟨a,rfl,_,m⟩:=A;rcases m with⟨d,m⟩|⟨d,m⟩
   ·exact cm I B (.dK m) (fQ (by simp) hb) fin
   ·exact cm I B (.dT m) (fQ (by simp) hb) fin
  |ty x=>cases N
  |scr x=>cases N
variable {e a b:Expr}{es:List Expr}{pos:Pos}{f fa fb:Ef}{af:Af}
theorem wB {x:Str}{c:String} (hg:Gl X x) (hm:X.mg x=none) (hv:qco x=some (.type c)) (hn:x≠"__name__":=by decide) (hd:(x==("__debug__" : Str))=false:=by decide):IE K X (.Name x pos) (iC (.ty c)):=
 zn (v:=.ty c) (BL hg hm hv U hn hd) λ_ _=>rfl
def nC (g:List D->List W->Option (D×List D)) (o:Ef) (a:Af):Ef
 |env,st=>(o env st).bind λx=>(a env x.2).bind λr=>match x.1 with
 |.h n=>(lg x.2 n).bind λ_=>(lg r.2 n).bind λds=>(g ds r.1).map λy=>(.d y.1,r.2.set n (.l y.2))
 |_=>none
def gG (ds:List D):List W->Option (D×List D)
 |[.d x]=>if ds.length<1000000 then some (.non,ds++[x]) else none
 |_=>none
theorem Ds {name:Str}{id:String}{F:Pos}{rr:V->List V->Hp->VK->Prop}{g:List D->List W->Option (D×List D)} (slot:Slot "list" name id) (hty:typeOf (.builtin id)=pure (.type "method_descriptor")) (hm:MtR X id rr)
  (hg:∀ (H:Hp) (φ:List Addr) (st:Sto) (n:Nat) (ad:Addr) (ds:List D) (G:List V) (ws:List W) (E:List V) (y:D×List D) (Q:VK),Sr K H φ st->φ[n]?=some ad->lg st n=some ds->H ad=some (.lst G)->Rls K H φ ds G->Rws K H φ ws E->g ds ws=some y->
    (∀ v vs',Rl K H φ y.1 v->Rls K H φ y.2 vs'->(∀ b,v≠.ref b)->Q v (upd H ad (.lst vs')))->rr (.ref ad) E H Q)
  (hfl:∀ ds ws y,g ds ws=some y->cf y.1=true)
  (ho:IE K X a fa) (ha:IA K X (e::es) af) (L:qdD a name X.env (eval a X.env)=eval a X.env:=by rfl)
  (C:(e::es).all aC=true:=by rfl) (M:(e::es).length<30:=by decide) (J:(F.endLine==pos.line)=true:=by rfl) (P:X.K=K:=by rfl) :
  IE K X (.Call (.Attribute a name F) (e::es) [] pos) (nC g fa af):=by
 have R:=by rw[qbx,qaX]at C;exact C
 refine⟨λenv st r hr=>?_⟩;simp only[nC,qab]at hr;obtain⟨⟨x,s1⟩,hx,⟨ws,s2⟩,hw,hr⟩:=hr;cases x with
 |d x=>cases hr
 |h n=>
  simp only[qab,qad]at hr;obtain⟨ds1,hds1,ds,hds,y,hy,rfl⟩:=hr;refine (CP qgd slot hty hm (ho.run _ _ _ hx) (ha.run _ _ _ hw) L (uI C M) J (aV R.1) (bx R.2)).imp ?_
  rintro σ H Q ⟨φ,hE,hS,q⟩
  refine⟨φ,hE,hS,λv H1 φ1 f1 S1 w1=>?_⟩;obtain⟨ad,ea,rfl⟩:=w1;obtain⟨vs1,hv1,_⟩:=S1.atl n ad _ ea hds1;refine⟨.inl ⟨U,vs1,SqL.of hv1⟩,φ1,hE.fw hS f1,S1,λE H2 φ2 f2 S2 w2=>?_⟩;have ea2:=f2.get ea;obtain⟨vs2,hv2,rl2⟩:=S2.atl n ad ds ea2 hds;refine hg H2 φ2 s2 n ad ds vs2 ws E y _ S2 ea2 hds hv2 rl2 w2 hy λv vs' A r2 hb=>?_;obtain⟨f3,S3⟩:=S2.put ea2 r2;exact q v _ φ2 ((f1.trans f2).trans f3) S3 (A.fw S2 f3)
theorem i5 {F:Pos} (ho:IE K X a fa) (ha:IA K X (e::es) af) (L:qdD a "append" X.env (eval a X.env)=eval a X.env:=by rfl)
  (C:(e::es).all aC=true:=by rfl) (M:(e::es).length<30:=by decide) (J:(F.endLine==pos.line)=true:=by rfl) (P:X.K=K:=by rfl) :
  IE K X (.Call (.Attribute a "append" F) (e::es) [] pos) (nC gG fa af):=by
 refine Ds PySem.F.slot_list_append PySem.F.type_list_append yo (λH φ st n ad ds G ws E y Q S ea eds hv rl rw hy q=>?_) (λds ws y h=>?_) ho ha L C M J P
 ·match ws,hy with
  |[.d x],hy=>
   simp only[gG]at hy;split at hy
   ·rename_i hl
    cases hy;obtain⟨v,r,rfl,A,rfl⟩:=rw;exact⟨ad,G,v,U,U,hv,by rw[<-rl.length];exact qaP hl mil,q _ _ U (rl.append ⟨v,_,U,A,U⟩) (λb z=>nomatch z)⟩
   ·cases hy
 ·match ws,h with
  |[.d x],h=>
   simp only[gG]at h;split at h
   ·cases h;rfl
   ·cases h
end
section
variable {K:qae}{X:Cx}{e a b:Expr}{es:List Expr}{pos:Pos}{f fa fb:Ef}{af:Af}
theorem mw {i j:Nat}{x y:Str}{px py pt:Pos}{kt k2 pt2}
  (h:∀ Y,PA X [a,b] Y->PS X (.Assign [.Tuple [.Name x px,.Name y py] kt pt] (.Tuple [a,b] k2 pt2) pos) (F8 i j Y)) (M:IA K X [a,b] af) :
  IS K X (.Assign [.Tuple [.Name x px,.Name y py] kt pt] (.Tuple [a,b] k2 pt2) pos) (tJ i j af):=by
 refine⟨λenv st r l=>?_⟩;simp only[tJ,qab]at l;obtain⟨⟨ws,s1⟩,O,l⟩:=l;dsimp only at l;split at l
 case h_2=>cases l
 rename_i x y;cases l;refine (h _ (M.run _ _ _ O)).imp ?_
 rintro D σ H ⟨φ,E,w,q⟩
 refine⟨φ,E,w,λvs H1 B I s1 L=>?_⟩;obtain⟨v,r,rfl,r1,u,r',rfl,N,r3⟩:=L;cases r3;exact⟨v,u,U,q _ H1 B I (((E.fw w I).set i r1).set j N) s1⟩
def rL (K:qae) (st:Sto) (x y:W) (ds:List D):R2:=λR vy H Q=>∃ φ,Sr K H φ st/\Rw K H φ x R/\Rw K H φ y vy/\∀ p s,H p=none->Rls K H φ ds s->Q (.ref p) (upd H p (.lst s))
structure OpL (K:qae) (X:Cx) (f:Value->Value->Sem Value) (g:Sto->W->W->Option (List D)):Prop where
 run:∀ st x y d,g st x y=some d->OpR X f (rL K st x y d)
def tH (g:Sto->W->W->Option (List D)) (a b:Ef):Lf
 |env,st=>(a env st).bind λx=>(b env x.2).bind λy=>(g y.2 x.1 y.1).map λd=>(d,y.2)
theorem wD {op:Operator}{g:Sto->W->W->Option (List D)} (ho:OpL K X (qbQ op) g) (M:IE K X a fa) (hb:IE K X b fb):IL K X (.BinOp a op b pos) (tH g fa fb):=by
 refine⟨λenv st r l=>?_⟩;simp only[tH,qab,qad]at l;obtain⟨x,hx,y,O,d,hd,rfl⟩:=l;refine (CS (ho.run _ _ _ _ hd) (M.run _ _ _ hx) (hb.run _ _ _ O)).imp ?_
 rintro σ H Q ⟨φ,E,w,q⟩
 exact⟨φ,E,w,λv H1 B I s1 L=>⟨B,E.fw w I,s1,λu H2 J f2 T w2=>⟨J,T,L.fw s1 f2,w2,λp s P r=>q p s H2 J (I.trans f2) T P r⟩⟩⟩
def nV (_:Sto):W->W->Option (List D)
 |.d (.lst a),.d (.int k)=>if a.length<=1000/\-1000<=k/\k<1000 then some (qaC k.toNat a).flatten else none
 |_,_=>none
theorem rK:OpL K X (qbQ .Mult) nV:=by
 refine⟨λst x y d h=>?_⟩
 match x,y,h with
 |.d (.lst as),.d (.int k),h=>
  simp only[nV]at h;split at h
  ·rename_i hl
   cases h;refine xg.imp ?_
   rintro R vy H Q ⟨φ,S,⟨a,s,rfl,h0,F,C⟩,N,q⟩
   refine⟨a,k,s,U,N,F,by lia,by lia,?_,λp P=>q p _ P (C.rep _)⟩;rw[<-C.length]
   have:as.length*k.toNat<=1000*1000:=qde hl.1 (by lia)
   exact qaS this mil
  ·cases h
def u8 (x:Int):List Int->List Int
 |[]=>[x]
 |y::c=>if x<=y then x::y::c else y::u8 x c
def k8:List Int->List Int
 |[]=>[]
 |x::xs=>u8 x (k8 xs)
theorem kZ (x:Int):∀ c,(u8 x c).Perm (x::c)
 |[]=>qds _
 |y::c=>by
  unfold u8;split
  ·exact qds _
  ·exact (List.Perm.cons y (kZ x c)).trans (List.Perm.swap x y c)
theorem iy:∀ xs,(k8 xs).Perm xs
 |[]=>qds _
 |x::xs=>(kZ x _).trans (List.Perm.cons x (iy xs))
theorem lE (x:Int):∀ {c:List Int},c.Pairwise (·<=·)->(u8 x c).Pairwise (·<=·)
 |[],_=>by simp[u8]
 |y::c,h=>by
  unfold u8;split
  ·rename_i G
   refine qa4.mpr ⟨λz A=>?_,h⟩;rcases qay.mp A with rfl|A
   ·exact G
   ·exact qfM G ((qa4.mp h).1 z A)
  ·refine qa4.mpr ⟨λz A=>?_,lE x (qa4.mp h).2⟩
   rcases qay.mp ((kZ x c).mem_iff.mp A) with rfl|A
   ·lia
   ·exact (qa4.mp h).1 z A
theorem fP:∀ xs,(k8 xs).Pairwise (·<=·)
 |[]=>List.Pairwise.nil
 |x::xs=>lE x (fP xs)
theorem uH {xs c:List Int} (p:xs.Perm c) (F:xs.Pairwise (·<=·)) (C:c.Pairwise (·<=·)):xs=c:=
 qfK (λa b _ _ F C=>Int.le_antisymm F C) F C p
theorem kF:∀ {ns:List Int}{s:List Value},qct s ns->aL (ns.map V.int) s
 |_,_,.nil=>.nil
 |_,_,.cons n t h=>.cons ⟨t,U⟩ (kF h)
theorem Cd {H:Hp}{ad:Addr}{ns:List Int}{m:Fn} (hO:AS H) (w:SqL K H ad (ns.map V.int)) (h:∃ st,m [.d (.scr ns)] []=some (.d (.bl true),st)):spI K m [.ref ad] H (λv _=>v=.bl true) λ_ _ _=>False:=by
 obtain⟨st,h⟩:=h;refine⟨_,_,_,_,h,⟨_,_,U,⟨ad,U,?_⟩,U⟩,⟨qcS,U,λn a ds e=>by simp at e⟩,λv H' φ' _ _ r=>r⟩;rcases w with (h|h)|h
 ·rcases hO ad with z|⟨o,xs,z⟩
  ·rw[h]at z;cases z
  ·rw[h]at z;cases z
 ·exact .inl h
 ·exact .inr h
end
end L2
namespace L2
open PySem
theorem bH {g:Tg}{body:Sf}:∀ {ds:List D} (Pv:Nat->Ev->Sto->Prop) {env:Ev}{st:Sto},Pv 0 env st->
  (∀ i d env st,ds[i]?=some d->Pv i env st->∃ c f h,cC g (.d d) env=some c/\(body c st=some (.nx f h)\/body c st=some (.ct f h))/\Pv (i+1) f h)->
  ∃ a b,cO g body ds env st=some (.nx a b)/\Pv ds.length a b
 |[],Pv,env,st,j,_=>⟨env,st,U,j⟩
 |d::ds,Pv,env,st,j,k=>by
  obtain⟨c,f,h,r,e,n⟩:=k 0 d env st U j;obtain⟨q,s',l,o⟩:=bH _ n λi m a b hd p=>k (i+1) m a b (by simpa using hd) p;refine⟨q,s',?_,o⟩;unfold cO;rw[r,qaa];rcases e with e|e<;>(rw[e];exact l)
theorem fA {g:Tg}{tt:Tf}{te:Ef}{env:Ev}:∀ {ds:List D} (Pv:Nat->List D->Sto->Prop) {st:Sto}{ys0:List D},Pv 0 ys0 st->
  (∀ i d b st,ds[i]?=some d->Pv i b st->∃ e,cC g (.d d) env=some e/\((∃ s1 x o,tt e st=some (true,s1)/\te e s1=some (.d x,o)/\Pv (i+1) (b++[x]) o)\/∃ s1,tt e st=some (false,s1)/\Pv (i+1) b s1))->
  ∃ b a,lcI g tt te env ds st=some (b,a)/\Pv ds.length (ys0++b) a
 |[],Pv,st,ys0,m,_=>⟨_,st,U,by rw[qcv];exact m⟩
 |d::ds,Pv,st,ys0,m,h=>by
  obtain⟨e,q,f⟩:=h 0 d ys0 st U m;rcases f with⟨s1,x,o,f,r,j⟩|⟨s1,f,j⟩
  ·obtain⟨b,s',n,l⟩:=fA _ j λi k c a hd p=>h (i+1) k c a (by simpa using hd) p
   refine⟨_,s',?_,by simpa using l⟩;unfold lcI;rw[q,qaa,f,qaa,r,qaa,n];rfl
  ·obtain⟨b,s',n,l⟩:=fA _ j λi k c a hd p=>h (i+1) k c a (by simpa using hd) p
   refine⟨b,s',?_,by simpa using l⟩;unfold lcI;rw[q,qaa,f,qaa,iFN qa5,n]
theorem gm {g:Tg}{tt:Tf}{te:Ef}{env:Ev}{st:Sto} (p:D->Bool) (F:D->D):∀ {ds:List D},(∀ d∈ds,∃ a,cC g (.d d) env=some a/\tt a st=some (p d,st)/\(p d=true->te a st=some (.d (F d),st)))->
  lcI g tt te env ds st=some ((ds.filter p).map F,st)
 |[],_=>rfl
 |d::ds,h=>by
  obtain⟨a,i,c,e⟩:=h d qag;have b:=gm p F λx f=>h x (qaj _ f);unfold lcI;rw[i,qaa,c,qaa];cases hp:p d with
  |true=>rw[e hp,qaa,b,qdK,hp];rfl
  |false=>rw[b,qdK,hp];rfl
theorem ja {g:Tg}{te:Ef}{env:Ev}{st:Sto} (F:D->D) {ds:List D} (h:∀ d∈ds,∃ a,cC g (.d d) env=some a/\te a st=some (.d (F d),st)):lcI g aJ te env ds st=some (ds.map F,st):=by
 have:=gm (tt:=aJ) _ F λd hd=>by
  obtain⟨a,c,b⟩:=h d hd;exact⟨a,c,U,λ_=>b⟩
 rw[this,qhg.mpr λ_ _=>rfl]
theorem fB {a b:Int} (h:-(2^64)<a/\a<2^64):qbU a b:=AQ.ok (.inl h)
theorem fC {a b:Int} (h:-(2^64)<b/\b<2^64):qbU a b:=AQ.ok (.inr h)
theorem qA {st:Sto}{n:Nat}{v:C} (h:n<st.length):(st.set n v)[n]?=some v:=qbm h
theorem pV {α:Type} (a:α) (l:List α):atI (a::l) 0=some a:=bZ U
theorem xN {α:Type} (a b:α) (l:List α):atI (a::b::l) 1=some b:=bZ U
theorem fF {n i:Nat}{d:D} (h:(bX 0 n)[i]?=some d):d=.int (i:Int)/\i<n:=by
 rw[uE]at h;by_cases hi:i<n
 ·rw[iFP hi]at h
  cases h;exact⟨by rw[qcP],hi⟩
 ·rw[iFN hi]at h;cases h
end L2
namespace L2
open PySem PySem.Spec PyProof.Rows
def EX:Nat->Nat->StateT qb1 Sem (Option Nat):=sortPriv% PySem.Builtin.countRun
def De:Nat->Nat->Nat->StateT qb1 Sem Bool:=sortPriv% PySem.Builtin.binarySort
def Cm (prog:qaM) (w:World) (A:qaU) (s:qai) (a:qdn) (O:qfu) (rk:Keyed->O.α) (S:Keyed->Prop):Prop:=
 ∀ x y,S x->S y->∀ (Q:Bool->qai->Prop) (E:Value->qai->Prop),Q (O.blt (rk x) (rk y)) s->wpAny (model prog w) A (keyLt' a x.1 y.1) Q E s
section
variable {prog:qaM}{w:World}{A:qaU}{E:Value->qai->Prop}{s:qai}{κ:qdn}{O:qfu}{rk:Keyed->O.α}{S:Keyed->Prop}
theorem Gf (z:Cm prog w A s κ O rk S) {x y:Keyed}{st:qb1}{Q:Option Bool->qb1->Prop} (q:kindOf st=κ) (D:S x) (F:S y) (h:Q (some (O.blt (rk x) (rk y))) st) :
  wpS (model prog w) A E s (lt' x y) Q st:=by
 rw[lt'_eq];refine qbC (qhl ?_);rw[q];exact qbC (wpS_lift (qeJ (z x y D F _ _ ⟨U,qcj h⟩)))
theorem lO {c:Prop} [Decidable c] {M:Model}{A':qaU}{E':Value->qai->Prop}{s':qai}{α:Type}{a b:StateT qb1 Sem α}{Q:α->qb1->Prop}{st:qb1} (h:c) (k:wpS M A' E' s' a Q st):wpS M A' E' s' (if c then a else b) Q st:=by rw[iFP h];exact k
theorem pQ {c:Prop} [Decidable c] {M:Model}{A':qaU}{E':Value->qai->Prop}{s':qai}{α:Type}{a b:StateT qb1 Sem α}{Q:α->qb1->Prop}{st:qb1} (h:¬ c) (k:wpS M A' E' s' b Q st):wpS M A' E' s' (if c then a else b) Q st:=by rw[iFN h];exact k
theorem xG {f:Array Keyed}{i:Nat}{x:Keyed}{st:qb1}{Q:Keyed->qb1->Prop} (hi:f[i]?=some x) (h:Q x st):wpS (model prog w) A E s (elem' f i) Q st:=by
 rw[elem'_eq,hi];exact qcj h
theorem xH {t:String}{st:qb1}{Q:Unit->qb1->Prop} (h:Q () st):wpS (model prog w) A E s (liftM (rule t):StateT qb1 Sem Unit) Q st:=wpS_lift (qdM ⟨U,h⟩)
def kyd (f:Array Keyed) (i:Nat):Keyed:=(f[i]?).getD (.none,.none)
theorem nQ {f:Array Keyed}{i:Nat} (h:i<f.size):f[i]?=some (kyd f i):=by
 unfold kyd;simp[h]
theorem gh {a b:Array Keyed}{i j:Nat} (h:a[i]?=b[j]?):kyd a i=kyd b j:=by
 unfold kyd;rw[h]
theorem Cy (z:Cm prog w A s κ O rk S) {i j:Nat}{st:qb1}{Q:Option Bool->qb1->Prop} (q:kindOf st=κ) (hi:i<(arrOf st).size) (l:j<(arrOf st).size) (D:S (kyd (arrOf st) i)) (F:S (kyd (arrOf st) j))
  (h:Q (some (O.blt (rk (kyd (arrOf st) i)) (rk (kyd (arrOf st) j)))) st):wpS (model prog w) A E s (ltAt' i j) Q st:=by
 refine qbC (qhl ?_);exact qbC (xG (nQ hi) (qbC (xG (nQ l) (Gf z q D F h))))
structure SB (κ:qdn) (a0:Array Keyed) (lo:Nat) (p0:Array (Nat×Nat×Nat)) (g0:Nat) (st:qb1):Prop where
 perm:(arrOf st).Perm a0
 pre:∀ k,k<lo->(arrOf st)[k]?=a0[k]?
 kind:kindOf st=κ
 fail:qhr st=none
 pend:qe7 st=p0
 gal:qit st=g0
variable {a0:Array Keyed}{lo:Nat}{p0:Array (Nat×Nat×Nat)}{g0:Nat}{st:qb1}
theorem SB.size (h:SB κ a0 lo p0 g0 st):(arrOf st).size=a0.size:=h.perm.size_eq
theorem SB.mem (h:SB κ a0 lo p0 g0 st) (C:∀ x∈a0.toList,S x) {i:Nat} (hi:i<a0.size):S (kyd (arrOf st) i):=by
 have m:i<(arrOf st).size:=by rw[h.size];exact hi
 refine C _ ((qf8.mp h.perm).mem_iff.mp ?_);have e:=nQ m;rw[qbD m]at e;rw[<-qaL e];exact Array.getElem_mem_toList m
theorem SB.set (h:SB κ a0 lo p0 g0 st) {xs:Array Keyed} (J:xs.Perm (arrOf st)) (B:∀ k,k<lo->xs[k]?=(arrOf st)[k]?):SB κ a0 lo p0 g0 (setArr st xs):=
 ⟨J.trans h.perm,λk q=>(B k q).trans (h.pre k q),h.kind,h.fail,h.pend,h.gal⟩
theorem xF (z:Cm prog w A s κ O rk S) (C:∀ x∈a0.toList,S x) (p:SB κ a0 lo p0 g0 st) {i j:Nat}{Q:Option Bool->qb1->Prop} (hi:i<a0.size) (l:j<a0.size)
  (h:Q (some (O.blt (rk (kyd (arrOf st) i)) (rk (kyd (arrOf st) j)))) st):wpS (model prog w) A E s (ltAt' i j) Q st:=
 Cy z p.kind (by rw[p.size];exact hi) (by rw[p.size];exact l) (p.mem C hi) (p.mem C l) h
def Up (rk:Keyed->O.α) (f:Array Keyed) (lo n:Nat):Prop:=∀ i j,lo<=i->i<=j->j<lo+n->O.kle (rk (kyd f i)) (rk (kyd f j))
def jh (rk:Keyed->O.α) (f:Array Keyed) (lo n:Nat):Prop:=∀ i j,lo<=i->i<=j->j<lo+n->O.kle (rk (kyd f j)) (rk (kyd f i))
theorem jG {xs:Array Keyed}{i j:Nat} (l:j<=xs.size) (k:Nat):kyd (qjZ xs i j ((j - i) / 2)) k=if i<=k/\k<j then kyd xs (i+j - 1 - k) else kyd xs k:=by
 have e:=qif (i:=i) l k;by_cases u:i<=k/\k<j
 ·rw[iFP u]at e ⊢;exact gh e
 ·rw[iFN u]at e ⊢;exact gh e
theorem nU {xs:Array Keyed}{g d:Nat} (K:g<xs.size) (hd:d<=g) (k:Nat) :
  kyd (bubble xs g d) k=if k=g - d then kyd xs g else if g - d<k/\k<=g then kyd xs (k - 1) else kyd xs k:=by
 have e:=qj1 K d hd k;by_cases u:k=g - d
 ·rw[iFP u]at e ⊢;exact gh e
 ·rw[iFN u]at e ⊢
  by_cases G:g - d<k/\k<=g
  ·rw[iFP G]at e ⊢;exact gh e
  ·rw[iFN G]at e ⊢;exact gh e
theorem SB.rev (p:SB κ a0 lo p0 g0 st) {i j:Nat} (hi:lo<=i) (l:j<=a0.size):SB κ a0 lo p0 g0 (setArr st (qjZ (arrOf st) i j ((j - i) / 2))):=
 p.set (mirror_perm _ _ _ _) λk q=>by
  rw[qif (by rw[p.size];exact l),iFN (by lia)]
theorem iU {xs:Array Keyed}{i j:Nat} (l:j<=xs.size) (H:∀ k,i<=k->k<j->rk (kyd xs k)=rk (kyd xs (j - 1))) (k:Nat):rk (kyd (qjZ xs i j ((j - i) / 2)) k)=rk (kyd xs k):=by
 rw[jG l];split
 ·rw[H _ (by lia) (by lia),H k (by lia) (by lia)]
 ·rfl
theorem sq {i j:Nat}{Q:Unit->qb1->Prop} (h:Q () (setArr st (qjZ (arrOf st) i j ((j - i) / 2)))):wpS (model prog w) A E s (reverseSlice' i j) Q st:=by
 exact qg6 h
theorem Up.more {f:Array Keyed}{n:Nat} (h:Up rk f lo n) (u:1<=n) (B:O.kle (rk (kyd f (lo+n - 1))) (rk (kyd f (lo+n)))):Up rk f lo (n+1):=by
 intro i j hi o l;by_cases r:j<lo+n
 ·exact h i j hi o r
 ·have v:j=lo+n:=by lia
  subst v;by_cases m:i=lo+n
  ·subst m;exact qcX _
  ·exact qdH (h i _ hi (by lia) (by lia)) B
theorem jh.more {f:Array Keyed}{n:Nat} (h:jh rk f lo n) (u:1<=n) (B:O.kle (rk (kyd f (lo+n))) (rk (kyd f (lo+n - 1)))):jh rk f lo (n+1):=by
 intro i j hi o l;by_cases r:j<lo+n
 ·exact h i j hi o r
 ·have v:j=lo+n:=by lia
  subst v;by_cases m:i=lo+n
  ·subst m;exact qcX _
  ·exact qdH B (h i _ hi (by lia) (by lia))
theorem Up.one {f:Array Keyed}:Up rk f lo 1:=λi j hi o l=>by
 have:i=j:=by lia
 subst this;exact qcX _
theorem jh.congr {xs I:Array Keyed}{n:Nat} (h:jh rk xs lo n) (e:∀ k,rk (kyd I k)=rk (kyd xs k)):jh rk I lo n:=λi j hi o l=>by
 rw[e,e];exact h i j hi o l
end
section
variable {prog:qaM}{w:World}{A:qaU}{E:Value->qai->Prop}{s:qai}{D:qdn}{O:qfu}{rk:Keyed->O.α}{S:Keyed->Prop}
variable {a0:Array Keyed}{lo:Nat}{L:Array (Nat×Nat×Nat)}{K:Nat}{st:qb1}
theorem AK {o b:Nat}{f:Nat->Option (Option Nat)×Nat->StateT qb1 Sem (ForInStep (Option (Option Nat)×Nat))}{Q:Option (Option Nat)×Nat->qb1->Prop}
  (hf:∀ x n (Q':ForInStep (Option (Option Nat)×Nat)->qb1->Prop),1<=n->n < b->(O.blt (rk (kyd (arrOf st) (lo+n))) (rk (kyd (arrOf st) (lo+n - 1)))=true->Q' (.done (none,n)) st)->
    (O.blt (rk (kyd (arrOf st) (lo+n))) (rk (kyd (arrOf st) (lo+n - 1)))=false->Q' (.yield (none,n+1)) st)->wpS (model prog w) A E s (f x (none,n)) Q' st)
  (N:1<=o) (hn:o<=b) (T:Up rk (arrOf st) lo o)
  (h:∀ n,o<=n->n<=b->Up rk (arrOf st) lo n->(n=b\/O.klt (rk (kyd (arrOf st) (lo+n))) (rk (kyd (arrOf st) (lo+n - 1))))->Q (none,n) st):wpS (model prog w) A E s (forIn [o:b] (none,o) f) Q st:=by
 refine qej (I:=λx c a=>a=st/\c=(none,x)/\Up rk _ lo x) ?_ ?_ ⟨U,U,T⟩
 ·rintro x c a hx Y ⟨rfl,rfl,z⟩
  exact hf x x _ (by lia) Y (λl=>h x hx (by lia) z (.inr l)) λl=>⟨U,U,z.more (by lia) l⟩
 ·rintro c a ⟨rfl,rfl,z⟩
  rw[show max o b=b by lia]at z ⊢;exact h b hn (qan _) z (.inl U)
def Eqs (rk:Keyed->O.α) (H:Array Keyed) (lo m q:Nat):Prop:=q+1<=m/\∀ i,lo+m - (q+1)<=i->i<lo+m->rk (kyd H i)=rk (kyd H (lo+m - 1))
theorem Cw {o b:Nat}{f:Nat->Option (Option Nat)×Nat×Nat->StateT qb1 Sem (ForInStep (Option (Option Nat)×Nat×Nat))}{Q:Option (Option Nat)×Nat×Nat->qb1->Prop}
  (hf:∀ x n q a (Q':ForInStep (Option (Option Nat)×Nat×Nat)->qb1->Prop),1<=n->n < b->SB D a0 lo L K a->
    (O.blt (rk (kyd (arrOf a) (lo+n))) (rk (kyd (arrOf a) (lo+n - 1)))=true->0<q->Q' (.yield (none,n+1,0)) (setArr a (qjZ (arrOf a) (lo+n - (q+1)) (lo+n) ((lo+n - (lo+n - (q+1))) / 2))))->
    (O.blt (rk (kyd (arrOf a) (lo+n))) (rk (kyd (arrOf a) (lo+n - 1)))=true->q=0->Q' (.yield (none,n+1,0)) a)->
    (O.blt (rk (kyd (arrOf a) (lo+n - 1))) (rk (kyd (arrOf a) (lo+n)))=true->Q' (.done (none,n,q)) a)->
    (O.blt (rk (kyd (arrOf a) (lo+n))) (rk (kyd (arrOf a) (lo+n - 1)))=false->O.blt (rk (kyd (arrOf a) (lo+n - 1))) (rk (kyd (arrOf a) (lo+n)))=false->Q' (.yield (none,n+1,q+1)) a)->
    wpS (model prog w) A E s (f x (none,n,q)) Q' a)
  (N:1<=o) (hn:o<=b) (hz:lo+b<=a0.size) (t:SB D a0 lo L K st) (hd:jh rk (arrOf st) lo o)
  (h:∀ n q a,o<=n->n<=b->SB D a0 lo L K a->jh rk (arrOf a) lo n->Eqs rk (arrOf a) lo n q->Q (none,n,q) a):wpS (model prog w) A E s (forIn [o:b] (none,o,0) f) Q st:=by
 have one:∀ (H:Array Keyed) m,1<=m->Eqs rk H lo m 0:=λH m hm=>⟨by lia,λi N h2=>by rw[show i=lo+m - 1 by lia]⟩;refine qej (I:=λx c a=>∃ q,c=(none,x,q)/\SB D a0 lo L K a/\jh rk (arrOf a) lo x/\Eqs rk (arrOf a) lo x q) ?_ ?_ ⟨0,U,t,hd,one _ _ N⟩
 ·rintro x c a hx Y ⟨q,rfl,d,z,F⟩
  have G:lo+x<=(arrOf a).size:=by rw[d.size];lia
  refine hf x x q a _ (by lia) Y d (λl J=>?_) (λl J=>?_) (λl=>h x q a hx (by lia) d z F) λl M=>?_
  ·exact⟨0,U,d.rev (by have:=F.1;lia) (by lia),jh.congr (z.more (by lia) (qdu l)) (iU (rk:=rk) (xs:=arrOf a) (j:=lo+x) G F.2),one _ _ (by lia)⟩
  ·exact⟨0,U,d,z.more (by lia) (qdu l),one _ _ (by lia)⟩
  ·have eq:=qgU M l
   refine⟨_,U,d,z.more (by lia) (by rw[eq];exact qcX _),by have:=F.1;lia,λi N h2=>?_⟩;rw[show lo+_ - 1=lo+x by lia,eq];by_cases hi:i=lo+x
   ·rw[hi,eq]
   ·exact F.2 i (by lia) (by lia)
 ·rintro c a ⟨q,rfl,d,z,F⟩
  rw[show max o b=b by lia]at z F ⊢;exact h b q a hn (qan _) d z F
theorem EK {m b:Nat}{f:Nat->Option (Option Nat)×Nat->StateT qb1 Sem (ForInStep (Option (Option Nat)×Nat))}{k:Option (Option Nat)×Nat->StateT qb1 Sem (Option Nat)}{Q:Option Nat->qb1->Prop}
  (t:SB D a0 lo L K st) (hd:jh rk (arrOf st) lo m) (N:1<=m) (hm:m<=b) (hz:lo+b<=a0.size)
  (hf:∀ x n (Q':ForInStep (Option (Option Nat)×Nat)->qb1->Prop) e,SB D a0 lo L K e->1<=n->n < b->(O.blt (rk (kyd (arrOf e) (lo+n))) (rk (kyd (arrOf e) (lo+n - 1)))=true->Q' (.done (none,n)) e)->
    (O.blt (rk (kyd (arrOf e) (lo+n))) (rk (kyd (arrOf e) (lo+n - 1)))=false->Q' (.yield (none,n+1)) e)->wpS (model prog w) A E s (f x (none,n)) Q' e)
  (hk:∀ n e,SB D a0 lo L K e->1<=n->n<=b->Up rk (arrOf e) lo n->wpS (model prog w) A E s (k (none,n)) Q e) :
  wpS (model prog w) A E s (do reverseSlice' lo (lo+m);let r <-forIn [m:b] (none,m) f;k r) Q st:=by
 refine qbC (sq ?_);have v:=t.rev (j:=lo+m) (qan _) (by lia);refine qbC (AK (λx n Q' y u hy B=>hf x n Q' _ v y u hy B) N hm ?_ λn' V C hu' _=>hk n' _ v (by lia) C hu');intro i j hi hij hj;have hs3:lo+m<=(arrOf st).size:=by rw[t.size];lia
 rw[jG hs3,jG hs3,iFP (by lia),iFP (by lia)];exact hd _ _ (by lia) (by lia) (by lia)
set_option maxHeartbeats 1000000 in
theorem Cv (hC:Cm prog w A s D O rk S) (hS:∀ x∈a0.toList,S x) {b:Nat}{Q:Option Nat->qb1->Prop} (t:SB D a0 lo L K st) (N:1<=b) (hz:lo+b<=a0.size)
  (h:∀ m a,SB D a0 lo L K a->1<=m->m<=b->Up rk (arrOf a) lo m->Q (some m) a):wpS (model prog w) A E s (EX lo b) Q st:=by
 have asc:∀ a (_:SB D a0 lo L K a) n (Q':Option Bool->qb1->Prop),1<=n->n<b->Q' _ a->
   wpS (model prog w) A E s (ltAt' (lo+n) (lo+n - 1)) Q' a:=λa d n Q' N h2 J=>xF hC hS d (by lia) (by lia) J
 refine qbC (AK (rk:=rk) (lo:=lo) (λx n Q' y u hy B=>?_) (qan 1) N Up.one λn y u T X=>?_)
 ·refine qbC (asc st t n _ y u ?_)
  cases l:O.blt (rk (kyd (arrOf st) (lo+n))) _ with
  |true=>exact qcj (hy l)
  |false=>exact qcj (B l)
 dsimp only;by_cases hnn:n=b
 ·refine lO (by simpa using hnn) ?_
  exact qcj (h n st t y u T)
 refine pQ (by simpa using hnn) ?_;have P:=X.resolve_left hnn;have hn3:n+1<=b:=by lia
 have G:lo+n<=(arrOf st).size:=by rw[t.size];lia
 by_cases hgt:n > 1
 case' pos=>
  refine lO hgt ?_;refine qbC (xF hC hS t (by lia) (by lia) ?_);by_cases g:O.blt (rk (kyd (arrOf st) lo)) (rk (kyd (arrOf st) (lo+n - 1)))=true
  ·rw[g];exact qcj (h n st t y u T)
  rw[qet]at g;rw[g];have p:=λk hk1 hk2=>
   qgU (T k (lo+n - 1) hk1 (by lia) (by lia)) (qdH g (T lo k (by lia) hk1 hk2))
  refine qbC (sq ?_);have R:=t.rev (i:=lo) (j:=lo+n) (qan _) (by lia);have hd:=by
   refine jh.congr (xs:=arrOf st) (jh.more (λi j hi hij hj=>?_) (by lia) (qdu P)) (iU G p);rw[p i hi (by lia),p j (by lia) hj];exact qcX _
  clear T P g p t G X
 case' neg=>
  refine pQ hgt ?_;have R:=t;have hd:jh rk (arrOf st) lo (n+1):=by
   refine jh.more (λi j hi hij hj=>?_) (by lia) (qdu P);rw[show i=j by lia];exact qcX _
  clear T P t G X
  revert R hd
  generalize st=st2;intro R hd
 all_goals
  refine qbC (xH ?_);refine qbC (Cw (λx m q a Q' hm1 W d c1 c2 c3 c4=>?_) (by lia) hn3 hz R hd λm q a hm1 W d hd' F=>?_)
  ·refine qbC (asc a d m _ hm1 W ?_)
   cases l:O.blt (rk (kyd (arrOf a) (lo+m))) _ with
   |true=>
    dsimp only;refine lO U ?_;by_cases J:q > 0
    ·rw[iFP J];exact qbC (sq (qcj (c1 l J)))
    ·rw[iFN J];exact qcj (c2 l (by lia))
   |false=>
    dsimp only;refine qbC (xF hC hS d (by lia) (by lia) ?_);cases M:O.blt _ (rk (kyd (arrOf a) (lo+m))) with
    |true=>exact qcj (c3 M)
    |false=>exact qcj (c4 l M)
  have hsz':lo+m<=(arrOf a).size:=by rw[d.size];lia
  dsimp only;by_cases J:q > 0
  case' pos=>
   refine lO J ?_;refine qbC (sq ?_);have hB3:=d.rev (i:=lo+m - (q+1)) (j:=lo+m) (by have:=F.1;lia) (by lia);have hd3:=jh.congr hd' (iU hsz' F.2)
  case' neg=>
   refine pQ J ?_;have hB3:=d;have hd3:=hd'
  all_goals
   refine EK hB3 hd3 (by lia) W hz (λx n' Q' e v V C hy B=>?_) λn' e v a1 a2 a3=>qcj (h n' e v a1 a2 a3);refine qbC (asc e v n' _ V C ?_);cases l:O.blt (rk (kyd (arrOf e) (lo+n'))) _ with
   |true=>exact qcj (hy l)
   |false=>exact qcj (B l)
end
section
variable {prog:qaM}{w:World}{A:qaU}{E:Value->qai->Prop}{s:qai}{t:qdn}{O:qfu}{rk:Keyed->O.α}{S:Keyed->Prop}
variable {a0:Array Keyed}{lo:Nat}{B:Array (Nat×Nat×Nat)}{C:Nat}{st:qb1}
set_option maxHeartbeats 1000000 in
theorem AL (G:Cm prog w A s t O rk S) (H:∀ x∈a0.toList,S x) {n ok:Nat}{Q:Bool->qb1->Prop} (M:SB t a0 lo B C st) (u:1<=ok) (hok:ok<=n) (V:lo+n<=a0.size) (J:Up rk (arrOf st) lo ok)
  (h:∀ a,SB t a0 lo B C a->Up rk (arrOf a) lo n->Q true a):wpS (model prog w) A E s (De lo n ok) Q st:=by
 refine qbC (qio (qej (I:=λk c a=>c=(none,())/\SB t a0 lo B C a/\Up rk (arrOf a) lo (min k n)) (Q:=λc a=>c=(none,())/\SB t a0 lo B C a/\Up rk (arrOf a) lo n) ?_ ?_ ?_) ?_)
 ·rintro k c a T N ⟨rfl,d,o⟩
  dsimp only
  refine qbC (qio (qej (I:=λx c b=>b=a/\∃ l r,c=(none,l,r)/\l<=r/\r<=k/\r - l<=k - x/\(∀ i,i < l->O.kle (rk (kyd (arrOf a) (lo+i))) (rk (kyd (arrOf a) (lo+k))))/\
    ∀ i,r<=i->i<k->O.klt (rk (kyd (arrOf a) (lo+k))) (rk (kyd (arrOf a) (lo+i))))
   (Q:=λc b=>b=a/\∃ l r,c=(none,l,r)/\l<=k/\(∀ i,i<l->O.kle (rk (kyd (arrOf a) (lo+i))) (rk (kyd (arrOf a) (lo+k))))/\∀ i,l<=i->i<k->O.klt (rk (kyd (arrOf a) (lo+k))) (rk (kyd (arrOf a) (lo+i)))) ?_ ?_ ?_) ?_)
  ·rintro x c b _ P ⟨rfl,l,r,rfl,F,q,hm,f,g⟩
   dsimp only;by_cases y:l>=r
   ·refine lO y ?_
    have e:l=r:=by lia
    subst e;exact qcj ⟨U,l,l,U,q,f,g⟩
   ·refine pQ y ?_
    refine qbC (xF G H d (by lia) (by lia) ?_);cases hl:O.blt (rk (kyd (arrOf b) (lo+k))) _ with
    |true=>exact qcj ⟨U,l,(l+r) / 2,U,by lia,by lia,by lia,f,λi u D=>KeyOrd.klt_of_klt_of_kle hl (o _ _ (by lia) (by lia) (by lia))⟩
    |false=>exact qcj ⟨U,(l+r) / 2+1,r,U,by lia,by lia,by lia,λi u=>qdH (o (lo+i) (lo+(l+r) / 2) (by lia) (by lia) (by lia)) hl,g⟩
  ·rintro c b ⟨rfl,l,r,rfl,F,q,hm,f,g⟩
   have e:l=r:=by lia
   subst e;exact⟨U,l,l,U,q,f,g⟩
  ·exact⟨U,0,k,U,by lia,by lia,by lia,λi hi=>by lia,λi u D=>by lia⟩
  ·rintro c b ⟨rfl,l,r,rfl,L,f,g⟩
   dsimp only;refine qbC (m:=moveDown' (lo+k) (lo+l)) ?_;rw[moveDown'_eq];have p:lo+k<(arrOf b).size:=by rw[d.size];lia
   refine qg6 (qcj ⟨U,d.set (bubble_perm _ _ _) λi hi=>?_,?_⟩)
   ·rw[qj1 p _ (by lia),iFN (by lia),iFN (by lia)]
   ·intro i j hi K R
    rw[nU p (by lia),nU p (by lia),show lo+k - (lo+k - (lo+l))=lo+l by lia];have v:∀ i,lo<=i->i<lo+l->O.kle (rk (kyd (arrOf b) i)) (rk (kyd (arrOf b) (lo+k))):=λi u D=>by
     have:=f (i - lo) (by lia);rwa [show lo+(i - lo)=i by lia]at this
    have z:∀ i,lo+l<=i->i<lo+k->O.klt (rk (kyd (arrOf b) (lo+k))) (rk (kyd (arrOf b) i)):=λi u D=>by
     have:=g (i - lo) (by lia) (by lia);rwa [show lo+(i - lo)=i by lia]at this
    repeat' split
    all_goals first
     |(exfalso;lia)
     |exact qcX _
     |exact v _ (by lia) (by lia)
     |exact qdu (z _ (by lia) (by lia))
     |exact o _ _ (by lia) (by lia) (by lia)
 ·rintro c a ⟨rfl,d,o⟩
  rw[show min (max (max ok 1) n) n=n by lia]at o;exact⟨U,d,o⟩
 ·rw[show max ok 1=ok by lia,show min ok n=ok by lia]
  exact⟨U,M,J⟩
 ·rintro c a ⟨rfl,d,o⟩
  exact qcj (h a d o)
end
section
variable {O:qfu}{rk:Keyed->O.α}
variable {a b c:Array Keyed}{e d:Nat}
variable {na f:Nat}
end
section
variable {prog:qaM}{w:World}{A:qaU}{E:Value->qai->Prop}{s:qai}{c:qdn}{O:qfu}{rk:Keyed->O.α}{S:Keyed->Prop}{st:qb1}{a b:Array Keyed}
end
section
variable {prog:qaM}{w:World}{A:qaU}{E:Value->qai->Prop}{s:qai}{d:qdn}{O:qfu}{rk:Keyed->O.α}{S:Keyed->Prop}{st:qb1}{a b c:Array Keyed}{na e:Nat}
end
section
variable {prog:qaM}{w:World}{A:qaU}{E:Value->qai->Prop}{s:qai}{n:qdn}{O:qfu}{rk:Keyed->O.α}{S:Keyed->Prop}{st:qb1}{k:Array Keyed}{m l:Nat}
theorem Gc {a:Array Keyed} (h:Up rk a 0 a.size):a.toList.Pairwise λx y=>O.kle (rk x) (rk y):=by
 rw[List.pairwise_iff_getElem];intro i j hi g f;have b:=by simpa using hi
 have c:=by simpa using g
 have q:=h i j (qby _) (by lia) (by lia);have e:=nQ b;have d:=nQ c;rw[qbD b]at e;rw[qbD c]at d;rw[<-qaL e,<-qaL d]at q;simpa using q
end
section
variable {prog:qaM}{w:World}{A:qaU}{E:Value->qai->Prop}{s:qai}{κ:qdn}{O:qfu}{rk:Keyed->O.α}{S:Keyed->Prop}{st:qb1}{a0:Array Keyed}
structure Da (κ:qdn) (O:qfu) (rk:Keyed->O.α) (a0:Array Keyed) (n1:Nat) (st:qb1):Prop where
 perm:(arrOf st).Perm a0
 kind:kindOf st=κ
 fail:qhr st=none
 pend:qe7 st=#[(0,n1,0)]
 up:Up rk (arrOf st) 0 n1
theorem Fy {n:Nat} (B:2<=n) (j:n<64):minRun' n n 0=n:=by
 obtain⟨f,rfl⟩:∃ f,n=f+1:=⟨n - 1,by lia⟩;rw[minRun'_succ,iFP (by lia)]
set_option maxHeartbeats 2000000 in
theorem Cz (v:Cm prog w A s κ O rk S) {Q:Unit->qb1->Prop} (D:kindOf st=κ) (C:qhr st=none) (L:qe7 st=#[]) (p:arrOf st=a0) (z:∀ x∈a0.toList,S x) (B:2<=a0.size) (j:a0.size<64)
  (h:∀ a,(arrOf a).toList.Perm a0.toList->(arrOf a).toList.Pairwise (λx y=>O.kle (rk x) (rk y))->qhr a=none->Q () a):wpS (model prog w) A E s sortRuns' Q st:=by
 obtain⟨k,q,G⟩:∃ k,(sortPriv% PySem.Builtin.minRun) a0.size a0.size 0=k/\k=a0.size:=⟨_,U,Fy B j⟩;refine qbC (qhl ?_);have K:(arrOf st).size=a0.size:=by rw[p]
 dsimp only;rw[K,q]
 refine qbC (qio (qej (I:=λx c a=>(x=0/\c=(none,0)/\SB κ a0 0 #[] (qit st) a)\/(c=(none,a0.size)/\Da κ O rk a0 a0.size a/\1<=x))
  (Q:=λc a=>c.1=none/\Da κ O rk a0 a0.size a) ?_ ?_ ?_) ?_)
 ·rintro x c a _ F H
  rcases H with⟨rfl,rfl,M⟩|⟨rfl,g,r⟩
  ·refine pQ (by lia) ?_
   refine qbC (Cv v z M (by lia) (by lia) λm b i J m2 u=>?_);have put:∀ n d,SB κ a0 0 #[] (qit st) d->Up rk _ 0 n->n=a0.size->
     Da κ O rk a0 a0.size (qiS _ _ ((qe7 d).push (0,n,0)) (qit d) _):=λn d e o hn=>
    ⟨e.perm,e.kind,e.fail,by rw[e.pend,hn];rfl,by rw[<-hn];exact o⟩
   by_cases l:m<k
   ·refine lO l ?_
    refine qbC (xH (qbC (AL v z i J (by lia) (by lia) u λd e o=>?_)));have hn:min (a0.size - 0) k=a0.size:=by lia
    refine qbC (qhl ?_);have hb:(qe7 d).back?=none:=by rw[e.pend];rfl
    rw[hb];exact qbC (qg6 (qcj (.inr ⟨by rw[qbj,hn],(put _ d e o hn),by lia⟩)))
   ·refine pQ l ?_
    have hn:m=a0.size:=by lia
    refine qbC (qhl ?_);have hb:(qe7 b).back?=none:=by rw[i.pend];rfl
    rw[hb];exact qbC (qg6 (qcj (.inr ⟨by rw[qbj,hn],(put m b i u hn),by lia⟩)))
  ·refine lO (qan _) ?_
   exact qcj ⟨U,g⟩
 ·rintro c a (⟨F,_⟩|⟨rfl,g,r⟩)
  ·lia
  ·exact⟨U,g⟩
 ·exact .inl ⟨U,U,by rw[p],λ_ _=>by rw[p],D,C,L,U⟩
 ·rintro⟨c1,c2⟩ a ⟨rfl,g⟩
  refine qbC (qio (qej (I:=λy c b=>c=(none,())/\b=a) (Q:=λc b=>c=(none,())/\b=a) ?_ ?_ ?_) ?_)
  ·rintro y c b _ N ⟨rfl,rfl⟩
   refine qbC (qhl ?_);have t:(qe7 b).size<=1:=by rw[g.pend];exact qan 1
   refine lO t ?_;exact qcj ⟨U,U⟩
  ·rintro c b ⟨rfl,rfl⟩
   exact⟨U,U⟩
  ·exact⟨U,U⟩
  ·rintro c b ⟨rfl,rfl⟩
   exact qcj (h _ (qf8.mp g.perm) (Gc (by rw[g.perm.size_eq];exact g.up)) g.fail)
end
end L2
namespace L2
open PySem PySem.Spec PyProof.Rows PySem.SeqAt
open MeetsSeq MeetsSeq2 MeetsSeq3 SeqRoads2
open AutoSeq1 (wpAny_loadPart')
def oQ (A:qaU) (s:qai) (y x:Value) (b:Bool):Prop:=∀ (prog:qaM) (w:World) (E:Value->qai->Prop) (Q:Value->qai->Prop),Q (.bool b) s->wpAny (model prog w) A (richCompare .Lt y x) Q E s
def n5 (e l:Nat->Bool) (fin:Bool):Nat->Nat->Bool
 |0,_=>fin
 |k+1,i=>if e i=true then n5 e l fin k (i+1) else l i
theorem oH (p q:Addr) (a c:Array Value) (n P:Nat) (O E:Option Addr) (Q D:Array (Option Value)) (e l:Nat->Bool) :
  Meets (qff.«tuple.__lt__» ⟨[.ref p,.ref q],[]⟩)
   (λA R s=>(s.heap.get? p=some ⟨.type "tuple",O,.seq a n,Q⟩/\s.heap.get? q=some ⟨.type "tuple",E,.seq c P,D⟩)/\
     (∀ j (I:j<a.size) (K:j<c.size),EqAt A.in1 s a[j] c[j] (e j)/\(e j=false->oQ A.in1 s a[j] c[j] (l j)))/\
     R (.ok (.ret (.bool (n5 e l (decide (a.size<c.size)) (min a.size c.size) 0)))) s):=
 .of_wp λprog w A R s h=>by
  obtain⟨F,g,d,G,os⟩:=s;obtain⟨⟨I,K⟩,L,h⟩:=h;have W:=qf0;have C:(a.toList.zip c.toList).length=min a.size c.size:=by simp
  wp_walk using wpAny_loadPart' I,wpAny_loadPart' K,qi9 _ (λm b s'=>b.1=none/\s'=⟨F,g,d,G,os⟩/\∃ i,i<=min a.size c.size/\m=(a.toList.zip c.toList).drop i/\
   R (.ok (.ret (.bool (n5 e l (decide (a.size<c.size)) (min a.size c.size - i) i)))) ⟨F,g,d,G,os⟩) _
  case turn=>
   rintro⟨y,x⟩ m b s' ⟨o,rfl,i,hi,r,v⟩
   have B:i<(a.toList.zip c.toList).length:=by
    rcases qfG i (a.toList.zip c.toList).length with h'|h'
    ·exact h'
    ·rw[List.drop_of_length_le h']at r;cases r
   rw[C]at B;have J:i<a.size:=by lia
   have H:i<c.size:=by lia
   rw[qdb (by rw[C];exact B)]at r;injection r with z t;have u:y=a[i]:=by have:=congrArg qc5 z;simpa using this
   have M:x=c[i]:=by have:=congrArg qcF z;simpa using this
   subst u M;obtain⟨k,N⟩:∃ k,min a.size c.size - i=k+1:=⟨min a.size c.size - i - 1,by lia⟩;rw[N]at v;have f:R (.ok (.ret (.bool (if e i=true then n5 e l (decide (a.size<c.size)) k (i+1) else l i)))) ⟨F,g,d,G,os⟩:=v;refine qac ((L i J H).1 prog w _ _ ?_);cases u:e i with
   |true=>
    rw[u,iFP U]at f
    wp_walk
    exact⟨U,U,i+1,by lia,t,by rw[show min a.size c.size - (i+1)=k by lia];exact f⟩
   |false=>
    rw[u,iFN (by simp)]at f;simp only[Bool.not_false,if_true];refine qac (qdM ?_);refine qac ((L i J H).2 u prog w _ _ ?_)
    wp_walk
    exact⟨_,U,f⟩
  case fin=>
   rintro⟨V,T⟩ s' ⟨o,rfl,i,hi,r,v⟩
   simp only at o
   subst o;have S:min a.size c.size<=i:=by
    rcases qfG i (a.toList.zip c.toList).length with h'|h'
    ·rw[qdb h']at r;cases r
    ·rw[C]at h';exact h'
   rw[show min a.size c.size - i=0 by lia]at v
   wp_walk
   exact⟨_,U,by simpa [qeB,n5] using v⟩
  case h=>exact⟨U,U,0,qby _,U,h⟩
section
variable {A:qaU}{s:qai}{p q:Addr}{b a:Array Value}{e l:Nat->Bool}
theorem oQ.tuples (u:s.heap.IsTuple p b) (hb:s.heap.IsTuple q a) (y:A.units<cLine) (v:∀ j (C:j<b.size) (B:j<a.size),EqAt A.in1 s b[j] a[j] (e j)/\(e j=false->oQ A.in1 s b[j] a[j] (l j))) :
  oQ A s (.ref p) (.ref q) (n5 e l (decide (b.size<a.size)) (min b.size a.size) 0):=λprog w E Q h=>by
 obtain⟨⟨cls,o,data,r⟩,m,z,n,hd⟩:=id u;obtain⟨⟨k,d,data2,i⟩,c,g,t,f⟩:=id hb;subst z hd g f;exact qhA ⟨_,m,U⟩ ⟨_,c,U⟩ qdx qeh (qec _ _) (oH p q b a n t o d r i e l)
  ⟨⟨m,c⟩,v,(λx=>nomatch x),h⟩ y
end
end L2
namespace L2
open PySem PySem.Spec PyProof.Rows PySem.SeqAt PySem.W
def bB:List Int->List Int->Bool
 |[],[]=>false
 |[],_::_=>true
 |_::_,[]=>false
 |a::as,b::bs=>if a=b then bB as bs else decide (a<b)
theorem ub:∀ a,bB a a=false
 |[]=>rfl
 |a::as=>by unfold bB;rw[iFP U];exact ub as
theorem iG:∀ a b,bB a b=false->bB b a=false->a=b
 |[],[],_,_=>rfl
 |[],_::_,h,_=>by cases h
 |_::_,[],_,h=>by cases h
 |a::as,b::bs,h,h'=>by
  unfold bB at h h';by_cases e:a=b
  ·subst e
   rw[iFP U]at h h';rw[iG as bs h h']
  ·lia
theorem rj:∀ a b c,bB a b=true->bB b c=true->bB a c=true
 |[],[],_,h,_=>by cases h
 |[],_::_,[],_,h=>by cases h
 |[],_::_,_::_,_,_=>rfl
 |_::_,[],_,h,_=>by cases h
 |_::_,_::_,[],_,h=>by cases h
 |a::as,b::bs,c::f,h,h'=>by
  unfold bB at h h' ⊢;by_cases e:a=b
  ·subst e
   rw[iFP U]at h;by_cases d:a=c
   ·subst d;rw[iFP U]at h' ⊢;exact rj as bs f h h'
   ·rw[iFN d]at h' ⊢;exact h'
  ·rw[iFN e,decide_eq_true_iff]at h
   by_cases d:b=c
   ·subst d;rw[iFN e,decide_eq_true_iff];exact h
   ·lia
theorem zB:∀ a b c,bB a c=true->bB a b=true\/bB b c=true
 |a,b,c,h=>by
  by_cases e:bB a b=true
  ·exact .inl e
  ·rw[qet]at e
   by_cases d:bB b a=true
   ·exact .inr (rj b a c d h)
   ·rw[qet]at d
    rw[iG a b e d]at h;exact .inr h
def OI:qfu:=⟨List Int,bB,ub,rj,zB,iG⟩
def TuI (h:Heap) (v:Value) (l:List Int):Prop:=∃ a b,v=.ref a/\h.IsTuple a b/\qct b.toList l
def cx:Value->Int
 |.int n _=>n
 |_=>0
def tuI (h:Heap):Value->List Int
 |.ref a=>match h.get? a with
  |some o=>match o.data with
   |.seq b _=>b.toList.map cx
   |_=>[]
  |none=>[]
 |_=>[]
theorem nO:∀ {a:List Value}{l:List Int},qct a l->a.map cx=l
 |_,_,.nil=>rfl
 |_,_,.cons n t h=>by rw[qas,nO h];rfl
theorem cW:∀ {a:List Value}{l:List Int},qct a l->a.length=l.length
 |_,_,.nil=>rfl
 |_,_,.cons n t h=>by rw[qap,qap,cW h]
theorem gD:∀ {a:List Value}{l:List Int},qct a l->∀ (j:Nat) (h:j<a.length),∃ t,a[j]=.int (l.getD j 0) t
 |_,_,.nil,j,h=>absurd h (qcL j)
 |_,_,.cons n t b,0,h=>⟨t,U⟩
 |_,_,.cons n t b,j+1,h=>by
  obtain⟨t',e⟩:=gD b j _;exact⟨t',by simpa using e⟩
theorem TuI.is {h:Heap}{v:Value}{l:List Int} (t:TuI h v l):tuI h v=l:=by
 obtain⟨a,c,rfl,⟨o,b,d,n,hd⟩,hi⟩:=t;simp only[tuI,b,hd];exact nO hi
theorem TuI.fit {h h':Heap}{v:Value}{l:List Int} (t:TuI h v l) (e:∀ b o,h.get? b=some o->h'.get? b=some o):TuI h' v l:=by
 obtain⟨a,c,rfl,⟨o,d,r⟩,hi⟩:=t;exact⟨a,c,U,⟨o,e _ _ d,r⟩,hi⟩
theorem n6:∀ (l m:List Int) (i:Nat) (e f:Nat->Bool),(∀ j,j<l.length->j<m.length->e (i+j)=decide (l.getD j 0=m.getD j 0)/\f (i+j)=decide (l.getD j 0<m.getD j 0))->
  n5 e f (decide (l.length<m.length)) (min l.length m.length) i=bB l m
 |[],[],i,e,f,_=>by simp[n5,bB]
 |[],b::m,i,e,f,_=>by simp[n5,bB]
 |a::l,[],i,e,f,_=>by simp[n5,bB]
 |a::l,b::m,i,e,f,h=>by
  have c:=h 0 (by simp) (by simp);rw[qap,qap,show min _ _=min l.length m.length+1 by lia];have g:decide (l.length+1<m.length+1)=decide (l.length<m.length):=by simp
  rw[g];show (if e i=true then n5 e f _ _ _ else f i)=if a=b then bB l m else decide _;rw[qg2]at c;rw[c.1,c.2];by_cases q:a=b
  ·subst q
   simp only[qaO,decide_true,if_true];exact n6 l m _ e f λj k d=>by
    have:=h (j+1) (by simpa using k) (by simpa using d)
    rw[show i+1+j=i+(j+1) by lia];simpa using this
  ·simp[q]
section
variable {prog:qaM}{w:World}{A:qaU}{E:Value->qai->Prop}{s:qai}{x y:Value}{l m:List Int}
theorem oQ.ints {a b:Int}{t u:Tok}:oQ A s (.int a t) (.int b u) (decide (a<b)):=λprog w E Q h=>qel h
theorem EqAt.ints {a b:Int}{t u:Tok}:EqAt A s (.int a t) (.int b u) (decide (a=b)):=by
 exact (u5 (A:=A) (s:=s) (y:=.int a) (x:=.int b) ⟨t,U⟩ ⟨u,U⟩ U U)
theorem TuI.lt (B:TuI s.heap x l) (ty:TuI s.heap y m) (L:A.units<cLine):oQ A s x y (bB l m):=by
 obtain⟨a,d,rfl,C,k⟩:=B;obtain⟨b,f,rfl,D,g⟩:=ty;have I:d.size=l.length:=by exact cW k
 have F:f.size=m.length:=by exact cW g
 have z:=oQ.tuples C D L λj V S=>by
  obtain⟨t,G⟩:=gD k j _;obtain⟨t',J⟩:=gD g j _;rw[qdL]at G J;rw[G,J];exact⟨EqAt.ints,λ_=>oQ.ints⟩
 rw[I,F,n6 l m 0 _ _ λj C D=>by rw[qbj];exact⟨U,U⟩]at z;exact z
theorem TuI.one (B:TuI s.heap x l) (ty:TuI s.heap y m) (L:A.units<cLine) {Q:Bool->qai->Prop} (h:Q (bB l m) s) (b:Bool):wpAny (model prog w) A (oneLt' b x y) Q E s:=by
 cases b with
 |false=>exact kat_one _ _ (B.lt ty L _ _ _ _ h)
 |true=>
  refine qac (wpAny_cRoomFor L ?_);obtain⟨a,d,rfl,C,k⟩:=id B;obtain⟨c,f,rfl,D,g⟩:=id ty;obtain⟨⟨cls,T,data,W⟩,H,O,n,hd⟩:=id C;obtain⟨⟨R,N,data2,M⟩,v,K,P,q⟩:=id D;subst O hd K q;have I:d.size=l.length:=by exact cW k
  have F:f.size=m.length:=by exact cW g
  refine qac (wpAny_callSpecialIfBound?_slot ⟨_,H,U⟩ qdx (qdd qdx ⟨_,H,U⟩ qeh (qec _ _)
   (oH a c d f n P T N W M (λj=>decide (l.getD j 0=m.getD j 0)) λj=>decide (l.getD j 0<m.getD j 0)) ⟨⟨H,v⟩,λj V S=>?_,?_⟩))
  ·obtain⟨t,G⟩:=gD k j _
   obtain⟨t',J⟩:=gD g j _;rw[qdL]at G J;rw[G,J];exact⟨EqAt.ints,λ_=>oQ.ints⟩
  ·rw[I,F,n6 l m 0 _ _ λj C D=>by rw[qbj];exact⟨U,U⟩]
   exact qce h
theorem zC {Q:Bool->qai->Prop}{fin:Bool}:∀ {d f:List Value}{l m:List Int} (i:Nat),qct d l->qct f m->(fin=decide (l.length<m.length))->Q (bB l m) s->KatLex prog w A true fin Q (d.zip f) i s
 |_,_,_,_,i,.nil,.nil,p,h=>kat_nil (by rw[p];exact h)
 |_,_,_,_,i,.nil,.cons n t r,p,h=>kat_nil (by rw[p];simpa [bB] using h)
 |_,_,_,_,i,.cons n t r,.nil,p,h=>kat_nil (by rw[p];simpa [bB] using h)
 |_,_,_,_,i,.cons a t r,.cons b u r',p,h=>by
  refine kat_cons (EqAt.ints prog w _ _ ?_);unfold bB at h;by_cases e:a=b
  ·subst e
   rw[iFP U]at h;rw[decide_eq_true U];exact kat_yes (zC _ r r' (by rw[p];simp) h)
  ·rw[iFN e]at h
   rw[decide_eq_false e];refine kat_no ?_;cases (true&&i==0) with
   |true=>exact oneLt_int h
   |false=>exact kat_one _ _ (qel h)
theorem TuI.tups (B:TuI s.heap x l) (ty:TuI s.heap y m) {Q:Bool->qai->Prop} (h:Q (bB l m) s):wpAny (model prog w) A (keyLt' (tuples' true) x y) Q E s:=by
 obtain⟨a,d,rfl,⟨o,H,O,n,hd⟩,k⟩:=B;obtain⟨c,f,rfl,⟨X,v,K,P,q⟩,g⟩:=ty;have I:d.size=l.length:=by exact cW k
 have F:f.size=m.length:=by exact cW g
 exact kat_lt H hd v q (zC 0 k g (by rw[I,F]) h)
end
section
variable {prog:qaM}{w:World}{A:qaU}{E:Value->qai->Prop}{s:qai}{O:qfu}{rk:Keyed->O.α}{S:Keyed->Prop}{c:List Value}
theorem uS:∀ (c:List Value),c.zip c=c.map λv=>(v,v)
 |[]=>rfl
 |v::c=>by rw[qdp,uS c];rfl
theorem Ei {α M:Type}{f:α->M}{R:M->M->Prop}:∀ {c:List α},c.toArray.size<2->(c.map f).Pairwise R
 |[],_=>List.Pairwise.nil
 |[v],_=>qgz _ _
 |_::_::_,h=>absurd h (by simp)
set_option maxHeartbeats 1000000 in
theorem pL {a:Addr}{n:Nat}{P:PySem.Fin->qai->Prop} (G:s.heap.get? a=some (qfR "list" c.toArray n)) (z:c.length<64)
  (p:∀ h',(∀ b o,b≠a->s.heap.get? b=some o->h'.get? b=some o)->∃ r,(2<=c.length->∀ (Q':qdn->qai->Prop) E',Q' r { s with heap:=h' }->wpAny (model prog w) A (qis c.toArray) Q' E' { s with heap:=h' })/\Cm prog w A { s with heap:=h' } r O rk S)
  (H:∀ v∈c,S (v,v))
  (h:∀ d:List Value,d.Perm c->d.Pairwise (λx y=>O.kle (rk (x,x)) (rk (y,y)))->P (.done (.ret .none)) { s with heap:=sortedHeap s.heap a c d.toArray }) :
  wpAny (model prog w) A (qff.«list.sort» ⟨[.ref a],[]⟩) P E s:=by
 rw[list_sort_plain];have J:c.toArray.size=c.length:=by simp
 refine qac (listItems_at G U ?_);refine qac (qhq G U ?_ (by rw[J,qc8];lia));obtain⟨X,B⟩:∃ X,(s.heap.update a (qcT λ_=>#[])).get? a=some (qfR "list" #[] X):=⟨_,get?_update_seq G (λ_=>#[])⟩
 refine qac (qid B U ?_);refine qac (qkc ?_ (by rw[qc8];show c.toArray.toList.length<=_;simp;lia));refine qac (qfQ ?_);refine qcl ?_;have V:(s.heap.update a (qcT λ_=>(#[]:Array Value))).objs.size=s.heap.objs.size:=qh2 ..;have i:∀ b o,b<s.heap.objs.size->(s.heap.update a (qcT λ_=>(#[]:Array Value))).get? b=some o->
   (((s.heap.update a (qcT λ_=>#[])).push (qfR "tuple" c.toArray 0)).push (qfR "list" #[] 0)).get? b=some o:=λb o hb q=>by
  rw[qdA _ _ _ (qaA (by rw[qiN,V];exact qa1 hb)),qdA _ _ _ (qaA (by rw[V];exact hb))];exact q
 have j:=i a _ (qau G) B;obtain⟨r,L,Y⟩:=p _ λb o hb q=>
  i b o (qau q) (by rw[qhj _ _ _ _ hb];exact q)
 have pt:(c.toArray.zip c.toArray).toList=c.map λv=>(v,v):=by rw[<-uS];simp
 have fin:∀ g:qb1,(arrOf g).toList.Perm (c.map λv=>(v,v))->(arrOf g).toList.Pairwise (λx y=>O.kle (rk x) (rk y))->∃ d:List Value,d.length=c.length/\(arrOf g).map (·.2)=d.toArray/\P (.done (.ret .none)) { s with heap:=sortedHeap s.heap a c d.toArray }:=λg D m=>by
  refine⟨(arrOf g).toList.map (·.2),by rw[qaf,D.length_eq,qaf],by apply Array.toList_inj.mp;simp,h _ ?_ ?_⟩
  ·have:=D.map (·.2)
   rw[qaG]at this;have e:(c.map ((λx=>x.2) ∘ λv=>((v,v):Keyed)))=c:=by rw[show ((λx:Keyed=>x.2) ∘ λv=>((v,v):Keyed))=id from U,qf3]
   rw[e]at this;exact this
  ·rw[qcI]
   refine m.imp_of_mem λ{x y} C hy q=>?_;have dx:x=(x.2,x.2):=by obtain⟨v,_,rfl⟩:=qaz.mp (D.mem_iff.mp C);rfl
   have dy:y=(y.2,y.2):=by obtain⟨v,_,rfl⟩:=qaz.mp (D.mem_iff.mp hy);rfl
   rw[<-dx,<-dy];exact q
 dsimp only;by_cases m:c.toArray.size<2
 ·rw[iFP m,iFP m]
  refine qac (qaq ?_);rw[StateT.run_pure];refine qac (qaq ?_);dsimp only;obtain⟨d,q0,N,K⟩:=fin (qiS general' (c.toArray.zip c.toArray) #[] 7 none) (by rw[pt]) (by rw[pt];exact Ei m);refine qac (qid j U ?_);rw[N];refine qac (qhq j U ?_);simp only[bne_self_eq_false,qbk,if_false];exact qaq K
 ·rw[iFN m,iFN m]
  refine qac (L (by lia) _ _ ?_)
  refine qac (qcA (Cz Y (a0:=c.toArray.zip c.toArray) (Q:=λ_ g=>(arrOf g).toList.Perm (c.map λv=>(v,v))/\(arrOf g).toList.Pairwise (λx y=>O.kle (rk x) (rk y))/\qhr g=none)
   rfl U U U (λx C=>?_) (by simp;lia) (by simp;lia) λg t a2 I=>⟨by rw[<-pt];exact t,a2,I⟩) ?_ λ_ _ e=>e)
  ·rw[pt]at C
   obtain⟨v,hv,rfl⟩:=qaz.mp C;exact H v hv
  rintro⟨⟨⟩,g⟩ s' ⟨rfl,t,a2,I⟩
  dsimp only;obtain⟨d,q0,N,K⟩:=fin g t a2;refine qac (qid j U ?_);rw[N];refine qac (qhq j U ?_);rw[I];simp only[bne_self_eq_false,qbk,if_false];exact qaq K
theorem oE {l:Addr}{Q:Value->qai->Prop} (hl:s.heap.IsList l c.toArray) (z:c.length<64)
  (p:∀ h',(∀ b o,s.heap.get? b=some o->h'.get? b=some o)->∃ r,(2<=c.length->∀ (Q':qdn->qai->Prop) E',Q' r { s with heap:=h' }->wpAny (model prog w) A.in1.in1 (qis c.toArray) Q' E' { s with heap:=h' })/\Cm prog w A.in1.in1 { s with heap:=h' } r O rk S)
  (H:∀ v∈c,S (v,v))
  (h:∀ d:List Value,d.Perm c->d.Pairwise (λx y=>O.kle (rk (x,x)) (rk (y,y)))->Q (.ref (s.heap.objs.size+1)) { s with heap:=qjW s.heap c d.toArray }) :
  wpAny (model prog w) A (call (.builtin "sorted") [.ref l]) Q E s:=by
 refine qgj kind_sorted plain_sorted entry_sorted (args_sorted1 _) ?_;refine qac (qaq ?_);refine qac (collect_list hl ?_ (by rw[qc8];lia));refine qac (qfQ ?_ (by rw[qc8];lia));have F:((s.heap.push (qfR "list" #[] 0)).update s.heap.objs.size (qcT (·++c.toArray))).objs.size=s.heap.objs.size+1:=by rw[qh2,qiN]
 generalize T:((s.heap.push _).update s.heap.objs.size _)=W at F ⊢;have u:(W.push (qfR "list" c.toArray 0)).get? (s.heap.objs.size+1)=some (qfR "list" c.toArray 0):=by
  rw[<-F];exact qat _ U
 have keep:∀ b o,s.heap.get? b=some o->b≠s.heap.objs.size+1/\(W.push (qfR "list" c.toArray 0)).get? b=some o:=λb o q=>by
  have k:=qau q;refine⟨qaA (qa1 k),?_⟩;rw[qdA _ _ _ (qaA (by rw[F];exact qa1 k)),<-T,qhj _ _ _ _ (qaA k),qdA _ _ _ (qaA k)];exact q
 rw[F];refine qac (qcl (qbY qkf ⟨_,u,U⟩ qj2 (pL u z (λh' hk=>p h' λb o q=>hk b o (keep b o q).1 (keep b o q).2) H λd t a2=>⟨_,U,?_⟩) (qkl _)));refine qaq ⟨_,U,?_⟩
 have:=h d t a2
 unfold qjW at this;rw[T]at this;exact this
end
def nv (h:Heap):Value->Option Value
 |.ref a=>match h.get? a with
  |some o=>match o.data with
   |.seq b _=>b[0]?
   |_=>none
  |none=>none
 |_=>none
theorem TuI.fst {h:Heap}{v:Value}{l:List Int} (t:TuI h v l):nv h v=none\/∃ n t,nv h v=some (.int n t):=by
 obtain⟨a,b,rfl,⟨o,c,f,n,hd⟩,hi⟩:=t;simp only[nv,c,hd];by_cases d:0<b.size
 ·obtain⟨t,e⟩:=gD hi 0 _
  exact .inr ⟨_,t,by rw[qbD d];rw[qdL]at e;rw[e]⟩
 ·exact .inl (qdv (by lia))
section
variable {prog:qaM}{w:World}{A:qaU}{E:Value->qai->Prop}{s:qai}
theorem xD {v:Value}{l:List Int} (t:TuI s.heap v l) {Q:Value->qai->Prop} (h:Q (.type "tuple") s):wpAny (model prog w) A (typeOf v) Q E s:=by
 obtain⟨a,G,rfl,⟨o,C,H,n,hd⟩,hi⟩:=t;refine Looks.here ((Looks.ld C).andThen .now) ?_;rw[H];exact h
theorem xZ {v:Value}{l:List Int} (t:TuI s.heap v l) {Q:Option Value->qai->Prop} (h:Q (nv s.heap v) s):wpAny (model prog w) A (firstOfTuple' v) Q E s:=by
 refine qac (xD t ?_);obtain⟨a,G,rfl,⟨o,C,H,n,hd⟩,hi⟩:=t;simp only[nv,C,hd]at h;exact qac (listItems_at C hd (qaq h))
theorem gC:∀ {b:List Value}{Q:List (Option Value)->qai->Prop},(∀ v∈b,∃ l,TuI s.heap v l)->Q (b.map (nv s.heap)) s->wpAny (model prog w) A (b.mapM firstOfTuple') Q E s
 |[],_,_,h=>by exact qaq h
 |v::b,Q,t,h=>by
  rw[List.mapM_cons];obtain⟨l,D⟩:=t v qag;refine qac (xZ D (qac (gC (λu i=>t u (qaj _ i)) (qaq h))))
theorem uX {x y:Value}{l m:List Int} (c:TuI s.heap x l) (d:TuI s.heap y m) {Q:Bool->qai->Prop} (h:Q (OI.blt (tuI s.heap x) (tuI s.heap y)) s):Q (bB l m) s:=by
 have h':=h;rw[c.is,d.is]at h';exact h'
theorem t6 {b:List Value} (t:∀ v∈b,∃ l,TuI s.heap v l) (i:A.units<cLine):∃ I,(2<=b.length->∀ (Q':qdn->qai->Prop) E',Q' I s->wpAny (model prog w) A (qis b.toArray) Q' E' s)/\
  Cm prog w A s I OI (λp=>tuI s.heap p.1) (λp=>∃ l,TuI s.heap p.1 l):=by
 by_cases c1:(b.map (nv s.heap)).toArray.all (·.isSome)=true
 ·refine⟨_,λz Q' E' j=>?_,λx y ⟨l,c⟩ ⟨m,d⟩ Q E h=>c.tups d (uX c d h)⟩
  rw[qie,qdz];refine qac (qac (gC t (qaq ?_)));rw[iFP c1];refine qac (qdM ?_);have J:∀ v∈(b.map (nv s.heap)).filterMap id,∃ n t,v=.int n t:=λv B=>by
   obtain⟨o,C,e⟩:=qfi.mp B;obtain⟨u,i,rfl⟩:=qaz.mp C;obtain⟨l,M⟩:=t u i;rcases M.fst with q|⟨n,t',q⟩
   ·rw[q]at e;cases e
   ·rw[q]at e;exact⟨n,t',(qaL e).symm⟩
  have K:∃ f fr,(b.map (nv s.heap)).filterMap id=f::fr:=by
   match b,z,c1 with
   |v::b,_,c1=>
    simp only[qas,qfJ,qbx,qaX]at c1;obtain⟨u,i⟩:=qcC.mp c1.1;exact⟨u,_,by rw[qas,i];rfl⟩
  obtain⟨f,fr,e⟩:=K;have L:(b.map (nv s.heap)).toArray.filterMap id=(f::fr).toArray:=by rw[<-e];simp
  rw[L,qjY,qdz];refine qac (qac (qac (kas_mapM (r:=.type "int") _ (λv B Q'' k=>?_) (qaq ?_))))
  ·rw[<-e]at B
   obtain⟨n,t',rfl⟩:=J v B;exact qaq k
  ·have F:(qgA (λ_=>Value.type "int") (f::fr)).toArray[0]?=some (.type "int"):=by simp
   rw[F];have g:((qgA (λ_=>Value.type "int") (f::fr)).toArray.all λx=>x==.type "int")=true:=by
    simp only[qfJ,qfA,qaW];intro _ _;rfl
   simp only[g,if_true];exact qaq (qaq j)
 ·by_cases c2:((b.map (nv s.heap)).toArray[0]?.bind id).isSome=true
  ·refine⟨general',λz Q' E' j=>?_,λx y ⟨l,c⟩ ⟨m,d⟩ Q E h=>c.one d i (uX c d h) false⟩
   rw[qie,qdz];refine qac (qac (gC t (qaq ?_)));rw[iFN c1,iFP c2];exact qaq j
  ·refine⟨qir,λz Q' E' j=>?_,λx y ⟨l,c⟩ ⟨m,d⟩ Q E h=>c.one d i (uX c d h) true⟩
   rw[qie,qdz];refine qac (qac (gC t (qaq ?_)));rw[iFN c1,iFN c2,qjY,qdz];refine qac (qac (qac (kas_mapM (r:=.type "tuple") _ (λv B Q'' k=>?_) (qaq ?_))))
   ·obtain⟨l,D⟩:=t v B
    exact xD D k
   ·obtain⟨v,b,rfl⟩:∃ v r,b=v::r:=by
     match b,z with
     |v::r,_=>exact⟨v,r,U⟩
    have F:(qgA (λ_=>Value.type "tuple") (v::b)).toArray[0]?=some (.type "tuple"):=by simp
    rw[F];have g:((qgA (λ_=>Value.type "tuple") (v::b)).toArray.all λx=>x==.type "tuple")=true:=by
     simp only[qfJ,qfA,qaW];intro _ _;rfl
    simp only[g,if_true];exact qaq (qaq j)
theorem zv {b:List Value}{ns:List Int} (t:qct b ns):(2<=b.length->∀ (Q':qdn->qai->Prop) E',Q' qir s->wpAny (model prog w) A (qis b.toArray) Q' E' s)/\
  Cm prog w A s qir OI (λp=>[cx p.1]) (λp=>∃ n t,p.1=.int n t):=by
 refine⟨λz Q' E' j=>?_,λx y ⟨n,t,c⟩ ⟨m,u,d⟩ Q E h=>?_⟩
 ·match b,z,t with
  |v1::N::r,_,t=>rw[keyKind_ints t];exact qaq j
 ·rw[c,d]
  refine oneLt_int ?_;have e:OI.blt [cx x.1] [cx y.1]=decide (n<m):=by
   rw[c,d];show (if n=m then bB [] [] else decide (n<m))=_;by_cases q:n=m
   ·subst q;simp[bB]
   ·rw[iFN q]
  rw[e]at h;exact h
end
def u9 (x:List Int):List (List Int)->List (List Int)
 |[]=>[x]
 |y::a=>if bB y x=true then y::u9 x a else x::y::a
def ar:List (List Int)->List (List Int)
 |[]=>[]
 |x::xs=>u9 x (ar xs)
theorem k7 (x:List Int):∀ a,(u9 x a).Perm (x::a)
 |[]=>qds _
 |y::a=>by
  unfold u9;split
  ·exact (List.Perm.cons y (k7 x a)).trans (List.Perm.swap x y a)
  ·exact qds _
theorem aG:∀ xs,(ar xs).Perm xs
 |[]=>qds _
 |x::xs=>(k7 x _).trans (List.Perm.cons x (aG xs))
def leL (a b:List Int):Prop:=bB b a=false
theorem yi {a b c:List Int} (h:leL a b) (h':leL b c):leL a c:=qdH (O:=OI) h h'
theorem zy {a b:List Int} (h:leL a b) (h':leL b a):a=b:=iG a b h' h
theorem lF (x:List Int):∀ {c:List (List Int)},c.Pairwise leL->(u9 x c).Pairwise leL
 |[],_=>by simp[u9]
 |y::c,h=>by
  unfold u9;split
  ·rename_i a
   refine qa4.mpr ⟨λz b=>?_,lF x (qa4.mp h).2⟩;rcases qay.mp ((k7 x c).mem_iff.mp b) with rfl|b
   ·exact KeyOrd.klt_asymm (O:=OI) a
   ·exact (qa4.mp h).1 z b
  ·rename_i a
   rw[qet]at a;refine qa4.mpr ⟨λz b=>?_,h⟩;rcases qay.mp b with rfl|b
   ·exact a
   ·exact yi a ((qa4.mp h).1 z b)
theorem dm:∀ xs,(ar xs).Pairwise leL
 |[]=>List.Pairwise.nil
 |x::xs=>lF x (dm xs)
theorem kE {xs d:List (List Int)} (p:xs.Perm d) (e:xs.Pairwise leL) (c:d.Pairwise leL):xs=d:=
 qfK (λa b _ _ e c=>zy e c) e c p
def gR:List D->Option (List (List Int))
 |[]=>some []
 |.tup l::ds=>(bb l).bind λns=>(gR ds).map λr=>ns::r
 |_=>none
def aq (l:List Int):D:=.tup (l.map D.int)
theorem fI:∀ {ds:List D}{ls:List (List Int)},gR ds=some ls->ds=ls.map aq
 |[],_,h=>by cases h;rfl
 |.tup l::ds,_,h=>by
  simp only[gR,qab,qad]at h;obtain⟨ns,b,r,a,rfl⟩:=h;rw[fI a,bA b];rfl
 |.non::_,_,h=>by cases h
 |.bl _::_,_,h=>by cases h
 |.int _::_,_,h=>by cases h
 |.str _::_,_,h=>by cases h
 |.ty _::_,_,h=>by cases h
 |.dct::_,_,h=>by cases h
 |.scr _::_,_,h=>by cases h
 |.lst _::_,_,h=>by cases h
theorem gT:∀ (ls:List (List Int)),gR (ls.map aq)=some ls
 |[]=>rfl
 |l::ls=>by
  have:bb (l.map D.int)=some l:=by
   induction l with
   |nil=>rfl
   |cons a l b=>simp[bb,b]
  simp only[qas,aq,gR,this,qaa];rw[gT ls];rfl
def lJ (ds:List D):Option (List D):=match bb ds with
 |some ns=>some ((k8 ns).map D.int)
 |none=>(gR ds).map λls=>(ar ls).map aq
def iA (st:Sto):List W->Option (List D)
 |[w]=>(lsD st w).bind λds=>if ds.length<64 then lJ ds else none
 |_=>none
section
variable {K:qae}{X:Cx}{g:List (Addr×Obj)}{T:St}{H:Hp}{s:qai}{φ:List Addr}
def toV:Value->V
 |.ref a=>.ref a
 |_=>.non
theorem B7 {l:List Int}{v:V}{u:Value} (I:Inv X g T H s) (r:Rl X.K H φ (aq l) v) (q:aP v u):TuI s.heap u l/\v=toV u/\aP (toV u) u:=by
 obtain⟨a,R,rfl,D,C⟩:=r;obtain⟨A,rv,p,_⟩:=I.tuple (SqT.of D);have e:=C.ints;subst e;subst q;exact⟨⟨a,A.toArray,U,p,by simpa using dh rv⟩,U,U⟩
theorem kB (I:Inv X g T H s):∀ {ls:List (List Int)}{R:List V}{f:List Value},Rls X.K H φ (ls.map aq) R->aL R f->
  f.map (tuI s.heap)=ls/\∀ u∈f,TuI s.heap u (tuI s.heap u)/\Rl X.K H φ (aq (tuI s.heap u)) (toV u)/\aP (toV u) u
 |[],_,f,h,q=>by cases h;cases q;exact⟨U,λu z=>by cases z⟩
 |l::ls,_,f,h,q=>by
  obtain⟨v,r,rfl,D,C⟩:=h;cases q with
  |cons q1 q2=>
   obtain⟨t,e,e'⟩:=B7 I D q1;obtain⟨i1,i2⟩:=kB I C q2;refine⟨by rw[qas,i1,t.is],λx j=>?_⟩;rcases qay.mp j with rfl|j
   ·rw[t.is,<-e];exact⟨t,D,q1⟩
   ·exact i2 x j
theorem ou:∀ {f:List Value},(∀ u∈f,TuI s.heap u (tuI s.heap u)/\Rl K H φ (aq (tuI s.heap u)) (toV u)/\aP (toV u) u)->Rls K H φ (f.map λu=>aq (tuI s.heap u)) (f.map toV)/\aL (f.map toV) f
 |[],_=>⟨U,.nil⟩
 |u::f,h=>by
  have D:=h u qag;have C:=ou λx j=>h x (qaj _ j);exact⟨⟨_,_,U,D.2.1,C.1⟩,.cons D.2.2 C.2⟩
theorem nM:∀ {f:List Value}{l:List Int},qct f l->∀ u∈f,∃ n t,u=.int n t
 |_,_,.nil,u,z=>by cases z
 |_,_,.cons n t h,u,z=>by
  rcases qay.mp z with rfl|z
  ·exact⟨n,t,U⟩
  ·exact nM h u z
theorem pH:∀ {f:List Value},(∀ u∈f,∃ n t,u=.int n t)->qct f (f.map cx)
 |[],_=>.nil
 |u::f,h=>by
  obtain⟨n,t,rfl⟩:=h u qag;exact .cons n t (pH λx j=>h x (qaj _ j))
theorem jV {k:Nat} (hr:bv k X.A) (hK:X.K=K:=by rfl):sw K X (.builtin "sorted") iA:=by
 subst hK;refine⟨λst ws d h=>?_⟩
 match ws,h with
 |[w],h=>
  simp only[iA,qab]at h;obtain⟨ds,e1,h⟩:=h;split at h
  ·intro g s T H xs f Q I rv q
   obtain⟨φ,S,⟨v,r,rfl,r1,rfl⟩,q⟩:=q;obtain⟨a,R,rfl,D,C⟩:=rm S r1 e1;obtain⟨u,rfl,ru⟩:=g9 rv;cases ru;obtain⟨A,J,pl,hz⟩:=I.list (.inl D);have i:A.length<64:=by
    have:=J.length
    have:=C.length
    lia
   have W:X.A.in1.in1.units<cLine:=by
    have:=hr.un
    lia
   have hn:=I.hok.fresh (qdk _);have N:∀ (c:List Value) (G:List V),aL G c->c.length<64->Inv X g T _ { s with heap:=qjW s.heap A c.toArray }:=λc G B ho=>by
    obtain⟨ep,he⟩:=sortedAll_at s.heap A c.toArray;refine I.laid (o:=.lst G) (λb o q=>sortedAll_old q) (qdk _) ⟨?_,c,ep,B,by simpa  using he⟩;rw[B.length];exact kD (by lia)
   unfold lJ at h;cases hi:bb ds with
   |some ns=>
    rw[hi]at h;cases h;cases bA hi;cases C.ints;have P:=dh J;refine oE pl.isList i (λh' _=>⟨qir,zv P⟩) (λv B=>nM P v B) λc F a2=>?_;have hp:=by
     have:=F.map cx
     rw[nO P]at this;exact this
    have hs:(c.map cx).Pairwise (·<=·):=by
     rw[qcI];refine a2.imp λ{x y} q=>?_;have q':bB [cx y] [cx x]=false:=q;by_cases e:cx y=cx x
     ·lia
     ·have:bB [cx y] [cx x]=decide (cx y<cx x):=by show (if _ then _ else _)=_;rw[iFN e]
      lia
    have B:=kF (pH (λu z=>nM P u (F.mem_iff.mp z)));rw[(uH (hp.trans (iy ns).symm) hs (fP ns))]at B;exact⟨.ref _,_,N c _ B (by rw[F.length_eq];exact i),U,q _ _ H (aS.refl H) hn (Rls.of_ints _)⟩
   |none=>
    rw[hi]at h;obtain⟨ls,hls,rfl⟩:=qad.mp h;cases fI hls;obtain⟨m1,m2⟩:=kB I C J;refine oE (O:=OI) (rk:=λp=>tuI s.heap p.1) (S:=λp=>∃ l,TuI s.heap p.1 l) pl.isList i (λh' L=>?_) (λv B=>⟨_,(m2 v B).1⟩) λc F a2=>?_
    ·obtain⟨κ,k1,k2⟩:=t6 (s:={ s with heap:=h' }) (λv B=>⟨_,(m2 v B).1.fit L⟩) W
     refine⟨κ,k1,λx y ⟨l,j⟩ ⟨m,Y⟩ Q E hq=>k2 x y ⟨l,j.fit L⟩ ⟨m,Y.fit L⟩ Q E ?_⟩;have M:Q (bB (tuI s.heap x.1) (tuI s.heap y.1)) { s with heap:=h' }:=hq;show Q (bB (tuI h' x.1) (tuI h' y.1)) { s with heap:=h' };rw[(j.fit L).is,(Y.fit L).is];rw[j.is,Y.is]at M;exact M
    ·obtain⟨b1,b2⟩:=ou (λu z=>m2 u (F.mem_iff.mp z))
     have hp:=by
      have:=F.map (tuI s.heap)
      rw[m1]at this;exact this
     have hs:(c.map (tuI s.heap)).Pairwise leL:=by
      rw[qcI];exact a2.imp λ{x y} q=>q
     have e2:(c.map λu=>aq (tuI s.heap u))=(ar ls).map aq:=by rw[<-(kE (hp.trans (aG ls).symm) hs (dm ls)),qaG];rfl
     rw[e2]at b1;exact⟨.ref _,_,N c _ b2 (by rw[F.length_eq];exact i),U,q _ _ H (aS.refl H) hn b1⟩
  ·cases h
end
end L2
namespace L2
open PySem PySem.Spec PyProof.Rows
def md (st:Sto) (x y:W):Option D:=match x with
 |.d x=>(gR [x]).bind λa=>(dL st y).bind λds=>(gR ds).map λls=>.bl (!decide (a.headD []∈ls))
 |_=>none
theorem i4:∀ a b:List Int,dX (a.map D.int) (b.map D.int)=decide (a=b)
 |[],[]=>rfl
 |[],_::_=>rfl
 |_::_,[]=>rfl
 |x::a,y::b=>by
  show (x==y&&dX _ _)=_;rw[i4 a b,qeG];simp
theorem xY (a b:List Int):eqD (aq a) (aq b)=decide (a=b):=i4 a b
theorem v7 {α:Type} (f:α->List Int) (l:List Int):∀ a:List α,a.any (λu=>decide (f u=l))=decide (l∈a.map f)
 |[]=>by rw[List.any_nil,decide_eq_false (λh=>nomatch h)]
 |u::a=>by
  rw[qcr,v7 f l a,qas];by_cases h:f u=l
  ·rw[decide_eq_true h,qi6,decide_eq_true (by rw[h];exact qag)]
  ·rw[decide_eq_false h,Bool.false_or]
   by_cases b:l∈a.map f
   ·rw[decide_eq_true b,decide_eq_true (qaj _ b)]
   ·rw[decide_eq_false b,decide_eq_false λq=>by
     rcases qay.mp q with q|q
     ·exact h q.symm
     ·exact b q]
theorem pM (l:List Int):okD 60 (aq l)=true:=by
 show (l.map D.int).all _=true;rw[qaW];intro d hd;obtain⟨i,_,rfl⟩:=qaz.mp hd;rfl
section
variable {K:qae}{X:Cx}
theorem zq {f:List (Addr×Obj)}{B:St}{H:Hp}{s:qai}{φ:List Addr}{k:Nat} (j:bv k X.A) (I:Inv X f B H s) {l:List Int}{ls:List (List Int)}{x:V}{v:Value}{xs:List V}{n:List Value} (i:Rl X.K H φ (aq l) x) (N:aP x v) (t:Rls X.K H φ (ls.map aq) xs) (L:aL xs n) :
  (∀ u∈n,qdw X.A.in1 s u v (decide (tuI s.heap u=l)))/\n.any (λu=>decide (tuI s.heap u=l))=decide (l∈ls):=by
 obtain⟨e,h⟩:=kB I t L;refine⟨λu E=>?_,?_⟩
 ·obtain⟨_,a,b⟩:=h u E
  rw[<-xY];exact y8 I 60 a i b N (pM _) (pM _) (by have:=j.units;lia)
 ·rw[<-e]
  exact v7 _ _ _
theorem jf {k:Nat} (j:bv k X.A) (F:X.K=K:=by rfl):OpD K X (qbq .NotIn) md:=by
 subst F;refine⟨λst x y d h=>?_⟩
 match x,h with
 |.d x,h=>
  simp only[md,qab,qad]at h;obtain⟨J,C,ds,M,ls,D,rfl⟩:=h;intro f s B H O P v u Q I A G q;obtain⟨φ,S,i,t,q⟩:=q;obtain⟨a,R,rfl,g,p⟩:=gQ S t M;cases G;have ex:=fI C
  match J,ex with
  |[l],ex=>
   cases ex;rw[fI D]at p;rcases g with g|g
   ·obtain⟨c,z,r,_⟩:=I.list g
    obtain⟨o,m⟩:=zq j I i A p z;refine qha _ r.isList (λw hw=>o w (by simpa using hw)) ⟨.bl _,H,I,U,q _ H (aS.refl H) ?_⟩;rw[show c.toArray.any _=c.any (λu=>decide (tuI s.heap u=l)) by simp,m];rfl
   ·obtain⟨c,z,r,_⟩:=I.tuple g
    obtain⟨o,m⟩:=zq j I i A p z;refine qgW _ r (λw hw=>o w (by simpa using hw)) ⟨.bl _,H,I,U,q _ H (aS.refl H) ?_⟩;rw[show c.toArray.any _=c.any (λu=>decide (tuI s.heap u=l)) by simp,m];rfl
end
end L2
namespace L2
open PySem PySem.Spec PyProof.Rows
open PySem.AutoSeq1 (wpAny_loadPart')
def SIt (k:Bool) (h:Heap) (a l:Addr) (i:Nat):Prop:=match k with
 |true=>h.IsTupleIter a l i
 |false=>h.IsListIter a l i
def SIs (k:Bool) (h:Heap) (l:Addr) (xs:Array Value):Prop:=match k with
 |true=>h.IsTuple l xs
 |false=>h.IsList l xs
theorem SIt.to {k:Bool}{h h':Heap}{b l:Addr}{i:Nat} (a:SIt k h b l i) (f:∀ o,h.get? b=some o->h'.get? b=some o):SIt k h' b l i:=by
 cases k with
 |true=>exact Heap.IsTupleIter.at a f
 |false=>exact Heap.IsListIter.at a f
theorem SIs.to {k:Bool}{h h':Heap}{l:Addr}{xs:Array Value} (a:SIs k h l xs) (f:∀ o,h.get? l=some o->h'.get? l=some o):SIs k h' l xs:=by
 cases k with
 |true=>obtain⟨o,e,r⟩:=a;exact⟨o,f o e,r⟩
 |false=>exact Heap.IsList.at a f
theorem SIt.live {k:Bool}{h:Heap}{b l:Addr}{i:Nat} (a:SIt k h b l i):∃ o c,h.get? b=some o/\o.data=.fields c:=by
 cases k with
 |true=>obtain⟨o,e,_,d⟩:=a;exact⟨o,_,e,d⟩
 |false=>obtain⟨o,e,_,d⟩:=a;exact⟨o,_,e,d⟩
section
variable {prog:qaM}{w:World}{A:qaU}{E:Value->qai->Prop}{s:qai}{k k2:Bool}
theorem rq {J l:Addr}{i:Nat}{xs:Array Value}{x:Value}{Q:Value->qai->Prop} (v:SIt k s.heap J l i) (hl:SIs k s.heap l xs) (u:xs[i]?=some x)
  (T:∀ h',SIt k h' J l (i+1)->qdm J s.heap h'->Q x { s with heap:=h' }):wpAny (model prog w) A (qcQ (.ref J)) Q E s:=by
 cases k with
 |true=>exact fD v hl u T
 |false=>exact wpAny_nextOf_list_item v hl u T
theorem zK {J l:Addr}{i:Nat}{xs:Array Value}{Q:Value->qai->Prop} (hh:A.handled=none) (v:SIt k s.heap J l i) (hl:SIs k s.heap l xs) (u:xs[i]?=none)
  (hE:∀ h' e,qhk J s.heap h'->(∃ o,h'.get? e=some o/\o.cls=.type "StopIteration")->E (.ref e) { s with heap:=h' }):wpAny (model prog w) A (qcQ (.ref J)) Q E s:=by
 cases k with
 |true=>exact gq hh v hl u hE
 |false=>exact wpAny_nextOf_list_end hh v hl u hE
variable {z TI TO i1 i2 l1 l2:Addr}{n:Nat}{xs ys:Array Value}{a b:Value}
structure ZSt (k k2:Bool) (z TI TO i1 i2 l1 l2:Addr) (f0:Value) (n:Nat) (h:Heap):Prop where
 z:IsZip h z TI TO f0
 ti:qhh h TI (.ref i1) (.ref i2)
 to:∃ a b,qhh h TO a b
 t1:SIt k h i1 l1 n
 t2:SIt k2 h i2 l2 n
set_option maxHeartbeats 1000000 in
theorem AO {x y:Value}{Q:Option Value->qai->Prop} (D:ZipApart z TI TO i1 i2 l1 l2) (hs:ZSt k k2 z TI TO i1 i2 l1 l2 .none n s.heap) (I:SIs k s.heap l1 xs) (N:SIs k2 s.heap l2 ys) (u:xs[n]?=some x) (hy:ys[n]?=some y)
  (T:∀ h',ZSt k k2 z TI TO i1 i2 l1 l2 (qgH s.heap.objs.size) (n+1) h'->qhh h' s.heap.objs.size x y->h'.objs.size=s.heap.objs.size+1->
    (∀ c o,c≠z->c≠TO->c≠i1->c≠i2->s.heap.get? c=some o->h'.get? c=some o)->Q (some (.ref s.heap.objs.size)) { s with heap:=h' }) :
  wpAny (model prog w) A (qg8 (.ref z)) Q E s:=by
 obtain⟨t,H,⟨a,b,P⟩,h1,h2⟩:=hs;have hT:s.TypeIs (.ref z) "zip":=⟨_,t,U⟩
 unfold qg8;refine qac (qeJ (qbP (name:=qeL "__next__") hT qeV (qbY qeV hT qiE ?_ (qim _))))
 show wpAny _ _ (field (.ref z) 2 >>= _) _ _ _;refine qac (qcf t U (x:=.bool false) U ?_);show wpAny _ _ (field (.ref z) 3 >>= _) _ _ _;refine qac (qcf t U (x:=.ref TI) U (qac (qck H U ?_)));refine qac ?_;unfold qhM;refine qac (qcf t U (x:=.none) U (qaq ?_));simp only[if_true];refine qac (qdM (qac (qcf t U (x:=.ref TO) U ?_)));refine qac (qc4 t (by simp) λg1 r s1=>?_);replace r:IsZip g1 z TI TO .ellipsis:=r;refine qac ?_;simp only[qhZ,qh8,qf6,qij];have g:=s1.extBut;refine qac (qac (qfP ?_));refine qac (rq (h1.to λo q=>g _ o D.i1z q) (I.to λo q=>g _ o D.l1z q) u λg2 h12 M=>qaq ?_);have C:=M.extBut;have d:qhh g2 TO a b:=C _ _ D.TOi1 (g _ _ D.TOz P);refine qac (qck d U (qac (qfj d λg3 p S=>?_)));replace p:qhh g3 TO x b:=p;have F:=S.extBut;refine qac (qd7 (qaq ?_));refine qac (qac (qfP ?_));refine qac (rq (h2.to λo q=>F _ o D.TOi2.symm (C _ o D.i12.symm (g _ o D.i2z q))) (N.to λo q=>F _ o D.l2TO (C _ o D.l2i1 (g _ o D.l2z q))) hy λg4 h24 X=>qaq ?_);have e4:=X.extBut;have K:qhh g4 TO x b:=e4 _ _ D.TOi2 p;refine qac (qck K U (qac (qfj K λf m s5=>?_)));replace m:qhh f TO x y:=m;have e5:=s5.extBut;refine qac (qd7 (qaq (qaq ?_)));refine qac (qck m U (qac (qkc ?_)));have hsz:f.objs.size=s.heap.objs.size:=by rw[s5.1,X.1,S.1,M.1,s1.1]
 have hz5:IsZip f z TI TO .ellipsis:=e5 _ _ D.TOz.symm (e4 _ _ D.i2z.symm (F _ _ D.TOz.symm (C _ _ D.i1z.symm r)));have kp:∀ c o,c≠z->c≠TO->c≠i1->c≠i2->s.heap.get? c=some o->f.get? c=some o:=λc o c1 c2 c3 c4 e=>e5 _ _ c2 (e4 _ _ c4 (F _ _ c2 (C _ _ c3 (g _ _ c1 e))));have h25:SIt k2 f i2 l2 (n+1):=h24.to λo q=>e5 _ o D.TOi2.symm q;have L:z<f.objs.size:=qau hz5;show wpAny _ _ (qdW (.ref z) (.ref f.objs.size) >>= _) _ _ _;refine qac ?_;unfold qdW;have hz6:IsZip (f.push { cls:=.type "tuple",data:=.seq #[x,y] }) z TI TO .ellipsis:=qah _ hz5
 refine qac (qc4 hz6 (by simp) λg7 R s7=>?_);replace R:IsZip g7 z TI TO (qgH f.objs.size):=R;refine qc4 R (by simp) λg8 G s8=>?_;replace G:IsZip g8 z TI TO (qgH f.objs.size):=G;have up:∀ c o,c≠z->f.get? c=some o->g8.get? c=some o:=λc o c1 e=>s8.extBut _ _ c1 (s7.extBut _ _ c1 (qah _ e));have V:qhh g8 f.objs.size x y:=s8.extBut _ _ (qch L) (s7.extBut _ _ (qch L) (qat _ U));have Y:g8.objs.size=f.objs.size+1:=by rw[s8.1,s7.1,qbp]
 rw[hsz]at G V Y;refine qaq ⟨_,U,qaq ?_⟩;show Q (some (.ref f.objs.size)) _;rw[hsz];exact T g8 ⟨G,up _ _ D.TIz (kp _ _ D.TIz D.TITO D.TIi1 D.TIi2 H),⟨_,_,up _ _ D.TOz m⟩,(h12.to λo q=>e5 _ o D.TOi1.symm (e4 _ o D.i12 (F _ o D.TOi1.symm q))).to λo q=>up _ o D.i1z q,h25.to λo q=>up _ o D.i2z q⟩ V Y λc o c1 c2 c3 c4 e=>up c o c1 (kp c o c1 c2 c3 c4 e)
set_option maxHeartbeats 1000000 in
theorem CA {Q:Option Value->qai->Prop} (hh:A.in1.handled=none) (D:ZipApart z TI TO i1 i2 l1 l2) (hs:ZSt k k2 z TI TO i1 i2 l1 l2 .none n s.heap) (I:SIs k s.heap l1 xs) (N:SIs k2 s.heap l2 ys) (hend:xs[n]?=none\/ys[n]?=none)
  (T:∀ h',(∀ c o,c≠z->c≠TO->c≠i1->c≠i2->s.heap.get? c=some o->h'.get? c=some o)->Q none { s with heap:=h' }):wpAny (model prog w) A (qg8 (.ref z)) Q E s:=by
 obtain⟨t,H,⟨a,b,P⟩,h1,h2⟩:=hs;have hT:s.TypeIs (.ref z) "zip":=⟨_,t,U⟩
 have fin:∀ (h':Heap) (e:Addr),_->(∃ o,h'.get? e=some o/\o.cls=.type "StopIteration")->
   wpAny (model prog w) A (do if (<-isInstance (.ref e) _) then pure none else throw (.ref e)) Q E { s with heap:=h' }:=λh' e hk ⟨o,ho,hc⟩=>
  qac (qi8 ⟨o,ho,hc⟩ qki (qaq (T _ hk)))
 refine qac (qeJ (qbP hT qeV (qbY qeV hT qiE ?_ (qim _))));show wpAny _ _ (field (.ref z) 2 >>= _) _ _ _;refine qac (qcf t U (x:=.bool false) U ?_);refine qac (qcf t U U (qac (qck H U ?_)));refine qac ?_;refine qac (qcf t U U (qaq ?_));refine qac (qdM (qac (qcf t U U ?_)));refine qac (qc4 t (by simp) λg1 r s1=>?_);refine qac ?_;simp only[qhZ,qh8,qf6,qij];have g:=s1.extBut;refine qac (qac (qfP ?_));cases u:xs[n]? with
 |none=>
  refine qac (zK hh (h1.to λo q=>g _ o D.i1z q) (I.to λo q=>g _ o D.l1z q) u λg2 e M he=>?_);obtain⟨oe,j,B⟩:=he;have W:IsZip g2 z TI TO .ellipsis:=M _ _ D.i1z.symm r;have O:e≠z:=λx=>by subst x;rw[W]at j;cases j;simp at B
  exact qc4 W (by simp) λg3 _ S=>fin g3 e (λc o c1 _ c3 _ x=>S.extBut _ _ c1 (M _ _ c3 (g _ _ c1 x))) ⟨oe,S.extBut _ _ O j,B⟩
 |some x=>
  have hy:ys[n]?=none:=by rcases hend with h|h;rw[u]at h;cases h;exact h
  refine qac (rq (h1.to λo q=>g _ o D.i1z q) (I.to λo q=>g _ o D.l1z q) u λg2 h12 M=>qaq ?_);have C:=M.extBut;have d:=C _ _ D.TOi1 (g _ _ D.TOz P);refine qac (qck d U (qac (qfj d λg3 p S=>?_)));have F:=S.extBut;refine qac (qd7 (qaq ?_));refine qac (qac (qfP ?_));refine qac (zK hh (h2.to λo q=>F _ o D.TOi2.symm (C _ o D.i12.symm (g _ o D.i2z q))) (N.to λo q=>F _ o D.l2TO (C _ o D.l2i1 (g _ o D.l2z q))) hy λg4 e X he=>?_);obtain⟨oe,j,B⟩:=he;have hz4:IsZip g4 z TI TO .ellipsis:=X _ _ D.i2z.symm (F _ _ D.TOz.symm (C _ _ D.i1z.symm r));have O:e≠z:=λx=>by subst x;rw[hz4]at j;cases j;simp at B
  exact qc4 hz4 (by simp) λf _ s5=>fin f e (λc o c1 c2 c3 c4 x=>s5.extBut _ _ c1 (X _ _ c4 (F _ _ c2 (C _ _ c3 (g _ _ c1 x))))) ⟨oe,s5.extBut _ _ O j,B⟩
end
def Fj (k:Bool):Value:=if k=true then .type "tuple_iterator" else .type "list_iterator"
def tQ (k:Bool) (l:Addr):Obj:={ cls:=Fj k,data:=.fields #[.ref l,.int 0 0] }
abbrev zH1 (k:Bool) (h:Heap) (a:Addr):Heap:=h.push (tQ k a)
abbrev zH2 (k k2:Bool) (h:Heap) (a b:Addr):Heap:=(zH1 k h a).push (tQ k2 b)
abbrev zH3 (k k2:Bool) (h:Heap) (a b:Addr):Heap:=(zH2 k k2 h a b).push { cls:=.type "tuple",data:=.seq #[.ref h.objs.size,.ref (zH1 k h a).objs.size] }
abbrev zH4 (k k2:Bool) (h:Heap) (a b:Addr):Heap:=(zH3 k k2 h a b).push { cls:=.type "tuple",data:=.seq #[.none,.none] }
abbrev zH5 (k k2:Bool) (h:Heap) (a b:Addr):Heap:=(zH4 k k2 h a b).push { cls:=.type "zip",data:=.fields #[.none,.bool false,.bool false,.ref (zH2 k k2 h a b).objs.size,.ref (zH3 k k2 h a b).objs.size] }
section
variable {prog:qaM}{w:World}{A:qaU}{E:Value->qai->Prop}{s:qai}{k k2:Bool}
theorem tW {l:Addr}{xs:Array Value}{Q:Value->qai->Prop} (v:SIs k s.heap l xs) (h:Q (.ref s.heap.objs.size) { s with heap:=s.heap.push (tQ k l) }):wpAny (model prog w) A (qiq (.ref l)) Q E s:=by
 cases k with
 |true=>exact qdC v h
 |false=>exact qex v h
theorem oZ (a b:Addr) (xs j:Array Value) (k k2:Bool) :
  Meets (qff.«zip.__new__» ⟨[.type "zip",.ref a,.ref b],[]⟩) (λ_ R s=>SIs k s.heap a xs/\SIs k2 s.heap b j/\R (.ok (.ret (.ref (zH4 k k2 s.heap a b).objs.size))) { s with heap:=zH5 k k2 s.heap a b }):=
 .of_wp λprog w A R s h=>by
  obtain⟨G,g,d,H,os⟩:=s;obtain⟨i,f,h⟩:=h;have D:=sub_zip;have m:SIs k2 (Shared.heap ⟨G.push (tQ k a),g,d,H,os⟩) b j:=f.to λo q=>qah _ q
  wp_walk using tW i,tW m
  exact⟨_,U,h⟩
theorem tT (k:Bool) {h:Heap}{z l:Addr} (e:h.get? z=some (tQ k l)):SIt k h z l 0:=by
 cases k with
 |true=>exact⟨_,e,U,U⟩
 |false=>exact⟨_,e,U,U⟩
theorem qj {a b:Addr}{xs j:Array Value}{Q:Value->qai->Prop} (i:SIs k s.heap a xs) (f:SIs k2 s.heap b j)
  (h:∀ h',ZSt k k2 (s.heap.objs.size+4) (s.heap.objs.size+2) (s.heap.objs.size+3) s.heap.objs.size (s.heap.objs.size+1) a b .none 0 h'->
    (∀ c o,s.heap.get? c=some o->h'.get? c=some o)->Q (.ref (s.heap.objs.size+4)) { s with heap:=h' }) :
  wpAny (model prog w) A (call (.type "zip") [.ref a,.ref b]) Q E s:=by
 refine callType_new F.called_zip (by decide) (F.typeCall_zip_2 _ _) (F.newCall_zip_2 _ _) (λobj=>F.args_object_init_3 obj _ _) F.entry_zip_new (oZ a b xs j k k2) ⟨i,f,?_⟩;have r:(zH1 k s.heap a).objs.size=s.heap.objs.size+1:=qbp ..;have p:(zH2 k k2 s.heap a b).objs.size=s.heap.objs.size+2:=by rw[qbp,r]
 have t:(zH3 k k2 s.heap a b).objs.size=s.heap.objs.size+3:=by rw[qbp,p]
 have B:(zH4 k k2 s.heap a b).objs.size=s.heap.objs.size+4:=by rw[qbp,t]
 have up:∀ {h:Heap}{I:Obj}{c:Addr}{o:Obj},h.get? c=some o->(h.push I).get? c=some o:=λe=>qah _ e;have n:(zH5 k k2 s.heap a b).get? (zH4 k k2 s.heap a b).objs.size=some _:=qat _ U;have y:(zH5 k k2 s.heap a b).get? (zH3 k k2 s.heap a b).objs.size=some _:=up (qat _ U);have C:(zH5 k k2 s.heap a b).get? (zH2 k k2 s.heap a b).objs.size=some _:=up (up (qat _ U));have u:(zH5 k k2 s.heap a b).get? (zH1 k s.heap a).objs.size=some _:=up (up (up (qat _ U)));rw[p,t,B]at n;rw[r,p]at C;rw[t]at y;rw[r]at u;rw[B];exact⟨⟨_,n,U⟩,h _ ⟨n,C,⟨_,_,y⟩,tT k (up (up (up (up (qat _ U))))),tT k2 u⟩ λc o x=>up (up (up (up (up x))))⟩
end
def SqK (k:Bool) (K:qae) (H:Hp) (a:Addr) (xs:List V):Prop:=match k with
 |true=>SqT K H a xs
 |false=>SqL K H a xs
def Itz (S1 S2:Hp->List V->Prop):It:=
 ⟨λi H=>∃ xs a x y,S1 H xs/\S2 H a/\xs[i]?=some x/\a[i]?=some y,λi H x H'=>∃ T v u,(∀ xs,S1 H xs->xs[i]?=some v)/\(∀ a,S2 H a->a[i]?=some u)/\H T=none/\x=.ref T/\H'=upd H T (.tup [v,u]),
  λi H=>∃ xs a,S1 H xs/\S2 H a/\(xs[i]?=none\/a[i]?=none)⟩
theorem Inv.seqK {X:Cx}{c:List (Addr×Obj)}{d:St}{H:Hp}{s:qai}{k:Bool}{a:Addr}{xs:List V} (I:Inv X c d H s) (h:SqK k X.K H a xs):∃ b:List Value,aL xs b/\SIs k s.heap a b.toArray:=by
 cases k with
 |true=>obtain⟨b,r,p,_⟩:=I.tuple h;exact⟨b,r,p⟩
 |false=>obtain⟨b,r,p,_⟩:=I.list h;exact⟨b,r,p.isList⟩
theorem Inv.seqK_inj {X:Cx}{b:List (Addr×Obj)}{d:St}{H:Hp}{s:qai}{k:Bool}{a:Addr}{xs c:List V} (I:Inv X b d H s) (h:SqK k X.K H a xs) (h':SqK k X.K H a c):xs=c:=by
 cases k with
 |true=>exact I.tuple_inj h h'
 |false=>exact I.list_inj h h'
theorem AF {P:qaM}{w:World}{K:qae}{A:List Expr}{kk:Nat}{pos:Pos}{k k2:Bool}{z TI TO r p C L:Addr} (D:ZipApart z TI TO r p C L) :
  uT P w K (.Tuple A kk pos) (Itz (λH xs=>SqK k K H C xs) λH xs=>SqK k2 K H L xs) [z,TI,TO,r,p] z (λi h=>ZSt k k2 z TI TO r p C L .none i h) where
 mem:=by simp
 obj:=λi h st b hb=>by
  simp only[qay,qbM,or_false]at hb;rcases hb with rfl|rfl|rfl|rfl|rfl
  ·exact⟨_,st.z,λv z=>by cases z⟩
  ·exact⟨_,st.ti,λv z=>by cases z⟩
  ·obtain⟨a,b,e⟩:=st.to;exact⟨_,e,λv z=>by cases z⟩
  ·obtain⟨o,O,e,d⟩:=st.t1.live;exact⟨o,e,λv z=>by rw[d]at z;cases z⟩
  ·obtain⟨o,O,e,d⟩:=st.t2.live;exact⟨o,e,λv z=>by rw[d]at z;cases z⟩
 keep:=λi h h' st kp=>by
  obtain⟨a,b,e⟩:=st.to;exact⟨kp z (by simp) _ st.z,kp TI (by simp) _ st.ti,⟨a,b,kp TO (by simp) _ e⟩,st.t1.to λo q=>kp r (by simp) o q,st.t2.to λo q=>kp p (by simp) o q⟩
 item:=by
  intro X Q hw N S i n s σ H E I B st hg;subst Q hw N;obtain⟨xs,ys,x,y,f,g,T,V⟩:=hg;obtain⟨Y,j,p1⟩:=I.seqK f;obtain⟨O,l,G⟩:=I.seqK g;obtain⟨u,hu,ru⟩:=j.get T;obtain⟨v,hv,rv⟩:=l.get V;refine AO D st p1 G (by simpa using hu) (by simpa using hv) λh1 c hT hsz kp=>⟨_,U,?_⟩;refine wpAny_letOwnedTupleGo_zip c.z λh2 F W=>?_;have m:=W.extBut;obtain⟨c1,c2,M⟩:=c.to;have R:∀ b∈[z,TI,TO,r,p],b≠s.heap.objs.size:=λb hb e=>by
   obtain⟨o,ho,_⟩:=(show ∃ o,s.heap.get? b=some o/\True by
    simp only[qay,qbM,or_false]at hb;obtain⟨a',b',e'⟩:=st.to;obtain⟨o1,_,q1,_⟩:=st.t1.live;obtain⟨o2,_,q2,_⟩:=st.t2.live;rcases hb with rfl|rfl|rfl|rfl|rfl
    ·exact⟨_,st.z,trivial⟩
    ·exact⟨_,st.ti,trivial⟩
    ·exact⟨_,e',trivial⟩
    ·exact⟨_,q1,trivial⟩
    ·exact⟨_,q2,trivial⟩)
   have:=qau ho
   rw[e]at this;exact qa2 _ this
  refine⟨.ref s.heap.objs.size,_,?_,U,⟨s.heap.objs.size,x,y,λzs J=>by rw[I.seqK_inj J f];exact T,λzs J=>by rw[I.seqK_inj J g];exact V,I.hok.fresh (qan _),U,U⟩,?_,λb hb=>?_⟩
  ·have I2:=I.turnsT (h':=h2) (t':=s.toks) B (λb o hb q=>by
    simp only[qay,qbM,or_false,not_or]at hb
    exact m b o hb.1 (kp b o hb.1 hb.2.2.1 hb.2.2.2.1 hb.2.2.2.2 q)) (qan _) ⟨_,m _ _ (qbz (R z (by simp))) hT,U,⟨_,U⟩,U⟩ (.cons ru (.cons rv .nil)) (by show 2<=qaH;decide)
   exact I2
  ·exact⟨F,m _ _ D.TIz c.ti,⟨c1,c2,m _ _ D.TOz M⟩,c.t1.to λo q=>m _ o D.i1z q,c.t2.to λo q=>m _ o D.i2z q⟩
  ·rw[upd_ne (R b hb)];exact (B b hb).1
 done:=by
  intro X Q hw N S i n s σ H E I B st hg;subst Q hw N;obtain⟨xs,ys,f,g,t⟩:=hg;obtain⟨Y,j,p1⟩:=I.seqK f;obtain⟨O,l,G⟩:=I.seqK g;have hl1:=j.length;have hl2:=l.length
  refine CA (I.ok.hd S) D st p1 G (by
   rcases t with h|h
   ·rw[qb9]at h;simp;lia
   ·rw[qb9]at h;simp;lia) λh' kp=>⟨U,I.turns B λb o hb q=>?_⟩
  simp only[qay,qbM,or_false,not_or]at hb;exact kp b o hb.1 hb.2.2.1 hb.2.2.2.1 hb.2.2.2.2 q
 self:=λ_ _ _ _ _ st h=>qi7 st.z h
def Gy (K:qae) (k k2:Bool) (c:TA):L2.TI:=λd H R=>c d H λe H1=>∃ a b,e=[.ref a,.ref b]/\(∃ xs,SqK k K H1 a xs)/\(∃ xs,SqK k2 K H1 b xs)/\R (Itz (λH xs=>SqK k K H a xs) λH xs=>SqK k2 K H b xs) H1
theorem Ec {X:Cx}{i:List Expr}{J:Nat}{j:Pos}{a b:Expr}{w:TA}{p pos:Pos}{k k2:Bool} (hg:Gl X "zip") (hm:X.mg "zip" = none) (B:PA X [a,b] w) (E:qbF [a,b] X.env=[(false,eval a X.env),(false,eval b X.env)]:=by rfl) (g:qbF [b] X.env=[(false,eval b X.env)]:=by rfl) :
  PI X (.Tuple i J j) (.Call (.Name "zip" p) [a,b] [] pos) (Gy X.K k k2 w):=by
 intro d s G H R I h;refine Call_ (jH I hg hm boot_zip (qcm (thn (B pos d s G H _ I h) λn s1 ⟨F,H1,I1,C,K⟩=>?_) (by rw[E,g]) (by rw[g];rfl)));obtain⟨l,m,e,⟨xs,z⟩,⟨L,o⟩,q⟩:=K;subst e;cases C with
 |cons r t=>
  cases t with
  |cons r' t=>
   cases t;cases r;cases r';obtain⟨n,A,p1⟩:=I1.seqK z;obtain⟨F,D,v⟩:=I1.seqK o;have lt:∀ {k:Bool}{l:Addr}{n:Array Value},SIs k s1.heap l n->l<s1.heap.objs.size:=λ{k l n} x=>by
    cases k with
    |true=>obtain⟨_,u,_⟩:=x;exact qau u
    |false=>obtain⟨_,u,_⟩:=x;exact qau u
   refine qj p1 v λh' f y=>qi7 f.z ?_;refine⟨_,_,_,_,H1,U,I1.kept y,AF (zipApart_new (lt p1) (lt v)),f,λb hb=>?_,q⟩;have c:s1.heap.objs.size<=b:=by
    simp only[qay,qbM,or_false]at hb;rcases hb with rfl|rfl|rfl|rfl|rfl
    ·exact qdi _ 4
    ·exact qdi _ 2
    ·exact qdi _ 3
    ·exact qan _
    ·exact qdi _ 1
   exact I1.fpOk c (I1.hok.fresh c)
def dc:List D->List D->List D
 |d::ds,e::es=>.tup [d,e]::dc ds es
 |_,_=>[]
def Cf:W->Option (Bool×List D)
 |.d (.tup ds)=>some (true,ds)
 |.d (.lst ds)=>some (false,ds)
 |_=>none
def cN (c:Af):Lf
 |env,st=>(c env st).bind λr=>match r.1 with
  |[x,y]=>(Cf x).bind λa=>(Cf y).map λb=>(dc a.2 b.2,r.2)
  |_=>none
theorem gy:∀ (ds es:List D) (i:Nat),(dc ds es)[i]?=(ds[i]?).bind λd=>(es[i]?).map λe=>D.tup [d,e]
 |[],es,i=>by simp[dc]
 |d::ds,[],i=>by cases i<;>simp[dc]
 |d::ds,e::es,0=>by simp[dc]
 |d::ds,e::es,i+1=>by simpa [dc] using gy ds es i
theorem oO:∀ (ds es:List D),(dc ds es).length=min ds.length es.length
 |[],es=>by simp[dc]
 |d::ds,[]=>by simp[dc]
 |d::ds,e::es=>by simp[dc,oO ds es]
section
variable {K:qae}{X:Cx}{a b:Expr}{pos:Pos}{af:Af}
theorem xw {st:Sto}{H:Hp}{φ:List Addr}{w:W}{v:V}{p:Bool×List D} (r:Rw K H φ w v) (e:Cf w=some p) (S:Sr K H φ st):∃ a l,v=.ref a/\SqK p.1 K H a l/\(∀ H' c,Fw φ c H H'->SqK p.1 K H' a l)/\Rls K H φ p.2 l:=by
 cases w with
 |h n=>cases e
 |d x=>
  cases x with
  |tup ds=>
   cases e;obtain⟨a,j,rfl,o,g⟩:=r;exact⟨a,j,U,(SqT.of o),λH' c f=>(SqT.of o).fw S f,g⟩
  |lst ds=>
   cases e;obtain⟨a,j,rfl,h0,o,g⟩:=r;exact⟨a,j,U,.inl o,λH' c f=>.inl (o.fw f h0),g⟩
  |_=>cases e
theorem EM {S1 S2:Hp->List V->Prop}{ds es:List D}{l j:List V}{φ:List Addr}{H:Hp} (h1:∀ H' c,Fw φ c H H'->S1 H' l) (h2:∀ H' c,Fw φ c H H'->S2 H' j) (r1:∀ H' c,Fw φ c H H'->Rls K H' c ds l) (r2:∀ H' c,Fw φ c H H'->Rls K H' c es j) :
  Yl K φ H (Itz S1 S2) (dc ds es):=by
 intro H2 m st2 i C s2;have Y:=h1 H2 m C;have Q:=h2 H2 m C;have B:=r1 H2 m C;have w2:=r2 H2 m C;refine⟨λd hd=>?_,λhi=>⟨l,j,Y,Q,?_⟩⟩
 ·rw[gy,qab]at hd
  obtain⟨d1,N,hd⟩:=hd;obtain⟨d2,G,rfl⟩:=qad.mp hd;obtain⟨v,ev,rv⟩:=B.get N;obtain⟨u,eu,ru⟩:=w2.get G;refine⟨⟨l,j,v,u,Y,Q,ev,eu⟩,λx H' y=>?_⟩;obtain⟨T,v',u',y1,y2,M,rfl,rfl⟩:=y;have z1:=y1 l Y;have z2:=y2 j Q;rw[ev]at z1;rw[eu]at z2;cases z1;cases z2;exact⟨aS.new M _,T,_,U,upd_same,_,_,U,rv.fw s2 (Fw.new M),_,_,U,ru.fw s2 (Fw.new M),U⟩
 ·rw[oO]at hi
  have l1:=B.length;have l2:=w2.length;rw[qb9,qb9];lia
theorem nH {z:List Expr}{k:Nat}{A p:Pos} (hg:Gl X "zip") (hm:X.mg "zip" = none) (ha:IA K X [a,b] af) (hs:aC a=true:=by rfl) (t:aC b=true:=by rfl) (hK:X.K=K:=by rfl) :
  II K X (.Tuple z k A) (.Call (.Name "zip" p) [a,b] [] pos) (cN af):=by
 subst hK;refine⟨λenv st r g=>?_⟩;simp only[cN,qab]at g;obtain⟨⟨ws,s1⟩,hy,g⟩:=g;dsimp only at g;split at g
 case h_2=>cases g
 rename_i x y;simp only[qab,qad]at g;obtain⟨p1,J,p2,O,rfl⟩:=g;refine (Ec (k:=p1.1) (k2:=p2.1) hg hm (ha.run _ _ _ hy) (As hs t) (iW t)).imp ?_
 rintro σ H R ⟨φ,hE,hS,q⟩
 refine⟨φ,hE,hS,λl H1 L f1 s1 B=>?_⟩;obtain⟨v,r,rfl,rx,v2,r',rfl,ry,rfl⟩:=B;obtain⟨a,j,rfl,o,P,g⟩:=xw rx J s1;obtain⟨b,E,rfl,F,s,I⟩:=xw ry O s1;exact⟨a,b,U,⟨j,o⟩,⟨E,F⟩,q _ H1 L f1 s1 (EM P s (λH' c f=>g.fw s1 f) λH' c f=>I.fw s1 f)⟩
end
def ug:List Int->Int->Int
 |[],m=>m
 |n::ns,m=>ug ns (if n > m then n else m)
section
variable {prog:qaM}{w:World}{A:qaU}{s:qai}{I l S:Addr}{items:Array Value}{ns:List Int}{x:List (Str×Value)}{R:qix->qai->Prop}
theorem tP (h:qct items.toList ns) {j:Nat}{n:Int} (hn:ns[j]?=some n):∃ t,items[j]?=some (.int n t):=by
 have hj:j<items.toList.length:=by rw[cW h];exact (qar.mp hn).1
 obtain⟨t,e⟩:=gD h j hj;refine⟨t,?_⟩;have hj':=by simpa using hj
 rw[qbD hj'];rw[qdL]at e;rw[e,qaB,hn];rfl
theorem tO (h:qct items.toList ns) {j:Nat} (hn:ns[j]?=none):items[j]?=none:=by
 rw[qb9]at hn
 have:=cW h
 rw[Array.getElem?_eq_none_iff];rw[qcN]at this;lia
theorem DL (P:A.handled=none) (hi:qct items.toList ns) (u:S≠I) (H:l≠I) (J:l≠S):∀ (g:List Int) (j:Nat) (s:qai) (m:Int) (t:Tok) (c:Nat),ns.drop j=g->s.heap.IsListIter I l j->s.heap.IsList l items->
  s.heap.get? S=some { cls:=.type "list",dict:=none,data:=.seq #[.int m t,.int m t] c,slots:=#[] }->
  (∀ t' h',(∀ b o,b≠I->b≠S->s.heap.get? b=some o->h'.get? b=some o)->R (.ok (.ret (.int (ug g m) t'))) { s with heap:=h' })->qea (model prog w) A (.builtin "max.loop" ⟨[.ref I,.none,.ref S],x⟩) R s:=by
 have G:(toString "max"++toString ".loop" : String) = "max.loop":=by decide
 intro g
 induction g with
 |nil=>
  intro j s m t c hd B C L O;have hn:ns[j]?=none:=by
   rw[qb9]
   have:=congrArg qf4 hd
   simp at this;lia
  refine qd9 qgi ?_;rw[qeH qcU _];show wpAny _ A.in1 (seqItems? (.ref S) >>= _) _ _ s;refine qac (qck L U ?_);refine qac (qeo (qe3 P B C (tO hi hn) λV z=>?_));refine qac (qgD (z _ _ u L) U (qac (qd7 (qaq ?_))));exact O t _ λb o i p q=>(qbn _ _ (qbz p)).trans (z _ _ i q)
 |cons n g ih=>
  intro j s m t c hd B C L O;have hn:ns[j]?=some n:=by
   have:=congrArg (λl=>l[0]?) hd
   simpa using this
  have T:ns.drop (j+1)=g:=by
   have:=congrArg (List.drop 1) hd
   simpa [List.drop_drop,qfI] using this
  obtain⟨tn,hx⟩:=tP hi hn;refine qd9 qgi ?_;rw[qeH qcU _];show wpAny _ A.in1 (seqItems? (.ref S) >>= _) _ _ s;refine qac (qck L U ?_);refine qac (qeo (qeU B C hx λV y s1=>?_));have z:=s1.extBut;have D:=z _ _ u L;show wpAny _ A.in1 (tryCatch _ _ >>= _) _ _ _;refine qac (qeo (qcl (qac (qjN ?_))));refine qac (qcl (qce ?_));refine qac (qd7 (qaq ?_));by_cases hb:n > m
  ·have M:decide (n > m)=true:=by simp[hb]
   rw[M];simp only[if_true];refine qac (qgD D U (qac (qd7 ?_)));rw[G];refine qaq ⟨qfS qcU _,ih (j+1) _ n tn _ T (y.at λo q=>(qbn _ _ u).trans q) (Heap.IsList.at C λo q=>(qbn _ _ (qbz J)).trans (z _ _ H q)) (qc3 _ D U) λt' h' k=>?_⟩
   have:=O t' h' λb o i p q=>k b o i p ((qbn _ _ (qbz p)).trans (z _ _ i q))
   rw[ug,iFP hb]at this;exact this
  ·have M:decide (n > m)=false:=by simp[hb]
   rw[M];simp only[qbk,if_false];refine qac (qd7 ?_);rw[G];refine qaq ⟨qfS qcU _,ih (j+1) _ m t c T y (Heap.IsList.at C λo q=>z _ _ H q) D λt' h' k=>?_⟩
   have:=O t' h' λb o i p q=>k b o i p (z _ _ i q)
   rw[ug,iFN hb]at this;exact this
variable {E:Value->qai->Prop}
theorem jT {id:String}{b:qff}{args:List Value}{x:List (Str×Value)}{Q:Value->qai->Prop} (K:builtinKind id=none) (hp:plainId id=true) (hb:entryFor table id=some b) (ha:argsOk id ⟨args,x⟩)
  (hc:wpAny (model prog w) A.in1 (b ⟨args,x⟩) (λfin s'=>match fin with
    |.done f=>(match (Except.ok f:qix) with|.ok (.ret v)=>Q v s'|.ok _=>False|.error e=>E e s')
    |.again X=>X.quiet=true/\qea (model prog w) A X (λr s'=>match r with|.ok (.ret v)=>Q v s'|.ok _=>False|.error e=>E e s') s') E s) :
  wpAny (model prog w) A (call (.builtin id) args x) Q E s:=by
 refine qiJ (codeAny_call_builtin hp hb ?_);simp only[checkBuiltinCall,K];cases hsig:Manifest.signature? id with
 |none=>exact qaq hc
 |some Y=>
  have h2:=by simpa only[argsOk,hsig] using ha
  show wpAny _ A.in1 (Bind.checkArgs id Y _) _ _ s;rw[h2];exact qaq hc
theorem xM (a v:Value):argsOk "max" ⟨[a],[(qeL "default",v)]⟩:=by kernel_rfl
def CK (ns:List Int) (d:Option Int):Option Int:=match ns with
 |n::r=>some (ug r n)
 |[]=>d
theorem yn (P:A.handled=none) (hi:qct items.toList ns) (u:S≠I) (H:l≠I) (J:l≠S) {c:Nat} (B:s.heap.IsListIter I l 0) (C:s.heap.IsList l items) (L:s.heap.get? S=some { cls:=.type "list",dict:=none,data:=.seq #[] c,slots:=#[] })
  (O:∀ v h',(∀ b o,b≠I->b≠S->s.heap.get? b=some o->h'.get? b=some o)->(∀ n r,ns=n::r->∃ t,v=.int (ug r n) t)->(ns=[]->∃ k,x=[(k,v)])->R (.ok (.ret v)) { s with heap:=h' })
  (h0:ns=[]->∃ k v,x=[(k,v)]):qea (model prog w) A (.builtin "max.loop" ⟨[.ref I,.none,.ref S],x⟩) R s:=by
 refine qd9 qgi ?_;rw[qeH qcU _];refine qac (qck L U ?_);cases hn:ns with
 |nil=>
  obtain⟨k,v,rfl⟩:=h0 hn;refine qac (qeo (qe3 P B C (tO hi (by rw[hn];rfl)) λV z=>?_));refine qac (qdM (qaq ?_));exact O v _ (λb o i _ q=>z _ _ i q) (λn r e=>by rw[hn]at e;cases e) λ_=>⟨k,U⟩
 |cons n g=>
  obtain⟨tn,hx⟩:=tP hi (j:=0) (by rw[hn];rfl);refine qac (qeo (qeU B C hx λV y s1=>?_));have z:=s1.extBut;have D:=z _ _ u L;show wpAny _ A.in1 (updateSeq S _ >>= _) _ _ _;refine qac (qgD D U ?_);refine qaq ⟨qfS qcU _,DL P hi u H J g 1 _ n tn _ (by rw[hn];rfl) (y.at λo q=>(qbn _ _ u).trans q) (Heap.IsList.at C λo q=>(qbn _ _ (qbz J)).trans (z _ _ H q)) (qc3 _ D U) λt' h' k=>?_⟩;exact O _ h' (λb o i p q=>k b o i p ((qbn _ _ (qbz p)).trans (z _ _ i q))) (λn' r' e=>by rw[hn]at e;cases e;exact⟨t',U⟩) λe=>by rw[hn]at e;cases e
theorem qi {Q:Value->qai->Prop} (P:A.handled=none) (hi:qct items.toList ns) (C:s.heap.IsList l items) (K:x=[]\/∃ v,x=[(qeL "default",v)]) (h0:ns=[]->x≠[])
  (h:∀ v h',(∀ b o,s.heap.get? b=some o->h'.get? b=some o)->(∀ n r,ns=n::r->∃ t,v=.int (ug r n) t)->(ns=[]->∃ k,x=[(k,v)])->Q v { s with heap:=h' }) :
  wpAny (model prog w) A (call (.builtin "max") [.ref l] x) Q E s:=by
 have W:l<s.heap.objs.size:=by obtain⟨_,e,_⟩:=C;exact qau e
 have N:(s.heap.push { cls:=.type "list_iterator",data:=.fields #[.ref l,.int 0 0] }).objs.size=s.heap.objs.size+1:=qbp ..
 have fin:∀ dd:List Value,x=dd.map _->wpAny (model prog w) A.in1 (do
   let it <-qiq _
   let b <-newList []
   PySem.again (.builtin "max.loop" ⟨[it,.none,b],dd.map λd=>(qeL "default",d)⟩)) (λfin s'=>match fin with
   |.done f=>(match (Except.ok f) with|.ok (.ret v)=>Q v s'|.ok _=>False|.error e=>E e s')
   |.again X=>X.quiet=true/\qea (model prog w) A X (λr s'=>match r with|.ok (.ret v)=>Q v s'|.ok _=>False|.error e=>E e s') s') E s:=λdd hdd=>by
  refine qac (qex C (qac (qcw ?_)));refine qaq ⟨qfS qcU _,?_⟩;rw[<-hdd];refine yn P hi (by rw[N];exact qfX _) (qaA W) (by rw[N];exact qaA (qa1 W))
   ⟨_,qah _ (qat _ U),U,U⟩ (Heap.IsList.at C λo q=>qah _ (qah _ q)) (qat _ U) (λv h' k V h2=>?_) (λe=>?_)
  ·refine h v h' (λb o q=>?_) V h2
   have hb:=qau q;exact k b o (qaA hb) (by rw[N];exact qaA (qa1 hb)) (qah _ (qah _ q))
  ·rcases K with K|⟨v,K⟩
   ·exact absurd K (h0 e)
   ·exact⟨_,v,K⟩
 rcases K with rfl|⟨v,rfl⟩
 ·refine jT F.kind_max F.plain_max F.entry_max (F.args_max1 _) ?_
  exact (fin [] U)
 ·refine jT F.kind_max F.plain_max F.entry_max (xM _ _) ?_
  exact (fin [v] U)
end
section
variable {K:qae}{X:Cx}{e a b:Expr}{es:List Expr}{pos:Pos}{f fa fb:Ef}{af:Af}
def lsI (st:Sto) (w:W):Option (List Int):=(lsD st w).bind bb
theorem xS (p:X.calm=true) {y:List (Str×Value)}{d:Option V}{ns:List Int}{l:List (Addr×Obj)}{M:St}{H:Hp}{s:qai}{ad:Addr}{Q:VK}{E:XK}{r:Int} (I:Inv X l M H s) (C:Rd H ad (.lst (ns.map V.int)))
  (g:(y=[]/\ns≠[])\/∃ c t,y=[(qeL "default",.int c t)]/\(ns=[]->r=c)) (Y:∀ n q,ns=n::q->r=ug q n) (q:Q (.int r) H) :
  wpAny (model X.prog X.w) X.A (call (.builtin "max") [.ref ad] y) (EP X l M Q) X.xe s:=by
 obtain⟨O,L,N,hz⟩:=I.list (.inl C);refine qi (I.ok.hd p) (by simpa using dh L) N.isList ?_ ?_ λv h' kp A B=>?_
 ·rcases g with g|⟨c,t,g,_⟩
  ·exact .inl g.1
  ·exact .inr ⟨_,g⟩
 ·intro e z
  rcases g with g|⟨c,t,g,_⟩
  ·exact g.2 e
  ·rw[g]at z;cases z
 ·have R:∃ t,v=.int r t:=by
   cases hn:ns with
   |nil=>
    obtain⟨k,o⟩:=B hn;rcases g with g|⟨c,t,g,G⟩
    ·exact absurd hn g.2
    ·rw[g]at o
     cases o;rw[G hn];exact⟨t,U⟩
   |cons n q=>
    rw[Y n q hn];exact A n q hn
  exact⟨.int r,H,I.kept kp,R,q⟩
def dMx (st:Sto):List W->Option D
 |[.d (.int i),.d (.int j)]=>some (.int (if j > i then j else i))
 |[w]=>(lsI st w).bind λns=>(CK ns none).map D.int
 |_=>none
theorem Bx {st:Sto}{H:Hp}{φ:List Addr}{w:W}{v:V}{ns:List Int} (S:Sr K H φ st) (r:Rw K H φ w v) (h:lsI st w=some ns):∃ ad,v=.ref ad/\Rd H ad (.lst (ns.map V.int)):=by
 obtain⟨ds,J,m⟩:=qab.mp h;obtain⟨ad,T,rfl,A,B⟩:=rm S r J;cases bA m;cases B.ints;exact⟨ad,U,A⟩
theorem wd (p:X.calm=true:=by rfl):e6 K X (.builtin "max") dMx:=by
 refine⟨λst ws d h=>?_⟩;have one:∀ w,((lsI st w).bind λns=>(CK ns none).map D.int)=some d->bN X _ (rCD K st [w] d):=λw h=>by
  obtain⟨ns,J,h⟩:=qab.mp h;obtain⟨r,m,rfl⟩:=qad.mp h;intro l s M H xs us Q I L q;obtain⟨φ,S,⟨v,rr,rfl,F,rfl⟩,q⟩:=q;obtain⟨ad,rfl,C⟩:=Bx S F J;obtain⟨u,rfl,ru⟩:=g9 L;cases ru;refine xS (E:=λ_ _ _=>False) (d:=none) p I C (.inl ⟨U,λe=>by rw[e]at m;cases m⟩) (λn q hn=>by rw[hn]at m;exact (qaL m).symm) (q _ H (aS.refl H) U)
 match ws,h with
 |[.d (.int i),.d (.int j)],h=>
  cases h;refine (xR p).imp ?_
  rintro T H Q ⟨φ,S,⟨v,r,rfl,F,u,r',rfl,P,rfl⟩,q⟩
  exact⟨i,j,by rw[F,P],q _ H (aS.refl H) U⟩
 |[w],h=>exact one w (by cases w with|h n=>exact h|d x=>cases x<;>exact h)
end
section
variable {K:qae}{X:Cx}
end
section
variable {K:qae}{X:Cx}{pos:Pos}{a b:Expr}{c:Af}
end
section
variable {K:qae}{X:Cx}{pos:Pos}{e a b c:Expr}{es:List Expr}{f h g:Ef}{d:Af}
end
def aA (f:Str) (a:Ef):Ef
 |env,st=>(a env st).bind λx=>match x.1 with
 |.d (.ob ns ds)=>((ns.zip ds).lookup f).map λd=>(.d d,x.2)
 | .h n=>(match x.2[n]? with
  |some (.o fs)=>(fs.lookup f).map λw=>(w,x.2)
  |_=>none)
 |_=>none
section
variable {K:qae}{H:Hp}{φ:List Addr}
theorem uR {f:Str}{d:D}:∀ {ns:List Str}{ds:List D}{b:List V},Rls K H φ ds b->(ns.zip ds).lookup f=some d->∃ v,(ns.zip b).lookup f=some v/\Rl K H φ d v/\f∈ns
 |[],ds,b,r,h=>by cases h
 |n::ns,[],b,r,h=>by cases h
 |n::ns,x::ds,b,r,h=>by
  obtain⟨v,r',rfl,j,c⟩:=r;rw[qdp,qbB]at h ⊢;by_cases e:(f==n)=true
  ·rw[e]at h ⊢
   cases h;exact⟨v,U,j,by rw[beq_iff_eq.mp e];exact qag⟩
  ·rw[show (f==n)=false by simpa using e]at h ⊢
   obtain⟨k,q,l,o⟩:=uR c h;exact⟨k,q,l,qaj _ o⟩
theorem Rfs.look {f:Str}{w:W}:∀ {fs:List (Str×W)}{b:List (Str×V)},Rfs K H φ fs b->fs.lookup f=some w->∃ v,b.lookup f=some v/\Rw K H φ w v/\∃ p∈fs,p.1=f
 |[],b,r,h=>by cases h
 |(n,x)::fs,b,r,h=>by
  obtain⟨v,r',rfl,j,c⟩:=r;rw[qbB]at h ⊢;by_cases e:(f==n)=true
  ·rw[e]at h ⊢
   cases h;exact⟨v,U,j,_,qag,(beq_iff_eq.mp e).symm⟩
  ·rw[show (f==n)=false by simpa using e]at h ⊢
   obtain⟨k,q,l,p,s,o⟩:=Rfs.look c h;exact⟨k,q,l,p,qaj _ s,o⟩
theorem Rfs.length:∀ {fs:List (Str×W)}{b:List (Str×V)},Rfs K H φ fs b->fs.length=b.length
 |[],b,r=>by cases r;rfl
 |(n,x)::fs,b,r=>by
  obtain⟨v,r',rfl,j,c⟩:=r;rw[qap,qap,Rfs.length c]
theorem Rfs.mem {m:Nat}:∀ {fs:List (Str×W)}{b:List (Str×V)},Rfs K H φ fs b->W.h m∈fs.map (·.2)->m<φ.length
 |[],_,_,hm=>nomatch hm
 |(n,x)::fs,_,r,hm=>by
  obtain⟨v,r',rfl,j,c⟩:=r;rcases qay.mp hm with z|z
  ·subst z
   obtain⟨a,e,_⟩:=j;exact (qar.mp e).1
  ·exact Rfs.mem c z
def oo (f:Str) (w:W):List (Str×W)->List (Str×W)
 |[]=>[(f,w)]
 |(g,x)::r=>if g=f then (g,w)::r else (g,x)::oo f w r
theorem Rfs.put {f:Str}{w:W}{v:V} (i:Rw K H φ w v):∀ {fs:List (Str×W)}{b:List (Str×V)},Rfs K H φ fs b->Rfs K H φ (oo f w fs) (gv f v b)
 |[],_,r=>by cases r;exact⟨v,_,U,i,U⟩
 |(g,x)::fs,_,r=>by
  obtain⟨k,r',rfl,j,c⟩:=r;unfold oo gv;by_cases e:g=f
  ·rw[iFP e,iFP e];exact⟨v,r',U,i,c⟩
  ·rw[iFN e,iFN e];exact⟨k,_,U,j,Rfs.put i c⟩
theorem oq {f:Str}{w:W}:∀ {fs:List (Str×W)}{p:Str×W},p∈oo f w fs->p∈fs\/p=(f,w)
 |[],p,h=>.inr (qal.mp h)
 |(g,x)::fs,p,h=>by
  unfold oo at h;by_cases e:g=f
  ·rw[iFP e]at h
   rcases qay.mp h with z|z
   ·rw[e]at z;exact .inr z
   ·exact .inl (qaj _ z)
  ·rw[iFN e]at h
   rcases qay.mp h with z|z
   ·exact .inl (z ▸ qag)
   ·rcases oq z with z|z
    ·exact .inl (qaj _ z)
    ·exact .inr z
theorem uC {f:Str}{v:V}:∀ {b:List (Str×V)},f∉b.map (·.1)->gv f v b=b++[(f,v)]
 |[],_=>rfl
 |(g,x)::b,h=>by
  unfold gv;rw[iFN (by intro e;exact h (e ▸ qag)),uC λz=>h (qaj _ z)];rfl
theorem Rfs.keys:∀ {fs:List (Str×W)}{b:List (Str×V)},Rfs K H φ fs b->b.map (·.1)=fs.map (·.1)
 |[],b,r=>by cases r;rfl
 |(n,x)::fs,b,r=>by
  obtain⟨v,r',rfl,j,c⟩:=r;rw[qas,qas,Rfs.keys c]
theorem Rfs.snoc {f:Str}{w:W}{v:V} (i:Rw K H φ w v):∀ {fs:List (Str×W)}{b:List (Str×V)},Rfs K H φ fs b->Rfs K H φ (fs++[(f,w)]) (b++[(f,v)])
 |[],_,r=>by cases r;exact⟨v,_,U,i,U⟩
 |(g,x)::fs,_,r=>by
  obtain⟨k,r',rfl,j,c⟩:=r;exact⟨k,_,U,j,Rfs.snoc i c⟩
end
section
variable {K:qae}{X:Cx}{pos j:Pos}{e o:Expr}{N fb:Ef}{f:Str}
theorem mh (h:IE K X e N) (hb:qdD e f X.env (eval e X.env)=eval e X.env:=by rfl) (hK:X.K=K:=by rfl):IE K X (.Attribute e f pos) (aA f N):=by
 subst hK;refine⟨λenv st r b=>?_⟩;simp only[aA,qab]at b;obtain⟨⟨x,s1⟩,hx,b⟩:=b;refine (D1 (h.run _ _ _ hx) hb).imp ?_
 rintro σ H Q ⟨φ,C,F,q⟩
 refine⟨φ,C,F,λv H1 i A s M=>?_⟩;cases x with
 |d x=>
  cases x with
  |ob ns ds=>
   obtain⟨d,hd,rfl⟩:=qad.mp b;obtain⟨a,Cl,t,fs,L,rfl,h0,G,rfl,Y,B,y,h6,h7⟩:=M;obtain⟨u,T,ru,hf⟩:=uR h7 hd;exact⟨a,Cl,t,_,u,U,G,y,h6 f hf,T,q u H1 i A s ru⟩
  |_=>cases b
 |h n=>
  dsimp only at b;split at b
  ·rename_i fs k
   obtain⟨w,hw,rfl⟩:=qad.mp b;obtain⟨a,O,rfl⟩:=M;obtain⟨Cl,t,L,G,I,Y,B,y⟩:=s.at_ n a _ O k;obtain⟨u,T,ru,p,W,rfl⟩:=I.look hw;exact⟨a,Cl,t,L,u,U,G,B,y p W,T,q u H1 i A s ru⟩
  ·cases b
def lD (f:Str) (o v:Ef):Sf
 |env,st=>(v env st).bind λP=>(o env P.2).bind λJ=>match J.1,P.1 with
 | .h n,.d x=>(match J.2[n]? with
  |some (.o fs)=>if fs.length<1000/\(fs.lookup f).isSome=true then some (.nx env (J.2.set n (.o (oo f (.d x) fs)))) else none
  |_=>none)
 |_,_=>none
theorem mz (ho:IE K X o N) (hv:IE K X e fb) (hs:qcD e (some (.Attribute o f j)) pos.line X.env=pure false:=by rfl) (hK:X.K=K:=by rfl):IS K X (.Assign [.Attribute o f j] e pos) (lD f N fb):=by
 subst hK;refine⟨λenv st r b=>?_⟩;simp only[lD,qab]at b;obtain⟨⟨P,s1⟩,ev,⟨J,E⟩,eo,b⟩:=b;cases J with
 |d x=>cases b
 |h n=>
  cases P with
  |h m=>cases b
  |d x=>
   dsimp only at b;split at b
   case h_2=>cases b
   rename_i fs k;split at b
   case isFalse=>cases b
   rename_i hc;cases b;refine (z7 (ho.run _ _ _ eo) (hv.run _ _ _ ev) hs).imp ?_
   rintro D σ H ⟨φ,C,F,q⟩
   refine⟨φ,C,F,λv H1 i A s1 M=>⟨i,C.fw F A,s1,λu H2 φ2 V E w2=>?_⟩⟩;obtain⟨a,O,rfl⟩:=w2;obtain⟨Cl,t,L,G,I,Y,B,y⟩:=E.at_ n a _ O k;obtain⟨w0,R⟩:=qcC.mp hc.2;obtain⟨u0,hu0,ru0,p,W,hpf⟩:=I.look R;have na:=hpf ▸ y p W;refine⟨a,Cl,t,L,U,G,B,na,by rw[<-I.length];exact hc.1,?_⟩
   obtain⟨f3,s3⟩:=E.putC (o:=.ins Cl t (gv f v L)) (c:=.o (oo f (.d x) fs)) O λg=>⟨Cl,t,_,upd_same,(Rfs.put (M.fw s1 V) I).fw E g,(λm hm=>by
    obtain⟨p',l,S⟩:=qaz.mp hm;rcases oq l with z|z
    ·exact Y m (S ▸ qdS (f:=(·.2)) z)
    ·rw[z]at S;cases S),B,(λp' l=>by
    rcases oq l with z|z
    ·exact y p' z
    ·rw[z];exact na)⟩
   exact q σ _ φ2 ((A.trans V).trans f3) (((C.fw F A).fw s1 V).fw E f3) s3
end
section
variable {K:qae}{X:Cx}{pos:Pos}{a e:Expr}{fa:Ef}{af:Af}
def zj (o:Ef) (a:Af):Ef
 |env,st=>(o env st).bind λx=>(a env x.2).bind λr=>match x.1,r.1 with
 |.d (.lst ds),[.d (.int k)]=>(bb ds).bind λns=>if ns.length<=1000 then (ns.idxOf? k).map λj=>(.d (.int (j:Nat)),r.2) else none
 |_,_=>none
def GI (X:Cx):V->List V->Hp->VK->Prop:=λx xs H Q=>∃ (p:Addr) (ns:List Int) (k:Int) (j:Nat),x=.ref p/\xs=[.int k]/\SqL X.K H p (ns.map V.int)/\ns.length<=1000/\ns.idxOf? k=some j/\Q (.int (j:Nat)) H
theorem Dp:∀ {ns:List Int}{k:Int}{j:Nat},ns.idxOf? k=some j->j<ns.length/\ns[j]?=some k/\∀ i,i<j->ns[i]?≠some k:=by
 intro ns k j h;obtain⟨M,h3,h4⟩:=(qgB.mp h);refine⟨M,by rw[qao M,h3],λi hi z=>?_⟩;rw[qao (qd5 hi M)]at z;exact h4 i hi (qaL z)
theorem DN:MtR X "list.index" (GI X):=by
 intro Y s σ H x xs v us Q I rx rv h;obtain⟨p,ns,k,j,rfl,rfl,F,hl,J,q⟩:=h;cases rx;obtain⟨u,rfl,ru⟩:=rv.one;obtain⟨t,rfl⟩:=ru;obtain⟨g,r,pl,hz⟩:=I.list F;obtain⟨j1,j2,j3⟩:=Dp J;have A:g.length=ns.length:=by rw[<-r.length,qaf]
 have at_:∀ (i:Nat) (hi:i<g.length),∃ t,∃ hn:i<ns.length,g[i]=.int ns[i] t:=λi hi=>by
  obtain⟨h',q'⟩:=r.at i hi;have hn:i<ns.length:=by rw[<-A];exact hi
  rw[(qdg ..)]at q';obtain⟨t,e'⟩:=q';exact⟨t,hn,e'⟩
 obtain⟨⟨c,dd,dt,sl⟩,T,hc,n,hd⟩:=pl.isList;subst hc hd;have E:j<g.length:=by rw[A];exact j1
 refine qdd qgc ⟨_,T,U⟩ PySem.F.entry_list_index (PySem.F.args_list_index_2 _ _) (qj3 p g.toArray n dd sl _ _ j (by simpa using E) (by lia) ?_ (λm hm S=>?_)) ⟨T,λy hy=>(eq_isInt k t (dh r) y (by simpa using hy)).at _ _,?_⟩
 ·obtain⟨t',hn,e⟩:=at_ j E
  rw[qao hn]at j2
  have:g.toArray[j]'(by simpa using E)=.int k t':=by simpa [qaL j2] using e
  rw[this];simp[isInt]
 ·have O:=by simpa using hm
  obtain⟨t',hn,e⟩:=at_ m O
  have:g.toArray[m]'hm=.int ns[m] t':=by simpa using e
  rw[this]
  have:=j3 m S
  rw[qao hn]at this;have G:ns[m]≠k:=λz=>this (by rw[z]);simp[isInt,G]
 ·exact⟨.int _,H,I.kept λb o e=>e,⟨_,U⟩,q⟩
theorem qG {w:Pos} (ho:IE K X a fa) (ha:IA K X [e] af) (D:qdD a "index" X.env (eval a X.env)=eval a X.env:=by rfl)
  (l:[e].all aC=true:=by rfl) (B:(w.endLine==pos.line)=true:=by rfl) (hK:X.K=K:=by rfl) :
  IE K X (.Call (.Attribute a "index" w) [e] [] pos) (zj fa af):=by
 subst hK;have C:aC e=true:=by rw[qbx,qaX]at l;exact l.1
 refine⟨λenv st r f=>?_⟩;simp only[zj,qab]at f;obtain⟨⟨x,s1⟩,hx,⟨ws,s2⟩,hw,f⟩:=f;dsimp only at f;split at f
 case h_2=>cases f
 rename_i ds k;simp only[qab]at f;obtain⟨ns,hns,f⟩:=f;split at f
 case isFalse=>cases f
 rename_i hl;obtain⟨j,J,rfl⟩:=qad.mp f;have L:=bA hns;subst L;refine (CP qgd qgc PySem.F.type_list_index DN (ho.run _ _ _ hx) (ha.run _ _ _ hw) D (uI l (by show 1<30;decide)) B (aV C) (bx U)).imp ?_
 rintro σ H Q ⟨φ,W,hS,q⟩
 refine⟨φ,W,hS,λv H1 N f1 S1 w1=>?_⟩;obtain⟨p,vs,rfl,h0,F,P⟩:=w1;have ev:=Rls.ints P;subst ev;refine⟨.inl ⟨U,_,.inl F⟩,N,W.fw hS f1,S1,λus H2 R f2 S2 w2=>?_⟩;obtain⟨y,us',rfl,ry,rfl⟩:=w2;cases (show y=.int k from ry);exact⟨p,ns,k,j,U,U,.inl (F.fw f2 h0),hl,J,q _ H2 R (f1.trans f2) S2 U⟩
end
section
variable {K:qae}{H:Hp}{φ ψ:List Addr}{x Cl L:Addr}{xs:List (Str×V)}{o:HO}
theorem Rl.chx (t:H x=some (.ins Cl L xs)) (A:xs.length<=5) (j:∀ a∈ψ,a=x):∀ {d:D}{v:V},Rl K H φ d v->Rl K (upd H x o) (φ++ψ) d v:=by
 have ne:∀ {a:Addr}{u:HO},H a=some u->(∀ C d f,u≠.ins C d f)->a≠x:=λ{a u} h q z=>by
  subst z;rw[t]at h;cases h;exact q _ _ _ U
 have nin:∀ {a:Addr},a≠x->a∉φ->a∉φ++ψ:=λ{a} n h z=>by
  rcases qaK.mp z with z|z
  ·exact h z
  ·exact n (j a z)
 intro d v;refine (?_:∀ v,Rl K H φ d v->Rl K _ _ d v) v;refine D.rec (motive_2:=λds=>∀ g,Rls K H φ ds g->Rls K (upd H x o) (φ++ψ) ds g) ?_ ?_ ?_ ?_ ?_ ?_ ?_ ?_ ?_ ?_ ?_ ?_ d
 ·exact λv h=>h
 ·exact λb v h=>h
 ·exact λb v h=>h
 ·exact λb v h=>h
 ·exact λb v h=>h
 ·rintro v ⟨a,e,hn,h⟩
  rcases h with⟨d,h⟩|⟨d,h⟩
  ·have n:=ne h (by intros;simp)
   exact⟨a,e,nin n hn,.inl ⟨d,by rw[upd_ne n];exact h⟩⟩
  ·have n:=ne h (by intros;simp)
   exact⟨a,e,nin n hn,.inr ⟨d,by rw[upd_ne n];exact h⟩⟩
 ·rintro ns v ⟨a,e,h⟩
  rcases h with⟨ob,h⟩|h
  ·exact⟨a,e,.inl ⟨ob,by rw[upd_ne (ne h (by intros;simp))];exact h⟩⟩
  ·exact⟨a,e,.inr h⟩
 ·rintro ds B v ⟨a,g,rfl,p,s⟩
  exact⟨a,g,U,by rw[upd_ne (ne p (by intros;simp))];exact p,B g s⟩
 ·rintro ds B v ⟨a,g,rfl,F,p,s⟩
  rcases p with p|⟨ob,p⟩
  ·have n:=ne p (by intros;simp)
   exact⟨a,g,U,nin n F,.inl (by rw[upd_ne n];exact p),B g s⟩
  ·have n:=ne p (by intros;simp)
   exact⟨a,g,U,nin n F,.inr ⟨ob,by rw[upd_ne n];exact p⟩,B g s⟩
 ·rintro ns ds B v ⟨a,C',J,fs,g,rfl,F,p,s,R,N,P,Q,O⟩
  have n:a≠x:=λz=>by
   subst z;rw[t]at p;cases p;rw[s,List.length_zip]at A;lia
  exact⟨a,C',J,fs,g,U,nin n F,by rw[upd_ne n];exact p,s,R,N,P,Q,B g O⟩
 ·exact λg h=>h
 ·rintro d ds I G g ⟨v,r,rfl,p,s⟩;exact⟨v,r,U,I v p,G r s⟩
variable (t:H x=some (.ins Cl L xs)) (A:xs.length<=5) (j:∀ a∈ψ,a=x)
include t A j
theorem Rls.chx:∀ {ds:List D}{g:List V},Rls K H φ ds g->Rls K (upd H x o) (φ++ψ) ds g
 |[],_,h=>h
 |d::ds,_,h=>by
  obtain⟨v,r,rfl,p,s⟩:=h;exact⟨v,r,U,Rl.chx t A j p,Rls.chx s⟩
theorem Rw.chx {w:W}{v:V} (h:Rw K H φ w v):Rw K (upd H x o) (φ++ψ) w v:=by
 cases w with
 |d y=>exact Rl.chx t A j h
 |h n=>
  obtain⟨a,e,rfl⟩:=h;exact⟨a,by rw[qaE (qar.mp e).1];exact e,U⟩
theorem Rws.chx:∀ {ds:List W}{g:List V},Rws K H φ ds g->Rws K (upd H x o) (φ++ψ) ds g
 |[],_,h=>h
 |d::ds,_,h=>by
  obtain⟨v,r,rfl,p,s⟩:=h;exact⟨v,r,U,Rw.chx t A j p,Rws.chx s⟩
theorem Rkv.chx:∀ {ds:List (List Int×D)}{g:List (List Key×V)},Rkv K H φ ds g->Rkv K (upd H x o) (φ++ψ) ds g
 |[],_,h=>h
 |(k,d)::ds,_,h=>by
  obtain⟨v,r,rfl,p,s⟩:=h;exact⟨v,r,U,Rl.chx t A j p,Rkv.chx s⟩
theorem Rkk.chx:∀ {ds:List (Int×D)}{g:List (Key×V)},Rkk K H φ ds g->Rkk K (upd H x o) (φ++ψ) ds g
 |[],_,h=>h
 |(k,d)::ds,_,h=>by
  obtain⟨v,r,rfl,p,s⟩:=h;exact⟨v,r,U,Rl.chx t A j p,Rkk.chx s⟩
theorem Rfs.chx:∀ {ds:List (Str×W)}{g:List (Str×V)},Rfs K H φ ds g->Rfs K (upd H x o) (φ++ψ) ds g
 |[],_,h=>h
 |(k,d)::ds,_,h=>by
  obtain⟨v,r,rfl,p,s⟩:=h;exact⟨v,r,U,Rw.chx t A j p,Rfs.chx s⟩
theorem Rc.chx {k:Nat}{a:Addr}{c:C} (E:a≠x) (h:Rc K H φ k a c):Rc K (upd H x o) (φ++ψ) k a c:=by
 cases c with
 |l ds=>obtain⟨g,q,r⟩:=h;exact⟨g,by rw[upd_ne E];exact q,Rls.chx t A j r⟩
 |n ds=>obtain⟨g,q,r,b⟩:=h;exact⟨g,by rw[upd_ne E];exact q,Rws.chx t A j r,b⟩
 |m ds=>obtain⟨g,q,r⟩:=h;exact⟨g,by rw[upd_ne E];exact q,Rkv.chx t A j r⟩
 |k ds=>obtain⟨g,q,r⟩:=h;exact⟨g,by rw[upd_ne E];exact q,Rkk.chx t A j r⟩
 |o ds=>obtain⟨C',S,g,q,r,b⟩:=h;exact⟨C',S,g,by rw[upd_ne E];exact q,Rfs.chx t A j r,b⟩
theorem Er.chx {env:Ev}{M:St} (h:Er K H φ env M):Er K (upd H x o) (φ++ψ) env M:=
 ⟨h.len,λi w e=>let ⟨v,e1,r⟩:=h.at_ i w e;⟨v,e1,Rw.chx t A j r⟩⟩
end
section
variable {K:qae}{H:Hp}{φ:List Addr}{x Cl j:Addr}{xs:List (Str×V)}{o:HO}{st:Sto}
theorem Sr.chx0 (S:Sr K H φ st) (i:H x=some (.ins Cl j xs)) (f:xs.length<=5) (hn:x∉φ):Sr K (upd H x o) φ st:=by
 refine⟨S.nd,S.len,λn a c d e=>?_⟩
 have:=Rc.chx (o:=o) (ψ:=[]) i f (λa z=>nomatch z) (λz=>hn (z ▸ qbO d)) (S.at_ n a c d e)
 rw[(qcv _)]at this;exact this
theorem Sr.chx1 (S:Sr K H φ st) (i:H x=some (.ins Cl j xs)) (f:xs.length<=5) (hn:x∉φ) {c:C} (l:Rc K (upd H x o) (φ++[x]) st.length x c):Sr K (upd H x o) (φ++[x]) (st++[c]):=by
 refine⟨qcJ.mpr ⟨S.nd,qcu.mpr ⟨qbM,qcS⟩,λa k b hb z=>by rw[qal.mp hb]at z;exact hn (z ▸ k)⟩,by rw[qax,qax,S.len];rfl,λn a m d e=>?_⟩;by_cases h:n<φ.length
 ·rw[qaE h]at d
  rw[qaE (by rw[<-S.len];exact h)]at e;exact Rc.chx i f (λa z=>qal.mp z) (λz=>hn (z ▸ qbO d)) (S.at_ n a m d e)
 ·have p:=(qar.mp d).1
  rw[qax,qcc]at p;have g:n=φ.length:=by lia
  subst g;rw[qaJ (qan _),qeN]at d;rw[S.len,qaJ (qan _),qeN]at e;cases d;cases e;rw[S.len];exact l
end
def qP:List (Str×Ef)->Ev->Sto->Option (List (Str×W)×Sto)
 |[],_,st=>some ([],st)
 |(f,g)::r,env,st=>(g env st).bind λx=>(qP r env x.2).map λy=>((f,x.1)::y.1,y.2)
structure FwX (x:Addr) (φ φ':List Addr) (H H':Hp):Prop where
 ext:∃ ψ,φ'=φ++ψ/\∀ a∈ψ,H a=none\/a=x
 keep:∀ b o,b∉φ->b≠x->H b=some o->H' b=some o
 there:∀ b o,H b=some o->∃ o',H' b=some o'
theorem FwX.pre {x:Addr}{φ a i:List Addr}{H H1 H2:Hp}{o n:HO} (r:H x=some n) (hn:x∉a) (f:Fw φ a H H1) (g:FwX x a i (upd H1 x o) H2):FwX x φ i H H2:=by
 obtain⟨ψ,rfl,k⟩:=f.ext;obtain⟨p,rfl,m⟩:=g.ext;have l:∀ b u,H b=some u->∃ d,upd H1 x o b=some d:=λb u h=>by
  by_cases z:b=x
  ·exact⟨o,by rw[z,upd_same]⟩
  ·obtain⟨d,h'⟩:=f.there b u h
   exact⟨d,by rw[upd_ne z];exact h'⟩
 refine⟨⟨_,by rw[qcK],λc j=>?_⟩,λc u j e h=>?_,λc u h=>?_⟩
 ·rcases qaK.mp j with z|z
  ·exact .inl (k c z)
  ·rcases m c z with q|q
   ·left
    cases q':H c with
    |none=>rfl
    |some u=>
     obtain⟨d,h'⟩:=l c u q';rw[q]at h';cases h'
   ·exact .inr q
 ·refine g.keep c u (λz=>?_) e (by rw[upd_ne e];exact f.keep c u j h)
  rcases qaK.mp z with z|z
  ·exact j z
  ·rw[k c z]at h;cases h
 ·obtain⟨d,h'⟩:=l c u h
  exact g.there c d h'
def GR (K:qae) (g:List (Str×Ef)) (env:Ev) (st:Sto) (y:List (Str×W)×Sto):TS:=λD b H=>∃ φ x Cl c xs fs,Er K H φ env b/\Sr K H φ st/\b[0]?=some (some (.ref x))/\x∉φ/\H x=some (.ins Cl c xs)/\Rfs K H φ fs xs/\
 Cls K Cl/\(∀ p∈fs,cF K Cl p.1)/\(∀ p∈g,cF K Cl p.1)/\fs.length+g.length=6/\(∀ p∈g,p.1∉fs.map (·.1))/\(g.map (·.1)).Nodup/\
 ∀ H' a,FwX x φ a H H'->Sr K H' a (y.2++[.o (fs++y.1)])->a[y.2.length]?=some x->D.nx b H'
structure INI (K:qae) (X:Cx) (ss:List Stmt) (g:List (Str×Ef)):Prop where
 run:∀ env st y,qP g env st=some y->PSs X ss (GR K g env st y)
section
variable {K:qae}{X:Cx}{e:Expr}{F:Ef}{f:Str}{ss:List Stmt}{g:List (Str×Ef)}{pos c p1:Pos}
theorem tM {env:Ev}{st:Sto}{w:W}{s1:Sto} (N:X.N[0]?=some ("self" : Str)) (P:Vis X.env.scope "self") (O:IE K X e F) (M:F env st=some (w,s1)) (Q:X.K=K)
  (R:qcD e (some (.Attribute (.Name "self" p1) f c)) pos.line X.env=pure false) :
  PS X (.Assign [.Attribute (.Name "self" p1) f c] e pos) (λD L H=>∃ φ x Cl j xs,Er K H φ env L/\Sr K H φ st/\L[0]?=some (some (.ref x))/\x ∉ φ/\H x=some (.ins Cl j xs)/\Cls K Cl/\cF K Cl f/\xs.length<=5/\f ∉ xs.map (·.1)/\
   ∀ v H1 d,Fw φ d H H1->Sr K H1 d s1->Rw K H1 d w v->x∉d->H1 x=some (.ins Cl j xs)->D.nx L (upd H1 x (.ins Cl j (xs++[(f,v)])))):=by
 subst Q;refine (z7 (jK N P) (O.run _ _ _ M) R).imp ?_
 rintro D L H ⟨φ,x,Cl,j,xs,G,u,I,C,s,n,E,T,A,q⟩
 refine⟨φ,G,u,λv H1 d l k J=>⟨_,I,x,Cl,j,xs,U,l.keep _ _ C s,n,E,by lia,?_⟩⟩;rw[uC A];exact q v H1 d l k J (l.nin C s) (l.keep _ _ C s)
theorem Bl (N:X.N[0]?=some ("self" : Str)) (P:Vis X.env.scope "self") (O:IE K X e F) (Q:X.K=K:=by rfl)
  (R:qcD e (some (.Attribute (.Name "self" p1) f c)) pos.line X.env=pure false:=by rfl):INI K X [.Assign [.Attribute (.Name "self" p1) f c] e pos] [(f,F)]:=by
 refine⟨λenv st y r=>?_⟩;simp only[qP,qab,qak]at r;obtain⟨⟨w,s1⟩,M,r⟩:=r;cases r;refine (xn (tM N P O M Q R)).imp ?_
 rintro D L H ⟨φ,x,Cl,j,xs,fs,G,u,I,C,s,n,E,T,A,Y,V,t,q⟩
 have hl:xs.length=5:=by rw[<-n.length];simpa using Y
 have nf:f∉xs.map (·.1):=by rw[n.keys];exact V _ qag
 refine⟨φ,x,Cl,j,xs,G,u,I,C,s,E,A _ qag,by lia,nf,λv H1 d l k J hn i=>?_⟩;have r1:=n.fw u l;have w2:=Rw.chx (o:=.ins Cl j (xs++[(f,v)])) i (by lia) (λa z=>qal.mp z) J
 refine q _ _ ?_ (k.chx1 i (by lia) hn ⟨Cl,j,_,upd_same,Rfs.snoc w2 (Rfs.chx (o:=.ins Cl j (xs++[(f,v)])) (ψ:=[x]) i (by lia) (λa z=>qal.mp z) r1),λm hm=>by rw [<-k.len];exact (Rfs.snoc (f:=f) J r1).mem hm,E,λp B=>by
  rcases qaK.mp B with z|z
  ·exact T p z
  ·rw[qal.mp z];exact A _ qag⟩) (by rw[<-k.len,qaJ (qan _),qeN];rfl)
 refine FwX.pre s hn l ⟨⟨_,U,λa z=>.inr (qal.mp z)⟩,λb o _ _ h=>h,λb o h=>⟨o,h⟩⟩
theorem iu (N:X.N[0]?=some ("self" : Str)) (P:Vis X.env.scope "self") (O:IE K X e F) (hr:INI K X ss g) (hg:g≠[]:=by intro z;cases z) (Q:X.K=K:=by rfl)
  (R:qcD e (some (.Attribute (.Name "self" p1) f c)) pos.line X.env=pure false:=by rfl):INI K X (.Assign [.Attribute (.Name "self" p1) f c] e pos::ss) ((f,F)::g):=by
 refine⟨λenv st y r=>?_⟩;simp only[qP,qab]at r;obtain⟨⟨w,s1⟩,M,r⟩:=r;obtain⟨y',hy',rfl⟩:=qad.mp r;refine (dC (tM N P O M Q R) (hr.run _ _ _ hy')).imp ?_
 rintro D L H ⟨φ,x,Cl,j,xs,fs,G,u,I,C,s,n,E,T,A,Y,V,t,q⟩
 have hg1:=qhe.mpr hg;have hl:xs.length<=4:=by rw[<-n.length];rw[qap]at Y;lia
 have nf:f∉xs.map (·.1):=by rw[n.keys];exact V _ qag
 refine⟨φ,x,Cl,j,xs,G,u,I,C,s,E,A _ qag,by lia,nf,λv H1 d l k J hn i=>?_⟩;have r2:=Rfs.chx (o:=.ins Cl j (xs++[(f,v)])) (ψ:=[]) i (by lia) (λa z=>nomatch z) (n.fw u l)
 have w2:=Rw.chx (o:=.ins Cl j (xs++[(f,v)])) (ψ:=[]) i (by lia) (λa z=>nomatch z) J
 have S:=Er.chx (o:=.ins Cl j (xs++[(f,v)])) (ψ:=[]) i (by lia) (λa z=>nomatch z) (G.fw u l)
 rw[(qcv _)]at r2 w2 S;rw[qas,qcu]at t;refine⟨d,x,Cl,j,_,_,S,k.chx0 i (by lia) hn,I,hn,upd_same,Rfs.snoc w2 r2,E,λp B=>?_,λp B=>A p (qaj _ B),by rw[qax,qcc];rw[qap]at Y;lia,λp B z=>?_,t.2,λH' φ' fx S' ex=>?_⟩
 ·rcases qaK.mp B with z|z
  ·exact T p z
  ·rw[qal.mp z];exact A _ qag
 ·rw[qbJ]at z
  rcases qaK.mp z with z|z
  ·exact V p (qaj _ B) z
  ·rw[qas,qcs,qal]at z
   exact t.1 (z ▸ qdS B)
 ·rw[qcK]at S'
  exact q H' φ' (FwX.pre s hn l fx) S' ex
end
def Ce (K:qae) (n:Nat) (ps:Nat) (g:List (Str×Ef)):Sp:=λd H Q _=>∃ φ st ws y x c Cl a H1,d=.ref x::a/\ws.length+1=ps/\qP g (none::(ws.map some++qaC (n - ps) none)) st=some y/\Rws K H1 φ ws a/\Sr K H1 φ st/\H1 x=none/\H1 c=none/\c≠x/\
 H=upd (upd H1 c (.own x)) x (.ins Cl c [])/\Cls K Cl/\(∀ p∈g,cF K Cl p.1)/\g.length=6/\(g.map (·.1)).Nodup/\∀ H' b,Fw φ b H1 H'->Sr K H' b (y.2++[.o y.1])->b[y.2.length]?=some x->Q .non H'
theorem E3 {P:qaM}{w:World}{K:qae}{mg:Str->Option Value}{base:Heap}{x c:Str}{st:Stmt}{f:Addr}{fd:qca}{N ps:List Str}{k:Nat}{g:List (Str×Ef)} (F:Fun K x c st f fd) (S:cD N ps (av st)) (hN:ps.length<=N.length)
  (hb:∀ (j:Value) (A:qaU) (outer:List Env) (s:qai) (H:Hp) (E:XK),bv k (A.deeper (qez c (av st) s.heap.objs.size f j))->INI K (fV CX0 P w K mg base N c (av st) f j A outer s H E).nox (bf st) g) :
  dR P w K mg base CX0 (k+1) f fd ps (Ce K N.length ps.length g):=by
 refine F.ok S (λV H Q E h=>?_) λj A outer s H V Q E X h=>?_
 ·obtain⟨φ,st,ws,y,x,r,Cl,l,H1,rfl,u,e,rw,_⟩:=h
  rw[qap,<-rw.length,u]
 ·obtain⟨φ,T,ws,y,x,r,Cl,l,H1,rfl,u,e,rw,S',n,hd,m,rfl,L,hA,J,C,q⟩:=h
  refine⟨_,(hb j A outer s _ E X).run _ _ _ e,φ,x,Cl,r,_,[],?_,?_,?_,?_,upd_same,U,L,λp O=>(nomatch O),hA,by simpa using J,λp _ z=>(nomatch z),C,λH' B t S2 ex=>?_⟩
  ·have sm:aS H1 (upd (upd H1 r (.own x)) x (.ins Cl r [])):=(aS.new hd _).trans (aS.new (by rw[upd_ne (qbz m)];exact n) _)
   have G:=nu (N:=N) (ws:=.d .non::ws) ⟨_,l,U,U,(rw.fw S' (Fw.same sm))⟩ (by exact u);refine⟨?_,λi w D=>?_⟩
   ·have:=G.len
    unfold gx at this ⊢
    simp at this ⊢
    lia
   ·cases i with
    |zero=>cases D
    |succ i=>
     obtain⟨v,I,W⟩:=G.at_ (i+1) w D;refine⟨v,?_,W⟩;unfold gx at I ⊢;simpa using I
  ·exact S'.same ((aS.new hd _).trans (aS.new (by rw[upd_ne (qbz m)];exact n) _))
  ·rfl
  ·exact S'.nin n
  ·refine q H' B ?_ S2 ex
   obtain⟨ψ,rfl,R⟩:=t.ext;have sm:aS H1 (upd (upd H1 r (.own x)) x (.ins Cl r [])):=(aS.new hd _).trans (aS.new (by rw[upd_ne (qbz m)];exact n) _);refine⟨⟨ψ,U,λa M=>?_⟩,λb o hb h=>?_,λb o h=>t.there b o (sm b o h)⟩
   ·rcases R a M with z|z
    ·cases q':H1 a with
     |none=>rfl
     |some o=>rw[sm a o q']at z;cases z
    ·rw[z];exact n
   ·exact t.keep b o hb (λz=>by rw[z,n]at h;cases h) (sm b o h)
def pF (n ps:Nat) (g:List (Str×Ef)) (a:Af):Ef
 |env,st=>(a env st).bind λr=>if r.1.length+1=ps then (qP g (none::(r.1.map some++qaC (n - ps) none)) r.2).map λy=>(.h y.2.length,y.2++[.o y.1]) else none
theorem Bk {K:qae}{X:Cx}{x:Str}{k j:Nat}{m Cl:Addr}{fd:qca}{N ps:List Str}{g:List (Str×Ef)}{p pos:Pos}{e:Expr}{es:List Expr}{l:Af} (M:Mk X.K Cl m) (F:dR X.prog X.w X.K X.mg X.base CX0 j m fd ps (Ce K N.length ps.length g)) (b:j<=k) (O:bv (k+1) X.A) (hg:Gl X x) (hm:X.mg x=some (.ref Cl)) (hb:dn X.K fd ps [])
  (o:Cls K Cl) (hA:∀ p∈g,cF K Cl p.1) (n:g.length=6) (i:(g.map (·.1)).Nodup)
  (w:IA K X (e::es) l) (c:(x==("__debug__" : Str))=false:=by decide) (J:aC e=true:=by rfl) (E:es.all aC=true:=by rfl) :
  IE K X (.Call (.Name x p) (e::es) [] pos) (pF N.length ps.length g l):=by
 refine⟨λenv st r h=>?_⟩;simp only[pF,qab]at h;obtain⟨y,D,h⟩:=h;split at h
 case isFalse=>cases h
 rename_i v;obtain⟨z,B,rfl⟩:=qad.mp h;refine (BO M (F.mono b) O hg hm hb .nil zO (w.run _ _ _ D) c (aV J) (bx E)).imp ?_
 rintro P H Q ⟨φ,s,u,q⟩
 refine⟨φ,s,u,λL H1 d I s1 A=>λx G t hd a=>?_⟩;rw[qcv];refine⟨d,_,_,z,x,G,Cl,L,H1,U,v,B,A,s1,t,hd,a,U,o,hA,n,i,λH' f C S2 ex=>⟨U,?_⟩⟩;exact q _ H' f (I.trans C) S2 ⟨x,ex,U⟩
def vwF (st:Sto):List (Str×W)->Option (List D)
 |[]=>some []
 |(_,.d x)::r=>(vwF st r).map λy=>x::y
 |(_,.h m)::r=>(lg st m).bind λds=>(vwF st r).map λy=>.lst ds::y
def vwW (st:Sto):W->Option W
 |.d x=>some (.d x)
 |.h n=>match st[n]? with
  |some (.o fs)=>if 5<fs.length then (vwF st fs).map λds=>.d (.ob (fs.map (·.1)) ds) else none
  |some (.l ds)=>some (.d (.lst ds))
  |_=>none
def vwA (st:Sto):List W->Option (List W)
 |[]=>some []
 |w::ws=>(vwW st w).bind λx=>(vwA st ws).map λy=>x::y
mutual
def okT:D->Bool
 |.non=>true
 |.bl _=>true
 |.int _=>true
 |.str _=>true
 |.tup ds=>vD ds
 |_=>false
def vD:List D->Bool
 |[]=>true
 |d::ds=>okT d&&vD ds
end
section
variable {K:qae}{H:Hp}{φ φ':List Addr}
mutual
theorem Rl.any:∀ {d:D}{v:V},okT d=true->Rl K H φ d v->Rl K H φ' d v
 |.non,_,_,h=>h
 |.bl _,_,_,h=>h
 |.int _,_,_,h=>h
 |.str _,_,_,h=>h
 |.tup ds,_,o,h=>by
  obtain⟨a,vs,rfl,h1,h2⟩:=h;exact⟨a,vs,U,h1,Rls.any (by rw[okT]at o;exact o) h2⟩
 |.ty _,_,o,_=>by rw[okT]at o<;>first|cases o|(intros;simp)
 |.dct,_,o,_=>by rw[okT]at o<;>first|cases o|(intros;simp)
 |.scr _,_,o,_=>by rw[okT]at o<;>first|cases o|(intros;simp)
 |.lst _,_,o,_=>by rw[okT]at o<;>first|cases o|(intros;simp)
 |.ob _ _,_,o,_=>by rw[okT]at o<;>first|cases o|(intros;simp)
theorem Rls.any:∀ {ds:List D}{vs:List V},vD ds=true->Rls K H φ ds vs->Rls K H φ' ds vs
 |[],_,_,h=>h
 |d::ds,_,o,h=>by
  rw[vD,qaX]at o;obtain⟨v,r,rfl,h1,h2⟩:=h;exact⟨v,r,U,Rl.any o.1 h1,Rls.any o.2 h2⟩
end
theorem Rl.bare {d:D}{v:V} (h:Rl K H φ d v):Rl K H [] d v:=Rl.less h
theorem Rls.bare {d:List D}{v:List V} (h:Rls K H φ d v):Rls K H [] d v:=Rls.less h
theorem pR:∀ {fs:List (Str×W)}{vs:List (Str×V)},Rfs K H φ fs vs->vs=(fs.map (·.1)).zip (vs.map (·.2))
 |[],vs,r=>by cases r;rfl
 |(n,x)::fs,vs,r=>by
  obtain⟨v,r',rfl,g,j⟩:=r;rw[qas,qas,qdp,<-pR j]
theorem so {st:Sto} (S:Sr K H φ st):∀ {fs:List (Str×W)}{vs:List (Str×V)}{ds:List D},Rfs K H φ fs vs->vwF st fs=some ds->Rls K H [] ds (vs.map (·.2))
 |[],vs,ds,r,h=>by cases r;cases h;rfl
 |(n,.d x)::fs,vs,ds,r,h=>by
  obtain⟨v,r',rfl,g,j⟩:=r;obtain⟨y,k,rfl⟩:=qad.mp h;exact⟨v,_,U,Rl.bare g,so S j k⟩
 |(n,.h m)::fs,vs,ds,r,h=>by
  obtain⟨v,r',rfl,g,j⟩:=r;obtain⟨es,t,h⟩:=qab.mp h;obtain⟨y,k,rfl⟩:=qad.mp h;obtain⟨a,l,rfl⟩:=g;obtain⟨s,B,C⟩:=S.atl m a es l t;exact⟨_,_,U,⟨a,s,U,qbM,.inl B,Rls.bare C⟩,so S j k⟩
theorem xE {st:Sto} (S:Sr K H φ st):∀ {ws:List W}{vs:List V}{e:List W},Rws K H φ ws vs->vwA st ws=some e->Rws K H [] e vs
 |[],vs,e,r,h=>by cases h;exact r
 |w::ws,vs,e,r,h=>by
  obtain⟨v,r',rfl,g,j⟩:=r;obtain⟨x,c,h⟩:=qab.mp h;obtain⟨y,k,rfl⟩:=qad.mp h;refine⟨v,r',U,?_,xE S j k⟩;cases w with
  |d z=>cases c;exact Rl.bare g
  |h n=>
   unfold vwW at c;dsimp only at c;split at c
   ·rename_i fs A
    split at c
    ·rename_i J
     obtain⟨ds,i,rfl⟩:=qad.mp c;obtain⟨a,l,rfl⟩:=g;obtain⟨Cl,I,s,q,u,b,G,hA⟩:=S.at_ n a _ l A;refine⟨a,Cl,I,s,_,U,qbM,q,pR u,by rw[qaf,qaf,u.length],by rw[qaf];exact J,G,λf E=>?_,so S u i⟩;obtain⟨p,F,rfl⟩:=qaz.mp E;exact hA p F
    ·cases c
   ·rename_i ds i
    cases c;obtain⟨a,l,rfl⟩:=g;obtain⟨s,B,C⟩:=S.at_ n a _ l i;exact⟨a,s,U,qbM,.inl B,Rls.bare C⟩
   ·cases c
end
def df (m:Fn) (a:Af):Ef
 |env,st=>(a env st).bind λr=>(vwA r.2 r.1).bind λws=>(m ws []).bind λy=>match y.1 with
 |.d x=>if okT x=true then some (.d x,r.2) else none
 |_=>none
theorem zo {K:qae}{X:Cx}{e:Expr}{es:List Expr}{pos:Pos}{t:Af}{x:Str}{k j:Nat}{s:Addr}{fd:qca}{ps:List Str}{m:Fn}{p:Pos} (F:dR X.prog X.w X.K X.mg X.base CX0 j s fd ps (spI K m)) (f:j<=k) (R:bv k X.A) (hg:Gl X x) (hm:X.mg x=some (.ref s)) (A:qcO X.K (.ref s)=true) (hb:dn X.K fd ps [])
  (C:IA K X (e::es) t) (g:(x==("__debug__" : Str))=false:=by decide) (O:aC e=true:=by rfl) (L:es.all aC=true:=by rfl) :
  IE K X (.Call (.Name x p) (e::es) [] pos) (df m t):=by
 refine⟨λenv st r h=>?_⟩;simp only[df,qab]at h;obtain⟨y,J,ws,l,⟨w,S⟩,E,h⟩:=h;cases w with
 |h n=>cases h
 |d z=>
  dsimp only at h;split at h
  case isFalse=>cases h
  rename_i hok;cases h;refine (xh (F.mono f) R hg hm A hb .nil zO (C.run _ _ _ J) g (aV O) (bx L)).imp ?_
  rintro V H Q ⟨φ,u,B,q⟩
  refine⟨φ,u,B,λT H1 i M s1 D=>?_⟩;show spI K m _ H1 Q E0;rw[qcv];refine⟨_,_,ws,_,E,xE s1 D l,⟨qcS,U,λn a c N _=>by cases N⟩,λv H2 P G I w2=>?_⟩;have sm:=λb o h=>G.keep b o qbM h;exact q v H2 i (M.trans (Fw.same sm)) (s1.same sm) (Rl.any hok w2)
theorem Rls.flat {K:qae}{H H':Hp}{φ c:List Addr}:∀ {ds:List D}{e:List V},ds.all cf=true->Rls K H φ ds e->Rls K H' c ds e
 |[],_,_,h=>h
 |d::ds,_,o,h=>by
  rw[qbx,qaX]at o;obtain⟨v,r,rfl,a,f⟩:=h;refine⟨v,r,U,?_,Rls.flat o.2 f⟩;cases d with
  |non=>exact a
  |bl b=>exact a
  |int b=>exact a
  |str b=>exact a
  |_=>exact absurd o.1 (by simp[cf])
def i3 (b f e h g:Nat) (fl:Lf):Sf
 |env,st=>(fl env st).bind λr=>match env.getD f none,env.getD e none,env.getD h none,env.getD g none with
 |some (.d (.int p)),some (.d (.int c)),some (.d (.lst ts)),some (.d a)=>(ixN r.1.length p).bind λj=>(ixN ts.length c).bind λi=>if ts.length<=1000000/\b<env.length/\ts.all cf=true then some (.nx (env.set b (some (.d (.lst (r.1.set j (.lst (ts.set i a))))))) r.2) else none
 |_,_,_,_=>none
theorem mf {env:Ev}{i:Nat}{w:W} (h:env.getD i none=some w):env[i]?=some (some w):=by
 rw[qf5]at h;cases q:env[i]? with
 |none=>rw[q]at h;cases h
 |some o=>rw[q]at h;rw[show o=some w from h]
theorem Bn {α:Type}{xs:List α}{i:Int}{j:Nat}{v:α} (h:ixN xs.length i=some j) (a:xs[j]?=some v):atI xs i=some v:=by
 unfold atI;rw[h];exact a
theorem DB {n:Nat}{i:Int}{j:Nat} (h:ixN n i=some j):j<n:=(q9 h).2.1
structure ISL (K:qae) (X:Cx) (s:Stmt) (i0:Nat) (fl:Lf):Prop where
 run:∀ env st r,fl env st=some r->PS X s (λD σ H=>∃ φ,Er K H φ env σ/\Sr K H φ st/\∀ a vs H1 φ',Fw φ φ' H H1->Sr K H1 φ' r.2->H1 a=none->Rls K H1 φ' r.1 vs->D.nx (σ.set i0 (some (.ref a))) (upd H1 a (.lst vs)))
theorem Dx {K:qae}{X:Cx}{pos:Pos}{m:Expr}{b:Scope}{Nc:List Str}{k:Nat}{js:List Nat}{f iter:Expr}{h:List Expr}{z:Lf}{g:Tg}{tt:Tf}{te:Ef}{y:Nat}{i:Str}{A e:Pos}
  (u:X.N.Nodup) (o:X.N[y]?=some i) (t:Loc X.env.scope i) (S:dS X b Nc (f8 k js)) (E:X.calm=true) (v:∀ j∈tL g,j<k) (hi:II K X m iter z)
  (hg:∀ a s H C d,PG (lcX X b a Nc s H C d) m (tG K g)) (I:∀ a s H C d,ITs K (lcX X b a Nc s H C d) h tt) (G:∀ a s H C d,IE K (lcX X b a Nc s H C d) f te)
  (hsw:qcD (.ListComp f [⟨m,iter,h,0⟩] b pos) (some (.Name i A)) e.line X.env=pure true:=by rfl)
  (p:X.fn i=true\/X.env.scope.names.lookup i=some .local:=by first|exact .inl U|exact .inr U|assumption)
  (L:∀ x,qbZ iter X.env x=pure x:=by intro _;rfl):ISL K X (.Assign [.Name i A] (.ListComp f [⟨m,iter,h,0⟩] b pos) e) y (iLc k js z g tt te):=by
 refine⟨λenv st r n=>?_⟩;simp only[iLc,qab]at n;obtain⟨⟨ds,s1⟩,J,n⟩:=n;have c:=n;by_cases w:¬ ds.length<=1000000
 ·rw[iFN w]at c;cases c
 have l:ds.length<=1000000:=by lia
 rw[iFP l]at c;refine (CV u o t S E (hi.run _ _ _ J) hg (λa s H C d=>(I a s H C d).run) (λa s H C d=>(G a s H C d).any) hsw p L).imp ?_
 rintro D M H ⟨φ,B,F,q⟩
 exact vj v l c M H _ ⟨φ,B,F,q⟩
section
variable {K:qae}{X:Cx}{s1':Stmt}{m t E I G:Str}{l W S Y ia:Nat}{comp:Expr}{fl:Lf}{ss:List Stmt}{gb:Sf}{p1 p2 p3 p4 p5 p6 p7 p8 p9 q1 q2 q3 q4 q5 q6 q7:Pos}
theorem i7 (hN:X.N.Nodup) (nl:X.N[l]?=some m) (np:X.N[W]?=some t) (nc:X.N[S]?=some E) (nt:X.N[Y]?=some I) (na:X.N[ia]?=some G)
  (ll:Loc X.env.scope m) (vl:Vis X.env.scope m) (vp:Vis X.env.scope t) (vc:Vis X.env.scope E) (vt:Vis X.env.scope I) (va:Vis X.env.scope G) (d1:l≠W) (d2:l≠S) (d3:l≠Y) (d4:l≠ia)
  (bl:(m==("__debug__" : Str))=false) (bp:(t==("__debug__" : Str))=false) (bc:(E==("__debug__" : Str))=false) (bt:(I==("__debug__" : Str))=false) (ba:(G==("__debug__" : Str))=false)
  (el:(m==("__classdict__" : Str))=false) (ep:(t==("__classdict__" : Str))=false) (ec:(E==("__classdict__" : Str))=false) (et:(I==("__classdict__" : Str))=false) (ea:(G==("__classdict__" : Str))=false)
  (N:ISL K X s1' l fl) (hgL:Gl X "list") (hmL:X.mg "list" = none) (P:ISs K X ss gb)
  (hs2:qdX [.Subscript (.Name m p3) (.Name t p4) p5] (.Call (.Name "list" p6) [.Name I p7] [] p8) p9.line X.env=pure false) (hw2:qdY [.Subscript (.Name m p3) (.Name t p4) p5] (.Call (.Name "list" p6) [.Name I p7] [] p8) X.env=pure none)
  (hs3:qdX [.Subscript (.Subscript (.Name m q1) (.Name t q2) q3) (.Name E q4) q5] (.Name G q6) q7.line X.env=pure false) (hw3:qdY [.Subscript (.Subscript (.Name m q1) (.Name t q2) q3) (.Name E q4) q5] (.Name G q6) X.env=pure none) (hK:X.K=K) :
  ISs K X (s1'::.Assign [.Subscript (.Name m p3) (.Name t p4) p5] (.Call (.Name "list" p6) [.Name I p7] [] p8) p9::.Assign [.Subscript (.Subscript (.Name m q1) (.Name t q2) q3) (.Name E q4) q5] (.Name G q6) q7::ss) (ah (i3 l W S Y ia fl) gb):=by
 subst hK;refine⟨λenv st r hr=>?_⟩;simp only[ah,i3,qab]at hr;obtain⟨r1,⟨⟨ds,s1⟩,hfl,g⟩,hr⟩:=hr;split at g
 case h_2=>cases g
 rename_i p c ts a hp hc ht ha';simp only[qab]at g;obtain⟨j,hj,i,hi,g⟩:=g;split at g
 case isFalse=>cases g
 rename_i hz;cases g;have pl:∀ {q:Pos},PE X (.Name m q) (uK l):=λ{q}=>jK nl vl bl el;have pp:∀ {q:Pos},PE X (.Name t q) (uK W):=λ{q}=>jK np vp bp ep;have pc:∀ {q:Pos},PE X (.Name E q) (uK S):=λ{q}=>jK nc vc bc ec;have pt:∀ {q:Pos},PE X (.Name I q) (uK Y):=λ{q}=>jK nt vt bt et;have pa:∀ {q:Pos},PE X (.Name G q) (uK ia):=λ{q}=>jK na va ba ea
 refine (dC (N.run _ _ _ hfl) (dC (rQ (dj ((iZ (K:=X.K) U).run s1 [.d (.lst ts)] ts U) hgL hmL qaR (mL pt rO) (by decide) (by decide)) (vF pl pp oA (pU U)) hs2 hw2 (l6 U))
  (dC (rQ pa (vF (CQ ve pl pp (tZ U)) pc oA (pU U)) hs3 hw3 (l6 U)) (P.run _ _ _ hr)))).imp ?_
 rintro D σ H ⟨φ,hE,hS,q⟩
 refine⟨φ,hE,hS,λy T H1 n f1 S1 B rl=>?_⟩;have x:=hE.fw hS f1;obtain⟨vp',gp,rp⟩:=x.at_ W _ (mf hp);obtain⟨vc',gc,rc⟩:=x.at_ S _ (mf hc);obtain⟨vt',gt,rt⟩:=x.at_ Y _ (mf ht);obtain⟨L,ga,ra⟩:=x.at_ ia _ (mf ha');subst rp rc;have f:∀ {k:Nat}{u:V}{v:V},l≠k->σ[k]?=some _->(σ.set l (some v))[k]?=some (some u):=λ{k u v} h e=>by rw[qbE h];exact e
 -- the list's line
 refine⟨_,f d3 gt,n,S1.new B,⟨vt',_,U,?_,U⟩,λbl J H2 sm M ru=>?_⟩
 ·exact (Rl.fw S1 (Fw.new B) rt)
 have F:=sm _ _ upd_same;have C:=aO F M;have s:=rl.length.symm;have R:(σ.set l (some (.ref y)))[l]?=some (some (.ref y)):=by
  rw[qbm];rw[<-hE.len];exact hz.2.1
 refine⟨_,R,_,f d1 gp,y,T,p,j,U,U,by rw[upd_ne C];exact F,by rw[s];exact hj,?_⟩;have hjl:j<T.length:=by rw[s];exact DB hj
 refine⟨_,f d4 ga,_,R,_,f d1 gp,.inl ⟨y,_,p,.ref bl,U,U,SqL.of upd_same,Bn (j:=j) (by rw[qcd,s];exact hj) (by rw[qbm hjl]),?_⟩⟩;refine⟨_,f d2 gc,bl,J,c,i,U,U,by rw[upd_ne (qbz C),upd_same],by rw[ru.length.symm];exact hi,?_⟩;have O:aS H1 (upd (upd (upd H2 bl (.lst J)) y (.lst (T.set j (.ref bl)))) bl (.lst (J.set i L))):=λb o h=>by
  have e1:b≠y:=λz=>by rw[z,B]at h;cases h
  have Q:=sm b o (by rw[upd_ne e1];exact h);have e2:b≠bl:=λz=>by rw[z,M]at Q;cases Q
  rw[upd_ne e2,upd_ne e1,upd_ne e2];exact Q
 dsimp only;generalize hH:upd (upd (upd H2 bl (.lst J)) y (.lst (T.set j (.ref bl)))) bl (.lst (J.set i L))=H5 at O ⊢;have ha5:H5 y=some (.lst (T.set j (.ref bl))):=by rw[<-hH,upd_ne C,upd_same]
 have hb5:H5 bl=some (.lst (J.set i L)):=by rw[<-hH,upd_same]
 have A:Fw n n H1 H5:=Fw.same O;have ru5:Rls X.K H5 n ts J:=Rls.flat hz.2.2 ru;refine⟨n,(x.fw S1 A).set l (w:=.d (.lst (ds.set j (.lst (ts.set i a))))) ?_,S1.same O,?_⟩
 ·exact⟨y,_,U,(S1.nin B),.inl ha5,Rls.set j (rl.fw S1 A) ⟨bl,_,U,(λz=>by
  obtain⟨o,ho,_⟩:=S1.lst z
  have:bl≠y:=qbz C
  have Q:H2 bl=some o:=sm bl o (by rw[upd_ne this];exact ho)
  rw[M]at Q;cases Q),.inl hb5,Rls.set i ru5 (Rl.fw S1 A ra)⟩⟩
 ·exact q.fw (f1.trans A)
end
section
variable {K:qae}{X:Cx}
def EO (_ j:Int):Prop:=0<j/\j.natAbs.log2<9000
theorem zN:OpR X (qbQ .FloorDiv) (rI EO λi j=>.int (i / j)):=opI λi j _ _ _ _ _ g q=>by
 obtain⟨h0,h1⟩:=g;exact floordiv_int (by lia) (by rw[qd2 i (by lia)];exact q) (.inl (PyProof.noPylong_of_log2 h1))
def m7 (_:Sto):W->W->Option D
 |.d (.int i),.d (.int j)=>if 0<j/\j.natAbs.log2<9000 then some (.int (i / j)) else none
 |_,_=>none
theorem iP:OpD K X (qbQ .FloorDiv) m7:=iQ (λ_ _ _=>rfl) λi j d h=>by obtain⟨c,rfl⟩:=ifS h;exact⟨zN.imp λ_ _ _ _ q=>⟨i,j,q.1,q.2.1,c,q.2.2⟩,U⟩
theorem zu:bN X (.type "range") (λxs H Q=>∃ i j:Int,xs=[.int i,.int j]/\∀ p,H p=none->Q (.ref p) (upd H p (.rng i j))):=by
 intro F s σ H xs us Q I rv h;obtain⟨i,j,rfl,q⟩:=h;cases rv with
 |cons r J=>
  cases J with
  |cons r' J=>
   cases J;obtain⟨t,rfl⟩:=r;obtain⟨t',rfl⟩:=r';exact call_range_2 ⟨.ref _,_,I.laid (o:=.rng i j) (λ_ _ q=>qah _ q) (qan _) ⟨_,_,_,qat _ U⟩,U,q _ I.fresh⟩
theorem zr {acc:Array Value}{lo:Int}{n:Nat} (h:ItemsOf (λi v=>∃ t,v=Value.int (lo+(i:Int)*1) t) acc n):aL ((qam n).map λk:Nat=>V.int (lo+k)) acc.toList:=by
 obtain⟨hz,hi⟩:=h;have key:∀ (l:List Value) (k:Nat),(∀ j v,l[j]?=some v->∃ t,v=Value.int (lo+((k+j:Nat))) t)->aL ((qeZ k l.length).map λk:Nat=>V.int (lo+k)) l:=by
  intro l
  induction l with
  |nil=>intro k _;exact .nil
  |cons x l ih=>
   intro k h;obtain⟨t,e⟩:=h 0 x U;refine .cons ⟨t,e⟩ (ih _ λj v Y=>?_);obtain⟨t,e⟩:=h (j+1) v (by simpa using Y);exact⟨t,by rw[e,show k+_=k+1+j by lia]⟩
 have:=key acc.toList 0 λj v Y=>by
  obtain⟨t,e⟩:=hi j v (by simpa using Y);exact⟨t,by rw[e,qdl,qbj]⟩
 rw[qg3];rw[qcN,hz]at this;exact this
theorem wI (g:X.calm=true:=by rfl):bN X (.type "list") (λxs H Q=>∃ (p:Addr) (lo:Int) (n:Nat),xs=[.ref p]/\H p=some (.rng lo (lo+(n:Int)))/\n<=1000/\-1000000<=lo/\lo<=1000000/\∀ l,H l=none->Q (.ref l) (upd H l (.lst ((qam n).map λk:Nat=>V.int (lo+k))))):=by
 intro F s σ H xs us Q I rv h;obtain⟨p,lo,n,rfl,y,hn,l1,l2,q⟩:=h;cases rv with
 |cons r J=>
  cases J;cases r;obtain⟨t,u,v,e⟩:=I.hok p _ y;refine call_list_range (I.ok.hd g) e ?_ (n:=n) ?_ (by lia) λh' tk acc c kp e' G=>?_
  ·have fl:∀ z ,-2000000<=z->z<=2000000->qeX z=true:=λz h1 h2=>by
    unfold qeX;simp only[qaX,decide_eq_true_eq];omega
   have hsz:qfp lo (lo+(n)) 1=(n):=by rw[qhp];split<;>lia
   unfold qi5;rw[hsz];simp[fl lo (by lia) (by lia),fl (lo+(n)) (by lia) (by lia),fl 1 _ _,fl (n) _ (by lia)]
  ·rw[qhp];split<;>lia
  ·exact⟨.ref s.heap.objs.size,_,I.laid kp (qan _) (show cA X.prog X.w _ h' _ (.lst _) from ⟨by rw[qaf,qav];exact kD hn,acc.toList,c,zr G,by simpa using e'⟩),U,q _ (I.hok.fresh (qan _))⟩
def x8 (a:Af):Lf
 |env,st=>(a env st).bind λr=>match r.1 with
 |[.d (.int j)]=>if 0<=j/\j<=1000 then some (bX 0 j.toNat,r.2) else none
 |_=>none
def qC (a:Af):Lf
 |env,st=>(a env st).bind λr=>match r.1 with
 |[.d (.int i),.d (.int j)]=>if 0<=j - i/\j - i<=1000/\-1000000<=i/\i<=1000000 then some (bX i (j - i).toNat,r.2) else none
 |_=>none
theorem Rls.rng {H:Hp}{φ:List Addr} (lo:Int) (n:Nat):Rls K H φ (bX lo n) ((qam n).map λk:Nat=>V.int (lo+k)):=by
 have:bX lo n=((qam n).map λk:Nat=>lo+(k)).map D.int:=by rw[qaG];rfl
 rw[this,show ((qam n).map λk=>V.int _)=((qam n).map λk=>lo+_).map V.int by rw[qaG];rfl];exact Rls.of_ints _
variable {a b:Expr}{L:Af}{p1 p2 p3 p4:Pos}
theorem nJ (w:Gl X "list") (E:X.mg "list" = none) (A:Gl X "range") (B:X.mg "range" = none) (P:IA K X [a] L) (g:X.calm=true:=by rfl) (hs:aC a=true:=by rfl) :
  IL K X (.Call (.Name "list" p1) [.Call (.Name "range" p2) [a] [] p3] [] p4) (x8 L):=by
 refine⟨λenv st r f=>?_⟩;simp only[x8,qab]at f;obtain⟨⟨ws,s1⟩,hw,f⟩:=f;dsimp only at f;split at f
 case h_2=>cases f
 rename_i j;split at f
 case isFalse=>cases f
 rename_i hj;cases f;refine (dj (wI g) w E qaR (mL (dj Bp A B qfs (P.run _ _ _ hw) (by decide) (by decide) (aV hs) (bx U)) rO (aV U)) (by decide) (by decide) (aV U) (bx U)).imp ?_
 rintro σ H Q ⟨φ,M,N,q⟩
 refine⟨φ,M,N,λvs H1 m f1 C R=>?_⟩;obtain⟨v,r,rfl,S,rfl⟩:=R;subst S;refine⟨j,U,λp y=>⟨p,0,j.toNat,U,?_,by lia,by lia,by lia,λl O=>?_⟩⟩
 ·rw[upd_same,qcP,Int.toNat_of_nonneg hj.1]
 ·exact q l _ _ m (f1.trans (Fw.new y)) (C.new y) O (Rls.rng 0 j.toNat)
theorem nK (w:Gl X "list") (E:X.mg "list" = none) (A:Gl X "range") (B:X.mg "range" = none) (P:IA K X [a,b] L) (g:X.calm=true:=by rfl) (hs:aC a=true:=by rfl) (T:aC b=true:=by rfl) :
  IL K X (.Call (.Name "list" p1) [.Call (.Name "range" p2) [a,b] [] p3] [] p4) (qC L):=by
 refine⟨λenv st r f=>?_⟩;simp only[qC,qab]at f;obtain⟨⟨ws,s1⟩,hw,f⟩:=f;dsimp only at f;split at f
 case h_2=>cases f
 rename_i i j;split at f
 case isFalse=>cases f
 cases f;refine (dj (wI g) w E qaR (mL (dj zu A B qfs (P.run _ _ _ hw) (by decide) (by decide) (aV hs) (bx (by rw[qbx,T];rfl))) rO (aV U)) (by decide) (by decide) (aV U) (bx U)).imp ?_
 rintro σ H Q ⟨φ,M,N,q⟩
 refine⟨φ,M,N,λvs H1 m f1 C R=>?_⟩;obtain⟨v,r,rfl,S,u,r',rfl,r2,rfl⟩:=R;subst S r2;refine⟨i,j,U,λp y=>⟨p,i,(j - i).toNat,U,?_,by lia,by lia,by lia,λl O=>?_⟩⟩
 ·rw[upd_same,show i+_=j by lia]
 ·exact q l _ _ m (f1.trans (Fw.new y)) (C.new y) O (Rls.rng i (j - i).toNat)
end
section
variable {K:qae}{X:Cx}
end
section
variable {K:qae}{X:Cx}
end
structure Cal (P:qaM) (w:World) (K:qae) (mg:Str->Option Value) (base:Heap) (x:Str) (j:Nat) (m:Fn):Prop where
 ex:∃ ff fd ps,dR P w K mg base CX0 j ff fd ps (spI K m)/\mg x=some (.ref ff)/\qcO K (.ref ff)=true/\dn K fd ps []
section
variable {P:qaM}{w:World}{K:qae}{mg:Str->Option Value}{base:Heap}{x a:Str}{st:Stmt}{f:Addr}{fd:qca}{N ps:List Str}{k j:Nat}{b:Sf}{m:Fn}
theorem wq (F:Fun K x a st f fd) (S:cD N ps (av st))
  (hb:∀ (d:Value) (A:qaU) (outer:List Env) (s:qai) (H:Hp) (E:XK),bv k (A.deeper (qez a (av st) s.heap.objs.size f d))->(fV CX0 P w K mg base N a (av st) f d A outer s H E).nox.N=N->(fV CX0 P w K mg base N a (av st) f d A outer s H E).nox.env.scope.names=(av st).names->N.Nodup->ISs K (fV CX0 P w K mg base N a (av st) f d A outer s H E).nox (bf st) b) :
  dR P w K mg base CX0 (k+1) f fd ps (spI K (gP N.length ps.length b)):=E5 F S λc A o s H E r=>hb c A o s H E r U U S.nd
theorem EY (F:Fun K x a st f fd) (S:cD N ps (av st)) (hm:mg x=some (.ref f)) (i:dn K fd ps [])
  (hb:∀ (d:Value) (A:qaU) (outer:List Env) (s:qai) (H:Hp) (E:XK),bv k (A.deeper (qez a (av st) s.heap.objs.size f d))->(fV CX0 P w K mg base N a (av st) f d A outer s H E).nox.N=N->(fV CX0 P w K mg base N a (av st) f d A outer s H E).nox.env.scope.names=(av st).names->N.Nodup->ISs K (fV CX0 P w K mg base N a (av st) f d A outer s H E).nox (bf st) b) :
  Cal P w K mg base x (k+1) (bo N.length ps.length b):=⟨_,_,_,Gp F S λc A o s H E r=>hb c A o s H E r U U S.nd,hm,F.kp,i⟩
theorem EZ (F:Fun K x a st f fd) (S:cD N ps (av st)) (hm:mg x=some (.ref f)) (i:dn K fd ps [])
  (hb:∀ (d:Value) (A:qaU) (outer:List Env) (s:qai) (H:Hp) (E:XK),bv k (A.deeper (qez a (av st) s.heap.objs.size f d))->(fV CX0 P w K mg base N a (av st) f d A outer s H E).nox.N=N->(fV CX0 P w K mg base N a (av st) f d A outer s H E).nox.env.scope.names=(av st).names->N.Nodup->ISs K (fV CX0 P w K mg base N a (av st) f d A outer s H E).nox (bf st) b) :
  Cal P w K mg base x (k+1) (gP N.length ps.length b):=⟨_,_,_,E5 F S λc A o s H E r=>hb c A o s H E r U U S.nd,hm,F.kp,i⟩
variable {X:Cx}{e:Expr}{es:List Expr}{pos p:Pos}{q:Af}
theorem j6 (G:X.K=K) (C:Cal X.prog X.w X.K X.mg X.base x j m) (I:bv k X.A) (u:j<=k) (hg:Gl X x) (n:IA K X (e::es) q) (h:(x==("__debug__" : Str))=false) (l:aC e=true) (i:es.all aC=true) :
  IE K X (.Call (.Name x p) (e::es) [] pos) (ap m q):=by
 subst G;obtain⟨_,_,_,F,hm,B,hb⟩:=C.ex;exact Bj F u I hg hm B hb n h l i
theorem i6 (G:X.K=K) (C:Cal X.prog X.w X.K X.mg X.base x j m) (I:bv k X.A) (u:j<=k) (hg:Gl X x) (n:IA K X (e::es) q) (h:(x==("__debug__" : Str))=false) (l:aC e=true) (i:es.all aC=true) :
  IE K X (.Call (.Name x p) (e::es) [] pos) (df m q):=by
 subst G;obtain⟨_,_,_,F,hm,B,hb⟩:=C.ex;exact zo F u I hg hm B hb n h l i
theorem ww {v:Value}{g:Sto->List W->Option D} (y:qco x=some v) (z:e6 K X v g) (hg:Gl X x) (hm:X.mg x=none) (n:IA K X (e::es) q)
  (hn:x≠"__name__") (h:(x==("__debug__" : Str))=false) (l:aC e=true) (i:es.all aC=true) (t:(match v with|.builtin _=>true|.type _=>true|_=>false)=true):IE K X (.Call (.Name x p) (e::es) [] pos) (iCB g q):=by
 cases v<;>first|exact pG z hg hm y n hn h l i|exact Ff z hg hm y n hn h l i|cases t
theorem wC {v:Value}{g:Sto->List W->Option (List D)} (y:qco x=some v) (z:sw K X v g) (hg:Gl X x) (hm:X.mg x=none) (n:IA K X (e::es) q)
  (hn:x≠"__name__") (h:(x==("__debug__" : Str))=false) (l:aC e=true) (i:es.all aC=true) (t:(match v with|.builtin _=>true|.type _=>true|_=>false)=true):IL K X (.Call (.Name x p) (e::es) [] pos) (iCL g q):=by
 cases v<;>first|exact Fg z hg hm y n hn h l i|exact CH z hg hm y n hn h l i|cases t
end
def tgN:Expr->List Str
 |.Name x _=>[x]
 |.Tuple es _ _=>es.flatMap λe=>match e with
  |.Name x _=>[x]
  |.Tuple es _ _=>es.flatMap λe=>match e with
   |.Name x _=>[x]
   |_=>[]
  |_=>[]
 |_=>[]
def lcN (a:Expr) (js:List Nat) (N:List Str):List Str:=tgN a++js.map λj=>N.getD j ""
theorem rg {a:Scope}{ns:List (Str×qb6)}{N Nc:List Str}{k:Nat}{js:List Nat} (h:vh a ns N Nc k js=true):Nc.Nodup:=by
 unfold vh at h;simp only[qaX,decide_eq_true_eq]at h;exact h.1.1.1.2
section
variable {K:qae}{X:Cx}{e:Expr}{pos:Pos}{a:Scope}{k:Nat}{js:List Nat}{f iter:Expr}{i:List Expr}{p:Lf}{g:Tg}{tt:Tf}{te:Ef}{ns:List (Str×qb6)}{N:List Str}
theorem qN (hns:X.env.scope.names=ns) (hN:X.N=N) (h:vh a ns N (lcN e js N) k js=true) (r:a.kind=.function) (q:X.calm=true) (o:X.env.scope.kind=.function) (m:∀ j∈tL g,j<k) (hi:II K X e iter p)
  (hg:∀ b s H C d,(lcX X a b (lcN e js N) s H C d).N.Nodup->PG (lcX X a b (lcN e js N) s H C d) e (tG K g)) (u:∀ b s H C d,(lcX X a b (lcN e js N) s H C d).env.scope.names=Al a.names ns->(lcX X a b (lcN e js N) s H C d).N=lcN e js N->ITs K (lcX X a b (lcN e js N) s H C d) i tt)
  (t:∀ b s H C d,(lcX X a b (lcN e js N) s H C d).env.scope.names=Al a.names ns->(lcX X a b (lcN e js N) s H C d).N=lcN e js N->IE K (lcX X a b (lcN e js N) s H C d) f te) (D:∀ x,qbZ iter X.env x=pure x) :
  IL K X (.ListComp f [⟨e,iter,i,0⟩] a pos) (iLc k js p g tt te):=
 zp (t8 ns N _ k js hns hN r h) q m hi (λc s H C d=>hg c s H C d (rg h)) (λc s H C d=>u c s H C d (mN o hns) U) (λc s H C d=>t c s H C d (mN o hns) U) D
variable {v:Nat}{n:Str}{w l:Pos}
theorem iw (hns:X.env.scope.names=ns) (hN:X.N=N) (h:vh a ns N (lcN e js N) k js=true) (B:X.N.Nodup) (y:X.N[v]?=some n) (A:Loc X.env.scope n) (r:a.kind=.function) (q:X.calm=true) (o:X.env.scope.kind=.function) (m:∀ j∈tL g,j<k) (hi:II K X e iter p)
  (hg:∀ b s H C d,(lcX X a b (lcN e js N) s H C d).N.Nodup->PG (lcX X a b (lcN e js N) s H C d) e (tG K g)) (u:∀ b s H C d,(lcX X a b (lcN e js N) s H C d).env.scope.names=Al a.names ns->(lcX X a b (lcN e js N) s H C d).N=lcN e js N->ITs K (lcX X a b (lcN e js N) s H C d) i tt)
  (t:∀ b s H C d,(lcX X a b (lcN e js N) s H C d).env.scope.names=Al a.names ns->(lcX X a b (lcN e js N) s H C d).N=lcN e js N->IE K (lcX X a b (lcN e js N) s H C d) f te)
  (hsw:qcD (.ListComp f [⟨e,iter,i,0⟩] a pos) (some (.Name n w)) l.line X.env=pure true) (z:X.fn n=true\/X.env.scope.names.lookup n=some .local) (D:∀ x,qbZ iter X.env x=pure x) :
  IS K X (.Assign [.Name n w] (.ListComp f [⟨e,iter,i,0⟩] a pos) l) (az (.nm v) (au (iLc k js p g tt te)))/\
   IS K X (.Assign [.Name n w] (.ListComp f [⟨e,iter,i,0⟩] a pos) l) (az (.nm v) (dg (iLc k js p g tt te))):=
 Fi B y A (t8 ns N _ k js hns hN r h) q m hi (λc s H C d=>hg c s H C d (rg h)) (λc s H C d=>u c s H C d (mN o hns) U) (λc s H C d=>t c s H C d (mN o hns) U) hsw z D
end
theorem wG {K:qae}{X:Cx}{o:BoolOp}{es:List Expr}{pos:Pos}{a:Tf} (h:ITW K X (.BoolOp o es pos) a):IT K X (.BoolOp o es pos) a:=DA h
theorem ad {a b:Prop} (h:a) (g:a->b):a/\b:=⟨h,g h⟩
theorem mB {K:qae}{X:Cx}{pos:Pos}{d:Expr}{a:Scope}{k:Nat}{js:List Nat}{i iter:Expr}{l:List Expr}{u:Lf}{g:Tg}{tt:Tf}{te:Ef}{t:Nat}{m:Str}{v e:Pos}{ns:List (Str×qb6)}{N:List Str}
  (hns:X.env.scope.names=ns) (hN:X.N=N) (h:vh a ns N (lcN d js N) k js=true) (q:X.N.Nodup) (n:X.N[t]?=some m) (p:Loc X.env.scope m) (y:a.kind=.function) (w:X.calm=true) (r:∀ j∈tL g,j<k) (hi:II K X d iter u)
  (hg:∀ b s H C f,(lcX X a b (lcN d js N) s H C f).N.Nodup->PG (lcX X a b (lcN d js N) s H C f) d (tG K g)) (A:∀ b s H C f,ITs K (lcX X a b (lcN d js N) s H C f) l tt) (z:∀ b s H C f,IE K (lcX X a b (lcN d js N) s H C f) i te)
  (hsw:qcD (.ListComp i [⟨d,iter,l,0⟩] a pos) (some (.Name m v)) e.line X.env=pure true) (o:X.fn m=true\/X.env.scope.names.lookup m=some .local) (B:∀ x,qbZ iter X.env x=pure x) :
  ISL K X (.Assign [.Name m v] (.ListComp i [⟨d,iter,l,0⟩] a pos) e) t (iLc k js u g tt te):=
 Dx q n p (t8 ns N _ k js hns hN y h) w r hi (λc s H C f=>hg c s H C f (rg h)) A z hsw o B
theorem j8 {K:qae}{X:Cx}{x:Str}{k j:Nat}{f Cl:Addr}{fd:qca}{N ps:List Str}{g:List (Str×Ef)}{p pos:Pos}{e:Expr}{es:List Expr}{d:Af} (hm:X.mg x=some (.ref Cl)) (M:Mk X.K Cl f) (F:dR X.prog X.w X.K X.mg X.base CX0 j f fd ps (Ce K N.length ps.length g)) (o:bv (k+1) X.A) (b:j<=k) (hg:Gl X x) (hb:dn X.K fd ps [])
  (m:Cls K Cl) (hA:∀ p∈g,cF K Cl p.1) (i:g.length=6) (a:(g.map (·.1)).Nodup)
  (n:IA K X (e::es) d) (c:(x==("__debug__" : Str))=false) (h:aC e=true) (l:es.all aC=true) :
  IE K X (.Call (.Name x p) (e::es) [] pos) (pF N.length ps.length g d):=Bk M F b o hg hm hb m hA i a n c h l
section
variable {c:Type} [DecidableEq c]
def ig (a:List (c×V)) (k:c):Option V:=(a.find? λd=>decide (d.1=k)).map (·.2)
def lh (a:List (c×V)) (k:c) (v:V):List (c×V):=
 if (a.any λd=>decide (d.1=k))=true then a.map (λd=>if d.1=k then (d.1,v) else d) else a++[(k,v)]
theorem oJ {p:c×V}{r:List (c×V)}{k:c} (e:p.1=k):ig (p::r) k=some p.2:=by simp[ig,qdr,e]
theorem oI {p:c×V}{r:List (c×V)}{k:c} (e:¬ p.1=k):ig (p::r) k=ig r k:=by simp[ig,qdr,e]
theorem uP (k:c):∀ a:List (c×V),(a.any λd=>decide (d.1=k))=(ig a k).isSome
 |[]=>rfl
 |p::r=>by
  rw[qcr];by_cases e:p.1=k
  ·simp only[oJ e,decide_eq_true e,qi6,Option.isSome_some]
  ·rw[oI e,decide_eq_false e];exact uP k r
theorem lH (a:List (c×V)) (k:c) (v:V):(lh a k v).length<=a.length+1:=by
 unfold lh;split
 ·rw[qaf];lia
 ·rw[qax,qap,qbK];lia
theorem lP.isSome_eq {o:Option V}{u:Option Value} (r:lP o u):o.isSome=u.isSome:=by
 cases o with
 |none=>cases u with
  |none=>rfl
  |some _=>exact (r).elim
 |some _=>cases u with
  |none=>exact (r).elim
  |some _=>rfl
theorem KV.val {a:List (c×V)}{f:List (c×Value)} (r:KV a f) (k:c):lP (ig a k) (qhn f k):=by
 induction r with
 |nil=>exact True.intro
 |@cons p q ps j h t i=>
  obtain⟨g,m⟩:=h;by_cases e:p.1=k
  ·have n:=g.symm.trans e
   have b:qhn (q::j) k=some q.2:=by simp[qhn,qdr,n]
   rw[oJ e,b];exact m
  ·have n:¬ q.1=k:=λz=>e (g.trans z)
   have b:qhn (q::j) k=qhn j k:=by simp[qhn,qdr,n]
   rw[oI e,b];exact i
theorem KV.any {a:List (c×V)}{f:List (c×Value)} (r:KV a f) (k:c):(a.any λd=>decide (d.1=k))=f.any λd=>decide (d.1=k):=by
 induction r with
 |nil=>rfl
 |cons h t i=>rw[qcr,qcr,i,h.1]
theorem KV.repl {a:List (c×V)}{f:List (c×Value)} (r:KV a f) (k:c) {y:V}{u:Value} (l:aP y u) :
  KV (a.map λd=>if d.1=k then (d.1,y) else d) (f.map λd=>if d.1=k then (d.1,u) else d):=by
 induction r with
 |nil=>exact .nil
 |@cons p q ps j h t i=>
  rw[qas,qas];refine .cons ?_ i;obtain⟨g,m⟩:=h;by_cases e:p.1=k
  ·rw[iFP e,iFP (g.symm.trans e)];exact⟨g,l⟩
  ·rw[iFN e,iFN (λz=>e (g.trans z))];exact⟨g,m⟩
theorem KV.put {a:List (c×V)}{f:List (c×Value)} (r:KV a f) (k:c) {y:V}{u:Value} (l:aP y u):KV (lh a k y) (stored f k u):=by
 unfold lh stored;rw[r.any k];by_cases e:(f.any λd=>decide (d.1=k))=true
 ·rw[iFP e,iFP e];exact r.repl k l
 ·rw[iFN e,iFN e];exact qiz r ⟨U,l⟩
theorem KV.length {a:List (c×V)}{f:List (c×Value)} (r:KV a f):a.length=f.length:=qeY r
end
theorem zt {P:qaM}{w:World}{k:Key}{u:Value} (r:aP (kV k) u):(cq P w).is k u=true:=by
 cases k with
 |inl i=>obtain⟨t,e⟩:=(r);subst e;exact ui P w i t
 |inr x=>obtain⟨t,e⟩:=(r);subst e;exact uj P w x t
theorem pI {P:qaM}{w:World}:∀ {a:List Key}{b:List Value},aL (a.map kV) b->ItemsAre (cq P w) a b
 |[],_,r=>by cases r;exact .nil
 |k::a,_,r=>by
  cases r with
  |cons h t=>exact .cons (zt h) (pI t)
abbrev KT (H:Hp):List (List Key×V)->List (List Key×Addr×Value)->Prop:=qgn λp q=>p.1=q.1/\H q.2.1=some (.tup (p.1.map kV))/\aP p.2 q.2.2
theorem KT.val {H:Hp}{a:List (List Key×V)}{xs:List (List Key×Addr×Value)} (r:KT H a xs) (k:List Key):lP (ig a k) ((atKey xs k).map (·.2)):=by
 induction r with
 |nil=>exact True.intro
 |@cons p q ps c h t g=>
  obtain⟨d,_,f⟩:=h;by_cases e:p.1=k
  ·have b:atKey (q::c) k=some q.2:=by simp[atKey,qdr,(d.symm.trans e)]
   rw[oJ e,b];exact f
  ·have i:¬ q.1=k:=λz=>e (d.trans z)
   have b:atKey (q::c) k=atKey c k:=by simp[atKey,qdr,i]
   rw[oI e,b];exact g
theorem KT.repl {H:Hp}{a:List (List Key×V)}{xs:List (List Key×Addr×Value)} (r:KT H a xs) (k:List Key) {y:V}{u:Value} (i:aP y u) :
  KT H (a.map λc=>if c.1=k then (c.1,y) else c) (xs.map (putAt k u)):=by
 induction r with
 |nil=>exact .nil
 |@cons p q ps j h t g=>
  rw[qas];refine .cons ?_ g;obtain⟨b,d,f⟩:=h;unfold putAt;by_cases e:p.1=k
  ·rw[iFP e,iFP (b.symm.trans e)];exact⟨b,d,i⟩
  ·rw[iFN e,iFN (λz=>e (b.trans z))];exact⟨b,d,f⟩
theorem KT.put {H:Hp}{a:List (List Key×V)}{xs:List (List Key×Addr×Value)} (r:KT H a xs) (k:List Key) {b:Addr}{y:V}{u:Value} (hb:H b=some (.tup (k.map kV))) (c:aP y u) :
  KT H (lh a k y) (storedH xs k b u):=by
 have e:(a.any λd=>decide (d.1=k))=(atKey xs k).isSome:=by
  rw[uP,(r.val k).isSome_eq,Option.isSome_map]
 unfold lh storedH;rw[e];by_cases q:(atKey xs k).isSome=true
 ·rw[iFP q,iFP q];exact r.repl k c
 ·rw[iFN q,iFN q];exact qiz r ⟨U,hb,c⟩
theorem KT.keeps {H H':Hp}{a:List (List Key×V)}{xs:List (List Key×Addr×Value)} (r:KT H a xs) (d:∀ b c,H b=some (.tup c)->H' b=some (.tup c)):KT H' a xs:=
 qgn.mapP r λ_ _ z=>⟨z.1,d _ _ z.2.1,z.2.2⟩
section
variable {P:qaM}{w:World}{H:Hp}{h:Heap}{a:Addr}
theorem C0 {u:HO} (ok:HOk P w H h) (e:Rd H a u):cA P w H h a u:=e.ok ok
theorem yZ {b:List (Key×V)} (ok:HOk P w H h) (e:Rd H a (.dK b)):b.length<=qaH/\(a==qcB)=false/\∃ d,KV b d/\h.DictOf (cq P w) a d:=
 C0 ok e
theorem E1 {b:List (Key×V)} (ok:HOk P w H h) (e:H a=some (.dK b)):b.length<=qaH/\(a==qcB)=false/\∃ d,KV b d/\h.DictOf (cq P w) a d:=yZ ok (.inl e)
theorem vg {k:List Key} (ok:HOk P w H h) (e:H a=some (.tup (k.map kV))):(qgF (cq P w)).is h k a:=by
 obtain⟨_,i,r,o,j,f,⟨n,g⟩,_⟩:=(ok a _ e);exact⟨o,i.toArray,n,j,f,g,by simpa using pI r⟩
theorem y7 {b:List (List Key×V)} (ok:HOk P w H h) (e:Rd H a (.dT b)):b.length<=qaH/\(a==qcB)=false/\
  ∃ xs,KT H b xs/\h.DictOfH (qgF (cq P w)) a xs:=by
 obtain⟨z,y,xs,r,o,es,A,j,f,g,v,B⟩:=(C0 ok e);refine⟨z,y,xs,r,o,es,A,j,f,g,v,λx c=>?_,B⟩;have all:∀ {l:List _}{m:List _},KT H l m->∀ x∈m,(qgF (cq P w)).is h x.1 x.2.1:=by
  intro l m q
  induction q with
  |nil=>intro x c;exact nomatch c
  |@cons p q ps D s t C=>
   intro x c;rcases qay.mp c with e|c
   ·subst e
    exact vg ok (by rw[<-s.1];exact s.2.1)
   ·exact C x c
 exact all r x c
theorem CC {b:List (List Key×V)} (ok:HOk P w H h) (e:H a=some (.dT b)):b.length<=qaH/\(a==qcB)=false/\
  ∃ xs,KT H b xs/\h.DictOfH (qgF (cq P w)) a xs:=y7 ok (.inl e)
end
def xJ (H:Hp) (a:Addr) (y:V) (r:Option V):Prop:=
 (∃ c k,Rd H a (.dK c)/\y=kV k/\r=ig c k)\/∃ c k b,Rd H a (.dT c)/\y=.ref b/\H b=some (.tup (k.map kV))/\r=ig c k
def yJ (H:Hp) (a:Addr) (y v:V) (H':Hp):Prop:=
 (∃ c k,H a=some (.dK c)/\y=kV k/\c.length<qaH/\H'=upd H a (.dK (lh c k v)))\/
 ∃ c k b,H a=some (.dT c)/\y=.ref b/\H b=some (.tup (k.map kV))/\c.length<qaH/\H'=upd H a (.dT (lh c k v))
theorem xJ.t {H:Hp}{a b:Addr}{c:List (List Key×V)}{k:List Key} (e:H a=some (.dT c)) (d:H b=some (.tup (k.map kV))):xJ H a (.ref b) (ig c k):=.inr ⟨c,k,b,.inl e,U,d,U⟩
theorem yJ.t {H:Hp}{a b:Addr}{c:List (List Key×V)}{k:List Key}{v:V} (e:H a=some (.dT c)) (d:H b=some (.tup (k.map kV))) (f:c.length<qaH) :
  yJ H a (.ref b) v (upd H a (.dT (lh c k v))):=.inr ⟨c,k,b,e,U,d,f,U⟩
section
variable {X:Cx}{f:List (Addr×Obj)}{x:St}{H:Hp}{s:qai}{a:Addr}{y v:V}{u r:Value}{o:Option V}{A:qaU}{E:Value->qai->Prop}
theorem Inv.big (I:Inv X f x H s):qcB<s.heap.objs.size:=by
 exact qd5 (by decide) ((I.mod.glob.keeps I.bk).lt)
theorem xV {Q:Value->qai->Prop} (L:A.units+1<cLine) (I:Inv X f x H s) (g:xJ H a y (some v)) (D:aP y u) (h:∀ B s',Inv X f x H s'->aP v B->Q B s') :
  wpAny (model X.prog X.w) A (qe8 (.ref a) u) Q E s:=by
 rcases g with⟨i,k,e,n,l⟩|⟨i,k,b,e,n,J,l⟩
 ·subst n
  obtain⟨z,hd,C,d,j⟩:=yZ I.hok e;obtain⟨B,hw,t⟩:=lP.some_of (by rw[l];exact d.val k);exact wpAny_getItem_of (zt D) j.mapOf hw (h B _ (I.tok _) t)
 ·subst n
  cases (D);obtain⟨z,hd,xs,d,j⟩:=y7 I.hok e;obtain⟨B,hw,t⟩:=lP.some_of (by rw[l];exact d.val k);obtain⟨p,hp,M⟩:=qad.mp hw;refine wpAny_getItem_heap (qip L) (vg I.hok J) j hp ?_;rw[M];exact h B _ (I.tok _) t
theorem wk {h':Heap}{t':Nat}{ob:HO} (I:Inv X f x H s) (mu:Mut (H a)) (F:qdm a s.heap h') (W:∃ q,h'.get? a=some q) (new:cA X.prog X.w (upd H a ob) h' a ob) :
  Inv X f x (upd H a ob) { s with heap:=h',toks:=t' }:=
 I.write mu (.inl U) (λb q hb z=>(F.2 b hb).trans z) W new
theorem Di {P:qaM}{w:World}{H':Hp}{h':Heap}{i:List (Key×V)}{C:List (Key×Value)} (z:i.length<=qaH) (hd:(a==qcB)=false) (d:KV i C) (j:h'.DictOf (cq P w) a C) :
  cA P w H' h' a (.dK i):=⟨z,hd,C,d,j⟩
theorem xW {H':Hp}{Q:Unit->qai->Prop} (L:A.units+1<cLine) (I:Inv X f x H s) (g:yJ H a y v H') (D:aP y u) (R:aP v r) (h:∀ s',Inv X f x H' s'->Q () s') :
  wpAny (model X.prog X.w) A (qjX (.ref a) u r) Q E s:=by
 rcases g with⟨i,k,e,n,l,N⟩|⟨i,k,b,e,n,J,l,N⟩
 ·subst n N
  obtain⟨z,hd,C,d,j⟩:=E1 I.hok e;have Y:C.length<=qaH:=by rw[<-d.length];exact z
  have K:(lh i k v).length<=qaH:=by have:=lH i k v;lia
  refine wpAny_setItem_pairs (zt D) j λh' m F=>h _ ?_;exact wk I (by rw[e];exact True.intro) F (let ⟨q,_,_,G,_⟩:=m;⟨q,G⟩) (Di K hd (d.put k R) m)
 ·subst n N
  cases (D);obtain⟨z,hd,xs,d,j⟩:=CC I.hok e;have Y:xs.length<=qaH:=by rw[<-qeY d];exact z
  have K:(lh i k v).length<=qaH:=by have:=lH i k v;lia
  refine wpAny_setItem_heap (qip L) (vg I.hok J) j λh' m F=>h _ ?_;obtain⟨q,es,ep,G,T,h3,S,_,h5⟩:=m;refine wk I (by rw[e];exact True.intro) F ⟨q,G⟩ ⟨K,hd,_,(d.put k J R).keeps λc ys O=>?_,q,es,ep,G,T,h3,S,h5⟩;rw[upd_ne (FA O e (λz=>nomatch z))]
  exact O
end
section
variable {X:Cx}{b:List (Addr×Obj)}{d:St}{H:Hp}{s:qai}{a:Addr}{c:List (Key×V)}{k:Key}{u:Value}{A:qaU}{E:Value->qai->Prop}
end
def C7 (i:Expr):Prop:=∀ a iv,qgG i false a iv=operate [a,iv] (qe8 a iv)
theorem Ci {prog:qaM}{w:World}{A:qaU}{E:Value->qai->Prop}{s:qai}{env:Env}{b a:Expr}{pos:Pos}{T id:String}{Q:Value->qai->Prop}
  (m:typeLookup (.type T) "__getitem__" = pure (some (.builtin id))) (k:C7 a)
  (h:wpAny (model prog w) A (eval b env) (λo f=>wpAny (model prog w) A (eval a env) (λi c=>c.TypeIs o T/\wpAny (model prog w) A (qe8 o i) Q E c) E f) E s) :
  wpAny (model prog w) A (eval (.Subscript b a pos) env) Q E s:=by
 refine qiR (qcA h (λo f g=>qcA g (λi c d=>?_) λ_ _ x=>x) λ_ _ x=>x);obtain⟨l,d⟩:=d;refine qac ?_;refine qac (wpAny_specialOf l m ?_);have fin:wpAny (model prog w) A (qgG a false o i) (λr e=>wpAny (model prog w) A (letTemporaryGo b o r >>= λ_=>pure r) Q E e) E c:=by
  rw[k o i];exact wpAny_operating (qcA d (λr e j=>qac (wpAny_letTemporaryGo (qaq j))) λ_ _ x=>x)
 first
  |exact qaq (qac fin)
  |exact qac _
  |exact qac fin
theorem sS {X:Cx}{c:List (Addr×Obj)}{h:St}{H:Hp}{s:qai}{a:Addr}{y:V}{o:Option V} (I:Inv X c h H s) (g:xJ H a y o):s.TypeIs (.ref a) "dict":=by
 rcases g with⟨f,k,e,_,_⟩|⟨f,k,b,e,_,_,_⟩
 ·obtain⟨_,_,i,_,d⟩:=yZ I.hok e
  exact d.typeIs
 ·obtain⟨_,_,xs,_,d⟩:=y7 I.hok e
  exact d.typeIs
def F3 (c ty:TE):TE:=λb H Q=>c b H λx H1=>ty b H1 λy H2=>∃ a v,x=.ref a/\xJ H2 a y (some v)/\Q v H2
def FX (d ty c:TE):TS:=λD b H=>c b H λv H1=>d b H1 λx H2=>ty b H2 λy H3=>∃ a H4,x=.ref a/\yJ H3 a y v H4/\D.nx b H4
section
variable {X:Cx}{o i e c:Expr}{pos d B:Pos}{j ty z:TE}
theorem BN (l:X.A.units+1<cLine) (n:PE X o j) (hi:PE X i ty) (t:C7 i):PE X (.Subscript o i pos) (F3 j ty):=by
 intro b s f H Q I h;refine Ci PySem.F.slot_dict_getitem.lookup t (thn (n b s f H _ I h) λu s1 ⟨x,H1,I1,k,w⟩=>thn (hi b s1 f H1 _ I1 w) λiv A ⟨y,H2,I2,p,a,v,ex,g,q⟩=>?_);subst ex;obtain rfl:u=Value.ref a:=k;exact⟨sS I2 g,xV l I2 g p λK F I3 m=>⟨v,H2,I3,m,q⟩⟩
theorem BV (l:X.A.units+1<cLine) (n:PE X o j) (hi:PE X i ty) (E:PE X c z) (t:qcD c (some (.Subscript o i d)) pos.line X.env=pure false) :
  PS X (.Assign [.Subscript o i d] c pos) (FX j ty z):=by
 intro b s f H D I h;refine wpAny_Assign_Subscript (thn (E b s f H _ I h) λr s1 ⟨v,H1,I1,G,w⟩=>thn (n b s1 f H1 _ I1 w) λu A ⟨x,H2,I2,k,q⟩=>thn (hi b A f H2 _ I2 q) λiv F ⟨y,H3,I3,p,a,H4,ex,g,C⟩=>?_) t;subst ex;obtain rfl:u=Value.ref a:=k;exact xW l I3 g p G λJ I4=>⟨f,H4,I4,C⟩
end
theorem y4 {P:qaM}{w:World}{H:Hp} (h:Heap) (hb:qcB<h.objs.size):cA P w H (h.push { cls:=.type "dict",data:=.dict #[] }) h.objs.size (.dT []):=
 ⟨qby _,beq_eq_false_iff_ne.mpr (qbz (qaA hb)),_,.nil,_,_,0,qat _ U,⟨U,U,U⟩,U,U,qcS⟩
def Ez:TE:=λ_ H Q=>∀ p,H p=none->Q (.ref p) (upd H p (.dT []))
section
variable {X:Cx}{pos:Pos}
theorem zQ:PE X (.Dict [] [] pos) Ez:=λa s b H Q I h=>
 wpAny_Dict_empty ⟨.ref s.heap.objs.size,_,I.laid (λ_ _ q=>qah _ q) (qan _) (y4 s.heap I.big),U,h _ (I.hok.fresh (qan _))⟩
end
section
variable {X:Cx}{b:List (Addr×Obj)}{c:St}{H:Hp}{s:qai}{a:Addr}{y d:V}{u r:Value}{o:Option V}{A:qaU}{E:Value->qai->Prop}
end
section
variable {X:Cx}{o e f:Expr}{b a:Pos}{d ty c:TE}
end
section
variable {X:Cx}{b:List (Addr×Obj)}{d:St}{H:Hp}{s:qai}{a:Addr}{c:List (Key×V)}{A:qaU}{E:Value->qai->Prop}
end
section
variable {X:Cx}{b:List (Addr×Obj)}{c:St}{H:Hp}{s:qai}{a:Addr}{y:V}{u:Value}{A:qaU}{E:Value->qai->Prop}
end
section
variable {prog:qaM}{w:World}{A:qaU}{E:Value->qai->Prop}{s:qai}{b:Type} [DecidableEq b] {c:KeyKind prog w b}{a:Addr}{d:List (b×Value)}
end
section
variable {X:Cx}{b:List (Addr×Obj)}{d:St}{H:Hp}{s:qai}{a:Addr}{c:List (Key×V)}{k:Key}{u r:Value}{A:qaU}{E:Value->qai->Prop}{z:V}
end
section
variable {K:qae}{X:Cx}{pos:Pos}{e a b o f:Expr}{g c d h i:Ef}
end
section
variable {K:qae}{X:Cx}
end
section
variable {b:Bool}{t:SetTable}{m d k:Nat}
end
section
variable {prog:qaM}{w:World}{A:qaU}{E:Value->qai->Prop}{s:qai}{a:Addr}{m d k:Nat}
end
section
variable {prog:qaM}{w:World}{A:qaU}{E:Value->qai->Prop}{s:qai}{a b:Addr}{m d c i:Nat}{f:Nat->Tok}
end
section
variable {prog:qaM}{w:World}{A:qaU}{E:Value->qai->Prop}{s:qai}{a b:Addr}{m d c i:Nat}{f:Nat->Tok}
end
section
variable {prog:qaM}{w:World}{A:qaU}{E:Value->qai->Prop}{s:qai}
end
section
variable {prog:qaM}{w:World}{A:qaU}{R:qix->qai->Prop}{I:Addr}{a b:List Addr}{G:Array qiC->Array qiC->Prop}{P:Nat->Value->Prop}{St:Nat->qai->Prop}
end
section
variable {prog:qaM}{w:World}{A:qaU}{E:Value->qai->Prop}{s:qai}
end
section
variable {prog:qaM}{w:World}{A:qaU}{E:Value->qai->Prop}{s:qai}{a r o:Addr}{m b m2 d k c:Nat}{f:Nat->Tok}
end
section
variable {prog:qaM}{w:World}{A:qaU}{E:Value->qai->Prop}{s:qai}{a b r o:Addr}{m c m2 d k e:Nat}{f:Nat->Tok}
end
section
variable {prog:qaM}{w:World}{A:qaU}{E:Value->qai->Prop}{s:qai}{a b r o:Addr}{m c m2 d k e:Nat}{f:Nat->Tok}
end
section
variable {prog:qaM}{w:World}{A:qaU}{E:Value->qai->Prop}{s:qai}{a:Addr}{m d b:Nat}{f:Nat->Tok}
end
section
variable {K:qae}{X:Cx}{pos p:Pos}{e a b:Expr}{d:Ef}{f c:Xf}
end
def jM (h:Heap) (d:Addr) (es:Array qee) (a:Nat):Prop:=∃ o,h.get? d=some o/\o.ExactDict/\o.data=.dict es a
theorem jM.at' {h h':Heap}{d:Addr}{es:Array qee}{a:Nat} (x:jM h d es a) (e:∀ o,h.get? d=some o->h'.get? d=some o):jM h' d es a:=let ⟨o,ho,r⟩:=x;⟨o,e o ho,r⟩
theorem jM.type {s:qai}{d:Addr}{es:Array qee}{a:Nat} (x:jM s.heap d es a):s.TypeIs (.ref d) "dict":=let ⟨o,ho,hc,_⟩:=x;⟨o,ho,hc.1⟩
theorem jM.lt {h:Heap}{d:Addr}{es:Array qee}{a:Nat} (x:jM h d es a):d<h.objs.size:=let ⟨o,ho,_⟩:=x;qau ho
section
variable {prog:qaM}{w:World}{A:qaU}{E:Value->qai->Prop}{s:qai}{d n:Addr}{es:Array qee}{i f:Nat}
theorem Ag {Q:Value->qai->Prop} (hd:(d==qcB)=false) (hm:jM s.heap d es f)
  (l:Q (.ref s.heap.objs.size) { s with heap:=s.heap.push { cls:=.type "dict_keyiterator",data:=.fields #[.ref d,.int 0 0,.int es.size 0,.int f 0] } }) :
  wpAny (model prog w) A (qiq (.ref d)) Q E s:=by
 have C:=hm.type;obtain⟨o,p,B,r⟩:=id hm;refine wpAny_pyIter_slot C qgm (qbY qgm C PySem.F.entry_dict_iter ?_ (PySem.F.args_dict_iter_1 _));refine qac ?_;refine qac (wpAny_notOrdered_dict C ?_);refine qaq ?_;show wpAny _ _ (qfO d >>= _) _ _ s;unfold qfO;rw[iFN (by rw[hd];exact qa5)];refine qac (qaq ?_);refine qac (qf9 p r ?_);refine qac (qgE p r ?_);refine qac (qcw (qaq ⟨_,U,"dict_keyiterator",_,⟨_,qat _ U,U⟩,qbW.lookup,?_⟩))
 simpa [qgH] using l
theorem Ah {Q:Option Value->qai->Prop} (c:s.heap.IsKeyIter n d i es.size f) (hm:jM s.heap d es f) (x:i<es.size)
  (l:∀ h',h'.IsKeyIter n d (i+1) es.size f->qdm n s.heap h'->Q (some es[i].key) { s with heap:=h' }) :
  wpAny (model prog w) A (qg8 (.ref n)) Q E s:=by
 obtain⟨o,p,B,hd⟩:=id c;obtain⟨G,k,D,j⟩:=id hm
 refine qac (qeJ (qbP c.typeIs qbW
  (qbY qbW c.typeIs qeM ?_ (qeD _))))
 refine qac (qaq ?_);refine qac ?_;refine qac ?_
 first|refine qac (qcZ c.typeIs (qaq ?_))|refine qac _
 refine qac (qkd p hd ?_);refine qac (qaq ?_);refine qac (qf9 k j ?_);rw[iFN (by simp)];refine qac (qaq ?_);refine qac (qgE k j ?_);rw[iFN (by simp)];refine qaq ?_;simp only[show ¬ (_<0) from by lia,if_false,qa7,qbD x];refine qac ?_
 first|refine qac (qcZ c.typeIs (qaq ?_))|refine qac _
 refine qac (qhP c.typeIs ?_);show wpAny _ _ (setField _ 1 _ >>= _) _ _ s;refine qac (qfr p hd (by simp) ?_);have g:(s.heap.update n (Obj.mapFields (·.setIfInBounds 1 (qgH ((i)+1))))).IsKeyIter n d (i+1) es.size f:=
  ⟨_,qc3 _ p (qg0 (qd4 hd _)),(qhW ..).trans B,by rw[qd4 hd];simp[qgH]⟩
 refine qac (qcl ?_);refine qac (qhP g.typeIs ?_);exact qaq (qaq ⟨_,U,qaq (l _ g (qdB ..))⟩)
theorem B5 {Q:Option Value->qai->Prop} (u:A.handled=none) (c:s.heap.IsKeyIter n d es.size es.size f) (hm:jM s.heap d es f)
  (l:∀ h',qhk n s.heap h'->Q none { s with heap:=h' }):wpAny (model prog w) A (qg8 (.ref n)) Q E s:=by
 obtain⟨o,p,B,hd⟩:=id c;obtain⟨G,k,D,j⟩:=id hm
 refine qac (qeJ (qbP c.typeIs qbW
  (qbY qbW c.typeIs qeM ?_ (qeD _))))
 refine qac (qaq ?_);refine qac ?_;refine qac ?_
 first|refine qac (qcZ c.typeIs (qaq ?_))|refine qac _
 refine qac (qkd p hd ?_);refine qac (qaq ?_);refine qac (qf9 k j ?_);rw[iFN (by simp)];refine qac (qaq ?_);refine qac (qgE k j ?_);rw[iFN (by simp)];refine qaq ?_;simp only[show ¬ (_<0) from by lia,if_false,qa7,qdv (qan _)];refine qac ?_
 first|refine qac (qcZ c.typeIs (qaq ?_))|refine qac _
 show wpAny _ _ (setField _ 0 .none >>= _) _ _ s;refine qac (qfr p hd (by simp) ?_);refine qac ?_;refine qac (m:=qkj _ _) (wpAny_of_eq (a:=Value.none) (by first|rfl|(rfl)) ?_)
 refine qcw ?_ (by size_fits);refine qac (wpAny_handled ?_);rw[u];refine qac (qaq (wpAny_throw ?_));refine qac (qi8 ⟨_,qat _ U,U⟩ qki ?_);exact qaq (l _ (((qdB ..).extBut.push _).push _))
theorem yI (u:A.handled=none) (I d:Addr) (z:d≠I) (es:Array qee) (f:Nat) :
  Walks prog w A I [I,d] [I] es.size (λi v=>∃ e,es[i]?=some e/\v=e.key) (λi h=>h.IsKeyIter I d i es.size f/\jM h d es f) where
 sub:=λb hb=>by simp at hb;simp[hb]
 frame:=λ_ _ _ st y=>⟨st.1.at λo e=>y I (by simp) o e,st.2.at' λo e=>y d (by simp) o e⟩
 item:=λi s Q E hi st l=>by
  refine Ah st.1 st.2 hi λh' g t=>?_;exact l _ h' s.toks ⟨_,by simp[hi],U⟩ ⟨g,st.2.at' λo q=>t.extBut d o z q⟩ λb o hb q=>t.extBut b o (λh=>hb (by simp[h])) q
 done:=λs Q E st l=>B5 u st.1 st.2 λh' F=>l h' s.toks λb o hb e=>F b o (λh=>hb (by simp[h])) e
 self:=λ_ _ _ _ st l=>wpAny_pyIter_keyiter st.1 l
theorem Cg (prog:qaM) (w:World) (d:Addr) (es:Array qee) (f:Nat) (lo:(d==qcB)=false):PySem.W.KdlSrc prog w "dict" d d es.size (λi v=>∃ e,es[i]?=some e/\v=e.key) (λh=>jM h d es f) where
 type:=λs S=>S.type
 there:=λh S=>⟨S.lt,S.lt⟩
 keep:=λh h' S y=>S.at' λo e=>y d (.inl U) o e
 notList:=by decide
 notTuple:=by decide
 hint:=λA E s Q S h=>PySem.W.kdl_hint_dict S.type h
 iter:=λA s u S=>⟨_,_,λE Q h=>Ag lo S h,yI u s.heap.objs.size d (qaA S.lt) es f,
  ⟨⟨_,qat _ U,U,U⟩,S.at' λo e=>qah _ e⟩⟩
end
section
variable {prog:qaM}{w:World}{A:qaU}{E:Value->qai->Prop}{s:qai}{d:Addr}{es:Array qee}{z:Nat}
theorem sQ {Q:List Value->qai->Prop} (lo:(d==qcB)=false) (S:jM s.heap d es z) (M:A.handled=none) (hn:es.size<=qaH)
  (h:∀ h' j,(∀ b o,s.heap.get? b=some o->h'.get? b=some o)->s.heap.objs.size<h'.objs.size->Q (es.toList.map (·.key)) { s with heap:=h',toks:=j }) :
  wpAny (model prog w) A (collect (.ref d)) Q E s:=by
 have k:=S.lt;refine qac (wpAny_runValue (qd9 entry_proto_collect' ?_));refine qac (qfQ (qaq ⟨Code.quiet_builtin _ (by decide +kernel),qd9 entry_list_iadd' ?_⟩))
 refine PySem.W.kdl_extend (R:=λr s'=>match r with
   | .ok (.ret v)=>wpAny _ A (match v with
     |.ref a=>do
      let o <-load a
      match o.data with
      |.seq xs _=>pure xs.toList
      |_=>unsupported "internal:collect"
     |_=>unsupported "internal:collect") Q E s'
   |.ok _=>False
   |.error e=>E e s') (Cg prog w d es z lo) M (S.at' λo e=>qah _ e) s.heap.objs.size (qch k) (qch k) _ 0 (qat _ U) (λh' j acc c u T V=>?_) hn
 refine qac (wpAny_load T ?_);show wpAny _ _ (pure acc.toList) Q E _;have e:acc.toList=es.toList.map (·.key):=by
  apply qbX;intro i;rw[qaF,qgQ,qgQ];by_cases hi:i<acc.size
  ·obtain⟨e,L,B⟩:=V.2 i acc[i] (qbD hi)
   rw[L,qbD hi,B];rfl
  ·rw[qdv (by lia),qdv (by rw[<-V.1];lia)];rfl
 rw[e];refine qaq (h h' j (λb o q=>?_) (qau T));exact u b o (qaA (qau q)) (qah _ q)
theorem vR {Q:Value->qai->Prop}{D:List Value} (lo:(d==qcB)=false) (S:jM s.heap d es z) (M:A.in1.handled=none) (F:es.toList.map (·.key)=D) (K:D.length<64) (hu:A.in1.in1.units<cLine)
  (t:∀ v∈D,∃ l,TuI s.heap v l)
  (h:∀ (h':Heap) (j:Nat) (p:Addr) (z:Nat) (f:List Value),(∀ b o,s.heap.get? b=some o->h'.get? b=some o)->s.heap.objs.size<=p->h'.get? p=some (qfR "list" f.toArray z)->f.Perm D->f.Pairwise (λx y=>OI.kle (tuI s.heap x) (tuI s.heap y))->Q (.ref p) { s with heap:=h',toks:=j }) :
  wpAny (model prog w) A (call (.builtin "sorted") [.ref d]) Q E s:=by
 refine qgj kind_sorted plain_sorted entry_sorted (args_sorted1 _) ?_;refine qac (qaq ?_);have P:es.size<=qaH:=by
  have:=congrArg qf4 F
  rw[qaf,qcN]at this;rw[qc8];lia
 refine qac (sQ lo S M P λG j u k=>?_);rw[F];refine qac (qfQ ?_ (by rw[qc8];lia));have n:(G.push _).get? G.objs.size=some (qfR "list" D.toArray 0):=qat _ U
 refine qac (qcl (qbY qkf ⟨_,n,U⟩ qj2 (pL (O:=OI) (rk:=λp=>tuI s.heap p.1) (S:=λp=>∃ l,TuI s.heap p.1 l) (s:={ s with heap:=G.push _,toks:=j }) n K (λh' H=>?_) (λv B=>t v B) λf a1 a2=>⟨_,U,?_⟩) (qkl _)))
 ·have g:=λb o q=>H b o (qaA (qau (u b o q))) (qah _ (u b o q))
  obtain⟨X,k1,k2⟩:=t6 (s:={ s with heap:=h',toks:=j }) (λv B=>let ⟨l,tl⟩:=t v B;⟨l,tl.fit g⟩) hu;refine⟨X,k1,λx y ⟨l,I⟩ ⟨m,N⟩ Q E Y=>k2 x y ⟨l,I.fit g⟩ ⟨m,N.fit g⟩ Q E ?_⟩;have C:Q (bB (tuI s.heap x.1) (tuI s.heap y.1)) { s with heap:=h',toks:=j }:=Y;show Q (bB (tuI h' x.1) (tuI h' y.1)) { s with heap:=h',toks:=j };rw[(I.fit g).is,(N.fit g).is];rw[I.is,N.is]at C;exact C
 ·refine qaq ⟨_,U,?_⟩
  obtain⟨J,L⟩:=sortedHeap_at n;refine h _ j G.objs.size J f (λb o q=>?_) (qeO k) L a1 (a2.imp λ{x y} q=>q);have W:=u b o q;have hb:=qau W;rw[sortedHeap_old (qaA hb) (by rw[qiN];exact qa1 hb),qdA _ _ _ (qaA hb)];exact W
end
def mgt (st:Sto) (n:Nat):Option (List (List Int×D)):=match st[n]? with
 |some (.m a)=>some a
 |_=>none
def vM (a:List (List Int×D)) (k:List Int):Option D:=(a.find? λp=>decide (p.1=k)).map (·.2)
def Aa (a:List (List Int×D)) (k:List Int) (d:D):List (List Int×D):=if (a.any λp=>decide (p.1=k))=true then a.map λp=>if p.1=k then (p.1,d) else p else a++[(k,d)]
def CG:Ef
 |_,st=>some (.h st.length,st++[.m []])
def x9 (o k:Ef):Ef
 |env,st=>(o env st).bind λx=>(k env x.2).bind λy=>match x.1,y.1 with
 |.h n,.d (.tup ds)=>(mgt y.2 n).bind λa=>(bb ds).bind λl=>(vM a l).map λd=>(.d d,y.2)
 |_,_=>none
def wu (o k v:Ef):Sf
 |env,st=>(v env st).bind λz=>(o env z.2).bind λx=>(k env x.2).bind λy=>match x.1,y.1,z.1 with
 |.h n,.d (.tup ds),.d d=>(mgt y.2 n).bind λa=>(bb ds).bind λl=>if a.length<1000 then some (.nx env (y.2.set n (.m (Aa a l d)))) else none
 |_,_,_=>none
def kU (a:Ef):Lf
 |env,st=>(a env st).bind λx=>match x.1 with
 |.h n=>(mgt x.2 n).bind λb=>if b.length<64 then some ((ar (b.map (·.1))).map aq,x.2) else none
 |_=>none
section
variable {K:qae}{X:Cx}{pos:Pos}{e a b o f:Expr}{fe fa fb fo ff:Ef}
theorem zG {st:Sto}{n:Nat}{j:List (List Int×D)} (h:mgt st n=some j):st[n]?=some (.m j):=by
 unfold mgt at h;split at h
 ·rename_i q;cases h;exact q
 ·cases h
theorem Sr.atm {H:Hp}{φ:List Addr}{st:Sto} (S:Sr K H φ st) {n:Nat}{p:Addr}{j:List (List Int×D)} (e1:φ[n]?=some p) (M:mgt st n=some j):∃ w,H p=some (.dT w)/\Rkv K H φ j w:=S.at_ n p _ e1 (zG M)
theorem Rkv.length {H:Hp}{φ:List Addr}:∀ {ds:List (List Int×D)}{w:List (List Key×V)},Rkv K H φ ds w->ds.length=w.length
 |[],_,h=>by cases h;rfl
 |(k,d)::ds,_,h=>by
  obtain⟨v,r,rfl,B,A⟩:=h;rw[qap,qap,Rkv.length A]
theorem kj:∀ {a b:List Int},ie a=ie b->a=b
 |[],[],_=>rfl
 |[],_::_,h=>by cases h
 |_::_,[],h=>by cases h
 |x::a,y::b,h=>by
  injection h with B A;injection B with B;rw[B,kj A]
theorem wJ (l:List Int):(ie l).map kV=l.map V.int:=by
 unfold ie;rw[qaG];rfl
theorem Rkv.val {H:Hp}{φ:List Addr}{i:List Int}:∀ {ds:List (List Int×D)}{w:List (List Key×V)},Rkv K H φ ds w->(∀ d,vM ds i=some d->∃ v,ig w (ie i)=some v/\Rl K H φ d v)/\(vM ds i=none->ig w (ie i)=none)
 |[],_,h=>by cases h;exact⟨(λd e=>nomatch e),λ_=>rfl⟩
 |(k,d)::ds,_,h=>by
  obtain⟨v,r,rfl,B,A⟩:=h;by_cases e:k=i
  ·subst e
   have e1:vM ((k,d)::ds) k=some d:=by unfold vM;rw[qev (by simp)];rfl
   have M:ig ((ie k,v)::r) (ie k)=some v:=by unfold ig;rw[qev (by simp)];rfl
   rw[e1,M];exact⟨λd' q=>⟨v,U,by cases q;exact B⟩,λq=>nomatch q⟩
  ·have e1:vM ((k,d)::ds) i=vM ds i:=by unfold vM;rw[qew (by simpa using e)]
   have M:ig ((ie k,v)::r) (ie i)=ig r (ie i):=by unfold ig;rw[qew (by simpa using λz=>e (kj z))]
   rw[e1,M];exact (Rkv.val A)
theorem Rkv.any {H:Hp}{φ:List Addr}{i:List Int}:∀ {ds:List (List Int×D)}{w:List (List Key×V)},Rkv K H φ ds w->(w.any λp=>decide (p.1=ie i))=ds.any λp=>decide (p.1=i)
 |[],_,h=>by cases h;rfl
 |(k,d)::ds,_,h=>by
  obtain⟨v,r,rfl,B,A⟩:=h;rw[qcr,Rkv.any A]
  congr 1
  exact decide_eq_decide.mpr ⟨λz=>kj z,λz=>congrArg ie z⟩
theorem Rkv.repl {H:Hp}{φ:List Addr}{i:List Int}{x:D}{y:V} (O:Rl K H φ x y):∀ {ds:List (List Int×D)}{w:List (List Key×V)},Rkv K H φ ds w->Rkv K H φ (ds.map λp=>if p.1=i then (p.1,x) else p) (w.map λp=>if p.1=ie i then (p.1,y) else p)
 |[],_,h=>by cases h;exact U
 |(k,d)::ds,_,h=>by
  obtain⟨v,r,rfl,B,A⟩:=h;rw[qas,qas];by_cases e:k=i
  ·rw[iFP e,iFP (by rw[e])]
   exact⟨y,_,U,O,Rkv.repl O A⟩
  ·rw[iFN e,iFN (λz=>e (kj z))]
   exact⟨v,_,U,B,Rkv.repl O A⟩
theorem Rkv.snoc {H:Hp}{φ:List Addr}:∀ {ds:List (List Int×D)}{w:List (List Key×V)}{k:List Int}{d:D}{v:V},Rkv K H φ ds w->Rl K H φ d v->Rkv K H φ (ds++[(k,d)]) (w++[(ie k,v)])
 |[],_,_,_,_,h,hd=>by cases h;exact⟨_,_,U,hd,U⟩
 |(k,d)::ds,_,_,_,_,h,hd=>by
  obtain⟨v,r,rfl,B,A⟩:=h;exact⟨v,_,U,B,Rkv.snoc A hd⟩
theorem Rkv.put {H:Hp}{φ:List Addr}{ds:List (List Int×D)}{w:List (List Key×V)}{k:List Int}{d:D}{v:V} (h:Rkv K H φ ds w) (hd:Rl K H φ d v):Rkv K H φ (Aa ds k d) (lh w (ie k) v):=by
 unfold Aa lh;rw[h.any];split
 ·exact h.repl hd
 ·exact h.snoc hd
theorem xC {H:Hp}{φ:List Addr}{ds:List D}{l:List Int}{v:V} (hl:bb ds=some l) (r:Rl K H φ (.tup ds) v):∃ p,v=.ref p/\H p=some (.tup ((ie l).map kV)):=by
 obtain⟨p,w,rfl,B,A⟩:=r;cases bA hl;cases A.ints;rw[wJ];exact⟨p,U,B⟩
theorem mj:IE K X (.Dict [] [] pos) CG:=by
 refine⟨λenv st r g=>?_⟩;cases g;refine zQ.imp ?_
 rintro σ H Q ⟨φ,L,F,q⟩
 exact λp hp=>q _ _ _ (Fw.moreO hp) (F.moreC hp ⟨_,upd_same,U⟩) ⟨p,by rw[<-F.len];simp,U⟩
theorem qH {k:Nat} (J:bv k X.A) (ha:IE K X a fa) (hb:IE K X b fb) (hs:C7 b):IE K X (.Subscript a b pos) (x9 fa fb):=by
 refine⟨λenv st r g=>?_⟩;simp only[x9,qab]at g;obtain⟨⟨x,s1⟩,O,⟨y,s2⟩,hy,g⟩:=g;dsimp only at g;split at g
 next n ds=>
  simp only[qab,qad]at g;obtain⟨j,hk,l,hl,d,hd,rfl⟩:=g;refine (BN (CF J) (ha.run _ _ _ O) (hb.run _ _ _ hy) hs).imp ?_
  rintro σ H Q ⟨φ,L,F,q⟩
  refine⟨φ,L,F,λv H1 E N S1 w1=>⟨E,L.fw F N,S1,λu H2 φ2 f2 S2 w2=>?_⟩⟩;obtain⟨p,ep,rfl⟩:=w1.fw S1 f2;obtain⟨w,hv,rl⟩:=S2.atm ep hk;obtain⟨v2,M,r2⟩:=rl.val.1 d hd;obtain⟨b',rfl,R⟩:=xC hl w2;refine⟨p,v2,U,?_,q _ H2 φ2 (N.trans f2) S2 r2⟩;rw[<-M];exact xJ.t hv R
 ·cases g
theorem my {k:Nat}{P:Pos} (J:bv k X.A) (ho:IE K X a fa) (hi:IE K X b fb) (hv:IE K X e fe) (hs:qcD e (some (.Subscript a b P)) pos.line X.env=pure false:=by rfl) :
  IS K X (.Assign [.Subscript a b P] e pos) (wu fa fb fe):=by
 refine⟨λenv st r g=>?_⟩;simp only[wu,qab]at g;obtain⟨⟨z,s1⟩,hz,⟨x,s2⟩,O,⟨y,s3⟩,hy,g⟩:=g;dsimp only at g;split at g
 next n ds d=>
  simp only[qab]at g;obtain⟨j,hk,l,hl,g⟩:=g;split at g
  ·rename_i G
   cases g;refine (BV (CF J) (ho.run _ _ _ O) (hi.run _ _ _ hy) (hv.run _ _ _ hz) hs).imp ?_
   rintro D σ H ⟨φ,L,F,q⟩
   refine⟨φ,L,F,λv H1 E N S1 w1=>⟨E,L.fw F N,S1,λu H2 φ2 f2 S2 w2=>⟨φ2,(L.fw F N).fw S1 f2,S2,λt H3 φ3 f3 S3 w3=>?_⟩⟩⟩;obtain⟨p,ep,rfl⟩:=w2.fw S2 f3;obtain⟨w,hp,rl⟩:=S3.atm ep hk;obtain⟨b',rfl,R⟩:=xC hl w3;obtain⟨f4,S4⟩:=S3.putC (c:=.m _) ep λf=>⟨_,upd_same,(rl.put (Rl.fw S2 f3 (Rl.fw S1 f2 w1))).fw S3 f⟩;refine⟨p,_,U,yJ.t hp R (by rw[<-rl.length];exact qaP G (by decide)),?_⟩;exact q _ _ φ3 (((N.trans f2).trans f3).trans f4) (((((L.fw F N).fw S1 f2).fw S2 f3)).fw S3 f4) S4
  ·cases g
 ·cases g
theorem wK {H:Hp}{φ:List Addr}:∀ {j:List (List Int×D)}{w:List (List Key×V)}{xs:List (List Key×Addr×Value)},Rkv K H φ j w->KT H w xs->
  Rls K H φ ((j.map (·.1)).map aq) (xs.map λx=>V.ref x.2.1)/\aL (xs.map λx=>V.ref x.2.1) (xs.map λx=>Value.ref x.2.1)
 |[],_,_,h,t=>by cases h;cases t;exact⟨U,.nil⟩
 |(k,d)::j,_,_,h,t=>by
  obtain⟨v,r,rfl,B,A⟩:=h;cases t with
  |cons q t=>
   rename_i x xs;obtain⟨i1,i2⟩:=wK A t;have e:H x.2.1=some (.tup (k.map V.int)):=by rw[<-wJ];exact q.2.1
   exact⟨⟨_,_,U,⟨_,_,U,e,Rls.of_ints k⟩,i1⟩,.cons U i2⟩
theorem ke {k:Nat}{p:Pos} (J:bv k X.A) (hg:Gl X "sorted") (hm:X.mg "sorted" = none) (ha:IE K X a fa) (hc:X.calm=true:=by rfl) (hs:aC a=true:=by rfl) (hK:X.K=K:=by rfl):IL K X (.Call (.Name "sorted" p) [a] [] pos) (kU fa):=by
 subst hK;refine⟨λenv st r g=>?_⟩;simp only[kU,qab]at g;obtain⟨⟨x,s1⟩,O,g⟩:=g;dsimp only at g;split at g
 case h_2=>cases g
 rename_i n;simp only[qab]at g;obtain⟨j,hk,g⟩:=g;split at g
 ·rename_i hl
  cases g;have hA:=(bE (K:=X.K) (X:=X) ha cw hs).run env st ([.h n],s1) (by simp only[aa,ae,O,qaa,qak]);have hC:bN X (.builtin "sorted") (λxs H Q=>∃ φ q,Sr X.K H φ s1/\φ[n]?=some q/\xs=[.ref q]/\∀ l us,H l=none->Rls X.K H φ ((ar (j.map (·.1))).map aq) us->Q (.ref l) (upd H l (.lst us))):=by
   intro pins s σ H xs us Q I rv q;obtain⟨φ,ad,S,ead,rfl,q⟩:=q;obtain⟨u,rfl,ru⟩:=g9 rv;cases ru;obtain⟨w,hv,rl⟩:=S.atm ead hk;obtain⟨z',hd,xs,rel,o,es,ep,g1,g2,g3,g4,g5,g6⟩:=CC I.hok hv;obtain⟨b1,b2⟩:=wK rl rel;have G:xs.length<64:=by
    have e1:=rel.length;have M:=rl.length;lia
   have T:es.toList.map (·.key)=xs.map λx=>Value.ref x.2.1:=by rw[g4,qaG];rfl
   obtain⟨m1,m2⟩:=kB I b1 b2;have hun:X.A.in1.in1.units<cLine:=by
    have:=J.un
    show X.A.units+1+1<cLine;lia
   refine vR hd ⟨o,g1,g2,g3⟩ (I.ok.hd hc) T (by rw[qaf];exact G) hun (λv hv=>⟨_,(m2 v hv).1⟩) λh' tk p ep' C Y hp he a1 a2=>?_;have hn:H p=none:=I.hok.fresh hp;have ho:=λu hu=>m2 u (a1.mem_iff.mp hu);obtain⟨c1,c2⟩:=ou (K:=X.K) (H:=H) (φ:=φ) ho;have hpm:(C.map (tuI s.heap)).Perm (j.map (·.1)):=by
    have:=a1.map (tuI s.heap)
    rw[m1]at this;exact this
   have hsrt:(C.map (tuI s.heap)).Pairwise leL:=by
    rw[qcI];exact a2.imp λ{x y} q=>q
   have e:C.map (tuI s.heap)=ar (j.map (·.1)):=kE (hpm.trans (aG _).symm) hsrt (dm _);have M:(C.map λu=>aq (tuI s.heap u))=(ar (j.map (·.1))).map aq:=by rw[<-e,qaG];rfl
   rw[M]at c1;have hlay:Inv X pins σ (upd H p (.lst (C.map toV))) { s with heap:=h',toks:=tk }:=by
    refine I.laid (t':=tk) (a:=p) (o:=.lst (C.map toV)) Y hp ⟨?_,C,ep',c2,by simpa [qfR] using he⟩;rw[qaf,a1.length_eq,qaf];exact kD (by lia)
   exact⟨.ref p,_,hlay,U,q p _ hn c1⟩
  refine (oj hC hg hm qaV hA (by decide) (by decide) (aV hs) (bx (es:=[]) U)).imp ?_
  rintro σ H Q ⟨φ,L,F,q⟩
  refine⟨φ,L,F,λw H1 E N S1 w1=>?_⟩;obtain⟨v,r,rfl,⟨ad,ead,rfl⟩,rfl⟩:=w1;exact⟨E,ad,S1,ead,U,λl us hl' hr'=>q l _ H1 E N S1 hl' hr'⟩
 ·cases g
def yX (st:Sto):W->W->Option D
 |.d (.tup a),.d (.tup b)=>(bb a).bind λns=>(bb b).map λms=>.bl (bB ns ms)
 |x,y=>dLt st x y
theorem uc:∀ (a b:List Int),HT.lexLt a b=bB a b
 |[],[]=>rfl
 |[],_::_=>rfl
 |_::_,[]=>rfl
 |x::a,y::b=>by rw[HT.lexLt_cons,bB,uc a b]
theorem rA {k:Nat} (g:bv k X.A) (hK:X.K=K:=by rfl):OpD K X (qbq .Lt) yX:=by
 refine⟨λst x y d h=>?_⟩;by_cases ht:∃ a b,x=.d (.tup a)/\y=.d (.tup b)
 ·obtain⟨a,b,rfl,rfl⟩:=ht
  simp only[yX,qab,qad]at h;obtain⟨ns,B,ms,A,rfl⟩:=h;have hu:X.A.units<cLine:=by have:=g.un;lia
  refine (DU hu).imp ?_
  rintro vx vy H Q ⟨φ,S,⟨p,w,rfl,g1,g2⟩,⟨p2,vs2,rfl,g3,g4⟩,q⟩
  cases bA B;cases bA A;cases g2.ints;cases g4.ints;refine⟨p,p2,ns,ms,U,U,SqT.of g1,SqT.of g3,?_⟩;rw[uc];exact q _ H (aS.refl H) U
 ·have e:yX st x y=dLt st x y:=by
   unfold yX;split
   ·rename_i a b
    exact absurd ⟨a,b,U,U⟩ ht
   ·rfl
  rw[e]at h;exact uq.run st x y d h
end
mutual
def toP:D->PyData
 |.non=>.none
 |.bl b=>.bool b
 |.int i=>.int i
 |.str x=>.str x
 |.tup ds=>.tuple (jm ds)
 |.lst ds=>.list (jm ds)
 |_=>.none
def jm:List D->List PyData
 |[]=>[]
 |d::ds=>toP d::jm ds
end
mutual
def rpD:D->Bool
 |.non=>true
 |.bl _=>true
 |.int i=>decide (i.natAbs.log2<1920)
 |.str _=>true
 |.tup ds=>lj ds
 |.lst ds=>lj ds
 |_=>false
def lj:List D->Bool
 |[]=>true
 |d::ds=>rpD d&&lj ds
end
mutual
def wtD:D->Nat
 |.non=>10
 |.bl _=>10
 |.int _=>2000
 |.str x=>(reprText x).length
 |.tup ds=>oN ds+5
 |.lst ds=>oN ds+5
 |_=>0
def oN:List D->Nat
 |[]=>0
 |d::ds=>wtD d+2+oN ds
end
mutual
def dpD:D->Nat
 |.tup ds=>ng ds+1
 |.lst ds=>ng ds+1
 |_=>1
def ng:List D->Nat
 |[]=>0
 |d::ds=>max (dpD d) (ng ds)
end
def qw (st:Sto):List W->Option D
 |[w]=>match w with
  |.d d=>if rpD d=true/\wtD d<=16000000/\dpD d<=50 then some (.str (toP d).shown) else none
  |.h _=>none
 |_=>none
theorem lK:∀ (ts:List Str) (k:Nat) (acc:Str),(textFrom k acc ts).length<=acc.length+piled ts
 |[],k,acc=>by show acc.length<=_;lia
 |t::r,k,acc=>by
  have h:=lK r (k+1) (acc++(if k > 0 then ", " else "" : String)++t)
  have e:(acc++(if k > 0 then ", " else "" : String)++t).length<=acc.length+2+t.length:=by
   rw[qeK,qeK]
   have:((if k > 0 then ", " else "" : String):Str).length<=2:=by split<;>decide
   lia
  rw[piled_cons];show (textFrom (k+1) _ r).length<=_;lia
theorem AE (ts:List Str):(tupleText ts).length<=piled ts+3:=by
 have b:(Str.join ", " ts).length<=piled ts:=by
  cases ts with
  |nil=>exact qby _
  |cons x r=>
   have:=join_length_add (x::r) (by simp)
   lia
 unfold tupleText;rw[qeK,qeK];have a:((if ts.length==1 then ",)" else ")" : String):Str).length<=2:=by split<;>decide
 have c:((("(" : String):Str)).length=1:=rfl
 lia
theorem Bs (ts:List Str):(listText ts).length<=piled ts+2:=by
 have h:=lK ts 0 "["
 unfold listText;rw[qeK];have b:((("[" : String):Str)).length=1:=rfl
 have a:((("]" : String):Str)).length=1:=rfl
 lia
mutual
theorem uG:∀ d:D,rpD d=true->(toP d).shown.length<=wtD d
 |.non,_=>by rw[toP,wtD];decide
 |.bl b,_=>by rw[toP,wtD];cases b<;>decide
 |.int i,h=>by
  rw[rpD,decide_eq_true_eq]at h;rw[toP,wtD,qfl]
  have:=int_text_length_le (k:=1920) (by decide) h
  rw[PySem.ofString_length];lia
 |.str x,_=>by rw[toP,wtD,qfl];exact qan _
 |.tup ds,h=>by
  rw[rpD]at h;rw[toP,wtD,qfl]
  have:=lm ds h
  have:=AE (qdN (jm ds))
  lia
 |.lst ds,h=>by
  rw[rpD]at h;rw[toP,wtD,qfl]
  have:=lm ds h
  have:=Bs (qdN (jm ds))
  lia
 |.ty _,h=>by simp[rpD]at h
 |.dct,h=>by simp[rpD]at h
 |.scr _,h=>by simp[rpD]at h
theorem lm:∀ ds:List D,lj ds=true->piled (qdN (jm ds))<=oN ds
 |[],_=>by rw[jm,oN,qdN];exact qan _
 |d::ds,h=>by
  rw[lj,qaX]at h;rw[jm,oN,qdN,piled_cons]
  have:=uG d h.1
  have:=lm ds h.2
  lia
end
mutual
theorem vZ:∀ d:D,rpD d=true->(toP d).showable=true/\(toP d).hasDict=false/\(toP d).depth<=dpD d
 |.non,_=>⟨U,U,by decide⟩
 |.bl b,_=>⟨U,U,by rw[toP,qeu];exact qby _⟩
 |.int i,h=>by
  rw[rpD]at h;rw[toP];exact⟨h,U,by rw[qeu];exact qby _⟩
 |.str x,_=>⟨U,U,by rw[toP,qeu];exact qby _⟩
 |.tup ds,h=>by
  rw[rpD]at h;rw[toP,dpD,qhD,qhU,qeu];obtain⟨a,b,c⟩:=mQ ds h;exact⟨a,b,by lia⟩
 |.lst ds,h=>by
  rw[rpD]at h;rw[toP,dpD,qhD,qhU,qeu];obtain⟨a,b,c⟩:=mQ ds h;exact⟨a,b,by lia⟩
 |.ty _,h=>by simp[rpD]at h
 |.dct,h=>by simp[rpD]at h
 |.scr _,h=>by simp[rpD]at h
theorem mQ:∀ ds:List D,lj ds=true->qgZ (jm ds)=true/\qhc (jm ds)=false/\qfE (jm ds)<=ng ds
 |[],_=>by rw[jm,ng];exact⟨U,U,by simp[qfE]⟩
 |d::ds,h=>by
  rw[lj,qaX]at h;obtain⟨a,b,c⟩:=vZ d h.1;obtain⟨e,f,g⟩:=mQ ds h.2;rw[jm,ng,qgZ,qhc,qfE,a,b,e,f];exact⟨U,U,by lia⟩
end
section
variable {K:qae}{X:Cx}{pins:List (Addr×Obj)}{σ:St}{H:Hp}{s:qai}{φ:List Addr}
mutual
theorem uD (I:Inv X pins σ H s):∀ (d:D) (v:V) (u:Value),rpD d=true->Rl X.K H φ d v->aP v u->∃ as,Reads s.heap u (toP d) as
 |.non,v,u,_,r,q=>by cases (show v=.non from r);cases q;exact⟨_,by rw[toP];exact .none⟩
 |.bl b,v,u,_,r,q=>by cases (show v=.bl b from r);cases q;exact⟨_,by rw[toP];exact .bool b⟩
 |.int i,v,u,_,r,q=>by cases (show v=.int i from r);obtain⟨t,rfl⟩:=q;exact⟨_,by rw[toP];exact .int i t⟩
 |.str x,v,u,_,r,q=>by cases (show v=.str x from r);obtain⟨t,rfl⟩:=q;exact⟨_,by rw[toP];exact .str x t⟩
 |.tup ds,v,u,h,r,q=>by
  rw[rpD]at h;obtain⟨a,vs,rfl,h1,h2⟩:=r;cases q;obtain⟨its,rv,⟨o,ho,hc,n,hd⟩,_⟩:=I.tuple (SqT.of h1);obtain⟨as,ra⟩:=li I ds vs its h h2 rv;exact⟨as,by rw[toP];exact .tuple ho hc hd (by simpa using ra)⟩
 |.lst ds,v,u,h,r,q=>by
  rw[rpD]at h;obtain⟨a,vs,rfl,_,h1,h2⟩:=r;cases q;obtain⟨its,rv,⟨o,n,ho,hc,hdd,hd⟩,_⟩:=I.list (.inl h1);obtain⟨as,ra⟩:=li I ds vs its h h2 rv;exact⟨a::as,by rw[toP];exact .list ho hc hd (by simpa using ra)⟩
 |.ty _,_,_,h,_,_=>by simp[rpD]at h
 |.dct,_,_,h,_,_=>by simp[rpD]at h
 |.scr _,_,_,h,_,_=>by simp[rpD]at h
theorem li (I:Inv X pins σ H s):∀ (ds:List D) (vs:List V) (us:List Value),lj ds=true->Rls X.K H φ ds vs->aL vs us->∃ as,ReadsAll s.heap us (jm ds) as
 |[],vs,us,_,r,q=>by cases r;cases q;exact⟨[],by rw[jm];exact .nil⟩
 |d::ds,vs,us,h,r,q=>by
  rw[lj,qaX]at h;obtain⟨v,r',rfl,h1,h2⟩:=r;cases q with
  |cons q1 q2=>
   obtain⟨as,a1⟩:=uD I d v _ h.1 h1 q1;obtain⟨bs,a2⟩:=li I ds r' _ h.2 h2 q2;exact⟨as++bs,by rw[jm];exact .cons a1 a2⟩
end
end
def kP (st:Sto):List W->Option D
 |[.d (.tup ds)]=>qw st [.d (.tup ds)]
 |[.d (.lst ds)]=>qw st [.d (.lst ds)]
 |_=>none
theorem jU {K:qae}{X:Cx}{k:Nat} (i:bv k X.A) (y:X.K=K:=by rfl):e6 K X (.builtin "repr") kP:=by
 subst y;refine⟨λst ws d h=>?_⟩;have b:∀ x:D,(∀ (H:Hp) (φ:List Addr) v,Rl X.K H φ x v->∃ a,v=.ref a)->qw st [.d x]=some d->bN X (.builtin "repr") (rCD X.K st [.d x] d):=by
  intro x l h;simp only[qw]at h;split at h
  ·rename_i c
   cases h;intro f s E H xs B Q I A q;obtain⟨φ,S,⟨v,r,rfl,g,rfl⟩,q⟩:=q;obtain⟨u,rfl,j⟩:=g9 A;obtain⟨as,t⟩:=uD I x v u c.1 g j;obtain⟨a,rfl⟩:=l H φ v g;cases j;obtain⟨p,o,F⟩:=vZ x c.1;have C:=uG x c.1;have n:=i.units;refine repr_of_reads' t p (PyData.noDict_hsm o) i.gd (by lia) (λ_ _ e=>e) (λh' u w m=>⟨.str _,H,I.kept (t':=w) m,⟨u,U⟩,q _ H (aS.refl H) U⟩) ?_;rw[qc8];lia
  ·cases h
 match ws,h with
 |[.d (.tup ds)],h=>exact b (.tup ds) (λH φ v ⟨a,z,e,_⟩=>⟨a,e⟩) h
 |[.d (.lst ds)],h=>exact b (.lst ds) (λH φ v ⟨a,z,e,_⟩=>⟨a,e⟩) h
end L2
namespace L2
open PySem PySem.Spec PyProof.Rows PySem.SeqAt PySem.W
section
variable {K:qae}{X:Cx}{H:Hp}{φ:List Addr}
end
end L2
namespace L2
open PySem PySem.Spec PyProof.Rows PySem.W
def wj (_:Sto):List W->Option D
 |[.d (.tup ds)]=>(bb ds).map λns=>.int ns.sum
 |_=>none
section
variable {K:qae}{X:Cx}
theorem xU:bN X (.builtin "sum") (λxs H Q=>X.calm=true/\∃ (a:Addr) (ns:List Int),xs=[.ref a]/\H a=some (.tup (ns.map V.int))/\Q (.int ns.sum) H):=by
 intro b s i H xs j Q I c h;obtain⟨f,a,ns,rfl,t,q⟩:=h;obtain⟨x,rfl,g⟩:=g9 c;cases g;obtain⟨z,n,c,p⟩:=(I.hok a _ t);have pt:=p.tup;obtain⟨ps,k,m⟩:=oK c;rw[k]at pt;refine ktm_sumG (I.ok.hd f) pt λh' w t' o=>?_;refine⟨.int ns.sum,H,I.kept o,⟨t',?_⟩,q⟩;rw[preSum_eq,qb7 (by simp),m]
theorem ma (f:X.calm=true:=by rfl) (y:X.K=K:=by rfl):e6 K X (.builtin "sum") wj:=by
 refine⟨λst ws d h=>?_⟩
 match ws,h with
 |[.d (.tup ds)],h=>
  obtain⟨ns,e,rfl⟩:=qad.mp h;cases bA e;intro b s i H xs j Q I c q;obtain⟨φ,S,⟨v,r,rfl,⟨a,j,rfl,u,l⟩,rfl⟩,q⟩:=q;cases l.ints;exact xU b s i H _ _ Q I c ⟨f,a,ns,U,u,q _ H (aS.refl H) U⟩
end
end L2
@[reducible]def Z(x:L2.D):Option L2.W:=some (.d x)
namespace Own
open PySem L2
def gk:Sf:=(az (.nm 1) (iOp bm (iV 1) (iC (.int 2))))
def mY:Sf:=(ah (az (.nm 1) (iC (.int 1))) (ah (eY (bV (aa (iV 0) ae)) (.nm 2) gk) (aN (iV 1))))
def eR:Fn:=bo 3 1 mY
def A6:Sf:=(aN (iOp fW (iOp pB (iV 0) (ap eR (aa (iV 1) ae))) (iC (.int 2))))
def rn:Fn:=bo 2 2 A6
def eW:Tf:=(aK dNe (iV 3) (iC (.int 0)))
def fJ:Sf:=(ah (az (.nm 4) (iOp fW (iV 1) (iV 3))) (ah (az (.nm 1) (iV 3)) (az (.nm 3) (iV 4))))
def ft:Sf:=(ah (az (.nm 3) (iCB Dg (aa (iV 2) ae))) (qD (2^8000) eW fJ))
def lX:Sf:=(ah (az (.nm 1) (iC (.int 0))) (ah (eY (aB (iV 0)) (.nm 2) ft) (aN (iV 1))))
def bu:Fn:=bo 5 1 lX
def sY:Ef:=(iOp m7 (iV 0) (iV 1))
def xO:Sf:=(ah (az (.nm 1) (ap bu (aa (iV 0) ae))) (ah (aZ (aK dEq (iV 1) (iC (.int 0))) (aN (iCB fX (aa (iV 0) ae))) aR) (aN (iCB fX (aa (au (iLc 1 [1] (aB (iV 0)) (.nm 0) aJ sY)) ae)))))
def bQ:Fn:=bo 2 1 xO
def fO:Ef:=(iV 0)
def fU:Tf:=(aK m8 (iV 1) (iC .non))
def lz:Sf:=(aN (iCB fX (aa (au (iLc 2 [] (cJ (aa (iV 0) ae)) (.tp [0,1]) fU fO)) ae)))
def cj:Fn:=bo 1 1 lz
def kK:Sf:=(aN (j5 (aK dEq (iOp dIx (iV 0) (iV 1)) (iC (.int 1))) (iC (.int 1)) (iUn ef (iC (.int 1)))))
def gn:Fn:=bo 2 2 kK
def iq:Ef:=(iOp bg (au (iCL wL (aa (iV 0) ae))) (au (bn (aa (iV 1) ae))))
def ir:Ef:=(iUn ef (iV 0))
def ck:List (Str×Ef):=[("amounts",(iCB aY (aa (iV 3) ae))),("lines",(au (iLc 2 [] (cN (aa (iV 1) (aa (iV 2) ae))) (.tp [0,1]) aJ iq))),("goal",(iOp bg (au (iLc 1 [] (aB (iV 3)) (.nm 0) aJ ir)) (au (bn (aa (iC (.int 0)) ae))))),("part",(iC (.int 1))),("free",(dg (x8 (aa (iCB aY (aa (iV 3) ae)) ae)))),("kept",(dg (qC (aa (iCB aY (aa (iV 3) ae)) (aa (iOp bg (iCB aY (aa (iV 3) ae)) (iCB aY (aa (iV 1) ae))) ae)))))]
def aW:Sf:=(ah (aZ (cg cz (iV 3)) (ah (az (.nm 5) (iOp bm (iOp dIx (iV 1) (iV 4)) (iOp dIx (iV 2) (iOp dIx (iV 3) (iC (.int 0)))))) (ah (az (.nm 6) (iOp bm (iOp dIx (iV 1) (iOp dIx (iV 3) (iC (.int 0)))) (iOp dIx (iV 2) (iV 4)))) (ah (aZ (aK dGt (iV 5) (iV 6)) pE aR) (aZ (aK dLt (iV 5) (iV 6)) (az (.nm 3) (dg (bn ae))) aR)))) aR) (j0 (nC gG (iV 3) (aa (iV 4) ae))))
def jo:Sf:=(ah (az (.nm 3) (dg (bn ae))) (ah (eY (aB (iV 0)) (.nm 4) aW) (aN (iV 3))))
def fT:Fn:=gP 7 3 jo
def xQ:Sf:=(aN (iOp bg (au (bn (aa (iC .non) ae))) (au (qC (aa (aA "amounts" (iV 0)) (aa (iOp bg (aA "amounts" (iV 0)) (iCB aY (aa (aA "lines" (iV 0)) ae))) ae))))))
def d8:Fn:=bo 1 1 xQ
def nj:Ef:=(j5 (aK dEq (iV 0) (iV 1)) (aA "part" (iV 2)) (iC (.int 0)))
def nk:Ef:=(iOp dIx (iV 0) (iV 1))
def nn:Ef:=(iOp dIx (iV 0) (iUn ef (iC (.int 1))))
def gA:Sf:=(ah (aZ (aK jB (iV 1) (iC .non)) (aN (au (iLc 1 [] (aB (aA "lines" (iV 0))) (.nm 0) aJ nn))) aR) (ah (aZ (aK dIn (iV 1) (aA "free" (iV 0))) (ah (az (.nm 2) (zj (aA "free" (iV 0)) (aa (iV 1) ae))) (aN (au (iLc 1 [2] (aB (aA "lines" (iV 0))) (.nm 0) aJ nk)))) aR) (aN (au (iLc 1 [1,0] (aB (aA "kept" (iV 0))) (.nm 0) aJ nj)))))
def cY:Fn:=bo 3 2 gA
def fu:Sf:=(ah (aZ (aK dLt (iCB aY (aa (iV 3) ae)) (iC (.int 2))) u7 aR) (az (.nm 3) (ap fT (aa (iV 3) (aa (ap cY (aa (iV 0) (aa (iV 4) ae))) (aa (iV 2) ae))))))
def sU:Ef:=(iV 0)
def uL:Tf:=(aK dGt (iV 1) (iC (.int 0)))
def sV:Ef:=(iOp dIx (iV 0) (iV 1))
def pf:Sf:=(ah (az (.nm 2) (au (iLc 1 [1] (aB (aA "lines" (iV 0))) (.nm 0) aJ sV))) (ah (az (.nm 3) (au (iLc 2 [] (cJ (aa (iV 2) ae)) (.tp [0,1]) uL sU))) (ah (eY (aB (ap d8 (aa (iV 0) ae))) (.nm 4) fu) (aN (j5 (cg cz (iV 3)) (iOp dIx (iV 3) (iC (.int 0))) (iC .non))))))
def jb:Fn:=bo 5 2 pf
def ci:Sf:=(ah (az (.nm 6) (ap cY (aa (iV 0) (aa (iV 5) ae)))) (ah (az (.nm 7) (iOp hW (iOp bm (iV 4) (iOp dIx (iV 6) (iOp dIx (iV 2) (iC (.int 1))))) (iOp bm (iV 3) (iOp dIx (iV 6) (iOp dIx (iV 1) (iC (.int 1))))))) (aZ (aK dNe (iV 7) (iC (.int 0))) (aN (iOp dGt (iV 7) (iC (.int 0)))) aR)))
def pZ:Sf:=(ah (az (.nm 3) (iOp bm (iOp dIx (aA "goal" (iV 0)) (iOp dIx (iV 1) (iC (.int 0)))) (iOp dIx (iOp dIx (aA "lines" (iV 0)) (iOp dIx (iV 2) (iC (.int 1)))) (iOp dIx (iV 2) (iC (.int 0)))))) (ah (az (.nm 4) (iOp bm (iOp dIx (aA "goal" (iV 0)) (iOp dIx (iV 2) (iC (.int 0)))) (iOp dIx (iOp dIx (aA "lines" (iV 0)) (iOp dIx (iV 1) (iC (.int 1)))) (iOp dIx (iV 1) (iC (.int 0)))))) (ah (eY (aB (ap d8 (aa (iV 0) ae))) (.nm 5) ci) (aN (iC (.bl false))))))
def cp:Fn:=bo 8 3 pZ
def bY:Sf:=(ah (aZ (aK dGe (iOp dIx (aA "goal" (iV 0)) (iV 2)) (iC (.int 0))) pE aR) (ah (az (.nm 3) (a9 (aa (iV 2) (aa (ap jb (aa (iV 0) (aa (iV 2) ae))) ae)))) (ah (aZ (aK jB (iOp dIx (iV 3) (iC (.int 1))) (iC .non)) (aN (iV 3)) aR) (aZ (dz (aK jB (iV 1) (iC .non)) (cg cz (ap cp (aa (iV 0) (aa (iV 3) (aa (iV 1) ae)))))) (az (.nm 1) (iV 3)) aR))))
def sI:Sf:=(ah (az (.nm 1) (iC .non)) (ah (eY (bV (aa (iCB aY (aa (aA "free" (iV 0)) ae)) ae)) (.nm 2) bY) (aN (iV 1))))
def bU:Fn:=bo 4 1 sI
def kR:Ef:=(iOp m7 (iOp hW (iOp bm (iV 2) (iV 0)) (iOp bm (iV 3) (iV 1))) (iV 4))
def wa:Sf:=(ah (az (.nm 4) (iOp dIx (iV 1) (iV 2))) (ah (az (.nm 5) (iOp dIx (iV 0) (iV 2))) (ah (az (.nm 6) (dg (iLc 2 [4,5,3] (cN (aa (iV 0) (aa (iV 1) ae))) (.tp [0,1]) aJ kR))) (ah (bC (iV 6) (iV 2) (iUn ef (iV 5))) (aN (iV 6))))))
def ko:Fn:=gP 7 4 wa
def dU:Ef:=(ap ko (aa (iV 0) (aa (iV 1) (aa (iV 2) (aa (iV 3) ae)))))
def jz:Sf:=(ah (az (.nm 3) (iOp dIx (aA "lines" (iV 0)) (iV 1))) (ah (az (.nm 4) (aA "part" (iV 0))) (ah (i3 5 1 2 3 4 (iLc 1 [3,2,4] (aB (aA "lines" (iV 0))) (.nm 0) aJ dU)) (ah (lD "goal" (iV 0) (ap ko (aa (aA "goal" (iV 0)) (aa (iV 3) (aa (iV 2) (aa (iV 4) ae)))))) (ah (lD "lines" (iV 0) (iV 5)) (ah (lD "part" (iV 0) (iOp dIx (iV 3) (iV 2))) (ah (az (.nm 6) (iOp dIx (aA "free" (iV 0)) (iV 2))) (ah (bC (aA "free" (iV 0)) (iV 2) (iOp dIx (aA "kept" (iV 0)) (iV 1))) (bC (aA "kept" (iV 0)) (iV 1) (iV 6))))))))))
def eQ:Fn:=gP 7 3 jz
def nW:Sf:=(aZ (aK dLt (iV 4) (aA "amounts" (iV 0))) (bC (iV 2) (iV 4) (iUn ef (iOp dIx (iOp dIx (aA "lines" (iV 0)) (iV 3)) (iV 1)))) aR)
def sM:Sf:=(ah (az (.nm 2) (dg (tH nV (au (bn (aa (iC (.int 0)) ae))) (aA "amounts" (iV 0))))) (ah (eY (cJ (aa (aA "kept" (iV 0)) ae)) (.tp [3,4]) nW) (ah (aZ (aK dLt (iOp dIx (aA "free" (iV 0)) (iV 1)) (aA "amounts" (iV 0))) (bC (iV 2) (iOp dIx (aA "free" (iV 0)) (iV 1)) (aA "part" (iV 0))) aR) (aN (df bQ (aa (iV 2) ae))))))
def kq:Fn:=gP 5 2 sM
def iD:Sf:=(aZ (aK dLt (iV 3) (aA "amounts" (iV 0))) (bC (iV 1) (iV 3) (iOp dIx (iOp dIx (aA "lines" (iV 0)) (iV 2)) (iUn ef (iC (.int 1))))) aR)
def jQ:Sf:=(ah (az (.nm 1) (dg (tH nV (au (bn (aa (iC (.int 0)) ae))) (aA "amounts" (iV 0))))) (ah (eY (cJ (aa (aA "kept" (iV 0)) ae)) (.tp [2,3]) iD) (aN (iV 1))))
def gI:Fn:=gP 4 1 jQ
def jv:Sf:=(aZ (aK dGe (iV 3) (aA "amounts" (iV 0))) (bC (iV 1) (iOp hW (iV 3) (aA "amounts" (iV 0))) (iOp dIx (aA "goal" (iV 0)) (iV 2))) aR)
def ly:Sf:=(ah (az (.nm 1) (dg (tH nV (au (bn (aa (iC (.int 0)) ae))) (iCB aY (aa (aA "lines" (iV 0)) ae))))) (ah (eY (cJ (aa (aA "free" (iV 0)) ae)) (.tp [2,3]) jv) (aN (iV 1))))
def iL:Fn:=gP 4 1 ly
def eD:Ef:=(iOp m7 (iV 0) (iV 1))
def eE:Ef:=(iOp m7 (iV 0) (iV 1))
def jR:Sf:=(ah (az (.nm 1) (ap gI (aa (iV 0) ae))) (ah (az (.nm 2) (ap iL (aa (iV 0) ae))) (ah (az (.nm 3) (ap bu (aa (iOp bg (iOp bg (au (bn (aa (aA "part" (iV 0)) ae))) (iV 1)) (iV 2)) ae))) (aN (a9 (aa (iC (.str "most")) (aa (iOp m7 (aA "part" (iV 0)) (iV 3)) (aa (iCB fX (aa (au (iLc 1 [3] (aB (iV 1)) (.nm 0) aJ eE)) ae)) (aa (iCB fX (aa (au (iLc 1 [3] (aB (iV 2)) (.nm 0) aJ eD)) ae)) ae)))))))))
def gJ:Fn:=bo 4 1 jR
def gU:Tf:=(aK m8 (iV 4) (iC .non))
def fK:Sf:=(ah (aZ (aK jB (iOp dIx (iV 4) (iC (.int 1))) (iC .non)) (aN (a9 (aa (iC (.str "beyond")) (aa (df kq (aa (iV 3) (aa (iOp dIx (iV 4) (iC (.int 0))) ae))) ae)))) aR) (ah (j0 (ap eQ (aa (iV 3) (aa (iOp dIx (iV 4) (iC (.int 1))) (aa (iOp dIx (iV 4) (iC (.int 0))) ae))))) (az (.nm 4) (df bU (aa (iV 3) ae)))))
def xP:Sf:=(ah (az (.nm 3) (pF 4 4 ck (aa (iV 0) (aa (iV 1) (aa (iV 2) ae))))) (ah (az (.nm 4) (df bU (aa (iV 3) ae))) (ah (qD (2^8000) gU fK) (aN (df gJ (aa (iV 3) ae))))))
def jc:Fn:=bo 5 3 xP
def dW:Ef:=(ap rn (aa (iV 1) (aa (iV 0) ae)))
def uV:Sf:=(ah (az (.nm 3) (iCB oV (aa (au (iLc 1 [2] (aB (iV 1)) (.nm 0) aJ dW)) ae))) (ah (aZ (aK dEq (iV 0) (iC (.str "both"))) (aN (j5 (aK dEq (iV 3) (iCB aY (aa (iV 1) ae))) (iC (.int 1)) (iC (.int 0)))) aR) (aN (j5 (aK dEq (iOp fW (iV 3) (iC (.int 2))) (iC (.int 1))) (iUn ef (iC (.int 1))) (iC (.int 1))))))
def jI:Fn:=bo 4 3 uV
def jt:Ef:=(a9 (aa (iV 0) (aa (x9 (iV 1) (iV 0)) ae)))
def jx:Tf:=(aK dNe (x9 (iV 1) (iV 0)) (iC (.int 0)))
def sK:Sf:=(aN (a9 (aa (iV 0) (aa (iCB fX (aa (au (iLc 1 [1] (aB (au (kU (iV 1)))) (.nm 0) jx jt)) ae)) ae))))
def iK:Fn:=bo 2 2 sK
def ii:Sf:=(aN (iOp bm (ap gn (aa (iV 0) (aa (iV 3) ae))) (ap jI (aa (iV 1) (aa (iV 2) (aa (iV 3) ae))))))
def cZ:Fn:=bo 4 4 ii
def fk:Ef:=(ap cZ (aa (iV 1) (aa (iV 2) (aa (iV 0) (aa (iV 3) ae)))))
def fm:Ef:=(au (iLc 1 [2,3,0] (aB (iV 1)) (.nm 0) aJ fk))
def lY:Sf:=(aN (au (iLc 1 [2,0,1] (aB (ap cj (aa (iV 0) ae))) (.nm 0) aJ fm)))
def dI:Fn:=bo 3 3 lY
def nq:Ef:=(a9 (aa (iV 0) (aa (iOp m7 (iV 1) (iV 2)) ae)))
def yP:Sf:=(aN (a9 (aa (iOp dIx (iV 0) (iC (.int 0))) (aa (iCB fX (aa (au (iLc 2 [1] (aB (iOp dIx (iV 0) (iC (.int 1)))) (.tp [0,1]) aJ nq)) ae)) ae))))
def oa:Fn:=bo 2 2 yP
def nr:Ef:=(iV 1)
def yQ:Sf:=(aN (ap oa (aa (iV 0) (aa (ap bu (aa (au (iLc 2 [] (aB (iOp dIx (iV 0) (iC (.int 1)))) (.tp [0,1]) aJ nr)) ae)) ae))))
def og:Fn:=bo 1 1 yQ
def jr:Ef:=(iUn ef (iV 0))
def sJ:Sf:=(aN (iOp bg (au (iCL wL (aa (iV 0) ae))) (au (iLc 1 [] (aB (iV 0)) (.nm 0) aJ jr))))
def iJ:Fn:=bo 1 1 sJ
def fz:Sf:=(wu (iV 3) (iV 5) (iOp hW (iOp dIx (iV 2) (iV 4)) (iOp dIx (iV 2) (iOp bg (iCB aY (aa (iV 1) ae)) (iV 4)))))
def ph:Sf:=(ah (az (.nm 3) CG) (ah (eY (cJ (aa (iV 1) ae)) (.tp [4,5]) fz) (aN (ap og (aa (ap iK (aa (iV 0) (aa (iV 3) ae))) ae)))))
def jd:Fn:=gP 6 3 ph
def iE:Sf:=(bC (iV 2) (iV 3) (iV 4))
def jS:Sf:=(ah (az (.nm 2) (dg (tH nV (au (bn (aa (iC (.int 0)) ae))) (iCB aY (aa (iV 0) ae))))) (ah (eY (cN (aa (ap cj (aa (iV 0) ae)) (aa (iV 1) ae))) (.tp [3,4]) iE) (aN (iCB fX (aa (iV 2) ae)))))
def d5:Fn:=gP 5 2 jS
def vI:Sf:=(ah (az (.nm 7) (ap bQ (aa (ap d5 (aa (iV 0) (aa (iSl (iOp dIx (iV 5) (iC (.int 3))) iPn (iPs (iUn ef (iC (.int 1))))) ae))) ae))) (ah (aZ (aK dEq (iOp dIx (iV 6) (iC (.int 0))) (iC (.int 0))) (aN (a9 (aa (iV 6) (aa (iC .non) (aa (iV 7) ae))))) aR) (aN (a9 (aa (iV 6) (aa (ap jd (aa (iV 1) (aa (iV 2) (aa (iOp dIx (iV 5) (iC (.int 2))) ae)))) (aa (iV 7) ae)))))))
def jC:Ef:=(iCB fX (aa (iV 0) ae))
def uZ:Ef:=(iUn ef (iV 0))
def jD:Ef:=(iOp bg (ap iJ (aa (au (iLc 1 [] (aB (iV 0)) (.nm 0) aJ uZ)) ae)) (au (bn (aa (iC (.int 1)) ae))))
def yR:Sf:=(ah (az (.nm 3) (ap dI (aa (iV 0) (aa (iV 1) (aa (iV 2) ae))))) (ah (az (.nm 4) (iOp bg (au (iLc 1 [] (aB (iV 3)) (.nm 0) aJ jD)) (au (bn (aa (iOp bg (iOp bm (au (bn (aa (iC (.int 1)) ae))) (iOp bm (iC (.int 2)) (iCB aY (aa (iV 2) ae)))) (au (bn (aa (iC (.int 0)) ae)))) ae))))) (ah (az (.nm 5) (ap jc (aa (iCB fX (aa (au (iLc 1 [] (aB (iV 4)) (.nm 0) aJ jC)) ae)) (aa (iOp bg (iOp bm (a9 (aa (iC (.int 0)) ae)) (iCB aY (aa (iV 3) ae))) (a9 (aa (iC (.int 1)) ae))) (aa (iOp bg (iOp bm (a9 (aa (iC (.int 0)) ae)) (iOp bm (iC (.int 2)) (iCB aY (aa (iV 2) ae)))) (a9 (aa (iC (.int 1)) ae))) ae))))) (ah (az (.nm 6) (ap bQ (aa (a9 (aa (iOp dIx (iOp dIx (iV 5) (iC (.int 2))) (iUn ef (iC (.int 1)))) (aa (iOp dIx (iV 5) (iC (.int 1))) ae))) ae))) vI))))
def dB:Fn:=bo 8 3 yR
def sE:Sf:=(ah (az (.nm 2) (iC (.int 0))) (ah (aZ (aK dLt (iV 1) (iCB aY (aa (iV 0) ae))) (az (.nm 2) (iOp dIx (iV 0) (iV 1))) aR) (aN (dg (bn (aa (iOp dIx (au (bn (aa (iC (.int 0)) (aa (iV 2) ae)))) (iCB jk (aa (iOp dGe (iV 2) (iOp yY (iC (.int 10)) (iC (.int 18)))) ae))) (aa (iOp bg (iOp bg (iOp fW (iV 2) (iC (.int 2305843009213693951))) (iOp bm (iC (.int 7919)) (iV 1))) (iC (.int 3))) (aa (iC (.int 0)) ae))))))))
def iI:Fn:=bo 3 2 sE
def o0:Sf:=(ah (az (.nm 5) (iOp bg (iOp bg (iOp fW (iV 4) (iC (.int 1000003))) (iOp bm (iV 3) (iC (.int 99991)))) (iC (.int 11)))) (ah (az (.nm 4) (iOp fW (iOp bm (iV 4) (iV 5)) (iC (.int 2305843009213693907)))) (aN (iOp fW (iOp bg (iOp pB (iV 4) (iC (.int 97))) (iOp pB (iV 4) (iC (.int 1000033)))) (iV 1)))))
def sH:Sf:=(ah (aZ (aK dGt (iOp dIx (iV 0) (iC (.int 0))) (iC (.int 0))) (ah (az (.nm 2) (iOp fW (iOp dIx (iV 0) (iC (.int 0))) (iV 1))) (ah (bC (iV 0) (iC (.int 0)) (iOp pB (iOp dIx (iV 0) (iC (.int 0))) (iV 1))) (aN (iV 2)))) aR) (ah (bC (iV 0) (iC (.int 2)) (iOp bg (iOp dIx (iV 0) (iC (.int 2))) (iC (.int 1)))) (ah (az (.nm 3) (iOp dIx (iV 0) (iC (.int 2)))) (ah (az (.nm 4) (iOp fW (iOp bm (iOp dIx (iV 0) (iC (.int 1))) (iOp bg (iOp bg (iC (.int 48271)) (iOp bm (iOp bm (iC (.int 2)) (iV 3)) (iV 3))) (iOp bm (iC (.int 65537)) (iV 3)))) (iC (.int 2305843009213693921)))) o0))))
def aI:Fn:=bo 6 2 sH
def sF:Sf:=(aN (iOp dIx (iV 1) (ap aI (aa (iV 0) (aa (iCB aY (aa (iV 1) ae)) ae)))))
def bJ:Fn:=bo 2 2 sF
def dP:Sf:=(ah (az (.nm 5) (iOp fW (iOp Ba (iV 2) (iV 4)) (iC (.int 2)))) (az (.nm 3) (iOp bm (iV 3) (iOp dIx (au (bn (aa (iOp hW (iC (.int 1)) (iOp bm (iC (.int 2)) (iV 5))) (aa (iV 5) ae)))) (iCB jk (aa (iOp dEq (iV 0) (iC (.str "both"))) ae))))))
def jP:Sf:=(ah (az (.nm 3) (iC (.int 1))) (ah (eY (aB (iV 1)) (.nm 4) dP) (aN (iV 3))))
def bK:Fn:=bo 6 3 jP
def io:Ef:=(iOp bm (iV 1) (ap bK (aa (iOp dIx (iV 2) (iC (.int 0))) (aa (iV 0) (aa (iV 3) ae)))))
def pY:Sf:=(aN (iCB oV (aa (au (iLc 2 [0,1] (aB (iOp dIx (iV 0) (iC (.int 1)))) (.tp [0,1]) aJ io)) ae)))
def gH:Fn:=bo 2 2 pY
def eh:Ef:=(iOp bg (iV 0) (a9 (aa (iV 1) ae)))
def eJ:Sf:=(az (.nm 1) (iOp bg (iV 1) (au (iLc 1 [2] (aB (iV 1)) (.nm 0) aJ eh))))
def kH:Sf:=(ah (az (.nm 1) (au (bn (aa (a9 ae) ae)))) (ah (eY (bV (aa (iV 0) ae)) (.nm 2) eJ) (aN (au (iCL iA (aa (iV 1) ae))))))
def bP:Fn:=bo 3 1 kH
def ek:Ef:=(iV 0)
def eV:Tf:=(aK dEq (iOp fW (iOp Ba (iV 1) (iV 0)) (iC (.int 2))) (iC (.int 1)))
def cH:Ef:=(iOp dIx (iV 1) (iCB aY (aa (au (iLc 1 [0] (bV (aa (iV 2) ae)) (.nm 0) eV ek)) ae)))
def ez:Ef:=(ap aI (aa (iV 1) (aa (iC (.int 2)) ae)))
def kI:Sf:=(ah (az (.nm 2) (au (iLc 1 [0] (bV (aa (iOp bg (iV 1) (iC (.int 1))) ae)) (.nm 0) aJ ez))) (aN (au (iLc 1 [2,1] (bV (aa (iOp sR (iC (.int 1)) (iV 1)) ae)) (.nm 0) aJ cH))))
def cn:Fn:=bo 3 2 kI
def jZ:Ef:=(iCB jk (aa (iOp dGt (iV 0) (iC (.int 0))) ae))
def cS:Ef:=(ap bK (aa (iC (.str "odd")) (aa (iV 0) (aa (iV 1) ae))))
def e9:Ef:=(iCB oV (aa (au (iLc 1 [0] (aB (iV 1)) (.nm 0) aJ cS)) ae))
def fg:Ef:=(ap bJ (aa (iV 1) (aa (ap bP (aa (iV 2) ae)) ae)))
def lS:Sf:=(ah (az (.nm 2) (au (iLc 1 [0,1] (bV (aa (iC (.int 3)) ae)) (.nm 0) aJ fg))) (ah (az (.nm 3) (au (iLc 1 [2] (bV (aa (iOp sR (iC (.int 1)) (iV 1)) ae)) (.nm 0) aJ e9))) (aN (au (iLc 1 [] (aB (iV 3)) (.nm 0) aJ jZ)))))
def cE:Fn:=bo 4 2 lS
def eB:Ef:=(iOp dIx (au (bn (aa (iV 0) (aa (iC .non) ae)))) (iCB jk (aa (iOp dEq (ap aI (aa (iV 1) (aa (iC (.int 3)) ae))) (iC (.int 0))) ae)))
def cT:Ef:=(ap aI (aa (iV 1) (aa (iC (.int 2)) ae)))
def gz:Sf:=(ah (az (.nm 2) (ap aI (aa (iV 0) (aa (iC (.int 4)) ae)))) (ah (aZ (aK dEq (iV 2) (iC (.int 0))) (az (.nm 3) (ap cn (aa (iV 0) (aa (iV 1) ae)))) (aZ (aK dEq (iV 2) (iC (.int 1))) (az (.nm 3) (ap cE (aa (iV 0) (aa (iV 1) ae)))) (az (.nm 3) (au (iLc 1 [0] (bV (aa (iOp sR (iC (.int 1)) (iV 1)) ae)) (.nm 0) aJ cT))))) (ah (aZ (aK dEq (ap aI (aa (iV 0) (aa (iC (.int 4)) ae))) (iC (.int 0))) (az (.nm 3) (au (iLc 1 [0] (aB (iV 3)) (.nm 0) aJ eB))) aR) (aN (iCB fX (aa (iV 3) ae))))))
def cX:Fn:=bo 4 2 gz
def lU:Sf:=(aN (gX (iCB hU (aa (iV 0) (aa (iC (.ty "int")) ae))) (zk (iCB hU (aa (iV 0) (aa (iC (.ty "bool")) ae))))))
def bi:Fn:=bo 1 1 lU
def fZ:Ef:=(iOp dLt (iV 0) (iV 1))
def f7:Ef:=(gX (ap bi (aa (iV 0) ae)) (nB dLe dLt (iC (.int 0)) (iV 0) (iC (.int 6))))
def mX:Sf:=(ah (aZ (dz (cv (cg cz (iCB hU (aa (iV 0) (aa (iC (.ty "tuple")) ae))))) (cv (cg cz (iCB qu (aa (au (iLc 1 [] (aB (iV 0)) (.nm 0) aJ f7)) ae))))) (aN (iC (.bl false))) aR) (aN (iCB qu (aa (au (iLc 2 [] (cN (aa (iV 0) (aa (iSl (iV 0) (iPs (iC (.int 1))) iPn) ae))) (.tp [0,1]) aJ fZ)) ae))))
def eO:Fn:=bo 1 1 mX
def fY:Ef:=(iOp yX (iOp dIx (iV 0) (iC (.int 0))) (iOp dIx (iV 1) (iC (.int 0))))
def gj:Sf:=(ah (aZ (dz (cv (cg cz (iCB hU (aa (iV 1) (aa (iC (.ty "tuple")) ae))))) (dz (aK dNe (iCB aY (aa (iV 1) ae)) (iC (.int 2))) (cv (cg cz (ap eO (aa (iOp dIx (iV 1) (iC (.int 0))) ae)))))) (aN (iC (.bl false))) aR) (aZ (dz (cv (cg cz (ap bi (aa (iOp dIx (iV 1) (iC (.int 1))) ae)))) (aK dEq (iOp dIx (iV 1) (iC (.int 1))) (iC (.int 0)))) (aN (iC (.bl false))) aR))
def mW:Sf:=(ah (aZ (dz (cv (cg cz (iCB hU (aa (iV 0) (aa (iC (.ty "tuple")) ae))))) (dz (aK dNe (iCB aY (aa (iV 0) ae)) (iC (.int 2))) (cv (cg cz (iCB hU (aa (iOp dIx (iV 0) (iC (.int 0))) (aa (iC (.ty "str")) ae))))))) (aN (iC (.bl false))) aR) (ah (aZ (dz (aK qv (iOp dIx (iV 0) (iC (.int 0))) (a9 (aa (iC (.str "both")) (aa (iC (.str "odd")) ae)))) (cv (cg cz (iCB hU (aa (iOp dIx (iV 0) (iC (.int 1))) (aa (iC (.ty "tuple")) ae)))))) (aN (iC (.bl false))) aR) (ah (eY (aB (iOp dIx (iV 0) (iC (.int 1)))) (.nm 1) gj) (aN (iCB qu (aa (au (iLc 2 [] (cN (aa (iOp dIx (iV 0) (iC (.int 1))) (aa (iSl (iOp dIx (iV 0) (iC (.int 1))) (iPs (iC (.int 1))) iPn) ae))) (.tp [0,1]) aJ fY)) ae))))))
def eM:Fn:=bo 2 1 mW
def cI:Ef:=(iOp jB (iV 0) (iC .non))
def kJ:Sf:=(ah (az (.nm 2) (iOp dIx (au (bn (aa (ap aI (aa (iV 0) (aa (iOp bg (iV 1) (iC (.int 1))) ae))) (aa (iOp bg (iV 1) (iC (.int 1))) ae)))) (iCB jk (aa (iOp dEq (ap aI (aa (iV 0) (aa (iC (.int 8)) ae))) (iC (.int 0))) ae)))) (ah (az (.nm 3) (ap cX (aa (iV 0) (aa (iV 2) ae)))) (ah (aZ (cg cz (iCB qu (aa (au (iLc 1 [] (aB (iV 3)) (.nm 0) aJ cI)) ae))) (ah (az (.nm 4) (ap aI (aa (iV 0) (aa (iCB aY (aa (iV 3) ae)) ae)))) (az (.nm 3) (iOp bg (iOp bg (iSl (iV 3) iPn (iPs (iV 4))) (a9 (aa (ap aI (aa (iV 0) (aa (iC (.int 2)) ae))) ae))) (iSl (iV 3) (iPs (iOp bg (iV 4) (iC (.int 1)))) iPn)))) aR) (aN (a9 (aa (iV 2) (aa (iV 3) ae)))))))
def di:Fn:=bo 5 2 kJ
def dN:Ef:=(iV 0)
def cy:Tf:=(aK dEq (ap aI (aa (iV 1) (aa (iV 2) ae))) (iC (.int 0)))
def dO:Ef:=(iV 0)
def dQ:Tf:=(aK dLe (iCB aY (aa (iV 0) ae)) (iV 1))
def e7:Sf:=(ah (az (.nm 2) (ap aI (aa (iV 0) (aa (iC (.int 4)) ae)))) (ah (az (.nm 3) (ap bP (aa (iV 1) ae))) (ah (aZ (aK dLt (iV 2) (iC (.int 2))) (ah (az (.nm 4) (ap aI (aa (iV 0) (aa (iOp bg (iV 1) (iC (.int 1))) ae)))) (aN (iCB fX (aa (au (iLc 1 [4] (aB (iV 3)) (.nm 0) dQ dO)) ae)))) aR) (ah (aZ (aK dEq (iV 2) (iC (.int 2))) (ah (az (.nm 5) (iOp bg (iC (.int 1)) (ap aI (aa (iV 0) (aa (iC (.int 4)) ae))))) (aN (iCB fX (aa (au (iLc 1 [0,5] (aB (iV 3)) (.nm 0) cy dN)) ae)))) aR) (aN (iCB fX (aa (iSl (iV 3) (iPs (iOp hW (iCB aY (aa (iV 3) ae)) (ap aI (aa (iV 0) (aa (iOp bg (iCB aY (aa (iV 3) ae)) (iC (.int 1))) ae))))) iPn) ae)))))))
def bq:Fn:=bo 6 2 e7
def dk:Tf:=(aK dNe (iV 1) (iC (.int 0)))
def hJ:Sf:=(tJ 0 1 (aa (iV 1) (aa (iOp fW (iV 0) (iV 1)) ae)))
def oS:Sf:=(ah (qD (2^8000) dk hJ) (aN (iV 0)))
def cB:Fn:=bo 2 2 oS
def gW:Ef:=(iOp dIx (au (bn (aa (iV 1) (aa (iOp hW (iC (.int 0)) (iV 1)) ae)))) (iCB jk (aa (iOp dLt (iV 1) (iC (.int 0))) ae)))
def dE:Ef:=(iOp bm (iOp dIx (au (bn (aa (iUn ef (iC (.int 1))) (aa (iC (.int 1)) ae)))) (iV 1)) (ap gH (aa (iV 2) (aa (iV 0) ae))))
def dM:Tf:=(aK m8 (iV 1) (iC .non))
def jn:Sf:=(ah (az (.nm 2) (au (iLc 2 [1] (cJ (aa (iV 0) ae)) (.tp [0,1]) dM dE))) (ah (az (.nm 3) (iCB oV (aa (au (iLc 2 [] (aB (iOp dIx (iV 1) (iC (.int 1)))) (.tp [0,1]) aJ gW)) ae))) (ah (az (.nm 4) (iOp dIx (au (iCL iA (aa (iV 2) ae))) (iC (.int 0)))) (ah (az (.nm 5) (ap cB (aa (iOp dIx (au (bn (aa (iV 4) (aa (iOp hW (iC (.int 0)) (iV 4)) ae)))) (iCB jk (aa (iOp dLt (iV 4) (iC (.int 0))) ae))) (aa (iV 3) ae)))) (aN (a9 (aa (iOp m7 (iV 4) (iV 5)) (aa (iOp m7 (iV 3) (iV 5)) ae))))))))
def fR:Fn:=bo 6 2 jn
def ce:Ef:=(zl (iOp m8 (iV 0) (iC .non)) (iOp dEq (iV 1) (iC (.int 0))))
def du:Ef:=(gX (ap bi (aa (iV 0) ae)) (iOp dGe (iV 0) (iC (.int 0))))
def jy:Sf:=(ah (aZ (dz (cv (cg cz (iCB hU (aa (iV 1) (aa (iC (.ty "tuple")) ae))))) (aK dNe (iCB aY (aa (iV 1) ae)) (iCB aY (aa (iV 0) ae)))) (aN (iC (.bl false))) aR) (ah (aZ (cv (cg cz (iCB qu (aa (au (iLc 1 [] (aB (iV 1)) (.nm 0) aJ du)) ae)))) (aN (iC (.bl false))) aR) (aN (gX (iCB qu (aa (au (iLc 2 [] (cN (aa (iV 0) (aa (iV 1) ae))) (.tp [0,1]) aJ ce)) ae)) (iOp dGt (iCB wj (aa (iV 1) ae)) (iC (.int 0)))))))
def cL:Fn:=bo 2 2 jy
def cU:Ef:=(iOp bm (iOp bm (iOp dIx (iV 2) (iV 0)) (iOp dIx (au (bn (aa (iUn ef (iC (.int 1))) (aa (iC (.int 1)) ae)))) (iV 1))) (ap bK (aa (iV 3) (aa (iV 4) (aa (iV 0) ae)))))
def fj:Ef:=(a9 (aa (iV 0) (aa (iV 1) ae)))
def fH:Tf:=(aK m8 (iV 1) (iC .non))
def lW:Sf:=(ah (az (.nm 4) (au (iLc 2 [] (cJ (aa (iV 0) ae)) (.tp [0,1]) fH fj))) (aN (iCB oV (aa (au (iLc 2 [3,1,2] (aB (iV 4)) (.tp [0,1]) aJ cU)) ae))))
def dH:Fn:=bo 5 4 lW
def lT:Sf:=(ah (aZ (dz (cv (cg cz (iCB hU (aa (iV 0) (aa (iC (.ty "tuple")) ae))))) (dz (aK dNe (iCB aY (aa (iV 0) ae)) (iC (.int 2))) (cv (cg cz (ap bi (aa (iOp dIx (iV 0) (iC (.int 0))) ae)))))) (aN (iC (.bl false))) aR) (ah (aZ (dz (cv (cg cz (ap bi (aa (iOp dIx (iV 0) (iC (.int 1))) ae)))) (dz (aK dLt (iOp dIx (iV 0) (iC (.int 0))) (iC (.int 0))) (aK dLt (iOp dIx (iV 0) (iC (.int 1))) (iC (.int 1))))) (aN (iC (.bl false))) aR) (aN (iOp dEq (ap cB (aa (iOp dIx (iV 0) (iC (.int 0))) (aa (iOp dIx (iV 0) (iC (.int 1))) ae))) (iC (.int 1))))))
def dG:Fn:=bo 1 1 lT
def ot:Sf:=(aN (gX (iOp dEq (iV 9) (iC (.int 1))) (iOp dEq (ap fR (aa (iV 0) (aa (iV 5) ae))) (iV 4))))
def iB:Sf:=(ah (az (.nm 9) (ap cB (aa (iV 9) (aa (iOp dIx (au (bn (aa (iV 10) (aa (iOp hW (iC (.int 0)) (iV 10)) ae)))) (iCB jk (aa (iOp dLt (iV 10) (iC (.int 0))) ae))) ae)))) (aZ (aK md (iV 7) (iV 2)) (aN (iC (.bl false))) aR))
def iT:Sf:=(ah (aZ (aK dEq (iOp dIx (iV 4) (iC (.int 0))) (iC (.int 0))) (aN (iOp jB (iV 5) (iC .non))) aR) (ah (aZ (dz (cv (cg cz (ap eM (aa (iV 5) ae)))) (dz (aK dNe (iOp dIx (iV 5) (iC (.int 0))) (iV 1)) (aK dEq (iOp dIx (iV 5) (iC (.int 1))) (a9 ae)))) (aN (iC (.bl false))) aR) (ah (az (.nm 9) (iC (.int 0))) (ah (eY (aB (iOp dIx (iV 5) (iC (.int 1)))) (.tp [7,10]) iB) ot))))
def eK:Sf:=(ah (az (.nm 8) (ap dH (aa (iV 0) (aa (iV 1) (aa (iV 7) (aa (iV 6) ae)))))) (aZ (aK dGt (iOp bm (iCB dMx (aa (iV 8) (aa (iOp hW (iC (.int 0)) (iV 8)) ae))) (iOp dIx (iV 4) (iC (.int 1)))) (iOp bm (iOp dIx (iV 4) (iC (.int 0))) (iCB wj (aa (iV 6) ae)))) (aN (iC (.bl false))) aR))
def jO:Sf:=(ah (aZ (dz (cv (cg cz (iCB hU (aa (iV 3) (aa (iC (.ty "tuple")) ae))))) (aK dNe (iCB aY (aa (iV 3) ae)) (iC (.int 3)))) (aN (iC (.bl false))) aR) (ah (az (.tp [4,5,6]) (iV 3)) (ah (aZ (dz (cv (cg cz (ap dG (aa (iV 4) ae)))) (cv (cg cz (ap cL (aa (iV 0) (aa (iV 6) ae)))))) (aN (iC (.bl false))) aR) (ah (eY (aB (iV 2)) (.nm 7) eK) iT))))
def dZ:Fn:=bo 11 4 jO
def B4:Sf:=(ah (az (.nm 8) (ap dB (aa (iV 4) (aa (iV 5) (aa (iV 6) ae))))) (ah (aZ (dz (cv (cg cz (ap dZ (aa (iV 4) (aa (iV 5) (aa (iV 6) (aa (iV 8) ae))))))) (aK dNe (iCB kP (aa (au (bn (aa (iV 4) (aa (iV 6) ae)))) ae)) (iV 7))) (aN (iC (.bl false))) aR) (aZ (aK dNe (ap dB (aa (iV 4) (aa (iV 5) (aa (iV 6) ae)))) (iV 8)) (aN (iC (.bl false))) aR)))
def wM:Sf:=(ah (az (.nm 2) (ap iI (aa (iV 0) (aa (iV 1) ae)))) (ah (az (.tp [3,4]) (ap di (aa (iV 2) (aa (iC (.int 3)) ae)))) (ah (tJ 5 6 (aa (ap bJ (aa (iV 2) (aa (au (bn (aa (iC (.str "both")) (aa (iC (.str "odd")) ae)))) ae))) (aa (ap bq (aa (iV 2) (aa (iV 3) ae))) ae))) (ah (az (.nm 7) (iCB kP (aa (au (bn (aa (iV 4) (aa (iV 6) ae)))) ae))) B4))))
def CB:Sf:=(ah (eY (bV (aa (iCB dMx (aa (iC (.int 1)) (aa (iCB Dh (aa (iC (.int 3)) (aa (iCB aY (aa (iV 0) ae)) ae))) ae))) ae)) (.nm 1) wM) (aN (gX (iOp dEq (iSl (ap dB (aa (a9 (aa (iC (.int 1)) ae)) (aa (iC (.str "odd")) (aa (a9 ae) ae)))) iPn (iPs (iC (.int 2)))) (a9 (aa (a9 (aa (iC (.int 0)) (aa (iC (.int 1)) ae))) (aa (iC .non) ae)))) (iOp dEq (iOp dIx (ap dB (aa (a9 (aa (iC (.int 0)) ae)) (aa (iC (.str "both")) (aa (a9 (aa (a9 ae) ae)) ae)))) (iC (.int 0))) (a9 (aa (iC (.int 1)) (aa (iC (.int 1)) ae)))))))
def uf:Fn:=gP 9 1 CB
end Own
section
set_option maxHeartbeats 0
namespace Own
open PySem L2
def top (i:Nat):Stmt:=PySem.Challenge.pw_signpoly_k44_widest_margins.main.body.getD i (.Pass ⟨0,0,0,0⟩)
def A9 (s:Stmt):List Stmt:=match s with
 |.ClassDef _ _ _ b _ _ _ _ _ _ _=>b
 |_=>[]
abbrev cu:Stmt:=(A9 (top 9)).getD 0 (.Pass ⟨0,0,0,0⟩)
theorem o9:cD ["self","rows","bounds","gains"] ["self","rows","bounds","gains"] (av cu):=⟨U,U,U,by decide +kernel,U,by decide +kernel,by decide +kernel⟩
abbrev rT (x:Str) (i:Nat) (N:List Str) (k:Nat):Str×Nat×List Str×Nat:=(x,i,N,k)
def tbl:List (Str×Nat×List Str×Nat):=[rT "power_of_two" 1 ["k","power","step"] 1,rT "on_in" 2 ["row","k"] 2,rT "greatest_part" 3 ["numbers","found","number","rest","over"] 1,rT "lowered" 4 ["numbers","shared"] 1,rT "told_rows" 6 ["f"] 1,rT "sign_at" 7 ["f","row"] 2,rT "least_ratio" 10 ["places","tops","bottoms","least","place","mine","best"] 3,rT "weighed" 11 ["table"] 1,rT "numbers_by" 12 ["table","name","column"] 2,rT "leaving" 13 ["table","column","entries","places","name"] 2,rT "gains_more" 14 ["table","one","other","mine","best","name","numbers","more"] 3,rT "best_step" 15 ["table","best","column","step"] 1,rT "swept" 16 ["line","turning","column","part","pivot","entry","told"] 4,rT "exchange" 17 ["table","place","column","turning","part","lines","name"] 3,rT "way_of" 18 ["table","column","way","place","name"] 2,rT "amounts_of" 19 ["table","amounts","place","name"] 1,rT "prices_of" 20 ["table","prices","column","name"] 1,rT "found_most" 21 ["table","amounts","prices","shared"] 1,rT "most_of" 22 ["rows","bounds","gains","table","step"] 3,rT "value_of" 24 ["kind","term","row","many"] 3,rT "poly_from" 26 ["kind","numbers"] 2,rT "signed_value" 28 ["f","kind","term","row"] 4,rT "signed_values" 29 ["f","kind","terms"] 3,rT "parted" 31 ["poly","number"] 2,rT "shrunk" 32 ["poly"] 1,rT "both_ways" 34 ["numbers"] 1,rT "poly_by" 35 ["kind","terms","amounts","numbers","place","term"] 3,rT "weights_by" 36 ["f","numbers","weights","row","number"] 2,rT "widest" 38 ["f","kind","terms","values","rows","most","value","weights"] 3,rT "_law_hand" 40 ["_law_script","_law_k","_law_cell"] 2,rT "_law_take" 41 ["_law_hand_here","_law_many","_law_digit","_law_turn","_law_mixed","_law_other"] 2,rT "_law_pick" 42 ["_law_hand_here","_law_some"] 2,rT "_law_term_value" 43 ["_law_kind","_law_term","_law_row","_law_value_here","_law_k","_law_on"] 3,rT "_law_value" 44 ["_law_poly","_law_row"] 2,rT "_law_all_terms" 45 ["_law_n","_law_found","_law_k"] 1,rT "_law_by_counts" 46 ["_law_hand_here","_law_n","_law_row"] 2,rT "_law_by_signs" 47 ["_law_hand_here","_law_n","_law_some","_law_sums"] 2,rT "_law_table" 48 ["_law_hand_here","_law_n","_law_way","_law_table_here"] 2,rT "_law_is_whole" 49 ["_law_thing"] 1,rT "_law_is_term" 50 ["_law_thing"] 1,rT "_law_is_poly" 51 ["_law_thing","_law_part"] 1,rT "_law_told_some" 52 ["_law_hand_here","_law_most","_law_n","_law_f","_law_spot"] 2,rT "_law_some_terms" 53 ["_law_hand_here","_law_n","_law_way","_law_terms","_law_most","_law_share"] 2,rT "_law_common" 54 ["_law_one","_law_other"] 2,rT "_law_margin" 55 ["_law_f","_law_poly","_law_worth","_law_size","_law_least","_law_part"] 2,rT "_law_are_weights" 56 ["_law_f","_law_thing"] 2,rT "_law_weighted" 57 ["_law_f","_law_kind","_law_term","_law_weights","_law_told"] 4,rT "_law_is_value" 58 ["_law_thing"] 1,rT "_law_shown" 59 ["_law_f","_law_kind","_law_terms","_law_thing","_law_value_here","_law_poly","_law_weights","_law_term","_law_total","_law_part","_law_number"] 4,rT "law" 60 ["_law_script","_law_k","_law_hand_here","_law_n","_law_f","_law_kind","_law_terms","_law_text","_law_found"] 1]
def tR (i:Nat):Str×Nat×List Str×Nat:=tbl.getD i ("",0,[],0)
def tN (i:Nat):Str:=(tR i).1
def tS (i:Nat):Stmt:=top (tR i).2.1
def tV (i:Nat):List Str:=(tR i).2.2.1
def tK (i:Nat):Nat:=(tR i).2.2.2
theorem scs:∀ p∈tbl,cD p.2.2.1 (p.2.2.1.take p.2.2.2) (av (top p.2.1)):=by
 iterate 50 refine qc6.2 ⟨⟨U,U,U,by decide +kernel,U,by decide +kernel,by decide +kernel⟩,?_⟩
 exact λ_ h=>nomatch h
structure Txt (K:qae) (mg:Str->Option Value):Prop where
 F:∀ p∈tbl,∃ f g,Fun K p.1 p.1 (top p.2.1) f g/\mg p.1=some (.ref f)/\dn K g (p.2.2.1.take p.2.2.2) []
 z:∀ x∈(["abs","all","bool","enumerate","int","isinstance","len","list","max","min","range","repr","sorted","str","sum","tuple","zip"]:List Str),mg x=none
 c:∃ a f g,mg "Table" = some (.ref a)/\Fun K "__init__" "Table.__init__" cu f g/\dn K g ["self","rows","bounds","gains"] []/\Mk K a f/\Cls K a/\∀ p∈ck,cF K a p.1
section
variable {P:qaM}{w:World}{K:qae}{mg:Str->Option Value}{base:Heap}
theorem Co {i:Nat} (h:i<50):tR i∈tbl:=by
 unfold tR;rw[qaB,qao (show i<tbl.length from h)];exact qbV _
abbrev Bd (P:qaM) (w:World) (K:qae) (mg:Str->Option Value) (base:Heap) (k i:Nat) (b:Sf):Prop:=∀ (f:Addr) (d:Value) (A:qaU) (outer:List Env) (s:qai) (H:Hp) (E:XK),bv k (A.deeper (qjO (tN i) (av (tS i)) s.heap.objs.size f d))->(fV CX0 P w K mg base (tV i) (tN i) (av (tS i)) f d A outer s H E).nox.N=tV i->(fV CX0 P w K mg base (tV i) (tN i) (av (tS i)) f d A outer s H E).nox.env.scope.names=(av (tS i)).names->(tV i).Nodup->ISs K (fV CX0 P w K mg base (tV i) (tN i) (av (tS i)) f d A outer s H E).nox (bf (tS i)) b
abbrev Ck (P:qaM) (w:World) (K:qae) (mg:Str->Option Value) (base:Heap) (i j:Nat) (m:Fn):Prop:=Cal P w K mg base (tN i) j m
theorem A7 {i k:Nat}{b:Sf} (T:Txt K mg) (hi:i<50) (hb:Bd P w K mg base k i b):Ck P w K mg base i (k+1) (bo (tV i).length ((tV i).take (tK i)).length b):=by
 obtain⟨f,g,F,m,B⟩:=T.F (tR i) (Co hi);exact EY F (scs _ (Co hi)) m B (hb f)
theorem A8 {i k:Nat}{b:Sf} (T:Txt K mg) (hi:i<50) (hb:Bd P w K mg base k i b):Ck P w K mg base i (k+1) (gP (tV i).length ((tV i).take (tK i)).length b):=by
 obtain⟨f,g,F,m,B⟩:=T.F (tR i) (Co hi);exact EZ F (scs _ (Co hi)) m B (hb f)
theorem mK {f:Addr}{g:qca} (T:Txt K mg) (F:Fun K "__init__" "Table.__init__" cu f g):dR P w K mg base CX0 1 f g ["self","rows","bounds","gains"] (Ce K ["self","rows","bounds","gains"].length ["self","rows","bounds","gains"].length ck):=
 E3 (N:=["self","rows","bounds","gains"]) (ps:=["self","rows","bounds","gains"]) (k:=0) (g:=ck) F o9 (by decide) (λ_ _ _ _ _ _ hr=>(iu U (by first|exact Or.inl U|exact Or.inr (Or.inl U)|exact Or.inr (Or.inr U)) (pG (gB U) U (T.z _ (by decide)) qbo (bE (iv 3) cw U) (by decide) (by decide) U U) (iu U (by first|exact Or.inl U|exact Or.inr (Or.inl U)|exact Or.inr (Or.inr U)) (dY (zp (t8 (av cu).names ["self","rows","bounds","gains"] ["row","bound"] 2 [] U U U (by decide +kernel)) U (by decide) (nH U (T.z _ (by decide)) (bE (iv 1) (bE (iv 2) cw U) U) U U U) (λ_ _ _ _ _=>(nF (gf (gL (i:=0) (show qhK (α:=Str) ["row","bound"] by decide +kernel) U (by first|exact Or.inl U|exact Or.inr U)) (gf (gL (i:=1) (show qhK (α:=Str) ["row","bound"] by decide +kernel) U (by first|exact Or.inl U|exact Or.inr U)) kc)) U U U U U)) (λ_ _ _ _ _=>i8) (λ_ _ _ _ _=>(nE (jJ U) (dY (CH (iZ U) U (T.z _ (by decide)) qaR (bE (iv 0) cw U) (by decide) (by decide) U U)) (dY (kX (bE (iv 1) cw U))))) (λ_=>rfl))) (iu U (by first|exact Or.inl U|exact Or.inr (Or.inl U)|exact Or.inr (Or.inr U)) (nE (jJ U) (dY (zp (t8 (av cu).names ["self","rows","bounds","gains"] ["gain"] 1 [] U U U (by decide +kernel)) U (by decide) (nG (iv 3) U) (λ_ _ _ _ _=>(j9 (gL (i:=0) (show qhK (α:=Str) ["gain"] by decide +kernel) U (by first|exact Or.inl U|exact Or.inr U)))) (λ_ _ _ _ _=>i8) (λ_ _ _ _ _=>(nD (iv 0))) (λ_=>rfl))) (dY (kX (bE kW cw U)))) (iu U (by first|exact Or.inl U|exact Or.inr (Or.inl U)|exact Or.inr (Or.inr U)) kW (iu U (by first|exact Or.inl U|exact Or.inr (Or.inl U)|exact Or.inr (Or.inr U)) (kY (nJ U (T.z _ (by decide)) U (T.z _ (by decide)) (bE (pG (gB U) U (T.z _ (by decide)) qbo (bE (iv 3) cw U) (by decide) (by decide) U U) cw U) U U)) (Bl U (by first|exact Or.inl U|exact Or.inr (Or.inl U)|exact Or.inr (Or.inr U)) (kY (nK U (T.z _ (by decide)) U (T.z _ (by decide)) (bE (pG (gB U) U (T.z _ (by decide)) qbo (bE (iv 3) cw U) (by decide) (by decide) U U) (bE (nE (jJ U) (pG (gB U) U (T.z _ (by decide)) qbo (bE (iv 3) cw U) (by decide) (by decide) U U) (pG (gB U) U (T.z _ (by decide)) qbo (bE (iv 1) cw U) (by decide) (by decide) U U)) cw U) U) U U U)) U U) (by intro z;cases z) U U) (by intro z;cases z) U U) (by intro z;cases z) U U) (by intro z;cases z) U U) (by intro z;cases z) U U))
theorem scL:cD ["_law_script","_law_k","_law_hand_here","_law_n","_law_f","_law_kind","_law_terms","_law_text","_law_found"] ["_law_script"] (av (top 60)):=scs (rT "law" 60 ["_law_script","_law_k","_law_hand_here","_law_n","_law_f","_law_kind","_law_terms","_law_text","_law_found"] 1) (by decide +kernel)
theorem DQ (T:Txt K mg):Ck P w K mg base 0 1 eR/\Ck P w K mg base 1 2 rn/\Ck P w K mg base 2 1 bu/\Ck P w K mg base 3 2 bQ/\Ck P w K mg base 4 1 cj/\Ck P w K mg base 5 1 gn/\Ck P w K mg base 6 1 fT/\Ck P w K mg base 7 1 d8/\Ck P w K mg base 8 1 cY/\Ck P w K mg base 9 2 jb/\Ck P w K mg base 10 2 cp/\Ck P w K mg base 11 3 bU/\Ck P w K mg base 12 1 ko/\Ck P w K mg base 13 2 eQ/\Ck P w K mg base 14 3 kq/\Ck P w K mg base 15 1 gI:=by
 obtain⟨a,O,Y,c1,c2,c3,c4,D,u⟩:=T.c;have I:=mK (P:=P) (w:=w) (base:=base) T c2
 repeat' first
  |assumption
  |exact rfl
  |decide
  |exact Or.inl rfl
  |exact Or.inr rfl
  |exact Or.inr (Or.inl rfl)
  |exact Or.inr (Or.inr rfl)
  |apply mC
  |apply mD
  |apply i7
  |apply ki
  |apply nJ
  |apply nK
  |apply cw
  |apply bE
  |apply kW
  |apply iv
  |apply nE
  |apply qU
  |(apply qhN;apply iw;(case hsw=>exact U);(case hns=>assumption);(case hN=>assumption);(case h=>decide +kernel))
  |(apply qg5;apply iw;(case hsw=>exact U);(case hns=>assumption);(case hN=>assumption);(case h=>decide +kernel))
  |apply qV
  |apply wA
  |apply wy
  |apply mh
  |apply qW
  |apply wF
  |apply qM
  |(apply qN;(case hns=>assumption);(case hN=>assumption);(case h=>decide +kernel))
  |apply mm
  |apply ml
  |apply nH
  |apply nG
  |apply qI
  |apply wv
  |apply qL
  |apply i8
  |apply mE
  |apply qT
  |apply kg
  |apply wG
  |apply mF
  |apply qZ
  |apply qX
  |apply nD
  |apply wx
  |apply qF
  |apply kX
  |apply wD
  |apply mz
  |apply kh
  |apply mv
  |apply mq
  |apply kf
  |apply mo
  |apply mn
  |(apply mB;(case hns=>assumption);(case hN=>assumption);(case h=>decide +kernel))
  |apply j8 (N:=["self","rows","bounds","gains"]) (ps:=["self","rows","bounds","gains"])
  |refine j6 rfl (by assumption) (by assumption) ?_ ?_ ?_ ?_ ?_ ?_
  |refine i6 rfl (by assumption) (by assumption) ?_ ?_ ?_ ?_ ?_ ?_
  |refine ww (by with_reducible first|exact qbh|exact qbg|exact qa9|exact qbf|exact qaT|exact qaR|exact qbe|exact qbd|exact qa8|exact qaV|exact qbc|exact qbb|exact qa3|exact qbo) ?_ ?_ ?_ ?_ ?_ ?_ ?_ ?_ ?_
  |refine wC (by with_reducible first|exact qbh|exact qbg|exact qa9|exact qbf|exact qaT|exact qaR|exact qbe|exact qbd|exact qa8|exact qaV|exact qbc|exact qbb|exact qa3|exact qbo) ?_ ?_ ?_ ?_ ?_ ?_ ?_ ?_ ?_
  |apply qE
  |apply i5
  |apply j7
  |apply qG
  |apply qH
  |apply mj
  |apply qJ
  |apply qK
  |apply wz
  |refine wB ?_ ?_ (by with_reducible first|exact qbh|exact qbg|exact qa9|exact qbf|exact qaT|exact qaR|exact qbe|exact qbd|exact qa8|exact qaV|exact qbc|exact qbb|exact qa3|exact qbo) ?_ ?_
  |apply ke
  |apply qS
  |refine mw (λ_ h=>rR U (by assumption) U U (by decide) U U h U) ?_
  |apply my
  |apply dY
  |apply kY
  |apply qY
  |exact T.z _ (by decide)
  |exact qei
  |exact nomark _
  |exact λ_=>rfl
  |with_reducible first|apply jJ|apply wW|apply mI|apply od_fdv|apply iP|apply wX|apply wY|apply wZ|apply rz|apply w6|apply uq|apply rB|apply rC|apply xb|apply ky|apply mJ|apply rE|apply rF|apply rG|apply rH|apply rK|apply qk|apply ql|apply qo|apply qp|apply gB|apply qq|apply wd|apply jU|apply qr|apply qt|apply iZ|apply jV|apply ma|apply rA|apply jf|apply iP
  |apply gL
  |apply kc
  |apply gf
  |apply j9
  |apply nF
  |apply ad
  |(apply A7 T;(case hi=>decide);unfold Bd;(conv in (occs:=*) tV _=>whnf);(conv in (occs:=*) av _=>whnf);(conv in bf _=>whnf);intros)
  |(apply A8 T;(case hi=>decide);unfold Bd;(conv in (occs:=*) tV _=>whnf);(conv in (occs:=*) av _=>whnf);(conv in bf _=>whnf);intros)
  |(refine wq (by assumption) scL ?_;(conv in bf _=>whnf);intros)
  |intro
theorem FC (T:Txt K mg):Ck P w K mg base 16 1 iL/\Ck P w K mg base 17 2 gJ/\Ck P w K mg base 18 4 jc/\Ck P w K mg base 19 3 jI/\Ck P w K mg base 20 1 iK/\Ck P w K mg base 21 4 cZ/\Ck P w K mg base 22 5 dI/\Ck P w K mg base 23 1 oa/\Ck P w K mg base 24 2 og/\Ck P w K mg base 25 1 iJ/\Ck P w K mg base 26 3 jd/\Ck P w K mg base 27 2 d5/\Ck P w K mg base 28 6 dB/\Ck P w K mg base 29 1 iI/\Ck P w K mg base 30 1 aI/\Ck P w K mg base 31 2 bJ:=by
 obtain⟨h0,h1,h2,h3,h4,h5,h6,h7,h8,h9,q,r,o,l,n,e⟩:=DQ (P:=P) (w:=w) (base:=base) T;obtain⟨a,O,Y,c1,c2,c3,c4,D,u⟩:=T.c;have I:=mK (P:=P) (w:=w) (base:=base) T c2
 repeat' first
  |assumption
  |exact rfl
  |decide
  |exact Or.inl rfl
  |exact Or.inr rfl
  |exact Or.inr (Or.inl rfl)
  |exact Or.inr (Or.inr rfl)
  |apply mC
  |apply mD
  |apply i7
  |apply ki
  |apply nJ
  |apply nK
  |apply cw
  |apply bE
  |apply kW
  |apply iv
  |apply nE
  |apply qU
  |(apply qhN;apply iw;(case hsw=>exact U);(case hns=>assumption);(case hN=>assumption);(case h=>decide +kernel))
  |(apply qg5;apply iw;(case hsw=>exact U);(case hns=>assumption);(case hN=>assumption);(case h=>decide +kernel))
  |apply qV
  |apply wA
  |apply wy
  |apply mh
  |apply qW
  |apply wF
  |apply qM
  |(apply qN;(case hns=>assumption);(case hN=>assumption);(case h=>decide +kernel))
  |apply mm
  |apply ml
  |apply nH
  |apply nG
  |apply qI
  |apply wv
  |apply qL
  |apply i8
  |apply mE
  |apply qT
  |apply kg
  |apply wG
  |apply mF
  |apply qZ
  |apply qX
  |apply nD
  |apply wx
  |apply qF
  |apply kX
  |apply wD
  |apply mz
  |apply kh
  |apply mv
  |apply mq
  |apply kf
  |apply mo
  |apply mn
  |(apply mB;(case hns=>assumption);(case hN=>assumption);(case h=>decide +kernel))
  |apply j8 (N:=["self","rows","bounds","gains"]) (ps:=["self","rows","bounds","gains"])
  |refine j6 rfl (by assumption) (by assumption) ?_ ?_ ?_ ?_ ?_ ?_
  |refine i6 rfl (by assumption) (by assumption) ?_ ?_ ?_ ?_ ?_ ?_
  |refine ww (by with_reducible first|exact qbh|exact qbg|exact qa9|exact qbf|exact qaT|exact qaR|exact qbe|exact qbd|exact qa8|exact qaV|exact qbc|exact qbb|exact qa3|exact qbo) ?_ ?_ ?_ ?_ ?_ ?_ ?_ ?_ ?_
  |refine wC (by with_reducible first|exact qbh|exact qbg|exact qa9|exact qbf|exact qaT|exact qaR|exact qbe|exact qbd|exact qa8|exact qaV|exact qbc|exact qbb|exact qa3|exact qbo) ?_ ?_ ?_ ?_ ?_ ?_ ?_ ?_ ?_
  |apply qE
  |apply i5
  |apply j7
  |apply qG
  |apply qH
  |apply mj
  |apply qJ
  |apply qK
  |apply wz
  |refine wB ?_ ?_ (by with_reducible first|exact qbh|exact qbg|exact qa9|exact qbf|exact qaT|exact qaR|exact qbe|exact qbd|exact qa8|exact qaV|exact qbc|exact qbb|exact qa3|exact qbo) ?_ ?_
  |apply ke
  |apply qS
  |refine mw (λ_ h=>rR U (by assumption) U U (by decide) U U h U) ?_
  |apply my
  |apply dY
  |apply kY
  |apply qY
  |exact T.z _ (by decide)
  |exact qei
  |exact nomark _
  |exact λ_=>rfl
  |with_reducible first|apply jJ|apply wW|apply mI|apply od_fdv|apply iP|apply wX|apply wY|apply wZ|apply rz|apply w6|apply uq|apply rB|apply rC|apply xb|apply ky|apply mJ|apply rE|apply rF|apply rG|apply rH|apply rK|apply qk|apply ql|apply qo|apply qp|apply gB|apply qq|apply wd|apply jU|apply qr|apply qt|apply iZ|apply jV|apply ma|apply rA|apply jf|apply iP
  |apply gL
  |apply kc
  |apply gf
  |apply j9
  |apply nF
  |apply ad
  |(apply A7 T;(case hi=>decide);unfold Bd;(conv in (occs:=*) tV _=>whnf);(conv in (occs:=*) av _=>whnf);(conv in bf _=>whnf);intros)
  |(apply A8 T;(case hi=>decide);unfold Bd;(conv in (occs:=*) tV _=>whnf);(conv in (occs:=*) av _=>whnf);(conv in bf _=>whnf);intros)
  |(refine wq (by assumption) scL ?_;(conv in bf _=>whnf);intros)
  |intro
theorem GD (T:Txt K mg):Ck P w K mg base 32 1 bK/\Ck P w K mg base 33 2 gH/\Ck P w K mg base 34 1 bP/\Ck P w K mg base 35 2 cn/\Ck P w K mg base 36 3 cE/\Ck P w K mg base 37 4 cX/\Ck P w K mg base 38 1 bi/\Ck P w K mg base 39 2 eO/\Ck P w K mg base 40 3 eM/\Ck P w K mg base 41 5 di/\Ck P w K mg base 42 2 bq/\Ck P w K mg base 43 1 cB/\Ck P w K mg base 44 3 fR/\Ck P w K mg base 45 2 cL/\Ck P w K mg base 46 2 dH/\Ck P w K mg base 47 2 dG:=by
 obtain⟨h0,h1,h2,h3,h4,h5,h6,h7,h8,h9,q,r,o,l,n,e⟩:=DQ (P:=P) (w:=w) (base:=base) T;obtain⟨h16,J,Q,G,t,h21,y,M,L,R,v,S,X,V,W,C⟩:=FC (P:=P) (w:=w) (base:=base) T;obtain⟨a,O,Y,c1,c2,c3,c4,D,u⟩:=T.c;have I:=mK (P:=P) (w:=w) (base:=base) T c2
 repeat' first
  |assumption
  |exact rfl
  |decide
  |exact Or.inl rfl
  |exact Or.inr rfl
  |exact Or.inr (Or.inl rfl)
  |exact Or.inr (Or.inr rfl)
  |apply mC
  |apply mD
  |apply i7
  |apply ki
  |apply nJ
  |apply nK
  |apply cw
  |apply bE
  |apply kW
  |apply iv
  |apply nE
  |apply qU
  |(apply qhN;apply iw;(case hsw=>exact U);(case hns=>assumption);(case hN=>assumption);(case h=>decide +kernel))
  |(apply qg5;apply iw;(case hsw=>exact U);(case hns=>assumption);(case hN=>assumption);(case h=>decide +kernel))
  |apply qV
  |apply wA
  |apply wy
  |apply mh
  |apply qW
  |apply wF
  |apply qM
  |(apply qN;(case hns=>assumption);(case hN=>assumption);(case h=>decide +kernel))
  |apply mm
  |apply ml
  |apply nH
  |apply nG
  |apply qI
  |apply wv
  |apply qL
  |apply i8
  |apply mE
  |apply qT
  |apply kg
  |apply wG
  |apply mF
  |apply qZ
  |apply qX
  |apply nD
  |apply wx
  |apply qF
  |apply kX
  |apply wD
  |apply mz
  |apply kh
  |apply mv
  |apply mq
  |apply kf
  |apply mo
  |apply mn
  |(apply mB;(case hns=>assumption);(case hN=>assumption);(case h=>decide +kernel))
  |apply j8 (N:=["self","rows","bounds","gains"]) (ps:=["self","rows","bounds","gains"])
  |refine j6 rfl (by assumption) (by assumption) ?_ ?_ ?_ ?_ ?_ ?_
  |refine i6 rfl (by assumption) (by assumption) ?_ ?_ ?_ ?_ ?_ ?_
  |refine ww (by with_reducible first|exact qbh|exact qbg|exact qa9|exact qbf|exact qaT|exact qaR|exact qbe|exact qbd|exact qa8|exact qaV|exact qbc|exact qbb|exact qa3|exact qbo) ?_ ?_ ?_ ?_ ?_ ?_ ?_ ?_ ?_
  |refine wC (by with_reducible first|exact qbh|exact qbg|exact qa9|exact qbf|exact qaT|exact qaR|exact qbe|exact qbd|exact qa8|exact qaV|exact qbc|exact qbb|exact qa3|exact qbo) ?_ ?_ ?_ ?_ ?_ ?_ ?_ ?_ ?_
  |apply qE
  |apply i5
  |apply j7
  |apply qG
  |apply qH
  |apply mj
  |apply qJ
  |apply qK
  |apply wz
  |refine wB ?_ ?_ (by with_reducible first|exact qbh|exact qbg|exact qa9|exact qbf|exact qaT|exact qaR|exact qbe|exact qbd|exact qa8|exact qaV|exact qbc|exact qbb|exact qa3|exact qbo) ?_ ?_
  |apply ke
  |apply qS
  |refine mw (λ_ h=>rR U (by assumption) U U (by decide) U U h U) ?_
  |apply my
  |apply dY
  |apply kY
  |apply qY
  |exact T.z _ (by decide)
  |exact qei
  |exact nomark _
  |exact λ_=>rfl
  |with_reducible first|apply jJ|apply wW|apply mI|apply od_fdv|apply iP|apply wX|apply wY|apply wZ|apply rz|apply w6|apply uq|apply rB|apply rC|apply xb|apply ky|apply mJ|apply rE|apply rF|apply rG|apply rH|apply rK|apply qk|apply ql|apply qo|apply qp|apply gB|apply qq|apply wd|apply jU|apply qr|apply qt|apply iZ|apply jV|apply ma|apply rA|apply jf|apply iP
  |apply gL
  |apply kc
  |apply gf
  |apply j9
  |apply nF
  |apply ad
  |(apply A7 T;(case hi=>decide);unfold Bd;(conv in (occs:=*) tV _=>whnf);(conv in (occs:=*) av _=>whnf);(conv in bf _=>whnf);intros)
  |(apply A8 T;(case hi=>decide);unfold Bd;(conv in (occs:=*) tV _=>whnf);(conv in (occs:=*) av _=>whnf);(conv in bf _=>whnf);intros)
  |(refine wq (by assumption) scL ?_;(conv in bf _=>whnf);intros)
  |intro
theorem GE (T:Txt K mg):Ck P w K mg base 48 4 dZ/\∀ f g,Fun K "law" "law" (top 60) f g->dR P w K mg base CX0 7 f g ["_law_script"] (spI K uf):=by
 obtain⟨h0,h1,h2,h3,h4,h5,h6,h7,h8,h9,q,r,o,l,n,e⟩:=DQ (P:=P) (w:=w) (base:=base) T;obtain⟨h16,J,Q,G,t,h21,y,M,L,R,v,S,X,V,W,C⟩:=FC (P:=P) (w:=w) (base:=base) T;obtain⟨h32,h33,h34,h35,h36,h37,h38,h39,h40,h41,h42,h43,h44,h45,h46,h47⟩:=GD (P:=P) (w:=w) (base:=base) T;obtain⟨a,O,Y,c1,c2,c3,c4,D,u⟩:=T.c;have I:=mK (P:=P) (w:=w) (base:=base) T c2
 repeat' first
  |assumption
  |exact rfl
  |decide
  |exact Or.inl rfl
  |exact Or.inr rfl
  |exact Or.inr (Or.inl rfl)
  |exact Or.inr (Or.inr rfl)
  |apply mC
  |apply mD
  |apply i7
  |apply ki
  |apply nJ
  |apply nK
  |apply cw
  |apply bE
  |apply kW
  |apply iv
  |apply nE
  |apply qU
  |(apply qhN;apply iw;(case hsw=>exact U);(case hns=>assumption);(case hN=>assumption);(case h=>decide +kernel))
  |(apply qg5;apply iw;(case hsw=>exact U);(case hns=>assumption);(case hN=>assumption);(case h=>decide +kernel))
  |apply qV
  |apply wA
  |apply wy
  |apply mh
  |apply qW
  |apply wF
  |apply qM
  |(apply qN;(case hns=>assumption);(case hN=>assumption);(case h=>decide +kernel))
  |apply mm
  |apply ml
  |apply nH
  |apply nG
  |apply qI
  |apply wv
  |apply qL
  |apply i8
  |apply mE
  |apply qT
  |apply kg
  |apply wG
  |apply mF
  |apply qZ
  |apply qX
  |apply nD
  |apply wx
  |apply qF
  |apply kX
  |apply wD
  |apply mz
  |apply kh
  |apply mv
  |apply mq
  |apply kf
  |apply mo
  |apply mn
  |(apply mB;(case hns=>assumption);(case hN=>assumption);(case h=>decide +kernel))
  |apply j8 (N:=["self","rows","bounds","gains"]) (ps:=["self","rows","bounds","gains"])
  |refine j6 rfl (by assumption) (by assumption) ?_ ?_ ?_ ?_ ?_ ?_
  |refine i6 rfl (by assumption) (by assumption) ?_ ?_ ?_ ?_ ?_ ?_
  |refine ww (by with_reducible first|exact qbh|exact qbg|exact qa9|exact qbf|exact qaT|exact qaR|exact qbe|exact qbd|exact qa8|exact qaV|exact qbc|exact qbb|exact qa3|exact qbo) ?_ ?_ ?_ ?_ ?_ ?_ ?_ ?_ ?_
  |refine wC (by with_reducible first|exact qbh|exact qbg|exact qa9|exact qbf|exact qaT|exact qaR|exact qbe|exact qbd|exact qa8|exact qaV|exact qbc|exact qbb|exact qa3|exact qbo) ?_ ?_ ?_ ?_ ?_ ?_ ?_ ?_ ?_
  |apply qE
  |apply i5
  |apply j7
  |apply qG
  |apply qH
  |apply mj
  |apply qJ
  |apply qK
  |apply wz
  |refine wB ?_ ?_ (by with_reducible first|exact qbh|exact qbg|exact qa9|exact qbf|exact qaT|exact qaR|exact qbe|exact qbd|exact qa8|exact qaV|exact qbc|exact qbb|exact qa3|exact qbo) ?_ ?_
  |apply ke
  |apply qS
  |refine mw (λ_ h=>rR U (by assumption) U U (by decide) U U h U) ?_
  |apply my
  |apply dY
  |apply kY
  |apply qY
  |exact T.z _ (by decide)
  |exact qei
  |exact nomark _
  |exact λ_=>rfl
  |with_reducible first|apply jJ|apply wW|apply mI|apply od_fdv|apply iP|apply wX|apply wY|apply wZ|apply rz|apply w6|apply uq|apply rB|apply rC|apply xb|apply ky|apply mJ|apply rE|apply rF|apply rG|apply rH|apply rK|apply qk|apply ql|apply qo|apply qp|apply gB|apply qq|apply wd|apply jU|apply qr|apply qt|apply iZ|apply jV|apply ma|apply rA|apply jf|apply iP
  |apply gL
  |apply kc
  |apply gf
  |apply j9
  |apply nF
  |apply ad
  |(apply A7 T;(case hi=>decide);unfold Bd;(conv in (occs:=*) tV _=>whnf);(conv in (occs:=*) av _=>whnf);(conv in bf _=>whnf);intros)
  |(apply A8 T;(case hi=>decide);unfold Bd;(conv in (occs:=*) tV _=>whnf);(conv in (occs:=*) av _=>whnf);(conv in bf _=>whnf);intros)
  |(refine wq (by assumption) scL ?_;(conv in bf _=>whnf);intros)
  |intro
end
end Own
end
namespace L2
open PySem
def Hd (st:Sto) (n:Nat) (Zq:Int):Prop:=∃ x y z:Int,0<=x/\0<=z/\z<=Zq/\st[n]?=some (.l [.int x,.int y,.int z])
def Stw (n:Nat) (st a:Sto):Prop:=∃ v,a=st.set n v
theorem Hd.lt {st:Sto}{n:Nat}{Zq:Int} (h:Hd st n Zq):n<st.length:=by
 obtain⟨x,y,z,_,_,_,e⟩:=h;exact (qar.mp e).1
theorem Hd.mono {st:Sto}{n:Nat}{Zq Z':Int} (h:Hd st n Zq) (d:Zq<=Z'):Hd st n Z':=by
 obtain⟨x,y,z,a,b,c,e⟩:=h;exact⟨x,y,z,a,b,qfM c d,e⟩
theorem Stw.refl {st:Sto}{n:Nat} (h:n<st.length):Stw n st st:=⟨_,(List.set_getElem_self h).symm⟩
theorem Stw.trans {n:Nat}{a b c:Sto} (h:Stw n a b) (h':Stw n b c):Stw n a c:=by
 obtain⟨v,rfl⟩:=h;obtain⟨u,rfl⟩:=h';exact⟨u,by rw[List.set_set]⟩
def dF:Nat->List (List Int)
 |0=>[[]]
 |n+1=>dF n++(dF n).map λt=>t++[(n:Int)]
def cb (n:Nat):List (List Int):=ar (dF n)
theorem ge:∀ n,(dF n).length=2^n
 |0=>rfl
 |n+1=>by rw[dF,qax,qaf,ge n];lia
theorem sC (n:Nat):(cb n).length=2^n:=by rw[cb,(aG _).length_eq,ge]
def Trm (n:Nat) (t:List Int):Prop:=t.Pairwise (·<·)/\∀ k∈t,0<=k/\k<n
theorem Trm.mono {n m:Nat}{t:List Int} (h:Trm n t) (hn:n<=m):Trm m t:=⟨h.1,λk a=>⟨(h.2 k a).1,by have:=(h.2 k a).2;lia⟩⟩
theorem eG:∀ (n:Nat) {t:List Int},t∈dF n->Trm n t
 |0,t,h=>by
  rw[dF,qal]at h;subst h;exact⟨List.Pairwise.nil,λk c=>by cases c⟩
 |n+1,t,h=>by
  rcases qaK.mp h with h|h
  ·exact (eG n h).mono (qdk n)
  ·obtain⟨u,e,rfl⟩:=qaz.mp h
   have:=eG n e
   refine⟨List.pairwise_append.mpr ⟨this.1,qgz _ _,λa d b hb=>?_⟩,λk c=>?_⟩
   ·rw[qal.mp hb];exact (this.2 a d).2
   ·rcases qaK.mp c with c|c
    ·exact⟨(this.2 k c).1,by have:=(this.2 k c).2;lia⟩
    ·rw[qal.mp c];lia
theorem yO {n:Nat}{t:List Int} (h:t∈cb n):Trm n t:=eG n ((aG _).mem_iff.mp h)
theorem si {n:Nat}{t:List Int} (h:Trm n t):t.length<=n:=by
 have b:∀ (t:List Int) (a:Int),t.Pairwise (·<·)->(∀ k∈t,a<=k/\k<n)->(t.length)<=max 0 ((n) - a):=by
  intro t
  induction t with
  |nil=>intro a _ _;simp;lia
  |cons x t e=>
   intro a c hm;have f:=hm x qag
   have:=e _ (qa4.mp c).2 λk d=>⟨(qa4.mp c).1 k d,(hm k (qaj _ d)).2⟩
   rw[qap];lia
 have:=b t 0 h.1 h.2
 lia
def onI (row k:Int):Int:=row / 2^k.toNat%2
def jj (row:Int):List Int->Int
 |[]=>0
 |k::t=>onI row k+jj row t
theorem xf (row k:Int):onI row k=0\/onI row k=1:=by unfold onI;lia
theorem sP (row:Int):∀ t:List Int,(t.map (onI row)).sum=jj row t
 |[]=>rfl
 |k::t=>by rw[qas,qb8,sP row t];rfl
theorem wf (row:Int):∀ t:List Int,0<=jj row t/\jj row t<=t.length
 |[]=>by simp[jj]
 |k::t=>by
  have a:=wf row t;rcases xf row k with e|e<;>(simp only[jj,e,qap];lia)
theorem vP:∀ (ls:List (List Int)),lJ (ls.map aq)=some ((ar ls).map aq)
 |[]=>rfl
 |t::r=>by
  unfold lJ;rw[gT];rfl
def lR (u:D):Prop:=u=.non\/u=.int 0\/u=.int 1
def bD:Nat->List D->List Int
 |_,[]=>[]
 |i,.non::r=>bD (i+1) r
 |i,_::r=>(i:Int)::bD (i+1) r
def sgD:D->Int
 |.int v=>if v=1 then 1 else -1
 |_=>1
theorem lq:∀ (r:List D) (i:Nat) {j:Int},j∈bD i r->∃ m:Nat,j=((i+m:Nat):Int)/\m<r.length/\r[m]?≠some .non
 |[],i,j,h=>by cases h
 |d::r,i,j,h=>by
  have up:j∈bD _ r->∃ m:Nat,j=((i+m))/\m<(d::r).length/\(d::r)[m]?≠some .non:=λh=>by
   obtain⟨m,e,hm,hn⟩:=lq r (i+1) h;exact⟨m+1,by lia,by simpa using hm,by simpa using hn⟩
  cases d with
  |non=>exact up h
  |_=>
   rcases qay.mp h with rfl|h
   ·exact⟨0,by simp,by simp,by simp⟩
   ·exact up h
def B8:D->Bool
 |.tup [_,v]=>!dA v
 |_=>false
def Em:D->D
 |.tup [j,_]=>j
 |d=>d
theorem oF:∀ (r:List D) (i:Nat),((bW i r).filter B8).map Em=(bD i r).map D.int
 |[],i=>rfl
 |d::r,i=>by
  have a:=oF r (i+1);have b:bW i (d::r)=.tup [.int _,d]::bW _ r:=rfl;rw[b,qdK];cases d<;>first
   |(exact a)
   |(rw[iFP (show B8 _=true from rfl),qas,a];rfl)
theorem pO:∀ (r:List D) (i:Nat),(bD i r).length<=r.length
 |[],i=>qan _
 |d::r,i=>by
  have a:=pO r (i+1);cases d<;>first
   |(show (bD _ r).length<=r.length+1;lia)
   |(show (bD _ r).length+1<=r.length+1;lia)
def oX (b:Bool) (a:Int):Int:=if b=true then a else 1 - 2*a
abbrev Prt:=List Int×Int
def bj (p:Prt):D:=.tup [aq p.1,.int p.2]
def bS (kd:Str) (ps:List Prt):D:=.tup [.str kd,.tup (ps.map bj)]
theorem t9 {te:Ef}{env:Ev}{st:Sto} (F:Prt->D):∀ {ps:List Prt},(∀ p∈ps,∃ a,cC (.tp [0,1]) (.d (bj p)) env=some a/\te a st=some (.d (F p),st))->lcI (.tp [0,1]) aJ te env (ps.map bj) st=some (ps.map F,st)
 |[],_=>rfl
 |p::ps,h=>by
  obtain⟨a,e,b⟩:=h p qag;rw[qas];unfold lcI;rw[e,qaa,show aJ a st=some (true,st) from U,qaa,b,qaa,(t9 F λx c=>h x (qaj _ c))];rfl
def bO:Nat->List Int->Nat
 |g,[]=>g
 |g,n::ns=>bO (qbs g n.natAbs) ns
theorem nw (n:Int):∀ (g:Nat) (ns:List Int),bO g (ns++[n])=qbs (bO g ns) n.natAbs
 |g,[]=>rfl
 |g,m::ns=>nw n _ ns
theorem cV:∀ (g:Nat) (ns:List Int),bO g ns∣g/\∀ n∈ns,bO g ns∣n.natAbs
 |g,[]=>⟨Nat.dvd_refl _,λ_ h=>by cases h⟩
 |g,m::ns=>by
  have a:=cV (qbs g m.natAbs) ns;refine⟨qiV a.1 (qfY _ _),λn hn=>?_⟩;rcases qay.mp hn with rfl|hn
  ·exact qiV a.1 (qfz _ _)
  ·exact a.2 n hn
theorem vC {d:Nat}{n:Int} (hd:0<d) (h:d∣n.natAbs):(n / (d:Int)).natAbs=n.natAbs / d:=by
 obtain⟨q,rfl⟩:=(qcn.mpr h);rw[qcM _ (by lia),qb3,qcY,Nat.mul_div_cancel_left _ hd]
theorem tE {d:Nat} (hd:0<d):∀ (g:Nat) (ns:List Int),d∣g->(∀ n∈ns,d∣n.natAbs)->bO (g / d) (ns.map λn=>n / (d:Int))=bO g ns / d
 |g,[],_,_=>rfl
 |g,m::ns,hg,h=>by
  have hm:=h m qag;rw[qas,bO,vC hd hm,Nat.gcd_div hg hm];exact tE hd _ ns (Nat.dvd_gcd hg hm) λn hn=>h n (qaj _ hn)
theorem ny {ns:List Int}{n:Int} (hn:n∈ns) (b:n≠0):0<bO 0 ns/\bO 0 ns<=n.natAbs:=by
 have h:=(cV 0 ns).2 n hn;have a:0<n.natAbs:=by lia
 exact⟨Nat.pos_of_dvd_of_pos h a,qiU a h⟩
theorem zg {ns:List Int} (b:∀ n∈ns,n≠0):bO 0 (ns.map λn=>n / ((bO 0 ns:Nat):Int))<=1:=by
 cases ns with
 |nil=>exact qby _
 |cons n r=>
  have a:=(ny (qag (l:=r)) (b n qag)).1
  have:=tE a 0 _ (Nat.dvd_zero _) (cV 0 _).2
  rw[Nat.zero_div]at this;rw[this,Nat.div_self a];exact qan 1
theorem ag {g:Sto->W->W->Option D}{a b:Ef}{env:Ev}{st s1 c:Sto}{x y:W}{d:D} (e:a env st=some (x,s1)) (hb:b env s1=some (y,c)) (hg:g c x y=some d):iOp g a b env st=some (.d d,c):=by
 simp only[iOp,e,hb,hg,qaa,qak]
theorem ay {g:Sto->W->W->Option D}{a b:Ef}{env:Ev}{st s1 c:Sto}{x y:W}{k:Bool} (d:a env st=some (x,s1)) (hb:b env s1=some (y,c)) (hg:g c x y=some (.bl k)):aK g a b env st=some (k,c):=by
 simp only[aK,d,hb,hg,qaa,kM,qak]
theorem aU {a b:Sf}{env e:Ev}{st s:Sto}{r:Fl} (c:a env st=some (.nx e s)) (hb:b e s=some r):ah a b env st=some r:=by
 simp only[ah,c,hb,qaa]
theorem rV {a b:Sf}{env:Ev}{st s:Sto}{w:W} (c:a env st=some (.rt w s)):ah a b env st=some (.rt w s):=by
 simp only[ah,c,qaa]
theorem ak {i:Nat}{f:Ef}{env:Ev}{st s:Sto}{w:W} (h:f env st=some (w,s)):az (.nm i) f env st=some (.nx (env.set i (some w)) s):=by
 simp only[az,h,qaa,cC,qak]
theorem ai {m:Fn}{a:Af}{env:Ev}{st s:Sto}{ws:List W}{r:W×Sto} (b:a env st=some (ws,s)) (hm:m ws s=some r):ap m a env st=some r:=by
 simp only[ap,b,hm,qaa]
theorem aF {g:Sto->List W->Option D}{a:Af}{env:Ev}{st s:Sto}{ws:List W}{d:D} (b:a env st=some (ws,s)) (hm:g s ws=some d):iCB g a env st=some (.d d,s):=by
 simp only[iCB,b,hm,qaa,qak]
theorem ac {a:Ef}{b:Af}{env:Ev}{st s1 c:Sto}{x:W}{y:List W} (d:a env st=some (x,s1)) (hb:b env s1=some (y,c)):aa a b env st=some (x::y,c):=by
 simp only[aa,d,hb,qaa,qak]
theorem bz {a:Lf}{g:Tg}{b:Sf}{env:Ev}{st s:Sto}{ds:List D}{r:Fl} (h:a env st=some (ds,s)) (c:cO g b ds env s=some r):eY a g b env st=some r:=by
 simp only[eY,h,c,qaa]
theorem aD {f:Ef}{env:Ev}{st s:Sto}{w:W} (h:f env st=some (w,s)):aN f env st=some (.rt w s):=by
 simp only[aN,h,qak]
theorem xr {c:Tf}{a b:Sf}{env:Ev}{st s:Sto}{r:Option Fl} (h:c env st=some (true,s)) (d:a env s=r):aZ c a b env st=r:=by
 simp only[aZ,h,qaa,if_true,d]
theorem kz {c:Tf}{a b:Sf}{env:Ev}{st s:Sto}{r:Option Fl} (h:c env st=some (false,s)) (hb:b env s=r):aZ c a b env st=r:=by
 simp only[aZ,h,qaa,qbk,if_false,hb]
theorem aM {k:Nat}{js:List Nat}{a:Lf}{g:Tg}{tt:Tf}{te:Ef}{env:Ev}{st s b:Sto}{ds c:List D} (h:a env st=some (ds,s)) (d:ds.length<=1000000) (e:lcI g tt te (lZ k js env) ds s=some (c,b)):iLc k js a g tt te env st=some (c,b):=by
 simp only[iLc,h,e,d,qaa,if_true]
theorem ao {a:Lf}{env:Ev}{st s:Sto}{ds:List D} (h:a env st=some (ds,s)):au a env st=some (.d (.lst ds),s):=by
 simp only[au,h,qak]
theorem ax {n k:Nat}{b:Sf}{ws:List W}{st s:Sto}{w:W} (a:ws.length=k) (h:b (ws.map some++qaC (n - k) none) st=some (.rt w s)):bo n k b ws st=some (w,s):=by
 simp only[bo,a,if_true,h,qaa]
theorem kA {n k:Nat}{b:Sf}{ws:List W}{st s:Sto}{x:D} (a:ws.length=k) (h:b (ws.map some++qaC (n - k) none) st=some (.rt (.d x) s)):gP n k b ws st=some (.d x,s.take st.length):=by
 simp only[gP,a,if_true,h,qaa,zc]
end L2
namespace Sx
abbrev Vec:=Nat->Int
def sumN:Nat->(Nat->Int)->Int
 |0,_=>0
 |n+1,f=>sumN n f+f n
theorem sumN_congr {n:Nat}{f g:Nat->Int} (h:∀ k,k<n->f k=g k):sumN n f=sumN n g:=by
 induction n with
 |zero=>rfl
 |succ n F=>rw[sumN,sumN,F λk H=>h k (by omega),h n (by omega)]
theorem sumN_add (n:Nat) (f g:Nat->Int):sumN n (λk=>f k+g k)=sumN n f+sumN n g:=by
 induction n with
 |zero=>rfl
 |succ n F=>rw[sumN,sumN,sumN];omega
theorem sumN_mul (n:Nat) (c:Int) (f:Nat->Int):sumN n (λk=>c*f k)=c*sumN n f:=by
 induction n with
 |zero=>simp[sumN]
 |succ n F=>rw[sumN,sumN,F,qcz]
theorem sumN_zero (n:Nat):sumN n (λ_=>0)=0:=by
 induction n with
 |zero=>rfl
 |succ n F=>rw[sumN,F];rfl
theorem sumN_single {n i:Nat} (hi:i<n) {f:Nat->Int} (h:∀ k,k<n->k≠i->f k=0):sumN n f=f i:=by
 induction n with
 |zero=>omega
 |succ n F=>
  rw[sumN];by_cases e:i=n
  ·subst e
   rw[sumN_congr λk H=>h k (by omega) (by omega),sumN_zero];omega
  ·rw[F (by omega) λk H s=>h k (by omega) s,h n (by omega) (by omega)];omega
theorem sumN_pair {n i j:Nat} (hi:i<n) (N:j<n) (hij:i≠j) {f:Nat->Int} (h:∀ k,k<n->k≠i->k≠j->f k=0):sumN n f=f i+f j:=by
 have e:sumN n f=sumN n (λk=>(if k=i then f i else 0)+(if k=j then f j else 0)):=by
  refine sumN_congr λk H=>?_;by_cases J:k=i
  ·subst J;omega
  ·by_cases K:k=j
   ·subst K;omega
   ·rw[iFN J,iFN K,h k H J K];rfl
 rw[e,sumN_add,sumN_single hi λk _ s=>iFN s,sumN_single N λk _ s=>iFN s,iFP U,iFP U]
def skip (k j:Nat):Nat:=if j<k then j else j+1
def sg (k:Nat):Int:=if k%2=0 then 1 else -1
theorem sg_succ (k:Nat):sg (k+1)=- sg k:=by
 unfold sg;by_cases h:k%2=0
 ·rw[iFP h,iFN (by omega)]
 ·rw[iFN h,iFP (by omega)];rfl
def det:Nat->(Nat->Vec)->Int
 |0,_=>1
 |m+1,C=>sumN (m+1) λk=>sg k*C k 0*det m (λj t=>C (skip k j) (t+1))
theorem det_congr:∀ (m:Nat) {C E:Nat->Vec},(∀ k t,k<m->t<m->C k t=E k t)->det m C=det m E:=by
 intro m
 induction m with
 |zero=>intros;rfl
 |succ m F=>
  intro C E h;refine sumN_congr λk H=>?_;rw[h k 0 H (by omega),F λj t N ht=>h _ _ (by unfold skip;split<;>omega) (by omega)]
def upd (C:Nat->Vec) (i:Nat) (v:Vec):Nat->Vec:=λj=>if j=i then v else C j
theorem upd_same (C:Nat->Vec) (i:Nat) (v:Vec):upd C i v i=v:=iFP U
theorem upd_ne {C:Nat->Vec}{i j:Nat}{v:Vec} (h:j≠i):upd C i v j=C j:=iFN h
theorem upd_self (C:Nat->Vec) (i:Nat):upd C i (C i)=C:=by
 funext j
 by_cases h:j=i
 ·rw[h,upd_same]
 ·rw[upd_ne h]
theorem upd_upd (C:Nat->Vec) (i:Nat) (u v:Vec):upd (upd C i u) i v=upd C i v:=by
 funext j
 by_cases h:j=i
 ·rw[h,upd_same,upd_same]
 ·rw[upd_ne h,upd_ne h,upd_ne h]
theorem upd_comm {C:Nat->Vec}{i j:Nat}{u v:Vec} (h:i≠j):upd (upd C i u) j v=upd (upd C j v) i u:=by
 funext k
 by_cases J:k=i
 ·subst J;rw[upd_ne h,upd_same,upd_same]
 ·by_cases K:k=j
  ·subst K;rw[upd_same,upd_ne J,upd_same]
  ·rw[upd_ne K,upd_ne J,upd_ne J,upd_ne K]
def unskip (k i:Nat):Nat:=if i<k then i else i - 1
theorem skip_upd {C:Nat->Vec}{k i:Nat}{v:Vec} (h:k≠i):(λj t=>upd C i v (skip k j) (t+1))=upd (λj t=>C (skip k j) (t+1)) (unskip k i) (λt=>v (t+1)):=by
 funext j t
 unfold upd skip unskip;by_cases J:j<k<;>by_cases K:i<k<;>simp only[J,K,if_true,if_false]
 ·by_cases e:j=i
  ·rw[iFP e,iFP e]
  ·rw[iFN e,iFN e]
 ·rw[iFN (by omega),iFN (by omega)]
 ·rw[iFN (by omega),iFN (by omega)]
 ·by_cases e:j+1=i
  ·rw[iFP e,iFP (by omega)]
  ·rw[iFN e,iFN (by omega)]
theorem skip_self {C:Nat->Vec}{i:Nat}{v:Vec}:(λj t=>upd C i v (skip i j) (t+1))=λj t=>C (skip i j) (t+1):=by
 funext j t
 rw[upd_ne];unfold skip;split<;>omega
theorem det_add:∀ (m:Nat) (C:Nat->Vec) (i:Nat) (u v:Vec),i<m->det m (upd C i λt=>u t+v t)=det m (upd C i u)+det m (upd C i v):=by
 intro m
 induction m with
 |zero=>omega
 |succ m F=>
  intro C i u v hi;rw[det,det,det,<-sumN_add];refine sumN_congr λk H=>?_;by_cases e:k=i
  ·subst e
   rw[skip_self,skip_self,skip_self,upd_same,upd_same,upd_same,qcz,qes]
  ·rw[skip_upd e,skip_upd e,skip_upd e,upd_ne e,upd_ne e,upd_ne e,F _ _ _ _ (by unfold unskip;split<;>omega),qcz]
theorem det_mul:∀ (m:Nat) (C:Nat->Vec) (i:Nat) (c:Int) (u:Vec),i<m->det m (upd C i λt=>c*u t)=c*det m (upd C i u):=by
 intro m
 induction m with
 |zero=>omega
 |succ m F=>
  intro C i c u hi;rw[det,det,<-sumN_mul];refine sumN_congr λk H=>?_;by_cases e:k=i
  ·subst e
   rw[skip_self,skip_self,upd_same,upd_same];rw[show sg k*_=c*_ by rw[qaN],qbr]
  ·rw[skip_upd e,skip_upd e,upd_ne e,upd_ne e,F _ _ c _ (by unfold unskip;split<;>omega),qaN]
theorem det_adj:∀ (m:Nat) (C:Nat->Vec) (i:Nat),i+1<m->C i=C (i+1)->det m C=0:=by
 intro m
 induction m with
 |zero=>omega
 |succ m F=>
  intro C i hi h;rw[det,sumN_pair (i:=i) (by omega) (by omega) (by omega) λk H J K=>?_]
  ·have e:(λj t=>C (skip i j) (t+1))=λj t=>C (skip (i+1) j) (t+1):=by
    funext j t
    by_cases e:j=i
    ·subst e
     have a1:skip j j=j+1:=by unfold skip;rw[iFN (by omega)]
     have a2:skip (j+1) j=j:=by unfold skip;rw[iFP (by omega)]
     rw[a1,a2,h]
    ·have:skip i j=skip (i+1) j:=by
      unfold skip;by_cases J:j<i
      ·rw[iFP J,iFP (by omega)]
      ·rw[iFN J,iFN (by omega)]
     rw[this]
   rw[e,h,sg_succ];rw[<-qes,<-qes];rw[show sg i+-sg i=0 by omega]
   simp
  ·have hz:det m (λj t=>C (skip k j) (t+1))=0:=by
    by_cases l:k<i
    ·refine F _ (i - 1) (by omega) ?_
     funext t
     have a1:skip k (i - 1)=i:=by unfold skip;rw[iFN (by omega)];omega
     have a2:skip k (i - 1+1)=i+1:=by unfold skip;rw[iFN (by omega)];omega
     rw[a1,a2,h]
    ·refine F _ i (by omega) ?_
     funext t
     have a1:skip k i=i:=by unfold skip;rw[iFP (by omega)]
     have a2:skip k (i+1)=i+1:=by unfold skip;rw[iFP (by omega)]
     rw[a1,a2,h]
   rw[hz,qbi]
theorem det_swap {m:Nat} (C:Nat->Vec) {i:Nat} (hi:i+1<m):det m (upd (upd C i (C (i+1))) (i+1) (C i))=- det m C:=by
 have Q:∀ u v ,det m (upd (upd C i u) (i+1) v)+det m (upd (upd C i v) (i+1) u)=0:=λu v=>by
  have h0:det m (upd (upd C i λt=>u t+v t) (i+1) λt=>u t+v t)=0:=det_adj m _ i hi (by rw[upd_ne (by omega),upd_same,upd_same]);have hv:det m (upd (upd C i v) (i+1) v)=0:=det_adj m _ i hi (by rw[upd_ne (by omega),upd_same,upd_same]);rw[det_add m _ _ u v hi,upd_comm (by omega),upd_comm (v:=v) (by omega),det_add m _ i u v (by omega),det_add m _ i u v (by omega)]at h0;rw[<-upd_comm (by omega),<-upd_comm (u:=v) (by omega),<-upd_comm (i:=i) (by omega),<-upd_comm (u:=v) (v:=v) (by omega),(det_adj m _ i hi (by rw[upd_ne (by omega),upd_same,upd_same]))]at h0;omega
 have:=Q (C i) (C (i+1))
 have e:upd (upd C i (C i)) (i+1) (C (i+1))=C:=by rw[upd_self,upd_self]
 rw[e]at this;omega
theorem det_same {m:Nat}:∀ (d:Nat) (C:Nat->Vec) (i j:Nat),j=i+d+1->j<m->C i=C j->det m C=0:=by
 intro d
 induction d with
 |zero=>intro C i j N hm h;subst N;exact det_adj m C i hm h
 |succ d F=>
  intro C i j N hm h;have hs:=det_swap (m:=m) C (i:=j - 1) (by omega);have e1:j - 1+1=j:=by omega
  rw[e1]at hs
  have:=F (upd (upd C (j - 1) _) j (C (j - 1))) i (j - 1) (by omega) (by omega) (by rw[upd_ne (by omega),upd_ne (by omega),upd_ne (by omega),upd_same,h])
  omega
theorem det_eq0 {m:Nat} (C:Nat->Vec) {i j:Nat} (hi:i<m) (N:j<m) (hij:i≠j) (h:C i=C j):det m C=0:=by
 rcases Nat.lt_or_gt_of_ne hij with J|J
 ·exact det_same (j - i - 1) C i j (by omega) N h
 ·exact det_same (i - j - 1) C j i (by omega) hi h.symm
theorem det_zero {m:Nat} (C:Nat->Vec) {i:Nat} (hi:i<m):det m (upd C i λ_=>0)=0:=by
 simpa using (det_mul m C i 0 (λ_=>0) hi)
theorem det_sum {m:Nat} (C:Nat->Vec) {i:Nat} (hi:i<m) (x:Nat->Int) (V:Nat->Vec):∀ n,det m (upd C i λt=>sumN n λk=>x k*V k t)=sumN n λk=>x k*det m (upd C i (V k)):=by
 intro n
 induction n with
 |zero=>exact det_zero C hi
 |succ n F=>
  have e:(λt=>sumN (n+1) λk=>x k*V k t)=λt=>_+x n*V n t:=rfl;rw[e,det_add m C i _ _ hi,F,det_mul m C i _ _ hi];rfl
theorem cramer {m:Nat} (B:Nat->Vec) (a:Vec) (p:Int) (x:Nat->Int) (h:∀ t,p*a t=sumN m λk=>x k*B k t) {i:Nat} (hi:i<m):p*det m (upd B i a)=x i*det m B:=by
 rw[<-det_mul m B i p a hi];rw[(funext h),det_sum B hi x B m,sumN_single hi λk H s=>?_,upd_self];rw[det_eq0 _ hi H (qbz s) (by rw[upd_same,upd_ne s]),qbi]
theorem cramer2 {m:Nat} (B:Nat->Vec) (a b:Vec) (p:Int) (hp:p=det m B) (hp0:p≠0) (x y:Nat->Int) (hx:∀ t,p*a t=sumN m λk=>x k*B k t) (hy:∀ t,p*b t=sumN m λk=>y k*B k t) {i r:Nat} (hi:i<m) (q:r<m) (o:i≠r) :
  p*det m (upd (upd B r a) i b)=x r*y i - x i*y r:=by
 have J:p*det m (upd (upd B r a) i b)=sumN m λk=>y k*det m (upd (upd B r a) i (B k)):=by
  rw[<-det_mul m _ i p b hi];rw[(funext hy),det_sum _ hi y B m]
 rw[J,sumN_pair hi q o λk H K h3=>?_]
 ·have e1:upd (upd B r a) i (B i)=upd B r a:=by
   have:(upd B r a) i=B i:=upd_ne o
   rw[<-this,upd_self]
  have e2:p*det m (upd B r a)=x r*p:=by rw[cramer B a p x hx q,<-hp]
  have e3:p*det m (upd (upd B r a) i (B r))=- (x i*p):=by
   rw[(upd_comm (qbz o)),<-det_mul m _ r p a q];rw[(funext hx),det_sum _ q x B m,sumN_single hi λk H s=>?_]
   ·-- columns i and r exchanged
    have hsw:det m (upd (upd B i (B r)) r (B i))=- det m B:=by
     have:=(λu v=>by
      have z:∀ w ,det m (upd (upd B i w) r w)=0:=λw=>det_eq0 _ hi q o (by rw[upd_ne o,upd_same,upd_same]);have h0:=z λt=>u t+v t;rw[det_add m _ r u v q,upd_comm o,upd_comm o,det_add m _ i u v hi,det_add m _ i u v hi]at h0;rw[<-upd_comm o,<-upd_comm o,<-upd_comm o,<-upd_comm o,z u,z v]at h0
      omega) (B i) (B r)
     rw[show upd _ r (B r)=B by rw[upd_self,upd_self]]at this;omega
    rw[hsw,<-hp,qgg]
   ·by_cases O:k=r
    ·subst O
     rw[det_eq0 _ hi q o (by rw[upd_ne o,upd_same,upd_same]),qbi]
    ·rw[det_eq0 _ q H (qbz O) (by rw[upd_same,upd_ne O,upd_ne s]),qbi]
  rw[e1]
  have:p*(y i*det m (upd B r a)+y r*det m (upd (upd B r a) i (B r)))=p*(x r*y i - x i*y r):=by
   rw[qcz,qaN,e2,qaN p _,e3,qdF,qgg];rw[show y i*_=p*_ by rw[qa6 _,qbl,qa6]];rw[show y r*_=p*(x i*y r) by rw[qa6 _,qbr,qa6 p _,<-qbr,qa6 _ p]];omega
  exact qed hp0 this
 ·rw[det_eq0 _ hi H (qbz K) (by rw[upd_same,upd_ne K,upd_ne h3]),qbi]
def unit (k:Nat):Vec:=λt=>if t=k then 1 else 0
theorem det_unit:∀ m,det m unit=1:=by
 intro m
 induction m with
 |zero=>rfl
 |succ m F=>
  rw[det,sumN_single (i:=0) (by omega) λk H s=>by rw[show unit k 0=0 by unfold unit;rw[iFN (by omega)]];simp];have e:(λj t=>unit (skip 0 j) (t+1))=unit:=by
   funext j t
   unfold unit skip;rw[iFN (by omega:¬ j<0)];by_cases h:t=j
   ·rw[iFP (by omega),iFP h]
   ·rw[iFN (by omega),iFN h]
  rw[e,F];rfl
structure Pb where
 m:Nat
 n:Nat
 A:Nat->Vec
 b:Vec
 g:Nat->Int
structure Tb where
 p:Int
 kept:Nat->Nat
 free:Nat->Nat
 T:Nat->Nat->Int
 G:Nat->Int
variable (P:Pb)
def colV (S:Tb) (c:Nat):Vec:=if c<P.n then P.A (S.free c) else P.b
def gainC (S:Tb) (c:Nat):Int:=if c<P.n then P.g (S.free c) else 0
def basis (S:Tb):Nat->Vec:=λi=>P.A (S.kept i)
structure Good (S:Tb):Prop where
 pos:0<S.p
 dt:S.p=det P.m (basis P S)
 eq:∀ c,c<=P.n->∀ t,S.p*colV P S c t=sumN P.m λi=>S.T i c*P.A (S.kept i) t
 goal:∀ c,c<=P.n->S.G c=(sumN P.m λi=>P.g (S.kept i)*S.T i c) - S.p*gainC P S c
def piv (S:Tb) (r e:Nat):Tb where
 p:=S.T r e
 kept:=λi=>if i=r then S.free e else S.kept i
 free:=λc=>if c=e then S.kept r else S.free c
 T:=λi c=>if i=r then (if c=e then S.p else S.T r c) else (if c=e then - S.T i e else (S.T r e*S.T i c - S.T i e*S.T r c) / S.p)
 G:=λc=>if c=e then - S.G e else (S.T r e*S.G c - S.G e*S.T r c) / S.p
variable {P}
theorem Good.entry {S:Tb} (h:Good P S) {c i:Nat} (M:c<=P.n) (hi:i<P.m):S.T i c=det P.m (upd (basis P S) i (colV P S c)):=by
 have:=cramer (basis P S) _ S.p _ (λt=>h.eq c M t) hi
 rw[<-h.dt,qa6]at this;exact (qd3 (by have:=h.pos;omega) this).symm
theorem Good.whole {S:Tb} (h:Good P S) {r e c i:Nat} (L:e<=P.n) (M:c<=P.n) (hi:i<P.m) (q:r<P.m) (o:i≠r):∃ d,S.T r e*S.T i c - S.T i e*S.T r c=S.p*d:=
 ⟨_,(cramer2 _ _ _ S.p h.dt (by have:=h.pos;omega) _ _ (λt=>h.eq e L t) (λt=>h.eq c M t) hi q o).symm⟩
theorem ediv_of {p a d:Int} (hp:0<p) (h:a=p*d):p*(a / p)=a:=by
 rw[h,qcM _ (by omega)]
theorem piv_T {S:Tb} (h:Good P S) {r e c i:Nat} (L:e<=P.n) (M:c<=P.n) (hi:i<P.m) (q:r<P.m) (o:i≠r) (D:c≠e):S.p*(piv S r e).T i c=S.T r e*S.T i c - S.T i e*S.T r c:=by
 obtain⟨d,hd⟩:=h.whole L M hi q o;show S.p*(if i=r then _ else _)=_;rw[iFN o,iFN D];exact ediv_of h.pos hd
theorem sumN_split {n r:Nat} (q:r<n) (f:Nat->Int):sumN n f=f r+sumN n (λk=>if k=r then 0 else f k):=by
 have e:sumN n f=sumN n (λk=>(if k=r then f r else 0)+(if k=r then 0 else f k)):=by
  refine sumN_congr λk H=>?_;by_cases h:k=r
  ·rw[h];omega
  ·omega
 rw[e,sumN_add,sumN_single q λk _ s=>iFN s,iFP U]
theorem sumN_sub (n:Nat) (f g:Nat->Int):sumN n (λk=>f k - g k)=sumN n f - sumN n g:=by
 induction n with
 |zero=>rfl
 |succ n F=>rw[sumN,sumN,sumN];omega
theorem piv_eq {S:Tb} (h:Good P S) {r e:Nat} (L:e<P.n) (q:r<P.m):∀ c,c<=P.n->∀ t,(piv S r e).p*colV P (piv S r e) c t=sumN P.m λi=>(piv S r e).T i c*P.A ((piv S r e).kept i) t:=by
 intro c M t;have hp:=h.pos;have R:=h.eq e (by omega) t;have hcE:colV P S e=P.A _:=iFP L;rw[hcE,sumN_split q]at R;have kr:(piv S r e).kept r=S.free e:=iFP U;have W:∀ i,i≠r->(piv S r e).kept i=S.kept i:=λi hi=>iFN hi;rw[sumN_split q,kr];by_cases D:c=e
 ·subst D
  have c1:colV P (piv S r c) c=P.A (S.kept r):=by
   unfold colV;rw[iFP L];show P.A (if c=c then _ else _)=_;rw[iFP U]
  have t1:(piv S r c).T r c=S.p:=by show (if r=r then _ else _)=_;rw[iFP U,iFP U]
  have t2:(sumN P.m λk=>if k=r then 0 else (piv S r c).T k c*P.A ((piv S r c).kept k) t)=- sumN P.m λk=>if k=r then 0 else S.T k c*P.A (S.kept k) t:=by
   have:(sumN P.m λk=>if k=r then 0 else (piv S r c).T k c*P.A ((piv S r c).kept k) t)=sumN P.m λk=>(-1)*(if k=r then 0 else S.T k c*P.A (S.kept k) t):=by
    refine sumN_congr λk H=>?_;by_cases l:k=r
    ·rw[iFP l,iFP l];rfl
    ·rw[iFN l,iFN l,W k l]
     show (if k=r then _ else _)*_=_;rw[iFN l,iFP U,qdE,qdE,qcy]
   rw[this,sumN_mul];omega
  rw[c1,t1];show S.T r c*P.A _ t=_;omega
 ·have c1:colV P (piv S r e) c=colV P S c:=by
   unfold colV;by_cases I:c<P.n
   ·rw[iFP I,iFP I];show P.A (if c=e then _ else _)=_;rw[iFN D]
   ·rw[iFN I,iFN I]
  have t1:(piv S r e).T r c=S.T r c:=by show (if r=r then _ else _)=_;rw[iFP U,iFN D]
  have X:=h.eq c M t;rw[sumN_split q]at X;rw[c1,t1];refine qed (a:=S.p) (by omega) ?_;have t2:S.p*(sumN P.m λk=>if k=r then 0 else (piv S r e).T k c*P.A ((piv S r e).kept k) t)=(sumN P.m λk=>S.T r e*(if k=r then 0 else S.T k c*P.A (S.kept k) t)) - sumN P.m λk=>S.T r c*(if k=r then 0 else S.T k e*P.A (S.kept k) t):=by
   rw[<-sumN_mul,<-sumN_sub];refine sumN_congr λk H=>?_;by_cases l:k=r
   ·rw[iFP l,iFP l,iFP l];simp
   ·rw[iFN l,iFN l,iFN l,W k l,<-qbr,piv_T h (by omega) M H q l D,qgf]
    rw[qbr,qa6 (S.T k e),qbr]
  rw[qcz,t2,sumN_mul,sumN_mul];show S.p*(S.T r e*colV P S c t)=_;rw[qaN,X,<-qbr S.p,qa6 S.p _,qbr,R,qcz,qcz];rw[show S.T r e*_=S.T r c*_ by rw[qaN]];omega
theorem piv_goal {S:Tb} (h:Good P S) {r e:Nat} (L:e<P.n) (q:r<P.m):∀ c,c<=P.n->(piv S r e).G c=(sumN P.m λi=>P.g ((piv S r e).kept i)*(piv S r e).T i c) - (piv S r e).p*gainC P (piv S r e) c:=by
 intro c M;have hp:=h.pos;have R:=h.goal e (by omega);have gE:gainC P S e=P.g _:=iFP L;rw[gE,sumN_split q]at R;have kr:(piv S r e).kept r=S.free e:=iFP U;have W:∀ i,i≠r->(piv S r e).kept i=S.kept i:=λi hi=>iFN hi;rw[sumN_split q,kr];by_cases D:c=e
 ·subst D
  have c1:gainC P (piv S r c) c=P.g (S.kept r):=by
   unfold gainC;rw[iFP L];show P.g (if c=c then _ else _)=_;rw[iFP U]
  have t1:(piv S r c).T r c=S.p:=by show (if r=r then _ else _)=_;rw[iFP U,iFP U]
  have t2:(sumN P.m λk=>if k=r then 0 else P.g ((piv S r c).kept k)*(piv S r c).T k c)=- sumN P.m λk=>if k=r then 0 else P.g (S.kept k)*S.T k c:=by
   have:(sumN P.m λk=>if k=r then 0 else P.g ((piv S r c).kept k)*(piv S r c).T k c)=sumN P.m λk=>(-1)*(if k=r then 0 else P.g (S.kept k)*S.T k c):=by
    refine sumN_congr λk H=>?_;by_cases l:k=r
    ·rw[iFP l,iFP l];rfl
    ·rw[iFN l,iFN l,W k l]
     show _*(if k=r then _ else _)=_;rw[iFN l,iFP U,qgg,qdE,qcy]
   rw[this,sumN_mul];omega
  rw[c1,t1];show (if c=c then - S.G c else _)=_ - S.T r c*_;rw[iFP U,R,qa6 _,qa6 S.p];omega
 ·have c1:gainC P (piv S r e) c=gainC P S c:=by
   unfold gainC;by_cases I:c<P.n
   ·rw[iFP I,iFP I];show P.g (if c=e then _ else _)=_;rw[iFN D]
   ·rw[iFN I,iFN I]
  have t1:(piv S r e).T r c=S.T r c:=by show (if r=r then _ else _)=_;rw[iFP U,iFN D]
  have X:=h.goal c M;rw[sumN_split q]at X;rw[c1,t1];have t2:S.p*(sumN P.m λk=>if k=r then 0 else P.g ((piv S r e).kept k)*(piv S r e).T k c)=(sumN P.m λk=>S.T r e*(if k=r then 0 else P.g (S.kept k)*S.T k c)) - sumN P.m λk=>S.T r c*(if k=r then 0 else P.g (S.kept k)*S.T k e):=by
   rw[<-sumN_mul,<-sumN_sub];refine sumN_congr λk H=>?_;by_cases l:k=r
   ·rw[iFP l,iFP l,iFP l];simp
   ·rw[iFN l,iFN l,iFN l,W k l,qaN,piv_T h (by omega) M H q l D,qdF]
    rw[qaN,qa6 (S.T k e),qaN (S.T r c)]
  rw[sumN_mul,sumN_mul]at t2;have Q:S.T r e*S.G c - S.G e*S.T r c=S.p*(P.g (S.free e)*S.T r c+(sumN P.m λk=>if k=r then 0 else P.g ((piv S r e).kept k)*(piv S r e).T k c) - S.T r e*gainC P S c):=by
   rw[qdF,qcz,t2,X,R];generalize (sumN P.m λk=>if k=r then 0 else P.g _*S.T k e)=Y;rw[qdF,qcz,qgf,qes];rw[show S.T r e*_=P.g _*S.T r e*S.T r c by rw[qaN,qbr]];rw[show S.T r e*(S.p*gainC P S c)=S.p*_ by rw[qaN]];rw[show S.p*(P.g _*S.T r c)=S.p*P.g _*S.T r c by rw[qbr]];rw[qa6 Y];omega
  show (if c=e then _ else _ / S.p)=_;rw[iFN D,Q,qcM _ (by omega)];rfl
theorem Good.piv {S:Tb} (h:Good P S) {r e:Nat} (L:e<P.n) (q:r<P.m) (hq:0<S.T r e):Good P (piv S r e):=by
 refine⟨hq,?_,piv_eq h L q,piv_goal h L q⟩;show S.T r e=_;rw[h.entry (by omega) q];refine congrArg _ ?_
 funext i
 unfold basis;by_cases hi:i=r
 ·rw[hi,upd_same]
  show colV P S e=P.A (if r=r then _ else _);rw[iFP U];exact iFP L
 ·rw[upd_ne hi]
  show _=P.A (if i=r then _ else _);rw[iFN hi]
def lexP (M:Nat) (v:Nat->Int):Prop:=∃ j,j<M/\0<v j/\∀ l,l<j->v l=0
theorem lexP_congr {M:Nat}{v w:Nat->Int} (h:∀ s,s<M->v s=w s) (E:lexP M v):lexP M w:=by
 obtain⟨j,q,z,u⟩:=E;exact⟨j,q,by rw[<-h j q];exact z,λl A=>by rw[<-h l (by omega)];exact u l A⟩
theorem lexP_mul {M:Nat}{v:Nat->Int}{c:Int} (C:0<c) (E:lexP M v):lexP M λs=>c*v s:=by
 obtain⟨j,q,z,u⟩:=E;exact⟨j,q,qkb C z,λl A=>by show c*v l=0;rw[u l A,qbi]⟩
theorem lexP_unmul {M:Nat}{v:Nat->Int}{c:Int} (C:0<c) (E:lexP M λs=>c*v s):lexP M v:=by
 obtain⟨j,q,z,u⟩:=E;have h2':0<v j*c:=by rw[qa6];exact z
 refine⟨j,q,Int.pos_of_mul_pos_left h2' C,λl A=>?_⟩
 have:=u l A
 rcases qgh.mp this with h|h
 ·omega
 ·exact h
theorem lexP_add {M:Nat}{v w:Nat->Int} (E:lexP M v) (hw:lexP M w):lexP M λs=>v s+w s:=by
 obtain⟨j,q,z,u⟩:=E;obtain⟨k,X,k2,W⟩:=hw;rcases Nat.lt_trichotomy j k with h|h|h
 ·exact⟨j,q,by show 0<v j+w j;rw[W j h];omega,λl A=>by show v l+w l=0;rw[u l A,W l (by omega)];rfl⟩
 ·subst h
  exact⟨j,q,by show 0<v j+w j;omega,λl A=>by show v l+w l=0;rw[u l A,W l A];rfl⟩
 ·exact⟨k,X,by show 0<v k+w k;rw[u k h];omega,λl A=>by show v l+w l=0;rw[u l (by omega),W l A];rfl⟩
theorem lexP_addn {M:Nat}{v w:Nat->Int}{c:Int} (C:0<=c) (E:lexP M v) (hw:lexP M w):lexP M λs=>v s+c*w s:=by
 rcases qd6 C with h|h
 ·exact lexP_add E (lexP_mul h hw)
 ·subst h
  exact lexP_congr (λs _=>by rw[qci,qeR]) E
theorem lexP_not0 {M:Nat}{v:Nat->Int} (h:∀ s,s<M->v s=0):¬ lexP M v:=λ⟨j,q,z,_⟩=>by rw[h j q]at z;omega
theorem lexP_first {M:Nat}{v:Nat->Int} (hM:0<M) (h:lexP M v):0<=v 0:=by
 obtain⟨j,q,z,u⟩:=h;rcases Nat.eq_zero_or_pos j with e|e
 ·subst e;omega
 ·rw[u 0 e];exact qdG _
variable (P:Pb)
def XV (s:Nat):Vec:=if s=0 then P.b else unit (s - 1)
def LV (S:Tb) (i s:Nat):Int:=det P.m (upd (basis P S) i (XV P s))
def ZV (S:Tb) (s:Nat):Int:=sumN P.m λi=>P.g (S.kept i)*LV P S i s
structure Named (S:Tb):Prop where
 one:∀ r,r<P.m->P.A (P.n+r)=unit r
 all:∀ k,k<P.n+P.m->(∃ c,c<P.n/\S.free c=k)\/∃ i,i<P.m/\S.kept i=k
 bound:(∀ c,c<P.n->S.free c<P.n+P.m)/\∀ i,i<P.m->S.kept i<P.n+P.m
def Fe (S:Tb):Prop:=∀ i,i<P.m->lexP (P.m+1) (LV P S i)
variable {P}
theorem Good.rep_free {S:Tb} (h:Good P S) {c:Nat} (C:c<=P.n) (t:Nat):S.p*colV P S c t=sumN P.m λi=>det P.m (upd (basis P S) i (colV P S c))*P.A (S.kept i) t:=by
 rw[h.eq c C t];exact sumN_congr λi hi=>by rw[h.entry C hi]
theorem det_kept {S:Tb} (h:Good P S) {i j:Nat} (hi:i<P.m) (H:j<P.m):det P.m (upd (basis P S) i (basis P S j))=if i=j then S.p else 0:=by
 by_cases e:i=j
 ·subst e;rw[upd_self,iFP U,h.dt]
 ·rw[iFN e]
  exact det_eq0 _ hi H e (by rw[upd_same,upd_ne (qbz e)])
theorem Good.rep_kept {S:Tb} (h:Good P S) {j:Nat} (H:j<P.m) (t:Nat):S.p*P.A (S.kept j) t=sumN P.m λi=>det P.m (upd (basis P S) i (P.A (S.kept j)))*P.A (S.kept i) t:=by
 rw[sumN_single H λi hi K=>?_]
 ·have:=det_kept h H H
  rw[iFP U]at this;have e:det P.m (upd _ j (P.A _))=S.p:=this;rw[e]
 ·have:=det_kept h hi H
  rw[iFN K]at this;have e:det P.m (upd _ i (P.A _))=0:=this;rw[e,qci]
theorem Good.rep {S:Tb} (h:Good P S) (hn:Named P S) {s:Nat} (F:s<P.m+1) (t:Nat):S.p*XV P s t=sumN P.m λi=>LV P S i s*P.A (S.kept i) t:=by
 unfold LV;by_cases h0:s=0
 ·subst h0
  have e:XV P 0=colV P S P.n:=by unfold XV colV;rw[iFP U,iFN (qa2 _)]
  rw[e];exact h.rep_free (qan _) t
 ·have e:XV P s=P.A (P.n+(s - 1)):=by unfold XV;rw[iFN h0,hn.one _ (by omega)]
  rw[e];rcases hn.all (P.n+(s - 1)) (by omega) with⟨c,C,D⟩|⟨j,H,D⟩
  ·have I:P.A (P.n+(s - 1))=colV P S c:=by unfold colV;rw[iFP C,D]
   rw[I];exact h.rep_free (by omega) t
  ·rw[<-D]
   exact h.rep_kept H t
theorem piv_basis {S:Tb}{r e:Nat} (o:e<P.n):basis P (piv S r e)=upd (basis P S) r (colV P S e):=by
 funext i
 unfold basis;by_cases hi:i=r
 ·rw[hi,upd_same]
  show P.A (if r=r then _ else _)=colV P S e;rw[iFP U];exact (iFP o).symm
 ·rw[upd_ne hi]
  show P.A (if i=r then _ else _)=_;rw[iFN hi]
theorem LV_r {S:Tb}{r e s:Nat} (o:e<P.n):LV P (piv S r e) r s=LV P S r s:=by
 unfold LV;rw[piv_basis o,upd_upd]
theorem LV_i {S:Tb} (h:Good P S) (hn:Named P S) {r e s i:Nat} (o:e<P.n) (F:s<P.m+1) (hi:i<P.m) (n:r<P.m) (d:i≠r):S.p*LV P (piv S r e) i s=S.T r e*LV P S i s - S.T i e*LV P S r s:=by
 unfold LV;rw[piv_basis o];exact cramer2 _ _ _ S.p h.dt (by have:=h.pos;omega) _ _ (λt=>h.eq e (by omega) t) (λt=>h.rep hn F t) hi n d
theorem ZV_piv {S:Tb} (h:Good P S) (hn:Named P S) {r e s:Nat} (o:e<P.n) (F:s<P.m+1) (n:r<P.m):S.p*ZV P (piv S r e) s=S.T r e*ZV P S s - S.G e*LV P S r s:=by
 have hE:=h.goal e (by omega);have gE:gainC P S e=P.g _:=iFP o;rw[gE,sumN_split n]at hE;unfold ZV;have kr:(piv S r e).kept r=S.free e:=iFP U;have kn:∀ i,i≠r->(piv S r e).kept i=S.kept i:=λi hi=>iFN hi;rw[sumN_split n,kr,LV_r o,qcz];have t2:S.p*(sumN P.m λk=>if k=r then 0 else P.g ((piv S r e).kept k)*LV P (piv S r e) k s)=(sumN P.m λk=>S.T r e*(if k=r then 0 else P.g (S.kept k)*LV P S k s)) - sumN P.m λk=>LV P S r s*(if k=r then 0 else P.g (S.kept k)*S.T k e):=by
  rw[<-sumN_mul,<-sumN_sub];refine sumN_congr λk D=>?_;by_cases p:k=r
  ·rw[iFP p,iFP p,iFP p];simp
  ·rw[iFN p,iFN p,iFN p,kn k p,qaN,LV_i h hn o F D n p,qdF]
   rw[qaN,qa6 (S.T k e),qaN (LV P S r s)]
 rw[t2,sumN_mul,sumN_mul,sumN_split n (λi=>P.g _*LV P S i s),hE];generalize (sumN P.m λk=>if k=r then 0 else P.g _*S.T k e)=Y;generalize LV P S r s=L;rw[qgf,qes,qcz];rw[show S.T r e*(P.g _*L)=P.g _*S.T r e*L by rw[qaN,qbr]];rw[show S.p*_=S.p*P.g _*L by rw[qbr]];rw[qa6 Y];omega
def less (P:Pb) (S S':Tb):Prop:=lexP (P.m+1) λs=>S.p*ZV P S' s - S'.p*ZV P S s
theorem less_trans {S1 S2 S3:Tb} (q:0<S1.p) (z:0<S2.p) (u:0<S3.p) (a:less P S1 S2) (b:less P S2 S3):less P S1 S3:=by
 refine lexP_unmul z (lexP_congr (λs _=>?_) (lexP_add (lexP_mul q b) (lexP_mul u a)));generalize ZV P S1 s=x;generalize ZV P S2 s=y;rw[qdF,qdF,qdF];rw[show S1.p*(S3.p*y)=S3.p*_ by rw[qaN],show S1.p*_=S2.p*_ by rw[qaN],show S3.p*(S2.p*x)=S2.p*_ by rw[qaN]];omega
theorem same_kept {S S':Tb} (h:Good P S) (h':Good P S') (e:∀ i,i<P.m->S.kept i=S'.kept i):S.p=S'.p/\∀ s,ZV P S s=ZV P S' s:=by
 have hb:∀ i,i<P.m->basis P S i=basis P S' i:=λi hi=>by unfold basis;rw[e i hi]
 have hL:∀ i s,i<P.m->LV P S i s=LV P S' i s:=λi s hi=>by
  refine det_congr P.m λk t D _=>?_;by_cases O:k=i
  ·rw[O,upd_same,upd_same]
  ·rw[upd_ne O,upd_ne O,hb k D]
 refine⟨?_,λs=>?_⟩
 ·rw[h.dt,h'.dt]
  exact det_congr P.m λk t D _=>by rw[hb k D]
 ·exact sumN_congr λi hi=>by rw[e i hi,hL i s hi]
theorem less_kept {S S':Tb} (h:Good P S) (h':Good P S') (l:less P S S'):¬ ∀ i,i<P.m->S.kept i=S'.kept i:=λe=>by
 obtain⟨G,I⟩:=same_kept h h' e;refine lexP_not0 (λs _=>?_) l;rw[G,I s];omega
theorem lines_unlike {S:Tb} (h:Good P S) (hA:∀ i,i<P.m->∀ t,P.m<=t->P.A (S.kept i) t=0) {i r:Nat} (hi:i<P.m) (n:r<P.m) (d:i≠r) {a b:Int} (ha:0<a) (F:∀ s,s<P.m+1->a*LV P S i s=b*LV P S r s):False:=by
 have V:∀ k,k<P.m->det P.m _=sumN P.m λs=>basis P S i s*LV P S k (s+1):=λk D=>by
  have e:basis P S i=λt=>sumN P.m λs=>basis P S i s*unit s t:=by
   funext t
   by_cases ht:t<P.m
   ·rw[sumN_single ht λs _ K=>by unfold unit;rw[iFN (qbz K),qbi]]
    unfold unit;rw[iFP U,qdl]
   ·rw[sumN_congr λs Q=>by unfold unit;rw[iFN (by omega),qbi],sumN_zero]
    exact hA i hi t (by omega)
  have I:=det_sum (basis P S) D (λs=>basis P S i s) unit P.m;rw[<-e]at I;rw[I];refine sumN_congr λs Q=>?_;unfold LV XV;rw[iFN (by omega),qcW]
 have X:=V i hi;have k2:=V r n;rw[det_kept h hi hi,iFP U]at X;rw[det_kept h n hi,iFN (qbz d)]at k2
 have:a*S.p=b*0:=by
  rw[X,k2,<-sumN_mul,<-sumN_mul];refine sumN_congr λs Q=>?_;rw[qaN,F _ (by omega),qaN]
 have:=qkb ha h.pos
 omega
theorem Named.piv {S:Tb} (hn:Named P S) {r e:Nat} (o:e<P.n) (n:r<P.m):Named P (piv S r e):=by
 refine⟨hn.one,λk D=>?_,λc C=>?_,λi hi=>?_⟩
 ·rcases hn.all k D with⟨c,C,G⟩|⟨i,hi,G⟩
  ·by_cases R:c=e
   ·subst R;exact .inr ⟨r,n,by show (if r=r then _ else _)=_;rw[iFP U];exact G⟩
   ·exact .inl ⟨c,C,by show (if c=e then _ else _)=_;rw[iFN R];exact G⟩
  ·by_cases d:i=r
   ·subst d;exact .inl ⟨e,o,by show (if e=e then _ else _)=_;rw[iFP U];exact G⟩
   ·exact .inr ⟨i,hi,by show (if i=r then _ else _)=_;rw[iFN d];exact G⟩
 ·show (if c=e then _ else _)<_
  split
  ·exact hn.bound.2 r n
  ·exact hn.bound.1 c C
 ·show (if i=r then _ else _)<_
  split
  ·exact hn.bound.1 e o
  ·exact hn.bound.2 i hi
theorem step {S:Tb} (h:Good P S) (hn:Named P S) (J:Fe P S) {r e:Nat} (o:e<P.n) (n:r<P.m) (hq:0<S.T r e) (hg:S.G e<0)
  (T:∀ i,i<P.m->i≠r->0<S.T i e->lexP (P.m+1) λs=>S.T r e*LV P S i s - S.T i e*LV P S r s) :
  Good P (piv S r e)/\Named P (piv S r e)/\Fe P (piv S r e)/\less P S (piv S r e):=by
 refine⟨h.piv o n hq,hn.piv o n,λi hi=>?_,?_⟩
 ·by_cases d:i=r
  ·subst d
   exact lexP_congr (λs _=>(LV_r o).symm) (J i hi)
  ·refine lexP_unmul h.pos (lexP_congr (λs F=>(LV_i h hn o F hi n d).symm) ?_)
   by_cases ht:0<S.T i e
   ·exact T i hi d ht
   ·refine lexP_congr (λs _=>?_) (lexP_addn (c:=- S.T i e) (by omega) (lexP_mul hq (J i hi)) (J r n))
    rw[qdE];omega
 ·refine lexP_congr (λs F=>?_) (lexP_mul (c:=- S.G e) (by omega) (J r n))
  show - S.G e*LV P S r s=S.p*ZV P _ s - S.T r e*ZV P S s;rw[ZV_piv h hn o F n,qdE];omega
theorem filt_len (N:Nat):∀ l:List Nat,(l.filter λx=>decide (x=N)).length+(l.filter λx=>decide (x≠N)).length=l.length
 |[]=>rfl
 |x::l=>by
  have ih:=filt_len N l;by_cases h:x=N
  ·rw[qem (by simpa using h),qen (by simpa using h),qap,qap];omega
  ·rw[qen (by simpa using h),qem (by simpa using h),qap,qap];omega
theorem nodup_le:∀ (N:Nat) (l:List Nat),l.Nodup->(∀ x∈l,x<N)->l.length<=N:=by
 intro N
 induction N with
 |zero=>
  intro l _ h;cases l with
  |nil=>exact qan _
  |cons x l=>exact absurd (h x qag) (by omega)
 |succ N ih=>
  intro l A h;have q:=ih (l.filter λx=>decide (x≠N)) (A.filter _) λx hx=>by
   have:=qcb.mp hx
   have z:=h x this.1;have u:=by simpa using this.2
   omega
  have z:(l.filter λx=>decide (x=N)).length<=1:=by
   have hn:=A.filter λx=>decide (x=N);have B:∀ x∈l.filter (λx=>decide (x=N)),x=N:=λx hx=>by simpa using (qcb.mp hx).2
   match l.filter _,hn,B with
   |[],_,_=>exact qby _
   |[x],_,_=>exact qan _
   |x::y::r,hn,B=>
    exact absurd ((B x qag).trans (B y (qaj _ qag)).symm) ((qa4.mp hn).1 y qag)
  have u:=filt_len N l;omega
def code (b:Nat) (f:Nat->Nat):Nat->Nat
 |0=>0
 |m+1=>code b f m*b+f m
theorem code_lt {b:Nat}{f:Nat->Nat}:∀ {m:Nat},(∀ i,i<m->f i<b)->code b f m<b^m
 |0,_=>Nat.one_pos
 |m+1,h=>by
  have q:=h m (by omega)
  calc code b f m*b+f m<code b f m*b+b:=by omega
   _=(code b f m+1)*b:=by rw[qj8,qj6]
   _<=b^m*b:=qcq b (code_lt λi hi=>h i (by omega))
theorem code_inj {b:Nat}{f g:Nat->Nat}:∀ {m:Nat},(∀ i,i<m->f i<b)->(∀ i,i<m->g i<b)->code b f m=code b g m->∀ i,i<m->f i=g i
 |0,_,_,_,i,hi=>absurd hi (by omega)
 |m+1,J,hg,e,i,hi=>by
  rw[code,code]at e;have z:=hg m (by omega);have G:=by
   have:=congrArg (·%b) e
   simp only[Nat.mul_add_mod_self_right]at this;rw[qh5 (J m (by omega)),qh5 z]at this;exact this
  have I:code b f m=code b g m:=by
   exact Nat.eq_of_mul_eq_mul_right (by omega:0<b) (by omega)
  by_cases him:i=m
  ·rw[him];exact G
  ·exact code_inj (λi hi=>J i (by omega)) (λi hi=>hg i (by omega)) I i (by omega)
def leastR (tops bots:Nat->Int):List Nat->List Nat->List Nat
 |[],least=>least
 |p::ps,[]=>leastR tops bots ps [p]
 |p::ps,m::r=>if tops p*bots m > tops m*bots p then leastR tops bots ps (m::r) else if tops p*bots m<tops m*bots p then leastR tops bots ps [p] else leastR tops bots ps ((m::r)++[p])
structure Least (tops bots:Nat->Int) (ps out:List Nat):Prop where
 ne:ps≠[]->out≠[]
 sub:∀ x∈out,x∈ps
 nd:ps.Nodup->out.Nodup
 eq:∀ x∈out,∀ y∈out,tops x*bots y=tops y*bots x
 lt:∀ x∈out,∀ y∈ps,y∉out->tops x*bots y<tops y*bots x
theorem ratio_lt {a b c p q r:Int} (hp:0<p) (hq:0<q) (Q:0<r) (z:a*q<b*p) (E:b*r<=c*q):a*r<c*p:=by
 have A:=qdV z Q;have e2:b*r*p<=c*q*p:=qbT E (by omega);rw[qbl b p r]at A;have X:a*r*q<c*p*q:=by rw[qbl a r q,qbl c p q];omega
 exact qd1 X (by omega)
theorem leastR_ok {tops bots:Nat->Int}:∀ (ps done least:List Nat),(∀ x∈done++ps,0<bots x)->(done++ps).Nodup->Least tops bots done least->Least tops bots (done++ps) (leastR tops bots ps least):=by
 intro ps
 induction ps with
 |nil=>intro done least _ _ h;rw[qcv];cases least<;>exact h
 |cons p ps B=>
  intro done least hb n h;have hp:=hb p (qaw _ qag);have hpd:=λhm=>by
   rw[qcJ]at n;exact n.2.2 p hm p qag U
  have e:done++p::ps=(done++[p])++ps:=by simp
  have I:=(qcJ.mp n).1;rw[e]at hb n ⊢;cases least with
  |nil=>
   have hd:done=[]:=by
    cases done with
    |nil=>rfl
    |cons x d=>exact absurd U (h.ne (by simp))
   subst hd;refine B _ _ hb n ⟨λ_=>by simp,λx f=>by simpa using f,λ_=>by simp,λx f y g=>?_,λx f y g hn=>absurd (by simpa using g) (by simpa using hn)⟩;rw[qal.mp f,qal.mp g]
  |cons m r=>
   have u:m∈m::r:=qag;have V:=hb m (qa0 _ (qa0 _ (h.sub m u)));have K:=λy g=>hb y (qa0 _ (qa0 _ g));rw[leastR];by_cases c1:tops p*bots m > tops m*bots p
   ·rw[iFP c1]
    refine B _ _ hb n ⟨λ_=>by simp,λx f=>qa0 _ (h.sub x f),λ_=>h.nd I,h.eq,λx f y g hn=>?_⟩;rcases qaK.mp g with g|g
    ·exact h.lt x f y g hn
    ·rw[qal.mp g]
     exact Int.lt_of_lt_of_le (by
      have A:tops x*bots m*bots p=tops m*bots p*bots x:=by rw[<-(h.eq m u x f),qbl]
      have X:tops x*bots p*bots m<tops p*bots x*bots m:=by rw[qbl,A,qbl (tops p)];exact (qdV c1 (K x (h.sub x f)))
      exact qd1 X (by omega)) (qdG _)
   ·rw[iFN c1]
    by_cases c2:tops p*bots m<tops m*bots p
    ·rw[iFP c2]
     refine B _ _ hb n ⟨λ_=>by simp,λx f=>by rw[qal.mp f];simp,λ_=>by simp,λx f y g=>by rw[qal.mp f,qal.mp g],λx f y g hn=>?_⟩;rw[qal.mp f];rcases qaK.mp g with g|g
     ·have hle:tops m*bots y<=tops y*bots m:=by
       by_cases hm:y∈m::r
       ·exact Int.le_of_eq (h.eq m u y hm)
       ·exact qfN (h.lt m u y g hm)
      exact ratio_lt hp V (K y g) c2 hle
     ·exact absurd (by simpa using g) (by simpa using hn)
    ·rw[iFN c2]
     have H:tops p*bots m=tops m*bots p:=by omega
     have G:=λx f=>by
      have A:tops p*bots x*bots m=tops x*bots p*bots m:=by
       rw[qbl,H,qbl,(h.eq m u x f),qbl]
      exact qd3 (by omega) A
     refine B _ _ hb n ⟨λ_=>by simp,λx f=>?_,λ_=>?_,λx f y g=>?_,λx f y g hn=>?_⟩
     ·rcases qaK.mp f with f|f
      ·exact qa0 _ (h.sub x f)
      ·exact qaw _ f
     ·rw[qcJ]
      refine⟨h.nd I,by simp,λx f y g e=>?_⟩;rw[qal.mp g]at e;rw[e]at f;exact hpd (h.sub p f)
     ·rcases qaK.mp f with f|f<;>rcases qaK.mp g with g|g
      ·exact h.eq x f y g
      ·rw[qal.mp g];exact (G x f).symm
      ·rw[qal.mp f];exact G y g
      ·rw[qal.mp f,qal.mp g]
     ·have O:y∈done:=by
       rcases qaK.mp g with g|g
       ·exact g
       ·exact absurd (qaw _ g) hn
      have J:=λhm=>hn (qa0 _ hm);rcases qaK.mp f with f|f
      ·exact h.lt x f y O J
      ·rw[qal.mp f]
       have A:tops p*bots y*bots m<tops y*bots p*bots m:=by
        rw[qbl,H,qbl _,qbl (tops y)];exact qdV (h.lt m u y O J) hp
       exact qd1 A (by omega)
theorem least_of {tops bots:Nat->Int}{ps:List Nat} (hb:∀ x∈ps,0<bots x) (n:ps.Nodup):Least tops bots ps (leastR tops bots ps []):=by
 simpa using (leastR_ok ps [] [] (by simpa using hb) (by simpa using n) ⟨λh=>absurd U h,λx f=>(nomatch f),λ_=>qcS,λx f=>(nomatch f),λx f=>(nomatch f)⟩)
def leaveL (W:Nat->Nat->Int) (bots:Nat->Int):List Nat->List Nat->List Nat
 |[],ps=>ps
 |s::ss,ps=>if ps.length<2 then ps else leaveL W bots ss (leastR (W s) bots ps [])
structure Lv (W:Nat->Nat->Int) (bots:Nat->Int) (C:List Nat) (s:Nat) (ps:List Nat):Prop where
 ne:ps≠[]
 nd:ps.Nodup
 sub:∀ x∈ps,x∈C
 eq:∀ x∈ps,∀ y∈ps,∀ l,l<s->bots x*W l y - bots y*W l x=0
 lt:∀ x∈ps,∀ y∈C,y∉ps->lexP s λl=>bots x*W l y - bots y*W l x
theorem lexP_mono {M N:Nat}{v:Nat->Int} (h:M<=N) (hv:lexP M v):lexP N v:=let ⟨j,z,E,o⟩:=hv;⟨j,by omega,E,o⟩
theorem Lv.step {W:Nat->Nat->Int}{bots:Nat->Int}{C ps:List Nat}{s:Nat} (hb:∀ x∈C,0<bots x) (h:Lv W bots C s ps):Lv W bots C (s+1) (leastR (W s) bots ps []):=by
 have L:=least_of (tops:=W s) (λx f=>hb x (h.sub x f)) h.nd;refine⟨L.ne h.ne,L.nd h.nd,λx f=>h.sub x (L.sub x f),λx f y g l w=>?_,λx f y g hn=>?_⟩
 ·rcases qfG l s with z|z
  ·exact h.eq x (L.sub x f) y (L.sub y g) l z
  ·have:l=s:=by omega
   subst this
   have:=L.eq y g x f
   rw[qa6 _,qa6 (bots y)];omega
 ·by_cases hm:y∈ps
  ·have w:=L.lt x f y hm hn
   refine⟨s,by omega,?_,λl hl'=>h.eq x (L.sub x f) y hm l hl'⟩;show 0<bots x*W s y - bots y*W s x;rw[qa6 _,qa6 (bots y)];omega
  ·exact lexP_mono (by omega) (h.lt x (L.sub x f) y g hm)
theorem leaveL_ok {W:Nat->Nat->Int}{bots:Nat->Int}{C:List Nat} (hb:∀ x∈C,0<bots x):∀ (k s:Nat) (ps:List Nat),Lv W bots C s ps->∃ s',s<=s'/\s'<=s+k/\Lv W bots C s' (leaveL W bots ((qam k).map λj=>s+j) ps)/\(s'<s+k->(leaveL W bots ((qam k).map λj=>s+j) ps).length<2):=by
 intro k
 induction k with
 |zero=>intro s ps h;exact⟨s,qan _,qan _,h,λh=>absurd h (by omega)⟩
 |succ k B=>
  intro s ps h;have e:(qam (k+1)).map (λj=>s+j)=s::(qam k).map λj=>(s+1)+j:=by
   rw[qdy,qas,qaG]
   congr 1
   refine qbw λj _=>?_;show s+_=_;omega
  rw[e,leaveL];by_cases w:ps.length<2
  ·rw[iFP w]
   exact⟨s,qan _,by omega,h,λ_=>w⟩
  ·rw[iFN w]
   obtain⟨s',z,E,o,R⟩:=B _ _ (h.step hb);exact⟨s',by omega,by omega,o,λh=>R (by omega)⟩
variable {P:Pb}
theorem leaving_ok {S:Tb} (h:Good P S) (hA:∀ i,i<P.m->∀ t,P.m<=t->P.A (S.kept i) t=0) {e:Nat}{C:List Nat} (D:∀ i,i∈C↔i<P.m/\0<S.T i e) (hn:C.Nodup) (T:C≠[]) :
  ∃ r,leaveL (λs i=>LV P S i s) (λi=>S.T i e) ((qam (P.m+1)).map λj=>0+j) C=[r]/\r<P.m/\0<S.T r e/\∀ i,i<P.m->i≠r->0<S.T i e->lexP (P.m+1) λs=>S.T r e*LV P S i s - S.T i e*LV P S r s:=by
 obtain⟨s',z,E,o,R⟩:=leaveL_ok (λx f=>((D x).mp f).2) _ 0 C ⟨T,hn,λx f=>f,λx _ y _ l w=>absurd w (by omega),λx _ y g hm=>absurd g hm⟩;generalize leaveL _ _ _ C=out at o R;have F:out.length<2:=by
  rcases qfG out.length 2 with w|w
  ·exact w
  ·exfalso
   match out,w,o with
   |x::y::r,_,o=>
    have f:=(D x).mp (o.sub x qag)
    refine lines_unlike h hA ((D y).mp (o.sub y (qaj _ qag))).1 f.1 (qbz (λe=>by
     have:=(qa4.mp o.nd).1 y qag
     exact this e)) (b:=S.T y e) f.2 λs hs'=>?_
    have:=o.eq x qag y (qaj _ qag) s (by omega)
    omega
 match out,F,o with
 |[],_,o=>exact absurd U o.ne
 |[r],_,o=>
  have Q:=(D r).mp (o.sub r qag);refine⟨r,U,Q.1,Q.2,λi hi Y hT=>?_⟩;exact lexP_mono (by omega) (o.lt r qag i ((D i).mpr ⟨hi,hT⟩) (by simpa using Y))
variable {P:Pb}
theorem sumN_swap (n m:Nat) (f:Nat->Nat->Int):(sumN n λi=>sumN m λk=>f i k)=sumN m λk=>sumN n λi=>f i k:=by
 induction n with
 |zero=>exact (sumN_zero m).symm
 |succ n K=>
  rw[sumN,K];rw[<-sumN_add];rfl
theorem sumN_nonneg {n:Nat}{f:Nat->Int} (h:∀ k,k<n->0<=f k):0<=sumN n f:=by
 induction n with
 |zero=>exact qdG _
 |succ n K=>rw[sumN];have:=K λk p=>h k (by omega);have:=h n (by omega);omega
theorem sumN_append (a b:Nat) (f:Nat->Int):sumN (a+b) f=sumN a f+sumN b λk=>f (a+k):=by
 induction b with
 |zero=>rw[sumN];simp
 |succ b K=>rw[<-Nat.add_assoc,sumN,sumN];omega
theorem sumN_right (n:Nat) (c:Int) (f:Nat->Int):sumN n (λk=>f k*c)=sumN n f*c:=by
 rw[qa6,<-sumN_mul];exact sumN_congr λk _=>qa6 _ _
def byName (P:Pb) (S:Tb) (y:Nat->Int) (k:Nat):Int:=sumN P.m λi=>if S.kept i=k then y i else 0
theorem byName_sum (S:Tb) (y:Nat->Int) {N:Nat} (hN:∀ i,i<P.m->S.kept i<N) (f:Nat->Int):(sumN N λk=>byName P S y k*f k)=sumN P.m λi=>y i*f (S.kept i):=by
 have e:(sumN N λk=>byName P S y k*f k)=sumN N λk=>sumN P.m λi=>_*f k:=sumN_congr λk _=>(sumN_right _ _ _).symm;rw[e,sumN_swap];refine sumN_congr λi hi=>?_;rw[sumN_single (hN i hi) λk _ d=>by rw[iFN (qbz d),qci],iFP U]
theorem byName_nonneg {S:Tb}{y:Nat->Int} (h:∀ i,i<P.m->0<=y i) (k:Nat):0<=byName P S y k:=sumN_nonneg λi hi=>by split;exact h i hi;exact qdG _
theorem byName_at {S:Tb}{y:Nat->Int} (F:∀ i j,i<P.m->j<P.m->S.kept i=S.kept j->i=j) {i:Nat} (hi:i<P.m):byName P S y (S.kept i)=y i:=by
 unfold byName;rw[sumN_single hi λj C d=>iFN λe=>d (F j i C hi e),iFP U]
theorem byName_not {S:Tb}{y:Nat->Int}{k:Nat} (h:∀ i,i<P.m->S.kept i≠k):byName P S y k=0:=by
 unfold byName;rw[sumN_congr λi hi=>iFN (h i hi),sumN_zero]
theorem unit_sum {m:Nat}{v:Vec}{r:Nat} (u:r<m):(sumN m λk=>v k*unit k r)=v r:=by
 rw[sumN_single u λk _ d=>by unfold unit;rw[iFN (qbz d),qbi]];unfold unit;rw[iFP U,qdl]
theorem amounts_ok {S:Tb} (h:Good P S) (hn:Named P S) (R:∀ i,i<P.m->0<=S.T i P.n) {r:Nat} (u:r<P.m):(sumN P.n λj=>byName P S (λi=>S.T i P.n) j*P.A j r)<=S.p*P.b r:=by
 have A:=h.eq P.n (qan _) r;have c1:colV P S P.n=P.b:=by unfold colV;rw[iFN (qa2 _)]
 rw[c1]at A;have o:=byName_sum S (λi=>S.T i P.n) hn.bound.2 λk=>P.A k r;rw[sumN_append]at o;have e3:(sumN P.m λk=>byName P S (λi=>S.T i P.n) (P.n+k)*P.A (P.n+k) r)=byName P S (λi=>S.T i P.n) (P.n+r):=by
  rw[sumN_congr λk p=>by rw[hn.one k p]];exact unit_sum u
 have e4:=byName_nonneg (S:=S) R (P.n+r);omega
theorem gains_amounts {S:Tb} (h:Good P S) (hn:Named P S) (hg:∀ r,r<P.m->P.g (P.n+r)=0):(sumN P.n λj=>byName P S (λi=>S.T i P.n) j*P.g j)=S.G P.n:=by
 have o:=byName_sum S (λi=>S.T i P.n) hn.bound.2 P.g;rw[sumN_append,sumN_congr (n:=P.m) λk p=>by rw[hg k p,qbi],sumN_zero,qeR]at o;rw[o,h.goal P.n (qan _)]
 have:gainC P S P.n=0:=by unfold gainC;rw[iFN (qa2 _)]
 rw[this,qbi,qfL];exact sumN_congr λi _=>qa6 _ _
theorem det_by_units {S:Tb}{v:Vec} (V:∀ t,P.m<=t->v t=0) {i:Nat} (hi:i<P.m):det P.m (upd (basis P S) i v)=sumN P.m λs=>v s*LV P S i (s+1):=by
 have e:=by
  funext t
  by_cases x:t<P.m
  ·exact (unit_sum (v:=v) x).symm
  ·rw[sumN_congr λs M=>by unfold unit;rw[iFN (by omega),qbi],sumN_zero]
   exact V t (by omega)
 have o:=det_sum (basis P S) hi (λs=>v s) unit P.m;rw[<-e]at o;rw[o];refine sumN_congr λs M=>?_;unfold LV XV;rw[iFN (by omega),qcW]
theorem prices_col {S:Tb}{v:Vec} (V:∀ t,P.m<=t->v t=0):(sumN P.m λr=>v r*ZV P S (r+1))=sumN P.m λi=>P.g (S.kept i)*det P.m (upd (basis P S) i v):=by
 have e:(sumN P.m λr=>v r*ZV P S (r+1))=sumN P.m λr=>sumN P.m λi=>P.g _*_:=sumN_congr λr _=>by
  unfold ZV;rw[<-sumN_mul];exact sumN_congr λi _=>by rw[qaN]
 rw[e,sumN_swap];refine sumN_congr λi hi=>?_;rw[sumN_mul,det_by_units V hi]
theorem prices_ok {S:Tb} (h:Good P S) (hn:Named P S) (hA:∀ k,k<P.n+P.m->∀ t,P.m<=t->P.A k t=0) (J:∀ c,c<P.n->0<=S.G c) {j:Nat} (C:j<P.n):S.p*P.g j<=sumN P.m λr=>P.A j r*ZV P S (r+1):=by
 rw[prices_col (hA j (by omega))];rcases hn.all j (by omega) with⟨c,w,e⟩|⟨i,hi,e⟩
 ·have A:=h.goal c (by omega)
  have E:gainC P S c=P.g j:=by unfold gainC;rw[iFP w,e]
  have c1:colV P S c=P.A j:=by unfold colV;rw[iFP w,e]
  rw[E]at A;rw[(sumN_congr λi hi=>by rw[<-c1,<-h.entry (by omega) hi])]
  have:=J c w
  omega
 ·rw[sumN_single hi λk p d=>?_]
  ·have:=det_kept h hi hi
   rw[iFP U]at this;have o:det P.m (upd (basis P S) i (P.A j))=S.p:=by rw[<-e];exact this
   rw[o,e,qa6];exact qdG _
  ·have:=det_kept h p hi
   rw[iFN d]at this;have o:det P.m (upd (basis P S) k (P.A j))=0:=by rw[<-e];exact this
   rw[o,qbi]
theorem bounds_prices {S:Tb} (h:Good P S) (hb:∀ t,P.m<=t->P.b t=0):(sumN P.m λr=>P.b r*ZV P S (r+1))=S.G P.n:=by
 have c1:colV P S P.n=P.b:=by unfold colV;rw[iFN (qa2 _)]
 have:gainC P S P.n=0:=by unfold gainC;rw[iFN (qa2 _)]
 rw[prices_col hb,h.goal P.n (qan _),this,qbi,qfL];exact sumN_congr λi hi=>by rw[h.entry (qan _) hi,c1]
theorem price_free {S:Tb} (h:Good P S) (hn:Named P S) (hg:∀ r,r<P.m->P.g (P.n+r)=0) {r c:Nat} (u:r<P.m) (w:c<P.n) (e:S.free c=P.n+r):ZV P S (r+1)=S.G c:=by
 have E:gainC P S c=0:=by unfold gainC;rw[iFP w,e,hg r u]
 have c1:colV P S c=unit r:=by unfold colV;rw[iFP w,e,hn.one r u]
 rw[h.goal c (by omega),E,qbi,qfL];refine sumN_congr λi hi=>?_;rw[h.entry (by omega) hi,c1];unfold LV XV;rw[iFN (by omega),qcW]
theorem price_kept {S:Tb} (h:Good P S) (hn:Named P S) (hg:∀ r,r<P.m->P.g (P.n+r)=0) {r j:Nat} (u:r<P.m) (C:j<P.m) (e:S.kept j=P.n+r):ZV P S (r+1)=0:=by
 unfold ZV;rw[sumN_single C λk p d=>?_]
 ·rw[e,hg r u,qci]
 ·have:=det_kept h p C
  rw[iFN d]at this;have o:LV P S k (r+1)=0:=by
   unfold LV XV;rw[qcW,<-hn.one r u,<-e];exact this
  rw[o,qbi]
def wayN (P:Pb) (S:Tb) (e k:Nat):Int:=byName P S (λi=>- S.T i e) k+if S.free e=k then S.p else 0
theorem way_sum {S:Tb} (hn:Named P S) {e:Nat} (B:e<P.n) (f:Nat->Int):(sumN (P.n+P.m) λk=>wayN P S e k*f k)=S.p*f (S.free e) - sumN P.m λi=>S.T i e*f (S.kept i):=by
 have o:(sumN (P.n+P.m) λk=>(if S.free e=k then S.p else 0)*f k)=S.p*f (S.free e):=by
  rw[sumN_single (hn.bound.1 e B) λk _ d=>by rw[iFN (qbz d),qci],iFP U]
 rw[(sumN_congr λk _=>by unfold wayN;rw[qes]),sumN_add,(byName_sum S _ hn.bound.2 f)];have e4:(sumN P.m λi=>- S.T i e*f (S.kept i))=- sumN P.m λi=>S.T i e*f (S.kept i):=by
  have:(sumN P.m λi=>- S.T i e*f (S.kept i))=sumN P.m λi=>(-1)*_:=sumN_congr λi _=>by rw[qdE,qdE,qcy]
  rw[this,sumN_mul];omega
 omega
theorem way_nonneg {S:Tb} (h:Good P S) {e:Nat} (x:∀ i,i<P.m->S.T i e<=0) (k:Nat):0<=wayN P S e k:=by
 unfold wayN
 have:=byName_nonneg (S:=S) (λi hi=>by have:=x i hi;show 0<=- S.T i e;omega) k
 have:=h.pos
 split<;>omega
theorem way_rows {S:Tb} (h:Good P S) (hn:Named P S) {e:Nat} (B:e<P.n) (x:∀ i,i<P.m->S.T i e<=0) {r:Nat} (u:r<P.m):(sumN P.n λk=>wayN P S e k*P.A k r)<=0:=by
 have A:=way_sum hn B λk=>P.A k r;have o:=h.eq e (by omega) r;have c1:colV P S e=P.A (S.free e):=by unfold colV;rw[iFP B]
 rw[c1]at o;rw[sumN_append]at A;have e3:(sumN P.m λk=>wayN P S e (P.n+k)*P.A (P.n+k) r)=wayN P S e (P.n+r):=by
  rw[sumN_congr λk p=>by rw[hn.one k p]];exact unit_sum u
 have:=way_nonneg h x (P.n+r)
 omega
theorem way_gains {S:Tb} (h:Good P S) (hn:Named P S) (hg:∀ r,r<P.m->P.g (P.n+r)=0) {e:Nat} (B:e<P.n) (J:S.G e<0):0<sumN P.n λk=>wayN P S e k*P.g k:=by
 have A:=way_sum hn B P.g;rw[sumN_append,sumN_congr (n:=P.m) λk p=>by rw[hg k p,qbi],sumN_zero,qeR]at A;have o:=h.goal e (by omega);have E:gainC P S e=P.g (S.free e):=by unfold gainC;rw[iFP B]
 rw[E]at o;rw[A,(sumN_congr λi _=>qa6 _ _)];omega
def tb0 (P:Pb) (T:Nat->Nat->Int) (G:Nat->Int):Tb:=⟨1,λi=>P.n+i,λc=>c,T,G⟩
theorem good0 {T:Nat->Nat->Int}{G:Nat->Int} (L:∀ r,r<P.m->P.A (P.n+r)=unit r) (hA:∀ k,k<P.n->∀ t,P.m<=t->P.A k t=0) (hb:∀ t,P.m<=t->P.b t=0) (hg:∀ r,r<P.m->P.g (P.n+r)=0)
  (R:∀ i c,i<P.m->c<P.n->T i c=P.A c i) (hL:∀ i,i<P.m->T i P.n=P.b i) (J:∀ c,c<P.n->G c=- P.g c) (O:G P.n=0):Good P (tb0 P T G)/\Named P (tb0 P T G)/\((∀ t,t<P.m->0<=P.b t)->Fe P (tb0 P T G)):=by
 have z:∀ i,i<P.m->basis P (tb0 P T G) i=unit i:=λi hi=>L i hi;have H:det P.m (basis P (tb0 P T G))=1:=by
  rw[det_congr P.m λk t p _=>by rw[z k p],det_unit]
 have Q:∀ c,c<=P.n->∀ t,_*colV P (tb0 P T G) c t=sumN P.m λi=>T i c*P.A _ t:=λc w t=>by
  rw[qcy,sumN_congr λi hi=>by rw[L i hi]];have D:∀ t',P.m<=t'->colV P (tb0 P T G) c t'=0:=λt' I=>by
   unfold colV;by_cases g:c<P.n
   ·rw[iFP g];exact hA c g t' I
   ·rw[iFN g];exact hb t' I
  by_cases x:t<P.m
  ·rw[unit_sum x]
   unfold colV;by_cases g:c<P.n
   ·rw[iFP g,R t c x g];rfl
   ·have:c=P.n:=by omega
    subst this;rw[iFN g,hL t x]
  ·rw[D t (by omega),sumN_congr λi hi=>by unfold unit;rw[iFN (by omega),qbi],sumN_zero]
 have q:Good P (tb0 P T G):=by
  refine⟨by show _<1;decide,H.symm,Q,λc w=>?_⟩;show G c=(sumN P.m λi=>P.g (P.n+i)*T i c) - 1*gainC P _ c;rw[sumN_congr λi hi=>by rw[hg i hi,qci],sumN_zero];unfold gainC;by_cases g:c<P.n
  ·rw[iFP g,J c g]
   show - P.g c=0 - 1*P.g c;omega
  ·have:c=P.n:=by omega
   subst this;rw[iFN g,O];rfl
 refine⟨q,⟨L,λk p=>?_,λc w=>by show c<_;omega,λi hi=>by show P.n+i<_;omega⟩,λY i hi=>?_⟩
 ·by_cases X:k<P.n
  ·exact .inl ⟨k,X,U⟩
  ·exact .inr ⟨k - P.n,by omega,by show P.n+_=k;omega⟩
 ·have l0:LV P (tb0 P T G) i 0=P.b i:=by
   have e:=q.entry (qan _) hi;have c1:colV P (tb0 P T G) P.n=P.b:=by unfold colV;rw[iFN (qa2 _)]
   rw[c1]at e;unfold LV XV;rw[iFP U,<-e];exact hL i hi
  have ls:∀ s,s<P.m->LV P _ i _=if i=s then 1 else 0:=λs hs=>by
   have:=det_kept q hi hs
   unfold LV XV;rw[qcW,<-z s hs];exact this
  rcases qd6 (Y i hi) with W|W
  ·exact⟨0,by omega,by rw[l0];exact W,λl hl=>absurd hl (by omega)⟩
  ·refine⟨i+1,by omega,by rw[ls i hi,iFP U];decide,λl hl=>?_⟩
   cases l with
   |zero=>rw[l0,<-W]
   |succ l=>rw[ls l (by omega),iFN (by omega)]
end Sx
set_option maxHeartbeats 1000000
namespace Own
open PySem L2
open Sx (Pb Tb Good Named Fe LV ZV piv lexP leastR leaveL sumN unit colV basis)
theorem gO {e:Ef}{z:Int}{m:Nat}{env:Ev}{st s:Sto} (c:e env st=some (.d (.int z),s)) (a:0<=z) (f:z<=1000) (hm:z.toNat=m):bV (aa e ae) env st=some (bX 0 m,s):=by
 have hb:-(2^62)<=z/\z<2^62:=⟨qfM (by decide) a,Int.lt_of_le_of_lt f (by decide)⟩;simp only[bV,(ac (b:=ae) c U),qaa,hb,and_self,if_true,hm]
theorem aT {f:Ef}{env:Ev}{st s:Sto}{ds:List D} (h:f env st=some (.d (.lst ds),s)):aB f env st=some (ds,s):=by
 simp only[aB,h,qaa,dL,qak]
theorem be {f:Ef}{env:Ev}{st s:Sto}{ds:List D} (h:f env st=some (.d (.tup ds),s)):aB f env st=some (ds,s):=by
 simp only[aB,h,qaa,dL,qak]
theorem rS {c:Tf}{a b:Ef}{env:Ev}{st s:Sto}{r:Option (W×Sto)} (h:c env st=some (true,s)) (d:a env s=r):j5 c a b env st=r:=by
 simp only[j5,h,qaa,if_true,d]
theorem vH {c:Tf}{a b:Ef}{env:Ev}{st s:Sto}{r:Option (W×Sto)} (h:c env st=some (false,s)) (hb:b env s=r):j5 c a b env st=r:=by
 simp only[j5,h,qaa,qbk,if_false,hb]
theorem xy (s:Sto) (ns:List Int):oV s [.d (.lst (ns.map D.int))]=some (.int ns.sum):=by
 show (bb _).map _=_;rw[br];rfl
theorem C2 (s:Sto) {a b:Int} (h:0<=b):Ba s (.d (.int a)) (.d (.int b))=some (.int (a / 2^b.toNat)):=iFP h
theorem dw (s:Sto) (a b:Int):dEq s (.d (.int a)) (.d (.int b))=some (.bl (a==b)):=by
 rfl
theorem zb (s:Sto) (a b:Str):dEq s (.d (.str a)) (.d (.str b))=some (.bl (a==b)):=by
 rfl
theorem fM (s:Sto) {a b:List D} (h:a.length+b.length<=1000000):bg s (.d (.lst a)) (.d (.lst b))=some (.lst (a++b)):=iFP h
theorem mS (s:Sto) {a b:List D} (h:a.length+b.length<=1000000):bg s (.d (.tup a)) (.d (.tup b))=some (.tup (a++b)):=iFP h
def mpI (n:Nat) (f:Nat->Int):List D:=(qam n).map λk=>D.int (f k)
def lnD (n:Nat) (T:Nat->Nat->Int) (i:Nat):D:=.lst (mpI (n+1) (T i))
def aX (m n:Nat) (T:Nat->Nat->Int):List D:=(qam m).map (lnD n T)
def nI (f:Nat->Nat):Nat->Int:=λk=>((f k:Nat):Int)
abbrev obN:List Str:=["amounts","lines","goal","part","free","kept"]
def obD (P:Pb) (S:Tb):D:=.ob obN [.int (P.n:Int),.lst (aX P.m P.n S.T),.lst (mpI (P.n+1) S.G),.int S.p,.lst (mpI P.n (nI S.free)),.lst (mpI P.m (nI S.kept))]
theorem aH (n:Nat) (f:Nat->Int):(mpI n f).length=n:=by unfold mpI;rw[qaf,qav]
theorem cK (m n:Nat) (T:Nat->Nat->Int):(aX m n T).length=m:=by unfold aX;rw[qaf,qav]
theorem bF {n:Nat}{f:Nat->Int}{k:Nat} (h:k<n):(mpI n f)[k]?=some (.int (f k)):=by
 unfold mpI;rw[qaF,qbL h];rfl
theorem n8 {m n:Nat}{T:Nat->Nat->Int}{k:Nat} (h:k<m):(aX m n T)[k]?=some (lnD n T k):=by
 unfold aX;rw[qaF,qbL h];rfl
theorem bG {n:Nat}{f g:Nat->Int} (h:∀ k,k<n->f k=g k):mpI n f=mpI n g:=by
 refine qbw λk a=>?_;rw[h k (qaD.mp a)]
theorem c9 (n:Nat) (f:Nat->Int):mpI (n+1) f=mpI n f++[.int (f n)]:=by
 unfold mpI;rw[qdR,qbJ];rfl
theorem bR (n:Nat) (f:Nat->Int):mpI n f=((qam n).map f).map D.int:=by rw[qaG];rfl
theorem uk (n:Nat) (f:Nat->Int):(mpI n f).all cf=true:=by
 rw[qaW];intro d hd;obtain⟨k,_,rfl⟩:=qaz.mp hd;rfl
theorem gK {n:Nat}{f:Nat->Int}{k:Nat}{x:Int}:(mpI n f).set k (.int x)=mpI n λj=>if j=k then x else f j:=by
 apply qbX;intro j;by_cases a:j<n
 ·rw[bF a]
  by_cases e:j=k
  ·subst e;rw[iFP U,qbm (by rw[aH];exact a)]
  ·rw[iFN e,qbE (qbz e),bF a]
 ·rw[qaQ (by rw[qcd,aH];lia),qaQ (by rw[aH];lia)]
theorem eI (st:Sto) {n:Nat}{f:Nat->Int}{k:Nat} (h:k<n):dIx st (.d (.lst (mpI n f))) (.d (.int (k:Int)))=some (.int (f k)):=bZ (bF h)
theorem tY (st:Sto) {m n:Nat}{T:Nat->Nat->Int}{k:Nat} (h:k<m):dIx st (.d (.lst (aX m n T))) (.d (.int (k:Int)))=some (lnD n T k):=bZ (n8 h)
theorem tX (st:Sto) {n:Nat}{T:Nat->Nat->Int}{i c:Nat} (h:c<=n):dIx st (.d (lnD n T i)) (.d (.int (c:Int)))=some (.int (T i c)):=eI st (by lia)
theorem wH (st:Sto) {n:Nat}{T:Nat->Nat->Int}{i:Nat}:dIx st (.d (lnD n T i)) (.d (.int (-1)))=some (.int (T i n)):=by
 show atI _ _=_;rw[c9];exact sD _ _
section
variable {P:Pb}{S:Tb}{a:Ef}{env:Ev}{st s:Sto}
theorem cc (h:a env st=some (.d (obD P S),s)):aA "amounts" a env st=some (.d (.int (P.n:Int)),s):=by simp only[aA,h,qaa,obD];rfl
theorem cQ (h:a env st=some (.d (obD P S),s)):aA "lines" a env st=some (.d (.lst (aX P.m P.n S.T)),s):=by simp only[aA,h,qaa,obD];rfl
theorem l8 (h:a env st=some (.d (obD P S),s)):aA "goal" a env st=some (.d (.lst (mpI (P.n+1) S.G)),s):=by simp only[aA,h,qaa,obD];rfl
theorem l9 (h:a env st=some (.d (obD P S),s)):aA "part" a env st=some (.d (.int S.p),s):=by simp only[aA,h,qaa,obD];rfl
theorem l7 (h:a env st=some (.d (obD P S),s)):aA "free" a env st=some (.d (.lst (mpI P.n (nI S.free))),s):=by simp only[aA,h,qaa,obD];rfl
theorem pX (h:a env st=some (.d (obD P S),s)):aA "kept" a env st=some (.d (.lst (mpI P.m (nI S.kept))),s):=by simp only[aA,h,qaa,obD];rfl
end
theorem iF {te:Ef}{l:Ev}{st:Sto}{g:Nat->D} (F:Nat->D):∀ {a:List Nat},(∀ k∈a,te (Z (g k)::l) st=some (.d (F k),st))->lcI (.nm 0) aJ te (none::l) (a.map g) st=some (a.map F,st)
 |[],_=>rfl
 |k::a,h=>by
  rw[qas];unfold lcI;rw[show cC _ _ _=some (some _::l) from U,qaa,show aJ _ st=some (true,st) from U,qaa,(h k qag),qaa,(iF F λx b=>h x (qaj _ b))];rfl
def Sm (z:Int):Prop:=z.natAbs<2^4000
theorem mulOk {a b:Int} (x y:Nat) (c:a.natAbs<2^x) (hb:b.natAbs<2^y) (h:x+y<=134217728):qbU a b:=
 qiy (qgR.mpr c) (qgR.mpr hb) h
theorem DO {a b:Int}{x y:Nat} (c:a.natAbs<2^x) (hb:b.natAbs<2^y):(a*b).natAbs<2^(x+y):=by
 rw[qb3,qfc];exact qh4 c hb
theorem Sm.mulOk {a b:Int} (c:Sm a) (hb:Sm b):qbU a b:=Own.mulOk 4000 4000 c hb (by decide)
theorem cR (st:Sto) {a b:Int} (h:qbU a b):bm st (.d (.int a)) (.d (.int b))=some (.int (a*b)):=iFP h
theorem Sm.log {a:Int} (h:Sm a):a.natAbs.log2<9000:=by
 by_cases b:a.natAbs=0
 ·rw[b];decide
 ·have:=(Nat.log2_lt b).mpr h
  lia
theorem kQ (st:Sto) {a b:Int} (c:0<b) (h:Sm b):m7 st (.d (.int a)) (.d (.int b))=some (.int (a / b)):=iFP ⟨c,h.log⟩
end Own
set_option maxHeartbeats 1000000
namespace Own
open PySem L2
open Sx (Pb Tb Good Named Fe LV ZV piv lexP leastR leaveL sumN unit colV basis)
theorem gZ {a b:Sf}{env:Ev}{st s:Sto}{w:W} (h:a env st=some (.rt w s)):ah a b env st=some (.rt w s):=by simp only[ah,h,qaa]
theorem aj {a b:Sf}{env e:Ev}{st s:Sto}{r:Option Fl} (h:a env st=some (.nx e s)) (hb:b e s=r):ah a b env st=r:=by simp only[ah,h,qaa,hb]
theorem d7 {c:Tf}{a b:Sf}{env:Ev}{st s:Sto}{r:Option Fl} (h:c env st=some (true,s)) (d:a env s=r):aZ c a b env st=r:=by simp only[aZ,h,qaa,if_true,d]
theorem bT {c:Tf}{a b:Sf}{env:Ev}{st s:Sto}{r:Option Fl} (h:c env st=some (false,s)) (hb:b env s=r):aZ c a b env st=r:=by simp only[aZ,h,qaa,qbk,if_false,hb]
theorem GG {o a:Ef}{env:Ev}{st s1 e:Sto}{n:Nat}{d:D}{c ds:List D} (j:o env st=some (.h n,s1)) (i:a env s1=some (.d d,e)) (f:lg s1 n=some c) (hg:lg e n=some ds) (g:ds.length<1000000):j0 (nC gG o (aa a ae)) env st=some (.nx env (e.set n (.l (ds++[d])))):=by
 simp only[j0,nC,j,(ac (b:=ae) i U),f,hg,gG,g,if_true,qaa,qak]
theorem oz (st:Sto) (a b:C):(st++[a]).set st.length b=st++[b]:=by
 simp
structure Okt (P:Pb) (S:Tb):Prop where
 good:Good P S
 named:Named P S
 m64:P.m<=100
 n64:P.n<=100
 sT:∀ i c,i<P.m->c<=P.n->Sm (S.T i c)
 sL:∀ i s,i<P.m->s<=P.m->Sm (LV P S i s)
 sG:∀ c,c<=P.n->Sm (S.G c)
 sp:Sm S.p
def psD (ps:List Nat):List D:=ps.map λk=>D.int ((k:Nat):Int)
theorem xm (ps:List Nat):(psD ps).length=ps.length:=by unfold psD;rw[qaf]
theorem mM {n k:Nat}{b:Sf}{ws:List W}{st s:Sto}{h:Nat}{ds:List D} (a:ws.length=k) (hb:b (ws.map some++qaC (n - k) none) st=some (.rt (.h h) s)) (c:st.length<=h) (hd:lg s h=some ds):gP n k b ws st=some (.d (.lst ds),s.take st.length):=by
 simp only[gP,a,if_true,hb,qaa,zc,iFN (qhX.mpr c),hd,qak]
theorem xu {st u:Sto}{h:Nat}{c:C} (a:st.length<=h):(st++u).set h c=st++u.set (h - st.length) c:=by
 rw[List.set_append_right _ _ a]
theorem DK {s:Sto}{h:Nat}{ds es:List D} (hg:lg s h=some ds):lg (s.set h (.l es)) h=some es:=by
 have:=(qar.mp (wP hg)).1
 unfold lg;rw[qbm this]
theorem iH (s:Sto) (ds:List D):lg (s++[.l ds]) s.length=some ds:=by unfold lg;simp
theorem C5 (s:Sto) {h:Nat}{ds:List D} (hg:lg s h=some ds):cz s (.h h)=some (!ds.isEmpty):=by
 show (lg s h).map _=_;rw[hg];rfl
theorem Fk (s:Sto) {h:Nat}{d:D}{ds:List D} (hg:lg s h=some (d::ds)):dIx s (.h h) (.d (.int 0))=some d:=by
 show (lg s h).bind _=_;rw[hg,qaa,pV]
theorem zE (s:Sto) (a b:Int):dLt s (.d (.int a)) (.d (.int b))=some (.bl (decide (a<b))):=rfl
theorem Dl (s:Sto) (a b:Int):dGt s (.d (.int a)) (.d (.int b))=some (.bl (decide (a > b))):=rfl
theorem E7 (s:Sto) (a b:Int):dGe s (.d (.int a)) (.d (.int b))=some (.bl (decide (a>=b))):=rfl
section
variable {tops bots:Nat->Int}{m:Nat}{st:Sto}{g:Option W}
theorem kl (G:∀ i,i<m->Sm (tops i)) (hb:∀ i,i<m->Sm (bots i)):∀ (ps least:List Nat) (u:Sto) (h:Nat) (N f c:Option W),(∀ x∈ps,x<m)->(∀ x∈least,x<m)->lg (st++u) h=some (psD least)->st.length<=h->least.length+ps.length<=1000->
  ∃ w h' k j q,cO (.nm 4) aW (psD ps) [g,Z (.lst (mpI m tops)),Z (.lst (mpI m bots)),some (.h h),N,f,c] (st++u)=some (.nx [g,Z (.lst (mpI m tops)),Z (.lst (mpI m bots)),some (.h h'),k,j,q] (st++w))/\
   lg (st++w) h'=some (psD (leastR tops bots ps least))/\st.length<=h'
 |[],least,u,h,N,f,c,_,_,hg,y,_=>⟨u,h,N,f,c,U,by rw[leastR];exact hg,y⟩
 |p::ps,least,u,h,N,f,c,S,R,hg,y,K=>by
  have t:p<m:=S p qag;have A:∀ x∈ps,x<m:=λx C=>S x (qaj _ C);rw[qap]at K;have T:∀ f c O,cC (.nm 4) (.d (.int ((p:Nat):Int))) [g,Z (.lst (mpI m tops)),Z (.lst (mpI m bots)),some (.h O),N,f,c]=some [g,Z (.lst (mpI m tops)),Z (.lst (mpI m bots)),some (.h O),Z (.int ((p:Nat):Int)),f,c]:=λ_ _ _=>rfl;have J:∀ (u:Sto) (h:Nat) (ls:List Nat) (f c:Option W),lg (st++u) h=some (psD ls)->st.length<=h->ls.length<1000->j0 (nC gG (iV 3) (aa (iV 4) ae)) [g,Z (.lst (mpI m tops)),Z (.lst (mpI m bots)),some (.h h),Z (.int ((p:Nat):Int)),f,c] (st++u)=some _/\lg (st++u.set (h - st.length) (.l (psD (ls++[p])))) h=some (psD (ls++[p])):=λu h ls f c hg y R=>by
   have e:=GG (o:=iV 3) (a:=iV 4) (env:=[g,Z (.lst (mpI m tops)),Z (.lst (mpI m bots)),some (.h h),Z (.int ((p:Nat):Int)),f,c]) (st:=st++u) (n:=h) (d:=.int ((p:Nat):Int)) U U hg hg (by rw[xm];lia);have e2:psD ls++[.int ((p:Nat):Int)]=psD (ls++[p]):=by unfold psD;rw[qbJ];rfl
   rw[e2,xu y]at e;refine⟨e,?_⟩;rw[<-xu y];exact DK hg
  cases least with
  |nil=>
   have P:cg cz (iV 3) [g,Z (.lst (mpI m tops)),Z (.lst (mpI m bots)),some (.h h),Z (.int ((p:Nat):Int)),f,c] (st++u)=some (false,st++u):=by
    have:=C5 (st++u) hg
    simp only[cg,show iV 3 [g,Z (.lst (mpI m tops)),Z (.lst (mpI m bots)),some (.h h),Z (.int ((p:Nat):Int)),f,c] (st++u)=some (.h h,st++u) from U,qaa,this];rfl
   obtain⟨Q,a2⟩:=J u h [] f c hg y (by decide);obtain⟨w,h',k,j,q,F,D,i3⟩:=kl G hb ps [p] _ h (Z (.int ((p:Nat):Int))) f c A (λx C=>by rw[qal.mp C];exact t) a2 y (by simp at K ⊢;lia);refine⟨w,h',k,j,q,?_,by rw[leastR];exact D,i3⟩;have s:aW [g,Z (.lst (mpI m tops)),Z (.lst (mpI m bots)),some (.h h),Z (.int ((p:Nat):Int)),f,c] (st++u)=_:=aj (bT P U) Q;show cO (.nm 4) aW (.int ((p:Nat):Int)::psD ps) _ _=_;simp only[cO,T,qaa,s];exact F
  |cons v r=>
   have E:v<m:=R v qag;have P:cg cz (iV 3) [g,Z (.lst (mpI m tops)),Z (.lst (mpI m bots)),some (.h h),Z (.int ((p:Nat):Int)),f,c] (st++u)=some (true,st++u):=by
    have:=C5 (st++u) hg
    simp only[cg,show iV 3 [g,Z (.lst (mpI m tops)),Z (.lst (mpI m bots)),some (.h h),Z (.int ((p:Nat):Int)),f,c] (st++u)=some (.h h,st++u) from U,qaa,this];rfl
   have i0:∀ f c,iOp dIx (iV 3) (iC (.int 0)) [g,Z (.lst (mpI m tops)),Z (.lst (mpI m bots)),some (.h h),Z (.int ((p:Nat):Int)),f,c] (st++u)=some (.d (.int ((v:Nat):Int)),st++u):=λ_ _=>ag U U (Fk (st++u) hg);have Y:az (.nm 5) (iOp bm (iOp dIx (iV 1) (iV 4)) (iOp dIx (iV 2) (iOp dIx (iV 3) (iC (.int 0))))) [g,Z (.lst (mpI m tops)),Z (.lst (mpI m bots)),some (.h h),Z (.int ((p:Nat):Int)),f,c] (st++u)=some _:=
    ak (ag (ag U U (eI _ t)) (ag U (i0 _ _) (eI _ E)) (cR _ (Sm.mulOk (G p t) (hb v E))))
   have X:az (.nm 6) (iOp bm (iOp dIx (iV 1) (iOp dIx (iV 3) (iC (.int 0)))) (iOp dIx (iV 2) (iV 4))) [g,Z (.lst (mpI m tops)),Z (.lst (mpI m bots)),some (.h h),Z (.int ((p:Nat):Int)),Z (.int (tops p*bots v)),c] (st++u)=some (.nx [g,Z (.lst (mpI m tops)),Z (.lst (mpI m bots)),some (.h h),Z (.int ((p:Nat):Int)),Z (.int (tops p*bots v)),Z (.int (tops v*bots p))] (st++u)):=
    ak (ag (ag U (i0 _ _) (eI _ E)) (ag U U (eI _ t)) (cR _ (Sm.mulOk (G v E) (hb p t))))
   generalize V:tops p*bots v=M at *;generalize hB:tops v*bots p=B at *;have L:aK dGt (iV 5) (iV 6) [g,Z (.lst (mpI m tops)),Z (.lst (mpI m bots)),some (.h h),Z (.int ((p:Nat):Int)),Z (.int M),Z (.int B)] (st++u)=some (decide (M > B),st++u):=ay U U (Dl _ _ _);have tl:aK dLt (iV 5) (iV 6) [g,Z (.lst (mpI m tops)),Z (.lst (mpI m bots)),some (.h h),Z (.int ((p:Nat):Int)),Z (.int M),Z (.int B)] (st++u)=some (decide (M<B),st++u):=ay U U (zE _ _ _);by_cases c1:M > B
   ·rw[decide_eq_true c1]at L
    obtain⟨w,h',k,j,q,F,D,i3⟩:=kl G hb ps (v::r) u h (Z (.int ((p:Nat):Int))) (Z (.int M)) (Z (.int B)) A R hg y (by lia);refine⟨w,h',k,j,q,?_,by rw[leastR,V,hB,iFP c1];exact D,i3⟩;have s:aW [g,Z (.lst (mpI m tops)),Z (.lst (mpI m bots)),some (.h h),Z (.int ((p:Nat):Int)),f,c] (st++u)=some (.ct [g,Z (.lst (mpI m tops)),Z (.lst (mpI m bots)),some (.h h),Z (.int ((p:Nat):Int)),Z (.int M),Z (.int B)] (st++u)):=by
     have I:aZ (cg cz (iV 3)) (ah (az (.nm 5) (iOp bm (iOp dIx (iV 1) (iV 4)) (iOp dIx (iV 2) (iOp dIx (iV 3) (iC (.int 0)))))) (ah (az (.nm 6) (iOp bm (iOp dIx (iV 1) (iOp dIx (iV 3) (iC (.int 0)))) (iOp dIx (iV 2) (iV 4)))) (ah (aZ (aK dGt (iV 5) (iV 6)) pE aR) (aZ (aK dLt (iV 5) (iV 6)) (az (.nm 3) (dg (bn ae))) aR)))) aR [g,Z (.lst (mpI m tops)),Z (.lst (mpI m bots)),some (.h h),Z (.int ((p:Nat):Int)),f,c] (st++u)=some (.ct [g,Z (.lst (mpI m tops)),Z (.lst (mpI m bots)),some (.h h),Z (.int ((p:Nat):Int)),Z (.int M),Z (.int B)] (st++u)):=by
      refine d7 P (aj Y (aj X ?_))
      have:=d7 (a:=pE) (b:=aR) L U
      simp only[ah,this];rfl
     show ah _ _ _ _=_;simp only[ah,I];rfl
    show cO (.nm 4) aW (.int ((p:Nat):Int)::psD ps) _ _=_;simp only[cO,T,qaa,s];exact F
   ·rw[decide_eq_false c1]at L
    by_cases c2:M<B
    ·rw[decide_eq_true c2]at tl
     have hn:lg (st++(u++[.l []])) (st++u).length=some (psD []):=by rw[<-qcK];exact iH _ _
     have H:st.length<=(st++u).length:=by rw[qax];lia
     obtain⟨Q,a2⟩:=J (u++[.l []]) (st++u).length [] (Z (.int M)) (Z (.int B)) hn H (by decide);obtain⟨w,h',k,j,q,F,D,i3⟩:=kl G hb ps [p] _ (st++u).length (Z (.int ((p:Nat):Int))) (Z (.int M)) (Z (.int B)) A (λx C=>by rw[qal.mp C];exact t) a2 H (by simp at K ⊢;lia);refine⟨w,h',k,j,q,?_,by rw[leastR,V,hB,iFN c1,iFP c2];exact D,i3⟩;have sn:az (.nm 3) (dg (bn ae)) [g,Z (.lst (mpI m tops)),Z (.lst (mpI m bots)),some (.h h),Z (.int ((p:Nat):Int)),Z (.int M),Z (.int B)] (st++u)=some (.nx [g,Z (.lst (mpI m tops)),Z (.lst (mpI m bots)),some (.h (st++u).length),Z (.int ((p:Nat):Int)),Z (.int M),Z (.int B)] (st++(u++[.l []]))):=by rw[<-qcK];rfl
     have s:aW [g,Z (.lst (mpI m tops)),Z (.lst (mpI m bots)),some (.h h),Z (.int ((p:Nat):Int)),f,c] (st++u)=_:=aj (d7 P (aj Y (aj X (aj (bT L U) (d7 tl sn))))) Q;show cO (.nm 4) aW (.int ((p:Nat):Int)::psD ps) _ _=_;simp only[cO,T,qaa,s];exact F
    ·rw[decide_eq_false c2]at tl
     obtain⟨Q,a2⟩:=J u h (v::r) (Z (.int M)) (Z (.int B)) hg y (by rw[qap]at K ⊢;lia)
     obtain⟨w,h',k,j,q,F,D,i3⟩:=kl G hb ps ((v::r)++[p]) _ h (Z (.int ((p:Nat):Int))) (Z (.int M)) (Z (.int B)) A (λx C=>by
      rcases qaK.mp C with z|z
      ·exact R x z
      ·rw[qal.mp z];exact t) a2 y (by rw[qax,qcc];lia)
     refine⟨w,h',k,j,q,?_,by rw[leastR,V,hB,iFN c1,iFN c2];exact D,i3⟩;have s:aW [g,Z (.lst (mpI m tops)),Z (.lst (mpI m bots)),some (.h h),Z (.int ((p:Nat):Int)),f,c] (st++u)=_:=aj (d7 P (aj Y (aj X (aj (bT L U) (bT tl U))))) Q;show cO (.nm 4) aW (.int ((p:Nat):Int)::psD ps) _ _=_;simp only[cO,T,qaa,s];exact F
theorem Fv (G:∀ i,i<m->Sm (tops i)) (hb:∀ i,i<m->Sm (bots i)) {ps:List Nat} (S:∀ x∈ps,x<m) (K:ps.length<=1000):fT [.d (.lst (psD ps)),.d (.lst (mpI m tops)),.d (.lst (mpI m bots))] st=some (.d (.lst (psD (leastR tops bots ps []))),st):=by
 obtain⟨w,h',k,j,q,F,D,i3⟩:=kl G hb ps [] [.l []] st.length none none none S (λx C=>nomatch C) (iH st []) (qan _) (by simpa using K)
 have:=mM (n:=7) (b:=jo) (ws:=[.d (.lst _),.d _,.d _]) U (aj U (aj (bz U F) U)) i3 D
 rw[qcR]at this;exact this
end
end Own
set_option maxHeartbeats 1000000
namespace Own
open PySem L2
open Sx (Pb Tb Good Named Fe LV ZV piv lexP leastR leaveL sumN unit colV basis)
theorem wE (s:Sto) (i:Int):jB s (.d (.int i)) (.d .non)=some (.bl false):=rfl
theorem qR (s:Sto):jB s (.d .non) (.d .non)=some (.bl true):=rfl
theorem Bm (s:Sto) (l:List D):jB s (.d (.tup l)) (.d .non)=some (.bl false):=rfl
def eS (n:Nat):Nat->D
 |0=>.non
 |r+1=>.int (((n+r:Nat)):Int)
theorem yx (n m:Nat):D.non::bX (n:Int) m=(qam (m+1)).map (eS n):=by
 rw[qdy,qas,qaG]
 congr 1
theorem jY (st:Sto) (ds:List D):aY st [.d (.lst ds)]=some (.int (ds.length:Nat)):=rfl
theorem oM {P:Pb}{S:Tb}{st:Sto} (h:Okt P S):d8 [.d (obD P S)] st=some (.d (.lst ((qam (P.m+1)).map (eS P.n))),st):=by
 have hm:=h.m64;have hn:=h.n64;have a:iV 0 [some _] st=some (.d (obD P S),st):=rfl;have b:=cc a;refine ax U (aD (ag (x:=.d (.lst [.non])) (y:=.d (.lst (bX (P.n) P.m))) (s1:=st) U (ao ?_) ?_))
 ·show qC _ [some _] st=_
  have e:aa (aA "amounts" (iV 0)) (aa (iOp bg (aA "amounts" (iV 0)) (iCB aY (aa (aA "lines" (iV 0)) ae))) ae) [Z (obD P S)] st=some ([.d (.int (P.n)),.d (.int ((P.n)+(P.m)))],st):=by
   refine ac b (ac (ag b (aF (ac (cQ a) U) (jY _ _)) ?_) U);rw[cK];rfl
  simp only[qC,e,qaa];rw[iFP (by lia),show (_+_ - (P.n:Int)).toNat=P.m by lia]
 ·rw[<-yx]
  exact fM st (by rw[bL];simp;lia)
theorem Du {n k:Nat}{f:Nat->Nat}:inD (.int (k:Int)) (mpI n (nI f))=decide (∃ c,c<n/\f c=k):=by
 rw[qeG];unfold inD mpI;rw[List.any_map,List.any_eq_true,decide_eq_true_eq];constructor
 ·rintro⟨c,a,e⟩
  refine⟨c,qaD.mp a,?_⟩;have e:(((f c):Int)==_)=true:=e;lia
 ·rintro⟨c,a,e⟩
  refine⟨c,qaD.mpr a,?_⟩;show (((f c):Int)==_)=true;rw[e];exact beq_self_eq_true _
theorem Dq {n k:Nat}{f:Nat->Nat} (h:∃ c,c<n/\f c=k):∃ c,c<n/\f c=k/\((qam n).map (nI f)).idxOf? (k:Int)=some c:=by
 obtain⟨c,d,e⟩:=h;cases q:((qam n).map (nI f)).idxOf? _ with
 |none=>
  have:=List.idxOf?_eq_none_iff.mp q
  exact absurd (qaz.mpr ⟨c,qaD.mpr d,by unfold nI;rw[e]⟩) this
 |some j=>
  obtain⟨b,a,_⟩:=qgB.mp q;rw[qaf,qav]at b;refine⟨j,b,?_,U⟩;rw[qdg,qhw]at a;have a:((f j):Int)=_:=a;lia
theorem iz {P:Pb}{S:Tb} (h:Good P S) {i j:Nat} (hi:i<P.m) (b:j<P.m) (e:S.kept i=S.kept j):i=j:=by
 rcases Nat.decEq i j with a|c
 ·have:=h.pos
  rw[h.dt,(Sx.det_eq0 _ hi b a (by unfold basis;rw[e]))]at this;exact absurd this (by decide)
 ·exact c
theorem CL {P:Pb}{S:Tb}{st:Sto} (h:Okt P S) {s:Nat} (E:s<=P.m):cY [.d (obD P S),.d (eS P.n s)] st=some (.d (.lst (mpI P.m λi=>LV P S i s)),st):=by
 have hg:=h.good;have hm:=h.m64;have hn:=h.n64;cases s with
 |zero=>
  have e:mpI P.m (λi=>LV P S i 0)=mpI P.m λi=>S.T i P.n:=bG λi hi=>by
   have e:=hg.entry (qan _) hi;have c1:colV P S P.n=P.b:=by unfold Sx.colV;rw[iFN (qa2 _)]
   rw[c1]at e;unfold LV Sx.XV;rw[iFP U,<-e]
  rw[e];refine ax (n:=3) (k:=2) (b:=gA) U (gZ (d7 (s:=st) (ay (x:=.d .non) U U (qR st)) (aD (ao (aM (aT (cQ (P:=P) (S:=S) (st:=st) (a:=iV 0) U)) (by rw[cK];lia) ?_)))));exact iF _ λi _=>ag U U (wH st)
 |succ r=>
  have w:r<P.m:=by lia
  have q:∀ o,iV 0 [some _,Z (.int ((P.n+r:Nat))),o] st=some (.d (obD P S),st):=λ_=>rfl;have v:=l7 (q none);have g:Sx.XV P (r+1)=unit r:=by unfold Sx.XV;rw[iFN (by lia),qcW]
  have tI:aK dIn (iV 1) (aA "free" (iV 0)) [Z (obD P S),Z (.int ((P.n+r:Nat))),none] st=some (decide (∃ c,c<P.n/\S.free c=P.n+r),st):=by
   refine ay U v ?_;simp only[dIn,dL,cf,uk,qaa,and_self,if_true,Du]
  refine ax (n:=3) (k:=2) (b:=gA) U (aj (bT (ay U U (wE st _)) U) ?_);by_cases m:∃ c,c<P.n/\S.free c=P.n+r
  ·rw[decide_eq_true m]at tI
   obtain⟨c,C,B,l⟩:=Dq m;have e:mpI P.m (λi=>LV P S i _)=mpI P.m λi=>S.T i c:=bG λi hi=>by
    have e:=hg.entry (c:=c) (by lia) hi;have c1:colV P S c=unit r:=by unfold Sx.colV;rw[iFP C,B,h.named.one r w]
    rw[c1]at e;unfold LV;rw[g,<-e]
   rw[e];have y:az (.nm 2) (zj (aA "free" (iV 0)) (aa (iV 1) ae)) [Z (obD P S),Z (.int ((P.n+r:Nat))),none] st=some (.nx [Z (obD P S),Z (.int ((P.n+r:Nat))),Z (.int (c))] st):=by
    refine ak ?_;have A:bb (mpI P.n (nI S.free))=some ((qam P.n).map (nI S.free)):=by rw[bR];exact br _
    simp only[zj,v,qaa,show aa (iV 1) ae [some _,some _,none] st=some ([.d _],st) from U,A];rw[iFP (by rw[qaf,qav];lia),l];rfl
   refine gZ (d7 tI (aj y (aD (ao (aM (aT (cQ (P:=P) (S:=S) (q _))) (by rw[cK];lia) ?_)))));exact iF _ λi _=>ag U U (tX st (by lia))
  ·rw[decide_eq_false m]at tI
   obtain⟨j,u,t⟩:∃ j,j<P.m/\S.kept j=P.n+r:=(h.named.all _ (by lia)).elim (λz=>absurd z m) id;have e:mpI P.m (λi=>LV P S i _)=mpI P.m λi=>if S.kept i=P.n+r then S.p else 0:=bG λi hi=>by
    have e:=Sx.det_kept hg hi u;have c1:basis P S j=unit r:=by unfold Sx.basis;rw[t,h.named.one r w]
    rw[c1]at e;unfold LV;rw[g,e];by_cases f:i=j
    ·rw[iFP f,iFP (by rw[f];exact t)]
    ·rw[iFN f,iFN λz=>f (iz hg hi u (z.trans t.symm))]
   rw[e];refine aj (bT tI U) (aD (ao (aM (aT (pX (P:=P) (S:=S) (q none))) (by rw[aH];lia) ?_)));refine iF (λi=>D.int _) λi _=>?_;have te:aK dEq (iV 0) (iV 1) [Z (.int (nI S.kept i)),Z (.int ((P.n+r:Nat):Int)),Z (obD P S)] st=some (decide (S.kept i=P.n+r),st):=by
    refine ay U U ?_;rw[dw]
    congr 2
    unfold nI;lia
   by_cases p:S.kept i=P.n+r
   ·rw[decide_eq_true p]at te
    rw[iFP p];exact rS te (l9 (P:=P) (S:=S) (st:=st) (a:=iV 2) U)
   ·rw[decide_eq_false p]at te
    rw[iFN p];exact vH te U
theorem wl (m:Nat) (f:Nat->Int):bW 0 (mpI m f)=(qam m).map λi=>D.tup [.int ((i:Nat):Int),.int (f i)]:=by
 apply qbX;intro i;rw[f9,qaF];by_cases hi:i<m
 ·rw[bF hi,qbL hi,qbj];rfl
 ·rw[qaQ (by rw[aH];lia),qaQ (by rw[qav];lia)];rfl
theorem vi {tt:Tf}{te:Ef}{l:Ev}{st:Sto}{g:Nat->D×D} (p:Nat->Bool) (F:Nat->D):∀ {a:List Nat},(∀ k∈a,tt (Z (g k).1::some (.d (g k).2)::l) st=some (p k,st)/\(p k=true->te (Z (g k).1::some (.d (g k).2)::l) st=some (.d (F k),st)))->
  lcI (.tp [0,1]) tt te (none::none::l) (a.map λk=>D.tup [(g k).1,(g k).2]) st=some ((a.filter p).map F,st)
 |[],_=>rfl
 |k::a,h=>by
  have b:=vi p F λx e=>h x (qaj _ e);obtain⟨f,c⟩:=h k qag;rw[qas];unfold lcI;rw[show cC _ _ _=some (some _::some _::l) from U,qaa,f,qaa];cases hp:p k with
  |true=>rw[c hp,qaa,b,qem hp];rfl
  |false=>rw[iFN (show ¬ (false=true) by decide),b,qen (by rw[hp];decide)]
def jp (P:Pb) (S:Tb) (c:Nat):List Nat:=(qam P.m).filter λi=>decide (S.T i c > 0)
def gF (P:Pb) (S:Tb) (c:Nat):List Nat:=leaveL (λs i=>LV P S i s) (λi=>S.T i c) (qam (P.m+1)) (jp P S c)
theorem eL {tops bots:Nat->Int}{m:Nat}:∀ {ps least:List Nat},(∀ x∈ps,x<m)->(∀ x∈least,x<m)->(∀ x∈leastR tops bots ps least,x<m)/\(leastR tops bots ps least).length<=ps.length+least.length
 |[],least,_,h=>by rw[leastR];exact⟨h,by simp⟩
 |p::ps,[],c,_=>by
  rw[leastR]
  have:=eL (tops:=tops) (bots:=bots) (λx a=>c x (qaj _ a)) λx a=>by rw[qal.mp a];exact c p qag
  exact⟨this.1,by simp at this ⊢;lia⟩
 |p::ps,f::r,c,e=>by
  have b:=λx a=>c x (qaj _ a);have d:=c p qag;rw[leastR];split
  ·have:=eL (tops:=tops) (bots:=bots) b e
   exact⟨this.1,by simp at this ⊢;lia⟩
  ·split
   ·have:=eL (tops:=tops) (bots:=bots) b λx a=>by rw[qal.mp a];exact d
    exact⟨this.1,by simp at this ⊢;lia⟩
   ·have:=eL (tops:=tops) (bots:=bots) b λx a=>by
     rcases qaK.mp a with z|z
     ·exact e x z
     ·rw[qal.mp z];exact d
    exact⟨this.1,by simp at this ⊢;lia⟩
section
variable {P:Pb}{S:Tb}{st:Sto}{c:Nat}
theorem wQ (h:Okt P S) (v:c<=P.n):∀ (u ps:List Nat) (p:Option W),(∀ s∈u,s<=P.m)->(∀ x∈ps,x<P.m)->ps.length<=1000->
  ∃ o,cO (.nm 4) fu (u.map (eS P.n)) [Z (obD P S),Z (.int (c:Int)),Z (.lst (mpI P.m λi=>S.T i c)),Z (.lst (psD ps)),p] st=some (.nx [Z (obD P S),Z (.int (c:Int)),Z (.lst (mpI P.m λi=>S.T i c)),Z (.lst (psD (leaveL (λs i=>LV P S i s) (λi=>S.T i c) u ps))),o] st)
 |[],ps,p,_,_,_=>⟨p,U⟩
 |s::u,ps,p,A,I,y=>by
  have m:cC (.nm 4) _ [some _,some _,some _,some _,p]=some [Z (obD P S),Z (.int (c)),Z (.lst (mpI P.m λi=>S.T i c)),Z (.lst (psD ps)),Z (eS P.n s)]:=rfl;have B:aK dLt (iCB aY (aa (iV 3) ae)) (iC (.int 2)) [Z (obD P S),Z (.int (c)),Z (.lst (mpI P.m λi=>S.T i c)),Z (.lst (psD ps)),Z (eS P.n s)] st=some (decide (ps.length<2),st):=by
   refine ay (aF U (jY _ _)) U ?_;rw[xm,zE]
   congr 2
   lia
  rw[qas,leaveL];by_cases q:ps.length<2
  ·rw[decide_eq_true q]at B
   rw[iFP q];refine⟨some (.d (eS P.n s)),?_⟩;have hb:fu [Z (obD P S),Z (.int (c)),Z (.lst (mpI P.m λi=>S.T i c)),Z (.lst (psD ps)),Z (eS P.n s)] st=some (.bk [Z (obD P S),Z (.int (c)),Z (.lst (mpI P.m λi=>S.T i c)),Z (.lst (psD ps)),Z (eS P.n s)] st):=by
    have:=d7 (a:=u7) (b:=aR) B U
    show ah _ _ _ _=_;simp only[ah,this];rfl
   simp only[cO,m,qaa,hb]
  ·rw[decide_eq_false q]at B
   rw[iFN q];have f:=eL (tops:=λi=>LV P S i s) (bots:=λi=>S.T i c) (least:=[]) I (λx w=>nomatch w)
   obtain⟨o,L⟩:=wQ h v u _ _ (λx w=>A x (qaj _ w)) f.1 (by have:=f.2;simp at this;lia);refine⟨o,?_⟩;have hb:fu [some _,some _,some _,some _,some _] st=some _:=
    aj (bT B U) (ak (ai (ac U (ac (ai U (CL h (A s qag))) (ac U U))) (Fv (λi hi=>h.sL i s hi (A s qag)) (λi hi=>h.sT i c hi v) I y)))
   simp only[cO,m,qaa,hb];exact L
def zA (l:List Nat):D:=match l with
 |[]=>.non
 |r::_=>.int ((r:Nat):Int)
theorem vq (h:Okt P S) (v:c<=P.n):jb [.d (obD P S),.d (.int (c:Int))] st=some (.d (zA (gF P S c)),st):=by
 have hm:=h.m64;have F:cJ (aa (iV 2) ae) [Z (obD P S),Z (.int (c)),Z (.lst (mpI P.m λi=>S.T i c)),none,none] st=some ((qam P.m).map λi=>D.tup [.int ((i:Nat)),.int (S.T i c)],st):=by
  rw[<-wl];rfl
 have G:∀ x∈jp P S c,x<P.m:=λx w=>qaD.mp (qcb.mp w).1;have C:(jp P S c).length<=1000:=by
  have:(jp P S c).length<=(qam P.m).length:=qc2 ..
  rw[qav]at this;lia
 obtain⟨p,K⟩:=wQ (st:=st) h v (qam (P.m+1)) (jp P S c) none (λs A=>by have:=qaD.mp A;lia) G C;have hw:=oM (st:=st) h;have E:aB (ap d8 (aa (iV 0) ae)) [Z (obD P S),Z (.int (c:Int)),Z (.lst (mpI P.m λi=>S.T i c)),Z (.lst (psD (jp P S c))),none] st=some ((qam (P.m+1)).map (eS P.n),st):=aT (ai (ws:=[.d (obD P S)]) U hw);refine ax (n:=5) (k:=2) (b:=pf) U (aj (ak (ao (aM (aT (cQ (P:=P) (S:=S) (env:=[some _,Z (.int (c)),none,none,none]) (st:=st) (a:=iV 0) U)) (by rw[cK];lia) (iF _ λi _=>ag U U (tX st v))))) (aj (ak (ao (aM F (by rw[qaf,qav];lia) (vi (g:=λi=>(D.int ((i:Nat):Int),.int (S.T i c))) (λi=>decide (S.T i c > 0)) (λi=>D.int ((i:Nat):Int)) λi _=>⟨ay U U (Dl _ _ _),λ_=>rfl⟩)))) (aj (bz E K) (aD ?_))));show j5 _ _ _ [some _,some _,some _,Z (.lst (psD (gF P S c))),p] st=_;cases gF P S c with
 |nil=>rfl
 |cons r l=>exact rS U (ag U U (pV _ _))
theorem vn (y:∀ i,i<P.m->S.T i c<=0):gF P S c=[]:=by
 have:jp P S c=[]:=by
  unfold jp;rw[List.filter_eq_nil_iff];intro i hi
  have:=y i (qaD.mp hi)
  lia
 unfold gF;rw[this,qdy,leaveL,iFP (by decide)]
theorem vo (h:Okt P S) (hA:∀ i,i<P.m->∀ t,P.m<=t->P.A (S.kept i) t=0) (y:¬ ∀ i,i<P.m->S.T i c<=0) :
  ∃ r,gF P S c=[r]/\r<P.m/\0<S.T r c/\∀ i,i<P.m->i≠r->0<S.T i c->lexP (P.m+1) λs=>S.T r c*LV P S i s - S.T i c*LV P S r s:=by
 have H:∀ i,i∈jp P S c↔i<P.m/\0<S.T i c:=λi=>by
  unfold jp;rw[qcb,qaD,decide_eq_true_eq]
 obtain⟨r,J,q⟩:=Sx.leaving_ok h.good hA H (qiW qe0 List.nodup_range) (λe=>y λi hi=>by
  have:¬ _:=λz=>by
   have:=(H i).mpr z
   rw[e]at this;exact absurd this qbM
  lia)
 refine⟨r,?_,q⟩;rw[<-J];unfold gF;rw[show (λj=>0+j)=id by funext j;simp,qf3]
end
end Own
set_option maxHeartbeats 1000000
namespace Own
open PySem L2
open Sx (Pb Tb Good Named Fe LV ZV piv lexP leastR leaveL sumN unit colV basis)
theorem vf (s:Sto) (a b:D):dIx s (.d (.tup [a,b])) (.d (.int 0))=some a:=rfl
theorem re (s:Sto) (a b:D):dIx s (.d (.tup [a,b])) (.d (.int 1))=some b:=rfl
theorem Ek {a:Af}{env:Ev}{st s:Sto}{ws:List W}{ds:List D} (b:a env st=some (ws,s)) (h:oW ws=some ds) (c:ds.length<=1000):a9 a env st=some (.d (.tup ds),s):=by
 simp only[a9,b,qaa,h,qak,c,if_true]
section
variable {P:Pb}{S:Tb}{st:Sto}
theorem CN (s:Sto) (a:Int):dNe s (.d (.int a)) (.d (.int 0))=some (.bl (!(a==0))):=rfl
theorem Sm.two {a b:Int} (ha:Sm a) (hb:Sm b):(a*b).natAbs<2^8000:=DO (y:=4000) ha hb
theorem wt (h:Okt P S) {c1 o c2 m:Nat}{M B:Int} (g:o<P.m) (l:m<P.m) (hM:M.natAbs<2^8000) (hB:B.natAbs<2^8000):∀ (K:List Nat) (E q p:Option W),(∀ s∈K,s<=P.m)->
  (∃ b,cO (.nm 5) ci (K.map (eS P.n)) [Z (obD P S),Z (.tup [.int (c1:Int),.int (o:Int)]),Z (.tup [.int (c2:Int),.int (m:Int)]),Z (.int M),Z (.int B),E,q,p] st=some (.rt (.d (.bl b)) st))\/
  ∃ e,cO (.nm 5) ci (K.map (eS P.n)) [Z (obD P S),Z (.tup [.int (c1:Int),.int (o:Int)]),Z (.tup [.int (c2:Int),.int (m:Int)]),Z (.int M),Z (.int B),E,q,p] st=some (.nx e st)
 |[],E,q,p,_=>.inr ⟨_,U⟩
 |s::K,E,q,p,Q=>by
  have C:=Q s qag;have f:cC (.nm 5) _ [some _,some _,some _,some _,some _,E,q,p]=some [Z (obD P S),Z (.tup [.int (c1),.int (o)]),Z (.tup [.int (c2),.int (m)]),Z (.int M),Z (.int B),Z (eS P.n s),q,p]:=rfl;have s6:az (.nm 6) (ap cY (aa (iV 0) (aa (iV 5) ae))) [some _,Z (.tup [.int (c1),.int (o)]),Z (.tup [.int (c2),.int (m)]),Z (.int M),Z (.int B),some _,q,p] st=some _:=ak (ai U (CL h C));have R:az (.nm 7) (iOp hW (iOp bm (iV 4) (iOp dIx (iV 6) (iOp dIx (iV 2) (iC _)))) (iOp bm (iV 3) (iOp dIx (iV 6) (iOp dIx (iV 1) (iC _))))) [Z (obD P S),Z (.tup [.int (c1),.int _]),Z (.tup [.int (c2),.int _]),some _,some _,Z (eS P.n s),Z (.lst (mpI P.m λi=>LV P S i s)),p] st=some _:=
   ak (ag (ag U (ag U (ag U U (re st _ _)) (eI st l)) (cR st (mulOk 8000 4000 hB (h.sL m s l C) (by decide)))) (ag U (ag U (ag U U (re st _ _)) (eI st g)) (cR st (mulOk 8000 4000 hM (h.sL o s g C) (by decide)))) U)
  generalize B*LV P S m s - M*LV P S o s=Zq at R;have O:aK dNe (iV 7) (iC _) [Z (obD P S),Z (.tup [.int (c1),.int (o)]),Z (.tup [.int (c2),.int (m)]),Z (.int M),Z (.int B),Z (eS P.n s),Z (.lst (mpI P.m λi=>LV P S i s)),some _] st=some (!_,st):=ay U U (CN st Zq);rw[qas];cases I:(Zq==0) with
  |false=>
   rw[I]at O
   left
   refine⟨decide (Zq > 0),?_⟩;have hb:ci [some _,some _,some _,some _,some _,some _,q,p] st=some _:=aj s6 (aj R (d7 O (aD (ag U U (Dl st _ _)))));simp only[cO,f,qaa,hb]
  |true=>
   rw[I]at O;have hb:ci [some _,some _,some _,some _,some _,some _,q,p] st=some _:=aj s6 (aj R (bT O U));simp only[cO,f,qaa,hb];exact (wt h g l hM hB K _ _ _ λx H=>Q x (qaj _ H))
theorem E8 (h:Okt P S) {c1 o c2 m:Nat} (hc1:c1<P.n) (g:o<P.m) (hc2:c2<P.n) (l:m<P.m):∃ b,cp [.d (obD P S),.d (.tup [.int (c1:Int),.int (o:Int)]),.d (.tup [.int (c2:Int),.int (m:Int)])] st=some (.d (.bl b),st):=by
 have J:∀ n o4 E q p,iV 0 [some _,Z (.tup [.int (c1),.int (o)]),Z (.tup [.int (c2),.int (m)]),n,o4,E,q,p] st=some (.d (obD P S),st):=λ_ _ _ _ _=>rfl;have u:az (.nm 3) (iOp bm (iOp dIx _ (iOp dIx (iV 1) (iC _))) (iOp dIx (iOp dIx _ (iOp dIx (iV 2) (iC _))) (iOp dIx (iV 2) (iC _)))) [some _,some _,some _,none,none,none,none,none] st=some _:=
  ak (ag (ag (l8 (J _ _ _ _ _)) (ag U U (vf st _ _)) (eI st (by lia))) (ag (ag (cQ (J _ _ _ _ _)) (ag U U (re st _ _)) (tY st l)) (ag U U (vf st _ _)) (tX st (by lia))) (cR st (Sm.mulOk (h.sG c1 (by lia)) (h.sT m c2 l (by lia)))))
 have s4:az (.nm 4) (iOp bm (iOp dIx _ (iOp dIx (iV 2) (iC _))) (iOp dIx (iOp dIx _ (iOp dIx (iV 1) (iC _))) (iOp dIx (iV 1) (iC _)))) [some _,some _,some _,Z (.int (S.G c1*S.T m c2)),none,none,none,none] st=some _:=
  ak (ag (ag (l8 (J _ _ _ _ _)) (ag U U (vf st _ _)) (eI st (by lia))) (ag (ag (cQ (J _ _ _ _ _)) (ag U U (re st _ _)) (tY st g)) (ag U U (vf st _ _)) (tX st (by lia))) (cR st (Sm.mulOk (h.sG c2 (by lia)) (h.sT o c1 g (by lia)))))
 have L:aB (ap d8 (aa (iV 0) ae)) [some _,Z (.tup [.int (c1),.int (o)]),Z (.tup [.int (c2),.int (m)]),Z (.int (S.G c1*S.T m c2)),Z (.int (S.G c2*S.T o c1)),none,none,none] st=some ((qam _).map _,st):=aT (ai U (oM h));rcases wt h g l (Sm.two (h.sG c1 (by lia)) (h.sT m c2 l (by lia))) (Sm.two (h.sG c2 (by lia)) (h.sT o c1 g (by lia))) (qam (P.m+1)) none none none (λs Q=>by have:=qaD.mp Q;lia) with⟨b,e⟩|⟨e,he⟩
 ·exact⟨b,ax U (aj u (aj s4 (gZ (bz L e))))⟩
 ·exact⟨false,ax U (aj u (aj s4 (aj (bz L he) U)))⟩
def kG (P:Pb) (S:Tb) (x:D):Prop:=x=.non\/∃ c r,c<P.n/\S.G c<0/\gF P S c=[r]/\r<P.m/\0<S.T r c/\(∀ i,i<P.m->i≠r->0<S.T i c->lexP (P.m+1) λs=>S.T r c*LV P S i s - S.T i c*LV P S r s)/\x=.tup [.int (c:Int),.int (r:Int)]
theorem qc (h:Okt P S) (hA:∀ i,i<P.m->∀ t,P.m<=t->P.A (S.kept i) t=0):∀ (j k:Nat) (x:D) (w n:Option W),k+j=P.n->kG P S x->(x=.non->∀ c,c<k->0<=S.G c)->
  (∃ c,c<P.n/\S.G c<0/\(∀ i,i<P.m->S.T i c<=0)/\cO (.nm 2) bY ((qeZ k j).map λc=>D.int ((c:Nat):Int)) [Z (obD P S),Z x,w,n] st=some (.rt (.d (.tup [.int (c:Int),.non])) st))\/
  ∃ y o2' T,kG P S y/\(y=.non->∀ c,c<P.n->0<=S.G c)/\cO (.nm 2) bY ((qeZ k j).map λc=>D.int ((c:Nat):Int)) [Z (obD P S),Z x,w,n] st=some (.nx [Z (obD P S),Z y,o2',T] st)
 |0,k,x,w,n,hk,H,G=>.inr ⟨x,w,n,H,by rw[<-hk];exact G,U⟩
 |j+1,k,x,w,n,hk,H,G=>by
  have F:k<P.n:=by lia
  have f:cC (.nm 2) _ [some _,Z x,w,n]=some [Z (obD P S),Z x,Z (.int ((k:Nat):Int)),n]:=rfl;have J:∀ a b d,iV 0 [some _,a,b,d] st=some (.d (obD P S),st):=λ_ _ _=>rfl;have A:aK dGe (iOp dIx _ (iV 2)) (iC (.int 0)) [some _,Z x,some _,n] st=some (decide (S.G k>=0),st):=ay (ag (l8 (J _ _ _)) U (eI st (by lia))) U (E7 st _ _);rw[List.range'_succ,qas];by_cases hg:S.G k>=0
  ·rw[decide_eq_true hg]at A
   have hb:bY [Z (obD P S),Z x,Z (.int ((k:Nat):Int)),n] st=some (.ct [Z (obD P S),Z x,Z (.int ((k:Nat):Int)),n] st):=by
    have:=d7 (a:=pE) (b:=aR) A U
    show ah _ _ _ _=_;simp only[ah,this];rfl
   simp only[cO,f,qaa,hb]
   exact (qc h hA j (k+1) x (Z (.int ((k:Nat):Int))) n (by lia) H λe c hc=>by
    by_cases z:c=k
    ·rw[z];exact hg
    ·exact G e c (by lia))
  ·rw[decide_eq_false hg]at A
   have N:S.G k<0:=by lia
   have u:az (.nm 3) (a9 (aa (iV 2) (aa (ap jb (aa (iV 0) (aa (iV 2) ae))) ae))) [Z (obD P S),Z x,Z (.int ((k:Nat):Int)),n] st=some (.nx [Z (obD P S),Z x,Z (.int ((k:Nat):Int)),Z (.tup [.int ((k:Nat):Int),zA (gF P S k)])] st):=
    ak (Ek (ac U (ac (ai (ws:=[.d (obD P S),.d (.int ((k:Nat):Int))]) U (vq (st:=st) (c:=k) h (by lia))) U)) U (by show 2<=1000;decide))
   by_cases I:∀ i,i<P.m->S.T i k<=0
   ·rw[vn I]at u
    left
    refine⟨k,F,N,I,?_⟩;have hb:bY [Z (obD P S),Z x,Z (.int ((k:Nat):Int)),n] st=some (.rt (.d (.tup [.int ((k:Nat):Int),.non])) st):=aj (bT A U) (aj u (gZ (d7 (ay (ag U U (re st _ _)) U (qR st)) U)));simp only[cO,f,qaa,hb]
   ·obtain⟨r,l1,l2,l3,l4⟩:=vo h hA I
    rw[l1]at u;have V:aK jB (iOp dIx (iV 3) (iC (.int 1))) (iC .non) [Z (obD P S),Z x,Z (.int ((k:Nat):Int)),Z (.tup [.int ((k:Nat):Int),.int ((r:Nat):Int)])] st=some (false,st):=ay (ag U U (re st _ _)) U (wE st _);have v:kG P S _:=.inr ⟨k,r,F,N,l1,l2,l3,l4,U⟩;have X:∃ y,kG P S y/\y≠.non/\bY [Z (obD P S),Z x,Z (.int ((k:Nat):Int)),n] st=some (.nx [Z (obD P S),Z y,Z (.int ((k:Nat):Int)),Z (.tup [.int ((k:Nat):Int),.int ((r:Nat):Int)])] st):=by
     rcases H with rfl|⟨c,r',c1,c2,c3,c4,c5,c6,rfl⟩
     ·have t1:aK jB (iV 1) (iC .non) [Z (obD P S),Z .non,Z (.int ((k:Nat):Int)),Z (.tup [.int ((k:Nat):Int),.int ((r:Nat):Int)])] st=some (true,st):=ay U U (qR st)
      have t2:dz (aK jB (iV 1) (iC .non)) (cg cz (ap cp (aa (iV 0) (aa (iV 3) (aa (iV 1) ae))))) [Z (obD P S),Z .non,Z (.int ((k:Nat):Int)),Z (.tup [.int ((k:Nat):Int),.int ((r:Nat):Int)])] st=some (true,st):=by simp only[dz,t1,qaa,if_true]
      exact⟨_,v,by simp,aj (bT A U) (aj u (aj (bT V U) (d7 t2 U)))⟩
     ·obtain⟨b,eb⟩:=E8 h F l2 c1 c4
      have t1:aK jB (iV 1) (iC .non) [Z (obD P S),Z (.tup [.int (c:Int),.int (r':Int)]),Z (.int ((k:Nat):Int)),Z (.tup [.int ((k:Nat):Int),.int ((r:Nat):Int)])] st=some (false,st):=ay U U (Bm st _);have t3:ap cp (aa (iV 0) (aa (iV 3) (aa (iV 1) ae))) [some _,some _,Z (.int ((k:Nat):Int)),some _] st=some (.d (.bl b),st):=ai U eb;have t2:dz (aK jB (iV 1) (iC .non)) (cg cz (ap cp (aa (iV 0) (aa (iV 3) (aa (iV 1) ae))))) [Z (obD P S),Z (.tup [.int (c:Int),.int (r':Int)]),Z (.int ((k:Nat):Int)),Z (.tup [.int ((k:Nat):Int),.int ((r:Nat):Int)])] st=some (b,st):=by simp only[dz,t1,cg,t3,qaa,qbk,if_false,cz,qak]
      cases b with
      |true=>exact⟨_,v,by simp,aj (bT A U) (aj u (aj (bT V U) (d7 t2 U)))⟩
      |false=>exact⟨_,.inr ⟨c,r',c1,c2,c3,c4,c5,c6,U⟩,by simp,aj (bT A U) (aj u (aj (bT V U) (bT t2 U)))⟩
    obtain⟨y,hy,Y,hb⟩:=X;simp only[cO,f,qaa,hb];exact (qc h hA j (k+1) y (Z (.int ((k:Nat):Int))) (Z (.tup [.int ((k:Nat):Int),.int ((r:Nat):Int)])) (by lia) hy λe=>absurd e Y)
theorem EV (h:Okt P S) (hA:∀ i,i<P.m->∀ t,P.m<=t->P.A (S.kept i) t=0) :
  (∃ c,c<P.n/\S.G c<0/\(∀ i,i<P.m->S.T i c<=0)/\bU [.d (obD P S)] st=some (.d (.tup [.int (c:Int),.non]),st))\/
  ∃ y,kG P S y/\(y=.non->∀ c,c<P.n->0<=S.G c)/\bU [.d (obD P S)] st=some (.d y,st):=by
 have hn:=h.n64;have hr:bV (aa (iCB aY (aa (aA "free" (iV 0)) ae)) ae) [Z (obD P S),Z .non,none,none] st=some ((qeZ 0 P.n).map λc=>D.int ((c:Nat)),st):=by
  have e2:bX 0 P.n=(qeZ 0 P.n).map λc=>D.int ((c:Nat)):=by
   unfold bX;rw[qg3];exact qbw λk _=>by rw[qcP]
  rw[<-e2];exact (gO (aF (ac (l7 U) U) (show aY st [.d _]=some _ by rw[jY,aH])) (by lia) (by lia) (by lia))
 rcases qc h hA P.n 0 .non none none (by lia) (.inl rfl) (λ_ c hc=>absurd hc (by lia)) with⟨c,c1,c2,c3,e⟩|⟨y,w,n,y1,y2,e⟩
 ·exact .inl ⟨c,c1,c2,c3,ax U (aj U (gZ (bz hr e)))⟩
 ·exact .inr ⟨y,y1,y2,ax U (aj U (aj (bz hr e) U))⟩
end
end Own
set_option maxHeartbeats 1000000
namespace Own
open PySem L2
open Sx (Pb Tb Good Named Fe LV ZV piv lexP leastR leaveL sumN unit colV basis)
theorem i9 {n k:Nat} (h:k<n):ixN n (k:Int)=some k:=by
 unfold ixN;rw[iFP (by lia),iFP (by lia)];rfl
theorem EN (n:Nat) (f g:Nat->Int):dc (mpI n f) (mpI n g)=(qam n).map λc=>D.tup [.int (f c),.int (g c)]:=by
 apply qbX;intro i;rw[gy,qaF];by_cases hi:i<n
 ·rw[bF hi,bF hi,qbL hi];rfl
 ·rw[qaQ (by rw[aH];lia),qaQ (l:=qam n) (by rw[qav];lia)];rfl
theorem CI {te:Ef}{l:Ev}{st:Sto}{g:Nat->D×D} (F:Nat->D) {a:List Nat} (h:∀ k∈a,te (Z (g k).1::some (.d (g k).2)::l) st=some (.d (F k),st)) :
  lcI (.tp [0,1]) aJ te (none::none::l) (a.map λk=>D.tup [(g k).1,(g k).2]) st=some (a.map F,st):=by
 have:=vi (tt:=aJ) _ F λk b=>⟨U,λ_=>h k b⟩
 rw[this,qhg.mpr λ_ _=>rfl]
theorem uJ {st:Sto}{n e:Nat}{f g:Nat->Int}{p:Int} (j:e<=n) (u:0<p) (sp:Sm p) (m:∀ c,c<=n->Sm (f c)) (sg:∀ c,c<=n->Sm (g c)) (hn:n<=1000) :
  ko [.d (.lst (mpI (n+1) f)),.d (.lst (mpI (n+1) g)),.d (.int (e:Int)),.d (.int p)] st=some (.d (.lst (mpI (n+1) λc=>if c=e then - f e else (g e*f c - f e*g c) / p)),st):=by
 have a:e<n+1:=by lia
 have s:cN (aa (iV 0) (aa (iV 1) ae)) [Z (.lst (mpI (n+1) f)),Z (.lst (mpI (n+1) g)),Z (.int (e:Int)),Z (.int p),Z (.int (g e)),Z (.int (f e)),none] st=some ((qam (n+1)).map λc=>D.tup [.int (f c),.int (g c)],st):=by
  rw[<-EN];rfl
 have r:lcI (.tp [0,1]) aJ kR [none,none,Z (.int (g e)),Z (.int (f e)),Z (.int p)] ((qam (n+1)).map λc=>D.tup [.int (f c),.int (g c)]) st=some (mpI (n+1) λc=>(g e*f c - f e*g c) / p,st):=by
  refine CI (g:=λc=>(D.int (f c),.int (g c))) _ λc t=>?_;have i:c<=n:=by have:=qaD.mp t;lia
  exact ag (ag (ag U U (cR st (Sm.mulOk (sg e j) (m c i)))) (ag U U (cR st (Sm.mulOk (m e j) (sg c i)))) U) U (kQ st u sp)
 have q:az (.nm 6) (dg (iLc 2 [4,5,3] (cN (aa (iV 0) (aa (iV 1) ae))) (.tp [0,1]) aJ kR)) [Z (.lst (mpI (n+1) f)),Z (.lst (mpI (n+1) g)),Z (.int (e:Int)),Z (.int p),Z (.int (g e)),Z (.int (f e)),none] st=some (.nx [Z (.lst (mpI (n+1) f)),Z (.lst (mpI (n+1) g)),Z (.int (e:Int)),Z (.int p),Z (.int (g e)),Z (.int (f e)),some (.h st.length)] (st++[.l (mpI (n+1) λc=>(g e*f c - f e*g c) / p)])):=by
  refine ak ?_
  have:=aM (k:=2) (js:=[4,5,3]) s (by rw[qaf,qav];lia) r
  simp only[dg,this,qak]
 have x:bC (iV 6) (iV 2) (iUn ef (iV 5)) [Z (.lst (mpI (n+1) f)),Z (.lst (mpI (n+1) g)),Z (.int (e:Int)),Z (.int p),Z (.int (g e)),Z (.int (f e)),some (.h st.length)] (st++[.l (mpI (n+1) λc=>(g e*f c - f e*g c) / p)])=some (.nx [Z (.lst (mpI (n+1) f)),Z (.lst (mpI (n+1) g)),Z (.int (e:Int)),Z (.int p),Z (.int (g e)),Z (.int (f e)),some (.h st.length)] (st++[.l (mpI (n+1) λc=>if c=e then - f e else (g e*f c - f e*g c) / p)])):=by
  have o:fG (st++[.l (mpI (n+1) λc=>(g e*f c - f e*g c) / p)]) (.h st.length) (.d (.int (e:Int))) (.d (.int (- f e)))=some (st++[.l (mpI (n+1) λc=>if c=e then - f e else (g e*f c - f e*g c) / p)]):=by
   simp only[fG,iH,qaa,aH,i9 a,qak,oz,gK]
  have v:iUn ef (iV 5) [Z (.lst (mpI (n+1) f)),Z (.lst (mpI (n+1) g)),Z (.int (e:Int)),Z (.int p),Z (.int (g e)),Z (.int (f e)),some (.h st.length)] _=some (.d (.int (- f e)),st++[.l (mpI (n+1) λc=>(g e*f c - f e*g c) / p)]):=rfl;have y:iV 6 [Z (.lst (mpI (n+1) f)),Z (.lst (mpI (n+1) g)),Z (.int (e:Int)),Z (.int p),Z (.int (g e)),Z (.int (f e)),some (.h st.length)] _=some (.h st.length,st++[.l (mpI (n+1) λc=>(g e*f c - f e*g c) / p)]):=rfl;have w:iV 2 [Z (.lst (mpI (n+1) f)),Z (.lst (mpI (n+1) g)),Z (.int (e:Int)),Z (.int p),Z (.int (g e)),Z (.int (f e)),some (.h st.length)] _=some (.d (.int (e:Int)),st++[.l (mpI (n+1) λc=>(g e*f c - f e*g c) / p)]):=rfl;simp only[bC,v,y,w,qaa,o,qak]
 have:=mM (n:=7) (k:=4) (b:=wa) (ws:=[.d (.lst (mpI (n+1) f)),.d (.lst (mpI (n+1) g)),.d (.int (e:Int)),.d (.int p)]) (st:=st) (h:=st.length) U (aj (ak (ag U U (eI st a))) (aj (ak (ag U U (eI st a))) (aj q (aj x U)))) (qan _) (iH _ _)
 rw[qcR]at this;exact this
abbrev stG (st0:Sto) (fr kp:List D) (fs:List (Str×W)):Sto:=st0++[.l fr,.l kp,.o fs]
def fsO (n:Nat) (b:List D) (a:List D) (p:Int) (L:Nat):List (Str×W):=[("amounts",.d (.int (n:Int))),("lines",.d (.lst b)),("goal",.d (.lst a)),("part",.d (.int p)),("free",.h L),("kept",.h (L+1))]
section
variable {st0:Sto}{fr kp:List D}{fs:List (Str×W)}
theorem sg2:(stG st0 fr kp fs)[st0.length+2]?=some (.o fs):=by rw[qaJ (by lia)];simp
theorem sg0:lg (stG st0 fr kp fs) st0.length=some fr:=by unfold lg;rw[qaJ (by lia)];simp
theorem sg1:lg (stG st0 fr kp fs) (st0.length+1)=some kp:=by unfold lg;rw[qaJ (by lia)];simp
theorem ss2 {c:List (Str×W)}:(stG st0 fr kp fs).set (st0.length+2) (.o c)=stG st0 fr kp c:=by simp
theorem ss0 {x:List D}:(stG st0 fr kp fs).set st0.length (.l x)=stG st0 x kp fs:=by simp
theorem ss1 {x:List D}:(stG st0 fr kp fs).set (st0.length+1) (.l x)=stG st0 fr x fs:=by simp
theorem lw {f:Str}{w:W}{a:Ef}{env:Ev} (h:a env (stG st0 fr kp fs)=some (.h (st0.length+2),stG st0 fr kp fs)) (b:fs.lookup f=some w):aA f a env (stG st0 fr kp fs)=some (w,stG st0 fr kp fs):=by
 simp only[aA,h,qaa,sg2,b,qak]
theorem rY {f:Str}{x:D}{o v:Ef}{env:Ev} (e:v env (stG st0 fr kp fs)=some (.d x,stG st0 fr kp fs)) (i:o env (stG st0 fr kp fs)=some (.h (st0.length+2),stG st0 fr kp fs)) (g:fs.length<1000) (b:(fs.lookup f).isSome=true):lD f o v env (stG st0 fr kp fs)=some (.nx env (stG st0 fr kp (oo f (.d x) fs))):=by
 simp only[lD,e,i,qaa,sg2,g,b,and_self,if_true,ss2]
end
section
variable {n L:Nat}{b a c e:List D}{p f:Int}
theorem B1:oo ("goal" : Str) (.d (.lst e)) (fsO n b a p L)=fsO n b e p L:=rfl
theorem Ab:oo ("lines" : Str) (.d (.lst c)) (fsO n b a p L)=fsO n c a p L:=rfl
theorem B2:oo ("part" : Str) (.d (.int f)) (fsO n b a p L)=fsO n b a f L:=rfl
theorem ud:(fsO n b a p L).lookup ("lines" : Str)=some (.d (.lst b)):=rfl
theorem Bt:(fsO n b a p L).lookup ("goal" : Str)=some (.d (.lst a)):=rfl
theorem Bu:(fsO n b a p L).lookup ("part" : Str)=some (.d (.int p)):=rfl
end
def stO (st0:Sto) (P:Pb) (S:Tb):Sto:=stG st0 (mpI P.n (nI S.free)) (mpI P.m (nI S.kept)) (fsO P.n (aX P.m P.n S.T) (mpI (P.n+1) S.G) S.p st0.length)
theorem AJ {st0:Sto}{P:Pb}{S:Tb}{ws:List W}{a:List W} (h:vwA (stO st0 P S) ws=some a):vwA (stO st0 P S) (.h (st0.length+2)::ws)=some (.d (obD P S)::a):=by
 have e:vwW (stO st0 P S) (.h (st0.length+2))=some (.d (obD P S)):=by
  unfold vwW stO;dsimp only;rw[sg2];dsimp only
  have:vwF (stG st0 (mpI P.n (nI S.free)) (mpI P.m (nI S.kept)) (fsO P.n (aX P.m P.n S.T) (mpI (P.n+1) S.G) S.p st0.length)) (fsO P.n (aX P.m P.n S.T) (mpI (P.n+1) S.G) S.p st0.length)=some [.int (P.n),.lst (aX P.m P.n S.T),.lst (mpI (P.n+1) S.G),.int S.p,.lst (mpI P.n (nI S.free)),.lst (mpI P.m (nI S.kept))]:=by
   simp only[fsO,vwF,qak,qaa];rw[sg0,sg1];rfl
  rw[this];rfl
 simp only[vwA,e,h,qaa,qak]
theorem yj {m n r:Nat}{F:Nat->Nat->Int}{g:Nat->Int}:((qam m).map λi=>D.lst (mpI (n+1) (F i))).set r (.lst (mpI (n+1) g))=aX m n λi=>if i=r then g else F i:=by
 apply qbX;intro i;by_cases hi:i<m
 ·rw[n8 hi]
  by_cases e:i=r
  ·subst e
   rw[qbm (by rw[qaf,qav];exact hi)];unfold lnD;dsimp only;rw[iFP U]
  ·rw[qbE (qbz e),qaF,qbL hi]
   unfold lnD;dsimp only;rw[iFN e];rfl
 ·rw[qaQ (by rw[qcd,qaf,qav];lia),qaQ (by rw[cK];lia)]
theorem Be {st0:Sto}{P:Pb}{S:Tb} (h:Okt P S) {r e:Nat} (w:r<P.m) (K:e<P.n):eQ [.h (st0.length+2),.d (.int (r:Int)),.d (.int (e:Int))] (stO st0 P S)=some (.d .non,stO st0 P (piv S r e)):=by
 have hm:=h.m64;have hn:=h.n64;have N:=h.good.pos
 -- turning,part
 generalize u:S.T=T at *;have fin:∀ (env:Ev) (s:Sto),jz [some _,some _,some _,none,none,none,none] _=some (.nx env s)->s.take (stO st0 P S).length=s->eQ [.h (st0.length+2),.d (.int (r)),.d (.int (e))] _=some (.d .non,s):=λenv s Y h2=>by
  show (jz [some _,some _,some _,none,none,none,none] _).bind _=_;rw[Y];show some (W.d .non,s.take (stO st0 P S).length)=_;rw[h2]
 have q:∀ (a b c d g i:Option W) (s:Sto),iV 0 [some _,a,b,c,d,g,i] s=some (.h (st0.length+2),s):=λ_ _ _ _ _ _ _=>rfl;have s3:az (.nm 3) (iOp dIx (aA ("lines") (iV 0)) (iV 1)) [some (.h (st0.length+2)),some (.d (.int (r))),some (.d (.int (e))),none,none,none,none] (stO st0 P S)=some (.nx [some (.h (st0.length+2)),some (.d (.int (r))),some (.d (.int (e))),some (.d (.lst (mpI (P.n+1) (T r)))),none,none,none] (stO st0 P S)):=by
  refine ak (ag (lw (q _ _ _ _ _ _ _) ud) U ?_);rw[u];exact tY _ w
 have sT:∀ i c,i<P.m->c<=P.n->Sm (T i c):=λi c hi m=>by rw[<-u];exact h.sT i c hi m
 have C:iLc 1 [3,2,4] (aB (aA ("lines" : Str) (iV 0))) (.nm 0) aJ dU [some (.h (st0.length+2)),some (.d (.int (r:Int))),some (.d (.int (e:Int))),some (.d (.lst (mpI (P.n+1) (T r)))),some (.d (.int S.p)),none,none] (stO st0 P S)=some ((qam P.m).map λi=>D.lst (mpI (P.n+1) λc=>if c=e then - T i e else (T r e*T i c - T i e*T r c) / S.p),stO st0 P S):=by
  refine aM (aT (lw (f:=("lines" : Str)) (a:=iV 0) (st0:=st0) (fr:=mpI P.n (nI S.free)) (kp:=mpI P.m (nI S.kept)) (fs:=fsO P.n (aX P.m P.n S.T) (mpI (P.n+1) S.G) S.p st0.length) (q (some (.d (.int (r:Int)))) (some (.d (.int (e:Int)))) (some (.d (.lst (mpI (P.n+1) (T r))))) (some (.d (.int S.p))) none none _) ud)) (by rw[cK];lia) ?_
  show lcI (.nm 0) aJ dU [none,some (.d (.lst (mpI (P.n+1) (T r)))),some (.d (.int (e:Int))),some (.d (.int S.p))] (aX P.m P.n S.T) (stO st0 P S)=_;rw[show aX P.m P.n S.T=(qam P.m).map (lnD P.n T) by rw[u];rfl];refine iF (g:=lnD P.n T) _ λi hi=>?_;exact ai (ws:=[.d (lnD P.n T i),.d (.lst (mpI (P.n+1) (T r))),.d (.int (e:Int)),.d (.int S.p)]) U (uJ (f:=T i) (g:=T r) (by lia) N h.sp (λc m=>sT i c (qaD.mp hi) m) (λc m=>sT r c w m) (by lia))
 have s5:i3 5 1 2 3 4 (iLc 1 [3,2,4] (aB (aA ("lines" : Str) (iV 0))) (.nm 0) aJ dU) [some (.h (st0.length+2)),some (.d (.int (r:Int))),some (.d (.int (e:Int))),some (.d (.lst (mpI (P.n+1) (T r)))),some (.d (.int S.p)),none,none] (stO st0 P S)=some (.nx [some (.h (st0.length+2)),some (.d (.int (r:Int))),some (.d (.int (e:Int))),some (.d (.lst (mpI (P.n+1) (T r)))),some (.d (.int S.p)),some (.d (.lst (aX P.m P.n (piv S r e).T))),none] (stO st0 P S)):=by
  simp only[i3,C,qaa,qaY,qaO];rw[qaf,qav,i9 w,aH,i9 (by lia:e<P.n+1),qaa,qaa,iFP ⟨by lia,by show 5<7;decide,uk _ _⟩,gK,yj];show some (Fl.nx [_,_,_,_,_,some (W.d (.lst (aX P.m P.n _))),none] _)=_
  have:(λi=>if i=r then (λj=>if j=e then S.p else T r j) else λc=>if c=e then - T i e else (T r e*T i c - T i e*T r c) / S.p)=(piv S r e).T:=by
   funext i c
   show _=if i=r then (if c=e then S.p else S.T r c) else _;rw[u];by_cases hi:i=r
   ·rw[iFP hi,iFP hi]
   ·rw[iFN hi,iFN hi]
  rw[this]
 have s6:=by
  have e0:=by
   funext c
   show _=if c=e then - S.G e else (S.T r e*S.G c - S.G e*S.T r c) / S.p;rw[u]
  have O:=uJ (st:=stO st0 P S) (f:=S.G) (g:=T r) (n:=P.n) (e:=e) (by lia) N h.sp (λc m=>h.sG c m) (λc m=>sT r c w m) (by lia);rw[e0]at O
  have:=rY (f:=("goal" : Str)) (o:=iV 0) (v:=ap ko (aa (aA ("goal" : Str) (iV 0)) (aa (iV 3) (aa (iV 2) (aa (iV 4) ae))))) (st0:=st0) (fr:=mpI P.n (nI S.free)) (kp:=mpI P.m (nI S.kept)) (fs:=fsO P.n (aX P.m P.n S.T) (mpI (P.n+1) S.G) S.p st0.length) (ai (ac (lw (f:=("goal" : Str)) (a:=iV 0) (st0:=st0) (fr:=mpI P.n (nI S.free)) (kp:=mpI P.m (nI S.kept)) (fs:=fsO P.n (aX P.m P.n S.T) (mpI (P.n+1) S.G) S.p st0.length) (q (some (.d (.int (r:Int)))) (some (.d (.int (e:Int)))) (some (.d (.lst (mpI (P.n+1) (T r))))) (some (.d (.int S.p))) (some (.d (.lst (aX P.m P.n (piv S r e).T)))) none _) Bt) (ac U (ac U (ac U U)))) O) (q _ _ _ _ _ _ _) (by show 6<1000;decide) U
  rw[B1]at this;exact this
 have X:=by
  have:=rY (f:=("lines" : Str)) (o:=iV 0) (v:=iV 5) (x:=.lst (aX P.m P.n (piv S r e).T)) (env:=[some (.h (st0.length+2)),some (.d (.int (r:Int))),some (.d (.int (e:Int))),some (.d (.lst (mpI (P.n+1) (T r)))),some (.d (.int S.p)),some (.d (.lst (aX P.m P.n (piv S r e).T))),none]) (st0:=st0) (fr:=mpI P.n (nI S.free)) (kp:=mpI P.m (nI S.kept)) (fs:=fsO P.n (aX P.m P.n S.T) (mpI (P.n+1) (piv S r e).G) S.p st0.length) U U (by show 6<1000;decide) U
  rw[Ab]at this;exact this
 have M:lD ("part" : Str) (iV 0) (iOp dIx (iV 3) (iV 2)) [some (.h (st0.length+2)),some (.d (.int (r:Int))),some (.d (.int (e:Int))),some (.d (.lst (mpI (P.n+1) (T r)))),some (.d (.int S.p)),some (.d (.lst (aX P.m P.n (piv S r e).T))),none] (stG st0 (mpI P.n (nI S.free)) (mpI P.m (nI S.kept)) (fsO P.n (aX P.m P.n (piv S r e).T) (mpI (P.n+1) (piv S r e).G) S.p st0.length))=some (.nx [some (.h (st0.length+2)),some (.d (.int (r:Int))),some (.d (.int (e:Int))),some (.d (.lst (mpI (P.n+1) (T r)))),some (.d (.int S.p)),some (.d (.lst (aX P.m P.n (piv S r e).T))),none] (stG st0 (mpI P.n (nI S.free)) (mpI P.m (nI S.kept)) (fsO P.n (aX P.m P.n (piv S r e).T) (mpI (P.n+1) (piv S r e).G) (piv S r e).p st0.length))):=by
  have ep:(piv S r e).p=T r e:=by show S.T r e=_;rw[u]
  have:=rY (f:=("part" : Str)) (o:=iV 0) (v:=iOp dIx (iV 3) (iV 2)) (x:=.int (T r e)) (env:=[some (.h (st0.length+2)),some (.d (.int (r:Int))),some (.d (.int (e:Int))),some (.d (.lst (mpI (P.n+1) (T r)))),some (.d (.int S.p)),some (.d (.lst (aX P.m P.n (piv S r e).T))),none]) (st0:=st0) (fr:=mpI P.n (nI S.free)) (kp:=mpI P.m (nI S.kept)) (fs:=fsO P.n (aX P.m P.n (piv S r e).T) (mpI (P.n+1) (piv S r e).G) S.p st0.length) (ag U U (eI _ (by lia))) U (by show 6<1000;decide) U
  rw[B2]at this;rw[ep];exact this
 generalize t:fsO P.n (aX P.m P.n (piv S r e).T) (mpI (P.n+1) (piv S r e).G) (piv S r e).p st0.length=FS at M;generalize V:W.d (.lst (aX P.m P.n (piv S r e).T))=LN at *;generalize R:W.d (.lst (mpI (P.n+1) (T r)))=TR at *;have y:∀ {fr kp:List D}{k:Nat}{d:D},fr[k]?=some d->dIx (stG st0 fr kp FS) (.h st0.length) (.d (.int (k:Int)))=some d:=λ{fr kp k d} B=>by
  show (lg (stG st0 fr kp FS) st0.length).bind (λds=>atI ds (k:Int))=_;rw[sg0,qaa,bZ B]
 have z:∀ {fr kp:List D}{k:Nat}{d:D},kp[k]?=some d->dIx (stG st0 fr kp FS) (.h (st0.length+1)) (.d (.int (k:Int)))=some d:=λ{fr kp k d} B=>by
  show (lg (stG st0 fr kp FS) (st0.length+1)).bind (λds=>atI ds (k:Int))=_;rw[sg1,qaa,bZ B]
 have Q:FS.lookup ("free" : Str)=some (.h st0.length):=by rw[<-t];rfl
 have L:FS.lookup ("kept" : Str)=some (.h (st0.length+1)):=by rw[<-t];rfl
 have E:bC (aA ("free" : Str) (iV 0)) (iV 2) (iOp dIx (aA ("kept" : Str) (iV 0)) (iV 1)) [some (.h (st0.length+2)),some (.d (.int (r:Int))),some (.d (.int (e:Int))),some TR,some (.d (.int S.p)),some LN,some (.d (.int (nI S.free e)))] (stG st0 (mpI P.n (nI S.free)) (mpI P.m (nI S.kept)) FS)=some (.nx [some (.h (st0.length+2)),some (.d (.int (r:Int))),some (.d (.int (e:Int))),some TR,some (.d (.int S.p)),some LN,some (.d (.int (nI S.free e)))] (stG st0 (mpI P.n (nI (piv S r e).free)) (mpI P.m (nI S.kept)) FS)):=by
  have J:iOp dIx (aA ("kept" : Str) (iV 0)) (iV 1) [some (.h (st0.length+2)),some (.d (.int (r:Int))),some (.d (.int (e:Int))),some TR,some (.d (.int S.p)),some LN,some (.d (.int (nI S.free e)))] (stG st0 (mpI P.n (nI S.free)) (mpI P.m (nI S.kept)) FS)=some (.d (.int (nI S.kept r)),stG st0 (mpI P.n (nI S.free)) (mpI P.m (nI S.kept)) FS):=ag (lw (q _ _ _ _ _ _ _) L) U (z (bF w))
  have F:=lw (f:=("free" : Str)) (a:=iV 0) (st0:=st0) (fr:=mpI P.n (nI S.free)) (kp:=mpI P.m (nI S.kept)) (fs:=FS) (q (some (.d (.int (r:Int)))) (some (.d (.int (e:Int)))) (some TR) (some (.d (.int S.p))) (some LN) (some (.d (.int (nI S.free e)))) _) Q
  have A:iV 2 [some (.h (st0.length+2)),some (.d (.int (r:Int))),some (.d (.int (e:Int))),some TR,some (.d (.int S.p)),some LN,some (.d (.int (nI S.free e)))] (stG st0 (mpI P.n (nI S.free)) (mpI P.m (nI S.kept)) FS)=some (.d (.int (e:Int)),stG st0 (mpI P.n (nI S.free)) (mpI P.m (nI S.kept)) FS):=rfl;have H:fG (stG st0 (mpI P.n (nI S.free)) (mpI P.m (nI S.kept)) FS) (.h st0.length) (.d (.int (e:Int))) (.d (.int (nI S.kept r)))=some (stG st0 (mpI P.n (nI (piv S r e).free)) (mpI P.m (nI S.kept)) FS):=by
   simp only[fG,sg0,qaa,aH,i9 K,qak,ss0,gK]
   congr 3
   funext j
   show _=(((if j=e then S.kept r else S.free j:Nat)):Int);by_cases l:j=e
   ·rw[iFP l,iFP l];rfl
   ·rw[iFN l,iFN l];rfl
  simp only[bC,J,F,A,qaa,H,qak]
 have I:bC (aA ("kept" : Str) (iV 0)) (iV 1) (iV 6) [some (.h (st0.length+2)),some (.d (.int (r:Int))),some (.d (.int (e:Int))),some TR,some (.d (.int S.p)),some LN,some (.d (.int (nI S.free e)))] (stG st0 (mpI P.n (nI (piv S r e).free)) (mpI P.m (nI S.kept)) FS)=some (.nx [some (.h (st0.length+2)),some (.d (.int (r:Int))),some (.d (.int (e:Int))),some TR,some (.d (.int S.p)),some LN,some (.d (.int (nI S.free e)))] (stG st0 (mpI P.n (nI (piv S r e).free)) (mpI P.m (nI (piv S r e).kept)) FS)):=by
  have J:iV 6 [some (.h (st0.length+2)),some (.d (.int (r:Int))),some (.d (.int (e:Int))),some TR,some (.d (.int S.p)),some LN,some (.d (.int (nI S.free e)))] (stG st0 (mpI P.n (nI (piv S r e).free)) (mpI P.m (nI S.kept)) FS)=some (.d (.int (nI S.free e)),stG st0 (mpI P.n (nI (piv S r e).free)) (mpI P.m (nI S.kept)) FS):=rfl;have F:=lw (f:=("kept" : Str)) (a:=iV 0) (st0:=st0) (fr:=mpI P.n (nI (piv S r e).free)) (kp:=mpI P.m (nI S.kept)) (fs:=FS) (q (some (.d (.int (r:Int)))) (some (.d (.int (e:Int)))) (some TR) (some (.d (.int S.p))) (some LN) (some (.d (.int (nI S.free e)))) _) L
  have A:iV 1 [some (.h (st0.length+2)),some (.d (.int (r:Int))),some (.d (.int (e:Int))),some TR,some (.d (.int S.p)),some LN,some (.d (.int (nI S.free e)))] (stG st0 (mpI P.n (nI (piv S r e).free)) (mpI P.m (nI S.kept)) FS)=some (.d (.int (r:Int)),stG st0 (mpI P.n (nI (piv S r e).free)) (mpI P.m (nI S.kept)) FS):=rfl;have H:fG (stG st0 (mpI P.n (nI (piv S r e).free)) (mpI P.m (nI S.kept)) FS) (.h (st0.length+1)) (.d (.int (r:Int))) (.d (.int (nI S.free e)))=some (stG st0 (mpI P.n (nI (piv S r e).free)) (mpI P.m (nI (piv S r e).kept)) FS):=by
   simp only[fG,sg1,qaa,aH,i9 w,qak,ss1,gK]
   congr 3
   congr 1
   funext j
   show _=(((if j=r then S.free e else S.kept j:Nat)):Int);by_cases l:j=r
   ·rw[iFP l,iFP l];rfl
   ·rw[iFN l,iFN l];rfl
  simp only[bC,J,F,A,qaa,H,qak]
 have:=fin _ _ (aj s3 (aj (ak (lw (q _ _ _ _ _ _ _) Bu)) (aj s5 (aj s6 (aj X (aj M (aj (ak (ag (lw (q _ _ _ _ _ _ _) Q) U (y (bF K)))) (aj E I)))))))) ?_
 ·rw[this,<-t];rfl
 ·refine qb7 ?_
  unfold stO stG;rw[qax,qax];exact qan _
end Own
namespace Sx
theorem sumN_abs {n:Nat}{f:Nat->Int}{B:Nat} (h:∀ k,k<n->(f k).natAbs<=B):(sumN n f).natAbs<=n*B:=by
 induction n with
 |zero=>rw[sumN];omega
 |succ n w=>
  rw[sumN,qj8];have x:=w λk e=>h k (by omega);have q:=h n (by omega);omega
theorem sg_abs (k:Nat):(sg k).natAbs=1:=by unfold sg;split<;>rfl
theorem det_le {B X:Nat}:∀ (m:Nat) {C:Nat->Vec},m*B<=X->(∀ k t,k<m->t<m->(C k t).natAbs<=B)->(det m C).natAbs<=X^m
 |0,C,_,_=>by exact qan _
 |m+1,C,o,h=>by
  have:=sumN_abs (f:=λk=>sg k*C k 0*det m _) λk e=>by
   rw[qb3,qb3,sg_abs,qj6];exact qde (h k 0 e (by omega)) (det_le m (C:=λj t=>C (skip k j) (t+1)) (qaS (qcq B (by omega)) o) λj t z d=>h _ _ (by unfold skip;split<;>omega) (by omega))
  refine qaS this ?_;rw[<-Nat.mul_assoc,Nat.pow_succ,qfF (X^m)];exact qcq _ o
structure Bd (P:Pb):Prop where
 m64:P.m<=64
 n64:P.n<=100
 A:∀ k,k<P.n+P.m->∀ t,t<P.m->(P.A k t).natAbs<=2^50
 b:∀ t,t<P.m->(P.b t).natAbs<=2^50
 g:∀ k,k<P.n+P.m->(P.g k).natAbs<=2^50
variable {P:Pb}
theorem Bd.det (h:Bd P) {C:Nat->Vec} (u:∀ k t,k<P.m->t<P.m->(C k t).natAbs<=2^50):(det P.m C).natAbs<=2^3584:=by
 have hm:=h.m64
 refine qaS (det_le (X:=2 ^ 56) P.m (by
  have:P.m*2^50<=64*2^50:=qcq _ hm
  exact qaS this (by decide)) u) ?_
 rw[<-qj5];exact qbS (by decide) (by omega)
theorem unit_le (r t:Nat):(unit r t).natAbs<=2^50:=by unfold unit;split<;>decide
theorem Bd.basis (h:Bd P) {S:Tb} (hn:Named P S) {v:Vec} (p:∀ t,t<P.m->(v t).natAbs<=2^50) (i k t:Nat) (e:k<P.m) (d:t<P.m):(upd (basis P S) i v k t).natAbs<=2^50:=by
 unfold upd;split
 ·exact p t d
 ·exact h.A _ (hn.bound.2 k e) t d
theorem Bd.T (h:Bd P) {S:Tb} (hg:Good P S) (hn:Named P S) {i c:Nat} (hi:i<P.m) (l:c<=P.n):(S.T i c).natAbs<=2^3584:=by
 rw[hg.entry l hi];refine h.det λk t e d=>h.basis hn (λt d=>?_) i k t e d;unfold colV;by_cases a:c<P.n
 ·rw[iFP a];exact h.A _ (hn.bound.1 c a) t d
 ·rw[iFN a];exact h.b t d
theorem Bd.L (h:Bd P) {S:Tb} (hn:Named P S) (i s:Nat):(LV P S i s).natAbs<=2^3584:=by
 refine h.det λk t e d=>h.basis hn (λt d=>?_) i k t e d;unfold XV;split
 ·exact h.b t d
 ·exact unit_le _ _
theorem Bd.p (h:Bd P) {S:Tb} (hg:Good P S) (hn:Named P S):S.p.natAbs<=2^3584:=by
 rw[hg.dt];exact h.det λk t e d=>h.A _ (hn.bound.2 k e) t d
theorem Bd.G (h:Bd P) {S:Tb} (hg:Good P S) (hn:Named P S) {c:Nat} (l:c<=P.n):(S.G c).natAbs<=65*(2^50*2^3584):=by
 rw[hg.goal c l];have x:=sumN_abs λi hi=>by
  rw[qb3];exact qde (h.g _ (hn.bound.2 i hi)) (h.T hg hn hi l)
 have q:(S.p*gainC P S c).natAbs<=2^50*2^3584:=by
  rw[qb3,qfF];refine qde ?_ (h.p hg hn);unfold gainC;by_cases a:c<P.n
  ·rw[iFP a];exact h.g _ (hn.bound.1 c a)
  ·rw[iFN a];decide
 have y:P.m*_<=64*(2^50*2^3584):=qcq _ h.m64;omega
end Sx
set_option maxHeartbeats 1000000
namespace Own
open PySem L2
open Sx (Pb Tb Good Named Fe LV ZV piv lexP leastR leaveL sumN unit colV basis)
theorem xo {a b:Nat} (h:a<b):2^a<2^b:=qhd (by decide) h
theorem Ar {z:Int} (h:z.natAbs<=2^3584):Sm z:=qaZ h (xo (by decide))
theorem Es {z:Int} (h:z.natAbs<=65*(2^50*2^3584)):Sm z:=by
 refine qaZ h ?_;refine qaZ (qcq _ (by decide:65<=2^7)) ?_;rw[<-qfc,<-qfc];exact xo (by decide)
theorem DR {P:Pb}{S:Tb} (b:Sx.Bd P) (g:Good P S) (n:Named P S):Okt P S:=by
 have d:=b.m64;exact⟨g,n,by lia,b.n64,λi c hi a=>Ar (b.T g n hi a),λi s _ _=>Ar (b.L n i s),λc a=>Es (b.G g n a),Ar (b.p g n)⟩
theorem CZ {c:Tf}{b:Sf}{m:Nat}{env:Ev}{st s:Sto} (h:c env st=some (false,s)):bM c b (m+1) env st=some (.nx env s):=by
 rw[bM,h];rfl
theorem Ad {c:Tf}{b:Sf}{m:Nat}{env e:Ev}{st s a:Sto}{r:Option Fl} (h:c env st=some (true,s)) (hb:b env s=some (.nx e a)) (d:bM c b m e a=r):bM c b (m+1) env st=r:=by
 rw[bM,h];show ((b env s).bind _)=_;rw[hb];exact d
theorem FO {c:Tf}{b:Sf}{m:Nat}{env:Ev}{st s a:Sto}{w:W} (h:c env st=some (true,s)) (hb:b env s=some (.rt w a)):bM c b (m+1) env st=some (.rt w a):=by
 rw[bM,h];show ((b env s).bind _)=_;rw[hb];rfl
theorem lC {st:Sto}{a0 a2:Option W}:∀ (n a b:Nat) (o:Option W),b<n->∃ c,bM eW fJ n [a0,Z (.int (a:Int)),a2,Z (.int (b:Int)),o] st=some (.nx [a0,Z (.int ((qbs a b:Nat):Int)),a2,Z (.int 0),c] st)
 |0,a,b,o,h=>by lia
 |n+1,a,b,o,h=>by
  by_cases hb:b=0
  ·subst hb
   refine⟨o,?_⟩;rw[qhF];exact CZ U
  ·have e:(!((b)==(0:Int)))=true:=by lia
   obtain⟨c,j⟩:=lC n b (a%b) _ (by have:=qlo a (qhE hb);lia);refine⟨c,?_⟩;have f:qbs a b=qbs b (a%b):=by rw[qfH a b,qj7 b a,qfH]
   have g:(0)<(b:Int):=by lia
   have i:fW st (.d (.int (a))) (.d (.int (b)))=some (.int ((a%b:Nat))):=by
    simp only[fW,g,if_true];rfl
   rw[f,<-j];exact Ad (ay U U ((CN st _).trans (by rw[e]))) (aj (ak (ag U U i)) U) U
theorem qB {st:Sto}{ns:List Int}{d0:D} (b:∀ (l:Ev) (s:Sto),aB (iV 0) (Z d0::l) s=some (ns.map D.int,s)) (hn:∀ n∈ns,Sm n):bu [.d d0] st=some (.d (.int ((bO 0 ns:Nat):Int)),st):=by
 obtain⟨k,t,j,⟨f,h,a,rfl⟩,rfl⟩:=bH (g:=.nm 2) (body:=ft) (λi env s=>(∃ f h a,env=[Z d0,Z (.int ((bO 0 (ns.take i)))),f,h,a])/\s=st)
  ⟨⟨_,_,_,U⟩,U⟩ (λi d env s hd ⟨⟨f,h,a,e⟩,es⟩=>by
   subst e es;rw[qaF,qad]at hd;obtain⟨n,m,rfl⟩:=hd;obtain⟨hi,c⟩:=qar.mp m;have o:Dg s [.d (.int n)]=some (.int ((n.natAbs))):=by
    show some _=_;rw[show (if n<0 then -n else n)=((n.natAbs)) by split<;>lia]
   have p:bO 0 (ns.take (i+1))=qbs (bO 0 (ns.take i)) n.natAbs:=by
    rw[qfm hi,c,nw]
   obtain⟨q,r⟩:=lC (st:=s) (a0:=some (.d d0)) (a2:=some (.d (.int n))) (2^8000) (bO 0 (ns.take i)) n.natAbs a (qd5 (hn n (qbO m)) (xo (by decide)));refine⟨_,[some _,some _,Z (.int n),Z (.int 0),q],s,U,.inl ?_,⟨_,_,_,U⟩,U⟩;rw[p]
   exact aj (ak (aF (ac U U) o)) r)
 rw[qaf,qeq]at j;exact ax U (aj U (aj (bz (b _ _) j) U))
theorem nA {st:Sto}{ns:List Int} (hn:∀ n∈ns,Sm n):bu [.d (.lst (ns.map D.int))] st=some (.d (.int ((bO 0 ns:Nat):Int)),st):=qB (λ_ _=>aT U) hn
theorem m9 {te:Ef}{st:Sto}{ns:List Int}{g:Int} (b:0<g) (hg:Sm g) (a:te=iOp m7 (iV 0) (iV 1)):lcI (.nm 0) aJ te [none,Z (.int g)] (ns.map D.int) st=some ((ns.map λx=>x / g).map D.int,st):=by
 subst a
 rw [(ja (λd=>match d with | .int x=>.int (x / g) | d=>d) λd hd=>by
  obtain⟨y,c,rfl⟩:=qaz.mp hd
  exact⟨_,U,ag U U (kQ st b hg)⟩),qaG,qaG];rfl
theorem jE {ns:List Int}{x:Int} (d:x∈ns) (c:x≠0) (a:Sm x):0<((bO 0 ns:Nat):Int)/\Sm ((bO 0 ns:Nat):Int):=by
 obtain⟨e,b⟩:=ny d c;refine⟨by lia,?_⟩;exact qaZ b a
theorem vw {st:Sto}{ns:List Int} (hb:∀ x∈ns,Sm x) (e:∃ x∈ns,x≠0) (k:ns.length<=1000):bQ [.d (.lst (ns.map D.int))] st=some (.d (.tup ((ns.map λx=>x / ((bO 0 ns:Nat):Int)).map D.int)),st):=by
 obtain⟨x,a,c⟩:=e;have j:=nA (st:=st) hb;obtain⟨i,b⟩:=jE a c (hb x a);generalize ((bO 0 ns):Int)=g at *;have h:(g==(0))=false:=by lia
 have f:(ns.map D.int).length<=1000000:=by rw[qaf];lia
 exact ax U (aj (ak (ai U j)) (aj (bT (ay U U (by rw[dw,h])) U) (aD (aF (ac (ao (aM (aT U) f (m9 i b U))) U) U))))
def acc (e:Nat->Nat) (y:Nat->Int) (i k:Nat):Int:=sumN i λj=>if e j=k then y j else 0
theorem sB (e:Nat->Nat) (y:Nat->Int) (i k:Nat):acc e y (i+1) k=acc e y i k+if e i=k then y i else 0:=rfl
theorem mR {e:Nat->Nat}{y:Nat->Int}{i k:Nat} (h:∀ j,j<i->e j≠k):acc e y i k=0:=by
 unfold acc;rw[Sx.sumN_congr λj a=>iFN (h j a),Sx.sumN_zero]
theorem pS {e:Nat->Nat}{y:Nat->Int}{d N i:Nat} (hd:d<=e i) (b:∀ j,j<i->e j≠e i):(mpI N λr=>acc e y i (d+r)).set (e i - d) (.int (y i))=mpI N λr=>acc e y (i+1) (d+r):=by
 rw[gK];refine bG λr _=>?_;rw[sB];by_cases c:r=e i - d
 ·rw[mR λj a=>by have:=b j a;lia];lia
 ·lia
theorem sA {e:Nat->Nat}{y:Nat->Int}{d N i:Nat} (h:∀ r,r<N->e i≠d+r):(mpI N λr=>acc e y i (d+r))=mpI N λr=>acc e y (i+1) (d+r):=by
 refine bG λr a=>?_;rw[sB,iFN (h r a)];lia
theorem AN (n:Nat) (e:Nat->Nat) (y:Nat->Int) (d:Nat):(qaC n [D.int 0]).flatten=mpI n λr=>acc e y 0 (d+r):=by
 show _=(qam n).map λ_=>D.int 0
 induction n with
 |zero=>rfl
 |succ n a=>rw[qeT,qhf,a,qdR,qbJ];rfl
theorem je {f:Ef}{env:Ev}{st:Sto}{n:Nat} (a:f env st=some (.d (.int (n:Int)),st)) (hn:n<=900) (e:Nat->Nat) (y:Nat->Int) (d:Nat):dg (tH nV (au (bn (aa (iC (.int 0)) ae))) f) env st=some (.h st.length,st++[.l (mpI n λr=>acc e y 0 (d+r))]):=by
 have b:tH nV (au (bn (aa (iC (.int 0)) ae))) f env st=some (mpI n λr=>acc e y 0 (d+r),st):=by
  show ((f env st).bind λq=>(nV q.2 (.d (.lst [.int 0])) q.1).map λl=>(l,q.2))=_;rw[a];show (nV st _ _).map _=_;unfold nV;dsimp only;rw[iFP ⟨by decide,by lia,by lia⟩,qa7,AN n e y d];rfl
 simp only[dg,b,qak]
end Own
set_option maxHeartbeats 1000000
namespace Own
open PySem L2
open Sx (Pb Tb Good Named Fe LV ZV piv lexP leastR leaveL sumN unit colV basis)
theorem sIx {o i v:Ef}{env:Ev}{st:Sto}{xs:List D}{k:Nat}{d:D} (e:v env (st++[.l xs])=some (.d d,st++[.l xs])) (b:o env (st++[.l xs])=some (.h st.length,st++[.l xs])) (hi:i env (st++[.l xs])=some (.d (.int (k:Int)),st++[.l xs])) (c:k<xs.length):bC o i v env (st++[.l xs])=some (.nx env (st++[.l (xs.set k d)])):=by
 have a:fG (st++[.l xs]) (.h st.length) (.d (.int (k))) (.d d)=some (st++[.l (xs.set k d)]):=by
  simp only[fG,iH,qaa,i9 c,qak,oz]
 simp only[bC,e,b,hi,qaa,a,qak]
theorem qx {a:Ef}{env:Ev}{st:Sto}{m:Nat}{f:Nat->Nat} (h:a env st=some (.d (.lst (mpI m (nI f))),st)):cJ (aa a ae) env st=some ((qam m).map λi=>D.tup [.int ((i:Nat):Int),.int (nI f i)],st):=by
 have:=ac (b:=ae) h U
 rw[<-wl];simp only[cJ,this,qaa]
theorem oi {m:Nat}{g:Nat->D}{i:Nat}{d:D} (h:((qam m).map g)[i]?=some d):i<m/\d=g i:=by
 rw[qaF,qad]at h;obtain⟨k,b,rfl⟩:=h;obtain⟨hi,a⟩:=qar.mp b;rw[qhw]at a;rw[qav]at hi;exact⟨hi,by rw[a]⟩
theorem jg:∀ ns:List Int,vD (ns.map D.int)=true
 |[]=>rfl
 |n::ns=>jg ns
theorem zL (n:Nat) (f:Nat->Int):okT (.tup (mpI n f))=true:=by
 rw[bR];exact jg _
section
variable {P:Pb}{S:Tb}{st:Sto}
theorem ET (h:Okt P S):gI [.d (obD P S)] st=some (.d (.lst (mpI P.n λk=>acc S.kept (λi=>S.T i P.n) P.m k)),st):=by
 have hn:=h.n64;generalize M:(λi=>S.T i P.n)=y;have p:∀ (a b c:Option W) (s:Sto),iV 0 [some _,a,b,c] s=some (.d (obD P S),s):=λ_ _ _ _=>rfl;obtain⟨A,Y,w,⟨m,q,rfl⟩,rfl⟩:=bH (g:=.tp [2,3]) (body:=iD) (ds:=(qam P.m).map λi=>D.tup [.int _,.int (nI S.kept i)])
  (λi env s=>(∃ m q,env=[Z (obD P S),some (.h st.length),m,q])/\s=st++[.l (mpI P.n λr=>acc S.kept y i (0+r))])
  ⟨⟨_,_,U⟩,U⟩ (λi d env s hd ⟨⟨m,q,e⟩,es⟩=>by
   subst e es;obtain⟨hi,rfl⟩:=oi hd;refine⟨_,_,_,U,.inl ?_,⟨some (.d (.int ((i:Nat):Int))),Z (.int (nI S.kept i)),U⟩,U⟩;generalize u:(mpI P.n λr=>acc S.kept y i (0+r))=xs;have tl:aK dLt (iV 3) _ [Z (obD P S),some (.h st.length),Z (.int ((i:Nat):Int)),Z (.int (nI S.kept i))] (st++[.l xs])=some (decide _,st++[.l xs]):=ay U (cc (p _ _ _ _)) (zE _ _ _);by_cases t:S.kept i<P.n
   ·rw[decide_eq_true (by show ((S.kept i:Nat):Int)<_;lia)]at tl
    have L:iOp dIx (iOp dIx (aA ("lines" : Str) (iV 0)) (iV 2)) (iUn ef (iC (.int 1))) [Z (obD P S),some (.h st.length),Z (.int ((i:Nat):Int)),Z (.int (nI S.kept i))] (st++[.l xs])=some (.d (.int (y i)),st++[.l xs]):=by
     rw[<-M];exact ag (ag (cQ (p _ _ _ _)) U (tY _ hi)) U (wH _)
    have:=sIx (k:=S.kept i) L (o:=iV 1) (i:=iV 3) U U (by rw[<-u,aH];exact t)
    rw[<-u]at this ⊢ tl;rw[<-pS (d:=0) (N:=P.n) (e:=S.kept) (y:=y) (i:=i) (by lia) λj B e=>by have:=iz h.good (by lia) hi e;lia];exact d7 tl this
   ·rw[decide_eq_false (by show ¬ ((S.kept i:Nat):Int)<_;lia)]at tl
    rw[<-sA (d:=0) (N:=P.n) (e:=S.kept) (y:=y) (i:=i) λr G=>by lia,u]
    exact bT tl U)
 rw[qaf,qav]at w
 have:=mM (n:=4) (k:=1) (b:=jQ) (ws:=[.d (obD P S)]) (st:=st) (h:=st.length) U (aj (ak (je (st:=st) (cc (p none none none st)) (by lia) S.kept y 0)) (aj (bz (qx (pX (p _ _ _ _))) w) U)) (qan _) (iH _ _)
 rw[qcR]at this;simp only[qbj]at this;exact this
def pr (P:Pb) (S:Tb) (i r:Nat):Int:=if ∃ c,c<i/\S.free c=P.n+r then ZV P S (r+1) else 0
theorem FM (h:Okt P S) (hg:∀ r,r<P.m->P.g (P.n+r)=0):iL [.d (obD P S)] st=some (.d (.lst (mpI P.m λr=>ZV P S (r+1))),st):=by
 have hm:=h.m64;have hn:=h.n64;have p:∀ (a b c:Option W) (s:Sto),iV 0 [Z (obD P S),a,b,c] s=some (.d (obD P S),s):=λ_ _ _ _=>rfl;have hz:(mpI P.m λr=>acc S.free S.G 0 (0+r))=mpI P.m λr=>pr P S 0 r:=bG λr _=>by
  unfold pr;rw[iFN λ⟨c,Q,_⟩=>by lia];rfl
 have O:=by
  have:=aF (g:=aY) (ac (b:=ae) (cQ (p none none none st)) U) (jY _ _)
  rw[cK]at this;exact this
 have s1:=je (st:=st) O (by lia) S.free S.G 0;rw[hz]at s1;obtain⟨A,Y,w,⟨m,q,rfl⟩,rfl⟩:=bH (g:=.tp [2,3]) (body:=jv) (ds:=(qam P.n).map λi=>D.tup [.int ((i:Nat):Int),.int (nI S.free i)])
  (λi env s=>(∃ m q,env=[Z (obD P S),some (.h st.length),m,q])/\s=st++[.l (mpI P.m λr=>pr P S i r)])
  ⟨⟨_,_,U⟩,U⟩ (λi d env s hd ⟨⟨m,q,e⟩,es⟩=>by
   subst e es;obtain⟨hi,rfl⟩:=oi hd;refine⟨_,_,_,U,.inl ?_,⟨some (.d (.int ((i:Nat):Int))),Z (.int (nI S.free i)),U⟩,U⟩;have hb:=h.named.bound.1 i hi;generalize u:(mpI P.m λr=>pr P S i r)=xs;have tl:aK dGe (iV 3) (aA ("amounts" : Str) (iV 0)) [Z (obD P S),some (.h st.length),Z (.int ((i:Nat):Int)),Z (.int (nI S.free i))] (st++[.l xs])=some (decide (nI S.free i>=(P.n:Int)),st++[.l xs]):=ay U (cc (p _ _ _ _)) (E7 _ _ _)
   by_cases t:P.n<=S.free i
   ·rw[decide_eq_true (by show ((S.free i:Nat):Int)>=_;lia)]at tl
    have ho:iOp hW (iV 3) (aA ("amounts" : Str) (iV 0)) [Z (obD P S),some (.h st.length),Z (.int ((i:Nat):Int)),Z (.int (nI S.free i))] (st++[.l xs])=some (.d (.int ((S.free i - P.n:Nat):Int)),st++[.l xs]):=by
     rw[show ((S.free i - P.n:Nat):Int)=nI S.free i - (P.n:Int) by show _=((S.free i:Nat):Int) - _;lia];exact ag U (cc (p _ _ _ _)) U
    have L:iOp dIx (aA ("goal" : Str) (iV 0)) (iV 2) [Z (obD P S),some (.h st.length),Z (.int ((i:Nat):Int)),Z (.int (nI S.free i))] (st++[.l xs])=some (.d (.int (S.G i)),st++[.l xs]):=ag (l8 (p _ _ _ _)) U (eI _ (by lia))
    have:=sIx (k:=S.free i - P.n) L (o:=iV 1) U ho (by rw[<-u,aH];lia)
    have E:xs.set (S.free i - P.n) (.int (S.G i))=mpI P.m λr=>pr P S (i+1) r:=by
     rw[<-u,gK];refine bG λr G=>?_;by_cases er:r=S.free i - P.n
     ·rw[iFP er]
      unfold pr;rw[iFP ⟨i,by lia,by lia⟩];exact (Sx.price_free h.good h.named hg G hi (by lia)).symm
     ·rw[iFN er]
      unfold pr;by_cases ex:∃ c,c<i/\S.free c=P.n+r
      ·rw[iFP ex];obtain⟨c,I,v⟩:=ex;rw[iFP ⟨c,by lia,v⟩]
      ·rw[iFN ex,iFN λ⟨c,I,v⟩=>ex ⟨c,by
        by_cases z:c=i
        ·subst z;lia
        ·lia,v⟩]
    rw[<-E];exact d7 tl this
   ·rw[decide_eq_false (by show ¬ ((S.free i:Nat):Int)>=_;lia)]at tl
    have E:xs=mpI P.m λr=>pr P S (i+1) r:=by
     rw[<-u];refine bG λr G=>?_;unfold pr;by_cases ex:∃ c,c<i/\S.free c=P.n+r
     ·rw[iFP ex];obtain⟨c,I,v⟩:=ex;rw[iFP ⟨c,by lia,v⟩]
     ·rw[iFN ex,iFN λ⟨c,I,v⟩=>ex ⟨c,by
        by_cases z:c=i
        ·subst z;lia
        ·lia,v⟩]
    rw[<-E]
    exact bT tl U)
 rw[qaf,qav]at w
 have:=mM (n:=4) (k:=1) (b:=ly) (ws:=[.d (obD P S)]) (st:=st) (h:=st.length) U (aj (ak s1) (aj (bz (qx (l7 (p _ _ _ _))) w) U)) (qan _) (iH _ _)
 rw[qcR]at this
 rw[bG (f:=λr=>pr P S P.n r) (g:=λr=>ZV P S (r+1)) λr G=>by
  unfold pr;by_cases ex:∃ c,c<P.n/\S.free c=P.n+r
  ·rw[iFP ex]
  ·rw[iFN ex]
   rcases h.named.all (P.n+r) (by lia) with Q|⟨j,B,e⟩
   ·exact absurd Q ex
   ·exact (Sx.price_kept h.good h.named hg G B e).symm]at this
 exact this
theorem Gg (h:Okt P S) {e:Nat} (he:e<P.n) (ht:∀ i,i<P.m->S.T i e<=0) (hp:∃ k,k<P.n/\Sx.wayN P S e k≠0):∃ g:Int,0<g/\(∀ k,k<P.n->g∣Sx.wayN P S e k)/\kq [.d (obD P S),.d (.int (e:Int))] []=some (.d (.tup (mpI P.n λk=>Sx.wayN P S e k / g)),[]):=by
 have hm:=h.m64;have hn:=h.n64;have p:∀ (a b c d:Option W) (s:Sto),iV 0 [Z (obD P S),a,b,c,d] s=some (.d (obD P S),s):=λ_ _ _ _ _=>rfl;have T:∀ i,i<P.m->S.kept i≠S.free e:=λi hi e1=>by
  have I:=h.good.entry (c:=e) (by lia) hi;have v:colV P S e=basis P S i:=by unfold colV basis;rw[iFP he,e1]
  rw[v,Sx.upd_self,<-h.good.dt]at I
  have:=ht i hi
  have:=h.good.pos
  lia
 generalize M:(λi=>- S.T i e)=y;have hw:∀ k,Sx.wayN P S e k=if k=S.free e then S.p else acc S.kept y P.m k:=λk=>by
  show Sx.byName P S (λi=>- S.T i e) k+_=_;rw[M];by_cases t:k=S.free e
  ·rw[iFP t,iFP t.symm,Sx.byName_not λi hi=>by rw[t];exact T i hi];lia
  ·rw[iFN t,iFN (qbz t)]
   show acc S.kept y P.m k+0=_;lia
 obtain⟨A,Y,w,⟨m,q,rfl⟩,rfl⟩:=bH (g:=.tp [3,4]) (body:=nW) (ds:=(qam P.m).map λi=>D.tup [.int ((i:Nat):Int),.int (nI S.kept i)])
  (λi env s=>(∃ m q,env=[Z (obD P S),Z (.int (e:Int)),some (.h 0),m,q])/\s=[]++[.l (mpI P.n λr=>acc S.kept y i (0+r))])
  (env:=[Z (obD P S),Z (.int (e:Int)),some (.h 0),none,none]) (st:=[]++[.l (mpI P.n λr=>acc S.kept y 0 (0+r))]) ⟨⟨_,_,U⟩,U⟩ (λi d env s hd ⟨⟨m,q,e0⟩,es⟩=>by
   subst e0 es;obtain⟨hi,rfl⟩:=oi hd;refine⟨_,_,_,U,.inl ?_,⟨some (.d (.int ((i:Nat):Int))),Z (.int (nI S.kept i)),U⟩,U⟩;generalize u:(mpI P.n λr=>acc S.kept y i (0+r))=xs;have tl:aK dLt (iV 4) (aA ("amounts" : Str) (iV 0)) [Z (obD P S),Z (.int (e:Int)),some (.h 0),Z (.int ((i:Nat):Int)),Z (.int (nI S.kept i))] ([]++[.l xs])=some (decide (nI S.kept i<(P.n:Int)),[]++[.l xs]):=ay U (cc (p _ _ _ _ _)) (zE _ _ _)
   by_cases t:S.kept i<P.n
   ·rw[decide_eq_true (by show ((S.kept i:Nat):Int)<_;lia)]at tl
    have L:iUn ef (iOp dIx (iOp dIx (aA ("lines" : Str) (iV 0)) (iV 3)) (iV 1)) [Z (obD P S),Z (.int (e:Int)),some (.h 0),Z (.int ((i:Nat):Int)),Z (.int (nI S.kept i))] ([]++[.l xs])=some (.d (.int (y i)),[]++[.l xs]):=by
     rw[<-M]
     have:=ag (g:=dIx) (ag (g:=dIx) (cQ (p (Z (.int (e:Int))) (some (.h 0)) (Z (.int ((i:Nat):Int))) (Z (.int (nI S.kept i))) ([]++[C.l xs]))) (b:=iV 3) U (tY _ hi)) (b:=iV 1) U (tX (c:=e) _ (by lia))
     simp only[iUn,this,qaa];rfl
    have:=sIx (st:=[]) (k:=S.kept i) L (o:=iV 2) (i:=iV 4) U U (by rw[<-u,aH];exact t)
    rw[<-u]at this ⊢ tl;rw[<-pS (d:=0) (N:=P.n) (e:=S.kept) (y:=y) (i:=i) (by lia) λj B e=>by have:=iz h.good (by lia) hi e;lia];exact d7 tl this
   ·rw[decide_eq_false (by show ¬ ((S.kept i:Nat):Int)<_;lia)]at tl
    rw[<-sA (d:=0) (N:=P.n) (e:=S.kept) (y:=y) (i:=i) λr G=>by lia,u]
    exact bT tl U)
 rw[qaf,qav]at w;have s3:aZ (aK dLt (iOp dIx (aA ("free" : Str) (iV 0)) (iV 1)) (aA ("amounts" : Str) (iV 0))) (bC (iV 2) (iOp dIx (aA ("free" : Str) (iV 0)) (iV 1)) (aA ("part" : Str) (iV 0))) aR [Z (obD P S),Z (.int (e:Int)),some (.h 0),m,q] ([]++[.l (mpI P.n λr=>acc S.kept y P.m (0+r))])=some (.nx [Z (obD P S),Z (.int (e:Int)),some (.h 0),m,q] ([]++[.l (mpI P.n λk=>Sx.wayN P S e k)])):=by
  have qf:∀ s,iOp dIx (aA ("free" : Str) (iV 0)) (iV 1) [Z (obD P S),Z (.int (e:Int)),some (.h 0),m,q] s=some (.d (.int (nI S.free e)),s):=λs=>ag (l7 (p _ _ _ _ _)) U (eI _ he)
  generalize u:(mpI P.n λr=>acc S.kept y P.m (0+r))=xs;have tl:aK dLt (iOp dIx (aA ("free" : Str) (iV 0)) (iV 1)) (aA ("amounts" : Str) (iV 0)) [Z (obD P S),Z (.int (e:Int)),some (.h 0),m,q] ([]++[.l xs])=some (decide (nI S.free e<(P.n:Int)),[]++[.l xs]):=ay (qf _) (cc (p _ _ _ _ _)) (zE _ _ _)
  by_cases t:S.free e<P.n
  ·rw[decide_eq_true (by show ((S.free e:Nat):Int)<_;lia)]at tl
   have:=sIx (st:=[]) (k:=S.free e) (l9 (p (Z (.int (e:Int))) (some (.h 0)) m q ([]++[C.l xs]))) (o:=iV 2) (i:=iOp dIx (aA ("free" : Str) (iV 0)) (iV 1)) U (qf _) (by rw[<-u,aH];exact t)
   have E:xs.set (S.free e) (.int S.p)=mpI P.n λk=>Sx.wayN P S e k:=by
    rw[<-u,gK];refine bG λk _=>?_;rw[hw k,qbj]
   rw[E]at this;exact d7 tl this
  ·rw[decide_eq_false (by show ¬ ((S.free e:Nat):Int)<_;lia)]at tl
   have E:xs=mpI P.n λk=>Sx.wayN P S e k:=by
    rw[<-u];refine bG λk hk'=>?_;rw[hw k,qbj,iFN (by lia)]
   rw[<-E];exact bT tl U
 obtain⟨V,F,K⟩:=hp;have H:∀ x∈(qam P.n).map (Sx.wayN P S e),Sm x:=λx hx=>by
  obtain⟨k,t,rfl⟩:=qaz.mp hx;rw[hw k];by_cases z:k=S.free e
  ·rw[iFP z];exact h.sp
  ·rw[iFN z]
   by_cases ex:∃ i,i<P.m/\S.kept i=k
   ·obtain⟨i,hi,rfl⟩:=ex
    have:acc S.kept y P.m (S.kept i)=y i:=Sx.byName_at (λi j hi B=>iz h.good hi B) hi
    rw[this,<-M];show (- S.T i e).natAbs<_;rw[qiA];exact h.sT i e hi (by lia)
   ·rw[mR λj B e=>ex ⟨j,B,e⟩]
    exact qdU (by decide)
 have J:=vw (st:=[]) H ⟨_,qaz.mpr ⟨V,qaD.mpr F,U⟩,K⟩ (by rw[qaf,qav];lia);obtain⟨g0,g1⟩:=jE (ns:=(qam P.n).map (Sx.wayN P S e)) (qaz.mpr ⟨V,qaD.mpr F,U⟩) K (H _ (qaz.mpr ⟨V,qaD.mpr F,U⟩));have gd:∀ k,k<P.n->((bO 0 ((qam P.n).map (Sx.wayN P S e)):Nat):Int)∣Sx.wayN P S e k:=λk t=>qcn.mpr ((cV 0 _).2 _ (qaz.mpr ⟨k,qaD.mpr t,U⟩));generalize hG:((bO 0 ((qam P.n).map (Sx.wayN P S e)):Nat):Int)=g at *;refine⟨g,g0,gd,?_⟩;rw[<-bR,qaG,qaG]at J;have Q:df bQ (aa (iV 2) ae) [Z (obD P S),Z (.int (e:Int)),some (.h 0),m,q] ([]++[.l (mpI P.n λk=>Sx.wayN P S e k)])=some (.d (.tup (mpI P.n λk=>Sx.wayN P S e k / g)),[]++[.l (mpI P.n λk=>Sx.wayN P S e k)]):=by
  have ha:aa (iV 2) ae [Z (obD P S),Z (.int (e:Int)),some (.h 0),m,q] ([]++[.l (mpI P.n λk=>Sx.wayN P S e k)])=some ([.h 0],[]++[.l (mpI P.n λk=>Sx.wayN P S e k)]):=rfl;have X:vwA ([]++[.l (mpI P.n λk=>Sx.wayN P S e k)]) [.h 0]=some [.d (.lst (mpI P.n λk=>Sx.wayN P S e k))]:=rfl;have R:bQ [.d (.lst (mpI P.n λk=>Sx.wayN P S e k))] []=some (.d (.tup (mpI P.n λk=>Sx.wayN P S e k / g)),[]):=J;simp only[df,ha,qaa,X,R];rw[iFP];exact zL _ _
 have:=kA (n:=5) (k:=2) (b:=sM) (ws:=[.d (obD P S),.d (.int (e:Int))]) (st:=[]) U (aj (ak (je (st:=[]) (cc (p (Z (.int (e:Int))) none none none [])) (by lia) S.kept y 0)) (aj (bz (qx (pX (p _ _ _ _ _))) w) (aj s3 (aD Q))))
 exact this
end
end Own
set_option maxHeartbeats 1000000
namespace Own
open PySem L2
open Sx (Pb Tb Good Named Fe LV ZV piv lexP leastR leaveL sumN unit colV basis)
theorem m6 {m:Fn}{a:Af}{env:Ev}{st:Sto}{ws b:List W}{x:D} (c:a env st=some (ws,st)) (f:vwA st ws=some b) (hm:m b []=some (.d x,[])) (e:okT x=true):df m a env st=some (.d x,st):=by
 simp only[df,c,qaa,f,hm];rw[iFP e]
structure Pd (P:Pb):Prop where
 bd:Sx.Bd P
 hA:∀ k,k<P.n+P.m->∀ t,P.m<=t->P.A k t=0
 hb:∀ t,P.m<=t->P.b t=0
 hg:∀ r,r<P.m->P.g (P.n+r)=0
section
variable {P:Pb}{S:Tb}
theorem Pd.okt (d:Pd P) (g:Good P S) (n:Named P S):Okt P S:=DR d.bd g n
theorem Pd.kept (d:Pd P) (n:Named P S):∀ i,i<P.m->∀ t,P.m<=t->P.A (S.kept i) t=0:=λi hi t A=>d.hA _ (n.bound.2 i hi) t A
theorem Go (g:Good P S) (f:Fe P S):∀ i,i<P.m->0<=S.T i P.n:=λi hi=>by
 rw[g.entry (qan _) hi]
 have:colV P S P.n=Sx.XV P 0:=by unfold colV Sx.XV;rw[iFN (qa2 _),iFP U]
 rw[this];exact (Sx.lexP_first (by lia) (f i hi))
structure yL (P:Pb) (p:Int) (am pr:Nat->Int):Prop where
 p1:1<=p
 am0:∀ k,k<P.n->0<=am k
 pr0:∀ r,r<P.m->0<=pr r
 rows:∀ r,r<P.m->(sumN P.n λj=>am j*P.A j r)<=p*P.b r
 cols:∀ j,j<P.n->p*P.g j<=sumN P.m λr=>P.A j r*pr r
 same:(sumN P.m λr=>P.b r*pr r)=sumN P.n λj=>am j*P.g j
 sp:Sm p
 sa:∀ k,k<P.n->Sm (am k)
 sr:∀ r,r<P.m->Sm (pr r)
structure mO (P:Pb) (way:Nat->Int):Prop where
 w0:∀ k,k<P.n->0<=way k
 rows:∀ r,r<P.m->(sumN P.n λj=>way j*P.A j r)<=0
 gain:0<sumN P.n λj=>way j*P.g j
theorem ni {g a:Int} (h:g∣a):g*(a / g)=a:=qda h
theorem sd {n:Nat}{g:Int}{f h:Nat->Int} (hd:∀ k,k<n->g∣f k):g*(sumN n λk=>f k / g*h k)=sumN n λk=>f k*h k:=by
 rw[<-Sx.sumN_mul];refine Sx.sumN_congr λk m=>?_;rw[<-qbr,ni (hd k m)]
theorem xx {n:Nat}{g:Int}{f h:Nat->Int} (hd:∀ k,k<n->g∣f k):g*(sumN n λk=>h k*(f k / g))=sumN n λk=>h k*f k:=by
 rw[<-Sx.sumN_mul];refine Sx.sumN_congr λk m=>?_;rw[qaN,ni (hd k m)]
theorem Gi (h:Okt P S) (hg:∀ r,r<P.m->P.g (P.n+r)=0) (y:∀ c,c<P.n->0<=S.G c) {r:Nat} (l:r<P.m):Sm (ZV P S (r+1))/\0<=ZV P S (r+1):=by
 rcases h.named.all (P.n+r) (by lia) with⟨c,K,e⟩|⟨j,o,e⟩
 ·rw[Sx.price_free h.good h.named hg l K e];exact⟨h.sG c (by lia),y c K⟩
 ·rw[Sx.price_kept h.good h.named hg l o e];exact⟨qdU (by decide),qdG _⟩
theorem EU (h:Okt P S) (k:Nat):Sm (acc S.kept (λi=>S.T i P.n) P.m k):=by
 by_cases ex:∃ i,i<P.m/\S.kept i=k
 ·obtain⟨i,hi,rfl⟩:=ex
  have:acc S.kept (λi=>S.T i P.n) P.m _=S.T i P.n:=Sx.byName_at (λi j hi o=>iz h.good hi o) hi
  rw[this];exact h.sT i P.n hi (qan _)
 ·rw[mR λj o e=>ex ⟨j,o,e⟩]
  exact qdU (by decide)
theorem vm {g a b:Int} (g0:0<g) (h:g*a<=g*b):a<=b:=qdh h g0
theorem Sm.dv {a:Int} (h:Sm a) (q:Int):Sm (a / q):=qaZ (Int.natAbs_ediv_le_natAbs a q) h
theorem E2 (d:Pd P) (g:Good P S) (n:Named P S) (f:Fe P S) (y:∀ c,c<P.n->0<=S.G c):∃ p am pr,yL P p am pr/\gJ [.d (obD P S)] []=some (.d (.tup [.str "most",.int p,.tup (mpI P.n am),.tup (mpI P.m pr)]),[]):=by
 have h:=d.okt g n;have hm:=h.m64;have hn:=h.n64;have M:=Go g f;have e1:=ET (st:=[]) h;have e2:=FM (st:=[]) h d.hg;have hg:=d.hg;have M1:=λr l=>Sx.amounts_ok g n M (r:=r) l;have M2:=Sx.gains_amounts g n d.hg;have M3:=λj o=>Sx.prices_ok g n d.hA y (j:=j) o;have M4:=Sx.bounds_prices g d.hb;have M5:∀ k,0<=acc S.kept (λi=>S.T i P.n) P.m k:=λk=>Sx.byName_nonneg (P:=P) (S:=S) M k;have M6:=EU h;have M7:=λr l=>Gi h d.hg y (r:=r) l;have M9:∀ j,Sx.byName P S (λi=>S.T i P.n) j=acc S.kept (λi=>S.T i P.n) P.m j:=λ_=>rfl;simp only[M9]at M1 M2;generalize acc S.kept (λi=>S.T i P.n) P.m=am at *;generalize G:(λr=>ZV P S (r+1))=pr at *;have B:∀ r,ZV P S (r+1)=pr r:=λr=>by rw[<-G]
 simp only[B]at M3 M4 M7;have hns:D.int S.p::(mpI P.n am++mpI P.m pr)=(S.p::((qam P.n).map am++(qam P.m).map pr)).map D.int:=by
  rw[qas,qbJ,bR,bR]
 have E:∀ x∈S.p::((qam P.n).map am++(qam P.m).map pr),Sm x:=λx u=>by
  rcases qay.mp u with rfl|u
  ·exact h.sp
  ·rcases qaK.mp u with u|u
   ·obtain⟨k,_,rfl⟩:=qaz.mp u;exact M6 k
   ·obtain⟨k,m,rfl⟩:=qaz.mp u;exact (M7 k (qaD.mp m)).1
 have L:=nA (st:=[]) E;have O:=g.pos;obtain⟨v,J⟩:=jE qag (by lia) h.sp;have w:∀ x∈S.p::((qam P.n).map am++(qam P.m).map pr),_∣x:=λx u=>qcn.mpr ((cV 0 _).2 _ u);rw[<-hns]at L;generalize ((bO 0 _:Nat):Int)=q at *;have dp:q∣S.p:=w _ qag;have Q:=λk m=>w _ (qaj _ (qa0 _ (qaz.mpr ⟨k,qaD.mpr m,U⟩)));have R:=λk m=>w _ (qaj _ (qaw _ (qaz.mpr ⟨k,qaD.mpr m,U⟩)));refine⟨S.p / q,λk=>am k / q,λr=>pr r / q,⟨?_,λk _=>qeQ (M5 k) (by lia),λr l=>qeQ (M7 r l).2 (by lia),λr l=>?_,λj o=>?_,?_,h.sp.dv _,λk _=>(M6 k).dv _,λr l=>(M7 r l).1.dv _⟩,?_⟩
 ·have:=ni dp
  rcases Int.lt_or_le (S.p / q) 1 with z|z
  ·have:q*(S.p / q)<=q*0:=qba (by lia) (by lia)
   lia
  ·exact z
 ·refine vm v ?_
  rw[sd (h:=λj=>P.A j r) Q,<-qbr,ni dp];exact M1 r l
 ·refine vm v ?_
  rw[xx (h:=λr=>P.A j r) R,<-qbr,ni dp];exact M3 j o
 ·refine qed (a:=q) (by lia) ?_
  rw[xx (h:=λr=>P.b r) R,sd (h:=λj=>P.g j) Q,M4,M2]
 ·have C:∀ (a b c:Option W) (s:Sto),iV 0 [Z (obD P S),a,b,c] s=some (.d (obD P S),s):=λ_ _ _ _=>rfl
  have ka:lcI (.nm 0) aJ eE [none,Z (.int q)] (mpI P.n am) []=some (mpI P.n λk=>am k / q,[]):=by
   have:=m9 (te:=eE) (st:=[]) (ns:=(qam P.n).map am) v J U
   rw[<-bR,qaG,qaG]at this;exact this
  have T:lcI (.nm 0) aJ eD [none,Z (.int q)] (mpI P.m pr) []=some (mpI P.m λk=>pr k / q,[]):=by
   have:=m9 (te:=eD) (st:=[]) (ns:=(qam P.m).map pr) v J U
   rw[<-bR,qaG,qaG]at this;exact this
  have V:(mpI P.n am).length<=1000000:=by rw[aH];lia
  have X:(mpI P.m pr).length<=1000000:=by rw[aH];lia
  have F:[D.int S.p].length+(mpI P.n am).length<=1000000:=by rw[aH];show 1+_<=_;lia
  have I:([D.int S.p]++mpI P.n am).length+(mpI P.m pr).length<=1000000:=by rw[qax,aH,aH];show 1+_+_<=_;lia
  generalize mpI P.n am=AM at *;generalize mpI P.m pr=PR at *;have s3:az (.nm 3) (ap bu (aa (iOp bg (iOp bg (au (bn (aa (aA ("part" : Str) (iV 0)) ae))) (iV 1)) (iV 2)) ae)) [Z (obD P S),Z (.lst AM),Z (.lst PR),none] []=some (.nx [Z (obD P S),Z (.lst AM),Z (.lst PR),Z (.int q)] []):=by
   have Y:bn (aa (aA ("part" : Str) (iV 0)) ae) [Z (obD P S),Z (.lst AM),Z (.lst PR),none] []=some ([.int S.p],[]):=by
    have:=ac (b:=ae) (l9 (C (Z (.lst AM)) (Z (.lst PR)) none [])) U
    rfl
   exact ak (ai (ac (ag (ag (ao Y) U (fM _ F)) U (fM _ I)) U) L)
  exact ax (n:=4) (k:=1) (b:=jR) U (aj (ak (ai (ac (C _ _ _ _) U) e1)) (aj (ak (ai (ac (C _ _ _ _) U) e2)) (aj s3 (aD (Ek (ac U (ac (ag (l9 (C _ _ _ _)) U (kQ _ v J)) (ac (aF (ac (ao (aM (aT U) V ka)) U) U) (ac (aF (ac (ao (aM (aT U) X T)) U) U) U)))) U (by show 4<=1000;decide))))))
theorem EW (d:Pd P) (g:Good P S) (n:Named P S) {e:Nat} (H:e<P.n) (A:∀ i,i<P.m->S.T i e<=0) (y:S.G e<0):∃ way,mO P way/\kq [.d (obD P S),.d (.int (e:Int))] []=some (.d (.tup (mpI P.n way)),[]):=by
 have W1:=Sx.way_gains g n d.hg H y;have O:∃ k,k<P.n/\Sx.wayN P S e k≠0:=by
  by_cases z:∃ k,k<P.n/\Sx.wayN P S e k≠0
  ·exact z
  ·rw[Sx.sumN_congr λk m=>by
    by_cases N:Sx.wayN P S e k=0
    ·rw[N,qci]
    ·exact absurd ⟨k,m,N⟩ z,Sx.sumN_zero]at W1
   lia
 obtain⟨q,v,w,ew⟩:=Gg (d.okt g n) H A O;refine⟨_,⟨λk _=>qeQ (Sx.way_nonneg g A k) (by lia),λr l=>?_,?_⟩,ew⟩
 ·refine vm v ?_
  rw[sd w,qbi];exact Sx.way_rows g n H A l
 ·refine Int.lt_of_mul_lt_mul_left (a:=q) ?_ (by lia)
  rw[sd w,qbi];exact W1
end
end Own
set_option maxHeartbeats 1000000
namespace Own
open PySem L2
open Sx (Pb Tb Good Named Fe LV ZV piv lexP leastR leaveL sumN unit colV basis)
theorem GC (n:Nat) (f:Nat->Int):okT (.tup [.str "beyond",.tup (mpI n f)])=true:=by
 simp only[okT,vD,bR,jg,qiH]
theorem FB (n m:Nat) (p:Int) (f g:Nat->Int):okT (.tup [.str "most",.int p,.tup (mpI n f),.tup (mpI m g)])=true:=by
 simp only[okT,vD,bR,jg,qiH]
def ES (P:Pb) (S:Tb) (x:D):Prop:=(∃ c,c<P.n/\S.G c<0/\(∀ i,i<P.m->S.T i c<=0)/\x=.tup [.int (c:Int),.non])\/(kG P S x/\(x=.non->∀ c,c<P.n->0<=S.G c))
section
variable {P:Pb}{S:Tb}
theorem Au (d:Pd P) (g:Good P S) (n:Named P S):∃ x,ES P S x/\okT x=true/\bU [.d (obD P S)] []=some (.d x,[]):=by
 rcases EV (d.okt g n) (d.kept n) with⟨c,m,hg,B,e⟩|⟨y,L,hn,e⟩
 ·exact⟨_,.inl ⟨c,m,hg,B,U⟩,U,e⟩
 ·refine⟨y,.inr ⟨L,hn⟩,?_,e⟩
  rcases L with rfl|⟨c,r,_,_,_,_,_,_,rfl⟩<;>rfl
theorem kL {st0:Sto}{a b c o:Option W}{x:D} (e:bU [.d (obD P S)] []=some (.d x,[])) (p:okT x=true):df bU (aa (iV 3) ae) [a,b,c,some (.h (st0.length+2)),o] (stO st0 P S)=some (.d x,stO st0 P S):=
 m6 U (AJ U) e p
def oP (P:Pb) (f:Nat) (S:Tb) (x:D):Prop:=
 (∃ S' k,mO P k/\∀ (st0:Sto) (a b c:Option W),bM gU fK f [a,b,c,some (.h (st0.length+2)),Z x] (stO st0 P S)=some (.rt (.d (.tup [.str "beyond",.tup (mpI P.n k)])) (stO st0 P S')))\/
 ∃ S',Good P S'/\Named P S'/\Fe P S'/\(∀ c,c<P.n->0<=S'.G c)/\∀ (st0:Sto) (a b c:Option W),bM gU fK f [a,b,c,some (.h (st0.length+2)),Z x] (stO st0 P S)=some (.nx [a,b,c,some (.h (st0.length+2)),Z .non] (stO st0 P S'))
theorem wR (d:Pd P):∀ (f:Nat) (V:List Nat) (S:Tb) (x:D),Good P S->Named P S->Fe P S->ES P S x->V.Nodup->(∀ v∈V,v<(P.n+P.m)^P.m)->(∀ v∈V,∃ S',Good P S'/\Named P S'/\Sx.code (P.n+P.m) S'.kept P.m=v/\Sx.less P S' S)->(P.n+P.m)^P.m<f+V.length->oP P f S x
 |0,V,S,x,_,_,_,_,C,hb,_,O=>by
  have:=Sx.nodup_le _ V C hb
  lia
 |f+1,V,S,x,hg,hn,K,p,C,hb,I,O=>by
  have h:=d.okt hg hn;rcases p with⟨c,m,A,B,rfl⟩|⟨p,F⟩
  ·obtain⟨k,E,ew⟩:=EW d hg hn m B A
   refine .inl ⟨S,k,E,λst0 a b o=>?_⟩;refine FO U (gZ (d7 U (aD (Ek (ws:=[.d _,.d _]) (ac U (ac ?_ U)) U (by show 2<=1000;decide)))));refine m6 (ac U (ac (ag U U (vf _ _ _)) U)) (AJ U) ew ?_;exact zL _ _
  ·rcases p with rfl|⟨c,r,m,A,_,M,hT,q,rfl⟩
   ·exact .inr ⟨S,hg,hn,K,F U,λst0 a b o=>CZ U⟩
   ·obtain⟨w,H,f2,J⟩:=Sx.step hg hn K m M hT A q
    obtain⟨y,Y,Q,ey⟩:=Au d w H;have j:∀ {S':Tb},Named P S'->∀ i,i<P.m->S'.kept i<P.n+P.m:=λs i hi=>s.bound.2 i hi;have t:∀ (st0:Sto) (a b o:Option W),fK [a,b,o,some _,some _] _=some _:=λst0 a b o=>by
     have ed:j0 (ap eQ (aa (iV 3) (aa (iOp dIx (iV 4) (iC (.int 1))) (aa (iOp dIx (iV 4) (iC (.int 0))) ae)))) [a,b,o,some (.h (st0.length+2)),Z (.tup [.int (c),.int (r)])] (stO st0 P S)=some (.nx [a,b,o,some (.h (st0.length+2)),Z (.tup [.int (c),.int (r)])] (stO st0 P (piv S r c))):=by
      have:=ai (a:=aa (iV 3) (aa (iOp dIx (iV 4) (iC _)) (aa (iOp dIx (iV 4) (iC _)) ae))) (env:=[a,b,o,some _,some _]) (st:=stO st0 P S) (ac U (ac (ag U U (re _ _ _)) (ac (ag U U (vf _ _ _)) U))) (Be h M m)
      simp only[j0,this,qak]
     exact aj (bT U U) (aj ed (ak (kL ey Q)))
    rcases (wR d f _ _ y w H f2 Y
     (qcu.mpr ⟨λhm=>by
       obtain⟨S',u,s,z,G⟩:=I _ hm
       exact Sx.less_kept u hg G (Sx.code_inj (j s) (j hn) z),C⟩)
     (λv l=>by
       rcases qay.mp l with rfl|l
       ·exact Sx.code_lt (j hn)
       ·exact hb v l)
     (λv l=>by
       rcases qay.mp l with rfl|l
       ·exact⟨S,hg,hn,U,J⟩
       ·obtain⟨S',u,s,z,G⟩:=I v l
        exact⟨S',u,s,z,Sx.less_trans u.pos hg.pos w.pos G J⟩)
     (by rw[qap];lia)) with⟨S',k,E,hw⟩|⟨S',R,N,X,T,hw⟩
    ·exact .inl ⟨S',k,E,λst0 a b o=>Ad U (t st0 a b o) (hw st0 a b o)⟩
    ·exact .inr ⟨S',R,N,X,T,λst0 a b o=>Ad U (t st0 a b o) (hw st0 a b o)⟩
end
def iR (m n:Nat) (R:Nat->Nat->Int) (b g:Nat->Int):Pb where
 m:=m
 n:=n
 A:=λk t=>if k<n then (if t<m then R t k else 0) else unit (k - n) t
 b:=λt=>if t<m then b t else 0
 g:=λk=>if k<n then g k else 0
def Cn (m n:Nat) (R:Nat->Nat->Int) (b g:Nat->Int):Tb:=Sx.tb0 (iR m n R b g) (λi c=>if c<n then R i c else b i) (λc=>if c<n then - g c else 0)
def kC (m n:Nat) (R:Nat->Nat->Int):D:=.tup ((qam m).map λi=>D.tup (mpI n (R i)))
structure Inp (m n:Nat) (R:Nat->Nat->Int) (b g:Nat->Int):Prop where
 m64:m<=64
 n64:n<=100
 R:∀ i c,i<m->c<n->(R i c).natAbs<=2^50
 b:∀ i,i<m->(b i).natAbs<=2^50/\0<=b i
 g:∀ c,c<n->(g c).natAbs<=2^50
section
variable {m n:Nat}{R:Nat->Nat->Int}{b g:Nat->Int}
theorem CO (h:Inp m n R b g):Pd (iR m n R b g) where
 bd:={
  m64:=h.m64
  n64:=h.n64
  A:=λk _ t j=>by
   show (if k<n then _ else unit _ t).natAbs<=_;by_cases e:k<n
   ·rw[iFP e,iFP (show t<m from j)];exact h.R t k j e
   ·rw[iFN e];exact Sx.unit_le _ _
  b:=λt j=>by
   show (if t<m then b t else 0).natAbs<=_;rw[iFP (show t<m from j)];exact (h.b t j).1
  g:=λk _=>by
   show (if k<n then g k else 0).natAbs<=_;by_cases e:k<n
   ·rw[iFP e];exact h.g k e
   ·rw[iFN e];exact qby _ }
 hA:=λk e t j=>by
  have V:k<n+m:=e;have ht':m<=t:=j;show (if k<n then _ else unit _ t)=0;by_cases z:k<n
  ·rw[iFP z,iFN (by lia)]
  ·rw[iFN z];unfold unit;rw[iFN (by lia)]
 hb:=λt j=>iFN (qhX.mpr j)
 hg:=λr _=>iFN (by show ¬ n+r<n;lia)
theorem Bg (h:Inp m n R b g):Good (iR m n R b g) (Cn m n R b g)/\Named (iR m n R b g) (Cn m n R b g)/\Fe (iR m n R b g) (Cn m n R b g):=by
 have d:=CO h
 have:=Sx.good0
  (λr _=>by
    funext t
    show (if n+r<n then _ else unit (n+r - n) t)=_
    rw[iFN (by lia),qdt])
  (λk e=>d.hA k (by lia)) d.hb d.hg
  (λi c hi o=>by
    show (if c<n then R i c else b i)=if c<n then _ else _
    rw[iFP (show c<n from o),iFP (show c<n from o),iFP (show i<m from hi)])
  (λi hi=>by
    show (if n<n then _ else b i)=if i<m then b i else 0
    rw[iFN (qa2 _),iFP (show i<m from hi)])
  (λc o=>by
    show (if c<n then - g c else 0)=- (if c<n then g c else 0)
    rw[iFP (show c<n from o),iFP (show c<n from o)])
  (by show (if n<n then _ else _)=0;rw[iFN (qa2 _)])
 refine⟨this.1,this.2.1,this.2.2 λt j=>?_⟩;show 0<=if t<m then b t else 0;rw[iFP (show t<m from j)];exact (h.b t j).2
theorem wS (f:Nat->Int) (x:Int):mpI n f++[.int x]=mpI (n+1) λc=>if c<n then f c else x:=by
 rw[c9,iFN (qa2 _)];rw[bG (g:=λc=>if c<n then f c else x) λk e=>by rw[iFP e]]
theorem An (lo:Nat) (m:Nat):bX (lo:Int) m=mpI m (nI λi=>lo+i):=by
 refine qbw λk _=>?_;show D.int _=D.int (((lo+k:Nat)));rw[Int.natCast_add]
theorem Fx {st0:Sto}{N S:Option W} (h:Inp m n R b g):pF 4 4 ck (aa (iV 0) (aa (iV 1) (aa (iV 2) ae))) [some (.d (kC m n R)),some (.d (.tup (mpI m b))),some (.d (.tup (mpI n g))),N,S] st0=some (.h (st0.length+2),stO st0 (iR m n R b g) (Cn m n R b g)):=by
 have hm:=h.m64;have hn:=h.n64;generalize G:([none,some (.d (kC m n R)),some (.d (.tup (mpI m b))),some (.d (.tup (mpI n g)))]:Ev)=E;have v1:∀ s,iV 1 E s=some (.d (kC m n R),s):=λs=>by rw[<-G];rfl
 have v2:∀ s,iV 2 E s=some (.d (.tup (mpI m b)),s):=λs=>by rw[<-G];rfl
 have K:∀ s,iV 3 E s=some (.d (.tup (mpI n g)),s):=λs=>by rw[<-G];rfl
 have a:∀ s,iCB aY (aa (iV 3) ae) E s=some (.d (.int (n:Int)),s):=λs=>by
  have:=aF (g:=aY) (d:=.int ((mpI n g).length:Nat)) (ac (b:=ae) (K s) U) U
  rw[aH]at this;exact this
 have q:∀ s,iCB aY (aa (iV 1) ae) E s=some (.d (.int (m:Int)),s):=λs=>by
  have:=aF (g:=aY) (d:=.int (((qam m).map λi=>D.tup (mpI n (R i))).length:Nat)) (ac (b:=ae) (v1 s) U) U
  rw[qaf,qav]at this;exact this
 have f2:au (iLc 2 [] (cN (aa (iV 1) (aa (iV 2) ae))) (.tp [0,1]) aJ iq) E st0=some (.d (.lst (aX m n λi c=>if c<n then R i c else b i)),st0):=by
  have hz:cN (aa (iV 1) (aa (iV 2) ae)) E st0=some ((qam m).map λi=>D.tup [.tup (mpI n (R i)),.int (b i)],st0):=by
   have w:dc ((qam m).map λi=>D.tup (mpI n (R i))) (mpI m b)=(qam m).map λi=>D.tup [.tup (mpI n (R i)),.int (b i)]:=by
    apply qbX;intro i;rw[gy,qaF,qaF];by_cases hi:i<m
    ·rw[bF hi,qbL hi];rfl
    ·rw[qaQ (l:=qam m) (by rw[qav];lia)];rfl
   rw[<-w]
   have:=ac (v1 st0) (ac (b:=ae) (v2 st0) U)
   simp only[cN,this,qaa];rfl
  refine ao (aM hz (by rw[qaf,qav];lia) ?_);refine CI (g:=λi=>(D.tup (mpI n (R i)),.int (b i))) (lnD n λi c=>if c<n then R i c else b i) λi hi=>?_;unfold lnD;rw[<-wS (R i) (b i)];exact ag (ao (show iCL wL (aa (iV 0) ae) _ _=some (mpI n (R i),_) from U)) (ao (show bn (aa (iV 1) ae) _ _=some ([.int (b i)],_) from U)) (fM _ (by rw[aH];show _+1<=_;lia))
 have f3:iOp bg (au (iLc 1 [] (aB (iV 3)) (.nm 0) aJ ir)) (au (bn (aa (iC (.int 0)) ae))) E st0=some (.d (.lst (mpI (n+1) λc=>if c<n then - g c else 0)),st0):=by
  rw[<-wS (λc=>- g c) 0];refine ag (ao (aM (be (K st0)) (by rw[aH];lia) (iF (g:=λk=>D.int (g k)) (λk=>D.int (- g k)) λk _=>rfl))) (ao (show bn (aa (iC (.int 0)) ae) E st0=some ([.int 0],st0) from U)) (fM _ ?_);rw[qaf,qav];show _+1<=_;lia
 have f5:dg (x8 (aa (iCB aY (aa (iV 3) ae)) ae)) E st0=some (.h st0.length,st0++[.l (mpI n (nI λc=>c))]):=by
  have:=ac (b:=ae) (a st0) U
  have w:x8 (aa (iCB aY (aa (iV 3) ae)) ae) E st0=some (mpI n (nI λc=>c),st0):=by
   simp only[x8,this,qaa];rw[iFP ⟨by lia,by lia⟩,qa7,show bX 0 n=bX ((0:Nat):Int) n from U,An];simp only[qbj]
  simp only[dg,w,qak]
 have f6:dg (qC (aa (iCB aY (aa (iV 3) ae)) (aa (iOp bg (iCB aY (aa (iV 3) ae)) (iCB aY (aa (iV 1) ae))) ae))) E (st0++[.l (mpI n (nI λc=>c))])=some (.h (st0.length+1),st0++[.l (mpI n (nI λc=>c)),.l (mpI m (nI λi=>n+i))]):=by
  generalize hs:(st0++[C.l (mpI n (nI λc=>c))])=s1;have h2:iOp bg (iCB aY (aa (iV 3) ae)) (iCB aY (aa (iV 1) ae)) E s1=some (.d (.int ((n:Int)+(m:Int))),s1):=ag (a s1) (q s1) U
  have:=ac (a s1) (ac (b:=ae) h2 U)
  have w:qC (aa (iCB aY (aa (iV 3) ae)) (aa (iOp bg (iCB aY (aa (iV 3) ae)) (iCB aY (aa (iV 1) ae))) ae)) E s1=some (mpI m (nI λi=>n+i),s1):=by
   simp only[qC,this,qaa];rw[iFP ⟨by lia,by lia,by lia,by lia⟩,show (((n:Int)+(m:Int)) - (n:Int)).toNat=m by lia,An]
  simp only[dg,w,qak];rw[<-hs,qax]
  simp
 have F:qP ck E st0=some (fsO n (aX m n λi c=>if c<n then R i c else b i) (mpI (n+1) λc=>if c<n then - g c else 0) 1 st0.length,st0++[.l (mpI n (nI λc=>c)),.l (mpI m (nI λi=>n+i))]):=by
  unfold ck;simp only[qP,a st0,f2,f3,f5,f6,qaa,qak,show iC (.int 1) E st0=some (.d (.int 1),st0) from U];rfl
 have ha:aa (iV 0) (aa (iV 1) (aa (iV 2) ae)) [some (.d (kC m n R)),some (.d (.tup (mpI m b))),some (.d (.tup (mpI n g))),N,S] st0=some ([.d (kC m n R),.d (.tup (mpI m b)),.d (.tup (mpI n g))],st0):=rfl;simp only[pF,ha,qaa];show (qP ck [none,some (.d (kC m n R)),some (.d (.tup (mpI m b))),some (.d (.tup (mpI n g)))] st0).map _=_;rw[G,F,qak];rw[qax,qcK];rfl
inductive AR (P:Pb):D->Prop
 |most (p:Int) (am pr:Nat->Int):yL P p am pr->AR P (.tup [.str "most",.int p,.tup (mpI P.n am),.tup (mpI P.m pr)])
 |beyond (way:Nat->Int):mO P way->AR P (.tup [.str "beyond",.tup (mpI P.n way)])
theorem zZ {m n:Nat} (hm:m<=64) (hn:n<=100):(n+m)^m<2^8000:=by
 have J:(n+m)^m<=(2^8)^m:=Nat.pow_le_pow_left (by lia) m;rw[<-qj5]at J;exact qaZ J (xo (by lia))
theorem By (h:Inp m n R b g):∃ x,AR (iR m n R b g) x/\okT x=true/\∀ st:Sto,∃ u,jc [.d (kC m n R),.d (.tup (mpI m b)),.d (.tup (mpI n g))] st=some (.d x,st++u):=by
 have d:=CO h;obtain⟨L,Q,f1⟩:=Bg h;obtain⟨y,sy,I,M⟩:=Au d L Q;generalize hM:(kC m n R)=A at *;generalize hB:D.tup _=B at *;generalize hC:D.tup (mpI n g)=C at *;have O:∀ st0,az (.nm 3) _ [Z A,Z B,Z C,none,none] st0=some _:=λst0=>by
  rw[<-hM,<-hB,<-hC];exact ak (Fx h)
 rcases (wR d _ [] _ y L Q f1 sy qcS (λv H=>nomatch H) (λv H=>nomatch H) (by rw[qbK,qg2];exact zZ h.m64 h.n64)) with⟨S',way,bw,hw⟩|⟨S',Y,T,fS,hS,hw⟩
 ·refine⟨_,.beyond way bw,GC _ _,λst0=>⟨_,ax U (aj (O st0) (aj (ak (kL M I)) (gZ (hw st0 _ _ _))))⟩⟩
 ·obtain⟨p,am,pr,mi,X⟩:=E2 d Y T fS hS
  refine⟨_,.most p am pr mi,FB _ _ _ _ _,λst0=>⟨_,ax U (aj (O st0) (aj (ak (kL M I)) (aj (hw st0 _ _ _) (aD (m6 U (AJ U) X (FB _ _ _ _ _))))))⟩⟩
end
end Own
namespace Sx
theorem sumN_le {n:Nat}{f h:Nat->Int} (a:∀ k,k<n->f k<=h k):sumN n f<=sumN n h:=by
 induction n with
 |zero=>exact qdG _
 |succ n b=>
  rw[sumN,sumN]
  have:=b λk c=>a k (by omega)
  have:=a n (by omega)
  omega
def wdR (N k:Nat) (V:Nat->Nat->Int) (r c:Nat):Int:=if r<N then (if c<k then - V r c else if c<k+k then V r (c - k) else 1) else if c<k+k then 1 else 0
def wdB (N r:Nat):Int:=if r<N then 0 else 1
def wdG (k c:Nat):Int:=if c<k+k then 0 else 1
section
variable {N k:Nat}{V:Nat->Nat->Int}{d pr:Nat->Int}{p:Int}
theorem wd_row {i:Nat} (hi:i<N):(sumN (k+k+1) λj=>d j*wdR N k V i j)=d (k+k) - sumN k λt=>(d t - d (k+t))*V i t:=by
 have s:(sumN k λj=>d j*wdR N k V i j)=sumN k λt=>(-1)*(d t*V i t):=sumN_congr λt l=>by
  unfold wdR;rw[iFP hi,iFP l,qgg];omega
 have w:(sumN k λj=>d _*wdR N k V i (k+j))=sumN k λt=>d (k+t)*V i t:=sumN_congr λt l=>by
  unfold wdR;rw[iFP hi,iFN (by omega),iFP (by omega),qdt]
 have B:d (k+k)*wdR N k V i (k+k)=d (k+k):=by
  unfold wdR;rw[iFP hi,iFN (by omega),iFN (by omega),qdl]
 have I:(sumN k λt=>(d t - d (k+t))*V i t)=(sumN k λt=>d t*V i t) - sumN k λt=>d (k+t)*V i t:=by
  rw[<-sumN_sub];exact sumN_congr λt _=>qgf _ _ _
 rw[sumN,sumN_append,s,sumN_mul];omega
theorem wd_last:(sumN (k+k+1) λj=>d j*wdR N k V N j)=sumN (k+k) d:=by
 have B:d (k+k)*wdR N k V N (k+k)=0:=by
  unfold wdR;rw[iFN (by omega),iFN (by omega),qbi]
 rw [sumN,(sumN_congr λj v=>by
  unfold wdR;rw[iFN (by omega),iFP v,qdl]),B,qeR]
theorem wd_colA {t:Nat} (l:t<k):(sumN (N+1) λr=>wdR N k V r t*pr r)=pr N - sumN N λi=>V i t*pr i:=by
 have s:(sumN N λr=>wdR N k V r t*pr r)=sumN N λi=>(-1)*(V i t*pr i):=sumN_congr λr u=>by
  unfold wdR;rw[iFP u,iFP l,qdE];omega
 have w:wdR N k V N t*pr N=pr N:=by
  unfold wdR;rw[iFN (by omega),iFP (by omega),qcy]
 rw[sumN,s,sumN_mul];omega
theorem wd_colB {t:Nat} (l:t<k):(sumN (N+1) λr=>wdR N k V r (k+t)*pr r)=pr N+sumN N λi=>V i t*pr i:=by
 have w:wdR N k V N (k+t)*pr N=pr N:=by
  unfold wdR;rw[iFN (by omega),iFP (by omega),qcy]
 rw [sumN,(sumN_congr λr u=>by
  unfold wdR;rw[iFP u,iFN (by omega),iFP (by omega),qdt])];omega
theorem wd_colE:(sumN (N+1) λr=>wdR N k V r (k+k)*pr r)=sumN N pr:=by
 have w:wdR N k V N (k+k)*pr N=0:=by
  unfold wdR;rw[iFN (by omega),iFN (by omega),qci]
 rw [sumN,(sumN_congr λr u=>by
  unfold wdR;rw[iFP u,iFN (by omega),iFN (by omega),qcy]),w,qeR]
theorem wd_bnd:(sumN (N+1) λr=>wdB N r*pr r)=pr N:=by
 have s:(sumN N λr=>wdB N r*pr r)=0:=by
  rw[sumN_congr λr u=>by unfold wdB;rw[iFP u,qci],sumN_zero]
 rw[sumN,s,qcP];unfold wdB;rw[iFN (by omega),qcy]
theorem wd_gain:(sumN (k+k+1) λj=>d j*wdG k j)=d (k+k):=by
 have s:(sumN (k+k) λj=>d j*wdG k j)=0:=by
  rw[sumN_congr λj v=>by unfold wdG;rw[iFP v,qbi],sumN_zero]
 rw[sumN,s,qcP];unfold wdG;rw[iFN (by omega),qdl]
theorem sum0w {n:Nat}{f:Nat->Int} (h:∀ i,i<n->0<=f i) (e:sumN n f=0):∀ i,i<n->f i=0:=by
 induction n with
 |zero=>exact λi hi=>absurd hi (qcL _)
 |succ n G=>
  have A:=sumN_nonneg (n:=n) λi hi=>h i (by omega);have E:=h n (by omega);rw[sumN]at e;intro i hi;rcases Nat.lt_succ_iff_lt_or_eq.mp hi with z|z
  ·exact G (λi hi=>h i (by omega)) (by omega) i z
  ·rw[z];omega
theorem wide_most (hN:0<N) {o:Nat->Int} (w0:∀ j,j<k+k+1->0<=o j) (rows:∀ r,r<N+1->(sumN (k+k+1) λj=>o j*wdR N k V r j)<=0) (gain:0<sumN (k+k+1) λj=>o j*wdG k j):False:=by
 have a:=rows N (by omega);rw[wd_last]at a;have z:∀ j,j<k+k->o j=0:=by
  have A:=sumN_nonneg (n:=k+k) λj v=>w0 j (by omega);exact sum0w (λj v=>w0 j (by omega)) (by omega)
 have c:=rows 0 (by omega);rw[wd_row hN,sumN_congr λt l=>by rw[z t (by omega),z _ (by omega),qfL,qci],sumN_zero]at c;rw[wd_gain]at gain;omega
theorem wide_core (am0:∀ j,j<k+k+1->0<=d j) (pr0:∀ r,r<N+1->0<=pr r) (rows:∀ r,r<N+1->(sumN (k+k+1) λj=>d j*wdR N k V r j)<=p*wdB N r)
  (cols:∀ j,j<k+k+1->p*wdG k j<=sumN (N+1) λr=>wdR N k V r j*pr r) (same:(sumN (N+1) λr=>wdB N r*pr r)=sumN (k+k+1) λj=>d j*wdG k j) :
  (∀ i,i<N->d (k+k)<=sumN k λt=>(d t - d (k+t))*V i t)/\(sumN (k+k) d<=p)/\(∀ t,t<k->(sumN N λi=>V i t*pr i)<=d (k+k)/\- d (k+k)<=sumN N λi=>V i t*pr i)/\p<=sumN N pr:=by
 rw[wd_bnd,wd_gain]at same;refine⟨λi hi=>?_,?_,λt l=>?_,?_⟩
 ·have a:=rows i (by omega)
  rw[wd_row hi]at a;unfold wdB at a;rw[iFP hi]at a;omega
 ·have a:=rows N (by omega)
  rw[wd_last]at a;unfold wdB at a;rw[iFN (by omega),qdl]at a;exact a
 ·have a:=cols t (by omega)
  have b:=cols (k+t) (by omega);rw[wd_colA l]at a;rw[wd_colB l]at b;unfold wdG at a b;rw[iFP (by omega)]at a b;omega
 ·have a:=cols (k+k) (by omega)
  rw[wd_colE]at a;unfold wdG at a;rw[iFN (by omega),qdl]at a;exact a
theorem wide_same {x:Nat->Int}{m:Int} (J:1<=p) (hm:0<m) (pr0:∀ i,i<N->0<=pr i) (rows:∀ i,i<N->m<=sumN k λt=>x t*V i t) (size:(sumN k λt=>((x t).natAbs:Int))<=p)
  (cols:∀ t,t<k->(sumN N λi=>V i t*pr i)<=m/\- m<=sumN N λi=>V i t*pr i) (tot:p<=sumN N pr):(sumN k λt=>((x t).natAbs:Int))=p/\∃ i,i<N/\(sumN k λt=>x t*V i t)=m:=by
 have A:=sumN_le λi hi=>qba (rows i hi) (pr0 i hi);have E:(sumN N λi=>pr i*sumN k λt=>x t*V i t)=sumN k λt=>x t*sumN N λi=>V i t*pr i:=by
  rw[sumN_congr (g:=λi=>sumN k λt=>x t*(V i t*pr i)) λi _=>by rw[<-sumN_mul];exact sumN_congr λt _=>by grind,sumN_swap];exact sumN_congr λt _=>by rw[sumN_mul]
 have F:(sumN k λt=>x t*sumN N λi=>V i t*pr i)<=sumN k λt=>((x t).natAbs)*m:=sumN_le λt l=>by
  have c:=cols t l;generalize (sumN N λi=>V i t*pr i)=y at *;rcases qg4 0 (x t) with q|q
  ·rw[show ((x t).natAbs)=x t by omega]
   exact qba c.1 q
  ·rw[show ((x t).natAbs)=- x t by omega]
   have:=qba (show - y<=m by omega) (show 0<=- x t by omega)
   rw[Int.neg_mul_neg]at this;exact this
 rw[sumN_right]at A F;have H:p*m<=sumN N pr*m:=qbT tot (by omega);have K:_*m<=p*m:=qbT size (by omega);have s:(sumN k λt=>((x t).natAbs))*m=p*m:=by omega
 refine⟨qd3 (by omega) s,?_⟩;apply qcx;intro C;have up:∀ i,i<N->m+1<=sumN k λt=>x t*V i t:=λi hi=>by
  have:=rows i hi
  rcases qd6 this with q|q
  ·omega
  ·exact absurd ⟨i,hi,q.symm⟩ C
 have D:=sumN_le λi hi=>qba (up i hi) (pr0 i hi);rw[sumN_right,qcz]at D;omega
end
end Sx
set_option maxHeartbeats 1000000
namespace Own
open PySem L2
open Sx (Pb Tb Good Named Fe LV ZV piv lexP leastR leaveL sumN unit colV basis)
theorem bh {a:Af}{env:Ev}{st s:Sto}{ws:List W}{ds:List D} (h:a env st=some (ws,s)) (hd:oW ws=some ds) (b:ds.length<=1000:=by decide):a9 a env st=some (.d (.tup ds),s):=by
 simp only[a9,h,hd,b,qaa,if_true]
theorem cr {a:Af}{env:Ev}{st s:Sto}{ws:List W}{ds:List D} (h:a env st=some (ws,s)) (hd:oW ws=some ds) (b:ds.length<=1000:=by decide):bn a env st=some (ds,s):=by
 simp only[bn,h,hd,b,qaa,if_true]
theorem tU {f:Ef}{env:Ev}{st s:Sto}{ds:List D} (h:f env st=some (.d (.tup ds),s)):aB f env st=some (ds,s):=by
 simp only[aB,h,qaa]
theorem iO (s:Sto) {a b:Int} (h:qbU a b):bm s (.d (.int a)) (.d (.int b))=some (.int (a*b)):=iFP h
theorem gY (s:Sto) {a b:Int} (h:0<b):fW s (.d (.int a)) (.d (.int b))=some (.int (a%b)):=iFP h
theorem qz (s:Sto) {a b:Int} (h:0<b/\b<1073741824):pB s (.d (.int a)) (.d (.int b))=some (.int (a / b)):=iFP h
theorem z5 {st:Sto}{k:Int} (a:0<=k) (f:k<=60):eR [.d (.int k)] st=some (.d (.int (2^k.toNat)),st):=by
 obtain⟨b,h,c,o,rfl,rfl⟩:=bH (g:=.nm 2) (body:=gk) (λi env s=>∃ o,env=[Z (.int k),Z (.int (2^i)),o]/\s=st)
  ⟨none,U,U⟩ (λi d env s hd ⟨o,e,es⟩=>by
   subst e es;obtain⟨rfl,hi⟩:=fF hd;refine⟨_,[some _,some _,Z (.int i)],s,U,.inl ?_,_,U,U⟩
   exact ak (ag U U (iO _ (fC (by decide)))))
 rw[bL]at c;exact ax U (aU (ak U) (aU (bz (gO U a (by lia) U) c) (aD U)))
theorem yv {j:Nat} (h:j<=20):(0:Int)<2^j/\(2:Int)^j<1073741824:=by
 have a:∀ m ,m<=20->2^m<=2^20:=λm hm=>qbS (by decide) hm;have c:=a j h;have b:0<2^j:=qdU (by decide);lia
theorem BD {st:Sto}{row k:Int} (a:0<=k) (b:k<=20):rn [.d (.int row),.d (.int k)] st=some (.d (.int (onI row k)),st):=by
 have h:=yv (j:=k.toNat) (by lia);exact ax U (aD (ag (ag U (ai U (z5 a (by lia))) (qz _ ⟨h.1,h.2⟩)) U (gY _ (by decide))))
def cP (b:Bool) (t:List Int) (row:Int):Int:=if b=true then (if jj row t=(t.length:Int) then 1 else 0) else (if jj row t%2=1 then -1 else 1)
def aE (b:Bool):Str:=if b=true then "both" else "odd"
theorem pK (b:Bool):(aE b==("both" : Str))=b:=by cases b<;>decide
theorem AI {st:Sto}{b:Bool}{t:List Int}{row:Int} (i:∀ k∈t,0<=k/\k<=20) (n:t.length<=1000):jI [.d (.str (aE b)),.d (aq t),.d (.int row)] st=some (.d (.int (cP b t row)),st):=by
 have a:lcI (.nm 0) aJ dW [none,some _] _ st=some ((t.map D.int).map λd=>match d with|.int k=>.int (onI row k)|d=>d,st):=ja _ λd hd=>by
  obtain⟨k,j,rfl⟩:=qaz.mp hd;exact⟨_,U,ai U (BD (i k j).1 (i k j).2)⟩
 have m:((t.map D.int).map λd=>match d with|.int k=>.int (onI row k)|d=>d)=(t.map (onI row)).map D.int:=by rw[qaG,qaG];rfl
 rw[m]at a;have e:=xy st (t.map (onI row));rw[sP]at e;have g:(t.map D.int).length<=1000000:=by rw[qaf];lia
 have c:aY st [.d (aq t)]=some (.int (t.length)):=by
  show some (D.int _)=_;rw[qaf]
 have f:dEq st (.d (.str (aE b))) (.d (.str "both"))=some (.bl b):=by rw[zb,pK]
 have l:cP b t row=if b=true then (if (jj row t==(t.length))=true then 1 else 0) else (if (jj row t%2==(1))=true then -1 else 1):=by simp only[cP,beq_iff_eq]
 rw[l];have first:∀ (tl:Sf) (r:Option Fl),tl [Z (.str (aE b)),Z (aq t),Z (.int row),Z (.int (jj row t))] st=r->ah (az (.nm 3) (iCB oV (aa (au (iLc 1 [2] (aB (iV 1)) (.nm 0) aJ dW)) ae))) tl [Z (.str (aE b)),Z (aq t),Z (.int row),none] st=r:=λtl r h=>by
  have q:az (.nm 3) (iCB oV (aa (au (iLc 1 [2] (aB (iV 1)) _ aJ dW)) ae)) [some _,some _,some _,none] st=some (.nx [Z (.str (aE b)),Z (aq t),some _,some _] st):=ak (aF (ac (ao (aM (be U) g a)) U) e);simp only[ah,q,qaa,h]
 generalize aE b=kd at *;cases b with
 |true=>
  cases hq:(jj row t==_) with
  |true=>exact ax U (first _ _ (rV (xr (ay U U f) (aD (rS (ay U (aF U c) (by rw[dw,hq])) U)))))
  |false=>exact ax U (first _ _ (rV (xr (ay U U f) (aD (vH (ay U (aF U c) (by rw[dw,hq])) U)))))
 |false=>
  cases hq:(jj row t%2==_) with
  |true=>exact ax U (first _ _ (aU (kz (ay U U f) U) (aD (rS (ay (ag U U (gY _ (by decide))) U (by rw[dw,hq])) U))))
  |false=>exact ax U (first _ _ (aU (kz (ay U U f) U) (aD (vH (ay (ag U U (gY _ (by decide))) U (by rw[dw,hq])) U))))
theorem uO (b:Bool) (t:List Int) (row:Int):-1<=cP b t row/\cP b t row<=1:=by
 unfold cP;split<;>split<;>lia
theorem xB {st:Sto}{fs:List D} (c:fs.length<=1000):cj [.d (.tup fs)] st=some (.d (.tup ((bD 0 fs).map D.int)),st):=by
 have a:lcI (.tp [0,1]) fU fO [none,none] (bW 0 fs) st=some (((bW 0 fs).filter B8).map Em,st):=gm _ _ λd hd=>by
  obtain⟨i,hi⟩:=qeE.mp hd;rw[f9]at hi;obtain⟨e,f,rfl⟩:=qad.mp hi;exact⟨_,U,by simp only[fU,B8,iV,iC,aK,ox,kM,m8,dA,qaa,qak,qaO,qaY,qbG,qb2,qbj],λ_=>by simp only[fO,Em,iV,ox,qak,qaO,qbG,qb2,qbj]⟩
 rw[oF]at a;have b:(bW 0 fs).length<=1000000:=by rw[kS];lia
 simp only[cj,lz,iV,ae,aa,iCB,au,aN,iLc,cJ,bo,lZ,dL,fX,qaa,qak,qaO,qas,qcs,qap,qbK,qbv,qbu,qbN,qbA,qdO,if_true,qbj,lg,a,b]
theorem Cb {st:Sto}{fs:List D}{j:Nat}{d:D} (hd:fs[j]?=some d) (a:lR d) (hn:d≠.non):gn [.d (.tup fs),.d (.int (j:Int))] st=some (.d (.int (sgD d)),st):=by
 have e:atI fs (j:Int)=some d:=bZ hd;rcases a with rfl|rfl|rfl
 ·exact absurd U hn
 ·simp only[gn,kK,iV,iC,iOp,aK,iUn,j5,aN,bo,kM,dL,dIx,dEq,gg,eqK,eqD,ef,qaa,qak,qaO,qaY,qas,qcs,qap,qbK,qbu,qbN,qbA,qdP,qdO,if_true,if_false,qbk,qbj,lg,qgN,e,sgD,show ((0:Int)==1)=false by decide,show ¬ (0:Int)=1 by decide]
 ·simp only[gn,kK,iV,iC,iOp,aK,iUn,j5,aN,bo,kM,dL,dIx,dEq,gg,eqK,eqD,ef,qaa,qak,qaO,qaY,qas,qcs,qap,qbK,qbu,qbN,qbA,qdP,qdO,if_true,qbj,lg,qgN,e,sgD,show ((1:Int)==1)=true by decide]
theorem Ca {d:D}:sgD d=1\/sgD d=-1:=by
 unfold sgD;split
 ·split
  ·exact .inl U
  ·exact .inr U
 ·exact .inl U
theorem yB {st:Sto}{fs:List D}{j:Nat}{d:D}{b:Bool}{t:List Int} (hd:fs[j]?=some d) (c:lR d) (hn:d≠.non) (g:∀ k∈t,0<=k/\k<=20) (e:t.length<=1000) :
  cZ [.d (.tup fs),.d (.str (aE b)),.d (aq t),.d (.int (j:Int))] st=some (.d (.int (sgD d*cP b t j)),st):=by
 have i:=Cb (st:=st) hd c hn;have a:=AI (st:=st) (b:=b) (row:=j) g e;have f:qbU (sgD d) (cP b t j):=fB (by rcases Ca (d:=d) with h|h<;>(rw[h];decide));generalize aE b=kd at a ⊢;generalize aq t=tt at a ⊢;simp only[cZ,ii,iV,iOp,ae,aa,ap,aN,bo,bm,qaa,qak,qaO,qaY,qas,qcs,qap,qbK,qbu,qbN,qbA,qdP,qdO,if_true,qbj,qgN,i,a,f]
end Own
set_option maxHeartbeats 1000000
namespace Own
open PySem L2
open Sx (Pb Tb Good Named Fe LV ZV piv lexP leastR leaveL sumN unit colV basis)
theorem fE {α b:Type} (a:α) (F:α->b) (l:List α):l.map F=(qam l.length).map λi=>F (l.getD i a):=by
 apply qbX;intro i;rw[qaF,qaF];by_cases h:i<l.length
 ·rw[qbL h,qao h,qak,qak,qaB,qao h];rfl
 ·rw[qaQ (by lia),qaQ (by rw[qav];lia)];rfl
theorem DM {n l:Nat}{f h g:Nat->Int} (c:∀ i,i<n->g i=f i) (b:∀ i,i<l->g (n+i)=h i):mpI n f++mpI l h=mpI (n+l) g:=by
 apply qbX;intro i;by_cases q:i<n
 ·rw[qaE (by rw[aH];exact q),bF q,bF (by lia),c i q]
 ·rw[qaJ (by rw[aH];lia),aH]
  by_cases a:i<n+l
  ·rw[bF (by lia),bF a,<-b _ (by lia),show n+_=i by lia]
  ·rw[qaQ (by rw[aH];lia),qaQ (by rw[aH];lia)]
theorem vJ (c:Int):∀ n,(qaC n [D.int c]).flatten=mpI n λ_=>c
 |0=>rfl
 |n+1=>by rw[c9,qeT,qhf,vJ c n];rfl
theorem nX {α:Type}{te:Ef}{l:Ev}{st:Sto}{g:α->D} (F:α->D):∀ {a:List α},(∀ k∈a,te (Z (g k)::l) st=some (.d (F k),st))->lcI (.nm 0) aJ te (none::l) (a.map g) st=some (a.map F,st)
 |[],_=>rfl
 |k::a,h=>by
  rw[qas];unfold lcI;rw[show cC _ _ _=some (some _::l) from U,qaa,show aJ _ st=some (true,st) from U,qaa,(h k qag),qaa,(nX F λx b=>h x (qaj _ b))];rfl
theorem Bc (F:Nat->D) (n:Nat):bW 0 ((qam n).map F)=(qam n).map λi:Nat=>D.tup [.int ((i:Nat):Int),F i]:=by
 apply qbX;intro i;rw[f9,qaF,qaF];by_cases hi:i<n
 ·rw[qbL hi,qak,qak,qak,qbj]
 ·rw[qaQ (by rw[qav];lia)];rfl
structure Spl (fs:List D) (ts:List (List Int)):Prop where
 fl:fs.length<=32
 fv:∀ d∈fs,lR d
 tl:ts.length<=16
 tt:∀ t∈ts,(∀ k∈t,0<=k/\k<=20)/\t.length<=20
 nd:ts.Nodup
def nR (fs:List D):Nat:=(bD 0 fs).length
def jL (fs:List D) (i:Nat):Int:=(bD 0 fs).getD i 0
def spV (fs:List D) (b:Bool) (ts:List (List Int)) (i t:Nat):Int:=sgD (fs.getD (jL fs i).toNat .non)*cP b (ts.getD t []) (jL fs i)
def tsD (ts:List (List Int)):D:=.tup (ts.map aq)
section
variable {fs:List D}{b:Bool}{ts:List (List Int)}
theorem Spl.n (h:Spl fs ts):nR fs<=32:=qaS (pO fs 0) h.fl
theorem rX (h:Spl fs ts) {j:Int} (a:j∈bD 0 fs):∃ (m:Nat) (d:D),j=(m:Int)/\m<fs.length/\fs[m]?=some d/\lR d/\d≠.non/\fs.getD j.toNat .non=d:=by
 obtain⟨m,e,hm,hn⟩:=lq fs 0 a;rw[qbj]at e;have hd:=qao hm;refine⟨m,_,e,hm,hd,h.fv _ (qbV hm),λq=>hn (by rw[hd,q]),?_⟩;rw[e,qa7,qaB,hd];rfl
theorem Ay {st:Sto} (h:Spl fs ts):dI [.d (.tup fs),.d (.str (aE b)),.d (tsD ts)] st=some (.d (.lst ((qam (nR fs)).map λi=>D.lst (mpI ts.length (spV fs b ts i)))),st):=by
 have n:∀ j∈bD 0 fs,lcI _ aJ fk [none,some _,some _,Z _] _ st=some (ts.map λt=>D.int (sgD (fs.getD j.toNat .non)*cP b t j),st):=λj a=>by
  obtain⟨m,d,rfl,hm,hd,o,hn,hg⟩:=rX h a;refine nX (g:=aq) _ λt c=>?_;rw[hg];exact ai (ac U (ac U (ac U (ac U U)))) (yB hd o hn (h.tt t c).1 (by have:=(h.tt t c).2;lia))
 have l:lcI _ aJ fm [none,some _,some _,some _] _ st=some ((bD 0 fs).map λj=>D.lst _,st):=
  nX _ λj a=>ao (aM (be U) (by rw[qaf];have:=h.tl;lia) (n j a))
 have e:((bD 0 fs).map λj=>D.lst (ts.map λt=>D.int (sgD (fs.getD j.toNat .non)*cP b t j)))=(qam (nR fs)).map λi=>D.lst (mpI ts.length (spV fs b ts i)):=by
  rw[fE 0 _ _];refine qbw λi _=>?_;rw[fE [] _ ts];rfl
 rw[e]at l;exact ax U (aD (ao (aM (be (ai U (xB (by have:=h.fl;lia)))) (by rw[qaf];have:=h.n;unfold nR at this;lia) l)))
theorem Cr {st:Sto}{k:Nat}{f:Nat->Int} (p:k<=100):iJ [.d (.lst (mpI k f))] st=some (.d (.lst (mpI k f++mpI k λt=>- f t)),st):=by
 have l:lcI _ aJ jr [none] (mpI k f) st=some (mpI k λt=>- f t,st):=iF _ λt _=>rfl;exact ax U (aD (ag (ao (U)) (ao (aM (aT U) (by rw[aH];lia) l)) (fM _ (by rw[aH,aH];lia))))
end
end Own
set_option maxHeartbeats 1000000
namespace Own
open PySem L2
open Sx (Pb Tb Good Named Fe LV ZV piv lexP leastR leaveL sumN unit colV basis)
theorem um (s:Sto) (c:Int) {n:Nat} (hn:n<1000):bm s (.d (.tup [.int c])) (.d (.int (n:Int)))=some (.tup (mpI n λ_=>c)):=by
 show (if _ then some _ else none)=_;rw[iFP ⟨by simp,by show 1<=1000;decide,by lia,by lia⟩,qa7,vJ]
theorem zH (s:Sto) (c:Int) {n:Nat} (hn:n<1000):bm s (.d (.lst [.int c])) (.d (.int (n:Int)))=some (.lst (mpI n λ_=>c)):=by
 show (if _ then some _ else none)=_;rw[iFP ⟨by show 1<=1000;decide,by lia,by lia⟩,qa7,vJ]
theorem Gb (s:Sto) (k:Nat):bm s (.d (.int 2)) (.d (.int (k:Int)))=some (.int ((k+k:Nat):Int)):=by
 rw[cR s (fB (by decide)),show _*_=((k+k:Nat):Int) by lia]
section
variable {fs:List D}{b:Bool}{ts:List (List Int)}{N k:Nat}{V:Nat->Nat->Int}
theorem Et (i t:Nat):(spV fs b ts i t).natAbs<=1:=by
 unfold spV;rw[qb3];have Q:(sgD (fs.getD (jL fs i).toNat .non)).natAbs<=1:=by rcases Ca with h|h<;>rw[h]<;>decide
 have R:(cP b (ts.getD t []) (jL fs i)).natAbs<=1:=by
  unfold cP;split<;>split<;>decide
 exact qaS (qde Q R) (by decide)
theorem EI (hN:N<=32) (w:k<=16) (I:∀ i t,(V i t).natAbs<=1):Inp (N+1) (k+k+1) (Sx.wdR N k V) (Sx.wdB N) (Sx.wdG k):=by
 have one:∀ {z:Int},z.natAbs<=1->z.natAbs<=2^50:=λh=>qaS h (by decide);refine⟨by lia,by lia,λi c _ _=>one ?_,λi _=>⟨one ?_,?_⟩,λc _=>one ?_⟩
 ·unfold Sx.wdR
  split
  ·split
   ·rw[qiA];exact I _ _
   ·split
    ·exact I _ _
    ·decide
  ·split<;>decide
 ·unfold Sx.wdB;split<;>decide
 ·unfold Sx.wdB;split<;>decide
 ·unfold Sx.wdG;split<;>decide
structure Dc (N k:Nat) (V:Nat->Nat->Int) (p:Int) (am pr:Nat->Int):Prop where
 p1:1<=p
 row:∀ i,i<N->am (k+k)<=sumN k λt=>(am t - am (k+t))*V i t
 siz:sumN (k+k) am<=p
 col:∀ t,t<k->(sumN N λi=>V i t*pr i)<=am (k+k)/\- am (k+k)<=sumN N λi=>V i t*pr i
 tot:p<=sumN N pr
 sp:Sm p
 sa:∀ j,j<k+k+1->Sm (am j)/\0<=am j
 sr:∀ i,i<N->Sm (pr i)/\0<=pr i
theorem Gd (hN:0<N) {x:D} (M:AR (iR (N+1) (k+k+1) (Sx.wdR N k V) (Sx.wdB N) (Sx.wdG k)) x):∃ p am pr,Dc N k V p am pr/\x=.tup [.str "most",.int p,.tup (mpI (k+k+1) am),.tup (mpI (N+1) pr)]:=by
 have F:∀ {r j:Nat},r<N+1->j<k+k+1->(iR _ _ _ (Sx.wdB N) (Sx.wdG k)).A j r=Sx.wdR N k V r j:=λl a=>by
  show (if _<k+k+1 then _ else _)=_;rw[iFP a,iFP l]
 have K:∀ {r:Nat},r<N+1->(iR _ (k+k+1) (Sx.wdR N k V) _ (Sx.wdG k)).b r=Sx.wdB N r:=λl=>iFP l;have pg:∀ {j:Nat},j<k+k+1->(iR (N+1) _ (Sx.wdR N k V) (Sx.wdB N) _).g j=Sx.wdG k j:=λa=>iFP a;cases M with
 |beyond v M=>
  exfalso
  refine Sx.wide_most (V:=V) hN M.w0 (λr l=>?_) ?_
  ·have:=M.rows r l
   rw[Sx.sumN_congr (g:=λj=>v j*(iR _ _ _ _ _).A j r) λj a=>by rw[F l a]];exact this
  ·have:=M.gain
   rw[Sx.sumN_congr (g:=λj=>v j*(iR _ _ _ _ _).g j) λj a=>by rw[pg a]];exact this
 |most p am pr M=>
  have c:=Sx.wide_core M.am0 M.pr0 (λr l=>by
   have:=M.rows r l
   rw[K l]at this;rw[Sx.sumN_congr (g:=λj=>am j*(iR _ _ _ _ _).A j r) λj a=>by rw[F l a]];exact this) (λj a=>by
   have:=M.cols j a
   rw[pg a]at this;rw[Sx.sumN_congr (g:=λr=>(iR _ _ _ _ _).A j r*pr r) λr l=>by rw[F l a]];exact this) (by
   have:=M.same
   rw[Sx.sumN_congr (g:=λr=>(iR _ _ _ _ _).b r*pr r) λr l=>by rw[K l],Sx.sumN_congr (n:=k+k+1) (g:=λj=>am j*(iR _ _ _ _ _).g j) λj a=>by rw[pg a]]
   exact this)
  exact⟨p,am,pr,⟨M.p1,c.1,c.2.1,c.2.2.1,c.2.2.2,M.sp,λj a=>⟨M.sa j a,M.am0 j a⟩,λi hi=>⟨M.sr i (show i<N+1 by lia),M.pr0 i (show i<N+1 by lia)⟩⟩,U⟩
theorem Cu {st:Sto} (hN:N<=32) (w:k<=16):lcI (.nm 0) aJ jD [none] ((qam N).map λi=>D.lst (mpI k (V i))) st=some ((qam N).map λi=>D.lst (mpI (k+k+1) (Sx.wdR N k V i)),st):=
 iF _ λi hi=>by
  have q:=qaD.mp hi;have e1:mpI k _++mpI k (λt=>- - V i t)=mpI _ (Sx.wdR N k V i):=DM (λt s=>by unfold Sx.wdR;rw[iFP q,iFP s]) (λt s=>by unfold Sx.wdR;rw[iFP q,iFN (by lia),iFP (by lia),qdt,qka]);have Y:mpI (k+k) (Sx.wdR N k V i)++[D.int 1]=mpI (k+k+1) (Sx.wdR N k V i):=by
   rw[c9,show Sx.wdR N k V i _=1 by unfold Sx.wdR;rw[iFP q,iFN (by lia),iFN (by lia)]]
  have hw:=Cr (st:=st) (k:=k) (f:=λt=>- V i t) (by lia);rw[e1]at hw;rw[<-Y];exact ag (ai (ac (ao (aM (aT U) (by rw[aH];lia) (iF _ λt _=>rfl))) U) hw) (ao (cr (ac U U) U (by decide))) (fM _ (by rw[aH];show k+k+1<=1000000;lia))
theorem EJ (h:Spl fs ts) (hN:0<nR fs):∃ p am pr,Dc (nR fs) ts.length (spV fs b ts) p am pr/\∀ (st:Sto) (J B G:Option W),∃ u,
  ah (az (.nm 4) (iOp bg (au (iLc 1 [] (aB (iV 3)) (.nm 0) aJ jD)) (au (bn (aa (iOp bg (iOp bm (au (bn (aa (iC (.int 1)) ae))) (iOp bm (iC (.int 2)) (iCB aY (aa (iV 2) ae)))) (au (bn (aa (iC (.int 0)) ae)))) ae))))) (az (.nm 5) (ap jc (aa (iCB fX (aa (au (iLc 1 [] (aB (iV 4)) (.nm 0) aJ jC)) ae)) (aa (iOp bg (iOp bm (a9 (aa (iC (.int 0)) ae)) (iCB aY (aa (iV 3) ae))) (a9 (aa (iC (.int 1)) ae))) (aa (iOp bg (iOp bm (a9 (aa (iC (.int 0)) ae)) (iOp bm (iC (.int 2)) (iCB aY (aa (iV 2) ae)))) (a9 (aa (iC (.int 1)) ae))) ae)))))
   [Z (.tup fs),Z (.str (aE b)),Z (tsD ts),Z (.lst ((qam (nR fs)).map λi=>D.lst (mpI ts.length (spV fs b ts i)))),none,J,B,G] st
   = some (.nx [Z (.tup fs),Z (.str (aE b)),Z (tsD ts),Z (.lst ((qam (nR fs)).map λi=>D.lst (mpI ts.length (spV fs b ts i)))),Z (.lst ((qam (nR fs+1)).map λi=>D.lst (mpI (ts.length+ts.length+1) (Sx.wdR (nR fs) ts.length (spV fs b ts) i)))),Z (.tup [.str "most",.int p,.tup (mpI (ts.length+ts.length+1) am),.tup (mpI (nR fs+1) pr)]),B,G] (st++u)):=by
 have hn:=h.n;have w:=h.tl;obtain⟨x,M,_,O⟩:=By (EI (N:=nR fs) (k:=ts.length) (V:=spV fs b ts) hn w Et);obtain⟨p,am,pr,C,rfl⟩:=Gd hN M;refine⟨p,am,pr,C,λst J B G=>?_⟩;obtain⟨u,e⟩:=O st;refine⟨u,?_⟩;have m:aY st [.d (tsD ts)]=some (.int (ts.length:Int)):=by
  show some (D.int _)=_;rw[qaf]
 have y:aY st [.d (.lst ((qam (nR fs)).map λi=>D.lst (mpI ts.length (spV fs b ts i))))]=some (.int (nR fs:Int)):=by
  show some (D.int _)=_;rw[qaf,qav]
 have X:=Cu (st:=st) (V:=spV fs b ts) (N:=nR fs) (k:=ts.length) hn w;have o:mpI (ts.length+ts.length) (λ_=>1)++[D.int 0]=mpI (ts.length+ts.length+1) (Sx.wdR (nR fs) ts.length (spV fs b ts) (nR fs)):=by
  rw[c9,show Sx.wdR (nR fs) ts.length (spV fs b ts) (nR fs) (ts.length+ts.length)=0 by unfold Sx.wdR;rw[iFN (by lia),iFN (by lia)]];refine congrArg (·++[D.int 0]) (qbw λj a=>?_)
  have:=qaD.mp a
  unfold Sx.wdR;rw[iFN (by lia),iFP (by lia)]
 have hb:mpI (nR fs) (λ_=>0)++[D.int 1]=mpI (nR fs+1) (Sx.wdB (nR fs)):=by
  rw[c9,show Sx.wdB (nR fs) (nR fs)=1 by unfold Sx.wdB;rw[iFN (by lia)]];refine congrArg (·++[D.int 1]) (qbw λj a=>?_)
  have:=qaD.mp a
  unfold Sx.wdB;rw[iFP (by lia)]
 have hg:mpI (ts.length+ts.length) (λ_=>0)++[D.int 1]=mpI (ts.length+ts.length+1) (Sx.wdG ts.length):=by
  rw[c9,show Sx.wdG ts.length (ts.length+ts.length)=1 by unfold Sx.wdG;rw[iFN (by lia)]];refine congrArg (·++[D.int 1]) (qbw λj a=>?_)
  have:=qaD.mp a
  unfold Sx.wdG;rw[iFP (by lia)]
 have l:((qam (nR fs)).map λr=>D.lst (mpI (ts.length+ts.length+1) (Sx.wdR (nR fs) ts.length (spV fs b ts) r)))++[D.lst (mpI (ts.length+ts.length+1) (Sx.wdR (nR fs) ts.length (spV fs b ts) (nR fs)))]=(qam (nR fs+1)).map λr=>D.lst (mpI (ts.length+ts.length+1) (Sx.wdR (nR fs) ts.length (spV fs b ts) r)):=by
  rw[qdR,qbJ];rfl
 have s:lcI (.nm 0) aJ jC [none] _ st=some ((qam (nR fs+1)).map λr=>D.tup _,st):=
  iF (g:=λr=>D.lst (mpI (ts.length+ts.length+1) (Sx.wdR (nR fs) ts.length (spV fs b ts) r))) _ λr _=>rfl
 have P:((qam (nR fs)).map λr=>D.lst (mpI (ts.length+ts.length+1) (Sx.wdR (nR fs) ts.length (spV fs b ts) r))).length+1<=1000000:=by rw[qaf,qav];lia
 have S:((qam (nR fs)).map λi=>D.lst (mpI ts.length (spV fs b ts i))).length<=1000000:=by rw[qaf,qav];lia
 have E:((qam (nR fs+1)).map λr=>D.lst (mpI (ts.length+ts.length+1) (Sx.wdR (nR fs) ts.length (spV fs b ts) r))).length<=1000000:=by rw[qaf,qav];lia
 have L:(mpI (ts.length+ts.length) (λ_=>1)).length+1<=1000000:=by rw[aH];lia
 have l2:(mpI (nR fs) (λ_=>0)).length+1<=1000000:=by rw[aH];lia
 have l3:(mpI (ts.length+ts.length) (λ_=>0)).length+1<=1000000:=by rw[aH];lia
 have T:=zH st 1 (n:=ts.length+ts.length) (by lia);have m2:=um st 0 (n:=nR fs) (by lia);have m3:=um st 0 (n:=ts.length+ts.length) (by lia);have H:=Gb st ts.length;unfold kC at e;rw[<-hb,<-hg]at e;rw[<-l]at s E ⊢;rw[<-o]at s E ⊢;generalize mpI (ts.length+ts.length) (λ_=>1)=A1 at *;exact aj (ak (ag (ao (aM (aT U) S X)) (ao (cr (ac (ag (ag (ao (cr (ds:=[.int 1]) (ac U U) U (by show 1<=1000;decide))) (ag U (aF (ac U U) m) H) T) (ao (cr (ds:=[.int 0]) (ac U U) U (by show 1<=1000;decide))) (fM _ L)) U) U (by show 1<=1000;decide))) (fM _ P)))
  (ak (ai (ac (aF (ac (ao (aM (aT U) E s)) U) U) (ac (ag (ag (bh (ds:=[.int 0]) (ac U U) U (by show 1<=1000;decide)) (aF (ac U U) y) m2) (bh (ds:=[.int 1]) (ac U U) U (by show 1<=1000;decide)) (mS _ l2)) (ac (ag (ag (bh (ds:=[.int 0]) (ac U U) U (by show 1<=1000;decide)) (ag U (aF (ac U U) m) H) m3) (bh (ds:=[.int 1]) (ac U U) U (by show 1<=1000;decide)) (mS _ l3)) U))) e))
end
end Own
set_option maxHeartbeats 1000000
namespace Own
open PySem L2
open Sx (Pb Tb Good Named Fe LV ZV piv lexP leastR leaveL sumN unit colV basis)
theorem Gv {ns:List Int} (h:∀ x∈ns,x=0):bO 0 ns=0:=by
 have d:=λx a=>qcn.mpr ((cV 0 ns).2 x a)
 induction ns with
 |nil=>rfl
 |cons x ns c=>
  have a:=h x qag;subst a;exact c (λy b=>h y (qaj _ b)) (λy b=>qcn.mpr ((cV 0 ns).2 y b))
theorem Bw {n:Nat}{f:Nat->Int} (l:∀ i,i<n->Sm (f i)) (hn:n<=1000):∃ (q:Int) (g:Nat->Int),0<q/\(∀ i,i<n->f i=q*g i)/\∀ st:Sto,bQ [.d (.tup (mpI n f))] st=some (.d (.tup (mpI n g)),st):=by
 have hb:∀ x∈(qam n).map f,Sm x:=λx a=>by
  obtain⟨i,hi,rfl⟩:=qaz.mp a;exact l i (qaD.mp hi)
 have k:=λst=>qB (st:=st) (λ_ _=>by rw[<-bR];exact be U) hb;by_cases c:∀ x∈(qam n).map f,x=0
 ·refine⟨1,f,by decide,λi _=>(qcy _).symm,λst=>?_⟩
  have e:=k st;rw[Gv c]at e;exact ax U (aj (ak (ai U e)) (gZ (d7 U U)))
 ·obtain⟨x,a,o⟩:∃ x∈(qam n).map f,x≠0:=by
   by_cases q:∃ x∈(qam n).map f,x≠0
   ·exact q
   ·exact absurd (λx a=>qcx λh=>q ⟨x,a,h⟩) c
  obtain⟨j,m⟩:=jE a o (hb x a);have gd:∀ i,i<n->_∣f i:=λi hi=>qcn.mpr ((cV 0 _).2 _ (qaz.mpr ⟨i,qaD.mpr hi,U⟩));generalize ((bO 0 _):Int)=q at *;refine⟨q,_,j,λi hi=>(qda (gd i hi)).symm,λst=>?_⟩;have r:(q==(0))=false:=by lia
  have b:=m9 (st:=st) (ns:=(qam n).map f) j m U;rw[<-bR,qaG,qaG]at b;have p:(mpI n f).length<=1000000:=by rw[aH];lia
  exact ax U (aj (ak (ai U (k st))) (aj (bT (ay U U (by rw[dw,r])) U) (aD (aF (ac (ao (aM (be U) p b)) U) U))))
def rN (fs:List D) (i:Nat):Nat:=(jL fs i).toNat
section
variable {fs:List D}{b:Bool}{ts:List (List Int)}
theorem xA:∀ (r:List D) (i:Nat),(bD i r).Nodup
 |[],_=>qcS
 |d::r,i=>by
  have B:=xA r (i+1);have x:∀ j∈bD _ r,(i)≠j:=λj q=>by
   obtain⟨m,e,_,_⟩:=lq r (i+1) q;lia
  cases d<;>first|exact B|exact (qcu.mpr ⟨λhm=>x _ hm U,B⟩)
theorem vL {i:Nat} (hi:i<nR fs):jL fs i∈bD 0 fs:=by
 unfold jL;rw[qaB,qao hi];exact qbV hi
theorem jw (h:Spl fs ts) {i:Nat} (hi:i<nR fs):jL fs i=(rN fs i:Int)/\rN fs i<fs.length:=by
 obtain⟨m,d,e,hm,_⟩:=rX h (vL hi);unfold rN;rw[e];exact⟨U,hm⟩
theorem vK (h:Spl fs ts) {i j:Nat} (hi:i<nR fs) (q:j<nR fs) (e:rN fs i=rN fs j):i=j:=by
 have t:jL fs i=jL fs j:=by rw[(jw h hi).1,(jw h q).1,e]
 unfold jL at t;rw[qaB,qaB,qao hi,qao q]at t;exact (qdJ (xA fs 0)).mp t
theorem EH {st:Sto}{m:Nat}{y:Nat->Int} (h:Spl fs ts) (hm:m=nR fs\/m=0):d5 [.d (.tup fs),.d (.tup (mpI m y))] st=some (.d (.tup (mpI fs.length λr=>acc (rN fs) y m r)),st):=by
 have E:=h.fl;have F:∀ (w f c:Option W) (s:Sto),cj [.d (.tup fs)] s=some (.d (.tup ((bD 0 fs).map D.int)),s)->cN (aa (ap cj (aa (iV 0) ae)) (aa (iV 1) ae)) [Z (.tup fs),Z (.tup (mpI m y)),w,f,c] s=some ((qam m).map λi=>D.tup [.int ((rN fs i:Nat):Int),.int (y i)],s):=λw f c s C=>by
  have t:dc ((bD 0 fs).map D.int) (mpI m y)=(qam m).map λi=>D.tup [.int ((rN fs i:Nat):Int),.int (y i)]:=by
   apply qbX;intro i;rw[gy,qaF,qaF];by_cases hi:i<m
   ·rw[bF hi,qbL hi]
    have p:i<(bD 0 fs).length:=by have:nR fs=(bD 0 fs).length:=rfl;lia
    have e:=(jw h (show i<nR fs by lia)).1;unfold jL at e;rw[qaB,qao p]at e;rw[qao p,qak,qak,<-e];rfl
   ·rw[qaQ (l:=mpI m y) (by rw[aH];lia),qaQ (l:=qam m) (by rw[qav];lia)]
    cases (bD 0 fs)[i]?<;>rfl
  rw[<-t]
  have:=ac (ai (a:=aa (iV 0) ae) (env:=[Z (.tup fs),Z (.tup (mpI m y)),w,f,c]) (st:=s) U C) (ac (a:=iV 1) (b:=ae) U U)
  simp only[cN,this,qaa];rfl
 obtain⟨A,H,z,⟨f,c,rfl⟩,rfl⟩:=bH (g:=.tp [3,4]) (body:=iE) (ds:=(qam m).map λi=>D.tup [.int ((rN fs i:Nat):Int),.int (y i)])
  (λi env s=>(∃ f c,env=[Z (.tup fs),Z (.tup (mpI m y)),some (.h st.length),f,c])/\s=st++[.l (mpI fs.length λr=>acc (rN fs) y i (0+r))])
  ⟨⟨_,_,U⟩,U⟩ (λi d env s hd ⟨⟨f,c,e⟩,es⟩=>by
   subst e es;obtain⟨hi,rfl⟩:=oi hd;refine⟨_,_,_,U,.inl ?_,⟨some (.d (.int ((rN fs i:Nat):Int))),Z (.int (y i)),U⟩,U⟩
   have:=sIx (k:=rN fs i) (env:=[Z (.tup fs),Z (.tup (mpI m y)),some (.h st.length),Z (.int ((rN fs i:Nat):Int)),Z (.int (y i))]) (v:=iV 4) (d:=.int (y i)) (st:=st) (xs:=mpI fs.length λr=>acc (rN fs) y i (0+r)) U (o:=iV 2) (i:=iV 3) U U (by rw[aH];exact ((jw h (show i<nR fs by lia)).2))
   rw[<-pS (d:=0) (N:=fs.length) (e:=rN fs) (y:=y) (i:=i) (by lia) λj q e=>by have:=vK h (show j<nR fs by lia) (show i<nR fs by lia) e;lia]
   exact this)
 rw[qaf,qav]at z;have u:=xB (st:=st++[.l (mpI fs.length λr=>acc (rN fs) y 0 (0+r))]) (fs:=fs) (by lia);have G:iCB fX (aa (iV 2) ae) [Z (.tup fs),Z (.tup (mpI m y)),some (.h st.length),f,c] (st++[.l (mpI fs.length λr=>acc (rN fs) y m (0+r))])=some (.d (.tup (mpI fs.length λr=>acc (rN fs) y m (0+r))),st++[.l (mpI fs.length λr=>acc (rN fs) y m (0+r))]):=by
  refine aF (ac U U) ?_;show (lg (st++[.l (mpI fs.length λr=>acc (rN fs) y m (0+r))]) st.length).map _=_;rw[(iH st (mpI fs.length λr=>acc (rN fs) y m (0+r)))];rfl
 have:=kA (n:=5) (k:=2) (b:=jS) (ws:=[.d (.tup fs),.d (.tup (mpI m y))]) (st:=st) U (aj (ak (je (st:=st) (aF (ac U U) U) (by lia) _ y 0)) (aj (bz (F _ _ _ _ u) z) (aD G)))
 rw[qcR]at this;simp only[qbj]at this;exact this
end
end Own
set_option maxHeartbeats 1000000
namespace Own
open PySem L2
open Sx (Pb Tb Good Named Fe LV ZV piv lexP leastR leaveL sumN unit colV basis)
theorem sk (k:List Int) (d:D) (r:List (List Int×D)) (t:List Int):vM ((k,d)::r) t=if k=t then some d else vM r t:=by
 unfold vM;by_cases e:k=t
 ·rw[qev (by simpa using e),iFP e];rfl
 ·rw[qew (by simpa using e),iFN e]
theorem AY (a:List (List Int×D)) (k:List Int):(a.any λp=>decide (p.1=k))=decide (k∈a.map qc5):=by
 induction a with
 |nil=>rfl
 |cons p r b=>
  rw[qcr,b];by_cases e:p.1=k
  ·simp[e]
  ·have:¬ k=p.1:=λz=>e z.symm
   simp[e,this]
theorem AG (k:List Int) (d:D) (j:List Int):∀ a:List (List Int×D),k∉a.map qc5->vM (a++[(k,d)]) j=if j=k then some d else vM a j
 |[],_=>by
  show vM [(k,d)] j=_;rw[sk];by_cases e:k=j
  ·rw[iFP e,iFP e.symm]
  ·rw[iFN e,iFN (λz=>e z.symm)]
 |(c,f)::r,h=>by
  rw[qas,qay,not_or]at h;rw[qbN,sk,sk,AG k d j r h.2];by_cases b:c=j
  ·rw[iFP b,iFP b,iFN (λz=>h.1 (z.symm.trans b.symm))]
  ·rw[iFN b,iFN b]
theorem Bb (s:Sto) (a:Int):dNe s (.d (.int a)) (.d (.int 0))=some (.bl (decide (a≠0))):=by
 show some (D.bl (!(a==0)))=_;by_cases h:a=0<;>simp[h]
def aQ (a:List (List Int)) (X:List Int->Int):List Prt:=(a.filter λt=>decide (X t≠0)).map λt=>(t,X t)
theorem zf {st:Sto}{kd:Str}{n:Nat}{a:List (List Int×D)}{X:List Int->Int} (hm:mgt st n=some a) (f:a.length<64) (m:∀ t∈a.map qc5,vM a t=some (.int (X t))) :
  iK [.d (.str kd),.h n] st=some (.d (bS kd (aQ (ar (a.map qc5)) X)),st):=by
 have o:(ar (a.map qc5)).length<=64:=by rw[(aG _).length_eq,qaf];lia
 have i:∀ t∈ar _,x9 (iV 1) (iV 0) [Z (aq t),some (.h n)] st=some (.d (.int (X t)),st):=λt b=>by
  have p:=(λt b=>m t ((aG _).mem_iff.mp b)) t b;simp only[x9,iV,aq,qaO,qaY,qak,qaa,hm,(br t),p]
 have c:=gm (g:=.nm 0) (tt:=jx) (te:=jt) (env:=[none,some _]) (λd=>match d with|.tup ds=>(match bb ds with|some t=>decide (X t≠0)|none=>false)|_=>false) (λd=>match d with|.tup ds=>(match bb ds with|some t=>bj (t,X t)|none=>d)|d=>d) (ds:=(ar _).map aq) λd hd=>by
  obtain⟨t,b,rfl⟩:=qaz.mp hd;have j:=br t;refine⟨_,U,?_,λ_=>?_⟩
  ·show _=some ((match bb _ with|some t=>decide _|none=>false),st)
   rw[j];exact ay (i t b) U (Bb _ _)
  ·show _=some (W.d (match bb _ with|some t=>bj (t,X t)|none=>aq t),st)
   rw[j];exact bh (ac U (ac (i t b) U)) U (by show 2<=1000;decide)
 have e:((((ar (a.map qc5)).map aq).filter (λd=>match d with|.tup ds=>(match bb ds with|some t=>decide (X t≠0)|none=>false)|_=>false)).map (λd=>match d with|.tup ds=>(match bb ds with|some t=>bj (t,X t)|none=>d)|d=>d))=(aQ (ar (a.map qc5)) X).map bj:=by
  unfold aQ;rw[qia,qaG,qaG];have j:=br
  congr 1
  ·funext t
   show (match bb _ with|some t=>bj (t,X t)|none=>aq t)=bj (t,X t)
   rw[j]
  ·refine qft λt _=>?_
   show (match bb _ with|some t=>decide _|none=>false)=_
   rw[j]
 rw[e]at c;have l:kU (iV 1) [Z (.str kd),some (.h n)] st=some ((ar (a.map qc5)).map aq,st):=by
  simp only[kU,iV,qaO,qaY,qak,qaa,hm,f,if_true]
 have k:aB (au (kU (iV 1))) [Z (.str kd),some (.h n)] st=some ((ar (a.map qc5)).map aq,st):=by
  simp only[aB,au,l,qak,qaa]
 have q:((ar (a.map qc5)).map aq).length<=1000000:=by rw[qaf];lia
 exact ax U (aD (bh (ac U (ac (aF (ac (ao (aM k q c)) U) U) U)) U (by show 2<=1000;decide)))
theorem uh (st:Sto) (a:List (List Int×D)):mgt (st++[.m a]) st.length=some a:=by
 unfold mgt;rw[qaJ (qan _),qeN];rfl
theorem nY {α:Type}{te:Ef}{l:Ev}{st:Sto}{g:α->D×D} (F:α->D):∀ {a:List α},(∀ k∈a,te (Z (g k).1::some (.d (g k).2)::l) st=some (.d (F k),st))->
  lcI (.tp [0,1]) aJ te (none::none::l) (a.map λk=>D.tup [(g k).1,(g k).2]) st=some (a.map F,st)
 |[],_=>rfl
 |k::a,h=>by
  rw[qas];unfold lcI;rw[show cC _ _ _=some (some _::some _::l) from U,qaa,show aJ _ st=some (true,st) from U,qaa,(h k qag),qaa,(nY F λx b=>h x (qaj _ b))];rfl
end Own
set_option maxHeartbeats 1000000
namespace Own
open PySem L2
open Sx (Pb Tb Good Named Fe LV ZV piv lexP leastR leaveL sumN unit colV basis)
def dvP (g:Int) (p:Prt):Prt:=(p.1,p.2 / g)
theorem yr {st:Sto}{kd:Str}{ps:List Prt}{g:Int} (e:ps.length<=1000) (hg:∀ p∈ps,0<g/\Sm g):oa [.d (bS kd ps),.d (.int g)] st=some (.d (bS kd (ps.map (dvP g))),st):=by
 have a:lcI (.tp [0,1]) aJ nq [none,none,Z (.int g)] (ps.map bj) st=some ((ps.map (dvP g)).map bj,st):=by
  rw[qaG];exact nY (g:=λp:Prt=>(aq p.1,D.int p.2)) _ λp b=>bh (ac U (ac (ag U U (kQ st (hg p b).1 (hg p b).2)) U)) U (by show 2<=1000;decide)
 have c:(ps.map bj).length<=1000000:=by rw[qaf];lia
 exact ax U (aD (bh (ac (ag U U (vf _ _ _)) (ac (aF (ac (ao (aM (be (ag U U (re _ _ _))) c a)) U) U) U)) U (by show 2<=1000;decide)))
theorem yA {st:Sto}{kd:Str}{ps:List Prt} (e:ps.length<=1000) (hn:∀ p∈ps,p.2≠0/\Sm p.2):og [.d (bS kd ps)] st=some (.d (bS kd (ps.map (dvP ((bO 0 (ps.map qcF):Nat):Int)))),st):=by
 have b:lcI (.tp [0,1]) aJ nr [none,none] (ps.map bj) st=some ((ps.map qcF).map D.int,st):=by
  rw[qaG];exact nY (g:=λp:Prt=>(aq p.1,D.int p.2)) _ λp a=>rfl
 have c:(ps.map bj).length<=1000000:=by rw[qaf];lia
 exact ax U (aD (ai (ac U (ac (ai (ac (ao (aM (be (ag U U (re _ _ _))) c b)) U) (nA (st:=st) λn hm=>by
  obtain⟨p,a,rfl⟩:=qaz.mp hm
  exact (hn p a).2)) U)) (yr (st:=st) (kd:=kd) e λp a=>jE (qdS a) (hn p a).1 (hn p a).2)))
theorem Bz {a:List (List Int)}{X:List Int->Int}{g:Int} (hd:∀ t∈a,g∣X t):(aQ a X).map (dvP g)=aQ a λt=>X t / g:=by
 unfold aQ;rw[qaG]
 have:(a.filter λt=>decide (X t≠0))=a.filter λt=>decide (X t / g≠0):=qft λt b=>by
  apply decide_eq_decide.mpr;refine not_congr ⟨λh=>by rw[h,qfn],λh=>by rw[<-(qda (hd t b)),h,qbi]⟩
 rw[this];rfl
def pkv (ts:List (List Int)) (x:Nat->Int) (i:Nat):List (List Int×D):=(qam i).map λj=>(ts.getD j [],.int (x j))
section
variable {ts:List (List Int)}{x:Nat->Int}
theorem tF (hn:ts.Nodup) {i j:Nat} (hi:i<ts.length) (l:j<ts.length) (e:ts.getD i []=ts.getD j []):i=j:=by
 rw[qaB,qaB,qao hi,qao l]at e;exact (qdJ hn).mp e
theorem xk (i:Nat):(pkv ts x i).map qc5=(qam i).map λj=>ts.getD j []:=by unfold pkv;rw[qaG];rfl
theorem xj:(pkv ts x ts.length).map qc5=ts:=by
 have:=fE [] id ts
 rw[qf3]at this;rw[xk];exact this.symm
theorem zW (hn:ts.Nodup) {i:Nat} (hi:i<ts.length):ts.getD i []∉(pkv ts x i).map qc5:=λh=>by
 rw[xk]at h;obtain⟨j,l,e⟩:=qaz.mp h;have N:=qaD.mp l
 have:=tF hn (show j<ts.length by lia) hi e
 lia
theorem uz (i:Nat):pkv ts x (i+1)=pkv ts x i++[(ts.getD i [],.int (x i))]:=by unfold pkv;rw[qdR,qbJ];rfl
theorem BR (hn:ts.Nodup) {i:Nat} (hi:i<ts.length):Aa (pkv ts x i) (ts.getD i []) (.int (x i))=pkv ts x (i+1):=by
 rw[uz];unfold Aa;rw[AY,iFN (by rw[decide_eq_true_iff];exact (zW hn hi))]
theorem zX (hn:ts.Nodup):∀ {i j:Nat},i<=ts.length->j<i->vM (pkv ts x i) (ts.getD j [])=some (.int (x j))
 |0,_,_,l=>absurd l (qcL _)
 |i+1,j,hi,l=>by
  rw[uz,AG _ _ _ _ (zW hn (by lia))];by_cases e:j=i
  ·subst e;rw[iFP U]
  ·rw[iFN (λq=>e (tF hn (by lia) (by lia) q)),zX hn (by lia) (by lia)]
def gr (ts:List (List Int)) (x:Nat->Int) (t:List Int):Int:=match vM (pkv ts x ts.length) t with|some (.int z)=>z|_=>0
theorem BB (hn:ts.Nodup) {j:Nat} (l:j<ts.length):gr ts x (ts.getD j [])=x j:=by
 unfold gr;rw[zX hn (qan _) l]
theorem oh {t:List Int} (h:t∈ts):∃ j,j<ts.length/\ts.getD j []=t:=by
 obtain⟨j,l,e⟩:=qcG.mp h;exact⟨j,l,by rw[qaB,qao l];exact e⟩
theorem FI {st:Sto}{m i:Nat}{f:Nat->Int}{a0:Option W} (hn:ts.Nodup) (M:ts.length<=16) (hm:ts.length+ts.length<=m) (hi:i<ts.length) :
  fz [a0,Z (tsD ts),Z (.tup (mpI m f)),some (.h st.length),Z (.int (i:Int)),Z (aq (ts.getD i []))] (st++[.m (pkv ts (λj=>f j - f (ts.length+j)) i)])
  = some (.nx [a0,Z (tsD ts),Z (.tup (mpI m f)),some (.h st.length),Z (.int (i:Int)),Z (aq (ts.getD i []))] (st++[.m (pkv ts (λj=>f j - f (ts.length+j)) (i+1))])):=by
 have v:=uh st (pkv ts (λj=>f j - f (ts.length+j)) i);have S:=BR (x:=λj=>f j - f (ts.length+j)) hn hi;have Y:=oz st (.m (pkv ts (λj=>f j - f (ts.length+j)) i)) (.m (pkv ts (λj=>f j - f (ts.length+j)) (i+1)));have V:(pkv ts (λj=>f j - f (ts.length+j)) i).length<1000:=by unfold pkv;rw[qaf,qav];lia
 have y:∀ s ,aY s [.d (tsD ts)]=some _:=λs=>by
  show some (D.int _)=_;rw[qaf]
 have ia:∀ s ,dIx s (.d (.tup (mpI m f))) (.d (.int (i)))=some _:=λs=>bZ (bF (by lia));have ib:∀ s ,dIx s (.d (.tup (mpI m f))) (.d (.int ((ts.length)+(i))))=some _:=λs=>by
  exact bZ (bF (by lia))
 generalize pkv ts _ i=K at *;generalize tsD ts=tD at *;generalize mpI m f=A at *;generalize ts.getD i []=t at *;have L:=ag (g:=hW) (env:=[a0,some _,some _,some (.h st.length),some _,Z (aq t)]) (st:=st++[.m K]) (ag (a:=iV 2) (b:=iV 4) U U (ia _)) (ag (a:=iV 2) (b:=iOp bg (iCB aY (aa (iV 1) ae)) (iV 4)) U (ag (aF (ac U U) (y _)) U U) (ib _)) U;simp only[aq]at L ⊢;simp only[fz,wu,L,iV,qaO,qaY,qak,qaa,(br _),v,V,if_true,S,Y]
theorem D0 {b:Bool}{f:Nat->Int}{m:Nat} (hn:ts.Nodup) (M:ts.length<=16) (hm:ts.length+ts.length<=m) (Q:∀ j,j<ts.length+ts.length->Sm (f j)/\0<=f j) :
  ∃ (q:Int) (X:List Int->Int),0<q/\(∀ j,j<ts.length->f j - f (ts.length+j)=q*X (ts.getD j []))/\bO 0 ((aQ (ar ts) X).map qcF)<=1/\∀ st:Sto,jd [.d (.str (aE b)),.d (tsD ts),.d (.tup (mpI m f))] st=some (.d (bS (aE b) (aQ (ar ts) X)),st):=by
 have C:∀ j,j<ts.length->gr ts (λj=>f j - f (ts.length+j)) (ts.getD j [])=f j - f (ts.length+j):=λj l=>BB hn l;have o:∀ p∈aQ (ar ts) (gr ts λj=>f j - f (ts.length+j)),p.2≠0/\Sm p.2:=λp r=>by
  unfold aQ at r;obtain⟨t,w,rfl⟩:=qaz.mp r;obtain⟨N,T⟩:=qcb.mp w;refine⟨of_decide_eq_true T,?_⟩;obtain⟨j,l,rfl⟩:=oh ((aG _).mem_iff.mp N);show Sm (gr ts _ (ts.getD j []));rw[C j l];have a:=Q j (by lia);have c:=Q (ts.length+j) (by lia);unfold Sm at *;generalize (2:Nat)^4000=B at *;lia
 have E:(aQ (ar ts) (gr ts λj=>f j - f (ts.length+j))).length<=1000:=by
  unfold aQ;rw[qaf]
  have:=qc2 (λt=>decide (gr ts (λj=>f j - f (ts.length+j)) t≠0)) (ar ts)
  rw[(aG _).length_eq]at this;lia
 have u:∀ st:Sto,jd [.d (.str (aE b)),.d (tsD ts),.d (.tup (mpI m f))] st=some (.d (bS (aE b) ((aQ (ar ts) (gr ts λj=>f j - f (ts.length+j))).map (dvP ((bO 0 ((aQ (ar ts) (gr ts λj=>f j - f (ts.length+j))).map qcF):Nat):Int)))),st):=λst=>by
  have J:=zf (st:=st++[.m (pkv ts (λj=>f j - f (ts.length+j)) ts.length)]) (kd:=aE b) (X:=gr ts λj=>f j - f (ts.length+j)) (uh st _) (by unfold pkv;rw [qaf,qav];lia) (λt w=>by
   rw[xj]at w;obtain⟨j,l,rfl⟩:=oh w;rw[C j l]
   exact zX hn (qan _) l)
  rw[xj]at J;have H:=yA (st:=st++[.m (pkv ts (λj=>f j - f (ts.length+j)) ts.length)]) (kd:=aE b) E o;obtain⟨R,s2,v,⟨I,G,rfl⟩,rfl⟩:=bH (g:=.tp [4,5]) (body:=fz) (ds:=(qam ts.length).map λi:Nat=>D.tup [.int ((i:Nat):Int),aq (ts.getD i [])])
   (λi env s=>(∃ I G,env=[Z (.str (aE b)),Z (tsD ts),Z (.tup (mpI m f)),some (.h st.length),I,G])/\s=st++[.m (pkv ts (λj=>f j - f (ts.length+j)) i)])
   (env:=[Z (.str (aE b)),Z (tsD ts),Z (.tup (mpI m f)),some (.h st.length),none,none]) ⟨⟨_,_,U⟩,U⟩ (λi d env s hd ⟨⟨I,G,e⟩,es⟩=>by
    subst e es;obtain⟨hi,rfl⟩:=oi hd
    exact⟨_,_,_,U,.inl (FI hn M hm hi),⟨_,_,U⟩,U⟩)
  rw[qaf,qav]at v;have en:cJ (aa (iV 1) ae) [Z (.str (aE b)),Z (tsD ts),Z (.tup (mpI m f)),some (.h st.length),none,none] (st++[.m []])=some ((qam ts.length).map λi:Nat=>D.tup [.int ((i:Nat):Int),aq (ts.getD i [])],st++[.m []]):=by
   rw[<-Bc (λi=>aq (ts.getD i [])),<-fE [] aq ts];rfl
  generalize aQ (ar ts) (gr ts λj=>f j - f (ts.length+j))=ps at *;generalize pkv ts (λj=>f j - f (ts.length+j)) ts.length=K at *
  have:=kA (n:=6) (k:=3) (b:=ph) (ws:=[.d (.str (aE b)),.d (tsD ts),.d (.tup (mpI m f))]) (st:=st) U (aj U (aj (bz en v) (aD (ai (ac (ai U J) U) H))))
  rw[qcR]at this;exact this
 by_cases F:aQ (ar ts) (gr ts λj=>f j - f (ts.length+j))=[]
 ·refine⟨1,gr ts λj=>f j - f (ts.length+j),by decide,λj l=>by rw[C j l,qcy],by rw[F];exact qby _,λst=>?_⟩
  rw[u st,F];rfl
 ·obtain⟨p,r⟩:=List.exists_mem_of_ne_nil _ F
  have g0:=(jE (qdS r) (o p r).1 (o p r).2).1;have hd:∀ t∈ar ts,((bO 0 ((aQ (ar ts) _).map qcF):Nat):Int)∣gr ts (λj=>f j - f (ts.length+j)) t:=λt w=>by
   by_cases z:gr ts (λj=>f j - f (ts.length+j)) t=0
   ·rw[z];exact Int.dvd_zero _
   ·refine qcn.mpr ((cV 0 _).2 _ (qaz.mpr ⟨(t,gr ts (λj=>f j - f (ts.length+j)) t),?_,U⟩))
    unfold aQ;exact qaz.mpr ⟨t,qcb.mpr ⟨w,decide_eq_true z⟩,U⟩
  have P:=Bz hd;have O:=zg λn hn=>by
   obtain⟨p,r,rfl⟩:=qaz.mp hn;exact (o p r).1
  have v:((aQ (ar ts) (gr ts λj=>f j - f (ts.length+j))).map qcF).map (λn=>n / ((bO 0 ((aQ (ar ts) (gr ts λj=>f j - f (ts.length+j))).map qcF):Nat):Int))=((aQ (ar ts) (gr ts λj=>f j - f (ts.length+j))).map (dvP ((bO 0 ((aQ (ar ts) (gr ts λj=>f j - f (ts.length+j))).map qcF):Nat):Int))).map qcF:=by
   rw[qaG,qaG];rfl
  rw[v,P]at O;generalize ((bO 0 _:Nat):Int)=q at *;refine⟨q,_,g0,λj l=>?_,O,λst=>by rw[u st,P]⟩
  have:=hd (ts.getD j []) ((aG _).mem_iff.mpr (by rw[qaB,qao l];exact qbV l))
  rw[qda this,C j l]
end
theorem lp (f:Nat->Int):∀ n,((qam n).map f).sum=sumN n f
 |0=>rfl
 |n+1=>by
  rw[qdR,qbJ,List.sum_append,lp f n];show _+(f n+0)=sumN n f+f n;lia
theorem uy {l m:List Int} (h:l.Perm m):l.sum=m.sum:=by
 induction h with
 |nil=>rfl
 |cons x _ c=>rw[qb8,qb8,c]
 |swap x y l=>rw[qb8,qb8,qb8,qb8];lia
 |trans _ _ a b=>exact a.trans b
theorem wV (X g:List Int->Int):∀ a:List (List Int),((aQ a X).map λp=>p.2*g p.1).sum=(a.map λt=>X t*g t).sum
 |[]=>rfl
 |t::a=>by
  have b:=wV X g a;unfold aQ at b ⊢;rw[qdK,qas,qb8];by_cases h:X t=0
  ·rw[iFN (by simp[h]),b,h,qci,qcP]
  ·rw[iFP (by simp[h]),qas,qas,qb8,b]
theorem zJ (X g:List Int->Int) (ts:List (List Int)):((aQ (ar ts) X).map λp=>p.2*g p.1).sum=sumN ts.length λt=>X (ts.getD t [])*g (ts.getD t []):=by
 rw[wV,uy ((aG ts).map λt=>X t*g t),fE [] _ ts,lp]
theorem uM (g:Nat->Int):∀ (r:List D) (k:Nat),((bD k r).map λj=>g j.toNat).sum=sumN r.length λj=>if dA (r.getD j .non)=true then 0 else g (k+j)
 |[],k=>rfl
 |d::r,k=>by
  rw[qap,qfI r.length 1,Sx.sumN_append];have b:(sumN r.length λj=>if dA ((d::r).getD (1+j) .non)=true then 0 else g (k+(1+j)))=sumN r.length λj=>if dA _=true then 0 else g _:=Sx.sumN_congr λj _=>by
   rw[qfI 1 j,qaY,show k+_=k+1+j by lia]
  have c:(sumN 1 λj=>if dA ((d::r).getD j .non)=true then 0 else g (k+j))=if dA d=true then 0 else g k:=by
   show (0)+_=_;rw[qcP];rfl
  rw[b,c,<-(uM g r _)];have a:(((k:Int)::bD (k+1) r).map λj=>g j.toNat).sum=g k+((bD (k+1) r).map λj=>g j.toNat).sum:=by
   rw[qas,qb8,qa7]
  cases d<;>first|exact (qcP _).symm|exact a
theorem oG:∀ (r:List D) (k j:Nat),j<r.length->r.getD j .non≠.non->((k+j:Nat):Int)∈bD k r
 |[],_,_,h,_=>absurd h (qcL _)
 |d::r,k,0,_,hn=>by
  have:_∈(k:Int)::bD (k+1) r:=qag
  cases d<;>first|exact absurd U hn|exact this
 |d::r,k,j+1,h,hn=>by
  have a:=oG r (k+1) j (by rw[qap]at h;lia) (by exact hn);rw[show k+1+j=k+(j+1) by lia]at a;cases d<;>first|exact a|exact qaj _ a
end Own
set_option maxHeartbeats 1000000
namespace Own
open PySem L2
open Sx (Pb Tb Good Named Fe LV ZV piv lexP leastR leaveL sumN unit colV basis)
theorem Bv {m p:Int} (p1:1<=p) (sm:Sm m) (sp:Sm p) (st:Sto):bQ [.d (.tup [.int m,.int p])] st=some (.d (.tup [.int (m / ((qbs m.natAbs p.natAbs:Nat):Int)),.int (p / ((qbs m.natAbs p.natAbs:Nat):Int))]),st):=by
 have e:=qB (st:=st) (λ_ _=>be U) (λx a=>by
  rcases qay.mp a with rfl|a
  ·exact sm
  ·rw[qal.mp a];exact sp)
 obtain⟨c,b⟩:=jE (ns:=[m,p]) (by simp) (by lia) sp;have f:bO 0 [m,p]=qbs m.natAbs p.natAbs:=by
  show qbs _ p.natAbs=_;rw[qhY]
 rw[f]at e c b;generalize ((qbs m.natAbs p.natAbs))=q at *;have g:(q==(0:Int))=false:=by lia
 exact ax U (aj (ak (ai U e)) (aj (bT (ay U U (by rw[dw,g])) U) (aD (aF (ac (ao (aM (be U) (by show 2<=1000000;decide) (m9 (ns:=[m,p]) c b U))) U) U))))
theorem CY {a b c:Sf}{env e:Ev}{st s:Sto}{r:Option Fl} (h:ah a b env st=some (.nx e s)) (d:c e s=r):ah a (ah b c) env st=r:=by
 simp only[ah]at h ⊢;cases ha:a env st with
 |none=>rw[ha]at h;cases h
 |some x=>
  rw[ha,qaa]at h;rw[qaa];cases x with
  |nx f s1=>simp only at h ⊢;rw[h];exact d
  |_=>cases h
theorem yN {e:Nat->Nat}{y:Nat->Int}{m i:Nat} (hi:i<m) (h:∀ j,j<m->e j=e i->j=i):acc e y m (e i)=y i:=by
 unfold acc;rw[Sx.sumN_single hi λj a q=>iFN λz=>q (h j a z),iFP U]
theorem xv {q x y:Int} (a:0<q) (e:x=q*y) (h:Sm x):Sm y:=by
 refine qaZ ?_ h;rw[e,qb3];exact qeA _ (by lia)
theorem wO {q x y:Int} (a:0<q) (h:q*x<=q*y):x<=y:=qdh h a
theorem yV (ds:List D) (d:D):ik (ds++[d]) none (some (-1))=ds:=by
 have:HT.sIx (ds++[d]).length (ds++[d]).length (some (-1))=ds.length:=by
  rw[qax,qcc];simp only[HT.sIx];lia
 unfold ik;rw[this,HT.sIx_none,qgo,qg1,qcR]
section
variable {fs:List D}{b:Bool}{ts:List (List Int)}
def rvW (fs:List D) (b:Bool) (ts:List (List Int)) (X:List Int->Int) (i:Nat):Int:=sumN ts.length λt=>X (ts.getD t [])*spV fs b ts i t
structure AV (fs:List D) (b:Bool) (ts:List (List Int)) (m p:Int) (X:List Int->Int) (w:Nat->Int):Prop where
 p1:1<=p
 m0:0<=m
 sm:Sm m/\Sm p
 w0:∀ r,r<fs.length->0<=w r/\Sm (w r)
 wn:∀ r,r<fs.length->fs.getD r .non=.non->w r=0
 wp:0<sumN (nR fs) λi=>w (rN fs i)
 wc:∀ t,t<ts.length->(sumN (nR fs) λi=>spV fs b ts i t*w (rN fs i))*p<=m*(sumN (nR fs) λi=>w (rN fs i))/\- (sumN (nR fs) λi=>spV fs b ts i t*w (rN fs i))*p<=m*sumN (nR fs) λi=>w (rN fs i)
 sX:∀ t∈ts,Sm (X t)
 po:m≠0->∃ q l s:Int,0<q/\0<l/\0<s/\m=q*l/\p=q*s/\(∀ i,i<nR fs->l<=rvW fs b ts X i)/\(∃ i,i<nR fs/\rvW fs b ts X i=l)/\(sumN ts.length λt=>((X (ts.getD t [])).natAbs:Int))=s/\bO 0 ((aQ (ar ts) X).map qcF)=1
def wdD (fs:List D) (b:Bool) (ts:List (List Int)) (m p:Int) (X:List Int->Int) (w:Nat->Int):D:=.tup [.tup [.int (m / ((qbs m.natAbs p.natAbs:Nat):Int)),.int (p / ((qbs m.natAbs p.natAbs:Nat):Int))],if m=0 then .non else bS (aE b) (aQ (ar ts) X),.tup (mpI fs.length w)]
theorem v4 (h:Spl fs ts) {y:Nat->Int} (V:∀ i,i<nR fs->Sm (y i)/\0<=y i) (r:Nat):(Sm (acc (rN fs) y (nR fs) r)/\0<=acc (rN fs) y (nR fs) r):=by
 by_cases q:∃ i,i<nR fs/\rN fs i=r
 ·obtain⟨i,hi,rfl⟩:=q
  rw[yN hi λj A z=>vK h A hi z];exact V i hi
 ·rw[mR λj A z=>q ⟨j,A,z⟩]
  exact⟨qge _,qdG _⟩
theorem Eu (h:Spl fs ts) {r:Nat} (e:fs.getD r .non=.non) {i:Nat} (hi:i<nR fs):rN fs i≠r:=λz=>by
 obtain⟨m,d,Y,_,_,_,hn,hg⟩:=rX h (vL hi);unfold rN at z;rw[z]at hg;exact hn (hg.symm.trans e)
theorem Ct (h:Spl fs ts) (hN:0<nR fs) {p:Int}{k pr:Nat->Int} (S:Dc (nR fs) ts.length (spV fs b ts) p k pr) {q F:Int}{X:List Int->Int}{w:Nat->Int} (H:0<q) (M:∀ j,j<ts.length->k j - k (ts.length+j)=q*X (ts.getD j [])) (hg:bO 0 ((aQ (ar ts) X).map qcF)<=1) (B:0<F) (o:∀ r,r<fs.length->acc (rN fs) pr (nR fs) r=F*w r):AV fs b ts (k (ts.length+ts.length)) p X w:=by
 have N:=v4 h (y:=pr) λi hi=>S.sr i hi;have O:∀ i,i<nR fs->pr i=F*w (rN fs i):=λi hi=>by
  rw[<-o _ (jw h hi).2,yN hi λj A z=>vK h A hi z]
 have K:=λr J=>by
  have e:=(N r).2;rw[o r J]at e;by_cases z:0<=w r
  ·exact z
  ·have:=Int.mul_neg_of_pos_of_neg B (show w r<0 by lia)
   lia
 have etot:sumN (nR fs) pr=F*sumN (nR fs) λi=>w (rN fs i):=by rw[<-Sx.sumN_mul];exact Sx.sumN_congr λi hi=>O i hi
 have P:∀ t,(sumN (nR fs) λi=>spV fs b ts i t*pr i)=F*sumN (nR fs) λi=>spV fs b ts i t*w (rN fs i):=λt=>by
  rw[<-Sx.sumN_mul];exact Sx.sumN_congr λi hi=>by rw[O i hi,qaN]
 have m0:=(S.sa (ts.length+ts.length) (by lia)).2;have tot:=S.tot;have p1:=S.p1;have W1:0<sumN (nR fs) λi=>w (rN fs i):=by
  rcases qd6 (Sx.sumN_nonneg (n:=nR fs) (f:=λi=>w (rN fs i)) λi hi=>K _ (jw h hi).2) with z|z
  ·exact z
  ·lia
 have C:∀ {y:Int},F*y<=k _->y*p<=k (ts.length+ts.length)*sumN (nR fs) λi=>w (rN fs i):=λ{y} V=>by
  refine wO B ?_;have h1:F*y*p<=k (ts.length+ts.length)*p:=qbT V (by lia);have h2:=qba tot m0;lia
 refine⟨p1,m0,⟨(S.sa _ (by lia)).1,S.sp⟩,λr J=>⟨K r J,xv B (o r J) (N r).1⟩,λr J e=>?_,W1,λt v=>?_,λt v=>?_,λhm=>?_⟩
 ·have:=o r J
  rw[mR λj A=>Eu h e A]at this;exact (qgh.mp this.symm).resolve_left (by lia)
 ·have c:=S.col t v
  rw[P]at c;refine⟨C c.1,C ?_⟩;lia
 ·obtain⟨j,A,rfl⟩:=oh v
  refine xv H (M j A) ?_;have a:=S.sa j (by lia);have c:=S.sa (ts.length+j) (by lia);unfold Sm at *;lia
 ·have sz:(sumN ts.length λt=>((k t - k (ts.length+t)).natAbs:Int))<=p:=by
   refine qfM ?_ S.siz;rw[Sx.sumN_append,<-Sx.sumN_add];refine Sx.sumN_le λt v=>?_;have a:=(S.sa t (by lia)).2;have c:=(S.sa (ts.length+t) (by lia)).2;lia
  obtain⟨Y,i,hi,T⟩:=Sx.wide_same p1 (show 0<k _ by lia) (λi hi=>(S.sr i hi).2) S.row sz S.col S.tot;have ev:∀ i,(sumN ts.length λt=>(k t - k (ts.length+t))*spV fs b ts i t)=q*rvW fs b ts X i:=λi=>by
   unfold rvW;rw[<-Sx.sumN_mul];exact Sx.sumN_congr λt v=>by rw[M t v,qbr]
  have es:(sumN ts.length λt=>((k t - k (ts.length+t)).natAbs:Int))=q*sumN ts.length λt=>((X (ts.getD t [])).natAbs:Int):=by
   rw[<-Sx.sumN_mul];exact Sx.sumN_congr λt v=>by rw[M t v,qb3,qeP,qhi (qfN H)]
  rw[es]at Y;rw[ev]at T;have pos:∀ {x y:Int},q*x=y->0<y->0<x:=λ{x y} e V=>by
   by_cases z:0<x
   ·exact z
   ·have:=qba (show x<=0 by lia) (qfN H)
    lia
  have s0:=pos Y (by lia);refine⟨q,rvW fs b ts X i,_,H,pos T (by lia),s0,T.symm,Y.symm,λj A=>wO H (by have:=S.row j A;rw[ev]at this;rw[T];exact this),⟨i,hi,U⟩,U,?_⟩
  have:∃ t,t<ts.length/\X (ts.getD t [])≠0:=by
   apply qcx;intro no;rw[Sx.sumN_congr (g:=λ_=>0) λt v=>by rw[qcx λz=>no ⟨t,v,z⟩];rfl,Sx.sumN_zero]at s0;lia
  obtain⟨t,v,hx⟩:=this
  have:=(ny (ns:=(aQ (ar ts) X).map qcF) (n:=X (ts.getD t [])) (qaz.mpr ⟨(ts.getD t [],X (ts.getD t [])),by unfold aQ;exact qaz.mpr ⟨_,qcb.mpr ⟨((aG _).mem_iff.mpr (by rw[qaB,qao v];exact qbV v)),decide_eq_true hx⟩,U⟩,U⟩) hx).1
  lia
theorem lu (h:Spl fs ts) (hN:0<nR fs):∃ m p X w,AV fs b ts m p X w/\∀ st:Sto,∃ u,dB [.d (.tup fs),.d (.str (aE b)),.d (tsD ts)] st=some (.d (wdD fs b ts m p X w),st++u):=by
 obtain⟨p,k,pr,S,hlp⟩:=EJ h hN;obtain⟨q,X,H,M,hg,hp⟩:=D0 (b:=b) (m:=ts.length+ts.length+1) h.nd h.tl (by lia) λj A=>S.sa j (by lia);obtain⟨F,w,B,o,Q⟩:=Bw (n:=fs.length) (λr _=>((v4 h λi hi=>S.sr i hi) r).1) (by have:=h.fl;lia);have R:=Ct h hN S H M hg B o;refine⟨_,p,X,w,R,λst=>?_⟩;obtain⟨u,hu⟩:=hlp st none none none;refine⟨u,?_⟩;have hv:=Ay (st:=st) (b:=b) h;have hw3:=EH (st:=st++u) (y:=pr) h (.inl U);have hl2:=Bv R.p1 R.sm.1 R.sm.2 (st++u);have ix:dIx (st++u) (.d (.tup (mpI (ts.length+ts.length+1) k))) (.d (.int (-1)))=some (.int (k (ts.length+ts.length))):=by
  rw[c9];exact sD _ _
 have sl:dSl (st++u) (.d (.tup (mpI (nR fs+1) pr))) none (some (-1))=some (.tup (mpI (nR fs) pr)):=by
  rw[c9];show some _=_;rw[yV]
 have hz:(k (ts.length+ts.length) / ((qbs (k (ts.length+ts.length)).natAbs p.natAbs:Nat):Int)==0)=decide (k (ts.length+ts.length)=0):=by
  have d:((qbs (k (ts.length+ts.length)).natAbs p.natAbs:Nat):Int)∣k (ts.length+ts.length):=qcn.mpr (qfY _ _);rw[qeG,beq_iff_eq,decide_eq_true_iff];refine⟨λz=>by rw[<-(qda d),z,qbi],λz=>by rw[z,qfn]⟩
 unfold wdD;generalize mpI fs.length w=A2 at *;generalize mpI (nR fs) pr=A3 at *;generalize mpI (nR fs+1) pr=A4 at *;generalize mpI _ k=A5 at *;generalize ((qam (nR fs+1)).map λi=>D.lst _)=L4 at *;generalize ((qam (nR fs)).map λi=>D.lst _)=L at *;generalize tsD ts=I at *;generalize aE b=kd at *;generalize k (ts.length+ts.length)=m at *;generalize m / _=a at *;generalize p / _=c at *;have s6:∀ o6 G:Option W,az (.nm 6) (ap bQ (aa (a9 (aa (iOp dIx (iOp dIx (iV 5) (iC (.int 2))) (iUn ef (iC (.int 1)))) (aa (iOp dIx (iV 5) (iC (.int 1))) ae))) ae)) [Z (.tup fs),Z (.str kd),Z I,Z (.lst L),Z (.lst L4),Z (.tup [.str "most",.int p,.tup A5,.tup A4]),o6,G] (st++u)=some _:=λo6 G=>
  ak (ai (ac (bh (ds:=[.int m,.int p]) (ac (ag (ag U U U) U ix) (ac (ag U U U) U)) U (by show 2<=1000;decide)) U) hl2)
 have s7:∀ G:Option W,az (.nm 7) (ap bQ (aa (ap d5 (aa (iV 0) (aa _ ae))) ae)) [Z (.tup fs),Z (.str kd),Z I,Z (.lst L),Z (.lst L4),some _,some _,G] (st++u)=some _:=λG=>by
  have hsl:iSl (iOp dIx (iV 5) (iC (.int 3))) iPn (iPs (iUn ef (iC (.int 1)))) [Z (.tup fs),Z (.str kd),Z I,Z (.lst L),Z (.lst L4),Z (.tup [.str "most",.int p,.tup A5,.tup A4]),Z (.tup [.int a,.int c]),G] (st++u)=some (.d (.tup A3),st++u):=by
   have x1:iOp dIx (iV 5) (iC (.int 3)) [Z (.tup fs),Z (.str kd),Z I,Z (.lst L),Z (.lst L4),Z (.tup [.str "most",.int p,.tup A5,.tup A4]),Z (.tup [.int a,.int c]),G] (st++u)=some (.d (.tup A4),st++u):=ag U U U
   have x2:iPs (iUn ef (iC (.int 1))) [Z (.tup fs),Z (.str kd),Z I,Z (.lst L),Z (.lst L4),Z (.tup [.str "most",.int p,.tup A5,.tup A4]),Z (.tup [.int a,.int c]),G] (st++u)=some (some (-1),st++u):=rfl
   simp only[iSl,x1,x2,iPn,qaa,sl,qak]
  exact ak (ai (ac (ai (ac U (ac hsl U)) hw3) U) (Q (st++u)))
 have E:aK dEq (iOp dIx (iV 6) (iC (.int 0))) (iC _) [Z (.tup fs),Z (.str kd),Z I,Z (.lst L),Z (.lst L4),Z (.tup [.str "most",.int p,.tup A5,.tup A4]),Z (.tup [.int a,.int c]),Z (.tup A2)] _=some (decide _,st++u):=ay (ag U U U) U (by rw[dw,hz])
 by_cases z:m=0
 ·rw[decide_eq_true z]at E
  rw[iFP z];exact ax U (aj (ak (ai U hv)) (CY hu (aj (s6 _ _) (aj (s7 _) (gZ (d7 E (aD (bh U U (by show 3<=1000;decide)))))))))
 ·rw[decide_eq_false z]at E
  rw[iFN z];exact ax U (aj (ak (ai U hv)) (CY hu (aj (s6 _ _) (aj (s7 _) (aj (bT E U) (aD (bh (ac U (ac (ai (ac U (ac U (ac (ag U U U) U))) (hp _)) (ac U U))) U (by show 3<=1000;decide))))))))
end
end Own
set_option maxHeartbeats 1000000
namespace Own
open PySem L2
open Sx (Pb Tb Good Named Fe LV ZV piv lexP leastR leaveL sumN unit colV basis)
theorem Bi {st:Sto}{n:Nat}{x y z:Int} (h:st[n]?=some (.l [.int x,.int y,.int z])):dIx st (.h n) (.d (.int 0))=some (.int x):=by
 show (lg st n).bind _=_;unfold lg;rw[h];show atI [D.int x,.int y,.int z] 0=_;exact pV _ _
theorem Gw {st:Sto}{n:Nat}{x y z:Int} (h:st[n]?=some (.l [.int x,.int y,.int z])):dIx st (.h n) (.d (.int 1))=some (.int y):=by
 show (lg st n).bind _=_;unfold lg;rw[h];show atI [D.int x,.int y,.int z] 1=_;exact xN _ _ _
theorem E9 {st:Sto}{n:Nat}{x y z:Int} (h:st[n]?=some (.l [.int x,.int y,.int z])):dIx st (.h n) (.d (.int 2))=some (.int z):=by
 show (lg st n).bind _=_;unfold lg;rw[h];show atI [D.int x,.int y,.int z] 2=_;exact bZ U
theorem Fa {st:Sto}{n:Nat}{x y z v:Int} (h:st[n]?=some (.l [.int x,.int y,.int z])):fG st (.h n) (.d (.int 0)) (.d (.int v))=some (st.set n (.l [.int v,.int y,.int z])):=by
 show (lg st n).bind _=_;unfold lg;rw[h];rfl
theorem Fb {st:Sto}{n:Nat}{x y z v:Int} (h:st[n]?=some (.l [.int x,.int y,.int z])):fG st (.h n) (.d (.int 2)) (.d (.int v))=some (st.set n (.l [.int x,.int y,.int v])):=by
 show (lg st n).bind _=_;unfold lg;rw[h];rfl
theorem pN {o i v:Ef}{env:Ev}{st s1 c b d:Sto}{x e a:W} (h:v env st=some (x,s1)) (j:o env s1=some (e,c)) (f:i env c=some (a,b)) (g:fG b e a x=some d):bC o i v env st=some (.nx env d):=by
 simp only[bC,h,j,f,g,qaa,qak]
theorem gtW (s:Sto) {a b:Int}{k:Bool} (h:decide (a > b)=k):dGt s (.d (.int a)) (.d (.int b))=some (.bl k):=by rw[<-h];rfl
theorem ca {st:Sto}{n:Nat}{m Zq:Int} (h:Hd st n Zq) (A:Zq<1000000000) (m0:0<m) (o:m<1073741824):∃ r a,0<=r/\r<m/\Stw n st a/\Hd a n (Zq+1)/\aI [.h n,.d (.int m)] st=some (.d (.int r),a):=by
 have hn:=h.lt;obtain⟨x,y,z,e,j,B,h⟩:=h;by_cases f:0<x
 ·refine⟨x%m,st.set n (.l [.int (x / m),.int y,.int z]),qil _ (by lia),qhL _ m0,⟨_,U⟩,⟨_,_,_,qeQ e (by lia),j,by lia,qA hn⟩,?_⟩
  exact ax U (rV (xr (ay (ag U U (Bi h)) U (gtW _ (decide_eq_true f))) (aU (ak (ag (ag U U (Bi h)) U (gY _ m0))) (aU (pN (ag (ag U U (Bi h)) U (qz _ ⟨m0,o⟩)) U U (Fa h)) (aD U)))))
 ·have w:∃ Zq:Int,z+1=Zq/\0<=Zq/\Zq<=1000000000:=⟨_,U,by lia,by lia⟩
  obtain⟨Zq,p,i,t⟩:=w;have g:(st.set n _)[n]?=some (.l [.int x,.int y,.int Zq]):=qA hn;obtain⟨u,s⟩:∃ u,y*(48271+2*Zq*Zq+65537*Zq)%2305843009213693921=u:=⟨_,U⟩;have k:qbU y (48271+2*Zq*Zq+65537*Zq):=by
   have C:0<=2*Zq*Zq:=Int.mul_nonneg (by lia) i;have a2:2*Zq*Zq<=2*Zq*1000000000:=qba t (by lia);exact fC ⟨by lia,by lia⟩
  have b:bg st (.d (.int z)) (.d (.int 1))=some (.int Zq):=by rw[<-p];rfl
  refine⟨(u*(u%1000003+Zq*99991+11)%2305843009213693907 / 97+u*(u%1000003+Zq*99991+11)%2305843009213693907 / 1000033)%m,st.set n (.l [.int x,.int y,.int Zq]),qil _ (by lia),qhL _ m0,⟨_,U⟩,⟨_,_,_,e,i,by lia,qA hn⟩,?_⟩;have c:=Fb (v:=Zq) h;refine ax U (aU (kz (ay (ag U U (Bi h)) U (gtW _ (decide_eq_false f))) U) (aU (pN (ag (ag U U (E9 h)) U b) U U c) (aU (ak (ag U U (E9 g))) (aU (ak ?_) (aU (ak (ag (ag (ag U U (gY _ (by decide))) (ag U U (iO _ (fC (by decide)))) U) U U)) (aU (ak (ag (ag U U (iO _ ((λq=>fB ⟨by lia,by lia⟩) _))) U (gY _ (by decide)))) (aD (ag (ag (ag U U (qz _ (by decide))) (ag U U (qz _ (by decide))) U) U (gY _ m0)))))))));rw[<-s];exact ag (ag (ag U U (Gw g)) (ag (ag U (ag (ag U U (iO _ (fB (by decide)))) U (iO _ (fC ⟨by lia,by lia⟩))) U) (ag U U (iO _ (fB (by decide)))) U) (iO _ k)) U (gY _ (by decide))
theorem ltW (s:Sto) {a b:Int}{k:Bool} (h:decide (a<b)=k):dLt s (.d (.int a)) (.d (.int b))=some (.bl k):=by rw[<-h];rfl
theorem Bh {st:Sto}{ns:List Int}{k:Nat}:∃ a,Hd a st.length 0/\a.length=st.length+1/\a.take st.length=st/\iI [.d (.scr ns),.d (.int k)] st=some (.h st.length,a):=by
 obtain⟨c,p⟩:∃ c:Int,ah (az (.nm 2) (iC (.int 0))) (aZ (aK dLt (iV 1) (iCB aY (aa (iV 0) ae))) (az (.nm 2) (iOp dIx (iV 0) (iV 1))) aR) [some _,some _,none] st=some (.nx [Z (.scr ns),some _,Z _] st):=by
  by_cases q:k<ns.length
  ·refine⟨_,aU (ak U) (xr (ay U U (ltW _ (decide_eq_true (show (k:Int)<_ by rw[qaf];lia)))) (ak (ag U U (bZ (by rw[qaF,qao q];rfl)))))⟩
  ·exact⟨0,aU (ak U) (kz (ay U U (ltW _ (decide_eq_false (show ¬ _<_ by rw[qaf];lia)))) U)⟩
 have e:∃ x:Int,0<=x/\iOp dIx (au (bn (aa (iC (.int 0)) (aa (iV 2) ae)))) (iCB jk (aa (iOp dGe (iV 2) (iOp yY (iC (.int 10)) (iC (.int 18)))) ae)) [Z (.scr ns),Z (.int k),Z (.int c)] st=some (.d (.int x),st):=by
  have f:yY st (.d (.int 10)) (.d (.int 18))=some (.int (10^Int.toNat 18)):=by
   show (if sv 10 18 then some _ else none)=_;rw[iFP p18]
  have g:au (bn (aa (iC _) (aa (iV 2) ae))) [Z (.scr ns),Z (.int k),Z _] st=some (.d (.lst [.int 0,.int c]),st):=rfl;cases hb:decide (c>=10^Int.toNat 18) with
  |false=>exact⟨0,by decide,ag g (aF (ac (ag U (ag U U f) (d:=.bl false) (by rw[<-hb];rfl)) U) U) (show atI [D.int 0,.int c] 0=_ from pV _ _)⟩
  |true=>
   refine⟨c,?_,ag g (aF (ac (ag U (ag U U f) (d:=.bl true) (by rw[<-hb];rfl)) U) U) (show atI [D.int 0,.int c] 1=_ from xN _ _ _)⟩;lia
 obtain⟨x,n,e⟩:=e;refine⟨st++[.l [.int x,.int (c%2305843009213693951+7919*(k)+3),.int 0]],⟨x,c%2305843009213693951+7919*(k)+3,0,n,by decide,by decide,?_⟩,by rw[qax];rfl,qcR,?_⟩
 ·rw[qaJ (qan _),qeN];rfl
 ·have j:iOp bg (iOp bg (iOp fW (iV 2) (iC (.int 2305843009213693951))) (iOp bm (iC (.int 7919)) (iV 1))) (iC (.int 3)) [Z (.scr ns),Z (.int k),Z (.int c)] st=some (.d _,st):=ag (ag (ag U U (gY _ (by decide))) (ag U U (iO _ (fB (by decide)))) U) U U
  generalize c%2305843009213693951+7919*_+3=y at *;have m:aN (dg (bn (aa (iOp dIx (au (bn (aa (iC (.int 0)) (aa (iV 2) ae)))) (iCB jk (aa (iOp dGe (iV 2) (iOp yY (iC (.int 10)) (iC (.int 18)))) ae))) (aa (iOp bg (iOp bg (iOp fW (iV 2) (iC (.int 2305843009213693951))) (iOp bm (iC (.int 7919)) (iV 1))) (iC (.int 3))) (aa (iC (.int 0)) ae))))) [Z (.scr ns),Z (.int k),Z (.int c)] st=some (.rt (.h st.length) (st++[.l [.int x,.int y,.int 0]])):=by
   refine aD ?_;simp only[dg,bn,(ac e (ac (b:=aa (iC (.int 0)) ae) j U)),qaa,oW,qak,qap,qbK,show (3)<=1000 by decide,if_true]
  have i:=p;simp only[ah,qab]at i;obtain⟨s,r,o⟩:=i;cases r;exact ax U (aU (ak U) (aU o m))
theorem xi {st:Sto}{n:Nat}{ds:List D}{Zq:Int} (h:Hd st n Zq) (c:Zq<1000000000) (f:ds≠[]) (l:ds.length<1000000):∃ d a,d∈ds/\Stw n st a/\Hd a n (Zq+1)/\bJ [.h n,.d (.lst ds)] st=some (.d d,a):=by
 have i:=qhe.mpr f;obtain⟨r,s1,g,k,t1,t2,e⟩:=ca h c (m:=(ds.length)) (by lia) (by lia);obtain⟨j,rfl⟩:=qb4 g;have b:j<ds.length:=by lia
 exact⟨_,s1,qbV b,t1,t2,ax U (aD (ag U (ai (ac U (ac (aF U U) U)) e) (bZ (qao b))))⟩
theorem uA (b:Bool) (row:Int):∀ (t:List Int) (a:Int),(t.foldl (λv k=>v*oX b (onI row k)) a)=a*cP b t row
 |[],a=>by cases b<;>simp[cP,jj]
 |k::t,a=>by
  rw[qh9,uA b row t];have c:=wf row t;rw[qbr];cases b with
  |true=>
   simp only[oX,if_true,cP,jj,qap];rcases xf row k with e|e
   ·simp only[e,qci]
    split
    ·lia
    ·rfl
   ·simp only[e,qcy]
    split<;>split<;>first|rfl|(lia)
  |false=>
   simp only[oX,qbk,if_false,cP,jj];rcases xf row k with e|e
   ·simp only[e,qcP]
    split<;>rfl
   ·simp only[e]
    split<;>split<;>first|rfl|lia
theorem sj {st:Sto}{b:Bool}{t:List Int}{row:Int} (r:∀ k∈t,0<=k/\k<=20):bK [.d (.str (aE b)),.d (aq t),.d (.int row)] st=some (.d (.int (cP b t row)),st):=by
 obtain⟨l,w,m,h,c,rfl,rfl⟩:=bH (g:=.nm 4) (body:=dP) (λi env s=>∃ h c,env=[some _,some _,some _,Z (.int ((t.take i).foldl (λv k=>v*oX b (onI row k)) 1)),h,c]/\s=st)
  (env:=[Z (.str (aE b)),Z (aq t),Z (.int row),Z (.int 1),none,none]) ⟨none,none,U,U⟩ (λi d env s hd ⟨h,c,e,es⟩=>by
   subst e es;rw[qaF,qad]at hd;obtain⟨k,o,rfl⟩:=hd;obtain⟨hi,f⟩:=qar.mp o;have u:(t.take (i+1)).foldl (λv k=>v*oX b (onI row k)) 1=(t.take i).foldl (λv k=>v*oX b (onI row k)) 1*oX b (onI row k):=by
    rw[qfm hi,List.foldl_append,f];rfl
   have a:∃ x,atI [D.int (1 - 2*onI row k),.int (onI row k)] (if b=true then 1 else 0)=some (.int (oX b (onI row k)))/\x=oX b (onI row k):=by
    cases b with
    |true=>exact⟨_,xN _ _ _,U⟩
    |false=>exact⟨_,pV _ _,U⟩
   obtain⟨_,a,_⟩:=a;have p:∀ q,qbU q (oX b (onI row k)):=λq=>fC (by rcases xf row k with e|e<;>(rw[e];cases b<;>decide));have k2:∀ q,qbU 2 q:=λq=>fB (by decide);refine⟨_,[some _,some _,some _,some _,Z (.int k),Z (.int (onI row k))],s,U,.inl ?_,_,_,U,U⟩;rw[u];have n:=pK b;generalize aE b=kd at n ⊢;have j:dEq s (.d (.str kd)) (.d (.str "both"))=some (.bl b):=by rw[zb,n]
   exact aU (ak (ag (ag U U (C2 _ ((r k (qbO o)).1))) U (gY _ (by decide)))) (ak (ag U (ag (ao (cr (ac (ag U (ag U U (iO _ (k2 _))) U) (ac U U)) U (by show 2<=1000;decide))) (aF (ac (ag U U j) U) U) a) (iO _ (p _)))))
 rw[qaf,qeq,uA,qcy]at m;exact ax U (aU (ak U) (aU (bz (be U) m) (aD U)))
theorem lv {st:Sto}{n:Int} (p:0<=n) (C:n<=5):bP [.d (.int n)] st=some (.d (.lst ((cb n.toNat).map aq)),st):=by
 obtain⟨m,l,k,o,rfl,rfl⟩:=bH (g:=.nm 2) (body:=eJ) (ds:=bX 0 n.toNat) (λi env s=>∃ o,env=[Z (.int n),Z (.lst ((dF i).map aq)),o]/\s=st)
  ⟨none,U,U⟩ (λi d env s hd ⟨o,e,es⟩=>by
   subst e es;obtain⟨rfl,hi⟩:=fF hd;have j:(dF i).length<=64:=by
    rw[ge];exact qaS (qbS (by decide) (by lia:i<=6)) (by decide)
   have c:lcI (.nm 0) aJ eh [none,some (.d _)] _ s=some (((dF i).map aq).map λd=>match d with|.tup ds=>.tup (ds++[.int i])|d=>d,s):=ja _ λd hd=>by
    obtain⟨t,v,rfl⟩:=qaz.mp hd;have w:=si (eG i v);have x:(t.map D.int).length+1<=1000000:=by rw[qaf];lia
    exact⟨_,U,ag U (bh (ac U U) U (by show 1<=1000;decide)) (mS _ x)⟩
   have r:(((dF i).map aq).map λd=>match d with|.tup ds=>.tup (ds++[.int i])|d=>d)=((dF i).map λt=>t++[(i:Int)]).map aq:=by
    rw[qaG,qaG];refine qbw λt _=>?_;show D.tup _=D.tup _;rw[qbJ];rfl
   rw[r]at c;have q:(dF (i+1)).map aq=(dF i).map aq++((dF i).map λt=>t++[(i:Int)]).map aq:=by rw[dF,qbJ]
   have z:((dF i).map aq).length<=1000000:=by rw[qaf];lia
   have u:((dF i).map aq).length+(((dF i).map λt=>t++[(i:Int)]).map aq).length<=1000000:=by simp only[qaf];lia
   refine⟨_,[some _,some _,Z (.int i)],s,U,.inl ?_,_,U,U⟩;rw[q]
   exact ak (ag U (ao (aM (aT U) z c)) (fM _ u)))
 rw[bL]at k;have j:((dF n.toNat).map aq).length<64:=by
  rw[qaf,ge];exact qaZ (qbS (by decide) (by lia:n.toNat<=5)) (by decide)
 have f:lJ _=some ((cb n.toNat).map aq):=vP _;generalize (dF n.toNat).map aq=A at k j f;generalize (cb n.toNat).map aq=B at f ⊢;have h:iA l [.d (.lst A)]=some B:=by
  show (if A.length<64 then lJ A else none)=_;rw[iFP j,f]
 have y:iCL iA (aa (iV 1) ae) [Z (.int n),Z (.lst A),o] l=some (B,l):=by
  simp only[iCL,(ac (a:=iV 1) (b:=ae) (env:=[some _,some _,o]) U U),qaa,h,qak]
 exact ax U (aU (ak (ao (cr (ac (bh U U (by decide)) U) U (by decide)))) (aU (bz (gO U p (by lia) U) k) (aD (ao y))))
def AH (b:Bool) (ps:List Prt) (row:Int):Int:=(ps.map λp=>p.2*cP b p.1 row).sum
def Dj (p:Prt):Prop:=Trm 6 p.1
theorem C4 {n:Nat}{t:List Int} (h:Trm n t) (hn:n<=6):∀ k∈t,0<=k/\k<=20:=λk a=>⟨(h.2 k a).1,by have:=(h.2 k a).2;lia⟩
theorem Dk {p:Prt} (h:Dj p):∀ k∈p.1,0<=k/\k<=20:=C4 h (qan 6)
theorem GB (b:Bool) (t:List Int) (row c:Int):qbU c (cP b t row):=fC (by have:=uO b t row;lia)
theorem t7 {st:Sto}{b:Bool}{ps:List Prt}{row:Int} (h:∀ p∈ps,Dj p) (i:ps.length<=1000):gH [.d (bS (aE b) ps),.d (.int row)] st=some (.d (.int (AH b ps row)),st):=by
 have a:lcI _ aJ io [none,none,Z (bS (aE b) ps),some _] _ st=some (ps.map λp=>.int (p.2*cP b p.1 row),st):=t9 _ λp hm=>by
  refine⟨_,U,?_⟩;have e:=sj (st:=st) (b:=b) (row:=row) (Dk (h p hm));generalize ps.map bj=PP;generalize aE b=kd at e ⊢;exact ag U (ai (ac (ag U U (show atI [D.str kd,.tup PP] 0=_ from pV _ _)) (ac U (ac U U))) e) (iO _ (GB b p.1 row p.2))
 have c:bb (ps.map λp=>.int (p.2*cP b p.1 row))=some (ps.map λp=>p.2*cP b p.1 row):=by
  have:=br (ps.map λp=>p.2*cP b p.1 row)
  rw[qaG]at this;exact this
 have g:(ps.map bj).length<=1000000:=by rw[qaf];lia
 unfold AH;generalize ps.map (λp=>p.2*cP b p.1 row)=L at c ⊢;generalize (ps.map λp=>D.int _)=LD at a c;unfold bS at a ⊢;generalize ps.map bj=PP at a g ⊢;generalize aE b=kd at a ⊢;have f:oV st [.d (.lst LD)]=some (.int L.sum):=by
  show (bb LD).map _=_;rw[c];rfl
 exact ax U (aD (aF (ac (ao (aM (be (ag U U (show atI [D.str kd,.tup PP] 1=_ from xN _ _ _))) g a)) U) f))
theorem AW {n:Int} (a:n<=6):(cb n.toNat).length<=64:=by
 rw[sC];exact qaS (qbS (by decide) (by lia:n.toNat<=6)) (by decide)
end Own
set_option maxHeartbeats 1000000
namespace Own
open PySem L2
open Sx (Pb Tb Good Named Fe LV ZV piv lexP leastR leaveL sumN unit colV basis)
def V01 (u:D):Prop:=u=.int 0\/u=.int 1
theorem V01.f {u:D} (h:V01 u):lR u:=by rcases h with h|h;exact .inr (.inl h);exact .inr (.inr h)
theorem AB {r:Int} (a:0<=r) (b:r<2):V01 (.int r):=by
 have:r=0\/r=1:=by lia
 rcases this with rfl|rfl
 ·exact .inl U
 ·exact .inr U
theorem y3 {te:Ef}{st:Sto}{n:Nat}{env:Ev}{m:Nat}{Zq:Int} (p:∀ s d,te (env.set 0 (Z d)) s=(aI [.h n,.d (.int 2)] s).map λr=>(r.1,r.2)) (f:env.length≠0) (h:Hd st n Zq) (D:Zq+m<=1000000) :
  ∃ e b,e.length=m/\(∀ u∈e,V01 u)/\Stw n st b/\Hd b n (Zq+m)/\lcI (.nm 0) aJ te env (bX 0 m) st=some (e,b):=by
 obtain⟨e,o,j,t2,c,q,w⟩:=fA (g:=.nm 0) (tt:=aJ) (te:=te) (env:=env) (ds:=bX 0 m)
  (λi k s=>Stw n st s/\Hd s n (Zq+i)/\k.length=i/\∀ u ∈ k,V01 u) (ys0:=[]) ⟨Stw.refl h.lt,h.mono (by lia),U,λ_ h=>nomatch h⟩ (λi d k s hd ⟨p1,v,C,t⟩=>by
   obtain⟨rfl,hi⟩:=fF hd;obtain⟨r,o,A,B,t2,x,j⟩:=ca v (m:=2) (by lia) (by decide) (by decide);refine⟨env.set 0 _,by cases env with|nil=>exact absurd U f|cons a l=>rfl,.inl ⟨s,.int r,o,U,?_,p1.trans t2,x.mono (by lia),by rw[qax,C];rfl,λu y=>?_⟩⟩
   ·rw[p,j];rfl
   ·rcases qaK.mp y with z|z
    ·exact t u z
    ·rw[qal.mp z];exact AB A B)
 rw[bL]at q c;exact⟨e,o,by simpa using q,by simpa using w,t2,c,j⟩
theorem Ap {n:Int} (a:0<=n) (b:n<=6):∃ q:Int,(∀ s,sR s (.d (.int 1)) (.d (.int n))=some (.int q))/\q.toNat=2^n.toNat/\(-(2^62)<=q/\q<2^62)/\2^n.toNat<=64:=by
 have h:n=0\/n=1\/n=2\/n=3\/n=4\/n=5\/n=6:=by lia
 rcases h with rfl|rfl|rfl|rfl|rfl|rfl|rfl
 ·exact⟨1,λs=>rfl,by decide,by decide,by decide⟩
 ·exact⟨2,λs=>rfl,by decide,by decide,by decide⟩
 ·exact⟨4,λs=>rfl,by decide,by decide,by decide⟩
 ·exact⟨8,λs=>rfl,by decide,by decide,by decide⟩
 ·exact⟨16,λs=>rfl,by decide,by decide,by decide⟩
 ·exact⟨32,λs=>rfl,by decide,by decide,by decide⟩
 ·exact⟨64,λs=>rfl,by decide,by decide,by decide⟩
theorem sN {st:Sto}{h:Nat}{n Zq:Int} (K:Hd st h Zq) (T:Zq+7<=1000000) (x:0<=n) (S:n<=6):∃ a b,a.length=2^n.toNat/\(∀ u∈a,V01 u)/\Stw h st b/\Hd b h (Zq+7)/\cn [.h h,.d (.int n)] st=some (.d (.lst a),b):=by
 obtain⟨f,s1,Y,R,I,D,Q⟩:=y3 (te:=ez) (env:=[none,some _]) (m:=(n+1).toNat) (λs d=>by
  have:∀ o:Option (W×Sto),o=o.map λr=>(r.1,r.2):=λo=>by cases o<;>rfl
  rw[<-this]
  rfl) (by simp) K (by lia)
 obtain⟨q,c1,ct,P,X⟩:=Ap x S;have v:∃ a,a.length=2^n.toNat/\(∀ u∈a,V01 u)/\lcI (.nm 0) aJ cH [none,Z (.lst f),Z (.int n)] (bX 0 (2^n.toNat)) s1=some (a,s1):=by
  obtain⟨a,V,l,rfl,A,O⟩:=fA (g:=.nm 0) (tt:=aJ) (te:=cH) (env:=[none,Z (.lst f),some _])
   (λi w s=>s=s1/\w.length=i/\∀ u ∈ w,V01 u) (ys0:=[]) ⟨U,U,λ_ h=>nomatch h⟩ (λi d w s hd ⟨p1,F,N⟩=>by
    subst p1;obtain⟨rfl,hi⟩:=fF hd;have y:lcI (.nm 0) eV ek [none,some _] _ s=some (((bX 0 n.toNat).filter λd=>match d with|.int k=>onI i k==1|_=>false).map id,s):=gm _ _ λd hd=>by
     obtain⟨j,C⟩:=qeE.mp hd;obtain⟨rfl,M⟩:=fF C;exact⟨_,U,ay (ag (ag U U (C2 _ (show _<=_ by lia))) U (gY _ (by decide))) U (dw _ _ _),λ_=>rfl⟩
    have t:(((bX 0 n.toNat).filter λd=>match d with|.int k=>onI i k==1|_=>false).map id).length<=n.toNat:=by
     rw[qaf];refine qaS (qc2 _ _) ?_;rw[bL];exact qan _
    generalize (((bX 0 n.toNat).filter λd=>match d with|.int k=>onI i k==1|_=>false).map id)=L at y t
    have e:L.length<f.length:=by lia
    have J:(bX 0 n.toNat).length<=1000000:=by rw[bL];lia
    refine⟨_,U,.inl ⟨s,f[L.length],s,U,?_,U,by rw[qax,F];rfl,λu H=>?_⟩⟩
    ·exact ag U (aF (ac (ao (aM (gO U x (by lia) U) J y)) U) U) (bZ (qao e))
    ·rcases qaK.mp H with z|z
     ·exact N u z
     ·rw[qal.mp z];exact R _ (qbV e))
  rw[bL]at A;exact⟨a,by simpa using A,by simpa using O,l⟩
 obtain⟨a,E,G,l⟩:=v;refine⟨a,s1,E,G,I,D.mono (by lia),?_⟩;have p:(bX 0 (n+1).toNat).length<=1000000:=by rw[bL];lia
 have c:(bX 0 (2^n.toNat)).length<=1000000:=by rw[bL];lia
 rw[<-ct]at l c;have B:0<2^n.toNat:=qdU (by decide);exact ax U (aU (ak (ao (aM (gO (ag U U U) (by lia) (by lia) U) p Q))) (aD (ao (aM (gO (ag U U (c1 _)) (by lia) (by lia) U) c l))))
theorem AX (n:Nat):(cb n).map aq≠[]:=λe=>by
 have q:=congrArg qf4 e;rw[qaf,sC]at q;exact absurd q (qch (qdU (by decide)))
theorem zV {te:Ef}{st:Sto}{h:Nat}{env:Ev}{m:Nat}{n Zq:Int} (H:0<=n) (I:n<=5) (k:∀ s d,te (env.set 0 (Z d)) s=(bJ [.h h,.d (.lst ((cb n.toNat).map aq))] s).map λr=>(r.1,r.2)) (e:env.length≠0) (q:Hd st h Zq) (F:Zq+m<=1000000) :
  ∃ (ts:List (List Int)) (b:Sto),ts.length=m/\(∀ t∈ts,Trm 6 t)/\Stw h st b/\Hd b h (Zq+m)/\lcI (.nm 0) aJ te env (bX 0 m) st=some (ts.map aq,b):=by
 obtain⟨G,f,j,t2,c,ts,o,p,D⟩:=fA (g:=.nm 0) (tt:=aJ) (te:=te) (env:=env) (ds:=bX 0 m)
  (λi v s=>Stw h st s/\Hd s h (Zq+i)/\∃ ts:List _,ts.length=i/\v=ts.map aq/\∀ t ∈ ts,Trm 6 t) (ys0:=[]) ⟨Stw.refl q.lt,q.mono (by lia),[],U,U,λ_ h=>nomatch h⟩ (λi d v s hd ⟨p1,x,ts,C,w,E⟩=>by
   obtain⟨rfl,hi⟩:=fF hd;obtain⟨d2,f,m2,w2,y,j⟩:=xi (ds:=(cb n.toNat).map aq) x (by lia) (AX _) (by rw[qaf];have:=AW (n:=n) (by lia);lia);obtain⟨t,A,rfl⟩:=qaz.mp m2;refine⟨env.set 0 _,by cases env with|nil=>exact absurd U e|cons a l=>rfl,.inl ⟨s,_,f,U,?_,p1.trans w2,y.mono (by lia),ts++[t],by rw[qax,C];rfl,by rw[w,qbJ];rfl,λu B=>?_⟩⟩
   ·rw[k,j];rfl
   ·rcases qaK.mp B with z|z
    ·exact E u z
    ·rw[qal.mp z];exact (yO A).mono (by lia))
 rw[bL]at o c;rw[qbA]at p;exact⟨ts,f,o,D,t2,c,by rw[j,p]⟩
def GF:D->D
 |.int i=>.int (if decide (i > 0)=true then 1 else 0)
 |d=>d
theorem CJ (o:Option (W×Sto)):o=o.map λr=>(r.1,r.2):=by cases o<;>rfl
theorem uW {st:Sto}{h:Nat}{n Zq:Int} (H:Hd st h Zq) (L:Zq+7<=1000000) (k:0<=n) (y:n<=5):∃ g c,g.length=2^n.toNat/\(∀ u∈g,V01 u)/\Stw h st c/\Hd c h (Zq+7)/\cE [.h h,.d (.int n)] st=some (.d (.lst g),c):=by
 obtain⟨ts,s1,tl,A,E,B,K⟩:=zV (te:=fg) (env:=[none,some _,some _]) (m:=3) k y (λs d=>by
  rw[<-CJ];show ap bJ _ [some _,some (.h h),Z (.int n)] s=bJ [.h h,.d _] s
  simp only[ap,(ac (a:=iV 1) (b:=aa (ap bP (aa (iV 2) ae)) ae) (env:=[some _,some _,some _]) U (ac (ai U (lv (st:=s) k y)) U)),qaa]) (by simp) H (by lia)
 obtain⟨q,c1,ct,I,M⟩:=Ap k (by lia);have o:∃ F:D->D,(∀ d,∃ i,F d=.int i)/\lcI (.nm 0) aJ e9 [none,Z (.lst (ts.map aq))] (bX 0 q.toNat) s1=some ((bX 0 q.toNat).map F,s1):=by
  refine⟨λd=>match d with|.int r=>.int ((ts.map λt=>cP false t r).sum)|_=>.int 0,λd=>by cases d<;>exact⟨_,U⟩,ja _ λd hd=>?_⟩
  obtain⟨i,hi⟩:=qeE.mp hd;obtain⟨rfl,C⟩:=fF hi;have k2:=by
   have:∀ l:List _,(∀ t∈l,Trm 6 t)->lcI (.nm 0) aJ cS [none,Z (.int i)] (l.map aq) s1=some ((l.map λt=>cP false t i).map D.int,s1):=by
    intro l
    induction l with
    |nil=>intro _;rfl
    |cons t l J=>
     intro x;have v:cS [Z (aq t),Z (.int i)] s1=some (.d (.int (cP false t i)),s1):=by
      exact ai U (sj (st:=s1) (b:=false) (row:=i) (C4 (x t qag) (qan 6)))
     rw[qas];unfold lcI;rw[show cC _ _ [none,some _]=some [some _,some _] from U,qaa,show aJ _ s1=some (true,s1) from U,qaa,v,qaa,J λu p=>x u (qaj _ p)];rfl
   exact this ts A
  have G:(ts.map aq).length<=1000000:=by rw[qaf];lia
  refine⟨_,U,?_⟩;exact aF (ac (ao (aM (aT U) G k2)) U) (xy _ _)
 obtain⟨F,w,o⟩:=o;have f:(bX 0 q.toNat).length<=1000000:=by rw[bL];lia
 have j:((bX 0 q.toNat).map F).length<=1000000:=by rw[qaf];exact f
 refine⟨((bX 0 q.toNat).map F).map GF,s1,by rw[qaf,qaf,bL,ct],?_,E,B.mono (by lia),?_⟩
 rotate_left 1
 ·have z:0<2^n.toNat:=qdU (by decide)
  exact ax U (aU (ak (ao (aM (gO U (by decide) (by decide) U) (by decide) K))) (aU (ak (ao (aM (gO (ag U U (c1 _)) (by lia) (by lia) U) f o))) (aD (ao (aM (aT U) j (ja _ λd hd=>by
  obtain⟨e,_,rfl⟩:=qaz.mp hd;obtain⟨i,hi⟩:=w e;rw[hi]
  exact⟨_,U,aF (ac (ag U U (gtW _ U)) U) U⟩))))))
 ·intro u p
  obtain⟨d,hd,rfl⟩:=qaz.mp p;obtain⟨e,_,rfl⟩:=qaz.mp hd;obtain⟨i,hi⟩:=w e;rw[hi];show V01 (.int _);split
  ·exact .inr U
  ·exact .inl U
theorem AA {st:Sto}{h:Nat}{n Zq:Int} (hh:Hd st h Zq) (hZ:Zq+200<=1000000) (E:0<=n) (n1:n<=5):∃ a p,a.length=2^n.toNat/\(∀ u∈a,lR u)/\Stw h st p/\Hd p h (Zq+200)/\cX [.h h,.d (.int n)] st=some (.d (.tup a),p):=by
 obtain⟨q,c1,ct,H,c5⟩:=Ap E (by lia);have A:(bX 0 q.toNat).length<=1000000:=by rw[bL];lia
 obtain⟨b,s1,y0,y1,O,C,Q⟩:=ca hh (m:=4) (by lia) (by decide) (by decide)
 -- the values
 have step:∃ a c,a.length=2^n.toNat/\(∀ u∈a,V01 u)/\Stw h s1 c/\Hd c h (Zq+100)/\∀ o,(aZ (aK dEq (iV 2) (iC (.int 0))) (az (.nm 3) (ap cn (aa (iV 0) (aa (iV 1) ae)))) (aZ (aK dEq (iV 2) (iC (.int 1))) (az (.nm 3) (ap cE (aa (iV 0) (aa (iV 1) ae)))) (az (.nm 3) (au (iLc 1 [0] (bV (aa (iOp sR (iC (.int 1)) (iV 1)) ae)) (.nm 0) aJ cT))))) [some (.h h),Z (.int n),Z (.int b),o] s1=some (.nx [some (.h h),Z (.int n),Z (.int b),Z (.lst a)] c):=by
  by_cases t:b=0
  ·subst t
   obtain⟨a,c,j,e,w2,k,l⟩:=sN C (by lia) E (by lia);exact⟨a,c,j,e,w2,k.mono (by lia),λo=>by simp only[iV,iC,iOp,aK,ae,aa,ap,au,az,aZ,iLc,bV,cC,kM,lZ,sR,dEq,gg,eqK,eqD,qaa,qak,qaO,qaY,qbG,qb2,qas,qcs,qbv,qbu,qbN,qbA,if_true,lg,l,beq_self_eq_true]⟩
  ·have x:(b==(0:Int))=false:=by simp[t]
   by_cases P:b=1
   ·subst P
    obtain⟨a,c,j,e,w2,k,l⟩:=uW C (by lia) E n1;exact⟨a,c,j,e,w2,k.mono (by lia),λo=>by simp only[iV,iC,iOp,aK,ae,aa,ap,au,az,aZ,iLc,bV,cC,kM,lZ,sR,dEq,gg,eqK,eqD,qaa,qak,qaO,qaY,qbG,qb2,qas,qcs,qbv,qbu,qbN,qbA,if_true,if_false,qbk,lg,l,x,beq_self_eq_true]⟩
   ·have f1:(b==(1:Int))=false:=by simp[P]
    obtain⟨a,c,j,e,w2,k,l⟩:=y3 (te:=cT) (n:=h) (env:=[none,some (.h h)]) (m:=q.toNat) (st:=s1) (Zq:=Zq+1) (λs d=>by
     rw[<-CJ]
     simp only[cT,iV,iC,ae,aa,ap,qaa,qak,qaO,qaY,qbG]) (by simp) C (by lia)
    exact⟨a,c,by rw[j,ct],e,w2,k.mono (by lia),λo=>by simp only[iV,iC,iOp,aK,ae,aa,ap,au,az,aZ,iLc,bV,cC,kM,lZ,dEq,gg,eqK,eqD,qaa,qak,qaO,qaY,qbG,qb2,qas,qcs,qbv,qbu,qbN,qbA,if_true,if_false,qbk,and_self,lg,x,f1,c1,H,A,l]⟩
 obtain⟨a,c,j,e,w2,k,l⟩:=step;obtain⟨r,J,r0,r1,L,I,M⟩:=ca k (m:=4) (by lia) (by decide) (by decide);have w:=l none;by_cases t:r=0
 ·subst t
  obtain⟨vs,W,e4,w4,R,vl,N⟩:=fA (g:=.nm 0) (tt:=aJ) (te:=eB) (env:=[none,some (.h h)]) (ds:=a)
   (λi K s=>Stw h J s/\Hd s h (Zq+101+i)/\K.length=i/\∀ u ∈ K,lR u) (st:=J) (ys0:=[]) ⟨Stw.refl I.lt,I.mono (by lia),U,λ_ h=>nomatch h⟩ (λi d K s hd ⟨p1,Y,p3,p4⟩=>by
    have hi:=(qar.mp hd).1;obtain⟨r,X,r0,r1,V,h5,S⟩:=ca Y (m:=3) (by lia) (by decide) (by decide);have T:∃ v,atI [d,D.non] (if (r==(0:Int))=true then 1 else 0)=some v/\lR v:=by
     cases (r==(0:Int)) with
     |true=>exact⟨_,xN _ _ _,.inl U⟩
     |false=>exact⟨_,pV _ _,(e d (qbO hd)).f⟩
    obtain⟨v,y,F⟩:=T;refine⟨_,U,.inl ⟨s,v,X,U,?_,p1.trans V,h5.mono (by push_cast;lia),by rw[qax,p3];rfl,λu G=>?_⟩⟩
    ·simp only[eB,iV,iC,iOp,ae,aa,iCB,ap,bn,au,oW,dL,dIx,dEq,gg,eqK,eqD,jk,qaa,qak,qaO,qaY,qbG,qap,qbK,qdP,if_true,qbj,lg,S,y,show (2:Nat)<=1000 by decide]
    ·rcases qaK.mp G with z|z
     ·exact p4 u z
     ·rw[qal.mp z];exact F)
  rw[qbA]at vl N;have B:a.length<=1000000:=by lia
  refine⟨vs,W,by lia,N,((O.trans w2).trans L).trans w4,R.mono (by lia),?_⟩;simp only[cX,gz,bo,ah,az,ap,aa,ae,iV,iC,cC,qas,qcs,qap,qbK,qbv,qbu,qbN,qbA,qdP,qdO,qaa,qak,qaO,qbG,qb2,if_true,Q,w];simp only[iV,iC,aK,ae,aa,iCB,ap,au,aR,az,aN,aZ,iLc,aB,cC,kM,lZ,dL,dEq,gg,eqK,eqD,fX,qaa,qak,qaO,qaY,qbG,qb2,qas,qcs,qbv,qbu,qbN,qbA,if_true,lg,M,B,e4,beq_self_eq_true]
 ·have x:(r==(0:Int))=false:=by simp[t]
  refine⟨a,J,j,λu G=>(e u G).f,(O.trans w2).trans L,I.mono (by lia),?_⟩;simp only[cX,gz,bo,ah,az,ap,aa,ae,iV,iC,cC,qas,qcs,qap,qbK,qbv,qbu,qbN,qbA,qdP,qdO,qaa,qak,qaO,qbG,qb2,if_true,Q,w];simp only[iV,iC,aK,ae,aa,iCB,ap,au,aR,az,aN,aZ,iLc,aB,cC,kM,lZ,dL,dEq,gg,eqK,eqD,fX,qaa,qak,qaO,qaY,qbG,qb2,qas,qcs,qbv,qbu,qbN,qbA,if_false,qbk,lg,M,x]
end Own
set_option maxHeartbeats 1000000
namespace Own
open PySem L2
open Sx (Pb Tb Good Named Fe LV ZV piv lexP leastR leaveL sumN unit colV basis)
theorem jF:∀ n:Nat,(dF n).Nodup
 |0=>by simp[dF]
 |n+1=>by
  rw[dF,qcJ];refine⟨jF n,?_,?_⟩
  ·refine qiX _ (λa b c=>?_) (jF n)
   intro e;exact c (List.append_cancel_right e)
  ·intro a d b hb e
   subst e;obtain⟨t,_,rfl⟩:=qaz.mp hb
   have:=(eG n d).2 _ (qaw _ (qal.mpr U))
   lia
theorem xX {fs:List D}{ts:List (List Int)}{n:Int} (e:0<=n) (g:n<=4) (fl:fs.length=2^n.toNat) (fv:∀ u∈fs,lR u) (a:ts.Sublist (ar (dF n.toNat))):Spl fs ts:=by
 have c:2^n.toNat<=16:=qaS (qbS (by decide) (by lia:n.toNat<=4)) (by decide);refine⟨by lia,fv,?_,λt b=>?_,((aG _).nodup_iff.mpr (jF _)).sublist a⟩
 ·have:=a.length_le
  rw[(aG _).length_eq,ge]at this;lia
 ·have hm:=eG _ ((aG _).mem_iff.mp (a.subset b))
  have f:=si hm;exact⟨λk d=>by have:=hm.2 k d;lia,by lia⟩
theorem qsl {f:Ef}{lo hi:Pf}{env:Ev}{b s1 c a:Sto}{x:W}{l u:Option Int}{d:D} (e:f env b=some (x,s1)) (g:lo env s1=some (l,c)) (h:hi env c=some (u,a)) (hd:dSl a x l u=some d):iSl f lo hi env b=some (.d d,a):=by
 simp only[iSl,e,g,h,qaa,hd,qak]
theorem jX (ds:List D) (j:Nat):ik ds (some (j:Int)) none=ds.drop j:=by
 unfold ik;rw[HT.sIx_nat];by_cases h:j<=ds.length
 ·rw[qii h,qb7 (by rw[qer];exact qan _)]
 ·rw[qh6 (by lia),qgM (qan _),qgM (by lia),List.take_nil]
theorem yW (ds:List D) (j:Nat):ik ds none (some (j:Int))=ds.take j:=by
 unfold ik;rw[HT.sIx_nat,HT.sIx_none,qgo,qg1];by_cases h:j<=ds.length
 ·rw[qii h]
 ·rw[qh6 (by lia),qb7 (qan _),qb7 (by lia)]
theorem yw {a:Af}{env:Ev}{st s:Sto}{bs:List Bool} (h:a env st=some ([.d (.lst (bs.map D.bl))],s)):iCB qu a env st=some (.d (.bl (bs.all id)),s):=by
 refine aF h ?_;show (kN _).map _=_;rw[m4];rfl
theorem jl {f:Ef}{env:Ev}{st s:Sto}{k:Bool} (h:f env st=some (.d (.bl k),s)):cg cz f env st=some (k,s):=by
 simp only[cg,h,qaa];rfl
theorem Fp {te:Ef}{l:Ev}{st:Sto}{a:List D} (F:D->D) (h:∀ d∈a,te (Z d::l) st=some (.d (F d),st)):lcI (.nm 0) aJ te (none::l) a st=some (a.map F,st):=by
 have:=nX (g:=id) F h
 rw[qf3]at this;exact this
section
variable {st:Sto}{h:Nat}{Zq:Int}
theorem uN (hh:Hd st h Zq) (hZ:Zq+300<=1000000):∃ (n:Nat) (fs:List D) (p:Sto),n<=4/\fs.length=2^n/\(∀ u∈fs,lR u)/\(∃ u∈fs,u≠.non)/\Stw h st p/\Hd p h (Zq+300)/\di [.h h,.d (.int 3)] st=some (.d (.tup [.int (n:Int),.tup fs]),p):=by
 obtain⟨r1,s1,a0,a1,I,J,e1⟩:=ca hh (m:=3+1) (by lia) (by decide) (by decide);obtain⟨M,o,b0,b1,w2,F,G⟩:=ca J (m:=8) (by lia) (by decide) (by decide);obtain⟨n,hn,en⟩:∃ n:Nat,n<=4/\dIx o (.d (.lst [.int r1,.int (3+1)])) (.d (.int (if (M==0)=true then 1 else 0)))=some (.int (n:Int)):=by
  cases (M==0) with
  |true=>exact⟨4,by lia,U⟩
  |false=>
   obtain⟨m,rfl⟩:=qb4 a0;exact⟨m,by lia,U⟩
 have ei:jk o [.d (.bl (M==0))]=some (.int (if (M==0)=true then 1 else 0)):=by cases (M==0)<;>rfl
 obtain⟨l,H,X,uv,Q,O,K⟩:=AA (n:=(n:Int)) F (by lia) (by lia) (by lia);rw[qa7]at X;have h16:2^n<=16:=qaS (qbS (by decide) hn) (by decide);have p1:0<2^n:=qge n;have lk:lcI (.nm 0) aJ cI [none] l H=some ((l.map dA).map D.bl,H):=by
  rw[qaG];exact Fp _ λd hd=>rfl
 have S:cg cz (iCB qu (aa (au (iLc 1 [] (aB (iV 3)) (.nm 0) aJ cI)) ae)) [some (.h h),Z (.int 3),Z (.int (n:Int)),some _,none] H=some ((l.map dA).all id,H):=jl (yw (ac (ao (aM (be U) (by lia) lk)) U));have v:az (.nm 2) (iOp dIx (au (bn (aa (ap aI (aa (iV 0) (aa (iOp bg (iV 1) (iC (.int 1))) ae))) (aa (iOp bg (iV 1) (iC (.int 1))) ae)))) (iCB jk (aa (iOp dEq (ap aI (aa (iV 0) (aa (iC (.int 8)) ae))) (iC (.int 0))) ae))) [some (.h h),Z (.int 3),none,none,none] st=some _:=
  ak (ag (ao (cr (ac (ai (ac U (ac (ag U U U) U)) e1) (ac (ag U U U) U)) U (by show 2<=1000;decide))) (aF (ac (ag (ai (ac U (ac U U)) G) U (dw _ _ _)) U) ei) en)
 cases q:(l.map dA).all id with
 |false=>
  rw[q]at S;refine⟨n,l,H,hn,X,uv,?_,(I.trans w2).trans Q,O.mono (by lia),?_⟩
  ·rw[List.all_eq_false]at q
   obtain⟨x,hx,hf⟩:=q;obtain⟨u,B,rfl⟩:=qaz.mp hx;exact⟨u,B,λe=>hf (by rw[e];rfl)⟩
  ·exact ax (n:=5) (k:=2) U (aj v (aj (ak (ai (ac U (ac U U)) K)) (aj (bT S U) (aD (bh (ac U (ac U U)) U (by show 2<=1000;decide))))))
 |true=>
  rw[q]at S;obtain⟨a,s4,c0,c1,w4,h4,e4⟩:=ca O (m:=(l.length:Int)) (by lia) (by lia) (by lia);obtain⟨y,Y,d0,d1,w5,R,W⟩:=ca h4 (m:=2) (by lia) (by decide) (by decide);obtain⟨j,rfl⟩:=qb4 c0;have ll:(l.take j++[D.int y]++l.drop (j+1)).length=l.length:=by simp;lia
  refine⟨n,l.take j++[.int y]++l.drop (j+1),Y,hn,by rw[ll,X],λu B=>?_,⟨.int y,by simp,λe=>by cases e⟩,((((I.trans w2).trans Q).trans w4).trans w5),R.mono (by lia),?_⟩
  ·rcases qaK.mp B with B|B
   ·rcases qaK.mp B with B|B
    ·exact uv u (List.mem_of_mem_take B)
    ·rw[qal.mp B];exact ((AB d0 d1).f)
   ·exact uv u (List.mem_of_mem_drop B)
  ·have t1:∀ s,dSl s (.d (.tup l)) none (some (j:Int))=some _:=λs=>by
    show some _=_;rw[yW]
   have t2:∀ s,dSl s (.d (.tup l)) (some ((j:Int)+1)) none=some _:=λs=>by
    show some _=_;rw[show ((j:Int)+1)=((j+1:Nat):Int) by lia,jX]
   have l1:(l.take j).length+[D.int y].length<=1000000:=by rw[qdf];show _+1<=_;lia
   have l2:(l.take j++[D.int y]).length+(l.drop (j+1)).length<=1000000:=by rw[qax,qdf,qer];show _+1+_<=_;lia
   have N:∀ s:Sto,aY s [.d (.tup l)]=some _:=λs=>rfl;exact ax (n:=5) (k:=2) U (aj v (aj (ak (ai (ac U (ac U U)) K)) (aj (d7 S (aj (ak (ai (ac U (ac (aF (ac U U) (N _)) U)) e4)) (ak (ag (ag (qsl U U U (t1 _)) (bh (ac (ai (ac U (ac U U)) W) U) U (by show 1<=1000;decide)) (mS _ l1)) (qsl U U U (t2 _)) (mS _ l2))))) (aD (bh (ac U (ac U U)) U (by show 2<=1000;decide))))))
theorem r8 {n:Nat} (hn:n<=4) (hh:Hd st h Zq) (hZ:Zq+300<=1000000):∃ (ts:List (List Int)) (p:Sto),ts.Sublist (cb n)/\Stw h st p/\Hd p h (Zq+100)/\bq [.h h,.d (.int (n:Int))] st=some (.d (tsD ts),p):=by
 obtain⟨c,s1,a0,a1,I,J,e1⟩:=ca hh (m:=4) (by lia) (by decide) (by decide);have ea:=lv (st:=s1) (n:=(n:Int)) (by lia) (by lia);rw[qa7]at ea;have hal:(cb n).length<=16:=by
  unfold cb;rw[(aG _).length_eq,ge];exact qaS (qbS (by decide) hn) (by decide)
 have hz:((cb n).map aq).length<=1000000:=by rw[qaf];lia
 have v:∀ {r},(ah _ _)
   [some (.h h),Z (.int (n:Int)),Z (.int c),Z (.lst ((cb n).map aq)),none,none] s1=some r->∀ {w s},r=.rt w s->bq [.h h,.d (.int (n:Int))] st=some (w,s):=λe _ _ er=>by
  subst er;exact ax (n:=6) (k:=2) (b:=e7) U (aj (ak (ai (ac U (ac U U)) e1)) (aj (ak (ai (ac U U) ea)) e))
 have A:aK dLt (iV 2) (iC (.int 2)) [some (.h h),Z (.int (n:Int)),Z (.int c),Z (.lst ((cb n).map aq)),none,none] s1=some (decide (c<2),s1):=rfl;by_cases q:c<2
 ·rw[decide_eq_true q]at A
  obtain⟨m,o,m0,m1,w2,F,G⟩:=ca J (m:=(n:Int)+1) (by lia) (by lia) (by lia);refine⟨(cb n).filter λt=>decide ((t.length:Int)<=m),o,qe0,I.trans w2,F.mono (by lia),v (gZ (d7 A (aj (ak (ai (ac U (ac (ag U U U) U)) G)) (aD (aF (ac (ao (aM (aT U) hz ?_)) U) U))))) U⟩;have P:lcI (.nm 0) dQ dO [none,some (.d (.int m))] ((cb n).map aq) o=some ((((cb n).map aq).filter λd=>match d with|.tup ds=>decide ((ds.length:Int)<=m)|_=>false).map λd=>d,o):=gm _ _ λd hd=>by
   obtain⟨t,ht,rfl⟩:=qaz.mp hd;exact⟨_,U,ay (aF U U) U U,λ_=>rfl⟩
  rw[List.map_id',qia]at P;refine P.trans (congrArg (λz=>some (qgA aq z,o)) (qft λt _=>?_));show decide (((t.map D.int).length:Int)<=m)=_;rw[qaf]
 ·rw[decide_eq_false q]at A
  have C:aK dEq (iV 2) (iC (.int 2)) [some (.h h),Z (.int (n:Int)),Z (.int c),Z (.lst ((cb n).map aq)),none,none] s1=some (c==2,s1):=ay U U (dw _ _ _);cases q2:(c==2) with
  |true=>
   rw[q2]at C;obtain⟨sh,o,m0,m1,w2,F,G⟩:=ca J (m:=4) (by lia) (by decide) (by decide)
   obtain⟨T,H,K,Q,O,ts,hs,hy⟩:=fA (g:=.nm 0) (tt:=cy) (te:=dN) (env:=[none,some (.h h),Z (.int (1+sh))]) (ds:=(cb n).map aq) (λi T s=>Stw h o s/\Hd s h (Zq+2+i)/\∃ ts,ts.Sublist ((cb n).take i)/\T=ts.map aq) (st:=o) (ys0:=[]) ⟨Stw.refl F.lt,F.mono (by lia),[],List.nil_sublist _,U⟩ (λi d T s hd ⟨p1,p2,ts,p3,p4⟩=>by
    obtain⟨hi,ed⟩:=qar.mp hd;rw[qaf]at hi;obtain⟨r,Y,r0,r1,t5,R,W⟩:=ca p2 (m:=1+sh) (by lia) (by lia) (by lia);have L:(cb n).take (i+1)=(cb n).take i++[(cb n)[i]]:=by rw[qhG,qao hi];rfl
    have edd:d=aq (cb n)[i]:=by rw[<-ed,qdg]
    have E:cy [Z d,some (.h h),Z (.int (1+sh))] s=some (r==0,Y):=ay (ai (ac U (ac U U)) W) U (dw _ _ _);refine⟨_,U,?_⟩;cases q3:(r==0) with
    |true=>
     rw[q3]at E;exact .inl ⟨_,_,_,E,U,p1.trans t5,R.mono (by push_cast;lia),ts++[(cb n)[i]],by rw[L];exact p3.append (qjS _),by rw[p4,qbJ,edd];rfl⟩
    |false=>
     rw[q3]at E
     exact .inr ⟨_,E,p1.trans t5,R.mono (by push_cast;lia),ts,by rw[L];exact p3.trans (List.sublist_append_left _ _),p4⟩)
   rw[qaf,qeq]at hs;have hy':T=ts.map aq:=hy;rw[hy']at K;rw[qaf]at O;exact⟨ts,H,hs,(I.trans w2).trans Q,O.mono (by lia),v (aj (bT A U) (gZ (d7 C (aj (ak (ag U (ai (ac U (ac U U)) G) U)) (aD (aF (ac (ao (aM (aT U) hz K)) U) U)))))) U⟩
  |false=>
   rw[q2]at C;obtain⟨r,o,m0,m1,w2,F,G⟩:=ca J (m:=((((cb n).map aq).length:Nat):Int)+1) (by lia) (by lia) (by rw[qaf];lia);obtain⟨k,hk⟩:=qb4 (show 0<=((((cb n).map aq).length:Nat):Int) - r by lia);have sl:dSl o (.d (.lst ((cb n).map aq))) (some (((((cb n).map aq).length:Nat):Int) - r)) none=some (.lst (((cb n).drop k).map aq)):=by
    show some _=_;rw[hk,jX,List.map_drop]
   have V:iPs (iOp hW (iCB aY (aa (iV 3) ae)) (ap aI (aa (iV 0) (aa (iOp bg (iCB aY (aa (iV 3) ae)) (iC (.int 1))) ae)))) [some (.h h),Z (.int (n:Int)),Z (.int c),Z (.lst ((cb n).map aq)),none,none] s1=some (some (((((cb n).map aq).length:Nat):Int) - r),o):=by
    have x:iOp hW (iCB aY (aa (iV 3) ae)) (ap aI (aa (iV 0) (aa (iOp bg (iCB aY (aa (iV 3) ae)) (iC (.int 1))) ae))) [some (.h h),Z (.int (n:Int)),Z (.int c),Z (.lst ((cb n).map aq)),none,none] s1=some (.d _,o):=ag (aF (ac U U) U) (ai (ac U (ac (ag (aF (ac U U) U) U U) U)) G) U;simp only[iPs,x,qaa];rfl
   exact⟨(cb n).drop k,o,List.drop_sublist _ _,I.trans w2,F.mono (by lia),v (aj (bT A U) (aj (bT C U) (aD (aF (ac (qsl U V U sl) U) U)))) U⟩
end
end Own
set_option maxHeartbeats 1000000
namespace Own
open PySem L2
open Sx (Pb Tb Good Named Fe LV ZV piv lexP leastR leaveL sumN unit colV basis)
def ltL (a b:List Int):Prop:=bB a b=true
def C8 (ps:List Prt):Prop:=(∀ p∈ps,Trm 6 p.1/\p.2≠0)/\(ps.map qc5).Pairwise ltL/\ps.length<=64
theorem Br {a b:List Int} (h:leL a b) (c:a≠b):bB a b=true:=by
 cases e:bB a b with
 |true=>rfl
 |false=>exact absurd (iG a b e h) c
theorem yc {l:List (List Int)} (hn:l.Nodup):(ar l).Pairwise λa b=>bB a b=true:=by
 have c:=(aG l).nodup_iff.mpr hn;exact (dm l).imp₂ (λa b d c=>Br d c) c
theorem BA {c:List (List Int)}{X:List Int->Int} (h:c.Pairwise λa b=>bB a b=true):(aQ c X).Pairwise λp q=>bB p.1 q.1=true:=by
 unfold aQ;rw[qcI];exact h.sublist qe0
theorem kx {a:List (List Int)}{X:List Int->Int}{p:Prt} (h:p∈aQ a X):p.1∈a/\p.2=X p.1/\p.2≠0:=by
 obtain⟨t,d,rfl⟩:=qaz.mp h;obtain⟨c,b⟩:=qcb.mp d;exact⟨c,U,of_decide_eq_true b⟩
theorem ix0 (s:Sto) (a:D) (l:List D):dIx s (.d (.tup (a::l))) (.d (.int 0))=some a:=by simp only[dIx,dL,qaa,pV]
theorem ix1 (s:Sto) (a b:D) (l:List D):dIx s (.d (.tup (a::b::l))) (.d (.int 1))=some b:=by simp only[dIx,dL,qaa,xN]
theorem iY {st:Sto} (i:Int):bi [.d (.int i)] st=some (.d (.bl true),st):=by
 rfl
theorem eU {f:Tf}{env:Ev}{st s:Sto}{k:Bool} (h:f env st=some (k,s)):cv f env st=some (!k,s):=by
 simp only[cv,h,qaa,qak]
theorem dD {a b:Tf}{env:Ev}{st s s':Sto}{k:Bool} (c:a env st=some (false,s)) (hb:b env s=some (k,s')):dz a b env st=some (k,s'):=by
 simp only[dz,c,hb,qaa,qbk,if_false]
def ups {α:Type} (R:α->α->Bool):List α->Bool
 |x::y::r=>R x y&&ups R (y::r)
 |_=>true
theorem vX {α:Type}{R:α->α->Bool}:∀ {l:List α},l.Pairwise (λa b=>R a b=true)->ups R l=true
 |[],_=>rfl
 |[x],_=>rfl
 |x::y::r,h=>by
  have h':=qa4.mp h;rw[ups,h'.1 y qag];exact vX h'.2
theorem vk {α:Type}{te:Ef}{env:Ev}{st:Sto} (F:α->D) (R:α->α->Bool) (h:∀ a b,∃ c,cC (.tp [0,1]) (.d (.tup [F a,F b])) env=some c/\te c st=some (.d (.bl (R a b)),st)) :
  ∀ l:List α,∃ bs:List Bool,lcI (.tp [0,1]) aJ te env (dc (l.map F) ((l.map F).drop 1)) st=some (bs.map D.bl,st)/\bs.all id=ups R l
 |[]=>⟨[],U,U⟩
 |[x]=>⟨[],U,U⟩
 |x::y::r=>by
  obtain⟨bs,g,i⟩:=vk F R h _;obtain⟨c,f,j⟩:=h x y;refine⟨_,?_,by rw[qbx,i];rfl⟩;have e:dc ((x::y::r).map F) (((x::y::r).map F).drop 1)=.tup [F x,F y]::dc _ (((y::r).map F).drop 1):=rfl;rw[e];unfold lcI;rw[f,qaa,show aJ c st=some (true,st) from U,qaa,j,qaa,g];rfl
theorem su:∀ (a b:List D),(dc a b).length<=a.length
 |[],_=>qan _
 |_::_,[]=>qby _
 |x::a,y::b=>by rw[dc,qap,qap];have:=su a b;lia
theorem yf {st:Sto}{t:List Int} (h:Trm 6 t):eO [.d (aq t)] st=some (.d (.bl true),st):=by
 have w:=si h;have n:lcI (.nm 0) aJ f7 [none] (t.map D.int) st=some ((t.map λ_=>true).map D.bl,st):=by
  rw[qaG]
  have:t.map (D.bl ∘ λ_=>true)=(t.map D.int).map λ_=>D.bl true:=by rw[qaG];rfl
  rw[this];refine ja _ λd hd=>?_;obtain⟨k,r,rfl⟩:=qaz.mp hd;have l:=h.2 k r;refine⟨_,U,?_⟩;have e:ap bi (aa (iV 0) ae) [Z (.int k)] st=some (.d (.bl true),st):=ai U (iY (st:=st) k);have c:nB dLe dLt (iC (.int 0)) (iV 0) (iC (.int 6)) [Z (.int k)] st=some (.d (.bl true),st):=by
   have v:dLe st (.d (.int 0)) (.d (.int k))=some (.bl true):=by rw[<-(decide_eq_true l.1)];rfl
   have o:dLt st (.d (.int k)) (.d (.int 6))=some (.bl true):=by rw[<-(decide_eq_true l.2)];rfl
   have m:iV 0 [some _] st=some (.d (.int k),st):=rfl;have v1:∀ x ,iC x [Z (.int k)] st=some (.d x,st):=λx=>rfl;simp only[nB,m,v1,v,o,qaa,kM,if_true,qak]
  show gX _ _ [some _] st=_;simp only[gX,e,c,qaa,blW,if_true]
 obtain⟨bs,k2,q⟩:=vk (te:=fZ) (env:=[none,none]) D.int _ (λa b=>⟨_,U,U⟩) t;have p:(t.map λ_=>true).all id=true:=by rw[qfA];exact qaW.mpr λ_ _=>rfl
 have a2:bs.all id=true:=by rw[q];exact vX (h.1.imp λ{a b} g=>decide_eq_true g)
 have i:(t.map D.int).length<=1000000:=by rw[qaf];lia
 have j:(dc (t.map D.int) ((t.map D.int).drop 1)).length<=1000000:=by
  have:=su (t.map D.int) ((t.map D.int).drop 1)
  lia
 have s1:iSl (iV 0) (iPs (iC (.int 1))) iPn [Z (aq t)] st=some (.d (.tup ((t.map D.int).drop 1)),st):=by
  show some (W.d _,st)=_;rw[show (1)=((1:Nat):Int) from U,jX]
 have u:cN (aa (iV 0) (aa (iSl (iV 0) (iPs (iC (.int 1))) iPn) ae)) [Z (aq t)] st=some (dc (t.map D.int) ((t.map D.int).drop 1),st):=by
  have:=ac (a:=iV 0) (b:=aa _ ae) U (ac s1 U)
  simp only[cN,this,qaa];rfl
 have e:=yw (ac (b:=ae) (ao (aM (k:=1) (js:=[]) (env:=[some _]) (tU (f:=iV 0) U) i n)) U);have c:=yw (ac (b:=ae) (ao (aM (k:=2) (js:=[]) u j k2)) U);rw[p]at e;rw[a2]at c;have s:iCB hU (aa (iV 0) (aa (iC (.ty "tuple")) ae)) [Z (aq t)] st=some (.d _,st):=rfl
 exact ax U (aU (kz (dD (eU (jl s)) (eU (jl e))) U) (aD c))
theorem Av (s:Sto) (a b:Str):dNe s (.d (.str a)) (.d (.str b))=some (.bl (!(a==b))):=by
 rfl
theorem Dv (s:Sto) (a b:Int):dEq s (.d (.int a)) (.d (.int b))=some (.bl (a==b)):=by
 first|exact zb s a b|exact dw s a b
theorem Gz (s:Sto) (a b:Int):dNe s (.d (.int a)) (.d (.int b))=some (.bl (!(a==b))):=by
 rfl
theorem yd {st:Sto}{a0:Option W}{p:Prt} (h:Trm 6 p.1) (e:p.2≠0):gj [a0,Z (bj p)] st=some (.nx [a0,Z (bj p)] st):=by
 have a:=yf (st:=st) h;have b:(p.2==(0))=false:=by simp[e]
 unfold bj;generalize aq p.1=tt at a ⊢;have c:iCB hU (aa (iV 1) (aa (iC (.ty "tuple")) ae)) [a0,Z (.tup [tt,.int p.2])] st=some (.d _,st):=rfl
 exact aU (kz (dD (eU (jl c)) (dD (ay U U (by rfl)) (eU (jl (ai (ac (ag U U (ix0 _ _ _)) U) a))))) U) (kz (dD (eU (jl (ai (ac (ag U U (ix1 _ _ _ _)) U) (iY p.2)))) (ay (ag U U (ix1 _ _ _ _)) U (by rw[Dv,b]))) U)
theorem ye {st:Sto}{b:Bool}{ps:List Prt} (h:C8 ps):eM [.d (bS (aE b) ps)] st=some (.d (.bl true),st):=by
 obtain⟨u,j,w⟩:=h
 obtain⟨x,s',l,o,rfl,rfl⟩:=bH (g:=.nm 1) (λi env s=>∃ o,env=[Z (bS (aE b) ps),o]/\s=st) ⟨none,U,U⟩ (by
  rintro i d env s hd ⟨o,rfl,rfl⟩
  rw[qaF,qad]at hd;obtain⟨p,m,rfl⟩:=hd
  have:=u p (qbO m)
  exact⟨_,_,_,U,.inl (yd this.1 this.2),_,U,U⟩)
 obtain⟨bs,k2,n⟩:=vk (te:=fY) (env:=[none,none]) (st:=s') bj _ (λa b=>⟨_,U,ag (ag U U (ix0 _ _ _)) (ag U U (ix0 _ _ _)) (by
  show (bb _).bind _=_
  rw[br,br];rfl)⟩) ps
 have a2:bs.all id=true:=by
  rw[n];refine vX ?_;rw[qcI]at j;exact j
 have e:(dc (ps.map bj) ((ps.map bj).drop 1)).length<=1000000:=by
  have:=su (ps.map bj) ((ps.map bj).drop 1)
  rw[qaf]at this;lia
 unfold bS at l ⊢;generalize ps.map bj=PP at *;have s1:iSl (iOp dIx (iV 0) (iC (.int 1))) (iPs (iC (.int 1))) iPn [Z (.tup [.str (aE b),.tup PP]),o] s'=some (.d (.tup (PP.drop 1)),s'):=by
  show some (W.d (.tup (ik PP (some _) none)),s')=_;rw[show (1)=((1:Nat):Int) from U,jX]
 have q:cN (aa (iOp dIx (iV 0) (iC (.int 1))) (aa (iSl (iOp dIx (iV 0) (iC (.int 1))) (iPs (iC (.int 1))) iPn) ae)) [Z (.tup [.str (aE b),.tup PP]),o] s'=some (dc PP (PP.drop 1),s'):=by
  have:=ac (a:=iOp dIx (iV 0) (iC _)) (b:=aa _ ae) (ag U U (ix1 _ _ _ _)) (ac s1 U)
  simp only[cN,this,qaa,Cf,qak]
 have f:=yw (ac (b:=ae) (ao (aM (k:=2) (js:=[]) q e k2)) U);rw[a2]at f;have t:iCB hU (aa (iV 0) (aa (iC (.ty "tuple")) ae)) [Z (.tup [.str (aE b),.tup PP]),none] s'=some (.d _,s'):=rfl
 have v:iCB hU (aa (iOp dIx (iV 0) (iC _)) (aa (iC (.ty "str")) ae)) [Z (.tup [.str (aE b),.tup PP]),none] s'=some (.d _,s'):=aF (ac (ag U U (ix0 _ _ _)) U) U
 have i3:iCB hU (aa (iOp dIx (iV 0) (iC _)) (aa (iC (.ty "tuple")) ae)) [Z (.tup [.str (aE b),.tup PP]),none] s'=some (.d _,s'):=aF (ac (ag U U (ix1 _ _ _ _)) U) U
 have r:aK qv (iOp dIx (iV 0) (iC (.int 0))) (a9 (aa (iC (.str "both")) (aa (iC (.str "odd")) ae))) [Z (.tup [.str (aE b),.tup PP]),none] s'=some (false,s'):=by
  have c:inD (.str (aE b)) [.str "both",.str "odd"]=true:=by cases b<;>decide
  show (if cf (.str (aE b))=true/\[D.str "both",.str "odd"].all cf=true then some _ else none)=_
  rw[c];rfl
 exact ax U (aU (kz (dD (eU (jl t)) (dD (ay U U (by rfl)) (eU (jl v)))) U) (aU (kz (dD r (eU (jl i3))) U)
  (aU (bz (tU (ag U U (ix1 _ _ _ _))) l) (aD f))))
end Own
set_option maxHeartbeats 1000000
namespace Own
open PySem L2
open Sx (Pb Tb Good Named Fe LV ZV piv lexP leastR leaveL sumN unit colV basis)
theorem wT {te:Ef}{tt:Tf}{l:Ev}{st:Sto} (F:Int->D) (c:∀ a b,tt (Z a::some (.d b)::l) st=some (!dA b,st)):∀ (r:List D) (k:Nat),(∀ m,m<r.length->r.getD m .non≠.non->te (Z (.int ((k+m:Nat):Int))::some (.d (r.getD m .non))::l) st=some (.d (F ((k+m:Nat):Int)),st))->
  lcI (.tp [0,1]) tt te (none::none::l) (bW k r) st=some ((bD k r).map F,st)
 |[],_,_=>rfl
 |d::r,k,h=>by
  have g:=wT F c r _ λm hm hn=>by
   have:=h (m+1) (by rw[qap];lia) (by exact hn)
   rw[show k+_=k+1+m by lia]at this;exact this
  have f:=h 0 (by rw[qap];lia);rw[qaO,qg2]at f;rw[bW];unfold lcI;rw[show cC _ _ _=some (some _::some _::l) from U,qaa,c,qaa];by_cases e:d=.non
  ·subst e
   rw[g];rfl
  ·have:(!dA d)=true:=by cases d<;>first|rfl|exact absurd U e
   rw[iFP this,f e,qaa,g];have i:bD k (d::r)=(k:Int)::bD (k+1) r:=by cases d<;>first|rfl|exact absurd U e
   rw[i];rfl
theorem C1 (s:Sto) {d:D} (a:lR d) (hn:d≠.non):dIx s (.d (.lst [.int (-1),.int 1])) (.d d)=some (.int (sgD d)):=by
 rcases a with rfl|rfl|rfl
 ·exact absurd U hn
 ·rfl
 ·rfl
theorem Ax (s:Sto) (n:Nat) (w:Nat->Int):wj s [.d (.tup (mpI n w))]=some (.int (sumN n w)):=by
 rw[<-lp,bR];show (bb _).map _=_;rw[br];rfl
theorem xq {a b:Ef}{env:Ev}{st s s':Sto}{x:W} (c:a env st=some (.d (.bl true),s)) (hb:b env s=some (x,s')):gX a b env st=some (x,s'):=by
 simp only[gX,c,hb,qaa,blW,if_true]
theorem GH {a b:Ef}{env:Ev}{st s:Sto} (c:a env st=some (.d (.bl true),s)):zl a b env st=some (.d (.bl true),s):=by
 simp only[zl,c,qaa,blW,if_true]
theorem G0 {c:Tf}{b:Sf}{n:Nat}{env:Ev}{st s:Sto} (h:c env st=some (false,s)):bM c b (n+1) env st=some (.nx env s):=by
 unfold bM;rw[h,qaa,iFN qa5]
theorem Ge {c:Tf}{b:Sf}{n:Nat}{env e:Ev}{st s a:Sto} (h:c env st=some (true,s)) (hb:b env s=some (.nx e a)):bM c b (n+1) env st=bM c b n e a:=by
 rw[bM,h,qaa,iFP U,hb,qaa]
theorem CM (s:Sto) (a b:Int):dNe s (.d (.int a)) (.d (.int b))=some (.bl (!(a==b))):=by
 rfl
theorem jW {st:Sto}:∀ (n a b:Nat),b<n->bM dk hJ n [Z (.int (a:Int)),Z (.int (b:Int))] st=some (.nx [Z (.int ((qbs a b:Nat):Int)),Z (.int 0)] st)
 |0,a,b,h=>absurd h (qcL _)
 |n+1,a,b,h=>by
  have c:dk [Z (.int (a)),some _] st=some (!((b:Int)==0),st):=ay U U (CM _ _ _);by_cases hb:b=0
  ·subst hb
   rw[qhF];rfl
  ·rw[show (!_)=true by lia]at c
   have e:qbs a b=qbs b (a%b):=by rw[qfH a b,qj7 b a,qfH]
   have f:fW st (.d (.int (a))) (.d (.int (b)))=some (.int ((a%b:Nat))):=by
    refine (gY st (show _<_ by lia)).trans ?_;rw[Int.natCast_emod]
   rw[e,<-(jW n b _ (by have:=qlo a (qhE hb);lia))];refine Ge c ?_;have x:aa (iV 1) (aa (iOp fW (iV 0) (iV 1)) ae) [some _,some _] st=some ([.d _,.d _],st):=ac U (ac (ag U U f) U);show tJ 0 1 _ [some _,some _] st=_;simp only[tJ,x,qaa];rfl
theorem kO {st:Sto}{a b:Nat} (h:b<2^4000):cB [.d (.int (a:Int)),.d (.int (b:Int))] st=some (.d (.int ((qbs a b:Nat):Int)),st):=by
 exact ax U (aj (jW _ a b (qaP h (qbS (by decide) (by decide)))) U)
theorem yM {st:Sto}{env:Ev}{V:Ef}{x:Int} (a:∀ s,V env s=some (.d (.int x),s)):iOp dIx (au (bn (aa V (aa (iOp hW (iC (.int 0)) V) ae)))) (iCB jk (aa (iOp dLt V (iC (.int 0))) ae)) env st=some (.d (.int ((x.natAbs:Nat):Int)),st):=by
 refine ag (ao (cr (ac (a _) (ac (ag U (a _) U) U)) U (by show 2<=1000;decide))) (aF (d:=.int (if x<0 then 1 else 0)) (ac (ag (a _) U (ltW st U)) U) (by by_cases q:x<0<;>simp[q]<;>rfl)) ?_;by_cases q:x<0
 ·rw[iFP q,show ((x.natAbs))=0 - x by lia];rfl
 ·rw[iFN q,show ((x.natAbs))=x by lia];rfl
theorem wU (X:List Int->Int):∀ a:List (List Int),((aQ a X).map λp=>((p.2.natAbs:Nat):Int)).sum=(a.map λt=>((X t).natAbs:Int)).sum
 |[]=>rfl
 |t::a=>by
  have b:=wU X a;unfold aQ at b ⊢;rw[qdK,qas,qb8];by_cases h:X t=0
  ·rw[iFN (by simp[h]),b,h];exact (qcP _).symm
  ·rw[iFP (by simp[h]),qas,qas,qb8,b]
theorem vQ {b:List Int}{l:Int} (f:∀ y∈b,l<=y) (hm:l∈b):∃ r,k8 b=l::r:=by
 have c:=iy b;have d:=fP b;cases e:k8 b with
 |nil=>
  rw[e]at c;rw[List.nil_perm.mp c]at hm;cases hm
 |cons a r=>
  rw[e]at c d;have h:=f a (c.mem_iff.mp qag);have g:a<=l:=by
   rcases qay.mp (c.mem_iff.mpr hm) with q|q
   ·lia
   ·exact (qa4.mp d).1 l q
  exact⟨r,by rw[show a=l by lia]⟩
section
variable {fs:List D}{b:Bool}{ts:List (List Int)}{m p:Int}{X:List Int->Int}{w:Nat->Int}{st:Sto}
theorem xz (h:Spl fs ts) {te:Ef}{tt:Tf}{l:Ev} (F:Int->D) (H:∀ a b,tt (Z a::some (.d b)::l) st=some (!dA b,st)) (he:∀ i,i<nR fs->te (Z (.int (rN fs i:Int))::some (.d (fs.getD (rN fs i) .non))::l) st=some (.d (F (rN fs i:Int)),st)):lcI (.tp [0,1]) tt te (none::none::l) (bW 0 fs) st=some ((qam (nR fs)).map λi=>F (rN fs i:Int),st):=by
 rw [(wT F H fs 0 λm hm hn=>by
  obtain⟨i,hi,e⟩:=qcG.mp (oG fs 0 m hm hn);have v:jL fs i=((0+m:Nat)):=by
   unfold jL;rw[qaB,qao hi];exact e
  rw[qbj]at v ⊢;have eN:rN fs i=m:=by unfold rN;rw[v,qa7]
  have:=he i hi
  rw[eN]at this
  exact this),fE 0 F _]
 refine congrArg (λz=>some (z,st)) (qbw λi hi=>?_)
 have:=(jw h (qaD.mp hi)).1
 show F (jL fs i)=_;rw[this]
theorem CD (h:Spl fs ts):(bW 0 fs).length<=1000000:=by
 have:∀ (ds:List D) (k:Nat),(bW k ds).length=ds.length:=λds=>by
  induction ds with
  |nil=>exact λ_=>rfl
  |cons d ds ih=>exact λk=>by rw[bW,qap,qap,ih]
 rw[this]
 have:=h.fl
 lia
theorem AD (h:Spl fs ts) {i:Nat} (hi:i<nR fs):lR (fs.getD (rN fs i) .non)/\fs.getD (rN fs i) .non≠.non:=by
 obtain⟨m,d,L,_,_,E,hn,hg⟩:=rX h (vL hi);unfold rN;rw[hg];exact⟨E,hn⟩
theorem uQ (h:Spl fs ts) (hw:∀ r,r<fs.length->Sm (w r)) {t:Nat} (K:t<ts.length):dH [.d (.tup fs),.d (.str (aE b)),.d (aq (ts.getD t [])),.d (.tup (mpI fs.length w))] st=some (.d (.int (sumN (nR fs) λi=>spV fs b ts i t*w (rN fs i))),st):=by
 have Q:=by
  simpa only  using (xz (st:=st) h (te:=fj) (tt:=fH) (l:=[]) (λj=>D.tup [.int j,fs.getD j.toNat .non]) (λa b=>rfl) λi hi=>by
   exact bh (ac U (ac U U)) U (by show 2<=1000;decide))
 have V:ts.getD t []∈ts:=by rw[qaB,qao K];exact qbV K
 have l2:lcI (.tp [0,1]) aJ cU [none,none,Z (.tup (mpI fs.length w)),Z (.str (aE b)),Z (aq (ts.getD t []))] ((qam (nR fs)).map λi=>D.tup [.int (rN fs i),fs.getD (rN fs i) .non]) st=some (((qam (nR fs)).map λi=>spV fs b ts i t*w (rN fs i)).map D.int,st):=by
  rw[qaG];exact nY (g:=λi=>(D.int _,fs.getD _ .non)) _ λi hi=>by
   have o:=qaD.mp hi;obtain⟨v,I⟩:=jw h o;obtain⟨E,hn⟩:=AD h o;have L:=C1 st E hn;have ab:=uO b (ts.getD t []) (rN fs i);have s1:(sgD (fs.getD (rN fs i) .non)).natAbs<=1:=by rcases Ca with q|q<;>rw[q]<;>decide
   have es:spV fs b ts i t*w (rN fs i)=w (rN fs i)*sgD (fs.getD (rN fs i) .non)*cP b (ts.getD t []) (rN fs i):=by
    unfold spV;rw[v,qa7,qa6,qbr]
   show cU _ st=some (.d (.int (spV fs b ts i t*w _)),st);rw[es];exact ag (ag (ag U U (bZ (bF I))) (ag (ao (cr U U (by decide))) U L) (cR st (fC (by lia)))) (ai (ac U (ac U (ac U U))) (sj (h.tt _ V).1)) (cR st (fC (by lia)))
 have N:=xy st ((qam (nR fs)).map λi=>spV fs b ts i t*w (rN fs i));rw[lp]at N;have z2:((qam (nR fs)).map λi=>D.tup [.int (rN fs i),fs.getD (rN fs i) .non]).length<=1000000:=by rw[qaf,qav];have:=h.n;lia
 exact ax U (aj (ak (ao (aM U (CD h) Q))) (aD (aF (ac (ao (aM (aT U) z2 l2)) U) N)))
theorem lN (h:Spl fs ts) (hn:∀ r,r<fs.length->fs.getD r .non=.non->w r=0):sumN fs.length w=sumN (nR fs) λi=>w (rN fs i):=by
 have e:=uM w fs 0;rw[fE 0 _ _,lp]at e;have y:sumN fs.length w=sumN fs.length λj=>if dA (fs.getD j .non)=true then 0 else w (0+j):=Sx.sumN_congr λj O=>by
  rw[qbj];split
  ·rename_i q
   exact hn j O (by cases z:fs.getD j .non<;>rw[z]at q<;>first|rfl|cases q)
  ·rfl
 rw[y,<-e];rfl
theorem oR (h:Spl fs ts) (R:AV fs b ts m p X w):cL [.d (.tup fs),.d (.tup (mpI fs.length w))] st=some (.d (.bl true),st):=by
 have u:dNe st (.d (.int ((mpI fs.length w).length))) (.d (.int (fs.length)))=some (.bl false):=by
  rw[aH,CM,beq_self_eq_true];rfl
 have W:lcI (.nm 0) aJ du [none] (mpI fs.length w) st=some (((qam fs.length).map λ_=>true).map D.bl,st):=by
  rw[qaG];refine nX _ λr I=>?_;refine xq (ai U (iY _)) (ag U U ?_);show some _=_;rw[decide_eq_true ((R.w0 r (qaD.mp I)).1)];rfl
 have hzl:(dc fs (mpI fs.length w)).length=fs.length:=by rw[oO,aH,qjR]
 have k2:∃ bs:List Bool,lcI (.tp [0,1]) aJ ce [none,none] (dc fs (mpI fs.length w)) st=some (bs.map D.bl,st)/\bs.all id=true:=by
  obtain⟨x,s2,y,hu,rfl⟩:=fA (g:=.tp [0,1]) (tt:=aJ) (te:=ce) (env:=[none,none]) (ds:=dc fs (mpI fs.length w)) (λi x s=>x=(qaC i true).map D.bl/\s=st) ⟨U,U⟩ (λi d x s hd ⟨e,es⟩=>by
   subst e es;rw[gy]at hd;have hi:i<fs.length:=by
    by_cases q:i<fs.length
    ·exact q
    ·rw[qaQ (by lia)]at hd;cases hd
   rw[bF hi,qao hi,qaa,qak,qj4]at hd;subst hd;refine⟨_,U,.inl ⟨s,_,s,U,?_,by rw[qeT,qbJ];rfl,U⟩⟩;have eg:fs.getD i .non=fs[i]:=by rw[qaB,qao hi];rfl
   by_cases q:fs[i]=.non
   ·have:=R.wn i hi (by rw[eg];exact q)
    rw[q,this];rfl
   ·generalize fs[i]=d at *
    cases d<;>first|rfl|exact absurd U q)
  exact⟨_,by rw[<-hu];exact y,by simp⟩
 obtain⟨bs,k2,S⟩:=k2;have B:dGt st (.d (.int (sumN fs.length w))) (.d (.int 0))=some (.bl true):=by
  show some _=_;rw[decide_eq_true (by rw[lN h R.wn];exact R.wp)]
 have hfl:=h.fl;have T:(mpI fs.length w).length<=1000000:=by rw[aH];lia
 have Y:(dc fs (mpI fs.length w)).length<=1000000:=by lia
 have hi:cN (aa (iV 0) (aa (iV 1) ae)) [Z (.tup fs),Z (.tup (mpI fs.length w))] st=some (dc fs (mpI fs.length w),st):=by
  rfl
 have J:=yw (env:=[Z (.tup fs),some _]) (ac (b:=ae) (ao (aM (k:=1) (js:=[]) (be (f:=iV 1) U) T W)) U);have a2:=yw (ac (b:=ae) (ao (aM (k:=2) (js:=[]) hi Y k2)) U);rw[S]at a2;rw[show ((qam fs.length).map λ_=>true).all id=true by simp]at J;exact ax U (aj (bT (dD (s:=st) U (ay (aF (ac U U) U) (aF (ac U U) U) u)) U) (aj (bT (eU (jl J)) U) (aD (xq a2 (ag (aF (ac U U) (Ax st fs.length w)) U B)))))
theorem zD (m0:0<=m) (p1:1<=p):∃ A C:Nat,m / ((qbs m.natAbs p.natAbs:Nat):Int)=A/\p / ((qbs m.natAbs p.natAbs:Nat):Int)=C/\1<=C/\qbs A C=1/\A<=m.natAbs/\C<=p.natAbs/\m*C=A*p:=by
 have G:0<qbs m.natAbs p.natAbs:=qgy _ (by lia);obtain⟨M,rfl⟩:=qb4 m0;obtain⟨P,rfl⟩:=qb4 (show 0<=p by lia);rw[qcY,qcY]at *;obtain⟨A,hA⟩:=qfY M P;obtain⟨C,n⟩:=qfz M P;have e:qbs M P*qbs A C=qbs M P:=by rw[<-qh7,<-hA,<-n]
 generalize hg:qbs M P=g at *;refine⟨A,C,?_,?_,?_,Nat.eq_of_mul_eq_mul_left G (by rw[e,Nat.mul_one]),?_,?_,?_⟩
 ·rw[hA,qeP];exact qcM _ (by lia)
 ·rw[n,qeP];exact qcM _ (by lia)
 ·cases C with
  |zero=>lia
  |succ C=>lia
 ·rw[hA];exact qeA _ G
 ·rw[n];exact qeA _ G
 ·rw[hA,n];grind
theorem vd (m0:0<=m) (p1:1<=p) (sp:Sm p):dG [.d (.tup [.int (m / ((qbs m.natAbs p.natAbs:Nat):Int)),.int (p / ((qbs m.natAbs p.natAbs:Nat):Int))])] st=some (.d (.bl true),st):=by
 obtain⟨A,C,eA,eC,n,hg,_,hP,_⟩:=zD m0 p1;rw[eA,eC];have e:=kO (st:=st) (a:=A) (qaZ hP sp);rw[hg]at e;generalize (A)=a at *;generalize (C)=c at *;exact ax U (aj (bT (dD (s:=st) U (dD (s:=st) U (eU (jl (ai (ac (ag U U U) U) (iY a)))))) U) (aj (bT (dD (eU (jl (ai (ac (ag U U U) U) (iY c)))) (dD (ay (ag U U U) U (ltW st (decide_eq_false (by lia)))) (ay (ag U U U) U (ltW st (decide_eq_false (by lia)))))) U) (aD (ag (ai (ac (ag U U U) (ac (ag U U U) U)) e) U (dw _ _ _)))))
end
end Own
set_option maxHeartbeats 1000000
namespace Own
open PySem L2
open Sx (Pb Tb Good Named Fe LV ZV piv lexP leastR leaveL sumN unit colV basis)
section
variable {fs:List D}{b:Bool}{ts:List (List Int)}{m p:Int}{X:List Int->Int}{w:Nat->Int}{st:Sto}
theorem Eo (h:Spl fs ts) {i:Nat} (hi:i<nR fs):sgD (fs.getD (rN fs i) .non)*AH b (aQ (ar ts) X) (rN fs i:Int)=rvW fs b ts X i:=by
 unfold AH rvW;rw[zJ X (λt=>cP b t _) ts,<-Sx.sumN_mul];refine Sx.sumN_congr λt _=>?_;unfold spV;rw[((jw h hi).1),qa7,qaN]
theorem ym (h:Spl fs ts) (S:∀ t∈ts,Trm 6 t) {l s:Int} (l0:0<l) (s0:0<s) (sl:Sm l) (Q:Sm s) (u:∀ i,i<nR fs->l<=rvW fs b ts X i) (he:∃ i,i<nR fs/\rvW fs b ts X i=l) (hs:(sumN ts.length λt=>((X (ts.getD t [])).natAbs:Int))=s) :
  fR [.d (.tup fs),.d (bS (aE b) (aQ (ar ts) X))] st=some (.d (.tup [.int (l / ((qbs l.natAbs s.natAbs:Nat):Int)),.int (s / ((qbs l.natAbs s.natAbs:Nat):Int))]),st):=by
 have Y:(aQ (ar ts) X).length<=16:=by
  unfold aQ;rw[qaf]
  have:=qc2 (λt=>decide (X t≠0)) (ar ts)
  rw[(aG _).length_eq]at this
  have:=h.tl
  lia
 have K:∀ q∈aQ _ X,Dj q:=λq hq=>S _ ((aG _).mem_iff.mp (kx hq).1);have k1:lcI (.tp [0,1]) dM dE [none,none,Z (bS (aE b) (aQ (ar ts) X))] (bW 0 fs) st=some (((qam (nR fs)).map (rvW fs b ts X)).map D.int,st):=by
  have:=xz h (te:=dE) (tt:=dM) (l:=[some _]) (λj=>D.int (sgD (fs.getD j.toNat .non)*AH b _ j)) (λa b=>rfl) λi hi=>by
   obtain⟨hv,hn⟩:=AD h hi;have N:=C1 st hv hn;have s1:(sgD (fs.getD (rN fs i) .non)).natAbs<=1:=by rcases Ca with q|q<;>rw[q]<;>decide
   exact ag (ag (ao (cr U U (by decide))) U N) (ai (ac U (ac U U)) (t7 (st:=st) (b:=b) (row:=(rN fs i)) K (by lia))) (cR st (fB (by lia)))
  rw[this,qaG];refine congrArg (λz=>some (z,st)) (qbw λi hi=>?_);show D.int _=D.int _;rw[qa7,Eo h (qaD.mp hi)]
 have k2:lcI (.tp [0,1]) aJ gW [none,none] ((aQ (ar ts) X).map bj) st=some (((aQ (ar ts) X).map λq=>((q.2.natAbs))).map D.int,st):=by
  rw[qaG];exact nY (g:=λq:Prt=>(aq q.1,D.int q.2)) _ λq hq=>yM λs=>rfl
 have f:=xy st ((aQ (ar ts) X).map λq=>((q.2.natAbs)));rw[wU,uy ((aG ts).map λt=>_),fE [] _ ts,lp,hs]at f
 obtain⟨r,er⟩:=vQ (λy hy=>by
  obtain⟨i,hi,rfl⟩:=qaz.mp hy;exact u i (qaD.mp hi)) (by
  obtain⟨i,hi,e⟩:=he
  exact qaz.mpr ⟨i,qaD.mpr hi,e⟩)
 have hst:iA st [.d (.lst (((qam (nR fs)).map (rvW fs b ts X)).map D.int))]=some ((l::r).map D.int):=by
  have hn:=h.n;show (if (((qam _).map _).map D.int).length<64 then lJ _ else none)=_;rw[iFP (by rw[qaf,qaf,qav];lia)];unfold lJ;rw[br];show some _=_;rw[er]
 have g0:0<qbs l.natAbs s.natAbs:=qgy _ (by lia);have gs:Sm ((qbs l.natAbs s.natAbs)):=by
  show (_:Int).natAbs<_;exact qaZ (qiU (by lia) (qfz _ _)) Q
 have O:=kO (st:=st) (a:=l.natAbs) Q;have as:((s.natAbs))=s:=by lia
 rw[as]at O;have z2:((aQ (ar ts) X).map bj).length<=1000000:=by rw[qaf];lia
 have d1:=kQ st (a:=l) (show (0:Int)<((qbs l.natAbs s.natAbs:Nat):Int) by lia) gs;have d2:=kQ st (a:=s) (show (0:Int)<((qbs l.natAbs s.natAbs:Nat):Int) by lia) gs;have ea:∀ (e:Ev),e.getD 4 none=some (.d (.int l))->iOp dIx (au (bn (aa (iV 4) (aa (iOp hW (iC (.int 0)) (iV 4)) ae)))) (iCB jk (aa (iOp dLt (iV 4) (iC (.int 0))) ae)) e st=some (.d (.int ((l.natAbs:Nat):Int)),st):=λe J=>yM (V:=iV 4) λs=>by
  show (e.getD 4 none).map _=_;rw[J];rfl
 generalize ((qbs l.natAbs s.natAbs:Nat):Int)=g at *;generalize (((qam (nR fs)).map (rvW fs b ts X)).map D.int)=L at *;generalize ((aQ (ar ts) X).map λq=>((q.2.natAbs:Nat):Int)).map D.int=L2 at *;unfold bS at *;generalize (aQ (ar ts) X).map bj=PP at *;generalize aE b=kd at *;generalize ((l.natAbs:Nat):Int)=la at *;have i0:dIx st (.d (.lst ((l::r).map D.int))) (.d (.int 0))=some (.int l):=by
  show atI (D.int l::r.map D.int) 0=_;exact pV _ _
 have q4:iCL iA (aa (iV 2) ae) [Z (.tup fs),Z (.tup [.str kd,.tup PP]),Z (.lst L),Z (.int s),none,none] st=some ((l::r).map D.int,st):=by
  simp only[iCL,(ac (a:=iV 2) (b:=ae) (env:=[Z (.tup fs),Z (.tup [.str kd,.tup PP]),Z (.lst L),Z (.int s),none,none]) (st:=st) (x:=.d (.lst L)) U U),qaa,hst,qak]
 exact ax (n:=6) (k:=2) (b:=jn) U (aj (ak (ao (aM U (CD h) k1))) (aj (ak (aF (ac (ao (aM (be (ag U U U)) z2 k2)) U) f)) (aj (ak (ag (ao q4) U i0)) (aj (ak (ai (ac (ea _ U) (ac U U)) O)) (aD (bh (ac (ag U U d1) (ac (ag U U d2) U)) U (by show 2<=1000;decide)))))))
theorem ue {q l s:Int} (o:0<q) (N:m=q*l) (e2:p=q*s):l / ((qbs l.natAbs s.natAbs:Nat):Int)=m / ((qbs m.natAbs p.natAbs:Nat):Int)/\s / ((qbs l.natAbs s.natAbs:Nat):Int)=p / ((qbs m.natAbs p.natAbs:Nat):Int):=by
 subst N e2;rw[qb3,qb3,qh7,qeP,qhi (qfN o),qgO _ _ o,qgO _ _ o];exact⟨U,U⟩
theorem Aq (h:Spl fs ts) (S:∀ t∈ts,Trm 6 t) (R:AV fs b ts m p X w):dZ [.d (.tup fs),.d (.str (aE b)),.d (tsD ts),.d (wdD fs b ts m p X w)] st=some (.d (.bl true),st):=by
 obtain⟨A,C,eA,eC,hC,hg,hAm,hCp,J⟩:=zD R.m0 R.p1;have iv:=vd (st:=st) R.m0 R.p1 R.sm.2;have aw:=oR (st:=st) h R;have hfl:=h.fl;have htl:=h.tl;have f:=Ax st fs.length w;rw[(lN h R.wn)]at f;have W0:=R.wp;have sW:(sumN (nR fs) λi=>w (rN fs i)).natAbs<2^4010:=by
  have:∀ k,k<=nR fs->(sumN k λi=>w (rN fs i)).natAbs<=k*2^4000:=λk=>by
   induction k with
   |zero=>exact λ_=>qby _
   |succ k ih=>
    intro hk;have a:=ih (by lia);have c:(w (rN fs k)).natAbs<2^4000:=(R.w0 _ (jw h (show k<nR fs by lia)).2).2;rw[sumN,qjQ];generalize (2:Nat)^4000=B at *;lia
  refine qaZ (this _ (qan _)) (qaZ (qcq _ h.n) ?_);rw[show (4010:Nat)=4000+10 from U,qfc,qfF];exact Nat.mul_lt_mul_of_pos_left (by decide) (qge _)
 generalize hWW:(sumN (nR fs) λi=>w (rN fs i))=W at *
 -- the loop over the terms
 obtain⟨env1,s1,f1,⟨G,M,rfl⟩,rfl⟩:=bH (g:=.nm 7) (body:=eK) (ds:=ts.map aq) (λi env s=>(∃ G M,env=[Z (.tup fs),Z (.str (aE b)),Z (tsD ts),Z (wdD fs b ts m p X w),Z (.tup [.int (A:Int),.int (C:Int)]),Z (if m=0 then .non else bS (aE b) (aQ (ar ts) X)),Z (.tup (mpI fs.length w)),G,M,none,none])/\s=st)
  (env:=[Z (.tup fs),Z (.str (aE b)),Z (tsD ts),Z (wdD fs b ts m p X w),Z (.tup [.int (A:Int),.int (C:Int)]),Z (if m=0 then .non else bS (aE b) (aQ (ar ts) X)),Z (.tup (mpI fs.length w)),none,none,none,none]) (st:=st) ⟨⟨_,_,U⟩,U⟩ (λi d env s hd ⟨⟨G,M,e⟩,es⟩=>by
   subst e es;obtain⟨hi,ed⟩:=qar.mp hd;rw[qaf]at hi;have E:d=aq (ts.getD i []):=by rw[<-ed,qdg,qaB,qao hi];rfl
   subst E;have N:=uQ (b:=b) (st:=s) h (λr u=>(R.w0 r u).2) hi;have c:=R.wc i hi;rw[hWW]at c;have sT:(sumN (nR fs) λj=>spV fs b ts j i*w (rN fs j)).natAbs<2^8020:=by
    have c1:(m*W).natAbs<2^8010:=by
     rw[qb3];exact qaP (qh4 R.sm.1 sW) (by rw[<-qfc];exact qan _)
    refine qaZ ?_ (qd5 c1 (qhd (by decide) (by decide)));generalize (sumN (nR fs) λj=>spV fs b ts j i*w (rN fs j))=T at *
    have:(T.natAbs:Int)*p<=m*W:=by
     rcases qg4 0 T with q|q
     ·rw[show (T.natAbs:Int)=T by lia];exact c.1
     ·rw[show (T.natAbs:Int)=- T by lia];exact c.2
    have t2:(T.natAbs:Int)*1<=(T.natAbs:Int)*p:=qba R.p1 (by lia);lia
   generalize hT:(sumN (nR fs) λj=>spV fs b ts j i*w (rN fs j))=T at *;have mx:dMx s [.d (.int T),.d (.int (0 - T))]=some (.int (T.natAbs:Int)):=by
    show some (D.int (if 0 - T > T then 0 - T else T))=_;split
    ·rw[show (T.natAbs:Int)=0 - T by lia]
    ·rw[show (T.natAbs:Int)=T by lia]
   have m1:qbU (T.natAbs:Int) (C:Int):=mulOk 8020 4000 (by rw[qcY];exact sT) (by rw[qcY];exact qaZ hCp R.sm.2) (by decide);have m2:qbU (A:Int) W:=mulOk 4000 4010 (by rw[qcY];exact qaZ hAm R.sm.1) sW (by decide);have key:(T.natAbs:Int)*C<=A*W:=by
    have p1:=R.p1;refine qdh (a:=p) ?_ (by lia)
    have:(T.natAbs:Int)*p<=m*W:=by
     rcases qg4 0 T with q|q
     ·rw[show (T.natAbs:Int)=T by lia];exact c.1
     ·rw[show (T.natAbs:Int)=- T by lia];exact c.2
    have t3:m*W*C=p*(A*W):=by
     rw[qbl,J];grind
    have t4:p*((T.natAbs:Int)*C)=(T.natAbs:Int)*p*C:=by grind
    rw[t4,<-t3];exact (qbT this (show (0:Int)<=C by lia))
   refine⟨_,_,s,U,.inl ?_,⟨some (.d (aq (ts.getD i []))),Z (.int T),U⟩,U⟩;generalize mpI fs.length w=Aw at *;generalize aq (ts.getD i [])=tt at *;generalize wdD fs b ts m p X w=Zq at *;generalize (if m=0 then D.non else bS (aE b) (aQ (ar ts) X))=P at *;generalize tsD ts=tD at *;generalize aE b=kd at *;generalize (T.natAbs:Int)=Ta at *;generalize (A:Int)=a at *;generalize (C:Int)=c at *
   exact aj (ak (ai (ac U (ac U (ac U (ac U U)))) N)) (bT (ay (ag (aF (ac U (ac (ag U U U) U)) mx) (ag U U U) (cR s m1)) (ag (ag U U U) (aF (ac U U) f) (cR s m2)) (gtW s (decide_eq_false (by lia)))) U))
 have gx:∀ r,(ah (eY (aB (iV 2)) (.nm 7) eK) iT) [Z (.tup fs),Z (.str (aE b)),Z (tsD ts),Z (wdD fs b ts m p X w),Z (.tup [.int (A:Int),.int (C:Int)]),Z (if m=0 then .non else bS (aE b) (aQ (ar ts) X)),Z (.tup (mpI fs.length w)),none,none,none,none] s1=some (.rt r s1)->dZ [.d (.tup fs),.d (.str (aE b)),.d (tsD ts),.d (wdD fs b ts m p X w)] s1=some (r,s1):=λr e=>by
  unfold wdD at e ⊢;rw[eA,eC]at iv e ⊢;generalize mpI fs.length w=Aw at *;generalize tsD ts=tD at *;generalize aE b=kd at *;exact ax (n:=11) (k:=4) (b:=jO) U (aj (bT (s:=s1) (dD (s:=s1) U U) U) (aj U (aj (bT (s:=s1) (dD (s:=s1) (eU (k:=true) (jl (ai U iv))) (eU (k:=true) (jl (ai U aw)))) U) e)))
 refine gx _ (aj (bz (be U) f1) ?_);by_cases z:m=0
 ·have A0:(A:Int)=0:=by rw[<-eA,z,qfn]
  rw[iFP z,A0];generalize wdD fs b ts m p X w=Zq at *;generalize mpI fs.length w=Aw at *;exact gZ (d7 (s:=s1) (ay (ag U U U) U U) U)
 ·have A0:((A:Int)==0)=false:=by
   have:(A:Int)≠0:=λq=>by
    rw[q,qci]at J;rcases qgh.mp J with y|y
    ·exact z y
    ·lia
   simpa using this
  rw[iFN z];obtain⟨q,l,s,o,l0,s0,em,ep,u,he,hs,F⟩:=R.po z;have Q:Sm s:=xv o ep R.sm.2;have I:=ym (st:=s1) h S l0 s0 (xv o em R.sm.1) Q u he hs;rw[(ue o em ep).1,(ue o em ep).2,eA,eC]at I;have Y:(aQ (ar ts) X).length<=16:=by
   unfold aQ;rw[qaf]
   have:=qc2 (λt=>decide (X t≠0)) (ar ts)
   rw[(aG _).length_eq]at this;lia
  have pk:=ye (st:=s1) (b:=b) (ps:=aQ (ar ts) X) ⟨λr u=>⟨S _ ((aG _).mem_iff.mp (kx u).1),(kx u).2.2⟩,by rw[qcI];exact BA (yc h.nd),by lia⟩;have hem:dEq s1 (.d (.tup ((aQ (ar ts) X).map bj))) (.d (.tup []))=some (.bl false):=by
   cases e:aQ (ar ts) X with
   | nil=>exact absurd e (λe=>by
   rw[e]at F
   cases F)
   |cons x r=>rfl
  obtain⟨env2,H,f2,⟨o7',v,rfl⟩,rfl⟩:=bH (g:=.tp [7,10]) (body:=iB) (ds:=(aQ (ar ts) X).map bj) (λi env s=>(∃ G v,env=[Z (.tup fs),Z (.str (aE b)),Z (tsD ts),Z (wdD fs b ts m p X w),Z (.tup [.int (A:Int),.int (C:Int)]),Z (bS (aE b) (aQ (ar ts) X)),Z (.tup (mpI fs.length w)),G,M,Z (.int ((bO 0 (((aQ (ar ts) X).map qcF).take i):Nat):Int)),v])/\s=s1)
   (env:=[Z (.tup fs),Z (.str (aE b)),Z (tsD ts),Z (wdD fs b ts m p X w),Z (.tup [.int (A:Int),.int (C:Int)]),Z (bS (aE b) (aQ (ar ts) X)),Z (.tup (mpI fs.length w)),G,M,Z (.int 0),none]) (st:=s1) ⟨⟨_,_,U⟩,U⟩ (λi d env s hd ⟨⟨G,v,e⟩,es⟩=>by
    subst e es;obtain⟨hi,ed⟩:=qar.mp hd;rw[qaf]at hi;have E:d=bj (aQ (ar ts) X)[i]:=by rw[<-ed,qdg]
    subst E;have hm:=kx (qbV hi);have tk:bO 0 (((aQ (ar ts) X).map qcF).take (i+1))=qbs (bO 0 (((aQ (ar ts) X).map qcF).take i)) (aQ (ar ts) X)[i].2.natAbs:=by
     have hi':i<((aQ (ar ts) X).map qcF).length:=by rw[qaf];exact hi
     rw[qhG,qao hi',Option.toList_some,qdg,nw]
    have mt:=(aG _).mem_iff.mp hm.1;have hb:(aQ (ar ts) X)[i].2.natAbs<2^4000:=by
     rw[hm.2.1];exact R.sX _ mt
    have O:=kO (st:=s) (a:=bO 0 (((aQ (ar ts) X).map qcF).take i)) (b:=(aQ (ar ts) X)[i].2.natAbs) hb;rw[<-tk]at O;have hin:md s (.d (aq (aQ (ar ts) X)[i].1)) (.d (tsD ts))=some (.bl false):=by
     show (gR [aq _]).bind _=_;rw[show [aq (aQ (ar ts) X)[i].1]=[(aQ (ar ts) X)[i].1].map aq from U,gT,qaa,show dL s (.d (tsD ts))=some (ts.map aq) from U,qaa,gT];show some (D.bl (!decide ((aQ (ar ts) X)[i].1∈ts)))=_;rw[decide_eq_true mt];rfl
    refine⟨_,_,s,U,.inl ?_,⟨some (.d (aq (aQ (ar ts) X)[i].1)),Z (.int (aQ (ar ts) X)[i].2),U⟩,U⟩;generalize (aQ (ar ts) X)[i].2=x at *;generalize aq (aQ (ar ts) X)[i].1=tt at *;generalize bS (aE b) (aQ (ar ts) X)=P at *;generalize mpI fs.length w=Aw at *;generalize wdD fs b ts m p X w=Zq at *;generalize tsD ts=tD at *;generalize aE b=kd at *
    exact aj (ak (ai (ac U (ac (yM (V:=iV 10) λs=>rfl) U)) O)) (bT (ay U U hin) U))
  rw[qaf,qb7 (by rw[qaf];exact qan _),F]at f2;have kk:dNe H (.d (.str (aE b))) (.d (.str (aE b)))=some (.bl false):=by rw[Av,beq_self_eq_true];rfl
  have ee:dEq H (.d (.tup [.int (A:Int),.int (C:Int)])) (.d (.tup [.int (A:Int),.int (C:Int)]))=some (.bl true):=by
   show some (D.bl ((A:Int)==(A:Int)&&(((C:Int)==(C:Int))&&true)))=_;rw[beq_self_eq_true,beq_self_eq_true];rfl
  generalize (A:Int)=a at *;generalize (C:Int)=c at *;generalize mpI fs.length w=Aw at *;generalize wdD fs b ts m p X w=Zq at *;unfold bS at *;generalize (aQ (ar ts) X).map bj=PP at *;generalize tsD ts=tD at *;generalize aE b=kd at *;exact aj (bT (s:=H) (ay (ag U U U) U (by rw[dw,A0])) U) (aj (bT (s:=H) (dD (s:=H) (eU (k:=true) (jl (ai U pk))) (dD (s:=H) (ay (ag U U U) U kk) (ay (ag U U U) (bh (ds:=[]) U U (by decide)) hem))) U) (aj (ak U) (aj (bz (be (ag U U U)) f2) (aD (xq (ag U U (dw _ _ _)) (ag (ai (ac U (ac U U)) I) U ee))))))
end
end Own
section
set_option maxHeartbeats 1000000
namespace Own
open PySem L2
open Sx (Pb Tb Good Named Fe LV ZV piv lexP leastR leaveL sumN unit colV basis)
theorem mH {W K:Nat}:∀ {ds:List D},(∀ d∈ds,rpD d=true/\wtD d<=W/\dpD d<=K)->lj ds=true/\oN ds<=(W+2)*ds.length/\ng ds<=K
 |[],_=>by exact⟨U,qby _,qby _⟩
 |d::ds,h=>by
  obtain⟨a,b,c⟩:=mH λx hx=>h x (qaj _ hx);obtain⟨a1,b1,c1⟩:=h d qag;rw[lj,oN,ng,a,a1,qap];exact⟨U,by lia,by lia⟩
theorem wb (s:Sto) {fs:List D}{ts:List (List Int)} (h:Spl fs ts):∃ x:Str,kP s [.d (.lst [.tup fs,tsD ts])]=some (.str x):=by
 have hfl:=h.fl;have htl:=h.tl;obtain⟨a1,b1,c1⟩:=mH (W:=2000) (K:=1) λd hd=>by
  rcases h.fv d hd with rfl|rfl|rfl
  ·exact⟨U,by decide,by decide⟩
  ·exact⟨U,by decide,by decide⟩
  ·exact⟨U,by decide,by decide⟩
 obtain⟨a2,F,c2⟩:=mH (W:=42050) (K:=2) (ds:=ts.map aq) λd hd=>by
  obtain⟨t,L,rfl⟩:=qaz.mp hd;obtain⟨k1,k2⟩:=h.tt t L;obtain⟨a,b,c⟩:=mH λd hd=>by
   obtain⟨k,hk,rfl⟩:=qaz.mp hd
   have:=k1 k hk
   obtain⟨j,rfl⟩:=qb4 this.1;have hj:j<=20:=by lia
   have:∀ j,j<=20->rpD (.int (j:Nat))=true:=by decide
   exact⟨this j hj,by exact qan _,by exact qan _⟩
  rw[qaf]at b;unfold aq;rw[wtD,dpD];exact⟨a,by lia,by lia⟩
 rw[qaf]at F;have r:rpD (.lst [.tup fs,tsD ts])=true/\wtD (.lst [.tup fs,tsD ts])<=16000000/\dpD (.lst [.tup fs,tsD ts])<=50:=by
  unfold tsD;refine⟨?_,?_,?_⟩
  ·rw[rpD,lj,rpD,lj,rpD,a1,a2];rfl
  ·rw[wtD,oN,wtD,oN,wtD,oN];lia
  ·rw[dpD,ng,dpD,ng,dpD,ng];lia
 refine⟨(toP (.lst [.tup fs,tsD ts])).shown,?_⟩;show (if rpD _=true/\wtD _<=16000000/\dpD _<=50 then some _ else none)=_;rw[iFP r]
theorem rJ (k:Nat):∀ ns:List Int,(ns.map D.int).all (okD k)=true
 |[]=>rfl
 |n::ns=>by
  rw[qas,qbx,rJ k ns];cases k<;>rfl
theorem ur:∀ ps:List Prt,(ps.map bj).all (okD 58)=true
 |[]=>rfl
 |p::ps=>by
  rw[qas,qbx,ur ps,qiG];show ((p.1.map D.int).all _&&_)=true;rw[rJ];rfl
theorem tj:∀ ps:List Prt,dX (ps.map bj) (ps.map bj)=true
 |[]=>rfl
 |p::ps=>by
  show ((dX _ _&&((p.2==p.2)&&true))&&dX _ _)=true;rw[tj ps,i4,decide_eq_true U,beq_self_eq_true];rfl
theorem Cs {s:Sto}{fs:List D}{b:Bool}{ts:List (List Int)}{m p:Int}{X:List Int->Int}{w:Nat->Int}:dNe s (.d (wdD fs b ts m p X w)) (.d (wdD fs b ts m p X w))=some (.bl false):=by
 unfold wdD;have hP:∃ P,(if m=0 then D.non else bS (aE b) (aQ (ar ts) X))=P/\okD 60 P=true/\eqD P P=true:=by
  refine⟨_,U,?_⟩;split
  ·exact⟨U,U⟩
  ·refine⟨?_,?_⟩
   ·show (true&&((aQ _ X).map bj).all _&&true)=true
    rw[ur];rfl
   ·show ((aE b==aE b)&&(dX _ _&&true))=true
    rw[tj,beq_self_eq_true];rfl
 obtain⟨P,eP,o1,q1⟩:=hP;rw[eP,bR];generalize m / _=a;generalize p / _=c;have h1:=by
  show (true&&(okD 60 P&&((((qam fs.length).map w).map D.int).all (okD 59)&&true)))=true;rw[o1,rJ];rfl
 have h2:dX [D.tup [.int a,.int c],P,.tup (((qam fs.length).map w).map D.int)] [D.tup [.int a,.int c],P,.tup (((qam fs.length).map w).map D.int)]=true:=by
  show (((a==a)&&((c==c)&&true))&&(eqD P P&&(dX _ _&&true)))=true;rw[q1,i4,decide_eq_true U,beq_self_eq_true,beq_self_eq_true];rfl
 show ((if (false||false)=true then some (false&&false) else if _/\_ then some _ else none)).map _=_;rw[iFN (by decide),iFP ⟨h1,h1⟩,h2];rfl
theorem FN {g:Tg}{f:Ef}{env e:Ev}{st s:Sto}{x:W} (h:f env st=some (x,s)) (H:cC g x env=some e):az g f env st=some (.nx e s):=by
 simp only[az,h,qaa,H,qak]
theorem Cq {ns:List Int}{k:Nat}{st:Sto}{a2 a3 a4 a5 a6 a7 Y:Option W}:∃ F N M S I O G st',wM [Z (.scr ns),Z (.int (k:Int)),a2,a3,a4,a5,a6,a7,Y] st=some (.nx [Z (.scr ns),Z (.int (k:Int)),F,N,M,S,I,O,G] st'):=by
 obtain⟨s1,h1,l1,_,e1⟩:=Bh;generalize st.length=h at *;obtain⟨n,fs,E,hn,fl,fv,fe,w2,h2,e2⟩:=uN h1 (by lia);obtain⟨d,s3,m3,w3,h3,e3⟩:=xi (ds:=[.str "both",.str "odd"]) h2 (by lia) (by simp) (by simp)
 obtain⟨b,rfl⟩:∃ b,d=.str (aE b):=by
  simp only[qay,qbM,or_false]at m3;rcases m3 with rfl|rfl
  ·exact⟨true,U⟩
  ·exact⟨false,U⟩
 obtain⟨ts,o,H,w4,h4,e4⟩:=r8 hn h3 (by lia);have Sp:=xX (n:=(n)) (by lia) (by lia) (by exact fl) fv (by exact H);have hN:0<nR fs:=by
  obtain⟨u,hu,hne⟩:=fe;obtain⟨r,Q,e⟩:=qcG.mp hu
  have:=oG fs 0 r Q (by rw[qaB,qao Q];rw[e];exact hne)
  exact List.length_pos_of_mem this
 obtain⟨tx,hx⟩:=wb o Sp;obtain⟨m,p,X,w,R,hw⟩:=lu (b:=b) Sp hN;obtain⟨v,f1⟩:=hw o;obtain⟨u2,f2⟩:=hw (o++v);have sh:=Aq (st:=o++v) Sp (λt htt=>(eG n ((aG _).mem_iff.mp (H.subset htt))).mono (by lia)) R;obtain⟨y,J⟩:=wb _ Sp;have et:y=tx:=by
  have:kP (o++v) [.d (.lst [.tup fs,tsD ts])]=kP o [.d (.lst [.tup fs,tsD ts])]:=rfl
  rw[J,hx]at this;injection this with this;injection this
 subst et;have nt:dNe (o++v) (.d (.str y)) (.d (.str y))=some (.bl false):=by rw[Av,beq_self_eq_true];rfl
 refine⟨some (.h h),Z (.int (n)),Z (.tup fs),Z (.str (aE b)),Z (tsD ts),Z (.str y),Z (wdD fs b ts m p X w),o++v++u2,?_⟩;generalize tsD ts=T at *;generalize aE b=kd at *;have p5:tJ 5 6 (aa (ap bJ (aa (iV 2) (aa (au (bn (aa (iC (.str "both")) (aa (iC (.str "odd")) ae)))) ae))) (aa (ap bq (aa (iV 2) (aa (iV 3) ae))) ae)) [Z (.scr ns),Z (.int (k)),some (.h h),Z (.int (n)),Z (.tup fs),a5,a6,a7,Y] E=some (.nx [Z (.scr ns),Z (.int (k)),some (.h h),Z (.int (n)),Z (.tup fs),Z (.str kd),Z T,a7,Y] o):=by
  have x:aa (ap bJ (aa (iV 2) (aa (au (bn (aa (iC _) (aa (iC _) ae)))) ae))) (aa (ap bq (aa (iV 2) (aa (iV 3) ae))) ae) [Z (.scr ns),Z (.int (k)),some _,some _,Z (.tup fs),a5,a6,a7,Y] E=some ([.d _,.d T],o):=ac (ai (ac U (ac (ao (cr U U (by decide))) U)) e3) (ac (ai (ac U (ac U U)) e4) U);simp only[tJ,x,qaa];rfl
 exact aj (ak (ai U e1)) (aj (FN (ai (ac U (ac U U)) e2) U) (aj p5 (aj (ak (aF (ac (ao (cr U U (by show 2<=1000;decide))) U) hx)) (aj (ak (ai U f1)) (aj (bT (dD (eU (jl (ai U sh))) (ay (aF (ac (ao (cr U U (by show 2<=1000;decide))) U) J) U nt)) U) (bT (ay (ai U f2) U (Cs (fs:=fs) (b:=b) (ts:=ts) (m:=m) (p:=p) (X:=X) (w:=w))) U))))))
theorem ze (st:Sto):∃ u A,dB [.d (.tup [.int 1]),.d (.str (aE false)),.d (tsD [])] st=some (.d (.tup [.tup [.int 0,.int 1],.non,A]),st++u):=by
 have Sp:Spl [.int 1] []:=⟨by decide,λd hd=>by rw[qal.mp hd];exact .inr (.inr U),by decide,(λt L=>nomatch L),qcS⟩
 obtain⟨m,p,X,w,R,hw⟩:=lu (b:=false) Sp (by decide);obtain⟨u,e⟩:=hw st;have m0:=qcx λq=>by
  obtain⟨_,l,_,_,l0,_,_,_,Q,_⟩:=R.po q
  have:l<=0:=Q 0 (by decide)
  lia
 subst m0;have p1:=R.p1;refine⟨u,.tup (mpI 1 w),?_⟩;rw[e];unfold wdD;rw[show qbs (0:Int).natAbs p.natAbs=p.natAbs from qhY _,show ((p.natAbs))=p by lia,qfn,qiY (by lia)];rfl
theorem yz (st:Sto):∃ u B A,dB [.d (.tup [.int 0]),.d (.str (aE true)),.d (tsD [[]])] st=some (.d (.tup [.tup [.int 1,.int 1],B,A]),st++u):=by
 have Sp:Spl [.int 0] [[]]:=⟨by decide,λd hd=>by rw[qal.mp hd];exact .inr (.inl U),by decide,λt L=>by rw[qal.mp L];exact⟨(λk hk=>nomatch hk),by decide⟩,by simp⟩
 obtain⟨m,p,X,w,R,hw⟩:=lu (b:=true) Sp (by decide);obtain⟨u,e⟩:=hw st;have p1:=R.p1;have c:=(R.wc 0 (by decide)).2;have W:(sumN (nR [.int 0]) λi=>w (rN [.int 0] i))=w 0:=by
  show 0+w 0=w 0;lia
 have V:(sumN (nR [.int 0]) λi=>spV [.int 0] true [[]] i 0*w (rN [.int 0] i))=- w 0:=by
  show 0+spV [.int 0] true [[]] 0 0*w 0=- w 0;rw[show spV [.int 0] true [[]] 0 0=-1 from U];lia
 have wp:=R.wp;rw[V,W,qka]at c;rw[W]at wp;have mp:=qdh (by rw[qa6 m]at c;exact c) wp;obtain⟨q,l,s,q0,l0,s0,em,ep,Q,⟨i,hi,he⟩,H,_⟩:=R.po (by lia);have i0:i=0:=by have:i<1:=hi;lia
 have r1:rvW [.int 0] true [[]] X 0=- X []:=by
  show 0+X []*spV [.int 0] true [[]] 0 0=- X [];rw[show spV [.int 0] true [[]] 0 0=-1 from U];lia
 have r2:(sumN [([]:List Int)].length λt=>((X ([([])].getD t [])).natAbs))=((X []).natAbs):=by
  show 0+((X []).natAbs:Int)=_;lia
 have:l=s:=by lia
 subst this
 have:m=p:=by rw[em,ep]
 subst this;refine⟨u,bS (aE true) (aQ (ar [[]]) X),.tup (mpI 1 w),?_⟩;rw[e];unfold wdD;rw[iFN (by lia),Nat.gcd_self,show ((m.natAbs))=m by lia,qiY (by lia)];rfl
theorem zx (ns:List Int) (hl:ns.length<=63):∃ st,uf [.d (.scr ns)] []=some (.d (.bl true),st):=by
 obtain⟨z,hz,z0,z1⟩:∃ z:Int,iCB dMx (aa (iC (.int 1)) (aa (iCB Dh (aa (iC (.int 3)) (aa (iCB aY (aa (iV 0) ae)) ae))) ae)) [Z (.scr ns),none,none,none,none,none,none,none,none] []=some (.d _,[])/\0<=z/\z<=3:=by
  refine⟨_,aF (ac U (ac (aF (ac U (ac (aF (ac U U) U) U)) U) U)) U,?_,?_⟩
  ·split<;>split<;>lia
  ·split<;>split<;>lia
 obtain⟨env',E,e2,F,N,M,S,I,O,G,b9,rfl⟩:=bH (g:=.nm 1) (λi env s=>∃ b1 F N M S I O G,env=[Z (.scr ns),b1,F,N,M,S,I,O,G])
  ⟨_,_,_,_,_,_,_,_,U⟩ (λi d env s hd ⟨b1,F,N,M,S,I,O,G,e⟩=>by
   subst e;obtain⟨rfl,hi⟩:=fF hd;obtain⟨c2,c3,c4,c5,c6,c7,c8,s',e⟩:=Cq
   exact⟨_,_,_,U,.inl e,_,_,_,_,_,_,_,_,U⟩)
 obtain⟨v,A,f1⟩:=ze E;obtain⟨u2,B,C,f2⟩:=yz (E++v);have sl:dSl (E++v) (.d (.tup [.tup [.int 0,.int 1],.non,A])) none (some 2)=some (.tup [.tup [.int 0,.int 1],.non]):=by
  show some (D.tup (ik [.tup [.int 0,.int 1],.non,A] none (some (_))))=_;rfl
 exact⟨_,(kA (n:=9) (k:=1) (b:=CB) (ws:=[.d (.scr ns)]) (st:=[]) (x:=.bl true) (s:=E++v++u2) U (aj (bz (gO hz z0 (by lia) U) e2) (aD (xq (ag (qsl (ai (ac (bh (ds:=[.int 1]) U U (by decide)) (ac U (ac (bh (ds:=[]) U U (by decide)) U))) f1) U U sl) U U) (ag (ag (ai (ac (bh U U (by decide)) (ac U (ac (bh U U (by decide)) U))) f2) U U) U U)))))⟩
end Own
end
namespace Own
open PySem L2
theorem Bq {b:List Value}{n:Nat} (h:b.length=n+1):∃ a r,b=a::r/\r.length=n:=by
 cases b with
 |nil=>cases h
 |cons a r=>exact⟨a,r,U,Nat.succ.inj h⟩
theorem Fq {b:List Value} (h:b.length=1):∃ a0,b=[a0]:=by
 obtain⟨a,r,rfl,g⟩:=Bq h;exact⟨a,by rw[List.length_eq_zero_iff.1 g]⟩
theorem Fs {c:List Value} (h:c.length=2):∃ a0 a,c=[a0,a]:=by
 obtain⟨b,r,rfl,g⟩:=Bq h;obtain⟨a,rfl⟩:=Fq g;exact⟨b,a,U⟩
theorem Ft {c:List Value} (h:c.length=3):∃ a0 a a2,c=[a0,a,a2]:=by
 obtain⟨b,r,rfl,g⟩:=Bq h;obtain⟨a,a2,rfl⟩:=Fs g;exact⟨b,a,a2,U⟩
theorem Fu {d:List Value} (h:d.length=4):∃ a0 a a2 c,d=[a0,a,a2,c]:=by
 obtain⟨b,r,rfl,g⟩:=Bq h;obtain⟨a,a2,c,rfl⟩:=Ft g;exact⟨b,a,a2,c,U⟩
theorem bnd {K:qae}:∀ p∈tbl,∀ f g,Fun K p.1 p.1 (top p.2.1) f g->dn K g (p.2.2.1.take p.2.2.2) []:=by
 iterate 50 refine qc6.2 ⟨λf g F=>F.binds λ_ _ _ _ _ _ b a=>(by first|(obtain⟨_,rfl⟩:=Fq a;rfl)|(obtain⟨_,_,rfl⟩:=Fs a;rfl)|(obtain⟨_,_,_,rfl⟩:=Ft a;rfl)|(obtain⟨_,_,_,_,rfl⟩:=Fu a;rfl)),?_⟩
 exact λ_ h=>nomatch h
theorem fa_mk {K:qae}{x:Str}{i k:Nat}{N:List Str}{f:Addr}{g:qca} (a:qep K qcg x=some (some (.ref f))) (b:Fun K x x (top i) f g):∃ f g,qep K qcg (rT x i N k).1=some (some (.ref f))/\Fun K (rT x i N k).1 (rT x i N k).1 (top (rT x i N k).2.1) f g:=⟨f,g,a,b⟩
theorem txt_mk {K:qae}{h:Heap}{mg:Str->Option Value} (X:K.In h) (G:h.Ns qcg mg) (F:∀ p∈tbl,∃ f g,qep K qcg p.1=some (some (.ref f))/\Fun K p.1 p.1 (top p.2.1) f g)
  (z:∀ x∈(["abs","all","bool","enumerate","int","isinstance","len","list","max","min","range","repr","sorted","str","sum","tuple","zip"]:List Str),qep K qcg x=some none)
  {a c:Addr}{e:qca} (c1:qep K qcg "Table" = some (some (.ref a))) (c2:qcp K (.ref a) "__init__" = some (some (.ref c))) (c3:Fun K "__init__" "Table.__init__" cu c e)
  (m0:qfx K a=true) (m2:qh3 K (.ref c)=true) (m3:qcO K (.ref a)=true) (d0:qef K a Str.empty=true) (d1:qdZ K a=true) (d2:qfa K a=true) (d3:qcp K (.ref a) "__setattr__" = some (some (.builtin "object.__setattr__")))
  (na:∀ p∈ck,qcp K (.ref a) p.1=some none)
  : Txt K mg:=
 ⟨λp d=>let ⟨f,g,a,b⟩:=F p d;⟨f,g,b,qhS X G a,bnd p d f g b⟩,λx h=>PySem.W.mg_none_of X G (z x h),a,c,e,qhS X G c1,c3,c3.binds λ_ _ _ _ _ _ j i=>(by obtain⟨_,_,_,_,rfl⟩:=Fu i;rfl),⟨m0,c2,m2,m3⟩,⟨d0,d1,d2,d3⟩,na⟩
theorem walk {l:qfy}{q:qaM}{b:List Str}{XP:(Str->Option Value)->Heap->Prop}{YP:World->Heap->Prop}{d:DefRec}{K:Params->qae} (hn:l.most=some 63) (c:d.params.defaults=[])
  (g:∀ (w:World) (h:Heap),YP w h->(K w.params).In h)
  (F:∀ (w:World) (mg:Str->Option Value) (e:Addr) (h:Heap),(K w.params).In h->h.Ns qcg mg->mg d.name=some (.ref e)->
    ∃ fd:qca,(∀ (s:qai) (u:Value),qhy s fd ⟨[u],[]⟩ [("_law_script",u)])/\∀ base:Heap,(K w.params).In base->base.Ns qcg mg->dR l.prog w (K w.params) mg base CX0 7 e fd ["_law_script"] (spI (K w.params) uf)) :
  qhT q b XP YP l.row.toRowW d [] (λf i=>qhu f i):=
 L2.walk_of (n:=63) (k:=7) (x:="_law_script") (CX:=λ_=>CX0) (sp:=λw=>spI (K w.params) uf) hn (by decide) c ⟨U,by decide,by decide,U⟩ g F (λ_ _ a ns m j o=>Cd j o (zx ns m)) λ_ _ _ _ _ z=>z
theorem law_mk {l:qfy}{w:World}{K:qae}{h:Heap}{mg:Str->Option Value}{b:Addr} (a:mg "law" = some (.ref b)) (T:Txt K mg) :
  ∃ fd:qca,(∀ (s:qai) (v:Value),qhy s fd ⟨[v],[]⟩ [("_law_script",v)])/\∀ base:Heap,K.In base->base.Ns qcg mg->dR l.prog w K mg base CX0 7 b fd ["_law_script"] (spI K uf):=by
 obtain⟨f,g,F,m,_⟩:=T.F (rT "law" 60 ["_law_script","_law_k","_law_hand_here","_law_n","_law_f","_law_kind","_law_terms","_law_text","_law_found"] 1) (by decide +kernel)
 have e:=a.symm.trans m;cases e
 refine⟨g,λs v=>?_,λbase _ _=>by
  have q:=GE (P:=l.prog) (w:=w) (base:=base) T
  iterate 1 replace q:=q.2
  exact q _ _ F⟩
 obtain⟨j,o,kV,i,n,k,c,ct,d,e,_⟩:=F.ex;rw[e];exact .of_eq U
end Own
namespace PySem.W.Fast
theorem tw13261400231188304077:True:=⟨⟩
theorem tw2025989857192805159:True:=⟨⟩
theorem tw15633033512275824254:True:=⟨⟩
theorem tw5454525560501345345:True:=⟨⟩
theorem tw5233720216409551265:True:=⟨⟩
theorem tw11965298953939397312:True:=⟨⟩
theorem tw135605599847094038:True:=⟨⟩
theorem tw7828434712187223810:True:=⟨⟩
theorem tw15530489668366370718:True:=⟨⟩
theorem tw373694702302386151:True:=⟨⟩
theorem tw8476295386308828595:True:=⟨⟩
theorem tw14787238963225883315:True:=⟨⟩
theorem tw4337406991276941183:True:=⟨⟩
theorem tw3316224823878466276:True:=⟨⟩
theorem tw5708266057183744923:True:=⟨⟩
theorem tw10440487686538756599:True:=⟨⟩
theorem tw1303626655595369034:True:=⟨⟩
theorem tw17309247808664137367:True:=⟨⟩
theorem tw10561144320551805096:True:=⟨⟩
theorem tw2010089725480792582:True:=⟨⟩
theorem tw13844089843263870520:True:=⟨⟩
theorem tw16653309879127187081:True:=⟨⟩
theorem tw12648859697905128957:True:=⟨⟩
theorem tw8081189381459632516:True:=⟨⟩
theorem tw17887100058135291994:True:=⟨⟩
theorem tw1579578538105393289:True:=⟨⟩
theorem tw3319123829935023946:True:=⟨⟩
theorem tw14444358945430933113:True:=⟨⟩
theorem tw12753274187698524045:True:=⟨⟩
theorem tw1081078954186710662:True:=⟨⟩
theorem tw2959938070708507072:True:=⟨⟩
theorem tw12256348781962792783:True:=⟨⟩
theorem tw18301444582016813214:True:=⟨⟩
theorem tw5818696377759519080:True:=⟨⟩
theorem tw18445384316053500368:True:=⟨⟩
theorem tw4419085946642095460:True:=⟨⟩
theorem tw3307384846908725702:True:=⟨⟩
theorem tw7918427320430122552:True:=⟨⟩
theorem tw16516753322814069562:True:=⟨⟩
theorem tw16023438151233747938:True:=⟨⟩
theorem tw18061647055032335717:True:=⟨⟩
theorem tw11625180764956447895:True:=⟨⟩
theorem tw4482999685049409614:True:=⟨⟩
theorem tw15139259831593605678:True:=⟨⟩
theorem tw4550749196513899809:True:=⟨⟩
theorem tw14791729347951387378:True:=⟨⟩
theorem tw17171000670499486787:True:=⟨⟩
theorem tw3744666102462302350:True:=⟨⟩
theorem tw15046867272014585638:True:=⟨⟩
theorem tw7898125513890689294:True:=⟨⟩
theorem tw5307594290591346698:True:=⟨⟩
theorem tw8540049390813476483:True:=⟨⟩
theorem tw1086859132197517874:True:=⟨⟩
theorem tw15505028923300882970:True:=⟨⟩
theorem tw18252928385846206886:True:=⟨⟩
theorem tw11391092791072252589:True:=⟨⟩
theorem tw3572393451674895997:True:=⟨⟩
theorem tw16027490466906867160:True:=⟨⟩
theorem tw4183361025193260622:True:=⟨⟩
theorem tw15455357650890915036:True:=⟨⟩
theorem tw10267288630389457162:True:=⟨⟩
theorem tw5637718555079540531:True:=⟨⟩
theorem tw14476881050820809164:True:=⟨⟩
theorem tw1266163787204082651:True:=⟨⟩
theorem tw4783126602046339229:True:=⟨⟩
theorem tw2690740150573479211:True:=⟨⟩
theorem tw4363083406079044079:True:=⟨⟩
theorem tw5237651769069791365:True:=⟨⟩
theorem tw4885720958081668126:True:=⟨⟩
theorem tw16072496788448313717:True:=⟨⟩
theorem tw6863737839835105277:True:=⟨⟩
theorem tw11753677190318723655:True:=⟨⟩
theorem tw2652086513936333327:True:=⟨⟩
theorem tw8326357436647807555:True:=⟨⟩
theorem tw12475969449700086975:True:=⟨⟩
theorem tw1307771516643785210:True:=⟨⟩
theorem tw5375542833140234005:True:=⟨⟩
theorem tw565018162593017716:True:=⟨⟩
theorem tw10756938136261568048:True:=⟨⟩
theorem tw17677031047590729147:True:=⟨⟩
theorem tw10214697073233384111:True:=⟨⟩
theorem tw16415671639369608420:True:=⟨⟩
theorem tw13448996506730555697:True:=⟨⟩
theorem tw18147808014502186029:True:=⟨⟩
theorem tw14323258330132567296:True:=⟨⟩
theorem tw5830452541941720182:True:=⟨⟩
theorem tw183755814437407609:True:=⟨⟩
theorem tw1822022825423702824:True:=⟨⟩
theorem tw8356360626093817887:True:=⟨⟩
theorem tw15976619621261233622:True:=⟨⟩
theorem tw1794156533921452077:True:=⟨⟩
theorem tw10300548889421744419:True:=⟨⟩
theorem tw15732947727835534246:True:=⟨⟩
theorem tw7031509470224175037:True:=⟨⟩
theorem tw3988964856840542784:True:=⟨⟩
theorem tw8837177738357831428:True:=⟨⟩
theorem tw2107569484701347913:True:=⟨⟩
theorem tw9189582058687901803:True:=⟨⟩
theorem tw3390450062519738046:True:=⟨⟩
theorem tw2840811318721021096:True:=⟨⟩
theorem tw8435576991398819599:True:=⟨⟩
theorem tw15373502150933754115:True:=⟨⟩
theorem tw16022983575309579598:True:=⟨⟩
theorem tw2008611855568731884:True:=⟨⟩
theorem tw13208535986163770538:True:=⟨⟩
theorem tw10047052625994808913:True:=⟨⟩
theorem tw2034268234701801059:True:=⟨⟩
theorem tw6873638383589617693:True:=⟨⟩
theorem tw9085604748997117388:True:=⟨⟩
theorem tw2556985961933063900:True:=⟨⟩
theorem tw10813539802792345636:True:=⟨⟩
theorem tw9400018596117172571:True:=⟨⟩
theorem tw12948170643683701152:True:=⟨⟩
theorem tw8107633126625417276:True:=⟨⟩
theorem tw17619690016883896302:True:=⟨⟩
theorem tw15883884735067799894:True:=⟨⟩
theorem tw1550533666722627271:True:=⟨⟩
theorem tw10996782467045553497:True:=⟨⟩
theorem tw13631494579843285721:True:=⟨⟩
theorem tw12804480020605219375:True:=⟨⟩
theorem tw789367095282920334:True:=⟨⟩
theorem tw6826927165347944922:True:=⟨⟩
theorem tw18329930656927813342:True:=⟨⟩
theorem tw16010789033531122714:True:=⟨⟩
theorem tw7364594706361683375:True:=⟨⟩
theorem tw8022928921870879267:True:=⟨⟩
theorem tw15582081769039636169:True:=⟨⟩
theorem tw12270942801425106174:True:=⟨⟩
theorem tw10318056425976291482:True:=⟨⟩
theorem tw13491405480327674631:True:=⟨⟩
theorem tw15788816621880233225:True:=⟨⟩
theorem tw4718225285772332344:True:=⟨⟩
theorem tw12658792367864443600:True:=⟨⟩
theorem tw1636038796538345785:True:=⟨⟩
theorem tw16101500375512806646:True:=⟨⟩
theorem tw8735749935464749292:True:=⟨⟩
theorem tw13600027160424318005:True:=⟨⟩
theorem tw13756681386246811849:True:=⟨⟩
theorem tw3207753815148991523:True:=⟨⟩
theorem tw4435537715588964445:True:=⟨⟩
theorem tw11808494636651773477:True:=⟨⟩
theorem tw11843300853524095540:True:=⟨⟩
theorem tw15710332293629563543:True:=⟨⟩
theorem tw12481707421396351403:True:=⟨⟩
theorem tw8755624880744303479:True:=⟨⟩
theorem tw9070892111269485002:True:=⟨⟩
theorem tw1251011014024159311:True:=⟨⟩
theorem tw776671918863961021:True:=⟨⟩
theorem tw2255815782635127424:True:=⟨⟩
theorem tw2409742369501208625:True:=⟨⟩
theorem tw10961896669071952118:True:=⟨⟩
theorem tw12584220777504434435:True:=⟨⟩
theorem tw13608770038455220931:True:=⟨⟩
theorem tw9502646753830921213:True:=⟨⟩
theorem tw4599826319326128333:True:=⟨⟩
theorem tw5542160271983952679:True:=⟨⟩
theorem tw15372796696650210471:True:=⟨⟩
theorem tw524883914128431497:True:=⟨⟩
theorem tw8218524172576269481:True:=⟨⟩
theorem tw11293730477026361092:True:=⟨⟩
theorem tw16841621970322277600:True:=⟨⟩
theorem tw12617029535800698899:True:=⟨⟩
theorem tw7370695833826900249:True:=⟨⟩
theorem tw15065595038075495043:True:=⟨⟩
theorem tw12995837994318307529:True:=⟨⟩
theorem tw12159684592262461894:True:=⟨⟩
theorem tw10358742822123133997:True:=⟨⟩
theorem tw17055427206173966147:True:=⟨⟩
theorem tw12247630657209997005:True:=⟨⟩
theorem tw514677076883304131:True:=⟨⟩
theorem tw2668210721022434130:True:=⟨⟩
theorem tw12763666304957308768:True:=⟨⟩
theorem tw8738039738874780850:True:=⟨⟩
theorem tw2786844641430107436:True:=⟨⟩
theorem tw2333026377654734864:True:=⟨⟩
theorem tw9314657100270044311:True:=⟨⟩
theorem tw13320665768256777672:True:=⟨⟩
theorem tw13671737409371223210:True:=⟨⟩
theorem tw4507907320787438404:True:=⟨⟩
theorem tw4907289652543363171:True:=⟨⟩
theorem tw1947148602822275103:True:=⟨⟩
theorem tw11743651986695358860:True:=⟨⟩
theorem tw1162681058133914401:True:=⟨⟩
theorem tw11066686483420801711:True:=⟨⟩
theorem tw15963524804805794118:True:=⟨⟩
theorem tw6148053974951259246:True:=⟨⟩
theorem tw3371901593821797893:True:=⟨⟩
theorem tw5101281108818478359:True:=⟨⟩
theorem tw14410459708310284061:True:=⟨⟩
theorem tw18135611274666199426:True:=⟨⟩
theorem tw16645432065870506585:True:=⟨⟩
theorem tw17644797306807640814:True:=⟨⟩
theorem tw1878146350677853251:True:=⟨⟩
theorem tw1748902066225690919:True:=⟨⟩
theorem tw1604955728180158001:True:=⟨⟩
theorem tw574789254142205497:True:=⟨⟩
theorem tw4569115914577234453:True:=⟨⟩
theorem tw14167060397149030532:True:=⟨⟩
theorem tw7414821242384905225:True:=⟨⟩
theorem tw136026116128963683:True:=⟨⟩
theorem tw8890540348730799842:True:=⟨⟩
theorem tw13032776957574179857:True:=⟨⟩
theorem tw3397155357634460105:True:=⟨⟩
theorem tw6891153686569583985:True:=⟨⟩
theorem tw10907220909599987380:True:=⟨⟩
theorem tw13448099922554424406:True:=⟨⟩
theorem tw6600132087895711996:True:=⟨⟩
theorem tw12668652216973655795:True:=⟨⟩
theorem tw8007416511344709802:True:=⟨⟩
theorem tw15947677211075569714:True:=⟨⟩
theorem tw14854879082314258191:True:=⟨⟩
end PySem.W.Fast
open PySem PySem.W PyProof.Rows
set_option maxRecDepth 100000 in
set_option maxHeartbeats 0 in
theorem PySem.Challenge.cw_signpoly_k44_widest_margins_holds : PySem.Challenge.rw_signpoly_k44_widest_margins.Holds := by
 w_on;o_law;k_head;(case hw=>w_witness2)
 k_fill
 refine Own.walk (l:=PySem.Challenge.rw_signpoly_k44_widest_margins) rfl rfl (λw h Y=>PySem.W.kIn_of Y) ?F
 case F=>
  intro w mg d h KX G a;refine Own.law_mk (h:=h) a ?T
  case T=>
   refine' Own.txt_mk KX G ?F ?z ?c1 ?c2 ?c3 ?m0 ?m2 ?m3 ?d0 ?d1 ?d2 ?d3 ?na
   case F=>(iterate 50 (refine' qc6.2 ⟨Own.fa_mk ?e ?b,?_⟩;(case e=>k_is);(case b=>(refine' L2.fun_mk ?l ?c ?k;(case l=>k_is);(case c=>k_is);case k=>k_is))));intro _ h;cases h
   case z=>(iterate 17 (refine qc6.2 ⟨by k_is,?_⟩));intro _ h;cases h
   case c1=>k_is
   case c2=>k_is
   case c3=>refine' L2.fun_mk ?l ?c ?k;(case l=>k_is);(case c=>k_is);case k=>k_is
   case m0=>kernel_rfl
   case m2=>kernel_rfl
   case m3=>kernel_rfl
   case d0=>kernel_rfl
   case d1=>kernel_rfl
   case d2=>kernel_rfl
   case d3=>kernel_rfl
   case na=>(iterate 6 (refine qc6.2 ⟨by kernel_rfl,?_⟩));intro _ h;cases h
