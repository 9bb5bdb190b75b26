import PyProof.Rows.All
import Wide.All
import OpenK.AllK
import Wide.FinOn
import Lean
import PyProof.EqAt
import PyProof.EqKinds
import PyProof.TupleCall
import PyProof.ListRange
import PyProof.NeKinds
import KE.KUnpack
import KE.KSortTup
import PyProof.ZipIter
import PyProof.Rows.CallKwBuiltin
import KE.KFind
import KE.KDictLaws
import KE.KDictList
import PyProof.SetKind
import PyProof.SetRoads
import PyProof.Rows.SetFrom
import PyProof.WalksMore
import PyProof.Rows.SortStr
import KE.KTupSum
import PySem.Challenge.RW_signpoly_k39_weak_degrees_told
set_option Elab.async false
set_option linter.all false
set_option maxRecDepth 100000
set_option genSizeOf false
noncomputable section
open And renaming right -> qgc, left -> qgM
open Array renaming getElem?_eq_getElem -> qbz, length_toList -> qcC, getElem?_eq_none -> qdx, getElem_toList -> qdQ, getElem?_toList -> qeD, perm_iff_toList_perm -> qfZ, toList -> qgL
open Bool renaming false_ne_true -> qaE, and_eq_true -> qbi, false_eq_true -> qbm, not_eq_true -> qew, eq_iff_iff -> qeI, or_eq_true -> qhY, and_true -> qiq, and_self -> qir, true_or -> qiP
open Decidable renaming byContradiction -> qcp
open False renaming elim -> qcz
open Int renaming mul_left_comm -> qaW, mul_comm -> qaZ, mul_zero -> qbc, toNat_natCast -> qbe, mul_right_comm -> qbq, mul_assoc -> qbr, zero_mul -> qbD, zero_add -> qbW, le_refl -> qb5, mul_eq_zero -> qcn, mul_add -> qcr, one_mul -> qcJ, mul_sub -> qcK, eq_ofNat_of_zero_le -> qcL, ofNat_dvd_left -> qcV, mul_one -> qc3, natAbs_mul -> qdi, neg_mul -> qdK, mul_le_mul_of_nonneg_left -> qdS, mul_ediv_cancel' -> qdT, mul_lt_mul_of_pos_right -> qd0, ediv_nonneg -> qd1, lt_of_mul_lt_mul_right -> qd7, fdiv_eq_ediv_of_nonneg -> qd8, lt_or_eq_of_le -> qeb, le_trans -> qec, add_zero -> qed, mul_nonneg -> qeh, eq_of_mul_eq_mul_left -> qei, add_mul -> qev, emod_nonneg -> qeT, emod_lt_of_pos -> qfl, mul_le_mul_of_nonneg_right -> qfG, sub_mul -> qf7, mul_neg -> qf8, eq_of_mul_eq_mul_right -> qgk, mul_neg_of_pos_of_neg -> qgq, mul_ediv_cancel_left -> qgw, reduceNeg -> qgJ, lt_irrefl -> qgK, sub_zero -> qg1, natAbs_neg -> qik, le_of_lt -> qjD, mul_pos -> qjU
open List renaming mem_cons_self -> qag, length_map -> qah, mem_cons_of_mem -> qai, range -> qak, mem_singleton -> qal, getElem?_eq_getElem -> qam, length_cons -> qaq, getElem?_eq_some_iff -> qar, length_range -> qat, mem_append_right -> qau, map_cons -> qaw, replicate -> qay, mem_cons -> qaz, getD_eq_getElem?_getD -> qaA, length_append -> qaB, getElem?_map -> qaC, mem_map -> qaD, getElem?_eq_none -> qaF, getElem?_append_left -> qaG, size_toArray -> qaH, getElem?_append_right -> qaI, mem_append -> qaO, map_map -> qaP, mem_range -> qaR, mem_append_left -> qaX, all_eq_true -> qbb, append_nil -> qbf, getElem?_range -> qbh, pairwise_cons -> qbl, map_append -> qbp, getElem?_set_self -> qbs, mem_of_getElem? -> qbt, getD_cons_zero -> qbv, all_cons -> qbw, lookup_cons -> qbx, ext_getElem? -> qbA, append_assoc -> qbB, getElem?_set_ne -> qbC, mem_filter -> qbN, getElem?_eq_none_iff -> qbO, not_mem_nil -> qbP, getElem_mem -> qbQ, getD_cons_succ -> qbR, length_singleton -> qbT, length_take -> qb0, take_of_length_le -> qb3, length_set -> qb7, length_nil -> qb8, length_filter_le -> qb9, any_cons -> qcj, nodup_cons -> qcl, map_congr_left -> qcm, sum_cons -> qcq, mem_iff_getElem -> qcy, nodup_append -> qcB, filter_cons_of_pos -> qcE, filter_cons_of_neg -> qcF, take_length -> qcM, take_left -> qcN, length_replicate -> qcZ, forall_mem_cons -> qc6, nodup_nil -> qdb, drop_eq_getElem_cons -> qdc, replicate_succ -> qdk, zip_cons_cons -> qdq, getElem?_replicate -> qdr, find?_cons -> qds, range_succ_eq_map -> qdA, pairwise_map -> qdC, mapM_toArray -> qdD, getElem_inj -> qdO, cons_append -> qdP, replicate_zero -> qdV, range_succ -> qdW, nil_append -> qdX, mem_map_of_mem -> qdY, lookup -> qdZ, filter_append -> qd6, take_add_one -> qel, getElem?_take_of_lt -> qem, length_drop -> qes, filter_cons -> qet, any_eq_true -> qeu, find?_cons_of_pos -> qey, find?_cons_of_neg -> qez, map_nil -> qeG, range' -> qeZ, length -> qe0, filter_sublist -> qe1, filterMap_cons -> qe2, mem_filterMap -> qfh, flatten_cons -> qfr, filter_congr -> qfs, any_eq_false -> qft, sublist_nil -> qfD, all_toArray -> qfE, of_mem_zip -> qfU, getD -> qfV, forIn_cons -> qfW, filter_map -> qfX, pairwise_iff_getElem -> qgh, drop_zero -> qgi, pairwise_singleton -> qgt, idxOf?_eq_some_iff -> qgu, filter_eq_nil_iff -> qgH, drop_eq_nil_of_le -> qgI, all_map -> qgR, replicate_succ' -> qgZ, range_eq_range' -> qg0, map_id -> qg8, flatten_append -> qg9, filter_eq_self -> qha, set_cons_zero -> qhq, set_cons_succ -> qhr, mem_replicate -> qhs, map -> qht, getElem_range -> qhu, push_toArray -> qhA, all_eq_false -> qhB, Nodup -> qhC, zipIdx_cons -> qhP, isEmpty_iff -> qhQ, getElem_map -> qhR, drop_length -> qhS, zipIdx_nil -> qhW, filter_nil -> qhX, forIn_nil -> qh5, drop_drop -> qh6, foldl -> qjT, drop -> qk8
open List.Pairwise renaming sublist -> qiG, map -> qiH
open List.Perm renaming refl -> qdt, eq_of_pairwise -> qfF
open List.Sublist renaming refl -> qdl
open Nat renaming le_refl -> qap, ne_of_lt -> qax, add_sub_cancel_left -> qaJ, lt_of_lt_of_le -> qaS, le_trans -> qaV, lt_succ_of_lt -> qa2, lt_irrefl -> qbd, zero_add -> qbj, pow_le_pow_right -> qbk, lt_of_le_of_lt -> qbF, lt_succ_self -> qb1, ne_of_gt -> qck, mul_le_mul_right -> qcA, zero_le -> qcI, add_sub_cancel -> qcT, not_lt_zero -> qc1, le_succ -> qc2, mul_le_mul -> qdh, le_add_right -> qdj, le_of_eq -> qdN, succ_ne_self -> qex, two_pow_pos -> qeN, sub_self -> qeO, min_eq_left -> qeP, lt_trans -> qeQ, le_of_lt -> qeR, add_comm -> qeS, reduceSub -> qfk, lt_or_ge -> qfC, min_eq_right -> qfQ, pow_pos -> qf5, gcd -> qf6, reduceAdd -> qgG, testBit_lt_two_pow -> qgQ, sub_zero -> qgX, mul_comm -> qgY, pow_lt_pow_right -> qg7, pow_add -> qhp, not_lt -> qhO, mod_eq_of_lt -> qhV, dvd_trans -> qiF, min_self -> qjA, gcd_comm -> qjB, add_zero -> qjC, pow_mul -> qjQ, one_mul -> qjR, add_mul -> qjS
open Ne renaming symm -> qbo
open Option renaming bind_some -> qaa, bind_eq_some_iff -> qac, map_eq_some_iff -> qad, map_some -> qao, isSome_iff_exists -> qcv, getD_none -> qho
open Option.some renaming inj -> qaN, injEq -> qeM
open Prod renaming fst -> qdg, snd -> qfP
open PyProof.Rows renaming boot_isinstance -> qaK, boot_list -> qaM, boot_sorted -> qaT, boot_tuple -> qaY, boot_bool -> qa0, boot_sum -> qa3, boot_str -> qa4, boot_min -> qa5, boot_max -> qa6, boot_int -> qa7, boot_any -> qa8, boot_all -> qa9, boot_abs -> qba, wpS_bind -> qby, slot_tuple_getitem -> qbH, SortSt -> qbZ, IntsAre -> qb4, wpS_pure -> qcf, callWith_type1 -> qcg, SortKind -> qdo, lt_int -> qdB, wpS_forRange -> qep, envOfC -> qeB, pendingOf -> qe7, boot_range -> qfq, KeyOrd -> qfu, AllBare -> qfB, seqObj -> qfK, assignInOrder_cons -> qfM, wpS_modify -> qg2, wpS_get -> qhe, listUpdate_at -> qhj, failedOf -> qhk, subscriptTail_builtinR -> qhw, seqEpoch_at -> qh0, keyKind'_eq -> qh1, getElem?_mirror_all -> qh2, entry_tuple_getitem -> qh3, wpS_mono -> qia, oneType' -> qic, keyKind' -> qid, gallopOf -> qie, args_tuple_getitem -> qig, size_push' -> qix, assignInOrder_nil -> qiy, Subscript_ -> qiB, truthy_int -> qjw, gt_int -> qjx, envOfC -> qjy, callWith_builtin1 -> qjz, sortedAll -> qjH, oneTypeOnly'_eq -> qjK, mirror -> qjL, getElem?_bubble -> qjN, entry_list_sort -> qjO, slot_list_sort -> qjY, slicePart_none -> qjZ, boot_enumerate -> qj4, args_list_sort -> qj5
open PyProof.Rows.KeyOrd renaming kle_refl -> qcU, kle_of_klt -> qdw, kle_trans -> qdL, kle_antisymm -> qgS
open PyProof.Rows.SortSt renaming mk' -> qiC
open PySem renaming wpAny_bind -> qab, Shared -> qaj, wpAny_pure -> qan, sizeLine -> qaL, Program -> qaQ, Around -> qa1, boot_len -> qbg, mem_of_lookup -> qbu, starEach -> qbE, Spec -> qbG, binaryOp -> qbI, wpAny_seqItems -> qbJ, wpAny_callSpecial?_slot -> qbK, compareOp -> qbM, wpAny_holding -> qbU, wpAny_call_entry -> qbV, foldedSetIterable -> qbX, assignEach -> qbY, NameKind -> qb2, FuncData -> qb6, wpAny_truthy_bool -> qcb, wpAny_newObj_type -> qcc, wpAny_field -> qcd, mainGlobals -> qce, bootBuiltins -> qch, wpAny_tryCatch -> qco, wpAny_mono -> qct, sysModules -> qcu, swapsWith -> qcw, cellsFrom -> qcx, codeAny_builtin -> qcH, wpAny_letGo -> qcP, wpAny_typeNameOfWhole_keyiter -> qcW, call_meets -> qcY, wpAny_pyNext_list_item -> qc0, wpAny_setField_rec -> qc4, wpAny_pyIter_tuple -> qc5, wpAny_pyNext_list_end -> qc7, wpAny_passesOwn -> qc8, pushCells_keeps -> qc9, IntMulOk -> qda, plainId_quiet -> qde, attributeBase -> qdf, sizeLine_eq -> qdu, wpAny_rule -> qdv, wpAny_updateSeq -> qdG, swapsWithSole -> qdH, swappedStores -> qdI, codeAny -> qdJ, wpAny_pyIter_list -> qdR, sliceBounds -> qee, DictEntry -> qej, wpAny_Call_Name_kw -> qeq, wpAny_pyIter_enum -> qeA, wpAny_standAt -> qeJ, wpAny_attempt -> qeK, wpAny_ite_false -> qe4, wpAny_execs_nil -> qe5, pushCells -> qe6, getItem -> qe8, backTo -> qe9, Builtin -> qfe, wpAny_updateSeq_pair -> qfi, list_append -> qfj, wpAny_setField -> qfp, wpAny_onRaise -> qfI, wpAny_newList -> qfJ, behindInMarks -> qfL, wpAny_dictEntries -> qf0, typeIs_int -> qf1, holding -> qf2, codeAny_mono -> qgd, assign -> qge, Paired -> qgg, IsPart -> qgj, noFill_tuple_add -> qgm, IntMulOk -> qgv, wpAny_dictEpoch -> qgy, tupleKind -> qgz, subscripted -> qgA, rawInt -> qgB, letOwnedTupleGo -> qgC, keywordEach -> qgD, Within -> qgF, intBits_le_iff -> qgN, wpAny_binaryOp_repeat_ref -> qgT, wpAny_comprehension_free -> qg3, pyNext -> qg4, builtinsNs -> qg5, IsPair -> qhb, wpAny_pyNext_enum_itemD -> qhf, valueAt -> qhg, seq_tuple_add -> qhh, rangeSize_one -> qhi, compEnvC -> qhl, callerA -> qhm, call -> qhn, BindsTo -> qhv, richCompare_meets_room -> qhx, codeAny_compStart_list -> qhy, wpAny_typeOf -> qhE, wpAny_isOneOf_keyiter -> qhF, seqIndex_neg -> qhG, pyIter -> qhH, concat_meets -> qhI, Result -> qhJ, PassesOwn -> qhM, seqIndex_of -> qhZ, Keyword -> qh7, tupleKind_room_in1 -> qib, backToKw -> qif, GenState -> qim, wpAny_sequenceKey -> qis, wpAny_call -> qit, wpAny_assign_Name -> qiu, wpAny_Name -> qiv, slot_list_getitem -> qiw, again -> qiD, wpAny_pyIter_zip -> qiQ, wpAny_isInstance -> qiR, wpAny_forIn_list -> qiS, wpAny_execs_cons -> qiT, standAt -> qjG, setItem -> qjI, seqIndex? -> qjJ, isTrue -> qjM, wpAny_newTuple -> qjV, wpAny_fieldsOf -> qjW, wpAny_bindName -> qjX, recursionLimit -> qj0, isSubtype_stop -> qj1, fitsIndex_both -> qj2, firstArgMember -> qj3
open PySem.Around renaming under_plainId -> qcs, under -> qgx
open PySem.AutoSeq1 renaming sub_tuple_tuple -> qfS
open PySem.Builtin renaming bitAnd -> qd2
open PySem.Builtin.Dict renaming showsAll -> qfH
open PySem.Builtin.List renaming listTooLong -> qfo
open PySem.Builtin.Range renaming rangeFitsLong -> qeX, rangeSize -> qfn, small -> qiO
open PySem.Builtin.Slice renaming slicePlaces -> qcS, sliceAdjust -> qfd, slicePartIndex -> qiM, sliceApplied -> qiN
open PySem.Builtin.SmallTypes renaming nextOf -> qcG, ownedTupleHandOut -> qd3, ownedTupleIsFree -> qhD
open PySem.Builtin.Tuple renaming tupleCompareSizes -> qeC, tupleItemsOf -> qe3, tupleTooMany -> qiL
open PySem.Calls renaming Name_function_global -> qfY, call_function_entry -> qgb
open PySem.Code renaming isGuard -> qiJ, isFrame -> qiK, frames -> qjF
open PySem.Draws renaming list -> qjE
open PySem.Env renaming kindOf -> qk9
open PySem.F renaming slot_dict_keyiterator_next -> qbS, plain_min_loop -> qcQ, plain_max_loop -> qcR, slot_tuple_iterator_next -> qdd, slot_tuple_lt -> qdz, args_tuple_add_2 -> qd5, entry_tuple_add -> qef, args_tuple_lt_2 -> qeg, slot_tuple_add -> qen, entry_tuple_lt -> qeo, args_dict_keyiterator_next_1 -> qeF, slot_tuple_mul -> qeH, entry_dict_keyiterator_next -> qeL, slot_zip_next -> qeV, slot_int_rmul -> qeW, args_list_append_2 -> qfc, entry_list_append -> qfm, slot_list_append -> qfz, args_tuple_mul_2 -> qfA, entry_tuple_mul -> qfR, slot_list_index -> qf3, plainAttrs_list -> qf4, entry_min_loop -> qf9, entry_max_loop -> qga, slot_dict_iter -> qgf, args_tuple_iterator_next_1 -> qgl, entry_tuple_iterator_next -> qgr, args_zip_next_1 -> qh8, args_int_rmul_2 -> qh9, slot_int_index -> qin, entry_zip_next -> qio, entry_int_rmul -> qip, fills_int_mul -> qiI
open PySem.Heap renaming get?_push_of_some -> qaf, get?_push_size -> qas, lt_size -> qav, get?_update_other -> qaU, size_push -> qbn, get?_update_self -> qca, SameBut -> qdn, get?_push_ne -> qdE, get?_update_ne -> qhc, ExtBut -> qhd, size_update -> qhT
open PySem.Heap.IsSliceOf renaming new -> qil
open PySem.Heap.SameBut renaming update -> qdF
open PySem.IntMulOk renaming of_le -> qii
open PySem.IsL renaming update -> qfb
open PySem.Obj renaming mapSeq -> qcO, data_mapFields -> qea, isFreed_of_fields -> qgW, cls_mapFields -> qhN
open PySem.Paired renaming length -> qeY, snoc -> qij
open PySem.PassesOwn renaming never -> qdM
open PySem.SeqAt renaming EqAt -> qdy, ne_of_list_tuple -> qgs, RcNeAt -> qih, RcAt -> qju, list_indexAt -> qjP
open PySem.SeqAt.EqAt renaming of_refs -> qeE, same -> qfg, str_int -> qgn, int_str -> qgo, int_int -> qgp, tuple_str -> qkE, tuple_none -> qkF, tuple_list -> qkG, tuple_int -> qkH, tuple_bool -> qkI, str_tuple -> qkJ, str_str -> qkK, str_none -> qkL, str_list -> qkM, str_bool -> qkN, none_tuple -> qkO, none_str -> qkP, none_list -> qkQ, none_int -> qkR, none_bool -> qkS, list_tuple -> qkT, list_str -> qkU, list_none -> qkV, list_int -> qkW, list_bool -> qkX, int_tuple -> qkY, int_none -> qkZ, int_list -> qk0, int_bool -> qk1, bool_tuple -> qk2, bool_str -> qk3, bool_none -> qk4, bool_list -> qk5, bool_int -> qk6, bool_bool -> qk7
open PySem.SeqAt.RcAt renaming tuples -> qeU, lists_lengths -> qfv, lists -> qgE, tuple_str -> qj6, tuple_none -> qj7, tuple_list -> qj8, tuple_int -> qj9, tuple_bool -> qka, str_tuple -> qkb, str_str -> qkc, str_none -> qkd, str_list -> qke, str_int -> qkf, str_bool -> qkg, none_tuple -> qkh, none_str -> qki, none_none -> qkj, none_list -> qkk, none_int -> qkl, none_bool -> qkm, list_tuple -> qkn, list_str -> qko, list_none -> qkp, list_int -> qkq, list_bool -> qkr, int_tuple -> qks, int_str -> qkt, int_none -> qku, int_list -> qkv, int_int -> qkw, int_bool -> qkx, bool_tuple -> qky, bool_str -> qkz, bool_none -> qkA, bool_list -> qkB, bool_int -> qkC, bool_bool -> qkD
open PySem.SeqAt.RcNeAt renaming tuples -> qfT, tuple_str -> qiU, tuple_none -> qiV, tuple_list -> qiW, tuple_int -> qiX, tuple_bool -> qiY, str_tuple -> qiZ, str_str -> qi0, str_none -> qi1, str_list -> qi2, str_int -> qi3, str_bool -> qi4, none_tuple -> qi5, none_str -> qi6, none_none -> qi7, none_list -> qi8, none_int -> qi9, none_bool -> qja, lists_lengths -> qjb, lists -> qjc, list_tuple -> qjd, list_str -> qje, list_none -> qjf, list_int -> qjg, list_bool -> qjh, int_tuple -> qji, int_str -> qjj, int_none -> qjk, int_list -> qjl, int_int -> qjm, int_bool -> qjn, bool_tuple -> qjo, bool_str -> qjp, bool_none -> qjq, bool_list -> qjr, bool_int -> qjs, bool_bool -> qjt
open PySem.Str renaming ofString -> qd9
open PySem.Value renaming isStrOf -> qh4, isInt -> qiA
open PySem.W renaming Frag -> qae, kia_one -> qbL, findIn -> qci, keepIn -> qcD, emptyDict -> qcX, instObj -> qdm, cellsFrom_some -> qdp, fnOf -> qdU, hasDictIn -> qd4, plainGet -> qek, nsIn -> qer, plainOver -> qfa, takerIn -> qfw, makesIn -> qfx, OpenLaw -> qfy, lookIn -> qfN, codeIn -> qfO, kitx_tuple -> qgO, callWith_K -> qgP, kitx_list -> qgU, kitx_dict -> qgV, handedIn -> qg6, kitOne -> qhz, mg_of -> qhK, WalkO -> qhL, isFn -> qhU
open PySem.W.Looks renaming here -> qiE
open PySem.W.WShape renaming has -> qiz
open PySem.WalksT renaming enumerateD -> qff
open PySem.Within renaming cons -> qjv
def U{α:Sort u}{a:α}:a=a:=rfl
def iFN{c:Prop}[d:Decidable c](h:¬c){α:Sort u}{t e:α}:ite c t e=e:=if_neg h
def iFP{c:Prop}[d:Decidable c](h:c){α:Sort u}{t e:α}:ite c t e=t:=if_pos h
namespace L2
open PySem PySem.Spec PyProof.Rows
abbrev Key:=Sum Int Str
def qz:Key->Value->Bool
 |.inl k,v=>qiA k v
 |.inr x,v=>qh4 x v
def Hd (w:World):Key->Int
 |.inl k=>hashInt k
 |.inr x=>hashStr w x
theorem bI:∀ {k:Key}{v:Value},qz k v=true->(∃ i t,k=Sum.inl i/\v=Value.int i t)\/(∃ x t,k=Sum.inr x/\v=Value.str x t)
 |.inl i,v,h=>by
  obtain⟨t,e⟩:=Value.isInt_shape h;exact .inl ⟨i,t,U,e⟩
 |.inr x,v,h=>by
  obtain⟨t,e⟩:=Value.isStrOf_shape h;exact .inr ⟨x,t,U,e⟩
theorem yj (i:Int) (t:Tok):qz (.inl i) (.int i t)=true:=by simp[qz,qiA]
theorem yk (x:Str) (t:Tok):qz (.inr x) (.str x t)=true:=by simp[qz,qh4]
theorem DY (a b:Int):decide ((Sum.inl a:Key)=Sum.inl b)=(a==b):=by
 by_cases e:a=b
 ·subst e;simp
 ·rw[decide_eq_false (λq=>e (Sum.inl.inj q))]
  exact (beq_eq_false_iff_ne.mpr e).symm
theorem D3 (a b:Str):decide ((Sum.inr a:Key)=Sum.inr b)=decide (a=b):=by
 by_cases e:a=b
 ·simp
 ·rw[decide_eq_false (λq=>e (Sum.inr.inj q)),decide_eq_false e]
theorem DZ (a:Int) (b:Str):decide ((Sum.inl a:Key)=Sum.inr b)=false:=decide_eq_false (λq=>nomatch q)
theorem D0 (a:Str) (b:Int):decide ((Sum.inr a:Key)=Sum.inl b)=false:=decide_eq_false (λq=>nomatch q)
def ci (prog:qaQ) (w:World):PySem.KeyKind prog w Key where
 is:=qz
 hash:=Hd w
 inj:=λv a b g hb=>by
  rcases bI g with⟨i,t,rfl,rfl⟩|⟨x,t,rfl,rfl⟩
  ·rcases bI hb with⟨j,u,rfl,e⟩|⟨y,u,rfl,e⟩
   ·injection e with c _;rw[c]
   ·exact nomatch e
  ·rcases bI hb with⟨j,u,rfl,e⟩|⟨y,u,rfl,e⟩
   ·exact nomatch e
   ·injection e with c _;rw[c]
 byValue:=λk v h=>by
  rcases bI h with⟨i,t,rfl,rfl⟩|⟨x,t,rfl,rfl⟩<;>rfl
 pyHash:=λd h=>by
  rcases bI d with⟨i,t,rfl,rfl⟩|⟨x,t,rfl,rfl⟩
  ·exact wpAny_pyHash_int h
  ·exact wpAny_pyHash_str h
 eqBool:=λf d h=>by
  rcases bI f with⟨i,t,rfl,rfl⟩|⟨x,t,rfl,rfl⟩
  ·rcases bI d with⟨j,u,rfl,rfl⟩|⟨y,u,rfl,rfl⟩
   ·rw[DY]at h;exact wpAny_eqBool_int h
   ·rw[DZ]at h;exact qgo i t y u _ _ _ _ h
  ·rcases bI d with⟨j,u,rfl,rfl⟩|⟨y,u,rfl,rfl⟩
   ·rw[D0]at h;exact qgn x t j u _ _ _ _ h
   ·rw[D3]at h;exact wpAny_eqBool_str h
 «strs»:=λk x t v h=>by
  rcases bI h with⟨i,u,rfl,e⟩|⟨y,u,rfl,e⟩
  ·exact nomatch e
  ·injection e with c _
   subst c;cases v<;>rfl
theorem ut (prog:qaQ) (w:World) (i:Int) (t:Tok):(ci prog w).is (.inl i) (.int i t)=true:=yj i t
theorem uv (prog:qaQ) (w:World) (x:Str) (t:Tok):(ci prog w).is (.inr x) (.str x t)=true:=yk x t
inductive V where
 |non|bl (b:Bool)|int (i:Int)|str (x:Str)|byt (b:Array UInt8)|flt (b:UInt64)|ref (a:Addr)|ty (n:String)
 deriving DecidableEq
def aP:V->Value->Prop
 |.non,u=>u=Value.none
 |.bl b,u=>u=Value.bool b
 |.int i,u=>∃ t,u=Value.int i t
 |.str x,u=>∃ t,u=Value.str x t
 |.byt b,u=>∃ t,u=Value.bytes b t
 |.flt b,u=>∃ t,u=Value.float b t
 |.ref a,u=>u=Value.ref a
 |.ty n,u=>u=Value.type n
abbrev aI:List V->List Value->Prop:=qgg aP
theorem aI.length {xs:List V}{a:List Value} (r:aI xs a):xs.length=a.length:=qeY r
theorem aI.get:∀ {xs:List V}{a:List Value}{i:Nat}{x:V},aI xs a->xs[i]?=some x->∃ u,a[i]?=some u/\aP x u
 |_,_,_,_,.nil,e=>by simp at e
 |_,_,0,_,.cons r _,e=>by simp at e;subst e;exact⟨_,U,r⟩
 |_,_,i+1,x,.cons _ t,e=>by
  obtain⟨u,b,c⟩:=aI.get t (by simpa using e);exact⟨u,by simpa using b,c⟩
theorem aI.set {x:V}{u:Value} (r:aP x u):∀ {xs:List V}{a:List Value} (i:Nat),aI xs a->aI (xs.set i x) (a.set i u)
 |_,_,_,.nil=>.nil
 |_,_,0,.cons _ t=>.cons r t
 |_,_,i+1,.cons q t=>.cons q (aI.set r i t)
theorem aI.append:∀ {xs a:List V}{b ws:List Value},aI xs b->aI a ws->aI (xs++a) (b++ws)
 |_,_,_,_,.nil,s=>s
 |_,_,_,_,.cons r t,s=>.cons r (aI.append t s)
theorem aI.take:∀ {xs:List V}{a:List Value} (n:Nat),aI xs a->aI (xs.take n) (a.take n)
 |_,_,0,_=>.nil
 |_,_,_+1,.nil=>.nil
 |_,_,n+1,.cons r t=>.cons r (aI.take n t)
theorem aI.drop:∀ {xs:List V}{a:List Value} (n:Nat),aI xs a->aI (xs.drop n) (a.drop n)
 |_,_,0,r=>r
 |_,_,_+1,.nil=>.nil
 |_,_,n+1,.cons _ t=>aI.drop n t
def ml:Option V->Option Value->Prop
 |some v,some u=>aP v u
 |none,none=>True
 |_,_=>False
def KV {a:Type}:List (a×V)->List (a×Value)->Prop:=qgg λ(p:a×V) (q:a×Value)=>p.1=q.1/\aP p.2 q.2
def kV:Key->V
 |.inl i=>.int i
 |.inr x=>.str x
inductive HO where
 |lst (xs:List V)
 |tup (xs:List V)
 |dK (kvs:List (Key×V))|dT (kvs:List (List Key×V))
 |set (S:Int->Bool) (n:Nat)
 |ins (C dx:Addr) (fs:List (Str×V))
 |own (x:Addr)
 |xd (fs:List (Str×V))
 |met (f x:Addr)
 |rng (lo hi:Int)
 |frz (o:Obj) (u:HO)
 |tbl (ps:Array Value)
 |ext (φ:Heap->Prop)
abbrev Hp:=Addr->Option HO
def upd (H:Hp) (a:Addr) (o:HO):Hp:=λb=>if b=a then some o else H b
theorem upd_same {H:Hp}{a:Addr}{o:HO}:upd H a o a=some o:=by unfold upd;rw[iFP U]
theorem upd_ne {H:Hp}{a b:Addr}{o:HO} (h:b≠a):upd H a o b=H b:=by unfold upd;rw[iFN h]
theorem F9 {H:Hp}{a b:Addr}{o u:HO} (h:H a=some o) (h':H b=some u) (d:o≠u):a≠b:=by
 intro e;subst e;rw[h]at h';exact d (qaN h')
theorem aN {H:Hp}{a b:Addr}{o:HO} (h:H a=some o) (h':H b=none):a≠b:=by
 intro e;subst e;rw[h]at h';cases h'
def fI (h:Heap) (a:Addr) (b:Array Value):Prop:=∃ o:Obj,h.get? a=some o/\o.cls=.type "tuple"/\(∃ n,o.data=.seq b n)/\o.dict=none
theorem fI.tup {h:Heap}{a:Addr}{b:Array Value} (x:fI h a b):IsTup h a b:=let ⟨o,e,c,n,_⟩:=x;⟨o,e,c,n⟩
theorem fI.new (h:Heap) (a:Array Value):fI (h.push { cls:=.type "tuple",data:=.seq a }) h.objs.size a:=⟨_,qas _ U,U,⟨_,U⟩,U⟩
section
variable (P:qaQ) (w:World)
def cq (H:Hp) (h:Heap) (a:Addr):HO->Prop
 |.lst xs=>xs.length<=qaL/\∃ (c:List Value) (n:Nat),aI xs c/\h.get? a=some { cls:=.type "list",data:=.seq c.toArray n }
 |.tup xs=>xs.length<=qaL/\∃ c:List Value,aI xs c/\fI h a c.toArray
 |.dK b=>b.length<=qaL/\(a==qcu)=false/\∃ i,KV b i/\h.DictOf (ci P w) a i
 |.dT b=>b.length<=qaL/\(a==qcu)=false/\∃ xs:List (List Key×Addr×Value),
   qgg (λ(p:List Key×V) (q:List Key×Addr×Value)=>p.1=q.1/\H q.2.1=some (.tup (p.1.map kV))/\aP p.2 q.2.2) b xs/\
   ∃ o es k,h.get? a=some o/\o.ExactDict/\o.data=.dict es k/\es.toList=xs.map (entryOfKey (qgz (ci P w)))/\(xs.map (·.1)).Nodup
 |.set S n=>h.SetOf (intKind P w) a S n
 |.ins C e fs=>H e=some (.own a)/\fs.length<=1000/\e≠a/\h.get? a=some (qdm C e)/\
   ∃ d,h.Ns1 e d/\(∀ f,ml (fs.lookup f) (d f))/\qgF d (fs.map (·.1))
 |.own _=>∃ o,h.get? a=some o
 |.xd fs=>∃ d,h.Ns1 a d/\∀ f,ml (fs.lookup f) (d f)
 |.rng lo hi=>∃ t u v,h.get? a=some { cls:=.type "range",data:=.fields #[.int lo t,.int hi u,.int 1 v] }
 |.frz o u=>h.get? a=some o/\cq H h a u
 |.tbl ps=>h.get? a=some { cls:=.none,data:=.fields ps }
 |.met f x=>h.get? a=some (PySem.W.methodObj (.ref f) (.ref x))
 |.ext φ=>φ h/\(∃ o,h.get? a=some o)/\∀ g j:Heap,φ g->(∀ o,g.get? a=some o->j.get? a=some o)->φ j
def HOk (H:Hp) (h:Heap):Prop:=∀ a o,H a=some o->cq P w H h a o
end
section
variable {P:qaQ}{w:World}{H H':Hp}{h h':Heap}{a:Addr}{o:HO}
theorem cq.lt (x:cq P w H h a o):a<h.objs.size:=by
 cases o with
 |lst xs=>obtain⟨_,_,_,_,e⟩:=x;exact qav e
 |tup xs=>obtain⟨_,_,_,p⟩:=x;exact p.tup.lt
 |dK l=>obtain⟨_,_,_,_,o,_,_,e,_⟩:=x;exact qav e
 |dT l=>obtain⟨_,_,_,_,o,_,_,e,_⟩:=x;exact qav e
 |set S n=>obtain⟨o,_,_,_,e,_⟩:=x;exact qav e
 |ins C D fs=>obtain⟨_,_,_,e,_⟩:=x;exact qav e
 |own y=>obtain⟨_,e⟩:=x;exact qav e
 |xd fs=>obtain⟨_,⟨_,_,_,e,_⟩,_⟩:=x;exact qav e
 |rng lo hi=>obtain⟨_,_,_,e⟩:=x;exact qav e
 |frz ob u=>obtain⟨e,_⟩:=x;exact qav e
 |tbl ps=>exact qav (x)
 |met f y=>exact qav (x)
 |ext φ=>obtain⟨_,⟨_,e⟩,_⟩:=x;exact qav e
theorem qgg.mapP {α B:Type}{F G:α->B->Prop}:∀ {i:List α}{j:List B},qgg F i j->(∀ a b,F a b->G a b)->qgg G i j
 |_,_,.nil,_=>.nil
 |_,_,.cons r t,f=>.cons (f _ _ r) (qgg.mapP t f)
theorem cq.stay (x:cq P w H h a o) (k:∀ b u,(b=a\/H b=some (.own a))->h.get? b=some u->h'.get? b=some u)
  (L:∀ b,H b=some (.own a)->H' b=some (.own a)) (I:∀ b xs,H b=some (.tup xs)->H' b=some (.tup xs)):cq P w H' h' a o:=by
 induction o with
 |lst xs=>obtain⟨z,m,n,r,e⟩:=x;exact⟨z,m,n,r,k _ _ (.inl U) e⟩
 |tup xs=>obtain⟨z,m,r,ob,e,c⟩:=x;exact⟨z,m,r,ob,k _ _ (.inl U) e,c⟩
 |dK l=>obtain⟨z,y,J,r,ob,es,g,e,c⟩:=x;exact⟨z,y,J,r,ob,es,g,k _ _ (.inl U) e,c⟩
 |dT l=>
  obtain⟨z,y,xs,r,ob,es,g,e,c⟩:=x;exact⟨z,y,xs,qgg.mapP r λp q z=>⟨z.1,I _ _ z.2.1,z.2.2⟩,ob,es,g,k _ _ (.inl U) e,c⟩
 |set S n=>obtain⟨ob,es,g,t,e,c⟩:=x;exact⟨ob,es,g,t,k _ _ (.inl U) e,c⟩
 |ins C D fs=>
  obtain⟨d,z,ne,e,s,⟨A,es,g,E,c⟩,r⟩:=x;exact⟨L _ d,z,ne,k _ _ (.inl U) e,s,⟨A,es,g,k _ _ (.inr d) E,c⟩,r⟩
 |own y=>obtain⟨ob,e⟩:=x;exact⟨ob,k _ _ (.inl U) e⟩
 |xd fs=>obtain⟨s,⟨A,es,g,e,c⟩,r⟩:=x;exact⟨s,⟨A,es,g,k _ _ (.inl U) e,c⟩,r⟩
 |rng lo hi=>obtain⟨t,u,v,e⟩:=x;exact⟨t,u,v,k _ _ (.inl U) e⟩
 |frz ob u K=>obtain⟨e,q⟩:=x;exact⟨k _ _ (.inl U) e,K q⟩
 |tbl ps=>
  exact k a _ (.inl U) x
 |met f y=>
  exact k a _ (.inl U) x
 |ext φ=>obtain⟨p,⟨o,e⟩,st⟩:=x;exact⟨st _ _ p λo q=>k _ _ (.inl U) q,⟨o,k _ _ (.inl U) e⟩,st⟩
theorem HOk.lt (x:HOk P w H h) (e:H a=some o):a<h.objs.size:=(x a o e).lt
theorem HOk.fresh (x:HOk P w H h) (e:h.objs.size<=a):H a=none:=by
 cases q:H a with
 |none=>rfl
 |some u=>exact absurd (qaS (x.lt q) e) (qbd _)
theorem HOk.kept (x:HOk P w H h) (k:∀ b u,h.get? b=some u->h'.get? b=some u):HOk P w H h':=λa o e=>
 (x a o e).stay (λb u _ q=>k b u q) (λ_ q=>q) λ_ _ q=>q
theorem HOk.laid (x:HOk P w H h) (k:∀ b u,h.get? b=some u->h'.get? b=some u) (M:h.objs.size<=a) (new:cq P w (upd H a o) h' a o):HOk P w (upd H a o) h':=λb u e=>by
 have hn:=x.fresh M;by_cases hb:b=a
 ·subst hb;rw[upd_same]at e;cases e;exact new
 ·rw[upd_ne hb]at e
  exact (x b u e).stay (λc v _ q=>k c v q) (λc q=>by rw[upd_ne (aN q hn)];exact q) λc xs q=>by rw[upd_ne (aN q hn)];exact q
end
def Rd (H:Hp) (a:Addr) (u:HO):Prop:=H a=some u\/∃ o,H a=some (.frz o u)
theorem Rd.of {H:Hp}{a:Addr}{u:HO} (h:H a=some u):Rd H a u:=.inl h
theorem Rd.ok {P:qaQ}{w:World}{H:Hp}{h:Heap}{a:Addr}{u:HO} (r:Rd H a u) (x:HOk P w H h):cq P w H h a u:=by
 rcases r with r|⟨o,r⟩
 ·exact x a u r
 ·obtain⟨_,q⟩:=x a _ r
  exact q
def Mut:Option HO->Prop
 |some (.lst _)=>True
 |some (.dK _)=>True
 |some (.dT _)=>True
 |some (.set _ _)=>True
 |some (.ins _ _ _)=>True
 |some (.ext _)=>True
 |_=>False
section
variable {P:qaQ}{w:World}{H:Hp}{h h':Heap}{x e:Addr}{j:HO}
theorem HOk.write (ok:HOk P w H h) (g:Mut (H x)) (m:e=x\/H e=some (.own x)) (k:∀ b u,b≠e->h.get? b=some u->h'.get? b=some u) (i:∃ u,h'.get? e=some u)
  (new:cq P w (upd H x j) h' x j):HOk P w (upd H x j) h':=λb u q=>by
 have d:∀ c y,H c=some (.own y)->c≠x:=λc y r z=>by subst z;rw[r]at g;exact g
 by_cases hb:b=x
 ·subst hb;rw[upd_same]at q;cases q;exact new
 ·rw[upd_ne hb]at q
  by_cases a:b=e
  ·have l:H b=some (.own x):=by
    rcases m with z|z
    ·exact absurd (a.trans z) hb
    ·rw[a];exact z
   rw[q]at l;cases l;obtain⟨v,n⟩:=i;exact⟨v,by rw[a];exact n⟩
  ·refine (ok b u q).stay (λc v f r=>k c v ?_ r) (λc r=>by rw[upd_ne (d c b r)];exact r) λc xs r=>by rw[upd_ne ((λc xs r z=>by subst z;rw[r]at g;exact g) c xs r)];exact r
   rcases f with rfl|f
   ·exact a
   ·rintro rfl
    rcases m with z|z
    ·exact d c b f z
    ·rw[f]at z;cases z;exact hb U
end
structure Un (fs ex:List Addr) (H H':Hp) (h h':Heap):Prop where
 keep:∀ b o,h.get? b=some o->H b=none->b∉fs->b∉ex->h'.get? b=some o
 slot:∀ b o,h.get? b=some o->H b=none->b∈fs->b∉ex->∃ sl,h'.get? b=some { o with slots:=sl }
 free:∀ b o,h.get? b=some o->H b=none->b∉ex->H' b=none
 there:∀ b o,h.get? b=some o->b∉ex->∃ o',h'.get? b=some o'
 tups:∀ b xs,H b=some (.tup xs)->H' b=some (.tup xs)
 frzs:∀ b o u,H b=some (.frz o u)->H' b=some (.frz o u)
 tbls:∀ b ps,H b=some (.tbl ps)->∃ more,H' b=some (.tbl (ps++more))
section
variable {fs m ex j:List Addr}{H H1 H2:Hp}{h i t h':Heap}{a x e:Addr}{o:HO}
theorem Un.any (u:Un fs ex H H1 h i) {b:Addr}{ob:Obj} (q:h.get? b=some ob) (n:H b=none) (d:b∉ex):∃ s,i.get? b=some { ob with slots:=s }:=by
 by_cases hb:b∈fs
 ·exact u.slot b ob q n hb d
 ·exact⟨ob.slots,u.keep b ob q n hb d⟩
theorem Un.kept (k:∀ b u,h.get? b=some u->h'.get? b=some u):Un fs ex H H h h':=
 ⟨λb ob q _ _ _=>k b ob q,λb ob q _ _ _=>⟨ob.slots,k b ob q⟩,λ_ _ _ n _=>n,λb ob q _=>⟨ob,k b ob q⟩,λ_ _ q=>q,λ_ _ _ q=>q,λ_ ps q=>⟨#[],by rw[q];simp⟩⟩
theorem Un.refl:Un fs ex H H h h:=Un.kept λ_ _ q=>q
theorem Un.laid (k:∀ b u,h.get? b=some u->h'.get? b=some u) (p:h.objs.size<=a) (hn:H a=none):Un fs ex H (upd H a o) h h' where
 keep:=λb u q _ _ _=>k b u q
 slot:=λb u q _ _ _=>⟨u.slots,k b u q⟩
 free:=λb u q n _=>by rw[upd_ne (qax (qaS (qav q) p))];exact n
 there:=λb u q _=>⟨u,k b u q⟩
 tups:=λb xs q=>by rw[upd_ne (aN q hn)];exact q
 frzs:=λb u xs q=>by rw[upd_ne (aN q hn)];exact q
 tbls:=λb ps q=>⟨#[],by rw[upd_ne (aN q hn),q];simp⟩
theorem Un.write (f:Mut (H x)) (l:e=x\/H e=some (.own x)) (k:∀ b u,b≠e->h.get? b=some u->h'.get? b=some u) (g:∃ u,h'.get? e=some u):Un fs ex H (upd H x o) h h':=by
 have d:∀ b,H b=none->b≠x:=λb n z=>by subst z;rw[n]at f;exact f
 have hb:∀ b,H b=none->b≠e:=λb n z=>by
  subst z;rcases l with r|r
  ·exact d b n r
  ·rw[n]at r;cases r
 have hm:∀ b u,H b=some u->¬ Mut (some u)->b≠x:=λb u q nm z=>by subst z;rw[q]at f;exact nm f
 refine⟨λb u q n _ _=>k b u (hb b n) q,λb u q n _ _=>⟨u.slots,k b u (hb b n) q⟩,λb u q n _=>by rw[upd_ne (d b n)];exact n,λb u q _=>?_,
  λb xs q=>by rw[upd_ne (hm b _ q λz=>z)];exact q,λb u xs q=>by rw[upd_ne (hm b _ q λz=>z)];exact q,λb ps q=>⟨#[],by rw[upd_ne (hm b _ q λz=>z),q];simp⟩⟩
 by_cases c:b=e
 ·subst c;exact g
 ·exact⟨u,k b u c q⟩
end
def trk (h:Heap) (H:Hp):List Addr:=(qak h.objs.size).filter λa=>(H a).isSome
def ya (h:Heap) (H:Hp):Heap:=PySem.W.hideAll h (trk h H)
theorem yb (h:Heap) (H:Hp):(ya h H).objs.size=h.objs.size:=PySem.W.hideAll_size _ _
theorem zn {h:Heap}{H:Hp}{b:Addr}{o:Obj} (e:h.get? b=some o) (n:H b=none):(ya h H).get? b=some o:=
 PySem.W.hideAll_get _ e λhm=>by
  have q:=(qbN.mp hm).2;rw[n]at q;simp at q
theorem BS {h:Heap}{H:Hp}{b:Addr}{o:Obj} (e:(ya h H).get? b=some o):h.get? b=some o/\H b=none:=by
 have a:=PySem.W.of_hideAll _ e;refine⟨a,?_⟩;cases q:H b with
 |none=>rfl
 |some x=>
  have z:(ya h H).get? b=none:=PySem.W.hideAll_none _ (qbN.mpr ⟨qaR.mpr (qav a),by simp[q]⟩);rw[z]at e;cases e
structure Mod (K:qae) (mg:Str->Option Value) (base:Heap):Prop where
 kin:K.In base
 glob:base.Ns qce mg
 blt:∃ mb,base.Ns qg5 mb/\∀ x:Str,x≠"__name__"->mb x=qch x
 nolimit:base.NoLimit
structure Cx where
 prog:qaQ
 w:World
 K:qae
 mg:Str->Option Value
 base:Heap
 A:qa1
 N:List Str
 s₀:qaj
 H₀:Hp
 env:Env
 outer:List Env
 stack:List Env
 ex:List Addr
 fn:Str->Bool
 calm:Bool
 pn:List (Addr×Obj)
 xe:Value->qaj->Prop
def frs (l:List Env):List Addr:=l.filterMap (·.frame)
abbrev Cx.fs (X:Cx):List Addr:=frs X.outer
def Vis (a:Scope) (x:Str):Prop:=a.names.lookup x=some .local\/a.names.lookup x=some .cell\/a.names.lookup x=some .free
def Loc (a:Scope) (x:Str):Prop:=a.names.lookup x=some .local\/a.names.lookup x=some .cell
def GY (env:Env) (h:Heap) (m:Str->Option Value) (x:Str) (u:Value):Prop:=
 (env.kindOf x=some .local/\m x=some u)\/((env.kindOf x=some .cell\/env.kindOf x=some .free)/\∃ c,env.cells.lookup x=some c/\h.IsCell c (some u))
structure Cx.Ok (X:Cx):Prop where
 mod:Mod X.K X.mg X.base
 kind:X.env.scope.kind=.function
 glob:X.env.globals=qce
 blt:X.env.builtins=qg5
 above:X.s₀.heap.objs.size<=X.env.locals
 inj:∀ x y c,X.env.cells.lookup x=some c->X.env.cells.lookup y=some c->x=y
 has:∀ x,(X.env.kindOf x=some .cell\/X.env.kindOf x=some .free)->∃ c,X.env.cells.lookup x=some c
 cab:∀ x c,X.fn x=true->X.env.cells.lookup x=some c->X.s₀.heap.objs.size<=c
 hd:X.calm=true->X.A.handled=none
 frames:X.A.frames=some X.stack
 stk:X.stack=X.outer\/(X.stack=X.env::X.outer/\X.env.frame=some X.env.locals)
 exf:∀ b∈X.ex,b≠X.env.locals/\∀ x c,X.env.cells.lookup x=some c->c≠b
 bs:∀ b o,X.base.get? b=some o->X.s₀.heap.get? b=some o/\X.H₀ b=none
 bsz:X.base.objs.size<=X.s₀.heap.objs.size
 noex:∀ b o,X.base.get? b=some o->b∉X.ex
 exfs:∀ b∈X.ex,b∉X.fs
 funs:X.s₀.heap.FunFrames X.base X.outer
 frf:∀ b∈X.fs,X.H₀ b=none
structure Inv (X:Cx) (pins:List (Addr×Obj)) (σ:List (Option V)) (H:Hp) (s:qaj):Prop where
 ok:X.Ok
 os:s.os=X.s₀.os
 bare:qfB s.gens
 base:Un X.fs X.ex X.H₀ H X.s₀.heap s.heap
 loc:∃ m,s.heap.Ns X.env.locals m/\∀ (i:Nat) (x:Str) (v:V),X.N[i]?=some x->σ[i]?=some (some v)->Vis X.env.scope x->∃ u,aP v u/\GY X.env s.heap m x u
 cell:∀ x c,X.env.cells.lookup x=some c->∃ v,s.heap.IsCell c v
 free:H X.env.locals=none
 freeC:∀ x c,X.env.cells.lookup x=some c->H c=none
 pin:∀ p∈X.pn++pins,s.heap.get? p.1=some p.2/\H p.1=none/\p.1≠X.env.locals/\p.1∉X.fs/\∀ v,p.2.data≠.cell v
 hok:HOk X.prog X.w H s.heap
 len:σ.length=X.N.length
section
variable {X:Cx}{f:List (Addr×Obj)}{g:List (Option V)}{H H':Hp}{s:qaj}{h':Heap}
theorem Cx.Ok.nofr (ok:X.Ok) {b:Addr}{o:Obj} (e:X.base.get? b=some o):b∉X.fs:=λhb=>by
 have:=(ok.funs.mem hb).1
 rw[e]at this;cases this
theorem Inv.bs (I:Inv X f g H s):∀ b o,X.base.get? b=some o->s.heap.get? b=some o/\H b=none:=λb o e=>
 ⟨I.base.keep b o (I.ok.bs b o e).1 (I.ok.bs b o e).2 (I.ok.nofr e) (I.ok.noex b o e),I.base.free b o (I.ok.bs b o e).1 (I.ok.bs b o e).2 (I.ok.noex b o e)⟩
theorem Inv.bk (I:Inv X f g H s):∀ b o,X.base.get? b=some o->s.heap.get? b=some o:=λb o e=>(I.bs b o e).1
theorem Inv.mod (I:Inv X f g H s):Mod X.K X.mg X.base:=I.ok.mod
theorem Inv.kIn (I:Inv X f g H s):X.K.In s.heap:=I.ok.mod.kin.keeps I.bk
theorem Inv.fr (I:Inv X f g H s):∃ m,Fr X.base X.env.locals s.heap m:=
 let ⟨m,hn,_⟩:=I.loc
 ⟨m,hn,I.bk,qaV I.ok.bsz I.ok.above⟩
theorem Inv.lt (I:Inv X f g H s):X.env.locals<s.heap.objs.size:=let ⟨_,hn,_⟩:=I.loc;hn.lt
theorem Inv.sz (I:Inv X f g H s):X.s₀.heap.objs.size<=s.heap.objs.size:=qaV I.ok.above (qeR I.lt)
theorem Inv.nofs (I:Inv X f g H s) {a:Addr} (h:s.heap.objs.size<=a):a∉X.fs:=λhb=>by
 obtain⟨_,o,F,_⟩:=I.ok.funs.mem hb;exact absurd (qaS (qav F) (qaV I.sz h)) (qbd _)
theorem Inv.cne (I:Inv X f g H s):∀ x c,X.env.cells.lookup x=some c->c≠X.env.locals:=λx c e z=>by
 obtain⟨v,o,F,hd⟩:=I.cell x c e;obtain⟨m,⟨R,es,ep,P,hd',_⟩,_⟩:=I.loc;rw[z,P]at F;cases F;rw[hd']at hd;cases hd
theorem Inv.funs (I:Inv X f g H s):s.heap.FunFrames X.base X.outer:=by
 have all:∀ (l:List Env),(∀ b∈frs l,b∈X.fs)->X.s₀.heap.FunFrames X.base l->s.heap.FunFrames X.base l:=by
  intro l
  induction l with
  |nil=>intro _ _;trivial
  |cons env r ih=>
   intro G hl;obtain⟨hk,⟨L,o,hf,hn,F,hd⟩,hr⟩:=hl;have S:=G L (by unfold frs;rw[qe2,hf];exact qag);obtain⟨sl,e⟩:=I.base.slot L o F (I.ok.frf L S) S λz=>I.ok.exfs L z S;exact⟨hk,⟨L,_,hf,hn,e,hd⟩,ih (λb hb=>G b (by unfold frs;rw[qe2,hf];exact qai _ hb)) hr⟩
 exact all X.outer (λ_ hb=>hb) I.ok.funs
theorem Inv.stack (I:Inv X f g H s):s.heap.FunFrames X.base X.stack:=by
 rcases I.ok.stk with e|⟨e,hf⟩
 ·rw[e];exact I.funs
 ·rw[e]
  obtain⟨m,hn,_⟩:=I.loc;refine .cons (by rw[I.ok.kind];decide) hf hn ?_ I.funs;exact Heap.get?_none_of_le (qaV I.ok.bsz I.ok.above)
theorem Inv.stkSub (I:Inv X f g H s):∀ b∈frs X.stack,b∈X.env.locals::X.fs:=λb hb=>by
 rcases I.ok.stk with e|⟨e,hf⟩
 ·rw[e]at hb;exact qai _ hb
 ·rw[e]at hb
  unfold frs at hb;rw[qe2,hf]at hb;exact hb
theorem Inv.stkFree (I:Inv X f g H s):∀ b∈frs X.stack,H b=none:=λb hb=>by
 rcases qaz.mp (I.stkSub b hb) with e|hb
 ·rw[e];exact I.free
 ·obtain⟨_,o,F,_⟩:=I.ok.funs.mem hb
  exact I.base.free b o F (I.ok.frf b hb) λz=>I.ok.exfs b z hb
theorem Inv.step {g':Array qim}{t':Nat}{d':Drawn}{ch:List Addr} (I:Inv X f g H s)
  (J:∀ b∈ch,(b∈X.ex\/X.s₀.heap.objs.size<=b)/\b≠X.env.locals/\(∀ x c,X.env.cells.lookup x=some c->c≠b)/\∀ p∈X.pn++f,p.1≠b)
  (keep:∀ b o,b≠X.env.locals->b∉X.fs->b∉ch->s.heap.get? b=some o->H b=none->h'.get? b=some o)
  (slot:∀ b o,b≠X.env.locals->b∈X.fs->b∉ch->s.heap.get? b=some o->H b=none->∃ sl,h'.get? b=some { o with slots:=sl }) (free:∀ b o,b∉ch->s.heap.get? b=some o->H b=none->H' b=none)
  (there:∀ b o,b∉ch->s.heap.get? b=some o->∃ R,h'.get? b=some R)
  (tups:∀ b xs,H b=some (.tup xs)->H' b=some (.tup xs)) (frzs:∀ b o u,H b=some (.frz o u)->H' b=some (.frz o u)) (tbls:∀ b ps,H b=some (.tbl ps)->∃ more,H' b=some (.tbl (ps++more)))
  (ns:∀ m,s.heap.Ns X.env.locals m->h'.Ns X.env.locals m) (hok:HOk X.prog X.w H' h') (hg:qfB g') :
  Inv X f g H' { s with heap:=h',gens:=g',drawn:=d',toks:=t' }:=by
 have neL:∀ b o,X.s₀.heap.get? b=some o->b≠X.env.locals:=λb o e=>qax (qaS (qav e) I.ok.above);have neC:∀ b o,X.s₀.heap.get? b=some o->b∉X.ex->b∉ch:=λb o e C hb=>by
  rcases (J b hb).1 with z|z
  ·exact C z
  ·exact absurd (qaS (qav e) z) (qbd _)
 have cellK:∀ x c,X.env.cells.lookup x=some c->∀ v,s.heap.IsCell c v->h'.IsCell c v:=λx c e v ⟨o,F,hd⟩=>by
  have nch:=λz=>(J c z).2.2.1 x c e U;by_cases B:c∈X.fs
  ·obtain⟨sl,q⟩:=slot c o (I.cne x c e) B nch F (I.freeC x c e)
   exact⟨_,q,hd⟩
  ·exact⟨o,keep c o (I.cne x c e) B nch F (I.freeC x c e),hd⟩
 refine⟨I.ok,I.os,hg,⟨λb o e n hb C=>?_,λb o e n hb C=>?_,λb o e n C=>?_,λb o e C=>?_,λb xs e=>tups b xs (I.base.tups b xs e),λb o xs e=>frzs b o xs (I.base.frzs b o xs e),λb ps e=>?_⟩,?_,λx c e=>?_,?_,λx c e=>?_,λp T=>?_,hok,I.len⟩
 ·exact keep b o (neL b o e) hb (neC b o e C) (I.base.keep b o e n hb C) (I.base.free b o e n C)
 ·obtain⟨sl,D⟩:=I.base.slot b o e n hb C
  obtain⟨sl',K⟩:=slot b _ (neL b o e) hb (neC b o e C) D (I.base.free b o e n C);exact⟨sl',K⟩
 ·obtain⟨R,D⟩:=I.base.there b o e C
  exact free b R (neC b o e C) D (I.base.free b o e n C)
 ·obtain⟨R,D⟩:=I.base.there b o e C
  exact there b R (neC b o e C) D
 ·obtain⟨m1,D⟩:=I.base.tbls b ps e
  obtain⟨m2,K⟩:=tbls b _ D;exact⟨_,by rw[K,Array.append_assoc]⟩
 ·obtain⟨m,hn,hl⟩:=I.loc
  refine⟨m,ns m hn,λi x v D K e3=>?_⟩;obtain⟨u,r,l⟩:=hl i x v D K e3;refine⟨u,r,?_⟩;rcases l with l|⟨k,c,e,z⟩
  ·exact .inl l
  ·exact .inr ⟨k,c,e,cellK x c e _ z⟩
 ·obtain⟨v,z⟩:=I.cell x c e
  exact⟨v,cellK x c e v z⟩
 ·obtain⟨m,⟨o,_,_,F,_⟩,_⟩:=I.loc
  exact free _ o (λz=>(J _ z).2.1 U) F I.free
 ·obtain⟨v,o,F,hd⟩:=I.cell x c e
  exact free c o (λz=>(J c z).2.2.1 x c e U) F (I.freeC x c e)
 ·obtain⟨e,n,ne,nf,d⟩:=I.pin p T
  have nch:=λz=>(J p.1 z).2.2.2 p T U;exact⟨keep p.1 p.2 ne nf nch e n,free p.1 p.2 nch e n,ne,nf,d⟩
theorem Inv.un {t':Nat} (I:Inv X f g H s) (u:Un X.fs [] H H' s.heap h') (hok:HOk X.prog X.w H' h'):Inv X f g H' { s with heap:=h',toks:=t' }:=by
 obtain⟨m,⟨o,es,ep,F,r⟩,_⟩:=id I.loc;obtain⟨sl,S⟩:=u.any F I.free (by simp)
 exact I.step (ch:=[]) (λ_ z=>nomatch z) (λb o _ hb _ e n=>u.keep b o e n hb (by simp)) (λb o _ hb _ e n=>u.slot b o e n hb (by simp)) (λb o _ e n=>u.free b o e n (by simp)) (λb o _ e=>u.there b o e (by simp)) u.tups u.frzs u.tbls (λm' hm=>by
  obtain⟨R,es',ep',P,r'⟩:=hm;rw[F]at P;cases P
  exact⟨_,es',ep',S,r'⟩) hok I.bare
theorem Inv.call {g':Array qim}{t':Nat}{d':Drawn}{ch:List Addr} (I:Inv X f g H s) (u:Un (frs X.stack) ch H H' s.heap h') (hok:HOk X.prog X.w H' h') (hg:qfB g')
  (J:∀ b∈ch,(b∈X.ex\/X.s₀.heap.objs.size<=b)/\b≠X.env.locals/\(∀ x c,X.env.cells.lookup x=some c->c≠b)/\∀ p∈X.pn++f,p.1≠b) :
  Inv X f g H' { s with heap:=h',gens:=g',drawn:=d',toks:=t' }:=by
 obtain⟨m,⟨o,es,ep,F,r⟩,_⟩:=id I.loc;obtain⟨sl,S⟩:=u.any F I.free λz=>(J _ z).2.1 U
 exact I.step J (λb o S hb B e n=>u.keep b o e n (λz=>(qaz.mp (I.stkSub b z)).elim S hb) B) (λb o _ _ B e n=>u.any e n B) (λb o B e n=>u.free b o e n B) (λb o B e=>u.there b o e B) u.tups u.frzs u.tbls (λm' hm=>by
  obtain⟨R,es',ep',P,r'⟩:=hm;rw[F]at P;cases P
  exact⟨_,es',ep',S,r'⟩) hok hg
theorem Inv.turned {t':Nat}{it:Addr} (I:Inv X f g H s) (k:∀ b o,b≠it->s.heap.get? b=some o->h'.get? b=some o) (hn:H it=none) (S:it≠X.env.locals)
  (h1:it∈X.ex\/X.s₀.heap.objs.size<=it) (h2:∀ x c,X.env.cells.lookup x=some c->c≠it) (h3:∀ p∈X.pn++f,p.1≠it):Inv X f g H { s with heap:=h',toks:=t' }:=by
 have nit:∀ b u,H b=some u->b≠it:=λb u e z=>by rw[z,hn]at e;cases e
 refine I.step (ch:=[it]) (λb hb=>?_) (λb o _ _ B e _=>k b o (λz=>B (by simp[z])) e) (λb o _ _ B e _=>⟨o.slots,k b o (λz=>B (by simp[z])) e⟩) (λ_ _ _ _ n=>n)
  (λb o B e=>⟨o,k b o (λz=>B (by simp[z])) e⟩) (λ_ _ e=>e) (λ_ _ _ e=>e) (λb ps e=>⟨#[],by rw[e];simp⟩) (λm hm=>?_) (λb u e=>?_) I.bare
 ·have e:=by simpa using hb
  subst e;exact⟨h1,S,h2,h3⟩
 ·obtain⟨o,es,ep,F,r⟩:=hm
  exact⟨o,es,ep,k _ o (qbo S) F,r⟩
 ·refine (I.hok b u e).stay (λc v B q=>k c v ?_ q) (λ_ q=>q) λ_ _ q=>q
  rcases B with z|z
  ·rw[z];exact nit b u e
  ·exact nit c _ z
theorem Inv.tok (I:Inv X f g H s) (t:Nat):Inv X f g H { s with toks:=t }:=I.un Un.refl I.hok
theorem Inv.kept {t':Nat} (I:Inv X f g H s) (k:∀ b u,s.heap.get? b=some u->h'.get? b=some u):Inv X f g H { s with heap:=h',toks:=t' }:=I.un (Un.kept k) (I.hok.kept k)
theorem Inv.laid {a:Addr}{o:HO}{t':Nat} (I:Inv X f g H s) (k:∀ b u,s.heap.get? b=some u->h'.get? b=some u) (T:s.heap.objs.size<=a) (new:cq X.prog X.w (upd H a o) h' a o) :
  Inv X f g (upd H a o) { s with heap:=h',toks:=t' }:=I.un (Un.laid k T (I.hok.fresh T)) (I.hok.laid k T new)
theorem Inv.write {x e:Addr}{o:HO}{t':Nat} (I:Inv X f g H s) (mu:Mut (H x)) (he:e=x\/H e=some (.own x)) (k:∀ b u,b≠e->s.heap.get? b=some u->h'.get? b=some u) (heo:∃ u,h'.get? e=some u)
  (new:cq X.prog X.w (upd H x o) h' x o):Inv X f g (upd H x o) { s with heap:=h',toks:=t' }:=I.un (Un.write mu he k heo) (I.hok.write mu he k heo new)
theorem Inv.weak {σ':List (Option V)} (I:Inv X f g H s) (hl:σ'.length=g.length) (w:∀ (i:Nat) v,σ'[i]?=some (some v)->g[i]?=some (some v)):Inv X f σ' H s:=
 ⟨I.ok,I.os,I.bare,I.base,let ⟨m,hn,hl'⟩:=I.loc;⟨m,hn,λi x v D K e3=>hl' i x v D (w i v K) e3⟩,I.cell,I.free,I.freeC,I.pin,I.hok,hl.trans I.len⟩
theorem Inv.pins_of {Y:List (Addr×Obj)} (I:Inv X f g H s) (h:∀ p∈Y,s.heap.get? p.1=some p.2/\H p.1=none/\p.1≠X.env.locals/\p.1∉X.fs/\∀ v,p.2.data≠.cell v):Inv X Y g H s:=
 ⟨I.ok,I.os,I.bare,I.base,I.loc,I.cell,I.free,I.freeC,λp T=>(qaO.mp T).elim (λz=>I.pin p (qaX _ z)) (h p),I.hok,I.len⟩
theorem uy {N:List Str} (hN:N.Nodup) {i j:Nat}{x:Str} (a:N[i]?=some x) (b:N[j]?=some x):i=j:=by
 obtain⟨h1,D⟩:=qar.mp a;obtain⟨h2,K⟩:=qar.mp b;exact (qdO hN).mp (D.trans K.symm)
theorem yJ {M:Model}{A:qa1}{E:Value->qaj->Prop}{i:Nat}{x:Str}{v:V}{u:Value}{Q:Unit->qaj->Prop} (I:Inv X f g H s) (hN:X.N.Nodup) (hi:X.N[i]?=some x) (C:Loc X.env.scope x) (r:aP v u)
  (h:∀ s',Inv X f (g.set i (some v)) H s'->(∃ a,qdn a s.heap s'.heap/\(a=X.env.locals\/X.env.cells.lookup x=some a))->Q () s') (hf:X.fn x=true\/X.env.scope.names.lookup x=some .local:=by first|exact .inl U|exact .inr U|assumption):wpAny M A (storeName X.env x u) Q E s:=by
 obtain⟨m,hn,hl⟩:=id I.loc;have hcls:(X.env.scope.kind==.class||(X.env.scope.kind==.module&&X.env.locals != X.env.globals))=false:=by rw[I.ok.kind];rfl
 have hiσ:i<g.length:=by rw[I.len];exact (qar.mp hi).1
 have cne:=I.cne;have O:∀ {a:Addr}{h':Heap},(∃ o,s.heap.get? a=some o/\H a=none)->qdn a s.heap h'->HOk X.prog X.w H h':=λ{a h'} ha G b ob e=>by
  obtain⟨_,_,W⟩:=ha;refine (I.hok b ob e).stay (λc w' B q=>(G.2 c ?_).trans q) (λ_ q=>q) λ_ _ q=>q
  rintro rfl
  rcases B with rfl|B
  ·rw[W]at e;cases e
  ·rw[W]at B;cases B
 rcases C with hk|hk
 ·refine wpAny_storeName_local hk hn (λh' hn' G=>?_) hcls
  obtain⟨oL,_,_,hoL,_⟩:=id hn;refine h _ ⟨I.ok,I.os,I.bare,⟨λb o e n hb C=>?_,λb o e n hb C=>?_,I.base.free,λb o e C=>?_,I.base.tups,I.base.frzs,I.base.tbls⟩,⟨_,hn',λj y v' D K e3=>?_⟩,λy c e=>?_,I.free,I.freeC,λp T=>?_,O ⟨oL,hoL,I.free⟩ G,by simpa using I.len⟩ ⟨_,G,.inl U⟩
  ·exact (G.2 b (qax (qaS (qav e) I.ok.above))).trans (I.base.keep b o e n hb C)
  ·obtain⟨sl,D⟩:=I.base.slot b o e n hb C
   exact⟨sl,(G.2 b (qax (qaS (qav e) I.ok.above))).trans D⟩
  ·obtain⟨R,D⟩:=I.base.there b o e C
   exact⟨R,(G.2 b (qax (qaS (qav e) I.ok.above))).trans D⟩
  ·by_cases hj:j=i
   ·subst hj
    rw[hi]at D;cases D;rw[qbs hiσ]at K;cases K;exact⟨u,r,.inl ⟨hk,by simp⟩⟩
   ·rw[qbC (qbo hj)]at K
    obtain⟨u',r',q⟩:=hl j y v' D K e3;refine⟨u',r',?_⟩;rcases q with⟨k,e⟩|⟨k,c,e,z⟩
    ·refine .inl ⟨k,?_⟩
     have:y≠x:=λe=>hj (uy hN D (e ▸ hi))
     simp[this,e]
    ·exact .inr ⟨k,c,e,z.sameBut G (cne y c e)⟩
  ·obtain⟨w',z⟩:=I.cell y c e
   exact⟨w',z.sameBut G (cne y c e)⟩
  ·obtain⟨e,n,ne,nf,d⟩:=I.pin p T
   exact⟨(G.2 p.1 ne).trans e,n,ne,nf,d⟩
 ·have hfn:X.fn x=true:=by
   rcases hf with z|z
   ·exact z
   ·rw[z]at hk;cases hk
  obtain⟨c,B⟩:=I.ok.has x (.inl hk);obtain⟨w',z⟩:=I.cell x c B;refine wpAny_storeName_cell I.ok.kind hk B z (λh' hc' G=>?_);obtain⟨oc,hoc,hocd⟩:=id z;refine h { s with heap:=h' } ⟨I.ok,I.os,I.bare,⟨λb o e n hb C=>?_,λb o e n hb C=>?_,I.base.free,λb o e C=>?_,I.base.tups,I.base.frzs,I.base.tbls⟩,⟨m,hn.sameBut G (qbo (cne x c B)),λj y v' D K e3=>?_⟩,λy c' e=>?_,I.free,I.freeC,λp T=>?_,O ⟨oc,hoc,I.freeC x c B⟩ G,by simpa using I.len⟩ ⟨c,G,.inr B⟩
  ·exact (G.2 b (qax (qaS (qav e) (I.ok.cab x c hfn B)))).trans (I.base.keep b o e n hb C)
  ·obtain⟨sl,D⟩:=I.base.slot b o e n hb C
   exact⟨sl,(G.2 b (qax (qaS (qav e) (I.ok.cab x c hfn B)))).trans D⟩
  ·obtain⟨R,D⟩:=I.base.there b o e C
   exact⟨R,(G.2 b (qax (qaS (qav e) (I.ok.cab x c hfn B)))).trans D⟩
  ·by_cases hj:j=i
   ·subst hj
    rw[hi]at D;cases D;rw[qbs hiσ]at K;cases K;exact⟨u,r,.inr ⟨.inl hk,c,B,hc'⟩⟩
   ·rw[qbC (qbo hj)]at K
    obtain⟨u',r',q⟩:=hl j y v' D K e3;refine⟨u',r',?_⟩;rcases q with q|⟨k,c',e,z'⟩
    ·exact .inl q
    ·refine .inr ⟨k,c',e,z'.sameBut G ?_⟩
     rintro rfl
     exact hj (uy hN D (I.ok.inj _ _ _ e B ▸ hi))
  ·by_cases hcc:c'=c
   ·subst hcc;exact⟨_,hc'⟩
   ·obtain⟨w2,z2⟩:=I.cell y c' e
    exact⟨w2,z2.sameBut G hcc⟩
  ·obtain⟨e,n,ne,nf,d⟩:=I.pin p T
   refine⟨(G.2 p.1 ?_).trans e,n,ne,nf,d⟩;intro q;rw[q,hoc]at e;exact d w' (by rw[<-(qaN e)];exact hocd)
theorem jd {M:Model}{A:qa1}{E:Value->qaj->Prop}{i:Nat}{x:Str}{v:V}{u:Value}{Q:Unit->qaj->Prop} (I:Inv X f g H s) (hN:X.N.Nodup) (hi:X.N[i]?=some x) (C:Loc X.env.scope x) (r:aP v u)
  (h:∀ s',Inv X f (g.set i (some v)) H s'->Q () s') (hf:X.fn x=true\/X.env.scope.names.lookup x=some .local:=by first|exact .inl U|exact .inr U|assumption):wpAny M A (storeName X.env x u) Q E s:=
 yJ I hN hi C r (λs' I' _=>h s' I') hf
theorem Inv.call' {s':qaj}{ch:List Addr} (I:Inv X f g H s) (F:s'.os=s.os) (u:Un (frs X.stack) ch H H' s.heap s'.heap) (hok:HOk X.prog X.w H' s'.heap) (hg:qfB s'.gens)
  (J:∀ b∈ch,(b∈X.ex\/X.s₀.heap.objs.size<=b)/\b≠X.env.locals/\(∀ x c,X.env.cells.lookup x=some c->c≠b)/\∀ p∈X.pn++f,p.1≠b):Inv X f g H' s':=by
 obtain⟨h',g',d',t',R⟩:=s';subst F;exact I.call u hok hg J
end
abbrev XK:=Value->Option Addr->Hp->Prop
abbrev St:=List (Option V)
abbrev VK:=V->Hp->Prop
abbrev TE:=St->Hp->VK->Prop
abbrev TT:=St->Hp->(Bool->Hp->Prop)->Prop
abbrev TA:=St->Hp->(List V->Hp->Prop)->Prop
structure pR where
 nx:St->Hp->Prop
 rt:VK
 bk:St->Hp->Prop:=λ_ _=>False
 ct:St->Hp->Prop:=λ_ _=>False
abbrev TS:=pR->St->Hp->Prop
def EP (X:Cx) (a:List (Addr×Obj)) (b:St) (Q:VK) (u:Value) (s':qaj):Prop:=∃ v H',Inv X a b H' s'/\aP v u/\Q v H'
def TP (X:Cx) (a:List (Addr×Obj)) (c:St) (Q:Bool->Hp->Prop) (b:Bool) (s':qaj):Prop:=∃ H',Inv X a c H' s'/\Q b H'
def AP (X:Cx) (a:List (Addr×Obj)) (c:St) (Q:List V->Hp->Prop) (d:List Value) (s':qaj):Prop:=∃ b H',Inv X a c H' s'/\aI b d/\Q b H'
def SP (X:Cx) (b:List (Addr×Obj)) (D:pR) (f:Flow) (s':qaj):Prop:=
 match f with
 |.next=>∃ a H',Inv X b a H' s'/\D.nx a H'
 |.brk=>∃ a H',Inv X b a H' s'/\D.bk a H'
 |.cont=>∃ a H',Inv X b a H' s'/\D.ct a H'
 |.ret u=>∃ v a H',Inv X b a H' s'/\aP v u/\D.rt v H'
def PE (X:Cx) (e:Expr) (t:TE):Prop:=
 ∀ (a:List (Addr×Obj)) (s:qaj) (b:St) (H:Hp) (Q:VK),Inv X a b H s->t b H Q->wpAny (model X.prog X.w) X.A (eval e X.env) (EP X a b Q) X.xe s
def PT (X:Cx) (e:Expr) (t:TT):Prop:=
 ∀ (a:List (Addr×Obj)) (s:qaj) (b:St) (H:Hp) (Q:Bool->Hp->Prop),Inv X a b H s->t b H Q->wpAny (model X.prog X.w) X.A (qjM e X.env (eval e X.env)) (TP X a b Q) X.xe s
def PW (X:Cx) (e:Expr) (t:TT):Prop:=
 ∀ (whole:Sem Value) (a:List (Addr×Obj)) (s:qaj) (b:St) (H:Hp) (Q:Bool->Hp->Prop),Inv X a b H s->t b H Q->wpAny (model X.prog X.w) X.A (qjM e X.env whole) (TP X a b Q) X.xe s
theorem PW.pt {X:Cx}{e:Expr}{t:TT} (h:PW X e t):PT X e t:=h _
def PA (X:Cx) (es:List Expr) (t:TA):Prop:=
 ∀ (pos:Pos) (a:List (Addr×Obj)) (s:qaj) (b:St) (H:Hp) (Q:List V->Hp->Prop),Inv X a b H s->t b H Q->wpAny (model X.prog X.w) X.A (spliced (qe9 pos (qbE es X.env))) (AP X a b Q) X.xe s
def PS (X:Cx) (st:Stmt) (t:TS):Prop:=
 ∀ (a:List (Addr×Obj)) (s:qaj) (b:St) (H:Hp) (D:pR),Inv X a b H s->t D b H->wpAny (model X.prog X.w) X.A (exec st X.env) (SP X a D) X.xe s
def PSs (X:Cx) (st:List Stmt) (t:TS):Prop:=
 ∀ (a:List (Addr×Obj)) (s:qaj) (b:St) (H:Hp) (D:pR),Inv X a b H s->t D b H->wpAny (model X.prog X.w) X.A (execs st X.env) (SP X a D) X.xe s
theorem thn {α:Type}{t:Sem α}{Q Q':α->qaj->Prop}{M:Model}{A:qa1}{E:Value->qaj->Prop}{s:qaj} (h:wpAny M A t Q E s) (b:∀ a s,Q a s->Q' a s):wpAny M A t Q' E s:=qct h b λ_ _ x=>x
section
variable {X:Cx}
def uU (i:Nat):TE:=λg H Q=>∃ v,g[i]?=some (some v)/\Q v H
def tC (v:V):TE:=λ_ H Q=>Q v H
theorem jU {i:Nat}{x:Str}{pos:Pos} (hN:X.N[i]?=some x) (B:Vis X.env.scope x) (hd:(x==("__debug__" : Str))=false:=by decide) (F:(x==("__classdict__" : Str))=false:=by decide):PE X (.Name x pos) (uU i):=by
 intro f s g H Q I h;obtain⟨v,e,h⟩:=h;obtain⟨m,hn,K⟩:=I.loc;obtain⟨u,r,l⟩:=K i x v hN e B;have fin:EP X f g Q u s:=⟨v,H,I,r,h⟩;rcases l with⟨z,hm⟩|⟨z,c,D,w⟩
 ·exact qiv (wpAny_loadName_local I.ok.kind z hn hm fin) hd
 ·rcases z with z|z
  ·exact qiv (wpAny_loadName_cell I.ok.kind z D w fin) hd
  ·exact qiv (wpAny_loadName_free I.ok.kind z D w fin F) hd
theorem Et {i j pos}:PE X (.Constant (.int i) j pos) (tC (.int i)):=λ_ _ _ H _ I h=>wpAny_Constant_int ⟨.int i,H,I.tok _,⟨_,U⟩,h⟩
theorem Gj {b j pos}:PE X (.Constant (.bool b) j pos) (tC (.bl b)):=λ_ _ _ H _ I h=>Constant_bool ⟨.bl b,H,I,U,h⟩
theorem Eu {j pos}:PE X (.Constant .none j pos) (tC .non):=λ_ _ _ H _ I h=>Constant_none ⟨.non,H,I,U,h⟩
theorem Ey {x j pos}:PE X (.Constant (.str x) j pos) (tC (.str x)):=λ_ _ _ H _ I h=>Calls.Constant_str ⟨.str x,H,I.tok _,⟨_,U⟩,h⟩
def Gl (X:Cx) (x:Str):Prop:=X.env.kindOf x=some .globalImplicit
theorem wH {E:Value->qaj->Prop}{f:List (Addr×Obj)}{s:qaj}{g:St}{H:Hp}{x:Str}{u:Value}{pos:Pos}{Q:Value->qaj->Prop} (I:Inv X f g H s) (hg:Gl X x) (hm:X.mg x=some u) (h:Q u s)
  (hd:(x==("__debug__" : Str))=false:=by decide):wpAny (model X.prog X.w) X.A (eval (.Name x pos) X.env) Q E s:=
 qfY I.ok.kind hg (Calls.loadGlobal_global (by rw[I.ok.glob];exact I.mod.glob.keeps I.bk) hm h) hd
theorem jQ {E:Value->qaj->Prop}{f:List (Addr×Obj)}{s:qaj}{g:St}{H:Hp}{x:Str}{u:Value}{pos:Pos}{Q:Value->qaj->Prop} (I:Inv X f g H s) (hg:Gl X x) (hm:X.mg x=none) (B:qch x=some u) (h:Q u s)
  (hn:x≠"__name__":=by decide) (hd:(x==("__debug__" : Str))=false:=by decide):wpAny (model X.prog X.w) X.A (eval (.Name x pos) X.env) Q E s:=by
 obtain⟨L,G,J⟩:=I.mod.blt;exact qfY I.ok.kind hg (Calls.loadGlobal_builtin (by rw[I.ok.glob];exact I.mod.glob.keeps I.bk) hm (by rw[I.ok.blt];exact G.keeps I.bk) ((J x hn).trans B) h) hd
theorem B4 {x:Str}{v:V}{u:Value}{pos:Pos} (hg:Gl X x) (hm:X.mg x=none) (B:qch x=some u) (r:aP v u) (hn:x≠"__name__":=by decide) (hd:(x==("__debug__" : Str))=false:=by decide):PE X (.Name x pos) (tC v):=
 λ_ _ _ H _ I h=>jQ I hg hm B ⟨v,H,I,r,h⟩ hn hd
variable {a b:Expr}{o p:TE}{pos:Pos}
variable {q y:TT}{rest:List Expr}
def Hv (t u:TT):TT:=λg H Q=>t g H λc H1=>if c=true then u g H1 Q else Q false H1
def tOr (t u:TT):TT:=λg H Q=>t g H λc H1=>if c=true then Q true H1 else u g H1 Q
def HC (t:TT):TT:=λg H Q=>t g H λc H1=>Q (!c) H1
theorem Co (n:PT X a q):PW X (.BoolOp .And [a] pos) q:=by
 intro C f s g H Q I h;refine isTrue_and (thn (n f s g H Q I h) λc s1 e=>?_);cases c with
 |true=>exact isTrue_and_nil e
 |false=>exact e
theorem EK (n:PT X a q):PW X (.BoolOp .Or [a] pos) q:=by
 intro C f s g H Q I h;refine isTrue_or (thn (n f s g H Q I h) λc s1 e=>?_);cases c with
 |false=>exact isTrue_or_nil e
 |true=>exact e
theorem At (n:PT X a q) (hb:PW X (.BoolOp .And (b::rest) pos) y):PW X (.BoolOp .And (a::b::rest) pos) (Hv q y):=by
 intro C f s g H Q I h;refine isTrue_and (thn (n f s g H _ I h) λc s1 ⟨H1,I1,k⟩=>?_);cases c with
 |true=>exact hb C f s1 g H1 Q I1 k
 |false=>exact⟨H1,I1,k⟩
theorem Dh (n:PT X a q) (hb:PW X (.BoolOp .Or (b::rest) pos) y):PW X (.BoolOp .Or (a::b::rest) pos) (tOr q y):=by
 intro C f s g H Q I h;refine isTrue_or (thn (n f s g H _ I h) λc s1 ⟨H1,I1,k⟩=>?_);cases c with
 |true=>exact⟨H1,I1,k⟩
 |false=>exact hb C f s1 g H1 Q I1 k
theorem EI (n:PT X a q):PT X (.UnaryOp .Not a pos) (HC q):=by
 intro f s g H Q I h;exact isTrue_not (n f s g H _ I h)
def GD (o p:TE):TE:=λg H Q=>o g H λx H1=>∃ c,x=.bl c/\if c=true then p g H1 Q else Q (.bl false) H1
def HD (o p:TE):TE:=λg H Q=>o g H λx H1=>∃ c,x=.bl c/\if c=true then Q (.bl true) H1 else p g H1 Q
def GM (o:TE):TE:=λg H Q=>o g H λx H1=>∃ c,x=.bl c/\Q (.bl (!c)) H1
theorem Ex {op}{t:TE} (h:PE X a t):PE X (.BoolOp op [a] pos) t:=λf s g H Q I hw=>BoolOp_one (h f s g H Q I hw)
theorem z8 (n:PE X a o) (hb:PE X (.BoolOp .And (b::rest) pos) p):PE X (.BoolOp .And (a::b::rest) pos) (GD o p):=by
 intro f s g H Q I h;refine BoolOp_and (thn (n f s g H _ I h) λv s1 ⟨x,H1,I1,A,k⟩=>?_);obtain⟨c,rfl,k⟩:=k;cases A;refine qcb ?_;cases c with
 |true=>exact hb f s1 g H1 Q I1 k
 |false=>exact⟨.bl false,H1,I1,U,k⟩
theorem De (n:PE X a o) (hb:PE X (.BoolOp .Or (b::rest) pos) p):PE X (.BoolOp .Or (a::b::rest) pos) (HD o p):=by
 intro f s g H Q I h;refine BoolOp_or (thn (n f s g H _ I h) λv s1 ⟨x,H1,I1,A,k⟩=>?_);obtain⟨c,rfl,k⟩:=k;cases A;refine qcb ?_;cases c with
 |false=>exact hb f s1 g H1 Q I1 k
 |true=>exact⟨.bl true,H1,I1,U,k⟩
theorem Ew (n:PE X a o):PE X (.UnaryOp .Not a pos) (GM o):=by
 intro f s g H Q I h;refine UnaryOp_ (thn (n f s g H _ I h) λv s1 ⟨x,H1,I1,A,k⟩=>?_);obtain⟨c,rfl,k⟩:=k;cases A;exact not_of (qcb ⟨.bl _,H1,I1,U,k⟩)
def tIf (t:TT) (o p:TE):TE:=λg H Q=>t g H λc H1=>if c=true then o g H1 Q else p g H1 Q
theorem uH {c:Expr} (D:PT X c q) (n:PE X a o) (hb:PE X b p):PE X (.IfExp c a b pos) (tIf q o p):=by
 intro f s g H Q I h;refine wpAny_IfExp (thn (D f s g H _ I h) λd s1 ⟨H1,I1,k⟩=>?_);cases d with
 |true=>exact n f s1 g H1 Q I1 k
 |false=>exact hb f s1 g H1 Q I1 k
end
def SqL (K:qae) (H:Hp) (a:Addr) (xs:List V):Prop:=
 Rd H a (.lst xs)\/
  ∃ (o:Obj) (b:Array Value) (n:Nat),K.lookup a=some o/\o.cls=.type "list"/\o.dict=none/\o.data=.seq b n/\b.size<=qaL/\aI xs b.toList
def SqT (K:qae) (H:Hp) (a:Addr) (xs:List V):Prop:=
 H a=some (.tup xs)\/
  ∃ (o:Obj) (b:Array Value) (n:Nat),K.lookup a=some o/\o.cls=.type "tuple"/\o.data=.seq b n/\b.size<=qaL/\aI xs b.toList/\o.dict=none
def G0:Value->Option V
 |.none=>some .non
 |.bool b=>some (.bl b)
 |.int i _=>some (.int i)
 |.str x _=>some (.str x)
 |.bytes b _=>some (.byt b)
 |.float b _=>some (.flt b)
 |.ref a=>some (.ref a)
 |.type n=>some (.ty n)
 |_=>none
theorem aP.abs {x:V}{u:Value} (r:aP x u):G0 u=some x:=by
 cases x with
 |non=>cases r;rfl
 |bl _=>cases r;rfl
 |int _=>obtain⟨t,rfl⟩:=r;rfl
 |str _=>obtain⟨t,rfl⟩:=r;rfl
 |byt _=>obtain⟨t,rfl⟩:=r;rfl
 |flt _=>obtain⟨t,rfl⟩:=r;rfl
 |ref _=>cases r;rfl
 |ty _=>cases r;rfl
theorem aP.inj {x y:V}{u:Value} (r:aP x u) (q:aP y u):x=y:=qaN (r.abs.symm.trans q.abs)
theorem aI.inj:∀ {xs a:List V}{b:List Value},aI xs b->aI a b->xs=a
 |_,_,_,.nil,.nil=>rfl
 |_,_,_,.cons r t,.cons c t'=>by rw[r.inj c,aI.inj t t']
section
variable {X:Cx}{f:List (Addr×Obj)}{l:St}{H:Hp}{s:qaj}{a:Addr}{xs m:List V}
theorem SqL.of {K:qae} (h:H a=some (.lst xs)):SqL K H a xs:=.inl (.inl h)
theorem SqT.of {K:qae} (h:H a=some (.tup xs)):SqT K H a xs:=.inl h
theorem Inv.list (I:Inv X f l H s) (h:SqL X.K H a xs):∃ b:List Value,aI xs b/\PlainL s.heap a b.toArray/\xs.length<=qaL:=by
 rcases h with h|⟨o,b,n,j,i,hd,q,u,r⟩
 ·obtain⟨z,b,n,r,e⟩:=h.ok I.hok
  exact⟨b,r,⟨_,n,e,U,U,U⟩,z⟩
 ·refine⟨b.toList,r,⟨o,n,I.kIn a o j,i,hd,by simpa using q⟩,?_⟩
  have e:=r.length;simp only[qcC]at e;lia
theorem Inv.tuple (I:Inv X f l H s) (h:SqT X.K H a xs):∃ b:List Value,aI xs b/\IsTup s.heap a b.toArray/\xs.length<=qaL:=by
 rcases h with h|⟨o,b,n,j,i,q,u,r,_⟩
 ·obtain⟨z,b,r,p⟩:=(Rd.of h).ok I.hok
  exact⟨b,r,p.tup,z⟩
 ·refine⟨b.toList,r,⟨o,I.kIn a o j,i,n,by simpa using q⟩,?_⟩
  have e:=r.length;simp only[qcC]at e;lia
theorem Inv.tuple1 (I:Inv X f l H s) (h:SqT X.K H a xs):∃ o:Obj,s.heap.get? a=some o/\o.cls=.type "tuple"/\o.dict=none:=by
 rcases h with h|⟨o,b,n,j,i,q,u,r,hd⟩
 ·obtain⟨z,b,r,o,e,c,_,hd⟩:=(Rd.of h).ok I.hok
  exact⟨o,e,c,hd⟩
 ·exact⟨o,I.kIn a o j,i,hd⟩
theorem Inv.list_inj (I:Inv X f l H s) (h:SqL X.K H a xs) (h':SqL X.K H a m):xs=m:=by
 obtain⟨b,r,⟨o,n,e,_,_,d⟩,_⟩:=I.list h;obtain⟨k,t,⟨w,v,g,_,_,d'⟩,_⟩:=I.list h';rw[e]at g;cases g;rw[d]at d';injection d' with d1 _
 have:=by simpa using congrArg qgL d1
 subst this;exact r.inj t
theorem Inv.tuple_inj (I:Inv X f l H s) (h:SqT X.K H a xs) (h':SqT X.K H a m):xs=m:=by
 obtain⟨b,r,⟨o,e,_,n,d⟩,_⟩:=I.tuple h;obtain⟨k,t,⟨w,g,_,v,d'⟩,_⟩:=I.tuple h';rw[e]at g;cases g;rw[d]at d';injection d' with d1 _
 have:=by simpa using congrArg qgL d1
 subst this;exact r.inj t
end
abbrev Cx.wish (X:Cx) (E:Value->qaj->Prop):Cx:={ X with xe:=E }
abbrev Cx.nox (X:Cx):Cx:=X.wish λ_ _=>False
theorem Cx.Ok.wish {X:Cx} (ok:X.Ok) (E:Value->qaj->Prop):(X.wish E).Ok:=
 ⟨ok.mod,ok.kind,ok.glob,ok.blt,ok.above,ok.inj,ok.has,ok.cab,ok.hd,ok.frames,ok.stk,ok.exf,ok.bs,ok.bsz,ok.noex,ok.exfs,ok.funs,ok.frf⟩
theorem Cx.Ok.unwish {X:Cx}{E:Value->qaj->Prop} (ok:(X.wish E).Ok):X.Ok:=
 ⟨ok.mod,ok.kind,ok.glob,ok.blt,ok.above,ok.inj,ok.has,ok.cab,ok.hd,ok.frames,ok.stk,ok.exf,ok.bs,ok.bsz,ok.noex,ok.exfs,ok.funs,ok.frf⟩
section
variable {X:Cx}{a:List (Addr×Obj)}{c:St}{H:Hp}{s:qaj}{E:Value->qaj->Prop}
theorem Inv.wish (I:Inv X a c H s) (E:Value->qaj->Prop):Inv (X.wish E) a c H s:=⟨I.ok.wish E,I.os,I.bare,I.base,I.loc,I.cell,I.free,I.freeC,I.pin,I.hok,I.len⟩
theorem Inv.unwish (I:Inv (X.wish E) a c H s):Inv X a c H s:=⟨I.ok.unwish,I.os,I.bare,I.base,I.loc,I.cell,I.free,I.freeC,I.pin,I.hok,I.len⟩
theorem SP.unwish {D:pR}{f:Flow}{s':qaj} (h:SP (X.wish E) a D f s'):SP X a D f s':=by
 cases f with
 |next=>obtain⟨b,H',I,q⟩:=h;exact⟨b,H',I.unwish,q⟩
 |brk=>obtain⟨b,H',I,q⟩:=h;exact⟨b,H',I.unwish,q⟩
 |cont=>obtain⟨b,H',I,q⟩:=h;exact⟨b,H',I.unwish,q⟩
 |ret u=>obtain⟨v,b,H',I,r,q⟩:=h;exact⟨v,b,H',I.unwish,r,q⟩
theorem PSs.nox {st:List Stmt}{t:TS} (h:PSs X.nox st t):PSs X st t:=λa s c H D I hw=>
 qct (h a s c H D (I.wish _) hw) (λ_ _ q=>q.unwish) λ_ _ z=>qcz z
end
section
variable {X:Cx}{st:Stmt}{rest:List Stmt}{t u:TS}{e:Expr}{te:TE}{pos:Pos}
def GL:TS:=λD i H=>D.nx i H
def HF (t u:TS):TS:=λD i H=>t { D with nx:=u D } i H
theorem Cg:PSs X [] GL:=λ_ _ i H _ I h=>qe5 ⟨i,H,I,h⟩
theorem dE (l:PS X st t) (z:PSs X rest u):PSs X (st::rest) (HF t u):=by
 intro g s i H D I h;refine qiT (thn (l g s i H { D with nx:=u D } I h) λf s1 q=>?_);cases f with
 |next=>
  obtain⟨m,H',I',q⟩:=q;exact z g s1 m H' D I' q
 |ret v=>exact q
 |brk=>exact q
 |cont=>exact q
theorem wY (l:PS X st t):PSs X [st] t:=by
 intro g s i H D I h;refine qiT (thn (l g s i H D I h) λf s1 q=>?_);cases f with
 |next=>exact qe5 q
 |ret v=>exact q
 |brk=>exact q
 |cont=>exact q
def E1:TS:=λD i H=>D.bk i H
def GH:TS:=λD i H=>D.ct i H
theorem An:PS X (.Break pos) E1:=λ_ _ i H _ I h=>wpAny_Break ⟨i,H,I,h⟩
theorem uK:PS X (.Continue pos) GH:=λ_ _ i H _ I h=>wpAny_Continue ⟨i,H,I,h⟩
theorem Inv.quiet {g:List (Addr×Obj)}{i:St}{H:Hp}{s:qaj} (I:Inv X g i H s):interactive X.env=false:=by simp[interactive,I.ok.kind]
def GJ (te:TE):TS:=λD i H=>te i H λ_ H1=>D.nx i H1
theorem Cf (k:PE X e te) (y:qcw e none pos.line X.env=pure false:=by rfl):PS X (.Expr e pos) (GJ te):=by
 intro g s i H D I h;exact wpAny_Expr_any (thn (k g s i H _ I h) λv s1 ⟨x,H1,I1,o,j⟩=>⟨i,H1,I1,j⟩) I.quiet y
def HE (te:TE):TS:=λD i H=>te i H D.rt
theorem EG (k:PE X e te):PS X (.Return (some e) pos) (HE te):=by
 intro g s i H D I h;exact wpAny_Return_some (thn (k g s i H _ I h) λv s1 ⟨x,H1,I1,o,j⟩=>⟨x,i,H1,I1,o,j⟩)
def Hy (c:TT) (t u:TS):TS:=λD i H=>c i H λb H1=>if b=true then t D i H1 else u D i H1
theorem Df {c:Expr}{a b:List Stmt}{p:TT} (w:PT X c p) (r:PSs X a t) (hb:PSs X b u):PS X (.If c a b pos) (Hy p t u):=by
 intro g s i H D I h;refine wpAny_If (thn (w g s i H _ I h) λd s1 ⟨H1,I1,j⟩=>?_);cases d with
 |true=>exact r g s1 i H1 D I1 j
 |false=>exact hb g s1 i H1 D I1 j
def E3:TS:=λ_ _ _=>False
theorem gk {n:List Stmt}:PSs X n E3:=λ_ _ _ _ _ _ h=>h.elim
end
abbrev TG:=V->St->Hp->(St->Hp->Prop)->Prop
abbrev TGs:=List V->St->Hp->(St->Hp->Prop)->Prop
def PG (X:Cx) (a:Expr) (t:TG):Prop:=
 ∀ (b:List (Addr×Obj)) (s:qaj) (d:St) (H:Hp) (v:V) (u:Value) (Q:St->Hp->Prop),Inv X b d H s->aP v u->t v d H Q->
  wpAny (model X.prog X.w) X.A (qge a X.env u) (λ_ s'=>∃ c H',Inv X b c H' s'/\Q c H') X.xe s
def PGs (X:Cx) (ts:List Expr) (t:TGs):Prop:=
 ∀ (a:List (Addr×Obj)) (s:qaj) (e:St) (H:Hp) (d:List V) (c:List Value) (Q:St->Hp->Prop),Inv X a e H s->aI d c->t d e H Q->
  wpAny (model X.prog X.w) X.A (assignInOrder ((qbY ts X.env).map (·.2)) c) (λ_ s'=>∃ b H',Inv X a b H' s'/\Q b H') X.xe s
abbrev Dw:=V->V->V->Hp->(Hp->Prop)->Prop
def Fh (X:Cx) (t:Dw):Prop:=
 ∀ (a:List (Addr×Obj)) (s:qaj) (c:St) (H:Hp) (o i v:V) (b iv u:Value) (Q:Hp->Prop),Inv X a c H s->aP o b->aP i iv->aP v u->t o i v H Q->
  wpAny (model X.prog X.w) X.A (qjI b iv u) (λ_ s'=>∃ H',Inv X a c H' s'/\Q H') X.xe s
section
variable {X:Cx}{pos:Pos}
def tH (i:Nat):TG:=λv d H Q=>Q (d.set i (some v)) H
theorem fB {i:Nat}{x:Str} (hN:X.N.Nodup) (hi:X.N[i]?=some x) (A:Loc X.env.scope x) (hf:X.fn x=true\/X.env.scope.names.lookup x=some .local:=by first|exact .inl U|exact .inr U|assumption):PG X (.Name x pos) (tH i):=by
 intro c s d H v u Q I r h;exact qiu (jd I hN hi A r (λs' I'=>⟨_,H,I',h⟩) hf)
def G6:TGs:=λl d H Q=>l=[]/\Q d H
def FG (t:TG) (u:TGs):TGs:=λl d H Q=>∃ v r,l=v::r/\t v d H λS H'=>u r S H' Q
theorem B8:PGs X [] G6:=by
 intro c s d H l V Q I r h;obtain⟨e,h⟩:=h;exact qiy ⟨d,H,I,h⟩
theorem Ad {e:Expr}{es:List Expr}{t:TG}{u:TGs} (O:PG X e t) (h2:PGs X es u)
  (m:(qbY (e::es) X.env).map (·.2)=qge e X.env::(qbY es X.env).map (·.2):=by rfl):PGs X (e::es) (FG t u):=by
 intro c s d H l V Q I r h;obtain⟨v,vr,F,h⟩:=h;subst F;cases r with
 |cons r rr=>
  rw[m];refine qfM (thn (O c s d H _ _ _ I r h) λ_ s1 ⟨σ1,H1,I1,f⟩=>?_);exact h2 c s1 σ1 H1 _ _ Q I1 rr f
def G8 (K:qae) (n:Nat) (t:TGs):TG:=λv d H Q=>∃ a xs,v=.ref a/\SqT K H a xs/\xs.length=n/\t xs d H Q
theorem EB {es:List Expr}{k:Nat}{t:TGs}{n:Nat} (P:X.calm=true) (h:PGs X es t)
  (hn:(qbY es X.env).length=n:=by rfl) (R:(qbY es X.env).findIdx? (·.1)=none:=by rfl):PG X (.Tuple es k pos) (G8 X.K n t):=by
 intro c s d H v u Q I r hw;obtain⟨a,xs,F,hq,hl,hw⟩:=hw;subst F;cases r;obtain⟨its,J,ht,hz⟩:=I.tuple hq;refine assign_Tuple_tuple (I.ok.hd P) ht (by simp[hn,<-hl,J.length]) R λh' A=>?_;exact h c _ d H xs _ Q (I.kept λb o e=>A b o (qax (qav e)) e) (by simpa using J) hw
def G7 (to ti:TE) (t:Dw):TG:=λv d H Q=>to d H λo H1=>ti d H1 λi H2=>t o i v H2 λH3=>Q d H3
theorem rZ {o i:Expr}{to ti:TE}{t:Dw} (ho:PE X o to) (hi:PE X i ti) (m:Fh X t)
  (ha:∀ v,qge (.Subscript o i pos) X.env v=(do
    let E <-qf2 [v] (eval o X.env)
    let iv <-qf2 [v,E] (eval i X.env)
    qjG pos
    qf2 [v,E,iv] (qjI E iv v)
    release [v,E,iv] []):=by intro _;rfl):PG X (.Subscript o i pos) (G7 to ti t):=by
 intro c s d H v u Q I r h;rw[ha];refine qab (qbU (thn (ho c s d H _ I h) λE s1 ⟨x,H1,I1,B,f⟩=>?_));refine qab (qbU (thn (hi c s1 d H1 _ I1 f) λiv L ⟨y,H2,I2,r2,q2⟩=>?_));refine qab (qeJ (qab (qbU (thn (m c L d H2 x y v E iv u _ I2 B r2 r q2) λ_ s3 ⟨H3,I3,q3⟩=>?_))));exact wpAny_release ⟨d,H3,I3,q3⟩
def EZ (te:TE) (g:TG):TS:=λD d H=>te d H λx H1=>g x d H1 D.nx
theorem ph {C e:Expr}{te:TE}{g:TG} (he:PE X e te) (hg:PG X C g) (m:qdH [C] e pos.line X.env=pure false:=by rfl) (hw:qdI [C] e X.env=pure none:=by rfl)
  (O:(qbY [C] X.env).map (·.2)=[qge C X.env]:=by rfl):PS X (.Assign [C] e pos) (EZ te g):=by
 intro c s d H D I h;refine wpAny_Assign_stores (thn (he c s d H _ I h) λv s1 ⟨x,H1,I1,B,f⟩=>?_) m hw;rw[O];exact thn (hg c s1 d H1 x v _ I1 B f) λ_ L q=>q
theorem EH {i:Nat}{x:Str}{e:Expr}{te:TE}{z:Pos} (hN:X.N.Nodup) (hi:X.N[i]?=some x) (A:Loc X.env.scope x) (he:PE X e te) (m:qcw e (some (.Name x z)) pos.line X.env=pure false:=by rfl) (hf:X.fn x=true\/X.env.scope.names.lookup x=some .local:=by first|exact .inl U|exact .inr U|assumption) :
  PS X (.Assign [.Name x z] e pos) (EZ te (tH i)):=by
 intro c s d H D I h;refine wpAny_Assign_Name (thn (he c s d H _ I h) λv s1 ⟨y,H1,I1,B,f⟩=>?_) m;exact jd I1 hN hi A B (λL I2=>⟨_,H1,I2,f⟩) hf
def GN (i j:Nat) (G:TA):TS:=λD d H=>G d H λl H1=>∃ v w,l=[v,w]/\D.nx ((d.set i (some v)).set j (some w)) H1
theorem pi {i j:Nat}{x y:Str}{a b:Expr}{G:TA}{Y py pt:Pos}{kt k2 pt2} (P:X.calm=true) (hN:X.N.Nodup) (hi:X.N[i]?=some x) (hj:X.N[j]?=some y) (T:i≠j)
  (A:X.env.scope.names.lookup x=some .local) (hy:X.env.scope.names.lookup y=some .local) (ha:PA X [a,b] G)
  (hw:qdI [.Tuple [.Name x Y,.Name y py] kt pt] (.Tuple [a,b] k2 pt2) X.env=pure (some [x,y]))
  (m:qdH [.Tuple [.Name x Y,.Name y py] kt pt] (.Tuple [a,b] k2 pt2) pos.line X.env=pure false:=by rfl) :
  PS X (.Assign [.Tuple [.Name x Y,.Name y py] kt pt] (.Tuple [a,b] k2 pt2) pos) (GN i j G):=by
 intro c s d H D I h;refine qab (qeJ ?_);refine qab (qan ?_);refine qab (Tuple_ (thn (ha _ c s d H _ I h) λV s1 ⟨l,H1,I1,B,f⟩=>?_));obtain⟨v,w,F,f⟩:=f;subst F;obtain⟨M,N,rfl,J,rw'⟩:∃ M N,V=[M,N]/\aP v M/\aP w N:=by
  cases B with
  |cons p q=>
   cases q with
   |cons p' q'=>
    cases q';exact⟨_,_,U,p,p'⟩
 refine qcc ?_ (by show 2<=qaL;decide);rw[hw];refine qab (qan ?_);refine qab (qdv (qab (unpackItems_tuple (items:=#[M,N]) (I.ok.hd P) (IsTup.new s1.heap _) λh' W=>?_)));refine qab (qfM (qjX (jd ((I1.kept λb o e=>qaf _ e).kept λb o e=>W b o (qax (qav e)) e) hN hj (.inl hy) rw' (λL I4=>?_) (.inr hy))));refine qfM (qjX (jd I4 hN hi (.inl A) J (λs3 I5=>qiy (qan ?_)) (.inr A)));rw[List.set_comm _ _ (qbo T)]at I5;exact⟨_,H1,I5,f⟩
end
section
variable {X:Cx}{pos:Pos}
def E4 (c:TT) (k:TS):TS:=λD i H=>∃ W:Nat->St->Hp->Prop,(∃ m,W m i H)/\∀ m i H,W m i H->
 c i H λb H1=>if b=true then ∃ N:St->Hp->Prop,(∀ e H',N e H'->∃ j,j<m/\W j e H')/\k { D with nx:=N,ct:=N,bk:=D.nx } i H1 else D.nx i H1
theorem Ap {c:Expr}{body:List Stmt}{t:TT}{k:TS} (r:qhM (model X.prog X.w) X.A X.env X.xe) (u:PT X c t) (hb:PSs X body k):PS X (.While c body [] pos) (E4 t k):=by
 intro d s i H D I h;obtain⟨W,⟨m0,w0⟩,turn⟩:=h;refine wpAny_While (codeAny_whileLoop (λn s'=>∃ e H',Inv X d e H' s'/\W n e H') ?_ m0 ⟨i,H,I,w0⟩)
 rintro n s1 ⟨g,H1,I1,w⟩
 refine qc8 r (thn (u d s1 g H1 _ I1 (turn n g H1 w)) λb x ⟨H2,I2,l⟩=>?_);cases b with
 |true=>
  obtain⟨N,hN,l⟩:=l;refine qc8 r (thn (hb d x g H2 _ I2 l) λf y o=>?_);cases f with
  |next=>
   obtain⟨a,H3,I3,q⟩:=o;obtain⟨j,hm,p⟩:=hN a H3 q;exact⟨j,hm,a,H3,I3,p⟩
  |cont=>
   obtain⟨a,H3,I3,q⟩:=o;obtain⟨j,hm,p⟩:=hN a H3 q;exact⟨j,hm,a,H3,I3,p⟩
  |brk=>exact o
  |ret v=>exact o
 |false=>
  exact qe5 ⟨g,H2,I2,l⟩
end
structure It where
 go:Nat->Hp->Prop
 yld:Nat->Hp->V->Hp->Prop
 stop:Nat->Hp->Prop
def jt (X:Cx) (a:List (Addr×Obj)) (H:Hp) (b:Addr):Prop:=
 H b=none/\b≠X.env.locals/\b∉X.fs/\(b∈X.ex\/X.s₀.heap.objs.size<=b)/\(∀ x c,X.env.cells.lookup x=some c->c≠b)/\∀ p∈X.pn++a,p.1≠b
theorem Inv.fpOk {X:Cx}{a:List (Addr×Obj)}{f:St}{H H':Hp}{s:qaj}{b:Addr} (I:Inv X a f H s) (hb:s.heap.objs.size<=b) (hn:H' b=none):jt X a H' b:=by
 refine⟨hn,qck (qaS I.lt hb),I.nofs hb,.inr (qaV I.sz hb),λx c e z=>?_,λp d z=>?_⟩
 ·obtain⟨v,q⟩:=I.cell x c e
  exact absurd (qaS q.lt (by rw[z];exact hb)) (qbd _)
 ·exact absurd (qaS (qav (I.pin p d).1) (by rw[z];exact hb)) (qbd _)
structure u7 (P:qaQ) (w:World) (K:qae) (tg:Expr) (J:It) (fp:List Addr) (it:Addr) (tn:Nat->Heap->Prop):Prop where
 mem:it∈fp
 obj:∀ i h,tn i h->∀ b∈fp,∃ o,h.get? b=some o/\∀ v,o.data≠.cell v
 keep:∀ i h h',tn i h->(∀ b∈fp,∀ o,h.get? b=some o->h'.get? b=some o)->tn i h'
 item:∀ (X:Cx),X.prog=P->X.w=w->X.K=K->X.calm=true->∀ (i:Nat) (pins:List (Addr×Obj)) (s:qaj) (σ:St) (H:Hp) (E:Value->qaj->Prop),Inv X pins σ H s->(∀ b∈fp,jt X pins H b)->tn i s.heap->J.go i H->
  wpAny (model P w) X.A (qg4 (.ref it)) (λr s1=>∃ u,r=some u/\
   wpAny (model P w) X.A (qgC tg (.ref it) u) (λ_ s2=>∃ x H',Inv X pins σ H' s2/\aP x u/\J.yld i H x H'/\tn (i+1) s2.heap/\∀ b∈fp,H' b=none) E s1) E s
 done:∀ (X:Cx),X.prog=P->X.w=w->X.K=K->X.calm=true->∀ (i:Nat) (pins:List (Addr×Obj)) (s:qaj) (σ:St) (H:Hp) (E:Value->qaj->Prop),Inv X pins σ H s->(∀ b∈fp,jt X pins H b)->tn i s.heap->J.stop i H->
  wpAny (model P w) X.A (qg4 (.ref it)) (λr s1=>r=none/\Inv X pins σ H s1) E s
 self:∀ (A:qa1) (i:Nat) (s:qaj) (Q:Value->qaj->Prop) (E:Value->qaj->Prop),tn i s.heap->Q (.ref it) s->wpAny (model P w) A (qhH (.ref it)) Q E s
abbrev TI:=St->Hp->(It->Hp->Prop)->Prop
def PIE (X:Cx) (a:List (Addr×Obj)) (i:St) (h:Expr) (R:It->Hp->Prop) (c:Value) (f:qaj):Prop:=
 ∃ (d:Addr) (e:List Addr) (g:Nat->Heap->Prop) (J:It) (H':Hp),c=.ref d/\Inv X a i H' f/\u7 X.prog X.w X.K h J e d g/\g 0 f.heap/\(∀ b∈e,jt X a H' b)/\R J H'
def PI (X:Cx) (c iter:Expr) (d:TI):Prop:=
 ∀ (a:List (Addr×Obj)) (s:qaj) (b:St) (H:Hp) (R:It->Hp->Prop),Inv X a b H s->d b H R->
  wpAny (model X.prog X.w) X.A (eval iter X.env) (λv s1=>wpAny (model X.prog X.w) X.A (qhH v) (PIE X a b c R) X.xe s1) X.xe s
theorem zm {M:Model}{A:qa1}{E:Value->qaj->Prop}{s:qaj}{c:Expr}{b:Addr}{u:Value}{o:Obj}{n:String}{e:Array Value}{Q:Unit->qaj->Prop} (f:s.heap.get? b=some o) (d:o.cls=.type n) (hd:o.data=.fields e)
  (hn:["enumerate","zip","dict_itemiterator","dict_reverseitemiterator","odict_iterator","itertools.zip_longest","itertools.pairwise"].contains n=false) (a:Q () s):wpAny M A (qgC c (.ref b) u) Q E s:=by
 cases c<;>first
  |exact qan a
  | (cases u<;>first
      |exact qan a
      | (refine qab (wpAny_load f ?_)
         rw[d,hd];show wpAny M A (if _=true then _ else _) Q E s;rw[iFN (by intro h;rw[hn]at h;cases h)]
         exact qan a))
def Itl (K:qae) (a:Addr):It:=
 ⟨λi H=>∃ xs x,SqL K H a xs/\xs[i]?=some x,λi H x H'=>H'=H/\∀ xs,SqL K H a xs->xs[i]?=some x,λi H=>∃ xs,SqL K H a xs/\xs.length<=i⟩
def Itt (K:qae) (a:Addr):It:=
 ⟨λi H=>∃ xs x,SqT K H a xs/\xs[i]?=some x,λi H x H'=>H'=H/\∀ xs,SqT K H a xs->xs[i]?=some x,λi H=>∃ xs,SqT K H a xs/\xs.length<=i⟩
def Itr (lo:Int) (n:Nat):It:=⟨λi _=>i<n,λi H x H'=>H'=H/\x=.int (lo+i),λi _=>n<=i⟩
theorem yN {P:qaQ}{w:World}{K:qae}{O:Expr} (a f:Addr):u7 P w K O (Itl K a) [f] f (λi h=>h.IsListIter f a i) where
 mem:=by simp
 obj:=λi h st b hb=>by
  have e:=by simpa using hb
  subst e;obtain⟨o,e,c,d⟩:=st;exact⟨o,e,λv z=>by rw[d]at z;cases z⟩
 keep:=λi h h' st k=>st.at λo e=>k f (by simp) o e
 item:=by
  intro X n hw t G i j s S H E I m st hg;subst n hw t;obtain⟨xs,x,l,F⟩:=hg;obtain⟨A,B,p,J⟩:=I.list l;obtain⟨u,R,Q⟩:=B.get F;obtain⟨r,y,T,D,q,C⟩:=m f (by simp);refine qc0 st p.isList (by simpa using R) λh' g M=>?_;obtain⟨o,e,c,d⟩:=id g;exact⟨u,U,zm e c d (by decide) ⟨x,H,(I.turned (λb o hb e=>(M.2 b hb).trans e) r y D q C),Q,⟨U,λV N=>by rw[I.list_inj N l];exact F⟩,g,λb hb=>(m b hb).1⟩⟩
 done:=by
  intro X n hw t G i j s S H E I m st hg;subst n hw t;obtain⟨xs,l,F⟩:=hg;obtain⟨A,B,p,J⟩:=I.list l;obtain⟨r,y,T,D,q,C⟩:=m f (by simp);have W:=B.length;exact qc7 (I.ok.hd G) st p.isList (by simp;lia) λh' L=>⟨U,I.turned (λb o hb e=>L b o hb e) r y D q C⟩
 self:=λ_ _ _ _ _ st h=>wpAny_pyIter_listiter st h
theorem wa {P:qaQ}{w:World}{K:qae}{O:Expr} (a f:Addr):u7 P w K O (Itt K a) [f] f (λi h=>h.IsTupleIter f a i) where
 mem:=by simp
 obj:=λi h st b hb=>by
  have e:=by simpa using hb
  subst e;obtain⟨o,e,c,d⟩:=st;exact⟨o,e,λv z=>by rw[d]at z;cases z⟩
 keep:=λi h h' st k=>st.at λo e=>k f (by simp) o e
 item:=by
  intro X n hw t G i j s S H E I m st hg;subst n hw t;obtain⟨xs,x,l,F⟩:=hg;obtain⟨A,B,p,J⟩:=I.tuple l;obtain⟨u,R,Q⟩:=B.get F;obtain⟨r,y,T,D,q,C⟩:=m f (by simp);refine wpAny_pyNext_tuple_item st (p) (by simpa using R) λh' g M=>?_;obtain⟨o,e,c,d⟩:=id g;exact⟨u,U,zm e c d (by decide) ⟨x,H,(I.turned (λb o hb e=>(M.2 b hb).trans e) r y D q C),Q,⟨U,λV N=>by rw[I.tuple_inj N l];exact F⟩,g,λb hb=>(m b hb).1⟩⟩
 done:=by
  intro X n hw t G i j s S H E I m st hg;subst n hw t;obtain⟨xs,l,F⟩:=hg;obtain⟨A,B,p,J⟩:=I.tuple l;obtain⟨r,y,T,D,q,C⟩:=m f (by simp);have W:=B.length;exact wpAny_pyNext_tuple_end (I.ok.hd G) st (p) (by simp;lia) λh' L=>⟨U,I.turned (λb o hb e=>L b o hb e) r y D q C⟩
 self:=λ_ _ _ _ _ st h=>wpAny_pyIter_tupleiter st h
theorem v8 {P:qaQ}{w:World}{K:qae}{B:Expr} (a:Addr) (lo:Int) (n:Nat):u7 P w K B (Itr lo n) [a] a (λi h=>IsRangeIter h a (lo+(i:Nat)*1) ((n:Int) - (i:Nat)) 1) where
 mem:=by simp
 obj:=λi h st b hb=>by
  have e:=by simpa using hb
  subst e
  exact⟨_,st,λv z=>by
   cases z⟩
 keep:=λi h h' st k=>k a (by simp) _ st
 item:=by
  intro X r hw x g i d s C H E I f st hg;obtain⟨l,m,D,q,j,p⟩:=f a (by simp);refine (Walks.range (I.ok.hd g) a lo 1 n).item i s _ _ hg st λv h' F y c A=>?_;obtain⟨t,rfl⟩:=y;refine⟨_,U,zm c U U (by decide) ⟨.int _,H,(I.turned (λb o hb e=>A b o (by simpa using hb) e) l m q j p),⟨t,?_⟩,⟨U,U⟩,c,λb hb=>(f b hb).1⟩⟩;rw[qc3]
 done:=by
  intro X r hw x g i d s C H E I f st hg;obtain⟨l,m,D,q,j,p⟩:=f a (by simp);exact wpAny_pyNext_range_end (I.ok.hd g) st (by have:n<=i:=hg;lia) λh' u=>⟨U,I.turned (λb o hb e=>u b o hb e) l m q j p⟩
 self:=λ_ _ _ _ _ st h=>wpAny_pyIter_rangeiter st h
section
variable {X:Cx}{L:Expr}
def FJ (K:qae) (tl:TE):TI:=λk H R=>tl k H λx H1=>∃ a,x=.ref a/\(∃ xs,SqL K H1 a xs)/\R (Itl K a) H1
def Ha (K:qae) (tl:TE):TI:=λk H R=>tl k H λx H1=>∃ a,x=.ref a/\(∃ xs,SqT K H1 a xs)/\R (Itt K a) H1
theorem B9 {l:Expr}{tl:TE} (hl:PE X l tl):PI X L l (FJ X.K tl):=by
 intro c s k H R I h;refine thn (hl c s k H _ I h) λv s1 ⟨x,H1,I1,P,M⟩=>?_;obtain⟨a,e,⟨xs,hq⟩,q⟩:=M;subst e;cases P;obtain⟨its,rv,p,hz⟩:=I1.list hq;refine qdR p.isList ?_;refine⟨s1.heap.objs.size,_,_,_,H1,U,I1.kept λb o e=>qaf _ e,yN a _,⟨_,qas _ U,U,U⟩,λb hb=>?_,q⟩;have e:=by simpa using hb
 subst e;exact I1.fpOk (qap _) (I1.hok.fresh (qap _))
theorem EC {l:Expr}{tl:TE} (hl:PE X l tl):PI X L l (Ha X.K tl):=by
 intro c s k H R I h;refine thn (hl c s k H _ I h) λv s1 ⟨x,H1,I1,P,M⟩=>?_;obtain⟨a,e,⟨xs,hq⟩,q⟩:=M;subst e;cases P;obtain⟨its,rv,p,hz⟩:=I1.tuple hq;refine qc5 (p) ?_;refine⟨s1.heap.objs.size,_,_,_,H1,U,I1.kept λb o e=>qaf _ e,wa a _,⟨_,qas _ U,U,U⟩,λb hb=>?_,q⟩;have e:=by simpa using hb
 subst e;exact I1.fpOk (qap _) (I1.hok.fresh (qap _))
theorem Aw {c:List (Addr×Obj)}{k:St}{H:Hp}{s:qaj}{R:It->Hp->Prop}{E:Value->qaj->Prop}{lo hi:Int}{t u v:Tok}{tk:Nat} (I:Inv X c k H s) (h1:-(2^62)<=lo) (h2:lo<2^62) (h3:-(2^62)<=hi) (h4:hi<2^62)
  (q:R (Itr lo (hi - lo).toNat) H):wpAny (model X.prog X.w) X.A (qhH (.ref s.heap.objs.size)) (PIE X c k L R) E { s with heap:=s.heap.push { cls:=.type "range",data:=.fields #[.int lo t,.int hi u,.int 1 v] },toks:=tk }:=by
 refine wpAny_pyIter_range (IsRange.new ..) (small_one h1 h2 h3 h4) ?_;have I1:Inv X c k H { s with heap:=s.heap.push { cls:=.type "range",data:=.fields #[.int lo t,.int hi u,.int 1 v] },toks:=tk }:=I.kept λb o e=>qaf _ e
 refine⟨_,_,_,_,H,U,
  I1.kept λb o e=>qaf _ e,v8 _ lo (hi - lo).toNat,?_,λb hb=>?_,q⟩
 ·have e1:lo+((0:Nat))*1=lo:=by simp
  have e2:(((hi - lo).toNat)) - ((0:Nat))=qfn lo hi 1:=by rw[qhi];split<;>lia
  rw[e1,e2];exact qas _ U
 ·have e:b=(s.heap.push { cls:=.type "range",data:=.fields #[.int lo t,.int hi u,.int 1 v] }).objs.size:=by simpa using hb
  subst e;exact I1.fpOk (qap _) (I1.hok.fresh (qap _))
def FK (ta:TA):TI:=λk H R=>ta k H λvs H1=>∃ j:Int,vs=[.int j]/\-(2^62)<=j/\j<2^62/\R (Itr 0 j.toNat) H1
theorem yA {a:Expr}{ta:TA}{p pos:Pos} (hg:Gl X "range") (hm:X.mg "range" = none) (ha:PA X [a] ta) (hs:qbE [a] X.env=[(false,eval a X.env)]:=by rfl):PI X L (.Call (.Name "range" p) [a] [] pos) (FK ta):=by
 intro c s k H R I h;refine Call_ (jQ I hg hm boot_range (qcg (thn (ha pos c s k H _ I h) λus s1 ⟨vs,H1,I1,P,M⟩=>?_) hs U));obtain⟨j,e,M,q2,q⟩:=M;subst e;cases P with
 |cons r rr=>
  cases rr;obtain⟨t,rfl⟩:=r;exact call_range_1 (Aw I1 (by lia) (by lia) M q2 (by simpa using q))
def Hx (Y:TI) (g:TG) (tb:TS):TS:=λD k H=>Y k H λJ H1=>∃ W:Nat->Nat->St->Hp->Prop,(∃ m,W 0 m k H1)/\∀ i m k H,W i m k H->
 (J.stop i H/\D.nx k H)\/(J.go i H/\∃ N:St->Hp->Prop,(∀ y H',N y H'->∃ m',m'<m/\W (i+1) m' y H')/\∀ x H',J.yld i H x H'->g x k H' λσ2 H2=>tb { D with nx:=N,ct:=N,bk:=D.nx } σ2 H2)
def pf (A:List Addr) (h:Heap):List (Addr×Obj):=A.filterMap λb=>(h.get? b).map λo=>(b,o)
theorem cJ {A:List Addr}{h:Heap}{b:Addr}{o:Obj} (hb:b∈A) (e:h.get? b=some o):(b,o)∈pf A h:=qfh.mpr ⟨b,hb,by rw[e];rfl⟩
theorem yw {A:List Addr}{h:Heap}{p:Addr×Obj} (B:p∈pf A h):p.1∈A/\h.get? p.1=some p.2:=by
 obtain⟨b,hb,e⟩:=qfh.mp B;cases q:h.get? b with
 |none=>rw[q]at e;cases e
 |some o=>
  rw[q]at e;have e':=qaN e;subst e';exact⟨hb,q⟩
theorem Inv.pinned {c:List (Addr×Obj)}{k:St}{H:Hp}{s:qaj}{A:List Addr} (I:Inv X c k H s) (hf:∀ b∈A,jt X c H b) (ho:∀ b∈A,∃ o,s.heap.get? b=some o/\∀ v,o.data≠.cell v):Inv X (c++pf A s.heap) k H s:=
 I.pins_of λp B=>(qaO.mp B).elim (λz=>I.pin p (qau _ z)) λz=>by
  obtain⟨hb,e⟩:=yw z;obtain⟨f0,f1,f2,_⟩:=hf p.1 hb;obtain⟨o,e',d⟩:=ho p.1 hb;rw[e]at e';cases e';exact⟨e,f0,f1,f2,d⟩
theorem Inv.unpinned {c pl:List (Addr×Obj)}{k:St}{H:Hp}{s:qaj} (I:Inv X (c++pl) k H s):Inv X c k H s:=I.pins_of λp B=>I.pin p (qau _ (qaX _ B))
theorem EF {iter:Expr}{body:List Stmt}{Y:TI}{g:TG}{tb:TS}{pos:Pos} (B:qhM (model X.prog X.w) X.A X.env X.xe) (hc:X.calm=true) (hi:PI X L iter Y) (hg:PG X L g) (hb:PSs X body tb)
  (hs:∀ x,qbX iter X.env x=pure x:=by intro _;rfl):PS X (.For L iter body [] pos) (Hx Y g tb):=by
 intro c s k H D I h;refine wpAny_For (thn (hi c s k H _ I h) λv s1 h1=>thn h1 λitv s2 h2=>?_) hs;obtain⟨it,A,tn,J,H2,e,I2,T,st2,f2,W,⟨m0,w0⟩,turn⟩:=h2;subst e
 -- what stays true of the iterator's objects through the loop
 have F:∀ {H':Hp},(∀ b∈A,H' b=none)->∀ b∈A,jt X c H' b:=λhn b hb=>⟨hn b hb,(f2 b hb).2⟩;refine codeAny_forLoop_any (λn s'=>∃ i y H',Inv X c y H' s'/\tn i s'.heap/\(∀ b∈A,H' b=none)/\W i n y H') ?_ m0 ⟨0,k,H2,I2,st2,λb hb=>(f2 b hb).1,w0⟩
 rintro n s3 ⟨i,C,H3,I3,S,Q,w3⟩
 rcases turn i n C H3 w3 with⟨stop,qn⟩|⟨go,N,hN,step⟩
 ·refine qc8 B (thn (T.done X U U U hc i c s3 C H3 X.xe I3 (F Q) S stop) λr s4 ⟨hr,I4⟩=>?_)
  subst hr;exact qe5 ⟨C,H3,I4,qn⟩
 ·refine qc8 B (thn (T.item X U U U hc i c s3 C H3 X.xe I3 (F Q) S go) λr s4 ⟨u,hr,h4⟩=>?_)
  subst hr;refine qc8 B (thn h4 λ_ s5 ⟨x,H5,I5,r5,y5,O,fr5⟩=>?_);refine qc8 B (thn (hg _ s5 C H5 x u _ (I5.pinned (F fr5) (T.obj _ _ O)) r5 (step x H5 y5)) λ_ s6 ⟨σ6,H6,I6,q6⟩=>?_);refine qc8 B (thn (hb _ s6 σ6 H6 _ I6 q6) λf s7 G=>?_);have again:∀ {w:St}{H7:Hp},Inv X _ w H7 s7->N w H7->∃ m,m<n/\∃ i y H',Inv X c y H' s7/\tn i s7.heap/\(∀ b∈A,H' b=none)/\W i m y H':=λ{w H7} I7 V=>by
   obtain⟨m',hm,w7⟩:=hN w H7 V;refine⟨m',hm,_,w,H7,I7.unpinned,T.keep _ _ _ O λb hb o e=>(I7.pin (b,o) (qau _ (qau _ (cJ hb e)))).1,λb hb=>?_,w7⟩;obtain⟨o,e,d⟩:=T.obj _ _ O b hb;exact (I7.pin (b,o) (qau _ (qau _ (cJ hb e)))).2.1
  cases f with
  |next=>obtain⟨w,H7,I7,V⟩:=G;exact again I7 V
  |cont=>obtain⟨w,H7,I7,V⟩:=G;exact again I7 V
  |brk=>obtain⟨w,H7,I7,G⟩:=G;exact⟨w,H7,I7.unpinned,G⟩
  |ret v=>obtain⟨x7,w,H7,I7,r7,G⟩:=G;exact⟨x7,w,H7,I7.unpinned,r7,G⟩
end
abbrev R2:=V->V->Hp->VK->Prop
def OpR (X:Cx) (f:Value->Value->Sem Value) (r:R2):Prop:=
 ∀ (a:List (Addr×Obj)) (s:qaj) (b:St) (H:Hp) (x y:V) (v u:Value) (Q:VK),Inv X a b H s->aP x v->aP y u->r x y H Q->
  wpAny (model X.prog X.w) X.A (f v u) (EP X a b Q) X.xe s
def UnR (X:Cx) (f:Value->Sem Value) (r:V->Hp->VK->Prop):Prop:=
 ∀ (a:List (Addr×Obj)) (s:qaj) (b:St) (H:Hp) (x:V) (v:Value) (Q:VK),Inv X a b H s->aP x v->r x H Q->
  wpAny (model X.prog X.w) X.A (f v) (EP X a b Q) X.xe s
def bG (X:Cx) (f:Value) (r:List V->Hp->VK->Prop):Prop:=
 ∀ (a:List (Addr×Obj)) (s:qaj) (b:St) (H:Hp) (xs:List V) (c:List Value) (Q:VK),Inv X a b H s->aI xs c->r xs H Q->
  wpAny (model X.prog X.w) X.A (call f c) (EP X a b Q) X.xe s
def GZ (X:Cx) (r:V->Hp->(Bool->Hp->Prop)->Prop):Prop:=
 ∀ (a:List (Addr×Obj)) (s:qaj) (b:St) (H:Hp) (x:V) (v:Value) (Q:Bool->Hp->Prop),Inv X a b H s->aP x v->r x H Q->
  wpAny (model X.prog X.w) X.A (truthy v) (TP X a b Q) X.xe s
def tOp (r:R2) (c b:TE):TE:=λa H Q=>c a H λx H1=>b a H1 λy H2=>r x y H2 Q
def tUn (r:V->Hp->VK->Prop) (a:TE):TE:=λb H Q=>a b H λx H1=>r x H1 Q
def rI (C:Int->Int->Prop) (g:Int->Int->V):R2:=λx y H Q=>∃ i j,x=.int i/\y=.int j/\C i j/\Q (g i j) H
def rI0 (g:Int->Int->V):R2:=λx y H Q=>∃ i j,x=.int i/\y=.int j/\Q (g i j) H
def rU (g:Int->V):V->Hp->VK->Prop:=λx H Q=>∃ i,x=.int i/\Q (g i) H
section
variable {X:Cx}{a b c:Expr}{o D O:TE}{pos:Pos}
theorem DB (A:PE X a o) (hb:PE X b D) {d:List (Addr×Obj)}{s:qaj}{l:St}{H:Hp}{R:V->V->Hp->Prop} (I:Inv X d l H s)
  (h:o l H λx H1=>D l H1 λy H2=>R x y H2) {Q:Value->qaj->Prop}{f:Value->Value->Sem Value}
  (N:∀ v u p x y H2,Inv X d l H2 p->aP x v->aP y u->R x y H2->wpAny (model X.prog X.w) X.A (f v u) Q X.xe p) :
  wpAny (model X.prog X.w) X.A (eval a X.env) (λv z=>wpAny (model X.prog X.w) X.A (eval b X.env) (λu w=>wpAny (model X.prog X.w) X.A (f v u) Q X.xe w) X.xe z) X.xe s:=by
 refine thn (A d s l H _ I h) λv s1 ⟨x,H1,I1,G,J⟩=>?_;refine thn (hb d s1 l H1 _ I1 J) λu p ⟨y,H2,I2,M,L⟩=>?_;exact N v u p x y H2 I2 G M L
theorem Dd {op:Operator}{r:R2} (K:OpR X (qbI op) r) (A:PE X a o) (hb:PE X b D):PE X (.BinOp a op b pos) (tOp r o D):=by
 intro d s l H Q I h;exact wpAny_BinOp (DB A hb I h λv u p x y H2 I2 m n q=>K d p l H2 x y v u Q I2 m n q)
theorem Gm {op:UnaryOp}{r:V->Hp->VK->Prop} (K:UnR X (unaryOp op) r) (A:PE X a o):PE X (.UnaryOp op a pos) (tUn r o):=by
 intro d s l H Q I h;exact UnaryOp_ (thn (A d s l H _ I h) λv s1 ⟨x,H1,I1,G,J⟩=>K d s1 l H1 x v Q I1 G J)
theorem opI {f:Value->Value->Sem Value}{C:Int->Int->Prop}{g:Int->Int->Int}
  (rule:∀ (i j:Int) (t u:Tok) (s:qaj) (Q:Value->qaj->Prop) (E:Value->qaj->Prop),C i j->Q (.int (g i j) s.toks) { s with toks:=s.toks+1 }->wpAny (model X.prog X.w) X.A (f (.int i t) (.int j u)) Q E s) :
  OpR X f (rI C λi j=>.int (g i j)):=by
 intro d s l H x y v u Q I m n h;obtain⟨i,j,rfl,rfl,e,q⟩:=h;obtain⟨t,rfl⟩:=m;obtain⟨t',rfl⟩:=n;exact rule i j t t' s _ _ e ⟨.int _,H,I.tok _,⟨_,U⟩,q⟩
theorem Ee {f:Value->Value->Sem Value}{g:Int->Int->Int}
  (rule:∀ (i j:Int) (t u:Tok) (s:qaj) (Q:Value->qaj->Prop) (E:Value->qaj->Prop),Q (.int (g i j) s.toks) { s with toks:=s.toks+1 }->wpAny (model X.prog X.w) X.A (f (.int i t) (.int j u)) Q E s) :
  OpR X f (rI0 λi j=>.int (g i j)):=by
 intro d s l H x y v u Q I m n h;obtain⟨i,j,rfl,rfl,q⟩:=h;obtain⟨t,rfl⟩:=m;obtain⟨t',rfl⟩:=n;exact rule i j t t' s _ _ ⟨.int _,H,I.tok _,⟨_,U⟩,q⟩
theorem BW {f:Value->Value->Sem Value}{g:Int->Int->Bool}
  (rule:∀ (i j:Int) (t u:Tok) (s:qaj) (Q:Value->qaj->Prop) (E:Value->qaj->Prop),Q (.bool (g i j)) s->wpAny (model X.prog X.w) X.A (f (.int i t) (.int j u)) Q E s) :
  OpR X f (rI0 λi j=>.bl (g i j)):=by
 intro d s l H x y v u Q I m n h;obtain⟨i,j,rfl,rfl,q⟩:=h;obtain⟨t,rfl⟩:=m;obtain⟨t',rfl⟩:=n;exact rule i j t t' s _ _ ⟨.bl _,H,I,U,q⟩
def GX (i j:Int):Prop:=0<j/\j<1073741824
def mR (i j:Int):Prop:=0<=j/\j<=1000000/\i.natAbs<2^64
def Bb (i j:Int):Prop:=(-(2^64)<i/\i<2^64)\/(-(2^64)<j/\j<2^64)
theorem Bb.ok {i j:Int} (h:Bb i j):qgv i j:=by
 rcases h with⟨B,F⟩|⟨B,F⟩
 ·exact .of_left (intBits_le_64 B F)
 ·exact .of_right (intBits_le_64 B F)
theorem wc (k:Nat):(0:Int)<=2^k:=by
 exact Int.natCast_nonneg _
theorem Eg:OpR X (qbI .Add) (rI0 λi j=>.int (i+j)):=Ee λ_ _ _ _ _ _ _ q=>add_int q
theorem Eo:OpR X (qbI .Sub) (rI0 λi j=>.int (i - j)):=Ee λ_ _ _ _ _ _ _ q=>sub_int q
theorem BZ:OpR X (qbI .FloorDiv) (rI GX λi j=>.int (i / j)):=opI λi j _ _ _ _ _ e q=>by
 have B:=e.1;have F:=e.2;exact floordiv_int (by lia) (by rw[qd8 i (by lia)];exact q) (.inl (PyProof.noPylong_small (by lia)))
theorem Ek:OpR X (qbI .Mod) (rI (λ_ j=>0<j) λi j=>.int (i%j)):=opI λi j _ _ _ _ _ e q=>by
 exact mod_int' (by lia) (by rw[Int.fmod_eq_emod_of_nonneg i (by lia)];exact q)
theorem El:OpR X (qbI .Pow) (rI mR λi j=>.int (i^j.toNat)):=opI λ_ _ _ _ _ _ _ e q=>pow_int_small e.1 e.2.1 e.2.2 q
theorem Em:OpR X (qbI .LShift) (rI mR λi j=>.int (i*2^j.toNat)):=opI λ_ _ _ _ _ _ _ e q=>lshift_int_small e.1 e.2.1 e.2.2 q
theorem En:OpR X (qbI .RShift) (rI (λ_ j=>0<=j) λi j=>.int (i / 2^j.toNat)):=opI λi j _ _ _ _ _ e q=>
 rshift_int e (by rw[qd8 i (wc _)];exact q)
theorem Eh:OpR X (qbI .BitAnd) (rI0 λi j=>.int (qd2 i j)):=Ee λ_ _ _ _ _ _ _ q=>and_int q
theorem unI {f:Value->Sem Value}{g:Int->Int}
  (rule:∀ (i:Int) (t:Tok) (s:qaj) (Q:Value->qaj->Prop) (E:Value->qaj->Prop),Q (.int (g i) s.toks) { s with toks:=s.toks+1 }->wpAny (model X.prog X.w) X.A (f (.int i t)) Q E s) :
  UnR X f (rU λi=>.int (g i)):=by
 intro d s l H x v Q I m h;obtain⟨i,rfl,q⟩:=h;obtain⟨t,rfl⟩:=m;exact rule i t s _ _ ⟨.int _,H,I.tok _,⟨_,U⟩,q⟩
theorem E8:UnR X (unaryOp .USub) (rU λi=>.int (-i)):=unI λ_ _ _ _ _ q=>neg_int q
end
section
variable {X:Cx}{a b c:Expr}{E M tc:TE}{pos:Pos}
theorem zi {d:List (Addr×Obj)}{f:St}{H:Hp}{s:qaj}{Q:VK}{k k':Bool} (I:Inv X d f H s) (q:Q (.bl k) H) (e:k=k'):EP X d f Q (.bool k') s:=by
 subst e;exact⟨.bl k,H,I,U,q⟩
theorem Gh:OpR X (qbM .Lt) (rI0 λi j=>.bl (decide (i<j))):=BW λ_ _ _ _ _ _ _ q=>lt_int q
theorem Gg:OpR X (qbM .LtE) (rI0 λi j=>.bl (decide (i<=j))):=BW λ_ _ _ _ _ _ _ q=>le_int q
theorem Gf:OpR X (qbM .Gt) (rI0 λi j=>.bl (decide (j<i))):=BW λ_ _ _ _ _ _ _ q=>gt_int q
theorem Ge:OpR X (qbM .GtE) (rI0 λi j=>.bl (decide (j<=i))):=BW λ_ _ _ _ _ _ _ q=>ge_int q
theorem Ei:OpR X (qbM .Is) (λx y H Q=>y=.non/\Q (.bl (decide (x=.non))) H):=by
 intro d s f H x y v u Q I l D h;obtain⟨rfl,q⟩:=h;cases D;refine is_none_gen (zi I q ?_);cases x<;>first
  |(rfl)
  |(obtain⟨t,rfl⟩:=l;rfl)
theorem B1:OpR X (qbM .IsNot) (λx y H Q=>y=.non/\Q (.bl (!decide (x=.non))) H):=by
 intro d s f H x y v u Q I l D h;obtain⟨rfl,q⟩:=h;cases D;refine isnot_none_gen (zi I q ?_);cases x<;>first
  |(rfl)
  |(obtain⟨t,rfl⟩:=l;rfl)
theorem B5 {op:CmpOp}{r:R2} (ho:OpR X (qbM op) r) (J:PE X a E) (hb:PE X b M) (hm:qfL op b=false):PE X (.Compare a [op] [b] pos) (tOp r E M):=by
 intro d s f H Q I h;exact wpAny_Compare1 (DB J hb I h λv u T x y H2 I2 l D q=>ho d T f H2 x y v u Q I2 l D q) hm
def GP (t:TE):TT:=λf H Q=>t f H λx H'=>∃ k,x=.bl k/\Q k H'
theorem Ci {op:CmpOp}{r:R2} (ho:OpR X (qbM op) r) (J:PE X a E) (hb:PE X b M) (hm:qfL op b=false):PT X (.Compare a [op] [b] pos) (GP (tOp r E M)):=by
 intro d s f H Q I h
 refine wpAny_isTrue_Compare1 (thn (J d s f H _ I h) λv s1 ⟨x,H1,I1,o,S⟩=>thn (hb d s1 f H1 _ I1 S) λu T ⟨y,H2,I2,G,q2⟩=>
  thn (ho d T f H2 x y v u _ I2 o G q2) λc s3 ⟨z,H3,I3,W,k,e,q3⟩=>?_) hm
 subst e;cases W;exact qcb ⟨H3,I3,q3⟩
def Bg (K:qae) (x:V) (H:Hp) (k:Bool):Prop:=
 match x with
 |.non=>k=false
 |.bl b=>k=b
 |.int i=>k=(i != 0)
 |.str y=>y.length<=qaL/\k=((y.length:Int) != 0)
 |.byt y=>y.size<=qaL/\k=((y.size:Int) != 0)
 |.ref p=>(∃ xs,SqL K H p xs/\k=!xs.isEmpty)\/(∃ xs,SqT K H p xs/\k=!xs.isEmpty)\/∃ g,H p=some (.dK g)/\k=!g.isEmpty
 |_=>False
theorem vB {κ:Type}{g:List (κ×V)}{F:List (κ×Value)} (r:KV g F):(!F.isEmpty)=!g.isEmpty:=by
 cases r<;>rfl
theorem oa {xs:List V}{w:List Value} (r:aI xs w):(!w.toArray.isEmpty)=!xs.isEmpty:=by
 cases r<;>simp
theorem lJ:(qaL:Nat)<2^63:=by decide
theorem E5:GZ X (λx H Q=>∃ k,Bg X.K x H k/\Q k H):=by
 intro d s f H x v Q I l h;obtain⟨k,e,q⟩:=h;have hs:=qdu;cases x with
 |non=>
  cases l;subst e;exact truthy_none ⟨H,I,q⟩
 |bl b=>
  cases l;subst e;exact qcb ⟨H,I,q⟩
 |int i=>
  obtain⟨t,rfl⟩:=l;subst e;exact PySem.P.truthy_int ⟨H,I,q⟩
 |str y=>
  obtain⟨t,rfl⟩:=l;obtain⟨hy,n⟩:y.length<=qaL/\k=_:=e;subst n;exact PySem.P.truthy_str (by lia) ⟨H,I.tok _,q⟩
 |byt y=>
  obtain⟨t,rfl⟩:=l;obtain⟨hy,n⟩:y.size<=qaL/\k=_:=e;subst n;exact PySem.W.truthy_bytes (by lia) ⟨H,I.tok _,q⟩
 |ref p=>
  cases l;have n:=e;rcases n with⟨xs,L,n⟩|⟨xs,L,n⟩|⟨g,L,n⟩
  ·subst n
   obtain⟨w,r,P,N⟩:=I.list L;have C:=r.length;exact wpAny_truthy_list P.isList (by simp only[qaH];lia) ⟨H,I.tok _,by rw[oa r];exact q⟩
  ·subst n
   obtain⟨w,r,P,N⟩:=I.tuple L;have C:=r.length;exact truthy_tuple P (by simp only[qaH];lia) ⟨H,I.tok _,by rw[oa r];exact q⟩
  ·subst n
   obtain⟨N,hS,F,r,m⟩:g.length<=qaL/\(p==qcu)=false/\∃ F,KV g F/\s.heap.DictOf _ p F:=I.hok p _ L;have C:=qeY r;exact wpAny_truthy_dict hS m (by lia) ⟨H,I.tok _,by rw[vB r];exact q⟩
 |_=>exact (show False from e).elim
theorem Aq (J:PE X a E) (he:∀ whole,qjM a X.env whole=(do let v <-whole;qjG a.pos;qf2 [v] (truthy v))) :
  PT X a (λf H Q=>E f H λx H'=>∃ k,Bg X.K x H' k/\Q k H'):=by
 intro d s f H Q I h;exact isTrue_plain (thn (J d s f H _ I h) λv s1 ⟨x,H1,I1,o,S⟩=>E5 d s1 f H1 x v Q I1 o S) (he _)
theorem vT:OpR X (qbI .Add) (λx y H Q=>∃ i j,x=.str i/\y=.str j/\i.length+j.length<=qaL/\Q (.str (i++j)) H):=by
 intro d s f H x y v u Q I l D h;obtain⟨i,j,rfl,rfl,N,q⟩:=h;obtain⟨t,rfl⟩:=l;obtain⟨t',rfl⟩:=D;exact add_str (λt' Y=>⟨.str _,H,I.tok _,⟨_,U⟩,q⟩) N
theorem gr {x:V}{A:List Value} (r:aI [x] A):∃ u,A=[u]/\aP x u:=by
 cases r with
 |cons o G=>cases G;exact⟨_,U,o⟩
theorem Ds {x y:V}{A:List Value} (r:aI [x,y] A):∃ u O,A=[u,O]/\aP x u/\aP y O:=by
 cases r with
 |cons o G=>
  cases G with
  |cons W r4=>cases r4;exact⟨_,_,U,o,W⟩
theorem yY:bG X (.builtin "abs") (λxs H Q=>∃ i,xs=[.int i]/\Q (.int (if i<0 then -i else i)) H):=by
 intro d s f H xs A Q I r h;obtain⟨i,rfl,q⟩:=h;obtain⟨u,rfl,t,rfl⟩:=gr r;exact call_abs_int λu Y=>⟨.int _,H,I.tok _,⟨_,U⟩,q⟩
theorem xP (R:X.calm=true):bG X (.builtin "max") (λxs H Q=>∃ i j,xs=[.int i,.int j]/\Q (.int (if j > i then j else i)) H):=by
 intro d s f H xs A Q I r h;obtain⟨i,j,rfl,q⟩:=h;obtain⟨u,O,rfl,⟨t,rfl⟩,⟨t',rfl⟩⟩:=Ds r;refine max_two_ints (I.ok.hd R) λh' Y k=>⟨_,H,I.kept k,?_,q⟩;by_cases B:j > i
 ·rw[iFP B,iFP B];exact⟨_,U⟩
 ·rw[iFN B,iFN B];exact⟨_,U⟩
theorem xR (R:X.calm=true):bG X (.builtin "min") (λxs H Q=>∃ i j,xs=[.int i,.int j]/\Q (.int (if j<i then j else i)) H):=by
 intro d s f H xs A Q I r h;obtain⟨i,j,rfl,q⟩:=h;obtain⟨u,O,rfl,⟨t,rfl⟩,⟨t',rfl⟩⟩:=Ds r;refine min_two_ints (I.ok.hd R) λh' Y k=>⟨_,H,I.kept k,?_,q⟩;by_cases B:j<i
 ·rw[iFP B,iFP B];exact⟨_,U⟩
 ·rw[iFN B,iFN B];exact⟨_,U⟩
theorem qr:bG X (.type "int") (λxs H Q=>(∃ i,xs=[.int i]/\Q (.int i) H)\/∃ k,xs=[.bl k]/\Q (.int (if k then 1 else 0)) H):=by
 intro d s f H xs A Q I r h;rcases h with⟨i,rfl,q⟩|⟨k,rfl,q⟩
 ·obtain⟨u,rfl,t,rfl⟩:=gr r
  exact call_int_int ⟨.int i,H,I,⟨_,U⟩,q⟩
 ·obtain⟨u,rfl,o⟩:=gr r
  cases o;exact call_int_bool ⟨.int _,H,I.tok _,⟨_,U⟩,q⟩
end
structure xE (h:Heap) (x dx C:Addr) (mA:Str->Option Value):Prop where
 obj:h.get? x=some (qdm C dx)
 ns:h.Ns1 dx mA
 ne:dx≠x
theorem yq {h:Heap}{c:Addr}{d:Str->Option Value} (n:h.Ns1 c d):∃ f,h.get? c=some f/\∀ name,qfN name f=some (d name):=by
 obtain⟨o,es,l,j,hd,i,_,hm⟩:=n;refine⟨o,j,λname=>?_⟩;have e:=hm name;unfold nsFind findBy at e;rw[<-Array.find?_toList]at e;unfold qfN;rw[hd];dsimp only;split
 ·rename_i y q
  rw[q]at e;exact congrArg some e
 ·rename_i q
  rw[q]at e;have a:es.toList.any (·.refKey)=false:=by
   rw[qft];intro y k;obtain⟨z,t,b⟩:=i y (Array.mem_toList_iff.mp k);simp[DictEntry.refKey,b]
  have g:¬ es.toList.any (·.refKey)=true:=by rw[a];exact qaE
  rw[iFN g];exact congrArg some e
theorem xE.look {h:Heap}{x b C:Addr}{c:Str->Option Value} (I:xE h x b C c):∃ a,PySem.W.InstAt h x (qdm C b) C (some a)/\∀ name,qfN name a=some (c name):=
 let ⟨a,ho,hl⟩:=yq I.ns
 ⟨a,⟨I.obj,U,U,ho⟩,hl⟩
section
variable {prog:qaQ}{w:World}{A:qa1}{E:Value->qaj->Prop}{s:qaj}{K:qae}{x g C f:Addr}{a:Str->Option Value}{name:Str}{v:Value}
theorem Bw {d:Bool}{Q:Value->qaj->Prop} (X:K.In s.heap) (I:xE s.heap x g C a) (hg:qek K C name=true) (p:qd4 K C=true)
  (D:qci K (.ref C) name=some none) (u:a name=some v) (n:qg6 v=true) (h:Q v { s with toks:=s.toks+1 }) :
  wpAny (model prog w) A (getAttr (.ref x) name d) Q E s:=by
 obtain⟨H,J,q⟩:=I.look;exact PySem.W.get_value X J (PySem.W.plainGet_of hg).1 (PySem.W.findObj_own p D U (by rw[q,u])) n h
theorem Cz {ns:List Str}{Q:Unit->qaj->Prop} (X:K.In s.heap) (I:xE s.heap x g C a)
  (z:qci K (.ref C) "__setattr__" = some (some (.builtin "object.__setattr__"))) (B:qfa K C=true) (L:qfw K C name=some none) (p:qd4 K C=true)
  (hw:qgF a ns) (r:ns.length<=qaL)
  (h:∀ h',xE h' x g C (λy=>if y=name then some v else a y)->qdn g s.heap h'->Q () { s with heap:=h',toks:=s.toks+2 }) :
  wpAny (model prog w) A (setAttr (.ref x) name v) Q E s:=by
 obtain⟨H,J,q⟩:=I.look;refine PySem.W.set_plain X J z (PySem.W.osa_open X J B L λb=>?_);obtain⟨N,t,l⟩:=PySem.W.any_some p;refine qab (qan (qab (qab (wpAny_loadPart I.obj (qab (qiE (PySem.W.looks_clsIn X t) ?_))))));rw[l];refine qan (qab (qan (qab ?_)));refine wpAny_nsSet1 I.ns λh' c e=>?_;obtain⟨O,G,F,m,k,o⟩:=c.count (qjv name v hw);refine qab (wpAny_lookBehind m (by rw[k];exact pastItsLine_dict (qaV o (by rw[qaq];lia))) ?_);exact qan (h _ ⟨(e.2 _ (qbo I.ne)).trans I.obj,c,I.ne⟩ e)
theorem zN {R:qhJ->qaj->Prop}{i:List Value}{j:List (Str×Value)} (X:K.In s.heap) (hm:qfx K C=true)
  (hi:qci K (.ref C) "__init__" = some (some (.ref f))) (M:PySem.W.typeIn K (.ref f)=some (.type "function"))
  (h:qdJ (model prog w) (A.under (.builtin "type.__call__" ⟨.ref C::i,j⟩)) (.call (.ref f) ⟨.ref (s.heap.objs.size+1)::i,j⟩) (PySem.W.InitBack (s.heap.objs.size+1) R)
    { s with heap:=(s.heap.push qcX).push (qdm C s.heap.objs.size) }) :
  qdJ (model prog w) A (.call (.ref C) ⟨i,j⟩) R s:=by
 exact PySem.W.make_core (PySem.W.makes_of X hm) (PySem.W.looks_findIn X hi) (λself=>PySem.W.bind_fn X self M) (.inl U) h
end
def gm (f:Str) (v:V):List (Str×V)->List (Str×V)
 |[]=>[(f,v)]
 |(g,x)::r=>if g=f then (g,v)::r else (g,x)::gm f v r
theorem me (f g:Str) (v:V):∀ fs:List (Str×V),(gm f v fs).lookup g=if g=f then some v else fs.lookup g
 |[]=>by
  show qdZ g [(f,v)]=_;by_cases h:g=f
  ·simp only[qdZ,(beq_iff_eq.mpr h),iFP h]
  ·simp only[qdZ,(beq_eq_false_iff_ne.mpr h),iFN h]
 |(k,x)::r=>by
  rw[show gm f v _=(if k=f then (k,v)::r else (k,x)::gm f v r) from U];by_cases a:k=f
  ·rw[iFP a]
   by_cases h:g=k
   ·simp only[qdZ,(beq_iff_eq.mpr h),iFP (h.trans a)]
   ·simp only[qdZ,(beq_eq_false_iff_ne.mpr h),iFN (λe:g=f=>h (e.trans a.symm))]
  ·rw[iFN a]
   by_cases h:g=k
   ·simp only[qdZ,(beq_iff_eq.mpr h),iFN (λe=>a (h.symm.trans e))]
   ·simp only[qdZ,(beq_eq_false_iff_ne.mpr h)]
    exact (me f g v r)
theorem lI (f:Str) (v:V):∀ fs:List (Str×V),f∈(gm f v fs).map (·.1)/\∀ g,g∈fs.map (·.1)->g∈(gm f v fs).map (·.1)
 |[]=>⟨by simp[gm],λg h=>by simp at h⟩
 |(k,x)::r=>by
  obtain⟨b,c⟩:=lI f v r;rw[show gm f v _=(if k=f then (k,v)::r else (k,x)::gm f v r) from U];by_cases a:k=f
  ·subst a
   exact⟨by simp,λg h=>by simpa using h⟩
  ·rw[iFN a]
   refine⟨?_,λg h=>?_⟩
   ·exact qai _ b
   ·rcases qaz.mp h with e|e
    ·exact qaz.mpr (.inl e)
    ·exact qai _ (c g e)
theorem ma (f:Str) (v:V):∀ fs:List (Str×V),(gm f v fs).length<=fs.length+1
 |[]=>by simp[gm]
 |(k,x)::r=>by
  have b:=ma f v r;rw[show gm f v _=(if k=f then (k,v)::r else (k,x)::gm f v r) from U];by_cases a:k=f
  ·rw[iFP a,qaq,qaq];lia
  ·rw[iFN a,qaq,qaq];lia
theorem ml.some_of {v:V}{o:Option Value} (r:ml (some v) o):∃ u,o=some u/\aP v u:=by
 cases o with
 |none=>exact (r).elim
 |some u=>exact⟨u,U,r⟩
theorem x9 {v:V}{u:Value} (r:aP v u):qg6 u=true:=by
 cases v with
 |non=>cases (r);rfl
 |bl b=>cases (r);rfl
 |int i=>obtain⟨t,e⟩:=(r);cases e;rfl
 |str x=>obtain⟨t,e⟩:=(r);cases e;rfl
 |byt b=>obtain⟨t,e⟩:=(r);cases e;rfl
 |flt b=>obtain⟨t,e⟩:=(r);cases e;rfl
 |ref a=>cases (r);rfl
 |ty n=>cases (r);rfl
section
variable {P:qaQ}{w:World}{H H':Hp}{h h':Heap}{a C c:Addr}{fs g:List (Str×V)}
theorem rH (hok:HOk P w H h) (e:H a=some (.ins C c fs)):∃ b,xE h a c C b/\(∀ f,ml (fs.lookup f) (b f))/\qgF b (fs.map (·.1))/\fs.length<=1000/\H c=some (.own a):=by
 obtain⟨d,z,ne,ob,b,n,r,q⟩:=(hok a _ e);exact⟨b,⟨ob,n,ne⟩,r,q,z,d⟩
end
structure Cls (K:qae) (C:Addr):Prop where
 pg:qek K C Str.empty=true
 hd:qd4 K C=true
 po:qfa K C=true
 sa:qci K (.ref C) "__setattr__" = some (some (.builtin "object.__setattr__"))
theorem Cls.get {K:qae}{C:Addr} (c:Cls K C) (f:Str):qek K C f=true:=c.pg
def cA (K:qae) (C:Addr) (f:Str):Prop:=qci K (.ref C) f=some none
theorem cA.taker {K:qae}{C:Addr}{f:Str} (n:cA K C f):qfw K C f=some none:=by
 unfold qfw;rw[n];rfl
section
variable {X:Cx}{d:List (Addr×Obj)}{i:St}{H:Hp}{s:qaj}{a C k:Addr}{fs:List (Str×V)}{f:Str}{v:V}{A:qa1}{E:Value->qaj->Prop}
theorem vq {b:Bool}{Q:Value->qaj->Prop} (I:Inv X d i H s) (e:H a=some (.ins C k fs)) (c:Cls X.K C) (n:cA X.K C f) (l:fs.lookup f=some v)
  (h:∀ u s',Inv X d i H s'->aP v u->Q u s'):wpAny (model X.prog X.w) A (getAttr (.ref a) f b) Q E s:=by
 obtain⟨m,O,r,_,_,_⟩:=rH I.hok e;obtain⟨u,M,t⟩:=ml.some_of (by rw[<-l];exact r f);exact Bw I.kIn O (c.get f) c.hd n M (x9 t) (h u _ (I.tok _) t)
theorem vY {y:V}{u:Value}{Q:Unit->qaj->Prop} (I:Inv X d i H s) (e:H a=some (.ins C k fs)) (c:Cls X.K C) (n:cA X.K C f) (N:fs.length<1000) (G:aP y u)
  (h:∀ s',Inv X d i (upd H a (.ins C k (gm f y fs))) s'->Q () s'):wpAny (model X.prog X.w) A (setAttr (.ref a) f u) Q E s:=by
 obtain⟨m,O,r,p,_,B⟩:=rH I.hok e;have D:(fs.map (·.1)).length<=qaL:=by rw[qah,qdu];lia
 refine Cz I.kIn O c.sa c.po n.taker c.hd p D λh' O' F=>h _ ?_;refine I.write (by rw[e];exact True.intro) (.inr B) (λb q hb z=>(F.2 b hb).trans z) (let ⟨o,_,_,e',_⟩:=O'.ns;⟨o,e'⟩) ?_;refine⟨by rw[upd_ne O.ne];exact B,?_,O.ne,O'.obj,_,O'.ns,λg=>?_,λg hg=>?_⟩
 ·have:=ma f y fs;lia
 ·rw[me]
  by_cases q:g=f
  ·rw[iFP q,iFP q];exact G
  ·rw[iFN q,iFN q];exact r g
 ·by_cases q:g=f
  ·rw[q];exact (lI f y fs).1
  ·refine (lI f y fs).2 g (p g λz=>hg ?_)
   show (if g=f then some u else m g)=none;rw[iFN q];exact z
theorem Inv.made (I:Inv X d i H s):Inv X d i (upd (upd H s.heap.objs.size (.own (s.heap.objs.size+1))) (s.heap.objs.size+1) (.ins C s.heap.objs.size []))
  { s with heap:=(s.heap.push qcX).push (qdm C s.heap.objs.size) }:=by
 have x:(s.heap.push qcX).get? s.heap.objs.size=some qcX:=qas s.heap U;have K:=by
  have:=qas (s.heap.push qcX) (o:=qdm C s.heap.objs.size) U
  rwa [qbn]at this
 refine (I.laid (o:=.own _) (t':=s.toks) (λb u q=>qaf _ q) (qap _) ⟨_,x⟩).laid (λb u q=>qaf _ q) (qdN (qbn _ _)) ?_;have ne:s.heap.objs.size≠s.heap.objs.size+1:=qax (qb1 _);refine⟨by rw[upd_ne ne,upd_same],qcI _,ne,K,_,(Heap.Ns1.of_empty ⟨qcX,_,_,x,U,(λe L=>absurd L (by simp)),λ_=>rfl⟩).at λo q=>qaf _ q,λ_=>True.intro,λy J=>absurd U J⟩
theorem Bl {prog:qaQ}{w:World}{env:Env}{e:Expr}{f:Str}{pos:Pos}{s:qaj}{Q:Value->qaj->Prop} (hb:qdf e f env (eval e env)=eval e env)
  (h:wpAny (model prog w) A (eval e env) (λo j=>wpAny (model prog w) A (getAttr o f true) Q E j) E s):wpAny (model prog w) A (eval (.Attribute e f pos) env) Q E s:=
 Attribute_any_ h (by rw[arm_eval_Attribute,hb])
end
def Hw (K:qae) (b:TE) (f:Str):TE:=λd H Q=>b d H λx H1=>∃ a C c fs v,x=.ref a/\H1 a=some (.ins C c fs)/\Cls K C/\cA K C f/\fs.lookup f=some v/\Q v H1
def Ht (K:qae) (d e:TE) (f:Str):TS:=λD b H=>e b H λy H1=>d b H1 λx H2=>∃ a C c fs,x=.ref a/\H2 a=some (.ins C c fs)/\Cls K C/\cA K C f/\fs.length<1000/\
 D.nx b (upd H2 a (.ins C c (gm f y fs)))
section
variable {X:Cx}{o e b:Expr}{f:Str}{pos g r:Pos}{j p:TE}
theorem Es (F:PE X e j) (hb:qdf e f X.env (eval e X.env)=eval e X.env):PE X (.Attribute e f pos) (Hw X.K j f):=by
 intro d s i H Q I h;refine Bl hb (thn (F d s i H _ I h) λu s1 ⟨x,H1,I1,k,a,C,J,fs,v,ex,m,c,n,l,q⟩=>?_);subst ex;obtain rfl:u=Value.ref a:=k;exact vq I1 m c n l λM E I2 B=>⟨v,H1,I2,B,q⟩
theorem Ao (G:PE X o j) (z:PE X b p) (A:qcw b (some (.Attribute o f g)) pos.line X.env=pure false):PS X (.Assign [.Attribute o f g] b pos) (Ht X.K j p f):=by
 intro d s i H D I h;refine plainObj_wpAny_Assign_Attribute (thn (z d s i H _ I h) λu s1 ⟨y,H1,I1,w,q⟩=>thn (G d s1 i H1 _ I1 q) λK E ⟨x,H2,I2,k,a,C,J,fs,ex,m,c,n,l,t⟩=>?_) A;subst ex;obtain rfl:K=Value.ref a:=k;exact vY I2 m c n l w λL I3=>⟨i,_,I3,t⟩
end
section
variable {X:Cx}{j:List (Addr×Obj)}{r:St}{H:Hp}{s:qaj}{A:qa1}{E:Value->qaj->Prop}{Q:Value->qaj->Prop}{c:Value}{b:Bool}
inductive mn (K:qae) (H:Hp):V->Value->Prop where
 |non:mn K H .non (.type "NoneType")
 |bl (x:Bool):mn K H (.bl x) (.type "bool")
 |int (i:Int):mn K H (.int i) (.type "int")
 |str (x:Str):mn K H (.str x) (.type "str")
 |flt (x:UInt64):mn K H (.flt x) (.type "float")
 |lst {a:Addr}{xs:List V} (e:H a=some (.lst xs)):mn K H (.ref a) (.type "list")
 |frz {a:Addr}{o:Obj}{xs:List V} (e:H a=some (.frz o (.lst xs))):mn K H (.ref a) (.type "list")
 |tup {a:Addr}{xs:List V} (e:H a=some (.tup xs)):mn K H (.ref a) (.type "tuple")
 |dK {a:Addr}{kvs:List (Key×V)} (e:H a=some (.dK kvs)):mn K H (.ref a) (.type "dict")
 |dT {a:Addr}{kvs:List (List Key×V)} (e:H a=some (.dT kvs)):mn K H (.ref a) (.type "dict")
 |ins {a C dx:Addr}{fs:List (Str×V)} (e:H a=some (.ins C dx fs)) (cl:Cls K C) (ha:qci K (.ref C) "__class__" = some (some (.builtin "object.__class__")))
   (hn:PySem.W.specialIn K (.builtin "object.__class__") "__get__" = some (some (.builtin "getset_descriptor.__get__"))) (htk:PySem.W.takesIn K (.builtin "object.__class__")=some true)
   (hm:PySem.W.mroIn K C (.type "object")=some true):mn K H (.ref a) (.ref C)
theorem cc {x:V}{u t:Value} (I:Inv X j r H s) (d:aP x u) (ty:mn X.K H x t) (e:qhz X.K t c=some b) (h:∀ l,Q (.bool b) { s with toks:=l }) :
  wpAny (model X.prog X.w) A (call (.builtin "isinstance") [u,c]) Q E s:=by
 cases ty with
 |non=>cases (d);exact qbL PySem.W.kitx_none I.kIn True.intro e (λz=>nomatch z) h
 |bl y=>cases (d);exact qbL PySem.W.kitx_bool I.kIn True.intro e (λz=>nomatch z) h
 |int i=>obtain⟨t,q⟩:=(d);cases q;exact qbL PySem.W.kitx_int I.kIn True.intro e (λz=>nomatch z) h
 |str y=>obtain⟨t,q⟩:=(d);cases q;exact qbL PySem.W.kitx_str I.kIn True.intro e (λz=>nomatch z) h
 |flt y=>obtain⟨t,q⟩:=(d);cases q;exact qbL PySem.W.kitx_float I.kIn True.intro e (λz=>nomatch z) h
 |@lst a xs f=>
  cases (show u=Value.ref a from d);obtain⟨_,_,n,_,g⟩:=(I.hok a _ f);exact qbL qgU I.kIn ⟨_,g,U⟩ e (λz=>nomatch z) h
 |@frz a ob xs f=>
  cases (d);obtain⟨_,_,_,n,_,g⟩:=(I.hok a _ f);exact qbL qgU I.kIn ⟨_,g,U⟩ e (λz=>nomatch z) h
 |@tup a xs f=>
  cases (show u=Value.ref a from d);obtain⟨_,_,_,p⟩:=(I.hok a _ f);obtain⟨o,g,k,_⟩:=p;exact qbL qgO I.kIn ⟨o,g,k⟩ e (λz=>nomatch z) h
 |@dK a kvs f=>
  cases (show u=Value.ref a from d);obtain⟨_,_,B,_,p⟩:=(I.hok a _ f);obtain⟨o,es,m,g,k,_⟩:=p;exact qbL qgV I.kIn ⟨o,g,k.1⟩ e (λz=>nomatch z) h
 |@dT a kvs f=>
  cases (show u=Value.ref a from d);obtain⟨_,_,xs,_,o,es,m,g,k,_⟩:=(I.hok a _ f);exact qbL qgV I.kIn ⟨o,g,k.1⟩ e (λz=>nomatch z) h
 |@ins a C dx fs f cl ha hn htk hm=>
  cases (d);obtain⟨v,O,_⟩:=rH I.hok f;obtain⟨w,J,_⟩:=O.look;exact qbL (PySem.W.kitx_own (cl.get _) cl.hd ha hn htk hm) I.kIn J e (λz=>nomatch z) h
end
structure bz (k:Nat) (A:qa1):Prop where
 hd:A.handled=none
 dp:A.depth+3*k+5<qj0
 un:A.units+16*k+200<cLine
 gd:A.guards=some []
theorem bz.mono {j k:Nat}{A:qa1} (r:bz k A) (h:j<=k):bz j A:=⟨r.hd,by have:=r.dp;lia,by have:=r.un;lia,r.gd⟩
theorem bz.deeper {k:Nat}{A:qa1} (r:bz (k+1) A) (env:Env):bz k (A.deeper env):=
 ⟨r.hd,by have:=r.dp;show A.depth+1+3*k+5<_;lia,by have:=r.un;show A.units+3+16*k+200<_;lia,r.gd⟩
theorem vO {A:qa1}{C:Addr}{b:List Value}{a:List (Str×Value)}:(A.under (.builtin "type.__call__" ⟨.ref C::b,a⟩)).depth=A.depth+1:=by
 first|rfl|simp[qgx,Code.weight,Code.isCreation,qiJ,Code.isCaller,qjF,qiK,guardIds]
theorem vP {A:qa1}{C:Addr}{b:List Value}{a:List (Str×Value)}:(A.under (.builtin "type.__call__" ⟨.ref C::b,a⟩)).units=A.units+1:=by
 first|rfl|simp[qgx,Code.cUnits,qjF,qiK]
theorem bz.make {k:Nat}{A:qa1} (r:bz (k+1) A) (C:Addr) (b:List Value) (a:List (Str×Value)):bz k (A.under (.builtin "type.__call__" ⟨.ref C::b,a⟩)):=
 ⟨r.hd,by have:=r.dp;rw[vO];lia,by have:=r.un;rw[vP];lia,by
  unfold qgx
  simp[r.gd,pushGuards,Code.guards,qiJ,guardIds]⟩
theorem bz.depth {k:Nat}{A:qa1} (r:bz k A):A.depth<qj0:=by have:=r.dp;lia
theorem bz.units {k:Nat}{A:qa1} (r:bz k A):A.units+64<cLine:=by have:=r.un;lia
theorem bz.units0 {k:Nat}{A:qa1} (r:bz k A):A.units<cLine:=by have:=r.un;lia
def HB:TA:=λ_ H Q=>Q [] H
def GG (b:TE) (c:TA):TA:=λa H Q=>b a H λx H1=>c a H1 λxs H2=>Q (x::xs) H2
section
variable {X:Cx}{e:Expr}{es:List Expr}{te:TE}{t:TA}{pos:Pos}
theorem rY:PA X [] HB:=λ_ _ _ _ H Q I h=>Calls.spliced_nil ⟨_,H,I,.nil,h⟩
theorem mK (g:PE X e te) (i:PA X es t) (m:qbE (e::es) X.env=(false,eval e X.env)::qbE es X.env:=by rfl):PA X (e::es) (GG te t):=by
 intro pos a s c H Q I h;rw[m];refine Calls.spliced_cons (thn (g a s c H _ I h) λu s1 ⟨x,H1,I1,j,n⟩=>?_);exact thn (i pos a s1 c H1 _ I1 n) λd o ⟨xs,H2,I2,l,k⟩=>⟨_,H2,I2,.cons j l,k⟩
def HG (t:TA):TE:=λc H Q=>t c H λxs H1=>xs.length<=qaL/\∀ p,H1 p=none->Q (.ref p) (upd H1 p (.tup xs))
def HA (t:TA):TE:=λc H Q=>t c H λxs H1=>xs.length<=qaL/\∀ p,H1 p=none->Q (.ref p) (upd H1 p (.lst xs))
theorem Ez {x1} (h:PA X es t):PE X (.Tuple es x1 pos) (HG t):=by
 intro a s c H Q I f;refine wpAny_Tuple_spliced (thn (h pos a s c H _ I f) λd s1 ⟨xs,H1,I1,r,z,q⟩=>⟨by rw[<-r.length];exact z,?_⟩);refine⟨.ref s1.heap.objs.size,_,I1.laid (λb u e=>qaf _ e) (qap _) ?_,U,q _ (I1.hok.fresh (qap _))⟩;exact⟨z,d,r,fI.new _ _⟩
theorem Ab (h:PA X es t):PE X (.List es pos) (HA t):=by
 intro a s c H Q I f;refine wpAny_List_spliced (thn (h pos a s c H _ I f) λd s1 ⟨xs,H1,I1,r,z,q⟩=>⟨by rw[<-r.length];exact z,?_⟩);refine⟨.ref s1.heap.objs.size,_,I1.laid (λb u e=>qaf _ e) (qap _) ?_,U,q _ (I1.hok.fresh (qap _))⟩;exact⟨z,d,0,r,qas _ U⟩
end
abbrev Sp:=List V->Hp->VK->XK->Prop
abbrev CXT:=List Env->Hp->qaj->XK->Value->qaj->Prop
structure xD (P:qaQ) (w:World) (K:qae) (mg:Str->Option Value) (base:Heap) (A:qa1) (outer:List Env) (s:qaj) (H:Hp):Prop where
 frames:A.frames=some outer
 mod:Mod K mg base
 bs:∀ b o,base.get? b=some o->s.heap.get? b=some o/\H b=none
 bsz:base.objs.size<=s.heap.objs.size
 funs:s.heap.FunFrames base outer
 frf:∀ b∈frs outer,H b=none
 hok:HOk P w H s.heap
 bare:qfB s.gens
def CE (outer:List Env) (P:qaQ) (w:World) (H:Hp) (s:qaj) (Q:VK) (u:Value) (s':qaj):Prop:=
 ∃ v H',s'.os=s.os/\qfB s'.gens/\Un (frs outer) [] H H' s.heap s'.heap/\HOk P w H' s'.heap/\aP v u/\Q v H'
def CR (CX:CXT) (outer:List Env) (P:qaQ) (w:World) (H:Hp) (s:qaj) (Q:VK) (E:XK) (r:qhJ) (s':qaj):Prop:=
 match r with
 |.ok (.ret u)=>CE outer P w H s Q u s'
 |.ok _=>False
 |.error e=>CX outer H s E e s'
structure dP (P:qaQ) (w:World) (K:qae) (mg:Str->Option Value) (base:Heap) (CX:CXT) (k:Nat) (f:Addr) (fd:qb6) (ps:List Str) (sp:Sp):Prop where
 len:∀ vs H Q E,sp vs H Q E->vs.length=ps.length
 run:∀ (A:qa1) (outer:List Env) (s:qaj) (H:Hp) (args:Args) (us:List Value) (vs:List V) (Q:VK) (E:XK),bz k A->xD P w K mg base A outer s H->qhv s fd args (ps.zip us)->aI vs us->sp vs H Q E->
  qdJ (model P w) A (.call (.ref f) args) (CR CX outer P w H s Q E) s
theorem dP.mono {P:qaQ}{w:World}{K:qae}{mg:Str->Option Value}{base:Heap}{CX:CXT}{j k:Nat}{f:Addr}{fd:qb6}{ps:List Str}{sp:Sp} (F:dP P w K mg base CX j f fd ps sp) (h:j<=k) :
  dP P w K mg base CX k f fd ps sp:=⟨F.len,λA outer s H args c a Q E b=>F.run A outer s H args c a Q E (b.mono h)⟩
theorem xD.make {P:qaQ}{w:World}{K:qae}{mg:Str->Option Value}{base:Heap}{A:qa1}{outer:List Env}{s:qaj}{H:Hp} (e:xD P w K mg base A outer s H) (C:Addr) (b:List Value) (a:List (Str×Value)) :
  xD P w K mg base (A.under (.builtin "type.__call__" ⟨.ref C::b,a⟩)) outer s H:=⟨by first|exact e.frames|(simpa  using e.frames),e.mod,e.bs,e.bsz,e.funs,e.frf,e.hok,e.bare⟩
section
variable {X:Cx}{a:List (Addr×Obj)}{e:St}{H:Hp}{s s':qaj}
theorem Inv.env0 (I:Inv X a e H s):xD X.prog X.w X.K X.mg X.base X.A X.stack s H:=
 ⟨I.ok.frames,I.ok.mod,I.bs,qaV I.ok.bsz I.sz,I.stack,I.stkFree,I.hok,I.bare⟩
theorem Inv.after {Q:VK}{u:Value} (I:Inv X a e H s) (h:CE X.stack X.prog X.w H s Q u s'):EP X a e Q u s':=by
 obtain⟨v,H',os,bare,un,hok,r,q⟩:=h;obtain⟨f,g,d,t,c⟩:=s';obtain rfl:c=s.os:=os;exact⟨v,H',I.call un hok bare (λb z=>absurd z (by simp)),r,q⟩
end
def GF (sp:Sp) (a:List V) (E:XK) (t:TA):TE:=λc H Q=>t c H λb H1=>sp (b++a) H1 Q E
def GK (C:Addr) (sp:Sp) (b:List V) (E:XK) (t:TA):TE:=λd H Q=>t d H λc H1=>∀ x a,H1 x=none->H1 a=none->a≠x->
 sp (.ref x::(c++b)) (upd (upd H1 a (.own x)) x (.ins C a [])) (λv H2=>v=.non/\Q (.ref x) H2) E
def dq (K:qae) (fd:qb6) (ps:List Str) (ds:List Value):Prop:=
 ∀ (s:qaj) (a:List Value),K.In s.heap->(a++ds).length=ps.length->qhv s fd ⟨a,[]⟩ (ps.zip (a++ds))
theorem dq.all {K:qae}{fd:qb6}{ps:List Str} (h:∀ a:List Value,a.length=ps.length->bindArgs fd ⟨a,[]⟩=pure (ps.zip a)):dq K fd ps []:=λs a _ b=>by
 rw[qbf]at b ⊢;exact .of_eq (h a b)
def mS (CX:CXT) (X:Cx) (E:XK):Prop:=∀ (a:List (Addr×Obj)) (b:St) (H:Hp) (s:qaj) (e:Value) (s':qaj),Inv X a b H s->CX X.stack H s E e s'->X.xe e s'
section
variable {X:Cx}{CX:CXT}{k:Nat}{f C:Addr}{fd:qb6}{ps:List Str}{sp:Sp}{b:List V}{ds:List Value}{E:XK}{x m:Str}{p pos J:Pos}{e o:Expr}{es:List Expr}{R:TE}{t:TA}
theorem ER {a:List (Addr×Obj)}{d:St}{H:Hp}{s:qaj}{Q:VK}{c:List Value}{j:List V} (F:dP X.prog X.w X.K X.mg X.base CX k f fd ps sp) (l:bz k X.A) (hb:dq X.K fd ps ds) (hd:aI b ds) (y:mS CX X E)
  (I:Inv X a d H s) (r:aI j c) (h:sp (j++b) H Q E):wpAny (model X.prog X.w) X.A (call (.ref f) c) (EP X a d Q) X.xe s:=by
 have z:=r.append hd;have G:(c++ds).length=ps.length:=by rw[<-z.length];exact F.len _ _ _ _ h
 refine qit (qgd (F.run X.A X.stack s H _ _ _ Q E l I.env0 (hb s c I.kIn G) z h) λr s' i=>?_);cases r with
 |error e=>exact y a d H s e s' I i
 |ok fl=>
  cases fl with
  |ret u=>exact I.after i
  |next=>exact qcz i
  |brk=>exact qcz i
  |cont=>exact qcz i
theorem wU (F:dP X.prog X.w X.K X.mg X.base CX k f fd ps sp) (l:bz k X.A) (hg:Gl X x) (hm:X.mg x=some (.ref f)) (O:qcD X.K (.ref f)=true) (hb:dq X.K fd ps ds) (hd:aI b ds) (y:mS CX X E)
  (D:PA X (e::es) t) (w:(x==("__debug__" : Str))=false:=by decide) (B:qbE (e::es) X.env=(false,eval e X.env)::qbE es X.env:=by rfl) (n:(qe9 pos (qbE es X.env)).any (·.1)=false:=by rfl) :
  PE X (.Call (.Name x p) (e::es) [] pos) (GF sp b E t):=by
 intro a s d H Q I h;refine qeq (wH I hg hm ?_ w);refine qgP I.ok.mod.kin O (thn (D pos a s d H _ I h) λc s1 ⟨j,H1,I1,r,q⟩=>⟨I1.kIn,?_⟩) B n;exact ER F l hb hd y I1 r q
structure Mk (K:qae) (C f:Addr):Prop where
 makes:qfx K C=true
 init:qci K (.ref C) "__init__" = some (some (.ref f))
 fn:qhU K (.ref f)=true
 kp:qcD K (.ref C)=true
theorem AG {a:List (Addr×Obj)}{d:St}{H:Hp}{s:qaj}{Q:VK}{c:List Value}{j:List V} (M:Mk X.K C f) (F:dP X.prog X.w X.K X.mg X.base CX k f fd ps sp) (l:bz (k+1) X.A) (hb:dq X.K fd ps ds) (hd:aI b ds)
  (y:mS CX X E) (I:Inv X a d H s) (r:aI j c)
  (h:∀ x A,H x=none->H A=none->A≠x->sp (.ref x::(j++b)) (upd (upd H A (.own x)) x (.ins C A [])) (λv H2=>v=.non/\Q (.ref x) H2) E) :
  wpAny (model X.prog X.w) X.A (call (.ref C) c) (EP X a d Q) X.xe s:=by
 have i:=h _ s.heap.objs.size (I.hok.fresh (qc2 _)) (I.hok.fresh (qap _)) (qax (qb1 _));have I2:=Inv.made (C:=C) I;have z:aI (V.ref (s.heap.objs.size+1)::_) _:=.cons U (r.append hd);have G:=by
  have e:=z.length;rw[F.len _ _ _ _ i]at e;exact e.symm
 refine qit (zN I.kIn M.makes M.init (beq_iff_eq.mp M.fn) (qgd (F.run _ X.stack _ _ _ _ _ _ E (l.make C c [])
  (I2.env0.make C c []) (hb _ _ I2.kIn G) z i) λr s' g=>?_))
 cases r with
 |error e=>exact y a d _ _ e s' I2 g
 |ok fl=>
  cases fl with
  |ret u=>
   obtain⟨v,H',I3,N,P,L⟩:=I2.after g;subst P;exact⟨N,⟨V.ref _,H',I3,U,L⟩⟩
  |next=>exact qcz g
  |brk=>exact qcz g
  |cont=>exact qcz g
theorem B7 (M:Mk X.K C f) (F:dP X.prog X.w X.K X.mg X.base CX k f fd ps sp) (l:bz (k+1) X.A) (hg:Gl X x) (hm:X.mg x=some (.ref C)) (hb:dq X.K fd ps ds) (hd:aI b ds) (y:mS CX X E)
  (D:PA X (e::es) t) (w:(x==("__debug__" : Str))=false:=by decide) (B:qbE (e::es) X.env=(false,eval e X.env)::qbE es X.env:=by rfl) (n:(qe9 pos (qbE es X.env)).any (·.1)=false:=by rfl) :
  PE X (.Call (.Name x p) (e::es) [] pos) (GK C sp b E t):=by
 intro a s d H Q I h;refine qeq (wH I hg hm ?_ w);refine qgP I.ok.mod.kin M.kp (thn (D pos a s d H _ I h) λc s1 ⟨j,H1,I1,r,q⟩=>⟨I1.kIn,?_⟩) B n;exact AG M F l hb hd y I1 r q
end
section
variable {X:Cx}{CX:CXT}{k:Nat}{f C:Addr}{fd:qb6}{ps ks:List Str}{sp:Sp}{E:XK}{x m:Str}{p pos b a:Pos}{e o:Expr}{es:List Expr}{c:List qh7}{te h:TE}{t d:TA}{nm:Option Str}
variable {g:List Value->List Value->List Value}{i:List V->List V->List V}
end
structure cy (N P:List Str) (sc:Scope):Prop where
 kind:sc.kind=.function
 co:sc.isCoroutine=false
 gen:sc.isGenerator=false
 nd:N.Nodup
 pre:N.take P.length=P
 par:∀ x∈P,sc.names.lookup x=some .local\/sc.names.lookup x=some .cell
 nofree:∀ y∈sc.names,y.2≠.free
theorem qq {kindOf:Str->Option qb2}{x:Str}:∀ {binds:List (Str×Value)}{m:Str->Option Value},(∀ v,(x,v)∉binds)->bindL kindOf binds m x=m x
 |[],_,_=>rfl
 |(n,v)::r,m,h=>by
  unfold bindL;rw[qq λw hw=>h w (qai _ hw)];split
  ·have:x≠n:=by rintro rfl;exact h v qag
   simp[this]
  ·rfl
theorem qo {kindOf:Str->Option qb2}{x:Str}:∀ {binds:List (Str×Value)}{m:Str->Option Value},(∀ v,(x,v)∉binds)->bindC kindOf binds m x=m x
 |[],_,_=>rfl
 |(n,v)::r,m,h=>by
  unfold bindC;rw[qo λw hw=>h w (qai _ hw)];split
  ·rfl
  ·have:x≠n:=by rintro rfl;exact h v qag
   simp[this]
theorem qp {kindOf:Str->Option qb2}{x:Str}{v:Value}:∀ {P:List Str}{a:List Value}{i:Nat}{m:Str->Option Value},P.Nodup->P[i]?=some x->a[i]?=some v->kindOf x=some .local->
  bindL kindOf (P.zip a) m x=some v
 |[],_,_,_,_,h,_,_=>by simp at h
 |_::_,[],_,_,_,_,h,_=>by simp at h
 |p::P,w::a,0,m,nd,b,c,d=>by
  simp at b c;subst b;subst c
  show bindL kindOf ((p,w)::P.zip a) m p=_;unfold bindL;rw[qq λv e=>(qcl.mp nd).1 (qfU e).1,iFP d]
  simp
 |p::P,w::a,i+1,m,nd,b,c,d=>by
  unfold bindL;exact qp (qcl.mp nd).2 (by simpa using b) (by simpa using c) d
theorem ql {kindOf:Str->Option qb2}{x:Str}{v:Value}:∀ {P:List Str}{a:List Value}{i:Nat}{m:Str->Option Value},P.Nodup->P[i]?=some x->a[i]?=some v->kindOf x≠some .local->
  bindC kindOf (P.zip a) m x=some v
 |[],_,_,_,_,h,_,_=>by simp at h
 |_::_,[],_,_,_,_,h,_=>by simp at h
 |p::P,w::a,0,m,nd,b,c,d=>by
  simp at b c;subst b;subst c
  show bindC kindOf ((p,w)::P.zip a) m p=_;unfold bindC;rw[qo λv e=>(qcl.mp nd).1 (qfU e).1,iFN d]
  simp
 |p::P,w::a,i+1,m,nd,b,c,d=>by
  unfold bindC;exact ql (qcl.mp nd).2 (by simpa using b) (by simpa using c) d
def jc (N:List Str) (a:List V):St:=a.map some++qay (N.length - a.length) none
def fV (CX:CXT) (P:qaQ) (w:World) (K:qae) (mg:Str->Option Value) (base:Heap) (N:List Str) (b:Str) (a:Scope) (f:Addr) (d:Value) (A:qa1) (outer:List Env) (s:qaj) (H:Hp) (E:XK):Cx where
 prog:=P
 w:=w
 K:=K
 mg:=mg
 base:=base
 A:=A.deeper (qeB b a s.heap.objs.size f d)
 N:=N
 s₀:=s
 H₀:=H
 env:=qeB b a s.heap.objs.size f d
 outer:=outer
 stack:=qeB b a s.heap.objs.size f d::outer
 ex:=[]
 calm:=true
 fn:=λ_=>true
 pn:=[]
 xe:=λe s'=>wpAny (model P w) (A.deeper (qeB b a s.heap.objs.size f d)) (leaving (qeB b a s.heap.objs.size f d) e) (λ_ c=>CX outer H s E e c) (λg c=>CX outer H s E g c) s'
theorem sP {a:Scope}{n:Nat}{x:Str} (h:a.names.lookup x=some .cell):∃ c,(qcx n a.names []).lookup x=some c:=by
 exact qcv.mp (qdp a.names n [] (.inl h))
theorem yf {CX:CXT}{P:qaQ}{w:World}{K:qae}{mg:Str->Option Value}{base:Heap}{N ps:List Str}{g:Str}{d:Scope}{f:Addr}{D:Value}{A:qa1}{outer:List Env}{s s1:qaj}{H:Hp}{E:XK}{F:List Value}{m:List V}
  (S:cy N ps d) (hd:A.handled=none) (l:xD P w K mg base A outer s H) (Q:m.length=ps.length) (r:aI m F)
  (x:InCallC s s.heap.objs.size (bindL (qeB g d s.heap.objs.size f D).kindOf (ps.zip F) λ_=>none) (qcx (s.heap.objs.size+1) d.names []) (bindC (qeB g d s.heap.objs.size f D).kindOf (ps.zip F) λ_=>none) s1) :
  Inv (fV CX P w K mg base N g d f D A outer s H E) [] (jc N m) H s1:=by
 have M:ps.length<=N.length:=by have:=congrArg qe0 S.pre;rw[qb0]at this;lia
 obtain⟨C,R,rfl,I⟩:=x.done;have n:∀ b ,b∉(fV CX P w K mg base N g d f D A outer s H E).ex:=λb z=>absurd (show b∈([]) from z) (by simp)
 refine⟨⟨l.mod,S.kind,U,U,qap _,λy z c C j=>?_,λy o=>?_,λy c _ h=>?_,λ_=>hd,Around.frames_deeper l.frames,.inr ⟨U,U⟩,λb z=>absurd z (n b),l.bs,l.bsz,λb _ _=>n b,λb z=>absurd z (n b),l.funs,l.frf⟩,
  rfl,l.bare,Un.kept I,⟨_,x.toInCall.ns,λi y v C j O=>?_⟩,λy c h=>⟨_,x.cell y c h⟩,l.hok.fresh (qap _),λy c h=>?_,λp t=>absurd (show p∈([]) from t) (by simp),l.hok.kept I,?_⟩
 ·exact name_of_addr x.apart (qbu C) (qbu j)
 ·rcases o with o|o
  ·exact sP o
  ·exact absurd U (S.nofree _ (qbu o))
 ·exact qeR (x.above y c (qbu h))
 ·have hi:i<m.length:=by
   unfold jc at j;by_cases hi:i<m.length
   ·exact hi
   ·rw[qaI (by simpa using hi)]at j
    rw[qdr]at j;split at j<;>cases j
  have L:m[i]?=some v:=by
   unfold jc at j;rw[qaG (by simpa using hi),qaC]at j;cases e:m[i]? with
   |none=>rw[e]at j;cases j
   |some a=>rw[e]at j;cases j;rfl
  obtain⟨u,G,J⟩:=r.get L;have t:ps[i]?=some y:=by
   rw[<-S.pre,qem (by lia)];exact C
  have B:ps.Nodup:=by rw[<-S.pre];exact S.nd.sublist (List.take_sublist _ _)
  refine⟨u,J,?_⟩;rcases S.par y (qbt t) with k|k
  ·exact .inl ⟨k,qp B t G k⟩
  ·obtain⟨c,e⟩:=sP k
   refine .inr ⟨.inl k,c,e,?_⟩;have q:=x.cell y c e;rw[ql B t G (by show d.names.lookup y≠_;rw[k];decide)]at q;exact q
 ·exact l.hok.fresh (qeR (x.above y c (qbu h)))
 ·unfold jc
  show _=N.length;rw[qaB,qah,qcZ];lia
theorem FE {CX:CXT}{P:qaQ}{w:World}{K:qae}{mg:Str->Option Value}{base:Heap}{k:Nat}{f:Addr}{name c:Str}{d:Arguments}{body:List Stmt}{a:Scope}{I kV y F g ct O:Value}{G W:Option Addr}
  {D:Array (Option Value)}{N ps:List Str}{sp:Sp} (L:K.lookup f=some ⟨O,W,.func (qdU name c d body a I kV y F G g ct),D⟩) (B:qfO K g c=true) (S:cy N ps a)
  (len:∀ i H Q E,sp i H Q E->i.length=ps.length)
  (j:∀ (A:qa1) (outer:List Env) (s:qaj) (H:Hp) (i:List V) (Q:VK) (E:XK),bz k (A.deeper (qeB c a s.heap.objs.size f g))->sp i H Q E->
    ∃ t,PSs (fV CX P w K mg base N c a f g A outer s H E) body t/\t { nx:=λ_ H'=>Q .non H',rt:=Q } (jc N i) H) :
  dP P w K mg base CX (k+1) f (qdU name c d body a I kV y F G g ct) ps sp:=by
 refine⟨len,λA outer s H args Y i Q E C p hb r m=>?_⟩;have KX:=p.mod.kin.keeps λb o e=>(p.bs b o e).1;refine codeAny_call_function C.depth (KX _ _ L) U S.co S.gen U (PySem.W.codeRec_of KX B) (hb _ _ _ _ ?_)
 refine wpAny_newFunctionEnv_cells S.kind (λ⟨n,v⟩ M=>by
  rcases S.par n (qfU M).1 with q|q
  ·exact .inl q
  ·exact .inr ⟨q,qdp _ _ _ (.inl q)⟩) λenv T s1 x=>?_
 subst T;refine⟨(p.mod.nolimit.keeps λb o e=>(p.bs b o e).1).keeps x.toInCall.keep,codeAny_func ?_⟩;obtain⟨t,X,R⟩:=j A outer s H i Q E (C.deeper _) m;refine qct (X [] s1 _ H _ (yf S C.hd p (len _ _ _ _ m) r x) R) (λfl s' l=>?_) λe s' l=>l;have fin:∀ {h:St}{H':Hp}{v:V}{u:Value},Inv (fV CX P w K mg base N c a f g A outer s H E) [] h H' s'->aP v u->Q v H'->CE outer P w H s Q u s':=
  λ{h H' v u} J z q=>⟨v,H',J.os,J.bare,J.base,J.hok,z,q⟩
 cases fl with
 |ret u=>
  obtain⟨v,h,H',J,z,q⟩:=l;exact fin J z q
 |next=>
  obtain⟨h,H',J,q⟩:=l;exact fin (v:=V.non) J U q
 |brk=>
  obtain⟨_,_,_,q⟩:=l;exact qcz q
 |cont=>
  obtain⟨_,_,_,q⟩:=l;exact qcz q
section
variable {X:Cx}{x:Str}{p pos:Pos}{e:Expr}{es:List Expr}{t:TA}{id T:String}{r:List V->Hp->VK->Prop}
def tCB (r:List V->Hp->VK->Prop) (t:TA):TE:=λc H Q=>t c H λf H1=>r f H1 Q
theorem pe (m:bG X (.builtin id) r) (hg:Gl X x) (hm:X.mg x=none) (g:qch x=some (.builtin id)) (j:PA X (e::es) t) (hn:x≠"__name__":=by decide) (d:(x==("__debug__" : Str))=false:=by decide)
  (i:qbE (e::es) X.env=(false,eval e X.env)::qbE es X.env:=by rfl) (b:(qe9 pos (qbE es X.env)).any (·.1)=false:=by rfl):PE X (.Call (.Name x p) (e::es) [] pos) (tCB r t):=by
 intro a s c H Q I h;refine qeq (jQ I hg hm g ?_ hn d);exact qjz (thn (j pos a s c H _ I h) λk s1 ⟨f,H1,I1,l,n⟩=>m a s1 c H1 f k Q I1 l n) i b
theorem dj (m:bG X (.type T) r) (hg:Gl X x) (hm:X.mg x=none) (g:qch x=some (.type T)) (j:PA X (e::es) t) (hn:x≠"__name__":=by decide) (d:(x==("__debug__" : Str))=false:=by decide)
  (i:qbE (e::es) X.env=(false,eval e X.env)::qbE es X.env:=by rfl) (b:(qe9 pos (qbE es X.env)).any (·.1)=false:=by rfl):PE X (.Call (.Name x p) (e::es) [] pos) (tCB r t):=by
 intro a s c H Q I h;refine qeq (jQ I hg hm g ?_ hn d);exact qcg (thn (j pos a s c H _ I h) λk s1 ⟨f,H1,I1,l,n⟩=>m a s1 c H1 f k Q I1 l n) i b
end
end L2
namespace HT
open PySem PyProof.Rows
def lexLt:List Int->List Int->Bool
 |[],[]=>false
 |[],_::_=>true
 |_::_,[]=>false
 |x::xs,y::a=>if x=y then lexLt xs a else decide (x<y)
theorem lexLt_cons (x y:Int) (xs a:List Int):lexLt (x::xs) (y::a)=if x=y then lexLt xs a else decide (x<y):=rfl
theorem pY:lexLt [] []=false:=rfl
theorem oF (y:Int) (a:List Int):lexLt [] (y::a)=true:=rfl
theorem oE (x:Int) (xs:List Int):lexLt (x::xs) []=false:=rfl
theorem zf (A:qa1) (s:qaj) (a:Int) (t:Tok) (c:Int) (u:Tok):∃ e,qdy A s (.int a t) (.int c u) e/\(e=true↔a=c):=
 ⟨_,qgp a t c u,by simp⟩
theorem AA (A:qa1) (s:qaj) (a:Int) (t:Tok) (c:Int) (u:Tok) (prog:qaQ) (w:World) (E:Value->qaj->Prop) (Q:Value->qaj->Prop) (h:Q (.bool (decide (a<c))) s) :
  wpAny (model prog w) A (richCompare .Lt (.int a t) (.int c u)) Q E s:=
 (qdB h)
section
open PySem.SeqAt
open PySem.AutoSeq1 (wpAny_loadPart')
open PySem.MeetsSeq PySem.MeetsSeq2 PySem.MeetsSeq3
theorem qh (l b:Addr) (items f:Array Value) (n O:Nat) (N K:Option Addr) (T J:Array (Option Value)) (ns F:List Int) (hi:qb4 items.toList ns) (M:qb4 f.toList F) :
  Meets (qfe.«tuple.__lt__» ⟨[.ref l,.ref b],[]⟩)
   (λ_ R s=>s.heap.get? l=some { cls:=.type "tuple",dict:=N,data:=.seq items n,slots:=T }/\s.heap.get? b=some { cls:=.type "tuple",dict:=K,data:=.seq f O,slots:=J }/\
     R (.ok (.ret (.bool (lexLt ns F)))) s):=
 .of_wp λprog w A R s h=>by
  obtain⟨G,g,d,H,os⟩:=s;obtain⟨S,hb,h⟩:=h;have f2:=qfS;have X:items.size=ns.length:=by rw[<-hi.length];simp
  have W:f.size=F.length:=by rw[<-M.length];simp
  wp_walk using wpAny_loadPart' S,wpAny_loadPart' hb,qiS _ (λrest b s'=>b.1=none/\s'=⟨G,g,d,H,os⟩/\∃ (E ws:List Value) (k j:List Int),rest=E.zip ws/\
   qb4 E k/\qb4 ws j/\k.length+f.size=j.length+items.size/\R (.ok (.ret (.bool (lexLt k j)))) ⟨G,g,d,H,os⟩) _
  case turn=>
   rintro⟨y,x⟩ rest b s' ⟨v,rfl,E,ws,k,j,m,B,o,i,p⟩
   cases B with
   |nil=>rw[List.zip_nil_left]at m;cases m
   |cons a t C=>
    cases o with
    |nil=>rw[List.zip_nil_right]at m;cases m
    |cons c u D=>
     rw[qdq]at m;injection m with I z;injection I with P V;subst P V;rw[lexLt_cons]at p;simp only[qaq]at i;obtain⟨e,Q,r⟩:=zf A.in1 ⟨G,g,d,H,os⟩ a t c u;refine qab (Q prog w _ _ ?_);cases e with
     |true=>
      rw[iFP (r.mp U)]at p
      wp_walk
      exact⟨U,U,_,_,_,_,z,C,D,by lia,p⟩
     |false=>
      rw[iFN (λq=>absurd (r.mpr q) qaE)]at p
      wp_walk using (AA A.in1 ⟨G,g,d,H,os⟩ a t c u prog w)
      exact⟨_,U,by simpa using p⟩
  case fin=>
   rintro⟨Y,b2⟩ s' ⟨v,rfl,E,ws,k,j,m,B,o,i,p⟩
   simp only at v
   subst v;have L:lexLt k j=decide (items.size<f.size):=by
    cases B with
    |nil=>
     cases o with
     |nil=>
      simp only[qb8]at i;rw[pY];exact (decide_eq_false (by lia)).symm
     |cons c u hw=>
      simp only[qb8,qaq]at i;rw[oF];exact (decide_eq_true (by lia)).symm
    |cons a t L=>
     cases o with
     |nil=>
      simp only[qb8,qaq]at i;rw[oE];exact (decide_eq_false (by lia)).symm
     |cons c u hw=>
      rw[qdq]at m;cases m
   rw[L]at p
   wp_walk
   exact⟨_,U,by simpa [qeC] using p⟩
  case h=>
   exact⟨U,U,items.toList,f.toList,ns,F,U,hi,M,by lia,h⟩
end
section
variable {prog:qaQ}{w:World}{A:qa1}{E:Value->qaj->Prop}{s:qaj}
theorem lt_tupInts {l b:Addr}{items a:Array Value}{ns T:List Int}{Q:Value->qaj->Prop} (hl:IsTup s.heap l items) (hb:IsTup s.heap b a) (hi:qb4 items.toList ns) (hj:qb4 a.toList T)
  (hu:A.units<cLine) (h:Q (.bool (lexLt ns T)) s):wpAny (model prog w) A (qbM .Lt (.ref l) (.ref b)) Q E s:=by
 obtain⟨⟨cls,N,data,g⟩,F,S,n,hd⟩:=id hl;obtain⟨⟨K,y,data2,u⟩,c,D,O,B⟩:=id hb;subst S hd D B;exact qhx (op:=.Lt) ⟨_,F,U⟩ ⟨_,c,U⟩ qdz qeo (qeg _ _) (qh l b items a n O N y g u ns T hi hj)
  ⟨F,c,⟨(λx=>nomatch x),h⟩⟩ hu
theorem cat_tup {t b:Addr}{z ws:List Value}{Q:Value->qaj->Prop} (I:IsTup s.heap t z.toArray) (hb:IsTup s.heap b ws.toArray) (L:z≠[])
  (X:ws=[]->Q (.ref t) s) (h2:ws≠[]->Q (.ref s.heap.objs.size) { s with heap:=s.heap.push { cls:=.type "tuple",data:=.seq (z++ws).toArray } })
  (J:z.length+ws.length<=qaL):wpAny (model prog w) A (qbI .Add (.ref t) (.ref b)) Q E s:=by
 obtain⟨⟨cls,N,data,g⟩,F,S,n,hd⟩:=id I;obtain⟨⟨K,y,data2,u⟩,c,D,O,B⟩:=id hb;subst S hd D B;have e:z.toArray++ws.toArray=(z++ws).toArray:=by simp
 by_cases hw:ws=[]
 ·exact qhI ⟨_,F,U⟩ ⟨_,c,U⟩ qgm qhh qen qef (qd5 _ _)
   (tuple_addW1 t b z.toArray ws.toArray n O N y g u (by simpa using L) (by simp[hw])) ⟨F,c,X hw⟩
 ·refine qhI ⟨_,F,U⟩ ⟨_,c,U⟩ qgm qhh qen qef (qd5 _ _)
   (tuple_addW2 t b z.toArray ws.toArray n O N y g u (by simpa using L) (by simpa using hw) (by exact J)) ⟨F,c,?_⟩
  rw[e];exact h2 hw
def sIx (n d:Nat):Option Int->Nat
 |none=>d
 |some v=>if v<0 then (v+(n:Int)).toNat else min v.toNat n
theorem sIx_none (n d:Nat):sIx n d none=d:=rfl
theorem sIx_nat (n d k:Nat):sIx n d (some (k:Int))=min k n:=by
 show (if (k)<0 then ((k)+(n:Int)).toNat else min (k:Int).toNat n)=min k n;rw[iFN (by lia),qbe]
theorem Hu (n d:Nat) (hd:d<=n) (o:Option Int):sIx n d o<=n:=by
 cases o with
 |none=>exact hd
 |some v=>
  show (if v<0 then (v+_).toNat else min v.toNat n)<=n;by_cases L:v<0
  ·lia
  ·rw[iFN L];exact Nat.min_le_right _ _
theorem wl (v:Int) (n d:Nat):(if v<0 then max (v+(n:Int)) 0 else min v (n:Int))=((sIx n d (some v):Nat):Int):=by
 show _=(((if v<0 then (v+_).toNat else min v.toNat n):Nat):Int);by_cases L:v<0
 ·lia
 ·lia
theorem u9 (lo hi:Option Int) (n:Nat):qfd lo hi 1 (n:Int)=(((sIx n 0 lo:Nat):Int),((sIx n n hi:Nat):Int)):=by
 refine Prod.ext ?_ ?_
 ·cases lo with
  |none=>rfl
  |some v=>exact wl v n 0
 ·cases hi with
  |none=>rfl
  |some v=>exact wl v n n
theorem vU (i j:Nat):qcS (i:Int) (j:Int) 1=j - i:=by
 unfold qcS;split<;>lia
theorem pE {v:Value}{o:Option Int}{Q:Option Int->qaj->Prop} (p:qgj v o) (h:Q o s):wpAny (model prog w) A (qiM v) Q E s:=by
 cases p with
 |none=>exact qjZ h
 |int i t=>exact slicePart_int h
theorem gq {g:Addr}{G H:Value}{lo hi:Option Int}{n:Nat}{Q:Int×Int×Nat->qaj->Prop} (P:s.heap.IsSliceOf g G H .none) (R:qgj G lo) (V:qgj H hi)
  (h:Q (((sIx n 0 lo:Nat):Int),1,sIx n n hi - sIx n 0 lo) s):wpAny (model prog w) A (qiN (.ref g) (pure (n:Int))) Q E s:=by
 obtain⟨os,f,M,r⟩:=id P;refine qab (qab (qcd f r (x:=G) U (qab (qcd f r (x:=H) U (qab (qcd f r U (qan ?_)))))));refine qab (qjZ ?_);refine qab (pE R (qab (pE V (qab (qan ?_)))));show wpAny _ _ (match qfd lo hi 1 _ with|(lo,hi)=>pure (lo,_,qcS lo hi 1)) _ _ s
 rw[u9 lo hi n];show wpAny _ _ (pure (_,_,qcS _ _ 1)) _ _ s;rw[vU];exact qan h
theorem Ah (xs:Array Value) (i k:Nat):((qak k).filterMap λ(m:Nat)=>xs[((i:Int)+(m:Int)*1).toNat]?).toArray=((xs.toList.drop i).take k).toArray:=by
 have e:(λ(m:Nat)=>xs[((i)+(m:Int)*1).toNat]?)=λm=>xs[i+m]?:=by
  funext m
  have:((i)+(m:Int)*1).toNat=i+m:=by lia
  rw[this]
 rw[e]
 have:=pick_run xs i k
 rw[List.filterMap_map]at this;have Y:(_ ∘ λx=>i+x)=λm=>xs[i+m]?:=rfl;rw[Y]at this;rw[this]
theorem getItem_tuple_cut {t g:Addr}{items:Array Value}{G H:Value}{lo hi:Option Int}{Q:Value->qaj->Prop} (I:IsTup s.heap t items) (P:s.heap.IsSliceOf g G H .none) (R:qgj G lo) (V:qgj H hi)
  (hw:¬ (sIx items.size 0 lo=0/\sIx items.size items.size hi=items.size))
  (h:Q (.ref s.heap.objs.size) { s with heap:=s.heap.push { cls:=.type "tuple",data:=.seq ((items.toList.drop (sIx items.size 0 lo)).take (sIx items.size items.size hi - sIx items.size 0 lo)).toArray } })
  (J:items.size<=qaL):wpAny (model prog w) A (qe8 (.ref t) (.ref g)) Q E s:=by
 have C:=by
  show ((items.toList.drop (sIx items.size 0 lo)).take (sIx items.size items.size hi - sIx items.size 0 lo)).toArray.size<=qaL;rw[qaH,qb0,qes,qcC];lia
 obtain⟨os,f,M,r⟩:=id P;unfold qe8
 try with_reducible refine qbU ?_
 refine qab (qis I.typeIs (by decide) ?_)
 refine qab (qbK I.typeIs qbH
  (qbV qbH I.typeIs qh3 ?_ (qig _ _)))
 show wpAny _ _ (qe3 _ >>= _) _ _ s;refine qab (tupleItemsOf_ I ?_);refine qab (qhE ⟨os,f,M⟩ ?_);refine qab (gq P R V ?_);have W:¬ ((((sIx items.size 0 lo):Int)==0&&(1:Int)==1&&(sIx items.size items.size hi - sIx items.size 0 lo)==items.size)=true):=by
  intro q;exact hw ⟨by lia,by lia⟩
 show wpAny _ _ (if _=true then _ else _) _ _ s;rw[iFN W,Ah]
 first
  |exact qab (qcc (qan ⟨_,rfl,qan h⟩) C)
  |exact qab _
  |exact qab _
  |exact qab _
end
end HT
namespace L2
open PySem PySem.Spec PyProof.Rows
abbrev TO:=St->Hp->(Option Int->Hp->Prop)->Prop
def PO (X:Cx) (e:Option Expr) (t:TO):Prop:=
 ∀ (a:List (Addr×Obj)) (s:qaj) (b:St) (H:Hp) (Q:Option Int->Hp->Prop),Inv X a b H s->t b H Q->
  wpAny (model X.prog X.w) X.A (evalPart e X.env) (λu s'=>∃ o H',Inv X a b H' s'/\qgj u o/\Q o H') X.xe s
def CJ:TO:=λ_ H Q=>Q none H
def GO (t:TE):TO:=λa H Q=>t a H λx H1=>∃ i,x=.int i/\Q (some i) H1
theorem cF {ns:List Int}:∀ {a:List Value},aI (ns.map V.int) a->qb4 a ns:=by
 induction ns with
 |nil=>intro a r;cases r;exact .nil
 |cons n ns d=>
  intro a r;cases r with
  |cons b c=>
   obtain⟨t,e⟩:=b;subst e;exact .cons n t (d c)
section
variable {X:Cx}{e:Expr}{te:TE}{lo hi:Option Expr}{tl F:TO}{pos C:Pos}
theorem Cc:PO X none CJ:=by
 intro c s d H Q I h;exact qan ⟨none,H,I,.none,h⟩
theorem Cd (h:PE X e te):PO X (some e) (GO te):=by
 intro c s d H Q I hw;refine thn (h c s d H _ I hw) λu s1 ⟨x,H1,I1,g,D⟩=>?_;obtain⟨i,rfl,q⟩:=D;obtain⟨t,rfl⟩:=g;exact⟨_,H1,I1,.int i t,q⟩
def SlR (X:Cx) (r:V->Option Int->Option Int->Hp->VK->Prop):Prop:=
 ∀ (c:List (Addr×Obj)) (s:qaj) (d:St) (H:Hp) (x:V) (v n o:Value) (lo hi:Option Int) (W:Addr) (Q:VK),Inv X c d H s->aP x v->s.heap.IsSliceOf W n o .none->qgj n lo->qgj o hi->r x lo hi H Q->
  ∃ T id,typeLookup (.type T) "__getitem__" = pure (some (.builtin id))/\s.TypeIs v T/\wpAny (model X.prog X.w) X.A (qe8 v (.ref W)) (EP X c d Q) X.xe s
def tSl (r:V->Option Int->Option Int->Hp->VK->Prop) (te:TE) (tl F:TO):TE:=λd H Q=>te d H λx H1=>tl d H1 λl H2=>F d H2 λu H3=>r x l u H3 Q
theorem uI {r:V->Option Int->Option Int->Hp->VK->Prop} (hr:SlR X r) (he:PE X e te) (hl:PO X lo tl) (R:PO X hi F):PE X (.Subscript e (.Slice lo hi none C) pos) (tSl r te tl F):=by
 intro c s d H Q I h;refine qiB (thn (he c s d H _ I h) λv s1 ⟨x,H1,I1,g,D⟩=>?_);refine wpAny_Slice (thn (hl c s1 d H1 _ I1 D) λn s2 ⟨l,H2,I2,L,M⟩=>thn (R c s2 d H2 _ I2 M) λo J ⟨u,H3,I3,O,q3⟩=>?_);refine qan ?_;obtain⟨T,id,hT,G,hg⟩:=hr c { J with heap:=J.heap.push { cls:=.type "slice",data:=.fields #[n,o,.none] } } d H3 x v n o l u J.heap.objs.size Q (I3.kept λb ob q=>qaf _ q) g (qil ..) L O q3
 exact tail_any G hT hg (by with_unfolding_all rfl)
def vh (xs:List V) (lo hi:Option Int):List V:=(xs.drop (HT.sIx xs.length 0 lo)).take (HT.sIx xs.length xs.length hi - HT.sIx xs.length 0 lo)
theorem lW (xs:List V) (lo hi:Option Int):(vh xs lo hi).length<=xs.length:=by
 unfold vh;rw[qb0,qes];lia
def Hs (K:qae):V->Option Int->Option Int->Hp->VK->Prop:=λx lo hi H Q=>∃ a xs,x=.ref a/\SqT K H a xs/\
 ¬ (HT.sIx xs.length 0 lo=0/\HT.sIx xs.length xs.length hi=xs.length)/\∀ p,H p=none->Q (.ref p) (upd H p (.tup (vh xs lo hi)))
theorem ES:SlR X (Hs X.K):=by
 intro c s d H x v n o lo hi W Q I A hs L O h;obtain⟨a,xs,rfl,Y,hw,q⟩:=h;cases A;obtain⟨j,r,G,B⟩:=I.tuple Y;have f:j.toArray.size=xs.length:=by exact r.length.symm
 refine⟨"tuple",_,qbH.lookup,G.typeIs,?_⟩
 refine HT.getItem_tuple_cut G hs L O (by rw[f];exact hw) ?_ (by rw[f];exact B);rw[f];refine⟨.ref s.heap.objs.size,_,I.laid (λb ob q=>qaf _ q) (qap _) ?_,U,q _ (I.hok.fresh (qap _))⟩;exact⟨qaV (lW xs lo hi) B,_,(r.drop _).take _,fI.new _ _⟩
def Hq (K:qae):R2:=λx y H Q=>∃ a b ns P,x=.ref a/\y=.ref b/\SqT K H a (ns.map V.int)/\SqT K H b (P.map V.int)/\Q (.bl (HT.lexLt ns P)) H
theorem Ej (R:X.A.units<cLine):OpR X (qbM .Lt) (Hq X.K):=by
 intro c s d H x y v u Q I A N h;obtain⟨a,b,ns,P,rfl,rfl,S,hb,q⟩:=h;cases A;cases N;obtain⟨j,g,p1,_⟩:=I.tuple S;obtain⟨E,k,C,_⟩:=I.tuple hb;exact HT.lt_tupInts p1 C (cF g) (cF k) R ⟨.bl _,H,I,U,q⟩
def Gr (K:qae):R2:=λx y H Q=>∃ a b xs m,x=.ref a/\y=.ref b/\SqT K H a xs/\SqT K H b m/\xs≠[]/\xs.length+m.length<=qaL/\
 (m=[]->Q (.ref a) H)/\(m≠[]->∀ p,H p=none->Q (.ref p) (upd H p (.tup (xs++m))))
theorem aI.nil_iff {xs:List V}{us:List Value} (r:aI xs us):us=[]↔xs=[]:=by
 cases r with
 |nil=>simp
 |cons _ _=>simp
theorem BY:OpR X (qbI .Add) (Gr X.K):=by
 intro c s d H x y v u Q I A N h;obtain⟨a,b,xs,m,rfl,rfl,S,hb,Y,B,D,M⟩:=h;cases A;cases N;obtain⟨j,g,p1,_⟩:=I.tuple S;obtain⟨E,k,C,_⟩:=I.tuple hb;refine HT.cat_tup p1 C (λz=>Y (g.nil_iff.mp z)) (λz=>⟨.ref a,H,I,U,D (k.nil_iff.mp z)⟩) (λz=>?_) (by rw[<-g.length,<-k.length];exact B);refine⟨.ref s.heap.objs.size,_,I.laid (λb ob q=>qaf _ q) (qap _) ?_,U,M (λw=>z (k.nil_iff.mpr w)) _ (I.hok.fresh (qap _))⟩;exact⟨by rw[qaB];exact B,_,g.append k,fI.new _ _⟩
end
def ixN (n:Nat) (i:Int):Option Nat:=if 0<=i then (if i<n then some i.toNat else none) else if -(n:Int)<=i then some (i+n).toNat else none
def atI {α:Type} (xs:List α) (i:Int):Option α:=(ixN xs.length i).bind λj=>xs[j]?
theorem mI {n:Nat}{i:Int}{j:Nat} (h:ixN n i=some j):qjJ i n=some j/\j<n/\-(n:Int)<=i/\i<n:=by
 unfold ixN at h;by_cases b:0<=i
 ·rw[iFP b]at h
  by_cases a:i<n
  ·rw[iFP a]at h
   exact⟨by rw[qhZ b a,(qaN h)],by lia,by lia,a⟩
  ·rw[iFN a]at h;cases h
 ·rw[iFN b]at h
  by_cases a:-(n)<=i
  ·rw[iFP a]at h
   exact⟨by rw[qhG (by lia) a,(qaN h)],by lia,a,by lia⟩
  ·rw[iFN a]at h;cases h
theorem qO {α:Type}{xs:List α}{i:Int}{v:α} (h:atI xs i=some v):∃ j,qjJ i xs.length=some j/\xs[j]?=some v/\j<xs.length/\-(xs.length:Int)<=i/\i<xs.length:=by
 unfold atI at h;cases e:ixN xs.length i with
 |none=>rw[e]at h;cases h
 |some j=>
  rw[e]at h;obtain⟨d,c,a,b⟩:=mI e;exact⟨j,d,h,c,a,b⟩
theorem cO {α:Type}{xs:List α}{j:Nat}{v:α} (h:xs[j]?=some v):atI xs (j:Int)=some v:=by
 have a:=(qar.mp h).1;have e:ixN xs.length (j)=some j:=by
  unfold ixN;rw[iFP (by lia),iFP (by lia)];simp
 unfold atI;rw[e];exact h
theorem mY {α:Type} (xs:List α) (v:α):atI (xs++[v]) (-1)=some v:=by
 have a:(xs++[v]).length=xs.length+1:=by simp
 have e:ixN (xs++[v]).length (-1)=some xs.length:=by
  unfold ixN;rw[iFN (by decide),iFP (by lia)]
  congr 1
  lia
 unfold atI;rw[e]
 simp
def we (b:Expr):Prop:=∀ o i,qgA b false o i=operate [o,i] (qe8 o i)
def IxR (X:Cx) (r:R2):Prop:=
 ∀ (c a:Expr) (b:List (Addr×Obj)) (s:qaj) (d:St) (H:Hp) (x y:V) (v u:Value) (Q:VK),Inv X b d H s->aP x v->aP y u->r x y H Q->
  qgA a false v u=operate [v,u] (qe8 v u)->wpAny (model X.prog X.w) X.A (subscriptTail c a v u) (EP X b d Q) X.xe s
def MtR (X:Cx) (id:String) (r:V->List V->Hp->VK->Prop):Prop:=
 ∀ (a:List (Addr×Obj)) (s:qaj) (b:St) (H:Hp) (x:V) (xs:List V) (v:Value) (c:List Value) (Q:VK),Inv X a b H s->aP x v->aI xs c->r x xs H Q->
  wpAny (model X.prog X.w) X.A (call (.builtin id) (v::c)) (EP X a b Q) X.xe s
section
variable {X:Cx}{a b:Expr}{ta tb:TE}{pos:Pos}
theorem IxR.or {r O:R2} (h:IxR X r) (h':IxR X O):IxR X (λx y H Q=>r x y H Q\/O x y H Q):=by
 intro G L g s B H x y v u Q I m P q R;rcases q with q|q
 ·exact h G L g s B H x y v u Q I m P q R
 ·exact h' G L g s B H x y v u Q I m P q R
theorem Aa {r:R2} (hr:IxR X r) (ha:PE X a ta) (hb:PE X b tb) (R:we b):PE X (.Subscript a b pos) (tOp r ta tb):=by
 intro g s B H Q I h;exact qiB (DB ha hb I h λv u s2 x y H2 I2 m P q=>hr a b g s2 B H2 x y v u Q I2 m P q (R _ _))
def Gs (K:qae):R2:=λx y H Q=>∃ p xs i v,x=.ref p/\y=.int i/\SqL K H p xs/\atI xs i=some v/\Q v H
def Gv (K:qae):R2:=λx y H Q=>∃ p xs i v,x=.ref p/\y=.int i/\SqT K H p xs/\atI xs i=some v/\Q v H
def Gu:R2:=λx y H Q=>∃ z i c,x=.str z/\y=.int i/\z.length<=qaL/\atI z.cps.toList i=some c/\Q (.str ⟨#[c]⟩) H
theorem BD:IxR X (Gs X.K):=by
 intro G L g s B H x y v u Q I m P h R;obtain⟨p,xs,i,z,rfl,rfl,C,he,q⟩:=h;cases m;obtain⟨t,rfl⟩:=P;obtain⟨d,r,D,M⟩:=I.list C;obtain⟨j,N,h2,h3,h4,h5⟩:=qO he;obtain⟨w,ew,rw'⟩:=r.get h2;have hl:=r.length;have hn:=lJ;have fin:EP X g B Q w s:=⟨z,H,I,rw',q⟩;by_cases h0:0<=i
 ·have hj:=by
   rw[qhZ h0 h5]at N;exact qaN N
  exact item_listR D.isList h0 (by lia) (by rw[hj];simpa using ew) fin R
 ·have hj:(i+(d.toArray.size)).toNat=j:=by
   rw[qhG (by lia) h4]at N;rw[qaH,<-hl];exact qaN N
  exact qhw D.isList.typeIs qiw.lookup
   (wpAny_getItem_list_neg D.isList (by lia) (by rw[qaH]<;>lia) (by lia) (by rw[hj];simpa using ew) ⟨U,fin⟩) R
theorem DW:IxR X (Gv X.K):=by
 intro G L g s B H x y v u Q I m P h R;obtain⟨p,xs,i,z,rfl,rfl,C,he,q⟩:=h;cases m;obtain⟨t,rfl⟩:=P;obtain⟨d,r,D,M⟩:=I.tuple C;obtain⟨j,N,h2,h3,h4,h5⟩:=qO he;obtain⟨w,ew,rw'⟩:=r.get h2;have hn:=lJ;exact qhw D.typeIs slot_tuple_getitem.lookup
  (getItem_tuple D (by lia) (by lia) (by rw[qaH,<-r.length];exact N) (by simpa using ew) ⟨U,⟨z,H,I,rw',q⟩⟩) R
theorem DV:IxR X Gu:=by
 intro G L g s B H x y v u Q I m P h R;obtain⟨z,i,c,rfl,rfl,M,he,q⟩:=h;obtain⟨t,rfl⟩:=m;obtain⟨t',rfl⟩:=P;obtain⟨j,N,h2,h3,h4,h5⟩:=qO he;have hl:z.cps.toList.length=z.length:=by simp[Str.length]
 rw[hl]at N h4 h5;have hn:=lJ
 exact tail_any (typeIs_str s z t) slot_str_getitem.lookup (getItem_str (by
  rw[(decide_eq_false (by lia)),(decide_eq_false (by lia)),Bool.or_false]) (by rw[N];simpa using h2) ⟨.str _,H,I.tok _,⟨_,U⟩,q⟩) R
def rIx (K:qae):R2:=λx y H Q=>Gs K x y H Q\/Gv K x y H Q\/Gu x y H Q
theorem rM:IxR X (rIx X.K):=BD.or (DW.or DV)
theorem vQ (d:List Value) (n j:Nat) (u:Value):qcO (·.setIfInBounds j u) { cls:=.type "list",data:=.seq d.toArray n }={ cls:=.type "list",data:=.seq (d.set j u).toArray n }:=by
 simp[qcO]
theorem Inv.lst {g:List (Addr×Obj)}{B:St}{H:Hp}{s:qaj}{p:Addr}{xs:List V} (I:Inv X g B H s) (h:H p=some (.lst xs)) :
  ∃ (d:List Value) (n:Nat),aI xs d/\s.heap.get? p=some { cls:=.type "list",data:=.seq d.toArray n }/\xs.length<=qaL:=by
 obtain⟨z,d,n,r,e⟩:=I.hok p _ h;exact⟨d,n,r,e,z⟩
theorem Inv.lstUpd {g:List (Addr×Obj)}{B:St}{H:Hp}{s:qaj}{p:Addr}{xs F:List V}{d W:List Value}{n n':Nat}{f:Obj->Obj} (I:Inv X g B H s) (h:H p=some (.lst xs))
  (ho:s.heap.get? p=some { cls:=.type "list",data:=.seq d.toArray n }) (hf:f { cls:=.type "list",data:=.seq d.toArray n }={ cls:=.type "list",data:=.seq W.toArray n' }) (r:aI F W) (M:F.length<=qaL) (t:Nat) :
  Inv X g B (upd H p (.lst F)) { s with heap:=s.heap.update p f,toks:=t }:=by
 have e:(s.heap.update p f).get? p=some { cls:=.type "list",data:=.seq W.toArray n' }:=by
  rw[qca f ho (by rw[hf]<;>rfl),hf]
 refine I.write (by rw[h];trivial) (.inl U) (λb u hb q=>(qaU _ _ (qbo hb)).trans q) ⟨_,e⟩ ?_;exact⟨M,W,n',r,e⟩
def Gx:V->V->V->Hp->(Hp->Prop)->Prop:=λo i v H Q=>∃ p xs k j,o=.ref p/\i=.int k/\H p=some (.lst xs)/\ixN xs.length k=some j/\Q (upd H p (.lst (xs.set j v)))
theorem k8:Fh X Gx:=by
 intro g s B H o i v ov iv u Q I ro ri rv h;obtain⟨p,xs,k,j,rfl,rfl,hp,hj,q⟩:=h;cases ro;obtain⟨t,rfl⟩:=ri;obtain⟨d,n,r,ho,M⟩:=I.lst hp;obtain⟨N,h2,h3,h4⟩:=mI hj;have hl:=r.length;have hn:=lJ;have I':=
  I.lstUpd hp ho (vQ d n j u) (r.set rv j) (by rw[qb7];exact M) s.toks
 by_cases h0:0<=k
 ·have hk:=by
   rw[qhZ h0 h4]at N;exact qaN N
  exact PySem.W.ki_setAt ho h0 (by lia) (by rw[qaH,<-hl];exact h4) (by rw[hk];exact⟨_,I',q⟩)
 ·have hk:(k+(d.toArray.size)).toNat=j:=by
   rw[qhG (by lia) h3]at N;rw[qaH,<-hl];exact qaN N
  exact PySem.W.ki_setBack ho (by lia) (by rw[qaH,<-hl];exact h3) (by lia) (by rw[hk];exact⟨_,I',q⟩)
theorem sj (lo hi:Option Int) (n:Nat):(qee lo hi none n).1=((HT.sIx n 0 lo:Nat):Int)/\(qee lo hi none n).2.1=((HT.sIx n n hi:Nat):Int)/\(qee lo hi none n).2.2=1:=by
 refine⟨?_,?_,U⟩
 ·cases lo with
  |none=>simp[qee,HT.sIx]
  |some i=>
   simp only[qee,HT.sIx,qho,show (1:Int) > 0 by decide,if_true];by_cases h:i<0
   ·simp only[h,if_true]<;>lia
   ·simp only[h,if_false]<;>lia
 ·cases hi with
  |none=>simp[qee,HT.sIx]
  |some i=>
   simp only[qee,HT.sIx,qho,show (1:Int) > 0 by decide,if_true];by_cases h:i<0
   ·simp only[h,if_true]<;>lia
   ·simp only[h,if_false]<;>lia
theorem qg (d:List Value) (lo hi:Option Int):slicePick d.toArray lo hi none=((d.drop (HT.sIx d.length 0 lo)).take (HT.sIx d.length d.length hi - HT.sIx d.length 0 lo)).toArray:=by
 obtain⟨N,h2,h3⟩:=sj lo hi d.toArray.size;unfold slicePick;rw[N,h2,h3];simp only[sliceRange_one,pick_run,qaH]<;>rfl
def Hr (K:qae):V->Option Int->Option Int->Hp->VK->Prop:=λx lo hi H Q=>∃ a xs,x=.ref a/\SqL K H a xs/\∀ p,H p=none->Q (.ref p) (upd H p (.lst (vh xs lo hi)))
theorem CC:SlR X (Hr X.K):=by
 intro g s B H x v vl vu lo hi sl Q I m R D pu h;obtain⟨a,xs,rfl,hx,q⟩:=h;cases m;obtain⟨d,r,ht,M⟩:=I.list hx;have E:=r.length;refine⟨"list",_,qiw.lookup,ht.isList.typeIs,?_⟩
 refine wpAny_getItem_list_slice ht.isList R D pu .none (by simp) ?_ (by rw[qaH]<;>lia);rw[qg,<-E];refine⟨.ref s.heap.objs.size,_,I.laid (λb ob q=>qaf _ q) (qap _) ?_,U,q _ (I.hok.fresh (qap _))⟩;exact⟨qaV (lW xs lo hi) M,_,0,(r.drop _).take _,qas _ U⟩
def fk:V->Bool
 |.non=>true
 |.bl _=>true
 |.int _=>true
 |.str _=>true
 |_=>false
def eqV:V->V->Bool
 |.non,.non=>true
 |.bl a,.bl b=>a==b
 |.bl a,.int b=>(if a then 1 else 0)==b
 |.int a,.bl b=>a==(if b then 1 else 0)
 |.int a,.int b=>a==b
 |.str a,.str b=>a==b
 |_,_=>false
theorem vo {A:qa1}{s:qaj}{y x:V}{u v:Value} (P:aP y u) (m:aP x v) (fy:fk y=true) (fx:fk x=true):qdy A s u v (eqV y x):=by
 cases y with
 |non=>
  cases P;cases x with
  |non=>cases m;exact qfg _
  |bl b=>cases m;exact qkS b
  |int b=>obtain⟨t,rfl⟩:=m;exact qkR b t
  |str b=>obtain⟨t,rfl⟩:=m;exact qkP b t
  |_=>exact absurd (fx) qaE
 |bl a=>
  cases P;cases x with
  |non=>cases m;exact qk4 a
  |bl b=>cases m;exact qk7 a b
  |int b=>obtain⟨t,rfl⟩:=m;exact qk6 a b t
  |str b=>obtain⟨t,rfl⟩:=m;exact qk3 a b t
  |_=>exact absurd (fx) qaE
 |int a=>
  obtain⟨t',rfl⟩:=P;cases x with
  |non=>cases m;exact qkZ a t'
  |bl b=>cases m;exact qk1 a t' b
  |int b=>obtain⟨t,rfl⟩:=m;exact qgp a t' b t
  |str b=>obtain⟨t,rfl⟩:=m;exact qgo a t' b t
  |_=>exact absurd (fx) qaE
 |str a=>
  obtain⟨t',rfl⟩:=P;cases x with
  |non=>cases m;exact qkL a t'
  |bl b=>cases m;exact qkN a t' b
  |int b=>obtain⟨t,rfl⟩:=m;exact qgn a t' b t
  |str b=>obtain⟨t,rfl⟩:=m;exact qkK a t' b t
  |_=>exact absurd (fx) qaE
 |_=>exact absurd (fy) qaE
def eqU (x:V) (u:Value):Bool:=match u with
 |.none=>eqV .non x
 |.bool b=>eqV (.bl b) x
 |.int i _=>eqV (.int i) x
 |.str z _=>eqV (.str z) x
 |_=>false
theorem zg {x y:V}{u:Value} (r:aP y u) (f:fk y=true):eqU x u=eqV y x:=by
 cases y with
 |non=>cases r;rfl
 |bl b=>cases r;rfl
 |int i=>obtain⟨t,rfl⟩:=r;rfl
 |str z=>obtain⟨t,rfl⟩:=r;rfl
 |_=>exact absurd (f) qaE
theorem qM {x:V}:∀ {xs:List V}{Y:List Value},aI xs Y->xs.all fk=true->Y.any (eqU x)=xs.any λy=>eqV y x
 |_,_,.nil,_=>rfl
 |y::xs,u::Y,.cons r t,f=>by
  rw[qbw,qbi]at f;rw[qcj,qcj,zg r f.1,qM t f.2]
theorem oM {A:qa1}{s:qaj}{x:V}{v:Value} (m:aP x v) (fx:fk x=true):∀ {xs:List V}{Y:List Value},aI xs Y->xs.all fk=true->∀ u∈Y,qdy A s u v (eqU x u)
 |_,_,.nil,_=>λu hu=>by cases hu
 |y::xs,u::Y,.cons r t,f=>λu' hu=>by
  rw[qbw,qbi]at f;rcases qaz.mp hu with rfl|hu
  ·rw[zg r f.1];exact vo r m f.1 fx
  ·exact oM m fx t f.2 u' hu
def inV (x:V) (xs:List V):Bool:=xs.any λy=>eqV y x
def rIn (K:qae) (neg:Bool):R2:=λx y H Q=>∃ p xs,y=.ref p/\(SqL K H p xs\/SqT K H p xs)/\fk x=true/\xs.all fk=true/\Q (.bl (if neg then !inV x xs else inV x xs)) H
theorem yx:OpR X (qbM .In) (rIn X.K false):=by
 intro g s B H x y v u Q I m P h;obtain⟨p,xs,rfl,C,fx,fs,q⟩:=h;cases P;rcases C with C|C
 ·obtain⟨d,r,D,M⟩:=I.list C
  refine SeqAt.in_listAt _ D.isList (λw hw=>oM m fx r fs w (by simpa using hw)) ⟨.bl _,H,I,U,?_⟩;rw[show d.toArray.any _=d.any (eqU x) by simp,qM r fs];exact q
 ·obtain⟨d,r,D,M⟩:=I.tuple C
  refine SeqAt.in_tupleAt _ D (λw hw=>oM m fx r fs w (by simpa using hw)) ⟨.bl _,H,I,U,?_⟩;rw[show d.toArray.any _=d.any (eqU x) by simp,qM r fs];exact q
theorem qY:bG X (.builtin "len") (λxs H Q=>∃ p F,xs=[.ref p]/\(SqL X.K H p F\/SqT X.K H p F)/\Q (.int F.length) H):=by
 intro g s B H xs Y Q I r h;obtain⟨p,F,rfl,C,q⟩:=h;obtain⟨u,rfl,m⟩:=gr r;cases m;have hn:=lJ;rcases C with C|C
 ·obtain⟨d,O,D,M⟩:=I.list C
  have E:=O.length;exact Calls.call_len_list D.isList (by simp only[qaH]<;>lia) ⟨.int F.length,H,I.tok _,⟨_,by rw[qaH,E]⟩,q⟩
 ·obtain⟨d,O,D,M⟩:=I.tuple C
  have E:=O.length;exact len_tuple D (by simp only[qaH]<;>lia) ⟨.int F.length,H,I.tok _,⟨_,by rw[qaH,E]⟩,q⟩
theorem qZ:bG X (.builtin "len") (λxs H Q=>∃ z,xs=[.str z]/\z.length<=qaL/\Q (.int z.length) H):=by
 intro g s B H xs Y Q I r h;obtain⟨z,rfl,M,q⟩:=h;obtain⟨u,rfl,t,rfl⟩:=gr r;have hn:=lJ;exact len_str (by lia) ⟨.int z.length,H,I.tok _,⟨_,U⟩,q⟩
theorem q9:bG X (.type "list") (λxs H Q=>∃ p F,xs=[.ref p]/\(SqL X.K H p F\/SqT X.K H p F)/\∀ l,H l=none->Q (.ref l) (upd H l (.lst F))):=by
 intro g s B H xs Y Q I r h;obtain⟨p,F,rfl,C,q⟩:=h;obtain⟨u,rfl,m⟩:=gr r;cases m;have fin:∀ (d:List Value),aI F d->F.length<=qaL->∀ (h':Heap) (c':Nat),_->
   h'.get? s.heap.objs.size=some { cls:=.type "list",dict:=none,data:=.seq d.toArray c',slots:=#[] }->EP X g B Q _ { s with heap:=h' }:=λd O M h' c' kp e=>
  ⟨.ref s.heap.objs.size,_,I.laid kp (qap _) (show cq X.prog X.w _ h' _ (.lst F) from ⟨M,d,c',O,e⟩),U,q _ (I.hok.fresh (qap _))⟩
 rcases C with C|C
 ·obtain⟨d,O,D,M⟩:=I.list C
  have E:=O.length;obtain⟨o,ho,hc,n,hd⟩:=D.isList;exact call_list_seq p (.inl U) ho hc hd (λh' c' kp e=>fin d O M h' c' kp e) (by simp only[qaH]<;>lia)
 ·obtain⟨d,O,D,M⟩:=I.tuple C
  have E:=O.length;obtain⟨o,ho,hc,n,hd⟩:=D;exact call_list_seq p (.inr U) ho hc hd (λh' c' kp e=>fin d O M h' c' kp e) (by simp only[qaH]<;>lia)
theorem pW:bG X (.type "tuple") (λxs H Q=>∃ p F,xs=[.ref p]/\((SqL X.K H p F/\∀ l,H l=none->Q (.ref l) (upd H l (.tup F)))\/(SqT X.K H p F/\Q (.ref p) H))):=by
 intro g s B H xs Y Q I r h;obtain⟨p,F,rfl,h⟩:=h;obtain⟨u,rfl,m⟩:=gr r;cases m;rcases h with⟨C,q⟩|⟨C,q⟩
 ·obtain⟨d,O,D,M⟩:=I.list C
  have E:=O.length;refine call_tuple_list D.isList (λh' kp=>?_) (by simp only[qaH]<;>lia);have I1:=I.kept (t':=s.toks) kp;exact⟨.ref h'.objs.size,_,(I1.laid (λb o e=>qaf _ e) (qap _) (show cq X.prog X.w _ _ _ (.tup F) from ⟨M,d,O,fI.new _ _⟩)),U,q _ (I1.hok.fresh (qap _))⟩
 ·obtain⟨d,O,D,M⟩:=I.tuple C
  exact call_tuple_same D ⟨.ref p,H,I,U,q⟩
def tyV (K:qae) (T:String) (x:V) (H:Hp):Prop:=match x with
 |.str _=>T = "str"
 |.int _=>T = "int"
 |.ref p=>(T = "list"/\∃ xs,SqL K H p xs)\/(T = "tuple"/\((∃ o,K.lookup p=some o/\o.cls=.type "tuple"/\o.dict=none)\/∃ xs,SqT K H p xs))\/
   (T = "dict"/\((∃ kvs,H p=some (.dK kvs))\/∃ kvs,H p=some (.dT kvs)))\/(T = "set"/\∃ S n,H p=some (.set S n))
 |_=>False
theorem E7 {g:List (Addr×Obj)}{B:St}{H:Hp}{s:qaj}{T:String}{x:V}{v:Value} (I:Inv X g B H s) (r:aP x v) (ty:tyV X.K T x H) :
  s.TypeIs v T/\∀ a,v=.ref a->∃ ob,s.heap.get? a=some ob/\ob.dict=none:=by
 cases x with
 |str z=>
  obtain⟨t,rfl⟩:=r;cases (ty);exact⟨typeIs_str s z t,λ_ e=>nomatch e⟩
 |int i=>
  obtain⟨t,rfl⟩:=r;cases (ty);exact⟨qf1 s i t,λ_ e=>nomatch e⟩
 |ref p=>
  cases r;rcases ty with⟨rfl,xs,C⟩|⟨rfl,ht⟩|⟨rfl,hk⟩|⟨rfl,S,n,hk⟩
  ·obtain⟨d,_,D,_⟩:=I.list C
   refine⟨D.isList.typeIs,λa e=>?_⟩;cases e;obtain⟨o,n,e,c,hd,_⟩:=D;exact⟨o,e,hd⟩
  ·have z:∃ o:Obj,s.heap.get? p=some o/\o.cls=.type "tuple"/\o.dict=none:=by
    rcases ht with⟨o,hk,hc,hd⟩|⟨xs,C⟩
    ·exact⟨o,I.kIn p o hk,hc,hd⟩
    ·exact I.tuple1 C
   obtain⟨o,e1,hc,hd⟩:=z;refine⟨⟨o,e1,hc⟩,λa e=>?_⟩;cases e;exact⟨o,e1,hd⟩
  ·have z:∃ o,s.heap.get? p=some o/\o.ExactDict:=by
    rcases hk with⟨kvs,hk⟩|⟨kvs,hk⟩
    ·obtain⟨_,_,_,_,o,_,_,e,ex,_⟩:=I.hok p _ hk
     exact⟨o,e,ex⟩
    ·obtain⟨_,_,_,_,o,_,_,e,ex,_⟩:=I.hok p _ hk
     exact⟨o,e,ex⟩
   obtain⟨o,e,ex⟩:=z;refine⟨⟨o,e,ex.1⟩,λa e2=>?_⟩;cases e2;exact⟨o,e,ex.2.1⟩
  ·obtain⟨o,_,_,_,e,ex,_⟩:=I.hok p _ hk
   refine⟨⟨o,e,ex.1⟩,λa e2=>?_⟩;cases e2;exact⟨o,e,ex.2.1⟩
 |_=>exact qcz ty
def tBM (K:qae) (T:String) (r:V->List V->Hp->VK->Prop) (to:TE) (t:TA):TE:=λB H Q=>to B H λx H1=>tyV K T x H1/\t B H1 λxs H2=>r x xs H2 Q
variable {o e:Expr}{es:List Expr}{to:TE}{t:TA}{name:Str}{apos J:Pos}{T id:String}{r:V->List V->Hp->VK->Prop}
theorem Dc (pa:PlainAttrs T) (slot:Slot T name id) (hty:typeOf (.builtin id)=pure (.type "method_descriptor")) (hm:MtR X id r) (ho:PE X o to) (ha:PA X (e::es) t)
  (hbase:qdf o name X.env (eval o X.env)=eval o X.env:=by rfl)
  (hfew:((qe9 J (qbE (e::es) X.env)).all (λx=>!x.1) && (qif J (qgD [] X.env)).all (λx=>x.1.isSome)
    && decide ((e::es).length+([]:List qh7).length+(if ([]:List qh7).isEmpty then 0 else 1)<30))=true:=by rfl)
  (hline:(apos.endLine==J.line)=true:=by rfl) (R:qbE (e::es) X.env=(false,eval e X.env)::qbE es X.env:=by rfl) (hplain:(qe9 J (qbE es X.env)).any (·.1)=false:=by rfl) :
  PE X (.Call (.Attribute o name apos) (e::es) [] J) (tBM X.K T r to t):=by
 intro g s B H Q I h;refine wpAny_Call_method_late hbase hfew hline U (thn (ho g s B H _ I h) λv s1 ⟨x,H1,I1,r1,ty,q1⟩=>?_);obtain⟨N,h2⟩:=E7 I1 r1 ty;refine⟨T,id,pa,slot,hty,N,h2,?_⟩;have hA:=ha J g s1 B H1 _ I1 q1;rw[R]at hA ⊢;refine Calls.callWith_builtin (by show (false||(qe9 J _).any _)=false;rw[hplain]<;>rfl) (Calls.evalArgs_plain ?_);exact thn hA λY s2 ⟨vs,H2,I2,r2,q2⟩=>hm g s2 B H2 x vs v Y Q I2 r1 r2 q2
end
def MtM (X:Cx) (id:String) (r:V->List V->Hp->VK->Prop):Prop:=
 ∀ (a:List (Addr×Obj)) (s:qaj) (b:St) (H:Hp) (x:V) (xs:List V) (v:Value) (c:List Value) (Q:VK),Inv X a b H s->aP x v->aI xs c->r x xs H Q->
  wpAny (model X.prog X.w) X.A (call (.builtin id) (v::c)) (EP X a b Q) X.xe s
theorem aI.one {x:V}{a:List Value} (h:aI [x] a):∃ u,a=[u]/\aP x u:=by
 cases h with
 |cons r t=>cases t;exact⟨_,U,r⟩
theorem aI.two {x y:V}{a:List Value} (h:aI [x,y] a):∃ u v,a=[u,v]/\aP x u/\aP y v:=by
 cases h with
 |cons r t=>cases t with
  |cons q t2=>cases t2;exact⟨_,_,U,r,q⟩
theorem aI.eraseIdx:∀ {xs:List V}{a:List Value} (i:Nat),aI xs a->aI (xs.eraseIdx i) (a.eraseIdx i)
 |_,_,_,.nil=>.nil
 |_,_,0,.cons _ t=>t
 |_,_,i+1,.cons r t=>.cons r (aI.eraseIdx i t)
theorem aI.rep {xs:List V}{a:List Value} (h:aI xs a):∀ k:Nat,aI (qay k xs).flatten (qay k a).flatten
 |0=>.nil
 |k+1=>by
  exact aI.append h (aI.rep h k)
theorem qA {α:Type}:∀ (l:List α) (i:Nat),(l.eraseIdx i).length<=l.length
 |[],_=>qap _
 |_::_,0=>qc2 _
 |_::r,i+1=>Nat.succ_le_succ (qA r i)
theorem lv (a:List Value):∀ (k:Nat) (acc:List Value),
  qjT (λx1 x2=>x1++x2) acc.toArray (qay k a.toArray)=(acc++(qay k a).flatten).toArray
 |0,acc=>by simp
 |k+1,acc=>by
  have e:acc.toArray++a.toArray=(acc++a).toArray:=by simp
  have b:(acc++a)++(qay k a).flatten=acc++(qay (k+1) a).flatten:=by
   rw[qdk,qfr,qbB]
  rw[<-b,<-lv a k _,<-e,qdk,List.foldl_cons]
section
variable {X:Cx}{c:List (Addr×Obj)}{i:St}{H:Hp}{s:qaj}{l b:Addr}{xs g t:List V}
theorem Inv.lset {a d:List Value}{n:Nat}{f:Array Value->Array Value}{t':Nat} (I:Inv X c i H s) (m:H l=some (.lst xs))
  (e:s.heap.get? l=some { cls:=.type "list",data:=.seq a.toArray n }) (p:f a.toArray=d.toArray) (j:aI g d) (k:g.length<=qaL) :
  Inv X c i (upd H l (.lst g)) { s with heap:=s.heap.update l (qcO f),toks:=t' }:=by
 have q:=qfb e f;rw[p]at q;refine I.write (by rw[m];exact trivial) (.inl U) (λv u hb o=>(qaU s.heap _ (qbo hb)).trans o) ⟨_,q⟩ ?_;exact⟨k,d,_,j,q⟩
theorem Inv.lnew {a:List Value}{t':Nat} (I:Inv X c i H s) (j:aI g a) (k:g.length<=qaL) :
  Inv X c i (upd H s.heap.objs.size (.lst g)) { s with heap:=s.heap.push { cls:=.type "list",data:=.seq a.toArray },toks:=t' }:=
 I.laid (λ_ _ q=>qaf _ q) (qap _) ⟨k,a,0,j,qas _ U⟩
theorem Inv.fresh (I:Inv X c i H s):H s.heap.objs.size=none:=I.hok.fresh (qap _)
theorem Inv.lstM (I:Inv X c i H s) (m:H l=some (.lst xs)):xs.length<=qaL/\∃ (a:List Value) (n:Nat),aI xs a/\xs.length=a.length/\s.heap.get? l=some { cls:=.type "list",data:=.seq a.toArray n }:=by
 obtain⟨z,a,n,r,e⟩:=I.hok l _ m;exact⟨z,a,n,r,r.length,e⟩
theorem zS {n:Nat} (h:n<=qaL):qfo n=false:=by
 exact decide_eq_false (by lia)
end
section
variable {X:Cx}
def Cs:V->List V->Hp->VK->Prop:=λx d H Q=>∃ l xs y,x=.ref l/\d=[y]/\H l=some (.lst xs)/\xs.length<qaL/\Q .non (upd H l (.lst (xs++[y])))
theorem yv:MtM X "list.append" Cs:=by
 intro b s C H x d v A Q I f j h;obtain⟨l,xs,y,rfl,rfl,c,J,q⟩:=h;cases f;obtain⟨u,rfl,m⟩:=j.one;obtain⟨z,a,n,r,o,e⟩:=I.lstM c;refine qcY qfz ⟨_,e,U⟩ qfm (qfc _ _) (qfj l a.toArray n u (by rw[qaH];lia)) ⟨e,?_⟩;refine⟨.non,_,I.lset c e (by simp) (r.append (.cons m .nil)) ?_,U,q⟩;rw[qaB,qbT];lia
def EM:V->List V->Hp->VK->Prop:=λx d H Q=>∃ l xs i k y,x=.ref l/\d=[.int i]/\H l=some (.lst xs)/\-(2^63)<=i/\i<2^63/\qjJ i xs.length=some k/\xs[k]?=some y/\Q y (upd H l (.lst (xs.eraseIdx k)))
theorem zQ:MtM X "list.pop" EM:=by
 intro b s C H x d v A Q I f j h;obtain⟨l,xs,i,k,y,rfl,rfl,c,p,E,B,G,q⟩:=h;cases f;obtain⟨u,rfl,m⟩:=j.one;obtain⟨t,rfl⟩:=m;obtain⟨z,a,n,r,o,e⟩:=I.lstM c;obtain⟨w,hw,g⟩:=r.get G;refine qcY F.slot_list_pop ⟨_,e,U⟩ F.entry_list_pop (F.args_list_pop_2 _ _)
  (MeetsSeq.list_pop_at l a.toArray n i t k w (qj2 p E) (by rw[qaH,<-o];exact B) (by rw[<-qeD];exact hw) (by rw[qaH];lia)) ⟨e,?_⟩
 refine⟨y,_,I.lset c e ?_ (r.eraseIdx k) ?_,g,q⟩
 ·rw[List.eraseIdxIfInBounds_toArray]
 ·have:=qA xs k
  lia
theorem rP {α:Type} (xs:List α) (k:Nat):(qay k xs).flatten.length=k*xs.length:=by
 induction k with
 |zero=>simp
 |succ k D=>rw[qdk,qfr,qaB,D,Nat.succ_mul,qeS]
end
section
variable {prog:qaQ}{w:World}{A:qa1}{E:Value->qaj->Prop}{s:qaj}
end
section
variable {X:Cx}
end
end L2
namespace Att
open PySem PySem.W PySem.Calls PyProof.Rows
theorem my {P:Params}{h:Heap}:∀ (ns:List Int) (c:List Value),WellAll P h c (ns.map WData.int)->qb4 c ns:=by
 intro ns
 induction ns with
 |nil=>
  intro c w;cases w;exact .nil
 |cons n ns d=>
  intro c w;cases w with
  |cons a b=>
   cases a;exact .cons _ _ (d _ b)
theorem yF {l:OpenLaw}{n:Nat} (hn:l.most=some n) {P:Params}{h:Heap}{args:List WData}{b:List Value}
  (c:l.row.toRowW.claim.pre args=true) (i:WellAll P h b args) :
  ∃ a j ns,b=[Value.ref a]/\args=[WData.list (ns.map WData.int)]/\h.get? a=some { cls:=.type "list",data:=.seq j.toArray }/\qb4 j ns/\ns.length<=n:=by
 obtain⟨d,r,rfl,m,o⟩:=hasAllW_cons ((pre_splitW c).1);obtain rfl:=hasAllW_nil o;obtain⟨xs,rfl,q⟩:=hasW_list m;obtain⟨ns,rfl⟩:=items_int q;have f:ns.length<=n:=by
  have g:=by
   have g:=(holds_andW ((pre_splitW c).2)).1;rw[hn]at g;exact g
  have k:=condW_of g (w_not (w_lt w_lit (w_len_list (w_arg U))))
  first
   |(exact absurd k _)
   |(simp at k;lia)
 cases i with
 |cons p w2=>
  cases w2;cases p with
  |list s e=>exact⟨_,_,ns,U,U,s,my ns _ e,f⟩
theorem yB (l:OpenLaw) (args:List WData):l.row.toRowW.claim.post args (.bool true) args=true:=
 postW_of
  (show qiz [] _ .bool=true by first|rfl|decide|simp[qiz,WShape.arms,WShape.armsAll])
  (w_eq_bool (w_res U) w_lit) U
theorem attach_call {l:OpenLaw}{n:Nat}{q:qaQ}{c:List Str}{XP:(Str->Option Value)->Heap->Prop}{YP:World->Heap->Prop}{d:DefRec}
  (hn:l.most=some n) (x:d.params.defaults=[])
  (call:∀ (w:World) (s₀ b:qaj) (mg s:Str->Option Value) (m:Addr) (o:Obj) (t p e:Value) (a:Addr) (h:List Value) (ns:List Int),
    Ground q c [] XP w s₀ mg s b.heap->YP w b.heap->
    b.heap.get? m=some o->o.data=.func (docDef d.name d.params d.body d.scope t p e)->b.heap.CodeRec p d.name->mg d.name=some (.ref m)->
    b.heap.get? a=some { cls:=.type "list",data:=.seq h.toArray }->qb4 h ns->ns.length<=n->b.gens=#[]->
    qdJ (model l.prog w) qhm (.call (.ref m) ⟨[.ref a],[]⟩) (λr s'=>r=.ok (.ret (.bool true))/\OldK b.heap s'.heap/\s'.os=b.os/\qfB s'.gens) b) :
  WalkO q c XP YP l.row.toRowW d [] (λf h=>qhn f h):=by
 intro w s₀ b mg s G Y m o t p e J kV E hd v z u hg args A as i B H y F;obtain rfl:J=.none:=Dflts.none z x;obtain rfl:kV=.none:=Dflts.noKw z;obtain⟨a,h,ns,rfl,rfl,j,g,k⟩:=yF hn i y;refine enter_call (qgd (call w s₀ b mg s m o t p e a h ns G Y E (fd_plain hd) v u j g k hg) λr s' C=>?_);obtain⟨rfl,I,D,K⟩:=C;exact⟨.inl ⟨_,_,_,U,λ_=>rfl,.bool true,yB l _,λ_=>⟨List.Pairwise.nil,λ_ hm=>(nomatch hm)⟩⟩,I,D,K⟩
section
variable {prog:qaQ}{w:World}{A:qa1}{E:Value->qaj->Prop}{s:qaj}{K:Frag}
end
end Att
namespace L2
open PySem PySem.Spec PyProof.Rows
theorem qI:∀ {a:List Value}{ns:List Int},qb4 a ns->aI (ns.map V.int) a
 |_,_,.nil=>.nil
 |_,_,.cons n t h=>.cons ⟨t,U⟩ (qI h)
def Be (H:Hp):Prop:=∀ b,H b=none\/∃ o xs,H b=some (.frz o (.lst xs))
theorem zD {P:qaQ}{w:World}{K:qae}{mg D:Str->Option Value}{CX:CXT}{k:Nat}{J a:Addr}{fd:qb6}{x:Str}{sp:Sp}{c:qaj}{p:List Value}{ns:List Int}
  (KX:K.In c.heap) (hns:c.heap.Ns qce mg) (hb:c.heap.Ns qg5 D) (G:∀ x:Str,x≠"__name__"->D x=qch x) (l:c.heap.NoLimit) (hg:c.gens=#[])
  (B:c.heap.get? a=some { cls:=.type "list",data:=.seq p.toArray }) (hi:qb4 p ns) (R:ns.length<=qaL) (W:bz k qhm)
  (F:∀ base:Heap,K.In base->base.Ns qce mg->dP P w K mg base CX k J fd [x] sp) (j:∀ (s:qaj) (u:Value),qhv s fd ⟨[u],[]⟩ [(x,u)])
  (E:∀ H:Hp,Be H->SqL K H a (ns.map V.int)->sp [.ref a] H (λv _=>v=.bl true) λ_ _ _=>False)
  (I:∀ H e s',CX [] H c (λ_ _ _=>False) e s'->False) :
  qdJ (model P w) qhm (.call (.ref J) ⟨[.ref a],[]⟩) (λr s'=>r=.ok (.ret (.bool true))/\OldK c.heap s'.heap/\s'.os=c.os/\qfB s'.gens) c:=by
 have O:=qI hi;have i:∀ H ,Be H->SqL K H a (ns.map V.int)->HOk P w H c.heap->(∀ b,H b≠none->b=a)->(H a≠none->K.lookup a=none)->
   qdJ (model P w) qhm (.call (.ref J) ⟨[.ref a],[]⟩) (λr s'=>r=.ok (.ret (.bool true))/\OldK c.heap s'.heap/\s'.os=c.os/\qfB s'.gens) c:=by
  intro H N X hok hA S;have f:∀ {b:Addr}{o:Obj},c.heap.get? b=some o->H b=none->(ya c.heap H).get? b=some o:=λe n=>zn e n;have L:∀ {b:Addr}{o:Obj}{es:Array qej}{A:Nat},c.heap.get? b=some o->o.data=.dict es A->H b=none:=λ{b o es A} e d=>by
   cases q:H b with
   |none=>rfl
   |some u=>
    have M:=hA b (by rw[q];simp);subst M;rw[B]at e;cases e;cases d
  have g:∀ {b:Addr}{m:Str->Option Value},c.heap.Ns b m->(ya c.heap H).Ns b m:=λ{b m} ⟨o,es,A,e,d,r⟩=>⟨o,es,A,f e (L e d),d,r⟩
  have t:=λb o e=>f (KX b o e) (by
   cases q:H b with
   |none=>rfl
   |some u=>
    have M:=hA b (by rw[q];simp);subst M
    rw[S (by rw[q];simp)]at e;cases e)
  refine qgd ((F _ t (g hns)).run qhm [] c H ⟨[.ref a],[]⟩ [.ref a] [.ref a] _ _ W ⟨U,⟨t,g hns,⟨D,g hb,G⟩,let ⟨mc,h1,h2⟩:=l;⟨mc,g h1,h2⟩⟩,λb o e=>BS e,qdN (yb _ _),trivial,λb hb=>absurd (show b∈([]) from hb) (by simp),hok,.of_eq hg⟩ (j c _) (.cons U .nil) (E H N X)) λr s' h=>?_;cases r with
  |error e=>exact (I H e s' h).elim
  |ok fl=>
   cases fl with
   |next=>exact qcz h
   |brk=>exact qcz h
   |cont=>exact qcz h
   |ret u=>
    obtain⟨v,H',os,bare,un,y,Y,q⟩:=h;subst q;obtain rfl:u=Value.bool true:=Y;refine⟨U,OldK.of_keep λb o e=>?_,os,bare⟩;cases q:H b with
    |none=>exact un.keep b o e q (by intro z;exact absurd (show b∈([]) from z) (by simp)) (by simp)
    |some u=>
     rcases N b with z|⟨ob,xs,z⟩
     ·rw[q]at z;cases z
     ·obtain⟨Q,_⟩:=hok b _ z
      obtain⟨T,_⟩:=y b _ (un.frzs b ob _ z);rw[e]at Q;cases Q;exact T
 cases hk:K.lookup a with
 |some o=>
  -- the script is one of the module's own objects
  have e:=KX a o hk;rw[B]at e;cases e;refine i _ (λ_=>.inl U) (.inr ⟨_,p.toArray,_,hk,U,U,U,by rw[qaH,hi.length];exact R,by simpa using O⟩) (λb u z=>by cases z) (λb z=>absurd U z) λz=>absurd U z
 |none=>
  refine i (λb=>if b=a then some _ else none) (λb=>?_) (.inl (.inr ⟨{ cls:=.type "list",data:=.seq p.toArray },iFP U⟩)) (λb u z=>?_) (λb z=>?_) λ_=>hk
  ·by_cases hb:b=a
   ·exact .inr ⟨_,_,iFP hb⟩
   ·exact .inl (iFN hb)
  ·by_cases hb:b=a
   ·have C:=(iFP hb).symm.trans z
    cases C;subst hb;exact⟨B,by rw[qah];exact R,p,_,O,B⟩
   ·have C:=(iFN hb).symm.trans z
    cases C
  ·by_cases hb:b=a
   ·exact hb
   ·exact absurd (iFN hb) z
theorem walk_of {l:qfy}{n k:Nat}{q:qaQ}{c:List Str}{XP:(Str->Option Value)->Heap->Prop}{YP:World->Heap->Prop}{d:DefRec}{K:Params->qae}{CX:World->CXT}{sp:World->Sp}{x:Str}
  (hn:l.most=some n) (t:n<=qaL) (z:d.params.defaults=[]) (E:bz k qhm)
  (L:∀ (w:World) (h:Heap),YP w h->(K w.params).In h)
  (F:∀ (w:World) (mg:Str->Option Value) (m:Addr) (h:Heap),(K w.params).In h->h.Ns qce mg->mg d.name=some (.ref m)->
    ∃ fd:qb6,(∀ (s:qaj) (u:Value),qhv s fd ⟨[u],[]⟩ [(x,u)])/\
     ∀ base:Heap,(K w.params).In base->base.Ns qce mg->dP l.prog w (K w.params) mg base (CX w) k m fd [x] (sp w))
  (p:∀ (w:World) (H:Hp) (a:Addr) (ns:List Int),ns.length<=n->Be H->SqL (K w.params) H a (ns.map V.int)->sp w [.ref a] H (λv _=>v=.bl true) λ_ _ _=>False)
  (y:∀ (w:World) (H:Hp) (s:qaj) (e:Value) (s':qaj),CX w [] H s (λ_ _ _=>False) e s'->False) :
  qhL q c XP YP l.row.toRowW d [] (λf A=>qhn f A):=by
 refine Att.attach_call hn z λw s₀ i mg M m o N O I a A ns G Y P hd D r j g b hg=>?_;have KX:=L w _ Y;obtain⟨fd,hb,C⟩:=F w mg m _ KX G.T.g r;exact zD KX G.T.g G.T.b G.T.builtins G.T.nolimit hg j g (qaV b t) E C hb (λH B J=>p w H a ns b B J) λH e s'=>y w H i e s'
def mF (s:Stmt):Arguments:=match s with
 |.FunctionDef _ a _ _ _ _ _ _ _ _=>a
 |_=>{ posonlyargs:=[],args:=[],vararg:=none,kwonlyargs:=[],kw_defaults:=[],kwarg:=none,defaults:=[] }
def aW (s:Stmt):List Stmt:=match s with
 |.FunctionDef _ _ b _ _ _ _ _ _ _=>b
 |_=>[]
def au (s:Stmt):Scope:=match s with
 |.FunctionDef _ _ _ _ _ _ a _ _ _=>a
 |_=>{ kind:=.function,names:=[],isGenerator:=false,isCoroutine:=false }
abbrev CX0:CXT:=λ_ _ _ _ _ _=>False
abbrev E0:XK:=λ_ _ _=>False
theorem z7 {X:Cx}:mS CX0 X E0:=λ_ _ _ _ _ _ _ h=>h.elim
structure Fun (K:qae) (x qual:Str) (st:Stmt) (f:Addr) (fd:qb6):Prop where
 ex:∃ (oc:Value) (od:Option Addr) (kV doc pm:Value) (an:Option Addr) (cdv ct:Value) (osl:Array (Option Value)),
  fd=qdU x qual (mF st) (aW st) (au st) .none kV doc pm an cdv ct/\K.lookup f=some ⟨oc,od,.func fd,osl⟩/\qfO K cdv qual=true
 kp:qcD K (.ref f)=true
section
variable {P:qaQ}{w:World}{K:qae}{mg:Str->Option Value}{base:Heap}
theorem Fun.ok {x a:Str}{st:Stmt}{f:Addr}{fd:qb6}{N ps:List Str}{k:Nat}{sp:Sp} (F:Fun K x a st f fd) (S:cy N ps (au st)) (len:∀ m H Q E,sp m H Q E->m.length=ps.length)
  (j:∀ (b:Value) (A:qa1) (outer:List Env) (s:qaj) (H:Hp) (m:List V) (Q:VK) (E:XK),bz k (A.deeper (qeB a (au st) s.heap.objs.size f b))->sp m H Q E->
    ∃ t,PSs (fV CX0 P w K mg base N a (au st) f b A outer s H E).nox (aW st) t/\t { nx:=λ_ H'=>Q .non H',rt:=Q } (jc N m) H):dP P w K mg base CX0 (k+1) f fd ps sp:=by
 obtain⟨o,p,kV,d,g,i,b,ct,e,rfl,v,n⟩:=F.ex;refine FE v n S len λA outer s H m Q E y u=>?_;obtain⟨t,h,q⟩:=j b A outer s H m Q E y u;exact⟨t,h.nox,q⟩
theorem Fun.binds {x a:Str}{st:Stmt}{f:Addr}{fd:qb6}{ps:List Str} (F:Fun K x a st f fd)
  (h:∀ (kV d g:Value) (i:Option Addr) (b ct:Value) (r:List Value),r.length=ps.length->bindArgs (qdU x a (mF st) (aW st) (au st) .none kV d g i b ct) ⟨r,[]⟩=pure (ps.zip r)):dq K fd ps []:=by
 obtain⟨o,p,kV,d,g,i,b,ct,e,rfl,v,n⟩:=F.ex;exact .all (h kV d g i b ct)
theorem fun_mk {x a:Str}{st:Stmt}{f:Addr}{o:Value}{p i:Option Addr}{e:Array (Option Value)}{kV d g b ct:Value} (l:K.lookup f=some ⟨o,p,.func (qdU x a (mF st) (aW st) (au st) .none kV d g i b ct),e⟩)
  (c:qfO K b a=true) (k:qcD K (.ref f)=true):Fun K x a st f (qdU x a (mF st) (aW st) (au st) .none kV d g i b ct):=⟨⟨o,p,kV,d,g,i,b,ct,e,U,l,c⟩,k⟩
end
theorem C2 {A:qa1}{k:Nat} (a:bz k A):A.units+1<cLine:=qbF (Nat.add_le_add_left (by decide) _) a.units
theorem yI {n:Nat} (h:n<=1000):n<qaL:=qbF h (by decide)
section
variable {X:Cx}
end
theorem DR {A B:Prop} (h:B):if false=true then A else B:=by
 exact h
theorem DS {A B:Prop} (h:A):if true=true then A else B:=by
 exact h
def aR (H H':Hp):Prop:=∀ b o,H b=some o->H' b=some o
theorem aR.refl (H:Hp):aR H H:=λ_ _ h=>h
theorem aR.trans {H H1 H2:Hp} (a:aR H H1) (b:aR H1 H2):aR H H2:=λc o h=>b c o (a c o h)
def cB (a:List (Str×Addr)):List (Str×qb2)->List (Str×Addr)->List (Str×Addr)
 |[],acc=>acc
 |(n,k)::r,acc=>if k==.free then cB a r ((n,(a.lookup n).getD 0)::acc) else cB a r acc
theorem jH {env:Env} (f:Str×qb2->List (Str×Addr)->Sem (ForInStep (List (Str×Addr))))
  (d:∀ n k cs,f (n,k) cs=if k==.free then (do let c <-cellOf env n;pure (.yield ((n,c)::cs))) else pure (.yield cs)) :
  ∀ (names:List (Str×qb2)) (acc:List (Str×Addr)),(∀ x∈names,x.2=.free->∃ c,env.cells.lookup x.1=some c)->
   forIn names acc f=pure (cB env.cells names acc)
 |[],acc,_=>by rfl
 |(n,k)::r,acc,h=>by
  rw[qfW,d];unfold cB;by_cases a:(k==.free)=true
  ·obtain⟨c,g⟩:=h (n,k) qag (beq_iff_eq.mp a)
   have b:=g;rw[iFP a,iFP a]
   have:cellOf env n=pure c:=by unfold cellOf;rw[b]
   rw[this,b];exact jH f d r _ λx e=>h x (qai _ e)
  ·rw[iFN a,iFN a]
   exact jH f d r _ λx e=>h x (qai _ e)
theorem jw {a:Scope}{env:Env} (h:∀ x∈a.names,x.2=.free->∃ c,env.cells.lookup x.1=some c) :
  closureFor a env=pure (cB env.cells a.names []):=by
 simp only[closureFor];rw[jH _ (λn k cs=>by cases hk:k==NameKind.free<;>simp[hk]) a.names [] h]
 simp
theorem fK {a:List (Str×Addr)}:∀ (names:List (Str×qb2)) (acc:List (Str×Addr)) {x:Str}{c:Addr},(cB a names acc).lookup x=some c->
  acc.lookup x=some c\/((x,NameKind.free)∈names/\c=(a.lookup x).getD 0)
 |[],_,_,_,h=>.inl h
 |(n,k)::r,acc,x,c,h=>by
  unfold cB at h;by_cases b:(k==.free)=true
  ·rw[iFP b]at h
   rcases fK r _ h with q|⟨f,d⟩
   ·rw[qbx]at q
    cases hx:x==n with
    |true=>
     rw[hx]at q;have e:=beq_iff_eq.mp hx;subst e;exact .inr ⟨by rw[<-beq_iff_eq.mp b];exact qag,(qaN q).symm⟩
    |false=>rw[hx]at q;exact .inl q
   ·exact .inr ⟨qai _ f,d⟩
  ·rw[iFN b]at h
   rcases fK r _ h with q|⟨f,d⟩
   ·exact .inl q
   ·exact .inr ⟨qai _ f,d⟩
theorem e7 {a:List (Str×Addr)}{x:Str}:∀ (names:List (Str×qb2)) (acc:List (Str×Addr)),((x,NameKind.free)∈names\/(acc.lookup x).isSome=true)->((cB a names acc).lookup x).isSome=true
 |[],_,h=>h.elim (λz=>nomatch z) id
 |(n,k)::r,acc,h=>by
  unfold cB;by_cases b:(k==.free)=true
  ·rw[iFP b]
   refine e7 r _ ?_;rcases h with h|h
   ·rcases qaz.mp h with e|h
    ·cases e
     exact .inr (by rw[qbx,beq_self_eq_true];rfl)
    ·exact .inl h
   ·refine .inr ?_
    rw[qbx];cases x==n
    ·exact h
    ·rfl
  ·rw[iFN b]
   refine e7 r _ ?_;rcases h with h|h
   ·rcases qaz.mp h with e|h
    ·cases e;exact absurd U b
    ·exact .inl h
   ·exact .inr h
theorem de:∀ (names:List (Str×qb2)) (n:Nat) (acc:List (Str×Addr)) {x:Str}{c:Addr},(qcx n names acc).lookup x=some c->acc.lookup x=some c\/((x,NameKind.cell)∈names/\n<=c)
 |[],_,_,_,_,h=>.inl h
 |(m,k)::r,n,acc,x,c,h=>by
  unfold qcx at h;by_cases a:(k==.cell)=true
  ·rw[iFP a]at h
   rcases de r _ _ h with q|⟨d,b⟩
   ·rw[qbx]at q
    cases hx:x==m with
    |true=>
     rw[hx]at q;have e:=beq_iff_eq.mp hx;subst e;exact .inr ⟨by rw[<-beq_iff_eq.mp a];exact qag,by rw[qaN q];exact qap _⟩
    |false=>rw[hx]at q;exact .inl q
   ·exact .inr ⟨qai _ d,Nat.le_of_succ_le b⟩
  ·rw[iFN a]at h
   rcases de r _ _ h with q|⟨d,b⟩
   ·exact .inl q
   ·exact .inr ⟨qai _ d,b⟩
theorem pX:∀ (names:List (Str×qb2)) (n:Nat) (acc:List (Str×Addr)),(∀ p∈acc,p.2<n)->∀ {x y:Str}{c:Addr},(qcx n names acc).lookup x=some c->(qcx n names acc).lookup y=some c->n<=c->x=y:=by
 have g:∀ (names:List _) (n:Nat) (acc:List _) (lo:Nat),lo<=n->(∀ p∈acc,p.2<n)->(∀ p∈acc,∀ q∈acc,lo<=p.2->p.2=q.2->p.1=q.1)->
   ∀ p∈qcx n names acc,∀ q∈qcx n names acc,lo<=p.2->p.2=q.2->p.1=q.1:=by
  intro names
  induction names with
  |nil=>intro n acc lo _ _ h;exact h
  |cons z r o=>
   intro n acc lo d a h;obtain⟨m,k⟩:=z;unfold qcx;by_cases j:(k==.cell)=true
   ·rw[iFP j]
    refine o _ _ lo (Nat.le_succ_of_le d) (λp b=>?_) (λp b q f l e=>?_)
    ·rcases qaz.mp b with e|b
     ·rw[e];exact qb1 _
     ·exact qa2 (a p b)
    ·rcases qaz.mp b with s|b<;>rcases qaz.mp f with i|f
     ·rw[s,i]
     ·rw[s]at e;exact absurd (a q f) (by rw[<-e];exact qbd _)
     ·rw[i]at e;exact absurd (a p b) (by rw[e];exact qbd _)
     ·exact h p b q f l e
   ·rw[iFN j]
    exact o _ _ lo d a h
 intro names n acc a x y c u v t;exact g names n acc n (qap _) a (λp b q f l _=>absurd (a p b) (qhO.mpr l)) _ (qbu u) _ (qbu v) t U
theorem dL:∀ (names:List (Str×qb2)) (h:Heap) (acc:List (Str×Addr)),(∀ p∈acc,∃ v,h.IsCell p.2 v)->∀ p∈qcx h.objs.size names acc,∃ v,(qe6 h names).IsCell p.2 v
 |[],_,_,h=>h
 |(m,k)::r,h,acc,d=>by
  unfold qcx qe6;by_cases a:(k==.cell)=true
  ·rw[iFP a,iFP a]
   have:=dL r (h.push { cls:=.type "cell",data:=.cell none }) ((m,h.objs.size)::acc) (λp c=>by
    rcases qaz.mp c with e|c
    ·rw[e];exact⟨none,_,qas _ U,U⟩
    ·obtain⟨v,z⟩:=d p c
     exact⟨v,z.keeps λb o e=>qaf _ e⟩)
   rwa [qbn]at this
  ·rw[iFN a,iFN a]
   exact dL r h acc d
theorem dZ {names:List (Str×qb2)} (nd:(names.map (·.1)).Nodup):∀ {x:Str}{k:qb2},(x,k)∈names->names.lookup x=some k:=by
 induction names with
 |nil=>intro x k h;cases h
 |cons z r a=>
  intro x k h;obtain⟨m,b⟩:=z;rw[qaw,qcl]at nd;rw[qbx];rcases qaz.mp h with e|h
  ·cases e;rw[beq_self_eq_true]
  ·have:(x==m)=false:=beq_eq_false_iff_ne.mpr λe=>nd.1 (e ▸ qaD.mpr ⟨(x,k),by assumption,U⟩)
   rw[this];exact a nd.2 h
theorem cZ {env:Env}:∀ {names:List (Str×qb2)}{x:Str}{k:qb2},
  (names.map λ(n,k)=>if (k==NameKind.free&&env.scope.kind==.function&&env.kindOf n==some .cell) then (n,NameKind.cell) else (n,k)).lookup x=some k->
  ∃ a,names.lookup x=some a/\(k=a\/(a=.free/\k=.cell))
 |[],_,_,h=>by cases h
 |(n,a)::r,x,k,h=>by
  rw[qaw]at h;dsimp only at h;rw[qbx];by_cases b:(a==NameKind.free&&env.scope.kind==.function&&env.kindOf n==some .cell)=true
  ·rw[iFP b,qbx]at h
   cases hx:x==n with
   |true=>
    rw[hx]at h;refine⟨a,U,.inr ⟨?_,(qaN h).symm⟩⟩;simp only[qbi]at b;exact beq_iff_eq.mp b.1.1
   |false=>rw[hx]at h;exact cZ h
  ·rw[iFN b,qbx]at h
   cases hx:x==n with
   |true=>rw[hx]at h;exact⟨a,U,.inl (qaN h).symm⟩
   |false=>rw[hx]at h;exact cZ h
theorem gU {env:Env}:∀ {names:List (Str×qb2)}{x:Str},names.lookup x=some .free->
  (names.map λ(n,k)=>if (k==NameKind.free&&env.scope.kind==.function&&env.kindOf n==some .cell) then (n,NameKind.cell) else (n,k)).lookup x=some .free\/
  (names.map λ(n,k)=>if (k==NameKind.free&&env.scope.kind==.function&&env.kindOf n==some .cell) then (n,NameKind.cell) else (n,k)).lookup x=some .cell
 |[],_,h=>by cases h
 |(n,b)::r,x,h=>by
  rw[qaw];dsimp only;rw[qbx]at h;by_cases a:(b==NameKind.free&&env.scope.kind==.function&&env.kindOf n==some .cell)=true
  ·rw[iFP a,qbx]
   cases hx:x==n with
   |true=>exact .inr U
   |false=>rw[hx]at h;exact gU h
  ·rw[iFN a,qbx]
   cases hx:x==n with
   |true=>rw[hx]at h;exact .inl h
   |false=>rw[hx]at h;exact gU h
theorem kT {M:Model}{A:qa1}{E:Value->qaj->Prop}{s:qaj}{a:Scope}{env:Env}{c:List (Str×Addr)}{Q:Env->qaj->Prop}
  (d:Q (newEnv a s.heap.objs.size env.globals (qcx (s.heap.objs.size+1) a.names c) env.qual none .none (some env) qg5)
    { s with heap:=qe6 (s.heap.push { cls:=.type "dict",data:=.dict #[] }) a.names }) :
  wpAny M A (newFunctionEnv a env.globals c [] env.qual none .none (some env)) Q E s:=by
 refine qab (wpAny_alloc ?_);refine qab (wpAny_layCells _ (λname kind b=>by cases hkc:kind==NameKind.cell<;>simp[hkc]) _ _ _ _ ?_);rw[qbn ..];refine qab ?_;exact qan (qan d)
theorem dw {prog:qaQ}{w:World}{A:qa1}{R:qhJ->qaj->Prop}{s:qaj}{u a iter:Expr}{t:List Expr}{o:Scope}{pos:Pos}{z acc:Value}{env:Env} (I:Nat->qaj->Prop)
  (turn:∀ n s,I n s->wpAny (model prog w) A (qg4 z) (λr e=>match r with
    |none=>R (.ok .next) e
    | some v=>wpAny (model prog w) A (qgC a z v) (λ_ b=>wpAny (model prog w) A (qge a env v) (λ_ k=>
      wpAny (model prog w) A (forIn t true λc r=>if r=true then do let ok <-qjM c env (eval c env);pure (ForInStep.yield ok) else pure (ForInStep.yield r)) (λok d=>
       if ok=true then wpAny (model prog w) A (eval u env) (λx f=>
        wpAny (model prog w) A (call (.builtin "list.append") [acc,x]) (λ_ i=>∃ m,m<n/\I m i) (λ_ _=>False) f) (λ_ _=>False) d
       else ∃ m,m<n/\I m d) (λ_ _=>False) k) (λ_ _=>False) b) (λ_ _=>False) e) (λ_ _=>False) s)
  (n:Nat) (h:I n s) :
  qdJ (model prog w) A (.compLoop (.ListComp u [⟨a,iter,t,0⟩] o pos) 0 z acc env) R s:=by
 refine codeAny_loop U I (λn s B=>?_) n h;refine wpAny_noted ?_;rw[compTurn_list];refine qab (qeJ (qab (qct (turn n s B) (λr e j=>?_) λ_ _ h'=>h'.elim)));cases r with
 |none=>exact qan j
 |some v=>
  refine qab (qct j (λ_ b l=>?_) λ_ _ h'=>h'.elim);refine qab (qct l (λ_ k p=>qab (qct p (λok d g=>?_) λ_ _ h'=>h'.elim)) λ_ _ h'=>h'.elim);cases ok with
  |false=>exact qan ⟨U,g⟩
  |true=>
   exact qab (qab (qct g (λx f q=>qab (qct q (λ_ i y=>qan (qan ⟨U,y⟩)) λ_ _ h'=>h'.elim)) λ_ _ h'=>h'.elim))
def lcX (X:Cx) (a:Scope) (b:List (Str×Addr)) (Nc:List Str) (s:qaj) (H:Hp) (C:Addr) (c:List Addr):Cx where
 prog:=X.prog
 w:=X.w
 K:=X.K
 mg:=X.mg
 base:=X.base
 A:=X.A
 N:=Nc
 s₀:=s
 H₀:=H
 env:=qhl a b C X.env
 outer:=X.stack
 stack:=X.stack
 ex:=c
 fn:=λx=>a.names.lookup x==some .cell
 calm:=X.calm
 pn:=[]
 xe:=λ_ _=>False
structure dQ (X:Cx) (scope:Scope) (Nc:List Str) (emb:St->St):Prop where
 kind:scope.kind=.function
 nd:(scope.names.map (·.1)).Nodup
 nN:Nc.Nodup
 free:∀ x∈scope.names,x.2=.free->X.env.kindOf x.1=some .cell\/X.env.kindOf x.1=some .free
 len:∀ σ:St,σ.length=X.N.length->(emb σ).length=Nc.length
 emb:∀ σ:St,σ.length=X.N.length->∀ (i:Nat) (x:Str) (v:V),Nc[i]?=some x->(emb σ)[i]?=some (some v)->∃ j:Nat,X.N[j]?=some x/\σ[j]?=some (some v)/\scope.names.lookup x=some .free
section
variable {X:Cx}{E:List (Addr×Obj)}{V:St}{H:Hp}{s:qaj}{a:Scope}{Nc:List Str}{emb:St->St}
theorem dQ.clos (S:dQ X a Nc emb) (ok:X.Ok):∀ x∈a.names,x.2=.free->∃ c,X.env.cells.lookup x.1=some c:=λx B h=>ok.has x.1 (S.free x B h)
theorem uk (S:dQ X a Nc emb) (I:Inv X E V H s) {T:List Addr} (W:∀ b∈T,jt X E H b) (hfo:∀ b∈T,∃ o,s.heap.get? b=some o) {lo:Obj} (hlo:∀ v,lo.data≠.cell v) (hfr:lo.isFreed=false) :
  Inv (lcX X a (qcx (s.heap.objs.size+2) a.names (cB X.env.cells a.names [])) Nc s H (s.heap.objs.size+1) T) [(s.heap.objs.size,lo)] (emb V) H
   { s with heap:=qe6 ((s.heap.push lo).push { cls:=.type "dict",data:=.dict #[] }) a.names }:=by
 have P:((s.heap.push lo).push { cls:=.type "dict",data:=.dict #[] }).objs.size=s.heap.objs.size+2:=by rw[qbn,qbn]
 have N:(s.heap.push lo).objs.size=s.heap.objs.size+1:=by rw[qbn]
 have J:∀ b o,s.heap.get? b=some o->(qe6 ((s.heap.push lo).push { cls:=.type "dict",data:=.dict #[] }) a.names).get? b=some o:=λb o e=>
  qc9 _ _ b o (qaf _ (qaf _ e))
 have has:=S.clos I.ok;have w:∀ {x:Str}{c:Addr},(cB X.env.cells a.names []).lookup x=some c->X.env.cells.lookup x=some c/\(x,NameKind.free)∈a.names:=λ{x c} h=>by
  rcases fK _ _ h with q|⟨G,L⟩
  ·cases q
  ·obtain⟨c',t⟩:=has _ G U
   have F:=t;rw[F]at L;exact⟨by rw[F,L];rfl,G⟩
 have d:∀ {x:Str}{c:Addr},(qcx (s.heap.objs.size+2) a.names _).lookup x=some c->
   _\/_:=λ{x c} h=>by
  rcases de _ _ _ h with q|q
  ·exact .inl (w q)
  ·exact .inr q
 have g:∀ {x:Str}{c:Addr},X.env.cells.lookup x=some c->c<s.heap.objs.size:=λ{x c} h=>by
  obtain⟨v,z⟩:=I.cell x c h;exact z.lt
 have C:∀ b∈T,b<s.heap.objs.size:=λb hb=>by obtain⟨o,e⟩:=hfo b hb;exact qav e
 have f:∀ p∈cB X.env.cells a.names [],∃ x,X.env.cells.lookup x=some p.2:=by
  have key:∀ (names:List _) (acc:List _),(∀ x∈names,x.2=.free->∃ c,X.env.cells.lookup x.1=some c)->(∀ p∈acc,∃ x,X.env.cells.lookup x=some p.2)->∀ p∈cB X.env.cells names acc,∃ x,X.env.cells.lookup x=some p.2:=by
   intro names
   induction names with
   |nil=>intro acc _ h;exact h
   |cons z r ih=>
    intro acc hn h;obtain⟨m,k⟩:=z;unfold cB;by_cases J:(k==.free)=true
    ·rw[iFP J]
     refine ih _ (λx B=>hn x (qai _ B)) λp l=>?_;rcases qaz.mp l with e|l
     ·obtain⟨c,hc⟩:=hn _ qag (beq_iff_eq.mp J)
      exact⟨m,by rw[e,hc];rfl⟩
     ·exact h p l
    ·rw[iFN J]
     exact ih _ (λx B=>hn x (qai _ B)) h
  exact key _ _ has λp l=>nomatch l
 refine⟨⟨I.ok.mod,S.kind,I.ok.glob,I.ok.blt,qc2 _,λx y c n A=>?_,λx B=>?_,λx c B h=>?_,I.ok.hd,I.ok.frames,.inl U,λb hb=>?_,I.bs,qaV I.ok.bsz I.sz,λb o e hb=>?_,λb hb=>?_,I.stack,I.stkFree⟩,
  rfl,I.bare,Un.kept J,⟨_,(Heap.Ns.new _ _).keeps (qc9 _ _) |> λq=>by rw[N]at q;exact q,λi x v n A _=>?_⟩,λx c h=>?_,I.hok.fresh (qc2 _),λx c h=>?_,λp l=>?_,I.hok.kept J,S.len V I.len⟩
 ·-- inj
  have M:=n;have O:=A;rcases d M with⟨G,_⟩|⟨_,G⟩
  ·rcases d O with⟨L,_⟩|⟨_,L⟩
   ·exact I.ok.inj x y c G L
   ·exact absurd (qaS (qa2 (qa2 (g G))) L) (qbd _)
  ·refine pX a.names _ _ (λp l=>?_) M O G
   obtain⟨z,Y⟩:=f p l;exact qa2 (qa2 (g Y))
 ·-- has
  have:∃ D,a.names.lookup x=some D/\(D=.cell\/D=.free):=by
   rcases B with q|q
   ·obtain⟨D,n,A⟩:=cZ q
    exact⟨D,n,A.elim (λe=>.inl e.symm) λe=>.inr e.1⟩
   ·obtain⟨D,n,A⟩:=cZ q
    exact⟨D,n,A.elim (λe=>.inr e.symm) λe=>by cases e.2⟩
  obtain⟨D,n,A⟩:=this;refine qcv.mp (qdp a.names _ _ ?_);rcases A with rfl|rfl
  ·exact .inl n
  ·exact .inr (e7 _ _ (.inl (qbu n)))
 ·-- cab
  rcases d h with⟨_,q⟩|⟨_,q⟩
  ·have:=dZ S.nd q
   rw[(beq_iff_eq.mp B)]at this;cases this
  ·exact qaV (qdj _ 2) q
 ·-- exf
  refine⟨qax (qa2 (C b hb)),λx c h=>?_⟩;rcases d h with⟨q,_⟩|⟨_,q⟩
  ·exact (W b hb).2.2.2.2.1 x c q
  ·intro e
   exact absurd (qaS (qa2 (qa2 (C b hb))) (e ▸ q)) (qbd _)
 ·-- noex
  rcases (W b hb).2.2.2.1 with q|q
  ·exact I.ok.noex b o e q
  ·exact absurd (qaS (qav (I.ok.bs b o e).1) q) (qbd _)
 ·-- exfs
  intro hb2;rcases qaz.mp (I.stkSub b hb2) with q|q
  ·exact (W b hb).2.1 q
  ·exact (W b hb).2.2.1 q
 ·-- loc
  obtain⟨j,e1,e2,R⟩:=S.emb V I.len i x v n A;have Q:=(S.free (x,.free) (qbu R) U);obtain⟨m,hn,hl⟩:=I.loc;obtain⟨u,ru,lk⟩:=hl j x v e1 e2 (.inr Q);refine⟨u,ru,.inr ⟨?_,?_⟩⟩
  ·rcases gU R with q|q
   ·exact .inr q
   ·exact .inl q
  ·rcases lk with⟨z,_⟩|⟨_,c,hc,K⟩
   ·rcases Q with q|q<;>(rw[z]at q;cases q)
   ·obtain⟨c',t⟩:=qcv.mp (qdp a.names _ _ (.inr (e7 _ _ (.inl (qbu R)))))
    rcases d t with⟨q,_⟩|⟨q,_⟩
    ·rw[hc]at q
     cases q;exact⟨c,t,K.keeps J⟩
    ·have:=dZ S.nd q
     rw[R]at this;cases this
 ·-- cell
  exact (dL a.names _ (cB X.env.cells a.names []) (λp l=>by
   obtain⟨z,Y⟩:=f p l;obtain⟨v,q⟩:=I.cell z p.2 Y
   exact⟨v,q.keeps λb o e=>qaf _ (qaf _ e)⟩) (x,c) (by rw[P];exact qbu h))
 ·-- freeC
  rcases d h with⟨q,_⟩|⟨_,q⟩
  ·exact I.freeC x c q
  ·exact I.hok.fresh (qaV (qdj _ 2) q)
 ·-- pin
  have hp':=by
   have:p∈([])++[(s.heap.objs.size,lo)]:=l
   simpa using this
  subst hp';refine⟨qc9 _ _ _ _ (qaf _ (qas _ hfr)),I.hok.fresh (qap _),qax (qb1 _),λhb=>?_,hlo⟩;rcases qaz.mp (I.stkSub _ hb) with q|q
  ·exact absurd I.lt (by rw[<-q];exact qbd _)
  ·exact I.nofs (qap _) q
end
def PTs (X:Cx) (b:List Expr) (t:TT):Prop:=
 ∀ (a:List (Addr×Obj)) (s:qaj) (d:St) (H:Hp) (Q:Bool->Hp->Prop),Inv X a d H s->t d H Q->
  wpAny (model X.prog X.w) X.A (forIn b true λc r=>if r=true then do let ok <-qjM c X.env (eval c X.env);pure (ForInStep.yield ok) else pure (ForInStep.yield r)) (TP X a d Q) X.xe s
def HH:TT:=λ_ H Q=>Q true H
theorem Cj {X:Cx}:PTs X [] HH:=λ_ _ _ H _ I h=>wpAny_tests_nil ⟨H,I,h⟩
theorem Cn {X:Cx}{c:Expr}{t:TT} (b:PT X c t):PTs X [c] t:=λa s d H Q I h=>wpAny_tests_one (b a s d H Q I h)
def Sub (b a:St):Prop:=b.length=a.length/\∀ (i:Nat) (v:V),b[i]?=some (some v)->a[i]?=some (some v)
def Fg (J:It) (e:St) (g:TG) (tt:TT) (te:TE) (H1:Hp) (Q:VK):Prop:=∃ W:Nat->Nat->List V->Hp->Prop,(∃ m,W 0 m [] H1)/\∀ i m d H,W i m d H->
 (J.stop i H/\∀ D,H D=none->Q (.ref D) (upd H D (.lst d)))\/
 (J.go i H/\d.length<qaL/\∃ N:List V->Hp->Prop,(∀ c H',N c H'->∃ f,f<m/\W (i+1) f c H')/\∀ x H',J.yld i H x H'->g x e H' λa H2=>Sub e a/\tt a H2 λb H3=>if b=true then te a H3 λv H4=>N (d++[v]) H4 else N d H3)
def tLc (emb:St->St) (b:TI) (g:TG) (tt:TT) (te:TE):TE:=λa H Q=>b a H λJ H1=>Fg J (emb a) g tt te H1 Q
section
variable {X:Cx}{j:Scope}{Nc:List Str}{emb:St->St}{elt iter tg:Expr}{ifs:List Expr}{pos:Pos}{wi:TI}{g:TG}{tt:TT}{te:TE}
theorem Gk (S:dQ X j Nc emb) (hc:X.calm=true) (hi:PI X tg iter wi)
  (hg:∀ f s H C A,PG (lcX X j f Nc s H C A) tg g) (ht:∀ f s H C A,PTs (lcX X j f Nc s H C A) ifs tt) (he:∀ f s H C A,PE (lcX X j f Nc s H C A) elt te)
  (hs:∀ x,qbX iter X.env x=pure x:=by intro _;rfl):PE X (.ListComp elt [⟨tg,iter,ifs,0⟩] j pos) (tLc emb wi g tt te):=by
 intro pins s σ H Q I h;refine qg3 U hs (jw (S.clos I.ok)) S.kind (λx hx hl=>dZ S.nd (by rw[<-hl];exact hx)) ?_;refine thn (hi pins s σ H _ I h) λv s1 h1=>thn h1 λitv R h2=>?_;obtain⟨it,A,tn,J,H2,e,I2,T,Y,f2,W,⟨m0,w0⟩,turn⟩:=h2;subst e;refine qcc (kT ?_);rw[qbn ..];generalize hD:R.heap.objs.size=D;generalize hlo:({ cls:=.type "list",dict:=none,data:=.seq ([]:List Value).toArray }:Obj)=lo
 have fplt:∀ b∈A,b<R.heap.objs.size:=λb hb=>by obtain⟨o,e,_⟩:=T.obj _ _ Y b hb;exact qav e
 have I3:=uk (lo:=lo) S I2 f2 (λb hb=>by obtain⟨o,e,_⟩:=T.obj _ _ Y b hb;exact⟨o,e⟩) (by rw[<-hlo];intro v z;cases z) (by rw[<-hlo];rfl);rw[hD]at I3;generalize hcells:qcx (D+2) j.names _=f at I3;generalize d:lcX X j f Nc R H2 (D+1) A=X' at I3;have L:∀ {H':Hp}{ps:List (Addr×Obj)},(∀ b∈A,H' b=none)->(∀ p∈ps,p.1=D)->∀ b∈A,jt X' ps H' b:=λ{H' ps} hn K b hb=>by
  have ok:=I3.ok;refine⟨hn b hb,?_,?_,.inl (by rw[<-d];exact hb),?_,λp F=>?_⟩
  ·exact (ok.exf b (by rw[<-d];exact hb)).1
  ·exact ok.exfs b (by rw[<-d];exact hb)
  ·exact (ok.exf b (by rw[<-d];exact hb)).2
  ·have hp':p∈([])++ps:=by rw[<-d]at F;exact F
   rw[(K p (by simpa using hp')),<-hD];exact qck (fplt b hb)
 have Dex:D∈X'.ex\/X'.s₀.heap.objs.size<=D:=.inr (by rw[<-d,<-hD];exact qap _);have Dloc:D≠X'.env.locals:=by rw[<-d];exact qax (qb1 _)
 have pD:=I3.pin (D,lo) (by rw[<-d];exact qau _ qag);have Dcell:∀ x c,X'.env.cells.lookup x=some c->c≠D:=λx c hc' e=>by
  obtain⟨v,o,ho,hd⟩:=I3.cell x c hc';rw[e,pD.1]at ho;cases ho;exact pD.2.2.2.2 v hd
 -- the M
 have M:∀ s3:qaj,s3={ R with heap:=qe6 ((R.heap.push lo).push { cls:=.type "dict",data:=.dict #[] }) j.names }->
   qdJ (model X.prog X.w) X.A (.compLoop (.ListComp elt [⟨tg,iter,ifs,0⟩] j pos) 0 (.ref it) (.ref D) (qhl j f (D+1) X.env))
    (compPost (model X.prog X.w) X.A X.xe none (EP X pins σ Q) (.ref D) (D+1)) s3:=by
  rintro s3 rfl
  refine dw (λn s'=>∃ i V l k H',Inv X' [(D,{ cls:=.type "list",data:=.seq l.toArray k })] (emb σ) H' s'/\aI V l/\tn i s'.heap/\(∀ b∈A,H' b=none)/\V.length<=qaL/\W i n V H') ?_ m0
   ⟨0,[],[],0,H2,?_,.nil,?_,λb hb=>(f2 b hb).1,qcI _,w0⟩
  ·rintro n s4 ⟨i,V,l,k,H4,I4,rv,st4,fr4,hlen,w4⟩
   have K:∀ p∈[(D,({ cls:=.type "list",data:=.seq l.toArray k }:Obj))],p.1=D:=λp F=>by
    have:=qal.mp F
    rw[this]
   rcases turn i n V H4 w4 with⟨stop,qn⟩|⟨go,hlt,N,hN,step⟩
   ·-- the end
    have TD:=T.done X' (by rw[<-d];rfl) (by rw[<-d];rfl) (by rw[<-d];rfl) (by rw[<-d];exact hc) i _ s4 (emb σ) H4 (λ_ _=>False) I4 (L fr4 K) st4 stop;rw[show X'.A=X.A by rw[<-d];rfl]at TD;refine thn TD λr s5 ⟨hr,I5⟩=>?_;subst hr;obtain⟨m5,hn5,_⟩:=id I5.loc;have eC:X'.env.locals=D+1:=by rw[<-d];rfl
    rw[eC]at hn5;refine⟨m5,hn5,λh' O=>?_⟩;have pD5:=I5.pin (D,{ cls:=.type "list",data:=.seq l.toArray k }) (by rw[<-d];exact qau _ qag)
    have neC:∀ b u,H4 b=some u->b≠D+1:=λb u e z=>by
     have:=I5.free
     rw[eC,<-z,e]at this;cases this
    have hD4:H4 D=none:=pD5.2.1;have un:=I5.base;have B:Un (frs X.stack) A H2 H4 R.heap s5.heap:=by rw[<-d]at un;exact un
    have w:∀ b o,R.heap.get? b=some o->b≠D/\b≠D+1:=λb o e=>by
     have q:=qav e;rw[hD]at q;exact⟨qax q,qax (qa2 q)⟩
    have h2D:H2 D=none:=by rw[<-hD];exact I2.fresh
    have hok':HOk X.prog X.w H4 h':=λb u e=>by
     have ob:cq X.prog X.w H4 s5.heap b u:=by have:=I5.hok b u e;rw[<-d]at this;exact this
     refine ob.stay (λc v hcv q=>(O.2 c ?_).trans q) (λ_ q=>q) λ_ _ q=>q;rcases hcv with z|z
     ·rw[z];exact neC b u e
     ·exact neC c _ z
    have hokD:HOk X.prog X.w (upd H4 D (.lst V)) h':=λb u e=>by
     by_cases hb:b=D
     ·subst hb
      rw[upd_same]at e;cases e;exact⟨hlen,l,k,rv,(O.2 b (qax (qb1 _))).trans pD5.1⟩
     ·rw[upd_ne hb]at e
      refine (hok' b u e).stay (λ_ _ _ q=>q) (λc q=>?_) λc z q=>?_
      all_goals first
       |(rw[upd_ne (aN q hD4)];exact q)
       |(rw[upd_ne (aN z hD4)];exact z)
    refine⟨.ref D,upd H4 D (.lst V),?_,U,qn D hD4⟩;refine I2.call' (s':={ s5 with heap:=h' }) (ch:=A) ?_ ⟨λb o e nb hb hx=>?_,λb o e nb hb hx=>?_,λb o e nb hx=>?_,λb o e hx=>?_,λb xs e=>?_,λb o u e=>?_,λb ps e=>?_⟩ hokD I5.bare (λb hb=>?_)
    ·have:=I5.os
     rw[<-d]at this;exact this
    ·exact (O.2 b (w b o e).2).trans (B.keep b o e nb hb hx)
    ·obtain⟨sl,q⟩:=B.slot b o e nb hb hx
     exact⟨sl,(O.2 b (w b o e).2).trans q⟩
    ·rw[upd_ne (w b o e).1]
     exact B.free b o e nb hx
    ·obtain⟨o',q⟩:=B.there b o e hx
     exact⟨o',(O.2 b (w b o e).2).trans q⟩
    ·rw[upd_ne (aN e h2D)]
     exact B.tups b xs e
    ·rw[upd_ne (aN e h2D)]
     exact B.frzs b o u e
    ·obtain⟨m,q⟩:=B.tbls b ps e
     exact⟨m,by rw[upd_ne (aN e h2D)];exact q⟩
    ·obtain⟨q0,q1,q2,q3,q4,q5⟩:=f2 b hb
     exact⟨q3,q1,q4,q5⟩
   ·-- a turn
    have hA:X'.A=X.A:=by rw[<-d];rfl
    have hP:X'.prog=X.prog:=by rw[<-d];rfl
    have hw:X'.w=X.w:=by rw[<-d];rfl
    have hE:X'.env=qhl j f (D+1) X.env:=by rw[<-d];rfl
    have hxe:X'.xe=λ_ _=>False:=by rw[<-d];rfl
    have TI':=T.item X' hP hw (by rw[<-d];rfl) (by rw[<-d];exact hc) i _ s4 (emb σ) H4 (λ_ _=>False) I4 (L fr4 K) st4 go;rw[hA]at TI';refine thn TI' λr s5 ⟨u,hr,h5⟩=>?_;subst hr;refine thn h5 λ_ s6 ⟨x,H6,I6,r6,y6,st6,fr6⟩=>?_;have I6':=I6.pinned (L fr6 K) (T.obj _ _ st6);have G:=hg f R H2 (D+1) A;have TT':=ht f R H2 (D+1) A;have EE:=he f R H2 (D+1) A;rw[d]at G TT' EE;have G':=G _ s6 (emb σ) H6 x u _ I6' r6 (step x H6 y6);rw[hA,hP,hw,hE,hxe]at G';refine thn G' λ_ s7 ⟨σ7,H7,I7,sb7,q7⟩=>?_;have T':=TT' _ s7 σ7 H7 _ I7 q7;rw[hA,hP,hw,hE,hxe]at T';refine thn T' λok s8 ⟨H8,I8,q8⟩=>?_
    -- what is pinned
    have t:∀ {σ9:St}{H9:Hp}{P:qaj},Inv X' ([(D,({ cls:=.type "list",data:=.seq l.toArray k }:Obj))]++pf A s6.heap) σ9 H9 P->tn (i+1) P.heap/\∀ b∈A,H9 b=none:=λ{σ9 H9 P} I9=>
     ⟨T.keep _ _ _ st6 λb hb o e=>(I9.pin (b,o) (qau _ (qau _ (cJ hb e)))).1,λb hb=>by
      obtain⟨o,e,_⟩:=T.obj _ _ st6 b hb
      exact (I9.pin (b,o) (qau _ (qau _ (cJ hb e)))).2.1⟩
    cases ok with
    |false=>
     rw[iFN (by decide)]at q8;rw[iFN (by decide)];obtain⟨m',hm,w8⟩:=hN _ _ q8;exact⟨m',hm,i+1,V,l,k,H8,I8.unpinned.weak sb7.1 sb7.2,rv,(t I8).1,(t I8).2,hlen,w8⟩
    |true=>
     rw[iFP U]at q8;rw[iFP U];have E':=EE _ s8 σ7 H8 _ I8 q8;rw[hA,hP,hw,hE,hxe]at E';refine thn E' λy P ⟨v9,H9,I9,r9,n9⟩=>?_;obtain⟨m',hm,w9⟩:=hN _ _ n9;have E:=I9.pin (D,{ cls:=.type "list",data:=.seq l.toArray k }) (qau _ (qaX _ qag))
     have hl:=rv.length;have I9n:Inv X' [] σ7 H9 P:=I9.pins_of λp F=>nomatch F
     refine qcY qfz ⟨_,E.1,U⟩ qfm (qfc _ _) (qfj D l.toArray k y (by rw[qaH];lia)) ⟨E.1,?_⟩;have up:∃ k':Nat,(P.heap.update D (qcO λxs=>xs.push y)).get? D=some { cls:=.type "list",data:=.seq (l++[y]).toArray k' }:=by
      have q:=qfb E.1 (λxs:Array Value=>xs.push y);simp only[qhA]at q;exact⟨_,q⟩
     obtain⟨k',up⟩:=up;have hoth:∀ b o,b≠D->P.heap.get? b=some o->(P.heap.update D (qcO λxs=>xs.push y)).get? b=some o:=λb o hb e=>(qaU P.heap _ (qbo hb)).trans e;have I10:=I9n.turned (t':=P.toks) hoth E.2.1 Dloc Dex Dcell (λp F=>absurd (show p∈([]:List (Addr×Obj)) by rw[<-d]at F;exact F) (by simp));refine⟨m',hm,i+1,V++[v9],l++[y],k',H9,(I10.weak sb7.1 sb7.2).pins_of (λp F=>?_),rv.append (.cons r9 .nil),T.keep _ _ _ (t I9).1 (λb hb o e=>hoth b o (by rw[<-hD];exact qax (fplt b hb)) e),(t I9).2,?_,w9⟩
     ·have:=qal.mp F
      subst this;exact⟨up,E.2.1,Dloc,(pD.2.2.2.1),λv z=>by cases z⟩
     ·rw[qaB,qbT]
      lia
  ·rw[<-hlo.symm]
   exact I3
  ·exact T.keep _ _ _ Y λb hb o e=>qc9 _ _ b o (qaf _ (qaf _ e))
 refine qhy ?_ ?_
 ·exact M _ U
 ·refine T.self X.A 0 _ _ _ (T.keep _ _ _ Y λb hb o e=>qc9 _ _ b o (qaf _ (qaf _ e))) ?_
  exact M _ U
end
end L2
namespace L2
open PySem PySem.Spec PyProof.Rows
open PySem.AutoSeq1 (wpAny_loadPart')
section
variable {prog:qaQ}{w:World}{A:qa1}{E:Value->qaj->Prop}{s:qaj}
theorem fA {c l:Addr}{i:Nat}{items}{x:Value}{Q:Value->qaj->Prop} (b:s.heap.IsTupleIter c l i)
  (y:s.heap.IsTuple l items) (q:items[i]?=some x)
  (u:∀ h',h'.IsTupleIter c l (i+1)->qdn c s.heap h'->Q x { s with heap:=h' }) :
  wpAny (model prog w) A (qcG (.ref c)) Q E s:=by
 obtain⟨o,d,z,hd⟩:=id b;obtain⟨D,g,_,C,f⟩:=y
 refine qab (qbK b.typeIs qdd
  (qbV qdd b.typeIs qgr ?_ (qgl _)))
 show wpAny _ _ (field _ 0 >>= _) _ _ s;refine qab (qcd d hd (x:=.ref l) U ?_);refine qab (qcd d hd U ?_);refine qab (qbJ g f ?_);simp only[qbe,q];refine qab (qfp d hd (by simp) (qan ⟨x,U,qan (u _ ?_ (qdF ..))⟩))
 exact⟨_,qca _ d (qgW (qea hd _)),(qhN ..).trans z,by
  rw[qea hd];simp[qgB]⟩
theorem gh {c l:Addr}{i:Nat}{items}{Q:Value->qaj->Prop} (n:A.handled=none)
  (b:s.heap.IsTupleIter c l i) (y:s.heap.IsTuple l items) (q:items[i]?=none)
  (t:∀ h' e,qhd c s.heap h'->(∃ o,h'.get? e=some o/\o.cls=.type "StopIteration")->E (.ref e) { s with heap:=h' }) :
  wpAny (model prog w) A (qcG (.ref c)) Q E s:=by
 obtain⟨o,d,z,hd⟩:=id b;obtain⟨D,g,_,C,f⟩:=y
 refine qab (qbK b.typeIs qdd
  (qbV qdd b.typeIs qgr ?_ (qgl _)))
 show wpAny _ _ (field _ 0 >>= _) _ _ s;refine qab (qcd d hd (x:=.ref l) U ?_);refine qab (qcd d hd U ?_);refine qab (qbJ g f ?_);simp only[qbe,q];refine qab (qdv (qab (qfp d hd (by simp) ?_)));refine qab ?_;refine qab (m:=qj3 _ _) (wpAny_of_eq (a:=Value.none) (by first|rfl|(rfl)) ?_)
 refine qcc ?_ (by size_fits);refine qab (wpAny_handled ?_)
 first|rw[n]|rw[n]
 refine qab (qan (wpAny_throw ?_));exact t _ _ (((qdF ..).extBut.push _).push _) ⟨_,qas _ U,U⟩
theorem iA (n:A.handled=none) (c l:Addr) (p:l≠c) (items:Array Value) :
  Draws prog w A c [c,l] items.size (λi v=>items[i]?=some v) (λi h=>h.IsTupleIter c l i/\h.IsTuple l items) where
 live:=λ_ _ st=>let ⟨o,d,_⟩:=st.1;⟨o,d⟩
 frame:=λ_ _ _ st B=>⟨st.1.at λo e=>B c (by simp) o e,by
  obtain⟨o,e,r⟩:=st.2
  exact⟨o,B l (by simp) o e,r⟩⟩
 item:=λi s Q E hi st u=>by
  refine fA st.1 st.2 (x:=items[i]) (by simp[hi]) λh' k j=>?_;refine u _ h' s.toks (by simp[hi]) ⟨k,?_⟩ j;obtain⟨o,e,r⟩:=st.2;exact⟨o,(j.2 l p).trans e,r⟩
 done:=λs Q E st t=>gh n st.1 st.2 (by simp) t
end
theorem i6 (l:Addr) (items:Array Value) (n:Nat) (dct:Option Addr) (f:Array (Option Value)) :
  Meets (qfe.«enumerate.__new__» ⟨[.type "enumerate",.ref l],[]⟩) (λ_ R s=>s.heap.get? l=some { cls:=.type "tuple",dict:=dct,data:=.seq items n,slots:=f }/\
   R (.ok (.ret (.ref (s.heap.push { cls:=.type "tuple_iterator",data:=.fields #[.ref l,.int 0 0] }).objs.size)))
    { s with heap:=(s.heap.push { cls:=.type "tuple_iterator",data:=.fields #[.ref l,.int 0 0] }).push { cls:=.type "enumerate",data:=.fields #[.none,.bool false,.ref s.heap.objs.size,qgB 0,.none,.none] } }):=
 .of_wp λprog w A R s h=>by
  obtain⟨j,g,d,i,os⟩:=s;obtain⟨a,h⟩:=h;have e:=sub_enumerate;have b:Heap.IsTuple _ l items:=⟨_,a,U,n,U⟩
  wp_walk using wpAny_loadPart' a
  refine wpAny_stack_any λst=>qan ?_;split
  ·rename_i c _ _ _ _ _
   cases (c==Value.type "enumerate")
   ·wp_walk using wpAny_loadPart' a,qc5 b
    exact⟨_,U,h⟩
   ·wp_walk using wpAny_loadPart' a,qc5 b
    exact⟨_,U,h⟩
  ·wp_walk using wpAny_loadPart' a,qc5 b
   exact⟨_,U,h⟩
theorem iu {prog:qaQ}{w:World}{A:qa1}{E:Value->qaj->Prop}{s:qaj}{l:Addr}{items:Array Value}{Q:Value->qaj->Prop} (e:s.heap.IsTuple l items)
  (h:∀ h',IsEnum h' (s.heap.objs.size+1) s.heap.objs.size 0 .none->h'.IsTupleIter s.heap.objs.size l 0->h'.objs.size=s.heap.objs.size+2->
    (∀ b o,s.heap.get? b=some o->h'.get? b=some o)->Q (.ref (s.heap.objs.size+1)) { s with heap:=h' }) :
  wpAny (model prog w) A (call (.type "enumerate") [.ref l]) Q E s:=by
 obtain⟨⟨c,dct,dt,i⟩,g,f,n,hd⟩:=e;subst f hd;refine callType_new F.called_enumerate (by decide) (F.typeCall_enumerate_1 _) (F.newCall_enumerate_1 _) (λobj=>F.args_object_init_2 obj _) F.entry_enumerate_new
  (i6 l items n dct i) ⟨g,?_⟩
 have a:(s.heap.push { cls:=.type "tuple_iterator",data:=.fields #[.ref l,.int 0 0] }).objs.size=s.heap.objs.size+1:=qbn ..
 rw[a];have d:=by
  have:=qas (s.heap.push { cls:=.type "tuple_iterator",data:=.fields #[.ref l,.int 0 0] })
   (o:={ cls:=.type "enumerate",data:=.fields #[.none,.bool false,.ref s.heap.objs.size,qgB 0,.none,.none] }) U
  rw[a]at this;exact this
 refine⟨⟨_,d,U⟩,h _ d ⟨_,qaf _ (qas _ U),U,U⟩ (by rw[qbn,a]) λb o x=>qaf _ (qaf _ x)⟩
section
variable {X:Cx}{a:List (Addr×Obj)}{l:St}{H:Hp}{s:qaj}{h':Heap}{i:List Addr}
theorem jt.ch (h:∀ b∈i,jt X a H b):∀ b∈i,(b∈X.ex\/X.s₀.heap.objs.size<=b)/\b≠X.env.locals/\(∀ x c,X.env.cells.lookup x=some c->c≠b)/\∀ p∈X.pn++a,p.1≠b:=λb hb=>
 let ⟨_,f1,_,f3,f4,f5⟩:=h b hb
 ⟨f3,f1,f4,f5⟩
theorem Inv.turns {t':Nat} (I:Inv X a l H s) (h:∀ b∈i,jt X a H b) (k:∀ b o,b∉i->s.heap.get? b=some o->h'.get? b=some o):Inv X a l H { s with heap:=h',toks:=t' }:=by
 have f:∀ b u,H b=some u->b∉i:=λb u e z=>by have:=(h b z).1;rw[e]at this;cases this
 refine I.step (jt.ch h) (λb o _ _ d e _=>k b o d e) (λb o _ _ d e _=>⟨o.slots,k b o d e⟩) (λ_ _ _ _ n=>n)
  (λb o d e=>⟨o,k b o d e⟩) (λ_ _ e=>e) (λ_ _ _ e=>e) (λb ps e=>⟨#[],by rw[e];simp⟩) (λm hm=>?_) (λb u e=>?_) I.bare
 ·obtain⟨o,es,t,w,r⟩:=hm
  exact⟨o,es,t,k _ o (λz=>(h _ z).2.1 U) w,r⟩
 ·refine (I.hok b u e).stay (λc v d q=>k c v ?_ q) (λ_ q=>q) λ_ _ q=>q
  rcases d with z|z
  ·rw[z];exact f b u e
  ·exact f c _ z
theorem Inv.turnsT {t':Nat}{T:Addr}{xs:List V}{j:Array Value} (I:Inv X a l H s) (h:∀ b∈i,jt X a H b) (k:∀ b o,b∉i->s.heap.get? b=some o->h'.get? b=some o)
  (y:s.heap.objs.size<=T) (C:fI h' T j) (B:aI xs j.toList) (A:xs.length<=qaL):Inv X a l (upd H T (.tup xs)) { s with heap:=h',toks:=t' }:=by
 have f:∀ b u,H b=some u->b∉i:=λb u e z=>by have:=(h b z).1;rw[e]at this;cases this
 have g:=I.hok.fresh y;refine I.step (jt.ch h) (λb o _ _ d e _=>k b o d e) (λb o _ _ d e _=>⟨o.slots,k b o d e⟩) (λb o _ e n=>by rw[upd_ne ((λb o e=>qax (qaS (qav e) y)) b o e)];exact n)
  (λb o d e=>⟨o,k b o d e⟩) (λb _ e=>by rw[upd_ne (aN e g)];exact e) (λb _ _ e=>by rw[upd_ne (aN e g)];exact e) (λb ps e=>⟨#[],by rw[upd_ne (aN e g),e];simp⟩) (λm hm=>?_) (λb u e=>?_) I.bare
 ·obtain⟨o,es,t,w,r⟩:=hm
  exact⟨o,es,t,k _ o (λz=>(h _ z).2.1 U) w,r⟩
 ·by_cases hb:b=T
  ·subst hb
   rw[upd_same]at e;cases e;refine⟨A,j.toList,B,?_⟩;simpa using C
  ·rw[upd_ne hb]at e
   refine (I.hok b u e).stay (λc v d q=>k c v ?_ q) (λc q=>?_) λc z q=>?_
   ·rcases d with z|z
    ·rw[z];exact f b u e
    ·exact f c _ z
   all_goals first
    |(rw[upd_ne (aN q g)];exact q)
    |(exact z)
end
def Ite (S:Hp->List V->Prop):It:=
 ⟨λi H=>∃ xs x,S H xs/\xs[i]?=some x,λi H x H'=>∃ T v,(∀ xs,S H xs->xs[i]?=some v)/\H T=none/\x=.ref T/\H'=upd H T (.tup [.int i,v]),λi H=>∃ xs,S H xs/\xs.length=i⟩
theorem v5 {P:qaQ}{w:World}{K:qae}{n:List Expr}{k:Nat}{pos:Pos} (a g e:Addr) (j:e≠g) (B:a≠e) (D:a≠g) :
  u7 P w K (.Tuple n k pos) (Ite λH xs=>SqL K H a xs) [e,g] e (λi h=>(∃ f,IsEnum h e g i f)/\h.IsListIter g a i) where
 mem:=by simp
 obj:=λi h st b hb=>by
  rcases qaz.mp hb with rfl|hb
  ·obtain⟨⟨f,q⟩,_⟩:=st
   exact⟨_,q,λv z=>by cases z⟩
  ·rw[qal.mp hb]
   obtain⟨_,o,e,c,d⟩:=st;exact⟨o,e,λv z=>by rw[d]at z;cases z⟩
 keep:=λi h h' st N=>⟨let ⟨f,q⟩:=st.1;⟨f,N e (by simp) _ q⟩,st.2.at λo q=>N g (by simp) o q⟩
 item:=by
  intro X R hw S M i G s σ H E I Q st hg;subst R hw S;obtain⟨xs,x,O,hx⟩:=hg;obtain⟨l,Y,p,hz⟩:=I.list O;obtain⟨u,hu,ru⟩:=Y.get hx;have W:=qff (qjE (prog:=X.prog) (w:=X.w) (A:=X.A.in1) (I.ok.hd M) g a D l.toArray) e j (by simp[j,qbo B]) (by simp);have hi:=by
   simpa using ((qar.mp hu).1)
  obtain⟨⟨ol,L⟩,m⟩:=st;refine qhf (qjE (A:=X.A.in1) (I.ok.hd M) g a D l.toArray) L ⟨m,p.isList⟩ hi j (by simp[j,qbo B]) λy h1 t V ho hs' ht hsz hk=>⟨_,U,?_⟩;have hm:(λ_ (T) (h)=>(∃ x,IsEnumOut h e g _ x T)/\_/\T≠e/\T≠g) i s.heap.objs.size h1:=⟨⟨_,ho⟩,hs',qck (qav L),qck (let ⟨_,q,_⟩:=m;qav q)⟩;have N:∀ b o,b∉[e,g]->s.heap.get? b=some o->h1.get? b=some o:=λb o hb q=>hk b o (λz=>hb (by simp[z])) (λz=>hb (by simp[z])) q;generalize eT:s.heap.objs.size=T at ht ho hm ⊢;have hT:=qdN eT;have r:∃ tk,tk=t+1:=⟨_,U⟩;obtain⟨tk,r⟩:=r;rw[<-r];have ey:=by
   have F:=by simpa using V
   rw[hu]at F;exact (qaN F).symm
  subst ey;refine W.go n k pos i T _ _ _ hm λh2 C J=>?_;have nT:=W.apart i T _ hm;refine⟨.ref T,_,?_,U,⟨T,x,λys V=>by rw[I.list_inj V O];exact hx,I.hok.fresh hT,U,U⟩,⟨C.1,C.2.1⟩,λb hb=>?_⟩
  ·exact (I.turnsT Q (λb o hb q=>J b o hb (N b o hb q)) hT ⟨_,J T _ nT ht,U,⟨_,U⟩,U⟩ (.cons ⟨t,U⟩ (.cons ru .nil)) (by show 2<=qaL;decide))
  ·rw[upd_ne (show b≠T from λz=>nT (z ▸ hb))]
   exact (Q b hb).1
 done:=by
  intro X R hw S M i G s σ H E I Q st hg;subst R hw S;obtain⟨xs,O,hx⟩:=hg;obtain⟨l,Y,p,hz⟩:=I.list O;have hl:=Y.length;have hx':l.toArray[i]?=none:=by simp;lia
  obtain⟨⟨f,he⟩,hit⟩:=st
  -- the end at place i
  refine wpAny_pyNext_enum_end (I.ok.hd M) he hit p.isList hx' λh' eb=>⟨U,?_⟩;exact I.turns Q λb o hb q=>eb b o (by simp at hb;exact hb.2) q
 self:=λ_ _ _ _ _ st h=>let ⟨⟨_,he⟩,_⟩:=st;qeA he h
theorem v7 {P:qaQ}{w:World}{K:qae}{n:List Expr}{k:Nat}{pos:Pos} (a g e:Addr) (f:e≠g) (r:a≠e) (B:a≠g) :
  u7 P w K (.Tuple n k pos) (Ite λH xs=>SqT K H a xs) [e,g] e (λi h=>(∃ l,IsEnum h e g i l)/\h.IsTupleIter g a i) where
 mem:=by simp
 obj:=λi h st b hb=>by
  rcases qaz.mp hb with rfl|hb
  ·obtain⟨⟨l,q⟩,_⟩:=st
   exact⟨_,q,λv z=>by cases z⟩
  ·rw[qal.mp hb]
   obtain⟨_,o,e,c,d⟩:=st;exact⟨o,e,λv z=>by rw[d]at z;cases z⟩
 keep:=λi h h' st C=>⟨let ⟨l,q⟩:=st.1;⟨l,C e (by simp) _ q⟩,st.2.at λo q=>C g (by simp) o q⟩
 item:=by
  intro X R hw S N i G s σ H E I Q st hg;subst R hw S;obtain⟨xs,x,O,hx⟩:=hg;obtain⟨j,Y,p,hz⟩:=I.tuple O;obtain⟨u,hu,ru⟩:=Y.get hx;have W:=qff (iA (prog:=X.prog) (w:=X.w) (A:=X.A.in1) (I.ok.hd N) g a B j.toArray) e f (by simp[f,qbo r]) (by simp);have hi:=by
   simpa using ((qar.mp hu).1)
  obtain⟨⟨ol,L⟩,m⟩:=st;refine qhf (iA (A:=X.A.in1) (I.ok.hd N) g a B j.toArray) L ⟨m,p⟩ hi f (by simp[f,qbo r]) λy h1 t V ho hs' ht hsz hk=>⟨_,U,?_⟩;have hm:(λ_ (T) (h)=>(∃ x,IsEnumOut h e g _ x T)/\_/\T≠e/\T≠g) i s.heap.objs.size h1:=⟨⟨_,ho⟩,hs',qck (qav L),qck (let ⟨_,q,_⟩:=m;qav q)⟩;have C:∀ b o,b∉[e,g]->s.heap.get? b=some o->h1.get? b=some o:=λb o hb q=>hk b o (λz=>hb (by simp[z])) (λz=>hb (by simp[z])) q;generalize eT:s.heap.objs.size=T at ht ho hm ⊢;have hT:=qdN eT;have M:∃ tk,tk=t+1:=⟨_,U⟩;obtain⟨tk,M⟩:=M;have ey:=by
   have F:=by simpa using V
   rw[hu]at F;exact (qaN F).symm
  subst ey;refine W.go n k pos i T _ _ _ hm λh2 D J=>?_;have nT:=W.apart i T _ hm;refine⟨.ref T,_,?_,U,⟨T,x,λys V=>by rw[I.tuple_inj V O];exact hx,I.hok.fresh hT,U,U⟩,⟨D.1,D.2.1⟩,λb hb=>?_⟩
  ·exact (I.turnsT Q (λb o hb q=>J b o hb (C b o hb q)) hT ⟨_,J T _ nT ht,U,⟨_,U⟩,U⟩ (.cons ⟨t,U⟩ (.cons ru .nil)) (by show 2<=qaL;decide))
  ·rw[upd_ne (show b≠T from λz=>nT (z ▸ hb))]
   exact (Q b hb).1
 done:=by
  intro X R hw S N i G s σ H E I Q st hg;subst R hw S;obtain⟨xs,O,hx⟩:=hg;obtain⟨j,Y,p,hz⟩:=I.tuple O;have hl:=Y.length;have hi:i=j.toArray.size:=by simp;lia
  subst hi;refine (qff (iA (A:=X.A.in1) (I.ok.hd N) g a B j.toArray) e f (by simp[f,qbo r]) (by simp)).done s _ _ ⟨st.1,st.2,p⟩ λh' tk C=>⟨U,I.turns Q C⟩
 self:=λ_ _ _ _ _ st h=>let ⟨⟨_,he⟩,_⟩:=st;qeA he h
section
variable {X:Cx}
def DI (K:qae) (w:TA):TI:=λy H R=>w y H λG H1=>∃ a,G=[.ref a]/\(∃ xs,SqL K H1 a xs)/\R (Ite λH xs=>SqL K H a xs) H1
theorem Ae {g:List Expr}{k:Nat}{j:Pos}{a:Expr}{w:TA}{p pos:Pos} (hg:Gl X "enumerate") (hm:X.mg "enumerate" = none) (ha:PA X [a] w) (hs:qbE [a] X.env=[(false,eval a X.env)]:=by rfl) :
  PI X (.Tuple g k j) (.Call (.Name "enumerate" p) [a] [] pos) (DI X.K w):=by
 intro c s y H R I h;refine Call_ (jQ I hg hm qj4 (qcg (thn (ha pos c s y H _ I h) λC s1 ⟨G,H1,I1,T,q1⟩=>?_) hs U));obtain⟨l,e,⟨xs,D⟩,q⟩:=q1;subst e;cases T with
 |cons r B=>
  cases B;cases r;obtain⟨x,m,L,W⟩:=I1.list D;refine call_enumerate_list L.isList λh' N F S E=>qeA N ?_;have d:l<s1.heap.objs.size:=by obtain⟨_,_,e,_⟩:=L;exact qav e
  refine⟨_,_,_,_,H1,U,I1.kept E,v5 l s1.heap.objs.size _ (qex _) (qax (qa2 d)) (qax d),⟨⟨_,N⟩,F⟩,λb hb=>?_,q⟩;have f:s1.heap.objs.size<=b:=by
   rcases qaz.mp hb with e|hb
   ·rw[e];exact qc2 _
   ·rw[qal.mp hb];exact qap _
  exact I1.fpOk f (I1.hok.fresh f)
def DJ (K:qae) (w:TA):TI:=λy H R=>w y H λG H1=>∃ a,G=[.ref a]/\(∃ xs,SqT K H1 a xs)/\R (Ite λH xs=>SqT K H a xs) H1
theorem Ag {g:List Expr}{k:Nat}{j:Pos}{a:Expr}{w:TA}{p pos:Pos} (hg:Gl X "enumerate") (hm:X.mg "enumerate" = none) (ha:PA X [a] w) (hs:qbE [a] X.env=[(false,eval a X.env)]:=by rfl) :
  PI X (.Tuple g k j) (.Call (.Name "enumerate" p) [a] [] pos) (DJ X.K w):=by
 intro c s y H R I h;refine Call_ (jQ I hg hm qj4 (qcg (thn (ha pos c s y H _ I h) λC s1 ⟨G,H1,I1,T,q1⟩=>?_) hs U));obtain⟨l,e,⟨xs,D⟩,q⟩:=q1;subst e;cases T with
 |cons r B=>
  cases B;cases r;obtain⟨x,m,L,W⟩:=I1.tuple D;refine iu L λh' N F S E=>qeA N ?_;have d:l<s1.heap.objs.size:=by obtain⟨_,e,_⟩:=L;exact qav e
  refine⟨_,_,_,_,H1,U,I1.kept E,v7 l s1.heap.objs.size _ (qex _) (qax (qa2 d)) (qax d),⟨⟨_,N⟩,F⟩,λb hb=>?_,q⟩;have f:s1.heap.objs.size<=b:=by
   rcases qaz.mp hb with e|hb
   ·rw[e];exact qc2 _
   ·rw[qal.mp hb];exact qap _
  exact I1.fpOk f (I1.hok.fresh f)
theorem pO {ns:List Int}:∀ {C:List Value},aI (ns.map V.int) C->∃ xs:Array (Int×Tok),C.toArray=intItems xs/\xs.toList.map (·.1)=ns:=by
 induction ns with
 |nil=>intro C r;cases r;exact⟨#[],by simp[intItems],U⟩
 |cons n ns ih=>
  intro C r;cases r with
  |cons r B=>
   obtain⟨t,rfl⟩:=r;obtain⟨xs,e,e2⟩:=ih B;refine⟨#[(n,t)]++xs,?_,by simp[e2]⟩;have e':=congrArg qgL e;simp[intItems]at e' ⊢;exact e'
theorem y3:bG X (.builtin "sum") (λxs H Q=>X.calm=true/\∃ (a:Addr) (ns:List Int),xs=[.ref a]/\SqL X.K H a (ns.map V.int)/\Q (.int ns.sum) H):=by
 intro c s y H xs C Q I m h;obtain⟨Y,a,ns,rfl,D,q⟩:=h;cases m with
 |cons r B=>
  cases B;cases r;obtain⟨x,m,p,W⟩:=I.list D;obtain⟨ps,e1,e2⟩:=pO m;have hl:=p.isList;rw[e1]at hl;refine sum_intListG (I.ok.hd Y) hl λh' tk t' E=>?_;refine⟨.int ns.sum,H,I.kept E,⟨t',?_⟩,q⟩;rw[preSum_eq,qb3 (by simp),e2]
theorem yZ:bG X (.builtin "all") (λxs H Q=>X.calm=true/\∃ (a:Addr) (bs:List Bool),xs=[.ref a]/\SqL X.K H a (bs.map V.bl)/\Q (.bl (bs.all id)) H):=by
 intro c s y H xs C Q I m h;obtain⟨Y,a,bs,rfl,D,q⟩:=h;cases m with
 |cons r B=>
  cases B;cases r;obtain⟨x,m,p,W⟩:=I.list D;have d:a<s.heap.objs.size:=by obtain⟨_,_,e,_⟩:=p;exact qav e
  have M:=by have:=m.length;simpa using this.symm
  refine call_all_walk (qdR p.isList ?_);refine⟨s.heap.objs.size,_,_,_,_,_,λi=>(bs[i]?).getD true,U,Walks.list (A:=X.A.in1) (I.ok.hd Y) s.heap.objs.size a (qax d) x.toArray,⟨⟨_,qas _ U,U,U⟩,p.isList.push _⟩,?_,λh' tk E=>?_⟩
  ·intro i v s' Q' E' hv hQ'
   have P:=by simpa using hv
   have hi:=(qar.mp P).1;obtain⟨b,hb⟩:∃ b,bs[i]?=some b:=⟨bs[i]'(by lia),by simp[show i<bs.length by lia]⟩
   have:(bs.map V.bl)[i]?=some (.bl b):=by rw[qaC,hb];rfl
   obtain⟨u,hu,ru⟩:=m.get this;rw[P]at hu;cases hu;cases ru;have J:Q' ((bs[i]?).getD true) s':=hQ';rw[hb]at J;exact qcb J
  ·refine⟨_,H,I.kept (λb o e=>E b o (λz=>absurd (qav e) (by rw[qal.mp z];exact qbd _)) (qaf _ e)),?_,q⟩
   congr 1
   have:∀ n,n=bs.length->((qak n).all λi=>(bs[i]?).getD true)=bs.all id:=by
    intro n hn;rw[qeI,qbb,qbb];constructor
    ·intro h b hb
     obtain⟨i,hi,e⟩:=qcy.mp hb
     have:=h i (qaR.mpr (by lia))
     simp[hi,e]at this;exact this
    ·intro h i hi
     have hi':=qaR.mp hi;have O:i<bs.length:=by lia
     simp[O];exact h _ (qbQ _)
   exact this _ (by simpa using M)
end
def fW (k:Nat) (js:List Nat) (a:St):St:=qay k none++js.map λj=>(a[j]?).getD none
def vE (a:Scope) (ns:List (Str×qb2)) (N Nc:List Str) (k:Nat) (js:List Nat):Bool:=
 decide ((a.names.map (·.1)).Nodup)&&decide Nc.Nodup&&decide (Nc.length=k+js.length) &&
 (a.names.all λx=>x.2 != .free||ns.lookup x.1==some .cell||ns.lookup x.1==some .free) &&
 ((qak js.length).all λi=>match Nc[k+i]?,js[i]? with|some x,some j=>N[j]?==some x&&a.names.lookup x==some .free|_,_=>false)
theorem uj {X:Cx}{a:Scope} (ns:List (Str×qb2)) (N Nc:List Str) (k:Nat) (js:List Nat) (hns:X.env.scope.names=ns) (hN:X.N=N) (l:a.kind=.function) (h:vE a ns N Nc k js=true):dQ X a Nc (fW k js):=by
 unfold vE at h;simp only[qbi,decide_eq_true_eq]at h;obtain⟨⟨⟨⟨g,p⟩,q⟩,f⟩,r⟩:=h;refine⟨l,g,p,λx s m=>?_,λe _=>?_,λe _ i x v n b=>?_⟩
 ·have:=qbb.mp f x s
  rw[m]at this;simp only[qhY,beq_iff_eq,bne_self_eq_false,qbm,false_or]at this;unfold qk9;rw[hns];exact this
 ·unfold fW
  rw[qaB,qcZ,qah,q]
 ·unfold fW at b
  by_cases hi:i<k
  ·rw[qaG (by simpa using hi),qdr,iFP hi]at b
   cases b
  ·rw[qaI (by simpa using hi),qcZ,qaC]at b
   cases ej:js[i - k]? with
   |none=>rw[ej]at b;cases b
   |some j=>
    rw[ej]at b;have d:=(qar.mp ej).1
    have:=qbb.mp r _ (qaR.mpr d)
    rw[show k+_=i by lia,n,ej]at this;simp only[qbi,beq_iff_eq]at this;refine⟨j,by rw[hN];exact this.1,?_,this.2⟩;have c:(e[j]?).getD none=some v:=qaN b;cases eq:e[j]? with
    |none=>rw[eq]at c;cases c
    |some o=>rw[eq]at c;rw[show o=some v from c]
def AC (names ns:List (Str×qb2)):List (Str×qb2):=names.map λx=>if (x.2==NameKind.free&&ns.lookup x.1==some .cell) then (x.1,.cell) else x
theorem mM {X:Cx}{a:Scope}{b:List (Str×Addr)}{Nc:List Str}{s:qaj}{H:Hp}{C:Addr}{d:List Addr}{ns:List (Str×qb2)} (c:X.env.scope.kind=.function) (hns:X.env.scope.names=ns) :
  (lcX X a b Nc s H C d).env.scope.names=AC a.names ns:=by
 show (a.names.map _)=_
 congr 1
 funext x
 obtain⟨n,k⟩:=x;show (if _=true then (n,NameKind.cell) else (n,k))=_;unfold qk9;rw[c,hns,show (ScopeKind.function==ScopeKind.function)=true from U,qiq]
section
variable {a tl:St}{tt:TT}{te:TE}{H:Hp}{Q:VK}
end
section
variable {X:Cx}
theorem B0:OpR X (qbI .Mult) (rI qgv λi j=>.int (i*j)):=opI λ_ _ _ _ _ _ _ a q=>mul_int q a
end
theorem aR.new {H:Hp}{p:Addr} (h:H p=none) (o:HO):aR H (upd H p o):=λb u q=>by rw[upd_ne (aN q h)];exact q
theorem jq {n:Nat} (h:n<=1000):n<=qaL:=qeR (yI h)
theorem AS (l:Addr) (items:Array Value) (n:Nat) (dct:Option Addr) (b:Array (Option Value)) (u:Tok) :
  Meets (qfe.«tuple.__mul__» ⟨[.ref l,.int 1 u],[]⟩) (λ_ R s=>s.heap.get? l=some { cls:=.type "tuple",dict:=dct,data:=.seq items n,slots:=b }/\R (.ok (.ret (.ref l))) s):=
 .of_wp λprog w A R s h=>by
  obtain⟨a,h⟩:=h
  wp_walk using wpAny_loadPart' a
  exact⟨_,U,h⟩
theorem yK (l:Addr) (items:Array Value) (n:Nat) (dct:Option Addr) (f:Array (Option Value)) (x:Int) (u:Tok) (k:2<=x) (m:x<1000) (a:items.isEmpty=false) (i:items.size<=1000)
  (d:((qay x.toNat items).foldl (λx1 x2=>x1++x2) #[]).size<=qaL) :
  Meets (qfe.«tuple.__mul__» ⟨[.ref l,.int x u],[]⟩) (λ_ R s=>s.heap.get? l=some { cls:=.type "tuple",dict:=dct,data:=.seq items n,slots:=f }/\
   R (.ok (.ret (.ref s.heap.objs.size))) { s with heap:=s.heap.push { cls:=.type "tuple",data:=.seq ((qay x.toNat items).foldl (λx1 x2=>x1++x2) #[]) } }):=
 .of_wp λprog w A R s h=>by
  obtain⟨b,h⟩:=h;have c1:(x < -(2^63)||x>=2^63)=false:=by simp;lia
  have c2:(items.isEmpty||x==1)=false:=by rw[a];simp;lia
  have c3:(x<=0||items.isEmpty)=false:=by rw[a];simp;lia
  have e:(items.size:Int)*x<=1000000:=by
   have g:(items.size:Int)*x<=1000*x:=qfG (by lia) (by lia);lia
  have c:¬ ((items.size:Int)*x > (2^63 - 1) / 8):=by lia
  have j:qiL ((items.size:Int)*x)=false:=by
   exact decide_eq_false (by have:(qaL:Nat)=16777216:=rfl
                             lia)
  refine qe4 (decide_eq_false (by rw[c1];exact qaE)) ?_
  wp_walk using wpAny_loadPart' b
  refine qe4 (decide_eq_false (by rw[c2];exact qaE)) ?_;refine qe4 (decide_eq_false (by rw[c3];exact qaE)) ?_;refine qe4 (decide_eq_false c) ?_
  wp_walk using wpAny_loadPart' b
  exact⟨_,U,h⟩
theorem yL (l:Addr) (items:Array Value) (n:Nat) (dct:Option Addr) (b:Array (Option Value)) (u:Tok) (c:items.isEmpty=false) :
  Meets (qfe.«tuple.__mul__» ⟨[.ref l,.int 0 u],[]⟩) (λ_ R s=>s.heap.get? l=some { cls:=.type "tuple",dict:=dct,data:=.seq items n,slots:=b }/\R (.ok (.ret (.ref s.heap.objs.size))) { s with heap:=s.heap.push { cls:=.type "tuple",data:=.seq #[] } }):=
 .of_wp λprog w A R s h=>by
  obtain⟨a,h⟩:=h
  wp_walk using wpAny_loadPart' a
  exact⟨_,U,h⟩
theorem lM:fillsNumberSlot (.type "tuple") "mul" = pure false:=
 PySem.fillsNumberSlot_seq qeH.lookup (by decide +kernel) F.slot_tuple_rmul.lookup (by decide +kernel)
theorem se:seqRepeat? (.type "tuple")=pure (some (.builtin "tuple.__mul__")):=by
 rfl
theorem n5 (a:Int) (t:Tok) (l:Addr) (items:Array Value) (n:Nat) (dct:Option Addr) (c:Array (Option Value)) :
  Meets (qfe.«int.__rmul__» ⟨[.int a t,.ref l],[]⟩) (λ_ R s=>s.heap.get? l=some { cls:=.type "tuple",dict:=dct,data:=.seq items n,slots:=c }/\R (.ok (.ret Value.notImplemented)) s):=
 .of_wp λprog w A R s h=>by obtain⟨b,h⟩:=h;wp_walk using wpAny_loadPart' b;exact⟨_,U,h⟩
section
variable {X:Cx}
def Gw (K:qae):R2:=λx y H Q=>∃ l k xs,x=.ref l/\y=.int k/\SqT K H l xs/\xs≠[]/\xs.length<=1000/\0<=k/\k<1000/\(k=1->Q (.ref l) H)/\
 (k≠1->∀ p,H p=none->Q (.ref p) (upd H p (.tup (qay k.toNat xs).flatten)))
theorem B3:OpR X (qbI .Mult) (Gw X.K):=by
 intro C s P H x y v u Q I D F h;obtain⟨l,k,xs,rfl,rfl,G,i,w,M,L,J,z⟩:=h;cases D;obtain⟨t,rfl⟩:=F;obtain⟨a,B,p,N⟩:=I.tuple G;obtain⟨⟨c,dct,dt,j⟩,e,E,n,hd⟩:=p;subst E hd;have b:=B.length;refine qgT (by decide) ⟨_,e,U⟩ (λs'=>qf1 s' k t) lM qiI qeW se qin.lookup
  (qcY qeW (qf1 s k t) qip (qh9 _ _) (n5 k t l a.toArray n dct j) ⟨e,U,⟨_,e,U⟩,?_⟩)
 by_cases m:k=1
 ·subst m
  exact qcY qeH ⟨_,e,U⟩ qfR (qfA _ _) (AS l a.toArray n dct j t) ⟨e,.ref l,H,I,U,J U⟩
 ·have A:=by
   exact (lv a k.toNat [])
  have d:(qay k.toNat xs).flatten.length<=qaL:=by
   rw[rP]
   have:k.toNat*xs.length<=1000*1000:=qdh (by lia) w
   have O:qaL=16777216:=rfl;lia
  have g:(qay k.toNat a).flatten.length<=qaL:=by
   rw[rP]at d ⊢;rw[<-b];exact d
  have f:a.toArray.isEmpty=false:=by
   cases a with
   |nil=>cases xs with
    |nil=>exact absurd U i
    |cons _ _=>cases b
   |cons _ _=>rfl
  by_cases r:k=0
  ·subst r
   refine qcY qeH ⟨_,e,U⟩ qfR (qfA _ _) (yL l a.toArray n dct j t f) ⟨e,?_⟩;exact⟨.ref _,_,I.laid (o:=.tup []) (λ_ _ q=>qaf _ q) (qap _) ⟨qcI _,_,.nil,⟨_,qas _ U,U,⟨0,U⟩,U⟩⟩,U,z m _ I.fresh⟩
  refine qcY qeH ⟨_,e,U⟩ qfR (qfA _ _) (yK l a.toArray n dct j k t (by lia) L ?_ (by rw[qaH];lia) (by rw[A];exact g)) ⟨e,?_⟩
  ·cases a with
   |nil=>cases xs with
    |nil=>exact absurd U i
    |cons _ _=>cases b
   |cons _ _=>rfl
  ·rw[A]
   refine⟨.ref _,_,I.laid (o:=.tup (qay k.toNat xs).flatten) (λ_ _ q=>qaf _ q) (qap _) ⟨d,_,B.rep k.toNat,⟨_,qas _ U,U,⟨0,U⟩,U⟩⟩,U,z m _ I.fresh⟩
end
section
variable {X:Cx}{K:qae}
theorem FW (e:X.calm=true:=by rfl) (g:X.K=K:=by rfl):bG X (.builtin "sum") (λxs H Q=>∃ (a:Addr) (ns:List Int),xs=[.ref a]/\SqL K H a (ns.map V.int)/\Q (.int ns.sum) H):=by
 subst g;intro b s f H xs c Q I d h;exact y3 b s f H xs c Q I d ⟨e,h⟩
theorem FV (e:X.calm=true:=by rfl) (g:X.K=K:=by rfl):bG X (.builtin "all") (λxs H Q=>∃ (a:Addr) (bs:List Bool),xs=[.ref a]/\SqL K H a (bs.map V.bl)/\Q (.bl (bs.all id)) H):=by
 subst g;intro b s f H xs c Q I d h;exact yZ b s f H xs c Q I d ⟨e,h⟩
end
section
variable {X:Cx}
end
theorem fm {n j:Nat} (h:j<n):ixN n (j:Int)=some j:=by
 unfold ixN;rw[iFP (by lia),iFP (by lia),qbe]
section
variable {X:Cx}{e:Expr}{ty:TE}{p1 j f h c b a:Pos}{i k g d:Nat}
end
section
variable {prog:qaQ}{w:World}{A:qa1}{E:Value->qaj->Prop}{s:qaj}
end
section
variable {X:Cx}
theorem BE:bG X (.type "range") (λxs H Q=>∃ j:Int,xs=[.int j]/\∀ p,H p=none->Q (.ref p) (upd H p (.rng 0 j))):=by
 intro a s e H xs d Q I c h;obtain⟨j,rfl,q⟩:=h;cases c with
 |cons r b=>
  cases b;obtain⟨t,rfl⟩:=r;exact call_range_1 ⟨.ref _,_,I.laid (o:=.rng 0 j) (λ_ _ q=>qaf _ q) (qap _) ⟨_,_,_,qas _ U⟩,U,q _ I.fresh⟩
end
section
variable {prog:qaQ}{w:World}{A:qa1}{E:Value->qaj->Prop}{s:qaj}
end
section
variable {X:Cx}{e:Expr}{te:TE}{p1 a b pos:Pos}{j:Nat}
end
theorem aI.at {xs:List V}{b:List Value} (r:aI xs b):∀ (j:Nat) (h:j<b.length) ,∃ h':j<xs.length,aP xs[j] b[j]:=by
 induction r with
 |nil=>intro j h;exact absurd h (qc1 j)
 |cons a t e=>
  intro j h;cases j with
  |zero=>exact⟨Nat.zero_lt_succ _,a⟩
  |succ j=>
   obtain⟨c,d⟩:=e j _;exact⟨Nat.succ_lt_succ c,d⟩
theorem mV (e:Nat->Bool) (n:Nat):(qak (n+1)).all e=(e 0&&(qak n).all λj=>e (j+1)):=by
 rw[qdA,qbw,qgR];rfl
section
variable {X:Cx}{K:qae}{c:List (Addr×Obj)}{e:St}{H:Hp}{s:qaj}{A:qa1}{a b:Addr}{xs d:List V}
end
section
variable {X:Cx}{pos p1 c:Pos}{b a:Nat}
end
section
variable {K:qae}{H:Hp}
end
section
variable {X:Cx}{K:qae}
end
end L2
namespace HT
open PySem PySem.Spec PyProof.Rows L2
section
variable {prog:qaQ}{w:World}{A:qa1}{E:Value->qaj->Prop}{s:qaj}
theorem getItem_tuple_all {t i:Addr}{items:Array Value}{g f:Value}{lo hi:Option Int}{Q:Value->qaj->Prop} (b:IsTup s.heap t items) (e:s.heap.IsSliceOf i g f .none) (j:qgj g lo) (k:qgj f hi)
  (hw:sIx items.size 0 lo=0/\sIx items.size items.size hi=items.size) (h:Q (.ref t) s):wpAny (model prog w) A (qe8 (.ref t) (.ref i)) Q E s:=by
 obtain⟨os,d,c,l⟩:=id e;unfold qe8
 try with_reducible refine qbU ?_
 refine qab (qis b.typeIs (by decide) ?_)
 refine qab (qbK b.typeIs qbH
  (qbV qbH b.typeIs qh3 ?_ (qig _ _)))
 show wpAny _ _ (qe3 _ >>= _) _ _ s;refine qab (tupleItemsOf_ b ?_);refine qab (qhE ⟨os,d,c⟩ ?_);refine qab (gq e j k ?_);have a:(((sIx items.size 0 lo):Int)==0&&(1:Int)==1&&(sIx items.size items.size hi - sIx items.size 0 lo)==items.size)=true:=by
  rw[hw.1,hw.2]
  simp
 show wpAny _ _ (if _=true then _ else _) _ _ s;rw[iFP a];refine qab (qab (qhE b.typeIs (qan ?_)))
 first
  |exact qab (qdv (qan ⟨_,rfl,qan h⟩))
  |exact qab _
  |exact qab _
  |exact qab _
end
end HT
namespace L2
open PySem PySem.Spec PyProof.Rows
def Gy (K:qae):V->Option Int->Option Int->Hp->VK->Prop:=λx lo hi H Q=>∃ a xs,x=.ref a/\SqT K H a xs/\
 ((¬ (HT.sIx xs.length 0 lo=0/\HT.sIx xs.length xs.length hi=xs.length)/\∀ p,H p=none->Q (.ref p) (upd H p (.tup (vh xs lo hi))))\/
   ((HT.sIx xs.length 0 lo=0/\HT.sIx xs.length xs.length hi=xs.length)/\Q (.ref a) H))
theorem DX {X:Cx}{K:qae} (p:X.K=K:=by rfl):SlR X (Gy K):=by
 subst p;intro b s l H x v n m lo hi o Q I g j e f h;obtain⟨a,xs,rfl,k,h⟩:=h;rcases h with⟨hw,q⟩|⟨hw,q⟩
 ·exact ES b s l H _ v n m lo hi o Q I g j e f ⟨a,xs,U,k,hw,q⟩
 ·cases g
  obtain⟨d,r,i,t⟩:=I.tuple k;have c:d.toArray.size=xs.length:=by exact r.length.symm
  refine⟨"tuple",_,qbH.lookup,i.typeIs,?_⟩
  exact HT.getItem_tuple_all i j e f (by rw[c];exact hw) ⟨.ref a,H,I,U,q⟩
section
variable {X:Cx}{f:Scope}{Nc:List Str}{emb:St->St}{elt iter tg:Expr}{ifs:List Expr}{pos:Pos}{wi:TI}{g:TG}{tt:TT}{te:TE}
theorem Dg {i0:Nat}{x0:Str}{py spos:Pos} (hN0:X.N.Nodup) (hi0:X.N[i0]?=some x0) (hx0:Loc X.env.scope x0) (S:dQ X f Nc emb) (hc:X.calm=true) (hi:PI X tg iter wi)
  (hg:∀ j s H C A,PG (lcX X f j Nc s H C A) tg g) (ht:∀ j s H C A,PTs (lcX X f j Nc s H C A) ifs tt) (he:∀ j s H C A,PE (lcX X f j Nc s H C A) elt te)
  (hsw:qcw (.ListComp elt [⟨tg,iter,ifs,0⟩] f pos) (some (.Name x0 py)) spos.line X.env=pure true:=by rfl)
  (hf0:X.fn x0=true\/X.env.scope.names.lookup x0=some .local:=by first|exact .inl U|exact .inr U|assumption)
  (hs:∀ x,qbX iter X.env x=pure x:=by intro _;rfl):PS X (.Assign [.Name x0 py] (.ListComp elt [⟨tg,iter,ifs,0⟩] f pos) spos) (EZ (tLc emb wi g tt te) (tH i0)):=by
 intro B s σ H DD I h;rw[exec_Assign_Name_used _ _ _ _ hsw];refine qab (qeJ (qab ?_));refine qab (qct (qg3 U hs (jw (S.clos I.ok)) S.kind (λx hx hl=>dZ S.nd (by rw[<-hl];exact hx)) ?_) (λ_ s' hq=>qan (qan hq)) λ_ _ e=>e);refine thn (hi B s σ H _ I h) λv s1 h1=>thn h1 λitv V h2=>?_;obtain⟨it,A,tn,J,H2,e,I2,T,Y,f2,W,⟨m0,w0⟩,turn⟩:=h2;subst e;refine qcc (kT ?_);rw[qbn ..];generalize hD:V.heap.objs.size=D;generalize hlo:({ cls:=.type "list",dict:=none,data:=.seq ([]:List Value).toArray }:Obj)=lo
 have fplt:∀ b∈A,b<V.heap.objs.size:=λb hb=>by obtain⟨o,e,_⟩:=T.obj _ _ Y b hb;exact qav e
 have I3:=uk (lo:=lo) S I2 f2 (λb hb=>by obtain⟨o,e,_⟩:=T.obj _ _ Y b hb;exact⟨o,e⟩) (by rw[<-hlo];intro v z;cases z) (by rw[<-hlo];rfl);rw[hD]at I3;generalize hcells:qcx (D+2) f.names _=j at I3;generalize d:lcX X f j Nc V H2 (D+1) A=X' at I3;have P:∀ {H':Hp}{ps:List (Addr×Obj)},(∀ b∈A,H' b=none)->(∀ p∈ps,p.1=D)->∀ b∈A,jt X' ps H' b:=λ{H' ps} hn O b hb=>by
  have ok:=I3.ok;refine⟨hn b hb,?_,?_,.inl (by rw[<-d];exact hb),?_,λp M=>?_⟩
  ·exact (ok.exf b (by rw[<-d];exact hb)).1
  ·exact ok.exfs b (by rw[<-d];exact hb)
  ·exact (ok.exf b (by rw[<-d];exact hb)).2
  ·have hp':p∈([])++ps:=by rw[<-d]at M;exact M
   rw[(O p (by simpa using hp')),<-hD];exact qck (fplt b hb)
 have Dex:D∈X'.ex\/X'.s₀.heap.objs.size<=D:=.inr (by rw[<-d,<-hD];exact qap _);have Dloc:D≠X'.env.locals:=by rw[<-d];exact qax (qb1 _)
 have pD:=I3.pin (D,lo) (by rw[<-d];exact qau _ qag);have Dcell:∀ x c,X'.env.cells.lookup x=some c->c≠D:=λx c hc' e=>by
  obtain⟨v,o,ho,hd⟩:=I3.cell x c hc';rw[e,pD.1]at ho;cases ho;exact pD.2.2.2.2 v hd
 -- the Q
 have Q:∀ s3:qaj,s3={ V with heap:=qe6 ((V.heap.push lo).push { cls:=.type "dict",data:=.dict #[] }) f.names }->
   qdJ (model X.prog X.w) X.A (.compLoop (.ListComp elt [⟨tg,iter,ifs,0⟩] f pos) 0 (.ref it) (.ref D) (qhl f j (D+1) X.env))
    (compPost (model X.prog X.w) X.A X.xe (some (qge (.Name x0 py) X.env)) (λ_ s'=>SP X B DD .next s') (.ref D) (D+1)) s3:=by
  rintro s3 rfl
  refine dw (λn s'=>∃ i K l k H',Inv X' [(D,{ cls:=.type "list",data:=.seq l.toArray k })] (emb σ) H' s'/\aI K l/\tn i s'.heap/\(∀ b∈A,H' b=none)/\K.length<=qaL/\W i n K H') ?_ m0
   ⟨0,[],[],0,H2,?_,.nil,?_,λb hb=>(f2 b hb).1,qcI _,w0⟩
  ·rintro n s4 ⟨i,K,l,k,H4,I4,rv,st4,fr4,hlen,w4⟩
   have O:∀ p∈[(D,({ cls:=.type "list",data:=.seq l.toArray k }:Obj))],p.1=D:=λp M=>by
    have:=qal.mp M
    rw[this]
   rcases turn i n K H4 w4 with⟨stop,qn⟩|⟨go,hlt,N,hN,step⟩
   ·-- the end
    have TD:=T.done X' (by rw[<-d];rfl) (by rw[<-d];rfl) (by rw[<-d];rfl) (by rw[<-d];exact hc) i _ s4 (emb σ) H4 (λ_ _=>False) I4 (P fr4 O) st4 stop;rw[show X'.A=X.A by rw[<-d];rfl]at TD;refine thn TD λr s5 ⟨hr,I5⟩=>?_;subst hr;obtain⟨m5,hn5,_⟩:=id I5.loc;have eC:X'.env.locals=D+1:=by rw[<-d];rfl
    rw[eC]at hn5
    suffices inv5:∀ h',qdn (D+1) s5.heap h'->Inv X B σ (upd H4 D (.lst K)) { s5 with heap:=h' } by
     have I5X:Inv X B σ (upd H4 D (.lst K)) s5:=inv5 s5.heap ⟨U,λ_ _=>rfl⟩;have hD4':H4 D=none:=(I5.pin (D,{ cls:=.type "list",data:=.seq l.toArray k }) (by rw[<-d];exact qau _ qag)).2.1
     have hC4:upd H4 D (.lst K) (D+1)=none:=by
      have:=I5.free
      rw[eC]at this;rw[upd_ne (qck (qb1 D))];exact this
     have fpC:∀ b∈[D+1],jt X B (upd H4 D (.lst K)) b:=λb hb=>by
      have e:=qal.mp hb;subst e;exact I2.fpOk (by rw[hD];exact qc2 D) hC4
     obtain⟨oC,esC,epC,getC,datC,relC⟩:=id hn5;have I5p:=I5X.pinned fpC λb hb=>by
      have e:=qal.mp hb;subst e;exact⟨oC,getC,λv z=>by rw[datC]at z;cases z⟩
     refine qiu (jd I5p hN0 hi0 hx0 (v:=.ref D) U (λs6 I6=>?_) hf0);have pC:=(I6.pin (D+1,oC) (qau _ (qau _ (cJ qag getC)))).1;refine⟨m5,⟨oC,esC,epC,pC,datC,relC⟩,λh' F=>?_⟩;have I6u:=I6.unpinned;exact⟨_,_,I6u.turns (t':=s6.toks) fpC (λb o hb e=>(F.2 b (λz=>hb (by rw[z];exact qag))).trans e),qn D hD4'⟩
    intro h' F;have pD5:=I5.pin (D,{ cls:=.type "list",data:=.seq l.toArray k }) (by rw[<-d];exact qau _ qag)
    have neC:∀ b u,H4 b=some u->b≠D+1:=λb u e z=>by
     have:=I5.free
     rw[eC,<-z,e]at this;cases this
    have hD4:H4 D=none:=pD5.2.1;have un:=I5.base;have E:Un (frs X.stack) A H2 H4 V.heap s5.heap:=by rw[<-d]at un;exact un
    have w:∀ b o,V.heap.get? b=some o->b≠D/\b≠D+1:=λb o e=>by
     have q:=qav e;rw[hD]at q;exact⟨qax q,qax (qa2 q)⟩
    have h2D:H2 D=none:=by rw[<-hD];exact I2.fresh
    have hok':HOk X.prog X.w H4 h':=λb u e=>by
     have ob:cq X.prog X.w H4 s5.heap b u:=by have:=I5.hok b u e;rw[<-d]at this;exact this
     refine ob.stay (λc v hcv q=>(F.2 c ?_).trans q) (λ_ q=>q) λ_ _ q=>q;rcases hcv with z|z
     ·rw[z];exact neC b u e
     ·exact neC c _ z
    have hokD:HOk X.prog X.w (upd H4 D (.lst K)) h':=λb u e=>by
     by_cases hb:b=D
     ·subst hb
      rw[upd_same]at e;cases e;exact⟨hlen,l,k,rv,(F.2 b (qax (qb1 _))).trans pD5.1⟩
     ·rw[upd_ne hb]at e
      refine (hok' b u e).stay (λ_ _ _ q=>q) (λc q=>?_) λc z q=>?_
      all_goals first
       |(rw[upd_ne (aN q hD4)];exact q)
       |(rw[upd_ne (aN z hD4)];exact z)
    refine I2.call' (s':={ s5 with heap:=h' }) (ch:=A) ?_ ⟨λb o e nb hb hx=>?_,λb o e nb hb hx=>?_,λb o e nb hx=>?_,λb o e hx=>?_,λb xs e=>?_,λb o u e=>?_,λb ps e=>?_⟩ hokD I5.bare (λb hb=>?_)
    ·have:=I5.os
     rw[<-d]at this;exact this
    ·exact (F.2 b (w b o e).2).trans (E.keep b o e nb hb hx)
    ·obtain⟨sl,q⟩:=E.slot b o e nb hb hx
     exact⟨sl,(F.2 b (w b o e).2).trans q⟩
    ·rw[upd_ne (w b o e).1]
     exact E.free b o e nb hx
    ·obtain⟨o',q⟩:=E.there b o e hx
     exact⟨o',(F.2 b (w b o e).2).trans q⟩
    ·rw[upd_ne (aN e h2D)]
     exact E.tups b xs e
    ·rw[upd_ne (aN e h2D)]
     exact E.frzs b o u e
    ·obtain⟨m,q⟩:=E.tbls b ps e
     exact⟨m,by rw[upd_ne (aN e h2D)];exact q⟩
    ·obtain⟨q0,q1,q2,q3,q4,q5⟩:=f2 b hb
     exact⟨q3,q1,q4,q5⟩
   ·-- a turn
    have hA:X'.A=X.A:=by rw[<-d];rfl
    have hP:X'.prog=X.prog:=by rw[<-d];rfl
    have hw:X'.w=X.w:=by rw[<-d];rfl
    have hE:X'.env=qhl f j (D+1) X.env:=by rw[<-d];rfl
    have hxe:X'.xe=λ_ _=>False:=by rw[<-d];rfl
    have TI':=T.item X' hP hw (by rw[<-d];rfl) (by rw[<-d];exact hc) i _ s4 (emb σ) H4 (λ_ _=>False) I4 (P fr4 O) st4 go;rw[hA]at TI';refine thn TI' λr s5 ⟨u,hr,h5⟩=>?_;subst hr;refine thn h5 λ_ s6 ⟨x,H6,I6,r6,y6,st6,fr6⟩=>?_;have I6':=I6.pinned (P fr6 O) (T.obj _ _ st6);have G:=hg j V H2 (D+1) A;have TT':=ht j V H2 (D+1) A;have EE:=he j V H2 (D+1) A;rw[d]at G TT' EE;have G':=G _ s6 (emb σ) H6 x u _ I6' r6 (step x H6 y6);rw[hA,hP,hw,hE,hxe]at G';refine thn G' λ_ s7 ⟨σ7,H7,I7,sb7,q7⟩=>?_;have T':=TT' _ s7 σ7 H7 _ I7 q7;rw[hA,hP,hw,hE,hxe]at T';refine thn T' λok s8 ⟨H8,I8,q8⟩=>?_
    -- what is pinned
    have t:∀ {σ9:St}{H9:Hp}{R:qaj},Inv X' ([(D,({ cls:=.type "list",data:=.seq l.toArray k }:Obj))]++pf A s6.heap) σ9 H9 R->tn (i+1) R.heap/\∀ b∈A,H9 b=none:=λ{σ9 H9 R} I9=>
     ⟨T.keep _ _ _ st6 λb hb o e=>(I9.pin (b,o) (qau _ (qau _ (cJ hb e)))).1,λb hb=>by
      obtain⟨o,e,_⟩:=T.obj _ _ st6 b hb
      exact (I9.pin (b,o) (qau _ (qau _ (cJ hb e)))).2.1⟩
    cases ok with
    |false=>
     rw[iFN (by decide)]at q8;rw[iFN (by decide)];obtain⟨m',hm,w8⟩:=hN _ _ q8;exact⟨m',hm,i+1,K,l,k,H8,I8.unpinned.weak sb7.1 sb7.2,rv,(t I8).1,(t I8).2,hlen,w8⟩
    |true=>
     rw[iFP U]at q8;rw[iFP U];have E':=EE _ s8 σ7 H8 _ I8 q8;rw[hA,hP,hw,hE,hxe]at E';refine thn E' λy R ⟨v9,H9,I9,r9,n9⟩=>?_;obtain⟨m',hm,w9⟩:=hN _ _ n9;have L:=I9.pin (D,{ cls:=.type "list",data:=.seq l.toArray k }) (qau _ (qaX _ qag))
     have hl:=rv.length;have I9n:Inv X' [] σ7 H9 R:=I9.pins_of λp M=>nomatch M
     refine qcY qfz ⟨_,L.1,U⟩ qfm (qfc _ _) (qfj D l.toArray k y (by rw[qaH];lia)) ⟨L.1,?_⟩;have up:∃ k':Nat,(R.heap.update D (qcO λxs=>xs.push y)).get? D=some { cls:=.type "list",data:=.seq (l++[y]).toArray k' }:=by
      have q:=qfb L.1 (λxs:Array Value=>xs.push y);simp only[qhA]at q;exact⟨_,q⟩
     obtain⟨k',up⟩:=up;have hoth:∀ b o,b≠D->R.heap.get? b=some o->(R.heap.update D (qcO λxs=>xs.push y)).get? b=some o:=λb o hb e=>(qaU R.heap _ (qbo hb)).trans e;have I10:=I9n.turned (t':=R.toks) hoth L.2.1 Dloc Dex Dcell (λp M=>absurd (show p∈([]:List (Addr×Obj)) by rw[<-d]at M;exact M) (by simp));refine⟨m',hm,i+1,K++[v9],l++[y],k',H9,(I10.weak sb7.1 sb7.2).pins_of (λp M=>?_),rv.append (.cons r9 .nil),T.keep _ _ _ (t I9).1 (λb hb o e=>hoth b o (by rw[<-hD];exact qax (fplt b hb)) e),(t I9).2,?_,w9⟩
     ·have:=qal.mp M
      subst this;exact⟨up,L.2.1,Dloc,(pD.2.2.2.1),λv z=>by cases z⟩
     ·rw[qaB,qbT]
      lia
  ·rw[<-hlo.symm]
   exact I3
  ·exact T.keep _ _ _ Y λb hb o e=>qc9 _ _ b o (qaf _ (qaf _ e))
 refine qhy ?_ ?_
 ·exact Q _ U
 ·refine T.self X.A 0 _ _ _ (T.keep _ _ _ Y λb hb o e=>qc9 _ _ b o (qaf _ (qaf _ e))) ?_
  exact Q _ U
end
def aA:Expr->Bool
 |.Starred _ _=>false
 |_=>true
theorem aU {e:Expr}{es:List Expr}{env:Env} (h:aA e=true):qbE (e::es) env=(false,eval e env)::qbE es env:=by
 cases e<;>first|(cases h;done)|rfl
theorem bv {pos:Pos}{env:Env}:∀ {es:List Expr},es.all aA=true->(qe9 pos (qbE es env)).any (·.1)=false
 |[],_=>by simp[qbE,qe9]
 |e::es,h=>by
  rw[qbw,qbi]at h;rw[aU h.1]
  have:=bv (pos:=pos) (env:=env) h.2
  unfold qe9 at this ⊢;rw[qaw,qcj,this];rfl
theorem uR {pos:Pos}{env:Env}{es:List Expr} (h:es.all aA=true) (b:es.length < 30):((qe9 pos (qbE es env)).all (λx=>!x.1) && (qif pos (qgD [] env)).all (λx=>x.1.isSome)
   && decide (es.length+([]:List qh7).length+(if ([]:List qh7).isEmpty then 0 else 1)<30))=true:=by
 have d:(qe9 pos (qbE es env)).all (λx=>!x.1)=true:=by
  have:=bv (pos:=pos) (env:=env) h
  rw[qbb];intro x a;rw[qft]at this;simpa using this x a
 have c:(qif pos (qgD [] env)).all (λx=>x.1.isSome)=true:=by simp[qgD,qif]
 rw[d,c];simpa using b
theorem jb {e:Expr}{env:Env} (h:aA e=true):qbE [e] env=[(false,eval e env)]:=by rw[aU h];rfl
theorem AL {e a:Expr}{env:Env} (h:aA e=true) (b:aA a=true):qbE [e,a] env=[(false,eval e env),(false,eval a env)]:=by rw[aU h,jb b]
def Ak:Expr->Bool
 |.UnaryOp .Not _ _=>false
 |.BoolOp _ _ _=>false
 |.IfExp _ _ _ _=>false
 |.Compare _ _ _ _=>false
 |_=>true
theorem yM {a:Expr}{env:Env} (h:Ak a=true):∀ whole,PySem.isTrue a env whole=(do let v <-whole;qjG a.pos;qf2 [v] (truthy v)):=by
 intro whole;cases a with
 |UnaryOp op x p=>cases op<;>first|(cases h;done)|rfl
 |BoolOp _ _ _=>cases h
 |IfExp _ _ _ _=>cases h
 |Compare _ _ _ _=>cases h
 |_=>rfl
theorem mW {t:Expr}{ts:List Expr}{env:Env} (h:aA t=true):qbY (t::ts) env=(false,qge t env)::qbY ts env:=by
 cases t<;>first|(cases h;done)|rfl
theorem qN {env:Env}:∀ {ts:List Expr},ts.all aA=true->(qbY ts env).length=ts.length
 |[],_=>by simp[qbY]
 |t::ts,h=>by
  rw[qbw,qbi]at h;rw[mW h.1,qaq,qN h.2,qaq]
theorem mX {env:Env}:∀ {ts:List Expr},ts.all aA=true->(qbY ts env).findIdx? (·.1)=none
 |[],_=>by simp[qbY]
 |t::ts,h=>by
  rw[qbw,qbi]at h;rw[mW h.1,List.findIdx?_cons,mX h.2];rfl
theorem wj {t:Expr}{ts:List Expr}{env:Env} (h:aA t=true):(qbY (t::ts) env).map (·.2)=qge t env::(qbY ts env).map (·.2):=by rw[mW h];rfl
theorem jW {t:Expr}{env:Env} (h:aA t=true):(qbY [t] env).map (·.2)=[qge t env]:=by rw[wj h];simp[qbY]
def lN:Expr->Bool
 |.Slice _ _ _ _=>false
 |_=>true
theorem mz {o i:Expr}{pos:Pos}{env:Env} (h:lN i=true) (v:Value):qge (.Subscript o i pos) env v=(do
   let ov <-qf2 [v] (eval o env)
   let iv <-qf2 [v,ov] (eval i env)
   qjG pos
   qf2 [v,ov,iv] (qjI ov iv v)
   release [v,ov,iv] []):=by
 cases i<;>first|(cases h;done)|rfl
theorem ot {i:Expr} (h:lN i=true):we i:=by
 intro o j;cases i<;>first|(cases h;done)|rfl
inductive D where
 |non|bl (b:Bool)|int (i:Int)|str (x:Str)|ty (n:String)|dct|scr (ns:List Int)|tup (ds:List D)|lst (ds:List D)|ob (ns:List Str) (ds:List D)
 deriving Inhabited
inductive W where
 |d (x:D)|h (n:Nat)
 deriving Inhabited
inductive C where
 |l (ds:List D)|n (ws:List W)|m (kvs:List (List Int×D))|k (kvs:List (Int×D))|o (fs:List (Str×W))
 deriving Inhabited
abbrev Sto:=List C
def lg (st:Sto) (n:Nat):Option (List D):=match st[n]? with
 |some (.l ds)=>some ds
 |_=>none
def ii (l:List Int):List Key:=l.map Sum.inl
abbrev Ev:=List (Option W)
def KLs (K:qae) (a:Addr) (xs:List V):Prop:=
 ∃ (o:Obj) (b:Array Value) (n:Nat),K.lookup a=some o/\o.cls=.type "list"/\o.dict=none/\o.data=.seq b n/\b.size<=qaL/\aI xs b.toList
section
variable (K:qae) (H:Hp) (φ:List Addr)
mutual
def Rl:D->V->Prop
 |.non,v=>v=.non
 |.bl b,v=>v=.bl b
 |.int i,v=>v=.int i
 |.str x,v=>v=.str x
 |.ty n,v=>v=.ty n
 |.dct,v=>∃ a,v=.ref a/\a∉φ/\((∃ d,H a=some (.dK d))\/∃ d,H a=some (.dT d))
 |.scr ns,v=>∃ a,v=.ref a/\((∃ o,H a=some (.frz o (.lst (ns.map V.int))))\/KLs K a (ns.map V.int))
 |.tup ds,v=>∃ a vs,v=.ref a/\H a=some (.tup vs)/\Rls ds vs
 |.lst ds,v=>∃ a vs,v=.ref a/\a∉φ/\Rd H a (.lst vs)/\Rls ds vs
 |.ob ns ds,v=>∃ a Cl dx fs vs,v=.ref a/\a∉φ/\H a=some (.ins Cl dx fs)/\fs=ns.zip vs/\ns.length=vs.length/\5<ns.length/\Cls K Cl/\(∀ f∈ns,cA K Cl f)/\Rls ds vs
def Rls:List D->List V->Prop
 |[],vs=>vs=[]
 |d::ds,vs=>∃ v r,vs=v::r/\Rl d v/\Rls ds r
end
def Rw:W->V->Prop
 |.d x,v=>Rl K H φ x v
 |.h n,v=>∃ a,φ[n]?=some a/\v=.ref a
def Rws:List W->List V->Prop
 |[],vs=>vs=[]
 |d::ds,vs=>∃ v r,vs=v::r/\Rw K H φ d v/\Rws ds r
def Rkv:List (List Int×D)->List (List Key×V)->Prop
 |[],vs=>vs=[]
 |(k,d)::ds,vs=>∃ v r,vs=(ii k,v)::r/\Rl K H φ d v/\Rkv ds r
def Rkk:List (Int×D)->List (Key×V)->Prop
 |[],vs=>vs=[]
 |(k,d)::ds,vs=>∃ v r,vs=(Sum.inl k,v)::r/\Rl K H φ d v/\Rkk ds r
def Rfs:List (Str×W)->List (Str×V)->Prop
 |[],vs=>vs=[]
 |(k,d)::ds,vs=>∃ v r,vs=(k,v)::r/\Rw K H φ d v/\Rfs ds r
def Rc (k:Nat) (a:Addr):C->Prop
 |.l ds=>∃ vs,H a=some (.lst vs)/\Rls K H φ ds vs
 |.n ws=>∃ vs,H a=some (.lst vs)/\Rws K H φ ws vs/\∀ m,W.h m∈ws->m<k
 |.m e=>∃ vs,H a=some (.dT vs)/\Rkv K H φ e vs
 |.k e=>∃ vs,H a=some (.dK vs)/\Rkk K H φ e vs
 |.o fs=>∃ Cl dx vs,H a=some (.ins Cl dx vs)/\Rfs K H φ fs vs/\(∀ m,W.h m∈fs.map (·.2)->m<k)/\Cls K Cl/\∀ p∈fs,cA K Cl p.1
structure Sr (st:Sto):Prop where
 nd:φ.Nodup
 len:φ.length=st.length
 at_:∀ (n:Nat) a c,φ[n]?=some a->st[n]?=some c->Rc K H φ n a c
structure Er (env:Ev) (σ:St):Prop where
 len:env.length=σ.length
 at_:∀ (i:Nat) w,env[i]?=some (some w)->∃ v,σ[i]?=some (some v)/\Rw K H φ w v
end
structure Fw (φ φ':List Addr) (H H':Hp):Prop where
 ext:∃ ψ,φ'=φ++ψ/\∀ a∈ψ,H a=none
 keep:∀ b o,b∉φ->H b=some o->H' b=some o
 there:∀ b o,H b=some o->∃ o',H' b=some o'
section
variable {K:qae}{H H1 H2 H':Hp}{φ y t φ':List Addr}{st R:Sto}
theorem Fw.refl (φ:List Addr) (H:Hp):Fw φ φ H H:=⟨⟨[],by simp,by simp⟩,λ_ _ _ h=>h,λ_ o h=>⟨o,h⟩⟩
theorem Fw.trans (a:Fw φ y H H1) (b:Fw y t H1 H2):Fw φ t H H2:=by
 obtain⟨ψ,rfl,g⟩:=a.ext;obtain⟨O,rfl,j⟩:=b.ext;refine⟨⟨_,by rw[qbB],λc B=>?_⟩,λc o B h=>?_,λc o h=>?_⟩
 ·rcases qaO.mp B with z|z
  ·exact g c z
  ·cases q:H c with
   |none=>rfl
   |some o=>
    obtain⟨N,I⟩:=a.there c o q;rw[j c z]at I;cases I
 ·refine b.keep c o (λz=>?_) (a.keep c o B h)
  rcases qaO.mp z with z|z
  ·exact B z
  ·rw[g c z]at h;cases h
 ·obtain⟨N,q⟩:=a.there c o h
  exact b.there c N q
theorem Fw.same (s:aR H H'):Fw φ φ H H':=⟨⟨[],by simp,by simp⟩,λb o _ h=>s b o h,λb o h=>⟨o,s b o h⟩⟩
theorem Fw.new {p:Addr}{o:HO} (G:H p=none):Fw φ φ H (upd H p o):=.same (aR.new G o)
theorem Fw.get (f:Fw φ φ' H H') {n:Nat}{a:Addr} (h:φ[n]?=some a):φ'[n]?=some a:=by
 obtain⟨ψ,rfl,_⟩:=f.ext;rw[qaG (qar.mp h).1];exact h
theorem Fw.nin (f:Fw φ φ' H H') {a:Addr}{o:HO} (h:a∉φ) (q:H a=some o):a∉φ':=by
 obtain⟨ψ,rfl,e⟩:=f.ext;intro z;rcases qaO.mp z with z|z
 ·exact h z
 ·rw[e a z]at q;cases q
def F8:HO->Bool
 |.lst _=>true
 |.dT _=>true
 |.dK _=>true
 |.ins _ _ _=>true
 |_=>false
theorem Rc.ob {k:Nat}{a:Addr}{c:C} (h:Rc K H φ k a c):∃ o,H a=some o/\F8 o=true:=by
 cases c with
 |l ds=>obtain⟨vs,q,_⟩:=h;exact⟨_,q,U⟩
 |n ds=>obtain⟨vs,q,_⟩:=h;exact⟨_,q,U⟩
 |m ds=>obtain⟨vs,q,_⟩:=h;exact⟨_,q,U⟩
 |k ds=>obtain⟨vs,q,_⟩:=h;exact⟨_,q,U⟩
 |o ds=>obtain⟨_,_,vs,q,_⟩:=h;exact⟨_,q,U⟩
theorem Sr.lst (S:Sr K H φ st) {a:Addr} (h:a∈φ):∃ o,H a=some o/\F8 o=true:=by
 obtain⟨n,hn,e⟩:=qcy.mp h;have P:n<st.length:=by rw[<-S.len];exact hn
 exact (S.at_ n a st[n] (by rw[qam hn,e]) (by rw[qam P])).ob
theorem wI {st:Sto}{n:Nat}{ds:List D} (h:lg st n=some ds):st[n]?=some (.l ds):=by
 unfold lg at h;split at h
 ·rename_i q;cases h;exact q
 ·cases h
theorem Sr.atl (S:Sr K H φ st) (n:Nat) (a:Addr) (ds:List D) (g:φ[n]?=some a) (j:lg st n=some ds):∃ vs,H a=some (.lst vs)/\Rls K H φ ds vs:=S.at_ n a _ g (wI j)
theorem Sr.nin (S:Sr K H φ st) {a:Addr} (h:H a=none):a∉φ:=λz=>by
 obtain⟨vs,q,_⟩:=S.lst z;rw[q]at h;cases h
theorem Rd.nin (S:Sr K H φ st) {a:Addr}{vs:List V} (h:Rd H a (.tup vs)):a∉φ:=λz=>by
 obtain⟨ws,q,qm⟩:=S.lst z;rcases h with h|⟨o,h⟩<;>(rw[q]at h;cases h;cases qm)
theorem Rd.fw (f:Fw φ φ' H H') {a:Addr}{u:HO} (hn:a∉φ) (h:Rd H a u):Rd H' a u:=by
 rcases h with h|⟨o,h⟩
 ·exact .inl (f.keep _ _ hn h)
 ·exact .inr ⟨o,f.keep _ _ hn h⟩
theorem SqT.fw (S:Sr K H φ st) (f:Fw φ φ' H H') {a:Addr}{vs:List V} (h:SqT K H a vs):SqT K H' a vs:=by
 rcases h with h|h
 ·exact .inl (f.keep _ _ (Rd.nin S (.inl h)) h)
 ·exact .inr h
theorem Rd.some {a:Addr}{u:HO} (h:Rd H a u):∃ o,H a=some o:=by
 rcases h with h|⟨o,h⟩
 ·exact⟨_,h⟩
 ·exact⟨_,h⟩
mutual
theorem Rl.fw (S:Sr K H φ st) (f:Fw φ φ' H H'):∀ {d:D}{v:V},Rl K H φ d v->Rl K H' φ' d v
 |.non,_,h=>h
 |.bl _,_,h=>h
 |.int _,_,h=>h
 |.str _,_,h=>h
 |.ty _,_,h=>h
 |.dct,_,h=>by
  obtain⟨a,rfl,hn,h⟩:=h;rcases h with⟨d,h⟩|⟨d,h⟩
  ·exact⟨a,U,f.nin hn h,.inl ⟨d,f.keep _ _ hn h⟩⟩
  ·exact⟨a,U,f.nin hn h,.inr ⟨d,f.keep _ _ hn h⟩⟩
 |.scr ns,_,h=>by
  obtain⟨a,rfl,h⟩:=h;refine⟨a,U,?_⟩;rcases h with⟨o,h⟩|h
  ·refine .inl ⟨o,f.keep _ _ (λz=>?_) h⟩
   obtain⟨ws,q,qm⟩:=S.lst z;rw[q]at h;cases h;cases qm
  ·exact .inr h
 |.tup ds,_,h=>by
  obtain⟨a,vs,rfl,h1,h2⟩:=h;exact⟨a,vs,U,f.keep _ _ (Rd.nin S (.inl h1)) h1,Rls.fw S f h2⟩
 |.lst ds,_,h=>by
  obtain⟨a,vs,rfl,h0,h1,h2⟩:=h;obtain⟨o,e⟩:=h1.some;exact⟨a,vs,U,f.nin h0 e,h1.fw f h0,Rls.fw S f h2⟩
 |.ob ns ds,_,h=>by
  obtain⟨a,Cl,dx,fs,vs,rfl,h0,h1,h2,h3,h4,h5,h7,h6⟩:=h;exact⟨a,Cl,dx,fs,vs,U,f.nin h0 h1,f.keep _ _ h0 h1,h2,h3,h4,h5,h7,Rls.fw S f h6⟩
theorem Rls.fw (S:Sr K H φ st) (f:Fw φ φ' H H'):∀ {ds:List D}{vs:List V},Rls K H φ ds vs->Rls K H' φ' ds vs
 |[],_,h=>h
 |d::ds,_,h=>by
  obtain⟨v,r,rfl,h1,h2⟩:=h;exact⟨v,r,U,Rl.fw S f h1,Rls.fw S f h2⟩
end
theorem Rw.fw (S:Sr K H φ st) (f:Fw φ φ' H H') {w:W}{v:V} (h:Rw K H φ w v):Rw K H' φ' w v:=by
 cases w with
 |d x=>exact Rl.fw S f h
 |h n=>obtain⟨a,e,rfl⟩:=h;exact⟨a,f.get e,U⟩
theorem Rws.fw (S:Sr K H φ st) (f:Fw φ φ' H H'):∀ {ws:List W}{vs:List V},Rws K H φ ws vs->Rws K H' φ' ws vs
 |[],_,h=>h
 |d::ds,_,h=>by
  obtain⟨v,r,rfl,h1,h2⟩:=h;exact⟨v,r,U,h1.fw S f,Rws.fw S f h2⟩
theorem Er.fw (S:Sr K H φ st) (f:Fw φ φ' H H') {env:Ev}{M:St} (h:Er K H φ env M):Er K H' φ' env M:=
 ⟨h.len,λi w e=>let ⟨v,g,r⟩:=h.at_ i w e;⟨v,g,r.fw S f⟩⟩
theorem Rkv.fw (S:Sr K H φ st) (f:Fw φ φ' H H'):∀ {ds:List (List Int×D)}{vs:List (List Key×V)},Rkv K H φ ds vs->Rkv K H' φ' ds vs
 |[],_,h=>h
 |(k,d)::ds,_,h=>by
  obtain⟨v,r,rfl,h1,h2⟩:=h;exact⟨v,r,U,Rl.fw S f h1,Rkv.fw S f h2⟩
theorem Rkk.fw (S:Sr K H φ st) (f:Fw φ φ' H H'):∀ {ds:List (Int×D)}{vs:List (Key×V)},Rkk K H φ ds vs->Rkk K H' φ' ds vs
 |[],_,h=>h
 |(k,d)::ds,_,h=>by
  obtain⟨v,r,rfl,h1,h2⟩:=h;exact⟨v,r,U,Rl.fw S f h1,Rkk.fw S f h2⟩
theorem Rfs.fw (S:Sr K H φ st) (f:Fw φ φ' H H'):∀ {ds:List (Str×W)}{vs:List (Str×V)},Rfs K H φ ds vs->Rfs K H' φ' ds vs
 |[],_,h=>h
 |(k,d)::ds,_,h=>by
  obtain⟨v,r,rfl,h1,h2⟩:=h;exact⟨v,r,U,h1.fw S f,Rfs.fw S f h2⟩
theorem Rc.fw (S:Sr K H φ st) (f:Fw φ φ' H H') {k:Nat}{a:Addr}{c:C} (e:∀ o,H a=some o->H' a=some o) (h:Rc K H φ k a c):Rc K H' φ' k a c:=by
 cases c with
 |l ds=>obtain⟨vs,q,r⟩:=h;exact⟨vs,e _ q,r.fw S f⟩
 |n ds=>obtain⟨vs,q,r,b⟩:=h;exact⟨vs,e _ q,r.fw S f,b⟩
 |m ds=>obtain⟨vs,q,r⟩:=h;exact⟨vs,e _ q,r.fw S f⟩
 |k ds=>obtain⟨vs,q,r⟩:=h;exact⟨vs,e _ q,r.fw S f⟩
 |o ds=>obtain⟨Cl,dx,vs,q,r,b⟩:=h;exact⟨Cl,dx,vs,e _ q,r.fw S f,b⟩
theorem Sr.same (S:Sr K H φ st) (s:aR H H'):Sr K H' φ st:=
 ⟨S.nd,S.len,λn a c g j=>(S.at_ n a c g j).fw S (Fw.same s) λo h=>s _ _ h⟩
theorem Sr.new (S:Sr K H φ st) {p:Addr}{o:HO} (G:H p=none):Sr K (upd H p o) φ st:=S.same (aR.new G o)
theorem Rls.length:∀ {ds:List D}{vs:List V},Rls K H φ ds vs->ds.length=vs.length
 |[],_,h=>by cases h;rfl
 |d::ds,_,h=>by
  obtain⟨v,r,rfl,h1,h2⟩:=h;rw[qaq,qaq,Rls.length h2]
theorem Rws.length:∀ {ds:List W}{vs:List V},Rws K H φ ds vs->ds.length=vs.length
 |[],_,h=>by cases h;rfl
 |d::ds,_,h=>by
  obtain⟨v,r,rfl,h1,h2⟩:=h;rw[qaq,qaq,Rws.length h2]
theorem Rls.append:∀ {ds es:List D}{vs J:List V},Rls K H φ ds vs->Rls K H φ es J->Rls K H φ (ds++es) (vs++J)
 |[],_,_,_,h,h'=>by cases h;exact h'
 |d::ds,_,_,_,h,h'=>by
  obtain⟨v,r,rfl,h1,h2⟩:=h;exact⟨v,_,U,h1,Rls.append h2 h'⟩
theorem Rls.get:∀ {ds:List D}{vs:List V},Rls K H φ ds vs->∀ {i:Nat}{d:D},ds[i]?=some d->∃ v,vs[i]?=some v/\Rl K H φ d v
 |[],_,h,i,d,e=>by simp at e
 |d::ds,_,h,i,e,q=>by
  obtain⟨v,r,rfl,h1,h2⟩:=h;cases i with
  |zero=>simp at q;subst q;exact⟨v,U,h1⟩
  |succ i=>simpa using Rls.get h2 (by simpa using q)
theorem Rls.take:∀ {ds:List D}{vs:List V} (n:Nat),Rls K H φ ds vs->Rls K H φ (ds.take n) (vs.take n)
 |_,_,0,_=>by exact U
 |[],_,n+1,h=>by cases h;exact U
 |d::ds,_,n+1,h=>by
  obtain⟨v,r,rfl,h1,h2⟩:=h;exact⟨v,_,U,h1,Rls.take n h2⟩
theorem Rls.drop:∀ {ds:List D}{vs:List V} (n:Nat),Rls K H φ ds vs->Rls K H φ (ds.drop n) (vs.drop n)
 |_,_,0,h=>h
 |[],_,n+1,h=>by cases h;exact U
 |d::ds,_,n+1,h=>by
  obtain⟨v,r,rfl,h1,h2⟩:=h;exact Rls.drop n h2
theorem Rls.set:∀ {ds:List D}{vs:List V} (n:Nat) {d:D}{v:V},Rls K H φ ds vs->Rl K H φ d v->Rls K H φ (ds.set n d) (vs.set n v)
 |[],_,_,_,_,h,_=>by cases h;exact U
 |e::ds,_,0,d,v,h,hd=>by
  obtain⟨u,r,rfl,h1,h2⟩:=h;exact⟨v,r,U,hd,h2⟩
 |e::ds,_,n+1,d,v,h,hd=>by
  obtain⟨u,r,rfl,h1,h2⟩:=h;exact⟨u,_,U,h1,Rls.set n h2 hd⟩
theorem Rls.rep {ds:List D}{vs:List V} (h:Rls K H φ ds vs):∀ k:Nat,Rls K H φ (qay k ds).flatten (qay k vs).flatten
 |0=>rfl
 |k+1=>by exact h.append (Rls.rep h k)
theorem Rls.ints:∀ {ns:List Int}{vs:List V},Rls K H φ (ns.map D.int) vs->vs=ns.map V.int
 |[],_,h=>h
 |n::ns,_,h=>by
  obtain⟨v,r,rfl,h1,h2⟩:=h;rw[h1,Rls.ints h2];rfl
theorem Rls.bools:∀ {ns:List Bool}{vs:List V},Rls K H φ (ns.map D.bl) vs->vs=ns.map V.bl
 |[],_,h=>h
 |n::ns,_,h=>by
  obtain⟨v,r,rfl,h1,h2⟩:=h;rw[h1,Rls.bools h2];rfl
theorem Rls.of_ints:∀ (ns:List Int),Rls K H φ (ns.map D.int) (ns.map V.int)
 |[]=>rfl
 |n::ns=>⟨_,_,U,U,Rls.of_ints ns⟩
theorem Rl.less {ψ:List Addr}:∀ {d:D}{v:V},Rl K H (φ++ψ) d v->Rl K H φ d v:=by
 intro d v;refine (?_:∀ v,Rl K H _ d v->Rl K H φ d v) v;refine D.rec (motive_2:=λds=>∀ vs,Rls K H (φ++ψ) ds vs->Rls K H φ ds vs) ?_ ?_ ?_ ?_ ?_ ?_ ?_ ?_ ?_ ?_ ?_ ?_ d
 ·exact λv h=>h
 ·exact λb v h=>h
 ·exact λb v h=>h
 ·exact λb v h=>h
 ·exact λb v h=>h
 ·rintro v ⟨a,e,hn,h⟩;exact⟨a,e,λz=>hn (qaX _ z),h⟩
 ·exact λns v h=>h
 ·rintro ds A v ⟨a,vs,rfl,h1,h2⟩;exact⟨a,vs,U,h1,A vs h2⟩
 ·rintro ds A v ⟨a,vs,rfl,h0,h1,h2⟩;exact⟨a,vs,U,λz=>h0 (qaX _ z),h1,A vs h2⟩
 ·rintro ns ds A v ⟨a,Cl,dx,fs,vs,rfl,h0,h1,h2,h3,h4,h5,h7,h6⟩;exact⟨a,Cl,dx,fs,vs,U,λz=>h0 (qaX _ z),h1,h2,h3,h4,h5,h7,A vs h6⟩
 ·exact λvs h=>h
 ·rintro d ds E F vs ⟨v,r,rfl,h1,h2⟩;exact⟨v,r,U,E v h1,F r h2⟩
theorem Rls.less {ψ:List Addr}:∀ {ds:List D}{vs:List V},Rls K H (φ++ψ) ds vs->Rls K H φ ds vs
 |[],_,h=>h
 |d::ds,_,h=>by
  obtain⟨v,r,rfl,h1,h2⟩:=h;exact⟨v,r,U,Rl.less h1,Rls.less h2⟩
theorem Rkv.less {ψ:List Addr}:∀ {ds:List (List Int×D)}{vs:List (List Key×V)},Rkv K H (φ++ψ) ds vs->Rkv K H φ ds vs
 |[],_,h=>h
 |(k,d)::ds,_,h=>by
  obtain⟨v,r,rfl,h1,h2⟩:=h;exact⟨v,r,U,Rl.less h1,Rkv.less h2⟩
theorem Rkk.less {ψ:List Addr}:∀ {ds:List (Int×D)}{vs:List (Key×V)},Rkk K H (φ++ψ) ds vs->Rkk K H φ ds vs
 |[],_,h=>h
 |(k,d)::ds,_,h=>by
  obtain⟨v,r,rfl,h1,h2⟩:=h;exact⟨v,r,U,Rl.less h1,Rkk.less h2⟩
theorem Rws.less {ψ:List Addr}:∀ {ds:List W}{vs:List V},(∀ m,W.h m∈ds->m<φ.length)->Rws K H (φ++ψ) ds vs->Rws K H φ ds vs
 |[],_,_,h=>h
 |d::ds,_,hm,h=>by
  obtain⟨v,r,rfl,h1,h2⟩:=h;refine⟨v,r,U,?_,Rws.less (λm z=>hm m (qai _ z)) h2⟩;cases d with
  |d x=>exact Rl.less h1
  |h m=>
   obtain⟨a,e,rfl⟩:=h1;rw[qaG (hm m qag)]at e;exact⟨a,e,U⟩
theorem Rfs.less {ψ:List Addr}:∀ {ds:List (Str×W)}{vs:List (Str×V)},(∀ m,W.h m∈ds.map (·.2)->m<φ.length)->Rfs K H (φ++ψ) ds vs->Rfs K H φ ds vs
 |[],_,_,h=>h
 |(k,d)::ds,_,hm,h=>by
  obtain⟨v,r,rfl,h1,h2⟩:=h;refine⟨v,r,U,?_,Rfs.less (λm z=>hm m (qai _ z)) h2⟩;cases d with
  |d x=>exact Rl.less h1
  |h m=>
   obtain⟨a,e,rfl⟩:=h1;rw[qaG (hm m qag)]at e;exact⟨a,e,U⟩
theorem Rc.less {ψ:List Addr}{k:Nat}{a:Addr}{c:C} (L:k<φ.length) (h:Rc K H (φ++ψ) k a c):Rc K H φ k a c:=by
 cases c with
 |l ds=>obtain⟨vs,q,r⟩:=h;exact⟨vs,q,r.less⟩
 |n ds=>obtain⟨vs,q,r,b⟩:=h;exact⟨vs,q,r.less λm z=>qeQ (b m z) L,b⟩
 |m ds=>obtain⟨vs,q,r⟩:=h;exact⟨vs,q,r.less⟩
 |k ds=>obtain⟨vs,q,r⟩:=h;exact⟨vs,q,r.less⟩
 |o ds=>obtain⟨Cl,dx,vs,q,r,b,c⟩:=h;exact⟨Cl,dx,vs,q,r.less λm z=>qeQ (b m z) L,b,c⟩
theorem Sr.less {ψ:List Addr} (S:Sr K H (φ++ψ) st):Sr K H φ (st.take φ.length):=by
 have Q:=S.len;rw[qaB]at Q;refine⟨(qcB.mp S.nd).1,by rw[qb0];lia,λn a ds g j=>?_⟩;have hn:=(qar.mp g).1;rw[qem hn]at j;exact (S.at_ n a ds (by rw[qaG hn];exact g) j).less hn
end
abbrev Ef:=Ev->Sto->Option (W×Sto)
abbrev Af:=Ev->Sto->Option (List W×Sto)
abbrev Tf:=Ev->Sto->Option (Bool×Sto)
abbrev Lf:=Ev->Sto->Option (List D×Sto)
abbrev Fn:=List W->Sto->Option (W×Sto)
section
variable (K:qae)
def tI (env:Ev) (st:Sto) (r:W×Sto):TE:=λh H Q=>∃ φ,Er K H φ env h/\Sr K H φ st/\∀ v H' b,Fw φ b H H'->Sr K H' b r.2->Rw K H' b r.1 v->Q v H'
def tIA (env:Ev) (st:Sto) (r:List W×Sto):TA:=λh H Q=>∃ φ,Er K H φ env h/\Sr K H φ st/\∀ c H' b,Fw φ b H H'->Sr K H' b r.2->Rws K H' b r.1 c->Q c H'
def tIT (env:Ev) (st:Sto) (r:Bool×Sto):TT:=λh H Q=>∃ φ,Er K H φ env h/\Sr K H φ st/\∀ H' b,Fw φ b H H'->Sr K H' b r.2->Q r.1 H'
def tIL (env:Ev) (st:Sto) (r:List D×Sto):TE:=λh H Q=>∃ φ,Er K H φ env h/\Sr K H φ st/\∀ a c H1 b,Fw φ b H H1->Sr K H1 b r.2->H1 a=none->Rls K H1 b r.1 c->Q (.ref a) (upd H1 a (.lst c))
structure IE (X:Cx) (e:Expr) (f:Ef):Prop where
 run:∀ env st r,f env st=some r->PE X e (tI K env st r)
structure IA (X:Cx) (es:List Expr) (f:Af):Prop where
 run:∀ env st r,f env st=some r->PA X es (tIA K env st r)
structure IT (X:Cx) (e:Expr) (f:Tf):Prop where
 run:∀ env st r,f env st=some r->PT X e (tIT K env st r)
structure ITW (X:Cx) (e:Expr) (f:Tf):Prop where
 run:∀ env st r,f env st=some r->PW X e (tIT K env st r)
structure IL (X:Cx) (e:Expr) (f:Lf):Prop where
 run:∀ env st r,f env st=some r->PE X e (tIL K env st r)
def rD (st:Sto) (x y:W) (d:D):R2:=λj k H Q=>∃ φ,Sr K H φ st/\Rw K H φ x j/\Rw K H φ y k/\∀ v H',aR H H'->Rl K H' φ d v->Q v H'
structure OpD (X:Cx) (f:Value->Value->Sem Value) (g:Sto->W->W->Option D):Prop where
 run:∀ st x y d,g st x y=some d->OpR X f (rD K st x y d)
def rCD (st:Sto) (ws:List W) (d:D):List V->Hp->VK->Prop:=λc H Q=>∃ φ,Sr K H φ st/\Rws K H φ ws c/\∀ v H',aR H H'->Rl K H' φ d v->Q v H'
structure e6 (X:Cx) (f:Value) (g:Sto->List W->Option D):Prop where
 run:∀ st ws d,g st ws=some d->bG X f (rCD K st ws d)
def rCL (st:Sto) (ws:List W) (ds:List D):List V->Hp->VK->Prop:=λc H Q=>∃ φ,Sr K H φ st/\Rws K H φ ws c/\∀ a i H1,aR H H1->H1 a=none->Rls K H1 φ ds i->Q (.ref a) (upd H1 a (.lst i))
structure sD (X:Cx) (f:Value) (g:Sto->List W->Option (List D)):Prop where
 run:∀ st ws d,g st ws=some d->bG X f (rCL K st ws d)
end
def iV (i:Nat):Ef
 |env,st=>(env.getD i none).map λw=>(w,st)
def iC (d:D):Ef
 |_,st=>some (.d d,st)
def iOp (g:Sto->W->W->Option D) (a b:Ef):Ef
 |env,st=>(a env st).bind λx=>(b env x.2).bind λy=>(g y.2 x.1 y.1).map λd=>(.d d,y.2)
def xM:D->Option Bool
 |.bl b=>some b
 |_=>none
def blW:W->Option Bool
 |.d (.bl b)=>some b
 |_=>none
def aC (g:Sto->W->W->Option D) (a b:Ef):Tf
 |env,st=>(a env st).bind λx=>(b env x.2).bind λy=>(g y.2 x.1 y.1).bind λd=>(xM d).map λk=>(k,y.2)
def iUn (g:W->Option D) (a:Ef):Ef
 |env,st=>(a env st).bind λx=>(g x.1).map λd=>(.d d,x.2)
def zq (a:Ef):Ef
 |env,st=>(a env st).bind λx=>(blW x.1).map λk=>(.d (.bl (!k)),x.2)
def nK (a b:Ef):Ef
 |env,st=>(a env st).bind λx=>(blW x.1).bind λk=>if k=true then b env x.2 else some (.d (.bl false),x.2)
def zr (a b:Ef):Ef
 |env,st=>(a env st).bind λx=>(blW x.1).bind λk=>if k=true then some (.d (.bl true),x.2) else b env x.2
def jK (c:Tf) (a b:Ef):Ef
 |env,st=>(c env st).bind λr=>if r.1=true then a env r.2 else b env r.2
def cM (c:Tf):Tf
 |env,st=>(c env st).map λr=>(!r.1,r.2)
def dO (a b:Tf):Tf
 |env,st=>(a env st).bind λr=>if r.1=true then b env r.2 else some (false,r.2)
def dh (a b:Tf):Tf
 |env,st=>(a env st).bind λr=>if r.1=true then some (true,r.2) else b env r.2
def cv (g:Sto->W->Option Bool) (a:Ef):Tf
 |env,st=>(a env st).bind λx=>(g x.2 x.1).map λk=>(k,x.2)
def ae:Af
 |_,st=>some ([],st)
def aa (a:Ef) (r:Af):Af
 |env,st=>(a env st).bind λx=>(r env x.2).map λy=>(x.1::y.1,y.2)
def iCB (g:Sto->List W->Option D) (a:Af):Ef
 |env,st=>(a env st).bind λr=>(g r.2 r.1).map λd=>(.d d,r.2)
def iCL (g:Sto->List W->Option (List D)) (a:Af):Lf
 |env,st=>(a env st).bind λr=>(g r.2 r.1).map λd=>(d,r.2)
def aq (m:Fn) (a:Af):Ef
 |env,st=>(a env st).bind λr=>m r.1 r.2
def sW:List W->Option (List D)
 |[]=>some []
 |.d x::ws=>(sW ws).map λr=>x::r
 |.h _::_=>none
def bb (a:Af):Ef
 |env,st=>(a env st).bind λr=>(sW r.1).bind λds=>if ds.length<=1000 then some (.d (.tup ds),r.2) else none
def bT (a:Af):Lf
 |env,st=>(a env st).bind λr=>(sW r.1).bind λds=>if ds.length<=1000 then some (ds,r.2) else none
def aw (a:Lf):Ef
 |env,st=>(a env st).map λr=>(.d (.lst r.1),r.2)
def db (a:Lf):Ef
 |env,st=>(a env st).map λr=>(.h r.2.length,r.2++[.l r.1])
section
variable {K:qae}{X:Cx}{e a b c:Expr}{es:List Expr}{pos:Pos}{f fa fb fc:Ef}
theorem PE.imp {t t':TE} (h:PE X e t) (m:∀ G H Q,t' G H Q->t G H Q):PE X e t':=λP s G H Q I q=>h P s G H Q I (m G H Q q)
theorem PT.imp {t t':TT} (h:PT X e t) (m:∀ G H Q,t' G H Q->t G H Q):PT X e t':=λP s G H Q I q=>h P s G H Q I (m G H Q q)
theorem PW.imp {t t':TT} (h:PW X e t) (m:∀ G H Q,t' G H Q->t G H Q):PW X e t':=λwh P s G H Q I q=>h wh P s G H Q I (m G H Q q)
theorem PA.imp {t t':TA} (h:PA X es t) (m:∀ G H Q,t' G H Q->t G H Q):PA X es t':=λpos P s G H Q I q=>h pos P s G H Q I (m G H Q q)
theorem OpR.imp {g:Value->Value->Sem Value}{r r':R2} (h:OpR X g r) (m:∀ x y H Q,r' x y H Q->r x y H Q):OpR X g r':=λP s G H x y v u Q I rx ry q=>h P s G H x y v u Q I rx ry (m _ _ _ _ q)
theorem bG.imp {g:Value}{r r':List V->Hp->VK->Prop} (h:bG X g r) (m:∀ xs H Q,r' xs H Q->r xs H Q):bG X g r':=λP s G H xs us Q I rx q=>h P s G H xs us Q I rx (m _ _ _ q)
theorem kY:PE X e (λ_ _ _=>False):=λ_ _ _ _ _ _ q=>q.elim
theorem uM:PW X e (λ_ _ _=>False):=λ_ _ _ _ _ _ _ q=>q.elim
theorem DM {i:Nat}{x:Str}{t:TE} (h:PE X (.Name x pos) (uU i)):IE K X (.Name x pos) (iV i):=by
 refine⟨λenv st r A=>?_⟩;obtain⟨w,hw,rfl⟩:=qad.mp A;refine h.imp ?_
 rintro G H Q ⟨φ,E,B,q⟩
 have hi:env[i]?=some (some w):=by
  rw[qfV]at hw;cases q:env[i]? with
  |none=>rw[q]at hw;cases hw
  |some o=>rw[q]at hw;rw[show o=some w from hw]
 obtain⟨v,e1,r⟩:=E.at_ i w hi;exact⟨v,e1,q v H φ (Fw.refl φ H) B r⟩
theorem iv (i:Nat) {x:Str} (hN:X.N[i]?=some x:=by rfl) (hv:Vis X.env.scope x:=by first|exact Or.inl U|exact Or.inr (Or.inl U)|exact Or.inr (Or.inr U)) (hd:(x==("__debug__" : Str))=false:=by decide)
  (hcd:(x==("__classdict__" : Str))=false:=by decide):IE K X (.Name x pos) (iV i):=DM (t:=uU i) (jU hN hv hd hcd)
theorem zu {d:D}{v:V} (h:PE X e (tC v)) (r:∀ H φ,Rl K H φ d v):IE K X e (iC d):=by
 refine⟨λenv st r A=>?_⟩;cases A;refine h.imp ?_
 rintro G H Q ⟨φ,E,B,q⟩
 exact q v H φ (Fw.refl φ H) B (r H φ)
theorem jL {i j}:IE K X (.Constant (.int i) j pos) (iC (.int i)):=zu Et λ_ _=>rfl
theorem tQ {i j}:IE K X (.Constant (.bool i) j pos) (iC (.bl i)):=zu Gj λ_ _=>rfl
theorem nU {j}:IE K X (.Constant .none j pos) (iC .non):=zu Eu λ_ _=>rfl
theorem nY {x j}:IE K X (.Constant (.str x) j pos) (iC (.str x)):=zu Ey λ_ _=>rfl
theorem sq {env:Ev}{st:Sto}{x y:W×Sto}{d:D}{G:St}{H:Hp}{Q:VK} (h:tI K env st (.d d,y.2) G H Q):tOp (rD K y.2 x.1 y.1 d) (tI K env st x) (tI K env x.2 y) G H Q:=by
 obtain⟨φ,E,B,q⟩:=h;refine⟨φ,E,B,λv H1 z J s1 L=>⟨z,E.fw B J,s1,λu H2 O Y s2 w2=>⟨O,s2,L.fw s1 Y,w2,λv3 H3 f3 w3=>?_⟩⟩⟩;exact q v3 H3 O ((J.trans Y).trans (Fw.same f3)) (s2.same f3) w3
theorem l6 {op:Operator}{g:Sto->W->W->Option D} (ho:OpD K X (qbI op) g) (N:IE K X a fa) (hb:IE K X b fb):IE K X (.BinOp a op b pos) (iOp g fa fb):=by
 refine⟨λenv st r A=>?_⟩;simp only[iOp,qac,qad]at A;obtain⟨x,R,y,hy,d,hd,rfl⟩:=A;exact (Dd (ho.run _ _ _ _ hd) (N.run _ _ _ R) (hb.run _ _ _ hy)).imp λG H Q h=>sq h
theorem nM {op:CmpOp}{g:Sto->W->W->Option D} (ho:OpD K X (qbM op) g) (N:IE K X a fa) (hb:IE K X b fb) (hm:qfL op b=false):IE K X (.Compare a [op] [b] pos) (iOp g fa fb):=by
 refine⟨λenv st r A=>?_⟩;simp only[iOp,qac,qad]at A;obtain⟨x,R,y,hy,d,hd,rfl⟩:=A;exact (B5 (ho.run _ _ _ _ hd) (N.run _ _ _ R) (hb.run _ _ _ hy) hm).imp λG H Q h=>sq h
theorem xN {d:D}{k:Bool} (h:xM d=some k):d=.bl k:=by
 cases d<;>first|(cases h;done)|(injection h with h;subst h;rfl)
theorem m7 {d:W}{k:Bool} (h:blW d=some k):d=.d (.bl k):=by
 cases d with
 |h n=>cases h
 |d x=>cases x<;>first|(cases h;done)|(injection h with h;subst h;rfl)
theorem om {op:CmpOp}{g:Sto->W->W->Option D} (ho:OpD K X (qbM op) g) (N:IE K X a fa) (hb:IE K X b fb) (hm:qfL op b=false):IT K X (.Compare a [op] [b] pos) (aC g fa fb):=by
 refine⟨λenv st r A=>?_⟩;simp only[aC,qac,qad]at A;obtain⟨x,R,y,hy,d,hd,k,hk,rfl⟩:=A;cases xN hk;refine (Ci (ho.run _ _ _ _ hd) (N.run _ _ _ R) (hb.run _ _ _ hy) hm).imp λG H Q h=>?_;obtain⟨φ,E,B,q⟩:=h;refine sq ⟨φ,E,B,λv H1 z J s1 L=>⟨k,L,q H1 z J s1⟩⟩
def ie:W->Option D
 |.d (.int i)=>some (.int (-i))
 |_=>none
theorem lA (N:IE K X a fa):IE K X (.UnaryOp .USub a pos) (iUn ie fa):=by
 refine⟨λenv st r A=>?_⟩;simp only[iUn,qac,qad]at A;obtain⟨⟨x,s1⟩,R,d,hd,rfl⟩:=A;cases x with
 |h n=>cases hd
 |d x=>
  cases x with
  |int i=>
   cases hd;refine (Gm E8 (N.run _ _ _ R)).imp ?_
   rintro G H Q ⟨φ,E,B,q⟩
   exact⟨φ,E,B,λv H1 z J s1 L=>⟨i,L,q _ H1 z J s1 U⟩⟩
  |_=>cases hd
theorem nV (N:IE K X a fa):IE K X (.UnaryOp .Not a pos) (zq fa):=by
 refine⟨λenv st r A=>?_⟩;simp only[zq,qac,qad]at A;obtain⟨x,R,k,hk,rfl⟩:=A;refine (Ew (N.run _ _ _ R)).imp ?_
 rintro G H Q ⟨φ,E,B,q⟩
 exact⟨φ,E,B,λv H1 z J s1 L=>⟨k,by rw[(m7 hk)]at L;exact L,q _ H1 z J s1 U⟩⟩
theorem nW {op} (h:IE K X a fa):IE K X (.BoolOp op [a] pos) fa:=⟨λenv st r A=>Ex (h.run env st r A)⟩
theorem nL {rest:List Expr} (N:IE K X a fa) (hb:IE K X (.BoolOp .And (b::rest) pos) fb):IE K X (.BoolOp .And (a::b::rest) pos) (nK fa fb):=by
 refine⟨λenv st r A=>?_⟩;simp only[nK,qac]at A;obtain⟨x,R,k,hk,A⟩:=A;have e:=m7 hk;cases k with
 |false=>
  cases A;refine (z8 (N.run _ _ _ R) kY).imp ?_
  rintro G H Q ⟨φ,E,B,q⟩
  refine⟨φ,E,B,λv H1 z J s1 L=>⟨false,by rw[e]at L;exact L,?_⟩⟩;exact q _ H1 z J s1 U
 |true=>
  refine (z8 (N.run _ _ _ R) (hb.run _ _ _ A)).imp ?_
  rintro G H Q ⟨φ,E,B,q⟩
  refine⟨φ,E,B,λv H1 z J s1 L=>⟨true,by rw[e]at L;exact L,?_⟩⟩;exact⟨z,E.fw B J,s1,λu H2 O Y s2 w2=>q u H2 O (J.trans Y) s2 w2⟩
theorem tX {rest:List Expr} (N:IE K X a fa) (hb:IE K X (.BoolOp .Or (b::rest) pos) fb):IE K X (.BoolOp .Or (a::b::rest) pos) (zr fa fb):=by
 refine⟨λenv st r A=>?_⟩;simp only[zr,qac]at A;obtain⟨x,R,k,hk,A⟩:=A;have e:=m7 hk;cases k with
 |true=>
  cases A;refine (De (N.run _ _ _ R) kY).imp ?_
  rintro G H Q ⟨φ,E,B,q⟩
  refine⟨φ,E,B,λv H1 z J s1 L=>⟨true,by rw[e]at L;exact L,?_⟩⟩;exact q _ H1 z J s1 U
 |false=>
  refine (De (N.run _ _ _ R) (hb.run _ _ _ A)).imp ?_
  rintro G H Q ⟨φ,E,B,q⟩
  refine⟨φ,E,B,λv H1 z J s1 L=>⟨false,by rw[e]at L;exact L,?_⟩⟩;exact⟨z,E.fw B J,s1,λu H2 O Y s2 w2=>q u H2 O (J.trans Y) s2 w2⟩
variable {ta tb:Tf}
theorem on (N:IT K X a ta):IT K X (.UnaryOp .Not a pos) (cM ta):=by
 refine⟨λenv st r A=>?_⟩;simp only[cM,qad]at A;obtain⟨x,R,rfl⟩:=A;refine (EI (N.run _ _ _ R)).imp ?_
 rintro G H Q ⟨φ,E,B,q⟩
 exact⟨φ,E,B,λH1 z J s1=>q H1 z J s1⟩
theorem DT (h:ITW K X a ta):IT K X a ta:=⟨λenv st r A=>(h.run env st r A).pt⟩
theorem iN (h:IT K X a ta):ITW K X (.BoolOp .And [a] pos) ta:=⟨λenv st r A=>Co (h.run env st r A)⟩
theorem kH (h:IT K X a ta):ITW K X (.BoolOp .Or [a] pos) ta:=⟨λenv st r A=>EK (h.run env st r A)⟩
theorem kG {rest:List Expr} (N:IT K X a ta) (hb:ITW K X (.BoolOp .And (b::rest) pos) tb):ITW K X (.BoolOp .And (a::b::rest) pos) (dO ta tb):=by
 refine⟨λenv st r A=>?_⟩;simp only[dO,qac]at A;obtain⟨⟨k,s1⟩,R,A⟩:=A;cases k with
 |false=>
  cases A;refine (At (N.run _ _ _ R) uM).imp ?_
  rintro G H Q ⟨φ,E,B,q⟩
  refine⟨φ,E,B,λH1 z J s1=>?_⟩;exact q H1 z J s1
 |true=>
  refine (At (N.run _ _ _ R) (hb.run _ _ _ A)).imp ?_
  rintro G H Q ⟨φ,E,B,q⟩
  refine⟨φ,E,B,λH1 z J s1=>?_⟩;exact⟨z,E.fw B J,s1,λH2 O Y s2=>q H2 O (J.trans Y) s2⟩
theorem oq {rest:List Expr} (N:IT K X a ta) (hb:ITW K X (.BoolOp .Or (b::rest) pos) tb):ITW K X (.BoolOp .Or (a::b::rest) pos) (dh ta tb):=by
 refine⟨λenv st r A=>?_⟩;simp only[dh,qac]at A;obtain⟨⟨k,s1⟩,R,A⟩:=A;cases k with
 |true=>
  cases A;refine (Dh (N.run _ _ _ R) uM).imp ?_
  rintro G H Q ⟨φ,E,B,q⟩
  refine⟨φ,E,B,λH1 z J s1=>?_⟩;exact q H1 z J s1
 |false=>
  refine (Dh (N.run _ _ _ R) (hb.run _ _ _ A)).imp ?_
  rintro G H Q ⟨φ,E,B,q⟩
  refine⟨φ,E,B,λH1 z J s1=>?_⟩;exact⟨z,E.fw B J,s1,λH2 O Y s2=>q H2 O (J.trans Y) s2⟩
theorem tU {tc:Tf} (hc:IT K X c tc) (N:IE K X a fa) (hb:IE K X b fb):IE K X (.IfExp c a b pos) (jK tc fa fb):=by
 refine⟨λenv st r A=>?_⟩;simp only[jK,qac]at A;obtain⟨⟨k,s1⟩,R,A⟩:=A;cases k with
 |true=>
  refine (uH (hc.run _ _ _ R) (N.run _ _ _ A) kY).imp ?_
  rintro G H Q ⟨φ,E,B,q⟩
  refine⟨φ,E,B,λH1 z J s1=>?_⟩;exact⟨z,E.fw B J,s1,λu H2 O Y s2 w2=>q u H2 O (J.trans Y) s2 w2⟩
 |false=>
  refine (uH (hc.run _ _ _ R) kY (hb.run _ _ _ A)).imp ?_
  rintro G H Q ⟨φ,E,B,q⟩
  refine⟨φ,E,B,λH1 z J s1=>?_⟩;exact⟨z,E.fw B J,s1,λu H2 O Y s2 w2=>q u H2 O (J.trans Y) s2 w2⟩
def gX (st:Sto):W->Option (List D)
 |.d (.tup ds)=>some ds
 |.d (.lst ds)=>some ds
 |.d (.scr ns)=>some (ns.map D.int)
 |.h n=>lg st n
 |_=>none
theorem uP {st:Sto}{H:Hp}{φ:List Addr}{w:W}{v:V}{ds:List D} (S:Sr K H φ st) (r:Rw K H φ w v) (e:gX st w=some ds):∃ a M,v=.ref a/\(SqL K H a M\/H a=some (.tup M))/\Rls K H φ ds M:=by
 cases w with
 |h n=>
  obtain⟨a,ea,rfl⟩:=r;obtain⟨M,q,rl⟩:=S.atl n a ds ea e;exact⟨a,M,U,.inl (SqL.of q),rl⟩
 |d x=>
  cases x with
  |tup es=>cases e;obtain⟨a,M,rfl,h1,h2⟩:=r;exact⟨a,M,U,.inr h1,h2⟩
  |lst es=>cases e;obtain⟨a,M,rfl,h0,h1,h2⟩:=r;exact⟨a,M,U,.inl (.inl h1),h2⟩
  |scr ns=>
   cases e;obtain⟨a,rfl,h⟩:=r;refine⟨a,_,U,.inl ?_,Rls.of_ints ns⟩;rcases h with⟨o,h⟩|h
   ·exact .inl (.inr ⟨o,h⟩)
   ·exact .inr h
  |_=>cases e
theorem jp {st:Sto}{H:Hp}{φ:List Addr}{w:W}{v:V}{ds:List D} (S:Sr K H φ st) (r:Rw K H φ w v) (e:gX st w=some ds):∃ a M,v=.ref a/\(SqL K H a M\/SqT K H a M)/\Rls K H φ ds M:=by
 obtain⟨a,M,h0,h1,h2⟩:=uP S r e;exact⟨a,M,h0,h1.imp id SqT.of,h2⟩
def cN (st:Sto):W->Option Bool
 |.d .non=>some false
 |.d (.bl b)=>some b
 |.d (.int i)=>some (i != 0)
 |w=>(gX st w).map λds=>!ds.isEmpty
theorem CM {st:Sto}{H:Hp}{φ:List Addr}{w:W}{v:V}{k:Bool} (S:Sr K H φ st) (r:Rw K H φ w v) (e:cN st w=some k):Bg K v H k:=by
 have seq:∀ ds,gX st w=some ds->k=!ds.isEmpty->Bg K v H k:=λds h hk=>by
  obtain⟨a,M,rfl,h1,h2⟩:=jp S r h;have e':k=!M.isEmpty:=by
   rw[hk];cases ds<;>cases M<;>first|rfl|cases h2.length
  rcases h1 with h1|h1
  ·exact .inl ⟨M,h1,e'⟩
  ·exact .inr (.inl ⟨M,h1,e'⟩)
 cases w with
 |h n=>
  obtain⟨ds,h1,h2⟩:=qad.mp e;exact seq ds h1 h2.symm
 |d x=>
  cases x with
  |non=>subst r;cases e;exact U
  |bl b=>subst r;cases e;exact U
  |int i=>subst r;cases e;exact U
  |tup ds=>exact seq ds U (qaN e).symm
  |lst ds=>exact seq ds U (qaN e).symm
  |scr ds=>exact seq _ U (qaN e).symm
  |_=>cases e
theorem oo (N:IE K X a fa) (he:Ak a=true:=by rfl) (hK:X.K=K:=by rfl):IT K X a (cv cN fa):=by
 subst hK;refine⟨λenv st r A=>?_⟩;simp only[cv,qac,qad]at A;obtain⟨x,R,k,hk,rfl⟩:=A;refine (Aq (N.run _ _ _ R) (yM he)).imp ?_
 rintro G H Q ⟨φ,E,B,q⟩
 exact⟨φ,E,B,λv H1 z J s1 L=>⟨k,CM s1 L hk,q H1 z J s1⟩⟩
variable {af:Af}
theorem b0:IA K X [] ae:=by
 refine⟨λenv st r A=>?_⟩;cases A;refine rY.imp ?_
 rintro G H Q ⟨φ,E,B,q⟩
 exact q [] H φ (Fw.refl φ H) B U
theorem bA (N:IE K X e fa) (A:IA K X es af) (hs:aA e=true:=by rfl):IA K X (e::es) (aa fa af):=by
 refine⟨λenv st r h=>?_⟩;simp only[aa,qac,qad]at h;obtain⟨x,R,y,hy,rfl⟩:=h;refine (mK (N.run _ _ _ R) (A.run _ _ _ hy) (aU hs)).imp ?_
 rintro G H Q ⟨φ,E,B,q⟩
 refine⟨φ,E,B,λv H1 z J s1 L=>⟨z,E.fw B J,s1,λu H2 O Y s2 w2=>?_⟩⟩;exact q _ H2 O (J.trans Y) s2 ⟨v,u,U,L.fw s1 Y,w2⟩
theorem qw {x:Str}{id:String}{p:Pos}{g:Sto->List W->Option D} (hc:e6 K X (.builtin id) g) (hg:Gl X x) (hm:X.mg x=none) (hv:qch x=some (.builtin id)) (N:IA K X (e::es) af)
  (hn:x≠"__name__":=by decide) (hdb:(x==("__debug__" : Str))=false:=by decide) (hs:aA e=true:=by rfl) (hp:es.all aA=true:=by rfl) :
  IE K X (.Call (.Name x p) (e::es) [] pos) (iCB g af):=by
 refine⟨λenv st r A=>?_⟩;simp only[iCB,qac,qad]at A;obtain⟨y,hy,d,hd,rfl⟩:=A;refine (pe (hc.run _ _ _ hd) hg hm hv (N.run _ _ _ hy) hn hdb (aU hs) (bv hp)).imp ?_
 rintro G H Q ⟨φ,E,B,q⟩
 exact⟨φ,E,B,λv H1 z J s1 L=>⟨z,s1,L,λu H2 Y w2=>q u H2 z (J.trans (Fw.same Y)) (s1.same Y) w2⟩⟩
theorem FL {x:Str}{T:String}{p:Pos}{g:Sto->List W->Option D} (hc:e6 K X (.type T) g) (hg:Gl X x) (hm:X.mg x=none) (hv:qch x=some (.type T)) (N:IA K X (e::es) af)
  (hn:x≠"__name__":=by decide) (hdb:(x==("__debug__" : Str))=false:=by decide) (hs:aA e=true:=by rfl) (hp:es.all aA=true:=by rfl) :
  IE K X (.Call (.Name x p) (e::es) [] pos) (iCB g af):=by
 refine⟨λenv st r A=>?_⟩;simp only[iCB,qac,qad]at A;obtain⟨y,hy,d,hd,rfl⟩:=A;refine (dj (hc.run _ _ _ hd) hg hm hv (N.run _ _ _ hy) hn hdb (aU hs) (bv hp)).imp ?_
 rintro G H Q ⟨φ,E,B,q⟩
 exact⟨φ,E,B,λv H1 z J s1 L=>⟨z,s1,L,λu H2 Y w2=>q u H2 z (J.trans (Fw.same Y)) (s1.same Y) w2⟩⟩
theorem FM {x:Str}{id:String}{p:Pos}{g:Sto->List W->Option (List D)} (hc:sD K X (.builtin id) g) (hg:Gl X x) (hm:X.mg x=none) (hv:qch x=some (.builtin id)) (N:IA K X (e::es) af)
  (hn:x≠"__name__":=by decide) (hdb:(x==("__debug__" : Str))=false:=by decide) (hs:aA e=true:=by rfl) (hp:es.all aA=true:=by rfl) :
  IL K X (.Call (.Name x p) (e::es) [] pos) (iCL g af):=by
 refine⟨λenv st r A=>?_⟩;simp only[iCL,qac,qad]at A;obtain⟨y,hy,d,hd,rfl⟩:=A;refine (pe (hc.run _ _ _ hd) hg hm hv (N.run _ _ _ hy) hn hdb (aU hs) (bv hp)).imp ?_
 rintro G H Q ⟨φ,E,B,q⟩
 exact⟨φ,E,B,λv H1 z J s1 L=>⟨z,s1,L,λa us H2 Y n2 w2=>q a us H2 z (J.trans (Fw.same Y)) (s1.same Y) n2 w2⟩⟩
theorem C4 {x:Str}{T:String}{p:Pos}{g:Sto->List W->Option (List D)} (hc:sD K X (.type T) g) (hg:Gl X x) (hm:X.mg x=none) (hv:qch x=some (.type T)) (N:IA K X (e::es) af)
  (hn:x≠"__name__":=by decide) (hdb:(x==("__debug__" : Str))=false:=by decide) (hs:aA e=true:=by rfl) (hp:es.all aA=true:=by rfl) :
  IL K X (.Call (.Name x p) (e::es) [] pos) (iCL g af):=by
 refine⟨λenv st r A=>?_⟩;simp only[iCL,qac,qad]at A;obtain⟨y,hy,d,hd,rfl⟩:=A;refine (dj (hc.run _ _ _ hd) hg hm hv (N.run _ _ _ hy) hn hdb (aU hs) (bv hp)).imp ?_
 rintro G H Q ⟨φ,E,B,q⟩
 exact⟨φ,E,B,λv H1 z J s1 L=>⟨z,s1,L,λa us H2 Y n2 w2=>q a us H2 z (J.trans (Fw.same Y)) (s1.same Y) n2 w2⟩⟩
theorem nw {H:Hp}{φ:List Addr}:∀ {ws:List W}{M:List V}{ds:List D},sW ws=some ds->Rws K H φ ws M->Rls K H φ ds M
 |[],_,_,e,h=>by cases e;exact h
 |.d x::ws,_,_,e,h=>by
  obtain⟨v,r,rfl,h1,h2⟩:=h;obtain⟨es,e1,rfl⟩:=qad.mp e;exact⟨v,r,U,h1,nw e1 h2⟩
 |.h n::ws,_,_,e,h=>by cases e
theorem nZ {x1} (h:IA K X es af):IE K X (.Tuple es x1 pos) (bb af):=by
 refine⟨λenv st r A=>?_⟩;simp only[bb,qac]at A;obtain⟨y,hy,ds,hd,A⟩:=A;split at A
 ·cases A
  rename_i hl;refine (Ez (h.run _ _ _ hy)).imp ?_
  rintro G H Q ⟨φ,E,B,q⟩
  refine⟨φ,E,B,λM H1 z J s1 L=>?_⟩;have w:=nw hd L;refine⟨by rw[<-w.length];exact jq hl,λp hp=>?_⟩;exact q _ _ z (J.trans (Fw.new hp)) (s1.new hp) ⟨p,M,U,upd_same,w.fw s1 (Fw.new hp)⟩
 ·cases A
theorem jM (h:IA K X es af):IL K X (.List es pos) (bT af):=by
 refine⟨λenv st r A=>?_⟩;simp only[bT,qac]at A;obtain⟨y,hy,ds,hd,A⟩:=A;split at A
 ·cases A
  rename_i hl;refine (Ab (h.run _ _ _ hy)).imp ?_
  rintro G H Q ⟨φ,E,B,q⟩
  refine⟨φ,E,B,λM H1 z J s1 L=>?_⟩;have w:=nw hd L;exact⟨by rw[<-w.length];exact jq hl,λp hp=>q p M H1 z J s1 hp w⟩
 ·cases A
theorem dk {lf:Lf} (h:IL K X e lf):IE K X e (aw lf):=by
 refine⟨λenv st r A=>?_⟩;simp only[aw,qad]at A;obtain⟨y,hy,rfl⟩:=A;refine (h.run _ _ _ hy).imp ?_
 rintro G H Q ⟨φ,E,B,q⟩
 refine⟨φ,E,B,λa M H1 z J s1 n1 L=>?_⟩;exact q _ _ z (J.trans (Fw.new n1)) (s1.new n1) ⟨a,M,U,s1.nin n1,.inl upd_same,L.fw s1 (Fw.new n1)⟩
theorem Sr.moreC {H:Hp}{φ:List Addr}{st:Sto}{a:Addr}{o:HO}{c:C} (S:Sr K H φ st) (n:H a=none) (w:Rc K (upd H a o) (φ++[a]) φ.length a c):Sr K (upd H a o) (φ++[a]) (st++[c]):=by
 refine⟨?_,by rw[qaB,qaB,S.len];rfl,λi b es e1 e2=>?_⟩
 ·rw[qcB]
  refine⟨S.nd,by simp,λx R y hy e=>?_⟩;rw[qal.mp hy]at e;rw[e]at R;exact S.nin n R
 ·by_cases hi:i<φ.length
  ·rw[qaG hi]at e1
   rw[qaG (by rw[<-S.len];exact hi)]at e2;exact (S.at_ i b es e1 e2).fw S ⟨⟨_,U,λb hb=>by rw[qal.mp hb];exact n⟩,λb o _ h=>aR.new n _ b o h,λb o h=>⟨o,aR.new n _ b o h⟩⟩ λo h=>aR.new n _ _ _ h
  ·have e:i=φ.length:=by
    have:=(qar.mp e1).1
    simp at this
    lia
   subst e;rw[qaI (qap _)]at e1;rw[S.len,qaI (qap _)]at e2
   simp at e1 e2
   subst e1 e2;exact w
theorem Fw.moreO {H:Hp}{φ:List Addr}{a:Addr}{o:HO} (n:H a=none):Fw φ (φ++[a]) H (upd H a o):=
 ⟨⟨_,U,λb hb=>by rw[qal.mp hb];exact n⟩,λb o _ h=>aR.new n _ b o h,λb o h=>⟨o,aR.new n _ b o h⟩⟩
theorem Fw.more {H:Hp}{φ:List Addr}{a:Addr}{M:List V} (n:H a=none):Fw φ (φ++[a]) H (upd H a (.lst M)):=Fw.moreO n
theorem Sr.more {H:Hp}{φ:List Addr}{st:Sto}{a:Addr}{M:List V}{ds:List D} (S:Sr K H φ st) (n:H a=none) (w:Rls K H φ ds M):Sr K (upd H a (.lst M)) (φ++[a]) (st++[.l ds]):=
 S.moreC n ⟨M,upd_same,w.fw S (Fw.moreO n)⟩
theorem jN {lf:Lf} (h:IL K X e lf):IE K X e (db lf):=by
 refine⟨λenv st r A=>?_⟩;simp only[db,qad]at A;obtain⟨y,hy,rfl⟩:=A;refine (h.run _ _ _ hy).imp ?_
 rintro G H Q ⟨φ,E,B,q⟩
 refine⟨φ,E,B,λa M H1 z J s1 n1 L=>?_⟩;exact q _ _ _ (J.trans (Fw.more n1)) (s1.more n1 L) ⟨a,by rw[<-s1.len];simp,U⟩
def spI (K:qae) (m:Fn):Sp:=λM H Q _=>∃ φ st ws r,m ws st=some r/\Rws K H φ ws M/\Sr K H φ st/\∀ v H' φ',Fw φ φ' H H'->Sr K H' φ' r.2->Rw K H' φ' r.1 v->Q v H'
theorem By {x:Str}{k j:Nat}{ff:Addr}{fd:qb6}{ps:List Str}{m:Fn}{p:Pos} (F:dP X.prog X.w X.K X.mg X.base CX0 j ff fd ps (spI K m)) (hjk:j<=k) (A:bz k X.A) (hg:Gl X x) (hm:X.mg x=some (.ref ff)) (hk:qcD X.K (.ref ff)=true) (hb:dq X.K fd ps [])
  (N:IA K X (e::es) af) (hdb:(x==("__debug__" : Str))=false:=by decide) (hs:aA e=true:=by rfl) (hp:es.all aA=true:=by rfl) :
  IE K X (.Call (.Name x p) (e::es) [] pos) (aq m af):=by
 refine⟨λenv st r h=>?_⟩;simp only[aq,qac]at h;obtain⟨y,hy,h⟩:=h;refine (wU (F.mono hjk) A hg hm hk hb .nil z7 (N.run _ _ _ hy) hdb (aU hs) (bv hp)).imp ?_
 rintro G H Q ⟨φ,E,B,q⟩
 refine⟨φ,E,B,λM H1 z J s1 L=>?_⟩;show spI K m _ H1 Q E0;rw[qbf];exact⟨z,_,_,r,h,L,s1,λv H2 O Y s2 w2=>q v H2 O (J.trans Y) s2 w2⟩
end
inductive Fl where
 |nx (env:Ev) (st:Sto)|rt (w:W) (st:Sto)|bk (env:Ev) (st:Sto)|ct (env:Ev) (st:Sto)
abbrev Sf:=Ev->Sto->Option Fl
def yQ (K:qae) (φ:List Addr) (H:Hp) (D:pR):Fl->Prop
 |.nx e s=>∀ b H' a,Fw φ a H H'->Er K H' a e b->Sr K H' a s->D.nx b H'
 |.rt w s=>∀ v H' a,Fw φ a H H'->Sr K H' a s->Rw K H' a w v->D.rt v H'
 |.bk e s=>∀ b H' a,Fw φ a H H'->Er K H' a e b->Sr K H' a s->D.bk b H'
 |.ct e s=>∀ b H' a,Fw φ a H H'->Er K H' a e b->Sr K H' a s->D.ct b H'
theorem yQ.fw {K:qae}{φ d:List Addr}{H H1:Hp}{D:pR}{r:Fl} (h:yQ K φ H D r) (f:Fw φ d H H1):yQ K d H1 D r:=by
 cases r with
 |nx e s=>exact λb H' a c=>h b H' a (f.trans c)
 |rt w s=>exact λv H' a c=>h v H' a (f.trans c)
 |bk e s=>exact λb H' a c=>h b H' a (f.trans c)
 |ct e s=>exact λb H' a c=>h b H' a (f.trans c)
def tS (K:qae) (env:Ev) (st:Sto) (r:Fl):TS:=λD a H=>∃ φ,Er K H φ env a/\Sr K H φ st/\yQ K φ H D r
structure IS (K:qae) (X:Cx) (s:Stmt) (g:Sf):Prop where
 run:∀ env st r,g env st=some r->PS X s (tS K env st r)
structure ISs (K:qae) (X:Cx) (s:List Stmt) (g:Sf):Prop where
 run:∀ env st r,g env st=some r->PSs X s (tS K env st r)
inductive Tg where
 |nm (i:Nat)|tp (is:List Nat)|tq (i:Nat) (is:List Nat)
def tP:Tg->List Nat
 |.nm i=>[i]
 |.tp is=>is
 |.tq i is=>i::is
def pz:List Nat->List D->Ev->Ev
 |i::is,d::ds,env=>pz is ds (env.set i (some (.d d)))
 |_,_,env=>env
def eZ:Tg->W->Ev->Option Ev
 |.nm i,w,env=>some (env.set i (some w))
 |.tp is,.d (.tup ds),env=>if is.length=ds.length then some (pz is ds env) else none
 |.tp is,.d (.lst ds),env=>if is.length=ds.length then some (pz is ds env) else none
 |.tq i is,.d (.tup [d,.tup ds]),env=>if is.length=ds.length then some (pz is ds (env.set i (some (.d d)))) else none
 |_,_,_=>none
def Bf (is:List Nat) (b a:St):Prop:=a.length=b.length/\∀ j,j∉is->a[j]?=b[j]?
def tG (K:qae) (g:Tg):TG:=λv c H Q=>∃ φ st env w a,Er K H φ env c/\Sr K H φ st/\Rw K H φ w v/\eZ g w env=some a/\∀ b,Er K H φ a b->Bf (tP g) c b->Q b H
def tGs (K:qae) (is:List Nat):TGs:=λc b H Q=>∃ φ st env ds,Er K H φ env b/\Sr K H φ st/\Rls K H φ ds c/\is.length=ds.length/\∀ a,Er K H φ (pz is ds env) a->Bf is b a->Q a H
def aQ:Sf
 |env,st=>some (.nx env st)
def ah (a b:Sf):Sf
 |env,st=>(a env st).bind λr=>match r with
 |.nx e s=>b e s
 |r=>some r
def ay (g:Tg) (f:Ef):Sf
 |env,st=>(f env st).bind λr=>(eZ g r.1 env).map λe=>.nx e r.2
def zt (i j:Nat) (a:Af):Sf
 |env,st=>(a env st).bind λr=>match r.1 with
 |[x,y]=>some (.nx ((env.set i (some x)).set j (some y)) r.2)
 |_=>none
def ja (st:Sto) (o i v:W):Option Sto:=match o,i,v with
 |.h n,.d (.int k),.d x=>(lg st n).bind λds=>(ixN ds.length k).map λj=>st.set n (.l (ds.set j x))
 |_,_,_=>none
def bP (o i v:Ef):Sf
 |env,st=>(v env st).bind λb=>(o env b.2).bind λa=>(i env a.2).bind λc=>(ja c.2 a.1 c.1 b.1).map λs=>.nx env s
def aM (f:Ef):Sf
 |env,st=>(f env st).map λr=>.rt r.1 r.2
def eJ (f:Ef):Sf
 |env,st=>(f env st).map λr=>.nx env r.2
def aY (c:Tf) (a b:Sf):Sf
 |env,st=>(c env st).bind λr=>if r.1=true then a env r.2 else b env r.2
def vw:Sf
 |env,st=>some (.bk env st)
def qu:Sf
 |env,st=>some (.ct env st)
def cn (g:Tg) (body:Sf):List D->Ev->Sto->Option Fl
 |[],env,st=>some (.nx env st)
 |d::ds,env,st=>(eZ g (.d d) env).bind λe=>(body e st).bind λr=>match r with
  |.nx e s=>cn g body ds e s
  |.ct e s=>cn g body ds e s
  |.bk e s=>some (.nx e s)
  |.rt w s=>some (.rt w s)
def eY (a:Lf) (g:Tg) (body:Sf):Sf
 |env,st=>(a env st).bind λr=>cn g body r.1 env r.2
def bE (c:Tf) (body:Sf):Nat->Ev->Sto->Option Fl
 |0,_,_=>none
 |n+1,env,st=>(c env st).bind λk=>if k.1=true then (body env k.2).bind λr=>match r with
   |.nx e s=>bE c body n e s
   |.ct e s=>bE c body n e s
   |.bk e s=>some (.nx e s)
   |.rt w s=>some (.rt w s)
  else some (.nx env k.2)
def lcI (g:Tg) (tt:Tf) (te:Ef) (env:Ev):List D->Sto->Option (List D×Sto)
 |[],st=>some ([],st)
 |d::ds,st=>(eZ g (.d d) env).bind λe=>(tt e st).bind λb=>if b.1=true then (te e b.2).bind λx=>(sW [x.1]).bind λa=>(lcI g tt te env ds x.2).map λr=>(a++r.1,r.2)
   else lcI g tt te env ds b.2
def vn (k:Nat) (js:List Nat) (env:Ev):Ev:=qay k none++js.map λj=>env.getD j none
def iLc (k:Nat) (js:List Nat) (a:Lf) (g:Tg) (tt:Tf) (te:Ef):Lf
 |env,st=>(a env st).bind λr=>if r.1.length<=1000000 then lcI g tt te (vn k js env) r.1 r.2 else none
def aJ:Tf
 |_,st=>some (true,st)
def aB (f:Ef):Lf
 |env,st=>(f env st).bind λr=>match r.1 with
 |.d (.tup ds)=>some (ds,r.2)
 |.d (.lst ds)=>some (ds,r.2)
 |_=>none
def bi (lo:Int) (n:Nat):List D:=(qak n).map λk:Nat=>D.int (lo+k)
def bD (a:Af):Lf
 |env,st=>(a env st).bind λr=>match r.1 with
 |[.d (.int j)]=>if -(2^62)<=j/\j<2^62 then some (bi 0 j.toNat,r.2) else none
 |_=>none
def bY:Nat->List D->List D
 |_,[]=>[]
 |k,d::ds=>.tup [.int k,d]::bY (k+1) ds
def bZ (a:Af):Lf
 |env,st=>(a env st).bind λr=>match r.1 with
 |[.d (.tup ds)]=>some (bY 0 ds,r.2)
 |[.d (.lst ds)]=>some (bY 0 ds,r.2)
 |_=>none
section
variable {K:qae}{X:Cx}{pos:Pos}
theorem PS.imp {s:Stmt}{t t':TS} (h:PS X s t) (m:∀ D A H,t' D A H->t D A H):PS X s t':=λB s A H D I q=>h B s A H D I (m D A H q)
theorem PSs.imp {s:List Stmt}{t t':TS} (h:PSs X s t) (m:∀ D A H,t' D A H->t D A H):PSs X s t':=λB s A H D I q=>h B s A H D I (m D A H q)
theorem Er.set {H:Hp}{φ:List Addr}{env:Ev}{A:St} (h:Er K H φ env A) (i:Nat) {w:W}{v:V} (r:Rw K H φ w v):Er K H φ (env.set i (some w)) (A.set i (some v)):=by
 refine⟨by rw[qb7,qb7,h.len],λj w' e=>?_⟩;by_cases hj:i=j
 ·subst hj
  have hi:=by
   have:=(qar.mp e).1
   rwa [qb7]at this
  rw[qbs hi]at e;cases e;exact⟨v,by rw[qbs (by rw[<-h.len];exact hi)],r⟩
 ·rw[qbC hj]at e
  obtain⟨v',O,r1⟩:=h.at_ j w' e;exact⟨v',by rw[qbC hj];exact O,r1⟩
theorem AN (i:Nat) (A:St) (v:Option V):Bf [i] A (A.set i v):=⟨by rw[qb7],λj hj=>by rw[qbC (by rintro rfl;simp at hj)]⟩
theorem jg {i:Nat}{x:Str} (h:PG X (.Name x pos) (tH i)):PG X (.Name x pos) (tG K (.nm i)):=by
 intro B s A H v u Q I P q;obtain⟨φ,st,env,w,env',E,G,r,e,q⟩:=q;cases e;exact h B s A H v u Q I P (q _ (E.set i r) (AN i A _))
theorem jh:PGs X [] (tGs K []):=by
 intro B s A H Y us Q I P q;obtain⟨φ,st,env,ds,E,G,r,e,q⟩:=q;cases ds with
 |nil=>cases r;exact B8 B s A H [] us Q I P ⟨U,q A E ⟨U,λ_ _=>rfl⟩⟩
 |cons _ _=>cases e
theorem eK {i:Nat}{is:List Nat}{x:Str}{es:List Expr} (h1:PG X (.Name x pos) (tH i)) (h2:PGs X es (tGs K is)):PGs X (.Name x pos::es) (tGs K (i::is)):=by
 intro B s A H Y us Q I P q;obtain⟨φ,st,env,ds,E,G,r,e,q⟩:=q;cases ds with
 |nil=>cases e
 |cons d ds=>
  obtain⟨v,vr,rfl,r1,r2⟩:=r;refine Ad h1 h2 (wj U) B s A H _ us Q I P ⟨v,vr,U,φ,st,_,ds,E.set i (w:=.d d) r1,G,r2,by simpa using e,λσ' N s'=>q σ' N ?_⟩;refine⟨by rw[s'.1,qb7],λj hj=>?_⟩;rw[s'.2 j (λz=>hj (qai _ z)),qbC (by rintro rfl;exact hj qag)]
def G5 (K:qae) (n:Nat) (t:TGs):TG:=λv A H Q=>∃ a xs,v=.ref a/\SqL K H a xs/\xs.length=n/\t xs A H Q
theorem EA {es:List Expr}{k:Nat}{t:TGs}{n:Nat} (hc:X.calm=true) (h:PGs X es t) (hn:(qbY es X.env).length=n) (hst:(qbY es X.env).findIdx? (·.1)=none):PG X (.Tuple es k pos) (G5 X.K n t):=by
 intro B s A H v u Q I r hw;obtain⟨a,xs,O,hq,T,hw⟩:=hw;subst O;cases r;obtain⟨its,P,p,hz⟩:=I.list hq;refine qab (qeJ ?_);unfold unpack;rw[show (qbY es X.env).length=its.toArray.size by simp[hn,<-T,P.length],hst];refine qab (qbU (PySem.W.kun_itemsOf (I.ok.hd hc) p.isList λh' hx=>?_));exact h B _ A H xs _ Q (I.kept λb o e=>hx b o (qax (qav e)) e) (by simpa using P) hw
theorem lB {es:List Expr}{k n:Nat}{is:List Nat} (h:PGs X es (tGs K is)) (hes:es.all aA=true:=by rfl) (hn:es.length=n:=by rfl) (hi:is.length=n:=by rfl) (hc:X.calm=true:=by rfl) (hK:X.K=K:=by rfl):PG X (.Tuple es k pos) (tG K (.tp is)):=by
 intro B s A H v u Q I P q;obtain⟨φ,st,env,w,env',E,G,r,e,q⟩:=q;cases w with
 |h n=>cases e
 |d x=>
  cases x with
  |tup ds=>
   have N:(if is.length=ds.length then some _ else none)=some env':=e;by_cases T:is.length=ds.length
   ·rw[iFP T]at N
    cases N;obtain⟨a,Y,rfl,hq,F⟩:=r;exact EB hc h ((qN hes).trans hn) (mX hes) B s A H _ u Q I P ⟨a,Y,U,(SqT.of hq),by rw[<-F.length,<-T,hi],φ,st,env,ds,E,G,F,T,q⟩
   ·rw[iFN T]at N
    cases N
  |lst ds=>
   have N:(if is.length=ds.length then some _ else none)=some env':=e;by_cases T:is.length=ds.length
   ·rw[iFP T]at N
    cases N;obtain⟨a,Y,rfl,_,hq,F⟩:=r;exact EA hc h ((qN hes).trans hn) (mX hes) B s A H _ u Q I P ⟨a,Y,U,.inl hq,by rw[<-F.length,<-T,hi],φ,st,env,ds,E,G,F,T,q⟩
   ·rw[iFN T]at N
    cases N
  |_=>cases e
variable {s:Stmt}{ss rest:List Stmt}{e a b c:Expr}{ga gb:Sf}{f fa fb fc:Ef}
theorem kD:ISs K X [] aQ:=by
 refine⟨λenv st r F=>?_⟩;cases F;exact Cg.imp λD A H ⟨φ,E,G,q⟩=>q A H φ (Fw.refl φ H) E G
theorem kE (h:IS K X s ga):ISs K X [s] ga:=⟨λenv st r F=>wY (h.run env st r F)⟩
theorem iM (h1:IS K X s ga) (h2:ISs K X rest gb):ISs K X (s::rest) (ah ga gb):=by
 refine⟨λenv st r F=>?_⟩;simp only[ah,qac]at F;obtain⟨r1,O,F⟩:=F;cases r1 with
 |nx e s1=>
  refine (dE (h1.run _ _ _ O) (h2.run _ _ _ F)).imp ?_
  rintro D A H ⟨φ,E,G,q⟩
  exact⟨φ,E,G,λσ' H' φ' f' N s'=>⟨φ',N,s',q.fw f'⟩⟩
 |rt w s1=>
  cases F;exact (dE (h1.run _ _ _ O) gk).imp λD A H ⟨φ,E,G,q⟩=>⟨φ,E,G,q⟩
 |bk w s1=>
  cases F;exact (dE (h1.run _ _ _ O) gk).imp λD A H ⟨φ,E,G,q⟩=>⟨φ,E,G,q⟩
 |ct w s1=>
  cases F;exact (dE (h1.run _ _ _ O) gk).imp λD A H ⟨φ,E,G,q⟩=>⟨φ,E,G,q⟩
theorem oj {i:Nat}{x:Str}{pos':Pos} (hN:X.N.Nodup) (hi:X.N[i]?=some x) (hx:Loc X.env.scope x) (he:IE K X e f) (hs:qcw e (some (.Name x pos')) pos.line X.env=pure false:=by rfl) (hf:X.fn x=true\/X.env.scope.names.lookup x=some .local:=by first|exact .inl U|exact .inr U|assumption) :
  IS K X (.Assign [.Name x pos'] e pos) (ay (.nm i) f):=by
 refine⟨λenv st r F=>?_⟩;simp only[ay,eZ,qac,qad]at F;obtain⟨y,hy,N,ee,rfl⟩:=F;cases ee;refine (EH hN hi hx (he.run _ _ _ hy) hs hf).imp ?_
 rintro D A H ⟨φ,E,G,q⟩
 exact⟨φ,E,G,λv H1 L M s1 w1=>q _ H1 L M ((E.fw G M).set i w1) s1⟩
theorem og {tg:Expr}{g:Tg} (he:IE K X e f) (hg:PG X tg (tG K g)) (hs:qdH [tg] e pos.line X.env=pure false:=by rfl) (hw:qdI [tg] e X.env=pure none:=by rfl)
  (h1:aA tg=true:=by rfl):IS K X (.Assign [tg] e pos) (ay g f):=by
 refine⟨λenv st r F=>?_⟩;simp only[ay,qac,qad]at F;obtain⟨y,hy,N,ee,rfl⟩:=F;refine (ph (he.run _ _ _ hy) hg hs hw (jW h1)).imp ?_
 rintro D A H ⟨φ,E,G,q⟩
 exact⟨φ,E,G,λv H1 L M s1 w1=>⟨L,_,env,_,N,E.fw G M,s1,w1,ee,λσ' e'' _=>q σ' H1 L M e'' s1⟩⟩
theorem Sr.putC {H:Hp}{φ:List Addr}{st:Sto}{n:Nat}{a:Addr}{o:HO}{c:C} (S:Sr K H φ st) (hn:φ[n]?=some a) (w:Fw φ φ H (upd H a o)->Rc K (upd H a o) φ n a c) :
  Fw φ φ H (upd H a o)/\Sr K (upd H a o) φ (st.set n c):=by
 have f:Fw φ φ H (upd H a o):=⟨⟨[],by simp,by simp⟩,λb o hb h=>by rw[upd_ne (λz=>hb (by rw[z];exact (qbt hn)))];exact h,λb o h=>by
  by_cases z:b=a
  ·subst z;exact⟨_,upd_same⟩
  ·exact⟨o,by rw[upd_ne z];exact h⟩⟩
 refine⟨f,S.nd,by rw[qb7];exact S.len,λm b es O e2=>?_⟩;by_cases hm:n=m
 ·subst hm
  rw[O]at hn;cases hn;have T:n<st.length:=by rw[<-S.len];exact (qar.mp O).1
  rw[qbs T]at e2;cases e2;exact w f
 ·rw[qbC hm]at e2
  have hne:b≠a:=by
   rintro rfl
   obtain⟨h1,h1'⟩:=qar.mp hn;obtain⟨h2,h2'⟩:=qar.mp O;exact hm ((qdO S.nd).mp (h1'.trans h2'.symm))
  exact (S.at_ m b es O e2).fw S f λo h=>by rw[upd_ne hne];exact h
theorem Sr.put {H:Hp}{φ:List Addr}{st:Sto}{n:Nat}{a:Addr}{Y:List V}{ds:List D} (S:Sr K H φ st) (hn:φ[n]?=some a) (w:Rls K H φ ds Y) :
  Fw φ φ H (upd H a (.lst Y))/\Sr K (upd H a (.lst Y)) φ (st.set n (.l ds)):=S.putC hn λf=>⟨Y,upd_same,w.fw S f⟩
theorem vX {st s':Sto}{o i v:W} (h:ja st o i v=some s'):∃ n k x ds j,o=.h n/\i=.d (.int k)/\v=.d x/\lg st n=some ds/\ixN ds.length k=some j/\s'=st.set n (.l (ds.set j x)):=by
 unfold ja at h;split at h
 ·obtain⟨ds,O,h⟩:=qac.mp h
  obtain⟨j,e2,h⟩:=qad.mp h;exact⟨_,_,_,ds,j,U,U,U,O,e2,h.symm⟩
 ·cases h
theorem iK {tpos:Pos} (ho:IE K X a fa) (hi:IE K X b fb) (hv:IE K X e f) (hb:lN b=true:=by rfl) (hs:qdH [.Subscript a b tpos] e pos.line X.env=pure false:=by rfl) (hw:qdI [.Subscript a b tpos] e X.env=pure none:=by rfl) :
  IS K X (.Assign [.Subscript a b tpos] e pos) (bP fa fb f):=by
 refine⟨λenv st r F=>?_⟩;simp only[bP,qac,qad]at F;obtain⟨P,ev,ro,eo,ri,ei,s',es,rfl⟩:=F;refine (ph (hv.run _ _ _ ev) (rZ (ho.run _ _ _ eo) (hi.run _ _ _ ei) k8 (mz hb)) hs hw (jW U)).imp ?_
 rintro D A H ⟨φ,E,G,q⟩
 refine⟨φ,E,G,λv H1 L M s1 w1=>⟨L,E.fw G M,s1,λo H2 φ2 f2 s2 w2=>⟨φ2,(E.fw G M).fw s1 f2,s2,λi H3 φ3 f3 s3 w3=>?_⟩⟩⟩;obtain⟨ro1,ro2⟩:=ro;obtain⟨rv1,rv2⟩:=P;obtain⟨ri1,ri2⟩:=ri;obtain⟨n,k,x,ds,j,rfl,rfl,rfl,eds,ej,rfl⟩:=vX es;obtain⟨p,ep,rfl⟩:=(w2.fw s2 f3);obtain⟨Y,hp,rl⟩:=s3.atl n p ds ep eds;subst w3;obtain⟨f4,s4⟩:=s3.put ep (Rls.set j rl ((w1.fw s1 f2).fw s2 f3));refine⟨p,Y,k,j,U,U,hp,by rw[<-rl.length];exact ej,?_⟩;exact q _ _ φ3 (((M.trans f2).trans f3).trans f4) ((((E.fw G M).fw s1 f2).fw s2 f3).fw s3 f4) s4
theorem oi (h:IE K X e f):IS K X (.Return (some e) pos) (aM f):=by
 refine⟨λenv st r F=>?_⟩;simp only[aM,qad]at F;obtain⟨y,hy,rfl⟩:=F;exact (EG (h.run _ _ _ hy)).imp λD A H ⟨φ,E,G,q⟩=>⟨φ,E,G,q⟩
theorem ky (h:IE K X e f) (hs:qcw e none pos.line X.env=pure false:=by rfl):IS K X (.Expr e pos) (eJ f):=by
 refine⟨λenv st r F=>?_⟩;simp only[eJ,qad]at F;obtain⟨y,hy,rfl⟩:=F;exact (Cf (h.run _ _ _ hy) hs).imp λD A H ⟨φ,E,G,q⟩=>⟨φ,E,G,λv H1 L M s1 w1=>q A H1 L M (E.fw G M) s1⟩
theorem t8 {tc:Tf}{sa sb:List Stmt} (hc:IT K X c tc) (ha:ISs K X sa ga) (hb:ISs K X sb gb):IS K X (.If c sa sb pos) (aY tc ga gb):=by
 refine⟨λenv st r F=>?_⟩;simp only[aY,qac]at F;obtain⟨⟨k,s1⟩,hx,F⟩:=F;cases k with
 |true=>
  refine (Df (hc.run _ _ _ hx) (ha.run _ _ _ F) gk).imp ?_
  rintro D A H ⟨φ,E,G,q⟩
  refine⟨φ,E,G,λH1 L M s1=>DS ?_⟩;exact⟨L,E.fw G M,s1,q.fw M⟩
 |false=>
  refine (Df (hc.run _ _ _ hx) gk (hb.run _ _ _ F)).imp ?_
  rintro D A H ⟨φ,E,G,q⟩
  refine⟨φ,E,G,λH1 L M s1=>DR ?_⟩;exact⟨L,E.fw G M,s1,q.fw M⟩
theorem iJ:IS K X (.Break pos) vw:=by
 refine⟨λenv st r F=>?_⟩;cases F;exact An.imp λD A H ⟨φ,E,G,q⟩=>q A H φ (Fw.refl φ H) E G
theorem kx:IS K X (.Continue pos) qu:=by
 refine⟨λenv st r F=>?_⟩;cases F;exact uK.imp λD A H ⟨φ,E,G,q⟩=>q A H φ (Fw.refl φ H) E G
def GE (K:qae) (g:Sf):TS:=λD A H=>∃ env st r,g env st=some r/\tS K env st r D A H
def Dp (K:qae) (f:Ef):TE:=λA H Q=>∃ env st r,f env st=some r/\tI K env st r A H Q
def AR (K:qae) (f:Tf):TT:=λA H Q=>∃ env st r,f env st=some r/\tIT K env st r A H Q
theorem ISs.any (h:ISs K X ss ga):PSs X ss (GE K ga):=λB s A H D I ⟨env,st,r,e,q⟩=>h.run env st r e B s A H D I q
theorem IE.any (h:IE K X e f):PE X e (Dp K f):=λB s A H D I ⟨env,st,r,e,q⟩=>h.run env st r e B s A H D I q
theorem IT.any {tf:Tf} (h:IT K X e tf):PT X e (AR K tf):=λB s A H D I ⟨env,st,r,e,q⟩=>h.run env st r e B s A H D I q
def Yl (K:qae) (φ0:List Addr) (H0:Hp) (J:It) (ds:List D):Prop:=∀ (H:Hp) (φ:List Addr) (st:Sto) (i:Nat),Fw φ0 φ H0 H->Sr K H φ st->
 (∀ d,ds[i]?=some d->J.go i H/\∀ x H',J.yld i H x H'->aR H H'/\Rl K H' φ d x)/\(ds.length=i->J.stop i H)
def tII (K:qae) (env:Ev) (st:Sto) (r:List D×Sto):TI:=λA H R=>∃ φ,Er K H φ env A/\Sr K H φ st/\∀ J H' φ',Fw φ φ' H H'->Sr K H' φ' r.2->Yl K φ' H' J r.1->R J H'
structure II (K:qae) (X:Cx) (tg iter:Expr) (f:Lf):Prop where
 run:∀ env st r,f env st=some r->PI X tg iter (tII K env st r)
theorem PI.imp {tg iter:Expr}{t t':TI} (h:PI X tg iter t) (m:∀ A H R,t' A H R->t A H R):PI X tg iter t':=λB s A H R I q=>h B s A H R I (m A H R q)
variable {tg:Expr}
end
section
variable {K:qae}{X:Cx}{pos:Pos}{tg e a b:Expr}{f:Ef}{af:Af}
theorem lC (h:IE K X e f) (hK:X.K=K:=by rfl):II K X tg e (aB f):=by
 subst hK;refine⟨λenv st r B=>?_⟩;simp only[aB,qac]at B;obtain⟨⟨w,s1⟩,hy,B⟩:=B;dsimp only at B;split at B
 ·rename_i ds
  cases B;refine (EC (h.run _ _ _ hy)).imp ?_
  rintro G H R ⟨φ,Y,N,q⟩
  refine⟨φ,Y,N,λv H1 E f1 s1 w1=>?_⟩;obtain⟨a,P,rfl,hq,B⟩:=w1;refine⟨a,U,⟨P,(SqT.of hq)⟩,q _ H1 E f1 s1 λH2 u O i f2 s2=>?_⟩;have hq2:=(SqT.of hq).fw s1 f2;have hr2:=B.fw s1 f2;refine⟨λd hd=>?_,λhi=>⟨P,hq2,by rw[<-hr2.length];exact qdN hi⟩⟩;obtain⟨v,ev,rv⟩:=hr2.get hd;refine⟨⟨P,v,hq2,ev⟩,λx H' y=>?_⟩;obtain⟨rfl,y⟩:=y
  have:=y P hq2
  rw[ev]at this;cases this;exact⟨aR.refl _,rv⟩
 ·rename_i ds
  cases B;refine (B9 (h.run _ _ _ hy)).imp ?_
  rintro G H R ⟨φ,Y,N,q⟩
  refine⟨φ,Y,N,λv H1 E f1 s1 w1=>?_⟩;obtain⟨a,P,rfl,h0,hq,B⟩:=w1;refine⟨a,U,⟨P,.inl hq⟩,q _ H1 E f1 s1 λH2 u O i f2 s2=>?_⟩;have hq2:SqL X.K H2 a P:=.inl (hq.fw f2 h0);have hr2:=B.fw s1 f2;refine⟨λd hd=>?_,λhi=>⟨P,hq2,by rw[<-hr2.length];exact qdN hi⟩⟩;obtain⟨v,ev,rv⟩:=hr2.get hd;refine⟨⟨P,v,hq2,ev⟩,λx H' y=>?_⟩;obtain⟨rfl,y⟩:=y
  have:=y P hq2
  rw[ev]at this;cases this;exact⟨aR.refl _,rv⟩
 all_goals cases B
theorem uO (lo:Int) (n i:Nat):(bi lo n)[i]?=if i<n then some (.int (lo+i)) else none:=by
 unfold bi;rw[qaC];by_cases h:i<n
 ·rw[qbh h,iFP h];rfl
 ·rw[qaF (by simpa using h),iFN h];rfl
theorem c8 (lo:Int) (n:Nat):(bi lo n).length=n:=by unfold bi;rw[qah,qat]
theorem Fb (lo:Int) (n:Nat) {φ:List Addr}{H:Hp}:Yl K φ H (Itr lo n) (bi lo n):=by
 intro H2 u O i f2 s2;refine⟨λd hd=>?_,λhi=>by rw[c8]at hi;exact qdN hi⟩;rw[uO]at hd;by_cases h:i<n
 ·rw[iFP h]at hd
  cases hd;refine⟨h,λx H' y=>?_⟩;obtain⟨rfl,rfl⟩:=y;exact⟨aR.refl _,U⟩
 ·rw[iFN h]at hd;cases hd
theorem kj {p:Pos} (hg:Gl X "range") (hm:X.mg "range" = none) (ha:IA K X [a] af) (hs:aA a=true:=by rfl):II K X tg (.Call (.Name "range" p) [a] [] pos) (bD af):=by
 refine⟨λenv st r B=>?_⟩;simp only[bD,qac]at B;obtain⟨⟨ws,s1⟩,hy,B⟩:=B;dsimp only at B;split at B
 case h_2=>cases B
 rename_i j;have L:(if -(2^62)<=j/\j<2^62 then some (bi 0 j.toNat,s1) else none)=some r:=B;by_cases hj:-(2^62)<=j/\j<2^62
 ·rw[iFP hj]at L
  cases L;refine (yA hg hm (ha.run _ _ _ hy) (jb hs)).imp ?_
  rintro G H R ⟨φ,Y,N,q⟩
  refine⟨φ,Y,N,λP H1 E f1 s1 w1=>?_⟩;obtain⟨v,r,rfl,r1,rfl⟩:=w1;exact⟨j,by rw[show v=.int j from r1],hj.1,hj.2,q _ H1 E f1 s1 (Fb 0 _)⟩
 ·rw[iFN hj]at L;cases L
theorem d7:∀ (ds:List D) (k i:Nat),(bY k ds)[i]?=(ds[i]?).map λd=>D.tup [.int ((k+i:Nat):Int),d]
 |[],k,i=>by simp[bY]
 |d::ds,k,0=>by simp[bY]
 |d::ds,k,i+1=>by
  have:=d7 ds (k+1) i
  rw[show k+1+i=k+(i+1) by lia]at this;simpa [bY] using this
theorem lu:∀ (ds:List D) (k:Nat),(bY k ds).length=ds.length
 |[],_=>rfl
 |d::ds,k=>by rw[bY,qaq,qaq,lu ds]
theorem xA {S:Hp->List V->Prop}{ds:List D}{P:List V}{φ:List Addr}{H:Hp} (N:∀ H' W,Fw φ W H H'->S H' P) (B:∀ H' W,Fw φ W H H'->Rls K H' W ds P):Yl K φ H (Ite S) (bY 0 ds):=by
 intro H2 u O i f2 s2;have q2:=N H2 u f2;have r2:=B H2 u f2;refine⟨λd hd=>?_,λhi=>⟨P,q2,by rw[<-r2.length,<-lu ds 0];exact hi⟩⟩;rw[d7,qad]at hd;obtain⟨d',hd',rfl⟩:=hd;obtain⟨v,ev,rv⟩:=r2.get hd';refine⟨⟨P,v,q2,ev⟩,λx H' y=>?_⟩;obtain⟨T,v',y1,hT,rfl,rfl⟩:=y
 have:=y1 P q2
 rw[ev]at this;cases this;refine⟨aR.new hT _,T,_,U,upd_same,_,_,U,?_,_,_,U,rv.fw s2 (Fw.new hT),U⟩;show V.int _=V.int _;rw[qbj]
theorem ki {elts:List Expr}{k:Nat}{tpos p:Pos} (hg:Gl X "enumerate") (hm:X.mg "enumerate" = none) (ha:IA K X [a] af) (hs:aA a=true:=by rfl) (hK:X.K=K:=by rfl) :
  II K X (.Tuple elts k tpos) (.Call (.Name "enumerate" p) [a] [] pos) (bZ af):=by
 subst hK;refine⟨λenv st r B=>?_⟩;simp only[bZ,qac]at B;obtain⟨⟨ws,s1⟩,hy,B⟩:=B;dsimp only at B;split at B
 ·rename_i ds
  cases B;refine (Ag hg hm (ha.run _ _ _ hy) (jb hs)).imp ?_
  rintro G H R ⟨φ,Y,N,q⟩
  refine⟨φ,Y,N,λP H1 E f1 s1 w1=>?_⟩;obtain⟨v,r,rfl,⟨a,us,rfl,hq,B⟩,rfl⟩:=w1;exact⟨a,U,⟨us,(SqT.of hq)⟩,q _ H1 E f1 s1 (xA (λH' W f=>(SqT.of hq).fw s1 f) λH' W f=>B.fw s1 f)⟩
 ·rename_i ds
  cases B;refine (Ae hg hm (ha.run _ _ _ hy) (jb hs)).imp ?_
  rintro G H R ⟨φ,Y,N,q⟩
  refine⟨φ,Y,N,λP H1 E f1 s1 w1=>?_⟩;obtain⟨v,r,rfl,⟨a,us,rfl,h0,hq,B⟩,rfl⟩:=w1;exact⟨a,U,⟨us,.inl hq⟩,q _ H1 E f1 s1 (xA (λH' W f=>.inl (hq.fw f h0)) λH' W f=>B.fw s1 f)⟩
 all_goals cases B
theorem oh {iter:Expr}{body:List Stmt}{fi:Lf}{g:Tg}{gb:Sf} (hi:II K X tg iter fi) (hg:PG X tg (tG K g)) (hb:ISs K X body gb) (hp:qhM (model X.prog X.w) X.A X.env X.xe) (hc:X.calm=true:=by rfl)
  (hs:∀ x,qbX iter X.env x=pure x:=by intro _;rfl):IS K X (.For tg iter body [] pos) (eY fi g gb):=by
 refine⟨λenv st r B=>?_⟩;simp only[eY,qac]at B;obtain⟨⟨ds,s1⟩,hy,B⟩:=B;refine (EF hp hc (hi.run _ _ _ hy) hg hb.any hs).imp ?_
 rintro D G H ⟨φ,Y,N,q⟩
 refine⟨φ,Y,N,λJ H1 E f1 S1 yl=>?_⟩;refine⟨λi m G H=>m=ds.length - i/\i<=ds.length/\∃ env st u,Fw E u H1 H/\Er K H u env G/\Sr K H u st/\cn g gb (ds.drop i) env st=some r,⟨ds.length,by simp,qcI _,env,s1,E,Fw.refl _ _,Y.fw N f1,S1,B⟩,?_⟩
 rintro i m G H2 ⟨rfl,hi,env2,O,u,f2,e2,S2,h2⟩
 obtain⟨y1,y2⟩:=yl H2 u O i f2 S2;by_cases hlt:i<ds.length
 ·obtain⟨go,yld⟩:=y1 ds[i] (qam hlt)
  rw[qdc hlt]at h2;simp only[cn,qac]at h2;obtain⟨e3,he3,r3,hr3,h3⟩:=h2;refine .inr ⟨go,λσ' H'=>i+1<=ds.length/\∃ env st u,Fw E u H1 H'/\Er K H' u env σ'/\Sr K H' u st/\cn g gb _ env st=some r,λσ' H' ⟨hn,p'⟩=>⟨_,by lia,U,hn,p'⟩,λx H' y=>?_⟩;obtain⟨sm,rx⟩:=yld x H' y;have S3:=S2.same sm;have f3:=f2.trans (Fw.same sm);refine⟨u,O,env2,.d ds[i],e3,e2.fw S2 (Fw.same sm),S3,rx,he3,λσ' e' _=>?_⟩;refine⟨e3,O,r3,hr3,u,e',S3,?_⟩;cases r3 with
  |nx e4 s4=>exact λσ4 H4 F f4 e4' M=>⟨hlt,e4,s4,F,f3.trans f4,e4',M,h3⟩
  |ct e4 s4=>exact λσ4 H4 F f4 e4' M=>⟨hlt,e4,s4,F,f3.trans f4,e4',M,h3⟩
  |bk e4 s4=>
   cases h3;exact λσ4 H4 F f4 e4' M=>q σ4 H4 F (f1.trans (f3.trans f4)) e4' M
  |rt w s4=>
   cases h3;exact λv H4 F f4 M w4=>q v H4 F (f1.trans (f3.trans f4)) M w4
 ·have hi':i=ds.length:=by lia
  subst hi';rw[qhS]at h2;cases h2;exact .inl ⟨y2 U,q G H2 u (f1.trans f2) e2 S2⟩
def lz (n:Nat) (c:Tf) (b:Sf):Sf
 |env,st=>bE c b n env st
theorem iL {c:Expr}{body:List Stmt}{tc:Tf}{gb:Sf} (n:Nat) (hc:IT K X c tc) (hb:ISs K X body gb) (hp:qhM (model X.prog X.w) X.A X.env X.xe):IS K X (.While c body [] pos) (lz n tc gb):=by
 refine⟨λenv st r B=>?_⟩;refine (Ap hp hc.any hb.any).imp ?_
 rintro D G H ⟨φ,Y,N,q⟩
 refine⟨λm G H'=>∃ env st u,Fw φ u H H'/\Er K H' u env G/\Sr K H' u st/\bE tc gb m env st=some r,⟨n,env,st,φ,Fw.refl _ _,Y,N,B⟩,?_⟩
 rintro m G H2 ⟨env2,O,u,f2,e2,S2,h2⟩
 cases m with
 |zero=>cases h2
 |succ m=>
  simp only[bE,qac]at h2;obtain⟨⟨k,s3⟩,hk,h2⟩:=h2;refine⟨env2,O,_,hk,u,e2,S2,λH3 φ3 f3 S3=>?_⟩;cases k with
  |false=>
   cases h2;exact DR (q G H3 φ3 (f2.trans f3) (e2.fw S2 f3) S3)
  |true=>
   simp only[if_true,qac]at h2;obtain⟨r3,hr3,h3⟩:=h2;refine DS ⟨_,λσ' H' p'=>⟨m,qb1 _,p'⟩,?_⟩;refine⟨env2,s3,r3,hr3,φ3,e2.fw S2 f3,S3,?_⟩;have f3':=f2.trans f3;cases r3 with
   |nx e4 s4=>exact λσ4 H4 F f4 e4' M=>⟨e4,s4,F,f3'.trans f4,e4',M,h3⟩
   |ct e4 s4=>exact λσ4 H4 F f4 e4' M=>⟨e4,s4,F,f3'.trans f4,e4',M,h3⟩
   |bk e4 s4=>
    cases h3;exact λσ4 H4 F f4 e4' M=>q σ4 H4 F (f3'.trans f4) e4' M
   |rt w s4=>
    cases h3;exact λv H4 F f4 M w4=>q v H4 F (f3'.trans f4) M w4
structure ITs (K:qae) (X:Cx) (ifs:List Expr) (t:Tf):Prop where
 run:PTs X ifs (AR K t)
theorem gI:ITs K X [] aJ:=by
 refine⟨λpins s G H Q I ⟨env,st,r,e,φ,Y,N,q⟩=>?_⟩;cases e;exact Cj pins s G H Q I (q H φ (Fw.refl φ H) N)
theorem kF {c:Expr}{t:Tf} (h:IT K X c t):ITs K X [c] t:=⟨Cn h.any⟩
theorem Er.emb {H:Hp}{φ:List Addr}{env:Ev}{G:St} (h:Er K H φ env G) (k:Nat) (js:List Nat):Er K H φ (vn k js env) (fW k js G):=by
 refine⟨by unfold vn fW;simp,λi w e=>?_⟩;unfold vn at e;unfold fW;by_cases hi:i<k
 ·rw[qaG (by simpa using hi),qdr,iFP hi]at e
  cases e
 ·rw[qaI (by simpa using hi),qcZ,qaC,qad]at e
  obtain⟨j,ej,e⟩:=e;have ej2:env[j]?=some (some w):=by
   rw[qfV]at e;cases q:env[j]? with
   |none=>rw[q]at e;cases e
   |some o=>rw[q]at e;rw[show o=some w from e]
  obtain⟨v,ev,rv⟩:=h.at_ j w ej2;refine⟨v,?_,rv⟩;rw[qaI (by simpa using hi),qcZ,qaC,ej];show some ((G[j]?).getD none)=_;rw[ev];rfl
theorem Sub.stay {k:Nat}{js is:List Nat}{G σ':St} (h:Bf is (fW k js G) σ') (hi:∀ j∈is,j<k):Sub (fW k js G) σ':=by
 refine⟨h.1.symm,λj v e=>?_⟩;by_cases hj:j∈is
 ·have:=hi j hj
  unfold fW at e;rw[qaG (by simpa using this),qdr,iFP this]at e;cases e
 ·rw[h.2 j hj];exact e
theorem vG {k:Nat}{js:List Nat}{g:Tg}{tt:Tf}{te:Ef}{env:Ev}{st s1:Sto}{ds:List D}{r:List D×Sto} (hgi:∀ j∈tP g,j<k) (hdl:ds.length<=1000000) (L:lcI g tt te (vn k js env) ds s1=some r) :
  ∀ G H Q,tIL K env st r G H Q->tLc (fW k js) (tII K env st (ds,s1)) (tG K g) (AR K tt) (Dp K te) G H Q:=by
 rintro G H Q ⟨φ,Y,N,q⟩
 refine⟨φ,Y,N,λJ H1 E f1 S1 yl=>?_⟩;refine⟨λi m ys H2=>m=ds.length - i/\i<=ds.length/\∃ st u es r2,Fw E u H1 H2/\Sr K H2 u st/\Rls K H2 u es ys/\es.length<=i/\lcI g tt te _ (ds.drop i) st=some r2/\r=(es++r2.1,r2.2),⟨ds.length,by simp,qcI _,s1,E,[],r,Fw.refl _ _,S1,U,qap _,L,U⟩,?_⟩
 rintro i m ys H2 ⟨rfl,hi,O,u,es,r2,f2,S2,rl2,hle,h2,rfl⟩
 obtain⟨y1,y2⟩:=yl H2 u O i f2 S2;by_cases hlt:i<ds.length
 ·obtain⟨go,yld⟩:=y1 ds[i] (qam hlt)
  rw[qdc hlt]at h2;simp only[lcI,qac]at h2;obtain⟨e3,he3,⟨kb,s3⟩,hb3,h3⟩:=h2;have hz:ys.length<qaL:=by
   rw[<-rl2.length]
   have:=qdu
   lia
  refine .inr ⟨go,hz,λys' H'=>i+1<=ds.length/\∃ st u es' r2',Fw E u H1 H'/\Sr K H' u st/\Rls K H' u es' ys'/\es'.length<=i+1/\lcI g tt te _ _ st=some r2'/\(es++r2.1,r2.2)=(es'++r2'.1,r2'.2),λys' H' ⟨hn,p'⟩=>⟨_,by lia,U,hn,p'⟩,λx H' y=>?_⟩;obtain⟨sm,rx⟩:=yld x H' y;have S3:=S2.same sm;have f3:=f2.trans (Fw.same sm);refine⟨u,O,_,.d ds[i],e3,((Y.fw N f1).emb k js).fw S1 f3,S3,rx,he3,λσ' e' stay=>⟨Sub.stay stay hgi,?_⟩⟩;refine⟨e3,O,_,hb3,u,e',S3,λH4 F f4 S4=>?_⟩;cases kb with
  |false=>
   exact DR ⟨hlt,s3,F,es,r2,f3.trans f4,S4,(rl2.fw S2 (Fw.same sm)).fw S3 f4,by lia,h3,U⟩
  |true=>
   simp only[if_true,qac,qad]at h3;obtain⟨x5,hx5,zs,hzs,r5,hr5,rfl⟩:=h3;refine DS ⟨e3,s3,x5,hx5,F,e'.fw S3 f4,S4,λv H5 φ5 f5 S5 w5=>?_⟩;obtain⟨x5,s5⟩:=x5;cases x5 with
   |h n=>cases hzs
   |d z=>
    cases hzs;refine⟨hlt,s5,φ5,es++[z],r5,(f3.trans f4).trans f5,S5,(((rl2.fw S2 (Fw.same sm)).fw S3 f4).fw S4 f5).append ⟨v,_,U,w5,U⟩,by simp;lia,hr5,?_⟩
    simp
 ·have hi':i=ds.length:=by lia
  subst hi';rw[qhS]at h2;cases h2;refine .inl ⟨y2 U,λDn hD=>?_⟩
  have:=q Dn ys H2 u (f1.trans f2) S2 hD
  exact this (by simpa using rl2)
theorem zw {A:Scope}{Nc:List Str}{k:Nat}{js:List Nat}{elt iter:Expr}{ifs:List Expr}{fi:Lf}{g:Tg}{tt:Tf}{te:Ef}
  (S:dQ X A Nc (fW k js)) (hc:X.calm=true) (hgi:∀ j∈tP g,j<k) (hi:II K X tg iter fi)
  (hg:∀ l s H C fp,PG (lcX X A l Nc s H C fp) tg (tG K g)) (ht:∀ l s H C fp,ITs K (lcX X A l Nc s H C fp) ifs tt) (he:∀ l s H C fp,IE K (lcX X A l Nc s H C fp) elt te)
  (hs:∀ x,qbX iter X.env x=pure x:=by intro _;rfl):IL K X (.ListComp elt [⟨tg,iter,ifs,0⟩] A pos) (iLc k js fi g tt te):=by
 refine⟨λenv st r B=>?_⟩;simp only[iLc,qac]at B;obtain⟨⟨ds,s1⟩,hy,B⟩:=B;have L:=B;by_cases hdn:¬ ds.length<=1000000
 ·rw[iFN hdn]at L;cases L
 have hdl:ds.length<=1000000:=by lia
 rw[iFP hdl]at L;refine (Gk S hc (hi.run _ _ _ hy) hg (λl s H C fp=>(ht l s H C fp).run) (λl s H C fp=>(he l s H C fp).any) hs).imp (vG hgi hdl L)
theorem FO {A:Scope}{Nc:List Str}{k:Nat}{js:List Nat}{elt iter:Expr}{ifs:List Expr}{fi:Lf}{g:Tg}{tt:Tf}{te:Ef}{i0:Nat}{x0:Str}{py spos:Pos}
  (hN0:X.N.Nodup) (hi0:X.N[i0]?=some x0) (hx0:Loc X.env.scope x0) (S:dQ X A Nc (fW k js)) (hc:X.calm=true) (hgi:∀ j∈tP g,j<k) (hi:II K X tg iter fi)
  (hg:∀ l s H C fp,PG (lcX X A l Nc s H C fp) tg (tG K g)) (ht:∀ l s H C fp,ITs K (lcX X A l Nc s H C fp) ifs tt) (he:∀ l s H C fp,IE K (lcX X A l Nc s H C fp) elt te)
  (hsw:qcw (.ListComp elt [⟨tg,iter,ifs,0⟩] A pos) (some (.Name x0 py)) spos.line X.env=pure true:=by rfl)
  (hf0:X.fn x0=true\/X.env.scope.names.lookup x0=some .local:=by first|exact .inl U|exact .inr U|assumption)
  (hs:∀ x,qbX iter X.env x=pure x:=by intro _;rfl):IS K X (.Assign [.Name x0 py] (.ListComp elt [⟨tg,iter,ifs,0⟩] A pos) spos) (ay (.nm i0) (aw (iLc k js fi g tt te)))/\
   IS K X (.Assign [.Name x0 py] (.ListComp elt [⟨tg,iter,ifs,0⟩] A pos) spos) (ay (.nm i0) (db (iLc k js fi g tt te))):=by
 have key:∀ env st r0 r,iLc k js fi g tt te env st=some r->(∀ G φ H (D:pR),Er K H φ env G->Sr K H φ st->yQ K φ H D r0->∀ a P H1 W,Fw φ W H H1->Sr K H1 W r.2->H1 a=none->Rls K H1 W r.1 P->D.nx (G.set i0 (some (.ref a))) (upd H1 a (.lst P)))->
   PS X (.Assign [.Name x0 py] (.ListComp elt [⟨tg,iter,ifs,0⟩] A pos) spos) (tS K env st r0):=by
  intro env st r0 r B h;simp only[iLc,qac]at B;obtain⟨⟨ds,s1⟩,hy,B⟩:=B;have L:=B;by_cases hdn:¬ ds.length<=1000000
  ·rw[iFN hdn]at L;cases L
  have hdl:ds.length<=1000000:=by lia
  rw[iFP hdl]at L;refine (Dg hN0 hi0 hx0 S hc (hi.run _ _ _ hy) hg (λl s H C fp=>(ht l s H C fp).run) (λl s H C fp=>(he l s H C fp).any) hsw hf0 hs).imp ?_
  rintro D G H ⟨φ,Y,N,q⟩
  exact vG hgi hdl L G H _ ⟨φ,Y,N,h G φ H D Y N q⟩
 constructor
 ·refine⟨λenv st r B=>?_⟩
  simp only[ay,aw,eZ,qac,qad]at B;obtain⟨y,⟨r2,hy,rfl⟩,e',ee,rfl⟩:=B;cases ee;refine key _ _ _ _ hy λG φ H D Y N q a P H1 E f1 s1 n1 w1=>?_;exact q _ _ E (f1.trans (Fw.new n1)) ((((Y.fw N f1).fw s1 (Fw.new n1))).set i0 ⟨a,P,U,s1.nin n1,.inl upd_same,w1.fw s1 (Fw.new n1)⟩) (s1.new n1)
 ·refine⟨λenv st r B=>?_⟩
  simp only[ay,db,eZ,qac,qad]at B;obtain⟨y,⟨r2,hy,rfl⟩,e',ee,rfl⟩:=B;cases ee;refine key _ _ _ _ hy λG φ H D Y N q a P H1 E f1 s1 n1 w1=>?_;exact q _ _ _ (f1.trans (Fw.more n1)) (((Y.fw N f1).fw s1 (Fw.more n1)).set i0 ⟨a,by rw[<-s1.len];simp,U⟩) (s1.more n1 w1)
end
def bj (n k:Nat) (b:Sf):Fn
 |ws,st=>if ws.length=k then (b (ws.map some++qay (n - k) none) st).bind λr=>match r with
 |.nx _ s=>some (.d .non,s)
 |.rt w s=>some (w,s)
 |_=>none
 else none
def zh (n:Nat) (w:W) (s:Sto):Option (W×Sto):=match w with
 |.d x=>some (.d x,s.take n)
 |.h m=>if m<n then some (.h m,s.take n) else (lg s m).map λds=>(.d (.lst ds),s.take n)
def fR (n k:Nat) (b:Sf):Fn
 |ws,st=>if ws.length=k then (b (ws.map some++qay (n - k) none) st).bind λr=>match r with
 |.nx _ s=>some (.d .non,s.take st.length)
 |.rt w s=>zh st.length w s
 |_=>none
 else none
section
variable {P:qaQ}{w:World}{K:qae}{mg:Str->Option Value}{base:Heap}
theorem nF {H:Hp}{φ:List Addr}{N:List Str}{k:Nat}:∀ {ws:List W}{o:List V},Rws K H φ ws o->ws.length=k->Er K H φ (ws.map some++qay (N.length - k) none) (jc N o):=by
 intro ws o r hk;have l:=r.length;refine⟨by unfold jc;simp;lia,λi x e=>?_⟩;unfold jc;by_cases hi:i<ws.length
 ·rw[qaG (by simpa using hi),qaC,qad]at e
  obtain⟨y,G,e⟩:=e
  have:∃ v,o[i]?=some v/\Rw K H φ y v:=by
   clear hk l hi e
   induction ws generalizing o i with
   |nil=>simp at G
   |cons w ws ih=>
    obtain⟨v,r',rfl,Y,X⟩:=r;cases i with
    |zero=>simp at G;subst G;exact⟨v,U,Y⟩
    |succ i=>simpa using ih X i (by simpa using G)
  obtain⟨v,ev,rv⟩:=this;cases e;refine⟨v,?_,rv⟩;rw[qaG (by rw[qah,<-l];exact hi),qaC,ev];rfl
 ·rw[qaI (by simpa using hi)]at e
  have:=qbt e
  have:=(qhs.mp this).2
  cases this
theorem G4 {x g:Str}{st:Stmt}{f:Addr}{fd:qb6}{N ps:List Str}{k:Nat}{b:Sf} (F:Fun K x g st f fd) (S:cy N ps (au st))
  (hb:∀ (j:Value) (A:qa1) (outer:List Env) (s:qaj) (H:Hp) (E:XK),bz k (A.deeper (qeB g (au st) s.heap.objs.size f j))->ISs K (fV CX0 P w K mg base N g (au st) f j A outer s H E).nox (aW st) b) :
  dP P w K mg base CX0 (k+1) f fd ps (spI K (bj N.length ps.length b)):=by
 refine F.ok S (λo H Q E h=>?_) λj A outer s H o Q E M h=>?_
 ·obtain⟨φ,st,ws,r,e,rw,_⟩:=h
  rw[bj]at e;by_cases l:ws.length=ps.length
  ·rw[<-rw.length,l]
  ·rw[iFN l]at e;cases e
 ·obtain⟨φ,t,ws,r,e,rw,S',q⟩:=h
  rw[bj]at e;by_cases l:ws.length=ps.length
  ·rw[iFP l]at e
   obtain⟨fl,O,p⟩:=qac.mp e;refine⟨_,(hb j A outer s H E M).run _ _ _ O,φ,nF rw l,S',?_⟩;cases fl with
   |nx e s=>cases p;exact λJ H' c n e' s'=>q .non H' c n s' U
   |rt w s=>cases p;exact λv H' c n s' C=>q v H' c n s' C
   |bk e s=>cases p
   |ct e s=>cases p
  ·rw[iFN l]at e;cases e
theorem Fw.less {φ c:List Addr}{H H':Hp} (f:Fw φ c H H'):Fw φ φ H H':=⟨⟨[],by simp,by simp⟩,f.keep,f.there⟩
theorem FF {x g:Str}{st:Stmt}{f:Addr}{fd:qb6}{N ps:List Str}{k:Nat}{b:Sf} (F:Fun K x g st f fd) (S:cy N ps (au st))
  (hb:∀ (j:Value) (A:qa1) (outer:List Env) (s:qaj) (H:Hp) (E:XK),bz k (A.deeper (qeB g (au st) s.heap.objs.size f j))->ISs K (fV CX0 P w K mg base N g (au st) f j A outer s H E).nox (aW st) b) :
  dP P w K mg base CX0 (k+1) f fd ps (spI K (fR N.length ps.length b)):=by
 refine F.ok S (λo H Q E h=>?_) λj A outer s H o Q E M h=>?_
 ·obtain⟨φ,st,ws,r,e,rw,_⟩:=h
  rw[fR]at e;by_cases l:ws.length=ps.length
  ·rw[<-rw.length,l]
  ·rw[iFN l]at e;cases e
 ·obtain⟨φ,t,ws,r,e,rw,S',q⟩:=h
  rw[fR]at e;by_cases l:ws.length=ps.length
  ·rw[iFP l]at e
   obtain⟨fl,O,p⟩:=qac.mp e;refine⟨_,(hb j A outer s H E M).run _ _ _ O,φ,nF rw l,S',?_⟩;have less:∀ {H':Hp}{c:List Addr}{s':Sto},Fw φ c H H'->Sr K H' c s'->Sr K H' φ (s'.take t.length):=λ{H' c s'} n S2=>by
    obtain⟨ψ,rfl,_⟩:=n.ext;rw[<-S'.len];exact S2.less
   cases fl with
   |nx e s=>cases p;exact λJ H' c n e' s'=>q .non H' φ n.less (less n s') U
   |rt w s=>
    intro v H' c n s' C;have B:zh t.length w s=some r:=p;obtain⟨ψ,u,_⟩:=n.ext;cases w with
    |d x=>
     cases B;subst u;exact q v H' φ n.less (less n s') (Rl.less C)
    |h m=>
     obtain⟨a,D,rfl⟩:=C;unfold zh at B;by_cases hm:m<t.length
     ·have e4:=by
       have:=B
       simp only[hm,if_true]at this;exact this
      cases e4;subst u;rw[qaG (by rw[S'.len];exact hm)]at D;exact q _ H' φ n.less (less n s') ⟨a,D,U⟩
     ·simp only[hm,if_false]at B
      obtain⟨ds,I,rfl⟩:=qad.mp B;obtain⟨o,hv,rl⟩:=s'.atl m a ds D I;have hn:a∉φ:=λz=>by
       obtain⟨i,hi,ei⟩:=qcy.mp z;have T:c[i]?=some a:=by subst u;rw[qaG hi,qam hi,ei]
       obtain⟨h2,L⟩:=qar.mp T;obtain⟨h3,R⟩:=qar.mp D
       have:=(qdO s'.nd).mp (L.trans R.symm)
       rw[S'.len]at hi;lia
      subst u;exact q _ H' φ n.less (less n s') ⟨a,o,U,hn,.inl hv,rl.less⟩
   |bk e s=>cases p
   |ct e s=>cases p
  ·rw[iFN l]at e;cases e
end
def cK:D->Bool
 |.non=>true
 |.bl _=>true
 |.int _=>true
 |.str _=>true
 |_=>false
def vOf:D->V
 |.bl b=>.bl b
 |.int i=>.int i
 |.str x=>.str x
 |_=>.non
mutual
def eqD:D->D->Bool
 |.non,.non=>true
 |.bl a,.bl b=>a==b
 |.bl a,.int b=>(if a then 1 else 0)==b
 |.int a,.bl b=>a==(if b then 1 else 0)
 |.int a,.int b=>a==b
 |.str a,.str b=>a==b
 |.tup as,.tup bs=>dz as bs
 |.lst as,.lst bs=>dz as bs
 |_,_=>false
def dz:List D->List D->Bool
 |[],[]=>true
 |a::as,b::bs=>eqD a b&&dz as bs
 |_,_=>false
end
def okD:Nat->D->Bool
 |_,.non=>true
 |_,.bl _=>true
 |_,.int _=>true
 |_,.str _=>true
 |n+1,.tup ds=>ds.all (okD n)
 |n+1,.lst ds=>ds.all (okD n)
 |_,_=>false
def lsD (st:Sto):W->Option (List D)
 |.d (.lst ds)=>some ds
 |.h n=>lg st n
 |_=>none
def bf (st:Sto) (x y:W):Option D:=match x,y with
 |.d (.int i),.d (.int j)=>some (.int (i+j))
 |.d (.tup a),.d (.tup b)=>if a.length+b.length<=1000000 then some (.tup (a++b)) else none
 |.d (.str a),.d (.str b)=>if a.length+b.length<=1000000 then some (.str (a++b)) else none
 |x,y=>(lsD st x).bind λa=>(lsD st y).bind λb=>if a.length+b.length<=1000000 then some (.lst (a++b)) else none
def j6 (_:Sto):W->W->Option D
 |.d (.int i),.d (.int j)=>some (.int (i - j))
 |_,_=>none
instance (a b:Int):Decidable (qgv a b):=by unfold qgv;infer_instance
def a9 (_:Sto):W->W->Option D
 |.d (.int i),.d (.int j)=>if qgv i j then some (.int (i*j)) else none
 |.d (.tup a),.d (.int k)=>if a≠[]/\a.length<=1000/\0<=k/\k<1000 then some (.tup (qay k.toNat a).flatten) else none
 |.d (.lst a),.d (.int k)=>if a.length<=1000/\-1000<=k/\k<1000 then some (.lst (qay k.toNat a).flatten) else none
 |_,_=>none
def nu (_:Sto):W->W->Option D
 |.d (.int i),.d (.int j)=>if 0<j/\j<1073741824 then some (.int (i / j)) else none
 |_,_=>none
def gA (_:Sto):W->W->Option D
 |.d (.int i),.d (.int j)=>if 0<j then some (.int (i%j)) else none
 |_,_=>none
instance (i j:Int):Decidable (mR i j):=by unfold mR;infer_instance
def rm (_:Sto):W->W->Option D
 |.d (.int i),.d (.int j)=>if mR i j then some (.int (i^j.toNat)) else none
 |_,_=>none
def xU (_:Sto):W->W->Option D
 |.d (.int i),.d (.int j)=>if mR i j then some (.int (i*2^j.toNat)) else none
 |_,_=>none
def xV (_:Sto):W->W->Option D
 |.d (.int i),.d (.int j)=>if 0<=j then some (.int (i / 2^j.toNat)) else none
 |_,_=>none
def dLt (_:Sto):W->W->Option D
 |.d (.int i),.d (.int j)=>some (.bl (decide (i<j)))
 |_,_=>none
def dLe (_:Sto):W->W->Option D
 |.d (.int i),.d (.int j)=>some (.bl (decide (i<=j)))
 |_,_=>none
def dGt (_:Sto):W->W->Option D
 |.d (.int i),.d (.int j)=>some (.bl (decide (j<i)))
 |_,_=>none
def dGe (_:Sto):W->W->Option D
 |.d (.int i),.d (.int j)=>some (.bl (decide (j<=i)))
 |_,_=>none
def cw:D->Bool
 |.non=>true
 |_=>false
def iy (_:Sto):W->W->Option D
 |.d x,.d .non=>some (.bl (cw x))
 |_,_=>none
def nv (_:Sto):W->W->Option D
 |.d x,.d .non=>some (.bl (!cw x))
 |_,_=>none
def inD (x:D) (ds:List D):Bool:=ds.any λy=>eqD y x
def dIn (st:Sto) (x y:W):Option D:=match x with
 |.d x=>(gX st y).bind λds=>if cK x=true/\ds.all cK=true then some (.bl (inD x ds)) else none
 |_=>none
section
variable {K:qae}{X:Cx}
theorem gW {H:Hp}{φ:List Addr}{d:D}{v:V} (h:cK d=true) (r:Rl K H φ d v):v=vOf d/\fk v=true:=by
 cases d with
 |non=>cases (r);exact⟨U,U⟩
 |bl b=>cases (r);exact⟨U,U⟩
 |int b=>cases (r);exact⟨U,U⟩
 |str b=>cases (r);exact⟨U,U⟩
 |_=>cases h
theorem rC {a b:D} (G:cK a=true) (hb:cK b=true):eqV (vOf a) (vOf b)=eqD a b:=by
 cases a<;>cases b<;>first|rfl|(cases G;done)|(cases hb)|(done)
theorem uN {H:Hp}{φ:List Addr}:∀ {ds:List D}{m:List V},ds.all cK=true->Rls K H φ ds m->m=ds.map vOf/\m.all fk=true
 |[],_,_,h=>by cases h;exact⟨U,U⟩
 |d::ds,_,h,r=>by
  rw[qbw,qbi]at h;obtain⟨v,M,rfl,k,l⟩:=r;obtain⟨u,s⟩:=gW h.1 k;obtain⟨w,t⟩:=uN h.2 l;exact⟨by rw[u,w];rfl,by rw[qbw,s,t];rfl⟩
theorem wy {x:D} (A:cK x=true):∀ {ds:List D},ds.all cK=true->inV (vOf x) (ds.map vOf)=inD x ds
 |[],_=>rfl
 |d::ds,h=>by
  rw[qbw,qbi]at h;have z:=wy A h.2;unfold inV inD at z ⊢;rw[qaw,qcj,qcj,z,rC h.1 A]
theorem Eb {f:Value->Value->Sem Value}{g:Sto->W->W->Option D} (h:∀ st x y d,g st x y=some d->∃ i j,x=.d (.int i)/\y=.d (.int j)/\OpR X f (λo n H Q=>o=.int i/\n=.int j/\Q (vOf d) H)/\cK d=true):OpD K X f g:=by
 refine⟨λst x y d hd=>?_⟩;obtain⟨i,j,rfl,rfl,L,J⟩:=h st x y d hd;refine L.imp ?_
 rintro o n H Q ⟨φ,S,k,l,q⟩
 refine⟨k,l,q _ H (aR.refl H) ?_⟩;cases d<;>first|rfl|cases J
theorem w2 {x y:W}{d:D}{F:Int->Int->Option D} (h:(match x,y with|.d (.int i),.d (.int j)=>F i j|_,_=>none)=some d):∃ i j,x=.d (.int i)/\y=.d (.int j)/\F i j=some d:=by
 split at h
 ·exact⟨_,_,U,U,h⟩
 ·cases h
theorem ifS {c:Prop} [Decidable c] {a d:D} (h:(if c then some a else none)=some d):c/\a=d:=by
 split at h
 ·rename_i q
  exact⟨q,qaN h⟩
 ·cases h
theorem hU {f:Value->Value->Sem Value}{g:Sto->W->W->Option D}{F:Int->Int->Option D} (e:∀ st x y,g st x y=match x,y with|.d (.int i),.d (.int j)=>F i j|_,_=>none) (h:∀ i j d,F i j=some d->OpR X f (λo n H Q=>o=.int i/\n=.int j/\Q (vOf d) H)/\cK d=true):OpD K X f g:=Eb λst x y d hd=>by
 rw[e]at hd;obtain⟨i,j,rfl,rfl,hd⟩:=w2 hd;exact⟨i,j,U,U,h i j d hd⟩
theorem o0:OpD K X (qbI .Sub) j6:=hU (λ_ _ _=>rfl) λi j d h=>by cases h;exact⟨Eo.imp λ_ _ _ _ q=>⟨i,j,q⟩,U⟩
theorem qC:OpD K X (qbM .Lt) dLt:=hU (λ_ _ _=>rfl) λi j d h=>by cases h;exact⟨Gh.imp λ_ _ _ _ q=>⟨i,j,q⟩,U⟩
theorem uE:OpD K X (qbM .LtE) dLe:=hU (λ_ _ _=>rfl) λi j d h=>by cases h;exact⟨Gg.imp λ_ _ _ _ q=>⟨i,j,q⟩,U⟩
theorem uC:OpD K X (qbM .Gt) dGt:=hU (λ_ _ _=>rfl) λi j d h=>by cases h;exact⟨Gf.imp λ_ _ _ _ q=>⟨i,j,q⟩,U⟩
theorem uB:OpD K X (qbM .GtE) dGe:=hU (λ_ _ _=>rfl) λi j d h=>by cases h;exact⟨Ge.imp λ_ _ _ _ q=>⟨i,j,q⟩,U⟩
theorem kU:OpD K X (qbI .FloorDiv) nu:=hU (λ_ _ _=>rfl) λi j d h=>by obtain⟨c,rfl⟩:=ifS h;exact⟨BZ.imp λ_ _ _ _ q=>⟨i,j,q.1,q.2.1,c,q.2.2⟩,U⟩
theorem oV:OpD K X (qbI .Mod) gA:=hU (λ_ _ _=>rfl) λi j d h=>by obtain⟨c,rfl⟩:=ifS h;exact⟨Ek.imp λ_ _ _ _ q=>⟨i,j,q.1,q.2.1,c,q.2.2⟩,U⟩
theorem oX:OpD K X (qbI .Pow) rm:=hU (λ_ _ _=>rfl) λi j d h=>by obtain⟨c,rfl⟩:=ifS h;exact⟨El.imp λ_ _ _ _ q=>⟨i,j,q.1,q.2.1,c,q.2.2⟩,U⟩
theorem oY:OpD K X (qbI .LShift) xU:=hU (λ_ _ _=>rfl) λi j d h=>by obtain⟨c,rfl⟩:=ifS h;exact⟨Em.imp λ_ _ _ _ q=>⟨i,j,q.1,q.2.1,c,q.2.2⟩,U⟩
theorem oZ:OpD K X (qbI .RShift) xV:=hU (λ_ _ _=>rfl) λi j d h=>by obtain⟨c,rfl⟩:=ifS h;exact⟨En.imp λ_ _ _ _ q=>⟨i,j,q.1,q.2.1,c,q.2.2⟩,U⟩
theorem AD {H:Hp}{φ:List Addr}{d:D}{v:V} (r:Rl K H φ d v):decide (v=.non)=cw d:=by
 cases d with
 |non=>cases (r);rfl
 |bl b=>cases (r);rfl
 |int b=>cases (r);rfl
 |str b=>cases (r);rfl
 |ty b=>cases (r);rfl
 |dct=>obtain⟨a,rfl,_⟩:=r;rfl
 |scr ns=>obtain⟨a,rfl,_⟩:=r;rfl
 |tup ds=>obtain⟨a,m,rfl,_⟩:=r;rfl
 |lst ds=>obtain⟨a,m,rfl,_⟩:=r;rfl
 |ob ns ds=>obtain⟨a,_,_,_,m,rfl,_⟩:=r;rfl
theorem oT:OpD K X (qbM .Is) iy:=by
 refine⟨λst x y d h=>?_⟩
 match x,y,h with
 |.d x,.d .non,h=>
  cases h;refine Ei.imp ?_
  rintro o n H Q ⟨φ,S,k,l,q⟩
  refine⟨l,q _ H (aR.refl H) ?_⟩;rw[AD k];rfl
theorem kW:OpD K X (qbM .IsNot) nv:=by
 refine⟨λst x y d h=>?_⟩
 match x,y,h with
 |.d x,.d .non,h=>
  cases h;refine B1.imp ?_
  rintro o n H Q ⟨φ,S,k,l,q⟩
  refine⟨l,q _ H (aR.refl H) ?_⟩;rw[AD k];rfl
theorem uD (C:X.K=K:=by rfl):OpD K X (qbM .In) dIn:=by
 subst C;refine⟨λst x y d h=>?_⟩
 match x,h with
 |.d x,h=>
  simp only[dIn,qac]at h;obtain⟨ds,E,h⟩:=h;split at h
  ·rename_i p
   cases h;refine yx.imp ?_
   rintro o n H Q ⟨φ,S,k,l,q⟩
   obtain⟨a,m,rfl,B,I⟩:=jp S l E;obtain⟨u,s⟩:=gW p.1 k;obtain⟨w,t⟩:=uN p.2 I;refine⟨a,m,U,B,s,t,q _ H (aR.refl H) ?_⟩;rw[u,w,wy p.1 p.2];rfl
  ·cases h
end
section
variable {K:qae}{X:Cx}
theorem BX:OpR X (qbI .Add) (λx y H Q=>∃ l b xs zs,x=.ref l/\y=.ref b/\Rd H l (.lst xs)/\Rd H b (.lst zs)/\xs.length+zs.length<=qaL/\∀ p,H p=none->Q (.ref p) (upd H p (.lst (xs++zs)))):=by
 intro G s M H x y v u Q I rx ry h;obtain⟨l,b,xs,zs,rfl,rfl,hH,hB,hz,q⟩:=h;cases rx;cases ry;obtain⟨z,A,n,r,e⟩:=hH.ok I.hok;obtain⟨z2,N,n2,J,e2⟩:=hB.ok I.hok;have L:=r.length;have hl2:=J.length;refine PySem.P.add_list e e2 ?_ (by rw[qaH,qaH];lia);have ea:A.toArray++N.toArray=(A++N).toArray:=by simp
 rw[ea];exact⟨.ref _,_,I.lnew (r.append J) (by rw[qaB];lia),U,q _ I.fresh⟩
theorem z5:OpR X (qbI .Add) (λx y H Q=>∃ a b xs ys,x=.ref a/\y=.ref b/\SqT X.K H a xs/\SqT X.K H b ys/\xs.length+ys.length<=qaL/\
  (xs=[]->Q (.ref b) H)/\(ys=[]->Q (.ref a) H)/\∀ p,H p=none->Q (.ref p) (upd H p (.tup (xs++ys)))):=by
 intro G s M H x y v u Q I rx ry h;obtain⟨a,b,xs,ys,rfl,rfl,ha,hb,hz,q0,q1,q2⟩:=h;by_cases hx:xs=[]
 ·cases rx
  cases ry;obtain⟨A,O,p1,_⟩:=I.tuple ha;obtain⟨N,J,p2,_⟩:=I.tuple hb;obtain⟨⟨cls,dd,data,sl⟩,ho,hc,n,hd⟩:=id p1;obtain⟨⟨cls2,dd2,data2,sl2⟩,ho2,hc2,n2,hd2⟩:=id p2;subst hc hd hc2 hd2;exact qhI ⟨_,ho,U⟩ ⟨_,ho2,U⟩ qgm qhh qen qef (qd5 _ _)
   (tuple_addW0 a b A.toArray N.toArray n n2 dd dd2 sl sl2 (by simp[O.nil_iff.mpr hx])) ⟨ho,ho2,.ref b,H,I,U,q0 hx⟩
 ·exact BY G s M H _ _ v u Q I rx ry ⟨a,b,xs,ys,U,U,ha,hb,hx,hz,q1,λ_ p E=>q2 p E⟩
theorem rR {st:Sto}{H:Hp}{φ:List Addr}{w:W}{v:V}{ds:List D} (S:Sr K H φ st) (r:Rw K H φ w v) (e:lsD st w=some ds):∃ a g,v=.ref a/\Rd H a (.lst g)/\Rls K H φ ds g:=by
 cases w with
 |h n=>
  obtain⟨a,ea,rfl⟩:=r;obtain⟨g,q,rl⟩:=S.atl n a ds ea e;exact⟨a,g,U,.inl q,rl⟩
 |d x=>
  cases x with
  |lst es=>cases e;obtain⟨a,g,rfl,h0,C,B⟩:=r;exact⟨a,g,U,C,B⟩
  |_=>cases e
theorem mil:(1000000:Nat)<=qaL:=by decide
theorem i7 (hK:X.K=K:=by rfl):OpD K X (qbI .Add) bf:=by
 subst hK;refine⟨λst x y d h=>?_⟩;have T:(lsD st x).bind (λa=>(lsD st y).bind λb=>if a.length+b.length<=1000000 then some (.lst (a++b)) else none)=some d->OpR X _ (rD X.K st x y d):=λh=>by
  simp only[qac]at h;obtain⟨as,ha,bs,hb,h⟩:=h;split at h
  ·rename_i L
   cases h;refine BX.imp ?_
   rintro vx vy H Q ⟨φ,S,O,J,q⟩
   obtain⟨a,us,rfl,C,B⟩:=rR S O ha;obtain⟨b,g,rfl,h3,h4⟩:=rR S J hb;refine⟨a,b,us,g,U,U,C,h3,by rw[<-B.length,<-h4.length];exact qaV L mil,λp E=>q _ _ (aR.new E _) ?_⟩;exact⟨p,_,U,S.nin E,.inl upd_same,(B.append h4).fw S (Fw.new E)⟩
  ·cases h
 match x,y,h with
 |.d (.int i),.d (.int j),h=>
  cases h;refine Eg.imp ?_
  rintro vx vy H Q ⟨φ,S,O,J,q⟩
  exact⟨i,j,O,J,q _ H (aR.refl H) U⟩
 |.d (.tup as),.d (.tup bs),h=>
  simp only[bf]at h;split at h
  ·rename_i L
   cases h;refine z5.imp ?_
   rintro vx vy H Q ⟨φ,S,⟨a,us,rfl,C,B⟩,⟨b,g,rfl,h3,h4⟩,q⟩
   refine⟨a,b,us,g,U,U,(SqT.of C),(SqT.of h3),by rw[<-B.length,<-h4.length];exact qaV L mil,λe=>?_,λe=>?_,λp E=>?_⟩
   ·subst e
    have:as=[]:=by cases as with|nil=>rfl|cons _ _=>cases B.length
    subst this;exact q _ H (aR.refl H) ⟨b,g,U,h3,h4⟩
   ·subst e
    have:bs=[]:=by cases bs with|nil=>rfl|cons _ _=>cases h4.length
    subst this;exact q _ H (aR.refl H) ⟨a,us,U,C,by rw[qbf];exact B⟩
   ·exact q _ _ (aR.new E _) ⟨p,_,U,upd_same,(B.append h4).fw S (Fw.new E)⟩
  ·cases h
 |.d (.str as),.d (.str bs),h=>
  simp only[bf]at h;split at h
  ·rename_i L
   cases h;refine vT.imp ?_
   rintro vx vy H Q ⟨φ,S,O,J,q⟩
   exact⟨as,bs,O,J,qaV L mil,q _ H (aR.refl H) U⟩
  ·cases h
 |.d (.lst as),y,h=>exact T (by cases y with|h n=>exact h|d y=>cases y<;>exact h)
 |.h n,y,h=>exact T (by cases y with|h n=>exact h|d y=>cases y<;>exact h)
theorem wT:OpR X (qbI .Mult) (λx y H Q=>∃ l k xs,x=.ref l/\y=.int k/\Rd H l (.lst xs)/\-(2 ^ 63)<=k/\k < 2 ^ 63/\xs.length*k.toNat<=qaL/\
 ∀ p,H p=none->Q (.ref p) (upd H p (.lst (qay k.toNat xs).flatten))):=by
 intro G s M H x y v u Q I rx ry h;obtain⟨l,k,xs,rfl,rfl,hH,C,B,hz,q⟩:=h;cases rx;obtain⟨t,rfl⟩:=ry;obtain⟨z,A,n,r,e⟩:=hH.ok I.hok;have hlen:A.toArray.size*k.toNat<=qaL:=by rw[qaH,<-r.length];exact hz
 have hcap:¬ A.toArray.size*k.toNat > (2^63 - 1) / 8:=by
  have:(qaL)<=(2^63 - 1) / 8:=by decide
  lia
 have hfit:¬ (!Builtin.List.listFitsIndex k)=true:=by
  rw[qj2 C B];exact qaE
 have hlong:¬ qfo (A.toArray.size*k.toNat)=true:=by
  rw[zS hlen];exact qaE
 have hnew:qjT (λx1 x2=>x1++x2) #[] (qay (if A.toArray.isEmpty=true then 0 else k.toNat) A.toArray)=(qay k.toNat A).flatten.toArray:=by
  have f0:=λm=>by
   have:=lv A m []
   rw[qdX]at this;exact this
  rw[f0];cases A with
  |nil=>simp
  |cons a r'=>rw[iFN (by simp)]
 refine qgT (by decide) ⟨_,e,U⟩ (λs'=>qf1 s' k t) noFill_list_mul qiI qeW repeat_list qin.lookup
  (qcY qeW (qf1 s k t) qip (qh9 _ _) (int___rmul___int_list k t l A.toArray n)
    ⟨e,U,⟨_,e,U⟩,qcY F.slot_list_mul ⟨_,e,U⟩ F.entry_list_mul (F.args_list_mul_2 _ _) (AutoListH.list___mul___list_int_3 l A.toArray n k t hfit hcap hlong) ⟨e,?_⟩⟩)
 rw[hnew];exact⟨.ref _,_,I.lnew (r.rep k.toNat) (by rw[rP,qgY];exact hz),U,q _ I.fresh⟩
theorem oW (hK:X.K=K:=by rfl):OpD K X (qbI .Mult) a9:=by
 refine⟨λst x y d h=>?_⟩
 match x,y,h with
 |.d (.int i),.d (.int j),h=>
  simp only[a9]at h;split at h
  ·rename_i L
   cases h;refine B0.imp ?_
   rintro vx vy H Q ⟨φ,S,O,J,q⟩
   exact⟨i,j,O,J,L,q _ H (aR.refl H) U⟩
  ·cases h
 |.d (.tup as),.d (.int k),h=>
  simp only[a9]at h;split at h
  ·rename_i L
   cases h;refine B3.imp ?_
   rintro vx vy H Q ⟨φ,S,⟨a,us,rfl,C,B⟩,J,q⟩
   have hne:us≠[]:=by rintro rfl;cases as with|nil=>exact L.1 U|cons _ _=>cases B.length
   refine⟨a,k,us,U,J,(SqT.of C),hne,by rw[<-B.length];exact L.2.1,L.2.2.1,L.2.2.2,λe=>?_,λ_ p E=>?_⟩
   ·subst e
    exact q _ H (aR.refl H) ⟨a,us,U,C,by simpa using B⟩
   ·exact q _ _ (aR.new E _) ⟨p,_,U,upd_same,(B.rep _).fw S (Fw.new E)⟩
  ·cases h
 |.d (.lst as),.d (.int k),h=>
  simp only[a9]at h;split at h
  ·rename_i L
   cases h;refine wT.imp ?_
   rintro vx vy H Q ⟨φ,S,⟨a,us,rfl,h0,C,B⟩,J,q⟩
   refine⟨a,k,us,U,J,C,by lia,by lia,?_,λp E=>?_⟩
   ·rw[<-B.length]
    have:as.length*k.toNat<=1000*1000:=qdh L.1 (by lia)
    exact qaV this mil
   ·exact q _ _ (aR.new E _) ⟨p,_,U,S.nin E,.inl upd_same,(B.rep _).fw S (Fw.new E)⟩
  ·cases h
def dIx (st:Sto) (x y:W):Option D:=match x,y with
 |.d (.str z),.d (.int i)=>if z.length<=1000000 then (atI z.cps.toList i).map λc=>.str ⟨#[c]⟩ else none
 |x,.d (.int i)=>(gX st x).bind λds=>atI ds i
 |_,_=>none
theorem Dy {H:Hp}{φ:List Addr}{ds:List D}{g:List V}{i:Int}{d:D} (r:Rls K H φ ds g) (e:atI ds i=some d):∃ v,atI g i=some v/\Rl K H φ d v:=by
 unfold atI at e ⊢;rw[<-r.length];obtain⟨j,e1,e2⟩:=qac.mp e;obtain⟨v,ev,rv⟩:=r.get e2;exact⟨v,by rw[e1];exact ev,rv⟩
theorem IxR.imp {r r':R2} (h:IxR X r) (m:∀ x y H Q,r' x y H Q->r x y H Q):IxR X r':=λvalue slice G s M H x y v u Q I rx ry q hs=>h value slice G s M H x y v u Q I rx ry (m _ _ _ _ q) hs
theorem GV (st:Sto) (x y:W) (d:D) (h:dIx st x y=some d) (hK:X.K=K):IxR X (rD K st x y d):=by
 subst hK
 match y,h with
 |.d (.int i),h=>
  have seq:(gX st x).bind _=some d->IxR X (rD X.K st x (.d (.int i)) d):=λh=>by
   obtain⟨ds,e1,e2⟩:=qac.mp h;refine rM.imp ?_
   rintro vx vy H Q ⟨φ,S,O,J,q⟩
   obtain⟨a,g,rfl,C,B⟩:=jp S O e1;obtain⟨v,ev,rv⟩:=Dy B e2;rcases C with C|C
   ·exact .inl ⟨a,g,i,v,U,J,C,ev,q _ H (aR.refl H) rv⟩
   ·exact .inr (.inl ⟨a,g,i,v,U,J,C,ev,q _ H (aR.refl H) rv⟩)
  match x,h with
  |.d (.str z),h=>
   simp only[dIx]at h;split at h
   ·rename_i L
    obtain⟨c,e1,rfl⟩:=qad.mp h;refine rM.imp ?_
    rintro vx vy H Q ⟨φ,S,O,J,q⟩
    exact .inr (.inr ⟨z,i,c,O,J,qaV L mil,e1,q _ H (aR.refl H) U⟩)
   ·cases h
  |.d (.tup z),h=>exact seq h
  |.d (.lst z),h=>exact seq h
  |.d (.scr z),h=>exact seq h
  |.h z,h=>exact seq h
 |.d .non,h=>cases x with|h n=>cases h|d x=>cases x<;>cases h
 |.d (.ob _ _),h=>cases x with|h n=>cases h|d x=>cases x<;>cases h
 |.d (.bl _),h=>cases x with|h n=>cases h|d x=>cases x<;>cases h
 |.d (.str _),h=>cases x with|h n=>cases h|d x=>cases x<;>cases h
 |.d (.ty _),h=>cases x with|h n=>cases h|d x=>cases x<;>cases h
 |.d (.scr _),h=>cases x with|h n=>cases h|d x=>cases x<;>cases h
 |.d .dct,h=>cases x with|h n=>cases h|d x=>cases x<;>cases h
 |.d (.tup _),h=>cases x with|h n=>cases h|d x=>cases x<;>cases h
 |.d (.lst _),h=>cases x with|h n=>cases h|d x=>cases x<;>cases h
 |.h _,h=>cases x with|h n=>cases h|d x=>cases x<;>cases h
variable {e a b:Expr}{pos p2:Pos}{f fa fb:Ef}
theorem tW (ha:IE K X a fa) (hb:IE K X b fb) (hs:lN b=true:=by rfl) (hK:X.K=K:=by rfl):IE K X (.Subscript a b pos) (iOp dIx fa fb):=by
 refine⟨λenv st r Y=>?_⟩;simp only[iOp,qac,qad]at Y;obtain⟨x,hx,y,hy,d,hd,rfl⟩:=Y;exact (Aa (GV _ _ _ _ hd hK) (ha.run _ _ _ hx) (hb.run _ _ _ hy) (ot hs)).imp λM H Q h=>sq h
abbrev Pf:=Ev->Sto->Option (Option Int×Sto)
def iPn:Pf
 |_,st=>some (none,st)
def FN:W->Option Int
 |.d (.int i)=>some i
 |_=>none
theorem ye {w:W}{i:Int} (h:FN w=some i):w=.d (.int i):=by
 cases w with
 |h n=>cases h
 |d x=>cases x<;>first|(cases h;done)|(injection h with h;subst h;rfl)
def iPs (f:Ef):Pf
 |env,st=>(f env st).bind λr=>(FN r.1).map λi=>(some i,r.2)
def tIO (K:qae) (env:Ev) (st:Sto) (r:Option Int×Sto):TO:=λM H Q=>∃ φ,Er K H φ env M/\Sr K H φ st/\∀ H' φ',Fw φ φ' H H'->Sr K H' φ' r.2->Q r.1 H'
structure IO (K:qae) (X:Cx) (e:Option Expr) (f:Pf):Prop where
 run:∀ env st r,f env st=some r->PO X e (tIO K env st r)
theorem PO.imp {e:Option Expr}{t t':TO} (h:PO X e t) (m:∀ M H Q,t' M H Q->t M H Q):PO X e t':=λG s M H Q I q=>h G s M H Q I (m M H Q q)
theorem kq:IO K X none iPn:=by
 refine⟨λenv st r Y=>?_⟩;cases Y;exact Cc.imp λM H Q ⟨φ,hE,P,q⟩=>q H φ (Fw.refl φ H) P
theorem ku (h:IE K X e f):IO K X (some e) (iPs f):=by
 refine⟨λenv st r Y=>?_⟩;simp only[iPs,qac,qad]at Y;obtain⟨⟨x,s1⟩,hx,i,hi,rfl⟩:=Y;cases ye hi;refine (Cd (h.run _ _ _ hx)).imp ?_
 rintro M H Q ⟨φ,hE,P,q⟩
 exact⟨φ,hE,P,λv H1 R f1 s1 w1=>⟨i,w1,q H1 R f1 s1⟩⟩
def jI (xs:List D) (lo hi:Option Int):List D:=(xs.drop (HT.sIx xs.length 0 lo)).take (HT.sIx xs.length xs.length hi - HT.sIx xs.length 0 lo)
theorem wo {H:Hp}{φ:List Addr}{ds:List D}{g:List V} (r:Rls K H φ ds g) (lo hi:Option Int):Rls K H φ (jI ds lo hi) (vh g lo hi):=by
 unfold jI vh;rw[r.length];exact (r.drop _).take _
def dSl (st:Sto) (x:W) (lo hi:Option Int):Option D:=match x with
 |.d (.tup ds)=>some (.tup (jI ds lo hi))
 |.d (.lst ds)=>some (.lst (jI ds lo hi))
 |.h n=>(lg st n).map λds=>.lst (jI ds lo hi)
 |.d (.scr ns)=>some (.lst (jI (ns.map D.int) lo hi))
 |_=>none
def iSl (f:Ef) (lo hi:Pf):Ef
 |env,st=>(f env st).bind λx=>(lo env x.2).bind λl=>(hi env l.2).bind λu=>(dSl u.2 x.1 l.1 u.1).map λd=>(.d d,u.2)
theorem tY {lo hi:Option Expr}{fl fh:Pf} (h:IE K X e f) (L:IO K X lo fl) (hh:IO K X hi fh) (hK:X.K=K:=by rfl):IE K X (.Subscript e (.Slice lo hi none p2) pos) (iSl f fl fh):=by
 subst hK;refine⟨λenv st r Y=>?_⟩;simp only[iSl,qac,qad]at Y;obtain⟨⟨x,s1⟩,hx,l,hl',u,hu',d,hd,rfl⟩:=Y;have list:(∀ {H:Hp}{φ:List Addr}{v:V},Sr X.K H φ u.2->Rw X.K H φ x v->∃ a g ds,v=.ref a/\SqL X.K H a g/\Rls X.K H φ ds g/\d=.lst (jI ds l.1 u.1))->PE X (.Subscript e (.Slice lo hi none p2) pos) (tI X.K env st (.d d,u.2)):=λhq=>by
  refine (uI CC (h.run _ _ _ hx) (L.run _ _ _ hl') (hh.run _ _ _ hu')).imp ?_
  rintro M H Q ⟨φ,hE,P,q⟩
  refine⟨φ,hE,P,λv H1 R f1 s1 w1=>⟨R,hE.fw P f1,s1,λH2 φ2 f2 s2=>⟨φ2,(hE.fw P f1).fw s1 f2,s2,λH3 φ3 f3 s3=>?_⟩⟩⟩;obtain⟨a,g,ds,rfl,C,B,rfl⟩:=hq s3 ((w1.fw s1 f2).fw s2 f3);refine⟨a,g,U,C,λp E=>q _ _ φ3 (((f1.trans f2).trans f3).trans (Fw.new E)) (s3.new E) ?_⟩;exact⟨p,_,U,s3.nin E,.inl upd_same,(wo B _ _).fw s3 (Fw.new E)⟩
 match x,hd with
 |.d (.tup ds),hd=>
  cases hd;refine (uI (DX U) (h.run _ _ _ hx) (L.run _ _ _ hl') (hh.run _ _ _ hu')).imp ?_
  rintro M H Q ⟨φ,hE,P,q⟩
  refine⟨φ,hE,P,λv H1 R f1 s1 w1=>⟨R,hE.fw P f1,s1,λH2 φ2 f2 s2=>⟨φ2,(hE.fw P f1).fw s1 f2,s2,λH3 φ3 f3 s3=>?_⟩⟩⟩;obtain⟨a,g,rfl,C,B⟩:=(w1.fw s1 f2).fw s2 f3;refine⟨a,g,U,(SqT.of C),?_⟩;by_cases hc:HT.sIx g.length 0 l.1=0/\HT.sIx g.length g.length u.1=g.length
  ·refine .inr ⟨hc,q _ _ φ3 ((f1.trans f2).trans f3) s3 ⟨a,g,U,C,?_⟩⟩
   have e:jI ds l.1 u.1=ds:=by
    unfold jI;rw[B.length,hc.1,hc.2,qgi,qgX,<-B.length,qcM]
   rw[e];exact B
  ·exact .inl ⟨hc,λp E=>q _ _ φ3 (((f1.trans f2).trans f3).trans (Fw.new E)) (s3.new E) ⟨p,_,U,upd_same,(wo B _ _).fw s3 (Fw.new E)⟩⟩
 |.d (.lst ds),hd=>
  cases hd;refine list λ{H φ v} S w=>?_;obtain⟨a,g,rfl,h0,C,B⟩:=w;exact⟨a,g,ds,U,.inl C,B,U⟩
 |.d (.scr ns),hd=>
  cases hd;refine list λ{H φ v} S w=>?_;obtain⟨a,rfl,h⟩:=w;refine⟨a,_,_,U,?_,Rls.of_ints ns,U⟩;rcases h with⟨o,h⟩|h
  ·exact .inl (.inr ⟨o,h⟩)
  ·exact .inr h
 |.h n,hd=>
  obtain⟨ds,e1,rfl⟩:=qad.mp hd;refine list λ{H φ v} S w=>?_;obtain⟨a,ea,rfl⟩:=w;obtain⟨g,q,rl⟩:=S.atl n a ds ea e1;exact⟨a,g,ds,U,SqL.of q,rl,U⟩
end
section
variable {K:qae}{X:Cx}{T:List (Addr×Obj)}{σ:St}{H:Hp}{s:qaj}{φ:List Addr}{st:Sto}
theorem eG:∀ (xs P:List D),((qak (min xs.length P.length)).all (λj=>eqD (xs.getD j .non) (P.getD j .non))&&xs.length==P.length)=dz xs P
 |[],[]=>rfl
 |[],y::P=>by simp[dz]
 |x::xs,[]=>by simp[dz]
 |x::xs,y::P=>by
  show ((qak (min (xs.length+1) (P.length+1))).all _&&(xs.length+1==P.length+1))=(eqD x y&&dz xs P);rw[show min _ _=min xs.length P.length+1 by lia,mV,<-eG xs P];have e:(xs.length+1==P.length+1)=(xs.length==P.length):=by simp
  rw[e,Bool.and_assoc];rfl
theorem jz {xs P:List D} (h:xs.length=P.length):(qak xs.length).all (λj=>eqD (xs.getD j .non) (P.getD j .non))=dz xs P:=by
 rw[<-eG xs P,<-h,qjA];simp
theorem tw:∀ {xs P:List D},xs.length≠P.length->dz xs P=false
 |[],[],h=>absurd U h
 |[],_::_,_=>rfl
 |_::_,[],_=>rfl
 |x::xs,y::P,h=>by
  show (eqD x y&&dz xs P)=false;rw[tw (by intro e;apply h;rw[qaq,qaq,e]),Bool.and_false]
theorem Cu (I:Inv X T σ H s) {a:Addr}{E ws:List V} (h:Rd H a (.lst E)) (h':Rd H a (.lst ws)):E=ws:=I.list_inj (.inl h) (.inl h')
theorem wu (I:Inv X T σ H s):∀ (n:Nat) {d e:D}{v:V},Rl X.K H φ d v->Rl X.K H φ e v->okD n d=true->okD n e=true->eqD d e=true:=by
 intro n
 induction n with
 |zero=>
  intro d e v m l N F;cases d<;>first|(cases N;done)|skip
  all_goals (cases e<;>first|(cases F;done)|skip)
  all_goals (first|rfl|(cases m.symm.trans l;done)|(cases m.symm.trans l;simp[eqD]))
 |succ n ih=>
  have lists:∀ {ds es:List D}{E:List V},Rls X.K H φ ds E->Rls X.K H φ es E->(∀ d∈ds,okD n d=true)->(∀ d∈es,okD n d=true)->dz ds es=true:=by
   intro ds
   induction ds with
   |nil=>
    intro es E m l _ _;cases m;cases es with
    |nil=>rfl
    |cons e es=>obtain⟨_,_,q,_⟩:=l;cases q
   |cons d ds ihd=>
    intro es E m l N F;obtain⟨v,r,rfl,a1,a2⟩:=m;cases es with
    |nil=>cases l
    |cons e es=>
     obtain⟨v',r',q,b1,b2⟩:=l;cases q;show (eqD d e&&dz ds es)=true;rw[ih a1 b1 (N d qag) (F e qag),ihd a2 b2 (λx hx=>N x (qai _ hx)) (λx hx=>F x (qai _ hx))];rfl
  intro d e v m l N F;cases d with
  |tup ds=>
   obtain⟨a,E,rfl,O,M⟩:=m;cases e with
   |tup es=>
    obtain⟨b,J,q,o,B⟩:=l;cases q;rw[I.tuple_inj (SqT.of o) (SqT.of O)]at B;exact lists M B (qbb.mp N) (qbb.mp F)
   |lst es=>
    obtain⟨b,J,q,_,o,B⟩:=l;cases q;obtain⟨_,_,p1,_⟩:=I.tuple (SqT.of O);obtain⟨_,_,f,_⟩:=I.list (.inl o);exact absurd U (qgs f.isList p1)
   |_=>first|(cases F;done)|(cases l)
  |lst ds=>
   obtain⟨a,E,rfl,h0,O,M⟩:=m;cases e with
   |lst es=>
    obtain⟨b,J,q,_,o,B⟩:=l;cases q;rw[Cu I o O]at B;exact lists M B (qbb.mp N) (qbb.mp F)
   |tup es=>
    obtain⟨b,J,q,o,B⟩:=l;cases q;obtain⟨_,_,p1,_⟩:=I.tuple (SqT.of o);obtain⟨_,_,f,_⟩:=I.list (.inl O);exact absurd U (qgs f.isList p1)
   |_=>first|(cases F;done)|(cases l)
  |non=>cases e<;>first|rfl|(cases F;done)|(cases m.symm.trans l)|(cases m;obtain⟨_,_,q,_⟩:=l;cases q)
  |bl b=>cases e<;>first|(cases F;done)|(cases m.symm.trans l;simp[eqD])|(cases m.symm.trans l)|(cases m;obtain⟨_,_,q,_⟩:=l;cases q)
  |int b=>cases e<;>first|(cases F;done)|(cases m.symm.trans l;simp[eqD])|(cases m.symm.trans l)|(cases m;obtain⟨_,_,q,_⟩:=l;cases q)
  |str b=>cases e<;>first|(cases F;done)|(cases m.symm.trans l;simp[eqD])|(cases m.symm.trans l)|(cases m;obtain⟨_,_,q,_⟩:=l;cases q)
  |ty b=>cases N
  |scr b=>cases N
  |dct=>cases N
  |ob _ _=>cases N
theorem ef {ds:List D}{E:List V}{J:List Value} (r:Rls K H φ ds E) (Y:aI E J):∀ (j:Nat) (h:j<J.length),∃ v,Rl K H φ (ds.getD j .non) v/\aP v J[j]/\ds.getD j .non∈ds:=by
 intro j h;obtain⟨h',q⟩:=Y.at j h;have hd:j<ds.length:=by rw[r.length];exact h'
 have e:=qam hd;obtain⟨v,ev,rl⟩:=r.get e;rw[qam h']at ev;cases ev;refine⟨_,?_,q,?_⟩
 ·rw[qfV,e];exact rl
 ·rw[qfV,e];exact qbQ hd
theorem ze (I:Inv X T σ H s):∀ (n:Nat) {A:qa1}{d e:D}{v u:V}{vv uu:Value},Rl X.K H φ d v->Rl X.K H φ e u->aP v vv->aP u uu->okD n d=true->okD n e=true->A.units+n<cLine->qdy A s vv uu (eqD d e):=by
 have flat:∀ {A:qa1}{d e:D}{v u:V}{vv uu:Value},cK d=true->cK e=true->Rl X.K H φ d v->Rl X.K H φ e u->aP v vv->aP u uu->qdy A s vv uu (eqD d e):=by
  intro A d e v u vv uu f1 f2 m l q1 L;obtain⟨R,g1⟩:=gW f1 m;obtain⟨e2,g2⟩:=gW f2 l;rw[<-rC f1 f2,<-R,<-e2];exact vo q1 L g1 g2
 intro n
 induction n with
 |zero=>
  intro A d e v u vv uu m l q1 L N F hu;refine flat ?_ ?_ m l q1 L
  ·cases d<;>first|rfl|cases N
  ·cases e<;>first|rfl|cases F
 |succ n ih=>
  intro A d e v u vv uu m l q1 L N F hu;have c:A.units<cLine:=by lia
  have hu1:A.in1.units+n<cLine:=by show A.units+1+n<cLine;lia
  cases d with
  |tup ds=>
   obtain⟨a,E,rfl,O,M⟩:=m;cases q1;obtain⟨G,Y,p1,_⟩:=I.tuple (SqT.of O);cases e with
   |tup es=>
    obtain⟨b,J,rfl,o,B⟩:=id l;cases L;by_cases hab:a=b
    ·subst hab
     rw[wu I (n+1) (d:=.tup ds) ⟨a,E,U,O,M⟩ l N F];exact qfg _
    ·obtain⟨g,p,f,_⟩:=I.tuple (SqT.of o)
     have z:=qeU (A:=A) p1 f c λj g1 g2=>by
      obtain⟨v1,k1,k2,k3⟩:=ef M Y j (by simpa using g1);obtain⟨v2,k4,k5,k6⟩:=ef B p j (by simpa using g2);exact ih k1 k4 (by simpa using k2) (by simpa using k5) (qbb.mp N _ k3) (qbb.mp F _ k6) hu1
     have R:G.toArray.size=ds.length:=by simp[<-Y.length,M.length]
     have e2:g.toArray.size=es.length:=by simp[<-p.length,B.length]
     rw[R,e2,eG]at z;exact qeE hab z
   |lst es=>
    obtain⟨b,J,rfl,_,o,B⟩:=id l;cases L;obtain⟨g,p,f,_⟩:=I.list (.inl o);exact qkG p1 f.isList c
   |non=>cases l;cases L;exact qkF p1 c
   |bl x=>cases l;cases L;exact qkI x p1 c
   |int x=>cases l;obtain⟨t,rfl⟩:=L;exact qkH x t p1 c
   |str x=>cases l;obtain⟨t,rfl⟩:=L;exact qkE x t p1 c
   |ty _=>cases F
   |scr _=>cases F
   |dct=>cases F
   |ob _ _=>cases F
  |lst ds=>
   obtain⟨a,E,rfl,h0,O,M⟩:=m;cases q1;obtain⟨G,Y,p1,_⟩:=I.list (.inl O);cases e with
   |lst es=>
    obtain⟨b,J,rfl,_,o,B⟩:=id l;cases L;by_cases hab:a=b
    ·subst hab
     rw[wu I (n+1) (d:=.lst ds) ⟨a,E,U,h0,O,M⟩ l N F];exact qfg _
    ·obtain⟨g,p,f,_⟩:=I.list (.inl o)
     have R:G.toArray.size=ds.length:=by simp[<-Y.length,M.length]
     have e2:g.toArray.size=es.length:=by simp[<-p.length,B.length]
     by_cases hl:ds.length=es.length
     ·have z:=qgE (A:=A) p1.isList f.isList (by rw[R,e2,hl]) c λj g1 g2=>by
       obtain⟨v1,k1,k2,k3⟩:=ef M Y j (by simpa using g1);obtain⟨v2,k4,k5,k6⟩:=ef B p j (by simpa using g2);exact ih k1 k4 (by simpa using k2) (by simpa using k5) (qbb.mp N _ k3) (qbb.mp F _ k6) hu1
      rw[R,jz hl]at z;exact qeE hab z
     ·show qdy A s _ _ (dz ds es)
      rw[tw hl];exact qeE hab (qfv (A:=A) p1.isList f.isList (by rw[R,e2];simpa using hl) c)
   |tup es=>
    obtain⟨b,J,rfl,o,B⟩:=id l;cases L;obtain⟨g,p,f,_⟩:=I.tuple (SqT.of o);exact qkT p1.isList f c
   |non=>cases l;cases L;exact qkV p1.isList c
   |bl x=>cases l;cases L;exact qkX x p1.isList c
   |int x=>cases l;obtain⟨t,rfl⟩:=L;exact qkW x t p1.isList c
   |str x=>cases l;obtain⟨t,rfl⟩:=L;exact qkU x t p1.isList c
   |ty _=>cases F
   |scr _=>cases F
   |dct=>cases F
   |ob _ _=>cases F
  |non=>
   cases m;cases q1;cases e with
   |tup es=>obtain⟨b,J,rfl,o,B⟩:=l;cases L;obtain⟨_,_,f,_⟩:=I.tuple (SqT.of o);exact qkO f c
   |lst es=>obtain⟨b,J,rfl,_,o,B⟩:=l;cases L;obtain⟨_,_,f,_⟩:=I.list (.inl o);exact qkQ f.isList c
   |_=>first|(cases F;done)|exact flat U U (d:=.non) U l (v:=.non) U L
  |bl x=>
   cases m;cases q1;cases e with
   |tup es=>obtain⟨b,J,rfl,o,B⟩:=l;cases L;obtain⟨_,_,f,_⟩:=I.tuple (SqT.of o);exact qk2 x f c
   |lst es=>obtain⟨b,J,rfl,_,o,B⟩:=l;cases L;obtain⟨_,_,f,_⟩:=I.list (.inl o);exact qk5 x f.isList c
   |_=>first|(cases F;done)|exact flat U U (d:=.bl x) U l (v:=.bl x) U L
  |int x=>
   cases m;obtain⟨t1,rfl⟩:=q1;cases e with
   |tup es=>obtain⟨b,J,rfl,o,B⟩:=l;cases L;obtain⟨_,_,f,_⟩:=I.tuple (SqT.of o);exact qkY x t1 f c
   |lst es=>obtain⟨b,J,rfl,_,o,B⟩:=l;cases L;obtain⟨_,_,f,_⟩:=I.list (.inl o);exact qk0 x t1 f.isList c
   |_=>first|(cases F;done)|exact flat U U (d:=.int x) U l (v:=.int x) ⟨t1,U⟩ L
  |str x=>
   cases m;obtain⟨t1,rfl⟩:=q1;cases e with
   |tup es=>obtain⟨b,J,rfl,o,B⟩:=l;cases L;obtain⟨_,_,f,_⟩:=I.tuple (SqT.of o);exact qkJ x t1 f c
   |lst es=>obtain⟨b,J,rfl,_,o,B⟩:=l;cases L;obtain⟨_,_,f,_⟩:=I.list (.inl o);exact qkM x t1 f.isList c
   |_=>first|(cases F;done)|exact flat U U (d:=.str x) U l (v:=.str x) ⟨t1,U⟩ L
  |ty _=>cases N
  |scr _=>cases N
  |dct=>cases N
  |ob _ _=>cases N
theorem EN {A:qa1}{y x:V}{u v:Value} (ry:aP y u) (C:aP x v) (fy:fk y=true) (fx:fk x=true):qju A s u v (eqV y x):=by
 cases y with
 |non=>
  cases ry;cases x with
  |non=>cases C;exact qkj
  |bl b=>cases C;exact qkm b
  |int b=>obtain⟨t,rfl⟩:=C;exact qkl b t
  |str b=>obtain⟨t,rfl⟩:=C;exact qki b t
  |_=>cases fx
 |bl a=>
  cases ry;cases x with
  |non=>cases C;exact qkA a
  |bl b=>cases C;exact qkD a b
  |int b=>obtain⟨t,rfl⟩:=C;exact qkC a b t
  |str b=>obtain⟨t,rfl⟩:=C;exact qkz a b t
  |_=>cases fx
 |int a=>
  obtain⟨t',rfl⟩:=ry;cases x with
  |non=>cases C;exact qku a t'
  |bl b=>cases C;exact qkx a t' b
  |int b=>obtain⟨t,rfl⟩:=C;exact qkw a t' b t
  |str b=>obtain⟨t,rfl⟩:=C;exact qkt a t' b t
  |_=>cases fx
 |str a=>
  obtain⟨t',rfl⟩:=ry;cases x with
  |non=>cases C;exact qkd a t'
  |bl b=>cases C;exact qkg a t' b
  |int b=>obtain⟨t,rfl⟩:=C;exact qkf a t' b t
  |str b=>obtain⟨t,rfl⟩:=C;exact qkc a t' b t
  |_=>cases fx
 |_=>cases fy
theorem AB {A:qa1}{y x:V}{u v:Value} (ry:aP y u) (C:aP x v) (fy:fk y=true) (fx:fk x=true):qih A s u v (!eqV y x):=by
 cases y with
 |non=>
  cases ry;cases x with
  |non=>cases C;exact qi7
  |bl b=>cases C;exact qja b
  |int b=>obtain⟨t,rfl⟩:=C;exact qi9 b t
  |str b=>obtain⟨t,rfl⟩:=C;exact qi6 b t
  |_=>cases fx
 |bl a=>
  cases ry;cases x with
  |non=>cases C;exact qjq a
  |bl b=>cases C;exact qjt a b
  |int b=>obtain⟨t,rfl⟩:=C;exact qjs a b t
  |str b=>obtain⟨t,rfl⟩:=C;exact qjp a b t
  |_=>cases fx
 |int a=>
  obtain⟨t',rfl⟩:=ry;cases x with
  |non=>cases C;exact qjk a t'
  |bl b=>cases C;exact qjn a t' b
  |int b=>obtain⟨t,rfl⟩:=C;exact qjm a t' b t
  |str b=>obtain⟨t,rfl⟩:=C;exact qjj a t' b t
  |_=>cases fx
 |str a=>
  obtain⟨t',rfl⟩:=ry;cases x with
  |non=>cases C;exact qi1 a t'
  |bl b=>cases C;exact qi4 a t' b
  |int b=>obtain⟨t,rfl⟩:=C;exact qi3 a t' b t
  |str b=>obtain⟨t,rfl⟩:=C;exact qi0 a t' b t
  |_=>cases fx
 |_=>cases fy
inductive Kin where
 |fl (d:D)|tp (ds:List D)|ls (ds:List D)
def ou (st:Sto):W->Option Kin
 |.d (.tup ds)=>some (.tp ds)
 |.d (.lst ds)=>some (.ls ds)
 |.h n=>(lg st n).map .ls
 |.d .non=>some (.fl .non)
 |.d (.bl b)=>some (.fl (.bl b))
 |.d (.int i)=>some (.fl (.int i))
 |.d (.str x)=>some (.fl (.str x))
 |_=>none
def eqK:Kin->Kin->Option Bool
 |.fl a,.fl b=>some (eqD a b)
 |.tp as,.tp bs=>if (as.isEmpty||bs.isEmpty)=true then some (as.isEmpty&&bs.isEmpty) else if as.all (okD 60)=true/\bs.all (okD 60)=true then some (dz as bs) else none
 |.ls as,.ls bs=>if as.length=bs.length then (if as.all (okD 60)=true/\bs.all (okD 60)=true then some (dz as bs) else none) else some false
 |.fl _,.tp _=>some false
 |.tp _,.fl _=>some false
 |.fl _,.ls _=>some false
 |.ls _,.fl _=>some false
 |.tp _,.ls _=>some false
 |.ls _,.tp _=>some false
def dEq (st:Sto) (x y:W):Option D:=(ou st x).bind λa=>(ou st y).bind λb=>(eqK a b).map λk=>.bl k
def dNe (st:Sto) (x y:W):Option D:=(ou st x).bind λa=>(ou st y).bind λb=>(eqK a b).map λk=>.bl (!k)
def Du (K:qae) (H:Hp) (φ:List Addr):Kin->V->Prop
 |.fl d,v=>cK d=true/\Rl K H φ d v
 |.tp ds,v=>∃ a E,v=.ref a/\SqT K H a E/\Rls K H φ ds E
 |.ls ds,v=>∃ a E,v=.ref a/\Rd H a (.lst E)/\Rls K H φ ds E
theorem mJ {w:W}{v:V}{k:Kin} (S:Sr K H φ st) (r:Rw K H φ w v) (e:ou st w=some k):Du K H φ k v:=by
 cases w with
 |h n=>
  obtain⟨a,ea,rfl⟩:=r;obtain⟨ds,R,rfl⟩:=qad.mp e;obtain⟨E,q,rl⟩:=S.atl n a ds ea R;exact⟨a,E,U,.inl q,rl⟩
 |d x=>
  cases x with
  |tup es=>cases e;obtain⟨a,E,rfl,O,M⟩:=r;exact⟨a,E,U,SqT.of O,M⟩
  |lst es=>cases e;obtain⟨a,E,rfl,h0,O,M⟩:=r;exact⟨a,E,U,O,M⟩
  |non=>cases e;exact⟨U,r⟩
  |bl b=>cases e;exact⟨U,r⟩
  |int b=>cases e;exact⟨U,r⟩
  |str b=>cases e;exact⟨U,r⟩
  |_=>cases e
theorem DN {A:qa1}{k:Nat} (hr:bz k A):A.in1.units+60<cLine:=by
 have:=hr.un
 lia
theorem Az {k:Nat} (hr:bz k X.A) (I:Inv X T σ H s) {a b:Kin}{v u:V}{vv uu:Value}{r:Bool} (ra:Du X.K H φ a v) (rb:Du X.K H φ b u) (qa:aP v vv) (qb:aP u uu) (e:eqK a b=some r) :
  qju X.A s vv uu r/\qih X.A s vv uu (!r):=by
 have c:=hr.units0;have items:∀ {ds es:List D}{E J:List V}{G g:List Value},Rls X.K H φ ds E->Rls X.K H φ es J->aI E G->aI J g->ds.all (okD 60)=true->es.all (okD 60)=true->
   ∀ j (g1:j<G.toArray.size) (g2:j<g.toArray.size),qdy X.A.in1 s G.toArray[j] g.toArray[j] (eqD (ds.getD j .non) (es.getD j .non)):=by
  intro ds es E J G g M B Y p N F j g1 g2;obtain⟨v1,k1,k2,k3⟩:=ef M Y j (by simpa using g1);obtain⟨v2,k4,k5,k6⟩:=ef B p j (by simpa using g2);exact ze I 60 k1 k4 (by simpa using k2) (by simpa using k5) (qbb.mp N _ k3) (qbb.mp F _ k6) (DN hr)
 match a,b,e with
 |.fl d,.fl d',e=>
  cases e;obtain⟨f1,m⟩:=ra;obtain⟨f2,l⟩:=rb;obtain⟨R,g1⟩:=gW f1 m;obtain⟨e2,g2⟩:=gW f2 l;rw[<-rC f1 f2,<-R,<-e2];exact⟨EN qa qb g1 g2,AB qa qb g1 g2⟩
 |.tp ds,.tp es,e=>
  simp only[eqK]at e;obtain⟨a,E,rfl,O,M⟩:=ra;obtain⟨b,J,rfl,o,B⟩:=rb;cases qa;cases qb;obtain⟨G,Y,p1,_⟩:=I.tuple O;obtain⟨g,p,f,_⟩:=I.tuple o;have R:G.toArray.size=ds.length:=by simp[<-Y.length,M.length]
  have e2:g.toArray.size=es.length:=by simp[<-p.length,B.length]
  split at e
  ·rename_i hc
   cases e;have hv:∀ j (g1:j<G.toArray.size) (g2:j<g.toArray.size),qdy X.A.in1 s G.toArray[j] g.toArray[j] (eqD (ds.getD j .non) (es.getD j .non)):=λj g1 g2=>by
    rw[R]at g1;rw[e2]at g2;rw[qhY]at hc;rcases hc with hc|hc
    ·rw[qhQ.mp hc]at g1;exact absurd g1 (qc1 _)
    ·rw[qhQ.mp hc]at g2;exact absurd g2 (qc1 _)
   have z:=qeU (A:=X.A) p1 f c hv;have z':=qfT (A:=X.A) p1 f c hv;rw[R,e2,eG]at z z';have e3:dz ds es=(ds.isEmpty&&es.isEmpty):=by
    cases ds with
    |nil=>cases es<;>rfl
    |cons _ _=>cases es with
     |nil=>rfl
     |cons _ _=>cases hc
   rw[e3]at z z';exact⟨z,z'⟩
  ·split at e
   ·rename_i hc
    cases e;have z:=qeU (A:=X.A) p1 f c (items M B Y p hc.1 hc.2);have z':=qfT (A:=X.A) p1 f c (items M B Y p hc.1 hc.2);rw[R,e2,eG]at z z';exact⟨z,z'⟩
   ·cases e
 |.ls ds,.ls es,e=>
  simp only[eqK]at e;obtain⟨a,E,rfl,O,M⟩:=ra;obtain⟨b,J,rfl,o,B⟩:=rb;cases qa;cases qb;obtain⟨G,Y,p1,_⟩:=I.list (.inl O);obtain⟨g,p,f,_⟩:=I.list (.inl o);have R:G.toArray.size=ds.length:=by simp[<-Y.length,M.length]
  have e2:g.toArray.size=es.length:=by simp[<-p.length,B.length]
  split at e
  ·rename_i hl
   split at e
   ·rename_i hc
    cases e;have z:=qgE (A:=X.A) p1.isList f.isList (by rw[R,e2,hl]) c (items M B Y p hc.1 hc.2);have z':=qjc (A:=X.A) p1.isList f.isList (by rw[R,e2,hl]) c (items M B Y p hc.1 hc.2);rw[R,jz hl]at z z';exact⟨z,z'⟩
   ·cases e
  ·rename_i hl
   cases e;have z':=qjb (A:=X.A) p1.isList f.isList (by rw[R,e2];simpa using hl) c;exact⟨(qfv (A:=X.A) p1.isList f.isList (by rw[R,e2];simpa using hl) c),z'⟩
 |.fl d,.tp es,e=>
  cases e;obtain⟨f1,m⟩:=ra;obtain⟨b,J,rfl,o,B⟩:=rb;cases qb;obtain⟨g,p,f,_⟩:=I.tuple o;cases d with
  |non=>cases m;cases qa;exact⟨qkh f c,qi5 f c⟩
  |bl x=>cases m;cases qa;exact⟨qky x f c,qjo x f c⟩
  |int x=>cases m;obtain⟨t,rfl⟩:=qa;exact⟨qks x t f c,qji x t f c⟩
  |str x=>cases m;obtain⟨t,rfl⟩:=qa;exact⟨qkb x t f c,qiZ x t f c⟩
  |_=>cases f1
 |.tp es,.fl d,e=>
  cases e;obtain⟨f1,m⟩:=rb;obtain⟨b,J,rfl,o,B⟩:=ra;cases qa;obtain⟨g,p,f,_⟩:=I.tuple o;cases d with
  |non=>cases m;cases qb;exact⟨qj7 f c,qiV f c⟩
  |bl x=>cases m;cases qb;exact⟨qka x f c,qiY x f c⟩
  |int x=>cases m;obtain⟨t,rfl⟩:=qb;exact⟨qj9 x t f c,qiX x t f c⟩
  |str x=>cases m;obtain⟨t,rfl⟩:=qb;exact⟨qj6 x t f c,qiU x t f c⟩
  |_=>cases f1
 |.fl d,.ls es,e=>
  cases e;obtain⟨f1,m⟩:=ra;obtain⟨b,J,rfl,o,B⟩:=rb;cases qb;obtain⟨g,p,f,_⟩:=I.list (.inl o);replace f:=f.isList;cases d with
  |non=>cases m;cases qa;exact⟨qkk f c,qi8 f c⟩
  |bl x=>cases m;cases qa;exact⟨qkB x f c,qjr x f c⟩
  |int x=>cases m;obtain⟨t,rfl⟩:=qa;exact⟨qkv x t f c,qjl x t f c⟩
  |str x=>cases m;obtain⟨t,rfl⟩:=qa;exact⟨qke x t f c,qi2 x t f c⟩
  |_=>cases f1
 |.ls es,.fl d,e=>
  cases e;obtain⟨f1,m⟩:=rb;obtain⟨b,J,rfl,o,B⟩:=ra;cases qa;obtain⟨g,p,f,_⟩:=I.list (.inl o);replace f:=f.isList;cases d with
  |non=>cases m;cases qb;exact⟨qkp f c,qjf f c⟩
  |bl x=>cases m;cases qb;exact⟨qkr x f c,qjh x f c⟩
  |int x=>cases m;obtain⟨t,rfl⟩:=qb;exact⟨qkq x t f c,qjg x t f c⟩
  |str x=>cases m;obtain⟨t,rfl⟩:=qb;exact⟨qko x t f c,qje x t f c⟩
  |_=>cases f1
 |.tp ds,.ls es,e=>
  cases e;obtain⟨a,E,rfl,O,M⟩:=ra;obtain⟨b,J,rfl,o,B⟩:=rb;cases qa;cases qb;obtain⟨G,Y,p1,_⟩:=I.tuple O;obtain⟨g,p,f,_⟩:=I.list (.inl o);exact⟨qj8 p1 f.isList c,qiW p1 f.isList c⟩
 |.ls ds,.tp es,e=>
  cases e;obtain⟨a,E,rfl,O,M⟩:=ra;obtain⟨b,J,rfl,o,B⟩:=rb;cases qa;cases qb;obtain⟨G,Y,p1,_⟩:=I.list (.inl O);obtain⟨g,p,f,_⟩:=I.tuple o;exact⟨qkn p1.isList f c,qjd p1.isList f c⟩
theorem uA {k:Nat} (hr:bz k X.A) (hK:X.K=K:=by rfl):OpD K X (qbM .Eq) dEq:=by
 subst hK;refine⟨λst x y d h=>?_⟩;simp only[dEq,qac,qad]at h;obtain⟨a,ha,b,hb,r,e,rfl⟩:=h;intro T s σ H vx vy v u Q I C ry q;obtain⟨φ,S,m,l,q⟩:=q;exact (Az hr I (mJ S m ha) (mJ S l hb) C ry e).1 _ _ _ _ ⟨.bl r,H,I,U,q _ H (aR.refl H) U⟩
theorem uF {k:Nat} (hr:bz k X.A) (hK:X.K=K:=by rfl):OpD K X (qbM .NotEq) dNe:=by
 subst hK;refine⟨λst x y d h=>?_⟩;simp only[dNe,qac,qad]at h;obtain⟨a,ha,b,hb,r,e,rfl⟩:=h;intro T s σ H vx vy v u Q I C ry q;obtain⟨φ,S,m,l,q⟩:=q;exact (Az hr I (mJ S m ha) (mJ S l hb) C ry e).2 _ _ _ _ ⟨.bl _,H,I,U,q _ H (aR.refl H) U⟩
end
section
variable {K:qae}{X:Cx}
def aT:List D->Option (List Int)
 |[]=>some []
 |.int i::ds=>(aT ds).map λr=>i::r
 |_=>none
theorem bm:∀ {ds:List D}{ns:List Int},aT ds=some ns->ds=ns.map D.int
 |[],_,h=>by cases h;rfl
 |.int i::ds,_,h=>by
  obtain⟨r,e,rfl⟩:=qad.mp h;rw[bm e];rfl
 |.non::_,_,h=>by cases h
 |.bl _::_,_,h=>by cases h
 |.str _::_,_,h=>by cases h
 |.ty _::_,_,h=>by cases h
 |.dct::_,_,h=>by cases h
 |.scr _::_,_,h=>by cases h
 |.tup _::_,_,h=>by cases h
 |.lst _::_,_,h=>by cases h
theorem be:∀ (ns:List Int),aT (ns.map D.int)=some ns
 |[]=>rfl
 |n::ns=>by rw[qaw,aT,be ns];rfl
def lm:List D->Option (List Bool)
 |[]=>some []
 |.bl i::ds=>(lm ds).map λr=>i::r
 |_=>none
theorem lV:∀ {ds:List D}{ns:List Bool},lm ds=some ns->ds=ns.map D.bl
 |[],_,h=>by cases h;rfl
 |.bl i::ds,_,h=>by
  obtain⟨r,e,rfl⟩:=qad.mp h;rw[lV e];rfl
 |.non::_,_,h=>by cases h
 |.int _::_,_,h=>by cases h
 |.str _::_,_,h=>by cases h
 |.ty _::_,_,h=>by cases h
 |.dct::_,_,h=>by cases h
 |.scr _::_,_,h=>by cases h
 |.tup _::_,_,h=>by cases h
 |.lst _::_,_,h=>by cases h
theorem m8:∀ (ns:List Bool),lm (ns.map D.bl)=some ns
 |[]=>rfl
 |n::ns=>by rw[qaw,lm,m8 ns];rfl
def a8 (st:Sto):List W->Option D
 |[.d (.str x)]=>if x.length<=1000000 then some (.int x.length) else none
 |[w]=>(gX st w).map λds=>.int ds.length
 |_=>none
def vi (_:Sto):List W->Option D
 |[.d (.int i)]=>some (.int (if i<0 then -i else i))
 |_=>none
def Bp (_:Sto):List W->Option D
 |[.d (.int i)]=>some (.int i)
 |[.d (.bl k)]=>some (.int (if k then 1 else 0))
 |_=>none
def sU (_:Sto):List W->Option D
 |[.d (.lst ds)]=>(aT ds).map λns=>.int ns.sum
 |_=>none
def sS (_:Sto):List W->Option D
 |[.d (.lst ds)]=>(lm ds).map λns=>.bl (ns.all id)
 |_=>none
def gB (st:Sto):List W->Option D
 |[w]=>(gX st w).map λds=>.tup ds
 |_=>none
def ui (st:Sto):List W->Option (List D)
 |[w]=>gX st w
 |_=>none
def E6 (st:Sto):W->Option String
 |.d .non=>some "NoneType"
 |.d (.bl _)=>some "bool"
 |.d (.int _)=>some "int"
 |.d (.str _)=>some "str"
 |.d (.tup _)=>some "tuple"
 |.d (.lst _)=>some "list"
 |.d .dct=>some "dict"
 |.h n=>(lg st n).map λ_=>"list"
 |_=>none
def DP (t c:String):Option Bool:=
 if c = "int" then some (t=="int" || t=="bool")
 else if c = "bool"\/c = "str"\/c = "tuple"\/c = "list" then some (t==c)
 else none
def mw (st:Sto):List W->Option D
 |[w,.d (.ty c)]=>(E6 st w).bind λt=>(DP t c).map λb=>.bl b
 |_=>none
theorem fJ (N:X.K=K:=by rfl):e6 K X (.builtin "len") a8:=by
 subst N;refine⟨λst ws d h=>?_⟩;have R:∀ w,(gX st w).map (λds=>D.int ds.length)=some d->bG X _ (rCD X.K st [w] d):=λw h=>by
  obtain⟨ds,e,rfl⟩:=qad.mp h;refine qY.imp ?_
  rintro F H Q ⟨φ,S,⟨v,r,rfl,m,rfl⟩,q⟩
  obtain⟨a,C,rfl,j,O⟩:=jp S m e;exact⟨a,C,U,j,q _ H (aR.refl H) (by rw[<-O.length];rfl)⟩
 cases ws with
 |nil=>cases h
 |cons w tl=>
  cases tl with
  |cons _ _=>
   cases w with
   |h n=>cases h
   |d x=>cases x<;>cases h
  |nil=>
   cases w with
   |h n=>exact R _ h
   |d x=>
    cases x with
    |str x=>
     simp only[a8]at h;split at h
     ·rename_i Y
      cases h;refine qZ.imp ?_
      rintro F H Q ⟨φ,S,⟨v,r,rfl,m,rfl⟩,q⟩
      exact⟨x,by rw[m],qaV Y mil,q _ H (aR.refl H) U⟩
     ·cases h
    |tup ds=>exact R _ h
    |lst ds=>exact R _ h
    |scr ds=>exact R _ h
    |_=>cases h
theorem ng:e6 K X (.builtin "abs") vi:=by
 refine⟨λst ws d h=>?_⟩
 match ws,h with
 |[.d (.int i)],h=>
  cases h;refine yY.imp ?_
  rintro F H Q ⟨φ,S,⟨v,r,rfl,m,rfl⟩,q⟩
  exact⟨i,by rw[m],q _ H (aR.refl H) U⟩
theorem nj:e6 K X (.type "int") Bp:=by
 refine⟨λst ws d h=>?_⟩
 match ws,h with
 |[.d (.int i)],h=>
  cases h;refine qr.imp ?_
  rintro F H Q ⟨φ,S,⟨v,r,rfl,m,rfl⟩,q⟩
  exact .inl ⟨i,by rw[m],q _ H (aR.refl H) U⟩
 |[.d (.bl i)],h=>
  cases h;refine qr.imp ?_
  rintro F H Q ⟨φ,S,⟨v,r,rfl,m,rfl⟩,q⟩
  exact .inr ⟨i,by rw[m],q _ H (aR.refl H) U⟩
theorem no (hc:X.calm=true:=by rfl) (N:X.K=K:=by rfl):e6 K X (.builtin "sum") sU:=by
 refine⟨λst ws d h=>?_⟩
 match ws,h with
 |[.d (.lst ds)],h=>
  obtain⟨ns,e,rfl⟩:=qad.mp h;cases bm e;refine (FW hc U).imp ?_
  rintro F H Q ⟨φ,S,⟨v,r,rfl,⟨a,C,rfl,h0,j,O⟩,rfl⟩,q⟩
  cases O.ints;exact⟨a,ns,U,.inl j,q _ H (aR.refl H) U⟩
theorem nh (hc:X.calm=true:=by rfl) (N:X.K=K:=by rfl):e6 K X (.builtin "all") sS:=by
 refine⟨λst ws d h=>?_⟩
 match ws,h with
 |[.d (.lst ds)],h=>
  obtain⟨ns,e,rfl⟩:=qad.mp h;cases lV e;refine (FV hc U).imp ?_
  rintro F H Q ⟨φ,S,⟨v,r,rfl,⟨a,C,rfl,h0,j,O⟩,rfl⟩,q⟩
  cases O.bools;exact⟨a,ns,U,.inl j,q _ H (aR.refl H) U⟩
theorem nq (N:X.K=K:=by rfl):e6 K X (.type "tuple") gB:=by
 subst N;refine⟨λst ws d h=>?_⟩
 match ws,h with
 |[w],h=>
  obtain⟨ds,e,rfl⟩:=qad.mp h;refine pW.imp ?_
  rintro F H Q ⟨φ,S,⟨v,r,rfl,m,rfl⟩,q⟩
  obtain⟨a,C,rfl,j,O⟩:=uP S m e;refine⟨a,C,U,?_⟩;rcases j with j|j
  ·exact .inl ⟨j,λl Y=>q _ _ (aR.new Y _) ⟨l,C,U,upd_same,O.fw S (Fw.new Y)⟩⟩
  ·exact .inr ⟨SqT.of j,q _ H (aR.refl H) ⟨a,C,U,j,O⟩⟩
theorem gz (N:X.K=K:=by rfl):sD K X (.type "list") ui:=by
 subst N;refine⟨λst ws d h=>?_⟩
 match ws,h with
 |[w],h=>
  refine q9.imp ?_
  rintro F H Q ⟨φ,S,⟨v,r,rfl,m,rfl⟩,q⟩
  obtain⟨a,C,rfl,j,O⟩:=jp S m h;exact⟨a,C,U,j,λl Y=>q l C H (aR.refl H) Y O⟩
theorem fO {t c:String}{b:Bool} (M:t = "NoneType"\/t = "bool"\/t = "int"\/t = "str"\/t = "tuple"\/t = "list"\/t = "dict") (h:DP t c=some b):qhz K (.type t) (.type c)=some b:=by
 unfold DP at h;split at h
 ·rename_i hc
  subst hc;rcases M with rfl|rfl|rfl|rfl|rfl|rfl|rfl<;>(cases h;rfl)
 ·split at h
  ·rename_i _ hc
   rcases hc with rfl|rfl|rfl|rfl<;>rcases M with rfl|rfl|rfl|rfl|rfl|rfl|rfl<;>(cases h;rfl)
  ·cases h
theorem nk (N:X.K=K:=by rfl):e6 K X (.builtin "isinstance") mw:=by
 subst N;refine⟨λst ws d h=>?_⟩;unfold mw at h;split at h
 case h_2=>cases h
 rename_i w c;simp only[mw,qac,qad]at h;obtain⟨t,M,b,hb,rfl⟩:=h;intro pins s σ H xs C Q I rv q;obtain⟨φ,S,⟨v,r,rfl,m,u,r',rfl,r2,rfl⟩,q⟩:=q;cases (show u=.ty c from r2);obtain⟨vv,uu,rfl,A,rv2⟩:=rv.two;cases rv2;have fin:∀ tk,EP X pins σ Q (.bool b) { s with toks:=tk }:=λtk=>⟨.bl b,H,I.tok tk,U,q _ H (aR.refl H) U⟩;cases w with
 |h n=>
  obtain⟨a,ea,rfl⟩:=m;obtain⟨ds,eds,rfl⟩:=qad.mp M;obtain⟨F,hv,_⟩:=S.atl n a ds ea eds;exact cc I A (.lst hv) (fO (by simp) hb) fin
 |d x=>
  cases x with
  |non=>cases M;cases m;exact cc I A .non (fO (by simp) hb) fin
  |ob _ _=>cases M
  |bl x=>cases M;cases m;exact cc I A (.bl x) (fO (by simp) hb) fin
  |int x=>cases M;cases m;exact cc I A (.int x) (fO (by simp) hb) fin
  |str x=>cases M;cases m;exact cc I A (.str x) (fO (by simp) hb) fin
  |lst ds=>
   cases M;obtain⟨a,F,rfl,h0,j,O⟩:=m;rcases j with j|⟨o,j⟩
   ·exact cc I A (.lst j) (fO (by simp) hb) fin
   ·exact cc I A (.frz j) (fO (by simp) hb) fin
  |tup ds=>
   cases M;obtain⟨a,F,rfl,j,O⟩:=m;cases A;obtain⟨its,_,p,_⟩:=I.tuple (SqT.of j);obtain⟨o,e1,e2,_⟩:=p;exact qbL qgO I.kIn ⟨o,e1,e2⟩ (fO (by simp) hb) (λz=>nomatch z) fin
  |dct=>
   cases M;obtain⟨a,rfl,_,j⟩:=m;rcases j with⟨d,j⟩|⟨d,j⟩
   ·exact cc I A (.dK j) (fO (by simp) hb) fin
   ·exact cc I A (.dT j) (fO (by simp) hb) fin
  |ty x=>cases M
  |scr x=>cases M
variable {e a b:Expr}{es:List Expr}{pos:Pos}{f fa fb:Ef}{af:Af}
theorem tZ {x:Str}{c:String} (hg:Gl X x) (hm:X.mg x=none) (hv:qch x=some (.type c)) (hn:x≠"__name__":=by decide) (hd:(x==("__debug__" : Str))=false:=by decide):IE K X (.Name x pos) (iC (.ty c)):=
 zu (v:=.ty c) (B4 hg hm hv U hn hd) λ_ _=>rfl
def cL (g:List D->List W->Option (D×List D)) (o:Ef) (a:Af):Ef
 |env,st=>(o env st).bind λx=>(a env x.2).bind λr=>match x.1 with
 |.h n=>(lg x.2 n).bind λ_=>(lg r.2 n).bind λds=>(g ds r.1).map λy=>(.d y.1,r.2.set n (.l y.2))
 |_=>none
def bB (ds:List D):List W->Option (D×List D)
 |[.d x]=>if ds.length<1000000 then some (.non,ds++[x]) else none
 |_=>none
theorem zx {name:Str}{id:String}{E:Pos}{rr:V->List V->Hp->VK->Prop}{g:List D->List W->Option (D×List D)} (slot:Slot "list" name id) (hty:typeOf (.builtin id)=pure (.type "method_descriptor")) (hm:MtR X id rr)
  (hg:∀ (H:Hp) (φ:List Addr) (st:Sto) (n:Nat) (ad:Addr) (ds:List D) (F:List V) (ws:List W) (C:List V) (y:D×List D) (Q:VK),Sr K H φ st->φ[n]?=some ad->lg st n=some ds->H ad=some (.lst F)->Rls K H φ ds F->Rws K H φ ws C->g ds ws=some y->
    (∀ v vs',Rl K H φ y.1 v->Rls K H φ y.2 vs'->(∀ b,v≠.ref b)->Q v (upd H ad (.lst vs')))->rr (.ref ad) C H Q)
  (hfl:∀ ds ws y,g ds ws=some y->cK y.1=true)
  (ho:IE K X a fa) (ha:IA K X (e::es) af) (J:qdf a name X.env (eval a X.env)=eval a X.env:=by rfl)
  (B:(e::es).all aA=true:=by rfl) (G:(e::es).length<30:=by decide) (L:(E.endLine==pos.line)=true:=by rfl) (N:X.K=K:=by rfl) :
  IE K X (.Call (.Attribute a name E) (e::es) [] pos) (cL g fa af):=by
 have P:=by rw[qbw,qbi]at B;exact B
 refine⟨λenv st r hr=>?_⟩;simp only[cL,qac]at hr;obtain⟨⟨x,s1⟩,hx,⟨ws,s2⟩,hw,hr⟩:=hr;cases x with
 |d x=>cases hr
 |h n=>
  simp only[qac,qad]at hr;obtain⟨ds1,hds1,ds,hds,y,T,rfl⟩:=hr;refine (Dc qf4 slot hty hm (ho.run _ _ _ hx) (ha.run _ _ _ hw) J (uR B G) L (aU P.1) (bv P.2)).imp ?_
  rintro σ H Q ⟨φ,hE,hS,q⟩
  refine⟨φ,hE,hS,λv H1 φ1 f1 S1 w1=>?_⟩;obtain⟨ad,ea,rfl⟩:=w1;obtain⟨vs1,hv1,_⟩:=S1.atl n ad _ ea hds1;refine⟨.inl ⟨U,vs1,SqL.of hv1⟩,φ1,hE.fw hS f1,S1,λC H2 φ2 f2 S2 w2=>?_⟩;have ea2:=f2.get ea;obtain⟨vs2,hv2,rl2⟩:=S2.atl n ad ds ea2 hds;refine hg H2 φ2 s2 n ad ds vs2 ws C y _ S2 ea2 hds hv2 rl2 w2 T λv vs' m r2 hb=>?_;obtain⟨f3,S3⟩:=S2.put ea2 r2;exact q v _ φ2 ((f1.trans f2).trans f3) S3 (m.fw S2 f3)
theorem fX {E:Pos} (ho:IE K X a fa) (ha:IA K X (e::es) af) (J:qdf a "append" X.env (eval a X.env)=eval a X.env:=by rfl)
  (B:(e::es).all aA=true:=by rfl) (G:(e::es).length<30:=by decide) (L:(E.endLine==pos.line)=true:=by rfl) (N:X.K=K:=by rfl) :
  IE K X (.Call (.Attribute a "append" E) (e::es) [] pos) (cL bB fa af):=by
 refine zx PySem.F.slot_list_append PySem.F.type_list_append yv (λH φ st n ad ds F ws C y Q S ea eds hv rl rw T q=>?_) (λds ws y h=>?_) ho ha J B G L N
 ·match ws,T with
  |[.d x],T=>
   simp only[bB]at T;split at T
   ·rename_i Y
    cases T;obtain⟨v,r,rfl,m,rfl⟩:=rw;exact⟨ad,F,v,U,U,hv,by rw[<-rl.length];exact qaS Y mil,q _ _ U (rl.append ⟨v,_,U,m,U⟩) (λb z=>nomatch z)⟩
   ·cases T
 ·match ws,h with
  |[.d x],h=>
   simp only[bB]at h;split at h
   ·cases h;rfl
   ·cases h
end
section
variable {K:qae}{X:Cx}{e a b:Expr}{es:List Expr}{pos:Pos}{f fa T:Ef}{af:Af}
theorem kz {i j:Nat}{x y:Str}{Y py pt:Pos}{kt k2 pt2}
  (h:∀ R,PA X [a,b] R->PS X (.Assign [.Tuple [.Name x Y,.Name y py] kt pt] (.Tuple [a,b] k2 pt2) pos) (GN i j R)) (O:IA K X [a,b] af) :
  IS K X (.Assign [.Tuple [.Name x Y,.Name y py] kt pt] (.Tuple [a,b] k2 pt2) pos) (zt i j af):=by
 refine⟨λenv st r l=>?_⟩;simp only[zt,qac]at l;obtain⟨⟨ws,s1⟩,M,l⟩:=l;dsimp only at l;split at l
 case h_2=>cases l
 rename_i x y;cases l;refine (h _ (O.run _ _ _ M)).imp ?_
 rintro D σ H ⟨φ,I,B,q⟩
 refine⟨φ,I,B,λvs H1 A F s1 P=>?_⟩;obtain⟨v,r,rfl,r1,u,r',rfl,L,r3⟩:=P;cases r3;exact⟨v,u,U,q _ H1 A F (((I.fw B F).set i r1).set j L) s1⟩
def rL (K:qae) (st:Sto) (x y:W) (ds:List D):R2:=λvx vy H Q=>∃ φ,Sr K H φ st/\Rw K H φ x vx/\Rw K H φ y vy/\∀ p s,H p=none->Rls K H φ ds s->Q (.ref p) (upd H p (.lst s))
structure OpL (K:qae) (X:Cx) (f:Value->Value->Sem Value) (g:Sto->W->W->Option (List D)):Prop where
 run:∀ st x y d,g st x y=some d->OpR X f (rL K st x y d)
def tO (g:Sto->W->W->Option (List D)) (a b:Ef):Lf
 |env,st=>(a env st).bind λx=>(b env x.2).bind λy=>(g y.2 x.1 y.1).map λd=>(d,y.2)
theorem t5 {op:Operator}{g:Sto->W->W->Option (List D)} (ho:OpL K X (qbI op) g) (O:IE K X a fa) (hb:IE K X b T):IL K X (.BinOp a op b pos) (tO g fa T):=by
 refine⟨λenv st r l=>?_⟩;simp only[tO,qac,qad]at l;obtain⟨x,hx,y,M,d,hd,rfl⟩:=l;refine (Dd (ho.run _ _ _ _ hd) (O.run _ _ _ hx) (hb.run _ _ _ M)).imp ?_
 rintro σ H Q ⟨φ,I,B,q⟩
 exact⟨φ,I,B,λv H1 A F s1 P=>⟨A,I.fw B F,s1,λu H2 J f2 s2 w2=>⟨J,s2,P.fw s1 f2,w2,λp s N r=>q p s H2 J (F.trans f2) s2 N r⟩⟩⟩
def oz (_:Sto):W->W->Option (List D)
 |.d (.lst a),.d (.int k)=>if a.length<=1000/\-1000<=k/\k<1000 then some (qay k.toNat a).flatten else none
 |_,_=>none
theorem o9:OpL K X (qbI .Mult) oz:=by
 refine⟨λst x y d h=>?_⟩
 match x,y,h with
 |.d (.lst as),.d (.int k),h=>
  simp only[oz]at h;split at h
  ·rename_i hl
   cases h;refine wT.imp ?_
   rintro vx vy H Q ⟨φ,S,⟨a,s,rfl,h0,E,C⟩,L,q⟩
   refine⟨a,k,s,U,L,E,by lia,by lia,?_,λp N=>q p _ N (C.rep _)⟩;rw[<-C.length]
   have:as.length*k.toNat<=1000*1000:=qdh hl.1 (by lia)
   exact qaV this mil
  ·cases h
def vz (x:Int):List Int->List Int
 |[]=>[x]
 |y::c=>if x<=y then x::y::c else y::vz x c
def rK:List Int->List Int
 |[]=>[]
 |x::xs=>vz x (rK xs)
theorem lG (x:Int):∀ c,(vz x c).Perm (x::c)
 |[]=>qdt _
 |y::c=>by
  unfold vz;split
  ·exact qdt _
  ·exact (List.Perm.cons y (lG x c)).trans (List.Perm.swap x y c)
theorem l9:∀ xs,(rK xs).Perm xs
 |[]=>qdt _
 |x::xs=>(lG x _).trans (List.Perm.cons x (l9 xs))
theorem l7 (x:Int):∀ {c:List Int},c.Pairwise (·<=·)->(vz x c).Pairwise (·<=·)
 |[],_=>by simp[vz]
 |y::c,h=>by
  unfold vz;split
  ·rename_i G
   refine qbl.mpr ⟨λz w=>?_,h⟩;rcases qaz.mp w with rfl|w
   ·exact G
   ·exact qec G ((qbl.mp h).1 z w)
  ·refine qbl.mpr ⟨λz w=>?_,l7 x (qbl.mp h).2⟩
   rcases qaz.mp ((lG x c).mem_iff.mp w) with rfl|w
   ·lia
   ·exact (qbl.mp h).1 z w
theorem jA:∀ xs,(rK xs).Pairwise (·<=·)
 |[]=>List.Pairwise.nil
 |x::xs=>l7 x (jA xs)
theorem uQ {xs c:List Int} (p:xs.Perm c) (E:xs.Pairwise (·<=·)) (C:c.Pairwise (·<=·)):xs=c:=
 qfF (λa b _ _ E C=>Int.le_antisymm E C) E C p
theorem lb:∀ {ns:List Int}{s:List Value},qb4 s ns->aI (ns.map V.int) s
 |_,_,.nil=>.nil
 |_,_,.cons n t h=>.cons ⟨t,U⟩ (lb h)
theorem CD {H:Hp}{ad:Addr}{ns:List Int}{m:Fn} (hO:Be H) (B:SqL K H ad (ns.map V.int)) (h:∃ st,m [.d (.scr ns)] []=some (.d (.bl true),st)):spI K m [.ref ad] H (λv _=>v=.bl true) λ_ _ _=>False:=by
 obtain⟨st,h⟩:=h;refine⟨_,_,_,_,h,⟨_,_,U,⟨ad,U,?_⟩,U⟩,⟨qdb,U,λn a ds e=>by simp at e⟩,λv H' φ' _ _ r=>r⟩;rcases B with (h|h)|h
 ·rcases hO ad with z|⟨o,xs,z⟩
  ·rw[h]at z;cases z
  ·rw[h]at z;cases z
 ·exact .inl h
 ·exact .inr h
end
end L2
namespace L2
open PySem
theorem bH {g:Tg}{body:Sf}:∀ {ds:List D} (Pv:Nat->Ev->Sto->Prop) {env:Ev}{st:Sto},Pv 0 env st->
  (∀ i d env st,ds[i]?=some d->Pv i env st->∃ e c h,eZ g (.d d) env=some e/\(body e st=some (.nx c h)\/body e st=some (.ct c h))/\Pv (i+1) c h)->
  ∃ a b,cn g body ds env st=some (.nx a b)/\Pv ds.length a b
 |[],Pv,env,st,j,_=>⟨env,st,U,j⟩
 |d::ds,Pv,env,st,j,k=>by
  obtain⟨e,c,h,n,f,q⟩:=k 0 d env st U j;obtain⟨m,s',l,o⟩:=bH _ q λi d' a b hd p=>k (i+1) d' a b (by simpa using hd) p;refine⟨m,s',?_,o⟩;unfold cn;rw[n,qaa];rcases f with f|f<;>(rw[f];exact l)
theorem fz {g:Tg}{tt:Tf}{te:Ef}{env:Ev}:∀ {ds:List D} (Pv:Nat->List D->Sto->Prop) {st:Sto}{ys0:List D},Pv 0 ys0 st->
  (∀ i d b st,ds[i]?=some d->Pv i b st->∃ e,eZ g (.d d) env=some e/\((∃ s1 x n,tt e st=some (true,s1)/\te e s1=some (.d x,n)/\Pv (i+1) (b++[x]) n)\/∃ s1,tt e st=some (false,s1)/\Pv (i+1) b s1))->
  ∃ b a,lcI g tt te env ds st=some (b,a)/\Pv ds.length (ys0++b) a
 |[],Pv,st,ys0,j,_=>⟨_,st,U,by rw[qbf];exact j⟩
 |d::ds,Pv,st,ys0,j,l=>by
  obtain⟨e,o,f⟩:=l 0 d ys0 st U j;rcases f with⟨s1,x,n,f,q,h⟩|⟨s1,f,h⟩
  ·obtain⟨b,s',m,k⟩:=fz _ h λi d' c a hd p=>l (i+1) d' c a (by simpa using hd) p
   refine⟨_,s',?_,by simpa using k⟩;unfold lcI;rw[o,qaa,f,qaa,q,qaa,m];rfl
  ·obtain⟨b,s',m,k⟩:=fz _ h λi d' c a hd p=>l (i+1) d' c a (by simpa using hd) p
   refine⟨b,s',?_,by simpa using k⟩;unfold lcI;rw[o,qaa,f,qaa,iFN qaE,m]
theorem iU {g:Tg}{tt:Tf}{te:Ef}{env:Ev}{st:Sto} (p:D->Bool) (F:D->D):∀ {ds:List D},(∀ d∈ds,∃ a,eZ g (.d d) env=some a/\tt a st=some (p d,st)/\(p d=true->te a st=some (.d (F d),st)))->
  lcI g tt te env ds st=some ((ds.filter p).map F,st)
 |[],_=>rfl
 |d::ds,h=>by
  obtain⟨a,c,e,i⟩:=h d qag;have b:=iU p F λx f=>h x (qai _ f);unfold lcI;rw[c,qaa,e,qaa];cases hp:p d with
  |true=>rw[i hp,qaa,b,qet,hp];rfl
  |false=>rw[b,qet,hp];rfl
theorem wG {g:Tg}{te:Ef}{env:Ev}{st:Sto} (F:D->D) {ds:List D} (h:∀ d∈ds,∃ a,eZ g (.d d) env=some a/\te a st=some (.d (F d),st)):lcI g aJ te env ds st=some (ds.map F,st):=by
 have:=iU (tt:=aJ) _ F λd hd=>by
  obtain⟨a,c,b⟩:=h d hd;exact⟨a,c,U,λ_=>b⟩
 rw[this,qha.mpr λ_ _=>rfl]
theorem dY {a b:Int} (h:-(2^64)<a/\a<2^64):qda a b:=Bb.ok (.inl h)
theorem gQ {a b:Int} (h:-(2^64)<b/\b<2^64):qda a b:=Bb.ok (.inr h)
theorem Fp {α:Type} (a:α) (l:List α):atI (a::l) 0=some a:=cO U
theorem Hc (n:Nat):ixN (n+1) 0=some 0:=fm (by lia)
theorem mO {n i:Nat}{d:D} (h:(bi 0 n)[i]?=some d):d=.int (i:Int)/\i<n:=by
 rw[uO]at h;by_cases hi:i<n
 ·rw[iFP hi]at h
  cases h;exact⟨by rw[qbW],hi⟩
 ·rw[iFN hi]at h;cases h
end L2
namespace L2
open PySem PySem.Spec PyProof.Rows
def Fv:Nat->Nat->StateT qbZ Sem (Option Nat):=sortPriv% PySem.Builtin.countRun
def Dz:Nat->Nat->Nat->StateT qbZ Sem Bool:=sortPriv% PySem.Builtin.binarySort
def Cm (prog:qaQ) (w:World) (A:qa1) (s:qaj) (a:qdo) (O:qfu) (rk:Keyed->O.α) (S:Keyed->Prop):Prop:=
 ∀ x y,S x->S y->∀ (Q:Bool->qaj->Prop) (E:Value->qaj->Prop),Q (O.blt (rk x) (rk y)) s->wpAny (model prog w) A (keyLt' a x.1 y.1) Q E s
section
variable {prog:qaQ}{w:World}{A:qa1}{E:Value->qaj->Prop}{s:qaj}{κ:qdo}{O:qfu}{rk:Keyed->O.α}{S:Keyed->Prop}
theorem GT (B:Cm prog w A s κ O rk S) {x y:Keyed}{st:qbZ}{Q:Option Bool->qbZ->Prop} (v:kindOf st=κ) (F:S x) (D:S y) (h:Q (some (O.blt (rk x) (rk y))) st) :
  wpS (model prog w) A E s (lt' x y) Q st:=by
 rw[lt'_eq];refine qby (qhe ?_);rw[v];exact qby (wpS_lift (qeK (B x y F D _ _ ⟨U,qcf h⟩)))
theorem mj {c:Prop} [Decidable c] {M:Model}{A':qa1}{E':Value->qaj->Prop}{s':qaj}{α:Type}{a b:StateT qbZ Sem α}{Q:α->qbZ->Prop}{st:qbZ} (h:c) (k:wpS M A' E' s' a Q st):wpS M A' E' s' (if c then a else b) Q st:=by rw[iFP h];exact k
theorem qJ {c:Prop} [Decidable c] {M:Model}{A':qa1}{E':Value->qaj->Prop}{s':qaj}{α:Type}{a b:StateT qbZ Sem α}{Q:α->qbZ->Prop}{st:qbZ} (h:¬ c) (k:wpS M A' E' s' b Q st):wpS M A' E' s' (if c then a else b) Q st:=by rw[iFN h];exact k
theorem xy {f:Array Keyed}{i:Nat}{x:Keyed}{st:qbZ}{Q:Keyed->qbZ->Prop} (hi:f[i]?=some x) (h:Q x st):wpS (model prog w) A E s (elem' f i) Q st:=by
 rw[elem'_eq,hi];exact qcf h
theorem xz {t:String}{st:qbZ}{Q:Unit->qbZ->Prop} (h:Q () st):wpS (model prog w) A E s (liftM (rule t):StateT qbZ Sem Unit) Q st:=wpS_lift (qdv ⟨U,h⟩)
def kyd (f:Array Keyed) (i:Nat):Keyed:=(f[i]?).getD (.none,.none)
theorem ow {f:Array Keyed}{i:Nat} (h:i<f.size):f[i]?=some (kyd f i):=by
 unfold kyd;simp[h]
theorem f9 {a b:Array Keyed}{i j:Nat} (h:a[i]?=b[j]?):kyd a i=kyd b j:=by
 unfold kyd;rw[h]
theorem CV (B:Cm prog w A s κ O rk S) {i j:Nat}{st:qbZ}{Q:Option Bool->qbZ->Prop} (v:kindOf st=κ) (hi:i<(arrOf st).size) (m:j<(arrOf st).size) (F:S (kyd (arrOf st) i)) (D:S (kyd (arrOf st) j))
  (h:Q (some (O.blt (rk (kyd (arrOf st) i)) (rk (kyd (arrOf st) j)))) st):wpS (model prog w) A E s (ltAt' i j) Q st:=by
 refine qby (qhe ?_);exact qby (xy (ow hi) (qby (xy (ow m) (GT B v F D h))))
structure SB (κ:qdo) (a0:Array Keyed) (lo:Nat) (p0:Array (Nat×Nat×Nat)) (g0:Nat) (st:qbZ):Prop where
 perm:(arrOf st).Perm a0
 pre:∀ k,k<lo->(arrOf st)[k]?=a0[k]?
 kind:kindOf st=κ
 fail:qhk st=none
 pend:qe7 st=p0
 gal:qie st=g0
variable {a0:Array Keyed}{lo:Nat}{p0:Array (Nat×Nat×Nat)}{g0:Nat}{st:qbZ}
theorem SB.size (h:SB κ a0 lo p0 g0 st):(arrOf st).size=a0.size:=h.perm.size_eq
theorem SB.mem (h:SB κ a0 lo p0 g0 st) (C:∀ x∈a0.toList,S x) {i:Nat} (hi:i<a0.size):S (kyd (arrOf st) i):=by
 have l:i<(arrOf st).size:=by rw[h.size];exact hi
 refine C _ ((qfZ.mp h.perm).mem_iff.mp ?_);have e:=ow l;rw[qbz l]at e;rw[<-qaN e];exact Array.getElem_mem_toList l
theorem SB.set (h:SB κ a0 lo p0 g0 st) {xs:Array Keyed} (K:xs.Perm (arrOf st)) (z:∀ k,k<lo->xs[k]?=(arrOf st)[k]?):SB κ a0 lo p0 g0 (setArr st xs):=
 ⟨K.trans h.perm,λk v=>(z k v).trans (h.pre k v),h.kind,h.fail,h.pend,h.gal⟩
theorem xx (B:Cm prog w A s κ O rk S) (C:∀ x∈a0.toList,S x) (p:SB κ a0 lo p0 g0 st) {i j:Nat}{Q:Option Bool->qbZ->Prop} (hi:i<a0.size) (m:j<a0.size)
  (h:Q (some (O.blt (rk (kyd (arrOf st) i)) (rk (kyd (arrOf st) j)))) st):wpS (model prog w) A E s (ltAt' i j) Q st:=
 CV B p.kind (by rw[p.size];exact hi) (by rw[p.size];exact m) (p.mem C hi) (p.mem C m) h
def Up (rk:Keyed->O.α) (f:Array Keyed) (lo n:Nat):Prop:=∀ i j,lo<=i->i<=j->j<lo+n->O.kle (rk (kyd f i)) (rk (kyd f j))
def jr (rk:Keyed->O.α) (f:Array Keyed) (lo n:Nat):Prop:=∀ i j,lo<=i->i<=j->j<lo+n->O.kle (rk (kyd f j)) (rk (kyd f i))
theorem jO {xs:Array Keyed}{i j:Nat} (m:j<=xs.size) (k:Nat):kyd (qjL xs i j ((j - i) / 2)) k=if i<=k/\k<j then kyd xs (i+j - 1 - k) else kyd xs k:=by
 have e:=qh2 (i:=i) m k;by_cases q:i<=k/\k<j
 ·rw[iFP q]at e ⊢;exact f9 e
 ·rw[iFN q]at e ⊢;exact f9 e
theorem ox {xs:Array Keyed}{g d:Nat} (J:g<xs.size) (hd:d<=g) (k:Nat) :
  kyd (bubble xs g d) k=if k=g - d then kyd xs g else if g - d<k/\k<=g then kyd xs (k - 1) else kyd xs k:=by
 have e:=qjN J d hd k;by_cases q:k=g - d
 ·rw[iFP q]at e ⊢;exact f9 e
 ·rw[iFN q]at e ⊢
  by_cases I:g - d<k/\k<=g
  ·rw[iFP I]at e ⊢;exact f9 e
  ·rw[iFN I]at e ⊢;exact f9 e
theorem SB.rev (p:SB κ a0 lo p0 g0 st) {i j:Nat} (hi:lo<=i) (m:j<=a0.size):SB κ a0 lo p0 g0 (setArr st (qjL (arrOf st) i j ((j - i) / 2))):=
 p.set (mirror_perm _ _ _ _) λk v=>by
  rw[qh2 (by rw[p.size];exact m),iFN (by lia)]
theorem i9 {xs:Array Keyed}{i j:Nat} (m:j<=xs.size) (H:∀ k,i<=k->k<j->rk (kyd xs k)=rk (kyd xs (j - 1))) (k:Nat):rk (kyd (qjL xs i j ((j - i) / 2)) k)=rk (kyd xs k):=by
 rw[jO m];split
 ·rw[H _ (by lia) (by lia),H k (by lia) (by lia)]
 ·rfl
theorem sC {i j:Nat}{Q:Unit->qbZ->Prop} (h:Q () (setArr st (qjL (arrOf st) i j ((j - i) / 2)))):wpS (model prog w) A E s (reverseSlice' i j) Q st:=by
 exact qg2 h
theorem Up.more {f:Array Keyed}{n:Nat} (h:Up rk f lo n) (q:1<=n) (z:O.kle (rk (kyd f (lo+n - 1))) (rk (kyd f (lo+n)))):Up rk f lo (n+1):=by
 intro i j hi o m;by_cases u:j<lo+n
 ·exact h i j hi o u
 ·have r:j=lo+n:=by lia
  subst r;by_cases l:i=lo+n
  ·subst l;exact qcU _
  ·exact qdL (h i _ hi (by lia) (by lia)) z
theorem jr.more {f:Array Keyed}{n:Nat} (h:jr rk f lo n) (q:1<=n) (z:O.kle (rk (kyd f (lo+n))) (rk (kyd f (lo+n - 1)))):jr rk f lo (n+1):=by
 intro i j hi o m;by_cases u:j<lo+n
 ·exact h i j hi o u
 ·have r:j=lo+n:=by lia
  subst r;by_cases l:i=lo+n
  ·subst l;exact qcU _
  ·exact qdL z (h i _ hi (by lia) (by lia))
theorem Up.one {f:Array Keyed}:Up rk f lo 1:=λi j hi o m=>by
 have:i=j:=by lia
 subst this;exact qcU _
theorem jr.congr {xs G:Array Keyed}{n:Nat} (h:jr rk xs lo n) (e:∀ k,rk (kyd G k)=rk (kyd xs k)):jr rk G lo n:=λi j hi o m=>by
 rw[e,e];exact h i j hi o m
end
section
variable {prog:qaQ}{w:World}{A:qa1}{E:Value->qaj->Prop}{s:qaj}{C:qdo}{O:qfu}{rk:Keyed->O.α}{S:Keyed->Prop}
variable {a0:Array Keyed}{lo:Nat}{L:Array (Nat×Nat×Nat)}{K:Nat}{st:qbZ}
theorem A6 {o b:Nat}{f:Nat->Option (Option Nat)×Nat->StateT qbZ Sem (ForInStep (Option (Option Nat)×Nat))}{Q:Option (Option Nat)×Nat->qbZ->Prop}
  (hf:∀ x n (Q':ForInStep (Option (Option Nat)×Nat)->qbZ->Prop),1<=n->n < b->(O.blt (rk (kyd (arrOf st) (lo+n))) (rk (kyd (arrOf st) (lo+n - 1)))=true->Q' (.done (none,n)) st)->
    (O.blt (rk (kyd (arrOf st) (lo+n))) (rk (kyd (arrOf st) (lo+n - 1)))=false->Q' (.yield (none,n+1)) st)->wpS (model prog w) A E s (f x (none,n)) Q' st)
  (M:1<=o) (hn:o<=b) (T:Up rk (arrOf st) lo o)
  (h:∀ n,o<=n->n<=b->Up rk (arrOf st) lo n->(n=b\/O.klt (rk (kyd (arrOf st) (lo+n))) (rk (kyd (arrOf st) (lo+n - 1))))->Q (none,n) st):wpS (model prog w) A E s (forIn [o:b] (none,o) f) Q st:=by
 refine qep (I:=λx c a=>a=st/\c=(none,x)/\Up rk _ lo x) ?_ ?_ ⟨U,U,T⟩
 ·rintro x c a hx X ⟨rfl,rfl,v⟩
  exact hf x x _ (by lia) X (λl=>h x hx (by lia) v (.inr l)) λl=>⟨U,U,v.more (by lia) l⟩
 ·rintro c a ⟨rfl,rfl,v⟩
  rw[show max o b=b by lia]at v ⊢;exact h b hn (qap _) v (.inl U)
def Eqs (rk:Keyed->O.α) (G:Array Keyed) (lo m q:Nat):Prop:=q+1<=m/\∀ i,lo+m - (q+1)<=i->i<lo+m->rk (kyd G i)=rk (kyd G (lo+m - 1))
theorem CU {o b:Nat}{f:Nat->Option (Option Nat)×Nat×Nat->StateT qbZ Sem (ForInStep (Option (Option Nat)×Nat×Nat))}{Q:Option (Option Nat)×Nat×Nat->qbZ->Prop}
  (hf:∀ x n q a (Q':ForInStep (Option (Option Nat)×Nat×Nat)->qbZ->Prop),1<=n->n < b->SB C a0 lo L K a->
    (O.blt (rk (kyd (arrOf a) (lo+n))) (rk (kyd (arrOf a) (lo+n - 1)))=true->0<q->Q' (.yield (none,n+1,0)) (setArr a (qjL (arrOf a) (lo+n - (q+1)) (lo+n) ((lo+n - (lo+n - (q+1))) / 2))))->
    (O.blt (rk (kyd (arrOf a) (lo+n))) (rk (kyd (arrOf a) (lo+n - 1)))=true->q=0->Q' (.yield (none,n+1,0)) a)->
    (O.blt (rk (kyd (arrOf a) (lo+n - 1))) (rk (kyd (arrOf a) (lo+n)))=true->Q' (.done (none,n,q)) a)->
    (O.blt (rk (kyd (arrOf a) (lo+n))) (rk (kyd (arrOf a) (lo+n - 1)))=false->O.blt (rk (kyd (arrOf a) (lo+n - 1))) (rk (kyd (arrOf a) (lo+n)))=false->Q' (.yield (none,n+1,q+1)) a)->
    wpS (model prog w) A E s (f x (none,n,q)) Q' a)
  (M:1<=o) (hn:o<=b) (hz:lo+b<=a0.size) (t:SB C a0 lo L K st) (hd:jr rk (arrOf st) lo o)
  (h:∀ n q a,o<=n->n<=b->SB C a0 lo L K a->jr rk (arrOf a) lo n->Eqs rk (arrOf a) lo n q->Q (none,n,q) a):wpS (model prog w) A E s (forIn [o:b] (none,o,0) f) Q st:=by
 have one:∀ (G:Array Keyed) m,1<=m->Eqs rk G lo m 0:=λG m hm=>⟨by lia,λi M h2=>by rw[show i=lo+m - 1 by lia]⟩;refine qep (I:=λx c a=>∃ q,c=(none,x,q)/\SB C a0 lo L K a/\jr rk (arrOf a) lo x/\Eqs rk (arrOf a) lo x q) ?_ ?_ ⟨0,U,t,hd,one _ _ M⟩
 ·rintro x c a hx X ⟨q,rfl,e,v,F⟩
  have B:lo+x<=(arrOf a).size:=by rw[e.size];lia
  refine hf x x q a _ (by lia) X e (λl J=>?_) (λl J=>?_) (λl=>h x q a hx (by lia) e v F) λl P=>?_
  ·exact⟨0,U,e.rev (by have:=F.1;lia) (by lia),jr.congr (v.more (by lia) (qdw l)) (i9 (rk:=rk) (xs:=arrOf a) (j:=lo+x) B F.2),one _ _ (by lia)⟩
  ·exact⟨0,U,e,v.more (by lia) (qdw l),one _ _ (by lia)⟩
  ·have eq:=qgS P l
   refine⟨_,U,e,v.more (by lia) (by rw[eq];exact qcU _),by have:=F.1;lia,λi M h2=>?_⟩;rw[show lo+_ - 1=lo+x by lia,eq];by_cases hi:i=lo+x
   ·rw[hi,eq]
   ·exact F.2 i (by lia) (by lia)
 ·rintro c a ⟨q,rfl,e,v,F⟩
  rw[show max o b=b by lia]at v F ⊢;exact h b q a hn (qap _) e v F
theorem Fa {m b:Nat}{f:Nat->Option (Option Nat)×Nat->StateT qbZ Sem (ForInStep (Option (Option Nat)×Nat))}{k:Option (Option Nat)×Nat->StateT qbZ Sem (Option Nat)}{Q:Option Nat->qbZ->Prop}
  (t:SB C a0 lo L K st) (hd:jr rk (arrOf st) lo m) (M:1<=m) (hm:m<=b) (hz:lo+b<=a0.size)
  (hf:∀ x n (Q':ForInStep (Option (Option Nat)×Nat)->qbZ->Prop) d,SB C a0 lo L K d->1<=n->n < b->(O.blt (rk (kyd (arrOf d) (lo+n))) (rk (kyd (arrOf d) (lo+n - 1)))=true->Q' (.done (none,n)) d)->
    (O.blt (rk (kyd (arrOf d) (lo+n))) (rk (kyd (arrOf d) (lo+n - 1)))=false->Q' (.yield (none,n+1)) d)->wpS (model prog w) A E s (f x (none,n)) Q' d)
  (hk:∀ n d,SB C a0 lo L K d->1<=n->n<=b->Up rk (arrOf d) lo n->wpS (model prog w) A E s (k (none,n)) Q d) :
  wpS (model prog w) A E s (do reverseSlice' lo (lo+m);let r <-forIn [m:b] (none,m) f;k r) Q st:=by
 refine qby (sC ?_);have u:=t.rev (j:=lo+m) (qap _) (by lia);refine qby (A6 (λx n Q' z y hy D=>hf x n Q' _ u z y hy D) M hm ?_ λn' V H hu' _=>hk n' _ u (by lia) H hu');intro i j hi hij hj;have hs3:lo+m<=(arrOf st).size:=by rw[t.size];lia
 rw[jO hs3,jO hs3,iFP (by lia),iFP (by lia)];exact hd _ _ (by lia) (by lia) (by lia)
set_option maxHeartbeats 1000000 in
theorem CT (hC:Cm prog w A s C O rk S) (hS:∀ x∈a0.toList,S x) {b:Nat}{Q:Option Nat->qbZ->Prop} (t:SB C a0 lo L K st) (M:1<=b) (hz:lo+b<=a0.size)
  (h:∀ m a,SB C a0 lo L K a->1<=m->m<=b->Up rk (arrOf a) lo m->Q (some m) a):wpS (model prog w) A E s (Fv lo b) Q st:=by
 have W:∀ a (_:SB C a0 lo L K a) n (Q':Option Bool->qbZ->Prop),1<=n->n<b->Q' _ a->
   wpS (model prog w) A E s (ltAt' (lo+n) (lo+n - 1)) Q' a:=λa e n Q' M h2 J=>xx hC hS e (by lia) (by lia) J
 refine qby (A6 (rk:=rk) (lo:=lo) (λx n Q' z y hy D=>?_) (qap 1) M Up.one λn z y T hor=>?_)
 ·refine qby (W st t n _ z y ?_)
  cases l:O.blt (rk (kyd (arrOf st) (lo+n))) _ with
  |true=>exact qcf (hy l)
  |false=>exact qcf (D l)
 dsimp only;by_cases hnn:n=b
 ·refine mj (by simpa using hnn) ?_
  exact qcf (h n st t z y T)
 refine qJ (by simpa using hnn) ?_;have N:=hor.resolve_left hnn;have hn3:n+1<=b:=by lia
 have B:lo+n<=(arrOf st).size:=by rw[t.size];lia
 by_cases hgt:n > 1
 case' pos=>
  refine mj hgt ?_;refine qby (xx hC hS t (by lia) (by lia) ?_);by_cases g:O.blt (rk (kyd (arrOf st) lo)) (rk (kyd (arrOf st) (lo+n - 1)))=true
  ·rw[g];exact qcf (h n st t z y T)
  rw[qew]at g;rw[g];have p:=λk hk1 hk2=>
   qgS (T k (lo+n - 1) hk1 (by lia) (by lia)) (qdL g (T lo k (by lia) hk1 hk2))
  refine qby (sC ?_);have R:=t.rev (i:=lo) (j:=lo+n) (qap _) (by lia);have hd:=by
   refine jr.congr (xs:=arrOf st) (jr.more (λi j hi hij hj=>?_) (by lia) (qdw N)) (i9 B p);rw[p i hi (by lia),p j (by lia) hj];exact qcU _
  clear T N g p t B hor
 case' neg=>
  refine qJ hgt ?_;have R:=t;have hd:jr rk (arrOf st) lo (n+1):=by
   refine jr.more (λi j hi hij hj=>?_) (by lia) (qdw N);rw[show i=j by lia];exact qcU _
  clear T N t B hor
  revert R hd
  generalize st=st2;intro R hd
 all_goals
  refine qby (xz ?_);refine qby (CU (λx m q a Q' hm1 Y e c1 c2 c3 c4=>?_) (by lia) hn3 hz R hd λm q a hm1 Y e hd' F=>?_)
  ·refine qby (W a e m _ hm1 Y ?_)
   cases l:O.blt (rk (kyd (arrOf a) (lo+m))) _ with
   |true=>
    dsimp only;refine mj U ?_;by_cases J:q > 0
    ·rw[iFP J];exact qby (sC (qcf (c1 l J)))
    ·rw[iFN J];exact qcf (c2 l (by lia))
   |false=>
    dsimp only;refine qby (xx hC hS e (by lia) (by lia) ?_);cases P:O.blt _ (rk (kyd (arrOf a) (lo+m))) with
    |true=>exact qcf (c3 P)
    |false=>exact qcf (c4 l P)
  have hsz':lo+m<=(arrOf a).size:=by rw[e.size];lia
  dsimp only;by_cases J:q > 0
  case' pos=>
   refine mj J ?_;refine qby (sC ?_);have hB3:=e.rev (i:=lo+m - (q+1)) (j:=lo+m) (by have:=F.1;lia) (by lia);have hd3:=jr.congr hd' (i9 hsz' F.2)
  case' neg=>
   refine qJ J ?_;have hB3:=e;have hd3:=hd'
  all_goals
   refine Fa hB3 hd3 (by lia) Y hz (λx n' Q' d u V H hy D=>?_) λn' d u a1 a2 a3=>qcf (h n' d u a1 a2 a3);refine qby (W d u n' _ V H ?_);cases l:O.blt (rk (kyd (arrOf d) (lo+n'))) _ with
   |true=>exact qcf (hy l)
   |false=>exact qcf (D l)
end
section
variable {prog:qaQ}{w:World}{A:qa1}{E:Value->qaj->Prop}{s:qaj}{u:qdo}{O:qfu}{rk:Keyed->O.α}{S:Keyed->Prop}
variable {a0:Array Keyed}{lo:Nat}{C:Array (Nat×Nat×Nat)}{B:Nat}{st:qbZ}
set_option maxHeartbeats 1000000 in
theorem A7 (P:Cm prog w A s u O rk S) (N:∀ x∈a0.toList,S x) {n ok:Nat}{Q:Bool->qbZ->Prop} (M:SB u a0 lo C B st) (t:1<=ok) (hok:ok<=n) (R:lo+n<=a0.size) (L:Up rk (arrOf st) lo ok)
  (h:∀ a,SB u a0 lo C B a->Up rk (arrOf a) lo n->Q true a):wpS (model prog w) A E s (Dz lo n ok) Q st:=by
 refine qby (qia (qep (I:=λk c a=>c=(none,())/\SB u a0 lo C B a/\Up rk (arrOf a) lo (min k n)) (Q:=λc a=>c=(none,())/\SB u a0 lo C B a/\Up rk (arrOf a) lo n) ?_ ?_ ?_) ?_)
 ·rintro k c a T G ⟨rfl,d,o⟩
  dsimp only
  refine qby (qia (qep (I:=λx c b=>b=a/\∃ l r,c=(none,l,r)/\l<=r/\r<=k/\r - l<=k - x/\(∀ i,i < l->O.kle (rk (kyd (arrOf a) (lo+i))) (rk (kyd (arrOf a) (lo+k))))/\
    ∀ i,r<=i->i<k->O.klt (rk (kyd (arrOf a) (lo+k))) (rk (kyd (arrOf a) (lo+i))))
   (Q:=λc b=>b=a/\∃ l r,c=(none,l,r)/\l<=k/\(∀ i,i<l->O.kle (rk (kyd (arrOf a) (lo+i))) (rk (kyd (arrOf a) (lo+k))))/\∀ i,l<=i->i<k->O.klt (rk (kyd (arrOf a) (lo+k))) (rk (kyd (arrOf a) (lo+i)))) ?_ ?_ ?_) ?_)
  ·rintro x c b _ K ⟨rfl,l,r,rfl,D,q,hm,g,f⟩
   dsimp only;by_cases y:l>=r
   ·refine mj y ?_
    have e:l=r:=by lia
    subst e;exact qcf ⟨U,l,l,U,q,g,f⟩
   ·refine qJ y ?_
    refine qby (xx P N d (by lia) (by lia) ?_);cases hl:O.blt (rk (kyd (arrOf b) (lo+k))) _ with
    |true=>exact qcf ⟨U,l,(l+r) / 2,U,by lia,by lia,by lia,g,λi t F=>KeyOrd.klt_of_klt_of_kle hl (o _ _ (by lia) (by lia) (by lia))⟩
    |false=>exact qcf ⟨U,(l+r) / 2+1,r,U,by lia,by lia,by lia,λi t=>qdL (o (lo+i) (lo+(l+r) / 2) (by lia) (by lia) (by lia)) hl,f⟩
  ·rintro c b ⟨rfl,l,r,rfl,D,q,hm,g,f⟩
   have e:l=r:=by lia
   subst e;exact⟨U,l,l,U,q,g,f⟩
  ·exact⟨U,0,k,U,by lia,by lia,by lia,λi hi=>by lia,λi t F=>by lia⟩
  ·rintro c b ⟨rfl,l,r,rfl,H,g,f⟩
   dsimp only;refine qby (m:=moveDown' (lo+k) (lo+l)) ?_;rw[moveDown'_eq];have p:lo+k<(arrOf b).size:=by rw[d.size];lia
   refine qg2 (qcf ⟨U,d.set (bubble_perm _ _ _) λi hi=>?_,?_⟩)
   ·rw[qjN p _ (by lia),iFN (by lia),iFN (by lia)]
   ·intro i j hi J V
    rw[ox p (by lia),ox p (by lia),show lo+k - (lo+k - (lo+l))=lo+l by lia];have z:∀ i,lo<=i->i<lo+l->O.kle (rk (kyd (arrOf b) i)) (rk (kyd (arrOf b) (lo+k))):=λi t F=>by
     have:=g (i - lo) (by lia);rwa [show lo+(i - lo)=i by lia]at this
    have v:∀ i,lo+l<=i->i<lo+k->O.klt (rk (kyd (arrOf b) (lo+k))) (rk (kyd (arrOf b) i)):=λi t F=>by
     have:=f (i - lo) (by lia) (by lia);rwa [show lo+(i - lo)=i by lia]at this
    repeat' split
    all_goals first
     |(exfalso;lia)
     |exact qcU _
     |exact z _ (by lia) (by lia)
     |exact qdw (v _ (by lia) (by lia))
     |exact o _ _ (by lia) (by lia) (by lia)
 ·rintro c a ⟨rfl,d,o⟩
  rw[show min (max (max ok 1) n) n=n by lia]at o;exact⟨U,d,o⟩
 ·rw[show max ok 1=ok by lia,show min ok n=ok by lia]
  exact⟨U,M,L⟩
 ·rintro c a ⟨rfl,d,o⟩
  exact qcf (h a d o)
end
section
variable {O:qfu}{rk:Keyed->O.α}
variable {a b c:Array Keyed}{d f:Nat}
variable {na e:Nat}
end
section
variable {prog:qaQ}{w:World}{A:qa1}{E:Value->qaj->Prop}{s:qaj}{c:qdo}{O:qfu}{rk:Keyed->O.α}{S:Keyed->Prop}{st:qbZ}{a b:Array Keyed}
end
section
variable {prog:qaQ}{w:World}{A:qa1}{E:Value->qaj->Prop}{s:qaj}{e:qdo}{O:qfu}{rk:Keyed->O.α}{S:Keyed->Prop}{st:qbZ}{a b c:Array Keyed}{na d:Nat}
end
section
variable {prog:qaQ}{w:World}{A:qa1}{E:Value->qaj->Prop}{s:qaj}{m:qdo}{O:qfu}{rk:Keyed->O.α}{S:Keyed->Prop}{st:qbZ}{g:Array Keyed}{n l:Nat}
theorem GQ {a:Array Keyed} (h:Up rk a 0 a.size):a.toList.Pairwise λx y=>O.kle (rk x) (rk y):=by
 rw[qgh];intro i j hi k f;have b:=by simpa using hi
 have c:=by simpa using k
 have q:=h i j (qcI _) (by lia) (by lia);have e:=ow b;have d:=ow c;rw[qbz b]at e;rw[qbz c]at d;rw[<-qaN e,<-qaN d]at q;simpa using q
end
section
variable {prog:qaQ}{w:World}{A:qa1}{E:Value->qaj->Prop}{s:qaj}{κ:qdo}{O:qfu}{rk:Keyed->O.α}{S:Keyed->Prop}{st:qbZ}{a0:Array Keyed}
structure Dv (κ:qdo) (O:qfu) (rk:Keyed->O.α) (a0:Array Keyed) (n1:Nat) (st:qbZ):Prop where
 perm:(arrOf st).Perm a0
 kind:kindOf st=κ
 fail:qhk st=none
 pend:qe7 st=#[(0,n1,0)]
 up:Up rk (arrOf st) 0 n1
theorem F6 {n:Nat} (v:2<=n) (k:n<64):minRun' n n 0=n:=by
 obtain⟨f,rfl⟩:∃ f,n=f+1:=⟨n - 1,by lia⟩;rw[minRun'_succ,iFP (by lia)]
set_option maxHeartbeats 2000000 in
theorem CW (B:Cm prog w A s κ O rk S) {Q:Unit->qbZ->Prop} (G:kindOf st=κ) (L:qhk st=none) (D:qe7 st=#[]) (q:arrOf st=a0) (z:∀ x∈a0.toList,S x) (v:2<=a0.size) (k:a0.size<64)
  (h:∀ a,(arrOf a).toList.Perm a0.toList->(arrOf a).toList.Pairwise (λx y=>O.kle (rk x) (rk y))->qhk a=none->Q () a):wpS (model prog w) A E s sortRuns' Q st:=by
 obtain⟨l,t,J⟩:∃ l,(sortPriv% PySem.Builtin.minRun) a0.size a0.size 0=l/\l=a0.size:=⟨_,U,F6 v k⟩;refine qby (qhe ?_);have C:(arrOf st).size=a0.size:=by rw[q]
 dsimp only;rw[C,t]
 refine qby (qia (qep (I:=λx c a=>(x=0/\c=(none,0)/\SB κ a0 0 #[] (qie st) a)\/(c=(none,a0.size)/\Dv κ O rk a0 a0.size a/\1<=x))
  (Q:=λc a=>c.1=none/\Dv κ O rk a0 a0.size a) ?_ ?_ ?_) ?_)
 ·rintro x c a _ M H
  rcases H with⟨rfl,rfl,K⟩|⟨rfl,g,r⟩
  ·refine qJ (by lia) ?_
   refine qby (CT B z K (by lia) (by lia) λm b i F m2 u=>?_);have put:∀ n e,SB κ a0 0 #[] (qie st) e->Up rk _ 0 n->n=a0.size->
     Dv κ O rk a0 a0.size (qiC _ _ ((qe7 e).push (0,n,0)) (qie e) _):=λn e d o hn=>
    ⟨d.perm,d.kind,d.fail,by rw[d.pend,hn];rfl,by rw[<-hn];exact o⟩
   by_cases j:m<l
   ·refine mj j ?_
    refine qby (xz (qby (A7 B z i F (by lia) (by lia) u λe d o=>?_)));have hn:min (a0.size - 0) l=a0.size:=by lia
    refine qby (qhe ?_);have hb:(qe7 e).back?=none:=by rw[d.pend];rfl
    rw[hb];exact qby (qg2 (qcf (.inr ⟨by rw[qbj,hn],(put _ e d o hn),by lia⟩)))
   ·refine qJ j ?_
    have hn:m=a0.size:=by lia
    refine qby (qhe ?_);have hb:(qe7 b).back?=none:=by rw[i.pend];rfl
    rw[hb];exact qby (qg2 (qcf (.inr ⟨by rw[qbj,hn],(put m b i u hn),by lia⟩)))
  ·refine mj (qap _) ?_
   exact qcf ⟨U,g⟩
 ·rintro c a (⟨M,_⟩|⟨rfl,g,r⟩)
  ·lia
  ·exact⟨U,g⟩
 ·exact .inl ⟨U,U,by rw[q],λ_ _=>by rw[q],G,L,D,U⟩
 ·rintro⟨c1,c2⟩ a ⟨rfl,g⟩
  refine qby (qia (qep (I:=λy c b=>c=(none,())/\b=a) (Q:=λc b=>c=(none,())/\b=a) ?_ ?_ ?_) ?_)
  ·rintro y c b _ N ⟨rfl,rfl⟩
   refine qby (qhe ?_);have p:(qe7 b).size<=1:=by rw[g.pend];exact qap 1
   refine mj p ?_;exact qcf ⟨U,U⟩
  ·rintro c b ⟨rfl,rfl⟩
   exact⟨U,U⟩
  ·exact⟨U,U⟩
  ·rintro c b ⟨rfl,rfl⟩
   exact qcf (h _ (qfZ.mp g.perm) (GQ (by rw[g.perm.size_eq];exact g.up)) g.fail)
end
end L2
namespace L2
open PySem PySem.Spec PyProof.Rows PySem.SeqAt
open MeetsSeq MeetsSeq2 MeetsSeq3 SeqRoads2
open AutoSeq1 (wpAny_loadPart')
def pS (A:qa1) (s:qaj) (y x:Value) (b:Bool):Prop:=∀ (prog:qaQ) (w:World) (E:Value->qaj->Prop) (Q:Value->qaj->Prop),Q (.bool b) s->wpAny (model prog w) A (richCompare .Lt y x) Q E s
def oG (e l:Nat->Bool) (fin:Bool):Nat->Nat->Bool
 |0,_=>fin
 |k+1,i=>if e i=true then oG e l fin k (i+1) else l i
theorem pL (p q:Addr) (c a:Array Value) (n M:Nat) (L F:Option Addr) (P E:Array (Option Value)) (e l:Nat->Bool) :
  Meets (qfe.«tuple.__lt__» ⟨[.ref p,.ref q],[]⟩)
   (λA R s=>(s.heap.get? p=some ⟨.type "tuple",L,.seq c n,P⟩/\s.heap.get? q=some ⟨.type "tuple",F,.seq a M,E⟩)/\
     (∀ j (G:j<c.size) (J:j<a.size),EqAt A.in1 s c[j] a[j] (e j)/\(e j=false->pS A.in1 s c[j] a[j] (l j)))/\
     R (.ok (.ret (.bool (oG e l (decide (c.size<a.size)) (min c.size a.size) 0)))) s):=
 .of_wp λprog w A R s h=>by
  obtain⟨C,g,d,D,os⟩:=s;obtain⟨⟨G,J⟩,H,h⟩:=h;have T:=qfS;have B:(c.toList.zip a.toList).length=min c.size a.size:=by simp
  wp_walk using wpAny_loadPart' G,wpAny_loadPart' J,qiS _ (λrest b s'=>b.1=none/\s'=⟨C,g,d,D,os⟩/\∃ i,i<=min c.size a.size/\rest=(c.toList.zip a.toList).drop i/\
   R (.ok (.ret (.bool (oG e l (decide (c.size<a.size)) (min c.size a.size - i) i)))) ⟨C,g,d,D,os⟩) _
  case turn=>
   rintro⟨y,x⟩ rest b s' ⟨o,rfl,i,hi,m,v⟩
   have u:i<(c.toList.zip a.toList).length:=by
    rcases qfC i (c.toList.zip a.toList).length with h'|h'
    ·exact h'
    ·rw[List.drop_of_length_le h']at m;cases m
   rw[B]at u;have K:i<c.size:=by lia
   have I:i<a.size:=by lia
   rw[qdc (by rw[B];exact u)]at m;injection m with z r;have t:y=c[i]:=by have:=congrArg qdg z;simpa using this
   have Q:x=a[i]:=by have:=congrArg qfP z;simpa using this
   subst t Q;obtain⟨k,O⟩:∃ k,min c.size a.size - i=k+1:=⟨min c.size a.size - i - 1,by lia⟩;rw[O]at v;have f:R (.ok (.ret (.bool (if e i=true then oG e l (decide (c.size<a.size)) k (i+1) else l i)))) ⟨C,g,d,D,os⟩:=v;refine qab ((H i K I).1 prog w _ _ ?_);cases t:e i with
   |true=>
    rw[t,iFP U]at f
    wp_walk
    exact⟨U,U,i+1,by lia,r,by rw[show min c.size a.size - (i+1)=k by lia];exact f⟩
   |false=>
    rw[t,iFN (by simp)]at f;simp only[Bool.not_false,if_true];refine qab (qdv ?_);refine qab ((H i K I).2 t prog w _ _ ?_)
    wp_walk
    exact⟨_,U,f⟩
  case fin=>
   rintro⟨S,V⟩ s' ⟨o,rfl,i,hi,m,v⟩
   simp only at o
   subst o;have N:min c.size a.size<=i:=by
    rcases qfC i (c.toList.zip a.toList).length with h'|h'
    ·rw[qdc h']at m;cases m
    ·rw[B]at h';exact h'
   rw[show min c.size a.size - i=0 by lia]at v
   wp_walk
   exact⟨_,U,by simpa [qeC,oG] using v⟩
  case h=>exact⟨U,U,0,qcI _,U,h⟩
section
variable {A:qa1}{s:qaj}{p q:Addr}{a b:Array Value}{e l:Nat->Bool}
theorem pS.tuples (y:s.heap.IsTuple p a) (hb:s.heap.IsTuple q b) (t:A.units<cLine) (r:∀ j (B:j<a.size) (C:j<b.size),EqAt A.in1 s a[j] b[j] (e j)/\(e j=false->pS A.in1 s a[j] b[j] (l j))) :
  pS A s (.ref p) (.ref q) (oG e l (decide (a.size<b.size)) (min a.size b.size) 0):=λprog w E Q h=>by
 obtain⟨⟨cls,o,data,z⟩,m,u,n,hd⟩:=id y;obtain⟨⟨k,f,data2,i⟩,c,g,v,d⟩:=id hb;subst u hd g d;exact qhx ⟨_,m,U⟩ ⟨_,c,U⟩ qdz qeo (qeg _ _) (pL p q a b n v o f z i e l)
  ⟨⟨m,c⟩,r,(λx=>nomatch x),h⟩ t
end
end L2
namespace L2
open PySem PySem.Spec PyProof.Rows PySem.SeqAt PySem.W
def bu:List Int->List Int->Bool
 |[],[]=>false
 |[],_::_=>true
 |_::_,[]=>false
 |a::as,b::bs=>if a=b then bu as bs else decide (a<b)
theorem ul:∀ a,bu a a=false
 |[]=>rfl
 |a::as=>by unfold bu;rw[iFP U];exact ul as
theorem iW:∀ a b,bu a b=false->bu b a=false->a=b
 |[],[],_,_=>rfl
 |[],_::_,h,_=>by cases h
 |_::_,[],_,h=>by cases h
 |a::as,b::bs,h,h'=>by
  unfold bu at h h';by_cases e:a=b
  ·subst e
   rw[iFP U]at h h';rw[iW as bs h h']
  ·lia
theorem rQ:∀ a b c,bu a b=true->bu b c=true->bu a c=true
 |[],[],_,h,_=>by cases h
 |[],_::_,[],_,h=>by cases h
 |[],_::_,_::_,_,_=>rfl
 |_::_,[],_,h,_=>by cases h
 |_::_,_::_,[],_,h=>by cases h
 |a::as,b::bs,c::cs,h,h'=>by
  unfold bu at h h' ⊢;by_cases e:a=b
  ·subst e
   rw[iFP U]at h;by_cases d:a=c
   ·subst d;rw[iFP U]at h' ⊢;exact rQ as bs cs h h'
   ·rw[iFN d]at h' ⊢;exact h'
  ·rw[iFN e,decide_eq_true_iff]at h
   by_cases d:b=c
   ·subst d;rw[iFN e,decide_eq_true_iff];exact h
   ·lia
theorem zJ:∀ a b c,bu a c=true->bu a b=true\/bu b c=true
 |a,b,c,h=>by
  by_cases e:bu a b=true
  ·exact .inl e
  ·rw[qew]at e
   by_cases d:bu b a=true
   ·exact .inr (rQ b a c d h)
   ·rw[qew]at d
    rw[iW a b e d]at h;exact .inr h
def OI:qfu:=⟨List Int,bu,ul,rQ,zJ,iW⟩
def TuI (h:Heap) (v:Value) (l:List Int):Prop:=∃ a b,v=.ref a/\h.IsTuple a b/\qb4 b.toList l
def cp:Value->Int
 |.int n _=>n
 |_=>0
def tuI (h:Heap):Value->List Int
 |.ref a=>match h.get? a with
  |some o=>match o.data with
   |.seq b _=>b.toList.map cp
   |_=>[]
  |none=>[]
 |_=>[]
theorem n8:∀ {a:List Value}{l:List Int},qb4 a l->a.map cp=l
 |_,_,.nil=>rfl
 |_,_,.cons n t h=>by rw[qaw,n8 h];rfl
theorem cU:∀ {a:List Value}{l:List Int},qb4 a l->a.length=l.length
 |_,_,.nil=>rfl
 |_,_,.cons n t h=>by rw[qaq,qaq,cU h]
theorem gH:∀ {a:List Value}{l:List Int},qb4 a l->∀ (j:Nat) (h:j<a.length),∃ t,a[j]=.int (l.getD j 0) t
 |_,_,.nil,j,h=>absurd h (qc1 j)
 |_,_,.cons n t b,0,h=>⟨t,U⟩
 |_,_,.cons n t b,j+1,h=>by
  obtain⟨t',e⟩:=gH b j _;exact⟨t',by simpa using e⟩
theorem TuI.is {h:Heap}{v:Value}{l:List Int} (t:TuI h v l):tuI h v=l:=by
 obtain⟨a,c,rfl,⟨o,b,d,n,hd⟩,hi⟩:=t;simp only[tuI,b,hd];exact n8 hi
theorem TuI.fit {h h':Heap}{v:Value}{l:List Int} (t:TuI h v l) (d:∀ b o,h.get? b=some o->h'.get? b=some o):TuI h' v l:=by
 obtain⟨a,c,rfl,⟨o,e,r⟩,hi⟩:=t;exact⟨a,c,U,⟨o,d _ _ e,r⟩,hi⟩
theorem oH:∀ (l m:List Int) (i:Nat) (e f:Nat->Bool),(∀ j,j<l.length->j<m.length->e (i+j)=decide (l.getD j 0=m.getD j 0)/\f (i+j)=decide (l.getD j 0<m.getD j 0))->
  oG e f (decide (l.length<m.length)) (min l.length m.length) i=bu l m
 |[],[],i,e,f,_=>by simp[oG,bu]
 |[],b::m,i,e,f,_=>by simp[oG,bu]
 |a::l,[],i,e,f,_=>by simp[oG,bu]
 |a::l,b::m,i,e,f,h=>by
  have c:=h 0 (by simp) (by simp);rw[qaq,qaq,show min _ _=min l.length m.length+1 by lia];have d:decide (l.length+1<m.length+1)=decide (l.length<m.length):=by simp
  rw[d];show (if e i=true then oG e f _ _ _ else f i)=if a=b then bu l m else decide _;rw[qjC]at c;rw[c.1,c.2];by_cases q:a=b
  ·subst q
   simp only[qbv,decide_true,if_true];exact oH l m _ e f λj k g=>by
    have:=h (j+1) (by simpa using k) (by simpa using g)
    rw[show i+1+j=i+(j+1) by lia];simpa using this
  ·simp[q]
section
variable {prog:qaQ}{w:World}{A:qa1}{E:Value->qaj->Prop}{s:qaj}{x y:Value}{l m:List Int}
theorem pS.ints {a b:Int}{t u:Tok}:pS A s (.int a t) (.int b u) (decide (a<b)):=λprog w E Q h=>qdB h
theorem EqAt.ints {a b:Int}{t u:Tok}:EqAt A s (.int a t) (.int b u) (decide (a=b)):=by
 exact (vo (A:=A) (s:=s) (y:=.int a) (x:=.int b) ⟨t,U⟩ ⟨u,U⟩ U U)
theorem TuI.lt (B:TuI s.heap x l) (ty:TuI s.heap y m) (L:A.units<cLine):pS A s x y (bu l m):=by
 obtain⟨a,f,rfl,C,g⟩:=B;obtain⟨b,d,rfl,H,k⟩:=ty;have I:f.size=l.length:=by exact cU g
 have F:d.size=m.length:=by exact cU k
 have z:=pS.tuples C H L λj W T=>by
  obtain⟨t,G⟩:=gH g j _;obtain⟨t',D⟩:=gH k j _;rw[qdQ]at G D;rw[G,D];exact⟨EqAt.ints,λ_=>pS.ints⟩
 rw[I,F,oH l m 0 _ _ λj C H=>by rw[qbj];exact⟨U,U⟩]at z;exact z
theorem TuI.one (B:TuI s.heap x l) (ty:TuI s.heap y m) (L:A.units<cLine) {Q:Bool->qaj->Prop} (h:Q (bu l m) s) (b:Bool):wpAny (model prog w) A (oneLt' b x y) Q E s:=by
 cases b with
 |false=>exact kat_one _ _ (B.lt ty L _ _ _ _ h)
 |true=>
  refine qab (wpAny_cRoomFor L ?_);obtain⟨a,f,rfl,C,g⟩:=id B;obtain⟨c,d,rfl,H,k⟩:=id ty;obtain⟨⟨cls,S,data,V⟩,K,O,n,hd⟩:=id C;obtain⟨⟨R,N,data2,M⟩,v,J,P,p⟩:=id H;subst O hd J p;have I:f.size=l.length:=by exact cU g
  have F:d.size=m.length:=by exact cU k
  refine qab (wpAny_callSpecialIfBound?_slot ⟨_,K,U⟩ qdz (qcY qdz ⟨_,K,U⟩ qeo (qeg _ _)
   (pL a c f d n P S N V M (λj=>decide (l.getD j 0=m.getD j 0)) λj=>decide (l.getD j 0<m.getD j 0)) ⟨⟨K,v⟩,λj W T=>?_,?_⟩))
  ·obtain⟨t,G⟩:=gH g j _
   obtain⟨t',D⟩:=gH k j _;rw[qdQ]at G D;rw[G,D];exact⟨EqAt.ints,λ_=>pS.ints⟩
  ·rw[I,F,oH l m 0 _ _ λj C H=>by rw[qbj];exact⟨U,U⟩]
   exact qcb h
theorem zK {Q:Bool->qaj->Prop}{fin:Bool}:∀ {f d:List Value}{l m:List Int} (i:Nat),qb4 f l->qb4 d m->(fin=decide (l.length<m.length))->Q (bu l m) s->KatLex prog w A true fin Q (f.zip d) i s
 |_,_,_,_,i,.nil,.nil,q,h=>kat_nil (by rw[q];exact h)
 |_,_,_,_,i,.nil,.cons n t r,q,h=>kat_nil (by rw[q];simpa [bu] using h)
 |_,_,_,_,i,.cons n t r,.nil,q,h=>kat_nil (by rw[q];simpa [bu] using h)
 |_,_,_,_,i,.cons a t r,.cons b u X,q,h=>by
  refine kat_cons (EqAt.ints prog w _ _ ?_);unfold bu at h;by_cases e:a=b
  ·subst e
   rw[iFP U]at h;rw[decide_eq_true U];exact kat_yes (zK _ r X (by rw[q];simp) h)
  ·rw[iFN e]at h
   rw[decide_eq_false e];refine kat_no ?_;cases (true&&i==0) with
   |true=>exact oneLt_int h
   |false=>exact kat_one _ _ (qdB h)
theorem TuI.tups (B:TuI s.heap x l) (ty:TuI s.heap y m) {Q:Bool->qaj->Prop} (h:Q (bu l m) s):wpAny (model prog w) A (keyLt' (tuples' true) x y) Q E s:=by
 obtain⟨a,f,rfl,⟨o,K,O,n,hd⟩,g⟩:=B;obtain⟨c,d,rfl,⟨Y,v,J,P,p⟩,k⟩:=ty;have I:f.size=l.length:=by exact cU g
 have F:d.size=m.length:=by exact cU k
 exact kat_lt K hd v p (zK 0 g k (by rw[I,F]) h)
end
section
variable {prog:qaQ}{w:World}{A:qa1}{E:Value->qaj->Prop}{s:qaj}{O:qfu}{rk:Keyed->O.α}{S:Keyed->Prop}{c:List Value}
theorem u6:∀ (c:List Value),c.zip c=c.map λv=>(v,v)
 |[]=>rfl
 |v::c=>by rw[qdq,u6 c];rfl
theorem EJ {α K:Type}{f:α->K}{R:K->K->Prop}:∀ {c:List α},c.toArray.size<2->(c.map f).Pairwise R
 |[],_=>List.Pairwise.nil
 |[v],_=>qgt _ _
 |_::_::_,h=>absurd h (by simp)
set_option maxHeartbeats 1000000 in
theorem qB {a:Addr}{n:Nat}{P:PySem.Fin->qaj->Prop} (G:s.heap.get? a=some (qfK "list" c.toArray n)) (z:c.length<64)
  (m:∀ h',(∀ b o,b≠a->s.heap.get? b=some o->h'.get? b=some o)->∃ r,(2<=c.length->∀ (Q':qdo->qaj->Prop) E',Q' r { s with heap:=h' }->wpAny (model prog w) A (qid c.toArray) Q' E' { s with heap:=h' })/\Cm prog w A { s with heap:=h' } r O rk S)
  (N:∀ v∈c,S (v,v))
  (h:∀ d:List Value,d.Perm c->d.Pairwise (λx y=>O.kle (rk (x,x)) (rk (y,y)))->P (.done (.ret .none)) { s with heap:=sortedHeap s.heap a c d.toArray }) :
  wpAny (model prog w) A (qfe.«list.sort» ⟨[.ref a],[]⟩) P E s:=by
 rw[list_sort_plain];have H:c.toArray.size=c.length:=by simp
 refine qab (listItems_at G U ?_);refine qab (qhj G U ?_ (by rw[H,qdu];lia));obtain⟨W,t⟩:∃ W,(s.heap.update a (qcO λ_=>#[])).get? a=some (qfK "list" #[] W):=⟨_,get?_update_seq G (λ_=>#[])⟩
 refine qab (qh0 t U ?_);refine qab (qjV ?_ (by rw[qdu];show c.toArray.toList.length<=_;simp;lia));refine qab (qfJ ?_);refine qbU ?_;have T:(s.heap.update a (qcO λ_=>(#[]:Array Value))).objs.size=s.heap.objs.size:=qhT ..;have i:∀ b o,b<s.heap.objs.size->(s.heap.update a (qcO λ_=>(#[]:Array Value))).get? b=some o->
   (((s.heap.update a (qcO λ_=>#[])).push (qfK "tuple" c.toArray 0)).push (qfK "list" #[] 0)).get? b=some o:=λb o hb q=>by
  rw[qdE _ _ _ (qax (by rw[qix,T];exact qa2 hb)),qdE _ _ _ (qax (by rw[T];exact hb))];exact q
 have k:=i a _ (qav G) t;obtain⟨r,M,hC⟩:=m _ λb o hb q=>
  i b o (qav q) (by rw[qhc _ _ _ _ hb];exact q)
 have pt:(c.toArray.zip c.toArray).toList=c.map λv=>(v,v):=by rw[<-u6];simp
 have fin:∀ g:qbZ,(arrOf g).toList.Perm (c.map λv=>(v,v))->(arrOf g).toList.Pairwise (λx y=>O.kle (rk x) (rk y))->∃ d:List Value,d.length=c.length/\(arrOf g).map (·.2)=d.toArray/\P (.done (.ret .none)) { s with heap:=sortedHeap s.heap a c d.toArray }:=λg C p=>by
  refine⟨(arrOf g).toList.map (·.2),by rw[qah,C.length_eq,qah],by apply Array.toList_inj.mp;simp,h _ ?_ ?_⟩
  ·have:=C.map (·.2)
   rw[qaP]at this;have e:(c.map ((λx=>x.2) ∘ λv=>((v,v):Keyed)))=c:=by rw[show ((λx:Keyed=>x.2) ∘ λv=>((v,v):Keyed))=id from U,qg8]
   rw[e]at this;exact this
  ·rw[qdC]
   refine p.imp_of_mem λ{x y} F hy q=>?_;have dx:x=(x.2,x.2):=by obtain⟨v,_,rfl⟩:=qaD.mp (C.mem_iff.mp F);rfl
   have Y:y=(y.2,y.2):=by obtain⟨v,_,rfl⟩:=qaD.mp (C.mem_iff.mp hy);rfl
   rw[<-dx,<-Y];exact q
 dsimp only;by_cases p:c.toArray.size<2
 ·rw[iFP p,iFP p]
  refine qab (qan ?_);rw[StateT.run_pure];refine qab (qan ?_);dsimp only;obtain⟨d,q0,L,I⟩:=fin (qiC general' (c.toArray.zip c.toArray) #[] 7 none) (by rw[pt]) (by rw[pt];exact EJ p);refine qab (qh0 k U ?_);rw[L];refine qab (qhj k U ?_);simp only[bne_self_eq_false,qbm,if_false];exact qan I
 ·rw[iFN p,iFN p]
  refine qab (M (by lia) _ _ ?_)
  refine qab (qct (CW hC (a0:=c.toArray.zip c.toArray) (Q:=λ_ g=>(arrOf g).toList.Perm (c.map λv=>(v,v))/\(arrOf g).toList.Pairwise (λx y=>O.kle (rk x) (rk y))/\qhk g=none)
   rfl U U U (λx F=>?_) (by simp;lia) (by simp;lia) λg B a2 J=>⟨by rw[<-pt];exact B,a2,J⟩) ?_ λ_ _ e=>e)
  ·rw[pt]at F
   obtain⟨v,hv,rfl⟩:=qaD.mp F;exact N v hv
  rintro⟨⟨⟩,g⟩ s' ⟨rfl,B,a2,J⟩
  dsimp only;obtain⟨d,q0,L,I⟩:=fin g B a2;refine qab (qh0 k U ?_);rw[L];refine qab (qhj k U ?_);rw[J];simp only[bne_self_eq_false,qbm,if_false];exact qan I
theorem pG {l:Addr}{Q:Value->qaj->Prop} (hl:s.heap.IsList l c.toArray) (z:c.length<64)
  (m:∀ h',(∀ b o,s.heap.get? b=some o->h'.get? b=some o)->∃ r,(2<=c.length->∀ (Q':qdo->qaj->Prop) E',Q' r { s with heap:=h' }->wpAny (model prog w) A.in1.in1 (qid c.toArray) Q' E' { s with heap:=h' })/\Cm prog w A.in1.in1 { s with heap:=h' } r O rk S)
  (N:∀ v∈c,S (v,v))
  (h:∀ d:List Value,d.Perm c->d.Pairwise (λx y=>O.kle (rk (x,x)) (rk (y,y)))->Q (.ref (s.heap.objs.size+1)) { s with heap:=qjH s.heap c d.toArray }) :
  wpAny (model prog w) A (call (.builtin "sorted") [.ref l]) Q E s:=by
 refine qgb kind_sorted plain_sorted entry_sorted (args_sorted1 _) ?_;refine qab (qan ?_);refine qab (collect_list hl ?_ (by rw[qdu];lia));refine qab (qfJ ?_ (by rw[qdu];lia));have D:((s.heap.push (qfK "list" #[] 0)).update s.heap.objs.size (qcO (·++c.toArray))).objs.size=s.heap.objs.size+1:=by rw[qhT,qix]
 generalize V:((s.heap.push _).update s.heap.objs.size _)=X at D ⊢;have u:(X.push (qfK "list" c.toArray 0)).get? (s.heap.objs.size+1)=some (qfK "list" c.toArray 0):=by
  rw[<-D];exact qas _ U
 have keep:∀ b o,s.heap.get? b=some o->b≠s.heap.objs.size+1/\(X.push (qfK "list" c.toArray 0)).get? b=some o:=λb o q=>by
  have j:=qav q;refine⟨qax (qa2 j),?_⟩;rw[qdE _ _ _ (qax (by rw[D];exact qa2 j)),<-V,qhc _ _ _ _ (qax j),qdE _ _ _ (qax j)];exact q
 rw[D];refine qab (qbU (qbV qjY ⟨_,u,U⟩ qjO (qB u z (λh' hk=>m h' λb o q=>hk b o (keep b o q).1 (keep b o q).2) N λd B a2=>⟨_,U,?_⟩) (qj5 _)));refine qan ⟨_,U,?_⟩
 have:=h d B a2
 unfold qjH at this;rw[V]at this;exact this
end
def nG (h:Heap):Value->Option Value
 |.ref a=>match h.get? a with
  |some o=>match o.data with
   |.seq b _=>b[0]?
   |_=>none
  |none=>none
 |_=>none
theorem TuI.fst {h:Heap}{v:Value}{l:List Int} (t:TuI h v l):nG h v=none\/∃ n t,nG h v=some (.int n t):=by
 obtain⟨a,b,rfl,⟨o,c,f,n,hd⟩,hi⟩:=t;simp only[nG,c,hd];by_cases d:0<b.size
 ·obtain⟨t,e⟩:=gH hi 0 _
  exact .inr ⟨_,t,by rw[qbz d];rw[qdQ]at e;rw[e]⟩
 ·exact .inl (qdx (by lia))
section
variable {prog:qaQ}{w:World}{A:qa1}{E:Value->qaj->Prop}{s:qaj}
theorem xq {v:Value}{l:List Int} (t:TuI s.heap v l) {Q:Value->qaj->Prop} (h:Q (.type "tuple") s):wpAny (model prog w) A (typeOf v) Q E s:=by
 obtain⟨a,G,rfl,⟨o,C,H,n,hd⟩,hi⟩:=t;refine Looks.here ((Looks.ld C).andThen .now) ?_;rw[H];exact h
theorem x8 {v:Value}{l:List Int} (t:TuI s.heap v l) {Q:Option Value->qaj->Prop} (h:Q (nG s.heap v) s):wpAny (model prog w) A (firstOfTuple' v) Q E s:=by
 refine qab (xq t ?_);obtain⟨a,G,rfl,⟨o,C,H,n,hd⟩,hi⟩:=t;simp only[nG,C,hd]at h;exact qab (listItems_at C hd (qan h))
theorem gG:∀ {b:List Value}{Q:List (Option Value)->qaj->Prop},(∀ v∈b,∃ l,TuI s.heap v l)->Q (b.map (nG s.heap)) s->wpAny (model prog w) A (b.mapM firstOfTuple') Q E s
 |[],_,_,h=>by exact qan h
 |v::b,Q,t,h=>by
  rw[List.mapM_cons];obtain⟨l,D⟩:=t v qag;refine qab (x8 D (qab (gG (λu i=>t u (qai _ i)) (qan h))))
theorem vg {x y:Value}{l m:List Int} (d:TuI s.heap x l) (c:TuI s.heap y m) {Q:Bool->qaj->Prop} (h:Q (OI.blt (tuI s.heap x) (tuI s.heap y)) s):Q (bu l m) s:=by
 have h':=h;rw[d.is,c.is]at h';exact h'
theorem uh {b:List Value} (t:∀ v∈b,∃ l,TuI s.heap v l) (i:A.units<cLine):∃ I,(2<=b.length->∀ (Q':qdo->qaj->Prop) E',Q' I s->wpAny (model prog w) A (qid b.toArray) Q' E' s)/\
  Cm prog w A s I OI (λp=>tuI s.heap p.1) (λp=>∃ l,TuI s.heap p.1 l):=by
 by_cases c1:(b.map (nG s.heap)).toArray.all (·.isSome)=true
 ·refine⟨_,λB Q' E' j=>?_,λx y ⟨l,d⟩ ⟨m,c⟩ Q E h=>d.tups c (vg d c h)⟩
  rw[qh1,qdD];refine qab (qab (gG t (qan ?_)));rw[iFP c1];refine qab (qdv ?_);have M:∀ v∈(b.map (nG s.heap)).filterMap id,∃ n t,v=.int n t:=λv z=>by
   obtain⟨o,C,e⟩:=qfh.mp z;obtain⟨u,i,rfl⟩:=qaD.mp C;obtain⟨l,J⟩:=t u i;rcases J.fst with q|⟨n,t',q⟩
   ·rw[q]at e;cases e
   ·rw[q]at e;exact⟨n,t',(qaN e).symm⟩
  have L:∃ f fr,(b.map (nG s.heap)).filterMap id=f::fr:=by
   match b,B,c1 with
   |v::b,_,c1=>
    simp only[qaw,qfE,qbw,qbi]at c1;obtain⟨u,i⟩:=qcv.mp c1.1;exact⟨u,_,by rw[qaw,i];rfl⟩
  obtain⟨f,fr,e⟩:=L;have K:(b.map (nG s.heap)).toArray.filterMap id=(f::fr).toArray:=by rw[<-e];simp
  rw[K,qjK,qdD];refine qab (qab (qab (kas_mapM (r:=.type "int") _ (λv z Q'' k=>?_) (qan ?_))))
  ·rw[<-e]at z
   obtain⟨n,t',rfl⟩:=M v z;exact qan k
  ·have F:(qht (λ_=>Value.type "int") (f::fr)).toArray[0]?=some (.type "int"):=by simp
   rw[F];have g:((qht (λ_=>Value.type "int") (f::fr)).toArray.all λx=>x==.type "int")=true:=by
    simp only[qfE,qgR,qbb];intro _ _;rfl
   simp only[g,if_true];exact qan (qan j)
 ·by_cases c2:((b.map (nG s.heap)).toArray[0]?.bind id).isSome=true
  ·refine⟨general',λB Q' E' j=>?_,λx y ⟨l,d⟩ ⟨m,c⟩ Q E h=>d.one c i (vg d c h) false⟩
   rw[qh1,qdD];refine qab (qab (gG t (qan ?_)));rw[iFN c1,iFP c2];exact qan j
  ·refine⟨qic,λB Q' E' j=>?_,λx y ⟨l,d⟩ ⟨m,c⟩ Q E h=>d.one c i (vg d c h) true⟩
   rw[qh1,qdD];refine qab (qab (gG t (qan ?_)));rw[iFN c1,iFN c2,qjK,qdD];refine qab (qab (qab (kas_mapM (r:=.type "tuple") _ (λv z Q'' k=>?_) (qan ?_))))
   ·obtain⟨l,D⟩:=t v z
    exact xq D k
   ·obtain⟨v,b,rfl⟩:∃ v r,b=v::r:=by
     match b,B with
     |v::r,_=>exact⟨v,r,U⟩
    have F:(qht (λ_=>Value.type "tuple") (v::b)).toArray[0]?=some (.type "tuple"):=by simp
    rw[F];have g:((qht (λ_=>Value.type "tuple") (v::b)).toArray.all λx=>x==.type "tuple")=true:=by
     simp only[qfE,qgR,qbb];intro _ _;rfl
    simp only[g,if_true];exact qan (qan j)
theorem zC {b:List Value}{ns:List Int} (t:qb4 b ns):(2<=b.length->∀ (Q':qdo->qaj->Prop) E',Q' qic s->wpAny (model prog w) A (qid b.toArray) Q' E' s)/\
  Cm prog w A s qic OI (λp=>[cp p.1]) (λp=>∃ n t,p.1=.int n t):=by
 refine⟨λB Q' E' j=>?_,λx y ⟨n,t,d⟩ ⟨m,u,c⟩ Q E h=>?_⟩
 ·match b,B,t with
  |v1::N::r,_,t=>rw[keyKind_ints t];exact qan j
 ·rw[d,c]
  refine oneLt_int ?_;have e:OI.blt [cp x.1] [cp y.1]=decide (n<m):=by
   rw[d,c];show (if n=m then bu [] [] else decide (n<m))=_;by_cases q:n=m
   ·subst q;simp[bu]
   ·rw[iFN q]
  rw[e]at h;exact h
end
def vA (x:List Int):List (List Int)->List (List Int)
 |[]=>[x]
 |y::a=>if bu y x=true then y::vA x a else x::y::a
def ax:List (List Int)->List (List Int)
 |[]=>[]
 |x::xs=>vA x (ax xs)
theorem lH (x:List Int):∀ a,(vA x a).Perm (x::a)
 |[]=>qdt _
 |y::a=>by
  unfold vA;split
  ·exact (List.Perm.cons y (lH x a)).trans (List.Perm.swap x y a)
  ·exact qdt _
theorem aK:∀ xs,(ax xs).Perm xs
 |[]=>qdt _
 |x::xs=>(lH x _).trans (List.Perm.cons x (aK xs))
def leL (a b:List Int):Prop:=bu b a=false
theorem yn {a b c:List Int} (h:leL a b) (h':leL b c):leL a c:=qdL (O:=OI) h h'
theorem zG {a b:List Int} (h:leL a b) (h':leL b a):a=b:=iW a b h' h
theorem l8 (x:List Int):∀ {c:List (List Int)},c.Pairwise leL->(vA x c).Pairwise leL
 |[],_=>by simp[vA]
 |y::c,h=>by
  unfold vA;split
  ·rename_i a
   refine qbl.mpr ⟨λz b=>?_,l8 x (qbl.mp h).2⟩;rcases qaz.mp ((lH x c).mem_iff.mp b) with rfl|b
   ·exact KeyOrd.klt_asymm (O:=OI) a
   ·exact (qbl.mp h).1 z b
  ·rename_i a
   rw[qew]at a;refine qbl.mpr ⟨λz b=>?_,h⟩;rcases qaz.mp b with rfl|b
   ·exact a
   ·exact yn a ((qbl.mp h).1 z b)
theorem bR:∀ xs,(ax xs).Pairwise leL
 |[]=>List.Pairwise.nil
 |x::xs=>l8 x (bR xs)
theorem gY {xs c:List (List Int)} (p:xs.Perm c) (e:xs.Pairwise leL) (d:c.Pairwise leL):xs=c:=
 qfF (λa b _ _ e d=>zG e d) e d p
def fU:List D->Option (List (List Int))
 |[]=>some []
 |.tup l::ds=>(aT l).bind λns=>(fU ds).map λr=>ns::r
 |_=>none
def ao (l:List Int):D:=.tup (l.map D.int)
theorem fE:∀ {ds:List D}{ls:List (List Int)},fU ds=some ls->ds=ls.map ao
 |[],_,h=>by cases h;rfl
 |.tup l::ds,_,h=>by
  simp only[fU,qac,qad]at h;obtain⟨ns,b,r,a,rfl⟩:=h;rw[fE a,bm b];rfl
 |.non::_,_,h=>by cases h
 |.bl _::_,_,h=>by cases h
 |.int _::_,_,h=>by cases h
 |.str _::_,_,h=>by cases h
 |.ty _::_,_,h=>by cases h
 |.dct::_,_,h=>by cases h
 |.scr _::_,_,h=>by cases h
 |.lst _::_,_,h=>by cases h
theorem gZ:∀ (ls:List (List Int)),fU (ls.map ao)=some ls
 |[]=>rfl
 |l::ls=>by
  have:aT (l.map D.int)=some l:=by
   induction l with
   |nil=>rfl
   |cons a l b=>simp[aT,b]
  simp only[qaw,ao,fU,this,qaa];rw[gZ ls];rfl
def qG (ds:List D):Option (List D):=match aT ds with
 |some ns=>some ((rK ns).map D.int)
 |none=>(fU ds).map λls=>(ax ls).map ao
def iQ (st:Sto):List W->Option (List D)
 |[w]=>(lsD st w).bind λds=>if ds.length<64 then qG ds else none
 |_=>none
section
variable {K:qae}{X:Cx}{i:List (Addr×Obj)}{T:St}{H:Hp}{s:qaj}{φ:List Addr}
def toV:Value->V
 |.ref a=>.ref a
 |_=>.non
theorem Cv {l:List Int}{v:V}{u:Value} (I:Inv X i T H s) (r:Rl X.K H φ (ao l) v) (q:aP v u):TuI s.heap u l/\v=toV u/\aP (toV u) u:=by
 obtain⟨a,P,rfl,D,C⟩:=r;obtain⟨z,rv,p,_⟩:=I.tuple (SqT.of D);have e:=C.ints;subst e;subst q;exact⟨⟨a,z.toArray,U,p,by simpa using cF rv⟩,U,U⟩
theorem kZ (I:Inv X i T H s):∀ {ls:List (List Int)}{P:List V}{f:List Value},Rls X.K H φ (ls.map ao) P->aI P f->
  f.map (tuI s.heap)=ls/\∀ u∈f,TuI s.heap u (tuI s.heap u)/\Rl X.K H φ (ao (tuI s.heap u)) (toV u)/\aP (toV u) u
 |[],_,f,h,q=>by cases h;cases q;exact⟨U,λu A=>by cases A⟩
 |l::ls,_,f,h,q=>by
  obtain⟨v,r,rfl,D,C⟩:=h;cases q with
  |cons q1 q2=>
   obtain⟨t,e,e'⟩:=Cv I D q1;obtain⟨i1,i2⟩:=kZ I C q2;refine⟨by rw[qaw,i1,t.is],λx B=>?_⟩;rcases qaz.mp B with rfl|B
   ·rw[t.is,<-e];exact⟨t,D,q1⟩
   ·exact i2 x B
theorem pv:∀ {f:List Value},(∀ u∈f,TuI s.heap u (tuI s.heap u)/\Rl K H φ (ao (tuI s.heap u)) (toV u)/\aP (toV u) u)->Rls K H φ (f.map λu=>ao (tuI s.heap u)) (f.map toV)/\aI (f.map toV) f
 |[],_=>⟨U,.nil⟩
 |u::f,h=>by
  have D:=h u qag;have C:=pv λx B=>h x (qai _ B);exact⟨⟨_,_,U,D.2.1,C.1⟩,.cons D.2.2 C.2⟩
theorem n6:∀ {f:List Value}{l:List Int},qb4 f l->∀ u∈f,∃ n t,u=.int n t
 |_,_,.nil,u,A=>by cases A
 |_,_,.cons n t h,u,A=>by
  rcases qaz.mp A with rfl|A
  ·exact⟨n,t,U⟩
  ·exact n6 h u A
theorem qx:∀ {f:List Value},(∀ u∈f,∃ n t,u=.int n t)->qb4 f (f.map cp)
 |[],_=>.nil
 |u::f,h=>by
  obtain⟨n,t,rfl⟩:=h u qag;exact .cons n t (qx λx B=>h x (qai _ B))
theorem iw {k:Nat} (hr:bz k X.A) (hK:X.K=K:=by rfl):sD K X (.builtin "sorted") iQ:=by
 subst hK;refine⟨λst ws d h=>?_⟩
 match ws,h with
 |[w],h=>
  simp only[iQ,qac]at h;obtain⟨ds,e1,h⟩:=h;split at h
  ·intro i s T H xs f Q I rv q
   obtain⟨φ,S,⟨v,r,rfl,r1,rfl⟩,q⟩:=q;obtain⟨a,P,rfl,D,C⟩:=rR S r1 e1;obtain⟨u,rfl,ru⟩:=gr rv;cases ru;obtain⟨z,G,pl,hz⟩:=I.list (.inl D);have g:z.length<64:=by
    have:=G.length
    have:=C.length
    lia
   have hun:X.A.in1.in1.units<cLine:=by
    have:=hr.un
    lia
   have hn:=I.hok.fresh (qc2 _);have N:∀ (c:List Value) (J:List V),aI J c->c.length<64->Inv X i T _ { s with heap:=qjH s.heap z c.toArray }:=λc J j ho=>by
    obtain⟨ep,he⟩:=sortedAll_at s.heap z c.toArray;refine I.laid (o:=.lst J) (λb o q=>sortedAll_old q) (qc2 _) ⟨?_,c,ep,j,by simpa  using he⟩;rw[j.length];exact jq (by lia)
   unfold qG at h;cases hi:aT ds with
   |some ns=>
    rw[hi]at h;cases h;cases bm hi;cases C.ints;have R:=cF G;refine pG pl.isList g (λh' _=>⟨qic,zC R⟩) (λv j=>n6 R v j) λc F a2=>?_;have hp:=by
     have:=F.map cp
     rw[n8 R]at this;exact this
    have hs:(c.map cp).Pairwise (·<=·):=by
     rw[qdC];refine a2.imp λ{x y} q=>?_;have q':bu [cp y] [cp x]=false:=q;by_cases e:cp y=cp x
     ·lia
     ·have:bu [cp y] [cp x]=decide (cp y<cp x):=by show (if _ then _ else _)=_;rw[iFN e]
      lia
    have j:=lb (qx (λu A=>n6 R u (F.mem_iff.mp A)));rw[(uQ (hp.trans (l9 ns).symm) hs (jA ns))]at j;exact⟨.ref _,_,N c _ j (by rw[F.length_eq];exact g),U,q _ _ H (aR.refl H) hn (Rls.of_ints _)⟩
   |none=>
    rw[hi]at h;obtain⟨ls,Y,rfl⟩:=qad.mp h;cases fE Y;obtain⟨m1,m2⟩:=kZ I C G;refine pG (O:=OI) (rk:=λp=>tuI s.heap p.1) (S:=λp=>∃ l,TuI s.heap p.1 l) pl.isList g (λh' L=>?_) (λv j=>⟨_,(m2 v j).1⟩) λc F a2=>?_
    ·obtain⟨κ,k1,k2⟩:=uh (s:={ s with heap:=h' }) (λv j=>⟨_,(m2 v j).1.fit L⟩) hun
     refine⟨κ,k1,λx y ⟨l,B⟩ ⟨m,W⟩ Q E hq=>k2 x y ⟨l,B.fit L⟩ ⟨m,W.fit L⟩ Q E ?_⟩;have M:Q (bu (tuI s.heap x.1) (tuI s.heap y.1)) { s with heap:=h' }:=hq;show Q (bu (tuI h' x.1) (tuI h' y.1)) { s with heap:=h' };rw[(B.fit L).is,(W.fit L).is];rw[B.is,W.is]at M;exact M
    ·obtain⟨b1,b2⟩:=pv (λu A=>m2 u (F.mem_iff.mp A))
     have hp:=by
      have:=F.map (tuI s.heap)
      rw[m1]at this;exact this
     have hs:(c.map (tuI s.heap)).Pairwise leL:=by
      rw[qdC];exact a2.imp λ{x y} q=>q
     have e2:(c.map λu=>ao (tuI s.heap u))=(ax ls).map ao:=by rw[<-(gY (hp.trans (aK ls).symm) hs (bR ls)),qaP];rfl
     rw[e2]at b1;exact⟨.ref _,_,N c _ b2 (by rw[F.length_eq];exact g),U,q _ _ H (aR.refl H) hn b1⟩
  ·cases h
end
end L2
namespace L2
open PySem PySem.Spec PyProof.Rows
def mE (st:Sto) (x y:W):Option D:=match x with
 |.d x=>(fU [x]).bind λa=>(gX st y).bind λds=>(fU ds).map λls=>.bl (!decide (a.headD []∈ls))
 |_=>none
theorem jf:∀ a b:List Int,dz (a.map D.int) (b.map D.int)=decide (a=b)
 |[],[]=>rfl
 |[],_::_=>rfl
 |_::_,[]=>rfl
 |x::a,y::b=>by
  show (x==y&&dz _ _)=_;rw[jf a b,qeI];simp
theorem x6 (a b:List Int):eqD (ao a) (ao b)=decide (a=b):=jf a b
theorem wf {α:Type} (f:α->List Int) (l:List Int):∀ a:List α,a.any (λu=>decide (f u=l))=decide (l∈a.map f)
 |[]=>by rw[List.any_nil,decide_eq_false (λh=>nomatch h)]
 |u::a=>by
  rw[qcj,wf f l a,qaw];by_cases h:f u=l
  ·rw[decide_eq_true h,qiP,decide_eq_true (by rw[h];exact qag)]
  ·rw[decide_eq_false h,Bool.false_or]
   by_cases b:l∈a.map f
   ·rw[decide_eq_true b,decide_eq_true (qai _ b)]
   ·rw[decide_eq_false b,decide_eq_false λq=>by
     rcases qaz.mp q with q|q
     ·exact h q.symm
     ·exact b q]
theorem qD (l:List Int):okD 60 (ao l)=true:=by
 show (l.map D.int).all _=true;rw[qbb];intro d hd;obtain⟨i,_,rfl⟩:=qaD.mp hd;rfl
section
variable {K:qae}{X:Cx}
theorem zy {f:List (Addr×Obj)}{B:St}{H:Hp}{s:qaj}{φ:List Addr}{k:Nat} (j:bz k X.A) (I:Inv X f B H s) {l:List Int}{ls:List (List Int)}{x:V}{v:Value}{xs:List V}{o:List Value} (i:Rl X.K H φ (ao l) x) (G:aP x v) (n:Rls X.K H φ (ls.map ao) xs) (C:aI xs o) :
  (∀ u∈o,qdy X.A.in1 s u v (decide (tuI s.heap u=l)))/\o.any (λu=>decide (tuI s.heap u=l))=decide (l∈ls):=by
 obtain⟨e,h⟩:=kZ I n C;refine⟨λu J=>?_,?_⟩
 ·obtain⟨_,a,b⟩:=h u J
  rw[<-x6];exact ze I 60 a i b G (qD _) (qD _) (by have:=j.units;lia)
 ·rw[<-e]
  exact wf _ _ _
theorem gj {k:Nat} (j:bz k X.A) (E:X.K=K:=by rfl):OpD K X (qbM .NotIn) mE:=by
 subst E;refine⟨λst x y d h=>?_⟩
 match x,h with
 |.d x,h=>
  simp only[mE,qac,qad]at h;obtain⟨L,N,ds,F,ls,M,rfl⟩:=h;intro f s B H R P v u Q I A D q;obtain⟨φ,S,i,n,q⟩:=q;obtain⟨a,O,rfl,g,t⟩:=jp S n F;cases D;have ex:=fE N
  match L,ex with
  |[l],ex=>
   cases ex;rw[fE M]at t;rcases g with g|g
   ·obtain⟨c,p,m,_⟩:=I.list g
    obtain⟨z,r⟩:=zy j I i A t p;refine SeqAt.notIn_listAt _ m.isList (λw hw=>z w (by simpa using hw)) ⟨.bl _,H,I,U,q _ H (aR.refl H) ?_⟩;rw[show c.toArray.any _=c.any (λu=>decide (tuI s.heap u=l)) by simp,r];rfl
   ·obtain⟨c,p,m,_⟩:=I.tuple g
    obtain⟨z,r⟩:=zy j I i A t p;refine SeqAt.notIn_tupleAt _ m (λw hw=>z w (by simpa using hw)) ⟨.bl _,H,I,U,q _ H (aR.refl H) ?_⟩;rw[show c.toArray.any _=c.any (λu=>decide (tuI s.heap u=l)) by simp,r];rfl
end
end L2
namespace L2
open PySem PySem.Spec PyProof.Rows
open PySem.AutoSeq1 (wpAny_loadPart')
def SIt (k:Bool) (h:Heap) (a l:Addr) (i:Nat):Prop:=match k with
 |true=>h.IsTupleIter a l i
 |false=>h.IsListIter a l i
def SIs (k:Bool) (h:Heap) (l:Addr) (xs:Array Value):Prop:=match k with
 |true=>h.IsTuple l xs
 |false=>h.IsList l xs
theorem SIt.to {k:Bool}{h h':Heap}{b l:Addr}{i:Nat} (a:SIt k h b l i) (f:∀ o,h.get? b=some o->h'.get? b=some o):SIt k h' b l i:=by
 cases k with
 |true=>exact Heap.IsTupleIter.at a f
 |false=>exact Heap.IsListIter.at a f
theorem SIs.to {k:Bool}{h h':Heap}{l:Addr}{xs:Array Value} (a:SIs k h l xs) (f:∀ o,h.get? l=some o->h'.get? l=some o):SIs k h' l xs:=by
 cases k with
 |true=>obtain⟨o,e,r⟩:=a;exact⟨o,f o e,r⟩
 |false=>exact Heap.IsList.at a f
theorem SIt.live {k:Bool}{h:Heap}{b l:Addr}{i:Nat} (a:SIt k h b l i):∃ o c,h.get? b=some o/\o.data=.fields c:=by
 cases k with
 |true=>obtain⟨o,e,_,d⟩:=a;exact⟨o,_,e,d⟩
 |false=>obtain⟨o,e,_,d⟩:=a;exact⟨o,_,e,d⟩
section
variable {prog:qaQ}{w:World}{A:qa1}{E:Value->qaj->Prop}{s:qaj}{k k2:Bool}
theorem rW {L l:Addr}{i:Nat}{xs:Array Value}{x:Value}{Q:Value->qaj->Prop} (B:SIt k s.heap L l i) (hl:SIs k s.heap l xs) (C:xs[i]?=some x)
  (T:∀ h',SIt k h' L l (i+1)->qdn L s.heap h'->Q x { s with heap:=h' }):wpAny (model prog w) A (qcG (.ref L)) Q E s:=by
 cases k with
 |true=>exact fA B hl C T
 |false=>exact wpAny_nextOf_list_item B hl C T
theorem zV {L l:Addr}{i:Nat}{xs:Array Value}{Q:Value->qaj->Prop} (hh:A.handled=none) (B:SIt k s.heap L l i) (hl:SIs k s.heap l xs) (C:xs[i]?=none)
  (hE:∀ h' e,qhd L s.heap h'->(∃ o,h'.get? e=some o/\o.cls=.type "StopIteration")->E (.ref e) { s with heap:=h' }):wpAny (model prog w) A (qcG (.ref L)) Q E s:=by
 cases k with
 |true=>exact gh hh B hl C hE
 |false=>exact wpAny_nextOf_list_end hh B hl C hE
variable {z TI TO i1 i2 l1 l2:Addr}{n:Nat}{xs ys:Array Value}{a b:Value}
structure ZSt (k k2:Bool) (z TI TO i1 i2 l1 l2:Addr) (f0:Value) (n:Nat) (h:Heap):Prop where
 z:IsZip h z TI TO f0
 ti:qhb h TI (.ref i1) (.ref i2)
 to:∃ a b,qhb h TO a b
 t1:SIt k h i1 l1 n
 t2:SIt k2 h i2 l2 n
set_option maxHeartbeats 1000000 in
theorem A9 {x y:Value}{Q:Option Value->qaj->Prop} (D:ZipApart z TI TO i1 i2 l1 l2) (hs:ZSt k k2 z TI TO i1 i2 l1 l2 .none n s.heap) (H:SIs k s.heap l1 xs) (O:SIs k2 s.heap l2 ys) (C:xs[n]?=some x) (hy:ys[n]?=some y)
  (T:∀ h',ZSt k k2 z TI TO i1 i2 l1 l2 (qgB s.heap.objs.size) (n+1) h'->qhb h' s.heap.objs.size x y->h'.objs.size=s.heap.objs.size+1->
    (∀ c o,c≠z->c≠TO->c≠i1->c≠i2->s.heap.get? c=some o->h'.get? c=some o)->Q (some (.ref s.heap.objs.size)) { s with heap:=h' }) :
  wpAny (model prog w) A (qg4 (.ref z)) Q E s:=by
 obtain⟨r,G,⟨a,b,R⟩,h1,h2⟩:=hs;have hT:s.TypeIs (.ref z) "zip":=⟨_,r,U⟩
 unfold qg4;refine qab (qeK (qbK (name:=qd9 "__next__") hT qeV (qbV qeV hT qio ?_ (qh8 _))))
 show wpAny _ _ (field (.ref z) 2 >>= _) _ _ _;refine qab (qcd r U (x:=.bool false) U ?_);show wpAny _ _ (field (.ref z) 3 >>= _) _ _ _;refine qab (qcd r U (x:=.ref TI) U (qab (qbJ G U ?_)));refine qab ?_;unfold qhD;refine qab (qcd r U (x:=.none) U (qan ?_));simp only[if_true];refine qab (qdv (qab (qcd r U (x:=.ref TO) U ?_)));refine qab (qc4 r (by simp) λg1 t s1=>?_);replace t:IsZip g1 z TI TO .ellipsis:=t;refine qab ?_;simp only[qhP,qhW,qfW,qh5];have f:=s1.extBut;refine qab (qab (qfI ?_));refine qab (rW (h1.to λo q=>f _ o D.i1z q) (H.to λo q=>f _ o D.l1z q) C λg2 h12 P=>qan ?_);have v:=P.extBut;have d:qhb g2 TO a b:=v _ _ D.TOi1 (f _ _ D.TOz R);refine qab (qbJ d U (qab (qfi d λg3 m M=>?_)));replace m:qhb g3 TO x b:=m;have F:=M.extBut;refine qab (qcP (qan ?_));refine qab (qab (qfI ?_));refine qab (rW (h2.to λo q=>F _ o D.TOi2.symm (v _ o D.i12.symm (f _ o D.i2z q))) (O.to λo q=>F _ o D.l2TO (v _ o D.l2i1 (f _ o D.l2z q))) hy λg4 h24 s4=>qan ?_);have e4:=s4.extBut;have K:qhb g4 TO x b:=e4 _ _ D.TOi2 m;refine qab (qbJ K U (qab (qfi K λg p s5=>?_)));replace p:qhb g TO x y:=p;have e5:=s5.extBut;refine qab (qcP (qan (qan ?_)));refine qab (qbJ p U (qab (qjV ?_)));have V:g.objs.size=s.heap.objs.size:=by rw[s5.1,s4.1,M.1,P.1,s1.1]
 have hz5:IsZip g z TI TO .ellipsis:=e5 _ _ D.TOz.symm (e4 _ _ D.i2z.symm (F _ _ D.TOz.symm (v _ _ D.i1z.symm t)));have kp:∀ c o,c≠z->c≠TO->c≠i1->c≠i2->s.heap.get? c=some o->g.get? c=some o:=λc o c1 c2 c3 Y e=>e5 _ _ c2 (e4 _ _ Y (F _ _ c2 (v _ _ c3 (f _ _ c1 e))));have h25:SIt k2 g i2 l2 (n+1):=h24.to λo q=>e5 _ o D.TOi2.symm q;have J:z<g.objs.size:=qav hz5;show wpAny _ _ (qd3 (.ref z) (.ref g.objs.size) >>= _) _ _ _;refine qab ?_;unfold qd3;have hz6:IsZip (g.push { cls:=.type "tuple",data:=.seq #[x,y] }) z TI TO .ellipsis:=qaf _ hz5
 refine qab (qc4 hz6 (by simp) λg7 S s7=>?_);replace S:IsZip g7 z TI TO (qgB g.objs.size):=S;refine qc4 S (by simp) λg8 I s8=>?_;replace I:IsZip g8 z TI TO (qgB g.objs.size):=I;have up:∀ c o,c≠z->g.get? c=some o->g8.get? c=some o:=λc o c1 e=>s8.extBut _ _ c1 (s7.extBut _ _ c1 (qaf _ e));have hT8:qhb g8 g.objs.size x y:=s8.extBut _ _ (qck J) (s7.extBut _ _ (qck J) (qas _ U));have hz9:g8.objs.size=g.objs.size+1:=by rw[s8.1,s7.1,qbn]
 rw[V]at I hT8 hz9;refine qan ⟨_,U,qan ?_⟩;show Q (some (.ref g.objs.size)) _;rw[V];exact T g8 ⟨I,up _ _ D.TIz (kp _ _ D.TIz D.TITO D.TIi1 D.TIi2 G),⟨_,_,up _ _ D.TOz p⟩,(h12.to λo q=>e5 _ o D.TOi1.symm (e4 _ o D.i12 (F _ o D.TOi1.symm q))).to λo q=>up _ o D.i1z q,h25.to λo q=>up _ o D.i2z q⟩ hT8 hz9 λc o c1 c2 c3 Y e=>up c o c1 (kp c o c1 c2 c3 Y e)
set_option maxHeartbeats 1000000 in
theorem CY {Q:Option Value->qaj->Prop} (hh:A.in1.handled=none) (D:ZipApart z TI TO i1 i2 l1 l2) (hs:ZSt k k2 z TI TO i1 i2 l1 l2 .none n s.heap) (H:SIs k s.heap l1 xs) (O:SIs k2 s.heap l2 ys) (hend:xs[n]?=none\/ys[n]?=none)
  (T:∀ h',(∀ c o,c≠z->c≠TO->c≠i1->c≠i2->s.heap.get? c=some o->h'.get? c=some o)->Q none { s with heap:=h' }):wpAny (model prog w) A (qg4 (.ref z)) Q E s:=by
 obtain⟨r,G,⟨a,b,R⟩,h1,h2⟩:=hs;have hT:s.TypeIs (.ref z) "zip":=⟨_,r,U⟩
 have fin:∀ (h':Heap) (e:Addr),_->(∃ o,h'.get? e=some o/\o.cls=.type "StopIteration")->
   wpAny (model prog w) A (do if (<-isInstance (.ref e) _) then pure none else throw (.ref e)) Q E { s with heap:=h' }:=λh' e hk ⟨o,ho,hc⟩=>
  qab (qiR ⟨o,ho,hc⟩ qj1 (qan (T _ hk)))
 refine qab (qeK (qbK hT qeV (qbV qeV hT qio ?_ (qh8 _))));show wpAny _ _ (field (.ref z) 2 >>= _) _ _ _;refine qab (qcd r U (x:=.bool false) U ?_);refine qab (qcd r U U (qab (qbJ G U ?_)));refine qab ?_;refine qab (qcd r U U (qan ?_));refine qab (qdv (qab (qcd r U U ?_)));refine qab (qc4 r (by simp) λg1 t s1=>?_);refine qab ?_;simp only[qhP,qhW,qfW,qh5];have f:=s1.extBut;refine qab (qab (qfI ?_));cases C:xs[n]? with
 |none=>
  refine qab (zV hh (h1.to λo q=>f _ o D.i1z q) (H.to λo q=>f _ o D.l1z q) C λg2 e P he=>?_);obtain⟨oe,j,u⟩:=he;have W:IsZip g2 z TI TO .ellipsis:=P _ _ D.i1z.symm t;have N:e≠z:=λx=>by subst x;rw[W]at j;cases j;simp at u
  exact qc4 W (by simp) λg3 _ M=>fin g3 e (λc o c1 _ c3 _ x=>M.extBut _ _ c1 (P _ _ c3 (f _ _ c1 x))) ⟨oe,M.extBut _ _ N j,u⟩
 |some x=>
  have hy:ys[n]?=none:=by rcases hend with h|h;rw[C]at h;cases h;exact h
  refine qab (rW (h1.to λo q=>f _ o D.i1z q) (H.to λo q=>f _ o D.l1z q) C λg2 h12 P=>qan ?_);have v:=P.extBut;have d:=v _ _ D.TOi1 (f _ _ D.TOz R);refine qab (qbJ d U (qab (qfi d λg3 m M=>?_)));have F:=M.extBut;refine qab (qcP (qan ?_));refine qab (qab (qfI ?_));refine qab (zV hh (h2.to λo q=>F _ o D.TOi2.symm (v _ o D.i12.symm (f _ o D.i2z q))) (O.to λo q=>F _ o D.l2TO (v _ o D.l2i1 (f _ o D.l2z q))) hy λg4 e s4 he=>?_);obtain⟨oe,j,u⟩:=he;have X:IsZip g4 z TI TO .ellipsis:=s4 _ _ D.i2z.symm (F _ _ D.TOz.symm (v _ _ D.i1z.symm t));have N:e≠z:=λx=>by subst x;rw[X]at j;cases j;simp at u
  exact qc4 X (by simp) λg _ s5=>fin g e (λc o c1 c2 c3 Y x=>s5.extBut _ _ c1 (s4 _ _ Y (F _ _ c2 (v _ _ c3 (f _ _ c1 x))))) ⟨oe,s5.extBut _ _ N j,u⟩
end
def FP (k:Bool):Value:=if k=true then .type "tuple_iterator" else .type "list_iterator"
def t9 (k:Bool) (l:Addr):Obj:={ cls:=FP k,data:=.fields #[.ref l,.int 0 0] }
abbrev zH1 (k:Bool) (h:Heap) (a:Addr):Heap:=h.push (t9 k a)
abbrev zH2 (k k2:Bool) (h:Heap) (a b:Addr):Heap:=(zH1 k h a).push (t9 k2 b)
abbrev zH3 (k k2:Bool) (h:Heap) (a b:Addr):Heap:=(zH2 k k2 h a b).push { cls:=.type "tuple",data:=.seq #[.ref h.objs.size,.ref (zH1 k h a).objs.size] }
abbrev zH4 (k k2:Bool) (h:Heap) (a b:Addr):Heap:=(zH3 k k2 h a b).push { cls:=.type "tuple",data:=.seq #[.none,.none] }
abbrev zH5 (k k2:Bool) (h:Heap) (a b:Addr):Heap:=(zH4 k k2 h a b).push { cls:=.type "zip",data:=.fields #[.none,.bool false,.bool false,.ref (zH2 k k2 h a b).objs.size,.ref (zH3 k k2 h a b).objs.size] }
section
variable {prog:qaQ}{w:World}{A:qa1}{E:Value->qaj->Prop}{s:qaj}{k k2:Bool}
theorem uc {l:Addr}{xs:Array Value}{Q:Value->qaj->Prop} (C:SIs k s.heap l xs) (h:Q (.ref s.heap.objs.size) { s with heap:=s.heap.push (t9 k l) }):wpAny (model prog w) A (qhH (.ref l)) Q E s:=by
 cases k with
 |true=>exact qc5 C h
 |false=>exact qdR C h
theorem pZ (a b:Addr) (xs j:Array Value) (k k2:Bool) :
  Meets (qfe.«zip.__new__» ⟨[.type "zip",.ref a,.ref b],[]⟩) (λ_ R s=>SIs k s.heap a xs/\SIs k2 s.heap b j/\R (.ok (.ret (.ref (zH4 k k2 s.heap a b).objs.size))) { s with heap:=zH5 k k2 s.heap a b }):=
 .of_wp λprog w A R s h=>by
  obtain⟨H,g,d,I,os⟩:=s;obtain⟨i,f,h⟩:=h;have v:=sub_zip;have m:SIs k2 (Shared.heap ⟨H.push (t9 k a),g,d,I,os⟩) b j:=f.to λo q=>qaf _ q
  wp_walk using uc i,uc m
  exact⟨_,U,h⟩
theorem ua (k:Bool) {h:Heap}{D l:Addr} (e:h.get? D=some (t9 k l)):SIt k h D l 0:=by
 cases k with
 |true=>exact⟨_,e,U,U⟩
 |false=>exact⟨_,e,U,U⟩
theorem rg {a b:Addr}{xs j:Array Value}{Q:Value->qaj->Prop} (i:SIs k s.heap a xs) (f:SIs k2 s.heap b j)
  (h:∀ h',ZSt k k2 (s.heap.objs.size+4) (s.heap.objs.size+2) (s.heap.objs.size+3) s.heap.objs.size (s.heap.objs.size+1) a b .none 0 h'->
    (∀ c o,s.heap.get? c=some o->h'.get? c=some o)->Q (.ref (s.heap.objs.size+4)) { s with heap:=h' }) :
  wpAny (model prog w) A (call (.type "zip") [.ref a,.ref b]) Q E s:=by
 refine callType_new F.called_zip (by decide) (F.typeCall_zip_2 _ _) (F.newCall_zip_2 _ _) (λobj=>F.args_object_init_3 obj _ _) F.entry_zip_new (pZ a b xs j k k2) ⟨i,f,?_⟩;have p:(zH1 k s.heap a).objs.size=s.heap.objs.size+1:=qbn ..;have n:(zH2 k k2 s.heap a b).objs.size=s.heap.objs.size+2:=by rw[qbn,p]
 have r:(zH3 k k2 s.heap a b).objs.size=s.heap.objs.size+3:=by rw[qbn,n]
 have y:(zH4 k k2 s.heap a b).objs.size=s.heap.objs.size+4:=by rw[qbn,r]
 have up:∀ {h:Heap}{G:Obj}{c:Addr}{o:Obj},h.get? c=some o->(h.push G).get? c=some o:=λe=>qaf _ e;have t:(zH5 k k2 s.heap a b).get? (zH4 k k2 s.heap a b).objs.size=some _:=qas _ U;have u:(zH5 k k2 s.heap a b).get? (zH3 k k2 s.heap a b).objs.size=some _:=up (qas _ U);have z:(zH5 k k2 s.heap a b).get? (zH2 k k2 s.heap a b).objs.size=some _:=up (up (qas _ U));have B:(zH5 k k2 s.heap a b).get? (zH1 k s.heap a).objs.size=some _:=up (up (up (qas _ U)));rw[n,r,y]at t;rw[p,n]at z;rw[r]at u;rw[p]at B;rw[y];exact⟨⟨_,t,U⟩,h _ ⟨t,z,⟨_,_,u⟩,ua k (up (up (up (up (qas _ U))))),ua k2 B⟩ λc o x=>up (up (up (up (up x))))⟩
end
def SqK (k:Bool) (K:qae) (H:Hp) (a:Addr) (xs:List V):Prop:=match k with
 |true=>SqT K H a xs
 |false=>SqL K H a xs
def Itz (S1 S2:Hp->List V->Prop):It:=
 ⟨λi H=>∃ xs a x y,S1 H xs/\S2 H a/\xs[i]?=some x/\a[i]?=some y,λi H x H'=>∃ T v u,(∀ xs,S1 H xs->xs[i]?=some v)/\(∀ a,S2 H a->a[i]?=some u)/\H T=none/\x=.ref T/\H'=upd H T (.tup [v,u]),
  λi H=>∃ xs a,S1 H xs/\S2 H a/\(xs[i]?=none\/a[i]?=none)⟩
theorem Inv.seqK {X:Cx}{c:List (Addr×Obj)}{d:St}{H:Hp}{s:qaj}{k:Bool}{a:Addr}{xs:List V} (I:Inv X c d H s) (h:SqK k X.K H a xs):∃ b:List Value,aI xs b/\SIs k s.heap a b.toArray:=by
 cases k with
 |true=>obtain⟨b,r,p,_⟩:=I.tuple h;exact⟨b,r,p⟩
 |false=>obtain⟨b,r,p,_⟩:=I.list h;exact⟨b,r,p.isList⟩
theorem Inv.seqK_inj {X:Cx}{b:List (Addr×Obj)}{d:St}{H:Hp}{s:qaj}{k:Bool}{a:Addr}{xs c:List V} (I:Inv X b d H s) (h:SqK k X.K H a xs) (h':SqK k X.K H a c):xs=c:=by
 cases k with
 |true=>exact I.tuple_inj h h'
 |false=>exact I.list_inj h h'
theorem AT {P:qaQ}{w:World}{K:qae}{A:List Expr}{kk:Nat}{pos:Pos}{k k2:Bool}{z TI TO n p Q N:Addr} (D:ZipApart z TI TO n p Q N) :
  u7 P w K (.Tuple A kk pos) (Itz (λH xs=>SqK k K H Q xs) λH xs=>SqK k2 K H N xs) [z,TI,TO,n,p] z (λi h=>ZSt k k2 z TI TO n p Q N .none i h) where
 mem:=by simp
 obj:=λi h st b hb=>by
  simp only[qaz,qbP,or_false]at hb;rcases hb with rfl|rfl|rfl|rfl|rfl
  ·exact⟨_,st.z,λv z=>by cases z⟩
  ·exact⟨_,st.ti,λv z=>by cases z⟩
  ·obtain⟨a,b,e⟩:=st.to;exact⟨_,e,λv z=>by cases z⟩
  ·obtain⟨o,G,e,d⟩:=st.t1.live;exact⟨o,e,λv z=>by rw[d]at z;cases z⟩
  ·obtain⟨o,G,e,d⟩:=st.t2.live;exact⟨o,e,λv z=>by rw[d]at z;cases z⟩
 keep:=λi h h' st kp=>by
  obtain⟨a,b,e⟩:=st.to;exact⟨kp z (by simp) _ st.z,kp TI (by simp) _ st.ti,⟨a,b,kp TO (by simp) _ e⟩,st.t1.to λo q=>kp n (by simp) o q,st.t2.to λo q=>kp p (by simp) o q⟩
 item:=by
  intro X F hw M R i t s σ H E I B st hg;subst F hw M;obtain⟨xs,ys,x,y,g,f,V,S⟩:=hg;obtain⟨us,l,p1⟩:=I.seqK g;obtain⟨G,j,L⟩:=I.seqK f;obtain⟨u,hu,ru⟩:=l.get V;obtain⟨v,hv,rv⟩:=j.get S;refine A9 D st p1 L (by simpa using hu) (by simpa using hv) λh1 c hT W kp=>⟨_,U,?_⟩;refine wpAny_letOwnedTupleGo_zip c.z λh2 J s2=>?_;have m:=s2.extBut;obtain⟨c1,c2,O⟩:=c.to;have T:∀ b∈[z,TI,TO,n,p],b≠s.heap.objs.size:=λb hb e=>by
   obtain⟨o,ho,_⟩:=(show ∃ o,s.heap.get? b=some o/\True by
    simp only[qaz,qbP,or_false]at hb;obtain⟨a',b',e'⟩:=st.to;obtain⟨o1,_,q1,_⟩:=st.t1.live;obtain⟨o2,_,Y,_⟩:=st.t2.live;rcases hb with rfl|rfl|rfl|rfl|rfl
    ·exact⟨_,st.z,trivial⟩
    ·exact⟨_,st.ti,trivial⟩
    ·exact⟨_,e',trivial⟩
    ·exact⟨_,q1,trivial⟩
    ·exact⟨_,Y,trivial⟩)
   have:=qav ho
   rw[e]at this;exact qbd _ this
  refine⟨.ref s.heap.objs.size,_,?_,U,⟨s.heap.objs.size,x,y,λzs C=>by rw[I.seqK_inj C g];exact V,λzs C=>by rw[I.seqK_inj C f];exact S,I.hok.fresh (qap _),U,U⟩,?_,λb hb=>?_⟩
  ·have I2:=I.turnsT (h':=h2) (t':=s.toks) B (λb o hb q=>by
    simp only[qaz,qbP,or_false,not_or]at hb
    exact m b o hb.1 (kp b o hb.1 hb.2.2.1 hb.2.2.2.1 hb.2.2.2.2 q)) (qap _) ⟨_,m _ _ (qbo (T z (by simp))) hT,U,⟨_,U⟩,U⟩ (.cons ru (.cons rv .nil)) (by show 2<=qaL;decide)
   exact I2
  ·exact⟨J,m _ _ D.TIz c.ti,⟨c1,c2,m _ _ D.TOz O⟩,c.t1.to λo q=>m _ o D.i1z q,c.t2.to λo q=>m _ o D.i2z q⟩
  ·rw[upd_ne (T b hb)];exact (B b hb).1
 done:=by
  intro X F hw M R i t s σ H E I B st hg;subst F hw M;obtain⟨xs,ys,g,f,r⟩:=hg;obtain⟨us,l,p1⟩:=I.seqK g;obtain⟨G,j,L⟩:=I.seqK f;have hl1:=l.length;have hl2:=j.length
  refine CY (I.ok.hd R) D st p1 L (by
   rcases r with h|h
   ·rw[qbO]at h;simp;lia
   ·rw[qbO]at h;simp;lia) λh' kp=>⟨U,I.turns B λb o hb q=>?_⟩
  simp only[qaz,qbP,or_false,not_or]at hb;exact kp b o hb.1 hb.2.2.1 hb.2.2.2.1 hb.2.2.2.2 q
 self:=λ_ _ _ _ _ st h=>qiQ st.z h
def Hb (K:qae) (k k2:Bool) (c:TA):L2.TI:=λe H R=>c e H λd H1=>∃ a b,d=[.ref a,.ref b]/\(∃ xs,SqK k K H1 a xs)/\(∃ xs,SqK k2 K H1 b xs)/\R (Itz (λH xs=>SqK k K H a xs) λH xs=>SqK k2 K H b xs) H1
theorem ED {X:Cx}{g:List Expr}{A:Nat}{i:Pos}{a b:Expr}{v:TA}{p pos:Pos}{k k2:Bool} (hg:Gl X "zip") (hm:X.mg "zip" = none) (G:PA X [a,b] v) (C:qbE [a,b] X.env=[(false,eval a X.env),(false,eval b X.env)]:=by rfl) (j:qbE [b] X.env=[(false,eval b X.env)]:=by rfl) :
  PI X (.Tuple g A i) (.Call (.Name "zip" p) [a,b] [] pos) (Hb X.K k k2 v):=by
 intro f s K H R I h;refine Call_ (jQ I hg hm boot_zip (qcg (thn (G pos f s K H _ I h) λn s1 ⟨z,H1,I1,y,D⟩=>?_) (by rw[C,j]) (by rw[j];rfl)));obtain⟨l,m,e,⟨xs,B⟩,⟨M,u⟩,q⟩:=D;subst e;cases y with
 |cons r t=>
  cases t with
  |cons L t=>
   cases t;cases r;cases L;obtain⟨n,F,p1⟩:=I1.seqK B;obtain⟨z,E,w⟩:=I1.seqK u;have lt:∀ {k:Bool}{l:Addr}{n:Array Value},SIs k s1.heap l n->l<s1.heap.objs.size:=λ{k l n} x=>by
    cases k with
    |true=>obtain⟨_,o,_⟩:=x;exact qav o
    |false=>obtain⟨_,o,_⟩:=x;exact qav o
   refine rg p1 w λh' c J=>qiQ c.z ?_;refine⟨_,_,_,_,H1,U,I1.kept J,AT (zipApart_new (lt p1) (lt w)),c,λb hb=>?_,q⟩;have d:s1.heap.objs.size<=b:=by
    simp only[qaz,qbP,or_false]at hb;rcases hb with rfl|rfl|rfl|rfl|rfl
    ·exact qdj _ 4
    ·exact qdj _ 2
    ·exact qdj _ 3
    ·exact qap _
    ·exact qdj _ 1
   exact I1.fpOk d (I1.hok.fresh d)
def d6:List D->List D->List D
 |d::ds,e::es=>.tup [d,e]::d6 ds es
 |_,_=>[]
def EX:W->Option (Bool×List D)
 |.d (.tup ds)=>some (true,ds)
 |.d (.lst ds)=>some (false,ds)
 |_=>none
def dC (c:Af):Lf
 |env,st=>(c env st).bind λr=>match r.1 with
  |[x,y]=>(EX x).bind λa=>(EX y).map λb=>(d6 a.2 b.2,r.2)
  |_=>none
theorem gw:∀ (ds es:List D) (i:Nat),(d6 ds es)[i]?=(ds[i]?).bind λd=>(es[i]?).map λe=>D.tup [d,e]
 |[],es,i=>by simp[d6]
 |d::ds,[],i=>by cases i<;>simp[d6]
 |d::ds,e::es,0=>by simp[d6]
 |d::ds,e::es,i+1=>by simpa [d6] using gw ds es i
theorem pQ:∀ (ds es:List D),(d6 ds es).length=min ds.length es.length
 |[],es=>by simp[d6]
 |d::ds,[]=>by simp[d6]
 |d::ds,e::es=>by simp[d6,pQ ds es]
section
variable {K:qae}{X:Cx}{a b:Expr}{pos:Pos}{af:Af}
theorem xi {st:Sto}{H:Hp}{φ:List Addr}{w:W}{v:V}{p:Bool×List D} (r:Rw K H φ w v) (e:EX w=some p) (S:Sr K H φ st):∃ a l,v=.ref a/\SqK p.1 K H a l/\(∀ H' c,Fw φ c H H'->SqK p.1 K H' a l)/\Rls K H φ p.2 l:=by
 cases w with
 |h n=>cases e
 |d x=>
  cases x with
  |tup ds=>
   cases e;obtain⟨a,j,rfl,o,g⟩:=r;exact⟨a,j,U,(SqT.of o),λH' c f=>(SqT.of o).fw S f,g⟩
  |lst ds=>
   cases e;obtain⟨a,j,rfl,h0,o,g⟩:=r;exact⟨a,j,U,.inl o,λH' c f=>.inl (o.fw f h0),g⟩
  |_=>cases e
theorem Fc {S1 S2:Hp->List V->Prop}{ds es:List D}{l j:List V}{φ:List Addr}{H:Hp} (h1:∀ H' c,Fw φ c H H'->S1 H' l) (h2:∀ H' c,Fw φ c H H'->S2 H' j) (r1:∀ H' c,Fw φ c H H'->Rls K H' c ds l) (r2:∀ H' c,Fw φ c H H'->Rls K H' c es j) :
  Yl K φ H (Itz S1 S2) (d6 ds es):=by
 intro H2 m st2 i C s2;have L:=h1 H2 m C;have E:=h2 H2 m C;have B:=r1 H2 m C;have w2:=r2 H2 m C;refine⟨λd hd=>?_,λhi=>⟨l,j,L,E,?_⟩⟩
 ·rw[gw,qac]at hd
  obtain⟨d1,G,hd⟩:=hd;obtain⟨d2,I,rfl⟩:=qad.mp hd;obtain⟨v,ev,rv⟩:=B.get G;obtain⟨u,eu,ru⟩:=w2.get I;refine⟨⟨l,j,v,u,L,E,ev,eu⟩,λx H' y=>?_⟩;obtain⟨T,v',u',y1,y2,M,rfl,rfl⟩:=y;have z1:=y1 l L;have Y:=y2 j E;rw[ev]at z1;rw[eu]at Y;cases z1;cases Y;exact⟨aR.new M _,T,_,U,upd_same,_,_,U,rv.fw s2 (Fw.new M),_,_,U,ru.fw s2 (Fw.new M),U⟩
 ·rw[pQ]at hi
  have l1:=B.length;have l2:=w2.length;rw[qbO,qbO];lia
theorem lD {s:List Expr}{k:Nat}{t p:Pos} (hg:Gl X "zip") (hm:X.mg "zip" = none) (ha:IA K X [a,b] af) (hs:aA a=true:=by rfl) (A:aA b=true:=by rfl) (hK:X.K=K:=by rfl) :
  II K X (.Tuple s k t) (.Call (.Name "zip" p) [a,b] [] pos) (dC af):=by
 subst hK;refine⟨λenv st r g=>?_⟩;simp only[dC,qac]at g;obtain⟨⟨ws,s1⟩,hy,g⟩:=g;dsimp only at g;split at g
 case h_2=>cases g
 rename_i x y;simp only[qac,qad]at g;obtain⟨p1,J,p2,F,rfl⟩:=g;refine (ED (k:=p1.1) (k2:=p2.1) hg hm (ha.run _ _ _ hy) (AL hs A) (jb A)).imp ?_
 rintro σ H R ⟨φ,hE,hS,q⟩
 refine⟨φ,hE,hS,λl H1 N f1 s1 B=>?_⟩;obtain⟨v,r,rfl,rx,v2,r',rfl,ry,rfl⟩:=B;obtain⟨a,j,rfl,o,O,g⟩:=xi rx J s1;obtain⟨b,us2,rfl,Q,z,P⟩:=xi ry F s1;exact⟨a,b,U,⟨j,o⟩,⟨us2,Q⟩,q _ H1 N f1 s1 (Fc O z (λH' c f=>g.fw s1 f) λH' c f=>P.fw s1 f)⟩
end
def gO:List Int->Int->Int
 |[],m=>m
 |n::ns,m=>gO ns (if n > m then n else m)
def oO:List Int->Int->Int
 |[],m=>m
 |n::ns,m=>oO ns (if n<m then n else m)
section
variable {prog:qaQ}{w:World}{A:qa1}{s:qaj}{I l S:Addr}{items:Array Value}{ns:List Int}{u:List (Str×Value)}{R:qhJ->qaj->Prop}
theorem ko (h:qb4 items.toList ns) {j:Nat}{n:Int} (hn:ns[j]?=some n):∃ t,items[j]?=some (.int n t):=by
 have hj:j<items.toList.length:=by rw[cU h];exact (qar.mp hn).1
 obtain⟨t,e⟩:=gH h j hj;refine⟨t,?_⟩;have hj':=by simpa using hj
 rw[qbz hj'];rw[qdQ]at e;rw[e,qaA,hn];rfl
theorem kl (h:qb4 items.toList ns) {j:Nat} (hn:ns[j]?=none):items[j]?=none:=by
 rw[qbO]at hn
 have:=cU h
 rw[Array.getElem?_eq_none_iff];rw[qcC]at this;lia
theorem D7 (O:A.handled=none) (hi:qb4 items.toList ns) (p:S≠I) (D:l≠I) (H:l≠S):∀ (rest:List Int) (j:Nat) (s:qaj) (m:Int) (t:Tok) (c:Nat),ns.drop j=rest->s.heap.IsListIter I l j->s.heap.IsList l items->
  s.heap.get? S=some { cls:=.type "list",dict:=none,data:=.seq #[.int m t,.int m t] c,slots:=#[] }->
  (∀ t' h',(∀ b o,b≠I->b≠S->s.heap.get? b=some o->h'.get? b=some o)->R (.ok (.ret (.int (gO rest m) t'))) { s with heap:=h' })->qdJ (model prog w) A (.builtin "max.loop" ⟨[.ref I,.none,.ref S],u⟩) R s:=by
 have G:(toString "max"++toString ".loop" : String) = "max.loop":=by decide
 intro rest
 induction rest with
 |nil=>
  intro j s m t c hd z C K N;have hn:ns[j]?=none:=by
   rw[qbO]
   have:=congrArg qe0 hd
   simp at this;lia
  refine qcH qga ?_;rw[qcs qcR _];show wpAny _ A.in1 (seqItems? (.ref S) >>= _) _ _ s;refine qab (qbJ K U ?_);refine qab (qco (qc7 O z C (kl hi hn) λP x=>?_));refine qab (qdG (x _ _ p K) U (qab (qcP (qan ?_))));exact N t _ λb o g i q=>(qaU _ _ (qbo i)).trans (x _ _ g q)
 |cons n rest ih=>
  intro j s m t c hd z C K N;have hn:ns[j]?=some n:=by
   have:=congrArg (λl=>l[0]?) hd
   simpa using this
  have V:ns.drop (j+1)=rest:=by
   have:=congrArg (qk8 1) hd
   simpa [qh6,qeS] using this
  obtain⟨tn,hx⟩:=ko hi hn;refine qcH qga ?_;rw[qcs qcR _];show wpAny _ A.in1 (seqItems? (.ref S) >>= _) _ _ s;refine qab (qbJ K U ?_);refine qab (qco (qc0 z C hx λP y s1=>?_));have x:=s1.extBut;have B:=x _ _ p K;show wpAny _ A.in1 (tryCatch _ _ >>= _) _ _ _;refine qab (qco (qbU (qab (qjx ?_))));refine qab (qbU (qcb ?_));refine qab (qcP (qan ?_));by_cases hb:n > m
  ·have M:decide (n > m)=true:=by simp[hb]
   rw[M];simp only[if_true];refine qab (qdG B U (qab (qcP ?_)));rw[G];refine qan ⟨qde qcR _,ih (j+1) _ n tn _ V (y.at λo q=>(qaU _ _ p).trans q) (Heap.IsList.at C λo q=>(qaU _ _ (qbo H)).trans (x _ _ D q)) (qca _ B U) λt' h' k=>?_⟩
   have:=N t' h' λb o g i q=>k b o g i ((qaU _ _ (qbo i)).trans (x _ _ g q))
   rw[gO,iFP hb]at this;exact this
  ·have M:decide (n > m)=false:=by simp[hb]
   rw[M];simp only[qbm,if_false];refine qab (qcP ?_);rw[G];refine qan ⟨qde qcR _,ih (j+1) _ m t c V y (Heap.IsList.at C λo q=>x _ _ D q) B λt' h' k=>?_⟩
   have:=N t' h' λb o g i q=>k b o g i (x _ _ g q)
   rw[gO,iFN hb]at this;exact this
variable {E:Value->qaj->Prop}
theorem gy {id:String}{b:qfe}{args:List Value}{u:List (Str×Value)}{Q:Value->qaj->Prop} (J:builtinKind id=none) (hp:plainId id=true) (hb:entryFor table id=some b) (ha:argsOk id ⟨args,u⟩)
  (hc:wpAny (model prog w) A.in1 (b ⟨args,u⟩) (λfin s'=>match fin with
    |.done f=>(match (Except.ok f:qhJ) with|.ok (.ret v)=>Q v s'|.ok _=>False|.error e=>E e s')
    |.again W=>W.quiet=true/\qdJ (model prog w) A W (λr s'=>match r with|.ok (.ret v)=>Q v s'|.ok _=>False|.error e=>E e s') s') E s) :
  wpAny (model prog w) A (call (.builtin id) args u) Q E s:=by
 refine qit (codeAny_call_builtin hp hb ?_);simp only[checkBuiltinCall,J];cases hsig:Manifest.signature? id with
 |none=>exact qan hc
 |some sig=>
  have h2:=by simpa only[argsOk,hsig] using ha
  show wpAny _ A.in1 (Bind.checkArgs id sig _) _ _ s;rw[h2];exact qan hc
theorem xG (a v:Value):argsOk "max" ⟨[a],[(qd9 "default",v)]⟩:=by kernel_rfl
def C7 (ns:List Int) (d:Option Int):Option Int:=match ns with
 |n::r=>some (gO r n)
 |[]=>d
theorem yt (O:A.handled=none) (hi:qb4 items.toList ns) (p:S≠I) (D:l≠I) (H:l≠S) {c:Nat} (z:s.heap.IsListIter I l 0) (C:s.heap.IsList l items) (K:s.heap.get? S=some { cls:=.type "list",dict:=none,data:=.seq #[] c,slots:=#[] })
  (N:∀ v h',(∀ b o,b≠I->b≠S->s.heap.get? b=some o->h'.get? b=some o)->(∀ n r,ns=n::r->∃ t,v=.int (gO r n) t)->(ns=[]->∃ k,u=[(k,v)])->R (.ok (.ret v)) { s with heap:=h' })
  (h0:ns=[]->∃ k v,u=[(k,v)]):qdJ (model prog w) A (.builtin "max.loop" ⟨[.ref I,.none,.ref S],u⟩) R s:=by
 refine qcH qga ?_;rw[qcs qcR _];refine qab (qbJ K U ?_);cases hn:ns with
 |nil=>
  obtain⟨k,v,rfl⟩:=h0 hn;refine qab (qco (qc7 O z C (kl hi (by rw[hn];rfl)) λP x=>?_));refine qab (qdv (qan ?_));exact N v _ (λb o g _ q=>x _ _ g q) (λn r e=>by rw[hn]at e;cases e) λ_=>⟨k,U⟩
 |cons n rest=>
  obtain⟨tn,hx⟩:=ko hi (j:=0) (by rw[hn];rfl);refine qab (qco (qc0 z C hx λP y s1=>?_));have x:=s1.extBut;have B:=x _ _ p K;show wpAny _ A.in1 (updateSeq S _ >>= _) _ _ _;refine qab (qdG B U ?_);refine qan ⟨qde qcR _,D7 O hi p D H rest 1 _ n tn _ (by rw[hn];rfl) (y.at λo q=>(qaU _ _ p).trans q) (Heap.IsList.at C λo q=>(qaU _ _ (qbo H)).trans (x _ _ D q)) (qca _ B U) λt' h' k=>?_⟩;exact N _ h' (λb o g i q=>k b o g i ((qaU _ _ (qbo i)).trans (x _ _ g q))) (λn' r' e=>by rw[hn]at e;cases e;exact⟨t',U⟩) λe=>by rw[hn]at e;cases e
theorem rd {Q:Value->qaj->Prop} (O:A.handled=none) (hi:qb4 items.toList ns) (C:s.heap.IsList l items) (J:u=[]\/∃ v,u=[(qd9 "default",v)]) (h0:ns=[]->u≠[])
  (h:∀ v h',(∀ b o,s.heap.get? b=some o->h'.get? b=some o)->(∀ n r,ns=n::r->∃ t,v=.int (gO r n) t)->(ns=[]->∃ k,u=[(k,v)])->Q v { s with heap:=h' }) :
  wpAny (model prog w) A (call (.builtin "max") [.ref l] u) Q E s:=by
 have T:l<s.heap.objs.size:=by obtain⟨_,e,_⟩:=C;exact qav e
 have L:(s.heap.push { cls:=.type "list_iterator",data:=.fields #[.ref l,.int 0 0] }).objs.size=s.heap.objs.size+1:=qbn ..
 have fin:∀ X:List Value,u=X.map _->wpAny (model prog w) A.in1 (do
   let it <-qhH _
   let b <-newList []
   qiD (.builtin "max.loop" ⟨[it,.none,b],X.map λd=>(qd9 "default",d)⟩)) (λfin s'=>match fin with
   |.done f=>(match (Except.ok f) with|.ok (.ret v)=>Q v s'|.ok _=>False|.error e=>E e s')
   |.again W=>W.quiet=true/\qdJ (model prog w) A W (λr s'=>match r with|.ok (.ret v)=>Q v s'|.ok _=>False|.error e=>E e s') s') E s:=λX Y=>by
  refine qab (qdR C (qab (qcc ?_)));refine qan ⟨qde qcR _,?_⟩;rw[<-Y];refine yt O hi (by rw[L];exact qex _) (qax T) (by rw[L];exact qax (qa2 T))
   ⟨_,qaf _ (qas _ U),U,U⟩ (Heap.IsList.at C λo q=>qaf _ (qaf _ q)) (qas _ U) (λv h' k P h2=>?_) (λe=>?_)
  ·refine h v h' (λb o q=>?_) P h2
   have hb:=qav q;exact k b o (qax hb) (by rw[L];exact qax (qa2 hb)) (qaf _ (qaf _ q))
  ·rcases J with J|⟨v,J⟩
   ·exact absurd J (h0 e)
   ·exact⟨_,v,J⟩
 rcases J with rfl|⟨v,rfl⟩
 ·refine gy F.kind_max F.plain_max F.entry_max (F.args_max1 _) ?_
  exact (fin [] U)
 ·refine gy F.kind_max F.plain_max F.entry_max (xG _ _) ?_
  exact (fin [v] U)
end
section
variable {K:qae}{X:Cx}{e a b:Expr}{es:List Expr}{pos:Pos}{f fa fb:Ef}{af:Af}
def lsI (st:Sto) (w:W):Option (List Int):=(lsD st w).bind aT
theorem xQ (p:X.calm=true) {B:List (Str×Value)}{d:Option V}{ns:List Int}{l:List (Addr×Obj)}{J:St}{H:Hp}{s:qaj}{ad:Addr}{Q:VK}{E:XK}{r:Int} (I:Inv X l J H s) (L:Rd H ad (.lst (ns.map V.int)))
  (g:(B=[]/\ns≠[])\/∃ c t,B=[(qd9 "default",.int c t)]/\(ns=[]->r=c)) (hr:∀ n q,ns=n::q->r=gO q n) (q:Q (.int r) H) :
  wpAny (model X.prog X.w) X.A (call (.builtin "max") [.ref ad] B) (EP X l J Q) X.xe s:=by
 obtain⟨T,C,N,hz⟩:=I.list (.inl L);refine rd (I.ok.hd p) (by simpa using cF C) N.isList ?_ ?_ λv h' kp y G=>?_
 ·rcases g with g|⟨c,t,g,_⟩
  ·exact .inl g.1
  ·exact .inr ⟨_,g⟩
 ·intro e z
  rcases g with g|⟨c,t,g,_⟩
  ·exact g.2 e
  ·rw[g]at z;cases z
 ·have R:∃ t,v=.int r t:=by
   cases hn:ns with
   |nil=>
    obtain⟨k,o⟩:=G hn;rcases g with g|⟨c,t,g,F⟩
    ·exact absurd hn g.2
    ·rw[g]at o
     cases o;rw[F hn];exact⟨t,U⟩
   |cons n q=>
    rw[hr n q hn];exact y n q hn
  exact⟨.int r,H,I.kept kp,R,q⟩
def dMx (st:Sto):List W->Option D
 |[.d (.int i),.d (.int j)]=>some (.int (if j > i then j else i))
 |[w]=>(lsI st w).bind λns=>(C7 ns none).map D.int
 |_=>none
theorem wJ {st:Sto}{H:Hp}{φ:List Addr}{w:W}{v:V}{ns:List Int} (S:Sr K H φ st) (r:Rw K H φ w v) (h:lsI st w=some ns):∃ ad,v=.ref ad/\Rd H ad (.lst (ns.map V.int)):=by
 obtain⟨ds,M,m⟩:=qac.mp h;obtain⟨ad,P,rfl,y,G⟩:=rR S r M;cases bm m;cases G.ints;exact⟨ad,U,y⟩
theorem sO (p:X.calm=true:=by rfl):e6 K X (.builtin "max") dMx:=by
 refine⟨λst ws d h=>?_⟩;have one:∀ w,((lsI st w).bind λns=>(C7 ns none).map D.int)=some d->bG X _ (rCD K st [w] d):=λw h=>by
  obtain⟨ns,M,h⟩:=qac.mp h;obtain⟨r,m,rfl⟩:=qad.mp h;intro l s J H xs us Q I C q;obtain⟨φ,S,⟨v,rr,rfl,A,rfl⟩,q⟩:=q;obtain⟨ad,rfl,L⟩:=wJ S A M;obtain⟨u,rfl,Y⟩:=gr C;cases Y;refine xQ (E:=λ_ _ _=>False) (d:=none) p I L (.inl ⟨U,λe=>by rw[e]at m;cases m⟩) (λn q hn=>by rw[hn]at m;exact (qaN m).symm) (q _ H (aR.refl H) U)
 match ws,h with
 |[.d (.int i),.d (.int j)],h=>
  cases h;refine (xP p).imp ?_
  rintro P H Q ⟨φ,S,⟨v,r,rfl,A,u,r',rfl,O,rfl⟩,q⟩
  exact⟨i,j,by rw[A,O],q _ H (aR.refl H) U⟩
 |[w],h=>exact one w (by cases w with|h n=>exact h|d x=>cases x<;>exact h)
end
section
variable {K:qae}{X:Cx}
def vj (_:Sto):W->W->Option D
 |.d (.int i),.d (.int j)=>some (.int (qd2 i j))
 |_,_=>none
theorem oR:OpD K X (qbI .BitAnd) vj:=hU (λ_ _ _=>rfl) λi j d h=>by cases h;exact⟨Eh.imp λ_ _ _ _ q=>⟨i,j,q⟩,U⟩
end
section
variable {K:qae}{X:Cx}{pos:Pos}{a b:Expr}{c:Af}
end
def ig (a b:Ef):Ef
 |env,st=>(a env st).bind λx=>(b env x.2).bind λy=>match x.1,y.1 with
 | .h n,.d (.int i)=>(match y.2[n]? with
  |some (.n ws)=>(atI ws i).map λw=>(w,y.2)
  |_=>none)
 |_,_=>none
def zp (a:Af):Ef
 |env,st=>(a env st).bind λr=>if r.1.length<=1000 then some (.h r.2.length,r.2++[.n r.1]) else none
def cz (o i v:Ef):Sf
 |env,st=>(v env st).bind λc=>(o env c.2).bind λb=>(i env b.2).bind λa=>match b.1,a.1,c.1 with
 | .h n,.d (.int k),.d x=>(match a.2[n]? with
  |some (.n ws)=>(ixN ws.length k).map λj=>.nx env (a.2.set n (.n (ws.set j (.d x))))
  |_=>none)
 |_,_,_=>none
def vN (ds:List D):List W->Option (D×List D)
 |[.d (.int i)]=>(ixN ds.length i).bind λk=>(ds[k]?).bind λd=>if cK d=true/\-(2^62)<=i/\i<2^62 then some (d,ds.eraseIdx k) else none
 |_=>none
section
variable {K:qae}{X:Cx}{pos:Pos}{e a b c:Expr}{es:List Expr}{f fa fb:Ef}{af:Af}
theorem Rws.get {H:Hp}{φ:List Addr}:∀ {ds:List W}{l:List V},Rws K H φ ds l->∀ {i:Nat}{d:W},ds[i]?=some d->∃ v,l[i]?=some v/\Rw K H φ d v
 |[],_,h,i,d,e=>by simp at e
 |d::ds,_,h,i,e,q=>by
  obtain⟨v,r,rfl,B,t⟩:=h;cases i with
  |zero=>simp at q;subst q;exact⟨v,U,B⟩
  |succ i=>simpa using Rws.get t (by simpa using q)
theorem Rws.set {H:Hp}{φ:List Addr}:∀ {ds:List W}{l:List V} (n:Nat) {d:W}{v:V},Rws K H φ ds l->Rw K H φ d v->Rws K H φ (ds.set n d) (l.set n v)
 |[],_,_,_,_,h,_=>by cases h;exact U
 |e::ds,_,0,d,v,h,hd=>by
  obtain⟨u,r,rfl,B,t⟩:=h;exact⟨v,r,U,hd,t⟩
 |e::ds,_,n+1,d,v,h,hd=>by
  obtain⟨u,r,rfl,B,t⟩:=h;exact⟨u,_,U,B,Rws.set n t hd⟩
theorem Rws.mem {H:Hp}{φ:List Addr}:∀ {ds:List W}{l:List V},Rws K H φ ds l->∀ {m:Nat},W.h m∈ds->m<φ.length
 |[],_,_,m,hm=>nomatch hm
 |d::ds,_,h,m,hm=>by
  obtain⟨v,r,rfl,B,t⟩:=h;rcases qaz.mp hm with z|z
  ·subst z
   obtain⟨a,e,_⟩:=B;exact (qar.mp e).1
  ·exact Rws.mem t z
theorem Sr.atn {H:Hp}{φ:List Addr}{st:Sto} (S:Sr K H φ st) {n:Nat}{p:Addr}{ws:List W} (e1:φ[n]?=some p) (e2:st[n]?=some (.n ws)):∃ l,H p=some (.lst l)/\Rws K H φ ws l/\∀ m,W.h m∈ws->m<n:=S.at_ n p _ e1 e2
theorem Bk {H:Hp}{φ:List Addr}{ds:List W}{l:List V}{i:Int}{d:W} (r:Rws K H φ ds l) (e:atI ds i=some d):∃ v,atI l i=some v/\Rw K H φ d v:=by
 unfold atI at e ⊢;rw[<-r.length];obtain⟨j,e1,e2⟩:=qac.mp e;obtain⟨v,ev,rv⟩:=r.get e2;exact⟨v,by rw[e1];exact ev,rv⟩
theorem nP (ha:IE K X a fa) (hb:IE K X b fb) (hs:lN b=true:=by rfl) (hK:X.K=K:=by rfl):IE K X (.Subscript a b pos) (ig fa fb):=by
 subst hK;refine⟨λenv st r g=>?_⟩;simp only[ig,qac]at g;obtain⟨⟨x,s1⟩,hx,⟨y,Y⟩,s,g⟩:=g;dsimp only at g;split at g
 case h_2=>cases g
 rename_i n i;split at g
 ·rename_i ws M
  obtain⟨w,hw,rfl⟩:=qad.mp g;refine (Aa rM (ha.run _ _ _ hx) (hb.run _ _ _ s) (ot hs)).imp ?_
  rintro σ H Q ⟨φ,E,G,q⟩
  refine⟨φ,E,G,λv H1 F C S1 N=>⟨F,E.fw G C,S1,λu H2 P R S2 w2=>?_⟩⟩;obtain⟨p,ep,rfl⟩:=N.fw S1 R;obtain⟨l,hv,I,_⟩:=S2.atn ep M;obtain⟨z,ez,rz⟩:=Bk I hw;exact .inl ⟨p,l,i,z,U,w2,SqL.of hv,ez,q z H2 P (C.trans R) S2 rz⟩
 ·cases g
theorem kh (h:IA K X es af):IE K X (.List es pos) (zp af):=by
 refine⟨λenv st r g=>?_⟩;simp only[zp,qac]at g;obtain⟨y,s,g⟩:=g;split at g
 ·cases g
  rename_i hl;refine (Ab (h.run _ _ _ s)).imp ?_
  rintro σ H Q ⟨φ,E,G,q⟩
  refine⟨φ,E,G,λl H1 F C s1 N=>?_⟩;refine⟨by rw[<-N.length];exact jq hl,λp hp=>?_⟩;exact q _ _ _ (C.trans (Fw.more hp)) (s1.moreC hp ⟨l,upd_same,N.fw s1 (Fw.more hp),λm hm=>N.mem hm⟩) ⟨p,by rw[<-s1.len];simp,U⟩
 ·cases g
theorem fZ {A:Pos} (ho:IE K X a fa) (hi:IE K X b fb) (hv:IE K X e f) (hb:lN b=true:=by rfl) (hs:qdH [.Subscript a b A] e pos.line X.env=pure false:=by rfl) (hw:qdI [.Subscript a b A] e X.env=pure none:=by rfl) :
  IS K X (.Assign [.Subscript a b A] e pos) (cz fa fb f):=by
 refine⟨λenv st r g=>?_⟩;simp only[cz,qac]at g;obtain⟨⟨rv,s1⟩,ev,⟨ro,Y⟩,eo,⟨ri,s3⟩,ei,g⟩:=g;dsimp only at g;split at g
 case h_2=>cases g
 rename_i n k x;split at g
 ·rename_i ws M
  obtain⟨j,ej,rfl⟩:=qad.mp g;refine (ph (hv.run _ _ _ ev) (rZ (ho.run _ _ _ eo) (hi.run _ _ _ ei) k8 (mz hb)) hs hw (jW U)).imp ?_
  rintro D σ H ⟨φ,E,G,q⟩
  refine⟨φ,E,G,λv H1 F C s1 N=>⟨F,E.fw G C,s1,λo H2 P R Y w2=>⟨P,(E.fw G C).fw s1 R,Y,λi H3 φ3 f3 s3 w3=>?_⟩⟩⟩;have e3:=((E.fw G C).fw s1 R).fw Y f3;have w1':=(N.fw s1 R).fw Y f3;obtain⟨p,ep,rfl⟩:=w2.fw Y f3;obtain⟨l,hp,I,bd⟩:=s3.atn ep M;have w3':i=.int k:=w3;subst w3'
  obtain⟨f4,s4⟩:=s3.putC (o:=.lst (l.set j v)) (c:=.n (ws.set j (.d x))) ep λf=>⟨_,upd_same,(Rws.set j I w1').fw s3 f,λm hm=>by
   rcases List.mem_or_eq_of_mem_set hm with z|z
   ·exact bd m z
   ·cases z⟩
  refine⟨p,l,k,j,U,U,hp,by rw[<-I.length];exact ej,?_⟩;exact q _ _ φ3 (((C.trans R).trans f3).trans f4) (e3.fw s3 f4) s4
 ·cases g
theorem Rls.erase {H:Hp}{φ:List Addr}:∀ {ds:List D}{l:List V} (n:Nat),Rls K H φ ds l->Rls K H φ (ds.eraseIdx n) (l.eraseIdx n)
 |[],_,_,h=>by cases h;exact U
 |d::ds,_,0,h=>by
  obtain⟨v,r,rfl,B,t⟩:=h;exact t
 |d::ds,_,n+1,h=>by
  obtain⟨v,r,rfl,B,t⟩:=h;exact⟨v,_,U,B,Rls.erase n t⟩
theorem nX {J:Pos} (ho:IE K X a fa) (ha:IA K X (e::es) af) (O:qdf a "pop" X.env (eval a X.env)=eval a X.env:=by rfl)
  (hall:(e::es).all aA=true:=by rfl) (L:(e::es).length<30:=by decide) (T:(J.endLine==pos.line)=true:=by rfl) (hK:X.K=K:=by rfl) :
  IE K X (.Call (.Attribute a "pop" J) (e::es) [] pos) (cL vN fa af):=by
 refine zx PySem.F.slot_list_pop PySem.F.type_list_pop zQ (λH φ st n ad ds l ws us y Q S ea eds hv I rw s q=>?_) (λds ws y h=>?_) ho ha O hall L T hK
 ·match ws,s with
  |[.d (.int i)],s=>
   simp only[vN,qac]at s;obtain⟨k,hk,d,hd,s⟩:=s;split at s
   ·rename_i hl
    cases s;obtain⟨v,r,rfl,r1,rfl⟩:=rw;obtain⟨x,ex,rx⟩:=I.get hd;refine⟨ad,l,i,k,x,U,by rw[r1],hv,by lia,by lia,by rw[<-I.length];exact (mI hk).1,ex,q _ _ rx (I.erase k) λb z=>?_⟩;obtain⟨z1,z2⟩:=gW hl.1 rx;rw[z]at z2;cases z2
   ·cases s
 ·match ws,h with
  |[.d (.int i)],h=>
   simp only[vN,qac]at h;obtain⟨k,hk,d,hd,h⟩:=h;split at h
   ·rename_i hl
    cases h;exact hl.1
   ·cases h
end
def az (f:Str) (a:Ef):Ef
 |env,st=>(a env st).bind λx=>match x.1 with
 |.d (.ob ns ds)=>((ns.zip ds).lookup f).map λd=>(.d d,x.2)
 | .h n=>(match x.2[n]? with
  |some (.o fs)=>(fs.lookup f).map λw=>(w,x.2)
  |_=>none)
 |_=>none
section
variable {K:qae}{H:Hp}{φ:List Addr}
theorem u5 {f:Str}{d:D}:∀ {ns:List Str}{ds:List D}{b:List V},Rls K H φ ds b->(ns.zip ds).lookup f=some d->∃ v,(ns.zip b).lookup f=some v/\Rl K H φ d v/\f∈ns
 |[],ds,b,r,h=>by cases h
 |n::ns,[],b,r,h=>by cases h
 |n::ns,x::ds,b,r,h=>by
  obtain⟨v,k,rfl,j,c⟩:=r;rw[qdq,qbx]at h ⊢;by_cases e:(f==n)=true
  ·rw[e]at h ⊢
   cases h;exact⟨v,U,j,by rw[beq_iff_eq.mp e];exact qag⟩
  ·rw[show (f==n)=false by simpa using e]at h ⊢
   obtain⟨l,o,q,s⟩:=u5 c h;exact⟨l,o,q,qai _ s⟩
theorem Rfs.look {f:Str}{w:W}:∀ {fs:List (Str×W)}{b:List (Str×V)},Rfs K H φ fs b->fs.lookup f=some w->∃ v,b.lookup f=some v/\Rw K H φ w v/\∃ p∈fs,p.1=f
 |[],b,r,h=>by cases h
 |(n,x)::fs,b,r,h=>by
  obtain⟨v,k,rfl,j,c⟩:=r;rw[qbx]at h ⊢;by_cases e:(f==n)=true
  ·rw[e]at h ⊢
   cases h;exact⟨v,U,j,_,qag,(beq_iff_eq.mp e).symm⟩
  ·rw[show (f==n)=false by simpa using e]at h ⊢
   obtain⟨l,o,q,p,t,s⟩:=Rfs.look c h;exact⟨l,o,q,p,qai _ t,s⟩
theorem Rfs.length:∀ {fs:List (Str×W)}{b:List (Str×V)},Rfs K H φ fs b->fs.length=b.length
 |[],b,r=>by cases r;rfl
 |(n,x)::fs,b,r=>by
  obtain⟨v,k,rfl,j,c⟩:=r;rw[qaq,qaq,Rfs.length c]
theorem Rfs.mem {m:Nat}:∀ {fs:List (Str×W)}{b:List (Str×V)},Rfs K H φ fs b->W.h m∈fs.map (·.2)->m<φ.length
 |[],_,_,hm=>nomatch hm
 |(n,x)::fs,_,r,hm=>by
  obtain⟨v,k,rfl,j,c⟩:=r;rcases qaz.mp hm with z|z
  ·subst z
   obtain⟨a,e,_⟩:=j;exact (qar.mp e).1
  ·exact Rfs.mem c z
def pj (f:Str) (w:W):List (Str×W)->List (Str×W)
 |[]=>[(f,w)]
 |(g,x)::r=>if g=f then (g,w)::r else (g,x)::pj f w r
theorem Rfs.put {f:Str}{w:W}{v:V} (i:Rw K H φ w v):∀ {fs:List (Str×W)}{b:List (Str×V)},Rfs K H φ fs b->Rfs K H φ (pj f w fs) (gm f v b)
 |[],_,r=>by cases r;exact⟨v,_,U,i,U⟩
 |(g,x)::fs,_,r=>by
  obtain⟨l,k,rfl,j,c⟩:=r;unfold pj gm;by_cases e:g=f
  ·rw[iFP e,iFP e];exact⟨v,k,U,i,c⟩
  ·rw[iFN e,iFN e];exact⟨l,_,U,j,Rfs.put i c⟩
theorem pk {f:Str}{w:W}:∀ {fs:List (Str×W)}{p:Str×W},p∈pj f w fs->p∈fs\/p=(f,w)
 |[],p,h=>.inr (qal.mp h)
 |(g,x)::fs,p,h=>by
  unfold pj at h;by_cases e:g=f
  ·rw[iFP e]at h
   rcases qaz.mp h with z|z
   ·rw[e]at z;exact .inr z
   ·exact .inl (qai _ z)
  ·rw[iFN e]at h
   rcases qaz.mp h with z|z
   ·exact .inl (z ▸ qag)
   ·rcases pk z with z|z
    ·exact .inl (qai _ z)
    ·exact .inr z
theorem uL {f:Str}{v:V}:∀ {b:List (Str×V)},f∉b.map (·.1)->gm f v b=b++[(f,v)]
 |[],_=>rfl
 |(g,x)::b,h=>by
  unfold gm;rw[iFN (by intro e;exact h (e ▸ qag)),uL λz=>h (qai _ z)];rfl
theorem Rfs.keys:∀ {fs:List (Str×W)}{b:List (Str×V)},Rfs K H φ fs b->b.map (·.1)=fs.map (·.1)
 |[],b,r=>by cases r;rfl
 |(n,x)::fs,b,r=>by
  obtain⟨v,k,rfl,j,c⟩:=r;rw[qaw,qaw,Rfs.keys c]
theorem Rfs.snoc {f:Str}{w:W}{v:V} (i:Rw K H φ w v):∀ {fs:List (Str×W)}{b:List (Str×V)},Rfs K H φ fs b->Rfs K H φ (fs++[(f,w)]) (b++[(f,v)])
 |[],_,r=>by cases r;exact⟨v,_,U,i,U⟩
 |(g,x)::fs,_,r=>by
  obtain⟨l,k,rfl,j,c⟩:=r;exact⟨l,_,U,j,Rfs.snoc i c⟩
end
section
variable {K:qae}{X:Cx}{pos j:Pos}{e o:Expr}{P fb:Ef}{f:Str}
theorem kf (h:IE K X e P) (hb:qdf e f X.env (eval e X.env)=eval e X.env:=by rfl) (R:X.K=K:=by rfl):IE K X (.Attribute e f pos) (az f P):=by
 subst R;refine⟨λenv st r b=>?_⟩;simp only[az,qac]at b;obtain⟨⟨x,s1⟩,hx,b⟩:=b;refine (Es (h.run _ _ _ hx) hb).imp ?_
 rintro σ H Q ⟨φ,E,J,q⟩
 refine⟨φ,E,J,λv H1 i y k O=>?_⟩;cases x with
 |d x=>
  cases x with
  |ob ns ds=>
   obtain⟨d,hd,rfl⟩:=qad.mp b;obtain⟨a,Cl,s,fs,C,rfl,h0,B,rfl,V,L,A,h6,h7⟩:=O;obtain⟨u,Y,T,hf⟩:=u5 h7 hd;exact⟨a,Cl,s,_,u,U,B,A,h6 f hf,Y,q u H1 i y k T⟩
  |_=>cases b
 |h n=>
  dsimp only at b;split at b
  ·rename_i fs l
   obtain⟨w,hw,rfl⟩:=qad.mp b;obtain⟨a,N,rfl⟩:=O;obtain⟨Cl,s,C,B,G,V,L,A⟩:=k.at_ n a _ N l;obtain⟨u,Y,T,p,W,rfl⟩:=G.look hw;exact⟨a,Cl,s,C,u,U,B,L,A p W,Y,q u H1 i y k T⟩
  ·cases b
def l5 (f:Str) (o v:Ef):Sf
 |env,st=>(v env st).bind λM=>(o env M.2).bind λI=>match I.1,M.1 with
 | .h n,.d x=>(match I.2[n]? with
  |some (.o fs)=>if fs.length<1000/\(fs.lookup f).isSome=true then some (.nx env (I.2.set n (.o (pj f (.d x) fs)))) else none
  |_=>none)
 |_,_=>none
theorem kB (ho:IE K X o P) (hv:IE K X e fb) (hs:qcw e (some (.Attribute o f j)) pos.line X.env=pure false:=by rfl) (R:X.K=K:=by rfl):IS K X (.Assign [.Attribute o f j] e pos) (l5 f P fb):=by
 subst R;refine⟨λenv st r b=>?_⟩;simp only[l5,qac]at b;obtain⟨⟨M,s1⟩,ev,⟨I,F⟩,eo,b⟩:=b;cases I with
 |d x=>cases b
 |h n=>
  cases M with
  |h m=>cases b
  |d x=>
   dsimp only at b;split at b
   case h_2=>cases b
   rename_i fs l;split at b
   case isFalse=>cases b
   rename_i hc;cases b;refine (Ao (ho.run _ _ _ eo) (hv.run _ _ _ ev) hs).imp ?_
   rintro D σ H ⟨φ,E,J,q⟩
   refine⟨φ,E,J,λv H1 i y s1 O=>⟨i,E.fw J y,s1,λu H2 φ2 f2 F w2=>?_⟩⟩;obtain⟨a,N,rfl⟩:=w2;obtain⟨Cl,s,C,B,G,V,L,A⟩:=F.at_ n a _ N l;obtain⟨w0,hw0⟩:=qcv.mp hc.2;obtain⟨u0,hu0,ru0,p,W,S⟩:=G.look hw0;have na:=S ▸ A p W;refine⟨a,Cl,s,C,U,B,L,na,by rw[<-G.length];exact hc.1,?_⟩
   obtain⟨f3,s3⟩:=F.putC (o:=.ins Cl s (gm f v C)) (c:=.o (pj f (.d x) fs)) N λg=>⟨Cl,s,_,upd_same,(Rfs.put (O.fw s1 f2) G).fw F g,(λm hm=>by
    obtain⟨p',t,e'⟩:=qaD.mp hm;rcases pk t with z|z
    ·exact V m (e' ▸ qdY (f:=(·.2)) z)
    ·rw[z]at e';cases e'),L,(λp' t=>by
    rcases pk t with z|z
    ·exact A p' z
    ·rw[z];exact na)⟩
   exact q σ _ φ2 ((y.trans f2).trans f3) (((E.fw J y).fw s1 f2).fw F f3) s3
end
section
variable {K:qae}{X:Cx}{pos:Pos}{a e:Expr}{fa:Ef}{af:Af}
def zo (o:Ef) (a:Af):Ef
 |env,st=>(o env st).bind λx=>(a env x.2).bind λr=>match x.1,r.1 with
 |.d (.lst ds),[.d (.int k)]=>(aT ds).bind λns=>if ns.length<=1000 then (ns.idxOf? k).map λj=>(.d (.int (j:Nat)),r.2) else none
 |_,_=>none
def Ho (X:Cx):V->List V->Hp->VK->Prop:=λx xs H Q=>∃ (p:Addr) (ns:List Int) (k:Int) (j:Nat),x=.ref p/\xs=[.int k]/\SqL X.K H p (ns.map V.int)/\ns.length<=1000/\ns.idxOf? k=some j/\Q (.int (j:Nat)) H
theorem DK:∀ {ns:List Int}{k:Int}{j:Nat},ns.idxOf? k=some j->j<ns.length/\ns[j]?=some k/\∀ i,i<j->ns[i]?≠some k:=by
 intro ns k j h;obtain⟨P,h3,h4⟩:=(qgu.mp h);refine⟨P,by rw[qam P,h3],λi hi z=>?_⟩;rw[qam (qeQ hi P)]at z;exact h4 i hi (qaN z)
theorem D9:MtR X "list.index" (Ho X):=by
 intro pins s σ H x xs v us Q I rx rv h;obtain⟨p,ns,k,j,rfl,rfl,F,hl,O,q⟩:=h;cases rx;obtain⟨u,rfl,ru⟩:=rv.one;obtain⟨t,rfl⟩:=ru;obtain⟨g,r,pl,hz⟩:=I.list F;obtain⟨j1,W,j3⟩:=DK O;have w:g.length=ns.length:=by rw[<-r.length,qah]
 have at_:∀ (i:Nat) (hi:i<g.length),∃ t,∃ hn:i<ns.length,g[i]=.int ns[i] t:=λi hi=>by
  obtain⟨h',T⟩:=r.at i hi;have hn:i<ns.length:=by rw[<-w];exact hi
  rw[(qhR ..)]at T;obtain⟨t,e'⟩:=T;exact⟨t,hn,e'⟩
 obtain⟨⟨c,dd,dt,sl⟩,eo,hc,n,hd⟩:=pl.isList;subst hc hd;have B:j<g.length:=by rw[w];exact j1
 refine qcY qf3 ⟨_,eo,U⟩ PySem.F.entry_list_index (PySem.F.args_list_index_2 _ _) (qjP p g.toArray n dd sl _ _ j (by simpa using B) (by lia) ?_ (λm hm J=>?_)) ⟨eo,λy hy=>(eq_isInt k t (cF r) y (by simpa using hy)).at _ _,?_⟩
 ·obtain⟨t',hn,e⟩:=at_ j B
  rw[qam hn]at W
  have:g.toArray[j]'(by simpa using B)=.int k t':=by simpa [qaN W] using e
  rw[this];simp[isInt]
 ·have G:=by simpa using hm
  obtain⟨t',hn,e⟩:=at_ m G
  have:g.toArray[m]'hm=.int ns[m] t':=by simpa using e
  rw[this]
  have:=j3 m J
  rw[qam hn]at this;have N:ns[m]≠k:=λz=>this (by rw[z]);simp[isInt,N]
 ·exact⟨.int _,H,I.kept λb o e=>e,⟨_,U⟩,q⟩
theorem nO {A:Pos} (ho:IE K X a fa) (ha:IA K X [e] af) (D:qdf a "index" X.env (eval a X.env)=eval a X.env:=by rfl)
  (l:[e].all aA=true:=by rfl) (E:(A.endLine==pos.line)=true:=by rfl) (hK:X.K=K:=by rfl) :
  IE K X (.Call (.Attribute a "index" A) [e] [] pos) (zo fa af):=by
 subst hK;have C:aA e=true:=by rw[qbw,qbi]at l;exact l.1
 refine⟨λenv st r f=>?_⟩;simp only[zo,qac]at f;obtain⟨⟨x,s1⟩,hx,⟨ws,s2⟩,hw,f⟩:=f;dsimp only at f;split at f
 case h_2=>cases f
 rename_i ds k;simp only[qac]at f;obtain⟨ns,hns,f⟩:=f;split at f
 case isFalse=>cases f
 rename_i hl;obtain⟨j,O,rfl⟩:=qad.mp f;have M:=bm hns;subst M;refine (Dc qf4 qf3 PySem.F.type_list_index D9 (ho.run _ _ _ hx) (ha.run _ _ _ hw) D (uR l (by show 1<30;decide)) E (aU C) (bv U)).imp ?_
 rintro σ H Q ⟨φ,hE,hS,q⟩
 refine⟨φ,hE,hS,λv H1 L Y S1 w1=>?_⟩;obtain⟨p,vs,rfl,h0,F,R⟩:=w1;have ev:=Rls.ints R;subst ev;refine⟨.inl ⟨U,_,.inl F⟩,L,hE.fw hS Y,S1,λus H2 S f2 S2 w2=>?_⟩;obtain⟨y,us',rfl,ry,rfl⟩:=w2;cases (show y=.int k from ry);exact⟨p,ns,k,j,U,U,.inl (F.fw f2 h0),hl,O,q _ H2 S (Y.trans f2) S2 U⟩
end
section
variable {K:qae}{H:Hp}{φ ψ:List Addr}{x Cl M:Addr}{xs:List (Str×V)}{o:HO}
theorem Rl.chx (t:H x=some (.ins Cl M xs)) (A:xs.length<=5) (j:∀ a∈ψ,a=x):∀ {d:D}{v:V},Rl K H φ d v->Rl K (upd H x o) (φ++ψ) d v:=by
 have ne:∀ {a:Addr}{u:HO},H a=some u->(∀ C d f,u≠.ins C d f)->a≠x:=λ{a u} h q z=>by
  subst z;rw[t]at h;cases h;exact q _ _ _ U
 have nin:∀ {a:Addr},a≠x->a∉φ->a∉φ++ψ:=λ{a} n h z=>by
  rcases qaO.mp z with z|z
  ·exact h z
  ·exact n (j a z)
 intro d v;refine (?_:∀ v,Rl K H φ d v->Rl K _ _ d v) v;refine D.rec (motive_2:=λds=>∀ g,Rls K H φ ds g->Rls K (upd H x o) (φ++ψ) ds g) ?_ ?_ ?_ ?_ ?_ ?_ ?_ ?_ ?_ ?_ ?_ ?_ d
 ·exact λv h=>h
 ·exact λb v h=>h
 ·exact λb v h=>h
 ·exact λb v h=>h
 ·exact λb v h=>h
 ·rintro v ⟨a,e,hn,h⟩
  rcases h with⟨d,h⟩|⟨d,h⟩
  ·have n:=ne h (by intros;simp)
   exact⟨a,e,nin n hn,.inl ⟨d,by rw[upd_ne n];exact h⟩⟩
  ·have n:=ne h (by intros;simp)
   exact⟨a,e,nin n hn,.inr ⟨d,by rw[upd_ne n];exact h⟩⟩
 ·rintro ns v ⟨a,e,h⟩
  rcases h with⟨ob,h⟩|h
  ·exact⟨a,e,.inl ⟨ob,by rw[upd_ne (ne h (by intros;simp))];exact h⟩⟩
  ·exact⟨a,e,.inr h⟩
 ·rintro ds B v ⟨a,g,rfl,p,s⟩
  exact⟨a,g,U,by rw[upd_ne (ne p (by intros;simp))];exact p,B g s⟩
 ·rintro ds B v ⟨a,g,rfl,F,p,s⟩
  rcases p with p|⟨ob,p⟩
  ·have n:=ne p (by intros;simp)
   exact⟨a,g,U,nin n F,.inl (by rw[upd_ne n];exact p),B g s⟩
  ·have n:=ne p (by intros;simp)
   exact⟨a,g,U,nin n F,.inr ⟨ob,by rw[upd_ne n];exact p⟩,B g s⟩
 ·rintro ns ds B v ⟨a,C',I,fs,g,rfl,F,p,s,O,R,Q,N,P⟩
  have n:a≠x:=λz=>by
   subst z;rw[t]at p;cases p;rw[s,List.length_zip]at A;lia
  exact⟨a,C',I,fs,g,U,nin n F,by rw[upd_ne n];exact p,s,O,R,Q,N,B g P⟩
 ·exact λg h=>h
 ·rintro d ds J G g ⟨v,r,rfl,p,s⟩;exact⟨v,r,U,J v p,G r s⟩
variable (t:H x=some (.ins Cl M xs)) (A:xs.length<=5) (j:∀ a∈ψ,a=x)
include t A j
theorem Rls.chx:∀ {ds:List D}{g:List V},Rls K H φ ds g->Rls K (upd H x o) (φ++ψ) ds g
 |[],_,h=>h
 |d::ds,_,h=>by
  obtain⟨v,r,rfl,p,s⟩:=h;exact⟨v,r,U,Rl.chx t A j p,Rls.chx s⟩
theorem Rw.chx {w:W}{v:V} (h:Rw K H φ w v):Rw K (upd H x o) (φ++ψ) w v:=by
 cases w with
 |d y=>exact Rl.chx t A j h
 |h n=>
  obtain⟨a,e,rfl⟩:=h;exact⟨a,by rw[qaG (qar.mp e).1];exact e,U⟩
theorem Rws.chx:∀ {ds:List W}{g:List V},Rws K H φ ds g->Rws K (upd H x o) (φ++ψ) ds g
 |[],_,h=>h
 |d::ds,_,h=>by
  obtain⟨v,r,rfl,p,s⟩:=h;exact⟨v,r,U,Rw.chx t A j p,Rws.chx s⟩
theorem Rkv.chx:∀ {ds:List (List Int×D)}{g:List (List Key×V)},Rkv K H φ ds g->Rkv K (upd H x o) (φ++ψ) ds g
 |[],_,h=>h
 |(k,d)::ds,_,h=>by
  obtain⟨v,r,rfl,p,s⟩:=h;exact⟨v,r,U,Rl.chx t A j p,Rkv.chx s⟩
theorem Rkk.chx:∀ {ds:List (Int×D)}{g:List (Key×V)},Rkk K H φ ds g->Rkk K (upd H x o) (φ++ψ) ds g
 |[],_,h=>h
 |(k,d)::ds,_,h=>by
  obtain⟨v,r,rfl,p,s⟩:=h;exact⟨v,r,U,Rl.chx t A j p,Rkk.chx s⟩
theorem Rfs.chx:∀ {ds:List (Str×W)}{g:List (Str×V)},Rfs K H φ ds g->Rfs K (upd H x o) (φ++ψ) ds g
 |[],_,h=>h
 |(k,d)::ds,_,h=>by
  obtain⟨v,r,rfl,p,s⟩:=h;exact⟨v,r,U,Rw.chx t A j p,Rfs.chx s⟩
theorem Rc.chx {k:Nat}{a:Addr}{c:C} (E:a≠x) (h:Rc K H φ k a c):Rc K (upd H x o) (φ++ψ) k a c:=by
 cases c with
 |l ds=>obtain⟨g,q,r⟩:=h;exact⟨g,by rw[upd_ne E];exact q,Rls.chx t A j r⟩
 |n ds=>obtain⟨g,q,r,b⟩:=h;exact⟨g,by rw[upd_ne E];exact q,Rws.chx t A j r,b⟩
 |m ds=>obtain⟨g,q,r⟩:=h;exact⟨g,by rw[upd_ne E];exact q,Rkv.chx t A j r⟩
 |k ds=>obtain⟨g,q,r⟩:=h;exact⟨g,by rw[upd_ne E];exact q,Rkk.chx t A j r⟩
 |o ds=>obtain⟨C',d',g,q,r,b⟩:=h;exact⟨C',d',g,by rw[upd_ne E];exact q,Rfs.chx t A j r,b⟩
theorem Er.chx {env:Ev}{L:St} (h:Er K H φ env L):Er K (upd H x o) (φ++ψ) env L:=
 ⟨h.len,λi w e=>let ⟨v,e1,r⟩:=h.at_ i w e;⟨v,e1,Rw.chx t A j r⟩⟩
end
section
variable {K:qae}{H:Hp}{φ:List Addr}{x Cl j:Addr}{xs:List (Str×V)}{o:HO}{st:Sto}
theorem Sr.chx0 (S:Sr K H φ st) (g:H x=some (.ins Cl j xs)) (i:xs.length<=5) (hn:x∉φ):Sr K (upd H x o) φ st:=by
 refine⟨S.nd,S.len,λn a c d e=>?_⟩
 have:=Rc.chx (o:=o) (ψ:=[]) g i (λa z=>nomatch z) (λz=>hn (z ▸ qbt d)) (S.at_ n a c d e)
 rw[(qbf _)]at this;exact this
theorem Sr.chx1 (S:Sr K H φ st) (g:H x=some (.ins Cl j xs)) (i:xs.length<=5) (hn:x∉φ) {c:C} (p:Rc K (upd H x o) (φ++[x]) st.length x c):Sr K (upd H x o) (φ++[x]) (st++[c]):=by
 refine⟨qcB.mpr ⟨S.nd,qcl.mpr ⟨qbP,qdb⟩,λa l b hb z=>by rw[qal.mp hb]at z;exact hn (z ▸ l)⟩,by rw[qaB,qaB,S.len];rfl,λn a k d e=>?_⟩;by_cases h:n<φ.length
 ·rw[qaG h]at d
  rw[qaG (by rw[<-S.len];exact h)]at e;exact Rc.chx g i (λa z=>qal.mp z) (λz=>hn (z ▸ qbt d)) (S.at_ n a k d e)
 ·have m:=(qar.mp d).1
  rw[qaB,qbT]at m;have f:n=φ.length:=by lia
  subst f;rw[qaI (qap _),qeO]at d;rw[S.len,qaI (qap _),qeO]at e;cases d;cases e;rw[S.len];exact p
end
def rG:List (Str×Ef)->Ev->Sto->Option (List (Str×W)×Sto)
 |[],_,st=>some ([],st)
 |(f,g)::r,env,st=>(g env st).bind λx=>(rG r env x.2).map λy=>((f,x.1)::y.1,y.2)
structure FwX (x:Addr) (φ φ':List Addr) (H H':Hp):Prop where
 ext:∃ ψ,φ'=φ++ψ/\∀ a∈ψ,H a=none\/a=x
 keep:∀ b o,b∉φ->b≠x->H b=some o->H' b=some o
 there:∀ b o,H b=some o->∃ o',H' b=some o'
theorem FwX.pre {x:Addr}{φ a i:List Addr}{H H1 H2:Hp}{o p:HO} (r:H x=some p) (hn:x∉a) (f:Fw φ a H H1) (g:FwX x a i (upd H1 x o) H2):FwX x φ i H H2:=by
 obtain⟨ψ,rfl,k⟩:=f.ext;obtain⟨n,rfl,m⟩:=g.ext;have l:∀ b u,H b=some u->∃ d,upd H1 x o b=some d:=λb u h=>by
  by_cases z:b=x
  ·exact⟨o,by rw[z,upd_same]⟩
  ·obtain⟨d,h'⟩:=f.there b u h
   exact⟨d,by rw[upd_ne z];exact h'⟩
 refine⟨⟨_,by rw[qbB],λc j=>?_⟩,λc u j e h=>?_,λc u h=>?_⟩
 ·rcases qaO.mp j with z|z
  ·exact .inl (k c z)
  ·rcases m c z with q|q
   ·left
    cases q':H c with
    |none=>rfl
    |some u=>
     obtain⟨d,h'⟩:=l c u q';rw[q]at h';cases h'
   ·exact .inr q
 ·refine g.keep c u (λz=>?_) e (by rw[upd_ne e];exact f.keep c u j h)
  rcases qaO.mp z with z|z
  ·exact j z
  ·rw[k c z]at h;cases h
 ·obtain⟨d,h'⟩:=l c u h
  exact g.there c d h'
def Hz (K:qae) (g:List (Str×Ef)) (env:Ev) (st:Sto) (y:List (Str×W)×Sto):TS:=λD b H=>∃ φ x Cl c xs fs,Er K H φ env b/\Sr K H φ st/\b[0]?=some (some (.ref x))/\x∉φ/\H x=some (.ins Cl c xs)/\Rfs K H φ fs xs/\
 Cls K Cl/\(∀ p∈fs,cA K Cl p.1)/\(∀ p∈g,cA K Cl p.1)/\fs.length+g.length=6/\(∀ p∈g,p.1∉fs.map (·.1))/\(g.map (·.1)).Nodup/\
 ∀ H' a,FwX x φ a H H'->Sr K H' a (y.2++[.o (fs++y.1)])->a[y.2.length]?=some x->D.nx b H'
structure INI (K:qae) (X:Cx) (ss:List Stmt) (g:List (Str×Ef)):Prop where
 run:∀ env st y,rG g env st=some y->PSs X ss (Hz K g env st y)
section
variable {K:qae}{X:Cx}{e:Expr}{I:Ef}{f:Str}{ss:List Stmt}{g:List (Str×Ef)}{pos c p1:Pos}
theorem t7 {env:Ev}{st:Sto}{w:W}{s1:Sto} (O:X.N[0]?=some ("self" : Str)) (N:Vis X.env.scope "self") (Q:IE K X e I) (S:I env st=some (w,s1)) (M:X.K=K)
  (P:qcw e (some (.Attribute (.Name "self" p1) f c)) pos.line X.env=pure false) :
  PS X (.Assign [.Attribute (.Name "self" p1) f c] e pos) (λD L H=>∃ φ x Cl j xs,Er K H φ env L/\Sr K H φ st/\L[0]?=some (some (.ref x))/\x ∉ φ/\H x=some (.ins Cl j xs)/\Cls K Cl/\cA K Cl f/\xs.length<=5/\f ∉ xs.map (·.1)/\
   ∀ v H1 d,Fw φ d H H1->Sr K H1 d s1->Rw K H1 d w v->x∉d->H1 x=some (.ins Cl j xs)->D.nx L (upd H1 x (.ins Cl j (xs++[(f,v)])))):=by
 subst M;refine (Ao (jU O N) (Q.run _ _ _ S) P).imp ?_
 rintro D L H ⟨φ,x,Cl,j,xs,G,B,F,C,r,t,E,Y,u,q⟩
 refine⟨φ,G,B,λv H1 d l k J=>⟨_,F,x,Cl,j,xs,U,l.keep _ _ C r,t,E,by lia,?_⟩⟩;rw[uL u];exact q v H1 d l k J (l.nin C r) (l.keep _ _ C r)
theorem BA (O:X.N[0]?=some ("self" : Str)) (N:Vis X.env.scope "self") (Q:IE K X e I) (M:X.K=K:=by rfl)
  (P:qcw e (some (.Attribute (.Name "self" p1) f c)) pos.line X.env=pure false:=by rfl):INI K X [.Assign [.Attribute (.Name "self" p1) f c] e pos] [(f,I)]:=by
 refine⟨λenv st y n=>?_⟩;simp only[rG,qac,qao]at n;obtain⟨⟨w,s1⟩,S,n⟩:=n;cases n;refine (wY (t7 O N Q S M P)).imp ?_
 rintro D L H ⟨φ,x,Cl,j,xs,fs,G,B,F,C,r,t,E,Y,u,T,V,s,q⟩
 have hl:xs.length=5:=by rw[<-t.length];simpa using T
 have nf:f∉xs.map (·.1):=by rw[t.keys];exact V _ qag
 refine⟨φ,x,Cl,j,xs,G,B,F,C,r,E,u _ qag,by lia,nf,λv H1 d l k J hn i=>?_⟩;have r1:=t.fw B l;have w2:=Rw.chx (o:=.ins Cl j (xs++[(f,v)])) i (by lia) (λa z=>qal.mp z) J
 refine q _ _ ?_ (k.chx1 i (by lia) hn ⟨Cl,j,_,upd_same,Rfs.snoc w2 (Rfs.chx (o:=.ins Cl j (xs++[(f,v)])) (ψ:=[x]) i (by lia) (λa z=>qal.mp z) r1),λm hm=>by rw [<-k.len];exact (Rfs.snoc (f:=f) J r1).mem hm,E,λp A=>by
  rcases qaO.mp A with z|z
  ·exact Y p z
  ·rw[qal.mp z];exact u _ qag⟩) (by rw[<-k.len,qaI (qap _),qeO];rfl)
 refine FwX.pre r hn l ⟨⟨_,U,λa z=>.inr (qal.mp z)⟩,λb o _ _ h=>h,λb o h=>⟨o,h⟩⟩
theorem iI (O:X.N[0]?=some ("self" : Str)) (N:Vis X.env.scope "self") (Q:IE K X e I) (hr:INI K X ss g) (hg:g≠[]:=by intro z;cases z) (M:X.K=K:=by rfl)
  (P:qcw e (some (.Attribute (.Name "self" p1) f c)) pos.line X.env=pure false:=by rfl):INI K X (.Assign [.Attribute (.Name "self" p1) f c] e pos::ss) ((f,I)::g):=by
 refine⟨λenv st y n=>?_⟩;simp only[rG,qac]at n;obtain⟨⟨w,s1⟩,S,n⟩:=n;obtain⟨y',hy',rfl⟩:=qad.mp n;refine (dE (t7 O N Q S M P) (hr.run _ _ _ hy')).imp ?_
 rintro D L H ⟨φ,x,Cl,j,xs,fs,G,B,F,C,r,t,E,Y,u,T,V,s,q⟩
 have hg1:=List.length_pos_iff.mpr hg;have hl:xs.length<=4:=by rw[<-t.length];rw[qaq]at T;lia
 have nf:f∉xs.map (·.1):=by rw[t.keys];exact V _ qag
 refine⟨φ,x,Cl,j,xs,G,B,F,C,r,E,u _ qag,by lia,nf,λv H1 d l k J hn i=>?_⟩;have r2:=Rfs.chx (o:=.ins Cl j (xs++[(f,v)])) (ψ:=[]) i (by lia) (λa z=>nomatch z) (t.fw B l)
 have w2:=Rw.chx (o:=.ins Cl j (xs++[(f,v)])) (ψ:=[]) i (by lia) (λa z=>nomatch z) J
 have R:=Er.chx (o:=.ins Cl j (xs++[(f,v)])) (ψ:=[]) i (by lia) (λa z=>nomatch z) (G.fw B l)
 rw[(qbf _)]at r2 w2 R;rw[qaw,qcl]at s;refine⟨d,x,Cl,j,_,_,R,k.chx0 i (by lia) hn,F,hn,upd_same,Rfs.snoc w2 r2,E,λp A=>?_,λp A=>u p (qai _ A),by rw[qaB,qbT];rw[qaq]at T;lia,λp A z=>?_,s.2,λH' φ' fx S' ex=>?_⟩
 ·rcases qaO.mp A with z|z
  ·exact Y p z
  ·rw[qal.mp z];exact u _ qag
 ·rw[qbp]at z
  rcases qaO.mp z with z|z
  ·exact V p (qai _ A) z
  ·rw[qaw,qeG,qal]at z
   exact s.1 (z ▸ qdY A)
 ·rw[qbB]at S'
  exact q H' φ' (FwX.pre r hn l fx) S' ex
end
def CF (K:qae) (n:Nat) (ps:Nat) (g:List (Str×Ef)):Sp:=λc H Q _=>∃ φ st ws y x b Cl rest H1,c=.ref x::rest/\ws.length+1=ps/\rG g (none::(ws.map some++qay (n - ps) none)) st=some y/\Rws K H1 φ ws rest/\Sr K H1 φ st/\H1 x=none/\H1 b=none/\b≠x/\
 H=upd (upd H1 b (.own x)) x (.ins Cl b [])/\Cls K Cl/\(∀ p∈g,cA K Cl p.1)/\g.length=6/\(g.map (·.1)).Nodup/\∀ H' a,Fw φ a H1 H'->Sr K H' a (y.2++[.o y.1])->a[y.2.length]?=some x->Q .non H'
theorem FD {P:qaQ}{w:World}{K:qae}{mg:Str->Option Value}{base:Heap}{x c:Str}{st:Stmt}{f:Addr}{fd:qb6}{N ps:List Str}{k:Nat}{g:List (Str×Ef)} (F:Fun K x c st f fd) (S:cy N ps (au st)) (hN:ps.length<=N.length)
  (hb:∀ (j:Value) (A:qa1) (outer:List Env) (s:qaj) (H:Hp) (E:XK),bz k (A.deeper (qeB c (au st) s.heap.objs.size f j))->INI K (fV CX0 P w K mg base N c (au st) f j A outer s H E).nox (aW st) g) :
  dP P w K mg base CX0 (k+1) f fd ps (CF K N.length ps.length g):=by
 refine F.ok S (λJ H Q E h=>?_) λj A outer s H J Q E T h=>?_
 ·obtain⟨φ,st,ws,y,x,m,Cl,rest,H1,rfl,u,e,rw,_⟩:=h
  rw[qaq,<-rw.length,u]
 ·obtain⟨φ,M,ws,y,x,m,Cl,rest,H1,rfl,u,e,rw,S',n,hd,l,rfl,X,hA,W,B,q⟩:=h
  refine⟨_,(hb j A outer s _ E T).run _ _ _ e,φ,x,Cl,m,_,[],?_,?_,?_,?_,upd_same,U,X,λp O=>(nomatch O),hA,by simpa using W,λp _ z=>(nomatch z),B,λH' t C S2 ex=>?_⟩
  ·have r:aR H1 (upd (upd H1 m (.own x)) x (.ins Cl m [])):=(aR.new hd _).trans (aR.new (by rw[upd_ne (qbo l)];exact n) _)
   have D:=nF (N:=N) (ws:=.d .non::ws) ⟨_,rest,U,U,(rw.fw S' (Fw.same r))⟩ (by exact u);refine⟨?_,λi w G=>?_⟩
   ·have:=D.len
    unfold jc at this ⊢
    simp at this ⊢
    lia
   ·cases i with
    |zero=>cases G
    |succ i=>
     obtain⟨v,I,L⟩:=D.at_ (i+1) w G;refine⟨v,?_,L⟩;unfold jc at I ⊢;simpa using I
  ·exact S'.same ((aR.new hd _).trans (aR.new (by rw[upd_ne (qbo l)];exact n) _))
  ·rfl
  ·exact S'.nin n
  ·refine q H' t ?_ S2 ex
   obtain⟨ψ,rfl,V⟩:=C.ext;have r:aR H1 (upd (upd H1 m (.own x)) x (.ins Cl m [])):=(aR.new hd _).trans (aR.new (by rw[upd_ne (qbo l)];exact n) _);refine⟨⟨ψ,U,λa R=>?_⟩,λb o hb h=>?_,λb o h=>C.there b o (r b o h)⟩
   ·rcases V a R with z|z
    ·cases q':H1 a with
     |none=>rfl
     |some o=>rw[r a o q']at z;cases z
    ·rw[z];exact n
   ·exact C.keep b o hb (λz=>by rw[z,n]at h;cases h) (r b o h)
def qv (n ps:Nat) (g:List (Str×Ef)) (a:Af):Ef
 |env,st=>(a env st).bind λr=>if r.1.length+1=ps then (rG g (none::(r.1.map some++qay (n - ps) none)) r.2).map λy=>(.h y.2.length,y.2++[.o y.1]) else none
theorem Bz {K:qae}{X:Cx}{x:Str}{k j:Nat}{l Cl:Addr}{fd:qb6}{N ps:List Str}{g:List (Str×Ef)}{p pos:Pos}{e:Expr}{es:List Expr}{m:Af} (M:Mk X.K Cl l) (F:dP X.prog X.w X.K X.mg X.base CX0 j l fd ps (CF K N.length ps.length g)) (a:j<=k) (B:bz (k+1) X.A) (hg:Gl X x) (hm:X.mg x=some (.ref Cl)) (hb:dq X.K fd ps [])
  (L:Cls K Cl) (hA:∀ p∈g,cA K Cl p.1) (J:g.length=6) (i:(g.map (·.1)).Nodup)
  (A:IA K X (e::es) m) (f:(x==("__debug__" : Str))=false:=by decide) (u:aA e=true:=by rfl) (w:es.all aA=true:=by rfl) :
  IE K X (.Call (.Name x p) (e::es) [] pos) (qv N.length ps.length g m):=by
 refine⟨λenv st r h=>?_⟩;simp only[qv,qac]at h;obtain⟨y,s,h⟩:=h;split at h
 case isFalse=>cases h
 rename_i D;obtain⟨z,n,rfl⟩:=qad.mp h;refine (B7 M (F.mono a) B hg hm hb .nil z7 (A.run _ _ _ s) f (aU u) (bv w)).imp ?_
 rintro P H Q ⟨φ,v,I,q⟩
 refine⟨φ,v,I,λo H1 c t s1 C=>λx E O hd d=>?_⟩;rw[qbf];refine⟨c,_,_,z,x,E,Cl,o,H1,U,D,n,C,s1,O,hd,d,U,L,hA,J,i,λH' b G S2 ex=>⟨U,?_⟩⟩;exact q _ H' b (t.trans G) S2 ⟨x,ex,U⟩
def vwF (st:Sto):List (Str×W)->Option (List D)
 |[]=>some []
 |(_,.d x)::r=>(vwF st r).map λy=>x::y
 |(_,.h m)::r=>(lg st m).bind λds=>(vwF st r).map λy=>.lst ds::y
def vwW (st:Sto):W->Option W
 |.d x=>some (.d x)
 |.h n=>match st[n]? with
  |some (.o fs)=>if 5<fs.length then (vwF st fs).map λds=>.d (.ob (fs.map (·.1)) ds) else none
  |some (.l ds)=>some (.d (.lst ds))
  |_=>none
def vwA (st:Sto):List W->Option (List W)
 |[]=>some []
 |w::ws=>(vwW st w).bind λx=>(vwA st ws).map λy=>x::y
mutual
def okT:D->Bool
 |.non=>true
 |.bl _=>true
 |.int _=>true
 |.str _=>true
 |.tup ds=>vS ds
 |_=>false
def vS:List D->Bool
 |[]=>true
 |d::ds=>okT d&&vS ds
end
section
variable {K:qae}{H:Hp}{φ φ':List Addr}
mutual
theorem Rl.any:∀ {d:D}{v:V},okT d=true->Rl K H φ d v->Rl K H φ' d v
 |.non,_,_,h=>h
 |.bl _,_,_,h=>h
 |.int _,_,_,h=>h
 |.str _,_,_,h=>h
 |.tup ds,_,o,h=>by
  obtain⟨a,vs,rfl,h1,h2⟩:=h;exact⟨a,vs,U,h1,Rls.any (by rw[okT]at o;exact o) h2⟩
 |.ty _,_,o,_=>by rw[okT]at o<;>first|cases o|(intros;simp)
 |.dct,_,o,_=>by rw[okT]at o<;>first|cases o|(intros;simp)
 |.scr _,_,o,_=>by rw[okT]at o<;>first|cases o|(intros;simp)
 |.lst _,_,o,_=>by rw[okT]at o<;>first|cases o|(intros;simp)
 |.ob _ _,_,o,_=>by rw[okT]at o<;>first|cases o|(intros;simp)
theorem Rls.any:∀ {ds:List D}{vs:List V},vS ds=true->Rls K H φ ds vs->Rls K H φ' ds vs
 |[],_,_,h=>h
 |d::ds,_,o,h=>by
  rw[vS,qbi]at o;obtain⟨v,r,rfl,h1,h2⟩:=h;exact⟨v,r,U,Rl.any o.1 h1,Rls.any o.2 h2⟩
end
theorem Rl.bare {d:D}{v:V} (h:Rl K H φ d v):Rl K H [] d v:=Rl.less h
theorem Rls.bare {d:List D}{v:List V} (h:Rls K H φ d v):Rls K H [] d v:=Rls.less h
theorem qK:∀ {fs:List (Str×W)}{vs:List (Str×V)},Rfs K H φ fs vs->vs=(fs.map (·.1)).zip (vs.map (·.2))
 |[],vs,r=>by cases r;rfl
 |(n,x)::fs,vs,r=>by
  obtain⟨v,t,rfl,g,i⟩:=r;rw[qaw,qaw,qdq,<-qK i]
theorem sB {st:Sto} (S:Sr K H φ st):∀ {fs:List (Str×W)}{vs:List (Str×V)}{ds:List D},Rfs K H φ fs vs->vwF st fs=some ds->Rls K H [] ds (vs.map (·.2))
 |[],vs,ds,r,h=>by cases r;cases h;rfl
 |(n,.d x)::fs,vs,ds,r,h=>by
  obtain⟨v,t,rfl,g,i⟩:=r;obtain⟨y,k,rfl⟩:=qad.mp h;exact⟨v,_,U,Rl.bare g,sB S i k⟩
 |(n,.h m)::fs,vs,ds,r,h=>by
  obtain⟨v,t,rfl,g,i⟩:=r;obtain⟨es,E,h⟩:=qac.mp h;obtain⟨y,k,rfl⟩:=qad.mp h;obtain⟨a,s,rfl⟩:=g;obtain⟨l,B,A⟩:=S.atl m a es s E;exact⟨_,_,U,⟨a,l,U,qbP,.inl B,Rls.bare A⟩,sB S i k⟩
theorem xv {st:Sto} (S:Sr K H φ st):∀ {ws:List W}{vs:List V}{c:List W},Rws K H φ ws vs->vwA st ws=some c->Rws K H [] c vs
 |[],vs,c,r,h=>by cases h;exact r
 |w::ws,vs,c,r,h=>by
  obtain⟨v,t,rfl,g,i⟩:=r;obtain⟨x,e,h⟩:=qac.mp h;obtain⟨y,k,rfl⟩:=qad.mp h;refine⟨v,t,U,?_,xv S i k⟩;cases w with
  |d z=>cases e;exact Rl.bare g
  |h n=>
   unfold vwW at e;dsimp only at e;split at e
   ·rename_i fs C
    split at e
    ·rename_i L
     obtain⟨ds,j,rfl⟩:=qad.mp e;obtain⟨a,s,rfl⟩:=g;obtain⟨Cl,G,l,q,u,b,I,hA⟩:=S.at_ n a _ s C;refine⟨a,Cl,G,l,_,U,qbP,q,qK u,by rw[qah,qah,u.length],by rw[qah];exact L,I,λf J=>?_,sB S u j⟩;obtain⟨p,F,rfl⟩:=qaD.mp J;exact hA p F
    ·cases e
   ·rename_i ds j
    cases e;obtain⟨a,s,rfl⟩:=g;obtain⟨l,B,A⟩:=S.at_ n a _ s j;exact⟨a,l,U,qbP,.inl B,Rls.bare A⟩
   ·cases e
end
def dg (m:Fn) (a:Af):Ef
 |env,st=>(a env st).bind λr=>(vwA r.2 r.1).bind λws=>(m ws []).bind λy=>match y.1 with
 |.d x=>if okT x=true then some (.d x,r.2) else none
 |_=>none
theorem zv {K:qae}{X:Cx}{e:Expr}{es:List Expr}{pos:Pos}{u:Af}{x:Str}{k j:Nat}{f:Addr}{fd:qb6}{ps:List Str}{m:Fn}{p:Pos} (F:dP X.prog X.w X.K X.mg X.base CX0 j f fd ps (spI K m)) (g:j<=k) (L:bz k X.A) (hg:Gl X x) (hm:X.mg x=some (.ref f)) (M:qcD X.K (.ref f)=true) (hb:dq X.K fd ps [])
  (J:IA K X (e::es) u) (s:(x==("__debug__" : Str))=false:=by decide) (E:aA e=true:=by rfl) (I:es.all aA=true:=by rfl) :
  IE K X (.Call (.Name x p) (e::es) [] pos) (dg m u):=by
 refine⟨λenv st r h=>?_⟩;simp only[dg,qac]at h;obtain⟨y,C,ws,l,⟨w,V⟩,A,h⟩:=h;cases w with
 |h n=>cases h
 |d z=>
  dsimp only at h;split at h
  case isFalse=>cases h
  rename_i hok;cases h;refine (wU (F.mono g) L hg hm M hb .nil z7 (J.run _ _ _ C) s (aU E) (bv I)).imp ?_
  rintro W H Q ⟨φ,G,R,q⟩
  refine⟨φ,G,R,λT H1 i D s1 N=>?_⟩;show spI K m _ H1 Q E0;rw[qbf];refine⟨_,_,ws,_,A,xv s1 N l,⟨qdb,U,λn a c O _=>by cases O⟩,λv H2 P S B w2=>?_⟩;have t:=λb o h=>S.keep b o qbP h;exact q v H2 i (D.trans (Fw.same t)) (s1.same t) (Rl.any hok w2)
theorem Rls.flat {K:qae}{H H':Hp}{φ c:List Addr}:∀ {ds:List D}{e:List V},ds.all cK=true->Rls K H φ ds e->Rls K H' c ds e
 |[],_,_,h=>h
 |d::ds,_,o,h=>by
  rw[qbw,qbi]at o;obtain⟨v,r,rfl,a,f⟩:=h;refine⟨v,r,U,?_,Rls.flat o.2 f⟩;cases d with
  |non=>exact a
  |bl b=>exact a
  |int b=>exact a
  |str b=>exact a
  |_=>exact absurd o.1 (by simp[cK])
def i3 (b g h f e:Nat) (fl:Lf):Sf
 |env,st=>(fl env st).bind λr=>match env.getD g none,env.getD h none,env.getD f none,env.getD e none with
 |some (.d (.int p)),some (.d (.int c)),some (.d (.lst ts)),some (.d a)=>(ixN r.1.length p).bind λj=>(ixN ts.length c).bind λi=>if ts.length<=1000000/\b<env.length/\ts.all cK=true then some (.nx (env.set b (some (.d (.lst (r.1.set j (.lst (ts.set i a))))))) r.2) else none
 |_,_,_,_=>none
theorem mH {env:Ev}{i:Nat}{w:W} (h:env.getD i none=some w):env[i]?=some (some w):=by
 rw[qfV]at h;cases q:env[i]? with
 |none=>rw[q]at h;cases h
 |some o=>rw[q]at h;rw[show o=some w from h]
theorem BC {α:Type}{xs:List α}{i:Int}{j:Nat}{v:α} (h:ixN xs.length i=some j) (a:xs[j]?=some v):atI xs i=some v:=by
 unfold atI;rw[h];exact a
theorem DU {n:Nat}{i:Int}{j:Nat} (h:ixN n i=some j):j<n:=(mI h).2.1
structure ISL (K:qae) (X:Cx) (s:Stmt) (i0:Nat) (fl:Lf):Prop where
 run:∀ env st r,fl env st=some r->PS X s (λD σ H=>∃ φ,Er K H φ env σ/\Sr K H φ st/\∀ a vs H1 φ',Fw φ φ' H H1->Sr K H1 φ' r.2->H1 a=none->Rls K H1 φ' r.1 vs->D.nx (σ.set i0 (some (.ref a))) (upd H1 a (.lst vs)))
theorem DQ {K:qae}{X:Cx}{pos:Pos}{m:Expr}{b:Scope}{Nc:List Str}{k:Nat}{js:List Nat}{f iter:Expr}{h:List Expr}{y:Lf}{g:Tg}{tt:Tf}{te:Ef}{z:Nat}{i:Str}{A e:Pos}
  (t:X.N.Nodup) (u:X.N[z]?=some i) (p:Loc X.env.scope i) (S:dQ X b Nc (fW k js)) (B:X.calm=true) (v:∀ j∈tP g,j<k) (hi:II K X m iter y)
  (hg:∀ a s H C d,PG (lcX X b a Nc s H C d) m (tG K g)) (M:∀ a s H C d,ITs K (lcX X b a Nc s H C d) h tt) (I:∀ a s H C d,IE K (lcX X b a Nc s H C d) f te)
  (hsw:qcw (.ListComp f [⟨m,iter,h,0⟩] b pos) (some (.Name i A)) e.line X.env=pure true:=by rfl)
  (w:X.fn i=true\/X.env.scope.names.lookup i=some .local:=by first|exact .inl U|exact .inr U|assumption)
  (F:∀ x,qbX iter X.env x=pure x:=by intro _;rfl):ISL K X (.Assign [.Name i A] (.ListComp f [⟨m,iter,h,0⟩] b pos) e) z (iLc k js y g tt te):=by
 refine⟨λenv st r n=>?_⟩;simp only[iLc,qac]at n;obtain⟨⟨ds,s1⟩,E,n⟩:=n;have c:=n;by_cases o:¬ ds.length<=1000000
 ·rw[iFN o]at c;cases c
 have l:ds.length<=1000000:=by lia
 rw[iFP l]at c;refine (Dg t u p S B (hi.run _ _ _ E) hg (λa s H C d=>(M a s H C d).run) (λa s H C d=>(I a s H C d).any) hsw w F).imp ?_
 rintro D J H ⟨φ,G,L,q⟩
 exact vG v l c J H _ ⟨φ,G,L,q⟩
section
variable {K:qae}{X:Cx}{W:Stmt}{m t F I G:Str}{l Y ic it R:Nat}{comp:Expr}{fl:Lf}{ss:List Stmt}{gb:Sf}{p1 p2 p3 p4 p5 p6 p7 p8 p9 q1 q2 q3 q4 q5 q6 q7:Pos}
theorem f7 (hN:X.N.Nodup) (nl:X.N[l]?=some m) (np:X.N[Y]?=some t) (nc:X.N[ic]?=some F) (nt:X.N[it]?=some I) (na:X.N[R]?=some G)
  (ll:Loc X.env.scope m) (vl:Vis X.env.scope m) (vp:Vis X.env.scope t) (vc:Vis X.env.scope F) (vt:Vis X.env.scope I) (va:Vis X.env.scope G) (d1:l≠Y) (d2:l≠ic) (d3:l≠it) (d4:l≠R)
  (bl:(m==("__debug__" : Str))=false) (bp:(t==("__debug__" : Str))=false) (bc:(F==("__debug__" : Str))=false) (bt:(I==("__debug__" : Str))=false) (ba:(G==("__debug__" : Str))=false)
  (el:(m==("__classdict__" : Str))=false) (ep:(t==("__classdict__" : Str))=false) (ec:(F==("__classdict__" : Str))=false) (et:(I==("__classdict__" : Str))=false) (ea:(G==("__classdict__" : Str))=false)
  (J:ISL K X W l fl) (hgL:Gl X "list") (hmL:X.mg "list" = none) (N:ISs K X ss gb)
  (hs2:qdH [.Subscript (.Name m p3) (.Name t p4) p5] (.Call (.Name "list" p6) [.Name I p7] [] p8) p9.line X.env=pure false) (hw2:qdI [.Subscript (.Name m p3) (.Name t p4) p5] (.Call (.Name "list" p6) [.Name I p7] [] p8) X.env=pure none)
  (hs3:qdH [.Subscript (.Subscript (.Name m q1) (.Name t q2) q3) (.Name F q4) q5] (.Name G q6) q7.line X.env=pure false) (hw3:qdI [.Subscript (.Subscript (.Name m q1) (.Name t q2) q3) (.Name F q4) q5] (.Name G q6) X.env=pure none) (hK:X.K=K) :
  ISs K X (W::.Assign [.Subscript (.Name m p3) (.Name t p4) p5] (.Call (.Name "list" p6) [.Name I p7] [] p8) p9::.Assign [.Subscript (.Subscript (.Name m q1) (.Name t q2) q3) (.Name F q4) q5] (.Name G q6) q7::ss) (ah (i3 l Y ic it R fl) gb):=by
 subst hK;refine⟨λenv st r hr=>?_⟩;simp only[ah,i3,qac]at hr;obtain⟨r1,⟨⟨ds,s1⟩,hfl,g⟩,hr⟩:=hr;split at g
 case h_2=>cases g
 rename_i p c ts a hp hc ht ha';simp only[qac]at g;obtain⟨j,hj,i,hi,g⟩:=g;split at g
 case isFalse=>cases g
 rename_i hz;cases g;have pl:∀ {q:Pos},PE X (.Name m q) (uU l):=λ{q}=>jU nl vl bl el;have pp:∀ {q:Pos},PE X (.Name t q) (uU Y):=λ{q}=>jU np vp bp ep;have pc:∀ {q:Pos},PE X (.Name F q) (uU ic):=λ{q}=>jU nc vc bc ec;have pt:∀ {q:Pos},PE X (.Name I q) (uU it):=λ{q}=>jU nt vt bt et;have pa:∀ {q:Pos},PE X (.Name G q) (uU R):=λ{q}=>jU na va ba ea
 refine (dE (J.run _ _ _ hfl) (dE (ph (dj ((gz (K:=X.K) U).run s1 [.d (.lst ts)] ts U) hgL hmL qaM (mK pt rY) (by decide) (by decide)) (rZ pl pp k8 (mz U)) hs2 hw2 (jW U))
  (dE (ph pa (rZ (Aa rM pl pp (ot U)) pc k8 (mz U)) hs3 hw3 (jW U)) (N.run _ _ _ hr)))).imp ?_
 rintro D σ H ⟨φ,hE,hS,q⟩
 refine⟨φ,hE,hS,λy S H1 s f1 S1 B rl=>?_⟩;have n:=hE.fw hS f1;obtain⟨vp',gp,rp⟩:=n.at_ Y _ (mH hp);obtain⟨vc',gc,rc⟩:=n.at_ ic _ (mH hc);obtain⟨vt',gt,rt⟩:=n.at_ it _ (mH ht);obtain⟨L,ga,ra⟩:=n.at_ R _ (mH ha');subst rp rc;have f:∀ {k:Nat}{u:V}{v:V},l≠k->σ[k]?=some _->(σ.set l (some v))[k]?=some (some u):=λ{k u v} h e=>by rw[qbC h];exact e
 -- the list's line
 refine⟨_,f d3 gt,s,S1.new B,⟨vt',_,U,?_,U⟩,λbl M H2 sm O ru=>?_⟩
 ·exact (Rl.fw S1 (Fw.new B) rt)
 have E:=sm _ _ upd_same;have A:=aN E O;have x:=rl.length.symm;have T:(σ.set l (some (.ref y)))[l]?=some (some (.ref y)):=by
  rw[qbs];rw[<-hE.len];exact hz.2.1
 refine⟨_,T,_,f d1 gp,y,S,p,j,U,U,by rw[upd_ne A];exact E,by rw[x];exact hj,?_⟩;have hjl:j<S.length:=by rw[x];exact DU hj
 refine⟨_,f d4 ga,_,T,_,f d1 gp,.inl ⟨y,_,p,.ref bl,U,U,SqL.of upd_same,BC (j:=j) (by rw[qb7,x];exact hj) (by rw[qbs hjl]),?_⟩⟩;refine⟨_,f d2 gc,bl,M,c,i,U,U,by rw[upd_ne (qbo A),upd_same],by rw[ru.length.symm];exact hi,?_⟩;have P:aR H1 (upd (upd (upd H2 bl (.lst M)) y (.lst (S.set j (.ref bl)))) bl (.lst (M.set i L))):=λb o h=>by
  have e1:b≠y:=λz=>by rw[z,B]at h;cases h
  have Q:=sm b o (by rw[upd_ne e1];exact h);have e2:b≠bl:=λz=>by rw[z,O]at Q;cases Q
  rw[upd_ne e2,upd_ne e1,upd_ne e2];exact Q
 dsimp only;generalize hH:upd (upd (upd H2 bl (.lst M)) y (.lst (S.set j (.ref bl)))) bl (.lst (M.set i L))=H5 at P ⊢;have ha5:H5 y=some (.lst (S.set j (.ref bl))):=by rw[<-hH,upd_ne A,upd_same]
 have hb5:H5 bl=some (.lst (M.set i L)):=by rw[<-hH,upd_same]
 have C:Fw s s H1 H5:=Fw.same P;have ru5:Rls X.K H5 s ts M:=Rls.flat hz.2.2 ru;refine⟨s,(n.fw S1 C).set l (w:=.d (.lst (ds.set j (.lst (ts.set i a))))) ?_,S1.same P,?_⟩
 ·exact⟨y,_,U,(S1.nin B),.inl ha5,Rls.set j (rl.fw S1 C) ⟨bl,_,U,(λz=>by
  obtain⟨o,ho,_⟩:=S1.lst z
  have:bl≠y:=qbo A
  have Q:H2 bl=some o:=sm bl o (by rw[upd_ne this];exact ho)
  rw[O]at Q;cases Q),.inl hb5,Rls.set i ru5 (Rl.fw S1 C ra)⟩⟩
 ·exact q.fw (f1.trans C)
end
section
variable {K:qae}{X:Cx}
def Ff (_ j:Int):Prop:=0<j/\j.natAbs.log2<9000
theorem z6:OpR X (qbI .FloorDiv) (rI Ff λi j=>.int (i / j)):=opI λi j _ _ _ _ _ g q=>by
 obtain⟨h0,h1⟩:=g;exact floordiv_int (by lia) (by rw[qd8 i (by lia)];exact q) (.inl (PyProof.noPylong_of_log2 h1))
def rj (_:Sto):W->W->Option D
 |.d (.int i),.d (.int j)=>if 0<j/\j.natAbs.log2<9000 then some (.int (i / j)) else none
 |_,_=>none
theorem oS:OpD K X (qbI .FloorDiv) rj:=hU (λ_ _ _=>rfl) λi j d h=>by obtain⟨c,rfl⟩:=ifS h;exact⟨z6.imp λ_ _ _ _ q=>⟨i,j,q.1,q.2.1,c,q.2.2⟩,U⟩
theorem zB:bG X (.type "range") (λxs H Q=>∃ i j:Int,xs=[.int i,.int j]/\∀ p,H p=none->Q (.ref p) (upd H p (.rng i j))):=by
 intro J s σ H xs us Q I R h;obtain⟨i,j,rfl,q⟩:=h;cases R with
 |cons r G=>
  cases G with
  |cons r' G=>
   cases G;obtain⟨t,rfl⟩:=r;obtain⟨t',rfl⟩:=r';exact call_range_2 ⟨.ref _,_,I.laid (o:=.rng i j) (λ_ _ q=>qaf _ q) (qap _) ⟨_,_,_,qas _ U⟩,U,q _ I.fresh⟩
theorem zz {acc:Array Value}{lo:Int}{n:Nat} (h:ItemsOf (λi v=>∃ t,v=Value.int (lo+(i:Int)*1) t) acc n):aI ((qak n).map λk:Nat=>V.int (lo+k)) acc.toList:=by
 obtain⟨hz,hi⟩:=h;have S:∀ (l:List Value) (k:Nat),(∀ j v,l[j]?=some v->∃ t,v=Value.int (lo+((k+j:Nat))) t)->aI ((qeZ k l.length).map λk:Nat=>V.int (lo+k)) l:=by
  intro l
  induction l with
  |nil=>intro k _;exact .nil
  |cons x l ih=>
   intro k h;obtain⟨t,e⟩:=h 0 x U;refine .cons ⟨t,e⟩ (ih _ λj v O=>?_);obtain⟨t,e⟩:=h (j+1) v (by simpa using O);exact⟨t,by rw[e,show k+_=k+1+j by lia]⟩
 have:=S acc.toList 0 λj v O=>by
  obtain⟨t,e⟩:=hi j v (by simpa using O);exact⟨t,by rw[e,qc3,qbj]⟩
 rw[qg0];rw[qcC,hz]at this;exact this
theorem wC (g:X.calm=true:=by rfl):bG X (.type "list") (λxs H Q=>∃ (p:Addr) (lo:Int) (n:Nat),xs=[.ref p]/\H p=some (.rng lo (lo+(n:Int)))/\n<=1000/\-1000000<=lo/\lo<=1000000/\∀ l,H l=none->Q (.ref l) (upd H l (.lst ((qak n).map λk:Nat=>V.int (lo+k))))):=by
 intro J s σ H xs us Q I R h;obtain⟨p,lo,n,rfl,w,hn,l1,l2,q⟩:=h;cases R with
 |cons r G=>
  cases G;cases r;obtain⟨t,u,v,e⟩:=I.hok p _ w;refine call_list_range (I.ok.hd g) e ?_ (n:=n) ?_ (by lia) λh' tk acc c kp e' F=>?_
  ·have fl:∀ z ,-2000000<=z->z<=2000000->qeX z=true:=λz h1 h2=>by
    unfold qeX;simp only[qbi,decide_eq_true_eq];omega
   have M:qfn lo (lo+(n)) 1=(n):=by rw[qhi];split<;>lia
   unfold qiO;rw[M];simp[fl lo (by lia) (by lia),fl (lo+(n)) (by lia) (by lia),fl 1 _ _,fl (n) _ (by lia)]
  ·rw[qhi];split<;>lia
  ·exact⟨.ref s.heap.objs.size,_,I.laid kp (qap _) (show cq X.prog X.w _ h' _ (.lst _) from ⟨by rw[qah,qat];exact jq hn,acc.toList,c,zz F,by simpa using e'⟩),U,q _ (I.hok.fresh (qap _))⟩
def mx (a:Af):Lf
 |env,st=>(a env st).bind λr=>match r.1 with
 |[.d (.int j)]=>if 0<=j/\j<=1000 then some (bi 0 j.toNat,r.2) else none
 |_=>none
def rE (a:Af):Lf
 |env,st=>(a env st).bind λr=>match r.1 with
 |[.d (.int i),.d (.int j)]=>if 0<=j - i/\j - i<=1000/\-1000000<=i/\i<=1000000 then some (bi i (j - i).toNat,r.2) else none
 |_=>none
theorem Rls.rng {H:Hp}{φ:List Addr} (lo:Int) (n:Nat):Rls K H φ (bi lo n) ((qak n).map λk:Nat=>V.int (lo+k)):=by
 have:bi lo n=((qak n).map λk:Nat=>lo+(k)).map D.int:=by rw[qaP];rfl
 rw[this,show ((qak n).map λk=>V.int _)=((qak n).map λk=>lo+_).map V.int by rw[qaP];rfl];exact Rls.of_ints _
variable {a b:Expr}{L:Af}{p1 p2 p3 p4:Pos}
theorem lE (C:Gl X "list") (E:X.mg "list" = none) (A:Gl X "range") (y:X.mg "range" = none) (ha:IA K X [a] L) (g:X.calm=true:=by rfl) (T:aA a=true:=by rfl) :
  IL K X (.Call (.Name "list" p1) [.Call (.Name "range" p2) [a] [] p3] [] p4) (mx L):=by
 refine⟨λenv st r f=>?_⟩;simp only[mx,qac]at f;obtain⟨⟨ws,s1⟩,hw,f⟩:=f;dsimp only at f;split at f
 case h_2=>cases f
 rename_i j;split at f
 case isFalse=>cases f
 rename_i hj;cases f;refine (dj (wC g) C E qaM (mK (dj BE A y qfq (ha.run _ _ _ hw) (by decide) (by decide) (aU T) (bv U)) rY (aU U)) (by decide) (by decide) (aU U) (bv U)).imp ?_
 rintro σ H Q ⟨φ,Y,hS,q⟩
 refine⟨φ,Y,hS,λvs H1 B P m w1=>?_⟩;obtain⟨v,r,rfl,N,rfl⟩:=w1;subst N;refine⟨j,U,λp w=>⟨p,0,j.toNat,U,?_,by lia,by lia,by lia,λl hl=>?_⟩⟩
 ·rw[upd_same,qbW,Int.toNat_of_nonneg hj.1]
 ·exact q l _ _ B (P.trans (Fw.new w)) (m.new w) hl (Rls.rng 0 j.toNat)
theorem lF (C:Gl X "list") (E:X.mg "list" = none) (A:Gl X "range") (y:X.mg "range" = none) (ha:IA K X [a,b] L) (g:X.calm=true:=by rfl) (T:aA a=true:=by rfl) (hs2:aA b=true:=by rfl) :
  IL K X (.Call (.Name "list" p1) [.Call (.Name "range" p2) [a,b] [] p3] [] p4) (rE L):=by
 refine⟨λenv st r f=>?_⟩;simp only[rE,qac]at f;obtain⟨⟨ws,s1⟩,hw,f⟩:=f;dsimp only at f;split at f
 case h_2=>cases f
 rename_i i j;split at f
 case isFalse=>cases f
 cases f;refine (dj (wC g) C E qaM (mK (dj zB A y qfq (ha.run _ _ _ hw) (by decide) (by decide) (aU T) (bv (by rw[qbw,hs2];rfl))) rY (aU U)) (by decide) (by decide) (aU U) (bv U)).imp ?_
 rintro σ H Q ⟨φ,Y,hS,q⟩
 refine⟨φ,Y,hS,λvs H1 B P m w1=>?_⟩;obtain⟨v,r,rfl,N,u,r',rfl,r2,rfl⟩:=w1;subst N r2;refine⟨i,j,U,λp w=>⟨p,i,(j - i).toNat,U,?_,by lia,by lia,by lia,λl hl=>?_⟩⟩
 ·rw[upd_same,show i+_=j by lia]
 ·exact q l _ _ B (P.trans (Fw.new w)) (m.new w) hl (Rls.rng i (j - i).toNat)
end
def DC (_:Sto):List W->Option D
 |[.d (.tup ds)]=>(aT ds).map λns=>.bl (ns.any λn=>decide (n≠0))
 |_=>none
section
variable {K:qae}{X:Cx}
theorem xO:bG X (.builtin "any") (λxs H Q=>X.calm=true/\∃ (a:Addr) (ns:List Int),xs=[.ref a]/\H a=some (.tup (ns.map V.int))/\Q (.bl (ns.any λn=>decide (n≠0))) H):=by
 intro C s R H xs F Q I k h;obtain⟨l,a,bs,rfl,G,q⟩:=h;obtain⟨T,rfl,w⟩:=gr k;cases w;obtain⟨z,m,k,p⟩:=(I.hok a _ G);have pt:=p.tup;have g:=by have:=k.length;simpa using this.symm
 refine call_any_walk (qc5 pt ?_);refine⟨s.heap.objs.size,_,_,_,_,_,λi=>decide ((bs[i]?).getD 0≠0),U,Walks.tuple (A:=X.A.in1) (I.ok.hd l) s.heap.objs.size a (qax (let ⟨_,e,_⟩:=p;qav e)) m.toArray,⟨⟨_,qas _ U,U,U⟩,pt.push _⟩,?_,λh' W L=>?_⟩
 ·intro i v s' Q' E' E y
  have j:=by simpa using E
  have hi:=(qar.mp j).1;obtain⟨b,hb⟩:∃ b,bs[i]?=some b:=⟨bs[i]'(by lia),by simp[show i<bs.length by lia]⟩
  have:(bs.map V.int)[i]?=some (.int b):=by rw[qaC,hb];rfl
  obtain⟨u,B,J⟩:=k.get this;rw[j]at B;cases B;obtain⟨t,rfl⟩:=J;have c:Q' (decide _) s':=y;rw[hb]at c;refine qjw ?_;have e:(b != 0)=decide (b≠0):=by
   by_cases h:b=0
   ·subst h;rfl
   ·rw[decide_eq_true h];simpa using h
  rw[e];exact c
 ·refine⟨_,H,I.kept (λb o e=>L b o (λz=>absurd (qav e) (by rw[qal.mp z];exact qbd _)) (qaf _ e)),?_,q⟩
  congr 1
  have:∀ n,n=bs.length->((qak n).any λi=>decide ((bs[i]?).getD 0≠0))=bs.any λn=>decide (n≠0):=by
   intro n hn;subst hn;apply qeI.mpr;rw[qeu,qeu];constructor
   ·rintro⟨i,hi,h⟩
    have f:=qaR.mp hi;refine⟨_,qbQ f,?_⟩;rw[qam f]at h;exact h
   ·rintro⟨x,N,h⟩
    obtain⟨i,hi,rfl⟩:=List.getElem_of_mem N;refine⟨i,qaR.mpr hi,?_⟩;rw[qam hi];exact h
  exact this _ (by simpa using g)
theorem ni (l:X.calm=true:=by rfl) (P:X.K=K:=by rfl):e6 K X (.builtin "any") DC:=by
 refine⟨λst ws d h=>?_⟩
 match ws,h with
 |[.d (.tup ds)],h=>
  obtain⟨ns,e,rfl⟩:=qad.mp h;cases bm e;refine bG.imp xO ?_
  rintro O H Q ⟨φ,S,⟨v,r,rfl,⟨a,F,rfl,D,M⟩,rfl⟩,q⟩
  cases M.ints;exact⟨l,a,ns,U,D,q _ H (aR.refl H) U⟩
end
section
variable {K:qae}{X:Cx}
end
structure Cal (P:qaQ) (w:World) (K:qae) (mg:Str->Option Value) (base:Heap) (x:Str) (j:Nat) (m:Fn):Prop where
 ex:∃ ff fd ps,dP P w K mg base CX0 j ff fd ps (spI K m)/\mg x=some (.ref ff)/\qcD K (.ref ff)=true/\dq K fd ps []
section
variable {P:qaQ}{w:World}{K:qae}{mg:Str->Option Value}{base:Heap}{x a:Str}{st:Stmt}{f:Addr}{fd:qb6}{N ps:List Str}{k j:Nat}{b:Sf}{m:Fn}
theorem tE (F:Fun K x a st f fd) (S:cy N ps (au st))
  (hb:∀ (d:Value) (A:qa1) (outer:List Env) (s:qaj) (H:Hp) (E:XK),bz k (A.deeper (qeB a (au st) s.heap.objs.size f d))->(fV CX0 P w K mg base N a (au st) f d A outer s H E).nox.N=N->(fV CX0 P w K mg base N a (au st) f d A outer s H E).nox.env.scope.names=(au st).names->N.Nodup->ISs K (fV CX0 P w K mg base N a (au st) f d A outer s H E).nox (aW st) b) :
  dP P w K mg base CX0 (k+1) f fd ps (spI K (fR N.length ps.length b)):=FF F S λc A o s H E r=>hb c A o s H E r U U S.nd
theorem Fx (F:Fun K x a st f fd) (S:cy N ps (au st)) (hm:mg x=some (.ref f)) (i:dq K fd ps [])
  (hb:∀ (d:Value) (A:qa1) (outer:List Env) (s:qaj) (H:Hp) (E:XK),bz k (A.deeper (qeB a (au st) s.heap.objs.size f d))->(fV CX0 P w K mg base N a (au st) f d A outer s H E).nox.N=N->(fV CX0 P w K mg base N a (au st) f d A outer s H E).nox.env.scope.names=(au st).names->N.Nodup->ISs K (fV CX0 P w K mg base N a (au st) f d A outer s H E).nox (aW st) b) :
  Cal P w K mg base x (k+1) (bj N.length ps.length b):=⟨_,_,_,G4 F S λc A o s H E r=>hb c A o s H E r U U S.nd,hm,F.kp,i⟩
theorem Fy (F:Fun K x a st f fd) (S:cy N ps (au st)) (hm:mg x=some (.ref f)) (i:dq K fd ps [])
  (hb:∀ (d:Value) (A:qa1) (outer:List Env) (s:qaj) (H:Hp) (E:XK),bz k (A.deeper (qeB a (au st) s.heap.objs.size f d))->(fV CX0 P w K mg base N a (au st) f d A outer s H E).nox.N=N->(fV CX0 P w K mg base N a (au st) f d A outer s H E).nox.env.scope.names=(au st).names->N.Nodup->ISs K (fV CX0 P w K mg base N a (au st) f d A outer s H E).nox (aW st) b) :
  Cal P w K mg base x (k+1) (fR N.length ps.length b):=⟨_,_,_,FF F S λc A o s H E r=>hb c A o s H E r U U S.nd,hm,F.kp,i⟩
variable {X:Cx}{e:Expr}{es:List Expr}{pos p:Pos}{q:Af}
theorem iF (I:X.K=K) (C:Cal X.prog X.w X.K X.mg X.base x j m) (B:bz k X.A) (t:j<=k) (hg:Gl X x) (l:IA K X (e::es) q) (h:(x==("__debug__" : Str))=false) (n:aA e=true) (i:es.all aA=true) :
  IE K X (.Call (.Name x p) (e::es) [] pos) (aq m q):=by
 subst I;obtain⟨_,_,_,F,hm,G,hb⟩:=C.ex;exact By F t B hg hm G hb l h n i
theorem fY (I:X.K=K) (C:Cal X.prog X.w X.K X.mg X.base x j m) (B:bz k X.A) (t:j<=k) (hg:Gl X x) (l:IA K X (e::es) q) (h:(x==("__debug__" : Str))=false) (n:aA e=true) (i:es.all aA=true) :
  IE K X (.Call (.Name x p) (e::es) [] pos) (dg m q):=by
 subst I;obtain⟨_,_,_,F,hm,G,hb⟩:=C.ex;exact zv F t B hg hm G hb l h n i
theorem tT {v:Value}{g:Sto->List W->Option D} (y:qch x=some v) (z:e6 K X v g) (hg:Gl X x) (hm:X.mg x=none) (l:IA K X (e::es) q)
  (hn:x≠"__name__") (h:(x==("__debug__" : Str))=false) (n:aA e=true) (i:es.all aA=true) (u:(match v with|.builtin _=>true|.type _=>true|_=>false)=true):IE K X (.Call (.Name x p) (e::es) [] pos) (iCB g q):=by
 cases v<;>first|exact qw z hg hm y l hn h n i|exact FL z hg hm y l hn h n i|cases u
theorem t4 {v:Value}{g:Sto->List W->Option (List D)} (y:qch x=some v) (z:sD K X v g) (hg:Gl X x) (hm:X.mg x=none) (l:IA K X (e::es) q)
  (hn:x≠"__name__") (h:(x==("__debug__" : Str))=false) (n:aA e=true) (i:es.all aA=true) (u:(match v with|.builtin _=>true|.type _=>true|_=>false)=true):IL K X (.Call (.Name x p) (e::es) [] pos) (iCL g q):=by
 cases v<;>first|exact FM z hg hm y l hn h n i|exact C4 z hg hm y l hn h n i|cases u
end
def tgN:Expr->List Str
 |.Name x _=>[x]
 |.Tuple es _ _=>es.flatMap λe=>match e with
  |.Name x _=>[x]
  |.Tuple es _ _=>es.flatMap λe=>match e with
   |.Name x _=>[x]
   |_=>[]
  |_=>[]
 |_=>[]
def lcN (a:Expr) (js:List Nat) (N:List Str):List Str:=tgN a++js.map λj=>N.getD j ""
theorem rO {a:Scope}{ns:List (Str×qb2)}{N Nc:List Str}{k:Nat}{js:List Nat} (h:vE a ns N Nc k js=true):Nc.Nodup:=by
 unfold vE at h;simp only[qbi,decide_eq_true_eq]at h;exact h.1.1.1.2
section
variable {K:qae}{X:Cx}{e:Expr}{pos:Pos}{a:Scope}{k:Nat}{js:List Nat}{f iter:Expr}{i:List Expr}{o:Lf}{g:Tg}{tt:Tf}{te:Ef}{ns:List (Str×qb2)}{N:List Str}
theorem n4 (hns:X.env.scope.names=ns) (hN:X.N=N) (h:vE a ns N (lcN e js N) k js=true) (y:a.kind=.function) (q:X.calm=true) (p:X.env.scope.kind=.function) (n:∀ j∈tP g,j<k) (hi:II K X e iter o)
  (hg:∀ b s H C d,(lcX X a b (lcN e js N) s H C d).N.Nodup->PG (lcX X a b (lcN e js N) s H C d) e (tG K g)) (D:∀ b s H C d,(lcX X a b (lcN e js N) s H C d).env.scope.names=AC a.names ns->(lcX X a b (lcN e js N) s H C d).N=lcN e js N->ITs K (lcX X a b (lcN e js N) s H C d) i tt)
  (w:∀ b s H C d,(lcX X a b (lcN e js N) s H C d).env.scope.names=AC a.names ns->(lcX X a b (lcN e js N) s H C d).N=lcN e js N->IE K (lcX X a b (lcN e js N) s H C d) f te) (t:∀ x,qbX iter X.env x=pure x) :
  IL K X (.ListComp f [⟨e,iter,i,0⟩] a pos) (iLc k js o g tt te):=
 zw (uj ns N _ k js hns hN y h) q n hi (λc s H C d=>hg c s H C d (rO h)) (λc s H C d=>D c s H C d (mM p hns) U) (λc s H C d=>w c s H C d (mM p hns) U) t
variable {z:Nat}{m:Str}{A l:Pos}
theorem fN (hns:X.env.scope.names=ns) (hN:X.N=N) (h:vE a ns N (lcN e js N) k js=true) (u:X.N.Nodup) (v:X.N[z]?=some m) (r:Loc X.env.scope m) (y:a.kind=.function) (q:X.calm=true) (p:X.env.scope.kind=.function) (n:∀ j∈tP g,j<k) (hi:II K X e iter o)
  (hg:∀ b s H C d,(lcX X a b (lcN e js N) s H C d).N.Nodup->PG (lcX X a b (lcN e js N) s H C d) e (tG K g)) (D:∀ b s H C d,(lcX X a b (lcN e js N) s H C d).env.scope.names=AC a.names ns->(lcX X a b (lcN e js N) s H C d).N=lcN e js N->ITs K (lcX X a b (lcN e js N) s H C d) i tt)
  (w:∀ b s H C d,(lcX X a b (lcN e js N) s H C d).env.scope.names=AC a.names ns->(lcX X a b (lcN e js N) s H C d).N=lcN e js N->IE K (lcX X a b (lcN e js N) s H C d) f te)
  (hsw:qcw (.ListComp f [⟨e,iter,i,0⟩] a pos) (some (.Name m A)) l.line X.env=pure true) (B:X.fn m=true\/X.env.scope.names.lookup m=some .local) (t:∀ x,qbX iter X.env x=pure x) :
  IS K X (.Assign [.Name m A] (.ListComp f [⟨e,iter,i,0⟩] a pos) l) (ay (.nm z) (aw (iLc k js o g tt te)))/\
   IS K X (.Assign [.Name m A] (.ListComp f [⟨e,iter,i,0⟩] a pos) l) (ay (.nm z) (db (iLc k js o g tt te))):=
 FO u v r (uj ns N _ k js hns hN y h) q n hi (λc s H C d=>hg c s H C d (rO h)) (λc s H C d=>D c s H C d (mM p hns) U) (λc s H C d=>w c s H C d (mM p hns) U) hsw B t
end
theorem ub {K:qae}{X:Cx}{o:BoolOp}{es:List Expr}{pos:Pos}{a:Tf} (h:ITW K X (.BoolOp o es pos) a):IT K X (.BoolOp o es pos) a:=DT h
theorem ad {a b:Prop} (h:a) (g:a->b):a/\b:=⟨h,g h⟩
theorem kC {K:qae}{X:Cx}{pos:Pos}{d:Expr}{a:Scope}{k:Nat}{js:List Nat}{i iter:Expr}{l:List Expr}{t:Lf}{g:Tg}{tt:Tf}{te:Ef}{u:Nat}{m:Str}{v e:Pos}{ns:List (Str×qb2)}{N:List Str}
  (hns:X.env.scope.names=ns) (hN:X.N=N) (h:vE a ns N (lcN d js N) k js=true) (o:X.N.Nodup) (p:X.N[u]?=some m) (n:Loc X.env.scope m) (A:a.kind=.function) (w:X.calm=true) (q:∀ j∈tP g,j<k) (hi:II K X d iter t)
  (hg:∀ b s H C f,(lcX X a b (lcN d js N) s H C f).N.Nodup->PG (lcX X a b (lcN d js N) s H C f) d (tG K g)) (B:∀ b s H C f,ITs K (lcX X a b (lcN d js N) s H C f) l tt) (z:∀ b s H C f,IE K (lcX X a b (lcN d js N) s H C f) i te)
  (hsw:qcw (.ListComp i [⟨d,iter,l,0⟩] a pos) (some (.Name m v)) e.line X.env=pure true) (r:X.fn m=true\/X.env.scope.names.lookup m=some .local) (y:∀ x,qbX iter X.env x=pure x) :
  ISL K X (.Assign [.Name m v] (.ListComp i [⟨d,iter,l,0⟩] a pos) e) u (iLc k js t g tt te):=
 DQ o p n (uj ns N _ k js hns hN A h) w q hi (λc s H C f=>hg c s H C f (rO h)) B z hsw r y
theorem iG {K:qae}{X:Cx}{x:Str}{k j:Nat}{d Cl:Addr}{fd:qb6}{N ps:List Str}{g:List (Str×Ef)}{p pos:Pos}{e:Expr}{es:List Expr}{f:Af} (hm:X.mg x=some (.ref Cl)) (M:Mk X.K Cl d) (F:dP X.prog X.w X.K X.mg X.base CX0 j d fd ps (CF K N.length ps.length g)) (i:bz (k+1) X.A) (b:j<=k) (hg:Gl X x) (hb:dq X.K fd ps [])
  (n:Cls K Cl) (hA:∀ p∈g,cA K Cl p.1) (l:g.length=6) (a:(g.map (·.1)).Nodup)
  (h:IA K X (e::es) f) (c:(x==("__debug__" : Str))=false) (m:aA e=true) (o:es.all aA=true) :
  IE K X (.Call (.Name x p) (e::es) [] pos) (qv N.length ps.length g f):=Bz M F b i hg hm hb n hA l a h c m o
section
variable {c:Type} [DecidableEq c]
def ij (a:List (c×V)) (k:c):Option V:=(a.find? λd=>decide (d.1=k)).map (·.2)
def lO (a:List (c×V)) (k:c) (v:V):List (c×V):=
 if (a.any λd=>decide (d.1=k))=true then a.map (λd=>if d.1=k then (d.1,v) else d) else a++[(k,v)]
theorem pN {p:c×V}{r:List (c×V)}{k:c} (e:p.1=k):ij (p::r) k=some p.2:=by simp[ij,qds,e]
theorem pM {p:c×V}{r:List (c×V)}{k:c} (e:¬ p.1=k):ij (p::r) k=ij r k:=by simp[ij,qds,e]
theorem uZ (k:c):∀ a:List (c×V),(a.any λd=>decide (d.1=k))=(ij a k).isSome
 |[]=>rfl
 |p::r=>by
  rw[qcj];by_cases e:p.1=k
  ·simp only[pN e,decide_eq_true e,qiP,Option.isSome_some]
  ·rw[pM e,decide_eq_false e];exact uZ k r
theorem md (a:List (c×V)) (k:c) (v:V):(lO a k v).length<=a.length+1:=by
 unfold lO;split
 ·rw[qah];lia
 ·rw[qaB,qaq,qb8];lia
theorem ml.isSome_eq {o:Option V}{u:Option Value} (r:ml o u):o.isSome=u.isSome:=by
 cases o with
 |none=>cases u with
  |none=>rfl
  |some _=>exact (r).elim
 |some _=>cases u with
  |none=>exact (r).elim
  |some _=>rfl
theorem KV.val {a:List (c×V)}{f:List (c×Value)} (r:KV a f) (k:c):ml (ij a k) (qhg f k):=by
 induction r with
 |nil=>exact True.intro
 |@cons p q ps j h t i=>
  obtain⟨g,n⟩:=h;by_cases e:p.1=k
  ·have m:=g.symm.trans e
   have b:qhg (q::j) k=some q.2:=by simp[qhg,qds,m]
   rw[pN e,b];exact n
  ·have m:¬ q.1=k:=λz=>e (g.trans z)
   have b:qhg (q::j) k=qhg j k:=by simp[qhg,qds,m]
   rw[pM e,b];exact i
theorem KV.any {a:List (c×V)}{f:List (c×Value)} (r:KV a f) (k:c):(a.any λd=>decide (d.1=k))=f.any λd=>decide (d.1=k):=by
 induction r with
 |nil=>rfl
 |cons h t i=>rw[qcj,qcj,i,h.1]
theorem KV.repl {a:List (c×V)}{f:List (c×Value)} (r:KV a f) (k:c) {y:V}{u:Value} (l:aP y u) :
  KV (a.map λd=>if d.1=k then (d.1,y) else d) (f.map λd=>if d.1=k then (d.1,u) else d):=by
 induction r with
 |nil=>exact .nil
 |@cons p q ps j h t i=>
  rw[qaw,qaw];refine .cons ?_ i;obtain⟨g,n⟩:=h;by_cases e:p.1=k
  ·rw[iFP e,iFP (g.symm.trans e)];exact⟨g,l⟩
  ·rw[iFN e,iFN (λz=>e (g.trans z))];exact⟨g,n⟩
theorem KV.put {a:List (c×V)}{f:List (c×Value)} (r:KV a f) (k:c) {y:V}{u:Value} (l:aP y u):KV (lO a k y) (stored f k u):=by
 unfold lO stored;rw[r.any k];by_cases e:(f.any λd=>decide (d.1=k))=true
 ·rw[iFP e,iFP e];exact r.repl k l
 ·rw[iFN e,iFN e];exact qij r ⟨U,l⟩
theorem KV.length {a:List (c×V)}{f:List (c×Value)} (r:KV a f):a.length=f.length:=qeY r
end
theorem zA {P:qaQ}{w:World}{k:Key}{u:Value} (r:aP (kV k) u):(ci P w).is k u=true:=by
 cases k with
 |inl i=>obtain⟨t,e⟩:=(r);subst e;exact ut P w i t
 |inr x=>obtain⟨t,e⟩:=(r);subst e;exact uv P w x t
theorem qy {P:qaQ}{w:World}:∀ {ks:List Key}{a:List Value},aI (ks.map kV) a->ItemsAre (ci P w) ks a
 |[],_,r=>by cases r;exact .nil
 |k::ks,_,r=>by
  cases r with
  |cons h t=>exact .cons (zA h) (qy t)
abbrev KT (H:Hp):List (List Key×V)->List (List Key×Addr×Value)->Prop:=qgg λp q=>p.1=q.1/\H q.2.1=some (.tup (p.1.map kV))/\aP p.2 q.2.2
theorem KT.val {H:Hp}{a:List (List Key×V)}{xs:List (List Key×Addr×Value)} (r:KT H a xs) (k:List Key):ml (ij a k) ((atKey xs k).map (·.2)):=by
 induction r with
 |nil=>exact True.intro
 |@cons p q ps c h t g=>
  obtain⟨d,_,i⟩:=h;by_cases e:p.1=k
  ·have b:atKey (q::c) k=some q.2:=by simp[atKey,qds,(d.symm.trans e)]
   rw[pN e,b];exact i
  ·have f:¬ q.1=k:=λz=>e (d.trans z)
   have b:atKey (q::c) k=atKey c k:=by simp[atKey,qds,f]
   rw[pM e,b];exact g
theorem KT.repl {H:Hp}{a:List (List Key×V)}{xs:List (List Key×Addr×Value)} (r:KT H a xs) (k:List Key) {y:V}{u:Value} (i:aP y u) :
  KT H (a.map λc=>if c.1=k then (c.1,y) else c) (xs.map (putAt k u)):=by
 induction r with
 |nil=>exact .nil
 |@cons p q ps j h t f=>
  rw[qaw];refine .cons ?_ f;obtain⟨b,d,g⟩:=h;unfold putAt;by_cases e:p.1=k
  ·rw[iFP e,iFP (b.symm.trans e)];exact⟨b,d,i⟩
  ·rw[iFN e,iFN (λz=>e (b.trans z))];exact⟨b,d,g⟩
theorem KT.put {H:Hp}{a:List (List Key×V)}{xs:List (List Key×Addr×Value)} (r:KT H a xs) (k:List Key) {b:Addr}{y:V}{u:Value} (hb:H b=some (.tup (k.map kV))) (c:aP y u) :
  KT H (lO a k y) (storedH xs k b u):=by
 have e:(a.any λd=>decide (d.1=k))=(atKey xs k).isSome:=by
  rw[uZ,(r.val k).isSome_eq,Option.isSome_map]
 unfold lO storedH;rw[e];by_cases q:(atKey xs k).isSome=true
 ·rw[iFP q,iFP q];exact r.repl k c
 ·rw[iFN q,iFN q];exact qij r ⟨U,hb,c⟩
theorem KT.keeps {H H':Hp}{a:List (List Key×V)}{xs:List (List Key×Addr×Value)} (r:KT H a xs) (d:∀ b c,H b=some (.tup c)->H' b=some (.tup c)):KT H' a xs:=
 qgg.mapP r λ_ _ z=>⟨z.1,d _ _ z.2.1,z.2.2⟩
section
variable {P:qaQ}{w:World}{H:Hp}{h:Heap}{a:Addr}
theorem Dm {u:HO} (ok:HOk P w H h) (e:Rd H a u):cq P w H h a u:=e.ok ok
theorem zb {b:List (Key×V)} (ok:HOk P w H h) (e:Rd H a (.dK b)):b.length<=qaL/\(a==qcu)=false/\∃ d,KV b d/\h.DictOf (ci P w) a d:=
 Dm ok e
theorem Fz {b:List (Key×V)} (ok:HOk P w H h) (e:H a=some (.dK b)):b.length<=qaL/\(a==qcu)=false/\∃ d,KV b d/\h.DictOf (ci P w) a d:=zb ok (.inl e)
theorem vC {ks:List Key} (ok:HOk P w H h) (e:H a=some (.tup (ks.map kV))):(qgz (ci P w)).is h ks a:=by
 obtain⟨_,f,r,o,g,i,⟨n,j⟩,_⟩:=(ok a _ e);exact⟨o,f.toArray,n,g,i,j,by simpa using qy r⟩
theorem zd {b:List (List Key×V)} (ok:HOk P w H h) (e:Rd H a (.dT b)):b.length<=qaL/\(a==qcu)=false/\
  ∃ xs,KT H b xs/\h.DictOfH (qgz (ci P w)) a xs:=by
 obtain⟨z,y,xs,r,o,es,v,g,i,j,s,B⟩:=(Dm ok e);refine⟨z,y,xs,r,o,es,v,g,i,j,s,λx c=>?_,B⟩;have all:∀ {l:List _}{m:List _},KT H l m->∀ x∈m,(qgz (ci P w)).is h x.1 x.2.1:=by
  intro l m q
  induction q with
  |nil=>intro x c;exact nomatch c
  |@cons p q ps C k t A=>
   intro x c;rcases qaz.mp c with e|c
   ·subst e
    exact vC ok (by rw[<-k.1];exact k.2.1)
   ·exact A x c
 exact all r x c
theorem CZ {b:List (List Key×V)} (ok:HOk P w H h) (e:H a=some (.dT b)):b.length<=qaL/\(a==qcu)=false/\
  ∃ xs,KT H b xs/\h.DictOfH (qgz (ci P w)) a xs:=zd ok (.inl e)
end
def xC (H:Hp) (a:Addr) (y:V) (r:Option V):Prop:=
 (∃ c k,Rd H a (.dK c)/\y=kV k/\r=ij c k)\/∃ c k b,Rd H a (.dT c)/\y=.ref b/\H b=some (.tup (k.map kV))/\r=ij c k
def yP (H:Hp) (a:Addr) (y v:V) (H':Hp):Prop:=
 (∃ c k,H a=some (.dK c)/\y=kV k/\c.length<qaL/\H'=upd H a (.dK (lO c k v)))\/
 ∃ c k b,H a=some (.dT c)/\y=.ref b/\H b=some (.tup (k.map kV))/\c.length<qaL/\H'=upd H a (.dT (lO c k v))
theorem xC.t {H:Hp}{a b:Addr}{c:List (List Key×V)}{k:List Key} (e:H a=some (.dT c)) (d:H b=some (.tup (k.map kV))):xC H a (.ref b) (ij c k):=.inr ⟨c,k,b,.inl e,U,d,U⟩
theorem yP.t {H:Hp}{a b:Addr}{c:List (List Key×V)}{k:List Key}{v:V} (e:H a=some (.dT c)) (f:H b=some (.tup (k.map kV))) (d:c.length<qaL) :
  yP H a (.ref b) v (upd H a (.dT (lO c k v))):=.inr ⟨c,k,b,e,U,f,d,U⟩
section
variable {X:Cx}{i:List (Addr×Obj)}{t:St}{H:Hp}{s:qaj}{a:Addr}{y v:V}{u r:Value}{o:Option V}{A:qa1}{E:Value->qaj->Prop}
theorem Inv.big (I:Inv X i t H s):qcu<s.heap.objs.size:=by
 exact qeQ (by decide) ((I.mod.glob.keeps I.bk).lt)
theorem xW {Q:Value->qaj->Prop} (M:A.units+1<cLine) (I:Inv X i t H s) (g:xC H a y (some v)) (D:aP y u) (h:∀ C s',Inv X i t H s'->aP v C->Q C s') :
  wpAny (model X.prog X.w) A (qe8 (.ref a) u) Q E s:=by
 rcases g with⟨d,k,e,n,l⟩|⟨d,k,b,e,n,G,l⟩
 ·subst n
  obtain⟨z,hd,B,f,j⟩:=zb I.hok e;obtain⟨C,hw,x⟩:=ml.some_of (by rw[l];exact f.val k);exact wpAny_getItem_of (zA D) j.mapOf hw (h C _ (I.tok _) x)
 ·subst n
  cases (D);obtain⟨z,hd,xs,f,j⟩:=zd I.hok e;obtain⟨C,hw,x⟩:=ml.some_of (by rw[l];exact f.val k);obtain⟨p,hp,K⟩:=qad.mp hw;refine wpAny_getItem_heap (qib M) (vC I.hok G) j hp ?_;rw[K];exact h C _ (I.tok _) x
theorem wp {h':Heap}{t':Nat}{ob:HO} (I:Inv X i t H s) (W:Mut (H a)) (F:qdn a s.heap h') (he:∃ q,h'.get? a=some q) (new:cq X.prog X.w (upd H a ob) h' a ob) :
  Inv X i t (upd H a ob) { s with heap:=h',toks:=t' }:=
 I.write W (.inl U) (λb q hb z=>(F.2 b hb).trans z) he new
theorem DF {P:qaQ}{w:World}{H':Hp}{h':Heap}{d:List (Key×V)}{B:List (Key×Value)} (z:d.length<=qaL) (hd:(a==qcu)=false) (f:KV d B) (j:h'.DictOf (ci P w) a B) :
  cq P w H' h' a (.dK d):=⟨z,hd,B,f,j⟩
theorem xX {H':Hp}{Q:Unit->qaj->Prop} (M:A.units+1<cLine) (I:Inv X i t H s) (g:yP H a y v H') (D:aP y u) (O:aP v r) (h:∀ s',Inv X i t H' s'->Q () s') :
  wpAny (model X.prog X.w) A (qjI (.ref a) u r) Q E s:=by
 rcases g with⟨d,k,e,n,l,L⟩|⟨d,k,b,e,n,G,l,L⟩
 ·subst n L
  obtain⟨z,hd,B,f,j⟩:=Fz I.hok e;have S:B.length<=qaL:=by rw[<-f.length];exact z
  have N:(lO d k v).length<=qaL:=by have:=md d k v;lia
  refine wpAny_setItem_pairs (zA D) j λh' m F=>h _ ?_;exact wp I (by rw[e];exact True.intro) F (let ⟨q,_,_,J,_⟩:=m;⟨q,J⟩) (DF N hd (f.put k O) m)
 ·subst n L
  cases (D);obtain⟨z,hd,xs,f,j⟩:=CZ I.hok e;have S:xs.length<=qaL:=by rw[<-qeY f];exact z
  have N:(lO d k v).length<=qaL:=by have:=md d k v;lia
  refine wpAny_setItem_heap (qib M) (vC I.hok G) j λh' m F=>h _ ?_;obtain⟨q,es,T,J,h2,Y,h4,_,h5⟩:=m;refine wp I (by rw[e];exact True.intro) F ⟨q,J⟩ ⟨N,hd,_,(f.put k G O).keeps λc ys R=>?_,q,es,T,J,h2,Y,h4,h5⟩;rw[upd_ne (F9 R e (λz=>nomatch z))]
  exact R
end
section
variable {X:Cx}{b:List (Addr×Obj)}{d:St}{H:Hp}{s:qaj}{a:Addr}{c:List (Key×V)}{k:Key}{u:Value}{A:qa1}{E:Value->qaj->Prop}
end
def Dt (i:Expr):Prop:=∀ a iv,qgA i false a iv=operate [a,iv] (qe8 a iv)
theorem CH {prog:qaQ}{w:World}{A:qa1}{E:Value->qaj->Prop}{s:qaj}{env:Env}{b a:Expr}{pos:Pos}{T id:String}{Q:Value->qaj->Prop}
  (m:typeLookup (.type T) "__getitem__" = pure (some (.builtin id))) (l:Dt a)
  (h:wpAny (model prog w) A (eval b env) (λo f=>wpAny (model prog w) A (eval a env) (λi c=>c.TypeIs o T/\wpAny (model prog w) A (qe8 o i) Q E c) E f) E s) :
  wpAny (model prog w) A (eval (.Subscript b a pos) env) Q E s:=by
 refine qiB (qct h (λo f j=>qct j (λi c d=>?_) λ_ _ x=>x) λ_ _ x=>x);obtain⟨k,d⟩:=d;refine qab ?_;refine qab (wpAny_specialOf k m ?_);have fin:wpAny (model prog w) A (qgA a false o i) (λr e=>wpAny (model prog w) A (letTemporaryGo b o r >>= λ_=>pure r) Q E e) E c:=by
  rw[l o i];exact wpAny_operating (qct d (λr e g=>qab (wpAny_letTemporaryGo (qan g))) λ_ _ x=>x)
 first
  |exact qan (qab fin)
  |exact qab _
  |exact qab fin
theorem sV {X:Cx}{c:List (Addr×Obj)}{h:St}{H:Hp}{s:qaj}{a:Addr}{y:V}{o:Option V} (I:Inv X c h H s) (g:xC H a y o):s.TypeIs (.ref a) "dict":=by
 rcases g with⟨f,k,e,_,_⟩|⟨f,k,b,e,_,_,_⟩
 ·obtain⟨_,_,i,_,d⟩:=zb I.hok e
  exact d.typeIs
 ·obtain⟨_,_,xs,_,d⟩:=zd I.hok e
  exact d.typeIs
def GI (c ty:TE):TE:=λb H Q=>c b H λx H1=>ty b H1 λy H2=>∃ a v,x=.ref a/\xC H2 a y (some v)/\Q v H2
def GA (c ty d:TE):TS:=λD b H=>d b H λv H1=>c b H1 λx H2=>ty b H2 λy H3=>∃ a H4,x=.ref a/\yP H3 a y v H4/\D.nx b H4
section
variable {X:Cx}{o i e c:Expr}{pos d B:Pos}{j ty z:TE}
theorem B6 (q:X.A.units+1<cLine) (t:PE X o j) (hi:PE X i ty) (n:Dt i):PE X (.Subscript o i pos) (GI j ty):=by
 intro b s f H Q I h;refine CH PySem.F.slot_dict_getitem.lookup n (thn (t b s f H _ I h) λu s1 ⟨x,H1,I1,l,p⟩=>thn (hi b s1 f H1 _ I1 p) λiv A ⟨y,H2,I2,m,a,v,ex,g,k⟩=>?_);subst ex;obtain rfl:u=Value.ref a:=l;exact⟨sV I2 g,xW q I2 g m λJ C I3 w=>⟨v,H2,I3,w,k⟩⟩
theorem Ce (q:X.A.units+1<cLine) (t:PE X o j) (hi:PE X i ty) (F:PE X c z) (n:qcw c (some (.Subscript o i d)) pos.line X.env=pure false) :
  PS X (.Assign [.Subscript o i d] c pos) (GA j ty z):=by
 intro b s f H D I h;refine wpAny_Assign_Subscript (thn (F b s f H _ I h) λr s1 ⟨v,H1,I1,G,p⟩=>thn (t b s1 f H1 _ I1 p) λu A ⟨x,H2,I2,l,k⟩=>thn (hi b A f H2 _ I2 k) λiv C ⟨y,H3,I3,m,a,H4,ex,g,E⟩=>?_) n;subst ex;obtain rfl:u=Value.ref a:=l;exact xX q I3 g m G λK I4=>⟨f,H4,I4,E⟩
end
theorem zc {P:qaQ}{w:World}{H:Hp} (h:Heap) (hb:qcu<h.objs.size):cq P w H (h.push { cls:=.type "dict",data:=.dict #[] }) h.objs.size (.dT []):=
 ⟨qcI _,beq_eq_false_iff_ne.mpr (qbo (qax hb)),_,.nil,_,_,0,qas _ U,⟨U,U,U⟩,U,U,qdb⟩
def E2:TE:=λ_ H Q=>∀ p,H p=none->Q (.ref p) (upd H p (.dT []))
section
variable {X:Cx}{pos:Pos}
theorem z9:PE X (.Dict [] [] pos) E2:=λa s b H Q I h=>
 wpAny_Dict_empty ⟨.ref s.heap.objs.size,_,I.laid (λ_ _ q=>qaf _ q) (qap _) (zc s.heap I.big),U,h _ (I.hok.fresh (qap _))⟩
end
section
variable {X:Cx}{b:List (Addr×Obj)}{c:St}{H:Hp}{s:qaj}{a:Addr}{y d:V}{u r:Value}{o:Option V}{A:qa1}{E:Value->qaj->Prop}
end
section
variable {X:Cx}{o e f:Expr}{b a:Pos}{c ty d:TE}
end
section
variable {X:Cx}{b:List (Addr×Obj)}{d:St}{H:Hp}{s:qaj}{a:Addr}{c:List (Key×V)}{A:qa1}{E:Value->qaj->Prop}
end
section
variable {X:Cx}{b:List (Addr×Obj)}{c:St}{H:Hp}{s:qaj}{a:Addr}{y:V}{u:Value}{A:qa1}{E:Value->qaj->Prop}
end
section
variable {prog:qaQ}{w:World}{A:qa1}{E:Value->qaj->Prop}{s:qaj}{b:Type} [DecidableEq b] {c:KeyKind prog w b}{a:Addr}{d:List (b×Value)}
end
section
variable {X:Cx}{b:List (Addr×Obj)}{d:St}{H:Hp}{s:qaj}{a:Addr}{c:List (Key×V)}{k:Key}{u r:Value}{A:qa1}{E:Value->qaj->Prop}{z:V}
end
section
variable {K:qae}{X:Cx}{pos:Pos}{e a b o f:Expr}{c i g d h:Ef}
end
section
variable {K:qae}{X:Cx}
end
section
variable {b:Bool}{t:SetTable}{m d k:Nat}
end
section
variable {prog:qaQ}{w:World}{A:qa1}{E:Value->qaj->Prop}{s:qaj}{a:Addr}{m d k:Nat}
end
section
variable {prog:qaQ}{w:World}{A:qa1}{E:Value->qaj->Prop}{s:qaj}{a c:Addr}{m d b i:Nat}{f:Nat->Tok}
end
section
variable {prog:qaQ}{w:World}{A:qa1}{E:Value->qaj->Prop}{s:qaj}{a c:Addr}{m d b i:Nat}{f:Nat->Tok}
end
section
variable {prog:qaQ}{w:World}{A:qa1}{E:Value->qaj->Prop}{s:qaj}
end
section
variable {prog:qaQ}{w:World}{A:qa1}{R:qhJ->qaj->Prop}{I:Addr}{b a:List Addr}{G:Array qim->Array qim->Prop}{P:Nat->Value->Prop}{St:Nat->qaj->Prop}
end
section
variable {prog:qaQ}{w:World}{A:qa1}{E:Value->qaj->Prop}{s:qaj}
end
section
variable {prog:qaQ}{w:World}{A:qa1}{E:Value->qaj->Prop}{s:qaj}{a r o:Addr}{m c m2 d k b:Nat}{f:Nat->Tok}
end
section
variable {prog:qaQ}{w:World}{A:qa1}{E:Value->qaj->Prop}{s:qaj}{a b r o:Addr}{m e m2 d k c:Nat}{f:Nat->Tok}
end
section
variable {prog:qaQ}{w:World}{A:qa1}{E:Value->qaj->Prop}{s:qaj}{a b r o:Addr}{m e m2 d k c:Nat}{f:Nat->Tok}
end
section
variable {prog:qaQ}{w:World}{A:qa1}{E:Value->qaj->Prop}{s:qaj}{a:Addr}{m d b:Nat}{f:Nat->Tok}
end
section
variable {K:qae}{X:Cx}{pos p:Pos}{e a b:Expr}{d:Ef}{f c:Xf}
end
def jV (h:Heap) (d:Addr) (es:Array qej) (a:Nat):Prop:=∃ o,h.get? d=some o/\o.ExactDict/\o.data=.dict es a
theorem jV.at' {h h':Heap}{d:Addr}{es:Array qej}{a:Nat} (x:jV h d es a) (e:∀ o,h.get? d=some o->h'.get? d=some o):jV h' d es a:=let ⟨o,ho,r⟩:=x;⟨o,e o ho,r⟩
theorem jV.type {s:qaj}{d:Addr}{es:Array qej}{a:Nat} (x:jV s.heap d es a):s.TypeIs (.ref d) "dict":=let ⟨o,ho,hc,_⟩:=x;⟨o,ho,hc.1⟩
theorem jV.lt {h:Heap}{d:Addr}{es:Array qej}{a:Nat} (x:jV h d es a):d<h.objs.size:=let ⟨o,ho,_⟩:=x;qav ho
section
variable {prog:qaQ}{w:World}{A:qa1}{E:Value->qaj->Prop}{s:qaj}{d p:Addr}{es:Array qej}{i f:Nat}
theorem Ax {Q:Value->qaj->Prop} (hd:(d==qcu)=false) (hm:jV s.heap d es f)
  (k:Q (.ref s.heap.objs.size) { s with heap:=s.heap.push { cls:=.type "dict_keyiterator",data:=.fields #[.ref d,.int 0 0,.int es.size 0,.int f 0] } }) :
  wpAny (model prog w) A (qhH (.ref d)) Q E s:=by
 have D:=hm.type;obtain⟨o,n,z,r⟩:=id hm;refine wpAny_pyIter_slot D qgf (qbV qgf D PySem.F.entry_dict_iter ?_ (PySem.F.args_dict_iter_1 _));refine qab ?_;refine qab (wpAny_notOrdered_dict D ?_);refine qan ?_;show wpAny _ _ (qfH d >>= _) _ _ s;unfold qfH;rw[iFN (by rw[hd];exact qaE)];refine qab (qan ?_);refine qab (qf0 n r ?_);refine qab (qgy n r ?_);refine qab (qcc (qan ⟨_,U,"dict_keyiterator",_,⟨_,qas _ U,U⟩,qbS.lookup,?_⟩))
 simpa [qgB] using k
theorem Ay {Q:Option Value->qaj->Prop} (c:s.heap.IsKeyIter p d i es.size f) (hm:jV s.heap d es f) (u:i<es.size)
  (k:∀ h',h'.IsKeyIter p d (i+1) es.size f->qdn p s.heap h'->Q (some es[i].key) { s with heap:=h' }) :
  wpAny (model prog w) A (qg4 (.ref p)) Q E s:=by
 obtain⟨o,n,z,hd⟩:=id c;obtain⟨G,l,C,j⟩:=id hm
 refine qab (qeK (qbK c.typeIs qbS
  (qbV qbS c.typeIs qeL ?_ (qeF _))))
 refine qab (qan ?_);refine qab ?_;refine qab ?_
 first|refine qab (qcW c.typeIs (qan ?_))|refine qab _
 refine qab (qjW n hd ?_);refine qab (qan ?_);refine qab (qf0 l j ?_);rw[iFN (by simp)];refine qab (qan ?_);refine qab (qgy l j ?_);rw[iFN (by simp)];refine qan ?_;simp only[show ¬ (_<0) from by lia,if_false,qbe,qbz u];refine qab ?_
 first|refine qab (qcW c.typeIs (qan ?_))|refine qab _
 refine qab (qhF c.typeIs ?_);show wpAny _ _ (setField _ 1 _ >>= _) _ _ s;refine qab (qfp n hd (by simp) ?_);have g:(s.heap.update p (Obj.mapFields (·.setIfInBounds 1 (qgB ((i)+1))))).IsKeyIter p d (i+1) es.size f:=
  ⟨_,qca _ n (qgW (qea hd _)),(qhN ..).trans z,by rw[qea hd];simp[qgB]⟩
 refine qab (qbU ?_);refine qab (qhF g.typeIs ?_);exact qan (qan ⟨_,U,qan (k _ g (qdF ..))⟩)
theorem Ct {Q:Option Value->qaj->Prop} (x:A.handled=none) (c:s.heap.IsKeyIter p d es.size es.size f) (hm:jV s.heap d es f)
  (k:∀ h',qhd p s.heap h'->Q none { s with heap:=h' }):wpAny (model prog w) A (qg4 (.ref p)) Q E s:=by
 obtain⟨o,n,z,hd⟩:=id c;obtain⟨G,l,C,j⟩:=id hm
 refine qab (qeK (qbK c.typeIs qbS
  (qbV qbS c.typeIs qeL ?_ (qeF _))))
 refine qab (qan ?_);refine qab ?_;refine qab ?_
 first|refine qab (qcW c.typeIs (qan ?_))|refine qab _
 refine qab (qjW n hd ?_);refine qab (qan ?_);refine qab (qf0 l j ?_);rw[iFN (by simp)];refine qab (qan ?_);refine qab (qgy l j ?_);rw[iFN (by simp)];refine qan ?_;simp only[show ¬ (_<0) from by lia,if_false,qbe,qdx (qap _)];refine qab ?_
 first|refine qab (qcW c.typeIs (qan ?_))|refine qab _
 show wpAny _ _ (setField _ 0 .none >>= _) _ _ s;refine qab (qfp n hd (by simp) ?_);refine qab ?_;refine qab (m:=qj3 _ _) (wpAny_of_eq (a:=Value.none) (by first|rfl|(rfl)) ?_)
 refine qcc ?_ (by size_fits);refine qab (wpAny_handled ?_);rw[x];refine qab (qan (wpAny_throw ?_));refine qab (qiR ⟨_,qas _ U,U⟩ qj1 ?_);exact qan (k _ (((qdF ..).extBut.push _).push _))
theorem yO (x:A.handled=none) (I d:Addr) (F:d≠I) (es:Array qej) (f:Nat) :
  Walks prog w A I [I,d] [I] es.size (λi v=>∃ e,es[i]?=some e/\v=e.key) (λi h=>h.IsKeyIter I d i es.size f/\jV h d es f) where
 sub:=λb hb=>by simp at hb;simp[hb]
 frame:=λ_ _ _ st y=>⟨st.1.at λo e=>y I (by simp) o e,st.2.at' λo e=>y d (by simp) o e⟩
 item:=λi s Q E hi st k=>by
  refine Ay st.1 st.2 hi λh' g t=>?_;exact k _ h' s.toks ⟨_,by simp[hi],U⟩ ⟨g,st.2.at' λo q=>t.extBut d o F q⟩ λb o hb q=>t.extBut b o (λh=>hb (by simp[h])) q
 done:=λs Q E st k=>Ct x st.1 st.2 λh' B=>k h' s.toks λb o hb e=>B b o (λh=>hb (by simp[h])) e
 self:=λ_ _ _ _ st k=>wpAny_pyIter_keyiter st.1 k
theorem CG (prog:qaQ) (w:World) (d:Addr) (es:Array qej) (f:Nat) (lo:(d==qcu)=false):PySem.W.KdlSrc prog w "dict" d d es.size (λi v=>∃ e,es[i]?=some e/\v=e.key) (λh=>jV h d es f) where
 type:=λs S=>S.type
 there:=λh S=>⟨S.lt,S.lt⟩
 keep:=λh h' S y=>S.at' λo e=>y d (.inl U) o e
 notList:=by decide
 notTuple:=by decide
 hint:=λA E s Q S h=>PySem.W.kdl_hint_dict S.type h
 iter:=λA s x S=>⟨_,_,λE Q h=>Ax lo S h,yO x s.heap.objs.size d (qax S.lt) es f,
  ⟨⟨_,qas _ U,U,U⟩,S.at' λo e=>qaf _ e⟩⟩
end
section
variable {prog:qaQ}{w:World}{A:qa1}{E:Value->qaj->Prop}{s:qaj}{d:Addr}{es:Array qej}{z:Nat}
theorem sQ {Q:List Value->qaj->Prop} (lo:(d==qcu)=false) (S:jV s.heap d es z) (P:A.handled=none) (hn:es.size<=qaL)
  (h:∀ h' f,(∀ b o,s.heap.get? b=some o->h'.get? b=some o)->s.heap.objs.size<h'.objs.size->Q (es.toList.map (·.key)) { s with heap:=h',toks:=f }) :
  wpAny (model prog w) A (collect (.ref d)) Q E s:=by
 have k:=S.lt;refine qab (wpAny_runValue (qcH entry_proto_collect' ?_));refine qab (qfJ (qan ⟨Code.quiet_builtin _ (by decide +kernel),qcH entry_list_iadd' ?_⟩))
 refine PySem.W.kdl_extend (R:=λr s'=>match r with
   | .ok (.ret v)=>wpAny _ A (match v with
     |.ref a=>do
      let o <-load a
      match o.data with
      |.seq xs _=>pure xs.toList
      |_=>unsupported "internal:collect"
     |_=>unsupported "internal:collect") Q E s'
   |.ok _=>False
   |.error e=>E e s') (CG prog w d es z lo) P (S.at' λo e=>qaf _ e) s.heap.objs.size (qck k) (qck k) _ 0 (qas _ U) (λh' f acc c D W T=>?_) hn
 refine qab (wpAny_load W ?_);show wpAny _ _ (pure acc.toList) Q E _;have e:acc.toList=es.toList.map (·.key):=by
  apply qbA;intro i;rw[qaC,qeD,qeD];by_cases hi:i<acc.size
  ·obtain⟨e,L,C⟩:=T.2 i acc[i] (qbz hi)
   rw[L,qbz hi,C];rfl
  ·rw[qdx (by lia),qdx (by rw[<-T.1];lia)];rfl
 rw[e];refine qan (h h' f (λb o q=>?_) (qav W));exact D b o (qax (qav q)) (qaf _ q)
theorem vZ {Q:Value->qaj->Prop}{u:List Value} (lo:(d==qcu)=false) (S:jV s.heap d es z) (P:A.in1.handled=none) (B:es.toList.map (·.key)=u) (K:u.length<64) (hu:A.in1.in1.units<cLine)
  (t:∀ v∈u,∃ l,TuI s.heap v l)
  (h:∀ (h':Heap) (f:Nat) (p:Addr) (z:Nat) (j:List Value),(∀ b o,s.heap.get? b=some o->h'.get? b=some o)->s.heap.objs.size<=p->h'.get? p=some (qfK "list" j.toArray z)->j.Perm u->j.Pairwise (λx y=>OI.kle (tuI s.heap x) (tuI s.heap y))->Q (.ref p) { s with heap:=h',toks:=f }) :
  wpAny (model prog w) A (call (.builtin "sorted") [.ref d]) Q E s:=by
 refine qgb kind_sorted plain_sorted entry_sorted (args_sorted1 _) ?_;refine qab (qan ?_);have H:es.size<=qaL:=by
  have:=congrArg qe0 B
  rw[qah,qcC]at this;rw[qdu];lia
 refine qab (sQ lo S P H λG f D k=>?_);rw[B];refine qab (qfJ ?_ (by rw[qdu];lia));have n:(G.push _).get? G.objs.size=some (qfK "list" u.toArray 0):=qas _ U
 refine qab (qbU (qbV qjY ⟨_,n,U⟩ qjO (qB (O:=OI) (rk:=λp=>tuI s.heap p.1) (S:=λp=>∃ l,TuI s.heap p.1 l) (s:={ s with heap:=G.push _,toks:=f }) n K (λh' I=>?_) (λv C=>t v C) λj a1 a2=>⟨_,U,?_⟩) (qj5 _)))
 ·have g:=λb o q=>I b o (qax (qav (D b o q))) (qaf _ (D b o q))
  obtain⟨Y,X,k2⟩:=uh (s:={ s with heap:=h',toks:=f }) (λv C=>let ⟨l,tl⟩:=t v C;⟨l,tl.fit g⟩) hu;refine⟨Y,X,λx y ⟨l,N⟩ ⟨m,J⟩ Q E hq=>k2 x y ⟨l,N.fit g⟩ ⟨m,J.fit g⟩ Q E ?_⟩;have F:Q (bu (tuI s.heap x.1) (tuI s.heap y.1)) { s with heap:=h',toks:=f }:=hq;show Q (bu (tuI h' x.1) (tuI h' y.1)) { s with heap:=h',toks:=f };rw[(N.fit g).is,(J.fit g).is];rw[N.is,J.is]at F;exact F
 ·refine qan ⟨_,U,?_⟩
  obtain⟨M,L⟩:=sortedHeap_at n;refine h _ f G.objs.size M j (λb o q=>?_) (qeR k) L a1 (a2.imp λ{x y} q=>q);have V:=D b o q;have hb:=qav V;rw[sortedHeap_old (qax hb) (by rw[qix];exact qa2 hb),qdE _ _ _ (qax hb)];exact V
end
def mgt (st:Sto) (n:Nat):Option (List (List Int×D)):=match st[n]? with
 |some (.m a)=>some a
 |_=>none
def vM (a:List (List Int×D)) (k:List Int):Option D:=(a.find? λp=>decide (p.1=k)).map (·.2)
def As (a:List (List Int×D)) (k:List Int) (d:D):List (List Int×D):=if (a.any λp=>decide (p.1=k))=true then a.map λp=>if p.1=k then (p.1,d) else p else a++[(k,d)]
def C3:Ef
 |_,st=>some (.h st.length,st++[.m []])
def yd (o k:Ef):Ef
 |env,st=>(o env st).bind λx=>(k env x.2).bind λy=>match x.1,y.1 with
 |.h n,.d (.tup ds)=>(mgt y.2 n).bind λa=>(aT ds).bind λl=>(vM a l).map λd=>(.d d,y.2)
 |_,_=>none
def wx (o k v:Ef):Sf
 |env,st=>(v env st).bind λz=>(o env z.2).bind λx=>(k env x.2).bind λy=>match x.1,y.1,z.1 with
 |.h n,.d (.tup ds),.d d=>(mgt y.2 n).bind λa=>(aT ds).bind λl=>if a.length<1000 then some (.nx env (y.2.set n (.m (As a l d)))) else none
 |_,_,_=>none
def ly (a:Ef):Lf
 |env,st=>(a env st).bind λx=>match x.1 with
 |.h n=>(mgt x.2 n).bind λb=>if b.length<64 then some ((ax (b.map (·.1))).map ao,x.2) else none
 |_=>none
section
variable {K:qae}{X:Cx}{pos:Pos}{e a b o f:Expr}{fe fa fb fo ff:Ef}
theorem zO {st:Sto}{n:Nat}{j:List (List Int×D)} (h:mgt st n=some j):st[n]?=some (.m j):=by
 unfold mgt at h;split at h
 ·rename_i q;cases h;exact q
 ·cases h
theorem Sr.atm {H:Hp}{φ:List Addr}{st:Sto} (S:Sr K H φ st) {n:Nat}{p:Addr}{j:List (List Int×D)} (e1:φ[n]?=some p) (L:mgt st n=some j):∃ w,H p=some (.dT w)/\Rkv K H φ j w:=S.at_ n p _ e1 (zO L)
theorem Rkv.length {H:Hp}{φ:List Addr}:∀ {ds:List (List Int×D)}{w:List (List Key×V)},Rkv K H φ ds w->ds.length=w.length
 |[],_,h=>by cases h;rfl
 |(k,d)::ds,_,h=>by
  obtain⟨v,r,rfl,B,A⟩:=h;rw[qaq,qaq,Rkv.length A]
theorem kI:∀ {a b:List Int},ii a=ii b->a=b
 |[],[],_=>rfl
 |[],_::_,h=>by cases h
 |_::_,[],h=>by cases h
 |x::a,y::b,h=>by
  injection h with B A;injection B with B;rw[B,kI A]
theorem wD (l:List Int):(ii l).map kV=l.map V.int:=by
 unfold ii;rw[qaP];rfl
theorem Rkv.val {H:Hp}{φ:List Addr}{i:List Int}:∀ {ds:List (List Int×D)}{w:List (List Key×V)},Rkv K H φ ds w->(∀ d,vM ds i=some d->∃ v,ij w (ii i)=some v/\Rl K H φ d v)/\(vM ds i=none->ij w (ii i)=none)
 |[],_,h=>by cases h;exact⟨(λd e=>nomatch e),λ_=>rfl⟩
 |(k,d)::ds,_,h=>by
  obtain⟨v,r,rfl,B,A⟩:=h;by_cases e:k=i
  ·subst e
   have e1:vM ((k,d)::ds) k=some d:=by unfold vM;rw[qey (by simp)];rfl
   have L:ij ((ii k,v)::r) (ii k)=some v:=by unfold ij;rw[qey (by simp)];rfl
   rw[e1,L];exact⟨λd' q=>⟨v,U,by cases q;exact B⟩,λq=>nomatch q⟩
  ·have e1:vM ((k,d)::ds) i=vM ds i:=by unfold vM;rw[qez (by simpa using e)]
   have L:ij ((ii k,v)::r) (ii i)=ij r (ii i):=by unfold ij;rw[qez (by simpa using λz=>e (kI z))]
   rw[e1,L];exact (Rkv.val A)
theorem Rkv.any {H:Hp}{φ:List Addr}{i:List Int}:∀ {ds:List (List Int×D)}{w:List (List Key×V)},Rkv K H φ ds w->(w.any λp=>decide (p.1=ii i))=ds.any λp=>decide (p.1=i)
 |[],_,h=>by cases h;rfl
 |(k,d)::ds,_,h=>by
  obtain⟨v,r,rfl,B,A⟩:=h;rw[qcj,Rkv.any A]
  congr 1
  exact decide_eq_decide.mpr ⟨λz=>kI z,λz=>congrArg ii z⟩
theorem Rkv.repl {H:Hp}{φ:List Addr}{i:List Int}{x:D}{y:V} (N:Rl K H φ x y):∀ {ds:List (List Int×D)}{w:List (List Key×V)},Rkv K H φ ds w->Rkv K H φ (ds.map λp=>if p.1=i then (p.1,x) else p) (w.map λp=>if p.1=ii i then (p.1,y) else p)
 |[],_,h=>by cases h;exact U
 |(k,d)::ds,_,h=>by
  obtain⟨v,r,rfl,B,A⟩:=h;rw[qaw,qaw];by_cases e:k=i
  ·rw[iFP e,iFP (by rw[e])]
   exact⟨y,_,U,N,Rkv.repl N A⟩
  ·rw[iFN e,iFN (λz=>e (kI z))]
   exact⟨v,_,U,B,Rkv.repl N A⟩
theorem Rkv.snoc {H:Hp}{φ:List Addr}:∀ {ds:List (List Int×D)}{w:List (List Key×V)}{k:List Int}{d:D}{v:V},Rkv K H φ ds w->Rl K H φ d v->Rkv K H φ (ds++[(k,d)]) (w++[(ii k,v)])
 |[],_,_,_,_,h,hd=>by cases h;exact⟨_,_,U,hd,U⟩
 |(k,d)::ds,_,_,_,_,h,hd=>by
  obtain⟨v,r,rfl,B,A⟩:=h;exact⟨v,_,U,B,Rkv.snoc A hd⟩
theorem Rkv.put {H:Hp}{φ:List Addr}{ds:List (List Int×D)}{w:List (List Key×V)}{k:List Int}{d:D}{v:V} (h:Rkv K H φ ds w) (hd:Rl K H φ d v):Rkv K H φ (As ds k d) (lO w (ii k) v):=by
 unfold As lO;rw[h.any];split
 ·exact h.repl hd
 ·exact h.snoc hd
theorem xo {H:Hp}{φ:List Addr}{ds:List D}{l:List Int}{v:V} (hl:aT ds=some l) (r:Rl K H φ (.tup ds) v):∃ p,v=.ref p/\H p=some (.tup ((ii l).map kV)):=by
 obtain⟨p,w,rfl,B,A⟩:=r;cases bm hl;cases A.ints;rw[wD];exact⟨p,U,B⟩
theorem kg:IE K X (.Dict [] [] pos) C3:=by
 refine⟨λenv st r g=>?_⟩;cases g;refine z9.imp ?_
 rintro σ H Q ⟨φ,M,F,q⟩
 exact λp Y=>q _ _ _ (Fw.moreO Y) (F.moreC Y ⟨_,upd_same,U⟩) ⟨p,by rw[<-F.len];simp,U⟩
theorem nQ {k:Nat} (J:bz k X.A) (ha:IE K X a fa) (hb:IE K X b fb) (hs:Dt b):IE K X (.Subscript a b pos) (yd fa fb):=by
 refine⟨λenv st r g=>?_⟩;simp only[yd,qac]at g;obtain⟨⟨x,s1⟩,N,⟨y,s2⟩,hy,g⟩:=g;dsimp only at g;split at g
 next n ds=>
  simp only[qac,qad]at g;obtain⟨j,hk,l,hl,d,hd,rfl⟩:=g;refine (B6 (C2 J) (ha.run _ _ _ N) (hb.run _ _ _ hy) hs).imp ?_
  rintro σ H Q ⟨φ,M,F,q⟩
  refine⟨φ,M,F,λv H1 E O S1 w1=>⟨E,M.fw F O,S1,λu H2 φ2 f2 S2 w2=>?_⟩⟩;obtain⟨p,ep,rfl⟩:=w1.fw S1 f2;obtain⟨w,hv,rl⟩:=S2.atm ep hk;obtain⟨v2,L,r2⟩:=rl.val.1 d hd;obtain⟨b',rfl,T⟩:=xo hl w2;refine⟨p,v2,U,?_,q _ H2 φ2 (O.trans f2) S2 r2⟩;rw[<-L];exact xC.t hv T
 ·cases g
theorem kA {k:Nat}{P:Pos} (J:bz k X.A) (ho:IE K X a fa) (hi:IE K X b fb) (hv:IE K X e fe) (hs:qcw e (some (.Subscript a b P)) pos.line X.env=pure false:=by rfl) :
  IS K X (.Assign [.Subscript a b P] e pos) (wx fa fb fe):=by
 refine⟨λenv st r g=>?_⟩;simp only[wx,qac]at g;obtain⟨⟨z,s1⟩,hz,⟨x,s2⟩,N,⟨y,s3⟩,hy,g⟩:=g;dsimp only at g;split at g
 next n ds d=>
  simp only[qac]at g;obtain⟨j,hk,l,hl,g⟩:=g;split at g
  ·rename_i G
   cases g;refine (Ce (C2 J) (ho.run _ _ _ N) (hi.run _ _ _ hy) (hv.run _ _ _ hz) hs).imp ?_
   rintro D σ H ⟨φ,M,F,q⟩
   refine⟨φ,M,F,λv H1 E O S1 w1=>⟨E,M.fw F O,S1,λu H2 φ2 f2 S2 w2=>⟨φ2,(M.fw F O).fw S1 f2,S2,λt H3 φ3 f3 S3 w3=>?_⟩⟩⟩;obtain⟨p,ep,rfl⟩:=w2.fw S2 f3;obtain⟨w,Y,rl⟩:=S3.atm ep hk;obtain⟨b',rfl,T⟩:=xo hl w3;obtain⟨f4,S4⟩:=S3.putC (c:=.m _) ep λf=>⟨_,upd_same,(rl.put (Rl.fw S2 f3 (Rl.fw S1 f2 w1))).fw S3 f⟩;refine⟨p,_,U,yP.t Y T (by rw[<-rl.length];exact qaS G (by decide)),?_⟩;exact q _ _ φ3 (((O.trans f2).trans f3).trans f4) (((((M.fw F O).fw S1 f2).fw S2 f3)).fw S3 f4) S4
  ·cases g
 ·cases g
theorem wE {H:Hp}{φ:List Addr}:∀ {j:List (List Int×D)}{w:List (List Key×V)}{xs:List (List Key×Addr×Value)},Rkv K H φ j w->KT H w xs->
  Rls K H φ ((j.map (·.1)).map ao) (xs.map λx=>V.ref x.2.1)/\aI (xs.map λx=>V.ref x.2.1) (xs.map λx=>Value.ref x.2.1)
 |[],_,_,h,t=>by cases h;cases t;exact⟨U,.nil⟩
 |(k,d)::j,_,_,h,t=>by
  obtain⟨v,r,rfl,B,A⟩:=h;cases t with
  |cons q t=>
   rename_i x xs;obtain⟨i1,i2⟩:=wE A t;have e:H x.2.1=some (.tup (k.map V.int)):=by rw[<-wD];exact q.2.1
   exact⟨⟨_,_,U,⟨_,_,U,e,Rls.of_ints k⟩,i1⟩,.cons U i2⟩
theorem iH {k:Nat}{p:Pos} (J:bz k X.A) (hg:Gl X "sorted") (hm:X.mg "sorted" = none) (ha:IE K X a fa) (hc:X.calm=true:=by rfl) (hs:aA a=true:=by rfl) (hK:X.K=K:=by rfl):IL K X (.Call (.Name "sorted" p) [a] [] pos) (ly fa):=by
 subst hK;refine⟨λenv st r g=>?_⟩;simp only[ly,qac]at g;obtain⟨⟨x,s1⟩,N,g⟩:=g;dsimp only at g;split at g
 case h_2=>cases g
 rename_i n;simp only[qac]at g;obtain⟨j,hk,g⟩:=g;split at g
 ·rename_i hl
  cases g;have hA:=(bA (K:=X.K) (X:=X) ha b0 hs).run env st ([.h n],s1) (by simp only[aa,ae,N,qaa,qao]);have hC:bG X (.builtin "sorted") (λxs H Q=>∃ φ q,Sr X.K H φ s1/\φ[n]?=some q/\xs=[.ref q]/\∀ l us,H l=none->Rls X.K H φ ((ax (j.map (·.1))).map ao) us->Q (.ref l) (upd H l (.lst us))):=by
   intro pins s σ H xs us Q I rv q;obtain⟨φ,ad,S,R,rfl,q⟩:=q;obtain⟨u,rfl,ru⟩:=gr rv;cases ru;obtain⟨w,hv,rl⟩:=S.atm R hk;obtain⟨z',hd,xs,rel,o,es,ep,g1,g2,g3,g4,g5,g6⟩:=CZ I.hok hv;obtain⟨b1,b2⟩:=wE rl rel;have G:xs.length<64:=by
    have e1:=rel.length;have L:=rl.length;lia
   have hkeys:es.toList.map (·.key)=xs.map λx=>Value.ref x.2.1:=by rw[g4,qaP];rfl
   obtain⟨m1,m2⟩:=kZ I b1 b2;have hun:X.A.in1.in1.units<cLine:=by
    have:=J.un
    show X.A.units+1+1<cLine;lia
   refine vZ hd ⟨o,g1,g2,g3⟩ (I.ok.hd hc) hkeys (by rw[qah];exact G) hun (λv hv=>⟨_,(m2 v hv).1⟩) λh' tk p ep' C hkeep Y he a1 a2=>?_;have hn:H p=none:=I.hok.fresh Y;have ho:=λu hu=>m2 u (a1.mem_iff.mp hu);obtain⟨c1,c2⟩:=pv (K:=X.K) (H:=H) (φ:=φ) ho;have hpm:(C.map (tuI s.heap)).Perm (j.map (·.1)):=by
    have:=a1.map (tuI s.heap)
    rw[m1]at this;exact this
   have hsrt:(C.map (tuI s.heap)).Pairwise leL:=by
    rw[qdC];exact a2.imp λ{x y} q=>q
   have e:C.map (tuI s.heap)=ax (j.map (·.1)):=gY (hpm.trans (aK _).symm) hsrt (bR _);have L:(C.map λu=>ao (tuI s.heap u))=(ax (j.map (·.1))).map ao:=by rw[<-e,qaP];rfl
   rw[L]at c1;have hlay:Inv X pins σ (upd H p (.lst (C.map toV))) { s with heap:=h',toks:=tk }:=by
    refine I.laid (t':=tk) (a:=p) (o:=.lst (C.map toV)) hkeep Y ⟨?_,C,ep',c2,by simpa [qfK] using he⟩;rw[qah,a1.length_eq,qah];exact jq (by lia)
   exact⟨.ref p,_,hlay,U,q p _ hn c1⟩
  refine (pe hC hg hm qaT hA (by decide) (by decide) (aU hs) (bv (es:=[]) U)).imp ?_
  rintro σ H Q ⟨φ,M,F,q⟩
  refine⟨φ,M,F,λw H1 E O S1 w1=>?_⟩;obtain⟨v,r,rfl,⟨ad,R,rfl⟩,rfl⟩:=w1;exact⟨E,ad,S1,R,U,λl us hl' hr'=>q l _ H1 E O S1 hl' hr'⟩
 ·cases g
def vk (st:Sto):W->W->Option D
 |.d (.tup a),.d (.tup b)=>(aT a).bind λns=>(aT b).map λms=>.bl (bu ns ms)
 |x,y=>dLt st x y
theorem um:∀ (a b:List Int),HT.lexLt a b=bu a b
 |[],[]=>rfl
 |[],_::_=>rfl
 |_::_,[]=>rfl
 |x::a,y::b=>by rw[HT.lexLt_cons,bu,um a b]
theorem oU {k:Nat} (g:bz k X.A) (hK:X.K=K:=by rfl):OpD K X (qbM .Lt) vk:=by
 refine⟨λst x y d h=>?_⟩;by_cases ht:∃ a b,x=.d (.tup a)/\y=.d (.tup b)
 ·obtain⟨a,b,rfl,rfl⟩:=ht
  simp only[vk,qac,qad]at h;obtain⟨ns,B,ms,A,rfl⟩:=h;have hu:X.A.units<cLine:=by have:=g.un;lia
  refine (Ej hu).imp ?_
  rintro vx vy H Q ⟨φ,S,⟨p,w,rfl,g1,g2⟩,⟨p2,vs2,rfl,g3,g4⟩,q⟩
  cases bm B;cases bm A;cases g2.ints;cases g4.ints;refine⟨p,p2,ns,ms,U,U,SqT.of g1,SqT.of g3,?_⟩;rw[um];exact q _ H (aR.refl H) U
 ·have e:vk st x y=dLt st x y:=by
   unfold vk;split
   ·rename_i a b
    exact absurd ⟨a,b,U,U⟩ ht
   ·rfl
  rw[e]at h;exact qC.run st x y d h
end
def C8 (ns:List Int) (d:Option Int):Option Int:=match ns with
 |n::r=>some (oO r n)
 |[]=>d
section
variable {prog:qaQ}{w:World}{A:qa1}{s:qaj}{I l S:Addr}{items:Array Value}{ns:List Int}{D:List (Str×Value)}{R:qhJ->qaj->Prop}
theorem D8 (M:A.handled=none) (hi:qb4 items.toList ns) (i:S≠I) (B:l≠I) (G:l≠S):∀ (rest:List Int) (j:Nat) (s:qaj) (m:Int) (t:Tok) (c:Nat),ns.drop j=rest->s.heap.IsListIter I l j->s.heap.IsList l items->
  s.heap.get? S=some { cls:=.type "list",dict:=none,data:=.seq #[.int m t,.int m t] c,slots:=#[] }->
  (∀ t' h',(∀ b o,b≠I->b≠S->s.heap.get? b=some o->h'.get? b=some o)->R (.ok (.ret (.int (oO rest m) t'))) { s with heap:=h' })->qdJ (model prog w) A (.builtin "min.loop" ⟨[.ref I,.none,.ref S],D⟩) R s:=by
 have C:(toString "min"++toString ".loop" : String) = "min.loop":=by decide
 intro rest
 induction rest with
 |nil=>
  intro j s m t c hd x y H L;have hn:ns[j]?=none:=by
   rw[qbO]
   have:=congrArg qe0 hd
   simp at this;lia
  refine qcH qf9 ?_;rw[qcs qcQ _];refine qab (qbJ H U ?_);refine qab (qco (qc7 M x y (kl hi hn) λN u=>?_));refine qab (qdG (u _ _ i H) U (qab (qcP (qan ?_))));exact L t _ λb o a g q=>(qaU _ _ (qbo g)).trans (u _ _ a q)
 |cons n rest ih=>
  intro j s m t c hd x y H L;have hn:ns[j]?=some n:=by
   have:=congrArg (λl=>l[0]?) hd
   simpa using this
  have P:ns.drop (j+1)=rest:=by
   have:=congrArg (qk8 1) hd
   simpa [qh6,qeS] using this
  obtain⟨X,Y⟩:=ko hi hn;refine qcH qf9 ?_;rw[qcs qcQ _];refine qab (qbJ H U ?_);refine qab (qco (qc0 x y Y λN p s1=>?_));have u:=s1.extBut;have z:=u _ _ i H;show wpAny _ A.in1 (tryCatch _ _ >>= _) _ _ _;refine qab (qco (qbU (qab (qdB ?_))));refine qab (qbU (qcb ?_));refine qab (qcP (qan ?_));by_cases hb:n<m
  ·have K:decide (n<m)=true:=by simp[hb]
   rw[K];simp only[if_true];refine qab (qdG z U (qab (qcP ?_)));rw[C];refine qan ⟨qde qcQ _,ih (j+1) _ n X _ P (p.at λo q=>(qaU _ _ i).trans q) (Heap.IsList.at y λo q=>(qaU _ _ (qbo G)).trans (u _ _ B q)) (qca _ z U) λt' h' k=>?_⟩
   have:=L t' h' λb o a g q=>k b o a g ((qaU _ _ (qbo g)).trans (u _ _ a q))
   rw[oO,iFP hb]at this;exact this
  ·have K:decide (n<m)=false:=by simp[hb]
   rw[K];simp only[qbm,if_false];refine qab (qcP ?_);rw[C];refine qan ⟨qde qcQ _,ih (j+1) _ m t c P p (Heap.IsList.at y λo q=>u _ _ B q) z λt' h' k=>?_⟩
   have:=L t' h' λb o a g q=>k b o a g (u _ _ a q)
   rw[oO,iFN hb]at this;exact this
variable {E:Value->qaj->Prop}
theorem yu (M:A.handled=none) (hi:qb4 items.toList ns) (i:S≠I) (B:l≠I) (G:l≠S) {c:Nat} (x:s.heap.IsListIter I l 0) (y:s.heap.IsList l items) (H:s.heap.get? S=some { cls:=.type "list",dict:=none,data:=.seq #[] c,slots:=#[] })
  (L:∀ v h',(∀ b o,b≠I->b≠S->s.heap.get? b=some o->h'.get? b=some o)->(∀ n r,ns=n::r->∃ t,v=.int (oO r n) t)->(ns=[]->∃ k,D=[(k,v)])->R (.ok (.ret v)) { s with heap:=h' })
  (W:ns=[]->∃ k v,D=[(k,v)]):qdJ (model prog w) A (.builtin "min.loop" ⟨[.ref I,.none,.ref S],D⟩) R s:=by
 refine qcH qf9 ?_;rw[qcs qcQ _];refine qab (qbJ H U ?_);cases hn:ns with
 |nil=>
  obtain⟨k,v,rfl⟩:=W hn;refine qab (qco (qc7 M x y (kl hi (by rw[hn];rfl)) λN u=>?_));refine qab (qdv (qan ?_));exact L v _ (λb o a _ q=>u _ _ a q) (λn r e=>by rw[hn]at e;cases e) λ_=>⟨k,U⟩
 |cons n rest=>
  obtain⟨X,Y⟩:=ko hi (j:=0) (by rw[hn];rfl);refine qab (qco (qc0 x y Y λN p s1=>?_));have u:=s1.extBut;have z:=u _ _ i H;show wpAny _ A.in1 (updateSeq S _ >>= _) _ _ _;refine qab (qdG z U ?_);refine qan ⟨qde qcQ _,D8 M hi i B G rest 1 _ n X _ (by rw[hn];rfl) (p.at λo q=>(qaU _ _ i).trans q) (Heap.IsList.at y λo q=>(qaU _ _ (qbo G)).trans (u _ _ B q)) (qca _ z U) λt' h' k=>?_⟩;exact L _ h' (λb o a g q=>k b o a g ((qaU _ _ (qbo g)).trans (u _ _ a q))) (λn' r' e=>by rw[hn]at e;cases e;exact⟨t',U⟩) λe=>by rw[hn]at e;cases e
theorem re {Q:Value->qaj->Prop} (M:A.handled=none) (hi:qb4 items.toList ns) (y:s.heap.IsList l items) (hk:D=[]) (W:ns=[]->D≠[])
  (h:∀ v h',(∀ b o,s.heap.get? b=some o->h'.get? b=some o)->(∀ n r,ns=n::r->∃ t,v=.int (oO r n) t)->(ns=[]->∃ k,D=[(k,v)])->Q v { s with heap:=h' }) :
  wpAny (model prog w) A (call (.builtin "min") [.ref l] D) Q E s:=by
 have O:l<s.heap.objs.size:=by obtain⟨_,e,_⟩:=y;exact qav e
 have J:(s.heap.push { cls:=.type "list_iterator",data:=.fields #[.ref l,.int 0 0] }).objs.size=s.heap.objs.size+1:=qbn ..
 have fin:∀ T:List Value,D=T.map _->wpAny (model prog w) A.in1 (do
   let it <-qhH _
   let b <-newList []
   qiD (.builtin "min.loop" ⟨[it,.none,b],T.map λd=>(qd9 "default",d)⟩)) (λfin s'=>match fin with
   |.done f=>(match (Except.ok f) with|.ok (.ret v)=>Q v s'|.ok _=>False|.error e=>E e s')
   |.again c'=>c'.quiet=true/\qdJ (model prog w) A c' (λr s'=>match r with|.ok (.ret v)=>Q v s'|.ok _=>False|.error e=>E e s') s') E s:=λT V=>by
  refine qab (qdR y (qab (qcc ?_)));refine qan ⟨qde qcQ _,?_⟩;rw[<-V];refine yu M hi (by rw[J];exact qex _) (qax O) (by rw[J];exact qax (qa2 O))
   ⟨_,qaf _ (qas _ U),U,U⟩ (Heap.IsList.at y λo q=>qaf _ (qaf _ q)) (qas _ U) (λv h' k N h2=>?_) (λe=>?_)
  ·refine h v h' (λb o q=>?_) N h2
   have hb:=qav q;exact k b o (qax hb) (by rw[J];exact qax (qa2 hb)) (qaf _ (qaf _ q))
  ·exact absurd hk (W e)
 subst hk;refine gy F.kind_min F.plain_min F.entry_min (F.args_min1 _) ?_;exact (fin [] U)
end
section
variable {K:qae}{X:Cx}{e a b:Expr}{es:List Expr}{pos:Pos}{f fa T:Ef}{af:Af}
theorem xS (g:X.calm=true) {A:List (Str×Value)}{d:Option V}{ns:List Int}{c:List (Addr×Obj)}{p:St}{H:Hp}{s:qaj}{ad:Addr}{Q:VK}{E:XK}{r:Int} (I:Inv X c p H s) (y:Rd H ad (.lst (ns.map V.int)))
  (o:A=[]/\ns≠[]) (M:∀ n q,ns=n::q->r=oO q n) (q:Q (.int r) H) :
  wpAny (model X.prog X.w) X.A (call (.builtin "min") [.ref ad] A) (EP X c p Q) X.xe s:=by
 obtain⟨J,m,B,O⟩:=I.list (.inl y);refine re (I.ok.hd g) (by simpa using cF m) B.isList ?_ ?_ λv h' kp C Y=>?_
 ·exact o.1
 ·intro e z
  exact o.2 e
 ·have G:∃ t,v=.int r t:=by
   cases hn:ns with
   |nil=>exact absurd hn o.2
   |cons n q=>
    rw[M n q hn];exact C n q hn
  exact⟨.int r,H,I.kept kp,G,q⟩
def dMi (st:Sto):List W->Option D
 |[.d (.int i),.d (.int j)]=>some (.int (if j<i then j else i))
 |[w]=>(lsI st w).bind λns=>(C8 ns none).map D.int
 |_=>none
theorem sN (g:X.calm=true:=by rfl):e6 K X (.builtin "min") dMi:=by
 refine⟨λst ws d h=>?_⟩;have one:∀ w,((lsI st w).bind λns=>(C8 ns none).map D.int)=some d->bG X _ (rCD K st [w] d):=λw h=>by
  obtain⟨ns,N,h⟩:=qac.mp h;obtain⟨r,k,rfl⟩:=qad.mp h;intro c s p H xs R Q I m q;obtain⟨φ,S,⟨v,rr,rfl,l,rfl⟩,q⟩:=q;obtain⟨ad,rfl,y⟩:=wJ S l N;obtain⟨u,rfl,L⟩:=gr m;cases L;refine xS (E:=λ_ _ _=>False) (d:=none) g I y ⟨U,λe=>by rw[e]at k;cases k⟩ (λn q hn=>by rw[hn]at k;exact (qaN k).symm) (q _ H (aR.refl H) U)
 match ws,h with
 |[.d (.int i),.d (.int j)],h=>
  cases h;refine (xR g).imp ?_
  rintro P H Q ⟨φ,S,⟨v,r,rfl,l,u,r',rfl,F,rfl⟩,q⟩
  exact⟨i,j,by rw[l,F],q _ H (aR.refl H) U⟩
 |[w],h=>exact one w (by cases w with|h n=>exact h|d x=>cases x<;>exact h)
end
end L2
namespace L2
open PySem PySem.Spec PyProof.Rows PySem.SeqAt PySem.W
section
variable {K:qae}{X:Cx}{H:Hp}{φ:List Addr}
end
end L2
namespace L2
open PySem PySem.Spec PyProof.Rows PySem.W
def za (_:Sto):List W->Option D
 |[.d (.tup ds)]=>(aT ds).map λns=>.int ns.sum
 |_=>none
section
variable {K:qae}{X:Cx}
theorem xT:bG X (.builtin "sum") (λxs H Q=>X.calm=true/\∃ (a:Addr) (ns:List Int),xs=[.ref a]/\H a=some (.tup (ns.map V.int))/\Q (.int ns.sum) H):=by
 intro b s j H xs i Q I c h;obtain⟨f,a,ns,rfl,n,q⟩:=h;obtain⟨x,rfl,g⟩:=gr c;cases g;obtain⟨z,l,c,p⟩:=(I.hok a _ n);have pt:=p.tup;obtain⟨ps,t,k⟩:=pO c;rw[t]at pt;refine ktm_sumG (I.ok.hd f) pt λh' w t' o=>?_;refine⟨.int ns.sum,H,I.kept o,⟨t',?_⟩,q⟩;rw[preSum_eq,qb3 (by simp),k]
theorem j5 (f:X.calm=true:=by rfl) (y:X.K=K:=by rfl):e6 K X (.builtin "sum") za:=by
 refine⟨λst ws d h=>?_⟩
 match ws,h with
 |[.d (.tup ds)],h=>
  obtain⟨ns,e,rfl⟩:=qad.mp h;cases bm e;intro b s j H xs i Q I c q;obtain⟨φ,S,⟨v,r,rfl,⟨a,i,rfl,m,u⟩,rfl⟩,q⟩:=q;cases u.ints;exact xT b s j H _ _ Q I c ⟨f,a,ns,U,m,q _ H (aR.refl H) U⟩
end
end L2
@[reducible]def Z(x:L2.D):Option L2.W:=some (.d x)
namespace Own
open PySem L2
def gf:Sf:=(ay (.nm 1) (iOp a9 (iV 1) (iC (.int 2))))
def m6:Sf:=(ah (ay (.nm 1) (iC (.int 1))) (ah (eY (bD (aa (iV 0) ae)) (.nm 2) gf) (aM (iV 1))))
def eS:Fn:=bj 3 1 m6
def Bm:Sf:=(aM (iOp gA (iOp nu (iV 0) (aq eS (aa (iV 1) ae))) (iC (.int 2))))
def rS:Fn:=bj 2 2 Bm
def eW:Tf:=(aC dNe (iV 3) (iC (.int 0)))
def fF:Sf:=(ah (ay (.nm 4) (iOp gA (iV 1) (iV 3))) (ah (ay (.nm 1) (iV 3)) (ay (.nm 3) (iV 4))))
def fq:Sf:=(ah (ay (.nm 3) (iCB vi (aa (iV 2) ae))) (lz (2^8000) eW fF))
def mq:Sf:=(ah (ay (.nm 1) (iC (.int 0))) (ah (eY (aB (iV 0)) (.nm 2) fq) (aM (iV 1))))
def br:Fn:=bj 5 1 mq
def tj:Ef:=(iOp rj (iV 0) (iV 1))
def xJ:Sf:=(ah (ay (.nm 1) (aq br (aa (iV 0) ae))) (ah (aY (aC dEq (iV 1) (iC (.int 0))) (aM (iCB gB (aa (iV 0) ae))) aQ) (aM (iCB gB (aa (aw (iLc 1 [1] (aB (iV 0)) (.nm 0) aJ tj)) ae)))))
def di:Fn:=bj 2 1 xJ
def cm:Tf:=(aC dLt (iV 2) (iCB a8 (aa (iV 0) ae)))
def dN:Sf:=(ah (ay (.nm 2) (iOp a9 (iV 2) (iC (.int 2)))) (ay (.nm 1) (iOp bf (iV 1) (iC (.int 1)))))
def pU:Sf:=(ah (ay (.nm 1) (iC (.int 0))) (ah (ay (.nm 2) (iC (.int 1))) (ah (lz (2^8000) cm dN) (aM (iV 1)))))
def dm:Fn:=bj 3 1 pU
def fM:Ef:=(iV 0)
def fT:Tf:=(aC nv (iV 1) (iC .non))
def lU:Sf:=(aM (iCB gB (aa (aw (iLc 2 [] (bZ (aa (iV 0) ae)) (.tp [0,1]) fT fM)) ae)))
def bJ:Fn:=bj 1 1 lU
def li:Sf:=(aM (jK (aC dEq (iOp dIx (iV 0) (iV 1)) (iC (.int 1))) (iC (.int 1)) (iUn ie (iC (.int 1)))))
def gg:Fn:=bj 2 2 li
def iD:Ef:=(iOp bf (aw (iCL ui (aa (iV 0) ae))) (aw (bT (aa (iV 1) ae))))
def iE:Ef:=(iUn ie (iV 0))
def cb:List (Str×Ef):=[("amounts",(iCB a8 (aa (iV 3) ae))),("lines",(aw (iLc 2 [] (dC (aa (iV 1) (aa (iV 2) ae))) (.tp [0,1]) aJ iD))),("goal",(iOp bf (aw (iLc 1 [] (aB (iV 3)) (.nm 0) aJ iE)) (aw (bT (aa (iC (.int 0)) ae))))),("part",(iC (.int 1))),("free",(db (mx (aa (iCB a8 (aa (iV 3) ae)) ae)))),("kept",(db (rE (aa (iCB a8 (aa (iV 3) ae)) (aa (iOp bf (iCB a8 (aa (iV 3) ae)) (iCB a8 (aa (iV 1) ae))) ae)))))]
def aV:Sf:=(ah (aY (cv cN (iV 3)) (ah (ay (.nm 5) (iOp a9 (iOp dIx (iV 1) (iV 4)) (iOp dIx (iV 2) (iOp dIx (iV 3) (iC (.int 0)))))) (ah (ay (.nm 6) (iOp a9 (iOp dIx (iV 1) (iOp dIx (iV 3) (iC (.int 0)))) (iOp dIx (iV 2) (iV 4)))) (ah (aY (aC dGt (iV 5) (iV 6)) qu aQ) (aY (aC dLt (iV 5) (iV 6)) (ay (.nm 3) (db (bT ae))) aQ)))) aQ) (eJ (cL bB (iV 3) (aa (iV 4) ae))))
def ju:Sf:=(ah (ay (.nm 3) (db (bT ae))) (ah (eY (aB (iV 0)) (.nm 4) aV) (aM (iV 3))))
def fQ:Fn:=fR 7 3 ju
def xL:Sf:=(aM (iOp bf (aw (bT (aa (iC .non) ae))) (aw (rE (aa (az "amounts" (iV 0)) (aa (iOp bf (az "amounts" (iV 0)) (iCB a8 (aa (az "lines" (iV 0)) ae))) ae))))))
def d9:Fn:=bj 1 1 xL
def nA:Ef:=(jK (aC dEq (iV 0) (iV 1)) (az "part" (iV 2)) (iC (.int 0)))
def nB:Ef:=(iOp dIx (iV 0) (iV 1))
def nC:Ef:=(iOp dIx (iV 0) (iUn ie (iC (.int 1))))
def gx:Sf:=(ah (aY (aC iy (iV 1) (iC .non)) (aM (aw (iLc 1 [] (aB (az "lines" (iV 0))) (.nm 0) aJ nC))) aQ) (ah (aY (aC dIn (iV 1) (az "free" (iV 0))) (ah (ay (.nm 2) (zo (az "free" (iV 0)) (aa (iV 1) ae))) (aM (aw (iLc 1 [2] (aB (az "lines" (iV 0))) (.nm 0) aJ nB)))) aQ) (aM (aw (iLc 1 [1,0] (aB (az "kept" (iV 0))) (.nm 0) aJ nA)))))
def cX:Fn:=bj 3 2 gx
def ft:Sf:=(ah (aY (aC dLt (iCB a8 (aa (iV 3) ae)) (iC (.int 2))) vw aQ) (ay (.nm 3) (aq fQ (aa (iV 3) (aa (aq cX (aa (iV 0) (aa (iV 4) ae))) (aa (iV 2) ae))))))
def sY:Ef:=(iV 0)
def uV:Tf:=(aC dGt (iV 1) (iC (.int 0)))
def sZ:Ef:=(iOp dIx (iV 0) (iV 1))
def qj:Sf:=(ah (ay (.nm 2) (aw (iLc 1 [1] (aB (az "lines" (iV 0))) (.nm 0) aJ sZ))) (ah (ay (.nm 3) (aw (iLc 2 [] (bZ (aa (iV 2) ae)) (.tp [0,1]) uV sY))) (ah (eY (aB (aq d9 (aa (iV 0) ae))) (.nm 4) ft) (aM (jK (cv cN (iV 3)) (iOp dIx (iV 3) (iC (.int 0))) (iC .non))))))
def ji:Fn:=bj 5 2 qj
def b8:Sf:=(ah (ay (.nm 6) (aq cX (aa (iV 0) (aa (iV 5) ae)))) (ah (ay (.nm 7) (iOp j6 (iOp a9 (iV 4) (iOp dIx (iV 6) (iOp dIx (iV 2) (iC (.int 1))))) (iOp a9 (iV 3) (iOp dIx (iV 6) (iOp dIx (iV 1) (iC (.int 1))))))) (aY (aC dNe (iV 7) (iC (.int 0))) (aM (iOp dGt (iV 7) (iC (.int 0)))) aQ)))
def qV:Sf:=(ah (ay (.nm 3) (iOp a9 (iOp dIx (az "goal" (iV 0)) (iOp dIx (iV 1) (iC (.int 0)))) (iOp dIx (iOp dIx (az "lines" (iV 0)) (iOp dIx (iV 2) (iC (.int 1)))) (iOp dIx (iV 2) (iC (.int 0)))))) (ah (ay (.nm 4) (iOp a9 (iOp dIx (az "goal" (iV 0)) (iOp dIx (iV 2) (iC (.int 0)))) (iOp dIx (iOp dIx (az "lines" (iV 0)) (iOp dIx (iV 1) (iC (.int 1)))) (iOp dIx (iV 1) (iC (.int 0)))))) (ah (eY (aB (aq d9 (aa (iV 0) ae))) (.nm 5) b8) (aM (iC (.bl false))))))
def cf:Fn:=bj 8 3 qV
def bS:Sf:=(ah (aY (aC dGe (iOp dIx (az "goal" (iV 0)) (iV 2)) (iC (.int 0))) qu aQ) (ah (ay (.nm 3) (bb (aa (iV 2) (aa (aq ji (aa (iV 0) (aa (iV 2) ae))) ae)))) (ah (aY (aC iy (iOp dIx (iV 3) (iC (.int 1))) (iC .non)) (aM (iV 3)) aQ) (aY (dh (aC iy (iV 1) (iC .non)) (cv cN (aq cf (aa (iV 0) (aa (iV 3) (aa (iV 1) ae)))))) (ay (.nm 1) (iV 3)) aQ))))
def sI:Sf:=(ah (ay (.nm 1) (iC .non)) (ah (eY (bD (aa (iCB a8 (aa (az "free" (iV 0)) ae)) ae)) (.nm 2) bS) (aM (iV 1))))
def bO:Fn:=bj 4 1 sI
def lq:Ef:=(iOp rj (iOp j6 (iOp a9 (iV 2) (iV 0)) (iOp a9 (iV 3) (iV 1))) (iV 4))
def wk:Sf:=(ah (ay (.nm 4) (iOp dIx (iV 1) (iV 2))) (ah (ay (.nm 5) (iOp dIx (iV 0) (iV 2))) (ah (ay (.nm 6) (db (iLc 2 [4,5,3] (dC (aa (iV 0) (aa (iV 1) ae))) (.tp [0,1]) aJ lq))) (ah (bP (iV 6) (iV 2) (iUn ie (iV 5))) (aM (iV 6))))))
def kP:Fn:=fR 7 4 wk
def dR:Ef:=(aq kP (aa (iV 0) (aa (iV 1) (aa (iV 2) (aa (iV 3) ae)))))
def jF:Sf:=(ah (ay (.nm 3) (iOp dIx (az "lines" (iV 0)) (iV 1))) (ah (ay (.nm 4) (az "part" (iV 0))) (ah (i3 5 1 2 3 4 (iLc 1 [3,2,4] (aB (az "lines" (iV 0))) (.nm 0) aJ dR)) (ah (l5 "goal" (iV 0) (aq kP (aa (az "goal" (iV 0)) (aa (iV 3) (aa (iV 2) (aa (iV 4) ae)))))) (ah (l5 "lines" (iV 0) (iV 5)) (ah (l5 "part" (iV 0) (iOp dIx (iV 3) (iV 2))) (ah (ay (.nm 6) (iOp dIx (az "free" (iV 0)) (iV 2))) (ah (bP (az "free" (iV 0)) (iV 2) (iOp dIx (az "kept" (iV 0)) (iV 1))) (bP (az "kept" (iV 0)) (iV 1) (iV 6))))))))))
def eQ:Fn:=fR 7 3 jF
def oA:Sf:=(aY (aC dLt (iV 4) (az "amounts" (iV 0))) (bP (iV 2) (iV 4) (iUn ie (iOp dIx (iOp dIx (az "lines" (iV 0)) (iV 3)) (iV 1)))) aQ)
def sM:Sf:=(ah (ay (.nm 2) (db (tO oz (aw (bT (aa (iC (.int 0)) ae))) (az "amounts" (iV 0))))) (ah (eY (bZ (aa (az "kept" (iV 0)) ae)) (.tp [3,4]) oA) (ah (aY (aC dLt (iOp dIx (az "free" (iV 0)) (iV 1)) (az "amounts" (iV 0))) (bP (iV 2) (iOp dIx (az "free" (iV 0)) (iV 1)) (az "part" (iV 0))) aQ) (aM (dg di (aa (iV 2) ae))))))
def kQ:Fn:=fR 5 2 sM
def iS:Sf:=(aY (aC dLt (iV 3) (az "amounts" (iV 0))) (bP (iV 1) (iV 3) (iOp dIx (iOp dIx (az "lines" (iV 0)) (iV 2)) (iUn ie (iC (.int 1))))) aQ)
def jY:Sf:=(ah (ay (.nm 1) (db (tO oz (aw (bT (aa (iC (.int 0)) ae))) (az "amounts" (iV 0))))) (ah (eY (bZ (aa (az "kept" (iV 0)) ae)) (.tp [2,3]) iS) (aM (iV 1))))
def gM:Fn:=fR 4 1 jY
def jC:Sf:=(aY (aC dGe (iV 3) (az "amounts" (iV 0))) (bP (iV 1) (iOp j6 (iV 3) (az "amounts" (iV 0))) (iOp dIx (az "goal" (iV 0)) (iV 2))) aQ)
def lT:Sf:=(ah (ay (.nm 1) (db (tO oz (aw (bT (aa (iC (.int 0)) ae))) (iCB a8 (aa (az "lines" (iV 0)) ae))))) (ah (eY (bZ (aa (az "free" (iV 0)) ae)) (.tp [2,3]) jC) (aM (iV 1))))
def i5:Fn:=fR 4 1 lT
def eE:Ef:=(iOp rj (iV 0) (iV 1))
def eF:Ef:=(iOp rj (iV 0) (iV 1))
def jZ:Sf:=(ah (ay (.nm 1) (aq gM (aa (iV 0) ae))) (ah (ay (.nm 2) (aq i5 (aa (iV 0) ae))) (ah (ay (.nm 3) (aq br (aa (iOp bf (iOp bf (aw (bT (aa (az "part" (iV 0)) ae))) (iV 1)) (iV 2)) ae))) (aM (bb (aa (iC (.str "most")) (aa (iOp rj (az "part" (iV 0)) (iV 3)) (aa (iCB gB (aa (aw (iLc 1 [3] (aB (iV 1)) (.nm 0) aJ eF)) ae)) (aa (iCB gB (aa (aw (iLc 1 [3] (aB (iV 2)) (.nm 0) aJ eE)) ae)) ae)))))))))
def gN:Fn:=bj 4 1 jZ
def g9:Tf:=(aC nv (iV 4) (iC .non))
def fG:Sf:=(ah (aY (aC iy (iOp dIx (iV 4) (iC (.int 1))) (iC .non)) (aM (bb (aa (iC (.str "beyond")) (aa (dg kQ (aa (iV 3) (aa (iOp dIx (iV 4) (iC (.int 0))) ae))) ae)))) aQ) (ah (eJ (aq eQ (aa (iV 3) (aa (iOp dIx (iV 4) (iC (.int 1))) (aa (iOp dIx (iV 4) (iC (.int 0))) ae))))) (ay (.nm 4) (dg bO (aa (iV 3) ae)))))
def xK:Sf:=(ah (ay (.nm 3) (qv 4 4 cb (aa (iV 0) (aa (iV 1) (aa (iV 2) ae))))) (ah (ay (.nm 4) (dg bO (aa (iV 3) ae))) (ah (lz (2^8000) g9 fG) (aM (dg gN (aa (iV 3) ae))))))
def jj:Fn:=bj 5 3 xK
def j9:Ef:=(iOp bf (iV 0) (bb (aa (iV 2) ae)))
def k9:Tf:=(aC dLt (iCB a8 (aa (iV 0) ae)) (iV 1))
def kL:Sf:=(ay (.nm 2) (iOp bf (iV 2) (aw (iLc 1 [1,3] (aB (iV 2)) (.nm 0) k9 j9))))
def ve:Sf:=(ah (ay (.nm 2) (aw (bT (aa (bb ae) ae)))) (ah (eY (bD (aa (iV 0) ae)) (.nm 3) kL) (aM (iCB gB (aa (aw (iCL iQ (aa (iV 2) ae))) ae)))))
def cI:Fn:=bj 4 2 ve
def dS:Ef:=(aq rS (aa (iV 1) (aa (iV 0) ae)))
def vf:Sf:=(ah (ay (.nm 3) (iCB sU (aa (aw (iLc 1 [2] (aB (iV 1)) (.nm 0) aJ dS)) ae))) (ah (aY (aC dEq (iV 0) (iC (.str "both"))) (aM (jK (aC dEq (iV 3) (iCB a8 (aa (iV 1) ae))) (iC (.int 1)) (iC (.int 0)))) aQ) (aM (jK (aC dEq (iOp gA (iV 3) (iC (.int 2))) (iC (.int 1))) (iUn ie (iC (.int 1))) (iC (.int 1))))))
def jT:Fn:=bj 4 3 vf
def jy:Ef:=(bb (aa (iV 0) (aa (yd (iV 1) (iV 0)) ae)))
def jD:Tf:=(aC dNe (yd (iV 1) (iV 0)) (iC (.int 0)))
def sK:Sf:=(aM (bb (aa (iV 0) (aa (iCB gB (aa (aw (iLc 1 [1] (aB (aw (ly (iV 1)))) (.nm 0) jD jy)) ae)) ae))))
def i4:Fn:=bj 2 2 sK
def nD:Ef:=(bb (aa (iV 0) (aa (iOp rj (iV 1) (iV 2)) ae)))
def yV:Sf:=(aM (bb (aa (iOp dIx (iV 0) (iC (.int 0))) (aa (iCB gB (aa (aw (iLc 2 [1] (aB (iOp dIx (iV 0) (iC (.int 1)))) (.tp [0,1]) aJ nD)) ae)) ae))))
def oJ:Fn:=bj 2 2 yV
def nE:Ef:=(iV 1)
def yW:Sf:=(aM (aq oJ (aa (iV 0) (aa (aq br (aa (aw (iLc 2 [] (aB (iOp dIx (iV 0) (iC (.int 1)))) (.tp [0,1]) aJ nE)) ae)) ae))))
def oK:Fn:=bj 1 1 yW
def ir:Sf:=(aM (iOp a9 (aq gg (aa (iV 0) (aa (iV 3) ae))) (aq jT (aa (iV 1) (aa (iV 2) (aa (iV 3) ae))))))
def cY:Fn:=bj 4 4 ir
def fg:Ef:=(aq cY (aa (iV 1) (aa (iV 2) (aa (iV 0) (aa (iV 3) ae)))))
def fj:Ef:=(aw (iLc 1 [2,3,0] (aB (iV 1)) (.nm 0) aJ fg))
def mv:Sf:=(aM (aw (iLc 1 [2,0,1] (aB (aq bJ (aa (iV 0) ae))) (.nm 0) aJ fj)))
def dJ:Fn:=bj 3 3 mv
def vm:Ef:=(jK (aC dEq (iV 0) (iV 1)) (iC (.int 1)) (iC (.int 0)))
def yU:Sf:=(aM (aw (iLc 1 [0] (bD (aa (iV 1) ae)) (.nm 0) aJ vm)))
def kN:Fn:=bj 2 2 yU
def jx:Ef:=(iUn ie (iV 0))
def sJ:Sf:=(aM (iOp bf (aw (iCL ui (aa (iV 0) ae))) (aw (iLc 1 [] (aB (iV 0)) (.nm 0) aJ jx))))
def iZ:Fn:=bj 1 1 sJ
def fu:Sf:=(wx (iV 3) (iV 5) (iOp j6 (iOp dIx (iV 2) (iV 4)) (iOp dIx (iV 2) (iOp bf (iCB a8 (aa (iV 1) ae)) (iV 4)))))
def qk:Sf:=(ah (ay (.nm 3) C3) (ah (eY (bZ (aa (iV 1) ae)) (.tp [4,5]) fu) (aM (aq oK (aa (aq i4 (aa (iV 0) (aa (iV 3) ae))) ae)))))
def jk:Fn:=fR 6 3 qk
def iT:Sf:=(bP (iV 2) (iV 3) (iV 4))
def j0:Sf:=(ah (ay (.nm 2) (db (tO oz (aw (bT (aa (iC (.int 0)) ae))) (iCB a8 (aa (iV 0) ae))))) (ah (eY (dC (aa (aq bJ (aa (iV 0) ae)) (aa (iV 1) ae))) (.tp [3,4]) iT) (aM (iCB gB (aa (iV 2) ae)))))
def dX:Fn:=fR 5 2 j0
def gD:Ef:=(iCB gB (aa (iV 0) ae))
def gF:Ef:=(iOp bf (iOp a9 (aw (bT (aa (iC (.int 0)) ae))) (iOp a9 (iC (.int 2)) (iCB a8 (aa (iV 1) ae)))) (aq kN (aa (iV 0) (aa (iV 2) ae))))
def sd:Sf:=(ah (ay (.nm 6) (aw (iLc 1 [2,4] (bD (aa (iV 4) ae)) (.nm 0) aJ gF))) (ah (ay (.nm 7) (aq jj (aa (iCB gB (aa (aw (iLc 1 [] (aB (iOp bf (iV 5) (iV 6))) (.nm 0) aJ gD)) ae)) (aa (iOp bf (iOp a9 (bb (aa (iC (.int 0)) ae)) (iV 4)) (iOp a9 (bb (aa (iC (.int 1)) ae)) (iV 4))) (aa (iOp bf (iOp a9 (bb (aa (iC (.int 0)) ae)) (iOp a9 (iC (.int 2)) (iCB a8 (aa (iV 2) ae)))) (iOp a9 (bb (aa (iC (.int 1)) ae)) (iV 4))) ae))))) (aM (bb (aa (aq jk (aa (iV 1) (aa (iV 2) (aa (iOp dIx (iV 7) (iC (.int 2))) ae)))) (aa (aq di (aa (aq dX (aa (iV 0) (aa (iSl (iOp dIx (iV 7) (iC (.int 3))) iPn (iPs (iV 4))) ae))) ae)) ae))))))
def rA:Ef:=(iUn ie (iV 0))
def j8:Ef:=(iOp bf (aq iZ (aa (aw (iLc 1 [] (aB (iV 1)) (.nm 0) aJ rA)) ae)) (aq kN (aa (iV 0) (aa (iV 2) ae))))
def jG:Sf:=(ah (ay (.nm 3) (aq dJ (aa (iV 0) (aa (iV 1) (aa (iV 2) ae))))) (ah (ay (.nm 4) (iCB a8 (aa (iV 3) ae))) (ah (aY (aC dEq (iV 4) (iC (.int 0))) (aM (bb (aa (bb (aa (iV 1) (aa (bb ae) ae))) (aa (aq dX (aa (iV 0) (aa (bb ae) ae))) ae)))) aQ) (ah (ay (.nm 5) (aw (iLc 2 [4] (bZ (aa (iV 3) ae)) (.tp [0,1]) aJ j8))) sd))))
def eU:Fn:=bj 8 3 jG
def yX:Sf:=(ah (ay (.nm 3) (aq eU (aa (iV 0) (aa (iV 1) (aa (iV 2) ae))))) (ah (aY (cv cN (iCB DC (aa (iOp dIx (iV 3) (iC (.int 1))) ae))) (aM (bb (aa (iC (.str "bar")) (aa (iOp dIx (iV 3) (iC (.int 1))) ae)))) aQ) (aM (bb (aa (iC (.str "poly")) (aa (iOp dIx (iV 3) (iC (.int 0))) ae))))))
def kO:Fn:=bj 4 3 yX
def fH:Tf:=(aC dEq (iOp dIx (iV 5) (iC (.int 0))) (iC (.str "bar")))
def gu:Sf:=(ah (ay (.nm 3) (iOp dIx (iV 5) (iC (.int 1)))) (ah (ay (.nm 4) (iOp bf (iV 4) (iC (.int 1)))) (ay (.nm 5) (aq kO (aa (iV 0) (aa (iV 1) (aa (aq cI (aa (iV 2) (aa (iV 4) ae))) ae)))))))
def m4:Sf:=(ah (ay (.nm 2) (aq dm (aa (iV 0) ae))) (ah (ay (.nm 3) (iC .non)) (ah (ay (.nm 4) (iC (.int 0))) (ah (ay (.nm 5) (aq kO (aa (iV 0) (aa (iV 1) (aa (aq cI (aa (iV 2) (aa (iV 4) ae))) ae))))) (ah (lz (2^8000) fH gu) (aM (bb (aa (iV 4) (aa (iOp dIx (iV 5) (iC (.int 1))) (aa (iV 3) ae))))))))))
def b9:Fn:=bj 6 2 m4
def dG:Ef:=(iOp dGt (iOp dIx (iOp dIx (iV 1) (iC (.int 1))) (iV 0)) (iC (.int 0)))
def gv:Tf:=(dO (aC dLt (iV 4) (iV 2)) (cv cN (iCB sS (aa (aw (iLc 1 [5] (aB (aq bJ (aa (iV 0) ae))) (.nm 0) aJ dG)) ae))))
def hW:Sf:=(ah (ay (.nm 3) (iOp dIx (iV 5) (iC (.int 1)))) (ah (ay (.nm 4) (iOp bf (iV 4) (iC (.int 1)))) (ay (.nm 5) (aq eU (aa (iV 0) (aa (iV 1) (aa (aq cI (aa (iV 2) (aa (iV 4) ae))) ae)))))))
def pV:Sf:=(ah (ay (.nm 2) (aq dm (aa (iV 0) ae))) (ah (ay (.nm 3) (iC .non)) (ah (ay (.nm 4) (iC (.int 0))) (ah (ay (.nm 5) (aq eU (aa (iV 0) (aa (iV 1) (aa (aq cI (aa (iV 2) (aa (iV 4) ae))) ae))))) (ah (lz (2^8000) gv hW) (aM (bb (aa (iV 4) (aa (iOp dIx (iV 5) (iC (.int 0))) (aa (iV 3) ae))))))))))
def cx:Fn:=bj 6 2 pV
def qR:Sf:=(aM (zp (aa (db (iCL ui (aa (iV 0) ae))) (aa (iC (.int 0)) (aa (iC (.int 11)) (aa (iC (.int 0)) ae))))))
def gK:Fn:=bj 1 1 qR
def qQ:Sf:=(ah (ay (.nm 2) (iOp gA (iOp a9 (iOp bf (iOp bf (iOp gA (iV 0) (iC (.int 2147483629))) (iOp a9 (iC (.int 7927)) (iV 1))) (iC (.int 37))) (iC (.int 48271))) (iC (.int 2147483647)))) (aM (iOp gA (iOp a9 (iOp bf (iOp bf (iOp a9 (iV 2) (iV 2)) (iOp a9 (iC (.int 53)) (iV 1))) (iOp nu (iV 2) (iC (.int 17)))) (iC (.int 39373))) (iC (.int 2147483587)))))
def cV:Fn:=bj 3 2 qQ
def io:Sf:=(ah (cz (iV 0) (iC (.int 3)) (iOp bf (ig (iV 0) (iC (.int 3))) (iC (.int 1)))) (ah (aY (dO (aC dEq (ig (iV 0) (iC (.int 1))) (iC (.int 0))) (aC dNe (ig (iV 0) (iC (.int 0))) (aw (bT ae)))) (ah (ay (.nm 2) (cL vN (ig (iV 0) (iC (.int 0))) (aa (iC (.int 0)) ae))) (ah (cz (iV 0) (iC (.int 2)) (aq cV (aa (iOp bf (ig (iV 0) (iC (.int 2))) (iV 2)) (aa (iCB a8 (aa (ig (iV 0) (iC (.int 0))) ae)) ae)))) (aY (aC dGe (iCB vi (aa (iV 2) ae)) (iOp rm (iC (.int 10)) (iC (.int 18)))) (cz (iV 0) (iC (.int 1)) (iOp gA (iCB vi (aa (iV 2) ae)) (iOp a9 (iOp rm (iC (.int 10)) (iC (.int 60))) (iOp rm (iC (.int 10)) (iC (.int 60)))))) aQ))) aQ) (ah (aY (aC dGt (ig (iV 0) (iC (.int 1))) (iC (.int 0))) (ah (ay (.nm 3) (iOp gA (ig (iV 0) (iC (.int 1))) (iV 1))) (ah (cz (iV 0) (iC (.int 1)) (iOp nu (ig (iV 0) (iC (.int 1))) (iV 1))) (aM (iV 3)))) aQ) (aM (iOp gA (iOp nu (aq cV (aa (ig (iV 0) (iC (.int 2))) (aa (ig (iV 0) (iC (.int 3))) ae))) (iC (.int 64))) (iV 1))))))
def aH:Fn:=bj 4 2 io
def lY:Ef:=(iOp vj (iOp xV (iV 1) (iV 0)) (iC (.int 1)))
def xI:Sf:=(aM (iCB sU (aa (aw (iLc 1 [0] (aB (iV 1)) (.nm 0) aJ lY)) ae)))
def d8:Fn:=bj 2 2 xI
def e8:Ef:=(iOp dIx (aw (bT (aa (iV 0) (aa (iV 0) (aa (iC .non) ae))))) (aq aH (aa (iV 1) (aa (iC (.int 3)) ae))))
def cQ:Ef:=(iOp dIx (iV 1) (aq d8 (aa (iV 0) (aa (aw (mx (aa (iV 2) ae))) ae))))
def cR:Ef:=(aq aH (aa (iV 1) (aa (iC (.int 2)) ae)))
def cS:Ef:=(iOp gA (iOp bf (aq d8 (aa (iV 0) (aa (iV 1) ae))) (iV 2)) (iC (.int 2)))
def bU:Ef:=(iV 0)
def bW:Tf:=(aC dGt (aq aH (aa (iV 1) (aa (iC (.int 3)) ae))) (iC (.int 0)))
def eD:Ef:=(iOp dIx (iV 2) (iV 0))
def fD:Tf:=(aC dEq (iOp vj (iOp xV (iV 1) (iV 0)) (iC (.int 1))) (iC (.int 1)))
def cC:Ef:=(iCB Bp (aa (iOp dGt (iCB sU (aa (aw (iLc 1 [0,2] (bD (aa (iV 1) ae)) (.nm 0) fD eD)) ae)) (iOp dIx (iV 2) (iV 1))) ae))
def cD:Ef:=(iOp j6 (aq aH (aa (iV 1) (aa (iC (.int 7)) ae))) (iC (.int 3)))
def cE:Ef:=(aq aH (aa (iV 1) (aa (iC (.int 2)) ae)))
def mo:Sf:=(ah (zt 2 3 (aa (aq aH (aa (iV 0) (aa (iC (.int 6)) ae))) (aa (aw (mx (aa (iOp xU (iC (.int 1)) (iV 1)) ae))) ae))) (ah (aY (aC dEq (iV 2) (iC (.int 0))) (ah (ay (.nm 4) (aw (iLc 1 [0] (bD (aa (iOp bf (iV 1) (iC (.int 1))) ae)) (.nm 0) aJ cR))) (ay (.nm 5) (aw (iLc 1 [4,1] (aB (iV 3)) (.nm 0) aJ cQ)))) (aY (aC dEq (iV 2) (iC (.int 1))) (ah (ay (.tp [6,7]) (bb (aa (aw (iLc 1 [0] (bD (aa (iV 1) ae)) (.nm 0) bW bU)) (aa (aq aH (aa (iV 0) (aa (iC (.int 2)) ae))) ae)))) (ay (.nm 5) (aw (iLc 1 [6,7] (aB (iV 3)) (.nm 0) aJ cS)))) (aY (aC dEq (iV 2) (iC (.int 2))) (ah (ay (.nm 8) (aw (iLc 1 [0] (bD (aa (iOp bf (iV 1) (iC (.int 1))) ae)) (.nm 0) aJ cD))) (ay (.nm 5) (aw (iLc 1 [1,8] (aB (iV 3)) (.nm 0) aJ cC)))) (ay (.nm 5) (aw (iLc 1 [0] (aB (iV 3)) (.nm 0) aJ cE)))))) (ah (aY (aC dEq (aq aH (aa (iV 0) (aa (iC (.int 4)) ae))) (iC (.int 0))) (ay (.nm 5) (aw (iLc 1 [0] (aB (iV 5)) (.nm 0) aJ e8))) aQ) (aM (iCB gB (aa (iV 5) ae))))))
def dI:Fn:=bj 9 2 mo
def cT:Ef:=(iV 0)
def c9:Tf:=(aC dEq (iOp vj (iOp xV (iV 1) (iV 0)) (iC (.int 1))) (iC (.int 1)))
def iR:Sf:=(ah (ay (.nm 4) (iCB gB (aa (aw (iLc 1 [3] (bD (aa (iV 0) ae)) (.nm 0) c9 cT)) ae))) (aY (aC dLe (iCB a8 (aa (iV 4) ae)) (iV 1)) (eJ (cL bB (iV 2) (aa (iV 4) ae))) aQ))
def jX:Sf:=(ah (ay (.nm 2) (db (bT ae))) (ah (eY (bD (aa (iOp xU (iC (.int 1)) (iV 0)) ae)) (.nm 3) iR) (aM (iCB gB (aa (aw (iCL iQ (aa (iV 2) ae))) ae)))))
def cW:Fn:=fR 5 2 jX
def qT:Sf:=(ah (ay (.nm 3) (aq d8 (aa (iV 2) (aa (iV 1) ae)))) (ah (aY (aC dEq (iV 0) (iC (.str "both"))) (aM (iCB Bp (aa (iOp dEq (iV 3) (iCB a8 (aa (iV 1) ae))) ae))) aQ) (aM (iOp j6 (iC (.int 1)) (iOp a9 (iC (.int 2)) (iOp gA (iV 3) (iC (.int 2))))))))
def dW:Fn:=bj 4 3 qT
def lX:Ef:=(iOp a9 (iV 1) (aq dW (aa (iOp dIx (iV 2) (iC (.int 0))) (aa (iV 0) (aa (iV 3) ae)))))
def xH:Sf:=(aM (iCB sU (aa (aw (iLc 2 [0,1] (aB (iOp dIx (iV 0) (iC (.int 1)))) (.tp [0,1]) aJ lX)) ae)))
def lK:Fn:=bj 2 2 xH
def iB:Ef:=(iOp a9 (iOp j6 (iOp a9 (iC (.int 2)) (iV 1)) (iC (.int 1))) (aq lK (aa (iV 2) (aa (iV 0) ae))))
def je:Tf:=(aC nv (iV 1) (iC .non))
def qS:Sf:=(aM (aw (iLc 2 [1] (bZ (aa (iV 0) ae)) (.tp [0,1]) je iB)))
def gL:Fn:=bj 2 2 qS
def kJ:Sf:=(aY (aC nv (iV 6) (iC .non)) (ay (.nm 4) (iOp bf (iV 4) (iOp a9 (iOp a9 (iOp dIx (iV 3) (iV 5)) (iOp j6 (iOp a9 (iC (.int 2)) (iV 6)) (iC (.int 1)))) (aq dW (aa (iV 1) (aa (iV 2) (aa (iV 5) ae))))))) aQ)
def vd:Sf:=(ah (ay (.nm 4) (iC (.int 0))) (ah (eY (bZ (aa (iV 0) ae)) (.tp [5,6]) kJ) (aM (iV 4))))
def jS:Fn:=bj 7 4 vd
def qU:Sf:=(aM (nK (iCB mw (aa (iV 0) (aa (iC (.ty "int")) ae))) (zq (iCB mw (aa (iV 0) (aa (iC (.ty "bool")) ae))))))
def ce:Fn:=bj 1 1 qU
def df:Ef:=(aq ce (aa (iV 0) ae))
def ge:Sf:=(ah (aY (dh (cM (cv cN (iCB mw (aa (iV 4) (aa (iC (.ty "tuple")) ae))))) (dh (aC dNe (iCB a8 (aa (iV 4) ae)) (iC (.int 2))) (dh (cM (cv cN (aq ce (aa (iOp dIx (iV 4) (iC (.int 1))) ae)))) (aC dEq (iOp dIx (iV 4) (iC (.int 1))) (iC (.int 0)))))) (aM (iC (.bl false))) aQ) (ah (aY (dh (cM (cv cN (iCB mw (aa (iOp dIx (iV 4) (iC (.int 0))) (aa (iC (.ty "tuple")) ae))))) (dh (cM (cv cN (iCB sS (aa (aw (iLc 1 [] (aB (iOp dIx (iV 4) (iC (.int 0)))) (.nm 0) aJ df)) ae)))) (aC mE (iOp dIx (iV 4) (iC (.int 0))) (iV 1)))) (aM (iC (.bl false))) aQ) (ah (aY (dO (aC dNe (iV 3) (aw (bT ae))) (cM (aC vk (iOp dIx (iV 3) (iUn ie (iC (.int 1)))) (iOp dIx (iV 4) (iC (.int 0)))))) (aM (iC (.bl false))) aQ) (eJ (cL bB (iV 3) (aa (iOp dIx (iV 4) (iC (.int 0))) ae))))))
def im:Sf:=(ah (aY (dh (cM (cv cN (iCB mw (aa (iV 2) (aa (iC (.ty "tuple")) ae))))) (dh (aC dNe (iCB a8 (aa (iV 2) ae)) (iC (.int 2))) (dh (cM (cv cN (iCB mw (aa (iOp dIx (iV 2) (iC (.int 0))) (aa (iC (.ty "str")) ae))))) (aC dNe (iOp dIx (iV 2) (iC (.int 0))) (iV 0))))) (aM (iC (.bl false))) aQ) (ah (aY (cM (cv cN (iCB mw (aa (iOp dIx (iV 2) (iC (.int 1))) (aa (iC (.ty "tuple")) ae))))) (aM (iC (.bl false))) aQ) (ah (ay (.nm 3) (db (bT ae))) (ah (eY (aB (iOp dIx (iV 2) (iC (.int 1)))) (.nm 4) ge) (aM (iC (.bl true)))))))
def eO:Fn:=fR 5 3 im
def dD:Sf:=(aY (dh (cM (cv cN (aq ce (aa (iV 3) ae)))) (dh (aC dLt (iV 3) (iC (.int 0))) (dO (aC iy (iV 2) (iC .non)) (aC dGt (iV 3) (iC (.int 0)))))) (aM (iC (.bl false))) aQ)
def jE:Sf:=(ah (aY (dh (cM (cv cN (iCB mw (aa (iV 1) (aa (iC (.ty "tuple")) ae))))) (aC dNe (iCB a8 (aa (iV 1) ae)) (iCB a8 (aa (iV 0) ae)))) (aM (iC (.bl false))) aQ) (ah (eY (dC (aa (iV 0) (aa (iV 1) ae))) (.tp [2,3]) dD) (aM (iC (.bl true)))))
def cH:Fn:=bj 4 2 jE
def dF:Ef:=(iCB a8 (aa (iV 0) ae))
def pT:Sf:=(aM (iCB dMx (aa (iOp bf (aw (bT (aa (iC (.int 0)) ae))) (aw (iLc 2 [] (aB (iOp dIx (iV 0) (iC (.int 1)))) (.tp [0,1]) aJ dF))) ae)))
def fP:Fn:=bj 1 1 pT
def fL:Ef:=(iOp dEq (aq jS (aa (iV 1) (aa (iV 2) (aa (iV 0) (aa (iV 3) ae))))) (iC (.int 0)))
def sH:Sf:=(ah (aY (aC dEq (iV 3) (iC (.int 0))) (aM (iOp iy (iV 4) (iC .non))) aQ) (ah (aY (dh (cM (cv cN (aq cH (aa (iV 0) (aa (iV 4) ae))))) (aC dEq (iCB za (aa (iV 4) ae)) (iC (.int 0)))) (aM (iC (.bl false))) aQ) (aM (iCB sS (aa (aw (iLc 1 [0,1,4] (aB (aq cW (aa (iV 2) (aa (iOp j6 (iV 3) (iC (.int 1))) ae)))) (.nm 0) aJ fL)) ae)))))
def iX:Fn:=bj 5 5 sH
def vb:Sf:=(aM (nK (aq ce (aa (iV 2) ae)) (nK (aq eO (aa (iV 0) (aa (aq cW (aa (iV 1) (aa (iV 1) ae))) (aa (iV 3) ae)))) (iOp dEq (aq fP (aa (iV 3) ae)) (iV 2)))))
def jR:Fn:=bj 4 4 vb
def bM:Ef:=(zr (iOp iy (iV 0) (iC .non)) (iOp dGt (iV 1) (iC (.int 0))))
def mZ:Sf:=(ah (aY (dh (cM (cv cN (iCB mw (aa (iV 3) (aa (iC (.ty "tuple")) ae))))) (dh (aC dNe (iCB a8 (aa (iV 3) ae)) (iC (.int 3))) (cM (cv cN (aq jR (aa (iV 1) (aa (iV 2) (aa (iOp dIx (iV 3) (iC (.int 0))) (aa (iOp dIx (iV 3) (iC (.int 1))) ae))))))))) (aM (iC (.bl false))) aQ) (ah (ay (.nm 4) (aq gL (aa (iV 0) (aa (iOp dIx (iV 3) (iC (.int 1))) ae)))) (ah (aY (dh (aC dLt (iCB dMi (aa (iV 4) ae)) (iC (.int 0))) (dh (aC dEq (iCB dMx (aa (iV 4) ae)) (iC (.int 0))) (cM (cv cN (aq iX (aa (iV 0) (aa (iV 1) (aa (iV 2) (aa (iOp dIx (iV 3) (iC (.int 0))) (aa (iOp dIx (iV 3) (iC (.int 2))) ae)))))))))) (aM (iC (.bl false))) aQ) (ah (aY (aC dEq (iOp dIx (iV 3) (iC (.int 0))) (iC (.int 0))) (aM (iC (.bl true))) aQ) (aM (iCB sS (aa (aw (iLc 2 [] (dC (aa (iV 0) (aa (iOp dIx (iV 3) (iC (.int 2))) ae))) (.tp [0,1]) aJ bM)) ae)))))))
def eP:Fn:=bj 5 4 mZ
def iq:Sf:=(ah (ay (.nm 2) (aq dI (aa (iV 0) (aa (iV 1) ae)))) (ah (aY (aC dEq (iV 2) (iOp a9 (bb (aa (iC .non) ae)) (iCB a8 (aa (iV 2) ae)))) (ah (ay (.nm 3) (aq aH (aa (iV 0) (aa (iCB a8 (aa (iV 2) ae)) ae)))) (ay (.nm 2) (iOp bf (iOp bf (iSl (iV 2) iPn (iPs (iV 3))) (bb (aa (aq aH (aa (iV 0) (aa (iC (.int 2)) ae))) ae))) (iSl (iV 2) (iPs (iOp bf (iV 3) (iC (.int 1)))) iPn)))) aQ) (aM (iV 2))))
def iY:Fn:=bj 4 2 iq
def kK:Sf:=(ah (ay (.nm 7) (aq cx (aa (iV 4) (aa (iV 6) ae)))) (ah (aY (dh (cM (cv cN (aq eP (aa (iV 4) (aa (iV 6) (aa (iV 3) (aa (iV 7) ae))))))) (dO (aC dLt (iV 3) (iC (.int 4))) (aC dNe (aq cx (aa (iV 4) (aa (iV 6) ae))) (iV 7)))) (aM (iC (.bl false))) aQ) (eJ (cL bB (iV 5) (aa (iOp dIx (iV 7) (iC (.int 0))) ae)))))
def wF:Sf:=(ah (ay (.nm 3) (iOp dIx (aw (bT (aa (iOp dIx (aw (bT (aa (iC (.int 4)) (aa (iC (.int 3)) (aa (iC (.int 3)) (aa (iC (.int 2)) (aa (iC (.int 3)) (aa (iC (.int 2)) (aa (iC (.int 1)) (aa (iC (.int 0)) ae)))))))))) (aq aH (aa (iV 1) (aa (iC (.int 8)) ae)))) (aa (aq aH (aa (iV 1) (aa (iC (.int 3)) ae))) ae)))) (iV 2))) (ah (ay (.nm 4) (aq iY (aa (iV 1) (aa (iV 3) ae)))) (ah (ay (.nm 5) (db (bT ae))) (ah (eY (aB (bb (aa (iC (.str "both")) (aa (iC (.str "odd")) ae)))) (.nm 6) kK) (aY (dh (aC dNe (iOp dIx (iV 5) (iC (.int 0))) (iOp dIx (iV 5) (iC (.int 1)))) (dO (aC dLt (iV 3) (iC (.int 4))) (aC dGt (iOp dIx (iV 5) (iC (.int 0))) (iOp dIx (aq b9 (aa (iV 4) (aa (iC (.str "odd")) ae))) (iC (.int 0)))))) (aM (iC (.bl false))) aQ)))))
def Fs:Sf:=(ah (ay (.nm 1) (aq gK (aa (iV 0) ae))) (ah (eY (bD (aa (iC (.int 2)) ae)) (.nm 2) wF) (aM (iC (.bl true)))))
def uq:Fn:=fR 8 1 Fs
end Own
section
set_option maxHeartbeats 0
namespace Own
open PySem L2
def top (i:Nat):Stmt:=PySem.Challenge.pw_signpoly_k39_weak_degrees_told.main.body.getD i (.Pass ⟨0,0,0,0⟩)
def Bo (s:Stmt):List Stmt:=match s with
 |.ClassDef _ _ _ b _ _ _ _ _ _ _=>b
 |_=>[]
abbrev cj:Stmt:=(Bo (top 10)).getD 0 (.Pass ⟨0,0,0,0⟩)
theorem qe:cy ["self","rows","bounds","gains"] ["self","rows","bounds","gains"] (au cj):=⟨U,U,U,by decide +kernel,U,by decide +kernel,by decide +kernel⟩
abbrev rT (x:Str) (i:Nat) (N:List Str) (k:Nat):Str×Nat×List Str×Nat:=(x,i,N,k)
def tbl:List (Str×Nat×List Str×Nat):=[rT "power_of_two" 1 ["k","power","step"] 1,rT "on_in" 2 ["row","k"] 2,rT "greatest_part" 3 ["numbers","found","number","rest","over"] 1,rT "lowered" 4 ["numbers","shared"] 1,rT "switches_of" 6 ["f","many","rows"] 1,rT "told_rows" 7 ["f"] 1,rT "sign_at" 8 ["f","row"] 2,rT "least_ratio" 11 ["places","tops","bottoms","least","place","mine","best"] 3,rT "weighed" 12 ["table"] 1,rT "numbers_by" 13 ["table","name","column"] 2,rT "leaving" 14 ["table","column","entries","places","name"] 2,rT "gains_more" 15 ["table","one","other","mine","best","name","numbers","more"] 3,rT "best_step" 16 ["table","best","column","step"] 1,rT "swept" 17 ["line","turning","column","part","pivot","entry","told"] 4,rT "exchange" 18 ["table","place","column","turning","part","lines","name"] 3,rT "way_of" 19 ["table","column","way","place","name"] 2,rT "amounts_of" 20 ["table","amounts","place","name"] 1,rT "prices_of" 21 ["table","prices","column","name"] 1,rT "found_most" 22 ["table","amounts","prices","shared"] 1,rT "most_of" 23 ["rows","bounds","gains","table","step"] 3,rT "terms_to" 25 ["n","size","terms","k"] 2,rT "value_of" 26 ["kind","term","row","many"] 3,rT "poly_from" 28 ["kind","numbers"] 2,rT "parted" 30 ["poly","number"] 2,rT "shrunk" 31 ["poly"] 1,rT "signed_value" 33 ["f","kind","term","row"] 4,rT "signed_values" 34 ["f","kind","terms"] 3,rT "one_at" 36 ["place","many"] 2,rT "both_ways" 37 ["numbers"] 1,rT "poly_by" 38 ["kind","terms","amounts","numbers","place","term"] 3,rT "weights_by" 39 ["f","numbers","weights","row","number"] 2,rT "split_of" 40 ["f","kind","terms","values","many","earned","limits","most"] 3,rT "solved" 41 ["f","kind","terms","split"] 3,rT "least_degree" 43 ["f","kind","n","bar","degree","answer"] 2,rT "weak_degree" 44 ["f","kind","n","weights","degree","split"] 2,rT "_law_purse" 46 ["_law_script"] 1,rT "_law_mixed" 47 ["_law_number","_law_turn","_law_once"] 2,rT "_law_pick" 48 ["_law_purse_here","_law_many","_law_cell","_law_digit"] 2,rT "_law_on" 49 ["_law_row","_law_some"] 2,rT "_law_function" 50 ["_law_purse_here","_law_n","_law_way","_law_rows","_law_by_count","_law_values","_law_some","_law_last","_law_numbers"] 2,rT "_law_terms" 51 ["_law_n","_law_most","_law_found","_law_row","_law_term"] 2,rT "_law_value" 52 ["_law_kind","_law_term","_law_row","_law_count"] 3,rT "_law_at" 53 ["_law_poly","_law_row"] 2,rT "_law_right" 54 ["_law_f","_law_poly"] 2,rT "_law_sum" 55 ["_law_f","_law_kind","_law_term","_law_weights","_law_found","_law_row","_law_value_here"] 4,rT "_law_whole" 56 ["_law_thing"] 1,rT "_law_is_poly" 57 ["_law_kind","_law_terms_here","_law_thing","_law_ahead","_law_part"] 3,rT "_law_are_weights" 58 ["_law_f","_law_thing","_law_value_here","_law_weight"] 2,rT "_law_degree" 59 ["_law_poly"] 1,rT "_law_bars" 60 ["_law_f","_law_kind","_law_n","_law_degree_here","_law_thing"] 5,rT "_law_has" 61 ["_law_kind","_law_n","_law_degree_here","_law_poly"] 4,rT "_law_is_weak" 62 ["_law_f","_law_kind","_law_n","_law_thing","_law_values"] 4,rT "_law_told" 63 ["_law_purse_here","_law_n","_law_f","_law_at_here"] 2,rT "law" 64 ["_law_script","_law_purse_here","_law_turn","_law_n","_law_f","_law_degrees","_law_kind","_law_told_here"] 1]
def tR (i:Nat):Str×Nat×List Str×Nat:=tbl.getD i ("",0,[],0)
def tN (i:Nat):Str:=(tR i).1
def tS (i:Nat):Stmt:=top (tR i).2.1
def tV (i:Nat):List Str:=(tR i).2.2.1
def tK (i:Nat):Nat:=(tR i).2.2.2
theorem scs:∀ p∈tbl,cy p.2.2.1 (p.2.2.1.take p.2.2.2) (au (top p.2.1)):=by
 iterate 54 refine qc6.2 ⟨⟨U,U,U,by decide +kernel,U,by decide +kernel,by decide +kernel⟩,?_⟩
 exact λ_ h=>nomatch h
structure Txt (K:qae) (mg:Str->Option Value):Prop where
 F:∀ p∈tbl,∃ f g,Fun K p.1 p.1 (top p.2.1) f g/\mg p.1=some (.ref f)/\dq K g (p.2.2.1.take p.2.2.2) []
 z:∀ x∈(["abs","all","any","bool","enumerate","int","isinstance","len","list","max","min","range","sorted","str","sum","tuple","zip"]:List Str),mg x=none
 c:∃ a f g,mg "Table" = some (.ref a)/\Fun K "__init__" "Table.__init__" cj f g/\dq K g ["self","rows","bounds","gains"] []/\Mk K a f/\Cls K a/\∀ p∈cb,cA K a p.1
section
variable {P:qaQ}{w:World}{K:qae}{mg:Str->Option Value}{base:Heap}
theorem CL {i:Nat} (h:i<54):tR i∈tbl:=by
 unfold tR;rw[qaA,qam (show i<tbl.length from h)];exact qbQ _
abbrev Bd (P:qaQ) (w:World) (K:qae) (mg:Str->Option Value) (base:Heap) (k i:Nat) (b:Sf):Prop:=∀ (f:Addr) (d:Value) (A:qa1) (outer:List Env) (s:qaj) (H:Hp) (E:XK),bz k (A.deeper (qjy (tN i) (au (tS i)) s.heap.objs.size f d))->(fV CX0 P w K mg base (tV i) (tN i) (au (tS i)) f d A outer s H E).nox.N=tV i->(fV CX0 P w K mg base (tV i) (tN i) (au (tS i)) f d A outer s H E).nox.env.scope.names=(au (tS i)).names->(tV i).Nodup->ISs K (fV CX0 P w K mg base (tV i) (tN i) (au (tS i)) f d A outer s H E).nox (aW (tS i)) b
abbrev Ck (P:qaQ) (w:World) (K:qae) (mg:Str->Option Value) (base:Heap) (i j:Nat) (m:Fn):Prop:=Cal P w K mg base (tN i) j m
theorem y4 {i k:Nat}{b:Sf} (T:Txt K mg) (hi:i<54) (hb:Bd P w K mg base k i b):Ck P w K mg base i (k+1) (bj (tV i).length ((tV i).take (tK i)).length b):=by
 obtain⟨f,g,F,m,B⟩:=T.F (tR i) (CL hi);exact Fx F (scs _ (CL hi)) m B (hb f)
theorem y7 {i k:Nat}{b:Sf} (T:Txt K mg) (hi:i<54) (hb:Bd P w K mg base k i b):Ck P w K mg base i (k+1) (fR (tV i).length ((tV i).take (tK i)).length b):=by
 obtain⟨f,g,F,m,B⟩:=T.F (tR i) (CL hi);exact Fy F (scs _ (CL hi)) m B (hb f)
theorem kX {f:Addr}{g:qb6} (T:Txt K mg) (F:Fun K "__init__" "Table.__init__" cj f g):dP P w K mg base CX0 1 f g ["self","rows","bounds","gains"] (CF K ["self","rows","bounds","gains"].length ["self","rows","bounds","gains"].length cb):=
 FD (N:=["self","rows","bounds","gains"]) (ps:=["self","rows","bounds","gains"]) (k:=0) (g:=cb) F qe (by decide) (λ_ _ _ _ _ _ hr=>(iI U (by first|exact Or.inl U|exact Or.inr (Or.inl U)|exact Or.inr (Or.inr U)) (qw (fJ U) U (T.z _ (by decide)) qbg (bA (iv 3) b0 U) (by decide) (by decide) U U) (iI U (by first|exact Or.inl U|exact Or.inr (Or.inl U)|exact Or.inr (Or.inr U)) (dk (zw (uj (au cj).names ["self","rows","bounds","gains"] ["row","bound"] 2 [] U U U (by decide +kernel)) U (by decide) (lD U (T.z _ (by decide)) (bA (iv 1) (bA (iv 2) b0 U) U) U U U) (λ_ _ _ _ _=>(lB (eK (fB (i:=0) (show qhC (α:=Str) ["row","bound"] by decide +kernel) U (by first|exact Or.inl U|exact Or.inr U)) (eK (fB (i:=1) (show qhC (α:=Str) ["row","bound"] by decide +kernel) U (by first|exact Or.inl U|exact Or.inr U)) jh)) U U U U U)) (λ_ _ _ _ _=>gI) (λ_ _ _ _ _=>(l6 (i7 U) (dk (C4 (gz U) U (T.z _ (by decide)) qaM (bA (iv 0) b0 U) (by decide) (by decide) U U)) (dk (jM (bA (iv 1) b0 U))))) (λ_=>rfl))) (iI U (by first|exact Or.inl U|exact Or.inr (Or.inl U)|exact Or.inr (Or.inr U)) (l6 (i7 U) (dk (zw (uj (au cj).names ["self","rows","bounds","gains"] ["gain"] 1 [] U U U (by decide +kernel)) U (by decide) (lC (iv 3) U) (λ_ _ _ _ _=>(jg (fB (i:=0) (show qhC (α:=Str) ["gain"] by decide +kernel) U (by first|exact Or.inl U|exact Or.inr U)))) (λ_ _ _ _ _=>gI) (λ_ _ _ _ _=>(lA (iv 0))) (λ_=>rfl))) (dk (jM (bA jL b0 U)))) (iI U (by first|exact Or.inl U|exact Or.inr (Or.inl U)|exact Or.inr (Or.inr U)) jL (iI U (by first|exact Or.inl U|exact Or.inr (Or.inl U)|exact Or.inr (Or.inr U)) (jN (lE U (T.z _ (by decide)) U (T.z _ (by decide)) (bA (qw (fJ U) U (T.z _ (by decide)) qbg (bA (iv 3) b0 U) (by decide) (by decide) U U) b0 U) U U)) (BA U (by first|exact Or.inl U|exact Or.inr (Or.inl U)|exact Or.inr (Or.inr U)) (jN (lF U (T.z _ (by decide)) U (T.z _ (by decide)) (bA (qw (fJ U) U (T.z _ (by decide)) qbg (bA (iv 3) b0 U) (by decide) (by decide) U U) (bA (l6 (i7 U) (qw (fJ U) U (T.z _ (by decide)) qbg (bA (iv 3) b0 U) (by decide) (by decide) U U) (qw (fJ U) U (T.z _ (by decide)) qbg (bA (iv 1) b0 U) (by decide) (by decide) U U)) b0 U) U) U U U)) U U) (by intro z;cases z) U U) (by intro z;cases z) U U) (by intro z;cases z) U U) (by intro z;cases z) U U) (by intro z;cases z) U U))
theorem scL:cy ["_law_script","_law_purse_here","_law_turn","_law_n","_law_f","_law_degrees","_law_kind","_law_told_here"] ["_law_script"] (au (top 64)):=scs (rT "law" 64 ["_law_script","_law_purse_here","_law_turn","_law_n","_law_f","_law_degrees","_law_kind","_law_told_here"] 1) (by decide +kernel)
theorem BU (T:Txt K mg):Ck P w K mg base 0 1 eS/\Ck P w K mg base 1 2 rS/\Ck P w K mg base 2 1 br/\Ck P w K mg base 3 2 di/\Ck P w K mg base 4 1 dm/\Ck P w K mg base 5 1 bJ/\Ck P w K mg base 6 1 gg/\Ck P w K mg base 7 1 fQ/\Ck P w K mg base 8 1 d9/\Ck P w K mg base 9 1 cX/\Ck P w K mg base 10 2 ji/\Ck P w K mg base 11 2 cf/\Ck P w K mg base 12 3 bO:=by
 obtain⟨a,O,Q,c1,c2,c3,M,V,R⟩:=T.c;have S:=kX (P:=P) (w:=w) (base:=base) T c2
 repeat' first
  |assumption
  |exact rfl
  |decide
  |exact Or.inl rfl
  |exact Or.inr rfl
  |exact Or.inr (Or.inl rfl)
  |exact Or.inr (Or.inr rfl)
  |apply kD
  |apply kE
  |apply f7
  |apply iM
  |apply lE
  |apply lF
  |apply b0
  |apply bA
  |apply jL
  |apply iv
  |apply l6
  |apply oi
  |(apply qgM;apply fN;(case hsw=>exact U);(case hns=>assumption);(case hN=>assumption);(case h=>decide +kernel))
  |(apply qgc;apply fN;(case hsw=>exact U);(case hns=>assumption);(case hN=>assumption);(case h=>decide +kernel))
  |apply oj
  |apply tY
  |apply tW
  |apply kf
  |apply om
  |apply t8
  |apply nZ
  |(apply n4;(case hns=>assumption);(case hN=>assumption);(case h=>decide +kernel))
  |apply kj
  |apply ki
  |apply lD
  |apply lC
  |apply nU
  |apply tQ
  |apply nY
  |apply gI
  |apply kF
  |apply oh
  |apply iK
  |apply ub
  |apply kH
  |apply oq
  |apply iN
  |apply kG
  |apply on
  |apply lA
  |apply tU
  |apply nM
  |apply jM
  |apply t5
  |apply kB
  |apply iL
  |apply ky
  |apply kx
  |apply iJ
  |apply ku
  |apply kq
  |(apply kC;(case hns=>assumption);(case hN=>assumption);(case h=>decide +kernel))
  |apply iG (N:=["self","rows","bounds","gains"]) (ps:=["self","rows","bounds","gains"])
  |refine iF rfl (by assumption) (by assumption) ?_ ?_ ?_ ?_ ?_ ?_
  |refine fY rfl (by assumption) (by assumption) ?_ ?_ ?_ ?_ ?_ ?_
  |refine tT (by with_reducible first|exact qba|exact qa9|exact qa8|exact qa0|exact qa7|exact qaK|exact qaM|exact qa6|exact qa5|exact qaT|exact qa4|exact qa3|exact qaY|exact qbg) ?_ ?_ ?_ ?_ ?_ ?_ ?_ ?_ ?_
  |refine t4 (by with_reducible first|exact qba|exact qa9|exact qa8|exact qa0|exact qa7|exact qaK|exact qaM|exact qa6|exact qa5|exact qaT|exact qa4|exact qa3|exact qaY|exact qbg) ?_ ?_ ?_ ?_ ?_ ?_ ?_ ?_ ?_
  |apply nL
  |apply fX
  |apply nO
  |apply nP
  |apply nQ
  |apply kg
  |apply kh
  |apply nV
  |apply nW
  |apply tX
  |apply nX
  |refine tZ ?_ ?_ (by with_reducible first|exact qba|exact qa9|exact qa8|exact qa0|exact qa7|exact qaK|exact qaM|exact qa6|exact qa5|exact qaT|exact qa4|exact qa3|exact qaY|exact qbg) ?_ ?_
  |apply iH
  |apply og
  |refine kz (λ_ h=>pi U (by assumption) U U (by decide) U U h U) ?_
  |apply kA
  |apply fZ
  |apply dk
  |apply jN
  |apply oo
  |exact T.z _ (by decide)
  |exact qdM
  |exact nomark _
  |exact λ_=>rfl
  |with_reducible first|apply i7|apply oR|apply uA|apply kU|apply oS|apply uB|apply uC|apply uD|apply oT|apply uE|apply qC|apply oU|apply oV|apply oW|apply uF|apply gj|apply kW|apply oX|apply oY|apply oZ|apply o0|apply o9|apply ng|apply nh|apply ni|apply nj|apply nk|apply fJ|apply sN|apply sO|apply no|apply nq|apply gz|apply iw|apply j5
  |apply fB
  |apply jh
  |apply eK
  |apply jg
  |apply lB
  |apply ad
  |(apply y4 T;(case hi=>decide);unfold Bd;(conv in (occs:=*) tV _=>whnf);(conv in (occs:=*) au _=>whnf);(conv in aW _=>whnf);intros)
  |(apply y7 T;(case hi=>decide);unfold Bd;(conv in (occs:=*) tV _=>whnf);(conv in (occs:=*) au _=>whnf);(conv in aW _=>whnf);intros)
  |(refine tE (by assumption) scL ?_;(conv in aW _=>whnf);intros)
  |intro
theorem Ec (T:Txt K mg):Ck P w K mg base 13 1 kP/\Ck P w K mg base 14 2 eQ/\Ck P w K mg base 15 3 kQ/\Ck P w K mg base 16 1 gM/\Ck P w K mg base 17 1 i5/\Ck P w K mg base 18 2 gN/\Ck P w K mg base 19 4 jj/\Ck P w K mg base 20 1 cI/\Ck P w K mg base 21 3 jT/\Ck P w K mg base 22 1 i4/\Ck P w K mg base 23 1 oJ/\Ck P w K mg base 24 2 oK/\Ck P w K mg base 25 4 cY:=by
 obtain⟨h0,Y,h2,h3,W,h5,h6,h7,h8,h9,e,l,n⟩:=BU (P:=P) (w:=w) (base:=base) T;obtain⟨a,O,Q,c1,c2,c3,M,V,R⟩:=T.c;have S:=kX (P:=P) (w:=w) (base:=base) T c2
 repeat' first
  |assumption
  |exact rfl
  |decide
  |exact Or.inl rfl
  |exact Or.inr rfl
  |exact Or.inr (Or.inl rfl)
  |exact Or.inr (Or.inr rfl)
  |apply kD
  |apply kE
  |apply f7
  |apply iM
  |apply lE
  |apply lF
  |apply b0
  |apply bA
  |apply jL
  |apply iv
  |apply l6
  |apply oi
  |(apply qgM;apply fN;(case hsw=>exact U);(case hns=>assumption);(case hN=>assumption);(case h=>decide +kernel))
  |(apply qgc;apply fN;(case hsw=>exact U);(case hns=>assumption);(case hN=>assumption);(case h=>decide +kernel))
  |apply oj
  |apply tY
  |apply tW
  |apply kf
  |apply om
  |apply t8
  |apply nZ
  |(apply n4;(case hns=>assumption);(case hN=>assumption);(case h=>decide +kernel))
  |apply kj
  |apply ki
  |apply lD
  |apply lC
  |apply nU
  |apply tQ
  |apply nY
  |apply gI
  |apply kF
  |apply oh
  |apply iK
  |apply ub
  |apply kH
  |apply oq
  |apply iN
  |apply kG
  |apply on
  |apply lA
  |apply tU
  |apply nM
  |apply jM
  |apply t5
  |apply kB
  |apply iL
  |apply ky
  |apply kx
  |apply iJ
  |apply ku
  |apply kq
  |(apply kC;(case hns=>assumption);(case hN=>assumption);(case h=>decide +kernel))
  |apply iG (N:=["self","rows","bounds","gains"]) (ps:=["self","rows","bounds","gains"])
  |refine iF rfl (by assumption) (by assumption) ?_ ?_ ?_ ?_ ?_ ?_
  |refine fY rfl (by assumption) (by assumption) ?_ ?_ ?_ ?_ ?_ ?_
  |refine tT (by with_reducible first|exact qba|exact qa9|exact qa8|exact qa0|exact qa7|exact qaK|exact qaM|exact qa6|exact qa5|exact qaT|exact qa4|exact qa3|exact qaY|exact qbg) ?_ ?_ ?_ ?_ ?_ ?_ ?_ ?_ ?_
  |refine t4 (by with_reducible first|exact qba|exact qa9|exact qa8|exact qa0|exact qa7|exact qaK|exact qaM|exact qa6|exact qa5|exact qaT|exact qa4|exact qa3|exact qaY|exact qbg) ?_ ?_ ?_ ?_ ?_ ?_ ?_ ?_ ?_
  |apply nL
  |apply fX
  |apply nO
  |apply nP
  |apply nQ
  |apply kg
  |apply kh
  |apply nV
  |apply nW
  |apply tX
  |apply nX
  |refine tZ ?_ ?_ (by with_reducible first|exact qba|exact qa9|exact qa8|exact qa0|exact qa7|exact qaK|exact qaM|exact qa6|exact qa5|exact qaT|exact qa4|exact qa3|exact qaY|exact qbg) ?_ ?_
  |apply iH
  |apply og
  |refine kz (λ_ h=>pi U (by assumption) U U (by decide) U U h U) ?_
  |apply kA
  |apply fZ
  |apply dk
  |apply jN
  |apply oo
  |exact T.z _ (by decide)
  |exact qdM
  |exact nomark _
  |exact λ_=>rfl
  |with_reducible first|apply i7|apply oR|apply uA|apply kU|apply oS|apply uB|apply uC|apply uD|apply oT|apply uE|apply qC|apply oU|apply oV|apply oW|apply uF|apply gj|apply kW|apply oX|apply oY|apply oZ|apply o0|apply o9|apply ng|apply nh|apply ni|apply nj|apply nk|apply fJ|apply sN|apply sO|apply no|apply nq|apply gz|apply iw|apply j5
  |apply fB
  |apply jh
  |apply eK
  |apply jg
  |apply lB
  |apply ad
  |(apply y4 T;(case hi=>decide);unfold Bd;(conv in (occs:=*) tV _=>whnf);(conv in (occs:=*) au _=>whnf);(conv in aW _=>whnf);intros)
  |(apply y7 T;(case hi=>decide);unfold Bd;(conv in (occs:=*) tV _=>whnf);(conv in (occs:=*) au _=>whnf);(conv in aW _=>whnf);intros)
  |(refine tE (by assumption) scL ?_;(conv in aW _=>whnf);intros)
  |intro
theorem Gd (T:Txt K mg):Ck P w K mg base 26 5 dJ/\Ck P w K mg base 27 1 kN/\Ck P w K mg base 28 1 iZ/\Ck P w K mg base 29 3 jk/\Ck P w K mg base 30 2 dX/\Ck P w K mg base 31 6 eU/\Ck P w K mg base 32 7 kO/\Ck P w K mg base 33 8 b9/\Ck P w K mg base 34 7 cx/\Ck P w K mg base 35 1 gK/\Ck P w K mg base 36 1 cV/\Ck P w K mg base 37 2 aH/\Ck P w K mg base 38 1 d8:=by
 obtain⟨h0,Y,h2,h3,W,h5,h6,h7,h8,h9,e,l,n⟩:=BU (P:=P) (w:=w) (base:=base) T;obtain⟨J,G,q,o,u,C,y,D,t,r,I,L,v⟩:=Ec (P:=P) (w:=w) (base:=base) T;obtain⟨a,O,Q,c1,c2,c3,M,V,R⟩:=T.c;have S:=kX (P:=P) (w:=w) (base:=base) T c2
 repeat' first
  |assumption
  |exact rfl
  |decide
  |exact Or.inl rfl
  |exact Or.inr rfl
  |exact Or.inr (Or.inl rfl)
  |exact Or.inr (Or.inr rfl)
  |apply kD
  |apply kE
  |apply f7
  |apply iM
  |apply lE
  |apply lF
  |apply b0
  |apply bA
  |apply jL
  |apply iv
  |apply l6
  |apply oi
  |(apply qgM;apply fN;(case hsw=>exact U);(case hns=>assumption);(case hN=>assumption);(case h=>decide +kernel))
  |(apply qgc;apply fN;(case hsw=>exact U);(case hns=>assumption);(case hN=>assumption);(case h=>decide +kernel))
  |apply oj
  |apply tY
  |apply tW
  |apply kf
  |apply om
  |apply t8
  |apply nZ
  |(apply n4;(case hns=>assumption);(case hN=>assumption);(case h=>decide +kernel))
  |apply kj
  |apply ki
  |apply lD
  |apply lC
  |apply nU
  |apply tQ
  |apply nY
  |apply gI
  |apply kF
  |apply oh
  |apply iK
  |apply ub
  |apply kH
  |apply oq
  |apply iN
  |apply kG
  |apply on
  |apply lA
  |apply tU
  |apply nM
  |apply jM
  |apply t5
  |apply kB
  |apply iL
  |apply ky
  |apply kx
  |apply iJ
  |apply ku
  |apply kq
  |(apply kC;(case hns=>assumption);(case hN=>assumption);(case h=>decide +kernel))
  |apply iG (N:=["self","rows","bounds","gains"]) (ps:=["self","rows","bounds","gains"])
  |refine iF rfl (by assumption) (by assumption) ?_ ?_ ?_ ?_ ?_ ?_
  |refine fY rfl (by assumption) (by assumption) ?_ ?_ ?_ ?_ ?_ ?_
  |refine tT (by with_reducible first|exact qba|exact qa9|exact qa8|exact qa0|exact qa7|exact qaK|exact qaM|exact qa6|exact qa5|exact qaT|exact qa4|exact qa3|exact qaY|exact qbg) ?_ ?_ ?_ ?_ ?_ ?_ ?_ ?_ ?_
  |refine t4 (by with_reducible first|exact qba|exact qa9|exact qa8|exact qa0|exact qa7|exact qaK|exact qaM|exact qa6|exact qa5|exact qaT|exact qa4|exact qa3|exact qaY|exact qbg) ?_ ?_ ?_ ?_ ?_ ?_ ?_ ?_ ?_
  |apply nL
  |apply fX
  |apply nO
  |apply nP
  |apply nQ
  |apply kg
  |apply kh
  |apply nV
  |apply nW
  |apply tX
  |apply nX
  |refine tZ ?_ ?_ (by with_reducible first|exact qba|exact qa9|exact qa8|exact qa0|exact qa7|exact qaK|exact qaM|exact qa6|exact qa5|exact qaT|exact qa4|exact qa3|exact qaY|exact qbg) ?_ ?_
  |apply iH
  |apply og
  |refine kz (λ_ h=>pi U (by assumption) U U (by decide) U U h U) ?_
  |apply kA
  |apply fZ
  |apply dk
  |apply jN
  |apply oo
  |exact T.z _ (by decide)
  |exact qdM
  |exact nomark _
  |exact λ_=>rfl
  |with_reducible first|apply i7|apply oR|apply uA|apply kU|apply oS|apply uB|apply uC|apply uD|apply oT|apply uE|apply qC|apply oU|apply oV|apply oW|apply uF|apply gj|apply kW|apply oX|apply oY|apply oZ|apply o0|apply o9|apply ng|apply nh|apply ni|apply nj|apply nk|apply fJ|apply sN|apply sO|apply no|apply nq|apply gz|apply iw|apply j5
  |apply fB
  |apply jh
  |apply eK
  |apply jg
  |apply lB
  |apply ad
  |(apply y4 T;(case hi=>decide);unfold Bd;(conv in (occs:=*) tV _=>whnf);(conv in (occs:=*) au _=>whnf);(conv in aW _=>whnf);intros)
  |(apply y7 T;(case hi=>decide);unfold Bd;(conv in (occs:=*) tV _=>whnf);(conv in (occs:=*) au _=>whnf);(conv in aW _=>whnf);intros)
  |(refine tE (by assumption) scL ?_;(conv in aW _=>whnf);intros)
  |intro
theorem Hi (T:Txt K mg):Ck P w K mg base 39 3 dI/\Ck P w K mg base 40 1 cW/\Ck P w K mg base 41 2 dW/\Ck P w K mg base 42 3 lK/\Ck P w K mg base 43 4 gL/\Ck P w K mg base 44 3 jS/\Ck P w K mg base 45 1 ce/\Ck P w K mg base 46 2 eO/\Ck P w K mg base 47 2 cH/\Ck P w K mg base 48 1 fP/\Ck P w K mg base 49 4 iX/\Ck P w K mg base 50 3 jR/\Ck P w K mg base 51 5 eP:=by
 obtain⟨h0,Y,h2,h3,W,h5,h6,h7,h8,h9,e,l,n⟩:=BU (P:=P) (w:=w) (base:=base) T;obtain⟨J,G,q,o,u,C,y,D,t,r,I,L,v⟩:=Ec (P:=P) (w:=w) (base:=base) T;obtain⟨h26,h27,h28,h29,h30,h31,h32,X,h34,h35,h36,h37,h38⟩:=Gd (P:=P) (w:=w) (base:=base) T;obtain⟨a,O,Q,c1,c2,c3,M,V,R⟩:=T.c;have S:=kX (P:=P) (w:=w) (base:=base) T c2
 repeat' first
  |assumption
  |exact rfl
  |decide
  |exact Or.inl rfl
  |exact Or.inr rfl
  |exact Or.inr (Or.inl rfl)
  |exact Or.inr (Or.inr rfl)
  |apply kD
  |apply kE
  |apply f7
  |apply iM
  |apply lE
  |apply lF
  |apply b0
  |apply bA
  |apply jL
  |apply iv
  |apply l6
  |apply oi
  |(apply qgM;apply fN;(case hsw=>exact U);(case hns=>assumption);(case hN=>assumption);(case h=>decide +kernel))
  |(apply qgc;apply fN;(case hsw=>exact U);(case hns=>assumption);(case hN=>assumption);(case h=>decide +kernel))
  |apply oj
  |apply tY
  |apply tW
  |apply kf
  |apply om
  |apply t8
  |apply nZ
  |(apply n4;(case hns=>assumption);(case hN=>assumption);(case h=>decide +kernel))
  |apply kj
  |apply ki
  |apply lD
  |apply lC
  |apply nU
  |apply tQ
  |apply nY
  |apply gI
  |apply kF
  |apply oh
  |apply iK
  |apply ub
  |apply kH
  |apply oq
  |apply iN
  |apply kG
  |apply on
  |apply lA
  |apply tU
  |apply nM
  |apply jM
  |apply t5
  |apply kB
  |apply iL
  |apply ky
  |apply kx
  |apply iJ
  |apply ku
  |apply kq
  |(apply kC;(case hns=>assumption);(case hN=>assumption);(case h=>decide +kernel))
  |apply iG (N:=["self","rows","bounds","gains"]) (ps:=["self","rows","bounds","gains"])
  |refine iF rfl (by assumption) (by assumption) ?_ ?_ ?_ ?_ ?_ ?_
  |refine fY rfl (by assumption) (by assumption) ?_ ?_ ?_ ?_ ?_ ?_
  |refine tT (by with_reducible first|exact qba|exact qa9|exact qa8|exact qa0|exact qa7|exact qaK|exact qaM|exact qa6|exact qa5|exact qaT|exact qa4|exact qa3|exact qaY|exact qbg) ?_ ?_ ?_ ?_ ?_ ?_ ?_ ?_ ?_
  |refine t4 (by with_reducible first|exact qba|exact qa9|exact qa8|exact qa0|exact qa7|exact qaK|exact qaM|exact qa6|exact qa5|exact qaT|exact qa4|exact qa3|exact qaY|exact qbg) ?_ ?_ ?_ ?_ ?_ ?_ ?_ ?_ ?_
  |apply nL
  |apply fX
  |apply nO
  |apply nP
  |apply nQ
  |apply kg
  |apply kh
  |apply nV
  |apply nW
  |apply tX
  |apply nX
  |refine tZ ?_ ?_ (by with_reducible first|exact qba|exact qa9|exact qa8|exact qa0|exact qa7|exact qaK|exact qaM|exact qa6|exact qa5|exact qaT|exact qa4|exact qa3|exact qaY|exact qbg) ?_ ?_
  |apply iH
  |apply og
  |refine kz (λ_ h=>pi U (by assumption) U U (by decide) U U h U) ?_
  |apply kA
  |apply fZ
  |apply dk
  |apply jN
  |apply oo
  |exact T.z _ (by decide)
  |exact qdM
  |exact nomark _
  |exact λ_=>rfl
  |with_reducible first|apply i7|apply oR|apply uA|apply kU|apply oS|apply uB|apply uC|apply uD|apply oT|apply uE|apply qC|apply oU|apply oV|apply oW|apply uF|apply gj|apply kW|apply oX|apply oY|apply oZ|apply o0|apply o9|apply ng|apply nh|apply ni|apply nj|apply nk|apply fJ|apply sN|apply sO|apply no|apply nq|apply gz|apply iw|apply j5
  |apply fB
  |apply jh
  |apply eK
  |apply jg
  |apply lB
  |apply ad
  |(apply y4 T;(case hi=>decide);unfold Bd;(conv in (occs:=*) tV _=>whnf);(conv in (occs:=*) au _=>whnf);(conv in aW _=>whnf);intros)
  |(apply y7 T;(case hi=>decide);unfold Bd;(conv in (occs:=*) tV _=>whnf);(conv in (occs:=*) au _=>whnf);(conv in aW _=>whnf);intros)
  |(refine tE (by assumption) scL ?_;(conv in aW _=>whnf);intros)
  |intro
theorem Hj (T:Txt K mg):Ck P w K mg base 52 4 iY/\∀ f g,Fun K "law" "law" (top 64) f g->dP P w K mg base CX0 9 f g ["_law_script"] (spI K uq):=by
 obtain⟨h0,Y,h2,h3,W,h5,h6,h7,h8,h9,e,l,n⟩:=BU (P:=P) (w:=w) (base:=base) T;obtain⟨J,G,q,o,u,C,y,D,t,r,I,L,v⟩:=Ec (P:=P) (w:=w) (base:=base) T;obtain⟨h26,h27,h28,h29,h30,h31,h32,X,h34,h35,h36,h37,h38⟩:=Gd (P:=P) (w:=w) (base:=base) T;obtain⟨h39,h40,h41,h42,h43,h44,h45,h46,h47,h48,h49,h50,h51⟩:=Hi (P:=P) (w:=w) (base:=base) T;obtain⟨a,O,Q,c1,c2,c3,M,V,R⟩:=T.c;have S:=kX (P:=P) (w:=w) (base:=base) T c2
 repeat' first
  |assumption
  |exact rfl
  |decide
  |exact Or.inl rfl
  |exact Or.inr rfl
  |exact Or.inr (Or.inl rfl)
  |exact Or.inr (Or.inr rfl)
  |apply kD
  |apply kE
  |apply f7
  |apply iM
  |apply lE
  |apply lF
  |apply b0
  |apply bA
  |apply jL
  |apply iv
  |apply l6
  |apply oi
  |(apply qgM;apply fN;(case hsw=>exact U);(case hns=>assumption);(case hN=>assumption);(case h=>decide +kernel))
  |(apply qgc;apply fN;(case hsw=>exact U);(case hns=>assumption);(case hN=>assumption);(case h=>decide +kernel))
  |apply oj
  |apply tY
  |apply tW
  |apply kf
  |apply om
  |apply t8
  |apply nZ
  |(apply n4;(case hns=>assumption);(case hN=>assumption);(case h=>decide +kernel))
  |apply kj
  |apply ki
  |apply lD
  |apply lC
  |apply nU
  |apply tQ
  |apply nY
  |apply gI
  |apply kF
  |apply oh
  |apply iK
  |apply ub
  |apply kH
  |apply oq
  |apply iN
  |apply kG
  |apply on
  |apply lA
  |apply tU
  |apply nM
  |apply jM
  |apply t5
  |apply kB
  |apply iL
  |apply ky
  |apply kx
  |apply iJ
  |apply ku
  |apply kq
  |(apply kC;(case hns=>assumption);(case hN=>assumption);(case h=>decide +kernel))
  |apply iG (N:=["self","rows","bounds","gains"]) (ps:=["self","rows","bounds","gains"])
  |refine iF rfl (by assumption) (by assumption) ?_ ?_ ?_ ?_ ?_ ?_
  |refine fY rfl (by assumption) (by assumption) ?_ ?_ ?_ ?_ ?_ ?_
  |refine tT (by with_reducible first|exact qba|exact qa9|exact qa8|exact qa0|exact qa7|exact qaK|exact qaM|exact qa6|exact qa5|exact qaT|exact qa4|exact qa3|exact qaY|exact qbg) ?_ ?_ ?_ ?_ ?_ ?_ ?_ ?_ ?_
  |refine t4 (by with_reducible first|exact qba|exact qa9|exact qa8|exact qa0|exact qa7|exact qaK|exact qaM|exact qa6|exact qa5|exact qaT|exact qa4|exact qa3|exact qaY|exact qbg) ?_ ?_ ?_ ?_ ?_ ?_ ?_ ?_ ?_
  |apply nL
  |apply fX
  |apply nO
  |apply nP
  |apply nQ
  |apply kg
  |apply kh
  |apply nV
  |apply nW
  |apply tX
  |apply nX
  |refine tZ ?_ ?_ (by with_reducible first|exact qba|exact qa9|exact qa8|exact qa0|exact qa7|exact qaK|exact qaM|exact qa6|exact qa5|exact qaT|exact qa4|exact qa3|exact qaY|exact qbg) ?_ ?_
  |apply iH
  |apply og
  |refine kz (λ_ h=>pi U (by assumption) U U (by decide) U U h U) ?_
  |apply kA
  |apply fZ
  |apply dk
  |apply jN
  |apply oo
  |exact T.z _ (by decide)
  |exact qdM
  |exact nomark _
  |exact λ_=>rfl
  |with_reducible first|apply i7|apply oR|apply uA|apply kU|apply oS|apply uB|apply uC|apply uD|apply oT|apply uE|apply qC|apply oU|apply oV|apply oW|apply uF|apply gj|apply kW|apply oX|apply oY|apply oZ|apply o0|apply o9|apply ng|apply nh|apply ni|apply nj|apply nk|apply fJ|apply sN|apply sO|apply no|apply nq|apply gz|apply iw|apply j5
  |apply fB
  |apply jh
  |apply eK
  |apply jg
  |apply lB
  |apply ad
  |(apply y4 T;(case hi=>decide);unfold Bd;(conv in (occs:=*) tV _=>whnf);(conv in (occs:=*) au _=>whnf);(conv in aW _=>whnf);intros)
  |(apply y7 T;(case hi=>decide);unfold Bd;(conv in (occs:=*) tV _=>whnf);(conv in (occs:=*) au _=>whnf);(conv in aW _=>whnf);intros)
  |(refine tE (by assumption) scL ?_;(conv in aW _=>whnf);intros)
  |intro
end
end Own
end
namespace L2
open PySem
def cu:Nat->List (List Int)
 |0=>[[]]
 |n+1=>cu n++(cu n).map λt=>t++[(n:Int)]
def xF (n:Nat):List (List Int):=ax (cu n)
theorem ke:∀ n,(cu n).length=2^n
 |0=>rfl
 |n+1=>by rw[cu,qaB,qah,ke n];lia
def Trm (n:Nat) (t:List Int):Prop:=t.Pairwise (·<·)/\∀ k∈t,0<=k/\k<n
theorem Trm.mono {n m:Nat}{t:List Int} (h:Trm n t) (hn:n<=m):Trm m t:=⟨h.1,λk a=>⟨(h.2 k a).1,by have:=(h.2 k a).2;lia⟩⟩
theorem eI:∀ (n:Nat) {t:List Int},t∈cu n->Trm n t
 |0,t,h=>by
  rw[cu,qal]at h;subst h;exact⟨List.Pairwise.nil,λk c=>by cases c⟩
 |n+1,t,h=>by
  rcases qaO.mp h with h|h
  ·exact (eI n h).mono (qc2 n)
  ·obtain⟨u,d,rfl⟩:=qaD.mp h
   have:=eI n d
   refine⟨List.pairwise_append.mpr ⟨this.1,qgt _ _,λa e b hb=>?_⟩,λk c=>?_⟩
   ·rw[qal.mp hb];exact (this.2 a e).2
   ·rcases qaO.mp c with c|c
    ·exact⟨(this.2 k c).1,by have:=(this.2 k c).2;lia⟩
    ·rw[qal.mp c];lia
theorem sv {n:Nat}{t:List Int} (h:Trm n t):t.length<=n:=by
 have b:∀ (t:List Int) (a:Int),t.Pairwise (·<·)->(∀ k∈t,a<=k/\k<n)->(t.length)<=max 0 ((n) - a):=by
  intro t
  induction t with
  |nil=>intro a _ _;simp;lia
  |cons x t e=>
   intro a d hm;have f:=hm x qag
   have:=e _ (qbl.mp d).2 λk c=>⟨(qbl.mp d).1 k c,(hm k (qai _ c)).2⟩
   rw[qaq];lia
 have:=b t 0 h.1 h.2
 lia
theorem jB (p:List Int->Bool) (l:List (List Int)):ax (l.filter p)=(ax l).filter p:=
 gY ((aK _).trans ((aK l).symm.filter p)) (bR _) ((bR l).filter p)
def dU (m:Int):Nat->List (List Int)
 |0=>[[]]
 |n+1=>dU m n++((dU m n).filter λt=>decide ((t.length:Int)<m)).map λt=>t++[(n:Int)]
theorem mG (m:Int) (a:0<=m):∀ n,dU m n=(cu n).filter λt=>decide ((t.length:Int)<=m)
 |0=>by simp[dU,cu,a]
 |n+1=>by
  rw[dU,cu,qd6,mG m a n,List.filter_filter,qfX]
  congr 2
  refine qfs λt _=>?_
  simp
  lia
theorem tL (m:Int) (a:0<=m) (n:Nat):(dU m n).length<=2^n:=by
 rw[mG m a,<-ke n];exact qb9 _ _
def onI (row k:Int):Int:=row / 2^k.toNat%2
def bN (row:Int):List Int->Int
 |[]=>0
 |k::t=>onI row k+bN row t
theorem wS (row k:Int):onI row k=0\/onI row k=1:=by unfold onI;lia
theorem nr (row:Int):∀ t:List Int,(t.map (onI row)).sum=bN row t
 |[]=>rfl
 |k::t=>by rw[qaw,qcq,nr row t];rfl
theorem wm (row:Int):∀ t:List Int,0<=bN row t/\bN row t<=t.length
 |[]=>by simp[bN]
 |k::t=>by
  have a:=wm row t;rcases wS row k with e|e<;>(simp only[bN,e,qaq];lia)
def du (u:D):Prop:=u=.non\/u=.int 0\/u=.int 1
def bC:Nat->List D->List Int
 |_,[]=>[]
 |i,.non::r=>bC (i+1) r
 |i,_::r=>(i:Int)::bC (i+1) r
def sgD:D->Int
 |.int v=>if v=1 then 1 else -1
 |_=>1
theorem lQ:∀ (r:List D) (i:Nat) {j:Int},j∈bC i r->∃ m:Nat,j=((i+m:Nat):Int)/\m<r.length/\r[m]?≠some .non
 |[],i,j,h=>by cases h
 |d::r,i,j,h=>by
  have up:j∈bC _ r->∃ m:Nat,j=((i+m))/\m<(d::r).length/\(d::r)[m]?≠some .non:=λh=>by
   obtain⟨m,e,hm,hn⟩:=lQ r (i+1) h;exact⟨m+1,by lia,by simpa using hm,by simpa using hn⟩
  cases d with
  |non=>exact up h
  |_=>
   rcases qaz.mp h with rfl|h
   ·exact⟨0,by simp,by simp,by simp⟩
   ·exact up h
def Cw:D->Bool
 |.tup [_,v]=>!cw v
 |_=>false
def EQ:D->D
 |.tup [j,_]=>j
 |d=>d
theorem pI:∀ (r:List D) (i:Nat),((bY i r).filter Cw).map EQ=(bC i r).map D.int
 |[],i=>rfl
 |d::r,i=>by
  have a:=pI r (i+1);have b:bY i (d::r)=.tup [.int _,d]::bY _ r:=rfl;rw[b,qet];cases d<;>first
   |(exact a)
   |(rw[iFP (show Cw _=true from rfl),qaw,a];rfl)
theorem lP:∀ (r:List D) (i:Nat),(bC i r).length<=r.length
 |[],i=>qap _
 |d::r,i=>by
  have a:=lP r (i+1);cases d<;>first
   |(show (bC _ r).length<=r.length+1;lia)
   |(show (bC _ r).length+1<=r.length+1;lia)
abbrev Prt:=List Int×Int
def bQ (p:Prt):D:=.tup [ao p.1,.int p.2]
def bn (kd:Str) (ps:List Prt):D:=.tup [.str kd,.tup (ps.map bQ)]
theorem yz {ps:List Prt}{i:Nat}{d:D} (h:(ps.map bQ)[i]?=some d):∃ p,ps[i]?=some p/\d=.tup [ao p.1,.int p.2]:=by
 rw[qaC,qad]at h;obtain⟨p,a,rfl⟩:=h;exact⟨p,a,U⟩
theorem rV:∀ (ns:List Int) (m:Int),m<=gO ns m/\∀ n∈ns,n<=gO ns m
 |[],m=>⟨qb5 _,λ_ h=>by cases h⟩
 |n::ns,m=>by
  have b:=rV ns (if n > m then n else m);rw[gO];refine⟨qec ?_ b.1,λk a=>?_⟩
  ·split<;>lia
  ·rcases qaz.mp a with rfl|a
   ·split<;>lia
   ·exact b.2 k a
def dA:Nat->List Int->Nat
 |g,[]=>g
 |g,n::ns=>dA (qf6 g n.natAbs) ns
theorem tJ (n:Int):∀ (g:Nat) (ns:List Int),dA g (ns++[n])=qf6 (dA g ns) n.natAbs
 |g,[]=>rfl
 |g,m::ns=>tJ n _ ns
theorem dB:∀ (g:Nat) (ns:List Int),dA g ns∣g/\∀ n∈ns,dA g ns∣n.natAbs
 |g,[]=>⟨Nat.dvd_refl _,λ_ h=>by cases h⟩
 |g,m::ns=>by
  have a:=dB (qf6 g m.natAbs) ns;refine⟨qiF a.1 (Nat.gcd_dvd_left _ _),λn hn=>?_⟩;rcases qaz.mp hn with rfl|hn
  ·exact qiF a.1 (Nat.gcd_dvd_right _ _)
  ·exact a.2 n hn
theorem zk {ns:List Int}{n:Int} (hn:n∈ns) (b:n≠0):0<dA 0 ns/\dA 0 ns<=n.natAbs:=by
 have h:=(dB 0 ns).2 n hn;have a:0<n.natAbs:=by lia
 exact⟨Nat.pos_of_dvd_of_pos h a,Nat.le_of_dvd a h⟩
theorem wM {M:Int}:∀ (ns:List Int) (m:Int),m<=M->(∀ n∈ns,n<=M)->gO ns m<=M
 |[],m,hm,_=>hm
 |n::ns,m,hm,h=>by
  refine wM ns _ ?_ λk a=>h k (qai _ a)
  have:=h n qag
  split<;>lia
theorem ac {g:Sto->W->W->Option D}{a b:Ef}{env:Ev}{st s1 c:Sto}{x y:W}{d:D} (e:a env st=some (x,s1)) (hb:b env s1=some (y,c)) (hg:g c x y=some d):iOp g a b env st=some (.d d,c):=by
 simp only[iOp,e,hb,hg,qaa,qao]
theorem ak {g:Sto->W->W->Option D}{a b:Ef}{env:Ev}{st s1 c:Sto}{x y:W}{k:Bool} (d:a env st=some (x,s1)) (hb:b env s1=some (y,c)) (hg:g c x y=some (.bl k)):aC g a b env st=some (k,c):=by
 simp only[aC,d,hb,hg,qaa,xM,qao]
theorem gT {a b:Sf}{env e:Ev}{st s:Sto}{r:Fl} (c:a env st=some (.nx e s)) (hb:b e s=some r):ah a b env st=some r:=by
 simp only[ah,c,hb,qaa]
theorem xb {a b:Sf}{env:Ev}{st s:Sto}{w:W} (c:a env st=some (.rt w s)):ah a b env st=some (.rt w s):=by
 simp only[ah,c,qaa]
theorem aj {i:Nat}{f:Ef}{env:Ev}{st s:Sto}{w:W} (h:f env st=some (w,s)):ay (.nm i) f env st=some (.nx (env.set i (some w)) s):=by
 simp only[ay,h,qaa,eZ,qao]
theorem ag {m:Fn}{a:Af}{env:Ev}{st s:Sto}{ws:List W}{r:W×Sto} (b:a env st=some (ws,s)) (hm:m ws s=some r):aq m a env st=some r:=by
 simp only[aq,b,hm,qaa]
theorem aG {g:Sto->List W->Option D}{a:Af}{env:Ev}{st s:Sto}{ws:List W}{d:D} (b:a env st=some (ws,s)) (hm:g s ws=some d):iCB g a env st=some (.d d,s):=by
 simp only[iCB,b,hm,qaa,qao]
theorem ab {a:Ef}{b:Af}{env:Ev}{st s1 c:Sto}{x:W}{y:List W} (d:a env st=some (x,s1)) (hb:b env s1=some (y,c)):aa a b env st=some (x::y,c):=by
 simp only[aa,d,hb,qaa,qao]
theorem bq {a:Lf}{g:Tg}{b:Sf}{env:Ev}{st s:Sto}{ds:List D}{r:Fl} (h:a env st=some (ds,s)) (c:cn g b ds env s=some r):eY a g b env st=some r:=by
 simp only[eY,h,c,qaa]
theorem aF {f:Ef}{env:Ev}{st s:Sto}{w:W} (h:f env st=some (w,s)):aM f env st=some (.rt w s):=by
 simp only[aM,h,qao]
theorem Dk {c:Tf}{a b:Sf}{env:Ev}{st s:Sto}{r:Option Fl} (h:c env st=some (true,s)) (d:a env s=r):aY c a b env st=r:=by
 simp only[aY,h,qaa,if_true,d]
theorem Dj {c:Tf}{a b:Sf}{env:Ev}{st s:Sto}{r:Option Fl} (h:c env st=some (false,s)) (hb:b env s=r):aY c a b env st=r:=by
 simp only[aY,h,qaa,qbm,if_false,hb]
theorem aL {k:Nat}{js:List Nat}{b:Lf}{g:Tg}{tt:Tf}{te:Ef}{env:Ev}{st s c:Sto}{ds a:List D} (h:b env st=some (ds,s)) (e:ds.length<=1000000) (d:lcI g tt te (vn k js env) ds s=some (a,c)):iLc k js b g tt te env st=some (a,c):=by
 simp only[iLc,h,d,e,qaa,if_true]
theorem ar {a:Lf}{env:Ev}{st s:Sto}{ds:List D} (h:a env st=some (ds,s)):aw a env st=some (.d (.lst ds),s):=by
 simp only[aw,h,qao]
theorem av {n k:Nat}{b:Sf}{ws:List W}{st s:Sto}{w:W} (a:ws.length=k) (h:b (ws.map some++qay (n - k) none) st=some (.rt w s)):bj n k b ws st=some (w,s):=by
 simp only[bj,a,if_true,h,qaa]
theorem gn {n k:Nat}{b:Sf}{ws:List W}{st s:Sto}{x:D} (a:ws.length=k) (h:b (ws.map some++qay (n - k) none) st=some (.rt (.d x) s)):fR n k b ws st=some (.d x,s.take st.length):=by
 simp only[fR,a,if_true,h,qaa,zh]
theorem FT (n:Nat):ixN (n+1) 0=some 0:=Hc n
end L2
namespace Sx
abbrev Vec:=Nat->Int
def sumN:Nat->(Nat->Int)->Int
 |0,_=>0
 |n+1,f=>sumN n f+f n
theorem sumN_congr {n:Nat}{f g:Nat->Int} (h:∀ k,k<n->f k=g k):sumN n f=sumN n g:=by
 induction n with
 |zero=>rfl
 |succ n F=>rw[sumN,sumN,F λk H=>h k (by omega),h n (by omega)]
theorem sumN_add (n:Nat) (f g:Nat->Int):sumN n (λk=>f k+g k)=sumN n f+sumN n g:=by
 induction n with
 |zero=>rfl
 |succ n F=>rw[sumN,sumN,sumN];omega
theorem sumN_mul (n:Nat) (c:Int) (f:Nat->Int):sumN n (λk=>c*f k)=c*sumN n f:=by
 induction n with
 |zero=>simp[sumN]
 |succ n F=>rw[sumN,sumN,F,qcr]
theorem sumN_zero (n:Nat):sumN n (λ_=>0)=0:=by
 induction n with
 |zero=>rfl
 |succ n F=>rw[sumN,F];rfl
theorem sumN_single {n i:Nat} (hi:i<n) {f:Nat->Int} (h:∀ k,k<n->k≠i->f k=0):sumN n f=f i:=by
 induction n with
 |zero=>omega
 |succ n F=>
  rw[sumN];by_cases e:i=n
  ·subst e
   rw[sumN_congr λk H=>h k (by omega) (by omega),sumN_zero];omega
  ·rw[F (by omega) λk H s=>h k (by omega) s,h n (by omega) (by omega)];omega
theorem sumN_pair {n i j:Nat} (hi:i<n) (O:j<n) (X:i≠j) {f:Nat->Int} (h:∀ k,k<n->k≠i->k≠j->f k=0):sumN n f=f i+f j:=by
 have e:sumN n f=sumN n (λk=>(if k=i then f i else 0)+(if k=j then f j else 0)):=by
  refine sumN_congr λk H=>?_;by_cases J:k=i
  ·subst J;omega
  ·by_cases L:k=j
   ·subst L;omega
   ·rw[iFN J,iFN L,h k H J L];rfl
 rw[e,sumN_add,sumN_single hi λk _ s=>iFN s,sumN_single O λk _ s=>iFN s,iFP U,iFP U]
def skip (k j:Nat):Nat:=if j<k then j else j+1
def sg (k:Nat):Int:=if k%2=0 then 1 else -1
theorem sg_succ (k:Nat):sg (k+1)=- sg k:=by
 unfold sg;by_cases h:k%2=0
 ·rw[iFP h,iFN (by omega)]
 ·rw[iFN h,iFP (by omega)];rfl
def det:Nat->(Nat->Vec)->Int
 |0,_=>1
 |m+1,C=>sumN (m+1) λk=>sg k*C k 0*det m (λj t=>C (skip k j) (t+1))
theorem det_congr:∀ (m:Nat) {C E:Nat->Vec},(∀ k t,k<m->t<m->C k t=E k t)->det m C=det m E:=by
 intro m
 induction m with
 |zero=>intros;rfl
 |succ m F=>
  intro C E h;refine sumN_congr λk H=>?_;rw[h k 0 H (by omega),F λj t O ht=>h _ _ (by unfold skip;split<;>omega) (by omega)]
def upd (C:Nat->Vec) (i:Nat) (v:Vec):Nat->Vec:=λj=>if j=i then v else C j
theorem upd_same (C:Nat->Vec) (i:Nat) (v:Vec):upd C i v i=v:=iFP U
theorem upd_ne {C:Nat->Vec}{i j:Nat}{v:Vec} (h:j≠i):upd C i v j=C j:=iFN h
theorem upd_self (C:Nat->Vec) (i:Nat):upd C i (C i)=C:=by
 funext j
 by_cases h:j=i
 ·rw[h,upd_same]
 ·rw[upd_ne h]
theorem upd_upd (C:Nat->Vec) (i:Nat) (u v:Vec):upd (upd C i u) i v=upd C i v:=by
 funext j
 by_cases h:j=i
 ·rw[h,upd_same,upd_same]
 ·rw[upd_ne h,upd_ne h,upd_ne h]
theorem upd_comm {C:Nat->Vec}{i j:Nat}{u v:Vec} (h:i≠j):upd (upd C i u) j v=upd (upd C j v) i u:=by
 funext k
 by_cases J:k=i
 ·subst J;rw[upd_ne h,upd_same,upd_same]
 ·by_cases L:k=j
  ·subst L;rw[upd_same,upd_ne J,upd_same]
  ·rw[upd_ne L,upd_ne J,upd_ne J,upd_ne L]
def unskip (k i:Nat):Nat:=if i<k then i else i - 1
theorem skip_upd {C:Nat->Vec}{k i:Nat}{v:Vec} (h:k≠i):(λj t=>upd C i v (skip k j) (t+1))=upd (λj t=>C (skip k j) (t+1)) (unskip k i) (λt=>v (t+1)):=by
 funext j t
 unfold upd skip unskip;by_cases J:j<k<;>by_cases L:i<k<;>simp only[J,L,if_true,if_false]
 ·by_cases e:j=i
  ·rw[iFP e,iFP e]
  ·rw[iFN e,iFN e]
 ·rw[iFN (by omega),iFN (by omega)]
 ·rw[iFN (by omega),iFN (by omega)]
 ·by_cases e:j+1=i
  ·rw[iFP e,iFP (by omega)]
  ·rw[iFN e,iFN (by omega)]
theorem skip_self {C:Nat->Vec}{i:Nat}{v:Vec}:(λj t=>upd C i v (skip i j) (t+1))=λj t=>C (skip i j) (t+1):=by
 funext j t
 rw[upd_ne];unfold skip;split<;>omega
theorem det_add:∀ (m:Nat) (C:Nat->Vec) (i:Nat) (u v:Vec),i<m->det m (upd C i λt=>u t+v t)=det m (upd C i u)+det m (upd C i v):=by
 intro m
 induction m with
 |zero=>omega
 |succ m F=>
  intro C i u v hi;rw[det,det,det,<-sumN_add];refine sumN_congr λk H=>?_;by_cases e:k=i
  ·subst e
   rw[skip_self,skip_self,skip_self,upd_same,upd_same,upd_same,qcr,qev]
  ·rw[skip_upd e,skip_upd e,skip_upd e,upd_ne e,upd_ne e,upd_ne e,F _ _ _ _ (by unfold unskip;split<;>omega),qcr]
theorem det_mul:∀ (m:Nat) (C:Nat->Vec) (i:Nat) (c:Int) (u:Vec),i<m->det m (upd C i λt=>c*u t)=c*det m (upd C i u):=by
 intro m
 induction m with
 |zero=>omega
 |succ m F=>
  intro C i c u hi;rw[det,det,<-sumN_mul];refine sumN_congr λk H=>?_;by_cases e:k=i
  ·subst e
   rw[skip_self,skip_self,upd_same,upd_same];rw[show sg k*_=c*_ by rw[qaW],qbr]
  ·rw[skip_upd e,skip_upd e,upd_ne e,upd_ne e,F _ _ c _ (by unfold unskip;split<;>omega),qaW]
theorem det_adj:∀ (m:Nat) (C:Nat->Vec) (i:Nat),i+1<m->C i=C (i+1)->det m C=0:=by
 intro m
 induction m with
 |zero=>omega
 |succ m F=>
  intro C i hi h;rw[det,sumN_pair (i:=i) (by omega) (by omega) (by omega) λk H J L=>?_]
  ·have e:(λj t=>C (skip i j) (t+1))=λj t=>C (skip (i+1) j) (t+1):=by
    funext j t
    by_cases e:j=i
    ·subst e
     have a1:skip j j=j+1:=by unfold skip;rw[iFN (by omega)]
     have a2:skip (j+1) j=j:=by unfold skip;rw[iFP (by omega)]
     rw[a1,a2,h]
    ·have:skip i j=skip (i+1) j:=by
      unfold skip;by_cases J:j<i
      ·rw[iFP J,iFP (by omega)]
      ·rw[iFN J,iFN (by omega)]
     rw[this]
   rw[e,h,sg_succ];rw[<-qev,<-qev];rw[show sg i+-sg i=0 by omega]
   simp
  ·have hz:det m (λj t=>C (skip k j) (t+1))=0:=by
    by_cases l:k<i
    ·refine F _ (i - 1) (by omega) ?_
     funext t
     have a1:skip k (i - 1)=i:=by unfold skip;rw[iFN (by omega)];omega
     have a2:skip k (i - 1+1)=i+1:=by unfold skip;rw[iFN (by omega)];omega
     rw[a1,a2,h]
    ·refine F _ i (by omega) ?_
     funext t
     have a1:skip k i=i:=by unfold skip;rw[iFP (by omega)]
     have a2:skip k (i+1)=i+1:=by unfold skip;rw[iFP (by omega)]
     rw[a1,a2,h]
   rw[hz,qbc]
theorem det_swap {m:Nat} (C:Nat->Vec) {i:Nat} (hi:i+1<m):det m (upd (upd C i (C (i+1))) (i+1) (C i))=- det m C:=by
 have N:∀ u v ,det m (upd (upd C i u) (i+1) v)+det m (upd (upd C i v) (i+1) u)=0:=λu v=>by
  have W:det m (upd (upd C i λt=>u t+v t) (i+1) λt=>u t+v t)=0:=det_adj m _ i hi (by rw[upd_ne (by omega),upd_same,upd_same]);have hv:det m (upd (upd C i v) (i+1) v)=0:=det_adj m _ i hi (by rw[upd_ne (by omega),upd_same,upd_same]);rw[det_add m _ _ u v hi,upd_comm (by omega),upd_comm (v:=v) (by omega),det_add m _ i u v (by omega),det_add m _ i u v (by omega)]at W;rw[<-upd_comm (by omega),<-upd_comm (u:=v) (by omega),<-upd_comm (i:=i) (by omega),<-upd_comm (u:=v) (v:=v) (by omega),(det_adj m _ i hi (by rw[upd_ne (by omega),upd_same,upd_same]))]at W;omega
 have:=N (C i) (C (i+1))
 have e:upd (upd C i (C i)) (i+1) (C (i+1))=C:=by rw[upd_self,upd_self]
 rw[e]at this;omega
theorem det_same {m:Nat}:∀ (d:Nat) (C:Nat->Vec) (i j:Nat),j=i+d+1->j<m->C i=C j->det m C=0:=by
 intro d
 induction d with
 |zero=>intro C i j O hm h;subst O;exact det_adj m C i hm h
 |succ d F=>
  intro C i j O hm h;have hs:=det_swap (m:=m) C (i:=j - 1) (by omega);have e1:j - 1+1=j:=by omega
  rw[e1]at hs
  have:=F (upd (upd C (j - 1) _) j (C (j - 1))) i (j - 1) (by omega) (by omega) (by rw[upd_ne (by omega),upd_ne (by omega),upd_ne (by omega),upd_same,h])
  omega
theorem det_eq0 {m:Nat} (C:Nat->Vec) {i j:Nat} (hi:i<m) (O:j<m) (X:i≠j) (h:C i=C j):det m C=0:=by
 rcases Nat.lt_or_gt_of_ne X with J|J
 ·exact det_same (j - i - 1) C i j (by omega) O h
 ·exact det_same (i - j - 1) C j i (by omega) hi h.symm
theorem det_zero {m:Nat} (C:Nat->Vec) {i:Nat} (hi:i<m):det m (upd C i λ_=>0)=0:=by
 simpa using (det_mul m C i 0 (λ_=>0) hi)
theorem det_sum {m:Nat} (C:Nat->Vec) {i:Nat} (hi:i<m) (x:Nat->Int) (V:Nat->Vec):∀ n,det m (upd C i λt=>sumN n λk=>x k*V k t)=sumN n λk=>x k*det m (upd C i (V k)):=by
 intro n
 induction n with
 |zero=>exact det_zero C hi
 |succ n F=>
  have e:(λt=>sumN (n+1) λk=>x k*V k t)=λt=>_+x n*V n t:=rfl;rw[e,det_add m C i _ _ hi,F,det_mul m C i _ _ hi];rfl
theorem cramer {m:Nat} (B:Nat->Vec) (a:Vec) (p:Int) (x:Nat->Int) (h:∀ t,p*a t=sumN m λk=>x k*B k t) {i:Nat} (hi:i<m):p*det m (upd B i a)=x i*det m B:=by
 rw[<-det_mul m B i p a hi];rw[(funext h),det_sum B hi x B m,sumN_single hi λk H s=>?_,upd_self];rw[det_eq0 _ hi H (qbo s) (by rw[upd_same,upd_ne s]),qbc]
theorem cramer2 {m:Nat} (B:Nat->Vec) (a b:Vec) (p:Int) (hp:p=det m B) (hp0:p≠0) (x y:Nat->Int) (hx:∀ t,p*a t=sumN m λk=>x k*B k t) (hy:∀ t,p*b t=sumN m λk=>y k*B k t) {i r:Nat} (hi:i<m) (q:r<m) (o:i≠r) :
  p*det m (upd (upd B r a) i b)=x r*y i - x i*y r:=by
 have J:p*det m (upd (upd B r a) i b)=sumN m λk=>y k*det m (upd (upd B r a) i (B k)):=by
  rw[<-det_mul m _ i p b hi];rw[(funext hy),det_sum _ hi y B m]
 rw[J,sumN_pair hi q o λk H L h3=>?_]
 ·have e1:upd (upd B r a) i (B i)=upd B r a:=by
   have:(upd B r a) i=B i:=upd_ne o
   rw[<-this,upd_self]
  have e2:p*det m (upd B r a)=x r*p:=by rw[cramer B a p x hx q,<-hp]
  have e3:p*det m (upd (upd B r a) i (B r))=- (x i*p):=by
   rw[(upd_comm (qbo o)),<-det_mul m _ r p a q];rw[(funext hx),det_sum _ q x B m,sumN_single hi λk H s=>?_]
   ·-- columns i and r exchanged
    have hsw:det m (upd (upd B i (B r)) r (B i))=- det m B:=by
     have:=(λu v=>by
      have z:∀ w ,det m (upd (upd B i w) r w)=0:=λw=>det_eq0 _ hi q o (by rw[upd_ne o,upd_same,upd_same]);have W:=z λt=>u t+v t;rw[det_add m _ r u v q,upd_comm o,upd_comm o,det_add m _ i u v hi,det_add m _ i u v hi]at W;rw[<-upd_comm o,<-upd_comm o,<-upd_comm o,<-upd_comm o,z u,z v]at W
      omega) (B i) (B r)
     rw[show upd _ r (B r)=B by rw[upd_self,upd_self]]at this;omega
    rw[hsw,<-hp,qf8]
   ·by_cases Q:k=r
    ·subst Q
     rw[det_eq0 _ hi q o (by rw[upd_ne o,upd_same,upd_same]),qbc]
    ·rw[det_eq0 _ q H (qbo Q) (by rw[upd_same,upd_ne Q,upd_ne s]),qbc]
  rw[e1]
  have:p*(y i*det m (upd B r a)+y r*det m (upd (upd B r a) i (B r)))=p*(x r*y i - x i*y r):=by
   rw[qcr,qaW,e2,qaW p _,e3,qcK,qf8];rw[show y i*_=p*_ by rw[qaZ _,qbq,qaZ]];rw[show y r*_=p*(x i*y r) by rw[qaZ _,qbr,qaZ p _,<-qbr,qaZ _ p]];omega
  exact qei hp0 this
 ·rw[det_eq0 _ hi H (qbo L) (by rw[upd_same,upd_ne L,upd_ne h3]),qbc]
def unit (k:Nat):Vec:=λt=>if t=k then 1 else 0
theorem det_unit:∀ m,det m unit=1:=by
 intro m
 induction m with
 |zero=>rfl
 |succ m F=>
  rw[det,sumN_single (i:=0) (by omega) λk H s=>by rw[show unit k 0=0 by unfold unit;rw[iFN (by omega)]];simp];have e:(λj t=>unit (skip 0 j) (t+1))=unit:=by
   funext j t
   unfold unit skip;rw[iFN (by omega:¬ j<0)];by_cases h:t=j
   ·rw[iFP (by omega),iFP h]
   ·rw[iFN (by omega),iFN h]
  rw[e,F];rfl
structure Pb where
 m:Nat
 n:Nat
 A:Nat->Vec
 b:Vec
 g:Nat->Int
structure Tb where
 p:Int
 kept:Nat->Nat
 free:Nat->Nat
 T:Nat->Nat->Int
 G:Nat->Int
variable (P:Pb)
def colV (S:Tb) (c:Nat):Vec:=if c<P.n then P.A (S.free c) else P.b
def gainC (S:Tb) (c:Nat):Int:=if c<P.n then P.g (S.free c) else 0
def basis (S:Tb):Nat->Vec:=λi=>P.A (S.kept i)
structure Good (S:Tb):Prop where
 pos:0<S.p
 dt:S.p=det P.m (basis P S)
 eq:∀ c,c<=P.n->∀ t,S.p*colV P S c t=sumN P.m λi=>S.T i c*P.A (S.kept i) t
 goal:∀ c,c<=P.n->S.G c=(sumN P.m λi=>P.g (S.kept i)*S.T i c) - S.p*gainC P S c
def piv (S:Tb) (r e:Nat):Tb where
 p:=S.T r e
 kept:=λi=>if i=r then S.free e else S.kept i
 free:=λc=>if c=e then S.kept r else S.free c
 T:=λi c=>if i=r then (if c=e then S.p else S.T r c) else (if c=e then - S.T i e else (S.T r e*S.T i c - S.T i e*S.T r c) / S.p)
 G:=λc=>if c=e then - S.G e else (S.T r e*S.G c - S.G e*S.T r c) / S.p
variable {P}
theorem Good.entry {S:Tb} (h:Good P S) {c i:Nat} (M:c<=P.n) (hi:i<P.m):S.T i c=det P.m (upd (basis P S) i (colV P S c)):=by
 have:=cramer (basis P S) _ S.p _ (λt=>h.eq c M t) hi
 rw[<-h.dt,qaZ]at this;exact (qgk (by have:=h.pos;omega) this).symm
theorem Good.whole {S:Tb} (h:Good P S) {r e c i:Nat} (K:e<=P.n) (M:c<=P.n) (hi:i<P.m) (q:r<P.m) (o:i≠r):∃ d,S.T r e*S.T i c - S.T i e*S.T r c=S.p*d:=
 ⟨_,(cramer2 _ _ _ S.p h.dt (by have:=h.pos;omega) _ _ (λt=>h.eq e K t) (λt=>h.eq c M t) hi q o).symm⟩
theorem ediv_of {p a d:Int} (hp:0<p) (h:a=p*d):p*(a / p)=a:=by
 rw[h,qgw _ (by omega)]
theorem piv_T {S:Tb} (h:Good P S) {r e c i:Nat} (K:e<=P.n) (M:c<=P.n) (hi:i<P.m) (q:r<P.m) (o:i≠r) (D:c≠e):S.p*(piv S r e).T i c=S.T r e*S.T i c - S.T i e*S.T r c:=by
 obtain⟨d,hd⟩:=h.whole K M hi q o;show S.p*(if i=r then _ else _)=_;rw[iFN o,iFN D];exact ediv_of h.pos hd
theorem sumN_split {n r:Nat} (q:r<n) (f:Nat->Int):sumN n f=f r+sumN n (λk=>if k=r then 0 else f k):=by
 have e:sumN n f=sumN n (λk=>(if k=r then f r else 0)+(if k=r then 0 else f k)):=by
  refine sumN_congr λk H=>?_;by_cases h:k=r
  ·rw[h];omega
  ·omega
 rw[e,sumN_add,sumN_single q λk _ s=>iFN s,iFP U]
theorem sumN_sub (n:Nat) (f g:Nat->Int):sumN n (λk=>f k - g k)=sumN n f - sumN n g:=by
 induction n with
 |zero=>rfl
 |succ n F=>rw[sumN,sumN,sumN];omega
theorem piv_eq {S:Tb} (h:Good P S) {r e:Nat} (K:e<P.n) (q:r<P.m):∀ c,c<=P.n->∀ t,(piv S r e).p*colV P (piv S r e) c t=sumN P.m λi=>(piv S r e).T i c*P.A ((piv S r e).kept i) t:=by
 intro c M t;have hp:=h.pos;have R:=h.eq e (by omega) t;have hcE:colV P S e=P.A _:=iFP K;rw[hcE,sumN_split q]at R;have kr:(piv S r e).kept r=S.free e:=iFP U;have kn:∀ i,i≠r->(piv S r e).kept i=S.kept i:=λi hi=>iFN hi;rw[sumN_split q,kr];by_cases D:c=e
 ·subst D
  have c1:colV P (piv S r c) c=P.A (S.kept r):=by
   unfold colV;rw[iFP K];show P.A (if c=c then _ else _)=_;rw[iFP U]
  have t1:(piv S r c).T r c=S.p:=by show (if r=r then _ else _)=_;rw[iFP U,iFP U]
  have t2:(sumN P.m λk=>if k=r then 0 else (piv S r c).T k c*P.A ((piv S r c).kept k) t)=- sumN P.m λk=>if k=r then 0 else S.T k c*P.A (S.kept k) t:=by
   have:(sumN P.m λk=>if k=r then 0 else (piv S r c).T k c*P.A ((piv S r c).kept k) t)=sumN P.m λk=>(-1)*(if k=r then 0 else S.T k c*P.A (S.kept k) t):=by
    refine sumN_congr λk H=>?_;by_cases l:k=r
    ·rw[iFP l,iFP l];rfl
    ·rw[iFN l,iFN l,kn k l]
     show (if k=r then _ else _)*_=_;rw[iFN l,iFP U,qdK,qdK,qcJ]
   rw[this,sumN_mul];omega
  rw[c1,t1];show S.T r c*P.A _ t=_;omega
 ·have c1:colV P (piv S r e) c=colV P S c:=by
   unfold colV;by_cases I:c<P.n
   ·rw[iFP I,iFP I];show P.A (if c=e then _ else _)=_;rw[iFN D]
   ·rw[iFN I,iFN I]
  have t1:(piv S r e).T r c=S.T r c:=by show (if r=r then _ else _)=_;rw[iFP U,iFN D]
  have hC:=h.eq c M t;rw[sumN_split q]at hC;rw[c1,t1];refine qei (a:=S.p) (by omega) ?_;have t2:S.p*(sumN P.m λk=>if k=r then 0 else (piv S r e).T k c*P.A ((piv S r e).kept k) t)=(sumN P.m λk=>S.T r e*(if k=r then 0 else S.T k c*P.A (S.kept k) t)) - sumN P.m λk=>S.T r c*(if k=r then 0 else S.T k e*P.A (S.kept k) t):=by
   rw[<-sumN_mul,<-sumN_sub];refine sumN_congr λk H=>?_;by_cases l:k=r
   ·rw[iFP l,iFP l,iFP l];simp
   ·rw[iFN l,iFN l,iFN l,kn k l,<-qbr,piv_T h (by omega) M H q l D,qf7]
    rw[qbr,qaZ (S.T k e),qbr]
  rw[qcr,t2,sumN_mul,sumN_mul];show S.p*(S.T r e*colV P S c t)=_;rw[qaW,hC,<-qbr S.p,qaZ S.p _,qbr,R,qcr,qcr];rw[show S.T r e*_=S.T r c*_ by rw[qaW]];omega
theorem piv_goal {S:Tb} (h:Good P S) {r e:Nat} (K:e<P.n) (q:r<P.m):∀ c,c<=P.n->(piv S r e).G c=(sumN P.m λi=>P.g ((piv S r e).kept i)*(piv S r e).T i c) - (piv S r e).p*gainC P (piv S r e) c:=by
 intro c M;have hp:=h.pos;have R:=h.goal e (by omega);have gE:gainC P S e=P.g _:=iFP K;rw[gE,sumN_split q]at R;have kr:(piv S r e).kept r=S.free e:=iFP U;have kn:∀ i,i≠r->(piv S r e).kept i=S.kept i:=λi hi=>iFN hi;rw[sumN_split q,kr];by_cases D:c=e
 ·subst D
  have c1:gainC P (piv S r c) c=P.g (S.kept r):=by
   unfold gainC;rw[iFP K];show P.g (if c=c then _ else _)=_;rw[iFP U]
  have t1:(piv S r c).T r c=S.p:=by show (if r=r then _ else _)=_;rw[iFP U,iFP U]
  have t2:(sumN P.m λk=>if k=r then 0 else P.g ((piv S r c).kept k)*(piv S r c).T k c)=- sumN P.m λk=>if k=r then 0 else P.g (S.kept k)*S.T k c:=by
   have:(sumN P.m λk=>if k=r then 0 else P.g ((piv S r c).kept k)*(piv S r c).T k c)=sumN P.m λk=>(-1)*(if k=r then 0 else P.g (S.kept k)*S.T k c):=by
    refine sumN_congr λk H=>?_;by_cases l:k=r
    ·rw[iFP l,iFP l];rfl
    ·rw[iFN l,iFN l,kn k l]
     show _*(if k=r then _ else _)=_;rw[iFN l,iFP U,qf8,qdK,qcJ]
   rw[this,sumN_mul];omega
  rw[c1,t1];show (if c=c then - S.G c else _)=_ - S.T r c*_;rw[iFP U,R,qaZ _,qaZ S.p];omega
 ·have c1:gainC P (piv S r e) c=gainC P S c:=by
   unfold gainC;by_cases I:c<P.n
   ·rw[iFP I,iFP I];show P.g (if c=e then _ else _)=_;rw[iFN D]
   ·rw[iFN I,iFN I]
  have t1:(piv S r e).T r c=S.T r c:=by show (if r=r then _ else _)=_;rw[iFP U,iFN D]
  have hC:=h.goal c M;rw[sumN_split q]at hC;rw[c1,t1];have t2:S.p*(sumN P.m λk=>if k=r then 0 else P.g ((piv S r e).kept k)*(piv S r e).T k c)=(sumN P.m λk=>S.T r e*(if k=r then 0 else P.g (S.kept k)*S.T k c)) - sumN P.m λk=>S.T r c*(if k=r then 0 else P.g (S.kept k)*S.T k e):=by
   rw[<-sumN_mul,<-sumN_sub];refine sumN_congr λk H=>?_;by_cases l:k=r
   ·rw[iFP l,iFP l,iFP l];simp
   ·rw[iFN l,iFN l,iFN l,kn k l,qaW,piv_T h (by omega) M H q l D,qcK]
    rw[qaW,qaZ (S.T k e),qaW (S.T r c)]
  rw[sumN_mul,sumN_mul]at t2;have N:S.T r e*S.G c - S.G e*S.T r c=S.p*(P.g (S.free e)*S.T r c+(sumN P.m λk=>if k=r then 0 else P.g ((piv S r e).kept k)*(piv S r e).T k c) - S.T r e*gainC P S c):=by
   rw[qcK,qcr,t2,hC,R];generalize (sumN P.m λk=>if k=r then 0 else P.g _*S.T k e)=Y;rw[qcK,qcr,qf7,qev];rw[show S.T r e*_=P.g _*S.T r e*S.T r c by rw[qaW,qbr]];rw[show S.T r e*(S.p*gainC P S c)=S.p*_ by rw[qaW]];rw[show S.p*(P.g _*S.T r c)=S.p*P.g _*S.T r c by rw[qbr]];rw[qaZ Y];omega
  show (if c=e then _ else _ / S.p)=_;rw[iFN D,N,qgw _ (by omega)];rfl
theorem Good.piv {S:Tb} (h:Good P S) {r e:Nat} (K:e<P.n) (q:r<P.m) (hq:0<S.T r e):Good P (piv S r e):=by
 refine⟨hq,?_,piv_eq h K q,piv_goal h K q⟩;show S.T r e=_;rw[h.entry (by omega) q];refine congrArg _ ?_
 funext i
 unfold basis;by_cases hi:i=r
 ·rw[hi,upd_same]
  show colV P S e=P.A (if r=r then _ else _);rw[iFP U];exact iFP K
 ·rw[upd_ne hi]
  show _=P.A (if i=r then _ else _);rw[iFN hi]
def lexP (M:Nat) (v:Nat->Int):Prop:=∃ j,j<M/\0<v j/\∀ l,l<j->v l=0
theorem lexP_congr {M:Nat}{v w:Nat->Int} (h:∀ s,s<M->v s=w s) (E:lexP M v):lexP M w:=by
 obtain⟨j,q,z,u⟩:=E;exact⟨j,q,by rw[<-h j q];exact z,λl A=>by rw[<-h l (by omega)];exact u l A⟩
theorem lexP_mul {M:Nat}{v:Nat->Int}{c:Int} (B:0<c) (E:lexP M v):lexP M λs=>c*v s:=by
 obtain⟨j,q,z,u⟩:=E;exact⟨j,q,qjU B z,λl A=>by show c*v l=0;rw[u l A,qbc]⟩
theorem lexP_unmul {M:Nat}{v:Nat->Int}{c:Int} (B:0<c) (E:lexP M λs=>c*v s):lexP M v:=by
 obtain⟨j,q,z,u⟩:=E;have h2':0<v j*c:=by rw[qaZ];exact z
 refine⟨j,q,Int.pos_of_mul_pos_left h2' B,λl A=>?_⟩
 have:=u l A
 rcases qcn.mp this with h|h
 ·omega
 ·exact h
theorem lexP_add {M:Nat}{v w:Nat->Int} (E:lexP M v) (hw:lexP M w):lexP M λs=>v s+w s:=by
 obtain⟨j,q,z,u⟩:=E;obtain⟨k,W,k2,X⟩:=hw;rcases Nat.lt_trichotomy j k with h|h|h
 ·exact⟨j,q,by show 0<v j+w j;rw[X j h];omega,λl A=>by show v l+w l=0;rw[u l A,X l (by omega)];rfl⟩
 ·subst h
  exact⟨j,q,by show 0<v j+w j;omega,λl A=>by show v l+w l=0;rw[u l A,X l A];rfl⟩
 ·exact⟨k,W,by show 0<v k+w k;rw[u k h];omega,λl A=>by show v l+w l=0;rw[u l (by omega),X l A];rfl⟩
theorem lexP_addn {M:Nat}{v w:Nat->Int}{c:Int} (B:0<=c) (E:lexP M v) (hw:lexP M w):lexP M λs=>v s+c*w s:=by
 rcases qeb B with h|h
 ·exact lexP_add E (lexP_mul h hw)
 ·subst h
  exact lexP_congr (λs _=>by rw[qbD,qed]) E
theorem lexP_not0 {M:Nat}{v:Nat->Int} (h:∀ s,s<M->v s=0):¬ lexP M v:=λ⟨j,q,z,_⟩=>by rw[h j q]at z;omega
theorem lexP_first {M:Nat}{v:Nat->Int} (hM:0<M) (h:lexP M v):0<=v 0:=by
 obtain⟨j,q,z,u⟩:=h;rcases Nat.eq_zero_or_pos j with e|e
 ·subst e;omega
 ·rw[u 0 e];exact qb5 _
variable (P:Pb)
def XV (s:Nat):Vec:=if s=0 then P.b else unit (s - 1)
def LV (S:Tb) (i s:Nat):Int:=det P.m (upd (basis P S) i (XV P s))
def ZV (S:Tb) (s:Nat):Int:=sumN P.m λi=>P.g (S.kept i)*LV P S i s
structure Named (S:Tb):Prop where
 one:∀ r,r<P.m->P.A (P.n+r)=unit r
 all:∀ k,k<P.n+P.m->(∃ c,c<P.n/\S.free c=k)\/∃ i,i<P.m/\S.kept i=k
 bound:(∀ c,c<P.n->S.free c<P.n+P.m)/\∀ i,i<P.m->S.kept i<P.n+P.m
def Fe (S:Tb):Prop:=∀ i,i<P.m->lexP (P.m+1) (LV P S i)
variable {P}
theorem Good.rep_free {S:Tb} (h:Good P S) {c:Nat} (B:c<=P.n) (t:Nat):S.p*colV P S c t=sumN P.m λi=>det P.m (upd (basis P S) i (colV P S c))*P.A (S.kept i) t:=by
 rw[h.eq c B t];exact sumN_congr λi hi=>by rw[h.entry B hi]
theorem det_kept {S:Tb} (h:Good P S) {i j:Nat} (hi:i<P.m) (I:j<P.m):det P.m (upd (basis P S) i (basis P S j))=if i=j then S.p else 0:=by
 by_cases e:i=j
 ·subst e;rw[upd_self,iFP U,h.dt]
 ·rw[iFN e]
  exact det_eq0 _ hi I e (by rw[upd_same,upd_ne (qbo e)])
theorem Good.rep_kept {S:Tb} (h:Good P S) {j:Nat} (I:j<P.m) (t:Nat):S.p*P.A (S.kept j) t=sumN P.m λi=>det P.m (upd (basis P S) i (P.A (S.kept j)))*P.A (S.kept i) t:=by
 rw[sumN_single I λi hi K=>?_]
 ·have:=det_kept h I I
  rw[iFP U]at this;have e:det P.m (upd _ j (P.A _))=S.p:=this;rw[e]
 ·have:=det_kept h hi I
  rw[iFN K]at this;have e:det P.m (upd _ i (P.A _))=0:=this;rw[e,qbD]
theorem Good.rep {S:Tb} (h:Good P S) (hn:Named P S) {s:Nat} (F:s<P.m+1) (t:Nat):S.p*XV P s t=sumN P.m λi=>LV P S i s*P.A (S.kept i) t:=by
 unfold LV;by_cases h0:s=0
 ·subst h0
  have e:XV P 0=colV P S P.n:=by unfold XV colV;rw[iFP U,iFN (qbd _)]
  rw[e];exact h.rep_free (qap _) t
 ·have e:XV P s=P.A (P.n+(s - 1)):=by unfold XV;rw[iFN h0,hn.one _ (by omega)]
  rw[e];rcases hn.all (P.n+(s - 1)) (by omega) with⟨c,B,D⟩|⟨j,I,D⟩
  ·have H:P.A (P.n+(s - 1))=colV P S c:=by unfold colV;rw[iFP B,D]
   rw[H];exact h.rep_free (by omega) t
  ·rw[<-D]
   exact h.rep_kept I t
theorem piv_basis {S:Tb}{r e:Nat} (o:e<P.n):basis P (piv S r e)=upd (basis P S) r (colV P S e):=by
 funext i
 unfold basis;by_cases hi:i=r
 ·rw[hi,upd_same]
  show P.A (if r=r then _ else _)=colV P S e;rw[iFP U];exact (iFP o).symm
 ·rw[upd_ne hi]
  show P.A (if i=r then _ else _)=_;rw[iFN hi]
theorem LV_r {S:Tb}{r e s:Nat} (o:e<P.n):LV P (piv S r e) r s=LV P S r s:=by
 unfold LV;rw[piv_basis o,upd_upd]
theorem LV_i {S:Tb} (h:Good P S) (hn:Named P S) {r e s i:Nat} (o:e<P.n) (F:s<P.m+1) (hi:i<P.m) (n:r<P.m) (d:i≠r):S.p*LV P (piv S r e) i s=S.T r e*LV P S i s - S.T i e*LV P S r s:=by
 unfold LV;rw[piv_basis o];exact cramer2 _ _ _ S.p h.dt (by have:=h.pos;omega) _ _ (λt=>h.eq e (by omega) t) (λt=>h.rep hn F t) hi n d
theorem ZV_piv {S:Tb} (h:Good P S) (hn:Named P S) {r e s:Nat} (o:e<P.n) (F:s<P.m+1) (n:r<P.m):S.p*ZV P (piv S r e) s=S.T r e*ZV P S s - S.G e*LV P S r s:=by
 have hE:=h.goal e (by omega);have gE:gainC P S e=P.g _:=iFP o;rw[gE,sumN_split n]at hE;unfold ZV;have kr:(piv S r e).kept r=S.free e:=iFP U;have kn:∀ i,i≠r->(piv S r e).kept i=S.kept i:=λi hi=>iFN hi;rw[sumN_split n,kr,LV_r o,qcr];have t2:S.p*(sumN P.m λk=>if k=r then 0 else P.g ((piv S r e).kept k)*LV P (piv S r e) k s)=(sumN P.m λk=>S.T r e*(if k=r then 0 else P.g (S.kept k)*LV P S k s)) - sumN P.m λk=>LV P S r s*(if k=r then 0 else P.g (S.kept k)*S.T k e):=by
  rw[<-sumN_mul,<-sumN_sub];refine sumN_congr λk D=>?_;by_cases p:k=r
  ·rw[iFP p,iFP p,iFP p];simp
  ·rw[iFN p,iFN p,iFN p,kn k p,qaW,LV_i h hn o F D n p,qcK]
   rw[qaW,qaZ (S.T k e),qaW (LV P S r s)]
 rw[t2,sumN_mul,sumN_mul,sumN_split n (λi=>P.g _*LV P S i s),hE];generalize (sumN P.m λk=>if k=r then 0 else P.g _*S.T k e)=Y;generalize LV P S r s=L;rw[qf7,qev,qcr];rw[show S.T r e*(P.g _*L)=P.g _*S.T r e*L by rw[qaW,qbr]];rw[show S.p*_=S.p*P.g _*L by rw[qbr]];rw[qaZ Y];omega
def less (P:Pb) (S S':Tb):Prop:=lexP (P.m+1) λs=>S.p*ZV P S' s - S'.p*ZV P S s
theorem less_trans {S1 S2 S3:Tb} (q:0<S1.p) (z:0<S2.p) (u:0<S3.p) (a:less P S1 S2) (b:less P S2 S3):less P S1 S3:=by
 refine lexP_unmul z (lexP_congr (λs _=>?_) (lexP_add (lexP_mul q b) (lexP_mul u a)));generalize ZV P S1 s=x;generalize ZV P S2 s=y;rw[qcK,qcK,qcK];rw[show S1.p*(S3.p*y)=S3.p*_ by rw[qaW],show S1.p*_=S2.p*_ by rw[qaW],show S3.p*(S2.p*x)=S2.p*_ by rw[qaW]];omega
theorem same_kept {S S':Tb} (h:Good P S) (h':Good P S') (e:∀ i,i<P.m->S.kept i=S'.kept i):S.p=S'.p/\∀ s,ZV P S s=ZV P S' s:=by
 have hb:∀ i,i<P.m->basis P S i=basis P S' i:=λi hi=>by unfold basis;rw[e i hi]
 have hL:∀ i s,i<P.m->LV P S i s=LV P S' i s:=λi s hi=>by
  refine det_congr P.m λk t D _=>?_;by_cases J:k=i
  ·rw[J,upd_same,upd_same]
  ·rw[upd_ne J,upd_ne J,hb k D]
 refine⟨?_,λs=>?_⟩
 ·rw[h.dt,h'.dt]
  exact det_congr P.m λk t D _=>by rw[hb k D]
 ·exact sumN_congr λi hi=>by rw[e i hi,hL i s hi]
theorem less_kept {S S':Tb} (h:Good P S) (h':Good P S') (l:less P S S'):¬ ∀ i,i<P.m->S.kept i=S'.kept i:=λe=>by
 obtain⟨G,H⟩:=same_kept h h' e;refine lexP_not0 (λs _=>?_) l;rw[G,H s];omega
theorem lines_unlike {S:Tb} (h:Good P S) (hA:∀ i,i<P.m->∀ t,P.m<=t->P.A (S.kept i) t=0) {i r:Nat} (hi:i<P.m) (n:r<P.m) (d:i≠r) {a b:Int} (ha:0<a) (F:∀ s,s<P.m+1->a*LV P S i s=b*LV P S r s):False:=by
 have R:∀ k,k<P.m->det P.m _=sumN P.m λs=>basis P S i s*LV P S k (s+1):=λk D=>by
  have e:basis P S i=λt=>sumN P.m λs=>basis P S i s*unit s t:=by
   funext t
   by_cases ht:t<P.m
   ·rw[sumN_single ht λs _ K=>by unfold unit;rw[iFN (qbo K),qbc]]
    unfold unit;rw[iFP U,qc3]
   ·rw[sumN_congr λs Q=>by unfold unit;rw[iFN (by omega),qbc],sumN_zero]
    exact hA i hi t (by omega)
  have H:=det_sum (basis P S) D (λs=>basis P S i s) unit P.m;rw[<-e]at H;rw[H];refine sumN_congr λs Q=>?_;unfold LV XV;rw[iFN (by omega),qcT]
 have W:=R i hi;have k2:=R r n;rw[det_kept h hi hi,iFP U]at W;rw[det_kept h n hi,iFN (qbo d)]at k2
 have:a*S.p=b*0:=by
  rw[W,k2,<-sumN_mul,<-sumN_mul];refine sumN_congr λs Q=>?_;rw[qaW,F _ (by omega),qaW]
 have:=qjU ha h.pos
 omega
theorem Named.piv {S:Tb} (hn:Named P S) {r e:Nat} (o:e<P.n) (n:r<P.m):Named P (piv S r e):=by
 refine⟨hn.one,λk D=>?_,λc B=>?_,λi hi=>?_⟩
 ·rcases hn.all k D with⟨c,B,G⟩|⟨i,hi,G⟩
  ·by_cases V:c=e
   ·subst V;exact .inr ⟨r,n,by show (if r=r then _ else _)=_;rw[iFP U];exact G⟩
   ·exact .inl ⟨c,B,by show (if c=e then _ else _)=_;rw[iFN V];exact G⟩
  ·by_cases d:i=r
   ·subst d;exact .inl ⟨e,o,by show (if e=e then _ else _)=_;rw[iFP U];exact G⟩
   ·exact .inr ⟨i,hi,by show (if i=r then _ else _)=_;rw[iFN d];exact G⟩
 ·show (if c=e then _ else _)<_
  split
  ·exact hn.bound.2 r n
  ·exact hn.bound.1 c B
 ·show (if i=r then _ else _)<_
  split
  ·exact hn.bound.1 e o
  ·exact hn.bound.2 i hi
theorem step {S:Tb} (h:Good P S) (hn:Named P S) (O:Fe P S) {r e:Nat} (o:e<P.n) (n:r<P.m) (hq:0<S.T r e) (hg:S.G e<0)
  (T:∀ i,i<P.m->i≠r->0<S.T i e->lexP (P.m+1) λs=>S.T r e*LV P S i s - S.T i e*LV P S r s) :
  Good P (piv S r e)/\Named P (piv S r e)/\Fe P (piv S r e)/\less P S (piv S r e):=by
 refine⟨h.piv o n hq,hn.piv o n,λi hi=>?_,?_⟩
 ·by_cases d:i=r
  ·subst d
   exact lexP_congr (λs _=>(LV_r o).symm) (O i hi)
  ·refine lexP_unmul h.pos (lexP_congr (λs F=>(LV_i h hn o F hi n d).symm) ?_)
   by_cases ht:0<S.T i e
   ·exact T i hi d ht
   ·refine lexP_congr (λs _=>?_) (lexP_addn (c:=- S.T i e) (by omega) (lexP_mul hq (O i hi)) (O r n))
    rw[qdK];omega
 ·refine lexP_congr (λs F=>?_) (lexP_mul (c:=- S.G e) (by omega) (O r n))
  show - S.G e*LV P S r s=S.p*ZV P _ s - S.T r e*ZV P S s;rw[ZV_piv h hn o F n,qdK];omega
theorem filt_len (N:Nat):∀ l:List Nat,(l.filter λx=>decide (x=N)).length+(l.filter λx=>decide (x≠N)).length=l.length
 |[]=>rfl
 |x::l=>by
  have ih:=filt_len N l;by_cases h:x=N
  ·rw[qcE (by simpa using h),qcF (by simpa using h),qaq,qaq];omega
  ·rw[qcF (by simpa using h),qcE (by simpa using h),qaq,qaq];omega
theorem nodup_le:∀ (N:Nat) (l:List Nat),l.Nodup->(∀ x∈l,x<N)->l.length<=N:=by
 intro N
 induction N with
 |zero=>
  intro l _ h;cases l with
  |nil=>exact qap _
  |cons x l=>exact absurd (h x qag) (by omega)
 |succ N ih=>
  intro l A h;have q:=ih (l.filter λx=>decide (x≠N)) (A.filter _) λx hx=>by
   have:=qbN.mp hx
   have z:=h x this.1;have u:=by simpa using this.2
   omega
  have z:(l.filter λx=>decide (x=N)).length<=1:=by
   have hn:=A.filter λx=>decide (x=N);have C:∀ x∈l.filter (λx=>decide (x=N)),x=N:=λx hx=>by simpa using (qbN.mp hx).2
   match l.filter _,hn,C with
   |[],_,_=>exact qcI _
   |[x],_,_=>exact qap _
   |x::y::r,hn,C=>
    exact absurd ((C x qag).trans (C y (qai _ qag)).symm) ((qbl.mp hn).1 y qag)
  have u:=filt_len N l;omega
def code (b:Nat) (f:Nat->Nat):Nat->Nat
 |0=>0
 |m+1=>code b f m*b+f m
theorem code_lt {b:Nat}{f:Nat->Nat}:∀ {m:Nat},(∀ i,i<m->f i<b)->code b f m<b^m
 |0,_=>Nat.one_pos
 |m+1,h=>by
  have q:=h m (by omega)
  calc code b f m*b+f m<code b f m*b+b:=by omega
   _=(code b f m+1)*b:=by rw[qjS,qjR]
   _<=b^m*b:=qcA b (code_lt λi hi=>h i (by omega))
theorem code_inj {b:Nat}{f g:Nat->Nat}:∀ {m:Nat},(∀ i,i<m->f i<b)->(∀ i,i<m->g i<b)->code b f m=code b g m->∀ i,i<m->f i=g i
 |0,_,_,_,i,hi=>absurd hi (by omega)
 |m+1,O,hg,e,i,hi=>by
  rw[code,code]at e;have z:=hg m (by omega);have G:=by
   have:=congrArg (·%b) e
   simp only[Nat.mul_add_mod_self_right]at this;rw[qhV (O m (by omega)),qhV z]at this;exact this
  have H:code b f m=code b g m:=by
   exact Nat.eq_of_mul_eq_mul_right (by omega:0<b) (by omega)
  by_cases him:i=m
  ·rw[him];exact G
  ·exact code_inj (λi hi=>O i (by omega)) (λi hi=>hg i (by omega)) H i (by omega)
def leastR (tops bots:Nat->Int):List Nat->List Nat->List Nat
 |[],least=>least
 |p::ps,[]=>leastR tops bots ps [p]
 |p::ps,m::r=>if tops p*bots m > tops m*bots p then leastR tops bots ps (m::r) else if tops p*bots m<tops m*bots p then leastR tops bots ps [p] else leastR tops bots ps ((m::r)++[p])
structure Least (tops bots:Nat->Int) (ps out:List Nat):Prop where
 ne:ps≠[]->out≠[]
 sub:∀ x∈out,x∈ps
 nd:ps.Nodup->out.Nodup
 eq:∀ x∈out,∀ y∈out,tops x*bots y=tops y*bots x
 lt:∀ x∈out,∀ y∈ps,y∉out->tops x*bots y<tops y*bots x
theorem ratio_lt {a b c p q r:Int} (V:0<p) (hq:0<q) (Q:0<r) (z:a*q<b*p) (J:b*r<=c*q):a*r<c*p:=by
 have A:=qd0 z Q;have e2:b*r*p<=c*q*p:=qfG J (by omega);rw[qbq b p r]at A;have e3:a*r*q<c*p*q:=by rw[qbq a r q,qbq c p q];omega
 exact qd7 e3 (by omega)
theorem leastR_ok {tops bots:Nat->Int}:∀ (ps done least:List Nat),(∀ x∈done++ps,0<bots x)->(done++ps).Nodup->Least tops bots done least->Least tops bots (done++ps) (leastR tops bots ps least):=by
 intro ps
 induction ps with
 |nil=>intro done least _ _ h;rw[qbf];cases least<;>exact h
 |cons p ps B=>
  intro done least hb n h;have V:=hb p (qau _ qag);have hpd:=λhm=>by
   rw[qcB]at n;exact n.2.2 p hm p qag U
  have e:done++p::ps=(done++[p])++ps:=by simp
  have F:=(qcB.mp n).1;rw[e]at hb n ⊢;cases least with
  |nil=>
   have hd:done=[]:=by
    cases done with
    |nil=>rfl
    |cons x d=>exact absurd U (h.ne (by simp))
   subst hd;refine B _ _ hb n ⟨λ_=>by simp,λx f=>by simpa using f,λ_=>by simp,λx f y g=>?_,λx f y g hn=>absurd (by simpa using g) (by simpa using hn)⟩;rw[qal.mp f,qal.mp g]
  |cons m r=>
   have u:m∈m::r:=qag;have T:=hb m (qaX _ (qaX _ (h.sub m u)));have O:=λy g=>hb y (qaX _ (qaX _ g));rw[leastR];by_cases c1:tops p*bots m > tops m*bots p
   ·rw[iFP c1]
    refine B _ _ hb n ⟨λ_=>by simp,λx f=>qaX _ (h.sub x f),λ_=>h.nd F,h.eq,λx f y g hn=>?_⟩;rcases qaO.mp g with g|g
    ·exact h.lt x f y g hn
    ·rw[qal.mp g]
     exact Int.lt_of_lt_of_le (by
      have A:tops x*bots m*bots p=tops m*bots p*bots x:=by rw[<-(h.eq m u x f),qbq]
      have e3:tops x*bots p*bots m<tops p*bots x*bots m:=by rw[qbq,A,qbq (tops p)];exact (qd0 c1 (O x (h.sub x f)))
      exact qd7 e3 (by omega)) (qb5 _)
   ·rw[iFN c1]
    by_cases c2:tops p*bots m<tops m*bots p
    ·rw[iFP c2]
     refine B _ _ hb n ⟨λ_=>by simp,λx f=>by rw[qal.mp f];simp,λ_=>by simp,λx f y g=>by rw[qal.mp f,qal.mp g],λx f y g hn=>?_⟩;rw[qal.mp f];rcases qaO.mp g with g|g
     ·have R:tops m*bots y<=tops y*bots m:=by
       by_cases hm:y∈m::r
       ·exact Int.le_of_eq (h.eq m u y hm)
       ·exact qjD (h.lt m u y g hm)
      exact ratio_lt V T (O y g) c2 R
     ·exact absurd (by simpa using g) (by simpa using hn)
    ·rw[iFN c2]
     have I:tops p*bots m=tops m*bots p:=by omega
     have H:=λx f=>by
      have A:tops p*bots x*bots m=tops x*bots p*bots m:=by
       rw[qbq,I,qbq,(h.eq m u x f),qbq]
      exact qgk (by omega) A
     refine B _ _ hb n ⟨λ_=>by simp,λx f=>?_,λ_=>?_,λx f y g=>?_,λx f y g hn=>?_⟩
     ·rcases qaO.mp f with f|f
      ·exact qaX _ (h.sub x f)
      ·exact qau _ f
     ·rw[qcB]
      refine⟨h.nd F,by simp,λx f y g e=>?_⟩;rw[qal.mp g]at e;rw[e]at f;exact hpd (h.sub p f)
     ·rcases qaO.mp f with f|f<;>rcases qaO.mp g with g|g
      ·exact h.eq x f y g
      ·rw[qal.mp g];exact (H x f).symm
      ·rw[qal.mp f];exact H y g
      ·rw[qal.mp f,qal.mp g]
     ·have D:y∈done:=by
       rcases qaO.mp g with g|g
       ·exact g
       ·exact absurd (qau _ g) hn
      have G:=λhm=>hn (qaX _ hm);rcases qaO.mp f with f|f
      ·exact h.lt x f y D G
      ·rw[qal.mp f]
       have A:tops p*bots y*bots m<tops y*bots p*bots m:=by
        rw[qbq,I,qbq _,qbq (tops y)];exact qd0 (h.lt m u y D G) V
       exact qd7 A (by omega)
theorem least_of {tops bots:Nat->Int}{ps:List Nat} (hb:∀ x∈ps,0<bots x) (n:ps.Nodup):Least tops bots ps (leastR tops bots ps []):=by
 simpa using (leastR_ok ps [] [] (by simpa using hb) (by simpa using n) ⟨λh=>absurd U h,λx f=>(nomatch f),λ_=>qdb,λx f=>(nomatch f),λx f=>(nomatch f)⟩)
def leaveL (W:Nat->Nat->Int) (bots:Nat->Int):List Nat->List Nat->List Nat
 |[],ps=>ps
 |s::ss,ps=>if ps.length<2 then ps else leaveL W bots ss (leastR (W s) bots ps [])
structure Lv (W:Nat->Nat->Int) (bots:Nat->Int) (C:List Nat) (s:Nat) (ps:List Nat):Prop where
 ne:ps≠[]
 nd:ps.Nodup
 sub:∀ x∈ps,x∈C
 eq:∀ x∈ps,∀ y∈ps,∀ l,l<s->bots x*W l y - bots y*W l x=0
 lt:∀ x∈ps,∀ y∈C,y∉ps->lexP s λl=>bots x*W l y - bots y*W l x
theorem lexP_mono {M N:Nat}{v:Nat->Int} (h:M<=N) (hv:lexP M v):lexP N v:=let ⟨j,z,J,o⟩:=hv;⟨j,by omega,J,o⟩
theorem Lv.step {W:Nat->Nat->Int}{bots:Nat->Int}{C ps:List Nat}{s:Nat} (hb:∀ x∈C,0<bots x) (h:Lv W bots C s ps):Lv W bots C (s+1) (leastR (W s) bots ps []):=by
 have L:=least_of (tops:=W s) (λx f=>hb x (h.sub x f)) h.nd;refine⟨L.ne h.ne,L.nd h.nd,λx f=>h.sub x (L.sub x f),λx f y g l w=>?_,λx f y g hn=>?_⟩
 ·rcases qfC l s with z|z
  ·exact h.eq x (L.sub x f) y (L.sub y g) l z
  ·have:l=s:=by omega
   subst this
   have:=L.eq y g x f
   rw[qaZ _,qaZ (bots y)];omega
 ·by_cases hm:y∈ps
  ·have w:=L.lt x f y hm hn
   refine⟨s,by omega,?_,λl hl'=>h.eq x (L.sub x f) y hm l hl'⟩;show 0<bots x*W s y - bots y*W s x;rw[qaZ _,qaZ (bots y)];omega
  ·exact lexP_mono (by omega) (h.lt x (L.sub x f) y g hm)
theorem leaveL_ok {W:Nat->Nat->Int}{bots:Nat->Int}{C:List Nat} (hb:∀ x∈C,0<bots x):∀ (k s:Nat) (ps:List Nat),Lv W bots C s ps->∃ s',s<=s'/\s'<=s+k/\Lv W bots C s' (leaveL W bots ((qak k).map λj=>s+j) ps)/\(s'<s+k->(leaveL W bots ((qak k).map λj=>s+j) ps).length<2):=by
 intro k
 induction k with
 |zero=>intro s ps h;exact⟨s,qap _,qap _,h,λh=>absurd h (by omega)⟩
 |succ k B=>
  intro s ps h;have e:(qak (k+1)).map (λj=>s+j)=s::(qak k).map λj=>(s+1)+j:=by
   rw[qdA,qaw,qaP]
   congr 1
   refine qcm λj _=>?_;show s+_=_;omega
  rw[e,leaveL];by_cases w:ps.length<2
  ·rw[iFP w]
   exact⟨s,qap _,by omega,h,λ_=>w⟩
  ·rw[iFN w]
   obtain⟨s',z,J,o,h4⟩:=B _ _ (h.step hb);exact⟨s',by omega,by omega,o,λh=>h4 (by omega)⟩
variable {P:Pb}
theorem leaving_ok {S:Tb} (h:Good P S) (hA:∀ i,i<P.m->∀ t,P.m<=t->P.A (S.kept i) t=0) {e:Nat}{C:List Nat} (K:∀ i,i∈C↔i<P.m/\0<S.T i e) (hn:C.Nodup) (X:C≠[]) :
  ∃ r,leaveL (λs i=>LV P S i s) (λi=>S.T i e) ((qak (P.m+1)).map λj=>0+j) C=[r]/\r<P.m/\0<S.T r e/\∀ i,i<P.m->i≠r->0<S.T i e->lexP (P.m+1) λs=>S.T r e*LV P S i s - S.T i e*LV P S r s:=by
 obtain⟨s',z,J,o,h4⟩:=leaveL_ok (λx f=>((K x).mp f).2) _ 0 C ⟨X,hn,λx f=>f,λx _ y _ l w=>absurd w (by omega),λx _ y g hm=>absurd g hm⟩;generalize leaveL _ _ _ C=out at o h4;have E:out.length<2:=by
  rcases qfC out.length 2 with w|w
  ·exact w
  ·exfalso
   match out,w,o with
   |x::y::r,_,o=>
    have f:=(K x).mp (o.sub x qag)
    refine lines_unlike h hA ((K y).mp (o.sub y (qai _ qag))).1 f.1 (qbo (λe=>by
     have:=(qbl.mp o.nd).1 y qag
     exact this e)) (b:=S.T y e) f.2 λs hs'=>?_
    have:=o.eq x qag y (qai _ qag) s (by omega)
    omega
 match out,E,o with
 |[],_,o=>exact absurd U o.ne
 |[r],_,o=>
  have Q:=(K r).mp (o.sub r qag);refine⟨r,U,Q.1,Q.2,λi hi Y hT=>?_⟩;exact lexP_mono (by omega) (o.lt r qag i ((K i).mpr ⟨hi,hT⟩) (by simpa using Y))
variable {P:Pb}
theorem sumN_swap (n m:Nat) (f:Nat->Nat->Int):(sumN n λi=>sumN m λk=>f i k)=sumN m λk=>sumN n λi=>f i k:=by
 induction n with
 |zero=>exact (sumN_zero m).symm
 |succ n J=>
  rw[sumN,J];rw[<-sumN_add];rfl
theorem sumN_nonneg {n:Nat}{f:Nat->Int} (h:∀ k,k<n->0<=f k):0<=sumN n f:=by
 induction n with
 |zero=>exact qb5 _
 |succ n J=>rw[sumN];have:=J λk q=>h k (by omega);have:=h n (by omega);omega
theorem sumN_append (a b:Nat) (f:Nat->Int):sumN (a+b) f=sumN a f+sumN b λk=>f (a+k):=by
 induction b with
 |zero=>rw[sumN];simp
 |succ b J=>rw[<-Nat.add_assoc,sumN,sumN];omega
theorem sumN_right (n:Nat) (c:Int) (f:Nat->Int):sumN n (λk=>f k*c)=sumN n f*c:=by
 rw[qaZ,<-sumN_mul];exact sumN_congr λk _=>qaZ _ _
def byName (P:Pb) (S:Tb) (y:Nat->Int) (k:Nat):Int:=sumN P.m λi=>if S.kept i=k then y i else 0
theorem byName_sum (S:Tb) (y:Nat->Int) {N:Nat} (hN:∀ i,i<P.m->S.kept i<N) (f:Nat->Int):(sumN N λk=>byName P S y k*f k)=sumN P.m λi=>y i*f (S.kept i):=by
 have e:(sumN N λk=>byName P S y k*f k)=sumN N λk=>sumN P.m λi=>_*f k:=sumN_congr λk _=>(sumN_right _ _ _).symm;rw[e,sumN_swap];refine sumN_congr λi hi=>?_;rw[sumN_single (hN i hi) λk _ d=>by rw[iFN (qbo d),qbD],iFP U]
theorem byName_nonneg {S:Tb}{y:Nat->Int} (h:∀ i,i<P.m->0<=y i) (k:Nat):0<=byName P S y k:=sumN_nonneg λi hi=>by split;exact h i hi;exact qb5 _
theorem byName_at {S:Tb}{y:Nat->Int} (E:∀ i j,i<P.m->j<P.m->S.kept i=S.kept j->i=j) {i:Nat} (hi:i<P.m):byName P S y (S.kept i)=y i:=by
 unfold byName;rw[sumN_single hi λj F d=>iFN λe=>d (E j i F hi e),iFP U]
theorem byName_not {S:Tb}{y:Nat->Int}{k:Nat} (h:∀ i,i<P.m->S.kept i≠k):byName P S y k=0:=by
 unfold byName;rw[sumN_congr λi hi=>iFN (h i hi),sumN_zero]
theorem unit_sum {m:Nat}{v:Vec}{r:Nat} (u:r<m):(sumN m λk=>v k*unit k r)=v r:=by
 rw[sumN_single u λk _ d=>by unfold unit;rw[iFN (qbo d),qbc]];unfold unit;rw[iFP U,qc3]
theorem amounts_ok {S:Tb} (h:Good P S) (hn:Named P S) (X:∀ i,i<P.m->0<=S.T i P.n) {r:Nat} (u:r<P.m):(sumN P.n λj=>byName P S (λi=>S.T i P.n) j*P.A j r)<=S.p*P.b r:=by
 have A:=h.eq P.n (qap _) r;have c1:colV P S P.n=P.b:=by unfold colV;rw[iFN (qbd _)]
 rw[c1]at A;have o:=byName_sum S (λi=>S.T i P.n) hn.bound.2 λk=>P.A k r;rw[sumN_append]at o;have e3:(sumN P.m λk=>byName P S (λi=>S.T i P.n) (P.n+k)*P.A (P.n+k) r)=byName P S (λi=>S.T i P.n) (P.n+r):=by
  rw[sumN_congr λk q=>by rw[hn.one k q]];exact unit_sum u
 have e4:=byName_nonneg (S:=S) X (P.n+r);omega
theorem gains_amounts {S:Tb} (h:Good P S) (hn:Named P S) (hg:∀ r,r<P.m->P.g (P.n+r)=0):(sumN P.n λj=>byName P S (λi=>S.T i P.n) j*P.g j)=S.G P.n:=by
 have o:=byName_sum S (λi=>S.T i P.n) hn.bound.2 P.g;rw[sumN_append,sumN_congr (n:=P.m) λk q=>by rw[hg k q,qbc],sumN_zero,qed]at o;rw[o,h.goal P.n (qap _)]
 have:gainC P S P.n=0:=by unfold gainC;rw[iFN (qbd _)]
 rw[this,qbc,qg1];exact sumN_congr λi _=>qaZ _ _
theorem det_by_units {S:Tb}{v:Vec} (Q:∀ t,P.m<=t->v t=0) {i:Nat} (hi:i<P.m):det P.m (upd (basis P S) i v)=sumN P.m λs=>v s*LV P S i (s+1):=by
 have e:=by
  funext t
  by_cases x:t<P.m
  ·exact (unit_sum (v:=v) x).symm
  ·rw[sumN_congr λs R=>by unfold unit;rw[iFN (by omega),qbc],sumN_zero]
   exact Q t (by omega)
 have o:=det_sum (basis P S) hi (λs=>v s) unit P.m;rw[<-e]at o;rw[o];refine sumN_congr λs R=>?_;unfold LV XV;rw[iFN (by omega),qcT]
theorem prices_col {S:Tb}{v:Vec} (Q:∀ t,P.m<=t->v t=0):(sumN P.m λr=>v r*ZV P S (r+1))=sumN P.m λi=>P.g (S.kept i)*det P.m (upd (basis P S) i v):=by
 have e:(sumN P.m λr=>v r*ZV P S (r+1))=sumN P.m λr=>sumN P.m λi=>P.g _*_:=sumN_congr λr _=>by
  unfold ZV;rw[<-sumN_mul];exact sumN_congr λi _=>by rw[qaW]
 rw[e,sumN_swap];refine sumN_congr λi hi=>?_;rw[sumN_mul,det_by_units Q hi]
theorem prices_ok {S:Tb} (h:Good P S) (hn:Named P S) (hA:∀ k,k<P.n+P.m->∀ t,P.m<=t->P.A k t=0) (K:∀ c,c<P.n->0<=S.G c) {j:Nat} (F:j<P.n):S.p*P.g j<=sumN P.m λr=>P.A j r*ZV P S (r+1):=by
 rw[prices_col (hA j (by omega))];rcases hn.all j (by omega) with⟨c,w,e⟩|⟨i,hi,e⟩
 ·have A:=h.goal c (by omega)
  have I:gainC P S c=P.g j:=by unfold gainC;rw[iFP w,e]
  have c1:colV P S c=P.A j:=by unfold colV;rw[iFP w,e]
  rw[I]at A;rw[(sumN_congr λi hi=>by rw[<-c1,<-h.entry (by omega) hi])]
  have:=K c w
  omega
 ·rw[sumN_single hi λk q d=>?_]
  ·have:=det_kept h hi hi
   rw[iFP U]at this;have o:det P.m (upd (basis P S) i (P.A j))=S.p:=by rw[<-e];exact this
   rw[o,e,qaZ];exact qb5 _
  ·have:=det_kept h q hi
   rw[iFN d]at this;have o:det P.m (upd (basis P S) k (P.A j))=0:=by rw[<-e];exact this
   rw[o,qbc]
theorem bounds_prices {S:Tb} (h:Good P S) (hb:∀ t,P.m<=t->P.b t=0):(sumN P.m λr=>P.b r*ZV P S (r+1))=S.G P.n:=by
 have c1:colV P S P.n=P.b:=by unfold colV;rw[iFN (qbd _)]
 have:gainC P S P.n=0:=by unfold gainC;rw[iFN (qbd _)]
 rw[prices_col hb,h.goal P.n (qap _),this,qbc,qg1];exact sumN_congr λi hi=>by rw[h.entry (qap _) hi,c1]
theorem price_free {S:Tb} (h:Good P S) (hn:Named P S) (hg:∀ r,r<P.m->P.g (P.n+r)=0) {r c:Nat} (u:r<P.m) (w:c<P.n) (e:S.free c=P.n+r):ZV P S (r+1)=S.G c:=by
 have I:gainC P S c=0:=by unfold gainC;rw[iFP w,e,hg r u]
 have c1:colV P S c=unit r:=by unfold colV;rw[iFP w,e,hn.one r u]
 rw[h.goal c (by omega),I,qbc,qg1];refine sumN_congr λi hi=>?_;rw[h.entry (by omega) hi,c1];unfold LV XV;rw[iFN (by omega),qcT]
theorem price_kept {S:Tb} (h:Good P S) (hn:Named P S) (hg:∀ r,r<P.m->P.g (P.n+r)=0) {r j:Nat} (u:r<P.m) (F:j<P.m) (e:S.kept j=P.n+r):ZV P S (r+1)=0:=by
 unfold ZV;rw[sumN_single F λk q d=>?_]
 ·rw[e,hg r u,qbD]
 ·have:=det_kept h q F
  rw[iFN d]at this;have o:LV P S k (r+1)=0:=by
   unfold LV XV;rw[qcT,<-hn.one r u,<-e];exact this
  rw[o,qbc]
def wayN (P:Pb) (S:Tb) (e k:Nat):Int:=byName P S (λi=>- S.T i e) k+if S.free e=k then S.p else 0
theorem way_sum {S:Tb} (hn:Named P S) {e:Nat} (B:e<P.n) (f:Nat->Int):(sumN (P.n+P.m) λk=>wayN P S e k*f k)=S.p*f (S.free e) - sumN P.m λi=>S.T i e*f (S.kept i):=by
 have o:(sumN (P.n+P.m) λk=>(if S.free e=k then S.p else 0)*f k)=S.p*f (S.free e):=by
  rw[sumN_single (hn.bound.1 e B) λk _ d=>by rw[iFN (qbo d),qbD],iFP U]
 rw[(sumN_congr λk _=>by unfold wayN;rw[qev]),sumN_add,(byName_sum S _ hn.bound.2 f)];have e4:(sumN P.m λi=>- S.T i e*f (S.kept i))=- sumN P.m λi=>S.T i e*f (S.kept i):=by
  have:(sumN P.m λi=>- S.T i e*f (S.kept i))=sumN P.m λi=>(-1)*_:=sumN_congr λi _=>by rw[qdK,qdK,qcJ]
  rw[this,sumN_mul];omega
 omega
theorem way_nonneg {S:Tb} (h:Good P S) {e:Nat} (x:∀ i,i<P.m->S.T i e<=0) (k:Nat):0<=wayN P S e k:=by
 unfold wayN
 have:=byName_nonneg (S:=S) (λi hi=>by have:=x i hi;show 0<=- S.T i e;omega) k
 have:=h.pos
 split<;>omega
theorem way_rows {S:Tb} (h:Good P S) (hn:Named P S) {e:Nat} (B:e<P.n) (x:∀ i,i<P.m->S.T i e<=0) {r:Nat} (u:r<P.m):(sumN P.n λk=>wayN P S e k*P.A k r)<=0:=by
 have A:=way_sum hn B λk=>P.A k r;have o:=h.eq e (by omega) r;have c1:colV P S e=P.A (S.free e):=by unfold colV;rw[iFP B]
 rw[c1]at o;rw[sumN_append]at A;have e3:(sumN P.m λk=>wayN P S e (P.n+k)*P.A (P.n+k) r)=wayN P S e (P.n+r):=by
  rw[sumN_congr λk q=>by rw[hn.one k q]];exact unit_sum u
 have:=way_nonneg h x (P.n+r)
 omega
theorem way_gains {S:Tb} (h:Good P S) (hn:Named P S) (hg:∀ r,r<P.m->P.g (P.n+r)=0) {e:Nat} (B:e<P.n) (K:S.G e<0):0<sumN P.n λk=>wayN P S e k*P.g k:=by
 have A:=way_sum hn B P.g;rw[sumN_append,sumN_congr (n:=P.m) λk q=>by rw[hg k q,qbc],sumN_zero,qed]at A;have o:=h.goal e (by omega);have I:gainC P S e=P.g (S.free e):=by unfold gainC;rw[iFP B]
 rw[I]at o;rw[A,(sumN_congr λi _=>qaZ _ _)];omega
def tb0 (P:Pb) (T:Nat->Nat->Int) (G:Nat->Int):Tb:=⟨1,λi=>P.n+i,λc=>c,T,G⟩
theorem good0 {T:Nat->Nat->Int}{G:Nat->Int} (L:∀ r,r<P.m->P.A (P.n+r)=unit r) (hA:∀ k,k<P.n->∀ t,P.m<=t->P.A k t=0) (hb:∀ t,P.m<=t->P.b t=0) (hg:∀ r,r<P.m->P.g (P.n+r)=0)
  (X:∀ i c,i<P.m->c<P.n->T i c=P.A c i) (hL:∀ i,i<P.m->T i P.n=P.b i) (K:∀ c,c<P.n->G c=- P.g c) (Y:G P.n=0):Good P (tb0 P T G)/\Named P (tb0 P T G)/\((∀ t,t<P.m->0<=P.b t)->Fe P (tb0 P T G)):=by
 have z:∀ i,i<P.m->basis P (tb0 P T G) i=unit i:=λi hi=>L i hi;have D:det P.m (basis P (tb0 P T G))=1:=by
  rw[det_congr P.m λk t q _=>by rw[z k q],det_unit]
 have V:∀ c,c<=P.n->∀ t,_*colV P (tb0 P T G) c t=sumN P.m λi=>T i c*P.A _ t:=λc w t=>by
  rw[qcJ,sumN_congr λi hi=>by rw[L i hi]];have C:∀ t',P.m<=t'->colV P (tb0 P T G) c t'=0:=λt' H=>by
   unfold colV;by_cases g:c<P.n
   ·rw[iFP g];exact hA c g t' H
   ·rw[iFN g];exact hb t' H
  by_cases x:t<P.m
  ·rw[unit_sum x]
   unfold colV;by_cases g:c<P.n
   ·rw[iFP g,X t c x g];rfl
   ·have:c=P.n:=by omega
    subst this;rw[iFN g,hL t x]
  ·rw[C t (by omega),sumN_congr λi hi=>by unfold unit;rw[iFN (by omega),qbc],sumN_zero]
 have p:Good P (tb0 P T G):=by
  refine⟨by show _<1;decide,D.symm,V,λc w=>?_⟩;show G c=(sumN P.m λi=>P.g (P.n+i)*T i c) - 1*gainC P _ c;rw[sumN_congr λi hi=>by rw[hg i hi,qbD],sumN_zero];unfold gainC;by_cases g:c<P.n
  ·rw[iFP g,K c g]
   show - P.g c=0 - 1*P.g c;omega
  ·have:c=P.n:=by omega
   subst this;rw[iFN g,Y];rfl
 refine⟨p,⟨L,λk q=>?_,λc w=>by show c<_;omega,λi hi=>by show P.n+i<_;omega⟩,λM i hi=>?_⟩
 ·by_cases O:k<P.n
  ·exact .inl ⟨k,O,U⟩
  ·exact .inr ⟨k - P.n,by omega,by show P.n+_=k;omega⟩
 ·have l0:LV P (tb0 P T G) i 0=P.b i:=by
   have e:=p.entry (qap _) hi;have c1:colV P (tb0 P T G) P.n=P.b:=by unfold colV;rw[iFN (qbd _)]
   rw[c1]at e;unfold LV XV;rw[iFP U,<-e];exact hL i hi
  have ls:∀ s,s<P.m->LV P _ i _=if i=s then 1 else 0:=λs hs=>by
   have:=det_kept p hi hs
   unfold LV XV;rw[qcT,<-z s hs];exact this
  rcases qeb (M i hi) with W|W
  ·exact⟨0,by omega,by rw[l0];exact W,λl hl=>absurd hl (by omega)⟩
  ·refine⟨i+1,by omega,by rw[ls i hi,iFP U];decide,λl hl=>?_⟩
   cases l with
   |zero=>rw[l0,<-W]
   |succ l=>rw[ls l (by omega),iFN (by omega)]
end Sx
set_option maxHeartbeats 1000000
namespace Own
open PySem L2
open Sx (Pb Tb Good Named Fe LV ZV piv lexP leastR leaveL sumN unit colV basis)
theorem dM {e:Ef}{z:Int}{m:Nat}{env:Ev}{st s:Sto} (a:e env st=some (.d (.int z),s)) (c:0<=z) (f:z<=1000) (hm:z.toNat=m):bD (aa e ae) env st=some (bi 0 m,s):=by
 have hb:-(2^62)<=z/\z<2^62:=⟨qec (by decide) c,Int.lt_of_le_of_lt f (by decide)⟩;simp only[bD,(ab (b:=ae) a U),qaa,hb,and_self,if_true,hm]
theorem aS {f:Ef}{env:Ev}{st s:Sto}{ds:List D} (h:f env st=some (.d (.lst ds),s)):aB f env st=some (ds,s):=by
 simp only[aB,h,qaa,gX,qao]
theorem bo {f:Ef}{env:Ev}{st s:Sto}{ds:List D} (h:f env st=some (.d (.tup ds),s)):aB f env st=some (ds,s):=by
 simp only[aB,h,qaa,gX,qao]
theorem pq {c:Tf}{a b:Ef}{env:Ev}{st s:Sto}{r:Option (W×Sto)} (h:c env st=some (true,s)) (d:a env s=r):jK c a b env st=r:=by
 simp only[jK,h,qaa,if_true,d]
theorem r8 {c:Tf}{a b:Ef}{env:Ev}{st s:Sto}{r:Option (W×Sto)} (h:c env st=some (false,s)) (hb:b env s=r):jK c a b env st=r:=by
 simp only[jK,h,qaa,qbm,if_false,hb]
theorem xk (s:Sto) (ns:List Int):sU s [.d (.lst (ns.map D.int))]=some (.int ns.sum):=by
 show (aT _).map _=_;rw[be];rfl
theorem AJ (s:Sto) {a b:Int} (h:0<=b):xV s (.d (.int a)) (.d (.int b))=some (.int (a / 2^b.toNat)):=iFP h
theorem cr (s:Sto) (a b:Int):dEq s (.d (.int a)) (.d (.int b))=some (.bl (a==b)):=by
 rfl
theorem FB (s:Sto) (a b:Str):dEq s (.d (.str a)) (.d (.str b))=some (.bl (a==b)):=by
 rfl
theorem eB (s:Sto) {a b:List D} (h:a.length+b.length<=1000000):bf s (.d (.lst a)) (.d (.lst b))=some (.lst (a++b)):=iFP h
theorem mU (s:Sto) {a b:List D} (h:a.length+b.length<=1000000):bf s (.d (.tup a)) (.d (.tup b))=some (.tup (a++b)):=iFP h
def mpI (n:Nat) (f:Nat->Int):List D:=(qak n).map λk=>D.int (f k)
def lnD (n:Nat) (T:Nat->Nat->Int) (i:Nat):D:=.lst (mpI (n+1) (T i))
def aX (m n:Nat) (T:Nat->Nat->Int):List D:=(qak m).map (lnD n T)
def nI (f:Nat->Nat):Nat->Int:=λk=>((f k:Nat):Int)
abbrev obN:List Str:=["amounts","lines","goal","part","free","kept"]
def obD (P:Pb) (S:Tb):D:=.ob obN [.int (P.n:Int),.lst (aX P.m P.n S.T),.lst (mpI (P.n+1) S.G),.int S.p,.lst (mpI P.n (nI S.free)),.lst (mpI P.m (nI S.kept))]
theorem aD (n:Nat) (f:Nat->Int):(mpI n f).length=n:=by unfold mpI;rw[qah,qat]
theorem cG (m n:Nat) (T:Nat->Nat->Int):(aX m n T).length=m:=by unfold aX;rw[qah,qat]
theorem bg {n:Nat}{f:Nat->Int}{k:Nat} (h:k<n):(mpI n f)[k]?=some (.int (f k)):=by
 unfold mpI;rw[qaC,qbh h];rfl
theorem oI {m n:Nat}{T:Nat->Nat->Int}{k:Nat} (h:k<m):(aX m n T)[k]?=some (lnD n T k):=by
 unfold aX;rw[qaC,qbh h];rfl
theorem bF {n:Nat}{f g:Nat->Int} (h:∀ k,k<n->f k=g k):mpI n f=mpI n g:=by
 refine qcm λk a=>?_;rw[h k (qaR.mp a)]
theorem oP (n:Nat) (f:Nat->Int):mpI (n+1) f=mpI n f++[.int (f n)]:=by
 unfold mpI;rw[qdW,qbp];rfl
theorem bK (n:Nat) (f:Nat->Int):mpI n f=((qak n).map f).map D.int:=by rw[qaP];rfl
theorem ux (n:Nat) (f:Nat->Int):(mpI n f).all cK=true:=by
 rw[qbb];intro d hd;obtain⟨k,_,rfl⟩:=qaD.mp hd;rfl
theorem gP {n:Nat}{f:Nat->Int}{k:Nat}{x:Int}:(mpI n f).set k (.int x)=mpI n λj=>if j=k then x else f j:=by
 apply qbA;intro j;by_cases a:j<n
 ·rw[bg a]
  by_cases e:j=k
  ·subst e;rw[iFP U,qbs (by rw[aD];exact a)]
  ·rw[iFN e,qbC (qbo e),bg a]
 ·rw[qaF (by rw[qb7,aD];lia),qaF (by rw[aD];lia)]
theorem eL (st:Sto) {n:Nat}{f:Nat->Int}{k:Nat} (h:k<n):dIx st (.d (.lst (mpI n f))) (.d (.int (k:Int)))=some (.int (f k)):=cO (bg h)
theorem ue (st:Sto) {m n:Nat}{T:Nat->Nat->Int}{k:Nat} (h:k<m):dIx st (.d (.lst (aX m n T))) (.d (.int (k:Int)))=some (lnD n T k):=cO (oI h)
theorem ud (st:Sto) {n:Nat}{T:Nat->Nat->Int}{i c:Nat} (h:c<=n):dIx st (.d (lnD n T i)) (.d (.int (c:Int)))=some (.int (T i c)):=eL st (by lia)
theorem wB (st:Sto) {n:Nat}{T:Nat->Nat->Int}{i:Nat}:dIx st (.d (lnD n T i)) (.d (.int (-1)))=some (.int (T i n)):=by
 show atI _ _=_;rw[oP];exact mY _ _
section
variable {P:Pb}{S:Tb}{a:Ef}{env:Ev}{st s:Sto}
theorem bX (h:a env st=some (.d (obD P S),s)):az "amounts" a env st=some (.d (.int (P.n:Int)),s):=by simp only[az,h,qaa,obD];rfl
theorem cP (h:a env st=some (.d (obD P S),s)):az "lines" a env st=some (.d (.lst (aX P.m P.n S.T)),s):=by simp only[az,h,qaa,obD];rfl
theorem mC (h:a env st=some (.d (obD P S),s)):az "goal" a env st=some (.d (.lst (mpI (P.n+1) S.G)),s):=by simp only[az,h,qaa,obD];rfl
theorem mD (h:a env st=some (.d (obD P S),s)):az "part" a env st=some (.d (.int S.p),s):=by simp only[az,h,qaa,obD];rfl
theorem mB (h:a env st=some (.d (obD P S),s)):az "free" a env st=some (.d (.lst (mpI P.n (nI S.free))),s):=by simp only[az,h,qaa,obD];rfl
theorem qP (h:a env st=some (.d (obD P S),s)):az "kept" a env st=some (.d (.lst (mpI P.m (nI S.kept))),s):=by simp only[az,h,qaa,obD];rfl
end
theorem hJ {te:Ef}{l:Ev}{st:Sto}{g:Nat->D} (F:Nat->D):∀ {ks:List Nat},(∀ k∈ks,te (Z (g k)::l) st=some (.d (F k),st))->lcI (.nm 0) aJ te (none::l) (ks.map g) st=some (ks.map F,st)
 |[],_=>rfl
 |k::ks,h=>by
  rw[qaw];unfold lcI;rw[show eZ _ _ _=some (some _::l) from U,qaa,show aJ _ st=some (true,st) from U,qaa,(h k qag),qaa,(hJ F λx a=>h x (qai _ a))];rfl
def Sm (z:Int):Prop:=z.natAbs<2^4000
theorem mulOk {a b:Int} (x y:Nat) (c:a.natAbs<2^x) (hb:b.natAbs<2^y) (h:x+y<=134217728):qda a b:=
 qii (qgN.mpr c) (qgN.mpr hb) h
theorem Ea {a b:Int}{x y:Nat} (c:a.natAbs<2^x) (hb:b.natAbs<2^y):(a*b).natAbs<2^(x+y):=by
 rw[qdi,qhp];exact Nat.mul_lt_mul'' c hb
theorem Sm.mulOk {a b:Int} (c:Sm a) (hb:Sm b):qda a b:=Own.mulOk 4000 4000 c hb (by decide)
theorem bL (st:Sto) {a b:Int} (h:qda a b):a9 st (.d (.int a)) (.d (.int b))=some (.int (a*b)):=iFP h
theorem Sm.log {a:Int} (h:Sm a):a.natAbs.log2<9000:=by
 by_cases b:a.natAbs=0
 ·rw[b];decide
 ·have:=(Nat.log2_lt b).mpr h
  lia
theorem rq (st:Sto) {a b:Int} (c:0<b) (h:Sm b):rj st (.d (.int a)) (.d (.int b))=some (.int (a / b)):=iFP ⟨c,h.log⟩
end Own
set_option maxHeartbeats 1000000
namespace Own
open PySem L2
open Sx (Pb Tb Good Named Fe LV ZV piv lexP leastR leaveL sumN unit colV basis)
theorem fC {a b:Sf}{env:Ev}{st s:Sto}{w:W} (h:a env st=some (.rt w s)):ah a b env st=some (.rt w s):=by simp only[ah,h,qaa]
theorem ai {a b:Sf}{env e:Ev}{st s:Sto}{r:Option Fl} (h:a env st=some (.nx e s)) (hb:b e s=r):ah a b env st=r:=by simp only[ah,h,qaa,hb]
theorem ca {c:Tf}{a b:Sf}{env:Ev}{st s:Sto}{r:Option Fl} (h:c env st=some (true,s)) (d:a env s=r):aY c a b env st=r:=by simp only[aY,h,qaa,if_true,d]
theorem bh {c:Tf}{a b:Sf}{env:Ev}{st s:Sto}{r:Option Fl} (h:c env st=some (false,s)) (hb:b env s=r):aY c a b env st=r:=by simp only[aY,h,qaa,qbm,if_false,hb]
theorem Hm {o a:Ef}{env:Ev}{st s1 e:Sto}{n:Nat}{d:D}{c ds:List D} (j:o env st=some (.h n,s1)) (g:a env s1=some (.d d,e)) (f:lg s1 n=some c) (hg:lg e n=some ds) (i:ds.length<1000000):eJ (cL bB o (aa a ae)) env st=some (.nx env (e.set n (.l (ds++[d])))):=by
 simp only[eJ,cL,j,(ab (b:=ae) g U),f,hg,bB,i,if_true,qaa,qao]
theorem pB (st:Sto) (a b:C):(st++[a]).set st.length b=st++[b]:=by
 simp
structure Okt (P:Pb) (S:Tb):Prop where
 good:Good P S
 named:Named P S
 m64:P.m<=100
 n64:P.n<=100
 sT:∀ i c,i<P.m->c<=P.n->Sm (S.T i c)
 sL:∀ i s,i<P.m->s<=P.m->Sm (LV P S i s)
 sG:∀ c,c<=P.n->Sm (S.G c)
 sp:Sm S.p
def psD (ps:List Nat):List D:=ps.map λk=>D.int ((k:Nat):Int)
theorem wX (ps:List Nat):(psD ps).length=ps.length:=by unfold psD;rw[qah]
theorem mL {n k:Nat}{b:Sf}{ws:List W}{st s:Sto}{h:Nat}{ds:List D} (a:ws.length=k) (hb:b (ws.map some++qay (n - k) none) st=some (.rt (.h h) s)) (c:st.length<=h) (hd:lg s h=some ds):fR n k b ws st=some (.d (.lst ds),s.take st.length):=by
 simp only[fR,a,if_true,hb,qaa,zh,iFN (qhO.mpr c),hd,qao]
theorem xg {st u:Sto}{h:Nat}{c:C} (a:st.length<=h):(st++u).set h c=st++u.set (h - st.length) c:=by
 rw[List.set_append_right _ _ a]
theorem D6 {s:Sto}{h:Nat}{ds es:List D} (hg:lg s h=some ds):lg (s.set h (.l es)) h=some es:=by
 have:=(qar.mp (wI hg)).1
 unfold lg;rw[qbs this]
theorem dH (s:Sto) (ds:List D):lg (s++[.l ds]) s.length=some ds:=by unfold lg;simp
theorem Dq (s:Sto) {h:Nat}{ds:List D} (hg:lg s h=some ds):cN s (.h h)=some (!ds.isEmpty):=by
 show (lg s h).map _=_;rw[hg];rfl
theorem FU (s:Sto) {h:Nat}{d:D}{ds:List D} (hg:lg s h=some (d::ds)):dIx s (.h h) (.d (.int 0))=some d:=by
 show (lg s h).bind _=_;rw[hg,qaa,Fp]
theorem zM (s:Sto) (a b:Int):dLt s (.d (.int a)) (.d (.int b))=some (.bl (decide (a<b))):=rfl
theorem DH (s:Sto) (a b:Int):dGt s (.d (.int a)) (.d (.int b))=some (.bl (decide (a > b))):=rfl
theorem FH (s:Sto) (a b:Int):dGe s (.d (.int a)) (.d (.int b))=some (.bl (decide (a>=b))):=rfl
section
variable {tops bots:Nat->Int}{m:Nat}{st:Sto}{f:Option W}
theorem kM (H:∀ i,i<m->Sm (tops i)) (hb:∀ i,i<m->Sm (bots i)):∀ (ps least:List Nat) (u:Sto) (h:Nat) (Q g c:Option W),(∀ x∈ps,x<m)->(∀ x∈least,x<m)->lg (st++u) h=some (psD least)->st.length<=h->least.length+ps.length<=1000->
  ∃ w h' k j q,cn (.nm 4) aV (psD ps) [f,Z (.lst (mpI m tops)),Z (.lst (mpI m bots)),some (.h h),Q,g,c] (st++u)=some (.nx [f,Z (.lst (mpI m tops)),Z (.lst (mpI m bots)),some (.h h'),k,j,q] (st++w))/\
   lg (st++w) h'=some (psD (leastR tops bots ps least))/\st.length<=h'
 |[],least,u,h,Q,g,c,_,_,hg,y,_=>⟨u,h,Q,g,c,U,by rw[leastR];exact hg,y⟩
 |p::ps,least,u,h,Q,g,c,S,T,hg,y,K=>by
  have t:p<m:=S p qag;have E:∀ x∈ps,x<m:=λx F=>S x (qai _ F);rw[qaq]at K;have R:∀ g c N,eZ (.nm 4) (.d (.int ((p:Nat):Int))) [f,Z (.lst (mpI m tops)),Z (.lst (mpI m bots)),some (.h N),Q,g,c]=some [f,Z (.lst (mpI m tops)),Z (.lst (mpI m bots)),some (.h N),Z (.int ((p:Nat):Int)),g,c]:=λ_ _ _=>rfl;have J:∀ (u:Sto) (h:Nat) (ls:List Nat) (g c:Option W),lg (st++u) h=some (psD ls)->st.length<=h->ls.length<1000->eJ (cL bB (iV 3) (aa (iV 4) ae)) [f,Z (.lst (mpI m tops)),Z (.lst (mpI m bots)),some (.h h),Z (.int ((p:Nat):Int)),g,c] (st++u)=some _/\lg (st++u.set (h - st.length) (.l (psD (ls++[p])))) h=some (psD (ls++[p])):=λu h ls g c hg y T=>by
   have e:=Hm (o:=iV 3) (a:=iV 4) (env:=[f,Z (.lst (mpI m tops)),Z (.lst (mpI m bots)),some (.h h),Z (.int ((p:Nat):Int)),g,c]) (st:=st++u) (n:=h) (d:=.int ((p:Nat):Int)) U U hg hg (by rw[wX];lia);have e2:psD ls++[.int ((p:Nat):Int)]=psD (ls++[p]):=by unfold psD;rw[qbp];rfl
   rw[e2,xg y]at e;refine⟨e,?_⟩;rw[<-xg y];exact D6 hg
  cases least with
  |nil=>
   have O:cv cN (iV 3) [f,Z (.lst (mpI m tops)),Z (.lst (mpI m bots)),some (.h h),Z (.int ((p:Nat):Int)),g,c] (st++u)=some (false,st++u):=by
    have:=Dq (st++u) hg
    simp only[cv,show iV 3 [f,Z (.lst (mpI m tops)),Z (.lst (mpI m bots)),some (.h h),Z (.int ((p:Nat):Int)),g,c] (st++u)=some (.h h,st++u) from U,qaa,this];rfl
   obtain⟨P,a2⟩:=J u h [] g c hg y (by decide);obtain⟨w,h',k,j,q,A,D,i3⟩:=kM H hb ps [p] _ h (Z (.int ((p:Nat):Int))) g c E (λx F=>by rw[qal.mp F];exact t) a2 y (by simp at K ⊢;lia);refine⟨w,h',k,j,q,?_,by rw[leastR];exact D,i3⟩;have s:aV [f,Z (.lst (mpI m tops)),Z (.lst (mpI m bots)),some (.h h),Z (.int ((p:Nat):Int)),g,c] (st++u)=_:=ai (bh O U) P;show cn (.nm 4) aV (.int ((p:Nat):Int)::psD ps) _ _=_;simp only[cn,R,qaa,s];exact A
  |cons v r=>
   have C:v<m:=T v qag;have O:cv cN (iV 3) [f,Z (.lst (mpI m tops)),Z (.lst (mpI m bots)),some (.h h),Z (.int ((p:Nat):Int)),g,c] (st++u)=some (true,st++u):=by
    have:=Dq (st++u) hg
    simp only[cv,show iV 3 [f,Z (.lst (mpI m tops)),Z (.lst (mpI m bots)),some (.h h),Z (.int ((p:Nat):Int)),g,c] (st++u)=some (.h h,st++u) from U,qaa,this];rfl
   have i0:∀ g c,iOp dIx (iV 3) (iC (.int 0)) [f,Z (.lst (mpI m tops)),Z (.lst (mpI m bots)),some (.h h),Z (.int ((p:Nat):Int)),g,c] (st++u)=some (.d (.int ((v:Nat):Int)),st++u):=λ_ _=>ac U U (FU (st++u) hg);have Y:ay (.nm 5) (iOp a9 (iOp dIx (iV 1) (iV 4)) (iOp dIx (iV 2) (iOp dIx (iV 3) (iC (.int 0))))) [f,Z (.lst (mpI m tops)),Z (.lst (mpI m bots)),some (.h h),Z (.int ((p:Nat):Int)),g,c] (st++u)=some _:=
    aj (ac (ac U U (eL _ t)) (ac U (i0 _ _) (eL _ C)) (bL _ (Sm.mulOk (H p t) (hb v C))))
   have V:ay (.nm 6) (iOp a9 (iOp dIx (iV 1) (iOp dIx (iV 3) (iC (.int 0)))) (iOp dIx (iV 2) (iV 4))) [f,Z (.lst (mpI m tops)),Z (.lst (mpI m bots)),some (.h h),Z (.int ((p:Nat):Int)),Z (.int (tops p*bots v)),c] (st++u)=some (.nx [f,Z (.lst (mpI m tops)),Z (.lst (mpI m bots)),some (.h h),Z (.int ((p:Nat):Int)),Z (.int (tops p*bots v)),Z (.int (tops v*bots p))] (st++u)):=
    aj (ac (ac U (i0 _ _) (eL _ C)) (ac U U (eL _ t)) (bL _ (Sm.mulOk (H v C) (hb p t))))
   generalize hM:tops p*bots v=M at *;generalize X:tops v*bots p=B at *;have L:aC dGt (iV 5) (iV 6) [f,Z (.lst (mpI m tops)),Z (.lst (mpI m bots)),some (.h h),Z (.int ((p:Nat):Int)),Z (.int M),Z (.int B)] (st++u)=some (decide (M > B),st++u):=ak U U (DH _ _ _);have tl:aC dLt (iV 5) (iV 6) [f,Z (.lst (mpI m tops)),Z (.lst (mpI m bots)),some (.h h),Z (.int ((p:Nat):Int)),Z (.int M),Z (.int B)] (st++u)=some (decide (M<B),st++u):=ak U U (zM _ _ _);by_cases c1:M > B
   ·rw[decide_eq_true c1]at L
    obtain⟨w,h',k,j,q,A,D,i3⟩:=kM H hb ps (v::r) u h (Z (.int ((p:Nat):Int))) (Z (.int M)) (Z (.int B)) E T hg y (by lia);refine⟨w,h',k,j,q,?_,by rw[leastR,hM,X,iFP c1];exact D,i3⟩;have s:aV [f,Z (.lst (mpI m tops)),Z (.lst (mpI m bots)),some (.h h),Z (.int ((p:Nat):Int)),g,c] (st++u)=some (.ct [f,Z (.lst (mpI m tops)),Z (.lst (mpI m bots)),some (.h h),Z (.int ((p:Nat):Int)),Z (.int M),Z (.int B)] (st++u)):=by
     have I:aY (cv cN (iV 3)) (ah (ay (.nm 5) (iOp a9 (iOp dIx (iV 1) (iV 4)) (iOp dIx (iV 2) (iOp dIx (iV 3) (iC (.int 0)))))) (ah (ay (.nm 6) (iOp a9 (iOp dIx (iV 1) (iOp dIx (iV 3) (iC (.int 0)))) (iOp dIx (iV 2) (iV 4)))) (ah (aY (aC dGt (iV 5) (iV 6)) qu aQ) (aY (aC dLt (iV 5) (iV 6)) (ay (.nm 3) (db (bT ae))) aQ)))) aQ [f,Z (.lst (mpI m tops)),Z (.lst (mpI m bots)),some (.h h),Z (.int ((p:Nat):Int)),g,c] (st++u)=some (.ct [f,Z (.lst (mpI m tops)),Z (.lst (mpI m bots)),some (.h h),Z (.int ((p:Nat):Int)),Z (.int M),Z (.int B)] (st++u)):=by
      refine ca O (ai Y (ai V ?_))
      have:=ca (a:=qu) (b:=aQ) L U
      simp only[ah,this];rfl
     show ah _ _ _ _=_;simp only[ah,I];rfl
    show cn (.nm 4) aV (.int ((p:Nat):Int)::psD ps) _ _=_;simp only[cn,R,qaa,s];exact A
   ·rw[decide_eq_false c1]at L
    by_cases c2:M<B
    ·rw[decide_eq_true c2]at tl
     have hn:lg (st++(u++[.l []])) (st++u).length=some (psD []):=by rw[<-qbB];exact dH _ _
     have G:st.length<=(st++u).length:=by rw[qaB];lia
     obtain⟨P,a2⟩:=J (u++[.l []]) (st++u).length [] (Z (.int M)) (Z (.int B)) hn G (by decide);obtain⟨w,h',k,j,q,A,D,i3⟩:=kM H hb ps [p] _ (st++u).length (Z (.int ((p:Nat):Int))) (Z (.int M)) (Z (.int B)) E (λx F=>by rw[qal.mp F];exact t) a2 G (by simp at K ⊢;lia);refine⟨w,h',k,j,q,?_,by rw[leastR,hM,X,iFN c1,iFP c2];exact D,i3⟩;have sn:ay (.nm 3) (db (bT ae)) [f,Z (.lst (mpI m tops)),Z (.lst (mpI m bots)),some (.h h),Z (.int ((p:Nat):Int)),Z (.int M),Z (.int B)] (st++u)=some (.nx [f,Z (.lst (mpI m tops)),Z (.lst (mpI m bots)),some (.h (st++u).length),Z (.int ((p:Nat):Int)),Z (.int M),Z (.int B)] (st++(u++[.l []]))):=by rw[<-qbB];rfl
     have s:aV [f,Z (.lst (mpI m tops)),Z (.lst (mpI m bots)),some (.h h),Z (.int ((p:Nat):Int)),g,c] (st++u)=_:=ai (ca O (ai Y (ai V (ai (bh L U) (ca tl sn))))) P;show cn (.nm 4) aV (.int ((p:Nat):Int)::psD ps) _ _=_;simp only[cn,R,qaa,s];exact A
    ·rw[decide_eq_false c2]at tl
     obtain⟨P,a2⟩:=J u h (v::r) (Z (.int M)) (Z (.int B)) hg y (by rw[qaq]at K ⊢;lia)
     obtain⟨w,h',k,j,q,A,D,i3⟩:=kM H hb ps ((v::r)++[p]) _ h (Z (.int ((p:Nat):Int))) (Z (.int M)) (Z (.int B)) E (λx F=>by
      rcases qaO.mp F with z|z
      ·exact T x z
      ·rw[qal.mp z];exact t) a2 y (by rw[qaB,qbT];lia)
     refine⟨w,h',k,j,q,?_,by rw[leastR,hM,X,iFN c1,iFN c2];exact D,i3⟩;have s:aV [f,Z (.lst (mpI m tops)),Z (.lst (mpI m bots)),some (.h h),Z (.int ((p:Nat):Int)),g,c] (st++u)=_:=ai (ca O (ai Y (ai V (ai (bh L U) (bh tl U))))) P;show cn (.nm 4) aV (.int ((p:Nat):Int)::psD ps) _ _=_;simp only[cn,R,qaa,s];exact A
theorem F4 (H:∀ i,i<m->Sm (tops i)) (hb:∀ i,i<m->Sm (bots i)) {ps:List Nat} (S:∀ x∈ps,x<m) (K:ps.length<=1000):fQ [.d (.lst (psD ps)),.d (.lst (mpI m tops)),.d (.lst (mpI m bots))] st=some (.d (.lst (psD (leastR tops bots ps []))),st):=by
 obtain⟨w,h',k,j,q,A,D,i3⟩:=kM H hb ps [] [.l []] st.length none none none S (λx F=>nomatch F) (dH st []) (qap _) (by simpa using K)
 have:=mL (n:=7) (b:=ju) (ws:=[.d (.lst _),.d _,.d _]) U (ai U (ai (bq U A) U)) i3 D
 rw[qcN]at this;exact this
end
end Own
set_option maxHeartbeats 1000000
namespace Own
open PySem L2
open Sx (Pb Tb Good Named Fe LV ZV piv lexP leastR leaveL sumN unit colV basis)
theorem wA (s:Sto) (i:Int):iy s (.d (.int i)) (.d .non)=some (.bl false):=rfl
theorem rJ (s:Sto):iy s (.d .non) (.d .non)=some (.bl true):=rfl
theorem BB (s:Sto) (l:List D):iy s (.d (.tup l)) (.d .non)=some (.bl false):=rfl
def eV (n:Nat):Nat->D
 |0=>.non
 |r+1=>.int (((n+r:Nat)):Int)
theorem yE (n m:Nat):D.non::bi (n:Int) m=(qak (m+1)).map (eV n):=by
 rw[qdA,qaw,qaP]
 congr 1
theorem j7 (st:Sto) (ds:List D):a8 st [.d (.lst ds)]=some (.int (ds.length:Nat)):=rfl
theorem pP {P:Pb}{S:Tb}{st:Sto} (h:Okt P S):d9 [.d (obD P S)] st=some (.d (.lst ((qak (P.m+1)).map (eV P.n))),st):=by
 have hm:=h.m64;have hn:=h.n64;have b:iV 0 [some _] st=some (.d (obD P S),st):=rfl;have a:=bX b;refine av U (aF (ac (x:=.d (.lst [.non])) (y:=.d (.lst (bi (P.n) P.m))) (s1:=st) U (ar ?_) ?_))
 ·show rE _ [some _] st=_
  have e:aa (az "amounts" (iV 0)) (aa (iOp bf (az "amounts" (iV 0)) (iCB a8 (aa (az "lines" (iV 0)) ae))) ae) [Z (obD P S)] st=some ([.d (.int (P.n)),.d (.int ((P.n)+(P.m)))],st):=by
   refine ab a (ab (ac a (aG (ab (cP b) U) (j7 _ _)) ?_) U);rw[cG];rfl
  simp only[rE,e,qaa];rw[iFP (by lia),show (_+_ - (P.n:Int)).toNat=P.m by lia]
 ·rw[<-yE]
  exact eB st (by rw[c8];simp;lia)
theorem DO {n k:Nat}{f:Nat->Nat}:inD (.int (k:Int)) (mpI n (nI f))=decide (∃ c,c<n/\f c=k):=by
 rw[qeI];unfold inD mpI;rw[List.any_map,qeu,decide_eq_true_eq];constructor
 ·rintro⟨c,a,e⟩
  refine⟨c,qaR.mp a,?_⟩;have e:(((f c):Int)==_)=true:=e;lia
 ·rintro⟨c,a,e⟩
  refine⟨c,qaR.mpr a,?_⟩;show (((f c):Int)==_)=true;rw[e];exact beq_self_eq_true _
theorem DL {n k:Nat}{f:Nat->Nat} (h:∃ c,c<n/\f c=k):∃ c,c<n/\f c=k/\((qak n).map (nI f)).idxOf? (k:Int)=some c:=by
 obtain⟨c,d,e⟩:=h;cases q:((qak n).map (nI f)).idxOf? _ with
 |none=>
  have:=List.idxOf?_eq_none_iff.mp q
  exact absurd (qaD.mpr ⟨c,qaR.mpr d,by unfold nI;rw[e]⟩) this
 |some j=>
  obtain⟨b,a,_⟩:=qgu.mp q;rw[qah,qat]at b;refine⟨j,b,?_,U⟩;rw[qhR,qhu]at a;have a:((f j):Int)=_:=a;lia
theorem iP {P:Pb}{S:Tb} (h:Good P S) {i j:Nat} (hi:i<P.m) (c:j<P.m) (e:S.kept i=S.kept j):i=j:=by
 rcases Nat.decEq i j with a|b
 ·have:=h.pos
  rw[h.dt,(Sx.det_eq0 _ hi c a (by unfold basis;rw[e]))]at this;exact absurd this (by decide)
 ·exact b
theorem C9 {P:Pb}{S:Tb}{st:Sto} (h:Okt P S) {s:Nat} (E:s<=P.m):cX [.d (obD P S),.d (eV P.n s)] st=some (.d (.lst (mpI P.m λi=>LV P S i s)),st):=by
 have hg:=h.good;have hm:=h.m64;have hn:=h.n64;cases s with
 |zero=>
  have e:mpI P.m (λi=>LV P S i 0)=mpI P.m λi=>S.T i P.n:=bF λi hi=>by
   have e:=hg.entry (qap _) hi;have c1:colV P S P.n=P.b:=by unfold Sx.colV;rw[iFN (qbd _)]
   rw[c1]at e;unfold LV Sx.XV;rw[iFP U,<-e]
  rw[e];refine av (n:=3) (k:=2) (b:=gx) U (fC (ca (s:=st) (ak (x:=.d .non) U U (rJ st)) (aF (ar (aL (aS (cP (P:=P) (S:=S) (st:=st) (a:=iV 0) U)) (by rw[cG];lia) ?_)))));exact hJ _ λi _=>ac U U (wB st)
 |succ r=>
  have u:r<P.m:=by lia
  have t:∀ o,iV 0 [some _,Z (.int ((P.n+r:Nat))),o] st=some (.d (obD P S),st):=λ_=>rfl;have w:=mB (t none);have g:Sx.XV P (r+1)=unit r:=by unfold Sx.XV;rw[iFN (by lia),qcT]
  have tI:aC dIn (iV 1) (az "free" (iV 0)) [Z (obD P S),Z (.int ((P.n+r:Nat))),none] st=some (decide (∃ c,c<P.n/\S.free c=P.n+r),st):=by
   refine ak U w ?_;simp only[dIn,gX,cK,ux,qaa,and_self,if_true,DO]
  refine av (n:=3) (k:=2) (b:=gx) U (ai (bh (ak U U (wA st _)) U) ?_);by_cases p:∃ c,c<P.n/\S.free c=P.n+r
  ·rw[decide_eq_true p]at tI
   obtain⟨c,y,B,l⟩:=DL p;have e:mpI P.m (λi=>LV P S i _)=mpI P.m λi=>S.T i c:=bF λi hi=>by
    have e:=hg.entry (c:=c) (by lia) hi;have c1:colV P S c=unit r:=by unfold Sx.colV;rw[iFP y,B,h.named.one r u]
    rw[c1]at e;unfold LV;rw[g,<-e]
   rw[e];have C:ay (.nm 2) (zo (az "free" (iV 0)) (aa (iV 1) ae)) [Z (obD P S),Z (.int ((P.n+r:Nat))),none] st=some (.nx [Z (obD P S),Z (.int ((P.n+r:Nat))),Z (.int (c))] st):=by
    refine aj ?_;have A:aT (mpI P.n (nI S.free))=some ((qak P.n).map (nI S.free)):=by rw[bK];exact be _
    simp only[zo,w,qaa,show aa (iV 1) ae [some _,some _,none] st=some ([.d _],st) from U,A];rw[iFP (by rw[qah,qat];lia),l];rfl
   refine fC (ca tI (ai C (aF (ar (aL (aS (cP (P:=P) (S:=S) (t _))) (by rw[cG];lia) ?_)))));exact hJ _ λi _=>ac U U (ud st (by lia))
  ·rw[decide_eq_false p]at tI
   obtain⟨j,v,q⟩:∃ j,j<P.m/\S.kept j=P.n+r:=(h.named.all _ (by lia)).elim (λz=>absurd z p) id;have e:mpI P.m (λi=>LV P S i _)=mpI P.m λi=>if S.kept i=P.n+r then S.p else 0:=bF λi hi=>by
    have e:=Sx.det_kept hg hi v;have c1:basis P S j=unit r:=by unfold Sx.basis;rw[q,h.named.one r u]
    rw[c1]at e;unfold LV;rw[g,e];by_cases f:i=j
    ·rw[iFP f,iFP (by rw[f];exact q)]
    ·rw[iFN f,iFN λz=>f (iP hg hi v (z.trans q.symm))]
   rw[e];refine ai (bh tI U) (aF (ar (aL (aS (qP (P:=P) (S:=S) (t none))) (by rw[aD];lia) ?_)));refine hJ (λi=>D.int _) λi _=>?_;have te:aC dEq (iV 0) (iV 1) [Z (.int (nI S.kept i)),Z (.int ((P.n+r:Nat):Int)),Z (obD P S)] st=some (decide (S.kept i=P.n+r),st):=by
    refine ak U U ?_;rw[cr]
    congr 2
    unfold nI;lia
   by_cases m:S.kept i=P.n+r
   ·rw[decide_eq_true m]at te
    rw[iFP m];exact pq te (mD (P:=P) (S:=S) (st:=st) (a:=iV 2) U)
   ·rw[decide_eq_false m]at te
    rw[iFN m];exact r8 te U
theorem wq (m:Nat) (f:Nat->Int):bY 0 (mpI m f)=(qak m).map λi=>D.tup [.int ((i:Nat):Int),.int (f i)]:=by
 apply qbA;intro i;rw[d7,qaC];by_cases hi:i<m
 ·rw[bg hi,qbh hi,qbj];rfl
 ·rw[qaF (by rw[aD];lia),qaF (by rw[qat];lia)];rfl
theorem vF {tt:Tf}{te:Ef}{l:Ev}{st:Sto}{g:Nat->D×D} (p:Nat->Bool) (F:Nat->D):∀ {ks:List Nat},(∀ k∈ks,tt (Z (g k).1::some (.d (g k).2)::l) st=some (p k,st)/\(p k=true->te (Z (g k).1::some (.d (g k).2)::l) st=some (.d (F k),st)))->
  lcI (.tp [0,1]) tt te (none::none::l) (ks.map λk=>D.tup [(g k).1,(g k).2]) st=some ((ks.filter p).map F,st)
 |[],_=>rfl
 |k::ks,h=>by
  have a:=vF p F λx b=>h x (qai _ b);obtain⟨e,c⟩:=h k qag;rw[qaw];unfold lcI;rw[show eZ _ _ _=some (some _::some _::l) from U,qaa,e,qaa];cases hp:p k with
  |true=>rw[c hp,qaa,a,qcE hp];rfl
  |false=>rw[iFN (show ¬ (false=true) by decide),a,qcF (by rw[hp];decide)]
def jv (P:Pb) (S:Tb) (c:Nat):List Nat:=(qak P.m).filter λi=>decide (S.T i c > 0)
def gJ (P:Pb) (S:Tb) (c:Nat):List Nat:=leaveL (λs i=>LV P S i s) (λi=>S.T i c) (qak (P.m+1)) (jv P S c)
theorem eM {tops bots:Nat->Int}{m:Nat}:∀ {ps least:List Nat},(∀ x∈ps,x<m)->(∀ x∈least,x<m)->(∀ x∈leastR tops bots ps least,x<m)/\(leastR tops bots ps least).length<=ps.length+least.length
 |[],least,_,h=>by rw[leastR];exact⟨h,by simp⟩
 |p::ps,[],d,_=>by
  rw[leastR]
  have:=eM (tops:=tops) (bots:=bots) (λx a=>d x (qai _ a)) λx a=>by rw[qal.mp a];exact d p qag
  exact⟨this.1,by simp at this ⊢;lia⟩
 |p::ps,f::r,d,e=>by
  have b:=λx a=>d x (qai _ a);have c:=d p qag;rw[leastR];split
  ·have:=eM (tops:=tops) (bots:=bots) b e
   exact⟨this.1,by simp at this ⊢;lia⟩
  ·split
   ·have:=eM (tops:=tops) (bots:=bots) b λx a=>by rw[qal.mp a];exact c
    exact⟨this.1,by simp at this ⊢;lia⟩
   ·have:=eM (tops:=tops) (bots:=bots) b λx a=>by
     rcases qaO.mp a with z|z
     ·exact e x z
     ·rw[qal.mp z];exact c
    exact⟨this.1,by simp at this ⊢;lia⟩
section
variable {P:Pb}{S:Tb}{st:Sto}{c:Nat}
theorem wK (h:Okt P S) (v:c<=P.n):∀ (w ps:List Nat) (p:Option W),(∀ s∈w,s<=P.m)->(∀ x∈ps,x<P.m)->ps.length<=1000->
  ∃ o,cn (.nm 4) ft (w.map (eV P.n)) [Z (obD P S),Z (.int (c:Int)),Z (.lst (mpI P.m λi=>S.T i c)),Z (.lst (psD ps)),p] st=some (.nx [Z (obD P S),Z (.int (c:Int)),Z (.lst (mpI P.m λi=>S.T i c)),Z (.lst (psD (leaveL (λs i=>LV P S i s) (λi=>S.T i c) w ps))),o] st)
 |[],ps,p,_,_,_=>⟨p,U⟩
 |s::w,ps,p,y,H,u=>by
  have f:eZ (.nm 4) _ [some _,some _,some _,some _,p]=some [Z (obD P S),Z (.int (c)),Z (.lst (mpI P.m λi=>S.T i c)),Z (.lst (psD ps)),Z (eV P.n s)]:=rfl;have B:aC dLt (iCB a8 (aa (iV 3) ae)) (iC (.int 2)) [Z (obD P S),Z (.int (c)),Z (.lst (mpI P.m λi=>S.T i c)),Z (.lst (psD ps)),Z (eV P.n s)] st=some (decide (ps.length<2),st):=by
   refine ak (aG U (j7 _ _)) U ?_;rw[wX,zM]
   congr 2
   lia
  rw[qaw,leaveL];by_cases q:ps.length<2
  ·rw[decide_eq_true q]at B
   rw[iFP q];refine⟨some (.d (eV P.n s)),?_⟩;have hb:ft [Z (obD P S),Z (.int (c)),Z (.lst (mpI P.m λi=>S.T i c)),Z (.lst (psD ps)),Z (eV P.n s)] st=some (.bk [Z (obD P S),Z (.int (c)),Z (.lst (mpI P.m λi=>S.T i c)),Z (.lst (psD ps)),Z (eV P.n s)] st):=by
    have:=ca (a:=vw) (b:=aQ) B U
    show ah _ _ _ _=_;simp only[ah,this];rfl
   simp only[cn,f,qaa,hb]
  ·rw[decide_eq_false q]at B
   rw[iFN q];have m:=eM (tops:=λi=>LV P S i s) (bots:=λi=>S.T i c) (least:=[]) H (λx A=>nomatch A)
   obtain⟨o,K⟩:=wK h v w _ _ (λx A=>y x (qai _ A)) m.1 (by have:=m.2;simp at this;lia);refine⟨o,?_⟩;have hb:ft [some _,some _,some _,some _,some _] st=some _:=
    ai (bh B U) (aj (ag (ab U (ab (ag U (C9 h (y s qag))) (ab U U))) (F4 (λi hi=>h.sL i s hi (y s qag)) (λi hi=>h.sT i c hi v) H u)))
   simp only[cn,f,qaa,hb];exact K
def zH (l:List Nat):D:=match l with
 |[]=>.non
 |r::_=>.int ((r:Nat):Int)
theorem vK (h:Okt P S) (v:c<=P.n):ji [.d (obD P S),.d (.int (c:Int))] st=some (.d (zH (gJ P S c)),st):=by
 have hm:=h.m64;have G:bZ (aa (iV 2) ae) [Z (obD P S),Z (.int (c)),Z (.lst (mpI P.m λi=>S.T i c)),none,none] st=some ((qak P.m).map λi=>D.tup [.int ((i:Nat)),.int (S.T i c)],st):=by
  rw[<-wq];rfl
 have F:∀ x∈jv P S c,x<P.m:=λx A=>qaR.mp (qbN.mp A).1;have E:(jv P S c).length<=1000:=by
  have:(jv P S c).length<=(qak P.m).length:=qb9 ..
  rw[qat]at this;lia
 obtain⟨p,L⟩:=wK (st:=st) h v (qak (P.m+1)) (jv P S c) none (λs y=>by have:=qaR.mp y;lia) F E;have hw:=pP (st:=st) h;have C:aB (aq d9 (aa (iV 0) ae)) [Z (obD P S),Z (.int (c:Int)),Z (.lst (mpI P.m λi=>S.T i c)),Z (.lst (psD (jv P S c))),none] st=some ((qak (P.m+1)).map (eV P.n),st):=aS (ag (ws:=[.d (obD P S)]) U hw);refine av (n:=5) (k:=2) (b:=qj) U (ai (aj (ar (aL (aS (cP (P:=P) (S:=S) (env:=[some _,Z (.int (c)),none,none,none]) (st:=st) (a:=iV 0) U)) (by rw[cG];lia) (hJ _ λi _=>ac U U (ud st v))))) (ai (aj (ar (aL G (by rw[qah,qat];lia) (vF (g:=λi=>(D.int ((i:Nat):Int),.int (S.T i c))) (λi=>decide (S.T i c > 0)) (λi=>D.int ((i:Nat):Int)) λi _=>⟨ak U U (DH _ _ _),λ_=>rfl⟩)))) (ai (bq C L) (aF ?_))));show jK _ _ _ [some _,some _,some _,Z (.lst (psD (gJ P S c))),p] st=_;cases gJ P S c with
 |nil=>rfl
 |cons r l=>exact pq U (ac U U (Fp _ _))
theorem vI (u:∀ i,i<P.m->S.T i c<=0):gJ P S c=[]:=by
 have:jv P S c=[]:=by
  unfold jv;rw[qgH];intro i hi
  have:=u i (qaR.mp hi)
  lia
 unfold gJ;rw[this,qdA,leaveL,iFP (by decide)]
theorem vJ (h:Okt P S) (hA:∀ i,i<P.m->∀ t,P.m<=t->P.A (S.kept i) t=0) (u:¬ ∀ i,i<P.m->S.T i c<=0) :
  ∃ r,gJ P S c=[r]/\r<P.m/\0<S.T r c/\∀ i,i<P.m->i≠r->0<S.T i c->lexP (P.m+1) λs=>S.T r c*LV P S i s - S.T i c*LV P S r s:=by
 have I:∀ i,i∈jv P S c↔i<P.m/\0<S.T i c:=λi=>by
  unfold jv;rw[qbN,qaR,decide_eq_true_eq]
 obtain⟨r,J,q⟩:=Sx.leaving_ok h.good hA I (qiG qe1 List.nodup_range) (λe=>u λi hi=>by
  have:¬ _:=λz=>by
   have:=(I i).mpr z
   rw[e]at this;exact absurd this qbP
  lia)
 refine⟨r,?_,q⟩;rw[<-J];unfold gJ;rw[show (λj=>0+j)=id by funext j;simp,qg8]
end
end Own
set_option maxHeartbeats 1000000
namespace Own
open PySem L2
open Sx (Pb Tb Good Named Fe LV ZV piv lexP leastR leaveL sumN unit colV basis)
theorem iO (s:Sto) (a b:D):dIx s (.d (.tup [a,b])) (.d (.int 0))=some a:=rfl
theorem f8 (s:Sto) (a b:D):dIx s (.d (.tup [a,b])) (.d (.int 1))=some b:=rfl
theorem EL {a:Af}{env:Ev}{st s:Sto}{ws:List W}{ds:List D} (c:a env st=some (ws,s)) (h:sW ws=some ds) (b:ds.length<=1000):bb a env st=some (.d (.tup ds),s):=by
 simp only[bb,c,qaa,h,qao,b,if_true]
section
variable {P:Pb}{S:Tb}{st:Sto}
theorem Da (s:Sto) (a:Int):dNe s (.d (.int a)) (.d (.int 0))=some (.bl (!(a==0))):=rfl
theorem Sm.two {a b:Int} (ha:Sm a) (hb:Sm b):(a*b).natAbs<2^8000:=Ea (y:=4000) ha hb
theorem wv (h:Okt P S) {c1 o c2 g:Nat}{M B:Int} (l:o<P.m) (m:g<P.m) (hM:M.natAbs<2^8000) (hB:B.natAbs<2^8000):∀ (K:List Nat) (F q p:Option W),(∀ s∈K,s<=P.m)->
  (∃ b,cn (.nm 5) b8 (K.map (eV P.n)) [Z (obD P S),Z (.tup [.int (c1:Int),.int (o:Int)]),Z (.tup [.int (c2:Int),.int (g:Int)]),Z (.int M),Z (.int B),F,q,p] st=some (.rt (.d (.bl b)) st))\/
  ∃ e,cn (.nm 5) b8 (K.map (eV P.n)) [Z (obD P S),Z (.tup [.int (c1:Int),.int (o:Int)]),Z (.tup [.int (c2:Int),.int (g:Int)]),Z (.int M),Z (.int B),F,q,p] st=some (.nx e st)
 |[],F,q,p,_=>.inr ⟨_,U⟩
 |s::K,F,q,p,O=>by
  have E:=O s qag;have f:eZ (.nm 5) _ [some _,some _,some _,some _,some _,F,q,p]=some [Z (obD P S),Z (.tup [.int (c1),.int (o)]),Z (.tup [.int (c2),.int (g)]),Z (.int M),Z (.int B),Z (eV P.n s),q,p]:=rfl;have s6:ay (.nm 6) (aq cX (aa (iV 0) (aa (iV 5) ae))) [some _,Z (.tup [.int (c1),.int (o)]),Z (.tup [.int (c2),.int (g)]),Z (.int M),Z (.int B),some _,q,p] st=some _:=aj (ag U (C9 h E));have T:ay (.nm 7) (iOp j6 (iOp a9 (iV 4) (iOp dIx (iV 6) (iOp dIx (iV 2) (iC _)))) (iOp a9 (iV 3) (iOp dIx (iV 6) (iOp dIx (iV 1) (iC _))))) [Z (obD P S),Z (.tup [.int (c1),.int _]),Z (.tup [.int (c2),.int _]),some _,some _,Z (eV P.n s),Z (.lst (mpI P.m λi=>LV P S i s)),p] st=some _:=
   aj (ac (ac U (ac U (ac U U (f8 st _ _)) (eL st m)) (bL st (mulOk 8000 4000 hB (h.sL g s m E) (by decide)))) (ac U (ac U (ac U U (f8 st _ _)) (eL st l)) (bL st (mulOk 8000 4000 hM (h.sL o s l E) (by decide)))) U)
  generalize B*LV P S g s - M*LV P S o s=Zq at T;have Q:aC dNe (iV 7) (iC _) [Z (obD P S),Z (.tup [.int (c1),.int (o)]),Z (.tup [.int (c2),.int (g)]),Z (.int M),Z (.int B),Z (eV P.n s),Z (.lst (mpI P.m λi=>LV P S i s)),some _] st=some (!_,st):=ak U U (Da st Zq);rw[qaw];cases H:(Zq==0) with
  |false=>
   rw[H]at Q
   left
   refine⟨decide (Zq > 0),?_⟩;have hb:b8 [some _,some _,some _,some _,some _,some _,q,p] st=some _:=ai s6 (ai T (ca Q (aF (ac U U (DH st _ _)))));simp only[cn,f,qaa,hb]
  |true=>
   rw[H]at Q;have hb:b8 [some _,some _,some _,some _,some _,some _,q,p] st=some _:=ai s6 (ai T (bh Q U));simp only[cn,f,qaa,hb];exact (wv h l m hM hB K _ _ _ λx J=>O x (qai _ J))
theorem FI (h:Okt P S) {c1 o c2 g:Nat} (hc1:c1<P.n) (l:o<P.m) (hc2:c2<P.n) (m:g<P.m):∃ b,cf [.d (obD P S),.d (.tup [.int (c1:Int),.int (o:Int)]),.d (.tup [.int (c2:Int),.int (g:Int)])] st=some (.d (.bl b),st):=by
 have I:∀ n o4 F q p,iV 0 [some _,Z (.tup [.int (c1),.int (o)]),Z (.tup [.int (c2),.int (g)]),n,o4,F,q,p] st=some (.d (obD P S),st):=λ_ _ _ _ _=>rfl;have u:ay (.nm 3) (iOp a9 (iOp dIx _ (iOp dIx (iV 1) (iC _))) (iOp dIx (iOp dIx _ (iOp dIx (iV 2) (iC _))) (iOp dIx (iV 2) (iC _)))) [some _,some _,some _,none,none,none,none,none] st=some _:=
  aj (ac (ac (mC (I _ _ _ _ _)) (ac U U (iO st _ _)) (eL st (by lia))) (ac (ac (cP (I _ _ _ _ _)) (ac U U (f8 st _ _)) (ue st m)) (ac U U (iO st _ _)) (ud st (by lia))) (bL st (Sm.mulOk (h.sG c1 (by lia)) (h.sT g c2 m (by lia)))))
 have s4:ay (.nm 4) (iOp a9 (iOp dIx _ (iOp dIx (iV 2) (iC _))) (iOp dIx (iOp dIx _ (iOp dIx (iV 1) (iC _))) (iOp dIx (iV 1) (iC _)))) [some _,some _,some _,Z (.int (S.G c1*S.T g c2)),none,none,none,none] st=some _:=
  aj (ac (ac (mC (I _ _ _ _ _)) (ac U U (iO st _ _)) (eL st (by lia))) (ac (ac (cP (I _ _ _ _ _)) (ac U U (f8 st _ _)) (ue st l)) (ac U U (iO st _ _)) (ud st (by lia))) (bL st (Sm.mulOk (h.sG c2 (by lia)) (h.sT o c1 l (by lia)))))
 have N:aB (aq d9 (aa (iV 0) ae)) [some _,Z (.tup [.int (c1),.int (o)]),Z (.tup [.int (c2),.int (g)]),Z (.int (S.G c1*S.T g c2)),Z (.int (S.G c2*S.T o c1)),none,none,none] st=some ((qak _).map _,st):=aS (ag U (pP h));rcases wv h l m (Sm.two (h.sG c1 (by lia)) (h.sT g c2 m (by lia))) (Sm.two (h.sG c2 (by lia)) (h.sT o c1 l (by lia))) (qak (P.m+1)) none none none (λs O=>by have:=qaR.mp O;lia) with⟨b,e⟩|⟨e,he⟩
 ·exact⟨b,av U (ai u (ai s4 (fC (bq N e))))⟩
 ·exact⟨false,av U (ai u (ai s4 (ai (bq N he) U)))⟩
def lh (P:Pb) (S:Tb) (x:D):Prop:=x=.non\/∃ c r,c<P.n/\S.G c<0/\gJ P S c=[r]/\r<P.m/\0<S.T r c/\(∀ i,i<P.m->i≠r->0<S.T i c->lexP (P.m+1) λs=>S.T r c*LV P S i s - S.T i c*LV P S r s)/\x=.tup [.int (c:Int),.int (r:Int)]
theorem qX (h:Okt P S) (hA:∀ i,i<P.m->∀ t,P.m<=t->P.A (S.kept i) t=0):∀ (j k:Nat) (x:D) (G n:Option W),k+j=P.n->lh P S x->(x=.non->∀ c,c<k->0<=S.G c)->
  (∃ c,c<P.n/\S.G c<0/\(∀ i,i<P.m->S.T i c<=0)/\cn (.nm 2) bS ((qeZ k j).map λc=>D.int ((c:Nat):Int)) [Z (obD P S),Z x,G,n] st=some (.rt (.d (.tup [.int (c:Int),.non])) st))\/
  ∃ y R Y,lh P S y/\(y=.non->∀ c,c<P.n->0<=S.G c)/\cn (.nm 2) bS ((qeZ k j).map λc=>D.int ((c:Nat):Int)) [Z (obD P S),Z x,G,n] st=some (.nx [Z (obD P S),Z y,R,Y] st)
 |0,k,x,G,n,hk,J,w=>.inr ⟨x,G,n,J,by rw[<-hk];exact w,U⟩
 |j+1,k,x,G,n,hk,J,w=>by
  have A:k<P.n:=by lia
  have f:eZ (.nm 2) _ [some _,Z x,G,n]=some [Z (obD P S),Z x,Z (.int ((k:Nat):Int)),n]:=rfl;have I:∀ a b d,iV 0 [some _,a,b,d] st=some (.d (obD P S),st):=λ_ _ _=>rfl;have C:aC dGe (iOp dIx _ (iV 2)) (iC (.int 0)) [some _,Z x,some _,n] st=some (decide (S.G k>=0),st):=ak (ac (mC (I _ _ _)) U (eL st (by lia))) U (FH st _ _);rw[List.range'_succ,qaw];by_cases hg:S.G k>=0
  ·rw[decide_eq_true hg]at C
   have hb:bS [Z (obD P S),Z x,Z (.int ((k:Nat):Int)),n] st=some (.ct [Z (obD P S),Z x,Z (.int ((k:Nat):Int)),n] st):=by
    have:=ca (a:=qu) (b:=aQ) C U
    show ah _ _ _ _=_;simp only[ah,this];rfl
   simp only[cn,f,qaa,hb]
   exact (qX h hA j (k+1) x (Z (.int ((k:Nat):Int))) n (by lia) J λe c hc=>by
    by_cases z:c=k
    ·rw[z];exact hg
    ·exact w e c (by lia))
  ·rw[decide_eq_false hg]at C
   have L:S.G k<0:=by lia
   have u:ay (.nm 3) (bb (aa (iV 2) (aa (aq ji (aa (iV 0) (aa (iV 2) ae))) ae))) [Z (obD P S),Z x,Z (.int ((k:Nat):Int)),n] st=some (.nx [Z (obD P S),Z x,Z (.int ((k:Nat):Int)),Z (.tup [.int ((k:Nat):Int),zH (gJ P S k)])] st):=
    aj (EL (ab U (ab (ag (ws:=[.d (obD P S),.d (.int ((k:Nat):Int))]) U (vK (st:=st) (c:=k) h (by lia))) U)) U (by show 2<=1000;decide))
   by_cases H:∀ i,i<P.m->S.T i k<=0
   ·rw[vI H]at u
    left
    refine⟨k,A,L,H,?_⟩;have hb:bS [Z (obD P S),Z x,Z (.int ((k:Nat):Int)),n] st=some (.rt (.d (.tup [.int ((k:Nat):Int),.non])) st):=ai (bh C U) (ai u (fC (ca (ak (ac U U (f8 st _ _)) U (rJ st)) U)));simp only[cn,f,qaa,hb]
   ·obtain⟨r,l1,l2,l3,l4⟩:=vJ h hA H
    rw[l1]at u;have tn:aC iy (iOp dIx (iV 3) (iC (.int 1))) (iC .non) [Z (obD P S),Z x,Z (.int ((k:Nat):Int)),Z (.tup [.int ((k:Nat):Int),.int ((r:Nat):Int)])] st=some (false,st):=ak (ac U U (f8 st _ _)) U (wA st _);have v:lh P S _:=.inr ⟨k,r,A,L,l1,l2,l3,l4,U⟩;have V:∃ y,lh P S y/\y≠.non/\bS [Z (obD P S),Z x,Z (.int ((k:Nat):Int)),n] st=some (.nx [Z (obD P S),Z y,Z (.int ((k:Nat):Int)),Z (.tup [.int ((k:Nat):Int),.int ((r:Nat):Int)])] st):=by
     rcases J with rfl|⟨c,r',c1,c2,c3,c4,c5,c6,rfl⟩
     ·have t1:aC iy (iV 1) (iC .non) [Z (obD P S),Z .non,Z (.int ((k:Nat):Int)),Z (.tup [.int ((k:Nat):Int),.int ((r:Nat):Int)])] st=some (true,st):=ak U U (rJ st)
      have t2:dh (aC iy (iV 1) (iC .non)) (cv cN (aq cf (aa (iV 0) (aa (iV 3) (aa (iV 1) ae))))) [Z (obD P S),Z .non,Z (.int ((k:Nat):Int)),Z (.tup [.int ((k:Nat):Int),.int ((r:Nat):Int)])] st=some (true,st):=by simp only[dh,t1,qaa,if_true]
      exact⟨_,v,by simp,ai (bh C U) (ai u (ai (bh tn U) (ca t2 U)))⟩
     ·obtain⟨b,eb⟩:=FI h A l2 c1 c4
      have t1:aC iy (iV 1) (iC .non) [Z (obD P S),Z (.tup [.int (c:Int),.int (r':Int)]),Z (.int ((k:Nat):Int)),Z (.tup [.int ((k:Nat):Int),.int ((r:Nat):Int)])] st=some (false,st):=ak U U (BB st _);have t3:aq cf (aa (iV 0) (aa (iV 3) (aa (iV 1) ae))) [some _,some _,Z (.int ((k:Nat):Int)),some _] st=some (.d (.bl b),st):=ag U eb;have t2:dh (aC iy (iV 1) (iC .non)) (cv cN (aq cf (aa (iV 0) (aa (iV 3) (aa (iV 1) ae))))) [Z (obD P S),Z (.tup [.int (c:Int),.int (r':Int)]),Z (.int ((k:Nat):Int)),Z (.tup [.int ((k:Nat):Int),.int ((r:Nat):Int)])] st=some (b,st):=by simp only[dh,t1,cv,t3,qaa,qbm,if_false,cN,qao]
      cases b with
      |true=>exact⟨_,v,by simp,ai (bh C U) (ai u (ai (bh tn U) (ca t2 U)))⟩
      |false=>exact⟨_,.inr ⟨c,r',c1,c2,c3,c4,c5,c6,U⟩,by simp,ai (bh C U) (ai u (ai (bh tn U) (bh t2 U)))⟩
    obtain⟨y,hy,X,hb⟩:=V;simp only[cn,f,qaa,hb];exact (qX h hA j (k+1) y (Z (.int ((k:Nat):Int))) (Z (.tup [.int ((k:Nat):Int),.int ((r:Nat):Int)])) (by lia) hy λe=>absurd e X)
theorem Ft (h:Okt P S) (hA:∀ i,i<P.m->∀ t,P.m<=t->P.A (S.kept i) t=0) :
  (∃ c,c<P.n/\S.G c<0/\(∀ i,i<P.m->S.T i c<=0)/\bO [.d (obD P S)] st=some (.d (.tup [.int (c:Int),.non]),st))\/
  ∃ y,lh P S y/\(y=.non->∀ c,c<P.n->0<=S.G c)/\bO [.d (obD P S)] st=some (.d y,st):=by
 have hn:=h.n64;have hr:bD (aa (iCB a8 (aa (az "free" (iV 0)) ae)) ae) [Z (obD P S),Z .non,none,none] st=some ((qeZ 0 P.n).map λc=>D.int ((c:Nat)),st):=by
  have e2:bi 0 P.n=(qeZ 0 P.n).map λc=>D.int ((c:Nat)):=by
   unfold bi;rw[qg0];exact qcm λk _=>by rw[qbW]
  rw[<-e2];exact (dM (aG (ab (mB U) U) (show a8 st [.d _]=some _ by rw[j7,aD])) (by lia) (by lia) (by lia))
 rcases qX h hA P.n 0 .non none none (by lia) (.inl rfl) (λ_ c hc=>absurd hc (by lia)) with⟨c,c1,c2,c3,e⟩|⟨y,G,n,y1,y2,e⟩
 ·exact .inl ⟨c,c1,c2,c3,av U (ai U (fC (bq hr e)))⟩
 ·exact .inr ⟨y,y1,y2,av U (ai U (ai (bq hr e) U))⟩
end
end Own
set_option maxHeartbeats 1000000
namespace Own
open PySem L2
open Sx (Pb Tb Good Named Fe LV ZV piv lexP leastR leaveL sumN unit colV basis)
theorem fm {n k:Nat} (h:k<n):ixN n (k:Int)=some k:=by
 unfold ixN;rw[iFP (by lia),iFP (by lia)];rfl
theorem Fd (n:Nat) (f g:Nat->Int):d6 (mpI n f) (mpI n g)=(qak n).map λc=>D.tup [.int (f c),.int (g c)]:=by
 apply qbA;intro i;rw[gw,qaC];by_cases hi:i<n
 ·rw[bg hi,bg hi,qbh hi];rfl
 ·rw[qaF (by rw[aD];lia),qaF (l:=qak n) (by rw[qat];lia)];rfl
theorem zF {te:Ef}{l:Ev}{st:Sto}{g:Nat->D×D} (F:Nat->D) {ks:List Nat} (h:∀ k∈ks,te (Z (g k).1::some (.d (g k).2)::l) st=some (.d (F k),st)) :
  lcI (.tp [0,1]) aJ te (none::none::l) (ks.map λk=>D.tup [(g k).1,(g k).2]) st=some (ks.map F,st):=by
 have:=vF (tt:=aJ) _ F λk a=>⟨U,λ_=>h k a⟩
 rw[this,qha.mpr λ_ _=>rfl]
theorem uT {st:Sto}{n e:Nat}{f g:Nat->Int}{p:Int} (j:e<=n) (w:0<p) (sp:Sm p) (m:∀ c,c<=n->Sm (f c)) (sg:∀ c,c<=n->Sm (g c)) (hn:n<=1000) :
  kP [.d (.lst (mpI (n+1) f)),.d (.lst (mpI (n+1) g)),.d (.int (e:Int)),.d (.int p)] st=some (.d (.lst (mpI (n+1) λc=>if c=e then - f e else (g e*f c - f e*g c) / p)),st):=by
 have a:e<n+1:=by lia
 have q:dC (aa (iV 0) (aa (iV 1) ae)) [Z (.lst (mpI (n+1) f)),Z (.lst (mpI (n+1) g)),Z (.int (e:Int)),Z (.int p),Z (.int (g e)),Z (.int (f e)),none] st=some ((qak (n+1)).map λc=>D.tup [.int (f c),.int (g c)],st):=by
  rw[<-Fd];rfl
 have x:lcI (.tp [0,1]) aJ lq [none,none,Z (.int (g e)),Z (.int (f e)),Z (.int p)] ((qak (n+1)).map λc=>D.tup [.int (f c),.int (g c)]) st=some (mpI (n+1) λc=>(g e*f c - f e*g c) / p,st):=by
  refine zF (g:=λc=>(D.int (f c),.int (g c))) _ λc r=>?_;have i:c<=n:=by have:=qaR.mp r;lia
  exact ac (ac (ac U U (bL st (Sm.mulOk (sg e j) (m c i)))) (ac U U (bL st (Sm.mulOk (m e j) (sg c i)))) U) U (rq st w sp)
 have y:ay (.nm 6) (db (iLc 2 [4,5,3] (dC (aa (iV 0) (aa (iV 1) ae))) (.tp [0,1]) aJ lq)) [Z (.lst (mpI (n+1) f)),Z (.lst (mpI (n+1) g)),Z (.int (e:Int)),Z (.int p),Z (.int (g e)),Z (.int (f e)),none] st=some (.nx [Z (.lst (mpI (n+1) f)),Z (.lst (mpI (n+1) g)),Z (.int (e:Int)),Z (.int p),Z (.int (g e)),Z (.int (f e)),some (.h st.length)] (st++[.l (mpI (n+1) λc=>(g e*f c - f e*g c) / p)])):=by
  refine aj ?_
  have:=aL (k:=2) (js:=[4,5,3]) q (by rw[qah,qat];lia) x
  simp only[db,this,qao]
 have o:bP (iV 6) (iV 2) (iUn ie (iV 5)) [Z (.lst (mpI (n+1) f)),Z (.lst (mpI (n+1) g)),Z (.int (e:Int)),Z (.int p),Z (.int (g e)),Z (.int (f e)),some (.h st.length)] (st++[.l (mpI (n+1) λc=>(g e*f c - f e*g c) / p)])=some (.nx [Z (.lst (mpI (n+1) f)),Z (.lst (mpI (n+1) g)),Z (.int (e:Int)),Z (.int p),Z (.int (g e)),Z (.int (f e)),some (.h st.length)] (st++[.l (mpI (n+1) λc=>if c=e then - f e else (g e*f c - f e*g c) / p)])):=by
  have u:ja (st++[.l (mpI (n+1) λc=>(g e*f c - f e*g c) / p)]) (.h st.length) (.d (.int (e:Int))) (.d (.int (- f e)))=some (st++[.l (mpI (n+1) λc=>if c=e then - f e else (g e*f c - f e*g c) / p)]):=by
   simp only[ja,dH,qaa,aD,fm a,qao,pB,gP]
  have v:iUn ie (iV 5) [Z (.lst (mpI (n+1) f)),Z (.lst (mpI (n+1) g)),Z (.int (e:Int)),Z (.int p),Z (.int (g e)),Z (.int (f e)),some (.h st.length)] _=some (.d (.int (- f e)),st++[.l (mpI (n+1) λc=>(g e*f c - f e*g c) / p)]):=rfl;have s:iV 6 [Z (.lst (mpI (n+1) f)),Z (.lst (mpI (n+1) g)),Z (.int (e:Int)),Z (.int p),Z (.int (g e)),Z (.int (f e)),some (.h st.length)] _=some (.h st.length,st++[.l (mpI (n+1) λc=>(g e*f c - f e*g c) / p)]):=rfl;have t:iV 2 [Z (.lst (mpI (n+1) f)),Z (.lst (mpI (n+1) g)),Z (.int (e:Int)),Z (.int p),Z (.int (g e)),Z (.int (f e)),some (.h st.length)] _=some (.d (.int (e:Int)),st++[.l (mpI (n+1) λc=>(g e*f c - f e*g c) / p)]):=rfl;simp only[bP,v,s,t,qaa,u,qao]
 have:=mL (n:=7) (k:=4) (b:=wk) (ws:=[.d (.lst (mpI (n+1) f)),.d (.lst (mpI (n+1) g)),.d (.int (e:Int)),.d (.int p)]) (st:=st) (h:=st.length) U (ai (aj (ac U U (eL st a))) (ai (aj (ac U U (eL st a))) (ai y (ai o U)))) (qap _) (dH _ _)
 rw[qcN]at this;exact this
abbrev stG (st0:Sto) (fr kp:List D) (fs:List (Str×W)):Sto:=st0++[.l fr,.l kp,.o fs]
def fsO (n:Nat) (a:List D) (b:List D) (p:Int) (L:Nat):List (Str×W):=[("amounts",.d (.int (n:Int))),("lines",.d (.lst a)),("goal",.d (.lst b)),("part",.d (.int p)),("free",.h L),("kept",.h (L+1))]
section
variable {st0:Sto}{fr kp:List D}{fs:List (Str×W)}
theorem sg2:(stG st0 fr kp fs)[st0.length+2]?=some (.o fs):=by rw[qaI (by lia)];simp
theorem sg0:lg (stG st0 fr kp fs) st0.length=some fr:=by unfold lg;rw[qaI (by lia)];simp
theorem sg1:lg (stG st0 fr kp fs) (st0.length+1)=some kp:=by unfold lg;rw[qaI (by lia)];simp
theorem ss2 {c:List (Str×W)}:(stG st0 fr kp fs).set (st0.length+2) (.o c)=stG st0 fr kp c:=by simp
theorem ss0 {x:List D}:(stG st0 fr kp fs).set st0.length (.l x)=stG st0 x kp fs:=by simp
theorem ss1 {x:List D}:(stG st0 fr kp fs).set (st0.length+1) (.l x)=stG st0 fr x fs:=by simp
theorem lS {f:Str}{w:W}{a:Ef}{env:Ev} (h:a env (stG st0 fr kp fs)=some (.h (st0.length+2),stG st0 fr kp fs)) (b:fs.lookup f=some w):az f a env (stG st0 fr kp fs)=some (w,stG st0 fr kp fs):=by
 simp only[az,h,qaa,sg2,b,qao]
theorem si {f:Str}{x:D}{o v:Ef}{env:Ev} (e:v env (stG st0 fr kp fs)=some (.d x,stG st0 fr kp fs)) (i:o env (stG st0 fr kp fs)=some (.h (st0.length+2),stG st0 fr kp fs)) (g:fs.length<1000) (b:(fs.lookup f).isSome=true):l5 f o v env (stG st0 fr kp fs)=some (.nx env (stG st0 fr kp (pj f (.d x) fs))):=by
 simp only[l5,e,i,qaa,sg2,g,b,and_self,if_true,ss2]
end
section
variable {n L:Nat}{a b c e:List D}{p f:Int}
theorem Cp:pj ("goal" : Str) (.d (.lst e)) (fsO n a b p L)=fsO n a e p L:=rfl
theorem Au:pj ("lines" : Str) (.d (.lst c)) (fsO n a b p L)=fsO n c b p L:=rfl
theorem Cq:pj ("part" : Str) (.d (.int f)) (fsO n a b p L)=fsO n a b f L:=rfl
theorem uo:(fsO n a b p L).lookup ("lines" : Str)=some (.d (.lst a)):=rfl
theorem BI:(fsO n a b p L).lookup ("goal" : Str)=some (.d (.lst b)):=rfl
theorem BJ:(fsO n a b p L).lookup ("part" : Str)=some (.d (.int p)):=rfl
end
def stO (st0:Sto) (P:Pb) (S:Tb):Sto:=stG st0 (mpI P.n (nI S.free)) (mpI P.m (nI S.kept)) (fsO P.n (aX P.m P.n S.T) (mpI (P.n+1) S.G) S.p st0.length)
theorem AY {st0:Sto}{P:Pb}{S:Tb}{ws:List W}{a:List W} (h:vwA (stO st0 P S) ws=some a):vwA (stO st0 P S) (.h (st0.length+2)::ws)=some (.d (obD P S)::a):=by
 have e:vwW (stO st0 P S) (.h (st0.length+2))=some (.d (obD P S)):=by
  unfold vwW stO;dsimp only;rw[sg2];dsimp only
  have:vwF (stG st0 (mpI P.n (nI S.free)) (mpI P.m (nI S.kept)) (fsO P.n (aX P.m P.n S.T) (mpI (P.n+1) S.G) S.p st0.length)) (fsO P.n (aX P.m P.n S.T) (mpI (P.n+1) S.G) S.p st0.length)=some [.int (P.n),.lst (aX P.m P.n S.T),.lst (mpI (P.n+1) S.G),.int S.p,.lst (mpI P.n (nI S.free)),.lst (mpI P.m (nI S.kept))]:=by
   simp only[fsO,vwF,qao,qaa];rw[sg0,sg1];rfl
  rw[this];rfl
 simp only[vwA,e,h,qaa,qao]
theorem yp {m n r:Nat}{F:Nat->Nat->Int}{g:Nat->Int}:((qak m).map λi=>D.lst (mpI (n+1) (F i))).set r (.lst (mpI (n+1) g))=aX m n λi=>if i=r then g else F i:=by
 apply qbA;intro i;by_cases hi:i<m
 ·rw[oI hi]
  by_cases e:i=r
  ·subst e
   rw[qbs (by rw[qah,qat];exact hi)];unfold lnD;dsimp only;rw[iFP U]
  ·rw[qbC (qbo e),qaC,qbh hi]
   unfold lnD;dsimp only;rw[iFN e];rfl
 ·rw[qaF (by rw[qb7,qah,qat];lia),qaF (by rw[cG];lia)]
theorem Bt {st0:Sto}{P:Pb}{S:Tb} (h:Okt P S) {r e:Nat} (u:r<P.m) (N:e<P.n):eQ [.h (st0.length+2),.d (.int (r:Int)),.d (.int (e:Int))] (stO st0 P S)=some (.d .non,stO st0 P (piv S r e)):=by
 have hm:=h.m64;have hn:=h.n64;have M:=h.good.pos
 -- turning,part
 generalize w:S.T=T at *;have fin:∀ (env:Ev) (s:Sto),jF [some _,some _,some _,none,none,none,none] _=some (.nx env s)->s.take (stO st0 P S).length=s->eQ [.h (st0.length+2),.d (.int (r)),.d (.int (e))] _=some (.d .non,s):=λenv s V h2=>by
  show (jF [some _,some _,some _,none,none,none,none] _).bind _=_;rw[V];show some (W.d .non,s.take (stO st0 P S).length)=_;rw[h2]
 have m:∀ (a b c d g i:Option W) (s:Sto),iV 0 [some _,a,b,c,d,g,i] s=some (.h (st0.length+2),s):=λ_ _ _ _ _ _ _=>rfl;have R:ay (.nm 3) (iOp dIx (az ("lines") (iV 0)) (iV 1)) [some (.h (st0.length+2)),some (.d (.int (r))),some (.d (.int (e))),none,none,none,none] (stO st0 P S)=some (.nx [some (.h (st0.length+2)),some (.d (.int (r))),some (.d (.int (e))),some (.d (.lst (mpI (P.n+1) (T r)))),none,none,none] (stO st0 P S)):=by
  refine aj (ac (lS (m _ _ _ _ _ _ _) uo) U ?_);rw[w];exact ue _ u
 have sT:∀ i c,i<P.m->c<=P.n->Sm (T i c):=λi c hi l=>by rw[<-w];exact h.sT i c hi l
 have C:iLc 1 [3,2,4] (aB (az ("lines" : Str) (iV 0))) (.nm 0) aJ dR [some (.h (st0.length+2)),some (.d (.int (r:Int))),some (.d (.int (e:Int))),some (.d (.lst (mpI (P.n+1) (T r)))),some (.d (.int S.p)),none,none] (stO st0 P S)=some ((qak P.m).map λi=>D.lst (mpI (P.n+1) λc=>if c=e then - T i e else (T r e*T i c - T i e*T r c) / S.p),stO st0 P S):=by
  refine aL (aS (lS (f:=("lines" : Str)) (a:=iV 0) (st0:=st0) (fr:=mpI P.n (nI S.free)) (kp:=mpI P.m (nI S.kept)) (fs:=fsO P.n (aX P.m P.n S.T) (mpI (P.n+1) S.G) S.p st0.length) (m (some (.d (.int (r:Int)))) (some (.d (.int (e:Int)))) (some (.d (.lst (mpI (P.n+1) (T r))))) (some (.d (.int S.p))) none none _) uo)) (by rw[cG];lia) ?_
  show lcI (.nm 0) aJ dR [none,some (.d (.lst (mpI (P.n+1) (T r)))),some (.d (.int (e:Int))),some (.d (.int S.p))] (aX P.m P.n S.T) (stO st0 P S)=_;rw[show aX P.m P.n S.T=(qak P.m).map (lnD P.n T) by rw[w];rfl];refine hJ (g:=lnD P.n T) _ λi hi=>?_;exact ag (ws:=[.d (lnD P.n T i),.d (.lst (mpI (P.n+1) (T r))),.d (.int (e:Int)),.d (.int S.p)]) U (uT (f:=T i) (g:=T r) (by lia) M h.sp (λc l=>sT i c (qaR.mp hi) l) (λc l=>sT r c u l) (by lia))
 have s5:i3 5 1 2 3 4 (iLc 1 [3,2,4] (aB (az ("lines" : Str) (iV 0))) (.nm 0) aJ dR) [some (.h (st0.length+2)),some (.d (.int (r:Int))),some (.d (.int (e:Int))),some (.d (.lst (mpI (P.n+1) (T r)))),some (.d (.int S.p)),none,none] (stO st0 P S)=some (.nx [some (.h (st0.length+2)),some (.d (.int (r:Int))),some (.d (.int (e:Int))),some (.d (.lst (mpI (P.n+1) (T r)))),some (.d (.int S.p)),some (.d (.lst (aX P.m P.n (piv S r e).T))),none] (stO st0 P S)):=by
  simp only[i3,C,qaa,qbR,qbv];rw[qah,qat,fm u,aD,fm (by lia:e<P.n+1),qaa,qaa,iFP ⟨by lia,by show 5<7;decide,ux _ _⟩,gP,yp];show some (Fl.nx [_,_,_,_,_,some (W.d (.lst (aX P.m P.n _))),none] _)=_
  have:(λi=>if i=r then (λj=>if j=e then S.p else T r j) else λc=>if c=e then - T i e else (T r e*T i c - T i e*T r c) / S.p)=(piv S r e).T:=by
   funext i c
   show _=if i=r then (if c=e then S.p else S.T r c) else _;rw[w];by_cases hi:i=r
   ·rw[iFP hi,iFP hi]
   ·rw[iFN hi,iFN hi]
  rw[this]
 have s6:=by
  have e0:=by
   funext c
   show _=if c=e then - S.G e else (S.T r e*S.G c - S.G e*S.T r c) / S.p;rw[w]
  have O:=uT (st:=stO st0 P S) (f:=S.G) (g:=T r) (n:=P.n) (e:=e) (by lia) M h.sp (λc l=>h.sG c l) (λc l=>sT r c u l) (by lia);rw[e0]at O
  have:=si (f:=("goal" : Str)) (o:=iV 0) (v:=aq kP (aa (az ("goal" : Str) (iV 0)) (aa (iV 3) (aa (iV 2) (aa (iV 4) ae))))) (st0:=st0) (fr:=mpI P.n (nI S.free)) (kp:=mpI P.m (nI S.kept)) (fs:=fsO P.n (aX P.m P.n S.T) (mpI (P.n+1) S.G) S.p st0.length) (ag (ab (lS (f:=("goal" : Str)) (a:=iV 0) (st0:=st0) (fr:=mpI P.n (nI S.free)) (kp:=mpI P.m (nI S.kept)) (fs:=fsO P.n (aX P.m P.n S.T) (mpI (P.n+1) S.G) S.p st0.length) (m (some (.d (.int (r:Int)))) (some (.d (.int (e:Int)))) (some (.d (.lst (mpI (P.n+1) (T r))))) (some (.d (.int S.p))) (some (.d (.lst (aX P.m P.n (piv S r e).T)))) none _) BI) (ab U (ab U (ab U U)))) O) (m _ _ _ _ _ _ _) (by show 6<1000;decide) U
  rw[Cp]at this;exact this
 have s7:=by
  have:=si (f:=("lines" : Str)) (o:=iV 0) (v:=iV 5) (x:=.lst (aX P.m P.n (piv S r e).T)) (env:=[some (.h (st0.length+2)),some (.d (.int (r:Int))),some (.d (.int (e:Int))),some (.d (.lst (mpI (P.n+1) (T r)))),some (.d (.int S.p)),some (.d (.lst (aX P.m P.n (piv S r e).T))),none]) (st0:=st0) (fr:=mpI P.n (nI S.free)) (kp:=mpI P.m (nI S.kept)) (fs:=fsO P.n (aX P.m P.n S.T) (mpI (P.n+1) (piv S r e).G) S.p st0.length) U U (by show 6<1000;decide) U
  rw[Au]at this;exact this
 have Q:l5 ("part" : Str) (iV 0) (iOp dIx (iV 3) (iV 2)) [some (.h (st0.length+2)),some (.d (.int (r:Int))),some (.d (.int (e:Int))),some (.d (.lst (mpI (P.n+1) (T r)))),some (.d (.int S.p)),some (.d (.lst (aX P.m P.n (piv S r e).T))),none] (stG st0 (mpI P.n (nI S.free)) (mpI P.m (nI S.kept)) (fsO P.n (aX P.m P.n (piv S r e).T) (mpI (P.n+1) (piv S r e).G) S.p st0.length))=some (.nx [some (.h (st0.length+2)),some (.d (.int (r:Int))),some (.d (.int (e:Int))),some (.d (.lst (mpI (P.n+1) (T r)))),some (.d (.int S.p)),some (.d (.lst (aX P.m P.n (piv S r e).T))),none] (stG st0 (mpI P.n (nI S.free)) (mpI P.m (nI S.kept)) (fsO P.n (aX P.m P.n (piv S r e).T) (mpI (P.n+1) (piv S r e).G) (piv S r e).p st0.length))):=by
  have X:(piv S r e).p=T r e:=by show S.T r e=_;rw[w]
  have:=si (f:=("part" : Str)) (o:=iV 0) (v:=iOp dIx (iV 3) (iV 2)) (x:=.int (T r e)) (env:=[some (.h (st0.length+2)),some (.d (.int (r:Int))),some (.d (.int (e:Int))),some (.d (.lst (mpI (P.n+1) (T r)))),some (.d (.int S.p)),some (.d (.lst (aX P.m P.n (piv S r e).T))),none]) (st0:=st0) (fr:=mpI P.n (nI S.free)) (kp:=mpI P.m (nI S.kept)) (fs:=fsO P.n (aX P.m P.n (piv S r e).T) (mpI (P.n+1) (piv S r e).G) S.p st0.length) (ac U U (eL _ (by lia))) U (by show 6<1000;decide) U
  rw[Cq]at this;rw[X];exact this
 generalize t:fsO P.n (aX P.m P.n (piv S r e).T) (mpI (P.n+1) (piv S r e).G) (piv S r e).p st0.length=FS at Q;generalize hLN:W.d (.lst (aX P.m P.n (piv S r e).T))=LN at *;generalize Y:W.d (.lst (mpI (P.n+1) (T r)))=TR at *;have y:∀ {fr kp:List D}{k:Nat}{d:D},fr[k]?=some d->dIx (stG st0 fr kp FS) (.h st0.length) (.d (.int (k:Int)))=some d:=λ{fr kp k d} J=>by
  show (lg (stG st0 fr kp FS) st0.length).bind (λds=>atI ds (k:Int))=_;rw[sg0,qaa,cO J]
 have z:∀ {fr kp:List D}{k:Nat}{d:D},kp[k]?=some d->dIx (stG st0 fr kp FS) (.h (st0.length+1)) (.d (.int (k:Int)))=some d:=λ{fr kp k d} J=>by
  show (lg (stG st0 fr kp FS) (st0.length+1)).bind (λds=>atI ds (k:Int))=_;rw[sg1,qaa,cO J]
 have K:FS.lookup ("free" : Str)=some (.h st0.length):=by rw[<-t];rfl
 have L:FS.lookup ("kept" : Str)=some (.h (st0.length+1)):=by rw[<-t];rfl
 have B:bP (az ("free" : Str) (iV 0)) (iV 2) (iOp dIx (az ("kept" : Str) (iV 0)) (iV 1)) [some (.h (st0.length+2)),some (.d (.int (r:Int))),some (.d (.int (e:Int))),some TR,some (.d (.int S.p)),some LN,some (.d (.int (nI S.free e)))] (stG st0 (mpI P.n (nI S.free)) (mpI P.m (nI S.kept)) FS)=some (.nx [some (.h (st0.length+2)),some (.d (.int (r:Int))),some (.d (.int (e:Int))),some TR,some (.d (.int S.p)),some LN,some (.d (.int (nI S.free e)))] (stG st0 (mpI P.n (nI (piv S r e).free)) (mpI P.m (nI S.kept)) FS)):=by
  have I:iOp dIx (az ("kept" : Str) (iV 0)) (iV 1) [some (.h (st0.length+2)),some (.d (.int (r:Int))),some (.d (.int (e:Int))),some TR,some (.d (.int S.p)),some LN,some (.d (.int (nI S.free e)))] (stG st0 (mpI P.n (nI S.free)) (mpI P.m (nI S.kept)) FS)=some (.d (.int (nI S.kept r)),stG st0 (mpI P.n (nI S.free)) (mpI P.m (nI S.kept)) FS):=ac (lS (m _ _ _ _ _ _ _) L) U (z (bg u))
  have A:=lS (f:=("free" : Str)) (a:=iV 0) (st0:=st0) (fr:=mpI P.n (nI S.free)) (kp:=mpI P.m (nI S.kept)) (fs:=FS) (m (some (.d (.int (r:Int)))) (some (.d (.int (e:Int)))) (some TR) (some (.d (.int S.p))) (some LN) (some (.d (.int (nI S.free e)))) _) K
  have E:iV 2 [some (.h (st0.length+2)),some (.d (.int (r:Int))),some (.d (.int (e:Int))),some TR,some (.d (.int S.p)),some LN,some (.d (.int (nI S.free e)))] (stG st0 (mpI P.n (nI S.free)) (mpI P.m (nI S.kept)) FS)=some (.d (.int (e:Int)),stG st0 (mpI P.n (nI S.free)) (mpI P.m (nI S.kept)) FS):=rfl;have H:ja (stG st0 (mpI P.n (nI S.free)) (mpI P.m (nI S.kept)) FS) (.h st0.length) (.d (.int (e:Int))) (.d (.int (nI S.kept r)))=some (stG st0 (mpI P.n (nI (piv S r e).free)) (mpI P.m (nI S.kept)) FS):=by
   simp only[ja,sg0,qaa,aD,fm N,qao,ss0,gP]
   congr 3
   funext j
   show _=(((if j=e then S.kept r else S.free j:Nat)):Int);by_cases q:j=e
   ·rw[iFP q,iFP q];rfl
   ·rw[iFN q,iFN q];rfl
  simp only[bP,I,A,E,qaa,H,qao]
 have F:bP (az ("kept" : Str) (iV 0)) (iV 1) (iV 6) [some (.h (st0.length+2)),some (.d (.int (r:Int))),some (.d (.int (e:Int))),some TR,some (.d (.int S.p)),some LN,some (.d (.int (nI S.free e)))] (stG st0 (mpI P.n (nI (piv S r e).free)) (mpI P.m (nI S.kept)) FS)=some (.nx [some (.h (st0.length+2)),some (.d (.int (r:Int))),some (.d (.int (e:Int))),some TR,some (.d (.int S.p)),some LN,some (.d (.int (nI S.free e)))] (stG st0 (mpI P.n (nI (piv S r e).free)) (mpI P.m (nI (piv S r e).kept)) FS)):=by
  have I:iV 6 [some (.h (st0.length+2)),some (.d (.int (r:Int))),some (.d (.int (e:Int))),some TR,some (.d (.int S.p)),some LN,some (.d (.int (nI S.free e)))] (stG st0 (mpI P.n (nI (piv S r e).free)) (mpI P.m (nI S.kept)) FS)=some (.d (.int (nI S.free e)),stG st0 (mpI P.n (nI (piv S r e).free)) (mpI P.m (nI S.kept)) FS):=rfl;have A:=lS (f:=("kept" : Str)) (a:=iV 0) (st0:=st0) (fr:=mpI P.n (nI (piv S r e).free)) (kp:=mpI P.m (nI S.kept)) (fs:=FS) (m (some (.d (.int (r:Int)))) (some (.d (.int (e:Int)))) (some TR) (some (.d (.int S.p))) (some LN) (some (.d (.int (nI S.free e)))) _) L
  have E:iV 1 [some (.h (st0.length+2)),some (.d (.int (r:Int))),some (.d (.int (e:Int))),some TR,some (.d (.int S.p)),some LN,some (.d (.int (nI S.free e)))] (stG st0 (mpI P.n (nI (piv S r e).free)) (mpI P.m (nI S.kept)) FS)=some (.d (.int (r:Int)),stG st0 (mpI P.n (nI (piv S r e).free)) (mpI P.m (nI S.kept)) FS):=rfl;have H:ja (stG st0 (mpI P.n (nI (piv S r e).free)) (mpI P.m (nI S.kept)) FS) (.h (st0.length+1)) (.d (.int (r:Int))) (.d (.int (nI S.free e)))=some (stG st0 (mpI P.n (nI (piv S r e).free)) (mpI P.m (nI (piv S r e).kept)) FS):=by
   simp only[ja,sg1,qaa,aD,fm u,qao,ss1,gP]
   congr 3
   congr 1
   funext j
   show _=(((if j=r then S.free e else S.kept j:Nat)):Int);by_cases q:j=r
   ·rw[iFP q,iFP q];rfl
   ·rw[iFN q,iFN q];rfl
  simp only[bP,I,A,E,qaa,H,qao]
 have:=fin _ _ (ai R (ai (aj (lS (m _ _ _ _ _ _ _) BJ)) (ai s5 (ai s6 (ai s7 (ai Q (ai (aj (ac (lS (m _ _ _ _ _ _ _) K) U (y (bg N)))) (ai B F)))))))) ?_
 ·rw[this,<-t];rfl
 ·refine qb3 ?_
  unfold stO stG;rw[qaB,qaB];exact qap _
end Own
namespace Sx
theorem sumN_abs {n:Nat}{f:Nat->Int}{B:Nat} (h:∀ k,k<n->(f k).natAbs<=B):(sumN n f).natAbs<=n*B:=by
 induction n with
 |zero=>rw[sumN];omega
 |succ n w=>
  rw[sumN,qjS];have q:=w λk e=>h k (by omega);have x:=h n (by omega);omega
theorem sg_abs (k:Nat):(sg k).natAbs=1:=by unfold sg;split<;>rfl
theorem det_le {B X:Nat}:∀ (m:Nat) {C:Nat->Vec},m*B<=X->(∀ k t,k<m->t<m->(C k t).natAbs<=B)->(det m C).natAbs<=X^m
 |0,C,_,_=>by exact qap _
 |m+1,C,o,h=>by
  have:=sumN_abs (f:=λk=>sg k*C k 0*det m _) λk e=>by
   rw[qdi,qdi,sg_abs,qjR];exact qdh (h k 0 e (by omega)) (det_le m (C:=λj t=>C (skip k j) (t+1)) (qaV (qcA B (by omega)) o) λj t y d=>h _ _ (by unfold skip;split<;>omega) (by omega))
  refine qaV this ?_;rw[<-Nat.mul_assoc,Nat.pow_succ,qgY (X^m)];exact qcA _ o
structure Bd (P:Pb):Prop where
 m64:P.m<=64
 n64:P.n<=100
 A:∀ k,k<P.n+P.m->∀ t,t<P.m->(P.A k t).natAbs<=2^50
 b:∀ t,t<P.m->(P.b t).natAbs<=2^50
 g:∀ k,k<P.n+P.m->(P.g k).natAbs<=2^50
variable {P:Pb}
theorem Bd.det (h:Bd P) {C:Nat->Vec} (u:∀ k t,k<P.m->t<P.m->(C k t).natAbs<=2^50):(det P.m C).natAbs<=2^3584:=by
 have hm:=h.m64
 refine qaV (det_le (X:=2 ^ 56) P.m (by
  have:P.m*2^50<=64*2^50:=qcA _ hm
  exact qaV this (by decide)) u) ?_
 rw[<-qjQ];exact qbk (by decide) (by omega)
theorem unit_le (r t:Nat):(unit r t).natAbs<=2^50:=by unfold unit;split<;>decide
theorem Bd.basis (h:Bd P) {S:Tb} (hn:Named P S) {v:Vec} (p:∀ t,t<P.m->(v t).natAbs<=2^50) (i k t:Nat) (e:k<P.m) (d:t<P.m):(upd (basis P S) i v k t).natAbs<=2^50:=by
 unfold upd;split
 ·exact p t d
 ·exact h.A _ (hn.bound.2 k e) t d
theorem Bd.T (h:Bd P) {S:Tb} (hg:Good P S) (hn:Named P S) {i c:Nat} (hi:i<P.m) (l:c<=P.n):(S.T i c).natAbs<=2^3584:=by
 rw[hg.entry l hi];refine h.det λk t e d=>h.basis hn (λt d=>?_) i k t e d;unfold colV;by_cases a:c<P.n
 ·rw[iFP a];exact h.A _ (hn.bound.1 c a) t d
 ·rw[iFN a];exact h.b t d
theorem Bd.L (h:Bd P) {S:Tb} (hn:Named P S) (i s:Nat):(LV P S i s).natAbs<=2^3584:=by
 refine h.det λk t e d=>h.basis hn (λt d=>?_) i k t e d;unfold XV;split
 ·exact h.b t d
 ·exact unit_le _ _
theorem Bd.p (h:Bd P) {S:Tb} (hg:Good P S) (hn:Named P S):S.p.natAbs<=2^3584:=by
 rw[hg.dt];exact h.det λk t e d=>h.A _ (hn.bound.2 k e) t d
theorem Bd.G (h:Bd P) {S:Tb} (hg:Good P S) (hn:Named P S) {c:Nat} (l:c<=P.n):(S.G c).natAbs<=65*(2^50*2^3584):=by
 rw[hg.goal c l];have q:=sumN_abs λi hi=>by
  rw[qdi];exact qdh (h.g _ (hn.bound.2 i hi)) (h.T hg hn hi l)
 have x:(S.p*gainC P S c).natAbs<=2^50*2^3584:=by
  rw[qdi,qgY];refine qdh ?_ (h.p hg hn);unfold gainC;by_cases a:c<P.n
  ·rw[iFP a];exact h.g _ (hn.bound.1 c a)
  ·rw[iFN a];decide
 have z:P.m*_<=64*(2^50*2^3584):=qcA _ h.m64;omega
end Sx
set_option maxHeartbeats 1000000
namespace Own
open PySem L2
open Sx (Pb Tb Good Named Fe LV ZV piv lexP leastR leaveL sumN unit colV basis)
theorem wZ {a b:Nat} (h:a<b):2^a<2^b:=qg7 (by decide) h
theorem AK {z:Int} (h:z.natAbs<=2^3584):Sm z:=qbF h (wZ (by decide))
theorem ET {z:Int} (h:z.natAbs<=65*(2^50*2^3584)):Sm z:=by
 refine qbF h ?_;refine qbF (qcA _ (by decide:65<=2^7)) ?_;rw[<-qhp,<-qhp];exact wZ (by decide)
theorem Ed {P:Pb}{S:Tb} (b:Sx.Bd P) (g:Good P S) (n:Named P S):Okt P S:=by
 have d:=b.m64;exact⟨g,n,by lia,b.n64,λi c hi a=>AK (b.T g n hi a),λi s _ _=>AK (b.L n i s),λc a=>ET (b.G g n a),AK (b.p g n)⟩
theorem Dl {c:Tf}{b:Sf}{m:Nat}{env:Ev}{st s:Sto} (h:c env st=some (false,s)):bE c b (m+1) env st=some (.nx env s):=by
 rw[bE,h];rfl
theorem Av {c:Tf}{b:Sf}{m:Nat}{env e:Ev}{st s a:Sto}{r:Option Fl} (h:c env st=some (true,s)) (hb:b env s=some (.nx e a)) (d:bE c b m e a=r):bE c b (m+1) env st=r:=by
 rw[bE,h];show ((b env s).bind _)=_;rw[hb];exact d
theorem Gq {c:Tf}{b:Sf}{m:Nat}{env:Ev}{st s a:Sto}{w:W} (h:c env st=some (true,s)) (hb:b env s=some (.rt w a)):bE c b (m+1) env st=some (.rt w a):=by
 rw[bE,h];show ((b env s).bind _)=_;rw[hb];rfl
theorem lZ {st:Sto}{a0 a2:Option W}:∀ (n a b:Nat) (o:Option W),b<n->∃ c,bE eW fF n [a0,Z (.int (a:Int)),a2,Z (.int (b:Int)),o] st=some (.nx [a0,Z (.int ((qf6 a b:Nat):Int)),a2,Z (.int 0),c] st)
 |0,a,b,o,h=>by lia
 |n+1,a,b,o,h=>by
  by_cases hb:b=0
  ·subst hb
   refine⟨o,?_⟩;rw[Nat.gcd_zero_right];exact Dl U
  ·have g:(!((b)==(0:Int)))=true:=by lia
   obtain⟨c,i⟩:=lZ n b (a%b) _ (by have:=Nat.mod_lt a (Nat.pos_of_ne_zero hb);lia);refine⟨c,?_⟩;have e:qf6 a b=qf6 b (a%b):=by rw[qjB a b,Nat.gcd_rec b a,qjB]
   have j:(0)<(b:Int):=by lia
   have f:gA st (.d (.int (a))) (.d (.int (b)))=some (.int ((a%b:Nat))):=by
    simp only[gA,j,if_true];rfl
   rw[e,<-i];exact Av (ak U U ((Da st _).trans (by rw[g]))) (ai (aj (ac U U f)) U) U
theorem ww {st:Sto}{ns:List Int}{d0:D} (c:∀ (l:Ev) (s:Sto),aB (iV 0) (Z d0::l) s=some (ns.map D.int,s)) (hn:∀ n∈ns,Sm n):br [.d d0] st=some (.d (.int ((dA 0 ns:Nat):Int)),st):=by
 obtain⟨k,t,j,⟨f,b,a,rfl⟩,rfl⟩:=bH (g:=.nm 2) (body:=fq) (λi env s=>(∃ f b a,env=[Z d0,Z (.int ((dA 0 (ns.take i)))),f,b,a])/\s=st)
  ⟨⟨_,_,_,U⟩,U⟩ (λi d env s hd ⟨⟨f,b,a,e⟩,es⟩=>by
   subst e es;rw[qaC,qad]at hd;obtain⟨n,m,rfl⟩:=hd;obtain⟨hi,h⟩:=qar.mp m;have r:vi s [.d (.int n)]=some (.int ((n.natAbs))):=by
    show some _=_;rw[show (if n<0 then -n else n)=((n.natAbs)) by split<;>lia]
   have o:dA 0 (ns.take (i+1))=qf6 (dA 0 (ns.take i)) n.natAbs:=by
    rw[List.take_succ_eq_append_getElem hi,h,tJ]
   obtain⟨q,p⟩:=lZ (st:=s) (a0:=some (.d d0)) (a2:=some (.d (.int n))) (2^8000) (dA 0 (ns.take i)) n.natAbs a (qeQ (hn n (qbt m)) (wZ (by decide)));refine⟨_,[some _,some _,Z (.int n),Z (.int 0),q],s,U,.inl ?_,⟨_,_,_,U⟩,U⟩;rw[o]
   exact ai (aj (aG (ab U U) r)) p)
 rw[qah,qcM]at j;exact av U (ai U (ai (bq (c _ _) j) U))
theorem nJ {st:Sto}{ns:List Int} (hn:∀ n∈ns,Sm n):br [.d (.lst (ns.map D.int))] st=some (.d (.int ((dA 0 ns:Nat):Int)),st):=ww (λ_ _=>aS U) hn
theorem rs {te:Ef}{st:Sto}{ns:List Int}{g:Int} (a:0<g) (hg:Sm g) (b:te=iOp rj (iV 0) (iV 1)):lcI (.nm 0) aJ te [none,Z (.int g)] (ns.map D.int) st=some ((ns.map λx=>x / g).map D.int,st):=by
 subst b
 rw [(wG (λd=>match d with | .int x=>.int (x / g) | d=>d) λd hd=>by
  obtain⟨y,c,rfl⟩:=qaD.mp hd
  exact⟨_,U,ac U U (rq st a hg)⟩),qaP,qaP];rfl
theorem lw {ns:List Int}{x:Int} (d:x∈ns) (b:x≠0) (c:Sm x):0<((dA 0 ns:Nat):Int)/\Sm ((dA 0 ns:Nat):Int):=by
 obtain⟨e,a⟩:=zk d b;refine⟨by lia,?_⟩;exact qbF a c
theorem vL {st:Sto}{ns:List Int} (hb:∀ x∈ns,Sm x) (j:∃ x∈ns,x≠0) (k:ns.length<=1000):di [.d (.lst (ns.map D.int))] st=some (.d (.tup ((ns.map λx=>x / ((dA 0 ns:Nat):Int)).map D.int)),st):=by
 obtain⟨x,a,c⟩:=j;have h:=nJ (st:=st) hb;obtain⟨e,b⟩:=lw a c (hb x a);generalize ((dA 0 ns):Int)=g at *;have i:(g==(0))=false:=by lia
 have f:(ns.map D.int).length<=1000000:=by rw[qah];lia
 exact av U (ai (aj (ag U h)) (ai (bh (ak U U (by rw[cr,i])) U) (aF (aG (ab (ar (aL (aS U) f (rs e b U))) U) U))))
def acc (e:Nat->Nat) (y:Nat->Int) (i k:Nat):Int:=sumN i λj=>if e j=k then y j else 0
theorem sF (e:Nat->Nat) (y:Nat->Int) (i k:Nat):acc e y (i+1) k=acc e y i k+if e i=k then y i else 0:=rfl
theorem mT {e:Nat->Nat}{y:Nat->Int}{i k:Nat} (h:∀ j,j<i->e j≠k):acc e y i k=0:=by
 unfold acc;rw[Sx.sumN_congr λj a=>iFN (h j a),Sx.sumN_zero]
theorem qL {e:Nat->Nat}{y:Nat->Int}{d N i:Nat} (hd:d<=e i) (b:∀ j,j<i->e j≠e i):(mpI N λr=>acc e y i (d+r)).set (e i - d) (.int (y i))=mpI N λr=>acc e y (i+1) (d+r):=by
 rw[gP];refine bF λr _=>?_;rw[sF];by_cases c:r=e i - d
 ·rw[mT λj a=>by have:=b j a;lia];lia
 ·lia
theorem sE {e:Nat->Nat}{y:Nat->Int}{d N i:Nat} (h:∀ r,r<N->e i≠d+r):(mpI N λr=>acc e y i (d+r))=mpI N λr=>acc e y (i+1) (d+r):=by
 refine bF λr a=>?_;rw[sF,iFN (h r a)];lia
theorem A8 (n:Nat) (e:Nat->Nat) (y:Nat->Int) (d:Nat):(qay n [D.int 0]).flatten=mpI n λr=>acc e y 0 (d+r):=by
 show _=(qak n).map λ_=>D.int 0
 induction n with
 |zero=>rfl
 |succ n a=>rw[qgZ,qg9,a,qdW,qbp];rfl
theorem jl {f:Ef}{env:Ev}{st:Sto}{n:Nat} (a:f env st=some (.d (.int (n:Int)),st)) (hn:n<=900) (e:Nat->Nat) (y:Nat->Int) (d:Nat):db (tO oz (aw (bT (aa (iC (.int 0)) ae))) f) env st=some (.h st.length,st++[.l (mpI n λr=>acc e y 0 (d+r))]):=by
 have b:tO oz (aw (bT (aa (iC (.int 0)) ae))) f env st=some (mpI n λr=>acc e y 0 (d+r),st):=by
  show ((f env st).bind λq=>(oz q.2 (.d (.lst [.int 0])) q.1).map λl=>(l,q.2))=_;rw[a];show (oz st _ _).map _=_;unfold oz;dsimp only;rw[iFP ⟨by decide,by lia,by lia⟩,qbe,A8 n e y d];rfl
 simp only[db,b,qao]
end Own
set_option maxHeartbeats 1000000
namespace Own
open PySem L2
open Sx (Pb Tb Good Named Fe LV ZV piv lexP leastR leaveL sumN unit colV basis)
theorem sIx {o i v:Ef}{env:Ev}{st:Sto}{xs:List D}{k:Nat}{d:D} (a:v env (st++[.l xs])=some (.d d,st++[.l xs])) (e:o env (st++[.l xs])=some (.h st.length,st++[.l xs])) (hi:i env (st++[.l xs])=some (.d (.int (k:Int)),st++[.l xs])) (b:k<xs.length):bP o i v env (st++[.l xs])=some (.nx env (st++[.l (xs.set k d)])):=by
 have c:ja (st++[.l xs]) (.h st.length) (.d (.int (k))) (.d d)=some (st++[.l (xs.set k d)]):=by
  simp only[ja,dH,qaa,fm b,qao,pB]
 simp only[bP,a,e,hi,qaa,c,qao]
theorem rB {a:Ef}{env:Ev}{st:Sto}{m:Nat}{f:Nat->Nat} (h:a env st=some (.d (.lst (mpI m (nI f))),st)):bZ (aa a ae) env st=some ((qak m).map λi=>D.tup [.int ((i:Nat):Int),.int (nI f i)],st):=by
 have:=ab (b:=ae) h U
 rw[<-wq];simp only[bZ,this,qaa]
theorem oN {m:Nat}{g:Nat->D}{i:Nat}{d:D} (h:((qak m).map g)[i]?=some d):i<m/\d=g i:=by
 rw[qaC,qad]at h;obtain⟨k,b,rfl⟩:=h;obtain⟨hi,a⟩:=qar.mp b;rw[qhu]at a;rw[qat]at hi;exact⟨hi,by rw[a]⟩
theorem jm:∀ ns:List Int,vS (ns.map D.int)=true
 |[]=>rfl
 |n::ns=>jm ns
theorem zW (n:Nat) (f:Nat->Int):okT (.tup (mpI n f))=true:=by
 rw[bK];exact jm _
section
variable {P:Pb}{S:Tb}{st:Sto}
theorem Fk (h:Okt P S):gM [.d (obD P S)] st=some (.d (.lst (mpI P.n λk=>acc S.kept (λi=>S.T i P.n) P.m k)),st):=by
 have hn:=h.n64;generalize I:(λi=>S.T i P.n)=y;have m:∀ (a b c:Option W) (s:Sto),iV 0 [some _,a,b,c] s=some (.d (obD P S),s):=λ_ _ _ _=>rfl;obtain⟨A,s2,w,⟨q,p,rfl⟩,rfl⟩:=bH (g:=.tp [2,3]) (body:=iS) (ds:=(qak P.m).map λi=>D.tup [.int _,.int (nI S.kept i)])
  (λi env s=>(∃ q p,env=[Z (obD P S),some (.h st.length),q,p])/\s=st++[.l (mpI P.n λr=>acc S.kept y i (0+r))])
  ⟨⟨_,_,U⟩,U⟩ (λi d env s hd ⟨⟨q,p,e⟩,es⟩=>by
   subst e es;obtain⟨hi,rfl⟩:=oN hd;refine⟨_,_,_,U,.inl ?_,⟨some (.d (.int ((i:Nat):Int))),Z (.int (nI S.kept i)),U⟩,U⟩;generalize u:(mpI P.n λr=>acc S.kept y i (0+r))=xs;have tl:aC dLt (iV 3) _ [Z (obD P S),some (.h st.length),Z (.int ((i:Nat):Int)),Z (.int (nI S.kept i))] (st++[.l xs])=some (decide _,st++[.l xs]):=ak U (bX (m _ _ _ _)) (zM _ _ _);by_cases t:S.kept i<P.n
   ·rw[decide_eq_true (by show ((S.kept i:Nat):Int)<_;lia)]at tl
    have J:iOp dIx (iOp dIx (az ("lines" : Str) (iV 0)) (iV 2)) (iUn ie (iC (.int 1))) [Z (obD P S),some (.h st.length),Z (.int ((i:Nat):Int)),Z (.int (nI S.kept i))] (st++[.l xs])=some (.d (.int (y i)),st++[.l xs]):=by
     rw[<-I];exact ac (ac (cP (m _ _ _ _)) U (ue _ hi)) U (wB _)
    have:=sIx (k:=S.kept i) J (o:=iV 1) (i:=iV 3) U U (by rw[<-u,aD];exact t)
    rw[<-u]at this ⊢ tl;rw[<-qL (d:=0) (N:=P.n) (e:=S.kept) (y:=y) (i:=i) (by lia) λj E e=>by have:=iP h.good (by lia) hi e;lia];exact ca tl this
   ·rw[decide_eq_false (by show ¬ ((S.kept i:Nat):Int)<_;lia)]at tl
    rw[<-sE (d:=0) (N:=P.n) (e:=S.kept) (y:=y) (i:=i) λr G=>by lia,u]
    exact bh tl U)
 rw[qah,qat]at w
 have:=mL (n:=4) (k:=1) (b:=jY) (ws:=[.d (obD P S)]) (st:=st) (h:=st.length) U (ai (aj (jl (st:=st) (bX (m none none none st)) (by lia) S.kept y 0)) (ai (bq (rB (qP (m _ _ _ _))) w) U)) (qap _) (dH _ _)
 rw[qcN]at this;simp only[qbj]at this;exact this
def pr (P:Pb) (S:Tb) (i r:Nat):Int:=if ∃ c,c<i/\S.free c=P.n+r then ZV P S (r+1) else 0
theorem Gn (h:Okt P S) (hg:∀ r,r<P.m->P.g (P.n+r)=0):i5 [.d (obD P S)] st=some (.d (.lst (mpI P.m λr=>ZV P S (r+1))),st):=by
 have hm:=h.m64;have hn:=h.n64;have m:∀ (a b c:Option W) (s:Sto),iV 0 [Z (obD P S),a,b,c] s=some (.d (obD P S),s):=λ_ _ _ _=>rfl;have hz:(mpI P.m λr=>acc S.free S.G 0 (0+r))=mpI P.m λr=>pr P S 0 r:=bF λr _=>by
  unfold pr;rw[iFN λ⟨c,Q,_⟩=>by lia];rfl
 have K:=by
  have:=aG (g:=a8) (ab (b:=ae) (cP (m none none none st)) U) (j7 _ _)
  rw[cG]at this;exact this
 have s1:=jl (st:=st) K (by lia) S.free S.G 0;rw[hz]at s1;obtain⟨A,s2,w,⟨q,p,rfl⟩,rfl⟩:=bH (g:=.tp [2,3]) (body:=jC) (ds:=(qak P.n).map λi=>D.tup [.int ((i:Nat):Int),.int (nI S.free i)])
  (λi env s=>(∃ q p,env=[Z (obD P S),some (.h st.length),q,p])/\s=st++[.l (mpI P.m λr=>pr P S i r)])
  ⟨⟨_,_,U⟩,U⟩ (λi d env s hd ⟨⟨q,p,e⟩,es⟩=>by
   subst e es;obtain⟨hi,rfl⟩:=oN hd;refine⟨_,_,_,U,.inl ?_,⟨some (.d (.int ((i:Nat):Int))),Z (.int (nI S.free i)),U⟩,U⟩;have hb:=h.named.bound.1 i hi;generalize u:(mpI P.m λr=>pr P S i r)=xs;have tl:aC dGe (iV 3) (az ("amounts" : Str) (iV 0)) [Z (obD P S),some (.h st.length),Z (.int ((i:Nat):Int)),Z (.int (nI S.free i))] (st++[.l xs])=some (decide (nI S.free i>=(P.n:Int)),st++[.l xs]):=ak U (bX (m _ _ _ _)) (FH _ _ _)
   by_cases t:P.n<=S.free i
   ·rw[decide_eq_true (by show ((S.free i:Nat):Int)>=_;lia)]at tl
    have ho:iOp j6 (iV 3) (az ("amounts" : Str) (iV 0)) [Z (obD P S),some (.h st.length),Z (.int ((i:Nat):Int)),Z (.int (nI S.free i))] (st++[.l xs])=some (.d (.int ((S.free i - P.n:Nat):Int)),st++[.l xs]):=by
     rw[show ((S.free i - P.n:Nat):Int)=nI S.free i - (P.n:Int) by show _=((S.free i:Nat):Int) - _;lia];exact ac U (bX (m _ _ _ _)) U
    have J:iOp dIx (az ("goal" : Str) (iV 0)) (iV 2) [Z (obD P S),some (.h st.length),Z (.int ((i:Nat):Int)),Z (.int (nI S.free i))] (st++[.l xs])=some (.d (.int (S.G i)),st++[.l xs]):=ac (mC (m _ _ _ _)) U (eL _ (by lia))
    have:=sIx (k:=S.free i - P.n) J (o:=iV 1) U ho (by rw[<-u,aD];lia)
    have B:xs.set (S.free i - P.n) (.int (S.G i))=mpI P.m λr=>pr P S (i+1) r:=by
     rw[<-u,gP];refine bF λr G=>?_;by_cases Y:r=S.free i - P.n
     ·rw[iFP Y]
      unfold pr;rw[iFP ⟨i,by lia,by lia⟩];exact (Sx.price_free h.good h.named hg G hi (by lia)).symm
     ·rw[iFN Y]
      unfold pr;by_cases ex:∃ c,c<i/\S.free c=P.n+r
      ·rw[iFP ex];obtain⟨c,H,v⟩:=ex;rw[iFP ⟨c,by lia,v⟩]
      ·rw[iFN ex,iFN λ⟨c,H,v⟩=>ex ⟨c,by
        by_cases z:c=i
        ·subst z;lia
        ·lia,v⟩]
    rw[<-B];exact ca tl this
   ·rw[decide_eq_false (by show ¬ ((S.free i:Nat):Int)>=_;lia)]at tl
    have B:xs=mpI P.m λr=>pr P S (i+1) r:=by
     rw[<-u];refine bF λr G=>?_;unfold pr;by_cases ex:∃ c,c<i/\S.free c=P.n+r
     ·rw[iFP ex];obtain⟨c,H,v⟩:=ex;rw[iFP ⟨c,by lia,v⟩]
     ·rw[iFN ex,iFN λ⟨c,H,v⟩=>ex ⟨c,by
        by_cases z:c=i
        ·subst z;lia
        ·lia,v⟩]
    rw[<-B]
    exact bh tl U)
 rw[qah,qat]at w
 have:=mL (n:=4) (k:=1) (b:=lT) (ws:=[.d (obD P S)]) (st:=st) (h:=st.length) U (ai (aj s1) (ai (bq (rB (mB (m _ _ _ _))) w) U)) (qap _) (dH _ _)
 rw[qcN]at this
 rw[bF (f:=λr=>pr P S P.n r) (g:=λr=>ZV P S (r+1)) λr G=>by
  unfold pr;by_cases ex:∃ c,c<P.n/\S.free c=P.n+r
  ·rw[iFP ex]
  ·rw[iFN ex]
   rcases h.named.all (P.n+r) (by lia) with Q|⟨j,E,e⟩
   ·exact absurd Q ex
   ·exact (Sx.price_kept h.good h.named hg G E e).symm]at this
 exact this
theorem GU (h:Okt P S) {e:Nat} (he:e<P.n) (ht:∀ i,i<P.m->S.T i e<=0) (hp:∃ k,k<P.n/\Sx.wayN P S e k≠0):∃ g:Int,0<g/\(∀ k,k<P.n->g∣Sx.wayN P S e k)/\kQ [.d (obD P S),.d (.int (e:Int))] []=some (.d (.tup (mpI P.n λk=>Sx.wayN P S e k / g)),[]):=by
 have hm:=h.m64;have hn:=h.n64;have m:∀ (a b c d:Option W) (s:Sto),iV 0 [Z (obD P S),a,b,c,d] s=some (.d (obD P S),s):=λ_ _ _ _ _=>rfl;have T:∀ i,i<P.m->S.kept i≠S.free e:=λi hi e1=>by
  have H:=h.good.entry (c:=e) (by lia) hi;have v:colV P S e=basis P S i:=by unfold colV basis;rw[iFP he,e1]
  rw[v,Sx.upd_self,<-h.good.dt]at H
  have:=ht i hi
  have:=h.good.pos
  lia
 generalize I:(λi=>- S.T i e)=y;have hw:∀ k,Sx.wayN P S e k=if k=S.free e then S.p else acc S.kept y P.m k:=λk=>by
  show Sx.byName P S (λi=>- S.T i e) k+_=_;rw[I];by_cases t:k=S.free e
  ·rw[iFP t,iFP t.symm,Sx.byName_not λi hi=>by rw[t];exact T i hi];lia
  ·rw[iFN t,iFN (qbo t)]
   show acc S.kept y P.m k+0=_;lia
 obtain⟨A,s2,w,⟨q,p,rfl⟩,rfl⟩:=bH (g:=.tp [3,4]) (body:=oA) (ds:=(qak P.m).map λi=>D.tup [.int ((i:Nat):Int),.int (nI S.kept i)])
  (λi env s=>(∃ q p,env=[Z (obD P S),Z (.int (e:Int)),some (.h 0),q,p])/\s=[]++[.l (mpI P.n λr=>acc S.kept y i (0+r))])
  (env:=[Z (obD P S),Z (.int (e:Int)),some (.h 0),none,none]) (st:=[]++[.l (mpI P.n λr=>acc S.kept y 0 (0+r))]) ⟨⟨_,_,U⟩,U⟩ (λi d env s hd ⟨⟨q,p,e0⟩,es⟩=>by
   subst e0 es;obtain⟨hi,rfl⟩:=oN hd;refine⟨_,_,_,U,.inl ?_,⟨some (.d (.int ((i:Nat):Int))),Z (.int (nI S.kept i)),U⟩,U⟩;generalize u:(mpI P.n λr=>acc S.kept y i (0+r))=xs;have tl:aC dLt (iV 4) (az ("amounts" : Str) (iV 0)) [Z (obD P S),Z (.int (e:Int)),some (.h 0),Z (.int ((i:Nat):Int)),Z (.int (nI S.kept i))] ([]++[.l xs])=some (decide (nI S.kept i<(P.n:Int)),[]++[.l xs]):=ak U (bX (m _ _ _ _ _)) (zM _ _ _)
   by_cases t:S.kept i<P.n
   ·rw[decide_eq_true (by show ((S.kept i:Nat):Int)<_;lia)]at tl
    have J:iUn ie (iOp dIx (iOp dIx (az ("lines" : Str) (iV 0)) (iV 3)) (iV 1)) [Z (obD P S),Z (.int (e:Int)),some (.h 0),Z (.int ((i:Nat):Int)),Z (.int (nI S.kept i))] ([]++[.l xs])=some (.d (.int (y i)),[]++[.l xs]):=by
     rw[<-I]
     have:=ac (g:=dIx) (ac (g:=dIx) (cP (m (Z (.int (e:Int))) (some (.h 0)) (Z (.int ((i:Nat):Int))) (Z (.int (nI S.kept i))) ([]++[C.l xs]))) (b:=iV 3) U (ue _ hi)) (b:=iV 1) U (ud (c:=e) _ (by lia))
     simp only[iUn,this,qaa];rfl
    have:=sIx (st:=[]) (k:=S.kept i) J (o:=iV 2) (i:=iV 4) U U (by rw[<-u,aD];exact t)
    rw[<-u]at this ⊢ tl;rw[<-qL (d:=0) (N:=P.n) (e:=S.kept) (y:=y) (i:=i) (by lia) λj E e=>by have:=iP h.good (by lia) hi e;lia];exact ca tl this
   ·rw[decide_eq_false (by show ¬ ((S.kept i:Nat):Int)<_;lia)]at tl
    rw[<-sE (d:=0) (N:=P.n) (e:=S.kept) (y:=y) (i:=i) λr G=>by lia,u]
    exact bh tl U)
 rw[qah,qat]at w;have s3:aY (aC dLt (iOp dIx (az ("free" : Str) (iV 0)) (iV 1)) (az ("amounts" : Str) (iV 0))) (bP (iV 2) (iOp dIx (az ("free" : Str) (iV 0)) (iV 1)) (az ("part" : Str) (iV 0))) aQ [Z (obD P S),Z (.int (e:Int)),some (.h 0),q,p] ([]++[.l (mpI P.n λr=>acc S.kept y P.m (0+r))])=some (.nx [Z (obD P S),Z (.int (e:Int)),some (.h 0),q,p] ([]++[.l (mpI P.n λk=>Sx.wayN P S e k)])):=by
  have qf:∀ s,iOp dIx (az ("free" : Str) (iV 0)) (iV 1) [Z (obD P S),Z (.int (e:Int)),some (.h 0),q,p] s=some (.d (.int (nI S.free e)),s):=λs=>ac (mB (m _ _ _ _ _)) U (eL _ he)
  generalize u:(mpI P.n λr=>acc S.kept y P.m (0+r))=xs;have tl:aC dLt (iOp dIx (az ("free" : Str) (iV 0)) (iV 1)) (az ("amounts" : Str) (iV 0)) [Z (obD P S),Z (.int (e:Int)),some (.h 0),q,p] ([]++[.l xs])=some (decide (nI S.free e<(P.n:Int)),[]++[.l xs]):=ak (qf _) (bX (m _ _ _ _ _)) (zM _ _ _)
  by_cases t:S.free e<P.n
  ·rw[decide_eq_true (by show ((S.free e:Nat):Int)<_;lia)]at tl
   have:=sIx (st:=[]) (k:=S.free e) (mD (m (Z (.int (e:Int))) (some (.h 0)) q p ([]++[C.l xs]))) (o:=iV 2) (i:=iOp dIx (az ("free" : Str) (iV 0)) (iV 1)) U (qf _) (by rw[<-u,aD];exact t)
   have B:xs.set (S.free e) (.int S.p)=mpI P.n λk=>Sx.wayN P S e k:=by
    rw[<-u,gP];refine bF λk _=>?_;rw[hw k,qbj]
   rw[B]at this;exact ca tl this
  ·rw[decide_eq_false (by show ¬ ((S.free e:Nat):Int)<_;lia)]at tl
   have B:xs=mpI P.n λk=>Sx.wayN P S e k:=by
    rw[<-u];refine bF λk hk'=>?_;rw[hw k,qbj,iFN (by lia)]
   rw[<-B];exact bh tl U
 obtain⟨X,F,M⟩:=hp;have O:∀ x∈(qak P.n).map (Sx.wayN P S e),Sm x:=λx hx=>by
  obtain⟨k,t,rfl⟩:=qaD.mp hx;rw[hw k];by_cases z:k=S.free e
  ·rw[iFP z];exact h.sp
  ·rw[iFN z]
   by_cases ex:∃ i,i<P.m/\S.kept i=k
   ·obtain⟨i,hi,rfl⟩:=ex
    have:acc S.kept y P.m (S.kept i)=y i:=Sx.byName_at (λi j hi E=>iP h.good hi E) hi
    rw[this,<-I];show (- S.T i e).natAbs<_;rw[qik];exact h.sT i e hi (by lia)
   ·rw[mT λj E e=>ex ⟨j,E,e⟩]
    exact qf5 (by decide)
 have L:=vL (st:=[]) O ⟨_,qaD.mpr ⟨X,qaR.mpr F,U⟩,M⟩ (by rw[qah,qat];lia);obtain⟨g0,g1⟩:=lw (ns:=(qak P.n).map (Sx.wayN P S e)) (qaD.mpr ⟨X,qaR.mpr F,U⟩) M (O _ (qaD.mpr ⟨X,qaR.mpr F,U⟩));have gd:∀ k,k<P.n->((dA 0 ((qak P.n).map (Sx.wayN P S e)):Nat):Int)∣Sx.wayN P S e k:=λk t=>qcV.mpr ((dB 0 _).2 _ (qaD.mpr ⟨k,qaR.mpr t,U⟩));generalize hG:((dA 0 ((qak P.n).map (Sx.wayN P S e)):Nat):Int)=g at *;refine⟨g,g0,gd,?_⟩;rw[<-bK,qaP,qaP]at L;have Q:dg di (aa (iV 2) ae) [Z (obD P S),Z (.int (e:Int)),some (.h 0),q,p] ([]++[.l (mpI P.n λk=>Sx.wayN P S e k)])=some (.d (.tup (mpI P.n λk=>Sx.wayN P S e k / g)),[]++[.l (mpI P.n λk=>Sx.wayN P S e k)]):=by
  have ha:aa (iV 2) ae [Z (obD P S),Z (.int (e:Int)),some (.h 0),q,p] ([]++[.l (mpI P.n λk=>Sx.wayN P S e k)])=some ([.h 0],[]++[.l (mpI P.n λk=>Sx.wayN P S e k)]):=rfl;have R:vwA ([]++[.l (mpI P.n λk=>Sx.wayN P S e k)]) [.h 0]=some [.d (.lst (mpI P.n λk=>Sx.wayN P S e k))]:=rfl;have V:di [.d (.lst (mpI P.n λk=>Sx.wayN P S e k))] []=some (.d (.tup (mpI P.n λk=>Sx.wayN P S e k / g)),[]):=L;simp only[dg,ha,qaa,R,V];rw[iFP];exact zW _ _
 have:=gn (n:=5) (k:=2) (b:=sM) (ws:=[.d (obD P S),.d (.int (e:Int))]) (st:=[]) U (ai (aj (jl (st:=[]) (bX (m (Z (.int (e:Int))) none none none [])) (by lia) S.kept y 0)) (ai (bq (rB (qP (m _ _ _ _ _))) w) (ai s3 (aF Q))))
 exact this
end
end Own
set_option maxHeartbeats 1000000
namespace Own
open PySem L2
open Sx (Pb Tb Good Named Fe LV ZV piv lexP leastR leaveL sumN unit colV basis)
theorem m9 {m:Fn}{a:Af}{env:Ev}{st:Sto}{ws b:List W}{x:D} (f:a env st=some (ws,st)) (c:vwA st ws=some b) (hm:m b []=some (.d x,[])) (e:okT x=true):dg m a env st=some (.d x,st):=by
 simp only[dg,f,qaa,c,hm];rw[iFP e]
structure Pd (P:Pb):Prop where
 bd:Sx.Bd P
 hA:∀ k,k<P.n+P.m->∀ t,P.m<=t->P.A k t=0
 hb:∀ t,P.m<=t->P.b t=0
 hg:∀ r,r<P.m->P.g (P.n+r)=0
section
variable {P:Pb}{S:Tb}
theorem Pd.okt (d:Pd P) (g:Good P S) (n:Named P S):Okt P S:=Ed d.bd g n
theorem Pd.kept (d:Pd P) (n:Named P S):∀ i,i<P.m->∀ t,P.m<=t->P.A (S.kept i) t=0:=λi hi t B=>d.hA _ (n.bound.2 i hi) t B
theorem G3 (g:Good P S) (f:Fe P S):∀ i,i<P.m->0<=S.T i P.n:=λi hi=>by
 rw[g.entry (qap _) hi]
 have:colV P S P.n=Sx.XV P 0:=by unfold colV Sx.XV;rw[iFN (qbd _),iFP U]
 rw[this];exact (Sx.lexP_first (by lia) (f i hi))
structure yR (P:Pb) (p:Int) (am pr:Nat->Int):Prop where
 p1:1<=p
 am0:∀ k,k<P.n->0<=am k
 pr0:∀ r,r<P.m->0<=pr r
 rows:∀ r,r<P.m->(sumN P.n λj=>am j*P.A j r)<=p*P.b r
 cols:∀ j,j<P.n->p*P.g j<=sumN P.m λr=>P.A j r*pr r
 same:(sumN P.m λr=>P.b r*pr r)=sumN P.n λj=>am j*P.g j
 sp:Sm p
 sa:∀ k,k<P.n->Sm (am k)
 sr:∀ r,r<P.m->Sm (pr r)
structure mQ (P:Pb) (way:Nat->Int):Prop where
 w0:∀ k,k<P.n->0<=way k
 rows:∀ r,r<P.m->(sumN P.n λj=>way j*P.A j r)<=0
 gain:0<sumN P.n λj=>way j*P.g j
theorem ny {g a:Int} (h:g∣a):g*(a / g)=a:=qdT h
theorem sk {n:Nat}{g:Int}{f h:Nat->Int} (hd:∀ k,k<n->g∣f k):g*(sumN n λk=>f k / g*h k)=sumN n λk=>f k*h k:=by
 rw[<-Sx.sumN_mul];refine Sx.sumN_congr λk m=>?_;rw[<-qbr,ny (hd k m)]
theorem xj {n:Nat}{g:Int}{f h:Nat->Int} (hd:∀ k,k<n->g∣f k):g*(sumN n λk=>h k*(f k / g))=sumN n λk=>h k*f k:=by
 rw[<-Sx.sumN_mul];refine Sx.sumN_congr λk m=>?_;rw[qaW,ny (hd k m)]
theorem GW (h:Okt P S) (hg:∀ r,r<P.m->P.g (P.n+r)=0) (y:∀ c,c<P.n->0<=S.G c) {r:Nat} (l:r<P.m):Sm (ZV P S (r+1))/\0<=ZV P S (r+1):=by
 rcases h.named.all (P.n+r) (by lia) with⟨c,L,e⟩|⟨j,o,e⟩
 ·rw[Sx.price_free h.good h.named hg l L e];exact⟨h.sG c (by lia),y c L⟩
 ·rw[Sx.price_kept h.good h.named hg l o e];exact⟨qf5 (by decide),qb5 _⟩
theorem Fm (h:Okt P S) (k:Nat):Sm (acc S.kept (λi=>S.T i P.n) P.m k):=by
 by_cases ex:∃ i,i<P.m/\S.kept i=k
 ·obtain⟨i,hi,rfl⟩:=ex
  have:acc S.kept (λi=>S.T i P.n) P.m _=S.T i P.n:=Sx.byName_at (λi j hi o=>iP h.good hi o) hi
  rw[this];exact h.sT i P.n hi (qap _)
 ·rw[mT λj o e=>ex ⟨j,o,e⟩]
  exact qf5 (by decide)
theorem vH {g a b:Int} (g0:0<g) (h:g*a<=g*b):a<=b:=Int.le_of_mul_le_mul_left h g0
theorem Sm.dv {a:Int} (h:Sm a) (q:Int):Sm (a / q):=qbF (Int.natAbs_ediv_le_natAbs a q) h
theorem FC (d:Pd P) (g:Good P S) (n:Named P S) (f:Fe P S) (y:∀ c,c<P.n->0<=S.G c):∃ p am pr,yR P p am pr/\gN [.d (obD P S)] []=some (.d (.tup [.str "most",.int p,.tup (mpI P.n am),.tup (mpI P.m pr)]),[]):=by
 have h:=d.okt g n;have hm:=h.m64;have hn:=h.n64;have N:=G3 g f;have e1:=Fk (st:=[]) h;have X:=Gn (st:=[]) h d.hg;have hg:=d.hg;have M1:=λr l=>Sx.amounts_ok g n N (r:=r) l;have M2:=Sx.gains_amounts g n d.hg;have M3:=λj o=>Sx.prices_ok g n d.hA y (j:=j) o;have M4:=Sx.bounds_prices g d.hb;have M5:∀ k,0<=acc S.kept (λi=>S.T i P.n) P.m k:=λk=>Sx.byName_nonneg (P:=P) (S:=S) N k;have M6:=Fm h;have M7:=λr l=>GW h d.hg y (r:=r) l;have M9:∀ j,Sx.byName P S (λi=>S.T i P.n) j=acc S.kept (λi=>S.T i P.n) P.m j:=λ_=>rfl;simp only[M9]at M1 M2;generalize acc S.kept (λi=>S.T i P.n) P.m=am at *;generalize H:(λr=>ZV P S (r+1))=pr at *;have A:∀ r,ZV P S (r+1)=pr r:=λr=>by rw[<-H]
 simp only[A]at M3 M4 M7;have hns:D.int S.p::(mpI P.n am++mpI P.m pr)=(S.p::((qak P.n).map am++(qak P.m).map pr)).map D.int:=by
  rw[qaw,qbp,bK,bK]
 have J:∀ x∈S.p::((qak P.n).map am++(qak P.m).map pr),Sm x:=λx u=>by
  rcases qaz.mp u with rfl|u
  ·exact h.sp
  ·rcases qaO.mp u with u|u
   ·obtain⟨k,_,rfl⟩:=qaD.mp u;exact M6 k
   ·obtain⟨k,m,rfl⟩:=qaD.mp u;exact (M7 k (qaR.mp m)).1
 have R:=nJ (st:=[]) J;have M:=g.pos;obtain⟨v,G⟩:=lw qag (by lia) h.sp;have w:∀ x∈S.p::((qak P.n).map am++(qak P.m).map pr),_∣x:=λx u=>qcV.mpr ((dB 0 _).2 _ u);rw[<-hns]at R;generalize ((dA 0 _:Nat):Int)=q at *;have dp:q∣S.p:=w _ qag;have Q:=λk m=>w _ (qai _ (qaX _ (qaD.mpr ⟨k,qaR.mpr m,U⟩)));have O:=λk m=>w _ (qai _ (qau _ (qaD.mpr ⟨k,qaR.mpr m,U⟩)));refine⟨S.p / q,λk=>am k / q,λr=>pr r / q,⟨?_,λk _=>qd1 (M5 k) (by lia),λr l=>qd1 (M7 r l).2 (by lia),λr l=>?_,λj o=>?_,?_,h.sp.dv _,λk _=>(M6 k).dv _,λr l=>(M7 r l).1.dv _⟩,?_⟩
 ·have:=ny dp
  rcases Int.lt_or_le (S.p / q) 1 with z|z
  ·have:q*(S.p / q)<=q*0:=qdS (by lia) (by lia)
   lia
  ·exact z
 ·refine vH v ?_
  rw[sk (h:=λj=>P.A j r) Q,<-qbr,ny dp];exact M1 r l
 ·refine vH v ?_
  rw[xj (h:=λr=>P.A j r) O,<-qbr,ny dp];exact M3 j o
 ·refine qei (a:=q) (by lia) ?_
  rw[xj (h:=λr=>P.b r) O,sk (h:=λj=>P.g j) Q,M4,M2]
 ·have C:∀ (a b c:Option W) (s:Sto),iV 0 [Z (obD P S),a,b,c] s=some (.d (obD P S),s):=λ_ _ _ _=>rfl
  have ka:lcI (.nm 0) aJ eF [none,Z (.int q)] (mpI P.n am) []=some (mpI P.n λk=>am k / q,[]):=by
   have:=rs (te:=eF) (st:=[]) (ns:=(qak P.n).map am) v G U
   rw[<-bK,qaP,qaP]at this;exact this
  have kr:lcI (.nm 0) aJ eE [none,Z (.int q)] (mpI P.m pr) []=some (mpI P.m λk=>pr k / q,[]):=by
   have:=rs (te:=eE) (st:=[]) (ns:=(qak P.m).map pr) v G U
   rw[<-bK,qaP,qaP]at this;exact this
  have la:(mpI P.n am).length<=1000000:=by rw[aD];lia
  have V:(mpI P.m pr).length<=1000000:=by rw[aD];lia
  have F:[D.int S.p].length+(mpI P.n am).length<=1000000:=by rw[aD];show 1+_<=_;lia
  have E:([D.int S.p]++mpI P.n am).length+(mpI P.m pr).length<=1000000:=by rw[qaB,aD,aD];show 1+_+_<=_;lia
  generalize mpI P.n am=AM at *;generalize mpI P.m pr=PR at *;have T:ay (.nm 3) (aq br (aa (iOp bf (iOp bf (aw (bT (aa (az ("part" : Str) (iV 0)) ae))) (iV 1)) (iV 2)) ae)) [Z (obD P S),Z (.lst AM),Z (.lst PR),none] []=some (.nx [Z (obD P S),Z (.lst AM),Z (.lst PR),Z (.int q)] []):=by
   have hl:bT (aa (az ("part" : Str) (iV 0)) ae) [Z (obD P S),Z (.lst AM),Z (.lst PR),none] []=some ([.int S.p],[]):=by
    have:=ab (b:=ae) (mD (C (Z (.lst AM)) (Z (.lst PR)) none [])) U
    rfl
   exact aj (ag (ab (ac (ac (ar hl) U (eB _ F)) U (eB _ E)) U) R)
  exact av (n:=4) (k:=1) (b:=jZ) U (ai (aj (ag (ab (C _ _ _ _) U) e1)) (ai (aj (ag (ab (C _ _ _ _) U) X)) (ai T (aF (EL (ab U (ab (ac (mD (C _ _ _ _)) U (rq _ v G)) (ab (aG (ab (ar (aL (aS U) la ka)) U) U) (ab (aG (ab (ar (aL (aS U) V kr)) U) U) U)))) U (by show 4<=1000;decide))))))
theorem Fu (d:Pd P) (g:Good P S) (n:Named P S) {e:Nat} (I:e<P.n) (B:∀ i,i<P.m->S.T i e<=0) (y:S.G e<0):∃ way,mQ P way/\kQ [.d (obD P S),.d (.int (e:Int))] []=some (.d (.tup (mpI P.n way)),[]):=by
 have W1:=Sx.way_gains g n d.hg I y;have M:∃ k,k<P.n/\Sx.wayN P S e k≠0:=by
  by_cases z:∃ k,k<P.n/\Sx.wayN P S e k≠0
  ·exact z
  ·rw[Sx.sumN_congr λk m=>by
    by_cases K:Sx.wayN P S e k=0
    ·rw[K,qbD]
    ·exact absurd ⟨k,m,K⟩ z,Sx.sumN_zero]at W1
   lia
 obtain⟨q,v,w,Y⟩:=GU (d.okt g n) I B M;refine⟨_,⟨λk _=>qd1 (Sx.way_nonneg g B k) (by lia),λr l=>?_,?_⟩,Y⟩
 ·refine vH v ?_
  rw[sk w,qbc];exact Sx.way_rows g n I B l
 ·refine Int.lt_of_mul_lt_mul_left (a:=q) ?_ (by lia)
  rw[sk w,qbc];exact W1
end
end Own
set_option maxHeartbeats 1000000
namespace Own
open PySem L2
open Sx (Pb Tb Good Named Fe LV ZV piv lexP leastR leaveL sumN unit colV basis)
theorem Hh (n:Nat) (f:Nat->Int):okT (.tup [.str "beyond",.tup (mpI n f)])=true:=by
 simp only[okT,vS,bK,jm,qir]
theorem Gc (n m:Nat) (p:Int) (f g:Nat->Int):okT (.tup [.str "most",.int p,.tup (mpI n f),.tup (mpI m g)])=true:=by
 simp only[okT,vS,bK,jm,qir]
def Fj (P:Pb) (S:Tb) (x:D):Prop:=(∃ c,c<P.n/\S.G c<0/\(∀ i,i<P.m->S.T i c<=0)/\x=.tup [.int (c:Int),.non])\/(lh P S x/\(x=.non->∀ c,c<P.n->0<=S.G c))
section
variable {P:Pb}{S:Tb}
theorem AO (d:Pd P) (g:Good P S) (n:Named P S):∃ x,Fj P S x/\okT x=true/\bO [.d (obD P S)] []=some (.d x,[]):=by
 rcases Ft (d.okt g n) (d.kept n) with⟨c,m,hg,F,e⟩|⟨y,I,hn,e⟩
 ·exact⟨_,.inl ⟨c,m,hg,F,U⟩,U,e⟩
 ·refine⟨y,.inr ⟨I,hn⟩,?_,e⟩
  rcases I with rfl|⟨c,r,_,_,_,_,_,_,rfl⟩<;>rfl
theorem lj {st0:Sto}{a b c o:Option W}{x:D} (e:bO [.d (obD P S)] []=some (.d x,[])) (t:okT x=true):dg bO (aa (iV 3) ae) [a,b,c,some (.h (st0.length+2)),o] (stO st0 P S)=some (.d x,stO st0 P S):=
 m9 U (AY U) e t
def pR (P:Pb) (f:Nat) (S:Tb) (x:D):Prop:=
 (∃ S' k,mQ P k/\∀ (st0:Sto) (a b c:Option W),bE g9 fG f [a,b,c,some (.h (st0.length+2)),Z x] (stO st0 P S)=some (.rt (.d (.tup [.str "beyond",.tup (mpI P.n k)])) (stO st0 P S')))\/
 ∃ S',Good P S'/\Named P S'/\Fe P S'/\(∀ c,c<P.n->0<=S'.G c)/\∀ (st0:Sto) (a b c:Option W),bE g9 fG f [a,b,c,some (.h (st0.length+2)),Z x] (stO st0 P S)=some (.nx [a,b,c,some (.h (st0.length+2)),Z .non] (stO st0 P S'))
theorem wO (d:Pd P):∀ (f:Nat) (V:List Nat) (S:Tb) (x:D),Good P S->Named P S->Fe P S->Fj P S x->V.Nodup->(∀ v∈V,v<(P.n+P.m)^P.m)->(∀ v∈V,∃ S',Good P S'/\Named P S'/\Sx.code (P.n+P.m) S'.kept P.m=v/\Sx.less P S' S)->(P.n+P.m)^P.m<f+V.length->pR P f S x
 |0,V,S,x,_,_,_,_,A,hb,_,hf=>by
  have:=Sx.nodup_le _ V A hb
  lia
 |f+1,V,S,x,hg,hn,K,t,A,hb,M,hf=>by
  have h:=d.okt hg hn;rcases t with⟨c,m,B,F,rfl⟩|⟨t,w⟩
  ·obtain⟨k,G,O⟩:=Fu d hg hn m F B
   refine .inl ⟨S,k,G,λst0 a b o=>?_⟩;refine Gq U (fC (ca U (aF (EL (ws:=[.d _,.d _]) (ab U (ab ?_ U)) U (by show 2<=1000;decide)))));refine m9 (ab U (ab (ac U U (iO _ _ _)) U)) (AY U) O ?_;exact zW _ _
  ·rcases t with rfl|⟨c,r,m,B,_,L,R,s,rfl⟩
   ·exact .inr ⟨S,hg,hn,K,w U,λst0 a b o=>Dl U⟩
   ·obtain⟨C,H,f2,J⟩:=Sx.step hg hn K m L R B s
    obtain⟨y,T,oy,X⟩:=AO d C H;have j:∀ {S':Tb},Named P S'->∀ i,i<P.m->S'.kept i<P.n+P.m:=λq i hi=>q.bound.2 i hi;have p:∀ (st0:Sto) (a b o:Option W),fG [a,b,o,some _,some _] _=some _:=λst0 a b o=>by
     have Y:eJ (aq eQ (aa (iV 3) (aa (iOp dIx (iV 4) (iC (.int 1))) (aa (iOp dIx (iV 4) (iC (.int 0))) ae)))) [a,b,o,some (.h (st0.length+2)),Z (.tup [.int (c),.int (r)])] (stO st0 P S)=some (.nx [a,b,o,some (.h (st0.length+2)),Z (.tup [.int (c),.int (r)])] (stO st0 P (piv S r c))):=by
      have:=ag (a:=aa (iV 3) (aa (iOp dIx (iV 4) (iC _)) (aa (iOp dIx (iV 4) (iC _)) ae))) (env:=[a,b,o,some _,some _]) (st:=stO st0 P S) (ab U (ab (ac U U (f8 _ _ _)) (ab (ac U U (iO _ _ _)) U))) (Bt h L m)
      simp only[eJ,this,qao]
     exact ai (bh U U) (ai Y (aj (lj X oy)))
    rcases (wO d f _ _ y C H f2 T
     (qcl.mpr ⟨λhm=>by
       obtain⟨S',u,q,E,z⟩:=M _ hm
       exact Sx.less_kept u hg z (Sx.code_inj (j q) (j hn) E),A⟩)
     (λv l=>by
       rcases qaz.mp l with rfl|l
       ·exact Sx.code_lt (j hn)
       ·exact hb v l)
     (λv l=>by
       rcases qaz.mp l with rfl|l
       ·exact⟨S,hg,hn,U,J⟩
       ·obtain⟨S',u,q,E,z⟩:=M v l
        exact⟨S',u,q,E,Sx.less_trans u.pos hg.pos C.pos z J⟩)
     (by rw[qaq];lia)) with⟨S',k,G,hw⟩|⟨S',gS,N,Q,hS,hw⟩
    ·exact .inl ⟨S',k,G,λst0 a b o=>Av U (p st0 a b o) (hw st0 a b o)⟩
    ·exact .inr ⟨S',gS,N,Q,hS,λst0 a b o=>Av U (p st0 a b o) (hw st0 a b o)⟩
end
def i8 (m n:Nat) (R:Nat->Nat->Int) (b g:Nat->Int):Pb where
 m:=m
 n:=n
 A:=λk t=>if k<n then (if t<m then R t k else 0) else unit (k - n) t
 b:=λt=>if t<m then b t else 0
 g:=λk=>if k<n then g k else 0
def CK (m n:Nat) (R:Nat->Nat->Int) (b g:Nat->Int):Tb:=Sx.tb0 (i8 m n R b g) (λi c=>if c<n then R i c else b i) (λc=>if c<n then - g c else 0)
def mh (m n:Nat) (R:Nat->Nat->Int):D:=.tup ((qak m).map λi=>D.tup (mpI n (R i)))
structure Inp (m n:Nat) (R:Nat->Nat->Int) (b g:Nat->Int):Prop where
 m64:m<=64
 n64:n<=100
 R:∀ i c,i<m->c<n->(R i c).natAbs<=2^50
 b:∀ i,i<m->(b i).natAbs<=2^50/\0<=b i
 g:∀ c,c<n->(g c).natAbs<=2^50
section
variable {m n:Nat}{R:Nat->Nat->Int}{b g:Nat->Int}
theorem Db (h:Inp m n R b g):Pd (i8 m n R b g) where
 bd:={
  m64:=h.m64
  n64:=h.n64
  A:=λk _ t j=>by
   show (if k<n then _ else unit _ t).natAbs<=_;by_cases e:k<n
   ·rw[iFP e,iFP (show t<m from j)];exact h.R t k j e
   ·rw[iFN e];exact Sx.unit_le _ _
  b:=λt j=>by
   show (if t<m then b t else 0).natAbs<=_;rw[iFP (show t<m from j)];exact (h.b t j).1
  g:=λk _=>by
   show (if k<n then g k else 0).natAbs<=_;by_cases e:k<n
   ·rw[iFP e];exact h.g k e
   ·rw[iFN e];exact qcI _ }
 hA:=λk e t j=>by
  have hk':k<n+m:=e;have ht':m<=t:=j;show (if k<n then _ else unit _ t)=0;by_cases q:k<n
  ·rw[iFP q,iFN (by lia)]
  ·rw[iFN q];unfold unit;rw[iFN (by lia)]
 hb:=λt j=>iFN (qhO.mpr j)
 hg:=λr _=>iFN (by show ¬ n+r<n;lia)
theorem Bx (h:Inp m n R b g):Good (i8 m n R b g) (CK m n R b g)/\Named (i8 m n R b g) (CK m n R b g)/\Fe (i8 m n R b g) (CK m n R b g):=by
 have d:=Db h
 have:=Sx.good0
  (λr _=>by
    funext t
    show (if n+r<n then _ else unit (n+r - n) t)=_
    rw[iFN (by lia),qaJ])
  (λk e=>d.hA k (by lia)) d.hb d.hg
  (λi c hi o=>by
    show (if c<n then R i c else b i)=if c<n then _ else _
    rw[iFP (show c<n from o),iFP (show c<n from o),iFP (show i<m from hi)])
  (λi hi=>by
    show (if n<n then _ else b i)=if i<m then b i else 0
    rw[iFN (qbd _),iFP (show i<m from hi)])
  (λc o=>by
    show (if c<n then - g c else 0)=- (if c<n then g c else 0)
    rw[iFP (show c<n from o),iFP (show c<n from o)])
  (by show (if n<n then _ else _)=0;rw[iFN (qbd _)])
 refine⟨this.1,this.2.1,this.2.2 λt j=>?_⟩;show 0<=if t<m then b t else 0;rw[iFP (show t<m from j)];exact (h.b t j).2
theorem wP (f:Nat->Int) (x:Int):mpI n f++[.int x]=mpI (n+1) λc=>if c<n then f c else x:=by
 rw[oP,iFN (qbd _)];rw[bF (g:=λc=>if c<n then f c else x) λk e=>by rw[iFP e]]
theorem AE (lo:Nat) (m:Nat):bi (lo:Int) m=mpI m (nI λi=>lo+i):=by
 refine qcm λk _=>?_;show D.int _=D.int (((lo+k:Nat)));rw[Int.natCast_add]
theorem F5 {st0:Sto}{N K:Option W} (h:Inp m n R b g):qv 4 4 cb (aa (iV 0) (aa (iV 1) (aa (iV 2) ae))) [some (.d (mh m n R)),some (.d (.tup (mpI m b))),some (.d (.tup (mpI n g))),N,K] st0=some (.h (st0.length+2),stO st0 (i8 m n R b g) (CK m n R b g)):=by
 have hm:=h.m64;have hn:=h.n64;generalize G:([none,some (.d (mh m n R)),some (.d (.tup (mpI m b))),some (.d (.tup (mpI n g)))]:Ev)=E;have v1:∀ s,iV 1 E s=some (.d (mh m n R),s):=λs=>by rw[<-G];rfl
 have v2:∀ s,iV 2 E s=some (.d (.tup (mpI m b)),s):=λs=>by rw[<-G];rfl
 have S:∀ s,iV 3 E s=some (.d (.tup (mpI n g)),s):=λs=>by rw[<-G];rfl
 have a:∀ s,iCB a8 (aa (iV 3) ae) E s=some (.d (.int (n:Int)),s):=λs=>by
  have:=aG (g:=a8) (d:=.int ((mpI n g).length:Nat)) (ab (b:=ae) (S s) U) U
  rw[aD]at this;exact this
 have F:∀ s,iCB a8 (aa (iV 1) ae) E s=some (.d (.int (m:Int)),s):=λs=>by
  have:=aG (g:=a8) (d:=.int (((qak m).map λi=>D.tup (mpI n (R i))).length:Nat)) (ab (b:=ae) (v1 s) U) U
  rw[qah,qat]at this;exact this
 have f2:aw (iLc 2 [] (dC (aa (iV 1) (aa (iV 2) ae))) (.tp [0,1]) aJ iD) E st0=some (.d (.lst (aX m n λi c=>if c<n then R i c else b i)),st0):=by
  have X:dC (aa (iV 1) (aa (iV 2) ae)) E st0=some ((qak m).map λi=>D.tup [.tup (mpI n (R i)),.int (b i)],st0):=by
   have z:d6 ((qak m).map λi=>D.tup (mpI n (R i))) (mpI m b)=(qak m).map λi=>D.tup [.tup (mpI n (R i)),.int (b i)]:=by
    apply qbA;intro i;rw[gw,qaC,qaC];by_cases hi:i<m
    ·rw[bg hi,qbh hi];rfl
    ·rw[qaF (l:=qak m) (by rw[qat];lia)];rfl
   rw[<-z]
   have:=ab (v1 st0) (ab (b:=ae) (v2 st0) U)
   simp only[dC,this,qaa];rfl
  refine ar (aL X (by rw[qah,qat];lia) ?_);refine zF (g:=λi=>(D.tup (mpI n (R i)),.int (b i))) (lnD n λi c=>if c<n then R i c else b i) λi hi=>?_;unfold lnD;rw[<-wP (R i) (b i)];exact ac (ar (show iCL ui (aa (iV 0) ae) _ _=some (mpI n (R i),_) from U)) (ar (show bT (aa (iV 1) ae) _ _=some ([.int (b i)],_) from U)) (eB _ (by rw[aD];show _+1<=_;lia))
 have f3:iOp bf (aw (iLc 1 [] (aB (iV 3)) (.nm 0) aJ iE)) (aw (bT (aa (iC (.int 0)) ae))) E st0=some (.d (.lst (mpI (n+1) λc=>if c<n then - g c else 0)),st0):=by
  rw[<-wP (λc=>- g c) 0];refine ac (ar (aL (bo (S st0)) (by rw[aD];lia) (hJ (g:=λk=>D.int (g k)) (λk=>D.int (- g k)) λk _=>rfl))) (ar (show bT (aa (iC (.int 0)) ae) E st0=some ([.int 0],st0) from U)) (eB _ ?_);rw[qah,qat];show _+1<=_;lia
 have f5:db (mx (aa (iCB a8 (aa (iV 3) ae)) ae)) E st0=some (.h st0.length,st0++[.l (mpI n (nI λc=>c))]):=by
  have:=ab (b:=ae) (a st0) U
  have z:mx (aa (iCB a8 (aa (iV 3) ae)) ae) E st0=some (mpI n (nI λc=>c),st0):=by
   simp only[mx,this,qaa];rw[iFP ⟨by lia,by lia⟩,qbe,show bi 0 n=bi ((0:Nat):Int) n from U,AE];simp only[qbj]
  simp only[db,z,qao]
 have T:db (rE (aa (iCB a8 (aa (iV 3) ae)) (aa (iOp bf (iCB a8 (aa (iV 3) ae)) (iCB a8 (aa (iV 1) ae))) ae))) E (st0++[.l (mpI n (nI λc=>c))])=some (.h (st0.length+1),st0++[.l (mpI n (nI λc=>c)),.l (mpI m (nI λi=>n+i))]):=by
  generalize hs:(st0++[C.l (mpI n (nI λc=>c))])=s1;have h2:iOp bf (iCB a8 (aa (iV 3) ae)) (iCB a8 (aa (iV 1) ae)) E s1=some (.d (.int ((n:Int)+(m:Int))),s1):=ac (a s1) (F s1) U
  have:=ab (a s1) (ab (b:=ae) h2 U)
  have z:rE (aa (iCB a8 (aa (iV 3) ae)) (aa (iOp bf (iCB a8 (aa (iV 3) ae)) (iCB a8 (aa (iV 1) ae))) ae)) E s1=some (mpI m (nI λi=>n+i),s1):=by
   simp only[rE,this,qaa];rw[iFP ⟨by lia,by lia,by lia,by lia⟩,show (((n:Int)+(m:Int)) - (n:Int)).toNat=m by lia,AE]
  simp only[db,z,qao];rw[<-hs,qaB]
  simp
 have w:rG cb E st0=some (fsO n (aX m n λi c=>if c<n then R i c else b i) (mpI (n+1) λc=>if c<n then - g c else 0) 1 st0.length,st0++[.l (mpI n (nI λc=>c)),.l (mpI m (nI λi=>n+i))]):=by
  unfold cb;simp only[rG,a st0,f2,f3,f5,T,qaa,qao,show iC (.int 1) E st0=some (.d (.int 1),st0) from U];rfl
 have ha:aa (iV 0) (aa (iV 1) (aa (iV 2) ae)) [some (.d (mh m n R)),some (.d (.tup (mpI m b))),some (.d (.tup (mpI n g))),N,K] st0=some ([.d (mh m n R),.d (.tup (mpI m b)),.d (.tup (mpI n g))],st0):=rfl;simp only[qv,ha,qaa];show (rG cb [none,some (.d (mh m n R)),some (.d (.tup (mpI m b))),some (.d (.tup (mpI n g)))] st0).map _=_;rw[G,w,qao];rw[qaB,qbB];rfl
inductive Bc (P:Pb):D->Prop
 |most (p:Int) (am pr:Nat->Int):yR P p am pr->Bc P (.tup [.str "most",.int p,.tup (mpI P.n am),.tup (mpI P.m pr)])
 |beyond (way:Nat->Int):mQ P way->Bc P (.tup [.str "beyond",.tup (mpI P.n way)])
theorem Al {m n:Nat} (hm:m<=64) (hn:n<=100):(n+m)^m<2^8000:=by
 have J:(n+m)^m<=(2^8)^m:=Nat.pow_le_pow_left (by lia) m;rw[<-qjQ]at J;exact qbF J (wZ (by lia))
theorem BN (h:Inp m n R b g):∃ x,Bc (i8 m n R b g) x/\okT x=true/\∀ st:Sto,∃ u,jj [.d (mh m n R),.d (.tup (mpI m b)),.d (.tup (mpI n g))] st=some (.d x,st++u):=by
 have d:=Db h;obtain⟨O,M,f1⟩:=Bx h;obtain⟨y,sy,Q,L⟩:=AO d O M;generalize hM:(mh m n R)=A at *;generalize hB:D.tup _=B at *;generalize hC:D.tup (mpI n g)=C at *;have I:∀ st0,ay (.nm 3) _ [Z A,Z B,Z C,none,none] st0=some _:=λst0=>by
  rw[<-hM,<-hB,<-hC];exact aj (F5 h)
 rcases (wO d _ [] _ y O M f1 sy qdb (λv H=>nomatch H) (λv H=>nomatch H) (by rw[qb8,qjC];exact Al h.m64 h.n64)) with⟨S',way,bw,hw⟩|⟨S',gS,V,fS,hS,hw⟩
 ·refine⟨_,.beyond way bw,Hh _ _,λst0=>⟨_,av U (ai (I st0) (ai (aj (lj L Q)) (fC (hw st0 _ _ _))))⟩⟩
 ·obtain⟨p,am,pr,mi,Y⟩:=FC d gS V fS hS
  refine⟨_,.most p am pr mi,Gc _ _ _ _ _,λst0=>⟨_,av U (ai (I st0) (ai (aj (lj L Q)) (ai (hw st0 _ _ _) (aF (m9 U (AY U) Y (Gc _ _ _ _ _))))))⟩⟩
end
end Own
namespace Sx
def spR (N k:Nat) (V:Nat->Nat->Int) (r c:Nat):Int:=if r<N then (if c<k then - V r c else if c<k+k then V r (c - k) else if c - (k+k)=r then 1 else 0) else if c<k+k then 0 else if c - (k+k)=r - N then 1 else 0
def spB (N r:Nat):Int:=if r<N then 0 else 1
def spG (k c:Nat):Int:=if c<k+k then 0 else 1
section
variable {N k:Nat}{V:Nat->Nat->Int}{am pr:Nat->Int}{p:Int}
theorem sp_row {i:Nat} (hi:i<N):(sumN (k+k+N) λj=>am j*spR N k V i j)=am (k+k+i) - sumN k λt=>(am t - am (k+t))*V i t:=by
 rw[sumN_append,sumN_append];have m:(sumN k λj=>am j*spR N k V i j)=sumN k λt=>(-1)*(am t*V i t):=sumN_congr λt o=>by
  unfold spR;rw[iFP hi,iFP o,qf8];omega
 have s:(sumN k λj=>am _*spR N k V i (k+j))=sumN k λt=>am (k+t)*V i t:=sumN_congr λt o=>by
  unfold spR;rw[iFP hi,iFN (by omega),iFP (by omega),qaJ]
 have I:(sumN N λj=>am (k+k+j)*spR N k V i (k+k+j))=am (k+k+i):=by
  rw[sumN_single hi λj w c=>by unfold spR;rw[iFP hi,iFN (by omega),iFN (by omega),qaJ,iFN c,qbc]];unfold spR;rw[iFP hi,iFN (by omega),iFN (by omega),qaJ,iFP U,qc3]
 have O:(sumN k λt=>(am t - am (k+t))*V i t)=(sumN k λt=>am t*V i t) - sumN k λt=>am (k+t)*V i t:=by
  rw[<-sumN_sub];exact sumN_congr λt _=>qf7 _ _ _
 rw[m,sumN_mul];omega
theorem sp_lim {i:Nat} (hi:i<N):(sumN (k+k+N) λj=>am j*spR N k V (N+i) j)=am (k+k+i):=by
 rw[sumN_append];have m:(sumN (k+k) λj=>am j*spR N k V (N+i) j)=0:=by
  rw[sumN_congr λj w=>by unfold spR;rw[iFN (by omega),iFP w,qbc],sumN_zero]
 have I:(sumN N λj=>am (k+k+j)*spR N k V (N+i) (k+k+j))=am (k+k+i):=by
  rw[sumN_single hi λj w c=>by unfold spR;rw[iFN (by omega),iFN (by omega),qaJ,qaJ,iFN c,qbc]];unfold spR;rw[iFN (by omega),iFN (by omega),qaJ,qaJ,iFP U,qc3]
 rw[m,I,qbW]
theorem sp_colA {t:Nat} (o:t<k):(sumN (N+N) λr=>spR N k V r t*pr r)=- sumN N λi=>V i t*pr i:=by
 rw[sumN_append];have m:(sumN N λr=>spR N k V r t*pr r)=sumN N λi=>(-1)*(V i t*pr i):=sumN_congr λr g=>by
  unfold spR;rw[iFP g,iFP o,qdK];omega
 have s:(sumN N λr=>spR N k V (N+r) t*pr (N+r))=0:=by
  rw[sumN_congr λj w=>by unfold spR;rw[iFN (by omega),iFP (by omega),qbD],sumN_zero]
 rw[m,sumN_mul];omega
theorem sp_colB {t:Nat} (o:t<k):(sumN (N+N) λr=>spR N k V r (k+t)*pr r)=sumN N λi=>V i t*pr i:=by
 rw[sumN_append];have s:(sumN N λr=>spR N k V (N+r) (k+t)*pr (N+r))=0:=by
  rw[sumN_congr λj w=>by unfold spR;rw[iFN (by omega),iFP (by omega),qbD],sumN_zero]
 rw [(sumN_congr λr g=>by
  unfold spR;rw[iFP g,iFN (by omega),iFP (by omega),qaJ]),s,qed]
theorem sp_colE {i:Nat} (hi:i<N):(sumN (N+N) λr=>spR N k V r (k+k+i)*pr r)=pr i+pr (N+i):=by
 rw[sumN_append];have m:(sumN N λr=>spR N k V r (k+k+i)*pr r)=pr i:=by
  rw[sumN_single hi λr g c=>by unfold spR;rw[iFP g,iFN (by omega),iFN (by omega),qaJ,iFN (qbo c),qbD]];unfold spR;rw[iFP hi,iFN (by omega),iFN (by omega),qaJ,iFP U,qcJ]
 have s:(sumN N λr=>spR N k V (N+r) (k+k+i)*pr (N+r))=pr (N+i):=by
  rw[sumN_single hi λr g c=>by unfold spR;rw[iFN (by omega),iFN (by omega),qaJ,qaJ,iFN (qbo c),qbD]];unfold spR;rw[iFN (by omega),iFN (by omega),qaJ,qaJ,iFP U,qcJ]
 rw[m,s]
theorem sum0 {n:Nat}{f:Nat->Int} (h:∀ i,i<n->0<=f i) (e:sumN n f=0):∀ i,i<n->f i=0:=by
 induction n with
 |zero=>exact λi hi=>absurd hi (qc1 _)
 |succ n K=>
  have L:=sumN_nonneg (n:=n) λi hi=>h i (by omega);have P:=h n (by omega);rw[sumN]at e;intro i hi;rcases Nat.lt_succ_iff_lt_or_eq.mp hi with z|z
  ·exact K (λi hi=>h i (by omega)) (by omega) i z
  ·rw[z];omega
theorem split_core (p1:1<=p) (am0:∀ j,j<k+k+N->0<=am j) (pr0:∀ r,r<N+N->0<=pr r) (rows:∀ r,r<N+N->(sumN (k+k+N) λj=>am j*spR N k V r j)<=p*spB N r)
  (cols:∀ j,j<k+k+N->p*spG k j<=sumN (N+N) λr=>spR N k V r j*pr r) (same:(sumN (N+N) λr=>spB N r*pr r)=sumN (k+k+N) λj=>am j*spG k j) :
  (∀ t,t<k->(sumN N λi=>V i t*pr i)=0)/\∀ i,i<N->0<=(sumN k λt=>(am t - am (k+t))*V i t)/\((sumN k λt=>(am t - am (k+t))*V i t)=0↔pr i≠0):=by
 have u:∀ t,t<k->(sumN N λi=>V i t*pr i)=0:=λt o=>by
  have a:=cols t (by omega);have b:=cols (k+t) (by omega);rw[sp_colA o]at a;rw[sp_colB o]at b;unfold spG at a b;rw[iFP (by omega)]at a b;omega
 have y:∀ i,i<N->am (k+k+i)<=sumN k λt=>(am t - am (k+t))*V i t:=λi hi=>by
  have a:=rows i (by omega);rw[sp_row hi]at a;unfold spB at a;rw[iFP hi]at a;omega
 have F:∀ i,i<N->am _<=p:=λi hi=>by
  have a:=rows (N+i) (by omega);rw[sp_lim hi]at a;unfold spB at a;rw[iFN (by omega),qc3]at a;exact a
 have D:∀ i,i<N->p<=pr i+pr _:=λi hi=>by
  have a:=cols (k+k+i) (by omega);rw[sp_colE hi]at a;unfold spG at a;rw[iFN (by omega),qc3]at a;exact a
 have J:(sumN N λi=>pr (N+i))=sumN N λi=>am (k+k+i):=by
  have m:(sumN (N+N) λr=>spB N r*pr r)=sumN N λi=>pr (N+i):=by
   rw[sumN_append,sumN_congr λr g=>by unfold spB;rw[iFP g,qbD],sumN_zero,qbW];exact sumN_congr λr _=>by unfold spB;rw[iFN (by omega),qcJ]
  have s:(sumN (k+k+N) λj=>am j*spG k j)=sumN N λi=>am (k+k+i):=by
   rw[sumN_append,sumN_congr λr g=>by unfold spG;rw[iFP g,qbc],sumN_zero,qbW];exact sumN_congr λr _=>by unfold spG;rw[iFN (by omega),qc3]
  rw[<-m,<-s];exact same
 have x:∀ i,i<N->0<=am (k+k+i):=λi hi=>am0 _ (by omega);have C:∀ i,i<N->0<=pr i:=λi hi=>pr0 _ (by omega);have G:∀ i,i<N->0<=pr (N+i):=λi hi=>pr0 _ (by omega);have v:=by
  refine sum0 (λi hi=>qeh (C i hi) (qec (x i hi) (y i hi))) ?_;have m:(sumN N λi=>pr i*sumN k λt=>_*V i t)=sumN N λi=>sumN k λt=>(am t - am (k+t))*_:=sumN_congr λi _=>by
   rw[<-sumN_mul];exact sumN_congr λt _=>by rw[qaZ _,qbr]
  rw[m,sumN_swap,sumN_congr λt o=>by rw[sumN_mul,u t o,qbc],sumN_zero]
 have B:∀ i,i<N->pr i*am (k+k+i)=0:=λi hi=>by
  have a:=qdS (y i hi) (C i hi);have b:=qeh (C i hi) (x i hi);rw[v i hi]at a;omega
 have A:∀ i,i<N->pr (N+i)*(p - am (k+k+i))=0:=by
  refine sum0 (λi hi=>qeh (G i hi) (by have:=F i hi;omega)) ?_;have a2:0<=sumN N λi=>am (k+k+i)*(pr (N+i) - p):=sumN_nonneg λi hi=>by
   have b:=qdS (D i hi) (x i hi);rw[qcr,qaZ (am _) (pr i),(B i hi)]at b;rw[qcK];omega
  have H:0<=sumN N λi=>pr (N+i)*(p - am (k+k+i)):=sumN_nonneg λi hi=>qeh (G i hi) (by have:=F i hi;omega)
  rw [(sumN_congr λi _=>by
   rw[qcK,qaZ (am _),qaZ (am _) p]),sumN_sub,sumN_mul]at a2
  rw [(sumN_congr λi _=>by
   rw[qcK,qaZ _ p]),sumN_sub,sumN_mul]at H ⊢
  rw[J]at H ⊢;omega
 refine⟨u,λi hi=>⟨qec (x i hi) (y i hi),λM E=>?_,λE=>?_⟩⟩
 ·have a:=y i hi
  have d:=D i hi;rcases qcn.mp (A i hi) with q|q<;>omega
 ·rcases qcn.mp (v i hi) with q|q
  ·exact absurd q E
  ·exact q
theorem split_most {l:Nat->Int} (w0:∀ j,j<k+k+N->0<=l j) (rows:∀ r,r<N+N->(sumN (k+k+N) λj=>l j*spR N k V r j)<=0) (gain:0<sumN (k+k+N) λj=>l j*spG k j):False:=by
 have s:(sumN (k+k+N) λj=>l j*spG k j)=0:=by
  rw[sumN_append,sumN_congr λr g=>by unfold spG;rw[iFP g,qbc],sumN_zero,qbW,sumN_congr λi hi=>?_,sumN_zero];have a:=rows (N+i) (by omega);rw[sp_lim hi]at a;have b:=w0 (k+k+i) (by omega);rw[show l _=0 by omega,qbD]
 omega
end
end Sx
set_option maxHeartbeats 1000000
namespace Own
open PySem L2
open Sx (Pb Tb Good Named Fe LV ZV piv lexP leastR leaveL sumN unit colV basis)
theorem bV {a:Af}{env:Ev}{st s:Sto}{ws:List W}{ds:List D} (h:a env st=some (ws,s)) (hd:sW ws=some ds) (b:ds.length<=1000:=by decide):bb a env st=some (.d (.tup ds),s):=by
 simp only[bb,h,hd,b,qaa,if_true]
theorem w6 {a:Af}{env:Ev}{st s:Sto}{ws:List W}{ds:List D} (h:a env st=some (ws,s)) (hd:sW ws=some ds) (b:ds.length<=1000:=by decide):bT a env st=some (ds,s):=by
 simp only[bT,h,hd,b,qaa,if_true]
theorem F7 (s:Sto) {a b:Int} (h:qda a b):a9 s (.d (.int a)) (.d (.int b))=some (.int (a*b)):=iFP h
theorem zP (s:Sto) {a b:Int} (h:0<b):gA s (.d (.int a)) (.d (.int b))=some (.int (a%b)):=iFP h
theorem DG (s:Sto) {a b:Int} (h:0<b/\b<1073741824):nu s (.d (.int a)) (.d (.int b))=some (.int (a / b)):=iFP h
theorem Am {st:Sto}{k:Int} (a:0<=k) (f:k<=60):eS [.d (.int k)] st=some (.d (.int (2^k.toNat)),st):=by
 obtain⟨c,h,b,o,rfl,rfl⟩:=bH (g:=.nm 2) (body:=gf) (λi env s=>∃ o,env=[Z (.int k),Z (.int (2^i)),o]/\s=st)
  ⟨none,U,U⟩ (λi d env s hd ⟨o,e,es⟩=>by
   subst e es;obtain⟨rfl,hi⟩:=mO hd;refine⟨_,[some _,some _,Z (.int i)],s,U,.inl ?_,_,U,U⟩
   exact aj (ac U U (F7 _ (gQ (by decide)))))
 rw[c8]at b;exact av U (gT (aj U) (gT (bq (dM U a (by lia) U) b) (aF U)))
theorem yC {j:Nat} (h:j<=20):(0:Int)<2^j/\(2:Int)^j<1073741824:=by
 have a:∀ m ,m<=20->2^m<=2^20:=λm hm=>qbk (by decide) hm;have b:=a j h;have c:0<2^j:=qf5 (by decide);lia
theorem BV {st:Sto}{row k:Int} (a:0<=k) (b:k<=20):rS [.d (.int row),.d (.int k)] st=some (.d (.int (onI row k)),st):=by
 have h:=yC (j:=k.toNat) (by lia);exact av U (aF (ac (ac U (ag U (Am a (by lia))) (DG _ ⟨h.1,h.2⟩)) U (zP _ (by decide))))
def aO (b:Bool) (t:List Int) (row:Int):Int:=if b=true then (if bN row t=(t.length:Int) then 1 else 0) else (if bN row t%2=1 then -1 else 1)
def aE (b:Bool):Str:=if b=true then "both" else "odd"
theorem ym (b:Bool):(aE b==("both" : Str))=b:=by cases b<;>decide
theorem AX {st:Sto}{b:Bool}{t:List Int}{row:Int} (i:∀ k∈t,0<=k/\k<=20) (n:t.length<=1000):jT [.d (.str (aE b)),.d (ao t),.d (.int row)] st=some (.d (.int (aO b t row)),st):=by
 have c:lcI (.nm 0) aJ dS [none,some _] _ st=some ((t.map D.int).map λd=>match d with|.int k=>.int (onI row k)|d=>d,st):=wG _ λd hd=>by
  obtain⟨k,j,rfl⟩:=qaD.mp hd;exact⟨_,U,ag U (BV (i k j).1 (i k j).2)⟩
 have m:((t.map D.int).map λd=>match d with|.int k=>.int (onI row k)|d=>d)=(t.map (onI row)).map D.int:=by rw[qaP,qaP];rfl
 rw[m]at c;have e:=xk st (t.map (onI row));rw[nr]at e;have g:(t.map D.int).length<=1000000:=by rw[qah];lia
 have a:a8 st [.d (ao t)]=some (.int (t.length)):=by
  show some (D.int _)=_;rw[qah]
 have f:dEq st (.d (.str (aE b))) (.d (.str "both"))=some (.bl b):=by rw[FB,ym]
 have l:aO b t row=if b=true then (if (bN row t==(t.length))=true then 1 else 0) else (if (bN row t%2==(1))=true then -1 else 1):=by simp only[aO,beq_iff_eq]
 rw[l];have first:∀ (tl:Sf) (r:Option Fl),tl [Z (.str (aE b)),Z (ao t),Z (.int row),Z (.int (bN row t))] st=r->ah (ay (.nm 3) (iCB sU (aa (aw (iLc 1 [2] (aB (iV 1)) (.nm 0) aJ dS)) ae))) tl [Z (.str (aE b)),Z (ao t),Z (.int row),none] st=r:=λtl r h=>by
  have q:ay (.nm 3) (iCB sU (aa (aw (iLc 1 [2] (aB (iV 1)) _ aJ dS)) ae)) [some _,some _,some _,none] st=some (.nx [Z (.str (aE b)),Z (ao t),some _,some _] st):=aj (aG (ab (ar (aL (bo U) g c)) U) e);simp only[ah,q,qaa,h]
 generalize aE b=kd at *;cases b with
 |true=>
  cases hq:(bN row t==_) with
  |true=>exact av U (first _ _ (xb (Dk (ak U U f) (aF (pq (ak U (aG U a) (by rw[cr,hq])) U)))))
  |false=>exact av U (first _ _ (xb (Dk (ak U U f) (aF (r8 (ak U (aG U a) (by rw[cr,hq])) U)))))
 |false=>
  cases hq:(bN row t%2==_) with
  |true=>exact av U (first _ _ (gT (Dj (ak U U f) U) (aF (pq (ak (ac U U (zP _ (by decide))) U (by rw[cr,hq])) U))))
  |false=>exact av U (first _ _ (gT (Dj (ak U U f) U) (aF (r8 (ak (ac U U (zP _ (by decide))) U (by rw[cr,hq])) U))))
theorem su {st:Sto}{fs:List D} (f:fs.length<=1000):bJ [.d (.tup fs)] st=some (.d (.tup ((bC 0 fs).map D.int)),st):=by
 have a:lcI (.tp [0,1]) fT fM [none,none] (bY 0 fs) st=some (((bY 0 fs).filter Cw).map EQ,st):=iU _ _ λd hd=>by
  obtain⟨i,hi⟩:=List.mem_iff_getElem?.mp hd;rw[d7]at hi;obtain⟨e,c,rfl⟩:=qad.mp hi;exact⟨_,U,by simp only[fT,Cw,iV,iC,aC,pz,xM,nv,cw,qaa,qao,qbv,qbR,qhq,qhr,qbj],λ_=>by simp only[fM,EQ,iV,pz,qao,qbv,qhq,qhr,qbj]⟩
 rw[pI]at a;have b:(bY 0 fs).length<=1000000:=by rw[lu];lia
 simp only[bJ,lU,iV,ae,aa,iCB,aw,aM,iLc,bZ,bj,vn,gX,gB,qaa,qao,qbv,qaw,qeG,qaq,qb8,qdk,qdV,qdP,qdX,qfk,if_true,qbj,lg,a,b]
theorem CA {st:Sto}{fs:List D}{j:Nat}{d:D} (hd:fs[j]?=some d) (a:du d) (hn:d≠.non):gg [.d (.tup fs),.d (.int (j:Int))] st=some (.d (.int (sgD d)),st):=by
 have e:atI fs (j:Int)=some d:=cO hd;rcases a with rfl|rfl|rfl
 ·exact absurd U hn
 ·simp only[gg,li,iV,iC,iOp,aC,iUn,jK,aM,bj,xM,gX,dIx,dEq,ou,eqK,eqD,ie,qaa,qao,qbv,qbR,qaw,qeG,qaq,qb8,qdV,qdP,qdX,qgG,qfk,if_true,if_false,qbm,qbj,lg,qgJ,e,sgD,show ((0:Int)==1)=false by decide,show ¬ (0:Int)=1 by decide]
 ·simp only[gg,li,iV,iC,iOp,aC,iUn,jK,aM,bj,xM,gX,dIx,dEq,ou,eqK,eqD,ie,qaa,qao,qbv,qbR,qaw,qeG,qaq,qb8,qdV,qdP,qdX,qgG,qfk,if_true,qbj,lg,qgJ,e,sgD,show ((1:Int)==1)=true by decide]
theorem AI {d:D}:sgD d=1\/sgD d=-1:=by
 unfold sgD;split
 ·split
  ·exact .inl U
  ·exact .inr U
 ·exact .inl U
theorem yH {st:Sto}{fs:List D}{j:Nat}{d:D}{b:Bool}{t:List Int} (hd:fs[j]?=some d) (c:du d) (hn:d≠.non) (e:∀ k∈t,0<=k/\k<=20) (i:t.length<=1000) :
  cY [.d (.tup fs),.d (.str (aE b)),.d (ao t),.d (.int (j:Int))] st=some (.d (.int (sgD d*aO b t j)),st):=by
 have f:=CA (st:=st) hd c hn;have a:=AX (st:=st) (b:=b) (row:=j) e i;have g:qda (sgD d) (aO b t j):=dY (by rcases AI (d:=d) with h|h<;>(rw[h];decide));generalize aE b=kd at a ⊢;generalize ao t=tt at a ⊢;simp only[cY,ir,iV,iOp,ae,aa,aq,aM,bj,a9,qaa,qao,qbv,qbR,qaw,qeG,qaq,qb8,qdV,qdP,qdX,qgG,qfk,if_true,qbj,qgJ,f,a,g]
end Own
set_option maxHeartbeats 1000000
namespace Own
open PySem L2
open Sx (Pb Tb Good Named Fe LV ZV piv lexP leastR leaveL sumN unit colV basis)
theorem jo {α b:Type} (a:α) (F:α->b) (l:List α):l.map F=(qak l.length).map λi=>F (l.getD i a):=by
 apply qbA;intro i;rw[qaC,qaC];by_cases h:i<l.length
 ·rw[qbh h,qam h,qao,qao,qaA,qam h];rfl
 ·rw[qaF (by lia),qaF (by rw[qat];lia)];rfl
theorem oQ {n l:Nat}{f h g:Nat->Int} (c:∀ i,i<n->g i=f i) (b:∀ i,i<l->g (n+i)=h i):mpI n f++mpI l h=mpI (n+l) g:=by
 apply qbA;intro i;by_cases q:i<n
 ·rw[qaG (by rw[aD];exact q),bg q,bg (by lia),c i q]
 ·rw[qaI (by rw[aD];lia),aD]
  by_cases a:i<n+l
  ·rw[bg (by lia),bg a,<-b _ (by lia),show n+_=i by lia]
  ·rw[qaF (by rw[aD];lia),qaF (by rw[aD];lia)]
theorem vV (c:Int):∀ n,(qay n [D.int c]).flatten=mpI n λ_=>c
 |0=>rfl
 |n+1=>by rw[oP,qgZ,qg9,vV c n];rfl
theorem jP {α:Type}{te:Ef}{l:Ev}{st:Sto}{g:α->D} (F:α->D):∀ {ks:List α},(∀ k∈ks,te (Z (g k)::l) st=some (.d (F k),st))->lcI (.nm 0) aJ te (none::l) (ks.map g) st=some (ks.map F,st)
 |[],_=>rfl
 |k::ks,h=>by
  rw[qaw];unfold lcI;rw[show eZ _ _ _=some (some _::l) from U,qaa,show aJ _ st=some (true,st) from U,qaa,(h k qag),qaa,(jP F λx a=>h x (qai _ a))];rfl
theorem wt (F:Nat->D) (n:Nat):bY 0 ((qak n).map F)=(qak n).map λi:Nat=>D.tup [.int ((i:Nat):Int),F i]:=by
 apply qbA;intro i;rw[d7,qaC,qaC];by_cases hi:i<n
 ·rw[qbh hi,qao,qao,qao,qbj]
 ·rw[qaF (by rw[qat];lia)];rfl
structure Spl (fs:List D) (ts:List (List Int)):Prop where
 fl:fs.length<=32
 fv:∀ d∈fs,du d
 tl:ts.length<=16
 tt:∀ t∈ts,(∀ k∈t,0<=k/\k<=20)/\t.length<=20
 nd:ts.Nodup
def nR (fs:List D):Nat:=(bC 0 fs).length
def k7 (fs:List D) (i:Nat):Int:=(bC 0 fs).getD i 0
def spV (fs:List D) (b:Bool) (ts:List (List Int)) (i t:Nat):Int:=sgD (fs.getD (k7 fs i).toNat .non)*aO b (ts.getD t []) (k7 fs i)
def tsD (ts:List (List Int)):D:=.tup (ts.map ao)
section
variable {fs:List D}{b:Bool}{ts:List (List Int)}
theorem Spl.n (h:Spl fs ts):nR fs<=32:=qaV (lP fs 0) h.fl
theorem pw (h:Spl fs ts) {j:Int} (a:j∈bC 0 fs):∃ (m:Nat) (d:D),j=(m:Int)/\m<fs.length/\fs[m]?=some d/\du d/\d≠.non/\fs.getD j.toNat .non=d:=by
 obtain⟨m,e,hm,hn⟩:=lQ fs 0 a;rw[qbj]at e;have hd:=qam hm;refine⟨m,_,e,hm,hd,h.fv _ (qbQ hm),λq=>hn (by rw[hd,q]),?_⟩;rw[e,qbe,qaA,hd];rfl
theorem uS {st:Sto} (h:Spl fs ts):dJ [.d (.tup fs),.d (.str (aE b)),.d (tsD ts)] st=some (.d (.lst ((qak (nR fs)).map λi=>D.lst (mpI ts.length (spV fs b ts i)))),st):=by
 have o:∀ j∈bC 0 fs,lcI _ aJ fg [none,some _,some _,Z _] _ st=some (ts.map λt=>D.int (sgD (fs.getD j.toNat .non)*aO b t j),st):=λj a=>by
  obtain⟨m,d,rfl,hm,hd,p,hn,hg⟩:=pw h a;refine jP (g:=ao) _ λt l=>?_;rw[hg];exact ag (ab U (ab U (ab U (ab U U)))) (yH hd p hn (h.tt t l).1 (by have:=(h.tt t l).2;lia))
 have n:lcI _ aJ fj [none,some _,some _,some _] _ st=some ((bC 0 fs).map λj=>D.lst _,st):=
  jP _ λj a=>ar (aL (bo U) (by rw[qah];have:=h.tl;lia) (o j a))
 have e:((bC 0 fs).map λj=>D.lst (ts.map λt=>D.int (sgD (fs.getD j.toNat .non)*aO b t j)))=(qak (nR fs)).map λi=>D.lst (mpI ts.length (spV fs b ts i)):=by
  rw[jo 0 _ _];refine qcm λi _=>?_;rw[jo [] _ ts];rfl
 rw[e]at n;exact av U (aF (ar (aL (bo (ag U (su (by have:=h.fl;lia)))) (by rw[qah];have:=h.n;unfold nR at this;lia) n)))
theorem zZ {st:Sto}{i N:Nat} (hN:N<=100):kN [.d (.int (i:Int)),.d (.int (N:Int))] st=some (.d (.lst (mpI N λj=>if j=i then 1 else 0)),st):=by
 exact av U (aF (ar (aL (dM U (by lia) (by lia) (by lia)) (by unfold bi;rw [qah,qat];lia) (hJ (λj=>D.int _) λj _=>by
   have c:aC dEq (iV 0) (iV 1) [Z (.int (0+((j)))),Z (.int (i))] st=some (decide (j=i),st):=by
    have e:((0+((j)))==(i:Int))=decide (j=i):=by lia
    refine ak U U ?_;rw[cr,e]
   by_cases q:j=i
   ·rw[iFP q];rw[decide_eq_true q]at c;exact pq c U
   ·rw[iFN q];rw[decide_eq_false q]at c;exact r8 c U))))
theorem CP {st:Sto}{k:Nat}{f:Nat->Int} (r:k<=100):iZ [.d (.lst (mpI k f))] st=some (.d (.lst (mpI k f++mpI k λt=>- f t)),st):=by
 have n:lcI _ aJ jx [none] (mpI k f) st=some (mpI k λt=>- f t,st):=hJ _ λt _=>rfl;exact av U (aF (ac (ar (U)) (ar (aL (aS U) (by rw[aD];lia) n)) (eB _ (by rw[aD,aD];lia))))
end
end Own
set_option maxHeartbeats 1000000
namespace Own
open PySem L2
open Sx (Pb Tb Good Named Fe LV ZV piv lexP leastR leaveL sumN unit colV basis)
theorem EO {α:Type} (F:Nat->α) (n l:Nat):(qak n).map F++(qak l).map (λi=>F (n+i))=(qak (n+l)).map F:=by
 apply qbA;intro i;by_cases q:i<n
 ·rw[qaG (by rw[qah,qat];exact q),qaC,qaC,qbh q,qbh (by lia)]
 ·rw[qaI (by rw[qah,qat];lia),qaC,qaC,qah,qat]
  by_cases a:i<n+l
  ·rw[qbh (by lia),qbh a,qao,qao,show n+_=i by lia]
  ·rw[qaF (by rw[qat];lia),qaF (by rw[qat];lia)];rfl
theorem kS (s:Sto) (c:Int) {n:Nat} (hn:n<1000):a9 s (.d (.tup [.int c])) (.d (.int (n:Int)))=some (.tup (mpI n λ_=>c)):=by
 show (if _ then some _ else none)=_;rw[iFP ⟨by simp,by show 1<=1000;decide,by lia,by lia⟩,qbe,vV]
theorem zR (s:Sto) (c:Int) {n:Nat} (hn:n<1000):a9 s (.d (.lst [.int c])) (.d (.int (n:Int)))=some (.lst (mpI n λ_=>c)):=by
 show (if _ then some _ else none)=_;rw[iFP ⟨by show 1<=1000;decide,by lia,by lia⟩,qbe,vV]
theorem Dr (s:Sto) (k:Nat):a9 s (.d (.int 2)) (.d (.int (k:Int)))=some (.int ((k+k:Nat):Int)):=by
 rw[bL s (dY (by decide)),show _*_=((k+k:Nat):Int) by lia]
section
variable {fs:List D}{b:Bool}{ts:List (List Int)}{N k:Nat}{V:Nat->Nat->Int}
theorem xZ {st:Sto} (hN:N<=32) (v:k<=16):lcI (.tp [0,1]) aJ j8 [none,none,Z (.int (N:Int))] ((qak N).map λi:Nat=>D.tup [.int ((i:Nat):Int),.lst (mpI k (V i))]) st=some ((qak N).map λi=>D.lst (mpI (k+k+N) (Sx.spR N k V i)),st):=
 zF (g:=λi=>(D.int _,D.lst _)) _ λi hi=>by
  have o:=qaR.mp hi;have H:mpI k _++mpI k (λt=>- - V i t)=mpI _ (Sx.spR N k V i):=oQ (λt q=>by unfold Sx.spR;rw[iFP o,iFP q]) (λt q=>by unfold Sx.spR;rw[iFP o,iFN (by lia),iFP (by lia),qaJ,Int.neg_neg]);have hw:=CP (st:=st) (k:=k) (f:=λt=>- V i t) (by lia);rw[H]at hw;rw[<-(oQ (λt q=>rfl) (λj a=>by unfold Sx.spR;rw[iFP o,iFN (by lia),iFN (by lia),qaJ]))];exact ac (ag (ab (ar (aL (aS U) (by rw[aD];lia) (hJ _ λt _=>rfl))) U) hw) (ag (ab U (ab U U)) (zZ (st:=st) (i:=i) (N:=N) (by lia))) (eB _ (by rw[aD,aD];lia))
theorem yo {st:Sto} (hN:N<=32) (v:ts.length<=16):lcI (.nm 0) aJ gF [none,Z (tsD ts),Z (.int (N:Int))] (bi 0 N) st=some ((qak N).map λi=>D.lst (mpI (ts.length+ts.length+N) (Sx.spR N ts.length V (N+i))),st):=
 hJ _ λi hi=>by
  have m:a8 st [.d (tsD ts)]=some (.int (ts.length)):=by
   show some (D.int _)=_;rw[qah]
  rw[<-(oQ (λt q=>by unfold Sx.spR;rw[iFN (by lia),iFP q]) (λj a=>by unfold Sx.spR;rw[iFN (by lia),iFN (by lia),qaJ,qaJ])),qbW];exact ac (ac (ar (U)) (ac U (aG (ab U U) m) (Dr st _)) (zR st 0 (by lia))) (ag (ab U (ab U U)) (zZ (by lia))) (eB _ (by rw[aD,aD];lia))
theorem EV (hN:N<=32) (v:k<=16) (C:∀ i t,(V i t).natAbs<=1):Inp (N+N) (k+k+N) (Sx.spR N k V) (Sx.spB N) (Sx.spG k):=by
 have one:∀ {z:Int},z.natAbs<=1->z.natAbs<=2^50:=λh=>qaV h (by decide);refine⟨by lia,by lia,λi c _ _=>one ?_,λi _=>⟨one ?_,?_⟩,λc _=>one ?_⟩
 ·unfold Sx.spR
  split
  ·split
   ·rw[qik];exact C _ _
   ·split
    ·exact C _ _
    ·split<;>decide
  ·split
   ·decide
   ·split<;>decide
 ·unfold Sx.spB;split<;>decide
 ·unfold Sx.spB;split<;>decide
 ·unfold Sx.spG;split<;>decide
structure Fi (N k:Nat) (V:Nat->Nat->Int) (p:Int) (am pr:Nat->Int):Prop where
 bal:∀ t,t<k->(sumN N λi=>V i t*pr i)=0
 val:∀ i,i<N->0<=(sumN k λt=>(am t - am (k+t))*V i t)/\((sumN k λt=>(am t - am (k+t))*V i t)=0↔pr i≠0)
 sa:∀ j,j<k+k+N->Sm (am j)/\0<=am j
 sr:∀ i,i<N->Sm (pr i)/\0<=pr i
theorem GC {x:D} (M:Bc (i8 (N+N) (k+k+N) (Sx.spR N k V) (Sx.spB N) (Sx.spG k)) x):∃ p am pr,Fi N k V p am pr/\x=.tup [.str "most",.int p,.tup (mpI (k+k+N) am),.tup (mpI (N+N) pr)]:=by
 have y:∀ {r j:Nat},r<N+N->j<k+k+N->(i8 _ _ _ (Sx.spB N) (Sx.spG k)).A j r=Sx.spR N k V r j:=λl a=>by
  show (if _<k+k+N then _ else _)=_;rw[iFP a,iFP l]
 have F:∀ {r:Nat},r<N+N->(i8 _ (k+k+N) (Sx.spR N k V) _ (Sx.spG k)).b r=Sx.spB N r:=λl=>iFP l;have pg:∀ {j:Nat},j<k+k+N->(i8 (N+N) _ (Sx.spR N k V) (Sx.spB N) _).g j=Sx.spG k j:=λa=>iFP a;cases M with
 |beyond s M=>
  exfalso
  refine Sx.split_most (V:=V) M.w0 (λr l=>?_) ?_
  ·have:=M.rows r l
   rw[Sx.sumN_congr (g:=λj=>s j*(i8 _ _ _ _ _).A j r) λj a=>by rw[y l a]];exact this
  ·have:=M.gain
   rw[Sx.sumN_congr (g:=λj=>s j*(i8 _ _ _ _ _).g j) λj a=>by rw[pg a]];exact this
 |most p am pr M=>
  have c:=Sx.split_core M.p1 M.am0 M.pr0 (λr l=>by
   have:=M.rows r l
   rw[F l]at this;rw[Sx.sumN_congr (g:=λj=>am j*(i8 _ _ _ _ _).A j r) λj a=>by rw[y l a]];exact this) (λj a=>by
   have:=M.cols j a
   rw[pg a]at this;rw[Sx.sumN_congr (g:=λr=>(i8 _ _ _ _ _).A j r*pr r) λr l=>by rw[y l a]];exact this) (by
   have:=M.same
   rw[Sx.sumN_congr (g:=λr=>(i8 _ _ _ _ _).b r*pr r) λr l=>by rw[F l],Sx.sumN_congr (n:=k+k+N) (g:=λj=>am j*(i8 _ _ _ _ _).g j) λj a=>by rw[pg a]]
   exact this)
  exact⟨p,am,pr,⟨c.1,c.2,λj a=>⟨M.sa j a,M.am0 j a⟩,λi hi=>⟨M.sr i (show i<N+N by lia),M.pr0 i (show i<N+N by lia)⟩⟩,U⟩
theorem EU (i t:Nat):(spV fs b ts i t).natAbs<=1:=by
 unfold spV;rw[qdi];have G:(sgD (fs.getD (k7 fs i).toNat .non)).natAbs<=1:=by rcases AI with h|h<;>rw[h]<;>decide
 have I:(aO b (ts.getD t []) (k7 fs i)).natAbs<=1:=by
  unfold aO;split<;>split<;>decide
 exact qaV (qdh G I) (by decide)
theorem F3 (h:Spl fs ts) (hN:0<nR fs):∃ p am pr,Fi (nR fs) ts.length (spV fs b ts) p am pr/\∀ (st:Sto) (B:Option W),∃ u,
  ah (ay (.nm 6) (aw (iLc 1 [2,4] (bD (aa (iV 4) ae)) (.nm 0) aJ gF))) (ay (.nm 7) (aq jj (aa (iCB gB (aa (aw (iLc 1 [] (aB (iOp bf (iV 5) (iV 6))) (.nm 0) aJ gD)) ae)) (aa (iOp bf (iOp a9 (bb (aa (iC (.int 0)) ae)) (iV 4)) (iOp a9 (bb (aa (iC (.int 1)) ae)) (iV 4))) (aa (iOp bf (iOp a9 (bb (aa (iC (.int 0)) ae)) (iOp a9 (iC (.int 2)) (iCB a8 (aa (iV 2) ae)))) (iOp a9 (bb (aa (iC (.int 1)) ae)) (iV 4))) ae)))))
   [Z (.tup fs),Z (.str (aE b)),Z (tsD ts),Z (.lst ((qak (nR fs)).map λi=>D.lst (mpI ts.length (spV fs b ts i)))),Z (.int (nR fs:Int)),Z (.lst ((qak (nR fs)).map λi=>D.lst (mpI (ts.length+ts.length+nR fs) (Sx.spR (nR fs) ts.length (spV fs b ts) i)))),none,B] st
   = some (.nx [Z (.tup fs),Z (.str (aE b)),Z (tsD ts),Z (.lst ((qak (nR fs)).map λi=>D.lst (mpI ts.length (spV fs b ts i)))),Z (.int (nR fs:Int)),Z (.lst ((qak (nR fs)).map λi=>D.lst (mpI (ts.length+ts.length+nR fs) (Sx.spR (nR fs) ts.length (spV fs b ts) i)))),Z (.lst ((qak (nR fs)).map λi=>D.lst (mpI (ts.length+ts.length+nR fs) (Sx.spR (nR fs) ts.length (spV fs b ts) (nR fs+i))))),Z (.tup [.str "most",.int p,.tup (mpI (ts.length+ts.length+nR fs) am),.tup (mpI (nR fs+nR fs) pr)])] (st++u)):=by
 have hn:=h.n;have v:=h.tl;obtain⟨x,M,_,J⟩:=BN (EV hn v EU);obtain⟨p,am,pr,w,rfl⟩:=GC M;refine⟨p,am,pr,w,λst B=>?_⟩;obtain⟨u,e⟩:=J st;refine⟨u,?_⟩;have m:a8 st [.d (tsD ts)]=some (.int (ts.length)):=by
  show some (D.int _)=_;rw[qah]
 have K:=yo (st:=st) (V:=spV fs b ts) hn v;have hb:mpI _ _++mpI (nR fs) _=mpI _ (Sx.spB (nR fs)):=oQ (λi hi=>by unfold Sx.spB;rw[iFP hi]) (λi hi=>by unfold Sx.spB;rw[iFN (by lia)]);have hg:mpI _ _++mpI (nR fs) _=mpI _ (Sx.spG ts.length):=oQ (λi hi=>by unfold Sx.spG;rw[iFP hi]) (λi hi=>by unfold Sx.spG;rw[iFN (by lia)]);have l:=EO (λr=>D.lst (mpI (ts.length+ts.length+nR fs) (Sx.spR (nR fs) ts.length (spV fs b ts) r))) (nR fs) (nR fs);have q:lcI _ aJ gD [none] _ st=some ((qak (nR fs+nR fs)).map λr=>D.tup _,st):=
  hJ (g:=λr=>D.lst (mpI (ts.length+ts.length+nR fs) (Sx.spR (nR fs) ts.length (spV fs b ts) r))) _ λr _=>rfl
 generalize nR fs=N at *;generalize ts.length=k at *;generalize spV fs b ts=V at *;generalize ((qak N).map λi=>D.lst (mpI (k+k+N) (Sx.spR N k V i)))=L5 at *;generalize ((qak N).map λi=>D.lst _)=L6 at *;have E:L5.length+L6.length<=1000000:=by
  have:=congrArg qe0 l
  rw[qaB,qah,qat]at this;lia
 refine ai (aj (ar (aL (dM (e:=iV 4) (z:=(N:Int)) U (by lia) (by lia) (by lia)) (by unfold bi;rw[qah,qat];lia) K))) (aj (ag (ab (aG (ab (ar (aL (aS (ac U U (eB _ E))) (by rw[qaB];exact E) ?_)) U) U) (ab (ac (ac U U (kS st 0 (by lia))) (ac U U (kS st 1 (by lia))) ((mU _ (by rw[aD,aD];lia)).trans (by rw[hb]))) (ab (ac (ac U (ac U (aG (ab U U) m) (Dr st _)) (kS st 0 (by lia))) (ac U U (kS st 1 (by lia))) ((mU _ (by rw[aD,aD];lia)).trans (by rw[hg]))) U))) e));rw[l];exact q
end
end Own
set_option maxHeartbeats 1000000
namespace Own
open PySem L2
open Sx (Pb Tb Good Named Fe LV ZV piv lexP leastR leaveL sumN unit colV basis)
theorem G9 {ns:List Int} (h:∀ x∈ns,x=0):dA 0 ns=0:=by
 have d:=λx a=>qcV.mpr ((dB 0 ns).2 x a)
 induction ns with
 |nil=>rfl
 |cons x ns c=>
  have a:=h x qag;subst a;exact c (λy b=>h y (qai _ b)) (λy b=>qcV.mpr ((dB 0 ns).2 y b))
theorem BK {n:Nat}{f:Nat->Int} (o:∀ i,i<n->Sm (f i)) (hn:n<=1000):∃ (q:Int) (g:Nat->Int),0<q/\(∀ i,i<n->f i=q*g i)/\∀ st:Sto,di [.d (.tup (mpI n f))] st=some (.d (.tup (mpI n g)),st):=by
 have hb:∀ x∈(qak n).map f,Sm x:=λx a=>by
  obtain⟨i,hi,rfl⟩:=qaD.mp a;exact o i (qaR.mp hi)
 have k:=λst=>ww (st:=st) (λ_ _=>by rw[<-bK];exact bo U) hb;by_cases j:∀ x∈(qak n).map f,x=0
 ·refine⟨1,f,by decide,λi _=>(qcJ _).symm,λst=>?_⟩
  have e:=k st;rw[G9 j]at e;exact av U (ai (aj (ag U e)) (fC (ca U U)))
 ·obtain⟨x,a,m⟩:∃ x∈(qak n).map f,x≠0:=by
   by_cases q:∃ x∈(qak n).map f,x≠0
   ·exact q
   ·exact absurd (λx a=>qcp λh=>q ⟨x,a,h⟩) j
  obtain⟨c,l⟩:=lw a m (hb x a);have gd:∀ i,i<n->_∣f i:=λi hi=>qcV.mpr ((dB 0 _).2 _ (qaD.mpr ⟨i,qaR.mpr hi,U⟩));generalize ((dA 0 _):Int)=q at *;refine⟨q,_,c,λi hi=>(qdT (gd i hi)).symm,λst=>?_⟩;have r:(q==(0))=false:=by lia
  have b:=rs (st:=st) (ns:=(qak n).map f) c l U;rw[<-bK,qaP,qaP]at b;have p:(mpI n f).length<=1000000:=by rw[aD];lia
  exact av U (ai (aj (ag U (k st))) (ai (bh (ak U U (by rw[cr,r])) U) (aF (aG (ab (ar (aL (bo U) p b)) U) U))))
def rN (fs:List D) (i:Nat):Nat:=(k7 fs i).toNat
section
variable {fs:List D}{b:Bool}{ts:List (List Int)}
theorem xm:∀ (r:List D) (i:Nat),(bC i r).Nodup
 |[],_=>qdb
 |d::r,i=>by
  have B:=xm r (i+1);have u:∀ j∈bC _ r,(i)≠j:=λj q=>by
   obtain⟨m,e,_,_⟩:=lQ r (i+1) q;lia
  cases d<;>first|exact B|exact (qcl.mpr ⟨λhm=>u _ hm U,B⟩)
theorem AH {i:Nat} (hi:i<nR fs):k7 fs i∈bC 0 fs:=by
 unfold k7;rw[qaA,qam hi];exact qbQ hi
theorem qE (h:Spl fs ts) {i:Nat} (hi:i<nR fs):k7 fs i=(rN fs i:Int)/\rN fs i<fs.length:=by
 obtain⟨m,d,e,hm,_⟩:=pw h (AH hi);unfold rN;rw[e];exact⟨U,hm⟩
theorem vW (h:Spl fs ts) {i j:Nat} (hi:i<nR fs) (q:j<nR fs) (e:rN fs i=rN fs j):i=j:=by
 have t:k7 fs i=k7 fs j:=by rw[(qE h hi).1,(qE h q).1,e]
 unfold k7 at t;rw[qaA,qaA,qam hi,qam q]at t;exact (qdO (xm fs 0)).mp t
theorem AZ {st:Sto}{m:Nat}{y:Nat->Int} (h:Spl fs ts) (hm:m=nR fs\/m=0):dX [.d (.tup fs),.d (.tup (mpI m y))] st=some (.d (.tup (mpI fs.length λr=>acc (rN fs) y m r)),st):=by
 have F:=h.fl;have E:∀ (w c f:Option W) (s:Sto),bJ [.d (.tup fs)] s=some (.d (.tup ((bC 0 fs).map D.int)),s)->dC (aa (aq bJ (aa (iV 0) ae)) (aa (iV 1) ae)) [Z (.tup fs),Z (.tup (mpI m y)),w,c,f] s=some ((qak m).map λi=>D.tup [.int ((rN fs i:Nat):Int),.int (y i)],s):=λw c f s G=>by
  have t:d6 ((bC 0 fs).map D.int) (mpI m y)=(qak m).map λi=>D.tup [.int ((rN fs i:Nat):Int),.int (y i)]:=by
   apply qbA;intro i;rw[gw,qaC,qaC];by_cases hi:i<m
   ·rw[bg hi,qbh hi]
    have p:i<(bC 0 fs).length:=by have:nR fs=(bC 0 fs).length:=rfl;lia
    have e:=(qE h (show i<nR fs by lia)).1;unfold k7 at e;rw[qaA,qam p]at e;rw[qam p,qao,qao,<-e];rfl
   ·rw[qaF (l:=mpI m y) (by rw[aD];lia),qaF (l:=qak m) (by rw[qat];lia)]
    cases (bC 0 fs)[i]?<;>rfl
  rw[<-t]
  have:=ab (ag (a:=aa (iV 0) ae) (env:=[Z (.tup fs),Z (.tup (mpI m y)),w,c,f]) (st:=s) U G) (ab (a:=iV 1) (b:=ae) U U)
  simp only[dC,this,qaa];rfl
 obtain⟨A,H,z,⟨c,f,rfl⟩,rfl⟩:=bH (g:=.tp [3,4]) (body:=iT) (ds:=(qak m).map λi=>D.tup [.int ((rN fs i:Nat):Int),.int (y i)])
  (λi env s=>(∃ c f,env=[Z (.tup fs),Z (.tup (mpI m y)),some (.h st.length),c,f])/\s=st++[.l (mpI fs.length λr=>acc (rN fs) y i (0+r))])
  ⟨⟨_,_,U⟩,U⟩ (λi d env s hd ⟨⟨c,f,e⟩,es⟩=>by
   subst e es;obtain⟨hi,rfl⟩:=oN hd;refine⟨_,_,_,U,.inl ?_,⟨some (.d (.int ((rN fs i:Nat):Int))),Z (.int (y i)),U⟩,U⟩
   have:=sIx (k:=rN fs i) (env:=[Z (.tup fs),Z (.tup (mpI m y)),some (.h st.length),Z (.int ((rN fs i:Nat):Int)),Z (.int (y i))]) (v:=iV 4) (d:=.int (y i)) (st:=st) (xs:=mpI fs.length λr=>acc (rN fs) y i (0+r)) U (o:=iV 2) (i:=iV 3) U U (by rw[aD];exact ((qE h (show i<nR fs by lia)).2))
   rw[<-qL (d:=0) (N:=fs.length) (e:=rN fs) (y:=y) (i:=i) (by lia) λj q e=>by have:=vW h (show j<nR fs by lia) (show i<nR fs by lia) e;lia]
   exact this)
 rw[qah,qat]at z;have x:=su (st:=st++[.l (mpI fs.length λr=>acc (rN fs) y 0 (0+r))]) (fs:=fs) (by lia);have C:iCB gB (aa (iV 2) ae) [Z (.tup fs),Z (.tup (mpI m y)),some (.h st.length),c,f] (st++[.l (mpI fs.length λr=>acc (rN fs) y m (0+r))])=some (.d (.tup (mpI fs.length λr=>acc (rN fs) y m (0+r))),st++[.l (mpI fs.length λr=>acc (rN fs) y m (0+r))]):=by
  refine aG (ab U U) ?_;show (lg (st++[.l (mpI fs.length λr=>acc (rN fs) y m (0+r))]) st.length).map _=_;rw[(dH st (mpI fs.length λr=>acc (rN fs) y m (0+r)))];rfl
 have:=gn (n:=5) (k:=2) (b:=j0) (ws:=[.d (.tup fs),.d (.tup (mpI m y))]) (st:=st) U (ai (aj (jl (st:=st) (aG (ab U U) U) (by lia) _ y 0)) (ai (bq (E _ _ _ _ x) z) (aF C)))
 rw[qcN]at this;simp only[qbj]at this;exact this
end
end Own
set_option maxHeartbeats 1000000
namespace Own
open PySem L2
open Sx (Pb Tb Good Named Fe LV ZV piv lexP leastR leaveL sumN unit colV basis)
theorem sA (k:List Int) (d:D) (r:List (List Int×D)) (t:List Int):vM ((k,d)::r) t=if k=t then some d else vM r t:=by
 unfold vM;by_cases e:k=t
 ·rw[qey (by simpa using e),iFP e];rfl
 ·rw[qez (by simpa using e),iFN e]
theorem Bi (a:List (List Int×D)) (k:List Int):(a.any λp=>decide (p.1=k))=decide (k∈a.map qdg):=by
 induction a with
 |nil=>rfl
 |cons p r b=>
  rw[qcj,b];by_cases e:p.1=k
  ·simp[e]
  ·have:¬ k=p.1:=λz=>e z.symm
   simp[e,this]
theorem AU (k:List Int) (d:D) (j:List Int):∀ a:List (List Int×D),k∉a.map qdg->vM (a++[(k,d)]) j=if j=k then some d else vM a j
 |[],_=>by
  show vM [(k,d)] j=_;rw[sA];by_cases e:k=j
  ·rw[iFP e,iFP e.symm]
  ·rw[iFN e,iFN (λz=>e z.symm)]
 |(c,d')::r,h=>by
  rw[qaw,qaz,not_or]at h;rw[qdP,sA,sA,AU k d j r h.2];by_cases b:c=j
  ·rw[iFP b,iFP b,iFN (λz=>h.1 (z.symm.trans b.symm))]
  ·rw[iFN b,iFN b]
theorem Br (s:Sto) (a:Int):dNe s (.d (.int a)) (.d (.int 0))=some (.bl (decide (a≠0))):=by
 show some (D.bl (!(a==0)))=_;by_cases h:a=0<;>simp[h]
def aZ (ks:List (List Int)) (X:List Int->Int):List Prt:=(ks.filter λt=>decide (X t≠0)).map λt=>(t,X t)
theorem zj {st:Sto}{kd:Str}{n:Nat}{a:List (List Int×D)}{X:List Int->Int} (hm:mgt st n=some a) (i:a.length<64) (m:∀ t∈a.map qdg,vM a t=some (.int (X t))) :
  i4 [.d (.str kd),.h n] st=some (.d (bn kd (aZ (ax (a.map qdg)) X)),st):=by
 have o:(ax (a.map qdg)).length<=64:=by rw[(aK _).length_eq,qah];lia
 have c:∀ t∈ax _,yd (iV 1) (iV 0) [Z (ao t),some (.h n)] st=some (.d (.int (X t)),st):=λt b=>by
  have p:=(λt b=>m t ((aK _).mem_iff.mp b)) t b;simp only[yd,iV,ao,qbv,qbR,qao,qaa,hm,(be t),p]
 have f:=iU (g:=.nm 0) (tt:=jD) (te:=jy) (env:=[none,some _]) (λd=>match d with|.tup ds=>(match aT ds with|some t=>decide (X t≠0)|none=>false)|_=>false) (λd=>match d with|.tup ds=>(match aT ds with|some t=>bQ (t,X t)|none=>d)|d=>d) (ds:=(ax _).map ao) λd hd=>by
  obtain⟨t,b,rfl⟩:=qaD.mp hd;have j:=be t;refine⟨_,U,?_,λ_=>?_⟩
  ·show _=some ((match aT _ with|some t=>decide _|none=>false),st)
   rw[j];exact ak (c t b) U (Br _ _)
  ·show _=some (W.d (match aT _ with|some t=>bQ (t,X t)|none=>ao t),st)
   rw[j];exact bV (ab U (ab (c t b) U)) U (by show 2<=1000;decide)
 have e:((((ax (a.map qdg)).map ao).filter (λd=>match d with|.tup ds=>(match aT ds with|some t=>decide (X t≠0)|none=>false)|_=>false)).map (λd=>match d with|.tup ds=>(match aT ds with|some t=>bQ (t,X t)|none=>d)|d=>d))=(aZ (ax (a.map qdg)) X).map bQ:=by
  unfold aZ;rw[qfX,qaP,qaP];have j:=be
  congr 1
  ·funext t
   show (match aT _ with|some t=>bQ (t,X t)|none=>ao t)=bQ (t,X t)
   rw[j]
  ·refine qfs λt _=>?_
   show (match aT _ with|some t=>decide _|none=>false)=_
   rw[j]
 rw[e]at f;have k:ly (iV 1) [Z (.str kd),some (.h n)] st=some ((ax (a.map qdg)).map ao,st):=by
  simp only[ly,iV,qbv,qbR,qao,qaa,hm,i,if_true]
 have l:aB (aw (ly (iV 1))) [Z (.str kd),some (.h n)] st=some ((ax (a.map qdg)).map ao,st):=by
  simp only[aB,aw,k,qao,qaa]
 have q:((ax (a.map qdg)).map ao).length<=1000000:=by rw[qah];lia
 exact av U (aF (bV (ab U (ab (aG (ab (ar (aL l q f)) U) U) U)) U (by show 2<=1000;decide)))
theorem ur (st:Sto) (a:List (List Int×D)):mgt (st++[.m a]) st.length=some a:=by
 unfold mgt;rw[qaI (qap _),qeO];rfl
theorem oB {α:Type}{te:Ef}{l:Ev}{st:Sto}{g:α->D×D} (F:α->D):∀ {ks:List α},(∀ k∈ks,te (Z (g k).1::some (.d (g k).2)::l) st=some (.d (F k),st))->
  lcI (.tp [0,1]) aJ te (none::none::l) (ks.map λk=>D.tup [(g k).1,(g k).2]) st=some (ks.map F,st)
 |[],_=>rfl
 |k::ks,h=>by
  rw[qaw];unfold lcI;rw[show eZ _ _ _=some (some _::some _::l) from U,qaa,show aJ _ st=some (true,st) from U,qaa,(h k qag),qaa,(oB F λx a=>h x (qai _ a))];rfl
end Own
set_option maxHeartbeats 1000000
namespace Own
open PySem L2
open Sx (Pb Tb Good Named Fe LV ZV piv lexP leastR leaveL sumN unit colV basis)
def dvP (g:Int) (p:Prt):Prt:=(p.1,p.2 / g)
theorem yy {st:Sto}{kd:Str}{ps:List Prt}{g:Int} (e:ps.length<=1000) (hg:∀ p∈ps,0<g/\Sm g):oJ [.d (bn kd ps),.d (.int g)] st=some (.d (bn kd (ps.map (dvP g))),st):=by
 have a:lcI (.tp [0,1]) aJ nD [none,none,Z (.int g)] (ps.map bQ) st=some ((ps.map (dvP g)).map bQ,st):=by
  rw[qaP];exact oB (g:=λp:Prt=>(ao p.1,D.int p.2)) _ λp b=>bV (ab U (ab (ac U U (rq st (hg p b).1 (hg p b).2)) U)) U (by show 2<=1000;decide)
 have c:(ps.map bQ).length<=1000000:=by rw[qah];lia
 exact av U (aF (bV (ab (ac U U (iO _ _ _)) (ab (aG (ab (ar (aL (bo (ac U U (f8 _ _ _))) c a)) U) U) U)) U (by show 2<=1000;decide)))
theorem yG {st:Sto}{kd:Str}{ps:List Prt} (e:ps.length<=1000) (hn:∀ p∈ps,p.2≠0/\Sm p.2):oK [.d (bn kd ps)] st=some (.d (bn kd (ps.map (dvP ((dA 0 (ps.map qfP):Nat):Int)))),st):=by
 have b:lcI (.tp [0,1]) aJ nE [none,none] (ps.map bQ) st=some ((ps.map qfP).map D.int,st):=by
  rw[qaP];exact oB (g:=λp:Prt=>(ao p.1,D.int p.2)) _ λp a=>rfl
 have c:(ps.map bQ).length<=1000000:=by rw[qah];lia
 exact av U (aF (ag (ab U (ab (ag (ab (ar (aL (bo (ac U U (f8 _ _ _))) c b)) U) (nJ (st:=st) λn hm=>by
  obtain⟨p,a,rfl⟩:=qaD.mp hm
  exact (hn p a).2)) U)) (yy (st:=st) (kd:=kd) e λp a=>lw (qdY a) (hn p a).1 (hn p a).2)))
theorem BP {ks:List (List Int)}{X:List Int->Int}{g:Int} (hd:∀ t∈ks,g∣X t):(aZ ks X).map (dvP g)=aZ ks λt=>X t / g:=by
 unfold aZ;rw[qaP]
 have:(ks.filter λt=>decide (X t≠0))=ks.filter λt=>decide (X t / g≠0):=qfs λt a=>by
  apply decide_eq_decide.mpr;refine not_congr ⟨λh=>by rw[h,Int.zero_ediv],λh=>by rw[<-(qdT (hd t a)),h,qbc]⟩
 rw[this];rfl
def pkv (ts:List (List Int)) (x:Nat->Int) (i:Nat):List (List Int×D):=(qak i).map λj=>(ts.getD j [],.int (x j))
section
variable {ts:List (List Int)}{x:Nat->Int}
theorem tM (hn:ts.Nodup) {i j:Nat} (hi:i<ts.length) (f:j<ts.length) (e:ts.getD i []=ts.getD j []):i=j:=by
 rw[qaA,qaA,qam hi,qam f]at e;exact (qdO hn).mp e
theorem wW (i:Nat):(pkv ts x i).map qdg=(qak i).map λj=>ts.getD j []:=by unfold pkv;rw[qaP];rfl
theorem wV:(pkv ts x ts.length).map qdg=ts:=by
 have:=jo [] id ts
 rw[qg8]at this;rw[wW];exact this.symm
theorem Ai (hn:ts.Nodup) {i:Nat} (hi:i<ts.length):ts.getD i []∉(pkv ts x i).map qdg:=λh=>by
 rw[wW]at h;obtain⟨j,f,e⟩:=qaD.mp h;have H:=qaR.mp f
 have:=tM hn (show j<ts.length by lia) hi e
 lia
theorem uJ (i:Nat):pkv ts x (i+1)=pkv ts x i++[(ts.getD i [],.int (x i))]:=by unfold pkv;rw[qdW,qbp];rfl
theorem Cb (hn:ts.Nodup) {i:Nat} (hi:i<ts.length):As (pkv ts x i) (ts.getD i []) (.int (x i))=pkv ts x (i+1):=by
 rw[uJ];unfold As;rw[Bi,iFN (by rw[decide_eq_true_iff];exact (Ai hn hi))]
theorem Aj (hn:ts.Nodup):∀ {i j:Nat},i<=ts.length->j<i->vM (pkv ts x i) (ts.getD j [])=some (.int (x j))
 |0,_,_,f=>absurd f (qc1 _)
 |i+1,j,hi,f=>by
  rw[uJ,AU _ _ _ _ (Ai hn (by lia))];by_cases e:j=i
  ·subst e;rw[iFP U]
  ·rw[iFN (λq=>e (tM hn (by lia) (by lia) q)),Aj hn (by lia) (by lia)]
def gR (ts:List (List Int)) (x:Nat->Int) (t:List Int):Int:=match vM (pkv ts x ts.length) t with|some (.int z)=>z|_=>0
theorem BR (hn:ts.Nodup) {j:Nat} (f:j<ts.length):gR ts x (ts.getD j [])=x j:=by
 unfold gR;rw[Aj hn (qap _) f]
theorem kR {t:List Int} (h:t∈ts):∃ j,j<ts.length/\ts.getD j []=t:=by
 obtain⟨j,f,e⟩:=qcy.mp h;exact⟨j,f,by rw[qaA,qam f];exact e⟩
theorem Gi {st:Sto}{m i:Nat}{am:Nat->Int}{a0:Option W} (hn:ts.Nodup) (N:ts.length<=16) (hm:ts.length+ts.length<=m) (hi:i<ts.length) :
  fu [a0,Z (tsD ts),Z (.tup (mpI m am)),some (.h st.length),Z (.int (i:Int)),Z (ao (ts.getD i []))] (st++[.m (pkv ts (λj=>am j - am (ts.length+j)) i)])
  = some (.nx [a0,Z (tsD ts),Z (.tup (mpI m am)),some (.h st.length),Z (.int (i:Int)),Z (ao (ts.getD i []))] (st++[.m (pkv ts (λj=>am j - am (ts.length+j)) (i+1))])):=by
 have y:=ur st (pkv ts (λj=>am j - am (ts.length+j)) i);have T:=Cb (x:=λj=>am j - am (ts.length+j)) hn hi;have R:=pB st (.m (pkv ts (λj=>am j - am (ts.length+j)) i)) (.m (pkv ts (λj=>am j - am (ts.length+j)) (i+1)));have hl:(pkv ts (λj=>am j - am (ts.length+j)) i).length<1000:=by unfold pkv;rw[qah,qat];lia
 have v:∀ s ,a8 s [.d (tsD ts)]=some _:=λs=>by
  show some (D.int _)=_;rw[qah]
 have P:∀ s ,dIx s (.d (.tup (mpI m am))) (.d (.int (i)))=some _:=λs=>cO (bg (by lia));have V:∀ s ,dIx s (.d (.tup (mpI m am))) (.d (.int ((ts.length)+(i))))=some _:=λs=>by
  exact cO (bg (by lia))
 generalize pkv ts _ i=K at *;generalize tsD ts=tD at *;generalize mpI m am=A at *;generalize ts.getD i []=t at *;have M:=ac (g:=j6) (env:=[a0,some _,some _,some (.h st.length),some _,Z (ao t)]) (st:=st++[.m K]) (ac (a:=iV 2) (b:=iV 4) U U (P _)) (ac (a:=iV 2) (b:=iOp bf (iCB a8 (aa (iV 1) ae)) (iV 4)) U (ac (aG (ab U U) (v _)) U U) (V _)) U;simp only[ao]at M ⊢;simp only[fu,wx,M,iV,qbv,qbR,qao,qaa,(be _),y,hl,if_true,T,R]
theorem Ep {b:Bool}{am:Nat->Int}{m:Nat} (hn:ts.Nodup) (N:ts.length<=16) (hm:ts.length+ts.length<=m) (L:∀ j,j<ts.length+ts.length->Sm (am j)/\0<=am j) :
  ∃ (q:Int) (X:List Int->Int),0<q/\(∀ j,j<ts.length->am j - am (ts.length+j)=q*X (ts.getD j []))/\∀ st:Sto,jk [.d (.str (aE b)),.d (tsD ts),.d (.tup (mpI m am))] st=some (.d (bn (aE b) (aZ (ax ts) X)),st):=by
 have w:∀ j,j<ts.length->gR ts (λj=>am j - am (ts.length+j)) (ts.getD j [])=am j - am (ts.length+j):=λj f=>BR (x:=λj=>am j - am (ts.length+j)) hn f;have o:∀ p∈aZ (ax ts) (gR ts λj=>am j - am (ts.length+j)),p.2≠0/\Sm p.2:=λp r=>by
  unfold aZ at r;obtain⟨t,u,rfl⟩:=qaD.mp r;obtain⟨H,Y⟩:=qbN.mp u;refine⟨of_decide_eq_true Y,?_⟩;obtain⟨j,f,rfl⟩:=kR ((aK _).mem_iff.mp H);show Sm (gR ts _ (ts.getD j []));rw[w j f];have a:=L j (by lia);have c:=L (ts.length+j) (by lia);unfold Sm at *;generalize (2:Nat)^4000=B at *;lia
 have E:(aZ (ax ts) (gR ts λj=>am j - am (ts.length+j))).length<=1000:=by
  unfold aZ;rw[qah]
  have:=qb9 (λt=>decide (gR ts (λj=>am j - am (ts.length+j)) t≠0)) (ax ts)
  rw[(aK _).length_eq]at this;lia
 have l:∀ st:Sto,jk [.d (.str (aE b)),.d (tsD ts),.d (.tup (mpI m am))] st=some (.d (bn (aE b) ((aZ (ax ts) (gR ts λj=>am j - am (ts.length+j))).map (dvP ((dA 0 ((aZ (ax ts) (gR ts λj=>am j - am (ts.length+j))).map qfP):Nat):Int)))),st):=λst=>by
  have O:=zj (st:=st++[.m (pkv ts (λj=>am j - am (ts.length+j)) ts.length)]) (kd:=aE b) (X:=gR ts λj=>am j - am (ts.length+j)) (ur st _) (by unfold pkv;rw [qah,qat];lia) (λt u=>by
   rw[wV]at u;obtain⟨j,f,rfl⟩:=kR u;rw[w j f]
   exact Aj (x:=λj=>am j - am (ts.length+j)) hn (qap _) f)
  rw[wV]at O;have G:=yG (st:=st++[.m (pkv ts (λj=>am j - am (ts.length+j)) ts.length)]) (kd:=aE b) E o;obtain⟨J,s2,y,⟨C,F,rfl⟩,rfl⟩:=bH (g:=.tp [4,5]) (body:=fu) (ds:=(qak ts.length).map λi:Nat=>D.tup [.int ((i:Nat):Int),ao (ts.getD i [])])
   (λi env s=>(∃ C F,env=[Z (.str (aE b)),Z (tsD ts),Z (.tup (mpI m am)),some (.h st.length),C,F])/\s=st++[.m (pkv ts (λj=>am j - am (ts.length+j)) i)])
   (env:=[Z (.str (aE b)),Z (tsD ts),Z (.tup (mpI m am)),some (.h st.length),none,none]) ⟨⟨_,_,U⟩,U⟩ (λi d env s hd ⟨⟨C,F,e⟩,es⟩=>by
    subst e es;obtain⟨hi,rfl⟩:=oN hd
    exact⟨_,_,_,U,.inl (Gi hn N hm hi),⟨_,_,U⟩,U⟩)
  rw[qah,qat]at y;have Q:bZ (aa (iV 1) ae) [Z (.str (aE b)),Z (tsD ts),Z (.tup (mpI m am)),some (.h st.length),none,none] (st++[.m []])=some ((qak ts.length).map λi:Nat=>D.tup [.int ((i:Nat):Int),ao (ts.getD i [])],st++[.m []]):=by
   rw[<-wt (λi=>ao (ts.getD i [])),<-jo [] ao ts];rfl
  generalize aZ (ax ts) (gR ts λj=>am j - am (ts.length+j))=ps at *;generalize pkv ts (λj=>am j - am (ts.length+j)) ts.length=K at *
  have:=gn (n:=6) (k:=3) (b:=qk) (ws:=[.d (.str (aE b)),.d (tsD ts),.d (.tup (mpI m am))]) (st:=st) U (ai U (ai (bq Q y) (aF (ag (ab (ag U O) U) G))))
  rw[qcN]at this;exact this
 by_cases I:aZ (ax ts) (gR ts λj=>am j - am (ts.length+j))=[]
 ·refine⟨1,gR ts λj=>am j - am (ts.length+j),by decide,λj f=>by rw[w j f,qcJ],λst=>?_⟩
  rw[l st,I];rfl
 ·obtain⟨p,r⟩:=List.exists_mem_of_ne_nil _ I
  have S:=(lw (qdY r) (o p r).1 (o p r).2).1;have hd:∀ t∈ax ts,((dA 0 ((aZ (ax ts) (gR ts λj=>am j - am (ts.length+j))).map qfP):Nat):Int)∣gR ts (λj=>am j - am (ts.length+j)) t:=λt u=>by
   by_cases z:gR ts (λj=>am j - am (ts.length+j)) t=0
   ·rw[z];exact Int.dvd_zero _
   ·refine qcV.mpr ((dB 0 _).2 _ (qaD.mpr ⟨(t,gR ts (λj=>am j - am (ts.length+j)) t),?_,U⟩))
    unfold aZ;exact qaD.mpr ⟨t,qbN.mpr ⟨u,decide_eq_true z⟩,U⟩
  generalize ((dA 0 ((aZ (ax ts) (gR ts λj=>am j - am (ts.length+j))).map qfP):Nat):Int)=q at *;refine⟨q,λt=>gR ts (λj=>am j - am (ts.length+j)) t / q,S,λj f=>?_,λst=>by rw[l st,(BP hd)]⟩
  have:=hd (ts.getD j []) ((aK _).mem_iff.mpr (by rw[qaA,qam f];exact qbQ f))
  rw[qdT this,w j f]
end
end Own
set_option maxHeartbeats 1000000
namespace Own
open PySem L2
open Sx (Pb Tb Good Named Fe LV ZV piv lexP leastR leaveL sumN unit colV basis)
theorem G2 (ds:List D) (k:Nat):jI ds none (some (k:Int))=ds.take k:=by
 unfold jI;rw[HT.sIx_nat,HT.sIx_none,qgi,qgX];rcases Nat.le_total k ds.length with h|h
 ·rw[qeP h]
 ·rw[qfQ h,qcM,qb3 h]
theorem BO {n k:Nat}{f:Nat->Int} (h:k<=n):(mpI n f).take k=mpI k f:=by
 apply qbA;intro i;by_cases hi:i<k
 ·rw[qem hi,bg (by lia),bg hi]
 ·rw[qaF (by rw[qb0];lia),qaF (by rw[aD];lia)]
theorem Gp {a b c:Sf}{env e:Ev}{st s:Sto}{r:Option Fl} (h:ah a b env st=some (.nx e s)) (d:c e s=r):ah a (ah b c) env st=r:=by
 simp only[ah]at h ⊢;cases ha:a env st with
 |none=>rw[ha]at h;cases h
 |some x=>
  rw[ha,qaa]at h;rw[qaa];cases x with
  |nx f s1=>simp only at h ⊢;rw[h];exact d
  |_=>cases h
theorem yS {e:Nat->Nat}{y:Nat->Int}{m i:Nat} (hi:i<m) (h:∀ j,j<m->e j=e i->j=i):acc e y m (e i)=y i:=by
 unfold acc;rw[Sx.sumN_single hi λj a q=>iFN λz=>q (h j a z),iFP U]
structure ik (fs:List D) (b:Bool) (ts:List (List Int)) (X:List Int->Int) (w:Nat->Int):Prop where
 bal:∀ t,t<ts.length->(sumN (nR fs) λi=>spV fs b ts i t*w (rN fs i))=0
 val:∀ i,i<nR fs->0<=(sumN ts.length λt=>X (ts.getD t [])*spV fs b ts i t)/\((sumN ts.length λt=>X (ts.getD t [])*spV fs b ts i t)=0↔w (rN fs i)≠0)
 w0:∀ r,r<fs.length->0<=w r/\Sm (w r)
 wn:∀ r,r<fs.length->fs.getD r .non=.non->w r=0
 sX:∀ t∈ts,Sm (X t)
theorem Do {q x y:Int} (a:0<q) (e:x=q*y) (h:Sm x):Sm y:=by
 refine qbF ?_ h;rw[e,qdi];exact Nat.le_mul_of_pos_left _ (by lia)
section
variable {fs:List D}{b:Bool}{ts:List (List Int)}
theorem EW (h:Spl fs ts) {r:Nat} (e:fs.getD r .non=.non) {i:Nat} (hi:i<nR fs):rN fs i≠r:=λz=>by
 obtain⟨m,d,e1,_,_,_,hn,hg⟩:=pw h (AH hi);unfold rN at z;rw[z]at hg;exact hn (hg.symm.trans e)
theorem Dx (h:Spl fs ts) {y:Nat->Int} (hy:∀ i,i<nR fs->Sm (y i)/\0<=y i) (r:Nat):Sm (acc (rN fs) y (nR fs) r)/\0<=acc (rN fs) y (nR fs) r:=by
 by_cases q:∃ i,i<nR fs/\rN fs i=r
 ·obtain⟨i,hi,rfl⟩:=q
  rw[yS hi λj g z=>vW h g hi z];exact hy i hi
 ·rw[mT λj g z=>q ⟨j,g,z⟩]
  exact⟨qeN _,qb5 _⟩
theorem pH (h:Spl fs ts):∃ X w,ik fs b ts X w/\∀ st:Sto,∃ u,eU [.d (.tup fs),.d (.str (aE b)),.d (tsD ts)] st=some (.d (.tup [bn (aE b) (aZ (ax ts) X),.tup (mpI fs.length w)]),st++u):=by
 have o:∀ s:Sto,a8 s [.d (.lst ((qak (nR fs)).map λi=>D.lst (mpI ts.length (spV fs b ts i))))]=some (.int (nR fs:Int)):=λs=>by
  show some (D.int _)=_;rw[qah,qat]
 by_cases hN:nR fs=0
 ·refine⟨λ_=>0,λr=>acc (rN fs) (λ_=>0) 0 r,⟨λt _=>?_,λi hi=>absurd hi (by lia),λr _=>⟨qb5 _,qeN _⟩,λ_ _ _=>rfl,λ_ _=>qeN _⟩,λst=>⟨[],?_⟩⟩
  ·rw[hN];rfl
  have K:=uS (st:=st) (b:=b) h;have hw:=AZ (st:=st) (m:=0) (y:=λ_=>0) h (.inr U);have J:aZ (ax ts) (λ_=>0)=[]:=by
   unfold aZ;rw[qgH.mpr λt _=>by simp];rfl
  have P:_=some (D.int 0):=(o st).trans (by rw[hN];rfl);rw[J,qbf];generalize tsD ts=H at *;generalize aE b=kd at *;exact av (n:=8) (k:=3) (b:=jG) U (ai (aj (ag U K)) (ai (aj (aG (ab U U) P)) (fC (ca (s:=st) U (aF (bV (ab (bV (ds:=[.str kd,.tup []]) U U (by show 2<=1000;decide)) (ab (ag (ab U (ab U U)) hw) U)) U (by show 2<=1000;decide)))))))
 ·obtain⟨p,am,pr,S,N⟩:=F3 (b:=b) h (by lia)
  have hn:=h.n;obtain⟨q,X,q0,Y,hp⟩:=Ep (b:=b) (m:=ts.length+ts.length+nR fs) (am:=am) h.nd h.tl (by lia) λj g=>S.sa j (by lia);have x:=Dx h (y:=pr) λi hi=>S.sr i hi;obtain⟨T,w,E,l,C⟩:=BK (n:=fs.length) (f:=λr=>acc (rN fs) pr (nR fs) r) (λr _=>(x r).1) (by have:=h.fl;lia);have F:∀ i,i<nR fs->pr i=T*w (rN fs i):=λi hi=>by
   rw[<-l _ (qE h hi).2,yS hi λj g z=>vW h g hi z]
  refine⟨X,w,⟨λt G=>?_,λi hi=>?_,λr I=>⟨?_,Do E (l r I) (x r).1⟩,λr I e=>?_,λt G=>?_⟩,λst=>?_⟩
  ·have e:=S.bal t G
   rw[Sx.sumN_congr λi hi=>by rw[F i hi,qaW],Sx.sumN_mul]at e;exact (qcn.mp e).resolve_left (by lia)
  ·have e:=S.val i hi
   rw[Sx.sumN_congr λt G=>by rw[Y t G,qbr],Sx.sumN_mul,F i hi]at e;generalize (sumN ts.length λt=>X (ts.getD t [])*spV fs b ts i t)=v at *;refine⟨?_,?_⟩
   ·have:=e.1
    by_cases z:0<=v
    ·exact z
    ·have:=qgq q0 (show v<0 by lia)
     lia
   ·have W:=e.2
    rw[qcn,ne_eq,qcn]at W;have n1:¬ q=0:=by lia
    have n2:¬ T=0:=by lia
    simpa [n1,n2] using W
  ·have e:=(x r).2
   rw[l r I]at e;by_cases z:0<=w r
   ·exact z
   ·have:=qgq E (show w r<0 by lia)
    lia
  ·have:=l r I
   rw[mT λj g=>EW h e g]at this;exact (qcn.mp this.symm).resolve_left (by lia)
  ·obtain⟨j,g,rfl⟩:=kR G
   refine Do q0 (Y j g) ?_;have a:=S.sa j (by lia);have c:=S.sa (ts.length+j) (by lia);unfold Sm at *;generalize (2:Nat)^4000=B at *;lia
  ·obtain⟨u,hu⟩:=N st none
   refine⟨u,?_⟩;have K:=uS (st:=st) (b:=b) h;have he:=xZ (st:=st) (V:=spV fs b ts) (k:=ts.length) hn h.tl;have J:bZ (aa (iV 3) ae) [Z (.tup fs),Z (.str (aE b)),Z (tsD ts),Z (.lst ((qak (nR fs)).map λi=>D.lst (mpI ts.length (spV fs b ts i)))),Z (.int (nR fs:Int)),none,none,none] st=some ((qak (nR fs)).map λi:Nat=>D.tup [.int ((i:Nat):Int),.lst (mpI ts.length (spV fs b ts i))],st):=by
    rw[<-wt _];rfl
   have P:=o st;have Q:=AZ (st:=st++u) (m:=nR fs) (y:=pr) h (.inl U);have O:=C (st++u);have sl:dSl (st++u) (.d (.tup (mpI (nR fs+nR fs) pr))) none (some (nR fs:Int))=some (.tup (mpI (nR fs) pr)):=by
    rw[<-BO (n:=nR fs+nR fs) (k:=nR fs) (f:=pr) (by lia),<-G2];rfl
   have f0:((nR fs:Int)==(0:Int))=false:=by simp;lia
   have hz:((qak (nR fs)).map λi:Nat=>D.tup [.int ((i:Nat):Int),.lst (mpI ts.length (spV fs b ts i))]).length<=1000000:=by rw[qah,qat];lia
   generalize (mpI fs.length λr=>acc (rN fs) pr (nR fs) r)=A at *;generalize mpI fs.length w=A2 at *;generalize mpI (nR fs) pr=A3 at *;generalize mpI (nR fs+nR fs) pr=A4 at *;generalize mpI (ts.length+ts.length+nR fs) am=A5 at *;generalize bn (aE b) (aZ (ax ts) X)=R at *;generalize ((qak (nR fs)).map λi=>D.lst (mpI (ts.length+ts.length+nR fs) (Sx.spR (nR fs) ts.length (spV fs b ts) i)))=L5 at *;generalize ((qak (nR fs)).map λi=>D.lst (mpI (ts.length+ts.length+nR fs) (Sx.spR (nR fs) ts.length (spV fs b ts) (nR fs+i))))=L6 at *;generalize ((qak (nR fs)).map λi:Nat=>D.tup [.int ((i:Nat):Int),.lst (mpI ts.length (spV fs b ts i))])=LE at *;generalize ((qak (nR fs)).map λi=>D.lst (mpI ts.length (spV fs b ts i)))=L at *;generalize tsD ts=H at *;generalize aE b=kd at *;have M:iSl (iOp dIx (iV 7) (iC (.int 3))) iPn (iPs (iV 4)) [Z (.tup fs),Z (.str kd),Z H,Z (.lst L),Z (.int (nR fs:Int)),Z (.lst L5),Z (.lst L6),Z (.tup [.str "most",.int p,.tup A5,.tup A4])] (st++u)=some (.d (.tup A3),st++u):=by
    have x1:iOp dIx (iV 7) (iC (.int 3)) [Z (.tup fs),Z (.str kd),Z H,Z (.lst L),Z (.int (nR fs:Int)),Z (.lst L5),Z (.lst L6),Z (.tup [.str "most",.int p,.tup A5,.tup A4])] (st++u)=some (.d (.tup A4),st++u):=ac U U U
    have x2:iPs (iV 4) [Z (.tup fs),Z (.str kd),Z H,Z (.lst L),Z (.int (nR fs:Int)),Z (.lst L5),Z (.lst L6),Z (.tup [.str "most",.int p,.tup A5,.tup A4])] (st++u)=some (some (nR fs:Int),st++u):=rfl
    simp only[iSl,x1,x2,iPn,qaa,sl,qao]
   exact av (n:=8) (k:=3) (b:=jG) U (ai (aj (ag U K)) (ai (aj (aG (ab U U) P)) (ai (bh (s:=st) (ak U U (by rw[cr,f0])) U) (ai (aj (ar (aL J hz he))) (Gp hu (aF (bV (ab (ag (ab U (ab U (ab (ac U U U) U))) (hp (st++u))) (ab (ag (ab (ag (ab U (ab M U)) Q) U) O) U)) U (by show 2<=1000;decide))))))))
end
end Own
set_option maxHeartbeats 1000000
namespace Own
open PySem L2
open Sx (Pb Tb Good Named Fe LV ZV piv lexP leastR leaveL sumN unit colV basis)
theorem mf {f:Tf}{env:Ev}{st s:Sto}{k:Bool} (h:f env st=some (k,s)):cM f env st=some (!k,s):=by
 simp only[cM,h,qaa,qao]
theorem dc {a b:Tf}{env:Ev}{st s s':Sto}{k:Bool} (c:a env st=some (false,s)) (hb:b env s=some (k,s')):dh a b env st=some (k,s'):=by
 simp only[dh,c,hb,qaa,qbm,if_false]
theorem jn {a b:Tf}{env:Ev}{st s:Sto} (c:a env st=some (false,s)):dO a b env st=some (false,s):=by
 simp only[dO,c,qaa,qbm,if_false]
theorem d5 {a b:Tf}{env:Ev}{st s s':Sto}{k:Bool} (c:a env st=some (true,s)) (hb:b env s=some (k,s')):dO a b env st=some (k,s'):=by
 simp only[dO,c,hb,qaa,if_true]
theorem qc {f:Ef}{env:Ev}{st s:Sto}{k:Bool} (h:f env st=some (.d (.bl k),s)):cv cN f env st=some (k,s):=by
 simp only[cv,h,qaa];rfl
theorem lc {st:Sto} (i:Int):ce [.d (.int i)] st=some (.d (.bl true),st):=rfl
theorem Cr {a:Af}{env:Ev}{st s:Sto}{bs:List Bool} (h:a env st=some ([.d (.lst (bs.map D.bl))],s)):iCB sS a env st=some (.d (.bl (bs.all id)),s):=by
 refine aG h ?_;show (lm _).map _=_;rw[m8];rfl
structure Pus where
 xs:List Int
 d:Int
 m:Int
 c:Int
def pus (p:Pus) (rest:Sto):Sto:=.l (p.xs.map D.int)::.n [.h 0,.d (.int p.d),.d (.int p.m),.d (.int p.c)]::rest
def okU (p:Pus) (Zq:Int):Prop:=p.xs.length<=63/\0<=p.d/\0<=p.c/\p.c<=Zq
theorem okU.mono {p:Pus}{Zq Z':Int} (h:okU p Zq) (a:Zq<=Z'):okU p Z':=⟨h.1,h.2.1,h.2.2.1,qec h.2.2.2 a⟩
theorem pu1 (p:Pus) (rest:Sto) (e:Ev):ig (iV 0) (iC (.int 1)) (some (.h 1)::e) (pus p rest)=some (.d (.int p.d),pus p rest):=rfl
theorem pu2 (p:Pus) (rest:Sto) (e:Ev):ig (iV 0) (iC (.int 2)) (some (.h 1)::e) (pus p rest)=some (.d (.int p.m),pus p rest):=rfl
theorem pu3 (p:Pus) (rest:Sto) (e:Ev):ig (iV 0) (iC (.int 3)) (some (.h 1)::e) (pus p rest)=some (.d (.int p.c),pus p rest):=rfl
theorem pu0 (p:Pus) (rest:Sto) (e:Ev):ig (iV 0) (iC (.int 0)) (some (.h 1)::e) (pus p rest)=some (.h 0,pus p rest):=rfl
theorem us1 {p:Pus}{rest:Sto}{e:Ev}{V:Ef}{x:Int} (h:V (some (.h 1)::e) (pus p rest)=some (.d (.int x),pus p rest)):cz (iV 0) (iC (.int 1)) V (some (.h 1)::e) (pus p rest)=some (.nx (some (.h 1)::e) (pus { p with d:=x } rest)):=by
 show (V _ _).bind _=_;rw[h];rfl
theorem us2 {p:Pus}{rest:Sto}{e:Ev}{V:Ef}{x:Int} (h:V (some (.h 1)::e) (pus p rest)=some (.d (.int x),pus p rest)):cz (iV 0) (iC (.int 2)) V (some (.h 1)::e) (pus p rest)=some (.nx (some (.h 1)::e) (pus { p with m:=x } rest)):=by
 show (V _ _).bind _=_;rw[h];rfl
theorem us3 {p:Pus}{rest:Sto}{e:Ev}{V:Ef}{x:Int} (h:V (some (.h 1)::e) (pus p rest)=some (.d (.int x),pus p rest)):cz (iV 0) (iC (.int 3)) V (some (.h 1)::e) (pus p rest)=some (.nx (some (.h 1)::e) (pus { p with c:=x } rest)):=by
 show (V _ _).bind _=_;rw[h];rfl
theorem iz (s:Sto) {a b:Int} (h:0<b):gA s (.d (.int a)) (.d (.int b))=some (.int (a%b)):=iFP h
theorem rn (s:Sto) {a b:Int} (h:0<b/\b<1073741824):nu s (.d (.int a)) (.d (.int b))=some (.int (a / b)):=iFP h
def BM (a t:Int):Int:=(((a%2147483629+7927*t+37)*48271%2147483647)*((a%2147483629+7927*t+37)*48271%2147483647)+53*t+((a%2147483629+7927*t+37)*48271%2147483647) / 17)*39373%2147483587
theorem uw (st:Sto) (a t:Int):cV [.d (.int a),.d (.int t)] st=some (.d (.int (BM a t)),st):=by
 unfold BM;obtain⟨u,b⟩:∃ u,(a%2147483629+7927*t+37)*48271%2147483647=u:=⟨_,U⟩;have s1:iOp gA (iOp a9 (iOp bf (iOp bf (iOp gA (iV 0) (iC (.int 2147483629))) (iOp a9 (iC (.int 7927)) (iV 1))) (iC (.int 37))) (iC (.int 48271))) (iC (.int 2147483647)) [Z (.int a),Z (.int t),none] st=some (.d (.int u),st):=by
  rw[<-b];exact ac (ac (ac (ac (ac U U (iz st (by decide))) (ac U U (bL st (dY (by decide)))) U) U U) U (bL st (gQ (by decide)))) U (iz st (by decide))
 rw[b];exact av U (ai (aj s1) (aF (ac (ac (ac (ac (ac U U (bL st (dY ⟨by lia,by lia⟩))) (ac U U (bL st (dY (by decide)))) U) (ac U U (rn st (by decide))) U) U (bL st (gQ (by decide)))) U (iz st (by decide)))))
theorem Hk (x:Int) (xs:List Int) (d m c:Int) (rest:Sto) (e:Ev):cL vN (ig (iV 0) (iC (.int 0))) (aa (iC (.int 0)) ae) (some (.h 1)::e) (pus ⟨x::xs,d,m,c⟩ rest)=some (.d (.int x),pus ⟨xs,d,m,c⟩ rest):=by
 show ((vN _ [.d _]).map λy=>(W.d y.1,(pus _ rest).set 0 _))=_
 have:vN ((x::xs).map D.int) [.d (.int 0)]=some (.int x,xs.map D.int):=by
  show (ixN ((xs.map D.int).length+1) 0).bind _=_;rw[FT];rfl
 rw[this];rfl
theorem He (xs:List Int) (d m c:Int) (rest:Sto):a8 (pus ⟨xs,d,m,c⟩ rest) [.h 0]=some (.int (xs.length:Nat)):=by
 show some (D.int _)=_;rw[qah]
theorem p18:mR 10 18:=by decide
theorem Hl (s:Sto):rm s (.d (.int 10)) (.d (.int 18))=some (.int (10^18)):=by
 show (if mR 10 18 then some (D.int (10^18)) else none)=_;rw[iFP p18]
theorem p60:mR 10 60:=by decide
theorem Go (s:Sto):rm s (.d (.int 10)) (.d (.int 60))=some (.int (10^60)):=by
 show (if mR 10 60 then some (D.int (10^60)) else none)=_;rw[iFP p60]
theorem DA (s:Sto):a9 s (.d (.int (10^60))) (.d (.int (10^60)))=some (.int (10^120)):=by
 rfl
theorem Ca {p:Pus}{m Zq:Int} (h:okU p Zq) (C:Zq<900000000) (m0:0<m) (B:m<1073741824):∃ (r:Int) (z:Pus),0<=r/\r<m/\okU z (Zq+1)/\∀ rest:Sto,aH [.h 1,.d (.int m)] (pus p rest)=some (.d (.int r),pus z rest):=by
 obtain⟨w,d0,A,c1⟩:=h;have u:∀ rest:Sto,cz (iV 0) (iC (.int 3)) (iOp bf _ (iC (.int 1))) [some (.h 1),Z (.int m),none,none] (pus p rest)=some _:=λrest=>us3 (ac (pu3 _ _ _) U U);obtain⟨xs,d,i,c⟩:=p;dsimp only at w d0 A c1 u;obtain⟨f,d',a,v,q,o,s1⟩:∃ (f:List Int) (d' a:Int) (v:Option W),f.length<=63/\0<=d'/\∀ rest:Sto,aY (dO _ (aC dNe _ (aw (bT ae)))) (ah _ (ah _ (aY _ (cz (iV 0) (iC (.int 1)) (iOp gA (iCB vi (aa (iV 2) ae)) (iOp a9 (iOp rm (iC (.int 10)) (iC (.int 60))) (iOp rm (iC (.int 10)) (iC (.int 60)))))) aQ))) aQ [some (.h 1),Z (.int m),none,none] (pus ⟨xs,d,i,c+1⟩ rest)=some (.nx [some (.h 1),Z (.int m),v,none] (pus ⟨f,d',a,c+1⟩ rest)):=by
  have e:∀ rest:Sto,aC dEq _ (iC (.int 0)) [some (.h 1),Z (.int m),none,none] _=some (d==0,pus ⟨xs,d,i,c+1⟩ rest):=λrest=>ak (pu1 _ _ _) U (cr _ _ _);by_cases hd:d=0
  ·have hb:(d==0)=true:=by rw[hd];rfl
   rw[hb]at e;cases xs with
   |nil=>exact⟨[],d,i,none,by simp,d0,λrest=>bh (d5 (e rest) (ak (pu0 _ _ _) U U)) U⟩
   |cons x xs=>
    have j:xs.length<=63:=by rw[qaq]at w;lia
    obtain⟨r,t⟩:∃ r,BM (i+x) ((xs.length:Nat):Int)=r:=⟨_,U⟩;have l:=λst=>uw st (i+x) ((xs.length:Nat):Int);rw[t]at l;have cne:∀ rest:Sto,aC dNe _ (aw (bT ae)) [some (.h 1),Z (.int m),none,none] _=some (true,pus ⟨x::xs,d,i,c+1⟩ rest):=λrest=>ak (pu0 _ _ _) U U;have sp:∀ rest:Sto,ay (.nm 2) _ [some (.h 1),Z (.int m),none,none] _=some _:=λrest=>aj (Hk x xs d i (c+1) rest _);have y:∀ rest:Sto,cz (iV 0) (iC (.int 2)) (aq cV (aa (iOp bf _ (iV 2)) (aa (iCB a8 (aa _ ae)) ae))) [some (.h 1),Z (.int m),Z (.int x),none] _=some _:=λrest=>us2 (ag (ab (ac (pu2 _ _ _) U U) (ab (aG (ab (pu0 _ _ _) U) (He xs d i (c+1) rest)) U)) (l _));have s:∀ rest:Sto,aC dGe (iCB vi (aa (iV 2) ae)) (iOp rm (iC (.int 10)) (iC (.int 18))) [some (.h 1),Z (.int m),Z (.int x),none] _=some (decide _,pus ⟨xs,d,r,c+1⟩ rest):=λrest=>ak (aG (ab U U) U) (ac U U (Hl _)) U;by_cases hg:(10:Int)^18<=(if x<0 then -x else x)
    ·rw[decide_eq_true hg]at s
     refine⟨xs,(if x<0 then -x else x)%10^120,r,Z (.int x),j,qeT _ (by decide),λrest=>?_⟩;exact ca (d5 (e rest) (cne rest)) (ai (sp rest) (ai (y rest) (ca (s rest) (us1 (ac (aG (ab U U) U) (ac (ac U U (Go _)) (ac U U (Go _)) (DA _)) (iz _ (by decide)))))))
    ·rw[decide_eq_false hg]at s
     refine⟨xs,d,r,Z (.int x),j,d0,λrest=>?_⟩;exact ca (d5 (e rest) (cne rest)) (ai (sp rest) (ai (y rest) (bh (s rest) U)))
  ·have hb:(d==0)=false:=by simpa using hd
   rw[hb]at e;exact⟨xs,d,i,none,w,d0,λrest=>bh (jn (e rest)) U⟩
 have g:∀ rest:Sto,aC dGt _ (iC (.int 0)) [some (.h 1),Z (.int m),v,none] _=some (decide (d' > 0),pus ⟨f,d',a,c+1⟩ rest):=λrest=>ak (pu1 _ _ _) U U;by_cases hd:d' > 0
 ·rw[decide_eq_true hd]at g
  refine⟨d'%m,⟨f,d' / m,a,c+1⟩,qeT _ (by lia),qfl _ m0,⟨q,qd1 o (by lia),by dsimp only;lia,by dsimp only;lia⟩,λrest=>?_⟩;exact av (n:=4) (k:=2) (b:=io) U (ai (u rest) (ai (s1 rest) (fC (ca (g rest) (ai (aj (ac (pu1 _ _ _) U (iz _ m0))) (ai (us1 (ac (pu1 _ _ _) U (rn _ ⟨m0,B⟩))) U))))))
 ·rw[decide_eq_false hd]at g
  obtain⟨r,t⟩:∃ r,BM a (c+1)=r:=⟨_,U⟩;have l:=λst=>uw st a (c+1);rw[t]at l;refine⟨r / 64%m,⟨f,d',a,c+1⟩,qeT _ (by lia),qfl _ m0,⟨q,o,by dsimp only;lia,by dsimp only;lia⟩,λrest=>?_⟩;exact av (n:=4) (k:=2) (b:=io) U (ai (u rest) (ai (s1 rest) (ai (bh (g rest) U) (aF (ac (ac (ag (ab (pu2 _ _ _) (ab (pu3 _ _ _) U)) (l _)) U (rn _ (by decide))) U (iz _ m0))))))
theorem Ar (ns:List Int) (hn:ns.length<=63):∃ p:Pus,okU p 0/\gK [.d (.scr ns)] []=some (.h 1,pus p []):=
 ⟨⟨ns,0,11,0⟩,⟨hn,qb5 _,qb5 _,qb5 _⟩,U⟩
end Own
set_option maxHeartbeats 1000000
namespace Own
open PySem L2
open Sx (Pb Tb Good Named Fe LV ZV piv lexP leastR leaveL sumN unit colV basis)
theorem G1 {x:Int} (h:0<=x):qd2 x 1=x%2:=by
 unfold qd2;rw[show (1:Int).toNat=1 from U,Nat.and_one_is_mod];lia
theorem yT {row k:Int} (h:0<=row):qd2 (row / 2^k.toNat) 1=onI row k:=G1 (qd1 h (qjD (Int.pow_pos (by decide))))
theorem C6 {e:Ef}{env:Ev}{st s:Sto}{n:Nat} (a:e env st=some (.d (.int (n:Int)),s)) (c:n<=1000):mx (aa e ae) env st=some (bi 0 n,s):=by
 simp only[mx,(ab (b:=ae) a U),qaa];rw[iFP ⟨by lia,by lia⟩,qbe]
theorem zX {st:Sto}{row:Int}{d:D}{t:List Int} (c:0<=row) (g:∀ k∈t,0<=k) (i:t.length<=1000000) (hd:aB (iV 1) [Z (.int row),Z d] st=some (t.map D.int,st)):d8 [.d (.int row),.d d] st=some (.d (.int (bN row t)),st):=by
 have a:lcI (.nm 0) aJ lY [none,Z (.int row)] (t.map D.int) st=some ((t.map (onI row)).map D.int,st):=by
  rw[qaP];exact jP _ λk h=>by
   have e:vj st (.d (.int (row / 2^k.toNat))) (.d (.int 1))=some (.int (onI row k)):=by
    rw[<-yT c];rfl
   exact ac (ac U U (AJ st (g k h))) U e
 have b:=xk st (t.map (onI row));rw[nr]at b;have f:(t.map D.int).length<=1000000:=by rw[qah];exact i
 exact av U (aF (aG (ab (ar (aL hd f a)) U) b))
theorem wL {st:Sto}{b:Bool}{t:List Int}{row:Int} (g:0<=row) (h:∀ k∈t,0<=k/\k<=20) (j:t.length<=1000):dW [.d (.str (aE b)),.d (ao t),.d (.int row)] st=some (.d (.int (aO b t row)),st):=by
 have f:=zX (st:=st) (d:=ao t) g (λk i=>(h k i).1) (by lia) U;have a:((t.map D.int).length)=(t.length):=by rw[qah]
 unfold aO ao at *;generalize bN row t=c at *;generalize t.map D.int=T at *;cases b with
 |true=>
  rw[<-a];have e:Bp st [.d (.bl (c==(T.length)))]=some (.int (if c=(T.length) then 1 else 0)):=by
   by_cases q:c=(T.length)
   ·rw[iFP q,show (c==_)=true by simpa using q];rfl
   ·rw[iFN q,show (c==_)=false by simpa using q];rfl
  exact av U (ai (aj (ag (ab U (ab U U)) f)) (fC (ca U (aF (aG (ab (ac U (aG (ab U U) U) (cr _ _ _)) U) e)))))
 |false=>
  have e:1 - 2*(c%2)=if c%2=1 then -1 else 1:=by split<;>lia
  rw[<-e];exact av U (ai (aj (ag (ab U (ab U U)) f)) (ai (bh U U) (aF (ac U (ac U (ac U U (iz _ (by decide))) (bL _ (dY (by decide)))) U))))
theorem gC {te:Ef}{l:Ev}{a:Option W}{ds:List D}{p:Pus}{rest:Sto}{Zq:Int} (P:D->Prop) (h:okU p Zq) (w:Zq+ds.length<=100000000) (m:∀ d∈ds,∀ p Z',okU p Z'->Z'<=100000000->∃ y b,P y/\okU b (Z'+1)/\te (Z d::l) (pus p rest)=some (.d y,pus b rest)) :
  ∃ c b,c.length=ds.length/\(∀ y∈c,P y)/\okU b (Zq+ds.length)/\lcI (.nm 0) aJ te (a::l) ds (pus p rest)=some (c,pus b rest):=by
 obtain⟨r,x,o,n,k,b,ok,rfl⟩:=fz (g:=.nm 0) (tt:=aJ) (env:=a::l) (λi c s=>c.length=i/\(∀ y ∈ c,P y)/\∃ b,okU b (Zq+i)/\s=pus b rest) (ys0:=[]) ⟨U,(λy v=>nomatch v),p,by rw [show Zq+_=Zq by lia];exact h,U⟩ (λi d c s hd ⟨u,k,b,ok,es⟩=>by
  subst es;have hi:=(qar.mp hd).1;obtain⟨y,t,q,j,e⟩:=m d (qbt hd) b _ ok (by lia);refine⟨_,U,.inl ⟨_,_,_,U,e,by rw[qaB,u];rfl,λz f=>?_,t,by rw[show Zq+_=Zq+i+1 by lia];exact j,U⟩⟩;rcases qaO.mp f with f|f
  ·exact k z f
  ·rw[qal.mp f];exact q)
 exact⟨r,b,n,k,ok,o⟩
theorem Bs {tt:Tf}{te:Ef}{l:Ev}{a:Option W}{ds:List D}{p:Pus}{rest:Sto}{Zq:Int} (h:okU p Zq) (v:Zq+ds.length<=100000000) (u:∀ d∈ds,∀ p Z',okU p Z'->Z'<=100000000->∃ y b,okU b (Z'+1)/\tt (Z d::l) (pus p rest)=some (y,pus b rest)) (q:∀ d s,te (Z d::l) s=some (.d d,s)) :
  ∃ c b,c.Sublist ds/\okU b (Zq+ds.length)/\lcI (.nm 0) tt te (a::l) ds (pus p rest)=some (c,pus b rest):=by
 obtain⟨t,w,r,n,b,ok,rfl⟩:=fz (g:=.nm 0) (env:=a::l) (λi c s=>c.Sublist (ds.take i)/\∃ b,okU b (Zq+i)/\s=pus b rest) ⟨List.nil_sublist _,p,by rw [show Zq+_=Zq by lia];exact h,U⟩ (λi d c s hd ⟨o,b,ok,es⟩=>by
  subst es;have hi:=(qar.mp hd).1;obtain⟨y,k,m,e⟩:=u d (qbt hd) b _ ok (by lia);have f:ds.take (i+1)=ds.take i++[d]:=by rw[qel,hd];rfl
  have j:okU k (Zq+((i+1))):=by rw[show Zq+_=Zq+i+1 by lia];exact m
  refine⟨_,U,?_⟩;cases y with
  |true=>exact .inl ⟨_,_,_,e,q _ _,by rw[f];exact o.append (qdl _),k,j,U⟩
  |false=>exact .inr ⟨_,e,by rw[f];exact o.trans (List.sublist_append_left _ _),k,j,U⟩)
 rw[qcM]at n;exact⟨t,b,n,ok,r⟩
end Own
set_option maxHeartbeats 1000000
namespace Own
open PySem L2
open Sx (Pb Tb Good Named Fe LV ZV piv lexP leastR leaveL sumN unit colV basis)
def B01 (d:D):Prop:=d=.int 0\/d=.int 1
theorem b01 {r:Int} (a:0<=r) (b:r<2):B01 (.int r):=by
 have:r=0\/r=1:=by lia
 rcases this with rfl|rfl
 ·exact .inl U
 ·exact .inr U
theorem rF (s:Sto) {cs:List D}{i:Int} (b:0<=i) (c:i<cs.length):∃ y∈cs,dIx s (.d (.lst cs)) (.d (.int i))=some y:=by
 obtain⟨j,rfl⟩:=qcL b;have a:j<cs.length:=by lia
 exact⟨_,qbQ a,cO (qam a)⟩
def rgI (n:Nat):List Int:=(qak n).map λk:Nat=>(0:Int)+k
theorem xf (n:Nat):bi 0 n=(rgI n).map D.int:=by unfold bi rgI;rw[qaP];rfl
theorem mN {n:Nat}{k:Int} (h:k∈rgI n):0<=k/\k<n:=by
 obtain⟨j,a,rfl⟩:=qaD.mp h
 have:=qaR.mp a
 lia
theorem sh (n:Nat):(rgI n).length=n:=by unfold rgI;rw[qah,qat]
theorem wz:∀ {a:List D},(∀ y∈a,∃ z:Int,y=.int z)->∃ b:List Int,a=b.map D.int
 |[],_=>⟨[],U⟩
 |y::a,h=>by
  obtain⟨z,rfl⟩:=h y qag;obtain⟨b,rfl⟩:=wz λx c=>h x (qai _ c);exact⟨z::b,U⟩
theorem D4 {tt:Tf}{te:Ef}{l:Ev}{a:Option W}{ds:List D}{st:Sto} (P:D->Prop) (h:∀ d∈ds,∃ c,tt (Z d::l) st=some (c,st)/\(c=true->∃ y,P y/\te (Z d::l) st=some (.d y,st))):∃ e,(∀ y∈e,P y)/\lcI (.nm 0) tt te (a::l) ds st=some (e,st):=by
 obtain⟨o,r,f,n,rfl⟩:=fz (g:=.nm 0) (env:=a::l) (ds:=ds) (λi e s=>(∀ y ∈ e,P y)/\s=st) (ys0:=[]) ⟨(λy q=>nomatch q),U⟩ (λi d e s hd ⟨k,es⟩=>by
  subst es;obtain⟨c,j,f⟩:=h d (qbt hd);refine⟨_,U,?_⟩;cases c with
  |true=>
   obtain⟨y,m,p⟩:=f U;refine .inl ⟨_,_,_,j,p,λz b=>?_,U⟩;rcases qaO.mp b with b|b
   ·exact k z b
   ·rw[qal.mp b];exact m
  |false=>exact .inr ⟨_,j,k,U⟩)
 exact⟨o,n,f⟩
section
variable {rest:Sto}{n:Nat}
theorem dn {p:Pus}{Zq:Int} (h:okU p Zq) (V:Zq<=100000000) {m:Int} (m0:0<m) (m1:m<1000):∃ (r:Int) (v:Pus),0<=r/\r<m/\okU v (Zq+1)/\aH [.h 1,.d (.int m)] (pus p rest)=some (.d (.int r),pus v rest):=by
 obtain⟨r,v,a,b,c,d⟩:=Ca h (by lia) m0 (by lia);exact⟨r,v,a,b,c,d rest⟩
theorem wb {p:Pus}{Zq:Int} (h:okU p Zq) (V:Zq<=100000000):∃ (y:D) (v:Pus),B01 y/\okU v (Zq+1)/\aH [.h 1,.d (.int 2)] (pus p rest)=some (.d y,pus v rest):=by
 obtain⟨r,v,a,b,c,d⟩:=dn h V (m:=2) (by decide) (by decide);exact⟨_,v,b01 a b,c,d⟩
theorem zY {st:Sto}{row:Int}{t:List Int} (h0:0<=row) (ht:∀ k∈t,0<=k) (hl:t.length<=1000000):d8 [.d (.int row),.d (.lst (t.map D.int))] st=some (.d (.int (bN row t)),st):=zX h0 ht hl (aS U)
theorem AF {d:D} (h:d∈bi 0 (2^n)):∃ r:Int,d=.int r/\0<=r:=by
 rw[xf]at h;obtain⟨k,L,rfl⟩:=qaD.mp h;exact⟨k,U,(mN L).1⟩
theorem Bu {p:Pus}{Zq:Int}{f:Int} (h:okU p Zq) (V:Zq<=1000000) (hn:n<=4):∃ (j:List D) (v:Pus) (o4 o6 o7 o8:Option W),j.length=2^n/\(∀ u∈j,B01 u)/\okU v (Zq+100)/\
  aY (aC dEq (iV 2) (iC (.int 0))) (ah (ay (.nm 4) (aw (iLc 1 [0] (bD (aa (iOp bf (iV 1) (iC (.int 1))) ae)) (.nm 0) aJ cR))) (ay (.nm 5) (aw (iLc 1 [4,1] (aB (iV 3)) (.nm 0) aJ cQ)))) (aY (aC dEq (iV 2) (iC (.int 1))) (ah (ay (.tp [6,7]) (bb (aa (aw (iLc 1 [0] (bD (aa (iV 1) ae)) (.nm 0) bW bU)) (aa (aq aH (aa (iV 0) (aa (iC (.int 2)) ae))) ae)))) (ay (.nm 5) (aw (iLc 1 [6,7] (aB (iV 3)) (.nm 0) aJ cS)))) (aY (aC dEq (iV 2) (iC (.int 2))) (ah (ay (.nm 8) (aw (iLc 1 [0] (bD (aa (iOp bf (iV 1) (iC (.int 1))) ae)) (.nm 0) aJ cD))) (ay (.nm 5) (aw (iLc 1 [1,8] (aB (iV 3)) (.nm 0) aJ cC)))) (ay (.nm 5) (aw (iLc 1 [0] (aB (iV 3)) (.nm 0) aJ cE)))))
   [some (.h 1),Z (.int (n:Int)),Z (.int f),Z (.lst (bi 0 (2^n))),none,none,none,none,none] (pus p rest)=some (.nx [some (.h 1),Z (.int (n:Int)),Z (.int f),Z (.lst (bi 0 (2^n))),o4,Z (.lst j),o6,o7,o8] (pus v rest)):=by
 have h16:2^n<=16:=qaV (qbk (by decide) hn) (by decide);have Y:(bi 0 (2^n)).length=2^n:=c8 _ _;have F:(bi 0 (2^n)).length<=1000000:=by lia
 have hN:(bi 0 (n+1)).length=n+1:=c8 _ _;have hN0:(bi 0 n).length=n:=c8 _ _;have c:∀ (k:Int) (s:Sto) (e:Ev),aC dEq (iV 2) (iC (.int k)) (some (.h 1)::some (.d (.int (n:Int)))::some (.d (.int f))::e) s=some (f==k,s):=λk s e=>ak U U (cr _ _ _);have w:∀ d∈bi 0 (2^n),∃ r:Int,d=.int r/\0<=r:=λd hd=>AF hd;by_cases w0:f=0
 ·obtain⟨cs,p1,N,b1,K,M⟩:=gC (te:=cR) (l:=[some (.h 1)]) (a:=none) (ds:=bi 0 (n+1)) (rest:=rest) B01 h (by lia) (λd hd q Z' o g=>by
   obtain⟨y,x,a,b,e⟩:=wb (rest:=rest) o g
   exact⟨y,x,a,b,ag U e⟩)
  obtain⟨j,A,G,I,k2,B⟩:=gC (te:=cQ) (l:=[Z (.lst cs),Z (.int (n:Int))]) (a:=none) (ds:=bi 0 (2 ^ n)) (rest:=rest) B01 K (by lia) (λd hd q Z' o g=>by
   obtain⟨r,rfl,O⟩:=w d hd;have C:=zY (st:=pus q rest) (row:=r) (t:=rgI n) O (λk L=>(mN L).1) (by rw[sh];lia);rw[<-xf]at C;have J:=wm r (rgI n);rw[sh]at J;obtain⟨y,hy,e4⟩:=rF (pus q rest) (cs:=cs) (i:=bN r (rgI n)) J.1 (by rw[N,hN];lia)
   exact⟨y,q,b1 y hy,o.mono (by lia),ac U (ag (ab U (ab (ar (C6 U (by lia))) U)) C) e4⟩)
  refine⟨j,A,Z (.lst cs),none,none,none,by rw[G,Y],I,k2.mono (by lia),?_⟩;subst w0;exact ca (c 0 _ _) (ai (aj (ar (aL (dM (z:=(n:Int)+1) (m:=n+1) U (by lia) (by lia) (by lia)) (by lia) M))) (aj (ar (aL (aS U) F B))))
 ·have S:=c 0 (pus p rest) [Z (.lst (bi 0 (2^n))),none,none,none,none,none]
  rw[show (f==0)=false by simpa using w0]at S;by_cases w1:f=1
  ·obtain⟨ss,p1,N,K,M⟩:=Bs (tt:=bW) (te:=bU) (l:=[some (.h 1)]) (a:=none) (ds:=bi 0 n) (rest:=rest) h (by lia) (λd hd q Z' o g=>by
    obtain⟨r,x,O,R,b,e⟩:=dn (rest:=rest) o g (m:=3) (by decide) (by decide)
    exact⟨_,x,b,ak (ag U e) U U⟩) (λd s=>rfl)
   obtain⟨r,A,O,R,k2,B⟩:=dn (rest:=rest) K (by lia) (m:=2) (by decide) (by decide);rw[xf]at N;obtain⟨t,ht,rfl⟩:=List.sublist_map_iff.mp N;have htl:t.length<=4:=by have:=ht.length_le;rw[sh]at this;lia
   obtain⟨j,X,l3,b3,k3,C⟩:=gC (te:=cS) (l:=[Z (.lst (t.map D.int)),Z (.int r)]) (a:=none) (ds:=bi 0 (2 ^ n)) (rest:=rest) B01 k2 (by lia) (λd hd q Z' o g=>by
    obtain⟨row,rfl,H⟩:=w d hd;have C:=zY (st:=pus q rest) (row:=row) (t:=t) H (λk L=>(mN (ht.subset L)).1) (by lia);generalize t.map D.int=T at *
    exact⟨_,q,b01 (qeT _ (by decide)) (qfl _ (by decide)),o.mono (by lia),ac (ac (ag (ab U (ab U U)) C) U U) U (iz _ (by decide))⟩)
   refine⟨j,X,none,Z (.lst (t.map D.int)),Z (.int r),none,by rw[l3,Y],b3,k3.mono (by lia),?_⟩;subst w1;generalize t.map D.int=T at *;refine bh S (ca (c 1 _ _) (ai (s:=pus A rest) (e:=[some (.h 1),Z (.int (n:Int)),Z (.int 1),Z (.lst (bi 0 (2^n))),none,none,Z (.lst T),Z (.int r),none]) ?_ (aj (ar (aL (aS U) F C)))));have q:bb (aa (aw (iLc 1 [0] (bD (aa (iV 1) ae)) (.nm 0) bW bU)) (aa (aq aH (aa (iV 0) (aa (iC (.int 2)) ae))) ae)) [some (.h 1),Z (.int (n:Int)),Z (.int 1),Z (.lst (bi 0 (2^n))),none,none,none,none,none] (pus p rest)=some (.d (.tup [.lst T,.int r]),pus A rest):=bV (ab (ar (aL (dM (z:=(n:Int)) (m:=n) U (by lia) (by lia) (by lia)) (by lia) M)) (ab (ag U B) U)) U (by show 2<=1000;decide);simp only[ay,q,qaa];rfl
  ·have f1:=c 1 (pus p rest) [Z (.lst (bi 0 (2^n))),none,none,none,none,none]
   rw[show (f==1)=false by simpa using w1]at f1;by_cases w2:f=2
   ·obtain⟨cs,p1,N,b1,K,M⟩:=gC (te:=cD) (l:=[some (.h 1)]) (a:=none) (ds:=bi 0 (n+1)) (rest:=rest) (λd=>∃ z:Int,d=.int z) h (by lia) (λd hd q Z' o g=>by
     obtain⟨r,x,O,R,b,e⟩:=dn (rest:=rest) o g (m:=7) (by decide) (by decide)
     exact⟨_,x,⟨r - 3,U⟩,b,ac (ag U e) U U⟩)
    obtain⟨j,A,G,I,k2,B⟩:=gC (te:=cC) (l:=[Z (.int (n:Int)),Z (.lst cs)]) (a:=none) (ds:=bi 0 (2 ^ n)) (rest:=rest) B01 K (by lia) (λd hd q Z' o g=>by
     obtain⟨row,rfl,H⟩:=w d hd
     obtain⟨ys,hy,C⟩:=D4 (tt:=fD) (te:=eD) (l:=[Z (.int row),Z (.lst cs)]) (a:=none) (ds:=bi 0 n) (st:=pus q rest) (λd=>∃ z:Int,d=.int z) (λd hd=>by
      rw[xf]at hd;obtain⟨k,L,rfl⟩:=qaD.mp hd;have P:=mN L;obtain⟨y,E,Q⟩:=rF (pus q rest) (cs:=cs) (i:=k) P.1 (by rw[N,hN];lia)
      exact⟨_,ak (ac (ac U U (AJ _ P.1)) U U) U (cr _ _ _),λ_=>⟨y,b1 y E,ac U U Q⟩⟩)
     obtain⟨zs,rfl⟩:=wz hy;obtain⟨y,E,Q⟩:=rF (pus q rest) (cs:=cs) (i:=(n:Int)) (by lia) (by rw[N,hN];lia);obtain⟨z,rfl⟩:=b1 y E;have hs:=xk (pus q rest) zs;generalize zs.map D.int=T at *;refine⟨.int (if decide (zs.sum > z)=true then 1 else 0),q,by split;exact .inr U;exact .inl U,o.mono (by lia),?_⟩
     exact aG (ab (ac (aG (ab (ar (aL (dM (z:=(n:Int)) (m:=n) U (by lia) (by lia) (by lia)) (by lia) C)) U) hs) (ac U U Q) U) U) U)
    refine⟨j,A,none,none,none,Z (.lst cs),by rw[G,Y],I,k2.mono (by lia),?_⟩;subst w2;exact bh S (bh f1 (ca (c 2 _ _) (ai (aj (ar (aL (dM (z:=(n:Int)+1) (m:=n+1) U (by lia) (by lia) (by lia)) (by lia) M))) (aj (ar (aL (aS U) F B))))))
   ·have f2:=c 2 (pus p rest) [Z (.lst (bi 0 (2^n))),none,none,none,none,none]
    rw[show (f==2)=false by simpa using w2]at f2
    obtain⟨j,A,G,I,k2,B⟩:=gC (te:=cE) (l:=[some (.h 1)]) (a:=none) (ds:=bi 0 (2 ^ n)) (rest:=rest) B01 h (by lia) (λd hd q Z' o g=>by
     obtain⟨y,x,a,b,e⟩:=wb (rest:=rest) o g
     exact⟨y,x,a,b,ag U e⟩)
    refine⟨j,A,none,none,none,none,by rw[G,Y],I,k2.mono (by lia),?_⟩;exact bh S (bh f1 (bh f2 (aj (ar (aL (aS U) F B)))))
theorem xh (s:Sto) (n:Nat) (hn:n<=4):xU s (.d (.int 1)) (.d (.int (n:Int)))=some (.int ((2^n:Nat):Int)):=by
 show (if mR 1 _ then some _ else none)=_;rw[iFP ⟨by lia,by lia,by decide⟩,qcJ];rfl
theorem tF {p:Pus}{Zq:Int} (h:okU p Zq) (V:Zq<=1000) (hn:n<=4):∃ (fs:List D) (v:Pus),fs.length=2^n/\(∀ u∈fs,du u)/\okU v (Zq+200)/\dI [.h 1,.d (.int (n:Int))] (pus p rest)=some (.d (.tup fs),pus v rest):=by
 have h16:2^n<=16:=qaV (qbk (by decide) hn) (by decide);obtain⟨f,p1,y0,y1,K,M⟩:=dn h (by lia) (m:=6) (by decide) (by decide);obtain⟨j,A,o4,o6,o7,o8,G,I,k2,B⟩:=Bu K (by lia) hn;obtain⟨z,X,z0,z1,k3,C⟩:=dn k2 (by lia) (m:=4) (by decide) (by decide);have par:zt 2 3 (aa (aq aH (aa (iV 0) (aa (iC (.int 6)) ae))) (aa (aw (mx (aa (iOp xU (iC (.int 1)) (iV 1)) ae))) ae)) [some (.h 1),Z (.int (n)),none,none,none,none,none,none,none] (pus p rest)=some (.nx [some (.h 1),Z (.int (n)),Z (.int f),Z (.lst (bi 0 (2^n))),none,none,none,none,none] (pus p1 rest)):=by
  have q:aa (aq aH (aa (iV 0) (aa (iC _) ae))) (aa (aw (mx (aa (iOp xU (iC _) (iV 1)) ae))) ae) [some _,some _,none,none,none,none,none,none,none] (pus p rest)=some ([.d _,.d _],pus p1 rest):=ab (ag U M) (ab (ar (C6 (ac U U (xh _ n hn)) (by lia))) U);simp only[zt,q,qaa];rfl
 have J:aC dEq (aq aH (aa (iV 0) (aa (iC _) ae))) (iC _) [some _,Z (.int (n)),Z (.int f),Z (.lst (bi 0 (2^n))),o4,Z (.lst j),o6,o7,o8] (pus A rest)=some (z==0,pus X rest):=ak (ag U C) U (cr _ _ _);by_cases g:z=0
 ·rw[show (z==0)=true by simpa using g]at J
  obtain⟨fs,p4,l4,b4,k4,e4⟩:=gC (te:=e8) (l:=[some _]) (ds:=j) du k3 (by lia) (λd hd q Z' o g=>by
   obtain⟨r,x,O,R,b,e⟩:=dn o g (m:=3) (by decide) (by decide);have hv:du d:=by rcases I d hd with rfl|rfl;exact .inr (.inl U);exact .inr (.inr U)
   obtain⟨y,E,Q⟩:=rF (pus x rest) (cs:=[d,d,.non]) O R;refine⟨y,x,?_,b,ac U (ag U e) Q⟩;rcases qaz.mp E with rfl|E
   ·exact hv
   ·rcases qaz.mp E with rfl|E
    ·exact hv
    ·rw[qal.mp E];exact .inl U)
  refine⟨fs,p4,by rw[l4,G],b4,k4.mono (by lia),?_⟩;exact av U (ai par (ai B (ai (ca J (aj (ar (aL (aS U) (by lia) e4)))) U)))
 ·rw[show (z==0)=false by simpa using g]at J
  refine⟨j,X,G,λu hu=>by rcases I u hu with rfl|rfl;exact .inr (.inl U);exact .inr (.inr U),k3.mono (by lia),?_⟩;exact av U (ai par (ai B (ai (bh J U) U)))
end
end Own
set_option maxHeartbeats 1000000
namespace Own
open PySem L2
open Sx (Pb Tb Good Named Fe LV ZV piv lexP leastR leaveL sumN unit colV basis)
theorem BH {a b:List Int} (h:leL a b) (c:a≠b):bu a b=true:=by
 cases e:bu a b with
 |true=>rfl
 |false=>exact absurd (iW a b e h) c
theorem yg {l:List (List Int)} (hn:l.Nodup):(ax l).Pairwise λa b=>bu a b=true:=by
 have c:=(aK l).nodup_iff.mpr hn;exact (bR l).imp₂ (λa b d c=>BH d c) c
theorem BQ {ks:List (List Int)}{X:List Int->Int} (h:ks.Pairwise λa b=>bu a b=true):(aZ ks X).Pairwise λp q=>bu p.1 q.1=true:=by
 unfold aZ;rw[qdC];exact h.sublist qe1
theorem uz {ks:List (List Int)}{X:List Int->Int}{p:Prt} (h:p∈aZ ks X):p.1∈ks/\p.2=X p.1/\p.2≠0:=by
 obtain⟨t,a,rfl⟩:=qaD.mp h;obtain⟨c,b⟩:=qbN.mp a;exact⟨c,U,of_decide_eq_true b⟩
theorem yr {st:Sto} (t:List Int):lcI (.nm 0) aJ df [none] (t.map D.int) st=some ((t.map λ_=>true).map D.bl,st):=by
 rw[qaP];exact jP _ λk _=>ag U (lc k)
theorem qH (ls:List (List Int)):qG (ls.map ao)=some ((ax ls).map ao):=by
 cases ls with
 |nil=>rfl
 |cons t r=>
  show (fU _).map _=_;rw[gZ];rfl
def tmO (k m:Nat):List Int:=((qak k).filter λi=>m.testBit i).map λi=>((i:Nat):Int)
theorem zl:∀ n:Fin 7,cu n.val=(qak (2^n.val)).map (tmO n.val):=by decide +kernel
theorem pd (r k:Nat):onI (r:Int) (k:Int)=if r.testBit k=true then 1 else 0:=by
 unfold onI;rw[qbe,Nat.testBit_eq_decide_div_mod_eq];by_cases q:r / 2^k%2=1
 ·lia
 ·lia
theorem wg {v x:Ef}{env:Ev}{st:Sto}{ds:List D}{d:D} (a:∀ s,v env s=some (.h st.length,s)) (f:x env (st++[.l ds])=some (.d d,st++[.l ds])) (c:ds.length<1000000):eJ (cL bB v (aa x ae)) env (st++[.l ds])=some (.nx env (st++[.l (ds++[d])])):=by
 have e:cL bB v (aa x ae) env (st++[.l ds])=some (.d .non,st++[.l (ds++[d])]):=by
  show (v env (st++[.l ds])).bind _=_;rw[a,qaa];rw[(ab (b:=ae) f U)];show (lg _ st.length).bind _=_;rw[dH,qaa,qaa,show bB ds [.d d]=some (.non,ds++[d]) from iFP c]
  simp
 show (cL bB v _ env _).map _=_;rw[e];rfl
theorem FY {α:Type}{tt:Tf}{te:Ef}{l:Ev}{a:Option W}{st:Sto}{g:α->D} (c:α->Bool):∀ {ks:List α},(∀ k∈ks,tt (Z (g k)::l) st=some (c k,st))->(∀ d s,te (Z d::l) s=some (.d d,s))->lcI (.nm 0) tt te (a::l) (ks.map g) st=some ((ks.filter c).map g,st):=by
 intro ks p n
 obtain⟨q,r,o,h,rfl⟩:=fz (g:=.nm 0) (env:=a::l) (λi m s=>m=((ks.take i).filter c).map g/\s=st) (ys0:=[]) ⟨U,U⟩ (λi d m s hd ⟨e,es⟩=>by
  subst e es;rw[qaC]at hd;obtain⟨k,j,rfl⟩:=qad.mp hd;have f:=p k (qbt j);have b:ks.take (i+1)=ks.take i++[k]:=by rw[qel,j];rfl
  refine⟨_,U,?_⟩;cases hc:c k with
  |true=>rw[hc]at f;exact .inl ⟨_,_,_,f,n _ _,by rw[b,qd6,qbp,qcE hc];rfl,U⟩
  |false=>rw[hc]at f;exact .inr ⟨_,f,by rw[b,qd6,qcF (by rw[hc];exact qaE),qhX,qbf],U⟩)
 rw[qah,qcM]at h;rw[o,<-h];rfl
def bx (n:Nat) (m:Int):List (List Int):=(xF n).filter λt=>decide ((t.length:Int)<=m)
theorem uW {st:Sto}{n:Nat}{m:Int} (hn:n<=4):cW [.d (.int (n:Int)),.d (.int m)] st=some (.d (tsD (bx n m)),st):=by
 have B:2^n<=16:=qaV (qbk (by decide) hn) (by decide);obtain⟨y,H,u,⟨j,c,rfl⟩,rfl⟩:=bH (g:=.nm 3) (body:=iR) (ds:=bi 0 (2^n)) (λi env s=>(∃ j c,env=[Z (.int (n:Int)),Z (.int m),some (.h st.length),j,c])/\s=st++[.l ((((qak i).map (tmO n)).filter λt=>decide ((t.length:Int)<=m)).map ao)])
  (env:=[Z (.int (n:Int)),Z (.int m),some (.h st.length),none,none]) (st:=st++[.l []]) ⟨⟨_,_,U⟩,U⟩ (λi d env s hd ⟨⟨j,c,e⟩,es⟩=>by
   subst e es;obtain⟨rfl,hi⟩:=mO hd;generalize hA:((qak i).map (tmO n)).filter (λt=>decide ((t.length:Int)<=m))=A;have E:A.length<=16:=by
    rw[<-hA];refine qaV (qb9 _ _) ?_;rw[qah,qat];lia
   have w:lcI (.nm 0) c9 cT [none,Z (.int (i:Int))] (bi 0 n) (st++[.l (A.map ao)])=some ((tmO n i).map D.int,st++[.l (A.map ao)]):=by
    have:=FY (tt:=c9) (te:=cT) (l:=[Z (.int (i:Int))]) (a:=none) (st:=st++[.l (A.map ao)]) (g:=λk:Nat=>D.int (0+k)) (λk=>i.testBit k) (ks:=qak n) (λk G=>by
     have e:vj (st++[.l (A.map ao)]) (.d (.int ((i:Int) / 2^((0:Int)+k).toNat))) (.d (.int 1))=some (.int (if i.testBit k=true then 1 else 0)):=by
      rw[<-pd,qbW,<-yT (by lia)];rfl
     have f:((if i.testBit k=true then (1:Int) else 0)==1)=i.testBit k:=by cases i.testBit k<;>rfl
     have:=ak (g:=dEq) (ac (g:=vj) (ac (g:=xV) (a:=iV 1) (b:=iV 0) (env:=[Z (.int (0+(k:Int))),Z (.int (i:Int))]) (st:=st++[.l (A.map ao)]) U U (AJ _ (by lia))) (b:=iC (.int 1)) U e) (b:=iC (.int 1)) U (cr _ _ _)
     rw[f]at this
     exact this) (λd s=>rfl)
    unfold bi;rw[this];unfold tmO;rw[qaP]
    congr 1
    congr 1
    refine qcm λk _=>?_;show D.int (0+(k:Int))=D.int (k:Int);rw[qbW]
   have v:(bi 0 n).length<=1000000:=by rw[c8];lia
   have s1:ay (.nm 4) (iCB gB (aa (aw (iLc 1 [3] (bD (aa (iV 0) ae)) (.nm 0) c9 cT)) ae)) [Z (.int (n:Int)),Z (.int m),some (.h st.length),Z (.int (i:Int)),c] (st++[.l (A.map ao)])=some (.nx [Z (.int (n:Int)),Z (.int m),some (.h st.length),Z (.int (i:Int)),Z (ao (tmO n i))] (st++[.l (A.map ao)])):=aj (aG (ab (ar (aL (dM (z:=(n:Int)) (m:=n) U (by lia) (by lia) (by lia)) v w)) U) U);have r:=by
    have:aC dLe (iCB a8 (aa (iV 4) ae)) (iV 1) [Z (.int (n:Int)),Z (.int m),some (.h st.length),Z (.int (i:Int)),Z (ao (tmO n i))] (st++[.l (A.map ao)])=some (decide ((((tmO n i).map D.int).length:Int)<=m),st++[.l (A.map ao)]):=rfl
    rw[qah]at this;exact this
   have p:(((qak (i+1)).map (tmO n)).filter λt=>decide ((t.length:Int)<=m))=A++[tmO n i].filter λt=>decide ((t.length:Int)<=m):=by rw[qdW,qbp,qd6,hA];rfl
   by_cases q:((tmO n i).length:Int)<=m
   ·rw[decide_eq_true q]at r
    rw[qcE (by simpa using q)]at p;refine⟨_,_,_,U,.inl (ai s1 (ca r (wg (d:=ao (tmO n i)) (λs=>rfl) U (by rw[qah];lia)))),⟨_,_,U⟩,?_⟩;rw[p,qbp];rfl
   ·rw[decide_eq_false q]at r
    rw[qcF (by simpa using q)]at p;refine⟨_,_,_,U,.inl (ai s1 (bh r U)),⟨_,_,U⟩,?_⟩
    rw[p,qhX,qbf])
 rw[c8]at u;have hg:((qak (2^n)).map (tmO n)).filter (λt=>decide ((t.length:Int)<=m))=(cu n).filter λt=>decide ((t.length:Int)<=m):=by rw[<-zl ⟨n,by lia⟩]
 rw[hg]at u;have F:((cu n).filter λt=>decide ((t.length:Int)<=m)).length<64:=by
  have:=qb9 (λt:List Int=>decide ((t.length:Int)<=m)) (cu n)
  rw[ke]at this;lia
 have o:iQ (st++[.l (((cu n).filter λt=>decide ((t.length:Int)<=m)).map ao)]) [.h st.length]=some ((bx n m).map ao):=by
  show (lg (st++[.l (((cu n).filter λt=>decide ((t.length:Int)<=m)).map ao)]) st.length).bind (λds=>if ds.length<64 then qG ds else none)=_;rw[dH,qaa,iFP (by rw[qah];exact F),qH,jB];rfl
 generalize ((cu n).filter λt=>decide ((t.length:Int)<=m)).map ao=A at *;have C:iCL iQ (aa (iV 2) ae) [Z (.int (n:Int)),Z (.int m),some (.h st.length),j,c] (st++[.l A])=some ((bx n m).map ao,st++[.l A]):=by
  have q:=ab (a:=iV 2) (b:=ae) (env:=[Z (.int (n:Int)),Z (.int m),some (.h st.length),j,c]) (st:=st++[.l A]) (x:=.h st.length) U U;simp only[iCL,q,qaa,o,qao]
 have:=gn (n:=5) (k:=2) (b:=jX) (ws:=[.d (.int (n:Int)),.d (.int m)]) (st:=st) U (ai (e:=[Z (.int (n:Int)),Z (.int m),some (.h st.length),none,none]) (s:=st++[.l []]) U (ai (bq (dM (z:=((2^n:Nat):Int)) (m:=2^n) (ac U U ((λs=>xh s n hn) _)) (by lia) (by lia) (by lia)) u) (aF (aG (ab (ar C) U) U))))
 rw[qcN]at this;exact this
end Own
set_option maxHeartbeats 1000000
namespace Own
open PySem L2
open Sx (Pb Tb Good Named Fe LV ZV piv lexP leastR leaveL sumN unit colV basis)
theorem mY {α:Type}{A:List α}{j:Nat}{v:α} (hA:A.length=j+1) (h:A[j]?=some v):atI A (-1)=some v:=by
 show (ixN A.length _).bind _=_;rw[hA]
 have:ixN (j+1) (-1)=some j:=by
  unfold ixN;rw[iFN (by decide),iFP (by lia)]
  congr 1
  lia
 rw[this,qaa,h]
theorem yh {st:Sto}{kd:Str}{ts:List (List Int)}{ps:List Prt} (V:ps.length<=1000) (L:ps.Pairwise λp q=>bu p.1 q.1=true) (hm:∀ p∈ps,p.1∈ts/\p.1.length<=1000/\p.2≠0):eO [.d (.str kd),.d (tsD ts),.d (bn kd ps)] st=some (.d (.bl true),st):=by
 obtain⟨F,R,E,⟨B,rfl⟩,rfl⟩:=bH (g:=.nm 4) (body:=ge) (ds:=ps.map bQ) (λi env s=>(∃ B,env=[Z (.str kd),Z (tsD ts),Z (bn kd ps),some (.h st.length),B])/\s=st++[.l ((ps.take i).map λp=>ao p.1)])
  (st:=st++[.l []]) ⟨⟨_,U⟩,U⟩ (λi d env s hd ⟨⟨B,e⟩,es⟩=>by
   subst e es;obtain⟨p,o,rfl⟩:=yz hd;obtain⟨N,m2,m3⟩:=hm p (qbt o);have hi:i<ps.length:=(qar.mp o).1;have y:(ps.take (i+1)).map (λp:Prt=>ao p.1)=(ps.take i).map (λp:Prt=>ao p.1)++[ao p.1]:=by rw[qel,o,qbp];rfl
   have hA:((ps.take i).map λp:Prt=>ao p.1).length=i:=by rw[qah,qb0];lia
   have m:∀ j,i=j+1->∃ q:Prt,bu q.1 p.1=true/\((ps.take i).map λp:Prt=>ao p.1)[j]?=some (ao q.1):=λj S=>by
    have r:j<ps.length:=by lia
    refine⟨ps[j],?_,?_⟩
    ·have:=qgh.mp L j i r hi (by lia)
     rw[qam hi,qeM]at o;rw[<-o];exact this
    ·rw[qaC,List.getElem?_take,iFP (by lia),qam r];rfl
   rw[y];generalize (ps.take i).map (λp:Prt=>ao p.1)=A at *;have t:mE (st++[.l A]) (.d (ao p.1)) (.d (tsD ts))=some (.bl false):=by
    show (fU [ao p.1]).bind _=_;rw[show [ao p.1]=[p.1].map ao from U,gZ,qaa,show gX (st++[.l A]) (.d (tsD ts))=some (ts.map ao) from U,qaa,gZ];show some (D.bl (!decide (p.1∈ts)))=_;rw[decide_eq_true N];rfl
   have u:dO (aC dNe (iV 3) (aw (bT ae))) (cM (aC vk (iOp dIx (iV 3) (iUn ie (iC (.int 1)))) (iOp dIx (iV 4) (iC (.int 0))))) [Z (.str kd),Z (tsD ts),Z (bn kd ps),some (.h st.length),Z (.tup [ao p.1,.int p.2])] (st++[.l A])=some (false,st++[.l A]):=by
    have c:dNe (st++[.l A]) (.h st.length) (.d (.lst []))=some (.bl (!decide (A=[]))):=by
     show (((lg (st++[.l A]) st.length).map Kin.ls).bind λa=>(some (Kin.ls [])).bind λb=>(eqK a b).map λk=>D.bl (!k))=_;rw[dH,qao,qaa,qaa];cases A with
     |nil=>rfl
     |cons x A=>
      show (if (x::A).length=([]:List D).length then (if (x::A).all (okD 60)=true/\([]:List D).all (okD 60)=true then some (dz (x::A) []) else none) else some false).map (λk=>D.bl (!k))=_;rw[iFN (by simp)];rfl
    cases i with
    |zero=>
     have:A=[]:=List.eq_nil_of_length_eq_zero hA
     rw[decide_eq_true this]at c;exact jn (ak U U c)
    |succ j=>
     obtain⟨q,Q,J⟩:=m j U
     have:¬ A=[]:=λe=>by rw[e]at hA;cases hA
     rw[decide_eq_false this]at c;have v:dIx (st++[.l A]) (.h st.length) (.d (.int (-1)))=some (ao q.1):=by
      show (lg (st++[.l A]) st.length).bind (λds=>atI ds (-1))=_;rw[dH,qaa,mY hA J]
     have w:vk (st++[.l A]) (.d (ao q.1)) (.d (ao p.1))=some (.bl true):=by
      show (aT (q.1.map D.int)).bind (λns=>(aT (p.1.map D.int)).map λI=>D.bl (bu ns I))=_;rw[be,be,qaa,qao,Q]
     exact d5 (ak U U c) (mf (k:=true) (ak (ac U U v) (ac U U (iO _ _ _)) w))
   have H:(p.2==(0:Int))=false:=by simp[m3]
   have G:(p.1.map D.int).length<=1000000:=by rw[qah];lia
   have hb:(p.1.map λ_=>true).all id=true:=by simp
   have f:=Cr (a:=aa (aw (iLc 1 [] (aB (iOp dIx (iV 4) (iC (.int 0)))) (.nm 0) aJ df)) ae) (env:=[Z (.str kd),Z (tsD ts),Z (bn kd ps),some (.h st.length),Z (.tup [ao p.1,.int p.2])]) (st:=st++[C.l A]) (ab (ar (aL (bo (ac U U (iO _ _ _))) G (yr (st:=st++[C.l A]) p.1))) U);rw[hb]at f;refine⟨_,_,_,U,.inl ?_,⟨some (.d (.tup [ao p.1,.int p.2])),U⟩,U⟩;generalize bn kd ps=P at *;generalize tsD ts=T at *;generalize p.2=z at *;generalize K:st++[C.l A]=s at *;have M:eJ (cL bB (iV 3) (aa (iOp dIx (iV 4) (iC (.int 0))) ae)) [Z (.str kd),Z T,Z P,some (.h st.length),Z (.tup [ao p.1,.int z])] s=some (.nx [Z (.str kd),Z T,Z P,some (.h st.length),Z (.tup [ao p.1,.int z])] (st++[.l (A++[ao p.1])])):=by
    rw[<-K];exact wg (λs=>rfl) (ac U U (iO _ _ _)) (by rw[hA];lia)
   exact ai (bh (s:=s) (dc (s:=s) U (dc (s:=s) U (dc (s:=s) (mf (k:=true) (qc (ag (ab (ac U U (f8 _ _ _)) U) (lc z)))) (ak (ac U U (f8 _ _ _)) U (by rw[cr,H]))))) U) (ai (bh (s:=s) (dc (s:=s) U (dc (s:=s) (mf (k:=true) (qc f)) (ak (ac U U (iO _ _ _)) U t))) U) (ai (bh (s:=s) u U) M)))
 have O:∀ s,dNe s (.d (.str kd)) (.d (.str kd))=some (.bl false):=λs=>by
  show some (D.bl (!(kd==kd)))=_;rw[beq_self_eq_true];rfl
 rw[qah,qcM]at E;unfold bn at *;generalize ps.map bQ=PP at *;generalize tsD ts=T at *
 have:=gn (n:=5) (k:=3) (b:=im) (ws:=[.d (.str kd),.d T,.d (.tup [.str kd,.tup PP])]) (st:=st) U (ai (bh (s:=st) (dc (s:=st) U (dc (s:=st) U (dc (s:=st) U (ak (ac U U (iO _ _ _)) U (O _))))) U) (ai (bh (s:=st) U U) (ai (e:=[Z (.str kd),Z T,Z (.tup [.str kd,.tup PP]),some (.h st.length),none]) (s:=st++[.l []]) U (ai (bq (bo (ac U U (f8 _ _ _))) E) U))))
 rw[qcN]at this;exact this
end Own
set_option maxHeartbeats 1000000
namespace Own
open PySem L2
open Sx (Pb Tb Good Named Fe LV ZV piv lexP leastR leaveL sumN unit colV basis)
theorem tm {fs:List D}{i:Nat}{d:D} (h:(bY 0 fs)[i]?=some d):i<fs.length/\d=.tup [.int ((i:Nat):Int),fs.getD i .non]:=by
 rw[d7]at h;by_cases hi:i<fs.length
 ·rw[qam hi,qao,qeM,qbj]at h
  exact⟨hi,by rw[qaA,qam hi,<-h];rfl⟩
 ·rw[qaF (by lia)]at h
  cases h
theorem kc:∀ (ds:List D) (k:Nat),(bY k ds).length=ds.length
 |[],_=>rfl
 |_::ds,k=>by rw[bY,qaq,qaq,kc ds]
theorem ltF (s:Sto) {a b:Int} (h:¬ a<b):dLt s (.d (.int a)) (.d (.int b))=some (.bl false):=by
 show some _=_;rw[decide_eq_false h]
theorem gtF (s:Sto) {a b:Int} (h:¬ b<a):dGt s (.d (.int a)) (.d (.int b))=some (.bl false):=by
 show some _=_;rw[decide_eq_false h]
theorem C5 (s:Sto) {d:D} (h:d≠.non):iy s (.d d) (.d .non)=some (.bl false):=by
 cases d<;>first|rfl|exact absurd U h
theorem zT (s:Sto) {d:D} (h:d≠.non):nv s (.d d) (.d .non)=some (.bl true):=by
 cases d<;>first|rfl|exact absurd U h
theorem xB {fs:List D}{w:Nat->Int}{i:Nat}{d:D} (h:(d6 fs (mpI fs.length w))[i]?=some d):i<fs.length/\d=.tup [fs.getD i .non,.int (w i)]:=by
 rw[gw]at h;by_cases hi:i<fs.length
 ·rw[bg hi,qam hi,qaa,qao,qeM]at h
  exact⟨hi,by rw[qaA,qam hi,<-h];rfl⟩
 ·rw[qaF (by lia)]at h
  cases h
theorem wd {st:Sto}{fs:List D}{w:Nat->Int} (k:∀ r,r<fs.length->0<=w r) (hn:∀ r,r<fs.length->fs.getD r .non=.non->w r=0):cH [.d (.tup fs),.d (.tup (mpI fs.length w))] st=some (.d (.bl true),st):=by
 obtain⟨f,h,j,⟨c,b,rfl⟩,rfl⟩:=bH (g:=.tp [2,3]) (body:=dD) (λi env s=>(∃ c b,env=[Z (.tup fs),Z (.tup (mpI fs.length w)),c,b])/\s=st)
  ⟨⟨_,_,U⟩,U⟩ (λi d env s hd ⟨⟨c,b,e⟩,es⟩=>by
   subst e es;obtain⟨hi,rfl⟩:=xB hd;have w0:=k i hi;have wn:=hn i hi;refine⟨_,_,s,U,.inl ?_,⟨some (.d (fs.getD i .non)),Z (.int (w i)),U⟩,U⟩;generalize fs.getD i .non=v at *;refine bh (dc (mf (qc (ag U (lc _)))) (dc (ak U U (ltF _ (by lia))) ?_)) U;by_cases e:v=.non
   ·subst e
    exact d5 U (ak U U (gtF _ (by lia)))
   ·exact jn (ak U U (C5 _ e)))
 have a:dNe h (.d (.int ((mpI fs.length w).length))) (.d (.int (fs.length)))=some (.bl false):=by
  rw[aD];show some (D.bl (!(_==_)))=_;rw[beq_self_eq_true];rfl
 exact av U (ai (bh (dc (s:=h) U (ak (aG (ab U U) U) (aG (ab U U) U) a)) U) (ai (bq U j) U))
def sR (fs:List D) (g:Nat->Int) (r:Nat):Int:=if cw (fs.getD r .non)=true then 0 else g r
theorem Ga {d:D} (h:d≠.non):¬ cw d=true:=by
 cases d<;>first|exact absurd U h|exact Bool.noConfusion
theorem GB (s:Sto) {d:D} (a:du d) (hn:d≠.non):∃ z:Int,d=.int z/\a9 s (.d (.int 2)) (.d d)=some (.int (2*z))/\2*z - 1=sgD d:=by
 rcases a with rfl|rfl|rfl
 ·exact absurd U hn
 ·exact⟨0,U,bL s (dY (by decide)),U⟩
 ·exact⟨1,U,bL s (dY (by decide)),U⟩
theorem xr (b:Bool) (t:List Int) (row:Int):(aO b t row).natAbs<=1:=by
 unfold aO;split<;>split<;>decide
theorem BL {st:Sto}{fs:List D}{b:Bool}{t:List Int}{w:Nat->Int} (v:fs.length<=1000) (m:∀ d∈fs,du d) (o:(∀ k∈t,0<=k/\k<=20)/\t.length<=20) :
  jS [.d (.tup fs),.d (.str (aE b)),.d (ao t),.d (.tup (mpI fs.length w))] st=some (.d (.int (sumN fs.length (sR fs λr=>w r*sgD (fs.getD r .non)*aO b t r))),st):=by
 obtain⟨l,x,j,⟨c,f,rfl⟩,rfl⟩:=bH (g:=.tp [5,6]) (body:=kJ) (λi env s=>(∃ c f,env=[Z (.tup fs),Z (.str (aE b)),Z (ao t),Z (.tup (mpI fs.length w)),Z (.int (sumN i (sR fs λr=>w r*sgD (fs.getD r .non)*aO b t r))),c,f])/\s=st)
  ⟨⟨_,_,U⟩,U⟩ (λi d env s hd ⟨⟨c,f,e⟩,es⟩=>by
   subst e es;obtain⟨hi,rfl⟩:=tm hd;have es:sumN (i+1) _=sumN i _+sR fs (λr=>w r*sgD (fs.getD r .non)*aO b t r) i:=rfl;have a:du (fs.getD i .non):=by
    rw[qaA,qam hi];exact m _ (qbQ hi)
   refine⟨_,[some _,some _,some _,some _,some _,Z (.int (i)),Z (fs.getD i .non)],s,U,.inl ?_,⟨_,_,U⟩,U⟩;have u:sR fs (λr=>w r*sgD (fs.getD r .non)*aO b t r) i=if cw _=true then 0 else w i*sgD _*aO b t i:=rfl;rw[es,u];have q:=xr b t (i);generalize fs.getD i .non=d at *;by_cases e:d=.non
   ·subst e
    rw[iFP (show cw D.non=true from U),qed];exact bh U U
   ·obtain⟨z,rfl,p,n⟩:=GB s a e
    have sg1:(sgD (.int z)).natAbs<=1:=by rcases AI with h|h<;>rw[h]<;>decide
    rw[<-n]at sg1 ⊢
    exact ca (ak U U (zT _ e)) (aj (ac U (ac (ac (ac U U (cO (bg hi))) (ac (ac U U p) U U) (bL s (gQ (by lia)))) (ag (ab U (ab U (ab U U))) (wL (by lia) o.1 (by lia))) (bL s (gQ (by lia)))) U)))
 rw[kc]at j;exact av U (ai (aj U) (ai (bq U j) U))
end Own
set_option maxHeartbeats 1000000
namespace Own
open PySem L2
open Sx (Pb Tb Good Named Fe LV ZV piv lexP leastR leaveL sumN unit colV basis)
theorem lp (row k:Int):∀ t:List Int,bN row (t++[k])=bN row t+onI row k
 |[]=>by show onI row k+0=0+onI row k;lia
 |j::t=>by
  show onI row j+bN row (t++[k])=onI row j+bN row t+onI row k;rw[lp row k t];lia
theorem rh (row:Int):∀ t:List Int,0<=bN row t/\bN row t<=(t.length:Int)
 |[]=>⟨qb5 _,qb5 _⟩
 |j::t=>by
  have:=rh row t
  have e:bN row (j::t)=onI row j+bN row t:=rfl;rw[e,qaq];rcases wS row j with q|q<;>rw[q]<;>lia
theorem CO {b:Bool}{t:List Int}{k row:Int} (h:onI row k=0):aO b (t++[k]) row=if b=true then 0 else aO b t row:=by
 unfold aO;rw[lp,h,qaB,qbT]
 have:=rh row t
 cases b with
 |true=>rw[iFP U,iFP U,iFN (by lia)]
 |false=>rw[iFN qaE,iFN qaE,iFN qaE,qed]
theorem E9 {b:Bool}{t:List Int}{k row:Int} (h:onI row k=1):aO b (t++[k]) row=if b=true then aO b t row else - aO b t row:=by
 unfold aO;rw[lp,qaB,qbT];cases b with
 |true=>
  rw[iFP U,iFP U,iFP U];by_cases q:bN row t=(t.length)
  ·rw[iFP q,iFP (by lia)]
  ·rw[iFN q,iFN (by lia)]
 |false=>
  rw[iFN qaE,iFN qaE,iFN qaE];by_cases q:bN row t%2=1
  ·rw[iFP q,iFN (by lia)];rfl
  ·rw[iFN q,iFP (by lia)]
theorem qt {r q:Int}:∀ {t:List Int},(∀ k∈t,onI r k=onI q k)->bN r t=bN q t
 |[],_=>rfl
 |k::t,h=>by
  show onI r k+bN r t=onI q k+bN q t;rw[h k qag,qt λj a=>h j (qai _ a)]
theorem xu {b:Bool}{n r:Nat}{t:List Int} (h:t∈cu n):aO b t ((2^n+r:Nat):Int)=aO b t (r:Int):=by
 have e:bN ((2^n+r:Nat)) t=bN (r) t:=qt λk a=>by
  have hb:=(eI n h).2 k a;obtain⟨i,rfl⟩:=qcL (show 0<=k by lia);rw[pd,pd,Nat.testBit_two_pow_add_gt (by lia)]
 unfold aO;rw[e]
theorem t6 (b:Bool):∀ (n:Nat) (v:Nat->Int),(∀ t∈cu n,sumN (2^n) (λr=>v r*aO b t r)=0)->∀ r,r<2^n->v r=0
 |0,v,h,r,j=>by
  have:=h [] (by simp[cu])
  have e:sumN (2^0) (λr=>v r*aO b [] r)=v 0:=by
   show 0+v 0*aO b [] _=v 0;cases b<;>simp[aO,bN]
  rw[e]at this
  have:r=0:=by lia
  subst this;assumption
 |n+1,v,h,r,j=>by
  have i:2^(n+1)=2^n+2^n:=by lia
  have lo:=λt a=>by
   have:=h t (by exact qaX _ a)
   rw[i,Sx.sumN_append,Sx.sumN_congr (f:=λk=>v (2^n+k)*aO b t _) λk _=>by rw[xu a]]at this;exact this
  have hi:∀ t∈cu n,(if b=true then 0 else sumN (2^n) (λr=>v r*aO b t r))+(if b=true then sumN _ (λr=>v (2^n+r)*aO b t r) else - sumN (2^n) (λr=>v (2^n+r)*aO b t r))=0:=λt a=>by
   have:=h _ (by exact qau _ (qaD.mpr ⟨t,a,U⟩))
   rw[i,Sx.sumN_append,Sx.sumN_congr (f:=λk=>v (2^n+k)*aO b _ _) (g:=λk=>if b=true then v (2^n+k)*aO b t k else -1*(v (2^n+k)*aO b t k)) λk d=>by
     rw[E9 (by rw[pd,Nat.testBit_two_pow_add_eq,qgQ d];rfl),xu a];cases b
     ·lia
     ·rw[iFP U,iFP U],
    Sx.sumN_congr (g:=λk=>if b=true then 0 else v k*aO b t k) λk d=>by
     rw[CO (by rw[pd,qgQ d];rfl)];cases b
     ·rw[iFN qaE,iFN qaE]
     ·rw[iFP U,iFP U,qbc]]at this
   cases b
   ·simp only[qbm,if_false,Sx.sumN_mul]at this ⊢
    lia
   ·simp only[if_true,Sx.sumN_zero]at this ⊢
    exact this
  have c:(∀ r,r<2^n->v (2^n+r)=0)/\∀ r,r<2^n->v r=0:=by
   cases b with
   |true=>
    exact⟨(t6 true n _ λt a=>by have:=hi t a;lia),(t6 true n v λt a=>by have:=hi t a;have:=lo t a;lia)⟩
   |false=>
    exact⟨(t6 false n _ λt a=>by have:=hi t a;have:=lo t a;lia),(t6 false n v λt a=>by have:=hi t a;have:=lo t a;lia)⟩
  by_cases q:r<2^n
  ·exact c.2 r q
  ·have:=c.1 (r - 2^n) (by lia)
   rw[show 2^n+_=r by lia]at this;exact this
theorem AW {t:List Int}{k row:Int}:aO true (k::t) row=onI row k*aO true t row:=by
 unfold aO;have e:bN row (k::t)=onI row k+bN row t:=rfl;rw[qaq,iFP U]
 have:=rh row t
 rcases wS row k with q|q<;>rw[q]
 ·rw[iFN (by lia),qbD]
 ·by_cases z:bN row t=(t.length)
  ·rw[iFP z,iFP (by lia)];rfl
  ·rw[iFN z,iFN (by lia)];rfl
theorem AV {t:List Int}{k row:Int}:aO false (k::t) row=(1 - 2*onI row k)*aO false t row:=by
 unfold aO;have e:bN row (k::t)=onI row k+bN row t:=rfl;rw[e,iFN qaE,iFN qaE];rcases wS row k with q|q<;>rw[q]
 ·rw[qbW,show (1 - 2*0:Int)=1 from U,qcJ]
 ·by_cases z:bN row t%2=1
  ·rw[iFP z,iFN (by lia)];rfl
  ·rw[iFN z,iFP (by lia)];rfl
theorem toF (N:Nat) (v:Nat->Int):∀ (t:List Int) (h:Nat->Int),(∀ u:List Int,u.Sublist t->sumN N (λr=>v r*(aO true u r*h r))=0)->sumN N (λr=>v r*(aO false t r*h r))=0
 |[],h,a=>by
  have:=a [] (qdl _)
  rw[<-this];exact Sx.sumN_congr λr _=>rfl
 |k::t,h,a=>by
  have e:sumN N (λr=>v r*(aO false (k::t) r*h r))=sumN N (λr=>v r*(aO false t r*h r)) - 2*sumN N (λr=>v r*(aO false t r*(onI r k*h r))):=by
   rw[<-Sx.sumN_mul,<-Sx.sumN_sub];exact Sx.sumN_congr λr _=>by rw[AV];grind
  rw [e,(toF N v t h λu q=>a u (q.cons k)),(toF N v t _ λu q=>by
   rw[<-a _ (q.cons₂ k)]
   exact Sx.sumN_congr λr _=>by rw[AW];grind)];rfl
theorem toT (N:Nat) (v:Nat->Int):∀ (t:List Int) (h:Nat->Int),(∀ u:List Int,u.Sublist t->sumN N (λr=>v r*(aO false u r*h r))=0)->sumN N (λr=>v r*(aO true t r*h r))=0
 |[],h,a=>by
  have:=a [] (qdl _)
  rw[<-this];exact Sx.sumN_congr λr _=>rfl
 |k::t,h,a=>by
  have b:=toT N v t (λr=>(1 - 2*onI r k)*h r) λu q=>by
   rw[<-a _ (q.cons₂ k)];exact Sx.sumN_congr λr _=>by rw[AV];grind
  have e:2*sumN N (λr=>v r*(aO true (k::t) r*h r))=sumN N (λr=>v r*(aO true t r*h r)) - sumN N (λr=>v r*(aO true t r*((1 - 2*onI r k)*h r))):=by
   rw[<-Sx.sumN_mul,<-Sx.sumN_sub];exact Sx.sumN_congr λr _=>by rw[AW];grind
  rw[(toT N v t h λu q=>a u (q.cons k))]at e;lia
theorem FX {N:Nat}{v:Nat->Int}{t:List Int} (b c:Bool) (a:∀ u:List Int,u.Sublist t->sumN N (λr=>v r*aO b u r)=0):sumN N (λr=>v r*aO c t r)=0:=by
 have d:∀ (b:Bool) (u:List Int),sumN N (λr=>v r*(aO b u r*(λ_=>_) r))=sumN N _:=λb u=>Sx.sumN_congr λr _=>by rw[qc3]
 cases b with
 |true=>
  cases c with
  |true=>exact a t (qdl _)
  |false=>rw[<-d];exact toF N v t _ λu q=>by rw[d];exact a u q
 |false=>
  cases c with
  |true=>rw[<-d];exact toT N v t _ λu q=>by rw[d];exact a u q
  |false=>exact a t (qdl _)
theorem nH:∀ (n:Nat) {t u:List Int},t∈cu n->u.Sublist t->u∈cu n
 |0,t,u,h,a=>by
  rw[cu,qal]at h;subst h;rw[qfD.mp a];simp[cu]
 |n+1,t,u,h,a=>by
  rcases qaO.mp h with h|h
  ·exact qaX _ (nH n h a)
  ·obtain⟨t',d,rfl⟩:=qaD.mp h
   obtain⟨g,b,rfl,c,e⟩:=List.sublist_append_iff.mp a
   have:=nH n d c
   have f:b=[]\/b=[(n:Int)]:=by
    cases e with
    |cons _ h=>exact .inl (qfD.mp h)
    |cons_cons _ h=>exact .inr (by rw[qfD.mp h])
   rcases f with rfl|rfl
   ·rw[qbf];exact qaX _ this
   ·exact qau _ (qaD.mpr ⟨g,this,U⟩)
end Own
set_option maxHeartbeats 1000000
namespace Own
open PySem L2
open Sx (Pb Tb Good Named Fe LV ZV piv lexP leastR leaveL sumN unit colV basis)
theorem so (f:Nat->Int):∀ n,((qak n).map f).sum=sumN n f
 |0=>rfl
 |n+1=>by
  rw[qdW,qbp,List.sum_append,so f n];show _+(f n+0)=sumN n f+f n;lia
theorem Ac {l m:List Int} (h:l.Perm m):l.sum=m.sum:=by
 induction h with
 |nil=>rfl
 |cons x _ c=>rw[qcq,qcq,c]
 |swap x y l=>rw[qcq,qcq,qcq,qcq];lia
 |trans _ _ a b=>exact a.trans b
theorem wR (X g:List Int->Int):∀ ks:List (List Int),((aZ ks X).map λp=>p.2*g p.1).sum=(ks.map λt=>X t*g t).sum
 |[]=>rfl
 |t::ks=>by
  have a:=wR X g ks;unfold aZ at a ⊢;rw[qet,qaw,qcq];by_cases h:X t=0
  ·rw[iFN (by simp[h]),a,h,qbD,qbW]
  ·rw[iFP (by simp[h]),qaw,qaw,qcq,a]
theorem zU (X g:List Int->Int) (ts:List (List Int)):((aZ (ax ts) X).map λp=>p.2*g p.1).sum=sumN ts.length λt=>X (ts.getD t [])*g (ts.getD t []):=by
 rw[wR,Ac ((aK ts).map λt=>X t*g t),jo [] _ ts,so]
theorem uX (g:Nat->Int):∀ (r:List D) (k:Nat),((bC k r).map λj=>g j.toNat).sum=sumN r.length λj=>if cw (r.getD j .non)=true then 0 else g (k+j)
 |[],k=>rfl
 |d::r,k=>by
  rw[qaq,qeS r.length 1,Sx.sumN_append];have b:(sumN r.length λj=>if cw ((d::r).getD (1+j) .non)=true then 0 else g (k+(1+j)))=sumN r.length λj=>if cw _=true then 0 else g _:=Sx.sumN_congr λj _=>by
   rw[qeS 1 j,qbR,show k+_=k+1+j by lia]
  have c:(sumN 1 λj=>if cw ((d::r).getD j .non)=true then 0 else g (k+j))=if cw d=true then 0 else g k:=by
   show (0)+_=_;rw[qbW];rfl
  rw[b,c,<-(uX g r _)];have a:(((k:Int)::bC (k+1) r).map λj=>g j.toNat).sum=g k+((bC (k+1) r).map λj=>g j.toNat).sum:=by
   rw[qaw,qcq,qbe]
  cases d<;>first|exact (qbW _).symm|exact a
theorem pJ:∀ (r:List D) (k j:Nat),j<r.length->r.getD j .non≠.non->((k+j:Nat):Int)∈bC k r
 |[],_,_,h,_=>absurd h (qc1 _)
 |d::r,k,0,_,hn=>by
  have:_∈(k:Int)::bC (k+1) r:=qag
  cases d<;>first|exact absurd U hn|exact this
 |d::r,k,j+1,h,hn=>by
  have a:=pJ r (k+1) j (by rw[qaq]at h;lia) (by exact hn);rw[show k+1+j=k+(j+1) by lia]at a;cases d<;>first|exact a|exact qai _ a
section
variable {fs:List D}{b:Bool}{ts:List (List Int)}{X:List Int->Int}{w:Nat->Int}
theorem Cy (h:Spl fs ts) (S:ik fs b ts X w) {t:List Int} (g:t∈ts):sumN fs.length (sR fs λr=>w r*sgD (fs.getD r .non)*aO b t r)=0:=by
 obtain⟨j,k,rfl⟩:=kR g;have e:=uX (λr=>w r*sgD (fs.getD r .non)*aO b (ts.getD j []) r) fs 0;rw[jo 0 _ _,so]at e;have c:sumN fs.length (sR fs λr=>w r*sgD _*aO b _ r)=sumN fs.length λr=>if cw _=true then 0 else w (0+r)*sgD (fs.getD (0+r) .non)*aO b (ts.getD j []) ((0+r:Nat)):=Sx.sumN_congr λr _=>by rw[qbj];rfl
 rw[c,<-e];refine Eq.trans (Sx.sumN_congr λi hi=>?_) (S.bal j k);show w (rN fs i)*sgD (fs.getD (rN fs i) .non)*aO b _ (rN fs i)=sgD (fs.getD (rN fs i) .non)*aO b _ _*w _;rw[((qE h hi).1),qbr,qaZ]
theorem mP (h:Spl fs ts) (S:ik fs b ts X w) {r:Nat} (d:r<fs.length) (hn:fs.getD r .non≠.non):0<=(sumN ts.length λt=>X (ts.getD t [])*aO b (ts.getD t []) r)*sgD (fs.getD r .non)/\((sumN ts.length λt=>X (ts.getD t [])*aO b (ts.getD t []) r)*sgD (fs.getD r .non)=0↔w r≠0):=by
 have hm:=pJ fs 0 r d hn;rw[qbj]at hm;obtain⟨i,hi,e⟩:=qcy.mp hm;have a:k7 fs i=(r):=by
  unfold k7;rw[qaA,qam hi];exact e
 have f:rN fs i=r:=by unfold rN;rw[a,qbe]
 have v:=S.val i hi;rw[f]at v;have l:(sumN ts.length λt=>X (ts.getD t [])*spV fs b ts i t)=(sumN ts.length λt=>X (ts.getD t [])*aO b (ts.getD t []) r)*sgD (fs.getD r .non):=by
  rw[<-Sx.sumN_right];refine Sx.sumN_congr λt _=>?_;unfold spV;rw[a,qbe,qaZ (sgD _),qbr]
 rw[l]at v;exact v
end
theorem jJ:∀ n:Nat,(cu n).Nodup
 |0=>by simp[cu]
 |n+1=>by
  rw[cu,qcB];refine⟨jJ n,?_,?_⟩
  ·refine qiH _ (λa b c=>?_) (jJ n)
   intro e;exact c (List.append_cancel_right e)
  ·intro a d b hb e
   subst e;obtain⟨t,_,rfl⟩:=qaD.mp hb
   have:=(eI n d).2 _ (qau _ (qal.mpr U))
   lia
theorem xY {fs:List D}{ts:List (List Int)}{n:Int} (e:0<=n) (f:n<=4) (fl:fs.length=2^n.toNat) (fv:∀ u∈fs,du u) (a:ts.Sublist (ax (cu n.toNat))):Spl fs ts:=by
 have b:2^n.toNat<=16:=qaV (qbk (by decide) (by lia:n.toNat<=4)) (by decide);refine⟨by lia,fv,?_,λt c=>?_,((aK _).nodup_iff.mpr (jJ _)).sublist a⟩
 ·have:=a.length_le
  rw[(aK _).length_eq,ke]at this;lia
 ·have hm:=eI _ ((aK _).mem_iff.mp (a.subset c))
  have g:=sv hm;exact⟨λk d=>by have:=hm.2 k d;lia,by lia⟩
theorem Di {a b:Ef}{env:Ev}{st s s':Sto}{x:W} (c:a env st=some (.d (.bl true),s)) (hb:b env s=some (x,s')):nK a b env st=some (x,s'):=by
 simp only[nK,c,hb,qaa,blW,if_true]
theorem sum0:∀ {n:Nat}{f:Nat->Int},(∀ k,k<n->0<=f k)->sumN n f=0->∀ k,k<n->f k=0
 |0,_,_,_,k,a=>absurd a (by lia)
 |n+1,f,h,e,k,a=>by
  have c:sumN n f+f n=0:=e;have d:=Sx.sumN_nonneg (n:=n) λj b=>h j (by lia);have g:=h n (by lia);by_cases q:k=n
  ·lia
  ·exact sum0 (n:=n) (λj b=>h j (by lia)) (by lia) k (by lia)
theorem EY (s:Sto) (n:Nat) (w:Nat->Int):za s [.d (.tup (mpI n w))]=some (.int (sumN n w)):=by
 rw[<-so,bK];show (aT _).map _=_;rw[be];rfl
section
variable {fs:List D}{b:Bool}{ts:List (List Int)}{X:List Int->Int}{w v:Nat->Int}
structure Brd (fs:List D) (b:Bool) (ts:List (List Int)) (w:Nat->Int):Prop where
 nn:∀ r,r<fs.length->0<=w r
 un:∀ r,r<fs.length->fs.getD r .non=.non->w r=0
 bl:∀ t∈ts,sumN fs.length (sR fs λr=>w r*sgD (fs.getD r .non)*aO b t r)=0
theorem qW (h:Spl fs ts) (S:ik fs b ts X w):Brd fs b ts w:=⟨λr a=>(S.w0 r a).1,S.wn,λt c=>Cy h S c⟩
theorem C0 (h:Spl fs ts) (S:ik fs b ts X w) {f:List (List Int)} (B:Brd fs b f v) (g:∀ t∈ts,X t=0\/t∈f):∀ r,r<fs.length->fs.getD r .non≠.non->v r=0\/w r≠0:=by
 have e:sumN fs.length (sR fs λr=>v r*((sumN ts.length λt=>X (ts.getD t [])*aO b (ts.getD t []) r)*sgD (fs.getD r .non)))=0:=by
  have l:∀ r,r<fs.length->sR fs (λr=>v r*((sumN ts.length λt=>X (ts.getD t [])*aO b (ts.getD t []) r)*sgD (fs.getD r .non))) r=sumN ts.length λt=>X (ts.getD t [])*sR fs (λr=>v r*sgD (fs.getD r .non)*aO b (ts.getD t []) r) r:=λr _=>by
   unfold sR;by_cases q:cw (fs.getD r .non)=true
   ·rw[iFP q,Sx.sumN_congr λt _=>by rw[iFP q,qbc],Sx.sumN_zero]
   ·rw[iFN q]
    show v r*_=_;rw[<-Sx.sumN_right,<-Sx.sumN_mul]
    grind
  rw[Sx.sumN_congr l,Sx.sumN_swap,Sx.sumN_congr λt c=>?_,Sx.sumN_zero];rw[Sx.sumN_mul];rcases g (ts.getD t []) (by rw[qaA,qam c];exact qbQ c) with q|q
  ·rw[q,qbD]
  ·rw[B.bl _ q,qbc]
 intro r a q
 have:=(sum0 (λr a=>by
  unfold sR;split
  ·exact qb5 _
  ·rename_i q
   exact qeh (B.nn r a) (mP h S a λe=>q (by rw[e];rfl)).1) e) r a
 unfold sR at this;rw[iFN (Ga q)]at this;exact (qcn.mp this).imp id (mP h S a q).2.mp
theorem FA (h:Spl fs ts) (S:ik fs b ts X w) (hw:∀ r,r<fs.length->w r=0) {f:List (List Int)} (B:Brd fs b f v) (g:∀ t∈ts,X t=0\/t∈f):∀ r,r<fs.length->v r=0:=λr a=>by
 by_cases q:fs.getD r .non=.non
 ·exact B.un r a q
 ·exact (C0 h S B g r a q).resolve_right λy=>y (hw r a)
theorem C1 {n:Nat} (m:fs.length=2^n) (i:∀ t∈cu n,t∈ts) (B:Brd fs b ts v):∀ r,r<fs.length->v r=0:=by
 intro r a;by_cases q:fs.getD r .non=.non
 ·exact B.un r a q
 ·have:=(t6 b n (sR fs λr=>v r*sgD _) λt c=>by
  rw[<-B.bl t (i t c),m];refine Sx.sumN_congr λr _=>?_;unfold sR;split
  ·rw[qbD]
  ·rfl) r (by lia)
  unfold sR at this;rw[iFN (Ga q)]at this;rcases qcn.mp this with y|y
  ·exact y
  ·rcases AI with k|k<;>rw[k]at y<;>cases y
def nzW (n:Nat) (w:Nat->Int):Bool:=((qak n).map w).any λx=>decide (x≠0)
theorem Hg {n:Nat} (h:nzW n w=false):∀ r,r<n->w r=0:=λr a=>by
 unfold nzW at h;rw[qft]at h
 have:=h _ (qaD.mpr ⟨r,qaR.mpr a,U⟩)
 exact qcp λq=>this (decide_eq_true q)
theorem Gb {n:Nat} (h:nzW n w=true):¬ ∀ r,r<n->w r=0:=λz=>by
 obtain⟨x,g,q⟩:=qeu.mp h;obtain⟨r,a,rfl⟩:=qaD.mp g;exact of_decide_eq_true q (z r (qaR.mp a))
theorem Fo (s:Sto) (n:Nat) (w:Nat->Int):DC s [.d (.tup (mpI n w))]=some (.bl (nzW n w)):=by
 rw[bK];show (aT _).map _=_;rw[be];rfl
def pF (fs:List D) (b:Bool) (ts:List (List Int)) (X:List Int->Int) (w:Nat->Int):D:=if nzW fs.length w=true then .tup [.str "bar",.tup (mpI fs.length w)] else .tup [.str "poly",bn (aE b) (aZ (ax ts) X)]
theorem qF (h:Spl fs ts):∃ X w,ik fs b ts X w/\∀ st:Sto,∃ u,kO [.d (.tup fs),.d (.str (aE b)),.d (tsD ts)] st=some (.d (pF fs b ts X w),st++u):=by
 obtain⟨X,w,S,i⟩:=pH h;refine⟨X,w,S,λst=>?_⟩;obtain⟨u,e⟩:=i st;refine⟨u,?_⟩;have j:=Fo (st++u) fs.length w;unfold pF;generalize nzW fs.length w=z at *;cases z with
 |true=>
  exact av U (ai (aj (ag U e)) (fC (ca (qc (aG (ab (ac U U (f8 _ _ _)) U) j)) U)))
 |false=>
  exact av U (ai (aj (ag U e)) (ai (bh (qc (aG (ab (ac U U (f8 _ _ _)) U) j)) U) U))
end
section
variable {fs:List D}{b c:Bool}{n:Nat}{v:Nat->Int}
theorem lR {t:List Int}{m:Int}:t∈bx n m↔t∈cu n/\(t.length:Int)<=m:=by
 unfold bx xF;rw[qbN,(aK _).mem_iff]
 simp
theorem pK {t:List Int}{m d:Int} (h:t∈bx n m) (hm:m<=d):t∈bx n d:=by
 rw[lR]at h ⊢;exact⟨h.1,by lia⟩
theorem uY {t:List Int} (h:t∈cu n):t∈bx n n:=by
 rw[lR]
 have:=sv (eI n h)
 exact⟨h,by lia⟩
theorem ck {m:Int} (hn:n<=4) (fl:fs.length=2^n) (fv:∀ u∈fs,du u):Spl fs (bx n m):=by
 exact (xY (n:=(n)) (by lia) (by lia) (by exact fl) fv (by exact qe1))
theorem ug {m:Int} (fl:fs.length=2^n) (B:Brd fs b (bx n m) v):Brd fs c (bx n m) v:=by
 have e:∀ (b:Bool) (t:List Int),sumN fs.length (sR fs λr=>v r*sgD _*aO b t r)=sumN fs.length λr=>(sR fs λr=>v r*sgD (fs.getD r .non)) r*aO b t r:=λb t=>Sx.sumN_congr λr _=>by
  unfold sR;split
  ·rw[qbD]
  ·rfl
 refine⟨B.nn,B.un,λt f=>?_⟩;rw[e];refine FX b c λu a=>?_;rw[<-e];rw[lR]at f
 have:=a.length_le
 exact B.bl u (lR.mpr ⟨nH n f.1 a,by lia⟩)
end
end Own
set_option maxHeartbeats 1000000
namespace Own
open PySem L2
open Sx (Pb Tb Good Named Fe LV ZV piv lexP leastR leaveL sumN unit colV basis)
theorem u4 {c:Tf}{b:Sf}{n:Nat}{env:Ev}{st s:Sto} (h:c env st=some (false,s)):bE c b (n+1) env st=some (.nx env s):=by
 unfold bE;rw[h,qaa,iFN qaE]
theorem A1 {c:Tf}{b:Sf}{n:Nat}{env e:Ev}{st s a:Sto} (h:c env st=some (true,s)) (hb:b env s=some (.nx e a)):bE c b (n+1) env st=bE c b n e a:=by
 rw[bE,h,qaa,iFP U,hb,qaa]
theorem CI {st:Sto}{f:D}{L:Int}{n:Nat} (o:L=((2^n:Nat):Int)) (i:∀ s,a8 s [.d f]=some (.int L)):∀ (g j b:Nat) (a:Int),j+g=n->n<=60->g<b->bE cm dN b [Z f,Z (.int a),Z (.int ((2^j:Nat):Int))] st=some (.nx [Z f,Z (.int (a+g)),Z (.int ((2^n:Nat):Int))] st):=by
 intro g
 induction g with
 |zero=>
  intro j b a p hn c;obtain⟨k,rfl⟩:∃ k,b=k+1:=⟨b - 1,by lia⟩;have e:j=n:=by lia
  subst e;have h:cm [Z f,Z (.int a),Z (.int ((2^j:Nat)))] st=some (false,st):=by
   refine ak U (aG U (i st)) ?_;show some _=_;rw[o];simp
  rw[u4 h]
  simp
 |succ g q=>
  intro j b a p hn c;obtain⟨k,rfl⟩:∃ k,b=k+1:=⟨b - 1,by lia⟩;have l:2^j<2^n:=qg7 (by decide) (by lia);have h:cm [Z f,Z (.int a),Z (.int ((2^j:Nat)))] st=some (true,st):=by
   refine ak U (aG U (i st)) ?_;show some _=_;rw[decide_eq_true (by lia)]
  have m:((2^(j+1):Nat))=((2^j:Nat):Int)*2:=by rfl
  have hb:dN [Z f,Z (.int a),Z (.int ((2^j:Nat)))] st=some (.nx [Z f,Z (.int (a+1)),Z (.int ((2^(j+1):Nat)))] st):=by
   rw[m];refine gT (aj (ac U U ?_)) U;show (if qgv _ 2 then some _ else none)=_;rw[iFP (gQ (by decide))]
  rw[A1 h hb,(q _ k _ (by lia) hn (by lia))];have r:a+1+(g)=a+((g+1:Nat)):=by lia
  rw[r]
theorem v4 {st:Sto}{n m:Int} (E:0<=n) (I:n<=5) (m0:0<=m):cI [.d (.int n),.d (.int m)] st=some (.d (.tup (((xF n.toNat).filter λt=>decide ((t.length:Int)<=m)).map ao)),st):=by
 obtain⟨q,f,k,o,rfl,rfl⟩:=bH (g:=.nm 3) (body:=kL) (ds:=bi 0 n.toNat) (λi env s=>∃ o,env=[Z (.int n),Z (.int m),Z (.lst ((dU m i).map ao)),o]/\s=st)
  ⟨none,U,U⟩ (λi d env s hd ⟨o,e,es⟩=>by
   subst e es;obtain⟨rfl,hi⟩:=mO hd;have p:(dU m i).length<=64:=qaV (tL m m0 i) (qaV (qbk (by decide) (by lia:i<=6)) (by decide));have c:lcI (.nm 0) k9 j9 [none,Z (.int m),Z (.int i)] ((dU m i).map ao) s =
     some ((((dU m i).map ao).filter λd=>match d with|.tup ds=>decide ((ds.length:Int)<m)|_=>false).map λd=>match d with|.tup ds=>.tup (ds++[.int i])|d=>d,s):=iU _ _ λd hd=>by
    obtain⟨t,h,rfl⟩:=qaD.mp hd
    have u:=(λt r=>by
    rw[mG m m0]at r
    exact sv (eI i (qbN.mp r).1)) t h
    have C:(t.map D.int).length+1<=1000000:=by rw[qah];lia
    exact⟨_,U,ak (aG U U) U U,λ_=>ac U (bV (ab U U) U (by show 1<=1000;decide)) (mU _ C)⟩
   have F:((((dU m i).map ao).filter λd=>match d with|.tup ds=>decide ((ds.length)<m)|_=>false).map λd=>match d with|.tup ds=>.tup (ds++[.int i])|d=>d) =
     (((dU m i).filter λt=>decide ((t.length)<m)).map λt=>t++[(i:Int)]).map ao:=by
    rw[qfX,qaP,qaP];have w:((λd=>match d with|.tup ds=>decide ((ds.length)<m)|_=>false) ∘ ao)=λt=>decide ((t.length)<m):=by
     funext t
     show decide _=_;rw[qah]
    rw[w];refine qcm λt _=>?_;show D.tup _=D.tup _;rw[qbp];rfl
   rw[F]at c;have H:(dU m (i+1)).map ao=(dU m i).map ao++(((dU m i).filter λt=>decide ((t.length)<m)).map λt=>t++[(i:Int)]).map ao:=by rw[dU,qbp]
   have v:((dU m i).map ao).length<=1000000:=by rw[qah];lia
   have G:((dU m i).map ao).length+((((dU m i).filter λt=>decide ((t.length)<m)).map λt=>t++[(i:Int)]).map ao).length<=1000000:=by
    have:=qb9 (λt=>decide ((t.length)<m)) (dU m i)
    simp only[qah];lia
   refine⟨_,[some _,some _,some _,Z (.int i)],s,U,.inl ?_,_,U,U⟩;rw[H]
   exact aj (ac U (ar (aL (aS U) v c)) (eB _ G)))
 rw[c8]at k;have p:((dU m n.toNat).map ao).length<64:=by
  rw[qah];exact qbF (tL m m0 _) (qbF (qbk (by decide) (by lia:n.toNat<=5)) (by decide))
 have l:qG ((dU m n.toNat).map ao)=some (((xF n.toNat).filter λt=>decide ((t.length)<=m)).map ao):=by
  have z:ax (dU m n.toNat)=(xF n.toNat).filter λt=>decide ((t.length)<=m):=by rw[mG m m0,jB];rfl
  rw[qH,z]
 generalize (dU m n.toNat).map ao=A at k p l;generalize ((xF n.toNat).filter λt=>decide (_<=m)).map ao=B at l ⊢;have j:iQ f [.d (.lst A)]=some B:=by
  show (if A.length<64 then qG A else none)=_;rw[iFP p,l]
 have y:iCL iQ (aa (iV 2) ae) [Z (.int n),Z (.int m),Z (.lst A),o] f=some (B,f):=by
  simp only[iCL,(ab (a:=iV 2) (b:=ae) (env:=[Z (.int n),Z (.int m),Z (.lst A),o]) (st:=f) (x:=.d (.lst A)) U U),qaa,j,qao]
 exact av U (gT (aj (ar (w6 (ab (bV U U (by decide)) U) U (by decide)))) (gT (bq (dM U E (by lia) U) k) (aF (aG (ab (ar y) U) U))))
section
variable {fs:List D}{b:Bool}{n:Nat}
theorem AQ {st:Sto} (p:fs.length=2^n) (hn:n<=4):dm [.d (.tup fs)] st=some (.d (.int (n:Int)),st):=by
 have e:=CI (st:=st) (f:=.tup fs) U (λs=>by
  show some (D.int _)=_
  rw[p]) n 0 (2^8000) 0 (by lia) (by lia) (qaS (show n<2^3 by lia) (qbk (by decide) (by decide)))
 rw[qbW]at e;exact av U (ai (aj U) (ai (aj U) (ai e U)))
theorem sw {st:Sto}{d:Nat} (hn:n<=4):cI [.d (.int (n:Int)),.d (.int (d:Int))] st=some (.d (tsD (bx n d)),st):=by
 exact (v4 (by lia) (by lia) (by lia))
def qi (fs:List D) (b:Bool) (n d:Nat) (e:D):Prop:=(d=0/\e=.non)\/(d≠0/\∃ v,e=.tup (mpI fs.length v)/\Brd fs b (bx n ((d:Int) - 1)) v/\¬ ∀ r,r<fs.length->v r=0)
theorem BF (hn:n<=4) (fl:fs.length=2^n) (fv:∀ u∈fs,du u):∀ (g j a:Nat) (X:List Int->Int) (w:Nat->Int) (e:D),j+g=n->g<a->ik fs b (bx n j) X w->qi fs b n j e->
  ∃ (d:Nat) (X':List Int->Int) (c:Nat->Int) (h:D),ik fs b (bx n d) X' c/\nzW fs.length c=false/\qi fs b n d h/\d<=n/\∀ st:Sto,∃ u:Sto,bE fH gu a [Z (.tup fs),Z (.str (aE b)),Z (.int (n:Int)),Z e,Z (.int (j:Int)),Z (pF fs b (bx n j) X w)] st=some (.nx [Z (.tup fs),Z (.str (aE b)),Z (.int (n:Int)),Z h,Z (.int (d:Int)),Z (pF fs b (bx n d) X' c)] (st++u)):=by
 intro g
 induction g with
 |zero=>
  intro j a X w e H p S B;obtain⟨k,rfl⟩:∃ k,a=k+1:=⟨a - 1,by lia⟩;have y:j=n:=by lia
  subst y;have z:nzW fs.length w=false:=by
   cases q:nzW fs.length w with
   |false=>rfl
   |true=>exact absurd (C1 fl (λt G=>uY G) (qW (ck hn fl fv) S)) (Gb q)
  refine⟨j,X,w,e,S,z,B,qap _,λst=>⟨[],?_⟩⟩;rw[qbf];refine u4 ?_;unfold pF;rw[z];exact ak (ac U U (iO _ _ _)) U U
 |succ g I=>
  intro j a X w e H p S B;obtain⟨k,rfl⟩:∃ k,a=k+1:=⟨a - 1,by lia⟩;cases z:nzW fs.length w with
  |false=>
   refine⟨j,X,w,e,S,z,B,by lia,λst=>⟨[],?_⟩⟩;rw[qbf];refine u4 ?_;unfold pF;rw[z];exact ak (ac U U (iO _ _ _)) U U
  |true=>
   obtain⟨X2,w2,S2,o⟩:=qF (b:=b) (ck (m:=((j+1:Nat):Int)) hn fl fv);obtain⟨d,X',c,h,S',E,B',hd,l⟩:=I (j+1) k X2 w2 (.tup (mpI fs.length w)) (by lia) (by lia) S2 (.inr ⟨by lia,w,U,by rw[show (((j+1:Nat):Int) - 1)=(j:Int) by lia];exact (qW (ck hn fl fv) S),Gb z⟩);refine⟨d,X',c,h,S',E,B',hd,λst=>?_⟩;obtain⟨J,C⟩:=o st;obtain⟨u,K⟩:=l _;refine⟨J++u,?_⟩;rw[<-qbB,<-K];refine A1 (s:=st) ?_ ?_
   ·unfold pF
    rw[z];exact ak (ac U U (iO _ _ _)) U U
   ·have i:pF fs b (bx n j) X w=.tup [.str "bar",.tup (mpI fs.length w)]:=by unfold pF;rw[iFP z]
    rw[i];have y:((j)+1)=((j+1)):=by lia
    exact ai (aj (ac U U (f8 _ _ _))) (ai (aj (ac U U U)) (aj (ag (ab U (ab U (ab (ag (ab U (ab U U)) (sw (st:=st) (d:=j+1) hn)) U))) C)))
theorem FZ (hn:n<=4) (fl:fs.length=2^n) (fv:∀ u∈fs,du u):∃ (d:Nat) (X:List Int->Int) (w:Nat->Int) (e:D),ik fs b (bx n d) X w/\nzW fs.length w=false/\qi fs b n d e/\d<=n/\∀ st:Sto,∃ u:Sto,b9 [.d (.tup fs),.d (.str (aE b))] st=some (.d (.tup [.int (d:Int),bn (aE b) (aZ (ax (bx n d)) X),e]),st++u):=by
 obtain⟨X0,w0,S0,o⟩:=qF (ck hn fl fv);obtain⟨d,X,w,e,S,z,B,hd,l⟩:=BF hn fl fv n 0 (2^8000) X0 w0 .non (by lia) (qaS (show n<2^3 by lia) (qbk (by decide) (by decide))) S0 (.inl ⟨U,U⟩);refine⟨d,X,w,e,S,z,B,hd,λst=>?_⟩;obtain⟨x,F⟩:=o st;obtain⟨u,A⟩:=l (st++x);refine⟨x++u,?_⟩;rw[<-qbB];have i:pF fs b (bx n d) X w=.tup [.str "poly",bn (aE b) (aZ (ax (bx n d)) X)]:=by unfold pF;rw[z,iFN qaE]
 rw[i]at A;exact av U (ai (aj (ag U (AQ fl hn))) (ai (aj U) (ai (aj U) (ai (aj (ag (ab U (ab U (ab (ag (ab U (ab U U)) (sw (st:=st) (d:=0) hn)) U))) F)) (ai A (aF (bV (ab U (ab (ac U U (f8 _ _ _)) (ab U U))) U (by show 3<=1000;decide))))))))
end
end Own
set_option maxHeartbeats 1000000
namespace Own
open PySem L2
open Sx (Pb Tb Good Named Fe LV ZV piv lexP leastR leaveL sumN unit colV basis)
section
variable {fs:List D}{b:Bool}{n:Nat}{X:List Int->Int}{w:Nat->Int}
theorem vR {ts:List (List Int)} (h:Spl fs ts):(aZ (ax ts) X).length<=16:=by
 unfold aZ;rw[qah]
 have:=qb9 (λt=>decide (X t≠0)) (ax ts)
 rw[(aK _).length_eq]at this
 have:=h.tl
 lia
theorem wQ {ts:List (List Int)}{p:Prt} (c:p∈aZ (ax ts) X):p.1∈ts:=(aK _).mem_iff.mp (uz c).1
theorem Fq {ts:List (List Int)}{st:Sto} (h:Spl fs ts) (r:Nat):lK [.d (bn (aE b) (aZ (ax ts) X)),.d (.int (r:Int))] st=some (.d (.int (sumN ts.length λt=>X (ts.getD t [])*aO b (ts.getD t []) r)),st):=by
 have i:=vR (X:=X) h;have a:lcI (.tp [0,1]) aJ lX [none,none,Z (bn (aE b) (aZ (ax ts) X)),Z (.int (r))] ((aZ (ax ts) X).map bQ) st=some (((aZ (ax ts) X).map λp=>p.2*aO b p.1 r).map D.int,st):=by
  rw[qaP];exact oB (g:=λp:Prt=>(ao p.1,D.int p.2)) _ λp c=>by
   have k:=h.tt _ (wQ c);have l:=xr b p.1 (r);exact ac U (ag (ab (ac U U (iO _ _ _)) (ab U (ab U U))) (wL (by lia) k.1 (by lia))) (bL st (gQ (by lia)))
 have j:=xk st ((aZ (ax ts) X).map λp=>p.2*aO b p.1 r);rw[(zU X (λt=>aO b t r) ts)]at j;have e:((aZ (ax ts) X).map bQ).length<=1000000:=by rw[qah];lia
 exact av U (aF (aG (ab (ar (aL (bo (ac U U (f8 _ _ _))) e a)) U) j))
theorem DE {ts:List (List Int)}{st:Sto} (h:Spl fs ts):fP [.d (bn (aE b) (aZ (ax ts) X))] st=some (.d (.int (gO ((aZ (ax ts) X).map λp=>((p.1.length:Nat):Int)) 0)),st):=by
 have i:=vR (X:=X) h;have a:lcI (.tp [0,1]) aJ dF [none,none] ((aZ (ax ts) X).map bQ) st=some (((aZ (ax ts) X).map λp=>((p.1.length))).map D.int,st):=by
  rw[qaP];exact oB (g:=λp:Prt=>(ao p.1,D.int p.2)) _ λp c=>by
   have:dF [Z (ao p.1),Z (.int p.2)] st=some (.d (.int _),st):=rfl
   rw[qah]at this;exact this
 have hm:dMx st [.d (.lst (.int 0::((aZ (ax ts) X).map λp=>((p.1.length))).map D.int))]=some (.int (gO ((aZ (ax ts) X).map λp=>((p.1.length))) 0)):=by
  show (aT ((0::(aZ _ X).map λp=>_).map D.int)).bind _=_;rw[be];rfl
 have e:((aZ (ax ts) X).map bQ).length<=1000000:=by rw[qah];lia
 have f:[D.int 0].length+(((aZ (ax ts) X).map λp=>((p.1.length))).map D.int).length<=1000000:=by rw[qah,qah];show 1+_<=_;lia
 exact av U (aF (aG (ab (ac U (ar (aL (bo (ac U U (f8 _ _ _))) e a)) (eB _ f)) U) hm))
end
end Own
set_option maxHeartbeats 1000000
namespace Own
open PySem L2
open Sx (Pb Tb Good Named Fe LV ZV piv lexP leastR leaveL sumN unit colV basis)
theorem yi (s:Sto) (a b c:D):dIx s (.d (.tup [a,b,c])) (.d (.int 0))=some a:=rfl
theorem FQ (s:Sto) (a b c:D):dIx s (.d (.tup [a,b,c])) (.d (.int 1))=some b:=rfl
theorem FR (s:Sto) (a b c:D):dIx s (.d (.tup [a,b,c])) (.d (.int 2))=some c:=rfl
section
variable {fs:List D}{b:Bool}{n:Nat}{X:List Int->Int}{w:Nat->Int}
theorem Bn {st:Sto}{d:Nat}{e:D} (hn:n<=4) (fl:fs.length=2^n) (fv:∀ u∈fs,du u) (B:qi fs b n d e):iX [.d (.tup fs),.d (.str (aE b)),.d (.int (n:Int)),.d (.int (d:Int)),.d e] st=some (.d (.bl true),st):=by
 have s:2^n<=16:=qaV (qbk (by decide) hn) (by decide);have o:∀ (x:D),aC dEq (iV 3) (iC _) [Z (.tup fs),Z (.str (aE b)),Z (.int (n)),some _,Z x] st=some (((d:Int)==0),st):=λx=>ak U U (cr _ _ _);rcases B with⟨i,rfl⟩|⟨i,v,rfl,B,p⟩
 ·have c:=o .non
  rw[show ((d:Int)==0)=true by rw[i];rfl]at c;exact av U (fC (ca c U))
 ·have c:=o (.tup (mpI fs.length v))
  rw[show ((d:Int)==0)=false by simpa using i]at c;have k:0<sumN fs.length v:=by
   rcases qeb (Sx.sumN_nonneg B.nn) with q|q
   ·exact q
   ·exact absurd (sum0 B.nn q.symm) p
  have h:dEq st (.d (.int (sumN fs.length v))) (.d (.int 0))=some (.bl false):=by
   rw[cr,show (sumN fs.length v==0)=false by lia]
  have S:=ck (m:=(d:Int) - 1) hn fl fv;have r:=S.tl;have f:lcI (.nm 0) aJ fL [none,Z (.tup fs),Z (.str (aE b)),Z (.tup (mpI fs.length v))] ((bx n ((d:Int) - 1)).map ao) st=some (((bx n ((d:Int) - 1)).map λ_=>true).map D.bl,st):=by
   rw[qaP];refine jP (g:=ao) (D.bl ∘ λ_=>true) λt l=>?_;have e:=BL (st:=st) (fs:=fs) (b:=b) (w:=v) (by lia) fv (S.tt t l);rw[B.bl t l]at e;exact ac (ag (ab U (ab U (ab U (ab U U)))) e) U U
  have hb:((bx n ((d:Int) - 1)).map λ_=>true).all id=true:=by simp
  have j:((bx n ((d:Int) - 1)).map ao).length<=1000000:=by rw[qah];lia
  have hA:=Cr (a:=aa (aw (iLc 1 [0,1,4] (aB (aq cW (aa (iV 2) (aa (iOp j6 (iV 3) (iC (.int 1))) ae)))) (.nm 0) aJ fL)) ae) (env:=[Z (.tup fs),Z (.str (aE b)),Z (.int (n:Int)),Z (.int (d:Int)),Z (.tup (mpI fs.length v))]) (st:=st) (ab (ar (aL (bo (ag (ab U (ab (ac U U U) U)) (uW (st:=st) (n:=n) (m:=(d:Int) - 1) hn))) j f)) U);rw[hb]at hA;exact av U (ai (bh c U) (ai (bh (dc (mf (qc (ag (ab U (ab U U)) (wd (st:=st) B.nn B.un)))) (ak (aG (ab U U) (EY st fs.length v)) U h)) U) (aF hA)))
end
end Own
set_option maxHeartbeats 1000000
namespace Own
open PySem L2
open Sx (Pb Tb Good Named Fe LV ZV piv lexP leastR leaveL sumN unit colV basis)
section
variable {fs:List D}{b c:Bool}{ts:List (List Int)}{X:List Int->Int}{w v:Nat->Int}{n:Nat}
def TP (fs:List D) (w:Nat->Int):Prop:=∀ r,r<fs.length->fs.getD r .non≠.non->0<w r
def tpB (fs:List D) (w:Nat->Int):Bool:=((bC 0 fs).map λj=>decide (w j.toNat > 0)).all id
theorem HJ (h:tpB fs w=true):TP fs w:=λr f hn=>by
 unfold tpB at h;rw[qbb]at h;have m:=pJ fs 0 r f hn;rw[qbj]at m;exact of_decide_eq_true (h _ (qaD.mpr ⟨_,m,U⟩))
theorem HI (h:Spl fs ts) (q:tpB fs w=false):∃ r,r<fs.length/\fs.getD r .non≠.non/\¬ 0<w r:=by
 unfold tpB at q;rw[qhB]at q;obtain⟨x,K,J⟩:=q;obtain⟨j,A,rfl⟩:=qaD.mp K;obtain⟨m,d,rfl,hm,_,_,hd,e⟩:=pw h A;rw[qbe]at *;exact⟨m,hm,by rw[e];exact hd,λz=>J (decide_eq_true z)⟩
theorem xn (h:Spl fs ts) {st:Sto}{P:D}{x1 x2 x3 x4:Option W}:cv cN (iCB sS (aa (aw (iLc 1 [5] (aB (aq bJ (aa (iV 0) ae))) (.nm 0) aJ dG)) ae)) [Z (.tup fs),x1,x2,x3,x4,Z (.tup [P,.tup (mpI fs.length w)])] st=some (tpB fs w,st):=by
 have G:lcI (.nm 0) aJ dG [none,Z (.tup [P,.tup (mpI fs.length w)])] ((bC 0 fs).map D.int) st=some (((bC 0 fs).map λj=>decide (w j.toNat > 0)).map D.bl,st):=by
  rw[qaP];refine jP _ λj A=>?_;obtain⟨m,d,rfl,hm,_⟩:=pw h A;exact ac (ac (ac U U (f8 _ _ _)) U (cO (bg hm))) U U
 have hl:=h.fl;have Q:((bC 0 fs).map D.int).length<=1000000:=by rw[qah];have:=lP fs 0;lia
 exact qc (Cr (ab (ar (aL (bo (ag U (su (by lia)))) Q G)) U))
def u8 (fs:List D) (b:Bool) (n d:Nat) (e:D):Prop:=(d=0/\e=.non)\/(d≠0/\∃ v,e=.tup (mpI fs.length v)/\Brd fs b (bx n ((d:Int) - 1)) v/\TP fs v)
theorem u8.bar {d:Nat}{e:D} (i:∃ r,r<fs.length/\fs.getD r .non≠.non) (B:u8 fs b n d e):qi fs b n d e:=by
 rcases B with h|⟨T,v,e,B,p⟩
 ·exact .inl h
 ·obtain⟨r,f,hn⟩:=i
  refine .inr ⟨T,v,e,B,λz=>?_⟩
  have:=p r f hn
  rw[z r f]at this;exact absurd this (qgK 0)
def spD (fs:List D) (b:Bool) (ts:List (List Int)) (X:List Int->Int) (w:Nat->Int):D:=.tup [bn (aE b) (aZ (ax ts) X),.tup (mpI fs.length w)]
theorem CQ (hn:n<=4) (fl:fs.length=2^n) (fv:∀ u∈fs,du u):∀ (g j a:Nat) (X:List Int->Int) (w:Nat->Int) (e:D),j+g=n->g<a->ik fs b (bx n j) X w->u8 fs b n j e->
  ∃ (d:Nat) (X':List Int->Int) (o:Nat->Int) (C:D),ik fs b (bx n d) X' o/\(d=n\/tpB fs o=false)/\u8 fs b n d C/\d<=n/\∀ st:Sto,∃ u:Sto,bE gv hW a [Z (.tup fs),Z (.str (aE b)),Z (.int (n:Int)),Z e,Z (.int (j:Int)),Z (spD fs b (bx n j) X w)] st=some (.nx [Z (.tup fs),Z (.str (aE b)),Z (.int (n:Int)),Z C,Z (.int (d:Int)),Z (spD fs b (bx n d) X' o)] (st++u)):=by
 intro g
 induction g with
 |zero=>
  intro j a X w e A J S B;obtain⟨k,rfl⟩:∃ k,a=k+1:=⟨a - 1,by lia⟩;have N:j=n:=by lia
  subst N;refine⟨j,X,w,e,S,.inl U,B,qap _,λst=>⟨[],?_⟩⟩;rw[qbf];exact u4 (jn (ak U U (ltF st (qgK _))))
 |succ g Y=>
  intro j a X w e A J S B;obtain⟨k,rfl⟩:∃ k,a=k+1:=⟨a - 1,by lia⟩;have Sp:=ck (m:=(j)) hn fl fv;have l:∀ s ,dLt s (.d (.int (j))) (.d (.int (n)))=some _:=λs=>by
   show some _=_;rw[decide_eq_true (by lia)]
  cases z:tpB fs w with
  |false=>
   refine⟨j,X,w,e,S,.inr z,B,by lia,λst=>⟨[],?_⟩⟩;rw[qbf];have t:=xn Sp (st:=st) (w:=w) (P:=bn (aE b) (aZ (ax (bx n j)) X)) (x1:=some (.d (.str (aE b)))) (x2:=some (.d (.int (n)))) (x3:=some (.d e)) (x4:=some (.d (.int (j))));rw[z]at t;exact u4 (d5 (ak U U (l st)) t)
  |true=>
   obtain⟨X2,w2,S2,H⟩:=pH (b:=b) (ck (m:=((j+1:Nat):Int)) hn fl fv);obtain⟨d,X',o,C,S',O,B',hd,F⟩:=Y (j+1) k X2 w2 (.tup (mpI fs.length w)) (by lia) (by lia) S2 (.inr ⟨by lia,w,U,by rw[show (((j+1:Nat):Int) - 1)=(j:Int) by lia];exact (qW Sp S),HJ z⟩);refine⟨d,X',o,C,S',O,B',hd,λst=>?_⟩;obtain⟨u2,R⟩:=H st;obtain⟨u,e3⟩:=F _;refine⟨u2++u,?_⟩;rw[<-qbB,<-e3];have t:=xn Sp (st:=st) (w:=w) (P:=bn (aE b) (aZ (ax (bx n j)) X)) (x1:=some (.d (.str (aE b)))) (x2:=some (.d (.int (n)))) (x3:=some (.d e)) (x4:=some (.d (.int (j))));rw[z]at t;refine A1 (d5 (ak U U (l st)) t) ?_;have N:((j)+1)=((j+1)):=by lia
   exact ai (aj (ac U U (f8 _ _ _))) (ai (aj (ac U U U)) (aj (ag (ab U (ab U (ab (ag (ab U (ab U U)) (sw (st:=st) (d:=j+1) hn)) U))) R)))
theorem GS (hn:n<=4) (fl:fs.length=2^n) (fv:∀ u∈fs,du u) (i:∃ r,r<fs.length/\fs.getD r .non≠.non):∃ (d:Nat) (X:List Int->Int) (w:Nat->Int) (e:D),ik fs b (bx n d) X w/\(∃ r,r<fs.length/\fs.getD r .non≠.non/\w r=0)/\u8 fs b n d e/\d<=n/\∀ st:Sto,∃ u:Sto,cx [.d (.tup fs),.d (.str (aE b))] st=some (.d (.tup [.int (d:Int),bn (aE b) (aZ (ax (bx n d)) X),e]),st++u):=by
 obtain⟨X0,w0,S0,H⟩:=pH (ck hn fl fv);obtain⟨d,X,w,e,S,z,B,hd,F⟩:=CQ hn fl fv n 0 (2^8000) X0 w0 .non (by lia) (qaS (show n<2^3 by lia) (qbk (by decide) (by decide))) S0 (.inl ⟨U,U⟩);have Sp:=ck (m:=(d)) hn fl fv;refine⟨d,X,w,e,S,?_,B,hd,λst=>?_⟩
 ·rcases z with rfl|z
  ·obtain⟨r,f,q⟩:=i
   exact⟨r,f,q,C1 fl (λt i=>uY i) (qW Sp S) r f⟩
  ·obtain⟨r,f,q,y⟩:=HI Sp z
   have:=(S.w0 r f).1
   exact⟨r,f,q,by lia⟩
 obtain⟨L,V⟩:=H st;obtain⟨u,e1⟩:=F (st++L);refine⟨L++u,?_⟩;rw[<-qbB];exact av U (ai (aj (ag U (AQ fl hn))) (ai (aj U) (ai (aj U) (ai (aj (ag (ab U (ab U (ab (ag (ab U (ab U U)) (sw (st:=st) (d:=0) hn)) U))) V)) (ai e1 (aF (bV (ab U (ab (ac U U (iO _ _ _)) (ab U U))) U (by show 3<=1000;decide))))))))
structure Bh (fs:List D) (b:Bool) (n:Nat) (d:Nat):Prop where
 lo:d≠0->∃ v,Brd fs b (bx n ((d:Int) - 1)) v/\TP fs v
 hi:∀ v,Brd fs b (bx n d) v->¬ TP fs v
theorem xw {d e:Nat} (fl:fs.length=2^n) (E:Bh fs b n d) (I:Bh fs c n e):e<=d:=by
 apply qcp;intro q;obtain⟨v,B,p⟩:=I.lo (by lia);have B2:=ug (c:=b) fl B;exact E.hi v ⟨B2.nn,B2.un,λt i=>B2.bl t (pK i (by lia))⟩ p
theorem A0 {d e:Nat} (fl:fs.length=2^n) (i:∃ r,r<fs.length/\fs.getD r .non≠.non) (E:∀ v,Brd fs b (bx n d) v->∀ r,r<fs.length->v r=0) (I:Bh fs c n e):e<=d:=by
 apply qcp;intro q;obtain⟨v,B,p⟩:=I.lo (by lia);obtain⟨r,f,hn⟩:=i;have B2:=ug (c:=b) fl B
 have:=p r f hn
 rw[E v ⟨B2.nn,B2.un,λt i=>B2.bl t (pK i (by lia))⟩ r f]at this;exact absurd this (qgK 0)
theorem GR {M:List (List Int)} (h:Spl fs ts) (S:ik fs b ts X w) (i:∃ r,r<fs.length/\fs.getD r .non≠.non/\w r=0) (B:Brd fs b M v) (K:∀ t∈ts,X t=0\/t∈M):¬ TP fs v:=λp=>by
 obtain⟨r,f,hn,e⟩:=i
 have:=p r f hn
 rcases C0 h S B K r f hn with q|q
 ·lia
 ·exact q e
end
end Own
set_option maxHeartbeats 1000000
namespace Own
open PySem L2
open Sx (Pb Tb Good Named Fe LV ZV piv lexP leastR leaveL sumN unit colV basis)
theorem wN:∀ (a:List Int) (m:Int),0<=m->(∀ y∈a,0<=y)->0<=oO a m
 |[],m,h,_=>h
 |y::a,m,h,b=>by
  refine wN a _ ?_ λz c=>b z (qai _ c);split
  ·exact b y qag
  ·exact h
theorem Hn {a b:Ef}{env:Ev}{st s s':Sto}{x:W} (c:a env st=some (.d (.bl false),s)) (hb:b env s=some (x,s')):zr a b env st=some (x,s'):=by
 simp only[zr,c,hb,qaa,blW,qbm,if_false]
section
variable {fs:List D}{b:Bool}{n:Nat}{X:List Int->Int}{w:Nat->Int}
theorem yD {ts:List (List Int)}{st:Sto} (h:Spl fs ts) (S:ik fs b ts X w):∃ c:List Int,(∀ y∈c,0<=y)/\(∀ r,r<fs.length->fs.getD r .non≠.non->(sumN ts.length λt=>X (ts.getD t [])*aO b (ts.getD t []) r)*sgD (fs.getD r .non)∈c)/\gL [.d (.tup fs),.d (bn (aE b) (aZ (ax ts) X))] st=some (.d (.lst (c.map D.int)),st):=by
 have V:=h.fl
 obtain⟨F,s2,Q,⟨c,R,K,A⟩,rfl⟩:=fz (g:=.tp [0,1]) (tt:=je) (te:=iB) (env:=[none,none,some _]) (ds:=bY 0 fs) (λi F s=>(∃ c:List Int,F=c.map D.int/\(∀ r,r < i->fs.getD r .non≠.non->(sumN ts.length λt=>X (ts.getD t [])*aO b (ts.getD t []) r)*sgD (fs.getD r .non) ∈ c)/\∀ y ∈ c,0<=y)/\s=st) ⟨⟨[],U,(λr J=>absurd J (by lia)),(λy j=>nomatch j)⟩,U⟩ (λi d F s hd ⟨⟨c,e,K,A⟩,es⟩=>by
  subst e es;obtain⟨hi,rfl⟩:=tm hd;refine⟨_,U,?_⟩;have hvi:du (fs.getD i .non):=by
   rw[qaA,qam hi];exact h.fv _ (qbQ hi)
  by_cases e:fs.getD i .non=.non
  ·refine .inr ⟨s,?_,⟨c,U,λr J hn=>K r (by have:r≠i:=λq=>hn (by rw[q];exact e);lia) hn,A⟩,U⟩
   rw[e];rfl
  ·have hv:=(mP h S hi e).1
   have L:∀ y,_*sgD _=y->∀ r,r<i+1->fs.getD r .non≠.non->(sumN ts.length λt=>X _*aO b _ r)*sgD (fs.getD r .non)∈c++[y]:=λy ey r J hn=>by
    by_cases q:r=i
    ·subst q
     rw[ey];exact qau _ (qal.mpr U)
    ·exact qaX _ (K r (by lia) hn)
   obtain⟨z,ez,em,esg⟩:=GB s hvi e;have sg1:(sgD (fs.getD i .non)).natAbs<=1:=by rcases AI with q|q<;>rw[q]<;>decide
   rw[<-esg]at sg1 hv L;have hne:=zT s e;refine .inl ⟨s,_,s,ak U U hne,ac (ac (ac U U em) U U) (ag (ab U (ab U U)) (Fq (st:=s) (b:=b) (X:=X) h i)) (bL s (dY (by lia))),⟨_,by rw[qbp];rfl,L _ (qaZ _ _),λy j=>?_⟩,U⟩;rcases qaO.mp j with j|j
   ·exact A y j
   ·rw[qal.mp j,qaZ];exact hv)
 rw[kc]at K;refine⟨c,A,K,?_⟩;have hu':F=c.map D.int:=R;rw[hu']at Q;have T:(bY 0 fs).length<=1000000:=by rw[kc];lia
 exact av U (aF (ar (aL U T Q)))
theorem Bq {d:Nat}{e:D} (hn:n<=4) (fl:fs.length=2^n) (fv:∀ u∈fs,du u) (S:ik fs b (bx n d) X w) (C:∃ r,r<fs.length/\fs.getD r .non≠.non/\w r=0) (B:u8 fs b n d e):gO ((aZ (ax (bx n d)) X).map λp=>((p.1.length:Nat):Int)) 0=(d:Int):=by
 have hle:=wM (M:=(d)) _ 0 (by lia) (λk (hk:k ∈ (aZ (ax (bx n d)) X).map λp=>_)=>by
  obtain⟨p,A,rfl⟩:=qaD.mp hk
  exact (lR.mp (wQ A)).2)
 have H:=rV ((aZ (ax (bx n d)) X).map λp=>((p.1.length))) 0;rcases B with⟨h0,_⟩|⟨h0,v,_,Bv,p⟩
 ·lia
 ·apply qcp
  intro q;refine GR (ck hn fl fv) S C Bv (λt C=>?_) p;by_cases hx:X t=0
  ·exact .inl hx
  ·right
   have A:(t,X t)∈aZ (ax (bx n d)) X:=by
    exact qaD.mpr ⟨t,qbN.mpr ⟨(aK _).mem_iff.mpr C,by simpa using hx⟩,U⟩
   have:=H.2 _ (qaD.mpr ⟨_,A,U⟩)
   rw[lR]at C ⊢;exact⟨C.1,by lia⟩
theorem CS {st:Sto}{d:Nat}{e:D} (hn:n<=4) (fl:fs.length=2^n) (fv:∀ u∈fs,du u) (S:ik fs b (bx n d) X w) (C:∃ r,r<fs.length/\fs.getD r .non≠.non/\w r=0) (B:u8 fs b n d e) (hd:d<=n) :
  eP [.d (.tup fs),.d (.str (aE b)),.d (.int (n:Int)),.d (.tup [.int (d:Int),bn (aE b) (aZ (ax (bx n d)) X),e])] st=some (.d (.bl true),st):=by
 have Sp:=ck (m:=(d:Int)) hn fl fv;have hps:=vR (X:=X) Sp;have et:=uW (st:=st) (n:=n) (m:=(n:Int)) hn;have ep:=yh (st:=st) (kd:=aE b) (ts:=bx n n) (ps:=aZ _ X) (by lia) (BQ (yg Sp.nd)) λp A=>⟨pK (wQ A) (by lia),by have:=(Sp.tt _ (wQ A)).2;lia,(uz A).2.2⟩;have eg:=DE (st:=st) (b:=b) (X:=X) Sp;rw[Bq hn fl fv S C B]at eg;obtain⟨c,j,hm,er⟩:=yD (st:=st) Sp S;obtain⟨r,J,I,h0⟩:=C;have eb:=Bn (st:=st) hn fl fv (B.bar ⟨r,J,I⟩);have G:∃ y∈c,0<y:=by
  refine⟨_,hm r J I,?_⟩;have q:=mP Sp S J I;rcases qeb q.1 with z|z
  ·exact z
  ·exact absurd h0 (q.2.mp z.symm)
 obtain⟨o,l,rfl⟩:∃ o l,c=o::l:=by
  cases c with
  |nil=>obtain⟨y,j,_⟩:=G;cases j
  |cons y l=>exact⟨y,l,U⟩
 have N:dMi st [.d (.lst ((o::l).map D.int))]=some (.int (oO l o)):=by
  show (aT _).bind _=_;rw[be];rfl
 have O:dMx st [.d (.lst ((o::l).map D.int))]=some (.int (gO l o)):=by
  show (aT _).bind _=_;rw[be];rfl
 have hlt:=ltF st (show ¬ oO l o<0 by have:=wN l o (j o qag) λz T=>j z (qai _ T);lia);have hmq:dEq st (.d (.int (gO l o))) (.d (.int 0))=some (.bl false):=by
  obtain⟨y,j,py⟩:=G;have H:=rV l o
  have:0<gO l o:=by
   rcases qaz.mp j with rfl|j
   ·lia
   ·have:=H.2 y j;lia
  rw[cr,show (gO l o==0)=false by simp;lia]
 have hde:dEq st (.d (.int (d:Int))) (.d (.int (d:Int)))=some (.bl true):=by rw[cr,beq_self_eq_true]
 have E:dEq st (.d (.int (d:Int))) (.d (.int 0))=some _:=cr _ _ _;have eh:jR [.d (.str (aE b)),.d (.int (n:Int)),.d (.int (d:Int)),.d (bn (aE b) (aZ (ax (bx n d)) X))] st=some (.d (.bl true),st):=by
  exact av (n:=4) (k:=4) U (aF (Di (ag U (lc _)) (Di (ag (ab U (ab (ag (ab U (ab U U)) et) (ab U U))) ep) (ac (ag (ab U U) eg) U hde))))
 have fin:∀ x:Option W,ah (aY (aC dEq (iOp dIx (iV 3) (iC (.int 0))) (iC (.int 0))) (aM (iC (.bl true))) aQ) (aM (iCB sS (aa (aw (iLc 2 [] (dC (aa (iV 0) (aa (iOp dIx (iV 3) (iC (.int 2))) ae))) (.tp [0,1]) aJ bM)) ae))) [Z (.tup fs),Z (.str (aE b)),Z (.int (n:Int)),Z (.tup [.int (d:Int),bn (aE b) (aZ (ax (bx n d)) X),e]),x] st=some (.rt (.d (.bl true)) st):=λx=>by
  generalize bn (aE b) _=P at *;generalize aE b=kd at *;rcases B with⟨z,rfl⟩|⟨z,v,rfl,_,p⟩
  ·rw[z]at E ⊢
   exact fC (ca (s:=st) (ak (ac U U (yi _ _ _ _)) U E) U)
  ·rw[show ((d:Int)==0)=false by simpa using z]at E
   have V:=Sp.fl;have hzl:(d6 fs (mpI fs.length v)).length=fs.length:=by rw[pQ,aD,qjA]
   have key:lcI (.tp [0,1]) aJ bM [none,none] (d6 fs (mpI fs.length v)) st=some (((d6 fs (mpI fs.length v)).map λ_=>true).map D.bl,st):=by
    obtain⟨F,s2,Q,R,rfl⟩:=fz (g:=.tp [0,1]) (tt:=aJ) (te:=bM) (env:=[none,none]) (λi F s=>F=(((d6 fs (mpI fs.length v)).take i).map λ_=>true).map D.bl/\s=st) (st:=st) (ys0:=[]) ⟨U,U⟩ (λi d F s hd ⟨e,es⟩=>by
     subst e es;have C:(d6 fs (mpI fs.length v)).take (i+1)=(d6 fs (mpI fs.length v)).take i++[d]:=by rw[qel,hd];rfl
     obtain⟨hi,rfl⟩:=xB hd;refine⟨_,U,.inl ⟨s,.bl true,s,U,?_,by rw[C,qbp,qbp];rfl,U⟩⟩;by_cases q:fs.getD i .non=.non
     ·rw[q];rfl
     ·have hg:dGt s (.d (.int (v i))) (.d (.int 0))=some (.bl true):=by
       show some (D.bl (decide (v i > 0)))=_;rw[decide_eq_true (p i hi q)]
      generalize fs.getD i .non=f at *
      exact Hn (ac U U (C5 s q)) (ac U U hg))
    rw[qcM]at R;rw[<-R];exact Q
   have Y:(d6 fs (mpI fs.length v)).length<=1000000:=by lia
   have hb:((d6 fs (mpI fs.length v)).map λ_=>true).all id=true:=by simp
   have hA:=Cr (a:=aa (aw (iLc 2 [] (dC (aa (iV 0) (aa (iOp dIx (iV 3) (iC (.int 2))) ae))) (.tp [0,1]) aJ bM)) ae) (env:=[Z (.tup fs),Z (.str kd),Z (.int (n:Int)),Z (.tup [.int (d:Int),P,.tup (mpI fs.length v)]),x]) (st:=st) (ab (ar (aL ((λx=>by
    have q:=ab (a:=iV 0) (b:=aa (iOp dIx (iV 3) (iC (.int 2))) ae) (env:=[Z (.tup fs),Z (.str kd),Z (.int (n:Int)),Z (.tup [.int (d:Int),P,.tup (mpI fs.length v)]),x]) (st:=st) U (ab (ac U U (FR st _ _ _)) U)
    simp only[dC,q,qaa];rfl) x) Y key)) U)
   rw[hb]at hA;exact ai (bh (s:=st) (ak (ac U U (yi _ _ _ _)) U E) U) (aF hA)
 exact av (n:=5) (k:=4) U (ai (bh (s:=st) (dc (s:=st) U (dc (s:=st) U (mf (k:=true) (qc (ag (ab U (ab U (ab (ac U U (yi _ _ _ _)) (ab (ac U U (FQ _ _ _ _)) U)))) eh))))) U)
  (ai (aj (ag (ab U (ab (ac U U (FQ _ _ _ _)) U)) er))
  (ai (bh (s:=st) (dc (s:=st) (ak (aG (ab U U) N) U hlt) (dc (s:=st) (ak (aG (ab U U) O) U hmq) (mf (k:=true) (qc (ag (ab U (ab U (ab U (ab (ac U U (yi _ _ _ _)) (ab (ac U U (FR _ _ _ _)) U))))) eb))))) U) (fin _))))
end
end Own
set_option maxHeartbeats 1000000
namespace Own
open PySem L2
open Sx (Pb Tb Good Named Fe LV ZV piv lexP leastR leaveL sumN unit colV basis)
theorem rX (k:Nat):∀ ns:List Int,(ns.map D.int).all (okD k)=true
 |[]=>rfl
 |n::ns=>by
  rw[qaw,qbw,rX k ns];cases k<;>rfl
theorem uG:∀ ps:List Prt,(ps.map bQ).all (okD 58)=true
 |[]=>rfl
 |p::ps=>by
  rw[qaw,qbw,uG ps,qiq];show ((p.1.map D.int).all _&&_)=true;rw[rX];rfl
theorem tB:∀ ps:List Prt,dz (ps.map bQ) (ps.map bQ)=true
 |[]=>rfl
 |p::ps=>by
  show ((dz _ _&&((p.2==p.2)&&true))&&dz _ _)=true;rw[tB ps,jf,decide_eq_true U,beq_self_eq_true];rfl
theorem y8 (ds:List D) (j:Nat):jI ds (some (j:Int)) none=ds.drop j:=by
 unfold jI;rw[HT.sIx_nat];by_cases h:j<=ds.length
 ·rw[qeP h,qb3 (by rw[qes];exact qap _)]
 ·rw[qfQ (by lia),qgI (qap _),qgI (by lia),List.take_nil]
theorem y9 (ds:List D) (j:Nat):jI ds none (some (j:Int))=ds.take j:=by
 unfold jI;rw[HT.sIx_nat,HT.sIx_none,qgi,qgX];by_cases h:j<=ds.length
 ·rw[qeP h]
 ·rw[qfQ (by lia),qb3 (qap _),qb3 (by lia)]
theorem qsl {f:Ef}{lo hi:Pf}{env:Ev}{b s1 c a:Sto}{x:W}{l u:Option Int}{d:D} (g:f env b=some (x,s1)) (h:lo env s1=some (l,c)) (e:hi env c=some (u,a)) (hd:dSl a x l u=some d):iSl f lo hi env b=some (.d d,a):=by
 simp only[iSl,g,h,e,qaa,hd,qao]
theorem okF {fs:List D} (h:∀ u∈fs,du u):fs.all (okD 60)=true:=by
 rw[qbb];intro u a;rcases h u a with rfl|rfl|rfl<;>rfl
theorem eqN:∀ {fs:List D},(∀ u∈fs,du u)->dz fs (qay fs.length .non)=fs.all cw
 |[],_=>rfl
 |u::fs,h=>by
  rw[qbw,<-(eqN λx a=>h x (qai _ a))]
  have:eqD u .non=cw u:=by rcases h u qag with rfl|rfl|rfl<;>rfl
  show (eqD u .non&&_)=_;rw[this]
theorem Gz:∀ k,(qay k [D.non]).flatten=qay k D.non
 |0=>rfl
 |k+1=>by rw[qdk,qfr,Gz k];rfl
theorem vD {rest:Sto}{n:Nat}{p:Pus}{Zq:Int} (h:okU p Zq) (H:Zq<=1000) (hn:n<=4):∃ (fs:List D) (w:Pus),fs.length=2^n/\(∀ u∈fs,du u)/\(∃ r,r<fs.length/\fs.getD r .non≠.non)/\okU w (Zq+202)/\iY [.h 1,.d (.int (n:Int))] (pus p rest)=some (.d (.tup fs),pus w rest):=by
 obtain⟨fs,p1,fl,fv,t,C⟩:=tF h H hn;have F:2^n<=16:=qaV (qbk (by decide) hn) (by decide);have S:=qeN n;have l:a9 (pus p1 rest) (.d (.tup [.non])) (.d (.int (fs.length:Int)))=some (.tup (qay fs.length .non)):=by
  show (if [D.non]≠[]/\[D.non].length<=1000/\0<=_/\_<1000 then some (D.tup (qay (fs.length:Int).toNat [D.non]).flatten) else none)=_;rw[iFP ⟨by simp,by decide,by lia,by lia⟩,qbe,Gz]
 have g:dEq (pus p1 rest) (.d (.tup fs)) (.d (.tup (qay fs.length .non)))=some (.bl (fs.all cw)):=by
  show ((if _=true then some _ else if fs.all (okD 60)=true/\(qay fs.length D.non).all (okD 60)=true then some _ else none).map λk=>D.bl k)=_;have J:(fs.isEmpty||(qay fs.length D.non).isEmpty)=false:=by
   cases fs with
   |nil=>rw[qb8]at fl;lia
   |cons=>rfl
  rw[J,iFN (by decide),iFP ⟨okF fv,okF λu c=>.inl (qhs.mp c).2⟩,eqN fv];rfl
 have f:∀ k,fs.all cw=k->aC dEq (iV 2) (iOp a9 (bb (aa (iC .non) ae)) (iCB a8 (aa (iV 2) ae))) [some (.h 1),Z (.int (n:Int)),some _,none] _=some (k,pus p1 rest):=λk q=>by
  rw[q]at g;exact ak U (ac (bV (ab U U) U (by decide)) (aG (ab U U) U) l) g
 cases q:fs.all cw with
 |false=>
  refine⟨fs,p1,fl,fv,?_,t.mono (by lia),?_⟩
  ·rw[qhB]at q
   obtain⟨u,c,z⟩:=q;obtain⟨r,x,e⟩:=qcy.mp c;refine⟨r,x,λy=>z ?_⟩;rw[qaA,qam x]at y
   have:fs[r]=.non:=y
   rw[<-e,this];rfl
  ·generalize pus p rest=O at *
   generalize pus p1 rest=s1 at *;exact av (n:=4) (k:=2) (b:=iq) U (ai (aj (ag U C)) (ai (bh (s:=s1) (f _ q) U) U))
 |true=>
  obtain⟨a,v,a0,V,k2,I⟩:=dn (rest:=rest) t (by lia) (m:=(fs.length:Int)) (by lia) (by lia);obtain⟨y,o,G,M,Q⟩:=wb (rest:=rest) k2 (by lia);obtain⟨j,rfl⟩:=qcL a0;have E:du y/\y≠.non:=by rcases G with rfl|rfl<;>simp[du]
  have N:(fs.take j++[y]++fs.drop (j+1)).length=fs.length:=by simp;lia
  refine⟨_,o,by rw[N,fl],λu c=>?_,⟨j,by lia,?_⟩,M.mono (by lia),?_⟩
  ·rcases qaO.mp c with c|c
   ·rcases qaO.mp c with c|c
    ·exact fv u (List.mem_of_mem_take c)
    ·rw[qal.mp c];exact E.1
   ·exact fv u (List.mem_of_mem_drop c)
  ·have:(fs.take j++[y]++fs.drop (j+1)).getD j .non=y:=by
    rw[qaA,qbB,qaI (by rw[qb0];lia),qb0,qeP (by lia),qeO];rfl
   rw[this];exact E.2
  ·have t1:dSl (pus v rest) (.d (.tup fs)) none (some (j:Int))=some (.tup (fs.take j)):=by
    show some _=_;rw[y9]
   have t2:dSl (pus o rest) (.d (.tup fs)) (some ((j:Int)+1)) none=some (.tup (fs.drop (j+1))):=by
    show some _=_;rw[show ((j:Int)+1)=((j+1:Nat):Int) by lia,y8]
   have P:(fs.take j).length+[y].length<=1000000:=by rw[qb0];show _+1<=_;lia
   have K:(fs.take j++[y]).length+(fs.drop (j+1)).length<=1000000:=by rw[qaB,qb0,qes];show _+1+_<=_;lia
   have i:∀ s:Sto,a8 s [.d (.tup fs)]=some (.int (fs.length:Int)):=λs=>rfl;generalize (fs.length:Int)=L at *;generalize fs.take j=A at *;generalize fs.drop (j+1)=B at *;generalize pus p rest=O at *;generalize pus p1 rest=s1 at *;generalize pus v rest=T at *;generalize pus o rest=R at *;exact av (n:=4) (k:=2) (b:=iq) U (ai (aj (ag U C)) (ai (ca (s:=s1) (f _ q) (ai (aj (ag (ab U (ab (aG (ab U U) (i _)) U)) I)) (aj (ac (ac (qsl U U U t1) (bV (ab (ag (ab U (ab U U)) Q) U) U (by show 1<=1000;decide)) (mU _ P)) (qsl U U U t2) (mU _ K))))) U))
end Own
section
set_option maxHeartbeats 1000000
namespace Own
open PySem L2
open Sx (Pb Tb Good Named Fe LV ZV piv lexP leastR leaveL sumN unit colV basis)
theorem BG {s:Sto}{fs:List D}{b:Bool}{n d:Nat}{ps:List Prt}{e:D} (B:qi fs b n d e):dNe s (.d (.tup [.int (d:Int),bn (aE b) ps,e])) (.d (.tup [.int (d:Int),bn (aE b) ps,e]))=some (.bl false):=by
 have he:okD 60 e=true/\eqD e e=true:=by
  rcases B with⟨_,rfl⟩|⟨_,v,rfl,_⟩
  ·exact⟨U,U⟩
  ·rw[bK]
   refine⟨?_,?_⟩
   ·exact rX _ _
   ·show dz _ _=true
    rw[jf,decide_eq_true U]
 unfold bn;have h1:=by
  show (true&&((true&&((ps.map bQ).all (okD 58)&&true))&&(okD 60 e&&true)))=true;rw[uG,he.1];rfl
 have h2:dz [D.int (d),.tup [.str (aE b),.tup (ps.map bQ)],e] [D.int (d),.tup [.str (aE b),.tup (ps.map bQ)],e]=true:=by
  show ((_==_)&&((((aE b==aE b)&&(dz _ _&&true)))&&(eqD e e&&true)))=true;rw[tB,he.2,beq_self_eq_true,beq_self_eq_true];rfl
 show ((if (false||false)=true then some (false&&false) else if [D.int _,.tup [.str _,.tup _],e].all _=true/\[D.int _,.tup [.str _,.tup _],e].all _=true then some _ else none)).map _=_;rw[iFN (by decide),iFP ⟨h1,h1⟩,h2];rfl
theorem zL (B u:Sto) (ds:List D):lg (B++.l ds::u) B.length=some ds:=by unfold lg;simp
theorem Bj {v x:Ef}{env:Ev}{B u:Sto}{ds:List D}{d:D} (hv:∀ s,v env s=some (.h B.length,s)) (hx:x env (B++.l ds::u)=some (.d d,B++.l ds::u)) (E:ds.length<1000000):eJ (cL bB v (aa x ae)) env (B++.l ds::u)=some (.nx env (B++.l (ds++[d])::u)):=by
 have e:cL bB v (aa x ae) env (B++.l ds::u)=some (.d .non,B++.l (ds++[d])::u):=by
  show (v env _).bind _=_;rw[hv,qaa];rw[(ab hx U)];show (lg _ B.length).bind _=_;rw[zL,qaa,qaa,show bB ds [.d d]=some (.non,ds++[d]) from iFP E]
  simp
 show (cL bB v _ env _).map _=_;rw[e];rfl
section
variable {fs:List D}{n:Nat}
theorem uf (hn:n<=4) (fl:fs.length=2^n) (fv:∀ u∈fs,du u) (A:∃ r,r<fs.length/\fs.getD r .non≠.non) (b:Bool):∃ d:Nat,Bh fs b n d/\∀ (B u:Sto) (ds:List D) (a0 K a2 C:Option W),ds.length<=10->∃ F u',kK [a0,K,a2,Z (.int (n:Int)),Z (.tup fs),some (.h B.length),Z (.str (aE b)),C] (B++.l ds::u)=some (.nx [a0,K,a2,Z (.int (n:Int)),Z (.tup fs),some (.h B.length),Z (.str (aE b)),F] (B++.l (ds++[.int (d:Int)])::u')):=by
 obtain⟨d,X,w,e,S,hr,Ba,hd,E⟩:=GS hn fl fv A;refine⟨d,⟨λh0=>?_,λv Bv=>GR (ck hn fl fv) S hr Bv λt A=>.inr A⟩,λB u ds a0 K a2 C hds=>?_⟩
 ·rcases Ba with⟨q,_⟩|⟨_,v,_,Bv,p⟩
  ·exact absurd q h0
  ·exact⟨v,Bv,p⟩
 obtain⟨o,e1⟩:=E (B++.l ds::u);have O:=CS (st:=B++.l ds::u++o) hn fl fv S hr Ba hd;have e4:=λs=>BG (s:=s) (ps:=aZ (ax (bx n d)) X) (Ba.bar A);have hx:∀ s,dIx s (.d (.tup [.int (d),bn (aE b) (aZ (ax (bx n d)) X),e])) _=some _:=λs=>yi _ _ _ _;generalize D.tup [.int _,bn _ _,e]=Zq at *;have G:∃ c,dO (aC dLt (iV 3) (iC (.int 4))) (aC dNe (aq cx (aa (iV 4) (aa (iV 6) ae))) (iV 7)) [a0,K,a2,Z (.int (n)),Z (.tup fs),some (.h B.length),Z (.str (aE b)),Z Zq] (B++.l ds::u++o)=some (false,B++.l ds::u++o++c):=by
  have q:aC dLt (iV 3) (iC (.int 4)) [a0,K,a2,Z (.int (n)),Z (.tup fs),some (.h B.length),Z (.str (aE b)),Z Zq] _=some (decide _,B++.l ds::u++o):=rfl;cases h4:decide ((n:Int)<4) with
  |true=>
   rw[h4]at q;obtain⟨c,e3⟩:=E _;exact⟨c,d5 q (ak (ag U e3) U (e4 _))⟩
  |false=>
   rw[h4]at q;exact⟨_,by rw[qbf];exact jn q⟩
 obtain⟨c,G⟩:=G;have ap:=Bj (v:=iV 5) (x:=iOp dIx (iV 7) (iC _)) (env:=[a0,K,a2,Z (.int (n)),Z (.tup fs),some _,Z (.str (aE b)),some _]) (B:=B) (u:=u++o++c) (ds:=ds) (λs=>rfl) (ac U U (hx _)) (by lia);have es:B++.l ds::(u++o++c)=B++.l ds::u++o++c:=by simp
 rw[es]at ap;refine⟨some (.d Zq),u++o++c,?_⟩;exact ai (aj (ag U e1)) (ai (bh (dc (mf (qc (ag U O))) G) U) ap)
end
theorem CB {st:Sto}{r:Int} (r0:0<=r) (r1:r<8):∃ k:Nat,k<=4/\dIx st (.d (.lst [.int 4,.int 3,.int 3,.int 2,.int 3,.int 2,.int 1,.int 0])) (.d (.int r))=some (.int (k:Int)):=by
 obtain⟨m,rfl⟩:=qcL r0
 have:m=0\/m=1\/m=2\/m=3\/m=4\/m=5\/m=6\/m=7:=by lia
 rcases this with rfl|rfl|rfl|rfl|rfl|rfl|rfl|rfl
 ·exact⟨4,by decide,U⟩
 ·exact⟨3,by decide,U⟩
 ·exact⟨3,by decide,U⟩
 ·exact⟨2,by decide,U⟩
 ·exact⟨3,by decide,U⟩
 ·exact⟨2,by decide,U⟩
 ·exact⟨1,by decide,U⟩
 ·exact⟨0,by decide,U⟩
theorem CN {p:Pus}{rest:Sto}{Zq:Int}{j:Option W}{i:Nat}{a3 a4 a5 T C:Option W} (h:okU p Zq) (hZ:Zq<=500) (hi:i<2):∃ I f Q N M R P,okU I (Zq+300)/\wF [j,some (.h 1),Z (.int (i:Int)),a3,a4,a5,T,C] (pus p rest)=some (.nx [j,some (.h 1),Z (.int (i:Int)),Q,N,M,R,P] (pus I f)):=by
 obtain⟨q,p1,q0,q1,k1,e1⟩:=dn h (by lia) (m:=8) (by decide) (by decide);obtain⟨k,hk,ek⟩:=CB q0 q1;obtain⟨r,p2,r0,r1,k2,O⟩:=dn k1 (by lia) (m:=3) (by decide) (by decide);obtain⟨n,hn,en⟩:∃ n:Nat,n<=4/\dIx _ (.d (.lst [.int _,.int r])) (.d (.int (i)))=some (.int (n)):=by
  have:i=0\/i=1:=by lia
  rcases this with rfl|rfl
  ·exact⟨k,hk,U⟩
  ·obtain⟨m,rfl⟩:=qcL r0
   exact⟨m,by lia,U⟩
 obtain⟨fs,a,fl,fv,A,k3,e3⟩:=vD k2 (by lia) hn;obtain⟨d1,D1,f1⟩:=uf hn fl fv A true;obtain⟨d2,D2,f2⟩:=uf hn fl fv A false;have hd:=Nat.le_antisymm (xw fl D2 D1) (xw fl D1 D2);subst hd;obtain⟨F,o,g1⟩:=f1 _ [] [] j _ _ C (by decide);obtain⟨y,c,g2⟩:=f2 _ o [.int _] j _ _ F (by show 1<=10;decide);have fo:cn (.nm 6) kK [.str "both",.str "odd"] [j,some (.h 1),Z (.int (i:Int)),Z (.int (n:Int)),Z (.tup fs),some (.h (pus a rest).length),T,C] (pus a rest++[.l []])=some (.nx [j,some (.h 1),Z (.int (i:Int)),Z (.int (n:Int)),Z (.tup fs),some (.h (pus a rest).length),Z (.str "odd"),y] (pus a rest++.l [.int (d1:Int),.int (d1:Int)]::c)):=by
  have V:kK [j,some (.h 1),Z (.int (i:Int)),Z (.int (n:Int)),Z (.tup fs),some (.h (pus a rest).length),Z (.str "both"),C] (pus a rest++[.l []])=some (.nx [j,some (.h 1),Z (.int (i:Int)),Z (.int (n:Int)),Z (.tup fs),some (.h (pus a rest).length),Z (.str "both"),F] (pus a rest++.l [.int (d1:Int)]::o)):=g1
  have g2':kK [j,some (.h 1),Z (.int (i:Int)),Z (.int (n:Int)),Z (.tup fs),some (.h (pus a rest).length),Z (.str "odd"),F] (pus a rest++.l [.int (d1:Int)]::o)=some (.nx [j,some (.h 1),Z (.int (i:Int)),Z (.int (n:Int)),Z (.tup fs),some (.h (pus a rest).length),Z (.str "odd"),y] (pus a rest++.l [.int (d1:Int),.int (d1:Int)]::c)):=g2
  generalize (pus a rest).length=L at *;generalize pus a rest++[.l []]=q1 at *;generalize pus a rest++.l [.int (d1:Int)]::o=q2 at *;generalize pus a rest++.l [.int (d1:Int),.int (d1:Int)]::c=q3 at *;unfold cn;rw[show eZ (.nm 6) (.d (.str "both")) [j,some (.h 1),Z (.int (i:Int)),Z (.int (n:Int)),Z (.tup fs),some (.h L),T,C]=some [j,some (.h 1),Z (.int (i:Int)),Z (.int (n:Int)),Z (.tup fs),some (.h L),Z (.str "both"),C] from U,qaa,V,qaa]
  dsimp only;unfold cn;rw[show eZ (.nm 6) (.d (.str "odd")) [j,some (.h 1),Z (.int (i:Int)),Z (.int (n:Int)),Z (.tup fs),some (.h L),Z (.str "both"),F]=some [j,some (.h 1),Z (.int (i:Int)),Z (.int (n:Int)),Z (.tup fs),some (.h L),Z (.str "odd"),F] from U,qaa,g2',qaa]
  rfl
 have ix:∀ k:Int,k=0\/k=1->dIx (pus a rest++.l [.int (d1:Int),.int (d1:Int)]::c) (.h (pus a rest).length) (.d (.int k))=some (.int (d1:Int)):=λk hk=>by
  show (lg (pus a rest++.l [.int (d1:Int),.int (d1:Int)]::c) (pus a rest).length).bind (λds=>atI ds k)=_;rw[zL];rcases hk with rfl|rfl<;>rfl
 have hne:∀ s,dNe s (.d (.int (d1:Int))) (.d (.int (d1:Int)))=some (.bl false):=λs=>by
  show some (D.bl (!((d1:Int)==(d1:Int))))=_;rw[beq_self_eq_true];rfl
 obtain⟨d',X,w,e,S,z,_,_,E⟩:=FZ (b:=false) hn fl fv;have hle:=A0 fl A (λv Bv=>FA (ck hn fl fv) S (Hg z) Bv λt A=>.inr A) D1;have G:∃ H,dO (aC dLt (iV 3) (iC (.int 4))) (aC dGt (iOp dIx (iV 5) (iC (.int 0))) (iOp dIx (aq b9 (aa (iV 4) (aa (iC (.str "odd")) ae))) (iC (.int 0)))) [j,some (.h 1),Z (.int (i:Int)),Z (.int (n:Int)),Z (.tup fs),some (.h (pus a rest).length),Z (.str "odd"),y] (pus a rest++.l [.int (d1:Int),.int (d1:Int)]::c)=some (false,pus a rest++.l [.int (d1:Int),.int (d1:Int)]::c++H):=by
  have q:aC dLt (iV 3) (iC (.int 4)) [j,some (.h 1),Z (.int (i:Int)),Z (.int (n:Int)),Z (.tup fs),some (.h (pus a rest).length),Z (.str "odd"),y] (pus a rest++.l [.int (d1:Int),.int (d1:Int)]::c)=some (decide ((n:Int)<4),pus a rest++.l [.int (d1:Int),.int (d1:Int)]::c):=rfl
  cases h4:decide ((n:Int)<4) with
  |true=>
   rw[h4]at q;obtain⟨H,e4⟩:=E (pus a rest++.l [.int (d1:Int),.int (d1:Int)]::c);have e4':b9 [.d (.tup fs),.d (.str "odd")] (pus a rest++.l [.int (d1:Int),.int (d1:Int)]::c)=_:=e4
   exact⟨H,d5 q (ak (ac U U (ix 0 (.inl U))) (ac (ag U e4') U (yi _ _ _ _)) (gtF _ (by lia)))⟩
  |false=>
   rw[h4]at q;exact⟨[],by rw[qbf];exact jn q⟩
 obtain⟨H,G⟩:=G;refine⟨a,rest++.l [.int (d1:Int),.int (d1:Int)]::c++H,Z (.int (n:Int)),Z (.tup fs),some (.h (pus a rest).length),Z (.str "odd"),y,k3.mono (by lia),?_⟩
 have er:pus a (rest++.l [.int (d1:Int),.int (d1:Int)]::c++H)=pus a rest++.l [.int (d1:Int),.int (d1:Int)]::c++H:=rfl;rw[er];generalize pus a rest++.l [.int (d1:Int),.int (d1:Int)]::c=q3 at *;exact ai (aj (ac (ar (w6 (ab (ac U (ag U e1) ek) (ab (ag U O) U)) U (by show 2<=1000;decide))) U en)) (ai (aj (ag U e3)) (ai U (ai (bq U fo) (bh (dc (ak (ac U U (ix 0 (.inl U))) (ac U U (ix 1 (.inr U))) (hne _)) G) U))))
theorem zE (ns:List Int) (E:ns.length<=63):∃ st,uq [.d (.scr ns)] []=some (.d (.bl true),st):=by
 obtain⟨p,k0,e0⟩:=Ar ns E;obtain⟨env',s2,O,⟨Y,Q,N,M,R,P,rfl⟩,I,f,k',rfl⟩:=bH (g:=.nm 2) (λi env s=>(∃ Y Q N M R P,env=[Z (.scr ns),some (.h 1),Y,Q,N,M,R,P])/\∃ I f,okU I (300*i)/\s=pus I f)
  ⟨⟨_,_,_,_,_,_,U⟩,p,_,k0.mono (by lia),U⟩ (λi d env s hd ⟨⟨Y,Q,N,M,R,P,e⟩,I,f,k',es⟩=>by
   subst e es;obtain⟨rfl,hi⟩:=mO hd;obtain⟨p2,J,c3,c4,c5,c6,F,k2,e5⟩:=CN k' (by lia) hi
   exact⟨_,_,_,U,.inl e5,⟨_,_,_,_,_,_,U⟩,p2,J,k2.mono (by lia),U⟩)
 exact⟨_,(gn U (ai (aj (ag U e0)) (ai (bq (dM U (by decide) (by decide) (by decide)) O) U)))⟩
end Own
end
namespace Own
open PySem L2
theorem zI {b:List Value}{n:Nat} (h:b.length=n+1):∃ a r,b=a::r/\r.length=n:=by
 cases b with
 |nil=>cases h
 |cons a r=>exact⟨a,r,U,Nat.succ.inj h⟩
theorem F0 {b:List Value} (h:b.length=1):∃ a0,b=[a0]:=by
 obtain⟨a,r,rfl,g⟩:=zI h;exact⟨a,by rw[List.length_eq_zero_iff.1 g]⟩
theorem F1 {c:List Value} (h:c.length=2):∃ a0 a,c=[a0,a]:=by
 obtain⟨b,r,rfl,g⟩:=zI h;obtain⟨a,rfl⟩:=F0 g;exact⟨b,a,U⟩
theorem F2 {c:List Value} (h:c.length=3):∃ a0 a a2,c=[a0,a,a2]:=by
 obtain⟨b,r,rfl,g⟩:=zI h;obtain⟨a,a2,rfl⟩:=F1 g;exact⟨b,a,a2,U⟩
theorem D5 {d:List Value} (h:d.length=4):∃ a0 a a2 c,d=[a0,a,a2,c]:=by
 obtain⟨b,r,rfl,g⟩:=zI h;obtain⟨a,a2,c,rfl⟩:=F2 g;exact⟨b,a,a2,c,U⟩
theorem Hf {e:List Value} (h:e.length=5):∃ a0 a a2 c d,e=[a0,a,a2,c,d]:=by
 obtain⟨b,r,rfl,g⟩:=zI h;obtain⟨a,a2,c,d,rfl⟩:=D5 g;exact⟨b,a,a2,c,d,U⟩
theorem bnd {K:qae}:∀ p∈tbl,∀ f g,Fun K p.1 p.1 (top p.2.1) f g->dq K g (p.2.2.1.take p.2.2.2) []:=by
 iterate 54 refine qc6.2 ⟨λf g F=>F.binds λ_ _ _ _ _ _ b a=>(by first|(obtain⟨_,rfl⟩:=F0 a;rfl)|(obtain⟨_,_,rfl⟩:=F1 a;rfl)|(obtain⟨_,_,_,rfl⟩:=F2 a;rfl)|(obtain⟨_,_,_,_,rfl⟩:=D5 a;rfl)|(obtain⟨_,_,_,_,_,rfl⟩:=Hf a;rfl)),?_⟩
 exact λ_ h=>nomatch h
theorem fa_mk {K:qae}{x:Str}{i k:Nat}{N:List Str}{f:Addr}{g:qb6} (a:qer K qce x=some (some (.ref f))) (b:Fun K x x (top i) f g):∃ f g,qer K qce (rT x i N k).1=some (some (.ref f))/\Fun K (rT x i N k).1 (rT x i N k).1 (top (rT x i N k).2.1) f g:=⟨f,g,a,b⟩
theorem txt_mk {K:qae}{h:Heap}{mg:Str->Option Value} (X:K.In h) (G:h.Ns qce mg) (F:∀ p∈tbl,∃ f g,qer K qce p.1=some (some (.ref f))/\Fun K p.1 p.1 (top p.2.1) f g)
  (z:∀ x∈(["abs","all","any","bool","enumerate","int","isinstance","len","list","max","min","range","sorted","str","sum","tuple","zip"]:List Str),qer K qce x=some none)
  {a c:Addr}{d:qb6} (c1:qer K qce "Table" = some (some (.ref a))) (c2:qci K (.ref a) "__init__" = some (some (.ref c))) (c3:Fun K "__init__" "Table.__init__" cj c d)
  (m0:qfx K a=true) (m2:qhU K (.ref c)=true) (m3:qcD K (.ref a)=true) (d0:qek K a Str.empty=true) (d1:qd4 K a=true) (d2:qfa K a=true) (d3:qci K (.ref a) "__setattr__" = some (some (.builtin "object.__setattr__")))
  (na:∀ p∈cb,qci K (.ref a) p.1=some none)
  : Txt K mg:=
 ⟨λp e=>let ⟨f,g,a,b⟩:=F p e;⟨f,g,b,qhK X G a,bnd p e f g b⟩,λx h=>PySem.W.mg_none_of X G (z x h),a,c,d,qhK X G c1,c3,c3.binds λ_ _ _ _ _ _ j i=>(by obtain⟨_,_,_,_,rfl⟩:=D5 i;rfl),⟨m0,c2,m2,m3⟩,⟨d0,d1,d2,d3⟩,na⟩
theorem walk {l:qfy}{q:qaQ}{b:List Str}{XP:(Str->Option Value)->Heap->Prop}{YP:World->Heap->Prop}{d:DefRec}{K:Params->qae} (hn:l.most=some 63) (c:d.params.defaults=[])
  (o:∀ (w:World) (h:Heap),YP w h->(K w.params).In h)
  (F:∀ (w:World) (mg:Str->Option Value) (e:Addr) (h:Heap),(K w.params).In h->h.Ns qce mg->mg d.name=some (.ref e)->
    ∃ fd:qb6,(∀ (s:qaj) (u:Value),qhv s fd ⟨[u],[]⟩ [("_law_script",u)])/\∀ base:Heap,(K w.params).In base->base.Ns qce mg->dP l.prog w (K w.params) mg base CX0 9 e fd ["_law_script"] (spI (K w.params) uq)) :
  qhL q b XP YP l.row.toRowW d [] (λf j=>qhn f j):=
 L2.walk_of (n:=63) (k:=9) (x:="_law_script") (CX:=λ_=>CX0) (sp:=λw=>spI (K w.params) uq) hn (by decide) c ⟨U,by decide,by decide,U⟩ o F (λ_ _ a ns m g i=>CD g i (zE ns m)) λ_ _ _ _ _ z=>z
theorem law_mk {l:qfy}{w:World}{K:qae}{h:Heap}{mg:Str->Option Value}{b:Addr} (a:mg "law" = some (.ref b)) (T:Txt K mg) :
  ∃ fd:qb6,(∀ (s:qaj) (v:Value),qhv s fd ⟨[v],[]⟩ [("_law_script",v)])/\∀ base:Heap,K.In base->base.Ns qce mg->dP l.prog w K mg base CX0 9 b fd ["_law_script"] (spI K uq):=by
 obtain⟨f,g,F,m,_⟩:=T.F (rT "law" 64 ["_law_script","_law_purse_here","_law_turn","_law_n","_law_f","_law_degrees","_law_kind","_law_told_here"] 1) (by decide +kernel)
 have e:=a.symm.trans m;cases e
 refine⟨g,λs v=>?_,λbase _ _=>by
  have q:=Hj (P:=l.prog) (w:=w) (base:=base) T
  iterate 1 replace q:=q.2
  exact q _ _ F⟩
 obtain⟨j,k,kV,d,n,o,c,ct,i,e,_⟩:=F.ex;rw[e];exact .of_eq U
end Own
namespace PySem.W.Fast
theorem tw4521211515739523185:True:=⟨⟩
theorem tw9695593519542756964:True:=⟨⟩
theorem tw6942914811142786131:True:=⟨⟩
theorem tw15371724217986420626:True:=⟨⟩
theorem tw17771312409717636866:True:=⟨⟩
theorem tw16477393011779066494:True:=⟨⟩
theorem tw14075911894981173589:True:=⟨⟩
theorem tw11085506348160517685:True:=⟨⟩
theorem tw18186178426100504920:True:=⟨⟩
theorem tw11626382902523968704:True:=⟨⟩
theorem tw12655323266099940995:True:=⟨⟩
theorem tw2007869977314777017:True:=⟨⟩
theorem tw5508635846319078916:True:=⟨⟩
theorem tw2660564723023701980:True:=⟨⟩
theorem tw6232256872924296317:True:=⟨⟩
theorem tw15196108128504508024:True:=⟨⟩
theorem tw16411633973866009746:True:=⟨⟩
theorem tw4656277218600383469:True:=⟨⟩
theorem tw2444170514460845754:True:=⟨⟩
theorem tw17903020509274675467:True:=⟨⟩
theorem tw3276167444145948150:True:=⟨⟩
theorem tw18347970480471905243:True:=⟨⟩
theorem tw10769364510942622988:True:=⟨⟩
theorem tw3100255666354117066:True:=⟨⟩
theorem tw14841215300847670602:True:=⟨⟩
theorem tw18098366561113127924:True:=⟨⟩
theorem tw13950474901929779450:True:=⟨⟩
theorem tw10935083743830994915:True:=⟨⟩
theorem tw16387065596603193995:True:=⟨⟩
theorem tw9244963324250969078:True:=⟨⟩
theorem tw14290038906478354974:True:=⟨⟩
theorem tw11313890062103128162:True:=⟨⟩
theorem tw4502721941097841578:True:=⟨⟩
theorem tw14067945891864400224:True:=⟨⟩
theorem tw8796345404833795658:True:=⟨⟩
theorem tw16559287907167379168:True:=⟨⟩
theorem tw16226882588607151857:True:=⟨⟩
theorem tw1813090125649738218:True:=⟨⟩
theorem tw11093494545194646953:True:=⟨⟩
theorem tw2906528589200020426:True:=⟨⟩
theorem tw16059728220175463948:True:=⟨⟩
theorem tw17887175732413853222:True:=⟨⟩
theorem tw14941121103125968074:True:=⟨⟩
theorem tw2105644784481229972:True:=⟨⟩
theorem tw10513927564100008235:True:=⟨⟩
theorem tw4074618442004101864:True:=⟨⟩
theorem tw46667004063686891:True:=⟨⟩
theorem tw10819880947833430198:True:=⟨⟩
theorem tw3594883257438099641:True:=⟨⟩
theorem tw13116359224647045840:True:=⟨⟩
theorem tw9924502649088210378:True:=⟨⟩
theorem tw2607926957531156360:True:=⟨⟩
theorem tw12292944367627471591:True:=⟨⟩
theorem tw4093315029060262365:True:=⟨⟩
theorem tw16049290423853637869:True:=⟨⟩
theorem tw9534573372837442557:True:=⟨⟩
theorem tw7541321910120754556:True:=⟨⟩
theorem tw6653762817684905021:True:=⟨⟩
theorem tw13783221383358660741:True:=⟨⟩
theorem tw15892041824249895882:True:=⟨⟩
theorem tw12718520936876029394:True:=⟨⟩
theorem tw15948891332873826443:True:=⟨⟩
theorem tw6697881805508260365:True:=⟨⟩
theorem tw14687949641794905752:True:=⟨⟩
theorem tw16705326762951702667:True:=⟨⟩
theorem tw13067626782270899241:True:=⟨⟩
theorem tw16568286769177887631:True:=⟨⟩
theorem tw6955408334244638531:True:=⟨⟩
theorem tw10519115311185757905:True:=⟨⟩
theorem tw15474809109592794447:True:=⟨⟩
theorem tw5074658631017900795:True:=⟨⟩
theorem tw1548005497102459447:True:=⟨⟩
theorem tw7026518872595246347:True:=⟨⟩
theorem tw7277721310927255938:True:=⟨⟩
theorem tw12303339506343305643:True:=⟨⟩
theorem tw14920676593005332732:True:=⟨⟩
theorem tw9830386356955784504:True:=⟨⟩
theorem tw13326377689290574170:True:=⟨⟩
theorem tw12857328965421706825:True:=⟨⟩
theorem tw14464798568452847517:True:=⟨⟩
theorem tw17277420867900651274:True:=⟨⟩
theorem tw6168978843397515520:True:=⟨⟩
theorem tw10306493058355011633:True:=⟨⟩
theorem tw15172114318351051742:True:=⟨⟩
theorem tw16352881255145097661:True:=⟨⟩
theorem tw14332059302039617737:True:=⟨⟩
theorem tw16462736603837661545:True:=⟨⟩
theorem tw12699373211532096002:True:=⟨⟩
theorem tw3515871927904808845:True:=⟨⟩
theorem tw13547331763318467896:True:=⟨⟩
theorem tw17583787200865994315:True:=⟨⟩
theorem tw13040259132433733035:True:=⟨⟩
theorem tw8149414484772351019:True:=⟨⟩
theorem tw16641408717051601385:True:=⟨⟩
theorem tw15235410391399664850:True:=⟨⟩
theorem tw656923630691869749:True:=⟨⟩
theorem tw5657857883338720631:True:=⟨⟩
theorem tw12705569624225016731:True:=⟨⟩
theorem tw2995802977137747830:True:=⟨⟩
theorem tw8119058886823797859:True:=⟨⟩
theorem tw4666456018068834175:True:=⟨⟩
theorem tw17342771784919357172:True:=⟨⟩
theorem tw15336350413213868849:True:=⟨⟩
theorem tw4156508512171436407:True:=⟨⟩
theorem tw3882415534480331477:True:=⟨⟩
theorem tw7408571496379941378:True:=⟨⟩
theorem tw607390400672241482:True:=⟨⟩
theorem tw7617611897492365407:True:=⟨⟩
theorem tw15304832197269400462:True:=⟨⟩
theorem tw13030680264773778168:True:=⟨⟩
theorem tw492748008810131285:True:=⟨⟩
theorem tw15581354397867254861:True:=⟨⟩
theorem tw2321183584044526781:True:=⟨⟩
theorem tw9827646483595025673:True:=⟨⟩
theorem tw8071374412472867991:True:=⟨⟩
theorem tw3219080041179590259:True:=⟨⟩
theorem tw438844830539313547:True:=⟨⟩
theorem tw4963294566715153599:True:=⟨⟩
theorem tw7684135365144780787:True:=⟨⟩
theorem tw11701376938477605223:True:=⟨⟩
theorem tw1332306134144000653:True:=⟨⟩
theorem tw12873850270433982975:True:=⟨⟩
theorem tw17940595952921137559:True:=⟨⟩
theorem tw2427210407840987256:True:=⟨⟩
theorem tw9640126208845462818:True:=⟨⟩
theorem tw1300218936892088044:True:=⟨⟩
theorem tw13829699028493799193:True:=⟨⟩
theorem tw9555641705244248427:True:=⟨⟩
theorem tw12733991728505661147:True:=⟨⟩
theorem tw16774927398425719133:True:=⟨⟩
theorem tw1861531248991456299:True:=⟨⟩
theorem tw17527021674608245305:True:=⟨⟩
theorem tw13875582985793365620:True:=⟨⟩
theorem tw12000877072491408726:True:=⟨⟩
theorem tw103293326449310186:True:=⟨⟩
theorem tw425293855446004782:True:=⟨⟩
theorem tw6866097589123776850:True:=⟨⟩
theorem tw7504139737507994469:True:=⟨⟩
theorem tw2406532548484372532:True:=⟨⟩
theorem tw6671277206891488203:True:=⟨⟩
theorem tw10271617956723168542:True:=⟨⟩
theorem tw11629347149406954593:True:=⟨⟩
theorem tw7829295910600221766:True:=⟨⟩
theorem tw4362137455086179855:True:=⟨⟩
theorem tw16493080400801210116:True:=⟨⟩
theorem tw3542683620924650547:True:=⟨⟩
theorem tw18280153336754844227:True:=⟨⟩
theorem tw9799440637205154200:True:=⟨⟩
theorem tw10102648216811604920:True:=⟨⟩
theorem tw6044031180321149973:True:=⟨⟩
theorem tw10176994115111268550:True:=⟨⟩
end PySem.W.Fast
open PySem PySem.W PyProof.Rows
set_option maxRecDepth 100000 in
set_option maxHeartbeats 0 in
theorem PySem.Challenge.cw_signpoly_k39_weak_degrees_told_holds : PySem.Challenge.rw_signpoly_k39_weak_degrees_told.Holds := by
 w_on;o_law;k_head;(case hw=>w_witness2)
 k_fill
 refine Own.walk (l:=PySem.Challenge.rw_signpoly_k39_weak_degrees_told) rfl rfl (λw h Y=>PySem.W.kIn_of Y) ?F
 case F=>
  intro w mg d h KX G a;refine Own.law_mk (h:=h) a ?T
  case T=>
   refine' Own.txt_mk KX G ?F ?z ?c1 ?c2 ?c3 ?m0 ?m2 ?m3 ?d0 ?d1 ?d2 ?d3 ?na
   case F=>(iterate 54 (refine' qc6.2 ⟨Own.fa_mk ?e ?b,?_⟩;(case e=>k_is);(case b=>(refine' L2.fun_mk ?l ?c ?k;(case l=>k_is);(case c=>k_is);case k=>k_is))));intro _ h;cases h
   case z=>(iterate 17 (refine qc6.2 ⟨by k_is,?_⟩));intro _ h;cases h
   case c1=>k_is
   case c2=>k_is
   case c3=>refine' L2.fun_mk ?l ?c ?k;(case l=>k_is);(case c=>k_is);case k=>k_is
   case m0=>kernel_rfl
   case m2=>kernel_rfl
   case m3=>kernel_rfl
   case d0=>kernel_rfl
   case d1=>kernel_rfl
   case d2=>kernel_rfl
   case d3=>kernel_rfl
   case na=>(iterate 6 (refine qc6.2 ⟨by kernel_rfl,?_⟩));intro _ h;cases h
