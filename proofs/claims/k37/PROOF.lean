import PyProof.Rows.All
import Wide.All
import OpenK.AllK
import Wide.FinOn
import Lean
import PyProof.EqAt
import PyProof.EqKinds
import PyProof.TupleCall
import PyProof.ListRange
import PyProof.NeKinds
import KE.KUnpack
import KE.KSortTup
import PyProof.ZipIter
import PyProof.Rows.CallKwBuiltin
import KE.KFind
import KE.KDictLaws
import KE.KDictList
import PyProof.SetKind
import PyProof.SetRoads
import PyProof.Rows.SetFrom
import PyProof.WalksMore
import PyProof.Rows.SortStr
import KE.KTupSum
import PySem.Challenge.RW_signpoly_k37_least_degrees_told
set_option Elab.async false
set_option linter.all false
set_option maxRecDepth 100000
set_option genSizeOf false
noncomputable section
open And renaming right -> qgT, left -> qhv
open Array renaming getElem?_eq_getElem -> qbz, length_toList -> qcy, getElem?_eq_none -> qdu, getElem_toList -> qdN, getElem?_toList -> qeB, perm_iff_toList_perm -> qfU, toList -> qgD
open Bool renaming false_ne_true -> qaB, and_eq_true -> qa8, false_eq_true -> qbm, not_eq_true -> qeu, eq_iff_iff -> qeG, or_eq_true -> qhR, and_true -> qik, and_self -> qil, true_or -> qiJ
open Decidable renaming byContradiction -> qcY
open False renaming elim -> qcv
open Int renaming mul_left_comm -> qaS, mul_comm -> qaX, mul_zero -> qa1, toNat_natCast -> qa6, mul_right_comm -> qbn, mul_assoc -> qbo, zero_mul -> qbC, zero_add -> qbV, le_refl -> qb3, mul_eq_zero -> qck, mul_add -> qco, one_mul -> qcF, mul_sub -> qcG, ofNat_dvd_left -> qcP, mul_one -> qcX, natAbs_mul -> qdg, neg_mul -> qdI, mul_le_mul_of_nonneg_left -> qdP, mul_ediv_cancel' -> qdQ, mul_lt_mul_of_pos_right -> qdY, ediv_nonneg -> qdZ, lt_of_mul_lt_mul_right -> qd5, fdiv_eq_ediv_of_nonneg -> qd6, lt_or_eq_of_le -> qd9, le_trans -> qea, add_zero -> qeb, mul_nonneg -> qef, eq_of_mul_eq_mul_left -> qeg, eq_ofNat_of_zero_le -> qes, add_mul -> qet, emod_nonneg -> qeO, emod_lt_of_pos -> qfg, mul_le_mul_of_nonneg_right -> qfC, sub_mul -> qf3, mul_neg -> qf4, eq_of_mul_eq_mul_right -> qge, mul_neg_of_pos_of_neg -> qgk, mul_ediv_cancel_left -> qgq, reduceNeg -> qgC, sub_zero -> qgR, le_of_lt -> qgS, natAbs_neg -> qie, mul_pos -> qjN
open List renaming mem_cons_self -> qag, length_map -> qah, mem_cons_of_mem -> qaj, range -> qak, mem_singleton -> qal, getElem?_eq_getElem -> qam, length_cons -> qaq, getElem?_eq_some_iff -> qar, length_range -> qat, mem_append_right -> qav, map_cons -> qaw, mem_cons -> qay, length_append -> qaz, getElem?_map -> qaA, getElem?_eq_none -> qaC, getElem?_append_left -> qaD, getD_eq_getElem?_getD -> qaE, mem_map -> qaF, size_toArray -> qaG, replicate -> qaH, getElem?_append_right -> qaK, mem_range -> qaN, map_map -> qaO, mem_append -> qaR, mem_append_left -> qaV, all_eq_true -> qa3, getElem?_range -> qa7, pairwise_cons -> qbi, append_nil -> qbl, getElem?_set_self -> qbq, mem_of_getElem? -> qbr, getD_cons_zero -> qbu, map_append -> qbv, lookup_cons -> qbw, ext_getElem? -> qbA, getElem?_set_ne -> qbB, all_cons -> qbE, length_singleton -> qbI, not_mem_nil -> qbJ, mem_filter -> qbO, getElem?_eq_none_iff -> qbP, getElem_mem -> qbQ, getD_cons_succ -> qbR, append_assoc -> qb1, length_set -> qb5, length_filter_le -> qb6, any_cons -> qcf, nodup_cons -> qch, map_congr_left -> qci, length_nil -> qcj, sum_cons -> qcn, nodup_append -> qcx, filter_cons_of_pos -> qcA, filter_cons_of_neg -> qcB, take_left -> qcH, length_replicate -> qcT, mem_iff_getElem -> qc1, forall_mem_cons -> qc2, nodup_nil -> qc7, drop_eq_getElem_cons -> qc8, take_length -> qde, length_take -> qdf, zip_cons_cons -> qdn, getElem?_replicate -> qdo, find?_cons -> qdp, take_of_length_le -> qdx, range_succ_eq_map -> qdy, pairwise_map -> qdA, mapM_toArray -> qdB, getElem_inj -> qdL, cons_append -> qdM, replicate_zero -> qdS, replicate_succ -> qdT, range_succ -> qdU, nil_append -> qdV, mem_map_of_mem -> qdW, lookup -> qdX, filter_append -> qd4, getElem?_take_of_lt -> qej, filter_cons -> qeq, any_eq_true -> qer, find?_cons_of_pos -> qew, find?_cons_of_neg -> qex, map_nil -> qeE, range' -> qeU, length -> qeV, filter_sublist -> qeW, filterMap_cons -> qeX, mem_filterMap -> qfc, take_add_one -> qfm, filter_congr -> qfn, any_eq_false -> qfo, sublist_nil -> qfz, all_toArray -> qfA, of_mem_zip -> qfP, getD -> qfQ, forIn_cons -> qfR, filter_map -> qfS, pairwise_iff_getElem -> qgc, pairwise_singleton -> qgn, idxOf?_eq_some_iff -> qgo, filter_eq_nil_iff -> qgB, all_map -> qgI, replicate_succ' -> qgP, range_eq_range' -> qgQ, map_id -> qg0, flatten_append -> qg1, filter_eq_self -> qg2, set_cons_zero -> qhi, set_cons_succ -> qhj, map -> qhk, getElem_range -> qhl, push_toArray -> qhr, flatten_cons -> qhs, Nodup -> qht, zipIdx_cons -> qhH, length_drop -> qhI, isEmpty_iff -> qhJ, getElem_map -> qhK, drop_length -> qhL, zipIdx_nil -> qhP, filter_nil -> qhQ, forIn_nil -> qhY, drop_zero -> qhZ, drop_drop -> qh0, foldl -> qjM, drop -> qk1
open List.Pairwise renaming sublist -> qiA, map -> qiB
open List.Perm renaming refl -> qdq, eq_of_pairwise -> qfB
open List.Sublist renaming refl -> qdi
open Nat renaming le_refl -> qao, ne_of_lt -> qax, add_sub_cancel_left -> qaI, lt_of_lt_of_le -> qaQ, le_trans -> qaT, lt_succ_of_lt -> qaZ, lt_irrefl -> qa2, zero_add -> qbh, pow_le_pow_right -> qbs, lt_of_le_of_lt -> qbF, lt_succ_self -> qbZ, ne_of_gt -> qcg, mul_le_mul_right -> qcw, zero_le -> qcE, add_sub_cancel -> qcN, not_lt_zero -> qcV, le_succ -> qcW, mul_le_mul -> qdd, le_add_right -> qdh, le_of_eq -> qdK, succ_ne_self -> qev, lt_trans -> qeL, le_of_lt -> qeM, add_comm -> qeN, reduceSub -> qff, sub_self -> qfx, lt_or_ge -> qfy, two_pow_pos -> qf0, pow_pos -> qf1, gcd -> qf2, reduceAdd -> qgA, testBit_lt_two_pow -> qgH, mul_comm -> qgO, pow_lt_pow_right -> qgZ, pow_add -> qhh, not_lt -> qhG, mod_eq_of_lt -> qhO, dvd_trans -> qiz, sub_zero -> qju, gcd_comm -> qjv, add_zero -> qjw, pow_mul -> qjJ, one_mul -> qjK, add_mul -> qjL
open Ne renaming symm -> qbk
open Option renaming bind_some -> qaa, bind_eq_some_iff -> qac, map_eq_some_iff -> qad, map_some -> qap, isSome_iff_exists -> qcs, getD_none -> qhg
open Option.some renaming inj -> qaL, injEq -> qeK
open Prod renaming fst -> qdc, snd -> qfL
open PyProof.Rows renaming boot_list -> qaU, boot_isinstance -> qaW, boot_sorted -> qa0, boot_tuple -> qa4, boot_bool -> qa5, boot_sum -> qa9, boot_str -> qba, boot_min -> qbb, boot_max -> qbc, boot_int -> qbd, boot_any -> qbe, boot_all -> qbf, boot_abs -> qbg, wpS_bind -> qbx, slot_tuple_getitem -> qbG, SortSt -> qbY, IntsAre -> qb2, wpS_pure -> qcb, callWith_type1 -> qcc, SortKind -> qdl, lt_int -> qdz, wpS_forRange -> qen, envOfC -> qez, pendingOf -> qe2, boot_range -> qfl, KeyOrd -> qfp, AllBare -> qfw, seqObj -> qfG, assignInOrder_cons -> qfI, wpS_modify -> qgU, wpS_get -> qg6, listUpdate_at -> qhb, failedOf -> qhc, subscriptTail_builtinR -> qhn, seqEpoch_at -> qhT, keyKind'_eq -> qhU, getElem?_mirror_all -> qhV, entry_tuple_getitem -> qhW, wpS_mono -> qh4, oneType' -> qh6, keyKind' -> qh7, gallopOf -> qh8, args_tuple_getitem -> qia, size_push' -> qir, assignInOrder_nil -> qis, Subscript_ -> qiv, truthy_int -> qjq, gt_int -> qjr, envOfC -> qjs, callWith_builtin1 -> qjt, sortedAll -> qjA, oneTypeOnly'_eq -> qjD, mirror -> qjE, getElem?_bubble -> qjG, entry_list_sort -> qjH, slot_list_sort -> qjR, slicePart_none -> qjS, boot_enumerate -> qjX, args_list_sort -> qjY
open PyProof.Rows.KeyOrd renaming kle_refl -> qcO, kle_of_klt -> qdt, kle_trans -> qdJ, kle_antisymm -> qgJ
open PyProof.Rows.SortSt renaming mk' -> qiw
open PySem renaming wpAny_bind -> qab, Shared -> qai, wpAny_pure -> qan, sizeLine -> qaJ, Program -> qaM, Around -> qaY, boot_len -> qbp, mem_of_lookup -> qbt, Spec -> qby, starEach -> qbD, binaryOp -> qbH, wpAny_seqItems -> qbK, wpAny_callSpecial?_slot -> qbL, compareOp -> qbN, wpAny_holding -> qbT, wpAny_call_entry -> qbU, foldedSetIterable -> qbW, assignEach -> qbX, NameKind -> qb0, FuncData -> qb4, wpAny_newObj_type -> qb8, wpAny_field -> qb9, mainGlobals -> qca, bootBuiltins -> qcd, wpAny_tryCatch -> qcl, wpAny_truthy_bool -> qcm, wpAny_mono -> qcq, sysModules -> qcr, swapsWith -> qct, cellsFrom -> qcu, codeAny_builtin -> qcD, wpAny_letGo -> qcJ, wpAny_typeNameOfWhole_keyiter -> qcQ, call_meets -> qcS, wpAny_pyNext_list_item -> qcU, wpAny_setField_rec -> qcZ, wpAny_pyIter_tuple -> qc0, wpAny_pyNext_list_end -> qc3, wpAny_passesOwn -> qc4, pushCells_keeps -> qc5, IntMulOk -> qc6, plainId_quiet -> qda, attributeBase -> qdb, sizeLine_eq -> qdr, wpAny_rule -> qds, wpAny_updateSeq -> qdE, swapsWithSole -> qdF, swappedStores -> qdG, codeAny -> qdH, wpAny_pyIter_list -> qdO, sliceBounds -> qec, DictEntry -> qeh, wpAny_Call_Name_kw -> qeo, wpAny_pyIter_enum -> qey, wpAny_standAt -> qeH, wpAny_attempt -> qeI, wpAny_ite_false -> qeZ, wpAny_execs_nil -> qe0, pushCells -> qe1, getItem -> qe3, backTo -> qe4, Builtin -> qe9, wpAny_updateSeq_pair -> qfd, list_append -> qfe, wpAny_setField -> qfk, wpAny_onRaise -> qfE, wpAny_newList -> qfF, behindInMarks -> qfH, wpAny_dictEntries -> qfV, typeIs_int -> qfW, holding -> qfX, codeAny_mono -> qf8, assign -> qf9, Paired -> qgb, IsPart -> qgd, noFill_tuple_add -> qgg, IntMulOk -> qgp, wpAny_dictEpoch -> qgs, tupleKind -> qgt, subscripted -> qgu, rawInt -> qgv, letOwnedTupleGo -> qgw, keywordEach -> qgx, Within -> qgz, intBits_le_iff -> qgE, wpAny_binaryOp_repeat_ref -> qgK, wpAny_comprehension_free -> qgV, pyNext -> qgW, builtinsNs -> qgX, IsPair -> qg3, wpAny_pyNext_enum_itemD -> qg7, valueAt -> qg8, seq_tuple_add -> qg9, rangeSize_one -> qha, compEnvC -> qhd, callerA -> qhe, call -> qhf, BindsTo -> qhm, richCompare_meets_room -> qho, codeAny_compStart_list -> qhp, wpAny_typeOf -> qhw, wpAny_isOneOf_keyiter -> qhx, seqIndex_neg -> qhy, pyIter -> qhz, concat_meets -> qhA, Result -> qhB, PassesOwn -> qhE, seqIndex_of -> qhS, Keyword -> qh1, tupleKind_room_in1 -> qh5, backToKw -> qh9, GenState -> qig, wpAny_sequenceKey -> qim, wpAny_call -> qin, wpAny_assign_Name -> qio, wpAny_Name -> qip, slot_list_getitem -> qiq, again -> qix, wpAny_pyIter_zip -> qiK, wpAny_isInstance -> qiL, wpAny_forIn_list -> qiM, wpAny_execs_cons -> qiN, standAt -> qjz, setItem -> qjB, seqIndex? -> qjC, isTrue -> qjF, wpAny_newTuple -> qjO, wpAny_fieldsOf -> qjP, wpAny_bindName -> qjQ, recursionLimit -> qjT, isSubtype_stop -> qjU, fitsIndex_both -> qjV, firstArgMember -> qjW
open PySem.Around renaming under_plainId -> qcp, under -> qgr
open PySem.AutoSeq1 renaming sub_tuple_tuple -> qfN
open PySem.Builtin renaming bitAnd -> qd0
open PySem.Builtin.Dict renaming showsAll -> qfD
open PySem.Builtin.List renaming listTooLong -> qfj
open PySem.Builtin.Range renaming rangeFitsLong -> qeS, rangeSize -> qfi, small -> qiI
open PySem.Builtin.Slice renaming slicePlaces -> qcM, sliceAdjust -> qe8, slicePartIndex -> qiG, sliceApplied -> qiH
open PySem.Builtin.SmallTypes renaming nextOf -> qcC, ownedTupleHandOut -> qd1, ownedTupleIsFree -> qhu
open PySem.Builtin.Tuple renaming tupleCompareSizes -> qeA, tupleItemsOf -> qeY, tupleTooMany -> qiF
open PySem.Calls renaming Name_function_global -> qfT, call_function_entry -> qf7
open PySem.Code renaming isGuard -> qiD, isFrame -> qiE, frames -> qjy
open PySem.Draws renaming list -> qjx
open PySem.Env renaming kindOf -> qk2
open PySem.F renaming slot_dict_keyiterator_next -> qbS, plain_min_loop -> qcK, plain_max_loop -> qcL, slot_tuple_iterator_next -> qc9, slot_tuple_lt -> qdw, args_tuple_add_2 -> qd3, entry_tuple_add -> qed, args_tuple_lt_2 -> qee, slot_tuple_add -> qek, entry_tuple_lt -> qel, args_dict_keyiterator_next_1 -> qeD, slot_tuple_mul -> qeF, entry_dict_keyiterator_next -> qeJ, slot_zip_next -> qeQ, slot_int_rmul -> qeR, args_list_append_2 -> qe7, entry_list_append -> qfh, slot_list_append -> qfu, args_tuple_mul_2 -> qfv, entry_tuple_mul -> qfM, slot_list_index -> qfY, plainAttrs_list -> qfZ, entry_min_loop -> qf5, entry_max_loop -> qf6, slot_dict_iter -> qga, args_tuple_iterator_next_1 -> qgf, entry_tuple_iterator_next -> qgl, args_zip_next_1 -> qh2, args_int_rmul_2 -> qh3, slot_int_index -> qih, entry_zip_next -> qii, entry_int_rmul -> qij, fills_int_mul -> qiC
open PySem.Heap renaming get?_push_of_some -> qaf, get?_push_size -> qas, lt_size -> qau, get?_update_other -> qaP, size_push -> qbj, get?_update_self -> qb7, SameBut -> qdk, get?_push_ne -> qdC, get?_update_ne -> qg4, ExtBut -> qg5, size_update -> qhM
open PySem.Heap.IsSliceOf renaming new -> qif
open PySem.Heap.SameBut renaming update -> qdD
open PySem.IntMulOk renaming of_le -> qic
open PySem.IsL renaming update -> qe6
open PySem.Obj renaming mapSeq -> qcI, data_mapFields -> qd8, isFreed_of_fields -> qgN, cls_mapFields -> qhF
open PySem.Paired renaming length -> qeT, snoc -> qid
open PySem.PassesOwn renaming never -> qem
open PySem.SeqAt renaming EqAt -> qdv, ne_of_list_tuple -> qgm, RcNeAt -> qib, RcAt -> qjo, list_indexAt -> qjI
open PySem.SeqAt.EqAt renaming of_refs -> qeC, same -> qfb, str_int -> qgh, int_str -> qgi, int_int -> qgj, tuple_str -> qkx, tuple_none -> qky, tuple_list -> qkz, tuple_int -> qkA, tuple_bool -> qkB, str_tuple -> qkC, str_str -> qkD, str_none -> qkE, str_list -> qkF, str_bool -> qkG, none_tuple -> qkH, none_str -> qkI, none_list -> qkJ, none_int -> qkK, none_bool -> qkL, list_tuple -> qkM, list_str -> qkN, list_none -> qkO, list_int -> qkP, list_bool -> qkQ, int_tuple -> qkR, int_none -> qkS, int_list -> qkT, int_bool -> qkU, bool_tuple -> qkV, bool_str -> qkW, bool_none -> qkX, bool_list -> qkY, bool_int -> qkZ, bool_bool -> qk0
open PySem.SeqAt.RcAt renaming tuples -> qeP, lists_lengths -> qfq, lists -> qgy, tuple_str -> qjZ, tuple_none -> qj0, tuple_list -> qj1, tuple_int -> qj2, tuple_bool -> qj3, str_tuple -> qj4, str_str -> qj5, str_none -> qj6, str_list -> qj7, str_int -> qj8, str_bool -> qj9, none_tuple -> qka, none_str -> qkb, none_none -> qkc, none_list -> qkd, none_int -> qke, none_bool -> qkf, list_tuple -> qkg, list_str -> qkh, list_none -> qki, list_int -> qkj, list_bool -> qkk, int_tuple -> qkl, int_str -> qkm, int_none -> qkn, int_list -> qko, int_int -> qkp, int_bool -> qkq, bool_tuple -> qkr, bool_str -> qks, bool_none -> qkt, bool_list -> qku, bool_int -> qkv, bool_bool -> qkw
open PySem.SeqAt.RcNeAt renaming tuples -> qfO, tuple_str -> qiO, tuple_none -> qiP, tuple_list -> qiQ, tuple_int -> qiR, tuple_bool -> qiS, str_tuple -> qiT, str_str -> qiU, str_none -> qiV, str_list -> qiW, str_int -> qiX, str_bool -> qiY, none_tuple -> qiZ, none_str -> qi0, none_none -> qi1, none_list -> qi2, none_int -> qi3, none_bool -> qi4, lists_lengths -> qi5, lists -> qi6, list_tuple -> qi7, list_str -> qi8, list_none -> qi9, list_int -> qja, list_bool -> qjb, int_tuple -> qjc, int_str -> qjd, int_none -> qje, int_list -> qjf, int_int -> qjg, int_bool -> qjh, bool_tuple -> qji, bool_str -> qjj, bool_none -> qjk, bool_list -> qjl, bool_int -> qjm, bool_bool -> qjn
open PySem.Str renaming ofString -> qd7
open PySem.Value renaming isStrOf -> qhX, isInt -> qiu
open PySem.W renaming Frag -> qae, kia_one -> qbM, findIn -> qce, keepIn -> qcz, emptyDict -> qcR, instObj -> qdj, cellsFrom_some -> qdm, fnOf -> qdR, hasDictIn -> qd2, plainGet -> qei, nsIn -> qep, plainOver -> qe5, takerIn -> qfr, makesIn -> qfs, OpenLaw -> qft, lookIn -> qfJ, codeIn -> qfK, kitx_tuple -> qgF, callWith_K -> qgG, kitx_list -> qgL, kitx_dict -> qgM, handedIn -> qgY, kitOne -> qhq, mg_of -> qhC, WalkO -> qhD, isFn -> qhN
open PySem.W.Looks renaming here -> qiy
open PySem.W.WShape renaming has -> qit
open PySem.WalksT renaming enumerateD -> qfa
open PySem.Within renaming cons -> qjp
def U{α:Sort u}{a:α}:a=a:=rfl
def iFN{c:Prop}[d:Decidable c](h:¬c){α:Sort u}{t e:α}:ite c t e=e:=if_neg h
def iFP{c:Prop}[d:Decidable c](h:c){α:Sort u}{t e:α}:ite c t e=t:=if_pos h
namespace L2
open PySem PySem.Spec PyProof.Rows
abbrev Key:=Sum Int Str
def oZ:Key->Value->Bool
 |.inl k,v=>qiu k v
 |.inr x,v=>qhX x v
def GR (w:World):Key->Int
 |.inl k=>hashInt k
 |.inr x=>hashStr w x
theorem bG:∀ {k:Key}{v:Value},oZ k v=true->(∃ i t,k=Sum.inl i/\v=Value.int i t)\/(∃ x t,k=Sum.inr x/\v=Value.str x t)
 |.inl i,v,h=>by
  obtain⟨t,e⟩:=Value.isInt_shape h;exact .inl ⟨i,t,U,e⟩
 |.inr x,v,h=>by
  obtain⟨t,e⟩:=Value.isStrOf_shape h;exact .inr ⟨x,t,U,e⟩
theorem xO (i:Int) (t:Tok):oZ (.inl i) (.int i t)=true:=by simp[oZ,qiu]
theorem xP (x:Str) (t:Tok):oZ (.inr x) (.str x t)=true:=by simp[oZ,qhX]
theorem DA (a b:Int):decide ((Sum.inl a:Key)=Sum.inl b)=(a==b):=by
 by_cases e:a=b
 ·subst e;simp
 ·rw[decide_eq_false (λq=>e (Sum.inl.inj q))]
  exact (beq_eq_false_iff_ne.mpr e).symm
theorem DE (a b:Str):decide ((Sum.inr a:Key)=Sum.inr b)=decide (a=b):=by
 by_cases e:a=b
 ·simp
 ·rw[decide_eq_false (λq=>e (Sum.inr.inj q)),decide_eq_false e]
theorem DB (a:Int) (b:Str):decide ((Sum.inl a:Key)=Sum.inr b)=false:=decide_eq_false (λq=>nomatch q)
theorem DC (a:Str) (b:Int):decide ((Sum.inr a:Key)=Sum.inl b)=false:=decide_eq_false (λq=>nomatch q)
def ca (prog:qaM) (w:World):PySem.KeyKind prog w Key where
 is:=oZ
 hash:=GR w
 inj:=λv a b f hb=>by
  rcases bG f with⟨i,t,rfl,rfl⟩|⟨x,t,rfl,rfl⟩
  ·rcases bG hb with⟨j,u,rfl,e⟩|⟨y,u,rfl,e⟩
   ·injection e with c _;rw[c]
   ·exact nomatch e
  ·rcases bG hb with⟨j,u,rfl,e⟩|⟨y,u,rfl,e⟩
   ·exact nomatch e
   ·injection e with c _;rw[c]
 byValue:=λk v h=>by
  rcases bG h with⟨i,t,rfl,rfl⟩|⟨x,t,rfl,rfl⟩<;>rfl
 pyHash:=λd h=>by
  rcases bG d with⟨i,t,rfl,rfl⟩|⟨x,t,rfl,rfl⟩
  ·exact wpAny_pyHash_int h
  ·exact wpAny_pyHash_str h
 eqBool:=λg d h=>by
  rcases bG g with⟨i,t,rfl,rfl⟩|⟨x,t,rfl,rfl⟩
  ·rcases bG d with⟨j,u,rfl,rfl⟩|⟨y,u,rfl,rfl⟩
   ·rw[DA]at h;exact wpAny_eqBool_int h
   ·rw[DB]at h;exact qgi i t y u _ _ _ _ h
  ·rcases bG d with⟨j,u,rfl,rfl⟩|⟨y,u,rfl,rfl⟩
   ·rw[DC]at h;exact qgh x t j u _ _ _ _ h
   ·rw[DE]at h;exact wpAny_eqBool_str h
 «strs»:=λk x t v h=>by
  rcases bG h with⟨i,u,rfl,e⟩|⟨y,u,rfl,e⟩
  ·exact nomatch e
  ·injection e with c _
   subst c;cases v<;>rfl
theorem tH (prog:qaM) (w:World) (i:Int) (t:Tok):(ca prog w).is (.inl i) (.int i t)=true:=xO i t
theorem tJ (prog:qaM) (w:World) (x:Str) (t:Tok):(ca prog w).is (.inr x) (.str x t)=true:=xP x t
inductive V where
 |non|bl (b:Bool)|int (i:Int)|str (x:Str)|byt (b:Array UInt8)|flt (b:UInt64)|ref (a:Addr)|ty (n:String)
 deriving DecidableEq
def aP:V->Value->Prop
 |.non,u=>u=Value.none
 |.bl b,u=>u=Value.bool b
 |.int i,u=>∃ t,u=Value.int i t
 |.str x,u=>∃ t,u=Value.str x t
 |.byt b,u=>∃ t,u=Value.bytes b t
 |.flt b,u=>∃ t,u=Value.float b t
 |.ref a,u=>u=Value.ref a
 |.ty n,u=>u=Value.type n
abbrev aH:List V->List Value->Prop:=qgb aP
theorem aH.length {xs:List V}{a:List Value} (r:aH xs a):xs.length=a.length:=qeT r
theorem aH.get:∀ {xs:List V}{a:List Value}{i:Nat}{x:V},aH xs a->xs[i]?=some x->∃ u,a[i]?=some u/\aP x u
 |_,_,_,_,.nil,e=>by simp at e
 |_,_,0,_,.cons r _,e=>by simp at e;subst e;exact⟨_,U,r⟩
 |_,_,i+1,x,.cons _ t,e=>by
  obtain⟨u,c,b⟩:=aH.get t (by simpa using e);exact⟨u,by simpa using c,b⟩
theorem aH.set {x:V}{u:Value} (r:aP x u):∀ {xs:List V}{a:List Value} (i:Nat),aH xs a->aH (xs.set i x) (a.set i u)
 |_,_,_,.nil=>.nil
 |_,_,0,.cons _ t=>.cons r t
 |_,_,i+1,.cons q t=>.cons q (aH.set r i t)
theorem aH.append:∀ {xs a:List V}{b ws:List Value},aH xs b->aH a ws->aH (xs++a) (b++ws)
 |_,_,_,_,.nil,s=>s
 |_,_,_,_,.cons r t,s=>.cons r (aH.append t s)
theorem aH.take:∀ {xs:List V}{a:List Value} (n:Nat),aH xs a->aH (xs.take n) (a.take n)
 |_,_,0,_=>.nil
 |_,_,_+1,.nil=>.nil
 |_,_,n+1,.cons r t=>.cons r (aH.take n t)
theorem aH.drop:∀ {xs:List V}{a:List Value} (n:Nat),aH xs a->aH (xs.drop n) (a.drop n)
 |_,_,0,r=>r
 |_,_,_+1,.nil=>.nil
 |_,_,n+1,.cons _ t=>aH.drop n t
def lq:Option V->Option Value->Prop
 |some v,some u=>aP v u
 |none,none=>True
 |_,_=>False
def KV {a:Type}:List (a×V)->List (a×Value)->Prop:=qgb λ(p:a×V) (q:a×Value)=>p.1=q.1/\aP p.2 q.2
def kV:Key->V
 |.inl i=>.int i
 |.inr x=>.str x
inductive HO where
 |lst (xs:List V)
 |tup (xs:List V)
 |dK (kvs:List (Key×V))|dT (kvs:List (List Key×V))
 |set (S:Int->Bool) (n:Nat)
 |ins (C dx:Addr) (fs:List (Str×V))
 |own (x:Addr)
 |xd (fs:List (Str×V))
 |met (f x:Addr)
 |rng (lo hi:Int)
 |frz (o:Obj) (u:HO)
 |tbl (ps:Array Value)
 |ext (φ:Heap->Prop)
abbrev Hp:=Addr->Option HO
def upd (H:Hp) (a:Addr) (o:HO):Hp:=λb=>if b=a then some o else H b
theorem upd_same {H:Hp}{a:Addr}{o:HO}:upd H a o a=some o:=by unfold upd;rw[iFP U]
theorem upd_ne {H:Hp}{a b:Addr}{o:HO} (h:b≠a):upd H a o b=H b:=by unfold upd;rw[iFN h]
theorem FM {H:Hp}{a b:Addr}{o u:HO} (h:H a=some o) (h':H b=some u) (d:o≠u):a≠b:=by
 intro e;subst e;rw[h]at h';exact d (qaL h')
theorem aK {H:Hp}{a b:Addr}{o:HO} (h:H a=some o) (h':H b=none):a≠b:=by
 intro e;subst e;rw[h]at h';cases h'
def fg (h:Heap) (a:Addr) (b:Array Value):Prop:=∃ o:Obj,h.get? a=some o/\o.cls=.type "tuple"/\(∃ n,o.data=.seq b n)/\o.dict=none
theorem fg.tup {h:Heap}{a:Addr}{b:Array Value} (x:fg h a b):IsTup h a b:=let ⟨o,e,c,n,_⟩:=x;⟨o,e,c,n⟩
theorem fg.new (h:Heap) (a:Array Value):fg (h.push { cls:=.type "tuple",data:=.seq a }) h.objs.size a:=⟨_,qas _ U,U,⟨_,U⟩,U⟩
section
variable (P:qaM) (w:World)
def cm (H:Hp) (h:Heap) (a:Addr):HO->Prop
 |.lst xs=>xs.length<=qaJ/\∃ (c:List Value) (n:Nat),aH xs c/\h.get? a=some { cls:=.type "list",data:=.seq c.toArray n }
 |.tup xs=>xs.length<=qaJ/\∃ c:List Value,aH xs c/\fg h a c.toArray
 |.dK b=>b.length<=qaJ/\(a==qcr)=false/\∃ j,KV b j/\h.DictOf (ca P w) a j
 |.dT b=>b.length<=qaJ/\(a==qcr)=false/\∃ xs:List (List Key×Addr×Value),
   qgb (λ(p:List Key×V) (q:List Key×Addr×Value)=>p.1=q.1/\H q.2.1=some (.tup (p.1.map kV))/\aP p.2 q.2.2) b xs/\
   ∃ o es k,h.get? a=some o/\o.ExactDict/\o.data=.dict es k/\es.toList=xs.map (entryOfKey (qgt (ca P w)))/\(xs.map (·.1)).Nodup
 |.set S n=>h.SetOf (intKind P w) a S n
 |.ins C e fs=>H e=some (.own a)/\fs.length<=1000/\e≠a/\h.get? a=some (qdj C e)/\
   ∃ d,h.Ns1 e d/\(∀ f,lq (fs.lookup f) (d f))/\qgz d (fs.map (·.1))
 |.own _=>∃ o,h.get? a=some o
 |.xd fs=>∃ d,h.Ns1 a d/\∀ f,lq (fs.lookup f) (d f)
 |.rng lo hi=>∃ t u v,h.get? a=some { cls:=.type "range",data:=.fields #[.int lo t,.int hi u,.int 1 v] }
 |.frz o u=>h.get? a=some o/\cm H h a u
 |.tbl ps=>h.get? a=some { cls:=.none,data:=.fields ps }
 |.met f x=>h.get? a=some (PySem.W.methodObj (.ref f) (.ref x))
 |.ext φ=>φ h/\(∃ o,h.get? a=some o)/\∀ g i:Heap,φ g->(∀ o,g.get? a=some o->i.get? a=some o)->φ i
def HOk (H:Hp) (h:Heap):Prop:=∀ a o,H a=some o->cm P w H h a o
end
section
variable {P:qaM}{w:World}{H H':Hp}{h h':Heap}{a:Addr}{o:HO}
theorem cm.lt (x:cm P w H h a o):a<h.objs.size:=by
 cases o with
 |lst xs=>obtain⟨_,_,_,_,e⟩:=x;exact qau e
 |tup xs=>obtain⟨_,_,_,p⟩:=x;exact p.tup.lt
 |dK l=>obtain⟨_,_,_,_,o,_,_,e,_⟩:=x;exact qau e
 |dT l=>obtain⟨_,_,_,_,o,_,_,e,_⟩:=x;exact qau e
 |set S n=>obtain⟨o,_,_,_,e,_⟩:=x;exact qau e
 |ins C D fs=>obtain⟨_,_,_,e,_⟩:=x;exact qau e
 |own y=>obtain⟨_,e⟩:=x;exact qau e
 |xd fs=>obtain⟨_,⟨_,_,_,e,_⟩,_⟩:=x;exact qau e
 |rng lo hi=>obtain⟨_,_,_,e⟩:=x;exact qau e
 |frz ob u=>obtain⟨e,_⟩:=x;exact qau e
 |tbl ps=>exact qau (x)
 |met f y=>exact qau (x)
 |ext φ=>obtain⟨_,⟨_,e⟩,_⟩:=x;exact qau e
theorem qgb.mapP {α B:Type}{F G:α->B->Prop}:∀ {j:List α}{i:List B},qgb F j i->(∀ a b,F a b->G a b)->qgb G j i
 |_,_,.nil,_=>.nil
 |_,_,.cons r t,f=>.cons (f _ _ r) (qgb.mapP t f)
theorem cm.stay (x:cm P w H h a o) (k:∀ b u,(b=a\/H b=some (.own a))->h.get? b=some u->h'.get? b=some u)
  (M:∀ b,H b=some (.own a)->H' b=some (.own a)) (K:∀ b xs,H b=some (.tup xs)->H' b=some (.tup xs)):cm P w H' h' a o:=by
 induction o with
 |lst xs=>obtain⟨z,m,n,r,e⟩:=x;exact⟨z,m,n,r,k _ _ (.inl U) e⟩
 |tup xs=>obtain⟨z,m,r,ob,e,c⟩:=x;exact⟨z,m,r,ob,k _ _ (.inl U) e,c⟩
 |dK l=>obtain⟨z,y,I,r,ob,es,g,e,c⟩:=x;exact⟨z,y,I,r,ob,es,g,k _ _ (.inl U) e,c⟩
 |dT l=>
  obtain⟨z,y,xs,r,ob,es,g,e,c⟩:=x;exact⟨z,y,xs,qgb.mapP r λp q z=>⟨z.1,K _ _ z.2.1,z.2.2⟩,ob,es,g,k _ _ (.inl U) e,c⟩
 |set S n=>obtain⟨ob,es,g,t,e,c⟩:=x;exact⟨ob,es,g,t,k _ _ (.inl U) e,c⟩
 |ins C D fs=>
  obtain⟨d,z,ne,e,s,⟨A,es,g,E,c⟩,r⟩:=x;exact⟨M _ d,z,ne,k _ _ (.inl U) e,s,⟨A,es,g,k _ _ (.inr d) E,c⟩,r⟩
 |own y=>obtain⟨ob,e⟩:=x;exact⟨ob,k _ _ (.inl U) e⟩
 |xd fs=>obtain⟨s,⟨A,es,g,e,c⟩,r⟩:=x;exact⟨s,⟨A,es,g,k _ _ (.inl U) e,c⟩,r⟩
 |rng lo hi=>obtain⟨t,u,v,e⟩:=x;exact⟨t,u,v,k _ _ (.inl U) e⟩
 |frz ob u J=>obtain⟨e,q⟩:=x;exact⟨k _ _ (.inl U) e,J q⟩
 |tbl ps=>
  exact k a _ (.inl U) x
 |met f y=>
  exact k a _ (.inl U) x
 |ext φ=>obtain⟨p,⟨o,e⟩,st⟩:=x;exact⟨st _ _ p λo q=>k _ _ (.inl U) q,⟨o,k _ _ (.inl U) e⟩,st⟩
theorem HOk.lt (x:HOk P w H h) (e:H a=some o):a<h.objs.size:=(x a o e).lt
theorem HOk.fresh (x:HOk P w H h) (e:h.objs.size<=a):H a=none:=by
 cases q:H a with
 |none=>rfl
 |some u=>exact absurd (qaQ (x.lt q) e) (qa2 _)
theorem HOk.kept (x:HOk P w H h) (k:∀ b u,h.get? b=some u->h'.get? b=some u):HOk P w H h':=λa o e=>
 (x a o e).stay (λb u _ q=>k b u q) (λ_ q=>q) λ_ _ q=>q
theorem HOk.laid (x:HOk P w H h) (k:∀ b u,h.get? b=some u->h'.get? b=some u) (L:h.objs.size<=a) (new:cm P w (upd H a o) h' a o):HOk P w (upd H a o) h':=λb u e=>by
 have hn:=x.fresh L;by_cases hb:b=a
 ·subst hb;rw[upd_same]at e;cases e;exact new
 ·rw[upd_ne hb]at e
  exact (x b u e).stay (λc v _ q=>k c v q) (λc q=>by rw[upd_ne (aK q hn)];exact q) λc xs q=>by rw[upd_ne (aK q hn)];exact q
end
def Rd (H:Hp) (a:Addr) (u:HO):Prop:=H a=some u\/∃ o,H a=some (.frz o u)
theorem Rd.of {H:Hp}{a:Addr}{u:HO} (h:H a=some u):Rd H a u:=.inl h
theorem Rd.ok {P:qaM}{w:World}{H:Hp}{h:Heap}{a:Addr}{u:HO} (r:Rd H a u) (x:HOk P w H h):cm P w H h a u:=by
 rcases r with r|⟨o,r⟩
 ·exact x a u r
 ·obtain⟨_,q⟩:=x a _ r
  exact q
def Mut:Option HO->Prop
 |some (.lst _)=>True
 |some (.dK _)=>True
 |some (.dT _)=>True
 |some (.set _ _)=>True
 |some (.ins _ _ _)=>True
 |some (.ext _)=>True
 |_=>False
section
variable {P:qaM}{w:World}{H:Hp}{h h':Heap}{x e:Addr}{j:HO}
theorem HOk.write (ok:HOk P w H h) (g:Mut (H x)) (m:e=x\/H e=some (.own x)) (k:∀ b u,b≠e->h.get? b=some u->h'.get? b=some u) (i:∃ u,h'.get? e=some u)
  (new:cm P w (upd H x j) h' x j):HOk P w (upd H x j) h':=λb u q=>by
 have d:∀ c y,H c=some (.own y)->c≠x:=λc y r z=>by subst z;rw[r]at g;exact g
 by_cases hb:b=x
 ·subst hb;rw[upd_same]at q;cases q;exact new
 ·rw[upd_ne hb]at q
  by_cases a:b=e
  ·have l:H b=some (.own x):=by
    rcases m with z|z
    ·exact absurd (a.trans z) hb
    ·rw[a];exact z
   rw[q]at l;cases l;obtain⟨v,n⟩:=i;exact⟨v,by rw[a];exact n⟩
  ·refine (ok b u q).stay (λc v f r=>k c v ?_ r) (λc r=>by rw[upd_ne (d c b r)];exact r) λc xs r=>by rw[upd_ne ((λc xs r z=>by subst z;rw[r]at g;exact g) c xs r)];exact r
   rcases f with rfl|f
   ·exact a
   ·rintro rfl
    rcases m with z|z
    ·exact d c b f z
    ·rw[f]at z;cases z;exact hb U
end
structure Un (fs ex:List Addr) (H H':Hp) (h h':Heap):Prop where
 keep:∀ b o,h.get? b=some o->H b=none->b∉fs->b∉ex->h'.get? b=some o
 slot:∀ b o,h.get? b=some o->H b=none->b∈fs->b∉ex->∃ sl,h'.get? b=some { o with slots:=sl }
 free:∀ b o,h.get? b=some o->H b=none->b∉ex->H' b=none
 there:∀ b o,h.get? b=some o->b∉ex->∃ o',h'.get? b=some o'
 tups:∀ b xs,H b=some (.tup xs)->H' b=some (.tup xs)
 frzs:∀ b o u,H b=some (.frz o u)->H' b=some (.frz o u)
 tbls:∀ b ps,H b=some (.tbl ps)->∃ more,H' b=some (.tbl (ps++more))
section
variable {fs j ex p:List Addr}{H H1 H2:Hp}{h i t h':Heap}{a x e:Addr}{o:HO}
theorem Un.any (u:Un fs ex H H1 h i) {b:Addr}{ob:Obj} (q:h.get? b=some ob) (n:H b=none) (d:b∉ex):∃ m,i.get? b=some { ob with slots:=m }:=by
 by_cases hb:b∈fs
 ·exact u.slot b ob q n hb d
 ·exact⟨ob.slots,u.keep b ob q n hb d⟩
theorem Un.kept (k:∀ b u,h.get? b=some u->h'.get? b=some u):Un fs ex H H h h':=
 ⟨λb ob q _ _ _=>k b ob q,λb ob q _ _ _=>⟨ob.slots,k b ob q⟩,λ_ _ _ n _=>n,λb ob q _=>⟨ob,k b ob q⟩,λ_ _ q=>q,λ_ _ _ q=>q,λ_ ps q=>⟨#[],by rw[q];simp⟩⟩
theorem Un.refl:Un fs ex H H h h:=Un.kept λ_ _ q=>q
theorem Un.laid (k:∀ b u,h.get? b=some u->h'.get? b=some u) (s:h.objs.size<=a) (hn:H a=none):Un fs ex H (upd H a o) h h' where
 keep:=λb u q _ _ _=>k b u q
 slot:=λb u q _ _ _=>⟨u.slots,k b u q⟩
 free:=λb u q n _=>by rw[upd_ne (qax (qaQ (qau q) s))];exact n
 there:=λb u q _=>⟨u,k b u q⟩
 tups:=λb xs q=>by rw[upd_ne (aK q hn)];exact q
 frzs:=λb u xs q=>by rw[upd_ne (aK q hn)];exact q
 tbls:=λb ps q=>⟨#[],by rw[upd_ne (aK q hn),q];simp⟩
theorem Un.write (f:Mut (H x)) (l:e=x\/H e=some (.own x)) (k:∀ b u,b≠e->h.get? b=some u->h'.get? b=some u) (g:∃ u,h'.get? e=some u):Un fs ex H (upd H x o) h h':=by
 have d:∀ b,H b=none->b≠x:=λb n z=>by subst z;rw[n]at f;exact f
 have hb:∀ b,H b=none->b≠e:=λb n z=>by
  subst z;rcases l with r|r
  ·exact d b n r
  ·rw[n]at r;cases r
 have hm:∀ b u,H b=some u->¬ Mut (some u)->b≠x:=λb u q nm z=>by subst z;rw[q]at f;exact nm f
 refine⟨λb u q n _ _=>k b u (hb b n) q,λb u q n _ _=>⟨u.slots,k b u (hb b n) q⟩,λb u q n _=>by rw[upd_ne (d b n)];exact n,λb u q _=>?_,
  λb xs q=>by rw[upd_ne (hm b _ q λz=>z)];exact q,λb u xs q=>by rw[upd_ne (hm b _ q λz=>z)];exact q,λb ps q=>⟨#[],by rw[upd_ne (hm b _ q λz=>z),q];simp⟩⟩
 by_cases c:b=e
 ·subst c;exact g
 ·exact⟨u,k b u c q⟩
end
def trk (h:Heap) (H:Hp):List Addr:=(qak h.objs.size).filter λa=>(H a).isSome
def xH (h:Heap) (H:Hp):Heap:=PySem.W.hideAll h (trk h H)
theorem xI (h:Heap) (H:Hp):(xH h H).objs.size=h.objs.size:=PySem.W.hideAll_size _ _
theorem yQ {h:Heap}{H:Hp}{b:Addr}{o:Obj} (e:h.get? b=some o) (n:H b=none):(xH h H).get? b=some o:=
 PySem.W.hideAll_get _ e λhm=>by
  have q:=(qbO.mp hm).2;rw[n]at q;simp at q
theorem Bw {h:Heap}{H:Hp}{b:Addr}{o:Obj} (e:(xH h H).get? b=some o):h.get? b=some o/\H b=none:=by
 have a:=PySem.W.of_hideAll _ e;refine⟨a,?_⟩;cases q:H b with
 |none=>rfl
 |some x=>
  have z:(xH h H).get? b=none:=PySem.W.hideAll_none _ (qbO.mpr ⟨qaN.mpr (qau a),by simp[q]⟩);rw[z]at e;cases e
structure Mod (K:qae) (mg:Str->Option Value) (base:Heap):Prop where
 kin:K.In base
 glob:base.Ns qca mg
 blt:∃ mb,base.Ns qgX mb/\∀ x:Str,x≠"__name__"->mb x=qcd x
 nolimit:base.NoLimit
structure Cx where
 prog:qaM
 w:World
 K:qae
 mg:Str->Option Value
 base:Heap
 A:qaY
 N:List Str
 s₀:qai
 H₀:Hp
 env:Env
 outer:List Env
 stack:List Env
 ex:List Addr
 fn:Str->Bool
 calm:Bool
 pn:List (Addr×Obj)
 xe:Value->qai->Prop
def frs (l:List Env):List Addr:=l.filterMap (·.frame)
abbrev Cx.fs (X:Cx):List Addr:=frs X.outer
def Vis (a:Scope) (x:Str):Prop:=a.names.lookup x=some .local\/a.names.lookup x=some .cell\/a.names.lookup x=some .free
def Loc (a:Scope) (x:Str):Prop:=a.names.lookup x=some .local\/a.names.lookup x=some .cell
def GB (env:Env) (h:Heap) (m:Str->Option Value) (x:Str) (u:Value):Prop:=
 (env.kindOf x=some .local/\m x=some u)\/((env.kindOf x=some .cell\/env.kindOf x=some .free)/\∃ c,env.cells.lookup x=some c/\h.IsCell c (some u))
structure Cx.Ok (X:Cx):Prop where
 mod:Mod X.K X.mg X.base
 kind:X.env.scope.kind=.function
 glob:X.env.globals=qca
 blt:X.env.builtins=qgX
 above:X.s₀.heap.objs.size<=X.env.locals
 inj:∀ x y c,X.env.cells.lookup x=some c->X.env.cells.lookup y=some c->x=y
 has:∀ x,(X.env.kindOf x=some .cell\/X.env.kindOf x=some .free)->∃ c,X.env.cells.lookup x=some c
 cab:∀ x c,X.fn x=true->X.env.cells.lookup x=some c->X.s₀.heap.objs.size<=c
 hd:X.calm=true->X.A.handled=none
 frames:X.A.frames=some X.stack
 stk:X.stack=X.outer\/(X.stack=X.env::X.outer/\X.env.frame=some X.env.locals)
 exf:∀ b∈X.ex,b≠X.env.locals/\∀ x c,X.env.cells.lookup x=some c->c≠b
 bs:∀ b o,X.base.get? b=some o->X.s₀.heap.get? b=some o/\X.H₀ b=none
 bsz:X.base.objs.size<=X.s₀.heap.objs.size
 noex:∀ b o,X.base.get? b=some o->b∉X.ex
 exfs:∀ b∈X.ex,b∉X.fs
 funs:X.s₀.heap.FunFrames X.base X.outer
 frf:∀ b∈X.fs,X.H₀ b=none
structure Inv (X:Cx) (pins:List (Addr×Obj)) (σ:List (Option V)) (H:Hp) (s:qai):Prop where
 ok:X.Ok
 os:s.os=X.s₀.os
 bare:qfw s.gens
 base:Un X.fs X.ex X.H₀ H X.s₀.heap s.heap
 loc:∃ m,s.heap.Ns X.env.locals m/\∀ (i:Nat) (x:Str) (v:V),X.N[i]?=some x->σ[i]?=some (some v)->Vis X.env.scope x->∃ u,aP v u/\GB X.env s.heap m x u
 cell:∀ x c,X.env.cells.lookup x=some c->∃ v,s.heap.IsCell c v
 free:H X.env.locals=none
 freeC:∀ x c,X.env.cells.lookup x=some c->H c=none
 pin:∀ p∈X.pn++pins,s.heap.get? p.1=some p.2/\H p.1=none/\p.1≠X.env.locals/\p.1∉X.fs/\∀ v,p.2.data≠.cell v
 hok:HOk X.prog X.w H s.heap
 len:σ.length=X.N.length
section
variable {X:Cx}{f:List (Addr×Obj)}{g:List (Option V)}{H H':Hp}{s:qai}{h':Heap}
theorem Cx.Ok.nofr (ok:X.Ok) {b:Addr}{o:Obj} (e:X.base.get? b=some o):b∉X.fs:=λhb=>by
 have:=(ok.funs.mem hb).1
 rw[e]at this;cases this
theorem Inv.bs (I:Inv X f g H s):∀ b o,X.base.get? b=some o->s.heap.get? b=some o/\H b=none:=λb o e=>
 ⟨I.base.keep b o (I.ok.bs b o e).1 (I.ok.bs b o e).2 (I.ok.nofr e) (I.ok.noex b o e),I.base.free b o (I.ok.bs b o e).1 (I.ok.bs b o e).2 (I.ok.noex b o e)⟩
theorem Inv.bk (I:Inv X f g H s):∀ b o,X.base.get? b=some o->s.heap.get? b=some o:=λb o e=>(I.bs b o e).1
theorem Inv.mod (I:Inv X f g H s):Mod X.K X.mg X.base:=I.ok.mod
theorem Inv.kIn (I:Inv X f g H s):X.K.In s.heap:=I.ok.mod.kin.keeps I.bk
theorem Inv.fr (I:Inv X f g H s):∃ m,Fr X.base X.env.locals s.heap m:=
 let ⟨m,hn,_⟩:=I.loc
 ⟨m,hn,I.bk,qaT I.ok.bsz I.ok.above⟩
theorem Inv.lt (I:Inv X f g H s):X.env.locals<s.heap.objs.size:=let ⟨_,hn,_⟩:=I.loc;hn.lt
theorem Inv.sz (I:Inv X f g H s):X.s₀.heap.objs.size<=s.heap.objs.size:=qaT I.ok.above (qeM I.lt)
theorem Inv.nofs (I:Inv X f g H s) {a:Addr} (h:s.heap.objs.size<=a):a∉X.fs:=λhb=>by
 obtain⟨_,o,F,_⟩:=I.ok.funs.mem hb;exact absurd (qaQ (qau F) (qaT I.sz h)) (qa2 _)
theorem Inv.cne (I:Inv X f g H s):∀ x c,X.env.cells.lookup x=some c->c≠X.env.locals:=λx c e z=>by
 obtain⟨v,o,F,hd⟩:=I.cell x c e;obtain⟨m,⟨R,es,ep,P,hd',_⟩,_⟩:=I.loc;rw[z,P]at F;cases F;rw[hd']at hd;cases hd
theorem Inv.funs (I:Inv X f g H s):s.heap.FunFrames X.base X.outer:=by
 have all:∀ (l:List Env),(∀ b∈frs l,b∈X.fs)->X.s₀.heap.FunFrames X.base l->s.heap.FunFrames X.base l:=by
  intro l
  induction l with
  |nil=>intro _ _;trivial
  |cons env r ih=>
   intro G hl;obtain⟨hk,⟨L,o,W,hn,F,hd⟩,hr⟩:=hl;have T:=G L (by unfold frs;rw[qeX,W];exact qag);obtain⟨sl,e⟩:=I.base.slot L o F (I.ok.frf L T) T λz=>I.ok.exfs L z T;exact⟨hk,⟨L,_,W,hn,e,hd⟩,ih (λb hb=>G b (by unfold frs;rw[qeX,W];exact qaj _ hb)) hr⟩
 exact all X.outer (λ_ hb=>hb) I.ok.funs
theorem Inv.stack (I:Inv X f g H s):s.heap.FunFrames X.base X.stack:=by
 rcases I.ok.stk with e|⟨e,W⟩
 ·rw[e];exact I.funs
 ·rw[e]
  obtain⟨m,hn,_⟩:=I.loc;refine .cons (by rw[I.ok.kind];decide) W hn ?_ I.funs;exact Heap.get?_none_of_le (qaT I.ok.bsz I.ok.above)
theorem Inv.stkSub (I:Inv X f g H s):∀ b∈frs X.stack,b∈X.env.locals::X.fs:=λb hb=>by
 rcases I.ok.stk with e|⟨e,W⟩
 ·rw[e]at hb;exact qaj _ hb
 ·rw[e]at hb
  unfold frs at hb;rw[qeX,W]at hb;exact hb
theorem Inv.stkFree (I:Inv X f g H s):∀ b∈frs X.stack,H b=none:=λb hb=>by
 rcases qay.mp (I.stkSub b hb) with e|hb
 ·rw[e];exact I.free
 ·obtain⟨_,o,F,_⟩:=I.ok.funs.mem hb
  exact I.base.free b o F (I.ok.frf b hb) λz=>I.ok.exfs b z hb
theorem Inv.step {g':Array qig}{t':Nat}{d':Drawn}{ch:List Addr} (I:Inv X f g H s)
  (J:∀ b∈ch,(b∈X.ex\/X.s₀.heap.objs.size<=b)/\b≠X.env.locals/\(∀ x c,X.env.cells.lookup x=some c->c≠b)/\∀ p∈X.pn++f,p.1≠b)
  (keep:∀ b o,b≠X.env.locals->b∉X.fs->b∉ch->s.heap.get? b=some o->H b=none->h'.get? b=some o)
  (slot:∀ b o,b≠X.env.locals->b∈X.fs->b∉ch->s.heap.get? b=some o->H b=none->∃ sl,h'.get? b=some { o with slots:=sl }) (free:∀ b o,b∉ch->s.heap.get? b=some o->H b=none->H' b=none)
  (there:∀ b o,b∉ch->s.heap.get? b=some o->∃ R,h'.get? b=some R)
  (tups:∀ b xs,H b=some (.tup xs)->H' b=some (.tup xs)) (frzs:∀ b o u,H b=some (.frz o u)->H' b=some (.frz o u)) (tbls:∀ b ps,H b=some (.tbl ps)->∃ more,H' b=some (.tbl (ps++more)))
  (ns:∀ m,s.heap.Ns X.env.locals m->h'.Ns X.env.locals m) (hok:HOk X.prog X.w H' h') (hg:qfw g') :
  Inv X f g H' { s with heap:=h',gens:=g',drawn:=d',toks:=t' }:=by
 have neL:∀ b o,X.s₀.heap.get? b=some o->b≠X.env.locals:=λb o e=>qax (qaQ (qau e) I.ok.above);have neC:∀ b o,X.s₀.heap.get? b=some o->b∉X.ex->b∉ch:=λb o e C hb=>by
  rcases (J b hb).1 with z|z
  ·exact C z
  ·exact absurd (qaQ (qau e) z) (qa2 _)
 have Y:∀ x c,X.env.cells.lookup x=some c->∀ v,s.heap.IsCell c v->h'.IsCell c v:=λx c e v ⟨o,F,hd⟩=>by
  have nch:=λz=>(J c z).2.2.1 x c e U;by_cases B:c∈X.fs
  ·obtain⟨sl,q⟩:=slot c o (I.cne x c e) B nch F (I.freeC x c e)
   exact⟨_,q,hd⟩
  ·exact⟨o,keep c o (I.cne x c e) B nch F (I.freeC x c e),hd⟩
 refine⟨I.ok,I.os,hg,⟨λb o e n hb C=>?_,λb o e n hb C=>?_,λb o e n C=>?_,λb o e C=>?_,λb xs e=>tups b xs (I.base.tups b xs e),λb o xs e=>frzs b o xs (I.base.frzs b o xs e),λb ps e=>?_⟩,?_,λx c e=>?_,?_,λx c e=>?_,λp S=>?_,hok,I.len⟩
 ·exact keep b o (neL b o e) hb (neC b o e C) (I.base.keep b o e n hb C) (I.base.free b o e n C)
 ·obtain⟨sl,D⟩:=I.base.slot b o e n hb C
  obtain⟨sl',K⟩:=slot b _ (neL b o e) hb (neC b o e C) D (I.base.free b o e n C);exact⟨sl',K⟩
 ·obtain⟨R,D⟩:=I.base.there b o e C
  exact free b R (neC b o e C) D (I.base.free b o e n C)
 ·obtain⟨R,D⟩:=I.base.there b o e C
  exact there b R (neC b o e C) D
 ·obtain⟨m1,D⟩:=I.base.tbls b ps e
  obtain⟨m2,K⟩:=tbls b _ D;exact⟨_,by rw[K,Array.append_assoc]⟩
 ·obtain⟨m,hn,hl⟩:=I.loc
  refine⟨m,ns m hn,λi x v D K e3=>?_⟩;obtain⟨u,r,l⟩:=hl i x v D K e3;refine⟨u,r,?_⟩;rcases l with l|⟨k,c,e,z⟩
  ·exact .inl l
  ·exact .inr ⟨k,c,e,Y x c e _ z⟩
 ·obtain⟨v,z⟩:=I.cell x c e
  exact⟨v,Y x c e v z⟩
 ·obtain⟨m,⟨o,_,_,F,_⟩,_⟩:=I.loc
  exact free _ o (λz=>(J _ z).2.1 U) F I.free
 ·obtain⟨v,o,F,hd⟩:=I.cell x c e
  exact free c o (λz=>(J c z).2.2.1 x c e U) F (I.freeC x c e)
 ·obtain⟨e,n,ne,nf,d⟩:=I.pin p S
  have nch:=λz=>(J p.1 z).2.2.2 p S U;exact⟨keep p.1 p.2 ne nf nch e n,free p.1 p.2 nch e n,ne,nf,d⟩
theorem Inv.un {t':Nat} (I:Inv X f g H s) (u:Un X.fs [] H H' s.heap h') (hok:HOk X.prog X.w H' h'):Inv X f g H' { s with heap:=h',toks:=t' }:=by
 obtain⟨m,⟨o,es,ep,F,r⟩,_⟩:=id I.loc;obtain⟨sl,T⟩:=u.any F I.free (by simp)
 exact I.step (ch:=[]) (λ_ z=>nomatch z) (λb o _ hb _ e n=>u.keep b o e n hb (by simp)) (λb o _ hb _ e n=>u.slot b o e n hb (by simp)) (λb o _ e n=>u.free b o e n (by simp)) (λb o _ e=>u.there b o e (by simp)) u.tups u.frzs u.tbls (λm' hm=>by
  obtain⟨R,es',ep',P,r'⟩:=hm;rw[F]at P;cases P
  exact⟨_,es',ep',T,r'⟩) hok I.bare
theorem Inv.call {g':Array qig}{t':Nat}{d':Drawn}{ch:List Addr} (I:Inv X f g H s) (u:Un (frs X.stack) ch H H' s.heap h') (hok:HOk X.prog X.w H' h') (hg:qfw g')
  (J:∀ b∈ch,(b∈X.ex\/X.s₀.heap.objs.size<=b)/\b≠X.env.locals/\(∀ x c,X.env.cells.lookup x=some c->c≠b)/\∀ p∈X.pn++f,p.1≠b) :
  Inv X f g H' { s with heap:=h',gens:=g',drawn:=d',toks:=t' }:=by
 obtain⟨m,⟨o,es,ep,F,r⟩,_⟩:=id I.loc;obtain⟨sl,T⟩:=u.any F I.free λz=>(J _ z).2.1 U
 exact I.step J (λb o T hb B e n=>u.keep b o e n (λz=>(qay.mp (I.stkSub b z)).elim T hb) B) (λb o _ _ B e n=>u.any e n B) (λb o B e n=>u.free b o e n B) (λb o B e=>u.there b o e B) u.tups u.frzs u.tbls (λm' hm=>by
  obtain⟨R,es',ep',P,r'⟩:=hm;rw[F]at P;cases P
  exact⟨_,es',ep',T,r'⟩) hok hg
theorem Inv.turned {t':Nat}{it:Addr} (I:Inv X f g H s) (k:∀ b o,b≠it->s.heap.get? b=some o->h'.get? b=some o) (hn:H it=none) (T:it≠X.env.locals)
  (h1:it∈X.ex\/X.s₀.heap.objs.size<=it) (h2:∀ x c,X.env.cells.lookup x=some c->c≠it) (h3:∀ p∈X.pn++f,p.1≠it):Inv X f g H { s with heap:=h',toks:=t' }:=by
 have nit:∀ b u,H b=some u->b≠it:=λb u e z=>by rw[z,hn]at e;cases e
 refine I.step (ch:=[it]) (λb hb=>?_) (λb o _ _ B e _=>k b o (λz=>B (by simp[z])) e) (λb o _ _ B e _=>⟨o.slots,k b o (λz=>B (by simp[z])) e⟩) (λ_ _ _ _ n=>n)
  (λb o B e=>⟨o,k b o (λz=>B (by simp[z])) e⟩) (λ_ _ e=>e) (λ_ _ _ e=>e) (λb ps e=>⟨#[],by rw[e];simp⟩) (λm hm=>?_) (λb u e=>?_) I.bare
 ·have e:=by simpa using hb
  subst e;exact⟨h1,T,h2,h3⟩
 ·obtain⟨o,es,ep,F,r⟩:=hm
  exact⟨o,es,ep,k _ o (qbk T) F,r⟩
 ·refine (I.hok b u e).stay (λc v B q=>k c v ?_ q) (λ_ q=>q) λ_ _ q=>q
  rcases B with z|z
  ·rw[z];exact nit b u e
  ·exact nit c _ z
theorem Inv.tok (I:Inv X f g H s) (t:Nat):Inv X f g H { s with toks:=t }:=I.un Un.refl I.hok
theorem Inv.kept {t':Nat} (I:Inv X f g H s) (k:∀ b u,s.heap.get? b=some u->h'.get? b=some u):Inv X f g H { s with heap:=h',toks:=t' }:=I.un (Un.kept k) (I.hok.kept k)
theorem Inv.laid {a:Addr}{o:HO}{t':Nat} (I:Inv X f g H s) (k:∀ b u,s.heap.get? b=some u->h'.get? b=some u) (S:s.heap.objs.size<=a) (new:cm X.prog X.w (upd H a o) h' a o) :
  Inv X f g (upd H a o) { s with heap:=h',toks:=t' }:=I.un (Un.laid k S (I.hok.fresh S)) (I.hok.laid k S new)
theorem Inv.write {x e:Addr}{o:HO}{t':Nat} (I:Inv X f g H s) (mu:Mut (H x)) (he:e=x\/H e=some (.own x)) (k:∀ b u,b≠e->s.heap.get? b=some u->h'.get? b=some u) (heo:∃ u,h'.get? e=some u)
  (new:cm X.prog X.w (upd H x o) h' x o):Inv X f g (upd H x o) { s with heap:=h',toks:=t' }:=I.un (Un.write mu he k heo) (I.hok.write mu he k heo new)
theorem Inv.weak {σ':List (Option V)} (I:Inv X f g H s) (hl:σ'.length=g.length) (w:∀ (i:Nat) v,σ'[i]?=some (some v)->g[i]?=some (some v)):Inv X f σ' H s:=
 ⟨I.ok,I.os,I.bare,I.base,let ⟨m,hn,hl'⟩:=I.loc;⟨m,hn,λi x v D K e3=>hl' i x v D (w i v K) e3⟩,I.cell,I.free,I.freeC,I.pin,I.hok,hl.trans I.len⟩
theorem Inv.pins_of {pins':List (Addr×Obj)} (I:Inv X f g H s) (h:∀ p∈pins',s.heap.get? p.1=some p.2/\H p.1=none/\p.1≠X.env.locals/\p.1∉X.fs/\∀ v,p.2.data≠.cell v):Inv X pins' g H s:=
 ⟨I.ok,I.os,I.bare,I.base,I.loc,I.cell,I.free,I.freeC,λp S=>(qaR.mp S).elim (λz=>I.pin p (qaV _ z)) (h p),I.hok,I.len⟩
theorem tO {N:List Str} (hN:N.Nodup) {i j:Nat}{x:Str} (a:N[i]?=some x) (b:N[j]?=some x):i=j:=by
 obtain⟨h1,D⟩:=qar.mp a;obtain⟨h2,K⟩:=qar.mp b;exact (qdL hN).mp (D.trans K.symm)
theorem yh {M:Model}{A:qaY}{E:Value->qai->Prop}{i:Nat}{x:Str}{v:V}{u:Value}{Q:Unit->qai->Prop} (I:Inv X f g H s) (hN:X.N.Nodup) (hi:X.N[i]?=some x) (C:Loc X.env.scope x) (r:aP v u)
  (h:∀ s',Inv X f (g.set i (some v)) H s'->(∃ a,qdk a s.heap s'.heap/\(a=X.env.locals\/X.env.cells.lookup x=some a))->Q () s') (W:X.fn x=true\/X.env.scope.names.lookup x=some .local:=by first|exact .inl U|exact .inr U|assumption):wpAny M A (storeName X.env x u) Q E s:=by
 obtain⟨m,hn,hl⟩:=id I.loc;have hcls:(X.env.scope.kind==.class||(X.env.scope.kind==.module&&X.env.locals != X.env.globals))=false:=by rw[I.ok.kind];rfl
 have hiσ:i<g.length:=by rw[I.len];exact (qar.mp hi).1
 have cne:=I.cne;have O:∀ {a:Addr}{h':Heap},(∃ o,s.heap.get? a=some o/\H a=none)->qdk a s.heap h'->HOk X.prog X.w H h':=λ{a h'} ha G b ob e=>by
  obtain⟨_,_,hfree⟩:=ha;refine (I.hok b ob e).stay (λc w' B q=>(G.2 c ?_).trans q) (λ_ q=>q) λ_ _ q=>q
  rintro rfl
  rcases B with rfl|B
  ·rw[hfree]at e;cases e
  ·rw[hfree]at B;cases B
 rcases C with hk|hk
 ·refine wpAny_storeName_local hk hn (λh' hn' G=>?_) hcls
  obtain⟨oL,_,_,hoL,_⟩:=id hn;refine h _ ⟨I.ok,I.os,I.bare,⟨λb o e n hb C=>?_,λb o e n hb C=>?_,I.base.free,λb o e C=>?_,I.base.tups,I.base.frzs,I.base.tbls⟩,⟨_,hn',λj y v' D K e3=>?_⟩,λy c e=>?_,I.free,I.freeC,λp S=>?_,O ⟨oL,hoL,I.free⟩ G,by simpa using I.len⟩ ⟨_,G,.inl U⟩
  ·exact (G.2 b (qax (qaQ (qau e) I.ok.above))).trans (I.base.keep b o e n hb C)
  ·obtain⟨sl,D⟩:=I.base.slot b o e n hb C
   exact⟨sl,(G.2 b (qax (qaQ (qau e) I.ok.above))).trans D⟩
  ·obtain⟨R,D⟩:=I.base.there b o e C
   exact⟨R,(G.2 b (qax (qaQ (qau e) I.ok.above))).trans D⟩
  ·by_cases hj:j=i
   ·subst hj
    rw[hi]at D;cases D;rw[qbq hiσ]at K;cases K;exact⟨u,r,.inl ⟨hk,by simp⟩⟩
   ·rw[qbB (qbk hj)]at K
    obtain⟨u',r',q⟩:=hl j y v' D K e3;refine⟨u',r',?_⟩;rcases q with⟨k,e⟩|⟨k,c,e,z⟩
    ·refine .inl ⟨k,?_⟩
     have:y≠x:=λe=>hj (tO hN D (e ▸ hi))
     simp[this,e]
    ·exact .inr ⟨k,c,e,z.sameBut G (cne y c e)⟩
  ·obtain⟨w',z⟩:=I.cell y c e
   exact⟨w',z.sameBut G (cne y c e)⟩
  ·obtain⟨e,n,ne,nf,d⟩:=I.pin p S
   exact⟨(G.2 p.1 ne).trans e,n,ne,nf,d⟩
 ·have hfn:X.fn x=true:=by
   rcases W with z|z
   ·exact z
   ·rw[z]at hk;cases hk
  obtain⟨c,B⟩:=I.ok.has x (.inl hk);obtain⟨w',z⟩:=I.cell x c B;refine wpAny_storeName_cell I.ok.kind hk B z (λh' hc' G=>?_);obtain⟨oc,hoc,hocd⟩:=id z;refine h { s with heap:=h' } ⟨I.ok,I.os,I.bare,⟨λb o e n hb C=>?_,λb o e n hb C=>?_,I.base.free,λb o e C=>?_,I.base.tups,I.base.frzs,I.base.tbls⟩,⟨m,hn.sameBut G (qbk (cne x c B)),λj y v' D K e3=>?_⟩,λy c' e=>?_,I.free,I.freeC,λp S=>?_,O ⟨oc,hoc,I.freeC x c B⟩ G,by simpa using I.len⟩ ⟨c,G,.inr B⟩
  ·exact (G.2 b (qax (qaQ (qau e) (I.ok.cab x c hfn B)))).trans (I.base.keep b o e n hb C)
  ·obtain⟨sl,D⟩:=I.base.slot b o e n hb C
   exact⟨sl,(G.2 b (qax (qaQ (qau e) (I.ok.cab x c hfn B)))).trans D⟩
  ·obtain⟨R,D⟩:=I.base.there b o e C
   exact⟨R,(G.2 b (qax (qaQ (qau e) (I.ok.cab x c hfn B)))).trans D⟩
  ·by_cases hj:j=i
   ·subst hj
    rw[hi]at D;cases D;rw[qbq hiσ]at K;cases K;exact⟨u,r,.inr ⟨.inl hk,c,B,hc'⟩⟩
   ·rw[qbB (qbk hj)]at K
    obtain⟨u',r',q⟩:=hl j y v' D K e3;refine⟨u',r',?_⟩;rcases q with q|⟨k,c',e,z'⟩
    ·exact .inl q
    ·refine .inr ⟨k,c',e,z'.sameBut G ?_⟩
     rintro rfl
     exact hj (tO hN D (I.ok.inj _ _ _ e B ▸ hi))
  ·by_cases hcc:c'=c
   ·subst hcc;exact⟨_,hc'⟩
   ·obtain⟨w2,z2⟩:=I.cell y c' e
    exact⟨w2,z2.sameBut G hcc⟩
  ·obtain⟨e,n,ne,nf,d⟩:=I.pin p S
   refine⟨(G.2 p.1 ?_).trans e,n,ne,nf,d⟩;intro q;rw[q,hoc]at e;exact d w' (by rw[<-(qaL e)];exact hocd)
theorem iD {M:Model}{A:qaY}{E:Value->qai->Prop}{i:Nat}{x:Str}{v:V}{u:Value}{Q:Unit->qai->Prop} (I:Inv X f g H s) (hN:X.N.Nodup) (hi:X.N[i]?=some x) (C:Loc X.env.scope x) (r:aP v u)
  (h:∀ s',Inv X f (g.set i (some v)) H s'->Q () s') (W:X.fn x=true\/X.env.scope.names.lookup x=some .local:=by first|exact .inl U|exact .inr U|assumption):wpAny M A (storeName X.env x u) Q E s:=
 yh I hN hi C r (λs' I' _=>h s' I') W
theorem Inv.call' {s':qai}{ch:List Addr} (I:Inv X f g H s) (F:s'.os=s.os) (u:Un (frs X.stack) ch H H' s.heap s'.heap) (hok:HOk X.prog X.w H' s'.heap) (hg:qfw s'.gens)
  (J:∀ b∈ch,(b∈X.ex\/X.s₀.heap.objs.size<=b)/\b≠X.env.locals/\(∀ x c,X.env.cells.lookup x=some c->c≠b)/\∀ p∈X.pn++f,p.1≠b):Inv X f g H' s':=by
 obtain⟨h',g',d',t',R⟩:=s';subst F;exact I.call u hok hg J
end
abbrev XK:=Value->Option Addr->Hp->Prop
abbrev St:=List (Option V)
abbrev VK:=V->Hp->Prop
abbrev TE:=St->Hp->VK->Prop
abbrev TT:=St->Hp->(Bool->Hp->Prop)->Prop
abbrev TA:=St->Hp->(List V->Hp->Prop)->Prop
structure ox where
 nx:St->Hp->Prop
 rt:VK
 bk:St->Hp->Prop:=λ_ _=>False
 ct:St->Hp->Prop:=λ_ _=>False
abbrev TS:=ox->St->Hp->Prop
def EP (X:Cx) (a:List (Addr×Obj)) (b:St) (Q:VK) (u:Value) (s':qai):Prop:=∃ v H',Inv X a b H' s'/\aP v u/\Q v H'
def TP (X:Cx) (a:List (Addr×Obj)) (c:St) (Q:Bool->Hp->Prop) (b:Bool) (s':qai):Prop:=∃ H',Inv X a c H' s'/\Q b H'
def AP (X:Cx) (a:List (Addr×Obj)) (c:St) (Q:List V->Hp->Prop) (d:List Value) (s':qai):Prop:=∃ b H',Inv X a c H' s'/\aH b d/\Q b H'
def SP (X:Cx) (b:List (Addr×Obj)) (D:ox) (f:Flow) (s':qai):Prop:=
 match f with
 |.next=>∃ a H',Inv X b a H' s'/\D.nx a H'
 |.brk=>∃ a H',Inv X b a H' s'/\D.bk a H'
 |.cont=>∃ a H',Inv X b a H' s'/\D.ct a H'
 |.ret u=>∃ v a H',Inv X b a H' s'/\aP v u/\D.rt v H'
def PE (X:Cx) (e:Expr) (t:TE):Prop:=
 ∀ (a:List (Addr×Obj)) (s:qai) (b:St) (H:Hp) (Q:VK),Inv X a b H s->t b H Q->wpAny (model X.prog X.w) X.A (eval e X.env) (EP X a b Q) X.xe s
def PT (X:Cx) (e:Expr) (t:TT):Prop:=
 ∀ (a:List (Addr×Obj)) (s:qai) (b:St) (H:Hp) (Q:Bool->Hp->Prop),Inv X a b H s->t b H Q->wpAny (model X.prog X.w) X.A (qjF e X.env (eval e X.env)) (TP X a b Q) X.xe s
def PW (X:Cx) (e:Expr) (t:TT):Prop:=
 ∀ (whole:Sem Value) (a:List (Addr×Obj)) (s:qai) (b:St) (H:Hp) (Q:Bool->Hp->Prop),Inv X a b H s->t b H Q->wpAny (model X.prog X.w) X.A (qjF e X.env whole) (TP X a b Q) X.xe s
theorem PW.pt {X:Cx}{e:Expr}{t:TT} (h:PW X e t):PT X e t:=h _
def PA (X:Cx) (es:List Expr) (t:TA):Prop:=
 ∀ (pos:Pos) (a:List (Addr×Obj)) (s:qai) (b:St) (H:Hp) (Q:List V->Hp->Prop),Inv X a b H s->t b H Q->wpAny (model X.prog X.w) X.A (spliced (qe4 pos (qbD es X.env))) (AP X a b Q) X.xe s
def PS (X:Cx) (st:Stmt) (t:TS):Prop:=
 ∀ (a:List (Addr×Obj)) (s:qai) (b:St) (H:Hp) (D:ox),Inv X a b H s->t D b H->wpAny (model X.prog X.w) X.A (exec st X.env) (SP X a D) X.xe s
def PSs (X:Cx) (st:List Stmt) (t:TS):Prop:=
 ∀ (a:List (Addr×Obj)) (s:qai) (b:St) (H:Hp) (D:ox),Inv X a b H s->t D b H->wpAny (model X.prog X.w) X.A (execs st X.env) (SP X a D) X.xe s
theorem thn {α:Type}{t:Sem α}{Q Q':α->qai->Prop}{M:Model}{A:qaY}{E:Value->qai->Prop}{s:qai} (h:wpAny M A t Q E s) (b:∀ a s,Q a s->Q' a s):wpAny M A t Q' E s:=qcq h b λ_ _ x=>x
section
variable {X:Cx}
def ud (i:Nat):TE:=λg H Q=>∃ v,g[i]?=some (some v)/\Q v H
def tC (v:V):TE:=λ_ H Q=>Q v H
theorem ju {i:Nat}{x:Str}{pos:Pos} (hN:X.N[i]?=some x) (A:Vis X.env.scope x) (hd:(x==("__debug__" : Str))=false:=by decide) (F:(x==("__classdict__" : Str))=false:=by decide):PE X (.Name x pos) (ud i):=by
 intro f s g H Q I h;obtain⟨v,e,h⟩:=h;obtain⟨m,hn,G⟩:=I.loc;obtain⟨u,r,l⟩:=G i x v hN e A;have fin:EP X f g Q u s:=⟨v,H,I,r,h⟩;rcases l with⟨z,hm⟩|⟨z,c,C,q⟩
 ·exact qip (wpAny_loadName_local I.ok.kind z hn hm fin) hd
 ·rcases z with z|z
  ·exact qip (wpAny_loadName_cell I.ok.kind z C q fin) hd
  ·exact qip (wpAny_loadName_free I.ok.kind z C q fin F) hd
theorem D3 {i j pos}:PE X (.Constant (.int i) j pos) (tC (.int i)):=λ_ _ _ H _ I h=>wpAny_Constant_int ⟨.int i,H,I.tok _,⟨_,U⟩,h⟩
theorem FY {b j pos}:PE X (.Constant (.bool b) j pos) (tC (.bl b)):=λ_ _ _ H _ I h=>Constant_bool ⟨.bl b,H,I,U,h⟩
theorem D4 {j pos}:PE X (.Constant .none j pos) (tC .non):=λ_ _ _ H _ I h=>Constant_none ⟨.non,H,I,U,h⟩
theorem D7 {x j pos}:PE X (.Constant (.str x) j pos) (tC (.str x)):=λ_ _ _ H _ I h=>Calls.Constant_str ⟨.str x,H,I.tok _,⟨_,U⟩,h⟩
def Gl (X:Cx) (x:Str):Prop:=X.env.kindOf x=some .globalImplicit
theorem wc {E:Value->qai->Prop}{f:List (Addr×Obj)}{s:qai}{g:St}{H:Hp}{x:Str}{u:Value}{pos:Pos}{Q:Value->qai->Prop} (I:Inv X f g H s) (hg:Gl X x) (hm:X.mg x=some u) (h:Q u s)
  (hd:(x==("__debug__" : Str))=false:=by decide):wpAny (model X.prog X.w) X.A (eval (.Name x pos) X.env) Q E s:=
 qfT I.ok.kind hg (Calls.loadGlobal_global (by rw[I.ok.glob];exact I.mod.glob.keeps I.bk) hm h) hd
theorem jn {E:Value->qai->Prop}{f:List (Addr×Obj)}{s:qai}{g:St}{H:Hp}{x:Str}{u:Value}{pos:Pos}{Q:Value->qai->Prop} (I:Inv X f g H s) (hg:Gl X x) (hm:X.mg x=none) (A:qcd x=some u) (h:Q u s)
  (hn:x≠"__name__":=by decide) (hd:(x==("__debug__" : Str))=false:=by decide):wpAny (model X.prog X.w) X.A (eval (.Name x pos) X.env) Q E s:=by
 obtain⟨L,K,J⟩:=I.mod.blt;exact qfT I.ok.kind hg (Calls.loadGlobal_builtin (by rw[I.ok.glob];exact I.mod.glob.keeps I.bk) hm (by rw[I.ok.blt];exact K.keeps I.bk) ((J x hn).trans A) h) hd
theorem BF {x:Str}{v:V}{u:Value}{pos:Pos} (hg:Gl X x) (hm:X.mg x=none) (A:qcd x=some u) (r:aP v u) (hn:x≠"__name__":=by decide) (hd:(x==("__debug__" : Str))=false:=by decide):PE X (.Name x pos) (tC v):=
 λ_ _ _ H _ I h=>jn I hg hm A ⟨v,H,I,r,h⟩ hn hd
variable {a b:Expr}{p y:TE}{pos:Pos}
variable {o w:TT}{rest:List Expr}
def G6 (t u:TT):TT:=λg H Q=>t g H λc H1=>if c=true then u g H1 Q else Q false H1
def tOr (t u:TT):TT:=λg H Q=>t g H λc H1=>if c=true then Q true H1 else u g H1 Q
def Hd (t:TT):TT:=λg H Q=>t g H λc H1=>Q (!c) H1
theorem BX (n:PT X a o):PW X (.BoolOp .And [a] pos) o:=by
 intro B f s g H Q I h;refine isTrue_and (thn (n f s g H Q I h) λc s1 e=>?_);cases c with
 |true=>exact isTrue_and_nil e
 |false=>exact e
theorem Ej (n:PT X a o):PW X (.BoolOp .Or [a] pos) o:=by
 intro B f s g H Q I h;refine isTrue_or (thn (n f s g H Q I h) λc s1 e=>?_);cases c with
 |false=>exact isTrue_or_nil e
 |true=>exact e
theorem zW (n:PT X a o) (hb:PW X (.BoolOp .And (b::rest) pos) w):PW X (.BoolOp .And (a::b::rest) pos) (G6 o w):=by
 intro B f s g H Q I h;refine isTrue_and (thn (n f s g H _ I h) λc s1 ⟨H1,I1,k⟩=>?_);cases c with
 |true=>exact hb B f s1 g H1 Q I1 k
 |false=>exact⟨H1,I1,k⟩
theorem CP (n:PT X a o) (hb:PW X (.BoolOp .Or (b::rest) pos) w):PW X (.BoolOp .Or (a::b::rest) pos) (tOr o w):=by
 intro B f s g H Q I h;refine isTrue_or (thn (n f s g H _ I h) λc s1 ⟨H1,I1,k⟩=>?_);cases c with
 |true=>exact⟨H1,I1,k⟩
 |false=>exact hb B f s1 g H1 Q I1 k
theorem Eh (n:PT X a o):PT X (.UnaryOp .Not a pos) (Hd o):=by
 intro f s g H Q I h;exact isTrue_not (n f s g H _ I h)
def Gg (p y:TE):TE:=λg H Q=>p g H λx H1=>∃ c,x=.bl c/\if c=true then y g H1 Q else Q (.bl false) H1
def Gq (p:TE):TE:=λg H Q=>p g H λx H1=>∃ c,x=.bl c/\Q (.bl (!c)) H1
theorem D6 {op}{t:TE} (h:PE X a t):PE X (.BoolOp op [a] pos) t:=λf s g H Q I hw=>BoolOp_one (h f s g H Q I hw)
theorem zC (n:PE X a p) (hb:PE X (.BoolOp .And (b::rest) pos) y):PE X (.BoolOp .And (a::b::rest) pos) (Gg p y):=by
 intro f s g H Q I h;refine BoolOp_and (thn (n f s g H _ I h) λv s1 ⟨x,H1,I1,D,k⟩=>?_);obtain⟨c,rfl,k⟩:=k;cases D;refine qcm ?_;cases c with
 |true=>exact hb f s1 g H1 Q I1 k
 |false=>exact⟨.bl false,H1,I1,U,k⟩
theorem D5 (n:PE X a p):PE X (.UnaryOp .Not a pos) (Gq p):=by
 intro f s g H Q I h;refine UnaryOp_ (thn (n f s g H _ I h) λv s1 ⟨x,H1,I1,D,k⟩=>?_);obtain⟨c,rfl,k⟩:=k;cases D;exact not_of (qcm ⟨.bl _,H1,I1,U,k⟩)
def tIf (t:TT) (p y:TE):TE:=λg H Q=>t g H λc H1=>if c=true then p g H1 Q else y g H1 Q
theorem tU {c:Expr} (C:PT X c o) (n:PE X a p) (hb:PE X b y):PE X (.IfExp c a b pos) (tIf o p y):=by
 intro f s g H Q I h;refine wpAny_IfExp (thn (C f s g H _ I h) λd s1 ⟨H1,I1,k⟩=>?_);cases d with
 |true=>exact n f s1 g H1 Q I1 k
 |false=>exact hb f s1 g H1 Q I1 k
end
def SqL (K:qae) (H:Hp) (a:Addr) (xs:List V):Prop:=
 Rd H a (.lst xs)\/
  ∃ (o:Obj) (b:Array Value) (n:Nat),K.lookup a=some o/\o.cls=.type "list"/\o.dict=none/\o.data=.seq b n/\b.size<=qaJ/\aH xs b.toList
def SqT (K:qae) (H:Hp) (a:Addr) (xs:List V):Prop:=
 H a=some (.tup xs)\/
  ∃ (o:Obj) (b:Array Value) (n:Nat),K.lookup a=some o/\o.cls=.type "tuple"/\o.data=.seq b n/\b.size<=qaJ/\aH xs b.toList/\o.dict=none
def GD:Value->Option V
 |.none=>some .non
 |.bool b=>some (.bl b)
 |.int i _=>some (.int i)
 |.str x _=>some (.str x)
 |.bytes b _=>some (.byt b)
 |.float b _=>some (.flt b)
 |.ref a=>some (.ref a)
 |.type n=>some (.ty n)
 |_=>none
theorem aP.abs {x:V}{u:Value} (r:aP x u):GD u=some x:=by
 cases x with
 |non=>cases r;rfl
 |bl _=>cases r;rfl
 |int _=>obtain⟨t,rfl⟩:=r;rfl
 |str _=>obtain⟨t,rfl⟩:=r;rfl
 |byt _=>obtain⟨t,rfl⟩:=r;rfl
 |flt _=>obtain⟨t,rfl⟩:=r;rfl
 |ref _=>cases r;rfl
 |ty _=>cases r;rfl
theorem aP.inj {x y:V}{u:Value} (r:aP x u) (q:aP y u):x=y:=qaL (r.abs.symm.trans q.abs)
theorem aH.inj:∀ {xs b:List V}{a:List Value},aH xs a->aH b a->xs=b
 |_,_,_,.nil,.nil=>rfl
 |_,_,_,.cons r t,.cons c t'=>by rw[r.inj c,aH.inj t t']
section
variable {X:Cx}{f:List (Addr×Obj)}{i:St}{H:Hp}{s:qai}{a:Addr}{xs q:List V}
theorem SqL.of {K:qae} (h:H a=some (.lst xs)):SqL K H a xs:=.inl (.inl h)
theorem SqT.of {K:qae} (h:H a=some (.tup xs)):SqT K H a xs:=.inl h
theorem Inv.list (I:Inv X f i H s) (h:SqL X.K H a xs):∃ b:List Value,aH xs b/\PlainL s.heap a b.toArray/\xs.length<=qaJ:=by
 rcases h with h|⟨o,b,n,l,j,hd,m,u,r⟩
 ·obtain⟨z,b,n,r,e⟩:=h.ok I.hok
  exact⟨b,r,⟨_,n,e,U,U,U⟩,z⟩
 ·refine⟨b.toList,r,⟨o,n,I.kIn a o l,j,hd,by simpa using m⟩,?_⟩
  have e:=r.length;simp only[qcy]at e;lia
theorem Inv.tuple (I:Inv X f i H s) (h:SqT X.K H a xs):∃ b:List Value,aH xs b/\IsTup s.heap a b.toArray/\xs.length<=qaJ:=by
 rcases h with h|⟨o,b,n,l,j,m,u,r,_⟩
 ·obtain⟨z,b,r,p⟩:=(Rd.of h).ok I.hok
  exact⟨b,r,p.tup,z⟩
 ·refine⟨b.toList,r,⟨o,I.kIn a o l,j,n,by simpa using m⟩,?_⟩
  have e:=r.length;simp only[qcy]at e;lia
theorem Inv.tuple1 (I:Inv X f i H s) (h:SqT X.K H a xs):∃ o:Obj,s.heap.get? a=some o/\o.cls=.type "tuple"/\o.dict=none:=by
 rcases h with h|⟨o,b,n,l,j,m,u,r,hd⟩
 ·obtain⟨z,b,r,o,e,c,_,hd⟩:=(Rd.of h).ok I.hok
  exact⟨o,e,c,hd⟩
 ·exact⟨o,I.kIn a o l,j,hd⟩
theorem Inv.list_inj (I:Inv X f i H s) (h:SqL X.K H a xs) (h':SqL X.K H a q):xs=q:=by
 obtain⟨b,r,⟨o,n,e,_,_,d⟩,_⟩:=I.list h;obtain⟨g,t,⟨w,v,k,_,_,d'⟩,_⟩:=I.list h';rw[e]at k;cases k;rw[d]at d';injection d' with d1 _
 have:=by simpa using congrArg qgD d1
 subst this;exact r.inj t
theorem Inv.tuple_inj (I:Inv X f i H s) (h:SqT X.K H a xs) (h':SqT X.K H a q):xs=q:=by
 obtain⟨b,r,⟨o,e,_,n,d⟩,_⟩:=I.tuple h;obtain⟨g,t,⟨w,k,_,v,d'⟩,_⟩:=I.tuple h';rw[e]at k;cases k;rw[d]at d';injection d' with d1 _
 have:=by simpa using congrArg qgD d1
 subst this;exact r.inj t
end
abbrev Cx.wish (X:Cx) (E:Value->qai->Prop):Cx:={ X with xe:=E }
abbrev Cx.nox (X:Cx):Cx:=X.wish λ_ _=>False
theorem Cx.Ok.wish {X:Cx} (ok:X.Ok) (E:Value->qai->Prop):(X.wish E).Ok:=
 ⟨ok.mod,ok.kind,ok.glob,ok.blt,ok.above,ok.inj,ok.has,ok.cab,ok.hd,ok.frames,ok.stk,ok.exf,ok.bs,ok.bsz,ok.noex,ok.exfs,ok.funs,ok.frf⟩
theorem Cx.Ok.unwish {X:Cx}{E:Value->qai->Prop} (ok:(X.wish E).Ok):X.Ok:=
 ⟨ok.mod,ok.kind,ok.glob,ok.blt,ok.above,ok.inj,ok.has,ok.cab,ok.hd,ok.frames,ok.stk,ok.exf,ok.bs,ok.bsz,ok.noex,ok.exfs,ok.funs,ok.frf⟩
section
variable {X:Cx}{a:List (Addr×Obj)}{c:St}{H:Hp}{s:qai}{E:Value->qai->Prop}
theorem Inv.wish (I:Inv X a c H s) (E:Value->qai->Prop):Inv (X.wish E) a c H s:=⟨I.ok.wish E,I.os,I.bare,I.base,I.loc,I.cell,I.free,I.freeC,I.pin,I.hok,I.len⟩
theorem Inv.unwish (I:Inv (X.wish E) a c H s):Inv X a c H s:=⟨I.ok.unwish,I.os,I.bare,I.base,I.loc,I.cell,I.free,I.freeC,I.pin,I.hok,I.len⟩
theorem SP.unwish {D:ox}{f:Flow}{s':qai} (h:SP (X.wish E) a D f s'):SP X a D f s':=by
 cases f with
 |next=>obtain⟨b,H',I,q⟩:=h;exact⟨b,H',I.unwish,q⟩
 |brk=>obtain⟨b,H',I,q⟩:=h;exact⟨b,H',I.unwish,q⟩
 |cont=>obtain⟨b,H',I,q⟩:=h;exact⟨b,H',I.unwish,q⟩
 |ret u=>obtain⟨v,b,H',I,r,q⟩:=h;exact⟨v,b,H',I.unwish,r,q⟩
theorem PSs.nox {st:List Stmt}{t:TS} (h:PSs X.nox st t):PSs X st t:=λa s c H D I hw=>
 qcq (h a s c H D (I.wish _) hw) (λ_ _ q=>q.unwish) λ_ _ z=>qcv z
end
section
variable {X:Cx}{st:Stmt}{rest:List Stmt}{t u:TS}{e:Expr}{te:TE}{pos:Pos}
def Gp:TS:=λD i H=>D.nx i H
def Hf (t u:TS):TS:=λD i H=>t { D with nx:=u D } i H
theorem BR:PSs X [] Gp:=λ_ _ i H _ I h=>qe0 ⟨i,H,I,h⟩
theorem di (l:PS X st t) (r:PSs X rest u):PSs X (st::rest) (Hf t u):=by
 intro g s i H D I h;refine qiN (thn (l g s i H { D with nx:=u D } I h) λf s1 q=>?_);cases f with
 |next=>
  obtain⟨n,H',I',q⟩:=q;exact r g s1 n H' D I' q
 |ret v=>exact q
 |brk=>exact q
 |cont=>exact q
theorem wE (l:PS X st t):PSs X [st] t:=by
 intro g s i H D I h;refine qiN (thn (l g s i H D I h) λf s1 q=>?_);cases f with
 |next=>exact qe0 q
 |ret v=>exact q
 |brk=>exact q
 |cont=>exact q
def EC:TS:=λD i H=>D.bk i H
def Gk:TS:=λD i H=>D.ct i H
theorem zQ:PS X (.Break pos) EC:=λ_ _ i H _ I h=>wpAny_Break ⟨i,H,I,h⟩
theorem tY:PS X (.Continue pos) Gk:=λ_ _ i H _ I h=>wpAny_Continue ⟨i,H,I,h⟩
theorem Inv.quiet {g:List (Addr×Obj)}{i:St}{H:Hp}{s:qai} (I:Inv X g i H s):interactive X.env=false:=by simp[interactive,I.ok.kind]
def Gn (te:TE):TS:=λD i H=>te i H λ_ H1=>D.nx i H1
theorem BQ (m:PE X e te) (w:qct e none pos.line X.env=pure false:=by rfl):PS X (.Expr e pos) (Gn te):=by
 intro g s i H D I h;exact wpAny_Expr_any (thn (m g s i H _ I h) λv s1 ⟨x,H1,I1,p,j⟩=>⟨i,H1,I1,j⟩) I.quiet w
def He (te:TE):TS:=λD i H=>te i H D.rt
theorem Ee (m:PE X e te):PS X (.Return (some e) pos) (He te):=by
 intro g s i H D I h;exact wpAny_Return_some (thn (m g s i H _ I h) λv s1 ⟨x,H1,I1,p,j⟩=>⟨x,i,H1,I1,p,j⟩)
def G9 (c:TT) (t u:TS):TS:=λD i H=>c i H λb H1=>if b=true then t D i H1 else u D i H1
theorem CN {c:Expr}{a b:List Stmt}{o:TT} (y:PT X c o) (z:PSs X a t) (hb:PSs X b u):PS X (.If c a b pos) (G9 o t u):=by
 intro g s i H D I h;refine wpAny_If (thn (y g s i H _ I h) λd s1 ⟨H1,I1,j⟩=>?_);cases d with
 |true=>exact z g s1 i H1 D I1 j
 |false=>exact hb g s1 i H1 D I1 j
def EF:TS:=λ_ _ _=>False
theorem fN {k:List Stmt}:PSs X k EF:=λ_ _ _ _ _ _ h=>h.elim
end
abbrev TG:=V->St->Hp->(St->Hp->Prop)->Prop
abbrev TGs:=List V->St->Hp->(St->Hp->Prop)->Prop
def PG (X:Cx) (a:Expr) (t:TG):Prop:=
 ∀ (b:List (Addr×Obj)) (s:qai) (d:St) (H:Hp) (v:V) (u:Value) (Q:St->Hp->Prop),Inv X b d H s->aP v u->t v d H Q->
  wpAny (model X.prog X.w) X.A (qf9 a X.env u) (λ_ s'=>∃ c H',Inv X b c H' s'/\Q c H') X.xe s
def PGs (X:Cx) (ts:List Expr) (t:TGs):Prop:=
 ∀ (a:List (Addr×Obj)) (s:qai) (c:St) (H:Hp) (d:List V) (e:List Value) (Q:St->Hp->Prop),Inv X a c H s->aH d e->t d c H Q->
  wpAny (model X.prog X.w) X.A (assignInOrder ((qbX ts X.env).map (·.2)) e) (λ_ s'=>∃ b H',Inv X a b H' s'/\Q b H') X.xe s
abbrev C5:=V->V->V->Hp->(Hp->Prop)->Prop
def ET (X:Cx) (t:C5):Prop:=
 ∀ (a:List (Addr×Obj)) (s:qai) (b:St) (H:Hp) (o i v:V) (c iv u:Value) (Q:Hp->Prop),Inv X a b H s->aP o c->aP i iv->aP v u->t o i v H Q->
  wpAny (model X.prog X.w) X.A (qjB c iv u) (λ_ s'=>∃ H',Inv X a b H' s'/\Q H') X.xe s
section
variable {X:Cx}{pos:Pos}
def sE (i:Nat):TG:=λv d H Q=>Q (d.set i (some v)) H
theorem gx {i:Nat}{x:Str} (hN:X.N.Nodup) (hi:X.N[i]?=some x) (z:Loc X.env.scope x) (T:X.fn x=true\/X.env.scope.names.lookup x=some .local:=by first|exact .inl U|exact .inr U|assumption):PG X (.Name x pos) (sE i):=by
 intro c s d H v u Q I r h;exact qio (iD I hN hi z r (λs' I'=>⟨_,H,I',h⟩) T)
def GJ:TGs:=λA d H Q=>A=[]/\Q d H
def Fg (t:TG) (u:TGs):TGs:=λA d H Q=>∃ v r,A=v::r/\t v d H λP H'=>u r P H' Q
theorem BJ:PGs X [] GJ:=by
 intro c s d H A us Q I r h;obtain⟨e,h⟩:=h;exact qis ⟨d,H,I,h⟩
theorem zH {e:Expr}{es:List Expr}{t:TG}{u:TGs} (h1:PG X e t) (h2:PGs X es u)
  (l:(qbX (e::es) X.env).map (·.2)=qf9 e X.env::(qbX es X.env).map (·.2):=by rfl):PGs X (e::es) (Fg t u):=by
 intro c s d H A us Q I r h;obtain⟨v,vr,F,h⟩:=h;subst F;cases r with
 |cons r rr=>
  rw[l];refine qfI (thn (h1 c s d H _ _ _ I r h) λ_ s1 ⟨σ1,H1,I1,f⟩=>?_);exact h2 c s1 σ1 H1 _ _ Q I1 rr f
def GL (K:qae) (n:Nat) (t:TGs):TG:=λv d H Q=>∃ a xs,v=.ref a/\SqT K H a xs/\xs.length=n/\t xs d H Q
theorem Ea {es:List Expr}{k:Nat}{t:TGs}{n:Nat} (hc:X.calm=true) (h:PGs X es t)
  (hn:(qbX es X.env).length=n:=by rfl) (S:(qbX es X.env).findIdx? (·.1)=none:=by rfl):PG X (.Tuple es k pos) (GL X.K n t):=by
 intro c s d H v u Q I r hw;obtain⟨a,xs,F,hq,hl,hw⟩:=hw;subst F;cases r;obtain⟨its,J,ht,hz⟩:=I.tuple hq;refine assign_Tuple_tuple (I.ok.hd hc) ht (by simp[hn,<-hl,J.length]) S λh' z=>?_;exact h c _ d H xs _ Q (I.kept λb o e=>z b o (qax (qau e)) e) (by simpa using J) hw
def GK (to ti:TE) (t:C5):TG:=λv d H Q=>to d H λo H1=>ti d H1 λi H2=>t o i v H2 λH3=>Q d H3
theorem rs {o i:Expr}{to ti:TE}{t:C5} (ho:PE X o to) (hi:PE X i ti) (l:ET X t)
  (R:∀ v,qf9 (.Subscript o i pos) X.env v=(do
    let E <-qfX [v] (eval o X.env)
    let iv <-qfX [v,E] (eval i X.env)
    qjz pos
    qfX [v,E,iv] (qjB E iv v)
    release [v,E,iv] []):=by intro _;rfl):PG X (.Subscript o i pos) (GK to ti t):=by
 intro c s d H v u Q I r h;rw[R];refine qab (qbT (thn (ho c s d H _ I h) λE s1 ⟨x,H1,I1,B,f⟩=>?_));refine qab (qbT (thn (hi c s1 d H1 _ I1 f) λiv L ⟨y,H2,I2,r2,q2⟩=>?_));refine qab (qeH (qab (qbT (thn (l c L d H2 x y v E iv u _ I2 B r2 r q2) λ_ s3 ⟨H3,I3,q3⟩=>?_))));exact wpAny_release ⟨d,H3,I3,q3⟩
def EB (te:TE) (g:TG):TS:=λD d H=>te d H λx H1=>g x d H1 D.nx
theorem nY {C e:Expr}{te:TE}{g:TG} (V:PE X e te) (hg:PG X C g) (l:qdF [C] e pos.line X.env=pure false:=by rfl) (hw:qdG [C] e X.env=pure none:=by rfl)
  (h1:(qbX [C] X.env).map (·.2)=[qf9 C X.env]:=by rfl):PS X (.Assign [C] e pos) (EB te g):=by
 intro c s d H D I h;refine wpAny_Assign_stores (thn (V c s d H _ I h) λv s1 ⟨x,H1,I1,B,f⟩=>?_) l hw;rw[h1];exact thn (hg c s1 d H1 x v _ I1 B f) λ_ L q=>q
theorem Eg {i:Nat}{x:Str}{e:Expr}{te:TE}{m:Pos} (hN:X.N.Nodup) (hi:X.N[i]?=some x) (z:Loc X.env.scope x) (V:PE X e te) (l:qct e (some (.Name x m)) pos.line X.env=pure false:=by rfl) (T:X.fn x=true\/X.env.scope.names.lookup x=some .local:=by first|exact .inl U|exact .inr U|assumption) :
  PS X (.Assign [.Name x m] e pos) (EB te (sE i)):=by
 intro c s d H D I h;refine wpAny_Assign_Name (thn (V c s d H _ I h) λv s1 ⟨y,H1,I1,B,f⟩=>?_) l;exact iD I1 hN hi z B (λL I2=>⟨_,H1,I2,f⟩) T
def Gr (i j:Nat) (N:TA):TS:=λD d H=>N d H λA H1=>∃ v w,A=[v,w]/\D.nx ((d.set i (some v)).set j (some w)) H1
theorem rA {i j:Nat}{x y:Str}{a b:Expr}{N:TA}{W py pt:Pos}{kt k2 pt2} (hc:X.calm=true) (hN:X.N.Nodup) (hi:X.N[i]?=some x) (hj:X.N[j]?=some y) (O:i≠j)
  (z:X.env.scope.names.lookup x=some .local) (hy:X.env.scope.names.lookup y=some .local) (R:PA X [a,b] N)
  (hw:qdG [.Tuple [.Name x W,.Name y py] kt pt] (.Tuple [a,b] k2 pt2) X.env=pure (some [x,y]))
  (l:qdF [.Tuple [.Name x W,.Name y py] kt pt] (.Tuple [a,b] k2 pt2) pos.line X.env=pure false:=by rfl) :
  PS X (.Assign [.Tuple [.Name x W,.Name y py] kt pt] (.Tuple [a,b] k2 pt2) pos) (Gr i j N):=by
 intro c s d H D I h;refine qab (qeH ?_);refine qab (qan ?_);refine qab (Tuple_ (thn (R _ c s d H _ I h) λus s1 ⟨A,H1,I1,B,f⟩=>?_));obtain⟨v,w,F,f⟩:=f;subst F;obtain⟨G,M,rfl,J,Y⟩:∃ G M,us=[G,M]/\aP v G/\aP w M:=by
  cases B with
  |cons p q=>
   cases q with
   |cons p' q'=>
    cases q';exact⟨_,_,U,p,p'⟩
 refine qb8 ?_ (by show 2<=qaJ;decide);rw[hw];refine qab (qan ?_);refine qab (qds (qab (unpackItems_tuple (items:=#[G,M]) (I.ok.hd hc) (IsTup.new s1.heap _) λh' hx'=>?_)));refine qab (qfI (qjQ (iD ((I1.kept λb o e=>qaf _ e).kept λb o e=>hx' b o (qax (qau e)) e) hN hj (.inl hy) Y (λL I4=>?_) (.inr hy))));refine qfI (qjQ (iD I4 hN hi (.inl z) J (λs3 I5=>qis (qan ?_)) (.inr z)));rw[List.set_comm _ _ (qbk O)]at I5;exact⟨_,H1,I5,f⟩
end
section
variable {X:Cx}{pos:Pos}
def EG (c:TT) (l:TS):TS:=λD i H=>∃ W:Nat->St->Hp->Prop,(∃ m,W m i H)/\∀ m i H,W m i H->
 c i H λb H1=>if b=true then ∃ N:St->Hp->Prop,(∀ e H',N e H'->∃ j,j<m/\W j e H')/\l { D with nx:=N,ct:=N,bk:=D.nx } i H1 else D.nx i H1
theorem zS {c:Expr}{body:List Stmt}{r:TT}{l:TS} (t:qhE (model X.prog X.w) X.A X.env X.xe) (x:PT X c r) (hb:PSs X body l):PS X (.While c body [] pos) (EG r l):=by
 intro d s i H D I h;obtain⟨W,⟨m0,w0⟩,turn⟩:=h;refine wpAny_While (codeAny_whileLoop (λn s'=>∃ e H',Inv X d e H' s'/\W n e H') ?_ m0 ⟨i,H,I,w0⟩)
 rintro n s1 ⟨g,H1,I1,u⟩
 refine qc4 t (thn (x d s1 g H1 _ I1 (turn n g H1 u)) λb w ⟨H2,I2,k⟩=>?_);cases b with
 |true=>
  obtain⟨N,hN,k⟩:=k;refine qc4 t (thn (hb d w g H2 _ I2 k) λf y o=>?_);cases f with
  |next=>
   obtain⟨a,H3,I3,q⟩:=o;obtain⟨j,hm,p⟩:=hN a H3 q;exact⟨j,hm,a,H3,I3,p⟩
  |cont=>
   obtain⟨a,H3,I3,q⟩:=o;obtain⟨j,hm,p⟩:=hN a H3 q;exact⟨j,hm,a,H3,I3,p⟩
  |brk=>exact o
  |ret v=>exact o
 |false=>
  exact qe0 ⟨g,H2,I2,k⟩
end
structure It where
 go:Nat->Hp->Prop
 yld:Nat->Hp->V->Hp->Prop
 stop:Nat->Hp->Prop
def iY (X:Cx) (a:List (Addr×Obj)) (H:Hp) (b:Addr):Prop:=
 H b=none/\b≠X.env.locals/\b∉X.fs/\(b∈X.ex\/X.s₀.heap.objs.size<=b)/\(∀ x c,X.env.cells.lookup x=some c->c≠b)/\∀ p∈X.pn++a,p.1≠b
theorem Inv.fpOk {X:Cx}{a:List (Addr×Obj)}{d:St}{H H':Hp}{s:qai}{b:Addr} (I:Inv X a d H s) (hb:s.heap.objs.size<=b) (hn:H' b=none):iY X a H' b:=by
 refine⟨hn,qcg (qaQ I.lt hb),I.nofs hb,.inr (qaT I.sz hb),λx c e z=>?_,λp f z=>?_⟩
 ·obtain⟨v,q⟩:=I.cell x c e
  exact absurd (qaQ q.lt (by rw[z];exact hb)) (qa2 _)
 ·exact absurd (qaQ (qau (I.pin p f).1) (by rw[z];exact hb)) (qa2 _)
structure uo (P:qaM) (w:World) (K:qae) (tg:Expr) (J:It) (fp:List Addr) (it:Addr) (tn:Nat->Heap->Prop):Prop where
 mem:it∈fp
 obj:∀ i h,tn i h->∀ b∈fp,∃ o,h.get? b=some o/\∀ v,o.data≠.cell v
 keep:∀ i h h',tn i h->(∀ b∈fp,∀ o,h.get? b=some o->h'.get? b=some o)->tn i h'
 item:∀ (X:Cx),X.prog=P->X.w=w->X.K=K->X.calm=true->∀ (i:Nat) (pins:List (Addr×Obj)) (s:qai) (σ:St) (H:Hp) (E:Value->qai->Prop),Inv X pins σ H s->(∀ b∈fp,iY X pins H b)->tn i s.heap->J.go i H->
  wpAny (model P w) X.A (qgW (.ref it)) (λr s1=>∃ u,r=some u/\
   wpAny (model P w) X.A (qgw tg (.ref it) u) (λ_ s2=>∃ x H',Inv X pins σ H' s2/\aP x u/\J.yld i H x H'/\tn (i+1) s2.heap/\∀ b∈fp,H' b=none) E s1) E s
 done:∀ (X:Cx),X.prog=P->X.w=w->X.K=K->X.calm=true->∀ (i:Nat) (pins:List (Addr×Obj)) (s:qai) (σ:St) (H:Hp) (E:Value->qai->Prop),Inv X pins σ H s->(∀ b∈fp,iY X pins H b)->tn i s.heap->J.stop i H->
  wpAny (model P w) X.A (qgW (.ref it)) (λr s1=>r=none/\Inv X pins σ H s1) E s
 self:∀ (A:qaY) (i:Nat) (s:qai) (Q:Value->qai->Prop) (E:Value->qai->Prop),tn i s.heap->Q (.ref it) s->wpAny (model P w) A (qhz (.ref it)) Q E s
abbrev TI:=St->Hp->(It->Hp->Prop)->Prop
def PIE (X:Cx) (a:List (Addr×Obj)) (h:St) (i:Expr) (R:It->Hp->Prop) (c:Value) (f:qai):Prop:=
 ∃ (e:Addr) (g:List Addr) (d:Nat->Heap->Prop) (J:It) (H':Hp),c=.ref e/\Inv X a h H' f/\uo X.prog X.w X.K i J g e d/\d 0 f.heap/\(∀ b∈g,iY X a H' b)/\R J H'
def PI (X:Cx) (c iter:Expr) (d:TI):Prop:=
 ∀ (a:List (Addr×Obj)) (s:qai) (b:St) (H:Hp) (R:It->Hp->Prop),Inv X a b H s->d b H R->
  wpAny (model X.prog X.w) X.A (eval iter X.env) (λv s1=>wpAny (model X.prog X.w) X.A (qhz v) (PIE X a b c R) X.xe s1) X.xe s
theorem yP {M:Model}{A:qaY}{E:Value->qai->Prop}{s:qai}{c:Expr}{b:Addr}{u:Value}{o:Obj}{n:String}{d:Array Value}{Q:Unit->qai->Prop} (f:s.heap.get? b=some o) (e:o.cls=.type n) (hd:o.data=.fields d)
  (hn:["enumerate","zip","dict_itemiterator","dict_reverseitemiterator","odict_iterator","itertools.zip_longest","itertools.pairwise"].contains n=false) (a:Q () s):wpAny M A (qgw c (.ref b) u) Q E s:=by
 cases c<;>first
  |exact qan a
  | (cases u<;>first
      |exact qan a
      | (refine qab (wpAny_load f ?_)
         rw[e,hd];show wpAny M A (if _=true then _ else _) Q E s;rw[iFN (by intro h;rw[hn]at h;cases h)]
         exact qan a))
def Itl (K:qae) (a:Addr):It:=
 ⟨λi H=>∃ xs x,SqL K H a xs/\xs[i]?=some x,λi H x H'=>H'=H/\∀ xs,SqL K H a xs->xs[i]?=some x,λi H=>∃ xs,SqL K H a xs/\xs.length<=i⟩
def Itt (K:qae) (a:Addr):It:=
 ⟨λi H=>∃ xs x,SqT K H a xs/\xs[i]?=some x,λi H x H'=>H'=H/\∀ xs,SqT K H a xs->xs[i]?=some x,λi H=>∃ xs,SqT K H a xs/\xs.length<=i⟩
def Itr (lo:Int) (n:Nat):It:=⟨λi _=>i<n,λi H x H'=>H'=H/\x=.int (lo+i),λi _=>n<=i⟩
theorem ym {P:qaM}{w:World}{K:qae}{Q:Expr} (a f:Addr):uo P w K Q (Itl K a) [f] f (λi h=>h.IsListIter f a i) where
 mem:=by simp
 obj:=λi h st b hb=>by
  have e:=by simpa using hb
  subst e;obtain⟨o,e,c,d⟩:=st;exact⟨o,e,λv z=>by rw[d]at z;cases z⟩
 keep:=λi h h' st k=>st.at λo e=>k f (by simp) o e
 item:=by
  intro X q hw A G i j s S H E I m st hg;subst q hw A;obtain⟨xs,x,l,B⟩:=hg;obtain⟨t,r,p,J⟩:=I.list l;obtain⟨u,O,N⟩:=r.get B;obtain⟨D,F,M,y,C,n⟩:=m f (by simp);refine qcU st p.isList (by simpa using O) λh' g L=>?_;obtain⟨o,e,c,d⟩:=id g;exact⟨u,U,yP e c d (by decide) ⟨x,H,(I.turned (λb o hb e=>(L.2 b hb).trans e) D F y C n),N,⟨U,λW R=>by rw[I.list_inj R l];exact B⟩,g,λb hb=>(m b hb).1⟩⟩
 done:=by
  intro X q hw A G i j s S H E I m st hg;subst q hw A;obtain⟨xs,l,B⟩:=hg;obtain⟨t,r,p,J⟩:=I.list l;obtain⟨D,F,M,y,C,n⟩:=m f (by simp);have V:=r.length;exact qc3 (I.ok.hd G) st p.isList (by simp;lia) λh' T=>⟨U,I.turned (λb o hb e=>T b o hb e) D F y C n⟩
 self:=λ_ _ _ _ _ st h=>wpAny_pyIter_listiter st h
theorem vh {P:qaM}{w:World}{K:qae}{Q:Expr} (a f:Addr):uo P w K Q (Itt K a) [f] f (λi h=>h.IsTupleIter f a i) where
 mem:=by simp
 obj:=λi h st b hb=>by
  have e:=by simpa using hb
  subst e;obtain⟨o,e,c,d⟩:=st;exact⟨o,e,λv z=>by rw[d]at z;cases z⟩
 keep:=λi h h' st k=>st.at λo e=>k f (by simp) o e
 item:=by
  intro X q hw A G i j s S H E I m st hg;subst q hw A;obtain⟨xs,x,l,B⟩:=hg;obtain⟨t,r,p,J⟩:=I.tuple l;obtain⟨u,O,N⟩:=r.get B;obtain⟨D,F,M,y,C,n⟩:=m f (by simp);refine wpAny_pyNext_tuple_item st (p) (by simpa using O) λh' g L=>?_;obtain⟨o,e,c,d⟩:=id g;exact⟨u,U,yP e c d (by decide) ⟨x,H,(I.turned (λb o hb e=>(L.2 b hb).trans e) D F y C n),N,⟨U,λW R=>by rw[I.tuple_inj R l];exact B⟩,g,λb hb=>(m b hb).1⟩⟩
 done:=by
  intro X q hw A G i j s S H E I m st hg;subst q hw A;obtain⟨xs,l,B⟩:=hg;obtain⟨t,r,p,J⟩:=I.tuple l;obtain⟨D,F,M,y,C,n⟩:=m f (by simp);have V:=r.length;exact wpAny_pyNext_tuple_end (I.ok.hd G) st (p) (by simp;lia) λh' T=>⟨U,I.turned (λb o hb e=>T b o hb e) D F y C n⟩
 self:=λ_ _ _ _ _ st h=>wpAny_pyIter_tupleiter st h
theorem vg {P:qaM}{w:World}{K:qae}{A:Expr} (a:Addr) (lo:Int) (n:Nat):uo P w K A (Itr lo n) [a] a (λi h=>IsRangeIter h a (lo+(i:Nat)*1) ((n:Int) - (i:Nat)) 1) where
 mem:=by simp
 obj:=λi h st b hb=>by
  have e:=by simpa using hb
  subst e
  exact⟨_,st,λv z=>by
   cases z⟩
 keep:=λi h h' st k=>k a (by simp) _ st
 item:=by
  intro X r hw x q i d s C H E I f st hg;obtain⟨m,p,y,j,l,g⟩:=f a (by simp);refine (Walks.range (I.ok.hd q) a lo 1 n).item i s _ _ hg st λv h' F u c B=>?_;obtain⟨t,rfl⟩:=u;refine⟨_,U,yP c U U (by decide) ⟨.int _,H,(I.turned (λb o hb e=>B b o (by simpa using hb) e) m p j l g),⟨t,?_⟩,⟨U,U⟩,c,λb hb=>(f b hb).1⟩⟩;rw[qcX]
 done:=by
  intro X r hw x q i d s C H E I f st hg;obtain⟨m,p,y,j,l,g⟩:=f a (by simp);exact wpAny_pyNext_range_end (I.ok.hd q) st (by have:n<=i:=hg;lia) λh' D=>⟨U,I.turned (λb o hb e=>D b o hb e) m p j l g⟩
 self:=λ_ _ _ _ _ st h=>wpAny_pyIter_rangeiter st h
section
variable {X:Cx}{M:Expr}
def Fj (K:qae) (tl:TE):TI:=λk H R=>tl k H λx H1=>∃ a,x=.ref a/\(∃ xs,SqL K H1 a xs)/\R (Itl K a) H1
def GN (K:qae) (tl:TE):TI:=λk H R=>tl k H λx H1=>∃ a,x=.ref a/\(∃ xs,SqT K H1 a xs)/\R (Itt K a) H1
theorem BK {l:Expr}{tl:TE} (hl:PE X l tl):PI X M l (Fj X.K tl):=by
 intro c s k H R I h;refine thn (hl c s k H _ I h) λv s1 ⟨x,H1,I1,S,O⟩=>?_;obtain⟨a,e,⟨xs,hq⟩,q⟩:=O;subst e;cases S;obtain⟨its,rv,p,hz⟩:=I1.list hq;refine qdO p.isList ?_;refine⟨s1.heap.objs.size,_,_,_,H1,U,I1.kept λb o e=>qaf _ e,ym a _,⟨_,qas _ U,U,U⟩,λb hb=>?_,q⟩;have e:=by simpa using hb
 subst e;exact I1.fpOk (qao _) (I1.hok.fresh (qao _))
theorem Eb {l:Expr}{tl:TE} (hl:PE X l tl):PI X M l (GN X.K tl):=by
 intro c s k H R I h;refine thn (hl c s k H _ I h) λv s1 ⟨x,H1,I1,S,O⟩=>?_;obtain⟨a,e,⟨xs,hq⟩,q⟩:=O;subst e;cases S;obtain⟨its,rv,p,hz⟩:=I1.tuple hq;refine qc0 (p) ?_;refine⟨s1.heap.objs.size,_,_,_,H1,U,I1.kept λb o e=>qaf _ e,vh a _,⟨_,qas _ U,U,U⟩,λb hb=>?_,q⟩;have e:=by simpa using hb
 subst e;exact I1.fpOk (qao _) (I1.hok.fresh (qao _))
theorem z5 {c:List (Addr×Obj)}{k:St}{H:Hp}{s:qai}{R:It->Hp->Prop}{E:Value->qai->Prop}{lo hi:Int}{t u v:Tok}{tk:Nat} (I:Inv X c k H s) (h1:-(2^62)<=lo) (h2:lo<2^62) (h3:-(2^62)<=hi) (h4:hi<2^62)
  (q:R (Itr lo (hi - lo).toNat) H):wpAny (model X.prog X.w) X.A (qhz (.ref s.heap.objs.size)) (PIE X c k M R) E { s with heap:=s.heap.push { cls:=.type "range",data:=.fields #[.int lo t,.int hi u,.int 1 v] },toks:=tk }:=by
 refine wpAny_pyIter_range (IsRange.new ..) (small_one h1 h2 h3 h4) ?_;have I1:Inv X c k H { s with heap:=s.heap.push { cls:=.type "range",data:=.fields #[.int lo t,.int hi u,.int 1 v] },toks:=tk }:=I.kept λb o e=>qaf _ e
 refine⟨_,_,_,_,H,U,
  I1.kept λb o e=>qaf _ e,vg _ lo (hi - lo).toNat,?_,λb hb=>?_,q⟩
 ·have e1:lo+((0:Nat))*1=lo:=by simp
  have e2:(((hi - lo).toNat)) - ((0:Nat))=qfi lo hi 1:=by rw[qha];split<;>lia
  rw[e1,e2];exact qas _ U
 ·have e:b=(s.heap.push { cls:=.type "range",data:=.fields #[.int lo t,.int hi u,.int 1 v] }).objs.size:=by simpa using hb
  subst e;exact I1.fpOk (qao _) (I1.hok.fresh (qao _))
def Fk (ta:TA):TI:=λk H R=>ta k H λvs H1=>∃ j:Int,vs=[.int j]/\-(2^62)<=j/\j<2^62/\R (Itr 0 j.toNat) H1
theorem x8 {a:Expr}{ta:TA}{p pos:Pos} (hg:Gl X "range") (hm:X.mg "range" = none) (ha:PA X [a] ta) (hs:qbD [a] X.env=[(false,eval a X.env)]:=by rfl):PI X M (.Call (.Name "range" p) [a] [] pos) (Fk ta):=by
 intro c s k H R I h;refine Call_ (jn I hg hm boot_range (qcc (thn (ha pos c s k H _ I h) λus s1 ⟨vs,H1,I1,S,O⟩=>?_) hs U));obtain⟨j,e,O,q2,q⟩:=O;subst e;cases S with
 |cons r rr=>
  cases rr;obtain⟨t,rfl⟩:=r;exact call_range_1 (z5 I1 (by lia) (by lia) O q2 (by simpa using q))
def G8 (wi:TI) (g:TG) (Y:TS):TS:=λD k H=>wi k H λJ H1=>∃ W:Nat->Nat->St->Hp->Prop,(∃ m,W 0 m k H1)/\∀ i m k H,W i m k H->
 (J.stop i H/\D.nx k H)\/(J.go i H/\∃ N:St->Hp->Prop,(∀ y H',N y H'->∃ m',m'<m/\W (i+1) m' y H')/\∀ x H',J.yld i H x H'->g x k H' λσ2 H2=>Y { D with nx:=N,ct:=N,bk:=D.nx } σ2 H2)
def nX (A:List Addr) (h:Heap):List (Addr×Obj):=A.filterMap λb=>(h.get? b).map λo=>(b,o)
theorem cB {A:List Addr}{h:Heap}{b:Addr}{o:Obj} (hb:b∈A) (e:h.get? b=some o):(b,o)∈nX A h:=qfc.mpr ⟨b,hb,by rw[e];rfl⟩
theorem xZ {A:List Addr}{h:Heap}{p:Addr×Obj} (F:p∈nX A h):p.1∈A/\h.get? p.1=some p.2:=by
 obtain⟨b,hb,e⟩:=qfc.mp F;cases q:h.get? b with
 |none=>rw[q]at e;cases e
 |some o=>
  rw[q]at e;have e':=qaL e;subst e';exact⟨hb,q⟩
theorem Inv.pinned {c:List (Addr×Obj)}{k:St}{H:Hp}{s:qai}{A:List Addr} (I:Inv X c k H s) (hf:∀ b∈A,iY X c H b) (ho:∀ b∈A,∃ o,s.heap.get? b=some o/\∀ v,o.data≠.cell v):Inv X (c++nX A s.heap) k H s:=
 I.pins_of λp F=>(qaR.mp F).elim (λz=>I.pin p (qav _ z)) λz=>by
  obtain⟨hb,e⟩:=xZ z;obtain⟨f0,f1,f2,_⟩:=hf p.1 hb;obtain⟨o,e',d⟩:=ho p.1 hb;rw[e]at e';cases e';exact⟨e,f0,f1,f2,d⟩
theorem Inv.unpinned {c pl:List (Addr×Obj)}{k:St}{H:Hp}{s:qai} (I:Inv X (c++pl) k H s):Inv X c k H s:=I.pins_of λp F=>I.pin p (qav _ (qaV _ F))
theorem Ed {iter:Expr}{body:List Stmt}{wi:TI}{g:TG}{Y:TS}{pos:Pos} (F:qhE (model X.prog X.w) X.A X.env X.xe) (hc:X.calm=true) (hi:PI X M iter wi) (hg:PG X M g) (hb:PSs X body Y)
  (hs:∀ x,qbW iter X.env x=pure x:=by intro _;rfl):PS X (.For M iter body [] pos) (G8 wi g Y):=by
 intro c s k H D I h;refine wpAny_For (thn (hi c s k H _ I h) λv s1 h1=>thn h1 λitv s2 h2=>?_) hs;obtain⟨it,A,tn,J,H2,e,I2,T,st2,f2,W,⟨m0,w0⟩,turn⟩:=h2;subst e
 -- what stays true of the iterator's objects through the loop
 have C:∀ {H':Hp},(∀ b∈A,H' b=none)->∀ b∈A,iY X c H' b:=λhn b hb=>⟨hn b hb,(f2 b hb).2⟩;refine codeAny_forLoop_any (λn s'=>∃ i y H',Inv X c y H' s'/\tn i s'.heap/\(∀ b∈A,H' b=none)/\W i n y H') ?_ m0 ⟨0,k,H2,I2,st2,λb hb=>(f2 b hb).1,w0⟩
 rintro n s3 ⟨i,B,H3,I3,V,P,w3⟩
 rcases turn i n B H3 w3 with⟨stop,qn⟩|⟨go,N,hN,step⟩
 ·refine qc4 F (thn (T.done X U U U hc i c s3 B H3 X.xe I3 (C P) V stop) λr s4 ⟨hr,I4⟩=>?_)
  subst hr;exact qe0 ⟨B,H3,I4,qn⟩
 ·refine qc4 F (thn (T.item X U U U hc i c s3 B H3 X.xe I3 (C P) V go) λr s4 ⟨u,hr,h4⟩=>?_)
  subst hr;refine qc4 F (thn h4 λ_ s5 ⟨x,H5,I5,r5,y5,L,fr5⟩=>?_);refine qc4 F (thn (hg _ s5 B H5 x u _ (I5.pinned (C fr5) (T.obj _ _ L)) r5 (step x H5 y5)) λ_ s6 ⟨σ6,H6,I6,q6⟩=>?_);refine qc4 F (thn (hb _ s6 σ6 H6 _ I6 q6) λf s7 G=>?_);have again:∀ {w:St}{H7:Hp},Inv X _ w H7 s7->N w H7->∃ m,m<n/\∃ i y H',Inv X c y H' s7/\tn i s7.heap/\(∀ b∈A,H' b=none)/\W i m y H':=λ{w H7} I7 Q=>by
   obtain⟨m',hm,w7⟩:=hN w H7 Q;refine⟨m',hm,_,w,H7,I7.unpinned,T.keep _ _ _ L λb hb o e=>(I7.pin (b,o) (qav _ (qav _ (cB hb e)))).1,λb hb=>?_,w7⟩;obtain⟨o,e,d⟩:=T.obj _ _ L b hb;exact (I7.pin (b,o) (qav _ (qav _ (cB hb e)))).2.1
  cases f with
  |next=>obtain⟨w,H7,I7,Q⟩:=G;exact again I7 Q
  |cont=>obtain⟨w,H7,I7,Q⟩:=G;exact again I7 Q
  |brk=>obtain⟨w,H7,I7,G⟩:=G;exact⟨w,H7,I7.unpinned,G⟩
  |ret v=>obtain⟨x7,w,H7,I7,r7,G⟩:=G;exact⟨x7,w,H7,I7.unpinned,r7,G⟩
end
abbrev R2:=V->V->Hp->VK->Prop
def OpR (X:Cx) (f:Value->Value->Sem Value) (r:R2):Prop:=
 ∀ (a:List (Addr×Obj)) (s:qai) (b:St) (H:Hp) (x y:V) (v u:Value) (Q:VK),Inv X a b H s->aP x v->aP y u->r x y H Q->
  wpAny (model X.prog X.w) X.A (f v u) (EP X a b Q) X.xe s
def UnR (X:Cx) (f:Value->Sem Value) (r:V->Hp->VK->Prop):Prop:=
 ∀ (a:List (Addr×Obj)) (s:qai) (b:St) (H:Hp) (x:V) (v:Value) (Q:VK),Inv X a b H s->aP x v->r x H Q->
  wpAny (model X.prog X.w) X.A (f v) (EP X a b Q) X.xe s
def bE (X:Cx) (f:Value) (r:List V->Hp->VK->Prop):Prop:=
 ∀ (a:List (Addr×Obj)) (s:qai) (b:St) (H:Hp) (xs:List V) (c:List Value) (Q:VK),Inv X a b H s->aH xs c->r xs H Q->
  wpAny (model X.prog X.w) X.A (call f c) (EP X a b Q) X.xe s
def GC (X:Cx) (r:V->Hp->(Bool->Hp->Prop)->Prop):Prop:=
 ∀ (a:List (Addr×Obj)) (s:qai) (b:St) (H:Hp) (x:V) (v:Value) (Q:Bool->Hp->Prop),Inv X a b H s->aP x v->r x H Q->
  wpAny (model X.prog X.w) X.A (truthy v) (TP X a b Q) X.xe s
def tOp (r:R2) (b c:TE):TE:=λa H Q=>b a H λx H1=>c a H1 λy H2=>r x y H2 Q
def tUn (r:V->Hp->VK->Prop) (b:TE):TE:=λa H Q=>b a H λx H1=>r x H1 Q
def rI (C:Int->Int->Prop) (g:Int->Int->V):R2:=λx y H Q=>∃ i j,x=.int i/\y=.int j/\C i j/\Q (g i j) H
def rI0 (g:Int->Int->V):R2:=λx y H Q=>∃ i j,x=.int i/\y=.int j/\Q (g i j) H
def rU (g:Int->V):V->Hp->VK->Prop:=λx H Q=>∃ i,x=.int i/\Q (g i) H
section
variable {X:Cx}{a b c:Expr}{p B O:TE}{pos:Pos}
theorem Da (A:PE X a p) (hb:PE X b B) {d:List (Addr×Obj)}{s:qai}{e:St}{H:Hp}{R:V->V->Hp->Prop} (I:Inv X d e H s)
  (h:p e H λx H1=>B e H1 λy H2=>R x y H2) {Q:Value->qai->Prop}{f:Value->Value->Sem Value}
  (L:∀ v u o x y H2,Inv X d e H2 o->aP x v->aP y u->R x y H2->wpAny (model X.prog X.w) X.A (f v u) Q X.xe o) :
  wpAny (model X.prog X.w) X.A (eval a X.env) (λv z=>wpAny (model X.prog X.w) X.A (eval b X.env) (λu w=>wpAny (model X.prog X.w) X.A (f v u) Q X.xe w) X.xe z) X.xe s:=by
 refine thn (A d s e H _ I h) λv s1 ⟨x,H1,I1,J,K⟩=>?_;refine thn (hb d s1 e H1 _ I1 K) λu o ⟨y,H2,I2,N,M⟩=>?_;exact L v u o x y H2 I2 J N M
theorem CM {op:Operator}{r:R2} (G:OpR X (qbH op) r) (A:PE X a p) (hb:PE X b B):PE X (.BinOp a op b pos) (tOp r p B):=by
 intro d s e H Q I h;exact wpAny_BinOp (Da A hb I h λv u o x y H2 I2 m n q=>G d o e H2 x y v u Q I2 m n q)
theorem F0 {op:UnaryOp}{r:V->Hp->VK->Prop} (G:UnR X (unaryOp op) r) (A:PE X a p):PE X (.UnaryOp op a pos) (tUn r p):=by
 intro d s e H Q I h;exact UnaryOp_ (thn (A d s e H _ I h) λv s1 ⟨x,H1,I1,J,K⟩=>G d s1 e H1 x v Q I1 J K)
theorem opI {f:Value->Value->Sem Value}{C:Int->Int->Prop}{g:Int->Int->Int}
  (rule:∀ (i j:Int) (t u:Tok) (s:qai) (Q:Value->qai->Prop) (E:Value->qai->Prop),C i j->Q (.int (g i j) s.toks) { s with toks:=s.toks+1 }->wpAny (model X.prog X.w) X.A (f (.int i t) (.int j u)) Q E s) :
  OpR X f (rI C λi j=>.int (g i j)):=by
 intro d s e H x y v u Q I m n h;obtain⟨i,j,rfl,rfl,l,q⟩:=h;obtain⟨t,rfl⟩:=m;obtain⟨t',rfl⟩:=n;exact rule i j t t' s _ _ l ⟨.int _,H,I.tok _,⟨_,U⟩,q⟩
theorem DP {f:Value->Value->Sem Value}{g:Int->Int->Int}
  (rule:∀ (i j:Int) (t u:Tok) (s:qai) (Q:Value->qai->Prop) (E:Value->qai->Prop),Q (.int (g i j) s.toks) { s with toks:=s.toks+1 }->wpAny (model X.prog X.w) X.A (f (.int i t) (.int j u)) Q E s) :
  OpR X f (rI0 λi j=>.int (g i j)):=by
 intro d s e H x y v u Q I m n h;obtain⟨i,j,rfl,rfl,q⟩:=h;obtain⟨t,rfl⟩:=m;obtain⟨t',rfl⟩:=n;exact rule i j t t' s _ _ ⟨.int _,H,I.tok _,⟨_,U⟩,q⟩
theorem By {f:Value->Value->Sem Value}{g:Int->Int->Bool}
  (rule:∀ (i j:Int) (t u:Tok) (s:qai) (Q:Value->qai->Prop) (E:Value->qai->Prop),Q (.bool (g i j)) s->wpAny (model X.prog X.w) X.A (f (.int i t) (.int j u)) Q E s) :
  OpR X f (rI0 λi j=>.bl (g i j)):=by
 intro d s e H x y v u Q I m n h;obtain⟨i,j,rfl,rfl,q⟩:=h;obtain⟨t,rfl⟩:=m;obtain⟨t',rfl⟩:=n;exact rule i j t t' s _ _ ⟨.bl _,H,I,U,q⟩
def GA (i j:Int):Prop:=0<j/\j<1073741824
def mx (i j:Int):Prop:=0<=j/\j<=1000000/\i.natAbs<2^64
def AH (i j:Int):Prop:=(-(2^64)<i/\i<2^64)\/(-(2^64)<j/\j<2^64)
theorem AH.ok {i j:Int} (h:AH i j):qgp i j:=by
 rcases h with⟨F,D⟩|⟨F,D⟩
 ·exact .of_left (intBits_le_64 F D)
 ·exact .of_right (intBits_le_64 F D)
theorem vi (k:Nat):(0:Int)<=2^k:=by
 exact Int.natCast_nonneg _
theorem DQ:OpR X (qbH .Add) (rI0 λi j=>.int (i+j)):=DP λ_ _ _ _ _ _ _ q=>add_int q
theorem DY:OpR X (qbH .Sub) (rI0 λi j=>.int (i - j)):=DP λ_ _ _ _ _ _ _ q=>sub_int q
theorem BB:OpR X (qbH .FloorDiv) (rI GA λi j=>.int (i / j)):=opI λi j _ _ _ _ _ l q=>by
 have F:=l.1;have D:=l.2;exact floordiv_int (by lia) (by rw[qd6 i (by lia)];exact q) (.inl (PyProof.noPylong_small (by lia)))
theorem DU:OpR X (qbH .Mod) (rI (λ_ j=>0<j) λi j=>.int (i%j)):=opI λi j _ _ _ _ _ l q=>by
 exact mod_int' (by lia) (by rw[Int.fmod_eq_emod_of_nonneg i (by lia)];exact q)
theorem DV:OpR X (qbH .Pow) (rI mx λi j=>.int (i^j.toNat)):=opI λ_ _ _ _ _ _ _ l q=>pow_int_small l.1 l.2.1 l.2.2 q
theorem DW:OpR X (qbH .LShift) (rI mx λi j=>.int (i*2^j.toNat)):=opI λ_ _ _ _ _ _ _ l q=>lshift_int_small l.1 l.2.1 l.2.2 q
theorem DX:OpR X (qbH .RShift) (rI (λ_ j=>0<=j) λi j=>.int (i / 2^j.toNat)):=opI λi j _ _ _ _ _ l q=>
 rshift_int l (by rw[qd6 i (vi _)];exact q)
theorem DR:OpR X (qbH .BitAnd) (rI0 λi j=>.int (qd0 i j)):=DP λ_ _ _ _ _ _ _ q=>and_int q
theorem unI {f:Value->Sem Value}{g:Int->Int}
  (rule:∀ (i:Int) (t:Tok) (s:qai) (Q:Value->qai->Prop) (E:Value->qai->Prop),Q (.int (g i) s.toks) { s with toks:=s.toks+1 }->wpAny (model X.prog X.w) X.A (f (.int i t)) Q E s) :
  UnR X f (rU λi=>.int (g i)):=by
 intro d s e H x v Q I m h;obtain⟨i,rfl,q⟩:=h;obtain⟨t,rfl⟩:=m;exact rule i t s _ _ ⟨.int _,H,I.tok _,⟨_,U⟩,q⟩
theorem EK:UnR X (unaryOp .USub) (rU λi=>.int (-i)):=unI λ_ _ _ _ _ q=>neg_int q
end
section
variable {X:Cx}{a b c:Expr}{E N tc:TE}{pos:Pos}
theorem yL {d:List (Addr×Obj)}{f:St}{H:Hp}{s:qai}{Q:VK}{k k':Bool} (I:Inv X d f H s) (q:Q (.bl k) H) (e:k=k'):EP X d f Q (.bool k') s:=by
 subst e;exact⟨.bl k,H,I,U,q⟩
theorem FW:OpR X (qbN .Lt) (rI0 λi j=>.bl (decide (i<j))):=By λ_ _ _ _ _ _ _ q=>lt_int q
theorem FV:OpR X (qbN .LtE) (rI0 λi j=>.bl (decide (i<=j))):=By λ_ _ _ _ _ _ _ q=>le_int q
theorem FU:OpR X (qbN .Gt) (rI0 λi j=>.bl (decide (j<i))):=By λ_ _ _ _ _ _ _ q=>gt_int q
theorem FT:OpR X (qbN .GtE) (rI0 λi j=>.bl (decide (j<=i))):=By λ_ _ _ _ _ _ _ q=>ge_int q
theorem DS:OpR X (qbN .Is) (λx y H Q=>y=.non/\Q (.bl (decide (x=.non))) H):=by
 intro d s f H x y v u Q I l D h;obtain⟨rfl,q⟩:=h;cases D;refine is_none_gen (yL I q ?_);cases x<;>first
  |(rfl)
  |(obtain⟨t,rfl⟩:=l;rfl)
theorem BD:OpR X (qbN .IsNot) (λx y H Q=>y=.non/\Q (.bl (!decide (x=.non))) H):=by
 intro d s f H x y v u Q I l D h;obtain⟨rfl,q⟩:=h;cases D;refine isnot_none_gen (yL I q ?_);cases x<;>first
  |(rfl)
  |(obtain⟨t,rfl⟩:=l;rfl)
theorem BG {op:CmpOp}{r:R2} (S:OpR X (qbN op) r) (L:PE X a E) (hb:PE X b N) (hm:qfH op b=false):PE X (.Compare a [op] [b] pos) (tOp r E N):=by
 intro d s f H Q I h;exact wpAny_Compare1 (Da L hb I h λv u R x y H2 I2 l D q=>S d R f H2 x y v u Q I2 l D q) hm
def Gu (t:TE):TT:=λf H Q=>t f H λx H'=>∃ k,x=.bl k/\Q k H'
theorem BS {op:CmpOp}{r:R2} (S:OpR X (qbN op) r) (L:PE X a E) (hb:PE X b N) (hm:qfH op b=false):PT X (.Compare a [op] [b] pos) (Gu (tOp r E N)):=by
 intro d s f H Q I h
 refine wpAny_isTrue_Compare1 (thn (L d s f H _ I h) λv s1 ⟨x,H1,I1,w,q1⟩=>thn (hb d s1 f H1 _ I1 q1) λu R ⟨y,H2,I2,J,q2⟩=>
  thn (S d R f H2 x y v u _ I2 w J q2) λc s3 ⟨z,H3,I3,P,k,e,q3⟩=>?_) hm
 subst e;cases P;exact qcm ⟨H3,I3,q3⟩
def AL (K:qae) (x:V) (H:Hp) (k:Bool):Prop:=
 match x with
 |.non=>k=false
 |.bl b=>k=b
 |.int i=>k=(i != 0)
 |.str y=>y.length<=qaJ/\k=((y.length:Int) != 0)
 |.byt y=>y.size<=qaJ/\k=((y.size:Int) != 0)
 |.ref p=>(∃ xs,SqL K H p xs/\k=!xs.isEmpty)\/(∃ xs,SqT K H p xs/\k=!xs.isEmpty)\/∃ g,H p=some (.dK g)/\k=!g.isEmpty
 |_=>False
theorem uJ {κ:Type}{g:List (κ×V)}{F:List (κ×Value)} (r:KV g F):(!F.isEmpty)=!g.isEmpty:=by
 cases r<;>rfl
theorem nq {xs:List V}{o:List Value} (r:aH xs o):(!o.toArray.isEmpty)=!xs.isEmpty:=by
 cases r<;>simp
theorem kK:(qaJ:Nat)<2^63:=by decide
theorem EH:GC X (λx H Q=>∃ k,AL X.K x H k/\Q k H):=by
 intro d s f H x v Q I l h;obtain⟨k,e,q⟩:=h;have hs:=qdr;cases x with
 |non=>
  cases l;subst e;exact truthy_none ⟨H,I,q⟩
 |bl b=>
  cases l;subst e;exact qcm ⟨H,I,q⟩
 |int i=>
  obtain⟨t,rfl⟩:=l;subst e;exact PySem.P.truthy_int ⟨H,I,q⟩
 |str y=>
  obtain⟨t,rfl⟩:=l;obtain⟨hy,n⟩:y.length<=qaJ/\k=_:=e;subst n;exact PySem.P.truthy_str (by lia) ⟨H,I.tok _,q⟩
 |byt y=>
  obtain⟨t,rfl⟩:=l;obtain⟨hy,n⟩:y.size<=qaJ/\k=_:=e;subst n;exact PySem.W.truthy_bytes (by lia) ⟨H,I.tok _,q⟩
 |ref p=>
  cases l;have n:=e;rcases n with⟨xs,G,n⟩|⟨xs,G,n⟩|⟨g,G,n⟩
  ·subst n
   obtain⟨o,r,T,M⟩:=I.list G;have C:=r.length;exact wpAny_truthy_list T.isList (by simp only[qaG];lia) ⟨H,I.tok _,by rw[nq r];exact q⟩
  ·subst n
   obtain⟨o,r,T,M⟩:=I.tuple G;have C:=r.length;exact truthy_tuple T (by simp only[qaG];lia) ⟨H,I.tok _,by rw[nq r];exact q⟩
  ·subst n
   obtain⟨M,hS,F,r,m⟩:g.length<=qaJ/\(p==qcr)=false/\∃ F,KV g F/\s.heap.DictOf _ p F:=I.hok p _ G;have C:=qeT r;exact wpAny_truthy_dict hS m (by lia) ⟨H,I.tok _,by rw[uJ r];exact q⟩
 |_=>exact (show False from e).elim
theorem zT (L:PE X a E) (he:∀ whole,qjF a X.env whole=(do let v <-whole;qjz a.pos;qfX [v] (truthy v))) :
  PT X a (λf H Q=>E f H λx H'=>∃ k,AL X.K x H' k/\Q k H'):=by
 intro d s f H Q I h;exact isTrue_plain (thn (L d s f H _ I h) λv s1 ⟨x,H1,I1,w,q1⟩=>EH d s1 f H1 x v Q I1 w q1) (he _)
theorem uZ:OpR X (qbH .Add) (λx y H Q=>∃ i j,x=.str i/\y=.str j/\i.length+j.length<=qaJ/\Q (.str (i++j)) H):=by
 intro d s f H x y v u Q I l D h;obtain⟨i,j,rfl,rfl,M,q⟩:=h;obtain⟨t,rfl⟩:=l;obtain⟨t',rfl⟩:=D;exact add_str (λt' W=>⟨.str _,H,I.tok _,⟨_,U⟩,q⟩) M
theorem fT {x:V}{A:List Value} (r:aH [x] A):∃ u,A=[u]/\aP x u:=by
 cases r with
 |cons w J=>cases J;exact⟨_,U,w⟩
theorem C0 {x y:V}{A:List Value} (r:aH [x,y] A):∃ u O,A=[u,O]/\aP x u/\aP y O:=by
 cases r with
 |cons w J=>
  cases J with
  |cons P r4=>cases r4;exact⟨_,_,U,w,P⟩
theorem yz:bE X (.builtin "abs") (λxs H Q=>∃ i,xs=[.int i]/\Q (.int (if i<0 then -i else i)) H):=by
 intro d s f H xs A Q I r h;obtain⟨i,rfl,q⟩:=h;obtain⟨u,rfl,t,rfl⟩:=fT r;exact call_abs_int λu W=>⟨.int _,H,I.tok _,⟨_,U⟩,q⟩
theorem xr (Y:X.calm=true):bE X (.builtin "max") (λxs H Q=>∃ i j,xs=[.int i,.int j]/\Q (.int (if j > i then j else i)) H):=by
 intro d s f H xs A Q I r h;obtain⟨i,j,rfl,q⟩:=h;obtain⟨u,O,rfl,⟨t,rfl⟩,⟨t',rfl⟩⟩:=C0 r;refine max_two_ints (I.ok.hd Y) λh' W k=>⟨_,H,I.kept k,?_,q⟩;by_cases B:j > i
 ·rw[iFP B,iFP B];exact⟨_,U⟩
 ·rw[iFN B,iFN B];exact⟨_,U⟩
theorem xv (Y:X.calm=true):bE X (.builtin "min") (λxs H Q=>∃ i j,xs=[.int i,.int j]/\Q (.int (if j<i then j else i)) H):=by
 intro d s f H xs A Q I r h;obtain⟨i,j,rfl,q⟩:=h;obtain⟨u,O,rfl,⟨t,rfl⟩,⟨t',rfl⟩⟩:=C0 r;refine min_two_ints (I.ok.hd Y) λh' W k=>⟨_,H,I.kept k,?_,q⟩;by_cases B:j<i
 ·rw[iFP B,iFP B];exact⟨_,U⟩
 ·rw[iFN B,iFN B];exact⟨_,U⟩
theorem oS:bE X (.type "int") (λxs H Q=>(∃ i,xs=[.int i]/\Q (.int i) H)\/∃ k,xs=[.bl k]/\Q (.int (if k then 1 else 0)) H):=by
 intro d s f H xs A Q I r h;rcases h with⟨i,rfl,q⟩|⟨k,rfl,q⟩
 ·obtain⟨u,rfl,t,rfl⟩:=fT r
  exact call_int_int ⟨.int i,H,I,⟨_,U⟩,q⟩
 ·obtain⟨u,rfl,w⟩:=fT r
  cases w;exact call_int_bool ⟨.int _,H,I.tok _,⟨_,U⟩,q⟩
end
structure xb (h:Heap) (x dx C:Addr) (mA:Str->Option Value):Prop where
 obj:h.get? x=some (qdj C dx)
 ns:h.Ns1 dx mA
 ne:dx≠x
theorem xU {h:Heap}{d:Addr}{c:Str->Option Value} (n:h.Ns1 d c):∃ f,h.get? d=some f/\∀ name,qfJ name f=some (c name):=by
 obtain⟨o,es,l,k,hd,g,_,hm⟩:=n;refine⟨o,k,λname=>?_⟩;have e:=hm name;unfold nsFind findBy at e;rw[<-Array.find?_toList]at e;unfold qfJ;rw[hd];dsimp only;split
 ·rename_i y q
  rw[q]at e;exact congrArg some e
 ·rename_i q
  rw[q]at e;have a:es.toList.any (·.refKey)=false:=by
   rw[qfo];intro y j;obtain⟨z,t,b⟩:=g y (Array.mem_toList_iff.mp j);simp[DictEntry.refKey,b]
  have i:¬ es.toList.any (·.refKey)=true:=by rw[a];exact qaB
  rw[iFN i];exact congrArg some e
theorem xb.look {h:Heap}{x c C:Addr}{b:Str->Option Value} (I:xb h x c C b):∃ a,PySem.W.InstAt h x (qdj C c) C (some a)/\∀ name,qfJ name a=some (b name):=
 let ⟨a,ho,hl⟩:=xU I.ns
 ⟨a,⟨I.obj,U,U,ho⟩,hl⟩
section
variable {prog:qaM}{w:World}{A:qaY}{E:Value->qai->Prop}{s:qai}{K:qae}{x g C f:Addr}{a:Str->Option Value}{name:Str}{v:Value}
theorem A7 {c:Bool}{Q:Value->qai->Prop} (X:K.In s.heap) (I:xb s.heap x g C a) (hg:qei K C name=true) (n:qd2 K C=true)
  (H:qce K (.ref C) name=some none) (z:a name=some v) (i:qgY v=true) (h:Q v { s with toks:=s.toks+1 }) :
  wpAny (model prog w) A (getAttr (.ref x) name c) Q E s:=by
 obtain⟨u,J,q⟩:=I.look;exact PySem.W.get_value X J (PySem.W.plainGet_of hg).1 (PySem.W.findObj_own n H U (by rw[q,z])) i h
theorem B8 {ns:List Str}{Q:Unit->qai->Prop} (X:K.In s.heap) (I:xb s.heap x g C a)
  (r:qce K (.ref C) "__setattr__" = some (some (.builtin "object.__setattr__"))) (M:qe5 K C=true) (F:qfr K C name=some none) (n:qd2 K C=true)
  (hw:qgz a ns) (L:ns.length<=qaJ)
  (h:∀ h',xb h' x g C (λy=>if y=name then some v else a y)->qdk g s.heap h'->Q () { s with heap:=h',toks:=s.toks+2 }) :
  wpAny (model prog w) A (setAttr (.ref x) name v) Q E s:=by
 obtain⟨u,J,q⟩:=I.look;refine PySem.W.set_plain X J r (PySem.W.osa_open X J M F λb=>?_);obtain⟨N,G,l⟩:=PySem.W.any_some n;refine qab (qan (qab (qab (wpAny_loadPart I.obj (qab (qiy (PySem.W.looks_clsIn X G) ?_))))));rw[l];refine qan (qab (qan (qab ?_)));refine wpAny_nsSet1 I.ns λh' d e=>?_;obtain⟨O,t,D,o,k,j⟩:=d.count (qjp name v hw);refine qab (wpAny_lookBehind o (by rw[k];exact pastItsLine_dict (qaT j (by rw[qaq];lia))) ?_);exact qan (h _ ⟨(e.2 _ (qbk I.ne)).trans I.obj,d,I.ne⟩ e)
theorem zl {R:qhB->qai->Prop}{p:List Value}{m:List (Str×Value)} (X:K.In s.heap) (hm:qfs K C=true)
  (hi:qce K (.ref C) "__init__" = some (some (.ref f))) (B:PySem.W.typeIn K (.ref f)=some (.type "function"))
  (h:qdH (model prog w) (A.under (.builtin "type.__call__" ⟨.ref C::p,m⟩)) (.call (.ref f) ⟨.ref (s.heap.objs.size+1)::p,m⟩) (PySem.W.InitBack (s.heap.objs.size+1) R)
    { s with heap:=(s.heap.push qcR).push (qdj C s.heap.objs.size) }) :
  qdH (model prog w) A (.call (.ref C) ⟨p,m⟩) R s:=by
 exact PySem.W.make_core (PySem.W.makes_of X hm) (PySem.W.looks_findIn X hi) (λself=>PySem.W.bind_fn X self B) (.inl U) h
end
def fO (f:Str) (v:V):List (Str×V)->List (Str×V)
 |[]=>[(f,v)]
 |(g,x)::r=>if g=f then (g,v)::r else (g,x)::fO f v r
theorem lj (f g:Str) (v:V):∀ fs:List (Str×V),(fO f v fs).lookup g=if g=f then some v else fs.lookup g
 |[]=>by
  show qdX g [(f,v)]=_;by_cases h:g=f
  ·simp only[qdX,(beq_iff_eq.mpr h),iFP h]
  ·simp only[qdX,(beq_eq_false_iff_ne.mpr h),iFN h]
 |(k,x)::r=>by
  rw[show fO f v _=(if k=f then (k,v)::r else (k,x)::fO f v r) from U];by_cases a:k=f
  ·rw[iFP a]
   by_cases h:g=k
   ·simp only[qdX,(beq_iff_eq.mpr h),iFP (h.trans a)]
   ·simp only[qdX,(beq_eq_false_iff_ne.mpr h),iFN (λe:g=f=>h (e.trans a.symm))]
  ·rw[iFN a]
   by_cases h:g=k
   ·simp only[qdX,(beq_iff_eq.mpr h),iFN (λe=>a (h.symm.trans e))]
   ·simp only[qdX,(beq_eq_false_iff_ne.mpr h)]
    exact (lj f g v r)
theorem kI (f:Str) (v:V):∀ fs:List (Str×V),f∈(fO f v fs).map (·.1)/\∀ g,g∈fs.map (·.1)->g∈(fO f v fs).map (·.1)
 |[]=>⟨by simp[fO],λg h=>by simp at h⟩
 |(k,x)::r=>by
  obtain⟨b,c⟩:=kI f v r;rw[show fO f v _=(if k=f then (k,v)::r else (k,x)::fO f v r) from U];by_cases a:k=f
  ·subst a
   exact⟨by simp,λg h=>by simpa using h⟩
  ·rw[iFN a]
   refine⟨?_,λg h=>?_⟩
   ·exact qaj _ b
   ·rcases qay.mp h with e|e
    ·exact qay.mpr (.inl e)
    ·exact qaj _ (c g e)
theorem lh (f:Str) (v:V):∀ fs:List (Str×V),(fO f v fs).length<=fs.length+1
 |[]=>by simp[fO]
 |(k,x)::r=>by
  have b:=lh f v r;rw[show fO f v _=(if k=f then (k,v)::r else (k,x)::fO f v r) from U];by_cases a:k=f
  ·rw[iFP a,qaq,qaq];lia
  ·rw[iFN a,qaq,qaq];lia
theorem lq.some_of {v:V}{o:Option Value} (r:lq (some v) o):∃ u,o=some u/\aP v u:=by
 cases o with
 |none=>exact (r).elim
 |some u=>exact⟨u,U,r⟩
theorem xG {v:V}{u:Value} (r:aP v u):qgY u=true:=by
 cases v with
 |non=>cases (r);rfl
 |bl b=>cases (r);rfl
 |int i=>obtain⟨t,e⟩:=(r);cases e;rfl
 |str x=>obtain⟨t,e⟩:=(r);cases e;rfl
 |byt b=>obtain⟨t,e⟩:=(r);cases e;rfl
 |flt b=>obtain⟨t,e⟩:=(r);cases e;rfl
 |ref a=>cases (r);rfl
 |ty n=>cases (r);rfl
section
variable {P:qaM}{w:World}{H H':Hp}{h h':Heap}{a C c:Addr}{fs g:List (Str×V)}
theorem qE (hok:HOk P w H h) (e:H a=some (.ins C c fs)):∃ b,xb h a c C b/\(∀ f,lq (fs.lookup f) (b f))/\qgz b (fs.map (·.1))/\fs.length<=1000/\H c=some (.own a):=by
 obtain⟨d,z,ne,ob,b,n,r,q⟩:=(hok a _ e);exact⟨b,⟨ob,n,ne⟩,r,q,z,d⟩
end
structure Cls (K:qae) (C:Addr):Prop where
 pg:qei K C Str.empty=true
 hd:qd2 K C=true
 po:qe5 K C=true
 sa:qce K (.ref C) "__setattr__" = some (some (.builtin "object.__setattr__"))
theorem Cls.get {K:qae}{C:Addr} (c:Cls K C) (f:Str):qei K C f=true:=c.pg
def cr (K:qae) (C:Addr) (f:Str):Prop:=qce K (.ref C) f=some none
theorem cr.taker {K:qae}{C:Addr}{f:Str} (n:cr K C f):qfr K C f=some none:=by
 unfold qfr;rw[n];rfl
section
variable {X:Cx}{d:List (Addr×Obj)}{i:St}{H:Hp}{s:qai}{a C k:Addr}{fs:List (Str×V)}{f:Str}{v:V}{A:qaY}{E:Value->qai->Prop}
theorem uF {b:Bool}{Q:Value->qai->Prop} (I:Inv X d i H s) (e:H a=some (.ins C k fs)) (c:Cls X.K C) (n:cr X.K C f) (l:fs.lookup f=some v)
  (h:∀ u s',Inv X d i H s'->aP v u->Q u s'):wpAny (model X.prog X.w) A (getAttr (.ref a) f b) Q E s:=by
 obtain⟨m,O,r,_,_,_⟩:=qE I.hok e;obtain⟨u,L,B⟩:=lq.some_of (by rw[<-l];exact r f);exact A7 I.kIn O (c.get f) c.hd n L (xG B) (h u _ (I.tok _) B)
theorem u9 {y:V}{u:Value}{Q:Unit->qai->Prop} (I:Inv X d i H s) (e:H a=some (.ins C k fs)) (c:Cls X.K C) (n:cr X.K C f) (N:fs.length<1000) (K:aP y u)
  (h:∀ s',Inv X d i (upd H a (.ins C k (fO f y fs))) s'->Q () s'):wpAny (model X.prog X.w) A (setAttr (.ref a) f u) Q E s:=by
 obtain⟨m,O,r,p,_,x⟩:=qE I.hok e;have D:(fs.map (·.1)).length<=qaJ:=by rw[qah,qdr];lia
 refine B8 I.kIn O c.sa c.po n.taker c.hd p D λh' O' F=>h _ ?_;refine I.write (by rw[e];exact True.intro) (.inr x) (λb q hb z=>(F.2 b hb).trans z) (let ⟨o,_,_,e',_⟩:=O'.ns;⟨o,e'⟩) ?_;refine⟨by rw[upd_ne O.ne];exact x,?_,O.ne,O'.obj,_,O'.ns,λg=>?_,λg hg=>?_⟩
 ·have:=lh f y fs;lia
 ·rw[lj]
  by_cases q:g=f
  ·rw[iFP q,iFP q];exact K
  ·rw[iFN q,iFN q];exact r g
 ·by_cases q:g=f
  ·rw[q];exact (kI f y fs).1
  ·refine (kI f y fs).2 g (p g λz=>hg ?_)
   show (if g=f then some u else m g)=none;rw[iFN q];exact z
theorem Inv.made (I:Inv X d i H s):Inv X d i (upd (upd H s.heap.objs.size (.own (s.heap.objs.size+1))) (s.heap.objs.size+1) (.ins C s.heap.objs.size []))
  { s with heap:=(s.heap.push qcR).push (qdj C s.heap.objs.size) }:=by
 have t:(s.heap.push qcR).get? s.heap.objs.size=some qcR:=qas s.heap U;have G:=by
  have:=qas (s.heap.push qcR) (o:=qdj C s.heap.objs.size) U
  rwa [qbj]at this
 refine (I.laid (o:=.own _) (t':=s.toks) (λb u q=>qaf _ q) (qao _) ⟨_,t⟩).laid (λb u q=>qaf _ q) (qdK (qbj _ _)) ?_;have ne:s.heap.objs.size≠s.heap.objs.size+1:=qax (qbZ _);refine⟨by rw[upd_ne ne,upd_same],qcE _,ne,G,_,(Heap.Ns1.of_empty ⟨qcR,_,_,t,U,(λe J=>absurd J (by simp)),λ_=>rfl⟩).at λo q=>qaf _ q,λ_=>True.intro,λy M=>absurd U M⟩
theorem AR {prog:qaM}{w:World}{env:Env}{e:Expr}{f:Str}{pos:Pos}{s:qai}{Q:Value->qai->Prop} (hb:qdb e f env (eval e env)=eval e env)
  (h:wpAny (model prog w) A (eval e env) (λo j=>wpAny (model prog w) A (getAttr o f true) Q E j) E s):wpAny (model prog w) A (eval (.Attribute e f pos) env) Q E s:=
 Attribute_any_ h (by rw[arm_eval_Attribute,hb])
end
def G7 (K:qae) (c:TE) (f:Str):TE:=λb H Q=>c b H λx H1=>∃ a C d fs v,x=.ref a/\H1 a=some (.ins C d fs)/\Cls K C/\cr K C f/\fs.lookup f=some v/\Q v H1
def G4 (K:qae) (e d:TE) (f:Str):TS:=λD b H=>d b H λy H1=>e b H1 λx H2=>∃ a C c fs,x=.ref a/\H2 a=some (.ins C c fs)/\Cls K C/\cr K C f/\fs.length<1000/\
 D.nx b (upd H2 a (.ins C c (fO f y fs)))
section
variable {X:Cx}{o e b:Expr}{f:Str}{pos g r:Pos}{j p:TE}
theorem D0 (B:PE X e j) (hb:qdb e f X.env (eval e X.env)=eval e X.env):PE X (.Attribute e f pos) (G7 X.K j f):=by
 intro d s i H Q I h;refine AR hb (thn (B d s i H _ I h) λu s1 ⟨x,H1,I1,k,a,C,G,fs,v,ex,m,c,n,l,q⟩=>?_);subst ex;obtain rfl:u=Value.ref a:=k;exact uF I1 m c n l λM A I2 E=>⟨v,H1,I2,E,q⟩
theorem zR (K:PE X o j) (w:PE X b p) (t:qct b (some (.Attribute o f g)) pos.line X.env=pure false):PS X (.Assign [.Attribute o f g] b pos) (G4 X.K j p f):=by
 intro d s i H D I h;refine plainObj_wpAny_Assign_Attribute (thn (w d s i H _ I h) λu s1 ⟨y,H1,I1,z,q⟩=>thn (K d s1 i H1 _ I1 q) λJ A ⟨x,H2,I2,k,a,C,G,fs,ex,m,c,n,l,F⟩=>?_) t;subst ex;obtain rfl:J=Value.ref a:=k;exact u9 I2 m c n l z λL I3=>⟨i,_,I3,F⟩
end
section
variable {X:Cx}{k:List (Addr×Obj)}{m:St}{H:Hp}{s:qai}{A:qaY}{E:Value->qai->Prop}{Q:Value->qai->Prop}{c:Value}{b:Bool}
inductive lu (K:qae) (H:Hp):V->Value->Prop where
 |non:lu K H .non (.type "NoneType")
 |bl (x:Bool):lu K H (.bl x) (.type "bool")
 |int (i:Int):lu K H (.int i) (.type "int")
 |str (x:Str):lu K H (.str x) (.type "str")
 |flt (x:UInt64):lu K H (.flt x) (.type "float")
 |lst {a:Addr}{xs:List V} (e:H a=some (.lst xs)):lu K H (.ref a) (.type "list")
 |frz {a:Addr}{o:Obj}{xs:List V} (e:H a=some (.frz o (.lst xs))):lu K H (.ref a) (.type "list")
 |tup {a:Addr}{xs:List V} (e:H a=some (.tup xs)):lu K H (.ref a) (.type "tuple")
 |dK {a:Addr}{kvs:List (Key×V)} (e:H a=some (.dK kvs)):lu K H (.ref a) (.type "dict")
 |dT {a:Addr}{kvs:List (List Key×V)} (e:H a=some (.dT kvs)):lu K H (.ref a) (.type "dict")
 |ins {a C dx:Addr}{fs:List (Str×V)} (e:H a=some (.ins C dx fs)) (cl:Cls K C) (ha:qce K (.ref C) "__class__" = some (some (.builtin "object.__class__")))
   (hn:PySem.W.specialIn K (.builtin "object.__class__") "__get__" = some (some (.builtin "getset_descriptor.__get__"))) (htk:PySem.W.takesIn K (.builtin "object.__class__")=some true)
   (hm:PySem.W.mroIn K C (.type "object")=some true):lu K H (.ref a) (.ref C)
theorem b0 {x:V}{u t:Value} (I:Inv X k m H s) (f:aP x u) (ty:lu X.K H x t) (e:qhq X.K t c=some b) (h:∀ r,Q (.bool b) { s with toks:=r }) :
  wpAny (model X.prog X.w) A (call (.builtin "isinstance") [u,c]) Q E s:=by
 cases ty with
 |non=>cases (f);exact qbM PySem.W.kitx_none I.kIn True.intro e (λz=>nomatch z) h
 |bl y=>cases (f);exact qbM PySem.W.kitx_bool I.kIn True.intro e (λz=>nomatch z) h
 |int i=>obtain⟨t,q⟩:=(f);cases q;exact qbM PySem.W.kitx_int I.kIn True.intro e (λz=>nomatch z) h
 |str y=>obtain⟨t,q⟩:=(f);cases q;exact qbM PySem.W.kitx_str I.kIn True.intro e (λz=>nomatch z) h
 |flt y=>obtain⟨t,q⟩:=(f);cases q;exact qbM PySem.W.kitx_float I.kIn True.intro e (λz=>nomatch z) h
 |@lst a xs d=>
  cases (show u=Value.ref a from f);obtain⟨_,_,n,_,g⟩:=(I.hok a _ d);exact qbM qgL I.kIn ⟨_,g,U⟩ e (λz=>nomatch z) h
 |@frz a ob xs d=>
  cases (f);obtain⟨_,_,_,n,_,g⟩:=(I.hok a _ d);exact qbM qgL I.kIn ⟨_,g,U⟩ e (λz=>nomatch z) h
 |@tup a xs d=>
  cases (show u=Value.ref a from f);obtain⟨_,_,_,p⟩:=(I.hok a _ d);obtain⟨o,g,j,_⟩:=p;exact qbM qgF I.kIn ⟨o,g,j⟩ e (λz=>nomatch z) h
 |@dK a kvs d=>
  cases (show u=Value.ref a from f);obtain⟨_,_,w,_,p⟩:=(I.hok a _ d);obtain⟨o,es,l,g,j,_⟩:=p;exact qbM qgM I.kIn ⟨o,g,j.1⟩ e (λz=>nomatch z) h
 |@dT a kvs d=>
  cases (show u=Value.ref a from f);obtain⟨_,_,xs,_,o,es,l,g,j,_⟩:=(I.hok a _ d);exact qbM qgM I.kIn ⟨o,g,j.1⟩ e (λz=>nomatch z) h
 |@ins a C dx fs d cl ha hn htk hm=>
  cases (f);obtain⟨v,O,_⟩:=qE I.hok d;obtain⟨B,J,_⟩:=O.look;exact qbM (PySem.W.kitx_own (cl.get _) cl.hd ha hn htk hm) I.kIn J e (λz=>nomatch z) h
end
structure bu (k:Nat) (A:qaY):Prop where
 hd:A.handled=none
 dp:A.depth+3*k+5<qjT
 un:A.units+16*k+200<cLine
 gd:A.guards=some []
theorem bu.mono {j k:Nat}{A:qaY} (r:bu k A) (h:j<=k):bu j A:=⟨r.hd,by have:=r.dp;lia,by have:=r.un;lia,r.gd⟩
theorem bu.deeper {k:Nat}{A:qaY} (r:bu (k+1) A) (env:Env):bu k (A.deeper env):=
 ⟨r.hd,by have:=r.dp;show A.depth+1+3*k+5<_;lia,by have:=r.un;show A.units+3+16*k+200<_;lia,r.gd⟩
theorem uU {A:qaY}{C:Addr}{a:List Value}{b:List (Str×Value)}:(A.under (.builtin "type.__call__" ⟨.ref C::a,b⟩)).depth=A.depth+1:=by
 first|rfl|simp[qgr,Code.weight,Code.isCreation,qiD,Code.isCaller,qjy,qiE,guardIds]
theorem uV {A:qaY}{C:Addr}{a:List Value}{b:List (Str×Value)}:(A.under (.builtin "type.__call__" ⟨.ref C::a,b⟩)).units=A.units+1:=by
 first|rfl|simp[qgr,Code.cUnits,qjy,qiE]
theorem bu.make {k:Nat}{A:qaY} (r:bu (k+1) A) (C:Addr) (a:List Value) (b:List (Str×Value)):bu k (A.under (.builtin "type.__call__" ⟨.ref C::a,b⟩)):=
 ⟨r.hd,by have:=r.dp;rw[uU];lia,by have:=r.un;rw[uV];lia,by
  unfold qgr
  simp[r.gd,pushGuards,Code.guards,qiD,guardIds]⟩
theorem bu.depth {k:Nat}{A:qaY} (r:bu k A):A.depth<qjT:=by have:=r.dp;lia
theorem bu.units {k:Nat}{A:qaY} (r:bu k A):A.units+64<cLine:=by have:=r.un;lia
theorem bu.units0 {k:Nat}{A:qaY} (r:bu k A):A.units<cLine:=by have:=r.un;lia
def Hc:TA:=λ_ H Q=>Q [] H
def Gj (b:TE) (c:TA):TA:=λa H Q=>b a H λx H1=>c a H1 λxs H2=>Q (x::xs) H2
section
variable {X:Cx}{e:Expr}{es:List Expr}{te:TE}{t:TA}{pos:Pos}
theorem rq:PA X [] Hc:=λ_ _ _ _ H Q I h=>Calls.spliced_nil ⟨_,H,I,.nil,h⟩
theorem mh (g:PE X e te) (l:PA X es t) (k:qbD (e::es) X.env=(false,eval e X.env)::qbD es X.env:=by rfl):PA X (e::es) (Gj te t):=by
 intro pos a s c H Q I h;rw[k];refine Calls.spliced_cons (thn (g a s c H _ I h) λu s1 ⟨x,H1,I1,j,n⟩=>?_);exact thn (l pos a s1 c H1 _ I1 n) λd o ⟨xs,H2,I2,m,i⟩=>⟨_,H2,I2,.cons j m,i⟩
def Hg (t:TA):TE:=λc H Q=>t c H λxs H1=>xs.length<=qaJ/\∀ p,H1 p=none->Q (.ref p) (upd H1 p (.tup xs))
def Hb (t:TA):TE:=λc H Q=>t c H λxs H1=>xs.length<=qaJ/\∀ p,H1 p=none->Q (.ref p) (upd H1 p (.lst xs))
theorem D8 {x1} (h:PA X es t):PE X (.Tuple es x1 pos) (Hg t):=by
 intro a s c H Q I f;refine wpAny_Tuple_spliced (thn (h pos a s c H _ I f) λd s1 ⟨xs,H1,I1,r,z,q⟩=>⟨by rw[<-r.length];exact z,?_⟩);refine⟨.ref s1.heap.objs.size,_,I1.laid (λb u e=>qaf _ e) (qao _) ?_,U,q _ (I1.hok.fresh (qao _))⟩;exact⟨z,d,r,fg.new _ _⟩
theorem zF (h:PA X es t):PE X (.List es pos) (Hb t):=by
 intro a s c H Q I f;refine wpAny_List_spliced (thn (h pos a s c H _ I f) λd s1 ⟨xs,H1,I1,r,z,q⟩=>⟨by rw[<-r.length];exact z,?_⟩);refine⟨.ref s1.heap.objs.size,_,I1.laid (λb u e=>qaf _ e) (qao _) ?_,U,q _ (I1.hok.fresh (qao _))⟩;exact⟨z,d,0,r,qas _ U⟩
end
abbrev Sp:=List V->Hp->VK->XK->Prop
abbrev CXT:=List Env->Hp->qai->XK->Value->qai->Prop
structure w6 (P:qaM) (w:World) (K:qae) (mg:Str->Option Value) (base:Heap) (A:qaY) (outer:List Env) (s:qai) (H:Hp):Prop where
 frames:A.frames=some outer
 mod:Mod K mg base
 bs:∀ b o,base.get? b=some o->s.heap.get? b=some o/\H b=none
 bsz:base.objs.size<=s.heap.objs.size
 funs:s.heap.FunFrames base outer
 frf:∀ b∈frs outer,H b=none
 hok:HOk P w H s.heap
 bare:qfw s.gens
def CE (outer:List Env) (P:qaM) (w:World) (H:Hp) (s:qai) (Q:VK) (u:Value) (s':qai):Prop:=
 ∃ v H',s'.os=s.os/\qfw s'.gens/\Un (frs outer) [] H H' s.heap s'.heap/\HOk P w H' s'.heap/\aP v u/\Q v H'
def CR (CX:CXT) (outer:List Env) (P:qaM) (w:World) (H:Hp) (s:qai) (Q:VK) (E:XK) (r:qhB) (s':qai):Prop:=
 match r with
 |.ok (.ret u)=>CE outer P w H s Q u s'
 |.ok _=>False
 |.error e=>CX outer H s E e s'
structure dD (P:qaM) (w:World) (K:qae) (mg:Str->Option Value) (base:Heap) (CX:CXT) (k:Nat) (f:Addr) (fd:qb4) (ps:List Str) (sp:Sp):Prop where
 len:∀ vs H Q E,sp vs H Q E->vs.length=ps.length
 run:∀ (A:qaY) (outer:List Env) (s:qai) (H:Hp) (args:Args) (us:List Value) (vs:List V) (Q:VK) (E:XK),bu k A->w6 P w K mg base A outer s H->qhm s fd args (ps.zip us)->aH vs us->sp vs H Q E->
  qdH (model P w) A (.call (.ref f) args) (CR CX outer P w H s Q E) s
theorem dD.mono {P:qaM}{w:World}{K:qae}{mg:Str->Option Value}{base:Heap}{CX:CXT}{j k:Nat}{f:Addr}{fd:qb4}{ps:List Str}{sp:Sp} (F:dD P w K mg base CX j f fd ps sp) (h:j<=k) :
  dD P w K mg base CX k f fd ps sp:=⟨F.len,λA outer s H args b a Q E c=>F.run A outer s H args b a Q E (c.mono h)⟩
theorem w6.make {P:qaM}{w:World}{K:qae}{mg:Str->Option Value}{base:Heap}{A:qaY}{outer:List Env}{s:qai}{H:Hp} (e:w6 P w K mg base A outer s H) (C:Addr) (a:List Value) (b:List (Str×Value)) :
  w6 P w K mg base (A.under (.builtin "type.__call__" ⟨.ref C::a,b⟩)) outer s H:=⟨by first|exact e.frames|(simpa  using e.frames),e.mod,e.bs,e.bsz,e.funs,e.frf,e.hok,e.bare⟩
section
variable {X:Cx}{a:List (Addr×Obj)}{e:St}{H:Hp}{s s':qai}
theorem Inv.env0 (I:Inv X a e H s):w6 X.prog X.w X.K X.mg X.base X.A X.stack s H:=
 ⟨I.ok.frames,I.ok.mod,I.bs,qaT I.ok.bsz I.sz,I.stack,I.stkFree,I.hok,I.bare⟩
theorem Inv.after {Q:VK}{u:Value} (I:Inv X a e H s) (h:CE X.stack X.prog X.w H s Q u s'):EP X a e Q u s':=by
 obtain⟨v,H',os,bare,un,hok,r,q⟩:=h;obtain⟨f,g,d,t,c⟩:=s';obtain rfl:c=s.os:=os;exact⟨v,H',I.call un hok bare (λb z=>absurd z (by simp)),r,q⟩
end
def Gi (sp:Sp) (a:List V) (E:XK) (t:TA):TE:=λb H Q=>t b H λc H1=>sp (c++a) H1 Q E
def Go (C:Addr) (sp:Sp) (b:List V) (E:XK) (t:TA):TE:=λc H Q=>t c H λd H1=>∀ x a,H1 x=none->H1 a=none->a≠x->
 sp (.ref x::(d++b)) (upd (upd H1 a (.own x)) x (.ins C a [])) (λv H2=>v=.non/\Q (.ref x) H2) E
def dc (K:qae) (fd:qb4) (ps:List Str) (ds:List Value):Prop:=
 ∀ (s:qai) (a:List Value),K.In s.heap->(a++ds).length=ps.length->qhm s fd ⟨a,[]⟩ (ps.zip (a++ds))
theorem dc.all {K:qae}{fd:qb4}{ps:List Str} (h:∀ a:List Value,a.length=ps.length->bindArgs fd ⟨a,[]⟩=pure (ps.zip a)):dc K fd ps []:=λs a _ b=>by
 rw[qbl]at b ⊢;exact .of_eq (h a b)
def my (CX:CXT) (X:Cx) (E:XK):Prop:=∀ (a:List (Addr×Obj)) (b:St) (H:Hp) (s:qai) (e:Value) (s':qai),Inv X a b H s->CX X.stack H s E e s'->X.xe e s'
section
variable {X:Cx}{CX:CXT}{k:Nat}{f C:Addr}{fd:qb4}{ps:List Str}{sp:Sp}{b:List V}{ds:List Value}{E:XK}{x m:Str}{p pos J:Pos}{e o:Expr}{es:List Expr}{R:TE}{t:TA}
theorem Ep {a:List (Addr×Obj)}{g:St}{H:Hp}{s:qai}{Q:VK}{c:List Value}{w:List V} (F:dD X.prog X.w X.K X.mg X.base CX k f fd ps sp) (l:bu k X.A) (hb:dc X.K fd ps ds) (hd:aH b ds) (j:my CX X E)
  (I:Inv X a g H s) (r:aH w c) (h:sp (w++b) H Q E):wpAny (model X.prog X.w) X.A (call (.ref f) c) (EP X a g Q) X.xe s:=by
 have z:=r.append hd;have B:(c++ds).length=ps.length:=by rw[<-z.length];exact F.len _ _ _ _ h
 refine qin (qf8 (F.run X.A X.stack s H _ _ _ Q E l I.env0 (hb s c I.kIn B) z h) λr s' i=>?_);cases r with
 |error e=>exact j a g H s e s' I i
 |ok fl=>
  cases fl with
  |ret u=>exact I.after i
  |next=>exact qcv i
  |brk=>exact qcv i
  |cont=>exact qcv i
theorem wA (F:dD X.prog X.w X.K X.mg X.base CX k f fd ps sp) (l:bu k X.A) (hg:Gl X x) (hm:X.mg x=some (.ref f)) (P:qcz X.K (.ref f)=true) (hb:dc X.K fd ps ds) (hd:aH b ds) (j:my CX X E)
  (G:PA X (e::es) t) (n:(x==("__debug__" : Str))=false:=by decide) (D:qbD (e::es) X.env=(false,eval e X.env)::qbD es X.env:=by rfl) (y:(qe4 pos (qbD es X.env)).any (·.1)=false:=by rfl) :
  PE X (.Call (.Name x p) (e::es) [] pos) (Gi sp b E t):=by
 intro a s g H Q I h;refine qeo (wc I hg hm ?_ n);refine qgG I.ok.mod.kin P (thn (G pos a s g H _ I h) λc s1 ⟨w,H1,I1,r,q⟩=>⟨I1.kIn,?_⟩) D y;exact Ep F l hb hd j I1 r q
structure Mk (K:qae) (C f:Addr):Prop where
 makes:qfs K C=true
 init:qce K (.ref C) "__init__" = some (some (.ref f))
 fn:qhN K (.ref f)=true
 kp:qcz K (.ref C)=true
theorem Ah {a:List (Addr×Obj)}{g:St}{H:Hp}{s:qai}{Q:VK}{c:List Value}{w:List V} (M:Mk X.K C f) (F:dD X.prog X.w X.K X.mg X.base CX k f fd ps sp) (l:bu (k+1) X.A) (hb:dc X.K fd ps ds) (hd:aH b ds)
  (j:my CX X E) (I:Inv X a g H s) (r:aH w c)
  (h:∀ x A,H x=none->H A=none->A≠x->sp (.ref x::(w++b)) (upd (upd H A (.own x)) x (.ins C A [])) (λv H2=>v=.non/\Q (.ref x) H2) E) :
  wpAny (model X.prog X.w) X.A (call (.ref C) c) (EP X a g Q) X.xe s:=by
 have i:=h _ s.heap.objs.size (I.hok.fresh (qcW _)) (I.hok.fresh (qao _)) (qax (qbZ _));have I2:=Inv.made (C:=C) I;have z:aH (V.ref (s.heap.objs.size+1)::_) _:=.cons U (r.append hd);have B:=by
  have e:=z.length;rw[F.len _ _ _ _ i]at e;exact e.symm
 refine qin (zl I.kIn M.makes M.init (beq_iff_eq.mp M.fn) (qf8 (F.run _ X.stack _ _ _ _ _ _ E (l.make C c [])
  (I2.env0.make C c []) (hb _ _ I2.kIn B) z i) λr s' d=>?_))
 cases r with
 |error e=>exact j a g _ _ e s' I2 d
 |ok fl=>
  cases fl with
  |ret u=>
   obtain⟨v,H',I3,L,N,O⟩:=I2.after d;subst N;exact⟨L,⟨V.ref _,H',I3,U,O⟩⟩
  |next=>exact qcv d
  |brk=>exact qcv d
  |cont=>exact qcv d
theorem BI (M:Mk X.K C f) (F:dD X.prog X.w X.K X.mg X.base CX k f fd ps sp) (l:bu (k+1) X.A) (hg:Gl X x) (hm:X.mg x=some (.ref C)) (hb:dc X.K fd ps ds) (hd:aH b ds) (j:my CX X E)
  (G:PA X (e::es) t) (n:(x==("__debug__" : Str))=false:=by decide) (D:qbD (e::es) X.env=(false,eval e X.env)::qbD es X.env:=by rfl) (y:(qe4 pos (qbD es X.env)).any (·.1)=false:=by rfl) :
  PE X (.Call (.Name x p) (e::es) [] pos) (Go C sp b E t):=by
 intro a s g H Q I h;refine qeo (wc I hg hm ?_ n);refine qgG I.ok.mod.kin M.kp (thn (G pos a s g H _ I h) λc s1 ⟨w,H1,I1,r,q⟩=>⟨I1.kIn,?_⟩) D y;exact Ah M F l hb hd j I1 r q
end
section
variable {X:Cx}{CX:CXT}{k:Nat}{f C:Addr}{fd:qb4}{ps ks:List Str}{sp:Sp}{E:XK}{x m:Str}{p pos a b:Pos}{e o:Expr}{es:List Expr}{c:List qh1}{te d:TE}{t h:TA}{nm:Option Str}
variable {g:List Value->List Value->List Value}{i:List V->List V->List V}
end
structure cp (N P:List Str) (sc:Scope):Prop where
 kind:sc.kind=.function
 co:sc.isCoroutine=false
 gen:sc.isGenerator=false
 nd:N.Nodup
 pre:N.take P.length=P
 par:∀ x∈P,sc.names.lookup x=some .local\/sc.names.lookup x=some .cell
 nofree:∀ y∈sc.names,y.2≠.free
theorem oR {kindOf:Str->Option qb0}{x:Str}:∀ {binds:List (Str×Value)}{m:Str->Option Value},(∀ v,(x,v)∉binds)->bindL kindOf binds m x=m x
 |[],_,_=>rfl
 |(n,v)::r,m,h=>by
  unfold bindL;rw[oR λw hw=>h w (qaj _ hw)];split
  ·have:x≠n:=by rintro rfl;exact h v qag
   simp[this]
  ·rfl
theorem oP {kindOf:Str->Option qb0}{x:Str}:∀ {binds:List (Str×Value)}{m:Str->Option Value},(∀ v,(x,v)∉binds)->bindC kindOf binds m x=m x
 |[],_,_=>rfl
 |(n,v)::r,m,h=>by
  unfold bindC;rw[oP λw hw=>h w (qaj _ hw)];split
  ·rfl
  ·have:x≠n:=by rintro rfl;exact h v qag
   simp[this]
theorem oQ {kindOf:Str->Option qb0}{x:Str}{v:Value}:∀ {P:List Str}{a:List Value}{i:Nat}{m:Str->Option Value},P.Nodup->P[i]?=some x->a[i]?=some v->kindOf x=some .local->
  bindL kindOf (P.zip a) m x=some v
 |[],_,_,_,_,h,_,_=>by simp at h
 |_::_,[],_,_,_,_,h,_=>by simp at h
 |p::P,w::a,0,m,nd,b,c,d=>by
  simp at b c;subst b;subst c
  show bindL kindOf ((p,w)::P.zip a) m p=_;unfold bindL;rw[oR λv e=>(qch.mp nd).1 (qfP e).1,iFP d]
  simp
 |p::P,w::a,i+1,m,nd,b,c,d=>by
  unfold bindL;exact oQ (qch.mp nd).2 (by simpa using b) (by simpa using c) d
theorem oO {kindOf:Str->Option qb0}{x:Str}{v:Value}:∀ {P:List Str}{a:List Value}{i:Nat}{m:Str->Option Value},P.Nodup->P[i]?=some x->a[i]?=some v->kindOf x≠some .local->
  bindC kindOf (P.zip a) m x=some v
 |[],_,_,_,_,h,_,_=>by simp at h
 |_::_,[],_,_,_,_,h,_=>by simp at h
 |p::P,w::a,0,m,nd,b,c,d=>by
  simp at b c;subst b;subst c
  show bindC kindOf ((p,w)::P.zip a) m p=_;unfold bindC;rw[oP λv e=>(qch.mp nd).1 (qfP e).1,iFN d]
  simp
 |p::P,w::a,i+1,m,nd,b,c,d=>by
  unfold bindC;exact oO (qch.mp nd).2 (by simpa using b) (by simpa using c) d
def iB (N:List Str) (a:List V):St:=a.map some++qaH (N.length - a.length) none
def fD (CX:CXT) (P:qaM) (w:World) (K:qae) (mg:Str->Option Value) (base:Heap) (N:List Str) (b:Str) (a:Scope) (f:Addr) (d:Value) (A:qaY) (outer:List Env) (s:qai) (H:Hp) (E:XK):Cx where
 prog:=P
 w:=w
 K:=K
 mg:=mg
 base:=base
 A:=A.deeper (qez b a s.heap.objs.size f d)
 N:=N
 s₀:=s
 H₀:=H
 env:=qez b a s.heap.objs.size f d
 outer:=outer
 stack:=qez b a s.heap.objs.size f d::outer
 ex:=[]
 calm:=true
 fn:=λ_=>true
 pn:=[]
 xe:=λe s'=>wpAny (model P w) (A.deeper (qez b a s.heap.objs.size f d)) (leaving (qez b a s.heap.objs.size f d) e) (λ_ c=>CX outer H s E e c) (λg c=>CX outer H s E g c) s'
theorem si {a:Scope}{n:Nat}{x:Str} (h:a.names.lookup x=some .cell):∃ c,(qcu n a.names []).lookup x=some c:=by
 exact qcs.mp (qdm a.names n [] (.inl h))
theorem xL {CX:CXT}{P:qaM}{w:World}{K:qae}{mg:Str->Option Value}{base:Heap}{N ps:List Str}{g:Str}{d:Scope}{f:Addr}{C:Value}{A:qaY}{outer:List Env}{s s1:qai}{H:Hp}{E:XK}{F:List Value}{n:List V}
  (S:cp N ps d) (hd:A.handled=none) (l:w6 P w K mg base A outer s H) (O:n.length=ps.length) (r:aH n F)
  (x:InCallC s s.heap.objs.size (bindL (qez g d s.heap.objs.size f C).kindOf (ps.zip F) λ_=>none) (qcu (s.heap.objs.size+1) d.names []) (bindC (qez g d s.heap.objs.size f C).kindOf (ps.zip F) λ_=>none) s1) :
  Inv (fD CX P w K mg base N g d f C A outer s H E) [] (iB N n) H s1:=by
 have L:ps.length<=N.length:=by have:=congrArg qeV S.pre;rw[qdf]at this;lia
 obtain⟨D,R,rfl,I⟩:=x.done;have m:∀ b ,b∉(fD CX P w K mg base N g d f C A outer s H E).ex:=λb z=>absurd (show b∈([]) from z) (by simp)
 refine⟨⟨l.mod,S.kind,U,U,qao _,λy z c D j=>?_,λy o=>?_,λy c _ h=>?_,λ_=>hd,Around.frames_deeper l.frames,.inr ⟨U,U⟩,λb z=>absurd z (m b),l.bs,l.bsz,λb _ _=>m b,λb z=>absurd z (m b),l.funs,l.frf⟩,
  rfl,l.bare,Un.kept I,⟨_,x.toInCall.ns,λi y v D j Q=>?_⟩,λy c h=>⟨_,x.cell y c h⟩,l.hok.fresh (qao _),λy c h=>?_,λp B=>absurd (show p∈([]) from B) (by simp),l.hok.kept I,?_⟩
 ·exact name_of_addr x.apart (qbt D) (qbt j)
 ·rcases o with o|o
  ·exact si o
  ·exact absurd U (S.nofree _ (qbt o))
 ·exact qeM (x.above y c (qbt h))
 ·have hi:i<n.length:=by
   unfold iB at j;by_cases hi:i<n.length
   ·exact hi
   ·rw[qaK (by simpa using hi)]at j
    rw[qdo]at j;split at j<;>cases j
  have M:n[i]?=some v:=by
   unfold iB at j;rw[qaD (by simpa using hi),qaA]at j;cases e:n[i]? with
   |none=>rw[e]at j;cases j
   |some a=>rw[e]at j;cases j;rfl
  obtain⟨u,G,J⟩:=r.get M;have B:ps[i]?=some y:=by
   rw[<-S.pre,qej (by lia)];exact D
  have t:ps.Nodup:=by rw[<-S.pre];exact S.nd.sublist (List.take_sublist _ _)
  refine⟨u,J,?_⟩;rcases S.par y (qbr B) with k|k
  ·exact .inl ⟨k,oQ t B G k⟩
  ·obtain⟨c,e⟩:=si k
   refine .inr ⟨.inl k,c,e,?_⟩;have q:=x.cell y c e;rw[oO t B G (by show d.names.lookup y≠_;rw[k];decide)]at q;exact q
 ·exact l.hok.fresh (qeM (x.above y c (qbt h)))
 ·unfold iB
  show _=N.length;rw[qaz,qah,qcT];lia
theorem Fc {CX:CXT}{P:qaM}{w:World}{K:qae}{mg:Str->Option Value}{base:Heap}{k:Nat}{f:Addr}{name c:Str}{d:Arguments}{body:List Stmt}{a:Scope}{I kV m G g ct T:Value}{F M:Option Addr}
  {B:Array (Option Value)}{N ps:List Str}{sp:Sp} (X:K.lookup f=some ⟨T,M,.func (qdR name c d body a I kV m G F g ct),B⟩) (D:qfK K g c=true) (S:cp N ps a)
  (len:∀ j H Q E,sp j H Q E->j.length=ps.length)
  (i:∀ (A:qaY) (outer:List Env) (s:qai) (H:Hp) (j:List V) (Q:VK) (E:XK),bu k (A.deeper (qez c a s.heap.objs.size f g))->sp j H Q E->
    ∃ t,PSs (fD CX P w K mg base N c a f g A outer s H E) body t/\t { nx:=λ_ H'=>Q .non H',rt:=Q } (iB N j) H) :
  dD P w K mg base CX (k+1) f (qdR name c d body a I kV m G F g ct) ps sp:=by
 refine⟨len,λA outer s H args Y j Q E C p hb r y=>?_⟩;have KX:=p.mod.kin.keeps λb o e=>(p.bs b o e).1;refine codeAny_call_function C.depth (KX _ _ X) U S.co S.gen U (PySem.W.codeRec_of KX D) (hb _ _ _ _ ?_)
 refine wpAny_newFunctionEnv_cells S.kind (λ⟨n,v⟩ W=>by
  rcases S.par n (qfP W).1 with q|q
  ·exact .inl q
  ·exact .inr ⟨q,qdm _ _ _ (.inl q)⟩) λenv O s1 x=>?_
 subst O;refine⟨(p.mod.nolimit.keeps λb o e=>(p.bs b o e).1).keeps x.toInCall.keep,codeAny_func ?_⟩;obtain⟨t,R,L⟩:=i A outer s H j Q E (C.deeper _) y;refine qcq (R [] s1 _ H _ (xL S C.hd p (len _ _ _ _ y) r x) L) (λfl s' l=>?_) λe s' l=>l;have fin:∀ {h:St}{H':Hp}{v:V}{u:Value},Inv (fD CX P w K mg base N c a f g A outer s H E) [] h H' s'->aP v u->Q v H'->CE outer P w H s Q u s':=
  λ{h H' v u} J z q=>⟨v,H',J.os,J.bare,J.base,J.hok,z,q⟩
 cases fl with
 |ret u=>
  obtain⟨v,h,H',J,z,q⟩:=l;exact fin J z q
 |next=>
  obtain⟨h,H',J,q⟩:=l;exact fin (v:=V.non) J U q
 |brk=>
  obtain⟨_,_,_,q⟩:=l;exact qcv q
 |cont=>
  obtain⟨_,_,_,q⟩:=l;exact qcv q
section
variable {X:Cx}{x:Str}{p pos:Pos}{e:Expr}{es:List Expr}{t:TA}{id T:String}{r:List V->Hp->VK->Prop}
def tCB (r:List V->Hp->VK->Prop) (t:TA):TE:=λc H Q=>t c H λf H1=>r f H1 Q
theorem nV (l:bE X (.builtin id) r) (hg:Gl X x) (hm:X.mg x=none) (n:qcd x=some (.builtin id)) (m:PA X (e::es) t) (hn:x≠"__name__":=by decide) (b:(x==("__debug__" : Str))=false:=by decide)
  (j:qbD (e::es) X.env=(false,eval e X.env)::qbD es X.env:=by rfl) (d:(qe4 pos (qbD es X.env)).any (·.1)=false:=by rfl):PE X (.Call (.Name x p) (e::es) [] pos) (tCB r t):=by
 intro a s c H Q I h;refine qeo (jn I hg hm n ?_ hn b);exact qjt (thn (m pos a s c H _ I h) λk s1 ⟨f,H1,I1,i,g⟩=>l a s1 c H1 f k Q I1 i g) j d
theorem c8 (l:bE X (.type T) r) (hg:Gl X x) (hm:X.mg x=none) (n:qcd x=some (.type T)) (m:PA X (e::es) t) (hn:x≠"__name__":=by decide) (b:(x==("__debug__" : Str))=false:=by decide)
  (j:qbD (e::es) X.env=(false,eval e X.env)::qbD es X.env:=by rfl) (d:(qe4 pos (qbD es X.env)).any (·.1)=false:=by rfl):PE X (.Call (.Name x p) (e::es) [] pos) (tCB r t):=by
 intro a s c H Q I h;refine qeo (jn I hg hm n ?_ hn b);exact qcc (thn (m pos a s c H _ I h) λk s1 ⟨f,H1,I1,i,g⟩=>l a s1 c H1 f k Q I1 i g) j d
end
end L2
namespace HT
open PySem PyProof.Rows
def lexLt:List Int->List Int->Bool
 |[],[]=>false
 |[],_::_=>true
 |_::_,[]=>false
 |x::xs,y::a=>if x=y then lexLt xs a else decide (x<y)
theorem lexLt_cons (x y:Int) (xs a:List Int):lexLt (x::xs) (y::a)=if x=y then lexLt xs a else decide (x<y):=rfl
theorem oG:lexLt [] []=false:=rfl
theorem nD (y:Int) (a:List Int):lexLt [] (y::a)=true:=rfl
theorem nC (x:Int) (xs:List Int):lexLt (x::xs) []=false:=rfl
theorem yI (A:qaY) (s:qai) (a:Int) (t:Tok) (c:Int) (u:Tok):∃ e,qdv A s (.int a t) (.int c u) e/\(e=true↔a=c):=
 ⟨_,qgj a t c u,by simp⟩
theorem z9 (A:qaY) (s:qai) (a:Int) (t:Tok) (c:Int) (u:Tok) (prog:qaM) (w:World) (E:Value->qai->Prop) (Q:Value->qai->Prop) (h:Q (.bool (decide (a<c))) s) :
  wpAny (model prog w) A (richCompare .Lt (.int a t) (.int c u)) Q E s:=
 (qdz h)
section
open PySem.SeqAt
open PySem.AutoSeq1 (wpAny_loadPart')
open PySem.MeetsSeq PySem.MeetsSeq2 PySem.MeetsSeq3
theorem oK (l b:Addr) (items f:Array Value) (n Q:Nat) (N K:Option Addr) (V J:Array (Option Value)) (ns G:List Int) (hi:qb2 items.toList ns) (M:qb2 f.toList G) :
  Meets (qe9.«tuple.__lt__» ⟨[.ref l,.ref b],[]⟩)
   (λ_ R s=>s.heap.get? l=some { cls:=.type "tuple",dict:=N,data:=.seq items n,slots:=V }/\s.heap.get? b=some { cls:=.type "tuple",dict:=K,data:=.seq f Q,slots:=J }/\
     R (.ok (.ret (.bool (lexLt ns G)))) s):=
 .of_wp λprog w A R s h=>by
  obtain⟨H,g,d,F,os⟩:=s;obtain⟨O,hb,h⟩:=h;have X:=qfN;have z1:items.size=ns.length:=by rw[<-hi.length];simp
  have W:f.size=G.length:=by rw[<-M.length];simp
  wp_walk using wpAny_loadPart' O,wpAny_loadPart' hb,qiM _ (λrest b s'=>b.1=none/\s'=⟨H,g,d,F,os⟩/\∃ (E ws:List Value) (k j:List Int),rest=E.zip ws/\
   qb2 E k/\qb2 ws j/\k.length+f.size=j.length+items.size/\R (.ok (.ret (.bool (lexLt k j)))) ⟨H,g,d,F,os⟩) _
  case turn=>
   rintro⟨y,x⟩ rest b s' ⟨v,rfl,E,ws,k,j,o,z,m,i,r⟩
   cases z with
   |nil=>rw[List.zip_nil_left]at o;cases o
   |cons a t D=>
    cases m with
    |nil=>rw[List.zip_nil_right]at o;cases o
    |cons c u C=>
     rw[qdn]at o;injection o with I B;injection I with T S;subst T S;rw[lexLt_cons]at r;simp only[qaq]at i;obtain⟨e,P,p⟩:=yI A.in1 ⟨H,g,d,F,os⟩ a t c u;refine qab (P prog w _ _ ?_);cases e with
     |true=>
      rw[iFP (p.mp U)]at r
      wp_walk
      exact⟨U,U,_,_,_,_,B,D,C,by lia,r⟩
     |false=>
      rw[iFN (λq=>absurd (p.mpr q) qaB)]at r
      wp_walk using (z9 A.in1 ⟨H,g,d,F,os⟩ a t c u prog w)
      exact⟨_,U,by simpa using r⟩
  case fin=>
   rintro⟨Y,b2⟩ s' ⟨v,rfl,E,ws,k,j,o,z,m,i,r⟩
   simp only at v
   subst v;have L:lexLt k j=decide (items.size<f.size):=by
    cases z with
    |nil=>
     cases m with
     |nil=>
      simp only[qcj]at i;rw[oG];exact (decide_eq_false (by lia)).symm
     |cons c u hw=>
      simp only[qcj,qaq]at i;rw[nD];exact (decide_eq_true (by lia)).symm
    |cons a t L=>
     cases m with
     |nil=>
      simp only[qcj,qaq]at i;rw[nC];exact (decide_eq_false (by lia)).symm
     |cons c u hw=>
      rw[qdn]at o;cases o
   rw[L]at r
   wp_walk
   exact⟨_,U,by simpa [qeA] using r⟩
  case h=>
   exact⟨U,U,items.toList,f.toList,ns,G,U,hi,M,by lia,h⟩
end
section
variable {prog:qaM}{w:World}{A:qaY}{E:Value->qai->Prop}{s:qai}
theorem lt_tupInts {l b:Addr}{items a:Array Value}{ns W:List Int}{Q:Value->qai->Prop} (Y:IsTup s.heap l items) (hb:IsTup s.heap b a) (hi:qb2 items.toList ns) (hj:qb2 a.toList W)
  (hu:A.units<cLine) (h:Q (.bool (lexLt ns W)) s):wpAny (model prog w) A (qbN .Lt (.ref l) (.ref b)) Q E s:=by
 obtain⟨⟨cls,O,data,g⟩,C,V,n,hd⟩:=id Y;obtain⟨⟨K,y,data2,u⟩,c,B,P,D⟩:=id hb;subst V hd B D;exact qho (op:=.Lt) ⟨_,C,U⟩ ⟨_,c,U⟩ qdw qel (qee _ _) (oK l b items a n P O y g u ns W hi hj)
  ⟨C,c,⟨(λx=>nomatch x),h⟩⟩ hu
theorem cat_tup {t b:Addr}{z ws:List Value}{Q:Value->qai->Prop} (I:IsTup s.heap t z.toArray) (hb:IsTup s.heap b ws.toArray) (J:z≠[])
  (h1:ws=[]->Q (.ref t) s) (h2:ws≠[]->Q (.ref s.heap.objs.size) { s with heap:=s.heap.push { cls:=.type "tuple",data:=.seq (z++ws).toArray } })
  (M:z.length+ws.length<=qaJ):wpAny (model prog w) A (qbH .Add (.ref t) (.ref b)) Q E s:=by
 obtain⟨⟨cls,O,data,g⟩,C,V,n,hd⟩:=id I;obtain⟨⟨K,y,data2,u⟩,c,B,P,D⟩:=id hb;subst V hd B D;have e:z.toArray++ws.toArray=(z++ws).toArray:=by simp
 by_cases hw:ws=[]
 ·exact qhA ⟨_,C,U⟩ ⟨_,c,U⟩ qgg qg9 qek qed (qd3 _ _)
   (tuple_addW1 t b z.toArray ws.toArray n P O y g u (by simpa using J) (by simp[hw])) ⟨C,c,h1 hw⟩
 ·refine qhA ⟨_,C,U⟩ ⟨_,c,U⟩ qgg qg9 qek qed (qd3 _ _)
   (tuple_addW2 t b z.toArray ws.toArray n P O y g u (by simpa using J) (by simpa using hw) (by exact M)) ⟨C,c,?_⟩
  rw[e];exact h2 hw
def sIx (n d:Nat):Option Int->Nat
 |none=>d
 |some v=>if v<0 then (v+(n:Int)).toNat else min v.toNat n
theorem sIx_none (n d:Nat):sIx n d none=d:=rfl
theorem sIx_nat (n d k:Nat):sIx n d (some (k:Int))=min k n:=by
 show (if (k)<0 then ((k)+(n:Int)).toNat else min (k:Int).toNat n)=min k n;rw[iFN (by lia),qa6]
theorem G5 (n d:Nat) (hd:d<=n) (o:Option Int):sIx n d o<=n:=by
 cases o with
 |none=>exact hd
 |some v=>
  show (if v<0 then (v+_).toNat else min v.toNat n)<=n;by_cases J:v<0
  ·lia
  ·rw[iFN J];exact Nat.min_le_right _ _
theorem vA (v:Int) (n d:Nat):(if v<0 then max (v+(n:Int)) 0 else min v (n:Int))=((sIx n d (some v):Nat):Int):=by
 show _=(((if v<0 then (v+_).toNat else min v.toNat n):Nat):Int);by_cases J:v<0
 ·lia
 ·lia
theorem ur (lo hi:Option Int) (n:Nat):qe8 lo hi 1 (n:Int)=(((sIx n 0 lo:Nat):Int),((sIx n n hi:Nat):Int)):=by
 refine Prod.ext ?_ ?_
 ·cases lo with
  |none=>rfl
  |some v=>exact vA v n 0
 ·cases hi with
  |none=>rfl
  |some v=>exact vA v n n
theorem u4 (i j:Nat):qcM (i:Int) (j:Int) 1=j - i:=by
 unfold qcM;split<;>lia
theorem oh {v:Value}{o:Option Int}{Q:Option Int->qai->Prop} (p:qgd v o) (h:Q o s):wpAny (model prog w) A (qiG v) Q E s:=by
 cases p with
 |none=>exact qjS h
 |int i t=>exact slicePart_int h
theorem fR {g:Addr}{H G:Value}{lo hi:Option Int}{n:Nat}{Q:Int×Int×Nat->qai->Prop} (N:s.heap.IsSliceOf g H G .none) (T:qgd H lo) (S:qgd G hi)
  (h:Q (((sIx n 0 lo:Nat):Int),1,sIx n n hi - sIx n 0 lo) s):wpAny (model prog w) A (qiH (.ref g) (pure (n:Int))) Q E s:=by
 obtain⟨os,f,L,r⟩:=id N;refine qab (qab (qb9 f r (x:=H) U (qab (qb9 f r (x:=G) U (qab (qb9 f r U (qan ?_)))))));refine qab (qjS ?_);refine qab (oh T (qab (oh S (qab (qan ?_)))));show wpAny _ _ (match qe8 lo hi 1 _ with|(lo,hi)=>pure (lo,_,qcM lo hi 1)) _ _ s
 rw[ur lo hi n];show wpAny _ _ (pure (_,_,qcM _ _ 1)) _ _ s;rw[u4];exact qan h
theorem zK (xs:Array Value) (i k:Nat):((qak k).filterMap λ(m:Nat)=>xs[((i:Int)+(m:Int)*1).toNat]?).toArray=((xs.toList.drop i).take k).toArray:=by
 have e:(λ(m:Nat)=>xs[((i)+(m:Int)*1).toNat]?)=λm=>xs[i+m]?:=by
  funext m
  have:((i)+(m:Int)*1).toNat=i+m:=by lia
  rw[this]
 rw[e]
 have:=pick_run xs i k
 rw[List.filterMap_map]at this;have X:(_ ∘ λx=>i+x)=λm=>xs[i+m]?:=rfl;rw[X]at this;rw[this]
theorem getItem_tuple_cut {t g:Addr}{items:Array Value}{H G:Value}{lo hi:Option Int}{Q:Value->qai->Prop} (I:IsTup s.heap t items) (N:s.heap.IsSliceOf g H G .none) (T:qgd H lo) (S:qgd G hi)
  (hw:¬ (sIx items.size 0 lo=0/\sIx items.size items.size hi=items.size))
  (h:Q (.ref s.heap.objs.size) { s with heap:=s.heap.push { cls:=.type "tuple",data:=.seq ((items.toList.drop (sIx items.size 0 lo)).take (sIx items.size items.size hi - sIx items.size 0 lo)).toArray } })
  (M:items.size<=qaJ):wpAny (model prog w) A (qe3 (.ref t) (.ref g)) Q E s:=by
 have F:=by
  show ((items.toList.drop (sIx items.size 0 lo)).take (sIx items.size items.size hi - sIx items.size 0 lo)).toArray.size<=qaJ;rw[qaG,qdf,qhI,qcy];lia
 obtain⟨os,f,L,r⟩:=id N;unfold qe3
 try with_reducible refine qbT ?_
 refine qab (qim I.typeIs (by decide) ?_)
 refine qab (qbL I.typeIs qbG
  (qbU qbG I.typeIs qhW ?_ (qia _ _)))
 show wpAny _ _ (qeY _ >>= _) _ _ s;refine qab (tupleItemsOf_ I ?_);refine qab (qhw ⟨os,f,L⟩ ?_);refine qab (fR N T S ?_);have R:¬ ((((sIx items.size 0 lo):Int)==0&&(1:Int)==1&&(sIx items.size items.size hi - sIx items.size 0 lo)==items.size)=true):=by
  intro q;exact hw ⟨by lia,by lia⟩
 show wpAny _ _ (if _=true then _ else _) _ _ s;rw[iFN R,zK]
 first
  |exact qab (qb8 (qan ⟨_,rfl,qan h⟩) F)
  |exact qab _
  |exact qab _
  |exact qab _
end
end HT
namespace L2
open PySem PySem.Spec PyProof.Rows
abbrev TO:=St->Hp->(Option Int->Hp->Prop)->Prop
def PO (X:Cx) (e:Option Expr) (t:TO):Prop:=
 ∀ (a:List (Addr×Obj)) (s:qai) (b:St) (H:Hp) (Q:Option Int->Hp->Prop),Inv X a b H s->t b H Q->
  wpAny (model X.prog X.w) X.A (evalPart e X.env) (λu s'=>∃ o H',Inv X a b H' s'/\qgd u o/\Q o H') X.xe s
def Ci:TO:=λ_ H Q=>Q none H
def Gs (t:TE):TO:=λa H Q=>t a H λx H1=>∃ i,x=.int i/\Q (some i) H1
theorem cy {ns:List Int}:∀ {a:List Value},aH (ns.map V.int) a->qb2 a ns:=by
 induction ns with
 |nil=>intro a r;cases r;exact .nil
 |cons n ns d=>
  intro a r;cases r with
  |cons c b=>
   obtain⟨t,e⟩:=c;subst e;exact .cons n t (d b)
section
variable {X:Cx}{e:Expr}{te:TE}{lo hi:Option Expr}{tl F:TO}{pos B:Pos}
theorem BN:PO X none Ci:=by
 intro c s d H Q I h;exact qan ⟨none,H,I,.none,h⟩
theorem BO (h:PE X e te):PO X (some e) (Gs te):=by
 intro c s d H Q I hw;refine thn (h c s d H _ I hw) λu s1 ⟨x,H1,I1,g,E⟩=>?_;obtain⟨i,rfl,q⟩:=E;obtain⟨t,rfl⟩:=g;exact⟨_,H1,I1,.int i t,q⟩
def SlR (X:Cx) (r:V->Option Int->Option Int->Hp->VK->Prop):Prop:=
 ∀ (c:List (Addr×Obj)) (s:qai) (d:St) (H:Hp) (x:V) (v m k:Value) (lo hi:Option Int) (S:Addr) (Q:VK),Inv X c d H s->aP x v->s.heap.IsSliceOf S m k .none->qgd m lo->qgd k hi->r x lo hi H Q->
  ∃ T id,typeLookup (.type T) "__getitem__" = pure (some (.builtin id))/\s.TypeIs v T/\wpAny (model X.prog X.w) X.A (qe3 v (.ref S)) (EP X c d Q) X.xe s
def tSl (r:V->Option Int->Option Int->Hp->VK->Prop) (te:TE) (tl F:TO):TE:=λd H Q=>te d H λx H1=>tl d H1 λl H2=>F d H2 λu H3=>r x l u H3 Q
theorem tW {r:V->Option Int->Option Int->Hp->VK->Prop} (hr:SlR X r) (he:PE X e te) (hl:PO X lo tl) (O:PO X hi F):PE X (.Subscript e (.Slice lo hi none B) pos) (tSl r te tl F):=by
 intro c s d H Q I h;refine qiv (thn (he c s d H _ I h) λv s1 ⟨x,H1,I1,g,E⟩=>?_);refine wpAny_Slice (thn (hl c s1 d H1 _ I1 E) λm s2 ⟨l,H2,I2,P,M⟩=>thn (O c s2 d H2 _ I2 M) λk N ⟨u,H3,I3,J,q3⟩=>?_);refine qan ?_;obtain⟨T,id,hT,G,hg⟩:=hr c { N with heap:=N.heap.push { cls:=.type "slice",data:=.fields #[m,k,.none] } } d H3 x v m k l u N.heap.objs.size Q (I3.kept λb ob q=>qaf _ q) g (qif ..) P J q3
 exact tail_any G hT hg (by with_unfolding_all rfl)
def uy (xs:List V) (lo hi:Option Int):List V:=(xs.drop (HT.sIx xs.length 0 lo)).take (HT.sIx xs.length xs.length hi - HT.sIx xs.length 0 lo)
theorem kW (xs:List V) (lo hi:Option Int):(uy xs lo hi).length<=xs.length:=by
 unfold uy;rw[qdf,qhI];lia
def G3 (K:qae):V->Option Int->Option Int->Hp->VK->Prop:=λx lo hi H Q=>∃ a xs,x=.ref a/\SqT K H a xs/\
 ¬ (HT.sIx xs.length 0 lo=0/\HT.sIx xs.length xs.length hi=xs.length)/\∀ p,H p=none->Q (.ref p) (upd H p (.tup (uy xs lo hi)))
theorem Es:SlR X (G3 X.K):=by
 intro c s d H x v m k lo hi S Q I C hs P J h;obtain⟨a,xs,rfl,R,hw,q⟩:=h;cases C;obtain⟨j,r,G,A⟩:=I.tuple R;have f:j.toArray.size=xs.length:=by exact r.length.symm
 refine⟨"tuple",_,qbG.lookup,G.typeIs,?_⟩
 refine HT.getItem_tuple_cut G hs P J (by rw[f];exact hw) ?_ (by rw[f];exact A);rw[f];refine⟨.ref s.heap.objs.size,_,I.laid (λb ob q=>qaf _ q) (qao _) ?_,U,q _ (I.hok.fresh (qao _))⟩;exact⟨qaT (kW xs lo hi) A,_,(r.drop _).take _,fg.new _ _⟩
def G1 (K:qae):R2:=λx y H Q=>∃ a b ns Y,x=.ref a/\y=.ref b/\SqT K H a (ns.map V.int)/\SqT K H b (Y.map V.int)/\Q (.bl (HT.lexLt ns Y)) H
theorem DT (O:X.A.units<cLine):OpR X (qbN .Lt) (G1 X.K):=by
 intro c s d H x y v u Q I C L h;obtain⟨a,b,ns,Y,rfl,rfl,W,hb,q⟩:=h;cases C;cases L;obtain⟨j,g,p1,_⟩:=I.tuple W;obtain⟨D,n,B,_⟩:=I.tuple hb;exact HT.lt_tupInts p1 B (cy g) (cy n) O ⟨.bl _,H,I,U,q⟩
def F6 (K:qae):R2:=λx y H Q=>∃ a b xs o,x=.ref a/\y=.ref b/\SqT K H a xs/\SqT K H b o/\xs≠[]/\xs.length+o.length<=qaJ/\
 (o=[]->Q (.ref a) H)/\(o≠[]->∀ p,H p=none->Q (.ref p) (upd H p (.tup (xs++o))))
theorem aH.nil_iff {xs:List V}{us:List Value} (r:aH xs us):us=[]↔xs=[]:=by
 cases r with
 |nil=>simp
 |cons _ _=>simp
theorem BA:OpR X (qbH .Add) (F6 X.K):=by
 intro c s d H x y v u Q I C L h;obtain⟨a,b,xs,o,rfl,rfl,W,hb,R,A,E,M⟩:=h;cases C;cases L;obtain⟨j,g,p1,_⟩:=I.tuple W;obtain⟨D,n,B,_⟩:=I.tuple hb;refine HT.cat_tup p1 B (λz=>R (g.nil_iff.mp z)) (λz=>⟨.ref a,H,I,U,E (n.nil_iff.mp z)⟩) (λz=>?_) (by rw[<-g.length,<-n.length];exact A);refine⟨.ref s.heap.objs.size,_,I.laid (λb ob q=>qaf _ q) (qao _) ?_,U,M (λw=>z (n.nil_iff.mpr w)) _ (I.hok.fresh (qao _))⟩;exact⟨by rw[qaz];exact A,_,g.append n,fg.new _ _⟩
end
def ixN (n:Nat) (i:Int):Option Nat:=if 0<=i then (if i<n then some i.toNat else none) else if -(n:Int)<=i then some (i+n).toNat else none
def atI {α:Type} (xs:List α) (i:Int):Option α:=(ixN xs.length i).bind λj=>xs[j]?
theorem l9 {n:Nat}{i:Int}{j:Nat} (h:ixN n i=some j):qjC i n=some j/\j<n/\-(n:Int)<=i/\i<n:=by
 unfold ixN at h;by_cases b:0<=i
 ·rw[iFP b]at h
  by_cases a:i<n
  ·rw[iFP a]at h
   exact⟨by rw[qhS b a,(qaL h)],by lia,by lia,a⟩
  ·rw[iFN a]at h;cases h
 ·rw[iFN b]at h
  by_cases a:-(n)<=i
  ·rw[iFP a]at h
   exact⟨by rw[qhy (by lia) a,(qaL h)],by lia,a,by lia⟩
  ·rw[iFN a]at h;cases h
theorem pE {α:Type}{xs:List α}{i:Int}{v:α} (h:atI xs i=some v):∃ j,qjC i xs.length=some j/\xs[j]?=some v/\j<xs.length/\-(xs.length:Int)<=i/\i<xs.length:=by
 unfold atI at h;cases e:ixN xs.length i with
 |none=>rw[e]at h;cases h
 |some j=>
  rw[e]at h;obtain⟨b,a,d,c⟩:=l9 e;exact⟨j,b,h,a,d,c⟩
theorem db {α:Type}{xs:List α}{j:Nat}{v:α} (h:xs[j]?=some v):atI xs (j:Int)=some v:=by
 have a:=(qar.mp h).1;have e:ixN xs.length (j)=some j:=by
  unfold ixN;rw[iFP (by lia),iFP (by lia)];simp
 unfold atI;rw[e];exact h
theorem mE {α:Type} (xs:List α) (v:α):atI (xs++[v]) (-1)=some v:=by
 have a:(xs++[v]).length=xs.length+1:=by simp
 have e:ixN (xs++[v]).length (-1)=some xs.length:=by
  unfold ixN;rw[iFN (by decide),iFP (by lia)]
  congr 1
  lia
 unfold atI;rw[e]
 simp
def vk (b:Expr):Prop:=∀ o i,qgu b false o i=operate [o,i] (qe3 o i)
def IxR (X:Cx) (r:R2):Prop:=
 ∀ (c a:Expr) (b:List (Addr×Obj)) (s:qai) (d:St) (H:Hp) (x y:V) (v u:Value) (Q:VK),Inv X b d H s->aP x v->aP y u->r x y H Q->
  qgu a false v u=operate [v,u] (qe3 v u)->wpAny (model X.prog X.w) X.A (subscriptTail c a v u) (EP X b d Q) X.xe s
def MtR (X:Cx) (id:String) (r:V->List V->Hp->VK->Prop):Prop:=
 ∀ (a:List (Addr×Obj)) (s:qai) (b:St) (H:Hp) (x:V) (xs:List V) (v:Value) (c:List Value) (Q:VK),Inv X a b H s->aP x v->aH xs c->r x xs H Q->
  wpAny (model X.prog X.w) X.A (call (.builtin id) (v::c)) (EP X a b Q) X.xe s
section
variable {X:Cx}{a b:Expr}{ta tb:TE}{pos:Pos}
theorem IxR.or {r O:R2} (h:IxR X r) (h':IxR X O):IxR X (λx y H Q=>r x y H Q\/O x y H Q):=by
 intro J G g s B H x y v u Q I m P q R;rcases q with q|q
 ·exact h J G g s B H x y v u Q I m P q R
 ·exact h' J G g s B H x y v u Q I m P q R
theorem zE {r:R2} (hr:IxR X r) (ha:PE X a ta) (hb:PE X b tb) (R:vk b):PE X (.Subscript a b pos) (tOp r ta tb):=by
 intro g s B H Q I h;exact qiv (Da ha hb I h λv u s2 x y H2 I2 m P q=>hr a b g s2 B H2 x y v u Q I2 m P q (R _ _))
def F7 (K:qae):R2:=λx y H Q=>∃ p xs i v,x=.ref p/\y=.int i/\SqL K H p xs/\atI xs i=some v/\Q v H
def F9 (K:qae):R2:=λx y H Q=>∃ p xs i v,x=.ref p/\y=.int i/\SqT K H p xs/\atI xs i=some v/\Q v H
def F8:R2:=λx y H Q=>∃ z i c,x=.str z/\y=.int i/\z.length<=qaJ/\atI z.cps.toList i=some c/\Q (.str ⟨#[c]⟩) H
theorem Bg:IxR X (F7 X.K):=by
 intro J G g s B H x y v u Q I m P h R;obtain⟨p,xs,i,z,rfl,rfl,C,he,q⟩:=h;cases m;obtain⟨t,rfl⟩:=P;obtain⟨d,r,D,M⟩:=I.list C;obtain⟨j,N,h2,h3,h4,h5⟩:=pE he;obtain⟨w,ew,rw'⟩:=r.get h2;have hl:=r.length;have hn:=kK;have fin:EP X g B Q w s:=⟨z,H,I,rw',q⟩;by_cases h0:0<=i
 ·have hj:=by
   rw[qhS h0 h5]at N;exact qaL N
  exact item_listR D.isList h0 (by lia) (by rw[hj];simpa using ew) fin R
 ·have hj:(i+(d.toArray.size)).toNat=j:=by
   rw[qhy (by lia) h4]at N;rw[qaG,<-hl];exact qaL N
  exact qhn D.isList.typeIs qiq.lookup
   (wpAny_getItem_list_neg D.isList (by lia) (by rw[qaG]<;>lia) (by lia) (by rw[hj];simpa using ew) ⟨U,fin⟩) R
theorem Dy:IxR X (F9 X.K):=by
 intro J G g s B H x y v u Q I m P h R;obtain⟨p,xs,i,z,rfl,rfl,C,he,q⟩:=h;cases m;obtain⟨t,rfl⟩:=P;obtain⟨d,r,D,M⟩:=I.tuple C;obtain⟨j,N,h2,h3,h4,h5⟩:=pE he;obtain⟨w,ew,rw'⟩:=r.get h2;have hn:=kK;exact qhn D.typeIs slot_tuple_getitem.lookup
  (getItem_tuple D (by lia) (by lia) (by rw[qaG,<-r.length];exact N) (by simpa using ew) ⟨U,⟨z,H,I,rw',q⟩⟩) R
theorem Dx:IxR X F8:=by
 intro J G g s B H x y v u Q I m P h R;obtain⟨z,i,c,rfl,rfl,M,he,q⟩:=h;obtain⟨t,rfl⟩:=m;obtain⟨t',rfl⟩:=P;obtain⟨j,N,h2,h3,h4,h5⟩:=pE he;have hl:z.cps.toList.length=z.length:=by simp[Str.length]
 rw[hl]at N h4 h5;have hn:=kK
 exact tail_any (typeIs_str s z t) slot_str_getitem.lookup (getItem_str (by
  rw[(decide_eq_false (by lia)),(decide_eq_false (by lia)),Bool.or_false]) (by rw[N];simpa using h2) ⟨.str _,H,I.tok _,⟨_,U⟩,q⟩) R
def rIx (K:qae):R2:=λx y H Q=>F7 K x y H Q\/F9 K x y H Q\/F8 x y H Q
theorem qP:IxR X (rIx X.K):=Bg.or (Dy.or Dx)
theorem uW (d:List Value) (n j:Nat) (u:Value):qcI (·.setIfInBounds j u) { cls:=.type "list",data:=.seq d.toArray n }={ cls:=.type "list",data:=.seq (d.set j u).toArray n }:=by
 simp[qcI]
theorem Inv.lst {g:List (Addr×Obj)}{B:St}{H:Hp}{s:qai}{p:Addr}{xs:List V} (I:Inv X g B H s) (h:H p=some (.lst xs)) :
  ∃ (d:List Value) (n:Nat),aH xs d/\s.heap.get? p=some { cls:=.type "list",data:=.seq d.toArray n }/\xs.length<=qaJ:=by
 obtain⟨z,d,n,r,e⟩:=I.hok p _ h;exact⟨d,n,r,e,z⟩
theorem Inv.lstUpd {g:List (Addr×Obj)}{B:St}{H:Hp}{s:qai}{p:Addr}{xs F:List V}{d W:List Value}{n n':Nat}{f:Obj->Obj} (I:Inv X g B H s) (h:H p=some (.lst xs))
  (ho:s.heap.get? p=some { cls:=.type "list",data:=.seq d.toArray n }) (hf:f { cls:=.type "list",data:=.seq d.toArray n }={ cls:=.type "list",data:=.seq W.toArray n' }) (r:aH F W) (M:F.length<=qaJ) (t:Nat) :
  Inv X g B (upd H p (.lst F)) { s with heap:=s.heap.update p f,toks:=t }:=by
 have e:(s.heap.update p f).get? p=some { cls:=.type "list",data:=.seq W.toArray n' }:=by
  rw[qb7 f ho (by rw[hf]<;>rfl),hf]
 refine I.write (by rw[h];trivial) (.inl U) (λb u hb q=>(qaP _ _ (qbk hb)).trans q) ⟨_,e⟩ ?_;exact⟨M,W,n',r,e⟩
def Gb:V->V->V->Hp->(Hp->Prop)->Prop:=λo i v H Q=>∃ p xs k j,o=.ref p/\i=.int k/\H p=some (.lst xs)/\ixN xs.length k=some j/\Q (upd H p (.lst (xs.set j v)))
theorem kf:ET X Gb:=by
 intro g s B H o i v ov iv u Q I ro ri rv h;obtain⟨p,xs,k,j,rfl,rfl,hp,hj,q⟩:=h;cases ro;obtain⟨t,rfl⟩:=ri;obtain⟨d,n,r,ho,M⟩:=I.lst hp;obtain⟨N,h2,h3,h4⟩:=l9 hj;have hl:=r.length;have hn:=kK;have I':=
  I.lstUpd hp ho (uW d n j u) (r.set rv j) (by rw[qb5];exact M) s.toks
 by_cases h0:0<=k
 ·have hk:=by
   rw[qhS h0 h4]at N;exact qaL N
  exact PySem.W.ki_setAt ho h0 (by lia) (by rw[qaG,<-hl];exact h4) (by rw[hk];exact⟨_,I',q⟩)
 ·have hk:(k+(d.toArray.size)).toNat=j:=by
   rw[qhy (by lia) h3]at N;rw[qaG,<-hl];exact qaL N
  exact PySem.W.ki_setBack ho (by lia) (by rw[qaG,<-hl];exact h3) (by lia) (by rw[hk];exact⟨_,I',q⟩)
theorem rH (lo hi:Option Int) (n:Nat):(qec lo hi none n).1=((HT.sIx n 0 lo:Nat):Int)/\(qec lo hi none n).2.1=((HT.sIx n n hi:Nat):Int)/\(qec lo hi none n).2.2=1:=by
 refine⟨?_,?_,U⟩
 ·cases lo with
  |none=>simp[qec,HT.sIx]
  |some i=>
   simp only[qec,HT.sIx,qhg,show (1:Int) > 0 by decide,if_true];by_cases h:i<0
   ·simp only[h,if_true]<;>lia
   ·simp only[h,if_false]<;>lia
 ·cases hi with
  |none=>simp[qec,HT.sIx]
  |some i=>
   simp only[qec,HT.sIx,qhg,show (1:Int) > 0 by decide,if_true];by_cases h:i<0
   ·simp only[h,if_true]<;>lia
   ·simp only[h,if_false]<;>lia
theorem oJ (d:List Value) (lo hi:Option Int):slicePick d.toArray lo hi none=((d.drop (HT.sIx d.length 0 lo)).take (HT.sIx d.length d.length hi - HT.sIx d.length 0 lo)).toArray:=by
 obtain⟨N,h2,h3⟩:=rH lo hi d.toArray.size;unfold slicePick;rw[N,h2,h3];simp only[sliceRange_one,pick_run,qaG]<;>rfl
def G2 (K:qae):V->Option Int->Option Int->Hp->VK->Prop:=λx lo hi H Q=>∃ a xs,x=.ref a/\SqL K H a xs/\∀ p,H p=none->Q (.ref p) (upd H p (.lst (uy xs lo hi)))
theorem Cb:SlR X (G2 X.K):=by
 intro g s B H x v vl vu lo hi sl Q I m R D pu h;obtain⟨a,xs,rfl,hx,q⟩:=h;cases m;obtain⟨d,r,ht,M⟩:=I.list hx;have E:=r.length;refine⟨"list",_,qiq.lookup,ht.isList.typeIs,?_⟩
 refine wpAny_getItem_list_slice ht.isList R D pu .none (by simp) ?_ (by rw[qaG]<;>lia);rw[oJ,<-E];refine⟨.ref s.heap.objs.size,_,I.laid (λb ob q=>qaf _ q) (qao _) ?_,U,q _ (I.hok.fresh (qao _))⟩;exact⟨qaT (kW xs lo hi) M,_,0,(r.drop _).take _,qas _ U⟩
def eM:V->Bool
 |.non=>true
 |.bl _=>true
 |.int _=>true
 |.str _=>true
 |_=>false
def eqV:V->V->Bool
 |.non,.non=>true
 |.bl a,.bl b=>a==b
 |.bl a,.int b=>(if a then 1 else 0)==b
 |.int a,.bl b=>a==(if b then 1 else 0)
 |.int a,.int b=>a==b
 |.str a,.str b=>a==b
 |_,_=>false
theorem uE {A:qaY}{s:qai}{y x:V}{u v:Value} (P:aP y u) (m:aP x v) (fy:eM y=true) (fx:eM x=true):qdv A s u v (eqV y x):=by
 cases y with
 |non=>
  cases P;cases x with
  |non=>cases m;exact qfb _
  |bl b=>cases m;exact qkL b
  |int b=>obtain⟨t,rfl⟩:=m;exact qkK b t
  |str b=>obtain⟨t,rfl⟩:=m;exact qkI b t
  |_=>exact absurd (fx) qaB
 |bl a=>
  cases P;cases x with
  |non=>cases m;exact qkX a
  |bl b=>cases m;exact qk0 a b
  |int b=>obtain⟨t,rfl⟩:=m;exact qkZ a b t
  |str b=>obtain⟨t,rfl⟩:=m;exact qkW a b t
  |_=>exact absurd (fx) qaB
 |int a=>
  obtain⟨t',rfl⟩:=P;cases x with
  |non=>cases m;exact qkS a t'
  |bl b=>cases m;exact qkU a t' b
  |int b=>obtain⟨t,rfl⟩:=m;exact qgj a t' b t
  |str b=>obtain⟨t,rfl⟩:=m;exact qgi a t' b t
  |_=>exact absurd (fx) qaB
 |str a=>
  obtain⟨t',rfl⟩:=P;cases x with
  |non=>cases m;exact qkE a t'
  |bl b=>cases m;exact qkG a t' b
  |int b=>obtain⟨t,rfl⟩:=m;exact qgh a t' b t
  |str b=>obtain⟨t,rfl⟩:=m;exact qkD a t' b t
  |_=>exact absurd (fx) qaB
 |_=>exact absurd (fy) qaB
def eqU (x:V) (u:Value):Bool:=match u with
 |.none=>eqV .non x
 |.bool b=>eqV (.bl b) x
 |.int i _=>eqV (.int i) x
 |.str z _=>eqV (.str z) x
 |_=>false
theorem yJ {x y:V}{u:Value} (r:aP y u) (f:eM y=true):eqU x u=eqV y x:=by
 cases y with
 |non=>cases r;rfl
 |bl b=>cases r;rfl
 |int i=>obtain⟨t,rfl⟩:=r;rfl
 |str z=>obtain⟨t,rfl⟩:=r;rfl
 |_=>exact absurd (f) qaB
theorem pz {x:V}:∀ {xs:List V}{Y:List Value},aH xs Y->xs.all eM=true->Y.any (eqU x)=xs.any λy=>eqV y x
 |_,_,.nil,_=>rfl
 |y::xs,u::Y,.cons r t,f=>by
  rw[qbE,qa8]at f;rw[qcf,qcf,yJ r f.1,pz t f.2]
theorem nL {A:qaY}{s:qai}{x:V}{v:Value} (m:aP x v) (fx:eM x=true):∀ {xs:List V}{Y:List Value},aH xs Y->xs.all eM=true->∀ u∈Y,qdv A s u v (eqU x u)
 |_,_,.nil,_=>λu hu=>by cases hu
 |y::xs,u::Y,.cons r t,f=>λu' hu=>by
  rw[qbE,qa8]at f;rcases qay.mp hu with rfl|hu
  ·rw[yJ r f.1];exact uE r m f.1 fx
  ·exact nL m fx t f.2 u' hu
def inV (x:V) (xs:List V):Bool:=xs.any λy=>eqV y x
def rIn (K:qae) (neg:Bool):R2:=λx y H Q=>∃ p xs,y=.ref p/\(SqL K H p xs\/SqT K H p xs)/\eM x=true/\xs.all eM=true/\Q (.bl (if neg then !inV x xs else inV x xs)) H
theorem x3:OpR X (qbN .In) (rIn X.K false):=by
 intro g s B H x y v u Q I m P h;obtain⟨p,xs,rfl,C,fx,fs,q⟩:=h;cases P;rcases C with C|C
 ·obtain⟨d,r,D,M⟩:=I.list C
  refine SeqAt.in_listAt _ D.isList (λw hw=>nL m fx r fs w (by simpa using hw)) ⟨.bl _,H,I,U,?_⟩;rw[show d.toArray.any _=d.any (eqU x) by simp,pz r fs];exact q
 ·obtain⟨d,r,D,M⟩:=I.tuple C
  refine SeqAt.in_tupleAt _ D (λw hw=>nL m fx r fs w (by simpa using hw)) ⟨.bl _,H,I,U,?_⟩;rw[show d.toArray.any _=d.any (eqU x) by simp,pz r fs];exact q
theorem pN:bE X (.builtin "len") (λxs H Q=>∃ p F,xs=[.ref p]/\(SqL X.K H p F\/SqT X.K H p F)/\Q (.int F.length) H):=by
 intro g s B H xs Y Q I r h;obtain⟨p,F,rfl,C,q⟩:=h;obtain⟨u,rfl,m⟩:=fT r;cases m;have hn:=kK;rcases C with C|C
 ·obtain⟨d,O,D,M⟩:=I.list C
  have E:=O.length;exact Calls.call_len_list D.isList (by simp only[qaG]<;>lia) ⟨.int F.length,H,I.tok _,⟨_,by rw[qaG,E]⟩,q⟩
 ·obtain⟨d,O,D,M⟩:=I.tuple C
  have E:=O.length;exact len_tuple D (by simp only[qaG]<;>lia) ⟨.int F.length,H,I.tok _,⟨_,by rw[qaG,E]⟩,q⟩
theorem pO:bE X (.builtin "len") (λxs H Q=>∃ z,xs=[.str z]/\z.length<=qaJ/\Q (.int z.length) H):=by
 intro g s B H xs Y Q I r h;obtain⟨z,rfl,M,q⟩:=h;obtain⟨u,rfl,t,rfl⟩:=fT r;have hn:=kK;exact len_str (by lia) ⟨.int z.length,H,I.tok _,⟨_,U⟩,q⟩
theorem pP:bE X (.type "list") (λxs H Q=>∃ p F,xs=[.ref p]/\(SqL X.K H p F\/SqT X.K H p F)/\∀ l,H l=none->Q (.ref l) (upd H l (.lst F))):=by
 intro g s B H xs Y Q I r h;obtain⟨p,F,rfl,C,q⟩:=h;obtain⟨u,rfl,m⟩:=fT r;cases m;have fin:∀ (d:List Value),aH F d->F.length<=qaJ->∀ (h':Heap) (c':Nat),_->
   h'.get? s.heap.objs.size=some { cls:=.type "list",dict:=none,data:=.seq d.toArray c',slots:=#[] }->EP X g B Q _ { s with heap:=h' }:=λd O M h' c' kp e=>
  ⟨.ref s.heap.objs.size,_,I.laid kp (qao _) (show cm X.prog X.w _ h' _ (.lst F) from ⟨M,d,c',O,e⟩),U,q _ (I.hok.fresh (qao _))⟩
 rcases C with C|C
 ·obtain⟨d,O,D,M⟩:=I.list C
  have E:=O.length;obtain⟨o,ho,hc,n,hd⟩:=D.isList;exact call_list_seq p (.inl U) ho hc hd (λh' c' kp e=>fin d O M h' c' kp e) (by simp only[qaG]<;>lia)
 ·obtain⟨d,O,D,M⟩:=I.tuple C
  have E:=O.length;obtain⟨o,ho,hc,n,hd⟩:=D;exact call_list_seq p (.inr U) ho hc hd (λh' c' kp e=>fin d O M h' c' kp e) (by simp only[qaG]<;>lia)
theorem oE:bE X (.type "tuple") (λxs H Q=>∃ p F,xs=[.ref p]/\((SqL X.K H p F/\∀ l,H l=none->Q (.ref l) (upd H l (.tup F)))\/(SqT X.K H p F/\Q (.ref p) H))):=by
 intro g s B H xs Y Q I r h;obtain⟨p,F,rfl,h⟩:=h;obtain⟨u,rfl,m⟩:=fT r;cases m;rcases h with⟨C,q⟩|⟨C,q⟩
 ·obtain⟨d,O,D,M⟩:=I.list C
  have E:=O.length;refine call_tuple_list D.isList (λh' kp=>?_) (by simp only[qaG]<;>lia);have I1:=I.kept (t':=s.toks) kp;exact⟨.ref h'.objs.size,_,(I1.laid (λb o e=>qaf _ e) (qao _) (show cm X.prog X.w _ _ _ (.tup F) from ⟨M,d,O,fg.new _ _⟩)),U,q _ (I1.hok.fresh (qao _))⟩
 ·obtain⟨d,O,D,M⟩:=I.tuple C
  exact call_tuple_same D ⟨.ref p,H,I,U,q⟩
def tyV (K:qae) (T:String) (x:V) (H:Hp):Prop:=match x with
 |.str _=>T = "str"
 |.int _=>T = "int"
 |.ref p=>(T = "list"/\∃ xs,SqL K H p xs)\/(T = "tuple"/\((∃ o,K.lookup p=some o/\o.cls=.type "tuple"/\o.dict=none)\/∃ xs,SqT K H p xs))\/
   (T = "dict"/\((∃ kvs,H p=some (.dK kvs))\/∃ kvs,H p=some (.dT kvs)))\/(T = "set"/\∃ S n,H p=some (.set S n))
 |_=>False
theorem EJ {g:List (Addr×Obj)}{B:St}{H:Hp}{s:qai}{T:String}{x:V}{v:Value} (I:Inv X g B H s) (r:aP x v) (ty:tyV X.K T x H) :
  s.TypeIs v T/\∀ a,v=.ref a->∃ ob,s.heap.get? a=some ob/\ob.dict=none:=by
 cases x with
 |str z=>
  obtain⟨t,rfl⟩:=r;cases (ty);exact⟨typeIs_str s z t,λ_ e=>nomatch e⟩
 |int i=>
  obtain⟨t,rfl⟩:=r;cases (ty);exact⟨qfW s i t,λ_ e=>nomatch e⟩
 |ref p=>
  cases r;rcases ty with⟨rfl,xs,C⟩|⟨rfl,ht⟩|⟨rfl,hk⟩|⟨rfl,S,n,hk⟩
  ·obtain⟨d,_,D,_⟩:=I.list C
   refine⟨D.isList.typeIs,λa e=>?_⟩;cases e;obtain⟨o,n,e,c,hd,_⟩:=D;exact⟨o,e,hd⟩
  ·have z:∃ o:Obj,s.heap.get? p=some o/\o.cls=.type "tuple"/\o.dict=none:=by
    rcases ht with⟨o,hk,hc,hd⟩|⟨xs,C⟩
    ·exact⟨o,I.kIn p o hk,hc,hd⟩
    ·exact I.tuple1 C
   obtain⟨o,e1,hc,hd⟩:=z;refine⟨⟨o,e1,hc⟩,λa e=>?_⟩;cases e;exact⟨o,e1,hd⟩
  ·have z:∃ o,s.heap.get? p=some o/\o.ExactDict:=by
    rcases hk with⟨kvs,hk⟩|⟨kvs,hk⟩
    ·obtain⟨_,_,_,_,o,_,_,e,ex,_⟩:=I.hok p _ hk
     exact⟨o,e,ex⟩
    ·obtain⟨_,_,_,_,o,_,_,e,ex,_⟩:=I.hok p _ hk
     exact⟨o,e,ex⟩
   obtain⟨o,e,ex⟩:=z;refine⟨⟨o,e,ex.1⟩,λa e2=>?_⟩;cases e2;exact⟨o,e,ex.2.1⟩
  ·obtain⟨o,_,_,_,e,ex,_⟩:=I.hok p _ hk
   refine⟨⟨o,e,ex.1⟩,λa e2=>?_⟩;cases e2;exact⟨o,e,ex.2.1⟩
 |_=>exact qcv ty
def tBM (K:qae) (T:String) (r:V->List V->Hp->VK->Prop) (to:TE) (t:TA):TE:=λB H Q=>to B H λx H1=>tyV K T x H1/\t B H1 λxs H2=>r x xs H2 Q
variable {o e:Expr}{es:List Expr}{to:TE}{t:TA}{name:Str}{apos L:Pos}{T id:String}{r:V->List V->Hp->VK->Prop}
theorem CL (pa:PlainAttrs T) (slot:Slot T name id) (hty:typeOf (.builtin id)=pure (.type "method_descriptor")) (hm:MtR X id r) (ho:PE X o to) (ha:PA X (e::es) t)
  (hbase:qdb o name X.env (eval o X.env)=eval o X.env:=by rfl)
  (hfew:((qe4 L (qbD (e::es) X.env)).all (λx=>!x.1) && (qh9 L (qgx [] X.env)).all (λx=>x.1.isSome)
    && decide ((e::es).length+([]:List qh1).length+(if ([]:List qh1).isEmpty then 0 else 1)<30))=true:=by rfl)
  (hline:(apos.endLine==L.line)=true:=by rfl) (R:qbD (e::es) X.env=(false,eval e X.env)::qbD es X.env:=by rfl) (hplain:(qe4 L (qbD es X.env)).any (·.1)=false:=by rfl) :
  PE X (.Call (.Attribute o name apos) (e::es) [] L) (tBM X.K T r to t):=by
 intro g s B H Q I h;refine wpAny_Call_method_late hbase hfew hline U (thn (ho g s B H _ I h) λv s1 ⟨x,H1,I1,r1,ty,q1⟩=>?_);obtain⟨N,h2⟩:=EJ I1 r1 ty;refine⟨T,id,pa,slot,hty,N,h2,?_⟩;have hA:=ha L g s1 B H1 _ I1 q1;rw[R]at hA ⊢;refine Calls.callWith_builtin (by show (false||(qe4 L _).any _)=false;rw[hplain]<;>rfl) (Calls.evalArgs_plain ?_);exact thn hA λY s2 ⟨vs,H2,I2,r2,q2⟩=>hm g s2 B H2 x vs v Y Q I2 r1 r2 q2
end
def MtM (X:Cx) (id:String) (r:V->List V->Hp->VK->Prop):Prop:=
 ∀ (a:List (Addr×Obj)) (s:qai) (b:St) (H:Hp) (x:V) (xs:List V) (v:Value) (c:List Value) (Q:VK),Inv X a b H s->aP x v->aH xs c->r x xs H Q->
  wpAny (model X.prog X.w) X.A (call (.builtin id) (v::c)) (EP X a b Q) X.xe s
theorem aH.one {x:V}{a:List Value} (h:aH [x] a):∃ u,a=[u]/\aP x u:=by
 cases h with
 |cons r t=>cases t;exact⟨_,U,r⟩
theorem aH.two {x y:V}{a:List Value} (h:aH [x,y] a):∃ u v,a=[u,v]/\aP x u/\aP y v:=by
 cases h with
 |cons r t=>cases t with
  |cons q t2=>cases t2;exact⟨_,_,U,r,q⟩
theorem aH.eraseIdx:∀ {xs:List V}{a:List Value} (i:Nat),aH xs a->aH (xs.eraseIdx i) (a.eraseIdx i)
 |_,_,_,.nil=>.nil
 |_,_,0,.cons _ t=>t
 |_,_,i+1,.cons r t=>.cons r (aH.eraseIdx i t)
theorem aH.rep {xs:List V}{a:List Value} (h:aH xs a):∀ k:Nat,aH (qaH k xs).flatten (qaH k a).flatten
 |0=>.nil
 |k+1=>by
  exact aH.append h (aH.rep h k)
theorem o0 {α:Type}:∀ (l:List α) (i:Nat),(l.eraseIdx i).length<=l.length
 |[],_=>qao _
 |_::_,0=>qcW _
 |_::r,i+1=>Nat.succ_le_succ (o0 r i)
theorem kA (a:List Value):∀ (k:Nat) (acc:List Value),
  qjM (λc b=>c++b) acc.toArray (qaH k a.toArray)=(acc++(qaH k a).flatten).toArray
 |0,acc=>by simp
 |k+1,acc=>by
  have e:acc.toArray++a.toArray=(acc++a).toArray:=by simp
  have d:(acc++a)++(qaH k a).flatten=acc++(qaH (k+1) a).flatten:=by
   rw[qdT,qhs,qb1]
  rw[<-d,<-kA a k _,<-e,qdT,List.foldl_cons]
section
variable {X:Cx}{c:List (Addr×Obj)}{i:St}{H:Hp}{s:qai}{l b:Addr}{xs g t:List V}
theorem Inv.lset {a d:List Value}{n:Nat}{f:Array Value->Array Value}{t':Nat} (I:Inv X c i H s) (k:H l=some (.lst xs))
  (e:s.heap.get? l=some { cls:=.type "list",data:=.seq a.toArray n }) (o:f a.toArray=d.toArray) (m:aH g d) (j:g.length<=qaJ) :
  Inv X c i (upd H l (.lst g)) { s with heap:=s.heap.update l (qcI f),toks:=t' }:=by
 have q:=qe6 e f;rw[o]at q;refine I.write (by rw[k];exact trivial) (.inl U) (λv u hb p=>(qaP s.heap _ (qbk hb)).trans p) ⟨_,q⟩ ?_;exact⟨j,d,_,m,q⟩
theorem Inv.lnew {a:List Value}{t':Nat} (I:Inv X c i H s) (m:aH g a) (j:g.length<=qaJ) :
  Inv X c i (upd H s.heap.objs.size (.lst g)) { s with heap:=s.heap.push { cls:=.type "list",data:=.seq a.toArray },toks:=t' }:=
 I.laid (λ_ _ q=>qaf _ q) (qao _) ⟨j,a,0,m,qas _ U⟩
theorem Inv.fresh (I:Inv X c i H s):H s.heap.objs.size=none:=I.hok.fresh (qao _)
theorem Inv.lstM (I:Inv X c i H s) (k:H l=some (.lst xs)):xs.length<=qaJ/\∃ (a:List Value) (n:Nat),aH xs a/\xs.length=a.length/\s.heap.get? l=some { cls:=.type "list",data:=.seq a.toArray n }:=by
 obtain⟨z,a,n,r,e⟩:=I.hok l _ k;exact⟨z,a,n,r,r.length,e⟩
theorem zq {n:Nat} (h:n<=qaJ):qfj n=false:=by
 exact decide_eq_false (by lia)
end
section
variable {X:Cx}
def B0:V->List V->Hp->VK->Prop:=λx d H Q=>∃ l xs y,x=.ref l/\d=[y]/\H l=some (.lst xs)/\xs.length<qaJ/\Q .non (upd H l (.lst (xs++[y])))
theorem xY:MtM X "list.append" B0:=by
 intro b s D H x d v E Q I j m h;obtain⟨l,xs,y,rfl,rfl,c,J,q⟩:=h;cases j;obtain⟨u,rfl,g⟩:=m.one;obtain⟨z,a,n,r,o,e⟩:=I.lstM c;refine qcS qfu ⟨_,e,U⟩ qfh (qe7 _ _) (qfe l a.toArray n u (by rw[qaG];lia)) ⟨e,?_⟩;refine⟨.non,_,I.lset c e (by simp) (r.append (.cons g .nil)) ?_,U,q⟩;rw[qaz,qbI];lia
def El:V->List V->Hp->VK->Prop:=λx d H Q=>∃ l xs i k y,x=.ref l/\d=[.int i]/\H l=some (.lst xs)/\-(2^63)<=i/\i<2^63/\qjC i xs.length=some k/\xs[k]?=some y/\Q y (upd H l (.lst (xs.eraseIdx k)))
theorem zo:MtM X "list.pop" El:=by
 intro b s D H x d v E Q I j m h;obtain⟨l,xs,i,k,y,rfl,rfl,c,A,B,p,C,q⟩:=h;cases j;obtain⟨u,rfl,g⟩:=m.one;obtain⟨t,rfl⟩:=g;obtain⟨z,a,n,r,o,e⟩:=I.lstM c;obtain⟨w,hw,f⟩:=r.get C;refine qcS F.slot_list_pop ⟨_,e,U⟩ F.entry_list_pop (F.args_list_pop_2 _ _)
  (MeetsSeq.list_pop_at l a.toArray n i t k w (qjV A B) (by rw[qaG,<-o];exact p) (by rw[<-qeB];exact hw) (by rw[qaG];lia)) ⟨e,?_⟩
 refine⟨y,_,I.lset c e ?_ (r.eraseIdx k) ?_,f,q⟩
 ·rw[List.eraseIdxIfInBounds_toArray]
 ·have:=o0 xs k
  lia
theorem qR {α:Type} (xs:List α) (k:Nat):(qaH k xs).flatten.length=k*xs.length:=by
 induction k with
 |zero=>simp
 |succ k G=>rw[qdT,qhs,qaz,G,Nat.succ_mul,qeN]
end
section
variable {prog:qaM}{w:World}{A:qaY}{E:Value->qai->Prop}{s:qai}
end
section
variable {X:Cx}
end
end L2
namespace Att
open PySem PySem.W PySem.Calls PyProof.Rows
theorem lB {P:Params}{h:Heap}:∀ (ns:List Int) (c:List Value),WellAll P h c (ns.map WData.int)->qb2 c ns:=by
 intro ns
 induction ns with
 |nil=>
  intro c w;cases w;exact .nil
 |cons n ns d=>
  intro c w;cases w with
  |cons a b=>
   cases a;exact .cons _ _ (d _ b)
theorem yd {l:OpenLaw}{n:Nat} (hn:l.most=some n) {P:Params}{h:Heap}{args:List WData}{c:List Value}
  (b:l.row.toRowW.claim.pre args=true) (i:WellAll P h c args) :
  ∃ a k ns,c=[Value.ref a]/\args=[WData.list (ns.map WData.int)]/\h.get? a=some { cls:=.type "list",data:=.seq k.toArray }/\qb2 k ns/\ns.length<=n:=by
 obtain⟨d,r,rfl,m,o⟩:=hasAllW_cons ((pre_splitW b).1);obtain rfl:=hasAllW_nil o;obtain⟨xs,rfl,q⟩:=hasW_list m;obtain⟨ns,rfl⟩:=items_int q;have f:ns.length<=n:=by
  have g:=by
   have g:=(holds_andW ((pre_splitW b).2)).1;rw[hn]at g;exact g
  have j:=condW_of g (w_not (w_lt w_lit (w_len_list (w_arg U))))
  first
   |(exact absurd j _)
   |(simp at j;lia)
 cases i with
 |cons p w2=>
  cases w2;cases p with
  |list s e=>exact⟨_,_,ns,U,U,s,lB ns _ e,f⟩
theorem x9 (l:OpenLaw) (args:List WData):l.row.toRowW.claim.post args (.bool true) args=true:=
 postW_of
  (show qit [] _ .bool=true by first|rfl|decide|simp[qit,WShape.arms,WShape.armsAll])
  (w_eq_bool (w_res U) w_lit) U
theorem attach_call {l:OpenLaw}{n:Nat}{q:qaM}{c:List Str}{XP:(Str->Option Value)->Heap->Prop}{YP:World->Heap->Prop}{d:DefRec}
  (hn:l.most=some n) (t:d.params.defaults=[])
  (call:∀ (w:World) (s₀ b:qai) (mg u:Str->Option Value) (k:Addr) (o:Obj) (x p e:Value) (a:Addr) (h:List Value) (ns:List Int),
    Ground q c [] XP w s₀ mg u b.heap->YP w b.heap->
    b.heap.get? k=some o->o.data=.func (docDef d.name d.params d.body d.scope x p e)->b.heap.CodeRec p d.name->mg d.name=some (.ref k)->
    b.heap.get? a=some { cls:=.type "list",data:=.seq h.toArray }->qb2 h ns->ns.length<=n->b.gens=#[]->
    qdH (model l.prog w) qhe (.call (.ref k) ⟨[.ref a],[]⟩) (λr s'=>r=.ok (.ret (.bool true))/\OldK b.heap s'.heap/\s'.os=b.os/\qfw s'.gens) b) :
  WalkO q c XP YP l.row.toRowW d [] (λf h=>qhf f h):=by
 intro w s₀ b mg u G Y k o x p e J kV F hd y B v hg args A as i z K s H;obtain rfl:J=.none:=Dflts.none B t;obtain rfl:kV=.none:=Dflts.noKw B;obtain⟨a,h,ns,rfl,rfl,j,g,m⟩:=yd hn i s;refine enter_call (qf8 (call w s₀ b mg u k o x p e a h ns G Y F (fd_plain hd) y v j g m hg) λr s' C=>?_);obtain⟨rfl,E,I,D⟩:=C;exact⟨.inl ⟨_,_,_,U,λ_=>rfl,.bool true,x9 l _,λ_=>⟨List.Pairwise.nil,λ_ hm=>(nomatch hm)⟩⟩,E,I,D⟩
section
variable {prog:qaM}{w:World}{A:qaY}{E:Value->qai->Prop}{s:qai}{K:Frag}
end
end Att
namespace L2
open PySem PySem.Spec PyProof.Rows
theorem pk:∀ {a:List Value}{ns:List Int},qb2 a ns->aH (ns.map V.int) a
 |_,_,.nil=>.nil
 |_,_,.cons n t h=>.cons ⟨t,U⟩ (pk h)
def AJ (H:Hp):Prop:=∀ b,H b=none\/∃ o xs,H b=some (.frz o (.lst xs))
theorem za {P:qaM}{w:World}{K:qae}{mg G:Str->Option Value}{CX:CXT}{k:Nat}{D a:Addr}{fd:qb4}{x:Str}{sp:Sp}{c:qai}{y:List Value}{ns:List Int}
  (KX:K.In c.heap) (hns:c.heap.Ns qca mg) (hb:c.heap.Ns qgX G) (E:∀ x:Str,x≠"__name__"->G x=qcd x) (p:c.heap.NoLimit) (hg:c.gens=#[])
  (B:c.heap.get? a=some { cls:=.type "list",data:=.seq y.toArray }) (hi:qb2 y ns) (N:ns.length<=qaJ) (X:bu k qhe)
  (F:∀ base:Heap,K.In base->base.Ns qca mg->dD P w K mg base CX k D fd [x] sp) (j:∀ (s:qai) (u:Value),qhm s fd ⟨[u],[]⟩ [(x,u)])
  (M:∀ H:Hp,AJ H->SqL K H a (ns.map V.int)->sp [.ref a] H (λv _=>v=.bl true) λ_ _ _=>False)
  (J:∀ H e s',CX [] H c (λ_ _ _=>False) e s'->False) :
  qdH (model P w) qhe (.call (.ref D) ⟨[.ref a],[]⟩) (λr s'=>r=.ok (.ret (.bool true))/\OldK c.heap s'.heap/\s'.os=c.os/\qfw s'.gens) c:=by
 have O:=pk hi;have i:∀ H ,AJ H->SqL K H a (ns.map V.int)->HOk P w H c.heap->(∀ b,H b≠none->b=a)->(H a≠none->K.lookup a=none)->
   qdH (model P w) qhe (.call (.ref D) ⟨[.ref a],[]⟩) (λr s'=>r=.ok (.ret (.bool true))/\OldK c.heap s'.heap/\s'.os=c.os/\qfw s'.gens) c:=by
  intro H R T hok hA W;have f:∀ {b:Addr}{o:Obj},c.heap.get? b=some o->H b=none->(xH c.heap H).get? b=some o:=λe n=>yQ e n;have L:∀ {b:Addr}{o:Obj}{es:Array qeh}{A:Nat},c.heap.get? b=some o->o.data=.dict es A->H b=none:=λ{b o es A} e d=>by
   cases q:H b with
   |none=>rfl
   |some u=>
    have I:=hA b (by rw[q];simp);subst I;rw[B]at e;cases e;cases d
  have g:∀ {b:Addr}{m:Str->Option Value},c.heap.Ns b m->(xH c.heap H).Ns b m:=λ{b m} ⟨o,es,A,e,d,r⟩=>⟨o,es,A,f e (L e d),d,r⟩
  have t:=λb o e=>f (KX b o e) (by
   cases q:H b with
   |none=>rfl
   |some u=>
    have I:=hA b (by rw[q];simp);subst I
    rw[W (by rw[q];simp)]at e;cases e)
  refine qf8 ((F _ t (g hns)).run qhe [] c H ⟨[.ref a],[]⟩ [.ref a] [.ref a] _ _ X ⟨U,⟨t,g hns,⟨G,g hb,E⟩,let ⟨mc,h1,h2⟩:=p;⟨mc,g h1,h2⟩⟩,λb o e=>Bw e,qdK (xI _ _),trivial,λb hb=>absurd (show b∈([]) from hb) (by simp),hok,.of_eq hg⟩ (j c _) (.cons U .nil) (M H R T)) λr s' h=>?_;cases r with
  |error e=>exact (J H e s' h).elim
  |ok fl=>
   cases fl with
   |next=>exact qcv h
   |brk=>exact qcv h
   |cont=>exact qcv h
   |ret u=>
    obtain⟨v,H',os,bare,un,l,Y,q⟩:=h;subst q;obtain rfl:u=Value.bool true:=Y;refine⟨U,OldK.of_keep λb o e=>?_,os,bare⟩;cases q:H b with
    |none=>exact un.keep b o e q (by intro z;exact absurd (show b∈([]) from z) (by simp)) (by simp)
    |some u=>
     rcases R b with z|⟨ob,xs,z⟩
     ·rw[q]at z;cases z
     ·obtain⟨Q,_⟩:=hok b _ z
      obtain⟨S,_⟩:=l b _ (un.frzs b ob _ z);rw[e]at Q;cases Q;exact S
 cases hk:K.lookup a with
 |some o=>
  -- the script is one of the module's own objects
  have e:=KX a o hk;rw[B]at e;cases e;refine i _ (λ_=>.inl U) (.inr ⟨_,y.toArray,_,hk,U,U,U,by rw[qaG,hi.length];exact N,by simpa using O⟩) (λb u z=>by cases z) (λb z=>absurd U z) λz=>absurd U z
 |none=>
  refine i (λb=>if b=a then some _ else none) (λb=>?_) (.inl (.inr ⟨{ cls:=.type "list",data:=.seq y.toArray },iFP U⟩)) (λb u z=>?_) (λb z=>?_) λ_=>hk
  ·by_cases hb:b=a
   ·exact .inr ⟨_,_,iFP hb⟩
   ·exact .inl (iFN hb)
  ·by_cases hb:b=a
   ·have C:=(iFP hb).symm.trans z
    cases C;subst hb;exact⟨B,by rw[qah];exact N,y,_,O,B⟩
   ·have C:=(iFN hb).symm.trans z
    cases C
  ·by_cases hb:b=a
   ·exact hb
   ·exact absurd (iFN hb) z
theorem walk_of {l:qft}{n k:Nat}{q:qaM}{c:List Str}{XP:(Str->Option Value)->Heap->Prop}{YP:World->Heap->Prop}{d:DefRec}{K:Params->qae}{CX:World->CXT}{sp:World->Sp}{x:Str}
  (hn:l.most=some n) (r:n<=qaJ) (p:d.params.defaults=[]) (I:bu k qhe)
  (B:∀ (w:World) (h:Heap),YP w h->(K w.params).In h)
  (F:∀ (w:World) (mg:Str->Option Value) (m:Addr) (h:Heap),(K w.params).In h->h.Ns qca mg->mg d.name=some (.ref m)->
    ∃ fd:qb4,(∀ (s:qai) (u:Value),qhm s fd ⟨[u],[]⟩ [(x,u)])/\
     ∀ base:Heap,(K w.params).In base->base.Ns qca mg->dD l.prog w (K w.params) mg base (CX w) k m fd [x] (sp w))
  (z:∀ (w:World) (H:Hp) (a:Addr) (ns:List Int),ns.length<=n->AJ H->SqL (K w.params) H a (ns.map V.int)->sp w [.ref a] H (λv _=>v=.bl true) λ_ _ _=>False)
  (y:∀ (w:World) (H:Hp) (s:qai) (e:Value) (s':qai),CX w [] H s (λ_ _ _=>False) e s'->False) :
  qhD q c XP YP l.row.toRowW d [] (λf A=>qhf f A):=by
 refine Att.attach_call hn p λw s₀ j mg O m o P M C a A ns G Y N hd L t i g b hg=>?_;have KX:=B w _ Y;obtain⟨fd,hb,E⟩:=F w mg m _ KX G.T.g t;exact za KX G.T.g G.T.b G.T.builtins G.T.nolimit hg i g (qaT b r) I E hb (λH J D=>z w H a ns b J D) λH e s'=>y w H j e s'
def lI (s:Stmt):Arguments:=match s with
 |.FunctionDef _ a _ _ _ _ _ _ _ _=>a
 |_=>{ posonlyargs:=[],args:=[],vararg:=none,kwonlyargs:=[],kw_defaults:=[],kwarg:=none,defaults:=[] }
def aZ (s:Stmt):List Stmt:=match s with
 |.FunctionDef _ _ b _ _ _ _ _ _ _=>b
 |_=>[]
def ar (s:Stmt):Scope:=match s with
 |.FunctionDef _ _ _ _ _ _ a _ _ _=>a
 |_=>{ kind:=.function,names:=[],isGenerator:=false,isCoroutine:=false }
abbrev CX0:CXT:=λ_ _ _ _ _ _=>False
abbrev E0:XK:=λ_ _ _=>False
theorem zB {X:Cx}:my CX0 X E0:=λ_ _ _ _ _ _ _ h=>h.elim
structure Fun (K:qae) (x qual:Str) (st:Stmt) (f:Addr) (fd:qb4):Prop where
 ex:∃ (oc:Value) (od:Option Addr) (kV doc pm:Value) (an:Option Addr) (cdv ct:Value) (osl:Array (Option Value)),
  fd=qdR x qual (lI st) (aZ st) (ar st) .none kV doc pm an cdv ct/\K.lookup f=some ⟨oc,od,.func fd,osl⟩/\qfK K cdv qual=true
 kp:qcz K (.ref f)=true
section
variable {P:qaM}{w:World}{K:qae}{mg:Str->Option Value}{base:Heap}
theorem Fun.ok {x a:Str}{st:Stmt}{f:Addr}{fd:qb4}{N ps:List Str}{k:Nat}{sp:Sp} (F:Fun K x a st f fd) (S:cp N ps (ar st)) (len:∀ m H Q E,sp m H Q E->m.length=ps.length)
  (j:∀ (b:Value) (A:qaY) (outer:List Env) (s:qai) (H:Hp) (m:List V) (Q:VK) (E:XK),bu k (A.deeper (qez a (ar st) s.heap.objs.size f b))->sp m H Q E->
    ∃ t,PSs (fD CX0 P w K mg base N a (ar st) f b A outer s H E).nox (aZ st) t/\t { nx:=λ_ H'=>Q .non H',rt:=Q } (iB N m) H):dD P w K mg base CX0 (k+1) f fd ps sp:=by
 obtain⟨o,p,kV,d,i,g,b,ct,e,rfl,v,n⟩:=F.ex;refine Fc v n S len λA outer s H m Q E y r=>?_;obtain⟨t,h,q⟩:=j b A outer s H m Q E y r;exact⟨t,h.nox,q⟩
theorem Fun.binds {x a:Str}{st:Stmt}{f:Addr}{fd:qb4}{ps:List Str} (F:Fun K x a st f fd)
  (h:∀ (kV d i:Value) (g:Option Addr) (b ct:Value) (u:List Value),u.length=ps.length->bindArgs (qdR x a (lI st) (aZ st) (ar st) .none kV d i g b ct) ⟨u,[]⟩=pure (ps.zip u)):dc K fd ps []:=by
 obtain⟨o,p,kV,d,i,g,b,ct,e,rfl,v,n⟩:=F.ex;exact .all (h kV d i g b ct)
theorem fun_mk {x a:Str}{st:Stmt}{f:Addr}{o:Value}{p g:Option Addr}{e:Array (Option Value)}{kV d i b ct:Value} (l:K.lookup f=some ⟨o,p,.func (qdR x a (lI st) (aZ st) (ar st) .none kV d i g b ct),e⟩)
  (c:qfK K b a=true) (k:qcz K (.ref f)=true):Fun K x a st f (qdR x a (lI st) (aZ st) (ar st) .none kV d i g b ct):=⟨⟨o,p,kV,d,i,g,b,ct,e,U,l,c⟩,k⟩
end
theorem CB {A:qaY}{k:Nat} (a:bu k A):A.units+1<cLine:=qbF (Nat.add_le_add_left (by decide) _) a.units
theorem yg {n:Nat} (h:n<=1000):n<qaJ:=qbF h (by decide)
section
variable {X:Cx}
end
theorem Ds {A B:Prop} (h:B):if false=true then A else B:=by
 exact h
theorem Dt {A B:Prop} (h:A):if true=true then A else B:=by
 exact h
def aQ (H H':Hp):Prop:=∀ b o,H b=some o->H' b=some o
theorem aQ.refl (H:Hp):aQ H H:=λ_ _ h=>h
theorem aQ.trans {H H1 H2:Hp} (a:aQ H H1) (b:aQ H1 H2):aQ H H2:=λc o h=>b c o (a c o h)
def cu (a:List (Str×Addr)):List (Str×qb0)->List (Str×Addr)->List (Str×Addr)
 |[],acc=>acc
 |(n,k)::r,acc=>if k==.free then cu a r ((n,(a.lookup n).getD 0)::acc) else cu a r acc
theorem jj {env:Env} (f:Str×qb0->List (Str×Addr)->Sem (ForInStep (List (Str×Addr))))
  (d:∀ n k cs,f (n,k) cs=if k==.free then (do let c <-cellOf env n;pure (.yield ((n,c)::cs))) else pure (.yield cs)) :
  ∀ (names:List (Str×qb0)) (acc:List (Str×Addr)),(∀ x∈names,x.2=.free->∃ c,env.cells.lookup x.1=some c)->
   forIn names acc f=pure (cu env.cells names acc)
 |[],acc,_=>by rfl
 |(n,k)::r,acc,h=>by
  rw[qfR,d];unfold cu;by_cases b:(k==.free)=true
  ·obtain⟨c,g⟩:=h (n,k) qag (beq_iff_eq.mp b)
   have a:=g;rw[iFP b,iFP b]
   have:cellOf env n=pure c:=by unfold cellOf;rw[a]
   rw[this,a];exact jj f d r _ λx e=>h x (qaj _ e)
  ·rw[iFN b,iFN b]
   exact jj f d r _ λx e=>h x (qaj _ e)
theorem i8 {a:Scope}{env:Env} (h:∀ x∈a.names,x.2=.free->∃ c,env.cells.lookup x.1=some c) :
  closureFor a env=pure (cu env.cells a.names []):=by
 simp only[closureFor];rw[jj _ (λn k cs=>by cases hk:k==NameKind.free<;>simp[hk]) a.names [] h]
 simp
theorem fj {a:List (Str×Addr)}:∀ (names:List (Str×qb0)) (acc:List (Str×Addr)) {x:Str}{c:Addr},(cu a names acc).lookup x=some c->
  acc.lookup x=some c\/((x,NameKind.free)∈names/\c=(a.lookup x).getD 0)
 |[],_,_,_,h=>.inl h
 |(n,k)::r,acc,x,c,h=>by
  unfold cu at h;by_cases f:(k==.free)=true
  ·rw[iFP f]at h
   rcases fj r _ h with q|⟨d,b⟩
   ·rw[qbw]at q
    cases hx:x==n with
    |true=>
     rw[hx]at q;have e:=beq_iff_eq.mp hx;subst e;exact .inr ⟨by rw[<-beq_iff_eq.mp f];exact qag,(qaL q).symm⟩
    |false=>rw[hx]at q;exact .inl q
   ·exact .inr ⟨qaj _ d,b⟩
  ·rw[iFN f]at h
   rcases fj r _ h with q|⟨d,b⟩
   ·exact .inl q
   ·exact .inr ⟨qaj _ d,b⟩
theorem eI {a:List (Str×Addr)}{x:Str}:∀ (names:List (Str×qb0)) (acc:List (Str×Addr)),((x,NameKind.free)∈names\/(acc.lookup x).isSome=true)->((cu a names acc).lookup x).isSome=true
 |[],_,h=>h.elim (λz=>nomatch z) id
 |(n,k)::r,acc,h=>by
  unfold cu;by_cases b:(k==.free)=true
  ·rw[iFP b]
   refine eI r _ ?_;rcases h with h|h
   ·rcases qay.mp h with e|h
    ·cases e
     exact .inr (by rw[qbw,beq_self_eq_true];rfl)
    ·exact .inl h
   ·refine .inr ?_
    rw[qbw];cases x==n
    ·exact h
    ·rfl
  ·rw[iFN b]
   refine eI r _ ?_;rcases h with h|h
   ·rcases qay.mp h with e|h
    ·cases e;exact absurd U b
    ·exact .inl h
   ·exact .inr h
theorem cW:∀ (names:List (Str×qb0)) (n:Nat) (acc:List (Str×Addr)) {x:Str}{c:Addr},(qcu n names acc).lookup x=some c->acc.lookup x=some c\/((x,NameKind.cell)∈names/\n<=c)
 |[],_,_,_,_,h=>.inl h
 |(m,k)::r,n,acc,x,c,h=>by
  unfold qcu at h;by_cases d:(k==.cell)=true
  ·rw[iFP d]at h
   rcases cW r _ _ h with q|⟨b,a⟩
   ·rw[qbw]at q
    cases hx:x==m with
    |true=>
     rw[hx]at q;have e:=beq_iff_eq.mp hx;subst e;exact .inr ⟨by rw[<-beq_iff_eq.mp d];exact qag,by rw[qaL q];exact qao _⟩
    |false=>rw[hx]at q;exact .inl q
   ·exact .inr ⟨qaj _ b,Nat.le_of_succ_le a⟩
  ·rw[iFN d]at h
   rcases cW r _ _ h with q|⟨b,a⟩
   ·exact .inl q
   ·exact .inr ⟨qaj _ b,a⟩
theorem oF:∀ (names:List (Str×qb0)) (n:Nat) (acc:List (Str×Addr)),(∀ p∈acc,p.2<n)->∀ {x y:Str}{c:Addr},(qcu n names acc).lookup x=some c->(qcu n names acc).lookup y=some c->n<=c->x=y:=by
 have g:∀ (names:List _) (n:Nat) (acc:List _) (lo:Nat),lo<=n->(∀ p∈acc,p.2<n)->(∀ p∈acc,∀ q∈acc,lo<=p.2->p.2=q.2->p.1=q.1)->
   ∀ p∈qcu n names acc,∀ q∈qcu n names acc,lo<=p.2->p.2=q.2->p.1=q.1:=by
  intro names
  induction names with
  |nil=>intro n acc lo _ _ h;exact h
  |cons z r o=>
   intro n acc lo f a h;obtain⟨m,k⟩:=z;unfold qcu;by_cases s:(k==.cell)=true
   ·rw[iFP s]
    refine o _ _ lo (Nat.le_succ_of_le f) (λp b=>?_) (λp b q d l e=>?_)
    ·rcases qay.mp b with e|b
     ·rw[e];exact qbZ _
     ·exact qaZ (a p b)
    ·rcases qay.mp b with i|b<;>rcases qay.mp d with j|d
     ·rw[i,j]
     ·rw[i]at e;exact absurd (a q d) (by rw[<-e];exact qa2 _)
     ·rw[j]at e;exact absurd (a p b) (by rw[e];exact qa2 _)
     ·exact h p b q d l e
   ·rw[iFN s]
    exact o _ _ lo f a h
 intro names n acc a x y c u t v;exact g names n acc n (qao _) a (λp b q d l _=>absurd (a p b) (qhG.mpr l)) _ (qbt u) _ (qbt t) v U
theorem dz:∀ (names:List (Str×qb0)) (h:Heap) (acc:List (Str×Addr)),(∀ p∈acc,∃ v,h.IsCell p.2 v)->∀ p∈qcu h.objs.size names acc,∃ v,(qe1 h names).IsCell p.2 v
 |[],_,_,h=>h
 |(m,k)::r,h,acc,d=>by
  unfold qcu qe1;by_cases a:(k==.cell)=true
  ·rw[iFP a,iFP a]
   have:=dz r (h.push { cls:=.type "cell",data:=.cell none }) ((m,h.objs.size)::acc) (λp c=>by
    rcases qay.mp c with e|c
    ·rw[e];exact⟨none,_,qas _ U,U⟩
    ·obtain⟨v,z⟩:=d p c
     exact⟨v,z.keeps λb o e=>qaf _ e⟩)
   rwa [qbj]at this
  ·rw[iFN a,iFN a]
   exact dz r h acc d
theorem dN {names:List (Str×qb0)} (nd:(names.map (·.1)).Nodup):∀ {x:Str}{k:qb0},(x,k)∈names->names.lookup x=some k:=by
 induction names with
 |nil=>intro x k h;cases h
 |cons z r a=>
  intro x k h;obtain⟨m,b⟩:=z;rw[qaw,qch]at nd;rw[qbw];rcases qay.mp h with e|h
  ·cases e;rw[beq_self_eq_true]
  ·have:(x==m)=false:=beq_eq_false_iff_ne.mpr λe=>nd.1 (e ▸ qaF.mpr ⟨(x,k),by assumption,U⟩)
   rw[this];exact a nd.2 h
theorem cS {env:Env}:∀ {names:List (Str×qb0)}{x:Str}{k:qb0},
  (names.map λ(n,k)=>if (k==NameKind.free&&env.scope.kind==.function&&env.kindOf n==some .cell) then (n,NameKind.cell) else (n,k)).lookup x=some k->
  ∃ a,names.lookup x=some a/\(k=a\/(a=.free/\k=.cell))
 |[],_,_,h=>by cases h
 |(n,a)::r,x,k,h=>by
  rw[qaw]at h;dsimp only at h;rw[qbw];by_cases b:(a==NameKind.free&&env.scope.kind==.function&&env.kindOf n==some .cell)=true
  ·rw[iFP b,qbw]at h
   cases hx:x==n with
   |true=>
    rw[hx]at h;refine⟨a,U,.inr ⟨?_,(qaL h).symm⟩⟩;simp only[qa8]at b;exact beq_iff_eq.mp b.1.1
   |false=>rw[hx]at h;exact cS h
  ·rw[iFN b,qbw]at h
   cases hx:x==n with
   |true=>rw[hx]at h;exact⟨a,U,.inl (qaL h).symm⟩
   |false=>rw[hx]at h;exact cS h
theorem gz {env:Env}:∀ {names:List (Str×qb0)}{x:Str},names.lookup x=some .free->
  (names.map λ(n,k)=>if (k==NameKind.free&&env.scope.kind==.function&&env.kindOf n==some .cell) then (n,NameKind.cell) else (n,k)).lookup x=some .free\/
  (names.map λ(n,k)=>if (k==NameKind.free&&env.scope.kind==.function&&env.kindOf n==some .cell) then (n,NameKind.cell) else (n,k)).lookup x=some .cell
 |[],_,h=>by cases h
 |(n,b)::r,x,h=>by
  rw[qaw];dsimp only;rw[qbw]at h;by_cases a:(b==NameKind.free&&env.scope.kind==.function&&env.kindOf n==some .cell)=true
  ·rw[iFP a,qbw]
   cases hx:x==n with
   |true=>exact .inr U
   |false=>rw[hx]at h;exact gz h
  ·rw[iFN a,qbw]
   cases hx:x==n with
   |true=>rw[hx]at h;exact .inl h
   |false=>rw[hx]at h;exact gz h
theorem j9 {M:Model}{A:qaY}{E:Value->qai->Prop}{s:qai}{a:Scope}{env:Env}{c:List (Str×Addr)}{Q:Env->qai->Prop}
  (d:Q (newEnv a s.heap.objs.size env.globals (qcu (s.heap.objs.size+1) a.names c) env.qual none .none (some env) qgX)
    { s with heap:=qe1 (s.heap.push { cls:=.type "dict",data:=.dict #[] }) a.names }) :
  wpAny M A (newFunctionEnv a env.globals c [] env.qual none .none (some env)) Q E s:=by
 refine qab (wpAny_alloc ?_);refine qab (wpAny_layCells _ (λname kind b=>by cases hkc:kind==NameKind.cell<;>simp[hkc]) _ _ _ _ ?_);rw[qbj ..];refine qab ?_;exact qan (qan d)
theorem de {prog:qaM}{w:World}{A:qaY}{R:qhB->qai->Prop}{s:qai}{p a iter:Expr}{q:List Expr}{o:Scope}{pos:Pos}{z acc:Value}{env:Env} (I:Nat->qai->Prop)
  (turn:∀ n s,I n s->wpAny (model prog w) A (qgW z) (λr b=>match r with
    |none=>R (.ok .next) b
    | some v=>wpAny (model prog w) A (qgw a z v) (λ_ d=>wpAny (model prog w) A (qf9 a env v) (λ_ g=>
      wpAny (model prog w) A (forIn q true λc r=>if r=true then do let ok <-qjF c env (eval c env);pure (ForInStep.yield ok) else pure (ForInStep.yield r)) (λok e=>
       if ok=true then wpAny (model prog w) A (eval p env) (λx k=>
        wpAny (model prog w) A (call (.builtin "list.append") [acc,x]) (λ_ i=>∃ m,m<n/\I m i) (λ_ _=>False) k) (λ_ _=>False) e
       else ∃ m,m<n/\I m e) (λ_ _=>False) g) (λ_ _=>False) d) (λ_ _=>False) b) (λ_ _=>False) s)
  (n:Nat) (h:I n s) :
  qdH (model prog w) A (.compLoop (.ListComp p [⟨a,iter,q,0⟩] o pos) 0 z acc env) R s:=by
 refine codeAny_loop U I (λn s B=>?_) n h;refine wpAny_noted ?_;rw[compTurn_list];refine qab (qeH (qab (qcq (turn n s B) (λr b f=>?_) λ_ _ h'=>h'.elim)));cases r with
 |none=>exact qan f
 |some v=>
  refine qab (qcq f (λ_ d l=>?_) λ_ _ h'=>h'.elim);refine qab (qcq l (λ_ g t=>qab (qcq t (λok e j=>?_) λ_ _ h'=>h'.elim)) λ_ _ h'=>h'.elim);cases ok with
  |false=>exact qan ⟨U,j⟩
  |true=>
   exact qab (qab (qcq j (λx k u=>qab (qcq u (λ_ i y=>qan (qan ⟨U,y⟩)) λ_ _ h'=>h'.elim)) λ_ _ h'=>h'.elim))
def lcX (X:Cx) (a:Scope) (b:List (Str×Addr)) (Nc:List Str) (s:qai) (H:Hp) (C:Addr) (c:List Addr):Cx where
 prog:=X.prog
 w:=X.w
 K:=X.K
 mg:=X.mg
 base:=X.base
 A:=X.A
 N:=Nc
 s₀:=s
 H₀:=H
 env:=qhd a b C X.env
 outer:=X.stack
 stack:=X.stack
 ex:=c
 fn:=λx=>a.names.lookup x==some .cell
 calm:=X.calm
 pn:=[]
 xe:=λ_ _=>False
structure dE (X:Cx) (scope:Scope) (Nc:List Str) (emb:St->St):Prop where
 kind:scope.kind=.function
 nd:(scope.names.map (·.1)).Nodup
 nN:Nc.Nodup
 free:∀ x∈scope.names,x.2=.free->X.env.kindOf x.1=some .cell\/X.env.kindOf x.1=some .free
 len:∀ σ:St,σ.length=X.N.length->(emb σ).length=Nc.length
 emb:∀ σ:St,σ.length=X.N.length->∀ (i:Nat) (x:Str) (v:V),Nc[i]?=some x->(emb σ)[i]?=some (some v)->∃ j:Nat,X.N[j]?=some x/\σ[j]?=some (some v)/\scope.names.lookup x=some .free
section
variable {X:Cx}{E:List (Addr×Obj)}{V:St}{H:Hp}{s:qai}{a:Scope}{Nc:List Str}{emb:St->St}
theorem dE.clos (S:dE X a Nc emb) (ok:X.Ok):∀ x∈a.names,x.2=.free->∃ c,X.env.cells.lookup x.1=some c:=λx w h=>ok.has x.1 (S.free x w h)
theorem sZ (S:dE X a Nc emb) (I:Inv X E V H s) {R:List Addr} (T:∀ b∈R,iY X E H b) (hfo:∀ b∈R,∃ o,s.heap.get? b=some o) {lo:Obj} (hlo:∀ v,lo.data≠.cell v) (hfr:lo.isFreed=false) :
  Inv (lcX X a (qcu (s.heap.objs.size+2) a.names (cu X.env.cells a.names [])) Nc s H (s.heap.objs.size+1) R) [(s.heap.objs.size,lo)] (emb V) H
   { s with heap:=qe1 ((s.heap.push lo).push { cls:=.type "dict",data:=.dict #[] }) a.names }:=by
 have O:((s.heap.push lo).push { cls:=.type "dict",data:=.dict #[] }).objs.size=s.heap.objs.size+2:=by rw[qbj,qbj]
 have P:(s.heap.push lo).objs.size=s.heap.objs.size+1:=by rw[qbj]
 have K:∀ b o,s.heap.get? b=some o->(qe1 ((s.heap.push lo).push { cls:=.type "dict",data:=.dict #[] }) a.names).get? b=some o:=λb o e=>
  qc5 _ _ b o (qaf _ (qaf _ e))
 have has:=S.clos I.ok;have B:∀ {x:Str}{c:Addr},(cu X.env.cells a.names []).lookup x=some c->X.env.cells.lookup x=some c/\(x,NameKind.free)∈a.names:=λ{x c} h=>by
  rcases fj _ _ h with q|⟨J,L⟩
  ·cases q
  ·obtain⟨c',A⟩:=has _ J U
   have D:=A;rw[D]at L;exact⟨by rw[D,L];rfl,J⟩
 have d:∀ {x:Str}{c:Addr},(qcu (s.heap.objs.size+2) a.names _).lookup x=some c->
   _\/_:=λ{x c} h=>by
  rcases cW _ _ _ h with q|q
  ·exact .inl (B q)
  ·exact .inr q
 have g:∀ {x:Str}{c:Addr},X.env.cells.lookup x=some c->c<s.heap.objs.size:=λ{x c} h=>by
  obtain⟨v,z⟩:=I.cell x c h;exact z.lt
 have C:∀ b∈R,b<s.heap.objs.size:=λb hb=>by obtain⟨o,e⟩:=hfo b hb;exact qau e
 have f:∀ p∈cu X.env.cells a.names [],∃ x,X.env.cells.lookup x=some p.2:=by
  have key:∀ (names:List _) (acc:List _),(∀ x∈names,x.2=.free->∃ c,X.env.cells.lookup x.1=some c)->(∀ p∈acc,∃ x,X.env.cells.lookup x=some p.2)->∀ p∈cu X.env.cells names acc,∃ x,X.env.cells.lookup x=some p.2:=by
   intro names
   induction names with
   |nil=>intro acc _ h;exact h
   |cons z r ih=>
    intro acc hn h;obtain⟨m,k⟩:=z;unfold cu;by_cases K:(k==.free)=true
    ·rw[iFP K]
     refine ih _ (λx w=>hn x (qaj _ w)) λp l=>?_;rcases qay.mp l with e|l
     ·obtain⟨c,hc⟩:=hn _ qag (beq_iff_eq.mp K)
      exact⟨m,by rw[e,hc];rfl⟩
     ·exact h p l
    ·rw[iFN K]
     exact ih _ (λx w=>hn x (qaj _ w)) h
  exact key _ _ has λp l=>nomatch l
 refine⟨⟨I.ok.mod,S.kind,I.ok.glob,I.ok.blt,qcW _,λx y c n t=>?_,λx w=>?_,λx c w h=>?_,I.ok.hd,I.ok.frames,.inl U,λb hb=>?_,I.bs,qaT I.ok.bsz I.sz,λb o e hb=>?_,λb hb=>?_,I.stack,I.stkFree⟩,
  rfl,I.bare,Un.kept K,⟨_,(Heap.Ns.new _ _).keeps (qc5 _ _) |> λq=>by rw[P]at q;exact q,λi x v n t _=>?_⟩,λx c h=>?_,I.hok.fresh (qcW _),λx c h=>?_,λp l=>?_,I.hok.kept K,S.len V I.len⟩
 ·-- inj
  have N:=n;have M:=t;rcases d N with⟨J,_⟩|⟨_,J⟩
  ·rcases d M with⟨L,_⟩|⟨_,L⟩
   ·exact I.ok.inj x y c J L
   ·exact absurd (qaQ (qaZ (qaZ (g J))) L) (qa2 _)
  ·refine oF a.names _ _ (λp l=>?_) N M J
   obtain⟨z,Y⟩:=f p l;exact qaZ (qaZ (g Y))
 ·-- has
  have:∃ F,a.names.lookup x=some F/\(F=.cell\/F=.free):=by
   rcases w with q|q
   ·obtain⟨F,n,t⟩:=cS q
    exact⟨F,n,t.elim (λe=>.inl e.symm) λe=>.inr e.1⟩
   ·obtain⟨F,n,t⟩:=cS q
    exact⟨F,n,t.elim (λe=>.inr e.symm) λe=>by cases e.2⟩
  obtain⟨F,n,t⟩:=this;refine qcs.mp (qdm a.names _ _ ?_);rcases t with rfl|rfl
  ·exact .inl n
  ·exact .inr (eI _ _ (.inl (qbt n)))
 ·-- cab
  rcases d h with⟨_,q⟩|⟨_,q⟩
  ·have:=dN S.nd q
   rw[(beq_iff_eq.mp w)]at this;cases this
  ·exact qaT (qdh _ 2) q
 ·-- exf
  refine⟨qax (qaZ (C b hb)),λx c h=>?_⟩;rcases d h with⟨q,_⟩|⟨_,q⟩
  ·exact (T b hb).2.2.2.2.1 x c q
  ·intro e
   exact absurd (qaQ (qaZ (qaZ (C b hb))) (e ▸ q)) (qa2 _)
 ·-- noex
  rcases (T b hb).2.2.2.1 with q|q
  ·exact I.ok.noex b o e q
  ·exact absurd (qaQ (qau (I.ok.bs b o e).1) q) (qa2 _)
 ·-- exfs
  intro hb2;rcases qay.mp (I.stkSub b hb2) with q|q
  ·exact (T b hb).2.1 q
  ·exact (T b hb).2.2.1 q
 ·-- loc
  obtain⟨j,e1,e2,W⟩:=S.emb V I.len i x v n t;have Q:=(S.free (x,.free) (qbt W) U);obtain⟨m,hn,hl⟩:=I.loc;obtain⟨u,ru,lk⟩:=hl j x v e1 e2 (.inr Q);refine⟨u,ru,.inr ⟨?_,?_⟩⟩
  ·rcases gz W with q|q
   ·exact .inr q
   ·exact .inl q
  ·rcases lk with⟨z,_⟩|⟨_,c,hc,G⟩
   ·rcases Q with q|q<;>(rw[z]at q;cases q)
   ·obtain⟨c',A⟩:=qcs.mp (qdm a.names _ _ (.inr (eI _ _ (.inl (qbt W)))))
    rcases d A with⟨q,_⟩|⟨q,_⟩
    ·rw[hc]at q
     cases q;exact⟨c,A,G.keeps K⟩
    ·have:=dN S.nd q
     rw[W]at this;cases this
 ·-- cell
  exact (dz a.names _ (cu X.env.cells a.names []) (λp l=>by
   obtain⟨z,Y⟩:=f p l;obtain⟨v,q⟩:=I.cell z p.2 Y
   exact⟨v,q.keeps λb o e=>qaf _ (qaf _ e)⟩) (x,c) (by rw[O];exact qbt h))
 ·-- freeC
  rcases d h with⟨q,_⟩|⟨_,q⟩
  ·exact I.freeC x c q
  ·exact I.hok.fresh (qaT (qdh _ 2) q)
 ·-- pin
  have hp':=by
   have:p∈([])++[(s.heap.objs.size,lo)]:=l
   simpa using this
  subst hp';refine⟨qc5 _ _ _ _ (qaf _ (qas _ hfr)),I.hok.fresh (qao _),qax (qbZ _),λhb=>?_,hlo⟩;rcases qay.mp (I.stkSub _ hb) with q|q
  ·exact absurd I.lt (by rw[<-q];exact qa2 _)
  ·exact I.nofs (qao _) q
end
def PTs (X:Cx) (d:List Expr) (t:TT):Prop:=
 ∀ (a:List (Addr×Obj)) (s:qai) (b:St) (H:Hp) (Q:Bool->Hp->Prop),Inv X a b H s->t b H Q->
  wpAny (model X.prog X.w) X.A (forIn d true λc r=>if r=true then do let ok <-qjF c X.env (eval c X.env);pure (ForInStep.yield ok) else pure (ForInStep.yield r)) (TP X a b Q) X.xe s
def Hh:TT:=λ_ H Q=>Q true H
theorem BU {X:Cx}:PTs X [] Hh:=λ_ _ _ H _ I h=>wpAny_tests_nil ⟨H,I,h⟩
theorem BV {X:Cx}{c:Expr}{t:TT} (d:PT X c t):PTs X [c] t:=λa s b H Q I h=>wpAny_tests_one (d a s b H Q I h)
def Sub (b a:St):Prop:=b.length=a.length/\∀ (i:Nat) (v:V),b[i]?=some (some v)->a[i]?=some (some v)
def ES (J:It) (d:St) (g:TG) (tt:TT) (te:TE) (H1:Hp) (Q:VK):Prop:=∃ W:Nat->Nat->List V->Hp->Prop,(∃ m,W 0 m [] H1)/\∀ i m e H,W i m e H->
 (J.stop i H/\∀ D,H D=none->Q (.ref D) (upd H D (.lst e)))\/
 (J.go i H/\e.length<qaJ/\∃ N:List V->Hp->Prop,(∀ c H',N c H'->∃ f,f<m/\W (i+1) f c H')/\∀ x H',J.yld i H x H'->g x d H' λa H2=>Sub d a/\tt a H2 λb H3=>if b=true then te a H3 λv H4=>N (e++[v]) H4 else N e H3)
def tLc (emb:St->St) (b:TI) (g:TG) (tt:TT) (te:TE):TE:=λa H Q=>b a H λJ H1=>ES J (emb a) g tt te H1 Q
section
variable {X:Cx}{j:Scope}{Nc:List Str}{emb:St->St}{elt iter tg:Expr}{ifs:List Expr}{pos:Pos}{wi:TI}{g:TG}{tt:TT}{te:TE}
theorem FZ (S:dE X j Nc emb) (hc:X.calm=true) (hi:PI X tg iter wi)
  (hg:∀ f s H C A,PG (lcX X j f Nc s H C A) tg g) (ht:∀ f s H C A,PTs (lcX X j f Nc s H C A) ifs tt) (he:∀ f s H C A,PE (lcX X j f Nc s H C A) elt te)
  (hs:∀ x,qbW iter X.env x=pure x:=by intro _;rfl):PE X (.ListComp elt [⟨tg,iter,ifs,0⟩] j pos) (tLc emb wi g tt te):=by
 intro pins s σ H Q I h;refine qgV U hs (i8 (S.clos I.ok)) S.kind (λx hx hl=>dN S.nd (by rw[<-hl];exact hx)) ?_;refine thn (hi pins s σ H _ I h) λv s1 h1=>thn h1 λitv R h2=>?_;obtain⟨it,A,tn,J,H2,e,I2,T,st2,f2,W,⟨m0,w0⟩,turn⟩:=h2;subst e;refine qb8 (j9 ?_);rw[qbj ..];generalize hD:R.heap.objs.size=D;generalize hlo:({ cls:=.type "list",dict:=none,data:=.seq ([]:List Value).toArray }:Obj)=lo
 have fplt:∀ b∈A,b<R.heap.objs.size:=λb hb=>by obtain⟨o,e,_⟩:=T.obj _ _ st2 b hb;exact qau e
 have I3:=sZ (lo:=lo) S I2 f2 (λb hb=>by obtain⟨o,e,_⟩:=T.obj _ _ st2 b hb;exact⟨o,e⟩) (by rw[<-hlo];intro v z;cases z) (by rw[<-hlo];rfl);rw[hD]at I3;generalize hcells:qcu (D+2) j.names _=f at I3;generalize d:lcX X j f Nc R H2 (D+1) A=X' at I3;have M:∀ {H':Hp}{ps:List (Addr×Obj)},(∀ b∈A,H' b=none)->(∀ p∈ps,p.1=D)->∀ b∈A,iY X' ps H' b:=λ{H' ps} hn E b hb=>by
  have ok:=I3.ok;refine⟨hn b hb,?_,?_,.inl (by rw[<-d];exact hb),?_,λp K=>?_⟩
  ·exact (ok.exf b (by rw[<-d];exact hb)).1
  ·exact ok.exfs b (by rw[<-d];exact hb)
  ·exact (ok.exf b (by rw[<-d];exact hb)).2
  ·have hp':p∈([])++ps:=by rw[<-d]at K;exact K
   rw[(E p (by simpa using hp')),<-hD];exact qcg (fplt b hb)
 have Dex:D∈X'.ex\/X'.s₀.heap.objs.size<=D:=.inr (by rw[<-d,<-hD];exact qao _);have Dloc:D≠X'.env.locals:=by rw[<-d];exact qax (qbZ _)
 have pD:=I3.pin (D,lo) (by rw[<-d];exact qav _ qag);have Dcell:∀ x c,X'.env.cells.lookup x=some c->c≠D:=λx c hc' e=>by
  obtain⟨v,o,ho,hd⟩:=I3.cell x c hc';rw[e,pD.1]at ho;cases ho;exact pD.2.2.2.2 v hd
 -- the O
 have O:∀ s3:qai,s3={ R with heap:=qe1 ((R.heap.push lo).push { cls:=.type "dict",data:=.dict #[] }) j.names }->
   qdH (model X.prog X.w) X.A (.compLoop (.ListComp elt [⟨tg,iter,ifs,0⟩] j pos) 0 (.ref it) (.ref D) (qhd j f (D+1) X.env))
    (compPost (model X.prog X.w) X.A X.xe none (EP X pins σ Q) (.ref D) (D+1)) s3:=by
  rintro s3 rfl
  refine de (λn s'=>∃ i V l k H',Inv X' [(D,{ cls:=.type "list",data:=.seq l.toArray k })] (emb σ) H' s'/\aH V l/\tn i s'.heap/\(∀ b∈A,H' b=none)/\V.length<=qaJ/\W i n V H') ?_ m0
   ⟨0,[],[],0,H2,?_,.nil,?_,λb hb=>(f2 b hb).1,qcE _,w0⟩
  ·rintro n s4 ⟨i,V,l,k,H4,I4,rv,st4,fr4,hlen,w4⟩
   have E:∀ p∈[(D,({ cls:=.type "list",data:=.seq l.toArray k }:Obj))],p.1=D:=λp K=>by
    have:=qal.mp K
    rw[this]
   rcases turn i n V H4 w4 with⟨stop,qn⟩|⟨go,hlt,N,hN,step⟩
   ·-- the end
    have TD:=T.done X' (by rw[<-d];rfl) (by rw[<-d];rfl) (by rw[<-d];rfl) (by rw[<-d];exact hc) i _ s4 (emb σ) H4 (λ_ _=>False) I4 (M fr4 E) st4 stop;rw[show X'.A=X.A by rw[<-d];rfl]at TD;refine thn TD λr s5 ⟨hr,I5⟩=>?_;subst hr;obtain⟨m5,hn5,_⟩:=id I5.loc;have eC:X'.env.locals=D+1:=by rw[<-d];rfl
    rw[eC]at hn5;refine⟨m5,hn5,λh' L=>?_⟩;have pD5:=I5.pin (D,{ cls:=.type "list",data:=.seq l.toArray k }) (by rw[<-d];exact qav _ qag)
    have neC:∀ b u,H4 b=some u->b≠D+1:=λb u e z=>by
     have:=I5.free
     rw[eC,<-z,e]at this;cases this
    have hD4:H4 D=none:=pD5.2.1;have un:=I5.base;have B:Un (frs X.stack) A H2 H4 R.heap s5.heap:=by rw[<-d]at un;exact un
    have w:∀ b o,R.heap.get? b=some o->b≠D/\b≠D+1:=λb o e=>by
     have q:=qau e;rw[hD]at q;exact⟨qax q,qax (qaZ q)⟩
    have h2D:H2 D=none:=by rw[<-hD];exact I2.fresh
    have hok':HOk X.prog X.w H4 h':=λb u e=>by
     have ob:cm X.prog X.w H4 s5.heap b u:=by have:=I5.hok b u e;rw[<-d]at this;exact this
     refine ob.stay (λc v hcv q=>(L.2 c ?_).trans q) (λ_ q=>q) λ_ _ q=>q;rcases hcv with z|z
     ·rw[z];exact neC b u e
     ·exact neC c _ z
    have hokD:HOk X.prog X.w (upd H4 D (.lst V)) h':=λb u e=>by
     by_cases hb:b=D
     ·subst hb
      rw[upd_same]at e;cases e;exact⟨hlen,l,k,rv,(L.2 b (qax (qbZ _))).trans pD5.1⟩
     ·rw[upd_ne hb]at e
      refine (hok' b u e).stay (λ_ _ _ q=>q) (λc q=>?_) λc z q=>?_
      all_goals first
       |(rw[upd_ne (aK q hD4)];exact q)
       |(rw[upd_ne (aK z hD4)];exact z)
    refine⟨.ref D,upd H4 D (.lst V),?_,U,qn D hD4⟩;refine I2.call' (s':={ s5 with heap:=h' }) (ch:=A) ?_ ⟨λb o e nb hb hx=>?_,λb o e nb hb hx=>?_,λb o e nb hx=>?_,λb o e hx=>?_,λb xs e=>?_,λb o u e=>?_,λb ps e=>?_⟩ hokD I5.bare (λb hb=>?_)
    ·have:=I5.os
     rw[<-d]at this;exact this
    ·exact (L.2 b (w b o e).2).trans (B.keep b o e nb hb hx)
    ·obtain⟨sl,q⟩:=B.slot b o e nb hb hx
     exact⟨sl,(L.2 b (w b o e).2).trans q⟩
    ·rw[upd_ne (w b o e).1]
     exact B.free b o e nb hx
    ·obtain⟨o',q⟩:=B.there b o e hx
     exact⟨o',(L.2 b (w b o e).2).trans q⟩
    ·rw[upd_ne (aK e h2D)]
     exact B.tups b xs e
    ·rw[upd_ne (aK e h2D)]
     exact B.frzs b o u e
    ·obtain⟨m,q⟩:=B.tbls b ps e
     exact⟨m,by rw[upd_ne (aK e h2D)];exact q⟩
    ·obtain⟨q0,q1,q2,q3,q4,q5⟩:=f2 b hb
     exact⟨q3,q1,q4,q5⟩
   ·-- a turn
    have hA:X'.A=X.A:=by rw[<-d];rfl
    have hP:X'.prog=X.prog:=by rw[<-d];rfl
    have hw:X'.w=X.w:=by rw[<-d];rfl
    have hE:X'.env=qhd j f (D+1) X.env:=by rw[<-d];rfl
    have hxe:X'.xe=λ_ _=>False:=by rw[<-d];rfl
    have TI':=T.item X' hP hw (by rw[<-d];rfl) (by rw[<-d];exact hc) i _ s4 (emb σ) H4 (λ_ _=>False) I4 (M fr4 E) st4 go;rw[hA]at TI';refine thn TI' λr s5 ⟨u,hr,h5⟩=>?_;subst hr;refine thn h5 λ_ s6 ⟨x,H6,I6,r6,y6,st6,fr6⟩=>?_;have I6':=I6.pinned (M fr6 E) (T.obj _ _ st6);have G:=hg f R H2 (D+1) A;have TT':=ht f R H2 (D+1) A;have EE:=he f R H2 (D+1) A;rw[d]at G TT' EE;have G':=G _ s6 (emb σ) H6 x u _ I6' r6 (step x H6 y6);rw[hA,hP,hw,hE,hxe]at G';refine thn G' λ_ s7 ⟨σ7,H7,I7,Y,q7⟩=>?_;have T':=TT' _ s7 σ7 H7 _ I7 q7;rw[hA,hP,hw,hE,hxe]at T';refine thn T' λok s8 ⟨H8,I8,q8⟩=>?_
    -- what is pinned
    have t:∀ {σ9:St}{H9:Hp}{P:qai},Inv X' ([(D,({ cls:=.type "list",data:=.seq l.toArray k }:Obj))]++nX A s6.heap) σ9 H9 P->tn (i+1) P.heap/\∀ b∈A,H9 b=none:=λ{σ9 H9 P} I9=>
     ⟨T.keep _ _ _ st6 λb hb o e=>(I9.pin (b,o) (qav _ (qav _ (cB hb e)))).1,λb hb=>by
      obtain⟨o,e,_⟩:=T.obj _ _ st6 b hb
      exact (I9.pin (b,o) (qav _ (qav _ (cB hb e)))).2.1⟩
    cases ok with
    |false=>
     rw[iFN (by decide)]at q8;rw[iFN (by decide)];obtain⟨m',hm,w8⟩:=hN _ _ q8;exact⟨m',hm,i+1,V,l,k,H8,I8.unpinned.weak Y.1 Y.2,rv,(t I8).1,(t I8).2,hlen,w8⟩
    |true=>
     rw[iFP U]at q8;rw[iFP U];have E':=EE _ s8 σ7 H8 _ I8 q8;rw[hA,hP,hw,hE,hxe]at E';refine thn E' λy P ⟨v9,H9,I9,r9,n9⟩=>?_;obtain⟨m',hm,w9⟩:=hN _ _ n9;have F:=I9.pin (D,{ cls:=.type "list",data:=.seq l.toArray k }) (qav _ (qaV _ qag))
     have hl:=rv.length;have I9n:Inv X' [] σ7 H9 P:=I9.pins_of λp K=>nomatch K
     refine qcS qfu ⟨_,F.1,U⟩ qfh (qe7 _ _) (qfe D l.toArray k y (by rw[qaG];lia)) ⟨F.1,?_⟩;have up:∃ k':Nat,(P.heap.update D (qcI λxs=>xs.push y)).get? D=some { cls:=.type "list",data:=.seq (l++[y]).toArray k' }:=by
      have q:=qe6 F.1 (λxs:Array Value=>xs.push y);simp only[qhr]at q;exact⟨_,q⟩
     obtain⟨k',up⟩:=up;have hoth:∀ b o,b≠D->P.heap.get? b=some o->(P.heap.update D (qcI λxs=>xs.push y)).get? b=some o:=λb o hb e=>(qaP P.heap _ (qbk hb)).trans e;have I10:=I9n.turned (t':=P.toks) hoth F.2.1 Dloc Dex Dcell (λp K=>absurd (show p∈([]:List (Addr×Obj)) by rw[<-d]at K;exact K) (by simp));refine⟨m',hm,i+1,V++[v9],l++[y],k',H9,(I10.weak Y.1 Y.2).pins_of (λp K=>?_),rv.append (.cons r9 .nil),T.keep _ _ _ (t I9).1 (λb hb o e=>hoth b o (by rw[<-hD];exact qax (fplt b hb)) e),(t I9).2,?_,w9⟩
     ·have:=qal.mp K
      subst this;exact⟨up,F.2.1,Dloc,(pD.2.2.2.1),λv z=>by cases z⟩
     ·rw[qaz,qbI]
      lia
  ·rw[<-hlo.symm]
   exact I3
  ·exact T.keep _ _ _ st2 λb hb o e=>qc5 _ _ b o (qaf _ (qaf _ e))
 refine qhp ?_ ?_
 ·exact O _ U
 ·refine T.self X.A 0 _ _ _ (T.keep _ _ _ st2 λb hb o e=>qc5 _ _ b o (qaf _ (qaf _ e))) ?_
  exact O _ U
end
end L2
namespace L2
open PySem PySem.Spec PyProof.Rows
open PySem.AutoSeq1 (wpAny_loadPart')
section
variable {prog:qaM}{w:World}{A:qaY}{E:Value->qai->Prop}{s:qai}
theorem eU {c l:Addr}{i:Nat}{items}{x:Value}{Q:Value->qai->Prop} (b:s.heap.IsTupleIter c l i)
  (y:s.heap.IsTuple l items) (p:items[i]?=some x)
  (t:∀ h',h'.IsTupleIter c l (i+1)->qdk c s.heap h'->Q x { s with heap:=h' }) :
  wpAny (model prog w) A (qcC (.ref c)) Q E s:=by
 obtain⟨o,d,B,hd⟩:=id b;obtain⟨C,g,_,D,f⟩:=y
 refine qab (qbL b.typeIs qc9
  (qbU qc9 b.typeIs qgl ?_ (qgf _)))
 show wpAny _ _ (field _ 0 >>= _) _ _ s;refine qab (qb9 d hd (x:=.ref l) U ?_);refine qab (qb9 d hd U ?_);refine qab (qbK g f ?_);simp only[qa6,p];refine qab (qfk d hd (by simp) (qan ⟨x,U,qan (t _ ?_ (qdD ..))⟩))
 exact⟨_,qb7 _ d (qgN (qd8 hd _)),(qhF ..).trans B,by
  rw[qd8 hd];simp[qgv]⟩
theorem fM {c l:Addr}{i:Nat}{items}{Q:Value->qai->Prop} (n:A.handled=none)
  (b:s.heap.IsTupleIter c l i) (y:s.heap.IsTuple l items) (p:items[i]?=none)
  (u:∀ h' e,qg5 c s.heap h'->(∃ o,h'.get? e=some o/\o.cls=.type "StopIteration")->E (.ref e) { s with heap:=h' }) :
  wpAny (model prog w) A (qcC (.ref c)) Q E s:=by
 obtain⟨o,d,B,hd⟩:=id b;obtain⟨C,g,_,D,f⟩:=y
 refine qab (qbL b.typeIs qc9
  (qbU qc9 b.typeIs qgl ?_ (qgf _)))
 show wpAny _ _ (field _ 0 >>= _) _ _ s;refine qab (qb9 d hd (x:=.ref l) U ?_);refine qab (qb9 d hd U ?_);refine qab (qbK g f ?_);simp only[qa6,p];refine qab (qds (qab (qfk d hd (by simp) ?_)));refine qab ?_;refine qab (m:=qjW _ _) (wpAny_of_eq (a:=Value.none) (by first|rfl|(rfl)) ?_)
 refine qb8 ?_ (by size_fits);refine qab (wpAny_handled ?_)
 first|rw[n]|rw[n]
 refine qab (qan (wpAny_throw ?_));exact u _ _ (((qdD ..).extBut.push _).push _) ⟨_,qas _ U,U⟩
theorem gT (n:A.handled=none) (c l:Addr) (q:l≠c) (items:Array Value) :
  Draws prog w A c [c,l] items.size (λi v=>items[i]?=some v) (λi h=>h.IsTupleIter c l i/\h.IsTuple l items) where
 live:=λ_ _ st=>let ⟨o,d,_⟩:=st.1;⟨o,d⟩
 frame:=λ_ _ _ st z=>⟨st.1.at λo e=>z c (by simp) o e,by
  obtain⟨o,e,r⟩:=st.2
  exact⟨o,z l (by simp) o e,r⟩⟩
 item:=λi s Q E hi st t=>by
  refine eU st.1 st.2 (x:=items[i]) (by simp[hi]) λh' k j=>?_;refine t _ h' s.toks (by simp[hi]) ⟨k,?_⟩ j;obtain⟨o,e,r⟩:=st.2;exact⟨o,(j.2 l q).trans e,r⟩
 done:=λs Q E st u=>fM n st.1 st.2 (by simp) u
end
theorem ir (l:Addr) (items:Array Value) (n:Nat) (dct:Option Addr) (f:Array (Option Value)) :
  Meets (qe9.«enumerate.__new__» ⟨[.type "enumerate",.ref l],[]⟩) (λ_ R s=>s.heap.get? l=some { cls:=.type "tuple",dict:=dct,data:=.seq items n,slots:=f }/\
   R (.ok (.ret (.ref (s.heap.push { cls:=.type "tuple_iterator",data:=.fields #[.ref l,.int 0 0] }).objs.size)))
    { s with heap:=(s.heap.push { cls:=.type "tuple_iterator",data:=.fields #[.ref l,.int 0 0] }).push { cls:=.type "enumerate",data:=.fields #[.none,.bool false,.ref s.heap.objs.size,qgv 0,.none,.none] } }):=
 .of_wp λprog w A R s h=>by
  obtain⟨j,g,d,i,os⟩:=s;obtain⟨a,h⟩:=h;have e:=sub_enumerate;have b:Heap.IsTuple _ l items:=⟨_,a,U,n,U⟩
  wp_walk using wpAny_loadPart' a
  refine wpAny_stack_any λst=>qan ?_;split
  ·rename_i c _ _ _ _ _
   cases (c==Value.type "enumerate")
   ·wp_walk using wpAny_loadPart' a,qc0 b
    exact⟨_,U,h⟩
   ·wp_walk using wpAny_loadPart' a,qc0 b
    exact⟨_,U,h⟩
  ·wp_walk using wpAny_loadPart' a,qc0 b
   exact⟨_,U,h⟩
theorem gQ {prog:qaM}{w:World}{A:qaY}{E:Value->qai->Prop}{s:qai}{l:Addr}{items:Array Value}{Q:Value->qai->Prop} (i:s.heap.IsTuple l items)
  (h:∀ h',IsEnum h' (s.heap.objs.size+1) s.heap.objs.size 0 .none->h'.IsTupleIter s.heap.objs.size l 0->h'.objs.size=s.heap.objs.size+2->
    (∀ b o,s.heap.get? b=some o->h'.get? b=some o)->Q (.ref (s.heap.objs.size+1)) { s with heap:=h' }) :
  wpAny (model prog w) A (call (.type "enumerate") [.ref l]) Q E s:=by
 obtain⟨⟨c,dct,dt,e⟩,g,f,n,hd⟩:=i;subst f hd;refine callType_new F.called_enumerate (by decide) (F.typeCall_enumerate_1 _) (F.newCall_enumerate_1 _) (λobj=>F.args_object_init_2 obj _) F.entry_enumerate_new
  (ir l items n dct e) ⟨g,?_⟩
 have a:(s.heap.push { cls:=.type "tuple_iterator",data:=.fields #[.ref l,.int 0 0] }).objs.size=s.heap.objs.size+1:=qbj ..
 rw[a];have d:=by
  have:=qas (s.heap.push { cls:=.type "tuple_iterator",data:=.fields #[.ref l,.int 0 0] })
   (o:={ cls:=.type "enumerate",data:=.fields #[.none,.bool false,.ref s.heap.objs.size,qgv 0,.none,.none] }) U
  rw[a]at this;exact this
 refine⟨⟨_,d,U⟩,h _ d ⟨_,qaf _ (qas _ U),U,U⟩ (by rw[qbj,a]) λb o x=>qaf _ (qaf _ x)⟩
section
variable {X:Cx}{a:List (Addr×Obj)}{l:St}{H:Hp}{s:qai}{h':Heap}{i:List Addr}
theorem iY.ch (g:∀ b∈i,iY X a H b):∀ b∈i,(b∈X.ex\/X.s₀.heap.objs.size<=b)/\b≠X.env.locals/\(∀ x c,X.env.cells.lookup x=some c->c≠b)/\∀ p∈X.pn++a,p.1≠b:=λb hb=>
 let ⟨_,f1,_,f3,f4,f5⟩:=g b hb
 ⟨f3,f1,f4,f5⟩
theorem Inv.turns {t':Nat} (I:Inv X a l H s) (g:∀ b∈i,iY X a H b) (k:∀ b o,b∉i->s.heap.get? b=some o->h'.get? b=some o):Inv X a l H { s with heap:=h',toks:=t' }:=by
 have f:∀ b u,H b=some u->b∉i:=λb u e z=>by have:=(g b z).1;rw[e]at this;cases this
 refine I.step (iY.ch g) (λb o _ _ d e _=>k b o d e) (λb o _ _ d e _=>⟨o.slots,k b o d e⟩) (λ_ _ _ _ n=>n)
  (λb o d e=>⟨o,k b o d e⟩) (λ_ _ e=>e) (λ_ _ _ e=>e) (λb ps e=>⟨#[],by rw[e];simp⟩) (λm hm=>?_) (λb u e=>?_) I.bare
 ·obtain⟨o,es,t,w,r⟩:=hm
  exact⟨o,es,t,k _ o (λz=>(g _ z).2.1 U) w,r⟩
 ·refine (I.hok b u e).stay (λc v d q=>k c v ?_ q) (λ_ q=>q) λ_ _ q=>q
  rcases d with z|z
  ·rw[z];exact f b u e
  ·exact f c _ z
theorem Inv.turnsT {t':Nat}{T:Addr}{xs:List V}{j:Array Value} (I:Inv X a l H s) (g:∀ b∈i,iY X a H b) (k:∀ b o,b∉i->s.heap.get? b=some o->h'.get? b=some o)
  (y:s.heap.objs.size<=T) (B:fg h' T j) (C:aH xs j.toList) (A:xs.length<=qaJ):Inv X a l (upd H T (.tup xs)) { s with heap:=h',toks:=t' }:=by
 have f:∀ b u,H b=some u->b∉i:=λb u e z=>by have:=(g b z).1;rw[e]at this;cases this
 have h:=I.hok.fresh y;refine I.step (iY.ch g) (λb o _ _ d e _=>k b o d e) (λb o _ _ d e _=>⟨o.slots,k b o d e⟩) (λb o _ e n=>by rw[upd_ne ((λb o e=>qax (qaQ (qau e) y)) b o e)];exact n)
  (λb o d e=>⟨o,k b o d e⟩) (λb _ e=>by rw[upd_ne (aK e h)];exact e) (λb _ _ e=>by rw[upd_ne (aK e h)];exact e) (λb ps e=>⟨#[],by rw[upd_ne (aK e h),e];simp⟩) (λm hm=>?_) (λb u e=>?_) I.bare
 ·obtain⟨o,es,t,w,r⟩:=hm
  exact⟨o,es,t,k _ o (λz=>(g _ z).2.1 U) w,r⟩
 ·by_cases hb:b=T
  ·subst hb
   rw[upd_same]at e;cases e;refine⟨A,j.toList,C,?_⟩;simpa using B
  ·rw[upd_ne hb]at e
   refine (I.hok b u e).stay (λc v d q=>k c v ?_ q) (λc q=>?_) λc z q=>?_
   ·rcases d with z|z
    ·rw[z];exact f b u e
    ·exact f c _ z
   all_goals first
    |(rw[upd_ne (aK q h)];exact q)
    |(exact z)
end
def Ite (S:Hp->List V->Prop):It:=
 ⟨λi H=>∃ xs x,S H xs/\xs[i]?=some x,λi H x H'=>∃ T v,(∀ xs,S H xs->xs[i]?=some v)/\H T=none/\x=.ref T/\H'=upd H T (.tup [.int i,v]),λi H=>∃ xs,S H xs/\xs.length=i⟩
theorem ve {P:qaM}{w:World}{K:qae}{n:List Expr}{k:Nat}{pos:Pos} (a f e:Addr) (l:e≠f) (L:a≠e) (G:a≠f) :
  uo P w K (.Tuple n k pos) (Ite λH xs=>SqL K H a xs) [e,f] e (λi h=>(∃ g,IsEnum h e f i g)/\h.IsListIter f a i) where
 mem:=by simp
 obj:=λi h st b hb=>by
  rcases qay.mp hb with rfl|hb
  ·obtain⟨⟨g,q⟩,_⟩:=st
   exact⟨_,q,λv z=>by cases z⟩
  ·rw[qal.mp hb]
   obtain⟨_,o,e,c,d⟩:=st;exact⟨o,e,λv z=>by rw[d]at z;cases z⟩
 keep:=λi h h' st O=>⟨let ⟨g,q⟩:=st.1;⟨g,O e (by simp) _ q⟩,st.2.at λo q=>O f (by simp) o q⟩
 item:=by
  intro X R hw V Q i J s σ H E I N st hg;subst R hw V;obtain⟨xs,x,M,hx⟩:=hg;obtain⟨j,S,p,hz⟩:=I.list M;obtain⟨u,hu,ru⟩:=S.get hx;have W:=qfa (qjx (prog:=X.prog) (w:=X.w) (A:=X.A.in1) (I.ok.hd Q) f a G j.toArray) e l (by simp[l,qbk L]) (by simp);have hi:=by
   simpa using ((qar.mp hu).1)
  obtain⟨⟨ol,C⟩,m⟩:=st;refine qg7 (qjx (A:=X.A.in1) (I.ok.hd Q) f a G j.toArray) C ⟨m,p.isList⟩ hi l (by simp[l,qbk L]) λy h1 t hy ho hs' ht hsz hk=>⟨_,U,?_⟩;have hm:(λ_ (T) (h)=>(∃ x,IsEnumOut h e f _ x T)/\_/\T≠e/\T≠f) i s.heap.objs.size h1:=⟨⟨_,ho⟩,hs',qcg (qau C),qcg (let ⟨_,q,_⟩:=m;qau q)⟩;have O:∀ b o,b∉[e,f]->s.heap.get? b=some o->h1.get? b=some o:=λb o hb q=>hk b o (λz=>hb (by simp[z])) (λz=>hb (by simp[z])) q;generalize eT:s.heap.objs.size=T at ht ho hm ⊢;have hT:=qdK eT;have r:∃ tk,tk=t+1:=⟨_,U⟩;obtain⟨tk,r⟩:=r;rw[<-r];have ey:=by
   have B:=by simpa using hy
   rw[hu]at B;exact (qaL B).symm
  subst ey;refine W.go n k pos i T _ _ _ hm λh2 F D=>?_;have nT:=W.apart i T _ hm;refine⟨.ref T,_,?_,U,⟨T,x,λys hy=>by rw[I.list_inj hy M];exact hx,I.hok.fresh hT,U,U⟩,⟨F.1,F.2.1⟩,λb hb=>?_⟩
  ·exact (I.turnsT N (λb o hb q=>D b o hb (O b o hb q)) hT ⟨_,D T _ nT ht,U,⟨_,U⟩,U⟩ (.cons ⟨t,U⟩ (.cons ru .nil)) (by show 2<=qaJ;decide))
  ·rw[upd_ne (show b≠T from λz=>nT (z ▸ hb))]
   exact (N b hb).1
 done:=by
  intro X R hw V Q i J s σ H E I N st hg;subst R hw V;obtain⟨xs,M,hx⟩:=hg;obtain⟨j,S,p,hz⟩:=I.list M;have hl:=S.length;have hx':j.toArray[i]?=none:=by simp;lia
  obtain⟨⟨g,Y⟩,hit⟩:=st
  -- the end at place i
  refine wpAny_pyNext_enum_end (I.ok.hd Q) Y hit p.isList hx' λh' eb=>⟨U,?_⟩;exact I.turns N λb o hb q=>eb b o (by simp at hb;exact hb.2) q
 self:=λ_ _ _ _ _ st h=>let ⟨⟨_,Y⟩,_⟩:=st;qey Y h
theorem vf {P:qaM}{w:World}{K:qae}{n:List Expr}{k:Nat}{pos:Pos} (a g e:Addr) (f:e≠g) (B:a≠e) (r:a≠g) :
  uo P w K (.Tuple n k pos) (Ite λH xs=>SqT K H a xs) [e,g] e (λi h=>(∃ l,IsEnum h e g i l)/\h.IsTupleIter g a i) where
 mem:=by simp
 obj:=λi h st b hb=>by
  rcases qay.mp hb with rfl|hb
  ·obtain⟨⟨l,q⟩,_⟩:=st
   exact⟨_,q,λv z=>by cases z⟩
  ·rw[qal.mp hb]
   obtain⟨_,o,e,c,d⟩:=st;exact⟨o,e,λv z=>by rw[d]at z;cases z⟩
 keep:=λi h h' st C=>⟨let ⟨l,q⟩:=st.1;⟨l,C e (by simp) _ q⟩,st.2.at λo q=>C g (by simp) o q⟩
 item:=by
  intro X R hw V Q i M s σ H E I O st hg;subst R hw V;obtain⟨xs,x,N,Y⟩:=hg;obtain⟨j,S,p,hz⟩:=I.tuple N;obtain⟨u,hu,ru⟩:=S.get Y;have W:=qfa (gT (prog:=X.prog) (w:=X.w) (A:=X.A.in1) (I.ok.hd Q) g a r j.toArray) e f (by simp[f,qbk B]) (by simp);have hi:=by
   simpa using ((qar.mp hu).1)
  obtain⟨⟨ol,F⟩,m⟩:=st;refine qg7 (gT (A:=X.A.in1) (I.ok.hd Q) g a r j.toArray) F ⟨m,p⟩ hi f (by simp[f,qbk B]) λy h1 t hy ho hs' ht hsz hk=>⟨_,U,?_⟩;have hm:(λ_ (T) (h)=>(∃ x,IsEnumOut h e g _ x T)/\_/\T≠e/\T≠g) i s.heap.objs.size h1:=⟨⟨_,ho⟩,hs',qcg (qau F),qcg (let ⟨_,q,_⟩:=m;qau q)⟩;have C:∀ b o,b∉[e,g]->s.heap.get? b=some o->h1.get? b=some o:=λb o hb q=>hk b o (λz=>hb (by simp[z])) (λz=>hb (by simp[z])) q;generalize eT:s.heap.objs.size=T at ht ho hm ⊢;have hT:=qdK eT;have L:∃ tk,tk=t+1:=⟨_,U⟩;obtain⟨tk,L⟩:=L;have ey:=by
   have D:=by simpa using hy
   rw[hu]at D;exact (qaL D).symm
  subst ey;refine W.go n k pos i T _ _ _ hm λh2 J G=>?_;have nT:=W.apart i T _ hm;refine⟨.ref T,_,?_,U,⟨T,x,λys hy=>by rw[I.tuple_inj hy N];exact Y,I.hok.fresh hT,U,U⟩,⟨J.1,J.2.1⟩,λb hb=>?_⟩
  ·exact (I.turnsT O (λb o hb q=>G b o hb (C b o hb q)) hT ⟨_,G T _ nT ht,U,⟨_,U⟩,U⟩ (.cons ⟨t,U⟩ (.cons ru .nil)) (by show 2<=qaJ;decide))
  ·rw[upd_ne (show b≠T from λz=>nT (z ▸ hb))]
   exact (O b hb).1
 done:=by
  intro X R hw V Q i M s σ H E I O st hg;subst R hw V;obtain⟨xs,N,Y⟩:=hg;obtain⟨j,S,p,hz⟩:=I.tuple N;have hl:=S.length;have hi:i=j.toArray.size:=by simp;lia
  subst hi;refine (qfa (gT (A:=X.A.in1) (I.ok.hd Q) g a r j.toArray) e f (by simp[f,qbk B]) (by simp)).done s _ _ ⟨st.1,st.2,p⟩ λh' tk C=>⟨U,I.turns O C⟩
 self:=λ_ _ _ _ _ st h=>let ⟨⟨_,he⟩,_⟩:=st;qey he h
section
variable {X:Cx}
def Di (K:qae) (y:TA):TI:=λB H R=>y B H λO H1=>∃ a,O=[.ref a]/\(∃ xs,SqL K H1 a xs)/\R (Ite λH xs=>SqL K H a xs) H1
theorem zI {g:List Expr}{k:Nat}{j:Pos}{a:Expr}{y:TA}{p pos:Pos} (hg:Gl X "enumerate") (hm:X.mg "enumerate" = none) (ha:PA X [a] y) (T:qbD [a] X.env=[(false,eval a X.env)]:=by rfl) :
  PI X (.Tuple g k j) (.Call (.Name "enumerate" p) [a] [] pos) (Di X.K y):=by
 intro c s B H R I h;refine Call_ (jn I hg hm qjX (qcc (thn (ha pos c s B H _ I h) λC s1 ⟨O,H1,I1,r1,q1⟩=>?_) T U));obtain⟨l,e,⟨xs,D⟩,q⟩:=q1;subst e;cases r1 with
 |cons r x=>
  cases x;cases r;obtain⟨w,m,G,S⟩:=I1.list D;refine call_enumerate_list G.isList λh' N E Y F=>qey N ?_;have d:l<s1.heap.objs.size:=by obtain⟨_,_,e,_⟩:=G;exact qau e
  refine⟨_,_,_,_,H1,U,I1.kept F,ve l s1.heap.objs.size _ (qev _) (qax (qaZ d)) (qax d),⟨⟨_,N⟩,E⟩,λb hb=>?_,q⟩;have f:s1.heap.objs.size<=b:=by
   rcases qay.mp hb with e|hb
   ·rw[e];exact qcW _
   ·rw[qal.mp hb];exact qao _
  exact I1.fpOk f (I1.hok.fresh f)
def Dj (K:qae) (y:TA):TI:=λB H R=>y B H λO H1=>∃ a,O=[.ref a]/\(∃ xs,SqT K H1 a xs)/\R (Ite λH xs=>SqT K H a xs) H1
theorem zJ {g:List Expr}{k:Nat}{j:Pos}{a:Expr}{y:TA}{p pos:Pos} (hg:Gl X "enumerate") (hm:X.mg "enumerate" = none) (ha:PA X [a] y) (T:qbD [a] X.env=[(false,eval a X.env)]:=by rfl) :
  PI X (.Tuple g k j) (.Call (.Name "enumerate" p) [a] [] pos) (Dj X.K y):=by
 intro c s B H R I h;refine Call_ (jn I hg hm qjX (qcc (thn (ha pos c s B H _ I h) λC s1 ⟨O,H1,I1,r1,q1⟩=>?_) T U));obtain⟨l,e,⟨xs,D⟩,q⟩:=q1;subst e;cases r1 with
 |cons r x=>
  cases x;cases r;obtain⟨w,m,G,S⟩:=I1.tuple D;refine gQ G λh' N E Y F=>qey N ?_;have d:l<s1.heap.objs.size:=by obtain⟨_,e,_⟩:=G;exact qau e
  refine⟨_,_,_,_,H1,U,I1.kept F,vf l s1.heap.objs.size _ (qev _) (qax (qaZ d)) (qax d),⟨⟨_,N⟩,E⟩,λb hb=>?_,q⟩;have f:s1.heap.objs.size<=b:=by
   rcases qay.mp hb with e|hb
   ·rw[e];exact qcW _
   ·rw[qal.mp hb];exact qao _
  exact I1.fpOk f (I1.hok.fresh f)
theorem ou {ns:List Int}:∀ {C:List Value},aH (ns.map V.int) C->∃ xs:Array (Int×Tok),C.toArray=intItems xs/\xs.toList.map (·.1)=ns:=by
 induction ns with
 |nil=>intro C r;cases r;exact⟨#[],by simp[intItems],U⟩
 |cons n ns ih=>
  intro C r;cases r with
  |cons r x=>
   obtain⟨t,rfl⟩:=r;obtain⟨xs,e,W⟩:=ih x;refine⟨#[(n,t)]++xs,?_,by simp[W]⟩;have e':=congrArg qgD e;simp[intItems]at e' ⊢;exact e'
theorem yB:bE X (.builtin "sum") (λxs H Q=>X.calm=true/\∃ (a:Addr) (ns:List Int),xs=[.ref a]/\SqL X.K H a (ns.map V.int)/\Q (.int ns.sum) H):=by
 intro c s B H xs C Q I m h;obtain⟨hc,a,ns,rfl,D,q⟩:=h;cases m with
 |cons r x=>
  cases x;cases r;obtain⟨w,m,p,S⟩:=I.list D;obtain⟨ps,e1,W⟩:=ou m;have hl:=p.isList;rw[e1]at hl;refine sum_intListG (I.ok.hd hc) hl λh' tk t' F=>?_;refine⟨.int ns.sum,H,I.kept F,⟨t',?_⟩,q⟩;rw[preSum_eq,qdx (by simp),W]
theorem yA:bE X (.builtin "all") (λxs H Q=>X.calm=true/\∃ (a:Addr) (bs:List Bool),xs=[.ref a]/\SqL X.K H a (bs.map V.bl)/\Q (.bl (bs.all id)) H):=by
 intro c s B H xs C Q I m h;obtain⟨hc,a,bs,rfl,D,q⟩:=h;cases m with
 |cons r x=>
  cases x;cases r;obtain⟨w,m,p,S⟩:=I.list D;have d:a<s.heap.objs.size:=by obtain⟨_,_,e,_⟩:=p;exact qau e
  have P:=by have:=m.length;simpa using this.symm
  refine call_all_walk (qdO p.isList ?_);refine⟨s.heap.objs.size,_,_,_,_,_,λi=>(bs[i]?).getD true,U,Walks.list (A:=X.A.in1) (I.ok.hd hc) s.heap.objs.size a (qax d) w.toArray,⟨⟨_,qas _ U,U,U⟩,p.isList.push _⟩,?_,λh' tk F=>?_⟩
  ·intro i v s' Q' E' hv hQ'
   have L:=by simpa using hv
   have hi:=(qar.mp L).1;obtain⟨b,hb⟩:∃ b,bs[i]?=some b:=⟨bs[i]'(by lia),by simp[show i<bs.length by lia]⟩
   have:(bs.map V.bl)[i]?=some (.bl b):=by rw[qaA,hb];rfl
   obtain⟨u,hu,ru⟩:=m.get this;rw[L]at hu;cases hu;cases ru;have J:Q' ((bs[i]?).getD true) s':=hQ';rw[hb]at J;exact qcm J
  ·refine⟨_,H,I.kept (λb o e=>F b o (λz=>absurd (qau e) (by rw[qal.mp z];exact qa2 _)) (qaf _ e)),?_,q⟩
   congr 1
   have:∀ n,n=bs.length->((qak n).all λi=>(bs[i]?).getD true)=bs.all id:=by
    intro n hn;rw[qeG,qa3,qa3];constructor
    ·intro h b hb
     obtain⟨i,hi,e⟩:=qc1.mp hb
     have:=h i (qaN.mpr (by lia))
     simp[hi,e]at this;exact this
    ·intro h i hi
     have hi':=qaN.mp hi;have M:i<bs.length:=by lia
     simp[M];exact h _ (qbQ _)
   exact this _ (by simpa using P)
end
def fE (k:Nat) (js:List Nat) (a:St):St:=qaH k none++js.map λj=>(a[j]?).getD none
def uL (a:Scope) (ns:List (Str×qb0)) (N Nc:List Str) (k:Nat) (js:List Nat):Bool:=
 decide ((a.names.map (·.1)).Nodup)&&decide Nc.Nodup&&decide (Nc.length=k+js.length) &&
 (a.names.all λx=>x.2 != .free||ns.lookup x.1==some .cell||ns.lookup x.1==some .free) &&
 ((qak js.length).all λi=>match Nc[k+i]?,js[i]? with|some x,some j=>N[j]?==some x&&a.names.lookup x==some .free|_,_=>false)
theorem sY {X:Cx}{a:Scope} (ns:List (Str×qb0)) (N Nc:List Str) (k:Nat) (js:List Nat) (hns:X.env.scope.names=ns) (hN:X.N=N) (s:a.kind=.function) (h:uL a ns N Nc k js=true):dE X a Nc (fE k js):=by
 unfold uL at h;simp only[qa8,decide_eq_true_eq]at h;obtain⟨⟨⟨⟨f,l⟩,r⟩,q⟩,p⟩:=h;refine⟨s,f,l,λx m g=>?_,λe _=>?_,λe _ i x v n b=>?_⟩
 ·have:=qa3.mp q x m
  rw[g]at this;simp only[qhR,beq_iff_eq,bne_self_eq_false,qbm,false_or]at this;unfold qk2;rw[hns];exact this
 ·unfold fE
  rw[qaz,qcT,qah,r]
 ·unfold fE at b
  by_cases hi:i<k
  ·rw[qaD (by simpa using hi),qdo,iFP hi]at b
   cases b
  ·rw[qaK (by simpa using hi),qcT,qaA]at b
   cases ej:js[i - k]? with
   |none=>rw[ej]at b;cases b
   |some j=>
    rw[ej]at b;have d:=(qar.mp ej).1
    have:=qa3.mp p _ (qaN.mpr d)
    rw[show k+_=i by lia,n,ej]at this;simp only[qa8,beq_iff_eq]at this;refine⟨j,by rw[hN];exact this.1,?_,this.2⟩;have c:(e[j]?).getD none=some v:=qaL b;cases eq:e[j]? with
    |none=>rw[eq]at c;cases c
    |some o=>rw[eq]at c;rw[show o=some v from c]
def Ab (names ns:List (Str×qb0)):List (Str×qb0):=names.map λx=>if (x.2==NameKind.free&&ns.lookup x.1==some .cell) then (x.1,.cell) else x
theorem mn {X:Cx}{a:Scope}{b:List (Str×Addr)}{Nc:List Str}{s:qai}{H:Hp}{C:Addr}{c:List Addr}{ns:List (Str×qb0)} (d:X.env.scope.kind=.function) (hns:X.env.scope.names=ns) :
  (lcX X a b Nc s H C c).env.scope.names=Ab a.names ns:=by
 show (a.names.map _)=_
 congr 1
 funext x
 obtain⟨n,k⟩:=x;show (if _=true then (n,NameKind.cell) else (n,k))=_;unfold qk2;rw[d,hns,show (ScopeKind.function==ScopeKind.function)=true from U,qik]
section
variable {a tl:St}{tt:TT}{te:TE}{H:Hp}{Q:VK}
end
section
variable {X:Cx}
theorem BC:OpR X (qbH .Mult) (rI qgp λi j=>.int (i*j)):=opI λ_ _ _ _ _ _ _ a q=>mul_int q a
end
theorem aQ.new {H:Hp}{p:Addr} (h:H p=none) (o:HO):aQ H (upd H p o):=λb u q=>by rw[upd_ne (aK q h)];exact q
theorem iW {n:Nat} (h:n<=1000):n<=qaJ:=qeM (yg h)
theorem Ar (l:Addr) (items:Array Value) (n:Nat) (dct:Option Addr) (a:Array (Option Value)) (u:Tok) :
  Meets (qe9.«tuple.__mul__» ⟨[.ref l,.int 1 u],[]⟩) (λ_ R s=>s.heap.get? l=some { cls:=.type "tuple",dict:=dct,data:=.seq items n,slots:=a }/\R (.ok (.ret (.ref l))) s):=
 .of_wp λprog w A R s h=>by
  obtain⟨b,h⟩:=h
  wp_walk using wpAny_loadPart' b
  exact⟨_,U,h⟩
theorem yi (l:Addr) (items:Array Value) (n:Nat) (dct:Option Addr) (f:Array (Option Value)) (x:Int) (u:Tok) (k:2<=x) (m:x<1000) (c:items.isEmpty=false) (j:items.size<=1000)
  (i:((qaH x.toNat items).foldl (λb a=>b++a) #[]).size<=qaJ) :
  Meets (qe9.«tuple.__mul__» ⟨[.ref l,.int x u],[]⟩) (λ_ R s=>s.heap.get? l=some { cls:=.type "tuple",dict:=dct,data:=.seq items n,slots:=f }/\
   R (.ok (.ret (.ref s.heap.objs.size))) { s with heap:=s.heap.push { cls:=.type "tuple",data:=.seq ((qaH x.toNat items).foldl (λb a=>b++a) #[]) } }):=
 .of_wp λprog w A R s h=>by
  obtain⟨d,h⟩:=h;have c1:(x < -(2^63)||x>=2^63)=false:=by simp;lia
  have c2:(items.isEmpty||x==1)=false:=by rw[c];simp;lia
  have c3:(x<=0||items.isEmpty)=false:=by rw[c];simp;lia
  have g:(items.size:Int)*x<=1000000:=by
   have p:(items.size:Int)*x<=1000*x:=qfC (by lia) (by lia);lia
  have e:¬ ((items.size:Int)*x > (2^63 - 1) / 8):=by lia
  have o:qiF ((items.size:Int)*x)=false:=by
   exact decide_eq_false (by have:(qaJ:Nat)=16777216:=rfl
                             lia)
  refine qeZ (decide_eq_false (by rw[c1];exact qaB)) ?_
  wp_walk using wpAny_loadPart' d
  refine qeZ (decide_eq_false (by rw[c2];exact qaB)) ?_;refine qeZ (decide_eq_false (by rw[c3];exact qaB)) ?_;refine qeZ (decide_eq_false e) ?_
  wp_walk using wpAny_loadPart' d
  exact⟨_,U,h⟩
theorem yj (l:Addr) (items:Array Value) (n:Nat) (dct:Option Addr) (a:Array (Option Value)) (u:Tok) (c:items.isEmpty=false) :
  Meets (qe9.«tuple.__mul__» ⟨[.ref l,.int 0 u],[]⟩) (λ_ R s=>s.heap.get? l=some { cls:=.type "tuple",dict:=dct,data:=.seq items n,slots:=a }/\R (.ok (.ret (.ref s.heap.objs.size))) { s with heap:=s.heap.push { cls:=.type "tuple",data:=.seq #[] } }):=
 .of_wp λprog w A R s h=>by
  obtain⟨b,h⟩:=h
  wp_walk using wpAny_loadPart' b
  exact⟨_,U,h⟩
theorem kM:fillsNumberSlot (.type "tuple") "mul" = pure false:=
 PySem.fillsNumberSlot_seq qeF.lookup (by decide +kernel) F.slot_tuple_rmul.lookup (by decide +kernel)
theorem rE:seqRepeat? (.type "tuple")=pure (some (.builtin "tuple.__mul__")):=by
 rfl
theorem nj (a:Int) (t:Tok) (l:Addr) (items:Array Value) (n:Nat) (dct:Option Addr) (b:Array (Option Value)) :
  Meets (qe9.«int.__rmul__» ⟨[.int a t,.ref l],[]⟩) (λ_ R s=>s.heap.get? l=some { cls:=.type "tuple",dict:=dct,data:=.seq items n,slots:=b }/\R (.ok (.ret Value.notImplemented)) s):=
 .of_wp λprog w A R s h=>by obtain⟨c,h⟩:=h;wp_walk using wpAny_loadPart' c;exact⟨_,U,h⟩
section
variable {X:Cx}
def Ga (K:qae):R2:=λx y H Q=>∃ l k xs,x=.ref l/\y=.int k/\SqT K H l xs/\xs≠[]/\xs.length<=1000/\0<=k/\k<1000/\(k=1->Q (.ref l) H)/\
 (k≠1->∀ p,H p=none->Q (.ref p) (upd H p (.tup (qaH k.toNat xs).flatten)))
theorem BE:OpR X (qbH .Mult) (Ga X.K):=by
 intro B s P H x y v u Q I G F h;obtain⟨l,k,xs,rfl,rfl,D,g,m,O,E,L,A⟩:=h;cases G;obtain⟨t,rfl⟩:=F;obtain⟨a,z,p,M⟩:=I.tuple D;obtain⟨⟨c,dct,dt,j⟩,e,J,n,hd⟩:=p;subst J hd;have b:=z.length;refine qgK (by decide) ⟨_,e,U⟩ (λs'=>qfW s' k t) kM qiC qeR rE qih.lookup
  (qcS qeR (qfW s k t) qij (qh3 _ _) (nj k t l a.toArray n dct j) ⟨e,U,⟨_,e,U⟩,?_⟩)
 by_cases w:k=1
 ·subst w
  exact qcS qeF ⟨_,e,U⟩ qfM (qfv _ _) (Ar l a.toArray n dct j t) ⟨e,.ref l,H,I,U,L U⟩
 ·have C:=by
   exact (kA a k.toNat [])
  have d:(qaH k.toNat xs).flatten.length<=qaJ:=by
   rw[qR]
   have:k.toNat*xs.length<=1000*1000:=qdd (by lia) m
   have N:qaJ=16777216:=rfl;lia
  have i:(qaH k.toNat a).flatten.length<=qaJ:=by
   rw[qR]at d ⊢;rw[<-b];exact d
  have f:a.toArray.isEmpty=false:=by
   cases a with
   |nil=>cases xs with
    |nil=>exact absurd U g
    |cons _ _=>cases b
   |cons _ _=>rfl
  by_cases r:k=0
  ·subst r
   refine qcS qeF ⟨_,e,U⟩ qfM (qfv _ _) (yj l a.toArray n dct j t f) ⟨e,?_⟩;exact⟨.ref _,_,I.laid (o:=.tup []) (λ_ _ q=>qaf _ q) (qao _) ⟨qcE _,_,.nil,⟨_,qas _ U,U,⟨0,U⟩,U⟩⟩,U,A w _ I.fresh⟩
  refine qcS qeF ⟨_,e,U⟩ qfM (qfv _ _) (yi l a.toArray n dct j k t (by lia) E ?_ (by rw[qaG];lia) (by rw[C];exact i)) ⟨e,?_⟩
  ·cases a with
   |nil=>cases xs with
    |nil=>exact absurd U g
    |cons _ _=>cases b
   |cons _ _=>rfl
  ·rw[C]
   refine⟨.ref _,_,I.laid (o:=.tup (qaH k.toNat xs).flatten) (λ_ _ q=>qaf _ q) (qao _) ⟨d,_,z.rep k.toNat,⟨_,qas _ U,U,⟨0,U⟩,U⟩⟩,U,A w _ I.fresh⟩
end
section
variable {X:Cx}{K:qae}
theorem Fz (f:X.calm=true:=by rfl) (c:X.K=K:=by rfl):bE X (.builtin "sum") (λxs H Q=>∃ (a:Addr) (ns:List Int),xs=[.ref a]/\SqL K H a (ns.map V.int)/\Q (.int ns.sum) H):=by
 subst c;intro b s d H xs e Q I g h;exact yB b s d H xs e Q I g ⟨f,h⟩
theorem Fy (f:X.calm=true:=by rfl) (c:X.K=K:=by rfl):bE X (.builtin "all") (λxs H Q=>∃ (a:Addr) (bs:List Bool),xs=[.ref a]/\SqL K H a (bs.map V.bl)/\Q (.bl (bs.all id)) H):=by
 subst c;intro b s d H xs e Q I g h;exact yA b s d H xs e Q I g ⟨f,h⟩
end
section
variable {X:Cx}
end
theorem eO {n j:Nat} (h:j<n):ixN n (j:Int)=some j:=by
 unfold ixN;rw[iFP (by lia),iFP (by lia),qa6]
section
variable {X:Cx}{e:Expr}{ty:TE}{p1 f j g c a b:Pos}{h d k i:Nat}
end
section
variable {prog:qaM}{w:World}{A:qaY}{E:Value->qai->Prop}{s:qai}
end
section
variable {X:Cx}
theorem Bh:bE X (.type "range") (λxs H Q=>∃ j:Int,xs=[.int j]/\∀ p,H p=none->Q (.ref p) (upd H p (.rng 0 j))):=by
 intro a s d H xs e Q I c h;obtain⟨j,rfl,q⟩:=h;cases c with
 |cons r b=>
  cases b;obtain⟨t,rfl⟩:=r;exact call_range_1 ⟨.ref _,_,I.laid (o:=.rng 0 j) (λ_ _ q=>qaf _ q) (qao _) ⟨_,_,_,qas _ U⟩,U,q _ I.fresh⟩
end
section
variable {prog:qaM}{w:World}{A:qaY}{E:Value->qai->Prop}{s:qai}
end
section
variable {X:Cx}{e:Expr}{te:TE}{p1 a b pos:Pos}{j:Nat}
end
theorem aH.at {xs:List V}{b:List Value} (r:aH xs b):∀ (j:Nat) (h:j<b.length) ,∃ h':j<xs.length,aP xs[j] b[j]:=by
 induction r with
 |nil=>intro j h;exact absurd h (qcV j)
 |cons a t e=>
  intro j h;cases j with
  |zero=>exact⟨Nat.zero_lt_succ _,a⟩
  |succ j=>
   obtain⟨d,c⟩:=e j _;exact⟨Nat.succ_lt_succ d,c⟩
theorem mB (e:Nat->Bool) (n:Nat):(qak (n+1)).all e=(e 0&&(qak n).all λj=>e (j+1)):=by
 rw[qdy,qbE,qgI];rfl
section
variable {X:Cx}{K:qae}{c:List (Addr×Obj)}{d:St}{H:Hp}{s:qai}{A:qaY}{a b:Addr}{xs e:List V}
end
section
variable {X:Cx}{pos p1 b:Pos}{a c:Nat}
end
section
variable {K:qae}{H:Hp}
end
section
variable {X:Cx}{K:qae}
end
end L2
namespace HT
open PySem PySem.Spec PyProof.Rows L2
section
variable {prog:qaM}{w:World}{A:qaY}{E:Value->qai->Prop}{s:qai}
theorem getItem_tuple_all {t i:Addr}{items:Array Value}{f e:Value}{lo hi:Option Int}{Q:Value->qai->Prop} (b:IsTup s.heap t items) (g:s.heap.IsSliceOf i f e .none) (j:qgd f lo) (l:qgd e hi)
  (hw:sIx items.size 0 lo=0/\sIx items.size items.size hi=items.size) (h:Q (.ref t) s):wpAny (model prog w) A (qe3 (.ref t) (.ref i)) Q E s:=by
 obtain⟨os,d,c,k⟩:=id g;unfold qe3
 try with_reducible refine qbT ?_
 refine qab (qim b.typeIs (by decide) ?_)
 refine qab (qbL b.typeIs qbG
  (qbU qbG b.typeIs qhW ?_ (qia _ _)))
 show wpAny _ _ (qeY _ >>= _) _ _ s;refine qab (tupleItemsOf_ b ?_);refine qab (qhw ⟨os,d,c⟩ ?_);refine qab (fR g j l ?_);have a:(((sIx items.size 0 lo):Int)==0&&(1:Int)==1&&(sIx items.size items.size hi - sIx items.size 0 lo)==items.size)=true:=by
  rw[hw.1,hw.2]
  simp
 show wpAny _ _ (if _=true then _ else _) _ _ s;rw[iFP a];refine qab (qab (qhw b.typeIs (qan ?_)))
 first
  |exact qab (qds (qan ⟨_,rfl,qan h⟩))
  |exact qab _
  |exact qab _
  |exact qab _
end
end HT
namespace L2
open PySem PySem.Spec PyProof.Rows
def Gc (K:qae):V->Option Int->Option Int->Hp->VK->Prop:=λx lo hi H Q=>∃ a xs,x=.ref a/\SqT K H a xs/\
 ((¬ (HT.sIx xs.length 0 lo=0/\HT.sIx xs.length xs.length hi=xs.length)/\∀ p,H p=none->Q (.ref p) (upd H p (.tup (uy xs lo hi))))\/
   ((HT.sIx xs.length 0 lo=0/\HT.sIx xs.length xs.length hi=xs.length)/\Q (.ref a) H))
theorem Dz {X:Cx}{K:qae} (n:X.K=K:=by rfl):SlR X (Gc K):=by
 subst n;intro c s o H x v m l lo hi p Q I e g i k h;obtain⟨a,xs,rfl,f,h⟩:=h;rcases h with⟨hw,q⟩|⟨hw,q⟩
 ·exact Es c s o H _ v m l lo hi p Q I e g i k ⟨a,xs,U,f,hw,q⟩
 ·cases e
  obtain⟨d,r,j,t⟩:=I.tuple f;have b:d.toArray.size=xs.length:=by exact r.length.symm
  refine⟨"tuple",_,qbG.lookup,j.typeIs,?_⟩
  exact HT.getItem_tuple_all j g i k (by rw[b];exact hw) ⟨.ref a,H,I,U,q⟩
section
variable {X:Cx}{j:Scope}{Nc:List Str}{emb:St->St}{elt iter tg:Expr}{Y:List Expr}{pos:Pos}{wi:TI}{g:TG}{tt:TT}{te:TE}
theorem CO {i0:Nat}{x0:Str}{py spos:Pos} (hN0:X.N.Nodup) (hi0:X.N[i0]?=some x0) (hx0:Loc X.env.scope x0) (S:dE X j Nc emb) (hc:X.calm=true) (hi:PI X tg iter wi)
  (hg:∀ f s H C A,PG (lcX X j f Nc s H C A) tg g) (ht:∀ f s H C A,PTs (lcX X j f Nc s H C A) Y tt) (he:∀ f s H C A,PE (lcX X j f Nc s H C A) elt te)
  (hsw:qct (.ListComp elt [⟨tg,iter,Y,0⟩] j pos) (some (.Name x0 py)) spos.line X.env=pure true:=by rfl)
  (hf0:X.fn x0=true\/X.env.scope.names.lookup x0=some .local:=by first|exact .inl U|exact .inr U|assumption)
  (hs:∀ x,qbW iter X.env x=pure x:=by intro _;rfl):PS X (.Assign [.Name x0 py] (.ListComp elt [⟨tg,iter,Y,0⟩] j pos) spos) (EB (tLc emb wi g tt te) (sE i0)):=by
 intro B s σ H DD I h;rw[exec_Assign_Name_used _ _ _ _ hsw];refine qab (qeH (qab ?_));refine qab (qcq (qgV U hs (i8 (S.clos I.ok)) S.kind (λx hx hl=>dN S.nd (by rw[<-hl];exact hx)) ?_) (λ_ s' hq=>qan (qan hq)) λ_ _ e=>e);refine thn (hi B s σ H _ I h) λv s1 h1=>thn h1 λitv V h2=>?_;obtain⟨it,A,tn,J,H2,e,I2,T,st2,f2,W,⟨m0,w0⟩,turn⟩:=h2;subst e;refine qb8 (j9 ?_);rw[qbj ..];generalize hD:V.heap.objs.size=D;generalize hlo:({ cls:=.type "list",dict:=none,data:=.seq ([]:List Value).toArray }:Obj)=lo
 have fplt:∀ b∈A,b<V.heap.objs.size:=λb hb=>by obtain⟨o,e,_⟩:=T.obj _ _ st2 b hb;exact qau e
 have I3:=sZ (lo:=lo) S I2 f2 (λb hb=>by obtain⟨o,e,_⟩:=T.obj _ _ st2 b hb;exact⟨o,e⟩) (by rw[<-hlo];intro v z;cases z) (by rw[<-hlo];rfl);rw[hD]at I3;generalize hcells:qcu (D+2) j.names _=f at I3;generalize d:lcX X j f Nc V H2 (D+1) A=X' at I3;have P:∀ {H':Hp}{ps:List (Addr×Obj)},(∀ b∈A,H' b=none)->(∀ p∈ps,p.1=D)->∀ b∈A,iY X' ps H' b:=λ{H' ps} hn L b hb=>by
  have ok:=I3.ok;refine⟨hn b hb,?_,?_,.inl (by rw[<-d];exact hb),?_,λp O=>?_⟩
  ·exact (ok.exf b (by rw[<-d];exact hb)).1
  ·exact ok.exfs b (by rw[<-d];exact hb)
  ·exact (ok.exf b (by rw[<-d];exact hb)).2
  ·have hp':p∈([])++ps:=by rw[<-d]at O;exact O
   rw[(L p (by simpa using hp')),<-hD];exact qcg (fplt b hb)
 have Dex:D∈X'.ex\/X'.s₀.heap.objs.size<=D:=.inr (by rw[<-d,<-hD];exact qao _);have Dloc:D≠X'.env.locals:=by rw[<-d];exact qax (qbZ _)
 have pD:=I3.pin (D,lo) (by rw[<-d];exact qav _ qag);have Dcell:∀ x c,X'.env.cells.lookup x=some c->c≠D:=λx c hc' e=>by
  obtain⟨v,o,ho,hd⟩:=I3.cell x c hc';rw[e,pD.1]at ho;cases ho;exact pD.2.2.2.2 v hd
 -- the Q
 have Q:∀ s3:qai,s3={ V with heap:=qe1 ((V.heap.push lo).push { cls:=.type "dict",data:=.dict #[] }) j.names }->
   qdH (model X.prog X.w) X.A (.compLoop (.ListComp elt [⟨tg,iter,Y,0⟩] j pos) 0 (.ref it) (.ref D) (qhd j f (D+1) X.env))
    (compPost (model X.prog X.w) X.A X.xe (some (qf9 (.Name x0 py) X.env)) (λ_ s'=>SP X B DD .next s') (.ref D) (D+1)) s3:=by
  rintro s3 rfl
  refine de (λn s'=>∃ i K l k H',Inv X' [(D,{ cls:=.type "list",data:=.seq l.toArray k })] (emb σ) H' s'/\aH K l/\tn i s'.heap/\(∀ b∈A,H' b=none)/\K.length<=qaJ/\W i n K H') ?_ m0
   ⟨0,[],[],0,H2,?_,.nil,?_,λb hb=>(f2 b hb).1,qcE _,w0⟩
  ·rintro n s4 ⟨i,K,l,k,H4,I4,rv,st4,fr4,hlen,w4⟩
   have L:∀ p∈[(D,({ cls:=.type "list",data:=.seq l.toArray k }:Obj))],p.1=D:=λp O=>by
    have:=qal.mp O
    rw[this]
   rcases turn i n K H4 w4 with⟨stop,qn⟩|⟨go,hlt,N,hN,step⟩
   ·-- the end
    have TD:=T.done X' (by rw[<-d];rfl) (by rw[<-d];rfl) (by rw[<-d];rfl) (by rw[<-d];exact hc) i _ s4 (emb σ) H4 (λ_ _=>False) I4 (P fr4 L) st4 stop;rw[show X'.A=X.A by rw[<-d];rfl]at TD;refine thn TD λr s5 ⟨hr,I5⟩=>?_;subst hr;obtain⟨m5,hn5,_⟩:=id I5.loc;have eC:X'.env.locals=D+1:=by rw[<-d];rfl
    rw[eC]at hn5
    suffices inv5:∀ h',qdk (D+1) s5.heap h'->Inv X B σ (upd H4 D (.lst K)) { s5 with heap:=h' } by
     have I5X:Inv X B σ (upd H4 D (.lst K)) s5:=inv5 s5.heap ⟨U,λ_ _=>rfl⟩;have hD4':H4 D=none:=(I5.pin (D,{ cls:=.type "list",data:=.seq l.toArray k }) (by rw[<-d];exact qav _ qag)).2.1
     have hC4:upd H4 D (.lst K) (D+1)=none:=by
      have:=I5.free
      rw[eC]at this;rw[upd_ne (qcg (qbZ D))];exact this
     have fpC:∀ b∈[D+1],iY X B (upd H4 D (.lst K)) b:=λb hb=>by
      have e:=qal.mp hb;subst e;exact I2.fpOk (by rw[hD];exact qcW D) hC4
     obtain⟨oC,esC,epC,getC,datC,relC⟩:=id hn5;have I5p:=I5X.pinned fpC λb hb=>by
      have e:=qal.mp hb;subst e;exact⟨oC,getC,λv z=>by rw[datC]at z;cases z⟩
     refine qio (iD I5p hN0 hi0 hx0 (v:=.ref D) U (λs6 I6=>?_) hf0);have pC:=(I6.pin (D+1,oC) (qav _ (qav _ (cB qag getC)))).1;refine⟨m5,⟨oC,esC,epC,pC,datC,relC⟩,λh' F=>?_⟩;have I6u:=I6.unpinned;exact⟨_,_,I6u.turns (t':=s6.toks) fpC (λb o hb e=>(F.2 b (λz=>hb (by rw[z];exact qag))).trans e),qn D hD4'⟩
    intro h' F;have pD5:=I5.pin (D,{ cls:=.type "list",data:=.seq l.toArray k }) (by rw[<-d];exact qav _ qag)
    have neC:∀ b u,H4 b=some u->b≠D+1:=λb u e z=>by
     have:=I5.free
     rw[eC,<-z,e]at this;cases this
    have hD4:H4 D=none:=pD5.2.1;have un:=I5.base;have E:Un (frs X.stack) A H2 H4 V.heap s5.heap:=by rw[<-d]at un;exact un
    have w:∀ b o,V.heap.get? b=some o->b≠D/\b≠D+1:=λb o e=>by
     have q:=qau e;rw[hD]at q;exact⟨qax q,qax (qaZ q)⟩
    have h2D:H2 D=none:=by rw[<-hD];exact I2.fresh
    have hok':HOk X.prog X.w H4 h':=λb u e=>by
     have ob:cm X.prog X.w H4 s5.heap b u:=by have:=I5.hok b u e;rw[<-d]at this;exact this
     refine ob.stay (λc v hcv q=>(F.2 c ?_).trans q) (λ_ q=>q) λ_ _ q=>q;rcases hcv with z|z
     ·rw[z];exact neC b u e
     ·exact neC c _ z
    have hokD:HOk X.prog X.w (upd H4 D (.lst K)) h':=λb u e=>by
     by_cases hb:b=D
     ·subst hb
      rw[upd_same]at e;cases e;exact⟨hlen,l,k,rv,(F.2 b (qax (qbZ _))).trans pD5.1⟩
     ·rw[upd_ne hb]at e
      refine (hok' b u e).stay (λ_ _ _ q=>q) (λc q=>?_) λc z q=>?_
      all_goals first
       |(rw[upd_ne (aK q hD4)];exact q)
       |(rw[upd_ne (aK z hD4)];exact z)
    refine I2.call' (s':={ s5 with heap:=h' }) (ch:=A) ?_ ⟨λb o e nb hb hx=>?_,λb o e nb hb hx=>?_,λb o e nb hx=>?_,λb o e hx=>?_,λb xs e=>?_,λb o u e=>?_,λb ps e=>?_⟩ hokD I5.bare (λb hb=>?_)
    ·have:=I5.os
     rw[<-d]at this;exact this
    ·exact (F.2 b (w b o e).2).trans (E.keep b o e nb hb hx)
    ·obtain⟨sl,q⟩:=E.slot b o e nb hb hx
     exact⟨sl,(F.2 b (w b o e).2).trans q⟩
    ·rw[upd_ne (w b o e).1]
     exact E.free b o e nb hx
    ·obtain⟨o',q⟩:=E.there b o e hx
     exact⟨o',(F.2 b (w b o e).2).trans q⟩
    ·rw[upd_ne (aK e h2D)]
     exact E.tups b xs e
    ·rw[upd_ne (aK e h2D)]
     exact E.frzs b o u e
    ·obtain⟨m,q⟩:=E.tbls b ps e
     exact⟨m,by rw[upd_ne (aK e h2D)];exact q⟩
    ·obtain⟨q0,q1,q2,q3,q4,q5⟩:=f2 b hb
     exact⟨q3,q1,q4,q5⟩
   ·-- a turn
    have hA:X'.A=X.A:=by rw[<-d];rfl
    have hP:X'.prog=X.prog:=by rw[<-d];rfl
    have hw:X'.w=X.w:=by rw[<-d];rfl
    have hE:X'.env=qhd j f (D+1) X.env:=by rw[<-d];rfl
    have hxe:X'.xe=λ_ _=>False:=by rw[<-d];rfl
    have TI':=T.item X' hP hw (by rw[<-d];rfl) (by rw[<-d];exact hc) i _ s4 (emb σ) H4 (λ_ _=>False) I4 (P fr4 L) st4 go;rw[hA]at TI';refine thn TI' λr s5 ⟨u,hr,h5⟩=>?_;subst hr;refine thn h5 λ_ s6 ⟨x,H6,I6,r6,y6,st6,fr6⟩=>?_;have I6':=I6.pinned (P fr6 L) (T.obj _ _ st6);have G:=hg f V H2 (D+1) A;have TT':=ht f V H2 (D+1) A;have EE:=he f V H2 (D+1) A;rw[d]at G TT' EE;have G':=G _ s6 (emb σ) H6 x u _ I6' r6 (step x H6 y6);rw[hA,hP,hw,hE,hxe]at G';refine thn G' λ_ s7 ⟨σ7,H7,I7,sb7,q7⟩=>?_;have T':=TT' _ s7 σ7 H7 _ I7 q7;rw[hA,hP,hw,hE,hxe]at T';refine thn T' λok s8 ⟨H8,I8,q8⟩=>?_
    -- what is pinned
    have t:∀ {σ9:St}{H9:Hp}{R:qai},Inv X' ([(D,({ cls:=.type "list",data:=.seq l.toArray k }:Obj))]++nX A s6.heap) σ9 H9 R->tn (i+1) R.heap/\∀ b∈A,H9 b=none:=λ{σ9 H9 R} I9=>
     ⟨T.keep _ _ _ st6 λb hb o e=>(I9.pin (b,o) (qav _ (qav _ (cB hb e)))).1,λb hb=>by
      obtain⟨o,e,_⟩:=T.obj _ _ st6 b hb
      exact (I9.pin (b,o) (qav _ (qav _ (cB hb e)))).2.1⟩
    cases ok with
    |false=>
     rw[iFN (by decide)]at q8;rw[iFN (by decide)];obtain⟨m',hm,w8⟩:=hN _ _ q8;exact⟨m',hm,i+1,K,l,k,H8,I8.unpinned.weak sb7.1 sb7.2,rv,(t I8).1,(t I8).2,hlen,w8⟩
    |true=>
     rw[iFP U]at q8;rw[iFP U];have E':=EE _ s8 σ7 H8 _ I8 q8;rw[hA,hP,hw,hE,hxe]at E';refine thn E' λy R ⟨v9,H9,I9,r9,n9⟩=>?_;obtain⟨m',hm,w9⟩:=hN _ _ n9;have M:=I9.pin (D,{ cls:=.type "list",data:=.seq l.toArray k }) (qav _ (qaV _ qag))
     have hl:=rv.length;have I9n:Inv X' [] σ7 H9 R:=I9.pins_of λp O=>nomatch O
     refine qcS qfu ⟨_,M.1,U⟩ qfh (qe7 _ _) (qfe D l.toArray k y (by rw[qaG];lia)) ⟨M.1,?_⟩;have up:∃ k':Nat,(R.heap.update D (qcI λxs=>xs.push y)).get? D=some { cls:=.type "list",data:=.seq (l++[y]).toArray k' }:=by
      have q:=qe6 M.1 (λxs:Array Value=>xs.push y);simp only[qhr]at q;exact⟨_,q⟩
     obtain⟨k',up⟩:=up;have hoth:∀ b o,b≠D->R.heap.get? b=some o->(R.heap.update D (qcI λxs=>xs.push y)).get? b=some o:=λb o hb e=>(qaP R.heap _ (qbk hb)).trans e;have I10:=I9n.turned (t':=R.toks) hoth M.2.1 Dloc Dex Dcell (λp O=>absurd (show p∈([]:List (Addr×Obj)) by rw[<-d]at O;exact O) (by simp));refine⟨m',hm,i+1,K++[v9],l++[y],k',H9,(I10.weak sb7.1 sb7.2).pins_of (λp O=>?_),rv.append (.cons r9 .nil),T.keep _ _ _ (t I9).1 (λb hb o e=>hoth b o (by rw[<-hD];exact qax (fplt b hb)) e),(t I9).2,?_,w9⟩
     ·have:=qal.mp O
      subst this;exact⟨up,M.2.1,Dloc,(pD.2.2.2.1),λv z=>by cases z⟩
     ·rw[qaz,qbI]
      lia
  ·rw[<-hlo.symm]
   exact I3
  ·exact T.keep _ _ _ st2 λb hb o e=>qc5 _ _ b o (qaf _ (qaf _ e))
 refine qhp ?_ ?_
 ·exact Q _ U
 ·refine T.self X.A 0 _ _ _ (T.keep _ _ _ st2 λb hb o e=>qc5 _ _ b o (qaf _ (qaf _ e))) ?_
  exact Q _ U
end
def az:Expr->Bool
 |.Starred _ _=>false
 |_=>true
theorem aT {e:Expr}{es:List Expr}{env:Env} (h:az e=true):qbD (e::es) env=(false,eval e env)::qbD es env:=by
 cases e<;>first|(cases h;done)|rfl
theorem br {pos:Pos}{env:Env}:∀ {es:List Expr},es.all az=true->(qe4 pos (qbD es env)).any (·.1)=false
 |[],_=>by simp[qbD,qe4]
 |e::es,h=>by
  rw[qbE,qa8]at h;rw[aT h.1]
  have:=br (pos:=pos) (env:=env) h.2
  unfold qe4 at this ⊢;rw[qaw,qcf,this];rfl
theorem ua {pos:Pos}{env:Env}{es:List Expr} (h:es.all az=true) (b:es.length < 30):((qe4 pos (qbD es env)).all (λx=>!x.1) && (qh9 pos (qgx [] env)).all (λx=>x.1.isSome)
   && decide (es.length+([]:List qh1).length+(if ([]:List qh1).isEmpty then 0 else 1)<30))=true:=by
 have c:(qe4 pos (qbD es env)).all (λx=>!x.1)=true:=by
  have:=br (pos:=pos) (env:=env) h
  rw[qa3];intro x d;rw[qfo]at this;simpa using this x d
 have a:(qh9 pos (qgx [] env)).all (λx=>x.1.isSome)=true:=by simp[qgx,qh9]
 rw[c,a];simpa using b
theorem iA {e:Expr}{env:Env} (h:az e=true):qbD [e] env=[(false,eval e env)]:=by rw[aT h];rfl
theorem An {e a:Expr}{env:Env} (h:az e=true) (b:az a=true):qbD [e,a] env=[(false,eval e env),(false,eval a env)]:=by rw[aT h,iA b]
def zN:Expr->Bool
 |.UnaryOp .Not _ _=>false
 |.BoolOp _ _ _=>false
 |.IfExp _ _ _ _=>false
 |.Compare _ _ _ _=>false
 |_=>true
theorem yk {a:Expr}{env:Env} (h:zN a=true):∀ whole,PySem.isTrue a env whole=(do let v <-whole;qjz a.pos;qfX [v] (truthy v)):=by
 intro whole;cases a with
 |UnaryOp op x p=>cases op<;>first|(cases h;done)|rfl
 |BoolOp _ _ _=>cases h
 |IfExp _ _ _ _=>cases h
 |Compare _ _ _ _=>cases h
 |_=>rfl
theorem mC {t:Expr}{ts:List Expr}{env:Env} (h:az t=true):qbX (t::ts) env=(false,qf9 t env)::qbX ts env:=by
 cases t<;>first|(cases h;done)|rfl
theorem pB {env:Env}:∀ {ts:List Expr},ts.all az=true->(qbX ts env).length=ts.length
 |[],_=>by simp[qbX]
 |t::ts,h=>by
  rw[qbE,qa8]at h;rw[mC h.1,qaq,pB h.2,qaq]
theorem mD {env:Env}:∀ {ts:List Expr},ts.all az=true->(qbX ts env).findIdx? (·.1)=none
 |[],_=>by simp[qbX]
 |t::ts,h=>by
  rw[qbE,qa8]at h;rw[mC h.1,List.findIdx?_cons,mD h.2];rfl
theorem vo {t:Expr}{ts:List Expr}{env:Env} (h:az t=true):(qbX (t::ts) env).map (·.2)=qf9 t env::(qbX ts env).map (·.2):=by rw[mC h];rfl
theorem jw {t:Expr}{env:Env} (h:az t=true):(qbX [t] env).map (·.2)=[qf9 t env]:=by rw[vo h];simp[qbX]
def kN:Expr->Bool
 |.Slice _ _ _ _=>false
 |_=>true
theorem lC {o i:Expr}{pos:Pos}{env:Env} (h:kN i=true) (v:Value):qf9 (.Subscript o i pos) env v=(do
   let ov <-qfX [v] (eval o env)
   let iv <-qfX [v,ov] (eval i env)
   qjz pos
   qfX [v,ov,iv] (qjB ov iv v)
   release [v,ov,iv] []):=by
 cases i<;>first|(cases h;done)|rfl
theorem nr {i:Expr} (h:kN i=true):vk i:=by
 intro o j;cases i<;>first|(cases h;done)|rfl
inductive D where
 |non|bl (b:Bool)|int (i:Int)|str (x:Str)|ty (n:String)|dct|scr (ns:List Int)|tup (ds:List D)|lst (ds:List D)|ob (ns:List Str) (ds:List D)
 deriving Inhabited
inductive W where
 |d (x:D)|h (n:Nat)
 deriving Inhabited
inductive C where
 |l (ds:List D)|n (ws:List W)|m (kvs:List (List Int×D))|k (kvs:List (Int×D))|o (fs:List (Str×W))
 deriving Inhabited
abbrev Sto:=List C
def lg (st:Sto) (n:Nat):Option (List D):=match st[n]? with
 |some (.l ds)=>some ds
 |_=>none
def gL (l:List Int):List Key:=l.map Sum.inl
abbrev Ev:=List (Option W)
def KLs (K:qae) (a:Addr) (xs:List V):Prop:=
 ∃ (o:Obj) (b:Array Value) (n:Nat),K.lookup a=some o/\o.cls=.type "list"/\o.dict=none/\o.data=.seq b n/\b.size<=qaJ/\aH xs b.toList
section
variable (K:qae) (H:Hp) (φ:List Addr)
mutual
def Rl:D->V->Prop
 |.non,v=>v=.non
 |.bl b,v=>v=.bl b
 |.int i,v=>v=.int i
 |.str x,v=>v=.str x
 |.ty n,v=>v=.ty n
 |.dct,v=>∃ a,v=.ref a/\a∉φ/\((∃ d,H a=some (.dK d))\/∃ d,H a=some (.dT d))
 |.scr ns,v=>∃ a,v=.ref a/\((∃ o,H a=some (.frz o (.lst (ns.map V.int))))\/KLs K a (ns.map V.int))
 |.tup ds,v=>∃ a vs,v=.ref a/\H a=some (.tup vs)/\Rls ds vs
 |.lst ds,v=>∃ a vs,v=.ref a/\a∉φ/\Rd H a (.lst vs)/\Rls ds vs
 |.ob ns ds,v=>∃ a Cl dx fs vs,v=.ref a/\a∉φ/\H a=some (.ins Cl dx fs)/\fs=ns.zip vs/\ns.length=vs.length/\5<ns.length/\Cls K Cl/\(∀ f∈ns,cr K Cl f)/\Rls ds vs
def Rls:List D->List V->Prop
 |[],vs=>vs=[]
 |d::ds,vs=>∃ v r,vs=v::r/\Rl d v/\Rls ds r
end
def Rw:W->V->Prop
 |.d x,v=>Rl K H φ x v
 |.h n,v=>∃ a,φ[n]?=some a/\v=.ref a
def Rws:List W->List V->Prop
 |[],vs=>vs=[]
 |d::ds,vs=>∃ v r,vs=v::r/\Rw K H φ d v/\Rws ds r
def Rkv:List (List Int×D)->List (List Key×V)->Prop
 |[],vs=>vs=[]
 |(k,d)::ds,vs=>∃ v r,vs=(gL k,v)::r/\Rl K H φ d v/\Rkv ds r
def Rkk:List (Int×D)->List (Key×V)->Prop
 |[],vs=>vs=[]
 |(k,d)::ds,vs=>∃ v r,vs=(Sum.inl k,v)::r/\Rl K H φ d v/\Rkk ds r
def Rfs:List (Str×W)->List (Str×V)->Prop
 |[],vs=>vs=[]
 |(k,d)::ds,vs=>∃ v r,vs=(k,v)::r/\Rw K H φ d v/\Rfs ds r
def Rc (k:Nat) (a:Addr):C->Prop
 |.l ds=>∃ vs,H a=some (.lst vs)/\Rls K H φ ds vs
 |.n ws=>∃ vs,H a=some (.lst vs)/\Rws K H φ ws vs/\∀ m,W.h m∈ws->m<k
 |.m e=>∃ vs,H a=some (.dT vs)/\Rkv K H φ e vs
 |.k e=>∃ vs,H a=some (.dK vs)/\Rkk K H φ e vs
 |.o fs=>∃ Cl dx vs,H a=some (.ins Cl dx vs)/\Rfs K H φ fs vs/\(∀ m,W.h m∈fs.map (·.2)->m<k)/\Cls K Cl/\∀ p∈fs,cr K Cl p.1
structure Sr (st:Sto):Prop where
 nd:φ.Nodup
 len:φ.length=st.length
 at_:∀ (n:Nat) a c,φ[n]?=some a->st[n]?=some c->Rc K H φ n a c
structure Er (env:Ev) (σ:St):Prop where
 len:env.length=σ.length
 at_:∀ (i:Nat) w,env[i]?=some (some w)->∃ v,σ[i]?=some (some v)/\Rw K H φ w v
end
structure Fw (φ φ':List Addr) (H H':Hp):Prop where
 ext:∃ ψ,φ'=φ++ψ/\∀ a∈ψ,H a=none
 keep:∀ b o,b∉φ->H b=some o->H' b=some o
 there:∀ b o,H b=some o->∃ o',H' b=some o'
section
variable {K:qae}{H H1 H2 H':Hp}{φ t y φ':List Addr}{st O:Sto}
theorem Fw.refl (φ:List Addr) (H:Hp):Fw φ φ H H:=⟨⟨[],by simp,by simp⟩,λ_ _ _ h=>h,λ_ o h=>⟨o,h⟩⟩
theorem Fw.trans (a:Fw φ t H H1) (b:Fw t y H1 H2):Fw φ y H H2:=by
 obtain⟨ψ,rfl,g⟩:=a.ext;obtain⟨Q,rfl,j⟩:=b.ext;refine⟨⟨_,by rw[qb1],λc B=>?_⟩,λc o B h=>?_,λc o h=>?_⟩
 ·rcases qaR.mp B with z|z
  ·exact g c z
  ·cases q:H c with
   |none=>rfl
   |some o=>
    obtain⟨J,I⟩:=a.there c o q;rw[j c z]at I;cases I
 ·refine b.keep c o (λz=>?_) (a.keep c o B h)
  rcases qaR.mp z with z|z
  ·exact B z
  ·rw[g c z]at h;cases h
 ·obtain⟨J,q⟩:=a.there c o h
  exact b.there c J q
theorem Fw.same (s:aQ H H'):Fw φ φ H H':=⟨⟨[],by simp,by simp⟩,λb o _ h=>s b o h,λb o h=>⟨o,s b o h⟩⟩
theorem Fw.new {p:Addr}{o:HO} (G:H p=none):Fw φ φ H (upd H p o):=.same (aQ.new G o)
theorem Fw.get (f:Fw φ φ' H H') {n:Nat}{a:Addr} (h:φ[n]?=some a):φ'[n]?=some a:=by
 obtain⟨ψ,rfl,_⟩:=f.ext;rw[qaD (qar.mp h).1];exact h
theorem Fw.nin (f:Fw φ φ' H H') {a:Addr}{o:HO} (h:a∉φ) (q:H a=some o):a∉φ':=by
 obtain⟨ψ,rfl,e⟩:=f.ext;intro z;rcases qaR.mp z with z|z
 ·exact h z
 ·rw[e a z]at q;cases q
def FL:HO->Bool
 |.lst _=>true
 |.dT _=>true
 |.dK _=>true
 |.ins _ _ _=>true
 |_=>false
theorem Rc.ob {k:Nat}{a:Addr}{c:C} (h:Rc K H φ k a c):∃ o,H a=some o/\FL o=true:=by
 cases c with
 |l ds=>obtain⟨vs,q,_⟩:=h;exact⟨_,q,U⟩
 |n ds=>obtain⟨vs,q,_⟩:=h;exact⟨_,q,U⟩
 |m ds=>obtain⟨vs,q,_⟩:=h;exact⟨_,q,U⟩
 |k ds=>obtain⟨vs,q,_⟩:=h;exact⟨_,q,U⟩
 |o ds=>obtain⟨_,_,vs,q,_⟩:=h;exact⟨_,q,U⟩
theorem Sr.lst (S:Sr K H φ st) {a:Addr} (h:a∈φ):∃ o,H a=some o/\FL o=true:=by
 obtain⟨n,hn,e⟩:=qc1.mp h;have P:n<st.length:=by rw[<-S.len];exact hn
 exact (S.at_ n a st[n] (by rw[qam hn,e]) (by rw[qam P])).ob
theorem wd {st:Sto}{n:Nat}{ds:List D} (h:lg st n=some ds):st[n]?=some (.l ds):=by
 unfold lg at h;split at h
 ·rename_i q;cases h;exact q
 ·cases h
theorem Sr.atl (S:Sr K H φ st) (n:Nat) (a:Addr) (ds:List D) (g:φ[n]?=some a) (j:lg st n=some ds):∃ vs,H a=some (.lst vs)/\Rls K H φ ds vs:=S.at_ n a _ g (wd j)
theorem Sr.nin (S:Sr K H φ st) {a:Addr} (h:H a=none):a∉φ:=λz=>by
 obtain⟨vs,q,_⟩:=S.lst z;rw[q]at h;cases h
theorem Rd.nin (S:Sr K H φ st) {a:Addr}{vs:List V} (h:Rd H a (.tup vs)):a∉φ:=λz=>by
 obtain⟨ws,q,qm⟩:=S.lst z;rcases h with h|⟨o,h⟩<;>(rw[q]at h;cases h;cases qm)
theorem Rd.fw (f:Fw φ φ' H H') {a:Addr}{u:HO} (hn:a∉φ) (h:Rd H a u):Rd H' a u:=by
 rcases h with h|⟨o,h⟩
 ·exact .inl (f.keep _ _ hn h)
 ·exact .inr ⟨o,f.keep _ _ hn h⟩
theorem SqT.fw (S:Sr K H φ st) (f:Fw φ φ' H H') {a:Addr}{vs:List V} (h:SqT K H a vs):SqT K H' a vs:=by
 rcases h with h|h
 ·exact .inl (f.keep _ _ (Rd.nin S (.inl h)) h)
 ·exact .inr h
theorem Rd.some {a:Addr}{u:HO} (h:Rd H a u):∃ o,H a=some o:=by
 rcases h with h|⟨o,h⟩
 ·exact⟨_,h⟩
 ·exact⟨_,h⟩
mutual
theorem Rl.fw (S:Sr K H φ st) (f:Fw φ φ' H H'):∀ {d:D}{v:V},Rl K H φ d v->Rl K H' φ' d v
 |.non,_,h=>h
 |.bl _,_,h=>h
 |.int _,_,h=>h
 |.str _,_,h=>h
 |.ty _,_,h=>h
 |.dct,_,h=>by
  obtain⟨a,rfl,hn,h⟩:=h;rcases h with⟨d,h⟩|⟨d,h⟩
  ·exact⟨a,U,f.nin hn h,.inl ⟨d,f.keep _ _ hn h⟩⟩
  ·exact⟨a,U,f.nin hn h,.inr ⟨d,f.keep _ _ hn h⟩⟩
 |.scr ns,_,h=>by
  obtain⟨a,rfl,h⟩:=h;refine⟨a,U,?_⟩;rcases h with⟨o,h⟩|h
  ·refine .inl ⟨o,f.keep _ _ (λz=>?_) h⟩
   obtain⟨ws,q,qm⟩:=S.lst z;rw[q]at h;cases h;cases qm
  ·exact .inr h
 |.tup ds,_,h=>by
  obtain⟨a,vs,rfl,h1,h2⟩:=h;exact⟨a,vs,U,f.keep _ _ (Rd.nin S (.inl h1)) h1,Rls.fw S f h2⟩
 |.lst ds,_,h=>by
  obtain⟨a,vs,rfl,h0,h1,h2⟩:=h;obtain⟨o,e⟩:=h1.some;exact⟨a,vs,U,f.nin h0 e,h1.fw f h0,Rls.fw S f h2⟩
 |.ob ns ds,_,h=>by
  obtain⟨a,Cl,dx,fs,vs,rfl,h0,h1,h2,h3,h4,h5,h7,h6⟩:=h;exact⟨a,Cl,dx,fs,vs,U,f.nin h0 h1,f.keep _ _ h0 h1,h2,h3,h4,h5,h7,Rls.fw S f h6⟩
theorem Rls.fw (S:Sr K H φ st) (f:Fw φ φ' H H'):∀ {ds:List D}{vs:List V},Rls K H φ ds vs->Rls K H' φ' ds vs
 |[],_,h=>h
 |d::ds,_,h=>by
  obtain⟨v,r,rfl,h1,h2⟩:=h;exact⟨v,r,U,Rl.fw S f h1,Rls.fw S f h2⟩
end
theorem Rw.fw (S:Sr K H φ st) (f:Fw φ φ' H H') {w:W}{v:V} (h:Rw K H φ w v):Rw K H' φ' w v:=by
 cases w with
 |d x=>exact Rl.fw S f h
 |h n=>obtain⟨a,e,rfl⟩:=h;exact⟨a,f.get e,U⟩
theorem Rws.fw (S:Sr K H φ st) (f:Fw φ φ' H H'):∀ {ws:List W}{vs:List V},Rws K H φ ws vs->Rws K H' φ' ws vs
 |[],_,h=>h
 |d::ds,_,h=>by
  obtain⟨v,r,rfl,h1,h2⟩:=h;exact⟨v,r,U,h1.fw S f,Rws.fw S f h2⟩
theorem Er.fw (S:Sr K H φ st) (f:Fw φ φ' H H') {env:Ev}{L:St} (h:Er K H φ env L):Er K H' φ' env L:=
 ⟨h.len,λi w e=>let ⟨v,g,r⟩:=h.at_ i w e;⟨v,g,r.fw S f⟩⟩
theorem Rkv.fw (S:Sr K H φ st) (f:Fw φ φ' H H'):∀ {ds:List (List Int×D)}{vs:List (List Key×V)},Rkv K H φ ds vs->Rkv K H' φ' ds vs
 |[],_,h=>h
 |(k,d)::ds,_,h=>by
  obtain⟨v,r,rfl,h1,h2⟩:=h;exact⟨v,r,U,Rl.fw S f h1,Rkv.fw S f h2⟩
theorem Rkk.fw (S:Sr K H φ st) (f:Fw φ φ' H H'):∀ {ds:List (Int×D)}{vs:List (Key×V)},Rkk K H φ ds vs->Rkk K H' φ' ds vs
 |[],_,h=>h
 |(k,d)::ds,_,h=>by
  obtain⟨v,r,rfl,h1,h2⟩:=h;exact⟨v,r,U,Rl.fw S f h1,Rkk.fw S f h2⟩
theorem Rfs.fw (S:Sr K H φ st) (f:Fw φ φ' H H'):∀ {ds:List (Str×W)}{vs:List (Str×V)},Rfs K H φ ds vs->Rfs K H' φ' ds vs
 |[],_,h=>h
 |(k,d)::ds,_,h=>by
  obtain⟨v,r,rfl,h1,h2⟩:=h;exact⟨v,r,U,h1.fw S f,Rfs.fw S f h2⟩
theorem Rc.fw (S:Sr K H φ st) (f:Fw φ φ' H H') {k:Nat}{a:Addr}{c:C} (e:∀ o,H a=some o->H' a=some o) (h:Rc K H φ k a c):Rc K H' φ' k a c:=by
 cases c with
 |l ds=>obtain⟨vs,q,r⟩:=h;exact⟨vs,e _ q,r.fw S f⟩
 |n ds=>obtain⟨vs,q,r,b⟩:=h;exact⟨vs,e _ q,r.fw S f,b⟩
 |m ds=>obtain⟨vs,q,r⟩:=h;exact⟨vs,e _ q,r.fw S f⟩
 |k ds=>obtain⟨vs,q,r⟩:=h;exact⟨vs,e _ q,r.fw S f⟩
 |o ds=>obtain⟨Cl,dx,vs,q,r,b⟩:=h;exact⟨Cl,dx,vs,e _ q,r.fw S f,b⟩
theorem Sr.same (S:Sr K H φ st) (s:aQ H H'):Sr K H' φ st:=
 ⟨S.nd,S.len,λn a c g j=>(S.at_ n a c g j).fw S (Fw.same s) λo h=>s _ _ h⟩
theorem Sr.new (S:Sr K H φ st) {p:Addr}{o:HO} (G:H p=none):Sr K (upd H p o) φ st:=S.same (aQ.new G o)
theorem Rls.length:∀ {ds:List D}{vs:List V},Rls K H φ ds vs->ds.length=vs.length
 |[],_,h=>by cases h;rfl
 |d::ds,_,h=>by
  obtain⟨v,r,rfl,h1,h2⟩:=h;rw[qaq,qaq,Rls.length h2]
theorem Rws.length:∀ {ds:List W}{vs:List V},Rws K H φ ds vs->ds.length=vs.length
 |[],_,h=>by cases h;rfl
 |d::ds,_,h=>by
  obtain⟨v,r,rfl,h1,h2⟩:=h;rw[qaq,qaq,Rws.length h2]
theorem Rls.append:∀ {ds es:List D}{vs M:List V},Rls K H φ ds vs->Rls K H φ es M->Rls K H φ (ds++es) (vs++M)
 |[],_,_,_,h,h'=>by cases h;exact h'
 |d::ds,_,_,_,h,h'=>by
  obtain⟨v,r,rfl,h1,h2⟩:=h;exact⟨v,_,U,h1,Rls.append h2 h'⟩
theorem Rls.get:∀ {ds:List D}{vs:List V},Rls K H φ ds vs->∀ {i:Nat}{d:D},ds[i]?=some d->∃ v,vs[i]?=some v/\Rl K H φ d v
 |[],_,h,i,d,e=>by simp at e
 |d::ds,_,h,i,e,q=>by
  obtain⟨v,r,rfl,h1,h2⟩:=h;cases i with
  |zero=>simp at q;subst q;exact⟨v,U,h1⟩
  |succ i=>simpa using Rls.get h2 (by simpa using q)
theorem Rls.take:∀ {ds:List D}{vs:List V} (n:Nat),Rls K H φ ds vs->Rls K H φ (ds.take n) (vs.take n)
 |_,_,0,_=>by exact U
 |[],_,n+1,h=>by cases h;exact U
 |d::ds,_,n+1,h=>by
  obtain⟨v,r,rfl,h1,h2⟩:=h;exact⟨v,_,U,h1,Rls.take n h2⟩
theorem Rls.drop:∀ {ds:List D}{vs:List V} (n:Nat),Rls K H φ ds vs->Rls K H φ (ds.drop n) (vs.drop n)
 |_,_,0,h=>h
 |[],_,n+1,h=>by cases h;exact U
 |d::ds,_,n+1,h=>by
  obtain⟨v,r,rfl,h1,h2⟩:=h;exact Rls.drop n h2
theorem Rls.set:∀ {ds:List D}{vs:List V} (n:Nat) {d:D}{v:V},Rls K H φ ds vs->Rl K H φ d v->Rls K H φ (ds.set n d) (vs.set n v)
 |[],_,_,_,_,h,_=>by cases h;exact U
 |e::ds,_,0,d,v,h,hd=>by
  obtain⟨u,r,rfl,h1,h2⟩:=h;exact⟨v,r,U,hd,h2⟩
 |e::ds,_,n+1,d,v,h,hd=>by
  obtain⟨u,r,rfl,h1,h2⟩:=h;exact⟨u,_,U,h1,Rls.set n h2 hd⟩
theorem Rls.rep {ds:List D}{vs:List V} (h:Rls K H φ ds vs):∀ k:Nat,Rls K H φ (qaH k ds).flatten (qaH k vs).flatten
 |0=>rfl
 |k+1=>by exact h.append (Rls.rep h k)
theorem Rls.ints:∀ {ns:List Int}{vs:List V},Rls K H φ (ns.map D.int) vs->vs=ns.map V.int
 |[],_,h=>h
 |n::ns,_,h=>by
  obtain⟨v,r,rfl,h1,h2⟩:=h;rw[h1,Rls.ints h2];rfl
theorem Rls.bools:∀ {ns:List Bool}{vs:List V},Rls K H φ (ns.map D.bl) vs->vs=ns.map V.bl
 |[],_,h=>h
 |n::ns,_,h=>by
  obtain⟨v,r,rfl,h1,h2⟩:=h;rw[h1,Rls.bools h2];rfl
theorem Rls.of_ints:∀ (ns:List Int),Rls K H φ (ns.map D.int) (ns.map V.int)
 |[]=>rfl
 |n::ns=>⟨_,_,U,U,Rls.of_ints ns⟩
theorem Rl.less {ψ:List Addr}:∀ {d:D}{v:V},Rl K H (φ++ψ) d v->Rl K H φ d v:=by
 intro d v;refine (?_:∀ v,Rl K H _ d v->Rl K H φ d v) v;refine D.rec (motive_2:=λds=>∀ vs,Rls K H (φ++ψ) ds vs->Rls K H φ ds vs) ?_ ?_ ?_ ?_ ?_ ?_ ?_ ?_ ?_ ?_ ?_ ?_ d
 ·exact λv h=>h
 ·exact λb v h=>h
 ·exact λb v h=>h
 ·exact λb v h=>h
 ·exact λb v h=>h
 ·rintro v ⟨a,e,hn,h⟩;exact⟨a,e,λz=>hn (qaV _ z),h⟩
 ·exact λns v h=>h
 ·rintro ds A v ⟨a,vs,rfl,h1,h2⟩;exact⟨a,vs,U,h1,A vs h2⟩
 ·rintro ds A v ⟨a,vs,rfl,h0,h1,h2⟩;exact⟨a,vs,U,λz=>h0 (qaV _ z),h1,A vs h2⟩
 ·rintro ns ds A v ⟨a,Cl,dx,fs,vs,rfl,h0,h1,h2,h3,h4,h5,h7,h6⟩;exact⟨a,Cl,dx,fs,vs,U,λz=>h0 (qaV _ z),h1,h2,h3,h4,h5,h7,A vs h6⟩
 ·exact λvs h=>h
 ·rintro d ds F E vs ⟨v,r,rfl,h1,h2⟩;exact⟨v,r,U,F v h1,E r h2⟩
theorem Rls.less {ψ:List Addr}:∀ {ds:List D}{vs:List V},Rls K H (φ++ψ) ds vs->Rls K H φ ds vs
 |[],_,h=>h
 |d::ds,_,h=>by
  obtain⟨v,r,rfl,h1,h2⟩:=h;exact⟨v,r,U,Rl.less h1,Rls.less h2⟩
theorem Rkv.less {ψ:List Addr}:∀ {ds:List (List Int×D)}{vs:List (List Key×V)},Rkv K H (φ++ψ) ds vs->Rkv K H φ ds vs
 |[],_,h=>h
 |(k,d)::ds,_,h=>by
  obtain⟨v,r,rfl,h1,h2⟩:=h;exact⟨v,r,U,Rl.less h1,Rkv.less h2⟩
theorem Rkk.less {ψ:List Addr}:∀ {ds:List (Int×D)}{vs:List (Key×V)},Rkk K H (φ++ψ) ds vs->Rkk K H φ ds vs
 |[],_,h=>h
 |(k,d)::ds,_,h=>by
  obtain⟨v,r,rfl,h1,h2⟩:=h;exact⟨v,r,U,Rl.less h1,Rkk.less h2⟩
theorem Rws.less {ψ:List Addr}:∀ {ds:List W}{vs:List V},(∀ m,W.h m∈ds->m<φ.length)->Rws K H (φ++ψ) ds vs->Rws K H φ ds vs
 |[],_,_,h=>h
 |d::ds,_,hm,h=>by
  obtain⟨v,r,rfl,h1,h2⟩:=h;refine⟨v,r,U,?_,Rws.less (λm z=>hm m (qaj _ z)) h2⟩;cases d with
  |d x=>exact Rl.less h1
  |h m=>
   obtain⟨a,e,rfl⟩:=h1;rw[qaD (hm m qag)]at e;exact⟨a,e,U⟩
theorem Rfs.less {ψ:List Addr}:∀ {ds:List (Str×W)}{vs:List (Str×V)},(∀ m,W.h m∈ds.map (·.2)->m<φ.length)->Rfs K H (φ++ψ) ds vs->Rfs K H φ ds vs
 |[],_,_,h=>h
 |(k,d)::ds,_,hm,h=>by
  obtain⟨v,r,rfl,h1,h2⟩:=h;refine⟨v,r,U,?_,Rfs.less (λm z=>hm m (qaj _ z)) h2⟩;cases d with
  |d x=>exact Rl.less h1
  |h m=>
   obtain⟨a,e,rfl⟩:=h1;rw[qaD (hm m qag)]at e;exact⟨a,e,U⟩
theorem Rc.less {ψ:List Addr}{k:Nat}{a:Addr}{c:C} (N:k<φ.length) (h:Rc K H (φ++ψ) k a c):Rc K H φ k a c:=by
 cases c with
 |l ds=>obtain⟨vs,q,r⟩:=h;exact⟨vs,q,r.less⟩
 |n ds=>obtain⟨vs,q,r,b⟩:=h;exact⟨vs,q,r.less λm z=>qeL (b m z) N,b⟩
 |m ds=>obtain⟨vs,q,r⟩:=h;exact⟨vs,q,r.less⟩
 |k ds=>obtain⟨vs,q,r⟩:=h;exact⟨vs,q,r.less⟩
 |o ds=>obtain⟨Cl,dx,vs,q,r,b,c⟩:=h;exact⟨Cl,dx,vs,q,r.less λm z=>qeL (b m z) N,b,c⟩
theorem Sr.less {ψ:List Addr} (S:Sr K H (φ++ψ) st):Sr K H φ (st.take φ.length):=by
 have R:=S.len;rw[qaz]at R;refine⟨(qcx.mp S.nd).1,by rw[qdf];lia,λn a ds g j=>?_⟩;have hn:=(qar.mp g).1;rw[qej hn]at j;exact (S.at_ n a ds (by rw[qaD hn];exact g) j).less hn
end
abbrev Ef:=Ev->Sto->Option (W×Sto)
abbrev Af:=Ev->Sto->Option (List W×Sto)
abbrev Tf:=Ev->Sto->Option (Bool×Sto)
abbrev Lf:=Ev->Sto->Option (List D×Sto)
abbrev Fn:=List W->Sto->Option (W×Sto)
section
variable (K:qae)
def tI (env:Ev) (st:Sto) (r:W×Sto):TE:=λh H Q=>∃ φ,Er K H φ env h/\Sr K H φ st/\∀ v H' b,Fw φ b H H'->Sr K H' b r.2->Rw K H' b r.1 v->Q v H'
def tIA (env:Ev) (st:Sto) (r:List W×Sto):TA:=λh H Q=>∃ φ,Er K H φ env h/\Sr K H φ st/\∀ c H' b,Fw φ b H H'->Sr K H' b r.2->Rws K H' b r.1 c->Q c H'
def tIT (env:Ev) (st:Sto) (r:Bool×Sto):TT:=λh H Q=>∃ φ,Er K H φ env h/\Sr K H φ st/\∀ H' b,Fw φ b H H'->Sr K H' b r.2->Q r.1 H'
def tIL (env:Ev) (st:Sto) (r:List D×Sto):TE:=λh H Q=>∃ φ,Er K H φ env h/\Sr K H φ st/\∀ a c H1 b,Fw φ b H H1->Sr K H1 b r.2->H1 a=none->Rls K H1 b r.1 c->Q (.ref a) (upd H1 a (.lst c))
structure IE (X:Cx) (e:Expr) (f:Ef):Prop where
 run:∀ env st r,f env st=some r->PE X e (tI K env st r)
structure IA (X:Cx) (es:List Expr) (f:Af):Prop where
 run:∀ env st r,f env st=some r->PA X es (tIA K env st r)
structure IT (X:Cx) (e:Expr) (f:Tf):Prop where
 run:∀ env st r,f env st=some r->PT X e (tIT K env st r)
structure ITW (X:Cx) (e:Expr) (f:Tf):Prop where
 run:∀ env st r,f env st=some r->PW X e (tIT K env st r)
structure IL (X:Cx) (e:Expr) (f:Lf):Prop where
 run:∀ env st r,f env st=some r->PE X e (tIL K env st r)
def rD (st:Sto) (x y:W) (d:D):R2:=λk j H Q=>∃ φ,Sr K H φ st/\Rw K H φ x k/\Rw K H φ y j/\∀ v H',aQ H H'->Rl K H' φ d v->Q v H'
structure OpD (X:Cx) (f:Value->Value->Sem Value) (g:Sto->W->W->Option D):Prop where
 run:∀ st x y d,g st x y=some d->OpR X f (rD K st x y d)
def rCD (st:Sto) (ws:List W) (d:D):List V->Hp->VK->Prop:=λc H Q=>∃ φ,Sr K H φ st/\Rws K H φ ws c/\∀ v H',aQ H H'->Rl K H' φ d v->Q v H'
structure eG (X:Cx) (f:Value) (g:Sto->List W->Option D):Prop where
 run:∀ st ws d,g st ws=some d->bE X f (rCD K st ws d)
def rCL (st:Sto) (ws:List W) (ds:List D):List V->Hp->VK->Prop:=λc H Q=>∃ φ,Sr K H φ st/\Rws K H φ ws c/\∀ a i H1,aQ H H1->H1 a=none->Rls K H1 φ ds i->Q (.ref a) (upd H1 a (.lst i))
structure rS (X:Cx) (f:Value) (g:Sto->List W->Option (List D)):Prop where
 run:∀ st ws d,g st ws=some d->bE X f (rCL K st ws d)
end
def iV (i:Nat):Ef
 |env,st=>(env.getD i none).map λw=>(w,st)
def iC (d:D):Ef
 |_,st=>some (.d d,st)
def iOp (g:Sto->W->W->Option D) (a b:Ef):Ef
 |env,st=>(a env st).bind λx=>(b env x.2).bind λy=>(g y.2 x.1 y.1).map λd=>(.d d,y.2)
def xn:D->Option Bool
 |.bl b=>some b
 |_=>none
def blW:W->Option Bool
 |.d (.bl b)=>some b
 |_=>none
def aE (g:Sto->W->W->Option D) (a b:Ef):Tf
 |env,st=>(a env st).bind λx=>(b env x.2).bind λy=>(g y.2 x.1 y.1).bind λd=>(xn d).map λk=>(k,y.2)
def iUn (g:W->Option D) (a:Ef):Ef
 |env,st=>(a env st).bind λx=>(g x.1).map λd=>(.d d,x.2)
def yT (a:Ef):Ef
 |env,st=>(a env st).bind λx=>(blW x.1).map λk=>(.d (.bl (!k)),x.2)
def k7 (a b:Ef):Ef
 |env,st=>(a env st).bind λx=>(blW x.1).bind λk=>if k=true then b env x.2 else some (.d (.bl false),x.2)
def jl (c:Tf) (a b:Ef):Ef
 |env,st=>(c env st).bind λr=>if r.1=true then a env r.2 else b env r.2
def cK (c:Tf):Tf
 |env,st=>(c env st).map λr=>(!r.1,r.2)
def fF (a b:Tf):Tf
 |env,st=>(a env st).bind λr=>if r.1=true then b env r.2 else some (false,r.2)
def d6 (a b:Tf):Tf
 |env,st=>(a env st).bind λr=>if r.1=true then some (true,r.2) else b env r.2
def cL (g:Sto->W->Option Bool) (a:Ef):Tf
 |env,st=>(a env st).bind λx=>(g x.2 x.1).map λk=>(k,x.2)
def ae:Af
 |_,st=>some ([],st)
def aa (a:Ef) (r:Af):Af
 |env,st=>(a env st).bind λx=>(r env x.2).map λy=>(x.1::y.1,y.2)
def iCB (g:Sto->List W->Option D) (a:Af):Ef
 |env,st=>(a env st).bind λr=>(g r.2 r.1).map λd=>(.d d,r.2)
def iCL (g:Sto->List W->Option (List D)) (a:Af):Lf
 |env,st=>(a env st).bind λr=>(g r.2 r.1).map λd=>(d,r.2)
def av (m:Fn) (a:Af):Ef
 |env,st=>(a env st).bind λr=>m r.1 r.2
def sq:List W->Option (List D)
 |[]=>some []
 |.d x::ws=>(sq ws).map λr=>x::r
 |.h _::_=>none
def be (a:Af):Ef
 |env,st=>(a env st).bind λr=>(sq r.1).bind λds=>if ds.length<=1000 then some (.d (.tup ds),r.2) else none
def bO (a:Af):Lf
 |env,st=>(a env st).bind λr=>(sq r.1).bind λds=>if ds.length<=1000 then some (ds,r.2) else none
def aw (a:Lf):Ef
 |env,st=>(a env st).map λr=>(.d (.lst r.1),r.2)
def cV (a:Lf):Ef
 |env,st=>(a env st).map λr=>(.h r.2.length,r.2++[.l r.1])
section
variable {K:qae}{X:Cx}{e a b c:Expr}{es:List Expr}{pos:Pos}{f fa fb fc:Ef}
theorem PE.imp {t t':TE} (h:PE X e t) (m:∀ G H Q,t' G H Q->t G H Q):PE X e t':=λO s G H Q I q=>h O s G H Q I (m G H Q q)
theorem PT.imp {t t':TT} (h:PT X e t) (m:∀ G H Q,t' G H Q->t G H Q):PT X e t':=λO s G H Q I q=>h O s G H Q I (m G H Q q)
theorem PW.imp {t t':TT} (h:PW X e t) (m:∀ G H Q,t' G H Q->t G H Q):PW X e t':=λwh O s G H Q I q=>h wh O s G H Q I (m G H Q q)
theorem PA.imp {t t':TA} (h:PA X es t) (m:∀ G H Q,t' G H Q->t G H Q):PA X es t':=λpos O s G H Q I q=>h pos O s G H Q I (m G H Q q)
theorem OpR.imp {g:Value->Value->Sem Value}{r r':R2} (h:OpR X g r) (m:∀ x y H Q,r' x y H Q->r x y H Q):OpR X g r':=λO s G H x y v u Q I rx ry q=>h O s G H x y v u Q I rx ry (m _ _ _ _ q)
theorem bE.imp {g:Value}{r r':List V->Hp->VK->Prop} (h:bE X g r) (m:∀ xs H Q,r' xs H Q->r xs H Q):bE X g r':=λO s G H xs us Q I rx q=>h O s G H xs us Q I rx (m _ _ _ q)
theorem nW:PE X e (λ_ _ _=>False):=λ_ _ _ _ _ _ q=>q.elim
theorem t4:PW X e (λ_ _ _=>False):=λ_ _ _ _ _ _ _ q=>q.elim
theorem Dm {i:Nat}{x:Str}{t:TE} (h:PE X (.Name x pos) (ud i)):IE K X (.Name x pos) (iV i):=by
 refine⟨λenv st r A=>?_⟩;obtain⟨w,hw,rfl⟩:=qad.mp A;refine h.imp ?_
 rintro G H Q ⟨φ,E,B,q⟩
 have hi:env[i]?=some (some w):=by
  rw[qfQ]at hw;cases q:env[i]? with
  |none=>rw[q]at hw;cases hw
  |some o=>rw[q]at hw;rw[show o=some w from hw]
 obtain⟨v,e1,r⟩:=E.at_ i w hi;exact⟨v,e1,q v H φ (Fw.refl φ H) B r⟩
theorem iv (i:Nat) {x:Str} (hN:X.N[i]?=some x:=by rfl) (hv:Vis X.env.scope x:=by first|exact Or.inl U|exact Or.inr (Or.inl U)|exact Or.inr (Or.inr U)) (hd:(x==("__debug__" : Str))=false:=by decide)
  (hcd:(x==("__classdict__" : Str))=false:=by decide):IE K X (.Name x pos) (iV i):=Dm (t:=ud i) (ju hN hv hd hcd)
theorem yV {d:D}{v:V} (h:PE X e (tC v)) (r:∀ H φ,Rl K H φ d v):IE K X e (iC d):=by
 refine⟨λenv st r A=>?_⟩;cases A;refine h.imp ?_
 rintro G H Q ⟨φ,E,B,q⟩
 exact q v H φ (Fw.refl φ H) B (r H φ)
theorem kD {i j}:IE K X (.Constant (.int i) j pos) (iC (.int i)):=yV D3 λ_ _=>rfl
theorem vL {i j}:IE K X (.Constant (.bool i) j pos) (iC (.bl i)):=yV FY λ_ _=>rfl
theorem qw {j}:IE K X (.Constant .none j pos) (iC .non):=yV D4 λ_ _=>rfl
theorem qA {x j}:IE K X (.Constant (.str x) j pos) (iC (.str x)):=yV D7 λ_ _=>rfl
theorem rM {env:Ev}{st:Sto}{x y:W×Sto}{d:D}{G:St}{H:Hp}{Q:VK} (h:tI K env st (.d d,y.2) G H Q):tOp (rD K y.2 x.1 y.1 d) (tI K env st x) (tI K env x.2 y) G H Q:=by
 obtain⟨φ,E,B,q⟩:=h;refine⟨φ,E,B,λv H1 z J s1 N=>⟨z,E.fw B J,s1,λu H2 P Y s2 w2=>⟨P,s2,N.fw s1 Y,w2,λv3 H3 f3 w3=>?_⟩⟩⟩;exact q v3 H3 P ((J.trans Y).trans (Fw.same f3)) (s2.same f3) w3
theorem m7 {op:Operator}{g:Sto->W->W->Option D} (ho:OpD K X (qbH op) g) (M:IE K X a fa) (hb:IE K X b fb):IE K X (.BinOp a op b pos) (iOp g fa fb):=by
 refine⟨λenv st r A=>?_⟩;simp only[iOp,qac,qad]at A;obtain⟨x,R,y,hy,d,hd,rfl⟩:=A;exact (CM (ho.run _ _ _ _ hd) (M.run _ _ _ R) (hb.run _ _ _ hy)).imp λG H Q h=>rM h
theorem qr {op:CmpOp}{g:Sto->W->W->Option D} (ho:OpD K X (qbN op) g) (M:IE K X a fa) (hb:IE K X b fb) (hm:qfH op b=false):IE K X (.Compare a [op] [b] pos) (iOp g fa fb):=by
 refine⟨λenv st r A=>?_⟩;simp only[iOp,qac,qad]at A;obtain⟨x,R,y,hy,d,hd,rfl⟩:=A;exact (BG (ho.run _ _ _ _ hd) (M.run _ _ _ R) (hb.run _ _ _ hy) hm).imp λG H Q h=>rM h
theorem xo {d:D}{k:Bool} (h:xn d=some k):d=.bl k:=by
 cases d<;>first|(cases h;done)|(injection h with h;subst h;rfl)
theorem sh {d:W}{k:Bool} (h:blW d=some k):d=.d (.bl k):=by
 cases d with
 |h n=>cases h
 |d x=>cases x<;>first|(cases h;done)|(injection h with h;subst h;rfl)
theorem qL {op:CmpOp}{g:Sto->W->W->Option D} (ho:OpD K X (qbN op) g) (M:IE K X a fa) (hb:IE K X b fb) (hm:qfH op b=false):IT K X (.Compare a [op] [b] pos) (aE g fa fb):=by
 refine⟨λenv st r A=>?_⟩;simp only[aE,qac,qad]at A;obtain⟨x,R,y,hy,d,hd,k,hk,rfl⟩:=A;cases xo hk;refine (BS (ho.run _ _ _ _ hd) (M.run _ _ _ R) (hb.run _ _ _ hy) hm).imp λG H Q h=>?_;obtain⟨φ,E,B,q⟩:=h;refine rM ⟨φ,E,B,λv H1 z J s1 N=>⟨k,N,q H1 z J s1⟩⟩
def gI:W->Option D
 |.d (.int i)=>some (.int (-i))
 |_=>none
theorem m6 (M:IE K X a fa):IE K X (.UnaryOp .USub a pos) (iUn gI fa):=by
 refine⟨λenv st r A=>?_⟩;simp only[iUn,qac,qad]at A;obtain⟨⟨x,s1⟩,R,d,hd,rfl⟩:=A;cases x with
 |h n=>cases hd
 |d x=>
  cases x with
  |int i=>
   cases hd;refine (F0 EK (M.run _ _ _ R)).imp ?_
   rintro G H Q ⟨φ,E,B,q⟩
   exact⟨φ,E,B,λv H1 z J s1 N=>⟨i,N,q _ H1 z J s1 U⟩⟩
  |_=>cases hd
theorem qx (M:IE K X a fa):IE K X (.UnaryOp .Not a pos) (yT fa):=by
 refine⟨λenv st r A=>?_⟩;simp only[yT,qac,qad]at A;obtain⟨x,R,k,hk,rfl⟩:=A;refine (D5 (M.run _ _ _ R)).imp ?_
 rintro G H Q ⟨φ,E,B,q⟩
 exact⟨φ,E,B,λv H1 z J s1 N=>⟨k,by rw[(sh hk)]at N;exact N,q _ H1 z J s1 U⟩⟩
theorem qy {op} (h:IE K X a fa):IE K X (.BoolOp op [a] pos) fa:=⟨λenv st r A=>D6 (h.run env st r A)⟩
theorem qq {rest:List Expr} (M:IE K X a fa) (hb:IE K X (.BoolOp .And (b::rest) pos) fb):IE K X (.BoolOp .And (a::b::rest) pos) (k7 fa fb):=by
 refine⟨λenv st r A=>?_⟩;simp only[k7,qac]at A;obtain⟨x,R,k,hk,A⟩:=A;have e:=sh hk;cases k with
 |false=>
  cases A;refine (zC (M.run _ _ _ R) nW).imp ?_
  rintro G H Q ⟨φ,E,B,q⟩
  refine⟨φ,E,B,λv H1 z J s1 N=>⟨false,by rw[e]at N;exact N,?_⟩⟩;exact q _ H1 z J s1 U
 |true=>
  refine (zC (M.run _ _ _ R) (hb.run _ _ _ A)).imp ?_
  rintro G H Q ⟨φ,E,B,q⟩
  refine⟨φ,E,B,λv H1 z J s1 N=>⟨true,by rw[e]at N;exact N,?_⟩⟩;exact⟨z,E.fw B J,s1,λu H2 P Y s2 w2=>q u H2 P (J.trans Y) s2 w2⟩
variable {ta tb:Tf}
theorem qM (M:IT K X a ta):IT K X (.UnaryOp .Not a pos) (cK ta):=by
 refine⟨λenv st r A=>?_⟩;simp only[cK,qad]at A;obtain⟨x,R,rfl⟩:=A;refine (Eh (M.run _ _ _ R)).imp ?_
 rintro G H Q ⟨φ,E,B,q⟩
 exact⟨φ,E,B,λH1 z J s1=>q H1 z J s1⟩
theorem Du (h:ITW K X a ta):IT K X a ta:=⟨λenv st r A=>(h.run env st r A).pt⟩
theorem jT (h:IT K X a ta):ITW K X (.BoolOp .And [a] pos) ta:=⟨λenv st r A=>BX (h.run env st r A)⟩
theorem l8 (h:IT K X a ta):ITW K X (.BoolOp .Or [a] pos) ta:=⟨λenv st r A=>Ej (h.run env st r A)⟩
theorem l7 {rest:List Expr} (M:IT K X a ta) (hb:ITW K X (.BoolOp .And (b::rest) pos) tb):ITW K X (.BoolOp .And (a::b::rest) pos) (fF ta tb):=by
 refine⟨λenv st r A=>?_⟩;simp only[fF,qac]at A;obtain⟨⟨k,s1⟩,R,A⟩:=A;cases k with
 |false=>
  cases A;refine (zW (M.run _ _ _ R) t4).imp ?_
  rintro G H Q ⟨φ,E,B,q⟩
  refine⟨φ,E,B,λH1 z J s1=>?_⟩;exact q H1 z J s1
 |true=>
  refine (zW (M.run _ _ _ R) (hb.run _ _ _ A)).imp ?_
  rintro G H Q ⟨φ,E,B,q⟩
  refine⟨φ,E,B,λH1 z J s1=>?_⟩;exact⟨z,E.fw B J,s1,λH2 P Y s2=>q H2 P (J.trans Y) s2⟩
theorem qO {rest:List Expr} (M:IT K X a ta) (hb:ITW K X (.BoolOp .Or (b::rest) pos) tb):ITW K X (.BoolOp .Or (a::b::rest) pos) (d6 ta tb):=by
 refine⟨λenv st r A=>?_⟩;simp only[d6,qac]at A;obtain⟨⟨k,s1⟩,R,A⟩:=A;cases k with
 |true=>
  cases A;refine (CP (M.run _ _ _ R) t4).imp ?_
  rintro G H Q ⟨φ,E,B,q⟩
  refine⟨φ,E,B,λH1 z J s1=>?_⟩;exact q H1 z J s1
 |false=>
  refine (CP (M.run _ _ _ R) (hb.run _ _ _ A)).imp ?_
  rintro G H Q ⟨φ,E,B,q⟩
  refine⟨φ,E,B,λH1 z J s1=>?_⟩;exact⟨z,E.fw B J,s1,λH2 P Y s2=>q H2 P (J.trans Y) s2⟩
theorem vO {tc:Tf} (hc:IT K X c tc) (M:IE K X a fa) (hb:IE K X b fb):IE K X (.IfExp c a b pos) (jl tc fa fb):=by
 refine⟨λenv st r A=>?_⟩;simp only[jl,qac]at A;obtain⟨⟨k,s1⟩,R,A⟩:=A;cases k with
 |true=>
  refine (tU (hc.run _ _ _ R) (M.run _ _ _ A) nW).imp ?_
  rintro G H Q ⟨φ,E,B,q⟩
  refine⟨φ,E,B,λH1 z J s1=>?_⟩;exact⟨z,E.fw B J,s1,λu H2 P Y s2 w2=>q u H2 P (J.trans Y) s2 w2⟩
 |false=>
  refine (tU (hc.run _ _ _ R) nW (hb.run _ _ _ A)).imp ?_
  rintro G H Q ⟨φ,E,B,q⟩
  refine⟨φ,E,B,λH1 z J s1=>?_⟩;exact⟨z,E.fw B J,s1,λu H2 P Y s2 w2=>q u H2 P (J.trans Y) s2 w2⟩
def iy (st:Sto):W->Option (List D)
 |.d (.tup ds)=>some ds
 |.d (.lst ds)=>some ds
 |.d (.scr ns)=>some (ns.map D.int)
 |.h n=>lg st n
 |_=>none
theorem t8 {st:Sto}{H:Hp}{φ:List Addr}{w:W}{v:V}{ds:List D} (S:Sr K H φ st) (r:Rw K H φ w v) (e:iy st w=some ds):∃ a L,v=.ref a/\(SqL K H a L\/H a=some (.tup L))/\Rls K H φ ds L:=by
 cases w with
 |h n=>
  obtain⟨a,ea,rfl⟩:=r;obtain⟨L,q,rl⟩:=S.atl n a ds ea e;exact⟨a,L,U,.inl (SqL.of q),rl⟩
 |d x=>
  cases x with
  |tup es=>cases e;obtain⟨a,L,rfl,h1,h2⟩:=r;exact⟨a,L,U,.inr h1,h2⟩
  |lst es=>cases e;obtain⟨a,L,rfl,h0,h1,h2⟩:=r;exact⟨a,L,U,.inl (.inl h1),h2⟩
  |scr ns=>
   cases e;obtain⟨a,rfl,h⟩:=r;refine⟨a,_,U,.inl ?_,Rls.of_ints ns⟩;rcases h with⟨o,h⟩|h
   ·exact .inl (.inr ⟨o,h⟩)
   ·exact .inr h
  |_=>cases e
theorem iU {st:Sto}{H:Hp}{φ:List Addr}{w:W}{v:V}{ds:List D} (S:Sr K H φ st) (r:Rw K H φ w v) (e:iy st w=some ds):∃ a L,v=.ref a/\(SqL K H a L\/SqT K H a L)/\Rls K H φ ds L:=by
 obtain⟨a,L,h0,h1,h2⟩:=t8 S r e;exact⟨a,L,h0,h1.imp id SqT.of,h2⟩
def c9 (st:Sto):W->Option Bool
 |.d .non=>some false
 |.d (.bl b)=>some b
 |.d (.int i)=>some (i != 0)
 |w=>(iy st w).map λds=>!ds.isEmpty
theorem Co {st:Sto}{H:Hp}{φ:List Addr}{w:W}{v:V}{k:Bool} (S:Sr K H φ st) (r:Rw K H φ w v) (e:c9 st w=some k):AL K v H k:=by
 have seq:∀ ds,iy st w=some ds->k=!ds.isEmpty->AL K v H k:=λds h hk=>by
  obtain⟨a,L,rfl,h1,h2⟩:=iU S r h;have e':k=!L.isEmpty:=by
   rw[hk];cases ds<;>cases L<;>first|rfl|cases h2.length
  rcases h1 with h1|h1
  ·exact .inl ⟨L,h1,e'⟩
  ·exact .inr (.inl ⟨L,h1,e'⟩)
 cases w with
 |h n=>
  obtain⟨ds,h1,h2⟩:=qad.mp e;exact seq ds h1 h2.symm
 |d x=>
  cases x with
  |non=>subst r;cases e;exact U
  |bl b=>subst r;cases e;exact U
  |int i=>subst r;cases e;exact U
  |tup ds=>exact seq ds U (qaL e).symm
  |lst ds=>exact seq ds U (qaL e).symm
  |scr ds=>exact seq _ U (qaL e).symm
  |_=>cases e
theorem qN (M:IE K X a fa) (he:zN a=true:=by rfl) (hK:X.K=K:=by rfl):IT K X a (cL c9 fa):=by
 subst hK;refine⟨λenv st r A=>?_⟩;simp only[cL,qac,qad]at A;obtain⟨x,R,k,hk,rfl⟩:=A;refine (zT (M.run _ _ _ R) (yk he)).imp ?_
 rintro G H Q ⟨φ,E,B,q⟩
 exact⟨φ,E,B,λv H1 z J s1 N=>⟨k,Co s1 N hk,q H1 z J s1⟩⟩
variable {af:Af}
theorem ci:IA K X [] ae:=by
 refine⟨λenv st r A=>?_⟩;cases A;refine rq.imp ?_
 rintro G H Q ⟨φ,E,B,q⟩
 exact q [] H φ (Fw.refl φ H) B U
theorem bB (M:IE K X e fa) (A:IA K X es af) (hs:az e=true:=by rfl):IA K X (e::es) (aa fa af):=by
 refine⟨λenv st r h=>?_⟩;simp only[aa,qac,qad]at h;obtain⟨x,R,y,hy,rfl⟩:=h;refine (mh (M.run _ _ _ R) (A.run _ _ _ hy) (aT hs)).imp ?_
 rintro G H Q ⟨φ,E,B,q⟩
 refine⟨φ,E,B,λv H1 z J s1 N=>⟨z,E.fw B J,s1,λu H2 P Y s2 w2=>?_⟩⟩;exact q _ H2 P (J.trans Y) s2 ⟨v,u,U,N.fw s1 Y,w2⟩
theorem oW {x:Str}{id:String}{p:Pos}{g:Sto->List W->Option D} (hc:eG K X (.builtin id) g) (hg:Gl X x) (hm:X.mg x=none) (hv:qcd x=some (.builtin id)) (M:IA K X (e::es) af)
  (hn:x≠"__name__":=by decide) (hdb:(x==("__debug__" : Str))=false:=by decide) (hs:az e=true:=by rfl) (hp:es.all az=true:=by rfl) :
  IE K X (.Call (.Name x p) (e::es) [] pos) (iCB g af):=by
 refine⟨λenv st r A=>?_⟩;simp only[iCB,qac,qad]at A;obtain⟨y,hy,d,hd,rfl⟩:=A;refine (nV (hc.run _ _ _ hd) hg hm hv (M.run _ _ _ hy) hn hdb (aT hs) (br hp)).imp ?_
 rintro G H Q ⟨φ,E,B,q⟩
 exact⟨φ,E,B,λv H1 z J s1 N=>⟨z,s1,N,λu H2 Y w2=>q u H2 z (J.trans (Fw.same Y)) (s1.same Y) w2⟩⟩
theorem Fm {x:Str}{T:String}{p:Pos}{g:Sto->List W->Option D} (hc:eG K X (.type T) g) (hg:Gl X x) (hm:X.mg x=none) (hv:qcd x=some (.type T)) (M:IA K X (e::es) af)
  (hn:x≠"__name__":=by decide) (hdb:(x==("__debug__" : Str))=false:=by decide) (hs:az e=true:=by rfl) (hp:es.all az=true:=by rfl) :
  IE K X (.Call (.Name x p) (e::es) [] pos) (iCB g af):=by
 refine⟨λenv st r A=>?_⟩;simp only[iCB,qac,qad]at A;obtain⟨y,hy,d,hd,rfl⟩:=A;refine (c8 (hc.run _ _ _ hd) hg hm hv (M.run _ _ _ hy) hn hdb (aT hs) (br hp)).imp ?_
 rintro G H Q ⟨φ,E,B,q⟩
 exact⟨φ,E,B,λv H1 z J s1 N=>⟨z,s1,N,λu H2 Y w2=>q u H2 z (J.trans (Fw.same Y)) (s1.same Y) w2⟩⟩
theorem Fo {x:Str}{id:String}{p:Pos}{g:Sto->List W->Option (List D)} (hc:rS K X (.builtin id) g) (hg:Gl X x) (hm:X.mg x=none) (hv:qcd x=some (.builtin id)) (M:IA K X (e::es) af)
  (hn:x≠"__name__":=by decide) (hdb:(x==("__debug__" : Str))=false:=by decide) (hs:az e=true:=by rfl) (hp:es.all az=true:=by rfl) :
  IL K X (.Call (.Name x p) (e::es) [] pos) (iCL g af):=by
 refine⟨λenv st r A=>?_⟩;simp only[iCL,qac,qad]at A;obtain⟨y,hy,d,hd,rfl⟩:=A;refine (nV (hc.run _ _ _ hd) hg hm hv (M.run _ _ _ hy) hn hdb (aT hs) (br hp)).imp ?_
 rintro G H Q ⟨φ,E,B,q⟩
 exact⟨φ,E,B,λv H1 z J s1 N=>⟨z,s1,N,λa us H2 Y n2 w2=>q a us H2 z (J.trans (Fw.same Y)) (s1.same Y) n2 w2⟩⟩
theorem CD {x:Str}{T:String}{p:Pos}{g:Sto->List W->Option (List D)} (hc:rS K X (.type T) g) (hg:Gl X x) (hm:X.mg x=none) (hv:qcd x=some (.type T)) (M:IA K X (e::es) af)
  (hn:x≠"__name__":=by decide) (hdb:(x==("__debug__" : Str))=false:=by decide) (hs:az e=true:=by rfl) (hp:es.all az=true:=by rfl) :
  IL K X (.Call (.Name x p) (e::es) [] pos) (iCL g af):=by
 refine⟨λenv st r A=>?_⟩;simp only[iCL,qac,qad]at A;obtain⟨y,hy,d,hd,rfl⟩:=A;refine (c8 (hc.run _ _ _ hd) hg hm hv (M.run _ _ _ hy) hn hdb (aT hs) (br hp)).imp ?_
 rintro G H Q ⟨φ,E,B,q⟩
 exact⟨φ,E,B,λv H1 z J s1 N=>⟨z,s1,N,λa us H2 Y n2 w2=>q a us H2 z (J.trans (Fw.same Y)) (s1.same Y) n2 w2⟩⟩
theorem mO {H:Hp}{φ:List Addr}:∀ {ws:List W}{L:List V}{ds:List D},sq ws=some ds->Rws K H φ ws L->Rls K H φ ds L
 |[],_,_,e,h=>by cases e;exact h
 |.d x::ws,_,_,e,h=>by
  obtain⟨v,r,rfl,h1,h2⟩:=h;obtain⟨es,e1,rfl⟩:=qad.mp e;exact⟨v,r,U,h1,mO e1 h2⟩
 |.h n::ws,_,_,e,h=>by cases e
theorem qB {x1} (h:IA K X es af):IE K X (.Tuple es x1 pos) (be af):=by
 refine⟨λenv st r A=>?_⟩;simp only[be,qac]at A;obtain⟨y,hy,ds,hd,A⟩:=A;split at A
 ·cases A
  rename_i hl;refine (D8 (h.run _ _ _ hy)).imp ?_
  rintro G H Q ⟨φ,E,B,q⟩
  refine⟨φ,E,B,λL H1 z J s1 N=>?_⟩;have w:=mO hd N;refine⟨by rw[<-w.length];exact iW hl,λp hp=>?_⟩;exact q _ _ z (J.trans (Fw.new hp)) (s1.new hp) ⟨p,L,U,upd_same,w.fw s1 (Fw.new hp)⟩
 ·cases A
theorem kE (h:IA K X es af):IL K X (.List es pos) (bO af):=by
 refine⟨λenv st r A=>?_⟩;simp only[bO,qac]at A;obtain⟨y,hy,ds,hd,A⟩:=A;split at A
 ·cases A
  rename_i hl;refine (zF (h.run _ _ _ hy)).imp ?_
  rintro G H Q ⟨φ,E,B,q⟩
  refine⟨φ,E,B,λL H1 z J s1 N=>?_⟩;have w:=mO hd N;exact⟨by rw[<-w.length];exact iW hl,λp hp=>q p L H1 z J s1 hp w⟩
 ·cases A
theorem dI {lf:Lf} (h:IL K X e lf):IE K X e (aw lf):=by
 refine⟨λenv st r A=>?_⟩;simp only[aw,qad]at A;obtain⟨y,hy,rfl⟩:=A;refine (h.run _ _ _ hy).imp ?_
 rintro G H Q ⟨φ,E,B,q⟩
 refine⟨φ,E,B,λa L H1 z J s1 n1 N=>?_⟩;exact q _ _ z (J.trans (Fw.new n1)) (s1.new n1) ⟨a,L,U,s1.nin n1,.inl upd_same,N.fw s1 (Fw.new n1)⟩
theorem Sr.moreC {H:Hp}{φ:List Addr}{st:Sto}{a:Addr}{o:HO}{c:C} (S:Sr K H φ st) (n:H a=none) (w:Rc K (upd H a o) (φ++[a]) φ.length a c):Sr K (upd H a o) (φ++[a]) (st++[c]):=by
 refine⟨?_,by rw[qaz,qaz,S.len];rfl,λi b es e1 e2=>?_⟩
 ·rw[qcx]
  refine⟨S.nd,by simp,λx R y hy e=>?_⟩;rw[qal.mp hy]at e;rw[e]at R;exact S.nin n R
 ·by_cases hi:i<φ.length
  ·rw[qaD hi]at e1
   rw[qaD (by rw[<-S.len];exact hi)]at e2;exact (S.at_ i b es e1 e2).fw S ⟨⟨_,U,λb hb=>by rw[qal.mp hb];exact n⟩,λb o _ h=>aQ.new n _ b o h,λb o h=>⟨o,aQ.new n _ b o h⟩⟩ λo h=>aQ.new n _ _ _ h
  ·have e:i=φ.length:=by
    have:=(qar.mp e1).1
    simp at this
    lia
   subst e;rw[qaK (qao _)]at e1;rw[S.len,qaK (qao _)]at e2
   simp at e1 e2
   subst e1 e2;exact w
theorem Fw.moreO {H:Hp}{φ:List Addr}{a:Addr}{o:HO} (n:H a=none):Fw φ (φ++[a]) H (upd H a o):=
 ⟨⟨_,U,λb hb=>by rw[qal.mp hb];exact n⟩,λb o _ h=>aQ.new n _ b o h,λb o h=>⟨o,aQ.new n _ b o h⟩⟩
theorem Fw.more {H:Hp}{φ:List Addr}{a:Addr}{L:List V} (n:H a=none):Fw φ (φ++[a]) H (upd H a (.lst L)):=Fw.moreO n
theorem Sr.more {H:Hp}{φ:List Addr}{st:Sto}{a:Addr}{L:List V}{ds:List D} (S:Sr K H φ st) (n:H a=none) (w:Rls K H φ ds L):Sr K (upd H a (.lst L)) (φ++[a]) (st++[.l ds]):=
 S.moreC n ⟨L,upd_same,w.fw S (Fw.moreO n)⟩
theorem kF {lf:Lf} (h:IL K X e lf):IE K X e (cV lf):=by
 refine⟨λenv st r A=>?_⟩;simp only[cV,qad]at A;obtain⟨y,hy,rfl⟩:=A;refine (h.run _ _ _ hy).imp ?_
 rintro G H Q ⟨φ,E,B,q⟩
 refine⟨φ,E,B,λa L H1 z J s1 n1 N=>?_⟩;exact q _ _ _ (J.trans (Fw.more n1)) (s1.more n1 N) ⟨a,by rw[<-s1.len];simp,U⟩
def spI (K:qae) (m:Fn):Sp:=λL H Q _=>∃ φ st ws r,m ws st=some r/\Rws K H φ ws L/\Sr K H φ st/\∀ v H' φ',Fw φ φ' H H'->Sr K H' φ' r.2->Rw K H' φ' r.1 v->Q v H'
theorem A9 {x:Str}{k j:Nat}{ff:Addr}{fd:qb4}{ps:List Str}{m:Fn}{p:Pos} (F:dD X.prog X.w X.K X.mg X.base CX0 j ff fd ps (spI K m)) (hjk:j<=k) (A:bu k X.A) (hg:Gl X x) (hm:X.mg x=some (.ref ff)) (hk:qcz X.K (.ref ff)=true) (hb:dc X.K fd ps [])
  (M:IA K X (e::es) af) (hdb:(x==("__debug__" : Str))=false:=by decide) (hs:az e=true:=by rfl) (hp:es.all az=true:=by rfl) :
  IE K X (.Call (.Name x p) (e::es) [] pos) (av m af):=by
 refine⟨λenv st r h=>?_⟩;simp only[av,qac]at h;obtain⟨y,hy,h⟩:=h;refine (wA (F.mono hjk) A hg hm hk hb .nil zB (M.run _ _ _ hy) hdb (aT hs) (br hp)).imp ?_
 rintro G H Q ⟨φ,E,B,q⟩
 refine⟨φ,E,B,λL H1 z J s1 N=>?_⟩;show spI K m _ H1 Q E0;rw[qbl];exact⟨z,_,_,r,h,N,s1,λv H2 P Y s2 w2=>q v H2 P (J.trans Y) s2 w2⟩
end
inductive Fl where
 |nx (env:Ev) (st:Sto)|rt (w:W) (st:Sto)|bk (env:Ev) (st:Sto)|ct (env:Ev) (st:Sto)
abbrev Sf:=Ev->Sto->Option Fl
def yp (K:qae) (φ:List Addr) (H:Hp) (D:ox):Fl->Prop
 |.nx e s=>∀ b H' a,Fw φ a H H'->Er K H' a e b->Sr K H' a s->D.nx b H'
 |.rt w s=>∀ v H' a,Fw φ a H H'->Sr K H' a s->Rw K H' a w v->D.rt v H'
 |.bk e s=>∀ b H' a,Fw φ a H H'->Er K H' a e b->Sr K H' a s->D.bk b H'
 |.ct e s=>∀ b H' a,Fw φ a H H'->Er K H' a e b->Sr K H' a s->D.ct b H'
theorem yp.fw {K:qae}{φ d:List Addr}{H H1:Hp}{D:ox}{r:Fl} (h:yp K φ H D r) (f:Fw φ d H H1):yp K d H1 D r:=by
 cases r with
 |nx e s=>exact λb H' a c=>h b H' a (f.trans c)
 |rt w s=>exact λv H' a c=>h v H' a (f.trans c)
 |bk e s=>exact λb H' a c=>h b H' a (f.trans c)
 |ct e s=>exact λb H' a c=>h b H' a (f.trans c)
def tS (K:qae) (env:Ev) (st:Sto) (r:Fl):TS:=λD a H=>∃ φ,Er K H φ env a/\Sr K H φ st/\yp K φ H D r
structure IS (K:qae) (X:Cx) (s:Stmt) (g:Sf):Prop where
 run:∀ env st r,g env st=some r->PS X s (tS K env st r)
structure ISs (K:qae) (X:Cx) (s:List Stmt) (g:Sf):Prop where
 run:∀ env st r,g env st=some r->PSs X s (tS K env st r)
inductive Tg where
 |nm (i:Nat)|tp (is:List Nat)|tq (i:Nat) (is:List Nat)
def sK:Tg->List Nat
 |.nm i=>[i]
 |.tp is=>is
 |.tq i is=>i::is
def oa:List Nat->List D->Ev->Ev
 |i::is,d::ds,env=>oa is ds (env.set i (some (.d d)))
 |_,_,env=>env
def eF:Tg->W->Ev->Option Ev
 |.nm i,w,env=>some (env.set i (some w))
 |.tp is,.d (.tup ds),env=>if is.length=ds.length then some (oa is ds env) else none
 |.tp is,.d (.lst ds),env=>if is.length=ds.length then some (oa is ds env) else none
 |.tq i is,.d (.tup [d,.tup ds]),env=>if is.length=ds.length then some (oa is ds (env.set i (some (.d d)))) else none
 |_,_,_=>none
def AK (is:List Nat) (b a:St):Prop:=a.length=b.length/\∀ j,j∉is->a[j]?=b[j]?
def tG (K:qae) (g:Tg):TG:=λv c H Q=>∃ φ st env w a,Er K H φ env c/\Sr K H φ st/\Rw K H φ w v/\eF g w env=some a/\∀ b,Er K H φ a b->AK (sK g) c b->Q b H
def tGs (K:qae) (is:List Nat):TGs:=λc b H Q=>∃ φ st env ds,Er K H φ env b/\Sr K H φ st/\Rls K H φ ds c/\is.length=ds.length/\∀ a,Er K H φ (oa is ds env) a->AK is b a->Q a H
def aS:Sf
 |env,st=>some (.nx env st)
def ag (a b:Sf):Sf
 |env,st=>(a env st).bind λr=>match r with
 |.nx e s=>b e s
 |r=>some r
def aA (g:Tg) (f:Ef):Sf
 |env,st=>(f env st).bind λr=>(eF g r.1 env).map λe=>.nx e r.2
def yU (i j:Nat) (a:Af):Sf
 |env,st=>(a env st).bind λr=>match r.1 with
 |[x,y]=>some (.nx ((env.set i (some x)).set j (some y)) r.2)
 |_=>none
def iz (st:Sto) (o i v:W):Option Sto:=match o,i,v with
 |.h n,.d (.int k),.d x=>(lg st n).bind λds=>(ixN ds.length k).map λj=>st.set n (.l (ds.set j x))
 |_,_,_=>none
def bN (o i v:Ef):Sf
 |env,st=>(v env st).bind λc=>(o env c.2).bind λb=>(i env b.2).bind λa=>(iz a.2 b.1 a.1 c.1).map λs=>.nx env s
def aL (f:Ef):Sf
 |env,st=>(f env st).map λr=>.rt r.1 r.2
def d5 (f:Ef):Sf
 |env,st=>(f env st).map λr=>.nx env r.2
def aX (c:Tf) (a b:Sf):Sf
 |env,st=>(c env st).bind λr=>if r.1=true then a env r.2 else b env r.2
def uG:Sf
 |env,st=>some (.bk env st)
def oU:Sf
 |env,st=>some (.ct env st)
def cf (g:Tg) (body:Sf):List D->Ev->Sto->Option Fl
 |[],env,st=>some (.nx env st)
 |d::ds,env,st=>(eF g (.d d) env).bind λe=>(body e st).bind λr=>match r with
  |.nx e s=>cf g body ds e s
  |.ct e s=>cf g body ds e s
  |.bk e s=>some (.nx e s)
  |.rt w s=>some (.rt w s)
def eE (a:Lf) (g:Tg) (body:Sf):Sf
 |env,st=>(a env st).bind λr=>cf g body r.1 env r.2
def bC (c:Tf) (body:Sf):Nat->Ev->Sto->Option Fl
 |0,_,_=>none
 |n+1,env,st=>(c env st).bind λk=>if k.1=true then (body env k.2).bind λr=>match r with
   |.nx e s=>bC c body n e s
   |.ct e s=>bC c body n e s
   |.bk e s=>some (.nx e s)
   |.rt w s=>some (.rt w s)
  else some (.nx env k.2)
def lcI (g:Tg) (tt:Tf) (te:Ef) (env:Ev):List D->Sto->Option (List D×Sto)
 |[],st=>some ([],st)
 |d::ds,st=>(eF g (.d d) env).bind λe=>(tt e st).bind λb=>if b.1=true then (te e b.2).bind λx=>(sq [x.1]).bind λa=>(lcI g tt te env ds x.2).map λr=>(a++r.1,r.2)
   else lcI g tt te env ds b.2
def uD (k:Nat) (js:List Nat) (env:Ev):Ev:=qaH k none++js.map λj=>env.getD j none
def iLc (k:Nat) (js:List Nat) (a:Lf) (g:Tg) (tt:Tf) (te:Ef):Lf
 |env,st=>(a env st).bind λr=>if r.1.length<=1000000 then lcI g tt te (uD k js env) r.1 r.2 else none
def aN:Tf
 |_,st=>some (true,st)
def aB (f:Ef):Lf
 |env,st=>(f env st).bind λr=>match r.1 with
 |.d (.tup ds)=>some (ds,r.2)
 |.d (.lst ds)=>some (ds,r.2)
 |_=>none
def bf (lo:Int) (n:Nat):List D:=(qak n).map λk:Nat=>D.int (lo+k)
def bz (a:Af):Lf
 |env,st=>(a env st).bind λr=>match r.1 with
 |[.d (.int j)]=>if -(2^62)<=j/\j<2^62 then some (bf 0 j.toNat,r.2) else none
 |_=>none
def ce:Nat->List D->List D
 |_,[]=>[]
 |k,d::ds=>.tup [.int k,d]::ce (k+1) ds
def bV (a:Af):Lf
 |env,st=>(a env st).bind λr=>match r.1 with
 |[.d (.tup ds)]=>some (ce 0 ds,r.2)
 |[.d (.lst ds)]=>some (ce 0 ds,r.2)
 |_=>none
section
variable {K:qae}{X:Cx}{pos:Pos}
theorem PS.imp {s:Stmt}{t t':TS} (h:PS X s t) (m:∀ D A H,t' D A H->t D A H):PS X s t':=λB s A H D I q=>h B s A H D I (m D A H q)
theorem PSs.imp {s:List Stmt}{t t':TS} (h:PSs X s t) (m:∀ D A H,t' D A H->t D A H):PSs X s t':=λB s A H D I q=>h B s A H D I (m D A H q)
theorem Er.set {H:Hp}{φ:List Addr}{env:Ev}{A:St} (h:Er K H φ env A) (i:Nat) {w:W}{v:V} (r:Rw K H φ w v):Er K H φ (env.set i (some w)) (A.set i (some v)):=by
 refine⟨by rw[qb5,qb5,h.len],λj w' e=>?_⟩;by_cases hj:i=j
 ·subst hj
  have hi:=by
   have:=(qar.mp e).1
   rwa [qb5]at this
  rw[qbq hi]at e;cases e;exact⟨v,by rw[qbq (by rw[<-h.len];exact hi)],r⟩
 ·rw[qbB hj]at e
  obtain⟨v',O,r1⟩:=h.at_ j w' e;exact⟨v',by rw[qbB hj];exact O,r1⟩
theorem Ao (i:Nat) (A:St) (v:Option V):AK [i] A (A.set i v):=⟨by rw[qb5],λj hj=>by rw[qbB (by rintro rfl;simp at hj)]⟩
theorem jK {i:Nat}{x:Str} (h:PG X (.Name x pos) (sE i)):PG X (.Name x pos) (tG K (.nm i)):=by
 intro B s A H v u Q I T q;obtain⟨φ,st,env,w,env',E,F,r,e,q⟩:=q;cases e;exact h B s A H v u Q I T (q _ (E.set i r) (Ao i A _))
theorem jL:PGs X [] (tGs K []):=by
 intro B s A H Y us Q I T q;obtain⟨φ,st,env,ds,E,F,r,e,q⟩:=q;cases ds with
 |nil=>cases r;exact BJ B s A H [] us Q I T ⟨U,q A E ⟨U,λ_ _=>rfl⟩⟩
 |cons _ _=>cases e
theorem fH {i:Nat}{is:List Nat}{x:Str}{es:List Expr} (h1:PG X (.Name x pos) (sE i)) (h2:PGs X es (tGs K is)):PGs X (.Name x pos::es) (tGs K (i::is)):=by
 intro B s A H Y us Q I T q;obtain⟨φ,st,env,ds,E,F,r,e,q⟩:=q;cases ds with
 |nil=>cases e
 |cons d ds=>
  obtain⟨v,vr,rfl,r1,r2⟩:=r;refine zH h1 h2 (vo U) B s A H _ us Q I T ⟨v,vr,U,φ,st,_,ds,E.set i (w:=.d d) r1,F,r2,by simpa using e,λσ' N s'=>q σ' N ?_⟩;refine⟨by rw[s'.1,qb5],λj hj=>?_⟩;rw[s'.2 j (λz=>hj (qaj _ z)),qbB (by rintro rfl;exact hj qag)]
def GI (K:qae) (n:Nat) (t:TGs):TG:=λv A H Q=>∃ a xs,v=.ref a/\SqL K H a xs/\xs.length=n/\t xs A H Q
theorem D9 {es:List Expr}{k:Nat}{t:TGs}{n:Nat} (hc:X.calm=true) (h:PGs X es t) (hn:(qbX es X.env).length=n) (hst:(qbX es X.env).findIdx? (·.1)=none):PG X (.Tuple es k pos) (GI X.K n t):=by
 intro B s A H v u Q I r hw;obtain⟨a,xs,O,hq,P,hw⟩:=hw;subst O;cases r;obtain⟨its,T,p,hz⟩:=I.list hq;refine qab (qeH ?_);unfold unpack;rw[show (qbX es X.env).length=its.toArray.size by simp[hn,<-P,T.length],hst];refine qab (qbT (PySem.W.kun_itemsOf (I.ok.hd hc) p.isList λh' hx=>?_));exact h B _ A H xs _ Q (I.kept λb o e=>hx b o (qax (qau e)) e) (by simpa using T) hw
theorem m8 {es:List Expr}{k n:Nat}{is:List Nat} (h:PGs X es (tGs K is)) (hes:es.all az=true:=by rfl) (hn:es.length=n:=by rfl) (hi:is.length=n:=by rfl) (hc:X.calm=true:=by rfl) (hK:X.K=K:=by rfl):PG X (.Tuple es k pos) (tG K (.tp is)):=by
 intro B s A H v u Q I T q;obtain⟨φ,st,env,w,env',E,F,r,e,q⟩:=q;cases w with
 |h n=>cases e
 |d x=>
  cases x with
  |tup ds=>
   have N:(if is.length=ds.length then some _ else none)=some env':=e;by_cases P:is.length=ds.length
   ·rw[iFP P]at N
    cases N;obtain⟨a,Y,rfl,hq,G⟩:=r;exact Ea hc h ((pB hes).trans hn) (mD hes) B s A H _ u Q I T ⟨a,Y,U,(SqT.of hq),by rw[<-G.length,<-P,hi],φ,st,env,ds,E,F,G,P,q⟩
   ·rw[iFN P]at N
    cases N
  |lst ds=>
   have N:(if is.length=ds.length then some _ else none)=some env':=e;by_cases P:is.length=ds.length
   ·rw[iFP P]at N
    cases N;obtain⟨a,Y,rfl,_,hq,G⟩:=r;exact D9 hc h ((pB hes).trans hn) (mD hes) B s A H _ u Q I T ⟨a,Y,U,.inl hq,by rw[<-G.length,<-P,hi],φ,st,env,ds,E,F,G,P,q⟩
   ·rw[iFN P]at N
    cases N
  |_=>cases e
variable {s:Stmt}{ss rest:List Stmt}{e a b c:Expr}{ga gb:Sf}{f fa fb fc:Ef}
theorem lZ:ISs K X [] aS:=by
 refine⟨λenv st r G=>?_⟩;cases G;exact BR.imp λD A H ⟨φ,E,F,q⟩=>q A H φ (Fw.refl φ H) E F
theorem l5 (h:IS K X s ga):ISs K X [s] ga:=⟨λenv st r G=>wE (h.run env st r G)⟩
theorem jS (h1:IS K X s ga) (h2:ISs K X rest gb):ISs K X (s::rest) (ag ga gb):=by
 refine⟨λenv st r G=>?_⟩;simp only[ag,qac]at G;obtain⟨r1,O,G⟩:=G;cases r1 with
 |nx e s1=>
  refine (di (h1.run _ _ _ O) (h2.run _ _ _ G)).imp ?_
  rintro D A H ⟨φ,E,F,q⟩
  exact⟨φ,E,F,λσ' H' φ' f' N s'=>⟨φ',N,s',q.fw f'⟩⟩
 |rt w s1=>
  cases G;exact (di (h1.run _ _ _ O) fN).imp λD A H ⟨φ,E,F,q⟩=>⟨φ,E,F,q⟩
 |bk w s1=>
  cases G;exact (di (h1.run _ _ _ O) fN).imp λD A H ⟨φ,E,F,q⟩=>⟨φ,E,F,q⟩
 |ct w s1=>
  cases G;exact (di (h1.run _ _ _ O) fN).imp λD A H ⟨φ,E,F,q⟩=>⟨φ,E,F,q⟩
theorem qJ {i:Nat}{x:Str}{pos':Pos} (hN:X.N.Nodup) (hi:X.N[i]?=some x) (hx:Loc X.env.scope x) (he:IE K X e f) (hs:qct e (some (.Name x pos')) pos.line X.env=pure false:=by rfl) (hf:X.fn x=true\/X.env.scope.names.lookup x=some .local:=by first|exact .inl U|exact .inr U|assumption) :
  IS K X (.Assign [.Name x pos'] e pos) (aA (.nm i) f):=by
 refine⟨λenv st r G=>?_⟩;simp only[aA,eF,qac,qad]at G;obtain⟨y,hy,N,ee,rfl⟩:=G;cases ee;refine (Eg hN hi hx (he.run _ _ _ hy) hs hf).imp ?_
 rintro D A H ⟨φ,E,F,q⟩
 exact⟨φ,E,F,λv H1 L M s1 w1=>q _ H1 L M ((E.fw F M).set i w1) s1⟩
theorem qG {tg:Expr}{g:Tg} (he:IE K X e f) (hg:PG X tg (tG K g)) (hs:qdF [tg] e pos.line X.env=pure false:=by rfl) (hw:qdG [tg] e X.env=pure none:=by rfl)
  (h1:az tg=true:=by rfl):IS K X (.Assign [tg] e pos) (aA g f):=by
 refine⟨λenv st r G=>?_⟩;simp only[aA,qac,qad]at G;obtain⟨y,hy,N,ee,rfl⟩:=G;refine (nY (he.run _ _ _ hy) hg hs hw (jw h1)).imp ?_
 rintro D A H ⟨φ,E,F,q⟩
 exact⟨φ,E,F,λv H1 L M s1 w1=>⟨L,_,env,_,N,E.fw F M,s1,w1,ee,λσ' e'' _=>q σ' H1 L M e'' s1⟩⟩
theorem Sr.putC {H:Hp}{φ:List Addr}{st:Sto}{n:Nat}{a:Addr}{o:HO}{c:C} (S:Sr K H φ st) (hn:φ[n]?=some a) (w:Fw φ φ H (upd H a o)->Rc K (upd H a o) φ n a c) :
  Fw φ φ H (upd H a o)/\Sr K (upd H a o) φ (st.set n c):=by
 have f:Fw φ φ H (upd H a o):=⟨⟨[],by simp,by simp⟩,λb o hb h=>by rw[upd_ne (λz=>hb (by rw[z];exact (qbr hn)))];exact h,λb o h=>by
  by_cases z:b=a
  ·subst z;exact⟨_,upd_same⟩
  ·exact⟨o,by rw[upd_ne z];exact h⟩⟩
 refine⟨f,S.nd,by rw[qb5];exact S.len,λm b es O e2=>?_⟩;by_cases hm:n=m
 ·subst hm
  rw[O]at hn;cases hn;have P:n<st.length:=by rw[<-S.len];exact (qar.mp O).1
  rw[qbq P]at e2;cases e2;exact w f
 ·rw[qbB hm]at e2
  have hne:b≠a:=by
   rintro rfl
   obtain⟨h1,h1'⟩:=qar.mp hn;obtain⟨h2,h2'⟩:=qar.mp O;exact hm ((qdL S.nd).mp (h1'.trans h2'.symm))
  exact (S.at_ m b es O e2).fw S f λo h=>by rw[upd_ne hne];exact h
theorem Sr.put {H:Hp}{φ:List Addr}{st:Sto}{n:Nat}{a:Addr}{Y:List V}{ds:List D} (S:Sr K H φ st) (hn:φ[n]?=some a) (w:Rls K H φ ds Y) :
  Fw φ φ H (upd H a (.lst Y))/\Sr K (upd H a (.lst Y)) φ (st.set n (.l ds)):=S.putC hn λf=>⟨Y,upd_same,w.fw S f⟩
theorem u8 {st s':Sto}{o i v:W} (h:iz st o i v=some s'):∃ n k x ds j,o=.h n/\i=.d (.int k)/\v=.d x/\lg st n=some ds/\ixN ds.length k=some j/\s'=st.set n (.l (ds.set j x)):=by
 unfold iz at h;split at h
 ·obtain⟨ds,O,h⟩:=qac.mp h
  obtain⟨j,e2,h⟩:=qad.mp h;exact⟨_,_,_,ds,j,U,U,U,O,e2,h.symm⟩
 ·cases h
theorem jQ {tpos:Pos} (ho:IE K X a fa) (hi:IE K X b fb) (hv:IE K X e f) (hb:kN b=true:=by rfl) (hs:qdF [.Subscript a b tpos] e pos.line X.env=pure false:=by rfl) (hw:qdG [.Subscript a b tpos] e X.env=pure none:=by rfl) :
  IS K X (.Assign [.Subscript a b tpos] e pos) (bN fa fb f):=by
 refine⟨λenv st r G=>?_⟩;simp only[bN,qac,qad]at G;obtain⟨T,ev,ro,eo,ri,ei,s',es,rfl⟩:=G;refine (nY (hv.run _ _ _ ev) (rs (ho.run _ _ _ eo) (hi.run _ _ _ ei) kf (lC hb)) hs hw (jw U)).imp ?_
 rintro D A H ⟨φ,E,F,q⟩
 refine⟨φ,E,F,λv H1 L M s1 w1=>⟨L,E.fw F M,s1,λo H2 φ2 f2 s2 w2=>⟨φ2,(E.fw F M).fw s1 f2,s2,λi H3 φ3 f3 s3 w3=>?_⟩⟩⟩;obtain⟨ro1,ro2⟩:=ro;obtain⟨rv1,rv2⟩:=T;obtain⟨ri1,ri2⟩:=ri;obtain⟨n,k,x,ds,j,rfl,rfl,rfl,eds,ej,rfl⟩:=u8 es;obtain⟨p,ep,rfl⟩:=(w2.fw s2 f3);obtain⟨Y,hp,rl⟩:=s3.atl n p ds ep eds;subst w3;obtain⟨f4,s4⟩:=s3.put ep (Rls.set j rl ((w1.fw s1 f2).fw s2 f3));refine⟨p,Y,k,j,U,U,hp,by rw[<-rl.length];exact ej,?_⟩;exact q _ _ φ3 (((M.trans f2).trans f3).trans f4) ((((E.fw F M).fw s1 f2).fw s2 f3).fw s3 f4) s4
theorem qI (h:IE K X e f):IS K X (.Return (some e) pos) (aL f):=by
 refine⟨λenv st r G=>?_⟩;simp only[aL,qad]at G;obtain⟨y,hy,rfl⟩:=G;exact (Ee (h.run _ _ _ hy)).imp λD A H ⟨φ,E,F,q⟩=>⟨φ,E,F,q⟩
theorem lU (h:IE K X e f) (hs:qct e none pos.line X.env=pure false:=by rfl):IS K X (.Expr e pos) (d5 f):=by
 refine⟨λenv st r G=>?_⟩;simp only[d5,qad]at G;obtain⟨y,hy,rfl⟩:=G;exact (BQ (h.run _ _ _ hy) hs).imp λD A H ⟨φ,E,F,q⟩=>⟨φ,E,F,λv H1 L M s1 w1=>q A H1 L M (E.fw F M) s1⟩
theorem vX {tc:Tf}{sa sb:List Stmt} (hc:IT K X c tc) (ha:ISs K X sa ga) (hb:ISs K X sb gb):IS K X (.If c sa sb pos) (aX tc ga gb):=by
 refine⟨λenv st r G=>?_⟩;simp only[aX,qac]at G;obtain⟨⟨k,s1⟩,hx,G⟩:=G;cases k with
 |true=>
  refine (CN (hc.run _ _ _ hx) (ha.run _ _ _ G) fN).imp ?_
  rintro D A H ⟨φ,E,F,q⟩
  refine⟨φ,E,F,λH1 L M s1=>Dt ?_⟩;exact⟨L,E.fw F M,s1,q.fw M⟩
 |false=>
  refine (CN (hc.run _ _ _ hx) fN (hb.run _ _ _ G)).imp ?_
  rintro D A H ⟨φ,E,F,q⟩
  refine⟨φ,E,F,λH1 L M s1=>Ds ?_⟩;exact⟨L,E.fw F M,s1,q.fw M⟩
theorem jP:IS K X (.Break pos) uG:=by
 refine⟨λenv st r G=>?_⟩;cases G;exact zQ.imp λD A H ⟨φ,E,F,q⟩=>q A H φ (Fw.refl φ H) E F
theorem lT:IS K X (.Continue pos) oU:=by
 refine⟨λenv st r G=>?_⟩;cases G;exact tY.imp λD A H ⟨φ,E,F,q⟩=>q A H φ (Fw.refl φ H) E F
def Gh (K:qae) (g:Sf):TS:=λD A H=>∃ env st r,g env st=some r/\tS K env st r D A H
def CW (K:qae) (f:Ef):TE:=λA H Q=>∃ env st r,f env st=some r/\tI K env st r A H Q
def Aq (K:qae) (f:Tf):TT:=λA H Q=>∃ env st r,f env st=some r/\tIT K env st r A H Q
theorem ISs.any (h:ISs K X ss ga):PSs X ss (Gh K ga):=λB s A H D I ⟨env,st,r,e,q⟩=>h.run env st r e B s A H D I q
theorem IE.any (h:IE K X e f):PE X e (CW K f):=λB s A H D I ⟨env,st,r,e,q⟩=>h.run env st r e B s A H D I q
theorem IT.any {tf:Tf} (h:IT K X e tf):PT X e (Aq K tf):=λB s A H D I ⟨env,st,r,e,q⟩=>h.run env st r e B s A H D I q
def Yl (K:qae) (φ0:List Addr) (H0:Hp) (J:It) (ds:List D):Prop:=∀ (H:Hp) (φ:List Addr) (st:Sto) (i:Nat),Fw φ0 φ H0 H->Sr K H φ st->
 (∀ d,ds[i]?=some d->J.go i H/\∀ x H',J.yld i H x H'->aQ H H'/\Rl K H' φ d x)/\(ds.length=i->J.stop i H)
def tII (K:qae) (env:Ev) (st:Sto) (r:List D×Sto):TI:=λA H R=>∃ φ,Er K H φ env A/\Sr K H φ st/\∀ J H' φ',Fw φ φ' H H'->Sr K H' φ' r.2->Yl K φ' H' J r.1->R J H'
structure II (K:qae) (X:Cx) (tg iter:Expr) (f:Lf):Prop where
 run:∀ env st r,f env st=some r->PI X tg iter (tII K env st r)
theorem PI.imp {tg iter:Expr}{t t':TI} (h:PI X tg iter t) (m:∀ A H R,t' A H R->t A H R):PI X tg iter t':=λB s A H R I q=>h B s A H R I (m A H R q)
variable {tg:Expr}
end
section
variable {K:qae}{X:Cx}{pos:Pos}{tg e a b:Expr}{f:Ef}{af:Af}
theorem m9 (h:IE K X e f) (hK:X.K=K:=by rfl):II K X tg e (aB f):=by
 subst hK;refine⟨λenv st r B=>?_⟩;simp only[aB,qac]at B;obtain⟨⟨w,s1⟩,hy,B⟩:=B;dsimp only at B;split at B
 ·rename_i ds
  cases B;refine (Eb (h.run _ _ _ hy)).imp ?_
  rintro G H R ⟨φ,P,N,q⟩
  refine⟨φ,P,N,λv H1 E f1 s1 w1=>?_⟩;obtain⟨a,Y,rfl,hq,B⟩:=w1;refine⟨a,U,⟨Y,(SqT.of hq)⟩,q _ H1 E f1 s1 λH2 u O i f2 s2=>?_⟩;have hq2:=(SqT.of hq).fw s1 f2;have hr2:=B.fw s1 f2;refine⟨λd hd=>?_,λhi=>⟨Y,hq2,by rw[<-hr2.length];exact qdK hi⟩⟩;obtain⟨v,ev,rv⟩:=hr2.get hd;refine⟨⟨Y,v,hq2,ev⟩,λx H' y=>?_⟩;obtain⟨rfl,y⟩:=y
  have:=y Y hq2
  rw[ev]at this;cases this;exact⟨aQ.refl _,rv⟩
 ·rename_i ds
  cases B;refine (BK (h.run _ _ _ hy)).imp ?_
  rintro G H R ⟨φ,P,N,q⟩
  refine⟨φ,P,N,λv H1 E f1 s1 w1=>?_⟩;obtain⟨a,Y,rfl,h0,hq,B⟩:=w1;refine⟨a,U,⟨Y,.inl hq⟩,q _ H1 E f1 s1 λH2 u O i f2 s2=>?_⟩;have hq2:SqL X.K H2 a Y:=.inl (hq.fw f2 h0);have hr2:=B.fw s1 f2;refine⟨λd hd=>?_,λhi=>⟨Y,hq2,by rw[<-hr2.length];exact qdK hi⟩⟩;obtain⟨v,ev,rv⟩:=hr2.get hd;refine⟨⟨Y,v,hq2,ev⟩,λx H' y=>?_⟩;obtain⟨rfl,y⟩:=y
  have:=y Y hq2
  rw[ev]at this;cases this;exact⟨aQ.refl _,rv⟩
 all_goals cases B
theorem t7 (lo:Int) (n i:Nat):(bf lo n)[i]?=if i<n then some (.int (lo+i)) else none:=by
 unfold bf;rw[qaA];by_cases h:i<n
 ·rw[qa7 h,iFP h];rfl
 ·rw[qaC (by simpa using h),iFN h];rfl
theorem cT (lo:Int) (n:Nat):(bf lo n).length=n:=by unfold bf;rw[qah,qat]
theorem EN (lo:Int) (n:Nat) {φ:List Addr}{H:Hp}:Yl K φ H (Itr lo n) (bf lo n):=by
 intro H2 u O i f2 s2;refine⟨λd hd=>?_,λhi=>by rw[cT]at hi;exact qdK hi⟩;rw[t7]at hd;by_cases h:i<n
 ·rw[iFP h]at hd
  cases hd;refine⟨h,λx H' y=>?_⟩;obtain⟨rfl,rfl⟩:=y;exact⟨aQ.refl _,U⟩
 ·rw[iFN h]at hd;cases hd
theorem lQ {p:Pos} (hg:Gl X "range") (hm:X.mg "range" = none) (ha:IA K X [a] af) (hs:az a=true:=by rfl):II K X tg (.Call (.Name "range" p) [a] [] pos) (bz af):=by
 refine⟨λenv st r B=>?_⟩;simp only[bz,qac]at B;obtain⟨⟨ws,s1⟩,hy,B⟩:=B;dsimp only at B;split at B
 case h_2=>cases B
 rename_i j;have L:(if -(2^62)<=j/\j<2^62 then some (bf 0 j.toNat,s1) else none)=some r:=B;by_cases hj:-(2^62)<=j/\j<2^62
 ·rw[iFP hj]at L
  cases L;refine (x8 hg hm (ha.run _ _ _ hy) (iA hs)).imp ?_
  rintro G H R ⟨φ,P,N,q⟩
  refine⟨φ,P,N,λY H1 E f1 s1 w1=>?_⟩;obtain⟨v,r,rfl,r1,rfl⟩:=w1;exact⟨j,by rw[show v=.int j from r1],hj.1,hj.2,q _ H1 E f1 s1 (EN 0 _)⟩
 ·rw[iFN hj]at L;cases L
theorem dP:∀ (ds:List D) (k i:Nat),(ce k ds)[i]?=(ds[i]?).map λd=>D.tup [.int ((k+i:Nat):Int),d]
 |[],k,i=>by simp[ce]
 |d::ds,k,0=>by simp[ce]
 |d::ds,k,i+1=>by
  have:=dP ds (k+1) i
  rw[show k+1+i=k+(i+1) by lia]at this;simpa [ce] using this
theorem kz:∀ (ds:List D) (k:Nat),(ce k ds).length=ds.length
 |[],_=>rfl
 |d::ds,k=>by rw[ce,qaq,qaq,kz ds]
theorem wY {S:Hp->List V->Prop}{ds:List D}{Y:List V}{φ:List Addr}{H:Hp} (N:∀ H' W,Fw φ W H H'->S H' Y) (B:∀ H' W,Fw φ W H H'->Rls K H' W ds Y):Yl K φ H (Ite S) (ce 0 ds):=by
 intro H2 u O i f2 s2;have q2:=N H2 u f2;have r2:=B H2 u f2;refine⟨λd hd=>?_,λhi=>⟨Y,q2,by rw[<-r2.length,<-kz ds 0];exact hi⟩⟩;rw[dP,qad]at hd;obtain⟨d',hd',rfl⟩:=hd;obtain⟨v,ev,rv⟩:=r2.get hd';refine⟨⟨Y,v,q2,ev⟩,λx H' y=>?_⟩;obtain⟨T,v',y1,hT,rfl,rfl⟩:=y
 have:=y1 Y q2
 rw[ev]at this;cases this;refine⟨aQ.new hT _,T,_,U,upd_same,_,_,U,?_,_,_,U,rv.fw s2 (Fw.new hT),U⟩;show V.int _=V.int _;rw[qbh]
theorem lP {elts:List Expr}{k:Nat}{tpos p:Pos} (hg:Gl X "enumerate") (hm:X.mg "enumerate" = none) (ha:IA K X [a] af) (hs:az a=true:=by rfl) (hK:X.K=K:=by rfl) :
  II K X (.Tuple elts k tpos) (.Call (.Name "enumerate" p) [a] [] pos) (bV af):=by
 subst hK;refine⟨λenv st r B=>?_⟩;simp only[bV,qac]at B;obtain⟨⟨ws,s1⟩,hy,B⟩:=B;dsimp only at B;split at B
 ·rename_i ds
  cases B;refine (zJ hg hm (ha.run _ _ _ hy) (iA hs)).imp ?_
  rintro G H R ⟨φ,P,N,q⟩
  refine⟨φ,P,N,λY H1 E f1 s1 w1=>?_⟩;obtain⟨v,r,rfl,⟨a,us,rfl,hq,B⟩,rfl⟩:=w1;exact⟨a,U,⟨us,(SqT.of hq)⟩,q _ H1 E f1 s1 (wY (λH' W f=>(SqT.of hq).fw s1 f) λH' W f=>B.fw s1 f)⟩
 ·rename_i ds
  cases B;refine (zI hg hm (ha.run _ _ _ hy) (iA hs)).imp ?_
  rintro G H R ⟨φ,P,N,q⟩
  refine⟨φ,P,N,λY H1 E f1 s1 w1=>?_⟩;obtain⟨v,r,rfl,⟨a,us,rfl,h0,hq,B⟩,rfl⟩:=w1;exact⟨a,U,⟨us,.inl hq⟩,q _ H1 E f1 s1 (wY (λH' W f=>.inl (hq.fw f h0)) λH' W f=>B.fw s1 f)⟩
 all_goals cases B
theorem qH {iter:Expr}{body:List Stmt}{fi:Lf}{g:Tg}{gb:Sf} (hi:II K X tg iter fi) (hg:PG X tg (tG K g)) (hb:ISs K X body gb) (hp:qhE (model X.prog X.w) X.A X.env X.xe) (hc:X.calm=true:=by rfl)
  (hs:∀ x,qbW iter X.env x=pure x:=by intro _;rfl):IS K X (.For tg iter body [] pos) (eE fi g gb):=by
 refine⟨λenv st r B=>?_⟩;simp only[eE,qac]at B;obtain⟨⟨ds,s1⟩,hy,B⟩:=B;refine (Ed hp hc (hi.run _ _ _ hy) hg hb.any hs).imp ?_
 rintro D G H ⟨φ,P,N,q⟩
 refine⟨φ,P,N,λJ H1 E f1 S1 yl=>?_⟩;refine⟨λi m G H=>m=ds.length - i/\i<=ds.length/\∃ env st u,Fw E u H1 H/\Er K H u env G/\Sr K H u st/\cf g gb (ds.drop i) env st=some r,⟨ds.length,by simp,qcE _,env,s1,E,Fw.refl _ _,P.fw N f1,S1,B⟩,?_⟩
 rintro i m G H2 ⟨rfl,hi,env2,O,u,f2,e2,S2,h2⟩
 obtain⟨y1,y2⟩:=yl H2 u O i f2 S2;by_cases hlt:i<ds.length
 ·obtain⟨go,yld⟩:=y1 ds[i] (qam hlt)
  rw[qc8 hlt]at h2;simp only[cf,qac]at h2;obtain⟨e3,he3,r3,hr3,h3⟩:=h2;refine .inr ⟨go,λσ' H'=>i+1<=ds.length/\∃ env st u,Fw E u H1 H'/\Er K H' u env σ'/\Sr K H' u st/\cf g gb _ env st=some r,λσ' H' ⟨hn,p'⟩=>⟨_,by lia,U,hn,p'⟩,λx H' y=>?_⟩;obtain⟨sm,rx⟩:=yld x H' y;have S3:=S2.same sm;have f3:=f2.trans (Fw.same sm);refine⟨u,O,env2,.d ds[i],e3,e2.fw S2 (Fw.same sm),S3,rx,he3,λσ' e' _=>?_⟩;refine⟨e3,O,r3,hr3,u,e',S3,?_⟩;cases r3 with
  |nx e4 s4=>exact λσ4 H4 F f4 e4' M=>⟨hlt,e4,s4,F,f3.trans f4,e4',M,h3⟩
  |ct e4 s4=>exact λσ4 H4 F f4 e4' M=>⟨hlt,e4,s4,F,f3.trans f4,e4',M,h3⟩
  |bk e4 s4=>
   cases h3;exact λσ4 H4 F f4 e4' M=>q σ4 H4 F (f1.trans (f3.trans f4)) e4' M
  |rt w s4=>
   cases h3;exact λv H4 F f4 M w4=>q v H4 F (f1.trans (f3.trans f4)) M w4
 ·have hi':i=ds.length:=by lia
  subst hi';rw[qhL]at h2;cases h2;exact .inl ⟨y2 U,q G H2 u (f1.trans f2) e2 S2⟩
def mZ (n:Nat) (c:Tf) (b:Sf):Sf
 |env,st=>bC c b n env st
theorem jR {c:Expr}{body:List Stmt}{tc:Tf}{gb:Sf} (n:Nat) (hc:IT K X c tc) (hb:ISs K X body gb) (hp:qhE (model X.prog X.w) X.A X.env X.xe):IS K X (.While c body [] pos) (mZ n tc gb):=by
 refine⟨λenv st r B=>?_⟩;refine (zS hp hc.any hb.any).imp ?_
 rintro D G H ⟨φ,P,N,q⟩
 refine⟨λm G H'=>∃ env st u,Fw φ u H H'/\Er K H' u env G/\Sr K H' u st/\bC tc gb m env st=some r,⟨n,env,st,φ,Fw.refl _ _,P,N,B⟩,?_⟩
 rintro m G H2 ⟨env2,O,u,f2,e2,S2,h2⟩
 cases m with
 |zero=>cases h2
 |succ m=>
  simp only[bC,qac]at h2;obtain⟨⟨k,s3⟩,hk,h2⟩:=h2;refine⟨env2,O,_,hk,u,e2,S2,λH3 φ3 f3 S3=>?_⟩;cases k with
  |false=>
   cases h2;exact Ds (q G H3 φ3 (f2.trans f3) (e2.fw S2 f3) S3)
  |true=>
   simp only[if_true,qac]at h2;obtain⟨r3,hr3,h3⟩:=h2;refine Dt ⟨_,λσ' H' p'=>⟨m,qbZ _,p'⟩,?_⟩;refine⟨env2,s3,r3,hr3,φ3,e2.fw S2 f3,S3,?_⟩;have f3':=f2.trans f3;cases r3 with
   |nx e4 s4=>exact λσ4 H4 F f4 e4' M=>⟨e4,s4,F,f3'.trans f4,e4',M,h3⟩
   |ct e4 s4=>exact λσ4 H4 F f4 e4' M=>⟨e4,s4,F,f3'.trans f4,e4',M,h3⟩
   |bk e4 s4=>
    cases h3;exact λσ4 H4 F f4 e4' M=>q σ4 H4 F (f3'.trans f4) e4' M
   |rt w s4=>
    cases h3;exact λv H4 F f4 M w4=>q v H4 F (f3'.trans f4) M w4
structure ITs (K:qae) (X:Cx) (ifs:List Expr) (t:Tf):Prop where
 run:PTs X ifs (Aq K t)
theorem iL:ITs K X [] aN:=by
 refine⟨λpins s G H Q I ⟨env,st,r,e,φ,P,N,q⟩=>?_⟩;cases e;exact BU pins s G H Q I (q H φ (Fw.refl φ H) N)
theorem l6 {c:Expr}{t:Tf} (h:IT K X c t):ITs K X [c] t:=⟨BV h.any⟩
theorem Er.emb {H:Hp}{φ:List Addr}{env:Ev}{G:St} (h:Er K H φ env G) (k:Nat) (js:List Nat):Er K H φ (uD k js env) (fE k js G):=by
 refine⟨by unfold uD fE;simp,λi w e=>?_⟩;unfold uD at e;unfold fE;by_cases hi:i<k
 ·rw[qaD (by simpa using hi),qdo,iFP hi]at e
  cases e
 ·rw[qaK (by simpa using hi),qcT,qaA,qad]at e
  obtain⟨j,ej,e⟩:=e;have ej2:env[j]?=some (some w):=by
   rw[qfQ]at e;cases q:env[j]? with
   |none=>rw[q]at e;cases e
   |some o=>rw[q]at e;rw[show o=some w from e]
  obtain⟨v,ev,rv⟩:=h.at_ j w ej2;refine⟨v,?_,rv⟩;rw[qaK (by simpa using hi),qcT,qaA,ej];show some ((G[j]?).getD none)=_;rw[ev];rfl
theorem Sub.stay {k:Nat}{js is:List Nat}{G σ':St} (h:AK is (fE k js G) σ') (hi:∀ j∈is,j<k):Sub (fE k js G) σ':=by
 refine⟨h.1.symm,λj v e=>?_⟩;by_cases hj:j∈is
 ·have:=hi j hj
  unfold fE at e;rw[qaD (by simpa using this),qdo,iFP this]at e;cases e
 ·rw[h.2 j hj];exact e
theorem uN {k:Nat}{js:List Nat}{g:Tg}{tt:Tf}{te:Ef}{env:Ev}{st s1:Sto}{ds:List D}{r:List D×Sto} (hgi:∀ j∈sK g,j<k) (hdl:ds.length<=1000000) (L:lcI g tt te (uD k js env) ds s1=some r) :
  ∀ G H Q,tIL K env st r G H Q->tLc (fE k js) (tII K env st (ds,s1)) (tG K g) (Aq K tt) (CW K te) G H Q:=by
 rintro G H Q ⟨φ,P,N,q⟩
 refine⟨φ,P,N,λJ H1 E f1 S1 yl=>?_⟩;refine⟨λi m ys H2=>m=ds.length - i/\i<=ds.length/\∃ st u es r2,Fw E u H1 H2/\Sr K H2 u st/\Rls K H2 u es ys/\es.length<=i/\lcI g tt te _ (ds.drop i) st=some r2/\r=(es++r2.1,r2.2),⟨ds.length,by simp,qcE _,s1,E,[],r,Fw.refl _ _,S1,U,qao _,L,U⟩,?_⟩
 rintro i m ys H2 ⟨rfl,hi,O,u,es,r2,f2,S2,rl2,hle,h2,rfl⟩
 obtain⟨y1,y2⟩:=yl H2 u O i f2 S2;by_cases hlt:i<ds.length
 ·obtain⟨go,yld⟩:=y1 ds[i] (qam hlt)
  rw[qc8 hlt]at h2;simp only[lcI,qac]at h2;obtain⟨e3,he3,⟨kb,s3⟩,hb3,h3⟩:=h2;have hz:ys.length<qaJ:=by
   rw[<-rl2.length]
   have:=qdr
   lia
  refine .inr ⟨go,hz,λys' H'=>i+1<=ds.length/\∃ st u es' r2',Fw E u H1 H'/\Sr K H' u st/\Rls K H' u es' ys'/\es'.length<=i+1/\lcI g tt te _ _ st=some r2'/\(es++r2.1,r2.2)=(es'++r2'.1,r2'.2),λys' H' ⟨hn,p'⟩=>⟨_,by lia,U,hn,p'⟩,λx H' y=>?_⟩;obtain⟨sm,rx⟩:=yld x H' y;have S3:=S2.same sm;have f3:=f2.trans (Fw.same sm);refine⟨u,O,_,.d ds[i],e3,((P.fw N f1).emb k js).fw S1 f3,S3,rx,he3,λσ' e' stay=>⟨Sub.stay stay hgi,?_⟩⟩;refine⟨e3,O,_,hb3,u,e',S3,λH4 F f4 S4=>?_⟩;cases kb with
  |false=>
   exact Ds ⟨hlt,s3,F,es,r2,f3.trans f4,S4,(rl2.fw S2 (Fw.same sm)).fw S3 f4,by lia,h3,U⟩
  |true=>
   simp only[if_true,qac,qad]at h3;obtain⟨x5,hx5,zs,hzs,r5,hr5,rfl⟩:=h3;refine Dt ⟨e3,s3,x5,hx5,F,e'.fw S3 f4,S4,λv H5 φ5 f5 S5 w5=>?_⟩;obtain⟨x5,s5⟩:=x5;cases x5 with
   |h n=>cases hzs
   |d z=>
    cases hzs;refine⟨hlt,s5,φ5,es++[z],r5,(f3.trans f4).trans f5,S5,(((rl2.fw S2 (Fw.same sm)).fw S3 f4).fw S4 f5).append ⟨v,_,U,w5,U⟩,by simp;lia,hr5,?_⟩
    simp
 ·have hi':i=ds.length:=by lia
  subst hi';rw[qhL]at h2;cases h2;refine .inl ⟨y2 U,λDn hD=>?_⟩
  have:=q Dn ys H2 u (f1.trans f2) S2 hD
  exact this (by simpa using rl2)
theorem yX {A:Scope}{Nc:List Str}{k:Nat}{js:List Nat}{elt iter:Expr}{ifs:List Expr}{fi:Lf}{g:Tg}{tt:Tf}{te:Ef}
  (S:dE X A Nc (fE k js)) (hc:X.calm=true) (hgi:∀ j∈sK g,j<k) (hi:II K X tg iter fi)
  (hg:∀ l s H C fp,PG (lcX X A l Nc s H C fp) tg (tG K g)) (ht:∀ l s H C fp,ITs K (lcX X A l Nc s H C fp) ifs tt) (he:∀ l s H C fp,IE K (lcX X A l Nc s H C fp) elt te)
  (hs:∀ x,qbW iter X.env x=pure x:=by intro _;rfl):IL K X (.ListComp elt [⟨tg,iter,ifs,0⟩] A pos) (iLc k js fi g tt te):=by
 refine⟨λenv st r B=>?_⟩;simp only[iLc,qac]at B;obtain⟨⟨ds,s1⟩,hy,B⟩:=B;have L:=B;by_cases hdn:¬ ds.length<=1000000
 ·rw[iFN hdn]at L;cases L
 have hdl:ds.length<=1000000:=by lia
 rw[iFP hdl]at L;refine (FZ S hc (hi.run _ _ _ hy) hg (λl s H C fp=>(ht l s H C fp).run) (λl s H C fp=>(he l s H C fp).any) hs).imp (uN hgi hdl L)
theorem Fs {A:Scope}{Nc:List Str}{k:Nat}{js:List Nat}{elt iter:Expr}{ifs:List Expr}{fi:Lf}{g:Tg}{tt:Tf}{te:Ef}{i0:Nat}{x0:Str}{py spos:Pos}
  (hN0:X.N.Nodup) (hi0:X.N[i0]?=some x0) (hx0:Loc X.env.scope x0) (S:dE X A Nc (fE k js)) (hc:X.calm=true) (hgi:∀ j∈sK g,j<k) (hi:II K X tg iter fi)
  (hg:∀ l s H C fp,PG (lcX X A l Nc s H C fp) tg (tG K g)) (ht:∀ l s H C fp,ITs K (lcX X A l Nc s H C fp) ifs tt) (he:∀ l s H C fp,IE K (lcX X A l Nc s H C fp) elt te)
  (hsw:qct (.ListComp elt [⟨tg,iter,ifs,0⟩] A pos) (some (.Name x0 py)) spos.line X.env=pure true:=by rfl)
  (hf0:X.fn x0=true\/X.env.scope.names.lookup x0=some .local:=by first|exact .inl U|exact .inr U|assumption)
  (hs:∀ x,qbW iter X.env x=pure x:=by intro _;rfl):IS K X (.Assign [.Name x0 py] (.ListComp elt [⟨tg,iter,ifs,0⟩] A pos) spos) (aA (.nm i0) (aw (iLc k js fi g tt te)))/\
   IS K X (.Assign [.Name x0 py] (.ListComp elt [⟨tg,iter,ifs,0⟩] A pos) spos) (aA (.nm i0) (cV (iLc k js fi g tt te))):=by
 have key:∀ env st r0 r,iLc k js fi g tt te env st=some r->(∀ G φ H (D:ox),Er K H φ env G->Sr K H φ st->yp K φ H D r0->∀ a Y H1 W,Fw φ W H H1->Sr K H1 W r.2->H1 a=none->Rls K H1 W r.1 Y->D.nx (G.set i0 (some (.ref a))) (upd H1 a (.lst Y)))->
   PS X (.Assign [.Name x0 py] (.ListComp elt [⟨tg,iter,ifs,0⟩] A pos) spos) (tS K env st r0):=by
  intro env st r0 r B h;simp only[iLc,qac]at B;obtain⟨⟨ds,s1⟩,hy,B⟩:=B;have L:=B;by_cases hdn:¬ ds.length<=1000000
  ·rw[iFN hdn]at L;cases L
  have hdl:ds.length<=1000000:=by lia
  rw[iFP hdl]at L;refine (CO hN0 hi0 hx0 S hc (hi.run _ _ _ hy) hg (λl s H C fp=>(ht l s H C fp).run) (λl s H C fp=>(he l s H C fp).any) hsw hf0 hs).imp ?_
  rintro D G H ⟨φ,P,N,q⟩
  exact uN hgi hdl L G H _ ⟨φ,P,N,h G φ H D P N q⟩
 constructor
 ·refine⟨λenv st r B=>?_⟩
  simp only[aA,aw,eF,qac,qad]at B;obtain⟨y,⟨r2,hy,rfl⟩,e',ee,rfl⟩:=B;cases ee;refine key _ _ _ _ hy λG φ H D P N q a Y H1 E f1 s1 n1 w1=>?_;exact q _ _ E (f1.trans (Fw.new n1)) ((((P.fw N f1).fw s1 (Fw.new n1))).set i0 ⟨a,Y,U,s1.nin n1,.inl upd_same,w1.fw s1 (Fw.new n1)⟩) (s1.new n1)
 ·refine⟨λenv st r B=>?_⟩
  simp only[aA,cV,eF,qac,qad]at B;obtain⟨y,⟨r2,hy,rfl⟩,e',ee,rfl⟩:=B;cases ee;refine key _ _ _ _ hy λG φ H D P N q a Y H1 E f1 s1 n1 w1=>?_;exact q _ _ _ (f1.trans (Fw.more n1)) (((P.fw N f1).fw s1 (Fw.more n1)).set i0 ⟨a,by rw[<-s1.len];simp,U⟩) (s1.more n1 w1)
end
def bi (n k:Nat) (b:Sf):Fn
 |ws,st=>if ws.length=k then (b (ws.map some++qaH (n - k) none) st).bind λr=>match r with
 |.nx _ s=>some (.d .non,s)
 |.rt w s=>some (w,s)
 |_=>none
 else none
def yK (n:Nat) (w:W) (s:Sto):Option (W×Sto):=match w with
 |.d x=>some (.d x,s.take n)
 |.h m=>if m<n then some (.h m,s.take n) else (lg s m).map λds=>(.d (.lst ds),s.take n)
def fA (n k:Nat) (b:Sf):Fn
 |ws,st=>if ws.length=k then (b (ws.map some++qaH (n - k) none) st).bind λr=>match r with
 |.nx _ s=>some (.d .non,s.take st.length)
 |.rt w s=>yK st.length w s
 |_=>none
 else none
section
variable {P:qaM}{w:World}{K:qae}{mg:Str->Option Value}{base:Heap}
theorem mV {H:Hp}{φ:List Addr}{N:List Str}{k:Nat}:∀ {ws:List W}{o:List V},Rws K H φ ws o->ws.length=k->Er K H φ (ws.map some++qaH (N.length - k) none) (iB N o):=by
 intro ws o r hk;have n:=r.length;refine⟨by unfold iB;simp;lia,λi x e=>?_⟩;unfold iB;by_cases hi:i<ws.length
 ·rw[qaD (by simpa using hi),qaA,qad]at e
  obtain⟨y,D,e⟩:=e
  have:∃ v,o[i]?=some v/\Rw K H φ y v:=by
   clear hk n hi e
   induction ws generalizing o i with
   |nil=>simp at D
   |cons w ws Y=>
    obtain⟨v,r',rfl,r1,r2⟩:=r;cases i with
    |zero=>simp at D;subst D;exact⟨v,U,r1⟩
    |succ i=>simpa using Y r2 i (by simpa using D)
  obtain⟨v,ev,rv⟩:=this;cases e;refine⟨v,?_,rv⟩;rw[qaD (by rw[qah,<-n];exact hi),qaA,ev];rfl
 ·rw[qaK (by simpa using hi)]at e
  have:=qbr e
  have:=(List.mem_replicate.mp this).2
  cases this
theorem GH {x g:Str}{st:Stmt}{f:Addr}{fd:qb4}{N ps:List Str}{k:Nat}{b:Sf} (F:Fun K x g st f fd) (S:cp N ps (ar st))
  (hb:∀ (j:Value) (A:qaY) (outer:List Env) (s:qai) (H:Hp) (E:XK),bu k (A.deeper (qez g (ar st) s.heap.objs.size f j))->ISs K (fD CX0 P w K mg base N g (ar st) f j A outer s H E).nox (aZ st) b) :
  dD P w K mg base CX0 (k+1) f fd ps (spI K (bi N.length ps.length b)):=by
 refine F.ok S (λo H Q E h=>?_) λj A outer s H o Q E R h=>?_
 ·obtain⟨φ,st,ws,r,e,rw,_⟩:=h
  rw[bi]at e;by_cases n:ws.length=ps.length
  ·rw[<-rw.length,n]
  ·rw[iFN n]at e;cases e
 ·obtain⟨φ,t,ws,r,e,rw,S',q⟩:=h
  rw[bi]at e;by_cases n:ws.length=ps.length
  ·rw[iFP n]at e
   obtain⟨fl,M,p⟩:=qac.mp e;refine⟨_,(hb j A outer s H E R).run _ _ _ M,φ,mV rw n,S',?_⟩;cases fl with
   |nx e s=>cases p;exact λJ H' c l e' s'=>q .non H' c l s' U
   |rt w s=>cases p;exact λv H' c l s' C=>q v H' c l s' C
   |bk e s=>cases p
   |ct e s=>cases p
  ·rw[iFN n]at e;cases e
theorem Fw.less {φ c:List Addr}{H H':Hp} (f:Fw φ c H H'):Fw φ φ H H':=⟨⟨[],by simp,by simp⟩,f.keep,f.there⟩
theorem Fd {x g:Str}{st:Stmt}{f:Addr}{fd:qb4}{N ps:List Str}{k:Nat}{b:Sf} (F:Fun K x g st f fd) (S:cp N ps (ar st))
  (hb:∀ (j:Value) (A:qaY) (outer:List Env) (s:qai) (H:Hp) (E:XK),bu k (A.deeper (qez g (ar st) s.heap.objs.size f j))->ISs K (fD CX0 P w K mg base N g (ar st) f j A outer s H E).nox (aZ st) b) :
  dD P w K mg base CX0 (k+1) f fd ps (spI K (fA N.length ps.length b)):=by
 refine F.ok S (λo H Q E h=>?_) λj A outer s H o Q E R h=>?_
 ·obtain⟨φ,st,ws,r,e,rw,_⟩:=h
  rw[fA]at e;by_cases n:ws.length=ps.length
  ·rw[<-rw.length,n]
  ·rw[iFN n]at e;cases e
 ·obtain⟨φ,t,ws,r,e,rw,S',q⟩:=h
  rw[fA]at e;by_cases n:ws.length=ps.length
  ·rw[iFP n]at e
   obtain⟨fl,M,p⟩:=qac.mp e;refine⟨_,(hb j A outer s H E R).run _ _ _ M,φ,mV rw n,S',?_⟩;have less:∀ {H':Hp}{c:List Addr}{s':Sto},Fw φ c H H'->Sr K H' c s'->Sr K H' φ (s'.take t.length):=λ{H' c s'} l S2=>by
    obtain⟨ψ,rfl,_⟩:=l.ext;rw[<-S'.len];exact S2.less
   cases fl with
   |nx e s=>cases p;exact λJ H' c l e' s'=>q .non H' φ l.less (less l s') U
   |rt w s=>
    intro v H' c l s' C;have B:yK t.length w s=some r:=p;obtain⟨ψ,u,_⟩:=l.ext;cases w with
    |d x=>
     cases B;subst u;exact q v H' φ l.less (less l s') (Rl.less C)
    |h m=>
     obtain⟨a,G,rfl⟩:=C;unfold yK at B;by_cases hm:m<t.length
     ·have X:=by
       have:=B
       simp only[hm,if_true]at this;exact this
      cases X;subst u;rw[qaD (by rw[S'.len];exact hm)]at G;exact q _ H' φ l.less (less l s') ⟨a,G,U⟩
     ·simp only[hm,if_false]at B
      obtain⟨ds,L,rfl⟩:=qad.mp B;obtain⟨o,hv,rl⟩:=s'.atl m a ds G L;have hn:a∉φ:=λz=>by
       obtain⟨i,hi,T⟩:=qc1.mp z;have h1:c[i]?=some a:=by subst u;rw[qaD hi,qam hi,T]
       obtain⟨h2,O⟩:=qar.mp h1;obtain⟨h3,I⟩:=qar.mp G
       have:=(qdL s'.nd).mp (O.trans I.symm)
       rw[S'.len]at hi;lia
      subst u;exact q _ H' φ l.less (less l s') ⟨a,o,U,hn,.inl hv,rl.less⟩
   |bk e s=>cases p
   |ct e s=>cases p
  ·rw[iFN n]at e;cases e
end
def cC:D->Bool
 |.non=>true
 |.bl _=>true
 |.int _=>true
 |.str _=>true
 |_=>false
def vOf:D->V
 |.bl b=>.bl b
 |.int i=>.int i
 |.str x=>.str x
 |_=>.non
mutual
def eqD:D->D->Bool
 |.non,.non=>true
 |.bl a,.bl b=>a==b
 |.bl a,.int b=>(if a then 1 else 0)==b
 |.int a,.bl b=>a==(if b then 1 else 0)
 |.int a,.int b=>a==b
 |.str a,.str b=>a==b
 |.tup as,.tup bs=>dm as bs
 |.lst as,.lst bs=>dm as bs
 |_,_=>false
def dm:List D->List D->Bool
 |[],[]=>true
 |a::as,b::bs=>eqD a b&&dm as bs
 |_,_=>false
end
def okD:Nat->D->Bool
 |_,.non=>true
 |_,.bl _=>true
 |_,.int _=>true
 |_,.str _=>true
 |n+1,.tup ds=>ds.all (okD n)
 |n+1,.lst ds=>ds.all (okD n)
 |_,_=>false
def lsD (st:Sto):W->Option (List D)
 |.d (.lst ds)=>some ds
 |.h n=>lg st n
 |_=>none
def bj (st:Sto) (x y:W):Option D:=match x,y with
 |.d (.int i),.d (.int j)=>some (.int (i+j))
 |.d (.tup a),.d (.tup b)=>if a.length+b.length<=1000000 then some (.tup (a++b)) else none
 |.d (.str a),.d (.str b)=>if a.length+b.length<=1000000 then some (.str (a++b)) else none
 |x,y=>(lsD st x).bind λa=>(lsD st y).bind λb=>if a.length+b.length<=1000000 then some (.lst (a++b)) else none
def jC (_:Sto):W->W->Option D
 |.d (.int i),.d (.int j)=>some (.int (i - j))
 |_,_=>none
instance (a b:Int):Decidable (qgp a b):=by unfold qgp;infer_instance
def a9 (_:Sto):W->W->Option D
 |.d (.int i),.d (.int j)=>if qgp i j then some (.int (i*j)) else none
 |.d (.tup a),.d (.int k)=>if a≠[]/\a.length<=1000/\0<=k/\k<1000 then some (.tup (qaH k.toNat a).flatten) else none
 |.d (.lst a),.d (.int k)=>if a.length<=1000/\-1000<=k/\k<1000 then some (.lst (qaH k.toNat a).flatten) else none
 |_,_=>none
def mM (_:Sto):W->W->Option D
 |.d (.int i),.d (.int j)=>if 0<j/\j<1073741824 then some (.int (i / j)) else none
 |_,_=>none
def f7 (_:Sto):W->W->Option D
 |.d (.int i),.d (.int j)=>if 0<j then some (.int (i%j)) else none
 |_,_=>none
instance (i j:Int):Decidable (mx i j):=by unfold mx;infer_instance
def qg (_:Sto):W->W->Option D
 |.d (.int i),.d (.int j)=>if mx i j then some (.int (i^j.toNat)) else none
 |_,_=>none
def xy (_:Sto):W->W->Option D
 |.d (.int i),.d (.int j)=>if mx i j then some (.int (i*2^j.toNat)) else none
 |_,_=>none
def xz (_:Sto):W->W->Option D
 |.d (.int i),.d (.int j)=>if 0<=j then some (.int (i / 2^j.toNat)) else none
 |_,_=>none
def dLt (_:Sto):W->W->Option D
 |.d (.int i),.d (.int j)=>some (.bl (decide (i<j)))
 |_,_=>none
def dLe (_:Sto):W->W->Option D
 |.d (.int i),.d (.int j)=>some (.bl (decide (i<=j)))
 |_,_=>none
def dGt (_:Sto):W->W->Option D
 |.d (.int i),.d (.int j)=>some (.bl (decide (j<i)))
 |_,_=>none
def dGe (_:Sto):W->W->Option D
 |.d (.int i),.d (.int j)=>some (.bl (decide (j<=i)))
 |_,_=>none
def dC:D->Bool
 |.non=>true
 |_=>false
def iZ (_:Sto):W->W->Option D
 |.d x,.d .non=>some (.bl (dC x))
 |_,_=>none
def mN (_:Sto):W->W->Option D
 |.d x,.d .non=>some (.bl (!dC x))
 |_,_=>none
def inD (x:D) (ds:List D):Bool:=ds.any λy=>eqD y x
def dIn (st:Sto) (x y:W):Option D:=match x with
 |.d x=>(iy st y).bind λds=>if cC x=true/\ds.all cC=true then some (.bl (inD x ds)) else none
 |_=>none
section
variable {K:qae}{X:Cx}
theorem gA {H:Hp}{φ:List Addr}{d:D}{v:V} (h:cC d=true) (r:Rl K H φ d v):v=vOf d/\eM v=true:=by
 cases d with
 |non=>cases (r);exact⟨U,U⟩
 |bl b=>cases (r);exact⟨U,U⟩
 |int b=>cases (r);exact⟨U,U⟩
 |str b=>cases (r);exact⟨U,U⟩
 |_=>cases h
theorem qo {a b:D} (L:cC a=true) (hb:cC b=true):eqV (vOf a) (vOf b)=eqD a b:=by
 cases a<;>cases b<;>first|rfl|(cases L;done)|(cases hb)|(done)
theorem t6 {H:Hp}{φ:List Addr}:∀ {ds:List D}{m:List V},ds.all cC=true->Rls K H φ ds m->m=ds.map vOf/\m.all eM=true
 |[],_,_,h=>by cases h;exact⟨U,U⟩
 |d::ds,_,h,r=>by
  rw[qbE,qa8]at h;obtain⟨v,M,rfl,k,l⟩:=r;obtain⟨w,t⟩:=gA h.1 k;obtain⟨u,s⟩:=t6 h.2 l;exact⟨by rw[w,u];rfl,by rw[qbE,t,s];rfl⟩
theorem vU {x:D} (A:cC x=true):∀ {ds:List D},ds.all cC=true->inV (vOf x) (ds.map vOf)=inD x ds
 |[],_=>rfl
 |d::ds,h=>by
  rw[qbE,qa8]at h;have z:=vU A h.2;unfold inV inD at z ⊢;rw[qaw,qcf,qcf,z,qo h.1 A]
theorem DM {f:Value->Value->Sem Value}{g:Sto->W->W->Option D} (h:∀ st x y d,g st x y=some d->∃ i j,x=.d (.int i)/\y=.d (.int j)/\OpR X f (λo n H Q=>o=.int i/\n=.int j/\Q (vOf d) H)/\cC d=true):OpD K X f g:=by
 refine⟨λst x y d hd=>?_⟩;obtain⟨i,j,rfl,rfl,I,C⟩:=h st x y d hd;refine I.imp ?_
 rintro o n H Q ⟨φ,S,k,l,q⟩
 refine⟨k,l,q _ H (aQ.refl H) ?_⟩;cases d<;>first|rfl|cases C
theorem w2 {x y:W}{d:D}{F:Int->Int->Option D} (h:(match x,y with|.d (.int i),.d (.int j)=>F i j|_,_=>none)=some d):∃ i j,x=.d (.int i)/\y=.d (.int j)/\F i j=some d:=by
 split at h
 ·exact⟨_,_,U,U,h⟩
 ·cases h
theorem ifS {c:Prop} [Decidable c] {a d:D} (h:(if c then some a else none)=some d):c/\a=d:=by
 split at h
 ·rename_i q
  exact⟨q,qaL h⟩
 ·cases h
theorem gH {f:Value->Value->Sem Value}{g:Sto->W->W->Option D}{F:Int->Int->Option D} (e:∀ st x y,g st x y=match x,y with|.d (.int i),.d (.int j)=>F i j|_,_=>none) (h:∀ i j d,F i j=some d->OpR X f (λo n H Q=>o=.int i/\n=.int j/\Q (vOf d) H)/\cC d=true):OpD K X f g:=DM λst x y d hd=>by
 rw[e]at hd;obtain⟨i,j,rfl,rfl,hd⟩:=w2 hd;exact⟨i,j,U,U,h i j d hd⟩
theorem rj:OpD K X (qbH .Sub) jC:=gH (λ_ _ _=>rfl) λi j d h=>by cases h;exact⟨DY.imp λ_ _ _ _ q=>⟨i,j,q⟩,U⟩
theorem tQ:OpD K X (qbN .Lt) dLt:=gH (λ_ _ _=>rfl) λi j d h=>by cases h;exact⟨FW.imp λ_ _ _ _ q=>⟨i,j,q⟩,U⟩
theorem ww:OpD K X (qbN .LtE) dLe:=gH (λ_ _ _=>rfl) λi j d h=>by cases h;exact⟨FV.imp λ_ _ _ _ q=>⟨i,j,q⟩,U⟩
theorem wu:OpD K X (qbN .Gt) dGt:=gH (λ_ _ _=>rfl) λi j d h=>by cases h;exact⟨FU.imp λ_ _ _ _ q=>⟨i,j,q⟩,U⟩
theorem wt:OpD K X (qbN .GtE) dGe:=gH (λ_ _ _=>rfl) λi j d h=>by cases h;exact⟨FT.imp λ_ _ _ _ q=>⟨i,j,q⟩,U⟩
theorem md:OpD K X (qbH .FloorDiv) mM:=gH (λ_ _ _=>rfl) λi j d h=>by obtain⟨c,rfl⟩:=ifS h;exact⟨BB.imp λ_ _ _ _ q=>⟨i,j,q.1,q.2.1,c,q.2.2⟩,U⟩
theorem q9:OpD K X (qbH .Mod) f7:=gH (λ_ _ _=>rfl) λi j d h=>by obtain⟨c,rfl⟩:=ifS h;exact⟨DU.imp λ_ _ _ _ q=>⟨i,j,q.1,q.2.1,c,q.2.2⟩,U⟩
theorem re:OpD K X (qbH .Pow) qg:=gH (λ_ _ _=>rfl) λi j d h=>by obtain⟨c,rfl⟩:=ifS h;exact⟨DV.imp λ_ _ _ _ q=>⟨i,j,q.1,q.2.1,c,q.2.2⟩,U⟩
theorem rg:OpD K X (qbH .LShift) xy:=gH (λ_ _ _=>rfl) λi j d h=>by obtain⟨c,rfl⟩:=ifS h;exact⟨DW.imp λ_ _ _ _ q=>⟨i,j,q.1,q.2.1,c,q.2.2⟩,U⟩
theorem rh:OpD K X (qbH .RShift) xz:=gH (λ_ _ _=>rfl) λi j d h=>by obtain⟨c,rfl⟩:=ifS h;exact⟨DX.imp λ_ _ _ _ q=>⟨i,j,q.1,q.2.1,c,q.2.2⟩,U⟩
theorem Ad {H:Hp}{φ:List Addr}{d:D}{v:V} (r:Rl K H φ d v):decide (v=.non)=dC d:=by
 cases d with
 |non=>cases (r);rfl
 |bl b=>cases (r);rfl
 |int b=>cases (r);rfl
 |str b=>cases (r);rfl
 |ty b=>cases (r);rfl
 |dct=>obtain⟨a,rfl,_⟩:=r;rfl
 |scr ns=>obtain⟨a,rfl,_⟩:=r;rfl
 |tup ds=>obtain⟨a,m,rfl,_⟩:=r;rfl
 |lst ds=>obtain⟨a,m,rfl,_⟩:=r;rfl
 |ob ns ds=>obtain⟨a,_,_,_,m,rfl,_⟩:=r;rfl
theorem qY:OpD K X (qbN .Is) iZ:=by
 refine⟨λst x y d h=>?_⟩
 match x,y,h with
 |.d x,.d .non,h=>
  cases h;refine DS.imp ?_
  rintro o n H Q ⟨φ,S,k,l,q⟩
  refine⟨l,q _ H (aQ.refl H) ?_⟩;rw[Ad k];rfl
theorem me:OpD K X (qbN .IsNot) mN:=by
 refine⟨λst x y d h=>?_⟩
 match x,y,h with
 |.d x,.d .non,h=>
  cases h;refine BD.imp ?_
  rintro o n H Q ⟨φ,S,k,l,q⟩
  refine⟨l,q _ H (aQ.refl H) ?_⟩;rw[Ad k];rfl
theorem wv (G:X.K=K:=by rfl):OpD K X (qbN .In) dIn:=by
 subst G;refine⟨λst x y d h=>?_⟩
 match x,h with
 |.d x,h=>
  simp only[dIn,qac]at h;obtain⟨ds,B,h⟩:=h;split at h
  ·rename_i p
   cases h;refine x3.imp ?_
   rintro o n H Q ⟨φ,S,k,l,q⟩
   obtain⟨a,m,rfl,J,E⟩:=iU S l B;obtain⟨w,t⟩:=gA p.1 k;obtain⟨u,s⟩:=t6 p.2 E;refine⟨a,m,U,J,t,s,q _ H (aQ.refl H) ?_⟩;rw[w,u,vU p.1 p.2];rfl
  ·cases h
end
section
variable {K:qae}{X:Cx}
theorem Bz:OpR X (qbH .Add) (λx y H Q=>∃ l b xs zs,x=.ref l/\y=.ref b/\Rd H l (.lst xs)/\Rd H b (.lst zs)/\xs.length+zs.length<=qaJ/\∀ p,H p=none->Q (.ref p) (upd H p (.lst (xs++zs)))):=by
 intro G s M H x y v u Q I rx ry h;obtain⟨l,b,xs,zs,rfl,rfl,hH,hB,hz,q⟩:=h;cases rx;cases ry;obtain⟨z,A,n,r,e⟩:=hH.ok I.hok;obtain⟨z2,N,n2,L,e2⟩:=hB.ok I.hok;have J:=r.length;have hl2:=L.length;refine PySem.P.add_list e e2 ?_ (by rw[qaG,qaG];lia);have ea:A.toArray++N.toArray=(A++N).toArray:=by simp
 rw[ea];exact⟨.ref _,_,I.lnew (r.append L) (by rw[qaz];lia),U,q _ I.fresh⟩
theorem zz:OpR X (qbH .Add) (λx y H Q=>∃ a b xs ys,x=.ref a/\y=.ref b/\SqT X.K H a xs/\SqT X.K H b ys/\xs.length+ys.length<=qaJ/\
  (xs=[]->Q (.ref b) H)/\(ys=[]->Q (.ref a) H)/\∀ p,H p=none->Q (.ref p) (upd H p (.tup (xs++ys)))):=by
 intro G s M H x y v u Q I rx ry h;obtain⟨a,b,xs,ys,rfl,rfl,ha,hb,hz,q0,q1,q2⟩:=h;by_cases hx:xs=[]
 ·cases rx
  cases ry;obtain⟨A,O,p1,_⟩:=I.tuple ha;obtain⟨N,L,p2,_⟩:=I.tuple hb;obtain⟨⟨cls,dd,data,sl⟩,ho,hc,n,hd⟩:=id p1;obtain⟨⟨cls2,dd2,data2,sl2⟩,ho2,hc2,n2,hd2⟩:=id p2;subst hc hd hc2 hd2;exact qhA ⟨_,ho,U⟩ ⟨_,ho2,U⟩ qgg qg9 qek qed (qd3 _ _)
   (tuple_addW0 a b A.toArray N.toArray n n2 dd dd2 sl sl2 (by simp[O.nil_iff.mpr hx])) ⟨ho,ho2,.ref b,H,I,U,q0 hx⟩
 ·exact BA G s M H _ _ v u Q I rx ry ⟨a,b,xs,ys,U,U,ha,hb,hx,hz,q1,λ_ p E=>q2 p E⟩
theorem qT {st:Sto}{H:Hp}{φ:List Addr}{w:W}{v:V}{ds:List D} (S:Sr K H φ st) (r:Rw K H φ w v) (e:lsD st w=some ds):∃ a g,v=.ref a/\Rd H a (.lst g)/\Rls K H φ ds g:=by
 cases w with
 |h n=>
  obtain⟨a,ea,rfl⟩:=r;obtain⟨g,q,rl⟩:=S.atl n a ds ea e;exact⟨a,g,U,.inl q,rl⟩
 |d x=>
  cases x with
  |lst es=>cases e;obtain⟨a,g,rfl,h0,C,B⟩:=r;exact⟨a,g,U,C,B⟩
  |_=>cases e
theorem mil:(1000000:Nat)<=qaJ:=by decide
theorem jt (hK:X.K=K:=by rfl):OpD K X (qbH .Add) bj:=by
 subst hK;refine⟨λst x y d h=>?_⟩;have P:(lsD st x).bind (λa=>(lsD st y).bind λb=>if a.length+b.length<=1000000 then some (.lst (a++b)) else none)=some d->OpR X _ (rD X.K st x y d):=λh=>by
  simp only[qac]at h;obtain⟨as,ha,bs,hb,h⟩:=h;split at h
  ·rename_i J
   cases h;refine Bz.imp ?_
   rintro vx vy H Q ⟨φ,S,O,L,q⟩
   obtain⟨a,us,rfl,C,B⟩:=qT S O ha;obtain⟨b,g,rfl,h3,h4⟩:=qT S L hb;refine⟨a,b,us,g,U,U,C,h3,by rw[<-B.length,<-h4.length];exact qaT J mil,λp E=>q _ _ (aQ.new E _) ?_⟩;exact⟨p,_,U,S.nin E,.inl upd_same,(B.append h4).fw S (Fw.new E)⟩
  ·cases h
 match x,y,h with
 |.d (.int i),.d (.int j),h=>
  cases h;refine DQ.imp ?_
  rintro vx vy H Q ⟨φ,S,O,L,q⟩
  exact⟨i,j,O,L,q _ H (aQ.refl H) U⟩
 |.d (.tup as),.d (.tup bs),h=>
  simp only[bj]at h;split at h
  ·rename_i J
   cases h;refine zz.imp ?_
   rintro vx vy H Q ⟨φ,S,⟨a,us,rfl,C,B⟩,⟨b,g,rfl,h3,h4⟩,q⟩
   refine⟨a,b,us,g,U,U,(SqT.of C),(SqT.of h3),by rw[<-B.length,<-h4.length];exact qaT J mil,λe=>?_,λe=>?_,λp E=>?_⟩
   ·subst e
    have:as=[]:=by cases as with|nil=>rfl|cons _ _=>cases B.length
    subst this;exact q _ H (aQ.refl H) ⟨b,g,U,h3,h4⟩
   ·subst e
    have:bs=[]:=by cases bs with|nil=>rfl|cons _ _=>cases h4.length
    subst this;exact q _ H (aQ.refl H) ⟨a,us,U,C,by rw[qbl];exact B⟩
   ·exact q _ _ (aQ.new E _) ⟨p,_,U,upd_same,(B.append h4).fw S (Fw.new E)⟩
  ·cases h
 |.d (.str as),.d (.str bs),h=>
  simp only[bj]at h;split at h
  ·rename_i J
   cases h;refine uZ.imp ?_
   rintro vx vy H Q ⟨φ,S,O,L,q⟩
   exact⟨as,bs,O,L,qaT J mil,q _ H (aQ.refl H) U⟩
  ·cases h
 |.d (.lst as),y,h=>exact P (by cases y with|h n=>exact h|d y=>cases y<;>exact h)
 |.h n,y,h=>exact P (by cases y with|h n=>exact h|d y=>cases y<;>exact h)
theorem wz:OpR X (qbH .Mult) (λx y H Q=>∃ l k xs,x=.ref l/\y=.int k/\Rd H l (.lst xs)/\-(2 ^ 63)<=k/\k < 2 ^ 63/\xs.length*k.toNat<=qaJ/\
 ∀ p,H p=none->Q (.ref p) (upd H p (.lst (qaH k.toNat xs).flatten))):=by
 intro G s M H x y v u Q I rx ry h;obtain⟨l,k,xs,rfl,rfl,hH,C,B,hz,q⟩:=h;cases rx;obtain⟨t,rfl⟩:=ry;obtain⟨z,A,n,r,e⟩:=hH.ok I.hok;have hlen:A.toArray.size*k.toNat<=qaJ:=by rw[qaG,<-r.length];exact hz
 have hcap:¬ A.toArray.size*k.toNat > (2^63 - 1) / 8:=by
  have:(qaJ)<=(2^63 - 1) / 8:=by decide
  lia
 have hfit:¬ (!Builtin.List.listFitsIndex k)=true:=by
  rw[qjV C B];exact qaB
 have hlong:¬ qfj (A.toArray.size*k.toNat)=true:=by
  rw[zq hlen];exact qaB
 have hnew:qjM (λx1 x2=>x1++x2) #[] (qaH (if A.toArray.isEmpty=true then 0 else k.toNat) A.toArray)=(qaH k.toNat A).flatten.toArray:=by
  have f0:=λm=>by
   have:=kA A m []
   rw[qdV]at this;exact this
  rw[f0];cases A with
  |nil=>simp
  |cons a r'=>rw[iFN (by simp)]
 refine qgK (by decide) ⟨_,e,U⟩ (λs'=>qfW s' k t) noFill_list_mul qiC qeR repeat_list qih.lookup
  (qcS qeR (qfW s k t) qij (qh3 _ _) (int___rmul___int_list k t l A.toArray n)
    ⟨e,U,⟨_,e,U⟩,qcS F.slot_list_mul ⟨_,e,U⟩ F.entry_list_mul (F.args_list_mul_2 _ _) (AutoListH.list___mul___list_int_3 l A.toArray n k t hfit hcap hlong) ⟨e,?_⟩⟩)
 rw[hnew];exact⟨.ref _,_,I.lnew (r.rep k.toNat) (by rw[qR,qgO];exact hz),U,q _ I.fresh⟩
theorem rd (hK:X.K=K:=by rfl):OpD K X (qbH .Mult) a9:=by
 refine⟨λst x y d h=>?_⟩
 match x,y,h with
 |.d (.int i),.d (.int j),h=>
  simp only[a9]at h;split at h
  ·rename_i J
   cases h;refine BC.imp ?_
   rintro vx vy H Q ⟨φ,S,O,L,q⟩
   exact⟨i,j,O,L,J,q _ H (aQ.refl H) U⟩
  ·cases h
 |.d (.tup as),.d (.int k),h=>
  simp only[a9]at h;split at h
  ·rename_i J
   cases h;refine BE.imp ?_
   rintro vx vy H Q ⟨φ,S,⟨a,us,rfl,C,B⟩,L,q⟩
   have hne:us≠[]:=by rintro rfl;cases as with|nil=>exact J.1 U|cons _ _=>cases B.length
   refine⟨a,k,us,U,L,(SqT.of C),hne,by rw[<-B.length];exact J.2.1,J.2.2.1,J.2.2.2,λe=>?_,λ_ p E=>?_⟩
   ·subst e
    exact q _ H (aQ.refl H) ⟨a,us,U,C,by simpa using B⟩
   ·exact q _ _ (aQ.new E _) ⟨p,_,U,upd_same,(B.rep _).fw S (Fw.new E)⟩
  ·cases h
 |.d (.lst as),.d (.int k),h=>
  simp only[a9]at h;split at h
  ·rename_i J
   cases h;refine wz.imp ?_
   rintro vx vy H Q ⟨φ,S,⟨a,us,rfl,h0,C,B⟩,L,q⟩
   refine⟨a,k,us,U,L,C,by lia,by lia,?_,λp E=>?_⟩
   ·rw[<-B.length]
    have:as.length*k.toNat<=1000*1000:=qdd J.1 (by lia)
    exact qaT this mil
   ·exact q _ _ (aQ.new E _) ⟨p,_,U,S.nin E,.inl upd_same,(B.rep _).fw S (Fw.new E)⟩
  ·cases h
def dIx (st:Sto) (x y:W):Option D:=match x,y with
 |.d (.str z),.d (.int i)=>if z.length<=1000000 then (atI z.cps.toList i).map λc=>.str ⟨#[c]⟩ else none
 |x,.d (.int i)=>(iy st x).bind λds=>atI ds i
 |_,_=>none
theorem C7 {H:Hp}{φ:List Addr}{ds:List D}{g:List V}{i:Int}{d:D} (r:Rls K H φ ds g) (e:atI ds i=some d):∃ v,atI g i=some v/\Rl K H φ d v:=by
 unfold atI at e ⊢;rw[<-r.length];obtain⟨j,e1,e2⟩:=qac.mp e;obtain⟨v,ev,rv⟩:=r.get e2;exact⟨v,by rw[e1];exact ev,rv⟩
theorem IxR.imp {r r':R2} (h:IxR X r) (m:∀ x y H Q,r' x y H Q->r x y H Q):IxR X r':=λvalue slice G s M H x y v u Q I rx ry q hs=>h value slice G s M H x y v u Q I rx ry (m _ _ _ _ q) hs
theorem Gy (st:Sto) (x y:W) (d:D) (h:dIx st x y=some d) (hK:X.K=K):IxR X (rD K st x y d):=by
 subst hK
 match y,h with
 |.d (.int i),h=>
  have seq:(iy st x).bind _=some d->IxR X (rD X.K st x (.d (.int i)) d):=λh=>by
   obtain⟨ds,e1,e2⟩:=qac.mp h;refine qP.imp ?_
   rintro vx vy H Q ⟨φ,S,O,L,q⟩
   obtain⟨a,g,rfl,C,B⟩:=iU S O e1;obtain⟨v,ev,rv⟩:=C7 B e2;rcases C with C|C
   ·exact .inl ⟨a,g,i,v,U,L,C,ev,q _ H (aQ.refl H) rv⟩
   ·exact .inr (.inl ⟨a,g,i,v,U,L,C,ev,q _ H (aQ.refl H) rv⟩)
  match x,h with
  |.d (.str z),h=>
   simp only[dIx]at h;split at h
   ·rename_i J
    obtain⟨c,e1,rfl⟩:=qad.mp h;refine qP.imp ?_
    rintro vx vy H Q ⟨φ,S,O,L,q⟩
    exact .inr (.inr ⟨z,i,c,O,L,qaT J mil,e1,q _ H (aQ.refl H) U⟩)
   ·cases h
  |.d (.tup z),h=>exact seq h
  |.d (.lst z),h=>exact seq h
  |.d (.scr z),h=>exact seq h
  |.h z,h=>exact seq h
 |.d .non,h=>cases x with|h n=>cases h|d x=>cases x<;>cases h
 |.d (.ob _ _),h=>cases x with|h n=>cases h|d x=>cases x<;>cases h
 |.d (.bl _),h=>cases x with|h n=>cases h|d x=>cases x<;>cases h
 |.d (.str _),h=>cases x with|h n=>cases h|d x=>cases x<;>cases h
 |.d (.ty _),h=>cases x with|h n=>cases h|d x=>cases x<;>cases h
 |.d (.scr _),h=>cases x with|h n=>cases h|d x=>cases x<;>cases h
 |.d .dct,h=>cases x with|h n=>cases h|d x=>cases x<;>cases h
 |.d (.tup _),h=>cases x with|h n=>cases h|d x=>cases x<;>cases h
 |.d (.lst _),h=>cases x with|h n=>cases h|d x=>cases x<;>cases h
 |.h _,h=>cases x with|h n=>cases h|d x=>cases x<;>cases h
variable {e a b:Expr}{pos p2:Pos}{f fa fb:Ef}
theorem vP (ha:IE K X a fa) (hb:IE K X b fb) (hs:kN b=true:=by rfl) (hK:X.K=K:=by rfl):IE K X (.Subscript a b pos) (iOp dIx fa fb):=by
 refine⟨λenv st r hr=>?_⟩;simp only[iOp,qac,qad]at hr;obtain⟨x,hx,y,hy,d,hd,rfl⟩:=hr;exact (zE (Gy _ _ _ _ hd hK) (ha.run _ _ _ hx) (hb.run _ _ _ hy) (nr hs)).imp λM H Q h=>rM h
abbrev Pf:=Ev->Sto->Option (Option Int×Sto)
def iPn:Pf
 |_,st=>some (none,st)
def Fp:W->Option Int
 |.d (.int i)=>some i
 |_=>none
theorem xK {w:W}{i:Int} (h:Fp w=some i):w=.d (.int i):=by
 cases w with
 |h n=>cases h
 |d x=>cases x<;>first|(cases h;done)|(injection h with h;subst h;rfl)
def iPs (f:Ef):Pf
 |env,st=>(f env st).bind λr=>(Fp r.1).map λi=>(some i,r.2)
def tIO (K:qae) (env:Ev) (st:Sto) (r:Option Int×Sto):TO:=λM H Q=>∃ φ,Er K H φ env M/\Sr K H φ st/\∀ H' φ',Fw φ φ' H H'->Sr K H' φ' r.2->Q r.1 H'
structure IO (K:qae) (X:Cx) (e:Option Expr) (f:Pf):Prop where
 run:∀ env st r,f env st=some r->PO X e (tIO K env st r)
theorem PO.imp {e:Option Expr}{t t':TO} (h:PO X e t) (m:∀ M H Q,t' M H Q->t M H Q):PO X e t':=λG s M H Q I q=>h G s M H Q I (m M H Q q)
theorem lR:IO K X none iPn:=by
 refine⟨λenv st r hr=>?_⟩;cases hr;exact BN.imp λM H Q ⟨φ,Y,R,q⟩=>q H φ (Fw.refl φ H) R
theorem lS (h:IE K X e f):IO K X (some e) (iPs f):=by
 refine⟨λenv st r hr=>?_⟩;simp only[iPs,qac,qad]at hr;obtain⟨⟨x,s1⟩,hx,i,hi,rfl⟩:=hr;cases xK hi;refine (BO (h.run _ _ _ hx)).imp ?_
 rintro M H Q ⟨φ,Y,R,q⟩
 exact⟨φ,Y,R,λv H1 T f1 s1 w1=>⟨i,w1,q H1 T f1 s1⟩⟩
def mL (xs:List D) (lo hi:Option Int):List D:=(xs.drop (HT.sIx xs.length 0 lo)).take (HT.sIx xs.length xs.length hi - HT.sIx xs.length 0 lo)
theorem vC {H:Hp}{φ:List Addr}{ds:List D}{g:List V} (r:Rls K H φ ds g) (lo hi:Option Int):Rls K H φ (mL ds lo hi) (uy g lo hi):=by
 unfold mL uy;rw[r.length];exact (r.drop _).take _
def dSl (st:Sto) (x:W) (lo hi:Option Int):Option D:=match x with
 |.d (.tup ds)=>some (.tup (mL ds lo hi))
 |.d (.lst ds)=>some (.lst (mL ds lo hi))
 |.h n=>(lg st n).map λds=>.lst (mL ds lo hi)
 |.d (.scr ns)=>some (.lst (mL (ns.map D.int) lo hi))
 |_=>none
def iSl (f:Ef) (lo hi:Pf):Ef
 |env,st=>(f env st).bind λx=>(lo env x.2).bind λl=>(hi env l.2).bind λu=>(dSl u.2 x.1 l.1 u.1).map λd=>(.d d,u.2)
theorem vQ {lo hi:Option Expr}{fl fh:Pf} (h:IE K X e f) (J:IO K X lo fl) (hh:IO K X hi fh) (hK:X.K=K:=by rfl):IE K X (.Subscript e (.Slice lo hi none p2) pos) (iSl f fl fh):=by
 subst hK;refine⟨λenv st r hr=>?_⟩;simp only[iSl,qac,qad]at hr;obtain⟨⟨x,s1⟩,hx,l,hl',u,hu',d,hd,rfl⟩:=hr;have list:(∀ {H:Hp}{φ:List Addr}{v:V},Sr X.K H φ u.2->Rw X.K H φ x v->∃ a g ds,v=.ref a/\SqL X.K H a g/\Rls X.K H φ ds g/\d=.lst (mL ds l.1 u.1))->PE X (.Subscript e (.Slice lo hi none p2) pos) (tI X.K env st (.d d,u.2)):=λhq=>by
  refine (tW Cb (h.run _ _ _ hx) (J.run _ _ _ hl') (hh.run _ _ _ hu')).imp ?_
  rintro M H Q ⟨φ,Y,R,q⟩
  refine⟨φ,Y,R,λv H1 T f1 s1 w1=>⟨T,Y.fw R f1,s1,λH2 φ2 f2 s2=>⟨φ2,(Y.fw R f1).fw s1 f2,s2,λH3 φ3 f3 s3=>?_⟩⟩⟩;obtain⟨a,g,ds,rfl,C,B,rfl⟩:=hq s3 ((w1.fw s1 f2).fw s2 f3);refine⟨a,g,U,C,λp E=>q _ _ φ3 (((f1.trans f2).trans f3).trans (Fw.new E)) (s3.new E) ?_⟩;exact⟨p,_,U,s3.nin E,.inl upd_same,(vC B _ _).fw s3 (Fw.new E)⟩
 match x,hd with
 |.d (.tup ds),hd=>
  cases hd;refine (tW (Dz U) (h.run _ _ _ hx) (J.run _ _ _ hl') (hh.run _ _ _ hu')).imp ?_
  rintro M H Q ⟨φ,Y,R,q⟩
  refine⟨φ,Y,R,λv H1 T f1 s1 w1=>⟨T,Y.fw R f1,s1,λH2 φ2 f2 s2=>⟨φ2,(Y.fw R f1).fw s1 f2,s2,λH3 φ3 f3 s3=>?_⟩⟩⟩;obtain⟨a,g,rfl,C,B⟩:=(w1.fw s1 f2).fw s2 f3;refine⟨a,g,U,(SqT.of C),?_⟩;by_cases hc:HT.sIx g.length 0 l.1=0/\HT.sIx g.length g.length u.1=g.length
  ·refine .inr ⟨hc,q _ _ φ3 ((f1.trans f2).trans f3) s3 ⟨a,g,U,C,?_⟩⟩
   have e:mL ds l.1 u.1=ds:=by
    unfold mL;rw[B.length,hc.1,hc.2,qhZ,qju,<-B.length,qde]
   rw[e];exact B
  ·exact .inl ⟨hc,λp E=>q _ _ φ3 (((f1.trans f2).trans f3).trans (Fw.new E)) (s3.new E) ⟨p,_,U,upd_same,(vC B _ _).fw s3 (Fw.new E)⟩⟩
 |.d (.lst ds),hd=>
  cases hd;refine list λ{H φ v} S w=>?_;obtain⟨a,g,rfl,h0,C,B⟩:=w;exact⟨a,g,ds,U,.inl C,B,U⟩
 |.d (.scr ns),hd=>
  cases hd;refine list λ{H φ v} S w=>?_;obtain⟨a,rfl,h⟩:=w;refine⟨a,_,_,U,?_,Rls.of_ints ns,U⟩;rcases h with⟨o,h⟩|h
  ·exact .inl (.inr ⟨o,h⟩)
  ·exact .inr h
 |.h n,hd=>
  obtain⟨ds,e1,rfl⟩:=qad.mp hd;refine list λ{H φ v} S w=>?_;obtain⟨a,ea,rfl⟩:=w;obtain⟨g,q,rl⟩:=S.atl n a ds ea e1;exact⟨a,g,ds,U,SqL.of q,rl,U⟩
end
section
variable {K:qae}{X:Cx}{T:List (Addr×Obj)}{σ:St}{H:Hp}{s:qai}{φ:List Addr}{st:Sto}
theorem dY:∀ (xs P:List D),((qak (min xs.length P.length)).all (λj=>eqD (xs.getD j .non) (P.getD j .non))&&xs.length==P.length)=dm xs P
 |[],[]=>rfl
 |[],y::P=>by simp[dm]
 |x::xs,[]=>by simp[dm]
 |x::xs,y::P=>by
  show ((qak (min (xs.length+1) (P.length+1))).all _&&(xs.length+1==P.length+1))=(eqD x y&&dm xs P);rw[show min _ _=min xs.length P.length+1 by lia,mB,<-dY xs P];have e:(xs.length+1==P.length+1)=(xs.length==P.length):=by simp
  rw[e,Bool.and_assoc];rfl
theorem jb {xs P:List D} (h:xs.length=P.length):(qak xs.length).all (λj=>eqD (xs.getD j .non) (P.getD j .non))=dm xs P:=by
 rw[<-dY xs P,<-h,Nat.min_self];simp
theorem sB:∀ {xs P:List D},xs.length≠P.length->dm xs P=false
 |[],[],h=>absurd U h
 |[],_::_,_=>rfl
 |_::_,[],_=>rfl
 |x::xs,y::P,h=>by
  show (eqD x y&&dm xs P)=false;rw[sB (by intro e;apply h;rw[qaq,qaq,e]),Bool.and_false]
theorem B3 (I:Inv X T σ H s) {a:Addr}{E ws:List V} (h:Rd H a (.lst E)) (h':Rd H a (.lst ws)):E=ws:=I.list_inj (.inl h) (.inl h')
theorem vG (I:Inv X T σ H s):∀ (n:Nat) {d e:D}{v:V},Rl X.K H φ d v->Rl X.K H φ e v->okD n d=true->okD n e=true->eqD d e=true:=by
 intro n
 induction n with
 |zero=>
  intro d e v m l N F;cases d<;>first|(cases N;done)|skip
  all_goals (cases e<;>first|(cases F;done)|skip)
  all_goals (first|rfl|(cases m.symm.trans l;done)|(cases m.symm.trans l;simp[eqD]))
 |succ n ih=>
  have lists:∀ {ds es:List D}{E:List V},Rls X.K H φ ds E->Rls X.K H φ es E->(∀ d∈ds,okD n d=true)->(∀ d∈es,okD n d=true)->dm ds es=true:=by
   intro ds
   induction ds with
   |nil=>
    intro es E m l _ _;cases m;cases es with
    |nil=>rfl
    |cons e es=>obtain⟨_,_,q,_⟩:=l;cases q
   |cons d ds ihd=>
    intro es E m l N F;obtain⟨v,r,rfl,a1,a2⟩:=m;cases es with
    |nil=>cases l
    |cons e es=>
     obtain⟨v',r',q,b1,b2⟩:=l;cases q;show (eqD d e&&dm ds es)=true;rw[ih a1 b1 (N d qag) (F e qag),ihd a2 b2 (λx hx=>N x (qaj _ hx)) (λx hx=>F x (qaj _ hx))];rfl
  intro d e v m l N F;cases d with
  |tup ds=>
   obtain⟨a,E,rfl,O,M⟩:=m;cases e with
   |tup es=>
    obtain⟨b,J,q,p,B⟩:=l;cases q;rw[I.tuple_inj (SqT.of p) (SqT.of O)]at B;exact lists M B (qa3.mp N) (qa3.mp F)
   |lst es=>
    obtain⟨b,J,q,_,p,B⟩:=l;cases q;obtain⟨_,_,p1,_⟩:=I.tuple (SqT.of O);obtain⟨_,_,f,_⟩:=I.list (.inl p);exact absurd U (qgm f.isList p1)
   |_=>first|(cases F;done)|(cases l)
  |lst ds=>
   obtain⟨a,E,rfl,h0,O,M⟩:=m;cases e with
   |lst es=>
    obtain⟨b,J,q,_,p,B⟩:=l;cases q;rw[B3 I p O]at B;exact lists M B (qa3.mp N) (qa3.mp F)
   |tup es=>
    obtain⟨b,J,q,p,B⟩:=l;cases q;obtain⟨_,_,p1,_⟩:=I.tuple (SqT.of p);obtain⟨_,_,f,_⟩:=I.list (.inl O);exact absurd U (qgm f.isList p1)
   |_=>first|(cases F;done)|(cases l)
  |non=>cases e<;>first|rfl|(cases F;done)|(cases m.symm.trans l)|(cases m;obtain⟨_,_,q,_⟩:=l;cases q)
  |bl b=>cases e<;>first|(cases F;done)|(cases m.symm.trans l;simp[eqD])|(cases m.symm.trans l)|(cases m;obtain⟨_,_,q,_⟩:=l;cases q)
  |int b=>cases e<;>first|(cases F;done)|(cases m.symm.trans l;simp[eqD])|(cases m.symm.trans l)|(cases m;obtain⟨_,_,q,_⟩:=l;cases q)
  |str b=>cases e<;>first|(cases F;done)|(cases m.symm.trans l;simp[eqD])|(cases m.symm.trans l)|(cases m;obtain⟨_,_,q,_⟩:=l;cases q)
  |ty b=>cases N
  |scr b=>cases N
  |dct=>cases N
  |ob _ _=>cases N
theorem dS {ds:List D}{E:List V}{J:List Value} (r:Rls K H φ ds E) (Y:aH E J):∀ (j:Nat) (h:j<J.length),∃ v,Rl K H φ (ds.getD j .non) v/\aP v J[j]/\ds.getD j .non∈ds:=by
 intro j h;obtain⟨h',q⟩:=Y.at j h;have hd:j<ds.length:=by rw[r.length];exact h'
 have e:=qam hd;obtain⟨v,ev,rl⟩:=r.get e;rw[qam h']at ev;cases ev;refine⟨_,?_,q,?_⟩
 ·rw[qfQ,e];exact rl
 ·rw[qfQ,e];exact qbQ hd
theorem yH (I:Inv X T σ H s):∀ (n:Nat) {A:qaY}{d e:D}{v u:V}{vv uu:Value},Rl X.K H φ d v->Rl X.K H φ e u->aP v vv->aP u uu->okD n d=true->okD n e=true->A.units+n<cLine->qdv A s vv uu (eqD d e):=by
 have flat:∀ {A:qaY}{d e:D}{v u:V}{vv uu:Value},cC d=true->cC e=true->Rl X.K H φ d v->Rl X.K H φ e u->aP v vv->aP u uu->qdv A s vv uu (eqD d e):=by
  intro A d e v u vv uu f1 f2 m l q1 L;obtain⟨R,g1⟩:=gA f1 m;obtain⟨e2,g2⟩:=gA f2 l;rw[<-qo f1 f2,<-R,<-e2];exact uE q1 L g1 g2
 intro n
 induction n with
 |zero=>
  intro A d e v u vv uu m l q1 L N F hu;refine flat ?_ ?_ m l q1 L
  ·cases d<;>first|rfl|cases N
  ·cases e<;>first|rfl|cases F
 |succ n ih=>
  intro A d e v u vv uu m l q1 L N F hu;have c:A.units<cLine:=by lia
  have hu1:A.in1.units+n<cLine:=by show A.units+1+n<cLine;lia
  cases d with
  |tup ds=>
   obtain⟨a,E,rfl,O,M⟩:=m;cases q1;obtain⟨G,Y,p1,_⟩:=I.tuple (SqT.of O);cases e with
   |tup es=>
    obtain⟨b,J,rfl,p,B⟩:=id l;cases L;by_cases hab:a=b
    ·subst hab
     rw[vG I (n+1) (d:=.tup ds) ⟨a,E,U,O,M⟩ l N F];exact qfb _
    ·obtain⟨g,o,f,_⟩:=I.tuple (SqT.of p)
     have z:=qeP (A:=A) p1 f c λj g1 g2=>by
      obtain⟨v1,k1,k2,k3⟩:=dS M Y j (by simpa using g1);obtain⟨v2,k4,k5,k6⟩:=dS B o j (by simpa using g2);exact ih k1 k4 (by simpa using k2) (by simpa using k5) (qa3.mp N _ k3) (qa3.mp F _ k6) hu1
     have R:G.toArray.size=ds.length:=by simp[<-Y.length,M.length]
     have e2:g.toArray.size=es.length:=by simp[<-o.length,B.length]
     rw[R,e2,dY]at z;exact qeC hab z
   |lst es=>
    obtain⟨b,J,rfl,_,p,B⟩:=id l;cases L;obtain⟨g,o,f,_⟩:=I.list (.inl p);exact qkz p1 f.isList c
   |non=>cases l;cases L;exact qky p1 c
   |bl x=>cases l;cases L;exact qkB x p1 c
   |int x=>cases l;obtain⟨t,rfl⟩:=L;exact qkA x t p1 c
   |str x=>cases l;obtain⟨t,rfl⟩:=L;exact qkx x t p1 c
   |ty _=>cases F
   |scr _=>cases F
   |dct=>cases F
   |ob _ _=>cases F
  |lst ds=>
   obtain⟨a,E,rfl,h0,O,M⟩:=m;cases q1;obtain⟨G,Y,p1,_⟩:=I.list (.inl O);cases e with
   |lst es=>
    obtain⟨b,J,rfl,_,p,B⟩:=id l;cases L;by_cases hab:a=b
    ·subst hab
     rw[vG I (n+1) (d:=.lst ds) ⟨a,E,U,h0,O,M⟩ l N F];exact qfb _
    ·obtain⟨g,o,f,_⟩:=I.list (.inl p)
     have R:G.toArray.size=ds.length:=by simp[<-Y.length,M.length]
     have e2:g.toArray.size=es.length:=by simp[<-o.length,B.length]
     by_cases hl:ds.length=es.length
     ·have z:=qgy (A:=A) p1.isList f.isList (by rw[R,e2,hl]) c λj g1 g2=>by
       obtain⟨v1,k1,k2,k3⟩:=dS M Y j (by simpa using g1);obtain⟨v2,k4,k5,k6⟩:=dS B o j (by simpa using g2);exact ih k1 k4 (by simpa using k2) (by simpa using k5) (qa3.mp N _ k3) (qa3.mp F _ k6) hu1
      rw[R,jb hl]at z;exact qeC hab z
     ·show qdv A s _ _ (dm ds es)
      rw[sB hl];exact qeC hab (qfq (A:=A) p1.isList f.isList (by rw[R,e2];simpa using hl) c)
   |tup es=>
    obtain⟨b,J,rfl,p,B⟩:=id l;cases L;obtain⟨g,o,f,_⟩:=I.tuple (SqT.of p);exact qkM p1.isList f c
   |non=>cases l;cases L;exact qkO p1.isList c
   |bl x=>cases l;cases L;exact qkQ x p1.isList c
   |int x=>cases l;obtain⟨t,rfl⟩:=L;exact qkP x t p1.isList c
   |str x=>cases l;obtain⟨t,rfl⟩:=L;exact qkN x t p1.isList c
   |ty _=>cases F
   |scr _=>cases F
   |dct=>cases F
   |ob _ _=>cases F
  |non=>
   cases m;cases q1;cases e with
   |tup es=>obtain⟨b,J,rfl,p,B⟩:=l;cases L;obtain⟨_,_,f,_⟩:=I.tuple (SqT.of p);exact qkH f c
   |lst es=>obtain⟨b,J,rfl,_,p,B⟩:=l;cases L;obtain⟨_,_,f,_⟩:=I.list (.inl p);exact qkJ f.isList c
   |_=>first|(cases F;done)|exact flat U U (d:=.non) U l (v:=.non) U L
  |bl x=>
   cases m;cases q1;cases e with
   |tup es=>obtain⟨b,J,rfl,p,B⟩:=l;cases L;obtain⟨_,_,f,_⟩:=I.tuple (SqT.of p);exact qkV x f c
   |lst es=>obtain⟨b,J,rfl,_,p,B⟩:=l;cases L;obtain⟨_,_,f,_⟩:=I.list (.inl p);exact qkY x f.isList c
   |_=>first|(cases F;done)|exact flat U U (d:=.bl x) U l (v:=.bl x) U L
  |int x=>
   cases m;obtain⟨t1,rfl⟩:=q1;cases e with
   |tup es=>obtain⟨b,J,rfl,p,B⟩:=l;cases L;obtain⟨_,_,f,_⟩:=I.tuple (SqT.of p);exact qkR x t1 f c
   |lst es=>obtain⟨b,J,rfl,_,p,B⟩:=l;cases L;obtain⟨_,_,f,_⟩:=I.list (.inl p);exact qkT x t1 f.isList c
   |_=>first|(cases F;done)|exact flat U U (d:=.int x) U l (v:=.int x) ⟨t1,U⟩ L
  |str x=>
   cases m;obtain⟨t1,rfl⟩:=q1;cases e with
   |tup es=>obtain⟨b,J,rfl,p,B⟩:=l;cases L;obtain⟨_,_,f,_⟩:=I.tuple (SqT.of p);exact qkC x t1 f c
   |lst es=>obtain⟨b,J,rfl,_,p,B⟩:=l;cases L;obtain⟨_,_,f,_⟩:=I.list (.inl p);exact qkF x t1 f.isList c
   |_=>first|(cases F;done)|exact flat U U (d:=.str x) U l (v:=.str x) ⟨t1,U⟩ L
  |ty _=>cases N
  |scr _=>cases N
  |dct=>cases N
  |ob _ _=>cases N
theorem Em {A:qaY}{y x:V}{u v:Value} (ry:aP y u) (C:aP x v) (fy:eM y=true) (fx:eM x=true):qjo A s u v (eqV y x):=by
 cases y with
 |non=>
  cases ry;cases x with
  |non=>cases C;exact qkc
  |bl b=>cases C;exact qkf b
  |int b=>obtain⟨t,rfl⟩:=C;exact qke b t
  |str b=>obtain⟨t,rfl⟩:=C;exact qkb b t
  |_=>cases fx
 |bl a=>
  cases ry;cases x with
  |non=>cases C;exact qkt a
  |bl b=>cases C;exact qkw a b
  |int b=>obtain⟨t,rfl⟩:=C;exact qkv a b t
  |str b=>obtain⟨t,rfl⟩:=C;exact qks a b t
  |_=>cases fx
 |int a=>
  obtain⟨t',rfl⟩:=ry;cases x with
  |non=>cases C;exact qkn a t'
  |bl b=>cases C;exact qkq a t' b
  |int b=>obtain⟨t,rfl⟩:=C;exact qkp a t' b t
  |str b=>obtain⟨t,rfl⟩:=C;exact qkm a t' b t
  |_=>cases fx
 |str a=>
  obtain⟨t',rfl⟩:=ry;cases x with
  |non=>cases C;exact qj6 a t'
  |bl b=>cases C;exact qj9 a t' b
  |int b=>obtain⟨t,rfl⟩:=C;exact qj8 a t' b t
  |str b=>obtain⟨t,rfl⟩:=C;exact qj5 a t' b t
  |_=>cases fx
 |_=>cases fy
theorem Aa {A:qaY}{y x:V}{u v:Value} (ry:aP y u) (C:aP x v) (fy:eM y=true) (fx:eM x=true):qib A s u v (!eqV y x):=by
 cases y with
 |non=>
  cases ry;cases x with
  |non=>cases C;exact qi1
  |bl b=>cases C;exact qi4 b
  |int b=>obtain⟨t,rfl⟩:=C;exact qi3 b t
  |str b=>obtain⟨t,rfl⟩:=C;exact qi0 b t
  |_=>cases fx
 |bl a=>
  cases ry;cases x with
  |non=>cases C;exact qjk a
  |bl b=>cases C;exact qjn a b
  |int b=>obtain⟨t,rfl⟩:=C;exact qjm a b t
  |str b=>obtain⟨t,rfl⟩:=C;exact qjj a b t
  |_=>cases fx
 |int a=>
  obtain⟨t',rfl⟩:=ry;cases x with
  |non=>cases C;exact qje a t'
  |bl b=>cases C;exact qjh a t' b
  |int b=>obtain⟨t,rfl⟩:=C;exact qjg a t' b t
  |str b=>obtain⟨t,rfl⟩:=C;exact qjd a t' b t
  |_=>cases fx
 |str a=>
  obtain⟨t',rfl⟩:=ry;cases x with
  |non=>cases C;exact qiV a t'
  |bl b=>cases C;exact qiY a t' b
  |int b=>obtain⟨t,rfl⟩:=C;exact qiX a t' b t
  |str b=>obtain⟨t,rfl⟩:=C;exact qiU a t' b t
  |_=>cases fx
 |_=>cases fy
inductive Kin where
 |fl (d:D)|tp (ds:List D)|ls (ds:List D)
def nu (st:Sto):W->Option Kin
 |.d (.tup ds)=>some (.tp ds)
 |.d (.lst ds)=>some (.ls ds)
 |.h n=>(lg st n).map .ls
 |.d .non=>some (.fl .non)
 |.d (.bl b)=>some (.fl (.bl b))
 |.d (.int i)=>some (.fl (.int i))
 |.d (.str x)=>some (.fl (.str x))
 |_=>none
def eqK:Kin->Kin->Option Bool
 |.fl a,.fl b=>some (eqD a b)
 |.tp as,.tp bs=>if (as.isEmpty||bs.isEmpty)=true then some (as.isEmpty&&bs.isEmpty) else if as.all (okD 60)=true/\bs.all (okD 60)=true then some (dm as bs) else none
 |.ls as,.ls bs=>if as.length=bs.length then (if as.all (okD 60)=true/\bs.all (okD 60)=true then some (dm as bs) else none) else some false
 |.fl _,.tp _=>some false
 |.tp _,.fl _=>some false
 |.fl _,.ls _=>some false
 |.ls _,.fl _=>some false
 |.tp _,.ls _=>some false
 |.ls _,.tp _=>some false
def dEq (st:Sto) (x y:W):Option D:=(nu st x).bind λa=>(nu st y).bind λb=>(eqK a b).map λk=>.bl k
def dNe (st:Sto) (x y:W):Option D:=(nu st x).bind λa=>(nu st y).bind λb=>(eqK a b).map λk=>.bl (!k)
def C3 (K:qae) (H:Hp) (φ:List Addr):Kin->V->Prop
 |.fl d,v=>cC d=true/\Rl K H φ d v
 |.tp ds,v=>∃ a E,v=.ref a/\SqT K H a E/\Rls K H φ ds E
 |.ls ds,v=>∃ a E,v=.ref a/\Rd H a (.lst E)/\Rls K H φ ds E
theorem ma {w:W}{v:V}{k:Kin} (S:Sr K H φ st) (r:Rw K H φ w v) (e:nu st w=some k):C3 K H φ k v:=by
 cases w with
 |h n=>
  obtain⟨a,ea,rfl⟩:=r;obtain⟨ds,R,rfl⟩:=qad.mp e;obtain⟨E,q,rl⟩:=S.atl n a ds ea R;exact⟨a,E,U,.inl q,rl⟩
 |d x=>
  cases x with
  |tup es=>cases e;obtain⟨a,E,rfl,O,M⟩:=r;exact⟨a,E,U,SqT.of O,M⟩
  |lst es=>cases e;obtain⟨a,E,rfl,h0,O,M⟩:=r;exact⟨a,E,U,O,M⟩
  |non=>cases e;exact⟨U,r⟩
  |bl b=>cases e;exact⟨U,r⟩
  |int b=>cases e;exact⟨U,r⟩
  |str b=>cases e;exact⟨U,r⟩
  |_=>cases e
theorem Do {A:qaY}{k:Nat} (hr:bu k A):A.in1.units+60<cLine:=by
 have:=hr.un
 lia
theorem z8 {k:Nat} (hr:bu k X.A) (I:Inv X T σ H s) {a b:Kin}{v u:V}{vv uu:Value}{r:Bool} (ra:C3 X.K H φ a v) (rb:C3 X.K H φ b u) (qa:aP v vv) (qb:aP u uu) (e:eqK a b=some r) :
  qjo X.A s vv uu r/\qib X.A s vv uu (!r):=by
 have c:=hr.units0;have items:∀ {ds es:List D}{E J:List V}{G g:List Value},Rls X.K H φ ds E->Rls X.K H φ es J->aH E G->aH J g->ds.all (okD 60)=true->es.all (okD 60)=true->
   ∀ j (g1:j<G.toArray.size) (g2:j<g.toArray.size),qdv X.A.in1 s G.toArray[j] g.toArray[j] (eqD (ds.getD j .non) (es.getD j .non)):=by
  intro ds es E J G g M B Y o N F j g1 g2;obtain⟨v1,k1,k2,k3⟩:=dS M Y j (by simpa using g1);obtain⟨v2,k4,k5,k6⟩:=dS B o j (by simpa using g2);exact yH I 60 k1 k4 (by simpa using k2) (by simpa using k5) (qa3.mp N _ k3) (qa3.mp F _ k6) (Do hr)
 match a,b,e with
 |.fl d,.fl d',e=>
  cases e;obtain⟨f1,m⟩:=ra;obtain⟨f2,l⟩:=rb;obtain⟨R,g1⟩:=gA f1 m;obtain⟨e2,g2⟩:=gA f2 l;rw[<-qo f1 f2,<-R,<-e2];exact⟨Em qa qb g1 g2,Aa qa qb g1 g2⟩
 |.tp ds,.tp es,e=>
  simp only[eqK]at e;obtain⟨a,E,rfl,O,M⟩:=ra;obtain⟨b,J,rfl,p,B⟩:=rb;cases qa;cases qb;obtain⟨G,Y,p1,_⟩:=I.tuple O;obtain⟨g,o,f,_⟩:=I.tuple p;have R:G.toArray.size=ds.length:=by simp[<-Y.length,M.length]
  have e2:g.toArray.size=es.length:=by simp[<-o.length,B.length]
  split at e
  ·rename_i hc
   cases e;have hv:∀ j (g1:j<G.toArray.size) (g2:j<g.toArray.size),qdv X.A.in1 s G.toArray[j] g.toArray[j] (eqD (ds.getD j .non) (es.getD j .non)):=λj g1 g2=>by
    rw[R]at g1;rw[e2]at g2;rw[qhR]at hc;rcases hc with hc|hc
    ·rw[qhJ.mp hc]at g1;exact absurd g1 (qcV _)
    ·rw[qhJ.mp hc]at g2;exact absurd g2 (qcV _)
   have z:=qeP (A:=X.A) p1 f c hv;have z':=qfO (A:=X.A) p1 f c hv;rw[R,e2,dY]at z z';have e3:dm ds es=(ds.isEmpty&&es.isEmpty):=by
    cases ds with
    |nil=>cases es<;>rfl
    |cons _ _=>cases es with
     |nil=>rfl
     |cons _ _=>cases hc
   rw[e3]at z z';exact⟨z,z'⟩
  ·split at e
   ·rename_i hc
    cases e;have z:=qeP (A:=X.A) p1 f c (items M B Y o hc.1 hc.2);have z':=qfO (A:=X.A) p1 f c (items M B Y o hc.1 hc.2);rw[R,e2,dY]at z z';exact⟨z,z'⟩
   ·cases e
 |.ls ds,.ls es,e=>
  simp only[eqK]at e;obtain⟨a,E,rfl,O,M⟩:=ra;obtain⟨b,J,rfl,p,B⟩:=rb;cases qa;cases qb;obtain⟨G,Y,p1,_⟩:=I.list (.inl O);obtain⟨g,o,f,_⟩:=I.list (.inl p);have R:G.toArray.size=ds.length:=by simp[<-Y.length,M.length]
  have e2:g.toArray.size=es.length:=by simp[<-o.length,B.length]
  split at e
  ·rename_i hl
   split at e
   ·rename_i hc
    cases e;have z:=qgy (A:=X.A) p1.isList f.isList (by rw[R,e2,hl]) c (items M B Y o hc.1 hc.2);have z':=qi6 (A:=X.A) p1.isList f.isList (by rw[R,e2,hl]) c (items M B Y o hc.1 hc.2);rw[R,jb hl]at z z';exact⟨z,z'⟩
   ·cases e
  ·rename_i hl
   cases e;have z':=qi5 (A:=X.A) p1.isList f.isList (by rw[R,e2];simpa using hl) c;exact⟨(qfq (A:=X.A) p1.isList f.isList (by rw[R,e2];simpa using hl) c),z'⟩
 |.fl d,.tp es,e=>
  cases e;obtain⟨f1,m⟩:=ra;obtain⟨b,J,rfl,p,B⟩:=rb;cases qb;obtain⟨g,o,f,_⟩:=I.tuple p;cases d with
  |non=>cases m;cases qa;exact⟨qka f c,qiZ f c⟩
  |bl x=>cases m;cases qa;exact⟨qkr x f c,qji x f c⟩
  |int x=>cases m;obtain⟨t,rfl⟩:=qa;exact⟨qkl x t f c,qjc x t f c⟩
  |str x=>cases m;obtain⟨t,rfl⟩:=qa;exact⟨qj4 x t f c,qiT x t f c⟩
  |_=>cases f1
 |.tp es,.fl d,e=>
  cases e;obtain⟨f1,m⟩:=rb;obtain⟨b,J,rfl,p,B⟩:=ra;cases qa;obtain⟨g,o,f,_⟩:=I.tuple p;cases d with
  |non=>cases m;cases qb;exact⟨qj0 f c,qiP f c⟩
  |bl x=>cases m;cases qb;exact⟨qj3 x f c,qiS x f c⟩
  |int x=>cases m;obtain⟨t,rfl⟩:=qb;exact⟨qj2 x t f c,qiR x t f c⟩
  |str x=>cases m;obtain⟨t,rfl⟩:=qb;exact⟨qjZ x t f c,qiO x t f c⟩
  |_=>cases f1
 |.fl d,.ls es,e=>
  cases e;obtain⟨f1,m⟩:=ra;obtain⟨b,J,rfl,p,B⟩:=rb;cases qb;obtain⟨g,o,f,_⟩:=I.list (.inl p);replace f:=f.isList;cases d with
  |non=>cases m;cases qa;exact⟨qkd f c,qi2 f c⟩
  |bl x=>cases m;cases qa;exact⟨qku x f c,qjl x f c⟩
  |int x=>cases m;obtain⟨t,rfl⟩:=qa;exact⟨qko x t f c,qjf x t f c⟩
  |str x=>cases m;obtain⟨t,rfl⟩:=qa;exact⟨qj7 x t f c,qiW x t f c⟩
  |_=>cases f1
 |.ls es,.fl d,e=>
  cases e;obtain⟨f1,m⟩:=rb;obtain⟨b,J,rfl,p,B⟩:=ra;cases qa;obtain⟨g,o,f,_⟩:=I.list (.inl p);replace f:=f.isList;cases d with
  |non=>cases m;cases qb;exact⟨qki f c,qi9 f c⟩
  |bl x=>cases m;cases qb;exact⟨qkk x f c,qjb x f c⟩
  |int x=>cases m;obtain⟨t,rfl⟩:=qb;exact⟨qkj x t f c,qja x t f c⟩
  |str x=>cases m;obtain⟨t,rfl⟩:=qb;exact⟨qkh x t f c,qi8 x t f c⟩
  |_=>cases f1
 |.tp ds,.ls es,e=>
  cases e;obtain⟨a,E,rfl,O,M⟩:=ra;obtain⟨b,J,rfl,p,B⟩:=rb;cases qa;cases qb;obtain⟨G,Y,p1,_⟩:=I.tuple O;obtain⟨g,o,f,_⟩:=I.list (.inl p);exact⟨qj1 p1 f.isList c,qiQ p1 f.isList c⟩
 |.ls ds,.tp es,e=>
  cases e;obtain⟨a,E,rfl,O,M⟩:=ra;obtain⟨b,J,rfl,p,B⟩:=rb;cases qa;cases qb;obtain⟨G,Y,p1,_⟩:=I.list (.inl O);obtain⟨g,o,f,_⟩:=I.tuple p;exact⟨qkg p1.isList f c,qi7 p1.isList f c⟩
theorem wq {k:Nat} (hr:bu k X.A) (hK:X.K=K:=by rfl):OpD K X (qbN .Eq) dEq:=by
 subst hK;refine⟨λst x y d h=>?_⟩;simp only[dEq,qac,qad]at h;obtain⟨a,ha,b,hb,r,e,rfl⟩:=h;intro T s σ H vx vy v u Q I C ry q;obtain⟨φ,S,m,l,q⟩:=q;exact (z8 hr I (ma S m ha) (ma S l hb) C ry e).1 _ _ _ _ ⟨.bl r,H,I,U,q _ H (aQ.refl H) U⟩
theorem wx {k:Nat} (hr:bu k X.A) (hK:X.K=K:=by rfl):OpD K X (qbN .NotEq) dNe:=by
 subst hK;refine⟨λst x y d h=>?_⟩;simp only[dNe,qac,qad]at h;obtain⟨a,ha,b,hb,r,e,rfl⟩:=h;intro T s σ H vx vy v u Q I C ry q;obtain⟨φ,S,m,l,q⟩:=q;exact (z8 hr I (ma S m ha) (ma S l hb) C ry e).2 _ _ _ _ ⟨.bl _,H,I,U,q _ H (aQ.refl H) U⟩
end
section
variable {K:qae}{X:Cx}
def aU:List D->Option (List Int)
 |[]=>some []
 |.int i::ds=>(aU ds).map λr=>i::r
 |_=>none
theorem bg:∀ {ds:List D}{ns:List Int},aU ds=some ns->ds=ns.map D.int
 |[],_,h=>by cases h;rfl
 |.int i::ds,_,h=>by
  obtain⟨r,e,rfl⟩:=qad.mp h;rw[bg e];rfl
 |.non::_,_,h=>by cases h
 |.bl _::_,_,h=>by cases h
 |.str _::_,_,h=>by cases h
 |.ty _::_,_,h=>by cases h
 |.dct::_,_,h=>by cases h
 |.scr _::_,_,h=>by cases h
 |.tup _::_,_,h=>by cases h
 |.lst _::_,_,h=>by cases h
theorem bb:∀ (ns:List Int),aU (ns.map D.int)=some ns
 |[]=>rfl
 |n::ns=>by rw[qaw,aU,bb ns];rfl
def ku:List D->Option (List Bool)
 |[]=>some []
 |.bl i::ds=>(ku ds).map λr=>i::r
 |_=>none
theorem kU:∀ {ds:List D}{ns:List Bool},ku ds=some ns->ds=ns.map D.bl
 |[],_,h=>by cases h;rfl
 |.bl i::ds,_,h=>by
  obtain⟨r,e,rfl⟩:=qad.mp h;rw[kU e];rfl
 |.non::_,_,h=>by cases h
 |.int _::_,_,h=>by cases h
 |.str _::_,_,h=>by cases h
 |.ty _::_,_,h=>by cases h
 |.dct::_,_,h=>by cases h
 |.scr _::_,_,h=>by cases h
 |.tup _::_,_,h=>by cases h
 |.lst _::_,_,h=>by cases h
theorem mI:∀ (ns:List Bool),ku (ns.map D.bl)=some ns
 |[]=>rfl
 |n::ns=>by rw[qaw,ku,mI ns];rfl
def a8 (st:Sto):List W->Option D
 |[.d (.str x)]=>if x.length<=1000000 then some (.int x.length) else none
 |[w]=>(iy st w).map λds=>.int ds.length
 |_=>none
def uz (_:Sto):List W->Option D
 |[.d (.int i)]=>some (.int (if i<0 then -i else i))
 |_=>none
def AY (_:Sto):List W->Option D
 |[.d (.int i)]=>some (.int i)
 |[.d (.bl k)]=>some (.int (if k then 1 else 0))
 |_=>none
def sk (_:Sto):List W->Option D
 |[.d (.lst ds)]=>(aU ds).map λns=>.int ns.sum
 |_=>none
def AX (_:Sto):List W->Option D
 |[.d (.lst ds)]=>(ku ds).map λns=>.bl (ns.all id)
 |_=>none
def f8 (st:Sto):List W->Option D
 |[w]=>(iy st w).map λds=>.tup ds
 |_=>none
def sW (st:Sto):List W->Option (List D)
 |[w]=>iy st w
 |_=>none
def EI (st:Sto):W->Option String
 |.d .non=>some "NoneType"
 |.d (.bl _)=>some "bool"
 |.d (.int _)=>some "int"
 |.d (.str _)=>some "str"
 |.d (.tup _)=>some "tuple"
 |.d (.lst _)=>some "list"
 |.d .dct=>some "dict"
 |.h n=>(lg st n).map λ_=>"list"
 |_=>none
def Dq (t c:String):Option Bool:=
 if c = "int" then some (t=="int" || t=="bool")
 else if c = "bool"\/c = "str"\/c = "tuple"\/c = "list" then some (t==c)
 else none
def lz (st:Sto):List W->Option D
 |[w,.d (.ty c)]=>(EI st w).bind λt=>(Dq t c).map λb=>.bl b
 |_=>none
theorem fZ (O:X.K=K:=by rfl):eG K X (.builtin "len") a8:=by
 subst O;refine⟨λst ws d h=>?_⟩;have R:∀ w,(iy st w).map (λds=>D.int ds.length)=some d->bE X _ (rCD X.K st [w] d):=λw h=>by
  obtain⟨ds,e,rfl⟩:=qad.mp h;refine pN.imp ?_
  rintro F H Q ⟨φ,S,⟨v,r,rfl,m,rfl⟩,q⟩
  obtain⟨a,C,rfl,j,N⟩:=iU S m e;exact⟨a,C,U,j,q _ H (aQ.refl H) (by rw[<-N.length];rfl)⟩
 cases ws with
 |nil=>cases h
 |cons w tl=>
  cases tl with
  |cons _ _=>
   cases w with
   |h n=>cases h
   |d x=>cases x<;>cases h
  |nil=>
   cases w with
   |h n=>exact R _ h
   |d x=>
    cases x with
    |str x=>
     simp only[a8]at h;split at h
     ·rename_i T
      cases h;refine pO.imp ?_
      rintro F H Q ⟨φ,S,⟨v,r,rfl,m,rfl⟩,q⟩
      exact⟨x,by rw[m],qaT T mil,q _ H (aQ.refl H) U⟩
     ·cases h
    |tup ds=>exact R _ h
    |lst ds=>exact R _ h
    |scr ds=>exact R _ h
    |_=>cases h
theorem pT:eG K X (.builtin "abs") uz:=by
 refine⟨λst ws d h=>?_⟩
 match ws,h with
 |[.d (.int i)],h=>
  cases h;refine yz.imp ?_
  rintro F H Q ⟨φ,S,⟨v,r,rfl,m,rfl⟩,q⟩
  exact⟨i,by rw[m],q _ H (aQ.refl H) U⟩
theorem pW:eG K X (.type "int") AY:=by
 refine⟨λst ws d h=>?_⟩
 match ws,h with
 |[.d (.int i)],h=>
  cases h;refine oS.imp ?_
  rintro F H Q ⟨φ,S,⟨v,r,rfl,m,rfl⟩,q⟩
  exact .inl ⟨i,by rw[m],q _ H (aQ.refl H) U⟩
 |[.d (.bl i)],h=>
  cases h;refine oS.imp ?_
  rintro F H Q ⟨φ,S,⟨v,r,rfl,m,rfl⟩,q⟩
  exact .inr ⟨i,by rw[m],q _ H (aQ.refl H) U⟩
theorem pY (hc:X.calm=true:=by rfl) (O:X.K=K:=by rfl):eG K X (.builtin "sum") sk:=by
 refine⟨λst ws d h=>?_⟩
 match ws,h with
 |[.d (.lst ds)],h=>
  obtain⟨ns,e,rfl⟩:=qad.mp h;cases bg e;refine (Fz hc U).imp ?_
  rintro F H Q ⟨φ,S,⟨v,r,rfl,⟨a,C,rfl,h0,j,N⟩,rfl⟩,q⟩
  cases N.ints;exact⟨a,ns,U,.inl j,q _ H (aQ.refl H) U⟩
theorem pU (hc:X.calm=true:=by rfl) (O:X.K=K:=by rfl):eG K X (.builtin "all") AX:=by
 refine⟨λst ws d h=>?_⟩
 match ws,h with
 |[.d (.lst ds)],h=>
  obtain⟨ns,e,rfl⟩:=qad.mp h;cases kU e;refine (Fy hc U).imp ?_
  rintro F H Q ⟨φ,S,⟨v,r,rfl,⟨a,C,rfl,h0,j,N⟩,rfl⟩,q⟩
  cases N.bools;exact⟨a,ns,U,.inl j,q _ H (aQ.refl H) U⟩
theorem pZ (O:X.K=K:=by rfl):eG K X (.type "tuple") f8:=by
 subst O;refine⟨λst ws d h=>?_⟩
 match ws,h with
 |[w],h=>
  obtain⟨ds,e,rfl⟩:=qad.mp h;refine oE.imp ?_
  rintro F H Q ⟨φ,S,⟨v,r,rfl,m,rfl⟩,q⟩
  obtain⟨a,C,rfl,j,N⟩:=t8 S m e;refine⟨a,C,U,?_⟩;rcases j with j|j
  ·exact .inl ⟨j,λl T=>q _ _ (aQ.new T _) ⟨l,C,U,upd_same,N.fw S (Fw.new T)⟩⟩
  ·exact .inr ⟨SqT.of j,q _ H (aQ.refl H) ⟨a,C,U,j,N⟩⟩
theorem iF (O:X.K=K:=by rfl):rS K X (.type "list") sW:=by
 subst O;refine⟨λst ws d h=>?_⟩
 match ws,h with
 |[w],h=>
  refine pP.imp ?_
  rintro F H Q ⟨φ,S,⟨v,r,rfl,m,rfl⟩,q⟩
  obtain⟨a,C,rfl,j,N⟩:=iU S m h;exact⟨a,C,U,j,λl T=>q l C H (aQ.refl H) T N⟩
theorem fq {t c:String}{b:Bool} (M:t = "NoneType"\/t = "bool"\/t = "int"\/t = "str"\/t = "tuple"\/t = "list"\/t = "dict") (h:Dq t c=some b):qhq K (.type t) (.type c)=some b:=by
 unfold Dq at h;split at h
 ·rename_i hc
  subst hc;rcases M with rfl|rfl|rfl|rfl|rfl|rfl|rfl<;>(cases h;rfl)
 ·split at h
  ·rename_i _ hc
   rcases hc with rfl|rfl|rfl|rfl<;>rcases M with rfl|rfl|rfl|rfl|rfl|rfl|rfl<;>(cases h;rfl)
  ·cases h
theorem pX (O:X.K=K:=by rfl):eG K X (.builtin "isinstance") lz:=by
 subst O;refine⟨λst ws d h=>?_⟩;unfold lz at h;split at h
 case h_2=>cases h
 rename_i w c;simp only[lz,qac,qad]at h;obtain⟨t,M,b,hb,rfl⟩:=h;intro pins s σ H xs C Q I rv q;obtain⟨φ,S,⟨v,r,rfl,m,u,r',rfl,r2,rfl⟩,q⟩:=q;cases (show u=.ty c from r2);obtain⟨vv,uu,rfl,A,rv2⟩:=rv.two;cases rv2;have fin:∀ tk,EP X pins σ Q (.bool b) { s with toks:=tk }:=λtk=>⟨.bl b,H,I.tok tk,U,q _ H (aQ.refl H) U⟩;cases w with
 |h n=>
  obtain⟨a,ea,rfl⟩:=m;obtain⟨ds,eds,rfl⟩:=qad.mp M;obtain⟨F,hv,_⟩:=S.atl n a ds ea eds;exact b0 I A (.lst hv) (fq (by simp) hb) fin
 |d x=>
  cases x with
  |non=>cases M;cases m;exact b0 I A .non (fq (by simp) hb) fin
  |ob _ _=>cases M
  |bl x=>cases M;cases m;exact b0 I A (.bl x) (fq (by simp) hb) fin
  |int x=>cases M;cases m;exact b0 I A (.int x) (fq (by simp) hb) fin
  |str x=>cases M;cases m;exact b0 I A (.str x) (fq (by simp) hb) fin
  |lst ds=>
   cases M;obtain⟨a,F,rfl,h0,j,N⟩:=m;rcases j with j|⟨o,j⟩
   ·exact b0 I A (.lst j) (fq (by simp) hb) fin
   ·exact b0 I A (.frz j) (fq (by simp) hb) fin
  |tup ds=>
   cases M;obtain⟨a,F,rfl,j,N⟩:=m;cases A;obtain⟨its,_,p,_⟩:=I.tuple (SqT.of j);obtain⟨o,e1,e2,_⟩:=p;exact qbM qgF I.kIn ⟨o,e1,e2⟩ (fq (by simp) hb) (λz=>nomatch z) fin
  |dct=>
   cases M;obtain⟨a,rfl,_,j⟩:=m;rcases j with⟨d,j⟩|⟨d,j⟩
   ·exact b0 I A (.dK j) (fq (by simp) hb) fin
   ·exact b0 I A (.dT j) (fq (by simp) hb) fin
  |ty x=>cases M
  |scr x=>cases M
variable {e a b:Expr}{es:List Expr}{pos:Pos}{f fa fb:Ef}{af:Af}
theorem vR {x:Str}{c:String} (hg:Gl X x) (hm:X.mg x=none) (hv:qcd x=some (.type c)) (hn:x≠"__name__":=by decide) (hd:(x==("__debug__" : Str))=false:=by decide):IE K X (.Name x pos) (iC (.ty c)):=
 yV (v:=.ty c) (BF hg hm hv U hn hd) λ_ _=>rfl
def cD (g:List D->List W->Option (D×List D)) (o:Ef) (a:Af):Ef
 |env,st=>(o env st).bind λx=>(a env x.2).bind λr=>match x.1 with
 |.h n=>(lg x.2 n).bind λ_=>(lg r.2 n).bind λds=>(g ds r.1).map λy=>(.d y.1,r.2.set n (.l y.2))
 |_=>none
def bv (ds:List D):List W->Option (D×List D)
 |[.d x]=>if ds.length<1000000 then some (.non,ds++[x]) else none
 |_=>none
theorem yY {name:Str}{id:String}{B:Pos}{rr:V->List V->Hp->VK->Prop}{g:List D->List W->Option (D×List D)} (slot:Slot "list" name id) (hty:typeOf (.builtin id)=pure (.type "method_descriptor")) (hm:MtR X id rr)
  (hg:∀ (H:Hp) (φ:List Addr) (st:Sto) (n:Nat) (ad:Addr) (ds:List D) (F:List V) (ws:List W) (C:List V) (y:D×List D) (Q:VK),Sr K H φ st->φ[n]?=some ad->lg st n=some ds->H ad=some (.lst F)->Rls K H φ ds F->Rws K H φ ws C->g ds ws=some y->
    (∀ v vs',Rl K H φ y.1 v->Rls K H φ y.2 vs'->(∀ b,v≠.ref b)->Q v (upd H ad (.lst vs')))->rr (.ref ad) C H Q)
  (hfl:∀ ds ws y,g ds ws=some y->cC y.1=true)
  (ho:IE K X a fa) (ha:IA K X (e::es) af) (L:qdb a name X.env (eval a X.env)=eval a X.env:=by rfl)
  (E:(e::es).all az=true:=by rfl) (J:(e::es).length<30:=by decide) (G:(B.endLine==pos.line)=true:=by rfl) (O:X.K=K:=by rfl) :
  IE K X (.Call (.Attribute a name B) (e::es) [] pos) (cD g fa af):=by
 have P:=by rw[qbE,qa8]at E;exact E
 refine⟨λenv st r hr=>?_⟩;simp only[cD,qac]at hr;obtain⟨⟨x,s1⟩,hx,⟨ws,s2⟩,hw,hr⟩:=hr;cases x with
 |d x=>cases hr
 |h n=>
  simp only[qac,qad]at hr;obtain⟨ds1,hds1,ds,hds,y,Y,rfl⟩:=hr;refine (CL qfZ slot hty hm (ho.run _ _ _ hx) (ha.run _ _ _ hw) L (ua E J) G (aT P.1) (br P.2)).imp ?_
  rintro σ H Q ⟨φ,hE,hS,q⟩
  refine⟨φ,hE,hS,λv H1 φ1 f1 S1 w1=>?_⟩;obtain⟨ad,ea,rfl⟩:=w1;obtain⟨vs1,hv1,_⟩:=S1.atl n ad _ ea hds1;refine⟨.inl ⟨U,vs1,SqL.of hv1⟩,φ1,hE.fw hS f1,S1,λC H2 φ2 f2 S2 w2=>?_⟩;have ea2:=f2.get ea;obtain⟨vs2,hv2,rl2⟩:=S2.atl n ad ds ea2 hds;refine hg H2 φ2 s2 n ad ds vs2 ws C y _ S2 ea2 hds hv2 rl2 w2 Y λv vs' m r2 hb=>?_;obtain⟨f3,S3⟩:=S2.put ea2 r2;exact q v _ φ2 ((f1.trans f2).trans f3) S3 (m.fw S2 f3)
theorem iH {B:Pos} (ho:IE K X a fa) (ha:IA K X (e::es) af) (L:qdb a "append" X.env (eval a X.env)=eval a X.env:=by rfl)
  (E:(e::es).all az=true:=by rfl) (J:(e::es).length<30:=by decide) (G:(B.endLine==pos.line)=true:=by rfl) (O:X.K=K:=by rfl) :
  IE K X (.Call (.Attribute a "append" B) (e::es) [] pos) (cD bv fa af):=by
 refine yY PySem.F.slot_list_append PySem.F.type_list_append xY (λH φ st n ad ds F ws C y Q S ea eds hv rl rw Y q=>?_) (λds ws y h=>?_) ho ha L E J G O
 ·match ws,Y with
  |[.d x],Y=>
   simp only[bv]at Y;split at Y
   ·rename_i T
    cases Y;obtain⟨v,r,rfl,m,rfl⟩:=rw;exact⟨ad,F,v,U,U,hv,by rw[<-rl.length];exact qaQ T mil,q _ _ U (rl.append ⟨v,_,U,m,U⟩) (λb z=>nomatch z)⟩
   ·cases Y
 ·match ws,h with
  |[.d x],h=>
   simp only[bv]at h;split at h
   ·cases h;rfl
   ·cases h
end
section
variable {K:qae}{X:Cx}{e a b:Expr}{es:List Expr}{pos:Pos}{f fa R:Ef}{af:Af}
theorem lV {i j:Nat}{x y:Str}{px py pt:Pos}{kt k2 pt2}
  (h:∀ ta,PA X [a,b] ta->PS X (.Assign [.Tuple [.Name x px,.Name y py] kt pt] (.Tuple [a,b] k2 pt2) pos) (Gr i j ta)) (N:IA K X [a,b] af) :
  IS K X (.Assign [.Tuple [.Name x px,.Name y py] kt pt] (.Tuple [a,b] k2 pt2) pos) (yU i j af):=by
 refine⟨λenv st r l=>?_⟩;simp only[yU,qac]at l;obtain⟨⟨ws,s1⟩,L,l⟩:=l;dsimp only at l;split at l
 case h_2=>cases l
 rename_i x y;cases l;refine (h _ (N.run _ _ _ L)).imp ?_
 rintro D σ H ⟨φ,F,A,q⟩
 refine⟨φ,F,A,λvs H1 B I s1 M=>?_⟩;obtain⟨v,r,rfl,r1,u,r',rfl,O,r3⟩:=M;cases r3;exact⟨v,u,U,q _ H1 B I (((F.fw A I).set i r1).set j O) s1⟩
def rL (K:qae) (st:Sto) (x y:W) (ds:List D):R2:=λT vy H Q=>∃ φ,Sr K H φ st/\Rw K H φ x T/\Rw K H φ y vy/\∀ p s,H p=none->Rls K H φ ds s->Q (.ref p) (upd H p (.lst s))
structure OpL (K:qae) (X:Cx) (f:Value->Value->Sem Value) (g:Sto->W->W->Option (List D)):Prop where
 run:∀ st x y d,g st x y=some d->OpR X f (rL K st x y d)
def sJ (g:Sto->W->W->Option (List D)) (a b:Ef):Lf
 |env,st=>(a env st).bind λx=>(b env x.2).bind λy=>(g y.2 x.1 y.1).map λd=>(d,y.2)
theorem vT {op:Operator}{g:Sto->W->W->Option (List D)} (ho:OpL K X (qbH op) g) (N:IE K X a fa) (hb:IE K X b R):IL K X (.BinOp a op b pos) (sJ g fa R):=by
 refine⟨λenv st r l=>?_⟩;simp only[sJ,qac,qad]at l;obtain⟨x,hx,y,L,d,hd,rfl⟩:=l;refine (CM (ho.run _ _ _ _ hd) (N.run _ _ _ hx) (hb.run _ _ _ L)).imp ?_
 rintro σ H Q ⟨φ,F,A,q⟩
 exact⟨φ,F,A,λv H1 B I s1 M=>⟨B,F.fw A I,s1,λu H2 E f2 Y w2=>⟨E,Y,M.fw s1 f2,w2,λp s P r=>q p s H2 E (I.trans f2) Y P r⟩⟩⟩
def ny (_:Sto):W->W->Option (List D)
 |.d (.lst a),.d (.int k)=>if a.length<=1000/\-1000<=k/\k<1000 then some (qaH k.toNat a).flatten else none
 |_,_=>none
theorem rn:OpL K X (qbH .Mult) ny:=by
 refine⟨λst x y d h=>?_⟩
 match x,y,h with
 |.d (.lst as),.d (.int k),h=>
  simp only[ny]at h;split at h
  ·rename_i hl
   cases h;refine wz.imp ?_
   rintro T vy H Q ⟨φ,S,⟨a,s,rfl,h0,G,C⟩,O,q⟩
   refine⟨a,k,s,U,O,G,by lia,by lia,?_,λp P=>q p _ P (C.rep _)⟩;rw[<-C.length]
   have:as.length*k.toNat<=1000*1000:=qdd hl.1 (by lia)
   exact qaT this mil
  ·cases h
def uH (x:Int):List Int->List Int
 |[]=>[x]
 |y::c=>if x<=y then x::y::c else y::uH x c
def qK:List Int->List Int
 |[]=>[]
 |x::xs=>uH x (qK xs)
theorem kG (x:Int):∀ c,(uH x c).Perm (x::c)
 |[]=>qdq _
 |y::c=>by
  unfold uH;split
  ·exact qdq _
  ·exact (List.Perm.cons y (kG x c)).trans (List.Perm.swap x y c)
theorem lc:∀ xs,(qK xs).Perm xs
 |[]=>qdq _
 |x::xs=>(kG x _).trans (List.Perm.cons x (lc xs))
theorem k9 (x:Int):∀ {c:List Int},c.Pairwise (·<=·)->(uH x c).Pairwise (·<=·)
 |[],_=>by simp[uH]
 |y::c,h=>by
  unfold uH;split
  ·rename_i J
   refine qbi.mpr ⟨λz w=>?_,h⟩;rcases qay.mp w with rfl|w
   ·exact J
   ·exact qea J ((qbi.mp h).1 z w)
  ·refine qbi.mpr ⟨λz w=>?_,k9 x (qbi.mp h).2⟩
   rcases qay.mp ((kG x c).mem_iff.mp w) with rfl|w
   ·lia
   ·exact (qbi.mp h).1 z w
theorem jc:∀ xs,(qK xs).Pairwise (·<=·)
 |[]=>List.Pairwise.nil
 |x::xs=>k9 x (jc xs)
theorem t9 {xs c:List Int} (p:xs.Perm c) (G:xs.Pairwise (·<=·)) (C:c.Pairwise (·<=·)):xs=c:=
 qfB (λa b _ _ G C=>Int.le_antisymm G C) G C p
theorem kh:∀ {ns:List Int}{s:List Value},qb2 s ns->aH (ns.map V.int) s
 |_,_,.nil=>.nil
 |_,_,.cons n t h=>.cons ⟨t,U⟩ (kh h)
theorem Cc {H:Hp}{ad:Addr}{ns:List Int}{m:Fn} (hO:AJ H) (A:SqL K H ad (ns.map V.int)) (h:∃ st,m [.d (.scr ns)] []=some (.d (.bl true),st)):spI K m [.ref ad] H (λv _=>v=.bl true) λ_ _ _=>False:=by
 obtain⟨st,h⟩:=h;refine⟨_,_,_,_,h,⟨_,_,U,⟨ad,U,?_⟩,U⟩,⟨qc7,U,λn a ds e=>by simp at e⟩,λv H' φ' _ _ r=>r⟩;rcases A with (h|h)|h
 ·rcases hO ad with z|⟨o,xs,z⟩
  ·rw[h]at z;cases z
  ·rw[h]at z;cases z
 ·exact .inl h
 ·exact .inr h
end
end L2
namespace L2
open PySem
theorem bF {g:Tg}{body:Sf}:∀ {ds:List D} (Pv:Nat->Ev->Sto->Prop) {env:Ev}{st:Sto},Pv 0 env st->
  (∀ i d env st,ds[i]?=some d->Pv i env st->∃ e f h,eF g (.d d) env=some e/\(body e st=some (.nx f h)\/body e st=some (.ct f h))/\Pv (i+1) f h)->
  ∃ a b,cf g body ds env st=some (.nx a b)/\Pv ds.length a b
 |[],Pv,env,st,j,_=>⟨env,st,U,j⟩
 |d::ds,Pv,env,st,j,k=>by
  obtain⟨e,f,h,l,c,o⟩:=k 0 d env st U j;obtain⟨q,s',n,m⟩:=bF _ o λi d' a b hd p=>k (i+1) d' a b (by simpa using hd) p;refine⟨q,s',?_,m⟩;unfold cf;rw[l,qaa];rcases c with c|c<;>(rw[c];exact n)
theorem gj {g:Tg}{tt:Tf}{te:Ef}{env:Ev}:∀ {ds:List D} (Pv:Nat->List D->Sto->Prop) {st:Sto}{ys0:List D},Pv 0 ys0 st->
  (∀ i d b st,ds[i]?=some d->Pv i b st->∃ f,eF g (.d d) env=some f/\((∃ s1 x n,tt f st=some (true,s1)/\te f s1=some (.d x,n)/\Pv (i+1) (b++[x]) n)\/∃ s1,tt f st=some (false,s1)/\Pv (i+1) b s1))->
  ∃ b a,lcI g tt te env ds st=some (b,a)/\Pv ds.length (ys0++b) a
 |[],Pv,st,ys0,k,_=>⟨_,st,U,by rw[qbl];exact k⟩
 |d::ds,Pv,st,ys0,k,h=>by
  obtain⟨f,o,e⟩:=h 0 d ys0 st U k;rcases e with⟨s1,x,n,e,q,m⟩|⟨s1,e,m⟩
  ·obtain⟨b,s',l,j⟩:=gj _ m λi d' c a hd p=>h (i+1) d' c a (by simpa using hd) p
   refine⟨_,s',?_,by simpa using j⟩;unfold lcI;rw[o,qaa,e,qaa,q,qaa,l];rfl
  ·obtain⟨b,s',l,j⟩:=gj _ m λi d' c a hd p=>h (i+1) d' c a (by simpa using hd) p
   refine⟨b,s',?_,by simpa using j⟩;unfold lcI;rw[o,qaa,e,qaa,iFN qaB,l]
theorem ig {g:Tg}{tt:Tf}{te:Ef}{env:Ev}{st:Sto} (p:D->Bool) (F:D->D):∀ {ds:List D},(∀ d∈ds,∃ a,eF g (.d d) env=some a/\tt a st=some (p d,st)/\(p d=true->te a st=some (.d (F d),st)))->
  lcI g tt te env ds st=some ((ds.filter p).map F,st)
 |[],_=>rfl
 |d::ds,h=>by
  obtain⟨a,c,e,i⟩:=h d qag;have b:=ig p F λx f=>h x (qaj _ f);unfold lcI;rw[c,qaa,e,qaa];cases hp:p d with
  |true=>rw[i hp,qaa,b,qeq,hp];rfl
  |false=>rw[b,qeq,hp];rfl
theorem wb {g:Tg}{te:Ef}{env:Ev}{st:Sto} (F:D->D) {ds:List D} (h:∀ d∈ds,∃ a,eF g (.d d) env=some a/\te a st=some (.d (F d),st)):lcI g aN te env ds st=some (ds.map F,st):=by
 have:=ig (tt:=aN) _ F λd hd=>by
  obtain⟨a,c,b⟩:=h d hd;exact⟨a,c,U,λ_=>b⟩
 rw[this,qg2.mpr λ_ _=>rfl]
theorem dM {a b:Int} (h:-(2^64)<a/\a<2^64):qc6 a b:=AH.ok (.inl h)
theorem gv {a b:Int} (h:-(2^64)<b/\b<2^64):qc6 a b:=AH.ok (.inr h)
theorem EZ {α:Type} (a:α) (l:List α):atI (a::l) 0=some a:=db U
theorem GQ (n:Nat):ixN (n+1) 0=some 0:=eO (by lia)
theorem mq {n i:Nat}{d:D} (h:(bf 0 n)[i]?=some d):d=.int (i:Int)/\i<n:=by
 rw[t7]at h;by_cases hi:i<n
 ·rw[iFP hi]at h
  cases h;exact⟨by rw[qbV],hi⟩
 ·rw[iFN hi]at h;cases h
end L2
namespace L2
open PySem PySem.Spec PyProof.Rows
def E5:Nat->Nat->StateT qbY Sem (Option Nat):=sortPriv% PySem.Builtin.countRun
def C8:Nat->Nat->Nat->StateT qbY Sem Bool:=sortPriv% PySem.Builtin.binarySort
def Cm (prog:qaM) (w:World) (A:qaY) (s:qai) (a:qdl) (O:qfp) (rk:Keyed->O.α) (S:Keyed->Prop):Prop:=
 ∀ x y,S x->S y->∀ (Q:Bool->qai->Prop) (E:Value->qai->Prop),Q (O.blt (rk x) (rk y)) s->wpAny (model prog w) A (keyLt' a x.1 y.1) Q E s
section
variable {prog:qaM}{w:World}{A:qaY}{E:Value->qai->Prop}{s:qai}{κ:qdl}{O:qfp}{rk:Keyed->O.α}{S:Keyed->Prop}
theorem Gw (B:Cm prog w A s κ O rk S) {x y:Keyed}{st:qbY}{Q:Option Bool->qbY->Prop} (v:kindOf st=κ) (D:S x) (F:S y) (h:Q (some (O.blt (rk x) (rk y))) st) :
  wpS (model prog w) A E s (lt' x y) Q st:=by
 rw[lt'_eq];refine qbx (qg6 ?_);rw[v];exact qbx (wpS_lift (qeI (B x y D F _ _ ⟨U,qcb h⟩)))
theorem lp {c:Prop} [Decidable c] {M:Model}{A':qaY}{E':Value->qai->Prop}{s':qai}{α:Type}{a b:StateT qbY Sem α}{Q:α->qbY->Prop}{st:qbY} (h:c) (k:wpS M A' E' s' a Q st):wpS M A' E' s' (if c then a else b) Q st:=by rw[iFP h];exact k
theorem pq {c:Prop} [Decidable c] {M:Model}{A':qaY}{E':Value->qai->Prop}{s':qai}{α:Type}{a b:StateT qbY Sem α}{Q:α->qbY->Prop}{st:qbY} (h:¬ c) (k:wpS M A' E' s' b Q st):wpS M A' E' s' (if c then a else b) Q st:=by rw[iFN h];exact k
theorem wW {f:Array Keyed}{i:Nat}{x:Keyed}{st:qbY}{Q:Keyed->qbY->Prop} (hi:f[i]?=some x) (h:Q x st):wpS (model prog w) A E s (elem' f i) Q st:=by
 rw[elem'_eq,hi];exact qcb h
theorem wX {t:String}{st:qbY}{Q:Unit->qbY->Prop} (h:Q () st):wpS (model prog w) A E s (liftM (rule t):StateT qbY Sem Unit) Q st:=wpS_lift (qds ⟨U,h⟩)
def kyd (f:Array Keyed) (i:Nat):Keyed:=(f[i]?).getD (.none,.none)
theorem nv {f:Array Keyed}{i:Nat} (h:i<f.size):f[i]?=some (kyd f i):=by
 unfold kyd;simp[h]
theorem fI {a b:Array Keyed}{i j:Nat} (h:a[i]?=b[j]?):kyd a i=kyd b j:=by
 unfold kyd;rw[h]
theorem Cu (B:Cm prog w A s κ O rk S) {i j:Nat}{st:qbY}{Q:Option Bool->qbY->Prop} (v:kindOf st=κ) (hi:i<(arrOf st).size) (l:j<(arrOf st).size) (D:S (kyd (arrOf st) i)) (F:S (kyd (arrOf st) j))
  (h:Q (some (O.blt (rk (kyd (arrOf st) i)) (rk (kyd (arrOf st) j)))) st):wpS (model prog w) A E s (ltAt' i j) Q st:=by
 refine qbx (qg6 ?_);exact qbx (wW (nv hi) (qbx (wW (nv l) (Gw B v D F h))))
structure SB (κ:qdl) (a0:Array Keyed) (lo:Nat) (p0:Array (Nat×Nat×Nat)) (g0:Nat) (st:qbY):Prop where
 perm:(arrOf st).Perm a0
 pre:∀ k,k<lo->(arrOf st)[k]?=a0[k]?
 kind:kindOf st=κ
 fail:qhc st=none
 pend:qe2 st=p0
 gal:qh8 st=g0
variable {a0:Array Keyed}{lo:Nat}{p0:Array (Nat×Nat×Nat)}{g0:Nat}{st:qbY}
theorem SB.size (h:SB κ a0 lo p0 g0 st):(arrOf st).size=a0.size:=h.perm.size_eq
theorem SB.mem (h:SB κ a0 lo p0 g0 st) (C:∀ x∈a0.toList,S x) {i:Nat} (hi:i<a0.size):S (kyd (arrOf st) i):=by
 have m:i<(arrOf st).size:=by rw[h.size];exact hi
 refine C _ ((qfU.mp h.perm).mem_iff.mp ?_);have e:=nv m;rw[qbz m]at e;rw[<-qaL e];exact Array.getElem_mem_toList m
theorem SB.set (h:SB κ a0 lo p0 g0 st) {xs:Array Keyed} (K:xs.Perm (arrOf st)) (z:∀ k,k<lo->xs[k]?=(arrOf st)[k]?):SB κ a0 lo p0 g0 (setArr st xs):=
 ⟨K.trans h.perm,λk v=>(z k v).trans (h.pre k v),h.kind,h.fail,h.pend,h.gal⟩
theorem wV (B:Cm prog w A s κ O rk S) (C:∀ x∈a0.toList,S x) (p:SB κ a0 lo p0 g0 st) {i j:Nat}{Q:Option Bool->qbY->Prop} (hi:i<a0.size) (l:j<a0.size)
  (h:Q (some (O.blt (rk (kyd (arrOf st) i)) (rk (kyd (arrOf st) j)))) st):wpS (model prog w) A E s (ltAt' i j) Q st:=
 Cu B p.kind (by rw[p.size];exact hi) (by rw[p.size];exact l) (p.mem C hi) (p.mem C l) h
def Up (rk:Keyed->O.α) (f:Array Keyed) (lo n:Nat):Prop:=∀ i j,lo<=i->i<=j->j<lo+n->O.kle (rk (kyd f i)) (rk (kyd f j))
def iX (rk:Keyed->O.α) (f:Array Keyed) (lo n:Nat):Prop:=∀ i j,lo<=i->i<=j->j<lo+n->O.kle (rk (kyd f j)) (rk (kyd f i))
theorem jm {xs:Array Keyed}{i j:Nat} (l:j<=xs.size) (k:Nat):kyd (qjE xs i j ((j - i) / 2)) k=if i<=k/\k<j then kyd xs (i+j - 1 - k) else kyd xs k:=by
 have e:=qhV (i:=i) l k;by_cases u:i<=k/\k<j
 ·rw[iFP u]at e ⊢;exact fI e
 ·rw[iFN u]at e ⊢;exact fI e
theorem nw {xs:Array Keyed}{g d:Nat} (J:g<xs.size) (hd:d<=g) (k:Nat) :
  kyd (bubble xs g d) k=if k=g - d then kyd xs g else if g - d<k/\k<=g then kyd xs (k - 1) else kyd xs k:=by
 have e:=qjG J d hd k;by_cases u:k=g - d
 ·rw[iFP u]at e ⊢;exact fI e
 ·rw[iFN u]at e ⊢
  by_cases G:g - d<k/\k<=g
  ·rw[iFP G]at e ⊢;exact fI e
  ·rw[iFN G]at e ⊢;exact fI e
theorem SB.rev (p:SB κ a0 lo p0 g0 st) {i j:Nat} (hi:lo<=i) (l:j<=a0.size):SB κ a0 lo p0 g0 (setArr st (qjE (arrOf st) i j ((j - i) / 2))):=
 p.set (mirror_perm _ _ _ _) λk v=>by
  rw[qhV (by rw[p.size];exact l),iFN (by lia)]
theorem iw {xs:Array Keyed}{i j:Nat} (l:j<=xs.size) (H:∀ k,i<=k->k<j->rk (kyd xs k)=rk (kyd xs (j - 1))) (k:Nat):rk (kyd (qjE xs i j ((j - i) / 2)) k)=rk (kyd xs k):=by
 rw[jm l];split
 ·rw[H _ (by lia) (by lia),H k (by lia) (by lia)]
 ·rfl
theorem rR {i j:Nat}{Q:Unit->qbY->Prop} (h:Q () (setArr st (qjE (arrOf st) i j ((j - i) / 2)))):wpS (model prog w) A E s (reverseSlice' i j) Q st:=by
 exact qgU h
theorem Up.more {f:Array Keyed}{n:Nat} (h:Up rk f lo n) (u:1<=n) (z:O.kle (rk (kyd f (lo+n - 1))) (rk (kyd f (lo+n)))):Up rk f lo (n+1):=by
 intro i j hi o l;by_cases q:j<lo+n
 ·exact h i j hi o q
 ·have r:j=lo+n:=by lia
  subst r;by_cases m:i=lo+n
  ·subst m;exact qcO _
  ·exact qdJ (h i _ hi (by lia) (by lia)) z
theorem iX.more {f:Array Keyed}{n:Nat} (h:iX rk f lo n) (u:1<=n) (z:O.kle (rk (kyd f (lo+n))) (rk (kyd f (lo+n - 1)))):iX rk f lo (n+1):=by
 intro i j hi o l;by_cases q:j<lo+n
 ·exact h i j hi o q
 ·have r:j=lo+n:=by lia
  subst r;by_cases m:i=lo+n
  ·subst m;exact qcO _
  ·exact qdJ z (h i _ hi (by lia) (by lia))
theorem Up.one {f:Array Keyed}:Up rk f lo 1:=λi j hi o l=>by
 have:i=j:=by lia
 subst this;exact qcO _
theorem iX.congr {xs I:Array Keyed}{n:Nat} (h:iX rk xs lo n) (e:∀ k,rk (kyd I k)=rk (kyd xs k)):iX rk I lo n:=λi j hi o l=>by
 rw[e,e];exact h i j hi o l
end
section
variable {prog:qaM}{w:World}{A:qaY}{E:Value->qai->Prop}{s:qai}{H:qdl}{O:qfp}{rk:Keyed->O.α}{S:Keyed->Prop}
variable {a0:Array Keyed}{lo:Nat}{L:Array (Nat×Nat×Nat)}{K:Nat}{st:qbY}
theorem AD {o b:Nat}{f:Nat->Option (Option Nat)×Nat->StateT qbY Sem (ForInStep (Option (Option Nat)×Nat))}{Q:Option (Option Nat)×Nat->qbY->Prop}
  (hf:∀ x n (Q':ForInStep (Option (Option Nat)×Nat)->qbY->Prop),1<=n->n < b->(O.blt (rk (kyd (arrOf st) (lo+n))) (rk (kyd (arrOf st) (lo+n - 1)))=true->Q' (.done (none,n)) st)->
    (O.blt (rk (kyd (arrOf st) (lo+n))) (rk (kyd (arrOf st) (lo+n - 1)))=false->Q' (.yield (none,n+1)) st)->wpS (model prog w) A E s (f x (none,n)) Q' st)
  (P:1<=o) (hn:o<=b) (V:Up rk (arrOf st) lo o)
  (h:∀ n,o<=n->n<=b->Up rk (arrOf st) lo n->(n=b\/O.klt (rk (kyd (arrOf st) (lo+n))) (rk (kyd (arrOf st) (lo+n - 1))))->Q (none,n) st):wpS (model prog w) A E s (forIn [o:b] (none,o) f) Q st:=by
 refine qen (I:=λx c a=>a=st/\c=(none,x)/\Up rk _ lo x) ?_ ?_ ⟨U,U,V⟩
 ·rintro x c a hx X ⟨rfl,rfl,u⟩
  exact hf x x _ (by lia) X (λl=>h x hx (by lia) u (.inr l)) λl=>⟨U,U,u.more (by lia) l⟩
 ·rintro c a ⟨rfl,rfl,u⟩
  rw[show max o b=b by lia]at u ⊢;exact h b hn (qao _) u (.inl U)
def Eqs (rk:Keyed->O.α) (D:Array Keyed) (lo m q:Nat):Prop:=q+1<=m/\∀ i,lo+m - (q+1)<=i->i<lo+m->rk (kyd D i)=rk (kyd D (lo+m - 1))
theorem Ct {o b:Nat}{f:Nat->Option (Option Nat)×Nat×Nat->StateT qbY Sem (ForInStep (Option (Option Nat)×Nat×Nat))}{Q:Option (Option Nat)×Nat×Nat->qbY->Prop}
  (hf:∀ x n q a (Q':ForInStep (Option (Option Nat)×Nat×Nat)->qbY->Prop),1<=n->n < b->SB H a0 lo L K a->
    (O.blt (rk (kyd (arrOf a) (lo+n))) (rk (kyd (arrOf a) (lo+n - 1)))=true->0<q->Q' (.yield (none,n+1,0)) (setArr a (qjE (arrOf a) (lo+n - (q+1)) (lo+n) ((lo+n - (lo+n - (q+1))) / 2))))->
    (O.blt (rk (kyd (arrOf a) (lo+n))) (rk (kyd (arrOf a) (lo+n - 1)))=true->q=0->Q' (.yield (none,n+1,0)) a)->
    (O.blt (rk (kyd (arrOf a) (lo+n - 1))) (rk (kyd (arrOf a) (lo+n)))=true->Q' (.done (none,n,q)) a)->
    (O.blt (rk (kyd (arrOf a) (lo+n))) (rk (kyd (arrOf a) (lo+n - 1)))=false->O.blt (rk (kyd (arrOf a) (lo+n - 1))) (rk (kyd (arrOf a) (lo+n)))=false->Q' (.yield (none,n+1,q+1)) a)->
    wpS (model prog w) A E s (f x (none,n,q)) Q' a)
  (P:1<=o) (hn:o<=b) (hz:lo+b<=a0.size) (p:SB H a0 lo L K st) (hd:iX rk (arrOf st) lo o)
  (h:∀ n q a,o<=n->n<=b->SB H a0 lo L K a->iX rk (arrOf a) lo n->Eqs rk (arrOf a) lo n q->Q (none,n,q) a):wpS (model prog w) A E s (forIn [o:b] (none,o,0) f) Q st:=by
 have one:∀ (D:Array Keyed) m,1<=m->Eqs rk D lo m 0:=λD m hm=>⟨by lia,λi P h2=>by rw[show i=lo+m - 1 by lia]⟩;refine qen (I:=λx c a=>∃ q,c=(none,x,q)/\SB H a0 lo L K a/\iX rk (arrOf a) lo x/\Eqs rk (arrOf a) lo x q) ?_ ?_ ⟨0,U,p,hd,one _ _ P⟩
 ·rintro x c a hx X ⟨q,rfl,e,u,C⟩
  have G:lo+x<=(arrOf a).size:=by rw[e.size];lia
  refine hf x x q a _ (by lia) X e (λl J=>?_) (λl J=>?_) (λl=>h x q a hx (by lia) e u C) λl N=>?_
  ·exact⟨0,U,e.rev (by have:=C.1;lia) (by lia),iX.congr (u.more (by lia) (qdt l)) (iw (rk:=rk) (xs:=arrOf a) (j:=lo+x) G C.2),one _ _ (by lia)⟩
  ·exact⟨0,U,e,u.more (by lia) (qdt l),one _ _ (by lia)⟩
  ·have eq:=qgJ N l
   refine⟨_,U,e,u.more (by lia) (by rw[eq];exact qcO _),by have:=C.1;lia,λi P h2=>?_⟩;rw[show lo+_ - 1=lo+x by lia,eq];by_cases hi:i=lo+x
   ·rw[hi,eq]
   ·exact C.2 i (by lia) (by lia)
 ·rintro c a ⟨q,rfl,e,u,C⟩
  rw[show max o b=b by lia]at u C ⊢;exact h b q a hn (qao _) e u C
theorem EM {m b:Nat}{f:Nat->Option (Option Nat)×Nat->StateT qbY Sem (ForInStep (Option (Option Nat)×Nat))}{k:Option (Option Nat)×Nat->StateT qbY Sem (Option Nat)}{Q:Option Nat->qbY->Prop}
  (p:SB H a0 lo L K st) (hd:iX rk (arrOf st) lo m) (P:1<=m) (hm:m<=b) (hz:lo+b<=a0.size)
  (hf:∀ x n (Q':ForInStep (Option (Option Nat)×Nat)->qbY->Prop) d,SB H a0 lo L K d->1<=n->n < b->(O.blt (rk (kyd (arrOf d) (lo+n))) (rk (kyd (arrOf d) (lo+n - 1)))=true->Q' (.done (none,n)) d)->
    (O.blt (rk (kyd (arrOf d) (lo+n))) (rk (kyd (arrOf d) (lo+n - 1)))=false->Q' (.yield (none,n+1)) d)->wpS (model prog w) A E s (f x (none,n)) Q' d)
  (hk:∀ n d,SB H a0 lo L K d->1<=n->n<=b->Up rk (arrOf d) lo n->wpS (model prog w) A E s (k (none,n)) Q d) :
  wpS (model prog w) A E s (do reverseSlice' lo (lo+m);let r <-forIn [m:b] (none,m) f;k r) Q st:=by
 refine qbx (rR ?_);have z:=p.rev (j:=lo+m) (qao _) (by lia);refine qbx (AD (λx n Q' v y hy B=>hf x n Q' _ z v y hy B) P hm ?_ λn' T F hu' _=>hk n' _ z (by lia) F hu');intro i j hi hij hj;have hs3:lo+m<=(arrOf st).size:=by rw[p.size];lia
 rw[jm hs3,jm hs3,iFP (by lia),iFP (by lia)];exact hd _ _ (by lia) (by lia) (by lia)
set_option maxHeartbeats 1000000 in
theorem Cs (hC:Cm prog w A s H O rk S) (hS:∀ x∈a0.toList,S x) {b:Nat}{Q:Option Nat->qbY->Prop} (p:SB H a0 lo L K st) (P:1<=b) (hz:lo+b<=a0.size)
  (h:∀ m a,SB H a0 lo L K a->1<=m->m<=b->Up rk (arrOf a) lo m->Q (some m) a):wpS (model prog w) A E s (E5 lo b) Q st:=by
 have W:∀ a (_:SB H a0 lo L K a) n (Q':Option Bool->qbY->Prop),1<=n->n<b->Q' _ a->
   wpS (model prog w) A E s (ltAt' (lo+n) (lo+n - 1)) Q' a:=λa e n Q' P h2 J=>wV hC hS e (by lia) (by lia) J
 refine qbx (AD (rk:=rk) (lo:=lo) (λx n Q' v y hy B=>?_) (qao 1) P Up.one λn v y V hor=>?_)
 ·refine qbx (W st p n _ v y ?_)
  cases l:O.blt (rk (kyd (arrOf st) (lo+n))) _ with
  |true=>exact qcb (hy l)
  |false=>exact qcb (B l)
 dsimp only;by_cases Y:n=b
 ·refine lp (by simpa using Y) ?_
  exact qcb (h n st p v y V)
 refine pq (by simpa using Y) ?_;have M:=hor.resolve_left Y;have hn3:n+1<=b:=by lia
 have G:lo+n<=(arrOf st).size:=by rw[p.size];lia
 by_cases hgt:n > 1
 case' pos=>
  refine lp hgt ?_;refine qbx (wV hC hS p (by lia) (by lia) ?_);by_cases g:O.blt (rk (kyd (arrOf st) lo)) (rk (kyd (arrOf st) (lo+n - 1)))=true
  ·rw[g];exact qcb (h n st p v y V)
  rw[qeu]at g;rw[g];have t:=λk hk1 hk2=>
   qgJ (V k (lo+n - 1) hk1 (by lia) (by lia)) (qdJ g (V lo k (by lia) hk1 hk2))
  refine qbx (rR ?_);have R:=p.rev (i:=lo) (j:=lo+n) (qao _) (by lia);have hd:=by
   refine iX.congr (xs:=arrOf st) (iX.more (λi j hi hij hj=>?_) (by lia) (qdt M)) (iw G t);rw[t i hi (by lia),t j (by lia) hj];exact qcO _
  clear V M g t p G hor
 case' neg=>
  refine pq hgt ?_;have R:=p;have hd:iX rk (arrOf st) lo (n+1):=by
   refine iX.more (λi j hi hij hj=>?_) (by lia) (qdt M);rw[show i=j by lia];exact qcO _
  clear V M p G hor
  revert R hd
  generalize st=st2;intro R hd
 all_goals
  refine qbx (wX ?_);refine qbx (Ct (λx m q a Q' hm1 hm2 e c1 c2 c3 c4=>?_) (by lia) hn3 hz R hd λm q a hm1 hm2 e hd' C=>?_)
  ·refine qbx (W a e m _ hm1 hm2 ?_)
   cases l:O.blt (rk (kyd (arrOf a) (lo+m))) _ with
   |true=>
    dsimp only;refine lp U ?_;by_cases J:q > 0
    ·rw[iFP J];exact qbx (rR (qcb (c1 l J)))
    ·rw[iFN J];exact qcb (c2 l (by lia))
   |false=>
    dsimp only;refine qbx (wV hC hS e (by lia) (by lia) ?_);cases N:O.blt _ (rk (kyd (arrOf a) (lo+m))) with
    |true=>exact qcb (c3 N)
    |false=>exact qcb (c4 l N)
  have hsz':lo+m<=(arrOf a).size:=by rw[e.size];lia
  dsimp only;by_cases J:q > 0
  case' pos=>
   refine lp J ?_;refine qbx (rR ?_);have hB3:=e.rev (i:=lo+m - (q+1)) (j:=lo+m) (by have:=C.1;lia) (by lia);have hd3:=iX.congr hd' (iw hsz' C.2)
  case' neg=>
   refine pq J ?_;have hB3:=e;have hd3:=hd'
  all_goals
   refine EM hB3 hd3 (by lia) hm2 hz (λx n' Q' d z T F hy B=>?_) λn' d z a1 a2 a3=>qcb (h n' d z a1 a2 a3);refine qbx (W d z n' _ T F ?_);cases l:O.blt (rk (kyd (arrOf d) (lo+n'))) _ with
   |true=>exact qcb (hy l)
   |false=>exact qcb (B l)
end
section
variable {prog:qaM}{w:World}{A:qaY}{E:Value->qai->Prop}{s:qai}{z:qdl}{O:qfp}{rk:Keyed->O.α}{S:Keyed->Prop}
variable {a0:Array Keyed}{lo:Nat}{C:Array (Nat×Nat×Nat)}{B:Nat}{st:qbY}
set_option maxHeartbeats 1000000 in
theorem AE (N:Cm prog w A s z O rk S) (L:∀ x∈a0.toList,S x) {n ok:Nat}{Q:Bool->qbY->Prop} (G:SB z a0 lo C B st) (v:1<=ok) (hok:ok<=n) (R:lo+n<=a0.size) (M:Up rk (arrOf st) lo ok)
  (h:∀ a,SB z a0 lo C B a->Up rk (arrOf a) lo n->Q true a):wpS (model prog w) A E s (C8 lo n ok) Q st:=by
 refine qbx (qh4 (qen (I:=λk c a=>c=(none,())/\SB z a0 lo C B a/\Up rk (arrOf a) lo (min k n)) (Q:=λc a=>c=(none,())/\SB z a0 lo C B a/\Up rk (arrOf a) lo n) ?_ ?_ ?_) ?_)
 ·rintro k c a V P ⟨rfl,d,o⟩
  dsimp only
  refine qbx (qh4 (qen (I:=λx c b=>b=a/\∃ l r,c=(none,l,r)/\l<=r/\r<=k/\r - l<=k - x/\(∀ i,i < l->O.kle (rk (kyd (arrOf a) (lo+i))) (rk (kyd (arrOf a) (lo+k))))/\
    ∀ i,r<=i->i<k->O.klt (rk (kyd (arrOf a) (lo+k))) (rk (kyd (arrOf a) (lo+i))))
   (Q:=λc b=>b=a/\∃ l r,c=(none,l,r)/\l<=k/\(∀ i,i<l->O.kle (rk (kyd (arrOf a) (lo+i))) (rk (kyd (arrOf a) (lo+k))))/\∀ i,l<=i->i<k->O.klt (rk (kyd (arrOf a) (lo+k))) (rk (kyd (arrOf a) (lo+i)))) ?_ ?_ ?_) ?_)
  ·rintro x c b _ H ⟨rfl,l,r,rfl,F,q,hm,f,g⟩
   dsimp only;by_cases t:l>=r
   ·refine lp t ?_
    have e:l=r:=by lia
    subst e;exact qcb ⟨U,l,l,U,q,f,g⟩
   ·refine pq t ?_
    refine qbx (wV N L d (by lia) (by lia) ?_);cases hl:O.blt (rk (kyd (arrOf b) (lo+k))) _ with
    |true=>exact qcb ⟨U,l,(l+r) / 2,U,by lia,by lia,by lia,f,λi v D=>KeyOrd.klt_of_klt_of_kle hl (o _ _ (by lia) (by lia) (by lia))⟩
    |false=>exact qcb ⟨U,(l+r) / 2+1,r,U,by lia,by lia,by lia,λi v=>qdJ (o (lo+i) (lo+(l+r) / 2) (by lia) (by lia) (by lia)) hl,g⟩
  ·rintro c b ⟨rfl,l,r,rfl,F,q,hm,f,g⟩
   have e:l=r:=by lia
   subst e;exact⟨U,l,l,U,q,f,g⟩
  ·exact⟨U,0,k,U,by lia,by lia,by lia,λi hi=>by lia,λi v D=>by lia⟩
  ·rintro c b ⟨rfl,l,r,rfl,J,f,g⟩
   dsimp only;refine qbx (m:=moveDown' (lo+k) (lo+l)) ?_;rw[moveDown'_eq];have p:lo+k<(arrOf b).size:=by rw[d.size];lia
   refine qgU (qcb ⟨U,d.set (bubble_perm _ _ _) λi hi=>?_,?_⟩)
   ·rw[qjG p _ (by lia),iFN (by lia),iFN (by lia)]
   ·intro i j hi K T
    rw[nw p (by lia),nw p (by lia),show lo+k - (lo+k - (lo+l))=lo+l by lia];have y:∀ i,lo<=i->i<lo+l->O.kle (rk (kyd (arrOf b) i)) (rk (kyd (arrOf b) (lo+k))):=λi v D=>by
     have:=f (i - lo) (by lia);rwa [show lo+(i - lo)=i by lia]at this
    have u:∀ i,lo+l<=i->i<lo+k->O.klt (rk (kyd (arrOf b) (lo+k))) (rk (kyd (arrOf b) i)):=λi v D=>by
     have:=g (i - lo) (by lia) (by lia);rwa [show lo+(i - lo)=i by lia]at this
    repeat' split
    all_goals first
     |(exfalso;lia)
     |exact qcO _
     |exact y _ (by lia) (by lia)
     |exact qdt (u _ (by lia) (by lia))
     |exact o _ _ (by lia) (by lia) (by lia)
 ·rintro c a ⟨rfl,d,o⟩
  rw[show min (max (max ok 1) n) n=n by lia]at o;exact⟨U,d,o⟩
 ·rw[show max ok 1=ok by lia,show min ok n=ok by lia]
  exact⟨U,G,M⟩
 ·rintro c a ⟨rfl,d,o⟩
  exact qcb (h a d o)
end
section
variable {O:qfp}{rk:Keyed->O.α}
variable {a b c:Array Keyed}{f e:Nat}
variable {na d:Nat}
end
section
variable {prog:qaM}{w:World}{A:qaY}{E:Value->qai->Prop}{s:qai}{c:qdl}{O:qfp}{rk:Keyed->O.α}{S:Keyed->Prop}{st:qbY}{a b:Array Keyed}
end
section
variable {prog:qaM}{w:World}{A:qaY}{E:Value->qai->Prop}{s:qai}{d:qdl}{O:qfp}{rk:Keyed->O.α}{S:Keyed->Prop}{st:qbY}{a b c:Array Keyed}{na e:Nat}
end
section
variable {prog:qaM}{w:World}{A:qaY}{E:Value->qai->Prop}{s:qai}{m:qdl}{O:qfp}{rk:Keyed->O.α}{S:Keyed->Prop}{st:qbY}{g:Array Keyed}{n l:Nat}
theorem Gv {a:Array Keyed} (h:Up rk a 0 a.size):a.toList.Pairwise λx y=>O.kle (rk x) (rk y):=by
 rw[qgc];intro i j hi k f;have c:=by simpa using hi
 have b:=by simpa using k
 have q:=h i j (qcE _) (by lia) (by lia);have d:=nv c;have e:=nv b;rw[qbz c]at d;rw[qbz b]at e;rw[<-qaL d,<-qaL e]at q;simpa using q
end
section
variable {prog:qaM}{w:World}{A:qaY}{E:Value->qai->Prop}{s:qai}{κ:qdl}{O:qfp}{rk:Keyed->O.α}{S:Keyed->Prop}{st:qbY}{a0:Array Keyed}
structure C4 (κ:qdl) (O:qfp) (rk:Keyed->O.α) (a0:Array Keyed) (n1:Nat) (st:qbY):Prop where
 perm:(arrOf st).Perm a0
 kind:kindOf st=κ
 fail:qhc st=none
 pend:qe2 st=#[(0,n1,0)]
 up:Up rk (arrOf st) 0 n1
theorem FJ {n:Nat} (v:2<=n) (l:n<64):minRun' n n 0=n:=by
 obtain⟨f,rfl⟩:∃ f,n=f+1:=⟨n - 1,by lia⟩;rw[minRun'_succ,iFP (by lia)]
set_option maxHeartbeats 2000000 in
theorem Cv (B:Cm prog w A s κ O rk S) {Q:Unit->qbY->Prop} (M:kindOf st=κ) (G:qhc st=none) (L:qe2 st=#[]) (t:arrOf st=a0) (z:∀ x∈a0.toList,S x) (v:2<=a0.size) (l:a0.size<64)
  (h:∀ a,(arrOf a).toList.Perm a0.toList->(arrOf a).toList.Pairwise (λx y=>O.kle (rk x) (rk y))->qhc a=none->Q () a):wpS (model prog w) A E s sortRuns' Q st:=by
 obtain⟨k,p,F⟩:∃ k,(sortPriv% PySem.Builtin.minRun) a0.size a0.size 0=k/\k=a0.size:=⟨_,U,FJ v l⟩;refine qbx (qg6 ?_);have C:(arrOf st).size=a0.size:=by rw[t]
 dsimp only;rw[C,p]
 refine qbx (qh4 (qen (I:=λx c a=>(x=0/\c=(none,0)/\SB κ a0 0 #[] (qh8 st) a)\/(c=(none,a0.size)/\C4 κ O rk a0 a0.size a/\1<=x))
  (Q:=λc a=>c.1=none/\C4 κ O rk a0 a0.size a) ?_ ?_ ?_) ?_)
 ·rintro x c a _ K H
  rcases H with⟨rfl,rfl,D⟩|⟨rfl,g,q⟩
  ·refine pq (by lia) ?_
   refine qbx (Cs B z D (by lia) (by lia) λm b i J m2 u=>?_);have put:∀ n e,SB κ a0 0 #[] (qh8 st) e->Up rk _ 0 n->n=a0.size->
     C4 κ O rk a0 a0.size (qiw _ _ ((qe2 e).push (0,n,0)) (qh8 e) _):=λn e d o hn=>
    ⟨d.perm,d.kind,d.fail,by rw[d.pend,hn];rfl,by rw[<-hn];exact o⟩
   by_cases j:m<k
   ·refine lp j ?_
    refine qbx (wX (qbx (AE B z i J (by lia) (by lia) u λe d o=>?_)));have hn:min (a0.size - 0) k=a0.size:=by lia
    refine qbx (qg6 ?_);have hb:(qe2 e).back?=none:=by rw[d.pend];rfl
    rw[hb];exact qbx (qgU (qcb (.inr ⟨by rw[qbh,hn],(put _ e d o hn),by lia⟩)))
   ·refine pq j ?_
    have hn:m=a0.size:=by lia
    refine qbx (qg6 ?_);have hb:(qe2 b).back?=none:=by rw[i.pend];rfl
    rw[hb];exact qbx (qgU (qcb (.inr ⟨by rw[qbh,hn],(put m b i u hn),by lia⟩)))
  ·refine lp (qao _) ?_
   exact qcb ⟨U,g⟩
 ·rintro c a (⟨K,_⟩|⟨rfl,g,q⟩)
  ·lia
  ·exact⟨U,g⟩
 ·exact .inl ⟨U,U,by rw[t],λ_ _=>by rw[t],M,G,L,U⟩
 ·rintro⟨c1,c2⟩ a ⟨rfl,g⟩
  refine qbx (qh4 (qen (I:=λy c b=>c=(none,())/\b=a) (Q:=λc b=>c=(none,())/\b=a) ?_ ?_ ?_) ?_)
  ·rintro y c b _ N ⟨rfl,rfl⟩
   refine qbx (qg6 ?_);have r:(qe2 b).size<=1:=by rw[g.pend];exact qao 1
   refine lp r ?_;exact qcb ⟨U,U⟩
  ·rintro c b ⟨rfl,rfl⟩
   exact⟨U,U⟩
  ·exact⟨U,U⟩
  ·rintro c b ⟨rfl,rfl⟩
   exact qcb (h _ (qfU.mp g.perm) (Gv (by rw[g.perm.size_eq];exact g.up)) g.fail)
end
end L2
namespace L2
open PySem PySem.Spec PyProof.Rows PySem.SeqAt
open MeetsSeq MeetsSeq2 MeetsSeq3 SeqRoads2
open AutoSeq1 (wpAny_loadPart')
def oz (A:qaY) (s:qai) (y x:Value) (b:Bool):Prop:=∀ (prog:qaM) (w:World) (E:Value->qai->Prop) (Q:Value->qai->Prop),Q (.bool b) s->wpAny (model prog w) A (richCompare .Lt y x) Q E s
def nE (e l:Nat->Bool) (fin:Bool):Nat->Nat->Bool
 |0,_=>fin
 |k+1,i=>if e i=true then nE e l fin k (i+1) else l i
theorem oo (p q:Addr) (a c:Array Value) (n N:Nat) (L D:Option Addr) (Q C:Array (Option Value)) (e l:Nat->Bool) :
  Meets (qe9.«tuple.__lt__» ⟨[.ref p,.ref q],[]⟩)
   (λA R s=>(s.heap.get? p=some ⟨.type "tuple",L,.seq a n,Q⟩/\s.heap.get? q=some ⟨.type "tuple",D,.seq c N,C⟩)/\
     (∀ j (J:j<a.size) (G:j<c.size),EqAt A.in1 s a[j] c[j] (e j)/\(e j=false->oz A.in1 s a[j] c[j] (l j)))/\
     R (.ok (.ret (.bool (nE e l (decide (a.size<c.size)) (min a.size c.size) 0)))) s):=
 .of_wp λprog w A R s h=>by
  obtain⟨F,g,d,E,os⟩:=s;obtain⟨⟨J,G⟩,H,h⟩:=h;have S:=qfN;have B:(a.toList.zip c.toList).length=min a.size c.size:=by simp
  wp_walk using wpAny_loadPart' J,wpAny_loadPart' G,qiM _ (λrest b s'=>b.1=none/\s'=⟨F,g,d,E,os⟩/\∃ i,i<=min a.size c.size/\rest=(a.toList.zip c.toList).drop i/\
   R (.ok (.ret (.bool (nE e l (decide (a.size<c.size)) (min a.size c.size - i) i)))) ⟨F,g,d,E,os⟩) _
  case turn=>
   rintro⟨y,x⟩ rest b s' ⟨o,rfl,i,hi,m,v⟩
   have u:i<(a.toList.zip c.toList).length:=by
    rcases qfy i (a.toList.zip c.toList).length with h'|h'
    ·exact h'
    ·rw[List.drop_of_length_le h']at m;cases m
   rw[B]at u;have I:i<a.size:=by lia
   have K:i<c.size:=by lia
   rw[qc8 (by rw[B];exact u)]at m;injection m with t r;have z:y=a[i]:=by have:=congrArg qdc t;simpa using this
   have O:x=c[i]:=by have:=congrArg qfL t;simpa using this
   subst z O;obtain⟨k,P⟩:∃ k,min a.size c.size - i=k+1:=⟨min a.size c.size - i - 1,by lia⟩;rw[P]at v;have f:R (.ok (.ret (.bool (if e i=true then nE e l (decide (a.size<c.size)) k (i+1) else l i)))) ⟨F,g,d,E,os⟩:=v;refine qab ((H i I K).1 prog w _ _ ?_);cases z:e i with
   |true=>
    rw[z,iFP U]at f
    wp_walk
    exact⟨U,U,i+1,by lia,r,by rw[show min a.size c.size - (i+1)=k by lia];exact f⟩
   |false=>
    rw[z,iFN (by simp)]at f;simp only[Bool.not_false,if_true];refine qab (qds ?_);refine qab ((H i I K).2 z prog w _ _ ?_)
    wp_walk
    exact⟨_,U,f⟩
  case fin=>
   rintro⟨T,V⟩ s' ⟨o,rfl,i,hi,m,v⟩
   simp only at o
   subst o;have M:min a.size c.size<=i:=by
    rcases qfy i (a.toList.zip c.toList).length with h'|h'
    ·rw[qc8 h']at m;cases m
    ·rw[B]at h';exact h'
   rw[show min a.size c.size - i=0 by lia]at v
   wp_walk
   exact⟨_,U,by simpa [qeA,nE] using v⟩
  case h=>exact⟨U,U,0,qcE _,U,h⟩
section
variable {A:qaY}{s:qai}{p q:Addr}{b a:Array Value}{e l:Nat->Bool}
theorem oz.tuples (y:s.heap.IsTuple p b) (hb:s.heap.IsTuple q a) (t:A.units<cLine) (u:∀ j (B:j<b.size) (C:j<a.size),EqAt A.in1 s b[j] a[j] (e j)/\(e j=false->oz A.in1 s b[j] a[j] (l j))) :
  oz A s (.ref p) (.ref q) (nE e l (decide (b.size<a.size)) (min b.size a.size) 0):=λprog w E Q h=>by
 obtain⟨⟨cls,r,data,v⟩,m,z,n,hd⟩:=id y;obtain⟨⟨k,d,data2,i⟩,c,f,o,g⟩:=id hb;subst z hd f g;exact qho ⟨_,m,U⟩ ⟨_,c,U⟩ qdw qel (qee _ _) (oo p q b a n o r d v i e l)
  ⟨⟨m,c⟩,u,(λx=>nomatch x),h⟩ t
end
end L2
namespace L2
open PySem PySem.Spec PyProof.Rows PySem.SeqAt PySem.W
def bq:List Int->List Int->Bool
 |[],[]=>false
 |[],_::_=>true
 |_::_,[]=>false
 |a::as,b::bs=>if a=b then bq as bs else decide (a<b)
theorem tj:∀ a,bq a a=false
 |[]=>rfl
 |a::as=>by unfold bq;rw[iFP U];exact tj as
theorem ii:∀ a b,bq a b=false->bq b a=false->a=b
 |[],[],_,_=>rfl
 |[],_::_,h,_=>by cases h
 |_::_,[],_,h=>by cases h
 |a::as,b::bs,h,h'=>by
  unfold bq at h h';by_cases e:a=b
  ·subst e
   rw[iFP U]at h h';rw[ii as bs h h']
  ·lia
theorem qS:∀ a b c,bq a b=true->bq b c=true->bq a c=true
 |[],[],_,h,_=>by cases h
 |[],_::_,[],_,h=>by cases h
 |[],_::_,_::_,_,_=>rfl
 |_::_,[],_,h,_=>by cases h
 |_::_,_::_,[],_,h=>by cases h
 |a::as,b::bs,c::cs,h,h'=>by
  unfold bq at h h' ⊢;by_cases e:a=b
  ·subst e
   rw[iFP U]at h;by_cases d:a=c
   ·subst d;rw[iFP U]at h' ⊢;exact qS as bs cs h h'
   ·rw[iFN d]at h' ⊢;exact h'
  ·rw[iFN e,decide_eq_true_iff]at h
   by_cases d:b=c
   ·subst d;rw[iFN e,decide_eq_true_iff];exact h
   ·lia
theorem zh:∀ a b c,bq a c=true->bq a b=true\/bq b c=true
 |a,b,c,h=>by
  by_cases e:bq a b=true
  ·exact .inl e
  ·rw[qeu]at e
   by_cases d:bq b a=true
   ·exact .inr (qS b a c d h)
   ·rw[qeu]at d
    rw[ii a b e d]at h;exact .inr h
def OI:qfp:=⟨List Int,bq,tj,qS,zh,ii⟩
def TuI (h:Heap) (v:Value) (l:List Int):Prop:=∃ a b,v=.ref a/\h.IsTuple a b/\qb2 b.toList l
def cj:Value->Int
 |.int n _=>n
 |_=>0
def tuI (h:Heap):Value->List Int
 |.ref a=>match h.get? a with
  |some o=>match o.data with
   |.seq b _=>b.toList.map cj
   |_=>[]
  |none=>[]
 |_=>[]
theorem no:∀ {a:List Value}{l:List Int},qb2 a l->a.map cj=l
 |_,_,.nil=>rfl
 |_,_,.cons n t h=>by rw[qaw,no h];rfl
theorem cM:∀ {a:List Value}{l:List Int},qb2 a l->a.length=l.length
 |_,_,.nil=>rfl
 |_,_,.cons n t h=>by rw[qaq,qaq,cM h]
theorem gh:∀ {a:List Value}{l:List Int},qb2 a l->∀ (j:Nat) (h:j<a.length),∃ t,a[j]=.int (l.getD j 0) t
 |_,_,.nil,j,h=>absurd h (qcV j)
 |_,_,.cons n t b,0,h=>⟨t,U⟩
 |_,_,.cons n t b,j+1,h=>by
  obtain⟨t',e⟩:=gh b j _;exact⟨t',by simpa using e⟩
theorem TuI.is {h:Heap}{v:Value}{l:List Int} (t:TuI h v l):tuI h v=l:=by
 obtain⟨a,c,rfl,⟨o,b,d,n,hd⟩,hi⟩:=t;simp only[tuI,b,hd];exact no hi
theorem TuI.fit {h h':Heap}{v:Value}{l:List Int} (t:TuI h v l) (d:∀ b o,h.get? b=some o->h'.get? b=some o):TuI h' v l:=by
 obtain⟨a,c,rfl,⟨o,e,r⟩,hi⟩:=t;exact⟨a,c,U,⟨o,d _ _ e,r⟩,hi⟩
theorem nF:∀ (l m:List Int) (i:Nat) (e f:Nat->Bool),(∀ j,j<l.length->j<m.length->e (i+j)=decide (l.getD j 0=m.getD j 0)/\f (i+j)=decide (l.getD j 0<m.getD j 0))->
  nE e f (decide (l.length<m.length)) (min l.length m.length) i=bq l m
 |[],[],i,e,f,_=>by simp[nE,bq]
 |[],b::m,i,e,f,_=>by simp[nE,bq]
 |a::l,[],i,e,f,_=>by simp[nE,bq]
 |a::l,b::m,i,e,f,h=>by
  have c:=h 0 (by simp) (by simp);rw[qaq,qaq,show min _ _=min l.length m.length+1 by lia];have k:decide (l.length+1<m.length+1)=decide (l.length<m.length):=by simp
  rw[k];show (if e i=true then nE e f _ _ _ else f i)=if a=b then bq l m else decide _;rw[qjw]at c;rw[c.1,c.2];by_cases q:a=b
  ·subst q
   simp only[qbu,decide_true,if_true];exact nF l m _ e f λj g d=>by
    have:=h (j+1) (by simpa using g) (by simpa using d)
    rw[show i+1+j=i+(j+1) by lia];simpa using this
  ·simp[q]
section
variable {prog:qaM}{w:World}{A:qaY}{E:Value->qai->Prop}{s:qai}{x y:Value}{l m:List Int}
theorem oz.ints {a b:Int}{t u:Tok}:oz A s (.int a t) (.int b u) (decide (a<b)):=λprog w E Q h=>qdz h
theorem EqAt.ints {a b:Int}{t u:Tok}:EqAt A s (.int a t) (.int b u) (decide (a=b)):=by
 exact (uE (A:=A) (s:=s) (y:=.int a) (x:=.int b) ⟨t,U⟩ ⟨u,U⟩ U U)
theorem TuI.lt (B:TuI s.heap x l) (ty:TuI s.heap y m) (L:A.units<cLine):oz A s x y (bq l m):=by
 obtain⟨a,d,rfl,J,k⟩:=B;obtain⟨b,f,rfl,F,g⟩:=ty;have G:d.size=l.length:=by exact cM k
 have C:f.size=m.length:=by exact cM g
 have z:=oz.tuples J F L λj T X=>by
  obtain⟨t,K⟩:=gh k j _;obtain⟨t',I⟩:=gh g j _;rw[qdN]at K I;rw[K,I];exact⟨EqAt.ints,λ_=>oz.ints⟩
 rw[G,C,nF l m 0 _ _ λj J F=>by rw[qbh];exact⟨U,U⟩]at z;exact z
theorem TuI.one (B:TuI s.heap x l) (ty:TuI s.heap y m) (L:A.units<cLine) {Q:Bool->qai->Prop} (h:Q (bq l m) s) (b:Bool):wpAny (model prog w) A (oneLt' b x y) Q E s:=by
 cases b with
 |false=>exact kat_one _ _ (B.lt ty L _ _ _ _ h)
 |true=>
  refine qab (wpAny_cRoomFor L ?_);obtain⟨a,d,rfl,J,k⟩:=id B;obtain⟨c,f,rfl,F,g⟩:=id ty;obtain⟨⟨cls,S,data,W⟩,H,R,n,hd⟩:=id J;obtain⟨⟨O,N,data2,M⟩,q,D,P,v⟩:=id F;subst R hd D v;have G:d.size=l.length:=by exact cM k
  have C:f.size=m.length:=by exact cM g
  refine qab (wpAny_callSpecialIfBound?_slot ⟨_,H,U⟩ qdw (qcS qdw ⟨_,H,U⟩ qel (qee _ _)
   (oo a c d f n P S N W M (λj=>decide (l.getD j 0=m.getD j 0)) λj=>decide (l.getD j 0<m.getD j 0)) ⟨⟨H,q⟩,λj T X=>?_,?_⟩))
  ·obtain⟨t,K⟩:=gh k j _
   obtain⟨t',I⟩:=gh g j _;rw[qdN]at K I;rw[K,I];exact⟨EqAt.ints,λ_=>oz.ints⟩
  ·rw[G,C,nF l m 0 _ _ λj J F=>by rw[qbh];exact⟨U,U⟩]
   exact qcm h
theorem zi {Q:Bool->qai->Prop}{fin:Bool}:∀ {d f:List Value}{l m:List Int} (i:Nat),qb2 d l->qb2 f m->(fin=decide (l.length<m.length))->Q (bq l m) s->KatLex prog w A true fin Q (d.zip f) i s
 |_,_,_,_,i,.nil,.nil,p,h=>kat_nil (by rw[p];exact h)
 |_,_,_,_,i,.nil,.cons n t r,p,h=>kat_nil (by rw[p];simpa [bq] using h)
 |_,_,_,_,i,.cons n t r,.nil,p,h=>kat_nil (by rw[p];simpa [bq] using h)
 |_,_,_,_,i,.cons a t r,.cons b u V,p,h=>by
  refine kat_cons (EqAt.ints prog w _ _ ?_);unfold bq at h;by_cases e:a=b
  ·subst e
   rw[iFP U]at h;rw[decide_eq_true U];exact kat_yes (zi _ r V (by rw[p];simp) h)
  ·rw[iFN e]at h
   rw[decide_eq_false e];refine kat_no ?_;cases (true&&i==0) with
   |true=>exact oneLt_int h
   |false=>exact kat_one _ _ (qdz h)
theorem TuI.tups (B:TuI s.heap x l) (ty:TuI s.heap y m) {Q:Bool->qai->Prop} (h:Q (bq l m) s):wpAny (model prog w) A (keyLt' (tuples' true) x y) Q E s:=by
 obtain⟨a,d,rfl,⟨o,H,R,n,hd⟩,k⟩:=B;obtain⟨c,f,rfl,⟨Y,q,D,P,v⟩,g⟩:=ty;have G:d.size=l.length:=by exact cM k
 have C:f.size=m.length:=by exact cM g
 exact kat_lt H hd q v (zi 0 k g (by rw[G,C]) h)
end
section
variable {prog:qaM}{w:World}{A:qaY}{E:Value->qai->Prop}{s:qai}{O:qfp}{rk:Keyed->O.α}{S:Keyed->Prop}{c:List Value}
theorem um:∀ (c:List Value),c.zip c=c.map λv=>(v,v)
 |[]=>rfl
 |v::c=>by rw[qdn,um c];rfl
theorem Ei {α K:Type}{f:α->K}{R:K->K->Prop}:∀ {c:List α},c.toArray.size<2->(c.map f).Pairwise R
 |[],_=>List.Pairwise.nil
 |[v],_=>qgn _ _
 |_::_::_,h=>absurd h (by simp)
set_option maxHeartbeats 1000000 in
theorem o9 {a:Addr}{n:Nat}{P:PySem.Fin->qai->Prop} (D:s.heap.get? a=some (qfG "list" c.toArray n)) (z:c.length<64)
  (p:∀ h',(∀ b o,b≠a->s.heap.get? b=some o->h'.get? b=some o)->∃ r,(2<=c.length->∀ (Q':qdl->qai->Prop) E',Q' r { s with heap:=h' }->wpAny (model prog w) A (qh7 c.toArray) Q' E' { s with heap:=h' })/\Cm prog w A { s with heap:=h' } r O rk S)
  (J:∀ v∈c,S (v,v))
  (h:∀ d:List Value,d.Perm c->d.Pairwise (λx y=>O.kle (rk (x,x)) (rk (y,y)))->P (.done (.ret .none)) { s with heap:=sortedHeap s.heap a c d.toArray }) :
  wpAny (model prog w) A (qe9.«list.sort» ⟨[.ref a],[]⟩) P E s:=by
 rw[list_sort_plain];have N:c.toArray.size=c.length:=by simp
 refine qab (listItems_at D U ?_);refine qab (qhb D U ?_ (by rw[N,qdr];lia));obtain⟨V,B⟩:∃ V,(s.heap.update a (qcI λ_=>#[])).get? a=some (qfG "list" #[] V):=⟨_,get?_update_seq D (λ_=>#[])⟩
 refine qab (qhT B U ?_);refine qab (qjO ?_ (by rw[qdr];show c.toArray.toList.length<=_;simp;lia));refine qab (qfF ?_);refine qbT ?_;have W:(s.heap.update a (qcI λ_=>(#[]:Array Value))).objs.size=s.heap.objs.size:=qhM ..;have i:∀ b o,b<s.heap.objs.size->(s.heap.update a (qcI λ_=>(#[]:Array Value))).get? b=some o->
   (((s.heap.update a (qcI λ_=>#[])).push (qfG "tuple" c.toArray 0)).push (qfG "list" #[] 0)).get? b=some o:=λb o hb q=>by
  rw[qdC _ _ _ (qax (by rw[qir,W];exact qaZ hb)),qdC _ _ _ (qax (by rw[W];exact hb))];exact q
 have k:=i a _ (qau D) B;obtain⟨r,I,hC⟩:=p _ λb o hb q=>
  i b o (qau q) (by rw[qg4 _ _ _ _ hb];exact q)
 have pt:(c.toArray.zip c.toArray).toList=c.map λv=>(v,v):=by rw[<-um];simp
 have fin:∀ g:qbY,(arrOf g).toList.Perm (c.map λv=>(v,v))->(arrOf g).toList.Pairwise (λx y=>O.kle (rk x) (rk y))->∃ d:List Value,d.length=c.length/\(arrOf g).map (·.2)=d.toArray/\P (.done (.ret .none)) { s with heap:=sortedHeap s.heap a c d.toArray }:=λg G m=>by
  refine⟨(arrOf g).toList.map (·.2),by rw[qah,G.length_eq,qah],by apply Array.toList_inj.mp;simp,h _ ?_ ?_⟩
  ·have:=G.map (·.2)
   rw[qaO]at this;have e:(c.map ((λx=>x.2) ∘ λv=>((v,v):Keyed)))=c:=by rw[show ((λx:Keyed=>x.2) ∘ λv=>((v,v):Keyed))=id from U,qg0]
   rw[e]at this;exact this
  ·rw[qdA]
   refine m.imp_of_mem λ{x y} F hy q=>?_;have dx:x=(x.2,x.2):=by obtain⟨v,_,rfl⟩:=qaF.mp (G.mem_iff.mp F);rfl
   have Y:y=(y.2,y.2):=by obtain⟨v,_,rfl⟩:=qaF.mp (G.mem_iff.mp hy);rfl
   rw[<-dx,<-Y];exact q
 dsimp only;by_cases m:c.toArray.size<2
 ·rw[iFP m,iFP m]
  refine qab (qan ?_);rw[StateT.run_pure];refine qab (qan ?_);dsimp only;obtain⟨d,q0,M,L⟩:=fin (qiw general' (c.toArray.zip c.toArray) #[] 7 none) (by rw[pt]) (by rw[pt];exact Ei m);refine qab (qhT k U ?_);rw[M];refine qab (qhb k U ?_);simp only[bne_self_eq_false,qbm,if_false];exact qan L
 ·rw[iFN m,iFN m]
  refine qab (I (by lia) _ _ ?_)
  refine qab (qcq (Cv hC (a0:=c.toArray.zip c.toArray) (Q:=λ_ g=>(arrOf g).toList.Perm (c.map λv=>(v,v))/\(arrOf g).toList.Pairwise (λx y=>O.kle (rk x) (rk y))/\qhc g=none)
   rfl U U U (λx F=>?_) (by simp;lia) (by simp;lia) λg t a2 H=>⟨by rw[<-pt];exact t,a2,H⟩) ?_ λ_ _ e=>e)
  ·rw[pt]at F
   obtain⟨v,hv,rfl⟩:=qaF.mp F;exact J v hv
  rintro⟨⟨⟩,g⟩ s' ⟨rfl,t,a2,H⟩
  dsimp only;obtain⟨d,q0,M,L⟩:=fin g t a2;refine qab (qhT k U ?_);rw[M];refine qab (qhb k U ?_);rw[H];simp only[bne_self_eq_false,qbm,if_false];exact qan L
theorem oj {l:Addr}{Q:Value->qai->Prop} (hl:s.heap.IsList l c.toArray) (z:c.length<64)
  (p:∀ h',(∀ b o,s.heap.get? b=some o->h'.get? b=some o)->∃ r,(2<=c.length->∀ (Q':qdl->qai->Prop) E',Q' r { s with heap:=h' }->wpAny (model prog w) A.in1.in1 (qh7 c.toArray) Q' E' { s with heap:=h' })/\Cm prog w A.in1.in1 { s with heap:=h' } r O rk S)
  (J:∀ v∈c,S (v,v))
  (h:∀ d:List Value,d.Perm c->d.Pairwise (λx y=>O.kle (rk (x,x)) (rk (y,y)))->Q (.ref (s.heap.objs.size+1)) { s with heap:=qjA s.heap c d.toArray }) :
  wpAny (model prog w) A (call (.builtin "sorted") [.ref l]) Q E s:=by
 refine qf7 kind_sorted plain_sorted entry_sorted (args_sorted1 _) ?_;refine qab (qan ?_);refine qab (collect_list hl ?_ (by rw[qdr];lia));refine qab (qfF ?_ (by rw[qdr];lia));have C:((s.heap.push (qfG "list" #[] 0)).update s.heap.objs.size (qcI (·++c.toArray))).objs.size=s.heap.objs.size+1:=by rw[qhM,qir]
 generalize X:((s.heap.push _).update s.heap.objs.size _)=T at C ⊢;have u:(T.push (qfG "list" c.toArray 0)).get? (s.heap.objs.size+1)=some (qfG "list" c.toArray 0):=by
  rw[<-C];exact qas _ U
 have keep:∀ b o,s.heap.get? b=some o->b≠s.heap.objs.size+1/\(T.push (qfG "list" c.toArray 0)).get? b=some o:=λb o q=>by
  have j:=qau q;refine⟨qax (qaZ j),?_⟩;rw[qdC _ _ _ (qax (by rw[C];exact qaZ j)),<-X,qg4 _ _ _ _ (qax j),qdC _ _ _ (qax j)];exact q
 rw[C];refine qab (qbT (qbU qjR ⟨_,u,U⟩ qjH (o9 u z (λh' hk=>p h' λb o q=>hk b o (keep b o q).1 (keep b o q).2) J λd t a2=>⟨_,U,?_⟩) (qjY _)));refine qan ⟨_,U,?_⟩
 have:=h d t a2
 unfold qjA at this;rw[X]at this;exact this
end
def mW (h:Heap):Value->Option Value
 |.ref a=>match h.get? a with
  |some o=>match o.data with
   |.seq b _=>b[0]?
   |_=>none
  |none=>none
 |_=>none
theorem TuI.fst {h:Heap}{v:Value}{l:List Int} (t:TuI h v l):mW h v=none\/∃ n t,mW h v=some (.int n t):=by
 obtain⟨a,b,rfl,⟨o,d,f,n,hd⟩,hi⟩:=t;simp only[mW,d,hd];by_cases c:0<b.size
 ·obtain⟨t,e⟩:=gh hi 0 _
  exact .inr ⟨_,t,by rw[qbz c];rw[qdN]at e;rw[e]⟩
 ·exact .inl (qdu (by lia))
section
variable {prog:qaM}{w:World}{A:qaY}{E:Value->qai->Prop}{s:qai}
theorem wR {v:Value}{l:List Int} (t:TuI s.heap v l) {Q:Value->qai->Prop} (h:Q (.type "tuple") s):wpAny (model prog w) A (typeOf v) Q E s:=by
 obtain⟨a,D,rfl,⟨o,C,H,n,hd⟩,hi⟩:=t;refine Looks.here ((Looks.ld C).andThen .now) ?_;rw[H];exact h
theorem xF {v:Value}{l:List Int} (t:TuI s.heap v l) {Q:Option Value->qai->Prop} (h:Q (mW s.heap v) s):wpAny (model prog w) A (firstOfTuple' v) Q E s:=by
 refine qab (wR t ?_);obtain⟨a,D,rfl,⟨o,C,H,n,hd⟩,hi⟩:=t;simp only[mW,C,hd]at h;exact qab (listItems_at C hd (qan h))
theorem gg:∀ {b:List Value}{Q:List (Option Value)->qai->Prop},(∀ v∈b,∃ l,TuI s.heap v l)->Q (b.map (mW s.heap)) s->wpAny (model prog w) A (b.mapM firstOfTuple') Q E s
 |[],_,_,h=>by exact qan h
 |v::b,Q,t,h=>by
  rw[List.mapM_cons];obtain⟨l,F⟩:=t v qag;refine qab (xF F (qab (gg (λu i=>t u (qaj _ i)) (qan h))))
theorem ux {x y:Value}{l m:List Int} (c:TuI s.heap x l) (d:TuI s.heap y m) {Q:Bool->qai->Prop} (h:Q (OI.blt (tuI s.heap x) (tuI s.heap y)) s):Q (bq l m) s:=by
 have h':=h;rw[c.is,d.is]at h';exact h'
theorem sV {b:List Value} (t:∀ v∈b,∃ l,TuI s.heap v l) (i:A.units<cLine):∃ I,(2<=b.length->∀ (Q':qdl->qai->Prop) E',Q' I s->wpAny (model prog w) A (qh7 b.toArray) Q' E' s)/\
  Cm prog w A s I OI (λp=>tuI s.heap p.1) (λp=>∃ l,TuI s.heap p.1 l):=by
 by_cases c1:(b.map (mW s.heap)).toArray.all (·.isSome)=true
 ·refine⟨_,λB Q' E' j=>?_,λx y ⟨l,c⟩ ⟨m,d⟩ Q E h=>c.tups d (ux c d h)⟩
  rw[qhU,qdB];refine qab (qab (gg t (qan ?_)));rw[iFP c1];refine qab (qds ?_);have L:∀ v∈(b.map (mW s.heap)).filterMap id,∃ n t,v=.int n t:=λv z=>by
   obtain⟨o,C,e⟩:=qfc.mp z;obtain⟨u,i,rfl⟩:=qaF.mp C;obtain⟨l,M⟩:=t u i;rcases M.fst with q|⟨n,t',q⟩
   ·rw[q]at e;cases e
   ·rw[q]at e;exact⟨n,t',(qaL e).symm⟩
  have K:∃ f fr,(b.map (mW s.heap)).filterMap id=f::fr:=by
   match b,B,c1 with
   |v::b,_,c1=>
    simp only[qaw,qfA,qbE,qa8]at c1;obtain⟨u,i⟩:=qcs.mp c1.1;exact⟨u,_,by rw[qaw,i];rfl⟩
  obtain⟨f,fr,e⟩:=K;have J:(b.map (mW s.heap)).toArray.filterMap id=(f::fr).toArray:=by rw[<-e];simp
  rw[J,qjD,qdB];refine qab (qab (qab (kas_mapM (r:=.type "int") _ (λv z Q'' k=>?_) (qan ?_))))
  ·rw[<-e]at z
   obtain⟨n,t',rfl⟩:=L v z;exact qan k
  ·have G:(qhk (λ_=>Value.type "int") (f::fr)).toArray[0]?=some (.type "int"):=by simp
   rw[G];have g:((qhk (λ_=>Value.type "int") (f::fr)).toArray.all λx=>x==.type "int")=true:=by
    simp only[qfA,qgI,qa3];intro _ _;rfl
   simp only[g,if_true];exact qan (qan j)
 ·by_cases c2:((b.map (mW s.heap)).toArray[0]?.bind id).isSome=true
  ·refine⟨general',λB Q' E' j=>?_,λx y ⟨l,c⟩ ⟨m,d⟩ Q E h=>c.one d i (ux c d h) false⟩
   rw[qhU,qdB];refine qab (qab (gg t (qan ?_)));rw[iFN c1,iFP c2];exact qan j
  ·refine⟨qh6,λB Q' E' j=>?_,λx y ⟨l,c⟩ ⟨m,d⟩ Q E h=>c.one d i (ux c d h) true⟩
   rw[qhU,qdB];refine qab (qab (gg t (qan ?_)));rw[iFN c1,iFN c2,qjD,qdB];refine qab (qab (qab (kas_mapM (r:=.type "tuple") _ (λv z Q'' k=>?_) (qan ?_))))
   ·obtain⟨l,F⟩:=t v z
    exact wR F k
   ·obtain⟨v,b,rfl⟩:∃ v r,b=v::r:=by
     match b,B with
     |v::r,_=>exact⟨v,r,U⟩
    have G:(qhk (λ_=>Value.type "tuple") (v::b)).toArray[0]?=some (.type "tuple"):=by simp
    rw[G];have g:((qhk (λ_=>Value.type "tuple") (v::b)).toArray.all λx=>x==.type "tuple")=true:=by
     simp only[qfA,qgI,qa3];intro _ _;rfl
    simp only[g,if_true];exact qan (qan j)
theorem y9 {b:List Value}{ns:List Int} (t:qb2 b ns):(2<=b.length->∀ (Q':qdl->qai->Prop) E',Q' qh6 s->wpAny (model prog w) A (qh7 b.toArray) Q' E' s)/\
  Cm prog w A s qh6 OI (λp=>[cj p.1]) (λp=>∃ n t,p.1=.int n t):=by
 refine⟨λB Q' E' j=>?_,λx y ⟨n,t,c⟩ ⟨m,u,d⟩ Q E h=>?_⟩
 ·match b,B,t with
  |v1::N::r,_,t=>rw[keyKind_ints t];exact qan j
 ·rw[c,d]
  refine oneLt_int ?_;have e:OI.blt [cj x.1] [cj y.1]=decide (n<m):=by
   rw[c,d];show (if n=m then bq [] [] else decide (n<m))=_;by_cases q:n=m
   ·subst q;simp[bq]
   ·rw[iFN q]
  rw[e]at h;exact h
end
def uI (x:List Int):List (List Int)->List (List Int)
 |[]=>[x]
 |y::a=>if bq y x=true then y::uI x a else x::y::a
def ax:List (List Int)->List (List Int)
 |[]=>[]
 |x::xs=>uI x (ax xs)
theorem kH (x:List Int):∀ a,(uI x a).Perm (x::a)
 |[]=>qdq _
 |y::a=>by
  unfold uI;split
  ·exact (List.Perm.cons y (kH x a)).trans (List.Perm.swap x y a)
  ·exact qdq _
theorem aI:∀ xs,(ax xs).Perm xs
 |[]=>qdq _
 |x::xs=>(kH x _).trans (List.Perm.cons x (aI xs))
def leL (a b:List Int):Prop:=bq b a=false
theorem xR {a b c:List Int} (h:leL a b) (h':leL b c):leL a c:=qdJ (O:=OI) h h'
theorem zd {a b:List Int} (h:leL a b) (h':leL b a):a=b:=ii a b h' h
theorem lb (x:List Int):∀ {c:List (List Int)},c.Pairwise leL->(uI x c).Pairwise leL
 |[],_=>by simp[uI]
 |y::c,h=>by
  unfold uI;split
  ·rename_i a
   refine qbi.mpr ⟨λz b=>?_,lb x (qbi.mp h).2⟩;rcases qay.mp ((kH x c).mem_iff.mp b) with rfl|b
   ·exact KeyOrd.klt_asymm (O:=OI) a
   ·exact (qbi.mp h).1 z b
  ·rename_i a
   rw[qeu]at a;refine qbi.mpr ⟨λz b=>?_,h⟩;rcases qay.mp b with rfl|b
   ·exact a
   ·exact xR a ((qbi.mp h).1 z b)
theorem bQ:∀ xs,(ax xs).Pairwise leL
 |[]=>List.Pairwise.nil
 |x::xs=>lb x (bQ xs)
theorem gB {xs d:List (List Int)} (p:xs.Perm d) (e:xs.Pairwise leL) (c:d.Pairwise leL):xs=d:=
 qfB (λa b _ _ e c=>zd e c) e c p
def fC:List D->Option (List (List Int))
 |[]=>some []
 |.tup l::ds=>(aU l).bind λns=>(fC ds).map λr=>ns::r
 |_=>none
def ak (l:List Int):D:=.tup (l.map D.int)
theorem eZ:∀ {ds:List D}{ls:List (List Int)},fC ds=some ls->ds=ls.map ak
 |[],_,h=>by cases h;rfl
 |.tup l::ds,_,h=>by
  simp only[fC,qac,qad]at h;obtain⟨ns,b,r,a,rfl⟩:=h;rw[eZ a,bg b];rfl
 |.non::_,_,h=>by cases h
 |.bl _::_,_,h=>by cases h
 |.int _::_,_,h=>by cases h
 |.str _::_,_,h=>by cases h
 |.ty _::_,_,h=>by cases h
 |.dct::_,_,h=>by cases h
 |.scr _::_,_,h=>by cases h
 |.lst _::_,_,h=>by cases h
theorem gC:∀ (ls:List (List Int)),fC (ls.map ak)=some ls
 |[]=>rfl
 |l::ls=>by
  have:aU (l.map D.int)=some l:=by
   induction l with
   |nil=>rfl
   |cons a l b=>simp[aU,b]
  simp only[qaw,ak,fC,this,qaa];rw[gC ls];rfl
def ph (ds:List D):Option (List D):=match aU ds with
 |some ns=>some ((qK ns).map D.int)
 |none=>(fC ds).map λls=>(ax ls).map ak
def hJ (st:Sto):List W->Option (List D)
 |[w]=>(lsD st w).bind λds=>if ds.length<64 then ph ds else none
 |_=>none
section
variable {K:qae}{X:Cx}{i:List (Addr×Obj)}{R:St}{H:Hp}{s:qai}{φ:List Addr}
def toV:Value->V
 |.ref a=>.ref a
 |_=>.non
theorem B4 {l:List Int}{v:V}{u:Value} (I:Inv X i R H s) (r:Rl X.K H φ (ak l) v) (q:aP v u):TuI s.heap u l/\v=toV u/\aP (toV u) u:=by
 obtain⟨a,T,rfl,D,C⟩:=r;obtain⟨z,rv,p,_⟩:=I.tuple (SqT.of D);have e:=C.ints;subst e;subst q;exact⟨⟨a,z.toArray,U,p,by simpa using cy rv⟩,U,U⟩
theorem kc (I:Inv X i R H s):∀ {ls:List (List Int)}{T:List V}{f:List Value},Rls X.K H φ (ls.map ak) T->aH T f->
  f.map (tuI s.heap)=ls/\∀ u∈f,TuI s.heap u (tuI s.heap u)/\Rl X.K H φ (ak (tuI s.heap u)) (toV u)/\aP (toV u) u
 |[],_,f,h,q=>by cases h;cases q;exact⟨U,λu B=>by cases B⟩
 |l::ls,_,f,h,q=>by
  obtain⟨v,r,rfl,D,C⟩:=h;cases q with
  |cons q1 q2=>
   obtain⟨t,e,e'⟩:=B4 I D q1;obtain⟨i1,i2⟩:=kc I C q2;refine⟨by rw[qaw,i1,t.is],λx A=>?_⟩;rcases qay.mp A with rfl|A
   ·rw[t.is,<-e];exact⟨t,D,q1⟩
   ·exact i2 x A
theorem n8:∀ {f:List Value},(∀ u∈f,TuI s.heap u (tuI s.heap u)/\Rl K H φ (ak (tuI s.heap u)) (toV u)/\aP (toV u) u)->Rls K H φ (f.map λu=>ak (tuI s.heap u)) (f.map toV)/\aH (f.map toV) f
 |[],_=>⟨U,.nil⟩
 |u::f,h=>by
  have D:=h u qag;have C:=n8 λx A=>h x (qaj _ A);exact⟨⟨_,_,U,D.2.1,C.1⟩,.cons D.2.2 C.2⟩
theorem nk:∀ {f:List Value}{l:List Int},qb2 f l->∀ u∈f,∃ n t,u=.int n t
 |_,_,.nil,u,B=>by cases B
 |_,_,.cons n t h,u,B=>by
  rcases qay.mp B with rfl|B
  ·exact⟨n,t,U⟩
  ·exact nk h u B
theorem oX:∀ {f:List Value},(∀ u∈f,∃ n t,u=.int n t)->qb2 f (f.map cj)
 |[],_=>.nil
 |u::f,h=>by
  obtain⟨n,t,rfl⟩:=h u qag;exact .cons n t (oX λx A=>h x (qaj _ A))
theorem jB {k:Nat} (hr:bu k X.A) (hK:X.K=K:=by rfl):rS K X (.builtin "sorted") hJ:=by
 subst hK;refine⟨λst ws d h=>?_⟩
 match ws,h with
 |[w],h=>
  simp only[hJ,qac]at h;obtain⟨ds,e1,h⟩:=h;split at h
  ·intro i s R H xs f Q I rv q
   obtain⟨φ,S,⟨v,r,rfl,r1,rfl⟩,q⟩:=q;obtain⟨a,T,rfl,D,C⟩:=qT S r1 e1;obtain⟨u,rfl,ru⟩:=fT rv;cases ru;obtain⟨z,J,pl,hz⟩:=I.list (.inl D);have g:z.length<64:=by
    have:=J.length
    have:=C.length
    lia
   have W:X.A.in1.in1.units<cLine:=by
    have:=hr.un
    lia
   have hn:=I.hok.fresh (qcW _);have L:∀ (c:List Value) (G:List V),aH G c->c.length<64->Inv X i R _ { s with heap:=qjA s.heap z c.toArray }:=λc G j ho=>by
    obtain⟨ep,he⟩:=sortedAll_at s.heap z c.toArray;refine I.laid (o:=.lst G) (λb o q=>sortedAll_old q) (qcW _) ⟨?_,c,ep,j,by simpa  using he⟩;rw[j.length];exact iW (by lia)
   unfold ph at h;cases hi:aU ds with
   |some ns=>
    rw[hi]at h;cases h;cases bg hi;cases C.ints;have P:=cy J;refine oj pl.isList g (λh' _=>⟨qh6,y9 P⟩) (λv j=>nk P v j) λc F a2=>?_;have hp:=by
     have:=F.map cj
     rw[no P]at this;exact this
    have Y:(c.map cj).Pairwise (·<=·):=by
     rw[qdA];refine a2.imp λ{x y} q=>?_;have q':bq [cj y] [cj x]=false:=q;by_cases e:cj y=cj x
     ·lia
     ·have:bq [cj y] [cj x]=decide (cj y<cj x):=by show (if _ then _ else _)=_;rw[iFN e]
      lia
    have j:=kh (oX (λu B=>nk P u (F.mem_iff.mp B)));rw[(t9 (hp.trans (lc ns).symm) Y (jc ns))]at j;exact⟨.ref _,_,L c _ j (by rw[F.length_eq];exact g),U,q _ _ H (aQ.refl H) hn (Rls.of_ints _)⟩
   |none=>
    rw[hi]at h;obtain⟨ls,hls,rfl⟩:=qad.mp h;cases eZ hls;obtain⟨m1,m2⟩:=kc I C J;refine oj (O:=OI) (rk:=λp=>tuI s.heap p.1) (S:=λp=>∃ l,TuI s.heap p.1 l) pl.isList g (λh' N=>?_) (λv j=>⟨_,(m2 v j).1⟩) λc F a2=>?_
    ·obtain⟨κ,k1,k2⟩:=sV (s:={ s with heap:=h' }) (λv j=>⟨_,(m2 v j).1.fit N⟩) W
     refine⟨κ,k1,λx y ⟨l,A⟩ ⟨m,hy⟩ Q E hq=>k2 x y ⟨l,A.fit N⟩ ⟨m,hy.fit N⟩ Q E ?_⟩;have M:Q (bq (tuI s.heap x.1) (tuI s.heap y.1)) { s with heap:=h' }:=hq;show Q (bq (tuI h' x.1) (tuI h' y.1)) { s with heap:=h' };rw[(A.fit N).is,(hy.fit N).is];rw[A.is,hy.is]at M;exact M
    ·obtain⟨b1,b2⟩:=n8 (λu B=>m2 u (F.mem_iff.mp B))
     have hp:=by
      have:=F.map (tuI s.heap)
      rw[m1]at this;exact this
     have Y:(c.map (tuI s.heap)).Pairwise leL:=by
      rw[qdA];exact a2.imp λ{x y} q=>q
     have e2:(c.map λu=>ak (tuI s.heap u))=(ax ls).map ak:=by rw[<-(gB (hp.trans (aI ls).symm) Y (bQ ls)),qaO];rfl
     rw[e2]at b1;exact⟨.ref _,_,L c _ b2 (by rw[F.length_eq];exact g),U,q _ _ H (aQ.refl H) hn b1⟩
  ·cases h
end
end L2
namespace L2
open PySem PySem.Spec PyProof.Rows
def lH (st:Sto) (x y:W):Option D:=match x with
 |.d x=>(fC [x]).bind λa=>(iy st y).bind λds=>(fC ds).map λls=>.bl (!decide (a.headD []∈ls))
 |_=>none
theorem iG:∀ a b:List Int,dm (a.map D.int) (b.map D.int)=decide (a=b)
 |[],[]=>rfl
 |[],_::_=>rfl
 |_::_,[]=>rfl
 |x::a,y::b=>by
  show (x==y&&dm _ _)=_;rw[iG a b,qeG];simp
theorem xE (a b:List Int):eqD (ak a) (ak b)=decide (a=b):=iG a b
theorem vm {α:Type} (f:α->List Int) (l:List Int):∀ a:List α,a.any (λu=>decide (f u=l))=decide (l∈a.map f)
 |[]=>by rw[List.any_nil,decide_eq_false (λh=>nomatch h)]
 |u::a=>by
  rw[qcf,vm f l a,qaw];by_cases h:f u=l
  ·rw[decide_eq_true h,qiJ,decide_eq_true (by rw[h];exact qag)]
  ·rw[decide_eq_false h,Bool.false_or]
   by_cases b:l∈a.map f
   ·rw[decide_eq_true b,decide_eq_true (qaj _ b)]
   ·rw[decide_eq_false b,decide_eq_false λq=>by
     rcases qay.mp q with q|q
     ·exact h q.symm
     ·exact b q]
theorem pd (l:List Int):okD 60 (ak l)=true:=by
 show (l.map D.int).all _=true;rw[qa3];intro d hd;obtain⟨i,_,rfl⟩:=qaF.mp hd;rfl
section
variable {K:qae}{X:Cx}
theorem yZ {f:List (Addr×Obj)}{B:St}{H:Hp}{s:qai}{φ:List Addr}{k:Nat} (j:bu k X.A) (I:Inv X f B H s) {l:List Int}{ls:List (List Int)}{x:V}{v:Value}{xs:List V}{r:List Value} (i:Rl X.K H φ (ak l) x) (N:aP x v) (t:Rls X.K H φ (ls.map ak) xs) (J:aH xs r) :
  (∀ u∈r,qdv X.A.in1 s u v (decide (tuI s.heap u=l)))/\r.any (λu=>decide (tuI s.heap u=l))=decide (l∈ls):=by
 obtain⟨e,h⟩:=kc I t J;refine⟨λu M=>?_,?_⟩
 ·obtain⟨_,a,b⟩:=h u M
  rw[<-xE];exact yH I 60 a i b N (pd _) (pd _) (by have:=j.units;lia)
 ·rw[<-e]
  exact vm _ _ _
theorem iQ {k:Nat} (j:bu k X.A) (F:X.K=K:=by rfl):OpD K X (qbN .NotIn) lH:=by
 subst F;refine⟨λst x y d h=>?_⟩
 match x,h with
 |.d x,h=>
  simp only[lH,qac,qad]at h;obtain⟨E,L,ds,C,ls,D,rfl⟩:=h;intro f s B H R O v u Q I A G q;obtain⟨φ,S,i,t,q⟩:=q;obtain⟨a,P,rfl,g,n⟩:=iU S t C;cases G;have ex:=eZ L
  match E,ex with
  |[l],ex=>
   cases ex;rw[eZ D]at n;rcases g with g|g
   ·obtain⟨c,m,p,_⟩:=I.list g
    obtain⟨o,z⟩:=yZ j I i A n m;refine SeqAt.notIn_listAt _ p.isList (λw hw=>o w (by simpa using hw)) ⟨.bl _,H,I,U,q _ H (aQ.refl H) ?_⟩;rw[show c.toArray.any _=c.any (λu=>decide (tuI s.heap u=l)) by simp,z];rfl
   ·obtain⟨c,m,p,_⟩:=I.tuple g
    obtain⟨o,z⟩:=yZ j I i A n m;refine SeqAt.notIn_tupleAt _ p (λw hw=>o w (by simpa using hw)) ⟨.bl _,H,I,U,q _ H (aQ.refl H) ?_⟩;rw[show c.toArray.any _=c.any (λu=>decide (tuI s.heap u=l)) by simp,z];rfl
end
end L2
namespace L2
open PySem PySem.Spec PyProof.Rows
open PySem.AutoSeq1 (wpAny_loadPart')
def SIt (k:Bool) (h:Heap) (a l:Addr) (i:Nat):Prop:=match k with
 |true=>h.IsTupleIter a l i
 |false=>h.IsListIter a l i
def SIs (k:Bool) (h:Heap) (l:Addr) (xs:Array Value):Prop:=match k with
 |true=>h.IsTuple l xs
 |false=>h.IsList l xs
theorem SIt.to {k:Bool}{h h':Heap}{b l:Addr}{i:Nat} (a:SIt k h b l i) (f:∀ o,h.get? b=some o->h'.get? b=some o):SIt k h' b l i:=by
 cases k with
 |true=>exact Heap.IsTupleIter.at a f
 |false=>exact Heap.IsListIter.at a f
theorem SIs.to {k:Bool}{h h':Heap}{l:Addr}{xs:Array Value} (a:SIs k h l xs) (f:∀ o,h.get? l=some o->h'.get? l=some o):SIs k h' l xs:=by
 cases k with
 |true=>obtain⟨o,e,r⟩:=a;exact⟨o,f o e,r⟩
 |false=>exact Heap.IsList.at a f
theorem SIt.live {k:Bool}{h:Heap}{b l:Addr}{i:Nat} (a:SIt k h b l i):∃ o c,h.get? b=some o/\o.data=.fields c:=by
 cases k with
 |true=>obtain⟨o,e,_,d⟩:=a;exact⟨o,_,e,d⟩
 |false=>obtain⟨o,e,_,d⟩:=a;exact⟨o,_,e,d⟩
section
variable {prog:qaM}{w:World}{A:qaY}{E:Value->qai->Prop}{s:qai}{k k2:Bool}
theorem qV {J l:Addr}{i:Nat}{xs:Array Value}{x:Value}{Q:Value->qai->Prop} (B:SIt k s.heap J l i) (Y:SIs k s.heap l xs) (C:xs[i]?=some x)
  (T:∀ h',SIt k h' J l (i+1)->qdk J s.heap h'->Q x { s with heap:=h' }):wpAny (model prog w) A (qcC (.ref J)) Q E s:=by
 cases k with
 |true=>exact eU B Y C T
 |false=>exact wpAny_nextOf_list_item B Y C T
theorem zu {J l:Addr}{i:Nat}{xs:Array Value}{Q:Value->qai->Prop} (hh:A.handled=none) (B:SIt k s.heap J l i) (Y:SIs k s.heap l xs) (C:xs[i]?=none)
  (hE:∀ h' e,qg5 J s.heap h'->(∃ o,h'.get? e=some o/\o.cls=.type "StopIteration")->E (.ref e) { s with heap:=h' }):wpAny (model prog w) A (qcC (.ref J)) Q E s:=by
 cases k with
 |true=>exact fM hh B Y C hE
 |false=>exact wpAny_nextOf_list_end hh B Y C hE
variable {z TI TO i1 i2 l1 l2:Addr}{n:Nat}{xs ys:Array Value}{a b:Value}
structure ZSt (k k2:Bool) (z TI TO i1 i2 l1 l2:Addr) (f0:Value) (n:Nat) (h:Heap):Prop where
 z:IsZip h z TI TO f0
 ti:qg3 h TI (.ref i1) (.ref i2)
 to:∃ a b,qg3 h TO a b
 t1:SIt k h i1 l1 n
 t2:SIt k2 h i2 l2 n
set_option maxHeartbeats 1000000 in
theorem AG {x y:Value}{Q:Option Value->qai->Prop} (D:ZipApart z TI TO i1 i2 l1 l2) (hs:ZSt k k2 z TI TO i1 i2 l1 l2 .none n s.heap) (G:SIs k s.heap l1 xs) (R:SIs k2 s.heap l2 ys) (C:xs[n]?=some x) (hy:ys[n]?=some y)
  (T:∀ h',ZSt k k2 z TI TO i1 i2 l1 l2 (qgv s.heap.objs.size) (n+1) h'->qg3 h' s.heap.objs.size x y->h'.objs.size=s.heap.objs.size+1->
    (∀ c o,c≠z->c≠TO->c≠i1->c≠i2->s.heap.get? c=some o->h'.get? c=some o)->Q (some (.ref s.heap.objs.size)) { s with heap:=h' }) :
  wpAny (model prog w) A (qgW (.ref z)) Q E s:=by
 obtain⟨r,H,⟨a,b,O⟩,h1,h2⟩:=hs;have hT:s.TypeIs (.ref z) "zip":=⟨_,r,U⟩
 unfold qgW;refine qab (qeI (qbL (name:=qd7 "__next__") hT qeQ (qbU qeQ hT qii ?_ (qh2 _))))
 show wpAny _ _ (field (.ref z) 2 >>= _) _ _ _;refine qab (qb9 r U (x:=.bool false) U ?_);show wpAny _ _ (field (.ref z) 3 >>= _) _ _ _;refine qab (qb9 r U (x:=.ref TI) U (qab (qbK H U ?_)));refine qab ?_;unfold qhu;refine qab (qb9 r U (x:=.none) U (qan ?_));simp only[if_true];refine qab (qds (qab (qb9 r U (x:=.ref TO) U ?_)));refine qab (qcZ r (by simp) λg1 t s1=>?_);replace t:IsZip g1 z TI TO .ellipsis:=t;refine qab ?_;simp only[qhH,qhP,qfR,qhY];have f:=s1.extBut;refine qab (qab (qfE ?_));refine qab (qV (h1.to λo q=>f _ o D.i1z q) (G.to λo q=>f _ o D.l1z q) C λg2 h12 P=>qan ?_);have u:=P.extBut;have d:qg3 g2 TO a b:=u _ _ D.TOi1 (f _ _ D.TOz O);refine qab (qbK d U (qab (qfd d λg3 p S=>?_)));replace p:qg3 g3 TO x b:=p;have F:=S.extBut;refine qab (qcJ (qan ?_));refine qab (qab (qfE ?_));refine qab (qV (h2.to λo q=>F _ o D.TOi2.symm (u _ o D.i12.symm (f _ o D.i2z q))) (R.to λo q=>F _ o D.l2TO (u _ o D.l2i1 (f _ o D.l2z q))) hy λg4 h24 s4=>qan ?_);have e4:=s4.extBut;have K:qg3 g4 TO x b:=e4 _ _ D.TOi2 p;refine qab (qbK K U (qab (qfd K λg m X=>?_)));replace m:qg3 g TO x y:=m;have e5:=X.extBut;refine qab (qcJ (qan (qan ?_)));refine qab (qbK m U (qab (qjO ?_)));have hsz:g.objs.size=s.heap.objs.size:=by rw[X.1,s4.1,S.1,P.1,s1.1]
 have hz5:IsZip g z TI TO .ellipsis:=e5 _ _ D.TOz.symm (e4 _ _ D.i2z.symm (F _ _ D.TOz.symm (u _ _ D.i1z.symm t)));have kp:∀ c o,c≠z->c≠TO->c≠i1->c≠i2->s.heap.get? c=some o->g.get? c=some o:=λc o c1 c2 c3 V e=>e5 _ _ c2 (e4 _ _ V (F _ _ c2 (u _ _ c3 (f _ _ c1 e))));have h25:SIt k2 g i2 l2 (n+1):=h24.to λo q=>e5 _ o D.TOi2.symm q;have L:z<g.objs.size:=qau hz5;show wpAny _ _ (qd1 (.ref z) (.ref g.objs.size) >>= _) _ _ _;refine qab ?_;unfold qd1;have hz6:IsZip (g.push { cls:=.type "tuple",data:=.seq #[x,y] }) z TI TO .ellipsis:=qaf _ hz5
 refine qab (qcZ hz6 (by simp) λg7 N s7=>?_);replace N:IsZip g7 z TI TO (qgv g.objs.size):=N;refine qcZ N (by simp) λg8 I s8=>?_;replace I:IsZip g8 z TI TO (qgv g.objs.size):=I;have up:∀ c o,c≠z->g.get? c=some o->g8.get? c=some o:=λc o c1 e=>s8.extBut _ _ c1 (s7.extBut _ _ c1 (qaf _ e));have W:qg3 g8 g.objs.size x y:=s8.extBut _ _ (qcg L) (s7.extBut _ _ (qcg L) (qas _ U));have hz9:g8.objs.size=g.objs.size+1:=by rw[s8.1,s7.1,qbj]
 rw[hsz]at I W hz9;refine qan ⟨_,U,qan ?_⟩;show Q (some (.ref g.objs.size)) _;rw[hsz];exact T g8 ⟨I,up _ _ D.TIz (kp _ _ D.TIz D.TITO D.TIi1 D.TIi2 H),⟨_,_,up _ _ D.TOz m⟩,(h12.to λo q=>e5 _ o D.TOi1.symm (e4 _ o D.i12 (F _ o D.TOi1.symm q))).to λo q=>up _ o D.i1z q,h25.to λo q=>up _ o D.i2z q⟩ W hz9 λc o c1 c2 c3 V e=>up c o c1 (kp c o c1 c2 c3 V e)
set_option maxHeartbeats 1000000 in
theorem Cy {Q:Option Value->qai->Prop} (hh:A.in1.handled=none) (D:ZipApart z TI TO i1 i2 l1 l2) (hs:ZSt k k2 z TI TO i1 i2 l1 l2 .none n s.heap) (G:SIs k s.heap l1 xs) (R:SIs k2 s.heap l2 ys) (hend:xs[n]?=none\/ys[n]?=none)
  (T:∀ h',(∀ c o,c≠z->c≠TO->c≠i1->c≠i2->s.heap.get? c=some o->h'.get? c=some o)->Q none { s with heap:=h' }):wpAny (model prog w) A (qgW (.ref z)) Q E s:=by
 obtain⟨r,H,⟨a,b,O⟩,h1,h2⟩:=hs;have hT:s.TypeIs (.ref z) "zip":=⟨_,r,U⟩
 have fin:∀ (h':Heap) (e:Addr),_->(∃ o,h'.get? e=some o/\o.cls=.type "StopIteration")->
   wpAny (model prog w) A (do if (<-isInstance (.ref e) _) then pure none else throw (.ref e)) Q E { s with heap:=h' }:=λh' e hk ⟨o,ho,hc⟩=>
  qab (qiL ⟨o,ho,hc⟩ qjU (qan (T _ hk)))
 refine qab (qeI (qbL hT qeQ (qbU qeQ hT qii ?_ (qh2 _))));show wpAny _ _ (field (.ref z) 2 >>= _) _ _ _;refine qab (qb9 r U (x:=.bool false) U ?_);refine qab (qb9 r U U (qab (qbK H U ?_)));refine qab ?_;refine qab (qb9 r U U (qan ?_));refine qab (qds (qab (qb9 r U U ?_)));refine qab (qcZ r (by simp) λg1 t s1=>?_);refine qab ?_;simp only[qhH,qhP,qfR,qhY];have f:=s1.extBut;refine qab (qab (qfE ?_));cases C:xs[n]? with
 |none=>
  refine qab (zu hh (h1.to λo q=>f _ o D.i1z q) (G.to λo q=>f _ o D.l1z q) C λg2 e P he=>?_);obtain⟨oe,j,v⟩:=he;have hz2:IsZip g2 z TI TO .ellipsis:=P _ _ D.i1z.symm t;have M:e≠z:=λx=>by subst x;rw[hz2]at j;cases j;simp at v
  exact qcZ hz2 (by simp) λg3 _ S=>fin g3 e (λc o c1 _ c3 _ x=>S.extBut _ _ c1 (P _ _ c3 (f _ _ c1 x))) ⟨oe,S.extBut _ _ M j,v⟩
 |some x=>
  have hy:ys[n]?=none:=by rcases hend with h|h;rw[C]at h;cases h;exact h
  refine qab (qV (h1.to λo q=>f _ o D.i1z q) (G.to λo q=>f _ o D.l1z q) C λg2 h12 P=>qan ?_);have u:=P.extBut;have d:=u _ _ D.TOi1 (f _ _ D.TOz O);refine qab (qbK d U (qab (qfd d λg3 p S=>?_)));have F:=S.extBut;refine qab (qcJ (qan ?_));refine qab (qab (qfE ?_));refine qab (zu hh (h2.to λo q=>F _ o D.TOi2.symm (u _ o D.i12.symm (f _ o D.i2z q))) (R.to λo q=>F _ o D.l2TO (u _ o D.l2i1 (f _ o D.l2z q))) hy λg4 e s4 he=>?_);obtain⟨oe,j,v⟩:=he;have hz4:IsZip g4 z TI TO .ellipsis:=s4 _ _ D.i2z.symm (F _ _ D.TOz.symm (u _ _ D.i1z.symm t));have M:e≠z:=λx=>by subst x;rw[hz4]at j;cases j;simp at v
  exact qcZ hz4 (by simp) λg _ X=>fin g e (λc o c1 c2 c3 V x=>X.extBut _ _ c1 (s4 _ _ V (F _ _ c2 (u _ _ c3 (f _ _ c1 x))))) ⟨oe,X.extBut _ _ M j,v⟩
end
def Ft (k:Bool):Value:=if k=true then .type "tuple_iterator" else .type "list_iterator"
def sO (k:Bool) (l:Addr):Obj:={ cls:=Ft k,data:=.fields #[.ref l,.int 0 0] }
abbrev zH1 (k:Bool) (h:Heap) (a:Addr):Heap:=h.push (sO k a)
abbrev zH2 (k k2:Bool) (h:Heap) (b a:Addr):Heap:=(zH1 k h b).push (sO k2 a)
abbrev zH3 (k k2:Bool) (h:Heap) (a b:Addr):Heap:=(zH2 k k2 h a b).push { cls:=.type "tuple",data:=.seq #[.ref h.objs.size,.ref (zH1 k h a).objs.size] }
abbrev zH4 (k k2:Bool) (h:Heap) (b a:Addr):Heap:=(zH3 k k2 h b a).push { cls:=.type "tuple",data:=.seq #[.none,.none] }
abbrev zH5 (k k2:Bool) (h:Heap) (b a:Addr):Heap:=(zH4 k k2 h b a).push { cls:=.type "zip",data:=.fields #[.none,.bool false,.bool false,.ref (zH2 k k2 h b a).objs.size,.ref (zH3 k k2 h b a).objs.size] }
section
variable {prog:qaM}{w:World}{A:qaY}{E:Value->qai->Prop}{s:qai}{k k2:Bool}
theorem sQ {l:Addr}{xs:Array Value}{Q:Value->qai->Prop} (y:SIs k s.heap l xs) (h:Q (.ref s.heap.objs.size) { s with heap:=s.heap.push (sO k l) }):wpAny (model prog w) A (qhz (.ref l)) Q E s:=by
 cases k with
 |true=>exact qc0 y h
 |false=>exact qdO y h
theorem oH (a b:Addr) (xs j:Array Value) (k k2:Bool) :
  Meets (qe9.«zip.__new__» ⟨[.type "zip",.ref a,.ref b],[]⟩) (λ_ R s=>SIs k s.heap a xs/\SIs k2 s.heap b j/\R (.ok (.ret (.ref (zH4 k k2 s.heap a b).objs.size))) { s with heap:=zH5 k k2 s.heap a b }):=
 .of_wp λprog w A R s h=>by
  obtain⟨I,g,d,H,os⟩:=s;obtain⟨f,i,h⟩:=h;have B:=sub_zip;have n:SIs k2 (Shared.heap ⟨I.push (sO k a),g,d,H,os⟩) b j:=i.to λo q=>qaf _ q
  wp_walk using sQ f,sQ n
  exact⟨_,U,h⟩
theorem sP (k:Bool) {h:Heap}{v l:Addr} (e:h.get? v=some (sO k l)):SIt k h v l 0:=by
 cases k with
 |true=>exact⟨_,e,U,U⟩
 |false=>exact⟨_,e,U,U⟩
theorem pS {a b:Addr}{xs j:Array Value}{Q:Value->qai->Prop} (f:SIs k s.heap a xs) (i:SIs k2 s.heap b j)
  (h:∀ h',ZSt k k2 (s.heap.objs.size+4) (s.heap.objs.size+2) (s.heap.objs.size+3) s.heap.objs.size (s.heap.objs.size+1) a b .none 0 h'->
    (∀ c o,s.heap.get? c=some o->h'.get? c=some o)->Q (.ref (s.heap.objs.size+4)) { s with heap:=h' }) :
  wpAny (model prog w) A (call (.type "zip") [.ref a,.ref b]) Q E s:=by
 refine callType_new F.called_zip (by decide) (F.typeCall_zip_2 _ _) (F.newCall_zip_2 _ _) (λobj=>F.args_object_init_3 obj _ _) F.entry_zip_new (oH a b xs j k k2) ⟨f,i,?_⟩;have r:(zH1 k s.heap a).objs.size=s.heap.objs.size+1:=qbj ..;have m:(zH2 k k2 s.heap a b).objs.size=s.heap.objs.size+2:=by rw[qbj,r]
 have p:(zH3 k k2 s.heap a b).objs.size=s.heap.objs.size+3:=by rw[qbj,m]
 have z:(zH4 k k2 s.heap a b).objs.size=s.heap.objs.size+4:=by rw[qbj,p]
 have up:∀ {h:Heap}{G:Obj}{c:Addr}{o:Obj},h.get? c=some o->(h.push G).get? c=some o:=λe=>qaf _ e;have t:(zH5 k k2 s.heap a b).get? (zH4 k k2 s.heap a b).objs.size=some _:=qas _ U;have C:(zH5 k k2 s.heap a b).get? (zH3 k k2 s.heap a b).objs.size=some _:=up (qas _ U);have u:(zH5 k k2 s.heap a b).get? (zH2 k k2 s.heap a b).objs.size=some _:=up (up (qas _ U));have D:(zH5 k k2 s.heap a b).get? (zH1 k s.heap a).objs.size=some _:=up (up (up (qas _ U)));rw[m,p,z]at t;rw[r,m]at u;rw[p]at C;rw[r]at D;rw[z];exact⟨⟨_,t,U⟩,h _ ⟨t,u,⟨_,_,C⟩,sP k (up (up (up (up (qas _ U))))),sP k2 D⟩ λc o x=>up (up (up (up (up x))))⟩
end
def SqK (k:Bool) (K:qae) (H:Hp) (a:Addr) (xs:List V):Prop:=match k with
 |true=>SqT K H a xs
 |false=>SqL K H a xs
def Itz (S1 S2:Hp->List V->Prop):It:=
 ⟨λi H=>∃ xs a x y,S1 H xs/\S2 H a/\xs[i]?=some x/\a[i]?=some y,λi H x H'=>∃ T v u,(∀ xs,S1 H xs->xs[i]?=some v)/\(∀ a,S2 H a->a[i]?=some u)/\H T=none/\x=.ref T/\H'=upd H T (.tup [v,u]),
  λi H=>∃ xs a,S1 H xs/\S2 H a/\(xs[i]?=none\/a[i]?=none)⟩
theorem Inv.seqK {X:Cx}{c:List (Addr×Obj)}{d:St}{H:Hp}{s:qai}{k:Bool}{a:Addr}{xs:List V} (I:Inv X c d H s) (h:SqK k X.K H a xs):∃ b:List Value,aH xs b/\SIs k s.heap a b.toArray:=by
 cases k with
 |true=>obtain⟨b,r,p,_⟩:=I.tuple h;exact⟨b,r,p⟩
 |false=>obtain⟨b,r,p,_⟩:=I.list h;exact⟨b,r,p.isList⟩
theorem Inv.seqK_inj {X:Cx}{b:List (Addr×Obj)}{d:St}{H:Hp}{s:qai}{k:Bool}{a:Addr}{xs c:List V} (I:Inv X b d H s) (h:SqK k X.K H a xs) (h':SqK k X.K H a c):xs=c:=by
 cases k with
 |true=>exact I.tuple_inj h h'
 |false=>exact I.list_inj h h'
theorem Au {P:qaM}{w:World}{K:qae}{r:List Expr}{kk:Nat}{pos:Pos}{k k2:Bool}{z TI TO p n O M:Addr} (D:ZipApart z TI TO p n O M) :
  uo P w K (.Tuple r kk pos) (Itz (λH xs=>SqK k K H O xs) λH xs=>SqK k2 K H M xs) [z,TI,TO,p,n] z (λi h=>ZSt k k2 z TI TO p n O M .none i h) where
 mem:=by simp
 obj:=λi h st b hb=>by
  simp only[qay,qbJ,or_false]at hb;rcases hb with rfl|rfl|rfl|rfl|rfl
  ·exact⟨_,st.z,λv z=>by cases z⟩
  ·exact⟨_,st.ti,λv z=>by cases z⟩
  ·obtain⟨a,b,e⟩:=st.to;exact⟨_,e,λv z=>by cases z⟩
  ·obtain⟨o,Q,e,d⟩:=st.t1.live;exact⟨o,e,λv z=>by rw[d]at z;cases z⟩
  ·obtain⟨o,Q,e,d⟩:=st.t2.live;exact⟨o,e,λv z=>by rw[d]at z;cases z⟩
 keep:=λi h h' st kp=>by
  obtain⟨a,b,e⟩:=st.to;exact⟨kp z (by simp) _ st.z,kp TI (by simp) _ st.ti,⟨a,b,kp TO (by simp) _ e⟩,st.t1.to λo q=>kp p (by simp) o q,st.t2.to λo q=>kp n (by simp) o q⟩
 item:=by
  intro X F hw L V i t s σ H E I B st hg;subst F hw L;obtain⟨xs,ys,x,y,f,g,S,T⟩:=hg;obtain⟨us,j,p1⟩:=I.seqK f;obtain⟨Q,l,N⟩:=I.seqK g;obtain⟨u,hu,ru⟩:=j.get S;obtain⟨v,Y,rv⟩:=l.get T;refine AG D st p1 N (by simpa using hu) (by simpa using Y) λh1 c hT W kp=>⟨_,U,?_⟩;refine wpAny_letOwnedTupleGo_zip c.z λh2 G s2=>?_;have m:=s2.extBut;obtain⟨c1,c2,J⟩:=c.to;have R:∀ b∈[z,TI,TO,p,n],b≠s.heap.objs.size:=λb hb e=>by
   obtain⟨o,ho,_⟩:=(show ∃ o,s.heap.get? b=some o/\True by
    simp only[qay,qbJ,or_false]at hb;obtain⟨a',b',e'⟩:=st.to;obtain⟨o1,_,q1,_⟩:=st.t1.live;obtain⟨o2,_,q2,_⟩:=st.t2.live;rcases hb with rfl|rfl|rfl|rfl|rfl
    ·exact⟨_,st.z,trivial⟩
    ·exact⟨_,st.ti,trivial⟩
    ·exact⟨_,e',trivial⟩
    ·exact⟨_,q1,trivial⟩
    ·exact⟨_,q2,trivial⟩)
   have:=qau ho
   rw[e]at this;exact qa2 _ this
  refine⟨.ref s.heap.objs.size,_,?_,U,⟨s.heap.objs.size,x,y,λzs C=>by rw[I.seqK_inj C f];exact S,λzs C=>by rw[I.seqK_inj C g];exact T,I.hok.fresh (qao _),U,U⟩,?_,λb hb=>?_⟩
  ·have I2:=I.turnsT (h':=h2) (t':=s.toks) B (λb o hb q=>by
    simp only[qay,qbJ,or_false,not_or]at hb
    exact m b o hb.1 (kp b o hb.1 hb.2.2.1 hb.2.2.2.1 hb.2.2.2.2 q)) (qao _) ⟨_,m _ _ (qbk (R z (by simp))) hT,U,⟨_,U⟩,U⟩ (.cons ru (.cons rv .nil)) (by show 2<=qaJ;decide)
   exact I2
  ·exact⟨G,m _ _ D.TIz c.ti,⟨c1,c2,m _ _ D.TOz J⟩,c.t1.to λo q=>m _ o D.i1z q,c.t2.to λo q=>m _ o D.i2z q⟩
  ·rw[upd_ne (R b hb)];exact (B b hb).1
 done:=by
  intro X F hw L V i t s σ H E I B st hg;subst F hw L;obtain⟨xs,ys,f,g,A⟩:=hg;obtain⟨us,j,p1⟩:=I.seqK f;obtain⟨Q,l,N⟩:=I.seqK g;have hl1:=j.length;have hl2:=l.length
  refine Cy (I.ok.hd V) D st p1 N (by
   rcases A with h|h
   ·rw[qbP]at h;simp;lia
   ·rw[qbP]at h;simp;lia) λh' kp=>⟨U,I.turns B λb o hb q=>?_⟩
  simp only[qay,qbJ,or_false,not_or]at hb;exact kp b o hb.1 hb.2.2.1 hb.2.2.2.1 hb.2.2.2.2 q
 self:=λ_ _ _ _ _ st h=>qiK st.z h
def GO (K:qae) (k k2:Bool) (d:TA):L2.TI:=λc H R=>d c H λe H1=>∃ a b,e=[.ref a,.ref b]/\(∃ xs,SqK k K H1 a xs)/\(∃ xs,SqK k2 K H1 b xs)/\R (Itz (λH xs=>SqK k K H a xs) λH xs=>SqK k2 K H b xs) H1
theorem Ec {X:Cx}{f:List Expr}{D:Nat}{j:Pos}{a b:Expr}{x:TA}{p pos:Pos}{k k2:Bool} (hg:Gl X "zip") (hm:X.mg "zip" = none) (J:PA X [a,b] x) (z:qbD [a,b] X.env=[(false,eval a X.env),(false,eval b X.env)]:=by rfl) (i:qbD [b] X.env=[(false,eval b X.env)]:=by rfl) :
  PI X (.Tuple f D j) (.Call (.Name "zip" p) [a,b] [] pos) (GO X.K k k2 x):=by
 intro g s F H R I h;refine Call_ (jn I hg hm boot_zip (qcc (thn (J pos g s F H _ I h) λn s1 ⟨G,H1,I1,B,K⟩=>?_) (by rw[z,i]) (by rw[i];rfl)));obtain⟨l,m,e,⟨xs,y⟩,⟨M,u⟩,q⟩:=K;subst e;cases B with
 |cons r t=>
  cases t with
  |cons E t=>
   cases t;cases r;cases E;obtain⟨n,A,p1⟩:=I1.seqK y;obtain⟨G,C,w⟩:=I1.seqK u;have lt:∀ {k:Bool}{l:Addr}{n:Array Value},SIs k s1.heap l n->l<s1.heap.objs.size:=λ{k l n} v=>by
    cases k with
    |true=>obtain⟨_,o,_⟩:=v;exact qau o
    |false=>obtain⟨_,o,_⟩:=v;exact qau o
   refine pS p1 w λh' c L=>qiK c.z ?_;refine⟨_,_,_,_,H1,U,I1.kept L,Au (zipApart_new (lt p1) (lt w)),c,λb hb=>?_,q⟩;have d:s1.heap.objs.size<=b:=by
    simp only[qay,qbJ,or_false]at hb;rcases hb with rfl|rfl|rfl|rfl|rfl
    ·exact qdh _ 4
    ·exact qdh _ 2
    ·exact qdh _ 3
    ·exact qao _
    ·exact qdh _ 1
   exact I1.fpOk d (I1.hok.fresh d)
def i5:List D->List D->List D
 |d::ds,e::es=>.tup [d,e]::i5 ds es
 |_,_=>[]
def Ey:W->Option (Bool×List D)
 |.d (.tup ds)=>some (true,ds)
 |.d (.lst ds)=>some (false,ds)
 |_=>none
def fG (c:Af):Lf
 |env,st=>(c env st).bind λr=>match r.1 with
  |[x,y]=>(Ey x).bind λa=>(Ey y).map λb=>(i5 a.2 b.2,r.2)
  |_=>none
theorem fV:∀ (ds es:List D) (i:Nat),(i5 ds es)[i]?=(ds[i]?).bind λd=>(es[i]?).map λe=>D.tup [d,e]
 |[],es,i=>by simp[i5]
 |d::ds,[],i=>by cases i<;>simp[i5]
 |d::ds,e::es,0=>by simp[i5]
 |d::ds,e::es,i+1=>by simpa [i5] using fV ds es i
theorem uk:∀ (ds es:List D),(i5 ds es).length=min ds.length es.length
 |[],es=>by simp[i5]
 |d::ds,[]=>by simp[i5]
 |d::ds,e::es=>by simp[i5,uk ds es]
section
variable {K:qae}{X:Cx}{a b:Expr}{pos:Pos}{af:Af}
theorem wL {st:Sto}{H:Hp}{φ:List Addr}{w:W}{v:V}{p:Bool×List D} (r:Rw K H φ w v) (e:Ey w=some p) (S:Sr K H φ st):∃ a l,v=.ref a/\SqK p.1 K H a l/\(∀ H' c,Fw φ c H H'->SqK p.1 K H' a l)/\Rls K H φ p.2 l:=by
 cases w with
 |h n=>cases e
 |d x=>
  cases x with
  |tup ds=>
   cases e;obtain⟨a,j,rfl,o,g⟩:=r;exact⟨a,j,U,(SqT.of o),λH' c f=>(SqT.of o).fw S f,g⟩
  |lst ds=>
   cases e;obtain⟨a,j,rfl,h0,o,g⟩:=r;exact⟨a,j,U,.inl o,λH' c f=>.inl (o.fw f h0),g⟩
  |_=>cases e
theorem EO {S1 S2:Hp->List V->Prop}{ds es:List D}{l j:List V}{φ:List Addr}{H:Hp} (h1:∀ H' c,Fw φ c H H'->S1 H' l) (h2:∀ H' c,Fw φ c H H'->S2 H' j) (r1:∀ H' c,Fw φ c H H'->Rls K H' c ds l) (r2:∀ H' c,Fw φ c H H'->Rls K H' c es j) :
  Yl K φ H (Itz S1 S2) (i5 ds es):=by
 intro H2 m st2 i B s2;have M:=h1 H2 m B;have I:=h2 H2 m B;have C:=r1 H2 m B;have w2:=r2 H2 m B;refine⟨λd hd=>?_,λhi=>⟨l,j,M,I,?_⟩⟩
 ·rw[fV,qac]at hd
  obtain⟨d1,J,hd⟩:=hd;obtain⟨d2,P,rfl⟩:=qad.mp hd;obtain⟨v,ev,rv⟩:=C.get J;obtain⟨u,eu,ru⟩:=w2.get P;refine⟨⟨l,j,v,u,M,I,ev,eu⟩,λx H' y=>?_⟩;obtain⟨T,v',u',y1,y2,Q,rfl,rfl⟩:=y;have z1:=y1 l M;have Y:=y2 j I;rw[ev]at z1;rw[eu]at Y;cases z1;cases Y;exact⟨aQ.new Q _,T,_,U,upd_same,_,_,U,rv.fw s2 (Fw.new Q),_,_,U,ru.fw s2 (Fw.new Q),U⟩
 ·rw[uk]at hi
  have l1:=C.length;have l2:=w2.length;rw[qbP,qbP];lia
theorem ng {s:List Expr}{k:Nat}{A p:Pos} (hg:Gl X "zip") (hm:X.mg "zip" = none) (ha:IA K X [a,b] af) (hs:az a=true:=by rfl) (z:az b=true:=by rfl) (hK:X.K=K:=by rfl) :
  II K X (.Tuple s k A) (.Call (.Name "zip" p) [a,b] [] pos) (fG af):=by
 subst hK;refine⟨λenv st r g=>?_⟩;simp only[fG,qac]at g;obtain⟨⟨ws,s1⟩,hy,g⟩:=g;dsimp only at g;split at g
 case h_2=>cases g
 rename_i x y;simp only[qac,qad]at g;obtain⟨p1,E,p2,L,rfl⟩:=g;refine (Ec (k:=p1.1) (k2:=p2.1) hg hm (ha.run _ _ _ hy) (An hs z) (iA z)).imp ?_
 rintro σ H R ⟨φ,hE,hS,q⟩
 refine⟨φ,hE,hS,λl H1 N f1 s1 C=>?_⟩;obtain⟨v,r,rfl,rx,v2,r',rfl,ry,rfl⟩:=C;obtain⟨a,j,rfl,o,O,g⟩:=wL rx E s1;obtain⟨b,us2,rfl,G,t,F⟩:=wL ry L s1;exact⟨a,b,U,⟨j,o⟩,⟨us2,G⟩,q _ H1 N f1 s1 (EO O t (λH' c f=>g.fw s1 f) λH' c f=>F.fw s1 f)⟩
end
def jr:List Int->Int->Int
 |[],m=>m
 |n::ns,m=>jr ns (if n > m then n else m)
def nO:List Int->Int->Int
 |[],m=>m
 |n::ns,m=>nO ns (if n<m then n else m)
section
variable {prog:qaM}{w:World}{A:qaY}{s:qai}{I l S:Addr}{items:Array Value}{ns:List Int}{x:List (Str×Value)}{R:qhB->qai->Prop}
theorem jO (h:qb2 items.toList ns) {j:Nat}{n:Int} (hn:ns[j]?=some n):∃ t,items[j]?=some (.int n t):=by
 have hj:j<items.toList.length:=by rw[cM h];exact (qar.mp hn).1
 obtain⟨t,e⟩:=gh h j hj;refine⟨t,?_⟩;have hj':=by simpa using hj
 rw[qbz hj'];rw[qdN]at e;rw[e,qaE,hn];rfl
theorem jN (h:qb2 items.toList ns) {j:Nat} (hn:ns[j]?=none):items[j]?=none:=by
 rw[qbP]at hn
 have:=cM h
 rw[Array.getElem?_eq_none_iff];rw[qcy]at this;lia
theorem DI (O:A.handled=none) (hi:qb2 items.toList ns) (p:S≠I) (G:l≠I) (H:l≠S):∀ (rest:List Int) (j:Nat) (s:qai) (m:Int) (t:Tok) (c:Nat),ns.drop j=rest->s.heap.IsListIter I l j->s.heap.IsList l items->
  s.heap.get? S=some { cls:=.type "list",dict:=none,data:=.seq #[.int m t,.int m t] c,slots:=#[] }->
  (∀ t' h',(∀ b o,b≠I->b≠S->s.heap.get? b=some o->h'.get? b=some o)->R (.ok (.ret (.int (jr rest m) t'))) { s with heap:=h' })->qdH (model prog w) A (.builtin "max.loop" ⟨[.ref I,.none,.ref S],x⟩) R s:=by
 have D:(toString "max"++toString ".loop" : String) = "max.loop":=by decide
 intro rest
 induction rest with
 |nil=>
  intro j s m t c hd B z J M;have hn:ns[j]?=none:=by
   rw[qbP]
   have:=congrArg qeV hd
   simp at this;lia
  refine qcD qf6 ?_;rw[qcp qcL _];show wpAny _ A.in1 (seqItems? (.ref S) >>= _) _ _ s;refine qab (qbK J U ?_);refine qab (qcl (qc3 O B z (jN hi hn) λV u=>?_));refine qab (qdE (u _ _ p J) U (qab (qcJ (qan ?_))));exact M t _ λb o g i q=>(qaP _ _ (qbk i)).trans (u _ _ g q)
 |cons n rest ih=>
  intro j s m t c hd B z J M;have hn:ns[j]?=some n:=by
   have:=congrArg (λl=>l[0]?) hd
   simpa using this
  have T:ns.drop (j+1)=rest:=by
   have:=congrArg (qk1 1) hd
   simpa [qh0,qeN] using this
  obtain⟨tn,hx⟩:=jO hi hn;refine qcD qf6 ?_;rw[qcp qcL _];show wpAny _ A.in1 (seqItems? (.ref S) >>= _) _ _ s;refine qab (qbK J U ?_);refine qab (qcl (qcU B z hx λV y s1=>?_));have u:=s1.extBut;have C:=u _ _ p J;show wpAny _ A.in1 (tryCatch _ _ >>= _) _ _ _;refine qab (qcl (qbT (qab (qjr ?_))));refine qab (qbT (qcm ?_));refine qab (qcJ (qan ?_));by_cases hb:n > m
  ·have L:decide (n > m)=true:=by simp[hb]
   rw[L];simp only[if_true];refine qab (qdE C U (qab (qcJ ?_)));rw[D];refine qan ⟨qda qcL _,ih (j+1) _ n tn _ T (y.at λo q=>(qaP _ _ p).trans q) (Heap.IsList.at z λo q=>(qaP _ _ (qbk H)).trans (u _ _ G q)) (qb7 _ C U) λt' h' k=>?_⟩
   have:=M t' h' λb o g i q=>k b o g i ((qaP _ _ (qbk i)).trans (u _ _ g q))
   rw[jr,iFP hb]at this;exact this
  ·have L:decide (n > m)=false:=by simp[hb]
   rw[L];simp only[qbm,if_false];refine qab (qcJ ?_);rw[D];refine qan ⟨qda qcL _,ih (j+1) _ m t c T y (Heap.IsList.at z λo q=>u _ _ G q) C λt' h' k=>?_⟩
   have:=M t' h' λb o g i q=>k b o g i (u _ _ g q)
   rw[jr,iFN hb]at this;exact this
variable {E:Value->qai->Prop}
theorem fY {id:String}{b:qe9}{args:List Value}{x:List (Str×Value)}{Q:Value->qai->Prop} (K:builtinKind id=none) (hp:plainId id=true) (hb:entryFor table id=some b) (ha:argsOk id ⟨args,x⟩)
  (hc:wpAny (model prog w) A.in1 (b ⟨args,x⟩) (λfin s'=>match fin with
    |.done f=>(match (Except.ok f:qhB) with|.ok (.ret v)=>Q v s'|.ok _=>False|.error e=>E e s')
    |.again W=>W.quiet=true/\qdH (model prog w) A W (λr s'=>match r with|.ok (.ret v)=>Q v s'|.ok _=>False|.error e=>E e s') s') E s) :
  wpAny (model prog w) A (call (.builtin id) args x) Q E s:=by
 refine qin (codeAny_call_builtin hp hb ?_);simp only[checkBuiltinCall,K];cases hsig:Manifest.signature? id with
 |none=>exact qan hc
 |some sig=>
  have Y:=by simpa only[argsOk,hsig] using ha
  show wpAny _ A.in1 (Bind.checkArgs id sig _) _ _ s;rw[Y];exact qan hc
theorem xg (a v:Value):argsOk "max" ⟨[a],[(qd7 "default",v)]⟩:=by kernel_rfl
def CG (ns:List Int) (d:Option Int):Option Int:=match ns with
 |n::r=>some (jr r n)
 |[]=>d
theorem xW (O:A.handled=none) (hi:qb2 items.toList ns) (p:S≠I) (G:l≠I) (H:l≠S) {c:Nat} (B:s.heap.IsListIter I l 0) (z:s.heap.IsList l items) (J:s.heap.get? S=some { cls:=.type "list",dict:=none,data:=.seq #[] c,slots:=#[] })
  (M:∀ v h',(∀ b o,b≠I->b≠S->s.heap.get? b=some o->h'.get? b=some o)->(∀ n r,ns=n::r->∃ t,v=.int (jr r n) t)->(ns=[]->∃ k,x=[(k,v)])->R (.ok (.ret v)) { s with heap:=h' })
  (h0:ns=[]->∃ k v,x=[(k,v)]):qdH (model prog w) A (.builtin "max.loop" ⟨[.ref I,.none,.ref S],x⟩) R s:=by
 refine qcD qf6 ?_;rw[qcp qcL _];refine qab (qbK J U ?_);cases hn:ns with
 |nil=>
  obtain⟨k,v,rfl⟩:=h0 hn;refine qab (qcl (qc3 O B z (jN hi (by rw[hn];rfl)) λV u=>?_));refine qab (qds (qan ?_));exact M v _ (λb o g _ q=>u _ _ g q) (λn r e=>by rw[hn]at e;cases e) λ_=>⟨k,U⟩
 |cons n rest=>
  obtain⟨tn,hx⟩:=jO hi (j:=0) (by rw[hn];rfl);refine qab (qcl (qcU B z hx λV y s1=>?_));have u:=s1.extBut;have C:=u _ _ p J;show wpAny _ A.in1 (updateSeq S _ >>= _) _ _ _;refine qab (qdE C U ?_);refine qan ⟨qda qcL _,DI O hi p G H rest 1 _ n tn _ (by rw[hn];rfl) (y.at λo q=>(qaP _ _ p).trans q) (Heap.IsList.at z λo q=>(qaP _ _ (qbk H)).trans (u _ _ G q)) (qb7 _ C U) λt' h' k=>?_⟩;exact M _ h' (λb o g i q=>k b o g i ((qaP _ _ (qbk i)).trans (u _ _ g q))) (λn' r' e=>by rw[hn]at e;cases e;exact⟨t',U⟩) λe=>by rw[hn]at e;cases e
theorem pQ {Q:Value->qai->Prop} (O:A.handled=none) (hi:qb2 items.toList ns) (z:s.heap.IsList l items) (K:x=[]\/∃ v,x=[(qd7 "default",v)]) (h0:ns=[]->x≠[])
  (h:∀ v h',(∀ b o,s.heap.get? b=some o->h'.get? b=some o)->(∀ n r,ns=n::r->∃ t,v=.int (jr r n) t)->(ns=[]->∃ k,x=[(k,v)])->Q v { s with heap:=h' }) :
  wpAny (model prog w) A (call (.builtin "max") [.ref l] x) Q E s:=by
 have P:l<s.heap.objs.size:=by obtain⟨_,e,_⟩:=z;exact qau e
 have N:(s.heap.push { cls:=.type "list_iterator",data:=.fields #[.ref l,.int 0 0] }).objs.size=s.heap.objs.size+1:=qbj ..
 have fin:∀ X:List Value,x=X.map _->wpAny (model prog w) A.in1 (do
   let it <-qhz _
   let b <-newList []
   qix (.builtin "max.loop" ⟨[it,.none,b],X.map λd=>(qd7 "default",d)⟩)) (λfin s'=>match fin with
   |.done f=>(match (Except.ok f) with|.ok (.ret v)=>Q v s'|.ok _=>False|.error e=>E e s')
   |.again W=>W.quiet=true/\qdH (model prog w) A W (λr s'=>match r with|.ok (.ret v)=>Q v s'|.ok _=>False|.error e=>E e s') s') E s:=λX hdd=>by
  refine qab (qdO z (qab (qb8 ?_)));refine qan ⟨qda qcL _,?_⟩;rw[<-hdd];refine xW O hi (by rw[N];exact qev _) (qax P) (by rw[N];exact qax (qaZ P))
   ⟨_,qaf _ (qas _ U),U,U⟩ (Heap.IsList.at z λo q=>qaf _ (qaf _ q)) (qas _ U) (λv h' k V Y=>?_) (λe=>?_)
  ·refine h v h' (λb o q=>?_) V Y
   have hb:=qau q;exact k b o (qax hb) (by rw[N];exact qax (qaZ hb)) (qaf _ (qaf _ q))
  ·rcases K with K|⟨v,K⟩
   ·exact absurd K (h0 e)
   ·exact⟨_,v,K⟩
 rcases K with rfl|⟨v,rfl⟩
 ·refine fY F.kind_max F.plain_max F.entry_max (F.args_max1 _) ?_
  exact (fin [] U)
 ·refine fY F.kind_max F.plain_max F.entry_max (xg _ _) ?_
  exact (fin [v] U)
end
section
variable {K:qae}{X:Cx}{e a b:Expr}{es:List Expr}{pos:Pos}{f fa fb:Ef}{af:Af}
def lsI (st:Sto) (w:W):Option (List Int):=(lsD st w).bind aU
theorem xu (p:X.calm=true) {F:List (Str×Value)}{d:Option V}{ns:List Int}{l:List (Addr×Obj)}{M:St}{H:Hp}{s:qai}{ad:Addr}{Q:VK}{E:XK}{r:Int} (I:Inv X l M H s) (y:Rd H ad (.lst (ns.map V.int)))
  (g:(F=[]/\ns≠[])\/∃ c t,F=[(qd7 "default",.int c t)]/\(ns=[]->r=c)) (T:∀ n q,ns=n::q->r=jr q n) (q:Q (.int r) H) :
  wpAny (model X.prog X.w) X.A (call (.builtin "max") [.ref ad] F) (EP X l M Q) X.xe s:=by
 obtain⟨O,A,R,hz⟩:=I.list (.inl y);refine pQ (I.ok.hd p) (by simpa using cy A) R.isList ?_ ?_ λv h' kp L B=>?_
 ·rcases g with g|⟨c,t,g,_⟩
  ·exact .inl g.1
  ·exact .inr ⟨_,g⟩
 ·intro e z
  rcases g with g|⟨c,t,g,_⟩
  ·exact g.2 e
  ·rw[g]at z;cases z
 ·have N:∃ t,v=.int r t:=by
   cases hn:ns with
   |nil=>
    obtain⟨k,o⟩:=B hn;rcases g with g|⟨c,t,g,J⟩
    ·exact absurd hn g.2
    ·rw[g]at o
     cases o;rw[J hn];exact⟨t,U⟩
   |cons n q=>
    rw[T n q hn];exact L n q hn
  exact⟨.int r,H,I.kept kp,N,q⟩
def dMx (st:Sto):List W->Option D
 |[.d (.int i),.d (.int j)]=>some (.int (if j > i then j else i))
 |[w]=>(lsI st w).bind λns=>(CG ns none).map D.int
 |_=>none
theorem we {st:Sto}{H:Hp}{φ:List Addr}{w:W}{v:V}{ns:List Int} (S:Sr K H φ st) (r:Rw K H φ w v) (h:lsI st w=some ns):∃ ad,v=.ref ad/\Rd H ad (.lst (ns.map V.int)):=by
 obtain⟨ds,C,m⟩:=qac.mp h;obtain⟨ad,Y,rfl,L,B⟩:=qT S r C;cases bg m;cases B.ints;exact⟨ad,U,L⟩
theorem vz (p:X.calm=true:=by rfl):eG K X (.builtin "max") dMx:=by
 refine⟨λst ws d h=>?_⟩;have one:∀ w,((lsI st w).bind λns=>(CG ns none).map D.int)=some d->bE X _ (rCD K st [w] d):=λw h=>by
  obtain⟨ns,C,h⟩:=qac.mp h;obtain⟨r,m,rfl⟩:=qad.mp h;intro l s M H xs us Q I A q;obtain⟨φ,S,⟨v,rr,rfl,G,rfl⟩,q⟩:=q;obtain⟨ad,rfl,y⟩:=we S G C;obtain⟨u,rfl,P⟩:=fT A;cases P;refine xu (E:=λ_ _ _=>False) (d:=none) p I y (.inl ⟨U,λe=>by rw[e]at m;cases m⟩) (λn q hn=>by rw[hn]at m;exact (qaL m).symm) (q _ H (aQ.refl H) U)
 match ws,h with
 |[.d (.int i),.d (.int j)],h=>
  cases h;refine (xr p).imp ?_
  rintro Y H Q ⟨φ,S,⟨v,r,rfl,G,u,r',rfl,r2,rfl⟩,q⟩
  exact⟨i,j,by rw[G,r2],q _ H (aQ.refl H) U⟩
 |[w],h=>exact one w (by cases w with|h n=>exact h|d x=>cases x<;>exact h)
end
section
variable {K:qae}{X:Cx}
def uA (_:Sto):W->W->Option D
 |.d (.int i),.d (.int j)=>some (.int (qd0 i j))
 |_,_=>none
theorem qW:OpD K X (qbH .BitAnd) uA:=gH (λ_ _ _=>rfl) λi j d h=>by cases h;exact⟨DR.imp λ_ _ _ _ q=>⟨i,j,q⟩,U⟩
end
section
variable {K:qae}{X:Cx}{pos:Pos}{a b:Expr}{c:Af}
end
def gJ (a b:Ef):Ef
 |env,st=>(a env st).bind λx=>(b env x.2).bind λy=>match x.1,y.1 with
 | .h n,.d (.int i)=>(match y.2[n]? with
  |some (.n ws)=>(atI ws i).map λw=>(w,y.2)
  |_=>none)
 |_,_=>none
def yS (a:Af):Ef
 |env,st=>(a env st).bind λr=>if r.1.length<=1000 then some (.h r.2.length,r.2++[.n r.1]) else none
def cq (o i v:Ef):Sf
 |env,st=>(v env st).bind λc=>(o env c.2).bind λb=>(i env b.2).bind λa=>match b.1,a.1,c.1 with
 | .h n,.d (.int k),.d x=>(match a.2[n]? with
  |some (.n ws)=>(ixN ws.length k).map λj=>.nx env (a.2.set n (.n (ws.set j (.d x))))
  |_=>none)
 |_,_,_=>none
def uT (ds:List D):List W->Option (D×List D)
 |[.d (.int i)]=>(ixN ds.length i).bind λk=>(ds[k]?).bind λd=>if cC d=true/\-(2^62)<=i/\i<2^62 then some (d,ds.eraseIdx k) else none
 |_=>none
section
variable {K:qae}{X:Cx}{pos:Pos}{e a b c:Expr}{es:List Expr}{f fa fb:Ef}{af:Af}
theorem Rws.get {H:Hp}{φ:List Addr}:∀ {ds:List W}{l:List V},Rws K H φ ds l->∀ {i:Nat}{d:W},ds[i]?=some d->∃ v,l[i]?=some v/\Rw K H φ d v
 |[],_,h,i,d,e=>by simp at e
 |d::ds,_,h,i,e,q=>by
  obtain⟨v,r,rfl,E,t⟩:=h;cases i with
  |zero=>simp at q;subst q;exact⟨v,U,E⟩
  |succ i=>simpa using Rws.get t (by simpa using q)
theorem Rws.set {H:Hp}{φ:List Addr}:∀ {ds:List W}{l:List V} (n:Nat) {d:W}{v:V},Rws K H φ ds l->Rw K H φ d v->Rws K H φ (ds.set n d) (l.set n v)
 |[],_,_,_,_,h,_=>by cases h;exact U
 |e::ds,_,0,d,v,h,hd=>by
  obtain⟨u,r,rfl,E,t⟩:=h;exact⟨v,r,U,hd,t⟩
 |e::ds,_,n+1,d,v,h,hd=>by
  obtain⟨u,r,rfl,E,t⟩:=h;exact⟨u,_,U,E,Rws.set n t hd⟩
theorem Rws.mem {H:Hp}{φ:List Addr}:∀ {ds:List W}{l:List V},Rws K H φ ds l->∀ {m:Nat},W.h m∈ds->m<φ.length
 |[],_,_,m,hm=>nomatch hm
 |d::ds,_,h,m,hm=>by
  obtain⟨v,r,rfl,E,t⟩:=h;rcases qay.mp hm with z|z
  ·subst z
   obtain⟨a,e,_⟩:=E;exact (qar.mp e).1
  ·exact Rws.mem t z
theorem Sr.atn {H:Hp}{φ:List Addr}{st:Sto} (S:Sr K H φ st) {n:Nat}{p:Addr}{ws:List W} (e1:φ[n]?=some p) (e2:st[n]?=some (.n ws)):∃ l,H p=some (.lst l)/\Rws K H φ ws l/\∀ m,W.h m∈ws->m<n:=S.at_ n p _ e1 e2
theorem AQ {H:Hp}{φ:List Addr}{ds:List W}{l:List V}{i:Int}{d:W} (r:Rws K H φ ds l) (e:atI ds i=some d):∃ v,atI l i=some v/\Rw K H φ d v:=by
 unfold atI at e ⊢;rw[<-r.length];obtain⟨j,e1,e2⟩:=qac.mp e;obtain⟨v,ev,rv⟩:=r.get e2;exact⟨v,by rw[e1];exact ev,rv⟩
theorem qu (ha:IE K X a fa) (hb:IE K X b fb) (hs:kN b=true:=by rfl) (hK:X.K=K:=by rfl):IE K X (.Subscript a b pos) (gJ fa fb):=by
 subst hK;refine⟨λenv st r g=>?_⟩;simp only[gJ,qac]at g;obtain⟨⟨x,s1⟩,hx,⟨y,Y⟩,s,g⟩:=g;dsimp only at g;split at g
 case h_2=>cases g
 rename_i n i;split at g
 ·rename_i ws T
  obtain⟨w,hw,rfl⟩:=qad.mp g;refine (zE qP (ha.run _ _ _ hx) (hb.run _ _ _ s) (nr hs)).imp ?_
  rintro σ H Q ⟨φ,C,B,q⟩
  refine⟨φ,C,B,λv H1 F G S1 R=>⟨F,C.fw B G,S1,λu H2 M N S2 w2=>?_⟩⟩;obtain⟨p,ep,rfl⟩:=R.fw S1 N;obtain⟨l,hv,J,_⟩:=S2.atn ep T;obtain⟨z,ez,rz⟩:=AQ J hw;exact .inl ⟨p,l,i,z,U,w2,SqL.of hv,ez,q z H2 M (G.trans N) S2 rz⟩
 ·cases g
theorem lO (h:IA K X es af):IE K X (.List es pos) (yS af):=by
 refine⟨λenv st r g=>?_⟩;simp only[yS,qac]at g;obtain⟨y,s,g⟩:=g;split at g
 ·cases g
  rename_i hl;refine (zF (h.run _ _ _ s)).imp ?_
  rintro σ H Q ⟨φ,C,B,q⟩
  refine⟨φ,C,B,λl H1 F G s1 R=>?_⟩;refine⟨by rw[<-R.length];exact iW hl,λp hp=>?_⟩;exact q _ _ _ (G.trans (Fw.more hp)) (s1.moreC hp ⟨l,upd_same,R.fw s1 (Fw.more hp),λm hm=>R.mem hm⟩) ⟨p,by rw[<-s1.len];simp,U⟩
 ·cases g
theorem iJ {A:Pos} (ho:IE K X a fa) (hi:IE K X b fb) (hv:IE K X e f) (hb:kN b=true:=by rfl) (hs:qdF [.Subscript a b A] e pos.line X.env=pure false:=by rfl) (hw:qdG [.Subscript a b A] e X.env=pure none:=by rfl) :
  IS K X (.Assign [.Subscript a b A] e pos) (cq fa fb f):=by
 refine⟨λenv st r g=>?_⟩;simp only[cq,qac]at g;obtain⟨⟨rv,s1⟩,ev,⟨ro,Y⟩,eo,⟨ri,s3⟩,ei,g⟩:=g;dsimp only at g;split at g
 case h_2=>cases g
 rename_i n k x;split at g
 ·rename_i ws T
  obtain⟨j,ej,rfl⟩:=qad.mp g;refine (nY (hv.run _ _ _ ev) (rs (ho.run _ _ _ eo) (hi.run _ _ _ ei) kf (lC hb)) hs hw (jw U)).imp ?_
  rintro D σ H ⟨φ,C,B,q⟩
  refine⟨φ,C,B,λv H1 F G s1 R=>⟨F,C.fw B G,s1,λo H2 M N Y w2=>⟨M,(C.fw B G).fw s1 N,Y,λi H3 φ3 f3 s3 w3=>?_⟩⟩⟩;have e3:=((C.fw B G).fw s1 N).fw Y f3;have w1':=(R.fw s1 N).fw Y f3;obtain⟨p,ep,rfl⟩:=w2.fw Y f3;obtain⟨l,hp,J,bd⟩:=s3.atn ep T;have w3':i=.int k:=w3;subst w3'
  obtain⟨f4,s4⟩:=s3.putC (o:=.lst (l.set j v)) (c:=.n (ws.set j (.d x))) ep λf=>⟨_,upd_same,(Rws.set j J w1').fw s3 f,λm hm=>by
   rcases List.mem_or_eq_of_mem_set hm with z|z
   ·exact bd m z
   ·cases z⟩
  refine⟨p,l,k,j,U,U,hp,by rw[<-J.length];exact ej,?_⟩;exact q _ _ φ3 (((G.trans N).trans f3).trans f4) (e3.fw s3 f4) s4
 ·cases g
theorem Rls.erase {H:Hp}{φ:List Addr}:∀ {ds:List D}{l:List V} (n:Nat),Rls K H φ ds l->Rls K H φ (ds.eraseIdx n) (l.eraseIdx n)
 |[],_,_,h=>by cases h;exact U
 |d::ds,_,0,h=>by
  obtain⟨v,r,rfl,E,t⟩:=h;exact t
 |d::ds,_,n+1,h=>by
  obtain⟨v,r,rfl,E,t⟩:=h;exact⟨v,_,U,E,Rls.erase n t⟩
theorem qz {I:Pos} (ho:IE K X a fa) (ha:IA K X (e::es) af) (P:qdb a "pop" X.env (eval a X.env)=eval a X.env:=by rfl)
  (hall:(e::es).all az=true:=by rfl) (O:(e::es).length<30:=by decide) (L:(I.endLine==pos.line)=true:=by rfl) (hK:X.K=K:=by rfl) :
  IE K X (.Call (.Attribute a "pop" I) (e::es) [] pos) (cD uT fa af):=by
 refine yY PySem.F.slot_list_pop PySem.F.type_list_pop zo (λH φ st n ad ds l ws us y Q S ea eds hv J rw s q=>?_) (λds ws y h=>?_) ho ha P hall O L hK
 ·match ws,s with
  |[.d (.int i)],s=>
   simp only[uT,qac]at s;obtain⟨k,hk,d,hd,s⟩:=s;split at s
   ·rename_i hl
    cases s;obtain⟨v,r,rfl,r1,rfl⟩:=rw;obtain⟨x,ex,rx⟩:=J.get hd;refine⟨ad,l,i,k,x,U,by rw[r1],hv,by lia,by lia,by rw[<-J.length];exact (l9 hk).1,ex,q _ _ rx (J.erase k) λb z=>?_⟩;obtain⟨z1,z2⟩:=gA hl.1 rx;rw[z]at z2;cases z2
   ·cases s
 ·match ws,h with
  |[.d (.int i)],h=>
   simp only[uT,qac]at h;obtain⟨k,hk,d,hd,h⟩:=h;split at h
   ·rename_i hl
    cases h;exact hl.1
   ·cases h
end
def ay (f:Str) (a:Ef):Ef
 |env,st=>(a env st).bind λx=>match x.1 with
 |.d (.ob ns ds)=>((ns.zip ds).lookup f).map λd=>(.d d,x.2)
 | .h n=>(match x.2[n]? with
  |some (.o fs)=>(fs.lookup f).map λw=>(w,x.2)
  |_=>none)
 |_=>none
section
variable {K:qae}{H:Hp}{φ:List Addr}
theorem ul {f:Str}{d:D}:∀ {ns:List Str}{ds:List D}{b:List V},Rls K H φ ds b->(ns.zip ds).lookup f=some d->∃ v,(ns.zip b).lookup f=some v/\Rl K H φ d v/\f∈ns
 |[],ds,b,r,h=>by cases h
 |n::ns,[],b,r,h=>by cases h
 |n::ns,x::ds,b,r,h=>by
  obtain⟨v,l,rfl,j,c⟩:=r;rw[qdn,qbw]at h ⊢;by_cases e:(f==n)=true
  ·rw[e]at h ⊢
   cases h;exact⟨v,U,j,by rw[beq_iff_eq.mp e];exact qag⟩
  ·rw[show (f==n)=false by simpa using e]at h ⊢
   obtain⟨k,o,q,s⟩:=ul c h;exact⟨k,o,q,qaj _ s⟩
theorem Rfs.look {f:Str}{w:W}:∀ {fs:List (Str×W)}{b:List (Str×V)},Rfs K H φ fs b->fs.lookup f=some w->∃ v,b.lookup f=some v/\Rw K H φ w v/\∃ p∈fs,p.1=f
 |[],b,r,h=>by cases h
 |(n,x)::fs,b,r,h=>by
  obtain⟨v,l,rfl,j,c⟩:=r;rw[qbw]at h ⊢;by_cases e:(f==n)=true
  ·rw[e]at h ⊢
   cases h;exact⟨v,U,j,_,qag,(beq_iff_eq.mp e).symm⟩
  ·rw[show (f==n)=false by simpa using e]at h ⊢
   obtain⟨k,o,q,p,t,s⟩:=Rfs.look c h;exact⟨k,o,q,p,qaj _ t,s⟩
theorem Rfs.length:∀ {fs:List (Str×W)}{b:List (Str×V)},Rfs K H φ fs b->fs.length=b.length
 |[],b,r=>by cases r;rfl
 |(n,x)::fs,b,r=>by
  obtain⟨v,l,rfl,j,c⟩:=r;rw[qaq,qaq,Rfs.length c]
theorem Rfs.mem {m:Nat}:∀ {fs:List (Str×W)}{b:List (Str×V)},Rfs K H φ fs b->W.h m∈fs.map (·.2)->m<φ.length
 |[],_,_,hm=>nomatch hm
 |(n,x)::fs,_,r,hm=>by
  obtain⟨v,l,rfl,j,c⟩:=r;rcases qay.mp hm with z|z
  ·subst z
   obtain⟨a,e,_⟩:=j;exact (qar.mp e).1
  ·exact Rfs.mem c z
def nZ (f:Str) (w:W):List (Str×W)->List (Str×W)
 |[]=>[(f,w)]
 |(g,x)::r=>if g=f then (g,w)::r else (g,x)::nZ f w r
theorem Rfs.put {f:Str}{w:W}{v:V} (i:Rw K H φ w v):∀ {fs:List (Str×W)}{b:List (Str×V)},Rfs K H φ fs b->Rfs K H φ (nZ f w fs) (fO f v b)
 |[],_,r=>by cases r;exact⟨v,_,U,i,U⟩
 |(g,x)::fs,_,r=>by
  obtain⟨k,l,rfl,j,c⟩:=r;unfold nZ fO;by_cases e:g=f
  ·rw[iFP e,iFP e];exact⟨v,l,U,i,c⟩
  ·rw[iFN e,iFN e];exact⟨k,_,U,j,Rfs.put i c⟩
theorem n4 {f:Str}{w:W}:∀ {fs:List (Str×W)}{p:Str×W},p∈nZ f w fs->p∈fs\/p=(f,w)
 |[],p,h=>.inr (qal.mp h)
 |(g,x)::fs,p,h=>by
  unfold nZ at h;by_cases e:g=f
  ·rw[iFP e]at h
   rcases qay.mp h with z|z
   ·rw[e]at z;exact .inr z
   ·exact .inl (qaj _ z)
  ·rw[iFN e]at h
   rcases qay.mp h with z|z
   ·exact .inl (z ▸ qag)
   ·rcases n4 z with z|z
    ·exact .inl (qaj _ z)
    ·exact .inr z
theorem tZ {f:Str}{v:V}:∀ {b:List (Str×V)},f∉b.map (·.1)->fO f v b=b++[(f,v)]
 |[],_=>rfl
 |(g,x)::b,h=>by
  unfold fO;rw[iFN (by intro e;exact h (e ▸ qag)),tZ λz=>h (qaj _ z)];rfl
theorem Rfs.keys:∀ {fs:List (Str×W)}{b:List (Str×V)},Rfs K H φ fs b->b.map (·.1)=fs.map (·.1)
 |[],b,r=>by cases r;rfl
 |(n,x)::fs,b,r=>by
  obtain⟨v,l,rfl,j,c⟩:=r;rw[qaw,qaw,Rfs.keys c]
theorem Rfs.snoc {f:Str}{w:W}{v:V} (i:Rw K H φ w v):∀ {fs:List (Str×W)}{b:List (Str×V)},Rfs K H φ fs b->Rfs K H φ (fs++[(f,w)]) (b++[(f,v)])
 |[],_,r=>by cases r;exact⟨v,_,U,i,U⟩
 |(g,x)::fs,_,r=>by
  obtain⟨k,l,rfl,j,c⟩:=r;exact⟨k,_,U,j,Rfs.snoc i c⟩
end
section
variable {K:qae}{X:Cx}{pos j:Pos}{e o:Expr}{N fb:Ef}{f:Str}
theorem lM (h:IE K X e N) (hb:qdb e f X.env (eval e X.env)=eval e X.env:=by rfl) (R:X.K=K:=by rfl):IE K X (.Attribute e f pos) (ay f N):=by
 subst R;refine⟨λenv st r b=>?_⟩;simp only[ay,qac]at b;obtain⟨⟨x,s1⟩,hx,b⟩:=b;refine (D0 (h.run _ _ _ hx) hb).imp ?_
 rintro σ H Q ⟨φ,I,C,q⟩
 refine⟨φ,I,C,λv H1 i A s P=>?_⟩;cases x with
 |d x=>
  cases x with
  |ob ns ds=>
   obtain⟨d,hd,rfl⟩:=qad.mp b;obtain⟨a,Cl,l,fs,L,rfl,h0,J,rfl,h3,B,y,h6,h7⟩:=P;obtain⟨u,Y,W,hf⟩:=ul h7 hd;exact⟨a,Cl,l,_,u,U,J,y,h6 f hf,Y,q u H1 i A s W⟩
  |_=>cases b
 |h n=>
  dsimp only at b;split at b
  ·rename_i fs k
   obtain⟨w,hw,rfl⟩:=qad.mp b;obtain⟨a,O,rfl⟩:=P;obtain⟨Cl,l,L,J,E,h3,B,y⟩:=s.at_ n a _ O k;obtain⟨u,Y,W,p,hp,rfl⟩:=E.look hw;exact⟨a,Cl,l,L,u,U,J,B,y p hp,Y,q u H1 i A s W⟩
  ·cases b
def k8 (f:Str) (o v:Ef):Sf
 |env,st=>(v env st).bind λM=>(o env M.2).bind λG=>match G.1,M.1 with
 | .h n,.d x=>(match G.2[n]? with
  |some (.o fs)=>if fs.length<1000/\(fs.lookup f).isSome=true then some (.nx env (G.2.set n (.o (nZ f (.d x) fs)))) else none
  |_=>none)
 |_,_=>none
theorem lX (ho:IE K X o N) (hv:IE K X e fb) (hs:qct e (some (.Attribute o f j)) pos.line X.env=pure false:=by rfl) (R:X.K=K:=by rfl):IS K X (.Assign [.Attribute o f j] e pos) (k8 f N fb):=by
 subst R;refine⟨λenv st r b=>?_⟩;simp only[k8,qac]at b;obtain⟨⟨M,s1⟩,ev,⟨G,F⟩,eo,b⟩:=b;cases G with
 |d x=>cases b
 |h n=>
  cases M with
  |h m=>cases b
  |d x=>
   dsimp only at b;split at b
   case h_2=>cases b
   rename_i fs k;split at b
   case isFalse=>cases b
   rename_i hc;cases b;refine (zR (ho.run _ _ _ eo) (hv.run _ _ _ ev) hs).imp ?_
   rintro D σ H ⟨φ,I,C,q⟩
   refine⟨φ,I,C,λv H1 i A s1 P=>⟨i,I.fw C A,s1,λu H2 S T F w2=>?_⟩⟩;obtain⟨a,O,rfl⟩:=w2;obtain⟨Cl,l,L,J,E,h3,B,y⟩:=F.at_ n a _ O k;obtain⟨w0,hw0⟩:=qcs.mp hc.2;obtain⟨u0,hu0,ru0,p,hp,V⟩:=E.look hw0;have na:=V ▸ y p hp;refine⟨a,Cl,l,L,U,J,B,na,by rw[<-E.length];exact hc.1,?_⟩
   obtain⟨f3,s3⟩:=F.putC (o:=.ins Cl l (fO f v L)) (c:=.o (nZ f (.d x) fs)) O λg=>⟨Cl,l,_,upd_same,(Rfs.put (P.fw s1 T) E).fw F g,(λm hm=>by
    obtain⟨p',t,e'⟩:=qaF.mp hm;rcases n4 t with z|z
    ·exact h3 m (e' ▸ qdW (f:=(·.2)) z)
    ·rw[z]at e';cases e'),B,(λp' t=>by
    rcases n4 t with z|z
    ·exact y p' z
    ·rw[z];exact na)⟩
   exact q σ _ S ((A.trans T).trans f3) (((I.fw C A).fw s1 T).fw F f3) s3
end
section
variable {K:qae}{X:Cx}{pos:Pos}{a e:Expr}{fa:Ef}{af:Af}
def yR (o:Ef) (a:Af):Ef
 |env,st=>(o env st).bind λx=>(a env x.2).bind λr=>match x.1,r.1 with
 |.d (.lst ds),[.d (.int k)]=>(aU ds).bind λns=>if ns.length<=1000 then (ns.idxOf? k).map λj=>(.d (.int (j:Nat)),r.2) else none
 |_,_=>none
def G0 (X:Cx):V->List V->Hp->VK->Prop:=λx xs H Q=>∃ (p:Addr) (ns:List Int) (k:Int) (j:Nat),x=.ref p/\xs=[.int k]/\SqL X.K H p (ns.map V.int)/\ns.length<=1000/\ns.idxOf? k=some j/\Q (.int (j:Nat)) H
theorem Dk:∀ {ns:List Int}{k:Int}{j:Nat},ns.idxOf? k=some j->j<ns.length/\ns[j]?=some k/\∀ i,i<j->ns[i]?≠some k:=by
 intro ns k j h;obtain⟨M,h3,h4⟩:=(qgo.mp h);refine⟨M,by rw[qam M,h3],λi hi z=>?_⟩;rw[qam (qeL hi M)]at z;exact h4 i hi (qaL z)
theorem DK:MtR X "list.index" (G0 X):=by
 intro pins s σ H x xs v us Q I rx rv h;obtain⟨p,ns,k,j,rfl,rfl,F,T,P,q⟩:=h;cases rx;obtain⟨u,rfl,ru⟩:=rv.one;obtain⟨t,rfl⟩:=ru;obtain⟨g,r,pl,hz⟩:=I.list F;obtain⟨j1,W,j3⟩:=Dk P;have A:g.length=ns.length:=by rw[<-r.length,qah]
 have at_:∀ (i:Nat) (hi:i<g.length),∃ t,∃ hn:i<ns.length,g[i]=.int ns[i] t:=λi hi=>by
  obtain⟨h',Y⟩:=r.at i hi;have hn:i<ns.length:=by rw[<-A];exact hi
  rw[(qhK ..)]at Y;obtain⟨t,e'⟩:=Y;exact⟨t,hn,e'⟩
 obtain⟨⟨c,dd,dt,sl⟩,eo,hc,n,hd⟩:=pl.isList;subst hc hd;have E:j<g.length:=by rw[A];exact j1
 refine qcS qfY ⟨_,eo,U⟩ PySem.F.entry_list_index (PySem.F.args_list_index_2 _ _) (qjI p g.toArray n dd sl _ _ j (by simpa using E) (by lia) ?_ (λm hm L=>?_)) ⟨eo,λy hy=>(eq_isInt k t (cy r) y (by simpa using hy)).at _ _,?_⟩
 ·obtain⟨t',hn,e⟩:=at_ j E
  rw[qam hn]at W
  have:g.toArray[j]'(by simpa using E)=.int k t':=by simpa [qaL W] using e
  rw[this];simp[isInt]
 ·have O:=by simpa using hm
  obtain⟨t',hn,e⟩:=at_ m O
  have:g.toArray[m]'hm=.int ns[m] t':=by simpa using e
  rw[this]
  have:=j3 m L
  rw[qam hn]at this;have S:ns[m]≠k:=λz=>this (by rw[z]);simp[isInt,S]
 ·exact⟨.int _,H,I.kept λb o e=>e,⟨_,U⟩,q⟩
theorem qt {w:Pos} (ho:IE K X a fa) (ha:IA K X [e] af) (C:qdb a "index" X.env (eval a X.env)=eval a X.env:=by rfl)
  (l:[e].all az=true:=by rfl) (B:(w.endLine==pos.line)=true:=by rfl) (hK:X.K=K:=by rfl) :
  IE K X (.Call (.Attribute a "index" w) [e] [] pos) (yR fa af):=by
 subst hK;have D:az e=true:=by rw[qbE,qa8]at l;exact l.1
 refine⟨λenv st r f=>?_⟩;simp only[yR,qac]at f;obtain⟨⟨x,s1⟩,hx,⟨ws,s2⟩,hw,f⟩:=f;dsimp only at f;split at f
 case h_2=>cases f
 rename_i ds k;simp only[qac]at f;obtain⟨ns,hns,f⟩:=f;split at f
 case isFalse=>cases f
 rename_i T;obtain⟨j,P,rfl⟩:=qad.mp f;have G:=bg hns;subst G;refine (CL qfZ qfY PySem.F.type_list_index DK (ho.run _ _ _ hx) (ha.run _ _ _ hw) C (ua l (by show 1<30;decide)) B (aT D) (br U)).imp ?_
 rintro σ H Q ⟨φ,hE,hS,q⟩
 refine⟨φ,hE,hS,λv H1 R f1 S1 w1=>?_⟩;obtain⟨p,vs,rfl,h0,F,J⟩:=w1;have ev:=Rls.ints J;subst ev;refine⟨.inl ⟨U,_,.inl F⟩,R,hE.fw hS f1,S1,λus H2 N f2 S2 w2=>?_⟩;obtain⟨y,us',rfl,ry,rfl⟩:=w2;cases (show y=.int k from ry);exact⟨p,ns,k,j,U,U,.inl (F.fw f2 h0),T,P,q _ H2 N (f1.trans f2) S2 U⟩
end
section
variable {K:qae}{H:Hp}{φ ψ:List Addr}{x Cl L:Addr}{xs:List (Str×V)}{o:HO}
theorem Rl.chx (t:H x=some (.ins Cl L xs)) (A:xs.length<=5) (j:∀ a∈ψ,a=x):∀ {d:D}{v:V},Rl K H φ d v->Rl K (upd H x o) (φ++ψ) d v:=by
 have ne:∀ {a:Addr}{u:HO},H a=some u->(∀ C d f,u≠.ins C d f)->a≠x:=λ{a u} h q z=>by
  subst z;rw[t]at h;cases h;exact q _ _ _ U
 have nin:∀ {a:Addr},a≠x->a∉φ->a∉φ++ψ:=λ{a} n h z=>by
  rcases qaR.mp z with z|z
  ·exact h z
  ·exact n (j a z)
 intro d v;refine (?_:∀ v,Rl K H φ d v->Rl K _ _ d v) v;refine D.rec (motive_2:=λds=>∀ g,Rls K H φ ds g->Rls K (upd H x o) (φ++ψ) ds g) ?_ ?_ ?_ ?_ ?_ ?_ ?_ ?_ ?_ ?_ ?_ ?_ d
 ·exact λv h=>h
 ·exact λb v h=>h
 ·exact λb v h=>h
 ·exact λb v h=>h
 ·exact λb v h=>h
 ·rintro v ⟨a,e,hn,h⟩
  rcases h with⟨d,h⟩|⟨d,h⟩
  ·have n:=ne h (by intros;simp)
   exact⟨a,e,nin n hn,.inl ⟨d,by rw[upd_ne n];exact h⟩⟩
  ·have n:=ne h (by intros;simp)
   exact⟨a,e,nin n hn,.inr ⟨d,by rw[upd_ne n];exact h⟩⟩
 ·rintro ns v ⟨a,e,h⟩
  rcases h with⟨ob,h⟩|h
  ·exact⟨a,e,.inl ⟨ob,by rw[upd_ne (ne h (by intros;simp))];exact h⟩⟩
  ·exact⟨a,e,.inr h⟩
 ·rintro ds B v ⟨a,g,rfl,p,s⟩
  exact⟨a,g,U,by rw[upd_ne (ne p (by intros;simp))];exact p,B g s⟩
 ·rintro ds B v ⟨a,g,rfl,F,p,s⟩
  rcases p with p|⟨ob,p⟩
  ·have n:=ne p (by intros;simp)
   exact⟨a,g,U,nin n F,.inl (by rw[upd_ne n];exact p),B g s⟩
  ·have n:=ne p (by intros;simp)
   exact⟨a,g,U,nin n F,.inr ⟨ob,by rw[upd_ne n];exact p⟩,B g s⟩
 ·rintro ns ds B v ⟨a,C',G,fs,g,rfl,F,p,s,Q,O,P,R,N⟩
  have n:a≠x:=λz=>by
   subst z;rw[t]at p;cases p;rw[s,List.length_zip]at A;lia
  exact⟨a,C',G,fs,g,U,nin n F,by rw[upd_ne n];exact p,s,Q,O,P,R,B g N⟩
 ·exact λg h=>h
 ·rintro d ds J I g ⟨v,r,rfl,p,s⟩;exact⟨v,r,U,J v p,I r s⟩
variable (t:H x=some (.ins Cl L xs)) (A:xs.length<=5) (j:∀ a∈ψ,a=x)
include t A j
theorem Rls.chx:∀ {ds:List D}{g:List V},Rls K H φ ds g->Rls K (upd H x o) (φ++ψ) ds g
 |[],_,h=>h
 |d::ds,_,h=>by
  obtain⟨v,r,rfl,p,s⟩:=h;exact⟨v,r,U,Rl.chx t A j p,Rls.chx s⟩
theorem Rw.chx {w:W}{v:V} (h:Rw K H φ w v):Rw K (upd H x o) (φ++ψ) w v:=by
 cases w with
 |d y=>exact Rl.chx t A j h
 |h n=>
  obtain⟨a,e,rfl⟩:=h;exact⟨a,by rw[qaD (qar.mp e).1];exact e,U⟩
theorem Rws.chx:∀ {ds:List W}{g:List V},Rws K H φ ds g->Rws K (upd H x o) (φ++ψ) ds g
 |[],_,h=>h
 |d::ds,_,h=>by
  obtain⟨v,r,rfl,p,s⟩:=h;exact⟨v,r,U,Rw.chx t A j p,Rws.chx s⟩
theorem Rkv.chx:∀ {ds:List (List Int×D)}{g:List (List Key×V)},Rkv K H φ ds g->Rkv K (upd H x o) (φ++ψ) ds g
 |[],_,h=>h
 |(k,d)::ds,_,h=>by
  obtain⟨v,r,rfl,p,s⟩:=h;exact⟨v,r,U,Rl.chx t A j p,Rkv.chx s⟩
theorem Rkk.chx:∀ {ds:List (Int×D)}{g:List (Key×V)},Rkk K H φ ds g->Rkk K (upd H x o) (φ++ψ) ds g
 |[],_,h=>h
 |(k,d)::ds,_,h=>by
  obtain⟨v,r,rfl,p,s⟩:=h;exact⟨v,r,U,Rl.chx t A j p,Rkk.chx s⟩
theorem Rfs.chx:∀ {ds:List (Str×W)}{g:List (Str×V)},Rfs K H φ ds g->Rfs K (upd H x o) (φ++ψ) ds g
 |[],_,h=>h
 |(k,d)::ds,_,h=>by
  obtain⟨v,r,rfl,p,s⟩:=h;exact⟨v,r,U,Rw.chx t A j p,Rfs.chx s⟩
theorem Rc.chx {k:Nat}{a:Addr}{c:C} (E:a≠x) (h:Rc K H φ k a c):Rc K (upd H x o) (φ++ψ) k a c:=by
 cases c with
 |l ds=>obtain⟨g,q,r⟩:=h;exact⟨g,by rw[upd_ne E];exact q,Rls.chx t A j r⟩
 |n ds=>obtain⟨g,q,r,b⟩:=h;exact⟨g,by rw[upd_ne E];exact q,Rws.chx t A j r,b⟩
 |m ds=>obtain⟨g,q,r⟩:=h;exact⟨g,by rw[upd_ne E];exact q,Rkv.chx t A j r⟩
 |k ds=>obtain⟨g,q,r⟩:=h;exact⟨g,by rw[upd_ne E];exact q,Rkk.chx t A j r⟩
 |o ds=>obtain⟨C',d',g,q,r,b⟩:=h;exact⟨C',d',g,by rw[upd_ne E];exact q,Rfs.chx t A j r,b⟩
theorem Er.chx {env:Ev}{M:St} (h:Er K H φ env M):Er K (upd H x o) (φ++ψ) env M:=
 ⟨h.len,λi w e=>let ⟨v,e1,r⟩:=h.at_ i w e;⟨v,e1,Rw.chx t A j r⟩⟩
end
section
variable {K:qae}{H:Hp}{φ:List Addr}{x Cl j:Addr}{xs:List (Str×V)}{o:HO}{st:Sto}
theorem Sr.chx0 (S:Sr K H φ st) (g:H x=some (.ins Cl j xs)) (i:xs.length<=5) (hn:x∉φ):Sr K (upd H x o) φ st:=by
 refine⟨S.nd,S.len,λn a c d e=>?_⟩
 have:=Rc.chx (o:=o) (ψ:=[]) g i (λa z=>nomatch z) (λz=>hn (z ▸ qbr d)) (S.at_ n a c d e)
 rw[(qbl _)]at this;exact this
theorem Sr.chx1 (S:Sr K H φ st) (g:H x=some (.ins Cl j xs)) (i:xs.length<=5) (hn:x∉φ) {c:C} (p:Rc K (upd H x o) (φ++[x]) st.length x c):Sr K (upd H x o) (φ++[x]) (st++[c]):=by
 refine⟨qcx.mpr ⟨S.nd,qch.mpr ⟨qbJ,qc7⟩,λa k b hb z=>by rw[qal.mp hb]at z;exact hn (z ▸ k)⟩,by rw[qaz,qaz,S.len];rfl,λn a m d e=>?_⟩;by_cases h:n<φ.length
 ·rw[qaD h]at d
  rw[qaD (by rw[<-S.len];exact h)]at e;exact Rc.chx g i (λa z=>qal.mp z) (λz=>hn (z ▸ qbr d)) (S.at_ n a m d e)
 ·have l:=(qar.mp d).1
  rw[qaz,qbI]at l;have f:n=φ.length:=by lia
  subst f;rw[qaK (qao _),qfx]at d;rw[S.len,qaK (qao _),qfx]at e;cases d;cases e;rw[S.len];exact p
end
def qD:List (Str×Ef)->Ev->Sto->Option (List (Str×W)×Sto)
 |[],_,st=>some ([],st)
 |(f,g)::r,env,st=>(g env st).bind λx=>(qD r env x.2).map λy=>((f,x.1)::y.1,y.2)
structure FwX (x:Addr) (φ φ':List Addr) (H H':Hp):Prop where
 ext:∃ ψ,φ'=φ++ψ/\∀ a∈ψ,H a=none\/a=x
 keep:∀ b o,b∉φ->b≠x->H b=some o->H' b=some o
 there:∀ b o,H b=some o->∃ o',H' b=some o'
theorem FwX.pre {x:Addr}{φ a i:List Addr}{H H1 H2:Hp}{o m:HO} (r:H x=some m) (hn:x∉a) (f:Fw φ a H H1) (g:FwX x a i (upd H1 x o) H2):FwX x φ i H H2:=by
 obtain⟨ψ,rfl,k⟩:=f.ext;obtain⟨p,rfl,n⟩:=g.ext;have l:∀ b u,H b=some u->∃ d,upd H1 x o b=some d:=λb u h=>by
  by_cases z:b=x
  ·exact⟨o,by rw[z,upd_same]⟩
  ·obtain⟨d,h'⟩:=f.there b u h
   exact⟨d,by rw[upd_ne z];exact h'⟩
 refine⟨⟨_,by rw[qb1],λc j=>?_⟩,λc u j e h=>?_,λc u h=>?_⟩
 ·rcases qaR.mp j with z|z
  ·exact .inl (k c z)
  ·rcases n c z with q|q
   ·left
    cases q':H c with
    |none=>rfl
    |some u=>
     obtain⟨d,h'⟩:=l c u q';rw[q]at h';cases h'
   ·exact .inr q
 ·refine g.keep c u (λz=>?_) e (by rw[upd_ne e];exact f.keep c u j h)
  rcases qaR.mp z with z|z
  ·exact j z
  ·rw[k c z]at h;cases h
 ·obtain⟨d,h'⟩:=l c u h
  exact g.there c d h'
def Ha (K:qae) (g:List (Str×Ef)) (env:Ev) (st:Sto) (y:List (Str×W)×Sto):TS:=λD b H=>∃ φ x Cl c xs fs,Er K H φ env b/\Sr K H φ st/\b[0]?=some (some (.ref x))/\x∉φ/\H x=some (.ins Cl c xs)/\Rfs K H φ fs xs/\
 Cls K Cl/\(∀ p∈fs,cr K Cl p.1)/\(∀ p∈g,cr K Cl p.1)/\fs.length+g.length=6/\(∀ p∈g,p.1∉fs.map (·.1))/\(g.map (·.1)).Nodup/\
 ∀ H' a,FwX x φ a H H'->Sr K H' a (y.2++[.o (fs++y.1)])->a[y.2.length]?=some x->D.nx b H'
structure INI (K:qae) (X:Cx) (ss:List Stmt) (g:List (Str×Ef)):Prop where
 run:∀ env st y,qD g env st=some y->PSs X ss (Ha K g env st y)
section
variable {K:qae}{X:Cx}{e:Expr}{F:Ef}{f:Str}{ss:List Stmt}{g:List (Str×Ef)}{pos c p1:Pos}
theorem sN {env:Ev}{st:Sto}{w:W}{s1:Sto} (S:X.N[0]?=some ("self" : Str)) (N:Vis X.env.scope "self") (P:IE K X e F) (R:F env st=some (w,s1)) (O:X.K=K)
  (M:qct e (some (.Attribute (.Name "self" p1) f c)) pos.line X.env=pure false) :
  PS X (.Assign [.Attribute (.Name "self" p1) f c] e pos) (λD L H=>∃ φ x Cl j xs,Er K H φ env L/\Sr K H φ st/\L[0]?=some (some (.ref x))/\x ∉ φ/\H x=some (.ins Cl j xs)/\Cls K Cl/\cr K Cl f/\xs.length<=5/\f ∉ xs.map (·.1)/\
   ∀ v H1 d,Fw φ d H H1->Sr K H1 d s1->Rw K H1 d w v->x∉d->H1 x=some (.ins Cl j xs)->D.nx L (upd H1 x (.ins Cl j (xs++[(f,v)])))):=by
 subst O;refine (zR (ju S N) (P.run _ _ _ R) M).imp ?_
 rintro D L H ⟨φ,x,Cl,j,xs,G,u,I,C,s,n,E,V,A,q⟩
 refine⟨φ,G,u,λv H1 d l k J=>⟨_,I,x,Cl,j,xs,U,l.keep _ _ C s,n,E,by lia,?_⟩⟩;rw[tZ A];exact q v H1 d l k J (l.nin C s) (l.keep _ _ C s)
theorem Bc (S:X.N[0]?=some ("self" : Str)) (N:Vis X.env.scope "self") (P:IE K X e F) (O:X.K=K:=by rfl)
  (M:qct e (some (.Attribute (.Name "self" p1) f c)) pos.line X.env=pure false:=by rfl):INI K X [.Assign [.Attribute (.Name "self" p1) f c] e pos] [(f,F)]:=by
 refine⟨λenv st y t=>?_⟩;simp only[qD,qac,qap]at t;obtain⟨⟨w,s1⟩,R,t⟩:=t;cases t;refine (wE (sN S N P R O M)).imp ?_
 rintro D L H ⟨φ,x,Cl,j,xs,fs,G,u,I,C,s,n,E,V,A,Y,T,r,q⟩
 have hl:xs.length=5:=by rw[<-n.length];simpa using Y
 have nf:f∉xs.map (·.1):=by rw[n.keys];exact T _ qag
 refine⟨φ,x,Cl,j,xs,G,u,I,C,s,E,A _ qag,by lia,nf,λv H1 d l k J hn i=>?_⟩;have r1:=n.fw u l;have w2:=Rw.chx (o:=.ins Cl j (xs++[(f,v)])) i (by lia) (λa z=>qal.mp z) J
 refine q _ _ ?_ (k.chx1 i (by lia) hn ⟨Cl,j,_,upd_same,Rfs.snoc w2 (Rfs.chx (o:=.ins Cl j (xs++[(f,v)])) (ψ:=[x]) i (by lia) (λa z=>qal.mp z) r1),λm hm=>by rw [<-k.len];exact (Rfs.snoc (f:=f) J r1).mem hm,E,λp B=>by
  rcases qaR.mp B with z|z
  ·exact V p z
  ·rw[qal.mp z];exact A _ qag⟩) (by rw[<-k.len,qaK (qao _),qfx];rfl)
 refine FwX.pre s hn l ⟨⟨_,U,λa z=>.inr (qal.mp z)⟩,λb o _ _ h=>h,λb o h=>⟨o,h⟩⟩
theorem gY (S:X.N[0]?=some ("self" : Str)) (N:Vis X.env.scope "self") (P:IE K X e F) (hr:INI K X ss g) (hg:g≠[]:=by intro z;cases z) (O:X.K=K:=by rfl)
  (M:qct e (some (.Attribute (.Name "self" p1) f c)) pos.line X.env=pure false:=by rfl):INI K X (.Assign [.Attribute (.Name "self" p1) f c] e pos::ss) ((f,F)::g):=by
 refine⟨λenv st y t=>?_⟩;simp only[qD,qac]at t;obtain⟨⟨w,s1⟩,R,t⟩:=t;obtain⟨y',hy',rfl⟩:=qad.mp t;refine (di (sN S N P R O M) (hr.run _ _ _ hy')).imp ?_
 rintro D L H ⟨φ,x,Cl,j,xs,fs,G,u,I,C,s,n,E,V,A,Y,T,r,q⟩
 have hg1:=List.length_pos_iff.mpr hg;have hl:xs.length<=4:=by rw[<-n.length];rw[qaq]at Y;lia
 have nf:f∉xs.map (·.1):=by rw[n.keys];exact T _ qag
 refine⟨φ,x,Cl,j,xs,G,u,I,C,s,E,A _ qag,by lia,nf,λv H1 d l k J hn i=>?_⟩;have r2:=Rfs.chx (o:=.ins Cl j (xs++[(f,v)])) (ψ:=[]) i (by lia) (λa z=>nomatch z) (n.fw u l)
 have w2:=Rw.chx (o:=.ins Cl j (xs++[(f,v)])) (ψ:=[]) i (by lia) (λa z=>nomatch z) J
 have Q:=Er.chx (o:=.ins Cl j (xs++[(f,v)])) (ψ:=[]) i (by lia) (λa z=>nomatch z) (G.fw u l)
 rw[(qbl _)]at r2 w2 Q;rw[qaw,qch]at r;refine⟨d,x,Cl,j,_,_,Q,k.chx0 i (by lia) hn,I,hn,upd_same,Rfs.snoc w2 r2,E,λp B=>?_,λp B=>A p (qaj _ B),by rw[qaz,qbI];rw[qaq]at Y;lia,λp B z=>?_,r.2,λH' φ' fx S' ex=>?_⟩
 ·rcases qaR.mp B with z|z
  ·exact V p z
  ·rw[qal.mp z];exact A _ qag
 ·rw[qbv]at z
  rcases qaR.mp z with z|z
  ·exact T p (qaj _ B) z
  ·rw[qaw,qeE,qal]at z
   exact r.1 (z ▸ qdW B)
 ·rw[qb1]at S'
  exact q H' φ' (FwX.pre s hn l fx) S' ex
end
def Cd (K:qae) (n:Nat) (ps:Nat) (g:List (Str×Ef)):Sp:=λc H Q _=>∃ φ st ws y x b Cl rest H1,c=.ref x::rest/\ws.length+1=ps/\qD g (none::(ws.map some++qaH (n - ps) none)) st=some y/\Rws K H1 φ ws rest/\Sr K H1 φ st/\H1 x=none/\H1 b=none/\b≠x/\
 H=upd (upd H1 b (.own x)) x (.ins Cl b [])/\Cls K Cl/\(∀ p∈g,cr K Cl p.1)/\g.length=6/\(g.map (·.1)).Nodup/\∀ H' a,Fw φ a H1 H'->Sr K H' a (y.2++[.o y.1])->a[y.2.length]?=some x->Q .non H'
theorem Fb {P:qaM}{w:World}{K:qae}{mg:Str->Option Value}{base:Heap}{x c:Str}{st:Stmt}{f:Addr}{fd:qb4}{N ps:List Str}{k:Nat}{g:List (Str×Ef)} (F:Fun K x c st f fd) (S:cp N ps (ar st)) (hN:ps.length<=N.length)
  (hb:∀ (j:Value) (A:qaY) (outer:List Env) (s:qai) (H:Hp) (E:XK),bu k (A.deeper (qez c (ar st) s.heap.objs.size f j))->INI K (fD CX0 P w K mg base N c (ar st) f j A outer s H E).nox (aZ st) g) :
  dD P w K mg base CX0 (k+1) f fd ps (Cd K N.length ps.length g):=by
 refine F.ok S (λV H Q E h=>?_) λj A outer s H V Q E T h=>?_
 ·obtain⟨φ,st,ws,y,x,n,Cl,rest,H1,rfl,t,e,rw,_⟩:=h
  rw[qaq,<-rw.length,t]
 ·obtain⟨φ,M,ws,y,x,n,Cl,rest,H1,rfl,t,e,rw,S',m,hd,l,rfl,R,hA,J,B,q⟩:=h
  refine⟨_,(hb j A outer s _ E T).run _ _ _ e,φ,x,Cl,n,_,[],?_,?_,?_,?_,upd_same,U,R,λp X=>(nomatch X),hA,by simpa using J,λp _ z=>(nomatch z),B,λH' C u S2 ex=>?_⟩
  ·have r:aQ H1 (upd (upd H1 n (.own x)) x (.ins Cl n [])):=(aQ.new hd _).trans (aQ.new (by rw[upd_ne (qbk l)];exact m) _)
   have G:=mV (N:=N) (ws:=.d .non::ws) ⟨_,rest,U,U,(rw.fw S' (Fw.same r))⟩ (by exact t);refine⟨?_,λi w D=>?_⟩
   ·have:=G.len
    unfold iB at this ⊢
    simp at this ⊢
    lia
   ·cases i with
    |zero=>cases D
    |succ i=>
     obtain⟨v,I,L⟩:=G.at_ (i+1) w D;refine⟨v,?_,L⟩;unfold iB at I ⊢;simpa using I
  ·exact S'.same ((aQ.new hd _).trans (aQ.new (by rw[upd_ne (qbk l)];exact m) _))
  ·rfl
  ·exact S'.nin m
  ·refine q H' C ?_ S2 ex
   obtain⟨ψ,rfl,O⟩:=u.ext;have r:aQ H1 (upd (upd H1 n (.own x)) x (.ins Cl n [])):=(aQ.new hd _).trans (aQ.new (by rw[upd_ne (qbk l)];exact m) _);refine⟨⟨ψ,U,λa W=>?_⟩,λb o hb h=>?_,λb o h=>u.there b o (r b o h)⟩
   ·rcases O a W with z|z
    ·cases q':H1 a with
     |none=>rfl
     |some o=>rw[r a o q']at z;cases z
    ·rw[z];exact m
   ·exact u.keep b o hb (λz=>by rw[z,m]at h;cases h) (r b o h)
def oV (n ps:Nat) (g:List (Str×Ef)) (a:Af):Ef
 |env,st=>(a env st).bind λr=>if r.1.length+1=ps then (qD g (none::(r.1.map some++qaH (n - ps) none)) r.2).map λy=>(.h y.2.length,y.2++[.o y.1]) else none
theorem Bb {K:qae}{X:Cx}{x:Str}{k j:Nat}{m Cl:Addr}{fd:qb4}{N ps:List Str}{g:List (Str×Ef)}{p pos:Pos}{e:Expr}{es:List Expr}{l:Af} (M:Mk X.K Cl m) (F:dD X.prog X.w X.K X.mg X.base CX0 j m fd ps (Cd K N.length ps.length g)) (a:j<=k) (D:bu (k+1) X.A) (hg:Gl X x) (hm:X.mg x=some (.ref Cl)) (hb:dc X.K fd ps [])
  (B:Cls K Cl) (hA:∀ p∈g,cr K Cl p.1) (s:g.length=6) (b:(g.map (·.1)).Nodup)
  (L:IA K X (e::es) l) (c:(x==("__debug__" : Str))=false:=by decide) (o:az e=true:=by rfl) (O:es.all az=true:=by rfl) :
  IE K X (.Call (.Name x p) (e::es) [] pos) (oV N.length ps.length g l):=by
 refine⟨λenv st r h=>?_⟩;simp only[oV,qac]at h;obtain⟨y,G,h⟩:=h;split at h
 case isFalse=>cases h
 rename_i t;obtain⟨z,n,rfl⟩:=qad.mp h;refine (BI M (F.mono a) D hg hm hb .nil zB (L.run _ _ _ G) c (aT o) (br O)).imp ?_
 rintro P H Q ⟨φ,C,u,q⟩
 refine⟨φ,C,u,λJ H1 d I s1 E=>λx A w hd f=>?_⟩;rw[qbl];refine⟨d,_,_,z,x,A,Cl,J,H1,U,t,n,E,s1,w,hd,f,U,B,hA,s,b,λH' i v S2 ex=>⟨U,?_⟩⟩;exact q _ H' i (I.trans v) S2 ⟨x,ex,U⟩
def vwF (st:Sto):List (Str×W)->Option (List D)
 |[]=>some []
 |(_,.d x)::r=>(vwF st r).map λy=>x::y
 |(_,.h m)::r=>(lg st m).bind λds=>(vwF st r).map λy=>.lst ds::y
def vwW (st:Sto):W->Option W
 |.d x=>some (.d x)
 |.h n=>match st[n]? with
  |some (.o fs)=>if 5<fs.length then (vwF st fs).map λds=>.d (.ob (fs.map (·.1)) ds) else none
  |some (.l ds)=>some (.d (.lst ds))
  |_=>none
def vwA (st:Sto):List W->Option (List W)
 |[]=>some []
 |w::ws=>(vwW st w).bind λx=>(vwA st ws).map λy=>x::y
mutual
def okT:D->Bool
 |.non=>true
 |.bl _=>true
 |.int _=>true
 |.str _=>true
 |.tup ds=>uY ds
 |_=>false
def uY:List D->Bool
 |[]=>true
 |d::ds=>okT d&&uY ds
end
section
variable {K:qae}{H:Hp}{φ φ':List Addr}
mutual
theorem Rl.any:∀ {d:D}{v:V},okT d=true->Rl K H φ d v->Rl K H φ' d v
 |.non,_,_,h=>h
 |.bl _,_,_,h=>h
 |.int _,_,_,h=>h
 |.str _,_,_,h=>h
 |.tup ds,_,o,h=>by
  obtain⟨a,vs,rfl,h1,h2⟩:=h;exact⟨a,vs,U,h1,Rls.any (by rw[okT]at o;exact o) h2⟩
 |.ty _,_,o,_=>by rw[okT]at o<;>first|cases o|(intros;simp)
 |.dct,_,o,_=>by rw[okT]at o<;>first|cases o|(intros;simp)
 |.scr _,_,o,_=>by rw[okT]at o<;>first|cases o|(intros;simp)
 |.lst _,_,o,_=>by rw[okT]at o<;>first|cases o|(intros;simp)
 |.ob _ _,_,o,_=>by rw[okT]at o<;>first|cases o|(intros;simp)
theorem Rls.any:∀ {ds:List D}{vs:List V},uY ds=true->Rls K H φ ds vs->Rls K H φ' ds vs
 |[],_,_,h=>h
 |d::ds,_,o,h=>by
  rw[uY,qa8]at o;obtain⟨v,r,rfl,h1,h2⟩:=h;exact⟨v,r,U,Rl.any o.1 h1,Rls.any o.2 h2⟩
end
theorem Rl.bare {d:D}{v:V} (h:Rl K H φ d v):Rl K H [] d v:=Rl.less h
theorem Rls.bare {d:List D}{v:List V} (h:Rls K H φ d v):Rls K H [] d v:=Rls.less h
theorem pv:∀ {fs:List (Str×W)}{vs:List (Str×V)},Rfs K H φ fs vs->vs=(fs.map (·.1)).zip (vs.map (·.2))
 |[],vs,r=>by cases r;rfl
 |(n,x)::fs,vs,r=>by
  obtain⟨v,t,rfl,g,j⟩:=r;rw[qaw,qaw,qdn,<-pv j]
theorem rQ {st:Sto} (S:Sr K H φ st):∀ {fs:List (Str×W)}{vs:List (Str×V)}{ds:List D},Rfs K H φ fs vs->vwF st fs=some ds->Rls K H [] ds (vs.map (·.2))
 |[],vs,ds,r,h=>by cases r;cases h;rfl
 |(n,.d x)::fs,vs,ds,r,h=>by
  obtain⟨v,t,rfl,g,j⟩:=r;obtain⟨y,s,rfl⟩:=qad.mp h;exact⟨v,_,U,Rl.bare g,rQ S j s⟩
 |(n,.h m)::fs,vs,ds,r,h=>by
  obtain⟨v,t,rfl,g,j⟩:=r;obtain⟨es,E,h⟩:=qac.mp h;obtain⟨y,s,rfl⟩:=qad.mp h;obtain⟨a,l,rfl⟩:=g;obtain⟨k,B,u⟩:=S.atl m a es l E;exact⟨_,_,U,⟨a,k,U,qbJ,.inl B,Rls.bare u⟩,rQ S j s⟩
theorem wU {st:Sto} (S:Sr K H φ st):∀ {ws:List W}{vs:List V}{e:List W},Rws K H φ ws vs->vwA st ws=some e->Rws K H [] e vs
 |[],vs,e,r,h=>by cases h;exact r
 |w::ws,vs,e,r,h=>by
  obtain⟨v,t,rfl,g,j⟩:=r;obtain⟨x,c,h⟩:=qac.mp h;obtain⟨y,s,rfl⟩:=qad.mp h;refine⟨v,t,U,?_,wU S j s⟩;cases w with
  |d z=>cases c;exact Rl.bare g
  |h n=>
   unfold vwW at c;dsimp only at c;split at c
   ·rename_i fs A
    split at c
    ·rename_i G
     obtain⟨ds,i,rfl⟩:=qad.mp c;obtain⟨a,l,rfl⟩:=g;obtain⟨Cl,I,k,q,C,b,J,hA⟩:=S.at_ n a _ l A;refine⟨a,Cl,I,k,_,U,qbJ,q,pv C,by rw[qah,qah,C.length],by rw[qah];exact G,J,λf F=>?_,rQ S C i⟩;obtain⟨p,L,rfl⟩:=qaF.mp F;exact hA p L
    ·cases c
   ·rename_i ds i
    cases c;obtain⟨a,l,rfl⟩:=g;obtain⟨k,B,u⟩:=S.at_ n a _ l i;exact⟨a,k,U,qbJ,.inl B,Rls.bare u⟩
   ·cases c
end
def cY (m:Fn) (a:Af):Ef
 |env,st=>(a env st).bind λr=>(vwA r.2 r.1).bind λws=>(m ws []).bind λy=>match y.1 with
 |.d x=>if okT x=true then some (.d x,r.2) else none
 |_=>none
theorem yW {K:qae}{X:Cx}{e:Expr}{es:List Expr}{pos:Pos}{t:Af}{x:Str}{k j:Nat}{g:Addr}{fd:qb4}{ps:List Str}{m:Fn}{p:Pos} (F:dD X.prog X.w X.K X.mg X.base CX0 j g fd ps (spI K m)) (f:j<=k) (L:bu k X.A) (hg:Gl X x) (hm:X.mg x=some (.ref g)) (S:qcz X.K (.ref g)=true) (hb:dc X.K fd ps [])
  (P:IA K X (e::es) t) (i:(x==("__debug__" : Str))=false:=by decide) (B:az e=true:=by rfl) (R:es.all az=true:=by rfl) :
  IE K X (.Call (.Name x p) (e::es) [] pos) (cY m t):=by
 refine⟨λenv st r h=>?_⟩;simp only[cY,qac]at h;obtain⟨y,N,ws,s,⟨w,T⟩,A,h⟩:=h;cases w with
 |h n=>cases h
 |d z=>
  dsimp only at h;split at h
  case isFalse=>cases h
  rename_i hok;cases h;refine (wA (F.mono f) L hg hm S hb .nil zB (P.run _ _ _ N) i (aT B) (br R)).imp ?_
  rintro V H Q ⟨φ,J,D,q⟩
  refine⟨φ,J,D,λW H1 l O s1 M=>?_⟩;show spI K m _ H1 Q E0;rw[qbl];refine⟨_,_,ws,_,A,wU s1 M s,⟨qc7,U,λn a c E _=>by cases E⟩,λv H2 G I C w2=>?_⟩;have u:=λb o h=>I.keep b o qbJ h;exact q v H2 l (O.trans (Fw.same u)) (s1.same u) (Rl.any hok w2)
theorem Rls.flat {K:qae}{H H':Hp}{φ c:List Addr}:∀ {ds:List D}{e:List V},ds.all cC=true->Rls K H φ ds e->Rls K H' c ds e
 |[],_,_,h=>h
 |d::ds,_,o,h=>by
  rw[qbE,qa8]at o;obtain⟨v,r,rfl,a,f⟩:=h;refine⟨v,r,U,?_,Rls.flat o.2 f⟩;cases d with
  |non=>exact a
  |bl b=>exact a
  |int b=>exact a
  |str b=>exact a
  |_=>exact absurd o.1 (by simp[cC])
def i3 (b f h e g:Nat) (fl:Lf):Sf
 |env,st=>(fl env st).bind λr=>match env.getD f none,env.getD h none,env.getD e none,env.getD g none with
 |some (.d (.int p)),some (.d (.int c)),some (.d (.lst ts)),some (.d a)=>(ixN r.1.length p).bind λj=>(ixN ts.length c).bind λi=>if ts.length<=1000000/\b<env.length/\ts.all cC=true then some (.nx (env.set b (some (.d (.lst (r.1.set j (.lst (ts.set i a))))))) r.2) else none
 |_,_,_,_=>none
theorem lK {env:Ev}{i:Nat}{w:W} (h:env.getD i none=some w):env[i]?=some (some w):=by
 rw[qfQ]at h;cases q:env[i]? with
 |none=>rw[q]at h;cases h
 |some o=>rw[q]at h;rw[show o=some w from h]
theorem Bf {α:Type}{xs:List α}{i:Int}{j:Nat}{v:α} (h:ixN xs.length i=some j) (a:xs[j]?=some v):atI xs i=some v:=by
 unfold atI;rw[h];exact a
theorem Dw {n:Nat}{i:Int}{j:Nat} (h:ixN n i=some j):j<n:=(l9 h).2.1
structure ISL (K:qae) (X:Cx) (s:Stmt) (i0:Nat) (fl:Lf):Prop where
 run:∀ env st r,fl env st=some r->PS X s (λD σ H=>∃ φ,Er K H φ env σ/\Sr K H φ st/\∀ a vs H1 φ',Fw φ φ' H H1->Sr K H1 φ' r.2->H1 a=none->Rls K H1 φ' r.1 vs->D.nx (σ.set i0 (some (.ref a))) (upd H1 a (.lst vs)))
theorem Dr {K:qae}{X:Cx}{pos:Pos}{n:Expr}{b:Scope}{Nc:List Str}{k:Nat}{js:List Nat}{h iter:Expr}{f:List Expr}{y:Lf}{g:Tg}{tt:Tf}{te:Ef}{A:Nat}{i:Str}{z e:Pos}
  (w:X.N.Nodup) (t:X.N[A]?=some i) (u:Loc X.env.scope i) (S:dE X b Nc (fE k js)) (M:X.calm=true) (p:∀ j∈sK g,j<k) (hi:II K X n iter y)
  (hg:∀ a s H C c,PG (lcX X b a Nc s H C c) n (tG K g)) (I:∀ a s H C c,ITs K (lcX X b a Nc s H C c) f tt) (F:∀ a s H C c,IE K (lcX X b a Nc s H C c) h te)
  (hsw:qct (.ListComp h [⟨n,iter,f,0⟩] b pos) (some (.Name i z)) e.line X.env=pure true:=by rfl)
  (v:X.fn i=true\/X.env.scope.names.lookup i=some .local:=by first|exact .inl U|exact .inr U|assumption)
  (B:∀ x,qbW iter X.env x=pure x:=by intro _;rfl):ISL K X (.Assign [.Name i z] (.ListComp h [⟨n,iter,f,0⟩] b pos) e) A (iLc k js y g tt te):=by
 refine⟨λenv st r m=>?_⟩;simp only[iLc,qac]at m;obtain⟨⟨ds,s1⟩,J,m⟩:=m;have d:=m;by_cases o:¬ ds.length<=1000000
 ·rw[iFN o]at d;cases d
 have l:ds.length<=1000000:=by lia
 rw[iFP l]at d;refine (CO w t u S M (hi.run _ _ _ J) hg (λa s H C c=>(I a s H C c).run) (λa s H C c=>(F a s H C c).any) hsw v B).imp ?_
 rintro D L H ⟨φ,G,E,q⟩
 exact uN p l d L H _ ⟨φ,G,E,q⟩
section
variable {K:qae}{X:Cx}{s1':Stmt}{m x F E G:Str}{l W Y R T:Nat}{comp:Expr}{fl:Lf}{ss:List Stmt}{gb:Sf}{p1 p2 p3 p4 p5 p6 p7 p8 p9 q1 q2 q3 q4 q5 q6 q7:Pos}
theorem iK (hN:X.N.Nodup) (nl:X.N[l]?=some m) (np:X.N[W]?=some x) (nc:X.N[Y]?=some F) (nt:X.N[R]?=some E) (na:X.N[T]?=some G)
  (ll:Loc X.env.scope m) (vl:Vis X.env.scope m) (vp:Vis X.env.scope x) (vc:Vis X.env.scope F) (vt:Vis X.env.scope E) (va:Vis X.env.scope G) (d1:l≠W) (d2:l≠Y) (d3:l≠R) (d4:l≠T)
  (bl:(m==("__debug__" : Str))=false) (bp:(x==("__debug__" : Str))=false) (bc:(F==("__debug__" : Str))=false) (bt:(E==("__debug__" : Str))=false) (ba:(G==("__debug__" : Str))=false)
  (el:(m==("__classdict__" : Str))=false) (ep:(x==("__classdict__" : Str))=false) (ec:(F==("__classdict__" : Str))=false) (et:(E==("__classdict__" : Str))=false) (ea:(G==("__classdict__" : Str))=false)
  (L:ISL K X s1' l fl) (hgL:Gl X "list") (hmL:X.mg "list" = none) (M:ISs K X ss gb)
  (hs2:qdF [.Subscript (.Name m p3) (.Name x p4) p5] (.Call (.Name "list" p6) [.Name E p7] [] p8) p9.line X.env=pure false) (hw2:qdG [.Subscript (.Name m p3) (.Name x p4) p5] (.Call (.Name "list" p6) [.Name E p7] [] p8) X.env=pure none)
  (hs3:qdF [.Subscript (.Subscript (.Name m q1) (.Name x q2) q3) (.Name F q4) q5] (.Name G q6) q7.line X.env=pure false) (hw3:qdG [.Subscript (.Subscript (.Name m q1) (.Name x q2) q3) (.Name F q4) q5] (.Name G q6) X.env=pure none) (hK:X.K=K) :
  ISs K X (s1'::.Assign [.Subscript (.Name m p3) (.Name x p4) p5] (.Call (.Name "list" p6) [.Name E p7] [] p8) p9::.Assign [.Subscript (.Subscript (.Name m q1) (.Name x q2) q3) (.Name F q4) q5] (.Name G q6) q7::ss) (ag (i3 l W Y R T fl) gb):=by
 subst hK;refine⟨λenv st r hr=>?_⟩;simp only[ag,i3,qac]at hr;obtain⟨r1,⟨⟨ds,s1⟩,hfl,g⟩,hr⟩:=hr;split at g
 case h_2=>cases g
 rename_i p c ts a hp hc ht ha';simp only[qac]at g;obtain⟨j,hj,i,hi,g⟩:=g;split at g
 case isFalse=>cases g
 rename_i hz;cases g;have pl:∀ {q:Pos},PE X (.Name m q) (ud l):=λ{q}=>ju nl vl bl el;have pp:∀ {q:Pos},PE X (.Name x q) (ud W):=λ{q}=>ju np vp bp ep;have pc:∀ {q:Pos},PE X (.Name F q) (ud Y):=λ{q}=>ju nc vc bc ec;have pt:∀ {q:Pos},PE X (.Name E q) (ud R):=λ{q}=>ju nt vt bt et;have pa:∀ {q:Pos},PE X (.Name G q) (ud T):=λ{q}=>ju na va ba ea
 refine (di (L.run _ _ _ hfl) (di (nY (c8 ((iF (K:=X.K) U).run s1 [.d (.lst ts)] ts U) hgL hmL qaU (mh pt rq) (by decide) (by decide)) (rs pl pp kf (lC U)) hs2 hw2 (jw U))
  (di (nY pa (rs (zE qP pl pp (nr U)) pc kf (lC U)) hs3 hw3 (jw U)) (M.run _ _ _ hr)))).imp ?_
 rintro D σ H ⟨φ,hE,hS,q⟩
 refine⟨φ,hE,hS,λy vs H1 t f1 S1 A rl=>?_⟩;have s:=hE.fw hS f1;obtain⟨vp',gp,rp⟩:=s.at_ W _ (lK hp);obtain⟨vc',gc,rc⟩:=s.at_ Y _ (lK hc);obtain⟨vt',gt,rt⟩:=s.at_ R _ (lK ht);obtain⟨J,ga,ra⟩:=s.at_ T _ (lK ha');subst rp rc;have f:∀ {k:Nat}{u:V}{v:V},l≠k->σ[k]?=some _->(σ.set l (some v))[k]?=some (some u):=λ{k u v} h e=>by rw[qbB h];exact e
 -- the list's line
 refine⟨_,f d3 gt,t,S1.new A,⟨vt',_,U,?_,U⟩,λbl O H2 sm N ru=>?_⟩
 ·exact (Rl.fw S1 (Fw.new A) rt)
 have I:=sm _ _ upd_same;have B:=aK I N;have n:=rl.length.symm;have S:(σ.set l (some (.ref y)))[l]?=some (some (.ref y)):=by
  rw[qbq];rw[<-hE.len];exact hz.2.1
 refine⟨_,S,_,f d1 gp,y,vs,p,j,U,U,by rw[upd_ne B];exact I,by rw[n];exact hj,?_⟩;have hjl:j<vs.length:=by rw[n];exact Dw hj
 refine⟨_,f d4 ga,_,S,_,f d1 gp,.inl ⟨y,_,p,.ref bl,U,U,SqL.of upd_same,Bf (j:=j) (by rw[qb5,n];exact hj) (by rw[qbq hjl]),?_⟩⟩;refine⟨_,f d2 gc,bl,O,c,i,U,U,by rw[upd_ne (qbk B),upd_same],by rw[ru.length.symm];exact hi,?_⟩;have P:aQ H1 (upd (upd (upd H2 bl (.lst O)) y (.lst (vs.set j (.ref bl)))) bl (.lst (O.set i J))):=λb o h=>by
  have e1:b≠y:=λz=>by rw[z,A]at h;cases h
  have Q:=sm b o (by rw[upd_ne e1];exact h);have e2:b≠bl:=λz=>by rw[z,N]at Q;cases Q
  rw[upd_ne e2,upd_ne e1,upd_ne e2];exact Q
 dsimp only;generalize hH:upd (upd (upd H2 bl (.lst O)) y (.lst (vs.set j (.ref bl)))) bl (.lst (O.set i J))=H5 at P ⊢;have ha5:H5 y=some (.lst (vs.set j (.ref bl))):=by rw[<-hH,upd_ne B,upd_same]
 have hb5:H5 bl=some (.lst (O.set i J)):=by rw[<-hH,upd_same]
 have C:Fw t t H1 H5:=Fw.same P;have ru5:Rls X.K H5 t ts O:=Rls.flat hz.2.2 ru;refine⟨t,(s.fw S1 C).set l (w:=.d (.lst (ds.set j (.lst (ts.set i a))))) ?_,S1.same P,?_⟩
 ·exact⟨y,_,U,(S1.nin A),.inl ha5,Rls.set j (rl.fw S1 C) ⟨bl,_,U,(λz=>by
  obtain⟨o,ho,_⟩:=S1.lst z
  have:bl≠y:=qbk B
  have Q:H2 bl=some o:=sm bl o (by rw[upd_ne this];exact ho)
  rw[N]at Q;cases Q),.inl hb5,Rls.set i ru5 (Rl.fw S1 C ra)⟩⟩
 ·exact q.fw (f1.trans C)
end
section
variable {K:qae}{X:Cx}
def ER (_ j:Int):Prop:=0<j/\j.natAbs.log2<9000
theorem zA:OpR X (qbH .FloorDiv) (rI ER λi j=>.int (i / j)):=opI λi j _ _ _ _ _ B q=>by
 obtain⟨h0,h1⟩:=B;exact floordiv_int (by lia) (by rw[qd6 i (by lia)];exact q) (.inl (PyProof.noPylong_of_log2 h1))
def qe (_:Sto):W->W->Option D
 |.d (.int i),.d (.int j)=>if 0<j/\j.natAbs.log2<9000 then some (.int (i / j)) else none
 |_,_=>none
theorem qX:OpD K X (qbH .FloorDiv) qe:=gH (λ_ _ _=>rfl) λi j d h=>by obtain⟨c,rfl⟩:=ifS h;exact⟨zA.imp λ_ _ _ _ q=>⟨i,j,q.1,q.2.1,c,q.2.2⟩,U⟩
theorem y7:bE X (.type "range") (λxs H Q=>∃ i j:Int,xs=[.int i,.int j]/\∀ p,H p=none->Q (.ref p) (upd H p (.rng i j))):=by
 intro G s σ H xs us Q I R h;obtain⟨i,j,rfl,q⟩:=h;cases R with
 |cons r F=>
  cases F with
  |cons r' F=>
   cases F;obtain⟨t,rfl⟩:=r;obtain⟨t',rfl⟩:=r';exact call_range_2 ⟨.ref _,_,I.laid (o:=.rng i j) (λ_ _ q=>qaf _ q) (qao _) ⟨_,_,_,qas _ U⟩,U,q _ I.fresh⟩
theorem y3 {acc:Array Value}{lo:Int}{n:Nat} (h:ItemsOf (λi v=>∃ t,v=Value.int (lo+(i:Int)*1) t) acc n):aH ((qak n).map λk:Nat=>V.int (lo+k)) acc.toList:=by
 obtain⟨hz,hi⟩:=h;have M:∀ (l:List Value) (k:Nat),(∀ j v,l[j]?=some v->∃ t,v=Value.int (lo+((k+j:Nat))) t)->aH ((qeU k l.length).map λk:Nat=>V.int (lo+k)) l:=by
  intro l
  induction l with
  |nil=>intro k _;exact .nil
  |cons x l ih=>
   intro k h;obtain⟨t,e⟩:=h 0 x U;refine .cons ⟨t,e⟩ (ih _ λj v P=>?_);obtain⟨t,e⟩:=h (j+1) v (by simpa using P);exact⟨t,by rw[e,show k+_=k+1+j by lia]⟩
 have:=M acc.toList 0 λj v P=>by
  obtain⟨t,e⟩:=hi j v (by simpa using P);exact⟨t,by rw[e,qcX,qbh]⟩
 rw[qgQ];rw[qcy,hz]at this;exact this
theorem v4 (B:X.calm=true:=by rfl):bE X (.type "list") (λxs H Q=>∃ (p:Addr) (lo:Int) (n:Nat),xs=[.ref p]/\H p=some (.rng lo (lo+(n:Int)))/\n<=1000/\-1000000<=lo/\lo<=1000000/\∀ l,H l=none->Q (.ref l) (upd H l (.lst ((qak n).map λk:Nat=>V.int (lo+k))))):=by
 intro G s σ H xs us Q I R h;obtain⟨p,lo,n,rfl,C,hn,l1,l2,q⟩:=h;cases R with
 |cons r F=>
  cases F;cases r;obtain⟨t,u,v,e⟩:=I.hok p _ C;refine call_list_range (I.ok.hd B) e ?_ (n:=n) ?_ (by lia) λh' tk acc c kp e' J=>?_
  ·have fl:∀ z ,-2000000<=z->z<=2000000->qeS z=true:=λz h1 h2=>by
    unfold qeS;simp only[qa8,decide_eq_true_eq];omega
   have hsz:qfi lo (lo+(n)) 1=(n):=by rw[qha];split<;>lia
   unfold qiI;rw[hsz];simp[fl lo (by lia) (by lia),fl (lo+(n)) (by lia) (by lia),fl 1 _ _,fl (n) _ (by lia)]
  ·rw[qha];split<;>lia
  ·exact⟨.ref s.heap.objs.size,_,I.laid kp (qao _) (show cm X.prog X.w _ h' _ (.lst _) from ⟨by rw[qah,qat];exact iW hn,acc.toList,c,y3 J,by simpa using e'⟩),U,q _ (I.hok.fresh (qao _))⟩
def lA (a:Af):Lf
 |env,st=>(a env st).bind λr=>match r.1 with
 |[.d (.int j)]=>if 0<=j/\j<=1000 then some (bf 0 j.toNat,r.2) else none
 |_=>none
def qp (a:Af):Lf
 |env,st=>(a env st).bind λr=>match r.1 with
 |[.d (.int i),.d (.int j)]=>if 0<=j - i/\j - i<=1000/\-1000000<=i/\i<=1000000 then some (bf i (j - i).toNat,r.2) else none
 |_=>none
theorem Rls.rng {H:Hp}{φ:List Addr} (lo:Int) (n:Nat):Rls K H φ (bf lo n) ((qak n).map λk:Nat=>V.int (lo+k)):=by
 have:bf lo n=((qak n).map λk:Nat=>lo+(k)).map D.int:=by rw[qaO];rfl
 rw[this,show ((qak n).map λk=>V.int _)=((qak n).map λk=>lo+_).map V.int by rw[qaO];rfl];exact Rls.of_ints _
variable {a b:Expr}{L:Af}{p1 p2 p3 p4:Pos}
theorem nh (y:Gl X "list") (g:X.mg "list" = none) (m:Gl X "range") (E:X.mg "range" = none) (ha:IA K X [a] L) (B:X.calm=true:=by rfl) (N:az a=true:=by rfl) :
  IL K X (.Call (.Name "list" p1) [.Call (.Name "range" p2) [a] [] p3] [] p4) (lA L):=by
 refine⟨λenv st r f=>?_⟩;simp only[lA,qac]at f;obtain⟨⟨ws,s1⟩,hw,f⟩:=f;dsimp only at f;split at f
 case h_2=>cases f
 rename_i j;split at f
 case isFalse=>cases f
 rename_i hj;cases f;refine (c8 (v4 B) y g qaU (mh (c8 Bh m E qfl (ha.run _ _ _ hw) (by decide) (by decide) (aT N) (br U)) rq (aT U)) (by decide) (by decide) (aT U) (br U)).imp ?_
 rintro σ H Q ⟨φ,Y,S,q⟩
 refine⟨φ,Y,S,λvs H1 A f1 w w1=>?_⟩;obtain⟨v,r,rfl,T,rfl⟩:=w1;subst T;refine⟨j,U,λp C=>⟨p,0,j.toNat,U,?_,by lia,by lia,by lia,λl O=>?_⟩⟩
 ·rw[upd_same,qbV,Int.toNat_of_nonneg hj.1]
 ·exact q l _ _ A (f1.trans (Fw.new C)) (w.new C) O (Rls.rng 0 j.toNat)
theorem ni (y:Gl X "list") (g:X.mg "list" = none) (m:Gl X "range") (E:X.mg "range" = none) (ha:IA K X [a,b] L) (B:X.calm=true:=by rfl) (N:az a=true:=by rfl) (hs2:az b=true:=by rfl) :
  IL K X (.Call (.Name "list" p1) [.Call (.Name "range" p2) [a,b] [] p3] [] p4) (qp L):=by
 refine⟨λenv st r f=>?_⟩;simp only[qp,qac]at f;obtain⟨⟨ws,s1⟩,hw,f⟩:=f;dsimp only at f;split at f
 case h_2=>cases f
 rename_i i j;split at f
 case isFalse=>cases f
 cases f;refine (c8 (v4 B) y g qaU (mh (c8 y7 m E qfl (ha.run _ _ _ hw) (by decide) (by decide) (aT N) (br (by rw[qbE,hs2];rfl))) rq (aT U)) (by decide) (by decide) (aT U) (br U)).imp ?_
 rintro σ H Q ⟨φ,Y,S,q⟩
 refine⟨φ,Y,S,λvs H1 A f1 w w1=>?_⟩;obtain⟨v,r,rfl,T,u,r',rfl,r2,rfl⟩:=w1;subst T r2;refine⟨i,j,U,λp C=>⟨p,i,(j - i).toNat,U,?_,by lia,by lia,by lia,λl O=>?_⟩⟩
 ·rw[upd_same,show i+_=j by lia]
 ·exact q l _ _ A (f1.trans (Fw.new C)) (w.new C) O (Rls.rng i (j - i).toNat)
end
def Db (_:Sto):List W->Option D
 |[.d (.tup ds)]=>(aU ds).map λns=>.bl (ns.any λn=>decide (n≠0))
 |_=>none
section
variable {K:qae}{X:Cx}
theorem xq:bE X (.builtin "any") (λxs H Q=>X.calm=true/\∃ (a:Addr) (ns:List Int),xs=[.ref a]/\H a=some (.tup (ns.map V.int))/\Q (.bl (ns.any λn=>decide (n≠0))) H):=by
 intro B s T H xs L Q I k h;obtain⟨y,a,bs,rfl,D,q⟩:=h;obtain⟨P,rfl,w⟩:=fT k;cases w;obtain⟨z,l,k,p⟩:=(I.hok a _ D);have pt:=p.tup;have j:=by have:=k.length;simpa using this.symm
 refine call_any_walk (qc0 pt ?_);refine⟨s.heap.objs.size,_,_,_,_,_,λi=>decide ((bs[i]?).getD 0≠0),U,Walks.tuple (A:=X.A.in1) (I.ok.hd y) s.heap.objs.size a (qax (let ⟨_,e,_⟩:=p;qau e)) l.toArray,⟨⟨_,qas _ U,U,U⟩,pt.push _⟩,?_,λh' O N=>?_⟩
 ·intro i v s' Q' E' E m
  have f:=by simpa using E
  have hi:=(qar.mp f).1;obtain⟨b,hb⟩:∃ b,bs[i]?=some b:=⟨bs[i]'(by lia),by simp[show i<bs.length by lia]⟩
  have:(bs.map V.int)[i]?=some (.int b):=by rw[qaA,hb];rfl
  obtain⟨u,C,G⟩:=k.get this;rw[f]at C;cases C;obtain⟨t,rfl⟩:=G;have c:Q' (decide _) s':=m;rw[hb]at c;refine qjq ?_;have e:(b != 0)=decide (b≠0):=by
   by_cases h:b=0
   ·subst h;rfl
   ·rw[decide_eq_true h];simpa using h
  rw[e];exact c
 ·refine⟨_,H,I.kept (λb o e=>N b o (λz=>absurd (qau e) (by rw[qal.mp z];exact qa2 _)) (qaf _ e)),?_,q⟩
  congr 1
  have:∀ n,n=bs.length->((qak n).any λi=>decide ((bs[i]?).getD 0≠0))=bs.any λn=>decide (n≠0):=by
   intro n hn;subst hn;apply qeG.mpr;rw[qer,qer];constructor
   ·rintro⟨i,hi,h⟩
    have g:=qaN.mp hi;refine⟨_,qbQ g,?_⟩;rw[qam g]at h;exact h
   ·rintro⟨x,J,h⟩
    obtain⟨i,hi,rfl⟩:=List.getElem_of_mem J;refine⟨i,qaN.mpr hi,?_⟩;rw[qam hi];exact h
  exact this _ (by simpa using j)
theorem pV (y:X.calm=true:=by rfl) (R:X.K=K:=by rfl):eG K X (.builtin "any") Db:=by
 refine⟨λst ws d h=>?_⟩
 match ws,h with
 |[.d (.tup ds)],h=>
  obtain⟨ns,e,rfl⟩:=qad.mp h;cases bg e;refine bE.imp xq ?_
  rintro W H Q ⟨φ,S,⟨v,r,rfl,⟨a,L,rfl,M,F⟩,rfl⟩,q⟩
  cases F.ints;exact⟨y,a,ns,U,M,q _ H (aQ.refl H) U⟩
end
section
variable {K:qae}{X:Cx}
end
structure Cal (P:qaM) (w:World) (K:qae) (mg:Str->Option Value) (base:Heap) (x:Str) (j:Nat) (m:Fn):Prop where
 ex:∃ ff fd ps,dD P w K mg base CX0 j ff fd ps (spI K m)/\mg x=some (.ref ff)/\qcz K (.ref ff)=true/\dc K fd ps []
section
variable {P:qaM}{w:World}{K:qae}{mg:Str->Option Value}{base:Heap}{x a:Str}{st:Stmt}{f:Addr}{fd:qb4}{N ps:List Str}{k j:Nat}{b:Sf}{m:Fn}
theorem vH (F:Fun K x a st f fd) (S:cp N ps (ar st))
  (hb:∀ (d:Value) (A:qaY) (outer:List Env) (s:qai) (H:Hp) (E:XK),bu k (A.deeper (qez a (ar st) s.heap.objs.size f d))->(fD CX0 P w K mg base N a (ar st) f d A outer s H E).nox.N=N->(fD CX0 P w K mg base N a (ar st) f d A outer s H E).nox.env.scope.names=(ar st).names->N.Nodup->ISs K (fD CX0 P w K mg base N a (ar st) f d A outer s H E).nox (aZ st) b) :
  dD P w K mg base CX0 (k+1) f fd ps (spI K (fA N.length ps.length b)):=Fd F S λc A o s H E r=>hb c A o s H E r U U S.nd
theorem E6 (F:Fun K x a st f fd) (S:cp N ps (ar st)) (hm:mg x=some (.ref f)) (i:dc K fd ps [])
  (hb:∀ (d:Value) (A:qaY) (outer:List Env) (s:qai) (H:Hp) (E:XK),bu k (A.deeper (qez a (ar st) s.heap.objs.size f d))->(fD CX0 P w K mg base N a (ar st) f d A outer s H E).nox.N=N->(fD CX0 P w K mg base N a (ar st) f d A outer s H E).nox.env.scope.names=(ar st).names->N.Nodup->ISs K (fD CX0 P w K mg base N a (ar st) f d A outer s H E).nox (aZ st) b) :
  Cal P w K mg base x (k+1) (bi N.length ps.length b):=⟨_,_,_,GH F S λc A o s H E r=>hb c A o s H E r U U S.nd,hm,F.kp,i⟩
theorem E7 (F:Fun K x a st f fd) (S:cp N ps (ar st)) (hm:mg x=some (.ref f)) (i:dc K fd ps [])
  (hb:∀ (d:Value) (A:qaY) (outer:List Env) (s:qai) (H:Hp) (E:XK),bu k (A.deeper (qez a (ar st) s.heap.objs.size f d))->(fD CX0 P w K mg base N a (ar st) f d A outer s H E).nox.N=N->(fD CX0 P w K mg base N a (ar st) f d A outer s H E).nox.env.scope.names=(ar st).names->N.Nodup->ISs K (fD CX0 P w K mg base N a (ar st) f d A outer s H E).nox (aZ st) b) :
  Cal P w K mg base x (k+1) (fA N.length ps.length b):=⟨_,_,_,Fd F S λc A o s H E r=>hb c A o s H E r U U S.nd,hm,F.kp,i⟩
variable {X:Cx}{e:Expr}{es:List Expr}{pos p:Pos}{q:Af}
theorem jI (B:X.K=K) (C:Cal X.prog X.w X.K X.mg X.base x j m) (G:bu k X.A) (t:j<=k) (hg:Gl X x) (l:IA K X (e::es) q) (h:(x==("__debug__" : Str))=false) (n:az e=true) (i:es.all az=true) :
  IE K X (.Call (.Name x p) (e::es) [] pos) (av m q):=by
 subst B;obtain⟨_,_,_,F,hm,I,hb⟩:=C.ex;exact A9 F t G hg hm I hb l h n i
theorem iI (B:X.K=K) (C:Cal X.prog X.w X.K X.mg X.base x j m) (G:bu k X.A) (t:j<=k) (hg:Gl X x) (l:IA K X (e::es) q) (h:(x==("__debug__" : Str))=false) (n:az e=true) (i:es.all az=true) :
  IE K X (.Call (.Name x p) (e::es) [] pos) (cY m q):=by
 subst B;obtain⟨_,_,_,F,hm,I,hb⟩:=C.ex;exact yW F t G hg hm I hb l h n i
theorem vN {v:Value}{g:Sto->List W->Option D} (z:qcd x=some v) (y:eG K X v g) (hg:Gl X x) (hm:X.mg x=none) (l:IA K X (e::es) q)
  (hn:x≠"__name__") (h:(x==("__debug__" : Str))=false) (n:az e=true) (i:es.all az=true) (u:(match v with|.builtin _=>true|.type _=>true|_=>false)=true):IE K X (.Call (.Name x p) (e::es) [] pos) (iCB g q):=by
 cases v<;>first|exact oW y hg hm z l hn h n i|exact Fm y hg hm z l hn h n i|cases u
theorem vS {v:Value}{g:Sto->List W->Option (List D)} (z:qcd x=some v) (y:rS K X v g) (hg:Gl X x) (hm:X.mg x=none) (l:IA K X (e::es) q)
  (hn:x≠"__name__") (h:(x==("__debug__" : Str))=false) (n:az e=true) (i:es.all az=true) (u:(match v with|.builtin _=>true|.type _=>true|_=>false)=true):IL K X (.Call (.Name x p) (e::es) [] pos) (iCL g q):=by
 cases v<;>first|exact Fo y hg hm z l hn h n i|exact CD y hg hm z l hn h n i|cases u
end
def tgN:Expr->List Str
 |.Name x _=>[x]
 |.Tuple es _ _=>es.flatMap λe=>match e with
  |.Name x _=>[x]
  |.Tuple es _ _=>es.flatMap λe=>match e with
   |.Name x _=>[x]
   |_=>[]
  |_=>[]
 |_=>[]
def lcN (a:Expr) (js:List Nat) (N:List Str):List Str:=tgN a++js.map λj=>N.getD j ""
theorem qQ {a:Scope}{ns:List (Str×qb0)}{N Nc:List Str}{k:Nat}{js:List Nat} (h:uL a ns N Nc k js=true):Nc.Nodup:=by
 unfold uL at h;simp only[qa8,decide_eq_true_eq]at h;exact h.1.1.1.2
section
variable {K:qae}{X:Cx}{e:Expr}{pos:Pos}{a:Scope}{k:Nat}{js:List Nat}{i iter:Expr}{f:List Expr}{o:Lf}{g:Tg}{tt:Tf}{te:Ef}{ns:List (Str×qb0)}{N:List Str}
theorem qC (hns:X.env.scope.names=ns) (hN:X.N=N) (h:uL a ns N (lcN e js N) k js=true) (D:a.kind=.function) (B:X.calm=true) (p:X.env.scope.kind=.function) (n:∀ j∈sK g,j<k) (hi:II K X e iter o)
  (hg:∀ b s H C d,(lcX X a b (lcN e js N) s H C d).N.Nodup->PG (lcX X a b (lcN e js N) s H C d) e (tG K g)) (y:∀ b s H C d,(lcX X a b (lcN e js N) s H C d).env.scope.names=Ab a.names ns->(lcX X a b (lcN e js N) s H C d).N=lcN e js N->ITs K (lcX X a b (lcN e js N) s H C d) f tt)
  (r:∀ b s H C d,(lcX X a b (lcN e js N) s H C d).env.scope.names=Ab a.names ns->(lcX X a b (lcN e js N) s H C d).N=lcN e js N->IE K (lcX X a b (lcN e js N) s H C d) i te) (q:∀ x,qbW iter X.env x=pure x) :
  IL K X (.ListComp i [⟨e,iter,f,0⟩] a pos) (iLc k js o g tt te):=
 yX (sY ns N _ k js hns hN D h) B n hi (λc s H C d=>hg c s H C d (qQ h)) (λc s H C d=>y c s H C d (mn p hns) U) (λc s H C d=>r c s H C d (mn p hns) U) q
variable {w:Nat}{m:Str}{v l:Pos}
theorem gZ (hns:X.env.scope.names=ns) (hN:X.N=N) (h:uL a ns N (lcN e js N) k js=true) (A:X.N.Nodup) (t:X.N[w]?=some m) (u:Loc X.env.scope m) (D:a.kind=.function) (B:X.calm=true) (p:X.env.scope.kind=.function) (n:∀ j∈sK g,j<k) (hi:II K X e iter o)
  (hg:∀ b s H C d,(lcX X a b (lcN e js N) s H C d).N.Nodup->PG (lcX X a b (lcN e js N) s H C d) e (tG K g)) (y:∀ b s H C d,(lcX X a b (lcN e js N) s H C d).env.scope.names=Ab a.names ns->(lcX X a b (lcN e js N) s H C d).N=lcN e js N->ITs K (lcX X a b (lcN e js N) s H C d) f tt)
  (r:∀ b s H C d,(lcX X a b (lcN e js N) s H C d).env.scope.names=Ab a.names ns->(lcX X a b (lcN e js N) s H C d).N=lcN e js N->IE K (lcX X a b (lcN e js N) s H C d) i te)
  (hsw:qct (.ListComp i [⟨e,iter,f,0⟩] a pos) (some (.Name m v)) l.line X.env=pure true) (z:X.fn m=true\/X.env.scope.names.lookup m=some .local) (q:∀ x,qbW iter X.env x=pure x) :
  IS K X (.Assign [.Name m v] (.ListComp i [⟨e,iter,f,0⟩] a pos) l) (aA (.nm w) (aw (iLc k js o g tt te)))/\
   IS K X (.Assign [.Name m v] (.ListComp i [⟨e,iter,f,0⟩] a pos) l) (aA (.nm w) (cV (iLc k js o g tt te))):=
 Fs A t u (sY ns N _ k js hns hN D h) B n hi (λc s H C d=>hg c s H C d (qQ h)) (λc s H C d=>y c s H C d (mn p hns) U) (λc s H C d=>r c s H C d (mn p hns) U) hsw z q
end
theorem vY {K:qae}{X:Cx}{o:BoolOp}{es:List Expr}{pos:Pos}{a:Tf} (h:ITW K X (.BoolOp o es pos) a):IT K X (.BoolOp o es pos) a:=Du h
theorem ad {a b:Prop} (h:a) (g:a->b):a/\b:=⟨h,g h⟩
theorem lY {K:qae}{X:Cx}{pos:Pos}{d:Expr}{a:Scope}{k:Nat}{js:List Nat}{l iter:Expr}{i:List Expr}{t:Lf}{g:Tg}{tt:Tf}{te:Ef}{v:Nat}{m:Str}{u e:Pos}{ns:List (Str×qb0)}{N:List Str}
  (hns:X.env.scope.names=ns) (hN:X.N=N) (h:uL a ns N (lcN d js N) k js=true) (r:X.N.Nodup) (o:X.N[v]?=some m) (p:Loc X.env.scope m) (B:a.kind=.function) (A:X.calm=true) (n:∀ j∈sK g,j<k) (hi:II K X d iter t)
  (hg:∀ b s H C f,(lcX X a b (lcN d js N) s H C f).N.Nodup->PG (lcX X a b (lcN d js N) s H C f) d (tG K g)) (z:∀ b s H C f,ITs K (lcX X a b (lcN d js N) s H C f) i tt) (y:∀ b s H C f,IE K (lcX X a b (lcN d js N) s H C f) l te)
  (hsw:qct (.ListComp l [⟨d,iter,i,0⟩] a pos) (some (.Name m u)) e.line X.env=pure true) (q:X.fn m=true\/X.env.scope.names.lookup m=some .local) (w:∀ x,qbW iter X.env x=pure x) :
  ISL K X (.Assign [.Name m u] (.ListComp l [⟨d,iter,i,0⟩] a pos) e) v (iLc k js t g tt te):=
 Dr r o p (sY ns N _ k js hns hN B h) A n hi (λc s H C f=>hg c s H C f (qQ h)) z y hsw q w
theorem jJ {K:qae}{X:Cx}{x:Str}{k j:Nat}{f Cl:Addr}{fd:qb4}{N ps:List Str}{g:List (Str×Ef)}{p pos:Pos}{e:Expr}{es:List Expr}{d:Af} (hm:X.mg x=some (.ref Cl)) (M:Mk X.K Cl f) (F:dD X.prog X.w X.K X.mg X.base CX0 j f fd ps (Cd K N.length ps.length g)) (n:bu (k+1) X.A) (a:j<=k) (hg:Gl X x) (hb:dc X.K fd ps [])
  (m:Cls K Cl) (hA:∀ p∈g,cr K Cl p.1) (l:g.length=6) (b:(g.map (·.1)).Nodup)
  (h:IA K X (e::es) d) (c:(x==("__debug__" : Str))=false) (i:az e=true) (o:es.all az=true) :
  IE K X (.Call (.Name x p) (e::es) [] pos) (oV N.length ps.length g d):=Bb M F a n hg hm hb m hA l b h c i o
section
variable {c:Type} [DecidableEq c]
def gM (a:List (c×V)) (k:c):Option V:=(a.find? λd=>decide (d.1=k)).map (·.2)
def kO (a:List (c×V)) (k:c) (v:V):List (c×V):=
 if (a.any λd=>decide (d.1=k))=true then a.map (λd=>if d.1=k then (d.1,v) else d) else a++[(k,v)]
theorem ot {p:c×V}{r:List (c×V)}{k:c} (e:p.1=k):gM (p::r) k=some p.2:=by simp[gM,qdp,e]
theorem oq {p:c×V}{r:List (c×V)}{k:c} (e:¬ p.1=k):gM (p::r) k=gM r k:=by simp[gM,qdp,e]
theorem uj (k:c):∀ a:List (c×V),(a.any λd=>decide (d.1=k))=(gM a k).isSome
 |[]=>rfl
 |p::r=>by
  rw[qcf];by_cases e:p.1=k
  ·simp only[ot e,decide_eq_true e,qiJ,Option.isSome_some]
  ·rw[oq e,decide_eq_false e];exact uj k r
theorem li (a:List (c×V)) (k:c) (v:V):(kO a k v).length<=a.length+1:=by
 unfold kO;split
 ·rw[qah];lia
 ·rw[qaz,qaq,qcj];lia
theorem lq.isSome_eq {o:Option V}{u:Option Value} (r:lq o u):o.isSome=u.isSome:=by
 cases o with
 |none=>cases u with
  |none=>rfl
  |some _=>exact (r).elim
 |some _=>cases u with
  |none=>exact (r).elim
  |some _=>rfl
theorem KV.val {a:List (c×V)}{f:List (c×Value)} (r:KV a f) (k:c):lq (gM a k) (qg8 f k):=by
 induction r with
 |nil=>exact True.intro
 |@cons p q ps j h t i=>
  obtain⟨g,m⟩:=h;by_cases e:p.1=k
  ·have n:=g.symm.trans e
   have b:qg8 (q::j) k=some q.2:=by simp[qg8,qdp,n]
   rw[ot e,b];exact m
  ·have n:¬ q.1=k:=λz=>e (g.trans z)
   have b:qg8 (q::j) k=qg8 j k:=by simp[qg8,qdp,n]
   rw[oq e,b];exact i
theorem KV.any {a:List (c×V)}{f:List (c×Value)} (r:KV a f) (k:c):(a.any λd=>decide (d.1=k))=f.any λd=>decide (d.1=k):=by
 induction r with
 |nil=>rfl
 |cons h t i=>rw[qcf,qcf,i,h.1]
theorem KV.repl {a:List (c×V)}{f:List (c×Value)} (r:KV a f) (k:c) {y:V}{u:Value} (l:aP y u) :
  KV (a.map λd=>if d.1=k then (d.1,y) else d) (f.map λd=>if d.1=k then (d.1,u) else d):=by
 induction r with
 |nil=>exact .nil
 |@cons p q ps j h t i=>
  rw[qaw,qaw];refine .cons ?_ i;obtain⟨g,m⟩:=h;by_cases e:p.1=k
  ·rw[iFP e,iFP (g.symm.trans e)];exact⟨g,l⟩
  ·rw[iFN e,iFN (λz=>e (g.trans z))];exact⟨g,m⟩
theorem KV.put {a:List (c×V)}{f:List (c×Value)} (r:KV a f) (k:c) {y:V}{u:Value} (l:aP y u):KV (kO a k y) (stored f k u):=by
 unfold kO stored;rw[r.any k];by_cases e:(f.any λd=>decide (d.1=k))=true
 ·rw[iFP e,iFP e];exact r.repl k l
 ·rw[iFN e,iFN e];exact qid r ⟨U,l⟩
theorem KV.length {a:List (c×V)}{f:List (c×Value)} (r:KV a f):a.length=f.length:=qeT r
end
theorem y4 {P:qaM}{w:World}{k:Key}{u:Value} (r:aP (kV k) u):(ca P w).is k u=true:=by
 cases k with
 |inl i=>obtain⟨t,e⟩:=(r);subst e;exact tH P w i t
 |inr x=>obtain⟨t,e⟩:=(r);subst e;exact tJ P w x t
theorem oY {P:qaM}{w:World}:∀ {ks:List Key}{a:List Value},aH (ks.map kV) a->ItemsAre (ca P w) ks a
 |[],_,r=>by cases r;exact .nil
 |k::ks,_,r=>by
  cases r with
  |cons h t=>exact .cons (y4 h) (oY t)
abbrev KT (H:Hp):List (List Key×V)->List (List Key×Addr×Value)->Prop:=qgb λp q=>p.1=q.1/\H q.2.1=some (.tup (p.1.map kV))/\aP p.2 q.2.2
theorem KT.val {H:Hp}{a:List (List Key×V)}{xs:List (List Key×Addr×Value)} (r:KT H a xs) (k:List Key):lq (gM a k) ((atKey xs k).map (·.2)):=by
 induction r with
 |nil=>exact True.intro
 |@cons p q ps c h t g=>
  obtain⟨d,_,f⟩:=h;by_cases e:p.1=k
  ·have b:atKey (q::c) k=some q.2:=by simp[atKey,qdp,(d.symm.trans e)]
   rw[ot e,b];exact f
  ·have i:¬ q.1=k:=λz=>e (d.trans z)
   have b:atKey (q::c) k=atKey c k:=by simp[atKey,qdp,i]
   rw[oq e,b];exact g
theorem KT.repl {H:Hp}{a:List (List Key×V)}{xs:List (List Key×Addr×Value)} (r:KT H a xs) (k:List Key) {y:V}{u:Value} (f:aP y u) :
  KT H (a.map λc=>if c.1=k then (c.1,y) else c) (xs.map (putAt k u)):=by
 induction r with
 |nil=>exact .nil
 |@cons p q ps j h t g=>
  rw[qaw];refine .cons ?_ g;obtain⟨b,d,i⟩:=h;unfold putAt;by_cases e:p.1=k
  ·rw[iFP e,iFP (b.symm.trans e)];exact⟨b,d,f⟩
  ·rw[iFN e,iFN (λz=>e (b.trans z))];exact⟨b,d,i⟩
theorem KT.put {H:Hp}{a:List (List Key×V)}{xs:List (List Key×Addr×Value)} (r:KT H a xs) (k:List Key) {b:Addr}{y:V}{u:Value} (hb:H b=some (.tup (k.map kV))) (c:aP y u) :
  KT H (kO a k y) (storedH xs k b u):=by
 have e:(a.any λd=>decide (d.1=k))=(atKey xs k).isSome:=by
  rw[uj,(r.val k).isSome_eq,Option.isSome_map]
 unfold kO storedH;rw[e];by_cases q:(atKey xs k).isSome=true
 ·rw[iFP q,iFP q];exact r.repl k c
 ·rw[iFN q,iFN q];exact qid r ⟨U,hb,c⟩
theorem KT.keeps {H H':Hp}{a:List (List Key×V)}{xs:List (List Key×Addr×Value)} (r:KT H a xs) (d:∀ b c,H b=some (.tup c)->H' b=some (.tup c)):KT H' a xs:=
 qgb.mapP r λ_ _ z=>⟨z.1,d _ _ z.2.1,z.2.2⟩
section
variable {P:qaM}{w:World}{H:Hp}{h:Heap}{a:Addr}
theorem CU {u:HO} (ok:HOk P w H h) (e:Rd H a u):cm P w H h a u:=e.ok ok
theorem yE {b:List (Key×V)} (ok:HOk P w H h) (e:Rd H a (.dK b)):b.length<=qaJ/\(a==qcr)=false/\∃ d,KV b d/\h.DictOf (ca P w) a d:=
 CU ok e
theorem E8 {b:List (Key×V)} (ok:HOk P w H h) (e:H a=some (.dK b)):b.length<=qaJ/\(a==qcr)=false/\∃ d,KV b d/\h.DictOf (ca P w) a d:=yE ok (.inl e)
theorem uK {ks:List Key} (ok:HOk P w H h) (e:H a=some (.tup (ks.map kV))):(qgt (ca P w)).is h ks a:=by
 obtain⟨_,j,r,o,f,g,⟨n,i⟩,_⟩:=(ok a _ e);exact⟨o,j.toArray,n,f,g,i,by simpa using oY r⟩
theorem yG {b:List (List Key×V)} (ok:HOk P w H h) (e:Rd H a (.dT b)):b.length<=qaJ/\(a==qcr)=false/\
  ∃ xs,KT H b xs/\h.DictOfH (qgt (ca P w)) a xs:=by
 obtain⟨z,y,xs,r,o,es,s,f,g,i,A,v⟩:=(CU ok e);refine⟨z,y,xs,r,o,es,s,f,g,i,A,λx c=>?_,v⟩;have all:∀ {l:List _}{m:List _},KT H l m->∀ x∈m,(qgt (ca P w)).is h x.1 x.2.1:=by
  intro l m q
  induction q with
  |nil=>intro x c;exact nomatch c
  |@cons p q ps C k t B=>
   intro x c;rcases qay.mp c with e|c
   ·subst e
    exact uK ok (by rw[<-k.1];exact k.2.1)
   ·exact B x c
 exact all r x c
theorem Cz {b:List (List Key×V)} (ok:HOk P w H h) (e:H a=some (.dT b)):b.length<=qaJ/\(a==qcr)=false/\
  ∃ xs,KT H b xs/\h.DictOfH (qgt (ca P w)) a xs:=yG ok (.inl e)
end
def wZ (H:Hp) (a:Addr) (y:V) (r:Option V):Prop:=
 (∃ c k,Rd H a (.dK c)/\y=kV k/\r=gM c k)\/∃ c k b,Rd H a (.dT c)/\y=.ref b/\H b=some (.tup (k.map kV))/\r=gM c k
def yo (H:Hp) (a:Addr) (y v:V) (H':Hp):Prop:=
 (∃ c k,H a=some (.dK c)/\y=kV k/\c.length<qaJ/\H'=upd H a (.dK (kO c k v)))\/
 ∃ c k b,H a=some (.dT c)/\y=.ref b/\H b=some (.tup (k.map kV))/\c.length<qaJ/\H'=upd H a (.dT (kO c k v))
theorem wZ.t {H:Hp}{a b:Addr}{c:List (List Key×V)}{k:List Key} (e:H a=some (.dT c)) (d:H b=some (.tup (k.map kV))):wZ H a (.ref b) (gM c k):=.inr ⟨c,k,b,.inl e,U,d,U⟩
theorem yo.t {H:Hp}{a b:Addr}{c:List (List Key×V)}{k:List Key}{v:V} (e:H a=some (.dT c)) (d:H b=some (.tup (k.map kV))) (f:c.length<qaJ) :
  yo H a (.ref b) v (upd H a (.dT (kO c k v))):=.inr ⟨c,k,b,e,U,d,f,U⟩
section
variable {X:Cx}{f:List (Addr×Obj)}{x:St}{H:Hp}{s:qai}{a:Addr}{y v:V}{u r:Value}{o:Option V}{A:qaY}{E:Value->qai->Prop}
theorem Inv.big (I:Inv X f x H s):qcr<s.heap.objs.size:=by
 exact qeL (by decide) ((I.mod.glob.keeps I.bk).lt)
theorem xA {Q:Value->qai->Prop} (M:A.units+1<cLine) (I:Inv X f x H s) (g:wZ H a y (some v)) (F:aP y u) (h:∀ B s',Inv X f x H s'->aP v B->Q B s') :
  wpAny (model X.prog X.w) A (qe3 (.ref a) u) Q E s:=by
 rcases g with⟨i,k,e,t,l⟩|⟨i,k,b,e,t,J,l⟩
 ·subst t
  obtain⟨z,hd,C,d,m⟩:=yE I.hok e;obtain⟨B,hw,n⟩:=lq.some_of (by rw[l];exact d.val k);exact wpAny_getItem_of (y4 F) m.mapOf hw (h B _ (I.tok _) n)
 ·subst t
  cases (F);obtain⟨z,hd,xs,d,m⟩:=yG I.hok e;obtain⟨B,hw,n⟩:=lq.some_of (by rw[l];exact d.val k);obtain⟨p,hp,N⟩:=qad.mp hw;refine wpAny_getItem_heap (qh5 M) (uK I.hok J) m hp ?_;rw[N];exact h B _ (I.tok _) n
theorem vD {h':Heap}{t':Nat}{ob:HO} (I:Inv X f x H s) (mu:Mut (H a)) (D:qdk a s.heap h') (he:∃ q,h'.get? a=some q) (new:cm X.prog X.w (upd H a ob) h' a ob) :
  Inv X f x (upd H a ob) { s with heap:=h',toks:=t' }:=
 I.write mu (.inl U) (λb q hb z=>(D.2 b hb).trans z) he new
theorem Df {P:qaM}{w:World}{H':Hp}{h':Heap}{i:List (Key×V)}{C:List (Key×Value)} (z:i.length<=qaJ) (hd:(a==qcr)=false) (d:KV i C) (m:h'.DictOf (ca P w) a C) :
  cm P w H' h' a (.dK i):=⟨z,hd,C,d,m⟩
theorem xB {H':Hp}{Q:Unit->qai->Prop} (M:A.units+1<cLine) (I:Inv X f x H s) (g:yo H a y v H') (F:aP y u) (O:aP v r) (h:∀ s',Inv X f x H' s'->Q () s') :
  wpAny (model X.prog X.w) A (qjB (.ref a) u r) Q E s:=by
 rcases g with⟨i,k,e,t,l,K⟩|⟨i,k,b,e,t,J,l,K⟩
 ·subst t K
  obtain⟨z,hd,C,d,m⟩:=E8 I.hok e;have S:C.length<=qaJ:=by rw[<-d.length];exact z
  have L:(kO i k v).length<=qaJ:=by have:=li i k v;lia
  refine wpAny_setItem_pairs (y4 F) m λh' j D=>h _ ?_;exact vD I (by rw[e];exact True.intro) D (let ⟨q,_,_,G,_⟩:=j;⟨q,G⟩) (Df L hd (d.put k O) j)
 ·subst t K
  cases (F);obtain⟨z,hd,xs,d,m⟩:=Cz I.hok e;have S:xs.length<=qaJ:=by rw[<-qeT d];exact z
  have L:(kO i k v).length<=qaJ:=by have:=li i k v;lia
  refine wpAny_setItem_heap (qh5 M) (uK I.hok J) m λh' j D=>h _ ?_;obtain⟨q,es,W,G,Y,h3,T,_,h5⟩:=j;refine vD I (by rw[e];exact True.intro) D ⟨q,G⟩ ⟨L,hd,_,(d.put k J O).keeps λc ys R=>?_,q,es,W,G,Y,h3,T,h5⟩;rw[upd_ne (FM R e (λz=>nomatch z))]
  exact R
end
section
variable {X:Cx}{b:List (Addr×Obj)}{d:St}{H:Hp}{s:qai}{a:Addr}{c:List (Key×V)}{k:Key}{u:Value}{A:qaY}{E:Value->qai->Prop}
end
def C2 (i:Expr):Prop:=∀ a iv,qgu i false a iv=operate [a,iv] (qe3 a iv)
theorem Cf {prog:qaM}{w:World}{A:qaY}{E:Value->qai->Prop}{s:qai}{env:Env}{b a:Expr}{pos:Pos}{T id:String}{Q:Value->qai->Prop}
  (m:typeLookup (.type T) "__getitem__" = pure (some (.builtin id))) (k:C2 a)
  (h:wpAny (model prog w) A (eval b env) (λo e=>wpAny (model prog w) A (eval a env) (λi c=>c.TypeIs o T/\wpAny (model prog w) A (qe3 o i) Q E c) E e) E s) :
  wpAny (model prog w) A (eval (.Subscript b a pos) env) Q E s:=by
 refine qiv (qcq h (λo e g=>qcq g (λi c d=>?_) λ_ _ x=>x) λ_ _ x=>x);obtain⟨l,d⟩:=d;refine qab ?_;refine qab (wpAny_specialOf l m ?_);have fin:wpAny (model prog w) A (qgu a false o i) (λr f=>wpAny (model prog w) A (letTemporaryGo b o r >>= λ_=>pure r) Q E f) E c:=by
  rw[k o i];exact wpAny_operating (qcq d (λr f j=>qab (wpAny_letTemporaryGo (qan j))) λ_ _ x=>x)
 first
  |exact qan (qab fin)
  |exact qab _
  |exact qab fin
theorem so {X:Cx}{c:List (Addr×Obj)}{h:St}{H:Hp}{s:qai}{a:Addr}{y:V}{o:Option V} (I:Inv X c h H s) (g:wZ H a y o):s.TypeIs (.ref a) "dict":=by
 rcases g with⟨f,k,e,_,_⟩|⟨f,k,b,e,_,_,_⟩
 ·obtain⟨_,_,i,_,d⟩:=yE I.hok e
  exact d.typeIs
 ·obtain⟨_,_,xs,_,d⟩:=yG I.hok e
  exact d.typeIs
def Gm (c ty:TE):TE:=λb H Q=>c b H λx H1=>ty b H1 λy H2=>∃ a v,x=.ref a/\wZ H2 a y (some v)/\Q v H2
def Gd (d ty c:TE):TS:=λD b H=>c b H λv H1=>d b H1 λx H2=>ty b H2 λy H3=>∃ a H4,x=.ref a/\yo H3 a y v H4/\D.nx b H4
section
variable {X:Cx}{o i e c:Expr}{pos d B:Pos}{j ty z:TE}
theorem BH (t:X.A.units+1<cLine) (m:PE X o j) (hi:PE X i ty) (k:C2 i):PE X (.Subscript o i pos) (Gm j ty):=by
 intro b s f H Q I h;refine Cf PySem.F.slot_dict_getitem.lookup k (thn (m b s f H _ I h) λu s1 ⟨x,H1,I1,q,w⟩=>thn (hi b s1 f H1 _ I1 w) λiv A ⟨y,H2,I2,l,a,v,ex,g,p⟩=>?_);subst ex;obtain rfl:u=Value.ref a:=q;exact⟨so I2 g,xA t I2 g l λJ F I3 n=>⟨v,H2,I3,n,p⟩⟩
theorem BP (t:X.A.units+1<cLine) (m:PE X o j) (hi:PE X i ty) (C:PE X c z) (k:qct c (some (.Subscript o i d)) pos.line X.env=pure false) :
  PS X (.Assign [.Subscript o i d] c pos) (Gd j ty z):=by
 intro b s f H D I h;refine wpAny_Assign_Subscript (thn (C b s f H _ I h) λr s1 ⟨v,H1,I1,E,w⟩=>thn (m b s1 f H1 _ I1 w) λu A ⟨x,H2,I2,q,p⟩=>thn (hi b A f H2 _ I2 p) λiv F ⟨y,H3,I3,l,a,H4,ex,g,G⟩=>?_) k;subst ex;obtain rfl:u=Value.ref a:=q;exact xB t I3 g l E λK I4=>⟨f,H4,I4,G⟩
end
theorem yF {P:qaM}{w:World}{H:Hp} (h:Heap) (hb:qcr<h.objs.size):cm P w H (h.push { cls:=.type "dict",data:=.dict #[] }) h.objs.size (.dT []):=
 ⟨qcE _,beq_eq_false_iff_ne.mpr (qbk (qax hb)),_,.nil,_,_,0,qas _ U,⟨U,U,U⟩,U,U,qc7⟩
def ED:TE:=λ_ H Q=>∀ p,H p=none->Q (.ref p) (upd H p (.dT []))
section
variable {X:Cx}{pos:Pos}
theorem zD:PE X (.Dict [] [] pos) ED:=λa s b H Q I h=>
 wpAny_Dict_empty ⟨.ref s.heap.objs.size,_,I.laid (λ_ _ q=>qaf _ q) (qao _) (yF s.heap I.big),U,h _ (I.hok.fresh (qao _))⟩
end
section
variable {X:Cx}{b:List (Addr×Obj)}{c:St}{H:Hp}{s:qai}{a:Addr}{y d:V}{u r:Value}{o:Option V}{A:qaY}{E:Value->qai->Prop}
end
section
variable {X:Cx}{o e f:Expr}{b a:Pos}{d ty c:TE}
end
section
variable {X:Cx}{b:List (Addr×Obj)}{d:St}{H:Hp}{s:qai}{a:Addr}{c:List (Key×V)}{A:qaY}{E:Value->qai->Prop}
end
section
variable {X:Cx}{b:List (Addr×Obj)}{c:St}{H:Hp}{s:qai}{a:Addr}{y:V}{u:Value}{A:qaY}{E:Value->qai->Prop}
end
section
variable {prog:qaM}{w:World}{A:qaY}{E:Value->qai->Prop}{s:qai}{b:Type} [DecidableEq b] {c:KeyKind prog w b}{a:Addr}{d:List (b×Value)}
end
section
variable {X:Cx}{b:List (Addr×Obj)}{d:St}{H:Hp}{s:qai}{a:Addr}{c:List (Key×V)}{k:Key}{u r:Value}{A:qaY}{E:Value->qai->Prop}{z:V}
end
section
variable {K:qae}{X:Cx}{pos:Pos}{e a b o f:Expr}{c i d g h:Ef}
end
section
variable {K:qae}{X:Cx}
end
section
variable {b:Bool}{t:SetTable}{m d k:Nat}
end
section
variable {prog:qaM}{w:World}{A:qaY}{E:Value->qai->Prop}{s:qai}{a:Addr}{m d k:Nat}
end
section
variable {prog:qaM}{w:World}{A:qaY}{E:Value->qai->Prop}{s:qai}{a c:Addr}{m d b i:Nat}{f:Nat->Tok}
end
section
variable {prog:qaM}{w:World}{A:qaY}{E:Value->qai->Prop}{s:qai}{a c:Addr}{m d b i:Nat}{f:Nat->Tok}
end
section
variable {prog:qaM}{w:World}{A:qaY}{E:Value->qai->Prop}{s:qai}
end
section
variable {prog:qaM}{w:World}{A:qaY}{R:qhB->qai->Prop}{I:Addr}{b a:List Addr}{G:Array qig->Array qig->Prop}{P:Nat->Value->Prop}{St:Nat->qai->Prop}
end
section
variable {prog:qaM}{w:World}{A:qaY}{E:Value->qai->Prop}{s:qai}
end
section
variable {prog:qaM}{w:World}{A:qaY}{E:Value->qai->Prop}{s:qai}{a r o:Addr}{m c m2 d k b:Nat}{f:Nat->Tok}
end
section
variable {prog:qaM}{w:World}{A:qaY}{E:Value->qai->Prop}{s:qai}{a b r o:Addr}{m e m2 d k c:Nat}{f:Nat->Tok}
end
section
variable {prog:qaM}{w:World}{A:qaY}{E:Value->qai->Prop}{s:qai}{a b r o:Addr}{m e m2 d k c:Nat}{f:Nat->Tok}
end
section
variable {prog:qaM}{w:World}{A:qaY}{E:Value->qai->Prop}{s:qai}{a:Addr}{m d b:Nat}{f:Nat->Tok}
end
section
variable {K:qae}{X:Cx}{pos p:Pos}{e a b:Expr}{c:Ef}{f d:Xf}
end
def jv (h:Heap) (d:Addr) (es:Array qeh) (a:Nat):Prop:=∃ o,h.get? d=some o/\o.ExactDict/\o.data=.dict es a
theorem jv.at' {h h':Heap}{d:Addr}{es:Array qeh}{a:Nat} (x:jv h d es a) (e:∀ o,h.get? d=some o->h'.get? d=some o):jv h' d es a:=let ⟨o,ho,r⟩:=x;⟨o,e o ho,r⟩
theorem jv.type {s:qai}{d:Addr}{es:Array qeh}{a:Nat} (x:jv s.heap d es a):s.TypeIs (.ref d) "dict":=let ⟨o,ho,hc,_⟩:=x;⟨o,ho,hc.1⟩
theorem jv.lt {h:Heap}{d:Addr}{es:Array qeh}{a:Nat} (x:jv h d es a):d<h.objs.size:=let ⟨o,ho,_⟩:=x;qau ho
section
variable {prog:qaM}{w:World}{A:qaY}{E:Value->qai->Prop}{s:qai}{d n:Addr}{es:Array qeh}{i g:Nat}
theorem z6 {Q:Value->qai->Prop} (hd:(d==qcr)=false) (hm:jv s.heap d es g)
  (j:Q (.ref s.heap.objs.size) { s with heap:=s.heap.push { cls:=.type "dict_keyiterator",data:=.fields #[.ref d,.int 0 0,.int es.size 0,.int g 0] } }) :
  wpAny (model prog w) A (qhz (.ref d)) Q E s:=by
 have F:=hm.type;obtain⟨o,p,D,r⟩:=id hm;refine wpAny_pyIter_slot F qga (qbU qga F PySem.F.entry_dict_iter ?_ (PySem.F.args_dict_iter_1 _));refine qab ?_;refine qab (wpAny_notOrdered_dict F ?_);refine qan ?_;show wpAny _ _ (qfD d >>= _) _ _ s;unfold qfD;rw[iFN (by rw[hd];exact qaB)];refine qab (qan ?_);refine qab (qfV p r ?_);refine qab (qgs p r ?_);refine qab (qb8 (qan ⟨_,U,"dict_keyiterator",_,⟨_,qas _ U,U⟩,qbS.lookup,?_⟩))
 simpa [qgv] using j
theorem z7 {Q:Option Value->qai->Prop} (c:s.heap.IsKeyIter n d i es.size g) (hm:jv s.heap d es g) (t:i<es.size)
  (j:∀ h',h'.IsKeyIter n d (i+1) es.size g->qdk n s.heap h'->Q (some es[i].key) { s with heap:=h' }) :
  wpAny (model prog w) A (qgW (.ref n)) Q E s:=by
 obtain⟨o,p,D,hd⟩:=id c;obtain⟨G,l,C,k⟩:=id hm
 refine qab (qeI (qbL c.typeIs qbS
  (qbU qbS c.typeIs qeJ ?_ (qeD _))))
 refine qab (qan ?_);refine qab ?_;refine qab ?_
 first|refine qab (qcQ c.typeIs (qan ?_))|refine qab _
 refine qab (qjP p hd ?_);refine qab (qan ?_);refine qab (qfV l k ?_);rw[iFN (by simp)];refine qab (qan ?_);refine qab (qgs l k ?_);rw[iFN (by simp)];refine qan ?_;simp only[show ¬ (_<0) from by lia,if_false,qa6,qbz t];refine qab ?_
 first|refine qab (qcQ c.typeIs (qan ?_))|refine qab _
 refine qab (qhx c.typeIs ?_);show wpAny _ _ (setField _ 1 _ >>= _) _ _ s;refine qab (qfk p hd (by simp) ?_);have f:(s.heap.update n (Obj.mapFields (·.setIfInBounds 1 (qgv ((i)+1))))).IsKeyIter n d (i+1) es.size g:=
  ⟨_,qb7 _ p (qgN (qd8 hd _)),(qhF ..).trans D,by rw[qd8 hd];simp[qgv]⟩
 refine qab (qbT ?_);refine qab (qhx f.typeIs ?_);exact qan (qan ⟨_,U,qan (j _ f (qdD ..))⟩)
theorem B1 {Q:Option Value->qai->Prop} (u:A.handled=none) (c:s.heap.IsKeyIter n d es.size es.size g) (hm:jv s.heap d es g)
  (j:∀ h',qg5 n s.heap h'->Q none { s with heap:=h' }):wpAny (model prog w) A (qgW (.ref n)) Q E s:=by
 obtain⟨o,p,D,hd⟩:=id c;obtain⟨G,l,C,k⟩:=id hm
 refine qab (qeI (qbL c.typeIs qbS
  (qbU qbS c.typeIs qeJ ?_ (qeD _))))
 refine qab (qan ?_);refine qab ?_;refine qab ?_
 first|refine qab (qcQ c.typeIs (qan ?_))|refine qab _
 refine qab (qjP p hd ?_);refine qab (qan ?_);refine qab (qfV l k ?_);rw[iFN (by simp)];refine qab (qan ?_);refine qab (qgs l k ?_);rw[iFN (by simp)];refine qan ?_;simp only[show ¬ (_<0) from by lia,if_false,qa6,qdu (qao _)];refine qab ?_
 first|refine qab (qcQ c.typeIs (qan ?_))|refine qab _
 show wpAny _ _ (setField _ 0 .none >>= _) _ _ s;refine qab (qfk p hd (by simp) ?_);refine qab ?_;refine qab (m:=qjW _ _) (wpAny_of_eq (a:=Value.none) (by first|rfl|(rfl)) ?_)
 refine qb8 ?_ (by size_fits);refine qab (wpAny_handled ?_);rw[u];refine qab (qan (wpAny_throw ?_));refine qab (qiL ⟨_,qas _ U,U⟩ qjU ?_);exact qan (j _ (((qdD ..).extBut.push _).push _))
theorem yn (u:A.handled=none) (I d:Addr) (B:d≠I) (es:Array qeh) (g:Nat) :
  Walks prog w A I [I,d] [I] es.size (λi v=>∃ e,es[i]?=some e/\v=e.key) (λi h=>h.IsKeyIter I d i es.size g/\jv h d es g) where
 sub:=λb hb=>by simp at hb;simp[hb]
 frame:=λ_ _ _ st y=>⟨st.1.at λo e=>y I (by simp) o e,st.2.at' λo e=>y d (by simp) o e⟩
 item:=λi s Q E hi st j=>by
  refine z7 st.1 st.2 hi λh' f x=>?_;exact j _ h' s.toks ⟨_,by simp[hi],U⟩ ⟨f,st.2.at' λo q=>x.extBut d o B q⟩ λb o hb q=>x.extBut b o (λh=>hb (by simp[h])) q
 done:=λs Q E st j=>B1 u st.1 st.2 λh' z=>j h' s.toks λb o hb e=>z b o (λh=>hb (by simp[h])) e
 self:=λ_ _ _ _ st j=>wpAny_pyIter_keyiter st.1 j
theorem Ce (prog:qaM) (w:World) (d:Addr) (es:Array qeh) (g:Nat) (lo:(d==qcr)=false):PySem.W.KdlSrc prog w "dict" d d es.size (λi v=>∃ e,es[i]?=some e/\v=e.key) (λh=>jv h d es g) where
 type:=λs S=>S.type
 there:=λh S=>⟨S.lt,S.lt⟩
 keep:=λh h' S y=>S.at' λo e=>y d (.inl U) o e
 notList:=by decide
 notTuple:=by decide
 hint:=λA E s Q S h=>PySem.W.kdl_hint_dict S.type h
 iter:=λA s u S=>⟨_,_,λE Q h=>z6 lo S h,yn u s.heap.objs.size d (qax S.lt) es g,
  ⟨⟨_,qas _ U,U,U⟩,S.at' λo e=>qaf _ e⟩⟩
end
section
variable {prog:qaM}{w:World}{A:qaY}{E:Value->qai->Prop}{s:qai}{d:Addr}{es:Array qeh}{z:Nat}
theorem sj {Q:List Value->qai->Prop} (lo:(d==qcr)=false) (S:jv s.heap d es z) (J:A.handled=none) (hn:es.size<=qaJ)
  (h:∀ h' j,(∀ b o,s.heap.get? b=some o->h'.get? b=some o)->s.heap.objs.size<h'.objs.size->Q (es.toList.map (·.key)) { s with heap:=h',toks:=j }) :
  wpAny (model prog w) A (collect (.ref d)) Q E s:=by
 have k:=S.lt;refine qab (wpAny_runValue (qcD entry_proto_collect' ?_));refine qab (qfF (qan ⟨Code.quiet_builtin _ (by decide +kernel),qcD entry_list_iadd' ?_⟩))
 refine PySem.W.kdl_extend (R:=λr s'=>match r with
   | .ok (.ret v)=>wpAny _ A (match v with
     |.ref a=>do
      let o <-load a
      match o.data with
      |.seq xs _=>pure xs.toList
      |_=>unsupported "internal:collect"
     |_=>unsupported "internal:collect") Q E s'
   |.ok _=>False
   |.error e=>E e s') (Ce prog w d es z lo) J (S.at' λo e=>qaf _ e) s.heap.objs.size (qcg k) (qcg k) _ 0 (qas _ U) (λh' j acc c F T V=>?_) hn
 refine qab (wpAny_load T ?_);show wpAny _ _ (pure acc.toList) Q E _;have e:acc.toList=es.toList.map (·.key):=by
  apply qbA;intro i;rw[qaA,qeB,qeB];by_cases hi:i<acc.size
  ·obtain⟨e,I,u⟩:=V.2 i acc[i] (qbz hi)
   rw[I,qbz hi,u];rfl
  ·rw[qdu (by lia),qdu (by rw[<-V.1];lia)];rfl
 rw[e];refine qan (h h' j (λb o q=>?_) (qau T));exact F b o (qax (qau q)) (qaf _ q)
theorem vb {Q:Value->qai->Prop}{C:List Value} (lo:(d==qcr)=false) (S:jv s.heap d es z) (J:A.in1.handled=none) (D:es.toList.map (·.key)=C) (P:C.length<64) (hu:A.in1.in1.units<cLine)
  (t:∀ v∈C,∃ l,TuI s.heap v l)
  (h:∀ (h':Heap) (j:Nat) (p:Addr) (z:Nat) (f:List Value),(∀ b o,s.heap.get? b=some o->h'.get? b=some o)->s.heap.objs.size<=p->h'.get? p=some (qfG "list" f.toArray z)->f.Perm C->f.Pairwise (λx y=>OI.kle (tuI s.heap x) (tuI s.heap y))->Q (.ref p) { s with heap:=h',toks:=j }) :
  wpAny (model prog w) A (call (.builtin "sorted") [.ref d]) Q E s:=by
 refine qf7 kind_sorted plain_sorted entry_sorted (args_sorted1 _) ?_;refine qab (qan ?_);have H:es.size<=qaJ:=by
  have:=congrArg qeV D
  rw[qah,qcy]at this;rw[qdr];lia
 refine qab (sj lo S J H λG j F k=>?_);rw[D];refine qab (qfF ?_ (by rw[qdr];lia));have n:(G.push _).get? G.objs.size=some (qfG "list" C.toArray 0):=qas _ U
 refine qab (qbT (qbU qjR ⟨_,n,U⟩ qjH (o9 (O:=OI) (rk:=λp=>tuI s.heap p.1) (S:=λp=>∃ l,TuI s.heap p.1 l) (s:={ s with heap:=G.push _,toks:=j }) n P (λh' N=>?_) (λv u=>t v u) λf a1 a2=>⟨_,U,?_⟩) (qjY _)))
 ·have g:=λb o q=>N b o (qax (qau (F b o q))) (qaf _ (F b o q))
  obtain⟨κ,Y,k2⟩:=sV (s:={ s with heap:=h',toks:=j }) (λv u=>let ⟨l,tl⟩:=t v u;⟨l,tl.fit g⟩) hu;refine⟨κ,Y,λx y ⟨l,K⟩ ⟨m,M⟩ Q E X=>k2 x y ⟨l,K.fit g⟩ ⟨m,M.fit g⟩ Q E ?_⟩;have B:Q (bq (tuI s.heap x.1) (tuI s.heap y.1)) { s with heap:=h',toks:=j }:=X;show Q (bq (tuI h' x.1) (tuI h' y.1)) { s with heap:=h',toks:=j };rw[(K.fit g).is,(M.fit g).is];rw[K.is,M.is]at B;exact B
 ·refine qan ⟨_,U,?_⟩
  obtain⟨L,I⟩:=sortedHeap_at n;refine h _ j G.objs.size L f (λb o q=>?_) (qeM k) I a1 (a2.imp λ{x y} q=>q);have W:=F b o q;have hb:=qau W;rw[sortedHeap_old (qax hb) (by rw[qir];exact qaZ hb),qdC _ _ _ (qax hb)];exact W
end
def mgt (st:Sto) (n:Nat):Option (List (List Int×D)):=match st[n]? with
 |some (.m a)=>some a
 |_=>none
def vM (a:List (List Int×D)) (k:List Int):Option D:=(a.find? λp=>decide (p.1=k)).map (·.2)
def zV (a:List (List Int×D)) (k:List Int) (d:D):List (List Int×D):=if (a.any λp=>decide (p.1=k))=true then a.map λp=>if p.1=k then (p.1,d) else p else a++[(k,d)]
def CC:Ef
 |_,st=>some (.h st.length,st++[.m []])
def xJ (o k:Ef):Ef
 |env,st=>(o env st).bind λx=>(k env x.2).bind λy=>match x.1,y.1 with
 |.h n,.d (.tup ds)=>(mgt y.2 n).bind λa=>(aU ds).bind λl=>(vM a l).map λd=>(.d d,y.2)
 |_,_=>none
def vK (o k v:Ef):Sf
 |env,st=>(v env st).bind λz=>(o env z.2).bind λx=>(k env x.2).bind λy=>match x.1,y.1,z.1 with
 |.h n,.d (.tup ds),.d d=>(mgt y.2 n).bind λa=>(aU ds).bind λl=>if a.length<1000 then some (.nx env (y.2.set n (.m (zV a l d)))) else none
 |_,_,_=>none
def kC (a:Ef):Lf
 |env,st=>(a env st).bind λx=>match x.1 with
 |.h n=>(mgt x.2 n).bind λb=>if b.length<64 then some ((ax (b.map (·.1))).map ak,x.2) else none
 |_=>none
section
variable {K:qae}{X:Cx}{pos:Pos}{e a b o f:Expr}{fe fa fb fo ff:Ef}
theorem zm {st:Sto}{n:Nat}{j:List (List Int×D)} (h:mgt st n=some j):st[n]?=some (.m j):=by
 unfold mgt at h;split at h
 ·rename_i q;cases h;exact q
 ·cases h
theorem Sr.atm {H:Hp}{φ:List Addr}{st:Sto} (S:Sr K H φ st) {n:Nat}{p:Addr}{j:List (List Int×D)} (e1:φ[n]?=some p) (M:mgt st n=some j):∃ w,H p=some (.dT w)/\Rkv K H φ j w:=S.at_ n p _ e1 (zm M)
theorem Rkv.length {H:Hp}{φ:List Addr}:∀ {ds:List (List Int×D)}{w:List (List Key×V)},Rkv K H φ ds w->ds.length=w.length
 |[],_,h=>by cases h;rfl
 |(k,d)::ds,_,h=>by
  obtain⟨v,r,rfl,B,A⟩:=h;rw[qaq,qaq,Rkv.length A]
theorem jU:∀ {a b:List Int},gL a=gL b->a=b
 |[],[],_=>rfl
 |[],_::_,h=>by cases h
 |_::_,[],h=>by cases h
 |x::a,y::b,h=>by
  injection h with B A;injection B with B;rw[B,jU A]
theorem v5 (l:List Int):(gL l).map kV=l.map V.int:=by
 unfold gL;rw[qaO];rfl
theorem Rkv.val {H:Hp}{φ:List Addr}{i:List Int}:∀ {ds:List (List Int×D)}{w:List (List Key×V)},Rkv K H φ ds w->(∀ d,vM ds i=some d->∃ v,gM w (gL i)=some v/\Rl K H φ d v)/\(vM ds i=none->gM w (gL i)=none)
 |[],_,h=>by cases h;exact⟨(λd e=>nomatch e),λ_=>rfl⟩
 |(k,d)::ds,_,h=>by
  obtain⟨v,r,rfl,B,A⟩:=h;by_cases e:k=i
  ·subst e
   have e1:vM ((k,d)::ds) k=some d:=by unfold vM;rw[qew (by simp)];rfl
   have M:gM ((gL k,v)::r) (gL k)=some v:=by unfold gM;rw[qew (by simp)];rfl
   rw[e1,M];exact⟨λd' q=>⟨v,U,by cases q;exact B⟩,λq=>nomatch q⟩
  ·have e1:vM ((k,d)::ds) i=vM ds i:=by unfold vM;rw[qex (by simpa using e)]
   have M:gM ((gL k,v)::r) (gL i)=gM r (gL i):=by unfold gM;rw[qex (by simpa using λz=>e (jU z))]
   rw[e1,M];exact (Rkv.val A)
theorem Rkv.any {H:Hp}{φ:List Addr}{i:List Int}:∀ {ds:List (List Int×D)}{w:List (List Key×V)},Rkv K H φ ds w->(w.any λp=>decide (p.1=gL i))=ds.any λp=>decide (p.1=i)
 |[],_,h=>by cases h;rfl
 |(k,d)::ds,_,h=>by
  obtain⟨v,r,rfl,B,A⟩:=h;rw[qcf,Rkv.any A]
  congr 1
  exact decide_eq_decide.mpr ⟨λz=>jU z,λz=>congrArg gL z⟩
theorem Rkv.repl {H:Hp}{φ:List Addr}{i:List Int}{x:D}{y:V} (O:Rl K H φ x y):∀ {ds:List (List Int×D)}{w:List (List Key×V)},Rkv K H φ ds w->Rkv K H φ (ds.map λp=>if p.1=i then (p.1,x) else p) (w.map λp=>if p.1=gL i then (p.1,y) else p)
 |[],_,h=>by cases h;exact U
 |(k,d)::ds,_,h=>by
  obtain⟨v,r,rfl,B,A⟩:=h;rw[qaw,qaw];by_cases e:k=i
  ·rw[iFP e,iFP (by rw[e])]
   exact⟨y,_,U,O,Rkv.repl O A⟩
  ·rw[iFN e,iFN (λz=>e (jU z))]
   exact⟨v,_,U,B,Rkv.repl O A⟩
theorem Rkv.snoc {H:Hp}{φ:List Addr}:∀ {ds:List (List Int×D)}{w:List (List Key×V)}{k:List Int}{d:D}{v:V},Rkv K H φ ds w->Rl K H φ d v->Rkv K H φ (ds++[(k,d)]) (w++[(gL k,v)])
 |[],_,_,_,_,h,hd=>by cases h;exact⟨_,_,U,hd,U⟩
 |(k,d)::ds,_,_,_,_,h,hd=>by
  obtain⟨v,r,rfl,B,A⟩:=h;exact⟨v,_,U,B,Rkv.snoc A hd⟩
theorem Rkv.put {H:Hp}{φ:List Addr}{ds:List (List Int×D)}{w:List (List Key×V)}{k:List Int}{d:D}{v:V} (h:Rkv K H φ ds w) (hd:Rl K H φ d v):Rkv K H φ (zV ds k d) (kO w (gL k) v):=by
 unfold zV kO;rw[h.any];split
 ·exact h.repl hd
 ·exact h.snoc hd
theorem wQ {H:Hp}{φ:List Addr}{ds:List D}{l:List Int}{v:V} (hl:aU ds=some l) (r:Rl K H φ (.tup ds) v):∃ p,v=.ref p/\H p=some (.tup ((gL l).map kV)):=by
 obtain⟨p,w,rfl,B,A⟩:=r;cases bg hl;cases A.ints;rw[v5];exact⟨p,U,B⟩
theorem lN:IE K X (.Dict [] [] pos) CC:=by
 refine⟨λenv st r g=>?_⟩;cases g;refine zD.imp ?_
 rintro σ H Q ⟨φ,L,F,q⟩
 exact λp Y=>q _ _ _ (Fw.moreO Y) (F.moreC Y ⟨_,upd_same,U⟩) ⟨p,by rw[<-F.len];simp,U⟩
theorem qv {k:Nat} (J:bu k X.A) (ha:IE K X a fa) (hb:IE K X b fb) (hs:C2 b):IE K X (.Subscript a b pos) (xJ fa fb):=by
 refine⟨λenv st r g=>?_⟩;simp only[xJ,qac]at g;obtain⟨⟨x,s1⟩,O,⟨y,s2⟩,hy,g⟩:=g;dsimp only at g;split at g
 next n ds=>
  simp only[qac,qad]at g;obtain⟨j,hk,l,hl,d,hd,rfl⟩:=g;refine (BH (CB J) (ha.run _ _ _ O) (hb.run _ _ _ hy) hs).imp ?_
  rintro σ H Q ⟨φ,L,F,q⟩
  refine⟨φ,L,F,λv H1 E N S1 w1=>⟨E,L.fw F N,S1,λu H2 R T S2 w2=>?_⟩⟩;obtain⟨p,ep,rfl⟩:=w1.fw S1 T;obtain⟨w,hv,rl⟩:=S2.atm ep hk;obtain⟨v2,M,r2⟩:=rl.val.1 d hd;obtain⟨b',rfl,hb'⟩:=wQ hl w2;refine⟨p,v2,U,?_,q _ H2 R (N.trans T) S2 r2⟩;rw[<-M];exact wZ.t hv hb'
 ·cases g
theorem lW {k:Nat}{P:Pos} (J:bu k X.A) (ho:IE K X a fa) (hi:IE K X b fb) (hv:IE K X e fe) (hs:qct e (some (.Subscript a b P)) pos.line X.env=pure false:=by rfl) :
  IS K X (.Assign [.Subscript a b P] e pos) (vK fa fb fe):=by
 refine⟨λenv st r g=>?_⟩;simp only[vK,qac]at g;obtain⟨⟨z,s1⟩,hz,⟨x,s2⟩,O,⟨y,s3⟩,hy,g⟩:=g;dsimp only at g;split at g
 next n ds d=>
  simp only[qac]at g;obtain⟨j,hk,l,hl,g⟩:=g;split at g
  ·rename_i G
   cases g;refine (BP (CB J) (ho.run _ _ _ O) (hi.run _ _ _ hy) (hv.run _ _ _ hz) hs).imp ?_
   rintro D σ H ⟨φ,L,F,q⟩
   refine⟨φ,L,F,λv H1 E N S1 w1=>⟨E,L.fw F N,S1,λu H2 R T S2 w2=>⟨R,(L.fw F N).fw S1 T,S2,λt H3 φ3 f3 S3 w3=>?_⟩⟩⟩;obtain⟨p,ep,rfl⟩:=w2.fw S2 f3;obtain⟨w,Y,rl⟩:=S3.atm ep hk;obtain⟨b',rfl,hb'⟩:=wQ hl w3;obtain⟨f4,S4⟩:=S3.putC (c:=.m _) ep λf=>⟨_,upd_same,(rl.put (Rl.fw S2 f3 (Rl.fw S1 T w1))).fw S3 f⟩;refine⟨p,_,U,yo.t Y hb' (by rw[<-rl.length];exact qaQ G (by decide)),?_⟩;exact q _ _ φ3 (((N.trans T).trans f3).trans f4) (((((L.fw F N).fw S1 T).fw S2 f3)).fw S3 f4) S4
  ·cases g
 ·cases g
theorem v8 {H:Hp}{φ:List Addr}:∀ {j:List (List Int×D)}{w:List (List Key×V)}{xs:List (List Key×Addr×Value)},Rkv K H φ j w->KT H w xs->
  Rls K H φ ((j.map (·.1)).map ak) (xs.map λx=>V.ref x.2.1)/\aH (xs.map λx=>V.ref x.2.1) (xs.map λx=>Value.ref x.2.1)
 |[],_,_,h,t=>by cases h;cases t;exact⟨U,.nil⟩
 |(k,d)::j,_,_,h,t=>by
  obtain⟨v,r,rfl,B,A⟩:=h;cases t with
  |cons q t=>
   rename_i x xs;obtain⟨i1,i2⟩:=v8 A t;have e:H x.2.1=some (.tup (k.map V.int)):=by rw[<-v5];exact q.2.1
   exact⟨⟨_,_,U,⟨_,_,U,e,Rls.of_ints k⟩,i1⟩,.cons U i2⟩
theorem jM {k:Nat}{p:Pos} (J:bu k X.A) (hg:Gl X "sorted") (hm:X.mg "sorted" = none) (ha:IE K X a fa) (hc:X.calm=true:=by rfl) (hs:az a=true:=by rfl) (hK:X.K=K:=by rfl):IL K X (.Call (.Name "sorted" p) [a] [] pos) (kC fa):=by
 subst hK;refine⟨λenv st r g=>?_⟩;simp only[kC,qac]at g;obtain⟨⟨x,s1⟩,O,g⟩:=g;dsimp only at g;split at g
 case h_2=>cases g
 rename_i n;simp only[qac]at g;obtain⟨j,hk,g⟩:=g;split at g
 ·rename_i hl
  cases g;have hA:=(bB (K:=X.K) (X:=X) ha ci hs).run env st ([.h n],s1) (by simp only[aa,ae,O,qaa,qap]);have hC:bE X (.builtin "sorted") (λxs H Q=>∃ φ q,Sr X.K H φ s1/\φ[n]?=some q/\xs=[.ref q]/\∀ l us,H l=none->Rls X.K H φ ((ax (j.map (·.1))).map ak) us->Q (.ref l) (upd H l (.lst us))):=by
   intro pins s σ H xs us Q I rv q;obtain⟨φ,ad,S,ead,rfl,q⟩:=q;obtain⟨u,rfl,ru⟩:=fT rv;cases ru;obtain⟨w,hv,rl⟩:=S.atm ead hk;obtain⟨z',hd,xs,rel,o,es,ep,g1,g2,g3,g4,g5,g6⟩:=Cz I.hok hv;obtain⟨b1,b2⟩:=v8 rl rel;have G:xs.length<64:=by
    have e1:=rel.length;have M:=rl.length;lia
   have hkeys:es.toList.map (·.key)=xs.map λx=>Value.ref x.2.1:=by rw[g4,qaO];rfl
   obtain⟨m1,m2⟩:=kc I b1 b2;have hun:X.A.in1.in1.units<cLine:=by
    have:=J.un
    show X.A.units+1+1<cLine;lia
   refine vb hd ⟨o,g1,g2,g3⟩ (I.ok.hd hc) hkeys (by rw[qah];exact G) hun (λv hv=>⟨_,(m2 v hv).1⟩) λh' tk p ep' C hkeep Y he a1 a2=>?_;have hn:H p=none:=I.hok.fresh Y;have ho:=λu hu=>m2 u (a1.mem_iff.mp hu);obtain⟨c1,c2⟩:=n8 (K:=X.K) (H:=H) (φ:=φ) ho;have hpm:(C.map (tuI s.heap)).Perm (j.map (·.1)):=by
    have:=a1.map (tuI s.heap)
    rw[m1]at this;exact this
   have hsrt:(C.map (tuI s.heap)).Pairwise leL:=by
    rw[qdA];exact a2.imp λ{x y} q=>q
   have e:C.map (tuI s.heap)=ax (j.map (·.1)):=gB (hpm.trans (aI _).symm) hsrt (bQ _);have M:(C.map λu=>ak (tuI s.heap u))=(ax (j.map (·.1))).map ak:=by rw[<-e,qaO];rfl
   rw[M]at c1;have hlay:Inv X pins σ (upd H p (.lst (C.map toV))) { s with heap:=h',toks:=tk }:=by
    refine I.laid (t':=tk) (a:=p) (o:=.lst (C.map toV)) hkeep Y ⟨?_,C,ep',c2,by simpa [qfG] using he⟩;rw[qah,a1.length_eq,qah];exact iW (by lia)
   exact⟨.ref p,_,hlay,U,q p _ hn c1⟩
  refine (nV hC hg hm qa0 hA (by decide) (by decide) (aT hs) (br (es:=[]) U)).imp ?_
  rintro σ H Q ⟨φ,L,F,q⟩
  refine⟨φ,L,F,λw H1 E N S1 w1=>?_⟩;obtain⟨v,r,rfl,⟨ad,ead,rfl⟩,rfl⟩:=w1;exact⟨E,ad,S1,ead,U,λl us hl' hr'=>q l _ H1 E N S1 hl' hr'⟩
 ·cases g
def uB (st:Sto):W->W->Option D
 |.d (.tup a),.d (.tup b)=>(aU a).bind λns=>(aU b).map λms=>.bl (bq ns ms)
 |x,y=>dLt st x y
theorem tm:∀ (a b:List Int),HT.lexLt a b=bq a b
 |[],[]=>rfl
 |[],_::_=>rfl
 |_::_,[]=>rfl
 |x::a,y::b=>by rw[HT.lexLt_cons,bq,tm a b]
theorem qZ {k:Nat} (g:bu k X.A) (hK:X.K=K:=by rfl):OpD K X (qbN .Lt) uB:=by
 refine⟨λst x y d h=>?_⟩;by_cases ht:∃ a b,x=.d (.tup a)/\y=.d (.tup b)
 ·obtain⟨a,b,rfl,rfl⟩:=ht
  simp only[uB,qac,qad]at h;obtain⟨ns,B,ms,A,rfl⟩:=h;have hu:X.A.units<cLine:=by have:=g.un;lia
  refine (DT hu).imp ?_
  rintro vx vy H Q ⟨φ,S,⟨p,w,rfl,g1,g2⟩,⟨p2,vs2,rfl,g3,g4⟩,q⟩
  cases bg B;cases bg A;cases g2.ints;cases g4.ints;refine⟨p,p2,ns,ms,U,U,SqT.of g1,SqT.of g3,?_⟩;rw[tm];exact q _ H (aQ.refl H) U
 ·have e:uB st x y=dLt st x y:=by
   unfold uB;split
   ·rename_i a b
    exact absurd ⟨a,b,U,U⟩ ht
   ·rfl
  rw[e]at h;exact tQ.run st x y d h
end
end L2
namespace L2
open PySem PySem.Spec PyProof.Rows PySem.SeqAt PySem.W
section
variable {K:qae}{X:Cx}{H:Hp}{φ:List Addr}
end
end L2
namespace L2
open PySem PySem.Spec PyProof.Rows PySem.W
def yC (_:Sto):List W->Option D
 |[.d (.tup ds)]=>(aU ds).map λns=>.int ns.sum
 |_=>none
section
variable {K:qae}{X:Cx}
theorem xx:bE X (.builtin "sum") (λxs H Q=>X.calm=true/\∃ (a:Addr) (ns:List Int),xs=[.ref a]/\H a=some (.tup (ns.map V.int))/\Q (.int ns.sum) H):=by
 intro b s i H xs j Q I c h;obtain⟨g,a,ns,rfl,k,q⟩:=h;obtain⟨x,rfl,f⟩:=fT c;cases f;obtain⟨z,u,c,p⟩:=(I.hok a _ k);have pt:=p.tup;obtain⟨ps,o,t⟩:=ou c;rw[o]at pt;refine ktm_sumG (I.ok.hd g) pt λh' y t' l=>?_;refine⟨.int ns.sum,H,I.kept l,⟨t',?_⟩,q⟩;rw[preSum_eq,qdx (by simp),t]
theorem lG (g:X.calm=true:=by rfl) (w:X.K=K:=by rfl):eG K X (.builtin "sum") yC:=by
 refine⟨λst ws d h=>?_⟩
 match ws,h with
 |[.d (.tup ds)],h=>
  obtain⟨ns,e,rfl⟩:=qad.mp h;cases bg e;intro b s i H xs j Q I c q;obtain⟨φ,S,⟨v,r,rfl,⟨a,j,rfl,m,n⟩,rfl⟩,q⟩:=q;cases n.ints;exact xx b s i H _ _ Q I c ⟨g,a,ns,U,m,q _ H (aQ.refl H) U⟩
end
end L2
namespace L2
open PySem PySem.Spec PyProof.Rows
def CH (ns:List Int) (d:Option Int):Option Int:=match ns with
 |n::r=>some (nO r n)
 |[]=>d
section
variable {prog:qaM}{w:World}{A:qaY}{s:qai}{I l S:Addr}{items:Array Value}{ns:List Int}{G:List (Str×Value)}{R:qhB->qai->Prop}
theorem DJ (M:A.handled=none) (hi:qb2 items.toList ns) (i:S≠I) (C:l≠I) (D:l≠S):∀ (rest:List Int) (j:Nat) (s:qai) (m:Int) (t:Tok) (c:Nat),ns.drop j=rest->s.heap.IsListIter I l j->s.heap.IsList l items->
  s.heap.get? S=some { cls:=.type "list",dict:=none,data:=.seq #[.int m t,.int m t] c,slots:=#[] }->
  (∀ t' h',(∀ b o,b≠I->b≠S->s.heap.get? b=some o->h'.get? b=some o)->R (.ok (.ret (.int (nO rest m) t'))) { s with heap:=h' })->qdH (model prog w) A (.builtin "min.loop" ⟨[.ref I,.none,.ref S],G⟩) R s:=by
 have B:(toString "min"++toString ".loop" : String) = "min.loop":=by decide
 intro rest
 induction rest with
 |nil=>
  intro j s m t c hd y x H K;have hn:ns[j]?=none:=by
   rw[qbP]
   have:=congrArg qeV hd
   simp at this;lia
  refine qcD qf5 ?_;rw[qcp qcK _];refine qab (qbK H U ?_);refine qab (qcl (qc3 M y x (jN hi hn) λP p=>?_));refine qab (qdE (p _ _ i H) U (qab (qcJ (qan ?_))));exact K t _ λb o a g q=>(qaP _ _ (qbk g)).trans (p _ _ a q)
 |cons n rest ih=>
  intro j s m t c hd y x H K;have hn:ns[j]?=some n:=by
   have:=congrArg (λl=>l[0]?) hd
   simpa using this
  have O:ns.drop (j+1)=rest:=by
   have:=congrArg (qk1 1) hd
   simpa [qh0,qeN] using this
  obtain⟨W,X⟩:=jO hi hn;refine qcD qf5 ?_;rw[qcp qcK _];refine qab (qbK H U ?_);refine qab (qcl (qcU y x X λP u s1=>?_));have p:=s1.extBut;have z:=p _ _ i H;show wpAny _ A.in1 (tryCatch _ _ >>= _) _ _ _;refine qab (qcl (qbT (qab (qdz ?_))));refine qab (qbT (qcm ?_));refine qab (qcJ (qan ?_));by_cases hb:n<m
  ·have J:decide (n<m)=true:=by simp[hb]
   rw[J];simp only[if_true];refine qab (qdE z U (qab (qcJ ?_)));rw[B];refine qan ⟨qda qcK _,ih (j+1) _ n W _ O (u.at λo q=>(qaP _ _ i).trans q) (Heap.IsList.at x λo q=>(qaP _ _ (qbk D)).trans (p _ _ C q)) (qb7 _ z U) λt' h' k=>?_⟩
   have:=K t' h' λb o a g q=>k b o a g ((qaP _ _ (qbk g)).trans (p _ _ a q))
   rw[nO,iFP hb]at this;exact this
  ·have J:decide (n<m)=false:=by simp[hb]
   rw[J];simp only[qbm,if_false];refine qab (qcJ ?_);rw[B];refine qan ⟨qda qcK _,ih (j+1) _ m t c O u (Heap.IsList.at x λo q=>p _ _ C q) z λt' h' k=>?_⟩
   have:=K t' h' λb o a g q=>k b o a g (p _ _ a q)
   rw[nO,iFN hb]at this;exact this
variable {E:Value->qai->Prop}
theorem xX (M:A.handled=none) (hi:qb2 items.toList ns) (i:S≠I) (C:l≠I) (D:l≠S) {c:Nat} (y:s.heap.IsListIter I l 0) (x:s.heap.IsList l items) (H:s.heap.get? S=some { cls:=.type "list",dict:=none,data:=.seq #[] c,slots:=#[] })
  (K:∀ v h',(∀ b o,b≠I->b≠S->s.heap.get? b=some o->h'.get? b=some o)->(∀ n r,ns=n::r->∃ t,v=.int (nO r n) t)->(ns=[]->∃ k,G=[(k,v)])->R (.ok (.ret v)) { s with heap:=h' })
  (Y:ns=[]->∃ k v,G=[(k,v)]):qdH (model prog w) A (.builtin "min.loop" ⟨[.ref I,.none,.ref S],G⟩) R s:=by
 refine qcD qf5 ?_;rw[qcp qcK _];refine qab (qbK H U ?_);cases hn:ns with
 |nil=>
  obtain⟨k,v,rfl⟩:=Y hn;refine qab (qcl (qc3 M y x (jN hi (by rw[hn];rfl)) λP p=>?_));refine qab (qds (qan ?_));exact K v _ (λb o a _ q=>p _ _ a q) (λn r e=>by rw[hn]at e;cases e) λ_=>⟨k,U⟩
 |cons n rest=>
  obtain⟨W,X⟩:=jO hi (j:=0) (by rw[hn];rfl);refine qab (qcl (qcU y x X λP u s1=>?_));have p:=s1.extBut;have z:=p _ _ i H;show wpAny _ A.in1 (updateSeq S _ >>= _) _ _ _;refine qab (qdE z U ?_);refine qan ⟨qda qcK _,DJ M hi i C D rest 1 _ n W _ (by rw[hn];rfl) (u.at λo q=>(qaP _ _ i).trans q) (Heap.IsList.at x λo q=>(qaP _ _ (qbk D)).trans (p _ _ C q)) (qb7 _ z U) λt' h' k=>?_⟩;exact K _ h' (λb o a g q=>k b o a g ((qaP _ _ (qbk g)).trans (p _ _ a q))) (λn' r' e=>by rw[hn]at e;cases e;exact⟨t',U⟩) λe=>by rw[hn]at e;cases e
theorem pR {Q:Value->qai->Prop} (M:A.handled=none) (hi:qb2 items.toList ns) (x:s.heap.IsList l items) (hk:G=[]) (Y:ns=[]->G≠[])
  (h:∀ v h',(∀ b o,s.heap.get? b=some o->h'.get? b=some o)->(∀ n r,ns=n::r->∃ t,v=.int (nO r n) t)->(ns=[]->∃ k,G=[(k,v)])->Q v { s with heap:=h' }) :
  wpAny (model prog w) A (call (.builtin "min") [.ref l] G) Q E s:=by
 have N:l<s.heap.objs.size:=by obtain⟨_,e,_⟩:=x;exact qau e
 have L:(s.heap.push { cls:=.type "list_iterator",data:=.fields #[.ref l,.int 0 0] }).objs.size=s.heap.objs.size+1:=qbj ..
 have fin:∀ T:List Value,G=T.map _->wpAny (model prog w) A.in1 (do
   let it <-qhz _
   let b <-newList []
   qix (.builtin "min.loop" ⟨[it,.none,b],T.map λd=>(qd7 "default",d)⟩)) (λfin s'=>match fin with
   |.done f=>(match (Except.ok f) with|.ok (.ret v)=>Q v s'|.ok _=>False|.error e=>E e s')
   |.again c'=>c'.quiet=true/\qdH (model prog w) A c' (λr s'=>match r with|.ok (.ret v)=>Q v s'|.ok _=>False|.error e=>E e s') s') E s:=λT V=>by
  refine qab (qdO x (qab (qb8 ?_)));refine qan ⟨qda qcK _,?_⟩;rw[<-V];refine xX M hi (by rw[L];exact qev _) (qax N) (by rw[L];exact qax (qaZ N))
   ⟨_,qaf _ (qas _ U),U,U⟩ (Heap.IsList.at x λo q=>qaf _ (qaf _ q)) (qas _ U) (λv h' k P h2=>?_) (λe=>?_)
  ·refine h v h' (λb o q=>?_) P h2
   have hb:=qau q;exact k b o (qax hb) (by rw[L];exact qax (qaZ hb)) (qaf _ (qaf _ q))
  ·exact absurd hk (Y e)
 subst hk;refine fY F.kind_min F.plain_min F.entry_min (F.args_min1 _) ?_;exact (fin [] U)
end
section
variable {K:qae}{X:Cx}{e a b:Expr}{es:List Expr}{pos:Pos}{f fa P:Ef}{Y:Af}
theorem xw (k:X.calm=true) {A:List (Str×Value)}{d:Option V}{ns:List Int}{c:List (Addr×Obj)}{p:St}{H:Hp}{s:qai}{ad:Addr}{Q:VK}{E:XK}{r:Int} (I:Inv X c p H s) (l:Rd H ad (.lst (ns.map V.int)))
  (y:A=[]/\ns≠[]) (L:∀ n q,ns=n::q->r=nO q n) (q:Q (.int r) H) :
  wpAny (model X.prog X.w) X.A (call (.builtin "min") [.ref ad] A) (EP X c p Q) X.xe s:=by
 obtain⟨C,m,J,O⟩:=I.list (.inl l);refine pR (I.ok.hd k) (by simpa using cy m) J.isList ?_ ?_ λv h' kp M R=>?_
 ·exact y.1
 ·intro e z
  exact y.2 e
 ·have B:∃ t,v=.int r t:=by
   cases hn:ns with
   |nil=>exact absurd hn y.2
   |cons n q=>
    rw[L n q hn];exact M n q hn
  exact⟨.int r,H,I.kept kp,B,q⟩
def dMi (st:Sto):List W->Option D
 |[.d (.int i),.d (.int j)]=>some (.int (if j<i then j else i))
 |[w]=>(lsI st w).bind λns=>(CH ns none).map D.int
 |_=>none
theorem vw (k:X.calm=true:=by rfl):eG K X (.builtin "min") dMi:=by
 refine⟨λst ws d h=>?_⟩;have one:∀ w,((lsI st w).bind λns=>(CH ns none).map D.int)=some d->bE X _ (rCD K st [w] d):=λw h=>by
  obtain⟨ns,F,h⟩:=qac.mp h;obtain⟨r,g,rfl⟩:=qad.mp h;intro c s p H xs us Q I m q;obtain⟨φ,S,⟨v,T,rfl,o,rfl⟩,q⟩:=q;obtain⟨ad,rfl,l⟩:=we S o F;obtain⟨u,rfl,G⟩:=fT m;cases G;refine xw (E:=λ_ _ _=>False) (d:=none) k I l ⟨U,λe=>by rw[e]at g;cases g⟩ (λn q hn=>by rw[hn]at g;exact (qaL g).symm) (q _ H (aQ.refl H) U)
 match ws,h with
 |[.d (.int i),.d (.int j)],h=>
  cases h;refine (xv k).imp ?_
  rintro vs H Q ⟨φ,S,⟨v,r,rfl,o,u,r',rfl,N,rfl⟩,q⟩
  exact⟨i,j,by rw[o,N],q _ H (aQ.refl H) U⟩
 |[w],h=>exact one w (by cases w with|h n=>exact h|d x=>cases x<;>exact h)
end
end L2
@[reducible]def Z(x:L2.D):Option L2.W:=some (.d x)
namespace Own
open PySem L2
def fK:Sf:=(aA (.nm 1) (iOp a9 (iV 1) (iC (.int 2))))
def mH:Sf:=(ag (aA (.nm 1) (iC (.int 1))) (ag (eE (bz (aa (iV 0) ae)) (.nm 2) fK) (aL (iV 1))))
def eh:Fn:=bi 3 1 mH
def AS:Sf:=(aL (iOp f7 (iOp mM (iV 0) (av eh (aa (iV 1) ae))) (iC (.int 2))))
def qU:Fn:=bi 2 2 AS
def eD:Tf:=(aE dNe (iV 3) (iC (.int 0)))
def e6:Sf:=(ag (aA (.nm 4) (iOp f7 (iV 1) (iV 3))) (ag (aA (.nm 1) (iV 3)) (aA (.nm 3) (iV 4))))
def eP:Sf:=(ag (aA (.nm 3) (iCB uz (aa (iV 2) ae))) (mZ (2^8000) eD e6))
def lw:Sf:=(ag (aA (.nm 1) (iC (.int 0))) (ag (eE (aB (iV 0)) (.nm 2) eP) (aL (iV 1))))
def bo:Fn:=bi 5 1 lw
def sw:Ef:=(iOp qe (iV 0) (iV 1))
def xj:Sf:=(ag (aA (.nm 1) (av bo (aa (iV 0) ae))) (ag (aX (aE dEq (iV 1) (iC (.int 0))) (aL (iCB f8 (aa (iV 0) ae))) aS) (aL (iCB f8 (aa (aw (iLc 1 [1] (aB (iV 0)) (.nm 0) aN sw)) ae)))))
def cZ:Fn:=bi 2 1 xj
def cc:Tf:=(aE dLt (iV 2) (iCB a8 (aa (iV 0) ae)))
def dB:Sf:=(ag (aA (.nm 2) (iOp a9 (iV 2) (iC (.int 2)))) (aA (.nm 1) (iOp bj (iV 1) (iC (.int 1)))))
def oB:Sf:=(ag (aA (.nm 1) (iC (.int 0))) (ag (aA (.nm 2) (iC (.int 1))) (ag (mZ (2^8000) cc dB) (aL (iV 1)))))
def fz:Fn:=bi 3 1 oB
def fm:Ef:=(iV 0)
def fB:Tf:=(aE mN (iV 1) (iC .non))
def kT:Sf:=(aL (iCB f8 (aa (aw (iLc 2 [] (bV (aa (iV 0) ae)) (.tp [0,1]) fB fm)) ae)))
def bY:Fn:=bi 1 1 kT
def ko:Sf:=(aL (jl (aE dEq (iOp dIx (iV 0) (iV 1)) (iC (.int 1))) (iC (.int 1)) (iUn gI (iC (.int 1)))))
def fL:Fn:=bi 2 2 ko
def gW:Ef:=(iOp bj (aw (iCL sW (aa (iV 0) ae))) (aw (bO (aa (iV 1) ae))))
def gX:Ef:=(iUn gI (iV 0))
def bZ:List (Str×Ef):=[("amounts",(iCB a8 (aa (iV 3) ae))),("lines",(aw (iLc 2 [] (fG (aa (iV 1) (aa (iV 2) ae))) (.tp [0,1]) aN gW))),("goal",(iOp bj (aw (iLc 1 [] (aB (iV 3)) (.nm 0) aN gX)) (aw (bO (aa (iC (.int 0)) ae))))),("part",(iC (.int 1))),("free",(cV (lA (aa (iCB a8 (aa (iV 3) ae)) ae)))),("kept",(cV (qp (aa (iCB a8 (aa (iV 3) ae)) (aa (iOp bj (iCB a8 (aa (iV 3) ae)) (iCB a8 (aa (iV 1) ae))) ae)))))]
def aW:Sf:=(ag (aX (cL c9 (iV 3)) (ag (aA (.nm 5) (iOp a9 (iOp dIx (iV 1) (iV 4)) (iOp dIx (iV 2) (iOp dIx (iV 3) (iC (.int 0)))))) (ag (aA (.nm 6) (iOp a9 (iOp dIx (iV 1) (iOp dIx (iV 3) (iC (.int 0)))) (iOp dIx (iV 2) (iV 4)))) (ag (aX (aE dGt (iV 5) (iV 6)) oU aS) (aX (aE dLt (iV 5) (iV 6)) (aA (.nm 3) (cV (bO ae))) aS)))) aS) (d5 (cD bv (iV 3) (aa (iV 4) ae))))
def i6:Sf:=(ag (aA (.nm 3) (cV (bO ae))) (ag (eE (aB (iV 0)) (.nm 4) aW) (aL (iV 3))))
def fu:Fn:=fA 7 3 i6
def xm:Sf:=(aL (iOp bj (aw (bO (aa (iC .non) ae))) (aw (qp (aa (ay "amounts" (iV 0)) (aa (iOp bj (ay "amounts" (iV 0)) (iCB a8 (aa (ay "lines" (iV 0)) ae))) ae))))))
def dR:Fn:=bi 1 1 xm
def mQ:Ef:=(jl (aE dEq (iV 0) (iV 1)) (ay "part" (iV 2)) (iC (.int 0)))
def mR:Ef:=(iOp dIx (iV 0) (iV 1))
def mS:Ef:=(iOp dIx (iV 0) (iUn gI (iC (.int 1))))
def fX:Sf:=(ag (aX (aE iZ (iV 1) (iC .non)) (aL (aw (iLc 1 [] (aB (ay "lines" (iV 0))) (.nm 0) aN mS))) aS) (ag (aX (aE dIn (iV 1) (ay "free" (iV 0))) (ag (aA (.nm 2) (yR (ay "free" (iV 0)) (aa (iV 1) ae))) (aL (aw (iLc 1 [2] (aB (ay "lines" (iV 0))) (.nm 0) aN mR)))) aS) (aL (aw (iLc 1 [1,0] (aB (ay "kept" (iV 0))) (.nm 0) aN mQ)))))
def cP:Fn:=bi 3 2 fX
def eQ:Sf:=(ag (aX (aE dLt (iCB a8 (aa (iV 3) ae)) (iC (.int 2))) uG aS) (aA (.nm 3) (av fu (aa (iV 3) (aa (av cP (aa (iV 0) (aa (iV 4) ae))) (aa (iV 2) ae))))))
def su:Ef:=(iV 0)
def ue:Tf:=(aE dGt (iV 1) (iC (.int 0)))
def sv:Ef:=(iOp dIx (iV 0) (iV 1))
def oM:Sf:=(ag (aA (.nm 2) (aw (iLc 1 [1] (aB (ay "lines" (iV 0))) (.nm 0) aN sv))) (ag (aA (.nm 3) (aw (iLc 2 [] (bV (aa (iV 2) ae)) (.tp [0,1]) ue su))) (ag (eE (aB (av dR (aa (iV 0) ae))) (.nm 4) eQ) (aL (jl (cL c9 (iV 3)) (iOp dIx (iV 3) (iC (.int 0))) (iC .non))))))
def iM:Fn:=bi 5 2 oM
def bW:Sf:=(ag (aA (.nm 6) (av cP (aa (iV 0) (aa (iV 5) ae)))) (ag (aA (.nm 7) (iOp jC (iOp a9 (iV 4) (iOp dIx (iV 6) (iOp dIx (iV 2) (iC (.int 1))))) (iOp a9 (iV 3) (iOp dIx (iV 6) (iOp dIx (iV 1) (iC (.int 1))))))) (aX (aE dNe (iV 7) (iC (.int 0))) (aL (iOp dGt (iV 7) (iC (.int 0)))) aS)))
def pL:Sf:=(ag (aA (.nm 3) (iOp a9 (iOp dIx (ay "goal" (iV 0)) (iOp dIx (iV 1) (iC (.int 0)))) (iOp dIx (iOp dIx (ay "lines" (iV 0)) (iOp dIx (iV 2) (iC (.int 1)))) (iOp dIx (iV 2) (iC (.int 0)))))) (ag (aA (.nm 4) (iOp a9 (iOp dIx (ay "goal" (iV 0)) (iOp dIx (iV 2) (iC (.int 0)))) (iOp dIx (iOp dIx (ay "lines" (iV 0)) (iOp dIx (iV 1) (iC (.int 1)))) (iOp dIx (iV 1) (iC (.int 0)))))) (ag (eE (aB (av dR (aa (iV 0) ae))) (.nm 5) bW) (aL (iC (.bl false))))))
def b9:Fn:=bi 8 3 pL
def bR:Sf:=(ag (aX (aE dGe (iOp dIx (ay "goal" (iV 0)) (iV 2)) (iC (.int 0))) oU aS) (ag (aA (.nm 3) (be (aa (iV 2) (aa (av iM (aa (iV 0) (aa (iV 2) ae))) ae)))) (ag (aX (aE iZ (iOp dIx (iV 3) (iC (.int 1))) (iC .non)) (aL (iV 3)) aS) (aX (d6 (aE iZ (iV 1) (iC .non)) (cL c9 (av b9 (aa (iV 0) (aa (iV 3) (aa (iV 1) ae)))))) (aA (.nm 1) (iV 3)) aS))))
def rZ:Sf:=(ag (aA (.nm 1) (iC .non)) (ag (eE (bz (aa (iCB a8 (aa (ay "free" (iV 0)) ae)) ae)) (.nm 2) bR) (aL (iV 1))))
def bM:Fn:=bi 4 1 rZ
def ky:Ef:=(iOp qe (iOp jC (iOp a9 (iV 2) (iV 0)) (iOp a9 (iV 3) (iV 1))) (iV 4))
def vq:Sf:=(ag (aA (.nm 4) (iOp dIx (iV 1) (iV 2))) (ag (aA (.nm 5) (iOp dIx (iV 0) (iV 2))) (ag (aA (.nm 6) (cV (iLc 2 [4,5,3] (fG (aa (iV 0) (aa (iV 1) ae))) (.tp [0,1]) aN ky))) (ag (bN (iV 6) (iV 2) (iUn gI (iV 5))) (aL (iV 6))))))
def j5:Fn:=fA 7 4 vq
def dF:Ef:=(av j5 (aa (iV 0) (aa (iV 1) (aa (iV 2) (aa (iV 3) ae)))))
def jh:Sf:=(ag (aA (.nm 3) (iOp dIx (ay "lines" (iV 0)) (iV 1))) (ag (aA (.nm 4) (ay "part" (iV 0))) (ag (i3 5 1 2 3 4 (iLc 1 [3,2,4] (aB (ay "lines" (iV 0))) (.nm 0) aN dF)) (ag (k8 "goal" (iV 0) (av j5 (aa (ay "goal" (iV 0)) (aa (iV 3) (aa (iV 2) (aa (iV 4) ae)))))) (ag (k8 "lines" (iV 0) (iV 5)) (ag (k8 "part" (iV 0) (iOp dIx (iV 3) (iV 2))) (ag (aA (.nm 6) (iOp dIx (ay "free" (iV 0)) (iV 2))) (ag (bN (ay "free" (iV 0)) (iV 2) (iOp dIx (ay "kept" (iV 0)) (iV 1))) (bN (ay "kept" (iV 0)) (iV 1) (iV 6))))))))))
def ef:Fn:=fA 7 3 jh
def nA:Sf:=(aX (aE dLt (iV 4) (ay "amounts" (iV 0))) (bN (iV 2) (iV 4) (iUn gI (iOp dIx (iOp dIx (ay "lines" (iV 0)) (iV 3)) (iV 1)))) aS)
def se:Sf:=(ag (aA (.nm 2) (cV (sJ ny (aw (bO (aa (iC (.int 0)) ae))) (ay "amounts" (iV 0))))) (ag (eE (bV (aa (ay "kept" (iV 0)) ae)) (.tp [3,4]) nA) (ag (aX (aE dLt (iOp dIx (ay "free" (iV 0)) (iV 1)) (ay "amounts" (iV 0))) (bN (iV 2) (iOp dIx (ay "free" (iV 0)) (iV 1)) (ay "part" (iV 0))) aS) (aL (cY cZ (aa (iV 2) ae))))))
def j6:Fn:=fA 5 2 se
def hW:Sf:=(aX (aE dLt (iV 3) (ay "amounts" (iV 0))) (bN (iV 1) (iV 3) (iOp dIx (iOp dIx (ay "lines" (iV 0)) (iV 2)) (iUn gI (iC (.int 1))))) aS)
def jy:Sf:=(ag (aA (.nm 1) (cV (sJ ny (aw (bO (aa (iC (.int 0)) ae))) (ay "amounts" (iV 0))))) (ag (eE (bV (aa (ay "kept" (iV 0)) ae)) (.tp [2,3]) hW) (aL (iV 1))))
def gq:Fn:=fA 4 1 jy
def je:Sf:=(aX (aE dGe (iV 3) (ay "amounts" (iV 0))) (bN (iV 1) (iOp jC (iV 3) (ay "amounts" (iV 0))) (iOp dIx (ay "goal" (iV 0)) (iV 2))) aS)
def kS:Sf:=(ag (aA (.nm 1) (cV (sJ ny (aw (bO (aa (iC (.int 0)) ae))) (iCB a8 (aa (ay "lines" (iV 0)) ae))))) (ag (eE (bV (aa (ay "free" (iV 0)) ae)) (.tp [2,3]) je) (aL (iV 1))))
def iq:Fn:=fA 4 1 kS
def dW:Ef:=(iOp qe (iV 0) (iV 1))
def dX:Ef:=(iOp qe (iV 0) (iV 1))
def jz:Sf:=(ag (aA (.nm 1) (av gq (aa (iV 0) ae))) (ag (aA (.nm 2) (av iq (aa (iV 0) ae))) (ag (aA (.nm 3) (av bo (aa (iOp bj (iOp bj (aw (bO (aa (ay "part" (iV 0)) ae))) (iV 1)) (iV 2)) ae))) (aL (be (aa (iC (.str "most")) (aa (iOp qe (ay "part" (iV 0)) (iV 3)) (aa (iCB f8 (aa (aw (iLc 1 [3] (aB (iV 1)) (.nm 0) aN dX)) ae)) (aa (iCB f8 (aa (aw (iLc 1 [3] (aB (iV 2)) (.nm 0) aN dW)) ae)) ae)))))))))
def gr:Fn:=bi 4 1 jz
def gD:Tf:=(aE mN (iV 4) (iC .non))
def e7:Sf:=(ag (aX (aE iZ (iOp dIx (iV 4) (iC (.int 1))) (iC .non)) (aL (be (aa (iC (.str "beyond")) (aa (cY j6 (aa (iV 3) (aa (iOp dIx (iV 4) (iC (.int 0))) ae))) ae)))) aS) (ag (d5 (av ef (aa (iV 3) (aa (iOp dIx (iV 4) (iC (.int 1))) (aa (iOp dIx (iV 4) (iC (.int 0))) ae))))) (aA (.nm 4) (cY bM (aa (iV 3) ae)))))
def xk:Sf:=(ag (aA (.nm 3) (oV 4 4 bZ (aa (iV 0) (aa (iV 1) (aa (iV 2) ae))))) (ag (aA (.nm 4) (cY bM (aa (iV 3) ae))) (ag (mZ (2^8000) gD e7) (aL (cY gr (aa (iV 3) ae))))))
def iN:Fn:=bi 5 3 xk
def jF:Ef:=(iOp bj (iV 0) (be (aa (iV 2) ae)))
def kg:Tf:=(aE dLt (iCB a8 (aa (iV 0) ae)) (iV 1))
def jX:Sf:=(aA (.nm 2) (iOp bj (iV 2) (aw (iLc 1 [1,3] (aB (iV 2)) (.nm 0) kg jF))))
def uv:Sf:=(ag (aA (.nm 2) (aw (bO (aa (be ae) ae)))) (ag (eE (bz (aa (iV 0) ae)) (.nm 3) jX) (aL (iCB f8 (aa (aw (iCL hJ (aa (iV 2) ae))) ae)))))
def ek:Fn:=bi 4 2 uv
def dG:Ef:=(av qU (aa (iV 1) (aa (iV 0) ae)))
def uw:Sf:=(ag (aA (.nm 3) (iCB sk (aa (aw (iLc 1 [2] (aB (iV 1)) (.nm 0) aN dG)) ae))) (ag (aX (aE dEq (iV 0) (iC (.str "both"))) (aL (jl (aE dEq (iV 3) (iCB a8 (aa (iV 1) ae))) (iC (.int 1)) (iC (.int 0)))) aS) (aL (jl (aE dEq (iOp f7 (iV 3) (iC (.int 2))) (iC (.int 1))) (iUn gI (iC (.int 1))) (iC (.int 1))))))
def jq:Fn:=bi 4 3 uw
def ja:Ef:=(be (aa (iV 0) (aa (xJ (iV 1) (iV 0)) ae)))
def jf:Tf:=(aE dNe (xJ (iV 1) (iV 0)) (iC (.int 0)))
def sd:Sf:=(aL (be (aa (iV 0) (aa (iCB f8 (aa (aw (iLc 1 [1] (aB (aw (kC (iV 1)))) (.nm 0) jf ja)) ae)) ae))))
def io:Fn:=bi 2 2 sd
def mT:Ef:=(be (aa (iV 0) (aa (iOp qe (iV 1) (iV 2)) ae)))
def yv:Sf:=(aL (be (aa (iOp dIx (iV 0) (iC (.int 0))) (aa (iCB f8 (aa (aw (iLc 2 [1] (aB (iOp dIx (iV 0) (iC (.int 1)))) (.tp [0,1]) aN mT)) ae)) ae))))
def nJ:Fn:=bi 2 2 yv
def mU:Ef:=(iV 1)
def yw:Sf:=(aL (av nJ (aa (iV 0) (aa (av bo (aa (aw (iLc 2 [] (aB (iOp dIx (iV 0) (iC (.int 1)))) (.tp [0,1]) aN mU)) ae)) ae))))
def nK:Fn:=bi 1 1 yw
def gP:Sf:=(aL (iOp a9 (av fL (aa (iV 0) (aa (iV 3) ae))) (av jq (aa (iV 1) (aa (iV 2) (aa (iV 3) ae))))))
def cQ:Fn:=bi 4 4 gP
def eK:Ef:=(av cQ (aa (iV 1) (aa (iV 2) (aa (iV 0) (aa (iV 3) ae)))))
def eL:Ef:=(aw (iLc 1 [2,3,0] (aB (iV 1)) (.nm 0) aN eK))
def ly:Sf:=(aL (aw (iLc 1 [2,0,1] (aB (av bY (aa (iV 0) ae))) (.nm 0) aN eL)))
def dw:Fn:=bi 3 3 ly
def uC:Ef:=(jl (aE dEq (iV 0) (iV 1)) (iC (.int 1)) (iC (.int 0)))
def yu:Sf:=(aL (aw (iLc 1 [0] (bz (aa (iV 1) ae)) (.nm 0) aN uC)))
def jZ:Fn:=bi 2 2 yu
def i9:Ef:=(iUn gI (iV 0))
def r8:Sf:=(aL (iOp bj (aw (iCL sW (aa (iV 0) ae))) (aw (iLc 1 [] (aB (iV 0)) (.nm 0) aN i9))))
def im:Fn:=bi 1 1 r8
def eS:Sf:=(vK (iV 3) (iV 5) (iOp jC (iOp dIx (iV 2) (iV 4)) (iOp dIx (iV 2) (iOp bj (iCB a8 (aa (iV 1) ae)) (iV 4)))))
def oN:Sf:=(ag (aA (.nm 3) CC) (ag (eE (bV (aa (iV 1) ae)) (.tp [4,5]) eS) (aL (av nK (aa (av io (aa (iV 0) (aa (iV 3) ae))) ae)))))
def iO:Fn:=fA 6 3 oN
def ie:Sf:=(bN (iV 2) (iV 3) (iV 4))
def jA:Sf:=(ag (aA (.nm 2) (cV (sJ ny (aw (bO (aa (iC (.int 0)) ae))) (iCB a8 (aa (iV 0) ae))))) (ag (eE (fG (aa (av bY (aa (iV 0) ae)) (aa (iV 1) ae))) (.tp [3,4]) ie) (aL (iCB f8 (aa (iV 2) ae)))))
def dL:Fn:=fA 5 2 jA
def ge:Ef:=(iCB f8 (aa (iV 0) ae))
def gf:Ef:=(iOp bj (iOp a9 (aw (bO (aa (iC (.int 0)) ae))) (iOp a9 (iC (.int 2)) (iCB a8 (aa (iV 1) ae)))) (av jZ (aa (iV 0) (aa (iV 2) ae))))
def rC:Sf:=(ag (aA (.nm 6) (aw (iLc 1 [2,4] (bz (aa (iV 4) ae)) (.nm 0) aN gf))) (ag (aA (.nm 7) (av iN (aa (iCB f8 (aa (aw (iLc 1 [] (aB (iOp bj (iV 5) (iV 6))) (.nm 0) aN ge)) ae)) (aa (iOp bj (iOp a9 (be (aa (iC (.int 0)) ae)) (iV 4)) (iOp a9 (be (aa (iC (.int 1)) ae)) (iV 4))) (aa (iOp bj (iOp a9 (be (aa (iC (.int 0)) ae)) (iOp a9 (iC (.int 2)) (iCB a8 (aa (iV 2) ae)))) (iOp a9 (be (aa (iC (.int 1)) ae)) (iV 4))) ae))))) (aL (be (aa (av iO (aa (iV 1) (aa (iV 2) (aa (iOp dIx (iV 7) (iC (.int 2))) ae)))) (aa (av cZ (aa (av dL (aa (iV 0) (aa (iSl (iOp dIx (iV 7) (iC (.int 3))) iPn (iPs (iV 4))) ae))) ae)) ae))))))
def qk:Ef:=(iUn gI (iV 0))
def jE:Ef:=(iOp bj (av im (aa (aw (iLc 1 [] (aB (iV 1)) (.nm 0) aN qk)) ae)) (av jZ (aa (iV 0) (aa (iV 2) ae))))
def ji:Sf:=(ag (aA (.nm 3) (av dw (aa (iV 0) (aa (iV 1) (aa (iV 2) ae))))) (ag (aA (.nm 4) (iCB a8 (aa (iV 3) ae))) (ag (aX (aE dEq (iV 4) (iC (.int 0))) (aL (be (aa (be (aa (iV 1) (aa (be ae) ae))) (aa (av dL (aa (iV 0) (aa (be ae) ae))) ae)))) aS) (ag (aA (.nm 5) (aw (iLc 2 [4] (bV (aa (iV 3) ae)) (.tp [0,1]) aN jE))) rC))))
def jp:Fn:=bi 8 3 ji
def yx:Sf:=(ag (aA (.nm 3) (av jp (aa (iV 0) (aa (iV 1) (aa (iV 2) ae))))) (ag (aX (cL c9 (iCB Db (aa (iOp dIx (iV 3) (iC (.int 1))) ae))) (aL (be (aa (iC (.str "bar")) (aa (iOp dIx (iV 3) (iC (.int 1))) ae)))) aS) (aL (be (aa (iC (.str "poly")) (aa (iOp dIx (iV 3) (iC (.int 0))) ae))))))
def j0:Fn:=bi 4 3 yx
def e8:Tf:=(aE dEq (iOp dIx (iV 5) (iC (.int 0))) (iC (.str "bar")))
def fU:Sf:=(ag (aA (.nm 3) (iOp dIx (iV 5) (iC (.int 1)))) (ag (aA (.nm 4) (iOp bj (iV 4) (iC (.int 1)))) (aA (.nm 5) (av j0 (aa (iV 0) (aa (iV 1) (aa (av ek (aa (iV 2) (aa (iV 4) ae))) ae)))))))
def mG:Sf:=(ag (aA (.nm 2) (av fz (aa (iV 0) ae))) (ag (aA (.nm 3) (iC .non)) (ag (aA (.nm 4) (iC (.int 0))) (ag (aA (.nm 5) (av j0 (aa (iV 0) (aa (iV 1) (aa (av ek (aa (iV 2) (aa (iV 4) ae))) ae))))) (ag (mZ (2^8000) e8 fU) (aL (be (aa (iV 4) (aa (iOp dIx (iV 5) (iC (.int 1))) (aa (iV 3) ae))))))))))
def bX:Fn:=bi 6 2 mG
def pH:Sf:=(aL (yS (aa (cV (iCL sW (aa (iV 0) ae))) (aa (iC (.int 0)) (aa (iC (.int 11)) (aa (iC (.int 0)) ae))))))
def gm:Fn:=bi 1 1 pH
def pG:Sf:=(ag (aA (.nm 2) (iOp f7 (iOp a9 (iOp bj (iOp bj (iOp f7 (iV 0) (iC (.int 2147483629))) (iOp a9 (iC (.int 7927)) (iV 1))) (iC (.int 37))) (iC (.int 48271))) (iC (.int 2147483647)))) (aL (iOp f7 (iOp a9 (iOp bj (iOp bj (iOp a9 (iV 2) (iV 2)) (iOp a9 (iC (.int 53)) (iV 1))) (iOp mM (iV 2) (iC (.int 17)))) (iC (.int 39373))) (iC (.int 2147483587)))))
def cN:Fn:=bi 3 2 pG
def gO:Sf:=(ag (cq (iV 0) (iC (.int 3)) (iOp bj (gJ (iV 0) (iC (.int 3))) (iC (.int 1)))) (ag (aX (fF (aE dEq (gJ (iV 0) (iC (.int 1))) (iC (.int 0))) (aE dNe (gJ (iV 0) (iC (.int 0))) (aw (bO ae)))) (ag (aA (.nm 2) (cD uT (gJ (iV 0) (iC (.int 0))) (aa (iC (.int 0)) ae))) (ag (cq (iV 0) (iC (.int 2)) (av cN (aa (iOp bj (gJ (iV 0) (iC (.int 2))) (iV 2)) (aa (iCB a8 (aa (gJ (iV 0) (iC (.int 0))) ae)) ae)))) (aX (aE dGe (iCB uz (aa (iV 2) ae)) (iOp qg (iC (.int 10)) (iC (.int 18)))) (cq (iV 0) (iC (.int 1)) (iOp f7 (iCB uz (aa (iV 2) ae)) (iOp a9 (iOp qg (iC (.int 10)) (iC (.int 60))) (iOp qg (iC (.int 10)) (iC (.int 60)))))) aS))) aS) (ag (aX (aE dGt (gJ (iV 0) (iC (.int 1))) (iC (.int 0))) (ag (aA (.nm 3) (iOp f7 (gJ (iV 0) (iC (.int 1))) (iV 1))) (ag (cq (iV 0) (iC (.int 1)) (iOp mM (gJ (iV 0) (iC (.int 1))) (iV 1))) (aL (iV 3)))) aS) (aL (iOp f7 (iOp mM (av cN (aa (gJ (iV 0) (iC (.int 2))) (aa (gJ (iV 0) (iC (.int 3))) ae))) (iC (.int 64))) (iV 1))))))
def aJ:Fn:=bi 4 2 gO
def kY:Ef:=(iOp uA (iOp xz (iV 1) (iV 0)) (iC (.int 1)))
def xi:Sf:=(aL (iCB sk (aa (aw (iLc 1 [0] (aB (iV 1)) (.nm 0) aN kY)) ae)))
def dQ:Fn:=bi 2 2 xi
def eJ:Ef:=(iOp dIx (aw (bO (aa (iV 0) (aa (iV 0) (aa (iC .non) ae))))) (av aJ (aa (iV 1) (aa (iC (.int 3)) ae))))
def cF:Ef:=(iOp dIx (iV 1) (av dQ (aa (iV 0) (aa (aw (lA (aa (iV 2) ae))) ae))))
def cG:Ef:=(av aJ (aa (iV 1) (aa (iC (.int 2)) ae)))
def cH:Ef:=(iOp f7 (iOp bj (av dQ (aa (iV 0) (aa (iV 1) ae))) (iV 2)) (iC (.int 2)))
def bS:Ef:=(iV 0)
def bT:Tf:=(aE dGt (av aJ (aa (iV 1) (aa (iC (.int 3)) ae))) (iC (.int 0)))
def dU:Ef:=(iOp dIx (iV 2) (iV 0))
def eW:Tf:=(aE dEq (iOp uA (iOp xz (iV 1) (iV 0)) (iC (.int 1))) (iC (.int 1)))
def cv:Ef:=(iCB AY (aa (iOp dGt (iCB sk (aa (aw (iLc 1 [0,2] (bz (aa (iV 1) ae)) (.nm 0) eW dU)) ae)) (iOp dIx (iV 2) (iV 1))) ae))
def cw:Ef:=(iOp jC (av aJ (aa (iV 1) (aa (iC (.int 7)) ae))) (iC (.int 3)))
def cx:Ef:=(av aJ (aa (iV 1) (aa (iC (.int 2)) ae)))
def lv:Sf:=(ag (yU 2 3 (aa (av aJ (aa (iV 0) (aa (iC (.int 6)) ae))) (aa (aw (lA (aa (iOp xy (iC (.int 1)) (iV 1)) ae))) ae))) (ag (aX (aE dEq (iV 2) (iC (.int 0))) (ag (aA (.nm 4) (aw (iLc 1 [0] (bz (aa (iOp bj (iV 1) (iC (.int 1))) ae)) (.nm 0) aN cG))) (aA (.nm 5) (aw (iLc 1 [4,1] (aB (iV 3)) (.nm 0) aN cF)))) (aX (aE dEq (iV 2) (iC (.int 1))) (ag (aA (.tp [6,7]) (be (aa (aw (iLc 1 [0] (bz (aa (iV 1) ae)) (.nm 0) bT bS)) (aa (av aJ (aa (iV 0) (aa (iC (.int 2)) ae))) ae)))) (aA (.nm 5) (aw (iLc 1 [6,7] (aB (iV 3)) (.nm 0) aN cH)))) (aX (aE dEq (iV 2) (iC (.int 2))) (ag (aA (.nm 8) (aw (iLc 1 [0] (bz (aa (iOp bj (iV 1) (iC (.int 1))) ae)) (.nm 0) aN cw))) (aA (.nm 5) (aw (iLc 1 [1,8] (aB (iV 3)) (.nm 0) aN cv)))) (aA (.nm 5) (aw (iLc 1 [0] (aB (iV 3)) (.nm 0) aN cx)))))) (ag (aX (aE dEq (av aJ (aa (iV 0) (aa (iC (.int 4)) ae))) (iC (.int 0))) (aA (.nm 5) (aw (iLc 1 [0] (aB (iV 5)) (.nm 0) aN eJ))) aS) (aL (iCB f8 (aa (iV 5) ae))))))
def dq:Fn:=bi 9 2 lv
def cI:Ef:=(iV 0)
def cU:Tf:=(aE dEq (iOp uA (iOp xz (iV 1) (iV 0)) (iC (.int 1))) (iC (.int 1)))
def hU:Sf:=(ag (aA (.nm 4) (iCB f8 (aa (aw (iLc 1 [3] (bz (aa (iV 0) ae)) (.nm 0) cU cI)) ae))) (aX (aE dLe (iCB a8 (aa (iV 4) ae)) (iV 1)) (d5 (cD bv (iV 2) (aa (iV 4) ae))) aS))
def jx:Sf:=(ag (aA (.nm 2) (cV (bO ae))) (ag (eE (bz (aa (iOp xy (iC (.int 1)) (iV 0)) ae)) (.nm 3) hU) (aL (iCB f8 (aa (aw (iCL hJ (aa (iV 2) ae))) ae)))))
def cO:Fn:=fA 5 2 jx
def pJ:Sf:=(ag (aA (.nm 3) (av dQ (aa (iV 2) (aa (iV 1) ae)))) (ag (aX (aE dEq (iV 0) (iC (.str "both"))) (aL (iCB AY (aa (iOp dEq (iV 3) (iCB a8 (aa (iV 1) ae))) ae))) aS) (aL (iOp jC (iC (.int 1)) (iOp a9 (iC (.int 2)) (iOp f7 (iV 3) (iC (.int 2))))))))
def dJ:Fn:=bi 4 3 pJ
def kX:Ef:=(iOp a9 (iV 1) (av dJ (aa (iOp dIx (iV 2) (iC (.int 0))) (aa (iV 0) (aa (iV 3) ae)))))
def xh:Sf:=(aL (iCB sk (aa (aw (iLc 2 [0,1] (aB (iOp dIx (iV 0) (iC (.int 1)))) (.tp [0,1]) aN kX)) ae)))
def kL:Fn:=bi 2 2 xh
def gU:Ef:=(iOp a9 (iOp jC (iOp a9 (iC (.int 2)) (iV 1)) (iC (.int 1))) (av kL (aa (iV 2) (aa (iV 0) ae))))
def iE:Tf:=(aE mN (iV 1) (iC .non))
def pI:Sf:=(aL (aw (iLc 2 [1] (bV (aa (iV 0) ae)) (.tp [0,1]) iE gU)))
def gn:Fn:=bi 2 2 pI
def jV:Sf:=(aX (aE mN (iV 6) (iC .non)) (aA (.nm 4) (iOp bj (iV 4) (iOp a9 (iOp a9 (iOp dIx (iV 3) (iV 5)) (iOp jC (iOp a9 (iC (.int 2)) (iV 6)) (iC (.int 1)))) (av dJ (aa (iV 1) (aa (iV 2) (aa (iV 5) ae))))))) aS)
def ut:Sf:=(ag (aA (.nm 4) (iC (.int 0))) (ag (eE (bV (aa (iV 0) ae)) (.tp [5,6]) jV) (aL (iV 4))))
def jo:Fn:=bi 7 4 ut
def pK:Sf:=(aL (k7 (iCB lz (aa (iV 0) (aa (iC (.ty "int")) ae))) (yT (iCB lz (aa (iV 0) (aa (iC (.ty "bool")) ae))))))
def b8:Fn:=bi 1 1 pK
def cX:Ef:=(av b8 (aa (iV 0) ae))
def fJ:Sf:=(ag (aX (d6 (cK (cL c9 (iCB lz (aa (iV 4) (aa (iC (.ty "tuple")) ae))))) (d6 (aE dNe (iCB a8 (aa (iV 4) ae)) (iC (.int 2))) (d6 (cK (cL c9 (av b8 (aa (iOp dIx (iV 4) (iC (.int 1))) ae)))) (aE dEq (iOp dIx (iV 4) (iC (.int 1))) (iC (.int 0)))))) (aL (iC (.bl false))) aS) (ag (aX (d6 (cK (cL c9 (iCB lz (aa (iOp dIx (iV 4) (iC (.int 0))) (aa (iC (.ty "tuple")) ae))))) (d6 (cK (cL c9 (iCB AX (aa (aw (iLc 1 [] (aB (iOp dIx (iV 4) (iC (.int 0)))) (.nm 0) aN cX)) ae)))) (aE lH (iOp dIx (iV 4) (iC (.int 0))) (iV 1)))) (aL (iC (.bl false))) aS) (ag (aX (fF (aE dNe (iV 3) (aw (bO ae))) (cK (aE uB (iOp dIx (iV 3) (iUn gI (iC (.int 1)))) (iOp dIx (iV 4) (iC (.int 0)))))) (aL (iC (.bl false))) aS) (d5 (cD bv (iV 3) (aa (iOp dIx (iV 4) (iC (.int 0))) ae))))))
def gN:Sf:=(ag (aX (d6 (cK (cL c9 (iCB lz (aa (iV 2) (aa (iC (.ty "tuple")) ae))))) (d6 (aE dNe (iCB a8 (aa (iV 2) ae)) (iC (.int 2))) (d6 (cK (cL c9 (iCB lz (aa (iOp dIx (iV 2) (iC (.int 0))) (aa (iC (.ty "str")) ae))))) (aE dNe (iOp dIx (iV 2) (iC (.int 0))) (iV 0))))) (aL (iC (.bl false))) aS) (ag (aX (cK (cL c9 (iCB lz (aa (iOp dIx (iV 2) (iC (.int 1))) (aa (iC (.ty "tuple")) ae))))) (aL (iC (.bl false))) aS) (ag (aA (.nm 3) (cV (bO ae))) (ag (eE (aB (iOp dIx (iV 2) (iC (.int 1)))) (.nm 4) fJ) (aL (iC (.bl true)))))))
def d9:Fn:=fA 5 3 gN
def dh:Sf:=(aX (d6 (cK (cL c9 (av b8 (aa (iV 3) ae)))) (d6 (aE dLt (iV 3) (iC (.int 0))) (fF (aE iZ (iV 2) (iC .non)) (aE dGt (iV 3) (iC (.int 0)))))) (aL (iC (.bl false))) aS)
def jg:Sf:=(ag (aX (d6 (cK (cL c9 (iCB lz (aa (iV 1) (aa (iC (.ty "tuple")) ae))))) (aE dNe (iCB a8 (aa (iV 1) ae)) (iCB a8 (aa (iV 0) ae)))) (aL (iC (.bl false))) aS) (ag (eE (fG (aa (iV 0) (aa (iV 1) ae))) (.tp [2,3]) dh) (aL (iC (.bl true)))))
def cA:Fn:=bi 4 2 jg
def dk:Ef:=(iCB a8 (aa (iV 0) ae))
def oA:Sf:=(aL (iCB dMx (aa (iOp bj (aw (bO (aa (iC (.int 0)) ae))) (aw (iLc 2 [] (aB (iOp dIx (iV 0) (iC (.int 1)))) (.tp [0,1]) aN dk))) ae)))
def ft:Fn:=bi 1 1 oA
def fk:Ef:=(iOp dEq (av jo (aa (iV 1) (aa (iV 2) (aa (iV 0) (aa (iV 3) ae))))) (iC (.int 0)))
def rX:Sf:=(ag (aX (aE dEq (iV 3) (iC (.int 0))) (aL (iOp iZ (iV 4) (iC .non))) aS) (ag (aX (d6 (cK (cL c9 (av cA (aa (iV 0) (aa (iV 4) ae))))) (aE dEq (iCB yC (aa (iV 4) ae)) (iC (.int 0)))) (aL (iC (.bl false))) aS) (aL (iCB AX (aa (aw (iLc 1 [0,1,4] (aB (av cO (aa (iV 2) (aa (iOp jC (iV 3) (iC (.int 1))) ae)))) (.nm 0) aN fk)) ae)))))
def ij:Fn:=bi 5 5 rX
def mF:Sf:=(aL (k7 (av b8 (aa (iV 2) ae)) (k7 (av d9 (aa (iV 0) (aa (av cO (aa (iV 1) (aa (iV 1) ae))) (aa (iV 3) ae)))) (iOp dEq (av ft (aa (iV 3) ae)) (iV 2)))))
def nH:Fn:=bi 4 4 mF
def gF:Sf:=(ag (aX (d6 (cK (cL c9 (iCB lz (aa (iV 3) (aa (iC (.ty "tuple")) ae))))) (d6 (aE dNe (iCB a8 (aa (iV 3) ae)) (iC (.int 3))) (cK (cL c9 (av nH (aa (iV 1) (aa (iV 2) (aa (iOp dIx (iV 3) (iC (.int 0))) (aa (iOp dIx (iV 3) (iC (.int 1))) ae))))))))) (aL (iC (.bl false))) aS) (aL (k7 (iOp dGt (iCB dMi (aa (iOp bj (aw (bO (aa (iC (.int 1)) ae))) (av gn (aa (iV 0) (aa (iOp dIx (iV 3) (iC (.int 1))) ae)))) ae)) (iC (.int 0))) (av ij (aa (iV 0) (aa (iV 1) (aa (iV 2) (aa (iOp dIx (iV 3) (iC (.int 0))) (aa (iOp dIx (iV 3) (iC (.int 2))) ae)))))))))
def du:Fn:=bi 4 4 gF
def rY:Sf:=(aL (iOp dIx (aw (bO (aa (iC (.int 4)) (aa (iC (.int 3)) (aa (iC (.int 3)) (aa (iC (.int 2)) (aa (iC (.int 3)) (aa (iC (.int 2)) (aa (iC (.int 1)) (aa (iC (.int 0)) ae)))))))))) (av aJ (aa (iV 0) (aa (iC (.int 8)) ae)))))
def ik:Fn:=bi 1 1 rY
def jW:Sf:=(ag (aA (.nm 7) (av bX (aa (iV 4) (aa (iV 6) ae)))) (ag (aX (cK (cL c9 (av du (aa (iV 4) (aa (iV 6) (aa (iV 3) (aa (iV 7) ae))))))) (aL (iC (.bl false))) aS) (ag (aX (fF (aE dLt (iV 3) (iC (.int 4))) (aE dNe (av bX (aa (iV 4) (aa (iV 6) ae))) (iV 7))) (aL (iC (.bl false))) aS) (d5 (cD bv (iV 5) (aa (iOp dIx (iV 7) (iC (.int 0))) ae))))))
def wa:Sf:=(ag (aA (.nm 3) (iOp dIx (aw (bO (aa (av ik (aa (iV 1) ae)) (aa (av aJ (aa (iV 1) (aa (iC (.int 3)) ae))) ae)))) (iV 2))) (ag (aA (.nm 4) (av dq (aa (iV 1) (aa (iV 3) ae)))) (ag (aA (.nm 5) (cV (bO ae))) (ag (eE (aB (be (aa (iC (.str "both")) (aa (iC (.str "odd")) ae)))) (.nm 6) jW) (aX (aE dNe (iOp dIx (iV 5) (iC (.int 0))) (iOp dIx (iV 5) (iC (.int 1)))) (aL (iC (.bl false))) aS)))))
def E2:Sf:=(ag (aA (.nm 1) (av gm (aa (iV 0) ae))) (ag (eE (bz (aa (iC (.int 2)) ae)) (.nm 2) wa) (aL (iC (.bl true)))))
def tB:Fn:=fA 8 1 E2
end Own
section
set_option maxHeartbeats 0
namespace Own
open PySem L2
def top (i:Nat):Stmt:=PySem.Challenge.pw_signpoly_k37_least_degrees_told.main.body.getD i (.Pass ⟨0,0,0,0⟩)
def AW (s:Stmt):List Stmt:=match s with
 |.ClassDef _ _ _ b _ _ _ _ _ _ _=>b
 |_=>[]
abbrev cb:Stmt:=(AW (top 10)).getD 0 (.Pass ⟨0,0,0,0⟩)
theorem oI:cp ["self","rows","bounds","gains"] ["self","rows","bounds","gains"] (ar cb):=⟨U,U,U,by decide +kernel,U,by decide +kernel,by decide +kernel⟩
abbrev rT (x:Str) (i:Nat) (N:List Str) (k:Nat):Str×Nat×List Str×Nat:=(x,i,N,k)
def tbl:List (Str×Nat×List Str×Nat):=[rT "power_of_two" 1 ["k","power","step"] 1,rT "on_in" 2 ["row","k"] 2,rT "greatest_part" 3 ["numbers","found","number","rest","over"] 1,rT "lowered" 4 ["numbers","shared"] 1,rT "switches_of" 6 ["f","many","rows"] 1,rT "told_rows" 7 ["f"] 1,rT "sign_at" 8 ["f","row"] 2,rT "least_ratio" 11 ["places","tops","bottoms","least","place","mine","best"] 3,rT "weighed" 12 ["table"] 1,rT "numbers_by" 13 ["table","name","column"] 2,rT "leaving" 14 ["table","column","entries","places","name"] 2,rT "gains_more" 15 ["table","one","other","mine","best","name","numbers","more"] 3,rT "best_step" 16 ["table","best","column","step"] 1,rT "swept" 17 ["line","turning","column","part","pivot","entry","told"] 4,rT "exchange" 18 ["table","place","column","turning","part","lines","name"] 3,rT "way_of" 19 ["table","column","way","place","name"] 2,rT "amounts_of" 20 ["table","amounts","place","name"] 1,rT "prices_of" 21 ["table","prices","column","name"] 1,rT "found_most" 22 ["table","amounts","prices","shared"] 1,rT "most_of" 23 ["rows","bounds","gains","table","step"] 3,rT "terms_to" 25 ["n","size","terms","k"] 2,rT "value_of" 26 ["kind","term","row","many"] 3,rT "poly_from" 28 ["kind","numbers"] 2,rT "parted" 30 ["poly","number"] 2,rT "shrunk" 31 ["poly"] 1,rT "signed_value" 33 ["f","kind","term","row"] 4,rT "signed_values" 34 ["f","kind","terms"] 3,rT "one_at" 36 ["place","many"] 2,rT "both_ways" 37 ["numbers"] 1,rT "poly_by" 38 ["kind","terms","amounts","numbers","place","term"] 3,rT "weights_by" 39 ["f","numbers","weights","row","number"] 2,rT "split_of" 40 ["f","kind","terms","values","many","earned","limits","most"] 3,rT "solved" 41 ["f","kind","terms","split"] 3,rT "least_degree" 43 ["f","kind","n","bar","degree","answer"] 2,rT "_law_purse" 45 ["_law_script"] 1,rT "_law_mixed" 46 ["_law_number","_law_turn","_law_once"] 2,rT "_law_pick" 47 ["_law_purse_here","_law_many","_law_cell","_law_digit"] 2,rT "_law_on" 48 ["_law_row","_law_some"] 2,rT "_law_function" 49 ["_law_purse_here","_law_n","_law_way","_law_rows","_law_by_count","_law_values","_law_some","_law_last","_law_numbers"] 2,rT "_law_terms" 50 ["_law_n","_law_most","_law_found","_law_row","_law_term"] 2,rT "_law_value" 51 ["_law_kind","_law_term","_law_row","_law_count"] 3,rT "_law_at" 52 ["_law_poly","_law_row"] 2,rT "_law_right" 53 ["_law_f","_law_poly"] 2,rT "_law_sum" 54 ["_law_f","_law_kind","_law_term","_law_weights","_law_found","_law_row","_law_value_here"] 4,rT "_law_whole" 55 ["_law_thing"] 1,rT "_law_is_poly" 56 ["_law_kind","_law_terms_here","_law_thing","_law_ahead","_law_part"] 3,rT "_law_are_weights" 57 ["_law_f","_law_thing","_law_value_here","_law_weight"] 2,rT "_law_degree" 58 ["_law_poly"] 1,rT "_law_bars" 59 ["_law_f","_law_kind","_law_n","_law_degree_here","_law_thing"] 5,rT "_law_has" 60 ["_law_kind","_law_n","_law_degree_here","_law_poly"] 4,rT "_law_is_least" 61 ["_law_f","_law_kind","_law_n","_law_thing"] 4,rT "_law_size" 62 ["_law_purse_here"] 1,rT "law" 63 ["_law_script","_law_purse_here","_law_turn","_law_n","_law_f","_law_degrees","_law_kind","_law_told"] 1]
def tR (i:Nat):Str×Nat×List Str×Nat:=tbl.getD i ("",0,[],0)
def tN (i:Nat):Str:=(tR i).1
def tS (i:Nat):Stmt:=top (tR i).2.1
def tV (i:Nat):List Str:=(tR i).2.2.1
def tK (i:Nat):Nat:=(tR i).2.2.2
theorem scs:∀ p∈tbl,cp p.2.2.1 (p.2.2.1.take p.2.2.2) (ar (top p.2.1)):=by
 iterate 53 refine qc2.2 ⟨⟨U,U,U,by decide +kernel,U,by decide +kernel,by decide +kernel⟩,?_⟩
 exact λ_ h=>nomatch h
structure Txt (K:qae) (mg:Str->Option Value):Prop where
 F:∀ p∈tbl,∃ f g,Fun K p.1 p.1 (top p.2.1) f g/\mg p.1=some (.ref f)/\dc K g (p.2.2.1.take p.2.2.2) []
 z:∀ x∈(["abs","all","any","bool","enumerate","int","isinstance","len","list","max","min","range","sorted","str","sum","tuple","zip"]:List Str),mg x=none
 c:∃ a f g,mg "Table" = some (.ref a)/\Fun K "__init__" "Table.__init__" cb f g/\dc K g ["self","rows","bounds","gains"] []/\Mk K a f/\Cls K a/\∀ p∈bZ,cr K a p.1
section
variable {P:qaM}{w:World}{K:qae}{mg:Str->Option Value}{base:Heap}
theorem Cn {i:Nat} (h:i<53):tR i∈tbl:=by
 unfold tR;rw[qaE,qam (show i<tbl.length from h)];exact qbQ _
abbrev Bd (P:qaM) (w:World) (K:qae) (mg:Str->Option Value) (base:Heap) (k i:Nat) (b:Sf):Prop:=∀ (f:Addr) (d:Value) (A:qaY) (outer:List Env) (s:qai) (H:Hp) (E:XK),bu k (A.deeper (qjs (tN i) (ar (tS i)) s.heap.objs.size f d))->(fD CX0 P w K mg base (tV i) (tN i) (ar (tS i)) f d A outer s H E).nox.N=tV i->(fD CX0 P w K mg base (tV i) (tN i) (ar (tS i)) f d A outer s H E).nox.env.scope.names=(ar (tS i)).names->(tV i).Nodup->ISs K (fD CX0 P w K mg base (tV i) (tN i) (ar (tS i)) f d A outer s H E).nox (aZ (tS i)) b
abbrev Ck (P:qaM) (w:World) (K:qae) (mg:Str->Option Value) (base:Heap) (i j:Nat) (m:Fn):Prop:=Cal P w K mg base (tN i) j m
theorem AU {i k:Nat}{b:Sf} (T:Txt K mg) (hi:i<53) (hb:Bd P w K mg base k i b):Ck P w K mg base i (k+1) (bi (tV i).length ((tV i).take (tK i)).length b):=by
 obtain⟨f,g,F,m,B⟩:=T.F (tR i) (Cn hi);exact E6 F (scs _ (Cn hi)) m B (hb f)
theorem AV {i k:Nat}{b:Sf} (T:Txt K mg) (hi:i<53) (hb:Bd P w K mg base k i b):Ck P w K mg base i (k+1) (fA (tV i).length ((tV i).take (tK i)).length b):=by
 obtain⟨f,g,F,m,B⟩:=T.F (tR i) (Cn hi);exact E7 F (scs _ (Cn hi)) m B (hb f)
theorem mf {f:Addr}{g:qb4} (T:Txt K mg) (F:Fun K "__init__" "Table.__init__" cb f g):dD P w K mg base CX0 1 f g ["self","rows","bounds","gains"] (Cd K ["self","rows","bounds","gains"].length ["self","rows","bounds","gains"].length bZ):=
 Fb (N:=["self","rows","bounds","gains"]) (ps:=["self","rows","bounds","gains"]) (k:=0) (g:=bZ) F oI (by decide) (λ_ _ _ _ _ _ hr=>(gY U (by first|exact Or.inl U|exact Or.inr (Or.inl U)|exact Or.inr (Or.inr U)) (oW (fZ U) U (T.z _ (by decide)) qbp (bB (iv 3) ci U) (by decide) (by decide) U U) (gY U (by first|exact Or.inl U|exact Or.inr (Or.inl U)|exact Or.inr (Or.inr U)) (dI (yX (sY (ar cb).names ["self","rows","bounds","gains"] ["row","bound"] 2 [] U U U (by decide +kernel)) U (by decide) (ng U (T.z _ (by decide)) (bB (iv 1) (bB (iv 2) ci U) U) U U U) (λ_ _ _ _ _=>(m8 (fH (gx (i:=0) (show qht (α:=Str) ["row","bound"] by decide +kernel) U (by first|exact Or.inl U|exact Or.inr U)) (fH (gx (i:=1) (show qht (α:=Str) ["row","bound"] by decide +kernel) U (by first|exact Or.inl U|exact Or.inr U)) jL)) U U U U U)) (λ_ _ _ _ _=>iL) (λ_ _ _ _ _=>(m7 (jt U) (dI (CD (iF U) U (T.z _ (by decide)) qaU (bB (iv 0) ci U) (by decide) (by decide) U U)) (dI (kE (bB (iv 1) ci U))))) (λ_=>rfl))) (gY U (by first|exact Or.inl U|exact Or.inr (Or.inl U)|exact Or.inr (Or.inr U)) (m7 (jt U) (dI (yX (sY (ar cb).names ["self","rows","bounds","gains"] ["gain"] 1 [] U U U (by decide +kernel)) U (by decide) (m9 (iv 3) U) (λ_ _ _ _ _=>(jK (gx (i:=0) (show qht (α:=Str) ["gain"] by decide +kernel) U (by first|exact Or.inl U|exact Or.inr U)))) (λ_ _ _ _ _=>iL) (λ_ _ _ _ _=>(m6 (iv 0))) (λ_=>rfl))) (dI (kE (bB kD ci U)))) (gY U (by first|exact Or.inl U|exact Or.inr (Or.inl U)|exact Or.inr (Or.inr U)) kD (gY U (by first|exact Or.inl U|exact Or.inr (Or.inl U)|exact Or.inr (Or.inr U)) (kF (nh U (T.z _ (by decide)) U (T.z _ (by decide)) (bB (oW (fZ U) U (T.z _ (by decide)) qbp (bB (iv 3) ci U) (by decide) (by decide) U U) ci U) U U)) (Bc U (by first|exact Or.inl U|exact Or.inr (Or.inl U)|exact Or.inr (Or.inr U)) (kF (ni U (T.z _ (by decide)) U (T.z _ (by decide)) (bB (oW (fZ U) U (T.z _ (by decide)) qbp (bB (iv 3) ci U) (by decide) (by decide) U U) (bB (m7 (jt U) (oW (fZ U) U (T.z _ (by decide)) qbp (bB (iv 3) ci U) (by decide) (by decide) U U) (oW (fZ U) U (T.z _ (by decide)) qbp (bB (iv 1) ci U) (by decide) (by decide) U U)) ci U) U) U U U)) U U) (by intro z;cases z) U U) (by intro z;cases z) U U) (by intro z;cases z) U U) (by intro z;cases z) U U) (by intro z;cases z) U U))
theorem scL:cp ["_law_script","_law_purse_here","_law_turn","_law_n","_law_f","_law_degrees","_law_kind","_law_told"] ["_law_script"] (ar (top 63)):=scs (rT "law" 63 ["_law_script","_law_purse_here","_law_turn","_law_n","_law_f","_law_degrees","_law_kind","_law_told"] 1) (by decide +kernel)
theorem DN (T:Txt K mg):Ck P w K mg base 0 1 eh/\Ck P w K mg base 1 2 qU/\Ck P w K mg base 2 1 bo/\Ck P w K mg base 3 2 cZ/\Ck P w K mg base 4 1 fz/\Ck P w K mg base 5 1 bY/\Ck P w K mg base 6 1 fL/\Ck P w K mg base 7 1 fu/\Ck P w K mg base 8 1 dR/\Ck P w K mg base 9 1 cP/\Ck P w K mg base 10 2 iM/\Ck P w K mg base 11 2 b9/\Ck P w K mg base 12 3 bM:=by
 obtain⟨a,v,y,c1,c2,c3,o,I,t⟩:=T.c;have O:=mf (P:=P) (w:=w) (base:=base) T c2
 repeat' first
  |assumption
  |exact rfl
  |decide
  |exact Or.inl rfl
  |exact Or.inr rfl
  |exact Or.inr (Or.inl rfl)
  |exact Or.inr (Or.inr rfl)
  |apply lZ
  |apply l5
  |apply iK
  |apply jS
  |apply nh
  |apply ni
  |apply ci
  |apply bB
  |apply kD
  |apply iv
  |apply m7
  |apply qI
  |(apply qhv;apply gZ;(case hsw=>exact U);(case hns=>assumption);(case hN=>assumption);(case h=>decide +kernel))
  |(apply qgT;apply gZ;(case hsw=>exact U);(case hns=>assumption);(case hN=>assumption);(case h=>decide +kernel))
  |apply qJ
  |apply vQ
  |apply vP
  |apply lM
  |apply qL
  |apply vX
  |apply qB
  |(apply qC;(case hns=>assumption);(case hN=>assumption);(case h=>decide +kernel))
  |apply lQ
  |apply lP
  |apply ng
  |apply m9
  |apply qw
  |apply vL
  |apply qA
  |apply iL
  |apply l6
  |apply qH
  |apply jQ
  |apply vY
  |apply l8
  |apply qO
  |apply jT
  |apply l7
  |apply qM
  |apply m6
  |apply vO
  |apply qr
  |apply kE
  |apply vT
  |apply lX
  |apply jR
  |apply lU
  |apply lT
  |apply jP
  |apply lS
  |apply lR
  |(apply lY;(case hns=>assumption);(case hN=>assumption);(case h=>decide +kernel))
  |apply jJ (N:=["self","rows","bounds","gains"]) (ps:=["self","rows","bounds","gains"])
  |refine jI rfl (by assumption) (by assumption) ?_ ?_ ?_ ?_ ?_ ?_
  |refine iI rfl (by assumption) (by assumption) ?_ ?_ ?_ ?_ ?_ ?_
  |refine vN (by with_reducible first|exact qbg|exact qbf|exact qbe|exact qa5|exact qbd|exact qaW|exact qaU|exact qbc|exact qbb|exact qa0|exact qba|exact qa9|exact qa4|exact qbp) ?_ ?_ ?_ ?_ ?_ ?_ ?_ ?_ ?_
  |refine vS (by with_reducible first|exact qbg|exact qbf|exact qbe|exact qa5|exact qbd|exact qaW|exact qaU|exact qbc|exact qbb|exact qa0|exact qba|exact qa9|exact qa4|exact qbp) ?_ ?_ ?_ ?_ ?_ ?_ ?_ ?_ ?_
  |apply qq
  |apply iH
  |apply qt
  |apply qu
  |apply qv
  |apply lN
  |apply lO
  |apply qx
  |apply qy
  |apply qz
  |refine vR ?_ ?_ (by with_reducible first|exact qbg|exact qbf|exact qbe|exact qa5|exact qbd|exact qaW|exact qaU|exact qbc|exact qbb|exact qa0|exact qba|exact qa9|exact qa4|exact qbp) ?_ ?_
  |apply jM
  |apply qG
  |refine lV (λ_ h=>rA U (by assumption) U U (by decide) U U h U) ?_
  |apply lW
  |apply iJ
  |apply dI
  |apply kF
  |apply qN
  |exact T.z _ (by decide)
  |exact qem
  |exact nomark _
  |exact λ_=>rfl
  |with_reducible first|apply jt|apply qW|apply wq|apply md|apply qX|apply wt|apply wu|apply wv|apply qY|apply ww|apply tQ|apply qZ|apply q9|apply rd|apply wx|apply iQ|apply me|apply re|apply rg|apply rh|apply rj|apply rn|apply pT|apply pU|apply pV|apply pW|apply pX|apply fZ|apply vw|apply vz|apply pY|apply pZ|apply iF|apply jB|apply lG
  |apply gx
  |apply jL
  |apply fH
  |apply jK
  |apply m8
  |apply ad
  |(apply AU T;(case hi=>decide);unfold Bd;(conv in (occs:=*) tV _=>whnf);(conv in (occs:=*) ar _=>whnf);(conv in aZ _=>whnf);intros)
  |(apply AV T;(case hi=>decide);unfold Bd;(conv in (occs:=*) tV _=>whnf);(conv in (occs:=*) ar _=>whnf);(conv in aZ _=>whnf);intros)
  |(refine vH (by assumption) scL ?_;(conv in aZ _=>whnf);intros)
  |intro
theorem FR (T:Txt K mg):Ck P w K mg base 13 1 j5/\Ck P w K mg base 14 2 ef/\Ck P w K mg base 15 3 j6/\Ck P w K mg base 16 1 gq/\Ck P w K mg base 17 1 iq/\Ck P w K mg base 18 2 gr/\Ck P w K mg base 19 4 iN/\Ck P w K mg base 20 1 ek/\Ck P w K mg base 21 3 jq/\Ck P w K mg base 22 1 io/\Ck P w K mg base 23 1 nJ/\Ck P w K mg base 24 2 nK/\Ck P w K mg base 25 4 cQ:=by
 obtain⟨h0,h1,h2,h3,Y,h5,X,h7,h8,W,l,e,n⟩:=DN (P:=P) (w:=w) (base:=base) T;obtain⟨a,v,y,c1,c2,c3,o,I,t⟩:=T.c;have O:=mf (P:=P) (w:=w) (base:=base) T c2
 repeat' first
  |assumption
  |exact rfl
  |decide
  |exact Or.inl rfl
  |exact Or.inr rfl
  |exact Or.inr (Or.inl rfl)
  |exact Or.inr (Or.inr rfl)
  |apply lZ
  |apply l5
  |apply iK
  |apply jS
  |apply nh
  |apply ni
  |apply ci
  |apply bB
  |apply kD
  |apply iv
  |apply m7
  |apply qI
  |(apply qhv;apply gZ;(case hsw=>exact U);(case hns=>assumption);(case hN=>assumption);(case h=>decide +kernel))
  |(apply qgT;apply gZ;(case hsw=>exact U);(case hns=>assumption);(case hN=>assumption);(case h=>decide +kernel))
  |apply qJ
  |apply vQ
  |apply vP
  |apply lM
  |apply qL
  |apply vX
  |apply qB
  |(apply qC;(case hns=>assumption);(case hN=>assumption);(case h=>decide +kernel))
  |apply lQ
  |apply lP
  |apply ng
  |apply m9
  |apply qw
  |apply vL
  |apply qA
  |apply iL
  |apply l6
  |apply qH
  |apply jQ
  |apply vY
  |apply l8
  |apply qO
  |apply jT
  |apply l7
  |apply qM
  |apply m6
  |apply vO
  |apply qr
  |apply kE
  |apply vT
  |apply lX
  |apply jR
  |apply lU
  |apply lT
  |apply jP
  |apply lS
  |apply lR
  |(apply lY;(case hns=>assumption);(case hN=>assumption);(case h=>decide +kernel))
  |apply jJ (N:=["self","rows","bounds","gains"]) (ps:=["self","rows","bounds","gains"])
  |refine jI rfl (by assumption) (by assumption) ?_ ?_ ?_ ?_ ?_ ?_
  |refine iI rfl (by assumption) (by assumption) ?_ ?_ ?_ ?_ ?_ ?_
  |refine vN (by with_reducible first|exact qbg|exact qbf|exact qbe|exact qa5|exact qbd|exact qaW|exact qaU|exact qbc|exact qbb|exact qa0|exact qba|exact qa9|exact qa4|exact qbp) ?_ ?_ ?_ ?_ ?_ ?_ ?_ ?_ ?_
  |refine vS (by with_reducible first|exact qbg|exact qbf|exact qbe|exact qa5|exact qbd|exact qaW|exact qaU|exact qbc|exact qbb|exact qa0|exact qba|exact qa9|exact qa4|exact qbp) ?_ ?_ ?_ ?_ ?_ ?_ ?_ ?_ ?_
  |apply qq
  |apply iH
  |apply qt
  |apply qu
  |apply qv
  |apply lN
  |apply lO
  |apply qx
  |apply qy
  |apply qz
  |refine vR ?_ ?_ (by with_reducible first|exact qbg|exact qbf|exact qbe|exact qa5|exact qbd|exact qaW|exact qaU|exact qbc|exact qbb|exact qa0|exact qba|exact qa9|exact qa4|exact qbp) ?_ ?_
  |apply jM
  |apply qG
  |refine lV (λ_ h=>rA U (by assumption) U U (by decide) U U h U) ?_
  |apply lW
  |apply iJ
  |apply dI
  |apply kF
  |apply qN
  |exact T.z _ (by decide)
  |exact qem
  |exact nomark _
  |exact λ_=>rfl
  |with_reducible first|apply jt|apply qW|apply wq|apply md|apply qX|apply wt|apply wu|apply wv|apply qY|apply ww|apply tQ|apply qZ|apply q9|apply rd|apply wx|apply iQ|apply me|apply re|apply rg|apply rh|apply rj|apply rn|apply pT|apply pU|apply pV|apply pW|apply pX|apply fZ|apply vw|apply vz|apply pY|apply pZ|apply iF|apply jB|apply lG
  |apply gx
  |apply jL
  |apply fH
  |apply jK
  |apply m8
  |apply ad
  |(apply AU T;(case hi=>decide);unfold Bd;(conv in (occs:=*) tV _=>whnf);(conv in (occs:=*) ar _=>whnf);(conv in aZ _=>whnf);intros)
  |(apply AV T;(case hi=>decide);unfold Bd;(conv in (occs:=*) tV _=>whnf);(conv in (occs:=*) ar _=>whnf);(conv in aZ _=>whnf);intros)
  |(refine vH (by assumption) scL ?_;(conv in aZ _=>whnf);intros)
  |intro
theorem GV (T:Txt K mg):Ck P w K mg base 26 5 dw/\Ck P w K mg base 27 1 jZ/\Ck P w K mg base 28 1 im/\Ck P w K mg base 29 3 iO/\Ck P w K mg base 30 2 dL/\Ck P w K mg base 31 6 jp/\Ck P w K mg base 32 7 j0/\Ck P w K mg base 33 8 bX/\Ck P w K mg base 34 1 gm/\Ck P w K mg base 35 1 cN/\Ck P w K mg base 36 2 aJ/\Ck P w K mg base 37 1 dQ/\Ck P w K mg base 38 3 dq:=by
 obtain⟨h0,h1,h2,h3,Y,h5,X,h7,h8,W,l,e,n⟩:=DN (P:=P) (w:=w) (base:=base) T;obtain⟨Q,J,L,S,r,C,D,M,q,G,V,R,u⟩:=FR (P:=P) (w:=w) (base:=base) T;obtain⟨a,v,y,c1,c2,c3,o,I,t⟩:=T.c;have O:=mf (P:=P) (w:=w) (base:=base) T c2
 repeat' first
  |assumption
  |exact rfl
  |decide
  |exact Or.inl rfl
  |exact Or.inr rfl
  |exact Or.inr (Or.inl rfl)
  |exact Or.inr (Or.inr rfl)
  |apply lZ
  |apply l5
  |apply iK
  |apply jS
  |apply nh
  |apply ni
  |apply ci
  |apply bB
  |apply kD
  |apply iv
  |apply m7
  |apply qI
  |(apply qhv;apply gZ;(case hsw=>exact U);(case hns=>assumption);(case hN=>assumption);(case h=>decide +kernel))
  |(apply qgT;apply gZ;(case hsw=>exact U);(case hns=>assumption);(case hN=>assumption);(case h=>decide +kernel))
  |apply qJ
  |apply vQ
  |apply vP
  |apply lM
  |apply qL
  |apply vX
  |apply qB
  |(apply qC;(case hns=>assumption);(case hN=>assumption);(case h=>decide +kernel))
  |apply lQ
  |apply lP
  |apply ng
  |apply m9
  |apply qw
  |apply vL
  |apply qA
  |apply iL
  |apply l6
  |apply qH
  |apply jQ
  |apply vY
  |apply l8
  |apply qO
  |apply jT
  |apply l7
  |apply qM
  |apply m6
  |apply vO
  |apply qr
  |apply kE
  |apply vT
  |apply lX
  |apply jR
  |apply lU
  |apply lT
  |apply jP
  |apply lS
  |apply lR
  |(apply lY;(case hns=>assumption);(case hN=>assumption);(case h=>decide +kernel))
  |apply jJ (N:=["self","rows","bounds","gains"]) (ps:=["self","rows","bounds","gains"])
  |refine jI rfl (by assumption) (by assumption) ?_ ?_ ?_ ?_ ?_ ?_
  |refine iI rfl (by assumption) (by assumption) ?_ ?_ ?_ ?_ ?_ ?_
  |refine vN (by with_reducible first|exact qbg|exact qbf|exact qbe|exact qa5|exact qbd|exact qaW|exact qaU|exact qbc|exact qbb|exact qa0|exact qba|exact qa9|exact qa4|exact qbp) ?_ ?_ ?_ ?_ ?_ ?_ ?_ ?_ ?_
  |refine vS (by with_reducible first|exact qbg|exact qbf|exact qbe|exact qa5|exact qbd|exact qaW|exact qaU|exact qbc|exact qbb|exact qa0|exact qba|exact qa9|exact qa4|exact qbp) ?_ ?_ ?_ ?_ ?_ ?_ ?_ ?_ ?_
  |apply qq
  |apply iH
  |apply qt
  |apply qu
  |apply qv
  |apply lN
  |apply lO
  |apply qx
  |apply qy
  |apply qz
  |refine vR ?_ ?_ (by with_reducible first|exact qbg|exact qbf|exact qbe|exact qa5|exact qbd|exact qaW|exact qaU|exact qbc|exact qbb|exact qa0|exact qba|exact qa9|exact qa4|exact qbp) ?_ ?_
  |apply jM
  |apply qG
  |refine lV (λ_ h=>rA U (by assumption) U U (by decide) U U h U) ?_
  |apply lW
  |apply iJ
  |apply dI
  |apply kF
  |apply qN
  |exact T.z _ (by decide)
  |exact qem
  |exact nomark _
  |exact λ_=>rfl
  |with_reducible first|apply jt|apply qW|apply wq|apply md|apply qX|apply wt|apply wu|apply wv|apply qY|apply ww|apply tQ|apply qZ|apply q9|apply rd|apply wx|apply iQ|apply me|apply re|apply rg|apply rh|apply rj|apply rn|apply pT|apply pU|apply pV|apply pW|apply pX|apply fZ|apply vw|apply vz|apply pY|apply pZ|apply iF|apply jB|apply lG
  |apply gx
  |apply jL
  |apply fH
  |apply jK
  |apply m8
  |apply ad
  |(apply AU T;(case hi=>decide);unfold Bd;(conv in (occs:=*) tV _=>whnf);(conv in (occs:=*) ar _=>whnf);(conv in aZ _=>whnf);intros)
  |(apply AV T;(case hi=>decide);unfold Bd;(conv in (occs:=*) tV _=>whnf);(conv in (occs:=*) ar _=>whnf);(conv in aZ _=>whnf);intros)
  |(refine vH (by assumption) scL ?_;(conv in aZ _=>whnf);intros)
  |intro
theorem GW (T:Txt K mg):Ck P w K mg base 39 1 cO/\Ck P w K mg base 40 2 dJ/\Ck P w K mg base 41 3 kL/\Ck P w K mg base 42 4 gn/\Ck P w K mg base 43 3 jo/\Ck P w K mg base 44 1 b8/\Ck P w K mg base 45 2 d9/\Ck P w K mg base 46 2 cA/\Ck P w K mg base 47 1 ft/\Ck P w K mg base 48 4 ij/\Ck P w K mg base 49 3 nH/\Ck P w K mg base 50 5 du/\Ck P w K mg base 51 3 ik/\∀ f g,Fun K "law" "law" (top 63) f g->dD P w K mg base CX0 9 f g ["_law_script"] (spI K tB):=by
 obtain⟨h0,h1,h2,h3,Y,h5,X,h7,h8,W,l,e,n⟩:=DN (P:=P) (w:=w) (base:=base) T;obtain⟨Q,J,L,S,r,C,D,M,q,G,V,R,u⟩:=FR (P:=P) (w:=w) (base:=base) T;obtain⟨h26,h27,h28,h29,h30,h31,h32,h33,h34,h35,h36,h37,h38⟩:=GV (P:=P) (w:=w) (base:=base) T;obtain⟨a,v,y,c1,c2,c3,o,I,t⟩:=T.c;have O:=mf (P:=P) (w:=w) (base:=base) T c2
 repeat' first
  |assumption
  |exact rfl
  |decide
  |exact Or.inl rfl
  |exact Or.inr rfl
  |exact Or.inr (Or.inl rfl)
  |exact Or.inr (Or.inr rfl)
  |apply lZ
  |apply l5
  |apply iK
  |apply jS
  |apply nh
  |apply ni
  |apply ci
  |apply bB
  |apply kD
  |apply iv
  |apply m7
  |apply qI
  |(apply qhv;apply gZ;(case hsw=>exact U);(case hns=>assumption);(case hN=>assumption);(case h=>decide +kernel))
  |(apply qgT;apply gZ;(case hsw=>exact U);(case hns=>assumption);(case hN=>assumption);(case h=>decide +kernel))
  |apply qJ
  |apply vQ
  |apply vP
  |apply lM
  |apply qL
  |apply vX
  |apply qB
  |(apply qC;(case hns=>assumption);(case hN=>assumption);(case h=>decide +kernel))
  |apply lQ
  |apply lP
  |apply ng
  |apply m9
  |apply qw
  |apply vL
  |apply qA
  |apply iL
  |apply l6
  |apply qH
  |apply jQ
  |apply vY
  |apply l8
  |apply qO
  |apply jT
  |apply l7
  |apply qM
  |apply m6
  |apply vO
  |apply qr
  |apply kE
  |apply vT
  |apply lX
  |apply jR
  |apply lU
  |apply lT
  |apply jP
  |apply lS
  |apply lR
  |(apply lY;(case hns=>assumption);(case hN=>assumption);(case h=>decide +kernel))
  |apply jJ (N:=["self","rows","bounds","gains"]) (ps:=["self","rows","bounds","gains"])
  |refine jI rfl (by assumption) (by assumption) ?_ ?_ ?_ ?_ ?_ ?_
  |refine iI rfl (by assumption) (by assumption) ?_ ?_ ?_ ?_ ?_ ?_
  |refine vN (by with_reducible first|exact qbg|exact qbf|exact qbe|exact qa5|exact qbd|exact qaW|exact qaU|exact qbc|exact qbb|exact qa0|exact qba|exact qa9|exact qa4|exact qbp) ?_ ?_ ?_ ?_ ?_ ?_ ?_ ?_ ?_
  |refine vS (by with_reducible first|exact qbg|exact qbf|exact qbe|exact qa5|exact qbd|exact qaW|exact qaU|exact qbc|exact qbb|exact qa0|exact qba|exact qa9|exact qa4|exact qbp) ?_ ?_ ?_ ?_ ?_ ?_ ?_ ?_ ?_
  |apply qq
  |apply iH
  |apply qt
  |apply qu
  |apply qv
  |apply lN
  |apply lO
  |apply qx
  |apply qy
  |apply qz
  |refine vR ?_ ?_ (by with_reducible first|exact qbg|exact qbf|exact qbe|exact qa5|exact qbd|exact qaW|exact qaU|exact qbc|exact qbb|exact qa0|exact qba|exact qa9|exact qa4|exact qbp) ?_ ?_
  |apply jM
  |apply qG
  |refine lV (λ_ h=>rA U (by assumption) U U (by decide) U U h U) ?_
  |apply lW
  |apply iJ
  |apply dI
  |apply kF
  |apply qN
  |exact T.z _ (by decide)
  |exact qem
  |exact nomark _
  |exact λ_=>rfl
  |with_reducible first|apply jt|apply qW|apply wq|apply md|apply qX|apply wt|apply wu|apply wv|apply qY|apply ww|apply tQ|apply qZ|apply q9|apply rd|apply wx|apply iQ|apply me|apply re|apply rg|apply rh|apply rj|apply rn|apply pT|apply pU|apply pV|apply pW|apply pX|apply fZ|apply vw|apply vz|apply pY|apply pZ|apply iF|apply jB|apply lG
  |apply gx
  |apply jL
  |apply fH
  |apply jK
  |apply m8
  |apply ad
  |(apply AU T;(case hi=>decide);unfold Bd;(conv in (occs:=*) tV _=>whnf);(conv in (occs:=*) ar _=>whnf);(conv in aZ _=>whnf);intros)
  |(apply AV T;(case hi=>decide);unfold Bd;(conv in (occs:=*) tV _=>whnf);(conv in (occs:=*) ar _=>whnf);(conv in aZ _=>whnf);intros)
  |(refine vH (by assumption) scL ?_;(conv in aZ _=>whnf);intros)
  |intro
end
end Own
end
namespace L2
open PySem
def cn:Nat->List (List Int)
 |0=>[[]]
 |n+1=>cn n++(cn n).map λt=>t++[(n:Int)]
def xf (n:Nat):List (List Int):=ax (cn n)
theorem jH:∀ n,(cn n).length=2^n
 |0=>rfl
 |n+1=>by rw[cn,qaz,qah,jH n];lia
def Trm (n:Nat) (t:List Int):Prop:=t.Pairwise (·<·)/\∀ k∈t,0<=k/\k<n
theorem Trm.mono {n m:Nat}{t:List Int} (h:Trm n t) (hn:n<=m):Trm m t:=⟨h.1,λk a=>⟨(h.2 k a).1,by have:=(h.2 k a).2;lia⟩⟩
theorem dZ:∀ (n:Nat) {t:List Int},t∈cn n->Trm n t
 |0,t,h=>by
  rw[cn,qal]at h;subst h;exact⟨List.Pairwise.nil,λk c=>by cases c⟩
 |n+1,t,h=>by
  rcases qaR.mp h with h|h
  ·exact (dZ n h).mono (qcW n)
  ·obtain⟨u,d,rfl⟩:=qaF.mp h
   have:=dZ n d
   refine⟨List.pairwise_append.mpr ⟨this.1,qgn _ _,λa e b hb=>?_⟩,λk c=>?_⟩
   ·rw[qal.mp hb];exact (this.2 a e).2
   ·rcases qaR.mp c with c|c
    ·exact⟨(this.2 k c).1,by have:=(this.2 k c).2;lia⟩
    ·rw[qal.mp c];lia
theorem rO {n:Nat}{t:List Int} (h:Trm n t):t.length<=n:=by
 have b:∀ (t:List Int) (a:Int),t.Pairwise (·<·)->(∀ k∈t,a<=k/\k<n)->(t.length)<=max 0 ((n) - a):=by
  intro t
  induction t with
  |nil=>intro a _ _;simp;lia
  |cons x t e=>
   intro a c hm;have f:=hm x qag
   have:=e _ (qbi.mp c).2 λk d=>⟨(qbi.mp c).1 k d,(hm k (qaj _ d)).2⟩
   rw[qaq];lia
 have:=b t 0 h.1 h.2
 lia
theorem jd (p:List Int->Bool) (l:List (List Int)):ax (l.filter p)=(ax l).filter p:=
 gB ((aI _).trans ((aI l).symm.filter p)) (bQ _) ((bQ l).filter p)
def dH (m:Int):Nat->List (List Int)
 |0=>[[]]
 |n+1=>dH m n++((dH m n).filter λt=>decide ((t.length:Int)<m)).map λt=>t++[(n:Int)]
theorem lJ (m:Int) (a:0<=m):∀ n,dH m n=(cn n).filter λt=>decide ((t.length:Int)<=m)
 |0=>by simp[dH,cn,a]
 |n+1=>by
  rw[dH,cn,qd4,lJ m a n,List.filter_filter,qfS]
  congr 2
  refine qfn λt _=>?_
  simp
  lia
theorem sH (m:Int) (a:0<=m) (n:Nat):(dH m n).length<=2^n:=by
 rw[lJ m a,<-jH n];exact qb6 _ _
def onI (row k:Int):Int:=row / 2^k.toNat%2
def bL (row:Int):List Int->Int
 |[]=>0
 |k::t=>onI row k+bL row t
theorem wy (row k:Int):onI row k=0\/onI row k=1:=by unfold onI;lia
theorem mK (row:Int):∀ t:List Int,(t.map (onI row)).sum=bL row t
 |[]=>rfl
 |k::t=>by rw[qaw,qcn,mK row t];rfl
theorem vB (row:Int):∀ t:List Int,0<=bL row t/\bL row t<=t.length
 |[]=>by simp[bL]
 |k::t=>by
  have a:=vB row t;rcases wy row k with e|e<;>(simp only[bL,e,qaq];lia)
def fW (u:D):Prop:=u=.non\/u=.int 0\/u=.int 1
def bJ:Nat->List D->List Int
 |_,[]=>[]
 |i,.non::r=>bJ (i+1) r
 |i,_::r=>(i:Int)::bJ (i+1) r
def sgD:D->Int
 |.int v=>if v=1 then 1 else -1
 |_=>1
theorem kP:∀ (r:List D) (i:Nat) {j:Int},j∈bJ i r->∃ m:Nat,j=((i+m:Nat):Int)/\m<r.length/\r[m]?≠some .non
 |[],i,j,h=>by cases h
 |d::r,i,j,h=>by
  have up:j∈bJ _ r->∃ m:Nat,j=((i+m))/\m<(d::r).length/\(d::r)[m]?≠some .non:=λh=>by
   obtain⟨m,e,hm,hn⟩:=kP r (i+1) h;exact⟨m+1,by lia,by simpa using hm,by simpa using hn⟩
  cases d with
  |non=>exact up h
  |_=>
   rcases qay.mp h with rfl|h
   ·exact⟨0,by simp,by simp,by simp⟩
   ·exact up h
def B5:D->Bool
 |.tup [_,v]=>!dC v
 |_=>false
def Eo:D->D
 |.tup [j,_]=>j
 |d=>d
theorem om:∀ (r:List D) (i:Nat),((ce i r).filter B5).map Eo=(bJ i r).map D.int
 |[],i=>rfl
 |d::r,i=>by
  have a:=om r (i+1);have b:ce i (d::r)=.tup [.int _,d]::ce _ r:=rfl;rw[b,qeq];cases d<;>first
   |(exact a)
   |(rw[iFP (show B5 _=true from rfl),qaw,a];rfl)
theorem pj:∀ (r:List D) (i:Nat),(bJ i r).length<=r.length
 |[],i=>qao _
 |d::r,i=>by
  have a:=pj r (i+1);cases d<;>first
   |(show (bJ _ r).length<=r.length+1;lia)
   |(show (bJ _ r).length+1<=r.length+1;lia)
abbrev Prt:=List Int×Int
def bP (p:Prt):D:=.tup [ak p.1,.int p.2]
def bA (kd:Str) (ps:List Prt):D:=.tup [.str kd,.tup (ps.map bP)]
theorem x6 {ps:List Prt}{i:Nat}{d:D} (h:(ps.map bP)[i]?=some d):∃ p,ps[i]?=some p/\d=.tup [ak p.1,.int p.2]:=by
 rw[qaA,qad]at h;obtain⟨p,a,rfl⟩:=h;exact⟨p,a,U⟩
theorem wj:∀ (ns:List Int) (m:Int),m<=jr ns m/\∀ n∈ns,n<=jr ns m
 |[],m=>⟨qb3 _,λ_ h=>by cases h⟩
 |n::ns,m=>by
  have b:=wj ns (if n > m then n else m);rw[jr];refine⟨qea ?_ b.1,λk a=>?_⟩
  ·split<;>lia
  ·rcases qay.mp a with rfl|a
   ·split<;>lia
   ·exact b.2 k a
def df:Nat->List Int->Nat
 |g,[]=>g
 |g,n::ns=>df (qf2 g n.natAbs) ns
theorem sF (n:Int):∀ (g:Nat) (ns:List Int),df g (ns++[n])=qf2 (df g ns) n.natAbs
 |g,[]=>rfl
 |g,m::ns=>sF n _ ns
theorem dg:∀ (g:Nat) (ns:List Int),df g ns∣g/\∀ n∈ns,df g ns∣n.natAbs
 |g,[]=>⟨Nat.dvd_refl _,λ_ h=>by cases h⟩
 |g,m::ns=>by
  have a:=dg (qf2 g m.natAbs) ns;refine⟨qiz a.1 (Nat.gcd_dvd_left _ _),λn hn=>?_⟩;rcases qay.mp hn with rfl|hn
  ·exact qiz a.1 (Nat.gcd_dvd_right _ _)
  ·exact a.2 n hn
theorem yN {ns:List Int}{n:Int} (hn:n∈ns) (b:n≠0):0<df 0 ns/\df 0 ns<=n.natAbs:=by
 have h:=(dg 0 ns).2 n hn;have a:0<n.natAbs:=by lia
 exact⟨Nat.pos_of_dvd_of_pos h a,Nat.le_of_dvd a h⟩
theorem wk {M:Int}:∀ (ns:List Int) (m:Int),m<=M->(∀ n∈ns,n<=M)->jr ns m<=M
 |[],m,hm,_=>hm
 |n::ns,m,hm,h=>by
  refine wk ns _ ?_ λk a=>h k (qaj _ a)
  have:=h n qag
  split<;>lia
theorem ac {g:Sto->W->W->Option D}{a b:Ef}{env:Ev}{st s1 c:Sto}{x y:W}{d:D} (e:a env st=some (x,s1)) (hb:b env s1=some (y,c)) (hg:g c x y=some d):iOp g a b env st=some (.d d,c):=by
 simp only[iOp,e,hb,hg,qaa,qap]
theorem ao {g:Sto->W->W->Option D}{a b:Ef}{env:Ev}{st s1 c:Sto}{x y:W}{k:Bool} (d:a env st=some (x,s1)) (hb:b env s1=some (y,c)) (hg:g c x y=some (.bl k)):aE g a b env st=some (k,c):=by
 simp only[aE,d,hb,hg,qaa,xn,qap]
theorem gy {a b:Sf}{env e:Ev}{st s:Sto}{r:Fl} (c:a env st=some (.nx e s)) (hb:b e s=some r):ag a b env st=some r:=by
 simp only[ag,c,hb,qaa]
theorem wH {a b:Sf}{env:Ev}{st s:Sto}{w:W} (c:a env st=some (.rt w s)):ag a b env st=some (.rt w s):=by
 simp only[ag,c,qaa]
theorem aj {i:Nat}{f:Ef}{env:Ev}{st s:Sto}{w:W} (h:f env st=some (w,s)):aA (.nm i) f env st=some (.nx (env.set i (some w)) s):=by
 simp only[aA,h,qaa,eF,qap]
theorem ah {m:Fn}{a:Af}{env:Ev}{st s:Sto}{ws:List W}{r:W×Sto} (b:a env st=some (ws,s)) (hm:m ws s=some r):av m a env st=some r:=by
 simp only[av,b,hm,qaa]
theorem aG {g:Sto->List W->Option D}{a:Af}{env:Ev}{st s:Sto}{ws:List W}{d:D} (b:a env st=some (ws,s)) (hm:g s ws=some d):iCB g a env st=some (.d d,s):=by
 simp only[iCB,b,hm,qaa,qap]
theorem ab {a:Ef}{b:Af}{env:Ev}{st s1 c:Sto}{x:W}{y:List W} (d:a env st=some (x,s1)) (hb:b env s1=some (y,c)):aa a b env st=some (x::y,c):=by
 simp only[aa,d,hb,qaa,qap]
theorem bn {a:Lf}{g:Tg}{b:Sf}{env:Ev}{st s:Sto}{ds:List D}{r:Fl} (h:a env st=some (ds,s)) (c:cf g b ds env s=some r):eE a g b env st=some r:=by
 simp only[eE,h,c,qaa]
theorem aD {f:Ef}{env:Ev}{st s:Sto}{w:W} (h:f env st=some (w,s)):aL f env st=some (.rt w s):=by
 simp only[aL,h,qap]
theorem CS {c:Tf}{a b:Sf}{env:Ev}{st s:Sto}{r:Option Fl} (h:c env st=some (true,s)) (d:a env s=r):aX c a b env st=r:=by
 simp only[aX,h,qaa,if_true,d]
theorem CQ {c:Tf}{a b:Sf}{env:Ev}{st s:Sto}{r:Option Fl} (h:c env st=some (false,s)) (hb:b env s=r):aX c a b env st=r:=by
 simp only[aX,h,qaa,qbm,if_false,hb]
theorem aM {k:Nat}{js:List Nat}{a:Lf}{g:Tg}{tt:Tf}{te:Ef}{env:Ev}{st s c:Sto}{ds b:List D} (h:a env st=some (ds,s)) (e:ds.length<=1000000) (d:lcI g tt te (uD k js env) ds s=some (b,c)):iLc k js a g tt te env st=some (b,c):=by
 simp only[iLc,h,d,e,qaa,if_true]
theorem aq {a:Lf}{env:Ev}{st s:Sto}{ds:List D} (h:a env st=some (ds,s)):aw a env st=some (.d (.lst ds),s):=by
 simp only[aw,h,qap]
theorem au {n k:Nat}{b:Sf}{ws:List W}{st s:Sto}{w:W} (a:ws.length=k) (h:b (ws.map some++qaH (n - k) none) st=some (.rt w s)):bi n k b ws st=some (w,s):=by
 simp only[bi,a,if_true,h,qaa]
theorem fP {n k:Nat}{b:Sf}{ws:List W}{st s:Sto}{x:D} (a:ws.length=k) (h:b (ws.map some++qaH (n - k) none) st=some (.rt (.d x) s)):fA n k b ws st=some (.d x,s.take st.length):=by
 simp only[fA,a,if_true,h,qaa,yK]
theorem Fv (n:Nat):ixN (n+1) 0=some 0:=GQ n
end L2
namespace Sx
abbrev Vec:=Nat->Int
def sumN:Nat->(Nat->Int)->Int
 |0,_=>0
 |n+1,f=>sumN n f+f n
theorem sumN_congr {n:Nat}{f g:Nat->Int} (h:∀ k,k<n->f k=g k):sumN n f=sumN n g:=by
 induction n with
 |zero=>rfl
 |succ n F=>rw[sumN,sumN,F λk H=>h k (by omega),h n (by omega)]
theorem sumN_add (n:Nat) (f g:Nat->Int):sumN n (λk=>f k+g k)=sumN n f+sumN n g:=by
 induction n with
 |zero=>rfl
 |succ n F=>rw[sumN,sumN,sumN];omega
theorem sumN_mul (n:Nat) (c:Int) (f:Nat->Int):sumN n (λk=>c*f k)=c*sumN n f:=by
 induction n with
 |zero=>simp[sumN]
 |succ n F=>rw[sumN,sumN,F,qco]
theorem sumN_zero (n:Nat):sumN n (λ_=>0)=0:=by
 induction n with
 |zero=>rfl
 |succ n F=>rw[sumN,F];rfl
theorem sumN_single {n i:Nat} (hi:i<n) {f:Nat->Int} (h:∀ k,k<n->k≠i->f k=0):sumN n f=f i:=by
 induction n with
 |zero=>omega
 |succ n F=>
  rw[sumN];by_cases e:i=n
  ·subst e
   rw[sumN_congr λk H=>h k (by omega) (by omega),sumN_zero];omega
  ·rw[F (by omega) λk H s=>h k (by omega) s,h n (by omega) (by omega)];omega
theorem sumN_pair {n i j:Nat} (hi:i<n) (Q:j<n) (W:i≠j) {f:Nat->Int} (h:∀ k,k<n->k≠i->k≠j->f k=0):sumN n f=f i+f j:=by
 have e:sumN n f=sumN n (λk=>(if k=i then f i else 0)+(if k=j then f j else 0)):=by
  refine sumN_congr λk H=>?_;by_cases J:k=i
  ·subst J;omega
  ·by_cases K:k=j
   ·subst K;omega
   ·rw[iFN J,iFN K,h k H J K];rfl
 rw[e,sumN_add,sumN_single hi λk _ s=>iFN s,sumN_single Q λk _ s=>iFN s,iFP U,iFP U]
def skip (k j:Nat):Nat:=if j<k then j else j+1
def sg (k:Nat):Int:=if k%2=0 then 1 else -1
theorem sg_succ (k:Nat):sg (k+1)=- sg k:=by
 unfold sg;by_cases h:k%2=0
 ·rw[iFP h,iFN (by omega)]
 ·rw[iFN h,iFP (by omega)];rfl
def det:Nat->(Nat->Vec)->Int
 |0,_=>1
 |m+1,C=>sumN (m+1) λk=>sg k*C k 0*det m (λj t=>C (skip k j) (t+1))
theorem det_congr:∀ (m:Nat) {C E:Nat->Vec},(∀ k t,k<m->t<m->C k t=E k t)->det m C=det m E:=by
 intro m
 induction m with
 |zero=>intros;rfl
 |succ m F=>
  intro C E h;refine sumN_congr λk H=>?_;rw[h k 0 H (by omega),F λj t Q ht=>h _ _ (by unfold skip;split<;>omega) (by omega)]
def upd (C:Nat->Vec) (i:Nat) (v:Vec):Nat->Vec:=λj=>if j=i then v else C j
theorem upd_same (C:Nat->Vec) (i:Nat) (v:Vec):upd C i v i=v:=iFP U
theorem upd_ne {C:Nat->Vec}{i j:Nat}{v:Vec} (h:j≠i):upd C i v j=C j:=iFN h
theorem upd_self (C:Nat->Vec) (i:Nat):upd C i (C i)=C:=by
 funext j
 by_cases h:j=i
 ·rw[h,upd_same]
 ·rw[upd_ne h]
theorem upd_upd (C:Nat->Vec) (i:Nat) (u v:Vec):upd (upd C i u) i v=upd C i v:=by
 funext j
 by_cases h:j=i
 ·rw[h,upd_same,upd_same]
 ·rw[upd_ne h,upd_ne h,upd_ne h]
theorem upd_comm {C:Nat->Vec}{i j:Nat}{u v:Vec} (h:i≠j):upd (upd C i u) j v=upd (upd C j v) i u:=by
 funext k
 by_cases J:k=i
 ·subst J;rw[upd_ne h,upd_same,upd_same]
 ·by_cases K:k=j
  ·subst K;rw[upd_same,upd_ne J,upd_same]
  ·rw[upd_ne K,upd_ne J,upd_ne J,upd_ne K]
def unskip (k i:Nat):Nat:=if i<k then i else i - 1
theorem skip_upd {C:Nat->Vec}{k i:Nat}{v:Vec} (h:k≠i):(λj t=>upd C i v (skip k j) (t+1))=upd (λj t=>C (skip k j) (t+1)) (unskip k i) (λt=>v (t+1)):=by
 funext j t
 unfold upd skip unskip;by_cases J:j<k<;>by_cases K:i<k<;>simp only[J,K,if_true,if_false]
 ·by_cases e:j=i
  ·rw[iFP e,iFP e]
  ·rw[iFN e,iFN e]
 ·rw[iFN (by omega),iFN (by omega)]
 ·rw[iFN (by omega),iFN (by omega)]
 ·by_cases e:j+1=i
  ·rw[iFP e,iFP (by omega)]
  ·rw[iFN e,iFN (by omega)]
theorem skip_self {C:Nat->Vec}{i:Nat}{v:Vec}:(λj t=>upd C i v (skip i j) (t+1))=λj t=>C (skip i j) (t+1):=by
 funext j t
 rw[upd_ne];unfold skip;split<;>omega
theorem det_add:∀ (m:Nat) (C:Nat->Vec) (i:Nat) (u v:Vec),i<m->det m (upd C i λt=>u t+v t)=det m (upd C i u)+det m (upd C i v):=by
 intro m
 induction m with
 |zero=>omega
 |succ m F=>
  intro C i u v hi;rw[det,det,det,<-sumN_add];refine sumN_congr λk H=>?_;by_cases e:k=i
  ·subst e
   rw[skip_self,skip_self,skip_self,upd_same,upd_same,upd_same,qco,qet]
  ·rw[skip_upd e,skip_upd e,skip_upd e,upd_ne e,upd_ne e,upd_ne e,F _ _ _ _ (by unfold unskip;split<;>omega),qco]
theorem det_mul:∀ (m:Nat) (C:Nat->Vec) (i:Nat) (c:Int) (u:Vec),i<m->det m (upd C i λt=>c*u t)=c*det m (upd C i u):=by
 intro m
 induction m with
 |zero=>omega
 |succ m F=>
  intro C i c u hi;rw[det,det,<-sumN_mul];refine sumN_congr λk H=>?_;by_cases e:k=i
  ·subst e
   rw[skip_self,skip_self,upd_same,upd_same];rw[show sg k*_=c*_ by rw[qaS],qbo]
  ·rw[skip_upd e,skip_upd e,upd_ne e,upd_ne e,F _ _ c _ (by unfold unskip;split<;>omega),qaS]
theorem det_adj:∀ (m:Nat) (C:Nat->Vec) (i:Nat),i+1<m->C i=C (i+1)->det m C=0:=by
 intro m
 induction m with
 |zero=>omega
 |succ m F=>
  intro C i hi h;rw[det,sumN_pair (i:=i) (by omega) (by omega) (by omega) λk H J K=>?_]
  ·have e:(λj t=>C (skip i j) (t+1))=λj t=>C (skip (i+1) j) (t+1):=by
    funext j t
    by_cases e:j=i
    ·subst e
     have a1:skip j j=j+1:=by unfold skip;rw[iFN (by omega)]
     have a2:skip (j+1) j=j:=by unfold skip;rw[iFP (by omega)]
     rw[a1,a2,h]
    ·have:skip i j=skip (i+1) j:=by
      unfold skip;by_cases J:j<i
      ·rw[iFP J,iFP (by omega)]
      ·rw[iFN J,iFN (by omega)]
     rw[this]
   rw[e,h,sg_succ];rw[<-qet,<-qet];rw[show sg i+-sg i=0 by omega]
   simp
  ·have hz:det m (λj t=>C (skip k j) (t+1))=0:=by
    by_cases l:k<i
    ·refine F _ (i - 1) (by omega) ?_
     funext t
     have a1:skip k (i - 1)=i:=by unfold skip;rw[iFN (by omega)];omega
     have a2:skip k (i - 1+1)=i+1:=by unfold skip;rw[iFN (by omega)];omega
     rw[a1,a2,h]
    ·refine F _ i (by omega) ?_
     funext t
     have a1:skip k i=i:=by unfold skip;rw[iFP (by omega)]
     have a2:skip k (i+1)=i+1:=by unfold skip;rw[iFP (by omega)]
     rw[a1,a2,h]
   rw[hz,qa1]
theorem det_swap {m:Nat} (C:Nat->Vec) {i:Nat} (hi:i+1<m):det m (upd (upd C i (C (i+1))) (i+1) (C i))=- det m C:=by
 have N:∀ u v ,det m (upd (upd C i u) (i+1) v)+det m (upd (upd C i v) (i+1) u)=0:=λu v=>by
  have h0:det m (upd (upd C i λt=>u t+v t) (i+1) λt=>u t+v t)=0:=det_adj m _ i hi (by rw[upd_ne (by omega),upd_same,upd_same]);have hv:det m (upd (upd C i v) (i+1) v)=0:=det_adj m _ i hi (by rw[upd_ne (by omega),upd_same,upd_same]);rw[det_add m _ _ u v hi,upd_comm (by omega),upd_comm (v:=v) (by omega),det_add m _ i u v (by omega),det_add m _ i u v (by omega)]at h0;rw[<-upd_comm (by omega),<-upd_comm (u:=v) (by omega),<-upd_comm (i:=i) (by omega),<-upd_comm (u:=v) (v:=v) (by omega),(det_adj m _ i hi (by rw[upd_ne (by omega),upd_same,upd_same]))]at h0;omega
 have:=N (C i) (C (i+1))
 have e:upd (upd C i (C i)) (i+1) (C (i+1))=C:=by rw[upd_self,upd_self]
 rw[e]at this;omega
theorem det_same {m:Nat}:∀ (d:Nat) (C:Nat->Vec) (i j:Nat),j=i+d+1->j<m->C i=C j->det m C=0:=by
 intro d
 induction d with
 |zero=>intro C i j Q hm h;subst Q;exact det_adj m C i hm h
 |succ d F=>
  intro C i j Q hm h;have hs:=det_swap (m:=m) C (i:=j - 1) (by omega);have e1:j - 1+1=j:=by omega
  rw[e1]at hs
  have:=F (upd (upd C (j - 1) _) j (C (j - 1))) i (j - 1) (by omega) (by omega) (by rw[upd_ne (by omega),upd_ne (by omega),upd_ne (by omega),upd_same,h])
  omega
theorem det_eq0 {m:Nat} (C:Nat->Vec) {i j:Nat} (hi:i<m) (Q:j<m) (W:i≠j) (h:C i=C j):det m C=0:=by
 rcases Nat.lt_or_gt_of_ne W with J|J
 ·exact det_same (j - i - 1) C i j (by omega) Q h
 ·exact det_same (i - j - 1) C j i (by omega) hi h.symm
theorem det_zero {m:Nat} (C:Nat->Vec) {i:Nat} (hi:i<m):det m (upd C i λ_=>0)=0:=by
 simpa using (det_mul m C i 0 (λ_=>0) hi)
theorem det_sum {m:Nat} (C:Nat->Vec) {i:Nat} (hi:i<m) (x:Nat->Int) (V:Nat->Vec):∀ n,det m (upd C i λt=>sumN n λk=>x k*V k t)=sumN n λk=>x k*det m (upd C i (V k)):=by
 intro n
 induction n with
 |zero=>exact det_zero C hi
 |succ n F=>
  have e:(λt=>sumN (n+1) λk=>x k*V k t)=λt=>_+x n*V n t:=rfl;rw[e,det_add m C i _ _ hi,F,det_mul m C i _ _ hi];rfl
theorem cramer {m:Nat} (B:Nat->Vec) (a:Vec) (p:Int) (x:Nat->Int) (h:∀ t,p*a t=sumN m λk=>x k*B k t) {i:Nat} (hi:i<m):p*det m (upd B i a)=x i*det m B:=by
 rw[<-det_mul m B i p a hi];rw[(funext h),det_sum B hi x B m,sumN_single hi λk H s=>?_,upd_self];rw[det_eq0 _ hi H (qbk s) (by rw[upd_same,upd_ne s]),qa1]
theorem cramer2 {m:Nat} (B:Nat->Vec) (a b:Vec) (p:Int) (hp:p=det m B) (hp0:p≠0) (x y:Nat->Int) (hx:∀ t,p*a t=sumN m λk=>x k*B k t) (hy:∀ t,p*b t=sumN m λk=>y k*B k t) {i r:Nat} (hi:i<m) (q:r<m) (o:i≠r) :
  p*det m (upd (upd B r a) i b)=x r*y i - x i*y r:=by
 have J:p*det m (upd (upd B r a) i b)=sumN m λk=>y k*det m (upd (upd B r a) i (B k)):=by
  rw[<-det_mul m _ i p b hi];rw[(funext hy),det_sum _ hi y B m]
 rw[J,sumN_pair hi q o λk H K h3=>?_]
 ·have e1:upd (upd B r a) i (B i)=upd B r a:=by
   have:(upd B r a) i=B i:=upd_ne o
   rw[<-this,upd_self]
  have e2:p*det m (upd B r a)=x r*p:=by rw[cramer B a p x hx q,<-hp]
  have e3:p*det m (upd (upd B r a) i (B r))=- (x i*p):=by
   rw[(upd_comm (qbk o)),<-det_mul m _ r p a q];rw[(funext hx),det_sum _ q x B m,sumN_single hi λk H s=>?_]
   ·-- columns i and r exchanged
    have hsw:det m (upd (upd B i (B r)) r (B i))=- det m B:=by
     have:=(λu v=>by
      have z:∀ w ,det m (upd (upd B i w) r w)=0:=λw=>det_eq0 _ hi q o (by rw[upd_ne o,upd_same,upd_same]);have h0:=z λt=>u t+v t;rw[det_add m _ r u v q,upd_comm o,upd_comm o,det_add m _ i u v hi,det_add m _ i u v hi]at h0;rw[<-upd_comm o,<-upd_comm o,<-upd_comm o,<-upd_comm o,z u,z v]at h0
      omega) (B i) (B r)
     rw[show upd _ r (B r)=B by rw[upd_self,upd_self]]at this;omega
    rw[hsw,<-hp,qf4]
   ·by_cases O:k=r
    ·subst O
     rw[det_eq0 _ hi q o (by rw[upd_ne o,upd_same,upd_same]),qa1]
    ·rw[det_eq0 _ q H (qbk O) (by rw[upd_same,upd_ne O,upd_ne s]),qa1]
  rw[e1]
  have:p*(y i*det m (upd B r a)+y r*det m (upd (upd B r a) i (B r)))=p*(x r*y i - x i*y r):=by
   rw[qco,qaS,e2,qaS p _,e3,qcG,qf4];rw[show y i*_=p*_ by rw[qaX _,qbn,qaX]];rw[show y r*_=p*(x i*y r) by rw[qaX _,qbo,qaX p _,<-qbo,qaX _ p]];omega
  exact qeg hp0 this
 ·rw[det_eq0 _ hi H (qbk K) (by rw[upd_same,upd_ne K,upd_ne h3]),qa1]
def unit (k:Nat):Vec:=λt=>if t=k then 1 else 0
theorem det_unit:∀ m,det m unit=1:=by
 intro m
 induction m with
 |zero=>rfl
 |succ m F=>
  rw[det,sumN_single (i:=0) (by omega) λk H s=>by rw[show unit k 0=0 by unfold unit;rw[iFN (by omega)]];simp];have e:(λj t=>unit (skip 0 j) (t+1))=unit:=by
   funext j t
   unfold unit skip;rw[iFN (by omega:¬ j<0)];by_cases h:t=j
   ·rw[iFP (by omega),iFP h]
   ·rw[iFN (by omega),iFN h]
  rw[e,F];rfl
structure Pb where
 m:Nat
 n:Nat
 A:Nat->Vec
 b:Vec
 g:Nat->Int
structure Tb where
 p:Int
 kept:Nat->Nat
 free:Nat->Nat
 T:Nat->Nat->Int
 G:Nat->Int
variable (P:Pb)
def colV (S:Tb) (c:Nat):Vec:=if c<P.n then P.A (S.free c) else P.b
def gainC (S:Tb) (c:Nat):Int:=if c<P.n then P.g (S.free c) else 0
def basis (S:Tb):Nat->Vec:=λi=>P.A (S.kept i)
structure Good (S:Tb):Prop where
 pos:0<S.p
 dt:S.p=det P.m (basis P S)
 eq:∀ c,c<=P.n->∀ t,S.p*colV P S c t=sumN P.m λi=>S.T i c*P.A (S.kept i) t
 goal:∀ c,c<=P.n->S.G c=(sumN P.m λi=>P.g (S.kept i)*S.T i c) - S.p*gainC P S c
def piv (S:Tb) (r e:Nat):Tb where
 p:=S.T r e
 kept:=λi=>if i=r then S.free e else S.kept i
 free:=λc=>if c=e then S.kept r else S.free c
 T:=λi c=>if i=r then (if c=e then S.p else S.T r c) else (if c=e then - S.T i e else (S.T r e*S.T i c - S.T i e*S.T r c) / S.p)
 G:=λc=>if c=e then - S.G e else (S.T r e*S.G c - S.G e*S.T r c) / S.p
variable {P}
theorem Good.entry {S:Tb} (h:Good P S) {c i:Nat} (M:c<=P.n) (hi:i<P.m):S.T i c=det P.m (upd (basis P S) i (colV P S c)):=by
 have:=cramer (basis P S) _ S.p _ (λt=>h.eq c M t) hi
 rw[<-h.dt,qaX]at this;exact (qge (by have:=h.pos;omega) this).symm
theorem Good.whole {S:Tb} (h:Good P S) {r e c i:Nat} (L:e<=P.n) (M:c<=P.n) (hi:i<P.m) (q:r<P.m) (o:i≠r):∃ d,S.T r e*S.T i c - S.T i e*S.T r c=S.p*d:=
 ⟨_,(cramer2 _ _ _ S.p h.dt (by have:=h.pos;omega) _ _ (λt=>h.eq e L t) (λt=>h.eq c M t) hi q o).symm⟩
theorem ediv_of {p a d:Int} (hp:0<p) (h:a=p*d):p*(a / p)=a:=by
 rw[h,qgq _ (by omega)]
theorem piv_T {S:Tb} (h:Good P S) {r e c i:Nat} (L:e<=P.n) (M:c<=P.n) (hi:i<P.m) (q:r<P.m) (o:i≠r) (D:c≠e):S.p*(piv S r e).T i c=S.T r e*S.T i c - S.T i e*S.T r c:=by
 obtain⟨d,hd⟩:=h.whole L M hi q o;show S.p*(if i=r then _ else _)=_;rw[iFN o,iFN D];exact ediv_of h.pos hd
theorem sumN_split {n r:Nat} (q:r<n) (f:Nat->Int):sumN n f=f r+sumN n (λk=>if k=r then 0 else f k):=by
 have e:sumN n f=sumN n (λk=>(if k=r then f r else 0)+(if k=r then 0 else f k)):=by
  refine sumN_congr λk H=>?_;by_cases h:k=r
  ·rw[h];omega
  ·omega
 rw[e,sumN_add,sumN_single q λk _ s=>iFN s,iFP U]
theorem sumN_sub (n:Nat) (f g:Nat->Int):sumN n (λk=>f k - g k)=sumN n f - sumN n g:=by
 induction n with
 |zero=>rfl
 |succ n F=>rw[sumN,sumN,sumN];omega
theorem piv_eq {S:Tb} (h:Good P S) {r e:Nat} (L:e<P.n) (q:r<P.m):∀ c,c<=P.n->∀ t,(piv S r e).p*colV P (piv S r e) c t=sumN P.m λi=>(piv S r e).T i c*P.A ((piv S r e).kept i) t:=by
 intro c M t;have hp:=h.pos;have R:=h.eq e (by omega) t;have hcE:colV P S e=P.A _:=iFP L;rw[hcE,sumN_split q]at R;have kr:(piv S r e).kept r=S.free e:=iFP U;have X:∀ i,i≠r->(piv S r e).kept i=S.kept i:=λi hi=>iFN hi;rw[sumN_split q,kr];by_cases D:c=e
 ·subst D
  have c1:colV P (piv S r c) c=P.A (S.kept r):=by
   unfold colV;rw[iFP L];show P.A (if c=c then _ else _)=_;rw[iFP U]
  have t1:(piv S r c).T r c=S.p:=by show (if r=r then _ else _)=_;rw[iFP U,iFP U]
  have t2:(sumN P.m λk=>if k=r then 0 else (piv S r c).T k c*P.A ((piv S r c).kept k) t)=- sumN P.m λk=>if k=r then 0 else S.T k c*P.A (S.kept k) t:=by
   have:(sumN P.m λk=>if k=r then 0 else (piv S r c).T k c*P.A ((piv S r c).kept k) t)=sumN P.m λk=>(-1)*(if k=r then 0 else S.T k c*P.A (S.kept k) t):=by
    refine sumN_congr λk H=>?_;by_cases l:k=r
    ·rw[iFP l,iFP l];rfl
    ·rw[iFN l,iFN l,X k l]
     show (if k=r then _ else _)*_=_;rw[iFN l,iFP U,qdI,qdI,qcF]
   rw[this,sumN_mul];omega
  rw[c1,t1];show S.T r c*P.A _ t=_;omega
 ·have c1:colV P (piv S r e) c=colV P S c:=by
   unfold colV;by_cases I:c<P.n
   ·rw[iFP I,iFP I];show P.A (if c=e then _ else _)=_;rw[iFN D]
   ·rw[iFN I,iFN I]
  have t1:(piv S r e).T r c=S.T r c:=by show (if r=r then _ else _)=_;rw[iFP U,iFN D]
  have hC:=h.eq c M t;rw[sumN_split q]at hC;rw[c1,t1];refine qeg (a:=S.p) (by omega) ?_;have t2:S.p*(sumN P.m λk=>if k=r then 0 else (piv S r e).T k c*P.A ((piv S r e).kept k) t)=(sumN P.m λk=>S.T r e*(if k=r then 0 else S.T k c*P.A (S.kept k) t)) - sumN P.m λk=>S.T r c*(if k=r then 0 else S.T k e*P.A (S.kept k) t):=by
   rw[<-sumN_mul,<-sumN_sub];refine sumN_congr λk H=>?_;by_cases l:k=r
   ·rw[iFP l,iFP l,iFP l];simp
   ·rw[iFN l,iFN l,iFN l,X k l,<-qbo,piv_T h (by omega) M H q l D,qf3]
    rw[qbo,qaX (S.T k e),qbo]
  rw[qco,t2,sumN_mul,sumN_mul];show S.p*(S.T r e*colV P S c t)=_;rw[qaS,hC,<-qbo S.p,qaX S.p _,qbo,R,qco,qco];rw[show S.T r e*_=S.T r c*_ by rw[qaS]];omega
theorem piv_goal {S:Tb} (h:Good P S) {r e:Nat} (L:e<P.n) (q:r<P.m):∀ c,c<=P.n->(piv S r e).G c=(sumN P.m λi=>P.g ((piv S r e).kept i)*(piv S r e).T i c) - (piv S r e).p*gainC P (piv S r e) c:=by
 intro c M;have hp:=h.pos;have R:=h.goal e (by omega);have gE:gainC P S e=P.g _:=iFP L;rw[gE,sumN_split q]at R;have kr:(piv S r e).kept r=S.free e:=iFP U;have X:∀ i,i≠r->(piv S r e).kept i=S.kept i:=λi hi=>iFN hi;rw[sumN_split q,kr];by_cases D:c=e
 ·subst D
  have c1:gainC P (piv S r c) c=P.g (S.kept r):=by
   unfold gainC;rw[iFP L];show P.g (if c=c then _ else _)=_;rw[iFP U]
  have t1:(piv S r c).T r c=S.p:=by show (if r=r then _ else _)=_;rw[iFP U,iFP U]
  have t2:(sumN P.m λk=>if k=r then 0 else P.g ((piv S r c).kept k)*(piv S r c).T k c)=- sumN P.m λk=>if k=r then 0 else P.g (S.kept k)*S.T k c:=by
   have:(sumN P.m λk=>if k=r then 0 else P.g ((piv S r c).kept k)*(piv S r c).T k c)=sumN P.m λk=>(-1)*(if k=r then 0 else P.g (S.kept k)*S.T k c):=by
    refine sumN_congr λk H=>?_;by_cases l:k=r
    ·rw[iFP l,iFP l];rfl
    ·rw[iFN l,iFN l,X k l]
     show _*(if k=r then _ else _)=_;rw[iFN l,iFP U,qf4,qdI,qcF]
   rw[this,sumN_mul];omega
  rw[c1,t1];show (if c=c then - S.G c else _)=_ - S.T r c*_;rw[iFP U,R,qaX _,qaX S.p];omega
 ·have c1:gainC P (piv S r e) c=gainC P S c:=by
   unfold gainC;by_cases I:c<P.n
   ·rw[iFP I,iFP I];show P.g (if c=e then _ else _)=_;rw[iFN D]
   ·rw[iFN I,iFN I]
  have t1:(piv S r e).T r c=S.T r c:=by show (if r=r then _ else _)=_;rw[iFP U,iFN D]
  have hC:=h.goal c M;rw[sumN_split q]at hC;rw[c1,t1];have t2:S.p*(sumN P.m λk=>if k=r then 0 else P.g ((piv S r e).kept k)*(piv S r e).T k c)=(sumN P.m λk=>S.T r e*(if k=r then 0 else P.g (S.kept k)*S.T k c)) - sumN P.m λk=>S.T r c*(if k=r then 0 else P.g (S.kept k)*S.T k e):=by
   rw[<-sumN_mul,<-sumN_sub];refine sumN_congr λk H=>?_;by_cases l:k=r
   ·rw[iFP l,iFP l,iFP l];simp
   ·rw[iFN l,iFN l,iFN l,X k l,qaS,piv_T h (by omega) M H q l D,qcG]
    rw[qaS,qaX (S.T k e),qaS (S.T r c)]
  rw[sumN_mul,sumN_mul]at t2;have N:S.T r e*S.G c - S.G e*S.T r c=S.p*(P.g (S.free e)*S.T r c+(sumN P.m λk=>if k=r then 0 else P.g ((piv S r e).kept k)*(piv S r e).T k c) - S.T r e*gainC P S c):=by
   rw[qcG,qco,t2,hC,R];generalize (sumN P.m λk=>if k=r then 0 else P.g _*S.T k e)=Y;rw[qcG,qco,qf3,qet];rw[show S.T r e*_=P.g _*S.T r e*S.T r c by rw[qaS,qbo]];rw[show S.T r e*(S.p*gainC P S c)=S.p*_ by rw[qaS]];rw[show S.p*(P.g _*S.T r c)=S.p*P.g _*S.T r c by rw[qbo]];rw[qaX Y];omega
  show (if c=e then _ else _ / S.p)=_;rw[iFN D,N,qgq _ (by omega)];rfl
theorem Good.piv {S:Tb} (h:Good P S) {r e:Nat} (L:e<P.n) (q:r<P.m) (hq:0<S.T r e):Good P (piv S r e):=by
 refine⟨hq,?_,piv_eq h L q,piv_goal h L q⟩;show S.T r e=_;rw[h.entry (by omega) q];refine congrArg _ ?_
 funext i
 unfold basis;by_cases hi:i=r
 ·rw[hi,upd_same]
  show colV P S e=P.A (if r=r then _ else _);rw[iFP U];exact iFP L
 ·rw[upd_ne hi]
  show _=P.A (if i=r then _ else _);rw[iFN hi]
def lexP (M:Nat) (v:Nat->Int):Prop:=∃ j,j<M/\0<v j/\∀ l,l<j->v l=0
theorem lexP_congr {M:Nat}{v w:Nat->Int} (h:∀ s,s<M->v s=w s) (F:lexP M v):lexP M w:=by
 obtain⟨j,u,A,q⟩:=F;exact⟨j,u,by rw[<-h j u];exact A,λl z=>by rw[<-h l (by omega)];exact q l z⟩
theorem lexP_mul {M:Nat}{v:Nat->Int}{c:Int} (C:0<c) (F:lexP M v):lexP M λs=>c*v s:=by
 obtain⟨j,u,A,q⟩:=F;exact⟨j,u,qjN C A,λl z=>by show c*v l=0;rw[q l z,qa1]⟩
theorem lexP_unmul {M:Nat}{v:Nat->Int}{c:Int} (C:0<c) (F:lexP M λs=>c*v s):lexP M v:=by
 obtain⟨j,u,A,q⟩:=F;have h2':0<v j*c:=by rw[qaX];exact A
 refine⟨j,u,Int.pos_of_mul_pos_left h2' C,λl z=>?_⟩
 have:=q l z
 rcases qck.mp this with h|h
 ·omega
 ·exact h
theorem lexP_add {M:Nat}{v w:Nat->Int} (F:lexP M v) (hw:lexP M w):lexP M λs=>v s+w s:=by
 obtain⟨j,u,A,q⟩:=F;obtain⟨k,W,k2,X⟩:=hw;rcases Nat.lt_trichotomy j k with h|h|h
 ·exact⟨j,u,by show 0<v j+w j;rw[X j h];omega,λl z=>by show v l+w l=0;rw[q l z,X l (by omega)];rfl⟩
 ·subst h
  exact⟨j,u,by show 0<v j+w j;omega,λl z=>by show v l+w l=0;rw[q l z,X l z];rfl⟩
 ·exact⟨k,W,by show 0<v k+w k;rw[q k h];omega,λl z=>by show v l+w l=0;rw[q l (by omega),X l z];rfl⟩
theorem lexP_addn {M:Nat}{v w:Nat->Int}{c:Int} (C:0<=c) (F:lexP M v) (hw:lexP M w):lexP M λs=>v s+c*w s:=by
 rcases qd9 C with h|h
 ·exact lexP_add F (lexP_mul h hw)
 ·subst h
  exact lexP_congr (λs _=>by rw[qbC,qeb]) F
theorem lexP_not0 {M:Nat}{v:Nat->Int} (h:∀ s,s<M->v s=0):¬ lexP M v:=λ⟨j,u,A,_⟩=>by rw[h j u]at A;omega
theorem lexP_first {M:Nat}{v:Nat->Int} (hM:0<M) (h:lexP M v):0<=v 0:=by
 obtain⟨j,u,A,q⟩:=h;rcases Nat.eq_zero_or_pos j with e|e
 ·subst e;omega
 ·rw[q 0 e];exact qb3 _
variable (P:Pb)
def XV (s:Nat):Vec:=if s=0 then P.b else unit (s - 1)
def LV (S:Tb) (i s:Nat):Int:=det P.m (upd (basis P S) i (XV P s))
def ZV (S:Tb) (s:Nat):Int:=sumN P.m λi=>P.g (S.kept i)*LV P S i s
structure Named (S:Tb):Prop where
 one:∀ r,r<P.m->P.A (P.n+r)=unit r
 all:∀ k,k<P.n+P.m->(∃ c,c<P.n/\S.free c=k)\/∃ i,i<P.m/\S.kept i=k
 bound:(∀ c,c<P.n->S.free c<P.n+P.m)/\∀ i,i<P.m->S.kept i<P.n+P.m
def Fe (S:Tb):Prop:=∀ i,i<P.m->lexP (P.m+1) (LV P S i)
variable {P}
theorem Good.rep_free {S:Tb} (h:Good P S) {c:Nat} (C:c<=P.n) (t:Nat):S.p*colV P S c t=sumN P.m λi=>det P.m (upd (basis P S) i (colV P S c))*P.A (S.kept i) t:=by
 rw[h.eq c C t];exact sumN_congr λi hi=>by rw[h.entry C hi]
theorem det_kept {S:Tb} (h:Good P S) {i j:Nat} (hi:i<P.m) (I:j<P.m):det P.m (upd (basis P S) i (basis P S j))=if i=j then S.p else 0:=by
 by_cases e:i=j
 ·subst e;rw[upd_self,iFP U,h.dt]
 ·rw[iFN e]
  exact det_eq0 _ hi I e (by rw[upd_same,upd_ne (qbk e)])
theorem Good.rep_kept {S:Tb} (h:Good P S) {j:Nat} (I:j<P.m) (t:Nat):S.p*P.A (S.kept j) t=sumN P.m λi=>det P.m (upd (basis P S) i (P.A (S.kept j)))*P.A (S.kept i) t:=by
 rw[sumN_single I λi hi O=>?_]
 ·have:=det_kept h I I
  rw[iFP U]at this;have e:det P.m (upd _ j (P.A _))=S.p:=this;rw[e]
 ·have:=det_kept h hi I
  rw[iFN O]at this;have e:det P.m (upd _ i (P.A _))=0:=this;rw[e,qbC]
theorem Good.rep {S:Tb} (h:Good P S) (hn:Named P S) {s:Nat} (E:s<P.m+1) (t:Nat):S.p*XV P s t=sumN P.m λi=>LV P S i s*P.A (S.kept i) t:=by
 unfold LV;by_cases h0:s=0
 ·subst h0
  have e:XV P 0=colV P S P.n:=by unfold XV colV;rw[iFP U,iFN (qa2 _)]
  rw[e];exact h.rep_free (qao _) t
 ·have e:XV P s=P.A (P.n+(s - 1)):=by unfold XV;rw[iFN h0,hn.one _ (by omega)]
  rw[e];rcases hn.all (P.n+(s - 1)) (by omega) with⟨c,C,D⟩|⟨j,I,D⟩
  ·have H:P.A (P.n+(s - 1))=colV P S c:=by unfold colV;rw[iFP C,D]
   rw[H];exact h.rep_free (by omega) t
  ·rw[<-D]
   exact h.rep_kept I t
theorem piv_basis {S:Tb}{r e:Nat} (o:e<P.n):basis P (piv S r e)=upd (basis P S) r (colV P S e):=by
 funext i
 unfold basis;by_cases hi:i=r
 ·rw[hi,upd_same]
  show P.A (if r=r then _ else _)=colV P S e;rw[iFP U];exact (iFP o).symm
 ·rw[upd_ne hi]
  show P.A (if i=r then _ else _)=_;rw[iFN hi]
theorem LV_r {S:Tb}{r e s:Nat} (o:e<P.n):LV P (piv S r e) r s=LV P S r s:=by
 unfold LV;rw[piv_basis o,upd_upd]
theorem LV_i {S:Tb} (h:Good P S) (hn:Named P S) {r e s i:Nat} (o:e<P.n) (E:s<P.m+1) (hi:i<P.m) (n:r<P.m) (d:i≠r):S.p*LV P (piv S r e) i s=S.T r e*LV P S i s - S.T i e*LV P S r s:=by
 unfold LV;rw[piv_basis o];exact cramer2 _ _ _ S.p h.dt (by have:=h.pos;omega) _ _ (λt=>h.eq e (by omega) t) (λt=>h.rep hn E t) hi n d
theorem ZV_piv {S:Tb} (h:Good P S) (hn:Named P S) {r e s:Nat} (o:e<P.n) (E:s<P.m+1) (n:r<P.m):S.p*ZV P (piv S r e) s=S.T r e*ZV P S s - S.G e*LV P S r s:=by
 have hE:=h.goal e (by omega);have gE:gainC P S e=P.g _:=iFP o;rw[gE,sumN_split n]at hE;unfold ZV;have kr:(piv S r e).kept r=S.free e:=iFP U;have kn:∀ i,i≠r->(piv S r e).kept i=S.kept i:=λi hi=>iFN hi;rw[sumN_split n,kr,LV_r o,qco];have t2:S.p*(sumN P.m λk=>if k=r then 0 else P.g ((piv S r e).kept k)*LV P (piv S r e) k s)=(sumN P.m λk=>S.T r e*(if k=r then 0 else P.g (S.kept k)*LV P S k s)) - sumN P.m λk=>LV P S r s*(if k=r then 0 else P.g (S.kept k)*S.T k e):=by
  rw[<-sumN_mul,<-sumN_sub];refine sumN_congr λk D=>?_;by_cases p:k=r
  ·rw[iFP p,iFP p,iFP p];simp
  ·rw[iFN p,iFN p,iFN p,kn k p,qaS,LV_i h hn o E D n p,qcG]
   rw[qaS,qaX (S.T k e),qaS (LV P S r s)]
 rw[t2,sumN_mul,sumN_mul,sumN_split n (λi=>P.g _*LV P S i s),hE];generalize (sumN P.m λk=>if k=r then 0 else P.g _*S.T k e)=Y;generalize LV P S r s=L;rw[qf3,qet,qco];rw[show S.T r e*(P.g _*L)=P.g _*S.T r e*L by rw[qaS,qbo]];rw[show S.p*_=S.p*P.g _*L by rw[qbo]];rw[qaX Y];omega
def less (P:Pb) (S S':Tb):Prop:=lexP (P.m+1) λs=>S.p*ZV P S' s - S'.p*ZV P S s
theorem less_trans {S1 S2 S3:Tb} (u:0<S1.p) (A:0<S2.p) (q:0<S3.p) (a:less P S1 S2) (b:less P S2 S3):less P S1 S3:=by
 refine lexP_unmul A (lexP_congr (λs _=>?_) (lexP_add (lexP_mul u b) (lexP_mul q a)));generalize ZV P S1 s=x;generalize ZV P S2 s=y;rw[qcG,qcG,qcG];rw[show S1.p*(S3.p*y)=S3.p*_ by rw[qaS],show S1.p*_=S2.p*_ by rw[qaS],show S3.p*(S2.p*x)=S2.p*_ by rw[qaS]];omega
theorem same_kept {S S':Tb} (h:Good P S) (h':Good P S') (e:∀ i,i<P.m->S.kept i=S'.kept i):S.p=S'.p/\∀ s,ZV P S s=ZV P S' s:=by
 have hb:∀ i,i<P.m->basis P S i=basis P S' i:=λi hi=>by unfold basis;rw[e i hi]
 have hL:∀ i s,i<P.m->LV P S i s=LV P S' i s:=λi s hi=>by
  refine det_congr P.m λk t D _=>?_;by_cases J:k=i
  ·rw[J,upd_same,upd_same]
  ·rw[upd_ne J,upd_ne J,hb k D]
 refine⟨?_,λs=>?_⟩
 ·rw[h.dt,h'.dt]
  exact det_congr P.m λk t D _=>by rw[hb k D]
 ·exact sumN_congr λi hi=>by rw[e i hi,hL i s hi]
theorem less_kept {S S':Tb} (h:Good P S) (h':Good P S') (l:less P S S'):¬ ∀ i,i<P.m->S.kept i=S'.kept i:=λe=>by
 obtain⟨G,H⟩:=same_kept h h' e;refine lexP_not0 (λs _=>?_) l;rw[G,H s];omega
theorem lines_unlike {S:Tb} (h:Good P S) (hA:∀ i,i<P.m->∀ t,P.m<=t->P.A (S.kept i) t=0) {i r:Nat} (hi:i<P.m) (n:r<P.m) (d:i≠r) {a b:Int} (ha:0<a) (E:∀ s,s<P.m+1->a*LV P S i s=b*LV P S r s):False:=by
 have Q:∀ k,k<P.m->det P.m _=sumN P.m λs=>basis P S i s*LV P S k (s+1):=λk D=>by
  have e:basis P S i=λt=>sumN P.m λs=>basis P S i s*unit s t:=by
   funext t
   by_cases ht:t<P.m
   ·rw[sumN_single ht λs _ O=>by unfold unit;rw[iFN (qbk O),qa1]]
    unfold unit;rw[iFP U,qcX]
   ·rw[sumN_congr λs V=>by unfold unit;rw[iFN (by omega),qa1],sumN_zero]
    exact hA i hi t (by omega)
  have H:=det_sum (basis P S) D (λs=>basis P S i s) unit P.m;rw[<-e]at H;rw[H];refine sumN_congr λs V=>?_;unfold LV XV;rw[iFN (by omega),qcN]
 have W:=Q i hi;have k2:=Q r n;rw[det_kept h hi hi,iFP U]at W;rw[det_kept h n hi,iFN (qbk d)]at k2
 have:a*S.p=b*0:=by
  rw[W,k2,<-sumN_mul,<-sumN_mul];refine sumN_congr λs V=>?_;rw[qaS,E _ (by omega),qaS]
 have:=qjN ha h.pos
 omega
theorem Named.piv {S:Tb} (hn:Named P S) {r e:Nat} (o:e<P.n) (n:r<P.m):Named P (piv S r e):=by
 refine⟨hn.one,λk D=>?_,λc C=>?_,λi hi=>?_⟩
 ·rcases hn.all k D with⟨c,C,G⟩|⟨i,hi,G⟩
  ·by_cases T:c=e
   ·subst T;exact .inr ⟨r,n,by show (if r=r then _ else _)=_;rw[iFP U];exact G⟩
   ·exact .inl ⟨c,C,by show (if c=e then _ else _)=_;rw[iFN T];exact G⟩
  ·by_cases d:i=r
   ·subst d;exact .inl ⟨e,o,by show (if e=e then _ else _)=_;rw[iFP U];exact G⟩
   ·exact .inr ⟨i,hi,by show (if i=r then _ else _)=_;rw[iFN d];exact G⟩
 ·show (if c=e then _ else _)<_
  split
  ·exact hn.bound.2 r n
  ·exact hn.bound.1 c C
 ·show (if i=r then _ else _)<_
  split
  ·exact hn.bound.1 e o
  ·exact hn.bound.2 i hi
theorem step {S:Tb} (h:Good P S) (hn:Named P S) (K:Fe P S) {r e:Nat} (o:e<P.n) (n:r<P.m) (hq:0<S.T r e) (hg:S.G e<0)
  (R:∀ i,i<P.m->i≠r->0<S.T i e->lexP (P.m+1) λs=>S.T r e*LV P S i s - S.T i e*LV P S r s) :
  Good P (piv S r e)/\Named P (piv S r e)/\Fe P (piv S r e)/\less P S (piv S r e):=by
 refine⟨h.piv o n hq,hn.piv o n,λi hi=>?_,?_⟩
 ·by_cases d:i=r
  ·subst d
   exact lexP_congr (λs _=>(LV_r o).symm) (K i hi)
  ·refine lexP_unmul h.pos (lexP_congr (λs E=>(LV_i h hn o E hi n d).symm) ?_)
   by_cases ht:0<S.T i e
   ·exact R i hi d ht
   ·refine lexP_congr (λs _=>?_) (lexP_addn (c:=- S.T i e) (by omega) (lexP_mul hq (K i hi)) (K r n))
    rw[qdI];omega
 ·refine lexP_congr (λs E=>?_) (lexP_mul (c:=- S.G e) (by omega) (K r n))
  show - S.G e*LV P S r s=S.p*ZV P _ s - S.T r e*ZV P S s;rw[ZV_piv h hn o E n,qdI];omega
theorem filt_len (N:Nat):∀ l:List Nat,(l.filter λx=>decide (x=N)).length+(l.filter λx=>decide (x≠N)).length=l.length
 |[]=>rfl
 |x::l=>by
  have ih:=filt_len N l;by_cases h:x=N
  ·rw[qcA (by simpa using h),qcB (by simpa using h),qaq,qaq];omega
  ·rw[qcB (by simpa using h),qcA (by simpa using h),qaq,qaq];omega
theorem nodup_le:∀ (N:Nat) (l:List Nat),l.Nodup->(∀ x∈l,x<N)->l.length<=N:=by
 intro N
 induction N with
 |zero=>
  intro l _ h;cases l with
  |nil=>exact qao _
  |cons x l=>exact absurd (h x qag) (by omega)
 |succ N ih=>
  intro l z h;have u:=ih (l.filter λx=>decide (x≠N)) (z.filter _) λx hx=>by
   have:=qbO.mp hx
   have A:=h x this.1;have q:=by simpa using this.2
   omega
  have A:(l.filter λx=>decide (x=N)).length<=1:=by
   have hn:=z.filter λx=>decide (x=N);have B:∀ x∈l.filter (λx=>decide (x=N)),x=N:=λx hx=>by simpa using (qbO.mp hx).2
   match l.filter _,hn,B with
   |[],_,_=>exact qcE _
   |[x],_,_=>exact qao _
   |x::y::r,hn,B=>
    exact absurd ((B x qag).trans (B y (qaj _ qag)).symm) ((qbi.mp hn).1 y qag)
  have q:=filt_len N l;omega
def code (b:Nat) (f:Nat->Nat):Nat->Nat
 |0=>0
 |m+1=>code b f m*b+f m
theorem code_lt {b:Nat}{f:Nat->Nat}:∀ {m:Nat},(∀ i,i<m->f i<b)->code b f m<b^m
 |0,_=>Nat.one_pos
 |m+1,h=>by
  have u:=h m (by omega)
  calc code b f m*b+f m<code b f m*b+b:=by omega
   _=(code b f m+1)*b:=by rw[qjL,qjK]
   _<=b^m*b:=qcw b (code_lt λi hi=>h i (by omega))
theorem code_inj {b:Nat}{f g:Nat->Nat}:∀ {m:Nat},(∀ i,i<m->f i<b)->(∀ i,i<m->g i<b)->code b f m=code b g m->∀ i,i<m->f i=g i
 |0,_,_,_,i,hi=>absurd hi (by omega)
 |m+1,K,hg,e,i,hi=>by
  rw[code,code]at e;have A:=hg m (by omega);have G:=by
   have:=congrArg (·%b) e
   simp only[Nat.mul_add_mod_self_right]at this;rw[qhO (K m (by omega)),qhO A]at this;exact this
  have H:code b f m=code b g m:=by
   exact Nat.eq_of_mul_eq_mul_right (by omega:0<b) (by omega)
  by_cases him:i=m
  ·rw[him];exact G
  ·exact code_inj (λi hi=>K i (by omega)) (λi hi=>hg i (by omega)) H i (by omega)
def leastR (tops bots:Nat->Int):List Nat->List Nat->List Nat
 |[],least=>least
 |p::ps,[]=>leastR tops bots ps [p]
 |p::ps,m::r=>if tops p*bots m > tops m*bots p then leastR tops bots ps (m::r) else if tops p*bots m<tops m*bots p then leastR tops bots ps [p] else leastR tops bots ps ((m::r)++[p])
structure Least (tops bots:Nat->Int) (ps out:List Nat):Prop where
 ne:ps≠[]->out≠[]
 sub:∀ x∈out,x∈ps
 nd:ps.Nodup->out.Nodup
 eq:∀ x∈out,∀ y∈out,tops x*bots y=tops y*bots x
 lt:∀ x∈out,∀ y∈ps,y∉out->tops x*bots y<tops y*bots x
theorem ratio_lt {a b c p q r:Int} (hp:0<p) (hq:0<q) (Q:0<r) (A:a*q<b*p) (F:b*r<=c*q):a*r<c*p:=by
 have z:=qdY A Q;have e2:b*r*p<=c*q*p:=qfC F (by omega);rw[qbn b p r]at z;have e3:a*r*q<c*p*q:=by rw[qbn a r q,qbn c p q];omega
 exact qd5 e3 (by omega)
theorem leastR_ok {tops bots:Nat->Int}:∀ (ps done least:List Nat),(∀ x∈done++ps,0<bots x)->(done++ps).Nodup->Least tops bots done least->Least tops bots (done++ps) (leastR tops bots ps least):=by
 intro ps
 induction ps with
 |nil=>intro done least _ _ h;rw[qbl];cases least<;>exact h
 |cons p ps B=>
  intro done least hb n h;have hp:=hb p (qav _ qag);have T:=λhm=>by
   rw[qcx]at n;exact n.2.2 p hm p qag U
  have e:done++p::ps=(done++[p])++ps:=by simp
  have E:=(qcx.mp n).1;rw[e]at hb n ⊢;cases least with
  |nil=>
   have hd:done=[]:=by
    cases done with
    |nil=>rfl
    |cons x d=>exact absurd U (h.ne (by simp))
   subst hd;refine B _ _ hb n ⟨λ_=>by simp,λx f=>by simpa using f,λ_=>by simp,λx f y g=>?_,λx f y g hn=>absurd (by simpa using g) (by simpa using hn)⟩;rw[qal.mp f,qal.mp g]
  |cons m r=>
   have u:m∈m::r:=qag;have Y:=hb m (qaV _ (qaV _ (h.sub m u)));have K:=λy g=>hb y (qaV _ (qaV _ g));rw[leastR];by_cases c1:tops p*bots m > tops m*bots p
   ·rw[iFP c1]
    refine B _ _ hb n ⟨λ_=>by simp,λx f=>qaV _ (h.sub x f),λ_=>h.nd E,h.eq,λx f y g hn=>?_⟩;rcases qaR.mp g with g|g
    ·exact h.lt x f y g hn
    ·rw[qal.mp g]
     exact Int.lt_of_lt_of_le (by
      have z:tops x*bots m*bots p=tops m*bots p*bots x:=by rw[<-(h.eq m u x f),qbn]
      have e3:tops x*bots p*bots m<tops p*bots x*bots m:=by rw[qbn,z,qbn (tops p)];exact (qdY c1 (K x (h.sub x f)))
      exact qd5 e3 (by omega)) (qb3 _)
   ·rw[iFN c1]
    by_cases c2:tops p*bots m<tops m*bots p
    ·rw[iFP c2]
     refine B _ _ hb n ⟨λ_=>by simp,λx f=>by rw[qal.mp f];simp,λ_=>by simp,λx f y g=>by rw[qal.mp f,qal.mp g],λx f y g hn=>?_⟩;rw[qal.mp f];rcases qaR.mp g with g|g
     ·have hle:tops m*bots y<=tops y*bots m:=by
       by_cases hm:y∈m::r
       ·exact Int.le_of_eq (h.eq m u y hm)
       ·exact qgS (h.lt m u y g hm)
      exact ratio_lt hp Y (K y g) c2 hle
     ·exact absurd (by simpa using g) (by simpa using hn)
    ·rw[iFN c2]
     have H:tops p*bots m=tops m*bots p:=by omega
     have J:=λx f=>by
      have z:tops p*bots x*bots m=tops x*bots p*bots m:=by
       rw[qbn,H,qbn,(h.eq m u x f),qbn]
      exact qge (by omega) z
     refine B _ _ hb n ⟨λ_=>by simp,λx f=>?_,λ_=>?_,λx f y g=>?_,λx f y g hn=>?_⟩
     ·rcases qaR.mp f with f|f
      ·exact qaV _ (h.sub x f)
      ·exact qav _ f
     ·rw[qcx]
      refine⟨h.nd E,by simp,λx f y g e=>?_⟩;rw[qal.mp g]at e;rw[e]at f;exact T (h.sub p f)
     ·rcases qaR.mp f with f|f<;>rcases qaR.mp g with g|g
      ·exact h.eq x f y g
      ·rw[qal.mp g];exact (J x f).symm
      ·rw[qal.mp f];exact J y g
      ·rw[qal.mp f,qal.mp g]
     ·have O:y∈done:=by
       rcases qaR.mp g with g|g
       ·exact g
       ·exact absurd (qav _ g) hn
      have D:=λhm=>hn (qaV _ hm);rcases qaR.mp f with f|f
      ·exact h.lt x f y O D
      ·rw[qal.mp f]
       have z:tops p*bots y*bots m<tops y*bots p*bots m:=by
        rw[qbn,H,qbn _,qbn (tops y)];exact qdY (h.lt m u y O D) hp
       exact qd5 z (by omega)
theorem least_of {tops bots:Nat->Int}{ps:List Nat} (hb:∀ x∈ps,0<bots x) (n:ps.Nodup):Least tops bots ps (leastR tops bots ps []):=by
 simpa using (leastR_ok ps [] [] (by simpa using hb) (by simpa using n) ⟨λh=>absurd U h,λx f=>(nomatch f),λ_=>qc7,λx f=>(nomatch f),λx f=>(nomatch f)⟩)
def leaveL (W:Nat->Nat->Int) (bots:Nat->Int):List Nat->List Nat->List Nat
 |[],ps=>ps
 |s::ss,ps=>if ps.length<2 then ps else leaveL W bots ss (leastR (W s) bots ps [])
structure Lv (W:Nat->Nat->Int) (bots:Nat->Int) (C:List Nat) (s:Nat) (ps:List Nat):Prop where
 ne:ps≠[]
 nd:ps.Nodup
 sub:∀ x∈ps,x∈C
 eq:∀ x∈ps,∀ y∈ps,∀ l,l<s->bots x*W l y - bots y*W l x=0
 lt:∀ x∈ps,∀ y∈C,y∉ps->lexP s λl=>bots x*W l y - bots y*W l x
theorem lexP_mono {M N:Nat}{v:Nat->Int} (h:M<=N) (hv:lexP M v):lexP N v:=let ⟨j,A,F,o⟩:=hv;⟨j,by omega,F,o⟩
theorem Lv.step {W:Nat->Nat->Int}{bots:Nat->Int}{C ps:List Nat}{s:Nat} (hb:∀ x∈C,0<bots x) (h:Lv W bots C s ps):Lv W bots C (s+1) (leastR (W s) bots ps []):=by
 have L:=least_of (tops:=W s) (λx f=>hb x (h.sub x f)) h.nd;refine⟨L.ne h.ne,L.nd h.nd,λx f=>h.sub x (L.sub x f),λx f y g l w=>?_,λx f y g hn=>?_⟩
 ·rcases qfy l s with A|A
  ·exact h.eq x (L.sub x f) y (L.sub y g) l A
  ·have:l=s:=by omega
   subst this
   have:=L.eq y g x f
   rw[qaX _,qaX (bots y)];omega
 ·by_cases hm:y∈ps
  ·have w:=L.lt x f y hm hn
   refine⟨s,by omega,?_,λl X=>h.eq x (L.sub x f) y hm l X⟩;show 0<bots x*W s y - bots y*W s x;rw[qaX _,qaX (bots y)];omega
  ·exact lexP_mono (by omega) (h.lt x (L.sub x f) y g hm)
theorem leaveL_ok {W:Nat->Nat->Int}{bots:Nat->Int}{C:List Nat} (hb:∀ x∈C,0<bots x):∀ (k s:Nat) (ps:List Nat),Lv W bots C s ps->∃ s',s<=s'/\s'<=s+k/\Lv W bots C s' (leaveL W bots ((qak k).map λj=>s+j) ps)/\(s'<s+k->(leaveL W bots ((qak k).map λj=>s+j) ps).length<2):=by
 intro k
 induction k with
 |zero=>intro s ps h;exact⟨s,qao _,qao _,h,λh=>absurd h (by omega)⟩
 |succ k B=>
  intro s ps h;have e:(qak (k+1)).map (λj=>s+j)=s::(qak k).map λj=>(s+1)+j:=by
   rw[qdy,qaw,qaO]
   congr 1
   refine qci λj _=>?_;show s+_=_;omega
  rw[e,leaveL];by_cases w:ps.length<2
  ·rw[iFP w]
   exact⟨s,qao _,by omega,h,λ_=>w⟩
  ·rw[iFN w]
   obtain⟨s',A,F,o,V⟩:=B _ _ (h.step hb);exact⟨s',by omega,by omega,o,λh=>V (by omega)⟩
variable {P:Pb}
theorem leaving_ok {S:Tb} (h:Good P S) (hA:∀ i,i<P.m->∀ t,P.m<=t->P.A (S.kept i) t=0) {e:Nat}{C:List Nat} (I:∀ i,i∈C↔i<P.m/\0<S.T i e) (hn:C.Nodup) (hne:C≠[]) :
  ∃ r,leaveL (λs i=>LV P S i s) (λi=>S.T i e) ((qak (P.m+1)).map λj=>0+j) C=[r]/\r<P.m/\0<S.T r e/\∀ i,i<P.m->i≠r->0<S.T i e->lexP (P.m+1) λs=>S.T r e*LV P S i s - S.T i e*LV P S r s:=by
 obtain⟨s',A,F,o,V⟩:=leaveL_ok (λx f=>((I x).mp f).2) _ 0 C ⟨hne,hn,λx f=>f,λx _ y _ l w=>absurd w (by omega),λx _ y g hm=>absurd g hm⟩;generalize leaveL _ _ _ C=out at o V;have G:out.length<2:=by
  rcases qfy out.length 2 with w|w
  ·exact w
  ·exfalso
   match out,w,o with
   |x::y::r,_,o=>
    have f:=(I x).mp (o.sub x qag)
    refine lines_unlike h hA ((I y).mp (o.sub y (qaj _ qag))).1 f.1 (qbk (λe=>by
     have:=(qbi.mp o.nd).1 y qag
     exact this e)) (b:=S.T y e) f.2 λs hs'=>?_
    have:=o.eq x qag y (qaj _ qag) s (by omega)
    omega
 match out,G,o with
 |[],_,o=>exact absurd U o.ne
 |[r],_,o=>
  have Q:=(I r).mp (o.sub r qag);refine⟨r,U,Q.1,Q.2,λi hi R hT=>?_⟩;exact lexP_mono (by omega) (o.lt r qag i ((I i).mpr ⟨hi,hT⟩) (by simpa using R))
variable {P:Pb}
theorem sumN_swap (n m:Nat) (f:Nat->Nat->Int):(sumN n λi=>sumN m λk=>f i k)=sumN m λk=>sumN n λi=>f i k:=by
 induction n with
 |zero=>exact (sumN_zero m).symm
 |succ n J=>
  rw[sumN,J];rw[<-sumN_add];rfl
theorem sumN_nonneg {n:Nat}{f:Nat->Int} (h:∀ k,k<n->0<=f k):0<=sumN n f:=by
 induction n with
 |zero=>exact qb3 _
 |succ n J=>rw[sumN];have:=J λk q=>h k (by omega);have:=h n (by omega);omega
theorem sumN_append (a b:Nat) (f:Nat->Int):sumN (a+b) f=sumN a f+sumN b λk=>f (a+k):=by
 induction b with
 |zero=>rw[sumN];simp
 |succ b J=>rw[<-Nat.add_assoc,sumN,sumN];omega
theorem sumN_right (n:Nat) (c:Int) (f:Nat->Int):sumN n (λk=>f k*c)=sumN n f*c:=by
 rw[qaX,<-sumN_mul];exact sumN_congr λk _=>qaX _ _
def byName (P:Pb) (S:Tb) (y:Nat->Int) (k:Nat):Int:=sumN P.m λi=>if S.kept i=k then y i else 0
theorem byName_sum (S:Tb) (y:Nat->Int) {N:Nat} (hN:∀ i,i<P.m->S.kept i<N) (f:Nat->Int):(sumN N λk=>byName P S y k*f k)=sumN P.m λi=>y i*f (S.kept i):=by
 have e:(sumN N λk=>byName P S y k*f k)=sumN N λk=>sumN P.m λi=>_*f k:=sumN_congr λk _=>(sumN_right _ _ _).symm;rw[e,sumN_swap];refine sumN_congr λi hi=>?_;rw[sumN_single (hN i hi) λk _ g=>by rw[iFN (qbk g),qbC],iFP U]
theorem byName_nonneg {S:Tb}{y:Nat->Int} (h:∀ i,i<P.m->0<=y i) (k:Nat):0<=byName P S y k:=sumN_nonneg λi hi=>by split;exact h i hi;exact qb3 _
theorem byName_at {S:Tb}{y:Nat->Int} (F:∀ i j,i<P.m->j<P.m->S.kept i=S.kept j->i=j) {i:Nat} (hi:i<P.m):byName P S y (S.kept i)=y i:=by
 unfold byName;rw[sumN_single hi λj I g=>iFN λe=>g (F j i I hi e),iFP U]
theorem byName_not {S:Tb}{y:Nat->Int}{k:Nat} (h:∀ i,i<P.m->S.kept i≠k):byName P S y k=0:=by
 unfold byName;rw[sumN_congr λi hi=>iFN (h i hi),sumN_zero]
theorem unit_sum {m:Nat}{v:Vec}{r:Nat} (u:r<m):(sumN m λk=>v k*unit k r)=v r:=by
 rw[sumN_single u λk _ g=>by unfold unit;rw[iFN (qbk g),qa1]];unfold unit;rw[iFP U,qcX]
theorem amounts_ok {S:Tb} (h:Good P S) (hn:Named P S) (X:∀ i,i<P.m->0<=S.T i P.n) {r:Nat} (u:r<P.m):(sumN P.n λj=>byName P S (λi=>S.T i P.n) j*P.A j r)<=S.p*P.b r:=by
 have z:=h.eq P.n (qao _) r;have c1:colV P S P.n=P.b:=by unfold colV;rw[iFN (qa2 _)]
 rw[c1]at z;have o:=byName_sum S (λi=>S.T i P.n) hn.bound.2 λk=>P.A k r;rw[sumN_append]at o;have e3:(sumN P.m λk=>byName P S (λi=>S.T i P.n) (P.n+k)*P.A (P.n+k) r)=byName P S (λi=>S.T i P.n) (P.n+r):=by
  rw[sumN_congr λk q=>by rw[hn.one k q]];exact unit_sum u
 have e4:=byName_nonneg (S:=S) X (P.n+r);omega
theorem gains_amounts {S:Tb} (h:Good P S) (hn:Named P S) (hg:∀ r,r<P.m->P.g (P.n+r)=0):(sumN P.n λj=>byName P S (λi=>S.T i P.n) j*P.g j)=S.G P.n:=by
 have o:=byName_sum S (λi=>S.T i P.n) hn.bound.2 P.g;rw[sumN_append,sumN_congr (n:=P.m) λk q=>by rw[hg k q,qa1],sumN_zero,qeb]at o;rw[o,h.goal P.n (qao _)]
 have:gainC P S P.n=0:=by unfold gainC;rw[iFN (qa2 _)]
 rw[this,qa1,qgR];exact sumN_congr λi _=>qaX _ _
theorem det_by_units {S:Tb}{v:Vec} (O:∀ t,P.m<=t->v t=0) {i:Nat} (hi:i<P.m):det P.m (upd (basis P S) i v)=sumN P.m λs=>v s*LV P S i (s+1):=by
 have e:=by
  funext t
  by_cases w:t<P.m
  ·exact (unit_sum (v:=v) w).symm
  ·rw[sumN_congr λs V=>by unfold unit;rw[iFN (by omega),qa1],sumN_zero]
   exact O t (by omega)
 have o:=det_sum (basis P S) hi (λs=>v s) unit P.m;rw[<-e]at o;rw[o];refine sumN_congr λs V=>?_;unfold LV XV;rw[iFN (by omega),qcN]
theorem prices_col {S:Tb}{v:Vec} (O:∀ t,P.m<=t->v t=0):(sumN P.m λr=>v r*ZV P S (r+1))=sumN P.m λi=>P.g (S.kept i)*det P.m (upd (basis P S) i v):=by
 have e:(sumN P.m λr=>v r*ZV P S (r+1))=sumN P.m λr=>sumN P.m λi=>P.g _*_:=sumN_congr λr _=>by
  unfold ZV;rw[<-sumN_mul];exact sumN_congr λi _=>by rw[qaS]
 rw[e,sumN_swap];refine sumN_congr λi hi=>?_;rw[sumN_mul,det_by_units O hi]
theorem prices_ok {S:Tb} (h:Good P S) (hn:Named P S) (hA:∀ k,k<P.n+P.m->∀ t,P.m<=t->P.A k t=0) (K:∀ c,c<P.n->0<=S.G c) {j:Nat} (I:j<P.n):S.p*P.g j<=sumN P.m λr=>P.A j r*ZV P S (r+1):=by
 rw[prices_col (hA j (by omega))];rcases hn.all j (by omega) with⟨c,x,e⟩|⟨i,hi,e⟩
 ·have z:=h.goal c (by omega)
  have E:gainC P S c=P.g j:=by unfold gainC;rw[iFP x,e]
  have c1:colV P S c=P.A j:=by unfold colV;rw[iFP x,e]
  rw[E]at z;rw[(sumN_congr λi hi=>by rw[<-c1,<-h.entry (by omega) hi])]
  have:=K c x
  omega
 ·rw[sumN_single hi λk q g=>?_]
  ·have:=det_kept h hi hi
   rw[iFP U]at this;have o:det P.m (upd (basis P S) i (P.A j))=S.p:=by rw[<-e];exact this
   rw[o,e,qaX];exact qb3 _
  ·have:=det_kept h q hi
   rw[iFN g]at this;have o:det P.m (upd (basis P S) k (P.A j))=0:=by rw[<-e];exact this
   rw[o,qa1]
theorem bounds_prices {S:Tb} (h:Good P S) (hb:∀ t,P.m<=t->P.b t=0):(sumN P.m λr=>P.b r*ZV P S (r+1))=S.G P.n:=by
 have c1:colV P S P.n=P.b:=by unfold colV;rw[iFN (qa2 _)]
 have:gainC P S P.n=0:=by unfold gainC;rw[iFN (qa2 _)]
 rw[prices_col hb,h.goal P.n (qao _),this,qa1,qgR];exact sumN_congr λi hi=>by rw[h.entry (qao _) hi,c1]
theorem price_free {S:Tb} (h:Good P S) (hn:Named P S) (hg:∀ r,r<P.m->P.g (P.n+r)=0) {r c:Nat} (u:r<P.m) (x:c<P.n) (e:S.free c=P.n+r):ZV P S (r+1)=S.G c:=by
 have E:gainC P S c=0:=by unfold gainC;rw[iFP x,e,hg r u]
 have c1:colV P S c=unit r:=by unfold colV;rw[iFP x,e,hn.one r u]
 rw[h.goal c (by omega),E,qa1,qgR];refine sumN_congr λi hi=>?_;rw[h.entry (by omega) hi,c1];unfold LV XV;rw[iFN (by omega),qcN]
theorem price_kept {S:Tb} (h:Good P S) (hn:Named P S) (hg:∀ r,r<P.m->P.g (P.n+r)=0) {r j:Nat} (u:r<P.m) (I:j<P.m) (e:S.kept j=P.n+r):ZV P S (r+1)=0:=by
 unfold ZV;rw[sumN_single I λk q g=>?_]
 ·rw[e,hg r u,qbC]
 ·have:=det_kept h q I
  rw[iFN g]at this;have o:LV P S k (r+1)=0:=by
   unfold LV XV;rw[qcN,<-hn.one r u,<-e];exact this
  rw[o,qa1]
def wayN (P:Pb) (S:Tb) (e k:Nat):Int:=byName P S (λi=>- S.T i e) k+if S.free e=k then S.p else 0
theorem way_sum {S:Tb} (hn:Named P S) {e:Nat} (B:e<P.n) (f:Nat->Int):(sumN (P.n+P.m) λk=>wayN P S e k*f k)=S.p*f (S.free e) - sumN P.m λi=>S.T i e*f (S.kept i):=by
 have o:(sumN (P.n+P.m) λk=>(if S.free e=k then S.p else 0)*f k)=S.p*f (S.free e):=by
  rw[sumN_single (hn.bound.1 e B) λk _ g=>by rw[iFN (qbk g),qbC],iFP U]
 rw[(sumN_congr λk _=>by unfold wayN;rw[qet]),sumN_add,(byName_sum S _ hn.bound.2 f)];have e4:(sumN P.m λi=>- S.T i e*f (S.kept i))=- sumN P.m λi=>S.T i e*f (S.kept i):=by
  have:(sumN P.m λi=>- S.T i e*f (S.kept i))=sumN P.m λi=>(-1)*_:=sumN_congr λi _=>by rw[qdI,qdI,qcF]
  rw[this,sumN_mul];omega
 omega
theorem way_nonneg {S:Tb} (h:Good P S) {e:Nat} (w:∀ i,i<P.m->S.T i e<=0) (k:Nat):0<=wayN P S e k:=by
 unfold wayN
 have:=byName_nonneg (S:=S) (λi hi=>by have:=w i hi;show 0<=- S.T i e;omega) k
 have:=h.pos
 split<;>omega
theorem way_rows {S:Tb} (h:Good P S) (hn:Named P S) {e:Nat} (B:e<P.n) (w:∀ i,i<P.m->S.T i e<=0) {r:Nat} (u:r<P.m):(sumN P.n λk=>wayN P S e k*P.A k r)<=0:=by
 have z:=way_sum hn B λk=>P.A k r;have o:=h.eq e (by omega) r;have c1:colV P S e=P.A (S.free e):=by unfold colV;rw[iFP B]
 rw[c1]at o;rw[sumN_append]at z;have e3:(sumN P.m λk=>wayN P S e (P.n+k)*P.A (P.n+k) r)=wayN P S e (P.n+r):=by
  rw[sumN_congr λk q=>by rw[hn.one k q]];exact unit_sum u
 have:=way_nonneg h w (P.n+r)
 omega
theorem way_gains {S:Tb} (h:Good P S) (hn:Named P S) (hg:∀ r,r<P.m->P.g (P.n+r)=0) {e:Nat} (B:e<P.n) (K:S.G e<0):0<sumN P.n λk=>wayN P S e k*P.g k:=by
 have z:=way_sum hn B P.g;rw[sumN_append,sumN_congr (n:=P.m) λk q=>by rw[hg k q,qa1],sumN_zero,qeb]at z;have o:=h.goal e (by omega);have E:gainC P S e=P.g (S.free e):=by unfold gainC;rw[iFP B]
 rw[E]at o;rw[z,(sumN_congr λi _=>qaX _ _)];omega
def tb0 (P:Pb) (T:Nat->Nat->Int) (G:Nat->Int):Tb:=⟨1,λi=>P.n+i,λc=>c,T,G⟩
theorem good0 {T:Nat->Nat->Int}{G:Nat->Int} (R:∀ r,r<P.m->P.A (P.n+r)=unit r) (hA:∀ k,k<P.n->∀ t,P.m<=t->P.A k t=0) (hb:∀ t,P.m<=t->P.b t=0) (hg:∀ r,r<P.m->P.g (P.n+r)=0)
  (X:∀ i c,i<P.m->c<P.n->T i c=P.A c i) (hL:∀ i,i<P.m->T i P.n=P.b i) (K:∀ c,c<P.n->G c=- P.g c) (M:G P.n=0):Good P (tb0 P T G)/\Named P (tb0 P T G)/\((∀ t,t<P.m->0<=P.b t)->Fe P (tb0 P T G)):=by
 have A:∀ i,i<P.m->basis P (tb0 P T G) i=unit i:=λi hi=>R i hi;have H:det P.m (basis P (tb0 P T G))=1:=by
  rw[det_congr P.m λk t q _=>by rw[A k q],det_unit]
 have Q:∀ c,c<=P.n->∀ t,_*colV P (tb0 P T G) c t=sumN P.m λi=>T i c*P.A _ t:=λc x t=>by
  rw[qcF,sumN_congr λi hi=>by rw[R i hi]];have D:∀ t',P.m<=t'->colV P (tb0 P T G) c t'=0:=λt' C=>by
   unfold colV;by_cases d:c<P.n
   ·rw[iFP d];exact hA c d t' C
   ·rw[iFN d];exact hb t' C
  by_cases w:t<P.m
  ·rw[unit_sum w]
   unfold colV;by_cases d:c<P.n
   ·rw[iFP d,X t c w d];rfl
   ·have:c=P.n:=by omega
    subst this;rw[iFN d,hL t w]
  ·rw[D t (by omega),sumN_congr λi hi=>by unfold unit;rw[iFN (by omega),qa1],sumN_zero]
 have p:Good P (tb0 P T G):=by
  refine⟨by show _<1;decide,H.symm,Q,λc x=>?_⟩;show G c=(sumN P.m λi=>P.g (P.n+i)*T i c) - 1*gainC P _ c;rw[sumN_congr λi hi=>by rw[hg i hi,qbC],sumN_zero];unfold gainC;by_cases d:c<P.n
  ·rw[iFP d,K c d]
   show - P.g c=0 - 1*P.g c;omega
  ·have:c=P.n:=by omega
   subst this;rw[iFN d,M];rfl
 refine⟨p,⟨R,λk q=>?_,λc x=>by show c<_;omega,λi hi=>by show P.n+i<_;omega⟩,λL i hi=>?_⟩
 ·by_cases W:k<P.n
  ·exact .inl ⟨k,W,U⟩
  ·exact .inr ⟨k - P.n,by omega,by show P.n+_=k;omega⟩
 ·have l0:LV P (tb0 P T G) i 0=P.b i:=by
   have e:=p.entry (qao _) hi;have c1:colV P (tb0 P T G) P.n=P.b:=by unfold colV;rw[iFN (qa2 _)]
   rw[c1]at e;unfold LV XV;rw[iFP U,<-e];exact hL i hi
  have ls:∀ s,s<P.m->LV P _ i _=if i=s then 1 else 0:=λs hs=>by
   have:=det_kept p hi hs
   unfold LV XV;rw[qcN,<-A s hs];exact this
  rcases qd9 (L i hi) with Y|Y
  ·exact⟨0,by omega,by rw[l0];exact Y,λl hl=>absurd hl (by omega)⟩
  ·refine⟨i+1,by omega,by rw[ls i hi,iFP U];decide,λl hl=>?_⟩
   cases l with
   |zero=>rw[l0,<-Y]
   |succ l=>rw[ls l (by omega),iFN (by omega)]
end Sx
set_option maxHeartbeats 1000000
namespace Own
open PySem L2
open Sx (Pb Tb Good Named Fe LV ZV piv lexP leastR leaveL sumN unit colV basis)
theorem dA {e:Ef}{z:Int}{m:Nat}{env:Ev}{st s:Sto} (c:e env st=some (.d (.int z),s)) (a:0<=z) (f:z<=1000) (hm:z.toNat=m):bz (aa e ae) env st=some (bf 0 m,s):=by
 have hb:-(2^62)<=z/\z<2^62:=⟨qea (by decide) a,Int.lt_of_le_of_lt f (by decide)⟩;simp only[bz,(ab (b:=ae) c U),qaa,hb,and_self,if_true,hm]
theorem aR {f:Ef}{env:Ev}{st s:Sto}{ds:List D} (h:f env st=some (.d (.lst ds),s)):aB f env st=some (ds,s):=by
 simp only[aB,h,qaa]
theorem bx {f:Ef}{env:Ev}{st s:Sto}{ds:List D} (h:f env st=some (.d (.tup ds),s)):aB f env st=some (ds,s):=by
 simp only[aB,h,qaa]
theorem n5 {c:Tf}{a b:Ef}{env:Ev}{st s:Sto}{r:Option (W×Sto)} (h:c env st=some (true,s)) (d:a env s=r):jl c a b env st=r:=by
 simp only[jl,h,qaa,if_true,d]
theorem rB {c:Tf}{a b:Ef}{env:Ev}{st s:Sto}{r:Option (W×Sto)} (h:c env st=some (false,s)) (hb:b env s=r):jl c a b env st=r:=by
 simp only[jl,h,qaa,qbm,if_false,hb]
theorem wN (s:Sto) (ns:List Int):sk s [.d (.lst (ns.map D.int))]=some (.int ns.sum):=by
 show (aU _).map _=_;rw[bb];rfl
theorem Ak (s:Sto) {a b:Int} (h:0<=b):xz s (.d (.int a)) (.d (.int b))=some (.int (a / 2^b.toNat)):=iFP h
theorem cJ (s:Sto) (a b:Int):dEq s (.d (.int a)) (.d (.int b))=some (.bl (a==b)):=by
 rfl
theorem E9 (s:Sto) (a b:Str):dEq s (.d (.str a)) (.d (.str b))=some (.bl (a==b)):=by
 rfl
theorem dj (s:Sto) {a b:List D} (h:a.length+b.length<=1000000):bj s (.d (.lst a)) (.d (.lst b))=some (.lst (a++b)):=iFP h
theorem uq (s:Sto) {a b:List D} (h:a.length+b.length<=1000000):bj s (.d (.tup a)) (.d (.tup b))=some (.tup (a++b)):=iFP h
def mpI (n:Nat) (f:Nat->Int):List D:=(qak n).map λk=>D.int (f k)
def lnD (n:Nat) (T:Nat->Nat->Int) (i:Nat):D:=.lst (mpI (n+1) (T i))
def aV (m n:Nat) (T:Nat->Nat->Int):List D:=(qak m).map (lnD n T)
def nI (f:Nat->Nat):Nat->Int:=λk=>((f k:Nat):Int)
abbrev obN:List Str:=["amounts","lines","goal","part","free","kept"]
def obD (P:Pb) (S:Tb):D:=.ob obN [.int (P.n:Int),.lst (aV P.m P.n S.T),.lst (mpI (P.n+1) S.G),.int S.p,.lst (mpI P.n (nI S.free)),.lst (mpI P.m (nI S.kept))]
theorem aC (n:Nat) (f:Nat->Int):(mpI n f).length=n:=by unfold mpI;rw[qah,qat]
theorem cz (m n:Nat) (T:Nat->Nat->Int):(aV m n T).length=m:=by unfold aV;rw[qah,qat]
theorem bm {n:Nat}{f:Nat->Int}{k:Nat} (h:k<n):(mpI n f)[k]?=some (.int (f k)):=by
 unfold mpI;rw[qaA,qa7 h];rfl
theorem nG {m n:Nat}{T:Nat->Nat->Int}{k:Nat} (h:k<m):(aV m n T)[k]?=some (lnD n T k):=by
 unfold aV;rw[qaA,qa7 h];rfl
theorem bD {n:Nat}{f g:Nat->Int} (h:∀ k,k<n->f k=g k):mpI n f=mpI n g:=by
 refine qci λk a=>?_;rw[h k (qaN.mp a)]
theorem nP (n:Nat) (f:Nat->Int):mpI (n+1) f=mpI n f++[.int (f n)]:=by
 unfold mpI;rw[qdU,qbv];rfl
theorem bH (n:Nat) (f:Nat->Int):mpI n f=((qak n).map f).map D.int:=by rw[qaO];rfl
theorem tM (n:Nat) (f:Nat->Int):(mpI n f).all cC=true:=by
 rw[qa3];intro d hd;obtain⟨k,_,rfl⟩:=qaF.mp hd;rfl
theorem gu {n:Nat}{f:Nat->Int}{k:Nat}{x:Int}:(mpI n f).set k (.int x)=mpI n λj=>if j=k then x else f j:=by
 apply qbA;intro j;by_cases a:j<n
 ·rw[bm a]
  by_cases e:j=k
  ·subst e;rw[iFP U,qbq (by rw[aC];exact a)]
  ·rw[iFN e,qbB (qbk e),bm a]
 ·rw[qaC (by rw[qb5,aC];lia),qaC (by rw[aC];lia)]
theorem d7 (st:Sto) {n:Nat}{f:Nat->Int}{k:Nat} (h:k<n):dIx st (.d (.lst (mpI n f))) (.d (.int (k:Int)))=some (.int (f k)):=db (bm h)
theorem sU (st:Sto) {m n:Nat}{T:Nat->Nat->Int}{k:Nat} (h:k<m):dIx st (.d (.lst (aV m n T))) (.d (.int (k:Int)))=some (lnD n T k):=db (nG h)
theorem sS (st:Sto) {n:Nat}{T:Nat->Nat->Int}{i c:Nat} (h:c<=n):dIx st (.d (lnD n T i)) (.d (.int (c:Int)))=some (.int (T i c)):=d7 st (by lia)
theorem vZ (st:Sto) {n:Nat}{T:Nat->Nat->Int}{i:Nat}:dIx st (.d (lnD n T i)) (.d (.int (-1)))=some (.int (T i n)):=by
 show atI _ _=_;rw[nP];exact mE _ _
section
variable {P:Pb}{S:Tb}{a:Ef}{env:Ev}{st s:Sto}
theorem bU (h:a env st=some (.d (obD P S),s)):ay "amounts" a env st=some (.d (.int (P.n:Int)),s):=by simp only[ay,h,qaa,obD];rfl
theorem cE (h:a env st=some (.d (obD P S),s)):ay "lines" a env st=some (.d (.lst (aV P.m P.n S.T)),s):=by simp only[ay,h,qaa,obD];rfl
theorem lE (h:a env st=some (.d (obD P S),s)):ay "goal" a env st=some (.d (.lst (mpI (P.n+1) S.G)),s):=by simp only[ay,h,qaa,obD];rfl
theorem lF (h:a env st=some (.d (obD P S),s)):ay "part" a env st=some (.d (.int S.p),s):=by simp only[ay,h,qaa,obD];rfl
theorem lD (h:a env st=some (.d (obD P S),s)):ay "free" a env st=some (.d (.lst (mpI P.n (nI S.free))),s):=by simp only[ay,h,qaa,obD];rfl
theorem pF (h:a env st=some (.d (obD P S),s)):ay "kept" a env st=some (.d (.lst (mpI P.m (nI S.kept))),s):=by simp only[ay,h,qaa,obD];rfl
end
theorem gG {te:Ef}{l:Ev}{st:Sto}{g:Nat->D} (F:Nat->D):∀ {ks:List Nat},(∀ k∈ks,te (Z (g k)::l) st=some (.d (F k),st))->lcI (.nm 0) aN te (none::l) (ks.map g) st=some (ks.map F,st)
 |[],_=>rfl
 |k::ks,h=>by
  rw[qaw];unfold lcI;rw[show eF _ _ _=some (some _::l) from U,qaa,show aN _ st=some (true,st) from U,qaa,(h k qag),qaa,(gG F λx a=>h x (qaj _ a))];rfl
def Sm (z:Int):Prop:=z.natAbs<2^4000
theorem mulOk {a b:Int} (x y:Nat) (c:a.natAbs<2^x) (hb:b.natAbs<2^y) (h:x+y<=134217728):qc6 a b:=
 qic (qgE.mpr c) (qgE.mpr hb) h
theorem DL {a b:Int}{x y:Nat} (c:a.natAbs<2^x) (hb:b.natAbs<2^y):(a*b).natAbs<2^(x+y):=by
 rw[qdg,qhh];exact Nat.mul_lt_mul'' c hb
theorem Sm.mulOk {a b:Int} (c:Sm a) (hb:Sm b):qc6 a b:=Own.mulOk 4000 4000 c hb (by decide)
theorem bI (st:Sto) {a b:Int} (h:qc6 a b):a9 st (.d (.int a)) (.d (.int b))=some (.int (a*b)):=iFP h
theorem Sm.log {a:Int} (h:Sm a):a.natAbs.log2<9000:=by
 by_cases b:a.natAbs=0
 ·rw[b];decide
 ·have:=(Nat.log2_lt b).mpr h
  lia
theorem qi (st:Sto) {a b:Int} (c:0<b) (h:Sm b):qe st (.d (.int a)) (.d (.int b))=some (.int (a / b)):=iFP ⟨c,h.log⟩
end Own
set_option maxHeartbeats 1000000
namespace Own
open PySem L2
open Sx (Pb Tb Good Named Fe LV ZV piv lexP leastR leaveL sumN unit colV basis)
theorem fQ {a b:Sf}{env:Ev}{st s:Sto}{w:W} (h:a env st=some (.rt w s)):ag a b env st=some (.rt w s):=by simp only[ag,h,qaa]
theorem ai {a b:Sf}{env e:Ev}{st s:Sto}{r:Option Fl} (h:a env st=some (.nx e s)) (hb:b e s=r):ag a b env st=r:=by simp only[ag,h,qaa,hb]
theorem ck {c:Tf}{a b:Sf}{env:Ev}{st s:Sto}{r:Option Fl} (h:c env st=some (true,s)) (d:a env s=r):aX c a b env st=r:=by simp only[aX,h,qaa,if_true,d]
theorem bh {c:Tf}{a b:Sf}{env:Ev}{st s:Sto}{r:Option Fl} (h:c env st=some (false,s)) (hb:b env s=r):aX c a b env st=r:=by simp only[aX,h,qaa,qbm,if_false,hb]
theorem GZ {o a:Ef}{env:Ev}{st s1 e:Sto}{n:Nat}{d:D}{c ds:List D} (j:o env st=some (.h n,s1)) (i:a env s1=some (.d d,e)) (g:lg s1 n=some c) (hg:lg e n=some ds) (f:ds.length<1000000):d5 (cD bv o (aa a ae)) env st=some (.nx env (e.set n (.l (ds++[d])))):=by
 simp only[d5,cD,j,(ab (b:=ae) i U),g,hg,bv,f,if_true,qaa,qap]
theorem og (st:Sto) (a b:C):(st++[a]).set st.length b=st++[b]:=by
 simp
structure Okt (P:Pb) (S:Tb):Prop where
 good:Good P S
 named:Named P S
 m64:P.m<=100
 n64:P.n<=100
 sT:∀ i c,i<P.m->c<=P.n->Sm (S.T i c)
 sL:∀ i s,i<P.m->s<=P.m->Sm (LV P S i s)
 sG:∀ c,c<=P.n->Sm (S.G c)
 sp:Sm S.p
def psD (ps:List Nat):List D:=ps.map λk=>D.int ((k:Nat):Int)
theorem wD (ps:List Nat):(psD ps).length=ps.length:=by unfold psD;rw[qah]
theorem ml {n k:Nat}{b:Sf}{ws:List W}{st s:Sto}{h:Nat}{ds:List D} (c:ws.length=k) (hb:b (ws.map some++qaH (n - k) none) st=some (.rt (.h h) s)) (a:st.length<=h) (hd:lg s h=some ds):fA n k b ws st=some (.d (.lst ds),s.take st.length):=by
 simp only[fA,c,if_true,hb,qaa,yK,iFN (qhG.mpr a),hd,qap]
theorem wJ {st u:Sto}{h:Nat}{c:C} (a:st.length<=h):(st++u).set h c=st++u.set (h - st.length) c:=by
 rw[List.set_append_right _ _ a]
theorem DH {s:Sto}{h:Nat}{ds es:List D} (hg:lg s h=some ds):lg (s.set h (.l es)) h=some es:=by
 have:=(qar.mp (wd hg)).1
 unfold lg;rw[qbq this]
theorem dn (s:Sto) (ds:List D):lg (s++[.l ds]) s.length=some ds:=by unfold lg;simp
theorem CY (s:Sto) {h:Nat}{ds:List D} (hg:lg s h=some ds):c9 s (.h h)=some (!ds.isEmpty):=by
 show (lg s h).map _=_;rw[hg];rfl
theorem Fx (s:Sto) {h:Nat}{d:D}{ds:List D} (hg:lg s h=some (d::ds)):dIx s (.h h) (.d (.int 0))=some d:=by
 show (lg s h).bind _=_;rw[hg,qaa,EZ]
theorem zk (s:Sto) (a b:Int):dLt s (.d (.int a)) (.d (.int b))=some (.bl (decide (a<b))):=rfl
theorem Dh (s:Sto) (a b:Int):dGt s (.d (.int a)) (.d (.int b))=some (.bl (decide (a > b))):=rfl
theorem Fh (s:Sto) (a b:Int):dGe s (.d (.int a)) (.d (.int b))=some (.bl (decide (a>=b))):=rfl
section
variable {tops bots:Nat->Int}{m:Nat}{st:Sto}{f:Option W}
theorem jY (G:∀ i,i<m->Sm (tops i)) (hb:∀ i,i<m->Sm (bots i)):∀ (ps least:List Nat) (u:Sto) (h:Nat) (P g c:Option W),(∀ x∈ps,x<m)->(∀ x∈least,x<m)->lg (st++u) h=some (psD least)->st.length<=h->least.length+ps.length<=1000->
  ∃ w h' j k q,cf (.nm 4) aW (psD ps) [f,Z (.lst (mpI m tops)),Z (.lst (mpI m bots)),some (.h h),P,g,c] (st++u)=some (.nx [f,Z (.lst (mpI m tops)),Z (.lst (mpI m bots)),some (.h h'),j,k,q] (st++w))/\
   lg (st++w) h'=some (psD (leastR tops bots ps least))/\st.length<=h'
 |[],least,u,h,P,g,c,_,_,hg,y,_=>⟨u,h,P,g,c,U,by rw[leastR];exact hg,y⟩
 |p::ps,least,u,h,P,g,c,T,S,hg,y,K=>by
  have s:p<m:=T p qag;have C:∀ x∈ps,x<m:=λx E=>T x (qaj _ E);rw[qaq]at K;have R:∀ g c N,eF (.nm 4) (.d (.int ((p:Nat):Int))) [f,Z (.lst (mpI m tops)),Z (.lst (mpI m bots)),some (.h N),P,g,c]=some [f,Z (.lst (mpI m tops)),Z (.lst (mpI m bots)),some (.h N),Z (.int ((p:Nat):Int)),g,c]:=λ_ _ _=>rfl;have J:∀ (u:Sto) (h:Nat) (ls:List Nat) (g c:Option W),lg (st++u) h=some (psD ls)->st.length<=h->ls.length<1000->d5 (cD bv (iV 3) (aa (iV 4) ae)) [f,Z (.lst (mpI m tops)),Z (.lst (mpI m bots)),some (.h h),Z (.int ((p:Nat):Int)),g,c] (st++u)=some _/\lg (st++u.set (h - st.length) (.l (psD (ls++[p])))) h=some (psD (ls++[p])):=λu h ls g c hg y S=>by
   have e:=GZ (o:=iV 3) (a:=iV 4) (env:=[f,Z (.lst (mpI m tops)),Z (.lst (mpI m bots)),some (.h h),Z (.int ((p:Nat):Int)),g,c]) (st:=st++u) (n:=h) (d:=.int ((p:Nat):Int)) U U hg hg (by rw[wD];lia);have e2:psD ls++[.int ((p:Nat):Int)]=psD (ls++[p]):=by unfold psD;rw[qbv];rfl
   rw[e2,wJ y]at e;refine⟨e,?_⟩;rw[<-wJ y];exact DH hg
  cases least with
  |nil=>
   have O:cL c9 (iV 3) [f,Z (.lst (mpI m tops)),Z (.lst (mpI m bots)),some (.h h),Z (.int ((p:Nat):Int)),g,c] (st++u)=some (false,st++u):=by
    have:=CY (st++u) hg
    simp only[cL,show iV 3 [f,Z (.lst (mpI m tops)),Z (.lst (mpI m bots)),some (.h h),Z (.int ((p:Nat):Int)),g,c] (st++u)=some (.h h,st++u) from U,qaa,this];rfl
   obtain⟨L,a2⟩:=J u h [] g c hg y (by decide);obtain⟨w,h',j,k,q,D,A,i3⟩:=jY G hb ps [p] _ h (Z (.int ((p:Nat):Int))) g c C (λx E=>by rw[qal.mp E];exact s) a2 y (by simp at K ⊢;lia);refine⟨w,h',j,k,q,?_,by rw[leastR];exact A,i3⟩;have t:aW [f,Z (.lst (mpI m tops)),Z (.lst (mpI m bots)),some (.h h),Z (.int ((p:Nat):Int)),g,c] (st++u)=_:=ai (bh O U) L;show cf (.nm 4) aW (.int ((p:Nat):Int)::psD ps) _ _=_;simp only[cf,R,qaa,t];exact D
  |cons v r=>
   have F:v<m:=S v qag;have O:cL c9 (iV 3) [f,Z (.lst (mpI m tops)),Z (.lst (mpI m bots)),some (.h h),Z (.int ((p:Nat):Int)),g,c] (st++u)=some (true,st++u):=by
    have:=CY (st++u) hg
    simp only[cL,show iV 3 [f,Z (.lst (mpI m tops)),Z (.lst (mpI m bots)),some (.h h),Z (.int ((p:Nat):Int)),g,c] (st++u)=some (.h h,st++u) from U,qaa,this];rfl
   have i0:∀ g c,iOp dIx (iV 3) (iC (.int 0)) [f,Z (.lst (mpI m tops)),Z (.lst (mpI m bots)),some (.h h),Z (.int ((p:Nat):Int)),g,c] (st++u)=some (.d (.int ((v:Nat):Int)),st++u):=λ_ _=>ac U U (Fx (st++u) hg);have Y:aA (.nm 5) (iOp a9 (iOp dIx (iV 1) (iV 4)) (iOp dIx (iV 2) (iOp dIx (iV 3) (iC (.int 0))))) [f,Z (.lst (mpI m tops)),Z (.lst (mpI m bots)),some (.h h),Z (.int ((p:Nat):Int)),g,c] (st++u)=some _:=
    aj (ac (ac U U (d7 _ s)) (ac U (i0 _ _) (d7 _ F)) (bI _ (Sm.mulOk (G p s) (hb v F))))
   have s6:aA (.nm 6) (iOp a9 (iOp dIx (iV 1) (iOp dIx (iV 3) (iC (.int 0)))) (iOp dIx (iV 2) (iV 4))) [f,Z (.lst (mpI m tops)),Z (.lst (mpI m bots)),some (.h h),Z (.int ((p:Nat):Int)),Z (.int (tops p*bots v)),c] (st++u)=some (.nx [f,Z (.lst (mpI m tops)),Z (.lst (mpI m bots)),some (.h h),Z (.int ((p:Nat):Int)),Z (.int (tops p*bots v)),Z (.int (tops v*bots p))] (st++u)):=
    aj (ac (ac U (i0 _ _) (d7 _ F)) (ac U U (d7 _ s)) (bI _ (Sm.mulOk (G v F) (hb p s))))
   generalize X:tops p*bots v=M at *;generalize V:tops v*bots p=B at *;have Q:aE dGt (iV 5) (iV 6) [f,Z (.lst (mpI m tops)),Z (.lst (mpI m bots)),some (.h h),Z (.int ((p:Nat):Int)),Z (.int M),Z (.int B)] (st++u)=some (decide (M > B),st++u):=ao U U (Dh _ _ _);have tl:aE dLt (iV 5) (iV 6) [f,Z (.lst (mpI m tops)),Z (.lst (mpI m bots)),some (.h h),Z (.int ((p:Nat):Int)),Z (.int M),Z (.int B)] (st++u)=some (decide (M<B),st++u):=ao U U (zk _ _ _);by_cases c1:M > B
   ·rw[decide_eq_true c1]at Q
    obtain⟨w,h',j,k,q,D,A,i3⟩:=jY G hb ps (v::r) u h (Z (.int ((p:Nat):Int))) (Z (.int M)) (Z (.int B)) C S hg y (by lia);refine⟨w,h',j,k,q,?_,by rw[leastR,X,V,iFP c1];exact A,i3⟩;have t:aW [f,Z (.lst (mpI m tops)),Z (.lst (mpI m bots)),some (.h h),Z (.int ((p:Nat):Int)),g,c] (st++u)=some (.ct [f,Z (.lst (mpI m tops)),Z (.lst (mpI m bots)),some (.h h),Z (.int ((p:Nat):Int)),Z (.int M),Z (.int B)] (st++u)):=by
     have I:aX (cL c9 (iV 3)) (ag (aA (.nm 5) (iOp a9 (iOp dIx (iV 1) (iV 4)) (iOp dIx (iV 2) (iOp dIx (iV 3) (iC (.int 0)))))) (ag (aA (.nm 6) (iOp a9 (iOp dIx (iV 1) (iOp dIx (iV 3) (iC (.int 0)))) (iOp dIx (iV 2) (iV 4)))) (ag (aX (aE dGt (iV 5) (iV 6)) oU aS) (aX (aE dLt (iV 5) (iV 6)) (aA (.nm 3) (cV (bO ae))) aS)))) aS [f,Z (.lst (mpI m tops)),Z (.lst (mpI m bots)),some (.h h),Z (.int ((p:Nat):Int)),g,c] (st++u)=some (.ct [f,Z (.lst (mpI m tops)),Z (.lst (mpI m bots)),some (.h h),Z (.int ((p:Nat):Int)),Z (.int M),Z (.int B)] (st++u)):=by
      refine ck O (ai Y (ai s6 ?_))
      have:=ck (a:=oU) (b:=aS) Q U
      simp only[ag,this];rfl
     show ag _ _ _ _=_;simp only[ag,I];rfl
    show cf (.nm 4) aW (.int ((p:Nat):Int)::psD ps) _ _=_;simp only[cf,R,qaa,t];exact D
   ·rw[decide_eq_false c1]at Q
    by_cases c2:M<B
    ·rw[decide_eq_true c2]at tl
     have hn:lg (st++(u++[.l []])) (st++u).length=some (psD []):=by rw[<-qb1];exact dn _ _
     have H:st.length<=(st++u).length:=by rw[qaz];lia
     obtain⟨L,a2⟩:=J (u++[.l []]) (st++u).length [] (Z (.int M)) (Z (.int B)) hn H (by decide);obtain⟨w,h',j,k,q,D,A,i3⟩:=jY G hb ps [p] _ (st++u).length (Z (.int ((p:Nat):Int))) (Z (.int M)) (Z (.int B)) C (λx E=>by rw[qal.mp E];exact s) a2 H (by simp at K ⊢;lia);refine⟨w,h',j,k,q,?_,by rw[leastR,X,V,iFN c1,iFP c2];exact A,i3⟩;have sn:aA (.nm 3) (cV (bO ae)) [f,Z (.lst (mpI m tops)),Z (.lst (mpI m bots)),some (.h h),Z (.int ((p:Nat):Int)),Z (.int M),Z (.int B)] (st++u)=some (.nx [f,Z (.lst (mpI m tops)),Z (.lst (mpI m bots)),some (.h (st++u).length),Z (.int ((p:Nat):Int)),Z (.int M),Z (.int B)] (st++(u++[.l []]))):=by rw[<-qb1];rfl
     have t:aW [f,Z (.lst (mpI m tops)),Z (.lst (mpI m bots)),some (.h h),Z (.int ((p:Nat):Int)),g,c] (st++u)=_:=ai (ck O (ai Y (ai s6 (ai (bh Q U) (ck tl sn))))) L;show cf (.nm 4) aW (.int ((p:Nat):Int)::psD ps) _ _=_;simp only[cf,R,qaa,t];exact D
    ·rw[decide_eq_false c2]at tl
     obtain⟨L,a2⟩:=J u h (v::r) (Z (.int M)) (Z (.int B)) hg y (by rw[qaq]at K ⊢;lia)
     obtain⟨w,h',j,k,q,D,A,i3⟩:=jY G hb ps ((v::r)++[p]) _ h (Z (.int ((p:Nat):Int))) (Z (.int M)) (Z (.int B)) C (λx E=>by
      rcases qaR.mp E with z|z
      ·exact S x z
      ·rw[qal.mp z];exact s) a2 y (by rw[qaz,qbI];lia)
     refine⟨w,h',j,k,q,?_,by rw[leastR,X,V,iFN c1,iFN c2];exact A,i3⟩;have t:aW [f,Z (.lst (mpI m tops)),Z (.lst (mpI m bots)),some (.h h),Z (.int ((p:Nat):Int)),g,c] (st++u)=_:=ai (ck O (ai Y (ai s6 (ai (bh Q U) (bh tl U))))) L;show cf (.nm 4) aW (.int ((p:Nat):Int)::psD ps) _ _=_;simp only[cf,R,qaa,t];exact D
theorem FH (G:∀ i,i<m->Sm (tops i)) (hb:∀ i,i<m->Sm (bots i)) {ps:List Nat} (T:∀ x∈ps,x<m) (K:ps.length<=1000):fu [.d (.lst (psD ps)),.d (.lst (mpI m tops)),.d (.lst (mpI m bots))] st=some (.d (.lst (psD (leastR tops bots ps []))),st):=by
 obtain⟨w,h',j,k,q,D,A,i3⟩:=jY G hb ps [] [.l []] st.length none none none T (λx E=>nomatch E) (dn st []) (qao _) (by simpa using K)
 have:=ml (n:=7) (b:=i6) (ws:=[.d (.lst _),.d _,.d _]) U (ai U (ai (bn U D) U)) i3 A
 rw[qcH]at this;exact this
end
end Own
set_option maxHeartbeats 1000000
namespace Own
open PySem L2
open Sx (Pb Tb Good Named Fe LV ZV piv lexP leastR leaveL sumN unit colV basis)
theorem vW (s:Sto) (i:Int):iZ s (.d (.int i)) (.d .non)=some (.bl false):=rfl
theorem qF (s:Sto):iZ s (.d .non) (.d .non)=some (.bl true):=rfl
theorem Be (s:Sto) (l:List D):iZ s (.d (.tup l)) (.d .non)=some (.bl false):=rfl
def eB (n:Nat):Nat->D
 |0=>.non
 |r+1=>.int (((n+r:Nat)):Int)
theorem yb (n m:Nat):D.non::bf (n:Int) m=(qak (m+1)).map (eB n):=by
 rw[qdy,qaw,qaO]
 congr 1
theorem jD (st:Sto) (ds:List D):a8 st [.d (.lst ds)]=some (.int (ds.length:Nat)):=rfl
theorem ow {P:Pb}{S:Tb}{st:Sto} (h:Okt P S):dR [.d (obD P S)] st=some (.d (.lst ((qak (P.m+1)).map (eB P.n))),st):=by
 have hm:=h.m64;have hn:=h.n64;have a:iV 0 [some _] st=some (.d (obD P S),st):=rfl;have b:=bU a;refine au U (aD (ac (x:=.d (.lst [.non])) (y:=.d (.lst (bf (P.n) P.m))) (s1:=st) U (aq ?_) ?_))
 ·show qp _ [some _] st=_
  have e:aa (ay "amounts" (iV 0)) (aa (iOp bj (ay "amounts" (iV 0)) (iCB a8 (aa (ay "lines" (iV 0)) ae))) ae) [Z (obD P S)] st=some ([.d (.int (P.n)),.d (.int ((P.n)+(P.m)))],st):=by
   refine ab b (ab (ac b (aG (ab (cE a) U) (jD _ _)) ?_) U);rw[cz];rfl
  simp only[qp,e,qaa];rw[iFP (by lia),show (_+_ - (P.n:Int)).toNat=P.m by lia]
 ·rw[<-yb]
  exact dj st (by rw[cT];simp;lia)
theorem Dp {n k:Nat}{f:Nat->Nat}:inD (.int (k:Int)) (mpI n (nI f))=decide (∃ c,c<n/\f c=k):=by
 rw[qeG];unfold inD mpI;rw[List.any_map,qer,decide_eq_true_eq];constructor
 ·rintro⟨c,a,e⟩
  refine⟨c,qaN.mp a,?_⟩;have e:(((f c):Int)==_)=true:=e;lia
 ·rintro⟨c,a,e⟩
  refine⟨c,qaN.mpr a,?_⟩;show (((f c):Int)==_)=true;rw[e];exact beq_self_eq_true _
theorem Dl {n k:Nat}{f:Nat->Nat} (h:∃ c,c<n/\f c=k):∃ c,c<n/\f c=k/\((qak n).map (nI f)).idxOf? (k:Int)=some c:=by
 obtain⟨c,d,e⟩:=h;cases q:((qak n).map (nI f)).idxOf? _ with
 |none=>
  have:=List.idxOf?_eq_none_iff.mp q
  exact absurd (qaF.mpr ⟨c,qaN.mpr d,by unfold nI;rw[e]⟩) this
 |some j=>
  obtain⟨b,a,_⟩:=qgo.mp q;rw[qah,qat]at b;refine⟨j,b,?_,U⟩;rw[qhK,qhl]at a;have a:((f j):Int)=_:=a;lia
theorem g9 {P:Pb}{S:Tb} (h:Good P S) {i j:Nat} (hi:i<P.m) (c:j<P.m) (e:S.kept i=S.kept j):i=j:=by
 rcases Nat.decEq i j with a|b
 ·have:=h.pos
  rw[h.dt,(Sx.det_eq0 _ hi c a (by unfold basis;rw[e]))]at this;exact absurd this (by decide)
 ·exact b
theorem CI {P:Pb}{S:Tb}{st:Sto} (h:Okt P S) {s:Nat} (E:s<=P.m):cP [.d (obD P S),.d (eB P.n s)] st=some (.d (.lst (mpI P.m λi=>LV P S i s)),st):=by
 have hg:=h.good;have hm:=h.m64;have hn:=h.n64;cases s with
 |zero=>
  have e:mpI P.m (λi=>LV P S i 0)=mpI P.m λi=>S.T i P.n:=bD λi hi=>by
   have e:=hg.entry (qao _) hi;have c1:colV P S P.n=P.b:=by unfold Sx.colV;rw[iFN (qa2 _)]
   rw[c1]at e;unfold LV Sx.XV;rw[iFP U,<-e]
  rw[e];refine au (n:=3) (k:=2) (b:=fX) U (fQ (ck (s:=st) (ao (x:=.d .non) U U (qF st)) (aD (aq (aM (aR (cE (P:=P) (S:=S) (st:=st) (a:=iV 0) U)) (by rw[cz];lia) ?_)))));exact gG _ λi _=>ac U U (vZ st)
 |succ r=>
  have u:r<P.m:=by lia
  have q:∀ o,iV 0 [some _,Z (.int ((P.n+r:Nat))),o] st=some (.d (obD P S),st):=λ_=>rfl;have v:=lD (q none);have l:Sx.XV P (r+1)=unit r:=by unfold Sx.XV;rw[iFN (by lia),qcN]
  have tI:aE dIn (iV 1) (ay "free" (iV 0)) [Z (obD P S),Z (.int ((P.n+r:Nat))),none] st=some (decide (∃ c,c<P.n/\S.free c=P.n+r),st):=by
   refine ao U v ?_;simp only[dIn,iy,cC,tM,qaa,and_self,if_true,Dp]
  refine au (n:=3) (k:=2) (b:=fX) U (ai (bh (ao U U (vW st _)) U) ?_);by_cases p:∃ c,c<P.n/\S.free c=P.n+r
  ·rw[decide_eq_true p]at tI
   obtain⟨c,B,A,g⟩:=Dl p;have e:mpI P.m (λi=>LV P S i _)=mpI P.m λi=>S.T i c:=bD λi hi=>by
    have e:=hg.entry (c:=c) (by lia) hi;have c1:colV P S c=unit r:=by unfold Sx.colV;rw[iFP B,A,h.named.one r u]
    rw[c1]at e;unfold LV;rw[l,<-e]
   rw[e];have C:aA (.nm 2) (yR (ay "free" (iV 0)) (aa (iV 1) ae)) [Z (obD P S),Z (.int ((P.n+r:Nat))),none] st=some (.nx [Z (obD P S),Z (.int ((P.n+r:Nat))),Z (.int (c))] st):=by
    refine aj ?_;have y:aU (mpI P.n (nI S.free))=some ((qak P.n).map (nI S.free)):=by rw[bH];exact bb _
    simp only[yR,v,qaa,show aa (iV 1) ae [some _,some _,none] st=some ([.d _],st) from U,y];rw[iFP (by rw[qah,qat];lia),g];rfl
   refine fQ (ck tI (ai C (aD (aq (aM (aR (cE (P:=P) (S:=S) (q _))) (by rw[cz];lia) ?_)))));exact gG _ λi _=>ac U U (sS st (by lia))
  ·rw[decide_eq_false p]at tI
   obtain⟨j,w,t⟩:∃ j,j<P.m/\S.kept j=P.n+r:=(h.named.all _ (by lia)).elim (λz=>absurd z p) id;have e:mpI P.m (λi=>LV P S i _)=mpI P.m λi=>if S.kept i=P.n+r then S.p else 0:=bD λi hi=>by
    have e:=Sx.det_kept hg hi w;have c1:basis P S j=unit r:=by unfold Sx.basis;rw[t,h.named.one r u]
    rw[c1]at e;unfold LV;rw[l,e];by_cases f:i=j
    ·rw[iFP f,iFP (by rw[f];exact t)]
    ·rw[iFN f,iFN λz=>f (g9 hg hi w (z.trans t.symm))]
   rw[e];refine ai (bh tI U) (aD (aq (aM (aR (pF (P:=P) (S:=S) (q none))) (by rw[aC];lia) ?_)));refine gG (λi=>D.int _) λi _=>?_;have te:aE dEq (iV 0) (iV 1) [Z (.int (nI S.kept i)),Z (.int ((P.n+r:Nat):Int)),Z (obD P S)] st=some (decide (S.kept i=P.n+r),st):=by
    refine ao U U ?_;rw[cJ]
    congr 2
    unfold nI;lia
   by_cases m:S.kept i=P.n+r
   ·rw[decide_eq_true m]at te
    rw[iFP m];exact n5 te (lF (P:=P) (S:=S) (st:=st) (a:=iV 2) U)
   ·rw[decide_eq_false m]at te
    rw[iFN m];exact rB te U
theorem vE (m:Nat) (f:Nat->Int):ce 0 (mpI m f)=(qak m).map λi=>D.tup [.int ((i:Nat):Int),.int (f i)]:=by
 apply qbA;intro i;rw[dP,qaA];by_cases hi:i<m
 ·rw[bm hi,qa7 hi,qbh];rfl
 ·rw[qaC (by rw[aC];lia),qaC (by rw[qat];lia)];rfl
theorem uM {tt:Tf}{te:Ef}{l:Ev}{st:Sto}{g:Nat->D×D} (p:Nat->Bool) (F:Nat->D):∀ {ks:List Nat},(∀ k∈ks,tt (Z (g k).1::some (.d (g k).2)::l) st=some (p k,st)/\(p k=true->te (Z (g k).1::some (.d (g k).2)::l) st=some (.d (F k),st)))->
  lcI (.tp [0,1]) tt te (none::none::l) (ks.map λk=>D.tup [(g k).1,(g k).2]) st=some ((ks.filter p).map F,st)
 |[],_=>rfl
 |k::ks,h=>by
  have a:=uM p F λx e=>h x (qaj _ e);obtain⟨c,b⟩:=h k qag;rw[qaw];unfold lcI;rw[show eF _ _ _=some (some _::some _::l) from U,qaa,c,qaa];cases hp:p k with
  |true=>rw[b hp,qaa,a,qcA hp];rfl
  |false=>rw[iFN (show ¬ (false=true) by decide),a,qcB (by rw[hp];decide)]
def i7 (P:Pb) (S:Tb) (c:Nat):List Nat:=(qak P.m).filter λi=>decide (S.T i c > 0)
def gk (P:Pb) (S:Tb) (c:Nat):List Nat:=leaveL (λs i=>LV P S i s) (λi=>S.T i c) (qak (P.m+1)) (i7 P S c)
theorem d8 {tops bots:Nat->Int}{m:Nat}:∀ {ps least:List Nat},(∀ x∈ps,x<m)->(∀ x∈least,x<m)->(∀ x∈leastR tops bots ps least,x<m)/\(leastR tops bots ps least).length<=ps.length+least.length
 |[],least,_,h=>by rw[leastR];exact⟨h,by simp⟩
 |p::ps,[],d,_=>by
  rw[leastR]
  have:=d8 (tops:=tops) (bots:=bots) (λx a=>d x (qaj _ a)) λx a=>by rw[qal.mp a];exact d p qag
  exact⟨this.1,by simp at this ⊢;lia⟩
 |p::ps,f::r,d,e=>by
  have b:=λx a=>d x (qaj _ a);have c:=d p qag;rw[leastR];split
  ·have:=d8 (tops:=tops) (bots:=bots) b e
   exact⟨this.1,by simp at this ⊢;lia⟩
  ·split
   ·have:=d8 (tops:=tops) (bots:=bots) b λx a=>by rw[qal.mp a];exact c
    exact⟨this.1,by simp at this ⊢;lia⟩
   ·have:=d8 (tops:=tops) (bots:=bots) b λx a=>by
     rcases qaR.mp a with z|z
     ·exact e x z
     ·rw[qal.mp z];exact c
    exact⟨this.1,by simp at this ⊢;lia⟩
section
variable {P:Pb}{S:Tb}{st:Sto}{c:Nat}
theorem wf (h:Okt P S) (y:c<=P.n):∀ (A ps:List Nat) (p:Option W),(∀ s∈A,s<=P.m)->(∀ x∈ps,x<P.m)->ps.length<=1000->
  ∃ o,cf (.nm 4) eQ (A.map (eB P.n)) [Z (obD P S),Z (.int (c:Int)),Z (.lst (mpI P.m λi=>S.T i c)),Z (.lst (psD ps)),p] st=some (.nx [Z (obD P S),Z (.int (c:Int)),Z (.lst (mpI P.m λi=>S.T i c)),Z (.lst (psD (leaveL (λs i=>LV P S i s) (λi=>S.T i c) A ps))),o] st)
 |[],ps,p,_,_,_=>⟨p,U⟩
 |s::A,ps,p,v,I,u=>by
  have f:eF (.nm 4) _ [some _,some _,some _,some _,p]=some [Z (obD P S),Z (.int (c)),Z (.lst (mpI P.m λi=>S.T i c)),Z (.lst (psD ps)),Z (eB P.n s)]:=rfl;have B:aE dLt (iCB a8 (aa (iV 3) ae)) (iC (.int 2)) [Z (obD P S),Z (.int (c)),Z (.lst (mpI P.m λi=>S.T i c)),Z (.lst (psD ps)),Z (eB P.n s)] st=some (decide (ps.length<2),st):=by
   refine ao (aG U (jD _ _)) U ?_;rw[wD,zk]
   congr 2
   lia
  rw[qaw,leaveL];by_cases q:ps.length<2
  ·rw[decide_eq_true q]at B
   rw[iFP q];refine⟨some (.d (eB P.n s)),?_⟩;have hb:eQ [Z (obD P S),Z (.int (c)),Z (.lst (mpI P.m λi=>S.T i c)),Z (.lst (psD ps)),Z (eB P.n s)] st=some (.bk [Z (obD P S),Z (.int (c)),Z (.lst (mpI P.m λi=>S.T i c)),Z (.lst (psD ps)),Z (eB P.n s)] st):=by
    have:=ck (a:=uG) (b:=aS) B U
    show ag _ _ _ _=_;simp only[ag,this];rfl
   simp only[cf,f,qaa,hb]
  ·rw[decide_eq_false q]at B
   rw[iFN q];have m:=d8 (tops:=λi=>LV P S i s) (bots:=λi=>S.T i c) (least:=[]) I (λx w=>nomatch w)
   obtain⟨o,J⟩:=wf h y A _ _ (λx w=>v x (qaj _ w)) m.1 (by have:=m.2;simp at this;lia);refine⟨o,?_⟩;have hb:eQ [some _,some _,some _,some _,some _] st=some _:=
    ai (bh B U) (aj (ah (ab U (ab (ah U (CI h (v s qag))) (ab U U))) (FH (λi hi=>h.sL i s hi (v s qag)) (λi hi=>h.sT i c hi y) I u)))
   simp only[cf,f,qaa,hb];exact J
def zf (l:List Nat):D:=match l with
 |[]=>.non
 |r::_=>.int ((r:Nat):Int)
theorem uR (h:Okt P S) (y:c<=P.n):iM [.d (obD P S),.d (.int (c:Int))] st=some (.d (zf (gk P S c)),st):=by
 have hm:=h.m64;have C:bV (aa (iV 2) ae) [Z (obD P S),Z (.int (c)),Z (.lst (mpI P.m λi=>S.T i c)),none,none] st=some ((qak P.m).map λi=>D.tup [.int ((i:Nat)),.int (S.T i c)],st):=by
  rw[<-vE];rfl
 have E:∀ x∈i7 P S c,x<P.m:=λx w=>qaN.mp (qbO.mp w).1;have F:(i7 P S c).length<=1000:=by
  have:(i7 P S c).length<=(qak P.m).length:=qb6 ..
  rw[qat]at this;lia
 obtain⟨p,K⟩:=wf (st:=st) h y (qak (P.m+1)) (i7 P S c) none (λs v=>by have:=qaN.mp v;lia) E F;have hw:=ow (st:=st) h;have G:aB (av dR (aa (iV 0) ae)) [Z (obD P S),Z (.int (c:Int)),Z (.lst (mpI P.m λi=>S.T i c)),Z (.lst (psD (i7 P S c))),none] st=some ((qak (P.m+1)).map (eB P.n),st):=aR (ah (ws:=[.d (obD P S)]) U hw);refine au (n:=5) (k:=2) (b:=oM) U (ai (aj (aq (aM (aR (cE (P:=P) (S:=S) (env:=[some _,Z (.int (c)),none,none,none]) (st:=st) (a:=iV 0) U)) (by rw[cz];lia) (gG _ λi _=>ac U U (sS st y))))) (ai (aj (aq (aM C (by rw[qah,qat];lia) (uM (g:=λi=>(D.int ((i:Nat):Int),.int (S.T i c))) (λi=>decide (S.T i c > 0)) (λi=>D.int ((i:Nat):Int)) λi _=>⟨ao U U (Dh _ _ _),λ_=>rfl⟩)))) (ai (bn G K) (aD ?_))));show jl _ _ _ [some _,some _,some _,Z (.lst (psD (gk P S c))),p] st=_;cases gk P S c with
 |nil=>rfl
 |cons r l=>exact n5 U (ac U U (EZ _ _))
theorem uP (u:∀ i,i<P.m->S.T i c<=0):gk P S c=[]:=by
 have:i7 P S c=[]:=by
  unfold i7;rw[qgB];intro i hi
  have:=u i (qaN.mp hi)
  lia
 unfold gk;rw[this,qdy,leaveL,iFP (by decide)]
theorem uQ (h:Okt P S) (hA:∀ i,i<P.m->∀ t,P.m<=t->P.A (S.kept i) t=0) (u:¬ ∀ i,i<P.m->S.T i c<=0) :
  ∃ r,gk P S c=[r]/\r<P.m/\0<S.T r c/\∀ i,i<P.m->i≠r->0<S.T i c->lexP (P.m+1) λs=>S.T r c*LV P S i s - S.T i c*LV P S r s:=by
 have H:∀ i,i∈i7 P S c↔i<P.m/\0<S.T i c:=λi=>by
  unfold i7;rw[qbO,qaN,decide_eq_true_eq]
 obtain⟨r,L,q⟩:=Sx.leaving_ok h.good hA H (qiA qeW List.nodup_range) (λe=>u λi hi=>by
  have:¬ _:=λz=>by
   have:=(H i).mpr z
   rw[e]at this;exact absurd this qbJ
  lia)
 refine⟨r,?_,q⟩;rw[<-L];unfold gk;rw[show (λj=>0+j)=id by funext j;simp,qg0]
end
end Own
set_option maxHeartbeats 1000000
namespace Own
open PySem L2
open Sx (Pb Tb Good Named Fe LV ZV piv lexP leastR leaveL sumN unit colV basis)
theorem i4 (s:Sto) (a b:D):dIx s (.d (.tup [a,b])) (.d (.int 0))=some a:=rfl
theorem gK (s:Sto) (a b:D):dIx s (.d (.tup [a,b])) (.d (.int 1))=some b:=rfl
theorem Ek {a:Af}{env:Ev}{st s:Sto}{ws:List W}{ds:List D} (b:a env st=some (ws,s)) (h:sq ws=some ds) (c:ds.length<=1000):be a env st=some (.d (.tup ds),s):=by
 simp only[be,b,qaa,h,c,if_true]
section
variable {P:Pb}{S:Tb}{st:Sto}
theorem CJ (s:Sto) (a:Int):dNe s (.d (.int a)) (.d (.int 0))=some (.bl (!(a==0))):=rfl
theorem Sm.two {a b:Int} (ha:Sm a) (hb:Sm b):(a*b).natAbs<2^8000:=DL (y:=4000) ha hb
theorem vI (h:Okt P S) {c1 o c2 n:Nat}{M B:Int} (l:o<P.m) (g:n<P.m) (hM:M.natAbs<2^8000) (hB:B.natAbs<2^8000):∀ (N:List Nat) (w q p:Option W),(∀ s∈N,s<=P.m)->
  (∃ b,cf (.nm 5) bW (N.map (eB P.n)) [Z (obD P S),Z (.tup [.int (c1:Int),.int (o:Int)]),Z (.tup [.int (c2:Int),.int (n:Int)]),Z (.int M),Z (.int B),w,q,p] st=some (.rt (.d (.bl b)) st))\/
  ∃ e,cf (.nm 5) bW (N.map (eB P.n)) [Z (obD P S),Z (.tup [.int (c1:Int),.int (o:Int)]),Z (.tup [.int (c2:Int),.int (n:Int)]),Z (.int M),Z (.int B),w,q,p] st=some (.nx e st)
 |[],w,q,p,_=>.inr ⟨_,U⟩
 |s::N,w,q,p,O=>by
  have F:=O s qag;have f:eF (.nm 5) _ [some _,some _,some _,some _,some _,w,q,p]=some [Z (obD P S),Z (.tup [.int (c1),.int (o)]),Z (.tup [.int (c2),.int (n)]),Z (.int M),Z (.int B),Z (eB P.n s),q,p]:=rfl;have s6:aA (.nm 6) (av cP (aa (iV 0) (aa (iV 5) ae))) [some _,Z (.tup [.int (c1),.int (o)]),Z (.tup [.int (c2),.int (n)]),Z (.int M),Z (.int B),some _,q,p] st=some _:=aj (ah U (CI h F));have V:aA (.nm 7) (iOp jC (iOp a9 (iV 4) (iOp dIx (iV 6) (iOp dIx (iV 2) (iC _)))) (iOp a9 (iV 3) (iOp dIx (iV 6) (iOp dIx (iV 1) (iC _))))) [Z (obD P S),Z (.tup [.int (c1),.int _]),Z (.tup [.int (c2),.int _]),some _,some _,Z (eB P.n s),Z (.lst (mpI P.m λi=>LV P S i s)),p] st=some _:=
   aj (ac (ac U (ac U (ac U U (gK st _ _)) (d7 st g)) (bI st (mulOk 8000 4000 hB (h.sL n s g F) (by decide)))) (ac U (ac U (ac U U (gK st _ _)) (d7 st l)) (bI st (mulOk 8000 4000 hM (h.sL o s l F) (by decide)))) U)
  generalize B*LV P S n s - M*LV P S o s=Zq at V;have Q:aE dNe (iV 7) (iC _) [Z (obD P S),Z (.tup [.int (c1),.int (o)]),Z (.tup [.int (c2),.int (n)]),Z (.int M),Z (.int B),Z (eB P.n s),Z (.lst (mpI P.m λi=>LV P S i s)),some _] st=some (!_,st):=ao U U (CJ st Zq);rw[qaw];cases I:(Zq==0) with
  |false=>
   rw[I]at Q
   left
   refine⟨decide (Zq > 0),?_⟩;have hb:bW [some _,some _,some _,some _,some _,some _,q,p] st=some _:=ai s6 (ai V (ck Q (aD (ac U U (Dh st _ _)))));simp only[cf,f,qaa,hb]
  |true=>
   rw[I]at Q;have hb:bW [some _,some _,some _,some _,some _,some _,q,p] st=some _:=ai s6 (ai V (bh Q U));simp only[cf,f,qaa,hb];exact (vI h l g hM hB N _ _ _ λx J=>O x (qaj _ J))
theorem Fi (h:Okt P S) {c1 o c2 n:Nat} (hc1:c1<P.n) (l:o<P.m) (hc2:c2<P.n) (g:n<P.m):∃ b,b9 [.d (obD P S),.d (.tup [.int (c1:Int),.int (o:Int)]),.d (.tup [.int (c2:Int),.int (n:Int)])] st=some (.d (.bl b),st):=by
 have H:∀ m o4 w q p,iV 0 [some _,Z (.tup [.int (c1),.int (o)]),Z (.tup [.int (c2),.int (n)]),m,o4,w,q,p] st=some (.d (obD P S),st):=λ_ _ _ _ _=>rfl;have u:aA (.nm 3) (iOp a9 (iOp dIx _ (iOp dIx (iV 1) (iC _))) (iOp dIx (iOp dIx _ (iOp dIx (iV 2) (iC _))) (iOp dIx (iV 2) (iC _)))) [some _,some _,some _,none,none,none,none,none] st=some _:=
  aj (ac (ac (lE (H _ _ _ _ _)) (ac U U (i4 st _ _)) (d7 st (by lia))) (ac (ac (cE (H _ _ _ _ _)) (ac U U (gK st _ _)) (sU st g)) (ac U U (i4 st _ _)) (sS st (by lia))) (bI st (Sm.mulOk (h.sG c1 (by lia)) (h.sT n c2 g (by lia)))))
 have s4:aA (.nm 4) (iOp a9 (iOp dIx _ (iOp dIx (iV 2) (iC _))) (iOp dIx (iOp dIx _ (iOp dIx (iV 1) (iC _))) (iOp dIx (iV 1) (iC _)))) [some _,some _,some _,Z (.int (S.G c1*S.T n c2)),none,none,none,none] st=some _:=
  aj (ac (ac (lE (H _ _ _ _ _)) (ac U U (i4 st _ _)) (d7 st (by lia))) (ac (ac (cE (H _ _ _ _ _)) (ac U U (gK st _ _)) (sU st l)) (ac U U (i4 st _ _)) (sS st (by lia))) (bI st (Sm.mulOk (h.sG c2 (by lia)) (h.sT o c1 l (by lia)))))
 have L:aB (av dR (aa (iV 0) ae)) [some _,Z (.tup [.int (c1),.int (o)]),Z (.tup [.int (c2),.int (n)]),Z (.int (S.G c1*S.T n c2)),Z (.int (S.G c2*S.T o c1)),none,none,none] st=some ((qak _).map _,st):=aR (ah U (ow h));rcases vI h l g (Sm.two (h.sG c1 (by lia)) (h.sT n c2 g (by lia))) (Sm.two (h.sG c2 (by lia)) (h.sT o c1 l (by lia))) (qak (P.m+1)) none none none (λs O=>by have:=qaN.mp O;lia) with⟨b,e⟩|⟨e,he⟩
 ·exact⟨b,au U (ai u (ai s4 (fQ (bn L e))))⟩
 ·exact⟨false,au U (ai u (ai s4 (ai (bn L he) U)))⟩
def kj (P:Pb) (S:Tb) (x:D):Prop:=x=.non\/∃ c r,c<P.n/\S.G c<0/\gk P S c=[r]/\r<P.m/\0<S.T r c/\(∀ i,i<P.m->i≠r->0<S.T i c->lexP (P.m+1) λs=>S.T r c*LV P S i s - S.T i c*LV P S r s)/\x=.tup [.int (c:Int),.int (r:Int)]
theorem pM (h:Okt P S) (hA:∀ i,i<P.m->∀ t,P.m<=t->P.A (S.kept i) t=0):∀ (j k:Nat) (x:D) (A m:Option W),k+j=P.n->kj P S x->(x=.non->∀ c,c<k->0<=S.G c)->
  (∃ c,c<P.n/\S.G c<0/\(∀ i,i<P.m->S.T i c<=0)/\cf (.nm 2) bR ((qeU k j).map λc=>D.int ((c:Nat):Int)) [Z (obD P S),Z x,A,m] st=some (.rt (.d (.tup [.int (c:Int),.non])) st))\/
  ∃ y o2' X,kj P S y/\(y=.non->∀ c,c<P.n->0<=S.G c)/\cf (.nm 2) bR ((qeU k j).map λc=>D.int ((c:Nat):Int)) [Z (obD P S),Z x,A,m] st=some (.nx [Z (obD P S),Z y,o2',X] st)
 |0,k,x,A,m,hk,J,C=>.inr ⟨x,A,m,J,by rw[<-hk];exact C,U⟩
 |j+1,k,x,A,m,hk,J,C=>by
  have G:k<P.n:=by lia
  have f:eF (.nm 2) _ [some _,Z x,A,m]=some [Z (obD P S),Z x,Z (.int ((k:Nat):Int)),m]:=rfl;have H:∀ a b d,iV 0 [some _,a,b,d] st=some (.d (obD P S),st):=λ_ _ _=>rfl;have E:aE dGe (iOp dIx _ (iV 2)) (iC (.int 0)) [some _,Z x,some _,m] st=some (decide (S.G k>=0),st):=ao (ac (lE (H _ _ _)) U (d7 st (by lia))) U (Fh st _ _);rw[List.range'_succ,qaw];by_cases hg:S.G k>=0
  ·rw[decide_eq_true hg]at E
   have hb:bR [Z (obD P S),Z x,Z (.int ((k:Nat):Int)),m] st=some (.ct [Z (obD P S),Z x,Z (.int ((k:Nat):Int)),m] st):=by
    have:=ck (a:=oU) (b:=aS) E U
    show ag _ _ _ _=_;simp only[ag,this];rfl
   simp only[cf,f,qaa,hb]
   exact (pM h hA j (k+1) x (Z (.int ((k:Nat):Int))) m (by lia) J λe c hc=>by
    by_cases z:c=k
    ·rw[z];exact hg
    ·exact C e c (by lia))
  ·rw[decide_eq_false hg]at E
   have K:S.G k<0:=by lia
   have u:aA (.nm 3) (be (aa (iV 2) (aa (av iM (aa (iV 0) (aa (iV 2) ae))) ae))) [Z (obD P S),Z x,Z (.int ((k:Nat):Int)),m] st=some (.nx [Z (obD P S),Z x,Z (.int ((k:Nat):Int)),Z (.tup [.int ((k:Nat):Int),zf (gk P S k)])] st):=
    aj (Ek (ab U (ab (ah (ws:=[.d (obD P S),.d (.int ((k:Nat):Int))]) U (uR (st:=st) (c:=k) h (by lia))) U)) U (by show 2<=1000;decide))
   by_cases I:∀ i,i<P.m->S.T i k<=0
   ·rw[uP I]at u
    left
    refine⟨k,G,K,I,?_⟩;have hb:bR [Z (obD P S),Z x,Z (.int ((k:Nat):Int)),m] st=some (.rt (.d (.tup [.int ((k:Nat):Int),.non])) st):=ai (bh E U) (ai u (fQ (ck (ao (ac U U (gK st _ _)) U (qF st)) U)));simp only[cf,f,qaa,hb]
   ·obtain⟨r,l1,l2,l3,l4⟩:=uQ h hA I
    rw[l1]at u;have Y:aE iZ (iOp dIx (iV 3) (iC (.int 1))) (iC .non) [Z (obD P S),Z x,Z (.int ((k:Nat):Int)),Z (.tup [.int ((k:Nat):Int),.int ((r:Nat):Int)])] st=some (false,st):=ao (ac U U (gK st _ _)) U (vW st _);have v:kj P S _:=.inr ⟨k,r,G,K,l1,l2,l3,l4,U⟩;have R:∃ y,kj P S y/\y≠.non/\bR [Z (obD P S),Z x,Z (.int ((k:Nat):Int)),m] st=some (.nx [Z (obD P S),Z y,Z (.int ((k:Nat):Int)),Z (.tup [.int ((k:Nat):Int),.int ((r:Nat):Int)])] st):=by
     rcases J with rfl|⟨c,r',c1,c2,c3,c4,c5,c6,rfl⟩
     ·have t1:aE iZ (iV 1) (iC .non) [Z (obD P S),Z .non,Z (.int ((k:Nat):Int)),Z (.tup [.int ((k:Nat):Int),.int ((r:Nat):Int)])] st=some (true,st):=ao U U (qF st)
      have t2:d6 (aE iZ (iV 1) (iC .non)) (cL c9 (av b9 (aa (iV 0) (aa (iV 3) (aa (iV 1) ae))))) [Z (obD P S),Z .non,Z (.int ((k:Nat):Int)),Z (.tup [.int ((k:Nat):Int),.int ((r:Nat):Int)])] st=some (true,st):=by simp only[d6,t1,qaa,if_true]
      exact⟨_,v,by simp,ai (bh E U) (ai u (ai (bh Y U) (ck t2 U)))⟩
     ·obtain⟨b,eb⟩:=Fi h G l2 c1 c4
      have t1:aE iZ (iV 1) (iC .non) [Z (obD P S),Z (.tup [.int (c:Int),.int (r':Int)]),Z (.int ((k:Nat):Int)),Z (.tup [.int ((k:Nat):Int),.int ((r:Nat):Int)])] st=some (false,st):=ao U U (Be st _);have t3:av b9 (aa (iV 0) (aa (iV 3) (aa (iV 1) ae))) [some _,some _,Z (.int ((k:Nat):Int)),some _] st=some (.d (.bl b),st):=ah U eb;have t2:d6 (aE iZ (iV 1) (iC .non)) (cL c9 (av b9 (aa (iV 0) (aa (iV 3) (aa (iV 1) ae))))) [Z (obD P S),Z (.tup [.int (c:Int),.int (r':Int)]),Z (.int ((k:Nat):Int)),Z (.tup [.int ((k:Nat):Int),.int ((r:Nat):Int)])] st=some (b,st):=by simp only[d6,t1,cL,t3,qaa,qbm,if_false,c9,qap]
      cases b with
      |true=>exact⟨_,v,by simp,ai (bh E U) (ai u (ai (bh Y U) (ck t2 U)))⟩
      |false=>exact⟨_,.inr ⟨c,r',c1,c2,c3,c4,c5,c6,U⟩,by simp,ai (bh E U) (ai u (ai (bh Y U) (bh t2 U)))⟩
    obtain⟨y,hy,T,hb⟩:=R;simp only[cf,f,qaa,hb];exact (pM h hA j (k+1) y (Z (.int ((k:Nat):Int))) (Z (.tup [.int ((k:Nat):Int),.int ((r:Nat):Int)])) (by lia) hy λe=>absurd e T)
theorem E3 (h:Okt P S) (hA:∀ i,i<P.m->∀ t,P.m<=t->P.A (S.kept i) t=0) :
  (∃ c,c<P.n/\S.G c<0/\(∀ i,i<P.m->S.T i c<=0)/\bM [.d (obD P S)] st=some (.d (.tup [.int (c:Int),.non]),st))\/
  ∃ y,kj P S y/\(y=.non->∀ c,c<P.n->0<=S.G c)/\bM [.d (obD P S)] st=some (.d y,st):=by
 have hn:=h.n64;have hr:bz (aa (iCB a8 (aa (ay "free" (iV 0)) ae)) ae) [Z (obD P S),Z .non,none,none] st=some ((qeU 0 P.n).map λc=>D.int ((c:Nat)),st):=by
  have e2:bf 0 P.n=(qeU 0 P.n).map λc=>D.int ((c:Nat)):=by
   unfold bf;rw[qgQ];exact qci λk _=>by rw[qbV]
  rw[<-e2];exact (dA (aG (ab (lD U) U) (show a8 st [.d _]=some _ by rw[jD,aC])) (by lia) (by lia) (by lia))
 rcases pM h hA P.n 0 .non none none (by lia) (.inl rfl) (λ_ c hc=>absurd hc (by lia)) with⟨c,c1,c2,c3,e⟩|⟨y,A,m,y1,y2,e⟩
 ·exact .inl ⟨c,c1,c2,c3,au U (ai U (fQ (bn hr e)))⟩
 ·exact .inr ⟨y,y1,y2,au U (ai U (ai (bn hr e) U))⟩
end
end Own
set_option maxHeartbeats 1000000
namespace Own
open PySem L2
open Sx (Pb Tb Good Named Fe LV ZV piv lexP leastR leaveL sumN unit colV basis)
theorem eO {n k:Nat} (h:k<n):ixN n (k:Int)=some k:=by
 unfold ixN;rw[iFP (by lia),iFP (by lia)];rfl
theorem EQ (n:Nat) (f g:Nat->Int):i5 (mpI n f) (mpI n g)=(qak n).map λc=>D.tup [.int (f c),.int (g c)]:=by
 apply qbA;intro i;rw[fV,qaA];by_cases hi:i<n
 ·rw[bm hi,bm hi,qa7 hi];rfl
 ·rw[qaC (by rw[aC];lia),qaC (l:=qak n) (by rw[qat];lia)];rfl
theorem zc {te:Ef}{l:Ev}{st:Sto}{g:Nat->D×D} (F:Nat->D) {ks:List Nat} (h:∀ k∈ks,te (Z (g k).1::some (.d (g k).2)::l) st=some (.d (F k),st)) :
  lcI (.tp [0,1]) aN te (none::none::l) (ks.map λk=>D.tup [(g k).1,(g k).2]) st=some (ks.map F,st):=by
 have:=uM (tt:=aN) _ F λk a=>⟨U,λ_=>h k a⟩
 rw[this,qg2.mpr λ_ _=>rfl]
theorem uc {st:Sto}{n e:Nat}{f g:Nat->Int}{p:Int} (j:e<=n) (q:0<p) (sp:Sm p) (m:∀ c,c<=n->Sm (f c)) (sg:∀ c,c<=n->Sm (g c)) (hn:n<=1000) :
  j5 [.d (.lst (mpI (n+1) f)),.d (.lst (mpI (n+1) g)),.d (.int (e:Int)),.d (.int p)] st=some (.d (.lst (mpI (n+1) λc=>if c=e then - f e else (g e*f c - f e*g c) / p)),st):=by
 have a:e<n+1:=by lia
 have s:fG (aa (iV 0) (aa (iV 1) ae)) [Z (.lst (mpI (n+1) f)),Z (.lst (mpI (n+1) g)),Z (.int (e:Int)),Z (.int p),Z (.int (g e)),Z (.int (f e)),none] st=some ((qak (n+1)).map λc=>D.tup [.int (f c),.int (g c)],st):=by
  rw[<-EQ];rfl
 have x:lcI (.tp [0,1]) aN ky [none,none,Z (.int (g e)),Z (.int (f e)),Z (.int p)] ((qak (n+1)).map λc=>D.tup [.int (f c),.int (g c)]) st=some (mpI (n+1) λc=>(g e*f c - f e*g c) / p,st):=by
  refine zc (g:=λc=>(D.int (f c),.int (g c))) _ λc y=>?_;have i:c<=n:=by have:=qaN.mp y;lia
  exact ac (ac (ac U U (bI st (Sm.mulOk (sg e j) (m c i)))) (ac U U (bI st (Sm.mulOk (m e j) (sg c i)))) U) U (qi st q sp)
 have w:aA (.nm 6) (cV (iLc 2 [4,5,3] (fG (aa (iV 0) (aa (iV 1) ae))) (.tp [0,1]) aN ky)) [Z (.lst (mpI (n+1) f)),Z (.lst (mpI (n+1) g)),Z (.int (e:Int)),Z (.int p),Z (.int (g e)),Z (.int (f e)),none] st=some (.nx [Z (.lst (mpI (n+1) f)),Z (.lst (mpI (n+1) g)),Z (.int (e:Int)),Z (.int p),Z (.int (g e)),Z (.int (f e)),some (.h st.length)] (st++[.l (mpI (n+1) λc=>(g e*f c - f e*g c) / p)])):=by
  refine aj ?_
  have:=aM (k:=2) (js:=[4,5,3]) s (by rw[qah,qat];lia) x
  simp only[cV,this,qap]
 have u:bN (iV 6) (iV 2) (iUn gI (iV 5)) [Z (.lst (mpI (n+1) f)),Z (.lst (mpI (n+1) g)),Z (.int (e:Int)),Z (.int p),Z (.int (g e)),Z (.int (f e)),some (.h st.length)] (st++[.l (mpI (n+1) λc=>(g e*f c - f e*g c) / p)])=some (.nx [Z (.lst (mpI (n+1) f)),Z (.lst (mpI (n+1) g)),Z (.int (e:Int)),Z (.int p),Z (.int (g e)),Z (.int (f e)),some (.h st.length)] (st++[.l (mpI (n+1) λc=>if c=e then - f e else (g e*f c - f e*g c) / p)])):=by
  have t:iz (st++[.l (mpI (n+1) λc=>(g e*f c - f e*g c) / p)]) (.h st.length) (.d (.int (e:Int))) (.d (.int (- f e)))=some (st++[.l (mpI (n+1) λc=>if c=e then - f e else (g e*f c - f e*g c) / p)]):=by
   simp only[iz,dn,qaa,aC,eO a,qap,og,gu]
  have v:iUn gI (iV 5) [Z (.lst (mpI (n+1) f)),Z (.lst (mpI (n+1) g)),Z (.int (e:Int)),Z (.int p),Z (.int (g e)),Z (.int (f e)),some (.h st.length)] _=some (.d (.int (- f e)),st++[.l (mpI (n+1) λc=>(g e*f c - f e*g c) / p)]):=rfl;have r:iV 6 [Z (.lst (mpI (n+1) f)),Z (.lst (mpI (n+1) g)),Z (.int (e:Int)),Z (.int p),Z (.int (g e)),Z (.int (f e)),some (.h st.length)] _=some (.h st.length,st++[.l (mpI (n+1) λc=>(g e*f c - f e*g c) / p)]):=rfl;have o:iV 2 [Z (.lst (mpI (n+1) f)),Z (.lst (mpI (n+1) g)),Z (.int (e:Int)),Z (.int p),Z (.int (g e)),Z (.int (f e)),some (.h st.length)] _=some (.d (.int (e:Int)),st++[.l (mpI (n+1) λc=>(g e*f c - f e*g c) / p)]):=rfl;simp only[bN,v,r,o,qaa,t,qap]
 have:=ml (n:=7) (k:=4) (b:=vq) (ws:=[.d (.lst (mpI (n+1) f)),.d (.lst (mpI (n+1) g)),.d (.int (e:Int)),.d (.int p)]) (st:=st) (h:=st.length) U (ai (aj (ac U U (d7 st a))) (ai (aj (ac U U (d7 st a))) (ai w (ai u U)))) (qao _) (dn _ _)
 rw[qcH]at this;exact this
abbrev stG (st0:Sto) (fr kp:List D) (fs:List (Str×W)):Sto:=st0++[.l fr,.l kp,.o fs]
def fsO (n:Nat) (b:List D) (a:List D) (p:Int) (L:Nat):List (Str×W):=[("amounts",.d (.int (n:Int))),("lines",.d (.lst b)),("goal",.d (.lst a)),("part",.d (.int p)),("free",.h L),("kept",.h (L+1))]
section
variable {st0:Sto}{fr kp:List D}{fs:List (Str×W)}
theorem sg2:(stG st0 fr kp fs)[st0.length+2]?=some (.o fs):=by rw[qaK (by lia)];simp
theorem sg0:lg (stG st0 fr kp fs) st0.length=some fr:=by unfold lg;rw[qaK (by lia)];simp
theorem sg1:lg (stG st0 fr kp fs) (st0.length+1)=some kp:=by unfold lg;rw[qaK (by lia)];simp
theorem ss2 {c:List (Str×W)}:(stG st0 fr kp fs).set (st0.length+2) (.o c)=stG st0 fr kp c:=by simp
theorem ss0 {x:List D}:(stG st0 fr kp fs).set st0.length (.l x)=stG st0 x kp fs:=by simp
theorem ss1 {x:List D}:(stG st0 fr kp fs).set (st0.length+1) (.l x)=stG st0 fr x fs:=by simp
theorem kR {f:Str}{w:W}{a:Ef}{env:Ev} (h:a env (stG st0 fr kp fs)=some (.h (st0.length+2),stG st0 fr kp fs)) (b:fs.lookup f=some w):ay f a env (stG st0 fr kp fs)=some (w,stG st0 fr kp fs):=by
 simp only[ay,h,qaa,sg2,b,qap]
theorem rG {f:Str}{x:D}{o v:Ef}{env:Ev} (g:v env (stG st0 fr kp fs)=some (.d x,stG st0 fr kp fs)) (i:o env (stG st0 fr kp fs)=some (.h (st0.length+2),stG st0 fr kp fs)) (e:fs.length<1000) (b:(fs.lookup f).isSome=true):k8 f o v env (stG st0 fr kp fs)=some (.nx env (stG st0 fr kp (nZ f (.d x) fs))):=by
 simp only[k8,g,i,qaa,sg2,e,b,and_self,if_true,ss2]
end
section
variable {n L:Nat}{b a c e:List D}{p f:Int}
theorem BY:nZ ("goal" : Str) (.d (.lst e)) (fsO n b a p L)=fsO n b e p L:=rfl
theorem zX:nZ ("lines" : Str) (.d (.lst c)) (fsO n b a p L)=fsO n c a p L:=rfl
theorem BZ:nZ ("part" : Str) (.d (.int f)) (fsO n b a p L)=fsO n b a f L:=rfl
theorem tw:(fsO n b a p L).lookup ("lines" : Str)=some (.d (.lst b)):=rfl
theorem Bl:(fsO n b a p L).lookup ("goal" : Str)=some (.d (.lst a)):=rfl
theorem Bm:(fsO n b a p L).lookup ("part" : Str)=some (.d (.int p)):=rfl
end
def stO (st0:Sto) (P:Pb) (S:Tb):Sto:=stG st0 (mpI P.n (nI S.free)) (mpI P.m (nI S.kept)) (fsO P.n (aV P.m P.n S.T) (mpI (P.n+1) S.G) S.p st0.length)
theorem AA {st0:Sto}{P:Pb}{S:Tb}{ws:List W}{a:List W} (h:vwA (stO st0 P S) ws=some a):vwA (stO st0 P S) (.h (st0.length+2)::ws)=some (.d (obD P S)::a):=by
 have e:vwW (stO st0 P S) (.h (st0.length+2))=some (.d (obD P S)):=by
  unfold vwW stO;dsimp only;rw[sg2];dsimp only;rw[iFP (by show 5<6;decide)]
  have:vwF (stG st0 (mpI P.n (nI S.free)) (mpI P.m (nI S.kept)) (fsO P.n (aV P.m P.n S.T) (mpI (P.n+1) S.G) S.p st0.length)) (fsO P.n (aV P.m P.n S.T) (mpI (P.n+1) S.G) S.p st0.length)=some [.int (P.n:Int),.lst (aV P.m P.n S.T),.lst (mpI (P.n+1) S.G),.int S.p,.lst (mpI P.n (nI S.free)),.lst (mpI P.m (nI S.kept))]:=by
   simp only[fsO,vwF,qap];rw[show lg (stG st0 (mpI P.n (nI S.free)) (mpI P.m (nI S.kept)) [("amounts",W.d (.int (P.n:Int))),("lines",.d (.lst (aV P.m P.n S.T))),("goal",.d (.lst (mpI (P.n+1) S.G))),("part",.d (.int S.p)),("free",.h st0.length),("kept",.h (st0.length+1))]) st0.length=some (mpI P.n (nI S.free)) from sg0,show lg (stG st0 (mpI P.n (nI S.free)) (mpI P.m (nI S.kept)) [("amounts",W.d (.int (P.n:Int))),("lines",.d (.lst (aV P.m P.n S.T))),("goal",.d (.lst (mpI (P.n+1) S.G))),("part",.d (.int S.p)),("free",.h st0.length),("kept",.h (st0.length+1))]) (st0.length+1)=some (mpI P.m (nI S.kept)) from sg1]
   rfl
  rw[this];rfl
 simp only[vwA,e,h,qaa,qap]
theorem xT {m n r:Nat}{F:Nat->Nat->Int}{g:Nat->Int}:((qak m).map λi=>D.lst (mpI (n+1) (F i))).set r (.lst (mpI (n+1) g))=aV m n λi=>if i=r then g else F i:=by
 apply qbA;intro i;by_cases hi:i<m
 ·rw[nG hi]
  by_cases e:i=r
  ·subst e
   rw[qbq (by rw[qah,qat];exact hi)];unfold lnD;dsimp only;rw[iFP U]
  ·rw[qbB (qbk e),qaA,qa7 hi]
   unfold lnD;dsimp only;rw[iFN e];rfl
 ·rw[qaC (by rw[qb5,qah,qat];lia),qaC (by rw[cz];lia)]
theorem A1 {st0:Sto}{P:Pb}{S:Tb} (h:Okt P S) {r e:Nat} (u:r<P.m) (M:e<P.n):ef [.h (st0.length+2),.d (.int (r:Int)),.d (.int (e:Int))] (stO st0 P S)=some (.d .non,stO st0 P (piv S r e)):=by
 have hm:=h.m64;have hn:=h.n64;have Q:=h.good.pos
 -- turning,part
 generalize w:S.T=T at *;have fin:∀ (env:Ev) (s:Sto),jh [some _,some _,some _,none,none,none,none] _=some (.nx env s)->s.take (stO st0 P S).length=s->ef [.h (st0.length+2),.d (.int (r)),.d (.int (e))] _=some (.d .non,s):=λenv s h1 h2=>by
  show (jh [some _,some _,some _,none,none,none,none] _).bind _=_;rw[h1];show some (W.d .non,s.take (stO st0 P S).length)=_;rw[h2]
 have l:∀ (a b c d g i:Option W) (s:Sto),iV 0 [some _,a,b,c,d,g,i] s=some (.h (st0.length+2),s):=λ_ _ _ _ _ _ _=>rfl;have s3:aA (.nm 3) (iOp dIx (ay ("lines") (iV 0)) (iV 1)) [some (.h (st0.length+2)),some (.d (.int (r))),some (.d (.int (e))),none,none,none,none] (stO st0 P S)=some (.nx [some (.h (st0.length+2)),some (.d (.int (r))),some (.d (.int (e))),some (.d (.lst (mpI (P.n+1) (T r)))),none,none,none] (stO st0 P S)):=by
  refine aj (ac (kR (l _ _ _ _ _ _ _) tw) U ?_);rw[w];exact sU _ u
 have sT:∀ i c,i<P.m->c<=P.n->Sm (T i c):=λi c hi q=>by rw[<-w];exact h.sT i c hi q
 have F:iLc 1 [3,2,4] (aB (ay ("lines" : Str) (iV 0))) (.nm 0) aN dF [some (.h (st0.length+2)),some (.d (.int (r:Int))),some (.d (.int (e:Int))),some (.d (.lst (mpI (P.n+1) (T r)))),some (.d (.int S.p)),none,none] (stO st0 P S)=some ((qak P.m).map λi=>D.lst (mpI (P.n+1) λc=>if c=e then - T i e else (T r e*T i c - T i e*T r c) / S.p),stO st0 P S):=by
  refine aM (aR (kR (f:=("lines" : Str)) (a:=iV 0) (st0:=st0) (fr:=mpI P.n (nI S.free)) (kp:=mpI P.m (nI S.kept)) (fs:=fsO P.n (aV P.m P.n S.T) (mpI (P.n+1) S.G) S.p st0.length) (l (some (.d (.int (r:Int)))) (some (.d (.int (e:Int)))) (some (.d (.lst (mpI (P.n+1) (T r))))) (some (.d (.int S.p))) none none _) tw)) (by rw[cz];lia) ?_
  show lcI (.nm 0) aN dF [none,some (.d (.lst (mpI (P.n+1) (T r)))),some (.d (.int (e:Int))),some (.d (.int S.p))] (aV P.m P.n S.T) (stO st0 P S)=_;rw[show aV P.m P.n S.T=(qak P.m).map (lnD P.n T) by rw[w];rfl];refine gG (g:=lnD P.n T) _ λi hi=>?_;exact ah (ws:=[.d (lnD P.n T i),.d (.lst (mpI (P.n+1) (T r))),.d (.int (e:Int)),.d (.int S.p)]) U (uc (f:=T i) (g:=T r) (by lia) Q h.sp (λc q=>sT i c (qaN.mp hi) q) (λc q=>sT r c u q) (by lia))
 have V:i3 5 1 2 3 4 (iLc 1 [3,2,4] (aB (ay ("lines" : Str) (iV 0))) (.nm 0) aN dF) [some (.h (st0.length+2)),some (.d (.int (r:Int))),some (.d (.int (e:Int))),some (.d (.lst (mpI (P.n+1) (T r)))),some (.d (.int S.p)),none,none] (stO st0 P S)=some (.nx [some (.h (st0.length+2)),some (.d (.int (r:Int))),some (.d (.int (e:Int))),some (.d (.lst (mpI (P.n+1) (T r)))),some (.d (.int S.p)),some (.d (.lst (aV P.m P.n (piv S r e).T))),none] (stO st0 P S)):=by
  simp only[i3,F,qaa,qbR,qbu];rw[qah,qat,eO u,aC,eO (by lia:e<P.n+1),qaa,qaa,iFP ⟨by lia,by show 5<7;decide,tM _ _⟩,gu,xT];show some (Fl.nx [_,_,_,_,_,some (W.d (.lst (aV P.m P.n _))),none] _)=_
  have:(λi=>if i=r then (λj=>if j=e then S.p else T r j) else λc=>if c=e then - T i e else (T r e*T i c - T i e*T r c) / S.p)=(piv S r e).T:=by
   funext i c
   show _=if i=r then (if c=e then S.p else S.T r c) else _;rw[w];by_cases hi:i=r
   ·rw[iFP hi,iFP hi]
   ·rw[iFN hi,iFN hi]
  rw[this]
 have s6:=by
  have X:=by
   funext c
   show _=if c=e then - S.G e else (S.T r e*S.G c - S.G e*S.T r c) / S.p;rw[w]
  have L:=uc (st:=stO st0 P S) (f:=S.G) (g:=T r) (n:=P.n) (e:=e) (by lia) Q h.sp (λc q=>h.sG c q) (λc q=>sT r c u q) (by lia);rw[X]at L
  have:=rG (f:=("goal" : Str)) (o:=iV 0) (v:=av j5 (aa (ay ("goal" : Str) (iV 0)) (aa (iV 3) (aa (iV 2) (aa (iV 4) ae))))) (st0:=st0) (fr:=mpI P.n (nI S.free)) (kp:=mpI P.m (nI S.kept)) (fs:=fsO P.n (aV P.m P.n S.T) (mpI (P.n+1) S.G) S.p st0.length) (ah (ab (kR (f:=("goal" : Str)) (a:=iV 0) (st0:=st0) (fr:=mpI P.n (nI S.free)) (kp:=mpI P.m (nI S.kept)) (fs:=fsO P.n (aV P.m P.n S.T) (mpI (P.n+1) S.G) S.p st0.length) (l (some (.d (.int (r:Int)))) (some (.d (.int (e:Int)))) (some (.d (.lst (mpI (P.n+1) (T r))))) (some (.d (.int S.p))) (some (.d (.lst (aV P.m P.n (piv S r e).T)))) none _) Bl) (ab U (ab U (ab U U)))) L) (l _ _ _ _ _ _ _) (by show 6<1000;decide) U
  rw[BY]at this;exact this
 have s7:=by
  have:=rG (f:=("lines" : Str)) (o:=iV 0) (v:=iV 5) (x:=.lst (aV P.m P.n (piv S r e).T)) (env:=[some (.h (st0.length+2)),some (.d (.int (r:Int))),some (.d (.int (e:Int))),some (.d (.lst (mpI (P.n+1) (T r)))),some (.d (.int S.p)),some (.d (.lst (aV P.m P.n (piv S r e).T))),none]) (st0:=st0) (fr:=mpI P.n (nI S.free)) (kp:=mpI P.m (nI S.kept)) (fs:=fsO P.n (aV P.m P.n S.T) (mpI (P.n+1) (piv S r e).G) S.p st0.length) U U (by show 6<1000;decide) U
  rw[zX]at this;exact this
 have N:k8 ("part" : Str) (iV 0) (iOp dIx (iV 3) (iV 2)) [some (.h (st0.length+2)),some (.d (.int (r:Int))),some (.d (.int (e:Int))),some (.d (.lst (mpI (P.n+1) (T r)))),some (.d (.int S.p)),some (.d (.lst (aV P.m P.n (piv S r e).T))),none] (stG st0 (mpI P.n (nI S.free)) (mpI P.m (nI S.kept)) (fsO P.n (aV P.m P.n (piv S r e).T) (mpI (P.n+1) (piv S r e).G) S.p st0.length))=some (.nx [some (.h (st0.length+2)),some (.d (.int (r:Int))),some (.d (.int (e:Int))),some (.d (.lst (mpI (P.n+1) (T r)))),some (.d (.int S.p)),some (.d (.lst (aV P.m P.n (piv S r e).T))),none] (stG st0 (mpI P.n (nI S.free)) (mpI P.m (nI S.kept)) (fsO P.n (aV P.m P.n (piv S r e).T) (mpI (P.n+1) (piv S r e).G) (piv S r e).p st0.length))):=by
  have Y:(piv S r e).p=T r e:=by show S.T r e=_;rw[w]
  have:=rG (f:=("part" : Str)) (o:=iV 0) (v:=iOp dIx (iV 3) (iV 2)) (x:=.int (T r e)) (env:=[some (.h (st0.length+2)),some (.d (.int (r:Int))),some (.d (.int (e:Int))),some (.d (.lst (mpI (P.n+1) (T r)))),some (.d (.int S.p)),some (.d (.lst (aV P.m P.n (piv S r e).T))),none]) (st0:=st0) (fr:=mpI P.n (nI S.free)) (kp:=mpI P.m (nI S.kept)) (fs:=fsO P.n (aV P.m P.n (piv S r e).T) (mpI (P.n+1) (piv S r e).G) S.p st0.length) (ac U U (d7 _ (by lia))) U (by show 6<1000;decide) U
  rw[BZ]at this;rw[Y];exact this
 generalize t:fsO P.n (aV P.m P.n (piv S r e).T) (mpI (P.n+1) (piv S r e).G) (piv S r e).p st0.length=FS at N;generalize R:W.d (.lst (aV P.m P.n (piv S r e).T))=LN at *;generalize hTR:W.d (.lst (mpI (P.n+1) (T r)))=TR at *;have z:∀ {fr kp:List D}{k:Nat}{d:D},fr[k]?=some d->dIx (stG st0 fr kp FS) (.h st0.length) (.d (.int (k:Int)))=some d:=λ{fr kp k d} J=>by
  show (lg (stG st0 fr kp FS) st0.length).bind (λds=>atI ds (k:Int))=_;rw[sg0,qaa,db J]
 have y:∀ {fr kp:List D}{k:Nat}{d:D},kp[k]?=some d->dIx (stG st0 fr kp FS) (.h (st0.length+1)) (.d (.int (k:Int)))=some d:=λ{fr kp k d} J=>by
  show (lg (stG st0 fr kp FS) (st0.length+1)).bind (λds=>atI ds (k:Int))=_;rw[sg1,qaa,db J]
 have K:FS.lookup ("free" : Str)=some (.h st0.length):=by rw[<-t];rfl
 have O:FS.lookup ("kept" : Str)=some (.h (st0.length+1)):=by rw[<-t];rfl
 have E:bN (ay ("free" : Str) (iV 0)) (iV 2) (iOp dIx (ay ("kept" : Str) (iV 0)) (iV 1)) [some (.h (st0.length+2)),some (.d (.int (r:Int))),some (.d (.int (e:Int))),some TR,some (.d (.int S.p)),some LN,some (.d (.int (nI S.free e)))] (stG st0 (mpI P.n (nI S.free)) (mpI P.m (nI S.kept)) FS)=some (.nx [some (.h (st0.length+2)),some (.d (.int (r:Int))),some (.d (.int (e:Int))),some TR,some (.d (.int S.p)),some LN,some (.d (.int (nI S.free e)))] (stG st0 (mpI P.n (nI (piv S r e).free)) (mpI P.m (nI S.kept)) FS)):=by
  have I:iOp dIx (ay ("kept" : Str) (iV 0)) (iV 1) [some (.h (st0.length+2)),some (.d (.int (r:Int))),some (.d (.int (e:Int))),some TR,some (.d (.int S.p)),some LN,some (.d (.int (nI S.free e)))] (stG st0 (mpI P.n (nI S.free)) (mpI P.m (nI S.kept)) FS)=some (.d (.int (nI S.kept r)),stG st0 (mpI P.n (nI S.free)) (mpI P.m (nI S.kept)) FS):=ac (kR (l _ _ _ _ _ _ _) O) U (y (bm u))
  have C:=kR (f:=("free" : Str)) (a:=iV 0) (st0:=st0) (fr:=mpI P.n (nI S.free)) (kp:=mpI P.m (nI S.kept)) (fs:=FS) (l (some (.d (.int (r:Int)))) (some (.d (.int (e:Int)))) (some TR) (some (.d (.int S.p))) (some LN) (some (.d (.int (nI S.free e)))) _) K
  have H:iV 2 [some (.h (st0.length+2)),some (.d (.int (r:Int))),some (.d (.int (e:Int))),some TR,some (.d (.int S.p)),some LN,some (.d (.int (nI S.free e)))] (stG st0 (mpI P.n (nI S.free)) (mpI P.m (nI S.kept)) FS)=some (.d (.int (e:Int)),stG st0 (mpI P.n (nI S.free)) (mpI P.m (nI S.kept)) FS):=rfl;have A:iz (stG st0 (mpI P.n (nI S.free)) (mpI P.m (nI S.kept)) FS) (.h st0.length) (.d (.int (e:Int))) (.d (.int (nI S.kept r)))=some (stG st0 (mpI P.n (nI (piv S r e).free)) (mpI P.m (nI S.kept)) FS):=by
   simp only[iz,sg0,qaa,aC,eO M,qap,ss0,gu]
   congr 3
   funext j
   show _=(((if j=e then S.kept r else S.free j:Nat)):Int);by_cases m:j=e
   ·rw[iFP m,iFP m];rfl
   ·rw[iFN m,iFN m];rfl
  simp only[bN,I,C,H,qaa,A,qap]
 have B:bN (ay ("kept" : Str) (iV 0)) (iV 1) (iV 6) [some (.h (st0.length+2)),some (.d (.int (r:Int))),some (.d (.int (e:Int))),some TR,some (.d (.int S.p)),some LN,some (.d (.int (nI S.free e)))] (stG st0 (mpI P.n (nI (piv S r e).free)) (mpI P.m (nI S.kept)) FS)=some (.nx [some (.h (st0.length+2)),some (.d (.int (r:Int))),some (.d (.int (e:Int))),some TR,some (.d (.int S.p)),some LN,some (.d (.int (nI S.free e)))] (stG st0 (mpI P.n (nI (piv S r e).free)) (mpI P.m (nI (piv S r e).kept)) FS)):=by
  have I:iV 6 [some (.h (st0.length+2)),some (.d (.int (r:Int))),some (.d (.int (e:Int))),some TR,some (.d (.int S.p)),some LN,some (.d (.int (nI S.free e)))] (stG st0 (mpI P.n (nI (piv S r e).free)) (mpI P.m (nI S.kept)) FS)=some (.d (.int (nI S.free e)),stG st0 (mpI P.n (nI (piv S r e).free)) (mpI P.m (nI S.kept)) FS):=rfl;have C:=kR (f:=("kept" : Str)) (a:=iV 0) (st0:=st0) (fr:=mpI P.n (nI (piv S r e).free)) (kp:=mpI P.m (nI S.kept)) (fs:=FS) (l (some (.d (.int (r:Int)))) (some (.d (.int (e:Int)))) (some TR) (some (.d (.int S.p))) (some LN) (some (.d (.int (nI S.free e)))) _) O
  have H:iV 1 [some (.h (st0.length+2)),some (.d (.int (r:Int))),some (.d (.int (e:Int))),some TR,some (.d (.int S.p)),some LN,some (.d (.int (nI S.free e)))] (stG st0 (mpI P.n (nI (piv S r e).free)) (mpI P.m (nI S.kept)) FS)=some (.d (.int (r:Int)),stG st0 (mpI P.n (nI (piv S r e).free)) (mpI P.m (nI S.kept)) FS):=rfl;have A:iz (stG st0 (mpI P.n (nI (piv S r e).free)) (mpI P.m (nI S.kept)) FS) (.h (st0.length+1)) (.d (.int (r:Int))) (.d (.int (nI S.free e)))=some (stG st0 (mpI P.n (nI (piv S r e).free)) (mpI P.m (nI (piv S r e).kept)) FS):=by
   simp only[iz,sg1,qaa,aC,eO u,qap,ss1,gu]
   congr 3
   congr 1
   funext j
   show _=(((if j=r then S.free e else S.kept j:Nat)):Int);by_cases m:j=r
   ·rw[iFP m,iFP m];rfl
   ·rw[iFN m,iFN m];rfl
  simp only[bN,I,C,H,qaa,A,qap]
 have:=fin _ _ (ai s3 (ai (aj (kR (l _ _ _ _ _ _ _) Bm)) (ai V (ai s6 (ai s7 (ai N (ai (aj (ac (kR (l _ _ _ _ _ _ _) K) U (z (bm M)))) (ai E B)))))))) ?_
 ·rw[this,<-t];rfl
 ·refine qdx ?_
  unfold stO stG;rw[qaz,qaz];exact qao _
end Own
namespace Sx
theorem sumN_abs {n:Nat}{f:Nat->Int}{B:Nat} (h:∀ k,k<n->(f k).natAbs<=B):(sumN n f).natAbs<=n*B:=by
 induction n with
 |zero=>rw[sumN];omega
 |succ n w=>
  rw[sumN,qjL];have p:=w λk e=>h k (by omega);have q:=h n (by omega);omega
theorem sg_abs (k:Nat):(sg k).natAbs=1:=by unfold sg;split<;>rfl
theorem det_le {B X:Nat}:∀ (m:Nat) {C:Nat->Vec},m*B<=X->(∀ k t,k<m->t<m->(C k t).natAbs<=B)->(det m C).natAbs<=X^m
 |0,C,_,_=>by exact qao _
 |m+1,C,o,h=>by
  have:=sumN_abs (f:=λk=>sg k*C k 0*det m _) λk e=>by
   rw[qdg,qdg,sg_abs,qjK];exact qdd (h k 0 e (by omega)) (det_le m (C:=λj t=>C (skip k j) (t+1)) (qaT (qcw B (by omega)) o) λj t z d=>h _ _ (by unfold skip;split<;>omega) (by omega))
  refine qaT this ?_;rw[<-Nat.mul_assoc,Nat.pow_succ,qgO (X^m)];exact qcw _ o
structure Bd (P:Pb):Prop where
 m64:P.m<=64
 n64:P.n<=100
 A:∀ k,k<P.n+P.m->∀ t,t<P.m->(P.A k t).natAbs<=2^50
 b:∀ t,t<P.m->(P.b t).natAbs<=2^50
 g:∀ k,k<P.n+P.m->(P.g k).natAbs<=2^50
variable {P:Pb}
theorem Bd.det (h:Bd P) {C:Nat->Vec} (u:∀ k t,k<P.m->t<P.m->(C k t).natAbs<=2^50):(det P.m C).natAbs<=2^3584:=by
 have hm:=h.m64
 refine qaT (det_le (X:=2 ^ 56) P.m (by
  have:P.m*2^50<=64*2^50:=qcw _ hm
  exact qaT this (by decide)) u) ?_
 rw[<-qjJ];exact qbs (by decide) (by omega)
theorem unit_le (r t:Nat):(unit r t).natAbs<=2^50:=by unfold unit;split<;>decide
theorem Bd.basis (h:Bd P) {S:Tb} (hn:Named P S) {v:Vec} (x:∀ t,t<P.m->(v t).natAbs<=2^50) (i k t:Nat) (e:k<P.m) (d:t<P.m):(upd (basis P S) i v k t).natAbs<=2^50:=by
 unfold upd;split
 ·exact x t d
 ·exact h.A _ (hn.bound.2 k e) t d
theorem Bd.T (h:Bd P) {S:Tb} (hg:Good P S) (hn:Named P S) {i c:Nat} (hi:i<P.m) (l:c<=P.n):(S.T i c).natAbs<=2^3584:=by
 rw[hg.entry l hi];refine h.det λk t e d=>h.basis hn (λt d=>?_) i k t e d;unfold colV;by_cases a:c<P.n
 ·rw[iFP a];exact h.A _ (hn.bound.1 c a) t d
 ·rw[iFN a];exact h.b t d
theorem Bd.L (h:Bd P) {S:Tb} (hn:Named P S) (i s:Nat):(LV P S i s).natAbs<=2^3584:=by
 refine h.det λk t e d=>h.basis hn (λt d=>?_) i k t e d;unfold XV;split
 ·exact h.b t d
 ·exact unit_le _ _
theorem Bd.p (h:Bd P) {S:Tb} (hg:Good P S) (hn:Named P S):S.p.natAbs<=2^3584:=by
 rw[hg.dt];exact h.det λk t e d=>h.A _ (hn.bound.2 k e) t d
theorem Bd.G (h:Bd P) {S:Tb} (hg:Good P S) (hn:Named P S) {c:Nat} (l:c<=P.n):(S.G c).natAbs<=65*(2^50*2^3584):=by
 rw[hg.goal c l];have p:=sumN_abs λi hi=>by
  rw[qdg];exact qdd (h.g _ (hn.bound.2 i hi)) (h.T hg hn hi l)
 have q:(S.p*gainC P S c).natAbs<=2^50*2^3584:=by
  rw[qdg,qgO];refine qdd ?_ (h.p hg hn);unfold gainC;by_cases a:c<P.n
  ·rw[iFP a];exact h.g _ (hn.bound.1 c a)
  ·rw[iFN a];decide
 have y:P.m*_<=64*(2^50*2^3584):=qcw _ h.m64;omega
end Sx
set_option maxHeartbeats 1000000
namespace Own
open PySem L2
open Sx (Pb Tb Good Named Fe LV ZV piv lexP leastR leaveL sumN unit colV basis)
theorem wF {a b:Nat} (h:a<b):2^a<2^b:=qgZ (by decide) h
theorem Al {z:Int} (h:z.natAbs<=2^3584):Sm z:=qbF h (wF (by decide))
theorem Et {z:Int} (h:z.natAbs<=65*(2^50*2^3584)):Sm z:=by
 refine qbF h ?_;refine qbF (qcw _ (by decide:65<=2^7)) ?_;rw[<-qhh,<-qhh];exact wF (by decide)
theorem DO {P:Pb}{S:Tb} (b:Sx.Bd P) (g:Good P S) (n:Named P S):Okt P S:=by
 have d:=b.m64;exact⟨g,n,by lia,b.n64,λi c hi a=>Al (b.T g n hi a),λi s _ _=>Al (b.L n i s),λc a=>Et (b.G g n a),Al (b.p g n)⟩
theorem CT {c:Tf}{b:Sf}{m:Nat}{env:Ev}{st s:Sto} (h:c env st=some (false,s)):bC c b (m+1) env st=some (.nx env s):=by
 rw[bC,h];rfl
theorem zZ {c:Tf}{b:Sf}{m:Nat}{env e:Ev}{st s a:Sto}{r:Option Fl} (h:c env st=some (true,s)) (hb:b env s=some (.nx e a)) (d:bC c b m e a=r):bC c b (m+1) env st=r:=by
 rw[bC,h];show ((b env s).bind _)=_;rw[hb];exact d
theorem F5 {c:Tf}{b:Sf}{m:Nat}{env:Ev}{st s a:Sto}{w:W} (h:c env st=some (true,s)) (hb:b env s=some (.rt w a)):bC c b (m+1) env st=some (.rt w a):=by
 rw[bC,h];show ((b env s).bind _)=_;rw[hb];rfl
theorem kZ {st:Sto}{a0 a2:Option W}:∀ (n a b:Nat) (o:Option W),b<n->∃ c,bC eD e6 n [a0,Z (.int (a:Int)),a2,Z (.int (b:Int)),o] st=some (.nx [a0,Z (.int ((qf2 a b:Nat):Int)),a2,Z (.int 0),c] st)
 |0,a,b,o,h=>by lia
 |n+1,a,b,o,h=>by
  by_cases hb:b=0
  ·subst hb
   refine⟨o,?_⟩;rw[Nat.gcd_zero_right];exact CT U
  ·have f:(!((b)==(0:Int)))=true:=by lia
   obtain⟨c,i⟩:=kZ n b (a%b) _ (by have:=Nat.mod_lt a (Nat.pos_of_ne_zero hb);lia);refine⟨c,?_⟩;have e:qf2 a b=qf2 b (a%b):=by rw[qjv a b,Nat.gcd_rec b a,qjv]
   have j:(0)<(b:Int):=by lia
   have g:f7 st (.d (.int (a))) (.d (.int (b)))=some (.int ((a%b:Nat))):=by
    simp only[f7,j,if_true];rfl
   rw[e,<-i];exact zZ (ao U U ((CJ st _).trans (by rw[f]))) (ai (aj (ac U U g)) U) U
theorem vJ {st:Sto}{ns:List Int}{d0:D} (c:∀ (l:Ev) (s:Sto),aB (iV 0) (Z d0::l) s=some (ns.map D.int,s)) (hn:∀ n∈ns,Sm n):bo [.d d0] st=some (.d (.int ((df 0 ns:Nat):Int)),st):=by
 obtain⟨j,t,k,⟨b,h,a,rfl⟩,rfl⟩:=bF (g:=.nm 2) (body:=eP) (λi env s=>(∃ b h a,env=[Z d0,Z (.int ((df 0 (ns.take i)))),b,h,a])/\s=st)
  ⟨⟨_,_,_,U⟩,U⟩ (λi d env s hd ⟨⟨b,h,a,e⟩,es⟩=>by
   subst e es;rw[qaA,qad]at hd;obtain⟨n,m,rfl⟩:=hd;obtain⟨hi,f⟩:=qar.mp m;have p:uz s [.d (.int n)]=some (.int ((n.natAbs))):=by
    show some _=_;rw[show (if n<0 then -n else n)=((n.natAbs)) by split<;>lia]
   have o:df 0 (ns.take (i+1))=qf2 (df 0 (ns.take i)) n.natAbs:=by
    rw[List.take_succ_eq_append_getElem hi,f,sF]
   obtain⟨q,r⟩:=kZ (st:=s) (a0:=some (.d d0)) (a2:=some (.d (.int n))) (2^8000) (df 0 (ns.take i)) n.natAbs a (qeL (hn n (qbr m)) (wF (by decide)));refine⟨_,[some _,some _,Z (.int n),Z (.int 0),q],s,U,.inl ?_,⟨_,_,_,U⟩,U⟩;rw[o]
   exact ai (aj (aG (ab U U) p)) r)
 rw[qah,qde]at k;exact au U (ai U (ai (bn (c _ _) k) U))
theorem mY {st:Sto}{ns:List Int} (hn:∀ n∈ns,Sm n):bo [.d (.lst (ns.map D.int))] st=some (.d (.int ((df 0 ns:Nat):Int)),st):=vJ (λ_ _=>aR U) hn
theorem qj {te:Ef}{st:Sto}{ns:List Int}{g:Int} (b:0<g) (hg:Sm g) (a:te=iOp qe (iV 0) (iV 1)):lcI (.nm 0) aN te [none,Z (.int g)] (ns.map D.int) st=some ((ns.map λx=>x / g).map D.int,st):=by
 subst a
 rw [(wb (λd=>match d with | .int x=>.int (x / g) | d=>d) λd hd=>by
  obtain⟨y,c,rfl⟩:=qaF.mp hd
  exact⟨_,U,ac U U (qi st b hg)⟩),qaO,qaO];rfl
theorem kB {ns:List Int}{x:Int} (a:x∈ns) (c:x≠0) (b:Sm x):0<((df 0 ns:Nat):Int)/\Sm ((df 0 ns:Nat):Int):=by
 obtain⟨e,d⟩:=yN a c;refine⟨by lia,?_⟩;exact qbF d b
theorem uS {st:Sto}{ns:List Int} (hb:∀ x∈ns,Sm x) (c:∃ x∈ns,x≠0) (k:ns.length<=1000):cZ [.d (.lst (ns.map D.int))] st=some (.d (.tup ((ns.map λx=>x / ((df 0 ns:Nat):Int)).map D.int)),st):=by
 obtain⟨x,a,h⟩:=c;have f:=mY (st:=st) hb;obtain⟨e,i⟩:=kB a h (hb x a);generalize ((df 0 ns):Int)=g at *;have j:(g==(0))=false:=by lia
 have b:(ns.map D.int).length<=1000000:=by rw[qah];lia
 exact au U (ai (aj (ah U f)) (ai (bh (ao U U (by rw[cJ,j])) U) (aD (aG (ab (aq (aM (aR U) b (qj e i U))) U) U))))
def acc (e:Nat->Nat) (y:Nat->Int) (i k:Nat):Int:=sumN i λj=>if e j=k then y j else 0
theorem rW (e:Nat->Nat) (y:Nat->Int) (i k:Nat):acc e y (i+1) k=acc e y i k+if e i=k then y i else 0:=rfl
theorem mz {e:Nat->Nat}{y:Nat->Int}{i k:Nat} (h:∀ j,j<i->e j≠k):acc e y i k=0:=by
 unfold acc;rw[Sx.sumN_congr λj a=>iFN (h j a),Sx.sumN_zero]
theorem pw {e:Nat->Nat}{y:Nat->Int}{d N i:Nat} (hd:d<=e i) (b:∀ j,j<i->e j≠e i):(mpI N λr=>acc e y i (d+r)).set (e i - d) (.int (y i))=mpI N λr=>acc e y (i+1) (d+r):=by
 rw[gu];refine bD λr _=>?_;rw[rW];by_cases c:r=e i - d
 ·rw[mz λj a=>by have:=b j a;lia];lia
 ·lia
theorem rV {e:Nat->Nat}{y:Nat->Int}{d N i:Nat} (h:∀ r,r<N->e i≠d+r):(mpI N λr=>acc e y i (d+r))=mpI N λr=>acc e y (i+1) (d+r):=by
 refine bD λr a=>?_;rw[rW,iFN (h r a)];lia
theorem AF (n:Nat) (e:Nat->Nat) (y:Nat->Int) (d:Nat):(qaH n [D.int 0]).flatten=mpI n λr=>acc e y 0 (d+r):=by
 show _=(qak n).map λ_=>D.int 0
 induction n with
 |zero=>rfl
 |succ n a=>rw[qgP,qg1,a,qdU,qbv];rfl
theorem iP {f:Ef}{env:Ev}{st:Sto}{n:Nat} (a:f env st=some (.d (.int (n:Int)),st)) (hn:n<=900) (e:Nat->Nat) (y:Nat->Int) (d:Nat):cV (sJ ny (aw (bO (aa (iC (.int 0)) ae))) f) env st=some (.h st.length,st++[.l (mpI n λr=>acc e y 0 (d+r))]):=by
 have b:sJ ny (aw (bO (aa (iC (.int 0)) ae))) f env st=some (mpI n λr=>acc e y 0 (d+r),st):=by
  show ((f env st).bind λq=>(ny q.2 (.d (.lst [.int 0])) q.1).map λl=>(l,q.2))=_;rw[a];show (ny st _ _).map _=_;unfold ny;dsimp only;rw[iFP ⟨by decide,by lia,by lia⟩,qa6,AF n e y d];rfl
 simp only[cV,b,qap]
end Own
set_option maxHeartbeats 1000000
namespace Own
open PySem L2
open Sx (Pb Tb Good Named Fe LV ZV piv lexP leastR leaveL sumN unit colV basis)
theorem sIx {o i v:Ef}{env:Ev}{st:Sto}{xs:List D}{k:Nat}{d:D} (a:v env (st++[.l xs])=some (.d d,st++[.l xs])) (b:o env (st++[.l xs])=some (.h st.length,st++[.l xs])) (hi:i env (st++[.l xs])=some (.d (.int (k:Int)),st++[.l xs])) (e:k<xs.length):bN o i v env (st++[.l xs])=some (.nx env (st++[.l (xs.set k d)])):=by
 have c:iz (st++[.l xs]) (.h st.length) (.d (.int (k))) (.d d)=some (st++[.l (xs.set k d)]):=by
  simp only[iz,dn,qaa,eO e,qap,og]
 simp only[bN,a,b,hi,qaa,c,qap]
theorem ql {a:Ef}{env:Ev}{st:Sto}{m:Nat}{f:Nat->Nat} (h:a env st=some (.d (.lst (mpI m (nI f))),st)):bV (aa a ae) env st=some ((qak m).map λi=>D.tup [.int ((i:Nat):Int),.int (nI f i)],st):=by
 have:=ab (b:=ae) h U
 rw[<-vE];simp only[bV,this,qaa]
theorem nM {m:Nat}{g:Nat->D}{i:Nat}{d:D} (h:((qak m).map g)[i]?=some d):i<m/\d=g i:=by
 rw[qaA,qad]at h;obtain⟨k,b,rfl⟩:=h;obtain⟨hi,a⟩:=qar.mp b;rw[qhl]at a;rw[qat]at hi;exact⟨hi,by rw[a]⟩
theorem iR:∀ ns:List Int,uY (ns.map D.int)=true
 |[]=>rfl
 |n::ns=>iR ns
theorem zv (n:Nat) (f:Nat->Int):okT (.tup (mpI n f))=true:=by
 rw[bH];exact iR _
section
variable {P:Pb}{S:Tb}{st:Sto}
theorem EW (h:Okt P S):gq [.d (obD P S)] st=some (.d (.lst (mpI P.n λk=>acc S.kept (λi=>S.T i P.n) P.m k)),st):=by
 have hn:=h.n64;generalize L:(λi=>S.T i P.n)=y;have m:∀ (a b c:Option W) (s:Sto),iV 0 [some _,a,b,c] s=some (.d (obD P S),s):=λ_ _ _ _=>rfl;obtain⟨w,s2,A,⟨p,q,rfl⟩,rfl⟩:=bF (g:=.tp [2,3]) (body:=hW) (ds:=(qak P.m).map λi=>D.tup [.int _,.int (nI S.kept i)])
  (λi env s=>(∃ p q,env=[Z (obD P S),some (.h st.length),p,q])/\s=st++[.l (mpI P.n λr=>acc S.kept y i (0+r))])
  ⟨⟨_,_,U⟩,U⟩ (λi d env s hd ⟨⟨p,q,e⟩,es⟩=>by
   subst e es;obtain⟨hi,rfl⟩:=nM hd;refine⟨_,_,_,U,.inl ?_,⟨some (.d (.int ((i:Nat):Int))),Z (.int (nI S.kept i)),U⟩,U⟩;generalize u:(mpI P.n λr=>acc S.kept y i (0+r))=xs;have tl:aE dLt (iV 3) _ [Z (obD P S),some (.h st.length),Z (.int ((i:Nat):Int)),Z (.int (nI S.kept i))] (st++[.l xs])=some (decide _,st++[.l xs]):=ao U (bU (m _ _ _ _)) (zk _ _ _);by_cases t:S.kept i<P.n
   ·rw[decide_eq_true (by show ((S.kept i:Nat):Int)<_;lia)]at tl
    have H:iOp dIx (iOp dIx (ay ("lines" : Str) (iV 0)) (iV 2)) (iUn gI (iC (.int 1))) [Z (obD P S),some (.h st.length),Z (.int ((i:Nat):Int)),Z (.int (nI S.kept i))] (st++[.l xs])=some (.d (.int (y i)),st++[.l xs]):=by
     rw[<-L];exact ac (ac (cE (m _ _ _ _)) U (sU _ hi)) U (vZ _)
    have:=sIx (k:=S.kept i) H (o:=iV 1) (i:=iV 3) U U (by rw[<-u,aC];exact t)
    rw[<-u]at this ⊢ tl;rw[<-pw (d:=0) (N:=P.n) (e:=S.kept) (y:=y) (i:=i) (by lia) λj F e=>by have:=g9 h.good (by lia) hi e;lia];exact ck tl this
   ·rw[decide_eq_false (by show ¬ ((S.kept i:Nat):Int)<_;lia)]at tl
    rw[<-rV (d:=0) (N:=P.n) (e:=S.kept) (y:=y) (i:=i) λr G=>by lia,u]
    exact bh tl U)
 rw[qah,qat]at A
 have:=ml (n:=4) (k:=1) (b:=jy) (ws:=[.d (obD P S)]) (st:=st) (h:=st.length) U (ai (aj (iP (st:=st) (bU (m none none none st)) (by lia) S.kept y 0)) (ai (bn (ql (pF (m _ _ _ _))) A) U)) (qao _) (dn _ _)
 rw[qcH]at this;simp only[qbh]at this;exact this
def pr (P:Pb) (S:Tb) (i r:Nat):Int:=if ∃ c,c<i/\S.free c=P.n+r then ZV P S (r+1) else 0
theorem F1 (h:Okt P S) (hg:∀ r,r<P.m->P.g (P.n+r)=0):iq [.d (obD P S)] st=some (.d (.lst (mpI P.m λr=>ZV P S (r+1))),st):=by
 have hm:=h.m64;have hn:=h.n64;have m:∀ (a b c:Option W) (s:Sto),iV 0 [Z (obD P S),a,b,c] s=some (.d (obD P S),s):=λ_ _ _ _=>rfl;have hz:(mpI P.m λr=>acc S.free S.G 0 (0+r))=mpI P.m λr=>pr P S 0 r:=bD λr _=>by
  unfold pr;rw[iFN λ⟨c,Q,_⟩=>by lia];rfl
 have M:=by
  have:=aG (g:=a8) (ab (b:=ae) (cE (m none none none st)) U) (jD _ _)
  rw[cz]at this;exact this
 have s1:=iP (st:=st) M (by lia) S.free S.G 0;rw[hz]at s1;obtain⟨w,s2,A,⟨p,q,rfl⟩,rfl⟩:=bF (g:=.tp [2,3]) (body:=je) (ds:=(qak P.n).map λi=>D.tup [.int ((i:Nat):Int),.int (nI S.free i)])
  (λi env s=>(∃ p q,env=[Z (obD P S),some (.h st.length),p,q])/\s=st++[.l (mpI P.m λr=>pr P S i r)])
  ⟨⟨_,_,U⟩,U⟩ (λi d env s hd ⟨⟨p,q,e⟩,es⟩=>by
   subst e es;obtain⟨hi,rfl⟩:=nM hd;refine⟨_,_,_,U,.inl ?_,⟨some (.d (.int ((i:Nat):Int))),Z (.int (nI S.free i)),U⟩,U⟩;have hb:=h.named.bound.1 i hi;generalize u:(mpI P.m λr=>pr P S i r)=xs;have tl:aE dGe (iV 3) (ay ("amounts" : Str) (iV 0)) [Z (obD P S),some (.h st.length),Z (.int ((i:Nat):Int)),Z (.int (nI S.free i))] (st++[.l xs])=some (decide (nI S.free i>=(P.n:Int)),st++[.l xs]):=ao U (bU (m _ _ _ _)) (Fh _ _ _)
   by_cases t:P.n<=S.free i
   ·rw[decide_eq_true (by show ((S.free i:Nat):Int)>=_;lia)]at tl
    have ho:iOp jC (iV 3) (ay ("amounts" : Str) (iV 0)) [Z (obD P S),some (.h st.length),Z (.int ((i:Nat):Int)),Z (.int (nI S.free i))] (st++[.l xs])=some (.d (.int ((S.free i - P.n:Nat):Int)),st++[.l xs]):=by
     rw[show ((S.free i - P.n:Nat):Int)=nI S.free i - (P.n:Int) by show _=((S.free i:Nat):Int) - _;lia];exact ac U (bU (m _ _ _ _)) U
    have H:iOp dIx (ay ("goal" : Str) (iV 0)) (iV 2) [Z (obD P S),some (.h st.length),Z (.int ((i:Nat):Int)),Z (.int (nI S.free i))] (st++[.l xs])=some (.d (.int (S.G i)),st++[.l xs]):=ac (lE (m _ _ _ _)) U (d7 _ (by lia))
    have:=sIx (k:=S.free i - P.n) H (o:=iV 1) U ho (by rw[<-u,aC];lia)
    have B:xs.set (S.free i - P.n) (.int (S.G i))=mpI P.m λr=>pr P S (i+1) r:=by
     rw[<-u,gu];refine bD λr G=>?_;by_cases Y:r=S.free i - P.n
     ·rw[iFP Y]
      unfold pr;rw[iFP ⟨i,by lia,by lia⟩];exact (Sx.price_free h.good h.named hg G hi (by lia)).symm
     ·rw[iFN Y]
      unfold pr;by_cases ex:∃ c,c<i/\S.free c=P.n+r
      ·rw[iFP ex];obtain⟨c,K,v⟩:=ex;rw[iFP ⟨c,by lia,v⟩]
      ·rw[iFN ex,iFN λ⟨c,K,v⟩=>ex ⟨c,by
        by_cases z:c=i
        ·subst z;lia
        ·lia,v⟩]
    rw[<-B];exact ck tl this
   ·rw[decide_eq_false (by show ¬ ((S.free i:Nat):Int)>=_;lia)]at tl
    have B:xs=mpI P.m λr=>pr P S (i+1) r:=by
     rw[<-u];refine bD λr G=>?_;unfold pr;by_cases ex:∃ c,c<i/\S.free c=P.n+r
     ·rw[iFP ex];obtain⟨c,K,v⟩:=ex;rw[iFP ⟨c,by lia,v⟩]
     ·rw[iFN ex,iFN λ⟨c,K,v⟩=>ex ⟨c,by
        by_cases z:c=i
        ·subst z;lia
        ·lia,v⟩]
    rw[<-B]
    exact bh tl U)
 rw[qah,qat]at A
 have:=ml (n:=4) (k:=1) (b:=kS) (ws:=[.d (obD P S)]) (st:=st) (h:=st.length) U (ai (aj s1) (ai (bn (ql (lD (m _ _ _ _))) A) U)) (qao _) (dn _ _)
 rw[qcH]at this
 rw[bD (f:=λr=>pr P S P.n r) (g:=λr=>ZV P S (r+1)) λr G=>by
  unfold pr;by_cases ex:∃ c,c<P.n/\S.free c=P.n+r
  ·rw[iFP ex]
  ·rw[iFN ex]
   rcases h.named.all (P.n+r) (by lia) with Q|⟨j,F,e⟩
   ·exact absurd Q ex
   ·exact (Sx.price_kept h.good h.named hg G F e).symm]at this
 exact this
theorem Gx (h:Okt P S) {e:Nat} (he:e<P.n) (ht:∀ i,i<P.m->S.T i e<=0) (hp:∃ k,k<P.n/\Sx.wayN P S e k≠0):∃ g:Int,0<g/\(∀ k,k<P.n->g∣Sx.wayN P S e k)/\j6 [.d (obD P S),.d (.int (e:Int))] []=some (.d (.tup (mpI P.n λk=>Sx.wayN P S e k / g)),[]):=by
 have hm:=h.m64;have hn:=h.n64;have m:∀ (a b c d:Option W) (s:Sto),iV 0 [Z (obD P S),a,b,c,d] s=some (.d (obD P S),s):=λ_ _ _ _ _=>rfl;have R:∀ i,i<P.m->S.kept i≠S.free e:=λi hi e1=>by
  have K:=h.good.entry (c:=e) (by lia) hi;have v:colV P S e=basis P S i:=by unfold colV basis;rw[iFP he,e1]
  rw[v,Sx.upd_self,<-h.good.dt]at K
  have:=ht i hi
  have:=h.good.pos
  lia
 generalize L:(λi=>- S.T i e)=y;have hw:∀ k,Sx.wayN P S e k=if k=S.free e then S.p else acc S.kept y P.m k:=λk=>by
  show Sx.byName P S (λi=>- S.T i e) k+_=_;rw[L];by_cases t:k=S.free e
  ·rw[iFP t,iFP t.symm,Sx.byName_not λi hi=>by rw[t];exact R i hi];lia
  ·rw[iFN t,iFN (qbk t)]
   show acc S.kept y P.m k+0=_;lia
 obtain⟨w,s2,A,⟨p,q,rfl⟩,rfl⟩:=bF (g:=.tp [3,4]) (body:=nA) (ds:=(qak P.m).map λi=>D.tup [.int ((i:Nat):Int),.int (nI S.kept i)])
  (λi env s=>(∃ p q,env=[Z (obD P S),Z (.int (e:Int)),some (.h 0),p,q])/\s=[]++[.l (mpI P.n λr=>acc S.kept y i (0+r))])
  (env:=[Z (obD P S),Z (.int (e:Int)),some (.h 0),none,none]) (st:=[]++[.l (mpI P.n λr=>acc S.kept y 0 (0+r))]) ⟨⟨_,_,U⟩,U⟩ (λi d env s hd ⟨⟨p,q,e0⟩,es⟩=>by
   subst e0 es;obtain⟨hi,rfl⟩:=nM hd;refine⟨_,_,_,U,.inl ?_,⟨some (.d (.int ((i:Nat):Int))),Z (.int (nI S.kept i)),U⟩,U⟩;generalize u:(mpI P.n λr=>acc S.kept y i (0+r))=xs;have tl:aE dLt (iV 4) (ay ("amounts" : Str) (iV 0)) [Z (obD P S),Z (.int (e:Int)),some (.h 0),Z (.int ((i:Nat):Int)),Z (.int (nI S.kept i))] ([]++[.l xs])=some (decide (nI S.kept i<(P.n:Int)),[]++[.l xs]):=ao U (bU (m _ _ _ _ _)) (zk _ _ _)
   by_cases t:S.kept i<P.n
   ·rw[decide_eq_true (by show ((S.kept i:Nat):Int)<_;lia)]at tl
    have H:iUn gI (iOp dIx (iOp dIx (ay ("lines" : Str) (iV 0)) (iV 3)) (iV 1)) [Z (obD P S),Z (.int (e:Int)),some (.h 0),Z (.int ((i:Nat):Int)),Z (.int (nI S.kept i))] ([]++[.l xs])=some (.d (.int (y i)),[]++[.l xs]):=by
     rw[<-L]
     have:=ac (g:=dIx) (ac (g:=dIx) (cE (m (Z (.int (e:Int))) (some (.h 0)) (Z (.int ((i:Nat):Int))) (Z (.int (nI S.kept i))) ([]++[C.l xs]))) (b:=iV 3) U (sU _ hi)) (b:=iV 1) U (sS (c:=e) _ (by lia))
     simp only[iUn,this,qaa];rfl
    have:=sIx (st:=[]) (k:=S.kept i) H (o:=iV 2) (i:=iV 4) U U (by rw[<-u,aC];exact t)
    rw[<-u]at this ⊢ tl;rw[<-pw (d:=0) (N:=P.n) (e:=S.kept) (y:=y) (i:=i) (by lia) λj F e=>by have:=g9 h.good (by lia) hi e;lia];exact ck tl this
   ·rw[decide_eq_false (by show ¬ ((S.kept i:Nat):Int)<_;lia)]at tl
    rw[<-rV (d:=0) (N:=P.n) (e:=S.kept) (y:=y) (i:=i) λr G=>by lia,u]
    exact bh tl U)
 rw[qah,qat]at A;have s3:aX (aE dLt (iOp dIx (ay ("free" : Str) (iV 0)) (iV 1)) (ay ("amounts" : Str) (iV 0))) (bN (iV 2) (iOp dIx (ay ("free" : Str) (iV 0)) (iV 1)) (ay ("part" : Str) (iV 0))) aS [Z (obD P S),Z (.int (e:Int)),some (.h 0),p,q] ([]++[.l (mpI P.n λr=>acc S.kept y P.m (0+r))])=some (.nx [Z (obD P S),Z (.int (e:Int)),some (.h 0),p,q] ([]++[.l (mpI P.n λk=>Sx.wayN P S e k)])):=by
  have qf:∀ s,iOp dIx (ay ("free" : Str) (iV 0)) (iV 1) [Z (obD P S),Z (.int (e:Int)),some (.h 0),p,q] s=some (.d (.int (nI S.free e)),s):=λs=>ac (lD (m _ _ _ _ _)) U (d7 _ he)
  generalize u:(mpI P.n λr=>acc S.kept y P.m (0+r))=xs;have tl:aE dLt (iOp dIx (ay ("free" : Str) (iV 0)) (iV 1)) (ay ("amounts" : Str) (iV 0)) [Z (obD P S),Z (.int (e:Int)),some (.h 0),p,q] ([]++[.l xs])=some (decide (nI S.free e<(P.n:Int)),[]++[.l xs]):=ao (qf _) (bU (m _ _ _ _ _)) (zk _ _ _)
  by_cases t:S.free e<P.n
  ·rw[decide_eq_true (by show ((S.free e:Nat):Int)<_;lia)]at tl
   have:=sIx (st:=[]) (k:=S.free e) (lF (m (Z (.int (e:Int))) (some (.h 0)) p q ([]++[C.l xs]))) (o:=iV 2) (i:=iOp dIx (ay ("free" : Str) (iV 0)) (iV 1)) U (qf _) (by rw[<-u,aC];exact t)
   have B:xs.set (S.free e) (.int S.p)=mpI P.n λk=>Sx.wayN P S e k:=by
    rw[<-u,gu];refine bD λk _=>?_;rw[hw k,qbh]
   rw[B]at this;exact ck tl this
  ·rw[decide_eq_false (by show ¬ ((S.free e:Nat):Int)<_;lia)]at tl
   have B:xs=mpI P.n λk=>Sx.wayN P S e k:=by
    rw[<-u];refine bD λk hk'=>?_;rw[hw k,qbh,iFN (by lia)]
   rw[<-B];exact bh tl U
 obtain⟨X,E,I⟩:=hp;have O:∀ x∈(qak P.n).map (Sx.wayN P S e),Sm x:=λx hx=>by
  obtain⟨k,t,rfl⟩:=qaF.mp hx;rw[hw k];by_cases z:k=S.free e
  ·rw[iFP z];exact h.sp
  ·rw[iFN z]
   by_cases ex:∃ i,i<P.m/\S.kept i=k
   ·obtain⟨i,hi,rfl⟩:=ex
    have:acc S.kept y P.m (S.kept i)=y i:=Sx.byName_at (λi j hi F=>g9 h.good hi F) hi
    rw[this,<-L];show (- S.T i e).natAbs<_;rw[qie];exact h.sT i e hi (by lia)
   ·rw[mz λj F e=>ex ⟨j,F,e⟩]
    exact qf1 (by decide)
 have J:=uS (st:=[]) O ⟨_,qaF.mpr ⟨X,qaN.mpr E,U⟩,I⟩ (by rw[qah,qat];lia);obtain⟨g0,g1⟩:=kB (ns:=(qak P.n).map (Sx.wayN P S e)) (qaF.mpr ⟨X,qaN.mpr E,U⟩) I (O _ (qaF.mpr ⟨X,qaN.mpr E,U⟩));have gd:∀ k,k<P.n->((df 0 ((qak P.n).map (Sx.wayN P S e)):Nat):Int)∣Sx.wayN P S e k:=λk t=>qcP.mpr ((dg 0 _).2 _ (qaF.mpr ⟨k,qaN.mpr t,U⟩));generalize hG:((df 0 ((qak P.n).map (Sx.wayN P S e)):Nat):Int)=g at *;refine⟨g,g0,gd,?_⟩;rw[<-bH,qaO,qaO]at J;have Q:cY cZ (aa (iV 2) ae) [Z (obD P S),Z (.int (e:Int)),some (.h 0),p,q] ([]++[.l (mpI P.n λk=>Sx.wayN P S e k)])=some (.d (.tup (mpI P.n λk=>Sx.wayN P S e k / g)),[]++[.l (mpI P.n λk=>Sx.wayN P S e k)]):=by
  have ha:aa (iV 2) ae [Z (obD P S),Z (.int (e:Int)),some (.h 0),p,q] ([]++[.l (mpI P.n λk=>Sx.wayN P S e k)])=some ([.h 0],[]++[.l (mpI P.n λk=>Sx.wayN P S e k)]):=rfl;have V:vwA ([]++[.l (mpI P.n λk=>Sx.wayN P S e k)]) [.h 0]=some [.d (.lst (mpI P.n λk=>Sx.wayN P S e k))]:=rfl;have T:cZ [.d (.lst (mpI P.n λk=>Sx.wayN P S e k))] []=some (.d (.tup (mpI P.n λk=>Sx.wayN P S e k / g)),[]):=J;simp only[cY,ha,qaa,V,T];rw[iFP];exact zv _ _
 have:=fP (n:=5) (k:=2) (b:=se) (ws:=[.d (obD P S),.d (.int (e:Int))]) (st:=[]) U (ai (aj (iP (st:=[]) (bU (m (Z (.int (e:Int))) none none none [])) (by lia) S.kept y 0)) (ai (bn (ql (pF (m _ _ _ _ _))) A) (ai s3 (aD Q))))
 exact this
end
end Own
set_option maxHeartbeats 1000000
namespace Own
open PySem L2
open Sx (Pb Tb Good Named Fe LV ZV piv lexP leastR leaveL sumN unit colV basis)
theorem mJ {m:Fn}{a:Af}{env:Ev}{st:Sto}{ws b:List W}{x:D} (f:a env st=some (ws,st)) (c:vwA st ws=some b) (hm:m b []=some (.d x,[])) (e:okT x=true):cY m a env st=some (.d x,st):=by
 simp only[cY,f,qaa,c,hm];rw[iFP e]
structure Pd (P:Pb):Prop where
 bd:Sx.Bd P
 hA:∀ k,k<P.n+P.m->∀ t,P.m<=t->P.A k t=0
 hb:∀ t,P.m<=t->P.b t=0
 hg:∀ r,r<P.m->P.g (P.n+r)=0
section
variable {P:Pb}{S:Tb}
theorem Pd.okt (d:Pd P) (g:Good P S) (n:Named P S):Okt P S:=DO d.bd g n
theorem Pd.kept (d:Pd P) (n:Named P S):∀ i,i<P.m->∀ t,P.m<=t->P.A (S.kept i) t=0:=λi hi t B=>d.hA _ (n.bound.2 i hi) t B
theorem GG (g:Good P S) (f:Fe P S):∀ i,i<P.m->0<=S.T i P.n:=λi hi=>by
 rw[g.entry (qao _) hi]
 have:colV P S P.n=Sx.XV P 0:=by unfold colV Sx.XV;rw[iFN (qa2 _),iFP U]
 rw[this];exact (Sx.lexP_first (by lia) (f i hi))
structure yq (P:Pb) (p:Int) (am pr:Nat->Int):Prop where
 p1:1<=p
 am0:∀ k,k<P.n->0<=am k
 pr0:∀ r,r<P.m->0<=pr r
 rows:∀ r,r<P.m->(sumN P.n λj=>am j*P.A j r)<=p*P.b r
 cols:∀ j,j<P.n->p*P.g j<=sumN P.m λr=>P.A j r*pr r
 same:(sumN P.m λr=>P.b r*pr r)=sumN P.n λj=>am j*P.g j
 sp:Sm p
 sa:∀ k,k<P.n->Sm (am k)
 sr:∀ r,r<P.m->Sm (pr r)
structure mw (P:Pb) (way:Nat->Int):Prop where
 w0:∀ k,k<P.n->0<=way k
 rows:∀ r,r<P.m->(sumN P.n λj=>way j*P.A j r)<=0
 gain:0<sumN P.n λj=>way j*P.g j
theorem mP {g a:Int} (h:g∣a):g*(a / g)=a:=qdQ h
theorem rJ {n:Nat}{g:Int}{f h:Nat->Int} (hd:∀ k,k<n->g∣f k):g*(sumN n λk=>f k / g*h k)=sumN n λk=>f k*h k:=by
 rw[<-Sx.sumN_mul];refine Sx.sumN_congr λk m=>?_;rw[<-qbo,mP (hd k m)]
theorem wM {n:Nat}{g:Int}{f h:Nat->Int} (hd:∀ k,k<n->g∣f k):g*(sumN n λk=>h k*(f k / g))=sumN n λk=>h k*f k:=by
 rw[<-Sx.sumN_mul];refine Sx.sumN_congr λk m=>?_;rw[qaS,mP (hd k m)]
theorem Gz (h:Okt P S) (hg:∀ r,r<P.m->P.g (P.n+r)=0) (w:∀ c,c<P.n->0<=S.G c) {r:Nat} (l:r<P.m):Sm (ZV P S (r+1))/\0<=ZV P S (r+1):=by
 rcases h.named.all (P.n+r) (by lia) with⟨c,O,e⟩|⟨j,u,e⟩
 ·rw[Sx.price_free h.good h.named hg l O e];exact⟨h.sG c (by lia),w c O⟩
 ·rw[Sx.price_kept h.good h.named hg l u e];exact⟨qf1 (by decide),qb3 _⟩
theorem EX (h:Okt P S) (k:Nat):Sm (acc S.kept (λi=>S.T i P.n) P.m k):=by
 by_cases ex:∃ i,i<P.m/\S.kept i=k
 ·obtain⟨i,hi,rfl⟩:=ex
  have:acc S.kept (λi=>S.T i P.n) P.m _=S.T i P.n:=Sx.byName_at (λi j hi u=>g9 h.good hi u) hi
  rw[this];exact h.sT i P.n hi (qao _)
 ·rw[mz λj u e=>ex ⟨j,u,e⟩]
  exact qf1 (by decide)
theorem uO {g a b:Int} (T:0<g) (h:g*a<=g*b):a<=b:=Int.le_of_mul_le_mul_left h T
theorem Sm.dv {a:Int} (h:Sm a) (q:Int):Sm (a / q):=qbF (Int.natAbs_ediv_le_natAbs a q) h
theorem Fa (d:Pd P) (g:Good P S) (n:Named P S) (f:Fe P S) (w:∀ c,c<P.n->0<=S.G c):∃ p am pr,yq P p am pr/\gr [.d (obD P S)] []=some (.d (.tup [.str "most",.int p,.tup (mpI P.n am),.tup (mpI P.m pr)]),[]):=by
 have h:=d.okt g n;have hm:=h.m64;have hn:=h.n64;have N:=GG g f;have e1:=EW (st:=[]) h;have X:=F1 (st:=[]) h d.hg;have hg:=d.hg;have M1:=λr l=>Sx.amounts_ok g n N (r:=r) l;have M2:=Sx.gains_amounts g n d.hg;have M3:=λj u=>Sx.prices_ok g n d.hA w (j:=j) u;have M4:=Sx.bounds_prices g d.hb;have M5:∀ k,0<=acc S.kept (λi=>S.T i P.n) P.m k:=λk=>Sx.byName_nonneg (P:=P) (S:=S) N k;have M6:=EX h;have M7:=λr l=>Gz h d.hg w (r:=r) l;have M9:∀ j,Sx.byName P S (λi=>S.T i P.n) j=acc S.kept (λi=>S.T i P.n) P.m j:=λ_=>rfl;simp only[M9]at M1 M2;generalize acc S.kept (λi=>S.T i P.n) P.m=am at *;generalize H:(λr=>ZV P S (r+1))=pr at *;have A:∀ r,ZV P S (r+1)=pr r:=λr=>by rw[<-H]
 simp only[A]at M3 M4 M7;have hns:D.int S.p::(mpI P.n am++mpI P.m pr)=(S.p::((qak P.n).map am++(qak P.m).map pr)).map D.int:=by
  rw[qaw,qbv,bH,bH]
 have J:∀ x∈S.p::((qak P.n).map am++(qak P.m).map pr),Sm x:=λx o=>by
  rcases qay.mp o with rfl|o
  ·exact h.sp
  ·rcases qaR.mp o with o|o
   ·obtain⟨k,_,rfl⟩:=qaF.mp o;exact M6 k
   ·obtain⟨k,m,rfl⟩:=qaF.mp o;exact (M7 k (qaN.mp m)).1
 have Q:=mY (st:=[]) J;have R:=g.pos;obtain⟨v,I⟩:=kB qag (by lia) h.sp;have y:∀ x∈S.p::((qak P.n).map am++(qak P.m).map pr),_∣x:=λx o=>qcP.mpr ((dg 0 _).2 _ o);rw[<-hns]at Q;generalize ((df 0 _:Nat):Int)=q at *;have dp:q∣S.p:=y _ qag;have L:=λk m=>y _ (qaj _ (qaV _ (qaF.mpr ⟨k,qaN.mpr m,U⟩)));have K:=λk m=>y _ (qaj _ (qav _ (qaF.mpr ⟨k,qaN.mpr m,U⟩)));refine⟨S.p / q,λk=>am k / q,λr=>pr r / q,⟨?_,λk _=>qdZ (M5 k) (by lia),λr l=>qdZ (M7 r l).2 (by lia),λr l=>?_,λj u=>?_,?_,h.sp.dv _,λk _=>(M6 k).dv _,λr l=>(M7 r l).1.dv _⟩,?_⟩
 ·have:=mP dp
  rcases Int.lt_or_le (S.p / q) 1 with z|z
  ·have:q*(S.p / q)<=q*0:=qdP (by lia) (by lia)
   lia
  ·exact z
 ·refine uO v ?_
  rw[rJ (h:=λj=>P.A j r) L,<-qbo,mP dp];exact M1 r l
 ·refine uO v ?_
  rw[wM (h:=λr=>P.A j r) K,<-qbo,mP dp];exact M3 j u
 ·refine qeg (a:=q) (by lia) ?_
  rw[wM (h:=λr=>P.b r) K,rJ (h:=λj=>P.g j) L,M4,M2]
 ·have C:∀ (a b c:Option W) (s:Sto),iV 0 [Z (obD P S),a,b,c] s=some (.d (obD P S),s):=λ_ _ _ _=>rfl
  have ka:lcI (.nm 0) aN dX [none,Z (.int q)] (mpI P.n am) []=some (mpI P.n λk=>am k / q,[]):=by
   have:=qj (te:=dX) (st:=[]) (ns:=(qak P.n).map am) v I U
   rw[<-bH,qaO,qaO]at this;exact this
  have Y:lcI (.nm 0) aN dW [none,Z (.int q)] (mpI P.m pr) []=some (mpI P.m λk=>pr k / q,[]):=by
   have:=qj (te:=dW) (st:=[]) (ns:=(qak P.m).map pr) v I U
   rw[<-bH,qaO,qaO]at this;exact this
  have la:(mpI P.n am).length<=1000000:=by rw[aC];lia
  have V:(mpI P.m pr).length<=1000000:=by rw[aC];lia
  have E:[D.int S.p].length+(mpI P.n am).length<=1000000:=by rw[aC];show 1+_<=_;lia
  have G:([D.int S.p]++mpI P.n am).length+(mpI P.m pr).length<=1000000:=by rw[qaz,aC,aC];show 1+_+_<=_;lia
  generalize mpI P.n am=AM at *;generalize mpI P.m pr=PR at *;have s3:aA (.nm 3) (av bo (aa (iOp bj (iOp bj (aw (bO (aa (ay ("part" : Str) (iV 0)) ae))) (iV 1)) (iV 2)) ae)) [Z (obD P S),Z (.lst AM),Z (.lst PR),none] []=some (.nx [Z (obD P S),Z (.lst AM),Z (.lst PR),Z (.int q)] []):=by
   have hl:bO (aa (ay ("part" : Str) (iV 0)) ae) [Z (obD P S),Z (.lst AM),Z (.lst PR),none] []=some ([.int S.p],[]):=by
    have:=ab (b:=ae) (lF (C (Z (.lst AM)) (Z (.lst PR)) none [])) U
    rfl
   exact aj (ah (ab (ac (ac (aq hl) U (dj _ E)) U (dj _ G)) U) Q)
  exact au (n:=4) (k:=1) (b:=jz) U (ai (aj (ah (ab (C _ _ _ _) U) e1)) (ai (aj (ah (ab (C _ _ _ _) U) X)) (ai s3 (aD (Ek (ab U (ab (ac (lF (C _ _ _ _)) U (qi _ v I)) (ab (aG (ab (aq (aM (aR U) la ka)) U) U) (ab (aG (ab (aq (aM (aR U) V Y)) U) U) U)))) U (by show 4<=1000;decide))))))
theorem E4 (d:Pd P) (g:Good P S) (n:Named P S) {e:Nat} (F:e<P.n) (B:∀ i,i<P.m->S.T i e<=0) (w:S.G e<0):∃ way,mw P way/\j6 [.d (obD P S),.d (.int (e:Int))] []=some (.d (.tup (mpI P.n way)),[]):=by
 have W1:=Sx.way_gains g n d.hg F w;have R:∃ k,k<P.n/\Sx.wayN P S e k≠0:=by
  by_cases z:∃ k,k<P.n/\Sx.wayN P S e k≠0
  ·exact z
  ·rw[Sx.sumN_congr λk m=>by
    by_cases M:Sx.wayN P S e k=0
    ·rw[M,qbC]
    ·exact absurd ⟨k,m,M⟩ z,Sx.sumN_zero]at W1
   lia
 obtain⟨q,v,y,ew⟩:=Gx (d.okt g n) F B R;refine⟨_,⟨λk _=>qdZ (Sx.way_nonneg g B k) (by lia),λr l=>?_,?_⟩,ew⟩
 ·refine uO v ?_
  rw[rJ y,qa1];exact Sx.way_rows g n F B l
 ·refine Int.lt_of_mul_lt_mul_left (a:=q) ?_ (by lia)
  rw[rJ y,qa1];exact W1
end
end Own
set_option maxHeartbeats 1000000
namespace Own
open PySem L2
open Sx (Pb Tb Good Named Fe LV ZV piv lexP leastR leaveL sumN unit colV basis)
theorem GU (n:Nat) (f:Nat->Int):okT (.tup [.str "beyond",.tup (mpI n f)])=true:=by
 simp only[okT,uY,bH,iR,qil]
theorem FQ (n m:Nat) (p:Int) (f g:Nat->Int):okT (.tup [.str "most",.int p,.tup (mpI n f),.tup (mpI m g)])=true:=by
 simp only[okT,uY,bH,iR,qil]
def EV (P:Pb) (S:Tb) (x:D):Prop:=(∃ c,c<P.n/\S.G c<0/\(∀ i,i<P.m->S.T i c<=0)/\x=.tup [.int (c:Int),.non])\/(kj P S x/\(x=.non->∀ c,c<P.n->0<=S.G c))
section
variable {P:Pb}{S:Tb}
theorem Ap (d:Pd P) (g:Good P S) (n:Named P S):∃ x,EV P S x/\okT x=true/\bM [.d (obD P S)] []=some (.d x,[]):=by
 rcases E3 (d.okt g n) (d.kept n) with⟨c,m,hg,E,e⟩|⟨y,M,hn,e⟩
 ·exact⟨_,.inl ⟨c,m,hg,E,U⟩,U,e⟩
 ·refine⟨y,.inr ⟨M,hn⟩,?_,e⟩
  rcases M with rfl|⟨c,r,_,_,_,_,_,_,rfl⟩<;>rfl
theorem kq {st0:Sto}{a b c o:Option W}{x:D} (e:bM [.d (obD P S)] []=some (.d x,[])) (t:okT x=true):cY bM (aa (iV 3) ae) [a,b,c,some (.h (st0.length+2)),o] (stO st0 P S)=some (.d x,stO st0 P S):=
 mJ U (AA U) e t
def ox (P:Pb) (f:Nat) (S:Tb) (x:D):Prop:=
 (∃ S' k,mw P k/\∀ (st0:Sto) (a b c:Option W),bC gD e7 f [a,b,c,some (.h (st0.length+2)),Z x] (stO st0 P S)=some (.rt (.d (.tup [.str "beyond",.tup (mpI P.n k)])) (stO st0 P S')))\/
 ∃ S',Good P S'/\Named P S'/\Fe P S'/\(∀ c,c<P.n->0<=S'.G c)/\∀ (st0:Sto) (a b c:Option W),bC gD e7 f [a,b,c,some (.h (st0.length+2)),Z x] (stO st0 P S)=some (.nx [a,b,c,some (.h (st0.length+2)),Z .non] (stO st0 P S'))
theorem wl (d:Pd P):∀ (f:Nat) (V:List Nat) (S:Tb) (x:D),Good P S->Named P S->Fe P S->EV P S x->V.Nodup->(∀ v∈V,v<(P.n+P.m)^P.m)->(∀ v∈V,∃ S',Good P S'/\Named P S'/\Sx.code (P.n+P.m) S'.kept P.m=v/\Sx.less P S' S)->(P.n+P.m)^P.m<f+V.length->ox P f S x
 |0,V,S,x,_,_,_,_,w,hb,_,X=>by
  have:=Sx.nodup_le _ V w hb
  lia
 |f+1,V,S,x,hg,hn,I,t,w,hb,H,X=>by
  have h:=d.okt hg hn;rcases t with⟨c,m,A,E,rfl⟩|⟨t,B⟩
  ·obtain⟨k,z,Q⟩:=E4 d hg hn m E A
   refine .inl ⟨S,k,z,λst0 a b o=>?_⟩;refine F5 U (fQ (ck U (aD (Ek (ws:=[.d _,.d _]) (ab U (ab ?_ U)) U (by show 2<=1000;decide)))));refine mJ (ab U (ab (ac U U (i4 _ _ _)) U)) (AA U) Q ?_;exact zv _ _
  ·rcases t with rfl|⟨c,r,m,A,_,L,hT,s,rfl⟩
   ·exact .inr ⟨S,hg,hn,I,B U,λst0 a b o=>CT U⟩
   ·obtain⟨G,K,Y,J⟩:=Sx.step hg hn I m L hT A s
    obtain⟨y,sy,R,ey⟩:=Ap d G K;have j:∀ {S':Tb},Named P S'->∀ i,i<P.m->S'.kept i<P.n+P.m:=λp i hi=>p.bound.2 i hi;have q:∀ (st0:Sto) (a b o:Option W),e7 [a,b,o,some _,some _] _=some _:=λst0 a b o=>by
     have ed:d5 (av ef (aa (iV 3) (aa (iOp dIx (iV 4) (iC (.int 1))) (aa (iOp dIx (iV 4) (iC (.int 0))) ae)))) [a,b,o,some (.h (st0.length+2)),Z (.tup [.int (c),.int (r)])] (stO st0 P S)=some (.nx [a,b,o,some (.h (st0.length+2)),Z (.tup [.int (c),.int (r)])] (stO st0 P (piv S r c))):=by
      have:=ah (a:=aa (iV 3) (aa (iOp dIx (iV 4) (iC _)) (aa (iOp dIx (iV 4) (iC _)) ae))) (env:=[a,b,o,some _,some _]) (st:=stO st0 P S) (ab U (ab (ac U U (gK _ _ _)) (ab (ac U U (i4 _ _ _)) U))) (A1 h L m)
      simp only[d5,this,qap]
     exact ai (bh U U) (ai ed (aj (kq ey R)))
    rcases (wl d f _ _ y G K Y sy
     (qch.mpr ⟨λhm=>by
       obtain⟨S',u,p,F,C⟩:=H _ hm
       exact Sx.less_kept u hg C (Sx.code_inj (j p) (j hn) F),w⟩)
     (λv l=>by
       rcases qay.mp l with rfl|l
       ·exact Sx.code_lt (j hn)
       ·exact hb v l)
     (λv l=>by
       rcases qay.mp l with rfl|l
       ·exact⟨S,hg,hn,U,J⟩
       ·obtain⟨S',u,p,F,C⟩:=H v l
        exact⟨S',u,p,F,Sx.less_trans u.pos hg.pos G.pos C J⟩)
     (by rw[qaq];lia)) with⟨S',k,z,hw⟩|⟨S',N,O,fS,T,hw⟩
    ·exact .inl ⟨S',k,z,λst0 a b o=>zZ U (q st0 a b o) (hw st0 a b o)⟩
    ·exact .inr ⟨S',N,O,fS,T,λst0 a b o=>zZ U (q st0 a b o) (hw st0 a b o)⟩
end
def iu (m n:Nat) (R:Nat->Nat->Int) (b g:Nat->Int):Pb where
 m:=m
 n:=n
 A:=λk t=>if k<n then (if t<m then R t k else 0) else unit (k - n) t
 b:=λt=>if t<m then b t else 0
 g:=λk=>if k<n then g k else 0
def Cj (m n:Nat) (R:Nat->Nat->Int) (b g:Nat->Int):Tb:=Sx.tb0 (iu m n R b g) (λi c=>if c<n then R i c else b i) (λc=>if c<n then - g c else 0)
def lm (m n:Nat) (R:Nat->Nat->Int):D:=.tup ((qak m).map λi=>D.tup (mpI n (R i)))
structure Inp (m n:Nat) (R:Nat->Nat->Int) (b g:Nat->Int):Prop where
 m64:m<=64
 n64:n<=100
 R:∀ i c,i<m->c<n->(R i c).natAbs<=2^50
 b:∀ i,i<m->(b i).natAbs<=2^50/\0<=b i
 g:∀ c,c<n->(g c).natAbs<=2^50
section
variable {m n:Nat}{R:Nat->Nat->Int}{b g:Nat->Int}
theorem CK (h:Inp m n R b g):Pd (iu m n R b g) where
 bd:={
  m64:=h.m64
  n64:=h.n64
  A:=λk _ t e=>by
   show (if k<n then _ else unit _ t).natAbs<=_;by_cases j:k<n
   ·rw[iFP j,iFP (show t<m from e)];exact h.R t k e j
   ·rw[iFN j];exact Sx.unit_le _ _
  b:=λt e=>by
   show (if t<m then b t else 0).natAbs<=_;rw[iFP (show t<m from e)];exact (h.b t e).1
  g:=λk _=>by
   show (if k<n then g k else 0).natAbs<=_;by_cases j:k<n
   ·rw[iFP j];exact h.g k j
   ·rw[iFN j];exact qcE _ }
 hA:=λk j t e=>by
  have hk':k<n+m:=j;have ht':m<=t:=e;show (if k<n then _ else unit _ t)=0;by_cases z:k<n
  ·rw[iFP z,iFN (by lia)]
  ·rw[iFN z];unfold unit;rw[iFN (by lia)]
 hb:=λt e=>iFN (qhG.mpr e)
 hg:=λr _=>iFN (by show ¬ n+r<n;lia)
theorem A8 (h:Inp m n R b g):Good (iu m n R b g) (Cj m n R b g)/\Named (iu m n R b g) (Cj m n R b g)/\Fe (iu m n R b g) (Cj m n R b g):=by
 have d:=CK h
 have:=Sx.good0
  (λr _=>by
    funext t
    show (if n+r<n then _ else unit (n+r - n) t)=_
    rw[iFN (by lia),qaI])
  (λk j=>d.hA k (by lia)) d.hb d.hg
  (λi c hi F=>by
    show (if c<n then R i c else b i)=if c<n then _ else _
    rw[iFP (show c<n from F),iFP (show c<n from F),iFP (show i<m from hi)])
  (λi hi=>by
    show (if n<n then _ else b i)=if i<m then b i else 0
    rw[iFN (qa2 _),iFP (show i<m from hi)])
  (λc F=>by
    show (if c<n then - g c else 0)=- (if c<n then g c else 0)
    rw[iFP (show c<n from F),iFP (show c<n from F)])
  (by show (if n<n then _ else _)=0;rw[iFN (qa2 _)])
 refine⟨this.1,this.2.1,this.2.2 λt e=>?_⟩;show 0<=if t<m then b t else 0;rw[iFP (show t<m from e)];exact (h.b t e).2
theorem wm (f:Nat->Int) (x:Int):mpI n f++[.int x]=mpI (n+1) λc=>if c<n then f c else x:=by
 rw[nP,iFN (qa2 _)];rw[bD (g:=λc=>if c<n then f c else x) λk j=>by rw[iFP j]]
theorem Ae (lo:Nat) (m:Nat):bf (lo:Int) m=mpI m (nI λi=>lo+i):=by
 refine qci λk _=>?_;show D.int _=D.int (((lo+k:Nat)));rw[Int.natCast_add]
theorem FI {st0:Sto}{Q O:Option W} (h:Inp m n R b g):oV 4 4 bZ (aa (iV 0) (aa (iV 1) (aa (iV 2) ae))) [some (.d (lm m n R)),some (.d (.tup (mpI m b))),some (.d (.tup (mpI n g))),Q,O] st0=some (.h (st0.length+2),stO st0 (iu m n R b g) (Cj m n R b g)):=by
 have hm:=h.m64;have hn:=h.n64;generalize G:([none,some (.d (lm m n R)),some (.d (.tup (mpI m b))),some (.d (.tup (mpI n g)))]:Ev)=E;have v1:∀ s,iV 1 E s=some (.d (lm m n R),s):=λs=>by rw[<-G];rfl
 have v2:∀ s,iV 2 E s=some (.d (.tup (mpI m b)),s):=λs=>by rw[<-G];rfl
 have I:∀ s,iV 3 E s=some (.d (.tup (mpI n g)),s):=λs=>by rw[<-G];rfl
 have a:∀ s,iCB a8 (aa (iV 3) ae) E s=some (.d (.int (n:Int)),s):=λs=>by
  have:=aG (g:=a8) (d:=.int ((mpI n g).length:Nat)) (ab (b:=ae) (I s) U) U
  rw[aC]at this;exact this
 have o:∀ s,iCB a8 (aa (iV 1) ae) E s=some (.d (.int (m:Int)),s):=λs=>by
  have:=aG (g:=a8) (d:=.int (((qak m).map λi=>D.tup (mpI n (R i))).length:Nat)) (ab (b:=ae) (v1 s) U) U
  rw[qah,qat]at this;exact this
 have f2:aw (iLc 2 [] (fG (aa (iV 1) (aa (iV 2) ae))) (.tp [0,1]) aN gW) E st0=some (.d (.lst (aV m n λi c=>if c<n then R i c else b i)),st0):=by
  have X:fG (aa (iV 1) (aa (iV 2) ae)) E st0=some ((qak m).map λi=>D.tup [.tup (mpI n (R i)),.int (b i)],st0):=by
   have q:i5 ((qak m).map λi=>D.tup (mpI n (R i))) (mpI m b)=(qak m).map λi=>D.tup [.tup (mpI n (R i)),.int (b i)]:=by
    apply qbA;intro i;rw[fV,qaA,qaA];by_cases hi:i<m
    ·rw[bm hi,qa7 hi];rfl
    ·rw[qaC (l:=qak m) (by rw[qat];lia)];rfl
   rw[<-q]
   have:=ab (v1 st0) (ab (b:=ae) (v2 st0) U)
   simp only[fG,this,qaa];rfl
  refine aq (aM X (by rw[qah,qat];lia) ?_);refine zc (g:=λi=>(D.tup (mpI n (R i)),.int (b i))) (lnD n λi c=>if c<n then R i c else b i) λi hi=>?_;unfold lnD;rw[<-wm (R i) (b i)];exact ac (aq (show iCL sW (aa (iV 0) ae) _ _=some (mpI n (R i),_) from U)) (aq (show bO (aa (iV 1) ae) _ _=some ([.int (b i)],_) from U)) (dj _ (by rw[aC];show _+1<=_;lia))
 have f3:iOp bj (aw (iLc 1 [] (aB (iV 3)) (.nm 0) aN gX)) (aw (bO (aa (iC (.int 0)) ae))) E st0=some (.d (.lst (mpI (n+1) λc=>if c<n then - g c else 0)),st0):=by
  rw[<-wm (λc=>- g c) 0];refine ac (aq (aM (bx (I st0)) (by rw[aC];lia) (gG (g:=λk=>D.int (g k)) (λk=>D.int (- g k)) λk _=>rfl))) (aq (show bO (aa (iC (.int 0)) ae) E st0=some ([.int 0],st0) from U)) (dj _ ?_);rw[qah,qat];show _+1<=_;lia
 have V:cV (lA (aa (iCB a8 (aa (iV 3) ae)) ae)) E st0=some (.h st0.length,st0++[.l (mpI n (nI λc=>c))]):=by
  have:=ab (b:=ae) (a st0) U
  have q:lA (aa (iCB a8 (aa (iV 3) ae)) ae) E st0=some (mpI n (nI λc=>c),st0):=by
   simp only[lA,this,qaa];rw[iFP ⟨by lia,by lia⟩,qa6,show bf 0 n=bf ((0:Nat):Int) n from U,Ae];simp only[qbh]
  simp only[cV,q,qap]
 have f6:cV (qp (aa (iCB a8 (aa (iV 3) ae)) (aa (iOp bj (iCB a8 (aa (iV 3) ae)) (iCB a8 (aa (iV 1) ae))) ae))) E (st0++[.l (mpI n (nI λc=>c))])=some (.h (st0.length+1),st0++[.l (mpI n (nI λc=>c)),.l (mpI m (nI λi=>n+i))]):=by
  generalize hs:(st0++[C.l (mpI n (nI λc=>c))])=s1;have h2:iOp bj (iCB a8 (aa (iV 3) ae)) (iCB a8 (aa (iV 1) ae)) E s1=some (.d (.int ((n:Int)+(m:Int))),s1):=ac (a s1) (o s1) U
  have:=ab (a s1) (ab (b:=ae) h2 U)
  have q:qp (aa (iCB a8 (aa (iV 3) ae)) (aa (iOp bj (iCB a8 (aa (iV 3) ae)) (iCB a8 (aa (iV 1) ae))) ae)) E s1=some (mpI m (nI λi=>n+i),s1):=by
   simp only[qp,this,qaa];rw[iFP ⟨by lia,by lia,by lia,by lia⟩,show (((n:Int)+(m:Int)) - (n:Int)).toNat=m by lia,Ae]
  simp only[cV,q,qap];rw[<-hs,qaz]
  simp
 have w:qD bZ E st0=some (fsO n (aV m n λi c=>if c<n then R i c else b i) (mpI (n+1) λc=>if c<n then - g c else 0) 1 st0.length,st0++[.l (mpI n (nI λc=>c)),.l (mpI m (nI λi=>n+i))]):=by
  unfold bZ;simp only[qD,a st0,f2,f3,V,f6,qaa,qap,show iC (.int 1) E st0=some (.d (.int 1),st0) from U];rfl
 have ha:aa (iV 0) (aa (iV 1) (aa (iV 2) ae)) [some (.d (lm m n R)),some (.d (.tup (mpI m b))),some (.d (.tup (mpI n g))),Q,O] st0=some ([.d (lm m n R),.d (.tup (mpI m b)),.d (.tup (mpI n g))],st0):=rfl;simp only[oV,ha,qaa];show (qD bZ [none,some (.d (lm m n R)),some (.d (.tup (mpI m b))),some (.d (.tup (mpI n g)))] st0).map _=_;rw[G,w,qap];rw[qaz,qb1];rfl
inductive AI (P:Pb):D->Prop
 |most (p:Int) (am pr:Nat->Int):yq P p am pr->AI P (.tup [.str "most",.int p,.tup (mpI P.n am),.tup (mpI P.m pr)])
 |beyond (way:Nat->Int):mw P way->AI P (.tup [.str "beyond",.tup (mpI P.n way)])
theorem zO {m n:Nat} (hm:m<=64) (hn:n<=100):(n+m)^m<2^8000:=by
 have S:(n+m)^m<=(2^8)^m:=Nat.pow_le_pow_left (by lia) m;rw[<-qjJ]at S;exact qbF S (wF (by lia))
theorem Bq (h:Inp m n R b g):∃ x,AI (iu m n R b g) x/\okT x=true/\∀ st:Sto,∃ u,iN [.d (lm m n R),.d (.tup (mpI m b)),.d (.tup (mpI n g))] st=some (.d x,st++u):=by
 have d:=CK h;obtain⟨L,J,f1⟩:=A8 h;obtain⟨y,sy,K,M⟩:=Ap d L J;generalize hM:(lm m n R)=A at *;generalize hB:D.tup _=B at *;generalize hC:D.tup (mpI n g)=C at *;have N:∀ st0,aA (.nm 3) _ [Z A,Z B,Z C,none,none] st0=some _:=λst0=>by
  rw[<-hM,<-hB,<-hC];exact aj (FI h)
 rcases (wl d _ [] _ y L J f1 sy qc7 (λv H=>nomatch H) (λv H=>nomatch H) (by rw[qcj,qjw];exact zO h.m64 h.n64)) with⟨S',way,Y,hw⟩|⟨S',T,nS,fS,hS,hw⟩
 ·refine⟨_,.beyond way Y,GU _ _,λst0=>⟨_,au U (ai (N st0) (ai (aj (kq M K)) (fQ (hw st0 _ _ _))))⟩⟩
 ·obtain⟨p,am,pr,mi,em⟩:=Fa d T nS fS hS
  refine⟨_,.most p am pr mi,FQ _ _ _ _ _,λst0=>⟨_,au U (ai (N st0) (ai (aj (kq M K)) (ai (hw st0 _ _ _) (aD (mJ U (AA U) em (FQ _ _ _ _ _))))))⟩⟩
end
end Own
namespace Sx
def spR (N k:Nat) (V:Nat->Nat->Int) (r c:Nat):Int:=if r<N then (if c<k then - V r c else if c<k+k then V r (c - k) else if c - (k+k)=r then 1 else 0) else if c<k+k then 0 else if c - (k+k)=r - N then 1 else 0
def spB (N r:Nat):Int:=if r<N then 0 else 1
def spG (k c:Nat):Int:=if c<k+k then 0 else 1
section
variable {N k:Nat}{V:Nat->Nat->Int}{am pr:Nat->Int}{p:Int}
theorem sp_row {i:Nat} (hi:i<N):(sumN (k+k+N) λj=>am j*spR N k V i j)=am (k+k+i) - sumN k λt=>(am t - am (k+t))*V i t:=by
 rw[sumN_append,sumN_append];have m:(sumN k λj=>am j*spR N k V i j)=sumN k λt=>(-1)*(am t*V i t):=sumN_congr λt o=>by
  unfold spR;rw[iFP hi,iFP o,qf4];omega
 have s:(sumN k λj=>am _*spR N k V i (k+j))=sumN k λt=>am (k+t)*V i t:=sumN_congr λt o=>by
  unfold spR;rw[iFP hi,iFN (by omega),iFP (by omega),qaI]
 have H:(sumN N λj=>am (k+k+j)*spR N k V i (k+k+j))=am (k+k+i):=by
  rw[sumN_single hi λj w c=>by unfold spR;rw[iFP hi,iFN (by omega),iFN (by omega),qaI,iFN c,qa1]];unfold spR;rw[iFP hi,iFN (by omega),iFN (by omega),qaI,iFP U,qcX]
 have L:(sumN k λt=>(am t - am (k+t))*V i t)=(sumN k λt=>am t*V i t) - sumN k λt=>am (k+t)*V i t:=by
  rw[<-sumN_sub];exact sumN_congr λt _=>qf3 _ _ _
 rw[m,sumN_mul];omega
theorem sp_lim {i:Nat} (hi:i<N):(sumN (k+k+N) λj=>am j*spR N k V (N+i) j)=am (k+k+i):=by
 rw[sumN_append];have m:(sumN (k+k) λj=>am j*spR N k V (N+i) j)=0:=by
  rw[sumN_congr λj w=>by unfold spR;rw[iFN (by omega),iFP w,qa1],sumN_zero]
 have H:(sumN N λj=>am (k+k+j)*spR N k V (N+i) (k+k+j))=am (k+k+i):=by
  rw[sumN_single hi λj w c=>by unfold spR;rw[iFN (by omega),iFN (by omega),qaI,qaI,iFN c,qa1]];unfold spR;rw[iFN (by omega),iFN (by omega),qaI,qaI,iFP U,qcX]
 rw[m,H,qbV]
theorem sp_colA {t:Nat} (o:t<k):(sumN (N+N) λr=>spR N k V r t*pr r)=- sumN N λi=>V i t*pr i:=by
 rw[sumN_append];have m:(sumN N λr=>spR N k V r t*pr r)=sumN N λi=>(-1)*(V i t*pr i):=sumN_congr λr g=>by
  unfold spR;rw[iFP g,iFP o,qdI];omega
 have s:(sumN N λr=>spR N k V (N+r) t*pr (N+r))=0:=by
  rw[sumN_congr λj w=>by unfold spR;rw[iFN (by omega),iFP (by omega),qbC],sumN_zero]
 rw[m,sumN_mul];omega
theorem sp_colB {t:Nat} (o:t<k):(sumN (N+N) λr=>spR N k V r (k+t)*pr r)=sumN N λi=>V i t*pr i:=by
 rw[sumN_append];have s:(sumN N λr=>spR N k V (N+r) (k+t)*pr (N+r))=0:=by
  rw[sumN_congr λj w=>by unfold spR;rw[iFN (by omega),iFP (by omega),qbC],sumN_zero]
 rw [(sumN_congr λr g=>by
  unfold spR;rw[iFP g,iFN (by omega),iFP (by omega),qaI]),s,qeb]
theorem sp_colE {i:Nat} (hi:i<N):(sumN (N+N) λr=>spR N k V r (k+k+i)*pr r)=pr i+pr (N+i):=by
 rw[sumN_append];have m:(sumN N λr=>spR N k V r (k+k+i)*pr r)=pr i:=by
  rw[sumN_single hi λr g c=>by unfold spR;rw[iFP g,iFN (by omega),iFN (by omega),qaI,iFN (qbk c),qbC]];unfold spR;rw[iFP hi,iFN (by omega),iFN (by omega),qaI,iFP U,qcF]
 have s:(sumN N λr=>spR N k V (N+r) (k+k+i)*pr (N+r))=pr (N+i):=by
  rw[sumN_single hi λr g c=>by unfold spR;rw[iFN (by omega),iFN (by omega),qaI,qaI,iFN (qbk c),qbC]];unfold spR;rw[iFN (by omega),iFN (by omega),qaI,qaI,iFP U,qcF]
 rw[m,s]
theorem sum0 {n:Nat}{f:Nat->Int} (h:∀ i,i<n->0<=f i) (e:sumN n f=0):∀ i,i<n->f i=0:=by
 induction n with
 |zero=>exact λi hi=>absurd hi (qcV _)
 |succ n K=>
  have P:=sumN_nonneg (n:=n) λi hi=>h i (by omega);have O:=h n (by omega);rw[sumN]at e;intro i hi;rcases Nat.lt_succ_iff_lt_or_eq.mp hi with z|z
  ·exact K (λi hi=>h i (by omega)) (by omega) i z
  ·rw[z];omega
theorem split_core (p1:1<=p) (am0:∀ j,j<k+k+N->0<=am j) (pr0:∀ r,r<N+N->0<=pr r) (rows:∀ r,r<N+N->(sumN (k+k+N) λj=>am j*spR N k V r j)<=p*spB N r)
  (cols:∀ j,j<k+k+N->p*spG k j<=sumN (N+N) λr=>spR N k V r j*pr r) (same:(sumN (N+N) λr=>spB N r*pr r)=sumN (k+k+N) λj=>am j*spG k j) :
  (∀ t,t<k->(sumN N λi=>V i t*pr i)=0)/\∀ i,i<N->0<=(sumN k λt=>(am t - am (k+t))*V i t)/\((sumN k λt=>(am t - am (k+t))*V i t)=0↔pr i≠0):=by
 have u:∀ t,t<k->(sumN N λi=>V i t*pr i)=0:=λt o=>by
  have a:=cols t (by omega);have b:=cols (k+t) (by omega);rw[sp_colA o]at a;rw[sp_colB o]at b;unfold spG at a b;rw[iFP (by omega)]at a b;omega
 have y:∀ i,i<N->am (k+k+i)<=sumN k λt=>(am t - am (k+t))*V i t:=λi hi=>by
  have a:=rows i (by omega);rw[sp_row hi]at a;unfold spB at a;rw[iFP hi]at a;omega
 have I:∀ i,i<N->am _<=p:=λi hi=>by
  have a:=rows (N+i) (by omega);rw[sp_lim hi]at a;unfold spB at a;rw[iFN (by omega),qcX]at a;exact a
 have E:∀ i,i<N->p<=pr i+pr _:=λi hi=>by
  have a:=cols (k+k+i) (by omega);rw[sp_colE hi]at a;unfold spG at a;rw[iFN (by omega),qcX]at a;exact a
 have J:(sumN N λi=>pr (N+i))=sumN N λi=>am (k+k+i):=by
  have m:(sumN (N+N) λr=>spB N r*pr r)=sumN N λi=>pr (N+i):=by
   rw[sumN_append,sumN_congr λr g=>by unfold spB;rw[iFP g,qbC],sumN_zero,qbV];exact sumN_congr λr _=>by unfold spB;rw[iFN (by omega),qcF]
  have s:(sumN (k+k+N) λj=>am j*spG k j)=sumN N λi=>am (k+k+i):=by
   rw[sumN_append,sumN_congr λr g=>by unfold spG;rw[iFP g,qa1],sumN_zero,qbV];exact sumN_congr λr _=>by unfold spG;rw[iFN (by omega),qcX]
  rw[<-m,<-s];exact same
 have x:∀ i,i<N->0<=am (k+k+i):=λi hi=>am0 _ (by omega);have C:∀ i,i<N->0<=pr i:=λi hi=>pr0 _ (by omega);have D:∀ i,i<N->0<=pr (N+i):=λi hi=>pr0 _ (by omega);have v:=by
  refine sum0 (λi hi=>qef (C i hi) (qea (x i hi) (y i hi))) ?_;have m:(sumN N λi=>pr i*sumN k λt=>_*V i t)=sumN N λi=>sumN k λt=>(am t - am (k+t))*_:=sumN_congr λi _=>by
   rw[<-sumN_mul];exact sumN_congr λt _=>by rw[qaX _,qbo]
  rw[m,sumN_swap,sumN_congr λt o=>by rw[sumN_mul,u t o,qa1],sumN_zero]
 have B:∀ i,i<N->pr i*am (k+k+i)=0:=λi hi=>by
  have a:=qdP (y i hi) (C i hi);have b:=qef (C i hi) (x i hi);rw[v i hi]at a;omega
 have A:∀ i,i<N->pr (N+i)*(p - am (k+k+i))=0:=by
  refine sum0 (λi hi=>qef (D i hi) (by have:=I i hi;omega)) ?_;have a2:0<=sumN N λi=>am (k+k+i)*(pr (N+i) - p):=sumN_nonneg λi hi=>by
   have b:=qdP (E i hi) (x i hi);rw[qco,qaX (am _) (pr i),(B i hi)]at b;rw[qcG];omega
  have F:0<=sumN N λi=>pr (N+i)*(p - am (k+k+i)):=sumN_nonneg λi hi=>qef (D i hi) (by have:=I i hi;omega)
  rw [(sumN_congr λi _=>by
   rw[qcG,qaX (am _),qaX (am _) p]),sumN_sub,sumN_mul]at a2
  rw [(sumN_congr λi _=>by
   rw[qcG,qaX _ p]),sumN_sub,sumN_mul]at F ⊢
  rw[J]at F ⊢;omega
 refine⟨u,λi hi=>⟨qea (x i hi) (y i hi),λM G=>?_,λG=>?_⟩⟩
 ·have a:=y i hi
  have d:=E i hi;rcases qck.mp (A i hi) with q|q<;>omega
 ·rcases qck.mp (v i hi) with q|q
  ·exact absurd q G
  ·exact q
theorem split_most {l:Nat->Int} (w0:∀ j,j<k+k+N->0<=l j) (rows:∀ r,r<N+N->(sumN (k+k+N) λj=>l j*spR N k V r j)<=0) (gain:0<sumN (k+k+N) λj=>l j*spG k j):False:=by
 have s:(sumN (k+k+N) λj=>l j*spG k j)=0:=by
  rw[sumN_append,sumN_congr λr g=>by unfold spG;rw[iFP g,qa1],sumN_zero,qbV,sumN_congr λi hi=>?_,sumN_zero];have a:=rows (N+i) (by omega);rw[sp_lim hi]at a;have b:=w0 (k+k+i) (by omega);rw[show l _=0 by omega,qbC]
 omega
end
end Sx
set_option maxHeartbeats 1000000
namespace Own
open PySem L2
open Sx (Pb Tb Good Named Fe LV ZV piv lexP leastR leaveL sumN unit colV basis)
theorem cR {a:Af}{env:Ev}{st s:Sto}{ws:List W}{ds:List D} (h:a env st=some (ws,s)) (hd:sq ws=some ds) (b:ds.length<=1000:=by decide):be a env st=some (.d (.tup ds),s):=by
 simp only[be,h,hd,b,qaa,if_true]
theorem wG {a:Af}{env:Ev}{st s:Sto}{ws:List W}{ds:List D} (h:a env st=some (ws,s)) (hd:sq ws=some ds) (b:ds.length<=1000:=by decide):bO a env st=some (ds,s):=by
 simp only[bO,h,hd,b,qaa,if_true]
theorem FK (s:Sto) {a b:Int} (h:qc6 a b):a9 s (.d (.int a)) (.d (.int b))=some (.int (a*b)):=iFP h
theorem zn (s:Sto) {a b:Int} (h:0<b):f7 s (.d (.int a)) (.d (.int b))=some (.int (a%b)):=iFP h
theorem Dg (s:Sto) {a b:Int} (h:0<b/\b<1073741824):mM s (.d (.int a)) (.d (.int b))=some (.int (a / b)):=iFP h
theorem zP {st:Sto}{k:Int} (a:0<=k) (h:k<=60):eh [.d (.int k)] st=some (.d (.int (2^k.toNat)),st):=by
 obtain⟨b,f,c,o,rfl,rfl⟩:=bF (g:=.nm 2) (body:=fK) (λi env s=>∃ o,env=[Z (.int k),Z (.int (2^i)),o]/\s=st)
  ⟨none,U,U⟩ (λi d env s hd ⟨o,e,es⟩=>by
   subst e es;obtain⟨rfl,hi⟩:=mq hd;refine⟨_,[some _,some _,Z (.int i)],s,U,.inl ?_,_,U,U⟩
   exact aj (ac U U (FK _ (gv (by decide)))))
 rw[cT]at c;exact au U (gy (aj U) (gy (bn (dA U a (by lia) U) c) (aD U)))
theorem ya {j:Nat} (h:j<=20):(0:Int)<2^j/\(2:Int)^j<1073741824:=by
 have a:∀ m ,m<=20->2^m<=2^20:=λm hm=>qbs (by decide) hm;have c:=a j h;have b:0<2^j:=qf1 (by decide);lia
theorem Bx {st:Sto}{row k:Int} (a:0<=k) (b:k<=20):qU [.d (.int row),.d (.int k)] st=some (.d (.int (onI row k)),st):=by
 have h:=ya (j:=k.toNat) (by lia);exact au U (aD (ac (ac U (ah U (zP a (by lia))) (Dg _ ⟨h.1,h.2⟩)) U (zn _ (by decide))))
def aO (b:Bool) (t:List Int) (row:Int):Int:=if b=true then (if bL row t=(t.length:Int) then 1 else 0) else (if bL row t%2=1 then -1 else 1)
def aF (b:Bool):Str:=if b=true then "both" else "odd"
theorem xQ (b:Bool):(aF b==("both" : Str))=b:=by cases b<;>decide
theorem Az {st:Sto}{b:Bool}{t:List Int}{row:Int} (i:∀ k∈t,0<=k/\k<=20) (n:t.length<=1000):jq [.d (.str (aF b)),.d (ak t),.d (.int row)] st=some (.d (.int (aO b t row)),st):=by
 have a:lcI (.nm 0) aN dG [none,some _] _ st=some ((t.map D.int).map λd=>match d with|.int k=>.int (onI row k)|d=>d,st):=wb _ λd hd=>by
  obtain⟨k,j,rfl⟩:=qaF.mp hd;exact⟨_,U,ah U (Bx (i k j).1 (i k j).2)⟩
 have l:((t.map D.int).map λd=>match d with|.int k=>.int (onI row k)|d=>d)=(t.map (onI row)).map D.int:=by rw[qaO,qaO];rfl
 rw[l]at a;have c:=wN st (t.map (onI row));rw[mK]at c;have g:(t.map D.int).length<=1000000:=by rw[qah];lia
 have e:a8 st [.d (ak t)]=some (.int (t.length)):=by
  show some (D.int _)=_;rw[qah]
 have f:dEq st (.d (.str (aF b))) (.d (.str "both"))=some (.bl b):=by rw[E9,xQ]
 have m:aO b t row=if b=true then (if (bL row t==(t.length))=true then 1 else 0) else (if (bL row t%2==(1))=true then -1 else 1):=by simp only[aO,beq_iff_eq]
 rw[m];have first:∀ (tl:Sf) (r:Option Fl),tl [Z (.str (aF b)),Z (ak t),Z (.int row),Z (.int (bL row t))] st=r->ag (aA (.nm 3) (iCB sk (aa (aw (iLc 1 [2] (aB (iV 1)) (.nm 0) aN dG)) ae))) tl [Z (.str (aF b)),Z (ak t),Z (.int row),none] st=r:=λtl r h=>by
  have q:aA (.nm 3) (iCB sk (aa (aw (iLc 1 [2] (aB (iV 1)) _ aN dG)) ae)) [some _,some _,some _,none] st=some (.nx [Z (.str (aF b)),Z (ak t),some _,some _] st):=aj (aG (ab (aq (aM (bx U) g a)) U) c);simp only[ag,q,qaa,h]
 generalize aF b=kd at *;cases b with
 |true=>
  cases hq:(bL row t==_) with
  |true=>exact au U (first _ _ (wH (CS (ao U U f) (aD (n5 (ao U (aG U e) (by rw[cJ,hq])) U)))))
  |false=>exact au U (first _ _ (wH (CS (ao U U f) (aD (rB (ao U (aG U e) (by rw[cJ,hq])) U)))))
 |false=>
  cases hq:(bL row t%2==_) with
  |true=>exact au U (first _ _ (gy (CQ (ao U U f) U) (aD (n5 (ao (ac U U (zn _ (by decide))) U (by rw[cJ,hq])) U))))
  |false=>exact au U (first _ _ (gy (CQ (ao U U f) U) (aD (rB (ao (ac U U (zn _ (by decide))) U (by rw[cJ,hq])) U))))
theorem wP {st:Sto}{fs:List D} (f:fs.length<=1000):bY [.d (.tup fs)] st=some (.d (.tup ((bJ 0 fs).map D.int)),st):=by
 have a:lcI (.tp [0,1]) fB fm [none,none] (ce 0 fs) st=some (((ce 0 fs).filter B5).map Eo,st):=ig _ _ λd hd=>by
  obtain⟨i,hi⟩:=List.mem_iff_getElem?.mp hd;rw[dP]at hi;obtain⟨e,c,rfl⟩:=qad.mp hi;exact⟨_,U,by simp only[fB,B5,iV,iC,aE,oa,xn,mN,dC,qaa,qap,qbu,qbR,qhi,qhj,qbh],λ_=>by simp only[fm,Eo,iV,oa,qap,qbu,qhi,qhj,qbh]⟩
 rw[om]at a;have b:(ce 0 fs).length<=1000000:=by rw[kz];lia
 simp only[bY,kT,iV,ae,aa,iCB,aw,aL,iLc,bV,bi,uD,iy,f8,qaa,qap,qbu,qaw,qeE,qaq,qcj,qdT,qdS,qdM,qdV,qff,if_true,qbh,lg,a,b]
theorem B9 {st:Sto}{fs:List D}{j:Nat}{d:D} (hd:fs[j]?=some d) (a:fW d) (hn:d≠.non):fL [.d (.tup fs),.d (.int (j:Int))] st=some (.d (.int (sgD d)),st):=by
 have e:atI fs (j:Int)=some d:=db hd;rcases a with rfl|rfl|rfl
 ·exact absurd U hn
 ·simp only[fL,ko,iV,iC,iOp,aE,iUn,jl,aL,bi,xn,iy,dIx,dEq,nu,eqK,eqD,gI,qaa,qap,qbu,qbR,qaw,qeE,qaq,qcj,qdS,qdM,qdV,qgA,qff,if_true,if_false,qbm,qbh,lg,qgC,e,sgD,show ((0:Int)==1)=false by decide,show ¬ (0:Int)=1 by decide]
 ·simp only[fL,ko,iV,iC,iOp,aE,iUn,jl,aL,bi,xn,iy,dIx,dEq,nu,eqK,eqD,gI,qaa,qap,qbu,qbR,qaw,qeE,qaq,qcj,qdS,qdM,qdV,qgA,qff,if_true,qbh,lg,qgC,e,sgD,show ((1:Int)==1)=true by decide]
theorem Aj {d:D}:sgD d=1\/sgD d=-1:=by
 unfold sgD;split
 ·split
  ·exact .inl U
  ·exact .inr U
 ·exact .inl U
theorem yf {st:Sto}{fs:List D}{j:Nat}{d:D}{b:Bool}{t:List Int} (hd:fs[j]?=some d) (i:fW d) (hn:d≠.non) (g:∀ k∈t,0<=k/\k<=20) (f:t.length<=1000) :
  cQ [.d (.tup fs),.d (.str (aF b)),.d (ak t),.d (.int (j:Int))] st=some (.d (.int (sgD d*aO b t j)),st):=by
 have c:=B9 (st:=st) hd i hn;have a:=Az (st:=st) (b:=b) (row:=j) g f;have e:qc6 (sgD d) (aO b t j):=dM (by rcases Aj (d:=d) with h|h<;>(rw[h];decide));generalize aF b=kd at a ⊢;generalize ak t=tt at a ⊢;simp only[cQ,gP,iV,iOp,ae,aa,av,aL,bi,a9,qaa,qap,qbu,qbR,qaw,qeE,qaq,qcj,qdS,qdM,qdV,qgA,qff,if_true,qbh,qgC,c,a,e]
end Own
set_option maxHeartbeats 1000000
namespace Own
open PySem L2
open Sx (Pb Tb Good Named Fe LV ZV piv lexP leastR leaveL sumN unit colV basis)
theorem iT {α b:Type} (a:α) (F:α->b) (l:List α):l.map F=(qak l.length).map λi=>F (l.getD i a):=by
 apply qbA;intro i;rw[qaA,qaA];by_cases h:i<l.length
 ·rw[qa7 h,qam h,qap,qap,qaE,qam h];rfl
 ·rw[qaC (by lia),qaC (by rw[qat];lia)];rfl
theorem nQ {n l:Nat}{f h g:Nat->Int} (c:∀ i,i<n->g i=f i) (b:∀ i,i<l->g (n+i)=h i):mpI n f++mpI l h=mpI (n+l) g:=by
 apply qbA;intro i;by_cases q:i<n
 ·rw[qaD (by rw[aC];exact q),bm q,bm (by lia),c i q]
 ·rw[qaK (by rw[aC];lia),aC]
  by_cases a:i<n+l
  ·rw[bm (by lia),bm a,<-b _ (by lia),show n+_=i by lia]
  ·rw[qaC (by rw[aC];lia),qaC (by rw[aC];lia)]
theorem u5 (c:Int):∀ n,(qaH n [D.int c]).flatten=mpI n λ_=>c
 |0=>rfl
 |n+1=>by rw[nP,qgP,qg1,u5 c n];rfl
theorem kJ {α:Type}{te:Ef}{l:Ev}{st:Sto}{g:α->D} (F:α->D):∀ {ks:List α},(∀ k∈ks,te (Z (g k)::l) st=some (.d (F k),st))->lcI (.nm 0) aN te (none::l) (ks.map g) st=some (ks.map F,st)
 |[],_=>rfl
 |k::ks,h=>by
  rw[qaw];unfold lcI;rw[show eF _ _ _=some (some _::l) from U,qaa,show aN _ st=some (true,st) from U,qaa,(h k qag),qaa,(kJ F λx a=>h x (qaj _ a))];rfl
theorem vF (F:Nat->D) (n:Nat):ce 0 ((qak n).map F)=(qak n).map λi:Nat=>D.tup [.int ((i:Nat):Int),F i]:=by
 apply qbA;intro i;rw[dP,qaA,qaA];by_cases hi:i<n
 ·rw[qa7 hi,qap,qap,qap,qbh]
 ·rw[qaC (by rw[qat];lia)];rfl
structure Spl (fs:List D) (ts:List (List Int)):Prop where
 fl:fs.length<=32
 fv:∀ d∈fs,fW d
 tl:ts.length<=16
 tt:∀ t∈ts,(∀ k∈t,0<=k/\k<=20)/\t.length<=20
 nd:ts.Nodup
def nR (fs:List D):Nat:=(bJ 0 fs).length
def ke (fs:List D) (i:Nat):Int:=(bJ 0 fs).getD i 0
def spV (fs:List D) (b:Bool) (ts:List (List Int)) (i t:Nat):Int:=sgD (fs.getD (ke fs i).toNat .non)*aO b (ts.getD t []) (ke fs i)
def tsD (ts:List (List Int)):D:=.tup (ts.map ak)
section
variable {fs:List D}{b:Bool}{ts:List (List Int)}
theorem Spl.n (h:Spl fs ts):nR fs<=32:=qaT (pj fs 0) h.fl
theorem u7 (h:Spl fs ts) {j:Int} (l:j∈bJ 0 fs):∃ (m:Nat) (d:D),j=(m:Int)/\m<fs.length/\fs[m]?=some d/\fW d/\d≠.non/\fs.getD j.toNat .non=d:=by
 obtain⟨m,e,hm,hn⟩:=kP fs 0 l;rw[qbh]at e;have hd:=qam hm;refine⟨m,_,e,hm,hd,h.fv _ (qbQ hm),λq=>hn (by rw[hd,q]),?_⟩;rw[e,qa6,qaE,hd];rfl
theorem ub {st:Sto} (h:Spl fs ts):dw [.d (.tup fs),.d (.str (aF b)),.d (tsD ts)] st=some (.d (.lst ((qak (nR fs)).map λi=>D.lst (mpI ts.length (spV fs b ts i)))),st):=by
 have o:∀ j∈bJ 0 fs,lcI _ aN eK [none,some _,some _,Z _] _ st=some (ts.map λt=>D.int (sgD (fs.getD j.toNat .non)*aO b t j),st):=λj l=>by
  obtain⟨m,d,rfl,hm,hd,p,hn,hg⟩:=u7 h l;refine kJ (g:=ak) _ λt a=>?_;rw[hg];exact ah (ab U (ab U (ab U (ab U U)))) (yf hd p hn (h.tt t a).1 (by have:=(h.tt t a).2;lia))
 have n:lcI _ aN eL [none,some _,some _,some _] _ st=some ((bJ 0 fs).map λj=>D.lst _,st):=
  kJ _ λj l=>aq (aM (bx U) (by rw[qah];have:=h.tl;lia) (o j l))
 have e:((bJ 0 fs).map λj=>D.lst (ts.map λt=>D.int (sgD (fs.getD j.toNat .non)*aO b t j)))=(qak (nR fs)).map λi=>D.lst (mpI ts.length (spV fs b ts i)):=by
  rw[iT 0 _ _];refine qci λi _=>?_;rw[iT [] _ ts];rfl
 rw[e]at n;exact au U (aD (aq (aM (bx (ah U (wP (by have:=h.fl;lia)))) (by rw[qah];have:=h.n;unfold nR at this;lia) n)))
theorem zy {st:Sto}{i N:Nat} (hN:N<=100):jZ [.d (.int (i:Int)),.d (.int (N:Int))] st=some (.d (.lst (mpI N λj=>if j=i then 1 else 0)),st):=by
 exact au U (aD (aq (aM (dA U (by lia) (by lia) (by lia)) (by unfold bf;rw [qah,qat];lia) (gG (λj=>D.int _) λj _=>by
   have c:aE dEq (iV 0) (iV 1) [Z (.int (0+((j)))),Z (.int (i))] st=some (decide (j=i),st):=by
    have e:((0+((j)))==(i:Int))=decide (j=i):=by lia
    refine ao U U ?_;rw[cJ,e]
   by_cases q:j=i
   ·rw[iFP q];rw[decide_eq_true q]at c;exact n5 c U
   ·rw[iFN q];rw[decide_eq_false q]at c;exact rB c U))))
theorem Cr {st:Sto}{k:Nat}{f:Nat->Int} (r:k<=100):im [.d (.lst (mpI k f))] st=some (.d (.lst (mpI k f++mpI k λt=>- f t)),st):=by
 have n:lcI _ aN i9 [none] (mpI k f) st=some (mpI k λt=>- f t,st):=gG _ λt _=>rfl;exact au U (aD (ac (aq (U)) (aq (aM (aR U) (by rw[aC];lia) n)) (dj _ (by rw[aC,aC];lia))))
end
end Own
set_option maxHeartbeats 1000000
namespace Own
open PySem L2
open Sx (Pb Tb Good Named Fe LV ZV piv lexP leastR leaveL sumN unit colV basis)
theorem En {α:Type} (F:Nat->α) (n l:Nat):(qak n).map F++(qak l).map (λi=>F (n+i))=(qak (n+l)).map F:=by
 apply qbA;intro i;by_cases q:i<n
 ·rw[qaD (by rw[qah,qat];exact q),qaA,qaA,qa7 q,qa7 (by lia)]
 ·rw[qaK (by rw[qah,qat];lia),qaA,qaA,qah,qat]
  by_cases a:i<n+l
  ·rw[qa7 (by lia),qa7 a,qap,qap,show n+_=i by lia]
  ·rw[qaC (by rw[qat];lia),qaC (by rw[qat];lia)];rfl
theorem j8 (s:Sto) (c:Int) {n:Nat} (hn:n<1000):a9 s (.d (.tup [.int c])) (.d (.int (n:Int)))=some (.tup (mpI n λ_=>c)):=by
 show (if _ then some _ else none)=_;rw[iFP ⟨by simp,by show 1<=1000;decide,by lia,by lia⟩,qa6,u5]
theorem zp (s:Sto) (c:Int) {n:Nat} (hn:n<1000):a9 s (.d (.lst [.int c])) (.d (.int (n:Int)))=some (.lst (mpI n λ_=>c)):=by
 show (if _ then some _ else none)=_;rw[iFP ⟨by show 1<=1000;decide,by lia,by lia⟩,qa6,u5]
theorem CZ (s:Sto) (k:Nat):a9 s (.d (.int 2)) (.d (.int (k:Int)))=some (.int ((k+k:Nat):Int)):=by
 rw[bI s (dM (by decide)),show _*_=((k+k:Nat):Int) by lia]
section
variable {fs:List D}{b:Bool}{ts:List (List Int)}{N k:Nat}{V:Nat->Nat->Int}
theorem xD {st:Sto} (hN:N<=32) (v:k<=16):lcI (.tp [0,1]) aN jE [none,none,Z (.int (N:Int))] ((qak N).map λi:Nat=>D.tup [.int ((i:Nat):Int),.lst (mpI k (V i))]) st=some ((qak N).map λi=>D.lst (mpI (k+k+N) (Sx.spR N k V i)),st):=
 zc (g:=λi=>(D.int _,D.lst _)) _ λi hi=>by
  have q:=qaN.mp hi;have J:mpI k _++mpI k (λt=>- - V i t)=mpI _ (Sx.spR N k V i):=nQ (λt o=>by unfold Sx.spR;rw[iFP q,iFP o]) (λt o=>by unfold Sx.spR;rw[iFP q,iFN (by lia),iFP (by lia),qaI,Int.neg_neg]);have hw:=Cr (st:=st) (k:=k) (f:=λt=>- V i t) (by lia);rw[J]at hw;rw[<-(nQ (λt o=>rfl) (λj a=>by unfold Sx.spR;rw[iFP q,iFN (by lia),iFN (by lia),qaI]))];exact ac (ah (ab (aq (aM (aR U) (by rw[aC];lia) (gG _ λt _=>rfl))) U) hw) (ah (ab U (ab U U)) (zy (st:=st) (i:=i) (N:=N) (by lia))) (dj _ (by rw[aC,aC];lia))
theorem xS {st:Sto} (hN:N<=32) (v:ts.length<=16):lcI (.nm 0) aN gf [none,Z (tsD ts),Z (.int (N:Int))] (bf 0 N) st=some ((qak N).map λi=>D.lst (mpI (ts.length+ts.length+N) (Sx.spR N ts.length V (N+i))),st):=
 gG _ λi hi=>by
  have m:a8 st [.d (tsD ts)]=some (.int (ts.length)):=by
   show some (D.int _)=_;rw[qah]
  rw[<-(nQ (λt o=>by unfold Sx.spR;rw[iFN (by lia),iFP o]) (λj a=>by unfold Sx.spR;rw[iFN (by lia),iFN (by lia),qaI,qaI])),qbV];exact ac (ac (aq (U)) (ac U (aG (ab U U) m) (CZ st _)) (zp st 0 (by lia))) (ah (ab U (ab U U)) (zy (by lia))) (dj _ (by rw[aC,aC];lia))
theorem Ew (hN:N<=32) (v:k<=16) (B:∀ i t,(V i t).natAbs<=1):Inp (N+N) (k+k+N) (Sx.spR N k V) (Sx.spB N) (Sx.spG k):=by
 have one:∀ {z:Int},z.natAbs<=1->z.natAbs<=2^50:=λh=>qaT h (by decide);refine⟨by lia,by lia,λi c _ _=>one ?_,λi _=>⟨one ?_,?_⟩,λc _=>one ?_⟩
 ·unfold Sx.spR
  split
  ·split
   ·rw[qie];exact B _ _
   ·split
    ·exact B _ _
    ·split<;>decide
  ·split
   ·decide
   ·split<;>decide
 ·unfold Sx.spB;split<;>decide
 ·unfold Sx.spB;split<;>decide
 ·unfold Sx.spG;split<;>decide
structure EU (N k:Nat) (V:Nat->Nat->Int) (p:Int) (am pr:Nat->Int):Prop where
 bal:∀ t,t<k->(sumN N λi=>V i t*pr i)=0
 val:∀ i,i<N->0<=(sumN k λt=>(am t - am (k+t))*V i t)/\((sumN k λt=>(am t - am (k+t))*V i t)=0↔pr i≠0)
 sa:∀ j,j<k+k+N->Sm (am j)/\0<=am j
 sr:∀ i,i<N->Sm (pr i)/\0<=pr i
theorem Gf {x:D} (M:AI (iu (N+N) (k+k+N) (Sx.spR N k V) (Sx.spB N) (Sx.spG k)) x):∃ p am pr,EU N k V p am pr/\x=.tup [.str "most",.int p,.tup (mpI (k+k+N) am),.tup (mpI (N+N) pr)]:=by
 have w:∀ {r j:Nat},r<N+N->j<k+k+N->(iu _ _ _ (Sx.spB N) (Sx.spG k)).A j r=Sx.spR N k V r j:=λl a=>by
  show (if _<k+k+N then _ else _)=_;rw[iFP a,iFP l]
 have C:∀ {r:Nat},r<N+N->(iu _ (k+k+N) (Sx.spR N k V) _ (Sx.spG k)).b r=Sx.spB N r:=λl=>iFP l;have pg:∀ {j:Nat},j<k+k+N->(iu (N+N) _ (Sx.spR N k V) (Sx.spB N) _).g j=Sx.spG k j:=λa=>iFP a;cases M with
 |beyond s M=>
  exfalso
  refine Sx.split_most (V:=V) M.w0 (λr l=>?_) ?_
  ·have:=M.rows r l
   rw[Sx.sumN_congr (g:=λj=>s j*(iu _ _ _ _ _).A j r) λj a=>by rw[w l a]];exact this
  ·have:=M.gain
   rw[Sx.sumN_congr (g:=λj=>s j*(iu _ _ _ _ _).g j) λj a=>by rw[pg a]];exact this
 |most p am pr M=>
  have c:=Sx.split_core M.p1 M.am0 M.pr0 (λr l=>by
   have:=M.rows r l
   rw[C l]at this;rw[Sx.sumN_congr (g:=λj=>am j*(iu _ _ _ _ _).A j r) λj a=>by rw[w l a]];exact this) (λj a=>by
   have:=M.cols j a
   rw[pg a]at this;rw[Sx.sumN_congr (g:=λr=>(iu _ _ _ _ _).A j r*pr r) λr l=>by rw[w l a]];exact this) (by
   have:=M.same
   rw[Sx.sumN_congr (g:=λr=>(iu _ _ _ _ _).b r*pr r) λr l=>by rw[C l],Sx.sumN_congr (n:=k+k+N) (g:=λj=>am j*(iu _ _ _ _ _).g j) λj a=>by rw[pg a]]
   exact this)
  exact⟨p,am,pr,⟨c.1,c.2,λj a=>⟨M.sa j a,M.am0 j a⟩,λi hi=>⟨M.sr i (show i<N+N by lia),M.pr0 i (show i<N+N by lia)⟩⟩,U⟩
theorem Eu (i t:Nat):(spV fs b ts i t).natAbs<=1:=by
 unfold spV;rw[qdg];have G:(sgD (fs.getD (ke fs i).toNat .non)).natAbs<=1:=by rcases Aj with h|h<;>rw[h]<;>decide
 have H:(aO b (ts.getD t []) (ke fs i)).natAbs<=1:=by
  unfold aO;split<;>split<;>decide
 exact qaT (qdd G H) (by decide)
theorem FG (h:Spl fs ts) (hN:0<nR fs):∃ p am pr,EU (nR fs) ts.length (spV fs b ts) p am pr/\∀ (st:Sto) (F:Option W),∃ u,
  ag (aA (.nm 6) (aw (iLc 1 [2,4] (bz (aa (iV 4) ae)) (.nm 0) aN gf))) (aA (.nm 7) (av iN (aa (iCB f8 (aa (aw (iLc 1 [] (aB (iOp bj (iV 5) (iV 6))) (.nm 0) aN ge)) ae)) (aa (iOp bj (iOp a9 (be (aa (iC (.int 0)) ae)) (iV 4)) (iOp a9 (be (aa (iC (.int 1)) ae)) (iV 4))) (aa (iOp bj (iOp a9 (be (aa (iC (.int 0)) ae)) (iOp a9 (iC (.int 2)) (iCB a8 (aa (iV 2) ae)))) (iOp a9 (be (aa (iC (.int 1)) ae)) (iV 4))) ae)))))
   [Z (.tup fs),Z (.str (aF b)),Z (tsD ts),Z (.lst ((qak (nR fs)).map λi=>D.lst (mpI ts.length (spV fs b ts i)))),Z (.int (nR fs:Int)),Z (.lst ((qak (nR fs)).map λi=>D.lst (mpI (ts.length+ts.length+nR fs) (Sx.spR (nR fs) ts.length (spV fs b ts) i)))),none,F] st
   = some (.nx [Z (.tup fs),Z (.str (aF b)),Z (tsD ts),Z (.lst ((qak (nR fs)).map λi=>D.lst (mpI ts.length (spV fs b ts i)))),Z (.int (nR fs:Int)),Z (.lst ((qak (nR fs)).map λi=>D.lst (mpI (ts.length+ts.length+nR fs) (Sx.spR (nR fs) ts.length (spV fs b ts) i)))),Z (.lst ((qak (nR fs)).map λi=>D.lst (mpI (ts.length+ts.length+nR fs) (Sx.spR (nR fs) ts.length (spV fs b ts) (nR fs+i))))),Z (.tup [.str "most",.int p,.tup (mpI (ts.length+ts.length+nR fs) am),.tup (mpI (nR fs+nR fs) pr)])] (st++u)):=by
 have hn:=h.n;have v:=h.tl;obtain⟨x,M,_,I⟩:=Bq (Ew hn v Eu);obtain⟨p,am,pr,y,rfl⟩:=Gf M;refine⟨p,am,pr,y,λst F=>?_⟩;obtain⟨u,e⟩:=I st;refine⟨u,?_⟩;have m:a8 st [.d (tsD ts)]=some (.int (ts.length)):=by
  show some (D.int _)=_;rw[qah]
 have K:=xS (st:=st) (V:=spV fs b ts) hn v;have hb:mpI _ _++mpI (nR fs) _=mpI _ (Sx.spB (nR fs)):=nQ (λi hi=>by unfold Sx.spB;rw[iFP hi]) (λi hi=>by unfold Sx.spB;rw[iFN (by lia)]);have hg:mpI _ _++mpI (nR fs) _=mpI _ (Sx.spG ts.length):=nQ (λi hi=>by unfold Sx.spG;rw[iFP hi]) (λi hi=>by unfold Sx.spG;rw[iFN (by lia)]);have l:=En (λr=>D.lst (mpI (ts.length+ts.length+nR fs) (Sx.spR (nR fs) ts.length (spV fs b ts) r))) (nR fs) (nR fs);have o:lcI _ aN ge [none] _ st=some ((qak (nR fs+nR fs)).map λr=>D.tup _,st):=
  gG (g:=λr=>D.lst (mpI (ts.length+ts.length+nR fs) (Sx.spR (nR fs) ts.length (spV fs b ts) r))) _ λr _=>rfl
 generalize nR fs=N at *;generalize ts.length=k at *;generalize spV fs b ts=V at *;generalize ((qak N).map λi=>D.lst (mpI (k+k+N) (Sx.spR N k V i)))=L5 at *;generalize ((qak N).map λi=>D.lst _)=L6 at *;have E:L5.length+L6.length<=1000000:=by
  have:=congrArg qeV l
  rw[qaz,qah,qat]at this;lia
 refine ai (aj (aq (aM (dA (e:=iV 4) (z:=(N:Int)) U (by lia) (by lia) (by lia)) (by unfold bf;rw[qah,qat];lia) K))) (aj (ah (ab (aG (ab (aq (aM (aR (ac U U (dj _ E))) (by rw[qaz];exact E) ?_)) U) U) (ab (ac (ac U U (j8 st 0 (by lia))) (ac U U (j8 st 1 (by lia))) ((uq _ (by rw[aC,aC];lia)).trans (by rw[hb]))) (ab (ac (ac U (ac U (aG (ab U U) m) (CZ st _)) (j8 st 0 (by lia))) (ac U U (j8 st 1 (by lia))) ((uq _ (by rw[aC,aC];lia)).trans (by rw[hg]))) U))) e));rw[l];exact o
end
end Own
set_option maxHeartbeats 1000000
namespace Own
open PySem L2
open Sx (Pb Tb Good Named Fe LV ZV piv lexP leastR leaveL sumN unit colV basis)
theorem GM {ns:List Int} (h:∀ x∈ns,x=0):df 0 ns=0:=by
 have d:=λx b=>qcP.mpr ((dg 0 ns).2 x b)
 induction ns with
 |nil=>rfl
 |cons x ns c=>
  have b:=h x qag;subst b;exact c (λy a=>h y (qaj _ a)) (λy a=>qcP.mpr ((dg 0 ns).2 y a))
theorem Bn {n:Nat}{f:Nat->Int} (l:∀ i,i<n->Sm (f i)) (hn:n<=1000):∃ (q:Int) (g:Nat->Int),0<q/\(∀ i,i<n->f i=q*g i)/\∀ st:Sto,cZ [.d (.tup (mpI n f))] st=some (.d (.tup (mpI n g)),st):=by
 have hb:∀ x∈(qak n).map f,Sm x:=λx a=>by
  obtain⟨i,hi,rfl⟩:=qaF.mp a;exact l i (qaN.mp hi)
 have k:=λst=>vJ (st:=st) (λ_ _=>by rw[<-bH];exact bx U) hb;by_cases c:∀ x∈(qak n).map f,x=0
 ·refine⟨1,f,by decide,λi _=>(qcF _).symm,λst=>?_⟩
  have e:=k st;rw[GM c]at e;exact au U (ai (aj (ah U e)) (fQ (ck U U)))
 ·obtain⟨x,a,m⟩:∃ x∈(qak n).map f,x≠0:=by
   by_cases q:∃ x∈(qak n).map f,x≠0
   ·exact q
   ·exact absurd (λx a=>qcY λh=>q ⟨x,a,h⟩) c
  obtain⟨j,o⟩:=kB a m (hb x a);have gd:∀ i,i<n->_∣f i:=λi hi=>qcP.mpr ((dg 0 _).2 _ (qaF.mpr ⟨i,qaN.mpr hi,U⟩));generalize ((df 0 _):Int)=q at *;refine⟨q,_,j,λi hi=>(qdQ (gd i hi)).symm,λst=>?_⟩;have r:(q==(0))=false:=by lia
  have b:=qj (st:=st) (ns:=(qak n).map f) j o U;rw[<-bH,qaO,qaO]at b;have p:(mpI n f).length<=1000000:=by rw[aC];lia
  exact au U (ai (aj (ah U (k st))) (ai (bh (ao U U (by rw[cJ,r])) U) (aD (aG (ab (aq (aM (bx U) p b)) U) U))))
def rN (fs:List D) (i:Nat):Nat:=(ke fs i).toNat
section
variable {fs:List D}{b:Bool}{ts:List (List Int)}
theorem wO:∀ (r:List D) (i:Nat),(bJ i r).Nodup
 |[],_=>qc7
 |d::r,i=>by
  have B:=wO r (i+1);have w:∀ j∈bJ _ r,(i)≠j:=λj t=>by
   obtain⟨m,e,_,_⟩:=kP r (i+1) t;lia
  cases d<;>first|exact B|exact (qch.mpr ⟨λhm=>w _ hm U,B⟩)
theorem Ai {i:Nat} (hi:i<nR fs):ke fs i∈bJ 0 fs:=by
 unfold ke;rw[qaE,qam hi];exact qbQ hi
theorem pe (h:Spl fs ts) {i:Nat} (hi:i<nR fs):ke fs i=(rN fs i:Int)/\rN fs i<fs.length:=by
 obtain⟨m,d,e,hm,_⟩:=u7 h (Ai hi);unfold rN;rw[e];exact⟨U,hm⟩
theorem u6 (h:Spl fs ts) {i j:Nat} (hi:i<nR fs) (t:j<nR fs) (e:rN fs i=rN fs j):i=j:=by
 have p:ke fs i=ke fs j:=by rw[(pe h hi).1,(pe h t).1,e]
 unfold ke at p;rw[qaE,qaE,qam hi,qam t]at p;exact (qdL (wO fs 0)).mp p
theorem AB {st:Sto}{m:Nat}{y:Nat->Int} (h:Spl fs ts) (hm:m=nR fs\/m=0):dL [.d (.tup fs),.d (.tup (mpI m y))] st=some (.d (.tup (mpI fs.length λr=>acc (rN fs) y m r)),st):=by
 have C:=h.fl;have E:∀ (u f c:Option W) (s:Sto),bY [.d (.tup fs)] s=some (.d (.tup ((bJ 0 fs).map D.int)),s)->fG (aa (av bY (aa (iV 0) ae)) (aa (iV 1) ae)) [Z (.tup fs),Z (.tup (mpI m y)),u,f,c] s=some ((qak m).map λi=>D.tup [.int ((rN fs i:Nat):Int),.int (y i)],s):=λu f c s F=>by
  have p:i5 ((bJ 0 fs).map D.int) (mpI m y)=(qak m).map λi=>D.tup [.int ((rN fs i:Nat):Int),.int (y i)]:=by
   apply qbA;intro i;rw[fV,qaA,qaA];by_cases hi:i<m
   ·rw[bm hi,qa7 hi]
    have q:i<(bJ 0 fs).length:=by have:nR fs=(bJ 0 fs).length:=rfl;lia
    have e:=(pe h (show i<nR fs by lia)).1;unfold ke at e;rw[qaE,qam q]at e;rw[qam q,qap,qap,<-e];rfl
   ·rw[qaC (l:=mpI m y) (by rw[aC];lia),qaC (l:=qak m) (by rw[qat];lia)]
    cases (bJ 0 fs)[i]?<;>rfl
  rw[<-p]
  have:=ab (ah (a:=aa (iV 0) ae) (env:=[Z (.tup fs),Z (.tup (mpI m y)),u,f,c]) (st:=s) U F) (ab (a:=iV 1) (b:=ae) U U)
  simp only[fG,this,qaa];rfl
 obtain⟨z,H,A,⟨f,c,rfl⟩,rfl⟩:=bF (g:=.tp [3,4]) (body:=ie) (ds:=(qak m).map λi=>D.tup [.int ((rN fs i:Nat):Int),.int (y i)])
  (λi env s=>(∃ f c,env=[Z (.tup fs),Z (.tup (mpI m y)),some (.h st.length),f,c])/\s=st++[.l (mpI fs.length λr=>acc (rN fs) y i (0+r))])
  ⟨⟨_,_,U⟩,U⟩ (λi d env s hd ⟨⟨f,c,e⟩,es⟩=>by
   subst e es;obtain⟨hi,rfl⟩:=nM hd;refine⟨_,_,_,U,.inl ?_,⟨some (.d (.int ((rN fs i:Nat):Int))),Z (.int (y i)),U⟩,U⟩
   have:=sIx (k:=rN fs i) (env:=[Z (.tup fs),Z (.tup (mpI m y)),some (.h st.length),Z (.int ((rN fs i:Nat):Int)),Z (.int (y i))]) (v:=iV 4) (d:=.int (y i)) (st:=st) (xs:=mpI fs.length λr=>acc (rN fs) y i (0+r)) U (o:=iV 2) (i:=iV 3) U U (by rw[aC];exact ((pe h (show i<nR fs by lia)).2))
   rw[<-pw (d:=0) (N:=fs.length) (e:=rN fs) (y:=y) (i:=i) (by lia) λj t e=>by have:=u6 h (show j<nR fs by lia) (show i<nR fs by lia) e;lia]
   exact this)
 rw[qah,qat]at A;have x:=wP (st:=st++[.l (mpI fs.length λr=>acc (rN fs) y 0 (0+r))]) (fs:=fs) (by lia);have G:iCB f8 (aa (iV 2) ae) [Z (.tup fs),Z (.tup (mpI m y)),some (.h st.length),f,c] (st++[.l (mpI fs.length λr=>acc (rN fs) y m (0+r))])=some (.d (.tup (mpI fs.length λr=>acc (rN fs) y m (0+r))),st++[.l (mpI fs.length λr=>acc (rN fs) y m (0+r))]):=by
  refine aG (ab U U) ?_;show (lg (st++[.l (mpI fs.length λr=>acc (rN fs) y m (0+r))]) st.length).map _=_;rw[(dn st (mpI fs.length λr=>acc (rN fs) y m (0+r)))];rfl
 have:=fP (n:=5) (k:=2) (b:=jA) (ws:=[.d (.tup fs),.d (.tup (mpI m y))]) (st:=st) U (ai (aj (iP (st:=st) (aG (ab U U) U) (by lia) _ y 0)) (ai (bn (E _ _ _ _ x) A) (aD G)))
 rw[qcH]at this;simp only[qbh]at this;exact this
end
end Own
set_option maxHeartbeats 1000000
namespace Own
open PySem L2
open Sx (Pb Tb Good Named Fe LV ZV piv lexP leastR leaveL sumN unit colV basis)
theorem rP (k:List Int) (d:D) (r:List (List Int×D)) (t:List Int):vM ((k,d)::r) t=if k=t then some d else vM r t:=by
 unfold vM;by_cases e:k=t
 ·rw[qew (by simpa using e),iFP e];rfl
 ·rw[qex (by simpa using e),iFN e]
theorem AN (a:List (List Int×D)) (k:List Int):(a.any λp=>decide (p.1=k))=decide (k∈a.map qdc):=by
 induction a with
 |nil=>rfl
 |cons p r b=>
  rw[qcf,b];by_cases e:p.1=k
  ·simp[e]
  ·have:¬ k=p.1:=λz=>e z.symm
   simp[e,this]
theorem Aw (k:List Int) (d:D) (j:List Int):∀ a:List (List Int×D),k∉a.map qdc->vM (a++[(k,d)]) j=if j=k then some d else vM a j
 |[],_=>by
  show vM [(k,d)] j=_;rw[rP];by_cases e:k=j
  ·rw[iFP e,iFP e.symm]
  ·rw[iFN e,iFN (λz=>e z.symm)]
 |(c,d')::r,h=>by
  rw[qaw,qay,not_or]at h;rw[qdM,rP,rP,Aw k d j r h.2];by_cases b:c=j
  ·rw[iFP b,iFP b,iFN (λz=>h.1 (z.symm.trans b.symm))]
  ·rw[iFN b,iFN b]
theorem AZ (s:Sto) (a:Int):dNe s (.d (.int a)) (.d (.int 0))=some (.bl (decide (a≠0))):=by
 show some (D.bl (!(a==0)))=_;by_cases h:a=0<;>simp[h]
def aY (ks:List (List Int)) (X:List Int->Int):List Prt:=(ks.filter λt=>decide (X t≠0)).map λt=>(t,X t)
theorem yM {st:Sto}{kd:Str}{n:Nat}{a:List (List Int×D)}{X:List Int->Int} (hm:mgt st n=some a) (j:a.length<64) (q:∀ t∈a.map qdc,vM a t=some (.int (X t))) :
  io [.d (.str kd),.h n] st=some (.d (bA kd (aY (ax (a.map qdc)) X)),st):=by
 have m:(ax (a.map qdc)).length<=64:=by rw[(aI _).length_eq,qah];lia
 have i:∀ t∈ax _,xJ (iV 1) (iV 0) [Z (ak t),some (.h n)] st=some (.d (.int (X t)),st):=λt b=>by
  have p:=(λt b=>q t ((aI _).mem_iff.mp b)) t b;simp only[xJ,iV,ak,qbu,qbR,qap,qaa,hm,(bb t),p]
 have c:=ig (g:=.nm 0) (tt:=jf) (te:=ja) (env:=[none,some _]) (λd=>match d with|.tup ds=>(match aU ds with|some t=>decide (X t≠0)|none=>false)|_=>false) (λd=>match d with|.tup ds=>(match aU ds with|some t=>bP (t,X t)|none=>d)|d=>d) (ds:=(ax _).map ak) λd hd=>by
  obtain⟨t,b,rfl⟩:=qaF.mp hd;have f:=bb t;refine⟨_,U,?_,λ_=>?_⟩
  ·show _=some ((match aU _ with|some t=>decide _|none=>false),st)
   rw[f];exact ao (i t b) U (AZ _ _)
  ·show _=some (W.d (match aU _ with|some t=>bP (t,X t)|none=>ak t),st)
   rw[f];exact cR (ab U (ab (i t b) U)) U (by show 2<=1000;decide)
 have e:((((ax (a.map qdc)).map ak).filter (λd=>match d with|.tup ds=>(match aU ds with|some t=>decide (X t≠0)|none=>false)|_=>false)).map (λd=>match d with|.tup ds=>(match aU ds with|some t=>bP (t,X t)|none=>d)|d=>d))=(aY (ax (a.map qdc)) X).map bP:=by
  unfold aY;rw[qfS,qaO,qaO];have f:=bb
  congr 1
  ·funext t
   show (match aU _ with|some t=>bP (t,X t)|none=>ak t)=bP (t,X t)
   rw[f]
  ·refine qfn λt _=>?_
   show (match aU _ with|some t=>decide _|none=>false)=_
   rw[f]
 rw[e]at c;have k:kC (iV 1) [Z (.str kd),some (.h n)] st=some ((ax (a.map qdc)).map ak,st):=by
  simp only[kC,iV,qbu,qbR,qap,qaa,hm,j,if_true]
 have l:aB (aw (kC (iV 1))) [Z (.str kd),some (.h n)] st=some ((ax (a.map qdc)).map ak,st):=by
  simp only[aB,aw,k,qap,qaa]
 have o:((ax (a.map qdc)).map ak).length<=1000000:=by rw[qah];lia
 exact au U (aD (cR (ab U (ab (aG (ab (aq (aM l o c)) U) U) U)) U (by show 2<=1000;decide)))
theorem tE (st:Sto) (a:List (List Int×D)):mgt (st++[.m a]) st.length=some a:=by
 unfold mgt;rw[qaK (qao _),qfx];rfl
theorem nB {α:Type}{te:Ef}{l:Ev}{st:Sto}{g:α->D×D} (F:α->D):∀ {ks:List α},(∀ k∈ks,te (Z (g k).1::some (.d (g k).2)::l) st=some (.d (F k),st))->
  lcI (.tp [0,1]) aN te (none::none::l) (ks.map λk=>D.tup [(g k).1,(g k).2]) st=some (ks.map F,st)
 |[],_=>rfl
 |k::ks,h=>by
  rw[qaw];unfold lcI;rw[show eF _ _ _=some (some _::some _::l) from U,qaa,show aN _ st=some (true,st) from U,qaa,(h k qag),qaa,(nB F λx a=>h x (qaj _ a))];rfl
end Own
set_option maxHeartbeats 1000000
namespace Own
open PySem L2
open Sx (Pb Tb Good Named Fe LV ZV piv lexP leastR leaveL sumN unit colV basis)
def dvP (g:Int) (p:Prt):Prt:=(p.1,p.2 / g)
theorem x4 {st:Sto}{kd:Str}{ps:List Prt}{g:Int} (e:ps.length<=1000) (hg:∀ p∈ps,0<g/\Sm g):nJ [.d (bA kd ps),.d (.int g)] st=some (.d (bA kd (ps.map (dvP g))),st):=by
 have a:lcI (.tp [0,1]) aN mT [none,none,Z (.int g)] (ps.map bP) st=some ((ps.map (dvP g)).map bP,st):=by
  rw[qaO];exact nB (g:=λp:Prt=>(ak p.1,D.int p.2)) _ λp b=>cR (ab U (ab (ac U U (qi st (hg p b).1 (hg p b).2)) U)) U (by show 2<=1000;decide)
 have c:(ps.map bP).length<=1000000:=by rw[qah];lia
 exact au U (aD (cR (ab (ac U U (i4 _ _ _)) (ab (aG (ab (aq (aM (bx (ac U U (gK _ _ _))) c a)) U) U) U)) U (by show 2<=1000;decide)))
theorem ye {st:Sto}{kd:Str}{ps:List Prt} (e:ps.length<=1000) (hn:∀ p∈ps,p.2≠0/\Sm p.2):nK [.d (bA kd ps)] st=some (.d (bA kd (ps.map (dvP ((df 0 (ps.map qfL):Nat):Int)))),st):=by
 have b:lcI (.tp [0,1]) aN mU [none,none] (ps.map bP) st=some ((ps.map qfL).map D.int,st):=by
  rw[qaO];exact nB (g:=λp:Prt=>(ak p.1,D.int p.2)) _ λp a=>rfl
 have c:(ps.map bP).length<=1000000:=by rw[qah];lia
 exact au U (aD (ah (ab U (ab (ah (ab (aq (aM (bx (ac U U (gK _ _ _))) c b)) U) (mY (st:=st) λn hm=>by
  obtain⟨p,a,rfl⟩:=qaF.mp hm
  exact (hn p a).2)) U)) (x4 (st:=st) (kd:=kd) e λp a=>kB (qdW a) (hn p a).1 (hn p a).2)))
theorem Bs {ks:List (List Int)}{X:List Int->Int}{g:Int} (hd:∀ t∈ks,g∣X t):(aY ks X).map (dvP g)=aY ks λt=>X t / g:=by
 unfold aY;rw[qaO]
 have:(ks.filter λt=>decide (X t≠0))=ks.filter λt=>decide (X t / g≠0):=qfn λt a=>by
  apply decide_eq_decide.mpr;refine not_congr ⟨λh=>by rw[h,Int.zero_ediv],λh=>by rw[<-(qdQ (hd t a)),h,qa1]⟩
 rw[this];rfl
def pkv (ts:List (List Int)) (x:Nat->Int) (i:Nat):List (List Int×D):=(qak i).map λj=>(ts.getD j [],.int (x j))
section
variable {ts:List (List Int)}{x:Nat->Int}
theorem sI (hn:ts.Nodup) {i j:Nat} (hi:i<ts.length) (f:j<ts.length) (e:ts.getD i []=ts.getD j []):i=j:=by
 rw[qaE,qaE,qam hi,qam f]at e;exact (qdL hn).mp e
theorem wC (i:Nat):(pkv ts x i).map qdc=(qak i).map λj=>ts.getD j []:=by unfold pkv;rw[qaO];rfl
theorem wB:(pkv ts x ts.length).map qdc=ts:=by
 have:=iT [] id ts
 rw[qg0]at this;rw[wC];exact this.symm
theorem zL (hn:ts.Nodup) {i:Nat} (hi:i<ts.length):ts.getD i []∉(pkv ts x i).map qdc:=λh=>by
 rw[wC]at h;obtain⟨j,f,e⟩:=qaF.mp h;have M:=qaN.mp f
 have:=sI hn (show j<ts.length by lia) hi e
 lia
theorem tX (i:Nat):pkv ts x (i+1)=pkv ts x i++[(ts.getD i [],.int (x i))]:=by unfold pkv;rw[qdU,qbv];rfl
theorem BM (hn:ts.Nodup) {i:Nat} (hi:i<ts.length):zV (pkv ts x i) (ts.getD i []) (.int (x i))=pkv ts x (i+1):=by
 rw[tX];unfold zV;rw[AN,iFN (by rw[decide_eq_true_iff];exact (zL hn hi))]
theorem zM (hn:ts.Nodup):∀ {i j:Nat},i<=ts.length->j<i->vM (pkv ts x i) (ts.getD j [])=some (.int (x j))
 |0,_,_,f=>absurd f (qcV _)
 |i+1,j,hi,f=>by
  rw[tX,Aw _ _ _ _ (zL hn (by lia))];by_cases e:j=i
  ·subst e;rw[iFP U]
  ·rw[iFN (λq=>e (sI hn (by lia) (by lia) q)),zM hn (by lia) (by lia)]
def gw (ts:List (List Int)) (x:Nat->Int) (t:List Int):Int:=match vM (pkv ts x ts.length) t with|some (.int z)=>z|_=>0
theorem Bu (hn:ts.Nodup) {j:Nat} (f:j<ts.length):gw ts x (ts.getD j [])=x j:=by
 unfold gw;rw[zM hn (qao _) f]
theorem j7 {t:List Int} (h:t∈ts):∃ j,j<ts.length/\ts.getD j []=t:=by
 obtain⟨j,f,e⟩:=qc1.mp h;exact⟨j,f,by rw[qaE,qam f];exact e⟩
theorem FX {st:Sto}{m i:Nat}{am:Nat->Int}{a0:Option W} (hn:ts.Nodup) (L:ts.length<=16) (hm:ts.length+ts.length<=m) (hi:i<ts.length) :
  eS [a0,Z (tsD ts),Z (.tup (mpI m am)),some (.h st.length),Z (.int (i:Int)),Z (ak (ts.getD i []))] (st++[.m (pkv ts (λj=>am j - am (ts.length+j)) i)])
  = some (.nx [a0,Z (tsD ts),Z (.tup (mpI m am)),some (.h st.length),Z (.int (i:Int)),Z (ak (ts.getD i []))] (st++[.m (pkv ts (λj=>am j - am (ts.length+j)) (i+1))])):=by
 have w:=tE st (pkv ts (λj=>am j - am (ts.length+j)) i);have e3:=BM (x:=λj=>am j - am (ts.length+j)) hn hi;have P:=og st (.m (pkv ts (λj=>am j - am (ts.length+j)) i)) (.m (pkv ts (λj=>am j - am (ts.length+j)) (i+1)));have R:(pkv ts (λj=>am j - am (ts.length+j)) i).length<1000:=by unfold pkv;rw[qah,qat];lia
 have v:∀ s ,a8 s [.d (tsD ts)]=some _:=λs=>by
  show some (D.int _)=_;rw[qah]
 have Y:∀ s ,dIx s (.d (.tup (mpI m am))) (.d (.int (i)))=some _:=λs=>db (bm (by lia));have V:∀ s ,dIx s (.d (.tup (mpI m am))) (.d (.int ((ts.length)+(i))))=some _:=λs=>by
  exact db (bm (by lia))
 generalize pkv ts _ i=K at *;generalize tsD ts=tD at *;generalize mpI m am=A at *;generalize ts.getD i []=t at *;have O:=ac (g:=jC) (env:=[a0,some _,some _,some (.h st.length),some _,Z (ak t)]) (st:=st++[.m K]) (ac (a:=iV 2) (b:=iV 4) U U (Y _)) (ac (a:=iV 2) (b:=iOp bj (iCB a8 (aa (iV 1) ae)) (iV 4)) U (ac (aG (ab U U) (v _)) U U) (V _)) U;simp only[ak]at O ⊢;simp only[eS,vK,O,iV,qbu,qbR,qap,qaa,(bb _),w,R,if_true,e3,P]
theorem DZ {b:Bool}{am:Nat->Int}{m:Nat} (hn:ts.Nodup) (L:ts.length<=16) (hm:ts.length+ts.length<=m) (I:∀ j,j<ts.length+ts.length->Sm (am j)/\0<=am j) :
  ∃ (q:Int) (X:List Int->Int),0<q/\(∀ j,j<ts.length->am j - am (ts.length+j)=q*X (ts.getD j []))/\∀ st:Sto,iO [.d (.str (aF b)),.d (tsD ts),.d (.tup (mpI m am))] st=some (.d (bA (aF b) (aY (ax ts) X)),st):=by
 have y:∀ j,j<ts.length->gw ts (λj=>am j - am (ts.length+j)) (ts.getD j [])=am j - am (ts.length+j):=λj f=>Bu (x:=λj=>am j - am (ts.length+j)) hn f;have o:∀ p∈aY (ax ts) (gw ts λj=>am j - am (ts.length+j)),p.2≠0/\Sm p.2:=λp u=>by
  unfold aY at u;obtain⟨t,r,rfl⟩:=qaF.mp u;obtain⟨M,T⟩:=qbO.mp r;refine⟨of_decide_eq_true T,?_⟩;obtain⟨j,f,rfl⟩:=j7 ((aI _).mem_iff.mp M);show Sm (gw ts _ (ts.getD j []));rw[y j f];have a:=I j (by lia);have c:=I (ts.length+j) (by lia);unfold Sm at *;generalize (2:Nat)^4000=B at *;lia
 have E:(aY (ax ts) (gw ts λj=>am j - am (ts.length+j))).length<=1000:=by
  unfold aY;rw[qah]
  have:=qb6 (λt=>decide (gw ts (λj=>am j - am (ts.length+j)) t≠0)) (ax ts)
  rw[(aI _).length_eq]at this;lia
 have l:∀ st:Sto,iO [.d (.str (aF b)),.d (tsD ts),.d (.tup (mpI m am))] st=some (.d (bA (aF b) ((aY (ax ts) (gw ts λj=>am j - am (ts.length+j))).map (dvP ((df 0 ((aY (ax ts) (gw ts λj=>am j - am (ts.length+j))).map qfL):Nat):Int)))),st):=λst=>by
  have J:=yM (st:=st++[.m (pkv ts (λj=>am j - am (ts.length+j)) ts.length)]) (kd:=aF b) (X:=gw ts λj=>am j - am (ts.length+j)) (tE st _) (by unfold pkv;rw [qah,qat];lia) (λt r=>by
   rw[wB]at r;obtain⟨j,f,rfl⟩:=j7 r;rw[y j f]
   exact zM (x:=λj=>am j - am (ts.length+j)) hn (qao _) f)
  rw[wB]at J;have G:=ye (st:=st++[.m (pkv ts (λj=>am j - am (ts.length+j)) ts.length)]) (kd:=aF b) E o;obtain⟨H,s2,w,⟨F,C,rfl⟩,rfl⟩:=bF (g:=.tp [4,5]) (body:=eS) (ds:=(qak ts.length).map λi:Nat=>D.tup [.int ((i:Nat):Int),ak (ts.getD i [])])
   (λi env s=>(∃ F C,env=[Z (.str (aF b)),Z (tsD ts),Z (.tup (mpI m am)),some (.h st.length),F,C])/\s=st++[.m (pkv ts (λj=>am j - am (ts.length+j)) i)])
   (env:=[Z (.str (aF b)),Z (tsD ts),Z (.tup (mpI m am)),some (.h st.length),none,none]) ⟨⟨_,_,U⟩,U⟩ (λi d env s hd ⟨⟨F,C,e⟩,es⟩=>by
    subst e es;obtain⟨hi,rfl⟩:=nM hd
    exact⟨_,_,_,U,.inl (FX hn L hm hi),⟨_,_,U⟩,U⟩)
  rw[qah,qat]at w;have S:bV (aa (iV 1) ae) [Z (.str (aF b)),Z (tsD ts),Z (.tup (mpI m am)),some (.h st.length),none,none] (st++[.m []])=some ((qak ts.length).map λi:Nat=>D.tup [.int ((i:Nat):Int),ak (ts.getD i [])],st++[.m []]):=by
   rw[<-vF (λi=>ak (ts.getD i [])),<-iT [] ak ts];rfl
  generalize aY (ax ts) (gw ts λj=>am j - am (ts.length+j))=ps at *;generalize pkv ts (λj=>am j - am (ts.length+j)) ts.length=K at *
  have:=fP (n:=6) (k:=3) (b:=oN) (ws:=[.d (.str (aF b)),.d (tsD ts),.d (.tup (mpI m am))]) (st:=st) U (ai U (ai (bn S w) (aD (ah (ab (ah U J) U) G))))
  rw[qcH]at this;exact this
 by_cases N:aY (ax ts) (gw ts λj=>am j - am (ts.length+j))=[]
 ·refine⟨1,gw ts λj=>am j - am (ts.length+j),by decide,λj f=>by rw[y j f,qcF],λst=>?_⟩
  rw[l st,N];rfl
 ·obtain⟨p,u⟩:=List.exists_mem_of_ne_nil _ N
  have Q:=(kB (qdW u) (o p u).1 (o p u).2).1;have hd:∀ t∈ax ts,((df 0 ((aY (ax ts) (gw ts λj=>am j - am (ts.length+j))).map qfL):Nat):Int)∣gw ts (λj=>am j - am (ts.length+j)) t:=λt r=>by
   by_cases z:gw ts (λj=>am j - am (ts.length+j)) t=0
   ·rw[z];exact Int.dvd_zero _
   ·refine qcP.mpr ((dg 0 _).2 _ (qaF.mpr ⟨(t,gw ts (λj=>am j - am (ts.length+j)) t),?_,U⟩))
    unfold aY;exact qaF.mpr ⟨t,qbO.mpr ⟨r,decide_eq_true z⟩,U⟩
  generalize ((df 0 ((aY (ax ts) (gw ts λj=>am j - am (ts.length+j))).map qfL):Nat):Int)=q at *;refine⟨q,λt=>gw ts (λj=>am j - am (ts.length+j)) t / q,Q,λj f=>?_,λst=>by rw[l st,(Bs hd)]⟩
  have:=hd (ts.getD j []) ((aI _).mem_iff.mpr (by rw[qaE,qam f];exact qbQ f))
  rw[qdQ this,y j f]
end
end Own
set_option maxHeartbeats 1000000
namespace Own
open PySem L2
open Sx (Pb Tb Good Named Fe LV ZV piv lexP leastR leaveL sumN unit colV basis)
theorem GF (ds:List D) (k:Nat):mL ds none (some (k:Int))=ds.take k:=by
 unfold mL;rw[HT.sIx_nat,HT.sIx_none,qhZ,qju];rcases Nat.le_total k ds.length with h|h
 ·rw[Nat.min_eq_left h]
 ·rw[Nat.min_eq_right h,qde,qdx h]
theorem Br {n k:Nat}{f:Nat->Int} (h:k<=n):(mpI n f).take k=mpI k f:=by
 apply qbA;intro i;by_cases hi:i<k
 ·rw[qej hi,bm (by lia),bm hi]
 ·rw[qaC (by rw[qdf];lia),qaC (by rw[aC];lia)]
theorem F4 {a b c:Sf}{env e:Ev}{st s:Sto}{r:Option Fl} (h:ag a b env st=some (.nx e s)) (d:c e s=r):ag a (ag b c) env st=r:=by
 simp only[ag]at h ⊢;cases ha:a env st with
 |none=>rw[ha]at h;cases h
 |some x=>
  rw[ha,qaa]at h;rw[qaa];cases x with
  |nx f s1=>simp only at h ⊢;rw[h];exact d
  |_=>cases h
theorem yr {e:Nat->Nat}{y:Nat->Int}{m i:Nat} (hi:i<m) (h:∀ j,j<m->e j=e i->j=i):acc e y m (e i)=y i:=by
 unfold acc;rw[Sx.sumN_single hi λj a q=>iFN λz=>q (h j a z),iFP U]
structure kl (fs:List D) (b:Bool) (ts:List (List Int)) (X:List Int->Int) (w:Nat->Int):Prop where
 bal:∀ t,t<ts.length->(sumN (nR fs) λi=>spV fs b ts i t*w (rN fs i))=0
 val:∀ i,i<nR fs->0<=(sumN ts.length λt=>X (ts.getD t [])*spV fs b ts i t)/\((sumN ts.length λt=>X (ts.getD t [])*spV fs b ts i t)=0↔w (rN fs i)≠0)
 w0:∀ r,r<fs.length->0<=w r/\Sm (w r)
 wn:∀ r,r<fs.length->fs.getD r .non=.non->w r=0
 sX:∀ t∈ts,Sm (X t)
theorem CV {q x y:Int} (a:0<q) (e:x=q*y) (h:Sm x):Sm y:=by
 refine qbF ?_ h;rw[e,qdg];exact Nat.le_mul_of_pos_left _ (by lia)
section
variable {fs:List D}{b:Bool}{ts:List (List Int)}
theorem Ex (h:Spl fs ts) {r:Nat} (e:fs.getD r .non=.non) {i:Nat} (hi:i<nR fs):rN fs i≠r:=λz=>by
 obtain⟨m,d,e1,_,_,_,hn,hg⟩:=u7 h (Ai hi);unfold rN at z;rw[z]at hg;exact hn (hg.symm.trans e)
theorem C6 (h:Spl fs ts) {y:Nat->Int} (hy:∀ i,i<nR fs->Sm (y i)/\0<=y i) (r:Nat):Sm (acc (rN fs) y (nR fs) r)/\0<=acc (rN fs) y (nR fs) r:=by
 by_cases q:∃ i,i<nR fs/\rN fs i=r
 ·obtain⟨i,hi,rfl⟩:=q
  rw[yr hi λj g z=>u6 h g hi z];exact hy i hi
 ·rw[mz λj g z=>q ⟨j,g,z⟩]
  exact⟨qf0 _,qb3 _⟩
theorem Am (h:Spl fs ts):∃ X w,kl fs b ts X w/\∀ st:Sto,∃ u,jp [.d (.tup fs),.d (.str (aF b)),.d (tsD ts)] st=some (.d (.tup [bA (aF b) (aY (ax ts) X),.tup (mpI fs.length w)]),st++u):=by
 have o:∀ s:Sto,a8 s [.d (.lst ((qak (nR fs)).map λi=>D.lst (mpI ts.length (spV fs b ts i))))]=some (.int (nR fs:Int)):=λs=>by
  show some (D.int _)=_;rw[qah,qat]
 by_cases hN:nR fs=0
 ·refine⟨λ_=>0,λr=>acc (rN fs) (λ_=>0) 0 r,⟨λt _=>?_,λi hi=>absurd hi (by lia),λr _=>⟨qb3 _,qf0 _⟩,λ_ _ _=>rfl,λ_ _=>qf0 _⟩,λst=>⟨[],?_⟩⟩
  ·rw[hN];rfl
  have K:=ub (st:=st) (b:=b) h;have hw:=AB (st:=st) (m:=0) (y:=λ_=>0) h (.inr U);have M:aY (ax ts) (λ_=>0)=[]:=by
   unfold aY;rw[qgB.mpr λt _=>by simp];rfl
  have J:_=some (D.int 0):=(o st).trans (by rw[hN];rfl);rw[M,qbl];generalize tsD ts=H at *;generalize aF b=kd at *;exact au (n:=8) (k:=3) (b:=ji) U (ai (aj (ah U K)) (ai (aj (aG (ab U U) J)) (fQ (ck (s:=st) U (aD (cR (ab (cR (ds:=[.str kd,.tup []]) U U (by show 2<=1000;decide)) (ab (ah (ab U (ab U U)) hw) U)) U (by show 2<=1000;decide)))))))
 ·obtain⟨p,am,pr,S,Q⟩:=FG (b:=b) h (by lia)
  have hn:=h.n;obtain⟨q,X,q0,T,hp⟩:=DZ (b:=b) (m:=ts.length+ts.length+nR fs) (am:=am) h.nd h.tl (by lia) λj g=>S.sa j (by lia);have x:=C6 h (y:=pr) λi hi=>S.sr i hi;obtain⟨Y,w,C,l,E⟩:=Bn (n:=fs.length) (f:=λr=>acc (rN fs) pr (nR fs) r) (λr _=>(x r).1) (by have:=h.fl;lia);have G:∀ i,i<nR fs->pr i=Y*w (rN fs i):=λi hi=>by
   rw[<-l _ (pe h hi).2,yr hi λj g z=>u6 h g hi z]
  refine⟨X,w,⟨λt F=>?_,λi hi=>?_,λr I=>⟨?_,CV C (l r I) (x r).1⟩,λr I e=>?_,λt F=>?_⟩,λst=>?_⟩
  ·have e:=S.bal t F
   rw[Sx.sumN_congr λi hi=>by rw[G i hi,qaS],Sx.sumN_mul]at e;exact (qck.mp e).resolve_left (by lia)
  ·have e:=S.val i hi
   rw[Sx.sumN_congr λt F=>by rw[T t F,qbo],Sx.sumN_mul,G i hi]at e;generalize (sumN ts.length λt=>X (ts.getD t [])*spV fs b ts i t)=v at *;refine⟨?_,?_⟩
   ·have:=e.1
    by_cases z:0<=v
    ·exact z
    ·have:=qgk q0 (show v<0 by lia)
     lia
   ·have W:=e.2
    rw[qck,ne_eq,qck]at W;have n1:¬ q=0:=by lia
    have n2:¬ Y=0:=by lia
    simpa [n1,n2] using W
  ·have e:=(x r).2
   rw[l r I]at e;by_cases z:0<=w r
   ·exact z
   ·have:=qgk C (show w r<0 by lia)
    lia
  ·have:=l r I
   rw[mz λj g=>Ex h e g]at this;exact (qck.mp this.symm).resolve_left (by lia)
  ·obtain⟨j,g,rfl⟩:=j7 F
   refine CV q0 (T j g) ?_;have a:=S.sa j (by lia);have c:=S.sa (ts.length+j) (by lia);unfold Sm at *;generalize (2:Nat)^4000=B at *;lia
  ·obtain⟨u,hu⟩:=Q st none
   refine⟨u,?_⟩;have K:=ub (st:=st) (b:=b) h;have he:=xD (st:=st) (V:=spV fs b ts) (k:=ts.length) hn h.tl;have M:bV (aa (iV 3) ae) [Z (.tup fs),Z (.str (aF b)),Z (tsD ts),Z (.lst ((qak (nR fs)).map λi=>D.lst (mpI ts.length (spV fs b ts i)))),Z (.int (nR fs:Int)),none,none,none] st=some ((qak (nR fs)).map λi:Nat=>D.tup [.int ((i:Nat):Int),.lst (mpI ts.length (spV fs b ts i))],st):=by
    rw[<-vF _];rfl
   have J:=o st;have O:=AB (st:=st++u) (m:=nR fs) (y:=pr) h (.inl U);have P:=E (st++u);have sl:dSl (st++u) (.d (.tup (mpI (nR fs+nR fs) pr))) none (some (nR fs:Int))=some (.tup (mpI (nR fs) pr)):=by
    rw[<-Br (n:=nR fs+nR fs) (k:=nR fs) (f:=pr) (by lia),<-GF];rfl
   have f0:((nR fs:Int)==(0:Int))=false:=by simp;lia
   have hz:((qak (nR fs)).map λi:Nat=>D.tup [.int ((i:Nat):Int),.lst (mpI ts.length (spV fs b ts i))]).length<=1000000:=by rw[qah,qat];lia
   generalize (mpI fs.length λr=>acc (rN fs) pr (nR fs) r)=A at *;generalize mpI fs.length w=A2 at *;generalize mpI (nR fs) pr=A3 at *;generalize mpI (nR fs+nR fs) pr=A4 at *;generalize mpI (ts.length+ts.length+nR fs) am=A5 at *;generalize bA (aF b) (aY (ax ts) X)=R at *;generalize ((qak (nR fs)).map λi=>D.lst (mpI (ts.length+ts.length+nR fs) (Sx.spR (nR fs) ts.length (spV fs b ts) i)))=L5 at *;generalize ((qak (nR fs)).map λi=>D.lst (mpI (ts.length+ts.length+nR fs) (Sx.spR (nR fs) ts.length (spV fs b ts) (nR fs+i))))=L6 at *;generalize ((qak (nR fs)).map λi:Nat=>D.tup [.int ((i:Nat):Int),.lst (mpI ts.length (spV fs b ts i))])=LE at *;generalize ((qak (nR fs)).map λi=>D.lst (mpI ts.length (spV fs b ts i)))=L at *;generalize tsD ts=H at *;generalize aF b=kd at *;have N:iSl (iOp dIx (iV 7) (iC (.int 3))) iPn (iPs (iV 4)) [Z (.tup fs),Z (.str kd),Z H,Z (.lst L),Z (.int (nR fs:Int)),Z (.lst L5),Z (.lst L6),Z (.tup [.str "most",.int p,.tup A5,.tup A4])] (st++u)=some (.d (.tup A3),st++u):=by
    have x1:iOp dIx (iV 7) (iC (.int 3)) [Z (.tup fs),Z (.str kd),Z H,Z (.lst L),Z (.int (nR fs:Int)),Z (.lst L5),Z (.lst L6),Z (.tup [.str "most",.int p,.tup A5,.tup A4])] (st++u)=some (.d (.tup A4),st++u):=ac U U U
    have x2:iPs (iV 4) [Z (.tup fs),Z (.str kd),Z H,Z (.lst L),Z (.int (nR fs:Int)),Z (.lst L5),Z (.lst L6),Z (.tup [.str "most",.int p,.tup A5,.tup A4])] (st++u)=some (some (nR fs:Int),st++u):=rfl
    simp only[iSl,x1,x2,iPn,qaa,sl,qap]
   exact au (n:=8) (k:=3) (b:=ji) U (ai (aj (ah U K)) (ai (aj (aG (ab U U) J)) (ai (bh (s:=st) (ao U U (by rw[cJ,f0])) U) (ai (aj (aq (aM M hz he))) (F4 hu (aD (cR (ab (ah (ab U (ab U (ab (ac U U U) U))) (hp (st++u))) (ab (ah (ab (ah (ab U (ab N U)) O) U) P) U)) U (by show 2<=1000;decide))))))))
end
end Own
set_option maxHeartbeats 1000000
namespace Own
open PySem L2
open Sx (Pb Tb Good Named Fe LV ZV piv lexP leastR leaveL sumN unit colV basis)
theorem n6 {f:Tf}{env:Ev}{st s:Sto}{k:Bool} (h:f env st=some (k,s)):cK f env st=some (!k,s):=by
 simp only[cK,h,qap]
theorem eV {a b:Tf}{env:Ev}{st s s':Sto}{k:Bool} (c:a env st=some (false,s)) (hb:b env s=some (k,s')):d6 a b env st=some (k,s'):=by
 simp only[d6,c,hb,qaa,qbm,if_false]
theorem mj {a b:Tf}{env:Ev}{st s:Sto} (c:a env st=some (false,s)):fF a b env st=some (false,s):=by
 simp only[fF,c,qaa,qbm,if_false]
theorem iS {a b:Tf}{env:Ev}{st s s':Sto}{k:Bool} (c:a env st=some (true,s)) (hb:b env s=some (k,s')):fF a b env st=some (k,s'):=by
 simp only[fF,c,hb,qaa,if_true]
theorem t5 {f:Ef}{env:Ev}{st s:Sto}{k:Bool} (h:f env st=some (.d (.bl k),s)):cL c9 f env st=some (k,s):=by
 simp only[cL,h,qaa];rfl
theorem ki {st:Sto} (i:Int):b8 [.d (.int i)] st=some (.d (.bl true),st):=rfl
theorem F3 {a:Af}{env:Ev}{st s:Sto}{bs:List Bool} (h:a env st=some ([.d (.lst (bs.map D.bl))],s)):iCB AX a env st=some (.d (.bl (bs.all id)),s):=by
 refine aG h ?_;show (ku _).map _=_;rw[mI];rfl
structure Pus where
 xs:List Int
 d:Int
 m:Int
 c:Int
def pus (p:Pus) (rest:Sto):Sto:=.l (p.xs.map D.int)::.n [.h 0,.d (.int p.d),.d (.int p.m),.d (.int p.c)]::rest
def okU (p:Pus) (Zq:Int):Prop:=p.xs.length<=63/\0<=p.d/\0<=p.c/\p.c<=Zq
theorem okU.mono {p:Pus}{Zq Z':Int} (h:okU p Zq) (a:Zq<=Z'):okU p Z':=⟨h.1,h.2.1,h.2.2.1,qea h.2.2.2 a⟩
theorem BW (p:Pus) (rest u:Sto):pus p rest++u=pus p (rest++u):=rfl
theorem pu1 (p:Pus) (rest:Sto) (e:Ev):gJ (iV 0) (iC (.int 1)) (some (.h 1)::e) (pus p rest)=some (.d (.int p.d),pus p rest):=rfl
theorem pu2 (p:Pus) (rest:Sto) (e:Ev):gJ (iV 0) (iC (.int 2)) (some (.h 1)::e) (pus p rest)=some (.d (.int p.m),pus p rest):=rfl
theorem pu3 (p:Pus) (rest:Sto) (e:Ev):gJ (iV 0) (iC (.int 3)) (some (.h 1)::e) (pus p rest)=some (.d (.int p.c),pus p rest):=rfl
theorem pu0 (p:Pus) (rest:Sto) (e:Ev):gJ (iV 0) (iC (.int 0)) (some (.h 1)::e) (pus p rest)=some (.h 0,pus p rest):=rfl
theorem us1 {p:Pus}{rest:Sto}{e:Ev}{V:Ef}{x:Int} (h:V (some (.h 1)::e) (pus p rest)=some (.d (.int x),pus p rest)):cq (iV 0) (iC (.int 1)) V (some (.h 1)::e) (pus p rest)=some (.nx (some (.h 1)::e) (pus { p with d:=x } rest)):=by
 show (V _ _).bind _=_;rw[h];rfl
theorem us2 {p:Pus}{rest:Sto}{e:Ev}{V:Ef}{x:Int} (h:V (some (.h 1)::e) (pus p rest)=some (.d (.int x),pus p rest)):cq (iV 0) (iC (.int 2)) V (some (.h 1)::e) (pus p rest)=some (.nx (some (.h 1)::e) (pus { p with m:=x } rest)):=by
 show (V _ _).bind _=_;rw[h];rfl
theorem us3 {p:Pus}{rest:Sto}{e:Ev}{V:Ef}{x:Int} (h:V (some (.h 1)::e) (pus p rest)=some (.d (.int x),pus p rest)):cq (iV 0) (iC (.int 3)) V (some (.h 1)::e) (pus p rest)=some (.nx (some (.h 1)::e) (pus { p with c:=x } rest)):=by
 show (V _ _).bind _=_;rw[h];rfl
theorem gR (s:Sto) {a b:Int} (h:0<b):f7 s (.d (.int a)) (.d (.int b))=some (.int (a%b)):=iFP h
theorem qh (s:Sto) {a b:Int} (h:0<b/\b<1073741824):mM s (.d (.int a)) (.d (.int b))=some (.int (a / b)):=iFP h
def Bp (a t:Int):Int:=(((a%2147483629+7927*t+37)*48271%2147483647)*((a%2147483629+7927*t+37)*48271%2147483647)+53*t+((a%2147483629+7927*t+37)*48271%2147483647) / 17)*39373%2147483587
theorem tL (st:Sto) (a t:Int):cN [.d (.int a),.d (.int t)] st=some (.d (.int (Bp a t)),st):=by
 unfold Bp;obtain⟨u,b⟩:∃ u,(a%2147483629+7927*t+37)*48271%2147483647=u:=⟨_,U⟩;have s1:iOp f7 (iOp a9 (iOp bj (iOp bj (iOp f7 (iV 0) (iC (.int 2147483629))) (iOp a9 (iC (.int 7927)) (iV 1))) (iC (.int 37))) (iC (.int 48271))) (iC (.int 2147483647)) [Z (.int a),Z (.int t),none] st=some (.d (.int u),st):=by
  rw[<-b];exact ac (ac (ac (ac (ac U U (gR st (by decide))) (ac U U (bI st (dM (by decide)))) U) U U) U (bI st (gv (by decide)))) U (gR st (by decide))
 rw[b];exact au U (ai (aj s1) (aD (ac (ac (ac (ac (ac U U (bI st (dM ⟨by lia,by lia⟩))) (ac U U (bI st (dM (by decide)))) U) (ac U U (qh st (by decide))) U) U (bI st (gv (by decide)))) U (gR st (by decide)))))
theorem GX (x:Int) (xs:List Int) (d m c:Int) (rest:Sto) (e:Ev):cD uT (gJ (iV 0) (iC (.int 0))) (aa (iC (.int 0)) ae) (some (.h 1)::e) (pus ⟨x::xs,d,m,c⟩ rest)=some (.d (.int x),pus ⟨xs,d,m,c⟩ rest):=by
 show ((uT _ [.d _]).map λy=>(W.d y.1,(pus _ rest).set 0 _))=_
 have:uT ((x::xs).map D.int) [.d (.int 0)]=some (.int x,xs.map D.int):=by
  show (ixN ((xs.map D.int).length+1) 0).bind _=_;rw[Fv];rfl
 rw[this];rfl
theorem GS (xs:List Int) (d m c:Int) (rest:Sto):a8 (pus ⟨xs,d,m,c⟩ rest) [.h 0]=some (.int (xs.length:Nat)):=by
 show some (D.int _)=_;rw[qah]
theorem p18:mx 10 18:=by decide
theorem GY (s:Sto):qg s (.d (.int 10)) (.d (.int 18))=some (.int (10^18)):=by
 show (if mx 10 18 then some (D.int (10^18)) else none)=_;rw[iFP p18]
theorem p60:mx 10 60:=by decide
theorem F2 (s:Sto):qg s (.d (.int 10)) (.d (.int 60))=some (.int (10^60)):=by
 show (if mx 10 60 then some (D.int (10^60)) else none)=_;rw[iFP p60]
theorem C9 (s:Sto):a9 s (.d (.int (10^60))) (.d (.int (10^60)))=some (.int (10^120)):=by
 rfl
theorem BL {p:Pus}{m Zq:Int} (h:okU p Zq) (C:Zq<900000000) (m0:0<m) (B:m<1073741824):∃ (r:Int) (y:Pus),0<=r/\r<m/\okU y (Zq+1)/\∀ rest:Sto,aJ [.h 1,.d (.int m)] (pus p rest)=some (.d (.int r),pus y rest):=by
 obtain⟨v,d0,A,c1⟩:=h;have t:∀ rest:Sto,cq (iV 0) (iC (.int 3)) (iOp bj _ (iC (.int 1))) [some (.h 1),Z (.int m),none,none] (pus p rest)=some _:=λrest=>us3 (ac (pu3 _ _ _) U U);obtain⟨xs,d,i,c⟩:=p;dsimp only at v d0 A c1 t;obtain⟨e,d',a,u,q,l,s1⟩:∃ (e:List Int) (d' a:Int) (u:Option W),e.length<=63/\0<=d'/\∀ rest:Sto,aX (fF _ (aE dNe _ (aw (bO ae)))) (ag _ (ag _ (aX _ (cq (iV 0) (iC (.int 1)) (iOp f7 (iCB uz (aa (iV 2) ae)) (iOp a9 (iOp qg (iC (.int 10)) (iC (.int 60))) (iOp qg (iC (.int 10)) (iC (.int 60)))))) aS))) aS [some (.h 1),Z (.int m),none,none] (pus ⟨xs,d,i,c+1⟩ rest)=some (.nx [some (.h 1),Z (.int m),u,none] (pus ⟨e,d',a,c+1⟩ rest)):=by
  have f:∀ rest:Sto,aE dEq _ (iC (.int 0)) [some (.h 1),Z (.int m),none,none] _=some (d==0,pus ⟨xs,d,i,c+1⟩ rest):=λrest=>ao (pu1 _ _ _) U (cJ _ _ _);by_cases hd:d=0
  ·have hb:(d==0)=true:=by rw[hd];rfl
   rw[hb]at f;cases xs with
   |nil=>exact⟨[],d,i,none,by simp,d0,λrest=>bh (iS (f rest) (ao (pu0 _ _ _) U U)) U⟩
   |cons x xs=>
    have o:xs.length<=63:=by rw[qaq]at v;lia
    obtain⟨r,w⟩:∃ r,Bp (i+x) ((xs.length:Nat):Int)=r:=⟨_,U⟩;have j:=λst=>tL st (i+x) ((xs.length:Nat):Int);rw[w]at j;have cne:∀ rest:Sto,aE dNe _ (aw (bO ae)) [some (.h 1),Z (.int m),none,none] _=some (true,pus ⟨x::xs,d,i,c+1⟩ rest):=λrest=>ao (pu0 _ _ _) U U;have sp:∀ rest:Sto,aA (.nm 2) _ [some (.h 1),Z (.int m),none,none] _=some _:=λrest=>aj (GX x xs d i (c+1) rest _);have z:∀ rest:Sto,cq (iV 0) (iC (.int 2)) (av cN (aa (iOp bj _ (iV 2)) (aa (iCB a8 (aa _ ae)) ae))) [some (.h 1),Z (.int m),Z (.int x),none] _=some _:=λrest=>us2 (ah (ab (ac (pu2 _ _ _) U U) (ab (aG (ab (pu0 _ _ _) U) (GS xs d i (c+1) rest)) U)) (j _));have s:∀ rest:Sto,aE dGe (iCB uz (aa (iV 2) ae)) (iOp qg (iC (.int 10)) (iC (.int 18))) [some (.h 1),Z (.int m),Z (.int x),none] _=some (decide _,pus ⟨xs,d,r,c+1⟩ rest):=λrest=>ao (aG (ab U U) U) (ac U U (GY _)) U;by_cases hg:(10:Int)^18<=(if x<0 then -x else x)
    ·rw[decide_eq_true hg]at s
     refine⟨xs,(if x<0 then -x else x)%10^120,r,Z (.int x),o,qeO _ (by decide),λrest=>?_⟩;exact ck (iS (f rest) (cne rest)) (ai (sp rest) (ai (z rest) (ck (s rest) (us1 (ac (aG (ab U U) U) (ac (ac U U (F2 _)) (ac U U (F2 _)) (C9 _)) (gR _ (by decide)))))))
    ·rw[decide_eq_false hg]at s
     refine⟨xs,d,r,Z (.int x),o,d0,λrest=>?_⟩;exact ck (iS (f rest) (cne rest)) (ai (sp rest) (ai (z rest) (bh (s rest) U)))
  ·have hb:(d==0)=false:=by simpa using hd
   rw[hb]at f;exact⟨xs,d,i,none,v,d0,λrest=>bh (mj (f rest)) U⟩
 have g:∀ rest:Sto,aE dGt _ (iC (.int 0)) [some (.h 1),Z (.int m),u,none] _=some (decide (d' > 0),pus ⟨e,d',a,c+1⟩ rest):=λrest=>ao (pu1 _ _ _) U U;by_cases hd:d' > 0
 ·rw[decide_eq_true hd]at g
  refine⟨d'%m,⟨e,d' / m,a,c+1⟩,qeO _ (by lia),qfg _ m0,⟨q,qdZ l (by lia),by dsimp only;lia,by dsimp only;lia⟩,λrest=>?_⟩;exact au (n:=4) (k:=2) (b:=gO) U (ai (t rest) (ai (s1 rest) (fQ (ck (g rest) (ai (aj (ac (pu1 _ _ _) U (gR _ m0))) (ai (us1 (ac (pu1 _ _ _) U (qh _ ⟨m0,B⟩))) U))))))
 ·rw[decide_eq_false hd]at g
  obtain⟨r,w⟩:∃ r,Bp a (c+1)=r:=⟨_,U⟩;have j:=λst=>tL st a (c+1);rw[w]at j;refine⟨r / 64%m,⟨e,d',a,c+1⟩,qeO _ (by lia),qfg _ m0,⟨q,l,by dsimp only;lia,by dsimp only;lia⟩,λrest=>?_⟩;exact au (n:=4) (k:=2) (b:=gO) U (ai (t rest) (ai (s1 rest) (ai (bh (g rest) U) (aD (ac (ac (ah (ab (pu2 _ _ _) (ab (pu3 _ _ _) U)) (j _)) U (qh _ (by decide))) U (gR _ m0))))))
theorem zU (ns:List Int) (hn:ns.length<=63):∃ p:Pus,okU p 0/\gm [.d (.scr ns)] []=some (.h 1,pus p []):=
 ⟨⟨ns,0,11,0⟩,⟨hn,qb3 _,qb3 _,qb3 _⟩,U⟩
end Own
set_option maxHeartbeats 1000000
namespace Own
open PySem L2
open Sx (Pb Tb Good Named Fe LV ZV piv lexP leastR leaveL sumN unit colV basis)
theorem GE {x:Int} (h:0<=x):qd0 x 1=x%2:=by
 unfold qd0;rw[show (1:Int).toNat=1 from U,Nat.and_one_is_mod];lia
theorem yt {row k:Int} (h:0<=row):qd0 (row / 2^k.toNat) 1=onI row k:=GE (qdZ h (qgS (Int.pow_pos (by decide))))
theorem CF {e:Ef}{env:Ev}{st s:Sto}{n:Nat} (a:e env st=some (.d (.int (n:Int)),s)) (c:n<=1000):lA (aa e ae) env st=some (bf 0 n,s):=by
 simp only[lA,(ab (b:=ae) a U),qaa];rw[iFP ⟨by lia,by lia⟩,qa6]
theorem zw {st:Sto}{row:Int}{d:D}{t:List Int} (f:0<=row) (h:∀ k∈t,0<=k) (g:t.length<=1000000) (hd:aB (iV 1) [Z (.int row),Z d] st=some (t.map D.int,st)):dQ [.d (.int row),.d d] st=some (.d (.int (bL row t)),st):=by
 have a:lcI (.nm 0) aN kY [none,Z (.int row)] (t.map D.int) st=some ((t.map (onI row)).map D.int,st):=by
  rw[qaO];exact kJ _ λk i=>by
   have e:uA st (.d (.int (row / 2^k.toNat))) (.d (.int 1))=some (.int (onI row k)):=by
    rw[<-yt f];rfl
   exact ac (ac U U (Ak st (h k i))) U e
 have b:=wN st (t.map (onI row));rw[mK]at b;have c:(t.map D.int).length<=1000000:=by rw[qah];exact g
 exact au U (aD (aG (ab (aq (aM hd c a)) U) b))
theorem wg {st:Sto}{b:Bool}{t:List Int}{row:Int} (g:0<=row) (h:∀ k∈t,0<=k/\k<=20) (j:t.length<=1000):dJ [.d (.str (aF b)),.d (ak t),.d (.int row)] st=some (.d (.int (aO b t row)),st):=by
 have f:=zw (st:=st) (d:=ak t) g (λk i=>(h k i).1) (by lia) U;have a:((t.map D.int).length)=(t.length):=by rw[qah]
 unfold aO ak at *;generalize bL row t=c at *;generalize t.map D.int=T at *;cases b with
 |true=>
  rw[<-a];have e:AY st [.d (.bl (c==(T.length)))]=some (.int (if c=(T.length) then 1 else 0)):=by
   by_cases q:c=(T.length)
   ·rw[iFP q,show (c==_)=true by simpa using q];rfl
   ·rw[iFN q,show (c==_)=false by simpa using q];rfl
  exact au U (ai (aj (ah (ab U (ab U U)) f)) (fQ (ck U (aD (aG (ab (ac U (aG (ab U U) U) (cJ _ _ _)) U) e)))))
 |false=>
  have e:1 - 2*(c%2)=if c%2=1 then -1 else 1:=by split<;>lia
  rw[<-e];exact au U (ai (aj (ah (ab U (ab U U)) f)) (ai (bh U U) (aD (ac U (ac U (ac U U (gR _ (by decide))) (bI _ (dM (by decide)))) U))))
theorem f9 {te:Ef}{l:Ev}{a:Option W}{ds:List D}{p:Pus}{rest:Sto}{Zq:Int} (P:D->Prop) (h:okU p Zq) (w:Zq+ds.length<=100000000) (t:∀ d∈ds,∀ p Z',okU p Z'->Z'<=100000000->∃ y b,P y/\okU b (Z'+1)/\te (Z d::l) (pus p rest)=some (.d y,pus b rest)) :
  ∃ c b,c.length=ds.length/\(∀ y∈c,P y)/\okU b (Zq+ds.length)/\lcI (.nm 0) aN te (a::l) ds (pus p rest)=some (c,pus b rest):=by
 obtain⟨u,x,r,q,k,b,ok,rfl⟩:=gj (g:=.nm 0) (tt:=aN) (env:=a::l) (λi c s=>c.length=i/\(∀ y ∈ c,P y)/\∃ b,okU b (Zq+i)/\s=pus b rest) (ys0:=[]) ⟨U,(λy m=>nomatch m),p,by rw [show Zq+_=Zq by lia];exact h,U⟩ (λi d c s hd ⟨v,k,b,ok,es⟩=>by
  subst es;have hi:=(qar.mp hd).1;obtain⟨y,n,o,j,e⟩:=t d (qbr hd) b _ ok (by lia);refine⟨_,U,.inl ⟨_,_,_,U,e,by rw[qaz,v];rfl,λz f=>?_,n,by rw[show Zq+_=Zq+i+1 by lia];exact j,U⟩⟩;rcases qaR.mp f with f|f
  ·exact k z f
  ·rw[qal.mp f];exact o)
 exact⟨u,b,q,k,ok,r⟩
theorem A0 {tt:Tf}{te:Ef}{l:Ev}{a:Option W}{ds:List D}{p:Pus}{rest:Sto}{Zq:Int} (h:okU p Zq) (v:Zq+ds.length<=100000000) (u:∀ d∈ds,∀ p Z',okU p Z'->Z'<=100000000->∃ y b,okU b (Z'+1)/\tt (Z d::l) (pus p rest)=some (y,pus b rest)) (r:∀ d s,te (Z d::l) s=some (.d d,s)) :
  ∃ j b,j.Sublist ds/\okU b (Zq+ds.length)/\lcI (.nm 0) tt te (a::l) ds (pus p rest)=some (j,pus b rest):=by
 obtain⟨t,w,q,n,b,ok,rfl⟩:=gj (g:=.nm 0) (env:=a::l) (λi j s=>j.Sublist (ds.take i)/\∃ b,okU b (Zq+i)/\s=pus b rest) ⟨List.nil_sublist _,p,by rw [show Zq+_=Zq by lia];exact h,U⟩ (λi d j s hd ⟨o,b,ok,es⟩=>by
  subst es;have hi:=(qar.mp hd).1;obtain⟨y,k,m,e⟩:=u d (qbr hd) b _ ok (by lia);have c:ds.take (i+1)=ds.take i++[d]:=by rw[qfm,hd];rfl
  have f:okU k (Zq+((i+1))):=by rw[show Zq+_=Zq+i+1 by lia];exact m
  refine⟨_,U,?_⟩;cases y with
  |true=>exact .inl ⟨_,_,_,e,r _ _,by rw[c];exact o.append (qdi _),k,f,U⟩
  |false=>exact .inr ⟨_,e,by rw[c];exact o.trans (List.sublist_append_left _ _),k,f,U⟩)
 rw[qde]at n;exact⟨t,b,n,ok,q⟩
end Own
set_option maxHeartbeats 1000000
namespace Own
open PySem L2
open Sx (Pb Tb Good Named Fe LV ZV piv lexP leastR leaveL sumN unit colV basis)
def B01 (d:D):Prop:=d=.int 0\/d=.int 1
theorem b01 {r:Int} (a:0<=r) (b:r<2):B01 (.int r):=by
 have:r=0\/r=1:=by lia
 rcases this with rfl|rfl
 ·exact .inl U
 ·exact .inr U
theorem m4 (s:Sto) {cs:List D}{i:Int} (b:0<=i) (c:i<cs.length):∃ y∈cs,dIx s (.d (.lst cs)) (.d (.int i))=some y:=by
 obtain⟨j,rfl⟩:=qes b;have a:j<cs.length:=by lia
 exact⟨_,qbQ a,db (qam a)⟩
def rgI (n:Nat):List Int:=(qak n).map λk:Nat=>(0:Int)+k
theorem wI (n:Nat):bf 0 n=(rgI n).map D.int:=by unfold bf rgI;rw[qaO];rfl
theorem mo {n:Nat}{k:Int} (h:k∈rgI n):0<=k/\k<n:=by
 obtain⟨j,a,rfl⟩:=qaF.mp h
 have:=qaN.mp a
 lia
theorem rF (n:Nat):(rgI n).length=n:=by unfold rgI;rw[qah,qat]
theorem vV:∀ {b:List D},(∀ y∈b,∃ z:Int,y=.int z)->∃ a:List Int,b=a.map D.int
 |[],_=>⟨[],U⟩
 |y::b,h=>by
  obtain⟨z,rfl⟩:=h y qag;obtain⟨a,rfl⟩:=vV λx c=>h x (qaj _ c);exact⟨z::a,U⟩
theorem DF {tt:Tf}{te:Ef}{l:Ev}{a:Option W}{ds:List D}{st:Sto} (P:D->Prop) (h:∀ d∈ds,∃ c,tt (Z d::l) st=some (c,st)/\(c=true->∃ y,P y/\te (Z d::l) st=some (.d y,st))):∃ e,(∀ y∈e,P y)/\lcI (.nm 0) tt te (a::l) ds st=some (e,st):=by
 obtain⟨p,r,f,o,rfl⟩:=gj (g:=.nm 0) (env:=a::l) (ds:=ds) (λi e s=>(∀ y ∈ e,P y)/\s=st) (ys0:=[]) ⟨(λy m=>nomatch m),U⟩ (λi d e s hd ⟨k,es⟩=>by
  subst es;obtain⟨c,j,f⟩:=h d (qbr hd);refine⟨_,U,?_⟩;cases c with
  |true=>
   obtain⟨y,n,q⟩:=f U;refine .inl ⟨_,_,_,j,q,λz b=>?_,U⟩;rcases qaR.mp b with b|b
   ·exact k z b
   ·rw[qal.mp b];exact n
  |false=>exact .inr ⟨_,j,k,U⟩)
 exact⟨p,o,f⟩
section
variable {rest:Sto}{n:Nat}
theorem dO {p:Pus}{Zq:Int} (h:okU p Zq) (R:Zq<=100000000) {m:Int} (m0:0<m) (m1:m<1000):∃ (r:Int) (j:Pus),0<=r/\r<m/\okU j (Zq+1)/\aJ [.h 1,.d (.int m)] (pus p rest)=some (.d (.int r),pus j rest):=by
 obtain⟨r,j,a,b,c,d⟩:=BL h (by lia) m0 (by lia);exact⟨r,j,a,b,c,d rest⟩
theorem Av {p:Pus}{Zq:Int} (h:okU p Zq) (R:Zq<=100000000):∃ (y:D) (j:Pus),B01 y/\okU j (Zq+1)/\aJ [.h 1,.d (.int 2)] (pus p rest)=some (.d y,pus j rest):=by
 obtain⟨r,j,a,b,c,d⟩:=dO h R (m:=2) (by decide) (by decide);exact⟨_,j,b01 a b,c,d⟩
theorem zx {st:Sto}{row:Int}{t:List Int} (h0:0<=row) (ht:∀ k∈t,0<=k) (hl:t.length<=1000000):dQ [.d (.int row),.d (.lst (t.map D.int))] st=some (.d (.int (bL row t)),st):=zw h0 ht hl (aR U)
theorem Ag {d:D} (h:d∈bf 0 (2^n)):∃ r:Int,d=.int r/\0<=r:=by
 rw[wI]at h;obtain⟨k,N,rfl⟩:=qaF.mp h;exact⟨k,U,(mo N).1⟩
theorem A6 {p:Pus}{Zq:Int}{f:Int} (h:okU p Zq) (R:Zq<=1000000) (hn:n<=4):∃ (v:List D) (j:Pus) (o4 o6 o7 o8:Option W),v.length=2^n/\(∀ u∈v,B01 u)/\okU j (Zq+100)/\
  aX (aE dEq (iV 2) (iC (.int 0))) (ag (aA (.nm 4) (aw (iLc 1 [0] (bz (aa (iOp bj (iV 1) (iC (.int 1))) ae)) (.nm 0) aN cG))) (aA (.nm 5) (aw (iLc 1 [4,1] (aB (iV 3)) (.nm 0) aN cF)))) (aX (aE dEq (iV 2) (iC (.int 1))) (ag (aA (.tp [6,7]) (be (aa (aw (iLc 1 [0] (bz (aa (iV 1) ae)) (.nm 0) bT bS)) (aa (av aJ (aa (iV 0) (aa (iC (.int 2)) ae))) ae)))) (aA (.nm 5) (aw (iLc 1 [6,7] (aB (iV 3)) (.nm 0) aN cH)))) (aX (aE dEq (iV 2) (iC (.int 2))) (ag (aA (.nm 8) (aw (iLc 1 [0] (bz (aa (iOp bj (iV 1) (iC (.int 1))) ae)) (.nm 0) aN cw))) (aA (.nm 5) (aw (iLc 1 [1,8] (aB (iV 3)) (.nm 0) aN cv)))) (aA (.nm 5) (aw (iLc 1 [0] (aB (iV 3)) (.nm 0) aN cx)))))
   [some (.h 1),Z (.int (n:Int)),Z (.int f),Z (.lst (bf 0 (2^n))),none,none,none,none,none] (pus p rest)=some (.nx [some (.h 1),Z (.int (n:Int)),Z (.int f),Z (.lst (bf 0 (2^n))),o4,Z (.lst v),o6,o7,o8] (pus j rest)):=by
 have h16:2^n<=16:=qaT (qbs (by decide) hn) (by decide);have V:(bf 0 (2^n)).length=2^n:=cT _ _;have E:(bf 0 (2^n)).length<=1000000:=by lia
 have hN:(bf 0 (n+1)).length=n+1:=cT _ _;have hN0:(bf 0 n).length=n:=cT _ _;have c:∀ (k:Int) (s:Sto) (e:Ev),aE dEq (iV 2) (iC (.int k)) (some (.h 1)::some (.d (.int (n:Int)))::some (.d (.int f))::e) s=some (f==k,s):=λk s e=>ao U U (cJ _ _ _);have w:∀ d∈bf 0 (2^n),∃ r:Int,d=.int r/\0<=r:=λd hd=>Ag hd;by_cases w0:f=0
 ·obtain⟨cs,p1,L,b1,J,K⟩:=f9 (te:=cG) (l:=[some (.h 1)]) (a:=none) (ds:=bf 0 (n+1)) (rest:=rest) B01 h (by lia) (λd hd q Z' g o=>by
   obtain⟨y,A,a,b,e⟩:=Av (rest:=rest) g o
   exact⟨y,A,a,b,ah U e⟩)
  obtain⟨v,B,G,I,k2,x⟩:=f9 (te:=cF) (l:=[Z (.lst cs),Z (.int (n:Int))]) (a:=none) (ds:=bf 0 (2 ^ n)) (rest:=rest) B01 J (by lia) (λd hd q Z' g o=>by
   obtain⟨r,rfl,O⟩:=w d hd;have C:=zx (st:=pus q rest) (row:=r) (t:=rgI n) O (λk N=>(mo N).1) (by rw[rF];lia);rw[<-wI]at C;have M:=vB r (rgI n);rw[rF]at M;obtain⟨y,hy,e4⟩:=m4 (pus q rest) (cs:=cs) (i:=bL r (rgI n)) M.1 (by rw[L,hN];lia)
   exact⟨y,q,b1 y hy,g.mono (by lia),ac U (ah (ab U (ab (aq (CF U (by lia))) U)) C) e4⟩)
  refine⟨v,B,Z (.lst cs),none,none,none,by rw[G,V],I,k2.mono (by lia),?_⟩;subst w0;exact ck (c 0 _ _) (ai (aj (aq (aM (dA (z:=(n:Int)+1) (m:=n+1) U (by lia) (by lia) (by lia)) (by lia) K))) (aj (aq (aM (aR U) E x))))
 ·have f0:=c 0 (pus p rest) [Z (.lst (bf 0 (2^n))),none,none,none,none,none]
  rw[show (f==0)=false by simpa using w0]at f0;by_cases w1:f=1
  ·obtain⟨ss,p1,L,J,K⟩:=A0 (tt:=bT) (te:=bS) (l:=[some (.h 1)]) (a:=none) (ds:=bf 0 n) (rest:=rest) h (by lia) (λd hd q Z' g o=>by
    obtain⟨r,A,O,Y,b,e⟩:=dO (rest:=rest) g o (m:=3) (by decide) (by decide)
    exact⟨_,A,b,ao (ah U e) U U⟩) (λd s=>rfl)
   obtain⟨r,B,O,Y,k2,x⟩:=dO (rest:=rest) J (by lia) (m:=2) (by decide) (by decide);rw[wI]at L;obtain⟨t,ht,rfl⟩:=List.sublist_map_iff.mp L;have htl:t.length<=4:=by have:=ht.length_le;rw[rF]at this;lia
   obtain⟨v,S,l3,b3,X,C⟩:=f9 (te:=cH) (l:=[Z (.lst (t.map D.int)),Z (.int r)]) (a:=none) (ds:=bf 0 (2 ^ n)) (rest:=rest) B01 k2 (by lia) (λd hd q Z' g o=>by
    obtain⟨row,rfl,H⟩:=w d hd;have C:=zx (st:=pus q rest) (row:=row) (t:=t) H (λk N=>(mo (ht.subset N)).1) (by lia);generalize t.map D.int=T at *
    exact⟨_,q,b01 (qeO _ (by decide)) (qfg _ (by decide)),g.mono (by lia),ac (ac (ah (ab U (ab U U)) C) U U) U (gR _ (by decide))⟩)
   refine⟨v,S,none,Z (.lst (t.map D.int)),Z (.int r),none,by rw[l3,V],b3,X.mono (by lia),?_⟩;subst w1;generalize t.map D.int=T at *;refine bh f0 (ck (c 1 _ _) (ai (s:=pus B rest) (e:=[some (.h 1),Z (.int (n:Int)),Z (.int 1),Z (.lst (bf 0 (2^n))),none,none,Z (.lst T),Z (.int r),none]) ?_ (aj (aq (aM (aR U) E C)))));have q:be (aa (aw (iLc 1 [0] (bz (aa (iV 1) ae)) (.nm 0) bT bS)) (aa (av aJ (aa (iV 0) (aa (iC (.int 2)) ae))) ae)) [some (.h 1),Z (.int (n:Int)),Z (.int 1),Z (.lst (bf 0 (2^n))),none,none,none,none,none] (pus p rest)=some (.d (.tup [.lst T,.int r]),pus B rest):=cR (ab (aq (aM (dA (z:=(n:Int)) (m:=n) U (by lia) (by lia) (by lia)) (by lia) K)) (ab (ah U x) U)) U (by show 2<=1000;decide);simp only[aA,q,qaa];rfl
  ·have f1:=c 1 (pus p rest) [Z (.lst (bf 0 (2^n))),none,none,none,none,none]
   rw[show (f==1)=false by simpa using w1]at f1;by_cases w2:f=2
   ·obtain⟨cs,p1,L,b1,J,K⟩:=f9 (te:=cw) (l:=[some (.h 1)]) (a:=none) (ds:=bf 0 (n+1)) (rest:=rest) (λd=>∃ z:Int,d=.int z) h (by lia) (λd hd q Z' g o=>by
     obtain⟨r,A,O,Y,b,e⟩:=dO (rest:=rest) g o (m:=7) (by decide) (by decide)
     exact⟨_,A,⟨r - 3,U⟩,b,ac (ah U e) U U⟩)
    obtain⟨v,B,G,I,k2,x⟩:=f9 (te:=cv) (l:=[Z (.int (n:Int)),Z (.lst cs)]) (a:=none) (ds:=bf 0 (2 ^ n)) (rest:=rest) B01 J (by lia) (λd hd q Z' g o=>by
     obtain⟨row,rfl,H⟩:=w d hd
     obtain⟨ys,hy,C⟩:=DF (tt:=eW) (te:=dU) (l:=[Z (.int row),Z (.lst cs)]) (a:=none) (ds:=bf 0 n) (st:=pus q rest) (λd=>∃ z:Int,d=.int z) (λd hd=>by
      rw[wI]at hd;obtain⟨k,N,rfl⟩:=qaF.mp hd;have Q:=mo N;obtain⟨y,F,P⟩:=m4 (pus q rest) (cs:=cs) (i:=k) Q.1 (by rw[L,hN];lia)
      exact⟨_,ao (ac (ac U U (Ak _ Q.1)) U U) U (cJ _ _ _),λ_=>⟨y,b1 y F,ac U U P⟩⟩)
     obtain⟨zs,rfl⟩:=vV hy;obtain⟨y,F,P⟩:=m4 (pus q rest) (cs:=cs) (i:=(n:Int)) (by lia) (by rw[L,hN];lia);obtain⟨z,rfl⟩:=b1 y F;have hs:=wN (pus q rest) zs;generalize zs.map D.int=T at *;refine⟨.int (if decide (zs.sum > z)=true then 1 else 0),q,by split;exact .inr U;exact .inl U,g.mono (by lia),?_⟩
     exact aG (ab (ac (aG (ab (aq (aM (dA (z:=(n:Int)) (m:=n) U (by lia) (by lia) (by lia)) (by lia) C)) U) hs) (ac U U P) U) U) U)
    refine⟨v,B,none,none,none,Z (.lst cs),by rw[G,V],I,k2.mono (by lia),?_⟩;subst w2;exact bh f0 (bh f1 (ck (c 2 _ _) (ai (aj (aq (aM (dA (z:=(n:Int)+1) (m:=n+1) U (by lia) (by lia) (by lia)) (by lia) K))) (aj (aq (aM (aR U) E x))))))
   ·have f2:=c 2 (pus p rest) [Z (.lst (bf 0 (2^n))),none,none,none,none,none]
    rw[show (f==2)=false by simpa using w2]at f2
    obtain⟨v,B,G,I,k2,x⟩:=f9 (te:=cx) (l:=[some (.h 1)]) (a:=none) (ds:=bf 0 (2 ^ n)) (rest:=rest) B01 h (by lia) (λd hd q Z' g o=>by
     obtain⟨y,A,a,b,e⟩:=Av (rest:=rest) g o
     exact⟨y,A,a,b,ah U e⟩)
    refine⟨v,B,none,none,none,none,by rw[G,V],I,k2.mono (by lia),?_⟩;exact bh f0 (bh f1 (bh f2 (aj (aq (aM (aR U) E x)))))
theorem wK (s:Sto) (n:Nat) (hn:n<=4):xy s (.d (.int 1)) (.d (.int (n:Int)))=some (.int ((2^n:Nat):Int)):=by
 show (if mx 1 _ then some _ else none)=_;rw[iFP ⟨by lia,by lia,by decide⟩,qcF];rfl
theorem sD {p:Pus}{Zq:Int} (h:okU p Zq) (R:Zq<=1000) (hn:n<=4):∃ (fs:List D) (j:Pus),fs.length=2^n/\(∀ u∈fs,fW u)/\okU j (Zq+200)/\dq [.h 1,.d (.int (n:Int))] (pus p rest)=some (.d (.tup fs),pus j rest):=by
 have h16:2^n<=16:=qaT (qbs (by decide) hn) (by decide);obtain⟨f,p1,y0,y1,J,K⟩:=dO h (by lia) (m:=6) (by decide) (by decide);obtain⟨v,B,o4,o6,o7,o8,G,I,k2,x⟩:=A6 J (by lia) hn;obtain⟨z,S,z0,z1,X,C⟩:=dO k2 (by lia) (m:=4) (by decide) (by decide);have par:yU 2 3 (aa (av aJ (aa (iV 0) (aa (iC (.int 6)) ae))) (aa (aw (lA (aa (iOp xy (iC (.int 1)) (iV 1)) ae))) ae)) [some (.h 1),Z (.int (n)),none,none,none,none,none,none,none] (pus p rest)=some (.nx [some (.h 1),Z (.int (n)),Z (.int f),Z (.lst (bf 0 (2^n))),none,none,none,none,none] (pus p1 rest)):=by
  have q:aa (av aJ (aa (iV 0) (aa (iC _) ae))) (aa (aw (lA (aa (iOp xy (iC _) (iV 1)) ae))) ae) [some _,some _,none,none,none,none,none,none,none] (pus p rest)=some ([.d _,.d _],pus p1 rest):=ab (ah U K) (ab (aq (CF (ac U U (wK _ n hn)) (by lia))) U);simp only[yU,q,qaa];rfl
 have M:aE dEq (av aJ (aa (iV 0) (aa (iC _) ae))) (iC _) [some _,Z (.int (n)),Z (.int f),Z (.lst (bf 0 (2^n))),o4,Z (.lst v),o6,o7,o8] (pus B rest)=some (z==0,pus S rest):=ao (ah U C) U (cJ _ _ _);by_cases o:z=0
 ·rw[show (z==0)=true by simpa using o]at M
  obtain⟨fs,p4,l4,b4,k4,e4⟩:=f9 (te:=eJ) (l:=[some _]) (ds:=v) fW X (by lia) (λd hd q Z' g o=>by
   obtain⟨r,A,O,Y,b,e⟩:=dO g o (m:=3) (by decide) (by decide);have hv:fW d:=by rcases I d hd with rfl|rfl;exact .inr (.inl U);exact .inr (.inr U)
   obtain⟨y,F,P⟩:=m4 (pus A rest) (cs:=[d,d,.non]) O Y;refine⟨y,A,?_,b,ac U (ah U e) P⟩;rcases qay.mp F with rfl|F
   ·exact hv
   ·rcases qay.mp F with rfl|F
    ·exact hv
    ·rw[qal.mp F];exact .inl U)
  refine⟨fs,p4,by rw[l4,G],b4,k4.mono (by lia),?_⟩;exact au U (ai par (ai x (ai (ck M (aj (aq (aM (aR U) (by lia) e4)))) U)))
 ·rw[show (z==0)=false by simpa using o]at M
  refine⟨v,S,G,λu hu=>by rcases I u hu with rfl|rfl;exact .inr (.inl U);exact .inr (.inr U),X.mono (by lia),?_⟩;exact au U (ai par (ai x (ai (bh M U) U)))
end
end Own
set_option maxHeartbeats 1000000
namespace Own
open PySem L2
open Sx (Pb Tb Good Named Fe LV ZV piv lexP leastR leaveL sumN unit colV basis)
theorem Bk {a b:List Int} (h:leL a b) (c:a≠b):bq a b=true:=by
 cases e:bq a b with
 |true=>rfl
 |false=>exact absurd (ii a b e h) c
theorem xM {l:List (List Int)} (hn:l.Nodup):(ax l).Pairwise λa b=>bq a b=true:=by
 have c:=(aI l).nodup_iff.mpr hn;exact (bQ l).imp₂ (λa b d c=>Bk d c) c
theorem Bt {ks:List (List Int)}{X:List Int->Int} (h:ks.Pairwise λa b=>bq a b=true):(aY ks X).Pairwise λp q=>bq p.1 q.1=true:=by
 unfold aY;rw[qdA];exact h.sublist qeW
theorem tP {ks:List (List Int)}{X:List Int->Int}{p:Prt} (h:p∈aY ks X):p.1∈ks/\p.2=X p.1/\p.2≠0:=by
 obtain⟨t,a,rfl⟩:=qaF.mp h;obtain⟨c,b⟩:=qbO.mp a;exact⟨c,U,of_decide_eq_true b⟩
theorem xV {st:Sto} (t:List Int):lcI (.nm 0) aN cX [none] (t.map D.int) st=some ((t.map λ_=>true).map D.bl,st):=by
 rw[qaO];exact kJ _ λk _=>ah U (ki k)
theorem pi (ls:List (List Int)):ph (ls.map ak)=some ((ax ls).map ak):=by
 cases ls with
 |nil=>rfl
 |cons t r=>
  show (fC _).map _=_;rw[gC];rfl
def tmO (k m:Nat):List Int:=((qak k).filter λi=>m.testBit i).map λi=>((i:Nat):Int)
theorem yO:∀ n:Fin 7,cn n.val=(qak (2^n.val)).map (tmO n.val):=by decide +kernel
theorem nU (r k:Nat):onI (r:Int) (k:Int)=if r.testBit k=true then 1 else 0:=by
 unfold onI;rw[qa6,Nat.testBit_eq_decide_div_mod_eq];by_cases q:r / 2^k%2=1
 ·lia
 ·lia
theorem vn {v x:Ef}{env:Ev}{st:Sto}{ds:List D}{d:D} (a:∀ s,v env s=some (.h st.length,s)) (c:x env (st++[.l ds])=some (.d d,st++[.l ds])) (f:ds.length<1000000):d5 (cD bv v (aa x ae)) env (st++[.l ds])=some (.nx env (st++[.l (ds++[d])])):=by
 have e:cD bv v (aa x ae) env (st++[.l ds])=some (.d .non,st++[.l (ds++[d])]):=by
  show (v env (st++[.l ds])).bind _=_;rw[a,qaa];rw[(ab (b:=ae) c U)];show (lg _ st.length).bind _=_;rw[dn,qaa,qaa,show bv ds [.d d]=some (.non,ds++[d]) from iFP f]
  simp
 show (cD bv v _ env _).map _=_;rw[e];rfl
theorem FB {α:Type}{tt:Tf}{te:Ef}{l:Ev}{a:Option W}{st:Sto}{g:α->D} (c:α->Bool):∀ {ks:List α},(∀ k∈ks,tt (Z (g k)::l) st=some (c k,st))->(∀ d s,te (Z d::l) s=some (.d d,s))->lcI (.nm 0) tt te (a::l) (ks.map g) st=some ((ks.filter c).map g,st):=by
 intro ks p o
 obtain⟨r,q,n,j,rfl⟩:=gj (g:=.nm 0) (env:=a::l) (λi m s=>m=((ks.take i).filter c).map g/\s=st) (ys0:=[]) ⟨U,U⟩ (λi d m s hd ⟨e,es⟩=>by
  subst e es;rw[qaA]at hd;obtain⟨k,h,rfl⟩:=qad.mp hd;have f:=p k (qbr h);have b:ks.take (i+1)=ks.take i++[k]:=by rw[qfm,h];rfl
  refine⟨_,U,?_⟩;cases hc:c k with
  |true=>rw[hc]at f;exact .inl ⟨_,_,_,f,o _ _,by rw[b,qd4,qbv,qcA hc];rfl,U⟩
  |false=>rw[hc]at f;exact .inr ⟨_,f,by rw[b,qd4,qcB (by rw[hc];exact qaB),qhQ,qbl],U⟩)
 rw[qah,qde]at j;rw[n,<-j];rfl
def bK (n:Nat) (m:Int):List (List Int):=(xf n).filter λt=>decide ((t.length:Int)<=m)
theorem uf {st:Sto}{n:Nat}{m:Int} (hn:n<=4):cO [.d (.int (n:Int)),.d (.int m)] st=some (.d (tsD (bK n m)),st):=by
 have E:2^n<=16:=qaT (qbs (by decide) hn) (by decide);obtain⟨y,G,v,⟨o,c,rfl⟩,rfl⟩:=bF (g:=.nm 3) (body:=hU) (ds:=bf 0 (2^n)) (λi env s=>(∃ o c,env=[Z (.int (n:Int)),Z (.int m),some (.h st.length),o,c])/\s=st++[.l ((((qak i).map (tmO n)).filter λt=>decide ((t.length:Int)<=m)).map ak)])
  (env:=[Z (.int (n:Int)),Z (.int m),some (.h st.length),none,none]) (st:=st++[.l []]) ⟨⟨_,_,U⟩,U⟩ (λi d env s hd ⟨⟨o,c,e⟩,es⟩=>by
   subst e es;obtain⟨rfl,hi⟩:=mq hd;generalize hA:((qak i).map (tmO n)).filter (λt=>decide ((t.length:Int)<=m))=A;have F:A.length<=16:=by
    rw[<-hA];refine qaT (qb6 _ _) ?_;rw[qah,qat];lia
   have u:lcI (.nm 0) cU cI [none,Z (.int (i:Int))] (bf 0 n) (st++[.l (A.map ak)])=some ((tmO n i).map D.int,st++[.l (A.map ak)]):=by
    have:=FB (tt:=cU) (te:=cI) (l:=[Z (.int (i:Int))]) (a:=none) (st:=st++[.l (A.map ak)]) (g:=λk:Nat=>D.int (0+k)) (λk=>i.testBit k) (ks:=qak n) (λk H=>by
     have e:uA (st++[.l (A.map ak)]) (.d (.int ((i:Int) / 2^((0:Int)+k).toNat))) (.d (.int 1))=some (.int (if i.testBit k=true then 1 else 0)):=by
      rw[<-nU,qbV,<-yt (by lia)];rfl
     have f:((if i.testBit k=true then (1:Int) else 0)==1)=i.testBit k:=by cases i.testBit k<;>rfl
     have:=ao (g:=dEq) (ac (g:=uA) (ac (g:=xz) (a:=iV 1) (b:=iV 0) (env:=[Z (.int (0+(k:Int))),Z (.int (i:Int))]) (st:=st++[.l (A.map ak)]) U U (Ak _ (by lia))) (b:=iC (.int 1)) U e) (b:=iC (.int 1)) U (cJ _ _ _)
     rw[f]at this
     exact this) (λd s=>rfl)
    unfold bf;rw[this];unfold tmO;rw[qaO]
    congr 1
    congr 1
    refine qci λk _=>?_;show D.int (0+(k:Int))=D.int (k:Int);rw[qbV]
   have w:(bf 0 n).length<=1000000:=by rw[cT];lia
   have s1:aA (.nm 4) (iCB f8 (aa (aw (iLc 1 [3] (bz (aa (iV 0) ae)) (.nm 0) cU cI)) ae)) [Z (.int (n:Int)),Z (.int m),some (.h st.length),Z (.int (i:Int)),c] (st++[.l (A.map ak)])=some (.nx [Z (.int (n:Int)),Z (.int m),some (.h st.length),Z (.int (i:Int)),Z (ak (tmO n i))] (st++[.l (A.map ak)])):=aj (aG (ab (aq (aM (dA (z:=(n:Int)) (m:=n) U (by lia) (by lia) (by lia)) w u)) U) U);have r:=by
    have:aE dLe (iCB a8 (aa (iV 4) ae)) (iV 1) [Z (.int (n:Int)),Z (.int m),some (.h st.length),Z (.int (i:Int)),Z (ak (tmO n i))] (st++[.l (A.map ak)])=some (decide ((((tmO n i).map D.int).length:Int)<=m),st++[.l (A.map ak)]):=rfl
    rw[qah]at this;exact this
   have p:(((qak (i+1)).map (tmO n)).filter λt=>decide ((t.length:Int)<=m))=A++[tmO n i].filter λt=>decide ((t.length:Int)<=m):=by rw[qdU,qbv,qd4,hA];rfl
   by_cases q:((tmO n i).length:Int)<=m
   ·rw[decide_eq_true q]at r
    rw[qcA (by simpa using q)]at p;refine⟨_,_,_,U,.inl (ai s1 (ck r (vn (d:=ak (tmO n i)) (λs=>rfl) U (by rw[qah];lia)))),⟨_,_,U⟩,?_⟩;rw[p,qbv];rfl
   ·rw[decide_eq_false q]at r
    rw[qcB (by simpa using q)]at p;refine⟨_,_,_,U,.inl (ai s1 (bh r U)),⟨_,_,U⟩,?_⟩
    rw[p,qhQ,qbl])
 rw[cT]at v;have hg:((qak (2^n)).map (tmO n)).filter (λt=>decide ((t.length:Int)<=m))=(cn n).filter λt=>decide ((t.length:Int)<=m):=by rw[<-yO ⟨n,by lia⟩]
 rw[hg]at v;have C:((cn n).filter λt=>decide ((t.length:Int)<=m)).length<64:=by
  have:=qb6 (λt:List Int=>decide ((t.length:Int)<=m)) (cn n)
  rw[jH]at this;lia
 have j:hJ (st++[.l (((cn n).filter λt=>decide ((t.length:Int)<=m)).map ak)]) [.h st.length]=some ((bK n m).map ak):=by
  show (lg (st++[.l (((cn n).filter λt=>decide ((t.length:Int)<=m)).map ak)]) st.length).bind (λds=>if ds.length<64 then ph ds else none)=_;rw[dn,qaa,iFP (by rw[qah];exact C),pi,jd];rfl
 generalize ((cn n).filter λt=>decide ((t.length:Int)<=m)).map ak=A at *;have B:iCL hJ (aa (iV 2) ae) [Z (.int (n:Int)),Z (.int m),some (.h st.length),o,c] (st++[.l A])=some ((bK n m).map ak,st++[.l A]):=by
  have q:=ab (a:=iV 2) (b:=ae) (env:=[Z (.int (n:Int)),Z (.int m),some (.h st.length),o,c]) (st:=st++[.l A]) (x:=.h st.length) U U;simp only[iCL,q,qaa,j,qap]
 have:=fP (n:=5) (k:=2) (b:=jx) (ws:=[.d (.int (n:Int)),.d (.int m)]) (st:=st) U (ai (e:=[Z (.int (n:Int)),Z (.int m),some (.h st.length),none,none]) (s:=st++[.l []]) U (ai (bn (dA (z:=((2^n:Nat):Int)) (m:=2^n) (ac U U ((λs=>wK s n hn) _)) (by lia) (by lia) (by lia)) v) (aD (aG (ab (aq B) U) U))))
 rw[qcH]at this;exact this
end Own
set_option maxHeartbeats 1000000
namespace Own
open PySem L2
open Sx (Pb Tb Good Named Fe LV ZV piv lexP leastR leaveL sumN unit colV basis)
theorem mE {α:Type}{A:List α}{j:Nat}{v:α} (hA:A.length=j+1) (h:A[j]?=some v):atI A (-1)=some v:=by
 show (ixN A.length _).bind _=_;rw[hA]
 have:ixN (j+1) (-1)=some j:=by
  unfold ixN;rw[iFN (by decide),iFP (by lia)]
  congr 1
  lia
 rw[this,qaa,h]
theorem xN {st:Sto}{kd:Str}{ts:List (List Int)}{ps:List Prt} (R:ps.length<=1000) (O:ps.Pairwise λp q=>bq p.1 q.1=true) (hm:∀ p∈ps,p.1∈ts/\p.1.length<=1000/\p.2≠0):d9 [.d (.str kd),.d (tsD ts),.d (bA kd ps)] st=some (.d (.bl true),st):=by
 obtain⟨E,S,F,⟨y,rfl⟩,rfl⟩:=bF (g:=.nm 4) (body:=fJ) (ds:=ps.map bP) (λi env s=>(∃ y,env=[Z (.str kd),Z (tsD ts),Z (bA kd ps),some (.h st.length),y])/\s=st++[.l ((ps.take i).map λp=>ak p.1)])
  (st:=st++[.l []]) ⟨⟨_,U⟩,U⟩ (λi d env s hd ⟨⟨y,e⟩,es⟩=>by
   subst e es;obtain⟨p,r,rfl⟩:=x6 hd;obtain⟨J,m2,m3⟩:=hm p (qbr r);have hi:i<ps.length:=(qar.mp r).1;have w:(ps.take (i+1)).map (λp:Prt=>ak p.1)=(ps.take i).map (λp:Prt=>ak p.1)++[ak p.1]:=by rw[qfm,r,qbv];rfl
   have hA:((ps.take i).map λp:Prt=>ak p.1).length=i:=by rw[qah,qdf];lia
   have m:∀ j,i=j+1->∃ q:Prt,bq q.1 p.1=true/\((ps.take i).map λp:Prt=>ak p.1)[j]?=some (ak q.1):=λj V=>by
    have o:j<ps.length:=by lia
    refine⟨ps[j],?_,?_⟩
    ·have:=qgc.mp O j i o hi (by lia)
     rw[qam hi,qeK]at r;rw[<-r];exact this
    ·rw[qaA,List.getElem?_take,iFP (by lia),qam o];rfl
   rw[w];generalize (ps.take i).map (λp:Prt=>ak p.1)=A at *;have t:lH (st++[.l A]) (.d (ak p.1)) (.d (tsD ts))=some (.bl false):=by
    show (fC [ak p.1]).bind _=_;rw[show [ak p.1]=[p.1].map ak from U,gC,qaa,show iy (st++[.l A]) (.d (tsD ts))=some (ts.map ak) from U,qaa,gC];show some (D.bl (!decide (p.1∈ts)))=_;rw[decide_eq_true J];rfl
   have u:fF (aE dNe (iV 3) (aw (bO ae))) (cK (aE uB (iOp dIx (iV 3) (iUn gI (iC (.int 1)))) (iOp dIx (iV 4) (iC (.int 0))))) [Z (.str kd),Z (tsD ts),Z (bA kd ps),some (.h st.length),Z (.tup [ak p.1,.int p.2])] (st++[.l A])=some (false,st++[.l A]):=by
    have c:dNe (st++[.l A]) (.h st.length) (.d (.lst []))=some (.bl (!decide (A=[]))):=by
     show (((lg (st++[.l A]) st.length).map Kin.ls).bind λa=>(some (Kin.ls [])).bind λb=>(eqK a b).map λk=>D.bl (!k))=_;rw[dn,qap,qaa,qaa];cases A with
     |nil=>rfl
     |cons x A=>
      show (if (x::A).length=([]:List D).length then (if (x::A).all (okD 60)=true/\([]:List D).all (okD 60)=true then some (dm (x::A) []) else none) else some false).map (λk=>D.bl (!k))=_;rw[iFN (by simp)];rfl
    cases i with
    |zero=>
     have:A=[]:=List.eq_nil_of_length_eq_zero hA
     rw[decide_eq_true this]at c;exact mj (ao U U c)
    |succ j=>
     obtain⟨q,L,G⟩:=m j U
     have:¬ A=[]:=λe=>by rw[e]at hA;cases hA
     rw[decide_eq_false this]at c;have v:dIx (st++[.l A]) (.h st.length) (.d (.int (-1)))=some (ak q.1):=by
      show (lg (st++[.l A]) st.length).bind (λds=>atI ds (-1))=_;rw[dn,qaa,mE hA G]
     have B:uB (st++[.l A]) (.d (ak q.1)) (.d (ak p.1))=some (.bl true):=by
      show (aU (q.1.map D.int)).bind (λns=>(aU (p.1.map D.int)).map λN=>D.bl (bq ns N))=_;rw[bb,bb,qaa,qap,L]
     exact iS (ao U U c) (n6 (k:=true) (ao (ac U U v) (ac U U (i4 _ _ _)) B))
   have M:(p.2==(0:Int))=false:=by simp[m3]
   have H:(p.1.map D.int).length<=1000000:=by rw[qah];lia
   have hb:(p.1.map λ_=>true).all id=true:=by simp
   have f:=F3 (a:=aa (aw (iLc 1 [] (aB (iOp dIx (iV 4) (iC (.int 0)))) (.nm 0) aN cX)) ae) (env:=[Z (.str kd),Z (tsD ts),Z (bA kd ps),some (.h st.length),Z (.tup [ak p.1,.int p.2])]) (st:=st++[C.l A]) (ab (aq (aM (bx (ac U U (i4 _ _ _))) H (xV (st:=st++[C.l A]) p.1))) U);rw[hb]at f;refine⟨_,_,_,U,.inl ?_,⟨some (.d (.tup [ak p.1,.int p.2])),U⟩,U⟩;generalize bA kd ps=P at *;generalize tsD ts=T at *;generalize p.2=z at *;generalize I:st++[C.l A]=s at *;have K:d5 (cD bv (iV 3) (aa (iOp dIx (iV 4) (iC (.int 0))) ae)) [Z (.str kd),Z T,Z P,some (.h st.length),Z (.tup [ak p.1,.int z])] s=some (.nx [Z (.str kd),Z T,Z P,some (.h st.length),Z (.tup [ak p.1,.int z])] (st++[.l (A++[ak p.1])])):=by
    rw[<-I];exact vn (λs=>rfl) (ac U U (i4 _ _ _)) (by rw[hA];lia)
   exact ai (bh (s:=s) (eV (s:=s) U (eV (s:=s) U (eV (s:=s) (n6 (k:=true) (t5 (ah (ab (ac U U (gK _ _ _)) U) (ki z)))) (ao (ac U U (gK _ _ _)) U (by rw[cJ,M]))))) U) (ai (bh (s:=s) (eV (s:=s) U (eV (s:=s) (n6 (k:=true) (t5 f)) (ao (ac U U (i4 _ _ _)) U t))) U) (ai (bh (s:=s) u U) K)))
 have Q:∀ s,dNe s (.d (.str kd)) (.d (.str kd))=some (.bl false):=λs=>by
  show some (D.bl (!(kd==kd)))=_;rw[beq_self_eq_true];rfl
 rw[qah,qde]at F;unfold bA at *;generalize ps.map bP=PP at *;generalize tsD ts=T at *
 have:=fP (n:=5) (k:=3) (b:=gN) (ws:=[.d (.str kd),.d T,.d (.tup [.str kd,.tup PP])]) (st:=st) U (ai (bh (s:=st) (eV (s:=st) U (eV (s:=st) U (eV (s:=st) U (ao (ac U U (i4 _ _ _)) U (Q _))))) U) (ai (bh (s:=st) U U) (ai (e:=[Z (.str kd),Z T,Z (.tup [.str kd,.tup PP]),some (.h st.length),none]) (s:=st++[.l []]) U (ai (bn (bx (ac U U (gK _ _ _))) F) U))))
 rw[qcH]at this;exact this
end Own
set_option maxHeartbeats 1000000
namespace Own
open PySem L2
open Sx (Pb Tb Good Named Fe LV ZV piv lexP leastR leaveL sumN unit colV basis)
theorem sA {fs:List D}{i:Nat}{d:D} (h:(ce 0 fs)[i]?=some d):i<fs.length/\d=.tup [.int ((i:Nat):Int),fs.getD i .non]:=by
 rw[dP]at h;by_cases hi:i<fs.length
 ·rw[qam hi,qap,qeK,qbh]at h
  exact⟨hi,by rw[qaE,qam hi,<-h];rfl⟩
 ·rw[qaC (by lia)]at h
  cases h
theorem jG:∀ (ds:List D) (k:Nat),(ce k ds).length=ds.length
 |[],_=>rfl
 |_::ds,k=>by rw[ce,qaq,qaq,jG ds]
theorem ltF (s:Sto) {a b:Int} (h:¬ a<b):dLt s (.d (.int a)) (.d (.int b))=some (.bl false):=by
 show some _=_;rw[decide_eq_false h]
theorem gtF (s:Sto) {a b:Int} (h:¬ b<a):dGt s (.d (.int a)) (.d (.int b))=some (.bl false):=by
 show some _=_;rw[decide_eq_false h]
theorem Fq (s:Sto) {d:D} (h:d≠.non):iZ s (.d d) (.d .non)=some (.bl false):=by
 cases d<;>first|rfl|exact absurd U h
theorem zr (s:Sto) {d:D} (h:d≠.non):mN s (.d d) (.d .non)=some (.bl true):=by
 cases d<;>first|rfl|exact absurd U h
theorem Cw {fs:List D}{w:Nat->Int}{i:Nat}{d:D} (h:(i5 fs (mpI fs.length w))[i]?=some d):i<fs.length/\d=.tup [fs.getD i .non,.int (w i)]:=by
 rw[fV]at h;by_cases hi:i<fs.length
 ·rw[bm hi,qam hi,qaa,qap,qeK]at h
  exact⟨hi,by rw[qaE,qam hi,<-h];rfl⟩
 ·rw[qaC (by lia)]at h
  cases h
theorem vj {st:Sto}{fs:List D}{w:Nat->Int} (k:∀ r,r<fs.length->0<=w r) (hn:∀ r,r<fs.length->fs.getD r .non=.non->w r=0):cA [.d (.tup fs),.d (.tup (mpI fs.length w))] st=some (.d (.bl true),st):=by
 obtain⟨f,h,j,⟨b,c,rfl⟩,rfl⟩:=bF (g:=.tp [2,3]) (body:=dh) (λi env s=>(∃ b c,env=[Z (.tup fs),Z (.tup (mpI fs.length w)),b,c])/\s=st)
  ⟨⟨_,_,U⟩,U⟩ (λi d env s hd ⟨⟨b,c,e⟩,es⟩=>by
   subst e es;obtain⟨hi,rfl⟩:=Cw hd;have w0:=k i hi;have wn:=hn i hi;refine⟨_,_,s,U,.inl ?_,⟨some (.d (fs.getD i .non)),Z (.int (w i)),U⟩,U⟩;generalize fs.getD i .non=v at *;refine bh (eV (n6 (t5 (ah U (ki _)))) (eV (ao U U (ltF _ (by lia))) ?_)) U;by_cases e:v=.non
   ·subst e
    exact iS U (ao U U (gtF _ (by lia)))
   ·exact mj (ao U U (Fq _ e)))
 have a:dNe h (.d (.int ((mpI fs.length w).length))) (.d (.int (fs.length)))=some (.bl false):=by
  rw[aC];show some (D.bl (!(_==_)))=_;rw[beq_self_eq_true];rfl
 exact au U (ai (bh (eV (s:=h) U (ao (aG (ab U U) U) (aG (ab U U) U) a)) U) (ai (bn U j) U))
def sR (fs:List D) (g:Nat->Int) (r:Nat):Int:=if dC (fs.getD r .non)=true then 0 else g r
theorem FN {d:D} (h:d≠.non):¬ dC d=true:=by
 cases d<;>first|exact absurd U h|exact Bool.noConfusion
theorem Ge (s:Sto) {d:D} (a:fW d) (hn:d≠.non):∃ z:Int,d=.int z/\a9 s (.d (.int 2)) (.d d)=some (.int (2*z))/\2*z - 1=sgD d:=by
 rcases a with rfl|rfl|rfl
 ·exact absurd U hn
 ·exact⟨0,U,bI s (dM (by decide)),U⟩
 ·exact⟨1,U,bI s (dM (by decide)),U⟩
theorem wS (b:Bool) (t:List Int) (row:Int):(aO b t row).natAbs<=1:=by
 unfold aO;split<;>split<;>decide
theorem Bo {st:Sto}{fs:List D}{b:Bool}{t:List Int}{w:Nat->Int} (x:fs.length<=1000) (q:∀ d∈fs,fW d) (o:(∀ k∈t,0<=k/\k<=20)/\t.length<=20) :
  jo [.d (.tup fs),.d (.str (aF b)),.d (ak t),.d (.tup (mpI fs.length w))] st=some (.d (.int (sumN fs.length (sR fs λr=>w r*sgD (fs.getD r .non)*aO b t r))),st):=by
 obtain⟨j,v,l,⟨a,c,rfl⟩,rfl⟩:=bF (g:=.tp [5,6]) (body:=jV) (λi env s=>(∃ a c,env=[Z (.tup fs),Z (.str (aF b)),Z (ak t),Z (.tup (mpI fs.length w)),Z (.int (sumN i (sR fs λr=>w r*sgD (fs.getD r .non)*aO b t r))),a,c])/\s=st)
  ⟨⟨_,_,U⟩,U⟩ (λi d env s hd ⟨⟨a,c,e⟩,es⟩=>by
   subst e es;obtain⟨hi,rfl⟩:=sA hd;have es:sumN (i+1) _=sumN i _+sR fs (λr=>w r*sgD (fs.getD r .non)*aO b t r) i:=rfl;have f:fW (fs.getD i .non):=by
    rw[qaE,qam hi];exact q _ (qbQ hi)
   refine⟨_,[some _,some _,some _,some _,some _,Z (.int (i)),Z (fs.getD i .non)],s,U,.inl ?_,⟨_,_,U⟩,U⟩;have u:sR fs (λr=>w r*sgD (fs.getD r .non)*aO b t r) i=if dC _=true then 0 else w i*sgD _*aO b t i:=rfl;rw[es,u];have p:=wS b t (i);generalize fs.getD i .non=d at *;by_cases e:d=.non
   ·subst e
    rw[iFP (show dC D.non=true from U),qeb];exact bh U U
   ·obtain⟨z,rfl,n,m⟩:=Ge s f e
    have sg1:(sgD (.int z)).natAbs<=1:=by rcases Aj with h|h<;>rw[h]<;>decide
    rw[<-m]at sg1 ⊢
    exact ck (ao U U (zr _ e)) (aj (ac U (ac (ac (ac U U (db (bm hi))) (ac (ac U U n) U U) (bI s (gv (by lia)))) (ah (ab U (ab U (ab U U))) (wg (by lia) o.1 (by lia))) (bI s (gv (by lia)))) U)))
 rw[jG]at l;exact au U (ai (aj U) (ai (bn U l) U))
end Own
set_option maxHeartbeats 1000000
namespace Own
open PySem L2
open Sx (Pb Tb Good Named Fe LV ZV piv lexP leastR leaveL sumN unit colV basis)
theorem kx (row k:Int):∀ t:List Int,bL row (t++[k])=bL row t+onI row k
 |[]=>by show onI row k+0=0+onI row k;lia
 |j::t=>by
  show onI row j+bL row (t++[k])=onI row j+bL row t+onI row k;rw[kx row k t];lia
theorem qc (row:Int):∀ t:List Int,0<=bL row t/\bL row t<=(t.length:Int)
 |[]=>⟨qb3 _,qb3 _⟩
 |j::t=>by
  have:=qc row t
  have e:bL row (j::t)=onI row j+bL row t:=rfl;rw[e,qaq];rcases wy row j with q|q<;>rw[q]<;>lia
theorem Cq {b:Bool}{t:List Int}{k row:Int} (h:onI row k=0):aO b (t++[k]) row=if b=true then 0 else aO b t row:=by
 unfold aO;rw[kx,h,qaz,qbI]
 have:=qc row t
 cases b with
 |true=>rw[iFP U,iFP U,iFN (by lia)]
 |false=>rw[iFN qaB,iFN qaB,iFN qaB,qeb]
theorem EL {b:Bool}{t:List Int}{k row:Int} (h:onI row k=1):aO b (t++[k]) row=if b=true then aO b t row else - aO b t row:=by
 unfold aO;rw[kx,qaz,qbI];cases b with
 |true=>
  rw[iFP U,iFP U,iFP U];by_cases q:bL row t=(t.length)
  ·rw[iFP q,iFP (by lia)]
  ·rw[iFN q,iFN (by lia)]
 |false=>
  rw[iFN qaB,iFN qaB,iFN qaB];by_cases q:bL row t%2=1
  ·rw[iFP q,iFN (by lia)];rfl
  ·rw[iFN q,iFP (by lia)]
theorem oT {r q:Int}:∀ {t:List Int},(∀ k∈t,onI r k=onI q k)->bL r t=bL q t
 |[],_=>rfl
 |k::t,h=>by
  show onI r k+bL r t=onI q k+bL q t;rw[h k qag,oT λj a=>h j (qaj _ a)]
theorem wT {b:Bool}{n r:Nat}{t:List Int} (h:t∈cn n):aO b t ((2^n+r:Nat):Int)=aO b t (r:Int):=by
 have e:bL ((2^n+r:Nat)) t=bL (r) t:=oT λk a=>by
  have hb:=(dZ n h).2 k a;obtain⟨i,rfl⟩:=qes (show 0<=k by lia);rw[nU,nU,Nat.testBit_two_pow_add_gt (by lia)]
 unfold aO;rw[e]
theorem sM (b:Bool):∀ (n:Nat) (v:Nat->Int),(∀ t∈cn n,sumN (2^n) (λr=>v r*aO b t r)=0)->∀ r,r<2^n->v r=0
 |0,v,h,r,j=>by
  have:=h [] (by simp[cn])
  have e:sumN (2^0) (λr=>v r*aO b [] r)=v 0:=by
   show 0+v 0*aO b [] _=v 0;cases b<;>simp[aO,bL]
  rw[e]at this
  have:r=0:=by lia
  subst this;assumption
 |n+1,v,h,r,j=>by
  have i:2^(n+1)=2^n+2^n:=by lia
  have lo:=λt a=>by
   have:=h t (by exact qaV _ a)
   rw[i,Sx.sumN_append,Sx.sumN_congr (f:=λk=>v (2^n+k)*aO b t _) λk _=>by rw[wT a]]at this;exact this
  have hi:∀ t∈cn n,(if b=true then 0 else sumN (2^n) (λr=>v r*aO b t r))+(if b=true then sumN _ (λr=>v (2^n+r)*aO b t r) else - sumN (2^n) (λr=>v (2^n+r)*aO b t r))=0:=λt a=>by
   have:=h _ (by exact qav _ (qaF.mpr ⟨t,a,U⟩))
   rw[i,Sx.sumN_append,Sx.sumN_congr (f:=λk=>v (2^n+k)*aO b _ _) (g:=λk=>if b=true then v (2^n+k)*aO b t k else -1*(v (2^n+k)*aO b t k)) λk d=>by
     rw[EL (by rw[nU,Nat.testBit_two_pow_add_eq,qgH d];rfl),wT a];cases b
     ·lia
     ·rw[iFP U,iFP U],
    Sx.sumN_congr (g:=λk=>if b=true then 0 else v k*aO b t k) λk d=>by
     rw[Cq (by rw[nU,qgH d];rfl)];cases b
     ·rw[iFN qaB,iFN qaB]
     ·rw[iFP U,iFP U,qa1]]at this
   cases b
   ·simp only[qbm,if_false,Sx.sumN_mul]at this ⊢
    lia
   ·simp only[if_true,Sx.sumN_zero]at this ⊢
    exact this
  have c:(∀ r,r<2^n->v (2^n+r)=0)/\∀ r,r<2^n->v r=0:=by
   cases b with
   |true=>
    exact⟨(sM true n _ λt a=>by have:=hi t a;lia),(sM true n v λt a=>by have:=hi t a;have:=lo t a;lia)⟩
   |false=>
    exact⟨(sM false n _ λt a=>by have:=hi t a;have:=lo t a;lia),(sM false n v λt a=>by have:=hi t a;have:=lo t a;lia)⟩
  by_cases q:r<2^n
  ·exact c.2 r q
  ·have:=c.1 (r - 2^n) (by lia)
   rw[show 2^n+_=r by lia]at this;exact this
theorem Ay {t:List Int}{k row:Int}:aO true (k::t) row=onI row k*aO true t row:=by
 unfold aO;have e:bL row (k::t)=onI row k+bL row t:=rfl;rw[qaq,iFP U]
 have:=qc row t
 rcases wy row k with q|q<;>rw[q]
 ·rw[iFN (by lia),qbC]
 ·by_cases z:bL row t=(t.length)
  ·rw[iFP z,iFP (by lia)];rfl
  ·rw[iFN z,iFN (by lia)];rfl
theorem Ax {t:List Int}{k row:Int}:aO false (k::t) row=(1 - 2*onI row k)*aO false t row:=by
 unfold aO;have e:bL row (k::t)=onI row k+bL row t:=rfl;rw[e,iFN qaB,iFN qaB];rcases wy row k with q|q<;>rw[q]
 ·rw[qbV,show (1 - 2*0:Int)=1 from U,qcF]
 ·by_cases z:bL row t%2=1
  ·rw[iFP z,iFN (by lia)];rfl
  ·rw[iFN z,iFP (by lia)];rfl
theorem toF (N:Nat) (v:Nat->Int):∀ (t:List Int) (h:Nat->Int),(∀ u:List Int,u.Sublist t->sumN N (λr=>v r*(aO true u r*h r))=0)->sumN N (λr=>v r*(aO false t r*h r))=0
 |[],h,a=>by
  have:=a [] (qdi _)
  rw[<-this];exact Sx.sumN_congr λr _=>rfl
 |k::t,h,a=>by
  have e:sumN N (λr=>v r*(aO false (k::t) r*h r))=sumN N (λr=>v r*(aO false t r*h r)) - 2*sumN N (λr=>v r*(aO false t r*(onI r k*h r))):=by
   rw[<-Sx.sumN_mul,<-Sx.sumN_sub];exact Sx.sumN_congr λr _=>by rw[Ax];grind
  rw [e,(toF N v t h λu q=>a u (q.cons k)),(toF N v t _ λu q=>by
   rw[<-a _ (q.cons₂ k)]
   exact Sx.sumN_congr λr _=>by rw[Ay];grind)];rfl
theorem toT (N:Nat) (v:Nat->Int):∀ (t:List Int) (h:Nat->Int),(∀ u:List Int,u.Sublist t->sumN N (λr=>v r*(aO false u r*h r))=0)->sumN N (λr=>v r*(aO true t r*h r))=0
 |[],h,a=>by
  have:=a [] (qdi _)
  rw[<-this];exact Sx.sumN_congr λr _=>rfl
 |k::t,h,a=>by
  have b:=toT N v t (λr=>(1 - 2*onI r k)*h r) λu q=>by
   rw[<-a _ (q.cons₂ k)];exact Sx.sumN_congr λr _=>by rw[Ax];grind
  have e:2*sumN N (λr=>v r*(aO true (k::t) r*h r))=sumN N (λr=>v r*(aO true t r*h r)) - sumN N (λr=>v r*(aO true t r*((1 - 2*onI r k)*h r))):=by
   rw[<-Sx.sumN_mul,<-Sx.sumN_sub];exact Sx.sumN_congr λr _=>by rw[Ay];grind
  rw[(toT N v t h λu q=>a u (q.cons k))]at e;lia
theorem FA {N:Nat}{v:Nat->Int}{t:List Int} (b c:Bool) (d:∀ u:List Int,u.Sublist t->sumN N (λr=>v r*aO b u r)=0):sumN N (λr=>v r*aO c t r)=0:=by
 have a:∀ (b:Bool) (u:List Int),sumN N (λr=>v r*(aO b u r*(λ_=>_) r))=sumN N _:=λb u=>Sx.sumN_congr λr _=>by rw[qcX]
 cases b with
 |true=>
  cases c with
  |true=>exact d t (qdi _)
  |false=>rw[<-a];exact toF N v t _ λu q=>by rw[a];exact d u q
 |false=>
  cases c with
  |true=>rw[<-a];exact toT N v t _ λu q=>by rw[a];exact d u q
  |false=>exact d t (qdi _)
theorem mX:∀ (n:Nat) {t u:List Int},t∈cn n->u.Sublist t->u∈cn n
 |0,t,u,h,a=>by
  rw[cn,qal]at h;subst h;rw[qfz.mp a];simp[cn]
 |n+1,t,u,h,a=>by
  rcases qaR.mp h with h|h
  ·exact qaV _ (mX n h a)
  ·obtain⟨t',g,rfl⟩:=qaF.mp h
   obtain⟨f,b,rfl,c,d⟩:=List.sublist_append_iff.mp a
   have:=mX n g c
   have e:b=[]\/b=[(n:Int)]:=by
    cases d with
    |cons _ h=>exact .inl (qfz.mp h)
    |cons_cons _ h=>exact .inr (by rw[qfz.mp h])
   rcases e with rfl|rfl
   ·rw[qbl];exact qaV _ this
   ·exact qav _ (qaF.mpr ⟨f,this,U⟩)
end Own
set_option maxHeartbeats 1000000
namespace Own
open PySem L2
open Sx (Pb Tb Good Named Fe LV ZV piv lexP leastR leaveL sumN unit colV basis)
theorem rK (f:Nat->Int):∀ n,((qak n).map f).sum=sumN n f
 |0=>rfl
 |n+1=>by
  rw[qdU,qbv,List.sum_append,rK f n];show _+(f n+0)=sumN n f+f n;lia
theorem zG {l m:List Int} (h:l.Perm m):l.sum=m.sum:=by
 induction h with
 |nil=>rfl
 |cons x _ c=>rw[qcn,qcn,c]
 |swap x y l=>rw[qcn,qcn,qcn,qcn];lia
 |trans _ _ a b=>exact a.trans b
theorem wp (X g:List Int->Int):∀ ks:List (List Int),((aY ks X).map λp=>p.2*g p.1).sum=(ks.map λt=>X t*g t).sum
 |[]=>rfl
 |t::ks=>by
  have a:=wp X g ks;unfold aY at a ⊢;rw[qeq,qaw,qcn];by_cases h:X t=0
  ·rw[iFN (by simp[h]),a,h,qbC,qbV]
  ·rw[iFP (by simp[h]),qaw,qaw,qcn,a]
theorem zt (X g:List Int->Int) (ts:List (List Int)):((aY (ax ts) X).map λp=>p.2*g p.1).sum=sumN ts.length λt=>X (ts.getD t [])*g (ts.getD t []):=by
 rw[wp,zG ((aI ts).map λt=>X t*g t),iT [] _ ts,rK]
theorem uh (g:Nat->Int):∀ (r:List D) (k:Nat),((bJ k r).map λj=>g j.toNat).sum=sumN r.length λj=>if dC (r.getD j .non)=true then 0 else g (k+j)
 |[],k=>rfl
 |d::r,k=>by
  rw[qaq,qeN r.length 1,Sx.sumN_append];have b:(sumN r.length λj=>if dC ((d::r).getD (1+j) .non)=true then 0 else g (k+(1+j)))=sumN r.length λj=>if dC _=true then 0 else g _:=Sx.sumN_congr λj _=>by
   rw[qeN 1 j,qbR,show k+_=k+1+j by lia]
  have c:(sumN 1 λj=>if dC ((d::r).getD j .non)=true then 0 else g (k+j))=if dC d=true then 0 else g k:=by
   show (0)+_=_;rw[qbV];rfl
  rw[b,c,<-(uh g r _)];have a:(((k:Int)::bJ (k+1) r).map λj=>g j.toNat).sum=g k+((bJ (k+1) r).map λj=>g j.toNat).sum:=by
   rw[qaw,qcn,qa6]
  cases d<;>first|exact (qbV _).symm|exact a
theorem ug:∀ (r:List D) (k j:Nat),j<r.length->r.getD j .non≠.non->((k+j:Nat):Int)∈bJ k r
 |[],_,_,h,_=>absurd h (qcV _)
 |d::r,k,0,_,hn=>by
  have:_∈(k:Int)::bJ (k+1) r:=qag
  cases d<;>first|exact absurd U hn|exact this
 |d::r,k,j+1,h,hn=>by
  have a:=ug r (k+1) j (by rw[qaq]at h;lia) (by exact hn);rw[show k+1+j=k+(j+1) by lia]at a;cases d<;>first|exact a|exact qaj _ a
section
variable {fs:List D}{b:Bool}{ts:List (List Int)}{X:List Int->Int}{w:Nat->Int}
theorem B6 (h:Spl fs ts) (S:kl fs b ts X w) {t:List Int} (k:t∈ts):sumN fs.length (sR fs λr=>w r*sgD (fs.getD r .non)*aO b t r)=0:=by
 obtain⟨j,l,rfl⟩:=j7 k;have e:=uh (λr=>w r*sgD (fs.getD r .non)*aO b (ts.getD j []) r) fs 0;rw[iT 0 _ _,rK]at e;have f:sumN fs.length (sR fs λr=>w r*sgD _*aO b _ r)=sumN fs.length λr=>if dC _=true then 0 else w (0+r)*sgD (fs.getD (0+r) .non)*aO b (ts.getD j []) ((0+r:Nat)):=Sx.sumN_congr λr _=>by rw[qbh];rfl
 rw[f,<-e];refine Eq.trans (Sx.sumN_congr λi hi=>?_) (S.bal j l);show w (rN fs i)*sgD (fs.getD (rN fs i) .non)*aO b _ (rN fs i)=sgD (fs.getD (rN fs i) .non)*aO b _ _*w _;rw[((pe h hi).1),qbo,qaX]
theorem B7 (h:Spl fs ts) (S:kl fs b ts X w) {r:Nat} (g:r<fs.length) (hn:fs.getD r .non≠.non):0<=(sumN ts.length λt=>X (ts.getD t [])*aO b (ts.getD t []) r)*sgD (fs.getD r .non)/\((sumN ts.length λt=>X (ts.getD t [])*aO b (ts.getD t []) r)*sgD (fs.getD r .non)=0↔w r≠0):=by
 have hm:=ug fs 0 r g hn;rw[qbh]at hm;obtain⟨i,hi,e⟩:=qc1.mp hm;have a:ke fs i=(r):=by
  unfold ke;rw[qaE,qam hi];exact e
 have d:rN fs i=r:=by unfold rN;rw[a,qa6]
 have v:=S.val i hi;rw[d]at v;have c:(sumN ts.length λt=>X (ts.getD t [])*spV fs b ts i t)=(sumN ts.length λt=>X (ts.getD t [])*aO b (ts.getD t []) r)*sgD (fs.getD r .non):=by
  rw[<-Sx.sumN_right];refine Sx.sumN_congr λt _=>?_;unfold spV;rw[a,qa6,qaX (sgD _),qbo]
 rw[c]at v;exact v
end
theorem jk:∀ n:Nat,(cn n).Nodup
 |0=>by simp[cn]
 |n+1=>by
  rw[cn,qcx];refine⟨jk n,?_,?_⟩
  ·refine qiB _ (λa b c=>?_) (jk n)
   intro e;exact c (List.append_cancel_right e)
  ·intro a d b hb e
   subst e;obtain⟨t,_,rfl⟩:=qaF.mp hb
   have:=(dZ n d).2 _ (qav _ (qal.mpr U))
   lia
theorem xC {fs:List D}{ts:List (List Int)}{n:Int} (e:0<=n) (g:n<=4) (fl:fs.length=2^n.toNat) (fv:∀ u∈fs,fW u) (a:ts.Sublist (ax (cn n.toNat))):Spl fs ts:=by
 have b:2^n.toNat<=16:=qaT (qbs (by decide) (by lia:n.toNat<=4)) (by decide);refine⟨by lia,fv,?_,λt c=>?_,((aI _).nodup_iff.mpr (jk _)).sublist a⟩
 ·have:=a.length_le
  rw[(aI _).length_eq,jH]at this;lia
 ·have hm:=dZ _ ((aI _).mem_iff.mp (a.subset c))
  have f:=rO hm;exact⟨λk d=>by have:=hm.2 k d;lia,by lia⟩
theorem zY {a b:Ef}{env:Ev}{st s s':Sto}{x:W} (c:a env st=some (.d (.bl true),s)) (hb:b env s=some (x,s')):k7 a b env st=some (x,s'):=by
 simp only[k7,c,hb,qaa,blW,if_true]
theorem sum0:∀ {n:Nat}{f:Nat->Int},(∀ k,k<n->0<=f k)->sumN n f=0->∀ k,k<n->f k=0
 |0,_,_,_,k,a=>absurd a (by lia)
 |n+1,f,h,e,k,a=>by
  have g:sumN n f+f n=0:=e;have c:=Sx.sumN_nonneg (n:=n) λj b=>h j (by lia);have d:=h n (by lia);by_cases q:k=n
  ·lia
  ·exact sum0 (n:=n) (λj b=>h j (by lia)) (by lia) k (by lia)
theorem Ez (s:Sto) (n:Nat) (w:Nat->Int):yC s [.d (.tup (mpI n w))]=some (.int (sumN n w)):=by
 rw[<-rK,bH];show (aU _).map _=_;rw[bb];rfl
section
variable {fs:List D}{b:Bool}{ts:List (List Int)}{X:List Int->Int}{w v:Nat->Int}
structure Brd (fs:List D) (b:Bool) (ts:List (List Int)) (w:Nat->Int):Prop where
 nn:∀ r,r<fs.length->0<=w r
 un:∀ r,r<fs.length->fs.getD r .non=.non->w r=0
 bl:∀ t∈ts,sumN fs.length (sR fs λr=>w r*sgD (fs.getD r .non)*aO b t r)=0
theorem yy (h:Spl fs ts) (S:kl fs b ts X w):Brd fs b ts w:=⟨λr a=>(S.w0 r a).1,S.wn,λt c=>B6 h S c⟩
theorem on (h:Spl fs ts) (S:kl fs b ts X w) (hw:∀ r,r<fs.length->w r=0) {r:Nat} (a:r<fs.length) (hn:fs.getD r .non≠.non):0<(sumN ts.length λt=>X (ts.getD t [])*aO b (ts.getD t []) r)*sgD (fs.getD r .non):=by
 have q:=B7 h S a hn;rcases qd9 q.1 with z|z
 ·exact z
 ·exact absurd (hw r a) (q.2.mp z.symm)
theorem CA (h:Spl fs ts) (S:kl fs b ts X w) (hw:∀ r,r<fs.length->w r=0) {j:List (List Int)} (B:Brd fs b j v) (f:∀ t∈ts,X t=0\/t∈j):∀ r,r<fs.length->v r=0:=by
 have e:sumN fs.length (sR fs λr=>v r*((sumN ts.length λt=>X (ts.getD t [])*aO b (ts.getD t []) r)*sgD (fs.getD r .non)))=0:=by
  have l:∀ r,r<fs.length->sR fs (λr=>v r*((sumN ts.length λt=>X (ts.getD t [])*aO b (ts.getD t []) r)*sgD (fs.getD r .non))) r=sumN ts.length λt=>X (ts.getD t [])*sR fs (λr=>v r*sgD (fs.getD r .non)*aO b (ts.getD t []) r) r:=λr _=>by
   unfold sR;by_cases q:dC (fs.getD r .non)=true
   ·rw[iFP q,Sx.sumN_congr λt _=>by rw[iFP q,qa1],Sx.sumN_zero]
   ·rw[iFN q]
    show v r*_=_;rw[<-Sx.sumN_right,<-Sx.sumN_mul]
    grind
  rw[Sx.sumN_congr l,Sx.sumN_swap,Sx.sumN_congr λt c=>?_,Sx.sumN_zero];rw[Sx.sumN_mul];rcases f (ts.getD t []) (by rw[qaE,qam c];exact qbQ c) with q|q
  ·rw[q,qbC]
  ·rw[B.bl _ q,qa1]
 intro r a;by_cases q:fs.getD r .non=.non
 ·exact B.un r a q
 ·have:=(sum0 (λr a=>by
  unfold sR;split
  ·exact qb3 _
  ·rename_i q
   exact qef (B.nn r a) (qgS (on h S hw a λe=>q (by rw[e];rfl)))) e) r a
  unfold sR at this;rw[iFN (FN q)]at this;rcases qck.mp this with y|y
  ·exact y
  ·exact absurd y (Int.ne_of_gt (on h S hw a q))
theorem Ff {n:Nat} (m:fs.length=2^n) (g:∀ t∈cn n,t∈ts) (B:Brd fs b ts v):∀ r,r<fs.length->v r=0:=by
 intro r a;by_cases q:fs.getD r .non=.non
 ·exact B.un r a q
 ·have:=(sM b n (sR fs λr=>v r*sgD _) λt c=>by
  rw[<-B.bl t (g t c),m];refine Sx.sumN_congr λr _=>?_;unfold sR;split
  ·rw[qbC]
  ·rfl) r (by lia)
  unfold sR at this;rw[iFN (FN q)]at this;rcases qck.mp this with y|y
  ·exact y
  ·rcases Aj with k|k<;>rw[k]at y<;>cases y
def nzW (n:Nat) (w:Nat->Int):Bool:=((qak n).map w).any λx=>decide (x≠0)
theorem FO {n:Nat} (h:nzW n w=false):∀ r,r<n->w r=0:=λr a=>by
 unfold nzW at h;rw[qfo]at h
 have:=h _ (qaF.mpr ⟨r,qaN.mpr a,U⟩)
 exact qcY λq=>this (decide_eq_true q)
theorem FP {n:Nat} (h:nzW n w=true):¬ ∀ r,r<n->w r=0:=λz=>by
 obtain⟨x,f,q⟩:=qer.mp h;obtain⟨r,a,rfl⟩:=qaF.mp f;exact of_decide_eq_true q (z r (qaN.mp a))
theorem EY (s:Sto) (n:Nat) (w:Nat->Int):Db s [.d (.tup (mpI n w))]=some (.bl (nzW n w)):=by
 rw[bH];show (aU _).map _=_;rw[bb];rfl
def oi (fs:List D) (b:Bool) (ts:List (List Int)) (X:List Int->Int) (w:Nat->Int):D:=if nzW fs.length w=true then .tup [.str "bar",.tup (mpI fs.length w)] else .tup [.str "poly",bA (aF b) (aY (ax ts) X)]
theorem pf (h:Spl fs ts):∃ X w,kl fs b ts X w/\∀ st:Sto,∃ u,j0 [.d (.tup fs),.d (.str (aF b)),.d (tsD ts)] st=some (.d (oi fs b ts X w),st++u):=by
 obtain⟨X,w,S,g⟩:=Am h;refine⟨X,w,S,λst=>?_⟩;obtain⟨u,e⟩:=g st;refine⟨u,?_⟩;have i:=EY (st++u) fs.length w;unfold oi;generalize nzW fs.length w=z at *;cases z with
 |true=>
  exact au U (ai (aj (ah U e)) (fQ (ck (t5 (aG (ab (ac U U (gK _ _ _)) U) i)) U)))
 |false=>
  exact au U (ai (aj (ah U e)) (ai (bh (t5 (aG (ab (ac U U (gK _ _ _)) U) i)) U) U))
end
section
variable {fs:List D}{b c:Bool}{n:Nat}{v:Nat->Int}
theorem kQ {t:List Int}{m:Int}:t∈bK n m↔t∈cn n/\(t.length:Int)<=m:=by
 unfold bK xf;rw[qbO,(aI _).mem_iff]
 simp
theorem ui {t:List Int}{m j:Int} (h:t∈bK n m) (hm:m<=j):t∈bK n j:=by
 rw[kQ]at h ⊢;exact⟨h.1,by lia⟩
theorem As {t:List Int} (h:t∈cn n):t∈bK n n:=by
 rw[kQ]
 have:=rO (dZ n h)
 exact⟨h,by lia⟩
theorem eY {m:Int} (hn:n<=4) (fl:fs.length=2^n) (fv:∀ u∈fs,fW u):Spl fs (bK n m):=by
 exact (xC (n:=(n)) (by lia) (by lia) (by exact fl) fv (by exact qeW))
theorem y8 {m:Int} (fl:fs.length=2^n) (B:Brd fs b (bK n m) v):Brd fs c (bK n m) v:=by
 have e:∀ (b:Bool) (t:List Int),sumN fs.length (sR fs λr=>v r*sgD _*aO b t r)=sumN fs.length λr=>(sR fs λr=>v r*sgD (fs.getD r .non)) r*aO b t r:=λb t=>Sx.sumN_congr λr _=>by
  unfold sR;split
  ·rw[qbC]
  ·rfl
 refine⟨B.nn,B.un,λt g=>?_⟩;rw[e];refine FA b c λu i=>?_;rw[<-e];rw[kQ]at g
 have:=i.length_le
 exact B.bl u (kQ.mpr ⟨mX n g.1 i,by lia⟩)
structure Deg (fs:List D) (b:Bool) (n:Nat) (d:Nat):Prop where
 lo:d≠0->∃ v,Brd fs b (bK n ((d:Int) - 1)) v/\¬ ∀ r,r<fs.length->v r=0
 hi:∀ v,Brd fs b (bK n d) v->∀ r,r<fs.length->v r=0
theorem yD {d e:Nat} (fl:fs.length=2^n) (a:Deg fs b n d) (f:Deg fs c n e):e<=d:=by
 apply qcY;intro q;obtain⟨v,B,k⟩:=f.lo (by lia);have B2:=y8 (c:=b) fl B;exact k (a.hi v ⟨B2.nn,B2.un,λt g=>B2.bl t (ui g (by lia))⟩)
theorem Dc {d e:Nat} (fl:fs.length=2^n) (a:Deg fs b n d) (f:Deg fs c n e):d=e:=Nat.le_antisymm (yD fl f a) (yD fl a f)
end
end Own
set_option maxHeartbeats 1000000
namespace Own
open PySem L2
open Sx (Pb Tb Good Named Fe LV ZV piv lexP leastR leaveL sumN unit colV basis)
theorem AC {c:Tf}{b:Sf}{n:Nat}{env:Ev}{st s:Sto} (h:c env st=some (false,s)):bC c b (n+1) env st=some (.nx env s):=by
 unfold bC;rw[h,qaa,iFN qaB]
theorem C1 {c:Tf}{b:Sf}{n:Nat}{env e:Ev}{st s a:Sto} (h:c env st=some (true,s)) (hb:b env s=some (.nx e a)):bC c b (n+1) env st=bC c b n e a:=by
 rw[bC,h,qaa,iFP U,hb,qaa]
theorem Cg {st:Sto}{f:D}{L:Int}{n:Nat} (q:L=((2^n:Nat):Int)) (i:∀ s,a8 s [.d f]=some (.int L)):∀ (g j b:Nat) (a:Int),j+g=n->n<=60->g<b->bC cc dB b [Z f,Z (.int a),Z (.int ((2^j:Nat):Int))] st=some (.nx [Z f,Z (.int (a+g)),Z (.int ((2^n:Nat):Int))] st):=by
 intro g
 induction g with
 |zero=>
  intro j b a r hn c;obtain⟨k,rfl⟩:∃ k,b=k+1:=⟨b - 1,by lia⟩;have e:j=n:=by lia
  subst e;have h:cc [Z f,Z (.int a),Z (.int ((2^j:Nat)))] st=some (false,st):=by
   refine ao U (aG U (i st)) ?_;show some _=_;rw[q];simp
  rw[AC h]
  simp
 |succ g p=>
  intro j b a r hn c;obtain⟨k,rfl⟩:∃ k,b=k+1:=⟨b - 1,by lia⟩;have l:2^j<2^n:=qgZ (by decide) (by lia);have h:cc [Z f,Z (.int a),Z (.int ((2^j:Nat)))] st=some (true,st):=by
   refine ao U (aG U (i st)) ?_;show some _=_;rw[decide_eq_true (by lia)]
  have o:((2^(j+1):Nat))=((2^j:Nat):Int)*2:=by rfl
  have hb:dB [Z f,Z (.int a),Z (.int ((2^j:Nat)))] st=some (.nx [Z f,Z (.int (a+1)),Z (.int ((2^(j+1):Nat)))] st):=by
   rw[o];refine gy (aj (ac U U ?_)) U;show (if qgp _ 2 then some _ else none)=_;rw[iFP (gv (by decide))]
  rw[C1 h hb,(p _ k _ (by lia) hn (by lia))];have m:a+1+(g)=a+((g+1:Nat)):=by lia
  rw[m]
theorem vd {st:Sto}{n m:Int} (C:0<=n) (I:n<=5) (m0:0<=m):ek [.d (.int n),.d (.int m)] st=some (.d (.tup (((xf n.toNat).filter λt=>decide ((t.length:Int)<=m)).map ak)),st):=by
 obtain⟨q,f,j,o,rfl,rfl⟩:=bF (g:=.nm 3) (body:=jX) (ds:=bf 0 n.toNat) (λi env s=>∃ o,env=[Z (.int n),Z (.int m),Z (.lst ((dH m i).map ak)),o]/\s=st)
  ⟨none,U,U⟩ (λi d env s hd ⟨o,e,es⟩=>by
   subst e es;obtain⟨rfl,hi⟩:=mq hd;have k:(dH m i).length<=64:=qaT (sH m m0 i) (qaT (qbs (by decide) (by lia:i<=6)) (by decide));have c:lcI (.nm 0) kg jF [none,Z (.int m),Z (.int i)] ((dH m i).map ak) s =
     some ((((dH m i).map ak).filter λd=>match d with|.tup ds=>decide ((ds.length:Int)<m)|_=>false).map λd=>match d with|.tup ds=>.tup (ds++[.int i])|d=>d,s):=ig _ _ λd hd=>by
    obtain⟨t,l,rfl⟩:=qaF.mp hd
    have E:=(λt r=>by
    rw[lJ m m0]at r
    exact rO (dZ i (qbO.mp r).1)) t l
    have H:(t.map D.int).length+1<=1000000:=by rw[qah];lia
    exact⟨_,U,ao (aG U U) U U,λ_=>ac U (cR (ab U U) U (by show 1<=1000;decide)) (uq _ H)⟩
   have y:((((dH m i).map ak).filter λd=>match d with|.tup ds=>decide ((ds.length)<m)|_=>false).map λd=>match d with|.tup ds=>.tup (ds++[.int i])|d=>d) =
     (((dH m i).filter λt=>decide ((t.length)<m)).map λt=>t++[(i:Int)]).map ak:=by
    rw[qfS,qaO,qaO];have v:((λd=>match d with|.tup ds=>decide ((ds.length)<m)|_=>false) ∘ ak)=λt=>decide ((t.length)<m):=by
     funext t
     show decide _=_;rw[qah]
    rw[v];refine qci λt _=>?_;show D.tup _=D.tup _;rw[qbv];rfl
   rw[y]at c;have G:(dH m (i+1)).map ak=(dH m i).map ak++(((dH m i).filter λt=>decide ((t.length)<m)).map λt=>t++[(i:Int)]).map ak:=by rw[dH,qbv]
   have F:((dH m i).map ak).length<=1000000:=by rw[qah];lia
   have w:((dH m i).map ak).length+((((dH m i).filter λt=>decide ((t.length)<m)).map λt=>t++[(i:Int)]).map ak).length<=1000000:=by
    have:=qb6 (λt=>decide ((t.length)<m)) (dH m i)
    simp only[qah];lia
   refine⟨_,[some _,some _,some _,Z (.int i)],s,U,.inl ?_,_,U,U⟩;rw[G]
   exact aj (ac U (aq (aM (aR U) F c)) (dj _ w)))
 rw[cT]at j;have k:((dH m n.toNat).map ak).length<64:=by
  rw[qah];exact qbF (sH m m0 _) (qbF (qbs (by decide) (by lia:n.toNat<=5)) (by decide))
 have h:ph ((dH m n.toNat).map ak)=some (((xf n.toNat).filter λt=>decide ((t.length)<=m)).map ak):=by
  have z:ax (dH m n.toNat)=(xf n.toNat).filter λt=>decide ((t.length)<=m):=by rw[lJ m m0,jd];rfl
  rw[pi,z]
 generalize (dH m n.toNat).map ak=A at j k h;generalize ((xf n.toNat).filter λt=>decide (_<=m)).map ak=B at h ⊢;have p:hJ f [.d (.lst A)]=some B:=by
  show (if A.length<64 then ph A else none)=_;rw[iFP k,h]
 have u:iCL hJ (aa (iV 2) ae) [Z (.int n),Z (.int m),Z (.lst A),o] f=some (B,f):=by
  simp only[iCL,(ab (a:=iV 2) (b:=ae) (env:=[Z (.int n),Z (.int m),Z (.lst A),o]) (st:=f) (x:=.d (.lst A)) U U),qaa,p,qap]
 exact au U (gy (aj (aq (wG (ab (cR U U (by decide)) U) U (by decide)))) (gy (bn (dA U C (by lia) U) j) (aD (aG (ab (aq u) U) U))))
section
variable {fs:List D}{b:Bool}{n:Nat}
theorem EA {st:Sto} (o:fs.length=2^n) (hn:n<=4):fz [.d (.tup fs)] st=some (.d (.int (n:Int)),st):=by
 have e:=Cg (st:=st) (f:=.tup fs) U (λs=>by
  show some (D.int _)=_
  rw[o]) n 0 (2^8000) 0 (by lia) (by lia) (qaQ (show n<2^3 by lia) (qbs (by decide) (by decide)))
 rw[qbV]at e;exact au U (ai (aj U) (ai (aj U) (ai e U)))
theorem At {st:Sto}{d:Nat} (hn:n<=4):ek [.d (.int (n:Int)),.d (.int (d:Int))] st=some (.d (tsD (bK n d)),st):=by
 exact (vd (by lia) (by lia) (by lia))
def mv (fs:List D) (b:Bool) (n d:Nat) (e:D):Prop:=(d=0/\e=.non)\/(d≠0/\∃ v,e=.tup (mpI fs.length v)/\Brd fs b (bK n ((d:Int) - 1)) v/\¬ ∀ r,r<fs.length->v r=0)
theorem Bi (hn:n<=4) (fl:fs.length=2^n) (fv:∀ u∈fs,fW u):∀ (g j a:Nat) (X:List Int->Int) (w:Nat->Int) (e:D),j+g=n->g<a->kl fs b (bK n j) X w->mv fs b n j e->
  ∃ (d:Nat) (X':List Int->Int) (c:Nat->Int) (h:D),kl fs b (bK n d) X' c/\nzW fs.length c=false/\mv fs b n d h/\d<=n/\∀ st:Sto,∃ u:Sto,bC e8 fU a [Z (.tup fs),Z (.str (aF b)),Z (.int (n:Int)),Z e,Z (.int (j:Int)),Z (oi fs b (bK n j) X w)] st=some (.nx [Z (.tup fs),Z (.str (aF b)),Z (.int (n:Int)),Z h,Z (.int (d:Int)),Z (oi fs b (bK n d) X' c)] (st++u)):=by
 intro g
 induction g with
 |zero=>
  intro j a X w e K o S B;obtain⟨k,rfl⟩:∃ k,a=k+1:=⟨a - 1,by lia⟩;have x:j=n:=by lia
  subst x;have z:nzW fs.length w=false:=by
   cases q:nzW fs.length w with
   |false=>rfl
   |true=>exact absurd (Ff fl (λt J=>As J) (yy (eY hn fl fv) S)) (FP q)
  refine⟨j,X,w,e,S,z,B,qao _,λst=>⟨[],?_⟩⟩;rw[qbl];refine AC ?_;unfold oi;rw[z];exact ao (ac U U (i4 _ _ _)) U U
 |succ g H=>
  intro j a X w e K o S B;obtain⟨k,rfl⟩:∃ k,a=k+1:=⟨a - 1,by lia⟩;cases z:nzW fs.length w with
  |false=>
   refine⟨j,X,w,e,S,z,B,by lia,λst=>⟨[],?_⟩⟩;rw[qbl];refine AC ?_;unfold oi;rw[z];exact ao (ac U U (i4 _ _ _)) U U
  |true=>
   obtain⟨X2,w2,S2,p⟩:=pf (b:=b) (eY (m:=((j+1:Nat):Int)) hn fl fv);obtain⟨d,X',c,h,S',I,B',hd,i⟩:=H (j+1) k X2 w2 (.tup (mpI fs.length w)) (by lia) (by lia) S2 (.inr ⟨by lia,w,U,by rw[show (((j+1:Nat):Int) - 1)=(j:Int) by lia];exact (yy (eY hn fl fv) S),FP z⟩);refine⟨d,X',c,h,S',I,B',hd,λst=>?_⟩;obtain⟨E,F⟩:=p st;obtain⟨u,C⟩:=i _;refine⟨E++u,?_⟩;rw[<-qb1,<-C];refine C1 (s:=st) ?_ ?_
   ·unfold oi
    rw[z];exact ao (ac U U (i4 _ _ _)) U U
   ·have l:oi fs b (bK n j) X w=.tup [.str "bar",.tup (mpI fs.length w)]:=by unfold oi;rw[iFP z]
    rw[l];have x:((j)+1)=((j+1)):=by lia
    exact ai (aj (ac U U (gK _ _ _))) (ai (aj (ac U U U)) (aj (ah (ab U (ab U (ab (ah (ab U (ab U U)) (At (st:=st) (d:=j+1) hn)) U))) F)))
theorem FC (hn:n<=4) (fl:fs.length=2^n) (fv:∀ u∈fs,fW u):∃ (d:Nat) (X:List Int->Int) (w:Nat->Int) (e:D),kl fs b (bK n d) X w/\nzW fs.length w=false/\mv fs b n d e/\d<=n/\∀ st:Sto,∃ u:Sto,bX [.d (.tup fs),.d (.str (aF b))] st=some (.d (.tup [.int (d:Int),bA (aF b) (aY (ax (bK n d)) X),e]),st++u):=by
 obtain⟨X0,w0,S0,p⟩:=pf (eY hn fl fv);obtain⟨d,X,w,e,S,z,B,hd,i⟩:=Bi hn fl fv n 0 (2^8000) X0 w0 .non (by lia) (qaQ (show n<2^3 by lia) (qbs (by decide) (by decide))) S0 (.inl ⟨U,U⟩);refine⟨d,X,w,e,S,z,B,hd,λst=>?_⟩;obtain⟨y,G⟩:=p st;obtain⟨u,A⟩:=i (st++y);refine⟨y++u,?_⟩;rw[<-qb1];have l:oi fs b (bK n d) X w=.tup [.str "poly",bA (aF b) (aY (ax (bK n d)) X)]:=by unfold oi;rw[z,iFN qaB]
 rw[l]at A;exact au U (ai (aj (ah U (EA fl hn))) (ai (aj U) (ai (aj U) (ai (aj (ah (ab U (ab U (ab (ah (ab U (ab U U)) (At (st:=st) (d:=0) hn)) U))) G)) (ai A (aD (cR (ab U (ab (ac U U (gK _ _ _)) (ab U U))) U (by show 3<=1000;decide))))))))
end
end Own
set_option maxHeartbeats 1000000
namespace Own
open PySem L2
open Sx (Pb Tb Good Named Fe LV ZV piv lexP leastR leaveL sumN unit colV basis)
section
variable {fs:List D}{b:Bool}{n:Nat}{X:List Int->Int}{w:Nat->Int}
theorem uX {ts:List (List Int)} (h:Spl fs ts):(aY (ax ts) X).length<=16:=by
 unfold aY;rw[qah]
 have:=qb6 (λt=>decide (X t≠0)) (ax ts)
 rw[(aI _).length_eq]at this
 have:=h.tl
 lia
theorem wo {ts:List (List Int)}{p:Prt} (c:p∈aY (ax ts) X):p.1∈ts:=(aI _).mem_iff.mp (tP c).1
theorem E1 {ts:List (List Int)}{st:Sto} (h:Spl fs ts) (r:Nat):kL [.d (bA (aF b) (aY (ax ts) X)),.d (.int (r:Int))] st=some (.d (.int (sumN ts.length λt=>X (ts.getD t [])*aO b (ts.getD t []) r)),st):=by
 have E:=uX (X:=X) h;have l:lcI (.tp [0,1]) aN kX [none,none,Z (bA (aF b) (aY (ax ts) X)),Z (.int (r))] ((aY (ax ts) X).map bP) st=some (((aY (ax ts) X).map λp=>p.2*aO b p.1 r).map D.int,st):=by
  rw[qaO];exact nB (g:=λp:Prt=>(ak p.1,D.int p.2)) _ λp c=>by
   have o:=h.tt _ (wo c);have Q:=wS b p.1 (r);exact ac U (ah (ab (ac U U (i4 _ _ _)) (ab U (ab U U))) (wg (by lia) o.1 (by lia))) (bI st (gv (by lia)))
 have A:=wN st ((aY (ax ts) X).map λp=>p.2*aO b p.1 r);rw[(zt X (λt=>aO b t r) ts)]at A;have j:((aY (ax ts) X).map bP).length<=1000000:=by rw[qah];lia
 exact au U (aD (aG (ab (aq (aM (bx (ac U U (gK _ _ _))) j l)) U) A))
theorem Ac {ts:List (List Int)}{st:Sto} (h:Spl fs ts) (S:kl fs b ts X w) (hw:∀ r,r<fs.length->w r=0):∃ a:List Int,a.length<=1000/\(∀ y∈a,0<y)/\gn [.d (.tup fs),.d (bA (aF b) (aY (ax ts) X))] st=some (.d (.lst (a.map D.int)),st):=by
 have R:=h.fl
 obtain⟨x,s2,K,⟨a,P,J,c⟩,rfl⟩:=gj (g:=.tp [0,1]) (tt:=iE) (te:=gU) (env:=[none,none,some _]) (λi x s=>(∃ a:List Int,x=a.map D.int/\a.length<=i/\∀ y ∈ a,0 < y)/\s=st) ⟨⟨[],U,qao _,(λy f=>nomatch f)⟩,U⟩ (λi d x s hd ⟨⟨a,e,J,c⟩,es⟩=>by
  subst e es;obtain⟨hi,rfl⟩:=sA hd;refine⟨_,U,?_⟩;have I:fW (fs.getD i .non):=by
   rw[qaE,qam hi];exact h.fv _ (qbQ hi)
  by_cases e:fs.getD i .non=.non
  ·refine .inr ⟨s,?_,⟨a,U,by lia,c⟩,U⟩
   rw[e];rfl
  ·have L:=on h S hw hi e
   have T:=E1 (st:=s) (b:=b) (X:=X) h i;generalize (sumN ts.length λt=>X _*aO b _ i)=V at *;obtain⟨z,ez,N,F⟩:=Ge s I e;have sg1:(sgD (fs.getD i .non)).natAbs<=1:=by rcases Aj with q|q<;>rw[q]<;>decide
   rw[<-F]at sg1 L;refine .inl ⟨s,_,s,ao U U (zr s e),ac (ac (ac U U N) U U) (ah (ab U (ab U U)) T) (bI s (dM (by lia))),⟨a++[_*V],by rw[qbv];rfl,by rw[qaz,qbI];lia,λy f=>?_⟩,U⟩;rcases qaR.mp f with f|f
   ·exact c y f
   ·rw[qal.mp f,qaX];exact L)
 rw[jG]at J;refine⟨a,by lia,c,?_⟩;have H:x=a.map D.int:=P;rw[H]at K;have j:(ce 0 fs).length<=1000000:=by rw[jG];lia
 exact au U (aD (aq (aM U j K)))
theorem De {ts:List (List Int)}{st:Sto} (h:Spl fs ts):ft [.d (bA (aF b) (aY (ax ts) X))] st=some (.d (.int (jr ((aY (ax ts) X).map λp=>((p.1.length:Nat):Int)) 0)),st):=by
 have E:=uX (X:=X) h;have l:lcI (.tp [0,1]) aN dk [none,none] ((aY (ax ts) X).map bP) st=some (((aY (ax ts) X).map λp=>((p.1.length))).map D.int,st):=by
  rw[qaO];exact nB (g:=λp:Prt=>(ak p.1,D.int p.2)) _ λp c=>by
   have:dk [Z (ak p.1),Z (.int p.2)] st=some (.d (.int _),st):=rfl
   rw[qah]at this;exact this
 have hm:dMx st [.d (.lst (.int 0::((aY (ax ts) X).map λp=>((p.1.length))).map D.int))]=some (.int (jr ((aY (ax ts) X).map λp=>((p.1.length))) 0)):=by
  show (aU ((0::(aY _ X).map λp=>_).map D.int)).bind _=_;rw[bb];rfl
 have j:((aY (ax ts) X).map bP).length<=1000000:=by rw[qah];lia
 have C:[D.int 0].length+(((aY (ax ts) X).map λp=>((p.1.length))).map D.int).length<=1000000:=by rw[qah,qah];show 1+_<=_;lia
 exact au U (aD (aG (ab (ac U (aq (aM (bx (ac U U (gK _ _ _))) j l)) (dj _ C)) U) hm))
theorem Dd {d:Nat} (hn:n<=4) (fl:fs.length=2^n) (fv:∀ u∈fs,fW u) (S:kl fs b (bK n d) X w) (hw:∀ r,r<fs.length->w r=0) {e:D} (B:mv fs b n d e):jr ((aY (ax (bK n d)) X).map λp=>((p.1.length:Nat):Int)) 0=(d:Int):=by
 have up:∀ k∈(aY (ax (bK n d)) X).map (λp=>((p.1.length):Int)),k<=_:=λk A=>by
  obtain⟨p,c,rfl⟩:=qaF.mp A;exact (kQ.mp (wo c)).2
 have Y:=wk _ 0 (by lia) up;have G:=wj ((aY (ax (bK n d)) X).map λp=>((p.1.length))) 0;rcases B with⟨W,_⟩|⟨W,v,_,Bv,O⟩
 ·lia
 ·apply qcY
  intro q;refine O (CA (eY hn fl fv) S hw Bv λt o=>?_);by_cases M:X t=0
  ·exact .inl M
  ·right
   have c:(t,X t)∈aY (ax (bK n d)) X:=by
    exact qaF.mpr ⟨t,qbO.mpr ⟨(aI _).mem_iff.mpr o,by simpa using M⟩,U⟩
   have:=G.2 _ (qaF.mpr ⟨_,c,U⟩)
   rw[kQ]at o ⊢;exact⟨o.1,by lia⟩
theorem tF:∀ (a:List Int) (m:Int),0<m->(∀ y∈a,0<y)->0<nO a m
 |[],m,h,_=>h
 |y::a,m,h,f=>by
  refine tF a _ ?_ λz j=>f z (qaj _ j);split
  ·exact f y qag
  ·exact h
end
end Own
set_option maxHeartbeats 1000000
namespace Own
open PySem L2
open Sx (Pb Tb Good Named Fe LV ZV piv lexP leastR leaveL sumN unit colV basis)
theorem Dv (s:Sto) (a b c:D):dIx s (.d (.tup [a,b,c])) (.d (.int 0))=some a:=rfl
theorem Fu (s:Sto) (a b c:D):dIx s (.d (.tup [a,b,c])) (.d (.int 1))=some b:=rfl
theorem GP (s:Sto) (a b c:D):dIx s (.d (.tup [a,b,c])) (.d (.int 2))=some c:=rfl
section
variable {fs:List D}{b:Bool}{n:Nat}{X:List Int->Int}{w:Nat->Int}
theorem AT {st:Sto}{d:Nat}{e:D} (hn:n<=4) (fl:fs.length=2^n) (fv:∀ u∈fs,fW u) (B:mv fs b n d e):ij [.d (.tup fs),.d (.str (aF b)),.d (.int (n:Int)),.d (.int (d:Int)),.d e] st=some (.d (.bl true),st):=by
 have M:2^n<=16:=qaT (qbs (by decide) hn) (by decide);have A:∀ (x:D),aE dEq (iV 3) (iC _) [Z (.tup fs),Z (.str (aF b)),Z (.int (n)),some _,Z x] st=some (((d:Int)==0),st):=λx=>ao U U (cJ _ _ _);rcases B with⟨y,rfl⟩|⟨y,v,rfl,B,K⟩
 ·have c:=A .non
  rw[show ((d:Int)==0)=true by rw[y];rfl]at c;exact au U (fQ (ck c U))
 ·have c:=A (.tup (mpI fs.length v))
  rw[show ((d:Int)==0)=false by simpa using y]at c;have C:0<sumN fs.length v:=by
   rcases qd9 (Sx.sumN_nonneg B.nn) with q|q
   ·exact q
   ·exact absurd (sum0 B.nn q.symm) K
  have l:dEq st (.d (.int (sumN fs.length v))) (.d (.int 0))=some (.bl false):=by
   rw[cJ,show (sumN fs.length v==0)=false by lia]
  have S:=eY (m:=(d:Int) - 1) hn fl fv;have L:=S.tl;have j:lcI (.nm 0) aN fk [none,Z (.tup fs),Z (.str (aF b)),Z (.tup (mpI fs.length v))] ((bK n ((d:Int) - 1)).map ak) st=some (((bK n ((d:Int) - 1)).map λ_=>true).map D.bl,st):=by
   rw[qaO];refine kJ (g:=ak) (D.bl ∘ λ_=>true) λt E=>?_;have e:=Bo (st:=st) (fs:=fs) (b:=b) (w:=v) (by lia) fv (S.tt t E);rw[B.bl t E]at e;exact ac (ah (ab U (ab U (ab U (ab U U)))) e) U U
  have hb:((bK n ((d:Int) - 1)).map λ_=>true).all id=true:=by simp
  have f:((bK n ((d:Int) - 1)).map ak).length<=1000000:=by rw[qah];lia
  have hA:=F3 (a:=aa (aw (iLc 1 [0,1,4] (aB (av cO (aa (iV 2) (aa (iOp jC (iV 3) (iC (.int 1))) ae)))) (.nm 0) aN fk)) ae) (env:=[Z (.tup fs),Z (.str (aF b)),Z (.int (n:Int)),Z (.int (d:Int)),Z (.tup (mpI fs.length v))]) (st:=st) (ab (aq (aM (bx (ah (ab U (ab (ac U U U) U)) (uf (st:=st) (n:=n) (m:=(d:Int) - 1) hn))) f j)) U);rw[hb]at hA;exact au U (ai (bh c U) (ai (bh (eV (n6 (t5 (ah (ab U (ab U U)) (vj (st:=st) B.nn B.un)))) (ao (aG (ab U U) (Ez st fs.length v)) U l)) U) (aD hA)))
theorem ze {st:Sto}{d:Nat}{e:D} (hn:n<=4) (fl:fs.length=2^n) (fv:∀ u∈fs,fW u) (S:kl fs b (bK n d) X w) (G:nzW fs.length w=false) (B:mv fs b n d e) (hd:d<=n) :
  du [.d (.tup fs),.d (.str (aF b)),.d (.int (n:Int)),.d (.tup [.int (d:Int),bA (aF b) (aY (ax (bK n d)) X),e])] st=some (.d (.bl true),st):=by
 have hw:=FO G;have Sp:=eY (m:=(d)) hn fl fv;have J:=uX (X:=X) Sp;have I:=xN (st:=st) (kd:=aF b) (ts:=bK n n) (ps:=aY _ X) (by lia) (Bt (xM Sp.nd)) λp z=>⟨ui (wo z) (by lia),by have:=(Sp.tt _ (wo z)).2;lia,(tP z).2.2⟩;have F:=De (st:=st) (b:=b) (X:=X) Sp;rw[Dd hn fl fv S hw B]at F;obtain⟨h,O,N,H⟩:=Ac (st:=st) Sp S hw;have i:dMi st [.d (.lst (.int 1::h.map D.int))]=some (.int (nO h 1)):=by
  show (aU ((1::h).map D.int)).bind _=_;rw[bb];rfl
 have o:dGt st (.d (.int (nO h 1))) (.d (.int 0))=some (.bl true):=by
  show some _=_;rw[decide_eq_true (tF h 1 (by decide) N)]
 have f:[D.int 1].length+(h.map D.int).length<=1000000:=by rw[qah];show 1+_<=_;lia
 have r:dEq st (.d (.int (d))) (.d (.int (d)))=some (.bl true):=by rw[cJ,beq_self_eq_true]
 exact au (n:=4) (k:=4) (b:=gF) U (ai (bh (s:=st) (eV (s:=st) U (eV (s:=st) U (n6 (k:=true) (t5 (ah (ab U (ab U (ab (ac U U (Dv _ _ _ _)) (ab (ac U U (Fu _ _ _ _)) U)))) (au (n:=4) (k:=4) (b:=mF) U (aD (zY (ah U (ki _)) (zY (ah (ab U (ab (ah (ab U (ab U U)) (uf (st:=st) (m:=(n)) hn)) (ab U U))) I) (ac (ah (ab U U) F) U r)))))))))) U) (aD (zY (ac (aG (ab (ac U (ah (ab U (ab (ac U U (Fu _ _ _ _)) U)) H) (dj _ f)) U) i) U o) (ah (ab U (ab U (ab U (ab (ac U U (Dv _ _ _ _)) (ab (ac U U (GP _ _ _ _)) U))))) (AT (st:=st) hn fl fv B)))))
end
end Own
section
set_option maxHeartbeats 1000000
namespace Own
open PySem L2
open Sx (Pb Tb Good Named Fe LV ZV piv lexP leastR leaveL sumN unit colV basis)
theorem rm (k:Nat):∀ ns:List Int,(ns.map D.int).all (okD k)=true
 |[]=>rfl
 |n::ns=>by
  rw[qaw,qbE,rm k ns];cases k<;>rfl
theorem tT:∀ ps:List Prt,(ps.map bP).all (okD 58)=true
 |[]=>rfl
 |p::ps=>by
  rw[qaw,qbE,tT ps,qik];show ((p.1.map D.int).all _&&_)=true;rw[rm];rfl
theorem sC:∀ ps:List Prt,dm (ps.map bP) (ps.map bP)=true
 |[]=>rfl
 |p::ps=>by
  show ((dm _ _&&((p.2==p.2)&&true))&&dm _ _)=true;rw[sC ps,iG,decide_eq_true U,beq_self_eq_true];rfl
theorem Bj {s:Sto}{fs:List D}{b:Bool}{n d:Nat}{ps:List Prt}{e:D} (B:mv fs b n d e):dNe s (.d (.tup [.int (d:Int),bA (aF b) ps,e])) (.d (.tup [.int (d:Int),bA (aF b) ps,e]))=some (.bl false):=by
 have he:okD 60 e=true/\eqD e e=true:=by
  rcases B with⟨_,rfl⟩|⟨_,v,rfl,_⟩
  ·exact⟨U,U⟩
  ·rw[bH]
   refine⟨?_,?_⟩
   ·exact rm _ _
   ·show dm _ _=true
    rw[iG,decide_eq_true U]
 unfold bA;have h1:=by
  show (true&&((true&&((ps.map bP).all (okD 58)&&true))&&(okD 60 e&&true)))=true;rw[tT,he.1];rfl
 have h2:dm [D.int (d),.tup [.str (aF b),.tup (ps.map bP)],e] [D.int (d),.tup [.str (aF b),.tup (ps.map bP)],e]=true:=by
  show ((_==_)&&((((aF b==aF b)&&(dm _ _&&true)))&&(eqD e e&&true)))=true;rw[sC,he.2,beq_self_eq_true,beq_self_eq_true];rfl
 show ((if (false||false)=true then some (false&&false) else if [D.int _,.tup [.str _,.tup _],e].all _=true/\[D.int _,.tup [.str _,.tup _],e].all _=true then some _ else none)).map _=_;rw[iFN (by decide),iFP ⟨h1,h1⟩,h2];rfl
theorem zj (B u:Sto) (ds:List D):lg (B++.l ds::u) B.length=some ds:=by unfold lg;simp
theorem AO {v x:Ef}{env:Ev}{B u:Sto}{ds:List D}{d:D} (hv:∀ s,v env s=some (.h B.length,s)) (hx:x env (B++.l ds::u)=some (.d d,B++.l ds::u)) (I:ds.length<1000000):d5 (cD bv v (aa x ae)) env (B++.l ds::u)=some (.nx env (B++.l (ds++[d])::u)):=by
 have e:cD bv v (aa x ae) env (B++.l ds::u)=some (.d .non,B++.l (ds++[d])::u):=by
  show (v env _).bind _=_;rw[hv,qaa];rw[(ab hx U)];show (lg _ B.length).bind _=_;rw[zj,qaa,qaa,show bv ds [.d d]=some (.non,ds++[d]) from iFP I]
  simp
 show (cD bv v _ env _).map _=_;rw[e];rfl
section
variable {fs:List D}{n:Nat}
theorem v7 (hn:n<=4) (fl:fs.length=2^n) (fv:∀ u∈fs,fW u) (b:Bool):∃ d:Nat,Deg fs b n d/\∀ (B u:Sto) (ds:List D) (a0 G a2 C:Option W),ds.length<=10->∃ E u',jW [a0,G,a2,Z (.int (n:Int)),Z (.tup fs),some (.h B.length),Z (.str (aF b)),C] (B++.l ds::u)=some (.nx [a0,G,a2,Z (.int (n:Int)),Z (.tup fs),some (.h B.length),Z (.str (aF b)),E] (B++.l (ds++[.int (d:Int)])::u')):=by
 obtain⟨d,X,w,e,S,z,Ba,hd,I⟩:=FC hn fl fv;refine⟨d,⟨λh0=>?_,λv Bv=>CA (eY hn fl fv) S (FO z) Bv λt ht=>.inr ht⟩,λB u ds a0 G a2 C hds=>?_⟩
 ·rcases Ba with⟨q,_⟩|⟨_,v,_,Bv,nz⟩
  ·exact absurd q h0
  ·exact⟨v,Bv,nz⟩
 obtain⟨o,P⟩:=I (B++.l ds::u);have hc:∃ f,aX (fF (aE dLt (iV 3) (iC (.int 4))) (aE dNe (av bX (aa (iV 4) (aa (iV 6) ae))) (iV 7))) (aL (iC (.bl false))) aS [a0,G,a2,Z (.int (n)),Z (.tup fs),some (.h B.length),Z (.str (aF b)),Z (.tup [.int (d),bA (aF b) (aY (ax (bK n d)) X),e])] (B++.l ds::u++o)=some (.nx [a0,G,a2,Z (.int (n)),Z (.tup fs),some (.h B.length),Z (.str (aF b)),Z (.tup [.int (d),bA (aF b) (aY (ax (bK n d)) X),e])] (B++.l ds::u++o++f)):=by
  have q:aE dLt (iV 3) (iC (.int 4)) [a0,G,a2,Z (.int (n)),Z (.tup fs),some (.h B.length),Z (.str (aF b)),Z (.tup [.int (d),bA (aF b) (aY (ax (bK n d)) X),e])] _=some (decide _,B++.l ds::u++o):=rfl;cases h4:decide ((n:Int)<4) with
  |true=>
   rw[h4]at q;obtain⟨f,e3⟩:=I _;have e4:=Bj (s:=B++.l ds::u++o++f) (ps:=aY (ax (bK n d)) X) Ba;exact⟨f,bh (iS q (ao (ah U e3) U e4)) U⟩
  |false=>
   rw[h4]at q;exact⟨_,by rw[qbl];exact bh (mj q) U⟩
 obtain⟨f,hc⟩:=hc;have ap:=AO (v:=iV 5) (x:=iOp dIx (iV 7) (iC _)) (env:=[a0,G,a2,Z (.int (n)),Z (.tup fs),some _,Z (.str (aF b)),Z (.tup [.int (d),bA (aF b) (aY (ax (bK n d)) X),e])]) (B:=B) (u:=u++o++f) (ds:=ds) (λs=>rfl) (ac U U (Dv _ _ _ _)) (by lia);have es:B++.l ds::(u++o++f)=B++.l ds::u++o++f:=by simp
 rw[es]at ap;refine⟨some (.d (.tup [.int (d),bA (aF b) (aY (ax (bK n d)) X),e])),u++o++f,?_⟩;exact ai (aj (ah U P)) (ai (bh (n6 (t5 (ah U (ze (st:=B++.l ds::u++o) hn fl fv S z Ba hd)))) U) (ai hc ap))
end
theorem Ca {p:Pus}{rest:Sto}{Zq:Int} (h:okU p Zq) (hZ:Zq<=1000000):∃ (k:Nat) (A:Pus),k<=4/\okU A (Zq+1)/\ik [.h 1] (pus p rest)=some (.d (.int (k:Int)),pus A rest):=by
 obtain⟨r,A,Y,r1,R,P⟩:=dO h (by lia) (m:=8) (by decide) (by decide);obtain⟨y,yc,ey⟩:=m4 _ (cs:=[.int 4,.int 3,.int 3,.int 2,.int 3,.int 2,.int 1,.int 0]) Y r1
 have:∃ k:Nat,k<=4/\y=.int (k):=by
  simp only[qay,qbJ,or_false]at yc;rcases yc with rfl|rfl|rfl|rfl|rfl|rfl|rfl|rfl
  ·exact⟨4,by decide,U⟩
  ·exact⟨3,by decide,U⟩
  ·exact⟨3,by decide,U⟩
  ·exact⟨2,by decide,U⟩
  ·exact⟨3,by decide,U⟩
  ·exact⟨2,by decide,U⟩
  ·exact⟨1,by decide,U⟩
  ·exact⟨0,by decide,U⟩
 obtain⟨k,Q,rfl⟩:=this;exact⟨k,A,Q,R,au U (aD (ac U (ah U P) ey))⟩
theorem Cp {p:Pus}{rest:Sto}{Zq:Int}{j:Option W}{i:Nat}{a3 a4 a5 a6 C:Option W} (h:okU p Zq) (hZ:Zq<=500) (hi:i<2):∃ A a O M K J N,okU A (Zq+300)/\wa [j,some (.h 1),Z (.int (i:Int)),a3,a4,a5,a6,C] (pus p rest)=some (.nx [j,some (.h 1),Z (.int (i:Int)),O,M,K,J,N] (pus A a)):=by
 obtain⟨k,p1,Q,R,P⟩:=Ca (rest:=rest) h (by lia);obtain⟨r,p2,Y,r1,k2,T⟩:=dO (rest:=rest) R (by lia) (m:=3) (by decide) (by decide);obtain⟨n,hn,en⟩:∃ n:Nat,n<=4/\dIx _ (.d (.lst [.int _,.int r])) (.d (.int (i)))=some (.int (n)):=by
  have:i=0\/i=1:=by lia
  rcases this with rfl|rfl
  ·exact⟨k,Q,U⟩
  ·obtain⟨m,rfl⟩:=qes Y
   exact⟨m,by lia,U⟩
 obtain⟨fs,c,fl,fv,k3,e3⟩:=sD k2 (by lia) hn;obtain⟨d1,D1,f1⟩:=v7 hn fl fv true;obtain⟨d2,D2,f2⟩:=v7 hn fl fv false;have hd:=Dc fl D1 D2;subst hd;obtain⟨E,o,g1⟩:=f1 _ [] [] j _ _ C (by decide);obtain⟨F,f,g2⟩:=f2 _ o [.int _] j _ _ E (by show 1<=10;decide);have fo:cf (.nm 6) jW [.str "both",.str "odd"] [j,some (.h 1),Z (.int (i:Int)),Z (.int (n:Int)),Z (.tup fs),some (.h (pus c rest).length),a6,C] (pus c rest++[.l []])=some (.nx [j,some (.h 1),Z (.int (i:Int)),Z (.int (n:Int)),Z (.tup fs),some (.h (pus c rest).length),Z (.str "odd"),F] (pus c rest++.l [.int (d1:Int),.int (d1:Int)]::f)):=by
  have g1':jW [j,some (.h 1),Z (.int (i:Int)),Z (.int (n:Int)),Z (.tup fs),some (.h (pus c rest).length),Z (.str "both"),C] (pus c rest++[.l []])=some (.nx [j,some (.h 1),Z (.int (i:Int)),Z (.int (n:Int)),Z (.tup fs),some (.h (pus c rest).length),Z (.str "both"),E] (pus c rest++.l [.int (d1:Int)]::o)):=g1
  have V:jW [j,some (.h 1),Z (.int (i:Int)),Z (.int (n:Int)),Z (.tup fs),some (.h (pus c rest).length),Z (.str "odd"),E] (pus c rest++.l [.int (d1:Int)]::o)=some (.nx [j,some (.h 1),Z (.int (i:Int)),Z (.int (n:Int)),Z (.tup fs),some (.h (pus c rest).length),Z (.str "odd"),F] (pus c rest++.l [.int (d1:Int),.int (d1:Int)]::f)):=g2
  generalize (pus c rest).length=L at *;generalize pus c rest++[.l []]=q1 at *;generalize pus c rest++.l [.int (d1:Int)]::o=q2 at *;generalize pus c rest++.l [.int (d1:Int),.int (d1:Int)]::f=q3 at *;unfold cf;rw[show eF (.nm 6) (.d (.str "both")) [j,some (.h 1),Z (.int (i:Int)),Z (.int (n:Int)),Z (.tup fs),some (.h L),a6,C]=some [j,some (.h 1),Z (.int (i:Int)),Z (.int (n:Int)),Z (.tup fs),some (.h L),Z (.str "both"),C] from U,qaa,g1',qaa]
  dsimp only;unfold cf;rw[show eF (.nm 6) (.d (.str "odd")) [j,some (.h 1),Z (.int (i:Int)),Z (.int (n:Int)),Z (.tup fs),some (.h L),Z (.str "both"),E]=some [j,some (.h 1),Z (.int (i:Int)),Z (.int (n:Int)),Z (.tup fs),some (.h L),Z (.str "odd"),E] from U,qaa,V,qaa]
  rfl
 have ix:∀ k:Int,k=0\/k=1->dIx (pus c rest++.l [.int (d1:Int),.int (d1:Int)]::f) (.h (pus c rest).length) (.d (.int k))=some (.int (d1:Int)):=λk Q=>by
  show (lg (pus c rest++.l [.int (d1:Int),.int (d1:Int)]::f) (pus c rest).length).bind (λds=>atI ds k)=_;rw[zj];rcases Q with rfl|rfl<;>rfl
 have hne:∀ s,dNe s (.d (.int (d1:Int))) (.d (.int (d1:Int)))=some (.bl false):=λs=>by
  show some (D.bl (!((d1:Int)==(d1:Int))))=_;rw[beq_self_eq_true];rfl
 refine⟨c,rest++.l [.int (d1:Int),.int (d1:Int)]::f,Z (.int (n:Int)),Z (.tup fs),some (.h (pus c rest).length),Z (.str "odd"),F,k3.mono (by lia),?_⟩
 rw[<-BW];generalize pus c rest++.l [.int (d1:Int),.int (d1:Int)]::f=q3 at *;exact ai (aj (ac (aq (wG (ab (ah U P) (ab (ah U T) U)) U (by show 2<=1000;decide))) U en)) (ai (aj (ah U e3)) (ai U (ai (bn U fo) (bh (ao (ac U U (ix 0 (.inl U))) (ac U U (ix 1 (.inr U))) (hne _)) U))))
theorem zb (ns:List Int) (I:ns.length<=63):∃ st,tB [.d (.scr ns)] []=some (.d (.bl true),st):=by
 obtain⟨p,k0,e0⟩:=zU ns I;obtain⟨env',s2,T,⟨b2,O,M,K,J,N,rfl⟩,A,a,k',rfl⟩:=bF (g:=.nm 2) (λi env s=>(∃ b2 O M K J N,env=[Z (.scr ns),some (.h 1),b2,O,M,K,J,N])/\∃ A a,okU A (300*i)/\s=pus A a)
  ⟨⟨_,_,_,_,_,_,U⟩,p,_,k0.mono (by lia),U⟩ (λi d env s hd ⟨⟨b2,O,M,K,J,N,e⟩,A,a,k',es⟩=>by
   subst e es;obtain⟨rfl,hi⟩:=mq hd;obtain⟨p2,H,c3,c4,c5,c6,E,k2,e5⟩:=Cp k' (by lia) hi
   exact⟨_,_,_,U,.inl e5,⟨_,_,_,_,_,_,U⟩,p2,H,k2.mono (by lia),U⟩)
 exact⟨_,(fP U (ai (aj (ah U e0)) (ai (bn (dA U (by decide) (by decide) (by decide)) T) U)))⟩
end Own
end
namespace Own
open PySem L2
theorem zg {b:List Value}{n:Nat} (h:b.length=n+1):∃ a r,b=a::r/\r.length=n:=by
 cases b with
 |nil=>cases h
 |cons a r=>exact⟨a,r,U,Nat.succ.inj h⟩
theorem FD {b:List Value} (h:b.length=1):∃ a0,b=[a0]:=by
 obtain⟨a,r,rfl,g⟩:=zg h;exact⟨a,by rw[List.length_eq_zero_iff.1 g]⟩
theorem FE {c:List Value} (h:c.length=2):∃ a0 a,c=[a0,a]:=by
 obtain⟨b,r,rfl,g⟩:=zg h;obtain⟨a,rfl⟩:=FD g;exact⟨b,a,U⟩
theorem FF {c:List Value} (h:c.length=3):∃ a0 a a2,c=[a0,a,a2]:=by
 obtain⟨b,r,rfl,g⟩:=zg h;obtain⟨a,a2,rfl⟩:=FE g;exact⟨b,a,a2,U⟩
theorem DG {d:List Value} (h:d.length=4):∃ a0 c a2 a,d=[a0,c,a2,a]:=by
 obtain⟨b,r,rfl,g⟩:=zg h;obtain⟨c,a2,a,rfl⟩:=FF g;exact⟨b,c,a2,a,U⟩
theorem GT {e:List Value} (h:e.length=5):∃ a0 d a2 c a,e=[a0,d,a2,c,a]:=by
 obtain⟨b,r,rfl,g⟩:=zg h;obtain⟨d,a2,c,a,rfl⟩:=DG g;exact⟨b,d,a2,c,a,U⟩
theorem bnd {K:qae}:∀ p∈tbl,∀ f g,Fun K p.1 p.1 (top p.2.1) f g->dc K g (p.2.2.1.take p.2.2.2) []:=by
 iterate 53 refine qc2.2 ⟨λf g F=>F.binds λ_ _ _ _ _ _ b a=>(by first|(obtain⟨_,rfl⟩:=FD a;rfl)|(obtain⟨_,_,rfl⟩:=FE a;rfl)|(obtain⟨_,_,_,rfl⟩:=FF a;rfl)|(obtain⟨_,_,_,_,rfl⟩:=DG a;rfl)|(obtain⟨_,_,_,_,_,rfl⟩:=GT a;rfl)),?_⟩
 exact λ_ h=>nomatch h
theorem fa_mk {K:qae}{x:Str}{i k:Nat}{N:List Str}{f:Addr}{g:qb4} (a:qep K qca x=some (some (.ref f))) (b:Fun K x x (top i) f g):∃ f g,qep K qca (rT x i N k).1=some (some (.ref f))/\Fun K (rT x i N k).1 (rT x i N k).1 (top (rT x i N k).2.1) f g:=⟨f,g,a,b⟩
theorem txt_mk {K:qae}{h:Heap}{mg:Str->Option Value} (X:K.In h) (G:h.Ns qca mg) (F:∀ p∈tbl,∃ f g,qep K qca p.1=some (some (.ref f))/\Fun K p.1 p.1 (top p.2.1) f g)
  (z:∀ x∈(["abs","all","any","bool","enumerate","int","isinstance","len","list","max","min","range","sorted","str","sum","tuple","zip"]:List Str),qep K qca x=some none)
  {a c:Addr}{d:qb4} (c1:qep K qca "Table" = some (some (.ref a))) (c2:qce K (.ref a) "__init__" = some (some (.ref c))) (c3:Fun K "__init__" "Table.__init__" cb c d)
  (m0:qfs K a=true) (m2:qhN K (.ref c)=true) (m3:qcz K (.ref a)=true) (d0:qei K a Str.empty=true) (d1:qd2 K a=true) (d2:qe5 K a=true) (d3:qce K (.ref a) "__setattr__" = some (some (.builtin "object.__setattr__")))
  (na:∀ p∈bZ,qce K (.ref a) p.1=some none)
  : Txt K mg:=
 ⟨λp e=>let ⟨f,g,a,b⟩:=F p e;⟨f,g,b,qhC X G a,bnd p e f g b⟩,λx h=>PySem.W.mg_none_of X G (z x h),a,c,d,qhC X G c1,c3,c3.binds λ_ _ _ _ _ _ j i=>(by obtain⟨_,_,_,_,rfl⟩:=DG i;rfl),⟨m0,c2,m2,m3⟩,⟨d0,d1,d2,d3⟩,na⟩
theorem walk {l:qft}{q:qaM}{b:List Str}{XP:(Str->Option Value)->Heap->Prop}{YP:World->Heap->Prop}{d:DefRec}{K:Params->qae} (hn:l.most=some 63) (c:d.params.defaults=[])
  (g:∀ (w:World) (h:Heap),YP w h->(K w.params).In h)
  (F:∀ (w:World) (mg:Str->Option Value) (e:Addr) (h:Heap),(K w.params).In h->h.Ns qca mg->mg d.name=some (.ref e)->
    ∃ fd:qb4,(∀ (s:qai) (u:Value),qhm s fd ⟨[u],[]⟩ [("_law_script",u)])/\∀ base:Heap,(K w.params).In base->base.Ns qca mg->dD l.prog w (K w.params) mg base CX0 9 e fd ["_law_script"] (spI (K w.params) tB)) :
  qhD q b XP YP l.row.toRowW d [] (λf m=>qhf f m):=
 L2.walk_of (n:=63) (k:=9) (x:="_law_script") (CX:=λ_=>CX0) (sp:=λw=>spI (K w.params) tB) hn (by decide) c ⟨U,by decide,by decide,U⟩ g F (λ_ _ a ns o j i=>Cc j i (zb ns o)) λ_ _ _ _ _ z=>z
theorem law_mk {l:qft}{w:World}{K:qae}{h:Heap}{mg:Str->Option Value}{b:Addr} (a:mg "law" = some (.ref b)) (T:Txt K mg) :
  ∃ fd:qb4,(∀ (s:qai) (v:Value),qhm s fd ⟨[v],[]⟩ [("_law_script",v)])/\∀ base:Heap,K.In base->base.Ns qca mg->dD l.prog w K mg base CX0 9 b fd ["_law_script"] (spI K tB):=by
 obtain⟨f,g,F,m,_⟩:=T.F (rT "law" 63 ["_law_script","_law_purse_here","_law_turn","_law_n","_law_f","_law_degrees","_law_kind","_law_told"] 1) (by decide +kernel)
 have e:=a.symm.trans m;cases e
 refine⟨g,λs v=>?_,λbase _ _=>by
  have q:=GW (P:=l.prog) (w:=w) (base:=base) T
  iterate 13 replace q:=q.2
  exact q _ _ F⟩
 obtain⟨j,n,kV,c,o,k,d,ct,i,e,_⟩:=F.ex;rw[e];exact .of_eq U
end Own
namespace PySem.W.Fast
theorem tw3697293720625088047:True:=⟨⟩
theorem tw16326720572582810401:True:=⟨⟩
theorem tw4311038744813363587:True:=⟨⟩
theorem tw528555426004357756:True:=⟨⟩
theorem tw14818417790815062032:True:=⟨⟩
theorem tw1601951355082190846:True:=⟨⟩
theorem tw16474773802293591977:True:=⟨⟩
theorem tw5119652847178008651:True:=⟨⟩
theorem tw13843587944870148178:True:=⟨⟩
theorem tw9779164199389928083:True:=⟨⟩
theorem tw6219787181424773873:True:=⟨⟩
theorem tw14628225566947229037:True:=⟨⟩
theorem tw16418270111171299878:True:=⟨⟩
theorem tw10736230686635779727:True:=⟨⟩
theorem tw8153991653425645825:True:=⟨⟩
theorem tw17921640478394713077:True:=⟨⟩
theorem tw10253550306319806023:True:=⟨⟩
theorem tw13511939893796971775:True:=⟨⟩
theorem tw9536518938188425912:True:=⟨⟩
theorem tw6165713089156195976:True:=⟨⟩
theorem tw2104399091023778433:True:=⟨⟩
theorem tw5615967806471477068:True:=⟨⟩
theorem tw3288002647497170791:True:=⟨⟩
theorem tw659583344803759179:True:=⟨⟩
theorem tw8144162740549050794:True:=⟨⟩
theorem tw17582963900828833146:True:=⟨⟩
theorem tw16777894526240934622:True:=⟨⟩
theorem tw579043159921298605:True:=⟨⟩
theorem tw12281502169933532314:True:=⟨⟩
theorem tw14774414172756060178:True:=⟨⟩
theorem tw967834236638652842:True:=⟨⟩
theorem tw1199184025257235543:True:=⟨⟩
theorem tw7465714493838582443:True:=⟨⟩
theorem tw14737814068520691284:True:=⟨⟩
theorem tw407827547866755838:True:=⟨⟩
theorem tw1956951125238321231:True:=⟨⟩
theorem tw10229376402474041759:True:=⟨⟩
theorem tw14051332056139589364:True:=⟨⟩
theorem tw9762971689267586199:True:=⟨⟩
theorem tw4771670343301041702:True:=⟨⟩
theorem tw8653821404789046219:True:=⟨⟩
theorem tw16861443753848642794:True:=⟨⟩
theorem tw5962748647969445886:True:=⟨⟩
theorem tw16826067585277367255:True:=⟨⟩
theorem tw10217230660679782381:True:=⟨⟩
theorem tw13622240904115535534:True:=⟨⟩
theorem tw5967466964425687136:True:=⟨⟩
theorem tw10742006864118399986:True:=⟨⟩
theorem tw8805498874002811618:True:=⟨⟩
theorem tw10325076129986089639:True:=⟨⟩
theorem tw3522606651284204266:True:=⟨⟩
theorem tw4046122088314805519:True:=⟨⟩
theorem tw6761191317679865282:True:=⟨⟩
theorem tw10850920305258191104:True:=⟨⟩
theorem tw15353443473400166912:True:=⟨⟩
theorem tw2646754071274183001:True:=⟨⟩
theorem tw2116344373710311695:True:=⟨⟩
theorem tw4438640286368055489:True:=⟨⟩
theorem tw16105642899482171800:True:=⟨⟩
theorem tw9717792786035485681:True:=⟨⟩
theorem tw11617878294574320396:True:=⟨⟩
theorem tw14706927415816376700:True:=⟨⟩
theorem tw3399221670398836431:True:=⟨⟩
theorem tw8324874571308318776:True:=⟨⟩
theorem tw18041758357915937348:True:=⟨⟩
theorem tw1703256369953904125:True:=⟨⟩
theorem tw2762885190751755965:True:=⟨⟩
theorem tw3342191980226826320:True:=⟨⟩
theorem tw14156170863079989747:True:=⟨⟩
theorem tw15489841502097759416:True:=⟨⟩
theorem tw10428415587085896286:True:=⟨⟩
theorem tw14519681026388370467:True:=⟨⟩
theorem tw8047094687148386118:True:=⟨⟩
theorem tw6664652057634372183:True:=⟨⟩
theorem tw7953129800424727536:True:=⟨⟩
theorem tw12256474785387465932:True:=⟨⟩
theorem tw5391246811275837198:True:=⟨⟩
theorem tw798424828471027163:True:=⟨⟩
theorem tw17386084412975186389:True:=⟨⟩
theorem tw5683499736926863445:True:=⟨⟩
theorem tw14843518298239472603:True:=⟨⟩
theorem tw5341769948060287957:True:=⟨⟩
theorem tw6623807185816201621:True:=⟨⟩
theorem tw12227649997825815891:True:=⟨⟩
theorem tw13511288235779350238:True:=⟨⟩
theorem tw10642713278163668511:True:=⟨⟩
theorem tw4505044271060709903:True:=⟨⟩
theorem tw10710332892886754323:True:=⟨⟩
theorem tw2560580589434609296:True:=⟨⟩
theorem tw7972195861627071473:True:=⟨⟩
theorem tw1421120450343884399:True:=⟨⟩
theorem tw7839579335759339294:True:=⟨⟩
theorem tw16771241559112013789:True:=⟨⟩
theorem tw13780758620286370198:True:=⟨⟩
theorem tw4596470586072328569:True:=⟨⟩
theorem tw16926692548495052844:True:=⟨⟩
theorem tw17635895118147017609:True:=⟨⟩
theorem tw2043818025091965566:True:=⟨⟩
theorem tw11811829182734102395:True:=⟨⟩
theorem tw13370984633210908739:True:=⟨⟩
theorem tw14163924896381227166:True:=⟨⟩
theorem tw4906880826753551557:True:=⟨⟩
theorem tw14585590909790294031:True:=⟨⟩
theorem tw2788600246326021534:True:=⟨⟩
theorem tw13936344646613405982:True:=⟨⟩
theorem tw13138313206414561750:True:=⟨⟩
theorem tw11090109300779335683:True:=⟨⟩
theorem tw12592012295012502967:True:=⟨⟩
theorem tw9520084298375855456:True:=⟨⟩
theorem tw17794531670829103722:True:=⟨⟩
theorem tw10519770480438298094:True:=⟨⟩
theorem tw6368603962607296397:True:=⟨⟩
theorem tw2539757615763717036:True:=⟨⟩
theorem tw2797687915719048013:True:=⟨⟩
theorem tw13803333743519959948:True:=⟨⟩
theorem tw7998767479728482080:True:=⟨⟩
theorem tw13533705293593479402:True:=⟨⟩
theorem tw7913033866901521856:True:=⟨⟩
theorem tw3803830643438599775:True:=⟨⟩
theorem tw16324226232988240811:True:=⟨⟩
theorem tw12928576262114974970:True:=⟨⟩
theorem tw6726746185756576213:True:=⟨⟩
theorem tw11983933994898419029:True:=⟨⟩
theorem tw3576716016149976146:True:=⟨⟩
theorem tw6199133166571871655:True:=⟨⟩
theorem tw15016888566796918758:True:=⟨⟩
theorem tw12166562304284423911:True:=⟨⟩
theorem tw10487872240681169162:True:=⟨⟩
theorem tw11187788004117679269:True:=⟨⟩
theorem tw15697522315584004894:True:=⟨⟩
theorem tw16532931534074476560:True:=⟨⟩
theorem tw8684170448605223742:True:=⟨⟩
theorem tw1273531257140423420:True:=⟨⟩
theorem tw3075125961192148834:True:=⟨⟩
theorem tw13974284611070511679:True:=⟨⟩
theorem tw13223494970482834617:True:=⟨⟩
theorem tw4912623598910438296:True:=⟨⟩
theorem tw1817676025881035225:True:=⟨⟩
theorem tw9313687953748773240:True:=⟨⟩
theorem tw2020151914434285715:True:=⟨⟩
theorem tw523111763156717546:True:=⟨⟩
theorem tw1577650088852188136:True:=⟨⟩
theorem tw13677091911532771766:True:=⟨⟩
theorem tw13331664790461724119:True:=⟨⟩
theorem tw9586911355894945464:True:=⟨⟩
theorem tw3286356516081732630:True:=⟨⟩
theorem tw13488989019064945494:True:=⟨⟩
theorem tw10970805094313950367:True:=⟨⟩
theorem tw1166232276788090408:True:=⟨⟩
theorem tw8699349869359102133:True:=⟨⟩
theorem tw10307006492897586473:True:=⟨⟩
theorem tw2976103475039523362:True:=⟨⟩
theorem tw10029952295060330872:True:=⟨⟩
theorem tw17259761417879204767:True:=⟨⟩
theorem tw9608436074787721897:True:=⟨⟩
theorem tw16954727991079612089:True:=⟨⟩
theorem tw4107998375658709158:True:=⟨⟩
theorem tw16210337280514698719:True:=⟨⟩
theorem tw6377279454882750470:True:=⟨⟩
theorem tw2535855430480238820:True:=⟨⟩
theorem tw15979153286685350999:True:=⟨⟩
theorem tw6210646046217775536:True:=⟨⟩
theorem tw979078613578798916:True:=⟨⟩
theorem tw11753347005394949690:True:=⟨⟩
theorem tw460417005961349974:True:=⟨⟩
theorem tw16414885982818948423:True:=⟨⟩
theorem tw17025549485600847194:True:=⟨⟩
theorem tw3550593782884184570:True:=⟨⟩
theorem tw10623908498020819324:True:=⟨⟩
theorem tw5494953669288475520:True:=⟨⟩
theorem tw3070544876928175742:True:=⟨⟩
theorem tw11704741356528215114:True:=⟨⟩
theorem tw7820757619353734406:True:=⟨⟩
theorem tw3420658458227058470:True:=⟨⟩
theorem tw9025482974772798653:True:=⟨⟩
theorem tw11977351764058338135:True:=⟨⟩
theorem tw13301457038590160599:True:=⟨⟩
theorem tw10457499486874229508:True:=⟨⟩
theorem tw2292081276725746174:True:=⟨⟩
theorem tw18353755186545325304:True:=⟨⟩
theorem tw11714155668658675739:True:=⟨⟩
theorem tw4036295519933923246:True:=⟨⟩
theorem tw11644474593227921618:True:=⟨⟩
theorem tw14504857414327431052:True:=⟨⟩
theorem tw14896072836961405404:True:=⟨⟩
theorem tw9943681326462973816:True:=⟨⟩
theorem tw11117979216143206933:True:=⟨⟩
theorem tw5815632492417099024:True:=⟨⟩
theorem tw3492747847212301492:True:=⟨⟩
theorem tw5430645399477263031:True:=⟨⟩
theorem tw15265194667528024121:True:=⟨⟩
theorem tw7690286646700126801:True:=⟨⟩
theorem tw7496900884704801035:True:=⟨⟩
theorem tw1635812821270359454:True:=⟨⟩
theorem tw7406222524119442060:True:=⟨⟩
theorem tw16853707047342654229:True:=⟨⟩
theorem tw16917204313960634835:True:=⟨⟩
theorem tw6575090580274767370:True:=⟨⟩
theorem tw5759110324002338879:True:=⟨⟩
theorem tw9521109905904287067:True:=⟨⟩
theorem tw8410242819293584181:True:=⟨⟩
theorem tw14799440762260980417:True:=⟨⟩
theorem tw14845415034232761625:True:=⟨⟩
theorem tw3188347003847681079:True:=⟨⟩
theorem tw14966295160601934287:True:=⟨⟩
theorem tw15688696443350044188:True:=⟨⟩
theorem tw1600385550835455980:True:=⟨⟩
theorem tw2762987670443361324:True:=⟨⟩
theorem tw9985317339798913232:True:=⟨⟩
theorem tw4538548890992571929:True:=⟨⟩
theorem tw10544386890444190997:True:=⟨⟩
theorem tw10393615286374807753:True:=⟨⟩
theorem tw15518271095868688945:True:=⟨⟩
theorem tw2275853874887391351:True:=⟨⟩
theorem tw13600285155150017589:True:=⟨⟩
theorem tw15289147077951116395:True:=⟨⟩
theorem tw14799963052857785476:True:=⟨⟩
theorem tw5502510485857050199:True:=⟨⟩
theorem tw10247509256479685311:True:=⟨⟩
theorem tw16371068449627282787:True:=⟨⟩
theorem tw8950643780306920174:True:=⟨⟩
theorem tw11637349697640730403:True:=⟨⟩
theorem tw3658866097062472684:True:=⟨⟩
theorem tw7088960018306418132:True:=⟨⟩
theorem tw6534054941389017235:True:=⟨⟩
end PySem.W.Fast
open PySem PySem.W PyProof.Rows
set_option maxRecDepth 100000 in
set_option maxHeartbeats 0 in
theorem PySem.Challenge.cw_signpoly_k37_least_degrees_told_holds : PySem.Challenge.rw_signpoly_k37_least_degrees_told.Holds := by
 w_on;o_law;k_head;(case hw=>w_witness2)
 k_fill
 refine Own.walk (l:=PySem.Challenge.rw_signpoly_k37_least_degrees_told) rfl rfl (λw h Y=>PySem.W.kIn_of Y) ?F
 case F=>
  intro w mg d h KX G a;refine Own.law_mk (h:=h) a ?T
  case T=>
   refine' Own.txt_mk KX G ?F ?z ?c1 ?c2 ?c3 ?m0 ?m2 ?m3 ?d0 ?d1 ?d2 ?d3 ?na
   case F=>(iterate 53 (refine' qc2.2 ⟨Own.fa_mk ?e ?b,?_⟩;(case e=>k_is);(case b=>(refine' L2.fun_mk ?l ?c ?k;(case l=>k_is);(case c=>k_is);case k=>k_is))));intro _ h;cases h
   case z=>(iterate 17 (refine qc2.2 ⟨by k_is,?_⟩));intro _ h;cases h
   case c1=>k_is
   case c2=>k_is
   case c3=>refine' L2.fun_mk ?l ?c ?k;(case l=>k_is);(case c=>k_is);case k=>k_is
   case m0=>kernel_rfl
   case m2=>kernel_rfl
   case m3=>kernel_rfl
   case d0=>kernel_rfl
   case d1=>kernel_rfl
   case d2=>kernel_rfl
   case d3=>kernel_rfl
   case na=>(iterate 6 (refine qc2.2 ⟨by kernel_rfl,?_⟩));intro _ h;cases h
