import PyProof.Rows.All
import Wide.All
import OpenK.AllK
import Wide.FinOn
import Lean
import PyProof.EqAt
import PyProof.EqKinds
import PyProof.TupleCall
import PyProof.ListRange
import PyProof.NeKinds
import KE.KUnpack
import KE.KSortTup
import PyProof.ZipIter
import PyProof.Rows.CallKwBuiltin
import KE.KFind
import KE.KDictLaws
import KE.KDictList
import PyProof.SetKind
import PyProof.SetRoads
import PyProof.Rows.SetFrom
import PyProof.WalksMore
import PySem.Challenge.RW_signpoly_k30_splits_told
set_option Elab.async false
set_option linter.all false
set_option maxRecDepth 100000
set_option genSizeOf false
noncomputable section
open Array renaming length_toList -> qbs, getElem?_eq_getElem -> qbK, getElem?_eq_none -> qdg, getElem_toList -> qeE, perm_iff_toList_perm -> qfO, toList -> qgu, getElem?_toList -> qgv, toList_inj -> qhu
open Bool renaming false_ne_true -> qaC, false_eq_true -> qa0, and_eq_true -> qbb, eq_iff_iff -> qb4, not_eq_true -> qeh, and_true -> qgj, or_eq_true -> qhQ, false_or -> qim, and_self -> qin, true_or -> qiI
open Decidable renaming byContradiction -> qfo
open False renaming elim -> qcs
open Int renaming mul_left_comm -> qaW, mul_comm -> qa1, mul_zero -> qa7, toNat_natCast -> qbg, mul_right_comm -> qbm, mul_assoc -> qbn, zero_mul -> qbW, zero_add -> qcd, reduceNeg -> qck, mul_add -> qcn, mul_sub -> qcC, ofNat_dvd_left -> qcH, mul_eq_zero -> qcN, natAbs_mul -> qc1, one_mul -> qc4, mul_one -> qc5, neg_mul -> qdv, le_refl -> qdw, mul_le_mul_of_nonneg_left -> qdD, mul_ediv_cancel' -> qdE, mul_lt_mul_of_pos_right -> qdL, ediv_nonneg -> qdM, lt_of_mul_lt_mul_right -> qdR, fdiv_eq_ediv_of_nonneg -> qdS, emod_lt_of_pos -> qdU, mul_nonneg -> qdY, eq_of_mul_eq_mul_left -> qdZ, eq_ofNat_of_zero_le -> qed, add_mul -> qee, emod_nonneg -> qeC, add_zero -> qeD, sub_zero -> qft, mul_le_mul_of_nonneg_right -> qfu, le_trans -> qfv, sub_mul -> qfU, mul_neg -> qfV, eq_of_mul_eq_mul_right -> qf4, mul_neg_of_pos_of_neg -> qgc, mul_ediv_cancel_left -> qgi, toNat_of_nonneg -> qhi, lt_or_eq_of_le -> qht, natCast_add -> qh2, natAbs_neg -> qig, reduceLT -> qjE, le_of_lt -> qjF, mul_pos -> qjX
open List renaming mem_cons_self -> qaf, range -> qag, length_map -> qah, mem_cons_of_mem -> qal, length_cons -> qam, getElem?_eq_getElem -> qao, mem_singleton -> qap, map_cons -> qaq, getElem?_eq_some_iff -> qas, length_range -> qat, mem_append_right -> qaw, getD_cons_zero -> qay, replicate -> qaz, length_append -> qaB, getElem?_map -> qaD, getD_cons_succ -> qaF, size_toArray -> qaG, mem_cons -> qaH, getElem?_eq_none -> qaJ, getElem?_append_left -> qaK, getD_eq_getElem?_getD -> qaM, getElem?_append_right -> qaP, map_map -> qaR, replicate_succ -> qaS, mem_range -> qaU, mem_map -> qaX, mem_append -> qaY, replicate_zero -> qa4, set_cons_zero -> qa5, length_nil -> qa6, mem_append_left -> qa9, all_eq_true -> qba, cons_append -> qbc, nil_append -> qbd, getElem?_range -> qbh, pairwise_cons -> qbi, getElem?_set_self -> qbj, set_cons_succ -> qbk, map_nil -> qbl, lookup_cons -> qbu, ext_getElem? -> qbw, getElem?_set_ne -> qbx, all_cons -> qbz, not_mem_nil -> qbL, map_append -> qbR, mem_of_getElem? -> qbT, getElem_mem -> qbU, any_cons -> qbZ, length_set -> qb2, append_nil -> qb3, forall_mem_cons -> qca, nodup_cons -> qce, mem_filter -> qcf, map_congr_left -> qcg, sum_cons -> qci, length_singleton -> qcj, nodup_append -> qcw, append_assoc -> qcx, zip_cons_cons -> qcD, length_replicate -> qcK, flatten_cons -> qcP, mem_iff_getElem -> qcQ, nodup_nil -> qcU, getElem?_eq_none_iff -> qcV, drop_eq_getElem_cons -> qcW, length_take -> qc0, getElem?_replicate -> qda, find?_cons -> qdb, take_of_length_le -> qdj, range_succ_eq_map -> qdk, pairwise_map -> qdn, mapM_toArray -> qdo, take_left -> qdu, set_append_right -> qdx, mem_iff_getElem? -> qdy, getElem_inj -> qdC, mem_map_of_mem -> qdI, lookup -> qdJ, filterMap_cons -> qdK, getElem?_take_of_lt -> qd2, filter_cons_of_pos -> qd8, filter_cons_of_neg -> qd9, take_length -> qea, length_drop -> qeb, filter_cons -> qec, find?_cons_of_pos -> qei, find?_cons_of_neg -> qej, range_succ -> qer, length_filter_le -> qes, forIn_nil -> qeH, range' -> qeM, mem_filterMap -> qe3, set_set -> qfl, any_eq_true -> qfq, all_toArray -> qfr, map -> qfG, of_mem_zip -> qfK, getD -> qfL, forIn_cons -> qfM, take_zero -> qf0, pairwise_iff_getElem -> qf1, foldl -> qga, Nodup -> qgb, pairwise_singleton -> qgg, idxOf?_eq_some_iff -> qgh, filter_eq_nil_iff -> qgs, all_map -> qgB, replicate_succ' -> qgO, range_eq_range' -> qgP, map_id -> qgW, length_pos_iff -> qgX, length -> qgY, flatten_append -> qgZ, filter_sublist -> qg0, filter_eq_self -> qg1, zip_nil_right -> qhf, getElem_range -> qhg, zip_nil_left -> qhp, push_toArray -> qhq, filter_congr -> qhr, any_eq_false -> qhs, zipIdx_cons -> qhD, range'_succ -> qhE, nil_sublist -> qhF, isEmpty_iff -> qhG, getElem_map -> qhH, drop_length -> qhI, zipIdx_nil -> qhP, drop_zero -> qh0
open List.Pairwise renaming sublist -> qiA, map -> qiB
open List.Perm renaming refl -> qdc, eq_of_pairwise -> qfs
open List.Sublist renaming refl -> qf2
open Nat renaming le_refl -> qar, ne_of_lt -> qaL, add_sub_cancel_left -> qaN, zero_add -> qaT, lt_of_lt_of_le -> qaZ, le_trans -> qa3, lt_irrefl -> qa8, lt_succ_of_lt -> qbf, reduceSub -> qbA, lt_of_le_of_lt -> qbJ, reduceAdd -> qbS, lt_succ_self -> qbV, ne_of_gt -> qcc, zero_le -> qch, pow_le_pow_right -> qcu, mul_le_mul_right -> qcv, add_sub_cancel -> qcF, not_lt_zero -> qcM, mul_le_mul -> qcZ, le_add_right -> qc2, le_succ -> qc3, le_of_eq -> qdA, two_pow_pos -> qex, sub_self -> qey, lt_trans -> qez, lt_or_ge -> qeA, le_of_lt -> qeB, pow_pos -> qeZ, gcd -> qfk, lt_of_succ_lt_succ -> qgA, pow_succ -> qgK, mul_comm -> qgL, add_zero -> qgM, add_comm -> qgN, pow_add -> qhd, one_mul -> qhe, not_lt -> qhC, succ_ne_self -> qhL, reduceLeDiff -> qhM, mod_eq_of_lt -> qhN, min_eq_right -> qhO, min_eq_left -> qhZ, dvd_trans -> qiz, sub_zero -> qjB, le_total -> qjC, gcd_comm -> qjD, pow_mul -> qjV, add_mul -> qjW
open Ne renaming symm -> qbC
open Option renaming bind_some -> qaa, bind_eq_some_iff -> qac, map_eq_some_iff -> qad, map_some -> qai, isSome_iff_exists -> qcq, isSome_some -> qgI, getD_none -> qhc
open Option.some renaming inj -> qaV, injEq -> qew
open Prod renaming fst -> qcz, snd -> qdt
open PyProof.Rows renaming wpS_bind -> qbv, slot_tuple_getitem -> qbB, SortSt -> qbP, wpS_pure -> qb7, callWith_type1 -> qb8, IntsAre -> qcm, boot_list -> qct, seqObj -> qcS, SortKind -> qc8, wpS_forRange -> qd5, lt_int -> qd7, pendingOf -> qem, envOfC -> qen, boot_sorted -> qe6, boot_range -> qfd, KeyOrd -> qfe, AllBare -> qfp, mirror -> qfD, failedOf -> qge, wpS_modify -> qgQ, setArr -> qgS, wpS_get -> qg4, subscriptTail -> qg6, listUpdate_at -> qg9, subscriptTail_builtinR -> qhk, seqEpoch_at -> qhU, keyKind'_eq -> qhV, getElem?_mirror_all -> qhW, entry_tuple_getitem -> qhX, wpS_mono -> qh6, oneType' -> qh8, keyKind' -> qh9, gallopOf -> qia, args_tuple_getitem -> qic, sortedHeap -> qir, size_push' -> qit, Subscript_ -> qiw, callWith_builtin1 -> qjq, boot_tuple -> qjr, boot_sum -> qjs, boot_str -> qjt, boot_min -> qju, boot_isinstance -> qjv, boot_int -> qjw, boot_bool -> qjx, boot_any -> qjy, boot_all -> qjz, boot_abs -> qjA, sortedAll -> qjL, oneTypeOnly'_eq -> qjO, getElem?_bubble -> qjQ, entry_list_sort -> qjR, slot_list_sort -> qj0, slicePart_none -> qj1, boot_enumerate -> qj5, args_list_sort -> qj6
open PyProof.Rows.KeyOrd renaming kle_refl -> qcG, kle_of_klt -> qdf, kle_trans -> qdz, kle_antisymm -> qgC
open PyProof.Rows.SortSt renaming mk' -> qgU
open PySem renaming wpAny_bind -> qab, Shared -> qak, wpAny_pure -> qan, FuncData -> qau, mainGlobals -> qaA, sizeLine -> qaO, Program -> qaQ, Around -> qa2, IntMulOk -> qbo, mem_of_lookup -> qbr, starEach -> qbt, binaryOp -> qby, compareOp -> qbE, wpAny_newObj_type -> qbF, wpAny_callSpecial?_slot -> qbG, Spec -> qbI, wpAny_call_entry -> qbN, assignEach -> qbO, NameKind -> qbQ, cellsFrom -> qb1, wpAny_field -> qb5, foldedSetIterable -> qb6, bootBuiltins -> qb9, sizeLine_eq -> qcb, wpAny_mono -> qco, sysModules -> qcp, wpAny_holding -> qcr, wpAny_truthy_bool -> qcA, swapsWith -> qcB, wpAny_typeNameOfWhole_keyiter -> qcI, wpAny_seqItems -> qcJ, wpAny_setField_rec -> qcO, wpAny_passesOwn -> qcR, pushCells_keeps -> qcT, call_meets -> qcY, wpAny_typeNameOf_keyiter -> qdd, wpAny_rule -> qde, boot_len -> qdm, wpAny_pyIter_tuple -> qdr, attributeBase -> qds, behindInMarks -> qdO, sliceBounds -> qdV, DictEntry -> qd0, wpAny_Call_Name_kw -> qd6, Builtin -> qeg, wpAny_pyIter_list -> qek, wpAny_pyIter_enum -> qel, wpAny_attempt -> qeu, backTo -> qeF, wpAny_ite_false -> qeQ, wpAny_execs_nil -> qeR, rawInt -> qeS, pushCells -> qeT, letOwnedTupleGo -> qeU, getItem -> qeV, wpAny_updateSeq_pair -> qe4, list_append -> qe5, wpAny_setField -> qfa, firstArgMember -> qfb, assign -> qfc, codeAny -> qff, wpAny_standAt -> qfx, wpAny_onRaise -> qfy, wpAny_newList -> qfz, swapsWithSole -> qfA, swappedStores -> qfB, pyNext -> qfC, wpAny_dictEntries -> qfP, typeIs_int -> qfQ, holding -> qfR, codeAny_mono -> qfX, Paired -> qfZ, IsPart -> qf3, noFill_tuple_add -> qf6, wpAny_dictEpoch -> qgk, valueAt -> qgl, tupleKind -> qgm, subscripted -> qgn, keywordEach -> qgo, callerA -> qgp, Within -> qgr, IsPair -> qgt, intBits_le_iff -> qgx, wpAny_binaryOp_repeat_ref -> qgE, wpAny_comprehension_free -> qgR, builtinsNs -> qgT, wpAny_pyNext_enum_itemD -> qg5, seq_tuple_add -> qg7, rangeSize_one -> qg8, compEnvC -> qha, call -> qhb, IntMulOk -> qhh, BindsTo -> qhj, richCompare_meets_room -> qhl, codeAny_compStart_list -> qhm, seqSlot_of -> qhn, wpAny_typeOf -> qhv, wpAny_isOneOf_keyiter -> qhw, seqIndex_neg -> qhx, concat_meets -> qhy, PassesOwn -> qhA, wpAny_letGo -> qhR, unsupported -> qhS, seqIndex_of -> qhT, Keyword -> qh1, tupleKind_room_in1 -> qh7, backToKw -> qib, GenState -> qii, wpAny_sequenceKey -> qio, wpAny_assign_Name -> qip, wpAny_Name -> qiq, slot_list_getitem -> qis, wpAny_pyIter_zip -> qiJ, wpAny_isInstance -> qiK, wpAny_forIn_list -> qiL, wpAny_execs_cons -> qiM, standAt -> qjK, setItem -> qjM, pyIter -> qjN, isTrue -> qjP, codeAny_builtin -> qjS, Result -> qjT, wpAny_newTuple -> qjY, wpAny_fieldsOf -> qjZ, recursionLimit -> qj2, newFunctionEnv -> qj3, isSubtype_stop -> qj4
open PySem.Around renaming under -> qe9
open PySem.AutoSeq1 renaming sub_tuple_tuple -> qfI
open PySem.Builtin renaming bitAnd -> qbD
open PySem.Builtin.Dict renaming showsAll -> qfw, dictSlotNone -> qjJ
open PySem.Builtin.Dict_items renaming ownsTuple -> qef
open PySem.Builtin.List renaming listTooLong -> qdF, listExtendWith -> qjI
open PySem.Builtin.Range renaming rangeFitsLong -> qeK, rangeSize -> qe8, small -> qiH
open PySem.Builtin.Slice renaming slicePlaces -> qcE, sliceAdjust -> qdB, sliceApplied -> qeP, slicePartIndex -> qiF, sliceFields -> qiG
open PySem.Builtin.SmallTypes renaming nextOf -> qbe, ownedTupleIsFree -> qb0, ownedTupleHandOut -> qdN
open PySem.Builtin.Tuple renaming tupleExact -> qcL, tupleCompareSizes -> qeo, tupleTooMany -> qeN, tupleItemsOf -> qeO, tupleIsExact -> qiE
open PySem.Calls renaming Name_function_global -> qfN, call_function_entry -> qfW
open PySem.Code renaming isFrame -> qgD, isGuard -> qiD, frames -> qjH
open PySem.Draws renaming list -> qjG
open PySem.Env renaming kindOf -> qk9
open PySem.F renaming slot_dict_keyiterator_next -> qbM, slot_tuple_iterator_next -> qcX, slot_tuple_lt -> qdi, slot_tuple_mul -> qdG, args_tuple_add_2 -> qdQ, entry_tuple_add -> qdW, args_tuple_lt_2 -> qdX, slot_tuple_add -> qd3, entry_tuple_lt -> qd4, args_dict_keyiterator_next_1 -> qeq, entry_dict_keyiterator_next -> qev, slot_zip_next -> qeI, slot_int_rmul -> qeJ, args_list_append_2 -> qe0, entry_list_append -> qe7, slot_list_append -> qfm, args_tuple_mul_2 -> qfn, entry_tuple_mul -> qfH, slot_list_index -> qfS, plainAttrs_list -> qfT, slot_dict_iter -> qfY, args_tuple_iterator_next_1 -> qf5, entry_tuple_iterator_next -> qgd, slot_tuple_rmul -> qh3, args_zip_next_1 -> qh4, args_int_rmul_2 -> qh5, slot_int_index -> qij, entry_zip_next -> qik, entry_int_rmul -> qil, fills_int_mul -> qiC
open PySem.Heap renaming get?_push_of_some -> qaj, get?_push_size -> qav, lt_size -> qax, size_push -> qbq, SameBut -> qc6, get?_update_other -> qdl, get?_push_ne -> qdp, get?_update_self -> qet, get?_update_ne -> qg2, ExtBut -> qg3, size_update -> qhJ
open PySem.Heap.IsSliceOf renaming new -> qih
open PySem.Heap.SameBut renaming update -> qdq
open PySem.IntMulOk renaming of_le -> qie
open PySem.IsL renaming update -> qeY
open PySem.Obj renaming mapSeq -> qbY, data_mapFields -> qdT, isFreed_of_fields -> qgJ, cls_mapFields -> qhB, mapFields -> qiy
open PySem.Paired renaming length -> qeL, snoc -> qif
open PySem.PassesOwn renaming never -> qgH
open PySem.SeqAt renaming EqAt -> qdh, ne_of_list_tuple -> qgf, RcNeAt -> qid, RcAt -> qjo, list_indexAt -> qjU
open PySem.SeqAt.EqAt renaming of_refs -> qep, same -> qe2, str_int -> qf7, int_str -> qf8, int_int -> qf9, tuple_str -> qkF, tuple_none -> qkG, tuple_list -> qkH, tuple_int -> qkI, tuple_bool -> qkJ, str_tuple -> qkK, str_str -> qkL, str_none -> qkM, str_list -> qkN, str_bool -> qkO, none_tuple -> qkP, none_str -> qkQ, none_list -> qkR, none_int -> qkS, none_bool -> qkT, list_tuple -> qkU, list_str -> qkV, list_none -> qkW, list_int -> qkX, list_bool -> qkY, int_tuple -> qkZ, int_none -> qk0, int_list -> qk1, int_bool -> qk2, bool_tuple -> qk3, bool_str -> qk4, bool_none -> qk5, bool_list -> qk6, bool_int -> qk7, bool_bool -> qk8
open PySem.SeqAt.RcAt renaming tuples -> qeG, lists_lengths -> qfg, lists -> qgq, tuple_str -> qj7, tuple_none -> qj8, tuple_list -> qj9, tuple_int -> qka, tuple_bool -> qkb, str_tuple -> qkc, str_str -> qkd, str_none -> qke, str_list -> qkf, str_int -> qkg, str_bool -> qkh, none_tuple -> qki, none_str -> qkj, none_none -> qkk, none_list -> qkl, none_int -> qkm, none_bool -> qkn, list_tuple -> qko, list_str -> qkp, list_none -> qkq, list_int -> qkr, list_bool -> qks, int_tuple -> qkt, int_str -> qku, int_none -> qkv, int_list -> qkw, int_int -> qkx, int_bool -> qky, bool_tuple -> qkz, bool_str -> qkA, bool_none -> qkB, bool_list -> qkC, bool_int -> qkD, bool_bool -> qkE
open PySem.SeqAt.RcNeAt renaming tuples -> qfJ, tuple_str -> qiO, tuple_none -> qiP, tuple_list -> qiQ, tuple_int -> qiR, tuple_bool -> qiS, str_tuple -> qiT, str_str -> qiU, str_none -> qiV, str_list -> qiW, str_int -> qiX, str_bool -> qiY, none_tuple -> qiZ, none_str -> qi0, none_none -> qi1, none_list -> qi2, none_int -> qi3, none_bool -> qi4, lists_lengths -> qi5, lists -> qi6, list_tuple -> qi7, list_str -> qi8, list_none -> qi9, list_int -> qja, list_bool -> qjb, int_tuple -> qjc, int_str -> qjd, int_none -> qje, int_list -> qjf, int_int -> qjg, int_bool -> qjh, bool_tuple -> qji, bool_str -> qjj, bool_none -> qjk, bool_list -> qjl, bool_int -> qjm, bool_bool -> qjn
open PySem.Shared renaming heap -> qgw
open PySem.Str renaming ofString -> qc7
open PySem.Value renaming isStrOf -> qhY, isInt -> qiv
open PySem.W renaming Frag -> qae, mg_of -> qaE, nsIn -> qaI, findIn -> qbp, kia_one -> qbH, emptyDict -> qbX, instObj -> qcl, keepIn -> qcy, cellsFrom_some -> qc9, fnOf -> qdH, hasDictIn -> qdP, plainGet -> qd1, plainOver -> qeW, methodObj -> qeX, takerIn -> qfh, makesIn -> qfi, OpenLaw -> qfj, lookIn -> qfE, codeIn -> qfF, kitx_tuple -> qgy, callWith_K -> qgz, kitx_list -> qgF, kitx_dict -> qgG, handedIn -> qgV, kitOne -> qho, WalkO -> qhz, isFn -> qhK
open PySem.W.Looks renaming here -> qix
open PySem.W.WShape renaming has -> qiu
open PySem.Walks renaming list -> qiN
open PySem.WalksT renaming enumerateD -> qe1
open PySem.Within renaming cons -> qjp
namespace L2
open PySem PySem.Spec PyProof.Rows
abbrev Key:=Sum Int Str
def pF:Key->Value->Bool
 |.inl k,v=>qiv k v
 |.inr x,v=>qhY x v
def GW (w:World):Key->Int
 |.inl k=>hashInt k
 |.inr x=>hashStr w x
def bO:∀ {k:Key}{v:Value},pF k v=true->(∃ i t,k=Sum.inl i/\v=Value.int i t)\/(∃ x t,k=Sum.inr x/\v=Value.str x t)
 |.inl i,v,h=>by
  obtain⟨t,e⟩:=Value.isInt_shape (k:=i) (v:=v) h;exact .inl ⟨i,t,rfl,e⟩
 |.inr x,v,h=>by
  obtain⟨t,e⟩:=Value.isStrOf_shape (x:=x) (v:=v) h;exact .inr ⟨x,t,rfl,e⟩
def xg (i:Int) (t:Tok):pF (.inl i) (.int i t)=true:=by simp[pF,qiv]
def xF (x:Str) (t:Tok):pF (.inr x) (.str x t)=true:=by simp[pF,qhY]
def En (a b:Int):decide ((Sum.inl a:Key)=Sum.inl b)=(a==b):=by
 by_cases e:a=b
 ·subst e;simp
 ·have h:¬ (Sum.inl a:Key)=Sum.inl b:=λq=>e (Sum.inl.inj q)
  rw[decide_eq_false h];exact (beq_eq_false_iff_ne.mpr e).symm
def Dc (a b:Str):decide ((Sum.inr a:Key)=Sum.inr b)=decide (a=b):=by
 by_cases e:a=b
 ·subst e;simp
 ·have h:¬ (Sum.inr a:Key)=Sum.inr b:=λq=>e (Sum.inr.inj q)
  rw[decide_eq_false h,decide_eq_false e]
def D2 (a:Int) (b:Str):decide ((Sum.inl a:Key)=Sum.inr b)=false:=decide_eq_false (λq=>nomatch q)
def DG (a:Str) (b:Int):decide ((Sum.inr a:Key)=Sum.inl b)=false:=decide_eq_false (λq=>nomatch q)
def cc (prog:qaQ) (w:World):PySem.KeyKind prog w Key where
 is:=pF
 hash:=GW w
 inj:=λv a b f hb=>by
  rcases bO f with⟨i,t,rfl,rfl⟩|⟨x,t,rfl,rfl⟩
  ·rcases bO hb with⟨j,u,rfl,e⟩|⟨y,u,rfl,e⟩
   ·injection e with c _;rw[c]
   ·exact nomatch e
  ·rcases bO hb with⟨j,u,rfl,e⟩|⟨y,u,rfl,e⟩
   ·exact nomatch e
   ·injection e with c _;rw[c]
 byValue:=λk v h=>by
  rcases bO h with⟨i,t,rfl,rfl⟩|⟨x,t,rfl,rfl⟩<;>rfl
 pyHash:=λd h=>by
  rcases bO d with⟨i,t,rfl,rfl⟩|⟨x,t,rfl,rfl⟩
  ·exact wpAny_pyHash_int h
  ·exact wpAny_pyHash_str h
 eqBool:=λg d h=>by
  rcases bO g with⟨i,t,rfl,rfl⟩|⟨x,t,rfl,rfl⟩
  ·rcases bO d with⟨j,u,rfl,rfl⟩|⟨y,u,rfl,rfl⟩
   ·rw[En]at h;exact wpAny_eqBool_int h
   ·rw[D2]at h;exact qf8 i t y u _ _ _ _ h
  ·rcases bO d with⟨j,u,rfl,rfl⟩|⟨y,u,rfl,rfl⟩
   ·rw[DG]at h;exact qf7 x t j u _ _ _ _ h
   ·rw[Dc]at h;exact wpAny_eqBool_str h
 «strs»:=λk x t v h=>by
  rcases bO h with⟨i,u,rfl,e⟩|⟨y,u,rfl,e⟩
  ·exact nomatch e
  ·injection e with c _
   subst c;cases v<;>rfl
def sK (prog:qaQ) (w:World) (i:Int) (t:Tok):(cc prog w).is (.inl i) (.int i t)=true:=xg i t
def sC (prog:qaQ) (w:World) (x:Str) (t:Tok):(cc prog w).is (.inr x) (.str x t)=true:=xF x t
inductive V where
 |non|bl (b:Bool)|int (i:Int)|str (x:Str)|byt (b:Array UInt8)|flt (b:UInt64)|ref (a:Addr)|ty (n:String)
 deriving DecidableEq
def aQ:V->Value->Prop
 |.non,u=>u=Value.none
 |.bl b,u=>u=Value.bool b
 |.int i,u=>∃ t,u=Value.int i t
 |.str x,u=>∃ t,u=Value.str x t
 |.byt b,u=>∃ t,u=Value.bytes b t
 |.flt b,u=>∃ t,u=Value.float b t
 |.ref a,u=>u=Value.ref a
 |.ty n,u=>u=Value.type n
abbrev aI:List V->List Value->Prop:=qfZ aQ
def aI.length {xs:List V}{a:List Value} (r:aI xs a):xs.length=a.length:=qeL r
def aI.get:∀ {xs:List V}{a:List Value}{i:Nat}{x:V},aI xs a->xs[i]?=some x->∃ u,a[i]?=some u/\aQ x u
 |_,_,_,_,.nil,e=>by simp at e
 |_,_,0,_,.cons r _,e=>by simp at e;subst e;exact⟨_,rfl,r⟩
 |_,_,i+1,x,.cons _ t,e=>by
  obtain⟨u,c,b⟩:=aI.get (i:=i) (x:=x) t (by simpa using e);exact⟨u,by simpa using c,b⟩
def aI.set {x:V}{u:Value} (r:aQ x u):∀ {xs:List V}{a:List Value} (i:Nat),aI xs a->aI (xs.set i x) (a.set i u)
 |_,_,_,.nil=>.nil
 |_,_,0,.cons _ t=>.cons r t
 |_,_,i+1,.cons q t=>.cons q (aI.set r i t)
def aI.append:∀ {xs b:List V}{a ws:List Value},aI xs a->aI b ws->aI (xs++b) (a++ws)
 |_,_,_,_,.nil,s=>s
 |_,_,_,_,.cons r t,s=>.cons r (aI.append t s)
def aI.take:∀ {xs:List V}{a:List Value} (n:Nat),aI xs a->aI (xs.take n) (a.take n)
 |_,_,0,_=>.nil
 |_,_,_+1,.nil=>.nil
 |_,_,n+1,.cons r t=>.cons r (aI.take n t)
def aI.drop:∀ {xs:List V}{a:List Value} (n:Nat),aI xs a->aI (xs.drop n) (a.drop n)
 |_,_,0,r=>r
 |_,_,_+1,.nil=>.nil
 |_,_,n+1,.cons _ t=>aI.drop n t
def k9:Option V->Option Value->Prop
 |some v,some u=>aQ v u
 |none,none=>True
 |_,_=>False
def KV {a:Type}:List (a×V)->List (a×Value)->Prop:=qfZ λ(p:a×V) (q:a×Value)=>p.1=q.1/\aQ p.2 q.2
def kV:Key->V
 |.inl i=>.int i
 |.inr x=>.str x
inductive HO where
 |lst (xs:List V)
 |tup (xs:List V)
 |dK (kvs:List (Key×V))|dT (kvs:List (List Key×V))
 |set (S:Int->Bool) (n:Nat)
 |ins (C dx:Addr) (fs:List (Str×V))
 |own (x:Addr)
 |xd (fs:List (Str×V))
 |met (f x:Addr)
 |rng (lo hi:Int)
 |frz (o:Obj) (u:HO)
 |tbl (ps:Array Value)
 |ext (φ:Heap->Prop)
abbrev Hp:=Addr->Option HO
def upd (H:Hp) (a:Addr) (o:HO):Hp:=λb=>if b=a then some o else H b
def upd_same {H:Hp}{a:Addr}{o:HO}:upd H a o a=some o:=by unfold upd;rw[if_pos rfl]
def upd_ne {H:Hp}{a b:Addr}{o:HO} (h:b≠a):upd H a o b=H b:=by unfold upd;rw[if_neg h]
def E4 {H:Hp}{a b:Addr}{o u:HO} (h:H a=some o) (h':H b=some u) (d:o≠u):a≠b:=by
 intro e;subst e;rw[h]at h';exact d (qaV h')
def aJ {H:Hp}{a b:Addr}{o:HO} (h:H a=some o) (h':H b=none):a≠b:=by
 intro e;subst e;rw[h]at h';cases h'
def cW (h:Heap) (a:Addr) (its:Array Value):Prop:=∃ o:Obj,h.get? a=some o/\o.cls=.type "tuple"/\(∃ n,o.data=.seq its n)/\o.dict=none
def cW.tup {h:Heap}{a:Addr}{its:Array Value} (x:cW h a its):IsTup h a its:=let ⟨o,e,c,n,_⟩:=x;⟨o,e,c,n⟩
def cW.new (h:Heap) (its:Array Value):cW (h.push { cls:=.type "tuple",data:=.seq its }) h.objs.size its:=⟨_,qav _ rfl,rfl,⟨_,rfl⟩,rfl⟩
section
variable (P:qaQ) (w:World)
def bG (H:Hp) (h:Heap) (a:Addr):HO->Prop
 |.lst xs=>xs.length<=qaO/\∃ (its:List Value) (n:Nat),aI xs its/\h.get? a=some { cls:=.type "list",data:=.seq its.toArray n }
 |.tup xs=>xs.length<=qaO/\∃ its:List Value,aI xs its/\cW h a its.toArray
 |.dK b=>b.length<=qaO/\(a==qcp)=false/\∃ vs,KV b vs/\h.DictOf (cc P w) a vs
 |.dT b=>b.length<=qaO/\(a==qcp)=false/\∃ xs:List (List Key×Addr×Value),
   qfZ (λ(p:List Key×V) (q:List Key×Addr×Value)=>p.1=q.1/\H q.2.1=some (.tup (p.1.map kV))/\aQ p.2 q.2.2) b xs/\
   ∃ o es j,h.get? a=some o/\o.ExactDict/\o.data=.dict es j/\es.toList=xs.map (entryOfKey (qgm (cc P w)))/\(xs.map (·.1)).Nodup
 |.set S n=>h.SetOf (intKind P w) a S n
 |.ins C d fs=>H d=some (.own a)/\fs.length<=1000/\d≠a/\h.get? a=some (qcl C d)/\
   ∃ c,h.Ns1 d c/\(∀ f,k9 (fs.lookup f) (c f))/\qgr c (fs.map (·.1))
 |.own _=>∃ o,h.get? a=some o
 |.xd fs=>∃ c,h.Ns1 a c/\∀ f,k9 (fs.lookup f) (c f)
 |.rng lo i=>∃ t u v,h.get? a=some { cls:=.type "range",data:=.fields #[.int lo t,.int i u,.int 1 v] }
 |.frz o u=>h.get? a=some o/\bG H h a u
 |.tbl ps=>h.get? a=some { cls:=.none,data:=.fields ps }
 |.met f x=>h.get? a=some (qeX (.ref f) (.ref x))
 |.ext φ=>φ h/\(∃ o,h.get? a=some o)/\∀ g e:Heap,φ g->(∀ o,g.get? a=some o->e.get? a=some o)->φ e
def HOk (H:Hp) (h:Heap):Prop:=∀ a o,H a=some o->bG P w H h a o
end
section
variable {P:qaQ}{w:World}{H H':Hp}{h h':Heap}{a:Addr}{o:HO}
def bG.lt (x:bG P w H h a o):a<h.objs.size:=by
 cases o with
 |lst xs=>obtain⟨_,_,_,_,e⟩:=x;exact qax e
 |tup xs=>obtain⟨_,_,_,p⟩:=x;exact p.tup.lt
 |dK l=>obtain⟨_,_,_,_,o,_,_,e,_⟩:=x;exact qax e
 |dT l=>obtain⟨_,_,_,_,o,_,_,e,_⟩:=x;exact qax e
 |set S n=>obtain⟨o,_,_,_,e,_⟩:=x;exact qax e
 |ins C B fs=>obtain⟨_,_,_,e,_⟩:=x;exact qax e
 |own y=>obtain⟨_,e⟩:=x;exact qax e
 |xd fs=>obtain⟨_,⟨_,_,_,e,_⟩,_⟩:=x;exact qax e
 |rng lo J=>obtain⟨_,_,_,e⟩:=x;exact qax e
 |frz ob u=>obtain⟨e,_⟩:=x;exact qax e
 |tbl ps=>exact qax (show h.get? a=some _ from x)
 |met f y=>exact qax (show h.get? a=some _ from x)
 |ext φ=>obtain⟨_,⟨_,e⟩,_⟩:=x;exact qax e
def qfZ.mapP {α A:Type}{F G:α->A->Prop}:∀ {j:List α}{i:List A},qfZ F j i->(∀ a b,F a b->G a b)->qfZ G j i
 |_,_,.nil,_=>.nil
 |_,_,.cons r t,f=>.cons (f _ _ r) (qfZ.mapP t f)
def bG.stay (x:bG P w H h a o) (k:∀ b u,(b=a\/H b=some (.own a))->h.get? b=some u->h'.get? b=some u)
  (D:∀ b,H b=some (.own a)->H' b=some (.own a)) (I:∀ b xs,H b=some (.tup xs)->H' b=some (.tup xs)):bG P w H' h' a o:=by
 induction o with
 |lst xs=>obtain⟨z,its,n,r,e⟩:=x;exact⟨z,its,n,r,k _ _ (.inl rfl) e⟩
 |tup xs=>obtain⟨z,its,r,ob,e,c⟩:=x;exact⟨z,its,r,ob,k _ _ (.inl rfl) e,c⟩
 |dK l=>obtain⟨z,y,vs,r,ob,es,g,e,c⟩:=x;exact⟨z,y,vs,r,ob,es,g,k _ _ (.inl rfl) e,c⟩
 |dT l=>
  obtain⟨z,y,xs,r,ob,es,g,e,c⟩:=x;exact⟨z,y,xs,qfZ.mapP r λp q z=>⟨z.1,I _ _ z.2.1,z.2.2⟩,ob,es,g,k _ _ (.inl rfl) e,c⟩
 |set S n=>obtain⟨ob,es,g,t,e,c⟩:=x;exact⟨ob,es,g,t,k _ _ (.inl rfl) e,c⟩
 |ins C B fs=>
  obtain⟨d,z,ne,e,m,⟨s,es,g,E,c⟩,r⟩:=x;exact⟨D _ d,z,ne,k _ _ (.inl rfl) e,m,⟨s,es,g,k _ _ (.inr d) E,c⟩,r⟩
 |own y=>obtain⟨ob,e⟩:=x;exact⟨ob,k _ _ (.inl rfl) e⟩
 |xd fs=>obtain⟨m,⟨s,es,g,e,c⟩,r⟩:=x;exact⟨m,⟨s,es,g,k _ _ (.inl rfl) e,c⟩,r⟩
 |rng lo J=>obtain⟨t,u,v,e⟩:=x;exact⟨t,u,v,k _ _ (.inl rfl) e⟩
 |frz ob u L=>obtain⟨e,q⟩:=x;exact⟨k _ _ (.inl rfl) e,L q⟩
 |tbl ps=>
  have e:h.get? a=some { cls:=.none,data:=.fields ps }:=x;show h'.get? a=some { cls:=.none,data:=.fields ps };exact k a _ (.inl rfl) e
 |met f y=>
  have e:h.get? a=some (qeX (.ref f) (.ref y)):=x;show h'.get? a=some (qeX (.ref f) (.ref y));exact k a _ (.inl rfl) e
 |ext φ=>obtain⟨p,⟨o,e⟩,st⟩:=x;exact⟨st _ _ p λo q=>k _ _ (.inl rfl) q,⟨o,k _ _ (.inl rfl) e⟩,st⟩
def HOk.lt (x:HOk P w H h) (e:H a=some o):a<h.objs.size:=(x a o e).lt
def HOk.fresh (x:HOk P w H h) (e:h.objs.size<=a):H a=none:=by
 cases q:H a with
 |none=>rfl
 |some u=>exact absurd (qaZ (x.lt q) e) (qa8 _)
def HOk.kept (x:HOk P w H h) (k:∀ b u,h.get? b=some u->h'.get? b=some u):HOk P w H h':=λa o e=>
 (x a o e).stay (λb u _ q=>k b u q) (λ_ q=>q) λ_ _ q=>q
def HOk.laid (x:HOk P w H h) (k:∀ b u,h.get? b=some u->h'.get? b=some u) (K:h.objs.size<=a) (new:bG P w (upd H a o) h' a o):HOk P w (upd H a o) h':=λb u e=>by
 have hn:=x.fresh K;by_cases hb:b=a
 ·subst hb;rw[upd_same]at e;cases e;exact new
 ·rw[upd_ne hb]at e
  exact (x b u e).stay (λc v _ q=>k c v q) (λc q=>by rw[upd_ne (aJ q hn)];exact q) λc xs q=>by rw[upd_ne (aJ q hn)];exact q
end
def Rd (H:Hp) (a:Addr) (u:HO):Prop:=H a=some u\/∃ o,H a=some (.frz o u)
def Rd.of {H:Hp}{a:Addr}{u:HO} (h:H a=some u):Rd H a u:=.inl h
def Rd.ok {P:qaQ}{w:World}{H:Hp}{h:Heap}{a:Addr}{u:HO} (r:Rd H a u) (x:HOk P w H h):bG P w H h a u:=by
 rcases r with r|⟨o,r⟩
 ·exact x a u r
 ·obtain⟨_,q⟩:=x a _ r
  exact q
def Mut:Option HO->Prop
 |some (.lst _)=>True
 |some (.dK _)=>True
 |some (.dT _)=>True
 |some (.set _ _)=>True
 |some (.ins _ _ _)=>True
 |some (.ext _)=>True
 |_=>False
section
variable {P:qaQ}{w:World}{H:Hp}{h h':Heap}{x e:Addr}{j:HO}
def HOk.write (ok:HOk P w H h) (g:Mut (H x)) (m:e=x\/H e=some (.own x)) (k:∀ b u,b≠e->h.get? b=some u->h'.get? b=some u) (l:∃ u,h'.get? e=some u)
  (new:bG P w (upd H x j) h' x j):HOk P w (upd H x j) h':=λb u q=>by
 have d:∀ c y,H c=some (.own y)->c≠x:=λc y r z=>by subst z;rw[r]at g;exact g
 have f:∀ c xs,H c=some (.tup xs)->c≠x:=λc xs r z=>by subst z;rw[r]at g;exact g
 by_cases hb:b=x
 ·subst hb;rw[upd_same]at q;cases q;exact new
 ·rw[upd_ne hb]at q
  by_cases a:b=e
  ·have n:H b=some (.own x):=by
    rcases m with z|z
    ·exact absurd (a.trans z) hb
    ·rw[a];exact z
   rw[q]at n;cases n;obtain⟨v,o⟩:=l;exact⟨v,by rw[a];exact o⟩
  ·refine (ok b u q).stay (λc v i r=>k c v ?_ r) (λc r=>by rw[upd_ne (d c b r)];exact r) λc xs r=>by rw[upd_ne (f c xs r)];exact r
   rcases i with rfl|i
   ·exact a
   ·rintro rfl
    rcases m with z|z
    ·exact d c b i z
    ·rw[i]at z;cases z;exact hb rfl
end
structure Un (fs ex:List Addr) (H H':Hp) (h h':Heap):Prop where
 keep:∀ b o,h.get? b=some o->H b=none->b∉fs->b∉ex->h'.get? b=some o
 slot:∀ b o,h.get? b=some o->H b=none->b∈fs->b∉ex->∃ sl,h'.get? b=some { o with slots:=sl }
 free:∀ b o,h.get? b=some o->H b=none->b∉ex->H' b=none
 there:∀ b o,h.get? b=some o->b∉ex->∃ o',h'.get? b=some o'
 tups:∀ b xs,H b=some (.tup xs)->H' b=some (.tup xs)
 frzs:∀ b o u,H b=some (.frz o u)->H' b=some (.frz o u)
 tbls:∀ b ps,H b=some (.tbl ps)->∃ more,H' b=some (.tbl (ps++more))
section
variable {fs l ex m:List Addr}{H H1 H2:Hp}{h i t h':Heap}{a x e:Addr}{o:HO}
def Un.any (u:Un fs ex H H1 h i) {b:Addr}{ob:Obj} (q:h.get? b=some ob) (n:H b=none) (c:b∉ex):∃ p,i.get? b=some { ob with slots:=p }:=by
 by_cases hb:b∈fs
 ·exact u.slot b ob q n hb c
 ·exact⟨ob.slots,u.keep b ob q n hb c⟩
def Un.kept (k:∀ b u,h.get? b=some u->h'.get? b=some u):Un fs ex H H h h':=
 ⟨λb ob q _ _ _=>k b ob q,λb ob q _ _ _=>⟨ob.slots,k b ob q⟩,λ_ _ _ n _=>n,λb ob q _=>⟨ob,k b ob q⟩,λ_ _ q=>q,λ_ _ _ q=>q,λ_ ps q=>⟨#[],by rw[q];simp⟩⟩
def Un.refl:Un fs ex H H h h:=Un.kept λ_ _ q=>q
def Un.laid (k:∀ b u,h.get? b=some u->h'.get? b=some u) (s:h.objs.size<=a) (hn:H a=none):Un fs ex H (upd H a o) h h' where
 keep:=λb u q _ _ _=>k b u q
 slot:=λb u q _ _ _=>⟨u.slots,k b u q⟩
 free:=λb u q n _=>by rw[upd_ne (qaL (qaZ (qax q) s))];exact n
 there:=λb u q _=>⟨u,k b u q⟩
 tups:=λb xs q=>by rw[upd_ne (aJ q hn)];exact q
 frzs:=λb u xs q=>by rw[upd_ne (aJ q hn)];exact q
 tbls:=λb ps q=>⟨#[],by rw[upd_ne (aJ q hn),q];simp⟩
def Un.write (f:Mut (H x)) (j:e=x\/H e=some (.own x)) (k:∀ b u,b≠e->h.get? b=some u->h'.get? b=some u) (g:∃ u,h'.get? e=some u):Un fs ex H (upd H x o) h h':=by
 have c:∀ b,H b=none->b≠x:=λb n z=>by subst z;rw[n]at f;exact f
 have hb:∀ b,H b=none->b≠e:=λb n z=>by
  subst z;rcases j with r|r
  ·exact c b n r
  ·rw[n]at r;cases r
 have hm:∀ b u,H b=some u->¬ Mut (some u)->b≠x:=λb u q nm z=>by subst z;rw[q]at f;exact nm f
 refine⟨λb u q n _ _=>k b u (hb b n) q,λb u q n _ _=>⟨u.slots,k b u (hb b n) q⟩,λb u q n _=>by rw[upd_ne (c b n)];exact n,λb u q _=>?_,
  λb xs q=>by rw[upd_ne (hm b _ q λz=>z)];exact q,λb u xs q=>by rw[upd_ne (hm b _ q λz=>z)];exact q,λb ps q=>⟨#[],by rw[upd_ne (hm b _ q λz=>z),q];simp⟩⟩
 by_cases d:b=e
 ·subst d;exact g
 ·exact⟨u,k b u d q⟩
end
def trk (h:Heap) (H:Hp):List Addr:=(qag h.objs.size).filter λa=>(H a).isSome
def qi (h:Heap) (H:Hp):Heap:=PySem.W.hideAll h (trk h H)
def xr (h:Heap) (H:Hp):(qi h H).objs.size=h.objs.size:=PySem.W.hideAll_size _ _
def zb {h:Heap}{H:Hp}{b:Addr}{o:Obj} (e:h.get? b=some o) (n:H b=none):(qi h H).get? b=some o:=
 PySem.W.hideAll_get _ e λhm=>by
  have q:(H b).isSome=true:=(qcf.mp hm).2;rw[n]at q;simp at q
def AD {h:Heap}{H:Hp}{b:Addr}{o:Obj} (e:(qi h H).get? b=some o):h.get? b=some o/\H b=none:=by
 have a:h.get? b=some o:=PySem.W.of_hideAll (trk h H) e;refine⟨a,?_⟩;cases q:H b with
 |none=>rfl
 |some x=>
  have hm:b∈trk h H:=qcf.mpr ⟨qaU.mpr (qax a),by simp[q]⟩;have z:(qi h H).get? b=none:=PySem.W.hideAll_none (trk h H) hm;rw[z]at e;cases e
structure Mod (K:qae) (mg:Str->Option Value) (base:Heap):Prop where
 kin:K.In base
 glob:base.Ns qaA mg
 blt:∃ mb,base.Ns qgT mb/\∀ x:Str,x≠"__name__"->mb x=qb9 x
 nolimit:base.NoLimit
structure Cx where
 prog:qaQ
 w:World
 K:qae
 mg:Str->Option Value
 base:Heap
 A:qa2
 N:List Str
 s₀:qak
 H₀:Hp
 env:Env
 outer:List Env
 stack:List Env
 ex:List Addr
 fn:Str->Bool
 calm:Bool
 pn:List (Addr×Obj)
 xe:Value->qak->Prop
def frs (l:List Env):List Addr:=l.filterMap (·.frame)
abbrev Cx.fs (X:Cx):List Addr:=frs X.outer
def Vis (a:Scope) (x:Str):Prop:=a.names.lookup x=some .local\/a.names.lookup x=some .cell\/a.names.lookup x=some .free
def Loc (a:Scope) (x:Str):Prop:=a.names.lookup x=some .local\/a.names.lookup x=some .cell
def GM (env:Env) (h:Heap) (m:Str->Option Value) (x:Str) (u:Value):Prop:=
 (env.kindOf x=some .local/\m x=some u)\/((env.kindOf x=some .cell\/env.kindOf x=some .free)/\∃ c,env.cells.lookup x=some c/\h.IsCell c (some u))
structure Cx.Ok (X:Cx):Prop where
 mod:Mod X.K X.mg X.base
 kind:X.env.scope.kind=.function
 glob:X.env.globals=qaA
 blt:X.env.builtins=qgT
 above:X.s₀.heap.objs.size<=X.env.locals
 inj:∀ x y c,X.env.cells.lookup x=some c->X.env.cells.lookup y=some c->x=y
 has:∀ x,(X.env.kindOf x=some .cell\/X.env.kindOf x=some .free)->∃ c,X.env.cells.lookup x=some c
 cab:∀ x c,X.fn x=true->X.env.cells.lookup x=some c->X.s₀.heap.objs.size<=c
 hd:X.calm=true->X.A.handled=none
 frames:X.A.frames=some X.stack
 stk:X.stack=X.outer\/(X.stack=X.env::X.outer/\X.env.frame=some X.env.locals)
 exf:∀ b∈X.ex,b≠X.env.locals/\∀ x c,X.env.cells.lookup x=some c->c≠b
 bs:∀ b o,X.base.get? b=some o->X.s₀.heap.get? b=some o/\X.H₀ b=none
 bsz:X.base.objs.size<=X.s₀.heap.objs.size
 noex:∀ b o,X.base.get? b=some o->b∉X.ex
 exfs:∀ b∈X.ex,b∉X.fs
 funs:X.s₀.heap.FunFrames X.base X.outer
 frf:∀ b∈X.fs,X.H₀ b=none
structure Inv (X:Cx) (pins:List (Addr×Obj)) (σ:List (Option V)) (H:Hp) (s:qak):Prop where
 ok:X.Ok
 os:s.os=X.s₀.os
 bare:qfp s.gens
 base:Un X.fs X.ex X.H₀ H X.s₀.heap s.heap
 loc:∃ m,s.heap.Ns X.env.locals m/\∀ (i:Nat) (x:Str) (v:V),X.N[i]?=some x->σ[i]?=some (some v)->Vis X.env.scope x->∃ u,aQ v u/\GM X.env s.heap m x u
 cell:∀ x c,X.env.cells.lookup x=some c->∃ v,s.heap.IsCell c v
 free:H X.env.locals=none
 freeC:∀ x c,X.env.cells.lookup x=some c->H c=none
 pin:∀ p∈X.pn++pins,s.heap.get? p.1=some p.2/\H p.1=none/\p.1≠X.env.locals/\p.1∉X.fs/\∀ v,p.2.data≠.cell v
 hok:HOk X.prog X.w H s.heap
 len:σ.length=X.N.length
section
variable {X:Cx}{f:List (Addr×Obj)}{g:List (Option V)}{H H':Hp}{s:qak}{h':Heap}
def Cx.Ok.nofr (ok:X.Ok) {b:Addr}{o:Obj} (e:X.base.get? b=some o):b∉X.fs:=λhb=>by
 have:=(ok.funs.mem hb).1
 rw[e]at this;cases this
def Inv.bs (I:Inv X f g H s):∀ b o,X.base.get? b=some o->s.heap.get? b=some o/\H b=none:=λb o e=>
 ⟨I.base.keep b o (I.ok.bs b o e).1 (I.ok.bs b o e).2 (I.ok.nofr e) (I.ok.noex b o e),I.base.free b o (I.ok.bs b o e).1 (I.ok.bs b o e).2 (I.ok.noex b o e)⟩
def Inv.bk (I:Inv X f g H s):∀ b o,X.base.get? b=some o->s.heap.get? b=some o:=λb o e=>(I.bs b o e).1
def Inv.mod (I:Inv X f g H s):Mod X.K X.mg X.base:=I.ok.mod
def Inv.kIn (I:Inv X f g H s):X.K.In s.heap:=I.ok.mod.kin.keeps I.bk
def Inv.fr (I:Inv X f g H s):∃ m,Fr X.base X.env.locals s.heap m:=
 let ⟨m,hn,_⟩:=I.loc
 ⟨m,hn,I.bk,qa3 I.ok.bsz I.ok.above⟩
def Inv.lt (I:Inv X f g H s):X.env.locals<s.heap.objs.size:=let ⟨_,hn,_⟩:=I.loc;hn.lt
def Inv.sz (I:Inv X f g H s):X.s₀.heap.objs.size<=s.heap.objs.size:=qa3 I.ok.above (qeB I.lt)
def Inv.nofs (I:Inv X f g H s) {a:Addr} (h:s.heap.objs.size<=a):a∉X.fs:=λhb=>by
 obtain⟨_,o,F,_⟩:=I.ok.funs.mem hb;exact absurd (qaZ (qax F) (qa3 I.sz h)) (qa8 _)
def Inv.cne (I:Inv X f g H s):∀ x c,X.env.cells.lookup x=some c->c≠X.env.locals:=λx c e z=>by
 obtain⟨v,o,F,hd⟩:=I.cell x c e;obtain⟨m,⟨R,es,ep,P,hd',_⟩,_⟩:=I.loc;rw[z,P]at F;cases F;rw[hd']at hd;cases hd
def Inv.funs (I:Inv X f g H s):s.heap.FunFrames X.base X.outer:=by
 have all:∀ (l:List Env),(∀ b∈frs l,b∈X.fs)->X.s₀.heap.FunFrames X.base l->s.heap.FunFrames X.base l:=by
  intro l
  induction l with
  |nil=>intro _ _;trivial
  |cons env r ih=>
   intro G hl;obtain⟨hk,⟨L,o,hf,hn,F,hd⟩,hr⟩:=hl;have T:L∈X.fs:=G L (by unfold frs;rw[qdK,hf];exact qaf);obtain⟨sl,e⟩:=I.base.slot L o F (I.ok.frf L T) T λz=>I.ok.exfs L z T;exact⟨hk,⟨L,_,hf,hn,e,hd⟩,ih (λb hb=>G b (by unfold frs;rw[qdK,hf];exact qal _ hb)) hr⟩
 exact all X.outer (λ_ hb=>hb) I.ok.funs
def Inv.stack (I:Inv X f g H s):s.heap.FunFrames X.base X.stack:=by
 rcases I.ok.stk with e|⟨e,hf⟩
 ·rw[e];exact I.funs
 ·rw[e]
  obtain⟨m,hn,_⟩:=I.loc;refine .cons (by rw[I.ok.kind];decide) hf hn ?_ I.funs;exact Heap.get?_none_of_le (qa3 I.ok.bsz I.ok.above)
def Inv.stkSub (I:Inv X f g H s):∀ b∈frs X.stack,b∈X.env.locals::X.fs:=λb hb=>by
 rcases I.ok.stk with e|⟨e,hf⟩
 ·rw[e]at hb;exact qal _ hb
 ·rw[e]at hb
  unfold frs at hb;rw[qdK,hf]at hb;exact hb
def Inv.stkFree (I:Inv X f g H s):∀ b∈frs X.stack,H b=none:=λb hb=>by
 rcases qaH.mp (I.stkSub b hb) with e|hb
 ·rw[e];exact I.free
 ·obtain⟨_,o,F,_⟩:=I.ok.funs.mem hb
  exact I.base.free b o F (I.ok.frf b hb) λz=>I.ok.exfs b z hb
def Inv.step {g':Array qii}{t':Nat}{d':Drawn}{ch:List Addr} (I:Inv X f g H s)
  (J:∀ b∈ch,(b∈X.ex\/X.s₀.heap.objs.size<=b)/\b≠X.env.locals/\(∀ x c,X.env.cells.lookup x=some c->c≠b)/\∀ p∈X.pn++f,p.1≠b)
  (keep:∀ b o,b≠X.env.locals->b∉X.fs->b∉ch->s.heap.get? b=some o->H b=none->h'.get? b=some o)
  (slot:∀ b o,b≠X.env.locals->b∈X.fs->b∉ch->s.heap.get? b=some o->H b=none->∃ sl,h'.get? b=some { o with slots:=sl }) (free:∀ b o,b∉ch->s.heap.get? b=some o->H b=none->H' b=none)
  (there:∀ b o,b∉ch->s.heap.get? b=some o->∃ R,h'.get? b=some R)
  (tups:∀ b xs,H b=some (.tup xs)->H' b=some (.tup xs)) (frzs:∀ b o u,H b=some (.frz o u)->H' b=some (.frz o u)) (tbls:∀ b ps,H b=some (.tbl ps)->∃ more,H' b=some (.tbl (ps++more)))
  (ns:∀ m,s.heap.Ns X.env.locals m->h'.Ns X.env.locals m) (hok:HOk X.prog X.w H' h') (hg:qfp g') :
  Inv X f g H' { s with heap:=h',gens:=g',drawn:=d',toks:=t' }:=by
 have neL:∀ b o,X.s₀.heap.get? b=some o->b≠X.env.locals:=λb o e=>qaL (qaZ (qax e) I.ok.above);have neC:∀ b o,X.s₀.heap.get? b=some o->b∉X.ex->b∉ch:=λb o e C hb=>by
  rcases (J b hb).1 with z|z
  ·exact C z
  ·exact absurd (qaZ (qax e) z) (qa8 _)
 have cellK:∀ x c,X.env.cells.lookup x=some c->∀ v,s.heap.IsCell c v->h'.IsCell c v:=λx c e v ⟨o,F,hd⟩=>by
  have W:c∉ch:=λz=>(J c z).2.2.1 x c e rfl;by_cases B:c∈X.fs
  ·obtain⟨sl,q⟩:=slot c o (I.cne x c e) B W F (I.freeC x c e)
   exact⟨_,q,hd⟩
  ·exact⟨o,keep c o (I.cne x c e) B W F (I.freeC x c e),hd⟩
 refine⟨I.ok,I.os,hg,⟨λb o e n hb C=>?_,λb o e n hb C=>?_,λb o e n C=>?_,λb o e C=>?_,λb xs e=>tups b xs (I.base.tups b xs e),λb o xs e=>frzs b o xs (I.base.frzs b o xs e),λb ps e=>?_⟩,?_,λx c e=>?_,?_,λx c e=>?_,λp S=>?_,hok,I.len⟩
 ·exact keep b o (neL b o e) hb (neC b o e C) (I.base.keep b o e n hb C) (I.base.free b o e n C)
 ·obtain⟨sl,D⟩:=I.base.slot b o e n hb C
  obtain⟨sl',K⟩:=slot b _ (neL b o e) hb (neC b o e C) D (I.base.free b o e n C);exact⟨sl',K⟩
 ·obtain⟨R,D⟩:=I.base.there b o e C
  exact free b R (neC b o e C) D (I.base.free b o e n C)
 ·obtain⟨R,D⟩:=I.base.there b o e C
  exact there b R (neC b o e C) D
 ·obtain⟨m1,D⟩:=I.base.tbls b ps e
  obtain⟨m2,K⟩:=tbls b _ D;exact⟨m1++m2,by rw[K,Array.append_assoc]⟩
 ·obtain⟨m,hn,hl⟩:=I.loc
  refine⟨m,ns m hn,λi x v D K e3=>?_⟩;obtain⟨u,r,l⟩:=hl i x v D K e3;refine⟨u,r,?_⟩;rcases l with l|⟨k,c,e,z⟩
  ·exact .inl l
  ·exact .inr ⟨k,c,e,cellK x c e _ z⟩
 ·obtain⟨v,z⟩:=I.cell x c e
  exact⟨v,cellK x c e v z⟩
 ·obtain⟨m,⟨o,_,_,F,_⟩,_⟩:=I.loc
  exact free _ o (λz=>(J _ z).2.1 rfl) F I.free
 ·obtain⟨v,o,F,hd⟩:=I.cell x c e
  exact free c o (λz=>(J c z).2.2.1 x c e rfl) F (I.freeC x c e)
 ·obtain⟨e,n,ne,nf,d⟩:=I.pin p S
  have W:p.1∉ch:=λz=>(J p.1 z).2.2.2 p S rfl;exact⟨keep p.1 p.2 ne nf W e n,free p.1 p.2 W e n,ne,nf,d⟩
def Inv.un {t':Nat} (I:Inv X f g H s) (u:Un X.fs [] H H' s.heap h') (hok:HOk X.prog X.w H' h'):Inv X f g H' { s with heap:=h',toks:=t' }:=by
 obtain⟨m,⟨o,es,ep,F,r⟩,_⟩:=id I.loc;obtain⟨sl,T⟩:=u.any F I.free (by simp)
 exact I.step (g':=s.gens) (d':=s.drawn) (ch:=[]) (λ_ z=>nomatch z) (λb o _ hb _ e n=>u.keep b o e n hb (by simp)) (λb o _ hb _ e n=>u.slot b o e n hb (by simp)) (λb o _ e n=>u.free b o e n (by simp)) (λb o _ e=>u.there b o e (by simp)) u.tups u.frzs u.tbls (λm' hm=>by
  obtain⟨R,es',ep',P,r'⟩:=hm;rw[F]at P;cases P
  exact⟨_,es',ep',T,r'⟩) hok I.bare
def Inv.call {g':Array qii}{t':Nat}{d':Drawn}{ch:List Addr} (I:Inv X f g H s) (u:Un (frs X.stack) ch H H' s.heap h') (hok:HOk X.prog X.w H' h') (hg:qfp g')
  (J:∀ b∈ch,(b∈X.ex\/X.s₀.heap.objs.size<=b)/\b≠X.env.locals/\(∀ x c,X.env.cells.lookup x=some c->c≠b)/\∀ p∈X.pn++f,p.1≠b) :
  Inv X f g H' { s with heap:=h',gens:=g',drawn:=d',toks:=t' }:=by
 obtain⟨m,⟨o,es,ep,F,r⟩,_⟩:=id I.loc;obtain⟨sl,T⟩:=u.any F I.free λz=>(J _ z).2.1 rfl
 exact I.step (ch:=ch) J (λb o T hb B e n=>u.keep b o e n (λz=>(qaH.mp (I.stkSub b z)).elim T hb) B) (λb o _ _ B e n=>u.any e n B) (λb o B e n=>u.free b o e n B) (λb o B e=>u.there b o e B) u.tups u.frzs u.tbls (λm' hm=>by
  obtain⟨R,es',ep',P,r'⟩:=hm;rw[F]at P;cases P
  exact⟨_,es',ep',T,r'⟩) hok hg
def Inv.turned {t':Nat}{it:Addr} (I:Inv X f g H s) (k:∀ b o,b≠it->s.heap.get? b=some o->h'.get? b=some o) (hn:H it=none) (T:it≠X.env.locals)
  (h1:it∈X.ex\/X.s₀.heap.objs.size<=it) (h2:∀ x c,X.env.cells.lookup x=some c->c≠it) (h3:∀ p∈X.pn++f,p.1≠it):Inv X f g H { s with heap:=h',toks:=t' }:=by
 have nit:∀ b u,H b=some u->b≠it:=λb u e z=>by rw[z,hn]at e;cases e
 refine I.step (g':=s.gens) (d':=s.drawn) (ch:=[it]) (λb hb=>?_) (λb o _ _ B e _=>k b o (λz=>B (by simp[z])) e) (λb o _ _ B e _=>⟨o.slots,k b o (λz=>B (by simp[z])) e⟩) (λ_ _ _ _ n=>n)
  (λb o B e=>⟨o,k b o (λz=>B (by simp[z])) e⟩) (λ_ _ e=>e) (λ_ _ _ e=>e) (λb ps e=>⟨#[],by rw[e];simp⟩) (λm hm=>?_) (λb u e=>?_) I.bare
 ·have e:b=it:=by simpa using hb
  subst e;exact⟨h1,T,h2,h3⟩
 ·obtain⟨o,es,ep,F,r⟩:=hm
  exact⟨o,es,ep,k _ o (qbC T) F,r⟩
 ·refine (I.hok b u e).stay (λc v B q=>k c v ?_ q) (λ_ q=>q) λ_ _ q=>q
  rcases B with z|z
  ·rw[z];exact nit b u e
  ·exact nit c _ z
def Inv.tok (I:Inv X f g H s) (t:Nat):Inv X f g H { s with toks:=t }:=I.un (h':=s.heap) (t':=t) Un.refl I.hok
def Inv.kept {t':Nat} (I:Inv X f g H s) (k:∀ b u,s.heap.get? b=some u->h'.get? b=some u):Inv X f g H { s with heap:=h',toks:=t' }:=I.un (Un.kept k) (I.hok.kept k)
def Inv.laid {a:Addr}{o:HO}{t':Nat} (I:Inv X f g H s) (k:∀ b u,s.heap.get? b=some u->h'.get? b=some u) (S:s.heap.objs.size<=a) (new:bG X.prog X.w (upd H a o) h' a o) :
  Inv X f g (upd H a o) { s with heap:=h',toks:=t' }:=I.un (Un.laid k S (I.hok.fresh S)) (I.hok.laid k S new)
def Inv.write {x e:Addr}{o:HO}{t':Nat} (I:Inv X f g H s) (mu:Mut (H x)) (he:e=x\/H e=some (.own x)) (k:∀ b u,b≠e->s.heap.get? b=some u->h'.get? b=some u) (heo:∃ u,h'.get? e=some u)
  (new:bG X.prog X.w (upd H x o) h' x o):Inv X f g (upd H x o) { s with heap:=h',toks:=t' }:=I.un (Un.write mu he k heo) (I.hok.write mu he k heo new)
def Inv.weak {σ':List (Option V)} (I:Inv X f g H s) (hl:σ'.length=g.length) (w:∀ (i:Nat) v,σ'[i]?=some (some v)->g[i]?=some (some v)):Inv X f σ' H s:=
 ⟨I.ok,I.os,I.bare,I.base,let ⟨m,hn,hl'⟩:=I.loc;⟨m,hn,λi x v D K e3=>hl' i x v D (w i v K) e3⟩,I.cell,I.free,I.freeC,I.pin,I.hok,hl.trans I.len⟩
def Inv.pins_of {Y:List (Addr×Obj)} (I:Inv X f g H s) (h:∀ p∈Y,s.heap.get? p.1=some p.2/\H p.1=none/\p.1≠X.env.locals/\p.1∉X.fs/\∀ v,p.2.data≠.cell v):Inv X Y g H s:=
 ⟨I.ok,I.os,I.bare,I.base,I.loc,I.cell,I.free,I.freeC,λp S=>(qaY.mp S).elim (λz=>I.pin p (qa9 _ z)) (h p),I.hok,I.len⟩
def tR {N:List Str} (hN:N.Nodup) {i j:Nat}{x:Str} (a:N[i]?=some x) (b:N[j]?=some x):i=j:=by
 obtain⟨h1,D⟩:=qas.mp a;obtain⟨h2,K⟩:=qas.mp b;exact (qdC hN).mp (D.trans K.symm)
def wU {M:Model}{A:qa2}{E:Value->qak->Prop}{i:Nat}{x:Str}{v:V}{u:Value}{Q:Unit->qak->Prop} (I:Inv X f g H s) (hN:X.N.Nodup) (hi:X.N[i]?=some x) (C:Loc X.env.scope x) (r:aQ v u)
  (h:∀ s',Inv X f (g.set i (some v)) H s'->(∃ a,qc6 a s.heap s'.heap/\(a=X.env.locals\/X.env.cells.lookup x=some a))->Q () s') (hf:X.fn x=true\/X.env.scope.names.lookup x=some .local:=by first|exact .inl rfl|exact .inr rfl|assumption):wpAny M A (storeName X.env x u) Q E s:=by
 obtain⟨m,hn,hl⟩:=id I.loc;have hcls:(X.env.scope.kind==.class||(X.env.scope.kind==.module&&X.env.locals != X.env.globals))=false:=by rw[I.ok.kind];rfl
 have hiσ:i<g.length:=by rw[I.len];exact (qas.mp hi).1
 have cne:=I.cne;have O:∀ {a:Addr}{h':Heap},(∃ o,s.heap.get? a=some o/\H a=none)->qc6 a s.heap h'->HOk X.prog X.w H h':=λ{a h'} ha G b ob e=>by
  obtain⟨_,_,hfree⟩:=ha;refine (I.hok b ob e).stay (λc w' B q=>(G.2 c ?_).trans q) (λ_ q=>q) λ_ _ q=>q
  rintro rfl
  rcases B with rfl|B
  ·rw[hfree]at e;cases e
  ·rw[hfree]at B;cases B
 rcases C with hk|hk
 ·refine wpAny_storeName_local hk hn (λh' hn' G=>?_) hcls
  obtain⟨oL,_,_,hoL,_⟩:=id hn;refine h _ ⟨I.ok,I.os,I.bare,⟨λb o e n hb C=>?_,λb o e n hb C=>?_,I.base.free,λb o e C=>?_,I.base.tups,I.base.frzs,I.base.tbls⟩,⟨_,hn',λj y v' D K e3=>?_⟩,λy c e=>?_,I.free,I.freeC,λp S=>?_,O ⟨oL,hoL,I.free⟩ G,by simpa using I.len⟩ ⟨_,G,.inl rfl⟩
  ·exact (G.2 b (qaL (qaZ (qax e) I.ok.above))).trans (I.base.keep b o e n hb C)
  ·obtain⟨sl,D⟩:=I.base.slot b o e n hb C
   exact⟨sl,(G.2 b (qaL (qaZ (qax e) I.ok.above))).trans D⟩
  ·obtain⟨R,D⟩:=I.base.there b o e C
   exact⟨R,(G.2 b (qaL (qaZ (qax e) I.ok.above))).trans D⟩
  ·by_cases hj:j=i
   ·subst hj
    rw[hi]at D;cases D;rw[qbj hiσ]at K;cases K;exact⟨u,r,.inl ⟨hk,by simp⟩⟩
   ·rw[qbx (qbC hj)]at K
    obtain⟨u',r',q⟩:=hl j y v' D K e3;refine⟨u',r',?_⟩;rcases q with⟨k,e⟩|⟨k,c,e,z⟩
    ·refine .inl ⟨k,?_⟩
     have:y≠x:=λe=>hj (tR hN D (e ▸ hi))
     simp[this,e]
    ·exact .inr ⟨k,c,e,z.sameBut G (cne y c e)⟩
  ·obtain⟨w',z⟩:=I.cell y c e
   exact⟨w',z.sameBut G (cne y c e)⟩
  ·obtain⟨e,n,ne,nf,d⟩:=I.pin p S
   exact⟨(G.2 p.1 ne).trans e,n,ne,nf,d⟩
 ·have hfn:X.fn x=true:=by
   rcases hf with z|z
   ·exact z
   ·rw[z]at hk;cases hk
  obtain⟨c,B⟩:=I.ok.has x (.inl hk);obtain⟨w',z⟩:=I.cell x c B;refine wpAny_storeName_cell I.ok.kind hk B z (λh' hc' G=>?_);obtain⟨oc,hoc,hocd⟩:=id z;refine h { s with heap:=h' } ⟨I.ok,I.os,I.bare,⟨λb o e n hb C=>?_,λb o e n hb C=>?_,I.base.free,λb o e C=>?_,I.base.tups,I.base.frzs,I.base.tbls⟩,⟨m,hn.sameBut G (qbC (cne x c B)),λj y v' D K e3=>?_⟩,λy c' e=>?_,I.free,I.freeC,λp S=>?_,O ⟨oc,hoc,I.freeC x c B⟩ G,by simpa using I.len⟩ ⟨c,G,.inr B⟩
  ·exact (G.2 b (qaL (qaZ (qax e) (I.ok.cab x c hfn B)))).trans (I.base.keep b o e n hb C)
  ·obtain⟨sl,D⟩:=I.base.slot b o e n hb C
   exact⟨sl,(G.2 b (qaL (qaZ (qax e) (I.ok.cab x c hfn B)))).trans D⟩
  ·obtain⟨R,D⟩:=I.base.there b o e C
   exact⟨R,(G.2 b (qaL (qaZ (qax e) (I.ok.cab x c hfn B)))).trans D⟩
  ·by_cases hj:j=i
   ·subst hj
    rw[hi]at D;cases D;rw[qbj hiσ]at K;cases K;exact⟨u,r,.inr ⟨.inl hk,c,B,hc'⟩⟩
   ·rw[qbx (qbC hj)]at K
    obtain⟨u',r',q⟩:=hl j y v' D K e3;refine⟨u',r',?_⟩;rcases q with q|⟨k,c',e,z'⟩
    ·exact .inl q
    ·refine .inr ⟨k,c',e,z'.sameBut G ?_⟩
     rintro rfl
     exact hj (tR hN D (I.ok.inj _ _ _ e B ▸ hi))
  ·by_cases hcc:c'=c
   ·subst hcc;exact⟨_,hc'⟩
   ·obtain⟨w2,z2⟩:=I.cell y c' e
    exact⟨w2,z2.sameBut G hcc⟩
  ·obtain⟨e,n,ne,nf,d⟩:=I.pin p S
   refine⟨(G.2 p.1 ?_).trans e,n,ne,nf,d⟩;intro q;rw[q,hoc]at e;have q':oc=p.2:=qaV e;exact d w' (by rw[<-q'];exact hocd)
def nh {M:Model}{A:qa2}{E:Value->qak->Prop}{i:Nat}{x:Str}{v:V}{u:Value}{Q:Unit->qak->Prop} (I:Inv X f g H s) (hN:X.N.Nodup) (hi:X.N[i]?=some x) (C:Loc X.env.scope x) (r:aQ v u)
  (h:∀ s',Inv X f (g.set i (some v)) H s'->Q () s') (hf:X.fn x=true\/X.env.scope.names.lookup x=some .local:=by first|exact .inl rfl|exact .inr rfl|assumption):wpAny M A (storeName X.env x u) Q E s:=
 wU I hN hi C r (λs' I' _=>h s' I') hf
def Inv.call' {s':qak}{ch:List Addr} (I:Inv X f g H s) (F:s'.os=s.os) (u:Un (frs X.stack) ch H H' s.heap s'.heap) (hok:HOk X.prog X.w H' s'.heap) (hg:qfp s'.gens)
  (J:∀ b∈ch,(b∈X.ex\/X.s₀.heap.objs.size<=b)/\b≠X.env.locals/\(∀ x c,X.env.cells.lookup x=some c->c≠b)/\∀ p∈X.pn++f,p.1≠b):Inv X f g H' s':=by
 obtain⟨h',g',d',t',R⟩:=s';have e:R=s.os:=F;subst e;exact I.call (g':=g') (t':=t') (d':=d') u hok hg J
end
abbrev XK:=Value->Option Addr->Hp->Prop
abbrev St:=List (Option V)
abbrev VK:=V->Hp->Prop
abbrev TE:=St->Hp->VK->Prop
abbrev TT:=St->Hp->(Bool->Hp->Prop)->Prop
abbrev TA:=St->Hp->(List V->Hp->Prop)->Prop
structure oS where
 nx:St->Hp->Prop
 rt:VK
 bk:St->Hp->Prop:=λ_ _=>False
 ct:St->Hp->Prop:=λ_ _=>False
abbrev TS:=oS->St->Hp->Prop
def EP (X:Cx) (a:List (Addr×Obj)) (b:St) (Q:VK) (u:Value) (s':qak):Prop:=∃ v H',Inv X a b H' s'/\aQ v u/\Q v H'
def TP (X:Cx) (a:List (Addr×Obj)) (c:St) (Q:Bool->Hp->Prop) (b:Bool) (s':qak):Prop:=∃ H',Inv X a c H' s'/\Q b H'
def AP (X:Cx) (a:List (Addr×Obj)) (c:St) (Q:List V->Hp->Prop) (b:List Value) (s':qak):Prop:=∃ vs H',Inv X a c H' s'/\aI vs b/\Q vs H'
def SP (X:Cx) (b:List (Addr×Obj)) (D:oS) (f:Flow) (s':qak):Prop:=
 match f with
 |.next=>∃ a H',Inv X b a H' s'/\D.nx a H'
 |.brk=>∃ a H',Inv X b a H' s'/\D.bk a H'
 |.cont=>∃ a H',Inv X b a H' s'/\D.ct a H'
 |.ret u=>∃ v a H',Inv X b a H' s'/\aQ v u/\D.rt v H'
def PE (X:Cx) (e:Expr) (t:TE):Prop:=
 ∀ (a:List (Addr×Obj)) (s:qak) (b:St) (H:Hp) (Q:VK),Inv X a b H s->t b H Q->wpAny (model X.prog X.w) X.A (eval e X.env) (EP X a b Q) X.xe s
def PT (X:Cx) (e:Expr) (t:TT):Prop:=
 ∀ (a:List (Addr×Obj)) (s:qak) (b:St) (H:Hp) (Q:Bool->Hp->Prop),Inv X a b H s->t b H Q->wpAny (model X.prog X.w) X.A (qjP e X.env (eval e X.env)) (TP X a b Q) X.xe s
def PW (X:Cx) (e:Expr) (t:TT):Prop:=
 ∀ (whole:Sem Value) (a:List (Addr×Obj)) (s:qak) (b:St) (H:Hp) (Q:Bool->Hp->Prop),Inv X a b H s->t b H Q->wpAny (model X.prog X.w) X.A (qjP e X.env whole) (TP X a b Q) X.xe s
def PW.pt {X:Cx}{e:Expr}{t:TT} (h:PW X e t):PT X e t:=h _
def PA (X:Cx) (es:List Expr) (t:TA):Prop:=
 ∀ (pos:Pos) (a:List (Addr×Obj)) (s:qak) (b:St) (H:Hp) (Q:List V->Hp->Prop),Inv X a b H s->t b H Q->wpAny (model X.prog X.w) X.A (spliced (qeF pos (qbt es X.env))) (AP X a b Q) X.xe s
def PS (X:Cx) (st:Stmt) (t:TS):Prop:=
 ∀ (a:List (Addr×Obj)) (s:qak) (b:St) (H:Hp) (D:oS),Inv X a b H s->t D b H->wpAny (model X.prog X.w) X.A (exec st X.env) (SP X a D) X.xe s
def PSs (X:Cx) (st:List Stmt) (t:TS):Prop:=
 ∀ (a:List (Addr×Obj)) (s:qak) (b:St) (H:Hp) (D:oS),Inv X a b H s->t D b H->wpAny (model X.prog X.w) X.A (execs st X.env) (SP X a D) X.xe s
def thn {α:Type}{t:Sem α}{Q Q':α->qak->Prop}{M:Model}{A:qa2}{E:Value->qak->Prop}{s:qak} (h:wpAny M A t Q E s) (b:∀ a s,Q a s->Q' a s):wpAny M A t Q' E s:=qco h b λ_ _ x=>x
section
variable {X:Cx}
def qF (i:Nat):TE:=λg H Q=>∃ v,g[i]?=some (some v)/\Q v H
def tC (v:V):TE:=λ_ H Q=>Q v H
def iH {i:Nat}{x:Str}{pos:Pos} (J:X.N[i]?=some x) (C:Vis X.env.scope x) (hd:(x==("__debug__" : Str))=false:=by decide) (G:(x==("__classdict__" : Str))=false:=by decide):PE X (.Name x pos) (qF i):=by
 intro f s g H Q I h;obtain⟨v,e,h⟩:=h;obtain⟨m,hn,M⟩:=I.loc;obtain⟨u,r,l⟩:=M i x v J e C;have fin:EP X f g Q u s:=⟨v,H,I,r,h⟩;rcases l with⟨A,hm⟩|⟨A,c,D,w⟩
 ·exact qiq (wpAny_loadName_local I.ok.kind A hn hm fin) hd
 ·rcases A with A|A
  ·exact qiq (wpAny_loadName_cell I.ok.kind A D w fin) hd
  ·exact qiq (wpAny_loadName_free I.ok.kind A D w fin G) hd
def D8 {i j pos}:PE X (.Constant (.int i) j pos) (tC (.int i)):=λ_ _ _ H _ I h=>wpAny_Constant_int ⟨.int i,H,I.tok _,⟨_,rfl⟩,h⟩
def FI {b j pos}:PE X (.Constant (.bool b) j pos) (tC (.bl b)):=λ_ _ _ H _ I h=>Constant_bool ⟨.bl b,H,I,rfl,h⟩
def CS {j pos}:PE X (.Constant .none j pos) (tC .non):=λ_ _ _ H _ I h=>Constant_none ⟨.non,H,I,rfl,h⟩
def Dg {x j pos}:PE X (.Constant (.str x) j pos) (tC (.str x)):=λ_ _ _ H _ I h=>Calls.Constant_str ⟨.str x,H,I.tok _,⟨_,rfl⟩,h⟩
def Gl (X:Cx) (x:Str):Prop:=X.env.kindOf x=some .globalImplicit
def vo {E:Value->qak->Prop}{f:List (Addr×Obj)}{s:qak}{g:St}{H:Hp}{x:Str}{u:Value}{pos:Pos}{Q:Value->qak->Prop} (I:Inv X f g H s) (hg:Gl X x) (hm:X.mg x=some u) (h:Q u s)
  (hd:(x==("__debug__" : Str))=false:=by decide):wpAny (model X.prog X.w) X.A (eval (.Name x pos) X.env) Q E s:=
 qfN I.ok.kind hg (Calls.loadGlobal_global (by rw[I.ok.glob];exact I.mod.glob.keeps I.bk) hm h) hd
def jT {E:Value->qak->Prop}{f:List (Addr×Obj)}{s:qak}{g:St}{H:Hp}{x:Str}{u:Value}{pos:Pos}{Q:Value->qak->Prop} (I:Inv X f g H s) (hg:Gl X x) (hm:X.mg x=none) (C:qb9 x=some u) (h:Q u s)
  (hn:x≠"__name__":=by decide) (hd:(x==("__debug__" : Str))=false:=by decide):wpAny (model X.prog X.w) X.A (eval (.Name x pos) X.env) Q E s:=by
 obtain⟨N,K,L⟩:=I.mod.blt;exact qfN I.ok.kind hg (Calls.loadGlobal_builtin (by rw[I.ok.glob];exact I.mod.glob.keeps I.bk) hm (by rw[I.ok.blt];exact K.keeps I.bk) ((L x hn).trans C) h) hd
def AX {x:Str}{v:V}{u:Value}{pos:Pos} (hg:Gl X x) (hm:X.mg x=none) (C:qb9 x=some u) (r:aQ v u) (hn:x≠"__name__":=by decide) (hd:(x==("__debug__" : Str))=false:=by decide):PE X (.Name x pos) (tC v):=
 λ_ _ _ H _ I h=>jT I hg hm C ⟨v,H,I,r,h⟩ hn hd
variable {a b:Expr}{q z:TE}{pos:Pos}
variable {p y:TT}{k:List Expr}
def GB (t u:TT):TT:=λg H Q=>t g H λc H1=>if c=true then u g H1 Q else Q false H1
def tOr (t u:TT):TT:=λg H Q=>t g H λc H1=>if c=true then Q true H1 else u g H1 Q
def GQ (t:TT):TT:=λg H Q=>t g H λc H1=>Q (!c) H1
def AC (o:PT X a p):PW X (.BoolOp .And [a] pos) p:=by
 intro B f s g H Q I h;refine isTrue_and (thn (o f s g H Q I h) λc s1 e=>?_);cases c with
 |true=>exact isTrue_and_nil e
 |false=>exact e
def DR (o:PT X a p):PW X (.BoolOp .Or [a] pos) p:=by
 intro B f s g H Q I h;refine isTrue_or (thn (o f s g H Q I h) λc s1 e=>?_);cases c with
 |false=>exact isTrue_or_nil e
 |true=>exact e
def z5 (o:PT X a p) (hb:PW X (.BoolOp .And (b::k) pos) y):PW X (.BoolOp .And (a::b::k) pos) (GB p y):=by
 intro B f s g H Q I h;refine isTrue_and (thn (o f s g H _ I h) λc s1 ⟨H1,I1,n⟩=>?_);cases c with
 |true=>exact hb B f s1 g H1 Q I1 n
 |false=>exact⟨H1,I1,n⟩
def B4 (o:PT X a p) (hb:PW X (.BoolOp .Or (b::k) pos) y):PW X (.BoolOp .Or (a::b::k) pos) (tOr p y):=by
 intro B f s g H Q I h;refine isTrue_or (thn (o f s g H _ I h) λc s1 ⟨H1,I1,n⟩=>?_);cases c with
 |true=>exact⟨H1,I1,n⟩
 |false=>exact hb B f s1 g H1 Q I1 n
def C7 (o:PT X a p):PT X (.UnaryOp .Not a pos) (GQ p):=by
 intro f s g H Q I h;exact isTrue_not (o f s g H (λc H1=>Q (!c) H1) I h)
def Fa (q z:TE):TE:=λg H Q=>q g H λx H1=>∃ c,x=.bl c/\if c=true then z g H1 Q else Q (.bl false) H1
def Gf (q:TE):TE:=λg H Q=>q g H λx H1=>∃ c,x=.bl c/\Q (.bl (!c)) H1
def Ei {op}{t:TE} (h:PE X a t):PE X (.BoolOp op [a] pos) t:=λf s g H Q I hw=>BoolOp_one (h f s g H Q I hw)
def yH (o:PE X a q) (hb:PE X (.BoolOp .And (b::k) pos) z):PE X (.BoolOp .And (a::b::k) pos) (Fa q z):=by
 intro f s g H Q I h;refine BoolOp_and (thn (o f s g H _ I h) λv s1 ⟨x,H1,I1,F,n⟩=>?_);obtain⟨c,rfl,n⟩:=n;cases F;refine qcA ?_;cases c with
 |true=>exact hb f s1 g H1 Q I1 n
 |false=>exact⟨.bl false,H1,I1,rfl,n⟩
def CZ (o:PE X a q):PE X (.UnaryOp .Not a pos) (Gf q):=by
 intro f s g H Q I h;refine UnaryOp_ (thn (o f s g H _ I h) λv s1 ⟨x,H1,I1,F,n⟩=>?_);obtain⟨c,rfl,n⟩:=n;cases F;exact not_of (qcA ⟨.bl (!c),H1,I1,rfl,n⟩)
def tIf (t:TT) (q z:TE):TE:=λg H Q=>t g H λc H1=>if c=true then q g H1 Q else z g H1 Q
def sW {c:Expr} (D:PT X c p) (o:PE X a q) (hb:PE X b z):PE X (.IfExp c a b pos) (tIf p q z):=by
 intro f s g H Q I h;refine wpAny_IfExp (thn (D f s g H _ I h) λd s1 ⟨H1,I1,n⟩=>?_);cases d with
 |true=>exact o f s1 g H1 Q I1 n
 |false=>exact hb f s1 g H1 Q I1 n
end
def SqL (K:qae) (H:Hp) (a:Addr) (xs:List V):Prop:=
 Rd H a (.lst xs)\/
  ∃ (o:Obj) (its:Array Value) (n:Nat),K.lookup a=some o/\o.cls=.type "list"/\o.dict=none/\o.data=.seq its n/\its.size<=qaO/\aI xs its.toList
def SqT (K:qae) (H:Hp) (a:Addr) (xs:List V):Prop:=
 H a=some (.tup xs)\/
  ∃ (o:Obj) (its:Array Value) (n:Nat),K.lookup a=some o/\o.cls=.type "tuple"/\o.data=.seq its n/\its.size<=qaO/\aI xs its.toList/\o.dict=none
def GI:Value->Option V
 |.none=>some .non
 |.bool b=>some (.bl b)
 |.int i _=>some (.int i)
 |.str x _=>some (.str x)
 |.bytes b _=>some (.byt b)
 |.float b _=>some (.flt b)
 |.ref a=>some (.ref a)
 |.type n=>some (.ty n)
 |_=>none
def aQ.abs {x:V}{u:Value} (r:aQ x u):GI u=some x:=by
 cases x with
 |non=>cases r;rfl
 |bl _=>cases r;rfl
 |int _=>obtain⟨t,rfl⟩:=r;rfl
 |str _=>obtain⟨t,rfl⟩:=r;rfl
 |byt _=>obtain⟨t,rfl⟩:=r;rfl
 |flt _=>obtain⟨t,rfl⟩:=r;rfl
 |ref _=>cases r;rfl
 |ty _=>cases r;rfl
def aQ.inj {x y:V}{u:Value} (r:aQ x u) (q:aQ y u):x=y:=qaV (r.abs.symm.trans q.abs)
def aI.inj:∀ {xs b:List V}{a:List Value},aI xs a->aI b a->xs=b
 |_,_,_,.nil,.nil=>rfl
 |_,_,_,.cons r t,.cons c t'=>by rw[r.inj c,aI.inj t t']
section
variable {X:Cx}{b:List (Addr×Obj)}{i:St}{H:Hp}{s:qak}{a:Addr}{xs l:List V}
def SqL.of {K:qae} (h:H a=some (.lst xs)):SqL K H a xs:=.inl (.inl h)
def SqT.of {K:qae} (h:H a=some (.tup xs)):SqT K H a xs:=.inl h
def Inv.list (I:Inv X b i H s) (h:SqL X.K H a xs):∃ its:List Value,aI xs its/\PlainL s.heap a its.toArray/\xs.length<=qaO:=by
 rcases h with h|⟨o,its,n,g,f,hd,k,t,r⟩
 ·obtain⟨z,its,n,r,e⟩:=h.ok I.hok
  exact⟨its,r,⟨_,n,e,rfl,rfl,rfl⟩,z⟩
 ·refine⟨its.toList,r,⟨o,n,I.kIn a o g,f,hd,by simpa using k⟩,?_⟩
  have e:=r.length;simp only[qbs]at e;lia
def Inv.tuple (I:Inv X b i H s) (h:SqT X.K H a xs):∃ its:List Value,aI xs its/\IsTup s.heap a its.toArray/\xs.length<=qaO:=by
 rcases h with h|⟨o,its,n,g,f,k,t,r,_⟩
 ·obtain⟨z,its,r,p⟩:=(Rd.of h).ok I.hok
  exact⟨its,r,p.tup,z⟩
 ·refine⟨its.toList,r,⟨o,I.kIn a o g,f,n,by simpa using k⟩,?_⟩
  have e:=r.length;simp only[qbs]at e;lia
def Inv.tuple1 (I:Inv X b i H s) (h:SqT X.K H a xs):∃ o:Obj,s.heap.get? a=some o/\o.cls=.type "tuple"/\o.dict=none:=by
 rcases h with h|⟨o,its,n,g,f,k,t,r,hd⟩
 ·obtain⟨z,its,r,o,e,c,_,hd⟩:=(Rd.of h).ok I.hok
  exact⟨o,e,c,hd⟩
 ·exact⟨o,I.kIn a o g,f,hd⟩
def Inv.list_inj (I:Inv X b i H s) (h:SqL X.K H a xs) (h':SqL X.K H a l):xs=l:=by
 obtain⟨its,r,⟨o,n,e,_,_,d⟩,_⟩:=I.list h;obtain⟨its',m,⟨v,u,j,_,_,d'⟩,_⟩:=I.list h';rw[e]at j;cases j;rw[d]at d';injection d' with q _
 have:its=its':=by simpa using congrArg qgu q
 subst this;exact r.inj m
def Inv.tuple_inj (I:Inv X b i H s) (h:SqT X.K H a xs) (h':SqT X.K H a l):xs=l:=by
 obtain⟨its,r,⟨o,e,_,n,d⟩,_⟩:=I.tuple h;obtain⟨its',m,⟨v,j,_,u,d'⟩,_⟩:=I.tuple h';rw[e]at j;cases j;rw[d]at d';injection d' with q _
 have:its=its':=by simpa using congrArg qgu q
 subst this;exact r.inj m
end
abbrev Cx.wish (X:Cx) (E:Value->qak->Prop):Cx:={ X with xe:=E }
abbrev Cx.nox (X:Cx):Cx:=X.wish λ_ _=>False
def Cx.Ok.wish {X:Cx} (ok:X.Ok) (E:Value->qak->Prop):(X.wish E).Ok:=
 ⟨ok.mod,ok.kind,ok.glob,ok.blt,ok.above,ok.inj,ok.has,ok.cab,ok.hd,ok.frames,ok.stk,ok.exf,ok.bs,ok.bsz,ok.noex,ok.exfs,ok.funs,ok.frf⟩
def Cx.Ok.unwish {X:Cx}{E:Value->qak->Prop} (ok:(X.wish E).Ok):X.Ok:=
 ⟨ok.mod,ok.kind,ok.glob,ok.blt,ok.above,ok.inj,ok.has,ok.cab,ok.hd,ok.frames,ok.stk,ok.exf,ok.bs,ok.bsz,ok.noex,ok.exfs,ok.funs,ok.frf⟩
section
variable {X:Cx}{a:List (Addr×Obj)}{c:St}{H:Hp}{s:qak}{E:Value->qak->Prop}
def Inv.wish (I:Inv X a c H s) (E:Value->qak->Prop):Inv (X.wish E) a c H s:=⟨I.ok.wish E,I.os,I.bare,I.base,I.loc,I.cell,I.free,I.freeC,I.pin,I.hok,I.len⟩
def Inv.unwish (I:Inv (X.wish E) a c H s):Inv X a c H s:=⟨I.ok.unwish,I.os,I.bare,I.base,I.loc,I.cell,I.free,I.freeC,I.pin,I.hok,I.len⟩
def SP.unwish {D:oS}{f:Flow}{s':qak} (h:SP (X.wish E) a D f s'):SP X a D f s':=by
 cases f with
 |next=>obtain⟨b,H',I,q⟩:=h;exact⟨b,H',I.unwish,q⟩
 |brk=>obtain⟨b,H',I,q⟩:=h;exact⟨b,H',I.unwish,q⟩
 |cont=>obtain⟨b,H',I,q⟩:=h;exact⟨b,H',I.unwish,q⟩
 |ret u=>obtain⟨v,b,H',I,r,q⟩:=h;exact⟨v,b,H',I.unwish,r,q⟩
def PSs.nox {st:List Stmt}{t:TS} (h:PSs X.nox st t):PSs X st t:=λa s c H D I hw=>
 qco (h a s c H D (I.wish _) hw) (λ_ _ q=>q.unwish) λ_ _ z=>qcs z
end
section
variable {X:Cx}{st:Stmt}{j:List Stmt}{t u:TS}{e:Expr}{te:TE}{pos:Pos}
def FT:TS:=λD i H=>D.nx i H
def Gr (t u:TS):TS:=λD i H=>t { D with nx:=u D } i H
def BL:PSs X [] FT:=λ_ _ i H _ I h=>qeR ⟨i,H,I,h⟩
def dC (o:PS X st t) (w:PSs X j u):PSs X (st::j) (Gr t u):=by
 intro g s i H D I h;refine qiM (thn (o g s i H { D with nx:=u D } I h) λf s1 q=>?_);cases f with
 |next=>
  obtain⟨m,H',I',q⟩:=q;exact w g s1 m H' D I' q
 |ret v=>exact q
 |brk=>exact q
 |cont=>exact q
def ww (o:PS X st t):PSs X [st] t:=by
 intro g s i H D I h;refine qiM (thn (o g s i H D I h) λf s1 q=>?_);cases f with
 |next=>exact qeR q
 |ret v=>exact q
 |brk=>exact q
 |cont=>exact q
def D1:TS:=λD i H=>D.bk i H
def EC:TS:=λD i H=>D.ct i H
def yE:PS X (.Break pos) D1:=λ_ _ i H _ I h=>wpAny_Break ⟨i,H,I,h⟩
def sw:PS X (.Continue pos) EC:=λ_ _ i H _ I h=>wpAny_Continue ⟨i,H,I,h⟩
def Inv.quiet {g:List (Addr×Obj)}{i:St}{H:Hp}{s:qak} (I:Inv X g i H s):interactive X.env=false:=by simp[interactive,I.ok.kind]
def FE (te:TE):TS:=λD i H=>te i H λ_ H1=>D.nx i H1
def BI (l:PE X e te) (A:qcB e none pos.line X.env=pure false:=by rfl):PS X (.Expr e pos) (FE te):=by
 intro g s i H D I h;exact wpAny_Expr_any (thn (l g s i H _ I h) λv s1 ⟨x,H1,I1,p,k⟩=>⟨i,H1,I1,k⟩) I.quiet A
def Go (te:TE):TS:=λD i H=>te i H D.rt
def CP (l:PE X e te):PS X (.Return (some e) pos) (Go te):=by
 intro g s i H D I h;exact wpAny_Return_some (thn (l g s i H _ I h) λv s1 ⟨x,H1,I1,p,k⟩=>⟨x,i,H1,I1,p,k⟩)
def Gw (c:TT) (t u:TS):TS:=λD i H=>c i H λb H1=>if b=true then t D i H1 else u D i H1
def B5 {c:Expr}{a b:List Stmt}{r:TT} (y:PT X c r) (z:PSs X a t) (hb:PSs X b u):PS X (.If c a b pos) (Gw r t u):=by
 intro g s i H D I h;refine wpAny_If (thn (y g s i H _ I h) λd s1 ⟨H1,I1,k⟩=>?_);cases d with
 |true=>exact z g s1 i H1 D I1 k
 |false=>exact hb g s1 i H1 D I1 k
def Du:TS:=λ_ _ _=>False
def fW {n:List Stmt}:PSs X n Du:=λ_ _ _ _ _ _ h=>h.elim
end
abbrev TG:=V->St->Hp->(St->Hp->Prop)->Prop
abbrev TGs:=List V->St->Hp->(St->Hp->Prop)->Prop
def PG (X:Cx) (a:Expr) (t:TG):Prop:=
 ∀ (b:List (Addr×Obj)) (s:qak) (d:St) (H:Hp) (v:V) (u:Value) (Q:St->Hp->Prop),Inv X b d H s->aQ v u->t v d H Q->
  wpAny (model X.prog X.w) X.A (qfc a X.env u) (λ_ s'=>∃ c H',Inv X b c H' s'/\Q c H') X.xe s
def PGs (X:Cx) (ts:List Expr) (t:TGs):Prop:=
 ∀ (a:List (Addr×Obj)) (s:qak) (d:St) (H:Hp) (vs:List V) (c:List Value) (Q:St->Hp->Prop),Inv X a d H s->aI vs c->t vs d H Q->
  wpAny (model X.prog X.w) X.A (assignInOrder ((qbO ts X.env).map (·.2)) c) (λ_ s'=>∃ b H',Inv X a b H' s'/\Q b H') X.xe s
abbrev DX:=V->V->V->Hp->(Hp->Prop)->Prop
def FU (X:Cx) (t:DX):Prop:=
 ∀ (a:List (Addr×Obj)) (s:qak) (b:St) (H:Hp) (o i v:V) (c iv u:Value) (Q:Hp->Prop),Inv X a b H s->aQ o c->aQ i iv->aQ v u->t o i v H Q->
  wpAny (model X.prog X.w) X.A (qjM c iv u) (λ_ s'=>∃ H',Inv X a b H' s'/\Q H') X.xe s
section
variable {X:Cx}{pos:Pos}
def rE (i:Nat):TG:=λv d H Q=>Q (d.set i (some v)) H
def kP {i:Nat}{x:Str} (B:X.N.Nodup) (A:X.N[i]?=some x) (z:Loc X.env.scope x) (L:X.fn x=true\/X.env.scope.names.lookup x=some .local:=by first|exact .inl rfl|exact .inr rfl|assumption):PG X (.Name x pos) (rE i):=by
 intro c s d H v u Q I r h;exact qip (nh I B A z r (λs' I'=>⟨_,H,I',h⟩) L)
def GP:TGs:=λvs d H Q=>vs=[]/\Q d H
def Ff (t:TG) (u:TGs):TGs:=λvs d H Q=>∃ v r,vs=v::r/\t v d H λJ H'=>u r J H' Q
def Ab:PGs X [] GP:=by
 intro c s d H vs T Q I r h;obtain⟨e,h⟩:=h;subst e;cases r;exact assignInOrder_nil ⟨d,H,I,h⟩
def ya {e:Expr}{es:List Expr}{t:TG}{u:TGs} (F:PG X e t) (V:PGs X es u)
  (j:(qbO (e::es) X.env).map (·.2)=qfc e X.env::(qbO es X.env).map (·.2):=by rfl):PGs X (e::es) (Ff t u):=by
 intro c s d H vs T Q I r h;obtain⟨v,vr,E,h⟩:=h;subst E;cases r with
 |cons r rr=>
  rw[j];refine assignInOrder_cons (thn (F c s d H _ _ _ I r h) λ_ s1 ⟨C,H1,I1,l⟩=>?_);exact V c s1 C H1 _ _ Q I1 rr l
def Gs (K:qae) (n:Nat) (t:TGs):TG:=λv d H Q=>∃ a xs,v=.ref a/\SqT K H a xs/\xs.length=n/\t xs d H Q
def Cz {es:List Expr}{k:Nat}{t:TGs}{n:Nat} (R:X.calm=true) (h:PGs X es t)
  (hn:(qbO es X.env).length=n:=by rfl) (N:(qbO es X.env).findIdx? (·.1)=none:=by rfl):PG X (.Tuple es k pos) (Gs X.K n t):=by
 intro c s d H v u Q I r hw;obtain⟨a,xs,E,hq,hl,hw⟩:=hw;subst E;cases r;obtain⟨its,O,W,hz⟩:=I.tuple hq;refine assign_Tuple_tuple (I.ok.hd R) W (by simp[hn,<-hl,O.length]) N λh' z=>?_;have I1:Inv X c d H { s with heap:=h' }:=I.kept (t':=s.toks) λb o e=>z b o (qaL (qax e)) e;exact h c _ d H xs _ Q I1 (by simpa using O) hw
def Gx (to ti:TE) (t:DX):TG:=λv d H Q=>to d H λo H1=>ti d H1 λi H2=>t o i v H2 λH3=>Q d H3
def uU {o i:Expr}{to ti:TE}{t:DX} (P:PE X o to) (A:PE X i ti) (j:FU X t)
  (ha:∀ v,qfc (.Subscript o i pos) X.env v=(do
    let m <-qfR [v] (eval o X.env)
    let iv <-qfR [v,m] (eval i X.env)
    qjK pos
    qfR [v,m,iv] (qjM m iv v)
    release [v,m,iv] []):=by intro _;rfl):PG X (.Subscript o i pos) (Gx to ti t):=by
 intro c s d H v u Q I r h;rw[ha];refine qab (qcr (thn (P c s d H _ I h) λm s1 ⟨x,H1,I1,w,l⟩=>?_));refine qab (qcr (thn (A c s1 d H1 _ I1 l) λiv M ⟨y,H2,I2,Y,q2⟩=>?_));refine qab (qfx (qab (qcr (thn (j c M d H2 x y v m iv u _ I2 w Y r q2) λ_ s3 ⟨H3,I3,S⟩=>?_))));exact wpAny_release ⟨d,H3,I3,S⟩
def Ek (te:TE) (g:TG):TS:=λD d H=>te d H λx H1=>g x d H1 D.nx
def uW {p e:Expr}{te:TE}{g:TG} (G:PE X e te) (hg:PG X p g) (j:qfA [p] e pos.line X.env=pure false:=by rfl) (hw:qfB [p] e X.env=pure none:=by rfl)
  (F:(qbO [p] X.env).map (·.2)=[qfc p X.env]:=by rfl):PS X (.Assign [p] e pos) (Ek te g):=by
 intro c s d H D I h;refine wpAny_Assign_stores (thn (G c s d H _ I h) λv s1 ⟨x,H1,I1,w,l⟩=>?_) j hw;rw[F];exact thn (hg c s1 d H1 x v _ I1 w l) λ_ M q=>q
def Cw {i:Nat}{x:Str}{e:Expr}{te:TE}{f:Pos} (B:X.N.Nodup) (A:X.N[i]?=some x) (z:Loc X.env.scope x) (G:PE X e te) (j:qcB e (some (.Name x f)) pos.line X.env=pure false:=by rfl) (L:X.fn x=true\/X.env.scope.names.lookup x=some .local:=by first|exact .inl rfl|exact .inr rfl|assumption) :
  PS X (.Assign [.Name x f] e pos) (Ek te (rE i)):=by
 intro c s d H D I h;refine wpAny_Assign_Name (thn (G c s d H _ I h) λv s1 ⟨y,H1,I1,w,l⟩=>?_) j;exact nh I1 B A z w (λM I2=>⟨_,H1,I2,l⟩) L
end
section
variable {X:Cx}{pos:Pos}
def Co (c:TT) (o:TS):TS:=λD i H=>∃ W:Nat->St->Hp->Prop,(∃ m,W m i H)/\∀ m i H,W m i H->
 c i H λb H1=>if b=true then ∃ N:St->Hp->Prop,(∀ a H',N a H'->∃ j,j<m/\W j a H')/\o { D with nx:=N,ct:=N,bk:=D.nx } i H1 else D.nx i H1
def zp {c:Expr}{body:List Stmt}{t:TT}{o:TS} (u:qhA (model X.prog X.w) X.A X.env X.xe) (w:PT X c t) (hb:PSs X body o):PS X (.While c body [] pos) (Co t o):=by
 intro e s i H D I h;obtain⟨W,⟨m0,w0⟩,turn⟩:=h;refine wpAny_While (codeAny_whileLoop (λn s'=>∃ a H',Inv X e a H' s'/\W n a H') ?_ m0 ⟨i,H,I,w0⟩)
 rintro n s1 ⟨g,H1,I1,y⟩
 refine qcR u (thn (w e s1 g H1 _ I1 (turn n g H1 y)) λb x ⟨H2,I2,k⟩=>?_);cases b with
 |true=>
  obtain⟨N,r,k⟩:=k;rw[if_pos rfl];refine qcR u (thn (hb e x g H2 _ I2 k) λf z l=>?_);cases f with
  |next=>
   obtain⟨d,H3,I3,p⟩:=l;obtain⟨j,hm,q⟩:=r d H3 p;exact⟨j,hm,d,H3,I3,q⟩
  |cont=>
   obtain⟨d,H3,I3,p⟩:=l;obtain⟨j,hm,q⟩:=r d H3 p;exact⟨j,hm,d,H3,I3,q⟩
  |brk=>exact l
  |ret v=>exact l
 |false=>
  rw[if_neg qaC];exact qeR ⟨g,H2,I2,k⟩
end
structure It where
 go:Nat->Hp->Prop
 yld:Nat->Hp->V->Hp->Prop
 stop:Nat->Hp->Prop
def jt (X:Cx) (a:List (Addr×Obj)) (H:Hp) (b:Addr):Prop:=
 H b=none/\b≠X.env.locals/\b∉X.fs/\(b∈X.ex\/X.s₀.heap.objs.size<=b)/\(∀ x c,X.env.cells.lookup x=some c->c≠b)/\∀ p∈X.pn++a,p.1≠b
def Inv.fpOk {X:Cx}{a:List (Addr×Obj)}{d:St}{H H':Hp}{s:qak}{b:Addr} (I:Inv X a d H s) (hb:s.heap.objs.size<=b) (hn:H' b=none):jt X a H' b:=by
 refine⟨hn,qcc (qaZ I.lt hb),I.nofs hb,.inr (qa3 I.sz hb),λx c e z=>?_,λp f z=>?_⟩
 ·obtain⟨v,q⟩:=I.cell x c e
  exact absurd (qaZ q.lt (by rw[z];exact hb)) (qa8 _)
 ·exact absurd (qaZ (qax (I.pin p f).1) (by rw[z];exact hb)) (qa8 _)
structure uY (P:qaQ) (w:World) (K:qae) (tg:Expr) (J:It) (fp:List Addr) (it:Addr) (tn:Nat->Heap->Prop):Prop where
 mem:it∈fp
 obj:∀ i h,tn i h->∀ b∈fp,∃ o,h.get? b=some o/\∀ v,o.data≠.cell v
 keep:∀ i h h',tn i h->(∀ b∈fp,∀ o,h.get? b=some o->h'.get? b=some o)->tn i h'
 item:∀ (X:Cx),X.prog=P->X.w=w->X.K=K->X.calm=true->∀ (i:Nat) (pins:List (Addr×Obj)) (s:qak) (σ:St) (H:Hp) (E:Value->qak->Prop),Inv X pins σ H s->(∀ b∈fp,jt X pins H b)->tn i s.heap->J.go i H->
  wpAny (model P w) X.A (qfC (.ref it)) (λr s1=>∃ u,r=some u/\
   wpAny (model P w) X.A (qeU tg (.ref it) u) (λ_ s2=>∃ x H',Inv X pins σ H' s2/\aQ x u/\J.yld i H x H'/\tn (i+1) s2.heap/\∀ b∈fp,H' b=none) E s1) E s
 done:∀ (X:Cx),X.prog=P->X.w=w->X.K=K->X.calm=true->∀ (i:Nat) (pins:List (Addr×Obj)) (s:qak) (σ:St) (H:Hp) (E:Value->qak->Prop),Inv X pins σ H s->(∀ b∈fp,jt X pins H b)->tn i s.heap->J.stop i H->
  wpAny (model P w) X.A (qfC (.ref it)) (λr s1=>r=none/\Inv X pins σ H s1) E s
 self:∀ (A:qa2) (i:Nat) (s:qak) (Q:Value->qak->Prop) (E:Value->qak->Prop),tn i s.heap->Q (.ref it) s->wpAny (model P w) A (qjN (.ref it)) Q E s
abbrev TI:=St->Hp->(It->Hp->Prop)->Prop
def PIE (X:Cx) (a:List (Addr×Obj)) (g:St) (f:Expr) (R:It->Hp->Prop) (c:Value) (e:qak):Prop:=
 ∃ (it:Addr) (fp:List Addr) (d:Nat->Heap->Prop) (J:It) (H':Hp),c=.ref it/\Inv X a g H' e/\uY X.prog X.w X.K f J fp it d/\d 0 e.heap/\(∀ b∈fp,jt X a H' b)/\R J H'
def PI (X:Cx) (d iter:Expr) (c:TI):Prop:=
 ∀ (a:List (Addr×Obj)) (s:qak) (b:St) (H:Hp) (R:It->Hp->Prop),Inv X a b H s->c b H R->
  wpAny (model X.prog X.w) X.A (eval iter X.env) (λv s1=>wpAny (model X.prog X.w) X.A (qjN v) (PIE X a b d R) X.xe s1) X.xe s
def zP {M:Model}{A:qa2}{E:Value->qak->Prop}{s:qak}{b:Expr}{it:Addr}{u:Value}{o:Obj}{n:String}{vs:Array Value}{Q:Unit->qak->Prop} (d:s.heap.get? it=some o) (c:o.cls=.type n) (hd:o.data=.fields vs)
  (hn:["enumerate","zip","dict_itemiterator","dict_reverseitemiterator","odict_iterator","itertools.zip_longest","itertools.pairwise"].contains n=false) (a:Q () s):wpAny M A (qeU b (.ref it) u) Q E s:=by
 unfold qeU;cases b<;>first
  |exact qan a
  | (cases u<;>first
      |exact qan a
      | (refine qab (wpAny_load d ?_)
         rw[c,hd];show wpAny M A (if (["enumerate","zip","dict_itemiterator","dict_reverseitemiterator","odict_iterator","itertools.zip_longest","itertools.pairwise"].contains n&&vs[0]?==some (qeS _))=true then _ else _) Q E s
         rw[if_neg (by intro h;rw[hn,Bool.false_and]at h;cases h)]
         exact qan a))
def Itl (K:qae) (a:Addr):It:=
 ⟨λi H=>∃ xs x,SqL K H a xs/\xs[i]?=some x,λi H x H'=>H'=H/\∀ xs,SqL K H a xs->xs[i]?=some x,λi H=>∃ xs,SqL K H a xs/\xs.length<=i⟩
def Itt (K:qae) (a:Addr):It:=
 ⟨λi H=>∃ xs x,SqT K H a xs/\xs[i]?=some x,λi H x H'=>H'=H/\∀ xs,SqT K H a xs->xs[i]?=some x,λi H=>∃ xs,SqT K H a xs/\xs.length<=i⟩
def Itr (lo:Int) (n:Nat):It:=⟨λi _=>i<n,λi H x H'=>H'=H/\x=.int (lo+i),λi _=>n<=i⟩
def wZ {P:qaQ}{w:World}{K:qae}{J:Expr} (a it:Addr):uY P w K J (Itl K a) [it] it (λi h=>h.IsListIter it a i) where
 mem:=by simp
 obj:=λi h st b hb=>by
  have e:b=it:=by simpa using hb
  subst e;obtain⟨o,e,c,d⟩:=st;exact⟨o,e,λv z=>by rw[d]at z;cases z⟩
 keep:=λi h h' st k=>st.at λo e=>k it (by simp) o e
 item:=by
  intro X m hw r t i f s y H E I j st hg;subst m hw r;obtain⟨xs,x,l,n⟩:=hg;obtain⟨its,q,p,G⟩:=I.list l;obtain⟨u,B,A⟩:=q.get n;obtain⟨f0,f1,f2,f3,f4,f5⟩:=j it (by simp);refine wpAny_pyNext_list_item st p.isList (x:=u) (by simpa using B) λh' g D=>?_;have I1:Inv X f y H { s with heap:=h' }:=I.turned (t':=s.toks) (λb o hb e=>(D.2 b hb).trans e) f0 f1 f3 f4 f5;obtain⟨o,e,c,d⟩:=id g;exact⟨u,rfl,zP (s:={ s with heap:=h' }) e c d (by decide) ⟨x,H,I1,A,⟨rfl,λL C=>by rw[I.list_inj C l];exact n⟩,g,λb hb=>(j b hb).1⟩⟩
 done:=by
  intro X m hw r t i f s y H E I j st hg;subst m hw r;obtain⟨xs,l,n⟩:=hg;obtain⟨its,q,p,G⟩:=I.list l;obtain⟨f0,f1,f2,f3,f4,f5⟩:=j it (by simp);have M:=q.length;exact wpAny_pyNext_list_end (I.ok.hd t) st p.isList (by simp;lia) λh' F=>⟨rfl,I.turned (t':=s.toks) (λb o hb e=>F b o hb e) f0 f1 f3 f4 f5⟩
 self:=λ_ _ _ _ _ st h=>wpAny_pyIter_listiter st h
def uI {P:qaQ}{w:World}{K:qae}{J:Expr} (a it:Addr):uY P w K J (Itt K a) [it] it (λi h=>h.IsTupleIter it a i) where
 mem:=by simp
 obj:=λi h st b hb=>by
  have e:b=it:=by simpa using hb
  subst e;obtain⟨o,e,c,d⟩:=st;exact⟨o,e,λv z=>by rw[d]at z;cases z⟩
 keep:=λi h h' st k=>st.at λo e=>k it (by simp) o e
 item:=by
  intro X m hw r t i f s y H E I j st hg;subst m hw r;obtain⟨xs,x,l,n⟩:=hg;obtain⟨its,q,p,G⟩:=I.tuple l;obtain⟨u,B,A⟩:=q.get n;obtain⟨f0,f1,f2,f3,f4,f5⟩:=j it (by simp);refine wpAny_pyNext_tuple_item st (show s.heap.IsTuple a its.toArray from p) (x:=u) (by simpa using B) λh' g D=>?_;have I1:Inv X f y H { s with heap:=h' }:=I.turned (t':=s.toks) (λb o hb e=>(D.2 b hb).trans e) f0 f1 f3 f4 f5;obtain⟨o,e,c,d⟩:=id g;exact⟨u,rfl,zP (s:={ s with heap:=h' }) e c d (by decide) ⟨x,H,I1,A,⟨rfl,λL C=>by rw[I.tuple_inj C l];exact n⟩,g,λb hb=>(j b hb).1⟩⟩
 done:=by
  intro X m hw r t i f s y H E I j st hg;subst m hw r;obtain⟨xs,l,n⟩:=hg;obtain⟨its,q,p,G⟩:=I.tuple l;obtain⟨f0,f1,f2,f3,f4,f5⟩:=j it (by simp);have M:=q.length;exact wpAny_pyNext_tuple_end (I.ok.hd t) st (show s.heap.IsTuple a its.toArray from p) (by simp;lia) λh' F=>⟨rfl,I.turned (t':=s.toks) (λb o hb e=>F b o hb e) f0 f1 f3 f4 f5⟩
 self:=λ_ _ _ _ _ st h=>wpAny_pyIter_tupleiter st h
def uV {P:qaQ}{w:World}{K:qae}{p:Expr} (it:Addr) (lo:Int) (n:Nat):uY P w K p (Itr lo n) [it] it (λi h=>IsRangeIter h it (lo+(i:Nat)*1) ((n:Int) - (i:Nat)) 1) where
 mem:=by simp
 obj:=λi h st b hb=>by
  have e:b=it:=by simpa using hb
  subst e
  exact⟨_,st,λv z=>by
   have u:Data.fields _=Data.cell v:=z
   cases u⟩
 keep:=λi h h' st k=>k it (by simp) _ st
 item:=by
  intro X f hw j g i a s l H E I d st hg;subst f hw j;obtain⟨f0,f1,f2,f3,f4,f5⟩:=d it (by simp);have W:=Walks.range (prog:=X.prog) (w:=X.w) (I.ok.hd g) it lo 1 n;refine W.item i s _ _ hg st λv h' m x c q=>?_;obtain⟨t,rfl⟩:=x;have I1:Inv X a l H { s with heap:=h',toks:=m }:=I.turned (λb o hb e=>q b o (by simpa using hb) e) f0 f1 f3 f4 f5;refine⟨_,rfl,zP (s:={ s with heap:=h',toks:=m }) (n:="range_iterator") c rfl rfl (by decide) ⟨.int (lo+i),H,I1,⟨t,?_⟩,⟨rfl,rfl⟩,c,λb hb=>(d b hb).1⟩⟩
  rw[qc5]
 done:=by
  intro X f hw j g i a s l H E I d st hg;subst f hw j;obtain⟨f0,f1,f2,f3,f4,f5⟩:=d it (by simp);exact wpAny_pyNext_range_end (I.ok.hd g) st (by have:n<=i:=hg;lia) λh' r=>⟨rfl,I.turned (t':=s.toks) (λb o hb e=>r b o hb e) f0 f1 f3 f4 f5⟩
 self:=λ_ _ _ _ _ st h=>wpAny_pyIter_rangeiter st h
section
variable {X:Cx}{M:Expr}
def Ey (K:qae) (tl:TE):TI:=λk H R=>tl k H λx H1=>∃ a,x=.ref a/\(∃ xs,SqL K H1 a xs)/\R (Itl K a) H1
def GX (K:qae) (tl:TE):TI:=λk H R=>tl k H λx H1=>∃ a,x=.ref a/\(∃ xs,SqT K H1 a xs)/\R (Itt K a) H1
def AV {l:Expr}{tl:TE} (hl:PE X l tl):PI X M l (Ey X.K tl):=by
 intro c s k H R I h;refine thn (hl c s k H _ I h) λv s1 ⟨x,H1,I1,P,L⟩=>?_;obtain⟨a,e,⟨xs,hq⟩,q⟩:=L;subst e;cases P;obtain⟨its,rv,p,hz⟩:=I1.list hq;refine qek p.isList ?_;refine⟨s1.heap.objs.size,[s1.heap.objs.size],_,_,H1,rfl,I1.kept (t':=s1.toks) λb o e=>qaj _ e,wZ a _,⟨_,qav _ rfl,rfl,rfl⟩,λb hb=>?_,q⟩;have e:b=s1.heap.objs.size:=by simpa using hb
 subst e;exact I1.fpOk (qar _) (I1.hok.fresh (qar _))
def Dk {l:Expr}{tl:TE} (hl:PE X l tl):PI X M l (GX X.K tl):=by
 intro c s k H R I h;refine thn (hl c s k H _ I h) λv s1 ⟨x,H1,I1,P,L⟩=>?_;obtain⟨a,e,⟨xs,hq⟩,q⟩:=L;subst e;cases P;obtain⟨its,rv,p,hz⟩:=I1.tuple hq;refine qdr (show s1.heap.IsTuple a its.toArray from p) ?_;refine⟨s1.heap.objs.size,[s1.heap.objs.size],_,_,H1,rfl,I1.kept (t':=s1.toks) λb o e=>qaj _ e,uI a _,⟨_,qav _ rfl,rfl,rfl⟩,λb hb=>?_,q⟩;have e:b=s1.heap.objs.size:=by simpa using hb
 subst e;exact I1.fpOk (qar _) (I1.hok.fresh (qar _))
def zi {c:List (Addr×Obj)}{k:St}{H:Hp}{s:qak}{R:It->Hp->Prop}{E:Value->qak->Prop}{lo A:Int}{t u v:Tok}{tk:Nat} (I:Inv X c k H s) (h1:-(2^62)<=lo) (h2:lo<2^62) (h3:-(2^62)<=A) (h4:A<2^62)
  (q:R (Itr lo (A - lo).toNat) H):wpAny (model X.prog X.w) X.A (qjN (.ref s.heap.objs.size)) (PIE X c k M R) E { s with heap:=s.heap.push { cls:=.type "range",data:=.fields #[.int lo t,.int A u,.int 1 v] },toks:=tk }:=by
 refine wpAny_pyIter_range (IsRange.new ..) (small_one h1 h2 h3 h4) ?_;have I1:Inv X c k H { s with heap:=s.heap.push { cls:=.type "range",data:=.fields #[.int lo t,.int A u,.int 1 v] },toks:=tk }:=I.kept λb o e=>qaj _ e
 refine⟨(s.heap.push { cls:=.type "range",data:=.fields #[.int lo t,.int A u,.int 1 v] }).objs.size,[(s.heap.push { cls:=.type "range",data:=.fields #[.int lo t,.int A u,.int 1 v] }).objs.size],_,_,H,rfl,
  I1.kept (t':=tk) λb o e=>qaj _ e,uV _ lo (A - lo).toNat,?_,λb hb=>?_,q⟩
 ·have e1:lo+((0:Nat):Int)*1=lo:=by simp
  have e2:(((A - lo).toNat:Nat):Int) - ((0:Nat):Int)=qe8 lo A 1:=by rw[qg8];split<;>lia
  show IsRangeIter _ _ (lo+((0:Nat):Int)*1) ((((A - lo).toNat:Nat):Int) - ((0:Nat):Int)) 1;rw[e1,e2];exact qav _ rfl
 ·have e:b=(s.heap.push { cls:=.type "range",data:=.fields #[.int lo t,.int A u,.int 1 v] }).objs.size:=by simpa using hb
  subst e;exact I1.fpOk (qar _) (I1.hok.fresh (qar _))
def Gj (ta:TA):TI:=λk H R=>ta k H λvs H1=>∃ j:Int,vs=[.int j]/\-(2^62)<=j/\j<2^62/\R (Itr 0 j.toNat) H1
def xL {a:Expr}{ta:TA}{p pos:Pos} (hg:Gl X "range") (hm:X.mg "range" = none) (ha:PA X [a] ta) (hs:qbt [a] X.env=[(false,eval a X.env)]:=by rfl):PI X M (.Call (.Name "range" p) [a] [] pos) (Gj ta):=by
 intro c s k H R I h;refine Call_ (jT I hg hm boot_range (qb8 (thn (ha pos c s k H _ I h) λus s1 ⟨vs,H1,I1,P,L⟩=>?_) hs rfl));obtain⟨j,e,L,q2,q⟩:=L;subst e;cases P with
 |cons r rr=>
  cases rr;obtain⟨t,rfl⟩:=r;exact call_range_1 (zi I1 (by lia) (by lia) L q2 (by simpa using q))
def GO (wi:TI) (g:TG) (tb:TS):TS:=λD k H=>wi k H λJ H1=>∃ W:Nat->Nat->St->Hp->Prop,(∃ m,W 0 m k H1)/\∀ i m k H,W i m k H->
 (J.stop i H/\D.nx k H)\/(J.go i H/\∃ N:St->Hp->Prop,(∀ y H',N y H'->∃ Y,Y<m/\W (i+1) Y y H')/\∀ x H',J.yld i H x H'->g x k H' λσ2 H2=>tb { D with nx:=N,ct:=N,bk:=D.nx } σ2 H2)
def k7 (fp:List Addr) (h:Heap):List (Addr×Obj):=fp.filterMap λb=>(h.get? b).map λo=>(b,o)
def cA {fp:List Addr}{h:Heap}{b:Addr}{o:Obj} (hb:b∈fp) (e:h.get? b=some o):(b,o)∈k7 fp h:=qe3.mpr ⟨b,hb,by rw[e];rfl⟩
def wI {fp:List Addr}{h:Heap}{p:Addr×Obj} (C:p∈k7 fp h):p.1∈fp/\h.get? p.1=some p.2:=by
 obtain⟨b,hb,e⟩:=qe3.mp C;cases q:h.get? b with
 |none=>rw[q]at e;cases e
 |some o=>
  rw[q]at e;have e':(b,o)=p:=qaV e;subst e';exact⟨hb,q⟩
def Inv.pinned {c:List (Addr×Obj)}{k:St}{H:Hp}{s:qak}{fp:List Addr} (I:Inv X c k H s) (hf:∀ b∈fp,jt X c H b) (ho:∀ b∈fp,∃ o,s.heap.get? b=some o/\∀ v,o.data≠.cell v):Inv X (c++k7 fp s.heap) k H s:=
 I.pins_of λp C=>(qaY.mp C).elim (λz=>I.pin p (qaw _ z)) λz=>by
  obtain⟨hb,e⟩:=wI z;obtain⟨f0,f1,f2,_⟩:=hf p.1 hb;obtain⟨o,e',d⟩:=ho p.1 hb;rw[e]at e';cases e';exact⟨e,f0,f1,f2,d⟩
def Inv.unpinned {c pl:List (Addr×Obj)}{k:St}{H:Hp}{s:qak} (I:Inv X (c++pl) k H s):Inv X c k H s:=I.pins_of λp C=>I.pin p (qaw _ (qa9 _ C))
def D7 {iter:Expr}{body:List Stmt}{wi:TI}{g:TG}{tb:TS}{pos:Pos} (C:qhA (model X.prog X.w) X.A X.env X.xe) (hc:X.calm=true) (A:PI X M iter wi) (hg:PG X M g) (hb:PSs X body tb)
  (hs:∀ x,qb6 iter X.env x=pure x:=by intro _;rfl):PS X (.For M iter body [] pos) (GO wi g tb):=by
 intro c s k H D I h;refine wpAny_For (thn (A c s k H _ I h) λv s1 h1=>thn h1 λitv s2 h2=>?_) hs;obtain⟨it,fp,tn,J,H2,e,I2,T,st2,f2,W,⟨m0,w0⟩,turn⟩:=h2;subst e
 -- what stays true of the iterator's objects through the loop
 have F:∀ {H':Hp},(∀ b∈fp,H' b=none)->∀ b∈fp,jt X c H' b:=λhn b hb=>⟨hn b hb,(f2 b hb).2⟩;refine codeAny_forLoop_any (λn s'=>∃ i y H',Inv X c y H' s'/\tn i s'.heap/\(∀ b∈fp,H' b=none)/\W i n y H') ?_ m0 ⟨0,k,H2,I2,st2,λb hb=>(f2 b hb).1,w0⟩
 rintro n s3 ⟨i,B,H3,I3,Q,S,w3⟩
 rcases turn i n B H3 w3 with⟨stop,qn⟩|⟨go,N,hN,step⟩
 ·refine qcR C (thn (T.done X rfl rfl rfl hc i c s3 B H3 X.xe I3 (F S) Q stop) λr s4 ⟨hr,I4⟩=>?_)
  subst hr;exact qeR ⟨B,H3,I4,qn⟩
 ·refine qcR C (thn (T.item X rfl rfl rfl hc i c s3 B H3 X.xe I3 (F S) Q go) λr s4 ⟨u,hr,h4⟩=>?_)
  subst hr;refine qcR C (thn h4 λ_ s5 ⟨x,H5,I5,r5,y5,O,fr5⟩=>?_);have I5':=I5.pinned (F fr5) (T.obj _ _ O);refine qcR C (thn (hg _ s5 B H5 x u _ I5' r5 (step x H5 y5)) λ_ s6 ⟨σ6,H6,I6,q6⟩=>?_);refine qcR C (thn (hb _ s6 σ6 H6 _ I6 q6) λf s7 G=>?_);have again:∀ {w:St}{H7:Hp},Inv X (c++k7 fp s5.heap) w H7 s7->N w H7->∃ m,m<n/\∃ i y H',Inv X c y H' s7/\tn i s7.heap/\(∀ b∈fp,H' b=none)/\W i m y H':=λ{w H7} I7 V=>by
   obtain⟨Y,hm,w7⟩:=hN w H7 V;refine⟨Y,hm,i+1,w,H7,I7.unpinned,T.keep _ _ _ O λb hb o e=>(I7.pin (b,o) (qaw _ (qaw _ (cA hb e)))).1,λb hb=>?_,w7⟩;obtain⟨o,e,d⟩:=T.obj _ _ O b hb;exact (I7.pin (b,o) (qaw _ (qaw _ (cA hb e)))).2.1
  cases f with
  |next=>obtain⟨w,H7,I7,V⟩:=G;exact again I7 V
  |cont=>obtain⟨w,H7,I7,V⟩:=G;exact again I7 V
  |brk=>obtain⟨w,H7,I7,G⟩:=G;exact⟨w,H7,I7.unpinned,G⟩
  |ret v=>obtain⟨x7,w,H7,I7,r7,G⟩:=G;exact⟨x7,w,H7,I7.unpinned,r7,G⟩
end
abbrev R2:=V->V->Hp->VK->Prop
def OpR (X:Cx) (f:Value->Value->Sem Value) (r:R2):Prop:=
 ∀ (a:List (Addr×Obj)) (s:qak) (b:St) (H:Hp) (x y:V) (v u:Value) (Q:VK),Inv X a b H s->aQ x v->aQ y u->r x y H Q->
  wpAny (model X.prog X.w) X.A (f v u) (EP X a b Q) X.xe s
def UnR (X:Cx) (f:Value->Sem Value) (r:V->Hp->VK->Prop):Prop:=
 ∀ (a:List (Addr×Obj)) (s:qak) (b:St) (H:Hp) (x:V) (v:Value) (Q:VK),Inv X a b H s->aQ x v->r x H Q->
  wpAny (model X.prog X.w) X.A (f v) (EP X a b Q) X.xe s
def bY (X:Cx) (f:Value) (r:List V->Hp->VK->Prop):Prop:=
 ∀ (a:List (Addr×Obj)) (s:qak) (c:St) (H:Hp) (xs:List V) (b:List Value) (Q:VK),Inv X a c H s->aI xs b->r xs H Q->
  wpAny (model X.prog X.w) X.A (call f b) (EP X a c Q) X.xe s
def GF (X:Cx) (r:V->Hp->(Bool->Hp->Prop)->Prop):Prop:=
 ∀ (a:List (Addr×Obj)) (s:qak) (b:St) (H:Hp) (x:V) (v:Value) (Q:Bool->Hp->Prop),Inv X a b H s->aQ x v->r x H Q->
  wpAny (model X.prog X.w) X.A (truthy v) (TP X a b Q) X.xe s
def tOp (r:R2) (b c:TE):TE:=λa H Q=>b a H λx H1=>c a H1 λy H2=>r x y H2 Q
def tUn (r:V->Hp->VK->Prop) (a:TE):TE:=λb H Q=>a b H λx H1=>r x H1 Q
def rI (C:Int->Int->Prop) (g:Int->Int->V):R2:=λx y H Q=>∃ i j,x=.int i/\y=.int j/\C i j/\Q (g i j) H
def rI0 (g:Int->Int->V):R2:=λx y H Q=>∃ i j,x=.int i/\y=.int j/\Q (g i j) H
def rU (g:Int->V):V->Hp->VK->Prop:=λx H Q=>∃ i,x=.int i/\Q (g i) H
section
variable {X:Cx}{a b c:Expr}{o F O:TE}{pos:Pos}
def Dp (A:PE X a o) (hb:PE X b F) {d:List (Addr×Obj)}{s:qak}{l:St}{H:Hp}{R:V->V->Hp->Prop} (I:Inv X d l H s)
  (h:o l H λx H1=>F l H1 λy H2=>R x y H2) {Q:Value->qak->Prop}{f:Value->Value->Sem Value}
  (M:∀ v u p x y H2,Inv X d l H2 p->aQ x v->aQ y u->R x y H2->wpAny (model X.prog X.w) X.A (f v u) Q X.xe p) :
  wpAny (model X.prog X.w) X.A (eval a X.env) (λv w=>wpAny (model X.prog X.w) X.A (eval b X.env) (λu B=>wpAny (model X.prog X.w) X.A (f v u) Q X.xe B) X.xe w) X.xe s:=by
 refine thn (A d s l H _ I h) λv s1 ⟨x,H1,I1,G,K⟩=>?_;refine thn (hb d s1 l H1 _ I1 K) λu p ⟨y,H2,I2,L,N⟩=>?_;exact M v u p x y H2 I2 G L N
def BV {op:Operator}{r:R2} (J:OpR X (qby op) r) (A:PE X a o) (hb:PE X b F):PE X (.BinOp a op b pos) (tOp r o F):=by
 intro d s l H Q I h;exact wpAny_BinOp (Dp A hb I h λv u p x y H2 I2 m n q=>J d p l H2 x y v u Q I2 m n q)
def FW {op:UnaryOp}{r:V->Hp->VK->Prop} (J:UnR X (unaryOp op) r) (A:PE X a o):PE X (.UnaryOp op a pos) (tUn r o):=by
 intro d s l H Q I h;exact UnaryOp_ (thn (A d s l H _ I h) λv s1 ⟨x,H1,I1,G,K⟩=>J d s1 l H1 x v Q I1 G K)
def opI {f:Value->Value->Sem Value}{C:Int->Int->Prop}{g:Int->Int->Int}
  (rule:∀ (i j:Int) (t u:Tok) (s:qak) (Q:Value->qak->Prop) (E:Value->qak->Prop),C i j->Q (.int (g i j) s.toks) { s with toks:=s.toks+1 }->wpAny (model X.prog X.w) X.A (f (.int i t) (.int j u)) Q E s) :
  OpR X f (rI C λi j=>.int (g i j)):=by
 intro d s l H x y v u Q I m n h;obtain⟨i,j,rfl,rfl,e,q⟩:=h;obtain⟨t,rfl⟩:=m;obtain⟨t',rfl⟩:=n;exact rule i j t t' s _ _ e ⟨.int (g i j),H,I.tok _,⟨_,rfl⟩,q⟩
def D0 {f:Value->Value->Sem Value}{g:Int->Int->Int}
  (rule:∀ (i j:Int) (t u:Tok) (s:qak) (Q:Value->qak->Prop) (E:Value->qak->Prop),Q (.int (g i j) s.toks) { s with toks:=s.toks+1 }->wpAny (model X.prog X.w) X.A (f (.int i t) (.int j u)) Q E s) :
  OpR X f (rI0 λi j=>.int (g i j)):=by
 intro d s l H x y v u Q I m n h;obtain⟨i,j,rfl,rfl,q⟩:=h;obtain⟨t,rfl⟩:=m;obtain⟨t',rfl⟩:=n;exact rule i j t t' s _ _ ⟨.int (g i j),H,I.tok _,⟨_,rfl⟩,q⟩
def Bt {f:Value->Value->Sem Value}{g:Int->Int->Bool}
  (rule:∀ (i j:Int) (t u:Tok) (s:qak) (Q:Value->qak->Prop) (E:Value->qak->Prop),Q (.bool (g i j)) s->wpAny (model X.prog X.w) X.A (f (.int i t) (.int j u)) Q E s) :
  OpR X f (rI0 λi j=>.bl (g i j)):=by
 intro d s l H x y v u Q I m n h;obtain⟨i,j,rfl,rfl,q⟩:=h;obtain⟨t,rfl⟩:=m;obtain⟨t',rfl⟩:=n;exact rule i j t t' s _ _ ⟨.bl (g i j),H,I,rfl,q⟩
def GY (i j:Int):Prop:=0<j/\j<1073741824
def sB (i j:Int):Prop:=0<=j/\j<=1000000/\i.natAbs<2^64
def Au (i j:Int):Prop:=(-(2^64)<i/\i<2^64)\/(-(2^64)<j/\j<2^64)
def Au.ok {i j:Int} (h:Au i j):qhh i j:=by
 rcases h with⟨z,D⟩|⟨z,D⟩
 ·exact .of_left (intBits_le_64 z D)
 ·exact .of_right (intBits_le_64 z D)
def uz (k:Nat):(0:Int)<=2^k:=by
 rw[two_pow_cast];exact Int.natCast_nonneg _
def Ct:OpR X (qby .Add) (rI0 λi j=>.int (i+j)):=D0 λ_ _ _ _ _ _ _ q=>add_int q
def CH:OpR X (qby .Sub) (rI0 λi j=>.int (i - j)):=D0 λ_ _ _ _ _ _ _ q=>sub_int q
def Ao:OpR X (qby .FloorDiv) (rI GY λi j=>.int (i / j)):=opI λi j _ _ _ _ _ e q=>by
 have z:(0:Int)<j:=e.1;have D:j<1073741824:=e.2;exact floordiv_int (by lia) (by rw[qdS i (by lia)];exact q) (.inl (PyProof.noPylong_small (by lia)))
def Cs:OpR X (qby .Mod) (rI (λ_ j=>0<j) λi j=>.int (i%j)):=opI λi j _ _ _ _ _ e q=>by
 have z:(0:Int)<j:=e;exact mod_int' (by lia) (by rw[Int.fmod_eq_emod_of_nonneg i (by lia)];exact q)
def Df:OpR X (qby .Pow) (rI sB λi j=>.int (i^j.toNat)):=opI λ_ _ _ _ _ _ _ e q=>pow_int_small e.1 e.2.1 e.2.2 q
def D4:OpR X (qby .LShift) (rI sB λi j=>.int (i*2^j.toNat)):=opI λ_ _ _ _ _ _ _ e q=>lshift_int_small e.1 e.2.1 e.2.2 q
def CV:OpR X (qby .RShift) (rI (λ_ j=>0<=j) λi j=>.int (i / 2^j.toNat)):=opI λi j _ _ _ _ _ e q=>
 rshift_int e (by rw[qdS i (uz _)];exact q)
def C4:OpR X (qby .BitAnd) (rI0 λi j=>.int (qbD i j)):=D0 λ_ _ _ _ _ _ _ q=>and_int q
def unI {f:Value->Sem Value}{g:Int->Int}
  (rule:∀ (i:Int) (t:Tok) (s:qak) (Q:Value->qak->Prop) (E:Value->qak->Prop),Q (.int (g i) s.toks) { s with toks:=s.toks+1 }->wpAny (model X.prog X.w) X.A (f (.int i t)) Q E s) :
  UnR X f (rU λi=>.int (g i)):=by
 intro d s l H x v Q I m h;obtain⟨i,rfl,q⟩:=h;obtain⟨t,rfl⟩:=m;exact rule i t s _ _ ⟨.int (g i),H,I.tok _,⟨_,rfl⟩,q⟩
def CQ:UnR X (unaryOp .USub) (rU λi=>.int (-i)):=unI λ_ _ _ _ _ q=>neg_int q
end
section
variable {X:Cx}{a b c:Expr}{C J tc:TE}{pos:Pos}
def zJ {d:List (Addr×Obj)}{g:St}{H:Hp}{s:qak}{Q:VK}{k Y:Bool} (I:Inv X d g H s) (q:Q (.bl k) H) (e:k=Y):EP X d g Q (.bool Y) s:=by
 subst e;exact⟨.bl k,H,I,rfl,q⟩
def FO:OpR X (qbE .Lt) (rI0 λi j=>.bl (decide (i<j))):=Bt λ_ _ _ _ _ _ _ q=>lt_int q
def FD:OpR X (qbE .LtE) (rI0 λi j=>.bl (decide (i<=j))):=Bt λ_ _ _ _ _ _ _ q=>le_int q
def Fp:OpR X (qbE .Gt) (rI0 λi j=>.bl (decide (j<i))):=Bt λ_ _ _ _ _ _ _ q=>gt_int q
def Fd:OpR X (qbE .GtE) (rI0 λi j=>.bl (decide (j<=i))):=Bt λ_ _ _ _ _ _ _ q=>ge_int q
def DB:OpR X (qbE .Is) (λx y H Q=>y=.non/\Q (.bl (decide (x=.non))) H):=by
 intro d s g H x y v u Q I n B h;obtain⟨rfl,q⟩:=h;cases B;refine is_none_gen (zJ I q ?_);cases x<;>first
  |(cases n;rfl)
  |(obtain⟨t,rfl⟩:=n;rfl)
def Bg:OpR X (qbE .IsNot) (λx y H Q=>y=.non/\Q (.bl (!decide (x=.non))) H):=by
 intro d s g H x y v u Q I n B h;obtain⟨rfl,q⟩:=h;cases B;refine isnot_none_gen (zJ I q ?_);cases x<;>first
  |(cases n;rfl)
  |(obtain⟨t,rfl⟩:=n;rfl)
def u9 (b:Expr) {op:CmpOp} (h:op≠.In:=by decide) (h2:op≠.NotIn:=by decide):qdO op b=false:=by
 have e1:(op==CmpOp.In)=false:=by cases op<;>first|rfl|exact absurd rfl h
 have e2:(op==CmpOp.NotIn)=false:=by cases op<;>first|rfl|exact absurd rfl h2
 cases b<;>simp[qdO,e1,e2]
def BN {op:CmpOp}{r:R2} (M:OpR X (qbE op) r) (F:PE X a C) (hb:PE X b J) (hm:qdO op b=false):PE X (.Compare a [op] [b] pos) (tOp r C J):=by
 intro d s g H Q I h;exact wpAny_Compare1 (Dp F hb I h λv u R x y H2 I2 n B q=>M d R g H2 x y v u Q I2 n B q) hm
def EX (t:TE):TT:=λg H Q=>t g H λx H'=>∃ k,x=.bl k/\Q k H'
def AW {op:CmpOp}{r:R2} (M:OpR X (qbE op) r) (F:PE X a C) (hb:PE X b J) (hm:qdO op b=false):PT X (.Compare a [op] [b] pos) (EX (tOp r C J)):=by
 intro d s g H Q I h
 refine wpAny_isTrue_Compare1 (thn (F d s g H _ I h) λv s1 ⟨x,H1,I1,o,P⟩=>thn (hb d s1 g H1 _ I1 P) λu R ⟨y,H2,I2,E,q2⟩=>
  thn (M d R g H2 x y v u _ I2 o E q2) λc s3 ⟨z,H3,I3,O,k,e,q3⟩=>?_) hm
 subst e;cases O;exact qcA ⟨H3,I3,q3⟩
def BM (K:qae) (x:V) (H:Hp) (k:Bool):Prop:=
 match x with
 |.non=>k=false
 |.bl b=>k=b
 |.int i=>k=(i != 0)
 |.str y=>y.length<=qaO/\k=((y.length:Int) != 0)
 |.byt y=>y.size<=qaO/\k=((y.size:Int) != 0)
 |.ref p=>(∃ xs,SqL K H p xs/\k=!xs.isEmpty)\/(∃ xs,SqT K H p xs/\k=!xs.isEmpty)\/∃ f,H p=some (.dK f)/\k=!f.isEmpty
 |_=>False
def ux {W:Type}{f:List (W×V)}{vs:List (W×Value)} (r:KV f vs):(!vs.isEmpty)=!f.isEmpty:=by
 cases r<;>rfl
def nM {xs:List V}{its:List Value} (r:aI xs its):(!its.toArray.isEmpty)=!xs.isEmpty:=by
 cases r<;>simp
def jL:(qaO:Nat)<2^63:=by rw[qcb];decide
def CY:GF X (λx H Q=>∃ k,BM X.K x H k/\Q k H):=by
 intro d s g H x v Q I n h;obtain⟨k,e,q⟩:=h;have hl:=jL;have hs:qaO=16777216:=qcb;cases x with
 |non=>
  cases n;have l:k=false:=e;subst l;exact truthy_none ⟨H,I,q⟩
 |bl b=>
  cases n;have l:k=b:=e;subst l;exact qcA ⟨H,I,q⟩
 |int i=>
  obtain⟨t,rfl⟩:=n;have l:k=(i != 0):=e;subst l;exact PySem.P.truthy_int ⟨H,I,q⟩
 |str y=>
  obtain⟨t,rfl⟩:=n;obtain⟨hy,l⟩:y.length<=qaO/\k=((y.length:Int) != 0):=e;subst l;exact PySem.P.truthy_str (by lia) ⟨H,I.tok _,q⟩
 |byt y=>
  obtain⟨t,rfl⟩:=n;obtain⟨hy,l⟩:y.size<=qaO/\k=((y.size:Int) != 0):=e;subst l;exact PySem.W.truthy_bytes (by lia) ⟨H,I.tok _,q⟩
 |ref p=>
  cases n;have l:(∃ xs,SqL X.K H p xs/\k=!xs.isEmpty)\/(∃ xs,SqT X.K H p xs/\k=!xs.isEmpty)\/∃ f,H p=some (.dK f)/\k=!f.isEmpty:=e;rcases l with⟨xs,D,l⟩|⟨xs,D,l⟩|⟨f,D,l⟩
  ·subst l
   obtain⟨its,r,S,L⟩:=I.list D;have A:=r.length;exact wpAny_truthy_list S.isList (by simp only[qaG];lia) ⟨H,I.tok _,by rw[nM r];exact q⟩
  ·subst l
   obtain⟨its,r,S,L⟩:=I.tuple D;have A:=r.length;exact truthy_tuple S (by simp only[qaG];lia) ⟨H,I.tok _,by rw[nM r];exact q⟩
  ·subst l
   obtain⟨L,hS,vs,r,m⟩:f.length<=qaO/\(p==qcp)=false/\∃ vs,KV f vs/\s.heap.DictOf (cc X.prog X.w) p vs:=I.hok p _ D;have A:f.length=vs.length:=qeL r;exact wpAny_truthy_dict hS m (by lia) ⟨H,I.tok _,by rw[ux r];exact q⟩
 |_=>exact (show False from e).elim
def zV (F:PE X a C) (he:∀ whole,qjP a X.env whole=(do let v <-whole;qjK a.pos;qfR [v] (truthy v))) :
  PT X a (λg H Q=>C g H λx H'=>∃ k,BM X.K x H' k/\Q k H'):=by
 intro d s g H Q I h;exact isTrue_plain (thn (F d s g H _ I h) λv s1 ⟨x,H1,I1,o,P⟩=>CY d s1 g H1 x v Q I1 o P) (he _)
def uQ:OpR X (qby .Add) (λx y H Q=>∃ i j,x=.str i/\y=.str j/\i.length+j.length<=qaO/\Q (.str (i++j)) H):=by
 intro d s g H x y v u Q I n B h;obtain⟨i,j,rfl,rfl,L,q⟩:=h;obtain⟨t,rfl⟩:=n;obtain⟨t',rfl⟩:=B;exact add_str (λt' T=>⟨.str (i++j),H,I.tok _,⟨_,rfl⟩,q⟩) L
def kE {x:V}{w:List Value} (r:aI [x] w):∃ u,w=[u]/\aQ x u:=by
 cases r with
 |cons o E=>cases E;exact⟨_,rfl,o⟩
def Fb {x y:V}{w:List Value} (r:aI [x,y] w):∃ u N,w=[u,N]/\aQ x u/\aQ y N:=by
 cases r with
 |cons o E=>
  cases E with
  |cons O r4=>cases r4;exact⟨_,_,rfl,o,O⟩
def yO:bY X (.builtin "abs") (λxs H Q=>∃ i,xs=[.int i]/\Q (.int (if i<0 then -i else i)) H):=by
 intro d s g H xs w Q I r h;obtain⟨i,rfl,q⟩:=h;obtain⟨u,rfl,t,rfl⟩:=kE r;exact call_abs_int λu T=>⟨.int (if i<0 then -i else i),H,I.tok _,⟨_,rfl⟩,q⟩
def xC (hc:X.calm=true):bY X (.builtin "min") (λxs H Q=>∃ i j,xs=[.int i,.int j]/\Q (.int (if j<i then j else i)) H):=by
 intro d s g H xs w Q I r h;obtain⟨i,j,rfl,q⟩:=h;obtain⟨u,N,rfl,⟨t,rfl⟩,⟨t',rfl⟩⟩:=Fb r;refine min_two_ints (I.ok.hd hc) λh' T k=>⟨_,H,I.kept k,?_,q⟩;by_cases G:j<i
 ·rw[if_pos G,if_pos G];exact⟨_,rfl⟩
 ·rw[if_neg G,if_neg G];exact⟨_,rfl⟩
def pw:bY X (.type "int") (λxs H Q=>(∃ i,xs=[.int i]/\Q (.int i) H)\/∃ k,xs=[.bl k]/\Q (.int (if k then 1 else 0)) H):=by
 intro d s g H xs w Q I r h;rcases h with⟨i,rfl,q⟩|⟨k,rfl,q⟩
 ·obtain⟨u,rfl,t,rfl⟩:=kE r
  exact call_int_int ⟨.int i,H,I,⟨_,rfl⟩,q⟩
 ·obtain⟨u,rfl,o⟩:=kE r
  cases o;exact call_int_bool ⟨.int (if k then 1 else 0),H,I.tok _,⟨_,rfl⟩,q⟩
end
structure xB (h:Heap) (x dx C:Addr) (mA:Str->Option Value):Prop where
 obj:h.get? x=some (qcl C dx)
 ns:h.Ns1 dx mA
 ne:dx≠x
def xn {h:Heap}{c:Addr}{d:Str->Option Value} (n:h.Ns1 c d):∃ f,h.get? c=some f/\∀ name,qfE name f=some (d name):=by
 obtain⟨o,es,l,g,hd,j,_,hm⟩:=n;refine⟨o,g,λname=>?_⟩;have e:=hm name;unfold nsFind findBy at e;rw[<-Array.find?_toList]at e;unfold qfE;rw[hd];dsimp only;split
 ·rename_i y q
  rw[q]at e;exact congrArg some e
 ·rename_i q
  rw[q]at e;have a:es.toList.any (·.refKey)=false:=by
   rw[qhs];intro y k;obtain⟨z,t,b⟩:=j y (Array.mem_toList_iff.mp k);simp[DictEntry.refKey,b]
  have i:¬ es.toList.any (·.refKey)=true:=by rw[a];exact qaC
  rw[if_neg i];exact congrArg some e
def xB.look {h:Heap}{x b C:Addr}{c:Str->Option Value} (I:xB h x b C c):∃ a,PySem.W.InstAt h x (qcl C b) C (some a)/\∀ name,qfE name a=some (c name):=
 let ⟨a,ho,hl⟩:=xn I.ns
 ⟨a,⟨I.obj,rfl,rfl,ho⟩,hl⟩
section
variable {prog:qaQ}{w:World}{A:qa2}{E:Value->qak->Prop}{s:qak}{K:qae}{x c C f:Addr}{j:Str->Option Value}{name:Str}{v:Value}
def Bp {k:Bool}{Q:Value->qak->Prop} (X:K.In s.heap) (I:xB s.heap x c C j) (hg:qd1 K C name=true) (l:qdP K C=true)
  (T:qbp K (.ref C) name=some none) (H:j name=some v) (o:qgV v=true) (h:Q v { s with toks:=s.toks+1 }) :
  wpAny (model prog w) A (getAttr (.ref x) name k) Q E s:=by
 obtain⟨F,J,z⟩:=I.look;exact PySem.W.get_value X J (PySem.W.plainGet_of hg).1 (PySem.W.findObj_own l T rfl (by rw[z,H])) o h
def Bb {ns:List Str}{Q:Unit->qak->Prop} (X:K.In s.heap) (I:xB s.heap x c C j)
  (L:qbp K (.ref C) "__setattr__" = some (some (.builtin "object.__setattr__"))) (M:qeW K C=true) (N:qfh K C name=some none) (l:qdP K C=true)
  (hw:qgr j ns) (hsz:ns.length<=qaO)
  (h:∀ h',xB h' x c C (λy=>if y=name then some v else j y)->qc6 c s.heap h'->Q () { s with heap:=h',toks:=s.toks+2 }) :
  wpAny (model prog w) A (setAttr (.ref x) name v) Q E s:=by
 obtain⟨F,J,z⟩:=I.look;refine PySem.W.set_plain X J L (PySem.W.osa_open (s:={ s with toks:=s.toks+1 }) (r:=none) X J M N λb=>?_);obtain⟨W,B,n⟩:=PySem.W.any_some l;have D:s.heap.get? x=some ⟨.ref C,some c,.plain,#[]⟩:=I.obj;refine qab (qan (qab (qab (wpAny_loadPart D (qab (qix (s:={ s with toks:=s.toks+1 }) (PySem.W.looks_clsIn X B) ?_))))));rw[n];refine qan (a:=some c) (qab (qan (qab ?_)));refine wpAny_nsSet1 (s:={ s with toks:=s.toks+1 }) I.ns λh' i e=>?_;obtain⟨V,O,S,q,m,u⟩:=i.count (qjp name v hw);refine qab (wpAny_lookBehind q (by rw[m];exact pastItsLine_dict (qa3 u (by rw[qam];lia))) ?_);exact qan (h _ ⟨(e.2 _ (qbC I.ne)).trans I.obj,i,I.ne⟩ e)
def zg {R:qjT->qak->Prop}{vs:List Value}{p:List (Str×Value)} (X:K.In s.heap) (hm:qfi K C=true)
  (G:qbp K (.ref C) "__init__" = some (some (.ref f))) (P:PySem.W.typeIn K (.ref f)=some (.type "function"))
  (h:qff (model prog w) (A.under (.builtin "type.__call__" ⟨.ref C::vs,p⟩)) (.call (.ref f) ⟨.ref (s.heap.objs.size+1)::vs,p⟩) (PySem.W.InitBack (s.heap.objs.size+1) R)
    { s with heap:=(s.heap.push qbX).push (qcl C s.heap.objs.size) }) :
  qff (model prog w) A (.call (.ref C) ⟨vs,p⟩) R s:=by
 obtain⟨l,g,d,t,os⟩:=s;exact PySem.W.make_core (PySem.W.makes_of X hm) (PySem.W.looks_findIn X G) (λself=>PySem.W.bind_fn X self P) (.inl rfl) h
end
def fJ (f:Str) (v:V):List (Str×V)->List (Str×V)
 |[]=>[(f,v)]
 |(g,x)::r=>if g=f then (g,v)::r else (g,x)::fJ f v r
def l5 (f g:Str) (v:V):∀ fs:List (Str×V),(fJ f v fs).lookup g=if g=f then some v else fs.lookup g
 |[]=>by
  show qdJ g [(f,v)]=_;by_cases h:g=f
  ·have hb:(g==f)=true:=beq_iff_eq.mpr h
   simp only[qdJ,hb,if_pos h]
  ·have hb:(g==f)=false:=beq_eq_false_iff_ne.mpr h
   simp only[qdJ,hb,if_neg h]
 |(k,x)::r=>by
  have b:=l5 f g v r;rw[show fJ f v ((k,x)::r)=(if k=f then (k,v)::r else (k,x)::fJ f v r) from rfl];by_cases a:k=f
  ·rw[if_pos a]
   by_cases h:g=k
   ·have hb:(g==k)=true:=beq_iff_eq.mpr h
    simp only[qdJ,hb,if_pos (h.trans a)]
   ·have hb:(g==k)=false:=beq_eq_false_iff_ne.mpr h
    simp only[qdJ,hb,if_neg (λe:g=f=>h (e.trans a.symm))]
  ·rw[if_neg a]
   by_cases h:g=k
   ·have hb:(g==k)=true:=beq_iff_eq.mpr h
    simp only[qdJ,hb,if_neg (λe:g=f=>a (h.symm.trans e))]
   ·have hb:(g==k)=false:=beq_eq_false_iff_ne.mpr h
    simp only[qdJ,hb];exact b
def lF (f:Str) (v:V):∀ fs:List (Str×V),f∈(fJ f v fs).map (·.1)/\∀ g,g∈fs.map (·.1)->g∈(fJ f v fs).map (·.1)
 |[]=>⟨by simp[fJ],λg h=>by simp at h⟩
 |(k,x)::r=>by
  obtain⟨b,c⟩:=lF f v r;rw[show fJ f v ((k,x)::r)=(if k=f then (k,v)::r else (k,x)::fJ f v r) from rfl];by_cases a:k=f
  ·rw[if_pos a]
   subst a;exact⟨by simp,λg h=>by simpa using h⟩
  ·rw[if_neg a]
   refine⟨?_,λg h=>?_⟩
   ·rw[qaq]
    exact qal _ b
   ·rw[qaq]at h ⊢
    rcases qaH.mp h with e|e
    ·exact qaH.mpr (.inl e)
    ·exact qal _ (c g e)
def l6 (f:Str) (v:V):∀ fs:List (Str×V),(fJ f v fs).length<=fs.length+1
 |[]=>by simp[fJ]
 |(k,x)::r=>by
  have b:=l6 f v r;rw[show fJ f v ((k,x)::r)=(if k=f then (k,v)::r else (k,x)::fJ f v r) from rfl];by_cases a:k=f
  ·rw[if_pos a,qam,qam];lia
  ·rw[if_neg a,qam,qam];lia
def k9.some_of {v:V}{o:Option Value} (r:k9 (some v) o):∃ u,o=some u/\aQ v u:=by
 cases o with
 |none=>exact (show False from r).elim
 |some u=>exact⟨u,rfl,r⟩
def xI {v:V}{u:Value} (r:aQ v u):qgV u=true:=by
 cases v with
 |non=>cases (show u=Value.none from r);rfl
 |bl b=>cases (show u=Value.bool b from r);rfl
 |int i=>obtain⟨t,e⟩:=(show ∃ t,u=Value.int i t from r);cases e;rfl
 |str x=>obtain⟨t,e⟩:=(show ∃ t,u=Value.str x t from r);cases e;rfl
 |byt b=>obtain⟨t,e⟩:=(show ∃ t,u=Value.bytes b t from r);cases e;rfl
 |flt b=>obtain⟨t,e⟩:=(show ∃ t,u=Value.float b t from r);cases e;rfl
 |ref a=>cases (show u=Value.ref a from r);rfl
 |ty n=>cases (show u=Value.type n from r);rfl
section
variable {P:qaQ}{w:World}{H H':Hp}{h h':Heap}{a C c:Addr}{fs g:List (Str×V)}
def qw (hok:HOk P w H h) (e:H a=some (.ins C c fs)):∃ b,xB h a c C b/\(∀ f,k9 (fs.lookup f) (b f))/\qgr b (fs.map (·.1))/\fs.length<=1000/\H c=some (.own a):=by
 obtain⟨d,z,ne,ob,b,n,r,q⟩:=(show bG P w H h a (.ins C c fs) from hok a _ e);exact⟨b,⟨ob,n,ne⟩,r,q,z,d⟩
end
structure Cls (K:qae) (C:Addr):Prop where
 pg:qd1 K C Str.empty=true
 hd:qdP K C=true
 po:qeW K C=true
 sa:qbp K (.ref C) "__setattr__" = some (some (.builtin "object.__setattr__"))
def Cls.get {K:qae}{C:Addr} (c:Cls K C) (f:Str):qd1 K C f=true:=c.pg
def cw (K:qae) (C:Addr) (f:Str):Prop:=qbp K (.ref C) f=some none
def cw.taker {K:qae}{C:Addr}{f:Str} (n:cw K C f):qfh K C f=some none:=by
 unfold qfh;rw[show qbp K (.ref C) f=some none from n];rfl
section
variable {X:Cx}{d:List (Addr×Obj)}{i:St}{H:Hp}{s:qak}{a C j:Addr}{fs:List (Str×V)}{f:Str}{v:V}{A:qa2}{E:Value->qak->Prop}
def vi {b:Bool}{Q:Value->qak->Prop} (I:Inv X d i H s) (e:H a=some (.ins C j fs)) (c:Cls X.K C) (n:cw X.K C f) (l:fs.lookup f=some v)
  (h:∀ u s',Inv X d i H s'->aQ v u->Q u s'):wpAny (model X.prog X.w) A (getAttr (.ref a) f b) Q E s:=by
 obtain⟨m,O,r,_,_,_⟩:=qw I.hok e;obtain⟨u,F,t⟩:=k9.some_of (v:=v) (o:=m f) (by rw[<-l];exact r f);exact Bp I.kIn O (c.get f) c.hd n F (xI t) (h u _ (I.tok _) t)
def vk {y:V}{u:Value}{Q:Unit->qak->Prop} (I:Inv X d i H s) (e:H a=some (.ins C j fs)) (c:Cls X.K C) (n:cw X.K C f) (R:fs.length<1000) (P:aQ y u)
  (h:∀ s',Inv X d i (upd H a (.ins C j (fJ f y fs))) s'->Q () s'):wpAny (model X.prog X.w) A (setAttr (.ref a) f u) Q E s:=by
 obtain⟨m,O,r,D,_,p⟩:=qw I.hok e;have N:(fs.map (·.1)).length<=qaO:=by rw[qah,qcb];lia
 refine Bb I.kIn O c.sa c.po n.taker c.hd D N λh' O' M=>h _ ?_;have hd:∃ o,h'.get? j=some o:=let ⟨o,_,_,e',_⟩:=O'.ns;⟨o,e'⟩;refine I.write (x:=a) (e:=j) (by rw[e];exact True.intro) (.inr p) (λb q hb z=>(M.2 b hb).trans z) hd ?_;refine⟨by rw[upd_ne O.ne];exact p,?_,O.ne,O'.obj,_,O'.ns,λg=>?_,λg hg=>?_⟩
 ·have:=l6 f y fs;lia
 ·show k9 ((fJ f y fs).lookup g) (if g=f then some u else m g)
  rw[l5];by_cases q:g=f
  ·rw[if_pos q,if_pos q];exact P
  ·rw[if_neg q,if_neg q];exact r g
 ·by_cases q:g=f
  ·rw[q];exact (lF f y fs).1
  ·refine (lF f y fs).2 g (D g λz=>hg ?_)
   show (if g=f then some u else m g)=none;rw[if_neg q];exact z
def Inv.made (I:Inv X d i H s):Inv X d i (upd (upd H s.heap.objs.size (.own (s.heap.objs.size+1))) (s.heap.objs.size+1) (.ins C s.heap.objs.size []))
  { s with heap:=(s.heap.push qbX).push (qcl C s.heap.objs.size) }:=by
 have B:(s.heap.push qbX).get? s.heap.objs.size=some qbX:=qav s.heap rfl;have G:((s.heap.push qbX).push (qcl C s.heap.objs.size)).get? (s.heap.objs.size+1)=some (qcl C s.heap.objs.size):=by
  have:=qav (s.heap.push qbX) (o:=qcl C s.heap.objs.size) rfl
  rwa [qbq]at this
 have K:(s.heap.push qbX).Ns s.heap.objs.size (λ_=>none):=⟨qbX,#[],_,B,rfl,(λe L=>absurd L (by simp)),λ_=>rfl⟩;have I1:=I.laid (a:=s.heap.objs.size) (o:=.own (s.heap.objs.size+1)) (h':=s.heap.push qbX) (t':=s.toks) (λb u q=>qaj _ q) (qar _) ⟨_,B⟩;refine I1.laid (a:=s.heap.objs.size+1) (o:=.ins C s.heap.objs.size []) (t':=s.toks) (λb u q=>qaj _ q) (qdA (qbq _ _)) ?_;have ne:s.heap.objs.size≠s.heap.objs.size+1:=qaL (qbV _);refine⟨by rw[upd_ne ne,upd_same],qch _,ne,G,λ_=>none,(Heap.Ns1.of_empty K).at λo q=>qaj _ q,λ_=>True.intro,λy J=>absurd rfl J⟩
def Ay {prog:qaQ}{w:World}{env:Env}{e:Expr}{f:Str}{pos:Pos}{s:qak}{Q:Value->qak->Prop} (hb:qds e f env (eval e env)=eval e env)
  (h:wpAny (model prog w) A (eval e env) (λo k=>wpAny (model prog w) A (getAttr o f true) Q E k) E s):wpAny (model prog w) A (eval (.Attribute e f pos) env) Q E s:=
 Attribute_any_ h (by rw[arm_eval_Attribute,hb])
end
def Gz (K:qae) (b:TE) (f:Str):TE:=λc H Q=>b c H λx H1=>∃ a C d fs v,x=.ref a/\H1 a=some (.ins C d fs)/\Cls K C/\cw K C f/\fs.lookup f=some v/\Q v H1
def GV (K:qae) (d e:TE) (f:Str):TS:=λD b H=>e b H λy H1=>d b H1 λx H2=>∃ a C c fs,x=.ref a/\H2 a=some (.ins C c fs)/\Cls K C/\cw K C f/\fs.length<1000/\
 D.nx b (upd H2 a (.ins C c (fJ f y fs)))
section
variable {X:Cx}{o e b:Expr}{f:Str}{pos g r:Pos}{j p:TE}
def Do (E:PE X e j) (hb:qds e f X.env (eval e X.env)=eval e X.env):PE X (.Attribute e f pos) (Gz X.K j f):=by
 intro d s i H Q I h;refine Ay hb (thn (E d s i H _ I h) λu s1 ⟨x,H1,I1,m,a,C,t,fs,v,ex,k,c,n,l,q⟩=>?_);subst ex;obtain rfl:u=Value.ref a:=m;exact vi I1 k c n l λM J I2 w=>⟨v,H1,I2,w,q⟩
def z6 (K:PE X o j) (A:PE X b p) (B:qcB b (some (.Attribute o f g)) pos.line X.env=pure false):PS X (.Assign [.Attribute o f g] b pos) (GV X.K j p f):=by
 intro d s i H D I h;refine plainObj_wpAny_Assign_Attribute (thn (A d s i H _ I h) λu s1 ⟨y,H1,I1,G,q⟩=>thn (K d s1 i H1 _ I1 q) λz J ⟨x,H2,I2,m,a,C,t,fs,ex,k,c,n,l,F⟩=>?_) B;subst ex;obtain rfl:z=Value.ref a:=m;exact vk I2 k c n l G λL I3=>⟨i,_,I3,F⟩
end
section
variable {X:Cx}{k:List (Addr×Obj)}{m:St}{H:Hp}{s:qak}{A:qa2}{E:Value->qak->Prop}{Q:Value->qak->Prop}{c:Value}{b:Bool}
inductive mw (K:qae) (H:Hp):V->Value->Prop where
 |non:mw K H .non (.type "NoneType")
 |bl (x:Bool):mw K H (.bl x) (.type "bool")
 |int (i:Int):mw K H (.int i) (.type "int")
 |str (x:Str):mw K H (.str x) (.type "str")
 |flt (x:UInt64):mw K H (.flt x) (.type "float")
 |lst {a:Addr}{xs:List V} (e:H a=some (.lst xs)):mw K H (.ref a) (.type "list")
 |frz {a:Addr}{o:Obj}{xs:List V} (e:H a=some (.frz o (.lst xs))):mw K H (.ref a) (.type "list")
 |tup {a:Addr}{xs:List V} (e:H a=some (.tup xs)):mw K H (.ref a) (.type "tuple")
 |dK {a:Addr}{kvs:List (Key×V)} (e:H a=some (.dK kvs)):mw K H (.ref a) (.type "dict")
 |dT {a:Addr}{kvs:List (List Key×V)} (e:H a=some (.dT kvs)):mw K H (.ref a) (.type "dict")
 |ins {a C dx:Addr}{fs:List (Str×V)} (e:H a=some (.ins C dx fs)) (cl:Cls K C) (ha:qbp K (.ref C) "__class__" = some (some (.builtin "object.__class__")))
   (hn:PySem.W.specialIn K (.builtin "object.__class__") "__get__" = some (some (.builtin "getset_descriptor.__get__"))) (htk:PySem.W.takesIn K (.builtin "object.__class__")=some true)
   (hm:PySem.W.mroIn K C (.type "object")=some true):mw K H (.ref a) (.ref C)
def cr {x:V}{u t:Value} (I:Inv X k m H s) (d:aQ x u) (ty:mw X.K H x t) (e:qho X.K t c=some b) (h:∀ l,Q (.bool b) { s with toks:=l }) :
  wpAny (model X.prog X.w) A (call (.builtin "isinstance") [u,c]) Q E s:=by
 cases ty with
 |non=>cases (show u=Value.none from d);exact qbH PySem.W.kitx_none I.kIn True.intro e (λz=>nomatch z) h
 |bl y=>cases (show u=Value.bool y from d);exact qbH PySem.W.kitx_bool I.kIn True.intro e (λz=>nomatch z) h
 |int i=>obtain⟨t,q⟩:=(show ∃ t,u=Value.int i t from d);cases q;exact qbH PySem.W.kitx_int I.kIn True.intro e (λz=>nomatch z) h
 |str y=>obtain⟨t,q⟩:=(show ∃ t,u=Value.str y t from d);cases q;exact qbH PySem.W.kitx_str I.kIn True.intro e (λz=>nomatch z) h
 |flt y=>obtain⟨t,q⟩:=(show ∃ t,u=Value.float y t from d);cases q;exact qbH PySem.W.kitx_float I.kIn True.intro e (λz=>nomatch z) h
 |@lst a xs f=>
  cases (show u=Value.ref a from d);obtain⟨_,_,n,_,g⟩:=(show bG X.prog X.w H s.heap a (.lst xs) from I.hok a _ f);exact qbH qgF I.kIn ⟨_,g,rfl⟩ e (λz=>nomatch z) h
 |@frz a ob xs f=>
  cases (show u=Value.ref a from d);obtain⟨_,_,_,n,_,g⟩:=(show bG X.prog X.w H s.heap a (.frz ob (.lst xs)) from I.hok a _ f);exact qbH qgF I.kIn ⟨_,g,rfl⟩ e (λz=>nomatch z) h
 |@tup a xs f=>
  cases (show u=Value.ref a from d);obtain⟨_,_,_,p⟩:=(show bG X.prog X.w H s.heap a (.tup xs) from I.hok a _ f);obtain⟨o,g,j,_⟩:=p;exact qbH qgy I.kIn ⟨o,g,j⟩ e (λz=>nomatch z) h
 |@dK a kvs f=>
  cases (show u=Value.ref a from d);obtain⟨_,_,vs,_,p⟩:=(show bG X.prog X.w H s.heap a (.dK kvs) from I.hok a _ f);obtain⟨o,es,r,g,j,_⟩:=p;exact qbH qgG I.kIn ⟨o,g,j.1⟩ e (λz=>nomatch z) h
 |@dT a kvs f=>
  cases (show u=Value.ref a from d);obtain⟨_,_,xs,_,o,es,r,g,j,_⟩:=(show bG X.prog X.w H s.heap a (.dT kvs) from I.hok a _ f);exact qbH qgG I.kIn ⟨o,g,j.1⟩ e (λz=>nomatch z) h
 |@ins a C dx fs f cl ha hn htk hm=>
  cases (show u=Value.ref a from d);obtain⟨v,O,_⟩:=qw I.hok f;obtain⟨w,J,_⟩:=O.look;exact qbH (PySem.W.kitx_own (cl.get _) cl.hd ha hn htk hm) I.kIn J e (λz=>nomatch z) h
end
structure bC (k:Nat) (A:qa2):Prop where
 hd:A.handled=none
 dp:A.depth+3*k+5<qj2
 un:A.units+16*k+200<cLine
 gd:A.guards=some []
def bC.mono {j k:Nat}{A:qa2} (r:bC k A) (h:j<=k):bC j A:=⟨r.hd,by have:=r.dp;lia,by have:=r.un;lia,r.gd⟩
def bC.deeper {k:Nat}{A:qa2} (r:bC (k+1) A) (env:Env):bC k (A.deeper env):=
 ⟨r.hd,by have:=r.dp;show A.depth+1+3*k+5<_;lia,by have:=r.un;show A.units+3+16*k+200<_;lia,r.gd⟩
def uX {A:qa2}{C:Addr}{a:List Value}{b:List (Str×Value)}:(A.under (.builtin "type.__call__" ⟨.ref C::a,b⟩)).depth=A.depth+1:=by
 first|rfl|simp[qe9,Code.weight,Code.isCreation,qiD,Code.isCaller,qjH,qgD,guardIds]
def uT {A:qa2}{C:Addr}{a:List Value}{b:List (Str×Value)}:(A.under (.builtin "type.__call__" ⟨.ref C::a,b⟩)).units=A.units+1:=by
 first|rfl|simp[qe9,Code.cUnits,qjH,qgD]
def bC.make {k:Nat}{A:qa2} (r:bC (k+1) A) (C:Addr) (a:List Value) (b:List (Str×Value)):bC k (A.under (.builtin "type.__call__" ⟨.ref C::a,b⟩)):=
 ⟨r.hd,by have:=r.dp;rw[uX];lia,by have:=r.un;rw[uT];lia,by
  unfold qe9
  simp[r.gd,pushGuards,Code.guards,qiD,guardIds]⟩
def bC.depth {k:Nat}{A:qa2} (r:bC k A):A.depth<qj2:=by have:=r.dp;lia
def bC.units {k:Nat}{A:qa2} (r:bC k A):A.units+64<cLine:=by have:=r.un;lia
def bC.units0 {k:Nat}{A:qa2} (r:bC k A):A.units<cLine:=by have:=r.un;lia
def GZ:TA:=λ_ H Q=>Q [] H
def Fv (b:TE) (c:TA):TA:=λa H Q=>b a H λx H1=>c a H1 λxs H2=>Q (x::xs) H2
section
variable {X:Cx}{e:Expr}{es:List Expr}{te:TE}{t:TA}{pos:Pos}
def qc:PA X [] GZ:=λ_ _ _ _ H Q I h=>Calls.spliced_nil ⟨[],H,I,.nil,h⟩
def mz (m:PE X e te) (k:PA X es t) (o:qbt (e::es) X.env=(false,eval e X.env)::qbt es X.env:=by rfl):PA X (e::es) (Fv te t):=by
 intro pos a s c H Q I h;rw[o];show wpAny _ _ (spliced ((false,eval e X.env)::qeF pos (qbt es X.env))) _ _ s;refine Calls.spliced_cons (thn (m a s c H _ I h) λu s1 ⟨x,H1,I1,i,n⟩=>?_);exact thn (k pos a s1 c H1 _ I1 n) λd v ⟨xs,H2,I2,l,j⟩=>⟨x::xs,H2,I2,.cons i l,j⟩
def GH (t:TA):TE:=λc H Q=>t c H λxs H1=>xs.length<=qaO/\∀ p,H1 p=none->Q (.ref p) (upd H1 p (.tup xs))
def Gp (t:TA):TE:=λc H Q=>t c H λxs H1=>xs.length<=qaO/\∀ p,H1 p=none->Q (.ref p) (upd H1 p (.lst xs))
def CJ {x1} (h:PA X es t):PE X (.Tuple es x1 pos) (GH t):=by
 intro a s c H Q I f;refine wpAny_Tuple_spliced (thn (h pos a s c H _ I f) λd s1 ⟨xs,H1,I1,r,z,q⟩=>⟨by rw[<-r.length];exact z,?_⟩);have g:H1 s1.heap.objs.size=none:=I1.hok.fresh (qar _);refine⟨.ref s1.heap.objs.size,upd H1 s1.heap.objs.size (.tup xs),I1.laid (t':=s1.toks) (λb u e=>qaj _ e) (qar _) ?_,rfl,q _ g⟩;exact⟨z,d,r,cW.new _ _⟩
def CI (h:PA X es t):PE X (.List es pos) (Gp t):=by
 intro a s c H Q I f;refine wpAny_List_spliced (thn (h pos a s c H _ I f) λd s1 ⟨xs,H1,I1,r,z,q⟩=>⟨by rw[<-r.length];exact z,?_⟩);have g:H1 s1.heap.objs.size=none:=I1.hok.fresh (qar _);refine⟨.ref s1.heap.objs.size,upd H1 s1.heap.objs.size (.lst xs),I1.laid (t':=s1.toks) (λb u e=>qaj _ e) (qar _) ?_,rfl,q _ g⟩;exact⟨z,d,0,r,qav _ rfl⟩
end
abbrev Sp:=List V->Hp->VK->XK->Prop
abbrev CXT:=List Env->Hp->qak->XK->Value->qak->Prop
structure uO (P:qaQ) (w:World) (K:qae) (mg:Str->Option Value) (base:Heap) (A:qa2) (outer:List Env) (s:qak) (H:Hp):Prop where
 frames:A.frames=some outer
 mod:Mod K mg base
 bs:∀ b o,base.get? b=some o->s.heap.get? b=some o/\H b=none
 bsz:base.objs.size<=s.heap.objs.size
 funs:s.heap.FunFrames base outer
 frf:∀ b∈frs outer,H b=none
 hok:HOk P w H s.heap
 bare:qfp s.gens
def CE (outer:List Env) (P:qaQ) (w:World) (H:Hp) (s:qak) (Q:VK) (u:Value) (s':qak):Prop:=
 ∃ v H',s'.os=s.os/\qfp s'.gens/\Un (frs outer) [] H H' s.heap s'.heap/\HOk P w H' s'.heap/\aQ v u/\Q v H'
def CR (CX:CXT) (outer:List Env) (P:qaQ) (w:World) (H:Hp) (s:qak) (Q:VK) (E:XK) (r:qjT) (s':qak):Prop:=
 match r with
 |.ok (.ret u)=>CE outer P w H s Q u s'
 |.ok _=>False
 |.error e=>CX outer H s E e s'
structure ek (P:qaQ) (w:World) (K:qae) (mg:Str->Option Value) (base:Heap) (CX:CXT) (k:Nat) (f:Addr) (fd:qau) (ps:List Str) (sp:Sp):Prop where
 len:∀ vs H Q E,sp vs H Q E->vs.length=ps.length
 run:∀ (A:qa2) (outer:List Env) (s:qak) (H:Hp) (args:Args) (us:List Value) (vs:List V) (Q:VK) (E:XK),bC k A->uO P w K mg base A outer s H->qhj s fd args (ps.zip us)->aI vs us->sp vs H Q E->
  qff (model P w) A (.call (.ref f) args) (CR CX outer P w H s Q E) s
def ek.mono {P:qaQ}{w:World}{K:qae}{mg:Str->Option Value}{base:Heap}{CX:CXT}{j k:Nat}{f:Addr}{fd:qau}{ps:List Str}{sp:Sp} (F:ek P w K mg base CX j f fd ps sp) (h:j<=k) :
  ek P w K mg base CX k f fd ps sp:=⟨F.len,λA outer s H args a vs Q E b=>F.run A outer s H args a vs Q E (b.mono h)⟩
def uO.make {P:qaQ}{w:World}{K:qae}{mg:Str->Option Value}{base:Heap}{A:qa2}{outer:List Env}{s:qak}{H:Hp} (e:uO P w K mg base A outer s H) (C:Addr) (a:List Value) (b:List (Str×Value)) :
  uO P w K mg base (A.under (.builtin "type.__call__" ⟨.ref C::a,b⟩)) outer s H:=⟨by first|exact e.frames|(simpa [qe9,Code.envs,qgD,pushEnvs] using e.frames),e.mod,e.bs,e.bsz,e.funs,e.frf,e.hok,e.bare⟩
section
variable {X:Cx}{a:List (Addr×Obj)}{e:St}{H:Hp}{s s':qak}
def Inv.env0 (I:Inv X a e H s):uO X.prog X.w X.K X.mg X.base X.A X.stack s H:=
 ⟨I.ok.frames,I.ok.mod,I.bs,qa3 I.ok.bsz I.sz,I.stack,I.stkFree,I.hok,I.bare⟩
def Inv.after {Q:VK}{u:Value} (I:Inv X a e H s) (h:CE X.stack X.prog X.w H s Q u s'):EP X a e Q u s':=by
 obtain⟨v,H',os,bare,un,hok,r,q⟩:=h;obtain⟨f,g,d,t,c⟩:=s';obtain rfl:c=s.os:=os;exact⟨v,H',I.call (h':=f) (g':=g) (d':=d) (t':=t) (ch:=[]) un hok bare (λb z=>absurd z (by simp)),r,q⟩
end
def EG (sp:Sp) (a:List V) (E:XK) (t:TA):TE:=λb H Q=>t b H λvs H1=>sp (vs++a) H1 Q E
def Ez (C:Addr) (sp:Sp) (b:List V) (E:XK) (t:TA):TE:=λc H Q=>t c H λvs H1=>∀ x a,H1 x=none->H1 a=none->a≠x->
 sp (.ref x::(vs++b)) (upd (upd H1 a (.own x)) x (.ins C a [])) (λv H2=>v=.non/\Q (.ref x) H2) E
def aM (K:qae) (fd:qau) (ps:List Str) (ds:List Value):Prop:=
 ∀ (s:qak) (a:List Value),K.In s.heap->(a++ds).length=ps.length->qhj s fd ⟨a,[]⟩ (ps.zip (a++ds))
def aM.all {K:qae}{fd:qau}{ps:List Str} (h:∀ a:List Value,a.length=ps.length->bindArgs fd ⟨a,[]⟩=pure (ps.zip a)):aM K fd ps []:=λs a _ b=>by
 rw[qb3]at b ⊢;exact .of_eq (h a b)
def oa (CX:CXT) (X:Cx) (E:XK):Prop:=∀ (a:List (Addr×Obj)) (b:St) (H:Hp) (s:qak) (e:Value) (s':qak),Inv X a b H s->CX X.stack H s E e s'->X.xe e s'
section
variable {X:Cx}{CX:CXT}{k:Nat}{f C:Addr}{fd:qau}{ps:List Str}{sp:Sp}{b:List V}{ds:List Value}{E:XK}{x m:Str}{p pos G:Pos}{e o:Expr}{es:List Expr}{P:TE}{t:TA}
def Cv {a:List (Addr×Obj)}{g:St}{H:Hp}{s:qak}{Q:VK}{c:List Value}{vs:List V} (F:ek X.prog X.w X.K X.mg X.base CX k f fd ps sp) (w:bC k X.A) (hb:aM X.K fd ps ds) (hd:aI b ds) (j:oa CX X E)
  (I:Inv X a g H s) (r:aI vs c) (h:sp (vs++b) H Q E):wpAny (model X.prog X.w) X.A (call (.ref f) c) (EP X a g Q) X.xe s:=by
 have y:aI (vs++b) (c++ds):=r.append hd;have B:(c++ds).length=ps.length:=by rw[<-y.length];exact F.len _ _ _ _ h
 refine wpAny_call (qfX (F.run X.A X.stack s H ⟨c,[]⟩ (c++ds) (vs++b) Q E w I.env0 (hb s c I.kIn B) y h) λr s' i=>?_);cases r with
 |error e=>exact j a g H s e s' I i
 |ok fl=>
  cases fl with
  |ret u=>exact I.after i
  |next=>exact qcs i
  |brk=>exact qcs i
  |cont=>exact qcs i
def wm (F:ek X.prog X.w X.K X.mg X.base CX k f fd ps sp) (w:bC k X.A) (hg:Gl X x) (hm:X.mg x=some (.ref f)) (O:qcy X.K (.ref f)=true) (hb:aM X.K fd ps ds) (hd:aI b ds) (j:oa CX X E)
  (D:PA X (e::es) t) (l:(x==("__debug__" : Str))=false:=by decide) (A:qbt (e::es) X.env=(false,eval e X.env)::qbt es X.env:=by rfl) (n:(qeF pos (qbt es X.env)).any (·.1)=false:=by rfl) :
  PE X (.Call (.Name x p) (e::es) [] pos) (EG sp b E t):=by
 intro a s g H Q I h;refine qd6 (vo I hg hm ?_ l);refine qgz (h₀:=X.base) I.ok.mod.kin O (thn (D pos a s g H _ I h) λc s1 ⟨vs,H1,I1,r,q⟩=>⟨I1.kIn,?_⟩) A n;exact Cv F w hb hd j I1 r q
structure Mk (K:qae) (C f:Addr):Prop where
 makes:qfi K C=true
 init:qbp K (.ref C) "__init__" = some (some (.ref f))
 fn:qhK K (.ref f)=true
 kp:qcy K (.ref C)=true
def yf {a:List (Addr×Obj)}{g:St}{H:Hp}{s:qak}{Q:VK}{c:List Value}{vs:List V} (M:Mk X.K C f) (F:ek X.prog X.w X.K X.mg X.base CX k f fd ps sp) (w:bC (k+1) X.A) (hb:aM X.K fd ps ds) (hd:aI b ds)
  (j:oa CX X E) (I:Inv X a g H s) (r:aI vs c)
  (h:∀ x z,H x=none->H z=none->z≠x->sp (.ref x::(vs++b)) (upd (upd H z (.own x)) x (.ins C z [])) (λv H2=>v=.non/\Q (.ref x) H2) E) :
  wpAny (model X.prog X.w) X.A (call (.ref C) c) (EP X a g Q) X.xe s:=by
 have i:=h (s.heap.objs.size+1) s.heap.objs.size (I.hok.fresh (qc3 _)) (I.hok.fresh (qar _)) (qaL (qbV _));have I2:=Inv.made (C:=C) I;have y:aI (V.ref (s.heap.objs.size+1)::(vs++b)) (Value.ref (s.heap.objs.size+1)::(c++ds)):=.cons rfl (r.append hd);have B:(Value.ref (s.heap.objs.size+1)::c++ds).length=ps.length:=by
  have e:=y.length;rw[F.len _ _ _ _ i]at e;exact e.symm
 refine wpAny_call (zg (f:=f) I.kIn M.makes M.init (beq_iff_eq.mp M.fn) (qfX (F.run _ X.stack _ _ ⟨Value.ref (s.heap.objs.size+1)::c,[]⟩ (Value.ref (s.heap.objs.size+1)::(c++ds)) _ _ E (w.make C c [])
  (I2.env0.make C c []) (hb _ (Value.ref (s.heap.objs.size+1)::c) I2.kIn B) y i) λr s' d=>?_))
 cases r with
 |error e=>exact j a g _ _ e s' I2 d
 |ok fl=>
  cases fl with
  |ret u=>
   obtain⟨v,H',I3,N,J,L⟩:=I2.after d;subst J;exact⟨N,⟨V.ref (s.heap.objs.size+1),H',I3,rfl,L⟩⟩
  |next=>exact qcs d
  |brk=>exact qcs d
  |cont=>exact qcs d
def Aj (M:Mk X.K C f) (F:ek X.prog X.w X.K X.mg X.base CX k f fd ps sp) (w:bC (k+1) X.A) (hg:Gl X x) (hm:X.mg x=some (.ref C)) (hb:aM X.K fd ps ds) (hd:aI b ds) (j:oa CX X E)
  (D:PA X (e::es) t) (l:(x==("__debug__" : Str))=false:=by decide) (A:qbt (e::es) X.env=(false,eval e X.env)::qbt es X.env:=by rfl) (n:(qeF pos (qbt es X.env)).any (·.1)=false:=by rfl) :
  PE X (.Call (.Name x p) (e::es) [] pos) (Ez C sp b E t):=by
 intro a s g H Q I h;refine qd6 (vo I hg hm ?_ l);refine qgz (h₀:=X.base) I.ok.mod.kin M.kp (thn (D pos a s g H _ I h) λc s1 ⟨vs,H1,I1,r,q⟩=>⟨I1.kIn,?_⟩) A n;exact yf M F w hb hd j I1 r q
end
section
variable {X:Cx}{CX:CXT}{k:Nat}{f C:Addr}{fd:qau}{ps ks:List Str}{sp:Sp}{E:XK}{x m:Str}{p pos b a:Pos}{e o:Expr}{es:List Expr}{c:List qh1}{te h:TE}{t d:TA}{nm:Option Str}
variable {g:List Value->List Value->List Value}{i:List V->List V->List V}
end
structure aw (N P:List Str) (sc:Scope):Prop where
 kind:sc.kind=.function
 co:sc.isCoroutine=false
 gen:sc.isGenerator=false
 nd:N.Nodup
 pre:N.take P.length=P
 par:∀ x∈P,sc.names.lookup x=some .local\/sc.names.lookup x=some .cell
 nofree:∀ y∈sc.names,y.2≠.free
def pT {kindOf:Str->Option qbQ}{x:Str}:∀ {binds:List (Str×Value)}{m:Str->Option Value},(∀ v,(x,v)∉binds)->bindL kindOf binds m x=m x
 |[],_,_=>rfl
 |(n,v)::r,m,h=>by
  unfold bindL;rw[pT λw hw=>h w (qal _ hw)];split
  ·have:x≠n:=by rintro rfl;exact h v qaf
   simp[this]
  ·rfl
def pL {kindOf:Str->Option qbQ}{x:Str}:∀ {binds:List (Str×Value)}{m:Str->Option Value},(∀ v,(x,v)∉binds)->bindC kindOf binds m x=m x
 |[],_,_=>rfl
 |(n,v)::r,m,h=>by
  unfold bindC;rw[pL λw hw=>h w (qal _ hw)];split
  ·rfl
  ·have:x≠n:=by rintro rfl;exact h v qaf
   simp[this]
def pB {kindOf:Str->Option qbQ}{x:Str}{v:Value}:∀ {P:List Str}{vs:List Value}{i:Nat}{m:Str->Option Value},P.Nodup->P[i]?=some x->vs[i]?=some v->kindOf x=some .local->
  bindL kindOf (P.zip vs) m x=some v
 |[],_,_,_,_,h,_,_=>by simp at h
 |_::_,[],_,_,_,_,h,_=>by simp at h
 |p::P,w::vs,0,m,nd,a,b,c=>by
  simp at a b;subst a;subst b
  show bindL kindOf ((p,w)::P.zip vs) m p=_;unfold bindL;rw[pT λv d=>(qce.mp nd).1 (qfK d).1,if_pos c]
  simp
 |p::P,w::vs,i+1,m,nd,a,b,c=>by
  show bindL kindOf ((p,w)::P.zip vs) m x=_;unfold bindL;exact pB (i:=i) (qce.mp nd).2 (by simpa using a) (by simpa using b) c
def pR {kindOf:Str->Option qbQ}{x:Str}{v:Value}:∀ {P:List Str}{vs:List Value}{i:Nat}{m:Str->Option Value},P.Nodup->P[i]?=some x->vs[i]?=some v->kindOf x≠some .local->
  bindC kindOf (P.zip vs) m x=some v
 |[],_,_,_,_,h,_,_=>by simp at h
 |_::_,[],_,_,_,_,h,_=>by simp at h
 |p::P,w::vs,0,m,nd,a,b,c=>by
  simp at a b;subst a;subst b
  show bindC kindOf ((p,w)::P.zip vs) m p=_;unfold bindC;rw[pL λv d=>(qce.mp nd).1 (qfK d).1,if_neg c]
  simp
 |p::P,w::vs,i+1,m,nd,a,b,c=>by
  show bindC kindOf ((p,w)::P.zip vs) m x=_;unfold bindC;exact pR (i:=i) (qce.mp nd).2 (by simpa using a) (by simpa using b) c
def ft (N:List Str) (vs:List V):St:=vs.map some++qaz (N.length - vs.length) none
def ir (CX:CXT) (P:qaQ) (w:World) (K:qae) (mg:Str->Option Value) (base:Heap) (N:List Str) (b:Str) (a:Scope) (f:Addr) (d:Value) (A:qa2) (outer:List Env) (s:qak) (H:Hp) (E:XK):Cx where
 prog:=P
 w:=w
 K:=K
 mg:=mg
 base:=base
 A:=A.deeper (qen b a s.heap.objs.size f d)
 N:=N
 s₀:=s
 H₀:=H
 env:=qen b a s.heap.objs.size f d
 outer:=outer
 stack:=qen b a s.heap.objs.size f d::outer
 ex:=[]
 calm:=true
 fn:=λ_=>true
 pn:=[]
 xe:=λe s'=>wpAny (model P w) (A.deeper (qen b a s.heap.objs.size f d)) (leaving (qen b a s.heap.objs.size f d) e) (λ_ c=>CX outer H s E e c) (λg c=>CX outer H s E g c) s'
def tN {a:Scope}{n:Nat}{x:Str} (h:a.names.lookup x=some .cell):∃ c,(qb1 n a.names []).lookup x=some c:=by
 have q:=qc9 a.names n [] (.inl h);exact qcq.mp q
def wO {CX:CXT}{P:qaQ}{w:World}{K:qae}{mg:Str->Option Value}{base:Heap}{N ps:List Str}{g:Str}{d:Scope}{f:Addr}{F:Value}{A:qa2}{outer:List Env}{s s1:qak}{H:Hp}{E:XK}{G:List Value}{vs:List V}
  (S:aw N ps d) (hd:A.handled=none) (l:uO P w K mg base A outer s H) (R:vs.length=ps.length) (r:aI vs G)
  (x:InCallC s s.heap.objs.size (bindL (qen g d s.heap.objs.size f F).kindOf (ps.zip G) λ_=>none) (qb1 (s.heap.objs.size+1) d.names []) (bindC (qen g d s.heap.objs.size f F).kindOf (ps.zip G) λ_=>none) s1) :
  Inv (ir CX P w K mg base N g d f F A outer s H E) [] (ft N vs) H s1:=by
 have M:ps.length<=N.length:=by have:=congrArg qgY S.pre;rw[qc0]at this;lia
 obtain⟨D,Q,rfl,J⟩:=x.done;have m:∀ b:Addr,b∉(ir CX P w K mg base N g d f F A outer s H E).ex:=λb z=>absurd (show b∈([]:List Addr) from z) (by simp)
 refine⟨⟨l.mod,S.kind,rfl,rfl,qar _,λy z c D j=>?_,λy o=>?_,λy c _ h=>?_,λ_=>hd,Around.frames_deeper l.frames,.inr ⟨rfl,rfl⟩,λb z=>absurd z (m b),l.bs,l.bsz,λb _ _=>m b,λb z=>absurd z (m b),l.funs,l.frf⟩,
  rfl,l.bare,Un.kept J,⟨_,x.toInCall.ns,λi y v D j T=>?_⟩,λy c h=>⟨_,x.cell y c h⟩,l.hok.fresh (qar _),λy c h=>?_,λp t=>absurd (show p∈([]:List (Addr×Obj)) from t) (by simp),l.hok.kept J,?_⟩
 ·exact name_of_addr x.apart (qbr D) (qbr j)
 ·have o:d.names.lookup y=some .cell\/d.names.lookup y=some .free:=o
  rcases o with o|o
  ·exact tN o
  ·exact absurd rfl (S.nofree _ (qbr o))
 ·exact qeB (x.above y c (qbr h))
 ·have C:i<vs.length:=by
   unfold ft at j;by_cases C:i<vs.length
   ·exact C
   ·rw[qaP (by simpa using C)]at j
    rw[qda]at j;split at j<;>cases j
  have O:vs[i]?=some v:=by
   unfold ft at j;rw[qaK (by simpa using C),qaD]at j;cases e:vs[i]? with
   |none=>rw[e]at j;cases j
   |some a=>rw[e]at j;cases j;rfl
  obtain⟨u,I,L⟩:=r.get O;have t:ps[i]?=some y:=by
   rw[<-S.pre,qd2 (by lia)];exact D
  have B:ps.Nodup:=by rw[<-S.pre];exact S.nd.sublist (List.take_sublist _ _)
  refine⟨u,L,?_⟩;rcases S.par y (qbT t) with k|k
  ·exact .inl ⟨k,pB B t I k⟩
  ·obtain⟨c,e⟩:=tN (n:=s.heap.objs.size+1) k
   refine .inr ⟨.inl k,c,e,?_⟩;have q:=x.cell y c e;rw[pR B t I (by show d.names.lookup y≠_;rw[k];decide)]at q;exact q
 ·exact l.hok.fresh (qeB (x.above y c (qbr h)))
 ·unfold ft
  show _=N.length;rw[qaB,qah,qcK];lia
def Ft {CX:CXT}{P:qaQ}{w:World}{K:qae}{mg:Str->Option Value}{base:Heap}{k:Nat}{f:Addr}{name c:Str}{g:Arguments}{body:List Stmt}{a:Scope}{O kV p L d ct R:Value}{M T:Option Addr}
  {D:Array (Option Value)}{N ps:List Str}{sp:Sp} (Y:K.lookup f=some ⟨R,T,.func (qdH name c g body a O kV p L M d ct),D⟩) (F:qfF K d c=true) (S:aw N ps a)
  (len:∀ vs H Q E,sp vs H Q E->vs.length=ps.length)
  (j:∀ (A:qa2) (outer:List Env) (s:qak) (H:Hp) (vs:List V) (Q:VK) (E:XK),bC k (A.deeper (qen c a s.heap.objs.size f d))->sp vs H Q E->
    ∃ t,PSs (ir CX P w K mg base N c a f d A outer s H E) body t/\t { nx:=λ_ H'=>Q .non H',rt:=Q } (ft N vs) H) :
  ek P w K mg base CX (k+1) f (qdH name c g body a O kV p L M d ct) ps sp:=by
 refine⟨len,λA outer s H args W vs Q E G m hb r z=>?_⟩;have hl:=len _ _ _ _ z;have KX:K.In s.heap:=m.mod.kin.keeps λb o e=>(m.bs b o e).1;have C:s.heap.NoLimit:=m.mod.nolimit.keeps λb o e=>(m.bs b o e).1;have i:∀ y∈ps.zip W,a.names.lookup y.1=some .local\/(a.names.lookup y.1=some .cell/\((qb1 (s.heap.objs.size+1) a.names []).lookup y.1).isSome=true):=λ⟨n,v⟩ X=>by
  rcases S.par n (qfK X).1 with q|q
  ·exact .inl q
  ·exact .inr ⟨q,qc9 _ _ _ (.inl q)⟩
 refine codeAny_call_function G.depth (KX _ _ Y) rfl S.co S.gen rfl (PySem.W.codeRec_of KX F) (hb _ _ _ _ ?_);refine wpAny_newFunctionEnv_cells S.kind i λenv he s1 x=>?_;subst he;refine⟨C.keeps x.toInCall.keep,codeAny_func ?_⟩;obtain⟨t,ht,hq⟩:=j A outer s H vs Q E (G.deeper _) z;have I:Inv (ir CX P w K mg base N c a f d A outer s H E) [] (ft N vs) H s1:=wO S G.hd m hl r x;refine qco (ht [] s1 (ft N vs) H _ I hq) (λfl s' l=>?_) λe s' l=>l;have fin:∀ {h:St}{H':Hp}{v:V}{u:Value},Inv (ir CX P w K mg base N c a f d A outer s H E) [] h H' s'->aQ v u->Q v H'->CE outer P w H s Q u s':=
  λ{h H' v u} J B q=>⟨v,H',J.os,J.bare,J.base,J.hok,B,q⟩
 cases fl with
 |ret u=>
  obtain⟨v,h,H',J,B,q⟩:=l;exact fin J B q
 |next=>
  obtain⟨h,H',J,q⟩:=l;exact fin (v:=V.non) (u:=Value.none) J rfl q
 |brk=>
  obtain⟨_,_,_,q⟩:=l;exact qcs q
 |cont=>
  obtain⟨_,_,_,q⟩:=l;exact qcs q
section
variable {X:Cx}{x:Str}{p pos:Pos}{e:Expr}{es:List Expr}{t:TA}{id T:String}{r:List V->Hp->VK->Prop}
def tCB (r:List V->Hp->VK->Prop) (t:TA):TE:=λd H Q=>t d H λvs H1=>r vs H1 Q
def nW (i:bY X (.builtin id) r) (hg:Gl X x) (hm:X.mg x=none) (l:qb9 x=some (.builtin id)) (k:PA X (e::es) t) (hn:x≠"__name__":=by decide) (b:(x==("__debug__" : Str))=false:=by decide)
  (g:qbt (e::es) X.env=(false,eval e X.env)::qbt es X.env:=by rfl) (c:(qeF pos (qbt es X.env)).any (·.1)=false:=by rfl):PE X (.Call (.Name x p) (e::es) [] pos) (tCB r t):=by
 intro a s d H Q I h;refine qd6 (jT I hg hm l ?_ hn b);exact qjq (thn (k pos a s d H _ I h) λj s1 ⟨vs,H1,I1,f,m⟩=>i a s1 d H1 vs j Q I1 f m) g c
def di (i:bY X (.type T) r) (hg:Gl X x) (hm:X.mg x=none) (l:qb9 x=some (.type T)) (k:PA X (e::es) t) (hn:x≠"__name__":=by decide) (b:(x==("__debug__" : Str))=false:=by decide)
  (g:qbt (e::es) X.env=(false,eval e X.env)::qbt es X.env:=by rfl) (c:(qeF pos (qbt es X.env)).any (·.1)=false:=by rfl):PE X (.Call (.Name x p) (e::es) [] pos) (tCB r t):=by
 intro a s d H Q I h;refine qd6 (jT I hg hm l ?_ hn b);exact qb8 (thn (k pos a s d H _ I h) λj s1 ⟨vs,H1,I1,f,m⟩=>i a s1 d H1 vs j Q I1 f m) g c
end
end L2
namespace HT
open PySem PyProof.Rows
def lexLt:List Int->List Int->Bool
 |[],[]=>false
 |[],_::_=>true
 |_::_,[]=>false
 |x::xs,y::a=>if x=y then lexLt xs a else decide (x<y)
def lexLt_cons (x y:Int) (xs a:List Int):lexLt (x::xs) (y::a)=if x=y then lexLt xs a else decide (x<y):=rfl
def oZ:lexLt [] []=false:=rfl
def mR (y:Int) (a:List Int):lexLt [] (y::a)=true:=rfl
def nK (x:Int) (xs:List Int):lexLt (x::xs) []=false:=rfl
def zT (A:qa2) (s:qak) (a:Int) (t:Tok) (c:Int) (u:Tok):∃ e,qdh A s (.int a t) (.int c u) e/\(e=true↔a=c):=
 ⟨(a==c),qf9 a t c u,by simp⟩
def zl (A:qa2) (s:qak) (a:Int) (t:Tok) (c:Int) (u:Tok) (prog:qaQ) (w:World) (E:Value->qak->Prop) (Q:Value->qak->Prop) (h:Q (.bool (decide (a<c))) s) :
  wpAny (model prog w) A (richCompare .Lt (.int a t) (.int c u)) Q E s:=
 (qd7 h:wpAny (model prog w) A (qbE .Lt (.int a t) (.int c u)) Q E s)
section
open PySem.SeqAt
open PySem.AutoSeq1 (wpAny_loadPart')
open PySem.MeetsSeq PySem.MeetsSeq2 PySem.MeetsSeq3
def oQ (l b:Addr) (i f:Array Value) (n X:Nat) (Q L:Option Addr) (V K:Array (Option Value)) (ns I:List Int) (N:qcm i.toList ns) (P:qcm f.toList I) :
  Meets (qeg.«tuple.__lt__» ⟨[.ref l,.ref b],[]⟩)
   (λ_ R s=>s.heap.get? l=some { cls:=.type "tuple",dict:=Q,data:=.seq i n,slots:=V }/\s.heap.get? b=some { cls:=.type "tuple",dict:=L,data:=.seq f X,slots:=K }/\
     R (.ok (.ret (.bool (lexLt ns I)))) s):=
 .of_wp λprog w A R s h=>by
  obtain⟨G,g,d,H,os⟩:=s;obtain⟨Y,hb,h⟩:=h;have f2:=qfI;have z1:i.size=ns.length:=by rw[<-N.length];simp
  have z2:f.size=I.length:=by rw[<-P.length];simp
  wp_walk using wpAny_loadPart' Y,wpAny_loadPart' hb,qiL _ (λv b s'=>b.1=none/\s'=⟨G,g,d,H,os⟩/\∃ (vs ws:List Value) (m k:List Int),v=vs.zip ws/\
   qcm vs m/\qcm ws k/\m.length+f.size=k.length+i.size/\R (.ok (.ret (.bool (lexLt m k)))) ⟨G,g,d,H,os⟩) _
  case turn=>
   rintro⟨y,x⟩ v b s' ⟨C,rfl,vs,ws,m,k,p,B,o,j,r⟩
   cases B with
   |nil=>rw[qhp]at p;cases p
   |cons a t F=>
    cases o with
    |nil=>rw[qhf]at p;cases p
    |cons c u E=>
     rw[qcD]at p;injection p with M D;injection M with T S;subst T S;rw[lexLt_cons]at r;simp only[qam]at j;obtain⟨e,W,z⟩:=zT A.in1 ⟨G,g,d,H,os⟩ a t c u;refine qab (W prog w _ _ ?_);cases e with
     |true=>
      rw[if_pos (z.mp rfl)]at r
      wp_walk
      exact⟨rfl,rfl,_,_,_,_,D,F,E,by lia,r⟩
     |false=>
      rw[if_neg (λq=>absurd (z.mpr q) qaC)]at r;have J:=zl A.in1 ⟨G,g,d,H,os⟩ a t c u prog w
      wp_walk using J
      exact⟨_,rfl,by simpa using r⟩
  case fin=>
   rintro⟨b1,b2⟩ s' ⟨C,rfl,vs,ws,m,k,p,B,o,j,r⟩
   simp only at C
   subst C;have O:lexLt m k=decide (i.size<f.size):=by
    cases B with
    |nil=>
     cases o with
     |nil=>
      simp only[qa6]at j;rw[oZ];exact (decide_eq_false (by lia)).symm
     |cons c u hw=>
      simp only[qa6,qam]at j;rw[mR];exact (decide_eq_true (by lia)).symm
    |cons a t O=>
     cases o with
     |nil=>
      simp only[qa6,qam]at j;rw[nK];exact (decide_eq_false (by lia)).symm
     |cons c u hw=>
      rw[qcD]at p;cases p
   rw[O]at r
   wp_walk
   exact⟨_,rfl,by simpa [qeo] using r⟩
  case h=>
   exact⟨rfl,rfl,i.toList,f.toList,ns,I,rfl,N,P,by lia,h⟩
end
section
variable {prog:qaQ}{w:World}{A:qa2}{E:Value->qak->Prop}{s:qak}
def lt_tupInts {l b:Addr}{a f:Array Value}{ns P:List Int}{Q:Value->qak->Prop} (hl:IsTup s.heap l a) (hb:IsTup s.heap b f) (c:qcm a.toList ns) (hj:qcm f.toList P)
  (hu:A.units<cLine) (h:Q (.bool (lexLt ns P)) s):wpAny (model prog w) A (qbE .Lt (.ref l) (.ref b)) Q E s:=by
 obtain⟨⟨cls,R,data,z⟩,H,L,n,hd⟩:=id hl;obtain⟨⟨M,D,data2,C⟩,r,u,T,B⟩:=id hb
 simp only at L hd u B
 subst L hd u B;exact qhl (op:=.Lt) ⟨_,H,rfl⟩ ⟨_,r,rfl⟩ qdi qd4 (qdX _ _) (oQ l b a f n T R D z C ns P c hj)
  ⟨H,r,show Value.bool (lexLt ns P)≠Value.notImplemented/\Q (.bool (lexLt ns P)) s from ⟨(λx=>nomatch x),h⟩⟩ hu
def cat_tup {t b:Addr}{vs ws:List Value}{Q:Value->qak->Prop} (J:IsTup s.heap t vs.toArray) (hb:IsTup s.heap b ws.toArray) (G:vs≠[])
  (N:ws=[]->Q (.ref t) s) (h2:ws≠[]->Q (.ref s.heap.objs.size) { s with heap:=s.heap.push { cls:=.type "tuple",data:=.seq (vs++ws).toArray } })
  (hsz:vs.length+ws.length<=qaO):wpAny (model prog w) A (qby .Add (.ref t) (.ref b)) Q E s:=by
 obtain⟨⟨cls,R,data,z⟩,H,L,n,hd⟩:=id J;obtain⟨⟨M,D,data2,C⟩,r,u,T,B⟩:=id hb
 simp only at L hd u B
 subst L hd u B;have e:vs.toArray++ws.toArray=(vs++ws).toArray:=by simp
 by_cases hw:ws=[]
 ·exact qhy ⟨_,H,rfl⟩ ⟨_,r,rfl⟩ qf6 qg7 qd3 qdW (qdQ _ _)
   (tuple_addW1 t b vs.toArray ws.toArray n T R D z C (by simpa using G) (by simp[hw])) ⟨H,r,N hw⟩
 ·refine qhy ⟨_,H,rfl⟩ ⟨_,r,rfl⟩ qf6 qg7 qd3 qdW (qdQ _ _)
   (tuple_addW2 t b vs.toArray ws.toArray n T R D z C (by simpa using G) (by simpa using hw) (by rw[qaG,qaG];exact hsz)) ⟨H,r,?_⟩
  rw[e];exact h2 hw
def sIx (n d:Nat):Option Int->Nat
 |none=>d
 |some v=>if v<0 then (v+(n:Int)).toNat else min v.toNat n
def sIx_none (n d:Nat):sIx n d none=d:=rfl
def sIx_nat (n d k:Nat):sIx n d (some (k:Int))=min k n:=by
 show (if (k:Int)<0 then ((k:Int)+(n:Int)).toNat else min (k:Int).toNat n)=min k n;rw[if_neg (by lia),qbg]
def DS (n d:Nat) (hd:d<=n) (o:Option Int):sIx n d o<=n:=by
 cases o with
 |none=>exact hd
 |some v=>
  show (if v<0 then (v+(n:Int)).toNat else min v.toNat n)<=n;by_cases G:v<0
  ·rw[if_pos G];lia
  ·rw[if_neg G];exact Nat.min_le_right _ _
def vG (v:Int) (n d:Nat):(if v<0 then max (v+(n:Int)) 0 else min v (n:Int))=((sIx n d (some v):Nat):Int):=by
 show (if v<0 then max (v+(n:Int)) 0 else min v (n:Int))=(((if v<0 then (v+(n:Int)).toNat else min v.toNat n):Nat):Int);by_cases G:v<0
 ·simp only[if_pos G];lia
 ·simp only[if_neg G];lia
def uS (lo c:Option Int) (n:Nat):qdB lo c 1 (n:Int)=(((sIx n 0 lo:Nat):Int),((sIx n n c:Nat):Int)):=by
 have N:¬ ((1:Int)<0):=by lia
 unfold qdB;simp only[N,if_false];refine Prod.ext ?_ ?_
 ·cases lo with
  |none=>rfl
  |some v=>exact vG v n 0
 ·cases c with
  |none=>rfl
  |some v=>exact vG v n n
def uq (i j:Nat):qcE (i:Int) (j:Int) 1=j - i:=by
 unfold qcE;have N:(1:Int) > 0:=by lia
 simp only[N,if_true,Int.ediv_one];split<;>lia
def nH {v:Value}{o:Option Int}{Q:Option Int->qak->Prop} (p:qf3 v o) (h:Q o s):wpAny (model prog w) A (qiF v) Q E s:=by
 cases p with
 |none=>exact qj1 h
 |int i t=>exact slicePart_int h
def gg {z:Addr}{K I:Value}{lo c:Option Int}{n:Nat}{Q:Int×Int×Nat->qak->Prop} (S:s.heap.IsSliceOf z K I .none) (Y:qf3 K lo) (W:qf3 I c)
  (h:Q (((sIx n 0 lo:Nat):Int),1,sIx n n c - sIx n 0 lo) s):wpAny (model prog w) A (qeP (.ref z) (pure (n:Int))) Q E s:=by
 obtain⟨os,y,O,F⟩:=id S;unfold qeP qiG;refine qab (qab (qb5 y F (x:=K) rfl (qab (qb5 y F (x:=I) rfl (qab (qb5 y F (x:=.none) rfl (qan ?_)))))));refine qab (qj1 ?_);show wpAny _ _ (if ((1:Int)==0)=true then _ else _) _ _ s;rw[if_neg (by decide)];refine qab (nH Y (qab (nH W (qab (qan ?_)))));show wpAny _ _ (match qdB lo c 1 (n:Int) with|(lo,c)=>pure (lo,(1:Int),qcE lo c 1)) _ _ s
 rw[uS lo c n];show wpAny _ _ (pure (((sIx n 0 lo:Nat):Int),(1:Int),qcE ((sIx n 0 lo:Nat):Int) ((sIx n n c:Nat):Int) 1)) _ _ s;rw[uq];exact qan h
def yw (xs:Array Value) (i k:Nat):((qag k).filterMap λ(m:Nat)=>xs[((i:Int)+(m:Int)*1).toNat]?).toArray=((xs.toList.drop i).take k).toArray:=by
 have e:(λ(m:Nat)=>xs[((i:Int)+(m:Int)*1).toNat]?)=λm=>xs[i+m]?:=by
  funext m
  have:((i:Int)+(m:Int)*1).toNat=i+m:=by lia
  rw[this]
 rw[e]
 have:=pick_run xs i k
 rw[List.filterMap_map]at this;have e2:((λx=>xs[x]?) ∘ λx=>i+x)=λm=>xs[i+m]?:=rfl;rw[e2]at this;rw[this]
def getItem_tuple_cut {t z:Addr}{a:Array Value}{K I:Value}{lo c:Option Int}{Q:Value->qak->Prop} (J:IsTup s.heap t a) (S:s.heap.IsSliceOf z K I .none) (Y:qf3 K lo) (W:qf3 I c)
  (hw:¬ (sIx a.size 0 lo=0/\sIx a.size a.size c=a.size))
  (h:Q (.ref s.heap.objs.size) { s with heap:=s.heap.push { cls:=.type "tuple",data:=.seq ((a.toList.drop (sIx a.size 0 lo)).take (sIx a.size a.size c - sIx a.size 0 lo)).toArray } })
  (hsz:a.size<=qaO):wpAny (model prog w) A (qeV (.ref t) (.ref z)) Q E s:=by
 have g:sizeOk (.seq ((a.toList.drop (sIx a.size 0 lo)).take (sIx a.size a.size c - sIx a.size 0 lo)).toArray):=by
  show ((a.toList.drop (sIx a.size 0 lo)).take (sIx a.size a.size c - sIx a.size 0 lo)).toArray.size<=qaO;rw[qaG,qc0,qeb,qbs];lia
 have hj:sIx a.size a.size c<=a.size:=DS _ _ (qar _) c;obtain⟨os,y,O,F⟩:=id S;have X:s.TypeIs (.ref z) "slice":=⟨os,y,O⟩
 unfold qeV
 try with_reducible refine qcr ?_
 first|refine qab (qan ?_)|skip
 refine qab (qio J.typeIs (by decide) ?_)
 refine qab (qbG (name:=qc7 "__getitem__") J.typeIs qbB
  (qbN qbB J.typeIs qhX ?_ (qic _ _)))
 show wpAny _ _ (qeO (.ref t) >>= _) _ _ s;refine qab (tupleItemsOf_ J ?_);refine qab (qhv X ?_);rw[if_pos (by decide)];refine qab (gg S Y W ?_);have V:¬ ((((sIx a.size 0 lo:Nat):Int)==0&&(1:Int)==1&&(sIx a.size a.size c - sIx a.size 0 lo)==a.size)=true):=by
  intro q;rw[qbb,qbb]at q;have q1:((sIx a.size 0 lo:Nat):Int)=0:=eq_of_beq q.1.1;have q2:sIx a.size a.size c - sIx a.size 0 lo=a.size:=eq_of_beq q.2;exact hw ⟨by lia,by lia⟩
 show wpAny _ _ (if (((sIx a.size 0 lo:Nat):Int)==0&&(1:Int)==1&&(sIx a.size a.size c - sIx a.size 0 lo)==a.size)=true then _ else _) _ _ s;rw[if_neg V,yw]
 first
  |exact qab (m:=qcL _) (qbF (qan ⟨_,rfl,qan h⟩) g)
  |exact qab (m:=qcL _) (qbF (qab (qan (qan ⟨_,rfl,qan h⟩))) g)
  |exact qab (qab (m:=qcL _) (qbF (qan (qan ⟨_,rfl,qan h⟩)) g))
  |exact qab (qab (m:=qcL _) (qbF (qan ⟨_,rfl,qan h⟩) g))
end
end HT
namespace L2
open PySem PySem.Spec PyProof.Rows
abbrev TO:=St->Hp->(Option Int->Hp->Prop)->Prop
def PO (X:Cx) (e:Option Expr) (t:TO):Prop:=
 ∀ (a:List (Addr×Obj)) (s:qak) (b:St) (H:Hp) (Q:Option Int->Hp->Prop),Inv X a b H s->t b H Q->
  wpAny (model X.prog X.w) X.A (evalPart e X.env) (λu s'=>∃ o H',Inv X a b H' s'/\qf3 u o/\Q o H') X.xe s
def AZ:TO:=λ_ H Q=>Q none H
def Fs (t:TE):TO:=λa H Q=>t a H λx H1=>∃ i,x=.int i/\Q (some i) H1
def eE {ns:List Int}:∀ {a:List Value},aI (ns.map V.int) a->qcm a ns:=by
 induction ns with
 |nil=>intro a r;rw[qbl]at r;cases r;exact .nil
 |cons n ns d=>
  intro a r;rw[qaq]at r;cases r with
  |cons b c=>
   obtain⟨t,e⟩:=b;subst e;exact .cons n t (d c)
section
variable {X:Cx}{e:Expr}{te:TE}{lo f:Option Expr}{tl L:TO}{pos D:Pos}
def Bu:PO X none AZ:=by
 intro c s d H Q I h;rw[evalPart_none];exact qan ⟨none,H,I,.none,h⟩
def Bj (h:PE X e te):PO X (some e) (Fs te):=by
 intro c s d H Q I hw;rw[evalPart_some];refine thn (h c s d H _ I hw) λu s1 ⟨x,H1,I1,k,F⟩=>?_;obtain⟨i,rfl,q⟩:=F;obtain⟨t,rfl⟩:=k;exact⟨some i,H1,I1,.int i t,q⟩
def SlR (X:Cx) (r:V->Option Int->Option Int->Hp->VK->Prop):Prop:=
 ∀ (c:List (Addr×Obj)) (s:qak) (d:St) (H:Hp) (x:V) (v n m:Value) (lo f:Option Int) (P:Addr) (Q:VK),Inv X c d H s->aQ x v->s.heap.IsSliceOf P n m .none->qf3 n lo->qf3 m f->r x lo f H Q->
  ∃ T id,typeLookup (.type T) "__getitem__" = pure (some (.builtin id))/\s.TypeIs v T/\wpAny (model X.prog X.w) X.A (qeV v (.ref P)) (EP X c d Q) X.xe s
def tSl (r:V->Option Int->Option Int->Hp->VK->Prop) (te:TE) (tl L:TO):TE:=λd H Q=>te d H λx H1=>tl d H1 λl H2=>L d H2 λu H3=>r x l u H3 Q
def sS {r:V->Option Int->Option Int->Hp->VK->Prop} (hr:SlR X r) (he:PE X e te) (hl:PO X lo tl) (O:PO X f L):PE X (.Subscript e (.Slice lo f none D) pos) (tSl r te tl L):=by
 intro c s d H Q I h;refine qiw (thn (he c s d H _ I h) λv s1 ⟨x,H1,I1,k,F⟩=>?_);refine wpAny_Slice (thn (hl c s1 d H1 _ I1 F) λn s2 ⟨l,H2,I2,pl,S⟩=>thn (O c s2 d H2 _ I2 S) λm j ⟨u,H3,I3,R,q3⟩=>?_);rw[evalPart_none];refine qan ?_;have I4:Inv X c d H3 { j with heap:=j.heap.push { cls:=.type "slice",data:=.fields #[n,m,.none] } }:=I3.kept (t':=j.toks) λb ob q=>qaj _ q
 obtain⟨T,id,hT,M,hg⟩:=hr c { j with heap:=j.heap.push { cls:=.type "slice",data:=.fields #[n,m,.none] } } d H3 x v n m l u j.heap.objs.size Q I4 k (qih ..) pl R q3
 show wpAny (model X.prog X.w) X.A (qg6 e (.Slice lo f none D) v (.ref j.heap.objs.size)) (EP X c d Q) X.xe { j with heap:=j.heap.push { cls:=.type "slice",data:=.fields #[n,m,.none] } }
 exact tail_any (ops:=[.ref j.heap.objs.size,v]) M hT hg (by with_unfolding_all rfl)
def qD (xs:List V) (lo f:Option Int):List V:=(xs.drop (HT.sIx xs.length 0 lo)).take (HT.sIx xs.length xs.length f - HT.sIx xs.length 0 lo)
def lS (xs:List V) (lo f:Option Int):(qD xs lo f).length<=xs.length:=by
 unfold qD;rw[qc0,qeb];lia
def GL (K:qae):V->Option Int->Option Int->Hp->VK->Prop:=λx lo f H Q=>∃ a xs,x=.ref a/\SqT K H a xs/\
 ¬ (HT.sIx xs.length 0 lo=0/\HT.sIx xs.length xs.length f=xs.length)/\∀ p,H p=none->Q (.ref p) (upd H p (.tup (qD xs lo f)))
def Ej:SlR X (GL X.K):=by
 intro c s d H x v n m lo f P Q I E hs pl R h;obtain⟨a,xs,rfl,N,hw,q⟩:=h;cases E;obtain⟨its,r,M,G⟩:=I.tuple N;have g:its.toArray.size=xs.length:=by rw[qaG];exact r.length.symm
 refine⟨"tuple",_,qbB.lookup,M.typeIs,?_⟩
 refine HT.getItem_tuple_cut M hs pl R (by rw[g];exact hw) ?_ (by rw[g];exact G);rw[g];refine⟨.ref s.heap.objs.size,_,I.laid (t':=s.toks) (o:=.tup (qD xs lo f)) (λb ob q=>qaj _ q) (qar _) ?_,rfl,q _ (I.hok.fresh (qar _))⟩;exact⟨qa3 (lS xs lo f) G,_,(r.drop (HT.sIx xs.length 0 lo)).take (HT.sIx xs.length xs.length f - HT.sIx xs.length 0 lo),cW.new _ _⟩
def Gu (K:qae):R2:=λx y H Q=>∃ a b ns J,x=.ref a/\y=.ref b/\SqT K H a (ns.map V.int)/\SqT K H b (J.map V.int)/\Q (.bl (HT.lexLt ns J)) H
def DH (O:X.A.units<cLine):OpR X (qbE .Lt) (Gu X.K):=by
 intro c s d H x y v u Q I E W h;obtain⟨a,b,ns,J,rfl,rfl,Y,hb,q⟩:=h;cases E;cases W;obtain⟨its,k,p1,_⟩:=I.tuple Y;obtain⟨A,C,D,_⟩:=I.tuple hb;have i1:qcm its.toArray.toList ns:=eE k;have i2:qcm A.toArray.toList J:=eE C;exact HT.lt_tupInts p1 D i1 i2 O ⟨.bl (HT.lexLt ns J),H,I,rfl,q⟩
def EY (K:qae):R2:=λx y H Q=>∃ a b xs B,x=.ref a/\y=.ref b/\SqT K H a xs/\SqT K H b B/\xs≠[]/\xs.length+B.length<=qaO/\
 (B=[]->Q (.ref a) H)/\(B≠[]->∀ p,H p=none->Q (.ref p) (upd H p (.tup (xs++B))))
def aI.nil_iff {xs:List V}{us:List Value} (r:aI xs us):us=[]↔xs=[]:=by
 cases r with
 |nil=>simp
 |cons _ _=>simp
def Aq:OpR X (qby .Add) (EY X.K):=by
 intro c s d H x y v u Q I E W h;obtain⟨a,b,xs,B,rfl,rfl,Y,hb,N,G,F,S⟩:=h;cases E;cases W;obtain⟨its,k,p1,_⟩:=I.tuple Y;obtain⟨A,C,D,_⟩:=I.tuple hb;refine HT.cat_tup p1 D (λz=>N (k.nil_iff.mp z)) (λz=>⟨.ref a,H,I,rfl,F (C.nil_iff.mp z)⟩) (λz=>?_) (by rw[<-k.length,<-C.length];exact G);refine⟨.ref s.heap.objs.size,_,I.laid (t':=s.toks) (o:=.tup (xs++B)) (λb ob q=>qaj _ q) (qar _) ?_,rfl,S (λw=>z (C.nil_iff.mpr w)) _ (I.hok.fresh (qar _))⟩;exact⟨by rw[qaB];exact G,_,k.append C,cW.new _ _⟩
end
def ixN (n:Nat) (i:Int):Option Nat:=if 0<=i then (if i<n then some i.toNat else none) else if -(n:Int)<=i then some (i+n).toNat else none
def atI {α:Type} (xs:List α) (i:Int):Option α:=(ixN xs.length i).bind λj=>xs[j]?
def qO {n:Nat}{i:Int}{j:Nat} (h:ixN n i=some j):seqIndex? i n=some j/\j<n/\-(n:Int)<=i/\i<n:=by
 unfold ixN at h;by_cases b:0<=i
 ·rw[if_pos b]at h
  by_cases a:i<n
  ·rw[if_pos a]at h
   have e:i.toNat=j:=qaV h;exact⟨by rw[qhT b a,e],by lia,by lia,a⟩
  ·rw[if_neg a]at h;cases h
 ·rw[if_neg b]at h
  by_cases a:-(n:Int)<=i
  ·rw[if_pos a]at h
   have e:(i+n).toNat=j:=qaV h;exact⟨by rw[qhx (by lia) a,e],by lia,a,by lia⟩
  ·rw[if_neg a]at h;cases h
def q9 {α:Type}{xs:List α}{i:Int}{v:α} (h:atI xs i=some v):∃ j,seqIndex? i xs.length=some j/\xs[j]?=some v/\j<xs.length/\-(xs.length:Int)<=i/\i<xs.length:=by
 unfold atI at h;cases e:ixN xs.length i with
 |none=>rw[e]at h;cases h
 |some j=>
  rw[e]at h;obtain⟨d,c,b,a⟩:=qO e;exact⟨j,d,h,c,b,a⟩
def bW {α:Type}{xs:List α}{j:Nat}{v:α} (h:xs[j]?=some v):atI xs (j:Int)=some v:=by
 have a:j<xs.length:=(qas.mp h).1;have e:ixN xs.length (j:Int)=some j:=by
  unfold ixN;rw[if_pos (by lia),if_pos (by lia)];simp
 unfold atI;rw[e];exact h
def yS {α:Type} (xs:List α) (v:α):atI (xs++[v]) (-1)=some v:=by
 have a:(xs++[v]).length=xs.length+1:=by simp
 have e:ixN (xs++[v]).length (-1)=some xs.length:=by
  unfold ixN;rw[a,if_neg (by decide),if_pos (by lia)]
  congr 1
  lia
 unfold atI;rw[e];show (xs++[v])[xs.length]?=some v
 simp
def vO (b:Expr):Prop:=∀ o i,qgn b false o i=operate [o,i] (qeV o i)
def IxR (X:Cx) (r:R2):Prop:=
 ∀ (c a:Expr) (b:List (Addr×Obj)) (s:qak) (d:St) (H:Hp) (x y:V) (v u:Value) (Q:VK),Inv X b d H s->aQ x v->aQ y u->r x y H Q->
  qgn a false v u=operate [v,u] (qeV v u)->wpAny (model X.prog X.w) X.A (qg6 c a v u) (EP X b d Q) X.xe s
def MtR (X:Cx) (id:String) (r:V->List V->Hp->VK->Prop):Prop:=
 ∀ (a:List (Addr×Obj)) (s:qak) (c:St) (H:Hp) (x:V) (xs:List V) (v:Value) (b:List Value) (Q:VK),Inv X a c H s->aQ x v->aI xs b->r x xs H Q->
  wpAny (model X.prog X.w) X.A (call (.builtin id) (v::b)) (EP X a c Q) X.xe s
section
variable {X:Cx}{a b:Expr}{ta tb:TE}{pos:Pos}
def IxR.or {r M:R2} (h:IxR X r) (h':IxR X M):IxR X (λx y H Q=>r x y H Q\/M x y H Q):=by
 intro J G d s m H x y v u Q I g O q R;rcases q with q|q
 ·exact h J G d s m H x y v u Q I g O q R
 ·exact h' J G d s m H x y v u Q I g O q R
def BT {r:R2} (hr:IxR X r) (ha:PE X a ta) (hb:PE X b tb) (R:vO b):PE X (.Subscript a b pos) (tOp r ta tb):=by
 intro d s m H Q I h;exact qiw (Dp ha hb I h λv u s2 x y H2 I2 g O q=>hr a b d s2 m H2 x y v u Q I2 g O q (R _ _))
def FQ (K:qae):R2:=λx y H Q=>∃ p xs i v,x=.ref p/\y=.int i/\SqL K H p xs/\atI xs i=some v/\Q v H
def Fq (K:qae):R2:=λx y H Q=>∃ p xs i v,x=.ref p/\y=.int i/\SqT K H p xs/\atI xs i=some v/\Q v H
def EH:R2:=λx y H Q=>∃ z i c,x=.str z/\y=.int i/\z.length<=qaO/\atI z.cps.toList i=some c/\Q (.str ⟨#[c]⟩) H
def AL:IxR X (FQ X.K):=by
 intro J G d s m H x y v u Q I g O h R;obtain⟨p,xs,i,z,rfl,rfl,B,he,q⟩:=h;cases g;obtain⟨t,rfl⟩:=O;obtain⟨its,r,C,L⟩:=I.list B;obtain⟨j,N,h2,h3,h4,h5⟩:=q9 he;obtain⟨w,ew,rw'⟩:=r.get h2;have hl:=r.length;have hn:=jL;have fin:EP X d m Q w s:=⟨z,H,I,rw',q⟩;by_cases h0:0<=i
 ·have hj:i.toNat=j:=by
   rw[qhT h0 h5]at N;exact qaV N
  exact item_listR C.isList h0 (by lia) (by rw[hj];simpa using ew) fin R
 ·have hj:(i+(its.toArray.size:Int)).toNat=j:=by
   rw[qhx (by lia) h4]at N;rw[qaG,<-hl];exact qaV N
  exact qhk (x:=w) C.isList.typeIs qis.lookup
   (wpAny_getItem_list_neg (Q:=λr s'=>r=w/\EP X d m Q r s') C.isList (by lia) (by rw[qaG]<;>lia) (by lia) (by rw[hj];simpa using ew) ⟨rfl,fin⟩) R
def Ea:IxR X (Fq X.K):=by
 intro J G d s m H x y v u Q I g O h R;obtain⟨p,xs,i,z,rfl,rfl,B,he,q⟩:=h;cases g;obtain⟨t,rfl⟩:=O;obtain⟨its,r,C,L⟩:=I.tuple B;obtain⟨j,N,h2,h3,h4,h5⟩:=q9 he;obtain⟨w,ew,rw'⟩:=r.get h2;have hl:=r.length;have hn:=jL;have fin:EP X d m Q w s:=⟨z,H,I,rw',q⟩;exact qhk (x:=w) C.typeIs slot_tuple_getitem.lookup
  (getItem_tuple (j:=j) (Q:=λr s'=>r=w/\EP X d m Q r s') C (by lia) (by lia) (by rw[qaG,<-hl];exact N) (by simpa using ew) ⟨rfl,fin⟩) R
def Em:IxR X EH:=by
 intro J G d s m H x y v u Q I g O h R;obtain⟨z,i,c,rfl,rfl,L,he,q⟩:=h;obtain⟨t,rfl⟩:=g;obtain⟨t',rfl⟩:=O;obtain⟨j,N,h2,h3,h4,h5⟩:=q9 he;have hl:z.cps.toList.length=z.length:=by simp[Str.length]
 rw[hl]at N h4 h5;have hn:=jL
 exact tail_any (typeIs_str s z t) slot_str_getitem.lookup (getItem_str (c:=c) (by
  have e1:decide (i < -(2^63:Int))=false:=decide_eq_false (by lia);have e2:decide (i>=2^63)=false:=decide_eq_false (by lia)
  rw[e1,e2,Bool.or_false]) (by rw[N];simpa using h2) ⟨.str ⟨#[c]⟩,H,I.tok _,⟨_,rfl⟩,q⟩) R
def rIx (K:qae):R2:=λx y H Q=>FQ K x y H Q\/Fq K x y H Q\/EH x y H Q
def uM:IxR X (rIx X.K):=AL.or (Ea.or Em)
def tZ (its:List Value) (n j:Nat) (u:Value):qbY (·.setIfInBounds j u) { cls:=.type "list",data:=.seq its.toArray n }={ cls:=.type "list",data:=.seq (its.set j u).toArray n }:=by
 simp[qbY]
def Inv.lst {d:List (Addr×Obj)}{m:St}{H:Hp}{s:qak}{p:Addr}{xs:List V} (I:Inv X d m H s) (h:H p=some (.lst xs)) :
  ∃ (its:List Value) (n:Nat),aI xs its/\s.heap.get? p=some { cls:=.type "list",data:=.seq its.toArray n }/\xs.length<=qaO:=by
 obtain⟨z,its,n,r,e⟩:=I.hok p _ h;exact⟨its,n,r,e,z⟩
def Inv.lstUpd {d:List (Addr×Obj)}{m:St}{H:Hp}{s:qak}{p:Addr}{xs E:List V}{its its':List Value}{n n':Nat}{f:Obj->Obj} (I:Inv X d m H s) (h:H p=some (.lst xs))
  (ho:s.heap.get? p=some { cls:=.type "list",data:=.seq its.toArray n }) (hf:f { cls:=.type "list",data:=.seq its.toArray n }={ cls:=.type "list",data:=.seq its'.toArray n' }) (r:aI E its') (L:E.length<=qaO) (t:Nat) :
  Inv X d m (upd H p (.lst E)) { s with heap:=s.heap.update p f,toks:=t }:=by
 have e:(s.heap.update p f).get? p=some { cls:=.type "list",data:=.seq its'.toArray n' }:=by
  rw[qet f ho (by rw[hf]<;>rfl),hf]
 refine I.write (x:=p) (e:=p) (by rw[h];trivial) (.inl rfl) (λb u hb q=>(qdl _ _ (qbC hb)).trans q) ⟨_,e⟩ ?_;exact⟨L,its',n',r,e⟩
def Gc:V->V->V->Hp->(Hp->Prop)->Prop:=λo i v H Q=>∃ p xs k j,o=.ref p/\i=.int k/\H p=some (.lst xs)/\ixN xs.length k=some j/\Q (upd H p (.lst (xs.set j v)))
def nw:FU X Gc:=by
 intro d s m H o i v ov iv u Q I ro ri rv h;obtain⟨p,xs,k,j,rfl,rfl,hp,hj,q⟩:=h;cases ro;obtain⟨t,rfl⟩:=ri;obtain⟨its,n,r,ho,L⟩:=I.lst hp;obtain⟨N,h2,h3,h4⟩:=qO hj;have hl:=r.length;have hn:=jL;have I':Inv X d m (upd H p (.lst (xs.set j v))) { s with heap:=s.heap.update p (qbY (·.setIfInBounds j u)) }:=
  I.lstUpd hp ho (tZ its n j u) (r.set rv j) (by rw[qb2];exact L) s.toks
 by_cases h0:0<=k
 ·have Y:k.toNat=j:=by
   rw[qhT h0 h4]at N;exact qaV N
  exact PySem.W.ki_setAt ho h0 (by lia) (by rw[qaG,<-hl];exact h4) (by rw[Y];exact⟨_,I',q⟩)
 ·have Y:(k+(its.toArray.size:Int)).toNat=j:=by
   rw[qhx (by lia) h3]at N;rw[qaG,<-hl];exact qaV N
  exact PySem.W.ki_setBack ho (by lia) (by rw[qaG,<-hl];exact h3) (by lia) (by rw[Y];exact⟨_,I',q⟩)
def qH (lo P:Option Int) (n:Nat):(qdV lo P none n).1=((HT.sIx n 0 lo:Nat):Int)/\(qdV lo P none n).2.1=((HT.sIx n n P:Nat):Int)/\(qdV lo P none n).2.2=1:=by
 refine⟨?_,?_,rfl⟩
 ·cases lo with
  |none=>simp[qdV,HT.sIx]
  |some i=>
   simp only[qdV,HT.sIx,qhc,show (1:Int) > 0 by decide,if_true];by_cases h:i<0
   ·simp only[h,if_true]<;>lia
   ·simp only[h,if_false]<;>lia
 ·cases P with
  |none=>simp[qdV,HT.sIx]
  |some i=>
   simp only[qdV,HT.sIx,qhc,show (1:Int) > 0 by decide,if_true];by_cases h:i<0
   ·simp only[h,if_true]<;>lia
   ·simp only[h,if_false]<;>lia
def ph (its:List Value) (lo P:Option Int):slicePick its.toArray lo P none=((its.drop (HT.sIx its.length 0 lo)).take (HT.sIx its.length its.length P - HT.sIx its.length 0 lo)).toArray:=by
 obtain⟨N,h2,h3⟩:=qH lo P its.toArray.size;unfold slicePick;rw[N,h2,h3];simp only[sliceRange_one,pick_run,qaG]<;>rfl
def GD (K:qae):V->Option Int->Option Int->Hp->VK->Prop:=λx lo P H Q=>∃ a xs,x=.ref a/\SqL K H a xs/\∀ p,H p=none->Q (.ref p) (upd H p (.lst (qD xs lo P)))
def An:SlR X (GD X.K):=by
 intro d s m H x v vl vu lo P sl Q I g R C pu h;obtain⟨a,xs,rfl,hx,q⟩:=h;cases g;obtain⟨its,r,ht,L⟩:=I.list hx;have D:=r.length;refine⟨"list",_,qis.lookup,ht.isList.typeIs,?_⟩
 refine wpAny_getItem_list_slice ht.isList R C pu .none (by simp) ?_ (by rw[qaG]<;>lia);rw[ph,<-D];refine⟨.ref s.heap.objs.size,_,I.laid (t':=s.toks) (o:=.lst (qD xs lo P)) (λb ob q=>qaj _ q) (qar _) ?_,rfl,q _ (I.hok.fresh (qar _))⟩;exact⟨qa3 (lS xs lo P) L,_,0,(r.drop (HT.sIx xs.length 0 lo)).take (HT.sIx xs.length xs.length P - HT.sIx xs.length 0 lo),qav _ rfl⟩
def fI:V->Bool
 |.non=>true
 |.bl _=>true
 |.int _=>true
 |.str _=>true
 |_=>false
def eqV:V->V->Bool
 |.non,.non=>true
 |.bl a,.bl b=>a==b
 |.bl a,.int b=>(if a then 1 else 0)==b
 |.int a,.bl b=>a==(if b then 1 else 0)
 |.int a,.int b=>a==b
 |.str a,.str b=>a==b
 |_,_=>false
def vd {A:qa2}{s:qak}{y x:V}{u v:Value} (O:aQ y u) (g:aQ x v) (fy:fI y=true) (fx:fI x=true):qdh A s u v (eqV y x):=by
 cases y with
 |non=>
  cases O;cases x with
  |non=>cases g;exact qe2 _
  |bl b=>cases g;exact qkT b
  |int b=>obtain⟨t,rfl⟩:=g;exact qkS b t
  |str b=>obtain⟨t,rfl⟩:=g;exact qkQ b t
  |_=>exact absurd (show false=true from fx) qaC
 |bl a=>
  cases O;cases x with
  |non=>cases g;exact qk5 a
  |bl b=>cases g;exact qk8 a b
  |int b=>obtain⟨t,rfl⟩:=g;exact qk7 a b t
  |str b=>obtain⟨t,rfl⟩:=g;exact qk4 a b t
  |_=>exact absurd (show false=true from fx) qaC
 |int a=>
  obtain⟨t',rfl⟩:=O;cases x with
  |non=>cases g;exact qk0 a t'
  |bl b=>cases g;exact qk2 a t' b
  |int b=>obtain⟨t,rfl⟩:=g;exact qf9 a t' b t
  |str b=>obtain⟨t,rfl⟩:=g;exact qf8 a t' b t
  |_=>exact absurd (show false=true from fx) qaC
 |str a=>
  obtain⟨t',rfl⟩:=O;cases x with
  |non=>cases g;exact qkM a t'
  |bl b=>cases g;exact qkO a t' b
  |int b=>obtain⟨t,rfl⟩:=g;exact qf7 a t' b t
  |str b=>obtain⟨t,rfl⟩:=g;exact qkL a t' b t
  |_=>exact absurd (show false=true from fx) qaC
 |_=>exact absurd (show false=true from fy) qaC
def eqU (x:V) (u:Value):Bool:=match u with
 |.none=>eqV .non x
 |.bool b=>eqV (.bl b) x
 |.int i _=>eqV (.int i) x
 |.str z _=>eqV (.str z) x
 |_=>false
def zc {x y:V}{u:Value} (r:aQ y u) (f:fI y=true):eqU x u=eqV y x:=by
 cases y with
 |non=>cases r;rfl
 |bl b=>cases r;rfl
 |int i=>obtain⟨t,rfl⟩:=r;rfl
 |str z=>obtain⟨t,rfl⟩:=r;rfl
 |_=>exact absurd (show false=true from f) qaC
def qo {x:V}:∀ {xs:List V}{W:List Value},aI xs W->xs.all fI=true->W.any (eqU x)=xs.any λy=>eqV y x
 |_,_,.nil,_=>rfl
 |y::xs,u::W,.cons r t,f=>by
  rw[qbz,qbb]at f;rw[qbZ,qbZ,zc r f.1,qo t f.2]
def ni {A:qa2}{s:qak}{x:V}{v:Value} (g:aQ x v) (fx:fI x=true):∀ {xs:List V}{W:List Value},aI xs W->xs.all fI=true->∀ u∈W,qdh A s u v (eqU x u)
 |_,_,.nil,_=>λu hu=>by cases hu
 |y::xs,u::W,.cons r t,f=>λu' hu=>by
  rw[qbz,qbb]at f;rcases qaH.mp hu with rfl|hu
  ·rw[zc r f.1];exact vd r g f.1 fx
  ·exact ni g fx t f.2 u' hu
def inV (x:V) (xs:List V):Bool:=xs.any λy=>eqV y x
def rIn (K:qae) (neg:Bool):R2:=λx y H Q=>∃ p xs,y=.ref p/\(SqL K H p xs\/SqT K H p xs)/\fI x=true/\xs.all fI=true/\Q (.bl (if neg then !inV x xs else inV x xs)) H
def xN:OpR X (qbE .In) (rIn X.K false):=by
 intro d s m H x y v u Q I g O h;obtain⟨p,xs,rfl,B,fx,fs,q⟩:=h;cases O;rcases B with B|B
 ·obtain⟨its,r,C,L⟩:=I.list B
  refine SeqAt.in_listAt (eqU x) C.isList (λw hw=>ni g fx r fs w (by simpa using hw)) ⟨.bl _,H,I,rfl,?_⟩;rw[show its.toArray.any (eqU x)=its.any (eqU x) by simp,qo r fs];exact q
 ·obtain⟨its,r,C,L⟩:=I.tuple B
  refine SeqAt.in_tupleAt (eqU x) C (λw hw=>ni g fx r fs w (by simpa using hw)) ⟨.bl _,H,I,rfl,?_⟩;rw[show its.toArray.any (eqU x)=its.any (eqU x) by simp,qo r fs];exact q
def qr:bY X (.builtin "len") (λxs H Q=>∃ p E,xs=[.ref p]/\(SqL X.K H p E\/SqT X.K H p E)/\Q (.int E.length) H):=by
 intro d s m H xs W Q I r h;obtain⟨p,E,rfl,B,q⟩:=h;obtain⟨u,rfl,g⟩:=kE r;cases g;have hn:=jL;rcases B with B|B
 ·obtain⟨its,M,C,L⟩:=I.list B
  have D:=M.length;exact Calls.call_len_list C.isList (by simp only[qaG]<;>lia) ⟨.int E.length,H,I.tok _,⟨s.toks+1,by rw[qaG,D]⟩,q⟩
 ·obtain⟨its,M,C,L⟩:=I.tuple B
  have D:=M.length;exact len_tuple C (by simp only[qaG]<;>lia) ⟨.int E.length,H,I.tok _,⟨s.toks+1,by rw[qaG,D]⟩,q⟩
def rh:bY X (.builtin "len") (λxs H Q=>∃ z,xs=[.str z]/\z.length<=qaO/\Q (.int z.length) H):=by
 intro d s m H xs W Q I r h;obtain⟨z,rfl,L,q⟩:=h;obtain⟨u,rfl,t,rfl⟩:=kE r;have hn:=jL;exact len_str (by lia) ⟨.int z.length,H,I.tok _,⟨_,rfl⟩,q⟩
def qg:bY X (.type "list") (λxs H Q=>∃ p E,xs=[.ref p]/\(SqL X.K H p E\/SqT X.K H p E)/\∀ l,H l=none->Q (.ref l) (upd H l (.lst E))):=by
 intro d s m H xs W Q I r h;obtain⟨p,E,rfl,B,q⟩:=h;obtain⟨u,rfl,g⟩:=kE r;cases g;have fin:∀ (its:List Value),aI E its->E.length<=qaO->∀ (h':Heap) (c':Nat),(∀ b o',s.heap.get? b=some o'->h'.get? b=some o')->
   h'.get? s.heap.objs.size=some { cls:=.type "list",dict:=none,data:=.seq its.toArray c',slots:=#[] }->EP X d m Q (.ref s.heap.objs.size) { s with heap:=h' }:=λits M L h' c' kp e=>
  ⟨.ref s.heap.objs.size,_,I.laid (t':=s.toks) kp (qar _) (show bG X.prog X.w _ h' _ (.lst E) from ⟨L,its,c',M,e⟩),rfl,q _ (I.hok.fresh (qar _))⟩
 rcases B with B|B
 ·obtain⟨its,M,C,L⟩:=I.list B
  have D:=M.length;obtain⟨o,ho,hc,n,hd⟩:=C.isList;exact call_list_seq p (.inl rfl) ho hc hd (λh' c' kp e=>fin its M L h' c' kp e) (by simp only[qaG]<;>lia)
 ·obtain⟨its,M,C,L⟩:=I.tuple B
  have D:=M.length;obtain⟨o,ho,hc,n,hd⟩:=C;exact call_list_seq p (.inr rfl) ho hc hd (λh' c' kp e=>fin its M L h' c' kp e) (by simp only[qaG]<;>lia)
def o9:bY X (.type "tuple") (λxs H Q=>∃ p E,xs=[.ref p]/\((SqL X.K H p E/\∀ l,H l=none->Q (.ref l) (upd H l (.tup E)))\/(SqT X.K H p E/\Q (.ref p) H))):=by
 intro d s m H xs W Q I r h;obtain⟨p,E,rfl,h⟩:=h;obtain⟨u,rfl,g⟩:=kE r;cases g;rcases h with⟨B,q⟩|⟨B,q⟩
 ·obtain⟨its,M,C,L⟩:=I.list B
  have D:=M.length;refine call_tuple_list C.isList (λh' kp=>?_) (by simp only[qaG]<;>lia);have I1:Inv X d m H { s with heap:=h' }:=I.kept (t':=s.toks) kp;have I2:Inv X d m (upd H h'.objs.size (.tup E)) { s with heap:=h'.push { cls:=.type "tuple",data:=.seq its.toArray } }:=
   I1.laid (t':=s.toks) (λb o e=>qaj _ e) (qar _) (show bG X.prog X.w _ _ _ (.tup E) from ⟨L,its,M,cW.new _ _⟩)
  exact⟨.ref h'.objs.size,_,I2,rfl,q _ (I1.hok.fresh (qar _))⟩
 ·obtain⟨its,M,C,L⟩:=I.tuple B
  exact call_tuple_same C ⟨.ref p,H,I,rfl,q⟩
def tyV (K:qae) (T:String) (x:V) (H:Hp):Prop:=match x with
 |.str _=>T = "str"
 |.int _=>T = "int"
 |.ref p=>(T = "list"/\∃ xs,SqL K H p xs)\/(T = "tuple"/\((∃ o,K.lookup p=some o/\o.cls=.type "tuple"/\o.dict=none)\/∃ xs,SqT K H p xs))\/
   (T = "dict"/\((∃ kvs,H p=some (.dK kvs))\/∃ kvs,H p=some (.dT kvs)))\/(T = "set"/\∃ S n,H p=some (.set S n))
 |_=>False
def Cy {d:List (Addr×Obj)}{m:St}{H:Hp}{s:qak}{T:String}{x:V}{v:Value} (I:Inv X d m H s) (r:aQ x v) (ty:tyV X.K T x H) :
  s.TypeIs v T/\∀ a,v=.ref a->∃ ob,s.heap.get? a=some ob/\ob.dict=none:=by
 cases x with
 |str z=>
  obtain⟨t,rfl⟩:=r;cases (show T = "str" from ty)
  exact⟨typeIs_str s z t,λ_ e=>nomatch e⟩
 |int i=>
  obtain⟨t,rfl⟩:=r;cases (show T = "int" from ty)
  exact⟨qfQ s i t,λ_ e=>nomatch e⟩
 |ref p=>
  cases r;rcases ty with⟨rfl,xs,B⟩|⟨rfl,ht⟩|⟨rfl,Y⟩|⟨rfl,S,n,Y⟩
  ·obtain⟨its,_,C,_⟩:=I.list B
   refine⟨C.isList.typeIs,λa e=>?_⟩;cases e;obtain⟨o,n,e,c,hd,_⟩:=C;exact⟨o,e,hd⟩
  ·have z:∃ o:Obj,s.heap.get? p=some o/\o.cls=.type "tuple"/\o.dict=none:=by
    rcases ht with⟨o,Y,hc,hd⟩|⟨xs,B⟩
    ·exact⟨o,I.kIn p o Y,hc,hd⟩
    ·exact I.tuple1 B
   obtain⟨o,e1,hc,hd⟩:=z;refine⟨⟨o,e1,hc⟩,λa e=>?_⟩;cases e;exact⟨o,e1,hd⟩
  ·have z:∃ o,s.heap.get? p=some o/\o.ExactDict:=by
    rcases Y with⟨kvs,Y⟩|⟨kvs,Y⟩
    ·obtain⟨_,_,_,_,o,_,_,e,ex,_⟩:=I.hok p _ Y
     exact⟨o,e,ex⟩
    ·obtain⟨_,_,_,_,o,_,_,e,ex,_⟩:=I.hok p _ Y
     exact⟨o,e,ex⟩
   obtain⟨o,e,ex⟩:=z;refine⟨⟨o,e,ex.1⟩,λa e2=>?_⟩;cases e2;exact⟨o,e,ex.2.1⟩
  ·obtain⟨o,_,_,_,e,ex,_⟩:=I.hok p _ Y
   refine⟨⟨o,e,ex.1⟩,λa e2=>?_⟩;cases e2;exact⟨o,e,ex.2.1⟩
 |_=>exact qcs ty
def tBM (K:qae) (T:String) (r:V->List V->Hp->VK->Prop) (to:TE) (t:TA):TE:=λm H Q=>to m H λx H1=>tyV K T x H1/\t m H1 λxs H2=>r x xs H2 Q
variable {o e:Expr}{es:List Expr}{to:TE}{t:TA}{name:Str}{apos F:Pos}{T id:String}{r:V->List V->Hp->VK->Prop}
def BP (pa:PlainAttrs T) (slot:Slot T name id) (hty:typeOf (.builtin id)=pure (.type "method_descriptor")) (hm:MtR X id r) (ho:PE X o to) (ha:PA X (e::es) t)
  (hbase:qds o name X.env (eval o X.env)=eval o X.env:=by rfl)
  (hfew:((qeF F (qbt (e::es) X.env)).all (λx=>!x.1) && (qib F (qgo [] X.env)).all (λx=>x.1.isSome)
    && decide ((e::es).length+([]:List qh1).length+(if ([]:List qh1).isEmpty then 0 else 1)<30))=true:=by rfl)
  (hline:(apos.endLine==F.line)=true:=by rfl) (R:qbt (e::es) X.env=(false,eval e X.env)::qbt es X.env:=by rfl) (hplain:(qeF F (qbt es X.env)).any (·.1)=false:=by rfl) :
  PE X (.Call (.Attribute o name apos) (e::es) [] F) (tBM X.K T r to t):=by
 intro d s m H Q I h;refine wpAny_Call_method_late hbase hfew hline rfl (thn (ho d s m H _ I h) λv s1 ⟨x,H1,I1,r1,ty,q1⟩=>?_);obtain⟨N,h2⟩:=Cy I1 r1 ty;refine⟨T,id,pa,slot,hty,N,h2,?_⟩;have hA:=ha F d s1 m H1 _ I1 q1;rw[R]at hA ⊢;refine Calls.callWith_builtin (by show (false||(qeF F (qbt es X.env)).any (·.1))=false;rw[hplain]<;>rfl) (Calls.evalArgs_plain ?_);exact thn hA λW s2 ⟨vs,H2,I2,r2,q2⟩=>hm d s2 m H2 x vs v W Q I2 r1 r2 q2
end
def MtM (X:Cx) (id:String) (r:V->List V->Hp->VK->Prop):Prop:=
 ∀ (a:List (Addr×Obj)) (s:qak) (c:St) (H:Hp) (x:V) (xs:List V) (v:Value) (b:List Value) (Q:VK),Inv X a c H s->aQ x v->aI xs b->r x xs H Q->
  wpAny (model X.prog X.w) X.A (call (.builtin id) (v::b)) (EP X a c Q) X.xe s
def aI.one:∀ {x:V}{a:List Value},aI [x] a->∃ u,a=[u]/\aQ x u
 |_,_,.cons r .nil=>⟨_,rfl,r⟩
def aI.two {x y:V}{a:List Value} (h:aI [x,y] a):∃ u v,a=[u,v]/\aQ x u/\aQ y v:=by
 cases h with
 |cons r t=>cases t with
  |cons q t2=>cases t2;exact⟨_,_,rfl,r,q⟩
def aI.rep {xs:List V}{a:List Value} (h:aI xs a):∀ k:Nat,aI (qaz k xs).flatten (qaz k a).flatten
 |0=>.nil
 |k+1=>by
  rw[qaS,qaS,qcP,qcP];exact aI.append h (aI.rep h k)
def ly (its:List Value):∀ (k:Nat) (acc:List Value),
  qga (λa b=>a++b) acc.toArray (qaz k its.toArray)=(acc++(qaz k its).flatten).toArray
 |0,acc=>by simp
 |k+1,acc=>by
  have e:acc.toArray++its.toArray=(acc++its).toArray:=by simp
  have c:(acc++its)++(qaz k its).flatten=acc++(qaz (k+1) its).flatten:=by
   rw[qaS,qcP,qcx]
  rw[<-c,<-ly its k (acc++its),<-e,qaS,List.foldl_cons]
section
variable {X:Cx}{a:List (Addr×Obj)}{c:St}{H:Hp}{s:qak}{l b:Addr}{xs d o:List V}
def Inv.lset {its its':List Value}{n:Nat}{f:Array Value->Array Value}{t':Nat} (I:Inv X a c H s) (g:H l=some (.lst xs))
  (e:s.heap.get? l=some { cls:=.type "list",data:=.seq its.toArray n }) (m:f its.toArray=its'.toArray) (i:aI d its') (j:d.length<=qaO) :
  Inv X a c (upd H l (.lst d)) { s with heap:=s.heap.update l (qbY f),toks:=t' }:=by
 have q:=qeY e f;rw[m]at q;refine I.write (x:=l) (e:=l) (by rw[g];exact trivial) (.inl rfl) (λp u hb k=>(qdl s.heap (qbY f) (qbC hb)).trans k) ⟨_,q⟩ ?_;exact⟨j,its',_,i,q⟩
def Inv.lnew {its:List Value}{t':Nat} (I:Inv X a c H s) (i:aI d its) (j:d.length<=qaO) :
  Inv X a c (upd H s.heap.objs.size (.lst d)) { s with heap:=s.heap.push { cls:=.type "list",data:=.seq its.toArray },toks:=t' }:=
 I.laid (λ_ _ q=>qaj _ q) (qar _) ⟨j,its,0,i,qav _ rfl⟩
def Inv.fresh (I:Inv X a c H s):H s.heap.objs.size=none:=I.hok.fresh (qar _)
def Inv.lstM (I:Inv X a c H s) (g:H l=some (.lst xs)):xs.length<=qaO/\∃ (its:List Value) (n:Nat),aI xs its/\xs.length=its.length/\s.heap.get? l=some { cls:=.type "list",data:=.seq its.toArray n }:=by
 obtain⟨z,its,n,r,e⟩:=I.hok l _ g;exact⟨z,its,n,r,r.length,e⟩
def xX {n:Nat} (h:n<=qaO):qdF n=false:=by
 unfold qdF;exact decide_eq_false (by lia)
end
section
variable {X:Cx}
def Am:V->List V->Hp->VK->Prop:=λx vs H Q=>∃ l xs y,x=.ref l/\vs=[y]/\H l=some (.lst xs)/\xs.length<qaO/\Q .non (upd H l (.lst (xs++[y])))
def xx:MtM X "list.append" Am:=by
 intro b s o H x vs v m Q I c f h;obtain⟨l,xs,y,rfl,rfl,a,i,q⟩:=h;cases c;obtain⟨u,rfl,d⟩:=f.one;obtain⟨z,its,n,r,j,e⟩:=I.lstM a;refine qcY qfm ⟨_,e,rfl⟩ qe7 (qe0 _ _) (qe5 l its.toArray n u (by rw[qaG];lia)) ⟨e,?_⟩;refine⟨.non,_,I.lset (its':=its++[u]) a e (by simp) (r.append (.cons d .nil)) ?_,rfl,q⟩;rw[qaB,qcj];lia
def pY {α:Type} (xs:List α) (k:Nat):(qaz k xs).flatten.length=k*xs.length:=by
 induction k with
 |zero=>simp
 |succ k g=>rw[qaS,qcP,qaB,g,Nat.succ_mul,qgN]
end
section
variable {prog:qaQ}{w:World}{A:qa2}{E:Value->qak->Prop}{s:qak}
end
section
variable {X:Cx}
end
end L2
namespace Att
open PySem PySem.W PySem.Calls PyProof.Rows
def mk {P:Params}{h:Heap}:∀ (ns:List Int) (vs:List Value),WellAll P h vs (ns.map WData.int)->qcm vs ns:=by
 intro ns
 induction ns with
 |nil=>
  intro vs w;rw[qbl]at w;cases w;exact .nil
 |cons n ns c=>
  intro vs w;rw[qaq]at w;cases w with
  |cons a b=>
   cases a;exact .cons _ _ (c _ b)
def wE {l:OpenLaw}{n:Nat} (hn:l.most=some n) {P:Params}{h:Heap}{args:List WData}{c:List Value}
  (b:l.row.toRowW.claim.pre args=true) (k:WellAll P h c args) :
  ∃ a vs ns,c=[Value.ref a]/\args=[WData.list (ns.map WData.int)]/\h.get? a=some { cls:=.type "list",data:=.seq vs.toArray }/\qcm vs ns/\ns.length<=n:=by
 have j:WShape.hasAll [] args [.list .int]=true:=(pre_splitW b).1;have m:l.pre.holds [] { args:=args }=true:=(pre_splitW b).2;obtain⟨d,r,rfl,w,p⟩:=hasAllW_cons j;obtain rfl:=hasAllW_nil p;obtain⟨xs,rfl,s⟩:=hasW_list w;obtain⟨ns,rfl⟩:=items_int s;have f:ns.length<=n:=by
  unfold OpenLaw.pre at m;have g:(WTm.not (.lt (.lit (.int (n:Int))) (.len (.arg 0)))).holds [] { args:=[.list (ns.map .int)] }=true:=by
   have g:=(holds_andW m).1;rw[hn]at g;exact g
  have i:=condW_of g (w_not (w_lt w_lit (w_len_list (w_arg rfl))));rw[qah]at i;refine Nat.le_of_not_lt λq=>?_;have u:(n:Int)<((ns.length:Nat):Int):=by lia
  first
   |(rw[decide_eq_true u]at i;exact absurd i (by decide))
   |(simp at i;lia)
 cases k with
 |cons t v=>
  cases v;cases t with
  |list o e=>exact⟨_,_,ns,rfl,rfl,o,mk ns _ e,f⟩
def wR (l:OpenLaw) (args:List WData):l.row.toRowW.claim.post args (.bool true) args=true:=
 postW_of (r:=l.row.toRowW) (X:=(true==true))
  (show qiu [] (.bool true) .bool=true by first|rfl|decide|simp[qiu,WShape.arms,WShape.armsAll])
  (show (WTm.eq .res (.lit (.bool true))).value [] { args:=args,res:=some (.bool true),after:=args }=some (.bool (true==true)) from w_eq_bool (w_res rfl) w_lit) rfl
def attach_call {l:OpenLaw}{n:Nat}{q:qaQ}{c:List Str}{XP:(Str->Option Value)->Heap->Prop}{YP:World->Heap->Prop}{d:DefRec}
  (hn:l.most=some n) (s:d.params.defaults=[])
  (call:∀ (w:World) (s₀ b:qak) (mg t:Str->Option Value) (j:Addr) (o:Obj) (v m e:Value) (a:Addr) (vs:List Value) (ns:List Int),
    Ground q c [] XP w s₀ mg t b.heap->YP w b.heap->
    b.heap.get? j=some o->o.data=.func (docDef d.name d.params d.body d.scope v m e)->b.heap.CodeRec m d.name->mg d.name=some (.ref j)->
    b.heap.get? a=some { cls:=.type "list",data:=.seq vs.toArray }->qcm vs ns->ns.length<=n->b.gens=#[]->
    qff (model l.prog w) qgp (.call (.ref j) ⟨[.ref a],[]⟩) (λr s'=>r=.ok (.ret (.bool true))/\OldK b.heap s'.heap/\s'.os=b.os/\qfp s'.gens) b) :
  WalkO q c XP YP l.row.toRowW d [] (λf vs=>qhb f vs):=by
 intro w s₀ b mg t G Y j o v m e J kV B hd u A p hg args z as h y C x F;obtain rfl:J=.none:=Dflts.none A s;obtain rfl:kV=.none:=Dflts.noKw A;obtain⟨a,vs,ns,rfl,rfl,i,g,k⟩:=wE hn h x;refine enter_call (qfX (call w s₀ b mg t j o v m e a vs ns G Y B (fd_plain hd) u p i g k hg) λr s' I=>?_);obtain⟨rfl,D,H,E⟩:=I;exact⟨.inl ⟨.bool true,.bool true,[],rfl,λ_=>rfl,.bool true,wR l _,λ_=>⟨List.Pairwise.nil,λ_ hm=>(nomatch hm)⟩⟩,D,H,E⟩
section
variable {prog:qaQ}{w:World}{A:qa2}{E:Value->qak->Prop}{s:qak}{K:Frag}
end
end Att
namespace L2
open PySem PySem.Spec PyProof.Rows
def pK:∀ {vs:List Value}{ns:List Int},qcm vs ns->aI (ns.map V.int) vs
 |_,_,.nil=>.nil
 |_,_,.cons n t h=>.cons ⟨t,rfl⟩ (pK h)
def z9 (H:Hp):Prop:=∀ b,H b=none\/∃ o xs,H b=some (.frz o (.lst xs))
def xW {P:qaQ}{w:World}{K:qae}{mg G:Str->Option Value}{CX:CXT}{k:Nat}{J a:Addr}{fd:qau}{x:Str}{sp:Sp}{c:qak}{vs:List Value}{ns:List Int}
  (KX:K.In c.heap) (C:c.heap.Ns qaA mg) (hb:c.heap.Ns qgT G) (N:∀ x:Str,x≠"__name__"->G x=qb9 x) (t:c.heap.NoLimit) (hg:c.gens=#[])
  (D:c.heap.get? a=some { cls:=.type "list",data:=.seq vs.toArray }) (R:qcm vs ns) (T:ns.length<=qaO) (hr:bC k qgp)
  (F:∀ base:Heap,K.In base->base.Ns qaA mg->ek P w K mg base CX k J fd [x] sp) (j:∀ (s:qak) (u:Value),qhj s fd ⟨[u],[]⟩ [(x,u)])
  (M:∀ H:Hp,z9 H->SqL K H a (ns.map V.int)->sp [.ref a] H (λv _=>v=.bl true) λ_ _ _=>False)
  (L:∀ H e s',CX [] H c (λ_ _ _=>False) e s'->False) :
  qff (model P w) qgp (.call (.ref J) ⟨[.ref a],[]⟩) (λr s'=>r=.ok (.ret (.bool true))/\OldK c.heap s'.heap/\s'.os=c.os/\qfp s'.gens) c:=by
 have O:=pK R;have y:=R.length
 -- from an abstract heap in which nothing but the script may be tracked
 have i:∀ H:Hp,z9 H->SqL K H a (ns.map V.int)->HOk P w H c.heap->(∀ b,H b≠none->b=a)->(H a≠none->K.lookup a=none)->
   qff (model P w) qgp (.call (.ref J) ⟨[.ref a],[]⟩) (λr s'=>r=.ok (.ret (.bool true))/\OldK c.heap s'.heap/\s'.os=c.os/\qfp s'.gens) c:=by
  intro H S hS hok hA hK;have f:∀ {b:Addr}{o:Obj},c.heap.get? b=some o->H b=none->(qi c.heap H).get? b=some o:=λe n=>zb e n;have E:∀ {b:Addr}{o:Obj}{es:Array qd0}{p:Nat},c.heap.get? b=some o->o.data=.dict es p->H b=none:=λ{b o es p} e d=>by
   cases q:H b with
   |none=>rfl
   |some u=>
    have I:b=a:=hA b (by rw[q];simp);subst I;rw[D]at e;cases e;have d':Data.seq vs.toArray _=Data.dict es p:=d;cases d'
  have g:∀ {b:Addr}{m:Str->Option Value},c.heap.Ns b m->(qi c.heap H).Ns b m:=λ{b m} ⟨o,es,p,e,d,r⟩=>⟨o,es,p,f e (E e d),d,r⟩
  have A:K.In (qi c.heap H):=λb o e=>f (KX b o e) (by
   cases q:H b with
   |none=>rfl
   |some u=>
    have I:b=a:=hA b (by rw[q];simp);subst I
    rw[hK (by rw[q];simp)]at e;cases e)
  have hM:Mod K mg (qi c.heap H):=⟨A,g C,⟨G,g hb,N⟩,let ⟨mc,h1,h2⟩:=t;⟨mc,g h1,h2⟩⟩;have Y:uO P w K mg (qi c.heap H) qgp [] c H:=⟨rfl,hM,λb o e=>AD e,qdA (xr _ _),trivial,λb hb=>absurd (show b∈([]:List Addr) from hb) (by simp),hok,.of_eq hg⟩;refine qfX ((F _ A (g C)).run qgp [] c H ⟨[.ref a],[]⟩ [.ref a] [.ref a] _ _ hr Y (j c (.ref a)) (.cons rfl .nil) (M H S hS)) λr s' h=>?_;cases r with
  |error e=>exact (L H e s' h).elim
  |ok fl=>
   cases fl with
   |next=>exact qcs h
   |brk=>exact qcs h
   |cont=>exact qcs h
   |ret u=>
    obtain⟨v,H',os,bare,un,B,W,q⟩:=h;have X:v=.bl true:=q;subst X;obtain rfl:u=Value.bool true:=W;refine⟨rfl,OldK.of_keep λb o e=>?_,os,bare⟩;cases q:H b with
    |none=>exact un.keep b o e q (by intro z;exact absurd (show b∈([]:List Addr) from z) (by simp)) (by simp)
    |some u=>
     rcases S b with z|⟨ob,xs,z⟩
     ·rw[q]at z;cases z
     ·have z2:=un.frzs b ob _ z
      obtain⟨Q,_⟩:=hok b _ z;obtain⟨e2,_⟩:=B b _ z2;rw[e]at Q;cases Q;exact e2
 cases hk:K.lookup a with
 |some o=>
  -- the script is one of the module's own objects
  have e:=KX a o hk;rw[D]at e;cases e;refine i (λ_=>none) (λ_=>.inl rfl) (.inr ⟨_,vs.toArray,_,hk,rfl,rfl,rfl,by rw[qaG,y];exact T,by simpa using O⟩) (λb u z=>by have l:(none:Option HO)=some u:=z;cases l) (λb z=>absurd rfl z) λz=>absurd rfl z
 |none=>
  refine i (λb=>if b=a then some (.frz { cls:=.type "list",data:=.seq vs.toArray } (.lst (ns.map V.int))) else none) (λb=>?_) (.inl (.inr ⟨{ cls:=.type "list",data:=.seq vs.toArray },if_pos rfl⟩)) (λb u z=>?_) (λb z=>?_) λ_=>hk
  ·by_cases hb:b=a
   ·exact .inr ⟨_,_,if_pos hb⟩
   ·exact .inl (if_neg hb)
  ·by_cases hb:b=a
   ·have l:=(if_pos hb).symm.trans z
    cases l;subst hb;exact⟨D,by rw[qah];exact T,vs,_,O,D⟩
   ·have l:=(if_neg hb).symm.trans z
    cases l
  ·by_cases hb:b=a
   ·exact hb
   ·exact absurd (if_neg hb) z
def walk_of {l:qfj}{n k:Nat}{q:qaQ}{c:List Str}{XP:(Str->Option Value)->Heap->Prop}{YP:World->Heap->Prop}{d:DefRec}{K:Params->qae}{CX:World->CXT}{sp:World->Sp}{x:Str}
  (hn:l.most=some n) (t:n<=qaO) (r:d.params.defaults=[]) (J:bC k qgp)
  (C:∀ (w:World) (h:Heap),YP w h->(K w.params).In h)
  (F:∀ (w:World) (mg:Str->Option Value) (m:Addr) (h:Heap),(K w.params).In h->h.Ns qaA mg->mg d.name=some (.ref m)->
    ∃ fd:qau,(∀ (s:qak) (u:Value),qhj s fd ⟨[u],[]⟩ [(x,u)])/\
     ∀ base:Heap,(K w.params).In base->base.Ns qaA mg->ek l.prog w (K w.params) mg base (CX w) k m fd [x] (sp w))
  (z:∀ (w:World) (H:Hp) (a:Addr) (ns:List Int),ns.length<=n->z9 H->SqL (K w.params) H a (ns.map V.int)->sp w [.ref a] H (λv _=>v=.bl true) λ_ _ _=>False)
  (y:∀ (w:World) (H:Hp) (s:qak) (e:Value) (s':qak),CX w [] H s (λ_ _ _=>False) e s'->False) :
  qhz q c XP YP l.row.toRowW d [] (λf vs=>qhb f vs):=by
 refine Att.attach_call hn r λw s₀ j mg M m o N O B a vs ns G Y L hd D p i g b hg=>?_;have KX:=C w _ Y;obtain⟨fd,hb,I⟩:=F w mg m _ KX G.T.g p;exact xW KX G.T.g G.T.b G.T.builtins G.T.nolimit hg i g (qa3 b t) J I hb (λH E A=>z w H a ns b E A) λH e s'=>y w H j e s'
def mE (s:Stmt):Arguments:=match s with
 |.FunctionDef _ a _ _ _ _ _ _ _ _=>a
 |_=>{ posonlyargs:=[],args:=[],vararg:=none,kwonlyargs:=[],kw_defaults:=[],kwarg:=none,defaults:=[] }
def cz (s:Stmt):List Stmt:=match s with
 |.FunctionDef _ _ b _ _ _ _ _ _ _=>b
 |_=>[]
def ag (s:Stmt):Scope:=match s with
 |.FunctionDef _ _ _ _ _ _ a _ _ _=>a
 |_=>{ kind:=.function,names:=[],isGenerator:=false,isCoroutine:=false }
abbrev CX0:CXT:=λ_ _ _ _ _ _=>False
abbrev E0:XK:=λ_ _ _=>False
def zm {X:Cx}:oa CX0 X E0:=λ_ _ _ _ _ _ _ h=>h.elim
structure Fun (K:qae) (x qual:Str) (st:Stmt) (f:Addr) (fd:qau):Prop where
 ex:∃ (oc:Value) (od:Option Addr) (kV doc pm:Value) (an:Option Addr) (cdv ct:Value) (osl:Array (Option Value)),
  fd=qdH x qual (mE st) (cz st) (ag st) .none kV doc pm an cdv ct/\K.lookup f=some ⟨oc,od,.func fd,osl⟩/\qfF K cdv qual=true
 kp:qcy K (.ref f)=true
section
variable {P:qaQ}{w:World}{K:qae}{mg:Str->Option Value}{base:Heap}
def Fun.ok {x a:Str}{st:Stmt}{f:Addr}{fd:qau}{N ps:List Str}{k:Nat}{sp:Sp} (F:Fun K x a st f fd) (S:aw N ps (ag st)) (len:∀ vs H Q E,sp vs H Q E->vs.length=ps.length)
  (j:∀ (b:Value) (A:qa2) (outer:List Env) (s:qak) (H:Hp) (vs:List V) (Q:VK) (E:XK),bC k (A.deeper (qen a (ag st) s.heap.objs.size f b))->sp vs H Q E->
    ∃ t,PSs (ir CX0 P w K mg base N a (ag st) f b A outer s H E).nox (cz st) t/\t { nx:=λ_ H'=>Q .non H',rt:=Q } (ft N vs) H):ek P w K mg base CX0 (k+1) f fd ps sp:=by
 obtain⟨n,o,kV,d,i,g,b,ct,e,rfl,u,m⟩:=F.ex;refine Ft u m S len λA outer s H vs Q E v r=>?_;obtain⟨t,h,q⟩:=j b A outer s H vs Q E v r;exact⟨t,h.nox,q⟩
def Fun.binds {x a:Str}{st:Stmt}{f:Addr}{fd:qau}{ps:List Str} (F:Fun K x a st f fd)
  (h:∀ (kV d i:Value) (g:Option Addr) (b ct:Value) (p:List Value),p.length=ps.length->bindArgs (qdH x a (mE st) (cz st) (ag st) .none kV d i g b ct) ⟨p,[]⟩=pure (ps.zip p)):aM K fd ps []:=by
 obtain⟨n,o,kV,d,i,g,b,ct,e,rfl,u,m⟩:=F.ex;exact .all (h kV d i g b ct)
def fun_mk {x a:Str}{st:Stmt}{f:Addr}{n:Value}{o g:Option Addr}{e:Array (Option Value)}{kV d i b ct:Value} (l:K.lookup f=some ⟨n,o,.func (qdH x a (mE st) (cz st) (ag st) .none kV d i g b ct),e⟩)
  (c:qfF K b a=true) (k:qcy K (.ref f)=true):Fun K x a st f (qdH x a (mE st) (cz st) (ag st) .none kV d i g b ct):=⟨⟨n,o,kV,d,i,g,b,ct,e,rfl,l,c⟩,k⟩
end
def B1 {A:qa2}{k:Nat} (a:bC k A):A.units+1<cLine:=qbJ (Nat.add_le_add_left (by decide:1<=64) _) a.units
def wT {n:Nat} (h:n<=1000):n<qaO:=qbJ h (by decide)
section
variable {X:Cx}
def pv (i:Nat) {x:Str}{pos:Pos} (b:X.N[i]?=some x:=by rfl) (c:Vis X.env.scope x:=by first|exact Or.inl rfl|exact Or.inr (Or.inl rfl)|exact Or.inr (Or.inr rfl)) (hd:(x==("__debug__" : Str))=false:=by decide)
  (a:(x==("__classdict__" : Str))=false:=by decide):PE X (.Name x pos) (qF i):=iH b c hd a
end
def wN {A B:Prop} (h:B):if false=true then A else B:=by
 rw[if_neg qaC];exact h
def xk {A B:Prop} (h:A):if true=true then A else B:=by
 rw[if_pos rfl];exact h
def aS (H H':Hp):Prop:=∀ b o,H b=some o->H' b=some o
def aS.refl (H:Hp):aS H H:=λ_ _ h=>h
def aS.trans {H H1 H2:Hp} (a:aS H H1) (b:aS H1 H2):aS H H2:=λc o h=>b c o (a c o h)
def bJ (a:List (Str×Addr)):List (Str×qbQ)->List (Str×Addr)->List (Str×Addr)
 |[],acc=>acc
 |(n,k)::r,acc=>if k==.free then bJ a r ((n,(a.lookup n).getD 0)::acc) else bJ a r acc
def jK {env:Env} (f:Str×qbQ->List (Str×Addr)->Sem (ForInStep (List (Str×Addr))))
  (g:∀ n k e,f (n,k) e=if k==.free then (do let c <-cellOf env n;pure (.yield ((n,c)::e))) else pure (.yield e)) :
  ∀ (names:List (Str×qbQ)) (acc:List (Str×Addr)),(∀ x∈names,x.2=.free->∃ c,env.cells.lookup x.1=some c)->
   forIn names acc f=pure (bJ env.cells names acc)
 |[],acc,_=>by rw[qeH];rfl
 |(n,k)::r,acc,h=>by
  rw[qfM,g];unfold bJ;by_cases b:(k==.free)=true
  ·obtain⟨c,i⟩:=h (n,k) qaf (beq_iff_eq.mp b)
   have a:env.cells.lookup n=some c:=i;rw[if_pos b,if_pos b]
   have:cellOf env n=pure c:=by unfold cellOf;rw[a]
   rw[this,a];simp only[pure_bind,Option.getD_some];exact jK f g r _ λx d=>h x (qal _ d)
  ·rw[if_neg b,if_neg b]
   simp only[pure_bind];exact jK f g r _ λx d=>h x (qal _ d)
def jC {a:Scope}{env:Env} (h:∀ x∈a.names,x.2=.free->∃ c,env.cells.lookup x.1=some c) :
  closureFor a env=pure (bJ env.cells a.names []):=by
 simp only[closureFor];rw[jK (env:=env) _ (λn k b=>by cases hk:k==NameKind.free<;>simp[hk]) a.names [] h]
 simp
def fL {a:List (Str×Addr)}:∀ (names:List (Str×qbQ)) (acc:List (Str×Addr)) {x:Str}{c:Addr},(bJ a names acc).lookup x=some c->
  acc.lookup x=some c\/((x,NameKind.free)∈names/\c=(a.lookup x).getD 0)
 |[],_,_,_,h=>.inl h
 |(n,k)::r,acc,x,c,h=>by
  unfold bJ at h;by_cases b:(k==.free)=true
  ·rw[if_pos b]at h
   rcases fL r _ h with q|⟨f,d⟩
   ·rw[qbu]at q
    cases hx:x==n with
    |true=>
     rw[hx]at q;have e:=beq_iff_eq.mp hx;subst e;exact .inr ⟨by rw[<-beq_iff_eq.mp b];exact qaf,(qaV q).symm⟩
    |false=>rw[hx]at q;exact .inl q
   ·exact .inr ⟨qal _ f,d⟩
  ·rw[if_neg b]at h
   rcases fL r _ h with q|⟨f,d⟩
   ·exact .inl q
   ·exact .inr ⟨qal _ f,d⟩
def fA {a:List (Str×Addr)}{x:Str}:∀ (names:List (Str×qbQ)) (acc:List (Str×Addr)),((x,NameKind.free)∈names\/(acc.lookup x).isSome=true)->((bJ a names acc).lookup x).isSome=true
 |[],_,h=>h.elim (λz=>nomatch z) id
 |(n,k)::r,acc,h=>by
  unfold bJ;by_cases b:(k==.free)=true
  ·rw[if_pos b]
   refine fA r _ ?_;rcases h with h|h
   ·rcases qaH.mp h with e|h
    ·cases e
     exact .inr (by rw[qbu,beq_self_eq_true];rfl)
    ·exact .inl h
   ·refine .inr ?_
    rw[qbu];cases x==n
    ·exact h
    ·rfl
  ·rw[if_neg b]
   refine fA r _ ?_;rcases h with h|h
   ·rcases qaH.mp h with e|h
    ·cases e;exact absurd rfl b
    ·exact .inl h
   ·exact .inr h
def du:∀ (names:List (Str×qbQ)) (n:Nat) (acc:List (Str×Addr)) {x:Str}{c:Addr},(qb1 n names acc).lookup x=some c->acc.lookup x=some c\/((x,NameKind.cell)∈names/\n<=c)
 |[],_,_,_,_,h=>.inl h
 |(m,k)::r,n,acc,x,c,h=>by
  unfold qb1 at h;by_cases a:(k==.cell)=true
  ·rw[if_pos a]at h
   rcases du r _ _ h with q|⟨d,b⟩
   ·rw[qbu]at q
    cases hx:x==m with
    |true=>
     rw[hx]at q;have e:=beq_iff_eq.mp hx;subst e;exact .inr ⟨by rw[<-beq_iff_eq.mp a];exact qaf,by rw[qaV q];exact qar _⟩
    |false=>rw[hx]at q;exact .inl q
   ·exact .inr ⟨qal _ d,Nat.le_of_succ_le b⟩
  ·rw[if_neg a]at h
   rcases du r _ _ h with q|⟨d,b⟩
   ·exact .inl q
   ·exact .inr ⟨qal _ d,b⟩
def oN:∀ (names:List (Str×qbQ)) (n:Nat) (acc:List (Str×Addr)),(∀ p∈acc,p.2<n)->∀ {x y:Str}{c:Addr},(qb1 n names acc).lookup x=some c->(qb1 n names acc).lookup y=some c->n<=c->x=y:=by
 have g:∀ (names:List (Str×qbQ)) (n:Nat) (acc:List (Str×Addr)) (lo:Nat),lo<=n->(∀ p∈acc,p.2<n)->(∀ p∈acc,∀ q∈acc,lo<=p.2->p.2=q.2->p.1=q.1)->
   ∀ p∈qb1 n names acc,∀ q∈qb1 n names acc,lo<=p.2->p.2=q.2->p.1=q.1:=by
  intro names
  induction names with
  |nil=>intro n acc lo _ _ h;exact h
  |cons z r s=>
   intro n acc lo d a h;obtain⟨m,k⟩:=z;unfold qb1;by_cases j:(k==.cell)=true
   ·rw[if_pos j]
    refine s _ _ lo (Nat.le_succ_of_le d) (λp b=>?_) (λp b q f l e=>?_)
    ·rcases qaH.mp b with e|b
     ·rw[e];exact qbV _
     ·exact qbf (a p b)
    ·rcases qaH.mp b with o|b<;>rcases qaH.mp f with i|f
     ·rw[o,i]
     ·rw[o]at e;exact absurd (a q f) (by rw[<-e];exact qa8 _)
     ·rw[i]at e;exact absurd (a p b) (by rw[e];exact qa8 _)
     ·exact h p b q f l e
   ·rw[if_neg j]
    exact s _ _ lo d a h
 intro names n acc a x y c t v u;exact g names n acc n (qar _) a (λp b q f l _=>absurd (a p b) (qhC.mpr l)) _ (qbr t) _ (qbr v) u rfl
def dM:∀ (names:List (Str×qbQ)) (h:Heap) (acc:List (Str×Addr)),(∀ p∈acc,∃ v,h.IsCell p.2 v)->∀ p∈qb1 h.objs.size names acc,∃ v,(qeT h names).IsCell p.2 v
 |[],_,_,h=>h
 |(m,k)::r,h,acc,d=>by
  unfold qb1 qeT;by_cases a:(k==.cell)=true
  ·rw[if_pos a,if_pos a]
   have:=dM r (h.push { cls:=.type "cell",data:=.cell none }) ((m,h.objs.size)::acc) (λp c=>by
    rcases qaH.mp c with e|c
    ·rw[e];exact⟨none,_,qav _ rfl,rfl⟩
    ·obtain⟨v,z⟩:=d p c
     exact⟨v,z.keeps λb o e=>qaj _ e⟩)
   rwa [qbq]at this
  ·rw[if_neg a,if_neg a]
   exact dM r h acc d
def dY {names:List (Str×qbQ)} (nd:(names.map (·.1)).Nodup):∀ {x:Str}{k:qbQ},(x,k)∈names->names.lookup x=some k:=by
 induction names with
 |nil=>intro x k h;cases h
 |cons z r a=>
  intro x k h;obtain⟨m,b⟩:=z;rw[qaq,qce]at nd;rw[qbu];rcases qaH.mp h with e|h
  ·cases e;rw[beq_self_eq_true]
  ·have:(x==m)=false:=beq_eq_false_iff_ne.mpr λe=>nd.1 (e ▸ qaX.mpr ⟨(x,k),by assumption,rfl⟩)
   rw[this];exact a nd.2 h
def cX {env:Env}:∀ {names:List (Str×qbQ)}{x:Str}{k:qbQ},
  (names.map λ(n,k)=>if (k==NameKind.free&&env.scope.kind==.function&&env.kindOf n==some .cell) then (n,NameKind.cell) else (n,k)).lookup x=some k->
  ∃ a,names.lookup x=some a/\(k=a\/(a=.free/\k=.cell))
 |[],_,_,h=>by cases h
 |(n,a)::r,x,k,h=>by
  rw[qaq]at h;dsimp only at h;rw[qbu];by_cases b:(a==NameKind.free&&env.scope.kind==.function&&env.kindOf n==some .cell)=true
  ·rw[if_pos b,qbu]at h
   cases hx:x==n with
   |true=>
    rw[hx]at h;refine⟨a,rfl,.inr ⟨?_,(qaV h).symm⟩⟩;simp only[qbb]at b;exact beq_iff_eq.mp b.1.1
   |false=>rw[hx]at h;exact cX h
  ·rw[if_neg b,qbu]at h
   cases hx:x==n with
   |true=>rw[hx]at h;exact⟨a,rfl,.inl (qaV h).symm⟩
   |false=>rw[hx]at h;exact cX h
def gF {env:Env}:∀ {names:List (Str×qbQ)}{x:Str},names.lookup x=some .free->
  (names.map λ(n,k)=>if (k==NameKind.free&&env.scope.kind==.function&&env.kindOf n==some .cell) then (n,NameKind.cell) else (n,k)).lookup x=some .free\/
  (names.map λ(n,k)=>if (k==NameKind.free&&env.scope.kind==.function&&env.kindOf n==some .cell) then (n,NameKind.cell) else (n,k)).lookup x=some .cell
 |[],_,h=>by cases h
 |(n,b)::r,x,h=>by
  rw[qaq];dsimp only;rw[qbu]at h;by_cases a:(b==NameKind.free&&env.scope.kind==.function&&env.kindOf n==some .cell)=true
  ·rw[if_pos a,qbu]
   cases hx:x==n with
   |true=>exact .inr rfl
   |false=>rw[hx]at h;exact gF h
  ·rw[if_neg a,qbu]
   cases hx:x==n with
   |true=>rw[hx]at h;exact .inl h
   |false=>rw[hx]at h;exact gF h
def kj {M:Model}{A:qa2}{E:Value->qak->Prop}{s:qak}{a:Scope}{env:Env}{c:List (Str×Addr)}{Q:Env->qak->Prop}
  (d:Q (newEnv a s.heap.objs.size env.globals (qb1 (s.heap.objs.size+1) a.names c) env.qual none .none (some env) qgT)
    { s with heap:=qeT (s.heap.push { cls:=.type "dict",data:=.dict #[] }) a.names }) :
  wpAny M A (qj3 a env.globals c [] env.qual none .none (some env)) Q E s:=by
 simp only[qj3,qgI,if_true];refine qab (wpAny_alloc ?_);refine qab (wpAny_layCells _ (λname kind b=>by cases hkc:kind==NameKind.cell<;>simp[hkc]) _ _ _ _ ?_);rw[show ({ s with heap:=s.heap.push { cls:=.type "dict",data:=.dict #[] } }:qak).heap.objs.size=s.heap.objs.size+1 from qbq ..]
 refine qab ?_;rw[qeH];exact qan (qan d)
def dF {prog:qaQ}{w:World}{A:qa2}{R:qjT->qak->Prop}{s:qak}{o a iter:Expr}{p:List Expr}{f:Scope}{pos:Pos}{it acc:Value}{env:Env} (I:Nat->qak->Prop)
  (turn:∀ n s,I n s->wpAny (model prog w) A (qfC it) (λr d=>match r with
    |none=>R (.ok .next) d
    | some v=>wpAny (model prog w) A (qeU a it v) (λ_ e=>wpAny (model prog w) A (qfc a env v) (λ_ l=>
      wpAny (model prog w) A (forIn p true λc r=>if r=true then do let ok <-qjP c env (eval c env);pure (ForInStep.yield ok) else pure (ForInStep.yield r)) (λok b=>
       if ok=true then wpAny (model prog w) A (eval o env) (λx i=>
        wpAny (model prog w) A (call (.builtin "list.append") [acc,x]) (λ_ k=>∃ m,m<n/\I m k) (λ_ _=>False) i) (λ_ _=>False) b
       else ∃ m,m<n/\I m b) (λ_ _=>False) l) (λ_ _=>False) e) (λ_ _=>False) d) (λ_ _=>False) s)
  (n:Nat) (h:I n s) :
  qff (model prog w) A (.compLoop (.ListComp o [⟨a,iter,p,0⟩] f pos) 0 it acc env) R s:=by
 refine codeAny_loop rfl I (λn s z=>?_) n h;show wpAny _ A ((compTurn (.ListComp o [⟨a,iter,p,0⟩] f pos) 0 it acc env).onRaise (λx=>do noteFrame x env;theTreesLotGoes x)) _ _ s;refine wpAny_noted ?_;rw[compTurn_list];refine qab (qfx (qab (qco (turn n s z) (λr d g=>?_) λ_ _ h'=>h'.elim)));cases r with
 |none=>exact qan g
 |some v=>
  refine qab (qco g (λ_ e q=>?_) λ_ _ h'=>h'.elim);refine qab (qco q (λ_ l u=>qab (qco u (λok b j=>?_) λ_ _ h'=>h'.elim)) λ_ _ h'=>h'.elim);cases ok with
  |false=>exact qan ⟨rfl,j⟩
  |true=>
   exact qab (qab (qco j (λx i t=>qab (qco t (λ_ k y=>qan (qan ⟨rfl,y⟩)) λ_ _ h'=>h'.elim)) λ_ _ h'=>h'.elim))
def lcX (X:Cx) (a:Scope) (b:List (Str×Addr)) (Nc:List Str) (s:qak) (H:Hp) (C:Addr) (fp:List Addr):Cx where
 prog:=X.prog
 w:=X.w
 K:=X.K
 mg:=X.mg
 base:=X.base
 A:=X.A
 N:=Nc
 s₀:=s
 H₀:=H
 env:=qha a b C X.env
 outer:=X.stack
 stack:=X.stack
 ex:=fp
 fn:=λx=>a.names.lookup x==some .cell
 calm:=X.calm
 pn:=[]
 xe:=λ_ _=>False
structure dW (X:Cx) (scope:Scope) (Nc:List Str) (emb:St->St):Prop where
 kind:scope.kind=.function
 nd:(scope.names.map (·.1)).Nodup
 nN:Nc.Nodup
 free:∀ x∈scope.names,x.2=.free->X.env.kindOf x.1=some .cell\/X.env.kindOf x.1=some .free
 len:∀ σ:St,σ.length=X.N.length->(emb σ).length=Nc.length
 emb:∀ σ:St,σ.length=X.N.length->∀ (i:Nat) (x:Str) (v:V),Nc[i]?=some x->(emb σ)[i]?=some (some v)->∃ j:Nat,X.N[j]?=some x/\σ[j]?=some (some v)/\scope.names.lookup x=some .free
section
variable {X:Cx}{D:List (Addr×Obj)}{V:St}{H:Hp}{s:qak}{a:Scope}{Nc:List Str}{emb:St->St}
def dW.clos (S:dW X a Nc emb) (ok:X.Ok):∀ x∈a.names,x.2=.free->∃ c,X.env.cells.lookup x.1=some c:=λx w h=>ok.has x.1 (S.free x w h)
def tO (S:dW X a Nc emb) (I:Inv X D V H s) {fp:List Addr} (T:∀ b∈fp,jt X D H b) (hfo:∀ b∈fp,∃ o,s.heap.get? b=some o) {lo:Obj} (hlo:∀ v,lo.data≠.cell v) (hfr:lo.isFreed=false) :
  Inv (lcX X a (qb1 (s.heap.objs.size+2) a.names (bJ X.env.cells a.names [])) Nc s H (s.heap.objs.size+1) fp) [(s.heap.objs.size,lo)] (emb V) H
   { s with heap:=qeT ((s.heap.push lo).push { cls:=.type "dict",data:=.dict #[] }) a.names }:=by
 have hsz2:((s.heap.push lo).push { cls:=.type "dict",data:=.dict #[] }).objs.size=s.heap.objs.size+2:=by rw[qbq,qbq]
 have O:(s.heap.push lo).objs.size=s.heap.objs.size+1:=by rw[qbq]
 have J:∀ b o,s.heap.get? b=some o->(qeT ((s.heap.push lo).push { cls:=.type "dict",data:=.dict #[] }) a.names).get? b=some o:=λb o e=>
  qcT _ _ b o (qaj _ (qaj _ e))
 have has:=S.clos I.ok;have B:∀ {x:Str}{c:Addr},(bJ X.env.cells a.names []).lookup x=some c->X.env.cells.lookup x=some c/\(x,NameKind.free)∈a.names:=λ{x c} h=>by
  rcases fL _ _ h with q|⟨L,M⟩
  ·cases q
  ·obtain⟨c',g⟩:=has _ L rfl
   have C:X.env.cells.lookup x=some c':=g;rw[C]at M;exact⟨by rw[C,M];rfl,L⟩
 have d:∀ {x:Str}{c:Addr},(qb1 (s.heap.objs.size+2) a.names (bJ X.env.cells a.names [])).lookup x=some c->
   (X.env.cells.lookup x=some c/\(x,NameKind.free)∈a.names)\/((x,NameKind.cell)∈a.names/\s.heap.objs.size+2<=c):=λ{x c} h=>by
  rcases du _ _ _ h with q|q
  ·exact .inl (B q)
  ·exact .inr q
 have l:∀ {x:Str}{c:Addr},X.env.cells.lookup x=some c->c<s.heap.objs.size:=λ{x c} h=>by
  obtain⟨v,z⟩:=I.cell x c h;exact z.lt
 have F:∀ b∈fp,b<s.heap.objs.size:=λb hb=>by obtain⟨o,e⟩:=hfo b hb;exact qax e
 have f:∀ p∈bJ X.env.cells a.names [],∃ x,X.env.cells.lookup x=some p.2:=by
  have key:∀ (names:List (Str×qbQ)) (acc:List (Str×Addr)),(∀ x∈names,x.2=.free->∃ c,X.env.cells.lookup x.1=some c)->(∀ p∈acc,∃ x,X.env.cells.lookup x=some p.2)->∀ p∈bJ X.env.cells names acc,∃ x,X.env.cells.lookup x=some p.2:=by
   intro names
   induction names with
   |nil=>intro acc _ h;exact h
   |cons z r ih=>
    intro acc hn h;obtain⟨m,k⟩:=z;unfold bJ;by_cases J:(k==.free)=true
    ·rw[if_pos J]
     refine ih _ (λx w=>hn x (qal _ w)) λp n=>?_;rcases qaH.mp n with e|n
     ·obtain⟨c,W⟩:=hn _ qaf (beq_iff_eq.mp J)
      have g:X.env.cells.lookup m=some c:=W;exact⟨m,by rw[e,g];rfl⟩
     ·exact h p n
    ·rw[if_neg J]
     exact ih _ (λx w=>hn x (qal _ w)) h
  exact key _ _ has λp n=>nomatch n
 refine⟨⟨I.ok.mod,S.kind,I.ok.glob,I.ok.blt,qc3 _,λx y c t A=>?_,λx w=>?_,λx c w h=>?_,I.ok.hd,I.ok.frames,.inl rfl,λb hb=>?_,I.bs,qa3 I.ok.bsz I.sz,λb o e hb=>?_,λb hb=>?_,I.stack,I.stkFree⟩,
  rfl,I.bare,Un.kept J,⟨_,(Heap.Ns.new (s.heap.push lo) (.type "dict")).keeps (qcT _ _) |> λq=>by rw[O]at q;exact q,λi x v t A _=>?_⟩,λx c h=>?_,I.hok.fresh (qc3 _),λx c h=>?_,λp n=>?_,I.hok.kept J,S.len V I.len⟩
 ·-- inj
  have N:(qb1 (s.heap.objs.size+2) a.names (bJ X.env.cells a.names [])).lookup x=some c:=t;have P:(qb1 (s.heap.objs.size+2) a.names (bJ X.env.cells a.names [])).lookup y=some c:=A;rcases d N with⟨L,_⟩|⟨_,L⟩
  ·rcases d P with⟨M,_⟩|⟨_,M⟩
   ·exact I.ok.inj x y c L M
   ·exact absurd (qaZ (qbf (qbf (l L))) M) (qa8 _)
  ·refine oN a.names _ _ (λp n=>?_) N P L
   obtain⟨z,hz⟩:=f p n;exact qbf (qbf (l hz))
 ·-- has
  have G:(relabel a X.env).names.lookup x=some .cell\/(relabel a X.env).names.lookup x=some .free:=w
  have:∃ E,a.names.lookup x=some E/\(E=.cell\/E=.free):=by
   rcases G with q|q
   ·obtain⟨E,t,A⟩:=cX q
    exact⟨E,t,A.elim (λe=>.inl e.symm) λe=>.inr e.1⟩
   ·obtain⟨E,t,A⟩:=cX q
    exact⟨E,t,A.elim (λe=>.inr e.symm) λe=>by cases e.2⟩
  obtain⟨E,t,A⟩:=this;refine qcq.mp (qc9 a.names _ _ ?_);rcases A with rfl|rfl
  ·exact .inl t
  ·exact .inr (fA _ _ (.inl (qbr t)))
 ·-- cab
  have G:a.names.lookup x=some .cell:=beq_iff_eq.mp w;rcases d h with⟨_,q⟩|⟨_,q⟩
  ·have:=dY S.nd q
   rw[G]at this;cases this
  ·exact qa3 (qc2 _ 2) q
 ·-- exf
  refine⟨qaL (qbf (F b hb)),λx c h=>?_⟩;rcases d h with⟨q,_⟩|⟨_,q⟩
  ·exact (T b hb).2.2.2.2.1 x c q
  ·intro e
   exact absurd (qaZ (qbf (qbf (F b hb))) (e ▸ q)) (qa8 _)
 ·-- noex
  have hb':b∈fp:=hb;rcases (T b hb').2.2.2.1 with q|q
  ·exact I.ok.noex b o e q
  ·exact absurd (qaZ (qax (I.ok.bs b o e).1) q) (qa8 _)
 ·-- exfs
  intro Y;rcases qaH.mp (I.stkSub b Y) with q|q
  ·exact (T b hb).2.1 q
  ·exact (T b hb).2.2.1 q
 ·-- loc
  obtain⟨j,e1,e2,R⟩:=S.emb V I.len i x v t A;have kx:=S.free (x,.free) (qbr R) rfl;have Q:X.env.kindOf x=some .cell\/X.env.kindOf x=some .free:=kx;obtain⟨m,hn,hl⟩:=I.loc;obtain⟨u,ru,lk⟩:=hl j x v e1 e2 (.inr Q);refine⟨u,ru,.inr ⟨?_,?_⟩⟩
  ·rcases gF (env:=X.env) R with q|q
   ·exact .inr q
   ·exact .inl q
  ·rcases lk with⟨z,_⟩|⟨_,c,W,K⟩
   ·rcases Q with q|q<;>(rw[z]at q;cases q)
   ·obtain⟨c',g⟩:=qcq.mp (qc9 a.names (s.heap.objs.size+2) (bJ X.env.cells a.names []) (x:=x) (.inr (fA _ _ (.inl (qbr R)))))
    rcases d g with⟨q,_⟩|⟨q,_⟩
    ·rw[W]at q
     cases q;exact⟨c,g,K.keeps J⟩
    ·have:=dY S.nd q
     rw[R]at this;cases this
 ·-- cell
  have h':(qb1 (s.heap.objs.size+2) a.names (bJ X.env.cells a.names [])).lookup x=some c:=h
  have:=dM a.names ((s.heap.push lo).push { cls:=.type "dict",data:=.dict #[] }) (bJ X.env.cells a.names []) (λp n=>by
   obtain⟨z,hz⟩:=f p n;obtain⟨v,q⟩:=I.cell z p.2 hz
   exact⟨v,q.keeps λb o e=>qaj _ (qaj _ e)⟩) (x,c) (by rw[hsz2];exact qbr h')
  exact this
 ·-- freeC
  rcases d h with⟨q,_⟩|⟨_,q⟩
  ·exact I.freeC x c q
  ·exact I.hok.fresh (qa3 (qc2 _ 2) q)
 ·-- pin
  have hp':p=(s.heap.objs.size,lo):=by
   have:p∈([]:List (Addr×Obj))++[(s.heap.objs.size,lo)]:=n
   simpa using this
  subst hp';refine⟨qcT _ _ _ _ (qaj _ (qav _ hfr)),I.hok.fresh (qar _),qaL (qbV _),λhb=>?_,hlo⟩;rcases qaH.mp (I.stkSub _ hb) with q|q
  ·exact absurd I.lt (by rw[<-q];exact qa8 _)
  ·exact I.nofs (qar _) q
end
def PTs (X:Cx) (d:List Expr) (t:TT):Prop:=
 ∀ (a:List (Addr×Obj)) (s:qak) (b:St) (H:Hp) (Q:Bool->Hp->Prop),Inv X a b H s->t b H Q->
  wpAny (model X.prog X.w) X.A (forIn d true λc r=>if r=true then do let ok <-qjP c X.env (eval c X.env);pure (ForInStep.yield ok) else pure (ForInStep.yield r)) (TP X a b Q) X.xe s
def GN:TT:=λ_ H Q=>Q true H
def Aa {X:Cx}:PTs X [] GN:=λ_ _ _ H _ I h=>wpAny_tests_nil ⟨H,I,h⟩
def Bz {X:Cx}{c:Expr}{t:TT} (b:PT X c t):PTs X [c] t:=λa s d H Q I h=>wpAny_tests_one (b a s d H Q I h)
def Sub (b a:St):Prop:=b.length=a.length/\∀ (i:Nat) (v:V),b[i]?=some (some v)->a[i]?=some (some v)
def E8 (J:It) (c:St) (g:TG) (tt:TT) (te:TE) (H1:Hp) (Q:VK):Prop:=∃ W:Nat->Nat->List V->Hp->Prop,(∃ m,W 0 m [] H1)/\∀ i m e H,W i m e H->
 (J.stop i H/\∀ D,H D=none->Q (.ref D) (upd H D (.lst e)))\/
 (J.go i H/\e.length<qaO/\∃ N:List V->Hp->Prop,(∀ d H',N d H'->∃ f,f<m/\W (i+1) f d H')/\∀ x H',J.yld i H x H'->g x c H' λa H2=>Sub c a/\tt a H2 λb H3=>if b=true then te a H3 λv H4=>N (e++[v]) H4 else N e H3)
def tLc (emb:St->St) (b:TI) (g:TG) (tt:TT) (te:TE):TE:=λa H Q=>b a H λJ H1=>E8 J (emb a) g tt te H1 Q
section
variable {X:Cx}{f:Scope}{Nc:List Str}{emb:St->St}{elt iter tg:Expr}{ifs:List Expr}{pos:Pos}{wi:TI}{g:TG}{tt:TT}{te:TE}
def FF (S:dW X f Nc emb) (hc:X.calm=true) (hi:PI X tg iter wi)
  (hg:∀ j s H C fp,PG (lcX X f j Nc s H C fp) tg g) (ht:∀ j s H C fp,PTs (lcX X f j Nc s H C fp) ifs tt) (he:∀ j s H C fp,PE (lcX X f j Nc s H C fp) elt te)
  (hs:∀ x,qb6 iter X.env x=pure x:=by intro _;rfl):PE X (.ListComp elt [⟨tg,iter,ifs,0⟩] f pos) (tLc emb wi g tt te):=by
 intro pins s σ H Q I h;rw[eval_ListComp];refine qgR (use:=none) rfl hs (jC (S.clos I.ok)) S.kind (λx P hl=>dY S.nd (by rw[<-hl];exact P)) ?_;refine thn (hi pins s σ H _ I h) λv s1 h1=>thn h1 λitv A h2=>?_;obtain⟨it,fp,tn,J,H2,e,I2,T,Y,f2,W,⟨m0,w0⟩,turn⟩:=h2;subst e;refine qbF (kj ?_);rw[show (A.heap.push { cls:=.type "list",dict:=none,data:=.seq ([]:List Value).toArray }).objs.size=A.heap.objs.size+1 from qbq ..]
 generalize hD:A.heap.objs.size=D;generalize hlo:({ cls:=.type "list",dict:=none,data:=.seq ([]:List Value).toArray }:Obj)=lo
 have fplt:∀ b∈fp,b<A.heap.objs.size:=λb hb=>by obtain⟨o,e,_⟩:=T.obj _ _ Y b hb;exact qax e
 have I3:=tO (lo:=lo) S I2 f2 (λb hb=>by obtain⟨o,e,_⟩:=T.obj _ _ Y b hb;exact⟨o,e⟩) (by rw[<-hlo];intro v z;cases z) (by rw[<-hlo];rfl);rw[hD]at I3;generalize hcells:qb1 (D+2) f.names (bJ X.env.cells f.names [])=j at I3;generalize d:lcX X f j Nc A H2 (D+1) fp=X' at I3;have E:∀ {H':Hp}{ps:List (Addr×Obj)},(∀ b∈fp,H' b=none)->(∀ p∈ps,p.1=D)->∀ b∈fp,jt X' ps H' b:=λ{H' ps} hn B b hb=>by
  have ok:=I3.ok;refine⟨hn b hb,?_,?_,.inl (by rw[<-d];exact hb),?_,λp M=>?_⟩
  ·exact (ok.exf b (by rw[<-d];exact hb)).1
  ·exact ok.exfs b (by rw[<-d];exact hb)
  ·exact (ok.exf b (by rw[<-d];exact hb)).2
  ·have hp':p∈([]:List (Addr×Obj))++ps:=by rw[<-d]at M;exact M
   have e:p.1=D:=B p (by simpa using hp');rw[e,<-hD];exact qcc (fplt b hb)
 have Dex:D∈X'.ex\/X'.s₀.heap.objs.size<=D:=.inr (by rw[<-d,<-hD];exact qar _);have Dloc:D≠X'.env.locals:=by rw[<-d];exact qaL (qbV _)
 have pD:=I3.pin (D,lo) (by rw[<-d];exact qaw _ qaf);have Dfs:D∉X'.fs:=pD.2.2.2.1;have Dcell:∀ x c,X'.env.cells.lookup x=some c->c≠D:=λx c hc' e=>by
  obtain⟨v,o,ho,hd⟩:=I3.cell x c hc';rw[e,pD.1]at ho;cases ho;exact pD.2.2.2.2 v hd
 -- the K
 have K:∀ s3:qak,s3={ A with heap:=qeT ((A.heap.push lo).push { cls:=.type "dict",data:=.dict #[] }) f.names }->
   qff (model X.prog X.w) X.A (.compLoop (.ListComp elt [⟨tg,iter,ifs,0⟩] f pos) 0 (.ref it) (.ref D) (qha f j (D+1) X.env))
    (compPost (model X.prog X.w) X.A X.xe none (EP X pins σ Q) (.ref D) (D+1)) s3:=by
  rintro s3 rfl
  refine dF (λn s'=>∃ i V its k H',Inv X' [(D,{ cls:=.type "list",data:=.seq its.toArray k })] (emb σ) H' s'/\aI V its/\tn i s'.heap/\(∀ b∈fp,H' b=none)/\V.length<=qaO/\W i n V H') ?_ m0
   ⟨0,[],[],0,H2,?_,.nil,?_,λb hb=>(f2 b hb).1,qch _,w0⟩
  ·rintro n s4 ⟨i,V,its,k,H4,I4,rv,st4,fr4,hlen,w4⟩
   have B:∀ p∈[(D,({ cls:=.type "list",data:=.seq its.toArray k }:Obj))],p.1=D:=λp M=>by
    have:=qap.mp M
    rw[this]
   rcases turn i n V H4 w4 with⟨stop,qn⟩|⟨go,hlt,N,hN,step⟩
   ·-- the end
    have TD:=T.done X' (by rw[<-d];rfl) (by rw[<-d];rfl) (by rw[<-d];rfl) (by rw[<-d];exact hc) i _ s4 (emb σ) H4 (λ_ _=>False) I4 (E fr4 B) st4 stop;rw[show X'.A=X.A by rw[<-d];rfl]at TD;refine thn TD λr s5 ⟨hr,I5⟩=>?_;subst hr;obtain⟨m5,hn5,_⟩:=id I5.loc;have eC:X'.env.locals=D+1:=by rw[<-d];rfl
    rw[eC]at hn5;refine⟨m5,hn5,λh' F=>?_⟩;have pD5:=I5.pin (D,{ cls:=.type "list",data:=.seq its.toArray k }) (by rw[<-d];exact qaw _ qaf)
    have neC:∀ b u,H4 b=some u->b≠D+1:=λb u e z=>by
     have:=I5.free
     rw[eC,<-z,e]at this;cases this
    have hD4:H4 D=none:=pD5.2.1;have un:=I5.base;have w:Un (frs X.stack) fp H2 H4 A.heap s5.heap:=by rw[<-d]at un;exact un
    have t:∀ b o,A.heap.get? b=some o->b≠D/\b≠D+1:=λb o e=>by
     have q:=qax e;rw[hD]at q;exact⟨qaL q,qaL (qbf q)⟩
    have h2D:H2 D=none:=by rw[<-hD];exact I2.fresh
    have hok':HOk X.prog X.w H4 h':=λb u e=>by
     have ob:bG X.prog X.w H4 s5.heap b u:=by have:=I5.hok b u e;rw[<-d]at this;exact this
     refine ob.stay (λc v hcv q=>(F.2 c ?_).trans q) (λ_ q=>q) λ_ _ q=>q;rcases hcv with z|z
     ·rw[z];exact neC b u e
     ·exact neC c _ z
    have hokD:HOk X.prog X.w (upd H4 D (.lst V)) h':=λb u e=>by
     by_cases hb:b=D
     ·subst hb
      rw[upd_same]at e;cases e;exact⟨hlen,its,k,rv,(F.2 b (qaL (qbV _))).trans pD5.1⟩
     ·rw[upd_ne hb]at e
      refine (hok' b u e).stay (λ_ _ _ q=>q) (λc q=>?_) λc z q=>?_
      all_goals first
       |(rw[upd_ne (aJ q hD4)];exact q)
       |(rw[upd_ne (aJ z hD4)];exact z)
    refine⟨.ref D,upd H4 D (.lst V),?_,rfl,qn D hD4⟩;refine I2.call' (s':={ s5 with heap:=h' }) (ch:=fp) ?_ ⟨λb o e nb hb P=>?_,λb o e nb hb P=>?_,λb o e nb P=>?_,λb o e P=>?_,λb xs e=>?_,λb o u e=>?_,λb ps e=>?_⟩ hokD I5.bare (λb hb=>?_)
    ·have:=I5.os
     rw[<-d]at this;exact this
    ·exact (F.2 b (t b o e).2).trans (w.keep b o e nb hb P)
    ·obtain⟨sl,q⟩:=w.slot b o e nb hb P
     exact⟨sl,(F.2 b (t b o e).2).trans q⟩
    ·rw[upd_ne (t b o e).1]
     exact w.free b o e nb P
    ·obtain⟨o',q⟩:=w.there b o e P
     exact⟨o',(F.2 b (t b o e).2).trans q⟩
    ·rw[upd_ne (aJ e h2D)]
     exact w.tups b xs e
    ·rw[upd_ne (aJ e h2D)]
     exact w.frzs b o u e
    ·obtain⟨m,q⟩:=w.tbls b ps e
     exact⟨m,by rw[upd_ne (aJ e h2D)];exact q⟩
    ·obtain⟨q0,q1,q2,q3,q4,q5⟩:=f2 b hb
     exact⟨q3,q1,q4,q5⟩
   ·-- a turn
    have hA:X'.A=X.A:=by rw[<-d];rfl
    have hP:X'.prog=X.prog:=by rw[<-d];rfl
    have hw:X'.w=X.w:=by rw[<-d];rfl
    have hE:X'.env=qha f j (D+1) X.env:=by rw[<-d];rfl
    have hxe:X'.xe=λ_ _=>False:=by rw[<-d];rfl
    have TI':=T.item X' hP hw (by rw[<-d];rfl) (by rw[<-d];exact hc) i _ s4 (emb σ) H4 (λ_ _=>False) I4 (E fr4 B) st4 go;rw[hA]at TI';refine thn TI' λr s5 ⟨u,hr,h5⟩=>?_;subst hr;refine thn h5 λ_ s6 ⟨x,H6,I6,r6,y6,st6,fr6⟩=>?_;have I6':=I6.pinned (E fr6 B) (T.obj _ _ st6);have G:=hg j A H2 (D+1) fp;have TT':=ht j A H2 (D+1) fp;have EE:=he j A H2 (D+1) fp;rw[d]at G TT' EE;have G':=G _ s6 (emb σ) H6 x u _ I6' r6 (step x H6 y6);rw[hA,hP,hw,hE,hxe]at G';refine thn G' λ_ s7 ⟨σ7,H7,I7,R,q7⟩=>?_;have T':=TT' _ s7 σ7 H7 _ I7 q7;rw[hA,hP,hw,hE,hxe]at T';refine thn T' λok s8 ⟨H8,I8,q8⟩=>?_
    -- what is pinned
    have l:∀ {σ9:St}{H9:Hp}{O:qak},Inv X' ([(D,({ cls:=.type "list",data:=.seq its.toArray k }:Obj))]++k7 fp s6.heap) σ9 H9 O->tn (i+1) O.heap/\∀ b∈fp,H9 b=none:=λ{σ9 H9 O} I9=>
     ⟨T.keep _ _ _ st6 λb hb o e=>(I9.pin (b,o) (qaw _ (qaw _ (cA hb e)))).1,λb hb=>by
      obtain⟨o,e,_⟩:=T.obj _ _ st6 b hb
      exact (I9.pin (b,o) (qaw _ (qaw _ (cA hb e)))).2.1⟩
    cases ok with
    |false=>
     rw[if_neg (by decide)]at q8;rw[if_neg (by decide)];obtain⟨m',hm,w8⟩:=hN _ _ q8;exact⟨m',hm,i+1,V,its,k,H8,I8.unpinned.weak R.1 R.2,rv,(l I8).1,(l I8).2,hlen,w8⟩
    |true=>
     rw[if_pos rfl]at q8;rw[if_pos rfl];have E':=EE _ s8 σ7 H8 _ I8 q8;rw[hA,hP,hw,hE,hxe]at E';refine thn E' λy O ⟨v9,H9,I9,r9,n9⟩=>?_;obtain⟨m',hm,w9⟩:=hN _ _ n9;have L:=I9.pin (D,{ cls:=.type "list",data:=.seq its.toArray k }) (qaw _ (qa9 _ qaf))
     have hl:=rv.length;have I9n:Inv X' [] σ7 H9 O:=I9.pins_of λp M=>nomatch M
     refine qcY qfm ⟨_,L.1,rfl⟩ qe7 (qe0 _ _) (qe5 D its.toArray k y (by rw[qaG];lia)) ⟨L.1,?_⟩;have up:∃ k':Nat,(O.heap.update D (qbY λxs=>xs.push y)).get? D=some { cls:=.type "list",data:=.seq (its++[y]).toArray k' }:=by
      have q:=qeY L.1 (λxs:Array Value=>xs.push y);simp only[qhq]at q;exact⟨_,q⟩
     obtain⟨k',up⟩:=up;have hoth:∀ b o,b≠D->O.heap.get? b=some o->(O.heap.update D (qbY λxs=>xs.push y)).get? b=some o:=λb o hb e=>(qdl O.heap _ (qbC hb)).trans e;have I10:=I9n.turned (t':=O.toks) hoth L.2.1 Dloc Dex Dcell (λp M=>absurd (show p∈([]:List (Addr×Obj)) by rw[<-d]at M;exact M) (by simp));refine⟨m',hm,i+1,V++[v9],its++[y],k',H9,(I10.weak R.1 R.2).pins_of (λp M=>?_),rv.append (.cons r9 .nil),T.keep _ _ _ (l I9).1 (λb hb o e=>hoth b o (by rw[<-hD];exact qaL (fplt b hb)) e),(l I9).2,?_,w9⟩
     ·have:=qap.mp M
      subst this;exact⟨up,L.2.1,Dloc,Dfs,λv z=>by cases z⟩
     ·rw[qaB,qcj]
      lia
  ·have q:lo={ cls:=.type "list",data:=.seq ([]:List Value).toArray 0 }:=hlo.symm
   rw[<-q];exact I3
  ·exact T.keep _ _ _ Y λb hb o e=>qcT _ _ b o (qaj _ (qaj _ e))
 refine qhm ?_ ?_
 ·exact K _ rfl
 ·refine T.self X.A 0 _ _ _ (T.keep _ _ _ Y λb hb o e=>qcT _ _ b o (qaj _ (qaj _ e))) ?_
  exact K _ rfl
end
end L2
namespace L2
open PySem PySem.Spec PyProof.Rows
open PySem.AutoSeq1 (wpAny_loadPart')
section
variable {prog:qaQ}{w:World}{A:qa2}{E:Value->qak->Prop}{s:qak}
def fD {it l:Addr}{i:Nat}{b}{x:Value}{Q:Value->qak->Prop} (c:s.heap.IsTupleIter it l i)
  (t:s.heap.IsTuple l b) (q:b[i]?=some x)
  (u:∀ h',h'.IsTupleIter it l (i+1)->qc6 it s.heap h'->Q x { s with heap:=h' }) :
  wpAny (model prog w) A (qbe (.ref it)) Q E s:=by
 obtain⟨o,d,z,hd⟩:=id c;obtain⟨D,f,_,F,g⟩:=t;unfold qbe
 refine qab (qbG (name:=qc7 "__next__") c.typeIs qcX
  (qbN qcX c.typeIs qgd ?_ (qf5 _)))
 show wpAny _ _ (field (.ref it) 0 >>= _) _ _ s;refine qab (qb5 d hd (x:=.ref l) rfl ?_);show wpAny _ _ (if (Value.ref l==Value.none)=true then _ else _) _ _ s;rw[if_neg (show ¬ ((Value.ref l==Value.none)=true) from qaC)];show wpAny _ _ (field (.ref it) 1 >>= _) _ _ s;refine qab (qb5 d hd (x:=.int i 0) rfl ?_);show wpAny _ _ (seqItems? (.ref l) >>= _) _ _ s;refine qab (qcJ f g ?_);simp only[qbg,q];refine qab (qfa d hd (by simp) (qan ⟨x,rfl,qan (u _ ?_ (qdq ..))⟩))
 exact⟨_,qet _ d (qgJ (qdT hd _)),(qhB ..).trans z,by
  rw[qdT hd];simp[qeS]⟩
def fZ {it l:Addr}{i:Nat}{b}{Q:Value->qak->Prop} (n:A.handled=none)
  (c:s.heap.IsTupleIter it l i) (t:s.heap.IsTuple l b) (q:b[i]?=none)
  (y:∀ h' e,qg3 it s.heap h'->(∃ o,h'.get? e=some o/\o.cls=.type "StopIteration")->E (.ref e) { s with heap:=h' }) :
  wpAny (model prog w) A (qbe (.ref it)) Q E s:=by
 obtain⟨o,d,z,hd⟩:=id c;obtain⟨D,f,_,F,g⟩:=t;unfold qbe
 refine qab (qbG (name:=qc7 "__next__") c.typeIs qcX
  (qbN qcX c.typeIs qgd ?_ (qf5 _)))
 show wpAny _ _ (field (.ref it) 0 >>= _) _ _ s;refine qab (qb5 d hd (x:=.ref l) rfl ?_);show wpAny _ _ (if (Value.ref l==Value.none)=true then _ else _) _ _ s;rw[if_neg (show ¬ ((Value.ref l==Value.none)=true) from qaC)];show wpAny _ _ (field (.ref it) 1 >>= _) _ _ s;refine qab (qb5 d hd (x:=.int i 0) rfl ?_);show wpAny _ _ (seqItems? (.ref l) >>= _) _ _ s;refine qab (qcJ f g ?_);simp only[qbg,q];refine qab (qde (qab (qfa d hd (by simp) ?_)));show wpAny _ _ (newExc (.type "StopIteration") [] >>= _) _ _ _
 refine qab ?_;simp only[newExc,newTuple];refine qab (qbF ?_ (by size_fits));refine qab (m:=qfb _ _) (wpAny_of_eq (a:=Value.none) (by first|rfl|(simp only[qfb];rfl)) ?_)
 refine qbF ?_ (by size_fits);simp only[raiseNew];refine qab (wpAny_handled ?_)
 first|rw[show A.in1.handled=none from n]|rw[n]
 refine qab (qan (wpAny_throw ?_));exact y _ _ (((qdq ..).extBut.push _).push _) ⟨_,qav _ rfl,rfl⟩
def iG (n:A.handled=none) (it l:Addr) (p:l≠it) (b:Array Value) :
  Draws prog w A it [it,l] b.size (λi v=>b[i]?=some v) (λi h=>h.IsTupleIter it l i/\h.IsTuple l b) where
 live:=λ_ _ st=>let ⟨o,d,_⟩:=st.1;⟨o,d⟩
 frame:=λ_ _ _ st C=>⟨st.1.at λo e=>C it (by simp) o e,by
  obtain⟨o,e,r⟩:=st.2
  exact⟨o,C l (by simp) o e,r⟩⟩
 item:=λi s Q E B st u=>by
  refine fD st.1 st.2 (x:=b[i]) (by simp[B]) λh' k j=>?_;refine u _ h' s.toks (by simp[B]) ⟨k,?_⟩ j;obtain⟨o,e,r⟩:=st.2;exact⟨o,(j.2 l p).trans e,r⟩
 done:=λs Q E st y=>fZ n st.1 st.2 (by simp) y
end
def iU (l:Addr) (a:Array Value) (n:Nat) (dct:Option Addr) (i:Array (Option Value)) :
  Meets (qeg.«enumerate.__new__» ⟨[.type "enumerate",.ref l],[]⟩) (λ_ R s=>s.heap.get? l=some { cls:=.type "tuple",dict:=dct,data:=.seq a n,slots:=i }/\
   R (.ok (.ret (.ref (s.heap.push { cls:=.type "tuple_iterator",data:=.fields #[.ref l,.int 0 0] }).objs.size)))
    { s with heap:=(s.heap.push { cls:=.type "tuple_iterator",data:=.fields #[.ref l,.int 0 0] }).push { cls:=.type "enumerate",data:=.fields #[.none,.bool false,.ref s.heap.objs.size,qeS 0,.none,.none] } }):=
 .of_wp λprog w A R s h=>by
  obtain⟨j,g,d,k,os⟩:=s;obtain⟨b,h⟩:=h;have f:=sub_enumerate;have e:Heap.IsTuple (qgw ⟨j,g,d,k,os⟩) l a:=⟨_,b,rfl,n,rfl⟩
  wp_walk using wpAny_loadPart' b
  refine wpAny_stack_any λst=>qan ?_;split
  ·rename_i c _ _ _ _ _
   cases (c==Value.type "enumerate")
   ·wp_walk using wpAny_loadPart' b,qdr e
    exact⟨_,rfl,h⟩
   ·wp_walk using wpAny_loadPart' b,qdr e
    exact⟨_,rfl,h⟩
  ·wp_walk using wpAny_loadPart' b,qdr e
   exact⟨_,rfl,h⟩
def iS {prog:qaQ}{w:World}{A:qa2}{E:Value->qak->Prop}{s:qak}{l:Addr}{a:Array Value}{Q:Value->qak->Prop} (j:s.heap.IsTuple l a)
  (h:∀ h',IsEnum h' (s.heap.objs.size+1) s.heap.objs.size 0 .none->h'.IsTupleIter s.heap.objs.size l 0->h'.objs.size=s.heap.objs.size+2->
    (∀ b o,s.heap.get? b=some o->h'.get? b=some o)->Q (.ref (s.heap.objs.size+1)) { s with heap:=h' }) :
  wpAny (model prog w) A (call (.type "enumerate") [.ref l]) Q E s:=by
 obtain⟨⟨c,dct,dt,i⟩,g,d,n,hd⟩:=j;replace d:c=.type "tuple":=d
 replace hd:dt=.seq a n:=hd;subst d hd;refine callType_new F.called_enumerate (by decide) (F.typeCall_enumerate_1 _) (F.newCall_enumerate_1 _) (λobj=>F.args_object_init_2 obj _) F.entry_enumerate_new
  (iU l a n dct i) ⟨g,?_⟩
 have e:(s.heap.push { cls:=.type "tuple_iterator",data:=.fields #[.ref l,.int 0 0] }).objs.size=s.heap.objs.size+1:=qbq ..
 show _/\_;rw[e]
 have f:IsEnum ((s.heap.push { cls:=.type "tuple_iterator",data:=.fields #[.ref l,.int 0 0] }).push
   { cls:=.type "enumerate",data:=.fields #[.none,.bool false,.ref s.heap.objs.size,qeS 0,.none,.none] }) (s.heap.objs.size+1) s.heap.objs.size 0 .none:=by
  have:=qav (s.heap.push { cls:=.type "tuple_iterator",data:=.fields #[.ref l,.int 0 0] })
   (o:={ cls:=.type "enumerate",data:=.fields #[.none,.bool false,.ref s.heap.objs.size,qeS 0,.none,.none] }) rfl
  rw[e]at this;exact this
 refine⟨⟨_,f,rfl⟩,h _ f ⟨_,qaj _ (qav _ rfl),rfl,rfl⟩ (by rw[qbq,e]) λb o x=>qaj _ (qaj _ x)⟩
section
variable {X:Cx}{a:List (Addr×Obj)}{i:St}{H:Hp}{s:qak}{h':Heap}{fp:List Addr}
def jt.ch (h:∀ b∈fp,jt X a H b):∀ b∈fp,(b∈X.ex\/X.s₀.heap.objs.size<=b)/\b≠X.env.locals/\(∀ x c,X.env.cells.lookup x=some c->c≠b)/\∀ p∈X.pn++a,p.1≠b:=λb hb=>
 let ⟨_,f1,_,f3,f4,f5⟩:=h b hb
 ⟨f3,f1,f4,f5⟩
def Inv.turns {t':Nat} (I:Inv X a i H s) (h:∀ b∈fp,jt X a H b) (k:∀ b o,b∉fp->s.heap.get? b=some o->h'.get? b=some o):Inv X a i H { s with heap:=h',toks:=t' }:=by
 have g:∀ b u,H b=some u->b∉fp:=λb u e z=>by have:=(h b z).1;rw[e]at this;cases this
 refine I.step (g':=s.gens) (d':=s.drawn) (ch:=fp) (jt.ch h) (λb o _ _ d e _=>k b o d e) (λb o _ _ d e _=>⟨o.slots,k b o d e⟩) (λ_ _ _ _ n=>n)
  (λb o d e=>⟨o,k b o d e⟩) (λ_ _ e=>e) (λ_ _ _ e=>e) (λb ps e=>⟨#[],by rw[e];simp⟩) (λm hm=>?_) (λb u e=>?_) I.bare
 ·obtain⟨o,es,l,j,r⟩:=hm
  exact⟨o,es,l,k _ o (λz=>(h _ z).2.1 rfl) j,r⟩
 ·refine (I.hok b u e).stay (λc v d q=>k c v ?_ q) (λ_ q=>q) λ_ _ q=>q
  rcases d with z|z
  ·rw[z];exact g b u e
  ·exact g c _ z
def Inv.turnsT {t':Nat}{T:Addr}{xs:List V}{its:Array Value} (I:Inv X a i H s) (h:∀ b∈fp,jt X a H b) (k:∀ b o,b∉fp->s.heap.get? b=some o->h'.get? b=some o)
  (t:s.heap.objs.size<=T) (y:cW h' T its) (A:aI xs its.toList) (w:xs.length<=qaO):Inv X a i (upd H T (.tup xs)) { s with heap:=h',toks:=t' }:=by
 have g:∀ b u,H b=some u->b∉fp:=λb u e z=>by have:=(h b z).1;rw[e]at this;cases this
 have f:H T=none:=I.hok.fresh t;have lt:∀ b o,s.heap.get? b=some o->b≠T:=λb o e=>qaL (qaZ (qax e) t);refine I.step (g':=s.gens) (d':=s.drawn) (ch:=fp) (jt.ch h) (λb o _ _ d e _=>k b o d e) (λb o _ _ d e _=>⟨o.slots,k b o d e⟩) (λb o _ e n=>by rw[upd_ne (lt b o e)];exact n)
  (λb o d e=>⟨o,k b o d e⟩) (λb _ e=>by rw[upd_ne (aJ e f)];exact e) (λb _ _ e=>by rw[upd_ne (aJ e f)];exact e) (λb ps e=>⟨#[],by rw[upd_ne (aJ e f),e];simp⟩) (λm hm=>?_) (λb u e=>?_) I.bare
 ·obtain⟨o,es,l,j,r⟩:=hm
  exact⟨o,es,l,k _ o (λz=>(h _ z).2.1 rfl) j,r⟩
 ·by_cases hb:b=T
  ·subst hb
   rw[upd_same]at e;cases e;refine⟨w,its.toList,A,?_⟩;show cW h' b its.toList.toArray;simpa using y
  ·rw[upd_ne hb]at e
   refine (I.hok b u e).stay (λc v d q=>k c v ?_ q) (λc q=>?_) λc z q=>?_
   ·rcases d with z|z
    ·rw[z];exact g b u e
    ·exact g c _ z
   all_goals first
    |(rw[upd_ne (aJ q f)];exact q)
    |(rw[upd_ne (aJ z f)];exact z)
end
def Ite (S:Hp->List V->Prop):It:=
 ⟨λi H=>∃ xs x,S H xs/\xs[i]?=some x,λi H x H'=>∃ T v,(∀ xs,S H xs->xs[i]?=some v)/\H T=none/\x=.ref T/\H'=upd H T (.tup [.int i,v]),λi H=>∃ xs,S H xs/\xs.length=i⟩
def uN {P:qaQ}{w:World}{K:qae}{j:List Expr}{k:Nat}{pos:Pos} (a it e:Addr) (g:e≠it) (r:a≠e) (B:a≠it) :
  uY P w K (.Tuple j k pos) (Ite λH xs=>SqL K H a xs) [e,it] e (λi h=>(∃ f,IsEnum h e it i f)/\h.IsListIter it a i) where
 mem:=by simp
 obj:=λi h st b hb=>by
  rcases qaH.mp hb with rfl|hb
  ·obtain⟨⟨f,q⟩,_⟩:=st
   exact⟨_,q,λv z=>by cases z⟩
  ·rw[qap.mp hb]
   obtain⟨_,o,e,c,d⟩:=st;exact⟨o,e,λv z=>by rw[d]at z;cases z⟩
 keep:=λi h h' st M=>⟨let ⟨f,q⟩:=st.1;⟨f,M e (by simp) _ q⟩,st.2.at λo q=>M it (by simp) o q⟩
 item:=by
  intro X Q hw hK L i l s σ H E I F st hg;subst Q hw hK;obtain⟨xs,x,O,R⟩:=hg;obtain⟨its,V,p,hz⟩:=I.list O;obtain⟨u,hu,ru⟩:=V.get R;have W:=qe1 (qjG (prog:=X.prog) (w:=X.w) (A:=X.A.in1) (I.ok.hd L) it a B its.toArray) e g (by simp[g,qbC r]) (by simp);have hi:i<its.toArray.size:=by
   have:=(qas.mp hu).1
   simpa using this
  obtain⟨⟨ol,D⟩,m⟩:=st;refine qg5 (qjG (prog:=X.prog) (w:=X.w) (A:=X.A.in1) (I.ok.hd L) it a B its.toArray) D ⟨m,p.isList⟩ hi g (by simp[g,qbC r]) λy h1 t hy ho hs' ht hsz hk=>⟨_,rfl,?_⟩;have hm:(λ(i:Nat) (T:Addr) (h:Heap)=>(∃ x,IsEnumOut h e it ((i:Int)+1) x T)/\_/\T≠e/\T≠it) i s.heap.objs.size h1:=⟨⟨_,ho⟩,hs',qcc (qax D),qcc (let ⟨_,q,_⟩:=m;qax q)⟩;have M:∀ b o,b∉[e,it]->s.heap.get? b=some o->h1.get? b=some o:=λb o hb q=>hk b o (λz=>hb (by simp[z])) (λz=>hb (by simp[z])) q;generalize eT:s.heap.objs.size=T at ht ho hm ⊢;have hT:s.heap.objs.size<=T:=qdA eT;have n:∃ N,N=t+1:=⟨_,rfl⟩;obtain⟨N,n⟩:=n;rw[<-n];have ey:y=u:=by
   have J:its[i]?=some y:=by simpa using hy
   rw[hu]at J;exact (qaV J).symm
  subst ey;refine W.go j k pos i T _ _ _ hm λh2 G C=>?_;have nT:T∉[e,it]:=W.apart i T _ hm;refine⟨.ref T,upd H T (.tup [.int i,x]),?_,rfl,⟨T,x,λys hy=>by rw[I.list_inj hy O];exact R,I.hok.fresh hT,rfl,rfl⟩,⟨G.1,G.2.1⟩,λb hb=>?_⟩
  ·have Y:cW h2 T #[.int i t,y]:=⟨_,C T _ nT ht,rfl,⟨_,rfl⟩,rfl⟩
   have I2:Inv X l σ (upd H T (.tup [.int i,x])) { s with heap:=h2,toks:=N }:=
    I.turnsT (fp:=[e,it]) (h':=h2) (t':=N) (its:=#[.int i t,y]) F (λb o hb q=>C b o hb (M b o hb q)) hT Y (.cons ⟨t,rfl⟩ (.cons ru .nil)) (by show 2<=qaO;decide)
   exact I2
  ·rw[upd_ne (show b≠T from λz=>nT (z ▸ hb))]
   exact (F b hb).1
 done:=by
  intro X Q hw hK L i l s σ H E I F st hg;subst Q hw hK;obtain⟨xs,O,R⟩:=hg;obtain⟨its,V,p,hz⟩:=I.list O;have hl:=V.length;have S:its.toArray[i]?=none:=by simp;lia
  obtain⟨⟨f,he⟩,hit⟩:=st
  -- the end at place i
  obtain⟨f0,f1,f2,f3,f4,f5⟩:=F e (by simp);refine wpAny_pyNext_enum_end (I.ok.hd L) he hit p.isList S λh' eb=>⟨rfl,?_⟩;exact I.turns (t':=s.toks) (fp:=[e,it]) F λb o hb q=>eb b o (by simp at hb;exact hb.2) q
 self:=λ_ _ _ _ _ st h=>let ⟨⟨_,he⟩,_⟩:=st;qel he h
def u6 {P:qaQ}{w:World}{K:qae}{j:List Expr}{k:Nat}{pos:Pos} (a it e:Addr) (f:e≠it) (r:a≠e) (B:a≠it) :
  uY P w K (.Tuple j k pos) (Ite λH xs=>SqT K H a xs) [e,it] e (λi h=>(∃ g,IsEnum h e it i g)/\h.IsTupleIter it a i) where
 mem:=by simp
 obj:=λi h st b hb=>by
  rcases qaH.mp hb with rfl|hb
  ·obtain⟨⟨g,q⟩,_⟩:=st
   exact⟨_,q,λv z=>by cases z⟩
  ·rw[qap.mp hb]
   obtain⟨_,o,e,c,d⟩:=st;exact⟨o,e,λv z=>by rw[d]at z;cases z⟩
 keep:=λi h h' st C=>⟨let ⟨g,q⟩:=st.1;⟨g,C e (by simp) _ q⟩,st.2.at λo q=>C it (by simp) o q⟩
 item:=by
  intro X Q hw hK M i l s σ H E I N st hg;subst Q hw hK;obtain⟨xs,x,O,R⟩:=hg;obtain⟨its,S,p,hz⟩:=I.tuple O;obtain⟨u,hu,ru⟩:=S.get R;have W:=qe1 (iG (prog:=X.prog) (w:=X.w) (A:=X.A.in1) (I.ok.hd M) it a B its.toArray) e f (by simp[f,qbC r]) (by simp);have Y:i<its.toArray.size:=by
   have:=(qas.mp hu).1
   simpa using this
  obtain⟨⟨ol,F⟩,m⟩:=st;refine qg5 (iG (prog:=X.prog) (w:=X.w) (A:=X.A.in1) (I.ok.hd M) it a B its.toArray) F ⟨m,p⟩ Y f (by simp[f,qbC r]) λy h1 t hy ho hs' ht hsz hk=>⟨_,rfl,?_⟩;have hm:(λ(i:Nat) (T:Addr) (h:Heap)=>(∃ x,IsEnumOut h e it ((i:Int)+1) x T)/\_/\T≠e/\T≠it) i s.heap.objs.size h1:=⟨⟨_,ho⟩,hs',qcc (qax F),qcc (let ⟨_,q,_⟩:=m;qax q)⟩;have C:∀ b o,b∉[e,it]->s.heap.get? b=some o->h1.get? b=some o:=λb o hb q=>hk b o (λz=>hb (by simp[z])) (λz=>hb (by simp[z])) q;generalize eT:s.heap.objs.size=T at ht ho hm ⊢;have hT:s.heap.objs.size<=T:=qdA eT;have n:∃ G,G=t+1:=⟨_,rfl⟩;obtain⟨G,n⟩:=n;rw[<-n];have ey:y=u:=by
   have L:its[i]?=some y:=by simpa using hy
   rw[hu]at L;exact (qaV L).symm
  subst ey;refine W.go j k pos i T _ _ _ hm λh2 J D=>?_;have nT:T∉[e,it]:=W.apart i T _ hm;refine⟨.ref T,upd H T (.tup [.int i,x]),?_,rfl,⟨T,x,λys hy=>by rw[I.tuple_inj hy O];exact R,I.hok.fresh hT,rfl,rfl⟩,⟨J.1,J.2.1⟩,λb hb=>?_⟩
  ·have V:cW h2 T #[.int i t,y]:=⟨_,D T _ nT ht,rfl,⟨_,rfl⟩,rfl⟩
   have I2:Inv X l σ (upd H T (.tup [.int i,x])) { s with heap:=h2,toks:=G }:=
    I.turnsT (fp:=[e,it]) (h':=h2) (t':=G) (its:=#[.int i t,y]) N (λb o hb q=>D b o hb (C b o hb q)) hT V (.cons ⟨t,rfl⟩ (.cons ru .nil)) (by show 2<=qaO;decide)
   exact I2
  ·rw[upd_ne (show b≠T from λz=>nT (z ▸ hb))]
   exact (N b hb).1
 done:=by
  intro X Q hw hK M i l s σ H E I N st hg;subst Q hw hK;obtain⟨xs,O,R⟩:=hg;obtain⟨its,S,p,hz⟩:=I.tuple O;have hl:=S.length;have W:=qe1 (iG (prog:=X.prog) (w:=X.w) (A:=X.A.in1) (I.ok.hd M) it a B its.toArray) e f (by simp[f,qbC r]) (by simp);have Y:i=its.toArray.size:=by simp;lia
  subst Y;refine W.done s _ _ ⟨st.1,st.2,p⟩ λh' G C=>⟨rfl,I.turns (fp:=[e,it]) N C⟩
 self:=λ_ _ _ _ _ st h=>let ⟨⟨_,he⟩,_⟩:=st;qel he h
end L2
namespace L2
open PySem PySem.Spec PyProof.Rows
section
variable {X:Cx}
def Dz (K:qae) (w:TA):TI:=λx H R=>w x H λvs H1=>∃ a,vs=[.ref a]/\(∃ xs,SqL K H1 a xs)/\R (Ite λH xs=>SqL K H a xs) H1
def yn {g:List Expr}{k:Nat}{f:Pos}{a:Expr}{w:TA}{p pos:Pos} (hg:Gl X "enumerate") (hm:X.mg "enumerate" = none) (ha:PA X [a] w) (Y:qbt [a] X.env=[(false,eval a X.env)]:=by rfl) :
  PI X (.Tuple g k f) (.Call (.Name "enumerate" p) [a] [] pos) (Dz X.K w):=by
 intro c s x H R I h;refine Call_ (jT I hg hm qj5 (qb8 (thn (ha pos c s x H _ I h) λB s1 ⟨vs,H1,I1,P,q1⟩=>?_) Y rfl));obtain⟨l,e,⟨xs,E⟩,q⟩:=q1;subst e;cases P with
 |cons r y=>
  cases y;cases r;obtain⟨its,m,M,hz⟩:=I1.list E;refine call_enumerate_list M.isList λh' L C hsz D=>qel L ?_;have d:l<s1.heap.objs.size:=by obtain⟨_,_,e,_⟩:=M;exact qax e
  refine⟨_,[s1.heap.objs.size+1,s1.heap.objs.size],_,_,H1,rfl,I1.kept (t':=s1.toks) D,uN l s1.heap.objs.size (s1.heap.objs.size+1) (qhL _) (qaL (qbf d)) (qaL d),⟨⟨_,L⟩,C⟩,λb hb=>?_,q⟩;have j:s1.heap.objs.size<=b:=by
   rcases qaH.mp hb with e|hb
   ·rw[e];exact qc3 _
   ·rw[qap.mp hb];exact qar _
  exact I1.fpOk j (I1.hok.fresh j)
def C0 (K:qae) (w:TA):TI:=λx H R=>w x H λvs H1=>∃ a,vs=[.ref a]/\(∃ xs,SqT K H1 a xs)/\R (Ite λH xs=>SqT K H a xs) H1
def zF {g:List Expr}{k:Nat}{f:Pos}{a:Expr}{w:TA}{p pos:Pos} (hg:Gl X "enumerate") (hm:X.mg "enumerate" = none) (ha:PA X [a] w) (Y:qbt [a] X.env=[(false,eval a X.env)]:=by rfl) :
  PI X (.Tuple g k f) (.Call (.Name "enumerate" p) [a] [] pos) (C0 X.K w):=by
 intro c s x H R I h;refine Call_ (jT I hg hm qj5 (qb8 (thn (ha pos c s x H _ I h) λB s1 ⟨vs,H1,I1,P,q1⟩=>?_) Y rfl));obtain⟨l,e,⟨xs,E⟩,q⟩:=q1;subst e;cases P with
 |cons r y=>
  cases y;cases r;obtain⟨its,m,M,hz⟩:=I1.tuple E;refine iS M λh' L C hsz D=>qel L ?_;have d:l<s1.heap.objs.size:=by obtain⟨_,e,_⟩:=M;exact qax e
  refine⟨_,[s1.heap.objs.size+1,s1.heap.objs.size],_,_,H1,rfl,I1.kept (t':=s1.toks) D,u6 l s1.heap.objs.size (s1.heap.objs.size+1) (qhL _) (qaL (qbf d)) (qaL d),⟨⟨_,L⟩,C⟩,λb hb=>?_,q⟩;have j:s1.heap.objs.size<=b:=by
   rcases qaH.mp hb with e|hb
   ·rw[e];exact qc3 _
   ·rw[qap.mp hb];exact qar _
  exact I1.fpOk j (I1.hok.fresh j)
def uc {ns:List Int}:∀ {B:List Value},aI (ns.map V.int) B->∃ xs:Array (Int×Tok),B.toArray=intItems xs/\xs.toList.map (·.1)=ns:=by
 induction ns with
 |nil=>intro B r;cases r;exact⟨#[],by simp[intItems],rfl⟩
 |cons n ns ih=>
  intro B r;rw[qaq]at r;cases r with
  |cons r y=>
   obtain⟨t,rfl⟩:=r;obtain⟨xs,e,T⟩:=ih y;refine⟨#[(n,t)]++xs,?_,by simp[T]⟩;apply qhu.mp;have e':=congrArg qgu e;simp[intItems]at e' ⊢;exact e'
def x8:bY X (.builtin "sum") (λxs H Q=>X.calm=true/\∃ (a:Addr) (ns:List Int),xs=[.ref a]/\SqL X.K H a (ns.map V.int)/\Q (.int ns.sum) H):=by
 intro c s x H xs B Q I m h;obtain⟨S,a,ns,rfl,E,q⟩:=h;cases m with
 |cons r y=>
  cases y;cases r;obtain⟨its,m,p,hz⟩:=I.list E;obtain⟨ps,e1,T⟩:=uc m;have hl:=p.isList;rw[e1]at hl;refine sum_intListG (I.ok.hd S) hl λh' tk t' D=>?_;refine⟨.int ns.sum,H,I.kept (t':=tk) D,⟨t',?_⟩,q⟩;rw[preSum_eq,qdj (by simp),T]
def yW:bY X (.builtin "all") (λxs H Q=>X.calm=true/\∃ (a:Addr) (bs:List Bool),xs=[.ref a]/\SqL X.K H a (bs.map V.bl)/\Q (.bl (bs.all id)) H):=by
 intro c s x H xs B Q I m h;obtain⟨S,a,bs,rfl,E,q⟩:=h;cases m with
 |cons r y=>
  cases y;cases r;obtain⟨its,m,p,hz⟩:=I.list E;have d:a<s.heap.objs.size:=by obtain⟨_,_,e,_⟩:=p;exact qax e
  have N:its.length=bs.length:=by have:=m.length;simpa using this.symm
  refine call_all_walk (qek p.isList ?_);refine⟨s.heap.objs.size,_,_,_,_,_,λi=>(bs[i]?).getD true,rfl,qiN (A:=X.A.in1) (I.ok.hd S) s.heap.objs.size a (qaL d) its.toArray,⟨⟨_,qav _ rfl,rfl,rfl⟩,p.isList.push _⟩,?_,λh' tk D=>?_⟩
  ·intro i v s' Q' E' hv W
   have J:its[i]?=some v:=by simpa using hv
   have O:i<its.length:=(qas.mp J).1;obtain⟨b,hb⟩:∃ b,bs[i]?=some b:=⟨bs[i]'(by lia),by simp[show i<bs.length by lia]⟩
   have:(bs.map V.bl)[i]?=some (.bl b):=by rw[qaD,hb];rfl
   obtain⟨u,hu,ru⟩:=m.get this;rw[J]at hu;cases hu;cases ru;have G:Q' ((bs[i]?).getD true) s':=W;rw[hb]at G;exact qcA G
  ·refine⟨.bl (bs.all id),H,I.kept (t':=tk) (λb o e=>D b o (λz=>absurd (qax e) (by rw[qap.mp z];exact qa8 _)) (qaj _ e)),?_,q⟩
   show Value.bool _=Value.bool _
   congr 1
   have:∀ n,n=bs.length->((qag n).all λi=>(bs[i]?).getD true)=bs.all id:=by
    intro n hn;rw[qb4,qba,qba];constructor
    ·intro h b hb
     obtain⟨i,O,e⟩:=qcQ.mp hb
     have:=h i (qaU.mpr (by lia))
     simp[O,e]at this;exact this
    ·intro h i O
     have hi':=qaU.mp O;have F:i<bs.length:=by lia
     simp[F];exact h _ (qbU _)
   exact this _ (by simpa using N)
end
def gh (k:Nat) (js:List Nat) (a:St):St:=qaz k none++js.map λj=>(a[j]?).getD none
def wA (a:Scope) (ns:List (Str×qbQ)) (N Nc:List Str) (k:Nat) (js:List Nat):Bool:=
 decide ((a.names.map (·.1)).Nodup)&&decide Nc.Nodup&&decide (Nc.length=k+js.length) &&
 (a.names.all λx=>x.2 != .free||ns.lookup x.1==some .cell||ns.lookup x.1==some .free) &&
 ((qag js.length).all λi=>match Nc[k+i]?,js[i]? with|some x,some j=>N[j]?==some x&&a.names.lookup x==some .free|_,_=>false)
def tU {X:Cx}{a:Scope} (ns:List (Str×qbQ)) (N Nc:List Str) (k:Nat) (js:List Nat) (g:X.env.scope.names=ns) (l:X.N=N) (s:a.kind=.function) (h:wA a ns N Nc k js=true):dW X a Nc (gh k js):=by
 unfold wA at h;simp only[qbb,decide_eq_true_eq]at h;obtain⟨⟨⟨⟨w,m⟩,r⟩,p⟩,q⟩:=h;refine⟨s,w,m,λx n u=>?_,λe _=>?_,λe _ i x v t b=>?_⟩
 ·have:=qba.mp p x n
  rw[u]at this;simp only[qhQ,beq_iff_eq,bne_self_eq_false,qa0,false_or]at this;unfold qk9;rw[g];exact this
 ·unfold gh
  rw[qaB,qcK,qah,r]
 ·unfold gh at b
  by_cases d:i<k
  ·rw[qaK (by simpa using d),qda,if_pos d]at b
   cases b
  ·rw[qaP (by simpa using d),qcK,qaD]at b
   cases ej:js[i - k]? with
   |none=>rw[ej]at b;cases b
   |some j=>
    rw[ej]at b;have f:=(qas.mp ej).1
    have:=qba.mp q (i - k) (qaU.mpr f)
    rw[show k+(i - k)=i by lia,t,ej]at this;simp only[qbb,beq_iff_eq]at this;refine⟨j,by rw[l];exact this.1,?_,this.2⟩;have c:(e[j]?).getD none=some v:=qaV b;cases eq:e[j]? with
    |none=>rw[eq]at c;cases c
    |some o=>rw[eq]at c;rw[show o=some v from c]
def wV (names ns:List (Str×qbQ)):List (Str×qbQ):=names.map λx=>if (x.2==NameKind.free&&ns.lookup x.1==some .cell) then (x.1,.cell) else x
def mL {X:Cx}{a:Scope}{b:List (Str×Addr)}{Nc:List Str}{s:qak}{H:Hp}{C:Addr}{fp:List Addr}{ns:List (Str×qbQ)} (d:X.env.scope.kind=.function) (c:X.env.scope.names=ns) :
  (lcX X a b Nc s H C fp).env.scope.names=wV a.names ns:=by
 show (a.names.map _)=_;unfold wV
 congr 1
 funext x
 obtain⟨n,k⟩:=x;show (if (k==.free&&X.env.scope.kind==.function&&X.env.kindOf n==some .cell)=true then (n,NameKind.cell) else (n,k))=(if (k==.free&&ns.lookup n==some .cell)=true then (n,NameKind.cell) else (n,k));unfold qk9;rw[d,c,show (ScopeKind.function==ScopeKind.function)=true from rfl,qgj]
section
variable {a tl:St}{tt:TT}{te:TE}{H:Hp}{Q:VK}
end
section
variable {X:Cx}
def A8:OpR X (qby .Mult) (rI qhh λi j=>.int (i*j)):=opI λ_ _ _ _ _ _ _ a q=>mul_int q a
end
def aS.new {H:Hp}{p:Addr} (h:H p=none) (o:HO):aS H (upd H p o):=λb u q=>by rw[upd_ne (aJ q h)];exact q
def kS {n:Nat} (h:n<=1000):n<=qaO:=qeB (wT h)
def p18:sB 10 18:=⟨by decide,by decide,by decide⟩
end L2
namespace L2
open PySem PySem.Spec PyProof.Rows
open PySem.AutoSeq1 (wpAny_loadPart')
def yr (l:Addr) (a:Array Value) (n:Nat) (dct:Option Addr) (c:Array (Option Value)) (u:Tok) :
  Meets (qeg.«tuple.__mul__» ⟨[.ref l,.int 1 u],[]⟩) (λ_ R s=>s.heap.get? l=some { cls:=.type "tuple",dict:=dct,data:=.seq a n,slots:=c }/\R (.ok (.ret (.ref l))) s):=
 .of_wp λprog w A R s h=>by
  obtain⟨e,g,d,f,os⟩:=s;obtain⟨b,h⟩:=h
  wp_walk using wpAny_loadPart' b
  exact⟨_,rfl,h⟩
def xP (l:Addr) (a:Array Value) (n:Nat) (dct:Option Addr) (k:Array (Option Value)) (x:Int) (u:Tok) (o:2<=x) (q:x<1000) (f:a.isEmpty=false) (t:a.size<=1000)
  (hsz:((qaz x.toNat a).foldl (λc e=>c++e) #[]).size<=qaO) :
  Meets (qeg.«tuple.__mul__» ⟨[.ref l,.int x u],[]⟩) (λ_ R s=>s.heap.get? l=some { cls:=.type "tuple",dict:=dct,data:=.seq a n,slots:=k }/\
   R (.ok (.ret (.ref s.heap.objs.size))) { s with heap:=s.heap.push { cls:=.type "tuple",data:=.seq ((qaz x.toNat a).foldl (λc e=>c++e) #[]) } }):=
 .of_wp λprog w A R s h=>by
  obtain⟨v,g,d,p,os⟩:=s;obtain⟨b,h⟩:=h;have c1:(x < -(2^63)||x>=2^63)=false:=by simp;lia
  have c2:(a.isEmpty||x==1)=false:=by rw[f];simp;lia
  have i:(x<=0||a.isEmpty)=false:=by rw[f];simp;lia
  have m:(a.size:Int)*x<=1000000:=by
   have a1:(a.size:Int)*x<=1000*x:=qfu (by lia) (by lia);lia
  have j:¬ ((a.size:Int)*x > (2^63 - 1) / 8):=by lia
  have r:qeN ((a.size:Int)*x)=false:=by
   unfold qeN
   exact decide_eq_false (by have:(qaO:Nat)=16777216:=rfl
                             lia)
  wp_walk using wpAny_loadPart' b
  refine qeQ (decide_eq_false (by rw[c1];exact qaC)) ?_
  wp_walk using wpAny_loadPart' b
  refine qeQ (decide_eq_false (by rw[c2];exact qaC)) ?_
  wp_walk using wpAny_loadPart' b
  refine qeQ (decide_eq_false (by rw[i];exact qaC)) ?_
  wp_walk using wpAny_loadPart' b
  refine qeQ (decide_eq_false j) ?_
  wp_walk using wpAny_loadPart' b
  exact⟨_,rfl,h⟩
def xD (l:Addr) (a:Array Value) (n:Nat) (dct:Option Addr) (e:Array (Option Value)) (u:Tok) (b:a.isEmpty=false) :
  Meets (qeg.«tuple.__mul__» ⟨[.ref l,.int 0 u],[]⟩) (λ_ R s=>s.heap.get? l=some { cls:=.type "tuple",dict:=dct,data:=.seq a n,slots:=e }/\R (.ok (.ret (.ref s.heap.objs.size))) { s with heap:=s.heap.push { cls:=.type "tuple",data:=.seq #[] } }):=
 .of_wp λprog w A R s h=>by
  obtain⟨f,g,d,i,os⟩:=s;obtain⟨c,h⟩:=h;have c2:(a.isEmpty||(0:Int)==1)=false:=by rw[b];decide
  wp_walk using wpAny_loadPart' c
  exact⟨_,rfl,h⟩
def lj:fillsNumberSlot (.type "tuple") "mul" = pure false:=
 PySem.fillsNumberSlot_seq (id:="tuple.__mul__") (r:=some (.builtin "tuple.__rmul__")) qdG.lookup (by decide +kernel) qh3.lookup (by decide +kernel)
def qE:seqRepeat? (.type "tuple")=pure (some (.builtin "tuple.__mul__")):=by
 unfold seqRepeat?;rw[qhn (T:="tuple") (name:="__mul__") (id:="tuple.__mul__") qdG.lookup (by decide +kernel),qhn (T:="tuple") (name:="__rmul__") (id:="tuple.__rmul__") qh3.lookup (by decide +kernel)]
 rfl
def oj (a:Int) (t:Tok) (l:Addr) (b:Array Value) (n:Nat) (dct:Option Addr) (e:Array (Option Value)) :
  Meets (qeg.«int.__rmul__» ⟨[.int a t,.ref l],[]⟩) (λ_ R s=>s.heap.get? l=some { cls:=.type "tuple",dict:=dct,data:=.seq b n,slots:=e }/\R (.ok (.ret Value.notImplemented)) s):=
 .of_wp λprog w A R s h=>by obtain⟨f,g,d,i,os⟩:=s;obtain⟨c,h⟩:=h;wp_walk using wpAny_loadPart' c;exact⟨_,rfl,h⟩
section
variable {X:Cx}
def FP (K:qae):R2:=λx y H Q=>∃ l k xs,x=.ref l/\y=.int k/\SqT K H l xs/\xs≠[]/\xs.length<=1000/\0<=k/\k<1000/\(k=1->Q (.ref l) H)/\
 (k≠1->∀ p,H p=none->Q (.ref p) (upd H p (.tup (qaz k.toNat xs).flatten)))
def As:OpR X (qby .Mult) (FP X.K):=by
 intro w s N H x y v u Q I C F h;obtain⟨l,k,xs,rfl,rfl,G,b,m,L,B,D,z⟩:=h;cases C;obtain⟨t,rfl⟩:=F;obtain⟨its,r,p,M⟩:=I.tuple G;obtain⟨⟨c,dct,dt,f⟩,e,g,n,hd⟩:=p;replace g:c=.type "tuple":=g
 replace hd:dt=.seq its.toArray n:=hd;subst g hd;have a:=r.length;refine qgE (T:="tuple") (U:="int") (by decide) ⟨_,e,rfl⟩ (λs'=>qfQ s' k t) lj qiC qeJ qE qij.lookup
  (qcY qeJ (qfQ s k t) qil (qh5 _ _) (oj k t l its.toArray n dct f) ⟨e,rfl,⟨_,e,rfl⟩,?_⟩)
 by_cases j:k=1
 ·subst j
  exact qcY qdG ⟨_,e,rfl⟩ qfH (qfn _ _) (yr l its.toArray n dct f t) ⟨e,.ref l,H,I,rfl,D rfl⟩
 ·have f0:qga (λE A=>E++A) #[] (qaz k.toNat its.toArray)=(qaz k.toNat its).flatten.toArray:=by
   have:=ly its k.toNat []
   rw[qbd]at this;exact this
  have hsz:(qaz k.toNat xs).flatten.length<=qaO:=by
   rw[pY]
   have:k.toNat*xs.length<=1000*1000:=qcZ (by lia) m
   have J:qaO=16777216:=rfl;lia
  have hsz2:(qaz k.toNat its).flatten.length<=qaO:=by
   rw[pY]at hsz ⊢;rw[<-a];exact hsz
  have d:its.toArray.isEmpty=false:=by
   cases its with
   |nil=>cases xs with
    |nil=>exact absurd rfl b
    |cons _ _=>cases a
   |cons _ _=>rfl
  by_cases i:k=0
  ·subst i
   refine qcY qdG ⟨_,e,rfl⟩ qfH (qfn _ _) (xD l its.toArray n dct f t d) ⟨e,?_⟩;exact⟨.ref _,_,I.laid (t':=s.toks) (o:=.tup []) (λ_ _ q=>qaj _ q) (qar _) ⟨qch _,[],.nil,⟨_,qav _ rfl,rfl,⟨0,rfl⟩,rfl⟩⟩,rfl,z j _ I.fresh⟩
  refine qcY qdG ⟨_,e,rfl⟩ qfH (qfn _ _) (xP l its.toArray n dct f k t (by lia) B ?_ (by rw[qaG];lia) (by rw[f0,qaG];exact hsz2)) ⟨e,?_⟩
  ·cases its with
   |nil=>cases xs with
    |nil=>exact absurd rfl b
    |cons _ _=>cases a
   |cons _ _=>rfl
  ·rw[f0]
   refine⟨.ref _,_,I.laid (t':=s.toks) (o:=.tup (qaz k.toNat xs).flatten) (λ_ _ q=>qaj _ q) (qar _) ⟨hsz,(qaz k.toNat its).flatten,r.rep k.toNat,⟨_,qav _ rfl,rfl,⟨0,rfl⟩,rfl⟩⟩,rfl,z j _ I.fresh⟩
end
end L2
namespace L2
open PySem PySem.Spec PyProof.Rows
section
variable {X:Cx}{K:qae}
def EM (c:X.calm=true:=by rfl) (d:X.K=K:=by rfl):bY X (.builtin "sum") (λxs H Q=>∃ (a:Addr) (ns:List Int),xs=[.ref a]/\SqL K H a (ns.map V.int)/\Q (.int ns.sum) H):=by
 subst d;intro b s f H xs e Q I g h;exact x8 b s f H xs e Q I g ⟨c,h⟩
def EA (c:X.calm=true:=by rfl) (d:X.K=K:=by rfl):bY X (.builtin "all") (λxs H Q=>∃ (a:Addr) (bs:List Bool),xs=[.ref a]/\SqL K H a (bs.map V.bl)/\Q (.bl (bs.all id)) H):=by
 subst d;intro b s f H xs e Q I g h;exact yW b s f H xs e Q I g ⟨c,h⟩
end
section
variable {X:Cx}
end
def dA {n j:Nat} (h:j<n):ixN n (j:Int)=some j:=by
 unfold ixN;rw[if_pos (by lia),if_pos (by lia),qbg]
section
variable {X:Cx}{e:Expr}{ty:TE}{p1 j h d b c a:Pos}{k i g f:Nat}
end
end L2
namespace L2
open PySem PySem.Spec PyProof.Rows
open PySem.AutoSeq1 (wpAny_loadPart')
section
variable {prog:qaQ}{w:World}{A:qa2}{E:Value->qak->Prop}{s:qak}
end
section
variable {X:Cx}
def Bs:bY X (.type "range") (λxs H Q=>∃ j:Int,xs=[.int j]/\∀ p,H p=none->Q (.ref p) (upd H p (.rng 0 j))):=by
 intro a s e H xs d Q I c h;obtain⟨j,rfl,q⟩:=h;cases c with
 |cons r b=>
  cases b;obtain⟨t,rfl⟩:=r;exact call_range_1 ⟨.ref _,_,I.laid (o:=.rng 0 j) (λ_ _ q=>qaj _ q) (qar _) ⟨_,_,_,qav _ rfl⟩,rfl,q _ I.fresh⟩
end
section
variable {prog:qaQ}{w:World}{A:qa2}{E:Value->qak->Prop}{s:qak}
end
section
variable {X:Cx}{e:Expr}{te:TE}{p1 a b pos:Pos}{j:Nat}
end
end L2
namespace L2
open PySem PySem.Spec PyProof.Rows
def aI.at {xs:List V}{b:List Value} (r:aI xs b):∀ (j:Nat) (h:j<b.length) ,∃ h':j<xs.length,aQ xs[j] b[j]:=by
 induction r with
 |nil=>intro j h;exact absurd h (qcM j)
 |cons a t e=>
  intro j h;cases j with
  |zero=>exact⟨Nat.zero_lt_succ _,a⟩
  |succ j=>
   obtain⟨d,c⟩:=e j (qgA h);exact⟨Nat.succ_lt_succ d,c⟩
def og (e:Nat->Bool) (n:Nat):(qag (n+1)).all e=(e 0&&(qag n).all λj=>e (j+1)):=by
 rw[qdk,qbz,qgB];rfl
section
variable {X:Cx}{K:qae}{c:List (Addr×Obj)}{d:St}{H:Hp}{s:qak}{A:qa2}{a b:Addr}{xs e:List V}
end
section
variable {X:Cx}{pos p1 b:Pos}{c a:Nat}
end
section
variable {K:qae}{H:Hp}
end
section
variable {X:Cx}{K:qae}
end
end L2
namespace HT
open PySem PySem.Spec PyProof.Rows L2
section
variable {prog:qaQ}{w:World}{A:qa2}{E:Value->qak->Prop}{s:qak}
def getItem_tuple_all {t g:Addr}{a:Array Value}{l j:Value}{lo d:Option Int}{Q:Value->qak->Prop} (b:IsTup s.heap t a) (k:s.heap.IsSliceOf g l j .none) (o:qf3 l lo) (m:qf3 j d)
  (hw:sIx a.size 0 lo=0/\sIx a.size a.size d=a.size) (h:Q (.ref t) s):wpAny (model prog w) A (qeV (.ref t) (.ref g)) Q E s:=by
 obtain⟨os,i,e,n⟩:=id k;have f:s.TypeIs (.ref g) "slice":=⟨os,i,e⟩
 unfold qeV
 try with_reducible refine qcr ?_
 first|refine qab (qan ?_)|skip
 refine qab (qio b.typeIs (by decide) ?_)
 refine qab (qbG (name:=qc7 "__getitem__") b.typeIs qbB
  (qbN qbB b.typeIs qhX ?_ (qic _ _)))
 show wpAny _ _ (qeO (.ref t) >>= _) _ _ s;refine qab (tupleItemsOf_ b ?_);refine qab (qhv f ?_);rw[if_pos (by decide)];refine qab (gg k o m ?_);have c:(((sIx a.size 0 lo:Nat):Int)==0&&(1:Int)==1&&(sIx a.size a.size d - sIx a.size 0 lo)==a.size)=true:=by
  rw[hw.1,hw.2]
  simp
 show wpAny _ _ (if (((sIx a.size 0 lo:Nat):Int)==0&&(1:Int)==1&&(sIx a.size a.size d - sIx a.size 0 lo)==a.size)=true then _ else _) _ _ s;rw[if_pos c];unfold qiE;refine qab (qab (qhv b.typeIs (qan ?_)));show wpAny _ _ (if ((Value.type "tuple")==(Value.type "tuple"))=true then _ else _) _ _ s
 rw[if_pos (beq_self_eq_true _)]
 first
  |exact qab (qde (qan ⟨_,rfl,qan h⟩))
  |exact qab (qab (qde (qan (qan ⟨_,rfl,qan h⟩))))
  |exact qab (qde (qab (qan (qan ⟨_,rfl,qan h⟩))))
  |exact qab (qde (qab (qan ⟨_,rfl,qan h⟩)))
end
end HT
namespace L2
open PySem PySem.Spec PyProof.Rows
def ES (K:qae):V->Option Int->Option Int->Hp->VK->Prop:=λx lo b H Q=>∃ a xs,x=.ref a/\SqT K H a xs/\
 ((¬ (HT.sIx xs.length 0 lo=0/\HT.sIx xs.length xs.length b=xs.length)/\∀ p,H p=none->Q (.ref p) (upd H p (.tup (qD xs lo b))))\/
   ((HT.sIx xs.length 0 lo=0/\HT.sIx xs.length xs.length b=xs.length)/\Q (.ref a) H))
def Da {X:Cx}{K:qae} (l:X.K=K:=by rfl):SlR X (ES K):=by
 subst l;intro c s m H x v p n lo k o Q I e j i g h;obtain⟨a,xs,rfl,d,h⟩:=h;rcases h with⟨hw,q⟩|⟨hw,q⟩
 ·exact Ej c s m H _ v p n lo k o Q I e j i g ⟨a,xs,rfl,d,hw,q⟩
 ·cases e
  obtain⟨its,r,f,t⟩:=I.tuple d;have b:its.toArray.size=xs.length:=by rw[qaG];exact r.length.symm
  refine⟨"tuple",_,qbB.lookup,f.typeIs,?_⟩
  exact HT.getItem_tuple_all f j i g (by rw[b];exact hw) ⟨.ref a,H,I,rfl,q⟩
section
variable {X:Cx}{d:Scope}{Nc:List Str}{emb:St->St}{O iter tg:Expr}{L:List Expr}{pos:Pos}{wi:TI}{g:TG}{tt:TT}{te:TE}
def Ce {i0:Nat}{x0:Str}{py spos:Pos} (hN0:X.N.Nodup) (hi0:X.N[i0]?=some x0) (hx0:Loc X.env.scope x0) (S:dW X d Nc emb) (hc:X.calm=true) (hi:PI X tg iter wi)
  (hg:∀ j s H C fp,PG (lcX X d j Nc s H C fp) tg g) (ht:∀ j s H C fp,PTs (lcX X d j Nc s H C fp) L tt) (he:∀ j s H C fp,PE (lcX X d j Nc s H C fp) O te)
  (hsw:qcB (.ListComp O [⟨tg,iter,L,0⟩] d pos) (some (.Name x0 py)) spos.line X.env=pure true:=by rfl)
  (hf0:X.fn x0=true\/X.env.scope.names.lookup x0=some .local:=by first|exact .inl rfl|exact .inr rfl|assumption)
  (hs:∀ x,qb6 iter X.env x=pure x:=by intro _;rfl):PS X (.Assign [.Name x0 py] (.ListComp O [⟨tg,iter,L,0⟩] d pos) spos) (Ek (tLc emb wi g tt te) (rE i0)):=by
 intro w s σ H DD I h;rw[exec_Assign_Name_used _ _ _ _ hsw];refine qab (qfx (qab ?_));show wpAny _ X.A (do let _ <-comprehension (.ListComp O [⟨tg,iter,L,0⟩] d pos) d X.env _ (newList []) false (eval iter X.env) (some (qfc (.Name x0 py) X.env))) _ _ s;refine qab (qco (qgR (use:=some (qfc (.Name x0 py) X.env)) (Q:=λ_ s'=>SP X w DD .next s') rfl hs (jC (S.clos I.ok)) S.kind (λx hx hl=>dY S.nd (by rw[<-hl];exact hx)) ?_) (λ_ s' hq=>qan (qan hq)) λ_ _ e=>e);refine thn (hi w s σ H _ I h) λv s1 h1=>thn h1 λitv E h2=>?_;obtain⟨it,fp,tn,J,H2,e,I2,T,st2,f2,W,⟨m0,w0⟩,turn⟩:=h2;subst e;refine qbF (kj ?_);rw[show (E.heap.push { cls:=.type "list",dict:=none,data:=.seq ([]:List Value).toArray }).objs.size=E.heap.objs.size+1 from qbq ..]
 generalize hD:E.heap.objs.size=D;generalize hlo:({ cls:=.type "list",dict:=none,data:=.seq ([]:List Value).toArray }:Obj)=lo
 have fplt:∀ b∈fp,b<E.heap.objs.size:=λb hb=>by obtain⟨o,e,_⟩:=T.obj _ _ st2 b hb;exact qax e
 have I3:=tO (lo:=lo) S I2 f2 (λb hb=>by obtain⟨o,e,_⟩:=T.obj _ _ st2 b hb;exact⟨o,e⟩) (by rw[<-hlo];intro v z;cases z) (by rw[<-hlo];rfl);rw[hD]at I3;generalize hcells:qb1 (D+2) d.names (bJ X.env.cells d.names [])=j at I3;generalize f:lcX X d j Nc E H2 (D+1) fp=X' at I3;have M:∀ {H':Hp}{ps:List (Addr×Obj)},(∀ b∈fp,H' b=none)->(∀ p∈ps,p.1=D)->∀ b∈fp,jt X' ps H' b:=λ{H' ps} hn K b hb=>by
  have ok:=I3.ok;refine⟨hn b hb,?_,?_,.inl (by rw[<-f];exact hb),?_,λp V=>?_⟩
  ·exact (ok.exf b (by rw[<-f];exact hb)).1
  ·exact ok.exfs b (by rw[<-f];exact hb)
  ·exact (ok.exf b (by rw[<-f];exact hb)).2
  ·have hp':p∈([]:List (Addr×Obj))++ps:=by rw[<-f]at V;exact V
   have e:p.1=D:=K p (by simpa using hp');rw[e,<-hD];exact qcc (fplt b hb)
 have Dex:D∈X'.ex\/X'.s₀.heap.objs.size<=D:=.inr (by rw[<-f,<-hD];exact qar _);have Dloc:D≠X'.env.locals:=by rw[<-f];exact qaL (qbV _)
 have pD:=I3.pin (D,lo) (by rw[<-f];exact qaw _ qaf);have Dfs:D∉X'.fs:=pD.2.2.2.1;have Dcell:∀ x c,X'.env.cells.lookup x=some c->c≠D:=λx c hc' e=>by
  obtain⟨v,o,ho,hd⟩:=I3.cell x c hc';rw[e,pD.1]at ho;cases ho;exact pD.2.2.2.2 v hd
 -- the P
 have P:∀ s3:qak,s3={ E with heap:=qeT ((E.heap.push lo).push { cls:=.type "dict",data:=.dict #[] }) d.names }->
   qff (model X.prog X.w) X.A (.compLoop (.ListComp O [⟨tg,iter,L,0⟩] d pos) 0 (.ref it) (.ref D) (qha d j (D+1) X.env))
    (compPost (model X.prog X.w) X.A X.xe (some (qfc (.Name x0 py) X.env)) (λ_ s'=>SP X w DD .next s') (.ref D) (D+1)) s3:=by
  rintro s3 rfl
  refine dF (λn s'=>∃ i F its k H',Inv X' [(D,{ cls:=.type "list",data:=.seq its.toArray k })] (emb σ) H' s'/\aI F its/\tn i s'.heap/\(∀ b∈fp,H' b=none)/\F.length<=qaO/\W i n F H') ?_ m0
   ⟨0,[],[],0,H2,?_,.nil,?_,λb hb=>(f2 b hb).1,qch _,w0⟩
  ·rintro n s4 ⟨i,F,its,k,H4,I4,rv,st4,fr4,hlen,w4⟩
   have K:∀ p∈[(D,({ cls:=.type "list",data:=.seq its.toArray k }:Obj))],p.1=D:=λp V=>by
    have:=qap.mp V
    rw[this]
   rcases turn i n F H4 w4 with⟨stop,qn⟩|⟨go,hlt,N,hN,step⟩
   ·-- the end
    have TD:=T.done X' (by rw[<-f];rfl) (by rw[<-f];rfl) (by rw[<-f];rfl) (by rw[<-f];exact hc) i _ s4 (emb σ) H4 (λ_ _=>False) I4 (M fr4 K) st4 stop;rw[show X'.A=X.A by rw[<-f];rfl]at TD;refine thn TD λr s5 ⟨hr,I5⟩=>?_;subst hr;obtain⟨m5,hn5,_⟩:=id I5.loc;have eC:X'.env.locals=D+1:=by rw[<-f];rfl
    rw[eC]at hn5
    suffices inv5:∀ h',qc6 (D+1) s5.heap h'->Inv X w σ (upd H4 D (.lst F)) { s5 with heap:=h' } by
     have I5X:Inv X w σ (upd H4 D (.lst F)) s5:=inv5 s5.heap ⟨rfl,λ_ _=>rfl⟩;have hD4':H4 D=none:=(I5.pin (D,{ cls:=.type "list",data:=.seq its.toArray k }) (by rw[<-f];exact qaw _ qaf)).2.1
     have hC4:upd H4 D (.lst F) (D+1)=none:=by
      have:=I5.free
      rw[eC]at this;rw[upd_ne (qcc (qbV D))];exact this
     have fpC:∀ b∈[D+1],jt X w (upd H4 D (.lst F)) b:=λb hb=>by
      have e:=qap.mp hb;subst e;exact I2.fpOk (by rw[hD];exact qc3 D) hC4
     obtain⟨oC,esC,epC,getC,datC,relC⟩:=id hn5;have I5p:=I5X.pinned fpC λb hb=>by
      have e:=qap.mp hb;subst e;exact⟨oC,getC,λv z=>by rw[datC]at z;cases z⟩
     refine qip (nh I5p hN0 hi0 hx0 (v:=.ref D) rfl (λs6 I6=>?_) hf0);have pC:=(I6.pin (D+1,oC) (qaw _ (qaw _ (cA qaf getC)))).1;refine⟨m5,⟨oC,esC,epC,pC,datC,relC⟩,λh' A=>?_⟩;have I6u:=I6.unpinned;exact⟨_,_,I6u.turns (t':=s6.toks) fpC (λb o hb e=>(A.2 b (λz=>hb (by rw[z];exact qaf))).trans e),qn D hD4'⟩
    intro h' A;have pD5:=I5.pin (D,{ cls:=.type "list",data:=.seq its.toArray k }) (by rw[<-f];exact qaw _ qaf)
    have neC:∀ b u,H4 b=some u->b≠D+1:=λb u e z=>by
     have:=I5.free
     rw[eC,<-z,e]at this;cases this
    have hD4:H4 D=none:=pD5.2.1;have un:=I5.base;have B:Un (frs X.stack) fp H2 H4 E.heap s5.heap:=by rw[<-f]at un;exact un
    have t:∀ b o,E.heap.get? b=some o->b≠D/\b≠D+1:=λb o e=>by
     have q:=qax e;rw[hD]at q;exact⟨qaL q,qaL (qbf q)⟩
    have h2D:H2 D=none:=by rw[<-hD];exact I2.fresh
    have hok':HOk X.prog X.w H4 h':=λb u e=>by
     have ob:bG X.prog X.w H4 s5.heap b u:=by have:=I5.hok b u e;rw[<-f]at this;exact this
     refine ob.stay (λc v hcv q=>(A.2 c ?_).trans q) (λ_ q=>q) λ_ _ q=>q;rcases hcv with z|z
     ·rw[z];exact neC b u e
     ·exact neC c _ z
    have hokD:HOk X.prog X.w (upd H4 D (.lst F)) h':=λb u e=>by
     by_cases hb:b=D
     ·subst hb
      rw[upd_same]at e;cases e;exact⟨hlen,its,k,rv,(A.2 b (qaL (qbV _))).trans pD5.1⟩
     ·rw[upd_ne hb]at e
      refine (hok' b u e).stay (λ_ _ _ q=>q) (λc q=>?_) λc z q=>?_
      all_goals first
       |(rw[upd_ne (aJ q hD4)];exact q)
       |(rw[upd_ne (aJ z hD4)];exact z)
    refine I2.call' (s':={ s5 with heap:=h' }) (ch:=fp) ?_ ⟨λb o e nb hb hx=>?_,λb o e nb hb hx=>?_,λb o e nb hx=>?_,λb o e hx=>?_,λb xs e=>?_,λb o u e=>?_,λb ps e=>?_⟩ hokD I5.bare (λb hb=>?_)
    ·have:=I5.os
     rw[<-f]at this;exact this
    ·exact (A.2 b (t b o e).2).trans (B.keep b o e nb hb hx)
    ·obtain⟨sl,q⟩:=B.slot b o e nb hb hx
     exact⟨sl,(A.2 b (t b o e).2).trans q⟩
    ·rw[upd_ne (t b o e).1]
     exact B.free b o e nb hx
    ·obtain⟨o',q⟩:=B.there b o e hx
     exact⟨o',(A.2 b (t b o e).2).trans q⟩
    ·rw[upd_ne (aJ e h2D)]
     exact B.tups b xs e
    ·rw[upd_ne (aJ e h2D)]
     exact B.frzs b o u e
    ·obtain⟨m,q⟩:=B.tbls b ps e
     exact⟨m,by rw[upd_ne (aJ e h2D)];exact q⟩
    ·obtain⟨q0,q1,q2,q3,q4,q5⟩:=f2 b hb
     exact⟨q3,q1,q4,q5⟩
   ·-- a turn
    have hA:X'.A=X.A:=by rw[<-f];rfl
    have hP:X'.prog=X.prog:=by rw[<-f];rfl
    have hw:X'.w=X.w:=by rw[<-f];rfl
    have hE:X'.env=qha d j (D+1) X.env:=by rw[<-f];rfl
    have hxe:X'.xe=λ_ _=>False:=by rw[<-f];rfl
    have TI':=T.item X' hP hw (by rw[<-f];rfl) (by rw[<-f];exact hc) i _ s4 (emb σ) H4 (λ_ _=>False) I4 (M fr4 K) st4 go;rw[hA]at TI';refine thn TI' λr s5 ⟨u,hr,h5⟩=>?_;subst hr;refine thn h5 λ_ s6 ⟨x,H6,I6,r6,y6,st6,fr6⟩=>?_;have I6':=I6.pinned (M fr6 K) (T.obj _ _ st6);have G:=hg j E H2 (D+1) fp;have TT':=ht j E H2 (D+1) fp;have EE:=he j E H2 (D+1) fp;rw[f]at G TT' EE;have G':=G _ s6 (emb σ) H6 x u _ I6' r6 (step x H6 y6);rw[hA,hP,hw,hE,hxe]at G';refine thn G' λ_ s7 ⟨σ7,H7,I7,sb7,q7⟩=>?_;have T':=TT' _ s7 σ7 H7 _ I7 q7;rw[hA,hP,hw,hE,hxe]at T';refine thn T' λok s8 ⟨H8,I8,q8⟩=>?_
    -- what is pinned
    have l:∀ {σ9:St}{H9:Hp}{Y:qak},Inv X' ([(D,({ cls:=.type "list",data:=.seq its.toArray k }:Obj))]++k7 fp s6.heap) σ9 H9 Y->tn (i+1) Y.heap/\∀ b∈fp,H9 b=none:=λ{σ9 H9 Y} I9=>
     ⟨T.keep _ _ _ st6 λb hb o e=>(I9.pin (b,o) (qaw _ (qaw _ (cA hb e)))).1,λb hb=>by
      obtain⟨o,e,_⟩:=T.obj _ _ st6 b hb
      exact (I9.pin (b,o) (qaw _ (qaw _ (cA hb e)))).2.1⟩
    cases ok with
    |false=>
     rw[if_neg (by decide)]at q8;rw[if_neg (by decide)];obtain⟨m',hm,w8⟩:=hN _ _ q8;exact⟨m',hm,i+1,F,its,k,H8,I8.unpinned.weak sb7.1 sb7.2,rv,(l I8).1,(l I8).2,hlen,w8⟩
    |true=>
     rw[if_pos rfl]at q8;rw[if_pos rfl];have E':=EE _ s8 σ7 H8 _ I8 q8;rw[hA,hP,hw,hE,hxe]at E';refine thn E' λy Y ⟨v9,H9,I9,r9,n9⟩=>?_;obtain⟨m',hm,w9⟩:=hN _ _ n9;have R:=I9.pin (D,{ cls:=.type "list",data:=.seq its.toArray k }) (qaw _ (qa9 _ qaf))
     have hl:=rv.length;have I9n:Inv X' [] σ7 H9 Y:=I9.pins_of λp V=>nomatch V
     refine qcY qfm ⟨_,R.1,rfl⟩ qe7 (qe0 _ _) (qe5 D its.toArray k y (by rw[qaG];lia)) ⟨R.1,?_⟩;have up:∃ k':Nat,(Y.heap.update D (qbY λxs=>xs.push y)).get? D=some { cls:=.type "list",data:=.seq (its++[y]).toArray k' }:=by
      have q:=qeY R.1 (λxs:Array Value=>xs.push y);simp only[qhq]at q;exact⟨_,q⟩
     obtain⟨k',up⟩:=up;have hoth:∀ b o,b≠D->Y.heap.get? b=some o->(Y.heap.update D (qbY λxs=>xs.push y)).get? b=some o:=λb o hb e=>(qdl Y.heap _ (qbC hb)).trans e;have I10:=I9n.turned (t':=Y.toks) hoth R.2.1 Dloc Dex Dcell (λp V=>absurd (show p∈([]:List (Addr×Obj)) by rw[<-f]at V;exact V) (by simp));refine⟨m',hm,i+1,F++[v9],its++[y],k',H9,(I10.weak sb7.1 sb7.2).pins_of (λp V=>?_),rv.append (.cons r9 .nil),T.keep _ _ _ (l I9).1 (λb hb o e=>hoth b o (by rw[<-hD];exact qaL (fplt b hb)) e),(l I9).2,?_,w9⟩
     ·have:=qap.mp V
      subst this;exact⟨up,R.2.1,Dloc,Dfs,λv z=>by cases z⟩
     ·rw[qaB,qcj]
      lia
  ·have q:lo={ cls:=.type "list",data:=.seq ([]:List Value).toArray 0 }:=hlo.symm
   rw[<-q];exact I3
  ·exact T.keep _ _ _ st2 λb hb o e=>qcT _ _ b o (qaj _ (qaj _ e))
 refine qhm ?_ ?_
 ·exact P _ rfl
 ·refine T.self X.A 0 _ _ _ (T.keep _ _ _ st2 λb hb o e=>qcT _ _ b o (qaj _ (qaj _ e))) ?_
  exact P _ rfl
end
def ax:Expr->Bool
 |.Starred _ _=>false
 |_=>true
def aT {e:Expr}{es:List Expr}{env:Env} (h:ax e=true):qbt (e::es) env=(false,eval e env)::qbt es env:=by
 cases e<;>first|(cases h;done)|rfl
def bx {pos:Pos}{env:Env}:∀ {es:List Expr},es.all ax=true->(qeF pos (qbt es env)).any (·.1)=false
 |[],_=>by simp[qbt,qeF]
 |e::es,h=>by
  rw[qbz,qbb]at h;rw[aT h.1]
  have:=bx (pos:=pos) (env:=env) h.2
  unfold qeF at this ⊢;rw[qaq,qbZ,this];rfl
def rH {pos:Pos}{env:Env}{es:List Expr} (h:es.all ax=true) (a:es.length < 30):((qeF pos (qbt es env)).all (λx=>!x.1) && (qib pos (qgo [] env)).all (λx=>x.1.isSome)
   && decide (es.length+([]:List qh1).length+(if ([]:List qh1).isEmpty then 0 else 1)<30))=true:=by
 have d:(qeF pos (qbt es env)).all (λx=>!x.1)=true:=by
  have:=bx (pos:=pos) (env:=env) h
  rw[qba];intro x c;rw[qhs]at this;simpa using this x c
 have b:(qib pos (qgo [] env)).all (λx=>x.1.isSome)=true:=by simp[qgo,qib]
 rw[d,b];simpa using a
def iK {e:Expr}{env:Env} (h:ax e=true):qbt [e] env=[(false,eval e env)]:=by rw[aT h];rfl
def yb {e a:Expr}{env:Env} (h:ax e=true) (b:ax a=true):qbt [e,a] env=[(false,eval e env),(false,eval a env)]:=by rw[aT h,iK b]
def yp:Expr->Bool
 |.UnaryOp .Not _ _=>false
 |.BoolOp _ _ _=>false
 |.IfExp _ _ _ _=>false
 |.Compare _ _ _ _=>false
 |_=>true
def wL {a:Expr}{env:Env} (h:yp a=true):∀ whole,PySem.isTrue a env whole=(do let v <-whole;qjK a.pos;qfR [v] (truthy v)):=by
 intro whole;cases a with
 |UnaryOp op x p=>cases op<;>first|(cases h;done)|rfl
 |BoolOp _ _ _=>cases h
 |IfExp _ _ _ _=>cases h
 |Compare _ _ _ _=>cases h
 |_=>rfl
def oq {t:Expr}{ts:List Expr}{env:Env} (h:ax t=true):qbO (t::ts) env=(false,qfc t env)::qbO ts env:=by
 cases t<;>first|(cases h;done)|rfl
def qG {env:Env}:∀ {ts:List Expr},ts.all ax=true->(qbO ts env).length=ts.length
 |[],_=>by simp[qbO]
 |t::ts,h=>by
  rw[qbz,qbb]at h;rw[oq h.1,qam,qG h.2,qam]
def nj {env:Env}:∀ {ts:List Expr},ts.all ax=true->(qbO ts env).findIdx? (·.1)=none
 |[],_=>by simp[qbO]
 |t::ts,h=>by
  rw[qbz,qbb]at h;rw[oq h.1,List.findIdx?_cons,nj h.2];rfl
def wk {t:Expr}{ts:List Expr}{env:Env} (h:ax t=true):(qbO (t::ts) env).map (·.2)=qfc t env::(qbO ts env).map (·.2):=by rw[oq h];rfl
def pW {t:Expr}{env:Env} (h:ax t=true):(qbO [t] env).map (·.2)=[qfc t env]:=by rw[wk h];simp[qbO]
def qh:Expr->Bool
 |.Slice _ _ _ _=>false
 |_=>true
def rq {o i:Expr}{pos:Pos}{env:Env} (h:qh i=true) (v:Value):qfc (.Subscript o i pos) env v=(do
   let ov <-qfR [v] (eval o env)
   let iv <-qfR [v,ov] (eval i env)
   qjK pos
   qfR [v,ov,iv] (qjM ov iv v)
   release [v,ov,iv] []):=by
 cases i<;>first|(cases h;done)|rfl
def su {i:Expr} (h:qh i=true):vO i:=by
 intro o j;cases i<;>first|(cases h;done)|rfl
inductive D where
 |non|bl (b:Bool)|int (i:Int)|str (x:Str)|ty (n:String)|dct|scr (ns:List Int)|tup (ds:List D)|lst (ds:List D)|ob (ns:List Str) (ds:List D)
 deriving Inhabited
inductive W where
 |d (x:D)|h (n:Nat)
 deriving Inhabited
inductive C where
 |l (ds:List D)|n (ws:List W)|m (kvs:List (List Int×D))|k (kvs:List (Int×D))|o (fs:List (Str×W))
 deriving Inhabited
abbrev Sto:=List C
def lg (st:Sto) (n:Nat):Option (List D):=match st[n]? with
 |some (.l ds)=>some ds
 |_=>none
def fQ (l:List Int):List Key:=l.map Sum.inl
abbrev Ev:=List (Option W)
def KLs (K:qae) (a:Addr) (xs:List V):Prop:=
 ∃ (o:Obj) (its:Array Value) (n:Nat),K.lookup a=some o/\o.cls=.type "list"/\o.dict=none/\o.data=.seq its n/\its.size<=qaO/\aI xs its.toList
section
variable (K:qae) (H:Hp) (φ:List Addr)
mutual
def Rl:D->V->Prop
 |.non,v=>v=.non
 |.bl b,v=>v=.bl b
 |.int i,v=>v=.int i
 |.str x,v=>v=.str x
 |.ty n,v=>v=.ty n
 |.dct,v=>∃ a,v=.ref a/\a∉φ/\((∃ d,H a=some (.dK d))\/∃ d,H a=some (.dT d))
 |.scr ns,v=>∃ a,v=.ref a/\((∃ o,H a=some (.frz o (.lst (ns.map V.int))))\/KLs K a (ns.map V.int))
 |.tup ds,v=>∃ a vs,v=.ref a/\H a=some (.tup vs)/\Rls ds vs
 |.lst ds,v=>∃ a vs,v=.ref a/\a∉φ/\Rd H a (.lst vs)/\Rls ds vs
 |.ob ns ds,v=>∃ a Cl dx fs vs,v=.ref a/\a∉φ/\H a=some (.ins Cl dx fs)/\fs=ns.zip vs/\ns.length=vs.length/\5<ns.length/\Cls K Cl/\(∀ f∈ns,cw K Cl f)/\Rls ds vs
def Rls:List D->List V->Prop
 |[],vs=>vs=[]
 |d::ds,vs=>∃ v r,vs=v::r/\Rl d v/\Rls ds r
end
def Rw:W->V->Prop
 |.d x,v=>Rl K H φ x v
 |.h n,v=>∃ a,φ[n]?=some a/\v=.ref a
def Rws:List W->List V->Prop
 |[],vs=>vs=[]
 |d::ds,vs=>∃ v r,vs=v::r/\Rw K H φ d v/\Rws ds r
def Rkv:List (List Int×D)->List (List Key×V)->Prop
 |[],vs=>vs=[]
 |(k,d)::ds,vs=>∃ v r,vs=(fQ k,v)::r/\Rl K H φ d v/\Rkv ds r
def Rkk:List (Int×D)->List (Key×V)->Prop
 |[],vs=>vs=[]
 |(k,d)::ds,vs=>∃ v r,vs=(Sum.inl k,v)::r/\Rl K H φ d v/\Rkk ds r
def Rfs:List (Str×W)->List (Str×V)->Prop
 |[],vs=>vs=[]
 |(k,d)::ds,vs=>∃ v r,vs=(k,v)::r/\Rw K H φ d v/\Rfs ds r
def Rc (k:Nat) (a:Addr):C->Prop
 |.l ds=>∃ vs,H a=some (.lst vs)/\Rls K H φ ds vs
 |.n ws=>∃ vs,H a=some (.lst vs)/\Rws K H φ ws vs/\∀ m,W.h m∈ws->m<k
 |.m e=>∃ vs,H a=some (.dT vs)/\Rkv K H φ e vs
 |.k e=>∃ vs,H a=some (.dK vs)/\Rkk K H φ e vs
 |.o fs=>∃ Cl dx vs,H a=some (.ins Cl dx vs)/\Rfs K H φ fs vs/\(∀ m,W.h m∈fs.map (·.2)->m<k)/\Cls K Cl/\∀ p∈fs,cw K Cl p.1
structure Sr (st:Sto):Prop where
 nd:φ.Nodup
 len:φ.length=st.length
 at_:∀ (n:Nat) a c,φ[n]?=some a->st[n]?=some c->Rc K H φ n a c
structure Er (env:Ev) (σ:St):Prop where
 len:env.length=σ.length
 at_:∀ (i:Nat) w,env[i]?=some (some w)->∃ v,σ[i]?=some (some v)/\Rw K H φ w v
end
structure Fw (φ φ':List Addr) (H H':Hp):Prop where
 ext:∃ ψ,φ'=φ++ψ/\∀ a∈ψ,H a=none
 keep:∀ b o,b∉φ->H b=some o->H' b=some o
 there:∀ b o,H b=some o->∃ o',H' b=some o'
section
variable {K:qae}{H H1 H2 H':Hp}{φ y t φ':List Addr}{st Q:Sto}
def Fw.refl (φ:List Addr) (H:Hp):Fw φ φ H H:=⟨⟨[],by simp,by simp⟩,λ_ _ _ h=>h,λ_ o h=>⟨o,h⟩⟩
def Fw.trans (a:Fw φ y H H1) (b:Fw y t H1 H2):Fw φ t H H2:=by
 obtain⟨ψ,rfl,g⟩:=a.ext;obtain⟨G,rfl,j⟩:=b.ext;refine⟨⟨ψ++G,by rw[qcx],λc B=>?_⟩,λc o B h=>?_,λc o h=>?_⟩
 ·rcases qaY.mp B with z|z
  ·exact g c z
  ·cases q:H c with
   |none=>rfl
   |some o=>
    obtain⟨J,O⟩:=a.there c o q;rw[j c z]at O;cases O
 ·refine b.keep c o (λz=>?_) (a.keep c o B h)
  rcases qaY.mp z with z|z
  ·exact B z
  ·rw[g c z]at h;cases h
 ·obtain⟨J,q⟩:=a.there c o h
  exact b.there c J q
def Fw.same (s:aS H H'):Fw φ φ H H':=⟨⟨[],by simp,by simp⟩,λb o _ h=>s b o h,λb o h=>⟨o,s b o h⟩⟩
def Fw.new {p:Addr}{o:HO} (F:H p=none):Fw φ φ H (upd H p o):=.same (aS.new F o)
def Fw.get (f:Fw φ φ' H H') {n:Nat}{a:Addr} (h:φ[n]?=some a):φ'[n]?=some a:=by
 obtain⟨ψ,rfl,_⟩:=f.ext;rw[qaK (qas.mp h).1];exact h
def Fw.nin (f:Fw φ φ' H H') {a:Addr}{o:HO} (h:a∉φ) (q:H a=some o):a∉φ':=by
 obtain⟨ψ,rfl,e⟩:=f.ext;intro z;rcases qaY.mp z with z|z
 ·exact h z
 ·rw[e a z]at q;cases q
def E2:HO->Bool
 |.lst _=>true
 |.dT _=>true
 |.dK _=>true
 |.ins _ _ _=>true
 |_=>false
def Rc.ob {k:Nat}{a:Addr}{c:C} (h:Rc K H φ k a c):∃ o,H a=some o/\E2 o=true:=by
 cases c with
 |l ds=>obtain⟨vs,q,_⟩:=h;exact⟨_,q,rfl⟩
 |n ds=>obtain⟨vs,q,_⟩:=h;exact⟨_,q,rfl⟩
 |m ds=>obtain⟨vs,q,_⟩:=h;exact⟨_,q,rfl⟩
 |k ds=>obtain⟨vs,q,_⟩:=h;exact⟨_,q,rfl⟩
 |o ds=>obtain⟨_,_,vs,q,_⟩:=h;exact⟨_,q,rfl⟩
def Sr.lst (S:Sr K H φ st) {a:Addr} (h:a∈φ):∃ o,H a=some o/\E2 o=true:=by
 obtain⟨n,hn,e⟩:=qcQ.mp h;have P:n<st.length:=by rw[<-S.len];exact hn
 exact (S.at_ n a st[n] (by rw[qao hn,e]) (by rw[qao P])).ob
def vq {st:Sto}{n:Nat}{ds:List D} (h:lg st n=some ds):st[n]?=some (.l ds):=by
 unfold lg at h;split at h
 ·rename_i q;cases h;exact q
 ·cases h
def Sr.atl (S:Sr K H φ st) (n:Nat) (a:Addr) (ds:List D) (g:φ[n]?=some a) (j:lg st n=some ds):∃ vs,H a=some (.lst vs)/\Rls K H φ ds vs:=S.at_ n a _ g (vq j)
def Sr.nin (S:Sr K H φ st) {a:Addr} (h:H a=none):a∉φ:=λz=>by
 obtain⟨vs,q,_⟩:=S.lst z;rw[q]at h;cases h
def Rd.nin (S:Sr K H φ st) {a:Addr}{vs:List V} (h:Rd H a (.tup vs)):a∉φ:=λz=>by
 obtain⟨ws,q,qm⟩:=S.lst z;rcases h with h|⟨o,h⟩<;>(rw[q]at h;cases h;cases qm)
def Rd.fw (f:Fw φ φ' H H') {a:Addr}{u:HO} (hn:a∉φ) (h:Rd H a u):Rd H' a u:=by
 rcases h with h|⟨o,h⟩
 ·exact .inl (f.keep _ _ hn h)
 ·exact .inr ⟨o,f.keep _ _ hn h⟩
def SqT.fw (S:Sr K H φ st) (f:Fw φ φ' H H') {a:Addr}{vs:List V} (h:SqT K H a vs):SqT K H' a vs:=by
 rcases h with h|h
 ·exact .inl (f.keep _ _ (Rd.nin S (.inl h)) h)
 ·exact .inr h
def Rd.some {a:Addr}{u:HO} (h:Rd H a u):∃ o,H a=some o:=by
 rcases h with h|⟨o,h⟩
 ·exact⟨_,h⟩
 ·exact⟨_,h⟩
mutual
def Rl.fw (S:Sr K H φ st) (f:Fw φ φ' H H'):∀ {d:D}{v:V},Rl K H φ d v->Rl K H' φ' d v
 |.non,_,h=>h
 |.bl _,_,h=>h
 |.int _,_,h=>h
 |.str _,_,h=>h
 |.ty _,_,h=>h
 |.dct,_,h=>by
  obtain⟨a,rfl,hn,h⟩:=h;rcases h with⟨d,h⟩|⟨d,h⟩
  ·exact⟨a,rfl,f.nin hn h,.inl ⟨d,f.keep _ _ hn h⟩⟩
  ·exact⟨a,rfl,f.nin hn h,.inr ⟨d,f.keep _ _ hn h⟩⟩
 |.scr ns,_,h=>by
  obtain⟨a,rfl,h⟩:=h;refine⟨a,rfl,?_⟩;rcases h with⟨o,h⟩|h
  ·refine .inl ⟨o,f.keep _ _ (λz=>?_) h⟩
   obtain⟨ws,q,qm⟩:=S.lst z;rw[q]at h;cases h;cases qm
  ·exact .inr h
 |.tup ds,_,h=>by
  obtain⟨a,vs,rfl,h1,h2⟩:=h;exact⟨a,vs,rfl,f.keep _ _ (Rd.nin S (.inl h1)) h1,Rls.fw S f h2⟩
 |.lst ds,_,h=>by
  obtain⟨a,vs,rfl,h0,h1,h2⟩:=h;obtain⟨o,e⟩:=h1.some;exact⟨a,vs,rfl,f.nin h0 e,h1.fw f h0,Rls.fw S f h2⟩
 |.ob ns ds,_,h=>by
  obtain⟨a,Cl,dx,fs,vs,rfl,h0,h1,h2,h3,h4,h5,h7,h6⟩:=h;exact⟨a,Cl,dx,fs,vs,rfl,f.nin h0 h1,f.keep _ _ h0 h1,h2,h3,h4,h5,h7,Rls.fw S f h6⟩
def Rls.fw (S:Sr K H φ st) (f:Fw φ φ' H H'):∀ {ds:List D}{vs:List V},Rls K H φ ds vs->Rls K H' φ' ds vs
 |[],_,h=>h
 |d::ds,_,h=>by
  obtain⟨v,r,rfl,h1,h2⟩:=h;exact⟨v,r,rfl,Rl.fw S f h1,Rls.fw S f h2⟩
end
def Rw.fw (S:Sr K H φ st) (f:Fw φ φ' H H') {w:W}{v:V} (h:Rw K H φ w v):Rw K H' φ' w v:=by
 cases w with
 |d x=>exact Rl.fw S f h
 |h n=>obtain⟨a,e,rfl⟩:=h;exact⟨a,f.get e,rfl⟩
def Rws.fw (S:Sr K H φ st) (f:Fw φ φ' H H'):∀ {ws:List W}{vs:List V},Rws K H φ ws vs->Rws K H' φ' ws vs
 |[],_,h=>h
 |d::ds,_,h=>by
  obtain⟨v,r,rfl,h1,h2⟩:=h;exact⟨v,r,rfl,h1.fw S f,Rws.fw S f h2⟩
def Er.fw (S:Sr K H φ st) (f:Fw φ φ' H H') {env:Ev}{N:St} (h:Er K H φ env N):Er K H' φ' env N:=
 ⟨h.len,λi w e=>let ⟨v,g,r⟩:=h.at_ i w e;⟨v,g,r.fw S f⟩⟩
def Rkv.fw (S:Sr K H φ st) (f:Fw φ φ' H H'):∀ {ds:List (List Int×D)}{vs:List (List Key×V)},Rkv K H φ ds vs->Rkv K H' φ' ds vs
 |[],_,h=>h
 |(k,d)::ds,_,h=>by
  obtain⟨v,r,rfl,h1,h2⟩:=h;exact⟨v,r,rfl,Rl.fw S f h1,Rkv.fw S f h2⟩
def Rkk.fw (S:Sr K H φ st) (f:Fw φ φ' H H'):∀ {ds:List (Int×D)}{vs:List (Key×V)},Rkk K H φ ds vs->Rkk K H' φ' ds vs
 |[],_,h=>h
 |(k,d)::ds,_,h=>by
  obtain⟨v,r,rfl,h1,h2⟩:=h;exact⟨v,r,rfl,Rl.fw S f h1,Rkk.fw S f h2⟩
def Rfs.fw (S:Sr K H φ st) (f:Fw φ φ' H H'):∀ {ds:List (Str×W)}{vs:List (Str×V)},Rfs K H φ ds vs->Rfs K H' φ' ds vs
 |[],_,h=>h
 |(k,d)::ds,_,h=>by
  obtain⟨v,r,rfl,h1,h2⟩:=h;exact⟨v,r,rfl,h1.fw S f,Rfs.fw S f h2⟩
def Rc.fw (S:Sr K H φ st) (f:Fw φ φ' H H') {k:Nat}{a:Addr}{c:C} (e:∀ o,H a=some o->H' a=some o) (h:Rc K H φ k a c):Rc K H' φ' k a c:=by
 cases c with
 |l ds=>obtain⟨vs,q,r⟩:=h;exact⟨vs,e _ q,r.fw S f⟩
 |n ds=>obtain⟨vs,q,r,b⟩:=h;exact⟨vs,e _ q,r.fw S f,b⟩
 |m ds=>obtain⟨vs,q,r⟩:=h;exact⟨vs,e _ q,r.fw S f⟩
 |k ds=>obtain⟨vs,q,r⟩:=h;exact⟨vs,e _ q,r.fw S f⟩
 |o ds=>obtain⟨Cl,dx,vs,q,r,b⟩:=h;exact⟨Cl,dx,vs,e _ q,r.fw S f,b⟩
def Sr.same (S:Sr K H φ st) (s:aS H H'):Sr K H' φ st:=
 ⟨S.nd,S.len,λn a c g j=>(S.at_ n a c g j).fw S (Fw.same s) λo h=>s _ _ h⟩
def Sr.new (S:Sr K H φ st) {p:Addr}{o:HO} (F:H p=none):Sr K (upd H p o) φ st:=S.same (aS.new F o)
def Rls.length:∀ {ds:List D}{vs:List V},Rls K H φ ds vs->ds.length=vs.length
 |[],_,h=>by cases h;rfl
 |d::ds,_,h=>by
  obtain⟨v,r,rfl,h1,h2⟩:=h;rw[qam,qam,Rls.length h2]
def Rws.length:∀ {ds:List W}{vs:List V},Rws K H φ ds vs->ds.length=vs.length
 |[],_,h=>by cases h;rfl
 |d::ds,_,h=>by
  obtain⟨v,r,rfl,h1,h2⟩:=h;rw[qam,qam,Rws.length h2]
def Rls.append:∀ {ds es:List D}{vs L:List V},Rls K H φ ds vs->Rls K H φ es L->Rls K H φ (ds++es) (vs++L)
 |[],_,_,_,h,h'=>by cases h;exact h'
 |d::ds,_,_,_,h,h'=>by
  obtain⟨v,r,rfl,h1,h2⟩:=h;exact⟨v,r++_,rfl,h1,Rls.append h2 h'⟩
def Rls.get:∀ {ds:List D}{vs:List V},Rls K H φ ds vs->∀ {i:Nat}{d:D},ds[i]?=some d->∃ v,vs[i]?=some v/\Rl K H φ d v
 |[],_,h,i,d,e=>by simp at e
 |d::ds,_,h,i,e,q=>by
  obtain⟨v,r,rfl,h1,h2⟩:=h;cases i with
  |zero=>simp at q;subst q;exact⟨v,rfl,h1⟩
  |succ i=>simpa using Rls.get h2 (i:=i) (d:=e) (by simpa using q)
def Rls.take:∀ {ds:List D}{vs:List V} (n:Nat),Rls K H φ ds vs->Rls K H φ (ds.take n) (vs.take n)
 |_,_,0,_=>by rw[qf0,qf0];exact rfl
 |[],_,n+1,h=>by cases h;exact rfl
 |d::ds,_,n+1,h=>by
  obtain⟨v,r,rfl,h1,h2⟩:=h;exact⟨v,_,rfl,h1,Rls.take n h2⟩
def Rls.drop:∀ {ds:List D}{vs:List V} (n:Nat),Rls K H φ ds vs->Rls K H φ (ds.drop n) (vs.drop n)
 |_,_,0,h=>h
 |[],_,n+1,h=>by cases h;exact rfl
 |d::ds,_,n+1,h=>by
  obtain⟨v,r,rfl,h1,h2⟩:=h;exact Rls.drop n h2
def Rls.set:∀ {ds:List D}{vs:List V} (n:Nat) {d:D}{v:V},Rls K H φ ds vs->Rl K H φ d v->Rls K H φ (ds.set n d) (vs.set n v)
 |[],_,_,_,_,h,_=>by cases h;exact rfl
 |e::ds,_,0,d,v,h,hd=>by
  obtain⟨u,r,rfl,h1,h2⟩:=h;exact⟨v,r,rfl,hd,h2⟩
 |e::ds,_,n+1,d,v,h,hd=>by
  obtain⟨u,r,rfl,h1,h2⟩:=h;exact⟨u,_,rfl,h1,Rls.set n h2 hd⟩
def Rls.rep {ds:List D}{vs:List V} (h:Rls K H φ ds vs):∀ k:Nat,Rls K H φ (qaz k ds).flatten (qaz k vs).flatten
 |0=>rfl
 |k+1=>by rw[qaS,qaS,qcP,qcP];exact h.append (Rls.rep h k)
def Rls.ints:∀ {ns:List Int}{vs:List V},Rls K H φ (ns.map D.int) vs->vs=ns.map V.int
 |[],_,h=>h
 |n::ns,_,h=>by
  obtain⟨v,r,rfl,h1,h2⟩:=h;rw[show v=.int n from h1,Rls.ints h2];rfl
def Rls.bools:∀ {ns:List Bool}{vs:List V},Rls K H φ (ns.map D.bl) vs->vs=ns.map V.bl
 |[],_,h=>h
 |n::ns,_,h=>by
  obtain⟨v,r,rfl,h1,h2⟩:=h;rw[show v=.bl n from h1,Rls.bools h2];rfl
def Rls.of_ints:∀ (ns:List Int),Rls K H φ (ns.map D.int) (ns.map V.int)
 |[]=>rfl
 |n::ns=>⟨_,_,rfl,rfl,Rls.of_ints ns⟩
def Rl.less {ψ:List Addr}:∀ {d:D}{v:V},Rl K H (φ++ψ) d v->Rl K H φ d v:=by
 intro d v;refine (?_:∀ v,Rl K H (φ++ψ) d v->Rl K H φ d v) v;refine D.rec (motive_1:=λd=>∀ v,Rl K H (φ++ψ) d v->Rl K H φ d v) (motive_2:=λds=>∀ vs,Rls K H (φ++ψ) ds vs->Rls K H φ ds vs) ?_ ?_ ?_ ?_ ?_ ?_ ?_ ?_ ?_ ?_ ?_ ?_ d
 ·exact λv h=>h
 ·exact λb v h=>h
 ·exact λb v h=>h
 ·exact λb v h=>h
 ·exact λb v h=>h
 ·rintro v ⟨a,e,hn,h⟩;exact⟨a,e,λz=>hn (qa9 _ z),h⟩
 ·exact λns v h=>h
 ·rintro ds A v ⟨a,vs,rfl,h1,h2⟩;exact⟨a,vs,rfl,h1,A vs h2⟩
 ·rintro ds A v ⟨a,vs,rfl,h0,h1,h2⟩;exact⟨a,vs,rfl,λz=>h0 (qa9 _ z),h1,A vs h2⟩
 ·rintro ns ds A v ⟨a,Cl,dx,fs,vs,rfl,h0,h1,h2,h3,h4,h5,h7,h6⟩;exact⟨a,Cl,dx,fs,vs,rfl,λz=>h0 (qa9 _ z),h1,h2,h3,h4,h5,h7,A vs h6⟩
 ·exact λvs h=>h
 ·rintro d ds I E vs ⟨v,r,rfl,h1,h2⟩;exact⟨v,r,rfl,I v h1,E r h2⟩
def Rls.less {ψ:List Addr}:∀ {ds:List D}{vs:List V},Rls K H (φ++ψ) ds vs->Rls K H φ ds vs
 |[],_,h=>h
 |d::ds,_,h=>by
  obtain⟨v,r,rfl,h1,h2⟩:=h;exact⟨v,r,rfl,Rl.less h1,Rls.less h2⟩
def Rkv.less {ψ:List Addr}:∀ {ds:List (List Int×D)}{vs:List (List Key×V)},Rkv K H (φ++ψ) ds vs->Rkv K H φ ds vs
 |[],_,h=>h
 |(k,d)::ds,_,h=>by
  obtain⟨v,r,rfl,h1,h2⟩:=h;exact⟨v,r,rfl,Rl.less h1,Rkv.less h2⟩
def Rkk.less {ψ:List Addr}:∀ {ds:List (Int×D)}{vs:List (Key×V)},Rkk K H (φ++ψ) ds vs->Rkk K H φ ds vs
 |[],_,h=>h
 |(k,d)::ds,_,h=>by
  obtain⟨v,r,rfl,h1,h2⟩:=h;exact⟨v,r,rfl,Rl.less h1,Rkk.less h2⟩
def Rws.less {ψ:List Addr}:∀ {ds:List W}{vs:List V},(∀ m,W.h m∈ds->m<φ.length)->Rws K H (φ++ψ) ds vs->Rws K H φ ds vs
 |[],_,_,h=>h
 |d::ds,_,hm,h=>by
  obtain⟨v,r,rfl,h1,h2⟩:=h;refine⟨v,r,rfl,?_,Rws.less (λm z=>hm m (qal _ z)) h2⟩;cases d with
  |d x=>exact Rl.less h1
  |h m=>
   obtain⟨a,e,rfl⟩:=h1;rw[qaK (hm m qaf)]at e;exact⟨a,e,rfl⟩
def Rfs.less {ψ:List Addr}:∀ {ds:List (Str×W)}{vs:List (Str×V)},(∀ m,W.h m∈ds.map (·.2)->m<φ.length)->Rfs K H (φ++ψ) ds vs->Rfs K H φ ds vs
 |[],_,_,h=>h
 |(k,d)::ds,_,hm,h=>by
  obtain⟨v,r,rfl,h1,h2⟩:=h;refine⟨v,r,rfl,?_,Rfs.less (λm z=>hm m (qal _ z)) h2⟩;cases d with
  |d x=>exact Rl.less h1
  |h m=>
   obtain⟨a,e,rfl⟩:=h1;rw[qaK (hm m qaf)]at e;exact⟨a,e,rfl⟩
def Rc.less {ψ:List Addr}{k:Nat}{a:Addr}{c:C} (M:k<φ.length) (h:Rc K H (φ++ψ) k a c):Rc K H φ k a c:=by
 cases c with
 |l ds=>obtain⟨vs,q,r⟩:=h;exact⟨vs,q,r.less⟩
 |n ds=>obtain⟨vs,q,r,b⟩:=h;exact⟨vs,q,r.less λm z=>qez (b m z) M,b⟩
 |m ds=>obtain⟨vs,q,r⟩:=h;exact⟨vs,q,r.less⟩
 |k ds=>obtain⟨vs,q,r⟩:=h;exact⟨vs,q,r.less⟩
 |o ds=>obtain⟨Cl,dx,vs,q,r,b,c⟩:=h;exact⟨Cl,dx,vs,q,r.less λm z=>qez (b m z) M,b,c⟩
def Sr.less {ψ:List Addr} (S:Sr K H (φ++ψ) st):Sr K H φ (st.take φ.length):=by
 have R:=S.len;rw[qaB]at R;refine⟨(qcw.mp S.nd).1,by rw[qc0];lia,λn a ds g j=>?_⟩;have hn:=(qas.mp g).1;rw[qd2 hn]at j;exact (S.at_ n a ds (by rw[qaK hn];exact g) j).less hn
end
end L2
namespace L2
open PySem PySem.Spec PyProof.Rows
abbrev Ef:=Ev->Sto->Option (W×Sto)
abbrev Af:=Ev->Sto->Option (List W×Sto)
abbrev Tf:=Ev->Sto->Option (Bool×Sto)
abbrev Lf:=Ev->Sto->Option (List D×Sto)
abbrev Fn:=List W->Sto->Option (W×Sto)
section
variable (K:qae)
def tI (env:Ev) (st:Sto) (r:W×Sto):TE:=λc H Q=>∃ φ,Er K H φ env c/\Sr K H φ st/\∀ v H' b,Fw φ b H H'->Sr K H' b r.2->Rw K H' b r.1 v->Q v H'
def tIA (env:Ev) (st:Sto) (r:List W×Sto):TA:=λc H Q=>∃ φ,Er K H φ env c/\Sr K H φ st/\∀ vs H' b,Fw φ b H H'->Sr K H' b r.2->Rws K H' b r.1 vs->Q vs H'
def tIT (env:Ev) (st:Sto) (r:Bool×Sto):TT:=λc H Q=>∃ φ,Er K H φ env c/\Sr K H φ st/\∀ H' b,Fw φ b H H'->Sr K H' b r.2->Q r.1 H'
def tIL (env:Ev) (st:Sto) (r:List D×Sto):TE:=λc H Q=>∃ φ,Er K H φ env c/\Sr K H φ st/\∀ a vs H1 b,Fw φ b H H1->Sr K H1 b r.2->H1 a=none->Rls K H1 b r.1 vs->Q (.ref a) (upd H1 a (.lst vs))
structure IE (X:Cx) (e:Expr) (f:Ef):Prop where
 run:∀ env st r,f env st=some r->PE X e (tI K env st r)
structure IA (X:Cx) (es:List Expr) (f:Af):Prop where
 run:∀ env st r,f env st=some r->PA X es (tIA K env st r)
structure IT (X:Cx) (e:Expr) (f:Tf):Prop where
 run:∀ env st r,f env st=some r->PT X e (tIT K env st r)
structure ITW (X:Cx) (e:Expr) (f:Tf):Prop where
 run:∀ env st r,f env st=some r->PW X e (tIT K env st r)
structure IL (X:Cx) (e:Expr) (f:Lf):Prop where
 run:∀ env st r,f env st=some r->PE X e (tIL K env st r)
def rD (st:Sto) (x y:W) (d:D):R2:=λj i H Q=>∃ φ,Sr K H φ st/\Rw K H φ x j/\Rw K H φ y i/\∀ v H',aS H H'->Rl K H' φ d v->Q v H'
structure OpD (X:Cx) (f:Value->Value->Sem Value) (g:Sto->W->W->Option D):Prop where
 run:∀ st x y d,g st x y=some d->OpR X f (rD K st x y d)
def rCD (st:Sto) (ws:List W) (d:D):List V->Hp->VK->Prop:=λvs H Q=>∃ φ,Sr K H φ st/\Rws K H φ ws vs/\∀ v H',aS H H'->Rl K H' φ d v->Q v H'
structure hW (X:Cx) (f:Value) (g:Sto->List W->Option D):Prop where
 run:∀ st ws d,g st ws=some d->bY X f (rCD K st ws d)
def rCL (st:Sto) (ws:List W) (ds:List D):List V->Hp->VK->Prop:=λvs H Q=>∃ φ,Sr K H φ st/\Rws K H φ ws vs/\∀ a h H1,aS H H1->H1 a=none->Rls K H1 φ ds h->Q (.ref a) (upd H1 a (.lst h))
structure rK (X:Cx) (f:Value) (g:Sto->List W->Option (List D)):Prop where
 run:∀ st ws d,g st ws=some d->bY X f (rCL K st ws d)
end
def iV (i:Nat):Ef
 |env,st=>(env.getD i none).map λw=>(w,st)
def iC (d:D):Ef
 |_,st=>some (.d d,st)
def iOp (g:Sto->W->W->Option D) (a b:Ef):Ef
 |env,st=>(a env st).bind λx=>(b env x.2).bind λy=>(g y.2 x.1 y.1).map λd=>(.d d,y.2)
def jv:D->Option Bool
 |.bl b=>some b
 |_=>none
def blW:W->Option Bool
 |.d (.bl b)=>some b
 |_=>none
def aE (g:Sto->W->W->Option D) (a b:Ef):Tf
 |env,st=>(a env st).bind λx=>(b env x.2).bind λy=>(g y.2 x.1 y.1).bind λd=>(jv d).map λk=>(k,y.2)
def iUn (g:W->Option D) (a:Ef):Ef
 |env,st=>(a env st).bind λx=>(g x.1).map λd=>(.d d,x.2)
def yh (a:Ef):Ef
 |env,st=>(a env st).bind λx=>(blW x.1).map λk=>(.d (.bl (!k)),x.2)
def yz (a b:Ef):Ef
 |env,st=>(a env st).bind λx=>(blW x.1).bind λk=>if k=true then b env x.2 else some (.d (.bl false),x.2)
def fP (c:Tf) (a b:Ef):Ef
 |env,st=>(c env st).bind λr=>if r.1=true then a env r.2 else b env r.2
def cV (c:Tf):Tf
 |env,st=>(c env st).map λr=>(!r.1,r.2)
def dS (a b:Tf):Tf
 |env,st=>(a env st).bind λr=>if r.1=true then b env r.2 else some (false,r.2)
def dQ (a b:Tf):Tf
 |env,st=>(a env st).bind λr=>if r.1=true then some (true,r.2) else b env r.2
def cJ (g:Sto->W->Option Bool) (a:Ef):Tf
 |env,st=>(a env st).bind λx=>(g x.2 x.1).map λk=>(k,x.2)
def ac:Af
 |_,st=>some ([],st)
def aa (a:Ef) (r:Af):Af
 |env,st=>(a env st).bind λx=>(r env x.2).map λy=>(x.1::y.1,y.2)
def iCB (g:Sto->List W->Option D) (a:Af):Ef
 |env,st=>(a env st).bind λr=>(g r.2 r.1).map λd=>(.d d,r.2)
def iCL (g:Sto->List W->Option (List D)) (a:Af):Lf
 |env,st=>(a env st).bind λr=>(g r.2 r.1).map λd=>(d,r.2)
def au (m:Fn) (a:Af):Ef
 |env,st=>(a env st).bind λr=>m r.1 r.2
def lP:List W->Option (List D)
 |[]=>some []
 |.d x::ws=>(lP ws).map λr=>x::r
 |.h _::_=>none
def bv (a:Af):Ef
 |env,st=>(a env st).bind λr=>(lP r.1).bind λds=>if ds.length<=1000 then some (.d (.tup ds),r.2) else none
def bR (a:Af):Lf
 |env,st=>(a env st).bind λr=>(lP r.1).bind λds=>if ds.length<=1000 then some (ds,r.2) else none
def ar (a:Lf):Ef
 |env,st=>(a env st).map λr=>(.d (.lst r.1),r.2)
def dh (a:Lf):Ef
 |env,st=>(a env st).map λr=>(.h r.2.length,r.2++[.l r.1])
section
variable {K:qae}{X:Cx}{e a b c:Expr}{es:List Expr}{pos:Pos}{f Y fb fc:Ef}
def PE.imp {t t':TE} (h:PE X e t) (m:∀ G H Q,t' G H Q->t G H Q):PE X e t':=λM s G H Q I q=>h M s G H Q I (m G H Q q)
def PT.imp {t t':TT} (h:PT X e t) (m:∀ G H Q,t' G H Q->t G H Q):PT X e t':=λM s G H Q I q=>h M s G H Q I (m G H Q q)
def PW.imp {t t':TT} (h:PW X e t) (m:∀ G H Q,t' G H Q->t G H Q):PW X e t':=λwh M s G H Q I q=>h wh M s G H Q I (m G H Q q)
def PA.imp {t t':TA} (h:PA X es t) (m:∀ G H Q,t' G H Q->t G H Q):PA X es t':=λpos M s G H Q I q=>h pos M s G H Q I (m G H Q q)
def OpR.imp {g:Value->Value->Sem Value}{r r':R2} (h:OpR X g r) (m:∀ x y H Q,r' x y H Q->r x y H Q):OpR X g r':=λM s G H x y v u Q I rx ry q=>h M s G H x y v u Q I rx ry (m _ _ _ _ q)
def bY.imp {g:Value}{r r':List V->Hp->VK->Prop} (h:bY X g r) (m:∀ xs H Q,r' xs H Q->r xs H Q):bY X g r':=λM s G H xs us Q I rx q=>h M s G H xs us Q I rx (m _ _ _ q)
def oi:PE X e (λ_ _ _=>False):=λ_ _ _ _ _ _ q=>q.elim
def sE:PW X e (λ_ _ _=>False):=λ_ _ _ _ _ _ _ q=>q.elim
def D5 {i:Nat}{x:Str}{t:TE} (h:PE X (.Name x pos) (qF i)):IE K X (.Name x pos) (iV i):=by
 refine⟨λenv st r A=>?_⟩;unfold iV at A;obtain⟨w,hw,rfl⟩:=qad.mp A;refine h.imp ?_
 rintro G H Q ⟨φ,E,B,q⟩
 have hi:env[i]?=some (some w):=by
  rw[qfL]at hw;cases q:env[i]? with
  |none=>rw[q]at hw;cases hw
  |some o=>rw[q]at hw;rw[show o=some w from hw]
 obtain⟨v,e1,r⟩:=E.at_ i w hi;exact⟨v,e1,q v H φ (Fw.refl φ H) B r⟩
def iv (i:Nat) {x:Str} (hN:X.N[i]?=some x:=by rfl) (hv:Vis X.env.scope x:=by first|exact Or.inl rfl|exact Or.inr (Or.inl rfl)|exact Or.inr (Or.inr rfl)) (hd:(x==("__debug__" : Str))=false:=by decide)
  (hcd:(x==("__classdict__" : Str))=false:=by decide):IE K X (.Name x pos) (iV i):=D5 (t:=qF i) (iH hN hv hd hcd)
def zD {d:D}{v:V} (h:PE X e (tC v)) (r:∀ H φ,Rl K H φ d v):IE K X e (iC d):=by
 refine⟨λenv st r A=>?_⟩;cases A;refine h.imp ?_
 rintro G H Q ⟨φ,E,B,q⟩
 exact q v H φ (Fw.refl φ H) B (r H φ)
def jS {i j}:IE K X (.Constant (.int i) j pos) (iC (.int i)):=zD D8 λ_ _=>rfl
def EJ {i j}:IE K X (.Constant (.bool i) j pos) (iC (.bl i)):=zD FI λ_ _=>rfl
def tY {j}:IE K X (.Constant .none j pos) (iC .non):=zD CS λ_ _=>rfl
def yJ {x j}:IE K X (.Constant (.str x) j pos) (iC (.str x)):=zD Dg λ_ _=>rfl
def qp {env:Ev}{st:Sto}{x y:W×Sto}{d:D}{G:St}{H:Hp}{Q:VK} (h:tI K env st (.d d,y.2) G H Q):tOp (rD K y.2 x.1 y.1 d) (tI K env st x) (tI K env x.2 y) G H Q:=by
 obtain⟨φ,E,B,q⟩:=h;refine⟨φ,E,B,λv H1 z f1 s1 J=>⟨z,E.fw B f1,s1,λu H2 N f2 s2 w2=>⟨N,s2,J.fw s1 f2,w2,λv3 H3 f3 w3=>?_⟩⟩⟩;exact q v3 H3 N ((f1.trans f2).trans (Fw.same f3)) (s2.same f3) w3
def vX {op:Operator}{g:Sto->W->W->Option D} (ho:OpD K X (qby op) g) (L:IE K X a Y) (hb:IE K X b fb):IE K X (.BinOp a op b pos) (iOp g Y fb):=by
 refine⟨λenv st r A=>?_⟩;simp only[iOp,qac,qad]at A;obtain⟨x,O,y,P,d,hd,rfl⟩:=A;exact (BV (ho.run _ _ _ _ hd) (L.run _ _ _ O) (hb.run _ _ _ P)).imp λG H Q h=>qp h
def C9 {op:CmpOp}{g:Sto->W->W->Option D} (ho:OpD K X (qbE op) g) (L:IE K X a Y) (hb:IE K X b fb) (hm:qdO op b=false):IE K X (.Compare a [op] [b] pos) (iOp g Y fb):=by
 refine⟨λenv st r A=>?_⟩;simp only[iOp,qac,qad]at A;obtain⟨x,O,y,P,d,hd,rfl⟩:=A;exact (BN (ho.run _ _ _ _ hd) (L.run _ _ _ O) (hb.run _ _ _ P) hm).imp λG H Q h=>qp h
def xM {d:D}{k:Bool} (h:jv d=some k):d=.bl k:=by
 cases d<;>first|(cases h;done)|(injection h with h;subst h;rfl)
def rS {d:W}{k:Bool} (h:blW d=some k):d=.d (.bl k):=by
 cases d with
 |h n=>cases h
 |d x=>cases x<;>first|(cases h;done)|(injection h with h;subst h;rfl)
def t9 {op:CmpOp}{g:Sto->W->W->Option D} (ho:OpD K X (qbE op) g) (L:IE K X a Y) (hb:IE K X b fb) (hm:qdO op b=false):IT K X (.Compare a [op] [b] pos) (aE g Y fb):=by
 refine⟨λenv st r A=>?_⟩;simp only[aE,qac,qad]at A;obtain⟨x,O,y,P,d,hd,k,hk,rfl⟩:=A;cases xM hk;refine (AW (ho.run _ _ _ _ hd) (L.run _ _ _ O) (hb.run _ _ _ P) hm).imp λG H Q h=>?_;obtain⟨φ,E,B,q⟩:=h;refine qp ⟨φ,E,B,λv H1 z f1 s1 J=>⟨k,J,q H1 z f1 s1⟩⟩
def ju:W->Option D
 |.d (.int i)=>some (.int (-i))
 |_=>none
def yv (L:IE K X a Y):IE K X (.UnaryOp .USub a pos) (iUn ju Y):=by
 refine⟨λenv st r A=>?_⟩;simp only[iUn,qac,qad]at A;obtain⟨⟨x,s1⟩,O,d,hd,rfl⟩:=A;cases x with
 |h n=>cases hd
 |d x=>
  cases x with
  |int i=>
   cases hd;refine (FW CQ (L.run _ _ _ O)).imp ?_
   rintro G H Q ⟨φ,E,B,q⟩
   exact⟨φ,E,B,λv H1 z f1 s1 J=>⟨i,J,q _ H1 z f1 s1 rfl⟩⟩
  |_=>cases hd
def DZ (L:IE K X a Y):IE K X (.UnaryOp .Not a pos) (yh Y):=by
 refine⟨λenv st r A=>?_⟩;simp only[yh,qac,qad]at A;obtain⟨x,O,k,hk,rfl⟩:=A;have e:=rS hk;refine (CZ (L.run _ _ _ O)).imp ?_
 rintro G H Q ⟨φ,E,B,q⟩
 exact⟨φ,E,B,λv H1 z f1 s1 J=>⟨k,by rw[e]at J;exact J,q _ H1 z f1 s1 rfl⟩⟩
def DN {op} (h:IE K X a Y):IE K X (.BoolOp op [a] pos) Y:=⟨λenv st r A=>Ei (h.run env st r A)⟩
def Di {R:List Expr} (L:IE K X a Y) (hb:IE K X (.BoolOp .And (b::R) pos) fb):IE K X (.BoolOp .And (a::b::R) pos) (yz Y fb):=by
 refine⟨λenv st r A=>?_⟩;simp only[yz,qac]at A;obtain⟨x,O,k,hk,A⟩:=A;have e:=rS hk;cases k with
 |false=>
  rw[if_neg qaC]at A;cases A;refine (yH (L.run _ _ _ O) oi).imp ?_
  rintro G H Q ⟨φ,E,B,q⟩
  refine⟨φ,E,B,λv H1 z f1 s1 J=>⟨false,by rw[e]at J;exact J,?_⟩⟩;rw[if_neg qaC];exact q _ H1 z f1 s1 rfl
 |true=>
  rw[if_pos rfl]at A;refine (yH (L.run _ _ _ O) (hb.run _ _ _ A)).imp ?_
  rintro G H Q ⟨φ,E,B,q⟩
  refine⟨φ,E,B,λv H1 z f1 s1 J=>⟨true,by rw[e]at J;exact J,?_⟩⟩;rw[if_pos rfl];exact⟨z,E.fw B f1,s1,λu H2 N f2 s2 w2=>q u H2 N (f1.trans f2) s2 w2⟩
variable {ta tb:Tf}
def Ds (L:IT K X a ta):IT K X (.UnaryOp .Not a pos) (cV ta):=by
 refine⟨λenv st r A=>?_⟩;simp only[cV,qad]at A;obtain⟨x,O,rfl⟩:=A;refine (C7 (L.run _ _ _ O)).imp ?_
 rintro G H Q ⟨φ,E,B,q⟩
 exact⟨φ,E,B,λH1 z f1 s1=>q H1 z f1 s1⟩
def Cg (h:ITW K X a ta):IT K X a ta:=⟨λenv st r A=>(h.run env st r A).pt⟩
def yd (h:IT K X a ta):ITW K X (.BoolOp .And [a] pos) ta:=⟨λenv st r A=>AC (h.run env st r A)⟩
def Bf (h:IT K X a ta):ITW K X (.BoolOp .Or [a] pos) ta:=⟨λenv st r A=>DR (h.run env st r A)⟩
def Az {R:List Expr} (L:IT K X a ta) (hb:ITW K X (.BoolOp .And (b::R) pos) tb):ITW K X (.BoolOp .And (a::b::R) pos) (dS ta tb):=by
 refine⟨λenv st r A=>?_⟩;simp only[dS,qac]at A;obtain⟨⟨k,s1⟩,O,A⟩:=A;cases k with
 |false=>
  rw[if_neg qaC]at A;cases A;refine (z5 (L.run _ _ _ O) sE).imp ?_
  rintro G H Q ⟨φ,E,B,q⟩
  refine⟨φ,E,B,λH1 z f1 s1=>?_⟩;refine wN ?_;exact q H1 z f1 s1
 |true=>
  rw[if_pos rfl]at A;refine (z5 (L.run _ _ _ O) (hb.run _ _ _ A)).imp ?_
  rintro G H Q ⟨φ,E,B,q⟩
  refine⟨φ,E,B,λH1 z f1 s1=>?_⟩;refine xk ?_;exact⟨z,E.fw B f1,s1,λH2 N f2 s2=>q H2 N (f1.trans f2) s2⟩
def DY {R:List Expr} (L:IT K X a ta) (hb:ITW K X (.BoolOp .Or (b::R) pos) tb):ITW K X (.BoolOp .Or (a::b::R) pos) (dQ ta tb):=by
 refine⟨λenv st r A=>?_⟩;simp only[dQ,qac]at A;obtain⟨⟨k,s1⟩,O,A⟩:=A;cases k with
 |true=>
  rw[if_pos rfl]at A;cases A;refine (B4 (L.run _ _ _ O) sE).imp ?_
  rintro G H Q ⟨φ,E,B,q⟩
  refine⟨φ,E,B,λH1 z f1 s1=>?_⟩;refine xk ?_;exact q H1 z f1 s1
 |false=>
  rw[if_neg qaC]at A;refine (B4 (L.run _ _ _ O) (hb.run _ _ _ A)).imp ?_
  rintro G H Q ⟨φ,E,B,q⟩
  refine⟨φ,E,B,λH1 z f1 s1=>?_⟩;refine wN ?_;exact⟨z,E.fw B f1,s1,λH2 N f2 s2=>q H2 N (f1.trans f2) s2⟩
def EN {tc:Tf} (hc:IT K X c tc) (L:IE K X a Y) (hb:IE K X b fb):IE K X (.IfExp c a b pos) (fP tc Y fb):=by
 refine⟨λenv st r A=>?_⟩;simp only[fP,qac]at A;obtain⟨⟨k,s1⟩,O,A⟩:=A;cases k with
 |true=>
  rw[if_pos rfl]at A;refine (sW (hc.run _ _ _ O) (L.run _ _ _ A) oi).imp ?_
  rintro G H Q ⟨φ,E,B,q⟩
  refine⟨φ,E,B,λH1 z f1 s1=>?_⟩;refine xk ?_;exact⟨z,E.fw B f1,s1,λu H2 N f2 s2 w2=>q u H2 N (f1.trans f2) s2 w2⟩
 |false=>
  rw[if_neg qaC]at A;refine (sW (hc.run _ _ _ O) oi (hb.run _ _ _ A)).imp ?_
  rintro G H Q ⟨φ,E,B,q⟩
  refine⟨φ,E,B,λH1 z f1 s1=>?_⟩;refine wN ?_;exact⟨z,E.fw B f1,s1,λu H2 N f2 s2 w2=>q u H2 N (f1.trans f2) s2 w2⟩
def cx (st:Sto):W->Option (List D)
 |.d (.tup ds)=>some ds
 |.d (.lst ds)=>some ds
 |.d (.scr ns)=>some (ns.map D.int)
 |.h n=>lg st n
 |_=>none
def sD {st:Sto}{H:Hp}{φ:List Addr}{w:W}{v:V}{ds:List D} (S:Sr K H φ st) (r:Rw K H φ w v) (e:cx st w=some ds):∃ a vs,v=.ref a/\(SqL K H a vs\/H a=some (.tup vs))/\Rls K H φ ds vs:=by
 cases w with
 |h n=>
  obtain⟨a,ea,rfl⟩:=r;obtain⟨vs,q,rl⟩:=S.atl n a ds ea e;exact⟨a,vs,rfl,.inl (SqL.of q),rl⟩
 |d x=>
  cases x with
  |tup es=>cases e;obtain⟨a,vs,rfl,h1,h2⟩:=r;exact⟨a,vs,rfl,.inr h1,h2⟩
  |lst es=>cases e;obtain⟨a,vs,rfl,h0,h1,h2⟩:=r;exact⟨a,vs,rfl,.inl (.inl h1),h2⟩
  |scr ns=>
   cases e;obtain⟨a,rfl,h⟩:=r;refine⟨a,_,rfl,.inl ?_,Rls.of_ints ns⟩;rcases h with⟨o,h⟩|h
   ·exact .inl (.inr ⟨o,h⟩)
   ·exact .inr h
  |_=>cases e
def jh {st:Sto}{H:Hp}{φ:List Addr}{w:W}{v:V}{ds:List D} (S:Sr K H φ st) (r:Rw K H φ w v) (e:cx st w=some ds):∃ a vs,v=.ref a/\(SqL K H a vs\/SqT K H a vs)/\Rls K H φ ds vs:=by
 obtain⟨a,vs,h0,h1,h2⟩:=sD S r e;exact⟨a,vs,h0,h1.imp id SqT.of,h2⟩
def db (st:Sto):W->Option Bool
 |.d .non=>some false
 |.d (.bl b)=>some b
 |.d (.int i)=>some (i != 0)
 |w=>(cx st w).map λds=>!ds.isEmpty
def By {st:Sto}{H:Hp}{φ:List Addr}{w:W}{v:V}{k:Bool} (S:Sr K H φ st) (r:Rw K H φ w v) (e:db st w=some k):BM K v H k:=by
 have seq:∀ ds,cx st w=some ds->k=!ds.isEmpty->BM K v H k:=λds h hk=>by
  obtain⟨a,vs,rfl,h1,h2⟩:=jh S r h;have hl:=h2.length;have e':k=!vs.isEmpty:=by
   rw[hk];cases ds<;>cases vs<;>first|rfl|cases hl
  rcases h1 with h1|h1
  ·exact .inl ⟨vs,h1,e'⟩
  ·exact .inr (.inl ⟨vs,h1,e'⟩)
 cases w with
 |h n=>
  obtain⟨ds,h1,h2⟩:=qad.mp e;exact seq ds h1 h2.symm
 |d x=>
  cases x with
  |non=>have r':v=.non:=r;subst r';cases e;exact rfl
  |bl b=>have r':v=.bl b:=r;subst r';cases e;exact rfl
  |int i=>have r':v=.int i:=r;subst r';cases e;exact rfl
  |tup ds=>exact seq ds rfl (qaV e).symm
  |lst ds=>exact seq ds rfl (qaV e).symm
  |scr ds=>exact seq _ rfl (qaV e).symm
  |_=>cases e
def C1 (L:IE K X a Y) (he:yp a=true:=by rfl) (hK:X.K=K:=by rfl):IT K X a (cJ db Y):=by
 subst hK;refine⟨λenv st r A=>?_⟩;simp only[cJ,qac,qad]at A;obtain⟨x,O,k,hk,rfl⟩:=A;refine (zV (L.run _ _ _ O) (wL he)).imp ?_
 rintro G H Q ⟨φ,E,B,q⟩
 exact⟨φ,E,B,λv H1 z f1 s1 J=>⟨k,By s1 J hk,q H1 z f1 s1⟩⟩
variable {af:Af}
def bI:IA K X [] ac:=by
 refine⟨λenv st r A=>?_⟩;cases A;refine qc.imp ?_
 rintro G H Q ⟨φ,E,B,q⟩
 exact q [] H φ (Fw.refl φ H) B rfl
def aH (L:IE K X e Y) (A:IA K X es af) (hs:ax e=true:=by rfl):IA K X (e::es) (aa Y af):=by
 refine⟨λenv st r h=>?_⟩;simp only[aa,qac,qad]at h;obtain⟨x,O,y,P,rfl⟩:=h;refine (mz (L.run _ _ _ O) (A.run _ _ _ P) (aT hs)).imp ?_
 rintro G H Q ⟨φ,E,B,q⟩
 refine⟨φ,E,B,λv H1 z f1 s1 J=>⟨z,E.fw B f1,s1,λu H2 N f2 s2 w2=>?_⟩⟩;exact q _ H2 N (f1.trans f2) s2 ⟨v,u,rfl,J.fw s1 f2,w2⟩
def pJ {x:Str}{id:String}{p:Pos}{g:Sto->List W->Option D} (hc:hW K X (.builtin id) g) (hg:Gl X x) (hm:X.mg x=none) (hv:qb9 x=some (.builtin id)) (L:IA K X (e::es) af)
  (hn:x≠"__name__":=by decide) (hdb:(x==("__debug__" : Str))=false:=by decide) (hs:ax e=true:=by rfl) (hp:es.all ax=true:=by rfl) :
  IE K X (.Call (.Name x p) (e::es) [] pos) (iCB g af):=by
 refine⟨λenv st r A=>?_⟩;simp only[iCB,qac,qad]at A;obtain⟨y,P,d,hd,rfl⟩:=A;refine (nW (hc.run _ _ _ hd) hg hm hv (L.run _ _ _ P) hn hdb (aT hs) (bx hp)).imp ?_
 rintro G H Q ⟨φ,E,B,q⟩
 exact⟨φ,E,B,λv H1 z f1 s1 J=>⟨z,s1,J,λu H2 f2 w2=>q u H2 z (f1.trans (Fw.same f2)) (s1.same f2) w2⟩⟩
def FV {x:Str}{T:String}{p:Pos}{g:Sto->List W->Option D} (hc:hW K X (.type T) g) (hg:Gl X x) (hm:X.mg x=none) (hv:qb9 x=some (.type T)) (L:IA K X (e::es) af)
  (hn:x≠"__name__":=by decide) (hdb:(x==("__debug__" : Str))=false:=by decide) (hs:ax e=true:=by rfl) (hp:es.all ax=true:=by rfl) :
  IE K X (.Call (.Name x p) (e::es) [] pos) (iCB g af):=by
 refine⟨λenv st r A=>?_⟩;simp only[iCB,qac,qad]at A;obtain⟨y,P,d,hd,rfl⟩:=A;refine (di (hc.run _ _ _ hd) hg hm hv (L.run _ _ _ P) hn hdb (aT hs) (bx hp)).imp ?_
 rintro G H Q ⟨φ,E,B,q⟩
 exact⟨φ,E,B,λv H1 z f1 s1 J=>⟨z,s1,J,λu H2 f2 w2=>q u H2 z (f1.trans (Fw.same f2)) (s1.same f2) w2⟩⟩
def Fk {x:Str}{id:String}{p:Pos}{g:Sto->List W->Option (List D)} (hc:rK K X (.builtin id) g) (hg:Gl X x) (hm:X.mg x=none) (hv:qb9 x=some (.builtin id)) (L:IA K X (e::es) af)
  (hn:x≠"__name__":=by decide) (hdb:(x==("__debug__" : Str))=false:=by decide) (hs:ax e=true:=by rfl) (hp:es.all ax=true:=by rfl) :
  IL K X (.Call (.Name x p) (e::es) [] pos) (iCL g af):=by
 refine⟨λenv st r A=>?_⟩;simp only[iCL,qac,qad]at A;obtain⟨y,P,d,hd,rfl⟩:=A;refine (nW (hc.run _ _ _ hd) hg hm hv (L.run _ _ _ P) hn hdb (aT hs) (bx hp)).imp ?_
 rintro G H Q ⟨φ,E,B,q⟩
 exact⟨φ,E,B,λv H1 z f1 s1 J=>⟨z,s1,J,λa us H2 f2 n2 w2=>q a us H2 z (f1.trans (Fw.same f2)) (s1.same f2) n2 w2⟩⟩
def B6 {x:Str}{T:String}{p:Pos}{g:Sto->List W->Option (List D)} (hc:rK K X (.type T) g) (hg:Gl X x) (hm:X.mg x=none) (hv:qb9 x=some (.type T)) (L:IA K X (e::es) af)
  (hn:x≠"__name__":=by decide) (hdb:(x==("__debug__" : Str))=false:=by decide) (hs:ax e=true:=by rfl) (hp:es.all ax=true:=by rfl) :
  IL K X (.Call (.Name x p) (e::es) [] pos) (iCL g af):=by
 refine⟨λenv st r A=>?_⟩;simp only[iCL,qac,qad]at A;obtain⟨y,P,d,hd,rfl⟩:=A;refine (di (hc.run _ _ _ hd) hg hm hv (L.run _ _ _ P) hn hdb (aT hs) (bx hp)).imp ?_
 rintro G H Q ⟨φ,E,B,q⟩
 exact⟨φ,E,B,λv H1 z f1 s1 J=>⟨z,s1,J,λa us H2 f2 n2 w2=>q a us H2 z (f1.trans (Fw.same f2)) (s1.same f2) n2 w2⟩⟩
def mW {H:Hp}{φ:List Addr}:∀ {ws:List W}{vs:List V}{ds:List D},lP ws=some ds->Rws K H φ ws vs->Rls K H φ ds vs
 |[],_,_,e,h=>by cases e;exact h
 |.d x::ws,_,_,e,h=>by
  obtain⟨v,r,rfl,h1,h2⟩:=h;obtain⟨es,e1,rfl⟩:=qad.mp e;exact⟨v,r,rfl,h1,mW e1 h2⟩
 |.h n::ws,_,_,e,h=>by cases e
def yx {x1} (h:IA K X es af):IE K X (.Tuple es x1 pos) (bv af):=by
 refine⟨λenv st r A=>?_⟩;simp only[bv,qac]at A;obtain⟨y,P,ds,hd,A⟩:=A;split at A
 ·cases A
  rename_i hl;refine (CJ (h.run _ _ _ P)).imp ?_
  rintro G H Q ⟨φ,E,B,q⟩
  refine⟨φ,E,B,λvs H1 z f1 s1 J=>?_⟩;have w:=mW hd J;refine⟨by rw[<-w.length];exact kS hl,λp hp=>?_⟩;exact q _ _ z (f1.trans (Fw.new hp)) (s1.new hp) ⟨p,vs,rfl,upd_same,w.fw s1 (Fw.new hp)⟩
 ·cases A
def ue (h:IA K X es af):IL K X (.List es pos) (bR af):=by
 refine⟨λenv st r A=>?_⟩;simp only[bR,qac]at A;obtain⟨y,P,ds,hd,A⟩:=A;split at A
 ·cases A
  rename_i hl;refine (CI (h.run _ _ _ P)).imp ?_
  rintro G H Q ⟨φ,E,B,q⟩
  refine⟨φ,E,B,λvs H1 z f1 s1 J=>?_⟩;have w:=mW hd J;exact⟨by rw[<-w.length];exact kS hl,λp hp=>q p vs H1 z f1 s1 hp w⟩
 ·cases A
def jn {lf:Lf} (h:IL K X e lf):IE K X e (ar lf):=by
 refine⟨λenv st r A=>?_⟩;simp only[ar,qad]at A;obtain⟨y,P,rfl⟩:=A;refine (h.run _ _ _ P).imp ?_
 rintro G H Q ⟨φ,E,B,q⟩
 refine⟨φ,E,B,λa vs H1 z f1 s1 n1 J=>?_⟩;exact q _ _ z (f1.trans (Fw.new n1)) (s1.new n1) ⟨a,vs,rfl,s1.nin n1,.inl upd_same,J.fw s1 (Fw.new n1)⟩
def Sr.moreC {H:Hp}{φ:List Addr}{st:Sto}{a:Addr}{o:HO}{c:C} (S:Sr K H φ st) (n:H a=none) (w:Rc K (upd H a o) (φ++[a]) φ.length a c):Sr K (upd H a o) (φ++[a]) (st++[c]):=by
 have f:Fw φ (φ++[a]) H (upd H a o):=⟨⟨[a],rfl,λb hb=>by rw[qap.mp hb];exact n⟩,λb o _ h=>aS.new n _ b o h,λb o h=>⟨o,aS.new n _ b o h⟩⟩;refine⟨?_,by rw[qaB,qaB,S.len];rfl,λi b es e1 e2=>?_⟩
 ·rw[qcw]
  refine⟨S.nd,by simp,λx O y P e=>?_⟩;rw[qap.mp P]at e;rw[e]at O;exact S.nin n O
 ·by_cases hi:i<φ.length
  ·rw[qaK hi]at e1
   rw[qaK (by rw[<-S.len];exact hi)]at e2;exact (S.at_ i b es e1 e2).fw S f λo h=>aS.new n _ _ _ h
  ·have e:i=φ.length:=by
    have:=(qas.mp e1).1
    rw[qaB]at this
    simp at this
    lia
   subst e;rw[qaP (qar _)]at e1;rw[S.len,qaP (qar _)]at e2
   simp at e1 e2
   subst e1 e2;exact w
def Fw.moreO {H:Hp}{φ:List Addr}{a:Addr}{o:HO} (n:H a=none):Fw φ (φ++[a]) H (upd H a o):=
 ⟨⟨[a],rfl,λb hb=>by rw[qap.mp hb];exact n⟩,λb o _ h=>aS.new n _ b o h,λb o h=>⟨o,aS.new n _ b o h⟩⟩
def Fw.more {H:Hp}{φ:List Addr}{a:Addr}{vs:List V} (n:H a=none):Fw φ (φ++[a]) H (upd H a (.lst vs)):=Fw.moreO n
def Sr.more {H:Hp}{φ:List Addr}{st:Sto}{a:Addr}{vs:List V}{ds:List D} (S:Sr K H φ st) (n:H a=none) (w:Rls K H φ ds vs):Sr K (upd H a (.lst vs)) (φ++[a]) (st++[.l ds]):=
 S.moreC n ⟨vs,upd_same,w.fw S (Fw.moreO n)⟩
def um {lf:Lf} (h:IL K X e lf):IE K X e (dh lf):=by
 refine⟨λenv st r A=>?_⟩;simp only[dh,qad]at A;obtain⟨y,P,rfl⟩:=A;refine (h.run _ _ _ P).imp ?_
 rintro G H Q ⟨φ,E,B,q⟩
 refine⟨φ,E,B,λa vs H1 z f1 s1 n1 J=>?_⟩;exact q _ _ (z++[a]) (f1.trans (Fw.more n1)) (s1.more n1 J) ⟨a,by rw[<-s1.len];simp,rfl⟩
def spI (K:qae) (m:Fn):Sp:=λvs H Q _=>∃ φ st ws r,m ws st=some r/\Rws K H φ ws vs/\Sr K H φ st/\∀ v H' φ',Fw φ φ' H H'->Sr K H' φ' r.2->Rw K H' φ' r.1 v->Q v H'
def Bi {x:Str}{k j:Nat}{ff:Addr}{fd:qau}{ps:List Str}{m:Fn}{p:Pos} (F:ek X.prog X.w X.K X.mg X.base CX0 j ff fd ps (spI K m)) (hjk:j<=k) (A:bC k X.A) (hg:Gl X x) (hm:X.mg x=some (.ref ff)) (hk:qcy X.K (.ref ff)=true) (hb:aM X.K fd ps [])
  (L:IA K X (e::es) af) (hdb:(x==("__debug__" : Str))=false:=by decide) (hs:ax e=true:=by rfl) (hp:es.all ax=true:=by rfl) :
  IE K X (.Call (.Name x p) (e::es) [] pos) (au m af):=by
 refine⟨λenv st r h=>?_⟩;simp only[au,qac]at h;obtain⟨y,P,h⟩:=h;refine (wm (F.mono hjk) A hg hm hk hb .nil zm (L.run _ _ _ P) hdb (aT hs) (bx hp)).imp ?_
 rintro G H Q ⟨φ,E,B,q⟩
 refine⟨φ,E,B,λvs H1 z f1 s1 J=>?_⟩;show spI K m (vs++[]) H1 Q E0;rw[qb3];exact⟨z,y.2,y.1,r,h,J,s1,λv H2 N f2 s2 w2=>q v H2 N (f1.trans f2) s2 w2⟩
end
inductive Fl where
 |nx (env:Ev) (st:Sto)|rt (w:W) (st:Sto)|bk (env:Ev) (st:Sto)|ct (env:Ev) (st:Sto)
abbrev Sf:=Ev->Sto->Option Fl
def yi (K:qae) (φ:List Addr) (H:Hp) (D:oS):Fl->Prop
 |.nx e s=>∀ b H' a,Fw φ a H H'->Er K H' a e b->Sr K H' a s->D.nx b H'
 |.rt w s=>∀ v H' a,Fw φ a H H'->Sr K H' a s->Rw K H' a w v->D.rt v H'
 |.bk e s=>∀ b H' a,Fw φ a H H'->Er K H' a e b->Sr K H' a s->D.bk b H'
 |.ct e s=>∀ b H' a,Fw φ a H H'->Er K H' a e b->Sr K H' a s->D.ct b H'
def yi.fw {K:qae}{φ d:List Addr}{H H1:Hp}{D:oS}{r:Fl} (h:yi K φ H D r) (f:Fw φ d H H1):yi K d H1 D r:=by
 cases r with
 |nx e s=>exact λb H' a c=>h b H' a (f.trans c)
 |rt w s=>exact λv H' a c=>h v H' a (f.trans c)
 |bk e s=>exact λb H' a c=>h b H' a (f.trans c)
 |ct e s=>exact λb H' a c=>h b H' a (f.trans c)
def tS (K:qae) (env:Ev) (st:Sto) (r:Fl):TS:=λD a H=>∃ φ,Er K H φ env a/\Sr K H φ st/\yi K φ H D r
structure IS (K:qae) (X:Cx) (s:Stmt) (g:Sf):Prop where
 run:∀ env st r,g env st=some r->PS X s (tS K env st r)
structure ISs (K:qae) (X:Cx) (s:List Stmt) (g:Sf):Prop where
 run:∀ env st r,g env st=some r->PSs X s (tS K env st r)
inductive Tg where
 |nm (i:Nat)|tp (is:List Nat)|tq (i:Nat) (is:List Nat)
def t7:Tg->List Nat
 |.nm i=>[i]
 |.tp is=>is
 |.tq i is=>i::is
def kN:List Nat->List D->Ev->Ev
 |i::is,d::ds,env=>kN is ds (env.set i (some (.d d)))
 |_,_,env=>env
def cB:Tg->W->Ev->Option Ev
 |.nm i,w,env=>some (env.set i (some w))
 |.tp is,.d (.tup ds),env=>if is.length=ds.length then some (kN is ds env) else none
 |.tp is,.d (.lst ds),env=>if is.length=ds.length then some (kN is ds env) else none
 |.tq i is,.d (.tup [d,.tup ds]),env=>if is.length=ds.length then some (kN is ds (env.set i (some (.d d)))) else none
 |_,_,_=>none
def BO (is:List Nat) (b a:St):Prop:=a.length=b.length/\∀ j,j∉is->a[j]?=b[j]?
def tG (K:qae) (g:Tg):TG:=λv c H Q=>∃ φ st env w a,Er K H φ env c/\Sr K H φ st/\Rw K H φ w v/\cB g w env=some a/\∀ b,Er K H φ a b->BO (t7 g) c b->Q b H
def tGs (K:qae) (is:List Nat):TGs:=λvs b H Q=>∃ φ st env ds,Er K H φ env b/\Sr K H φ st/\Rls K H φ ds vs/\is.length=ds.length/\∀ a,Er K H φ (kN is ds env) a->BO is b a->Q a H
def aO:Sf
 |env,st=>some (.nx env st)
def ah (a b:Sf):Sf
 |env,st=>(a env st).bind λr=>match r with
 |.nx e s=>b e s
 |r=>some r
def az (g:Tg) (f:Ef):Sf
 |env,st=>(f env st).bind λr=>(cB g r.1 env).map λe=>.nx e r.2
def fH (st:Sto) (o i v:W):Option Sto:=match o,i,v with
 |.h n,.d (.int k),.d x=>(lg st n).bind λds=>(ixN ds.length k).map λj=>st.set n (.l (ds.set j x))
 |_,_,_=>none
def bu (o i v:Ef):Sf
 |env,st=>(v env st).bind λa=>(o env a.2).bind λb=>(i env b.2).bind λc=>(fH c.2 b.1 c.1 a.1).map λs=>.nx env s
def aK (f:Ef):Sf
 |env,st=>(f env st).map λr=>.rt r.1 r.2
def kO (f:Ef):Sf
 |env,st=>(f env st).map λr=>.nx env r.2
def aY (c:Tf) (a b:Sf):Sf
 |env,st=>(c env st).bind λr=>if r.1=true then a env r.2 else b env r.2
def ui:Sf
 |env,st=>some (.bk env st)
def pV:Sf
 |env,st=>some (.ct env st)
def cK (g:Tg) (body:Sf):List D->Ev->Sto->Option Fl
 |[],env,st=>some (.nx env st)
 |d::ds,env,st=>(cB g (.d d) env).bind λe=>(body e st).bind λr=>match r with
  |.nx e s=>cK g body ds e s
  |.ct e s=>cK g body ds e s
  |.bk e s=>some (.nx e s)
  |.rt w s=>some (.rt w s)
def eZ (a:Lf) (g:Tg) (body:Sf):Sf
 |env,st=>(a env st).bind λr=>cK g body r.1 env r.2
def cu (c:Tf) (body:Sf):Nat->Ev->Sto->Option Fl
 |0,_,_=>none
 |n+1,env,st=>(c env st).bind λk=>if k.1=true then (body env k.2).bind λr=>match r with
   |.nx e s=>cu c body n e s
   |.ct e s=>cu c body n e s
   |.bk e s=>some (.nx e s)
   |.rt w s=>some (.rt w s)
  else some (.nx env k.2)
def lcI (g:Tg) (tt:Tf) (te:Ef) (env:Ev):List D->Sto->Option (List D×Sto)
 |[],st=>some ([],st)
 |d::ds,st=>(cB g (.d d) env).bind λe=>(tt e st).bind λb=>if b.1=true then (te e b.2).bind λx=>(lP [x.1]).bind λa=>(lcI g tt te env ds x.2).map λr=>(a++r.1,r.2)
   else lcI g tt te env ds b.2
def gq (k:Nat) (js:List Nat) (env:Ev):Ev:=qaz k none++js.map λj=>env.getD j none
def iLc (k:Nat) (js:List Nat) (a:Lf) (g:Tg) (tt:Tf) (te:Ef):Lf
 |env,st=>(a env st).bind λr=>if r.1.length<=1000000 then lcI g tt te (gq k js env) r.1 r.2 else none
def aL:Tf
 |_,st=>some (true,st)
def aC (f:Ef):Lf
 |env,st=>(f env st).bind λr=>match r.1 with
 |.d (.tup ds)=>some (ds,r.2)
 |.d (.lst ds)=>some (ds,r.2)
 |_=>none
def bF (lo:Int) (n:Nat):List D:=(qag n).map λk:Nat=>D.int (lo+k)
def bz (a:Af):Lf
 |env,st=>(a env st).bind λr=>match r.1 with
 |[.d (.int j)]=>if -(2^62)<=j/\j<2^62 then some (bF 0 j.toNat,r.2) else none
 |_=>none
def cm:Nat->List D->List D
 |_,[]=>[]
 |k,d::ds=>.tup [.int k,d]::cm (k+1) ds
def cb (a:Af):Lf
 |env,st=>(a env st).bind λr=>match r.1 with
 |[.d (.tup ds)]=>some (cm 0 ds,r.2)
 |[.d (.lst ds)]=>some (cm 0 ds,r.2)
 |_=>none
section
variable {K:qae}{X:Cx}{pos:Pos}
def PS.imp {s:Stmt}{t t':TS} (h:PS X s t) (m:∀ D B H,t' D B H->t D B H):PS X s t':=λA s B H D I q=>h A s B H D I (m D B H q)
def PSs.imp {s:List Stmt}{t t':TS} (h:PSs X s t) (m:∀ D B H,t' D B H->t D B H):PSs X s t':=λA s B H D I q=>h A s B H D I (m D B H q)
def Er.set {H:Hp}{φ:List Addr}{env:Ev}{B:St} (h:Er K H φ env B) (i:Nat) {w:W}{v:V} (r:Rw K H φ w v):Er K H φ (env.set i (some w)) (B.set i (some v)):=by
 refine⟨by rw[qb2,qb2,h.len],λj w' e=>?_⟩;by_cases hj:i=j
 ·subst hj
  have hi:i<env.length:=by
   have:=(qas.mp e).1
   rwa [qb2]at this
  rw[qbj hi]at e;cases e;exact⟨v,by rw[qbj (by rw[<-h.len];exact hi)],r⟩
 ·rw[qbx hj]at e
  obtain⟨v',M,r1⟩:=h.at_ j w' e;exact⟨v',by rw[qbx hj];exact M,r1⟩
def yD (i:Nat) (B:St) (v:Option V):BO [i] B (B.set i v):=⟨by rw[qb2],λj hj=>by rw[qbx (by rintro rfl;simp at hj)]⟩
def rj {i:Nat}{x:Str} (h:PG X (.Name x pos) (rE i)):PG X (.Name x pos) (tG K (.nm i)):=by
 intro A s B H v u Q I O q;obtain⟨φ,st,env,w,Y,E,G,r,e,q⟩:=q;cases e;exact h A s B H v u Q I O (q _ (E.set i r) (yD i B _))
def vV:PGs X [] (tGs K []):=by
 intro A s B H vs us Q I O q;obtain⟨φ,st,env,ds,E,G,r,e,q⟩:=q;cases ds with
 |nil=>cases r;exact Ab A s B H [] us Q I O ⟨rfl,q B E ⟨rfl,λ_ _=>rfl⟩⟩
 |cons _ _=>cases e
def om {i:Nat}{is:List Nat}{x:Str}{es:List Expr} (h1:PG X (.Name x pos) (rE i)) (h2:PGs X es (tGs K is)):PGs X (.Name x pos::es) (tGs K (i::is)):=by
 intro A s B H vs us Q I O q;obtain⟨φ,st,env,ds,E,G,r,e,q⟩:=q;cases ds with
 |nil=>cases e
 |cons d ds=>
  obtain⟨v,vr,rfl,r1,r2⟩:=r;refine ya h1 h2 (wk rfl) A s B H _ us Q I O ⟨v,vr,rfl,φ,st,_,ds,E.set i (w:=.d d) r1,G,r2,by simpa using e,λσ' N s'=>q σ' N ?_⟩;refine⟨by rw[s'.1,qb2],λj hj=>?_⟩;rw[s'.2 j (λz=>hj (qal _ z)),qbx (by rintro rfl;exact hj qaf)]
def G0 (K:qae) (n:Nat) (t:TGs):TG:=λv B H Q=>∃ a xs,v=.ref a/\SqL K H a xs/\xs.length=n/\t xs B H Q
def DA {es:List Expr}{k:Nat}{t:TGs}{n:Nat} (hc:X.calm=true) (h:PGs X es t) (hn:(qbO es X.env).length=n) (hst:(qbO es X.env).findIdx? (·.1)=none):PG X (.Tuple es k pos) (G0 X.K n t):=by
 intro A s B H v u Q I r hw;obtain⟨a,xs,M,hq,P,hw⟩:=hw;subst M;cases r;obtain⟨its,O,p,hz⟩:=I.list hq;rw[assign_Tuple];refine qab (qfx ?_);unfold unpack;rw[show (qbO es X.env).length=its.toArray.size by simp[hn,<-P,O.length],hst];refine qab (qcr (PySem.W.kun_itemsOf (I.ok.hd hc) p.isList λh' hx=>?_));have I1:Inv X A B H { s with heap:=h' }:=I.kept (t':=s.toks) λb o e=>hx b o (qaL (qax e)) e;exact h A _ B H xs _ Q I1 (by simpa using O) hw
def zH {es:List Expr}{k n:Nat}{is:List Nat} (h:PGs X es (tGs K is)) (hes:es.all ax=true:=by rfl) (hn:es.length=n:=by rfl) (hi:is.length=n:=by rfl) (hc:X.calm=true:=by rfl) (hK:X.K=K:=by rfl):PG X (.Tuple es k pos) (tG K (.tp is)):=by
 subst hK;intro A s B H v u Q I O q;obtain⟨φ,st,env,w,Y,E,G,r,e,q⟩:=q;cases w with
 |h n=>cases e
 |d x=>
  cases x with
  |tup ds=>
   have N:(if is.length=ds.length then some (kN is ds env) else none)=some Y:=e;by_cases P:is.length=ds.length
   ·rw[if_pos P]at N
    cases N;obtain⟨a,vs,rfl,hq,F⟩:=r;exact Cz hc h ((qG hes).trans hn) (nj hes) A s B H _ u Q I O ⟨a,vs,rfl,(SqT.of hq),by rw[<-F.length,<-P,hi],φ,st,env,ds,E,G,F,P,q⟩
   ·rw[if_neg P]at N
    cases N
  |lst ds=>
   have N:(if is.length=ds.length then some (kN is ds env) else none)=some Y:=e;by_cases P:is.length=ds.length
   ·rw[if_pos P]at N
    cases N;obtain⟨a,vs,rfl,_,hq,F⟩:=r;exact DA hc h ((qG hes).trans hn) (nj hes) A s B H _ u Q I O ⟨a,vs,rfl,.inl hq,by rw[<-F.length,<-P,hi],φ,st,env,ds,E,G,F,P,q⟩
   ·rw[if_neg P]at N
    cases N
  |_=>cases e
variable {s:Stmt}{ss rest:List Stmt}{e a b c:Expr}{ga gb:Sf}{f fa fb fc:Ef}
def wb:ISs K X [] aO:=by
 refine⟨λenv st r F=>?_⟩;cases F;exact BL.imp λD B H ⟨φ,E,G,q⟩=>q B H φ (Fw.refl φ H) E G
def kU (h:IS K X s ga):ISs K X [s] ga:=⟨λenv st r F=>ww (h.run env st r F)⟩
def bP (h1:IS K X s ga) (h2:ISs K X rest gb):ISs K X (s::rest) (ah ga gb):=by
 refine⟨λenv st r F=>?_⟩;simp only[ah,qac]at F;obtain⟨r1,M,F⟩:=F;cases r1 with
 |nx e s1=>
  refine (dC (h1.run _ _ _ M) (h2.run _ _ _ F)).imp ?_
  rintro D B H ⟨φ,E,G,q⟩
  exact⟨φ,E,G,λσ' H' φ' f' N s'=>⟨φ',N,s',q.fw f'⟩⟩
 |rt w s1=>
  cases F;exact (dC (h1.run _ _ _ M) fW).imp λD B H ⟨φ,E,G,q⟩=>⟨φ,E,G,q⟩
 |bk w s1=>
  cases F;exact (dC (h1.run _ _ _ M) fW).imp λD B H ⟨φ,E,G,q⟩=>⟨φ,E,G,q⟩
 |ct w s1=>
  cases F;exact (dC (h1.run _ _ _ M) fW).imp λD B H ⟨φ,E,G,q⟩=>⟨φ,E,G,q⟩
def jX {i:Nat}{x:Str}{pos':Pos} (hN:X.N.Nodup) (hi:X.N[i]?=some x) (hx:Loc X.env.scope x) (he:IE K X e f) (hs:qcB e (some (.Name x pos')) pos.line X.env=pure false:=by rfl) (hf:X.fn x=true\/X.env.scope.names.lookup x=some .local:=by first|exact .inl rfl|exact .inr rfl|assumption) :
  IS K X (.Assign [.Name x pos'] e pos) (az (.nm i) f):=by
 refine⟨λenv st r F=>?_⟩;simp only[az,cB,qac,qad]at F;obtain⟨y,hy,N,ee,rfl⟩:=F;cases ee;refine (Cw hN hi hx (he.run _ _ _ hy) hs hf).imp ?_
 rintro D B H ⟨φ,E,G,q⟩
 exact⟨φ,E,G,λv H1 L f1 s1 w1=>q _ H1 L f1 ((E.fw G f1).set i w1) s1⟩
def Sr.putC {H:Hp}{φ:List Addr}{st:Sto}{n:Nat}{a:Addr}{o:HO}{c:C} (S:Sr K H φ st) (hn:φ[n]?=some a) (w:Fw φ φ H (upd H a o)->Rc K (upd H a o) φ n a c) :
  Fw φ φ H (upd H a o)/\Sr K (upd H a o) φ (st.set n c):=by
 have ha:a∈φ:=qbT hn
 have f:Fw φ φ H (upd H a o):=⟨⟨[],by simp,by simp⟩,λb o hb h=>by rw[upd_ne (λz=>hb (by rw[z];exact ha))];exact h,λb o h=>by
  by_cases z:b=a
  ·subst z;exact⟨_,upd_same⟩
  ·exact⟨o,by rw[upd_ne z];exact h⟩⟩
 refine⟨f,S.nd,by rw[qb2];exact S.len,λm b es M e2=>?_⟩;by_cases hm:n=m
 ·subst hm
  rw[M]at hn;cases hn;have P:n<st.length:=by rw[<-S.len];exact (qas.mp M).1
  rw[qbj P]at e2;cases e2;exact w f
 ·rw[qbx hm]at e2
  have q:=S.at_ m b es M e2;have hne:b≠a:=by
   rintro rfl
   obtain⟨h1,h1'⟩:=qas.mp hn;obtain⟨h2,h2'⟩:=qas.mp M;exact hm ((qdC S.nd).mp (h1'.trans h2'.symm))
  exact q.fw S f λo h=>by rw[upd_ne hne];exact h
def Sr.put {H:Hp}{φ:List Addr}{st:Sto}{n:Nat}{a:Addr}{vs:List V}{ds:List D} (S:Sr K H φ st) (hn:φ[n]?=some a) (w:Rls K H φ ds vs) :
  Fw φ φ H (upd H a (.lst vs))/\Sr K (upd H a (.lst vs)) φ (st.set n (.l ds)):=S.putC hn λf=>⟨vs,upd_same,w.fw S f⟩
def uB {st s':Sto}{o i v:W} (h:fH st o i v=some s'):∃ n k x ds j,o=.h n/\i=.d (.int k)/\v=.d x/\lg st n=some ds/\ixN ds.length k=some j/\s'=st.set n (.l (ds.set j x)):=by
 unfold fH at h;split at h
 ·obtain⟨ds,M,h⟩:=qac.mp h
  obtain⟨j,e2,h⟩:=qad.mp h;exact⟨_,_,_,ds,j,rfl,rfl,rfl,M,e2,h.symm⟩
 ·cases h
def mO {T:Pos} (ho:IE K X a fa) (hi:IE K X b fb) (hv:IE K X e f) (hb:qh b=true:=by rfl) (hs:qfA [.Subscript a b T] e pos.line X.env=pure false:=by rfl) (hw:qfB [.Subscript a b T] e X.env=pure none:=by rfl) :
  IS K X (.Assign [.Subscript a b T] e pos) (bu fa fb f):=by
 refine⟨λenv st r F=>?_⟩;simp only[bu,qac,qad]at F;obtain⟨O,ev,ro,eo,ri,ei,s',es,rfl⟩:=F;refine (uW (hv.run _ _ _ ev) (uU (ho.run _ _ _ eo) (hi.run _ _ _ ei) nw (rq hb)) hs hw (pW rfl)).imp ?_
 rintro D B H ⟨φ,E,G,q⟩
 refine⟨φ,E,G,λv H1 L f1 s1 w1=>⟨L,E.fw G f1,s1,λo H2 φ2 f2 s2 w2=>⟨φ2,(E.fw G f1).fw s1 f2,s2,λi H3 φ3 f3 s3 w3=>?_⟩⟩⟩;have e3:=((E.fw G f1).fw s1 f2).fw s2 f3;have w1':=(w1.fw s1 f2).fw s2 f3;have w2':=w2.fw s2 f3;obtain⟨ro1,ro2⟩:=ro;obtain⟨rv1,rv2⟩:=O;obtain⟨ri1,ri2⟩:=ri;obtain⟨n,k,x,ds,j,rfl,rfl,rfl,eds,ej,rfl⟩:=uB es;obtain⟨p,ep,rfl⟩:=w2';obtain⟨vs,hp,rl⟩:=s3.atl n p ds ep eds;have w3':i=.int k:=w3;subst w3';obtain⟨f4,s4⟩:=s3.put ep (Rls.set j rl w1');refine⟨p,vs,k,j,rfl,rfl,hp,by rw[<-rl.length];exact ej,?_⟩;exact q _ _ φ3 (((f1.trans f2).trans f3).trans f4) (e3.fw s3 f4) s4
def vb (h:IE K X e f):IS K X (.Return (some e) pos) (aK f):=by
 refine⟨λenv st r F=>?_⟩;simp only[aK,qad]at F;obtain⟨y,hy,rfl⟩:=F;exact (CP (h.run _ _ _ hy)).imp λD B H ⟨φ,E,G,q⟩=>⟨φ,E,G,q⟩
def vw (h:IE K X e f) (hs:qcB e none pos.line X.env=pure false:=by rfl):IS K X (.Expr e pos) (kO f):=by
 refine⟨λenv st r F=>?_⟩;simp only[kO,qad]at F;obtain⟨y,hy,rfl⟩:=F;exact (BI (h.run _ _ _ hy) hs).imp λD B H ⟨φ,E,G,q⟩=>⟨φ,E,G,λv H1 L f1 s1 w1=>q B H1 L f1 (E.fw G f1) s1⟩
def BZ {tc:Tf}{sa sb:List Stmt} (hc:IT K X c tc) (ha:ISs K X sa ga) (hb:ISs K X sb gb):IS K X (.If c sa sb pos) (aY tc ga gb):=by
 refine⟨λenv st r F=>?_⟩;simp only[aY,qac]at F;obtain⟨⟨k,s1⟩,hx,F⟩:=F;cases k with
 |true=>
  rw[if_pos rfl]at F;refine (B5 (hc.run _ _ _ hx) (ha.run _ _ _ F) fW).imp ?_
  rintro D B H ⟨φ,E,G,q⟩
  refine⟨φ,E,G,λH1 L f1 s1=>xk ?_⟩;exact⟨L,E.fw G f1,s1,q.fw f1⟩
 |false=>
  rw[if_neg qaC]at F;refine (B5 (hc.run _ _ _ hx) fW (hb.run _ _ _ F)).imp ?_
  rintro D B H ⟨φ,E,G,q⟩
  refine⟨φ,E,G,λH1 L f1 s1=>wN ?_⟩;exact⟨L,E.fw G f1,s1,q.fw f1⟩
def zR:IS K X (.Break pos) ui:=by
 refine⟨λenv st r F=>?_⟩;cases F;exact yE.imp λD B H ⟨φ,E,G,q⟩=>q B H φ (Fw.refl φ H) E G
def AO:IS K X (.Continue pos) pV:=by
 refine⟨λenv st r F=>?_⟩;cases F;exact sw.imp λD B H ⟨φ,E,G,q⟩=>q B H φ (Fw.refl φ H) E G
def Es (K:qae) (g:Sf):TS:=λD B H=>∃ env st r,g env st=some r/\tS K env st r D B H
def BX (K:qae) (f:Ef):TE:=λB H Q=>∃ env st r,f env st=some r/\tI K env st r B H Q
def x9 (K:qae) (f:Tf):TT:=λB H Q=>∃ env st r,f env st=some r/\tIT K env st r B H Q
def ISs.any (h:ISs K X ss ga):PSs X ss (Es K ga):=λA s B H D I ⟨env,st,r,e,q⟩=>h.run env st r e A s B H D I q
def IE.any (h:IE K X e f):PE X e (BX K f):=λA s B H D I ⟨env,st,r,e,q⟩=>h.run env st r e A s B H D I q
def IT.any {tf:Tf} (h:IT K X e tf):PT X e (x9 K tf):=λA s B H D I ⟨env,st,r,e,q⟩=>h.run env st r e A s B H D I q
def Yl (K:qae) (φ0:List Addr) (H0:Hp) (J:It) (ds:List D):Prop:=∀ (H:Hp) (φ:List Addr) (st:Sto) (i:Nat),Fw φ0 φ H0 H->Sr K H φ st->
 (∀ d,ds[i]?=some d->J.go i H/\∀ x H',J.yld i H x H'->aS H H'/\Rl K H' φ d x)/\(ds.length=i->J.stop i H)
def tII (K:qae) (env:Ev) (st:Sto) (r:List D×Sto):TI:=λB H R=>∃ φ,Er K H φ env B/\Sr K H φ st/\∀ J H' φ',Fw φ φ' H H'->Sr K H' φ' r.2->Yl K φ' H' J r.1->R J H'
structure II (K:qae) (X:Cx) (tg iter:Expr) (f:Lf):Prop where
 run:∀ env st r,f env st=some r->PI X tg iter (tII K env st r)
def PI.imp {tg iter:Expr}{t t':TI} (h:PI X tg iter t) (m:∀ B H R,t' B H R->t B H R):PI X tg iter t':=λA s B H R I q=>h A s B H R I (m B H R q)
variable {tg:Expr}
end
section
variable {K:qae}{X:Cx}{pos:Pos}{tg e a b:Expr}{f:Ef}{af:Af}
def ut (h:IE K X e f) (hK:X.K=K:=by rfl):II K X tg e (aC f):=by
 subst hK;refine⟨λenv st r B=>?_⟩;simp only[aC,qac]at B;obtain⟨⟨w,s1⟩,hy,B⟩:=B
 match w,B with
 |.d (.tup ds),B=>
  cases B;refine (Dk (h.run _ _ _ hy)).imp ?_
  rintro G H R ⟨φ,P,N,q⟩
  refine⟨φ,P,N,λv H1 E f1 s1 w1=>?_⟩;obtain⟨a,vs,rfl,hq,B⟩:=w1;refine⟨a,rfl,⟨vs,(SqT.of hq)⟩,q _ H1 E f1 s1 λH2 l O i f2 s2=>?_⟩;have hq2:=(SqT.of hq).fw s1 f2;have hr2:=B.fw s1 f2;refine⟨λd hd=>?_,λhi=>⟨vs,hq2,by rw[<-hr2.length];exact qdA hi⟩⟩;obtain⟨v,ev,rv⟩:=hr2.get hd;refine⟨⟨vs,v,hq2,ev⟩,λx H' y=>?_⟩;obtain⟨rfl,y⟩:=y
  have:=y vs hq2
  rw[ev]at this;cases this;exact⟨aS.refl _,rv⟩
 |.d (.lst ds),B=>
  cases B;refine (AV (h.run _ _ _ hy)).imp ?_
  rintro G H R ⟨φ,P,N,q⟩
  refine⟨φ,P,N,λv H1 E f1 s1 w1=>?_⟩;obtain⟨a,vs,rfl,h0,hq,B⟩:=w1;refine⟨a,rfl,⟨vs,.inl hq⟩,q _ H1 E f1 s1 λH2 l O i f2 s2=>?_⟩;have hq2:SqL X.K H2 a vs:=.inl (hq.fw f2 h0);have hr2:=B.fw s1 f2;refine⟨λd hd=>?_,λhi=>⟨vs,hq2,by rw[<-hr2.length];exact qdA hi⟩⟩;obtain⟨v,ev,rv⟩:=hr2.get hd;refine⟨⟨vs,v,hq2,ev⟩,λx H' y=>?_⟩;obtain⟨rfl,y⟩:=y
  have:=y vs hq2
  rw[ev]at this;cases this;exact⟨aS.refl _,rv⟩
def rX (lo:Int) (n i:Nat):(bF lo n)[i]?=if i<n then some (.int (lo+i)) else none:=by
 unfold bF;rw[qaD];by_cases h:i<n
 ·rw[qbh h,if_pos h];rfl
 ·rw[qaJ (by simpa using h),if_neg h];rfl
def cg (lo:Int) (n:Nat):(bF lo n).length=n:=by unfold bF;rw[qah,qat]
def C2 (lo:Int) (n:Nat) {φ:List Addr}{H:Hp}:Yl K φ H (Itr lo n) (bF lo n):=by
 intro H2 l O i f2 s2;refine⟨λd hd=>?_,λhi=>by rw[cg]at hi;exact qdA hi⟩;rw[rX]at hd;by_cases h:i<n
 ·rw[if_pos h]at hd
  cases hd;refine⟨h,λx H' y=>?_⟩;obtain⟨rfl,rfl⟩:=y;exact⟨aS.refl _,rfl⟩
 ·rw[if_neg h]at hd;cases hd
def BJ {p:Pos} (hg:Gl X "range") (hm:X.mg "range" = none) (ha:IA K X [a] af) (hs:ax a=true:=by rfl):II K X tg (.Call (.Name "range" p) [a] [] pos) (bz af):=by
 refine⟨λenv st r B=>?_⟩;simp only[bz,qac]at B;obtain⟨⟨ws,s1⟩,hy,B⟩:=B
 match ws,B with
 |[.d (.int j)],B=>
  have L:(if -(2^62)<=j/\j<2^62 then some (bF 0 j.toNat,s1) else none)=some r:=B;by_cases hj:-(2^62)<=j/\j<2^62
  ·rw[if_pos hj]at L
   cases L;refine (xL hg hm (ha.run _ _ _ hy) (iK hs)).imp ?_
   rintro G H R ⟨φ,P,N,q⟩
   refine⟨φ,P,N,λvs H1 E f1 s1 w1=>?_⟩;obtain⟨v,r,rfl,r1,rfl⟩:=w1;exact⟨j,by rw[show v=.int j from r1],hj.1,hj.2,q _ H1 E f1 s1 (C2 0 _)⟩
  ·rw[if_neg hj]at L;cases L
def ef:∀ (ds:List D) (k i:Nat),(cm k ds)[i]?=(ds[i]?).map λd=>D.tup [.int ((k+i:Nat):Int),d]
 |[],k,i=>by simp[cm]
 |d::ds,k,0=>by simp[cm]
 |d::ds,k,i+1=>by
  have:=ef ds (k+1) i
  rw[show k+1+i=k+(i+1) by lia]at this;simpa [cm] using this
def lp:∀ (ds:List D) (k:Nat),(cm k ds).length=ds.length
 |[],_=>rfl
 |d::ds,k=>by rw[cm,qam,qam,lp ds]
def vK {S:Hp->List V->Prop}{ds:List D}{vs:List V}{φ:List Addr}{H:Hp} (N:∀ H' W,Fw φ W H H'->S H' vs) (B:∀ H' W,Fw φ W H H'->Rls K H' W ds vs):Yl K φ H (Ite S) (cm 0 ds):=by
 intro H2 l O i f2 s2;have q2:=N H2 l f2;have r2:=B H2 l f2;refine⟨λd hd=>?_,λhi=>⟨vs,q2,by rw[<-r2.length,<-lp ds 0];exact hi⟩⟩;rw[ef,qad]at hd;obtain⟨d',hd',rfl⟩:=hd;obtain⟨v,ev,rv⟩:=r2.get hd';refine⟨⟨vs,v,q2,ev⟩,λx H' y=>?_⟩;obtain⟨T,v',y1,hT,rfl,rfl⟩:=y
 have:=y1 vs q2
 rw[ev]at this;cases this;refine⟨aS.new hT _,T,_,rfl,upd_same,_,_,rfl,?_,_,_,rfl,rv.fw s2 (Fw.new hT),rfl⟩;show V.int (i:Int)=V.int ((0+i:Nat):Int);rw[qaT]
def Aw {elts:List Expr}{k:Nat}{tpos p:Pos} (hg:Gl X "enumerate") (hm:X.mg "enumerate" = none) (ha:IA K X [a] af) (hs:ax a=true:=by rfl) (hK:X.K=K:=by rfl) :
  II K X (.Tuple elts k tpos) (.Call (.Name "enumerate" p) [a] [] pos) (cb af):=by
 subst hK;refine⟨λenv st r B=>?_⟩;simp only[cb,qac]at B;obtain⟨⟨ws,s1⟩,hy,B⟩:=B
 match ws,B with
 |[.d (.tup ds)],B=>
  cases B;refine (zF hg hm (ha.run _ _ _ hy) (iK hs)).imp ?_
  rintro G H R ⟨φ,P,N,q⟩
  refine⟨φ,P,N,λvs H1 E f1 s1 w1=>?_⟩;obtain⟨v,r,rfl,⟨a,us,rfl,hq,B⟩,rfl⟩:=w1;exact⟨a,rfl,⟨us,(SqT.of hq)⟩,q _ H1 E f1 s1 (vK (λH' W f=>(SqT.of hq).fw s1 f) λH' W f=>B.fw s1 f)⟩
 |[.d (.lst ds)],B=>
  cases B;refine (yn hg hm (ha.run _ _ _ hy) (iK hs)).imp ?_
  rintro G H R ⟨φ,P,N,q⟩
  refine⟨φ,P,N,λvs H1 E f1 s1 w1=>?_⟩;obtain⟨v,r,rfl,⟨a,us,rfl,h0,hq,B⟩,rfl⟩:=w1;exact⟨a,rfl,⟨us,.inl hq⟩,q _ H1 E f1 s1 (vK (λH' W f=>.inl (hq.fw f h0)) λH' W f=>B.fw s1 f)⟩
def Cj {iter:Expr}{body:List Stmt}{fi:Lf}{g:Tg}{gb:Sf} (hi:II K X tg iter fi) (hg:PG X tg (tG K g)) (hb:ISs K X body gb) (hp:qhA (model X.prog X.w) X.A X.env X.xe) (hc:X.calm=true:=by rfl)
  (hs:∀ x,qb6 iter X.env x=pure x:=by intro _;rfl):IS K X (.For tg iter body [] pos) (eZ fi g gb):=by
 refine⟨λenv st r B=>?_⟩;simp only[eZ,qac]at B;obtain⟨⟨ds,s1⟩,hy,B⟩:=B;refine (D7 hp hc (hi.run _ _ _ hy) hg hb.any hs).imp ?_
 rintro D G H ⟨φ,P,N,q⟩
 refine⟨φ,P,N,λJ H1 E f1 S1 yl=>?_⟩;refine⟨λi m G H=>m=ds.length - i/\i<=ds.length/\∃ env st l,Fw E l H1 H/\Er K H l env G/\Sr K H l st/\cK g gb (ds.drop i) env st=some r,⟨ds.length,by simp,qch _,env,s1,E,Fw.refl _ _,P.fw N f1,S1,B⟩,?_⟩
 rintro i m G H2 ⟨rfl,hi,env2,O,l,f2,e2,S2,h2⟩
 obtain⟨y1,y2⟩:=yl H2 l O i f2 S2;by_cases hlt:i<ds.length
 ·obtain⟨go,yld⟩:=y1 ds[i] (qao hlt)
  rw[qcW hlt]at h2;simp only[cK,qac]at h2;obtain⟨e3,he3,r3,hr3,h3⟩:=h2;refine .inr ⟨go,λσ' H'=>i+1<=ds.length/\∃ env st l,Fw E l H1 H'/\Er K H' l env σ'/\Sr K H' l st/\cK g gb (ds.drop (i+1)) env st=some r,λσ' H' ⟨hn,p'⟩=>⟨ds.length - (i+1),by lia,rfl,hn,p'⟩,λx H' y=>?_⟩;obtain⟨sm,rx⟩:=yld x H' y;have S3:=S2.same sm;have f3:=f2.trans (Fw.same (φ:=l) sm);refine⟨l,O,env2,.d ds[i],e3,e2.fw S2 (Fw.same sm),S3,rx,he3,λσ' e' _=>?_⟩;refine⟨e3,O,r3,hr3,l,e',S3,?_⟩;cases r3 with
  |nx e4 s4=>exact λσ4 H4 F f4 Y M=>⟨hlt,e4,s4,F,f3.trans f4,Y,M,h3⟩
  |ct e4 s4=>exact λσ4 H4 F f4 Y M=>⟨hlt,e4,s4,F,f3.trans f4,Y,M,h3⟩
  |bk e4 s4=>
   cases h3;exact λσ4 H4 F f4 Y M=>q σ4 H4 F (f1.trans (f3.trans f4)) Y M
  |rt w s4=>
   cases h3;exact λv H4 F f4 M w4=>q v H4 F (f1.trans (f3.trans f4)) M w4
 ·have hi':i=ds.length:=by lia
  subst hi';rw[qhI]at h2;cases h2;exact .inl ⟨y2 rfl,q G H2 l (f1.trans f2) e2 S2⟩
def vf (n:Nat) (c:Tf) (b:Sf):Sf
 |env,st=>cu c b n env st
def rR {c:Expr}{body:List Stmt}{tc:Tf}{gb:Sf} (n:Nat) (hc:IT K X c tc) (hb:ISs K X body gb) (hp:qhA (model X.prog X.w) X.A X.env X.xe):IS K X (.While c body [] pos) (vf n tc gb):=by
 refine⟨λenv st r B=>?_⟩;refine (zp hp hc.any hb.any).imp ?_
 rintro D G H ⟨φ,P,N,q⟩
 refine⟨λm G H'=>∃ env st l,Fw φ l H H'/\Er K H' l env G/\Sr K H' l st/\cu tc gb m env st=some r,⟨n,env,st,φ,Fw.refl _ _,P,N,B⟩,?_⟩
 rintro m G H2 ⟨env2,O,l,f2,e2,S2,h2⟩
 cases m with
 |zero=>cases h2
 |succ m=>
  simp only[cu,qac]at h2;obtain⟨⟨k,s3⟩,hk,h2⟩:=h2;refine⟨env2,O,_,hk,l,e2,S2,λH3 φ3 f3 S3=>?_⟩;cases k with
  |false=>
   rw[if_neg qaC]at h2;cases h2;exact wN (q G H3 φ3 (f2.trans f3) (e2.fw S2 f3) S3)
  |true=>
   simp only[if_true,qac]at h2;obtain⟨r3,hr3,h3⟩:=h2;refine xk ⟨λσ' H'=>∃ env st l,Fw φ l H H'/\Er K H' l env σ'/\Sr K H' l st/\cu tc gb m env st=some r,λσ' H' p'=>⟨m,qbV _,p'⟩,?_⟩;refine⟨env2,s3,r3,hr3,φ3,e2.fw S2 f3,S3,?_⟩;have f3':=f2.trans f3;cases r3 with
   |nx e4 s4=>exact λσ4 H4 F f4 Y M=>⟨e4,s4,F,f3'.trans f4,Y,M,h3⟩
   |ct e4 s4=>exact λσ4 H4 F f4 Y M=>⟨e4,s4,F,f3'.trans f4,Y,M,h3⟩
   |bk e4 s4=>
    cases h3;exact λσ4 H4 F f4 Y M=>q σ4 H4 F (f3'.trans f4) Y M
   |rt w s4=>
    cases h3;exact λv H4 F f4 M w4=>q v H4 F (f3'.trans f4) M w4
structure ITs (K:qae) (X:Cx) (ifs:List Expr) (t:Tf):Prop where
 run:PTs X ifs (x9 K t)
def mF:ITs K X [] aL:=by
 refine⟨λpins s G H Q I ⟨env,st,r,e,φ,P,N,q⟩=>?_⟩;cases e;exact Aa pins s G H Q I (q H φ (Fw.refl φ H) N)
def BF {c:Expr}{t:Tf} (h:IT K X c t):ITs K X [c] t:=⟨Bz h.any⟩
def Er.emb {H:Hp}{φ:List Addr}{env:Ev}{G:St} (h:Er K H φ env G) (k:Nat) (js:List Nat):Er K H φ (gq k js env) (gh k js G):=by
 refine⟨by unfold gq gh;simp,λi w e=>?_⟩;unfold gq at e;unfold gh;by_cases hi:i<k
 ·rw[qaK (by simpa using hi),qda,if_pos hi]at e
  cases e
 ·rw[qaP (by simpa using hi),qcK,qaD,qad]at e
  obtain⟨j,ej,e⟩:=e;have ej2:env[j]?=some (some w):=by
   rw[qfL]at e;cases q:env[j]? with
   |none=>rw[q]at e;cases e
   |some o=>rw[q]at e;rw[show o=some w from e]
  obtain⟨v,ev,rv⟩:=h.at_ j w ej2;refine⟨v,?_,rv⟩;rw[qaP (by simpa using hi),qcK,qaD,ej];show some ((G[j]?).getD none)=_;rw[ev];rfl
def Sub.stay {k:Nat}{js is:List Nat}{G σ':St} (h:BO is (gh k js G) σ') (hi:∀ j∈is,j<k):Sub (gh k js G) σ':=by
 refine⟨h.1.symm,λj v e=>?_⟩;by_cases hj:j∈is
 ·have:=hi j hj
  unfold gh at e;rw[qaK (by simpa using this),qda,if_pos this]at e;cases e
 ·rw[h.2 j hj];exact e
def uP {k:Nat}{js:List Nat}{g:Tg}{tt:Tf}{te:Ef}{env:Ev}{st s1:Sto}{ds:List D}{r:List D×Sto} (hgi:∀ j∈t7 g,j<k) (hdl:ds.length<=1000000) (L:lcI g tt te (gq k js env) ds s1=some r) :
  ∀ G H Q,tIL K env st r G H Q->tLc (gh k js) (tII K env st (ds,s1)) (tG K g) (x9 K tt) (BX K te) G H Q:=by
 rintro G H Q ⟨φ,P,N,q⟩
 refine⟨φ,P,N,λJ H1 E f1 S1 yl=>?_⟩;have hE1:=(P.fw N f1).emb k js;refine⟨λi m ys H2=>m=ds.length - i/\i<=ds.length/\∃ st l es r2,Fw E l H1 H2/\Sr K H2 l st/\Rls K H2 l es ys/\es.length<=i/\lcI g tt te (gq k js env) (ds.drop i) st=some r2/\r=(es++r2.1,r2.2),⟨ds.length,by simp,qch _,s1,E,[],r,Fw.refl _ _,S1,rfl,qar _,L,rfl⟩,?_⟩
 rintro i m ys H2 ⟨rfl,hi,O,l,es,r2,f2,S2,rl2,hle,h2,rfl⟩
 obtain⟨y1,y2⟩:=yl H2 l O i f2 S2;by_cases hlt:i<ds.length
 ·obtain⟨go,yld⟩:=y1 ds[i] (qao hlt)
  rw[qcW hlt]at h2;simp only[lcI,qac]at h2;obtain⟨e3,he3,⟨kb,s3⟩,hb3,h3⟩:=h2;have hz:ys.length<qaO:=by
   rw[<-rl2.length]
   have:qaO=16777216:=qcb
   lia
  refine .inr ⟨go,hz,λys' H'=>i+1<=ds.length/\∃ st l es' r2',Fw E l H1 H'/\Sr K H' l st/\Rls K H' l es' ys'/\es'.length<=i+1/\lcI g tt te (gq k js env) (ds.drop (i+1)) st=some r2'/\(es++r2.1,r2.2)=(es'++r2'.1,r2'.2),λys' H' ⟨hn,p'⟩=>⟨ds.length - (i+1),by lia,rfl,hn,p'⟩,λx H' y=>?_⟩;obtain⟨sm,rx⟩:=yld x H' y;have S3:=S2.same sm;have f3:=f2.trans (Fw.same (φ:=l) sm);refine⟨l,O,gq k js env,.d ds[i],e3,hE1.fw S1 f3,S3,rx,he3,λσ' e' stay=>⟨Sub.stay stay hgi,?_⟩⟩;refine⟨e3,O,_,hb3,l,e',S3,λH4 F f4 S4=>?_⟩;cases kb with
  |false=>
   rw[if_neg qaC]at h3;exact wN ⟨hlt,s3,F,es,r2,f3.trans f4,S4,(rl2.fw S2 (Fw.same sm)).fw S3 f4,by lia,h3,rfl⟩
  |true=>
   simp only[if_true,qac,qad]at h3;obtain⟨x5,hx5,zs,hzs,r5,hr5,rfl⟩:=h3;refine xk ⟨e3,s3,x5,hx5,F,e'.fw S3 f4,S4,λv H5 φ5 f5 S5 w5=>?_⟩;obtain⟨x5,s5⟩:=x5;cases x5 with
   |h n=>cases hzs
   |d z=>
    cases hzs;refine⟨hlt,s5,φ5,es++[z],r5,(f3.trans f4).trans f5,S5,(((rl2.fw S2 (Fw.same sm)).fw S3 f4).fw S4 f5).append ⟨v,[],rfl,w5,rfl⟩,by rw[qaB];simp;lia,hr5,?_⟩
    simp
 ·have hi':i=ds.length:=by lia
  subst hi';rw[qhI]at h2;cases h2;refine .inl ⟨y2 rfl,λDn hD=>?_⟩
  have:=q Dn ys H2 l (f1.trans f2) S2 hD
  exact this (by simpa using rl2)
def yY {A:Scope}{Nc:List Str}{k:Nat}{js:List Nat}{elt iter:Expr}{ifs:List Expr}{fi:Lf}{g:Tg}{tt:Tf}{te:Ef}
  (S:dW X A Nc (gh k js)) (hc:X.calm=true) (hgi:∀ j∈t7 g,j<k) (hi:II K X tg iter fi)
  (hg:∀ u s H C fp,PG (lcX X A u Nc s H C fp) tg (tG K g)) (ht:∀ u s H C fp,ITs K (lcX X A u Nc s H C fp) ifs tt) (he:∀ u s H C fp,IE K (lcX X A u Nc s H C fp) elt te)
  (hs:∀ x,qb6 iter X.env x=pure x:=by intro _;rfl):IL K X (.ListComp elt [⟨tg,iter,ifs,0⟩] A pos) (iLc k js fi g tt te):=by
 refine⟨λenv st r B=>?_⟩;simp only[iLc,qac]at B;obtain⟨⟨ds,s1⟩,hy,B⟩:=B;have L:(if ds.length<=1000000 then lcI g tt te (gq k js env) ds s1 else none)=some r:=B;by_cases hdn:¬ ds.length<=1000000
 ·rw[if_neg hdn]at L;cases L
 have hdl:ds.length<=1000000:=by lia
 rw[if_pos hdl]at L;refine (FF S hc (hi.run _ _ _ hy) hg (λu s H C fp=>(ht u s H C fp).run) (λu s H C fp=>(he u s H C fp).any) hs).imp (uP hgi hdl L)
def Fy {A:Scope}{Nc:List Str}{k:Nat}{js:List Nat}{elt iter:Expr}{ifs:List Expr}{fi:Lf}{g:Tg}{tt:Tf}{te:Ef}{i0:Nat}{x0:Str}{py spos:Pos}
  (hN0:X.N.Nodup) (hi0:X.N[i0]?=some x0) (hx0:Loc X.env.scope x0) (S:dW X A Nc (gh k js)) (hc:X.calm=true) (hgi:∀ j∈t7 g,j<k) (hi:II K X tg iter fi)
  (hg:∀ u s H C fp,PG (lcX X A u Nc s H C fp) tg (tG K g)) (ht:∀ u s H C fp,ITs K (lcX X A u Nc s H C fp) ifs tt) (he:∀ u s H C fp,IE K (lcX X A u Nc s H C fp) elt te)
  (hsw:qcB (.ListComp elt [⟨tg,iter,ifs,0⟩] A pos) (some (.Name x0 py)) spos.line X.env=pure true:=by rfl)
  (hf0:X.fn x0=true\/X.env.scope.names.lookup x0=some .local:=by first|exact .inl rfl|exact .inr rfl|assumption)
  (hs:∀ x,qb6 iter X.env x=pure x:=by intro _;rfl):IS K X (.Assign [.Name x0 py] (.ListComp elt [⟨tg,iter,ifs,0⟩] A pos) spos) (az (.nm i0) (ar (iLc k js fi g tt te)))/\
   IS K X (.Assign [.Name x0 py] (.ListComp elt [⟨tg,iter,ifs,0⟩] A pos) spos) (az (.nm i0) (dh (iLc k js fi g tt te))):=by
 have key:∀ env st r0 r,iLc k js fi g tt te env st=some r->(∀ G φ H (D:oS),Er K H φ env G->Sr K H φ st->yi K φ H D r0->∀ a vs H1 W,Fw φ W H H1->Sr K H1 W r.2->H1 a=none->Rls K H1 W r.1 vs->D.nx (G.set i0 (some (.ref a))) (upd H1 a (.lst vs)))->
   PS X (.Assign [.Name x0 py] (.ListComp elt [⟨tg,iter,ifs,0⟩] A pos) spos) (tS K env st r0):=by
  intro env st r0 r B h;simp only[iLc,qac]at B;obtain⟨⟨ds,s1⟩,hy,B⟩:=B;have L:(if ds.length<=1000000 then lcI g tt te (gq k js env) ds s1 else none)=some r:=B;by_cases hdn:¬ ds.length<=1000000
  ·rw[if_neg hdn]at L;cases L
  have hdl:ds.length<=1000000:=by lia
  rw[if_pos hdl]at L;refine (Ce hN0 hi0 hx0 S hc (hi.run _ _ _ hy) hg (λu s H C fp=>(ht u s H C fp).run) (λu s H C fp=>(he u s H C fp).any) hsw hf0 hs).imp ?_
  rintro D G H ⟨φ,P,N,q⟩
  exact uP hgi hdl L G H _ ⟨φ,P,N,h G φ H D P N q⟩
 constructor
 ·refine⟨λenv st r B=>?_⟩
  simp only[az,ar,cB,qac,qad]at B;obtain⟨y,⟨r2,hy,rfl⟩,e',ee,rfl⟩:=B;cases ee;refine key _ _ _ _ hy λG φ H D P N q a vs H1 E f1 s1 n1 w1=>?_;exact q _ _ E (f1.trans (Fw.new n1)) ((((P.fw N f1).fw s1 (Fw.new n1))).set i0 (w:=.d (.lst r2.1)) ⟨a,vs,rfl,s1.nin n1,.inl upd_same,w1.fw s1 (Fw.new n1)⟩) (s1.new n1)
 ·refine⟨λenv st r B=>?_⟩
  simp only[az,dh,cB,qac,qad]at B;obtain⟨y,⟨r2,hy,rfl⟩,e',ee,rfl⟩:=B;cases ee;refine key _ _ _ _ hy λG φ H D P N q a vs H1 E f1 s1 n1 w1=>?_;exact q _ _ (E++[a]) (f1.trans (Fw.more n1)) (((P.fw N f1).fw s1 (Fw.more n1)).set i0 (w:=.h r2.2.length) ⟨a,by rw[<-s1.len];simp,rfl⟩) (s1.more n1 w1)
end
def bi (n k:Nat) (b:Sf):Fn
 |ws,st=>if ws.length=k then (b (ws.map some++qaz (n - k) none) st).bind λr=>match r with
 |.nx _ s=>some (.d .non,s)
 |.rt w s=>some (w,s)
 |_=>none
 else none
def w6 (n:Nat) (w:W) (s:Sto):Option (W×Sto):=match w with
 |.d x=>some (.d x,s.take n)
 |.h m=>if m<n then some (.h m,s.take n) else (lg s m).map λds=>(.d (.lst ds),s.take n)
def gy (n k:Nat) (b:Sf):Fn
 |ws,st=>if ws.length=k then (b (ws.map some++qaz (n - k) none) st).bind λr=>match r with
 |.nx _ s=>some (.d .non,s.take st.length)
 |.rt w s=>w6 st.length w s
 |_=>none
 else none
section
variable {P:qaQ}{w:World}{K:qae}{mg:Str->Option Value}{base:Heap}
def nu {H:Hp}{φ:List Addr}{N:List Str}{k:Nat}:∀ {ws:List W}{vs:List V},Rws K H φ ws vs->ws.length=k->Er K H φ (ws.map some++qaz (N.length - k) none) (ft N vs):=by
 intro ws vs r hk;have n:=r.length;refine⟨by unfold ft;simp;lia,λi x e=>?_⟩;unfold ft;by_cases u:i<ws.length
 ·rw[qaK (by simpa using u),qaD,qad]at e
  obtain⟨y,C,e⟩:=e
  have:∃ v,vs[i]?=some v/\Rw K H φ y v:=by
   clear hk n u e
   induction ws generalizing vs i with
   |nil=>simp at C
   |cons w ws ih=>
    obtain⟨v,r',rfl,T,r2⟩:=r;cases i with
    |zero=>simp at C;subst C;exact⟨v,rfl,T⟩
    |succ i=>simpa using ih r2 i (by simpa using C)
  obtain⟨v,X,rv⟩:=this;cases e;refine⟨v,?_,rv⟩;rw[qaK (by rw[qah,<-n];exact u),qaD,X];rfl
 ·rw[qaP (by simpa using u)]at e
  have:=qbT e
  have:=(List.mem_replicate.mp this).2
  cases this
def GK {x g:Str}{st:Stmt}{f:Addr}{fd:qau}{N ps:List Str}{k:Nat}{b:Sf} (F:Fun K x g st f fd) (S:aw N ps (ag st))
  (hb:∀ (j:Value) (A:qa2) (outer:List Env) (s:qak) (H:Hp) (E:XK),bC k (A.deeper (qen g (ag st) s.heap.objs.size f j))->ISs K (ir CX0 P w K mg base N g (ag st) f j A outer s H E).nox (cz st) b) :
  ek P w K mg base CX0 (k+1) f fd ps (spI K (bi N.length ps.length b)):=by
 refine F.ok S (λvs H Q E h=>?_) λj A outer s H vs Q E R h=>?_
 ·obtain⟨φ,st,ws,r,e,rw,_⟩:=h
  rw[bi]at e;by_cases n:ws.length=ps.length
  ·rw[<-rw.length,n]
  ·rw[if_neg n]at e;cases e
 ·obtain⟨φ,o,ws,r,e,rw,S',q⟩:=h
  rw[bi]at e;by_cases n:ws.length=ps.length
  ·rw[if_pos n]at e
   obtain⟨fl,I,p⟩:=qac.mp e;refine⟨_,(hb j A outer s H E R).run _ _ _ I,φ,nu rw n,S',?_⟩;cases fl with
   |nx e s=>cases p;exact λL H' c l e' s'=>q .non H' c l s' rfl
   |rt w s=>cases p;exact λv H' c l s' D=>q v H' c l s' D
   |bk e s=>cases p
   |ct e s=>cases p
  ·rw[if_neg n]at e;cases e
def Fw.less {φ c:List Addr}{H H':Hp} (f:Fw φ c H H'):Fw φ φ H H':=⟨⟨[],by simp,by simp⟩,f.keep,f.there⟩
def EW {x g:Str}{st:Stmt}{f:Addr}{fd:qau}{N ps:List Str}{k:Nat}{b:Sf} (F:Fun K x g st f fd) (S:aw N ps (ag st))
  (hb:∀ (j:Value) (A:qa2) (outer:List Env) (s:qak) (H:Hp) (E:XK),bC k (A.deeper (qen g (ag st) s.heap.objs.size f j))->ISs K (ir CX0 P w K mg base N g (ag st) f j A outer s H E).nox (cz st) b) :
  ek P w K mg base CX0 (k+1) f fd ps (spI K (gy N.length ps.length b)):=by
 refine F.ok S (λvs H Q E h=>?_) λj A outer s H vs Q E R h=>?_
 ·obtain⟨φ,st,ws,r,e,rw,_⟩:=h
  rw[gy]at e;by_cases n:ws.length=ps.length
  ·rw[<-rw.length,n]
  ·rw[if_neg n]at e;cases e
 ·obtain⟨φ,o,ws,r,e,rw,S',q⟩:=h
  rw[gy]at e;by_cases n:ws.length=ps.length
  ·rw[if_pos n]at e
   obtain⟨fl,I,p⟩:=qac.mp e;refine⟨_,(hb j A outer s H E R).run _ _ _ I,φ,nu rw n,S',?_⟩;have less:∀ {H':Hp}{c:List Addr}{s':Sto},Fw φ c H H'->Sr K H' c s'->Sr K H' φ (s'.take o.length):=λ{H' c s'} l S2=>by
    obtain⟨ψ,rfl,_⟩:=l.ext;rw[<-S'.len];exact S2.less
   cases fl with
   |nx e s=>cases p;exact λL H' c l e' s'=>q .non H' φ l.less (less l s') rfl
   |rt w s=>
    intro v H' c l s' D;have B:w6 o.length w s=some r:=p;obtain⟨ψ,t,_⟩:=l.ext;cases w with
    |d x=>
     cases B;subst t;exact q v H' φ l.less (less l s') (Rl.less D)
    |h m=>
     obtain⟨a,G,rfl⟩:=D;unfold w6 at B;by_cases hm:m<o.length
     ·have Y:some (W.h m,s.take o.length)=some r:=by
       have:=B
       simp only[hm,if_true]at this;exact this
      cases Y;subst t;rw[qaK (by rw[S'.len];exact hm)]at G;exact q _ H' φ l.less (less l s') ⟨a,G,rfl⟩
     ·simp only[hm,if_false]at B
      obtain⟨ds,J,rfl⟩:=qad.mp B;obtain⟨vs,hv,rl⟩:=s'.atl m a ds G J;have hn:a∉φ:=λz=>by
       obtain⟨i,u,ei⟩:=qcQ.mp z;have h1:c[i]?=some a:=by subst t;rw[qaK u,qao u,ei]
       obtain⟨h2,M⟩:=qas.mp h1;obtain⟨h3,O⟩:=qas.mp G
       have:=(qdC s'.nd).mp (M.trans O.symm)
       rw[S'.len]at u;lia
      subst t;exact q _ H' φ l.less (less l s') ⟨a,vs,rfl,hn,.inl hv,rl.less⟩
   |bk e s=>cases p
   |ct e s=>cases p
  ·rw[if_neg n]at e;cases e
end
def dc:D->Bool
 |.non=>true
 |.bl _=>true
 |.int _=>true
 |.str _=>true
 |_=>false
def vOf:D->V
 |.bl b=>.bl b
 |.int i=>.int i
 |.str x=>.str x
 |_=>.non
mutual
def eqD:D->D->Bool
 |.non,.non=>true
 |.bl a,.bl b=>a==b
 |.bl a,.int b=>(if a then 1 else 0)==b
 |.int a,.bl b=>a==(if b then 1 else 0)
 |.int a,.int b=>a==b
 |.str a,.str b=>a==b
 |.tup as,.tup bs=>dN as bs
 |.lst as,.lst bs=>dN as bs
 |_,_=>false
def dN:List D->List D->Bool
 |[],[]=>true
 |a::as,b::bs=>eqD a b&&dN as bs
 |_,_=>false
end
def okD:Nat->D->Bool
 |_,.non=>true
 |_,.bl _=>true
 |_,.int _=>true
 |_,.str _=>true
 |n+1,.tup ds=>ds.all (okD n)
 |n+1,.lst ds=>ds.all (okD n)
 |_,_=>false
def lsD (st:Sto):W->Option (List D)
 |.d (.lst ds)=>some ds
 |.h n=>lg st n
 |_=>none
def bh (st:Sto) (x y:W):Option D:=match x,y with
 |.d (.int i),.d (.int j)=>some (.int (i+j))
 |.d (.tup a),.d (.tup b)=>if a.length+b.length<=1000000 then some (.tup (a++b)) else none
 |.d (.str a),.d (.str b)=>if a.length+b.length<=1000000 then some (.str (a++b)) else none
 |x,y=>(lsD st x).bind λa=>(lsD st y).bind λb=>if a.length+b.length<=1000000 then some (.lst (a++b)) else none
def kf (_:Sto):W->W->Option D
 |.d (.int i),.d (.int j)=>some (.int (i - j))
 |_,_=>none
instance (a b:Int):Decidable (qhh a b):=by unfold qhh;infer_instance
def bb (_:Sto):W->W->Option D
 |.d (.int i),.d (.int j)=>if qhh i j then some (.int (i*j)) else none
 |.d (.tup a),.d (.int k)=>if a≠[]/\a.length<=1000/\0<=k/\k<1000 then some (.tup (qaz k.toNat a).flatten) else none
 |.d (.lst a),.d (.int k)=>if a.length<=1000/\-1000<=k/\k<1000 then some (.lst (qaz k.toNat a).flatten) else none
 |_,_=>none
def kT (_:Sto):W->W->Option D
 |.d (.int i),.d (.int j)=>if 0<j/\j<1073741824 then some (.int (i / j)) else none
 |_,_=>none
def dO (_:Sto):W->W->Option D
 |.d (.int i),.d (.int j)=>if 0<j then some (.int (i%j)) else none
 |_,_=>none
instance (i j:Int):Decidable (sB i j):=by unfold sB;infer_instance
def yB (_:Sto):W->W->Option D
 |.d (.int i),.d (.int j)=>if sB i j then some (.int (i^j.toNat)) else none
 |_,_=>none
def u4 (_:Sto):W->W->Option D
 |.d (.int i),.d (.int j)=>if sB i j then some (.int (i*2^j.toNat)) else none
 |_,_=>none
def wS (_:Sto):W->W->Option D
 |.d (.int i),.d (.int j)=>if 0<=j then some (.int (i / 2^j.toNat)) else none
 |_,_=>none
def dLt (_:Sto):W->W->Option D
 |.d (.int i),.d (.int j)=>some (.bl (decide (i<j)))
 |_,_=>none
def dLe (_:Sto):W->W->Option D
 |.d (.int i),.d (.int j)=>some (.bl (decide (i<=j)))
 |_,_=>none
def dGt (_:Sto):W->W->Option D
 |.d (.int i),.d (.int j)=>some (.bl (decide (j<i)))
 |_,_=>none
def dGe (_:Sto):W->W->Option D
 |.d (.int i),.d (.int j)=>some (.bl (decide (j<=i)))
 |_,_=>none
def dB:D->Bool
 |.non=>true
 |_=>false
def iL (_:Sto):W->W->Option D
 |.d x,.d .non=>some (.bl (dB x))
 |_,_=>none
def kc (_:Sto):W->W->Option D
 |.d x,.d .non=>some (.bl (!dB x))
 |_,_=>none
def inD (x:D) (ds:List D):Bool:=ds.any λy=>eqD y x
def dIn (st:Sto) (x y:W):Option D:=match x with
 |.d x=>(cx st y).bind λds=>if dc x=true/\ds.all dc=true then some (.bl (inD x ds)) else none
 |_=>none
section
variable {K:qae}{X:Cx}
def jf {H:Hp}{φ:List Addr}{d:D}{v:V} (h:dc d=true) (r:Rl K H φ d v):v=vOf d/\fI v=true:=by
 cases d with
 |non=>cases (show v=.non from r);exact⟨rfl,rfl⟩
 |bl b=>cases (show v=.bl b from r);exact⟨rfl,rfl⟩
 |int b=>cases (show v=.int b from r);exact⟨rfl,rfl⟩
 |str b=>cases (show v=.str b from r);exact⟨rfl,rfl⟩
 |_=>cases h
def qt {a b:D} (F:dc a=true) (hb:dc b=true):eqV (vOf a) (vOf b)=eqD a b:=by
 cases a<;>cases b<;>first|rfl|(cases F;done)|(cases hb;done)|(simp[eqV,vOf,eqD];done)
def sd {H:Hp}{φ:List Addr}:∀ {ds:List D}{vs:List V},ds.all dc=true->Rls K H φ ds vs->vs=ds.map vOf/\vs.all fI=true
 |[],_,_,h=>by cases h;exact⟨rfl,rfl⟩
 |d::ds,_,h,r=>by
  rw[qbz,qbb]at h;obtain⟨v,G,rfl,l,m⟩:=r;obtain⟨o,p⟩:=jf h.1 l;obtain⟨s,n⟩:=sd h.2 m;exact⟨by rw[o,s];rfl,by rw[qbz,p,n];rfl⟩
def vZ {x:D} (t:dc x=true):∀ {ds:List D},ds.all dc=true->inV (vOf x) (ds.map vOf)=inD x ds
 |[],_=>rfl
 |d::ds,h=>by
  rw[qbz,qbb]at h;have u:=vZ t h.2;unfold inV inD at u ⊢;rw[qaq,qbZ,qbZ,u,qt h.1 t]
def dI {f:Value->Value->Sem Value}{g:Sto->W->W->Option D} (h:∀ st x y d,g st x y=some d->∃ i j,x=.d (.int i)/\y=.d (.int j)/\OpR X f (λe c H Q=>e=.int i/\c=.int j/\Q (vOf d) H)/\dc d=true):OpD K X f g:=by
 refine⟨λst x y d hd=>?_⟩;obtain⟨i,j,rfl,rfl,w,C⟩:=h st x y d hd;refine w.imp ?_
 rintro e c H Q ⟨φ,S,l,m,q⟩
 refine⟨l,m,q _ H (aS.refl H) ?_⟩;cases d<;>first|rfl|cases C
def Db:OpD K X (qby .Sub) kf:=dI λst x y d h=>by
 match x,y,h with
 |.d (.int i),.d (.int j),h=>cases h;exact⟨i,j,rfl,rfl,CH.imp λe c H Q ⟨a,b,q⟩=>⟨i,j,a,b,q⟩,rfl⟩
def B8:OpD K X (qbE .Lt) dLt:=dI λst x y d h=>by
 match x,y,h with
 |.d (.int i),.d (.int j),h=>cases h;exact⟨i,j,rfl,rfl,FO.imp λe c H Q ⟨a,b,q⟩=>⟨i,j,a,b,q⟩,rfl⟩
def FN:OpD K X (qbE .LtE) dLe:=dI λst x y d h=>by
 match x,y,h with
 |.d (.int i),.d (.int j),h=>cases h;exact⟨i,j,rfl,rfl,FD.imp λe c H Q ⟨a,b,q⟩=>⟨i,j,a,b,q⟩,rfl⟩
def Ew:OpD K X (qbE .Gt) dGt:=dI λst x y d h=>by
 match x,y,h with
 |.d (.int i),.d (.int j),h=>cases h;exact⟨i,j,rfl,rfl,Fp.imp λe c H Q ⟨a,b,q⟩=>⟨i,j,a,b,q⟩,rfl⟩
def FL:OpD K X (qbE .GtE) dGe:=dI λst x y d h=>by
 match x,y,h with
 |.d (.int i),.d (.int j),h=>cases h;exact⟨i,j,rfl,rfl,Fd.imp λe c H Q ⟨a,b,q⟩=>⟨i,j,a,b,q⟩,rfl⟩
def BE:OpD K X (qby .FloorDiv) kT:=dI λst x y d h=>by
 match x,y,h with
 |.d (.int i),.d (.int j),h=>
  simp only[kT]at h;split at h
  ·rename_i k
   cases h;exact⟨i,j,rfl,rfl,Ao.imp λe c H Q ⟨a,b,q⟩=>⟨i,j,a,b,k,q⟩,rfl⟩
  ·cases h
def Ee:OpD K X (qby .Mod) dO:=dI λst x y d h=>by
 match x,y,h with
 |.d (.int i),.d (.int j),h=>
  simp only[dO]at h;split at h
  ·rename_i k
   cases h;exact⟨i,j,rfl,rfl,Cs.imp λe c H Q ⟨a,b,q⟩=>⟨i,j,a,b,k,q⟩,rfl⟩
  ·cases h
def CC:OpD K X (qby .Pow) yB:=dI λst x y d h=>by
 match x,y,h with
 |.d (.int i),.d (.int j),h=>
  simp only[yB]at h;split at h
  ·rename_i k
   cases h;exact⟨i,j,rfl,rfl,Df.imp λe c H Q ⟨a,b,q⟩=>⟨i,j,a,b,k,q⟩,rfl⟩
  ·cases h
def Ch:OpD K X (qby .LShift) u4:=dI λst x y d h=>by
 match x,y,h with
 |.d (.int i),.d (.int j),h=>
  simp only[u4]at h;split at h
  ·rename_i k
   cases h;exact⟨i,j,rfl,rfl,D4.imp λe c H Q ⟨a,b,q⟩=>⟨i,j,a,b,k,q⟩,rfl⟩
  ·cases h
def DC:OpD K X (qby .RShift) wS:=dI λst x y d h=>by
 match x,y,h with
 |.d (.int i),.d (.int j),h=>
  simp only[wS]at h;split at h
  ·rename_i k
   cases h;exact⟨i,j,rfl,rfl,CV.imp λe c H Q ⟨a,b,q⟩=>⟨i,j,a,b,k,q⟩,rfl⟩
  ·cases h
def yM {H:Hp}{φ:List Addr}{d:D}{v:V} (r:Rl K H φ d v):decide (v=.non)=dB d:=by
 cases d with
 |non=>cases (show v=.non from r);rfl
 |bl b=>cases (show v=.bl b from r);rfl
 |int b=>cases (show v=.int b from r);rfl
 |str b=>cases (show v=.str b from r);rfl
 |ty b=>cases (show v=.ty b from r);rfl
 |dct=>obtain⟨a,rfl,_⟩:=r;rfl
 |scr ns=>obtain⟨a,rfl,_⟩:=r;rfl
 |tup ds=>obtain⟨a,vs,rfl,_⟩:=r;rfl
 |lst ds=>obtain⟨a,vs,rfl,_⟩:=r;rfl
 |ob ns ds=>obtain⟨a,_,_,_,vs,rfl,_⟩:=r;rfl
def zo:OpD K X (qbE .Is) iL:=by
 refine⟨λst x y d h=>?_⟩
 match x,y,h with
 |.d x,.d .non,h=>
  cases h;refine DB.imp ?_
  rintro e c H Q ⟨φ,S,l,m,q⟩
  refine⟨m,q _ H (aS.refl H) ?_⟩;rw[yM l];rfl
def vz:OpD K X (qbE .IsNot) kc:=by
 refine⟨λst x y d h=>?_⟩
 match x,y,h with
 |.d x,.d .non,h=>
  cases h;refine Bg.imp ?_
  rintro e c H Q ⟨φ,S,l,m,q⟩
  refine⟨m,q _ H (aS.refl H) ?_⟩;rw[yM l];rfl
def EU (E:X.K=K:=by rfl):OpD K X (qbE .In) dIn:=by
 subst E;refine⟨λst x y d h=>?_⟩
 match x,h with
 |.d x,h=>
  simp only[dIn,qac]at h;obtain⟨ds,z,h⟩:=h;split at h
  ·rename_i k
   cases h;refine xN.imp ?_
   rintro e c H Q ⟨φ,S,l,m,q⟩
   obtain⟨a,vs,rfl,A,B⟩:=jh S m z;obtain⟨o,p⟩:=jf k.1 l;obtain⟨s,n⟩:=sd k.2 B;refine⟨a,vs,rfl,A,p,n,q _ H (aS.refl H) ?_⟩;rw[o,s,vZ k.1 k.2];rfl
  ·cases h
end
end L2
namespace L2
open PySem PySem.Spec PyProof.Rows
section
variable {K:qae}{X:Cx}
def Ag:OpR X (qby .Add) (λx y H Q=>∃ l b xs zs,x=.ref l/\y=.ref b/\Rd H l (.lst xs)/\Rd H b (.lst zs)/\xs.length+zs.length<=qaO/\∀ p,H p=none->Q (.ref p) (upd H p (.lst (xs++zs)))):=by
 intro C s J H x y v u Q I rx ry h;obtain⟨l,b,xs,zs,rfl,rfl,hH,hB,hz,q⟩:=h;cases rx;cases ry;obtain⟨z,its,n,r,e⟩:=hH.ok I.hok;obtain⟨z2,M,n2,G,e2⟩:=hB.ok I.hok;have E:=r.length;have hl2:=G.length;refine PySem.P.add_list e e2 ?_ (by rw[qaG,qaG];lia);have ea:its.toArray++M.toArray=(its++M).toArray:=by simp
 rw[ea];exact⟨.ref _,_,I.lnew (t':=s.toks) (r.append G) (by rw[qaB];lia),rfl,q _ I.fresh⟩
def yu:OpR X (qby .Add) (λx y H Q=>∃ a b xs ys,x=.ref a/\y=.ref b/\SqT X.K H a xs/\SqT X.K H b ys/\xs.length+ys.length<=qaO/\
  (xs=[]->Q (.ref b) H)/\(ys=[]->Q (.ref a) H)/\∀ p,H p=none->Q (.ref p) (upd H p (.tup (xs++ys)))):=by
 intro C s J H x y v u Q I rx ry h;obtain⟨a,b,xs,ys,rfl,rfl,ha,hb,hz,q0,q1,q2⟩:=h;by_cases Y:xs=[]
 ·cases rx
  cases ry;obtain⟨its,N,p1,_⟩:=I.tuple ha;obtain⟨M,G,p2,_⟩:=I.tuple hb;obtain⟨⟨cls,dd,data,sl⟩,ho,hc,n,hd⟩:=id p1;obtain⟨⟨cls2,dd2,data2,sl2⟩,ho2,hc2,n2,hd2⟩:=id p2
  simp only at hc hd hc2 hd2
  subst hc hd hc2 hd2;exact qhy ⟨_,ho,rfl⟩ ⟨_,ho2,rfl⟩ qf6 qg7 qd3 qdW (qdQ _ _)
   (tuple_addW0 a b its.toArray M.toArray n n2 dd dd2 sl sl2 (by simp[N.nil_iff.mpr Y])) ⟨ho,ho2,.ref b,H,I,rfl,q0 Y⟩
 ·exact Aq C s J H _ _ v u Q I rx ry ⟨a,b,xs,ys,rfl,rfl,ha,hb,Y,hz,q1,λ_ p B=>q2 p B⟩
def ug {st:Sto}{H:Hp}{φ:List Addr}{w:W}{v:V}{ds:List D} (S:Sr K H φ st) (r:Rw K H φ w v) (e:lsD st w=some ds):∃ a vs,v=.ref a/\Rd H a (.lst vs)/\Rls K H φ ds vs:=by
 cases w with
 |h n=>
  obtain⟨a,ea,rfl⟩:=r;obtain⟨vs,q,rl⟩:=S.atl n a ds ea e;exact⟨a,vs,rfl,.inl q,rl⟩
 |d x=>
  cases x with
  |lst es=>cases e;obtain⟨a,vs,rfl,h0,A,g⟩:=r;exact⟨a,vs,rfl,A,g⟩
  |_=>cases e
def mil:(1000000:Nat)<=qaO:=by rw[qcb];decide
def qN (hK:X.K=K:=by rfl):OpD K X (qby .Add) bh:=by
 subst hK;refine⟨λst x y d h=>?_⟩;have R:(lsD st x).bind (λa=>(lsD st y).bind λb=>if a.length+b.length<=1000000 then some (.lst (a++b)) else none)=some d->OpR X (qby .Add) (rD X.K st x y d):=λh=>by
  simp only[qac]at h;obtain⟨as,ha,bs,hb,h⟩:=h;split at h
  ·rename_i E
   cases h;refine Ag.imp ?_
   rintro vx vy H Q ⟨φ,S,N,G,q⟩
   obtain⟨a,us,rfl,A,g⟩:=ug S N ha;obtain⟨b,vs,rfl,h3,h4⟩:=ug S G hb;refine⟨a,b,us,vs,rfl,rfl,A,h3,by rw[<-g.length,<-h4.length];exact qa3 E mil,λp B=>q _ _ (aS.new B _) ?_⟩;exact⟨p,_,rfl,S.nin B,.inl upd_same,(g.append h4).fw S (Fw.new B)⟩
  ·cases h
 match x,y,h with
 |.d (.int i),.d (.int j),h=>
  cases h;refine Ct.imp ?_
  rintro vx vy H Q ⟨φ,S,N,G,q⟩
  exact⟨i,j,N,G,q _ H (aS.refl H) rfl⟩
 |.d (.tup as),.d (.tup bs),h=>
  simp only[bh]at h;split at h
  ·rename_i E
   cases h;refine yu.imp ?_
   rintro vx vy H Q ⟨φ,S,⟨a,us,rfl,A,g⟩,⟨b,vs,rfl,h3,h4⟩,q⟩
   refine⟨a,b,us,vs,rfl,rfl,(SqT.of A),(SqT.of h3),by rw[<-g.length,<-h4.length];exact qa3 E mil,λe=>?_,λe=>?_,λp B=>?_⟩
   ·subst e
    have:as=[]:=by cases as with|nil=>rfl|cons _ _=>cases g.length
    subst this;exact q _ H (aS.refl H) ⟨b,vs,rfl,h3,h4⟩
   ·subst e
    have:bs=[]:=by cases bs with|nil=>rfl|cons _ _=>cases h4.length
    subst this;exact q _ H (aS.refl H) ⟨a,us,rfl,A,by rw[qb3];exact g⟩
   ·exact q _ _ (aS.new B _) ⟨p,_,rfl,upd_same,(g.append h4).fw S (Fw.new B)⟩
  ·cases h
 |.d (.str as),.d (.str bs),h=>
  simp only[bh]at h;split at h
  ·rename_i E
   cases h;refine uQ.imp ?_
   rintro vx vy H Q ⟨φ,S,N,G,q⟩
   exact⟨as,bs,N,G,qa3 E mil,q _ H (aS.refl H) rfl⟩
  ·cases h
 |.d (.lst as),y,h=>exact R (by cases y with|h n=>exact h|d y=>cases y<;>exact h)
 |.h n,y,h=>exact R (by cases y with|h n=>exact h|d y=>cases y<;>exact h)
def vD:OpR X (qby .Mult) (λx y H Q=>∃ l k xs,x=.ref l/\y=.int k/\Rd H l (.lst xs)/\-(2 ^ 63)<=k/\k < 2 ^ 63/\xs.length*k.toNat<=qaO/\
 ∀ p,H p=none->Q (.ref p) (upd H p (.lst (qaz k.toNat xs).flatten))):=by
 intro C s J H x y v u Q I rx ry h;obtain⟨l,k,xs,rfl,rfl,hH,A,g,hz,q⟩:=h;cases rx;obtain⟨t,rfl⟩:=ry;obtain⟨z,its,n,r,e⟩:=hH.ok I.hok;have E:=r.length;have hlen:its.toArray.size*k.toNat<=qaO:=by rw[qaG,<-E];exact hz
 have hcap:¬ its.toArray.size*k.toNat > (2^63 - 1) / 8:=by
  have:(qaO:Nat)<=(2^63 - 1) / 8:=by decide
  lia
 have hfit:¬ (!Builtin.List.listFitsIndex k)=true:=by
  rw[fitsIndex_both A g];exact qaC
 have hlong:¬ qdF (its.toArray.size*k.toNat)=true:=by
  rw[xX hlen];exact qaC
 have hnew:qga (λx1 x2=>x1++x2) #[] (qaz (if its.toArray.isEmpty=true then 0 else k.toNat) its.toArray)=(qaz k.toNat its).flatten.toArray:=by
  have f0:∀ m:Nat,qga (λx1 x2=>x1++x2) #[] (qaz m its.toArray)=(qaz m its).flatten.toArray:=λm=>by
   have:=ly its m []
   rw[qbd]at this;exact this
  rw[f0];cases its with
  |nil=>simp
  |cons a r'=>rw[if_neg (by simp)]
 refine qgE (T:="list") (U:="int") (by decide) ⟨_,e,rfl⟩ (λs'=>qfQ s' k t) noFill_list_mul qiC qeJ repeat_list qij.lookup
  (qcY qeJ (qfQ s k t) qil (qh5 _ _) (int___rmul___int_list k t l its.toArray n)
    ⟨e,rfl,⟨_,e,rfl⟩,qcY F.slot_list_mul ⟨_,e,rfl⟩ F.entry_list_mul (F.args_list_mul_2 _ _) (AutoListH.list___mul___list_int_3 l its.toArray n k t hfit hcap hlong) ⟨e,?_⟩⟩)
 rw[hnew];exact⟨.ref _,_,I.lnew (t':=s.toks) (r.rep k.toNat) (by rw[pY,qgL];exact hz),rfl,q _ I.fresh⟩
def Cp (hK:X.K=K:=by rfl):OpD K X (qby .Mult) bb:=by
 subst hK;refine⟨λst x y d h=>?_⟩
 match x,y,h with
 |.d (.int i),.d (.int j),h=>
  simp only[bb]at h;split at h
  ·rename_i E
   cases h;refine A8.imp ?_
   rintro vx vy H Q ⟨φ,S,N,G,q⟩
   exact⟨i,j,N,G,E,q _ H (aS.refl H) rfl⟩
  ·cases h
 |.d (.tup as),.d (.int k),h=>
  simp only[bb]at h;split at h
  ·rename_i E
   cases h;refine As.imp ?_
   rintro vx vy H Q ⟨φ,S,⟨a,us,rfl,A,g⟩,G,q⟩
   have hne:us≠[]:=by rintro rfl;cases as with|nil=>exact E.1 rfl|cons _ _=>cases g.length
   refine⟨a,k,us,rfl,G,(SqT.of A),hne,by rw[<-g.length];exact E.2.1,E.2.2.1,E.2.2.2,λe=>?_,λ_ p B=>?_⟩
   ·subst e
    exact q _ H (aS.refl H) ⟨a,us,rfl,A,by simpa using g⟩
   ·exact q _ _ (aS.new B _) ⟨p,_,rfl,upd_same,(g.rep _).fw S (Fw.new B)⟩
  ·cases h
 |.d (.lst as),.d (.int k),h=>
  simp only[bb]at h;split at h
  ·rename_i E
   cases h;refine vD.imp ?_
   rintro vx vy H Q ⟨φ,S,⟨a,us,rfl,h0,A,g⟩,G,q⟩
   refine⟨a,k,us,rfl,G,A,by lia,by lia,?_,λp B=>?_⟩
   ·rw[<-g.length]
    have:as.length*k.toNat<=1000*1000:=qcZ E.1 (by lia)
    exact qa3 this mil
   ·exact q _ _ (aS.new B _) ⟨p,_,rfl,S.nin B,.inl upd_same,(g.rep _).fw S (Fw.new B)⟩
  ·cases h
def dIx (st:Sto) (x y:W):Option D:=match x,y with
 |.d (.str z),.d (.int i)=>if z.length<=1000000 then (atI z.cps.toList i).map λc=>.str ⟨#[c]⟩ else none
 |x,.d (.int i)=>(cx st x).bind λds=>atI ds i
 |_,_=>none
def El {H:Hp}{φ:List Addr}{ds:List D}{vs:List V}{i:Int}{d:D} (r:Rls K H φ ds vs) (e:atI ds i=some d):∃ v,atI vs i=some v/\Rl K H φ d v:=by
 unfold atI at e ⊢;rw[<-r.length];obtain⟨j,e1,e2⟩:=qac.mp e;obtain⟨v,ev,rv⟩:=r.get e2;exact⟨v,by rw[e1];exact ev,rv⟩
def IxR.imp {r r':R2} (h:IxR X r) (m:∀ x y H Q,r' x y H Q->r x y H Q):IxR X r':=λvalue slice C s J H x y v u Q I rx ry q hs=>h value slice C s J H x y v u Q I rx ry (m _ _ _ _ q) hs
def Fx (st:Sto) (x y:W) (d:D) (h:dIx st x y=some d) (hK:X.K=K):IxR X (rD K st x y d):=by
 subst hK
 match y,h with
 |.d (.int i),h=>
  have seq:(cx st x).bind (λds=>atI ds i)=some d->IxR X (rD X.K st x (.d (.int i)) d):=λh=>by
   obtain⟨ds,e1,e2⟩:=qac.mp h;refine uM.imp ?_
   rintro vx vy H Q ⟨φ,S,N,G,q⟩
   obtain⟨a,vs,rfl,A,g⟩:=jh S N e1;obtain⟨v,ev,rv⟩:=El g e2;rcases A with A|A
   ·exact .inl ⟨a,vs,i,v,rfl,G,A,ev,q _ H (aS.refl H) rv⟩
   ·exact .inr (.inl ⟨a,vs,i,v,rfl,G,A,ev,q _ H (aS.refl H) rv⟩)
  match x,h with
  |.d (.str z),h=>
   simp only[dIx]at h;split at h
   ·rename_i E
    obtain⟨c,e1,rfl⟩:=qad.mp h;refine uM.imp ?_
    rintro vx vy H Q ⟨φ,S,N,G,q⟩
    exact .inr (.inr ⟨z,i,c,N,G,qa3 E mil,e1,q _ H (aS.refl H) rfl⟩)
   ·cases h
  |.d (.tup z),h=>exact seq h
  |.d (.lst z),h=>exact seq h
  |.d (.scr z),h=>exact seq h
  |.h z,h=>exact seq h
 |.d .non,h=>cases x with|h n=>cases h|d x=>cases x<;>cases h
 |.d (.ob _ _),h=>cases x with|h n=>cases h|d x=>cases x<;>cases h
 |.d (.bl _),h=>cases x with|h n=>cases h|d x=>cases x<;>cases h
 |.d (.str _),h=>cases x with|h n=>cases h|d x=>cases x<;>cases h
 |.d (.ty _),h=>cases x with|h n=>cases h|d x=>cases x<;>cases h
 |.d (.scr _),h=>cases x with|h n=>cases h|d x=>cases x<;>cases h
 |.d .dct,h=>cases x with|h n=>cases h|d x=>cases x<;>cases h
 |.d (.tup _),h=>cases x with|h n=>cases h|d x=>cases x<;>cases h
 |.d (.lst _),h=>cases x with|h n=>cases h|d x=>cases x<;>cases h
 |.h _,h=>cases x with|h n=>cases h|d x=>cases x<;>cases h
variable {e a b:Expr}{pos p2:Pos}{f fa fb:Ef}
def ke (ha:IE K X a fa) (hb:IE K X b fb) (hs:qh b=true:=by rfl) (hK:X.K=K:=by rfl):IE K X (.Subscript a b pos) (iOp dIx fa fb):=by
 refine⟨λenv st r hr=>?_⟩;simp only[iOp,qac,qad]at hr;obtain⟨x,Y,y,hy,d,hd,rfl⟩:=hr;exact (BT (Fx _ _ _ _ hd hK) (ha.run _ _ _ Y) (hb.run _ _ _ hy) (su hs)).imp λJ H Q h=>qp h
abbrev Pf:=Ev->Sto->Option (Option Int×Sto)
def iPn:Pf
 |_,st=>some (none,st)
def Fc:W->Option Int
 |.d (.int i)=>some i
 |_=>none
def xH {w:W}{i:Int} (h:Fc w=some i):w=.d (.int i):=by
 cases w with
 |h n=>cases h
 |d x=>cases x<;>first|(cases h;done)|(injection h with h;subst h;rfl)
def iPs (f:Ef):Pf
 |env,st=>(f env st).bind λr=>(Fc r.1).map λi=>(some i,r.2)
def tIO (K:qae) (env:Ev) (st:Sto) (r:Option Int×Sto):TO:=λJ H Q=>∃ φ,Er K H φ env J/\Sr K H φ st/\∀ H' φ',Fw φ φ' H H'->Sr K H' φ' r.2->Q r.1 H'
structure IO (K:qae) (X:Cx) (e:Option Expr) (f:Pf):Prop where
 run:∀ env st r,f env st=some r->PO X e (tIO K env st r)
def PO.imp {e:Option Expr}{t t':TO} (h:PO X e t) (m:∀ J H Q,t' J H Q->t J H Q):PO X e t':=λC s J H Q I q=>h C s J H Q I (m J H Q q)
def Ax:IO K X none iPn:=by
 refine⟨λenv st r hr=>?_⟩;cases hr;exact Bu.imp λJ H Q ⟨φ,hE,O,q⟩=>q H φ (Fw.refl φ H) O
def BH (h:IE K X e f):IO K X (some e) (iPs f):=by
 refine⟨λenv st r hr=>?_⟩;simp only[iPs,qac,qad]at hr;obtain⟨⟨x,s1⟩,Y,i,L,rfl⟩:=hr;cases xH L;refine (Bj (h.run _ _ _ Y)).imp ?_
 rintro J H Q ⟨φ,hE,O,q⟩
 exact⟨φ,hE,O,λv H1 P f1 s1 w1=>⟨i,w1,q H1 P f1 s1⟩⟩
def kZ (xs:List D) (lo L:Option Int):List D:=(xs.drop (HT.sIx xs.length 0 lo)).take (HT.sIx xs.length xs.length L - HT.sIx xs.length 0 lo)
def wl {H:Hp}{φ:List Addr}{ds:List D}{vs:List V} (r:Rls K H φ ds vs) (lo L:Option Int):Rls K H φ (kZ ds lo L) (qD vs lo L):=by
 unfold kZ qD;rw[r.length];exact (r.drop _).take _
def dSl (st:Sto) (x:W) (lo L:Option Int):Option D:=match x with
 |.d (.tup ds)=>some (.tup (kZ ds lo L))
 |.d (.lst ds)=>some (.lst (kZ ds lo L))
 |.h n=>(lg st n).map λds=>.lst (kZ ds lo L)
 |.d (.scr ns)=>some (.lst (kZ (ns.map D.int) lo L))
 |_=>none
def iSl (f:Ef) (lo L:Pf):Ef
 |env,st=>(f env st).bind λx=>(lo env x.2).bind λl=>(L env l.2).bind λu=>(dSl u.2 x.1 l.1 u.1).map λd=>(.d d,u.2)
def Gb {lo L:Option Expr}{fl fh:Pf} (h:IE K X e f) (E:IO K X lo fl) (hh:IO K X L fh) (hK:X.K=K:=by rfl):IE K X (.Subscript e (.Slice lo L none p2) pos) (iSl f fl fh):=by
 subst hK;refine⟨λenv st r hr=>?_⟩;simp only[iSl,qac,qad]at hr;obtain⟨⟨x,s1⟩,Y,l,hl',u,hu',d,hd,rfl⟩:=hr;have list:(∀ {H:Hp}{φ:List Addr}{v:V},Sr X.K H φ u.2->Rw X.K H φ x v->∃ a vs ds,v=.ref a/\SqL X.K H a vs/\Rls X.K H φ ds vs/\d=.lst (kZ ds l.1 u.1))->PE X (.Subscript e (.Slice lo L none p2) pos) (tI X.K env st (.d d,u.2)):=λhq=>by
  refine (sS An (h.run _ _ _ Y) (E.run _ _ _ hl') (hh.run _ _ _ hu')).imp ?_
  rintro J H Q ⟨φ,hE,O,q⟩
  refine⟨φ,hE,O,λv H1 P f1 s1 w1=>⟨P,hE.fw O f1,s1,λH2 φ2 f2 s2=>⟨φ2,(hE.fw O f1).fw s1 f2,s2,λH3 φ3 f3 s3=>?_⟩⟩⟩;obtain⟨a,vs,ds,rfl,A,g,rfl⟩:=hq s3 ((w1.fw s1 f2).fw s2 f3);refine⟨a,vs,rfl,A,λp B=>q _ _ φ3 (((f1.trans f2).trans f3).trans (Fw.new B)) (s3.new B) ?_⟩;exact⟨p,_,rfl,s3.nin B,.inl upd_same,(wl g _ _).fw s3 (Fw.new B)⟩
 match x,hd with
 |.d (.tup ds),hd=>
  cases hd;refine (sS (Da (K:=X.K) rfl) (h.run _ _ _ Y) (E.run _ _ _ hl') (hh.run _ _ _ hu')).imp ?_
  rintro J H Q ⟨φ,hE,O,q⟩
  refine⟨φ,hE,O,λv H1 P f1 s1 w1=>⟨P,hE.fw O f1,s1,λH2 φ2 f2 s2=>⟨φ2,(hE.fw O f1).fw s1 f2,s2,λH3 φ3 f3 s3=>?_⟩⟩⟩;obtain⟨a,vs,rfl,A,g⟩:=(w1.fw s1 f2).fw s2 f3;refine⟨a,vs,rfl,(SqT.of A),?_⟩;by_cases hc:HT.sIx vs.length 0 l.1=0/\HT.sIx vs.length vs.length u.1=vs.length
  ·refine .inr ⟨hc,q _ _ φ3 ((f1.trans f2).trans f3) s3 ⟨a,vs,rfl,A,?_⟩⟩
   have e:kZ ds l.1 u.1=ds:=by
    unfold kZ;rw[g.length,hc.1,hc.2,qh0,qjB,<-g.length,qea]
   rw[e];exact g
  ·exact .inl ⟨hc,λp B=>q _ _ φ3 (((f1.trans f2).trans f3).trans (Fw.new B)) (s3.new B) ⟨p,_,rfl,upd_same,(wl g _ _).fw s3 (Fw.new B)⟩⟩
 |.d (.lst ds),hd=>
  cases hd;refine list λ{H φ v} S w=>?_;obtain⟨a,vs,rfl,h0,A,g⟩:=w;exact⟨a,vs,ds,rfl,.inl A,g,rfl⟩
 |.d (.scr ns),hd=>
  cases hd;refine list λ{H φ v} S w=>?_;obtain⟨a,rfl,h⟩:=w;refine⟨a,_,_,rfl,?_,Rls.of_ints ns,rfl⟩;rcases h with⟨o,h⟩|h
  ·exact .inl (.inr ⟨o,h⟩)
  ·exact .inr h
 |.h n,hd=>
  obtain⟨ds,e1,rfl⟩:=qad.mp hd;refine list λ{H φ v} S w=>?_;obtain⟨a,ea,rfl⟩:=w;obtain⟨vs,q,rl⟩:=S.atl n a ds ea e1;exact⟨a,vs,ds,rfl,SqL.of q,rl,rfl⟩
end
section
variable {K:qae}{X:Cx}{P:List (Addr×Obj)}{σ:St}{H:Hp}{s:qak}{φ:List Addr}{st:Sto}
def eU:∀ (xs L:List D),((qag (min xs.length L.length)).all (λj=>eqD (xs.getD j .non) (L.getD j .non))&&xs.length==L.length)=dN xs L
 |[],[]=>rfl
 |[],y::L=>by simp[dN]
 |x::xs,[]=>by simp[dN]
 |x::xs,y::L=>by
  show ((qag (min (xs.length+1) (L.length+1))).all (λj=>eqD ((x::xs).getD j .non) ((y::L).getD j .non))&&(xs.length+1==L.length+1))=(eqD x y&&dN xs L);rw[show min (xs.length+1) (L.length+1)=min xs.length L.length+1 by lia,og,<-eU xs L];have e:(xs.length+1==L.length+1)=(xs.length==L.length):=by rw[qb4];simp
  rw[e,Bool.and_assoc];rfl
def jJ {xs L:List D} (h:xs.length=L.length):(qag xs.length).all (λj=>eqD (xs.getD j .non) (L.getD j .non))=dN xs L:=by
 rw[<-eU xs L,<-h,Nat.min_self];simp
def rO:∀ {xs L:List D},xs.length≠L.length->dN xs L=false
 |[],[],h=>absurd rfl h
 |[],_::_,_=>rfl
 |_::_,[],_=>rfl
 |x::xs,y::L,h=>by
  show (eqD x y&&dN xs L)=false;rw[rO (by intro e;apply h;rw[qam,qam,e]),Bool.and_false]
def Ap (I:Inv X P σ H s) {a:Addr}{vs ws:List V} (h:Rd H a (.lst vs)) (h':Rd H a (.lst ws)):vs=ws:=I.list_inj (.inl h) (.inl h')
def v8 (I:Inv X P σ H s):∀ (n:Nat) {d e:D}{v:V},Rl X.K H φ d v->Rl X.K H φ e v->okD n d=true->okD n e=true->eqD d e=true:=by
 intro n
 induction n with
 |zero=>
  intro d e v m l M E;cases d<;>first|(cases M;done)|skip
  all_goals (cases e<;>first|(cases E;done)|skip)
  all_goals (first|rfl|(cases m.symm.trans l;done)|(cases m.symm.trans l;simp[eqD]))
 |succ n ih=>
  have lists:∀ {ds es:List D}{vs:List V},Rls X.K H φ ds vs->Rls X.K H φ es vs->(∀ d∈ds,okD n d=true)->(∀ d∈es,okD n d=true)->dN ds es=true:=by
   intro ds
   induction ds with
   |nil=>
    intro es vs m l _ _;cases m;cases es with
    |nil=>rfl
    |cons e es=>obtain⟨_,_,q,_⟩:=l;cases q
   |cons d ds ihd=>
    intro es vs m l M E;obtain⟨v,r,rfl,a1,a2⟩:=m;cases es with
    |nil=>cases l
    |cons e es=>
     obtain⟨v',r',q,b1,b2⟩:=l;cases q;show (eqD d e&&dN ds es)=true;rw[ih a1 b1 (M d qaf) (E e qaf),ihd a2 b2 (λx hx=>M x (qal _ hx)) (λx hx=>E x (qal _ hx))];rfl
  intro d e v m l M E;cases d with
  |tup ds=>
   obtain⟨a,vs,rfl,N,J⟩:=m;cases e with
   |tup es=>
    obtain⟨b,F,q,p,B⟩:=l;cases q;rw[I.tuple_inj (SqT.of p) (SqT.of N)]at B;exact lists J B (qba.mp M) (qba.mp E)
   |lst es=>
    obtain⟨b,F,q,_,p,B⟩:=l;cases q;obtain⟨_,_,p1,_⟩:=I.tuple (SqT.of N);obtain⟨_,_,f,_⟩:=I.list (.inl p);exact absurd rfl (qgf f.isList p1)
   |_=>first|(cases E;done)|(cases l;done)
  |lst ds=>
   obtain⟨a,vs,rfl,h0,N,J⟩:=m;cases e with
   |lst es=>
    obtain⟨b,F,q,_,p,B⟩:=l;cases q;rw[Ap I p N]at B;exact lists J B (qba.mp M) (qba.mp E)
   |tup es=>
    obtain⟨b,F,q,p,B⟩:=l;cases q;obtain⟨_,_,p1,_⟩:=I.tuple (SqT.of p);obtain⟨_,_,f,_⟩:=I.list (.inl N);exact absurd rfl (qgf f.isList p1)
   |_=>first|(cases E;done)|(cases l;done)
  |non=>cases e<;>first|rfl|(cases E;done)|(cases m.symm.trans l;done)|(cases m;obtain⟨_,_,q,_⟩:=l;cases q)
  |bl b=>cases e<;>first|(cases E;done)|(cases m.symm.trans l;simp[eqD];done)|(cases m.symm.trans l;done)|(cases m;obtain⟨_,_,q,_⟩:=l;cases q)
  |int b=>cases e<;>first|(cases E;done)|(cases m.symm.trans l;simp[eqD];done)|(cases m.symm.trans l;done)|(cases m;obtain⟨_,_,q,_⟩:=l;cases q)
  |str b=>cases e<;>first|(cases E;done)|(cases m.symm.trans l;simp[eqD];done)|(cases m.symm.trans l;done)|(cases m;obtain⟨_,_,q,_⟩:=l;cases q)
  |ty b=>cases M
  |scr b=>cases M
  |dct=>cases M
  |ob _ _=>cases M
def d9 {ds:List D}{vs:List V}{F:List Value} (r:Rls K H φ ds vs) (R:aI vs F):∀ (j:Nat) (h:j<F.length),∃ v,Rl K H φ (ds.getD j .non) v/\aQ v F[j]/\ds.getD j .non∈ds:=by
 intro j h;obtain⟨h',q⟩:=R.at j h;have hd:j<ds.length:=by rw[r.length];exact h'
 have e:ds[j]?=some ds[j]:=qao hd;obtain⟨v,ev,rl⟩:=r.get e;rw[qao h']at ev;cases ev;refine⟨_,?_,q,?_⟩
 ·rw[qfL,e];exact rl
 ·rw[qfL,e];exact qbU hd
def yt (I:Inv X P σ H s):∀ (n:Nat) {A:qa2}{d e:D}{v u:V}{vv uu:Value},Rl X.K H φ d v->Rl X.K H φ e u->aQ v vv->aQ u uu->okD n d=true->okD n e=true->A.units+n<cLine->qdh A s vv uu (eqD d e):=by
 have flat:∀ {A:qa2}{d e:D}{v u:V}{vv uu:Value},dc d=true->dc e=true->Rl X.K H φ d v->Rl X.K H φ e u->aQ v vv->aQ u uu->qdh A s vv uu (eqD d e):=by
  intro A d e v u vv uu f1 f2 m l q1 G;obtain⟨O,g1⟩:=jf f1 m;obtain⟨e2,g2⟩:=jf f2 l;rw[<-qt f1 f2,<-O,<-e2];exact vd q1 G g1 g2
 intro n
 induction n with
 |zero=>
  intro A d e v u vv uu m l q1 G M E hu;refine flat ?_ ?_ m l q1 G
  ·cases d<;>first|rfl|cases M
  ·cases e<;>first|rfl|cases E
 |succ n ih=>
  intro A d e v u vv uu m l q1 G M E hu;have c:A.units<cLine:=by lia
  have hu1:A.in1.units+n<cLine:=by show A.units+1+n<cLine;lia
  cases d with
  |tup ds=>
   obtain⟨a,vs,rfl,N,J⟩:=m;cases q1;obtain⟨its,R,p1,_⟩:=I.tuple (SqT.of N);cases e with
   |tup es=>
    obtain⟨b,F,rfl,p,B⟩:=id l;cases G;by_cases hab:a=b
    ·subst hab
     rw[v8 I (n+1) (d:=.tup ds) ⟨a,vs,rfl,N,J⟩ l M E];exact qe2 _
    ·obtain⟨g,o,f,_⟩:=I.tuple (SqT.of p)
     have z:=qeG (A:=A) (e:=λj=>eqD (ds.getD j .non) (es.getD j .non)) p1 f c λj g1 g2=>by
      obtain⟨v1,k1,k2,k3⟩:=d9 J R j (by simpa using g1);obtain⟨v2,k4,k5,k6⟩:=d9 B o j (by simpa using g2);exact ih k1 k4 (by simpa using k2) (by simpa using k5) (qba.mp M _ k3) (qba.mp E _ k6) hu1
     have O:its.toArray.size=ds.length:=by simp[<-R.length,J.length]
     have e2:g.toArray.size=es.length:=by simp[<-o.length,B.length]
     rw[O,e2,eU]at z;exact qep hab z
   |lst es=>
    obtain⟨b,F,rfl,_,p,B⟩:=id l;cases G;obtain⟨g,o,f,_⟩:=I.list (.inl p);exact qkH p1 f.isList c
   |non=>cases l;cases G;exact qkG p1 c
   |bl x=>cases l;cases G;exact qkJ x p1 c
   |int x=>cases l;obtain⟨t,rfl⟩:=G;exact qkI x t p1 c
   |str x=>cases l;obtain⟨t,rfl⟩:=G;exact qkF x t p1 c
   |ty _=>cases E
   |scr _=>cases E
   |dct=>cases E
   |ob _ _=>cases E
  |lst ds=>
   obtain⟨a,vs,rfl,h0,N,J⟩:=m;cases q1;obtain⟨its,R,p1,_⟩:=I.list (.inl N);cases e with
   |lst es=>
    obtain⟨b,F,rfl,_,p,B⟩:=id l;cases G;by_cases hab:a=b
    ·subst hab
     rw[v8 I (n+1) (d:=.lst ds) ⟨a,vs,rfl,h0,N,J⟩ l M E];exact qe2 _
    ·obtain⟨g,o,f,_⟩:=I.list (.inl p)
     have O:its.toArray.size=ds.length:=by simp[<-R.length,J.length]
     have e2:g.toArray.size=es.length:=by simp[<-o.length,B.length]
     by_cases hl:ds.length=es.length
     ·have z:=qgq (A:=A) (e:=λj=>eqD (ds.getD j .non) (es.getD j .non)) p1.isList f.isList (by rw[O,e2,hl]) c λj g1 g2=>by
       obtain⟨v1,k1,k2,k3⟩:=d9 J R j (by simpa using g1);obtain⟨v2,k4,k5,k6⟩:=d9 B o j (by simpa using g2);exact ih k1 k4 (by simpa using k2) (by simpa using k5) (qba.mp M _ k3) (qba.mp E _ k6) hu1
      rw[O,jJ hl]at z;exact qep hab z
     ·have z:=qfg (A:=A) p1.isList f.isList (by rw[O,e2];simpa using hl) c
      show qdh A s _ _ (dN ds es);rw[rO hl];exact qep hab z
   |tup es=>
    obtain⟨b,F,rfl,p,B⟩:=id l;cases G;obtain⟨g,o,f,_⟩:=I.tuple (SqT.of p);exact qkU p1.isList f c
   |non=>cases l;cases G;exact qkW p1.isList c
   |bl x=>cases l;cases G;exact qkY x p1.isList c
   |int x=>cases l;obtain⟨t,rfl⟩:=G;exact qkX x t p1.isList c
   |str x=>cases l;obtain⟨t,rfl⟩:=G;exact qkV x t p1.isList c
   |ty _=>cases E
   |scr _=>cases E
   |dct=>cases E
   |ob _ _=>cases E
  |non=>
   cases m;cases q1;cases e with
   |tup es=>obtain⟨b,F,rfl,p,B⟩:=l;cases G;obtain⟨_,_,f,_⟩:=I.tuple (SqT.of p);exact qkP f c
   |lst es=>obtain⟨b,F,rfl,_,p,B⟩:=l;cases G;obtain⟨_,_,f,_⟩:=I.list (.inl p);exact qkR f.isList c
   |_=>first|(cases E;done)|exact flat rfl rfl (d:=.non) rfl l (v:=.non) rfl G
  |bl x=>
   cases m;cases q1;cases e with
   |tup es=>obtain⟨b,F,rfl,p,B⟩:=l;cases G;obtain⟨_,_,f,_⟩:=I.tuple (SqT.of p);exact qk3 x f c
   |lst es=>obtain⟨b,F,rfl,_,p,B⟩:=l;cases G;obtain⟨_,_,f,_⟩:=I.list (.inl p);exact qk6 x f.isList c
   |_=>first|(cases E;done)|exact flat rfl rfl (d:=.bl x) rfl l (v:=.bl x) rfl G
  |int x=>
   cases m;obtain⟨t1,rfl⟩:=q1;cases e with
   |tup es=>obtain⟨b,F,rfl,p,B⟩:=l;cases G;obtain⟨_,_,f,_⟩:=I.tuple (SqT.of p);exact qkZ x t1 f c
   |lst es=>obtain⟨b,F,rfl,_,p,B⟩:=l;cases G;obtain⟨_,_,f,_⟩:=I.list (.inl p);exact qk1 x t1 f.isList c
   |_=>first|(cases E;done)|exact flat rfl rfl (d:=.int x) rfl l (v:=.int x) ⟨t1,rfl⟩ G
  |str x=>
   cases m;obtain⟨t1,rfl⟩:=q1;cases e with
   |tup es=>obtain⟨b,F,rfl,p,B⟩:=l;cases G;obtain⟨_,_,f,_⟩:=I.tuple (SqT.of p);exact qkK x t1 f c
   |lst es=>obtain⟨b,F,rfl,_,p,B⟩:=l;cases G;obtain⟨_,_,f,_⟩:=I.list (.inl p);exact qkN x t1 f.isList c
   |_=>first|(cases E;done)|exact flat rfl rfl (d:=.str x) rfl l (v:=.str x) ⟨t1,rfl⟩ G
  |ty _=>cases M
  |scr _=>cases M
  |dct=>cases M
  |ob _ _=>cases M
def Dr {A:qa2}{y x:V}{u v:Value} (ry:aQ y u) (C:aQ x v) (fy:fI y=true) (fx:fI x=true):qjo A s u v (eqV y x):=by
 cases y with
 |non=>
  cases ry;cases x with
  |non=>cases C;exact qkk
  |bl b=>cases C;exact qkn b
  |int b=>obtain⟨t,rfl⟩:=C;exact qkm b t
  |str b=>obtain⟨t,rfl⟩:=C;exact qkj b t
  |_=>cases fx
 |bl a=>
  cases ry;cases x with
  |non=>cases C;exact qkB a
  |bl b=>cases C;exact qkE a b
  |int b=>obtain⟨t,rfl⟩:=C;exact qkD a b t
  |str b=>obtain⟨t,rfl⟩:=C;exact qkA a b t
  |_=>cases fx
 |int a=>
  obtain⟨t',rfl⟩:=ry;cases x with
  |non=>cases C;exact qkv a t'
  |bl b=>cases C;exact qky a t' b
  |int b=>obtain⟨t,rfl⟩:=C;exact qkx a t' b t
  |str b=>obtain⟨t,rfl⟩:=C;exact qku a t' b t
  |_=>cases fx
 |str a=>
  obtain⟨t',rfl⟩:=ry;cases x with
  |non=>cases C;exact qke a t'
  |bl b=>cases C;exact qkh a t' b
  |int b=>obtain⟨t,rfl⟩:=C;exact qkg a t' b t
  |str b=>obtain⟨t,rfl⟩:=C;exact qkd a t' b t
  |_=>cases fx
 |_=>cases fy
def xY {A:qa2}{y x:V}{u v:Value} (ry:aQ y u) (C:aQ x v) (fy:fI y=true) (fx:fI x=true):qid A s u v (!eqV y x):=by
 cases y with
 |non=>
  cases ry;cases x with
  |non=>cases C;exact qi1
  |bl b=>cases C;exact qi4 b
  |int b=>obtain⟨t,rfl⟩:=C;exact qi3 b t
  |str b=>obtain⟨t,rfl⟩:=C;exact qi0 b t
  |_=>cases fx
 |bl a=>
  cases ry;cases x with
  |non=>cases C;exact qjk a
  |bl b=>cases C;exact qjn a b
  |int b=>obtain⟨t,rfl⟩:=C;exact qjm a b t
  |str b=>obtain⟨t,rfl⟩:=C;exact qjj a b t
  |_=>cases fx
 |int a=>
  obtain⟨t',rfl⟩:=ry;cases x with
  |non=>cases C;exact qje a t'
  |bl b=>cases C;exact qjh a t' b
  |int b=>obtain⟨t,rfl⟩:=C;exact qjg a t' b t
  |str b=>obtain⟨t,rfl⟩:=C;exact qjd a t' b t
  |_=>cases fx
 |str a=>
  obtain⟨t',rfl⟩:=ry;cases x with
  |non=>cases C;exact qiV a t'
  |bl b=>cases C;exact qiY a t' b
  |int b=>obtain⟨t,rfl⟩:=C;exact qiX a t' b t
  |str b=>obtain⟨t,rfl⟩:=C;exact qiU a t' b t
  |_=>cases fx
 |_=>cases fy
inductive Kin where
 |fl (d:D)|tp (ds:List D)|ls (ds:List D)
def ie (st:Sto):W->Option Kin
 |.d (.tup ds)=>some (.tp ds)
 |.d (.lst ds)=>some (.ls ds)
 |.h n=>(lg st n).map .ls
 |.d .non=>some (.fl .non)
 |.d (.bl b)=>some (.fl (.bl b))
 |.d (.int i)=>some (.fl (.int i))
 |.d (.str x)=>some (.fl (.str x))
 |_=>none
def eqK:Kin->Kin->Option Bool
 |.fl a,.fl b=>some (eqD a b)
 |.tp as,.tp bs=>if (as.isEmpty||bs.isEmpty)=true then some (as.isEmpty&&bs.isEmpty) else if as.all (okD 60)=true/\bs.all (okD 60)=true then some (dN as bs) else none
 |.ls as,.ls bs=>if as.length=bs.length then (if as.all (okD 60)=true/\bs.all (okD 60)=true then some (dN as bs) else none) else some false
 |.fl _,.tp _=>some false
 |.tp _,.fl _=>some false
 |.fl _,.ls _=>some false
 |.ls _,.fl _=>some false
 |.tp _,.ls _=>some false
 |.ls _,.tp _=>some false
def dEq (st:Sto) (x y:W):Option D:=(ie st x).bind λa=>(ie st y).bind λb=>(eqK a b).map λk=>.bl k
def dNe (st:Sto) (x y:W):Option D:=(ie st x).bind λa=>(ie st y).bind λb=>(eqK a b).map λk=>.bl (!k)
def Eh (K:qae) (H:Hp) (φ:List Addr):Kin->V->Prop
 |.fl d,v=>dc d=true/\Rl K H φ d v
 |.tp ds,v=>∃ a vs,v=.ref a/\SqT K H a vs/\Rls K H φ ds vs
 |.ls ds,v=>∃ a vs,v=.ref a/\Rd H a (.lst vs)/\Rls K H φ ds vs
def mM {w:W}{v:V}{k:Kin} (S:Sr K H φ st) (r:Rw K H φ w v) (e:ie st w=some k):Eh K H φ k v:=by
 cases w with
 |h n=>
  obtain⟨a,ea,rfl⟩:=r;obtain⟨ds,O,rfl⟩:=qad.mp e;obtain⟨vs,q,rl⟩:=S.atl n a ds ea O;exact⟨a,vs,rfl,.inl q,rl⟩
 |d x=>
  cases x with
  |tup es=>cases e;obtain⟨a,vs,rfl,N,J⟩:=r;exact⟨a,vs,rfl,SqT.of N,J⟩
  |lst es=>cases e;obtain⟨a,vs,rfl,h0,N,J⟩:=r;exact⟨a,vs,rfl,N,J⟩
  |non=>cases e;exact⟨rfl,r⟩
  |bl b=>cases e;exact⟨rfl,r⟩
  |int b=>cases e;exact⟨rfl,r⟩
  |str b=>cases e;exact⟨rfl,r⟩
  |_=>cases e
def CW {A:qa2}{k:Nat} (hr:bC k A):A.in1.units+60<cLine:=by
 have:=hr.un
 show A.units+1+60<cLine;lia
def yy {k:Nat} (hr:bC k X.A) (I:Inv X P σ H s) {a b:Kin}{v u:V}{vv uu:Value}{r:Bool} (ra:Eh X.K H φ a v) (rb:Eh X.K H φ b u) (qa:aQ v vv) (qb:aQ u uu) (e:eqK a b=some r) :
  qjo X.A s vv uu r/\qid X.A s vv uu (!r):=by
 have c:=hr.units0;have T:∀ {ds es:List D}{vs F:List V}{its g:List Value},Rls X.K H φ ds vs->Rls X.K H φ es F->aI vs its->aI F g->ds.all (okD 60)=true->es.all (okD 60)=true->
   ∀ j (g1:j<its.toArray.size) (g2:j<g.toArray.size),qdh X.A.in1 s its.toArray[j] g.toArray[j] (eqD (ds.getD j .non) (es.getD j .non)):=by
  intro ds es vs F its g J B R o M E j g1 g2;obtain⟨v1,k1,k2,k3⟩:=d9 J R j (by simpa using g1);obtain⟨v2,k4,k5,k6⟩:=d9 B o j (by simpa using g2);exact yt I 60 k1 k4 (by simpa using k2) (by simpa using k5) (qba.mp M _ k3) (qba.mp E _ k6) (CW hr)
 match a,b,e with
 |.fl d,.fl d',e=>
  cases e;obtain⟨f1,m⟩:=ra;obtain⟨f2,l⟩:=rb;obtain⟨O,g1⟩:=jf f1 m;obtain⟨e2,g2⟩:=jf f2 l;rw[<-qt f1 f2,<-O,<-e2];exact⟨Dr qa qb g1 g2,xY qa qb g1 g2⟩
 |.tp ds,.tp es,e=>
  simp only[eqK]at e;obtain⟨a,vs,rfl,N,J⟩:=ra;obtain⟨b,F,rfl,p,B⟩:=rb;cases qa;cases qb;obtain⟨its,R,p1,_⟩:=I.tuple N;obtain⟨g,o,f,_⟩:=I.tuple p;have O:its.toArray.size=ds.length:=by simp[<-R.length,J.length]
  have e2:g.toArray.size=es.length:=by simp[<-o.length,B.length]
  split at e
  ·rename_i Y
   cases e;have hv:∀ j (g1:j<its.toArray.size) (g2:j<g.toArray.size),qdh X.A.in1 s its.toArray[j] g.toArray[j] (eqD (ds.getD j .non) (es.getD j .non)):=λj g1 g2=>by
    rw[O]at g1;rw[e2]at g2;rw[qhQ]at Y;rcases Y with Y|Y
    ·rw[qhG.mp Y]at g1;exact absurd g1 (qcM _)
    ·rw[qhG.mp Y]at g2;exact absurd g2 (qcM _)
   have z:=qeG (A:=X.A) p1 f c hv;have z':=qfJ (A:=X.A) p1 f c hv;rw[O,e2,eU]at z z';have e3:dN ds es=(ds.isEmpty&&es.isEmpty):=by
    cases ds with
    |nil=>cases es<;>rfl
    |cons _ _=>cases es with
     |nil=>rfl
     |cons _ _=>cases Y
   rw[e3]at z z';exact⟨z,z'⟩
  ·split at e
   ·rename_i Y
    cases e;have z:=qeG (A:=X.A) p1 f c (T J B R o Y.1 Y.2);have z':=qfJ (A:=X.A) p1 f c (T J B R o Y.1 Y.2);rw[O,e2,eU]at z z';exact⟨z,z'⟩
   ·cases e
 |.ls ds,.ls es,e=>
  simp only[eqK]at e;obtain⟨a,vs,rfl,N,J⟩:=ra;obtain⟨b,F,rfl,p,B⟩:=rb;cases qa;cases qb;obtain⟨its,R,p1,_⟩:=I.list (.inl N);obtain⟨g,o,f,_⟩:=I.list (.inl p);have O:its.toArray.size=ds.length:=by simp[<-R.length,J.length]
  have e2:g.toArray.size=es.length:=by simp[<-o.length,B.length]
  split at e
  ·rename_i hl
   split at e
   ·rename_i Y
    cases e;have z:=qgq (A:=X.A) p1.isList f.isList (by rw[O,e2,hl]) c (T J B R o Y.1 Y.2);have z':=qi6 (A:=X.A) p1.isList f.isList (by rw[O,e2,hl]) c (T J B R o Y.1 Y.2);rw[O,jJ hl]at z z';exact⟨z,z'⟩
   ·cases e
  ·rename_i hl
   cases e;have z:=qfg (A:=X.A) p1.isList f.isList (by rw[O,e2];simpa using hl) c;have z':=qi5 (A:=X.A) p1.isList f.isList (by rw[O,e2];simpa using hl) c;exact⟨z,z'⟩
 |.fl d,.tp es,e=>
  cases e;obtain⟨f1,m⟩:=ra;obtain⟨b,F,rfl,p,B⟩:=rb;cases qb;obtain⟨g,o,f,_⟩:=I.tuple p;cases d with
  |non=>cases m;cases qa;exact⟨qki f c,qiZ f c⟩
  |bl x=>cases m;cases qa;exact⟨qkz x f c,qji x f c⟩
  |int x=>cases m;obtain⟨t,rfl⟩:=qa;exact⟨qkt x t f c,qjc x t f c⟩
  |str x=>cases m;obtain⟨t,rfl⟩:=qa;exact⟨qkc x t f c,qiT x t f c⟩
  |_=>cases f1
 |.tp es,.fl d,e=>
  cases e;obtain⟨f1,m⟩:=rb;obtain⟨b,F,rfl,p,B⟩:=ra;cases qa;obtain⟨g,o,f,_⟩:=I.tuple p;cases d with
  |non=>cases m;cases qb;exact⟨qj8 f c,qiP f c⟩
  |bl x=>cases m;cases qb;exact⟨qkb x f c,qiS x f c⟩
  |int x=>cases m;obtain⟨t,rfl⟩:=qb;exact⟨qka x t f c,qiR x t f c⟩
  |str x=>cases m;obtain⟨t,rfl⟩:=qb;exact⟨qj7 x t f c,qiO x t f c⟩
  |_=>cases f1
 |.fl d,.ls es,e=>
  cases e;obtain⟨f1,m⟩:=ra;obtain⟨b,F,rfl,p,B⟩:=rb;cases qb;obtain⟨g,o,f,_⟩:=I.list (.inl p);replace f:=f.isList;cases d with
  |non=>cases m;cases qa;exact⟨qkl f c,qi2 f c⟩
  |bl x=>cases m;cases qa;exact⟨qkC x f c,qjl x f c⟩
  |int x=>cases m;obtain⟨t,rfl⟩:=qa;exact⟨qkw x t f c,qjf x t f c⟩
  |str x=>cases m;obtain⟨t,rfl⟩:=qa;exact⟨qkf x t f c,qiW x t f c⟩
  |_=>cases f1
 |.ls es,.fl d,e=>
  cases e;obtain⟨f1,m⟩:=rb;obtain⟨b,F,rfl,p,B⟩:=ra;cases qa;obtain⟨g,o,f,_⟩:=I.list (.inl p);replace f:=f.isList;cases d with
  |non=>cases m;cases qb;exact⟨qkq f c,qi9 f c⟩
  |bl x=>cases m;cases qb;exact⟨qks x f c,qjb x f c⟩
  |int x=>cases m;obtain⟨t,rfl⟩:=qb;exact⟨qkr x t f c,qja x t f c⟩
  |str x=>cases m;obtain⟨t,rfl⟩:=qb;exact⟨qkp x t f c,qi8 x t f c⟩
  |_=>cases f1
 |.tp ds,.ls es,e=>
  cases e;obtain⟨a,vs,rfl,N,J⟩:=ra;obtain⟨b,F,rfl,p,B⟩:=rb;cases qa;cases qb;obtain⟨its,R,p1,_⟩:=I.tuple N;obtain⟨g,o,f,_⟩:=I.list (.inl p);exact⟨qj9 p1 f.isList c,qiQ p1 f.isList c⟩
 |.ls ds,.tp es,e=>
  cases e;obtain⟨a,vs,rfl,N,J⟩:=ra;obtain⟨b,F,rfl,p,B⟩:=rb;cases qa;cases qb;obtain⟨its,R,p1,_⟩:=I.list (.inl N);obtain⟨g,o,f,_⟩:=I.tuple p;exact⟨qko p1.isList f c,qi7 p1.isList f c⟩
def ET {k:Nat} (hr:bC k X.A) (hK:X.K=K:=by rfl):OpD K X (qbE .Eq) dEq:=by
 subst hK;refine⟨λst x y d h=>?_⟩;simp only[dEq,qac,qad]at h;obtain⟨a,ha,b,hb,r,e,rfl⟩:=h;intro P s σ H vx vy v u Q I C ry q;obtain⟨φ,S,m,l,q⟩:=q;exact (yy hr I (mM S m ha) (mM S l hb) C ry e).1 _ _ _ _ ⟨.bl r,H,I,rfl,q _ H (aS.refl H) rfl⟩
def FR {k:Nat} (hr:bC k X.A) (hK:X.K=K:=by rfl):OpD K X (qbE .NotEq) dNe:=by
 subst hK;refine⟨λst x y d h=>?_⟩;simp only[dNe,qac,qad]at h;obtain⟨a,ha,b,hb,r,e,rfl⟩:=h;intro P s σ H vx vy v u Q I C ry q;obtain⟨φ,S,m,l,q⟩:=q;exact (yy hr I (mM S m ha) (mM S l hb) C ry e).2 _ _ _ _ ⟨.bl (!r),H,I,rfl,q _ H (aS.refl H) rfl⟩
end
section
variable {K:qae}{X:Cx}
def aW:List D->Option (List Int)
 |[]=>some []
 |.int i::ds=>(aW ds).map λr=>i::r
 |_=>none
def bT:∀ {ds:List D}{ns:List Int},aW ds=some ns->ds=ns.map D.int
 |[],_,h=>by cases h;rfl
 |.int i::ds,_,h=>by
  obtain⟨r,e,rfl⟩:=qad.mp h;rw[bT e];rfl
 |.non::_,_,h=>by cases h
 |.bl _::_,_,h=>by cases h
 |.str _::_,_,h=>by cases h
 |.ty _::_,_,h=>by cases h
 |.dct::_,_,h=>by cases h
 |.scr _::_,_,h=>by cases h
 |.tup _::_,_,h=>by cases h
 |.lst _::_,_,h=>by cases h
def bD:∀ (ns:List Int),aW (ns.map D.int)=some ns
 |[]=>rfl
 |n::ns=>by rw[qaq,aW,bD ns];rfl
def iB:List D->Option (List Bool)
 |[]=>some []
 |.bl i::ds=>(iB ds).map λr=>i::r
 |_=>none
def jb:∀ {ds:List D}{ns:List Bool},iB ds=some ns->ds=ns.map D.bl
 |[],_,h=>by cases h;rfl
 |.bl i::ds,_,h=>by
  obtain⟨r,e,rfl⟩:=qad.mp h;rw[jb e];rfl
 |.non::_,_,h=>by cases h
 |.int _::_,_,h=>by cases h
 |.str _::_,_,h=>by cases h
 |.ty _::_,_,h=>by cases h
 |.dct::_,_,h=>by cases h
 |.scr _::_,_,h=>by cases h
 |.tup _::_,_,h=>by cases h
 |.lst _::_,_,h=>by cases h
def jW:∀ (ns:List Bool),iB (ns.map D.bl)=some ns
 |[]=>rfl
 |n::ns=>by rw[qaq,iB,jW ns];rfl
def aX (st:Sto):List W->Option D
 |[.d (.str x)]=>if x.length<=1000000 then some (.int x.length) else none
 |[w]=>(cx st w).map λds=>.int ds.length
 |_=>none
def vh (_:Sto):List W->Option D
 |[.d (.int i)]=>some (.int (if i<0 then -i else i))
 |_=>none
def Dt (_:Sto):List W->Option D
 |[.d (.int i),.d (.int j)]=>some (.int (if j<i then j else i))
 |_=>none
def vg (_:Sto):List W->Option D
 |[.d (.int i)]=>some (.int i)
 |[.d (.bl k)]=>some (.int (if k then 1 else 0))
 |_=>none
def nJ (_:Sto):List W->Option D
 |[.d (.lst ds)]=>(aW ds).map λns=>.int ns.sum
 |_=>none
def Cf (_:Sto):List W->Option D
 |[.d (.lst ds)]=>(iB ds).map λns=>.bl (ns.all id)
 |_=>none
def c9 (st:Sto):List W->Option D
 |[w]=>(cx st w).map λds=>.tup ds
 |_=>none
def pP (st:Sto):List W->Option (List D)
 |[w]=>cx st w
 |_=>none
def DM (st:Sto):W->Option String
 |.d .non=>some "NoneType"
 |.d (.bl _)=>some "bool"
 |.d (.int _)=>some "int"
 |.d (.str _)=>some "str"
 |.d (.tup _)=>some "tuple"
 |.d (.lst _)=>some "list"
 |.d .dct=>some "dict"
 |.h n=>(lg st n).map λ_=>"list"
 |_=>none
def CF (t c:String):Option Bool:=
 if c = "int" then some (t=="int" || t=="bool")
 else if c = "bool"\/c = "str"\/c = "tuple"\/c = "list" then some (t==c)
 else none
def n4 (st:Sto):List W->Option D
 |[w,.d (.ty c)]=>(DM st w).bind λt=>(CF t c).map λb=>.bl b
 |_=>none
def lD (L:X.K=K:=by rfl):hW K X (.builtin "len") aX:=by
 subst L;refine⟨λst ws d h=>?_⟩;have T:∀ w,(cx st w).map (λds=>D.int ds.length)=some d->bY X (.builtin "len") (rCD X.K st [w] d):=λw h=>by
  obtain⟨ds,e,rfl⟩:=qad.mp h;refine qr.imp ?_
  rintro vs H Q ⟨φ,S,⟨v,r,rfl,m,rfl⟩,q⟩
  obtain⟨a,C,rfl,A,O⟩:=jh S m e;exact⟨a,C,rfl,A,q _ H (aS.refl H) (by rw[<-O.length];rfl)⟩
 cases ws with
 |nil=>cases h
 |cons w tl=>
  cases tl with
  |cons _ _=>
   cases w with
   |h n=>cases h
   |d x=>cases x<;>cases h
  |nil=>
   cases w with
   |h n=>exact T _ h
   |d x=>
    cases x with
    |str x=>
     simp only[aX]at h;split at h
     ·rename_i hl
      cases h;refine rh.imp ?_
      rintro vs H Q ⟨φ,S,⟨v,r,rfl,m,rfl⟩,q⟩
      exact⟨x,by rw[show v=.str x from m],qa3 hl mil,q _ H (aS.refl H) rfl⟩
     ·cases h
    |tup ds=>exact T _ h
    |lst ds=>exact T _ h
    |scr ds=>exact T _ h
    |_=>cases h
def D3:hW K X (.builtin "abs") vh:=by
 refine⟨λst ws d h=>?_⟩
 match ws,h with
 |[.d (.int i)],h=>
  cases h;refine yO.imp ?_
  rintro vs H Q ⟨φ,S,⟨v,r,rfl,m,rfl⟩,q⟩
  exact⟨i,by rw[show v=.int i from m],q _ H (aS.refl H) rfl⟩
def C8 (R:X.calm=true:=by rfl):hW K X (.builtin "min") Dt:=by
 refine⟨λst ws d h=>?_⟩
 match ws,h with
 |[.d (.int i),.d (.int j)],h=>
  cases h;refine (xC R).imp ?_
  rintro vs H Q ⟨φ,S,⟨v,r,rfl,m,u,r',rfl,r2,rfl⟩,q⟩
  exact⟨i,j,by rw[show v=.int i from m,show u=.int j from r2],q _ H (aS.refl H) rfl⟩
def CA:hW K X (.type "int") vg:=by
 refine⟨λst ws d h=>?_⟩
 match ws,h with
 |[.d (.int i)],h=>
  cases h;refine pw.imp ?_
  rintro vs H Q ⟨φ,S,⟨v,r,rfl,m,rfl⟩,q⟩
  exact .inl ⟨i,by rw[show v=.int i from m],q _ H (aS.refl H) rfl⟩
 |[.d (.bl i)],h=>
  cases h;refine pw.imp ?_
  rintro vs H Q ⟨φ,S,⟨v,r,rfl,m,rfl⟩,q⟩
  exact .inr ⟨i,by rw[show v=.bl i from m],q _ H (aS.refl H) rfl⟩
def Dj (R:X.calm=true:=by rfl) (L:X.K=K:=by rfl):hW K X (.builtin "sum") nJ:=by
 subst L;refine⟨λst ws d h=>?_⟩
 match ws,h with
 |[.d (.lst ds)],h=>
  obtain⟨ns,e,rfl⟩:=qad.mp h;cases bT e;refine (EM (K:=X.K) R rfl).imp ?_
  rintro vs H Q ⟨φ,S,⟨v,r,rfl,⟨a,C,rfl,h0,A,O⟩,rfl⟩,q⟩
  cases O.ints;exact⟨a,ns,rfl,.inl A,q _ H (aS.refl H) rfl⟩
def Eo (R:X.calm=true:=by rfl) (L:X.K=K:=by rfl):hW K X (.builtin "all") Cf:=by
 subst L;refine⟨λst ws d h=>?_⟩
 match ws,h with
 |[.d (.lst ds)],h=>
  obtain⟨ns,e,rfl⟩:=qad.mp h;cases jb e;refine (EA (K:=X.K) R rfl).imp ?_
  rintro vs H Q ⟨φ,S,⟨v,r,rfl,⟨a,C,rfl,h0,A,O⟩,rfl⟩,q⟩
  cases O.bools;exact⟨a,ns,rfl,.inl A,q _ H (aS.refl H) rfl⟩
def DV (L:X.K=K:=by rfl):hW K X (.type "tuple") c9:=by
 subst L;refine⟨λst ws d h=>?_⟩
 match ws,h with
 |[w],h=>
  obtain⟨ds,e,rfl⟩:=qad.mp h;refine o9.imp ?_
  rintro vs H Q ⟨φ,S,⟨v,r,rfl,m,rfl⟩,q⟩
  obtain⟨a,C,rfl,A,O⟩:=sD S m e;refine⟨a,C,rfl,?_⟩;rcases A with A|A
  ·exact .inl ⟨A,λl hl=>q _ _ (aS.new hl _) ⟨l,C,rfl,upd_same,O.fw S (Fw.new hl)⟩⟩
  ·exact .inr ⟨SqT.of A,q _ H (aS.refl H) ⟨a,C,rfl,A,O⟩⟩
def qK (L:X.K=K:=by rfl):rK K X (.type "list") pP:=by
 subst L;refine⟨λst ws d h=>?_⟩
 match ws,h with
 |[w],h=>
  refine qg.imp ?_
  rintro vs H Q ⟨φ,S,⟨v,r,rfl,m,rfl⟩,q⟩
  obtain⟨a,C,rfl,A,O⟩:=jh S m h;exact⟨a,C,rfl,A,λl hl=>q l C H (aS.refl H) hl O⟩
def fK {t c:String}{b:Bool} (N:t = "NoneType"\/t = "bool"\/t = "int"\/t = "str"\/t = "tuple"\/t = "list"\/t = "dict") (h:CF t c=some b):qho K (.type t) (.type c)=some b:=by
 unfold CF at h;split at h
 ·rename_i R
  subst R;rcases N with rfl|rfl|rfl|rfl|rfl|rfl|rfl<;>(cases h;rfl)
 ·split at h
  ·rename_i _ R
   rcases R with rfl|rfl|rfl|rfl<;>rcases N with rfl|rfl|rfl|rfl|rfl|rfl|rfl<;>(cases h;rfl)
  ·cases h
def CM (L:X.K=K:=by rfl):hW K X (.builtin "isinstance") n4:=by
 subst L;refine⟨λst ws d h=>?_⟩
 match ws,h with
 |[w,.d (.ty c)],h=>
  simp only[n4,qac,qad]at h;obtain⟨t,N,b,hb,rfl⟩:=h;intro pins s σ H xs C Q I rv q;obtain⟨φ,S,⟨v,r,rfl,m,u,r',rfl,r2,rfl⟩,q⟩:=q;cases (show u=.ty c from r2);obtain⟨vv,uu,rfl,B,rv2⟩:=rv.two;cases rv2;have fin:∀ tk,EP X pins σ Q (.bool b) { s with toks:=tk }:=λtk=>⟨.bl b,H,I.tok tk,rfl,q _ H (aS.refl H) rfl⟩;cases w with
  |h n=>
   obtain⟨a,ea,rfl⟩:=m;obtain⟨ds,eds,rfl⟩:=qad.mp N;obtain⟨vs,hv,_⟩:=S.atl n a ds ea eds;exact cr I B (.lst hv) (fK (by simp) hb) fin
  |d x=>
   cases x with
   |non=>cases N;cases m;exact cr I B .non (fK (by simp) hb) fin
   |ob _ _=>cases N
   |bl x=>cases N;cases m;exact cr I B (.bl x) (fK (by simp) hb) fin
   |int x=>cases N;cases m;exact cr I B (.int x) (fK (by simp) hb) fin
   |str x=>cases N;cases m;exact cr I B (.str x) (fK (by simp) hb) fin
   |lst ds=>
    cases N;obtain⟨a,vs,rfl,h0,A,O⟩:=m;rcases A with A|⟨o,A⟩
    ·exact cr I B (.lst A) (fK (by simp) hb) fin
    ·exact cr I B (.frz A) (fK (by simp) hb) fin
   |tup ds=>
    cases N;obtain⟨a,vs,rfl,A,O⟩:=m;cases B;obtain⟨its,_,p,_⟩:=I.tuple (SqT.of A);obtain⟨o,e1,e2,_⟩:=p;exact qbH qgy I.kIn ⟨o,e1,e2⟩ (fK (by simp) hb) (λz=>nomatch z) fin
   |dct=>
    cases N;obtain⟨a,rfl,_,A⟩:=m;rcases A with⟨d,A⟩|⟨d,A⟩
    ·exact cr I B (.dK A) (fK (by simp) hb) fin
    ·exact cr I B (.dT A) (fK (by simp) hb) fin
   |ty x=>cases N
   |scr x=>cases N
variable {e a b:Expr}{es:List Expr}{pos:Pos}{f fa fb:Ef}{af:Af}
def EV {x:Str}{c:String} (hg:Gl X x) (hm:X.mg x=none) (hv:qb9 x=some (.type c)) (hn:x≠"__name__":=by decide) (hd:(x==("__debug__" : Str))=false:=by decide):IE K X (.Name x pos) (iC (.ty c)):=
 zD (v:=.ty c) (AX hg hm hv rfl hn hd) λ_ _=>rfl
def ny (g:List D->List W->Option (D×List D)) (o:Ef) (a:Af):Ef
 |env,st=>(o env st).bind λx=>(a env x.2).bind λr=>match x.1 with
 |.h n=>(lg x.2 n).bind λ_=>(lg r.2 n).bind λds=>(g ds r.1).map λy=>(.d y.1,r.2.set n (.l y.2))
 |_=>none
def gM (ds:List D):List W->Option (D×List D)
 |[.d x]=>if ds.length<1000000 then some (.non,ds++[x]) else none
 |_=>none
def CU {name:Str}{id:String}{E:Pos}{rr:V->List V->Hp->VK->Prop}{g:List D->List W->Option (D×List D)} (slot:Slot "list" name id) (hty:typeOf (.builtin id)=pure (.type "method_descriptor")) (hm:MtR X id rr)
  (hg:∀ (H:Hp) (φ:List Addr) (st:Sto) (n:Nat) (ad:Addr) (ds:List D) (vs:List V) (ws:List W) (C:List V) (y:D×List D) (Q:VK),Sr K H φ st->φ[n]?=some ad->lg st n=some ds->H ad=some (.lst vs)->Rls K H φ ds vs->Rws K H φ ws C->g ds ws=some y->
    (∀ v vs',Rl K H φ y.1 v->Rls K H φ y.2 vs'->(∀ b,v≠.ref b)->Q v (upd H ad (.lst vs')))->rr (.ref ad) C H Q)
  (hfl:∀ ds ws y,g ds ws=some y->dc y.1=true)
  (ho:IE K X a fa) (ha:IA K X (e::es) af) (J:qds a name X.env (eval a X.env)=eval a X.env:=by rfl)
  (F:(e::es).all ax=true:=by rfl) (M:(e::es).length<30:=by decide) (G:(E.endLine==pos.line)=true:=by rfl) (L:X.K=K:=by rfl) :
  IE K X (.Call (.Attribute a name E) (e::es) [] pos) (ny g fa af):=by
 subst L;have P:ax e=true/\es.all ax=true:=by rw[qbz,qbb]at F;exact F
 refine⟨λenv st r hr=>?_⟩;simp only[ny,qac]at hr;obtain⟨⟨x,s1⟩,hx,⟨ws,s2⟩,hw,hr⟩:=hr;cases x with
 |d x=>cases hr
 |h n=>
  simp only[qac,qad]at hr;obtain⟨ds1,hds1,ds,hds,y,Y,rfl⟩:=hr;refine (BP qfT slot hty hm (ho.run _ _ _ hx) (ha.run _ _ _ hw) J (rH F M) G (aT P.1) (bx P.2)).imp ?_
  rintro σ H Q ⟨φ,hE,hS,q⟩
  refine⟨φ,hE,hS,λv H1 φ1 f1 S1 w1=>?_⟩;obtain⟨ad,ea,rfl⟩:=w1;obtain⟨vs1,hv1,_⟩:=S1.atl n ad _ ea hds1;refine⟨.inl ⟨rfl,vs1,SqL.of hv1⟩,φ1,hE.fw hS f1,S1,λC H2 φ2 f2 S2 w2=>?_⟩;have ea2:=f2.get ea;obtain⟨vs2,hv2,rl2⟩:=S2.atl n ad ds ea2 hds;refine hg H2 φ2 s2 n ad ds vs2 ws C y _ S2 ea2 hds hv2 rl2 w2 Y λv vs' m r2 hb=>?_;obtain⟨f3,S3⟩:=S2.put ea2 r2;exact q v _ φ2 ((f1.trans f2).trans f3) S3 (m.fw S2 f3)
def xu {E:Pos} (ho:IE K X a fa) (ha:IA K X (e::es) af) (J:qds a "append" X.env (eval a X.env)=eval a X.env:=by rfl)
  (F:(e::es).all ax=true:=by rfl) (M:(e::es).length<30:=by decide) (G:(E.endLine==pos.line)=true:=by rfl) (L:X.K=K:=by rfl) :
  IE K X (.Call (.Attribute a "append" E) (e::es) [] pos) (ny gM fa af):=by
 refine CU PySem.F.slot_list_append PySem.F.type_list_append xx (λH φ st n ad ds vs ws C y Q S ea eds hv rl rw Y q=>?_) (λds ws y h=>?_) ho ha J F M G L
 ·match ws,Y with
  |[.d x],Y=>
   simp only[gM]at Y;split at Y
   ·rename_i hl
    cases Y;obtain⟨v,r,rfl,m,rfl⟩:=rw;exact⟨ad,vs,v,rfl,rfl,hv,by rw[<-rl.length];exact qaZ hl mil,q _ _ rfl (rl.append ⟨v,[],rfl,m,rfl⟩) (λb z=>nomatch z)⟩
   ·cases Y
 ·match ws,h with
  |[.d x],h=>
   simp only[gM]at h;split at h
   ·cases h;rfl
   ·cases h
end
section
variable {K:qae}{X:Cx}{e a b:Expr}{es:List Expr}{pos:Pos}{f J G:Ef}{af:Af}
def rL (K:qae) (st:Sto) (x y:W) (ds:List D):R2:=λL F H Q=>∃ φ,Sr K H φ st/\Rw K H φ x L/\Rw K H φ y F/\∀ p i,H p=none->Rls K H φ ds i->Q (.ref p) (upd H p (.lst i))
structure OpL (K:qae) (X:Cx) (f:Value->Value->Sem Value) (g:Sto->W->W->Option (List D)):Prop where
 run:∀ st x y d,g st x y=some d->OpR X f (rL K st x y d)
def tj (g:Sto->W->W->Option (List D)) (a b:Ef):Lf
 |env,st=>(a env st).bind λx=>(b env x.2).bind λy=>(g y.2 x.1 y.1).map λd=>(d,y.2)
def Fh {op:Operator}{g:Sto->W->W->Option (List D)} (O:OpL K X (qby op) g) (ha:IE K X a J) (hb:IE K X b G):IL K X (.BinOp a op b pos) (tj g J G):=by
 refine⟨λenv st r M=>?_⟩;simp only[tj,qac,qad]at M;obtain⟨x,P,y,R,d,hd,rfl⟩:=M;refine (BV (O.run _ _ _ _ hd) (ha.run _ _ _ P) (hb.run _ _ _ R)).imp ?_
 rintro σ H Q ⟨φ,I,B,q⟩
 exact⟨φ,I,B,λv H1 E f1 s1 w1=>⟨E,I.fw B f1,s1,λu H2 A f2 N T=>⟨A,N,w1.fw s1 f2,T,λp i C r=>q p i H2 A (f1.trans f2) N C r⟩⟩⟩
def nF (_:Sto):W->W->Option (List D)
 |.d (.lst a),.d (.int k)=>if a.length<=1000/\-1000<=k/\k<1000 then some (qaz k.toNat a).flatten else none
 |_,_=>none
def Eb:OpL K X (qby .Mult) nF:=by
 refine⟨λst x y d h=>?_⟩
 match x,y,h with
 |.d (.lst as),.d (.int k),h=>
  simp only[nF]at h;split at h
  ·rename_i hl
   cases h;refine vD.imp ?_
   rintro L F H Q ⟨φ,S,⟨a,i,rfl,h0,w,s⟩,Y,q⟩
   refine⟨a,k,i,rfl,Y,w,by lia,by lia,?_,λp C=>q p _ C (s.rep _)⟩;rw[<-s.length]
   have:as.length*k.toNat<=1000*1000:=qcZ hl.1 (by lia)
   exact qa3 this mil
  ·cases h
def ub (x:Int):List Int->List Int
 |[]=>[x]
 |y::c=>if x<=y then x::y::c else y::ub x c
def nE:List Int->List Int
 |[]=>[]
 |x::xs=>ub x (nE xs)
def lb (x:Int):∀ c,(ub x c).Perm (x::c)
 |[]=>qdc _
 |y::c=>by
  unfold ub;split
  ·exact qdc _
  ·exact (List.Perm.cons y (lb x c)).trans (List.Perm.swap x y c)
def lX:∀ xs,(nE xs).Perm xs
 |[]=>qdc _
 |x::xs=>(lb x _).trans (List.Perm.cons x (lX xs))
def me (x:Int):∀ {c:List Int},c.Pairwise (·<=·)->(ub x c).Pairwise (·<=·)
 |[],_=>by simp[ub]
 |y::c,h=>by
  unfold ub;split
  ·rename_i j
   refine qbi.mpr ⟨λz l=>?_,h⟩;rcases qaH.mp l with rfl|l
   ·exact j
   ·exact qfv j ((qbi.mp h).1 z l)
  ·rename_i j
   refine qbi.mpr ⟨λz l=>?_,me x (qbi.mp h).2⟩;rcases qaH.mp ((lb x c).mem_iff.mp l) with rfl|l
   ·lia
   ·exact (qbi.mp h).1 z l
def jD:∀ xs,(nE xs).Pairwise (·<=·)
 |[]=>List.Pairwise.nil
 |x::xs=>me x (jD xs)
def tm {xs c:List Int} (p:xs.Perm c) (w:xs.Pairwise (·<=·)) (s:c.Pairwise (·<=·)):xs=c:=
 qfs (λa b _ _ w s=>Int.le_antisymm w s) w s p
def kW:∀ {ns:List Int}{i:List Value},qcm i ns->aI (ns.map V.int) i
 |_,_,.nil=>.nil
 |_,_,.cons n t h=>.cons ⟨t,rfl⟩ (kW h)
def BC {H:Hp}{ad:Addr}{ns:List Int}{m:Fn} (hO:z9 H) (B:SqL K H ad (ns.map V.int)) (h:∃ st,m [.d (.scr ns)] []=some (.d (.bl true),st)):spI K m [.ref ad] H (λv _=>v=.bl true) λ_ _ _=>False:=by
 obtain⟨st,h⟩:=h;refine⟨[],[],[.d (.scr ns)],_,h,⟨_,[],rfl,⟨ad,rfl,?_⟩,rfl⟩,⟨qcU,rfl,λn a ds e=>by simp at e⟩,λv H' φ' _ _ r=>r⟩;rcases B with (h|h)|h
 ·rcases hO ad with z|⟨o,xs,z⟩
  ·rw[h]at z;cases z
  ·rw[h]at z;cases z
 ·exact .inl h
 ·exact .inr h
end
end L2
namespace L2
open PySem
def bN {g:Tg}{body:Sf}:∀ {ds:List D} (Pv:Nat->Ev->Sto->Prop) {env:Ev}{st:Sto},Pv 0 env st->
  (∀ i d env st,ds[i]?=some d->Pv i env st->∃ h e f,cB g (.d d) env=some h/\(body h st=some (.nx e f)\/body h st=some (.ct e f))/\Pv (i+1) e f)->
  ∃ a b,cK g body ds env st=some (.nx a b)/\Pv ds.length a b
 |[],Pv,env,st,j,_=>⟨env,st,rfl,j⟩
 |d::ds,Pv,env,st,j,k=>by
  obtain⟨h,e,f,q,c,n⟩:=k 0 d env st rfl j;obtain⟨o,s',l,m⟩:=bN (g:=g) (body:=body) (ds:=ds) (λi=>Pv (i+1)) n λi d' a b hd p=>k (i+1) d' a b (by simpa using hd) p;refine⟨o,s',?_,m⟩;unfold cK;rw[q,qaa];rcases c with c|c<;>(rw[c,qaa];exact l)
def kJ {g:Tg}{tt:Tf}{te:Ef}{env:Ev}:∀ {ds:List D} (Pv:Nat->List D->Sto->Prop) {st:Sto}{ys0:List D},Pv 0 ys0 st->
  (∀ i d b st,ds[i]?=some d->Pv i b st->∃ f,cB g (.d d) env=some f/\((∃ s1 x l,tt f st=some (true,s1)/\te f s1=some (.d x,l)/\Pv (i+1) (b++[x]) l)\/∃ s1,tt f st=some (false,s1)/\Pv (i+1) b s1))->
  ∃ b a,lcI g tt te env ds st=some (b,a)/\Pv ds.length (ys0++b) a
 |[],Pv,st,ys0,k,_=>⟨[],st,rfl,by rw[qb3];exact k⟩
 |d::ds,Pv,st,ys0,k,n=>by
  obtain⟨f,o,e⟩:=n 0 d ys0 st rfl k;rcases e with⟨s1,x,l,e,q,h⟩|⟨s1,e,h⟩
  ·obtain⟨b,s',j,m⟩:=kJ (g:=g) (tt:=tt) (te:=te) (env:=env) (ds:=ds) (λi=>Pv (i+1)) h λi d' c a hd p=>n (i+1) d' c a (by simpa using hd) p
   refine⟨x::b,s',?_,by simpa using m⟩;unfold lcI;rw[o,qaa,e,qaa,if_pos rfl,q,qaa,j];rfl
  ·obtain⟨b,s',j,m⟩:=kJ (g:=g) (tt:=tt) (te:=te) (env:=env) (ds:=ds) (λi=>Pv (i+1)) h λi d' c a hd p=>n (i+1) d' c a (by simpa using hd) p
   refine⟨b,s',?_,by simpa using m⟩;unfold lcI;rw[o,qaa,e,qaa,if_neg qaC,j]
def ko {g:Tg}{tt:Tf}{te:Ef}{env:Ev}{st:Sto} (p:D->Bool) (F:D->D):∀ {ds:List D},(∀ d∈ds,∃ a,cB g (.d d) env=some a/\tt a st=some (p d,st)/\(p d=true->te a st=some (.d (F d),st)))->
  lcI g tt te env ds st=some ((ds.filter p).map F,st)
 |[],_=>rfl
 |d::ds,h=>by
  obtain⟨a,i,c,f⟩:=h d qaf;have b:=ko (g:=g) (tt:=tt) (te:=te) (env:=env) (st:=st) p F (ds:=ds) λx e=>h x (qal _ e);unfold lcI;rw[i,qaa,c,qaa];cases hp:p d with
  |true=>rw[if_pos rfl,f hp,qaa,b,qec,hp];rfl
  |false=>rw[if_neg qaC,b,qec,hp];rfl
def jo {g:Tg}{te:Ef}{env:Ev}{st:Sto} (F:D->D) {ds:List D} (h:∀ d∈ds,∃ a,cB g (.d d) env=some a/\te a st=some (.d (F d),st)):lcI g aL te env ds st=some (ds.map F,st):=by
 have:=ko (g:=g) (tt:=aL) (te:=te) (env:=env) (st:=st) (λ_=>true) F (ds:=ds) λd hd=>by
  obtain⟨a,c,b⟩:=h d hd;exact⟨a,c,rfl,λ_=>b⟩
 rw[this,qg1.mpr λ_ _=>rfl]
def de (st:Sto) (n:Nat):Prop:=∃ x y z:Int,0<=x/\st[n]?=some (.l [.int x,.int y,.int z])
def Stp (n:Nat) (st a:Sto):Prop:=(∃ v,a=st.set n v)/\de a n
def de.lt {st:Sto}{n:Nat} (h:de st n):n<st.length:=by
 obtain⟨x,y,z,_,e⟩:=h;exact (qas.mp e).1
def Stp.refl {st:Sto}{n:Nat} (h:de st n):Stp n st st:=by
 obtain⟨x,y,z,a,e⟩:=id h;exact⟨⟨_,(List.set_getElem_self (h.lt)).symm⟩,h⟩
def Stp.trans {n:Nat}{a b c:Sto} (h:Stp n a b) (h':Stp n b c):Stp n a c:=by
 obtain⟨⟨v,rfl⟩,_⟩:=h;obtain⟨⟨u,rfl⟩,q⟩:=h';exact⟨⟨u,by rw[qfl]⟩,q⟩
def Stp.hand {n:Nat}{a b:Sto} (h:Stp n a b):de b n:=h.2
def gU {a b:Int} (h:-(2^64)<a/\a<2^64):qbo a b:=Au.ok (.inl h)
def dZ {a b:Int} (h:-(2^64)<b/\b<2^64):qbo a b:=Au.ok (.inr h)
def kF {st:Sto}{n:Nat}{v:C} (h:n<st.length):(st.set n v)[n]?=some v:=qbj h
def yQ {α:Type} (a:α) (l:List α):atI (a::l) 0=some a:=bW (j:=0) rfl
def Gk {α:Type} (a b:α) (l:List α):atI (a::b::l) 1=some b:=bW (j:=1) rfl
def Dl {α:Type} (a b c:α) (l:List α):atI (a::b::c::l) 2=some c:=bW (j:=2) rfl
def Gq (n:Nat):ixN (n+1) 0=some 0:=dA (j:=0) (by lia)
def Ge (n:Nat):ixN (n+2) 1=some 1:=dA (j:=1) (by lia)
def Dm (n:Nat):ixN (n+3) 2=some 2:=dA (j:=2) (by lia)
def gZ {n i:Nat}{d:D} (h:(bF 0 n)[i]?=some d):d=.int (i:Int)/\i<n:=by
 rw[rX]at h;by_cases a:i<n
 ·rw[if_pos a]at h
  cases h;exact⟨by rw[qcd],a⟩
 ·rw[if_neg a]at h;cases h
end L2
namespace L2
open PySem PySem.Spec PyProof.Rows
def ED:Nat->Nat->StateT qbP Sem (Option Nat):=sortPriv% PySem.Builtin.countRun
def CL:Nat->Nat->Nat->StateT qbP Sem Bool:=sortPriv% PySem.Builtin.binarySort
def Cm (prog:qaQ) (w:World) (A:qa2) (s:qak) (a:qc8) (O:qfe) (rk:Keyed->O.α) (S:Keyed->Prop):Prop:=
 ∀ x y,S x->S y->∀ (Q:Bool->qak->Prop) (E:Value->qak->Prop),Q (O.blt (rk x) (rk y)) s->wpAny (model prog w) A (keyLt' a x.1 y.1) Q E s
section
variable {prog:qaQ}{w:World}{A:qa2}{E:Value->qak->Prop}{s:qak}{κ:qc8}{O:qfe}{rk:Keyed->O.α}{S:Keyed->Prop}
def E9 (C:Cm prog w A s κ O rk S) {x y:Keyed}{st:qbP}{Q:Option Bool->qbP->Prop} (r:kindOf st=κ) (F:S x) (G:S y) (h:Q (some (O.blt (rk x) (rk y))) st) :
  wpS (model prog w) A E s (lt' x y) Q st:=by
 rw[lt'_eq];refine qbv (qg4 ?_);rw[r];exact qbv (wpS_lift (qeu (C x y F G _ _ ⟨rfl,qb7 h⟩)))
def ma {c:Prop} [Decidable c] {M:Model}{A':qa2}{E':Value->qak->Prop}{s':qak}{α:Type}{a b:StateT qbP Sem α}{Q:α->qbP->Prop}{st:qbP} (h:c) (k:wpS M A' E' s' a Q st):wpS M A' E' s' (if c then a else b) Q st:=by rw[if_pos h];exact k
def l7 {c:Prop} [Decidable c] {M:Model}{A':qa2}{E':Value->qak->Prop}{s':qak}{α:Type}{a b:StateT qbP Sem α}{Q:α->qbP->Prop}{st:qbP} (h:¬ c) (k:wpS M A' E' s' b Q st):wpS M A' E' s' (if c then a else b) Q st:=by rw[if_neg h];exact k
def wg {f:Array Keyed}{i:Nat}{x:Keyed}{st:qbP}{Q:Keyed->qbP->Prop} (l:f[i]?=some x) (h:Q x st):wpS (model prog w) A E s (elem' f i) Q st:=by
 rw[elem'_eq,l];exact qb7 h
def wu {t:String}{st:qbP}{Q:Unit->qbP->Prop} (h:Q () st):wpS (model prog w) A E s (liftM (rule t):StateT qbP Sem Unit) Q st:=wpS_lift (qde ⟨rfl,h⟩)
def kyd (f:Array Keyed) (i:Nat):Keyed:=(f[i]?).getD (.none,.none)
def mU {f:Array Keyed}{i:Nat} (h:i<f.size):f[i]?=some (kyd f i):=by
 unfold kyd;simp[h]
def gm {a b:Array Keyed}{i j:Nat} (h:a[i]?=b[j]?):kyd a i=kyd b j:=by
 unfold kyd;rw[h]
def Bk (C:Cm prog w A s κ O rk S) {i j:Nat}{st:qbP}{Q:Option Bool->qbP->Prop} (r:kindOf st=κ) (l:i<(arrOf st).size) (o:j<(arrOf st).size) (F:S (kyd (arrOf st) i)) (G:S (kyd (arrOf st) j))
  (h:Q (some (O.blt (rk (kyd (arrOf st) i)) (rk (kyd (arrOf st) j)))) st):wpS (model prog w) A E s (ltAt' i j) Q st:=by
 rw[ltAt'_eq];refine qbv (qg4 ?_);exact qbv (wg (mU l) (qbv (wg (mU o) (E9 C r F G h))))
structure SB (κ:qc8) (a0:Array Keyed) (lo:Nat) (p0:Array (Nat×Nat×Nat)) (g0:Nat) (st:qbP):Prop where
 perm:(arrOf st).Perm a0
 pre:∀ k,k<lo->(arrOf st)[k]?=a0[k]?
 kind:kindOf st=κ
 fail:qge st=none
 pend:qem st=p0
 gal:qia st=g0
variable {a0:Array Keyed}{lo:Nat}{p0:Array (Nat×Nat×Nat)}{g0:Nat}{st:qbP}
def SB.size (h:SB κ a0 lo p0 g0 st):(arrOf st).size=a0.size:=h.perm.size_eq
def SB.mem (h:SB κ a0 lo p0 g0 st) (D:∀ x∈a0.toList,S x) {i:Nat} (l:i<a0.size):S (kyd (arrOf st) i):=by
 have m:i<(arrOf st).size:=by rw[h.size];exact l
 refine D _ ((qfO.mp h.perm).mem_iff.mp ?_);have e:=mU m;rw[qbK m]at e;rw[<-qaV e];exact Array.getElem_mem_toList m
def SB.set (h:SB κ a0 lo p0 g0 st) {xs:Array Keyed} (L:xs.Perm (arrOf st)) (B:∀ k,k<lo->xs[k]?=(arrOf st)[k]?):SB κ a0 lo p0 g0 (qgS st xs):=
 ⟨L.trans h.perm,λk r=>(B k r).trans (h.pre k r),h.kind,h.fail,h.pend,h.gal⟩
def wp (C:Cm prog w A s κ O rk S) (D:∀ x∈a0.toList,S x) (q:SB κ a0 lo p0 g0 st) {i j:Nat}{Q:Option Bool->qbP->Prop} (l:i<a0.size) (o:j<a0.size)
  (h:Q (some (O.blt (rk (kyd (arrOf st) i)) (rk (kyd (arrOf st) j)))) st):wpS (model prog w) A E s (ltAt' i j) Q st:=
 Bk C q.kind (by rw[q.size];exact l) (by rw[q.size];exact o) (q.mem D l) (q.mem D o) h
def Up (rk:Keyed->O.α) (f:Array Keyed) (lo n:Nat):Prop:=∀ i j,lo<=i->i<=j->j<lo+n->O.kle (rk (kyd f i)) (rk (kyd f j))
def iq (rk:Keyed->O.α) (f:Array Keyed) (lo n:Nat):Prop:=∀ i j,lo<=i->i<=j->j<lo+n->O.kle (rk (kyd f j)) (rk (kyd f i))
def jV {xs:Array Keyed}{i j:Nat} (o:j<=xs.size) (k:Nat):kyd (qfD xs i j ((j - i) / 2)) k=if i<=k/\k<j then kyd xs (i+j - 1 - k) else kyd xs k:=by
 have e:=qhW (i:=i) o k;by_cases z:i<=k/\k<j
 ·rw[if_pos z]at e ⊢;exact gm e
 ·rw[if_neg z]at e ⊢;exact gm e
def nP {xs:Array Keyed}{g d:Nat} (K:g<xs.size) (hd:d<=g) (k:Nat) :
  kyd (bubble xs g d) k=if k=g - d then kyd xs g else if g - d<k/\k<=g then kyd xs (k - 1) else kyd xs k:=by
 have e:=qjQ K d hd k;by_cases z:k=g - d
 ·rw[if_pos z]at e ⊢;exact gm e
 ·rw[if_neg z]at e ⊢
  by_cases J:g - d<k/\k<=g
  ·rw[if_pos J]at e ⊢;exact gm e
  ·rw[if_neg J]at e ⊢;exact gm e
def SB.rev (q:SB κ a0 lo p0 g0 st) {i j:Nat} (l:lo<=i) (o:j<=a0.size):SB κ a0 lo p0 g0 (qgS st (qfD (arrOf st) i j ((j - i) / 2))):=
 q.set (mirror_perm _ _ _ _) λk r=>by
  rw[qhW (by rw[q.size];exact o),if_neg (by lia)]
def iD {xs:Array Keyed}{i j:Nat} (o:j<=xs.size) (I:∀ k,i<=k->k<j->rk (kyd xs k)=rk (kyd xs (j - 1))) (k:Nat):rk (kyd (qfD xs i j ((j - i) / 2)) k)=rk (kyd xs k):=by
 rw[jV o];split
 ·rw[I (i+j - 1 - k) (by lia) (by lia),I k (by lia) (by lia)]
 ·rfl
def qJ {i j:Nat}{Q:Unit->qbP->Prop} (h:Q () (qgS st (qfD (arrOf st) i j ((j - i) / 2)))):wpS (model prog w) A E s (reverseSlice' i j) Q st:=by
 rw[reverseSlice'_eq];exact qgQ h
def Up.more {f:Array Keyed}{n:Nat} (h:Up rk f lo n) (z:1<=n) (B:O.kle (rk (kyd f (lo+n - 1))) (rk (kyd f (lo+n)))):Up rk f lo (n+1):=by
 intro i j l p o;by_cases u:j<lo+n
 ·exact h i j l p u
 ·have v:j=lo+n:=by lia
  subst v;by_cases m:i=lo+n
  ·subst m;exact qcG _
  ·exact qdz (h i (lo+n - 1) l (by lia) (by lia)) B
def iq.more {f:Array Keyed}{n:Nat} (h:iq rk f lo n) (z:1<=n) (B:O.kle (rk (kyd f (lo+n))) (rk (kyd f (lo+n - 1)))):iq rk f lo (n+1):=by
 intro i j l p o;by_cases u:j<lo+n
 ·exact h i j l p u
 ·have v:j=lo+n:=by lia
  subst v;by_cases m:i=lo+n
  ·subst m;exact qcG _
  ·exact qdz B (h i (lo+n - 1) l (by lia) (by lia))
def Up.one {f:Array Keyed}:Up rk f lo 1:=λi j l p o=>by
 have:i=j:=by lia
 subst this;exact qcG _
def iq.congr {xs H:Array Keyed}{n:Nat} (h:iq rk xs lo n) (e:∀ k,rk (kyd H k)=rk (kyd xs k)):iq rk H lo n:=λi j l p o=>by
 rw[e,e];exact h i j l p o
end
section
variable {prog:qaQ}{w:World}{A:qa2}{E:Value->qak->Prop}{s:qak}{H:qc8}{O:qfe}{rk:Keyed->O.α}{S:Keyed->Prop}
variable {a0:Array Keyed}{lo:Nat}{L:Array (Nat×Nat×Nat)}{g0:Nat}{st:qbP}
def y9 {p b:Nat}{f:Nat->Option (Option Nat)×Nat->StateT qbP Sem (ForInStep (Option (Option Nat)×Nat))}{Q:Option (Option Nat)×Nat->qbP->Prop}
  (hf:∀ x n (Q':ForInStep (Option (Option Nat)×Nat)->qbP->Prop),1<=n->n < b->(O.blt (rk (kyd (arrOf st) (lo+n))) (rk (kyd (arrOf st) (lo+n - 1)))=true->Q' (.done (none,n)) st)->
    (O.blt (rk (kyd (arrOf st) (lo+n))) (rk (kyd (arrOf st) (lo+n - 1)))=false->Q' (.yield (none,n+1)) st)->wpS (model prog w) A E s (f x (none,n)) Q' st)
  (P:1<=p) (hn:p<=b) (R:Up rk (arrOf st) lo p)
  (h:∀ n,p<=n->n<=b->Up rk (arrOf st) lo n->(n=b\/O.klt (rk (kyd (arrOf st) (lo+n))) (rk (kyd (arrOf st) (lo+n - 1))))->Q (none,n) st):wpS (model prog w) A E s (forIn [p:b] (none,p) f) Q st:=by
 refine qd5 (I:=λx c a=>a=st/\c=(none,x)/\Up rk (arrOf st) lo x) ?_ ?_ ⟨rfl,rfl,R⟩
 ·rintro x c a hx hxn ⟨rfl,rfl,z⟩
  exact hf x x _ (by lia) hxn (λo=>h x hx (by lia) z (.inr o)) λo=>⟨rfl,rfl,z.more (by lia) o⟩
 ·rintro c a ⟨rfl,rfl,z⟩
  rw[show max p b=b by lia]at z ⊢;exact h b hn (qar _) z (.inl rfl)
def Eqs (rk:Keyed->O.α) (D:Array Keyed) (lo m q:Nat):Prop:=q+1<=m/\∀ i,lo+m - (q+1)<=i->i<lo+m->rk (kyd D i)=rk (kyd D (lo+m - 1))
def Bq {p b:Nat}{f:Nat->Option (Option Nat)×Nat×Nat->StateT qbP Sem (ForInStep (Option (Option Nat)×Nat×Nat))}{Q:Option (Option Nat)×Nat×Nat->qbP->Prop}
  (hf:∀ x n q a (Q':ForInStep (Option (Option Nat)×Nat×Nat)->qbP->Prop),1<=n->n < b->SB H a0 lo L g0 a->
    (O.blt (rk (kyd (arrOf a) (lo+n))) (rk (kyd (arrOf a) (lo+n - 1)))=true->0<q->Q' (.yield (none,n+1,0)) (qgS a (qfD (arrOf a) (lo+n - (q+1)) (lo+n) ((lo+n - (lo+n - (q+1))) / 2))))->
    (O.blt (rk (kyd (arrOf a) (lo+n))) (rk (kyd (arrOf a) (lo+n - 1)))=true->q=0->Q' (.yield (none,n+1,0)) a)->
    (O.blt (rk (kyd (arrOf a) (lo+n - 1))) (rk (kyd (arrOf a) (lo+n)))=true->Q' (.done (none,n,q)) a)->
    (O.blt (rk (kyd (arrOf a) (lo+n))) (rk (kyd (arrOf a) (lo+n - 1)))=false->O.blt (rk (kyd (arrOf a) (lo+n - 1))) (rk (kyd (arrOf a) (lo+n)))=false->Q' (.yield (none,n+1,q+1)) a)->
    wpS (model prog w) A E s (f x (none,n,q)) Q' a)
  (P:1<=p) (hn:p<=b) (hz:lo+b<=a0.size) (t:SB H a0 lo L g0 st) (hd:iq rk (arrOf st) lo p)
  (h:∀ n q a,p<=n->n<=b->SB H a0 lo L g0 a->iq rk (arrOf a) lo n->Eqs rk (arrOf a) lo n q->Q (none,n,q) a):wpS (model prog w) A E s (forIn [p:b] (none,p,0) f) Q st:=by
 have one:∀ (D:Array Keyed) m,1<=m->Eqs rk D lo m 0:=λD m hm=>⟨by lia,λi P h2=>by rw[show i=lo+m - 1 by lia]⟩;refine qd5 (I:=λx c a=>∃ q,c=(none,x,q)/\SB H a0 lo L g0 a/\iq rk (arrOf a) lo x/\Eqs rk (arrOf a) lo x q) ?_ ?_ ⟨0,rfl,t,hd,one _ _ P⟩
 ·rintro x c a hx hxn ⟨q,rfl,g,z,F⟩
  have hsz:lo+x<=(arrOf a).size:=by rw[g.size];lia
  refine hf x x q a _ (by lia) hxn g (λo K=>?_) (λo K=>?_) (λo=>h x q a hx (by lia) g z F) λo M=>?_
  ·have e:=iD (rk:=rk) (xs:=arrOf a) (i:=lo+x - (q+1)) (j:=lo+x) hsz F.2
   exact⟨0,rfl,g.rev (by have:=F.1;lia) (by lia),iq.congr (z.more (by lia) (qdf o)) e,one _ _ (by lia)⟩
  ·exact⟨0,rfl,g,z.more (by lia) (qdf o),one _ _ (by lia)⟩
  ·have eq:rk (kyd (arrOf a) (lo+x))=rk (kyd (arrOf a) (lo+x - 1)):=qgC M o
   refine⟨q+1,rfl,g,z.more (by lia) (by rw[eq];exact qcG _),by have:=F.1;lia,λi P h2=>?_⟩;rw[show lo+(x+1) - 1=lo+x by lia,eq];by_cases hi:i=lo+x
   ·rw[hi,eq]
   ·exact F.2 i (by lia) (by lia)
 ·rintro c a ⟨q,rfl,g,z,F⟩
  rw[show max p b=b by lia]at z F ⊢;exact h b q a hn (qar _) g z F
def Dq {m b:Nat}{f:Nat->Option (Option Nat)×Nat->StateT qbP Sem (ForInStep (Option (Option Nat)×Nat))}{k:Option (Option Nat)×Nat->StateT qbP Sem (Option Nat)}{Q:Option Nat->qbP->Prop}
  (t:SB H a0 lo L g0 st) (hd:iq rk (arrOf st) lo m) (P:1<=m) (hm:m<=b) (hz:lo+b<=a0.size)
  (hf:∀ x n (Q':ForInStep (Option (Option Nat)×Nat)->qbP->Prop) d,SB H a0 lo L g0 d->1<=n->n < b->(O.blt (rk (kyd (arrOf d) (lo+n))) (rk (kyd (arrOf d) (lo+n - 1)))=true->Q' (.done (none,n)) d)->
    (O.blt (rk (kyd (arrOf d) (lo+n))) (rk (kyd (arrOf d) (lo+n - 1)))=false->Q' (.yield (none,n+1)) d)->wpS (model prog w) A E s (f x (none,n)) Q' d)
  (hk:∀ n d,SB H a0 lo L g0 d->1<=n->n<=b->Up rk (arrOf d) lo n->wpS (model prog w) A E s (k (none,n)) Q d) :
  wpS (model prog w) A E s (do reverseSlice' lo (lo+m);let r <-forIn [m:b] (none,m) f;k r) Q st:=by
 refine qbv (qJ ?_);have y:=t.rev (i:=lo) (j:=lo+m) (qar _) (by lia);refine qbv (y9 (rk:=rk) (lo:=lo) (λx n Q' B v hy C=>hf x n Q' _ y B v hy C) P hm ?_ λW T J hu' _=>hk W _ y (by lia) J hu');intro i j hi hij hj;have hs3:lo+m<=(arrOf st).size:=by rw[t.size];lia
 show O.kle (rk (kyd (qfD (arrOf st) lo (lo+m) ((lo+m - lo) / 2)) i)) (rk (kyd (qfD (arrOf st) lo (lo+m) ((lo+m - lo) / 2)) j));rw[jV hs3,jV hs3,if_pos (by lia),if_pos (by lia)];exact hd _ _ (by lia) (by lia) (by lia)
set_option maxHeartbeats 1000000 in
def A1 (hC:Cm prog w A s H O rk S) (hS:∀ x∈a0.toList,S x) {b:Nat}{Q:Option Nat->qbP->Prop} (t:SB H a0 lo L g0 st) (P:1<=b) (hz:lo+b<=a0.size)
  (h:∀ m a,SB H a0 lo L g0 a->1<=m->m<=b->Up rk (arrOf a) lo m->Q (some m) a):wpS (model prog w) A E s (ED lo b) Q st:=by
 have Y:∀ a (_:SB H a0 lo L g0 a) n (Q':Option Bool->qbP->Prop),1<=n->n<b->Q' (some (O.blt (rk (kyd (arrOf a) (lo+n))) (rk (kyd (arrOf a) (lo+n - 1))))) a->
   wpS (model prog w) A E s (ltAt' (lo+n) (lo+n - 1)) Q' a:=λa g n Q' P h2 K=>wp hC hS g (by lia) (by lia) K
 refine qbv (y9 (rk:=rk) (lo:=lo) (λx n Q' B v hy C=>?_) (qar 1) P Up.one λn B v R hor=>?_)
 ·refine qbv (Y st t n _ B v ?_)
  cases o:O.blt (rk (kyd (arrOf st) (lo+n))) (rk (kyd (arrOf st) (lo+n - 1))) with
  |true=>exact qb7 (hy o)
  |false=>exact qb7 (C o)
 dsimp only;by_cases hnn:n=b
 ·refine ma (by simpa using hnn) ?_
  exact qb7 (h n st t B v R)
 refine l7 (by simpa using hnn) ?_;have N:=hor.resolve_left hnn;have hn3:n+1<=b:=by lia
 have hsz:lo+n<=(arrOf st).size:=by rw[t.size];lia
 by_cases hgt:n > 1
 case' pos=>
  refine ma hgt ?_;refine qbv (wp hC hS t (by lia) (by lia) ?_);by_cases l:O.blt (rk (kyd (arrOf st) lo)) (rk (kyd (arrOf st) (lo+n - 1)))=true
  ·rw[l];exact qb7 (h n st t B v R)
  rw[qeh]at l;rw[l];have u:∀ k,lo<=k->k<lo+n->rk (kyd (arrOf st) k)=rk (kyd (arrOf st) (lo+n - 1)):=λk hk1 hk2=>
   qgC (R k (lo+n - 1) hk1 (by lia) (by lia)) (qdz l (R lo k (by lia) hk1 hk2))
  refine qbv (qJ ?_);have G:=t.rev (i:=lo) (j:=lo+n) (qar _) (by lia);have hd:iq rk (arrOf (qgS st (qfD (arrOf st) lo (lo+n) ((lo+n - lo) / 2)))) lo (n+1):=by
   refine iq.congr (xs:=arrOf st) (iq.more (λi j hi hij hj=>?_) (by lia) (qdf N)) (iD hsz u);rw[u i hi (by lia),u j (by lia) hj];exact qcG _
  generalize qgS st (qfD (arrOf st) lo (lo+n) ((lo+n - lo) / 2))=st2 at G hd ⊢;clear R N l u t hsz hor
 case' neg=>
  refine l7 hgt ?_;have G:=t;have hd:iq rk (arrOf st) lo (n+1):=by
   refine iq.more (λi j hi hij hj=>?_) (by lia) (qdf N);rw[show i=j by lia];exact qcG _
  clear R N t hsz hor
  revert G hd
  generalize st=st2;intro G hd
 all_goals
  refine qbv (wu ?_);refine qbv (Bq (λx m q a Q' hm1 hm2 g c1 c2 c3 c4=>?_) (by lia) hn3 hz G hd λm q a hm1 hm2 g hd' F=>?_)
  ·refine qbv (Y a g m _ hm1 hm2 ?_)
   cases o:O.blt (rk (kyd (arrOf a) (lo+m))) (rk (kyd (arrOf a) (lo+m - 1))) with
   |true=>
    dsimp only;refine ma rfl ?_;by_cases K:q > 0
    ·rw[if_pos K];exact qbv (qJ (qb7 (c1 o K)))
    ·rw[if_neg K];exact qb7 (c2 o (by lia))
   |false=>
    dsimp only;refine l7 (by simp) ?_;refine qbv (wp hC hS g (by lia) (by lia) ?_);cases M:O.blt (rk (kyd (arrOf a) (lo+m - 1))) (rk (kyd (arrOf a) (lo+m))) with
    |true=>exact qb7 (c3 M)
    |false=>exact qb7 (c4 o M)
  have hsz':lo+m<=(arrOf a).size:=by rw[g.size];lia
  dsimp only;by_cases K:q > 0
  case' pos=>
   refine ma K ?_;refine qbv (qJ ?_);have V:=g.rev (i:=lo+m - (q+1)) (j:=lo+m) (by have:=F.1;lia) (by lia);have X:iq rk (arrOf (qgS a (qfD (arrOf a) (lo+m - (q+1)) (lo+m) ((lo+m - (lo+m - (q+1))) / 2)))) lo m:=iq.congr hd' (iD hsz' F.2);generalize qgS a (qfD (arrOf a) (lo+m - (q+1)) (lo+m) ((lo+m - (lo+m - (q+1))) / 2))=st3 at V X ⊢
  case' neg=>
   refine l7 K ?_;have V:=g;have X:=hd'
  all_goals
   refine Dq V X (by lia) hm2 hz (λx W Q' d y T J hy C=>?_) λW d y a1 a2 a3=>qb7 (h W d y a1 a2 a3);refine qbv (Y d y W _ T J ?_);cases o:O.blt (rk (kyd (arrOf d) (lo+W))) (rk (kyd (arrOf d) (lo+W - 1))) with
   |true=>exact qb7 (hy o)
   |false=>exact qb7 (C o)
end
section
variable {prog:qaQ}{w:World}{A:qa2}{E:Value->qak->Prop}{s:qak}{y:qc8}{O:qfe}{rk:Keyed->O.α}{S:Keyed->Prop}
variable {a0:Array Keyed}{lo:Nat}{B:Array (Nat×Nat×Nat)}{g0:Nat}{st:qbP}
set_option maxHeartbeats 1000000 in
def yR (N:Cm prog w A s y O rk S) (K:∀ x∈a0.toList,S x) {n ok:Nat}{Q:Bool->qbP->Prop} (G:SB y a0 lo B g0 st) (u:1<=ok) (hok:ok<=n) (V:lo+n<=a0.size) (H:Up rk (arrOf st) lo ok)
  (h:∀ a,SB y a0 lo B g0 a->Up rk (arrOf a) lo n->Q true a):wpS (model prog w) A E s (CL lo n ok) Q st:=by
 refine qbv (qh6 (qd5 (I:=λk c a=>c=(none,())/\SB y a0 lo B g0 a/\Up rk (arrOf a) lo (min k n)) (Q:=λc a=>c=(none,())/\SB y a0 lo B g0 a/\Up rk (arrOf a) lo n) ?_ ?_ ?_) ?_)
 ·rintro k c a R J ⟨rfl,d,o⟩
  rw[show min k n=k by lia]at o;dsimp only
  refine qbv (qh6 (qd5 (I:=λx c b=>b=a/\∃ l r,c=(none,l,r)/\l<=r/\r<=k/\r - l<=k - x/\(∀ i,i < l->O.kle (rk (kyd (arrOf a) (lo+i))) (rk (kyd (arrOf a) (lo+k))))/\
    ∀ i,r<=i->i<k->O.klt (rk (kyd (arrOf a) (lo+k))) (rk (kyd (arrOf a) (lo+i))))
   (Q:=λc b=>b=a/\∃ l r,c=(none,l,r)/\l<=k/\(∀ i,i<l->O.kle (rk (kyd (arrOf a) (lo+i))) (rk (kyd (arrOf a) (lo+k))))/\∀ i,l<=i->i<k->O.klt (rk (kyd (arrOf a) (lo+k))) (rk (kyd (arrOf a) (lo+i)))) ?_ ?_ ?_) ?_)
  ·rintro x c b _ P ⟨rfl,l,r,rfl,D,p,hm,g,f⟩
   dsimp only;by_cases z:l>=r
   ·refine ma z ?_
    have e:l=r:=by lia
    subst e;exact qb7 ⟨rfl,l,l,rfl,p,g,f⟩
   ·refine l7 z ?_
    refine qbv (wp N K d (by lia) (by lia) ?_);cases hl:O.blt (rk (kyd (arrOf b) (lo+k))) (rk (kyd (arrOf b) (lo+(l+r) / 2))) with
    |true=>exact qb7 ⟨rfl,l,(l+r) / 2,rfl,by lia,by lia,by lia,g,λi u C=>KeyOrd.klt_of_klt_of_kle hl (o _ _ (by lia) (by lia) (by lia))⟩
    |false=>exact qb7 ⟨rfl,(l+r) / 2+1,r,rfl,by lia,by lia,by lia,λi u=>qdz (o (lo+i) (lo+(l+r) / 2) (by lia) (by lia) (by lia)) hl,f⟩
  ·rintro c b ⟨rfl,l,r,rfl,D,p,hm,g,f⟩
   have e:l=r:=by lia
   subst e;exact⟨rfl,l,l,rfl,p,g,f⟩
  ·exact⟨rfl,0,k,rfl,by lia,by lia,by lia,λi F=>by lia,λi u C=>by lia⟩
  ·rintro c b ⟨rfl,l,r,rfl,M,g,f⟩
   dsimp only;refine qbv (m:=moveDown' (lo+k) (lo+l)) ?_;rw[moveDown'_eq];have q:lo+k<(arrOf b).size:=by rw[d.size];lia
   refine qgQ (qb7 ⟨rfl,d.set (bubble_perm _ _ _) λi F=>?_,?_⟩)
   ·rw[qjQ q _ (by lia),if_neg (by lia),if_neg (by lia)]
   ·rw[show min (k+1) n=k+1 by lia]
    intro i j F L T;show O.kle (rk (kyd (bubble (arrOf b) (lo+k) (lo+k - (lo+l))) i)) (rk (kyd (bubble (arrOf b) (lo+k) (lo+k - (lo+l))) j));rw[nP q (by lia),nP q (by lia),show lo+k - (lo+k - (lo+l))=lo+l by lia];have t:∀ i,lo<=i->i<lo+l->O.kle (rk (kyd (arrOf b) i)) (rk (kyd (arrOf b) (lo+k))):=λi u C=>by
     have:=g (i - lo) (by lia);rwa [show lo+(i - lo)=i by lia]at this
    have v:∀ i,lo+l<=i->i<lo+k->O.klt (rk (kyd (arrOf b) (lo+k))) (rk (kyd (arrOf b) i)):=λi u C=>by
     have:=f (i - lo) (by lia) (by lia);rwa [show lo+(i - lo)=i by lia]at this
    repeat' split
    all_goals first
     |(exfalso;lia)
     |exact qcG _
     |exact t _ (by lia) (by lia)
     |exact qdf (v _ (by lia) (by lia))
     |exact o _ _ (by lia) (by lia) (by lia)
 ·rintro c a ⟨rfl,d,o⟩
  rw[show min (max (max ok 1) n) n=n by lia]at o;exact⟨rfl,d,o⟩
 ·rw[show max ok 1=ok by lia,show min ok n=ok by lia]
  exact⟨rfl,G,H⟩
 ·rintro c a ⟨rfl,d,o⟩
  exact qb7 (h a d o)
end
section
variable {O:qfe}{rk:Keyed->O.α}
variable {a b out:Array Keyed}{ia c:Nat}
variable {d e:Nat}
end
section
variable {prog:qaQ}{w:World}{A:qa2}{E:Value->qak->Prop}{s:qak}{c:qc8}{O:qfe}{rk:Keyed->O.α}{S:Keyed->Prop}{st:qbP}{a b:Array Keyed}
end
section
variable {prog:qaQ}{w:World}{A:qa2}{E:Value->qak->Prop}{s:qak}{d:qc8}{O:qfe}{rk:Keyed->O.α}{S:Keyed->Prop}{st:qbP}{a b out:Array Keyed}{c e:Nat}
end
section
variable {prog:qaQ}{w:World}{A:qa2}{E:Value->qak->Prop}{s:qak}{o:qc8}{O:qfe}{rk:Keyed->O.α}{S:Keyed->Prop}{st:qbP}{k:Array Keyed}{n m:Nat}
def Gm {a:Array Keyed} (h:Up rk a 0 a.size):a.toList.Pairwise λx y=>O.kle (rk x) (rk y):=by
 rw[qf1];intro i j g l f;have c:i<a.size:=by simpa using g
 have b:j<a.size:=by simpa using l
 have q:=h i j (qch _) (by lia) (by lia);have d:=mU c;have e:=mU b;rw[qbK c]at d;rw[qbK b]at e;rw[<-qaV d,<-qaV e]at q;simpa using q
end
section
variable {prog:qaQ}{w:World}{A:qa2}{E:Value->qak->Prop}{s:qak}{κ:qc8}{O:qfe}{rk:Keyed->O.α}{S:Keyed->Prop}{st:qbP}{a0:Array Keyed}
structure DF (κ:qc8) (O:qfe) (rk:Keyed->O.α) (a0:Array Keyed) (n1:Nat) (st:qbP):Prop where
 perm:(arrOf st).Perm a0
 kind:kindOf st=κ
 fail:qge st=none
 pend:qem st=#[(0,n1,0)]
 up:Up rk (arrOf st) 0 n1
def EK {n:Nat} (B:2<=n) (k:n<64):minRun' n n 0=n:=by
 obtain⟨f,rfl⟩:∃ f,n=f+1:=⟨n - 1,by lia⟩;rw[minRun'_succ,if_pos (by lia)]
set_option maxHeartbeats 2000000 in
def Ba (C:Cm prog w A s κ O rk S) {Q:Unit->qbP->Prop} (G:kindOf st=κ) (M:qge st=none) (J:qem st=#[]) (t:arrOf st=a0) (z:∀ x∈a0.toList,S x) (B:2<=a0.size) (k:a0.size<64)
  (h:∀ a,(arrOf a).toList.Perm a0.toList->(arrOf a).toList.Pairwise (λx y=>O.kle (rk x) (rk y))->qge a=none->Q () a):wpS (model prog w) A E s sortRuns' Q st:=by
 obtain⟨l,q,K⟩:∃ l,(sortPriv% PySem.Builtin.minRun) a0.size a0.size 0=l/\l=a0.size:=⟨_,rfl,EK B k⟩;refine qbv (qg4 ?_);have L:(arrOf st).size=a0.size:=by rw[t]
 dsimp only;rw[L,q]
 refine qbv (qh6 (qd5 (I:=λx c a=>(x=0/\c=(none,0)/\SB κ a0 0 #[] (qia st) a)\/(c=(none,a0.size)/\DF κ O rk a0 a0.size a/\1<=x))
  (Q:=λc a=>c.1=none/\DF κ O rk a0 a0.size a) ?_ ?_ ?_) ?_)
 ·rintro x c a _ D H
  rcases H with⟨rfl,rfl,F⟩|⟨rfl,g,r⟩
  ·dsimp only
   refine l7 (by lia) ?_;refine qbv (A1 C z F (by lia) (by lia) λm d i m1 m2 u=>?_);have put:∀ n b,SB κ a0 0 #[] (qia st) b->Up rk (arrOf b) 0 n->n=a0.size->
     DF κ O rk a0 a0.size (qgU (kindOf b) (arrOf b) ((qem b).push (0,n,0)) (qia b) (qge b)):=λn b e v hn=>
    ⟨e.perm,e.kind,e.fail,by show (qem b).push _=_;rw[e.pend,hn];rfl,by rw[<-hn];exact v⟩
   dsimp only;by_cases j:m<l
   ·refine ma j ?_
    refine qbv (wu (qbv (yR C z i m1 (by lia) (by lia) u λb e v=>?_)));refine l7 (by simp) ?_;have hn:min (a0.size - 0) l=a0.size:=by lia
    have o:=put _ b e v hn;refine qbv (qg4 ?_);have hb:(qem b).back?=none:=by rw[e.pend];rfl
    rw[hb];exact qbv (qgQ (qb7 (.inr ⟨by rw[qaT,hn],o,by lia⟩)))
   ·refine l7 j ?_
    have hn:m=a0.size:=by lia
    have o:=put m d i u hn;refine qbv (qg4 ?_);have hb:(qem d).back?=none:=by rw[i.pend];rfl
    rw[hb];exact qbv (qgQ (qb7 (.inr ⟨by rw[qaT,hn],o,by lia⟩)))
  ·dsimp only
   refine ma (qar _) ?_;exact qb7 ⟨rfl,g⟩
 ·rintro c a (⟨D,_⟩|⟨rfl,g,r⟩)
  ·lia
  ·exact⟨rfl,g⟩
 ·exact .inl ⟨rfl,rfl,by rw[t],λ_ _=>by rw[t],G,M,J,rfl⟩
 ·rintro⟨c1,c2⟩ a ⟨rfl,g⟩
  dsimp only;have hsz:(arrOf a).size=a0.size:=g.perm.size_eq;have g1:=qfO.mp g.perm;have g2:(arrOf a).toList.Pairwise (λx y=>O.kle (rk x) (rk y)):=Gm (by rw[hsz];exact g.up);refine qbv (qh6 (qd5 (I:=λy c d=>c=(none,())/\d=a) (Q:=λc d=>c=(none,())/\d=a) ?_ ?_ ?_) ?_)
  ·rintro y c d _ N ⟨rfl,rfl⟩
   refine qbv (qg4 ?_);have p:(qem d).size<=1:=by rw[g.pend];exact qar 1
   refine ma p ?_;exact qb7 ⟨rfl,rfl⟩
  ·rintro c d ⟨rfl,rfl⟩
   exact⟨rfl,rfl⟩
  ·exact⟨rfl,rfl⟩
  ·rintro c d ⟨rfl,rfl⟩
   exact qb7 (h _ g1 g2 g.fail)
end
end L2
namespace L2
open PySem PySem.Spec PyProof.Rows PySem.SeqAt
open MeetsSeq MeetsSeq2 MeetsSeq3 SeqRoads2
open AutoSeq1 (wpAny_loadPart')
def pf (A:qa2) (s:qak) (y x:Value) (b:Bool):Prop:=∀ (prog:qaQ) (w:World) (E:Value->qak->Prop) (Q:Value->qak->Prop),Q (.bool b) s->wpAny (model prog w) A (richCompare .Lt y x) Q E s
def nD (e l:Nat->Bool) (fin:Bool):Nat->Nat->Bool
 |0,_=>fin
 |k+1,i=>if e i=true then nD e l fin k (i+1) else l i
def mS (p q:Addr) (a vs:Array Value) (n O:Nat) (J F:Option Addr) (N C:Array (Option Value)) (e l:Nat->Bool) :
  Meets (qeg.«tuple.__lt__» ⟨[.ref p,.ref q],[]⟩)
   (λA R s=>(s.heap.get? p=some ⟨.type "tuple",J,.seq a n,N⟩/\s.heap.get? q=some ⟨.type "tuple",F,.seq vs O,C⟩)/\
     (∀ j (G:j<a.size) (I:j<vs.size),EqAt A.in1 s a[j] vs[j] (e j)/\(e j=false->pf A.in1 s a[j] vs[j] (l j)))/\
     R (.ok (.ret (.bool (nD e l (decide (a.size<vs.size)) (min a.size vs.size) 0)))) s):=
 .of_wp λprog w A R s h=>by
  obtain⟨D,g,d,E,os⟩:=s;obtain⟨⟨G,I⟩,H,h⟩:=h;have f2:=qfI;have B:(a.toList.zip vs.toList).length=min a.size vs.size:=by simp
  wp_walk using wpAny_loadPart' G,wpAny_loadPart' I,qiL _ (λf b s'=>b.1=none/\s'=⟨D,g,d,E,os⟩/\∃ i,i<=min a.size vs.size/\f=(a.toList.zip vs.toList).drop i/\
   R (.ok (.ret (.bool (nD e l (decide (a.size<vs.size)) (min a.size vs.size - i) i)))) ⟨D,g,d,E,os⟩) _
  case turn=>
   rintro⟨y,x⟩ f b s' ⟨m,rfl,i,L,o,t⟩
   have v:i<(a.toList.zip vs.toList).length:=by
    rcases qeA i (a.toList.zip vs.toList).length with h'|h'
    ·exact h'
    ·rw[List.drop_of_length_le h']at o;cases o
   rw[B]at v;have g1:i<a.size:=by lia
   have g2:i<vs.size:=by lia
   rw[qcW (by rw[B];exact v)]at o;injection o with z r;have u:y=a[i]:=by have:=congrArg qcz z;simpa using this
   have K:x=vs[i]:=by have:=congrArg qdt z;simpa using this
   subst u K;obtain⟨k,M⟩:∃ k,min a.size vs.size - i=k+1:=⟨min a.size vs.size - i - 1,by lia⟩;rw[M]at t;have c:R (.ok (.ret (.bool (if e i=true then nD e l (decide (a.size<vs.size)) k (i+1) else l i)))) ⟨D,g,d,E,os⟩:=t;refine qab ((H i g1 g2).1 prog w _ _ ?_);cases u:e i with
   |true=>
    rw[u,if_pos rfl]at c
    wp_walk
    exact⟨rfl,rfl,i+1,by lia,r,by rw[show min a.size vs.size - (i+1)=k by lia];exact c⟩
   |false=>
    rw[u,if_neg (by simp)]at c;simp only[Bool.not_false,if_true];refine qab (qde ?_);refine qab ((H i g1 g2).2 u prog w _ _ ?_)
    wp_walk
    exact⟨_,rfl,c⟩
  case fin=>
   rintro⟨b1,b2⟩ s' ⟨m,rfl,i,L,o,t⟩
   simp only at m
   subst m;have P:min a.size vs.size<=i:=by
    rcases qeA i (a.toList.zip vs.toList).length with h'|h'
    ·rw[qcW h']at o;cases o
    ·rw[B]at h';exact h'
   rw[show min a.size vs.size - i=0 by lia]at t
   wp_walk
   exact⟨_,rfl,by simpa [qeo,nD] using t⟩
  case h=>exact⟨rfl,rfl,0,qch _,rfl,h⟩
section
variable {A:qa2}{s:qak}{p q:Addr}{a vs:Array Value}{e l:Nat->Bool}
def pf.tuples (u:s.heap.IsTuple p a) (hb:s.heap.IsTuple q vs) (v:A.units<cLine) (r:∀ j (B:j<a.size) (z:j<vs.size),EqAt A.in1 s a[j] vs[j] (e j)/\(e j=false->pf A.in1 s a[j] vs[j] (l j))) :
  pf A s (.ref p) (.ref q) (nD e l (decide (a.size<vs.size)) (min a.size vs.size) 0):=λprog w E Q h=>by
 obtain⟨⟨cls,o,data,y⟩,i,k,n,hd⟩:=id u;obtain⟨⟨m,f,data2,g⟩,c,d,t,b⟩:=id hb
 simp only at k hd d b
 subst k hd d b;exact qhl (op:=.Lt) ⟨_,i,rfl⟩ ⟨_,c,rfl⟩ qdi qd4 (qdX _ _) (mS p q a vs n t o f y g e l)
  ⟨⟨i,c⟩,r,(λx=>nomatch x),h⟩ v
end
end L2
namespace L2
open PySem PySem.Spec PyProof.Rows PySem.SeqAt PySem.W
def bq:List Int->List Int->Bool
 |[],[]=>false
 |[],_::_=>true
 |_::_,[]=>false
 |a::as,b::bs=>if a=b then bq as bs else decide (a<b)
def tJ:∀ a,bq a a=false
 |[]=>rfl
 |a::as=>by unfold bq;rw[if_pos rfl];exact tJ as
def iN:∀ a b,bq a b=false->bq b a=false->a=b
 |[],[],_,_=>rfl
 |[],_::_,h,_=>by cases h
 |_::_,[],_,h=>by cases h
 |a::as,b::bs,h,h'=>by
  unfold bq at h h';by_cases e:a=b
  ·subst e
   rw[if_pos rfl]at h h';rw[iN as bs h h']
  ·rw[if_neg e]at h
   rw[if_neg (qbC e)]at h';rw[decide_eq_false_iff_not]at h h';lia
def pZ:∀ a b c,bq a b=true->bq b c=true->bq a c=true
 |[],[],_,h,_=>by cases h
 |[],_::_,[],_,h=>by cases h
 |[],_::_,_::_,_,_=>rfl
 |_::_,[],_,h,_=>by cases h
 |_::_,_::_,[],_,h=>by cases h
 |a::as,b::bs,c::f,h,h'=>by
  unfold bq at h h' ⊢;by_cases e:a=b
  ·subst e
   rw[if_pos rfl]at h;by_cases d:a=c
   ·subst d;rw[if_pos rfl]at h' ⊢;exact pZ as bs f h h'
   ·rw[if_neg d]at h' ⊢;exact h'
  ·rw[if_neg e,decide_eq_true_iff]at h
   by_cases d:b=c
   ·subst d;rw[if_neg e,decide_eq_true_iff];exact h
   ·rw[if_neg d,decide_eq_true_iff]at h'
    rw[if_neg (by lia),decide_eq_true_iff];lia
def zO:∀ a b c,bq a c=true->bq a b=true\/bq b c=true
 |a,b,c,h=>by
  by_cases e:bq a b=true
  ·exact .inl e
  ·rw[qeh]at e
   by_cases d:bq b a=true
   ·exact .inr (pZ b a c d h)
   ·rw[qeh]at d
    rw[iN a b e d]at h;exact .inr h
def OI:qfe:=⟨List Int,bq,tJ,pZ,zO,iN⟩
def TuI (h:Heap) (v:Value) (l:List Int):Prop:=∃ a its,v=.ref a/\h.IsTuple a its/\qcm its.toList l
def bX:Value->Int
 |.int n _=>n
 |_=>0
def tuI (h:Heap):Value->List Int
 |.ref a=>match h.get? a with
  |some o=>match o.data with
   |.seq its _=>its.toList.map bX
   |_=>[]
  |none=>[]
 |_=>[]
def oB:∀ {a:List Value}{l:List Int},qcm a l->a.map bX=l
 |_,_,.nil=>rfl
 |_,_,.cons n t h=>by rw[qaq,oB h];rfl
def eD:∀ {a:List Value}{l:List Int},qcm a l->a.length=l.length
 |_,_,.nil=>rfl
 |_,_,.cons n t h=>by rw[qam,qam,eD h]
def jp:∀ {a:List Value}{l:List Int},qcm a l->∀ (j:Nat) (h:j<a.length),∃ t,a[j]=.int (l.getD j 0) t
 |_,_,.nil,j,h=>absurd h (qcM j)
 |_,_,.cons n t b,0,h=>⟨t,rfl⟩
 |_,_,.cons n t b,j+1,h=>by
  obtain⟨t',e⟩:=jp b j (qgA h);exact⟨t',by simpa using e⟩
def TuI.is {h:Heap}{v:Value}{l:List Int} (t:TuI h v l):tuI h v=l:=by
 obtain⟨a,its,rfl,⟨o,b,d,n,hd⟩,c⟩:=t;simp only[tuI,b,hd];exact oB c
def TuI.fit {h h':Heap}{v:Value}{l:List Int} (t:TuI h v l) (c:∀ b o,h.get? b=some o->h'.get? b=some o):TuI h' v l:=by
 obtain⟨a,its,rfl,⟨o,d,r⟩,e⟩:=t;exact⟨a,its,rfl,⟨o,c _ _ d,r⟩,e⟩
def oz:∀ (l m:List Int) (i:Nat) (e f:Nat->Bool),(∀ j,j<l.length->j<m.length->e (i+j)=decide (l.getD j 0=m.getD j 0)/\f (i+j)=decide (l.getD j 0<m.getD j 0))->
  nD e f (decide (l.length<m.length)) (min l.length m.length) i=bq l m
 |[],[],i,e,f,_=>by simp[nD,bq]
 |[],b::m,i,e,f,_=>by simp[nD,bq]
 |a::l,[],i,e,f,_=>by simp[nD,bq]
 |a::l,b::m,i,e,f,h=>by
  have c:=h 0 (by simp) (by simp);rw[qam,qam,show min (l.length+1) (m.length+1)=min l.length m.length+1 by lia];have g:decide (l.length+1<m.length+1)=decide (l.length<m.length):=by rw[qb4];simp
  rw[g];show (if e i=true then nD e f (decide (l.length<m.length)) (min l.length m.length) (i+1) else f i)=if a=b then bq l m else decide (a<b);rw[qgM]at c;rw[c.1,c.2];by_cases q:a=b
  ·subst q
   simp only[qay,decide_true,if_true];exact oz l m (i+1) e f λj k d=>by
    have:=h (j+1) (by simpa using k) (by simpa using d)
    rw[show i+1+j=i+(j+1) by lia];simpa using this
  ·simp[q]
section
variable {prog:qaQ}{w:World}{A:qa2}{E:Value->qak->Prop}{s:qak}{x y:Value}{l m:List Int}
def pf.ints {a b:Int}{t u:Tok}:pf A s (.int a t) (.int b u) (decide (a<b)):=λprog w E Q h=>qd7 h
def EqAt.ints {a b:Int}{t u:Tok}:EqAt A s (.int a t) (.int b u) (decide (a=b)):=by
 have:=vd (A:=A) (s:=s) (y:=.int a) (x:=.int b) (u:=.int a t) (v:=.int b u) ⟨t,rfl⟩ ⟨u,rfl⟩ rfl rfl
 have e:eqV (.int a) (.int b)=decide (a=b):=by simp[eqV,Bool.beq_eq_decide_eq]
 rw[e]at this;exact this
def TuI.lt (C:TuI s.heap x l) (ty:TuI s.heap y m) (L:A.units<cLine):pf A s x y (bq l m):=by
 obtain⟨a,d,rfl,H,g⟩:=C;obtain⟨b,vs,rfl,I,k⟩:=ty;have F:d.size=l.length:=by rw[<-qbs];exact eD g
 have G:vs.size=m.length:=by rw[<-qbs];exact eD k
 have z:=pf.tuples (A:=A) (e:=λj=>decide (l.getD j 0=m.getD j 0)) (l:=λj=>decide (l.getD j 0<m.getD j 0)) H I L λj g1 g2=>by
  obtain⟨t,J⟩:=jp g j (by simpa using g1);obtain⟨t',K⟩:=jp k j (by simpa using g2);rw[qeE]at J K;rw[J,K];exact⟨EqAt.ints,λ_=>pf.ints⟩
 rw[F,G,oz l m 0 _ _ λj H I=>by rw[qaT];exact⟨rfl,rfl⟩]at z;exact z
def TuI.one (C:TuI s.heap x l) (ty:TuI s.heap y m) (L:A.units<cLine) {Q:Bool->qak->Prop} (h:Q (bq l m) s) (b:Bool):wpAny (model prog w) A (oneLt' b x y) Q E s:=by
 cases b with
 |false=>exact kat_one _ _ (C.lt ty L _ _ _ _ h)
 |true=>
  rw[oneLt'_eq];simp only[if_true];refine qab (wpAny_cRoomFor L ?_);obtain⟨a,d,rfl,H,g⟩:=id C;obtain⟨c,vs,rfl,I,k⟩:=id ty;obtain⟨⟨cls,S,data,W⟩,D,M,n,hd⟩:=id H;obtain⟨⟨P,O,data2,N⟩,B,p,R,f⟩:=id I
  simp only at M hd p f
  subst M hd p f;have F:d.size=l.length:=by rw[<-qbs];exact eD g
  have G:vs.size=m.length:=by rw[<-qbs];exact eD k
  refine qab (wpAny_callSpecialIfBound?_slot (T:="tuple") ⟨_,D,rfl⟩ qdi (qcY qdi ⟨_,D,rfl⟩ qd4 (qdX _ _)
   (mS a c d vs n R S O W N (λj=>decide (l.getD j 0=m.getD j 0)) λj=>decide (l.getD j 0<m.getD j 0)) ⟨⟨D,B⟩,λj g1 g2=>?_,?_⟩))
  ·obtain⟨t,J⟩:=jp g j (by simpa using g1)
   obtain⟨t',K⟩:=jp k j (by simpa using g2);rw[qeE]at J K;rw[J,K];exact⟨EqAt.ints,λ_=>pf.ints⟩
  ·rw[F,G,oz l m 0 _ _ λj H I=>by rw[qaT];exact⟨rfl,rfl⟩]
   exact qcA h
def yj {Q:Bool->qak->Prop}{fin:Bool}:∀ {d vs:List Value}{l m:List Int} (i:Nat),qcm d l->qcm vs m->(fin=decide (l.length<m.length))->Q (bq l m) s->KatLex prog w A true fin Q (d.zip vs) i s
 |_,_,_,_,i,.nil,.nil,q,h=>kat_nil (by rw[q];exact h)
 |_,_,_,_,i,.nil,.cons n t r,q,h=>kat_nil (by rw[q];simpa [bq] using h)
 |_,_,_,_,i,.cons n t r,.nil,q,h=>kat_nil (by rw[q];simpa [bq] using h)
 |_,_,_,_,i,.cons (vs:=d) (ns:=l) a t r,.cons (vs:=vs) (ns:=m) b u V,q,h=>by
  rw[qcD];refine kat_cons (EqAt.ints prog w _ _ ?_);unfold bq at h;by_cases e:a=b
  ·subst e
   rw[if_pos rfl]at h;rw[decide_eq_true rfl];exact kat_yes (yj (i+1) r V (by rw[q,qb4];simp) h)
  ·rw[if_neg e]at h
   rw[decide_eq_false e];refine kat_no ?_;cases (true&&i==0) with
   |true=>exact oneLt_int h
   |false=>exact kat_one _ _ (qd7 h)
def TuI.tups (C:TuI s.heap x l) (ty:TuI s.heap y m) {Q:Bool->qak->Prop} (h:Q (bq l m) s):wpAny (model prog w) A (keyLt' (tuples' true) x y) Q E s:=by
 obtain⟨a,d,rfl,⟨o,D,M,n,hd⟩,g⟩:=C;obtain⟨c,vs,rfl,⟨X,B,p,R,f⟩,k⟩:=ty;have F:d.size=l.length:=by rw[<-qbs];exact eD g
 have G:vs.size=m.length:=by rw[<-qbs];exact eD k
 exact kat_lt D hd B f (yj 0 g k (by rw[F,G]) h)
end
section
variable {prog:qaQ}{w:World}{A:qa2}{E:Value->qak->Prop}{s:qak}{O:qfe}{rk:Keyed->O.α}{S:Keyed->Prop}{vs:List Value}
def sU:∀ (vs:List Value),vs.zip vs=vs.map λv=>(v,v)
 |[]=>rfl
 |v::vs=>by rw[qcD,sU vs];rfl
def CT {α G:Type}{f:α->G}{R:G->G->Prop}:∀ {vs:List α},vs.toArray.size<2->(vs.map f).Pairwise R
 |[],_=>List.Pairwise.nil
 |[v],_=>qgg _ _
 |_::_::_,h=>absurd h (by simp)
set_option maxHeartbeats 1000000 in
def pi {a:Addr}{n:Nat}{P:PySem.Fin->qak->Prop} (z:s.heap.get? a=some (qcS "list" vs.toArray n)) (r:vs.length<64)
  (j:∀ h',(∀ b o,b≠a->s.heap.get? b=some o->h'.get? b=some o)->∃ p,(2<=vs.length->∀ (Q':qc8->qak->Prop) E',Q' p { s with heap:=h' }->wpAny (model prog w) A (qh9 vs.toArray) Q' E' { s with heap:=h' })/\Cm prog w A { s with heap:=h' } p O rk S)
  (H:∀ v∈vs,S (v,v))
  (h:∀ out:List Value,out.Perm vs->out.Pairwise (λx y=>O.kle (rk (x,x)) (rk (y,y)))->P (.done (.ret .none)) { s with heap:=qir s.heap a vs out.toArray }) :
  wpAny (model prog w) A (qeg.«list.sort» ⟨[.ref a],[]⟩) P E s:=by
 rw[list_sort_plain];have d:a<s.heap.objs.size:=qax z;have hsz:vs.toArray.size=vs.length:=by simp
 refine qab (listItems_at z rfl ?_);refine qab (qg9 z rfl ?_ (by rw[hsz,qcb];lia));obtain⟨N,t⟩:∃ N,(s.heap.update a (qbY λ_=>#[])).get? a=some (qcS "list" #[] N):=⟨_,get?_update_seq z (λ_=>#[])⟩
 refine qab (qhU t rfl ?_);refine qab (qjY ?_ (by rw[qcb];show vs.toArray.toList.length<=_;simp;lia));refine qab (qfz ?_);refine qcr ?_;have T:(s.heap.update a (qbY λ_=>(#[]:Array Value))).objs.size=s.heap.objs.size:=qhJ ..;have g:∀ b o,b<s.heap.objs.size->(s.heap.update a (qbY λ_=>(#[]:Array Value))).get? b=some o->
   (((s.heap.update a (qbY λ_=>#[])).push (qcS "tuple" vs.toArray 0)).push (qcS "list" #[] 0)).get? b=some o:=λb o hb q=>by
  rw[qdp _ _ _ (qaL (by rw[qit,T];exact qbf hb)),qdp _ _ _ (qaL (by rw[T];exact hb))];exact q
 have i:=g a _ d t;obtain⟨p,I,hC⟩:=j (((s.heap.update a (qbY λ_=>#[])).push (qcS "tuple" vs.toArray 0)).push (qcS "list" #[] 0)) λb o hb q=>
  g b o (qax q) (by rw[qg2 _ _ _ _ hb];exact q)
 show wpAny (model prog w) A _ P E { s with heap:=((s.heap.update a (qbY λ_=>#[])).push (qcS "tuple" vs.toArray 0)).push (qcS "list" #[] 0) }
 have pt:(vs.toArray.zip vs.toArray).toList=vs.map λv=>(v,v):=by rw[<-sU];simp
 have fin:∀ c:qbP,(arrOf c).toList.Perm (vs.map λv=>(v,v))->(arrOf c).toList.Pairwise (λx y=>O.kle (rk x) (rk y))->∃ out:List Value,out.length=vs.length/\(arrOf c).map (·.2)=out.toArray/\P (.done (.ret .none)) { s with heap:=qir s.heap a vs out.toArray }:=λc D k=>by
  refine⟨(arrOf c).toList.map (·.2),by rw[qah,D.length_eq,qah],by apply qhu.mp;simp,h _ ?_ ?_⟩
  ·have:=D.map (·.2)
   rw[qaR]at this;have e:(vs.map ((λx=>x.2) ∘ λv=>((v,v):Keyed)))=vs:=by rw[show ((λx:Keyed=>x.2) ∘ λv=>((v,v):Keyed))=id from rfl,qgW]
   rw[e]at this;exact this
  ·rw[qdn]
   refine k.imp_of_mem λ{x y} B X q=>?_;have V:x=(x.2,x.2):=by obtain⟨v,_,rfl⟩:=qaX.mp (D.mem_iff.mp B);rfl
   have dy:y=(y.2,y.2):=by obtain⟨v,_,rfl⟩:=qaX.mp (D.mem_iff.mp X);rfl
   rw[<-V,<-dy];exact q
 dsimp only;by_cases k:vs.toArray.size<2
 ·rw[if_pos k,if_pos k]
  refine qab (qan ?_);rw[StateT.run_pure];refine qab (qan ?_);dsimp only;obtain⟨out,L,J,K⟩:=fin (qgU general' (vs.toArray.zip vs.toArray) #[] 7 none) (by rw[pt]) (by rw[pt];exact CT k);refine qab (qhU i rfl ?_);rw[J];refine qab (qg9 i rfl ?_ (hsz2:=by show out.length<=_;rw[L,qcb];lia));simp only[bne_self_eq_false,qa0,if_false];exact qan K
 ·rw[if_neg k,if_neg k]
  refine qab (I (by lia) _ _ ?_)
  refine qab (qco (Ba hC (st:=qgU p (vs.toArray.zip vs.toArray) #[] 7 none) (a0:=vs.toArray.zip vs.toArray) (Q:=λ_ c=>(arrOf c).toList.Perm (vs.map λv=>(v,v))/\(arrOf c).toList.Pairwise (λx y=>O.kle (rk x) (rk y))/\qge c=none)
   rfl rfl rfl rfl (λx B=>?_) (by simp;lia) (by simp;lia) λc a1 a2 a3=>⟨by rw[<-pt];exact a1,a2,a3⟩) ?_ λ_ _ e=>e)
  ·rw[pt]at B
   obtain⟨v,Y,rfl⟩:=qaX.mp B;exact H v Y
  rintro⟨⟨⟩,c⟩ s' ⟨rfl,a1,a2,a3⟩
  dsimp only;obtain⟨out,L,J,K⟩:=fin c a1 a2;refine qab (qhU i rfl ?_);rw[J];refine qab (qg9 i rfl ?_ (hsz2:=by show out.length<=_;rw[L,qcb];lia));rw[a3];simp only[bne_self_eq_false,qa0,if_false];exact qan K
def oG {l:Addr}{Q:Value->qak->Prop} (hl:s.heap.IsList l vs.toArray) (r:vs.length<64)
  (j:∀ h',(∀ b o,s.heap.get? b=some o->h'.get? b=some o)->∃ p,(2<=vs.length->∀ (Q':qc8->qak->Prop) E',Q' p { s with heap:=h' }->wpAny (model prog w) A.in1.in1 (qh9 vs.toArray) Q' E' { s with heap:=h' })/\Cm prog w A.in1.in1 { s with heap:=h' } p O rk S)
  (H:∀ v∈vs,S (v,v))
  (h:∀ out:List Value,out.Perm vs->out.Pairwise (λx y=>O.kle (rk (x,x)) (rk (y,y)))->Q (.ref (s.heap.objs.size+1)) { s with heap:=qjL s.heap vs out.toArray }) :
  wpAny (model prog w) A (call (.builtin "sorted") [.ref l]) Q E s:=by
 refine qfW kind_sorted plain_sorted entry_sorted (args_sorted1 _) ?_;unfold qeg.«sorted»;refine qab (m:=checkCount "sorted" 1 1 _) (qan ?_)
 refine qab (collect_list hl ?_ (by rw[qcb];lia));refine qab (qfz ?_ (by rw[qcb];lia));have F:((s.heap.push (qcS "list" #[] 0)).update s.heap.objs.size (qbY (·++vs.toArray))).objs.size=s.heap.objs.size+1:=by rw[qhJ,qit]
 generalize M:((s.heap.push (qcS "list" #[] 0)).update s.heap.objs.size (qbY (·++vs.toArray)))=C at F ⊢
 have u:(C.push (qcS "list" vs.toArray 0)).get? (s.heap.objs.size+1)=some (qcS "list" vs.toArray 0):=by
  rw[<-F];exact qav _ rfl
 have keep:∀ b o,s.heap.get? b=some o->b≠s.heap.objs.size+1/\(C.push (qcS "list" vs.toArray 0)).get? b=some o:=λb o q=>by
  have d:b<s.heap.objs.size:=qax q;refine⟨qaL (qbf d),?_⟩;rw[qdp _ _ _ (qaL (by rw[F];exact qbf d)),<-M,qg2 _ _ _ _ (qaL d),qdp _ _ _ (qaL d)];exact q
 show wpAny _ _ _ _ _ { s with heap:=C.push (qcS "list" vs.toArray 0) }
 rw[F];refine qab (qcr (qbN qj0 ⟨_,u,rfl⟩ qjR (pi (s:={ s with heap:=C.push (qcS "list" vs.toArray 0) }) u r (λh' W=>j h' λb o q=>W b o (keep b o q).1 (keep b o q).2) H λout a1 a2=>⟨_,rfl,?_⟩) (qj6 _)))
 refine qan ⟨_,rfl,?_⟩
 have:=h out a1 a2
 unfold qjL at this;rw[M]at this;exact this
end
def lM (h:Heap):Value->Option Value
 |.ref a=>match h.get? a with
  |some o=>match o.data with
   |.seq its _=>its[0]?
   |_=>none
  |none=>none
 |_=>none
def TuI.fst {h:Heap}{v:Value}{l:List Int} (t:TuI h v l):lM h v=none\/∃ n t,lM h v=some (.int n t):=by
 obtain⟨a,its,rfl,⟨o,c,f,n,hd⟩,d⟩:=t;simp only[lM,c,hd];by_cases b:0<its.size
 ·obtain⟨t,e⟩:=jp d 0 (by simpa using b)
  exact .inr ⟨_,t,by rw[qbK b];rw[qeE]at e;rw[e]⟩
 ·exact .inl (qdg (by lia))
section
variable {prog:qaQ}{w:World}{A:qa2}{E:Value->qak->Prop}{s:qak}
def vU {v:Value}{l:List Int} (t:TuI s.heap v l) {Q:Value->qak->Prop} (h:Q (.type "tuple") s):wpAny (model prog w) A (typeOf v) Q E s:=by
 obtain⟨a,its,rfl,⟨o,k,F,n,hd⟩,J⟩:=t;refine Looks.here (show Looks (model prog w) s.heap (typeOf (.ref a)) o.cls from (Looks.ld k).andThen .now) ?_;rw[F];exact h
def wG {v:Value}{l:List Int} (t:TuI s.heap v l) {Q:Option Value->qak->Prop} (h:Q (lM s.heap v) s):wpAny (model prog w) A (firstOfTuple' v) Q E s:=by
 rw[kas_first_eq];refine qab (vU t ?_);obtain⟨a,its,rfl,⟨o,k,F,n,hd⟩,J⟩:=t;rw[if_neg (by simp)];simp only[lM,k,hd]at h;exact qab (listItems_at k hd (qan h))
def gu:∀ {vs:List Value}{Q:List (Option Value)->qak->Prop},(∀ v∈vs,∃ l,TuI s.heap v l)->Q (vs.map (lM s.heap)) s->wpAny (model prog w) A (vs.mapM firstOfTuple') Q E s
 |[],_,_,h=>by rw[List.mapM_nil];exact qan h
 |v::vs,Q,t,h=>by
  rw[List.mapM_cons];obtain⟨l,C⟩:=t v qaf;refine qab (wG C (qab (gu (Q:=λbs s'=>wpAny (model prog w) A (pure (lM s.heap v::bs)) Q E s') (λu g=>t u (qal _ g)) (qan h))))
def uJ {x y:Value}{l m:List Int} (b:TuI s.heap x l) (c:TuI s.heap y m) {Q:Bool->qak->Prop} (h:Q (OI.blt (tuI s.heap x) (tuI s.heap y)) s):Q (bq l m) s:=by
 have h':Q (bq (tuI s.heap x) (tuI s.heap y)) s:=h;rw[b.is,c.is]at h';exact h'
def rV {vs:List Value} (t:∀ v∈vs,∃ l,TuI s.heap v l) (g:A.units<cLine):∃ G,(2<=vs.length->∀ (Q':qc8->qak->Prop) E',Q' G s->wpAny (model prog w) A (qh9 vs.toArray) Q' E' s)/\
  Cm prog w A s G OI (λp=>tuI s.heap p.1) (λp=>∃ l,TuI s.heap p.1 l):=by
 by_cases c1:(vs.map (lM s.heap)).toArray.all (·.isSome)=true
 ·refine⟨tuples' true,λB Q' E' j=>?_,λx y ⟨l,b⟩ ⟨m,c⟩ Q E h=>b.tups c (uJ b c h)⟩
  rw[qhV,qdo,map_eq_pure_bind];refine qab (qab (gu t (qan ?_)));rw[if_pos c1];refine qab (qde ?_);have K:∀ v∈(vs.map (lM s.heap)).filterMap id,∃ n t,v=.int n t:=λv z=>by
   obtain⟨o,k,e⟩:=qe3.mp z;obtain⟨u,g,rfl⟩:=qaX.mp k;obtain⟨l,H⟩:=t u g;rcases H.fst with q|⟨n,t',q⟩
   ·rw[q]at e;cases e
   ·rw[q]at e;exact⟨n,t',(qaV e).symm⟩
  have L:∃ f fr,(vs.map (lM s.heap)).filterMap id=f::fr:=by
   match vs,B,c1 with
   |v::vs,_,c1=>
    simp only[qaq,qfr,qbz,qbb]at c1;obtain⟨u,g⟩:=qcq.mp c1.1;exact⟨u,(vs.map (lM s.heap)).filterMap id,by rw[qaq,qdK,g];rfl⟩
  obtain⟨f,fr,e⟩:=L;have I:(vs.map (lM s.heap)).toArray.filterMap id=(f::fr).toArray:=by rw[<-e];simp
  rw[I,qjO,qdo,map_eq_pure_bind];refine qab (qab (qab (kas_mapM (r:=.type "int") _ (λv z Q'' i=>?_) (qan ?_))))
  ·rw[<-e]at z
   obtain⟨n,t',rfl⟩:=K v z;exact qan i
  ·have D:(qfG (λ_=>Value.type "int") (f::fr)).toArray[0]?=some (.type "int"):=by simp
   rw[D];have d:((qfG (λ_=>Value.type "int") (f::fr)).toArray.all λx=>x==.type "int")=true:=by
    simp only[qfr,qgB,qba];intro _ _;rfl
   simp only[d,if_true];exact qan (qan j)
 ·by_cases c2:((vs.map (lM s.heap)).toArray[0]?.bind id).isSome=true
  ·refine⟨general',λB Q' E' j=>?_,λx y ⟨l,b⟩ ⟨m,c⟩ Q E h=>b.one c g (uJ b c h) false⟩
   rw[qhV,qdo,map_eq_pure_bind];refine qab (qab (gu t (qan ?_)));rw[if_neg c1,if_pos c2];exact qan j
  ·refine⟨qh8,λB Q' E' j=>?_,λx y ⟨l,b⟩ ⟨m,c⟩ Q E h=>b.one c g (uJ b c h) true⟩
   rw[qhV,qdo,map_eq_pure_bind];refine qab (qab (gu t (qan ?_)));rw[if_neg c1,if_neg c2,qjO,qdo,map_eq_pure_bind];refine qab (qab (qab (kas_mapM (r:=.type "tuple") _ (λv z Q'' i=>?_) (qan ?_))))
   ·obtain⟨l,C⟩:=t v z
    exact vU C i
   ·obtain⟨v,vs,rfl⟩:∃ v r,vs=v::r:=by
     match vs,B with
     |v::r,_=>exact⟨v,r,rfl⟩
    have D:(qfG (λ_=>Value.type "tuple") (v::vs)).toArray[0]?=some (.type "tuple"):=by simp
    rw[D];have d:((qfG (λ_=>Value.type "tuple") (v::vs)).toArray.all λx=>x==.type "tuple")=true:=by
     simp only[qfr,qgB,qba];intro _ _;rfl
    simp only[d,if_true];exact qan (qan j)
def yC {vs:List Value}{ns:List Int} (t:qcm vs ns):(2<=vs.length->∀ (Q':qc8->qak->Prop) E',Q' qh8 s->wpAny (model prog w) A (qh9 vs.toArray) Q' E' s)/\
  Cm prog w A s qh8 OI (λp=>[bX p.1]) (λp=>∃ n t,p.1=.int n t):=by
 refine⟨λB Q' E' j=>?_,λx y ⟨n,t,b⟩ ⟨m,u,c⟩ Q E h=>?_⟩
 ·match vs,B,t with
  |v1::M::r,_,t=>rw[keyKind_ints t];exact qan j
 ·rw[keyLt'_oneType,b,c]
  refine oneLt_int ?_;have e:OI.blt [bX x.1] [bX y.1]=decide (n<m):=by
   rw[b,c];show (if n=m then bq [] [] else decide (n<m))=_;by_cases q:n=m
   ·subst q;simp[bq]
   ·rw[if_neg q]
  rw[e]at h;exact h
end
def u8 (x:List Int):List (List Int)->List (List Int)
 |[]=>[x]
 |y::a=>if bq y x=true then y::u8 x a else x::y::a
def av:List (List Int)->List (List Int)
 |[]=>[]
 |x::xs=>u8 x (av xs)
def lw (x:List Int):∀ a,(u8 x a).Perm (x::a)
 |[]=>qdc _
 |y::a=>by
  unfold u8;split
  ·exact (List.Perm.cons y (lw x a)).trans (List.Perm.swap x y a)
  ·exact qdc _
def aR:∀ xs,(av xs).Perm xs
 |[]=>qdc _
 |x::xs=>(lw x _).trans (List.Perm.cons x (aR xs))
def leL (a b:List Int):Prop:=bq b a=false
def wB {a b c:List Int} (h:leL a b) (h':leL b c):leL a c:=qdz (O:=OI) h h'
def zB {a b:List Int} (h:leL a b) (h':leL b a):a=b:=iN a b h' h
def lY (x:List Int):∀ {c:List (List Int)},c.Pairwise leL->(u8 x c).Pairwise leL
 |[],_=>by simp[u8]
 |y::c,h=>by
  unfold u8;split
  ·rename_i a
   refine qbi.mpr ⟨λz b=>?_,lY x (qbi.mp h).2⟩;rcases qaH.mp ((lw x c).mem_iff.mp b) with rfl|b
   ·exact KeyOrd.klt_asymm (O:=OI) a
   ·exact (qbi.mp h).1 z b
  ·rename_i a
   rw[qeh]at a;refine qbi.mpr ⟨λz b=>?_,h⟩;rcases qaH.mp b with rfl|b
   ·exact a
   ·exact wB a ((qbi.mp h).1 z b)
def dz:∀ xs,(av xs).Pairwise leL
 |[]=>List.Pairwise.nil
 |x::xs=>lY x (dz xs)
def kD {xs e:List (List Int)} (p:xs.Perm e) (d:xs.Pairwise leL) (c:e.Pairwise leL):xs=e:=
 qfs (λa b _ _ d c=>zB d c) d c p
def eP:List D->Option (List (List Int))
 |[]=>some []
 |.tup l::ds=>(aW l).bind λns=>(eP ds).map λr=>ns::r
 |_=>none
def aj (l:List Int):D:=.tup (l.map D.int)
def fq:∀ {ds:List D}{ls:List (List Int)},eP ds=some ls->ds=ls.map aj
 |[],_,h=>by cases h;rfl
 |.tup l::ds,_,h=>by
  simp only[eP,qac,qad]at h;obtain⟨ns,a,r,b,rfl⟩:=h;rw[fq b,bT a];rfl
 |.non::_,_,h=>by cases h
 |.bl _::_,_,h=>by cases h
 |.int _::_,_,h=>by cases h
 |.str _::_,_,h=>by cases h
 |.ty _::_,_,h=>by cases h
 |.dct::_,_,h=>by cases h
 |.scr _::_,_,h=>by cases h
 |.lst _::_,_,h=>by cases h
def gv:∀ (ls:List (List Int)),eP (ls.map aj)=some ls
 |[]=>rfl
 |l::ls=>by
  have:aW (l.map D.int)=some l:=by
   induction l with
   |nil=>rfl
   |cons a l b=>simp[aW,b]
  simp only[qaq,aj,eP,this,qaa];rw[show qfG aj ls=qfG aj ls from rfl,gv ls];rfl
def vL (ds:List D):Option (List D):=match aW ds with
 |some ns=>some ((nE ns).map D.int)
 |none=>(eP ds).map λls=>(av ls).map aj
def qR (st:Sto):List W->Option (List D)
 |[w]=>(lsD st w).bind λds=>if ds.length<64 then vL ds else none
 |_=>none
section
variable {K:qae}{X:Cx}{f:List (Addr×Obj)}{N:St}{H:Hp}{s:qak}{φ:List Addr}
def toV:Value->V
 |.ref a=>.ref a
 |_=>.non
def Bc {l:List Int}{v:V}{u:Value} (I:Inv X f N H s) (r:Rl X.K H φ (aj l) v) (q:aQ v u):TuI s.heap u l/\v=toV u/\aQ (toV u) u:=by
 obtain⟨a,vs,rfl,C,A⟩:=r;obtain⟨its,R,p,_⟩:=I.tuple (SqT.of C);have e:=A.ints;subst e;have e:u=.ref a:=q;subst e;exact⟨⟨a,its.toArray,rfl,p,by simpa using eE R⟩,rfl,rfl⟩
def kC (I:Inv X f N H s):∀ {ls:List (List Int)}{vs:List V}{c:List Value},Rls X.K H φ (ls.map aj) vs->aI vs c->
  c.map (tuI s.heap)=ls/\∀ u∈c,TuI s.heap u (tuI s.heap u)/\Rl X.K H φ (aj (tuI s.heap u)) (toV u)/\aQ (toV u) u
 |[],_,c,h,q=>by cases h;cases q;exact⟨rfl,λu j=>by cases j⟩
 |l::ls,_,c,h,q=>by
  obtain⟨v,r,rfl,C,A⟩:=h;cases q with
  |cons q1 q2=>
   rename_i u c;obtain⟨t,e,e'⟩:=Bc I C q1;obtain⟨i1,i2⟩:=kC I A q2;refine⟨by rw[qaq,i1,t.is],λx i=>?_⟩;rcases qaH.mp i with rfl|i
   ·rw[t.is,<-e];exact⟨t,C,q1⟩
   ·exact i2 x i
def nY:∀ {c:List Value},(∀ u∈c,TuI s.heap u (tuI s.heap u)/\Rl K H φ (aj (tuI s.heap u)) (toV u)/\aQ (toV u) u)->Rls K H φ (c.map λu=>aj (tuI s.heap u)) (c.map toV)/\aI (c.map toV) c
 |[],_=>⟨rfl,.nil⟩
 |u::c,h=>by
  have C:=h u qaf;have A:=nY λx i=>h x (qal _ i);exact⟨⟨_,_,rfl,C.2.1,A.1⟩,.cons C.2.2 A.2⟩
def ou:∀ {c:List Value}{l:List Int},qcm c l->∀ u∈c,∃ n t,u=.int n t
 |_,_,.nil,u,j=>by cases j
 |_,_,.cons n t h,u,j=>by
  rcases qaH.mp j with rfl|j
  ·exact⟨n,t,rfl⟩
  ·exact ou h u j
def pO:∀ {c:List Value},(∀ u∈c,∃ n t,u=.int n t)->qcm c (c.map bX)
 |[],_=>.nil
 |u::c,h=>by
  obtain⟨n,t,rfl⟩:=h u qaf;exact .cons n t (pO λx i=>h x (qal _ i))
def zf {k:Nat} (hr:bC k X.A) (hK:X.K=K:=by rfl):rK K X (.builtin "sorted") qR:=by
 subst hK;refine⟨λst ws d h=>?_⟩
 match ws,h with
 |[w],h=>
  simp only[qR,qac]at h;obtain⟨ds,e1,h⟩:=h;split at h
  ·rename_i hl
   intro f s N H xs c Q I R q;obtain⟨φ,S,⟨v,r,rfl,r1,rfl⟩,q⟩:=q;obtain⟨a,vs,rfl,C,A⟩:=ug S r1 e1;obtain⟨u,rfl,ru⟩:=kE R;cases ru;obtain⟨its,D,pl,hz⟩:=I.list (.inl C);have g:its.length<64:=by
    have:=D.length
    have:=A.length
    lia
   have hun:X.A.in1.in1.units<cLine:=by
    have:=hr.un
    show X.A.units+1+1<cLine;lia
   have hn:H (s.heap.objs.size+1)=none:=I.hok.fresh (qc3 _);have G:∀ (out:List Value) (B:List V),aI B out->out.length<64->Inv X f N (upd H (s.heap.objs.size+1) (.lst B)) { s with heap:=qjL s.heap its out.toArray }:=λout B z L=>by
    obtain⟨ep,he⟩:=sortedAll_at s.heap its out.toArray;refine I.laid (t':=s.toks) (a:=s.heap.objs.size+1) (o:=.lst B) (λb o q=>sortedAll_old q) (qc3 _) ⟨?_,out,ep,z,by simpa [qcS] using he⟩;rw[z.length];exact kS (by lia)
   unfold vL at h;cases hi:aW ds with
   |some ns=>
    rw[hi]at h;cases h;cases bT hi;cases A.ints;have M:=eE D;refine oG (O:=OI) (rk:=λp=>[bX p.1]) (S:=λp=>∃ n t,p.1=.int n t) pl.isList g (λh' _=>⟨qh8,yC (s:={ s with heap:=h' }) M⟩) (λv z=>ou M v z) λout a1 a2=>?_;have L:∀ u∈out,∃ n t,u=.int n t:=λu j=>ou M u (a1.mem_iff.mp j);have Y:(out.map bX).Perm ns:=by
     have:=a1.map bX
     rw[oB M]at this;exact this
    have W:(out.map bX).Pairwise (·<=·):=by
     rw[qdn];refine a2.imp λ{x y} q=>?_;have q':bq [bX y] [bX x]=false:=q;by_cases e:bX y=bX x
     ·lia
     ·have:bq [bX y] [bX x]=decide (bX y<bX x):=by show (if _ then _ else _)=_;rw[if_neg e]
      rw[this,decide_eq_false_iff_not]at q';lia
    have e:out.map bX=nE ns:=tm (Y.trans (lX ns).symm) W (jD ns);have z:=kW (pO L);rw[e]at z;exact⟨.ref _,_,G out _ z (by rw[a1.length_eq];exact g),rfl,q _ _ H (aS.refl H) hn (Rls.of_ints _)⟩
   |none=>
    rw[hi]at h;obtain⟨ls,hls,rfl⟩:=qad.mp h;cases fq hls;obtain⟨m1,m2⟩:=kC I A D;refine oG (O:=OI) (rk:=λp=>tuI s.heap p.1) (S:=λp=>∃ l,TuI s.heap p.1 l) pl.isList g (λh' J=>?_) (λv z=>⟨_,(m2 v z).1⟩) λout a1 a2=>?_
    ·obtain⟨κ,k1,k2⟩:=rV (prog:=X.prog) (w:=X.w) (s:={ s with heap:=h' }) (vs:=its) (λv z=>⟨_,(m2 v z).1.fit J⟩) hun
     refine⟨κ,k1,λx y ⟨l,i⟩ ⟨m,T⟩ Q E hq=>k2 x y ⟨l,i.fit J⟩ ⟨m,T.fit J⟩ Q E ?_⟩;have P:=i.fit J;have hy':=T.fit J;have F:Q (bq (tuI s.heap x.1) (tuI s.heap y.1)) { s with heap:=h' }:=hq;show Q (bq (tuI h' x.1) (tuI h' y.1)) { s with heap:=h' };rw[P.is,hy'.is];rw[i.is,T.is]at F;exact F
    ·have L:=λu j=>m2 u (a1.mem_iff.mp j)
     obtain⟨b1,b2⟩:=nY (K:=X.K) (H:=H) (φ:=φ) L;have Y:(out.map (tuI s.heap)).Perm ls:=by
      have:=a1.map (tuI s.heap)
      rw[m1]at this;exact this
     have W:(out.map (tuI s.heap)).Pairwise leL:=by
      rw[qdn];exact a2.imp λ{x y} q=>q
     have e:out.map (tuI s.heap)=av ls:=kD (Y.trans (aR ls).symm) W (dz ls);have e2:(out.map λu=>aj (tuI s.heap u))=(av ls).map aj:=by rw[<-e,qaR];rfl
     rw[e2]at b1;exact⟨.ref _,_,G out _ b2 (by rw[a1.length_eq];exact g),rfl,q _ _ H (aS.refl H) hn b1⟩
  ·cases h
end
end L2
namespace L2
open PySem PySem.Spec PyProof.Rows
def mD (st:Sto) (x y:W):Option D:=match x with
 |.d x=>(eP [x]).bind λa=>(cx st y).bind λds=>(eP ds).map λls=>.bl (!decide (a.headD []∈ls))
 |_=>none
def ji:∀ a b:List Int,dN (a.map D.int) (b.map D.int)=decide (a=b)
 |[],[]=>rfl
 |[],_::_=>rfl
 |_::_,[]=>rfl
 |x::a,y::b=>by
  show (x==y&&dN (a.map D.int) (b.map D.int))=_;rw[ji a b,qb4];simp
def wY (a b:List Int):eqD (aj a) (aj b)=decide (a=b):=ji a b
def vE {α:Type} (f:α->List Int) (l:List Int):∀ a:List α,a.any (λu=>decide (f u=l))=decide (l∈a.map f)
 |[]=>by rw[List.any_nil,decide_eq_false (λh=>nomatch h)]
 |u::a=>by
  rw[qbZ,vE f l a,qaq];by_cases h:f u=l
  ·rw[decide_eq_true h,qiI,decide_eq_true (by rw[h];exact qaf)]
  ·rw[decide_eq_false h,qim]
   by_cases b:l∈a.map f
   ·rw[decide_eq_true b,decide_eq_true (qal _ b)]
   ·rw[decide_eq_false b,decide_eq_false λq=>by
     rcases qaH.mp q with q|q
     ·exact h q.symm
     ·exact b q]
def pN (l:List Int):okD 60 (aj l)=true:=by
 show (l.map D.int).all (okD 59)=true;rw[qba];intro d hd;obtain⟨i,_,rfl⟩:=qaX.mp hd;rfl
section
variable {K:qae}{X:Cx}
def zS {c:List (Addr×Obj)}{t:St}{H:Hp}{s:qak}{φ:List Addr}{k:Nat} (i:bC k X.A) (I:Inv X c t H s) {l:List Int}{ls:List (List Int)}{x:V}{v:Value}{xs:List V}{m:List Value} (g:Rl X.K H φ (aj l) x) (C:aQ x v) (o:Rls X.K H φ (ls.map aj) xs) (D:aI xs m) :
  (∀ u∈m,qdh X.A.in1 s u v (decide (tuI s.heap u=l)))/\m.any (λu=>decide (tuI s.heap u=l))=decide (l∈ls):=by
 obtain⟨e,h⟩:=kC I o D;refine⟨λu A=>?_,?_⟩
 ·obtain⟨_,a,b⟩:=h u A
  rw[<-wY];exact yt I 60 a g b C (pN _) (pN _) (by have:=i.units;show X.A.units+1+60<cLine;lia)
 ·rw[<-e]
  exact vE _ _ _
def xj {k:Nat} (i:bC k X.A) (G:X.K=K:=by rfl):OpD K X (qbE .NotIn) mD:=by
 subst G;refine⟨λst x y d h=>?_⟩
 match x,h with
 |.d x,h=>
  simp only[mD,qac,qad]at h;obtain⟨J,z,ds,B,ls,F,rfl⟩:=h;intro c s t H M L v u Q I r E q;obtain⟨φ,S,g,o,q⟩:=q;obtain⟨a,vs,rfl,f,n⟩:=jh S o B;cases E;have ex:=fq z
  match J,ex with
  |[l],ex=>
   cases ex;rw[fq F]at n;rcases f with f|f
   ·obtain⟨its,j,p,_⟩:=I.list f
    obtain⟨g1,g2⟩:=zS i I g r n j;refine SeqAt.notIn_listAt _ p.isList (λw hw=>g1 w (by simpa using hw)) ⟨.bl _,H,I,rfl,q _ H (aS.refl H) ?_⟩;rw[show its.toArray.any (λu=>decide (tuI s.heap u=l))=its.any (λu=>decide (tuI s.heap u=l)) by simp,g2];rfl
   ·obtain⟨its,j,p,_⟩:=I.tuple f
    obtain⟨g1,g2⟩:=zS i I g r n j;refine SeqAt.notIn_tupleAt _ p (λw hw=>g1 w (by simpa using hw)) ⟨.bl _,H,I,rfl,q _ H (aS.refl H) ?_⟩;rw[show its.toArray.any (λu=>decide (tuI s.heap u=l))=its.any (λu=>decide (tuI s.heap u=l)) by simp,g2];rfl
end
end L2
namespace L2
open PySem PySem.Spec PyProof.Rows
open PySem.AutoSeq1 (wpAny_loadPart')
def SIt (k:Bool) (h:Heap) (it l:Addr) (i:Nat):Prop:=match k with
 |true=>h.IsTupleIter it l i
 |false=>h.IsListIter it l i
def SIs (k:Bool) (h:Heap) (l:Addr) (xs:Array Value):Prop:=match k with
 |true=>h.IsTuple l xs
 |false=>h.IsList l xs
def SIt.to {k:Bool}{h h':Heap}{it l:Addr}{i:Nat} (a:SIt k h it l i) (f:∀ o,h.get? it=some o->h'.get? it=some o):SIt k h' it l i:=by
 cases k with
 |true=>exact Heap.IsTupleIter.at a f
 |false=>exact Heap.IsListIter.at a f
def SIs.to {k:Bool}{h h':Heap}{l:Addr}{xs:Array Value} (a:SIs k h l xs) (f:∀ o,h.get? l=some o->h'.get? l=some o):SIs k h' l xs:=by
 cases k with
 |true=>obtain⟨o,e,r⟩:=a;exact⟨o,f o e,r⟩
 |false=>exact Heap.IsList.at a f
def SIt.live {k:Bool}{h:Heap}{it l:Addr}{i:Nat} (a:SIt k h it l i):∃ o vs,h.get? it=some o/\o.data=.fields vs:=by
 cases k with
 |true=>obtain⟨o,e,_,d⟩:=a;exact⟨o,_,e,d⟩
 |false=>obtain⟨o,e,_,d⟩:=a;exact⟨o,_,e,d⟩
section
variable {prog:qaQ}{w:World}{A:qa2}{E:Value->qak->Prop}{s:qak}{k k2:Bool}
def qZ {it l:Addr}{i:Nat}{xs:Array Value}{x:Value}{Q:Value->qak->Prop} (B:SIt k s.heap it l i) (hl:SIs k s.heap l xs) (u:xs[i]?=some x)
  (S:∀ h',SIt k h' it l (i+1)->qc6 it s.heap h'->Q x { s with heap:=h' }):wpAny (model prog w) A (qbe (.ref it)) Q E s:=by
 cases k with
 |true=>exact fD B hl u S
 |false=>exact wpAny_nextOf_list_item B hl u S
def x6 {it l:Addr}{i:Nat}{xs:Array Value}{Q:Value->qak->Prop} (V:A.handled=none) (B:SIt k s.heap it l i) (hl:SIs k s.heap l xs) (u:xs[i]?=none)
  (hE:∀ h' e,qg3 it s.heap h'->(∃ o,h'.get? e=some o/\o.cls=.type "StopIteration")->E (.ref e) { s with heap:=h' }):wpAny (model prog w) A (qbe (.ref it)) Q E s:=by
 cases k with
 |true=>exact fZ V B hl u hE
 |false=>exact wpAny_nextOf_list_end V B hl u hE
variable {z TI TO i1 i2 l1 l2:Addr}{n:Nat}{xs ys:Array Value}{a b:Value}
structure ZSt (k k2:Bool) (z TI TO i1 i2 l1 l2:Addr) (f0:Value) (n:Nat) (h:Heap):Prop where
 z:IsZip h z TI TO f0
 ti:qgt h TI (.ref i1) (.ref i2)
 to:∃ a b,qgt h TO a b
 t1:SIt k h i1 l1 n
 t2:SIt k2 h i2 l2 n
set_option maxHeartbeats 1000000 in
def ye {x y:Value}{Q:Option Value->qak->Prop} (D:ZipApart z TI TO i1 i2 l1 l2) (hs:ZSt k k2 z TI TO i1 i2 l1 l2 .none n s.heap) (G:SIs k s.heap l1 xs) (L:SIs k2 s.heap l2 ys) (u:xs[n]?=some x) (hy:ys[n]?=some y)
  (S:∀ h',ZSt k k2 z TI TO i1 i2 l1 l2 (qeS s.heap.objs.size) (n+1) h'->qgt h' s.heap.objs.size x y->h'.objs.size=s.heap.objs.size+1->
    (∀ c o,c≠z->c≠TO->c≠i1->c≠i2->s.heap.get? c=some o->h'.get? c=some o)->Q (some (.ref s.heap.objs.size)) { s with heap:=h' }) :
  wpAny (model prog w) A (qfC (.ref z)) Q E s:=by
 obtain⟨r,H,⟨a,b,R⟩,h1,h2⟩:=hs;have hT:s.TypeIs (.ref z) "zip":=⟨_,r,rfl⟩
 unfold qfC;refine qab (qeu (qbG (name:=qc7 "__next__") hT qeI (qbN qeI hT qik ?_ (qh4 _))))
 show wpAny _ _ (field (.ref z) 2 >>= _) _ _ _;refine qab (qb5 r rfl (x:=.bool false) rfl ?_);show wpAny _ _ (field (.ref z) 3 >>= _) _ _ _;refine qab (qb5 r rfl (x:=.ref TI) rfl (qab (qcJ H rfl ?_)));show wpAny _ _ (qb0 (.ref z) >>= _) _ _ _;refine qab ?_;unfold qb0;refine qab (qb5 r rfl (x:=.none) rfl (qan ?_));simp only[if_true];refine qab (qde (qab (qb5 r rfl (x:=.ref TO) rfl ?_)));refine qab (qcO r (by simp) λg1 d s1=>?_);replace d:IsZip g1 z TI TO .ellipsis:=d;refine qab ?_;simp only[qhD,qhP,qfM,qeH];have g:=s1.extBut;refine qab (qab (qfy ?_));show wpAny _ _ (qbe (.ref i1) >>= _) _ _ _;refine qab (qZ (h1.to λo q=>g _ o D.i1z q) (G.to λo q=>g _ o D.l1z q) u λg2 h12 P=>qan ?_);have v:=P.extBut;have f:qgt g2 TO a b:=v _ _ D.TOi1 (g _ _ D.TOz R);refine qab (qcJ f rfl (qab (qe4 f λg3 p M=>?_)));replace p:qgt g3 TO x b:=p;have C:=M.extBut;refine qab (qhR (qan ?_));refine qab (qab (qfy ?_));show wpAny _ _ (qbe (.ref i2) >>= _) _ _ _;refine qab (qZ (h2.to λo q=>C _ o D.TOi2.symm (v _ o D.i12.symm (g _ o D.i2z q))) (L.to λo q=>C _ o D.l2TO (v _ o D.l2i1 (g _ o D.l2z q))) hy λg4 h24 X=>qan ?_);have e4:=X.extBut;have I:qgt g4 TO x b:=e4 _ _ D.TOi2 p;refine qab (qcJ I rfl (qab (qe4 I λg5 m W=>?_)));replace m:qgt g5 TO x y:=m;have e5:=W.extBut;refine qab (qhR (qan (qan ?_)));refine qab (qcJ m rfl (qab (qjY ?_)));have hsz:g5.objs.size=s.heap.objs.size:=by rw[W.1,X.1,M.1,P.1,s1.1]
 have Y:IsZip g5 z TI TO .ellipsis:=e5 _ _ D.TOz.symm (e4 _ _ D.i2z.symm (C _ _ D.TOz.symm (v _ _ D.i1z.symm d)));have kp:∀ c o,c≠z->c≠TO->c≠i1->c≠i2->s.heap.get? c=some o->g5.get? c=some o:=λc o c1 c2 K c4 e=>e5 _ _ c2 (e4 _ _ c4 (C _ _ c2 (v _ _ K (g _ _ c1 e))));have h15:SIt k g5 i1 l1 (n+1):=h12.to λo q=>e5 _ o D.TOi1.symm (e4 _ o D.i12 (C _ o D.TOi1.symm q));have h25:SIt k2 g5 i2 l2 (n+1):=h24.to λo q=>e5 _ o D.TOi2.symm q;have J:z<g5.objs.size:=qax Y;show wpAny _ _ (qdN (.ref z) (.ref g5.objs.size) >>= _) _ _ _;refine qab ?_;unfold qdN;have hz6:IsZip (g5.push { cls:=.type "tuple",data:=.seq #[x,y] }) z TI TO .ellipsis:=qaj _ Y
 refine qab (qcO hz6 (by simp) λg7 N s7=>?_);replace N:IsZip g7 z TI TO (qeS g5.objs.size):=N;refine qcO N (by simp) λg8 F s8=>?_;replace F:IsZip g8 z TI TO (qeS g5.objs.size):=F;have up:∀ c o,c≠z->g5.get? c=some o->g8.get? c=some o:=λc o c1 e=>s8.extBut _ _ c1 (s7.extBut _ _ c1 (qaj _ e));have hT8:qgt g8 g5.objs.size x y:=s8.extBut _ _ (qcc J) (s7.extBut _ _ (qcc J) (qav _ rfl));have hz9:g8.objs.size=g5.objs.size+1:=by rw[s8.1,s7.1,qbq]
 rw[hsz]at F hT8 hz9;refine qan ⟨_,rfl,qan ?_⟩;show Q (some (.ref g5.objs.size)) _;rw[hsz];exact S g8 ⟨F,up _ _ D.TIz (kp _ _ D.TIz D.TITO D.TIi1 D.TIi2 H),⟨_,_,up _ _ D.TOz m⟩,h15.to λo q=>up _ o D.i1z q,h25.to λo q=>up _ o D.i2z q⟩ hT8 hz9 λc o c1 c2 K c4 e=>up c o c1 (kp c o c1 c2 K c4 e)
set_option maxHeartbeats 1000000 in
def AU {Q:Option Value->qak->Prop} (V:A.in1.handled=none) (D:ZipApart z TI TO i1 i2 l1 l2) (hs:ZSt k k2 z TI TO i1 i2 l1 l2 .none n s.heap) (G:SIs k s.heap l1 xs) (L:SIs k2 s.heap l2 ys) (hend:xs[n]?=none\/ys[n]?=none)
  (S:∀ h',(∀ c o,c≠z->c≠TO->c≠i1->c≠i2->s.heap.get? c=some o->h'.get? c=some o)->Q none { s with heap:=h' }):wpAny (model prog w) A (qfC (.ref z)) Q E s:=by
 obtain⟨r,H,⟨a,b,R⟩,h1,h2⟩:=hs;have hT:s.TypeIs (.ref z) "zip":=⟨_,r,rfl⟩
 have fin:∀ (h':Heap) (e:Addr),(∀ c o,c≠z->c≠TO->c≠i1->c≠i2->s.heap.get? c=some o->h'.get? c=some o)->(∃ o,h'.get? e=some o/\o.cls=.type "StopIteration")->
   wpAny (model prog w) A (do if (<-isInstance (.ref e) (.type "StopIteration")) then pure none else throw (.ref e)) Q E { s with heap:=h' }:=λh' e hk ⟨o,ho,hc⟩=>
  qab (qiK (T:="StopIteration") (b:=true) ⟨o,ho,hc⟩ qj4 (qan (S _ hk)))
 unfold qfC;refine qab (qeu (qbG (name:=qc7 "__next__") hT qeI (qbN qeI hT qik ?_ (qh4 _))))
 show wpAny _ _ (field (.ref z) 2 >>= _) _ _ _;refine qab (qb5 r rfl (x:=.bool false) rfl ?_);show wpAny _ _ (field (.ref z) 3 >>= _) _ _ _;refine qab (qb5 r rfl (x:=.ref TI) rfl (qab (qcJ H rfl ?_)));show wpAny _ _ (qb0 (.ref z) >>= _) _ _ _;refine qab ?_;unfold qb0;refine qab (qb5 r rfl (x:=.none) rfl (qan ?_));simp only[if_true];refine qab (qde (qab (qb5 r rfl (x:=.ref TO) rfl ?_)));refine qab (qcO r (by simp) λg1 d s1=>?_);replace d:IsZip g1 z TI TO .ellipsis:=d;refine qab ?_;simp only[qhD,qhP,qfM,qeH];have g:=s1.extBut;refine qab (qab (qfy ?_));show wpAny _ _ (qbe (.ref i1) >>= _) _ _ _;cases u:xs[n]? with
 |none=>
  refine qab (x6 V (h1.to λo q=>g _ o D.i1z q) (G.to λo q=>g _ o D.l1z q) u λg2 e P he=>?_);obtain⟨oe,j,t⟩:=he;have hz2:IsZip g2 z TI TO .ellipsis:=P _ _ D.i1z.symm d;have O:e≠z:=λx=>by subst x;rw[hz2]at j;cases j;simp at t
  exact qcO hz2 (by simp) λg3 _ M=>fin g3 e (λc o c1 _ K _ x=>M.extBut _ _ c1 (P _ _ K (g _ _ c1 x))) ⟨oe,M.extBut _ _ O j,t⟩
 |some x=>
  have hy:ys[n]?=none:=by rcases hend with h|h;rw[u]at h;cases h;exact h
  refine qab (qZ (h1.to λo q=>g _ o D.i1z q) (G.to λo q=>g _ o D.l1z q) u λg2 h12 P=>qan ?_);have v:=P.extBut;have f:qgt g2 TO a b:=v _ _ D.TOi1 (g _ _ D.TOz R);refine qab (qcJ f rfl (qab (qe4 f λg3 p M=>?_)));have C:=M.extBut;refine qab (qhR (qan ?_));refine qab (qab (qfy ?_));show wpAny _ _ (qbe (.ref i2) >>= _) _ _ _;refine qab (x6 V (h2.to λo q=>C _ o D.TOi2.symm (v _ o D.i12.symm (g _ o D.i2z q))) (L.to λo q=>C _ o D.l2TO (v _ o D.l2i1 (g _ o D.l2z q))) hy λg4 e X he=>?_);obtain⟨oe,j,t⟩:=he;have hz4:IsZip g4 z TI TO .ellipsis:=X _ _ D.i2z.symm (C _ _ D.TOz.symm (v _ _ D.i1z.symm d));have O:e≠z:=λx=>by subst x;rw[hz4]at j;cases j;simp at t
  exact qcO hz4 (by simp) λg5 _ W=>fin g5 e (λc o c1 c2 K c4 x=>W.extBut _ _ c1 (X _ _ c4 (C _ _ c2 (v _ _ K (g _ _ c1 x))))) ⟨oe,W.extBut _ _ O j,t⟩
end
def E6 (k:Bool):Value:=if k=true then .type "tuple_iterator" else .type "list_iterator"
def oo (k:Bool) (l:Addr):Obj:={ cls:=E6 k,data:=.fields #[.ref l,.int 0 0] }
abbrev zH1 (k:Bool) (h:Heap) (a:Addr):Heap:=h.push (oo k a)
abbrev zH2 (k k2:Bool) (h:Heap) (a b:Addr):Heap:=(zH1 k h a).push (oo k2 b)
abbrev zH3 (k k2:Bool) (h:Heap) (a b:Addr):Heap:=(zH2 k k2 h a b).push { cls:=.type "tuple",data:=.seq #[.ref h.objs.size,.ref (zH1 k h a).objs.size] }
abbrev zH4 (k k2:Bool) (h:Heap) (a b:Addr):Heap:=(zH3 k k2 h a b).push { cls:=.type "tuple",data:=.seq #[.none,.none] }
abbrev zH5 (k k2:Bool) (h:Heap) (a b:Addr):Heap:=(zH4 k k2 h a b).push { cls:=.type "zip",data:=.fields #[.none,.bool false,.bool false,.ref (zH2 k k2 h a b).objs.size,.ref (zH3 k k2 h a b).objs.size] }
section
variable {prog:qaQ}{w:World}{A:qa2}{E:Value->qak->Prop}{s:qak}{k k2:Bool}
def sO {l:Addr}{xs:Array Value}{Q:Value->qak->Prop} (u:SIs k s.heap l xs) (h:Q (.ref s.heap.objs.size) { s with heap:=s.heap.push (oo k l) }):wpAny (model prog w) A (qjN (.ref l)) Q E s:=by
 cases k with
 |true=>exact qdr u h
 |false=>exact qek u h
def oR (a b:Addr) (xs j:Array Value) (k k2:Bool) :
  Meets (qeg.«zip.__new__» ⟨[.type "zip",.ref a,.ref b],[]⟩) (λ_ R s=>SIs k s.heap a xs/\SIs k2 s.heap b j/\R (.ok (.ret (.ref (zH4 k k2 s.heap a b).objs.size))) { s with heap:=zH5 k k2 s.heap a b }):=
 .of_wp λprog w A R s h=>by
  obtain⟨v,g,d,B,os⟩:=s;obtain⟨i,f,h⟩:=h;have y:=sub_zip;have n:SIs k (qgw ⟨v,g,d,B,os⟩) a xs:=i;have p:SIs k2 (qgw ⟨v.push (oo k a),g,d,B,os⟩) b j:=f.to λo q=>qaj _ q
  wp_walk using sO n,sO p
  exact⟨_,rfl,h⟩
def sJ (k:Bool) {h:Heap}{it l:Addr} (e:h.get? it=some (oo k l)):SIt k h it l 0:=by
 cases k with
 |true=>exact⟨_,e,rfl,rfl⟩
 |false=>exact⟨_,e,rfl,rfl⟩
def qL {a b:Addr}{xs j:Array Value}{Q:Value->qak->Prop} (i:SIs k s.heap a xs) (f:SIs k2 s.heap b j)
  (h:∀ h',ZSt k k2 (s.heap.objs.size+4) (s.heap.objs.size+2) (s.heap.objs.size+3) s.heap.objs.size (s.heap.objs.size+1) a b .none 0 h'->
    (∀ c o,s.heap.get? c=some o->h'.get? c=some o)->Q (.ref (s.heap.objs.size+4)) { s with heap:=h' }) :
  wpAny (model prog w) A (call (.type "zip") [.ref a,.ref b]) Q E s:=by
 refine callType_new F.called_zip (by decide) (F.typeCall_zip_2 _ _) (F.newCall_zip_2 _ _) (λobj=>F.args_object_init_3 obj _ _) F.entry_zip_new (oR a b xs j k k2) ⟨i,f,?_⟩;have r:(zH1 k s.heap a).objs.size=s.heap.objs.size+1:=qbq ..;have t:(zH2 k k2 s.heap a b).objs.size=s.heap.objs.size+2:=by rw[qbq,r]
 have m:(zH3 k k2 s.heap a b).objs.size=s.heap.objs.size+3:=by rw[qbq,t]
 have z:(zH4 k k2 s.heap a b).objs.size=s.heap.objs.size+4:=by rw[qbq,m]
 have up:∀ {h:Heap}{C:Obj}{c:Addr}{o:Obj},h.get? c=some o->(h.push C).get? c=some o:=λe=>qaj _ e;have g5:(zH5 k k2 s.heap a b).get? (zH4 k k2 s.heap a b).objs.size=some _:=qav _ rfl;have g4:(zH5 k k2 s.heap a b).get? (zH3 k k2 s.heap a b).objs.size=some _:=up (qav _ rfl);have g3:(zH5 k k2 s.heap a b).get? (zH2 k k2 s.heap a b).objs.size=some _:=up (up (qav _ rfl));have g2:(zH5 k k2 s.heap a b).get? (zH1 k s.heap a).objs.size=some (oo k2 b):=up (up (up (qav _ rfl)));have g1:(zH5 k k2 s.heap a b).get? s.heap.objs.size=some (oo k a):=up (up (up (up (qav _ rfl))));show _/\_;rw[t,m,z]at g5;rw[r,t]at g3;rw[m]at g4;rw[r]at g2;rw[z];exact⟨⟨_,g5,rfl⟩,h _ ⟨g5,g3,⟨_,_,g4⟩,sJ k g1,sJ k2 g2⟩ λc o x=>up (up (up (up (up x))))⟩
end
def SqK (k:Bool) (K:qae) (H:Hp) (a:Addr) (xs:List V):Prop:=match k with
 |true=>SqT K H a xs
 |false=>SqL K H a xs
def Itz (S1 S2:Hp->List V->Prop):It:=
 ⟨λi H=>∃ xs a x y,S1 H xs/\S2 H a/\xs[i]?=some x/\a[i]?=some y,λi H x H'=>∃ T v u,(∀ xs,S1 H xs->xs[i]?=some v)/\(∀ a,S2 H a->a[i]?=some u)/\H T=none/\x=.ref T/\H'=upd H T (.tup [v,u]),
  λi H=>∃ xs a,S1 H xs/\S2 H a/\(xs[i]?=none\/a[i]?=none)⟩
def Inv.seqK {X:Cx}{b:List (Addr×Obj)}{c:St}{H:Hp}{s:qak}{k:Bool}{a:Addr}{xs:List V} (I:Inv X b c H s) (h:SqK k X.K H a xs):∃ its:List Value,aI xs its/\SIs k s.heap a its.toArray:=by
 cases k with
 |true=>obtain⟨its,r,p,_⟩:=I.tuple h;exact⟨its,r,p⟩
 |false=>obtain⟨its,r,p,_⟩:=I.list h;exact⟨its,r,p.isList⟩
def Inv.seqK_inj {X:Cx}{b:List (Addr×Obj)}{d:St}{H:Hp}{s:qak}{k:Bool}{a:Addr}{xs c:List V} (I:Inv X b d H s) (h:SqK k X.K H a xs) (h':SqK k X.K H a c):xs=c:=by
 cases k with
 |true=>exact I.tuple_inj h h'
 |false=>exact I.list_inj h h'
def xU {P:qaQ}{w:World}{K:qae}{t:List Expr}{kk:Nat}{pos:Pos}{k k2:Bool}{z TI TO l p F O:Addr} (D:ZipApart z TI TO l p F O) :
  uY P w K (.Tuple t kk pos) (Itz (λH xs=>SqK k K H F xs) λH xs=>SqK k2 K H O xs) [z,TI,TO,l,p] z (λi h=>ZSt k k2 z TI TO l p F O .none i h) where
 mem:=by simp
 obj:=λi h st b hb=>by
  simp only[qaH,qbL,or_false]at hb;rcases hb with rfl|rfl|rfl|rfl|rfl
  ·exact⟨_,st.z,λv z=>by cases z⟩
  ·exact⟨_,st.ti,λv z=>by cases z⟩
  ·obtain⟨a,b,e⟩:=st.to;exact⟨_,e,λv z=>by cases z⟩
  ·obtain⟨o,vs,e,d⟩:=st.t1.live;exact⟨o,e,λv z=>by rw[d]at z;cases z⟩
  ·obtain⟨o,vs,e,d⟩:=st.t2.live;exact⟨o,e,λv z=>by rw[d]at z;cases z⟩
 keep:=λi h h' st kp=>by
  obtain⟨a,b,e⟩:=st.to;exact⟨kp z (by simp) _ st.z,kp TI (by simp) _ st.ti,⟨a,b,kp TO (by simp) _ e⟩,st.t1.to λo q=>kp l (by simp) o q,st.t2.to λo q=>kp p (by simp) o q⟩
 item:=by
  intro X C hw Q T i j s W H E I B st hg;subst C hw Q;obtain⟨xs,ys,x,y,f,g,S,V⟩:=hg;obtain⟨us,n,p1⟩:=I.seqK f;obtain⟨vs,m,R⟩:=I.seqK g;obtain⟨u,hu,ru⟩:=n.get S;obtain⟨v,hv,rv⟩:=m.get V;refine ye D st p1 R (x:=u) (y:=v) (by simpa using hu) (by simpa using hv) λh1 c hT hsz kp=>⟨_,rfl,?_⟩;refine wpAny_letOwnedTupleGo_zip c.z λL J s2=>?_;have r:=s2.extBut;obtain⟨c1,c2,N⟩:=c.to;have Y:∀ b∈[z,TI,TO,l,p],b≠s.heap.objs.size:=λb hb e=>by
   obtain⟨o,ho,_⟩:=(show ∃ o,s.heap.get? b=some o/\True by
    simp only[qaH,qbL,or_false]at hb;obtain⟨a',b',e'⟩:=st.to;obtain⟨o1,_,q1,_⟩:=st.t1.live;obtain⟨o2,_,q2,_⟩:=st.t2.live;rcases hb with rfl|rfl|rfl|rfl|rfl
    ·exact⟨_,st.z,trivial⟩
    ·exact⟨_,st.ti,trivial⟩
    ·exact⟨_,e',trivial⟩
    ·exact⟨_,q1,trivial⟩
    ·exact⟨_,q2,trivial⟩)
   have:=qax ho
   rw[e]at this;exact qa8 _ this
  have G:cW L s.heap.objs.size #[u,v]:=⟨_,r _ _ (qbC (Y z (by simp))) hT,rfl,⟨_,rfl⟩,rfl⟩;refine⟨.ref s.heap.objs.size,upd H s.heap.objs.size (.tup [x,y]),?_,rfl,⟨s.heap.objs.size,x,y,λzs M=>by rw[I.seqK_inj M f];exact S,λzs M=>by rw[I.seqK_inj M g];exact V,I.hok.fresh (qar _),rfl,rfl⟩,?_,λb hb=>?_⟩
  ·have I2:Inv X j W (upd H s.heap.objs.size (.tup [x,y])) { s with heap:=L,toks:=s.toks }:=I.turnsT (fp:=[z,TI,TO,l,p]) (h':=L) (t':=s.toks) (its:=#[u,v]) B (λb o hb q=>by
    simp only[qaH,qbL,or_false,not_or]at hb
    exact r b o hb.1 (kp b o hb.1 hb.2.2.1 hb.2.2.2.1 hb.2.2.2.2 q)) (qar _) G (.cons ru (.cons rv .nil)) (by show 2<=qaO;decide)
   exact I2
  ·exact⟨J,r _ _ D.TIz c.ti,⟨c1,c2,r _ _ D.TOz N⟩,c.t1.to λo q=>r _ o D.i1z q,c.t2.to λo q=>r _ o D.i2z q⟩
  ·rw[upd_ne (Y b hb)];exact (B b hb).1
 done:=by
  intro X C hw Q T i j s W H E I B st hg;subst C hw Q;obtain⟨xs,ys,f,g,A⟩:=hg;obtain⟨us,n,p1⟩:=I.seqK f;obtain⟨vs,m,R⟩:=I.seqK g;have hl1:=n.length;have hl2:=m.length
  refine AU (I.ok.hd T) D st p1 R (by
   rcases A with h|h
   ·left;rw[qcV]at h;simp;lia
   ·right;rw[qcV]at h;simp;lia) λh' kp=>⟨rfl,I.turns (t':=s.toks) (fp:=[z,TI,TO,l,p]) B λb o hb q=>?_⟩
  simp only[qaH,qbL,or_false,not_or]at hb;exact kp b o hb.1 hb.2.2.1 hb.2.2.2.1 hb.2.2.2.2 q
 self:=λ_ _ _ _ _ st h=>qiJ st.z h
def GG (K:qae) (k k2:Bool) (c:TA):L2.TI:=λd H R=>c d H λvs H1=>∃ a b,vs=[.ref a,.ref b]/\(∃ xs,SqK k K H1 a xs)/\(∃ xs,SqK k2 K H1 b xs)/\R (Itz (λH xs=>SqK k K H a xs) λH xs=>SqK k2 K H b xs) H1
def Ck {X:Cx}{f:List Expr}{B:Nat}{d:Pos}{a b:Expr}{v:TA}{p pos:Pos}{k k2:Bool} (hg:Gl X "zip") (hm:X.mg "zip" = none) (J:PA X [a,b] v) (D:qbt [a,b] X.env=[(false,eval a X.env),(false,eval b X.env)]:=by rfl) (c:qbt [b] X.env=[(false,eval b X.env)]:=by rfl) :
  PI X (.Tuple f B d) (.Call (.Name "zip" p) [a,b] [] pos) (GG X.K k k2 v):=by
 intro g s G H R I h;refine Call_ (jT I hg hm boot_zip (qb8 (thn (J pos g s G H _ I h) λn s1 ⟨vs,H1,I1,y,F⟩=>?_) (by rw[D,c]) (by rw[c];rfl)));obtain⟨l,m,e,⟨xs,K⟩,⟨L,t⟩,q⟩:=F;subst e;cases y with
 |cons r u=>
  cases u with
  |cons z u=>
   cases u;cases r;cases z;obtain⟨n,E,p1⟩:=I1.seqK K;obtain⟨vs,A,x⟩:=I1.seqK t;have lt:∀ {k:Bool}{l:Addr}{n:Array Value},SIs k s1.heap l n->l<s1.heap.objs.size:=λ{k l n} w=>by
    cases k with
    |true=>obtain⟨_,o,_⟩:=w;exact qax o
    |false=>obtain⟨_,o,_⟩:=w;exact qax o
   refine qL p1 x λh' j C=>qiJ j.z ?_;refine⟨_,[s1.heap.objs.size+4,s1.heap.objs.size+2,s1.heap.objs.size+3,s1.heap.objs.size,s1.heap.objs.size+1],_,_,H1,rfl,I1.kept (t':=s1.toks) C,xU (zipApart_new (lt p1) (lt x)),j,λb hb=>?_,q⟩;have i:s1.heap.objs.size<=b:=by
    simp only[qaH,qbL,or_false]at hb;rcases hb with rfl|rfl|rfl|rfl|rfl
    ·exact qc2 _ 4
    ·exact qc2 _ 2
    ·exact qc2 _ 3
    ·exact qar _
    ·exact qc2 _ 1
   exact I1.fpOk i (I1.hok.fresh i)
def ja:List D->List D->List D
 |d::ds,e::es=>.tup [d,e]::ja ds es
 |_,_=>[]
def Eg:W->Option (Bool×List D)
 |.d (.tup ds)=>some (true,ds)
 |.d (.lst ds)=>some (false,ds)
 |_=>none
def gf (c:Af):Lf
 |env,st=>(c env st).bind λr=>match r.1 with
  |[x,y]=>(Eg x).bind λa=>(Eg y).map λb=>(ja a.2 b.2,r.2)
  |_=>none
def gk:∀ (ds es:List D) (i:Nat),(ja ds es)[i]?=(ds[i]?).bind λd=>(es[i]?).map λe=>D.tup [d,e]
 |[],es,i=>by simp[ja]
 |d::ds,[],i=>by cases i<;>simp[ja]
 |d::ds,e::es,0=>by simp[ja]
 |d::ds,e::es,i+1=>by simpa [ja] using gk ds es i
def tK:∀ (ds es:List D),(ja ds es).length=min ds.length es.length
 |[],es=>by simp[ja]
 |d::ds,[]=>by simp[ja]
 |d::ds,e::es=>by simp[ja,tK ds es]
section
variable {K:qae}{X:Cx}{a b:Expr}{pos:Pos}{Y:Af}
def wz {st:Sto}{H:Hp}{φ:List Addr}{w:W}{v:V}{p:Bool×List D} (r:Rw K H φ w v) (e:Eg w=some p) (S:Sr K H φ st):∃ a vs,v=.ref a/\SqK p.1 K H a vs/\(∀ H' c,Fw φ c H H'->SqK p.1 K H' a vs)/\Rls K H φ p.2 vs:=by
 cases w with
 |h n=>cases e
 |d x=>
  cases x with
  |tup ds=>
   cases e;obtain⟨a,j,rfl,m,g⟩:=r;exact⟨a,j,rfl,(SqT.of m),λH' c f=>(SqT.of m).fw S f,g⟩
  |lst ds=>
   cases e;obtain⟨a,j,rfl,h0,m,g⟩:=r;exact⟨a,j,rfl,.inl m,λH' c f=>.inl (m.fw f h0),g⟩
  |_=>cases e
def C3 {S1 S2:Hp->List V->Prop}{ds es:List D}{vs j:List V}{φ:List Addr}{H:Hp} (h1:∀ H' c,Fw φ c H H'->S1 H' vs) (h2:∀ H' c,Fw φ c H H'->S2 H' j) (r1:∀ H' c,Fw φ c H H'->Rls K H' c ds vs) (r2:∀ H' c,Fw φ c H H'->Rls K H' c es j) :
  Yl K φ H (Itz S1 S2) (ja ds es):=by
 intro H2 l st2 i f2 s2;have I:=h1 H2 l f2;have N:=h2 H2 l f2;have A:=r1 H2 l f2;have w2:=r2 H2 l f2;refine⟨λd hd=>?_,λhi=>⟨vs,j,I,N,?_⟩⟩
 ·rw[gk,qac]at hd
  obtain⟨d1,F,hd⟩:=hd;obtain⟨d2,M,rfl⟩:=qad.mp hd;obtain⟨v,Q,rv⟩:=A.get F;obtain⟨u,eu,ru⟩:=w2.get M;refine⟨⟨vs,j,v,u,I,N,Q,eu⟩,λx H' y=>?_⟩;obtain⟨T,v',u',y1,y2,G,rfl,rfl⟩:=y;have z1:=y1 vs I;have z2:=y2 j N;rw[Q]at z1;rw[eu]at z2;cases z1;cases z2;exact⟨aS.new G _,T,_,rfl,upd_same,_,_,rfl,rv.fw s2 (Fw.new G),_,_,rfl,ru.fw s2 (Fw.new G),rfl⟩
 ·rw[tK]at hi
  have l1:=A.length;have l2:=w2.length;rw[qcV,qcV];lia
def xZ {t:List Expr}{k:Nat}{s p:Pos} (hg:Gl X "zip") (hm:X.mg "zip" = none) (ha:IA K X [a,b] Y) (hs:ax a=true:=by rfl) (o:ax b=true:=by rfl) (hK:X.K=K:=by rfl) :
  II K X (.Tuple t k s) (.Call (.Name "zip" p) [a,b] [] pos) (gf Y):=by
 subst hK;refine⟨λenv st r g=>?_⟩;simp only[gf,qac]at g;obtain⟨⟨ws,s1⟩,hy,g⟩:=g
 match ws,g with
 |[x,y],g=>
  simp only[qac,qad]at g;obtain⟨p1,B,p2,E,rfl⟩:=g;refine (Ck (k:=p1.1) (k2:=p2.1) hg hm (ha.run _ _ _ hy) (yb hs o) (iK o)).imp ?_
  rintro σ H R ⟨φ,hE,hS,q⟩
  refine⟨φ,hE,hS,λvs H1 J f1 s1 A=>?_⟩;obtain⟨v,r,rfl,rx,v2,r',rfl,ry,rfl⟩:=A;obtain⟨a,j,rfl,m,C,g⟩:=wz rx B s1;obtain⟨b,L,rfl,O,z,P⟩:=wz ry E s1;exact⟨a,b,rfl,⟨j,m⟩,⟨L,O⟩,q _ H1 J f1 s1 (C3 C z (λH' c f=>g.fw s1 f) λH' c f=>P.fw s1 f)⟩
end
end L2
namespace L2
open PySem PySem.Spec PyProof.Rows
section
variable {prog:qaQ}{w:World}{A:qa2}{s:qak}{I l S:Addr}{a:Array Value}{ns:List Int}{b:List (Str×Value)}{R:qjT->qak->Prop}
variable {E:Value->qak->Prop}
end
section
variable {K:qae}{X:Cx}{e a b:Expr}{es:List Expr}{pos:Pos}{f d c:Ef}{g:Af}
end
section
variable {K:qae}{X:Cx}
def uf (_:Sto):W->W->Option D
 |.d (.int i),.d (.int j)=>some (.int (qbD i j))
 |_,_=>none
def Ec:OpD K X (qby .BitAnd) uf:=dI λst x y d h=>by
 match x,y,h with
 |.d (.int i),.d (.int j),h=>cases h;exact⟨i,j,rfl,rfl,C4.imp λe c H Q ⟨a,b,q⟩=>⟨i,j,a,b,q⟩,rfl⟩
end
section
variable {K:qae}{X:Cx}{pos:Pos}{a b:Expr}{c:Af}
end
section
variable {K:qae}{X:Cx}{pos:Pos}{e a b c:Expr}{es:List Expr}{f g d:Ef}{h:Af}
end
def ao (f:Str) (a:Ef):Ef
 |env,st=>(a env st).bind λx=>match x.1 with
 |.d (.ob ns ds)=>((ns.zip ds).lookup f).map λd=>(.d d,x.2)
 | .h n=>(match x.2[n]? with
  |some (.o fs)=>(fs.lookup f).map λw=>(w,x.2)
  |_=>none)
 |_=>none
section
variable {K:qae}{H:Hp}{φ:List Addr}
def tB {f:Str}{d:D}:∀ {ns:List Str}{ds:List D}{vs:List V},Rls K H φ ds vs->(ns.zip ds).lookup f=some d->∃ v,(ns.zip vs).lookup f=some v/\Rl K H φ d v/\f∈ns
 |[],ds,vs,r,h=>by rw[qhp]at h;cases h
 |n::ns,[],vs,r,h=>by rw[qhf]at h;cases h
 |n::ns,x::ds,vs,r,h=>by
  obtain⟨v,j,rfl,i,b⟩:=r;rw[qcD,qbu]at h ⊢;by_cases e:(f==n)=true
  ·rw[e]at h ⊢
   cases h;exact⟨v,rfl,i,by rw[beq_iff_eq.mp e];exact qaf⟩
  ·rw[show (f==n)=false by simpa using e]at h ⊢
   obtain⟨k,q,l,o⟩:=tB b h;exact⟨k,q,l,qal _ o⟩
def Rfs.look {f:Str}{w:W}:∀ {fs:List (Str×W)}{vs:List (Str×V)},Rfs K H φ fs vs->fs.lookup f=some w->∃ v,vs.lookup f=some v/\Rw K H φ w v/\∃ p∈fs,p.1=f
 |[],vs,r,h=>by cases h
 |(n,x)::fs,vs,r,h=>by
  obtain⟨v,j,rfl,i,b⟩:=r;rw[qbu]at h ⊢;by_cases e:(f==n)=true
  ·rw[e]at h ⊢
   cases h;exact⟨v,rfl,i,_,qaf,(beq_iff_eq.mp e).symm⟩
  ·rw[show (f==n)=false by simpa using e]at h ⊢
   obtain⟨k,q,l,p,s,o⟩:=Rfs.look b h;exact⟨k,q,l,p,qal _ s,o⟩
def Rfs.length:∀ {fs:List (Str×W)}{vs:List (Str×V)},Rfs K H φ fs vs->fs.length=vs.length
 |[],vs,r=>by cases r;rfl
 |(n,x)::fs,vs,r=>by
  obtain⟨v,j,rfl,i,b⟩:=r;rw[qam,qam,Rfs.length b]
def Rfs.mem {m:Nat}:∀ {fs:List (Str×W)}{vs:List (Str×V)},Rfs K H φ fs vs->W.h m∈fs.map (·.2)->m<φ.length
 |[],_,_,hm=>nomatch hm
 |(n,x)::fs,_,r,hm=>by
  obtain⟨v,j,rfl,i,b⟩:=r;rcases qaH.mp hm with z|z
  ·dsimp only at z
   subst z;obtain⟨a,e,_⟩:=i;exact (qas.mp e).1
  ·exact Rfs.mem b z
def lu (f:Str) (w:W):List (Str×W)->List (Str×W)
 |[]=>[(f,w)]
 |(g,x)::r=>if g=f then (g,w)::r else (g,x)::lu f w r
def Rfs.put {f:Str}{w:W}{v:V} (c:Rw K H φ w v):∀ {fs:List (Str×W)}{vs:List (Str×V)},Rfs K H φ fs vs->Rfs K H φ (lu f w fs) (fJ f v vs)
 |[],_,r=>by cases r;exact⟨v,[],rfl,c,rfl⟩
 |(g,x)::fs,_,r=>by
  obtain⟨k,j,rfl,i,b⟩:=r;unfold lu fJ;by_cases e:g=f
  ·rw[if_pos e,if_pos e];exact⟨v,j,rfl,c,b⟩
  ·rw[if_neg e,if_neg e];exact⟨k,_,rfl,i,Rfs.put c b⟩
def mN {f:Str}{w:W}:∀ {fs:List (Str×W)}{p:Str×W},p∈lu f w fs->p∈fs\/p=(f,w)
 |[],p,h=>.inr (qap.mp h)
 |(g,x)::fs,p,h=>by
  unfold lu at h;by_cases e:g=f
  ·rw[if_pos e]at h
   rcases qaH.mp h with z|z
   ·rw[e]at z;exact .inr z
   ·exact .inl (qal _ z)
  ·rw[if_neg e]at h
   rcases qaH.mp h with z|z
   ·exact .inl (z ▸ qaf)
   ·rcases mN z with z|z
    ·exact .inl (qal _ z)
    ·exact .inr z
def sQ {f:Str}{v:V}:∀ {vs:List (Str×V)},f∉vs.map (·.1)->fJ f v vs=vs++[(f,v)]
 |[],_=>rfl
 |(g,x)::vs,h=>by
  unfold fJ;rw[if_neg (by intro e;exact h (e ▸ qaf)),sQ λz=>h (qal _ z)];rfl
def Rfs.keys:∀ {fs:List (Str×W)}{vs:List (Str×V)},Rfs K H φ fs vs->vs.map (·.1)=fs.map (·.1)
 |[],vs,r=>by cases r;rfl
 |(n,x)::fs,vs,r=>by
  obtain⟨v,j,rfl,i,b⟩:=r;rw[qaq,qaq,Rfs.keys b]
def Rfs.snoc {f:Str}{w:W}{v:V} (c:Rw K H φ w v):∀ {fs:List (Str×W)}{vs:List (Str×V)},Rfs K H φ fs vs->Rfs K H φ (fs++[(f,w)]) (vs++[(f,v)])
 |[],_,r=>by cases r;exact⟨v,[],rfl,c,rfl⟩
 |(g,x)::fs,_,r=>by
  obtain⟨k,j,rfl,i,b⟩:=r;exact⟨k,_,rfl,i,Rfs.snoc c b⟩
end
section
variable {K:qae}{X:Cx}{pos j:Pos}{e o:Expr}{M fb:Ef}{f:Str}
def d8 (h:IE K X e M) (hb:qds e f X.env (eval e X.env)=eval e X.env:=by rfl) (hK:X.K=K:=by rfl):IE K X (.Attribute e f pos) (ao f M):=by
 subst hK;refine⟨λenv st r b=>?_⟩;simp only[ao,qac]at b;obtain⟨⟨x,s1⟩,hx,b⟩:=b;refine (Do (h.run _ _ _ hx) hb).imp ?_
 rintro σ H Q ⟨φ,C,B,q⟩
 refine⟨φ,C,B,λv H1 i f1 t O=>?_⟩;cases x with
 |d x=>
  cases x with
  |ob ns ds=>
   obtain⟨d,hd,rfl⟩:=qad.mp b;obtain⟨a,Cl,k,fs,vs,rfl,h0,E,rfl,h3,G,y,h6,h7⟩:=O;obtain⟨u,R,P,hf⟩:=tB h7 hd;exact⟨a,Cl,k,_,u,rfl,E,y,h6 f hf,R,q u H1 i f1 t P⟩
  |_=>cases b
 |h n=>
  dsimp only at b;split at b
  ·rename_i fs s
   obtain⟨w,hw,rfl⟩:=qad.mp b;obtain⟨a,L,rfl⟩:=O;obtain⟨Cl,k,vs,E,F,h3,G,y⟩:=t.at_ n a _ L s;obtain⟨u,R,P,p,V,rfl⟩:=F.look hw;exact⟨a,Cl,k,vs,u,rfl,E,G,y p V,R,q u H1 i f1 t P⟩
  ·cases b
def jB (f:Str) (o v:Ef):Sf
 |env,st=>(v env st).bind λJ=>(o env J.2).bind λA=>match A.1,J.1 with
 | .h n,.d x=>(match A.2[n]? with
  |some (.o fs)=>if fs.length<1000/\(fs.lookup f).isSome=true then some (.nx env (A.2.set n (.o (lu f (.d x) fs)))) else none
  |_=>none)
 |_,_=>none
def mJ (ho:IE K X o M) (hv:IE K X e fb) (hs:qcB e (some (.Attribute o f j)) pos.line X.env=pure false:=by rfl) (hK:X.K=K:=by rfl):IS K X (.Assign [.Attribute o f j] e pos) (jB f M fb):=by
 subst hK;refine⟨λenv st r b=>?_⟩;simp only[jB,qac]at b;obtain⟨⟨J,s1⟩,ev,⟨A,I⟩,eo,b⟩:=b;cases A with
 |d x=>cases b
 |h n=>
  cases J with
  |h m=>cases b
  |d x=>
   dsimp only at b;split at b
   case h_2=>cases b
   rename_i fs s;split at b
   case isFalse=>cases b
   rename_i hc;cases b;refine (z6 (ho.run _ _ _ eo) (hv.run _ _ _ ev) hs).imp ?_
   rintro D σ H ⟨φ,C,B,q⟩
   refine⟨φ,C,B,λv H1 i f1 s1 O=>⟨i,C.fw B f1,s1,λu H2 φ2 f2 I w2=>?_⟩⟩;obtain⟨a,L,rfl⟩:=w2;obtain⟨Cl,k,vs,E,F,h3,G,y⟩:=I.at_ n a _ L s;obtain⟨w0,S⟩:=qcq.mp hc.2;obtain⟨u0,hu0,ru0,p,V,Y⟩:=F.look S;have na:cw X.K Cl f:=Y ▸ y p V;refine⟨a,Cl,k,vs,rfl,E,G,na,by rw[<-F.length];exact hc.1,?_⟩;have w1':=O.fw s1 f2;have k1:∀ m,W.h m∈(lu f (.d x) fs).map (·.2)->m<n:=λm hm=>by
    obtain⟨N,l,T⟩:=qaX.mp hm;rcases mN l with z|z
    ·exact h3 m (T ▸ qdI (f:=(·.2)) z)
    ·rw[z]at T;cases T
   have k2:∀ N∈lu f (.d x) fs,cw X.K Cl N.1:=λN l=>by
    rcases mN l with z|z
    ·exact y N z
    ·rw[z];exact na
   obtain⟨f3,s3⟩:=I.putC (o:=.ins Cl k (fJ f v vs)) (c:=.o (lu f (.d x) fs)) L λg=>⟨Cl,k,_,upd_same,(Rfs.put w1' F).fw I g,k1,G,k2⟩;exact q σ _ φ2 ((f1.trans f2).trans f3) (((C.fw B f1).fw s1 f2).fw I f3) s3
end
section
variable {K:qae}{X:Cx}{pos:Pos}{a e:Expr}{fa:Ef}{af:Af}
def zM (o:Ef) (a:Af):Ef
 |env,st=>(o env st).bind λx=>(a env x.2).bind λr=>match x.1,r.1 with
 |.d (.lst ds),[.d (.int k)]=>(aW ds).bind λns=>if ns.length<=1000 then (ns.idxOf? k).map λj=>(.d (.int (j:Nat)),r.2) else none
 |_,_=>none
def GJ (X:Cx):V->List V->Hp->VK->Prop:=λx xs H Q=>∃ (p:Addr) (ns:List Int) (k:Int) (j:Nat),x=.ref p/\xs=[.int k]/\SqL X.K H p (ns.map V.int)/\ns.length<=1000/\ns.idxOf? k=some j/\Q (.int (j:Nat)) H
def Cr:∀ {ns:List Int}{k:Int}{j:Nat},ns.idxOf? k=some j->j<ns.length/\ns[j]?=some k/\∀ i,i<j->ns[i]?≠some k:=by
 intro ns k j h;have h1:=qgh.mp h;obtain⟨O,h3,h4⟩:=h1;refine⟨O,by rw[qao O,h3],λi E z=>?_⟩;have J:i<ns.length:=qez E O;rw[qao J]at z;exact h4 i E (qaV z)
def DW:MtR X "list.index" (GJ X):=by
 intro pins s σ H x xs v us Q I rx rv h;obtain⟨p,ns,k,j,rfl,rfl,F,hl,N,q⟩:=h;cases rx;obtain⟨u,rfl,ru⟩:=rv.one;obtain⟨t,rfl⟩:=ru;obtain⟨its,r,pl,hz⟩:=I.list F;obtain⟨j1,j2,j3⟩:=Cr N;have w:its.length=ns.length:=by rw[<-r.length,qah]
 have at_:∀ (i:Nat) (E:i<its.length),∃ t,∃ hn:i<ns.length,its[i]=.int ns[i] t:=λi E=>by
  obtain⟨h',q'⟩:=r.at i E;have hn:i<ns.length:=by rw[<-w];exact E
  have e:(ns.map V.int)[i]=V.int ns[i]:=qhH ..;rw[e]at q';obtain⟨t,e'⟩:=q';exact⟨t,hn,e'⟩
 obtain⟨⟨c,dd,dt,sl⟩,eo,Y,n,hd⟩:=pl.isList
 simp only at Y hd
 subst Y hd;have D:j<its.length:=by rw[w];exact j1
 refine qcY qfS ⟨_,eo,rfl⟩ PySem.F.entry_list_index (PySem.F.args_list_index_2 _ _) (qjU p its.toArray n dd sl (.int k t) (isInt k) j (by simpa using D) (by lia) ?_ (λm hm M=>?_)) ⟨eo,λy hy=>(eq_isInt k t (eE r) y (by simpa using hy)).at _ _,?_⟩
 ·obtain⟨t',hn,e⟩:=at_ j D
  rw[qao hn]at j2
  have:its.toArray[j]'(by simpa using D)=.int k t':=by simpa [qaV j2] using e
  rw[this];simp[isInt]
 ·have T:m<its.length:=by simpa using hm
  obtain⟨t',hn,e⟩:=at_ m T
  have:its.toArray[m]'hm=.int ns[m] t':=by simpa using e
  rw[this]
  have:=j3 m M
  rw[qao hn]at this;have G:ns[m]≠k:=λz=>this (by rw[z]);simp[isInt,G]
 ·exact⟨.int (j:Nat),H,I.kept (t':=s.toks+1) λb o e=>e,⟨_,rfl⟩,q⟩
def DJ {l:Pos} (ho:IE K X a fa) (ha:IA K X [e] af) (B:qds a "index" X.env (eval a X.env)=eval a X.env:=by rfl)
  (g:[e].all ax=true:=by rfl) (A:(l.endLine==pos.line)=true:=by rfl) (hK:X.K=K:=by rfl) :
  IE K X (.Call (.Attribute a "index" l) [e] [] pos) (zM fa af):=by
 subst hK;have C:ax e=true:=by rw[qbz,qbb]at g;exact g.1
 refine⟨λenv st r f=>?_⟩;simp only[zM,qac]at f;obtain⟨⟨x,s1⟩,hx,⟨ws,s2⟩,hw,f⟩:=f
 match x,ws,f with
 |.d (.lst ds),[.d (.int k)],f=>
  simp only[qac]at f;obtain⟨ns,S,f⟩:=f;split at f
  case isFalse=>cases f
  rename_i hl;obtain⟨j,N,rfl⟩:=qad.mp f;have R:=bT S;subst R;refine (BP qfT qfS PySem.F.type_list_index DW (ho.run _ _ _ hx) (ha.run _ _ _ hw) B (rH g (by show 1<30;decide)) A (aT C) (bx rfl)).imp ?_
  rintro σ H Q ⟨φ,hE,hS,q⟩
  refine⟨φ,hE,hS,λv H1 P f1 S1 w1=>?_⟩;obtain⟨p,vs,rfl,h0,F,L⟩:=w1;have ev:=Rls.ints L;subst ev;refine⟨.inl ⟨rfl,_,.inl F⟩,P,hE.fw hS f1,S1,λus H2 W f2 S2 w2=>?_⟩;obtain⟨y,us',rfl,ry,rfl⟩:=w2;cases (show y=.int k from ry);exact⟨p,ns,k,j,rfl,rfl,.inl (F.fw f2 h0),hl,N,q _ H2 W (f1.trans f2) S2 rfl⟩
end
section
variable {K:qae}{H:Hp}{φ ψ:List Addr}{x Cl J:Addr}{xs:List (Str×V)}{o:HO}
def Rl.chx (s:H x=some (.ins Cl J xs)) (t:xs.length<=5) (g:∀ a∈ψ,a=x):∀ {d:D}{v:V},Rl K H φ d v->Rl K (upd H x o) (φ++ψ) d v:=by
 have ne:∀ {a:Addr}{u:HO},H a=some u->(∀ C d f,u≠.ins C d f)->a≠x:=λ{a u} h q z=>by
  subst z;rw[s]at h;cases h;exact q _ _ _ rfl
 have nin:∀ {a:Addr},a≠x->a∉φ->a∉φ++ψ:=λ{a} n h z=>by
  rcases qaY.mp z with z|z
  ·exact h z
  ·exact n (g a z)
 intro d v;refine (?_:∀ v,Rl K H φ d v->Rl K (upd H x o) (φ++ψ) d v) v;refine D.rec (motive_1:=λd=>∀ v,Rl K H φ d v->Rl K (upd H x o) (φ++ψ) d v) (motive_2:=λds=>∀ vs,Rls K H φ ds vs->Rls K (upd H x o) (φ++ψ) ds vs) ?_ ?_ ?_ ?_ ?_ ?_ ?_ ?_ ?_ ?_ ?_ ?_ d
 ·exact λv h=>h
 ·exact λb v h=>h
 ·exact λb v h=>h
 ·exact λb v h=>h
 ·exact λb v h=>h
 ·rintro v ⟨a,e,hn,h⟩
  rcases h with⟨d,h⟩|⟨d,h⟩
  ·have n:=ne h (by intros;simp)
   exact⟨a,e,nin n hn,.inl ⟨d,by rw[upd_ne n];exact h⟩⟩
  ·have n:=ne h (by intros;simp)
   exact⟨a,e,nin n hn,.inr ⟨d,by rw[upd_ne n];exact h⟩⟩
 ·rintro ns v ⟨a,e,h⟩
  rcases h with⟨ob,h⟩|h
  ·have n:=ne h (by intros;simp)
   exact⟨a,e,.inl ⟨ob,by rw[upd_ne n];exact h⟩⟩
  ·exact⟨a,e,.inr h⟩
 ·rintro ds A v ⟨a,vs,rfl,j,p⟩
  have n:=ne j (by intros;simp);exact⟨a,vs,rfl,by rw[upd_ne n];exact j,A vs p⟩
 ·rintro ds A v ⟨a,vs,rfl,E,j,p⟩
  rcases j with j|⟨ob,j⟩
  ·have n:=ne j (by intros;simp)
   exact⟨a,vs,rfl,nin n E,.inl (by rw[upd_ne n];exact j),A vs p⟩
  ·have n:=ne j (by intros;simp)
   exact⟨a,vs,rfl,nin n E,.inr ⟨ob,by rw[upd_ne n];exact j⟩,A vs p⟩
 ·rintro ns ds A v ⟨a,C',G,fs,vs,rfl,E,j,p,P,N,O,M,Q⟩
  have n:a≠x:=λz=>by
   subst z;rw[s]at j;cases j;rw[p,List.length_zip]at t;lia
  exact⟨a,C',G,fs,vs,rfl,nin n E,by rw[upd_ne n];exact j,p,P,N,O,M,A vs Q⟩
 ·exact λvs h=>h
 ·rintro d ds I F vs ⟨v,r,rfl,j,p⟩;exact⟨v,r,rfl,I v j,F r p⟩
variable (s:H x=some (.ins Cl J xs)) (t:xs.length<=5) (g:∀ a∈ψ,a=x)
include s t g
def Rls.chx:∀ {ds:List D}{vs:List V},Rls K H φ ds vs->Rls K (upd H x o) (φ++ψ) ds vs
 |[],_,h=>h
 |d::ds,_,h=>by
  obtain⟨v,r,rfl,j,p⟩:=h;exact⟨v,r,rfl,Rl.chx s t g j,Rls.chx p⟩
def Rw.chx {w:W}{v:V} (h:Rw K H φ w v):Rw K (upd H x o) (φ++ψ) w v:=by
 cases w with
 |d y=>exact Rl.chx s t g h
 |h n=>
  obtain⟨a,e,rfl⟩:=h;exact⟨a,by rw[qaK (qas.mp e).1];exact e,rfl⟩
def Rws.chx:∀ {ds:List W}{vs:List V},Rws K H φ ds vs->Rws K (upd H x o) (φ++ψ) ds vs
 |[],_,h=>h
 |d::ds,_,h=>by
  obtain⟨v,r,rfl,j,p⟩:=h;exact⟨v,r,rfl,Rw.chx s t g j,Rws.chx p⟩
def Rkv.chx:∀ {ds:List (List Int×D)}{vs:List (List Key×V)},Rkv K H φ ds vs->Rkv K (upd H x o) (φ++ψ) ds vs
 |[],_,h=>h
 |(k,d)::ds,_,h=>by
  obtain⟨v,r,rfl,j,p⟩:=h;exact⟨v,r,rfl,Rl.chx s t g j,Rkv.chx p⟩
def Rkk.chx:∀ {ds:List (Int×D)}{vs:List (Key×V)},Rkk K H φ ds vs->Rkk K (upd H x o) (φ++ψ) ds vs
 |[],_,h=>h
 |(k,d)::ds,_,h=>by
  obtain⟨v,r,rfl,j,p⟩:=h;exact⟨v,r,rfl,Rl.chx s t g j,Rkk.chx p⟩
def Rfs.chx:∀ {ds:List (Str×W)}{vs:List (Str×V)},Rfs K H φ ds vs->Rfs K (upd H x o) (φ++ψ) ds vs
 |[],_,h=>h
 |(k,d)::ds,_,h=>by
  obtain⟨v,r,rfl,j,p⟩:=h;exact⟨v,r,rfl,Rw.chx s t g j,Rfs.chx p⟩
def Rc.chx {k:Nat}{a:Addr}{c:C} (B:a≠x) (h:Rc K H φ k a c):Rc K (upd H x o) (φ++ψ) k a c:=by
 cases c with
 |l ds=>obtain⟨vs,q,r⟩:=h;exact⟨vs,by rw[upd_ne B];exact q,Rls.chx s t g r⟩
 |n ds=>obtain⟨vs,q,r,b⟩:=h;exact⟨vs,by rw[upd_ne B];exact q,Rws.chx s t g r,b⟩
 |m ds=>obtain⟨vs,q,r⟩:=h;exact⟨vs,by rw[upd_ne B];exact q,Rkv.chx s t g r⟩
 |k ds=>obtain⟨vs,q,r⟩:=h;exact⟨vs,by rw[upd_ne B];exact q,Rkk.chx s t g r⟩
 |o ds=>obtain⟨C',d',vs,q,r,b⟩:=h;exact⟨C',d',vs,by rw[upd_ne B];exact q,Rfs.chx s t g r,b⟩
def Er.chx {env:Ev}{L:St} (h:Er K H φ env L):Er K (upd H x o) (φ++ψ) env L:=
 ⟨h.len,λi w e=>let ⟨v,e1,r⟩:=h.at_ i w e;⟨v,e1,Rw.chx s t g r⟩⟩
end
section
variable {K:qae}{H:Hp}{φ:List Addr}{x Cl j:Addr}{xs:List (Str×V)}{o:HO}{st:Sto}
def Sr.chx0 (S:Sr K H φ st) (f:H x=some (.ins Cl j xs)) (i:xs.length<=5) (hn:x∉φ):Sr K (upd H x o) φ st:=by
 have k:φ++[]=φ:=qb3 _;refine⟨S.nd,S.len,λn a c d e=>?_⟩
 have:=Rc.chx (o:=o) (ψ:=[]) f i (λa z=>nomatch z) (λz=>hn (z ▸ qbT d)) (S.at_ n a c d e)
 rw[k]at this;exact this
def Sr.chx1 (S:Sr K H φ st) (f:H x=some (.ins Cl j xs)) (i:xs.length<=5) (hn:x∉φ) {c:C} (l:Rc K (upd H x o) (φ++[x]) st.length x c):Sr K (upd H x o) (φ++[x]) (st++[c]):=by
 refine⟨qcw.mpr ⟨S.nd,qce.mpr ⟨qbL,qcU⟩,λa p b hb z=>by rw[qap.mp hb]at z;exact hn (z ▸ p)⟩,by rw[qaB,qaB,S.len];rfl,λn a m d e=>?_⟩;by_cases h:n<φ.length
 ·rw[qaK h]at d
  rw[qaK (by rw[<-S.len];exact h)]at e;exact Rc.chx f i (λa z=>qap.mp z) (λz=>hn (z ▸ qbT d)) (S.at_ n a m d e)
 ·have q:n<(φ++[x]).length:=(qas.mp d).1
  rw[qaB,qcj]at q;have g:n=φ.length:=by lia
  subst g;rw[qaP (qar _),qey]at d;rw[S.len,qaP (qar _),qey]at e;cases d;cases e;rw[S.len];exact l
end
def qQ:List (Str×Ef)->Ev->Sto->Option (List (Str×W)×Sto)
 |[],_,st=>some ([],st)
 |(f,g)::r,env,st=>(g env st).bind λx=>(qQ r env x.2).map λy=>((f,x.1)::y.1,y.2)
structure FwX (x:Addr) (φ φ':List Addr) (H H':Hp):Prop where
 ext:∃ ψ,φ'=φ++ψ/\∀ a∈ψ,H a=none\/a=x
 keep:∀ b o,b∉φ->b≠x->H b=some o->H' b=some o
 there:∀ b o,H b=some o->∃ o',H' b=some o'
def FwX.pre {x:Addr}{φ a i:List Addr}{H H1 H2:Hp}{o p:HO} (r:H x=some p) (hn:x∉a) (f:Fw φ a H H1) (g:FwX x a i (upd H1 x o) H2):FwX x φ i H H2:=by
 obtain⟨ψ,rfl,m⟩:=f.ext;obtain⟨k,rfl,n⟩:=g.ext;have l:∀ b u,H b=some u->∃ d,upd H1 x o b=some d:=λb u h=>by
  by_cases z:b=x
  ·exact⟨o,by rw[z,upd_same]⟩
  ·obtain⟨d,h'⟩:=f.there b u h
   exact⟨d,by rw[upd_ne z];exact h'⟩
 refine⟨⟨ψ++k,by rw[qcx],λc j=>?_⟩,λc u j e h=>?_,λc u h=>?_⟩
 ·rcases qaY.mp j with z|z
  ·exact .inl (m c z)
  ·rcases n c z with q|q
   ·left
    cases q':H c with
    |none=>rfl
    |some u=>
     obtain⟨d,h'⟩:=l c u q';rw[q]at h';cases h'
   ·exact .inr q
 ·refine g.keep c u (λz=>?_) e (by rw[upd_ne e];exact f.keep c u j h)
  rcases qaY.mp z with z|z
  ·exact j z
  ·rw[m c z]at h;cases h
 ·obtain⟨d,h'⟩:=l c u h
  exact g.there c d h'
def GR (K:qae) (g:List (Str×Ef)) (env:Ev) (st:Sto) (y:List (Str×W)×Sto):TS:=λD b H=>∃ φ x Cl c xs fs,Er K H φ env b/\Sr K H φ st/\b[0]?=some (some (.ref x))/\x∉φ/\H x=some (.ins Cl c xs)/\Rfs K H φ fs xs/\
 Cls K Cl/\(∀ p∈fs,cw K Cl p.1)/\(∀ p∈g,cw K Cl p.1)/\fs.length+g.length=6/\(∀ p∈g,p.1∉fs.map (·.1))/\(g.map (·.1)).Nodup/\
 ∀ H' a,FwX x φ a H H'->Sr K H' a (y.2++[.o (fs++y.1)])->a[y.2.length]?=some x->D.nx b H'
structure INI (K:qae) (X:Cx) (ss:List Stmt) (g:List (Str×Ef)):Prop where
 run:∀ env st y,qQ g env st=some y->PSs X ss (GR K g env st y)
section
variable {K:qae}{X:Cx}{e:Expr}{I:Ef}{f:Str}{ss:List Stmt}{g:List (Str×Ef)}{pos d p1:Pos}
def rT {env:Ev}{st:Sto}{w:W}{s1:Sto} (Q:X.N[0]?=some ("self" : Str)) (M:Vis X.env.scope "self") (O:IE K X e I) (L:I env st=some (w,s1)) (R:X.K=K)
  (N:qcB e (some (.Attribute (.Name "self" p1) f d)) pos.line X.env=pure false) :
  PS X (.Assign [.Attribute (.Name "self" p1) f d] e pos) (λD J H=>∃ φ x Cl i xs,Er K H φ env J/\Sr K H φ st/\J[0]?=some (some (.ref x))/\x ∉ φ/\H x=some (.ins Cl i xs)/\Cls K Cl/\cw K Cl f/\xs.length<=5/\f ∉ xs.map (·.1)/\
   ∀ v H1 c,Fw φ c H H1->Sr K H1 c s1->Rw K H1 c w v->x∉c->H1 x=some (.ins Cl i xs)->D.nx J (upd H1 x (.ins Cl i (xs++[(f,v)])))):=by
 subst R;refine (z6 (iH Q M) (O.run _ _ _ L) N).imp ?_
 rintro D J H ⟨φ,x,Cl,i,xs,E,u,F,B,s,n,C,S,t,q⟩
 refine⟨φ,E,u,λv H1 c f1 k G=>⟨_,F,x,Cl,i,xs,rfl,f1.keep _ _ B s,n,C,by lia,?_⟩⟩;rw[sQ t];exact q v H1 c f1 k G (f1.nin B s) (f1.keep _ _ B s)
def Al (Q:X.N[0]?=some ("self" : Str)) (M:Vis X.env.scope "self") (O:IE K X e I) (R:X.K=K:=by rfl)
  (N:qcB e (some (.Attribute (.Name "self" p1) f d)) pos.line X.env=pure false:=by rfl):INI K X [.Assign [.Attribute (.Name "self" p1) f d] e pos] [(f,I)]:=by
 refine⟨λenv st y l=>?_⟩;simp only[qQ,qac,qai]at l;obtain⟨⟨w,s1⟩,L,l⟩:=l;cases l;refine (ww (rT Q M O L R N)).imp ?_
 rintro D J H ⟨φ,x,Cl,i,xs,fs,E,u,F,B,s,n,C,S,t,T,Y,r,q⟩
 have hl:xs.length=5:=by rw[<-n.length];simpa using T
 have nf:f∉xs.map (·.1):=by rw[n.keys];exact Y _ qaf
 refine⟨φ,x,Cl,i,xs,E,u,F,B,s,C,t _ qaf,by lia,nf,λv H1 c f1 k G hn j=>?_⟩;have r1:=n.fw u f1;have r2:=Rfs.chx (o:=.ins Cl i (xs++[(f,v)])) (ψ:=[x]) j (by lia) (λa z=>qap.mp z) r1;have V:=Rw.chx (o:=.ins Cl i (xs++[(f,v)])) (ψ:=[x]) j (by lia) (λa z=>qap.mp z) G;have r3:=Rfs.snoc (f:=f) G r1
 have hc:Rc K (upd H1 x (.ins Cl i (xs++[(f,v)]))) (c++[x]) s1.length x (.o (fs++[(f,w)])):=⟨Cl,i,_,upd_same,Rfs.snoc V r2,λm hm=>by rw[<-k.len];exact r3.mem hm,C,λp A=>by
  rcases qaY.mp A with z|z
  ·exact S p z
  ·rw[qap.mp z];exact t _ qaf⟩
 refine q _ (c++[x]) ?_ (k.chx1 j (by lia) hn hc) (by rw[<-k.len,qaP (qar _),qey];rfl);refine FwX.pre s hn f1 ⟨⟨[x],rfl,λa z=>.inr (qap.mp z)⟩,λb o _ _ h=>h,λb o h=>⟨o,h⟩⟩
def i4 (Q:X.N[0]?=some ("self" : Str)) (M:Vis X.env.scope "self") (O:IE K X e I) (hr:INI K X ss g) (hg:g≠[]:=by intro z;cases z) (R:X.K=K:=by rfl)
  (N:qcB e (some (.Attribute (.Name "self" p1) f d)) pos.line X.env=pure false:=by rfl):INI K X (.Assign [.Attribute (.Name "self" p1) f d] e pos::ss) ((f,I)::g):=by
 refine⟨λenv st y l=>?_⟩;simp only[qQ,qac]at l;obtain⟨⟨w,s1⟩,L,l⟩:=l;obtain⟨y',hy',rfl⟩:=qad.mp l;refine (dC (rT Q M O L R N) (hr.run _ _ _ hy')).imp ?_
 rintro D J H ⟨φ,x,Cl,i,xs,fs,E,u,F,B,s,n,C,S,t,T,Y,r,q⟩
 have hg1:1<=g.length:=qgX.mpr hg;have hl:xs.length<=4:=by rw[<-n.length];rw[qam]at T;lia
 have nf:f∉xs.map (·.1):=by rw[n.keys];exact Y _ qaf
 refine⟨φ,x,Cl,i,xs,E,u,F,B,s,C,t _ qaf,by lia,nf,λv H1 c f1 k G hn j=>?_⟩;have e0:c++[]=c:=qb3 _;have r2:=Rfs.chx (o:=.ins Cl i (xs++[(f,v)])) (ψ:=[]) j (by lia) (λa z=>nomatch z) (n.fw u f1)
 have V:=Rw.chx (o:=.ins Cl i (xs++[(f,v)])) (ψ:=[]) j (by lia) (λa z=>nomatch z) G
 have P:=Er.chx (o:=.ins Cl i (xs++[(f,v)])) (ψ:=[]) j (by lia) (λa z=>nomatch z) (E.fw u f1)
 rw[e0]at r2 V P;rw[qaq,qce]at r;refine⟨c,x,Cl,i,_,fs++[(f,w)],P,k.chx0 j (by lia) hn,F,hn,upd_same,Rfs.snoc V r2,C,λp A=>?_,λp A=>t p (qal _ A),by rw[qaB,qcj];rw[qam]at T;lia,λp A z=>?_,r.2,λH' φ' fx S' ex=>?_⟩
 ·rcases qaY.mp A with z|z
  ·exact S p z
  ·rw[qap.mp z];exact t _ qaf
 ·rw[qbR]at z
  rcases qaY.mp z with z|z
  ·exact Y p (qal _ A) z
  ·rw[qaq,qbl,qap]at z
   exact r.1 (z ▸ qdI (f:=(·.1)) A)
 ·rw[qcx,List.singleton_append]at S'
  exact q H' φ' (FwX.pre s hn f1 fx) S' ex
end
def AJ (K:qae) (n:Nat) (ps:Nat) (g:List (Str×Ef)):Sp:=λvs H Q _=>∃ φ st ws y x c Cl a H1,vs=.ref x::a/\ws.length+1=ps/\qQ g (none::(ws.map some++qaz (n - ps) none)) st=some y/\Rws K H1 φ ws a/\Sr K H1 φ st/\H1 x=none/\H1 c=none/\c≠x/\
 H=upd (upd H1 c (.own x)) x (.ins Cl c [])/\Cls K Cl/\(∀ p∈g,cw K Cl p.1)/\g.length=6/\(g.map (·.1)).Nodup/\∀ H' b,Fw φ b H1 H'->Sr K H' b (y.2++[.o y.1])->b[y.2.length]?=some x->Q .non H'
def FK {P:qaQ}{w:World}{K:qae}{mg:Str->Option Value}{base:Heap}{x c:Str}{st:Stmt}{f:Addr}{fd:qau}{N ps:List Str}{k:Nat}{g:List (Str×Ef)} (F:Fun K x c st f fd) (S:aw N ps (ag st)) (hN:ps.length<=N.length)
  (hb:∀ (l:Value) (A:qa2) (outer:List Env) (s:qak) (H:Hp) (E:XK),bC k (A.deeper (qen c (ag st) s.heap.objs.size f l))->INI K (ir CX0 P w K mg base N c (ag st) f l A outer s H E).nox (cz st) g) :
  ek P w K mg base CX0 (k+1) f fd ps (AJ K N.length ps.length g):=by
 refine F.ok S (λvs H Q E h=>?_) λl A outer s H vs Q E W h=>?_
 ·obtain⟨φ,st,ws,y,x,m,Cl,j,H1,rfl,C,e,rw,_⟩:=h
  rw[qam,<-rw.length,C]
 ·obtain⟨φ,T,ws,y,x,m,Cl,j,H1,rfl,C,e,rw,S',t,hd,n,rfl,Y,hA,L,B,q⟩:=h
  refine⟨_,(hb l A outer s _ E W).run _ _ _ e,φ,x,Cl,m,[],[],?_,?_,?_,?_,upd_same,rfl,Y,λp R=>(nomatch R),hA,by simpa using L,λp _ z=>(nomatch z),B,λH' D u S2 ex=>?_⟩
  ·have r:aS H1 (upd (upd H1 m (.own x)) x (.ins Cl m [])):=(aS.new hd _).trans (aS.new (by rw[upd_ne (qbC n)];exact t) _)
   have V:=rw.fw S' (Fw.same r);have I:=nu (N:=N) (k:=ps.length) (ws:=.d .non::ws) (vs:=.non::j) ⟨.non,j,rfl,rfl,V⟩ (by rw[qam];exact C);refine⟨?_,λi w J=>?_⟩
   ·have:=I.len
    unfold ft at this ⊢
    simp at this ⊢
    lia
   ·cases i with
    |zero=>cases J
    |succ i=>
     obtain⟨v,G,M⟩:=I.at_ (i+1) w J;refine⟨v,?_,M⟩;unfold ft at G ⊢;simpa using G
  ·have r:aS H1 (upd (upd H1 m (.own x)) x (.ins Cl m [])):=(aS.new hd _).trans (aS.new (by rw[upd_ne (qbC n)];exact t) _)
   exact S'.same r
  ·unfold ft;rfl
  ·exact S'.nin t
  ·refine q H' D ?_ S2 ex
   obtain⟨ψ,rfl,O⟩:=u.ext;have r:aS H1 (upd (upd H1 m (.own x)) x (.ins Cl m [])):=(aS.new hd _).trans (aS.new (by rw[upd_ne (qbC n)];exact t) _);refine⟨⟨ψ,rfl,λa X=>?_⟩,λb o hb h=>?_,λb o h=>u.there b o (r b o h)⟩
   ·rcases O a X with z|z
    ·cases q':H1 a with
     |none=>rfl
     |some o=>rw[r a o q']at z;cases z
    ·rw[z];exact t
   ·exact u.keep b o hb (λz=>by rw[z,t]at h;cases h) (r b o h)
def pI (n ps:Nat) (g:List (Str×Ef)) (a:Af):Ef
 |env,st=>(a env st).bind λr=>if r.1.length+1=ps then (qQ g (none::(r.1.map some++qaz (n - ps) none)) r.2).map λy=>(.h y.2.length,y.2++[.o y.1]) else none
def Ad {K:qae}{X:Cx}{x:Str}{k j:Nat}{m Cl:Addr}{fd:qau}{N ps:List Str}{g:List (Str×Ef)}{p pos:Pos}{e:Expr}{es:List Expr}{l:Af} (M:Mk X.K Cl m) (F:ek X.prog X.w X.K X.mg X.base CX0 j m fd ps (AJ K N.length ps.length g)) (c:j<=k) (D:bC (k+1) X.A) (hg:Gl X x) (hm:X.mg x=some (.ref Cl)) (hb:aM X.K fd ps [])
  (I:Cls K Cl) (hA:∀ p∈g,cw K Cl p.1) (s:g.length=6) (d:(g.map (·.1)).Nodup)
  (G:IA K X (e::es) l) (b:(x==("__debug__" : Str))=false:=by decide) (v:ax e=true:=by rfl) (A:es.all ax=true:=by rfl) :
  IE K X (.Call (.Name x p) (e::es) [] pos) (pI N.length ps.length g l):=by
 refine⟨λenv st r h=>?_⟩;simp only[pI,qac]at h;obtain⟨y,t,h⟩:=h;split at h
 case isFalse=>cases h
 rename_i C;obtain⟨z,B,rfl⟩:=qad.mp h;refine (Aj M (F.mono c) D hg hm hb .nil zm (G.run _ _ _ t) b (aT v) (bx A)).imp ?_
 rintro J H Q ⟨φ,w,u,q⟩
 refine⟨φ,w,u,λvs H1 f f1 s1 E=>λx n o hd a=>?_⟩;show AJ K N.length ps.length g (.ref x::(vs++[])) _ _ _;rw[qb3];refine⟨f,y.2,y.1,z,x,n,Cl,vs,H1,rfl,C,B,E,s1,o,hd,a,rfl,I,hA,s,d,λH' i f2 S2 ex=>⟨rfl,?_⟩⟩;exact q _ H' i (f1.trans f2) S2 ⟨x,ex,rfl⟩
def vwF (st:Sto):List (Str×W)->Option (List D)
 |[]=>some []
 |(_,.d x)::r=>(vwF st r).map λy=>x::y
 |(_,.h m)::r=>(lg st m).bind λds=>(vwF st r).map λy=>.lst ds::y
def vwW (st:Sto):W->Option W
 |.d x=>some (.d x)
 |.h n=>match st[n]? with
  |some (.o fs)=>if 5<fs.length then (vwF st fs).map λds=>.d (.ob (fs.map (·.1)) ds) else none
  |some (.l ds)=>some (.d (.lst ds))
  |_=>none
def vwA (st:Sto):List W->Option (List W)
 |[]=>some []
 |w::ws=>(vwW st w).bind λx=>(vwA st ws).map λy=>x::y
mutual
def okT:D->Bool
 |.non=>true
 |.bl _=>true
 |.int _=>true
 |.str _=>true
 |.tup ds=>ua ds
 |_=>false
def ua:List D->Bool
 |[]=>true
 |d::ds=>okT d&&ua ds
end
section
variable {K:qae}{H:Hp}{φ φ':List Addr}
mutual
def Rl.any:∀ {d:D}{v:V},okT d=true->Rl K H φ d v->Rl K H φ' d v
 |.non,_,_,h=>h
 |.bl _,_,_,h=>h
 |.int _,_,_,h=>h
 |.str _,_,_,h=>h
 |.tup ds,_,o,h=>by
  obtain⟨a,vs,rfl,h1,h2⟩:=h;exact⟨a,vs,rfl,h1,Rls.any (by rw[okT]at o;exact o) h2⟩
 |.ty _,_,o,_=>by rw[okT]at o<;>first|cases o|(intros;simp)
 |.dct,_,o,_=>by rw[okT]at o<;>first|cases o|(intros;simp)
 |.scr _,_,o,_=>by rw[okT]at o<;>first|cases o|(intros;simp)
 |.lst _,_,o,_=>by rw[okT]at o<;>first|cases o|(intros;simp)
 |.ob _ _,_,o,_=>by rw[okT]at o<;>first|cases o|(intros;simp)
def Rls.any:∀ {ds:List D}{vs:List V},ua ds=true->Rls K H φ ds vs->Rls K H φ' ds vs
 |[],_,_,h=>h
 |d::ds,_,o,h=>by
  rw[ua,qbb]at o;obtain⟨v,r,rfl,h1,h2⟩:=h;exact⟨v,r,rfl,Rl.any o.1 h1,Rls.any o.2 h2⟩
end
def Rl.bare {d:D}{v:V} (h:Rl K H φ d v):Rl K H [] d v:=Rl.less (φ:=[]) (ψ:=φ) h
def Rls.bare {d:List D}{v:List V} (h:Rls K H φ d v):Rls K H [] d v:=Rls.less (φ:=[]) (ψ:=φ) h
def pS:∀ {fs:List (Str×W)}{vs:List (Str×V)},Rfs K H φ fs vs->vs=(fs.map (·.1)).zip (vs.map (·.2))
 |[],vs,r=>by cases r;rfl
 |(n,x)::fs,vs,r=>by
  obtain⟨v,s,rfl,e,g⟩:=r;rw[qaq,qaq,qcD,<-pS g]
def qI {st:Sto} (S:Sr K H φ st):∀ {fs:List (Str×W)}{vs:List (Str×V)}{ds:List D},Rfs K H φ fs vs->vwF st fs=some ds->Rls K H [] ds (vs.map (·.2))
 |[],vs,ds,r,h=>by cases r;cases h;rfl
 |(n,.d x)::fs,vs,ds,r,h=>by
  obtain⟨v,s,rfl,e,g⟩:=r;obtain⟨y,k,rfl⟩:=qad.mp h;exact⟨v,_,rfl,Rl.bare e,qI S g k⟩
 |(n,.h m)::fs,vs,ds,r,h=>by
  obtain⟨v,s,rfl,e,g⟩:=r;obtain⟨es,A,h⟩:=qac.mp h;obtain⟨y,k,rfl⟩:=qad.mp h;obtain⟨a,l,rfl⟩:=e;obtain⟨j,B,u⟩:=S.atl m a es l A;exact⟨_,_,rfl,⟨a,j,rfl,qbL,.inl B,Rls.bare u⟩,qI S g k⟩
def wo {st:Sto} (S:Sr K H φ st):∀ {ws:List W}{vs:List V}{ws':List W},Rws K H φ ws vs->vwA st ws=some ws'->Rws K H [] ws' vs
 |[],vs,ws',r,h=>by cases h;exact r
 |w::ws,vs,ws',r,h=>by
  obtain⟨v,s,rfl,e,g⟩:=r;obtain⟨x,c,h⟩:=qac.mp h;obtain⟨y,k,rfl⟩:=qad.mp h;refine⟨v,s,rfl,?_,wo S g k⟩;cases w with
  |d z=>cases c;exact Rl.bare e
  |h n=>
   unfold vwW at c;dsimp only at c;split at c
   ·rename_i fs t
    split at c
    ·rename_i F
     obtain⟨ds,i,rfl⟩:=qad.mp c;obtain⟨a,l,rfl⟩:=e;obtain⟨Cl,E,j,q,C,b,G,hA⟩:=S.at_ n a _ l t;refine⟨a,Cl,E,j,j.map (·.2),rfl,qbL,q,pS C,by rw[qah,qah,C.length],by rw[qah];exact F,G,λf J=>?_,qI S C i⟩;obtain⟨p,I,rfl⟩:=qaX.mp J;exact hA p I
    ·cases c
   ·rename_i ds i
    cases c;obtain⟨a,l,rfl⟩:=e;obtain⟨j,B,u⟩:=S.at_ n a _ l i;exact⟨a,j,rfl,qbL,.inl B,Rls.bare u⟩
   ·cases c
end
def dj (m:Fn) (a:Af):Ef
 |env,st=>(a env st).bind λr=>(vwA r.2 r.1).bind λws=>(m ws []).bind λy=>match y.1 with
 |.d x=>if okT x=true then some (.d x,r.2) else none
 |_=>none
def yZ {K:qae}{X:Cx}{e:Expr}{es:List Expr}{pos:Pos}{t:Af}{x:Str}{k j:Nat}{l:Addr}{fd:qau}{ps:List Str}{m:Fn}{p:Pos} (F:ek X.prog X.w X.K X.mg X.base CX0 j l fd ps (spI K m)) (i:j<=k) (N:bC k X.A) (hg:Gl X x) (hm:X.mg x=some (.ref l)) (B:qcy X.K (.ref l)=true) (hb:aM X.K fd ps [])
  (P:IA K X (e::es) t) (g:(x==("__debug__" : Str))=false:=by decide) (E:ax e=true:=by rfl) (I:es.all ax=true:=by rfl) :
  IE K X (.Call (.Name x p) (e::es) [] pos) (dj m t):=by
 refine⟨λenv st r h=>?_⟩;simp only[dj,qac]at h;obtain⟨y,C,ws,f,⟨w,S⟩,M,h⟩:=h;cases w with
 |h n=>cases h
 |d z=>
  dsimp only at h;split at h
  case isFalse=>cases h
  rename_i hok;cases h;refine (wm (F.mono i) N hg hm B hb .nil zm (P.run _ _ _ C) g (aT E) (bx I)).imp ?_
  rintro T H Q ⟨φ,J,D,q⟩
  refine⟨φ,J,D,λvs H1 s f1 s1 O=>?_⟩;show spI K m (vs++[]) H1 Q E0;rw[qb3];refine⟨[],[],ws,_,M,wo s1 O f,⟨qcU,rfl,λn a c A _=>by cases A⟩,λv H2 R f2 L G=>?_⟩;have u:aS H1 H2:=λb o h=>f2.keep b o qbL h;exact q v H2 s (f1.trans (Fw.same u)) (s1.same u) (Rl.any hok G)
def Rls.flat {K:qae}{H H':Hp}{φ c:List Addr}:∀ {ds:List D}{vs:List V},ds.all dc=true->Rls K H φ ds vs->Rls K H' c ds vs
 |[],_,_,h=>h
 |d::ds,_,o,h=>by
  rw[qbz,qbb]at o;obtain⟨v,r,rfl,a,e⟩:=h;refine⟨v,r,rfl,?_,Rls.flat o.2 e⟩;cases d with
  |non=>exact a
  |bl b=>exact a
  |int b=>exact a
  |str b=>exact a
  |_=>exact absurd o.1 (by simp[dc])
def i3 (il ip ic it ia:Nat) (fl:Lf):Sf
 |env,st=>(fl env st).bind λr=>match env.getD ip none,env.getD ic none,env.getD it none,env.getD ia none with
 |some (.d (.int p)),some (.d (.int c)),some (.d (.lst ts)),some (.d a)=>(ixN r.1.length p).bind λj=>(ixN ts.length c).bind λi=>if ts.length<=1000000/\il<env.length/\ts.all dc=true then some (.nx (env.set il (some (.d (.lst (r.1.set j (.lst (ts.set i a))))))) r.2) else none
 |_,_,_,_=>none
def mG {env:Ev}{i:Nat}{w:W} (h:env.getD i none=some w):env[i]?=some (some w):=by
 rw[qfL]at h;cases q:env[i]? with
 |none=>rw[q]at h;cases h
 |some o=>rw[q]at h;rw[show o=some w from h]
def AR {α:Type}{xs:List α}{i:Int}{j:Nat}{v:α} (h:ixN xs.length i=some j) (a:xs[j]?=some v):atI xs i=some v:=by
 unfold atI;rw[h];exact a
def DP {n:Nat}{i:Int}{j:Nat} (h:ixN n i=some j):j<n:=(qO h).2.1
structure ISL (K:qae) (X:Cx) (s:Stmt) (i0:Nat) (fl:Lf):Prop where
 run:∀ env st r,fl env st=some r->PS X s (λD σ H=>∃ φ,Er K H φ env σ/\Sr K H φ st/\∀ a vs H1 φ',Fw φ φ' H H1->Sr K H1 φ' r.2->H1 a=none->Rls K H1 φ' r.1 vs->D.nx (σ.set i0 (some (.ref a))) (upd H1 a (.lst vs)))
def Cq {K:qae}{X:Cx}{pos:Pos}{i:Expr}{b:Scope}{Nc:List Str}{k:Nat}{js:List Nat}{f iter:Expr}{e:List Expr}{w:Lf}{g:Tg}{tt:Tf}{te:Ef}{i0:Nat}{x0:Str}{v d:Pos}
  (m:X.N.Nodup) (p:X.N[i0]?=some x0) (u:Loc X.env.scope x0) (S:dW X b Nc (gh k js)) (y:X.calm=true) (t:∀ j∈t7 g,j<k) (z:II K X i iter w)
  (hg:∀ a s H C fp,PG (lcX X b a Nc s H C fp) i (tG K g)) (I:∀ a s H C fp,ITs K (lcX X b a Nc s H C fp) e tt) (G:∀ a s H C fp,IE K (lcX X b a Nc s H C fp) f te)
  (hsw:qcB (.ListComp f [⟨i,iter,e,0⟩] b pos) (some (.Name x0 v)) d.line X.env=pure true:=by rfl)
  (o:X.fn x0=true\/X.env.scope.names.lookup x0=some .local:=by first|exact .inl rfl|exact .inr rfl|assumption)
  (E:∀ x,qb6 iter X.env x=pure x:=by intro _;rfl):ISL K X (.Assign [.Name x0 v] (.ListComp f [⟨i,iter,e,0⟩] b pos) d) i0 (iLc k js w g tt te):=by
 refine⟨λenv st r l=>?_⟩;simp only[iLc,qac]at l;obtain⟨⟨ds,s1⟩,A,l⟩:=l;have c:(if ds.length<=1000000 then lcI g tt te (gq k js env) ds s1 else none)=some r:=l;by_cases n:¬ ds.length<=1000000
 ·rw[if_neg n]at c;cases c
 have h:ds.length<=1000000:=by lia
 rw[if_pos h]at c;refine (Ce m p u S y (z.run _ _ _ A) hg (λa s H C fp=>(I a s H C fp).run) (λa s H C fp=>(G a s H C fp).any) hsw o E).imp ?_
 rintro D J H ⟨φ,F,B,q⟩
 exact uP t h c J H _ ⟨φ,F,B,q⟩
section
variable {K:qae}{X:Cx}{Q:Stmt}{n t G I F:Str}{il ip ic it ia:Nat}{comp:Expr}{fl:Lf}{ss:List Stmt}{gb:Sf}{p1 p2 p3 p4 p5 p6 p7 p8 p9 Y q2 q3 q4 q5 q6 q7:Pos}
def wF (hN:X.N.Nodup) (nl:X.N[il]?=some n) (np:X.N[ip]?=some t) (nc:X.N[ic]?=some G) (nt:X.N[it]?=some I) (na:X.N[ia]?=some F)
  (ll:Loc X.env.scope n) (vl:Vis X.env.scope n) (vp:Vis X.env.scope t) (vc:Vis X.env.scope G) (vt:Vis X.env.scope I) (va:Vis X.env.scope F) (d1:il≠ip) (d2:il≠ic) (d3:il≠it) (d4:il≠ia)
  (bl:(n==("__debug__" : Str))=false) (bp:(t==("__debug__" : Str))=false) (bc:(G==("__debug__" : Str))=false) (bt:(I==("__debug__" : Str))=false) (ba:(F==("__debug__" : Str))=false)
  (el:(n==("__classdict__" : Str))=false) (ep:(t==("__classdict__" : Str))=false) (ec:(G==("__classdict__" : Str))=false) (et:(I==("__classdict__" : Str))=false) (ea:(F==("__classdict__" : Str))=false)
  (O:ISL K X Q il fl) (hgL:Gl X "list") (hmL:X.mg "list" = none) (M:ISs K X ss gb)
  (hs2:qfA [.Subscript (.Name n p3) (.Name t p4) p5] (.Call (.Name "list" p6) [.Name I p7] [] p8) p9.line X.env=pure false) (W:qfB [.Subscript (.Name n p3) (.Name t p4) p5] (.Call (.Name "list" p6) [.Name I p7] [] p8) X.env=pure none)
  (hs3:qfA [.Subscript (.Subscript (.Name n Y) (.Name t q2) q3) (.Name G q4) q5] (.Name F q6) q7.line X.env=pure false) (hw3:qfB [.Subscript (.Subscript (.Name n Y) (.Name t q2) q3) (.Name G q4) q5] (.Name F q6) X.env=pure none) (hK:X.K=K) :
  ISs K X (Q::.Assign [.Subscript (.Name n p3) (.Name t p4) p5] (.Call (.Name "list" p6) [.Name I p7] [] p8) p9::.Assign [.Subscript (.Subscript (.Name n Y) (.Name t q2) q3) (.Name G q4) q5] (.Name F q6) q7::ss) (ah (i3 il ip ic it ia fl) gb):=by
 subst hK;refine⟨λenv st r S=>?_⟩;simp only[ah,i3,qac]at S;obtain⟨r1,⟨⟨ds,s1⟩,hfl,g⟩,S⟩:=S;split at g
 case h_2=>cases g
 rename_i p c ts a hp hc ht ha';simp only[qac]at g;obtain⟨j,hj,i,hi,g⟩:=g;split at g
 case isFalse=>cases g
 rename_i hz;cases g;dsimp only at S;have T:pP s1 [.d (.lst ts)]=some ts:=rfl;have pl:∀ {q:Pos},PE X (.Name n q) (qF il):=λ{q}=>iH nl vl bl el;have pp:∀ {q:Pos},PE X (.Name t q) (qF ip):=λ{q}=>iH np vp bp ep;have pc:∀ {q:Pos},PE X (.Name G q) (qF ic):=λ{q}=>iH nc vc bc ec;have pt:∀ {q:Pos},PE X (.Name I q) (qF it):=λ{q}=>iH nt vt bt et;have pa:∀ {q:Pos},PE X (.Name F q) (qF ia):=λ{q}=>iH na va ba ea
 refine (dC (O.run _ _ _ hfl) (dC (uW (di ((qK (K:=X.K) rfl).run s1 [.d (.lst ts)] ts T) hgL hmL qct (mz pt qc) (by decide) (by decide)) (uU pl pp nw (rq rfl)) hs2 W (pW rfl))
  (dC (uW pa (uU (BT uM pl pp (su rfl)) pc nw (rq rfl)) hs3 hw3 (pW rfl)) (M.run _ _ _ S)))).imp ?_
 rintro D σ H ⟨φ,hE,hS,q⟩
 refine⟨φ,hE,hS,λm vs H1 l f1 S1 A rl=>?_⟩;have s:=hE.fw hS f1;obtain⟨vp',gp,rp⟩:=s.at_ ip _ (mG hp);obtain⟨vc',gc,rc⟩:=s.at_ ic _ (mG hc);obtain⟨vt',gt,rt⟩:=s.at_ it _ (mG ht);obtain⟨L,ga,ra⟩:=s.at_ ia _ (mG ha');have rp:vp'=.int p:=rp;have rc:vc'=.int c:=rc;subst rp rc;have nep:il≠ip:=d1;have f:∀ {k:Nat}{u:V}{v:V},il≠k->σ[k]?=some (some u)->(σ.set il (some v))[k]?=some (some u):=λ{k u v} h e=>by rw[qbx h];exact e
 -- the list's line
 refine⟨_,f d3 gt,l,S1.new A,⟨vt',[],rfl,?_,rfl⟩,λbl E H2 sm N ru=>?_⟩
 ·exact (Rl.fw S1 (Fw.new A) rt)
 have C:H2 m=some (.lst vs):=sm _ _ upd_same;have y:m≠bl:=aJ C N;have x:vs.length=ds.length:=rl.length.symm;have hul:E.length=ts.length:=ru.length.symm;have R:(σ.set il (some (.ref m)))[il]?=some (some (.ref m)):=by
  rw[qbj];rw[<-hE.len];exact hz.2.1
 refine⟨_,R,_,f d1 gp,m,vs,p,j,rfl,rfl,by rw[upd_ne y];exact C,by rw[x];exact hj,?_⟩;have hjl:j<vs.length:=by rw[x];exact DP hj
 refine⟨_,f d4 ga,_,R,_,f d1 gp,.inl ⟨m,vs.set j (.ref bl),p,.ref bl,rfl,rfl,SqL.of upd_same,AR (j:=j) (by rw[qb2,x];exact hj) (by rw[qbj hjl]),?_⟩⟩;refine⟨_,f d2 gc,bl,E,c,i,rfl,rfl,by rw[upd_ne (qbC y),upd_same],by rw[hul];exact hi,?_⟩;have J:aS H1 (upd (upd (upd H2 bl (.lst E)) m (.lst (vs.set j (.ref bl)))) bl (.lst (E.set i L))):=λb o h=>by
  have e1:b≠m:=λz=>by rw[z,A]at h;cases h
  have P:H2 b=some o:=sm b o (by rw[upd_ne e1];exact h);have e2:b≠bl:=λz=>by rw[z,N]at P;cases P
  rw[upd_ne e2,upd_ne e1,upd_ne e2];exact P
 have nal:m∉l:=S1.nin A;have nbl:bl∉l:=λz=>by
  obtain⟨o,ho,_⟩:=S1.lst z
  have:bl≠m:=qbC y
  have P:H2 bl=some o:=sm bl o (by rw[upd_ne this];exact ho);rw[N]at P;cases P
 dsimp only;generalize hH:upd (upd (upd H2 bl (.lst E)) m (.lst (vs.set j (.ref bl)))) bl (.lst (E.set i L))=H5 at J ⊢;have ha5:H5 m=some (.lst (vs.set j (.ref bl))):=by rw[<-hH,upd_ne y,upd_same]
 have hb5:H5 bl=some (.lst (E.set i L)):=by rw[<-hH,upd_same]
 have B:Fw l l H1 H5:=Fw.same J;have ru5:Rls X.K H5 l ts E:=Rls.flat hz.2.2 ru;refine⟨l,(s.fw S1 B).set il (w:=.d (.lst (ds.set j (.lst (ts.set i a))))) ?_,S1.same J,?_⟩
 ·exact⟨m,_,rfl,nal,.inl ha5,Rls.set j (rl.fw S1 B) ⟨bl,_,rfl,nbl,.inl hb5,Rls.set i ru5 (Rl.fw S1 B ra)⟩⟩
 ·exact q.fw (f1.trans B)
end
end L2
namespace L2
open PySem PySem.Spec PyProof.Rows
section
variable {K:qae}{X:Cx}
def EL (_ j:Int):Prop:=0<j/\j.natAbs.log2<9000
def yk:OpR X (qby .FloorDiv) (rI EL λi j=>.int (i / j)):=opI λi j _ _ _ _ _ g q=>by
 obtain⟨h0,h1⟩:=g;exact floordiv_int (by lia) (by rw[qdS i (by lia)];exact q) (.inl (PyProof.noPylong_of_log2 h1))
def mm (_:Sto):W->W->Option D
 |.d (.int i),.d (.int j)=>if 0<j/\j.natAbs.log2<9000 then some (.int (i / j)) else none
 |_,_=>none
def Cn:OpD K X (qby .FloorDiv) mm:=dI λst x y d h=>by
 match x,y,h with
 |.d (.int i),.d (.int j),h=>
  simp only[mm]at h;split at h
  ·rename_i g
   cases h;exact⟨i,j,rfl,rfl,yk.imp λvx vy H Q ⟨a,b,q⟩=>⟨i,j,a,b,g,q⟩,rfl⟩
  ·cases h
def xV:bY X (.type "range") (λxs H Q=>∃ i j:Int,xs=[.int i,.int j]/\∀ p,H p=none->Q (.ref p) (upd H p (.rng i j))):=by
 intro J s σ H xs us Q I P h;obtain⟨i,j,rfl,q⟩:=h;cases P with
 |cons r L=>
  cases L with
  |cons r' L=>
   cases L;obtain⟨t,rfl⟩:=r;obtain⟨t',rfl⟩:=r';exact call_range_2 ⟨.ref _,_,I.laid (o:=.rng i j) (λ_ _ q=>qaj _ q) (qar _) ⟨_,_,_,qav _ rfl⟩,rfl,q _ I.fresh⟩
def yc {acc:Array Value}{lo:Int}{n:Nat} (h:ItemsOf (λi v=>∃ t,v=Value.int (lo+(i:Int)*1) t) acc n):aI ((qag n).map λk:Nat=>V.int (lo+k)) acc.toList:=by
 obtain⟨hz,hi⟩:=h;have key:∀ (l:List Value) (k:Nat),(∀ j v,l[j]?=some v->∃ t,v=Value.int (lo+((k+j:Nat):Int)) t)->aI ((qeM k l.length).map λk:Nat=>V.int (lo+k)) l:=by
  intro l
  induction l with
  |nil=>intro k _;exact .nil
  |cons x l ih=>
   intro k h;obtain⟨t,e⟩:=h 0 x rfl;rw[qam,qhE,qaq];refine .cons ⟨t,e⟩ (ih (k+1) λj v R=>?_);obtain⟨t,e⟩:=h (j+1) v (by simpa using R);exact⟨t,by rw[e,show k+(j+1)=k+1+j by lia]⟩
 have:=key acc.toList 0 λj v R=>by
  obtain⟨t,e⟩:=hi j v (by simpa using R);exact⟨t,by rw[e,qc5,qaT]⟩
 rw[qgP];rw[qbs,hz]at this;exact this
def vY (g:X.calm=true:=by rfl):bY X (.type "list") (λxs H Q=>∃ (p:Addr) (lo:Int) (n:Nat),xs=[.ref p]/\H p=some (.rng lo (lo+(n:Int)))/\n<=1000/\-1000000<=lo/\lo<=1000000/\∀ l,H l=none->Q (.ref l) (upd H l (.lst ((qag n).map λk:Nat=>V.int (lo+k))))):=by
 intro J s σ H xs us Q I P h;obtain⟨p,lo,n,rfl,C,hn,l1,l2,q⟩:=h;cases P with
 |cons r L=>
  cases L;cases r;obtain⟨t,u,v,e⟩:=I.hok p _ C;refine call_list_range (I.ok.hd g) e ?_ (n:=n) ?_ (by lia) λh' tk acc c kp e' M=>?_
  ·have fl:∀ z:Int,-2000000<=z->z<=2000000->qeK z=true:=λz h1 h2=>by
    unfold qeK;simp only[qbb,decide_eq_true_eq];omega
   have hsz:qe8 lo (lo+(n:Int)) 1=(n:Int):=by rw[qg8];split<;>lia
   unfold qiH;rw[hsz];simp[fl lo (by lia) (by lia),fl (lo+(n:Int)) (by lia) (by lia),fl 1 (by lia) (by lia),fl (n:Int) (by lia) (by lia)]
  ·rw[qg8];split<;>lia
  ·exact⟨.ref s.heap.objs.size,_,I.laid (t':=tk) kp (qar _) (show bG X.prog X.w _ h' _ (.lst ((qag n).map λk:Nat=>V.int (lo+k))) from ⟨by rw[qah,qat];exact kS hn,acc.toList,c,yc M,by simpa using e'⟩),rfl,q _ (I.hok.fresh (qar _))⟩
def xf (a:Af):Lf
 |env,st=>(a env st).bind λr=>match r.1 with
 |[.d (.int j)]=>if 0<=j/\j<=1000 then some (bF 0 j.toNat,r.2) else none
 |_=>none
def qq (a:Af):Lf
 |env,st=>(a env st).bind λr=>match r.1 with
 |[.d (.int i),.d (.int j)]=>if 0<=j - i/\j - i<=1000/\-1000000<=i/\i<=1000000 then some (bF i (j - i).toNat,r.2) else none
 |_=>none
def Rls.rng {H:Hp}{φ:List Addr} (lo:Int) (n:Nat):Rls K H φ (bF lo n) ((qag n).map λk:Nat=>V.int (lo+k)):=by
 have:bF lo n=((qag n).map λk:Nat=>lo+(k:Int)).map D.int:=by unfold bF;rw[qaR];rfl
 rw[this,show ((qag n).map λk:Nat=>V.int (lo+k))=((qag n).map λk:Nat=>lo+(k:Int)).map V.int by rw[qaR];rfl];exact Rls.of_ints _
variable {a b:Expr}{N:Af}{p1 p2 p3 p4:Pos}
def zu (G:Gl X "list") (w:X.mg "list" = none) (B:Gl X "range") (A:X.mg "range" = none) (ha:IA K X [a] N) (g:X.calm=true:=by rfl) (T:ax a=true:=by rfl) :
  IL K X (.Call (.Name "list" p1) [.Call (.Name "range" p2) [a] [] p3] [] p4) (xf N):=by
 refine⟨λenv st r f=>?_⟩;simp only[xf,qac]at f;obtain⟨⟨ws,s1⟩,hw,f⟩:=f;dsimp only at f;split at f
 case h_2=>cases f
 rename_i j;split at f
 case isFalse=>cases f
 rename_i hj;cases f;refine (di (vY g) G w qct (mz (di Bs B A qfd (ha.run _ _ _ hw) (by decide) (by decide) (aT T) (bx rfl)) qc (aT rfl)) (by decide) (by decide) (aT rfl) (bx rfl)).imp ?_
 rintro σ H Q ⟨φ,Y,S,q⟩
 refine⟨φ,Y,S,λvs H1 F f1 E w1=>?_⟩;obtain⟨v,r,rfl,m,rfl⟩:=w1;have m:v=.int j:=m;subst m;refine⟨j,rfl,λp C=>⟨p,0,j.toNat,rfl,?_,by lia,by lia,by lia,λl hl=>?_⟩⟩
 ·rw[upd_same,qcd,qhi hj.1]
 ·exact q l _ _ F (f1.trans (Fw.new C)) (E.new C) hl (Rls.rng 0 j.toNat)
def ym (G:Gl X "list") (w:X.mg "list" = none) (B:Gl X "range") (A:X.mg "range" = none) (ha:IA K X [a,b] N) (g:X.calm=true:=by rfl) (T:ax a=true:=by rfl) (O:ax b=true:=by rfl) :
  IL K X (.Call (.Name "list" p1) [.Call (.Name "range" p2) [a,b] [] p3] [] p4) (qq N):=by
 refine⟨λenv st r f=>?_⟩;simp only[qq,qac]at f;obtain⟨⟨ws,s1⟩,hw,f⟩:=f;dsimp only at f;split at f
 case h_2=>cases f
 rename_i i j;split at f
 case isFalse=>cases f
 rename_i hj;cases f;refine (di (vY g) G w qct (mz (di xV B A qfd (ha.run _ _ _ hw) (by decide) (by decide) (aT T) (bx (by rw[qbz,O];rfl))) qc (aT rfl)) (by decide) (by decide) (aT rfl) (bx rfl)).imp ?_
 rintro σ H Q ⟨φ,Y,S,q⟩
 refine⟨φ,Y,S,λvs H1 F f1 E w1=>?_⟩;obtain⟨v,r,rfl,m,u,r',rfl,r2,rfl⟩:=w1;have m:v=.int i:=m;have r2:u=.int j:=r2;subst m r2;refine⟨i,j,rfl,λp C=>⟨p,i,(j - i).toNat,rfl,?_,by lia,by lia,by lia,λl hl=>?_⟩⟩
 ·rw[upd_same,qhi hj.1,show i+(j - i)=j by lia]
 ·exact q l _ _ F (f1.trans (Fw.new C)) (E.new C) hl (Rls.rng i (j - i).toNat)
end
section
variable {K:qae}{X:Cx}
end
def zd (_:Sto):List W->Option D
 |[.d (.lst ds)]=>(iB ds).map λns=>.bl (ns.any id)
 |_=>none
section
variable {K:qae}{X:Cx}
def xR:bY X (.builtin "any") (λxs H Q=>X.calm=true/\∃ (a:Addr) (bs:List Bool),xs=[.ref a]/\SqL X.K H a (bs.map V.bl)/\Q (.bl (bs.any id)) H):=by
 intro B s W H xs F Q I l h;obtain⟨m,a,bs,rfl,P,q⟩:=h;cases l with
 |cons r O=>
  cases O;cases r;obtain⟨its,l,p,T⟩:=I.list P;have w:a<s.heap.objs.size:=by obtain⟨_,_,e,_⟩:=p;exact qax e
  have k:its.length=bs.length:=by have:=l.length;simpa using this.symm
  refine call_any_walk (qek p.isList ?_);refine⟨s.heap.objs.size,_,_,_,_,_,λi=>(bs[i]?).getD true,rfl,qiN (A:=X.A.in1) (I.ok.hd m) s.heap.objs.size a (qaL w) its.toArray,⟨⟨_,qav _ rfl,rfl,rfl⟩,p.isList.push _⟩,?_,λh' M E=>?_⟩
  ·intro i v s' Q' E' G t
   have j:its[i]?=some v:=by simpa using G
   have g:i<its.length:=(qas.mp j).1;obtain⟨b,hb⟩:∃ b,bs[i]?=some b:=⟨bs[i]'(by lia),by simp[show i<bs.length by lia]⟩
   have:(bs.map V.bl)[i]?=some (.bl b):=by rw[qaD,hb];rfl
   obtain⟨u,y,D⟩:=l.get this;rw[j]at y;cases y;cases D;have f:Q' ((bs[i]?).getD true) s':=t;rw[hb]at f;exact qcA f
  ·refine⟨.bl (bs.any id),H,I.kept (t':=M) (λb o e=>E b o (λz=>absurd (qax e) (by rw[qap.mp z];exact qa8 _)) (qaj _ e)),?_,q⟩
   show Value.bool _=Value.bool _
   congr 1
   have:∀ n,n=bs.length->((qag n).any λi=>(bs[i]?).getD true)=bs.any id:=by
    intro n hn;subst hn;rw[qb4,qfq,qfq];constructor
    ·rintro⟨i,g,h⟩
     have c:=qaU.mp g;refine⟨bs[i],qbU c,?_⟩;rw[qao c]at h;exact h
    ·rintro⟨x,C,h⟩
     obtain⟨i,g,rfl⟩:=List.getElem_of_mem C;refine⟨i,qaU.mpr g,?_⟩;rw[qao g];exact h
   exact this _ (by simpa using k)
def AI (m:X.calm=true:=by rfl) (N:X.K=K:=by rfl):hW K X (.builtin "any") zd:=by
 subst N;refine⟨λst ws d h=>?_⟩
 match ws,h with
 |[.d (.lst ds)],h=>
  obtain⟨ns,e,rfl⟩:=qad.mp h;cases jb e;refine bY.imp xR ?_
  rintro vs H Q ⟨φ,S,⟨v,r,rfl,⟨a,F,rfl,R,J,L⟩,rfl⟩,q⟩
  cases L.bools;exact⟨m,a,ns,rfl,.inl J,q _ H (aS.refl H) rfl⟩
end
structure Cal (P:qaQ) (w:World) (K:qae) (mg:Str->Option Value) (base:Heap) (x:Str) (j:Nat) (m:Fn):Prop where
 ex:∃ ff fd ps,ek P w K mg base CX0 j ff fd ps (spI K m)/\mg x=some (.ref ff)/\qcy K (.ref ff)=true/\aM K fd ps []
section
variable {P:qaQ}{w:World}{K:qae}{mg:Str->Option Value}{base:Heap}{x a:Str}{st:Stmt}{f:Addr}{fd:qau}{N ps:List Str}{k j:Nat}{b:Sf}{m:Fn}
def Gd (F:Fun K x a st f fd) (S:aw N ps (ag st))
  (hb:∀ (d:Value) (A:qa2) (outer:List Env) (s:qak) (H:Hp) (E:XK),bC k (A.deeper (qen a (ag st) s.heap.objs.size f d))->(ir CX0 P w K mg base N a (ag st) f d A outer s H E).nox.N=N->(ir CX0 P w K mg base N a (ag st) f d A outer s H E).nox.env.scope.names=(ag st).names->N.Nodup->ISs K (ir CX0 P w K mg base N a (ag st) f d A outer s H E).nox (cz st) b) :
  ek P w K mg base CX0 (k+1) f fd ps (spI K (gy N.length ps.length b)):=EW F S λc A o s H E r=>hb c A o s H E r rfl rfl S.nd
def bn (F:Fun K x a st f fd) (S:aw N ps (ag st)) (hm:mg x=some (.ref f)) (i:aM K fd ps [])
  (hb:∀ (d:Value) (A:qa2) (outer:List Env) (s:qak) (H:Hp) (E:XK),bC k (A.deeper (qen a (ag st) s.heap.objs.size f d))->(ir CX0 P w K mg base N a (ag st) f d A outer s H E).nox.N=N->(ir CX0 P w K mg base N a (ag st) f d A outer s H E).nox.env.scope.names=(ag st).names->N.Nodup->ISs K (ir CX0 P w K mg base N a (ag st) f d A outer s H E).nox (cz st) b) :
  Cal P w K mg base x (k+1) (bi N.length ps.length b):=⟨_,_,_,GK F S λc A o s H E r=>hb c A o s H E r rfl rfl S.nd,hm,F.kp,i⟩
def lR (F:Fun K x a st f fd) (S:aw N ps (ag st)) (hm:mg x=some (.ref f)) (i:aM K fd ps [])
  (hb:∀ (d:Value) (A:qa2) (outer:List Env) (s:qak) (H:Hp) (E:XK),bC k (A.deeper (qen a (ag st) s.heap.objs.size f d))->(ir CX0 P w K mg base N a (ag st) f d A outer s H E).nox.N=N->(ir CX0 P w K mg base N a (ag st) f d A outer s H E).nox.env.scope.names=(ag st).names->N.Nodup->ISs K (ir CX0 P w K mg base N a (ag st) f d A outer s H E).nox (cz st) b) :
  Cal P w K mg base x (k+1) (gy N.length ps.length b):=⟨_,_,_,EW F S λc A o s H E r=>hb c A o s H E r rfl rfl S.nd,hm,F.kp,i⟩
variable {X:Cx}{e:Expr}{es:List Expr}{pos p:Pos}{q:Af}
def j6 (G:X.K=K) (C:Cal X.prog X.w X.K X.mg X.base x j m) (B:bC k X.A) (u:j<=k) (hg:Gl X x) (l:IA K X (e::es) q) (h:(x==("__debug__" : Str))=false) (n:ax e=true) (i:es.all ax=true) :
  IE K X (.Call (.Name x p) (e::es) [] pos) (au m q):=by
 subst G;obtain⟨_,_,_,F,hm,I,hb⟩:=C.ex;exact Bi F u B hg hm I hb l h n i
def gi (G:X.K=K) (C:Cal X.prog X.w X.K X.mg X.base x j m) (B:bC k X.A) (u:j<=k) (hg:Gl X x) (l:IA K X (e::es) q) (h:(x==("__debug__" : Str))=false) (n:ax e=true) (i:es.all ax=true) :
  IE K X (.Call (.Name x p) (e::es) [] pos) (dj m q):=by
 subst G;obtain⟨_,_,_,F,hm,I,hb⟩:=C.ex;exact yZ F u B hg hm I hb l h n i
def ER {v:Value}{g:Sto->List W->Option D} (z:qb9 x=some v) (y:hW K X v g) (hg:Gl X x) (hm:X.mg x=none) (l:IA K X (e::es) q)
  (hn:x≠"__name__") (h:(x==("__debug__" : Str))=false) (n:ax e=true) (i:es.all ax=true) (t:(match v with|.builtin _=>true|.type _=>true|_=>false)=true):IE K X (.Call (.Name x p) (e::es) [] pos) (iCB g q):=by
 cases v<;>first|exact pJ y hg hm z l hn h n i|exact FV y hg hm z l hn h n i|cases t
def Fg {v:Value}{g:Sto->List W->Option (List D)} (z:qb9 x=some v) (y:rK K X v g) (hg:Gl X x) (hm:X.mg x=none) (l:IA K X (e::es) q)
  (hn:x≠"__name__") (h:(x==("__debug__" : Str))=false) (n:ax e=true) (i:es.all ax=true) (t:(match v with|.builtin _=>true|.type _=>true|_=>false)=true):IL K X (.Call (.Name x p) (e::es) [] pos) (iCL g q):=by
 cases v<;>first|exact Fk y hg hm z l hn h n i|exact B6 y hg hm z l hn h n i|cases t
end
def tgN:Expr->List Str
 |.Name x _=>[x]
 |.Tuple es _ _=>es.flatMap λe=>match e with
  |.Name x _=>[x]
  |.Tuple es _ _=>es.flatMap λe=>match e with
   |.Name x _=>[x]
   |_=>[]
  |_=>[]
 |_=>[]
def lcN (a:Expr) (js:List Nat) (N:List Str):List Str:=tgN a++js.map λj=>N.getD j ""
def wy {a:Scope}{ns:List (Str×qbQ)}{N Nc:List Str}{k:Nat}{js:List Nat} (h:wA a ns N Nc k js=true):Nc.Nodup:=by
 unfold wA at h;simp only[qbb,decide_eq_true_eq]at h;exact h.1.1.1.2
section
variable {K:qae}{X:Cx}{d:Expr}{pos:Pos}{a:Scope}{k:Nat}{js:List Nat}{i iter:Expr}{f:List Expr}{n:Lf}{g:Tg}{tt:Tf}{te:Ef}{ns:List (Str×qbQ)}{N:List Str}
def C5 (e:X.env.scope.names=ns) (p:X.N=N) (h:wA a ns N (lcN d js N) k js=true) (v:a.kind=.function) (q:X.calm=true) (o:X.env.scope.kind=.function) (m:∀ j∈t7 g,j<k) (u:II K X d iter n)
  (hg:∀ b s H C fp,(lcX X a b (lcN d js N) s H C fp).N.Nodup->PG (lcX X a b (lcN d js N) s H C fp) d (tG K g)) (A:∀ b s H C fp,(lcX X a b (lcN d js N) s H C fp).env.scope.names=wV a.names ns->(lcX X a b (lcN d js N) s H C fp).N=lcN d js N->ITs K (lcX X a b (lcN d js N) s H C fp) f tt)
  (z:∀ b s H C fp,(lcX X a b (lcN d js N) s H C fp).env.scope.names=wV a.names ns->(lcX X a b (lcN d js N) s H C fp).N=lcN d js N->IE K (lcX X a b (lcN d js N) s H C fp) i te) (y:∀ x,qb6 iter X.env x=pure x) :
  IL K X (.ListComp i [⟨d,iter,f,0⟩] a pos) (iLc k js n g tt te):=
 yY (tU ns N _ k js e p v h) q m u (λc s H C fp=>hg c s H C fp (wy h)) (λc s H C fp=>A c s H C fp (mL o e) rfl) (λc s H C fp=>z c s H C fp (mL o e) rfl) y
variable {i0:Nat}{x0:Str}{t l:Pos}
def yN (e:X.env.scope.names=ns) (p:X.N=N) (h:wA a ns N (lcN d js N) k js=true) (r:X.N.Nodup) (B:X.N[i0]?=some x0) (D:Loc X.env.scope x0) (v:a.kind=.function) (q:X.calm=true) (o:X.env.scope.kind=.function) (m:∀ j∈t7 g,j<k) (u:II K X d iter n)
  (hg:∀ b s H C fp,(lcX X a b (lcN d js N) s H C fp).N.Nodup->PG (lcX X a b (lcN d js N) s H C fp) d (tG K g)) (A:∀ b s H C fp,(lcX X a b (lcN d js N) s H C fp).env.scope.names=wV a.names ns->(lcX X a b (lcN d js N) s H C fp).N=lcN d js N->ITs K (lcX X a b (lcN d js N) s H C fp) f tt)
  (z:∀ b s H C fp,(lcX X a b (lcN d js N) s H C fp).env.scope.names=wV a.names ns->(lcX X a b (lcN d js N) s H C fp).N=lcN d js N->IE K (lcX X a b (lcN d js N) s H C fp) i te)
  (hsw:qcB (.ListComp i [⟨d,iter,f,0⟩] a pos) (some (.Name x0 t)) l.line X.env=pure true) (w:X.fn x0=true\/X.env.scope.names.lookup x0=some .local) (y:∀ x,qb6 iter X.env x=pure x) :
  IS K X (.Assign [.Name x0 t] (.ListComp i [⟨d,iter,f,0⟩] a pos) l) (az (.nm i0) (ar (iLc k js n g tt te)))/\
   IS K X (.Assign [.Name x0 t] (.ListComp i [⟨d,iter,f,0⟩] a pos) l) (az (.nm i0) (dh (iLc k js n g tt te))):=
 Fy r B D (tU ns N _ k js e p v h) q m u (λc s H C fp=>hg c s H C fp (wy h)) (λc s H C fp=>A c s H C fp (mL o e) rfl) (λc s H C fp=>z c s H C fp (mL o e) rfl) hsw w y
end
def FJ {K:qae}{X:Cx}{o:BoolOp}{es:List Expr}{pos:Pos}{a:Tf} (h:ITW K X (.BoolOp o es pos) a):IT K X (.BoolOp o es pos) a:=Cg h
section
variable {c:Type} [DecidableEq c]
def iu (a:List (c×V)) (k:c):Option V:=(a.find? λd=>decide (d.1=k)).map (·.2)
def kM (a:List (c×V)) (k:c) (v:V):List (c×V):=
 if (a.any λd=>decide (d.1=k))=true then a.map (λd=>if d.1=k then (d.1,v) else d) else a++[(k,v)]
def ox {p:c×V}{r:List (c×V)}{k:c} (e:p.1=k):iu (p::r) k=some p.2:=by simp[iu,qdb,e]
def mP {p:c×V}{r:List (c×V)}{k:c} (e:¬ p.1=k):iu (p::r) k=iu r k:=by simp[iu,qdb,e]
def rQ (k:c):∀ a:List (c×V),(a.any λd=>decide (d.1=k))=(iu a k).isSome
 |[]=>rfl
 |p::r=>by
  rw[qbZ];by_cases e:p.1=k
  ·simp only[ox e,decide_eq_true e,qiI,qgI]
  ·rw[mP e,decide_eq_false e,qim];exact rQ k r
def mh (a:List (c×V)) (k:c) (v:V):(kM a k v).length<=a.length+1:=by
 unfold kM;split
 ·rw[qah];lia
 ·rw[qaB,qam,qa6];lia
def k9.isSome_eq {o:Option V}{u:Option Value} (r:k9 o u):o.isSome=u.isSome:=by
 cases o with
 |none=>cases u with
  |none=>rfl
  |some _=>exact (show False from r).elim
 |some _=>cases u with
  |none=>exact (show False from r).elim
  |some _=>rfl
def KV.val {a:List (c×V)}{vs:List (c×Value)} (r:KV a vs) (k:c):k9 (iu a k) (qgl vs k):=by
 unfold KV at r
 induction r with
 |nil=>exact True.intro
 |@cons p q ps j h t g=>
  obtain⟨f,l⟩:=h;by_cases e:p.1=k
  ·have m:q.1=k:=f.symm.trans e
   have b:qgl (q::j) k=some q.2:=by simp[qgl,qdb,m]
   rw[ox e,b];exact l
  ·have m:¬ q.1=k:=λz=>e (f.trans z)
   have b:qgl (q::j) k=qgl j k:=by simp[qgl,qdb,m]
   rw[mP e,b];exact g
def KV.any {a:List (c×V)}{vs:List (c×Value)} (r:KV a vs) (k:c):(a.any λd=>decide (d.1=k))=vs.any λd=>decide (d.1=k):=by
 unfold KV at r
 induction r with
 |nil=>rfl
 |cons h t g=>rw[qbZ,qbZ,g,h.1]
def KV.repl {a:List (c×V)}{vs:List (c×Value)} (r:KV a vs) (k:c) {y:V}{u:Value} (i:aQ y u) :
  KV (a.map λd=>if d.1=k then (d.1,y) else d) (vs.map λd=>if d.1=k then (d.1,u) else d):=by
 unfold KV at r ⊢
 induction r with
 |nil=>exact .nil
 |@cons p q ps j h t g=>
  rw[qaq,qaq];refine .cons ?_ g;obtain⟨f,l⟩:=h;by_cases e:p.1=k
  ·rw[if_pos e,if_pos (f.symm.trans e)];exact⟨f,i⟩
  ·rw[if_neg e,if_neg (λz=>e (f.trans z))];exact⟨f,l⟩
def KV.put {a:List (c×V)}{vs:List (c×Value)} (r:KV a vs) (k:c) {y:V}{u:Value} (i:aQ y u):KV (kM a k y) (stored vs k u):=by
 unfold kM stored;rw[r.any k];by_cases e:(vs.any λd=>decide (d.1=k))=true
 ·rw[if_pos e,if_pos e];exact r.repl k i
 ·rw[if_neg e,if_neg e];exact qif r ⟨rfl,i⟩
def KV.length {a:List (c×V)}{vs:List (c×Value)} (r:KV a vs):a.length=vs.length:=qeL r
end
def yX {P:qaQ}{w:World}{k:Key}{u:Value} (r:aQ (kV k) u):(cc P w).is k u=true:=by
 cases k with
 |inl i=>obtain⟨t,e⟩:=(show ∃ t,u=Value.int i t from r);subst e;exact sK P w i t
 |inr x=>obtain⟨t,e⟩:=(show ∃ t,u=Value.str x t from r);subst e;exact sC P w x t
def pH {P:qaQ}{w:World}:∀ {ks:List Key}{a:List Value},aI (ks.map kV) a->ItemsAre (cc P w) ks a
 |[],_,r=>by rw[qbl]at r;cases r;exact .nil
 |k::ks,_,r=>by
  rw[qaq]at r;cases r with
  |cons h t=>exact .cons (yX h) (pH t)
abbrev KT (H:Hp):List (List Key×V)->List (List Key×Addr×Value)->Prop:=qfZ λp q=>p.1=q.1/\H q.2.1=some (.tup (p.1.map kV))/\aQ p.2 q.2.2
def KT.val {H:Hp}{a:List (List Key×V)}{xs:List (List Key×Addr×Value)} (r:KT H a xs) (k:List Key):k9 (iu a k) ((atKey xs k).map (·.2)):=by
 induction r with
 |nil=>exact True.intro
 |@cons p q ps d h t i=>
  obtain⟨f,_,g⟩:=h;by_cases e:p.1=k
  ·have c:q.1=k:=f.symm.trans e
   have b:atKey (q::d) k=some q.2:=by simp[atKey,qdb,c]
   rw[ox e,b];exact g
  ·have c:¬ q.1=k:=λz=>e (f.trans z)
   have b:atKey (q::d) k=atKey d k:=by simp[atKey,qdb,c]
   rw[mP e,b];exact i
def KT.repl {H:Hp}{a:List (List Key×V)}{xs:List (List Key×Addr×Value)} (r:KT H a xs) (k:List Key) {y:V}{u:Value} (f:aQ y u) :
  KT H (a.map λc=>if c.1=k then (c.1,y) else c) (xs.map (putAt k u)):=by
 induction r with
 |nil=>exact .nil
 |@cons p q ps j h t i=>
  rw[qaq,qaq];refine .cons ?_ i;obtain⟨b,d,g⟩:=h;unfold putAt;by_cases e:p.1=k
  ·rw[if_pos e,if_pos (b.symm.trans e)];exact⟨b,d,f⟩
  ·rw[if_neg e,if_neg (λz=>e (b.trans z))];exact⟨b,d,g⟩
def KT.put {H:Hp}{a:List (List Key×V)}{xs:List (List Key×Addr×Value)} (r:KT H a xs) (k:List Key) {b:Addr}{y:V}{u:Value} (hb:H b=some (.tup (k.map kV))) (c:aQ y u) :
  KT H (kM a k y) (storedH xs k b u):=by
 have e:(a.any λd=>decide (d.1=k))=(atKey xs k).isSome:=by
  rw[rQ,(r.val k).isSome_eq,Option.isSome_map]
 unfold kM storedH;rw[e];by_cases q:(atKey xs k).isSome=true
 ·rw[if_pos q,if_pos q];exact r.repl k c
 ·rw[if_neg q,if_neg q];exact qif r ⟨rfl,hb,c⟩
def KT.keeps {H H':Hp}{a:List (List Key×V)}{xs:List (List Key×Addr×Value)} (r:KT H a xs) (d:∀ b c,H b=some (.tup c)->H' b=some (.tup c)):KT H' a xs:=
 qfZ.mapP r λ_ _ z=>⟨z.1,d _ _ z.2.1,z.2.2⟩
section
variable {P:qaQ}{w:World}{H:Hp}{h:Heap}{a:Addr}
def BS {u:HO} (ok:HOk P w H h) (e:Rd H a u):bG P w H h a u:=e.ok ok
def yK {b:List (Key×V)} (ok:HOk P w H h) (e:Rd H a (.dK b)):b.length<=qaO/\(a==qcp)=false/\∃ vs,KV b vs/\h.DictOf (cc P w) a vs:=
 show bG P w H h a (.dK b) from BS ok e
def EZ {b:List (Key×V)} (ok:HOk P w H h) (e:H a=some (.dK b)):b.length<=qaO/\(a==qcp)=false/\∃ vs,KV b vs/\h.DictOf (cc P w) a vs:=yK ok (.inl e)
def u5 {ks:List Key} (ok:HOk P w H h) (e:H a=some (.tup (ks.map kV))):(qgm (cc P w)).is h ks a:=by
 obtain⟨_,its,r,o,g,d,⟨n,f⟩,_⟩:=(show bG P w H h a (.tup (ks.map kV)) from ok a _ e);exact⟨o,its.toArray,n,g,d,f,by simpa using pH r⟩
def zz {b:List (List Key×V)} (ok:HOk P w H h) (e:Rd H a (.dT b)):b.length<=qaO/\(a==qcp)=false/\
  ∃ xs,KT H b xs/\h.DictOfH (qgm (cc P w)) a xs:=by
 obtain⟨z,y,xs,r,o,es,s,g,d,f,j,k⟩:=(show bG P w H h a (.dT b) from BS ok e);refine⟨z,y,xs,r,o,es,s,g,d,f,j,λx c=>?_,k⟩;have all:∀ {l:List (List Key×V)}{m:List (List Key×Addr×Value)},KT H l m->∀ x∈m,(qgm (cc P w)).is h x.1 x.2.1:=by
  intro l m q
  induction q with
  |nil=>intro x c;exact nomatch c
  |@cons p q ps A i t v=>
   intro x c;rcases qaH.mp c with e|c
   ·subst e
    exact u5 ok (by rw[<-i.1];exact i.2.1)
   ·exact v x c
 exact all r x c
def BW {b:List (List Key×V)} (ok:HOk P w H h) (e:H a=some (.dT b)):b.length<=qaO/\(a==qcp)=false/\
  ∃ xs,KT H b xs/\h.DictOfH (qgm (cc P w)) a xs:=zz ok (.inl e)
end
def xG (H:Hp) (a:Addr) (y:V) (r:Option V):Prop:=
 (∃ c k,Rd H a (.dK c)/\y=kV k/\r=iu c k)\/∃ c k b,Rd H a (.dT c)/\y=.ref b/\H b=some (.tup (k.map kV))/\r=iu c k
def y4 (H:Hp) (a:Addr) (y v:V) (H':Hp):Prop:=
 (∃ c k,H a=some (.dK c)/\y=kV k/\c.length<qaO/\H'=upd H a (.dK (kM c k v)))\/
 ∃ c k b,H a=some (.dT c)/\y=.ref b/\H b=some (.tup (k.map kV))/\c.length<qaO/\H'=upd H a (.dT (kM c k v))
def xG.t {H:Hp}{a b:Addr}{c:List (List Key×V)}{k:List Key} (e:H a=some (.dT c)) (d:H b=some (.tup (k.map kV))):xG H a (.ref b) (iu c k):=.inr ⟨c,k,b,.inl e,rfl,d,rfl⟩
def y4.t {H:Hp}{a b:Addr}{c:List (List Key×V)}{k:List Key}{v:V} (e:H a=some (.dT c)) (f:H b=some (.tup (k.map kV))) (d:c.length<qaO) :
  y4 H a (.ref b) v (upd H a (.dT (kM c k v))):=.inr ⟨c,k,b,e,rfl,f,d,rfl⟩
section
variable {X:Cx}{d:List (Addr×Obj)}{B:St}{H:Hp}{s:qak}{a:Addr}{y v:V}{u r:Value}{o:Option V}{A:qa2}{E:Value->qak->Prop}
def Inv.big (I:Inv X d B H s):qcp<s.heap.objs.size:=by
 have h:qaA<s.heap.objs.size:=(I.mod.glob.keeps I.bk).lt;exact qez (by decide) h
def wW {Q:Value->qak->Prop} (L:A.units+1<cLine) (I:Inv X d B H s) (g:xG H a y (some v)) (F:aQ y u) (h:∀ C s',Inv X d B H s'->aQ v C->Q C s') :
  wpAny (model X.prog X.w) A (qeV (.ref a) u) Q E s:=by
 rcases g with⟨f,k,e,n,l⟩|⟨f,k,b,e,n,G,l⟩
 ·subst n
  obtain⟨z,hd,vs,i,j⟩:=yK I.hok e;obtain⟨C,hw,t⟩:=k9.some_of (v:=v) (o:=qgl vs k) (by rw[l];exact i.val k);exact wpAny_getItem_of (yX F) j.mapOf hw (h C _ (I.tok _) t)
 ·subst n
  cases (show u=Value.ref b from F);obtain⟨z,hd,xs,i,j⟩:=zz I.hok e;obtain⟨C,hw,t⟩:=k9.some_of (v:=v) (o:=(atKey xs k).map (·.2)) (by rw[l];exact i.val k);obtain⟨p,Y,M⟩:=qad.mp hw;refine wpAny_getItem_heap (qh7 L) (u5 I.hok G) j Y ?_;rw[M];exact h C _ (I.tok _) t
def vI {h':Heap}{t':Nat}{ob:HO} (I:Inv X d B H s) (mu:Mut (H a)) (D:qc6 a s.heap h') (N:∃ q,h'.get? a=some q) (new:bG X.prog X.w (upd H a ob) h' a ob) :
  Inv X d B (upd H a ob) { s with heap:=h',toks:=t' }:=
 I.write (x:=a) (e:=a) mu (.inl rfl) (λb q hb z=>(D.2 b hb).trans z) N new
def Dd {P:qaQ}{w:World}{H':Hp}{h':Heap}{f:List (Key×V)}{vs:List (Key×Value)} (z:f.length<=qaO) (hd:(a==qcp)=false) (i:KV f vs) (j:h'.DictOf (cc P w) a vs) :
  bG P w H' h' a (.dK f):=⟨z,hd,vs,i,j⟩
def wD {H':Hp}{Q:Unit->qak->Prop} (L:A.units+1<cLine) (I:Inv X d B H s) (g:y4 H a y v H') (F:aQ y u) (S:aQ v r) (h:∀ s',Inv X d B H' s'->Q () s') :
  wpAny (model X.prog X.w) A (qjM (.ref a) u r) Q E s:=by
 rcases g with⟨f,k,e,n,l,K⟩|⟨f,k,b,e,n,G,l,K⟩
 ·subst n K
  obtain⟨z,hd,vs,i,j⟩:=EZ I.hok e;have O:vs.length<=qaO:=by rw[<-i.length];exact z
  have R:(kM f k v).length<=qaO:=by have:=mh f k v;lia
  refine wpAny_setItem_pairs (hsz:=O) (yX F) j λh' m D=>h _ ?_;have N:∃ q,h'.get? a=some q:=let ⟨q,_,_,J,_⟩:=m;⟨q,J⟩;exact vI I (by rw[e];exact True.intro) D N (Dd R hd (i.put k S) m)
 ·subst n K
  cases (show u=Value.ref b from F);obtain⟨z,hd,xs,i,j⟩:=BW I.hok e;have O:xs.length<=qaO:=by rw[<-qeL i];exact z
  have R:(kM f k v).length<=qaO:=by have:=mh f k v;lia
  refine wpAny_setItem_heap (hsz:=O) (qh7 L) (u5 I.hok G) j λh' m D=>h _ ?_;obtain⟨q,es,W,J,h2,h3,h4,_,h5⟩:=m;refine vI I (by rw[e];exact True.intro) D ⟨q,J⟩ ⟨R,hd,_,(i.put k G S).keeps λc ys T=>?_,q,es,W,J,h2,h3,h4,h5⟩;rw[upd_ne (E4 T e (λz=>nomatch z))]
  exact T
end
section
variable {X:Cx}{b:List (Addr×Obj)}{d:St}{H:Hp}{s:qak}{a:Addr}{c:List (Key×V)}{k:Key}{u:Value}{A:qa2}{E:Value->qak->Prop}
end
def DK (i:Expr):Prop:=∀ a iv,qgn i false a iv=operate [a,iv] (qeV a iv)
def AK {prog:qaQ}{w:World}{A:qa2}{E:Value->qak->Prop}{s:qak}{env:Env}{b a:Expr}{pos:Pos}{T id:String}{Q:Value->qak->Prop}
  (l:typeLookup (.type T) "__getitem__" = pure (some (.builtin id))) (m:DK a)
  (h:wpAny (model prog w) A (eval b env) (λo f=>wpAny (model prog w) A (eval a env) (λi c=>c.TypeIs o T/\wpAny (model prog w) A (qeV o i) Q E c) E f) E s) :
  wpAny (model prog w) A (eval (.Subscript b a pos) env) Q E s:=by
 refine qiw (qco h (λo f g=>qco g (λi c d=>?_) λ_ _ x=>x) λ_ _ x=>x);obtain⟨k,d⟩:=d;unfold qg6;refine qab ?_;rw[getitemInPython_of_ne k.not_modules];refine qab (wpAny_specialOf k l ?_);have fin:wpAny (model prog w) A (qgn a false o i) (λr e=>wpAny (model prog w) A (letTemporaryGo b o r >>= λ_=>pure r) Q E e) E c:=by
  rw[m o i];exact wpAny_operating (qco d (λr e j=>qab (wpAny_letTemporaryGo (qan j))) λ_ _ x=>x)
 first
  |exact qan (qab fin)
  |exact qab (qan (qab fin))
  |exact qab fin
def sV {X:Cx}{c:List (Addr×Obj)}{h:St}{H:Hp}{s:qak}{a:Addr}{y:V}{o:Option V} (I:Inv X c h H s) (g:xG H a y o):s.TypeIs (.ref a) "dict":=by
 rcases g with⟨f,k,e,_,_⟩|⟨f,k,b,e,_,_,_⟩
 ·obtain⟨_,_,vs,_,d⟩:=yK I.hok e
  exact d.typeIs
 ·obtain⟨_,_,xs,_,d⟩:=zz I.hok e
  exact d.typeIs
def Et (c ty:TE):TE:=λb H Q=>c b H λx H1=>ty b H1 λy H2=>∃ a v,x=.ref a/\xG H2 a y (some v)/\Q v H2
def Fz (c ty d:TE):TS:=λD b H=>d b H λv H1=>c b H1 λx H2=>ty b H2 λy H3=>∃ a H4,x=.ref a/\y4 H3 a y v H4/\D.nx b H4
section
variable {X:Cx}{o i e c:Expr}{pos d B:Pos}{j ty A:TE}
def Bm (l:X.A.units+1<cLine) (k:PE X o j) (m:PE X i ty) (n:DK i):PE X (.Subscript o i pos) (Et j ty):=by
 intro b s f H Q I h;refine AK PySem.F.slot_dict_getitem.lookup n (thn (k b s f H _ I h) λu s1 ⟨x,H1,I1,q,t⟩=>thn (m b s1 f H1 _ I1 t) λiv C ⟨y,H2,I2,z,a,v,ex,g,w⟩=>?_);subst ex;obtain rfl:u=Value.ref a:=q;exact⟨sV I2 g,wW l I2 g z λK G I3 p=>⟨v,H2,I3,p,w⟩⟩
def Bx (l:X.A.units+1<cLine) (k:PE X o j) (m:PE X i ty) (J:PE X c A) (n:qcB c (some (.Subscript o i d)) pos.line X.env=pure false) :
  PS X (.Assign [.Subscript o i d] c pos) (Fz j ty A):=by
 intro b s f H D I h;refine wpAny_Assign_Subscript (thn (J b s f H _ I h) λr s1 ⟨v,H1,I1,F,t⟩=>thn (k b s1 f H1 _ I1 t) λu C ⟨x,H2,I2,q,w⟩=>thn (m b C f H2 _ I2 w) λiv G ⟨y,H3,I3,z,a,H4,ex,g,E⟩=>?_) n;subst ex;obtain rfl:u=Value.ref a:=q;exact wD l I3 g z F λL I4=>⟨f,H4,I4,E⟩
end
def yF {P:qaQ}{w:World}{H:Hp} (h:Heap) (hb:qcp<h.objs.size):bG P w H (h.push { cls:=.type "dict",data:=.dict #[] }) h.objs.size (.dT []):=
 ⟨qch _,beq_eq_false_iff_ne.mpr (qbC (qaL hb)),[],.nil,_,#[],0,qav _ rfl,⟨rfl,rfl,rfl⟩,rfl,rfl,qcU⟩
def Dh:TE:=λ_ H Q=>∀ p,H p=none->Q (.ref p) (upd H p (.dT []))
section
variable {X:Cx}{pos:Pos}
def zk:PE X (.Dict [] [] pos) Dh:=λb s c H Q I h=>
 wpAny_Dict_empty ⟨.ref s.heap.objs.size,_,I.laid (a:=s.heap.objs.size) (o:=.dT []) (t':=s.toks) (λ_ _ q=>qaj _ q) (qar _) (yF s.heap I.big),rfl,h _ (I.hok.fresh (qar _))⟩
end
section
variable {X:Cx}{b:List (Addr×Obj)}{c:St}{H:Hp}{s:qak}{a:Addr}{y d:V}{u r:Value}{o:Option V}{A:qa2}{E:Value->qak->Prop}
end
section
variable {X:Cx}{o e f:Expr}{a b:Pos}{d ty c:TE}
end
section
variable {X:Cx}{b:List (Addr×Obj)}{d:St}{H:Hp}{s:qak}{a:Addr}{c:List (Key×V)}{A:qa2}{E:Value->qak->Prop}
end
section
variable {X:Cx}{b:List (Addr×Obj)}{c:St}{H:Hp}{s:qak}{a:Addr}{y:V}{u:Value}{A:qa2}{E:Value->qak->Prop}
end
section
variable {prog:qaQ}{w:World}{A:qa2}{E:Value->qak->Prop}{s:qak}{b:Type} [DecidableEq b] {c:KeyKind prog w b}{a:Addr}{d:List (b×Value)}
end
section
variable {X:Cx}{b:List (Addr×Obj)}{d:St}{H:Hp}{s:qak}{a:Addr}{c:List (Key×V)}{k:Key}{u r:Value}{A:qa2}{E:Value->qak->Prop}{z:V}
end
section
variable {K:qae}{X:Cx}{pos:Pos}{e a b o f:Expr}{h c i g d:Ef}
end
section
variable {K:qae}{X:Cx}
end
section
variable {b:Bool}{t:SetTable}{m d k:Nat}
end
section
variable {prog:qaQ}{w:World}{A:qa2}{E:Value->qak->Prop}{s:qak}{a:Addr}{m d k:Nat}
end
section
variable {prog:qaQ}{w:World}{A:qa2}{E:Value->qak->Prop}{s:qak}{a it:Addr}{m d b i:Nat}{f:Nat->Tok}
end
section
variable {prog:qaQ}{w:World}{A:qa2}{E:Value->qak->Prop}{s:qak}{a it:Addr}{m d b i:Nat}{f:Nat->Tok}
end
section
variable {prog:qaQ}{w:World}{A:qa2}{E:Value->qak->Prop}{s:qak}
end
section
variable {prog:qaQ}{w:World}{A:qa2}{R:qjT->qak->Prop}{I:Addr}{fp a:List Addr}{G:Array qii->Array qii->Prop}{P:Nat->Value->Prop}{St:Nat->qak->Prop}
end
section
variable {prog:qaQ}{w:World}{A:qa2}{E:Value->qak->Prop}{s:qak}
end
section
variable {prog:qaQ}{w:World}{A:qa2}{E:Value->qak->Prop}{s:qak}{a r o:Addr}{m m1 m2 d k b:Nat}{f:Nat->Tok}
end
section
variable {prog:qaQ}{w:World}{A:qa2}{E:Value->qak->Prop}{s:qak}{a b r o:Addr}{m m1 m2 d k c:Nat}{f:Nat->Tok}
end
section
variable {prog:qaQ}{w:World}{A:qa2}{E:Value->qak->Prop}{s:qak}{a b r o:Addr}{m m1 m2 d k c:Nat}{f:Nat->Tok}
end
section
variable {prog:qaQ}{w:World}{A:qa2}{E:Value->qak->Prop}{s:qak}{a:Addr}{m d b:Nat}{f:Nat->Tok}
end
section
variable {K:qae}{X:Cx}{pos p:Pos}{e a b:Expr}{f:Ef}{d c:Xf}
end
def kq (h:Heap) (d:Addr) (es:Array qd0) (a:Nat):Prop:=∃ o,h.get? d=some o/\o.ExactDict/\o.data=.dict es a
def kq.at' {h h':Heap}{d:Addr}{es:Array qd0}{a:Nat} (x:kq h d es a) (e:∀ o,h.get? d=some o->h'.get? d=some o):kq h' d es a:=let ⟨o,ho,r⟩:=x;⟨o,e o ho,r⟩
def kq.type {s:qak}{d:Addr}{es:Array qd0}{a:Nat} (x:kq s.heap d es a):s.TypeIs (.ref d) "dict":=let ⟨o,ho,hc,_⟩:=x;⟨o,ho,hc.1⟩
def kq.lt {h:Heap}{d:Addr}{es:Array qd0}{a:Nat} (x:kq h d es a):d<h.objs.size:=let ⟨o,ho,_⟩:=x;qax ho
section
variable {prog:qaQ}{w:World}{A:qa2}{E:Value->qak->Prop}{s:qak}{d it:Addr}{es:Array qd0}{i f:Nat}
def zv {Q:Value->qak->Prop} (hd:(d==qcp)=false) (hm:kq s.heap d es f)
  (j:Q (.ref s.heap.objs.size) { s with heap:=s.heap.push { cls:=.type "dict_keyiterator",data:=.fields #[.ref d,.int 0 0,.int es.size 0,.int f 0] } }) :
  wpAny (model prog w) A (qjN (.ref d)) Q E s:=by
 have D:=hm.type;obtain⟨o,p,B,r⟩:=id hm;refine wpAny_pyIter_slot D qfY (qbN qfY D PySem.F.entry_dict_iter ?_ (PySem.F.args_dict_iter_1 _));unfold qeg.«dict.__iter__»;refine qab ?_;unfold qjJ;refine qab (wpAny_notOrdered_dict D ?_);show wpAny _ _ (pure (Value.ref d)) _ _ s;refine qan ?_;show wpAny _ _ (qfw d >>= _) _ _ s;unfold qfw;rw[if_neg (by rw[hd];exact qaC)];refine qab (qan ?_);refine qab (qfP p r ?_);refine qab (qgk p r ?_);refine qab (qbF (qan ⟨_,rfl,"dict_keyiterator",_,⟨_,qav _ rfl,rfl⟩,qbM.lookup,?_⟩))
 simpa [qeS] using j
def zC {Q:Option Value->qak->Prop} (c:s.heap.IsKeyIter it d i es.size f) (hm:kq s.heap d es f) (u:i<es.size)
  (j:∀ h',h'.IsKeyIter it d (i+1) es.size f->qc6 it s.heap h'->Q (some es[i].key) { s with heap:=h' }) :
  wpAny (model prog w) A (qfC (.ref it)) Q E s:=by
 obtain⟨o,p,B,hd⟩:=id c;obtain⟨J,n,F,l⟩:=id hm;unfold qfC
 refine qab (qeu (qbG (name:=qc7 "__next__") c.typeIs qbM
  (qbN qbM c.typeIs qev ?_ (qeq _))))
 refine qab (qan ?_);refine qab ?_;refine qab ?_
 first|refine qab (qcI c.typeIs (qan ?_))|refine qab (qdd c.typeIs (qan ?_))
 refine qab (qjZ p hd ?_);have k:qef "dict_keyiterator" = false:=by decide
 simp only[k,qa0,if_false];show wpAny _ _ (if (Value.ref d==Value.none)=true then _ else _) _ _ s;rw[if_neg (show ¬ ((Value.ref d==Value.none)=true) from qaC)];refine qab (qan ?_);refine qab (qfP n l ?_);rw[if_neg (by simp)];refine qab (qan ?_);refine qab (qgk n l ?_);rw[if_neg (by simp)];refine qan ?_;simp only[show ¬ ((i:Int)<0) from by lia,if_false,qbg,qbK u];refine qab ?_
 first|refine qab (qcI c.typeIs (qan ?_))|refine qab (qdd c.typeIs (qan ?_))
 refine qab (qhw c.typeIs ?_);show wpAny _ _ (setField (.ref it) 1 (qeS ((i:Int)+1)) >>= _) _ _ s;refine qab (qfa p hd (by simp) ?_);have g:(s.heap.update it (qiy (·.setIfInBounds 1 (qeS ((i:Int)+1))))).IsKeyIter it d (i+1) es.size f:=
  ⟨_,qet _ p (qgJ (qdT hd _)),(qhB ..).trans B,by rw[qdT hd];simp[qeS]⟩
 refine qab (qcr ?_);refine qab (qhw (s:={ s with heap:=s.heap.update it (qiy (·.setIfInBounds 1 (qeS ((i:Int)+1)))) }) g.typeIs ?_);show wpAny _ _ (pure es[i].key) _ _ _;exact qan (qan ⟨_,rfl,qan (j _ g (qdq ..))⟩)
def AN {Q:Option Value->qak->Prop} (t:A.handled=none) (c:s.heap.IsKeyIter it d es.size es.size f) (hm:kq s.heap d es f)
  (j:∀ h',qg3 it s.heap h'->Q none { s with heap:=h' }):wpAny (model prog w) A (qfC (.ref it)) Q E s:=by
 obtain⟨o,p,B,hd⟩:=id c;obtain⟨J,n,F,l⟩:=id hm;unfold qfC
 refine qab (qeu (qbG (name:=qc7 "__next__") c.typeIs qbM
  (qbN qbM c.typeIs qev ?_ (qeq _))))
 refine qab (qan ?_);refine qab ?_;refine qab ?_
 first|refine qab (qcI c.typeIs (qan ?_))|refine qab (qdd c.typeIs (qan ?_))
 refine qab (qjZ p hd ?_);have k:qef "dict_keyiterator" = false:=by decide
 simp only[k,qa0,if_false];show wpAny _ _ (if (Value.ref d==Value.none)=true then _ else _) _ _ s;rw[if_neg (show ¬ ((Value.ref d==Value.none)=true) from qaC)];refine qab (qan ?_);refine qab (qfP n l ?_);rw[if_neg (by simp)];refine qab (qan ?_);refine qab (qgk n l ?_);rw[if_neg (by simp)];refine qan ?_;have G:es.size<=es.size:=qar _;simp only[show ¬ ((es.size:Int)<0) from by lia,if_false,qbg,qdg G];refine qab ?_
 first|refine qab (qcI c.typeIs (qan ?_))|refine qab (qdd c.typeIs (qan ?_))
 show wpAny _ _ (setField (.ref it) 0 .none >>= _) _ _ s;refine qab (qfa p hd (by simp) ?_);show wpAny _ _ (newExc (.type "StopIteration") [] >>= _) _ _ _
 refine qab ?_;simp only[newExc,newTuple];refine qab (qbF ?_ (by size_fits));refine qab (m:=qfb _ _) (wpAny_of_eq (a:=Value.none) (by first|rfl|(simp only[qfb];rfl)) ?_)
 refine qbF ?_ (by size_fits);simp only[raiseNew];refine qab (wpAny_handled ?_);rw[show A.in1.handled=none from t];refine qab (qan (wpAny_throw ?_));refine qab (qiK (T:="StopIteration") (b:=true) ⟨_,qav _ rfl,rfl⟩ qj4 ?_)
 exact qan (j _ (((qdq ..).extBut.push _).push _))
def xJ (t:A.handled=none) (I d:Addr) (z:d≠I) (es:Array qd0) (f:Nat) :
  Walks prog w A I [I,d] [I] es.size (λi v=>∃ e,es[i]?=some e/\v=e.key) (λi h=>h.IsKeyIter I d i es.size f/\kq h d es f) where
 sub:=λb hb=>by simp at hb;simp[hb]
 frame:=λ_ _ _ st y=>⟨st.1.at λo e=>y I (by simp) o e,st.2.at' λo e=>y d (by simp) o e⟩
 item:=λi s Q E H st j=>by
  refine zC st.1 st.2 H λh' g x=>?_;exact j _ h' s.toks ⟨es[i],by simp[H],rfl⟩ ⟨g,st.2.at' λo q=>x.extBut d o z q⟩ λb o hb q=>x.extBut b o (λh=>hb (by simp[h])) q
 done:=λs Q E st j=>AN t st.1 st.2 λh' C=>j h' s.toks λb o hb e=>C b o (λh=>hb (by simp[h])) e
 self:=λ_ _ _ _ st j=>wpAny_pyIter_keyiter st.1 j
def BB (prog:qaQ) (w:World) (d:Addr) (es:Array qd0) (f:Nat) (lo:(d==qcp)=false):PySem.W.KdlSrc prog w "dict" d d es.size (λi v=>∃ e,es[i]?=some e/\v=e.key) (λh=>kq h d es f) where
 type:=λs S=>S.type
 there:=λh S=>⟨S.lt,S.lt⟩
 keep:=λh h' S y=>S.at' λo e=>y d (.inl rfl) o e
 notList:=by decide
 notTuple:=by decide
 hint:=λA E s Q S h=>PySem.W.kdl_hint_dict S.type h
 iter:=λA s t S=>⟨_,_,λE Q h=>zv lo S h,xJ t s.heap.objs.size d (qaL S.lt) es f,
  ⟨⟨_,qav _ rfl,rfl,rfl⟩,S.at' λo e=>qaj _ e⟩⟩
end
section
variable {prog:qaQ}{w:World}{A:qa2}{E:Value->qak->Prop}{s:qak}{d:Addr}{es:Array qd0}{z:Nat}
def tQ {Q:List Value->qak->Prop} (lo:(d==qcp)=false) (S:kq s.heap d es z) (F:A.handled=none) (hn:es.size<=qaO)
  (h:∀ h' f,(∀ b o,s.heap.get? b=some o->h'.get? b=some o)->s.heap.objs.size<h'.objs.size->Q (es.toList.map (·.key)) { s with heap:=h',toks:=f }) :
  wpAny (model prog w) A (collect (.ref d)) Q E s:=by
 have j:d<s.heap.objs.size:=S.lt;unfold collect;refine qab (wpAny_runValue (qjS entry_proto_collect' ?_));show wpAny _ _ (do again (.builtin "list.__iadd__" ⟨[<-newList [],.ref d],[]⟩)) _ _ s
 refine qab (qfz (qan ⟨Code.quiet_builtin _ (by decide +kernel),qjS entry_list_iadd' ?_⟩));show wpAny _ _ (qjI (.ref s.heap.objs.size) (.ref d) (.ref s.heap.objs.size)) _ _ { s with heap:=s.heap.push (qcS "list" #[] 0) }
 refine PySem.W.kdl_extend (A:=A) (R:=λr s'=>match r with
   | .ok (.ret v)=>wpAny (model prog w) A (match v with
     |.ref a=>do
      let o <-load a
      match o.data with
      |.seq xs _=>pure xs.toList
      |_=>qhS "internal:collect"
     |_=>qhS "internal:collect") Q E s'
   |.ok _=>False
   |.error e=>E e s') (s:={ s with heap:=s.heap.push (qcS "list" #[] 0) }) (BB prog w d es z lo) F (S.at' λo e=>qaj _ e) s.heap.objs.size (qcc j) (qcc j) (.ref s.heap.objs.size) 0 (qav _ rfl) (λh' f acc c B T W=>?_) hn
 show wpAny (model prog w) A (do
   let o <-load s.heap.objs.size
   match o.data with
   |.seq xs _=>pure xs.toList
   |_=>qhS "internal:collect") Q E { s with heap:=h',toks:=f }
 refine qab (wpAny_load T ?_);show wpAny _ _ (pure acc.toList) Q E _;have e:acc.toList=es.toList.map (·.key):=by
  apply qbw;intro i;rw[qaD,qgv,qgv];by_cases P:i<acc.size
  ·obtain⟨e,L,C⟩:=W.2 i acc[i] (qbK P)
   rw[L,qbK P,C];rfl
  ·rw[qdg (by lia),qdg (by rw[<-W.1];lia)];rfl
 rw[e];refine qan (h h' f (λb o q=>?_) (qax T));exact B b o (qaL (qax q)) (qaj _ q)
def uH {Q:Value->qak->Prop}{vs:List Value} (lo:(d==qcp)=false) (S:kq s.heap d es z) (F:A.in1.handled=none) (D:es.toList.map (·.key)=vs) (M:vs.length<64) (X:A.in1.in1.units<cLine)
  (t:∀ v∈vs,∃ l,TuI s.heap v l)
  (h:∀ (h':Heap) (f:Nat) (p:Addr) (z:Nat) (out:List Value),(∀ b o,s.heap.get? b=some o->h'.get? b=some o)->s.heap.objs.size<=p->h'.get? p=some (qcS "list" out.toArray z)->out.Perm vs->out.Pairwise (λx y=>OI.kle (tuI s.heap x) (tuI s.heap y))->Q (.ref p) { s with heap:=h',toks:=f }) :
  wpAny (model prog w) A (call (.builtin "sorted") [.ref d]) Q E s:=by
 refine qfW kind_sorted plain_sorted entry_sorted (args_sorted1 _) ?_;unfold qeg.«sorted»;refine qab (m:=checkCount "sorted" 1 1 _) (qan ?_)
 have hsz:es.size<=qaO:=by
  have:=congrArg qgY D
  rw[qah,qbs]at this;rw[qcb];lia
 refine qab (tQ lo S F hsz λk f B j=>?_);rw[D];refine qab (qfz ?_ (by rw[qcb];lia));have n:(k.push (qcS "list" vs.toArray 0)).get? k.objs.size=some (qcS "list" vs.toArray 0):=qav _ rfl
 show wpAny _ _ _ _ _ { s with heap:=k.push (qcS "list" vs.toArray 0),toks:=f }
 refine qab (qcr (qbN qj0 ⟨_,n,rfl⟩ qjR (pi (O:=OI) (rk:=λp=>tuI s.heap p.1) (S:=λp=>∃ l,TuI s.heap p.1 l) (s:={ s with heap:=k.push (qcS "list" vs.toArray 0),toks:=f }) n M (λh' I=>?_) (λv C=>t v C) λout a1 a2=>⟨_,rfl,?_⟩) (qj6 _)))
 ·have g:∀ b o,s.heap.get? b=some o->h'.get? b=some o:=λb o q=>I b o (qaL (qax (B b o q))) (qaj _ (B b o q))
  obtain⟨κ,Y,k2⟩:=rV (prog:=prog) (w:=w) (s:={ s with heap:=h',toks:=f }) (vs:=vs) (λv C=>let ⟨l,tl⟩:=t v C;⟨l,tl.fit g⟩) X;refine⟨κ,Y,λx y ⟨l,G⟩ ⟨m,J⟩ Q E hq=>k2 x y ⟨l,G.fit g⟩ ⟨m,J.fit g⟩ Q E ?_⟩;have H:=G.fit g;have N:=J.fit g;have u:Q (bq (tuI s.heap x.1) (tuI s.heap y.1)) { s with heap:=h',toks:=f }:=hq;show Q (bq (tuI h' x.1) (tuI h' y.1)) { s with heap:=h',toks:=f };rw[H.is,N.is];rw[G.is,J.is]at u;exact u
 ·refine qan ⟨_,rfl,?_⟩
  obtain⟨K,L⟩:=sortedHeap_at (out:=out.toArray) n;refine h _ f k.objs.size K out (λb o q=>?_) (qeB j) L a1 (a2.imp λ{x y} q=>q);have V:=B b o q;have hb:b<k.objs.size:=qax V;show (qir (k.push (qcS "list" vs.toArray 0)) k.objs.size vs out.toArray).get? b=some o
  rw[sortedHeap_old (qaL hb) (by rw[qit];exact qbf hb),qdp _ _ _ (qaL hb)];exact V
end
def mgt (st:Sto) (n:Nat):Option (List (List Int×D)):=match st[n]? with
 |some (.m a)=>some a
 |_=>none
def vM (a:List (List Int×D)) (k:List Int):Option D:=(a.find? λp=>decide (p.1=k)).map (·.2)
def wH (a:List (List Int×D)) (k:List Int) (d:D):List (List Int×D):=if (a.any λp=>decide (p.1=k))=true then a.map λp=>if p.1=k then (p.1,d) else p else a++[(k,d)]
def zr:Ef
 |_,st=>some (.h st.length,st++[.m []])
def wJ (o k:Ef):Ef
 |env,st=>(o env st).bind λx=>(k env x.2).bind λy=>match x.1,y.1 with
 |.h n,.d (.tup ds)=>(mgt y.2 n).bind λa=>(aW ds).bind λl=>(vM a l).map λd=>(.d d,y.2)
 |_,_=>none
def vC (o k v:Ef):Sf
 |env,st=>(v env st).bind λz=>(o env z.2).bind λx=>(k env x.2).bind λy=>match x.1,y.1,z.1 with
 |.h n,.d (.tup ds),.d d=>(mgt y.2 n).bind λa=>(aW ds).bind λl=>if a.length<1000 then some (.nx env (y.2.set n (.m (wH a l d)))) else none
 |_,_,_=>none
def lQ (a:Ef):Lf
 |env,st=>(a env st).bind λx=>match x.1 with
 |.h n=>(mgt x.2 n).bind λb=>if b.length<64 then some ((av (b.map (·.1))).map aj,x.2) else none
 |_=>none
section
variable {K:qae}{X:Cx}{pos:Pos}{e a b o f:Expr}{fe fa fb fo ff:Ef}
def yP {st:Sto}{n:Nat}{j:List (List Int×D)} (h:mgt st n=some j):st[n]?=some (.m j):=by
 unfold mgt at h;split at h
 ·rename_i q;cases h;exact q
 ·cases h
def Sr.atm {H:Hp}{φ:List Addr}{st:Sto} (S:Sr K H φ st) {n:Nat}{p:Addr}{j:List (List Int×D)} (e1:φ[n]?=some p) (G:mgt st n=some j):∃ vs,H p=some (.dT vs)/\Rkv K H φ j vs:=S.at_ n p _ e1 (yP G)
def Rkv.length {H:Hp}{φ:List Addr}:∀ {ds:List (List Int×D)}{vs:List (List Key×V)},Rkv K H φ ds vs->ds.length=vs.length
 |[],_,h=>by cases h;rfl
 |(k,d)::ds,_,h=>by
  obtain⟨v,r,rfl,A,w⟩:=h;rw[qam,qam,Rkv.length w]
def j7:∀ {a b:List Int},fQ a=fQ b->a=b
 |[],[],_=>rfl
 |[],_::_,h=>by cases h
 |_::_,[],h=>by cases h
 |x::a,y::b,h=>by
  have h':(Sum.inl x:Key)::fQ a=Sum.inl y::fQ b:=h;injection h' with A w;injection A with A;rw[A,j7 w]
def wq (l:List Int):(fQ l).map kV=l.map V.int:=by
 unfold fQ;rw[qaR];rfl
def Rkv.val {H:Hp}{φ:List Addr}{i:List Int}:∀ {ds:List (List Int×D)}{vs:List (List Key×V)},Rkv K H φ ds vs->(∀ d,vM ds i=some d->∃ v,iu vs (fQ i)=some v/\Rl K H φ d v)/\(vM ds i=none->iu vs (fQ i)=none)
 |[],_,h=>by cases h;exact⟨(λd e=>nomatch e),λ_=>rfl⟩
 |(k,d)::ds,_,h=>by
  obtain⟨v,r,rfl,A,w⟩:=h;have ih:=Rkv.val (i:=i) w;by_cases e:k=i
  ·subst e
   have e1:vM ((k,d)::ds) k=some d:=by unfold vM;rw[qei (by simp)];rfl
   have G:iu ((fQ k,v)::r) (fQ k)=some v:=by unfold iu;rw[qei (by simp)];rfl
   rw[e1,G];exact⟨λd' q=>⟨v,rfl,by cases q;exact A⟩,λq=>nomatch q⟩
  ·have e1:vM ((k,d)::ds) i=vM ds i:=by unfold vM;rw[qej (by simpa using e)]
   have G:iu ((fQ k,v)::r) (fQ i)=iu r (fQ i):=by unfold iu;rw[qej (by simpa using λz=>e (j7 z))]
   rw[e1,G];exact ih
def Rkv.any {H:Hp}{φ:List Addr}{i:List Int}:∀ {ds:List (List Int×D)}{vs:List (List Key×V)},Rkv K H φ ds vs->(vs.any λp=>decide (p.1=fQ i))=ds.any λp=>decide (p.1=i)
 |[],_,h=>by cases h;rfl
 |(k,d)::ds,_,h=>by
  obtain⟨v,r,rfl,A,w⟩:=h;rw[qbZ,qbZ,Rkv.any w]
  congr 1
  exact decide_eq_decide.mpr ⟨λz=>j7 z,λz=>congrArg fQ z⟩
def Rkv.repl {H:Hp}{φ:List Addr}{i:List Int}{x:D}{y:V} (L:Rl K H φ x y):∀ {ds:List (List Int×D)}{vs:List (List Key×V)},Rkv K H φ ds vs->Rkv K H φ (ds.map λp=>if p.1=i then (p.1,x) else p) (vs.map λp=>if p.1=fQ i then (p.1,y) else p)
 |[],_,h=>by cases h;exact rfl
 |(k,d)::ds,_,h=>by
  obtain⟨v,r,rfl,A,w⟩:=h;rw[qaq,qaq];by_cases e:k=i
  ·rw[if_pos e,if_pos (by rw[e])]
   exact⟨y,_,rfl,L,Rkv.repl L w⟩
  ·rw[if_neg e,if_neg (λz=>e (j7 z))]
   exact⟨v,_,rfl,A,Rkv.repl L w⟩
def Rkv.snoc {H:Hp}{φ:List Addr}:∀ {ds:List (List Int×D)}{vs:List (List Key×V)}{k:List Int}{d:D}{v:V},Rkv K H φ ds vs->Rl K H φ d v->Rkv K H φ (ds++[(k,d)]) (vs++[(fQ k,v)])
 |[],_,_,_,_,h,hd=>by cases h;exact⟨_,[],rfl,hd,rfl⟩
 |(k,d)::ds,_,_,_,_,h,hd=>by
  obtain⟨v,r,rfl,A,w⟩:=h;exact⟨v,_,rfl,A,Rkv.snoc w hd⟩
def Rkv.put {H:Hp}{φ:List Addr}{ds:List (List Int×D)}{vs:List (List Key×V)}{k:List Int}{d:D}{v:V} (h:Rkv K H φ ds vs) (hd:Rl K H φ d v):Rkv K H φ (wH ds k d) (kM vs (fQ k) v):=by
 unfold wH kM;rw[h.any];split
 ·exact h.repl hd
 ·exact h.snoc hd
def vH {H:Hp}{φ:List Addr}{ds:List D}{l:List Int}{v:V} (hl:aW ds=some l) (r:Rl K H φ (.tup ds) v):∃ p,v=.ref p/\H p=some (.tup ((fQ l).map kV)):=by
 obtain⟨p,vs,rfl,A,w⟩:=r;cases bT hl;cases w.ints;rw[wq];exact⟨p,rfl,A⟩
def Bw:IE K X (.Dict [] [] pos) zr:=by
 refine⟨λenv st r g=>?_⟩;cases g;refine zk.imp ?_
 rintro σ H Q ⟨φ,J,C,q⟩
 exact λp P=>q _ _ (φ++[p]) (Fw.moreO P) (C.moreC P ⟨[],upd_same,rfl⟩) ⟨p,by rw[<-C.len];simp,rfl⟩
def CB {k:Nat} (E:bC k X.A) (ha:IE K X a fa) (hb:IE K X b fb) (hs:DK b):IE K X (.Subscript a b pos) (wJ fa fb):=by
 refine⟨λenv st r g=>?_⟩;simp only[wJ,qac]at g;obtain⟨⟨x,s1⟩,L,⟨y,s2⟩,hy,g⟩:=g;dsimp only at g;split at g
 next n ds=>
  simp only[qac,qad]at g;obtain⟨j,hk,l,hl,d,hd,rfl⟩:=g;refine (Bm (B1 E) (ha.run _ _ _ L) (hb.run _ _ _ hy) hs).imp ?_
  rintro σ H Q ⟨φ,J,C,q⟩
  refine⟨φ,J,C,λv H1 B f1 S1 w1=>⟨B,J.fw C f1,S1,λu H2 φ2 f2 S2 w2=>?_⟩⟩;obtain⟨p,ep,rfl⟩:=w1.fw S1 f2;obtain⟨vs,N,Y⟩:=S2.atm ep hk;obtain⟨v2,G,r2⟩:=Y.val.1 d hd;obtain⟨b',rfl,O⟩:=vH hl w2;refine⟨p,v2,rfl,?_,q _ H2 φ2 (f1.trans f2) S2 r2⟩;rw[<-G];exact xG.t N O
 ·cases g
def Bh {k:Nat}{M:Pos} (E:bC k X.A) (ho:IE K X a fa) (hi:IE K X b fb) (N:IE K X e fe) (hs:qcB e (some (.Subscript a b M)) pos.line X.env=pure false:=by rfl) :
  IS K X (.Assign [.Subscript a b M] e pos) (vC fa fb fe):=by
 refine⟨λenv st r g=>?_⟩;simp only[vC,qac]at g;obtain⟨⟨z,s1⟩,hz,⟨x,s2⟩,L,⟨y,s3⟩,hy,g⟩:=g;dsimp only at g;split at g
 next n ds d=>
  simp only[qac]at g;obtain⟨j,hk,l,hl,g⟩:=g;split at g
  ·rename_i F
   cases g;refine (Bx (B1 E) (ho.run _ _ _ L) (hi.run _ _ _ hy) (N.run _ _ _ hz) hs).imp ?_
   rintro D σ H ⟨φ,J,C,q⟩
   refine⟨φ,J,C,λv H1 B f1 S1 w1=>⟨B,J.fw C f1,S1,λu H2 φ2 f2 S2 w2=>⟨φ2,(J.fw C f1).fw S1 f2,S2,λt H3 φ3 f3 S3 w3=>?_⟩⟩⟩;obtain⟨p,ep,rfl⟩:=w2.fw S2 f3;obtain⟨vs,P,Y⟩:=S3.atm ep hk;obtain⟨b',rfl,O⟩:=vH hl w3;have w1':=Rl.fw S2 f3 (Rl.fw S1 f2 w1);obtain⟨f4,S4⟩:=S3.putC (o:=.dT (kM vs (fQ l) v)) (c:=.m (wH j l d)) ep λf=>⟨_,upd_same,(Y.put w1').fw S3 f⟩;refine⟨p,_,rfl,y4.t P O (by rw[<-Y.length];exact qaZ F (by rw[qcb];decide)),?_⟩;exact q _ _ φ3 (((f1.trans f2).trans f3).trans f4) (((((J.fw C f1).fw S1 f2).fw S2 f3)).fw S3 f4) S4
  ·cases g
 ·cases g
def wd {H:Hp}{φ:List Addr}:∀ {j:List (List Int×D)}{vs:List (List Key×V)}{xs:List (List Key×Addr×Value)},Rkv K H φ j vs->KT H vs xs->
  Rls K H φ ((j.map (·.1)).map aj) (xs.map λx=>V.ref x.2.1)/\aI (xs.map λx=>V.ref x.2.1) (xs.map λx=>Value.ref x.2.1)
 |[],_,_,h,t=>by cases h;cases t;exact⟨rfl,.nil⟩
 |(k,d)::j,_,_,h,t=>by
  obtain⟨v,r,rfl,A,w⟩:=h;cases t with
  |cons q t=>
   rename_i x xs;obtain⟨i1,i2⟩:=wd w t;have e:H x.2.1=some (.tup (k.map V.int)):=by rw[<-wq];exact q.2.1
   exact⟨⟨_,_,rfl,⟨x.2.1,k.map V.int,rfl,e,Rls.of_ints k⟩,i1⟩,.cons rfl i2⟩
def zE {k:Nat}{p:Pos} (E:bC k X.A) (hg:Gl X "sorted") (hm:X.mg "sorted" = none) (ha:IE K X a fa) (hc:X.calm=true:=by rfl) (hs:ax a=true:=by rfl) (hK:X.K=K:=by rfl):IL K X (.Call (.Name "sorted" p) [a] [] pos) (lQ fa):=by
 subst hK;refine⟨λenv st r g=>?_⟩;simp only[lQ,qac]at g;obtain⟨⟨x,s1⟩,L,g⟩:=g
 match x,g with
 |.h n,g=>
  simp only[qac]at g;obtain⟨j,hk,g⟩:=g;split at g
  ·rename_i hl
   cases g;have hA:=(aH (K:=X.K) (X:=X) ha bI hs).run env st ([.h n],s1) (by simp only[aa,ac,L,qaa,qai]);have hC:bY X (.builtin "sorted") (λxs H Q=>∃ φ q,Sr X.K H φ s1/\φ[n]?=some q/\xs=[.ref q]/\∀ l us,H l=none->Rls X.K H φ ((av (j.map (·.1))).map aj) us->Q (.ref l) (upd H l (.lst us))):=by
    intro pins s σ H xs us Q I rv q;obtain⟨φ,ad,S,T,rfl,q⟩:=q;obtain⟨u,rfl,ru⟩:=kE rv;cases ru;obtain⟨vs,N,Y⟩:=S.atm T hk;obtain⟨z',hd,xs,rel,o,es,ep,g1,g2,g3,g4,g5,g6⟩:=BW I.hok N;obtain⟨b1,b2⟩:=wd Y rel;have F:xs.length<64:=by
     have e1:=rel.length;have G:=Y.length;lia
    have hkeys:es.toList.map (·.key)=xs.map λx=>Value.ref x.2.1:=by rw[g4,qaR];rfl
    obtain⟨m1,m2⟩:=kC I b1 b2;have hun:X.A.in1.in1.units<cLine:=by
     have:=E.un
     show X.A.units+1+1<cLine;lia
    refine uH hd ⟨o,g1,g2,g3⟩ (I.ok.hd hc) hkeys (by rw[qah];exact F) hun (λv N=>⟨_,(m2 v N).1⟩) λh' tk p ep' out R P he a1 a2=>?_;have hn:H p=none:=I.hok.fresh P;have ho:=λu hu=>m2 u (a1.mem_iff.mp hu);obtain⟨c1,c2⟩:=nY (K:=X.K) (H:=H) (φ:=φ) ho;have hpm:(out.map (tuI s.heap)).Perm (j.map (·.1)):=by
     have:=a1.map (tuI s.heap)
     rw[m1]at this;exact this
    have hsrt:(out.map (tuI s.heap)).Pairwise leL:=by
     rw[qdn];exact a2.imp λ{x y} q=>q
    have e:out.map (tuI s.heap)=av (j.map (·.1)):=kD (hpm.trans (aR _).symm) hsrt (dz _);have G:(out.map λu=>aj (tuI s.heap u))=(av (j.map (·.1))).map aj:=by rw[<-e,qaR];rfl
    rw[G]at c1;have hlay:Inv X pins σ (upd H p (.lst (out.map toV))) { s with heap:=h',toks:=tk }:=by
     refine I.laid (t':=tk) (a:=p) (o:=.lst (out.map toV)) R P ⟨?_,out,ep',c2,by simpa [qcS] using he⟩;rw[qah,a1.length_eq,qah];exact kS (by lia)
    exact⟨.ref p,_,hlay,rfl,q p _ hn c1⟩
   refine (nW hC hg hm qe6 hA (by decide) (by decide) (aT hs) (bx (es:=[]) rfl)).imp ?_
   rintro σ H Q ⟨φ,J,C,q⟩
   refine⟨φ,J,C,λvs H1 B f1 S1 w1=>?_⟩;obtain⟨v,r,rfl,⟨ad,T,rfl⟩,rfl⟩:=w1;exact⟨B,ad,S1,T,rfl,λl us hl' hr'=>q l _ H1 B f1 S1 hl' hr'⟩
  ·cases g
def uo (st:Sto):W->W->Option D
 |.d (.tup a),.d (.tup b)=>(aW a).bind λns=>(aW b).map λms=>.bl (bq ns ms)
 |x,y=>dLt st x y
def sh:∀ (a b:List Int),HT.lexLt a b=bq a b
 |[],[]=>rfl
 |[],_::_=>rfl
 |_::_,[]=>rfl
 |x::a,y::b=>by rw[HT.lexLt_cons,bq,sh a b]
def Ci {k:Nat} (g:bC k X.A) (hK:X.K=K:=by rfl):OpD K X (qbE .Lt) uo:=by
 subst hK;refine⟨λst x y d h=>?_⟩;by_cases ht:∃ a b,x=.d (.tup a)/\y=.d (.tup b)
 ·obtain⟨a,b,rfl,rfl⟩:=ht
  simp only[uo,qac,qad]at h;obtain⟨ns,A,ms,w,rfl⟩:=h;have hu:X.A.units<cLine:=by have:=g.un;lia
  refine (DH hu).imp ?_
  rintro vx vy H Q ⟨φ,S,⟨p,vs,rfl,g1,g2⟩,⟨p2,vs2,rfl,g3,g4⟩,q⟩
  cases bT A;cases bT w;cases g2.ints;cases g4.ints;refine⟨p,p2,ns,ms,rfl,rfl,SqT.of g1,SqT.of g3,?_⟩;rw[sh];exact q _ H (aS.refl H) rfl
 ·have e:uo st x y=dLt st x y:=by
   unfold uo;split
   ·rename_i a b
    exact absurd ⟨a,b,rfl,rfl⟩ ht
   ·rfl
  rw[e]at h;exact B8.run st x y d h
end
end L2
namespace Own
open PySem L2
def fV:Sf:=(az (.nm 1) (iOp bb (iV 1) (iC (.int 2))))
def iT:Sf:=(ah (az (.nm 1) (iC (.int 1))) (ah (eZ (bz (aa (iV 0) ac)) (.nm 2) fV) (aK (iV 1))))
def eK:Fn:=bi 3 1 iT
def we:Sf:=(aK (iOp dO (iOp kT (iV 0) (au eK (aa (iV 1) ac))) (iC (.int 2))))
def rA:Fn:=bi 2 2 we
def eM:Tf:=(aE dNe (iV 3) (iC (.int 0)))
def fg:Sf:=(ah (az (.nm 4) (iOp dO (iV 1) (iV 3))) (ah (az (.nm 1) (iV 3)) (az (.nm 3) (iV 4))))
def fu:Sf:=(ah (az (.nm 3) (iCB vh (aa (iV 2) ac))) (vf (2^8000) eM fg))
def im:Sf:=(ah (az (.nm 1) (iC (.int 0))) (ah (eZ (aC (iV 0)) (.nm 2) fu) (aK (iV 1))))
def br:Fn:=bi 5 1 im
def fF:Ef:=(iOp mm (iV 0) (iV 1))
def jd:Sf:=(ah (az (.nm 1) (au br (aa (iV 0) ac))) (ah (aY (aE dEq (iV 1) (iC (.int 0))) (aK (iCB c9 (aa (iV 0) ac))) aO) (aK (iCB c9 (aa (ar (iLc 1 [1] (aC (iV 0)) (.nm 0) aL fF)) ac)))))
def dg:Fn:=bi 2 1 jd
def fT:Ef:=(iV 0)
def fR:Tf:=(aE kc (iV 1) (iC .non))
def l8:Sf:=(aK (iCB c9 (aa (ar (iLc 2 [] (cb (aa (iV 0) ac)) (.tp [0,1]) fR fT)) ac)))
def cf:Fn:=bi 1 1 l8
def lB:Sf:=(aK (fP (aE dEq (iOp dIx (iV 0) (iV 1)) (iC (.int 1))) (iC (.int 1)) (iUn ju (iC (.int 1)))))
def fU:Fn:=bi 2 2 lB
def iX:Ef:=(iOp bh (ar (iCL pP (aa (iV 0) ac))) (ar (bR (aa (iV 1) ac))))
def iI:Ef:=(iUn ju (iV 0))
def cp:List (Str×Ef):=[("amounts",(iCB aX (aa (iV 3) ac))),("lines",(ar (iLc 2 [] (gf (aa (iV 1) (aa (iV 2) ac))) (.tp [0,1]) aL iX))),("goal",(iOp bh (ar (iLc 1 [] (aC (iV 3)) (.nm 0) aL iI)) (ar (bR (aa (iC (.int 0)) ac))))),("part",(iC (.int 1))),("free",(dh (xf (aa (iCB aX (aa (iV 3) ac)) ac)))),("kept",(dh (qq (aa (iCB aX (aa (iV 3) ac)) (aa (iOp bh (iCB aX (aa (iV 3) ac)) (iCB aX (aa (iV 1) ac))) ac)))))]
def aU:Sf:=(ah (aY (cJ db (iV 3)) (ah (az (.nm 5) (iOp bb (iOp dIx (iV 1) (iV 4)) (iOp dIx (iV 2) (iOp dIx (iV 3) (iC (.int 0)))))) (ah (az (.nm 6) (iOp bb (iOp dIx (iV 1) (iOp dIx (iV 3) (iC (.int 0)))) (iOp dIx (iV 2) (iV 4)))) (ah (aY (aE dGt (iV 5) (iV 6)) pV aO) (aY (aE dLt (iV 5) (iV 6)) (az (.nm 3) (dh (bR ac))) aO)))) aO) (kO (ny gM (iV 3) (aa (iV 4) ac))))
def jF:Sf:=(ah (az (.nm 3) (dh (bR ac))) (ah (eZ (aC (iV 0)) (.nm 4) aU) (aK (iV 3))))
def fO:Fn:=gy 7 3 jF
def pE:Sf:=(aK (iOp bh (ar (bR (aa (iC .non) ac))) (ar (qq (aa (ao "amounts" (iV 0)) (aa (iOp bh (ao "amounts" (iV 0)) (iCB aX (aa (ao "lines" (iV 0)) ac))) ac))))))
def eh:Fn:=bi 1 1 pE
def oA:Ef:=(fP (aE dEq (iV 0) (iV 1)) (ao "part" (iV 2)) (iC (.int 0)))
def mX:Ef:=(iOp dIx (iV 0) (iV 1))
def mY:Ef:=(iOp dIx (iV 0) (iUn ju (iC (.int 1))))
def gO:Sf:=(ah (aY (aE iL (iV 1) (iC .non)) (aK (ar (iLc 1 [] (aC (ao "lines" (iV 0))) (.nm 0) aL mY))) aO) (ah (aY (aE dIn (iV 1) (ao "free" (iV 0))) (ah (az (.nm 2) (zM (ao "free" (iV 0)) (aa (iV 1) ac))) (aK (ar (iLc 1 [2] (aC (ao "lines" (iV 0))) (.nm 0) aL mX)))) aO) (aK (ar (iLc 1 [1,0] (aC (ao "kept" (iV 0))) (.nm 0) aL oA)))))
def cO:Fn:=bi 3 2 gO
def fC:Sf:=(ah (aY (aE dLt (iCB aX (aa (iV 3) ac)) (iC (.int 2))) ui aO) (az (.nm 3) (au fO (aa (iV 3) (aa (au cO (aa (iV 0) (aa (iV 4) ac))) (aa (iV 2) ac))))))
def lU:Ef:=(iV 0)
def lV:Tf:=(aE dGt (iV 1) (iC (.int 0)))
def mf:Ef:=(iOp dIx (iV 0) (iV 1))
def pM:Sf:=(ah (az (.nm 2) (ar (iLc 1 [1] (aC (ao "lines" (iV 0))) (.nm 0) aL mf))) (ah (az (.nm 3) (ar (iLc 2 [] (cb (aa (iV 2) ac)) (.tp [0,1]) lV lU))) (ah (eZ (aC (au eh (aa (iV 0) ac))) (.nm 4) fC) (aK (fP (cJ db (iV 3)) (iOp dIx (iV 3) (iC (.int 0))) (iC .non))))))
def jj:Fn:=bi 5 2 pM
def ck:Sf:=(ah (az (.nm 6) (au cO (aa (iV 0) (aa (iV 5) ac)))) (ah (az (.nm 7) (iOp kf (iOp bb (iV 4) (iOp dIx (iV 6) (iOp dIx (iV 2) (iC (.int 1))))) (iOp bb (iV 3) (iOp dIx (iV 6) (iOp dIx (iV 1) (iC (.int 1))))))) (aY (aE dNe (iV 7) (iC (.int 0))) (aK (iOp dGt (iV 7) (iC (.int 0)))) aO)))
def gX:Sf:=(ah (az (.nm 3) (iOp bb (iOp dIx (ao "goal" (iV 0)) (iOp dIx (iV 1) (iC (.int 0)))) (iOp dIx (iOp dIx (ao "lines" (iV 0)) (iOp dIx (iV 2) (iC (.int 1)))) (iOp dIx (iV 2) (iC (.int 0)))))) (ah (az (.nm 4) (iOp bb (iOp dIx (ao "goal" (iV 0)) (iOp dIx (iV 2) (iC (.int 0)))) (iOp dIx (iOp dIx (ao "lines" (iV 0)) (iOp dIx (iV 1) (iC (.int 1)))) (iOp dIx (iV 1) (iC (.int 0)))))) (ah (eZ (aC (au eh (aa (iV 0) ac))) (.nm 5) ck) (aK (iC (.bl false))))))
def cn:Fn:=bi 8 3 gX
def ca:Sf:=(ah (aY (aE dGe (iOp dIx (ao "goal" (iV 0)) (iV 2)) (iC (.int 0))) pV aO) (ah (az (.nm 3) (bv (aa (iV 2) (aa (au jj (aa (iV 0) (aa (iV 2) ac))) ac)))) (ah (aY (aE iL (iOp dIx (iV 3) (iC (.int 1))) (iC .non)) (aK (iV 3)) aO) (aY (dQ (aE iL (iV 1) (iC .non)) (cJ db (au cn (aa (iV 0) (aa (iV 3) (aa (iV 1) ac)))))) (az (.nm 1) (iV 3)) aO))))
def iJ:Sf:=(ah (az (.nm 1) (iC .non)) (ah (eZ (bz (aa (iCB aX (aa (ao "free" (iV 0)) ac)) ac)) (.nm 2) ca) (aK (iV 1))))
def bS:Fn:=bi 4 1 iJ
def lh:Ef:=(iOp mm (iOp kf (iOp bb (iV 2) (iV 0)) (iOp bb (iV 3) (iV 1))) (iV 4))
def wx:Sf:=(ah (az (.nm 4) (iOp dIx (iV 1) (iV 2))) (ah (az (.nm 5) (iOp dIx (iV 0) (iV 2))) (ah (az (.nm 6) (dh (iLc 2 [4,5,3] (gf (aa (iV 0) (aa (iV 1) ac))) (.tp [0,1]) aL lh))) (ah (bu (iV 6) (iV 2) (iUn ju (iV 5))) (aK (iV 6))))))
def jk:Fn:=gy 7 4 wx
def d5:Ef:=(au jk (aa (iV 0) (aa (iV 1) (aa (iV 2) (aa (iV 3) ac)))))
def jY:Sf:=(ah (az (.nm 3) (iOp dIx (ao "lines" (iV 0)) (iV 1))) (ah (az (.nm 4) (ao "part" (iV 0))) (ah (i3 5 1 2 3 4 (iLc 1 [3,2,4] (aC (ao "lines" (iV 0))) (.nm 0) aL d5)) (ah (jB "goal" (iV 0) (au jk (aa (ao "goal" (iV 0)) (aa (iV 3) (aa (iV 2) (aa (iV 4) ac)))))) (ah (jB "lines" (iV 0) (iV 5)) (ah (jB "part" (iV 0) (iOp dIx (iV 3) (iV 2))) (ah (az (.nm 6) (iOp dIx (ao "free" (iV 0)) (iV 2))) (ah (bu (ao "free" (iV 0)) (iV 2) (iOp dIx (ao "kept" (iV 0)) (iV 1))) (bu (ao "kept" (iV 0)) (iV 1) (iV 6))))))))))
def df:Fn:=gy 7 3 jY
def nU:Sf:=(aY (aE dLt (iV 4) (ao "amounts" (iV 0))) (bu (iV 2) (iV 4) (iUn ju (iOp dIx (iOp dIx (ao "lines" (iV 0)) (iV 3)) (iV 1)))) aO)
def sA:Sf:=(ah (az (.nm 2) (dh (tj nF (ar (bR (aa (iC (.int 0)) ac))) (ao "amounts" (iV 0))))) (ah (eZ (cb (aa (ao "kept" (iV 0)) ac)) (.tp [3,4]) nU) (ah (aY (aE dLt (iOp dIx (ao "free" (iV 0)) (iV 1)) (ao "amounts" (iV 0))) (bu (iV 2) (iOp dIx (ao "free" (iV 0)) (iV 1)) (ao "part" (iV 0))) aO) (aK (dj dg (aa (iV 2) ac))))))
def kt:Fn:=gy 5 2 sA
def iM:Sf:=(aY (aE dLt (iV 3) (ao "amounts" (iV 0))) (bu (iV 1) (iV 3) (iOp dIx (iOp dIx (ao "lines" (iV 0)) (iV 2)) (iUn ju (iC (.int 1))))) aO)
def kL:Sf:=(ah (az (.nm 1) (dh (tj nF (ar (bR (aa (iC (.int 0)) ac))) (ao "amounts" (iV 0))))) (ah (eZ (cb (aa (ao "kept" (iV 0)) ac)) (.tp [2,3]) iM) (aK (iV 1))))
def gx:Fn:=gy 4 1 kL
def jy:Sf:=(aY (aE dGe (iV 3) (ao "amounts" (iV 0))) (bu (iV 1) (iOp kf (iV 3) (ao "amounts" (iV 0))) (iOp dIx (ao "goal" (iV 0)) (iV 2))) aO)
def lZ:Sf:=(ah (az (.nm 1) (dh (tj nF (ar (bR (aa (iC (.int 0)) ac))) (iCB aX (aa (ao "lines" (iV 0)) ac))))) (ah (eZ (cb (aa (ao "free" (iV 0)) ac)) (.tp [2,3]) jy) (aK (iV 1))))
def iw:Fn:=gy 4 1 lZ
def cL:Ef:=(iOp mm (iV 0) (iV 1))
def cN:Ef:=(iOp mm (iV 0) (iV 1))
def kI:Sf:=(ah (az (.nm 1) (au gx (aa (iV 0) ac))) (ah (az (.nm 2) (au iw (aa (iV 0) ac))) (ah (az (.nm 3) (au br (aa (iOp bh (iOp bh (ar (bR (aa (ao "part" (iV 0)) ac))) (iV 1)) (iV 2)) ac))) (aK (bv (aa (iC (.str "most")) (aa (iOp mm (ao "part" (iV 0)) (iV 3)) (aa (iCB c9 (aa (ar (iLc 1 [3] (aC (iV 1)) (.nm 0) aL cN)) ac)) (aa (iCB c9 (aa (ar (iLc 1 [3] (aC (iV 2)) (.nm 0) aL cL)) ac)) ac)))))))))
def gR:Fn:=bi 4 1 kI
def gG:Tf:=(aE kc (iV 4) (iC .non))
def fE:Sf:=(ah (aY (aE iL (iOp dIx (iV 4) (iC (.int 1))) (iC .non)) (aK (bv (aa (iC (.str "beyond")) (aa (dj kt (aa (iV 3) (aa (iOp dIx (iV 4) (iC (.int 0))) ac))) ac)))) aO) (ah (kO (au df (aa (iV 3) (aa (iOp dIx (iV 4) (iC (.int 1))) (aa (iOp dIx (iV 4) (iC (.int 0))) ac))))) (az (.nm 4) (dj bS (aa (iV 3) ac)))))
def lq:Sf:=(ah (az (.nm 3) (pI 4 4 cp (aa (iV 0) (aa (iV 1) (aa (iV 2) ac))))) (ah (az (.nm 4) (dj bS (aa (iV 3) ac))) (ah (vf (2^8000) gG fE) (aK (dj gR (aa (iV 3) ac))))))
def jg:Fn:=bi 5 3 lq
def d6:Ef:=(au rA (aa (iV 1) (aa (iV 0) ac)))
def eQ:Sf:=(ah (az (.nm 3) (iCB nJ (aa (ar (iLc 1 [2] (aC (iV 1)) (.nm 0) aL d6)) ac))) (ah (aY (aE dEq (iV 0) (iC (.str "both"))) (aK (fP (aE dEq (iV 3) (iCB aX (aa (iV 1) ac))) (iC (.int 1)) (iC (.int 0)))) aO) (aK (fP (aE dEq (iOp dO (iV 3) (iC (.int 2))) (iC (.int 1))) (iUn ju (iC (.int 1))) (iC (.int 1))))))
def jO:Fn:=bi 4 3 eQ
def jG:Ef:=(bv (aa (iV 0) (aa (wJ (iV 1) (iV 0)) ac)))
def jA:Tf:=(aE dNe (wJ (iV 1) (iV 0)) (iC (.int 0)))
def md:Sf:=(aK (bv (aa (iV 0) (aa (iCB c9 (aa (ar (iLc 1 [1] (aC (ar (lQ (iV 1)))) (.nm 0) jA jG)) ac)) ac))))
def iz:Fn:=bi 2 2 md
def oH:Ef:=(bv (aa (iV 0) (aa (iOp mm (iV 1) (iV 2)) ac)))
def rP:Sf:=(aK (bv (aa (iOp dIx (iV 0) (iC (.int 0))) (aa (iCB c9 (aa (ar (iLc 2 [1] (aC (iOp dIx (iV 0) (iC (.int 1)))) (.tp [0,1]) aL oH)) ac)) ac))))
def nG:Fn:=bi 2 2 rP
def ot:Ef:=(iV 1)
def rF:Sf:=(aK (au nG (aa (iV 0) (aa (au br (aa (ar (iLc 2 [] (aC (iOp dIx (iV 0) (iC (.int 1)))) (.tp [0,1]) aL ot)) ac)) ac))))
def m6:Fn:=bi 1 1 rF
def iY:Sf:=(aK (iOp bb (au fU (aa (iV 0) (aa (iV 3) ac))) (au jO (aa (iV 1) (aa (iV 2) (aa (iV 3) ac))))))
def cT:Fn:=bi 4 4 iY
def fz:Ef:=(au cT (aa (iV 1) (aa (iV 2) (aa (iV 0) (aa (iV 3) ac)))))
def fB:Ef:=(ar (iLc 1 [2,3,0] (aC (iV 1)) (.nm 0) aL fz))
def io:Sf:=(aK (ar (iLc 1 [2,0,1] (aC (au cf (aa (iV 0) ac))) (.nm 0) aL fB)))
def dP:Fn:=bi 3 3 io
def nA:Ef:=(fP (aE dEq (iV 0) (iV 1)) (iC (.int 1)) (iC (.int 0)))
def sY:Sf:=(aK (ar (iLc 1 [0] (bz (aa (iV 1) ac)) (.nm 0) aL nA)))
def kg:Fn:=bi 2 2 sY
def jE:Ef:=(iUn ju (iV 0))
def l9:Sf:=(aK (iOp bh (ar (iCL pP (aa (iV 0) ac))) (ar (iLc 1 [] (aC (iV 0)) (.nm 0) aL jE))))
def iE:Fn:=bi 1 1 l9
def fm:Sf:=(vC (iV 3) (iV 5) (iOp kf (iOp dIx (iV 2) (iV 4)) (iOp dIx (iV 2) (iOp bh (iCB aX (aa (iV 1) ac)) (iV 4)))))
def px:Sf:=(ah (az (.nm 3) zr) (ah (eZ (cb (aa (iV 1) ac)) (.tp [4,5]) fm) (aK (au m6 (aa (au iz (aa (iV 0) (aa (iV 3) ac))) ac)))))
def jc:Fn:=gy 6 3 px
def iQ:Sf:=(bu (iV 2) (iV 3) (iV 4))
def kB:Sf:=(ah (az (.nm 2) (dh (tj nF (ar (bR (aa (iC (.int 0)) ac))) (iCB aX (aa (iV 0) ac))))) (ah (eZ (gf (aa (au cf (aa (iV 0) ac)) (aa (iV 1) ac))) (.tp [3,4]) iQ) (aK (iCB c9 (aa (iV 2) ac)))))
def dX:Fn:=gy 5 2 kB
def gP:Ef:=(iCB c9 (aa (iV 0) ac))
def d7:Ef:=(iOp bh (iOp bb (ar (bR (aa (iC (.int 0)) ac))) (iOp bb (iC (.int 2)) (iCB aX (aa (iV 1) ac)))) (au kg (aa (iV 0) (aa (iV 2) ac))))
def rz:Sf:=(ah (az (.nm 6) (ar (iLc 1 [2,4] (bz (aa (iV 4) ac)) (.nm 0) aL d7))) (ah (az (.nm 7) (au jg (aa (iCB c9 (aa (ar (iLc 1 [] (aC (iOp bh (iV 5) (iV 6))) (.nm 0) aL gP)) ac)) (aa (iOp bh (iOp bb (bv (aa (iC (.int 0)) ac)) (iV 4)) (iOp bb (bv (aa (iC (.int 1)) ac)) (iV 4))) (aa (iOp bh (iOp bb (bv (aa (iC (.int 0)) ac)) (iOp bb (iC (.int 2)) (iCB aX (aa (iV 2) ac)))) (iOp bb (bv (aa (iC (.int 1)) ac)) (iV 4))) ac))))) (aK (bv (aa (au jc (aa (iV 1) (aa (iV 2) (aa (iOp dIx (iV 7) (iC (.int 2))) ac)))) (aa (au dg (aa (au dX (aa (iV 0) (aa (iSl (iOp dIx (iV 7) (iC (.int 3))) iPn (iPs (iV 4))) ac))) ac)) ac))))))
def ky:Ef:=(iUn ju (iV 0))
def j9:Ef:=(iOp bh (au iE (aa (ar (iLc 1 [] (aC (iV 1)) (.nm 0) aL ky)) ac)) (au kg (aa (iV 0) (aa (iV 2) ac))))
def jZ:Sf:=(ah (az (.nm 3) (au dP (aa (iV 0) (aa (iV 1) (aa (iV 2) ac))))) (ah (az (.nm 4) (iCB aX (aa (iV 3) ac))) (ah (aY (aE dEq (iV 4) (iC (.int 0))) (aK (bv (aa (bv (aa (iV 1) (aa (bv ac) ac))) (aa (au dX (aa (iV 0) (aa (bv ac) ac))) ac)))) aO) (ah (az (.nm 5) (ar (iLc 2 [4] (cb (aa (iV 3) ac)) (.tp [0,1]) aL j9))) rz))))
def gB:Fn:=bi 8 3 jZ
def jQ:Sf:=(ah (az (.nm 2) (fP (aE dLt (iV 1) (iCB aX (aa (iV 0) ac))) (iOp dIx (iV 0) (iV 1)) (iC (.int 0)))) (ah (az (.nm 3) (iOp bb (iCB vh (aa (iV 2) ac)) (iCB vg (aa (iOp dGe (iCB vh (aa (iV 2) ac)) (iOp yB (iC (.int 10)) (iC (.int 18)))) ac)))) (aK (dh (bR (aa (iV 3) (aa (iOp dO (iOp bb (iOp bh (iOp bh (iOp dO (iV 2) (iC (.int 2147483629))) (iOp bb (iOp bb (iC (.int 5303)) (iV 1)) (iV 1))) (iC (.int 17))) (iC (.int 48271))) (iC (.int 2147483647))) (aa (iC (.int 0)) ac))))))))
def dk:Fn:=bi 4 2 jQ
def fG:Sf:=(ah (bu (iV 0) (iC (.int 2)) (iOp bh (iOp dIx (iV 0) (iC (.int 2))) (iC (.int 1)))) (ah (aY (dS (aE dGt (iOp dIx (iV 0) (iC (.int 0))) (iC (.int 0))) (aE dLe (iOp dIx (iV 0) (iC (.int 2))) (iC (.int 400)))) (ah (az (.nm 2) (iOp dO (iOp dIx (iV 0) (iC (.int 0))) (iV 1))) (ah (bu (iV 0) (iC (.int 0)) (iOp kT (iOp dIx (iV 0) (iC (.int 0))) (iV 1))) (aK (iV 2)))) aO) (ah (bu (iV 0) (iC (.int 1)) (iOp dO (iOp bh (iOp bh (iOp bb (iOp dIx (iV 0) (iC (.int 1))) (iC (.int 48271))) (iC (.int 12345))) (iOp dIx (iV 0) (iC (.int 2)))) (iC (.int 2147483647)))) (aK (iOp dO (iOp kT (iOp dO (iOp bb (iOp dIx (iV 0) (iC (.int 1))) (iOp bh (iOp dO (iOp dIx (iV 0) (iC (.int 1))) (iC (.int 39373))) (iC (.int 7)))) (iC (.int 2147483629))) (iC (.int 64))) (iV 1))))))
def aG:Fn:=bi 3 2 fG
def iP:Ef:=(iOp uf (iOp wS (iV 1) (iV 0)) (iC (.int 1)))
def pG:Sf:=(aK (iCB nJ (aa (ar (iLc 1 [0] (bz (aa (iC (.int 6)) ac)) (.nm 0) aL iP)) ac)))
def gj:Fn:=bi 1 1 pG
def c8:Ef:=(iOp dIx (iV 1) (au aG (aa (iV 2) (aa (iCB aX (aa (iV 1) ac)) ac))))
def cY:Ef:=(iOp dO (au gj (aa (iOp uf (iV 0) (iV 1)) ac)) (iC (.int 2)))
def ce:Ef:=(iOp dIx (iV 1) (au gj (aa (iV 0) ac)))
def cZ:Ef:=(au aG (aa (iV 1) (aa (iC (.int 2)) ac)))
def cy:Sf:=(ah (az (.nm 2) (au aG (aa (iV 0) (aa (iC (.int 6)) ac)))) (ah (aY (aE dEq (iV 2) (iC (.int 3))) (ah (az (.nm 3) (ar (iLc 1 [0] (bz (aa (iOp bh (iV 1) (iC (.int 1))) ac)) (.nm 0) aL cZ))) (aK (iCB c9 (aa (ar (iLc 1 [3] (bz (aa (iOp u4 (iC (.int 1)) (iV 1)) ac)) (.nm 0) aL ce)) ac)))) aO) (ah (aY (aE dEq (iV 2) (iC (.int 4))) (ah (az (.nm 4) (au aG (aa (iV 0) (aa (iOp u4 (iC (.int 1)) (iV 1)) ac)))) (aK (iCB c9 (aa (ar (iLc 1 [4] (bz (aa (iOp u4 (iC (.int 1)) (iV 1)) ac)) (.nm 0) aL cY)) ac)))) aO) (ah (az (.nm 5) (iOp dIx (ar (bR (aa (ar (bR (aa (iC (.int 0)) (aa (iC (.int 1)) ac)))) (aa (ar (bR (aa (iC (.int 0)) (aa (iC (.int 1)) ac)))) (aa (ar (bR (aa (iC (.int 0)) (aa (iC (.int 1)) (aa (iC (.int 0)) (aa (iC (.int 1)) (aa (iC .non) ac))))))) (aa (ar (bR ac)) (aa (ar (bR ac)) (aa (ar (bR (aa (iC .non) (aa (iC .non) (aa (iC (.int 0)) (aa (iC (.int 1)) ac)))))) ac)))))))) (iV 2))) (aK (iCB c9 (aa (ar (iLc 1 [5,0] (bz (aa (iOp u4 (iC (.int 1)) (iV 1)) ac)) (.nm 0) aL c8)) ac)))))))
def bK:Fn:=bi 6 2 cy
def cH:Ef:=(iOp bh (iV 0) (bv (aa (iV 1) ac)))
def cD:Sf:=(az (.nm 1) (iOp bh (iV 1) (ar (iLc 1 [2] (aC (iV 1)) (.nm 0) aL cH))))
def gn:Sf:=(ah (az (.nm 1) (ar (bR (aa (bv ac) ac)))) (ah (eZ (bz (aa (iV 0) ac)) (.nm 2) cD) (aK (ar (iCL qR (aa (iV 1) ac))))))
def dn:Fn:=bi 3 1 gn
def iO:Sf:=(ah (aY (aE dEq (iV 2) (iC (.int 2))) (aK (bv ac)) aO) (ah (aY (aE dEq (iV 2) (iC (.int 3))) (ah (az (.nm 5) (au aG (aa (iV 0) (aa (iCB aX (aa (iV 3) ac)) ac)))) (aK (iCB c9 (aa (iOp bh (iSl (iV 3) iPn (iPs (iV 5))) (iSl (iV 3) (iPs (iOp bh (iV 5) (iC (.int 1)))) iPn)) ac)))) aO) (aK (iCB c9 (aa (iV 3) ac)))))
def eL:Ef:=(iV 0)
def eS:Tf:=(aE dEq (au aG (aa (iV 1) (aa (iC (.int 2)) ac))) (iC (.int 1)))
def eF:Ef:=(iV 0)
def eI:Tf:=(aE dLe (iCB aX (aa (iV 0) ac)) (iV 1))
def bV:Sf:=(ah (az (.nm 2) (au aG (aa (iV 0) (aa (iC (.int 5)) ac)))) (ah (az (.nm 3) (au dn (aa (iV 1) ac))) (ah (aY (aE dEq (iV 2) (iC (.int 0))) (ah (az (.nm 4) (au aG (aa (iV 0) (aa (iOp bh (iV 1) (iC (.int 1))) ac)))) (aK (iCB c9 (aa (ar (iLc 1 [4] (aC (iV 3)) (.nm 0) eI eF)) ac)))) aO) (ah (aY (aE dEq (iV 2) (iC (.int 1))) (aK (iCB c9 (aa (ar (iLc 1 [0] (aC (iV 3)) (.nm 0) eS eL)) ac))) aO) iO))))
def gr:Fn:=bi 6 2 bV
def eB:Ef:=(iOp uf (iOp wS (iV 1) (iV 0)) (iC (.int 1)))
def hJ:Sf:=(ah (az (.nm 3) (iCB nJ (aa (ar (iLc 1 [2] (aC (iV 1)) (.nm 0) aL eB)) ac))) (aK (fP (aE dEq (iV 0) (iC (.str "both"))) (iCB vg (aa (iOp dEq (iV 3) (iCB aX (aa (iV 1) ac))) ac)) (iOp kf (iC (.int 1)) (iOp bb (iC (.int 2)) (iOp dO (iV 3) (iC (.int 2))))))))
def cq:Fn:=bi 4 3 hJ
def kK:Sf:=(aY (aE kc (iV 6) (iC .non)) (az (.nm 4) (iOp bh (iV 4) (iOp bb (iOp bb (iOp dIx (iV 3) (iV 5)) (iOp kf (iOp bb (iC (.int 2)) (iV 6)) (iC (.int 1)))) (au cq (aa (iV 1) (aa (iV 2) (aa (iV 5) ac))))))) aO)
def nV:Sf:=(ah (az (.nm 4) (iC (.int 0))) (ah (eZ (cb (aa (iV 0) ac)) (.tp [5,6]) kK) (aK (iV 4))))
def jN:Fn:=bi 7 4 nV
def qY:Sf:=(aK (yz (iCB n4 (aa (iV 0) (aa (iC (.ty "int")) ac))) (yh (iCB n4 (aa (iV 0) (aa (iC (.ty "bool")) ac))))))
def cQ:Fn:=bi 1 1 qY
def dm:Ef:=(au cQ (aa (iV 0) ac))
def ge:Sf:=(ah (aY (dQ (cV (cJ db (iCB n4 (aa (iV 4) (aa (iC (.ty "tuple")) ac))))) (dQ (aE dNe (iCB aX (aa (iV 4) ac)) (iC (.int 2))) (cV (cJ db (iCB n4 (aa (iOp dIx (iV 4) (iC (.int 0))) (aa (iC (.ty "tuple")) ac))))))) (aK (iC (.bl false))) aO) (ah (aY (dQ (cV (cJ db (iCB Cf (aa (ar (iLc 1 [] (aC (iOp dIx (iV 4) (iC (.int 0)))) (.nm 0) aL dm)) ac)))) (dQ (aE mD (iOp dIx (iV 4) (iC (.int 0))) (iV 2)) (cV (cJ db (au cQ (aa (iOp dIx (iV 4) (iC (.int 1))) ac)))))) (aK (iC (.bl false))) aO) (ah (aY (dQ (aE dEq (iOp dIx (iV 4) (iC (.int 1))) (iC (.int 0))) (dS (aE kc (iV 3) (iC .non)) (cV (aE uo (iV 3) (iOp dIx (iV 4) (iC (.int 0))))))) (aK (iC (.bl false))) aO) (az (.nm 3) (iOp dIx (iV 4) (iC (.int 0)))))))
def iZ:Sf:=(ah (aY (dQ (cV (cJ db (iCB n4 (aa (iV 0) (aa (iC (.ty "tuple")) ac))))) (dQ (aE dNe (iCB aX (aa (iV 0) ac)) (iC (.int 2))) (dQ (cV (cJ db (iCB n4 (aa (iOp dIx (iV 0) (iC (.int 0))) (aa (iC (.ty "str")) ac))))) (aE dNe (iOp dIx (iV 0) (iC (.int 0))) (iV 1))))) (aK (iC (.bl false))) aO) (ah (aY (cV (cJ db (iCB n4 (aa (iOp dIx (iV 0) (iC (.int 1))) (aa (iC (.ty "tuple")) ac))))) (aK (iC (.bl false))) aO) (ah (az (.nm 3) (iC .non)) (ah (eZ (aC (iOp dIx (iV 0) (iC (.int 1)))) (.nm 4) ge) (aK (iC (.bl true)))))))
def eA:Fn:=bi 5 3 iZ
def dE:Sf:=(aY (dQ (cV (cJ db (au cQ (aa (iV 2) ac)))) (dQ (aE dLt (iV 2) (iC (.int 0))) (dS (aE iL (iV 3) (iC .non)) (aE dGt (iV 2) (iC (.int 0)))))) (aK (iC (.bl false))) aO)
def eV:Sf:=(ah (aY (dQ (cV (cJ db (iCB n4 (aa (iV 0) (aa (iC (.ty "tuple")) ac))))) (aE dNe (iCB aX (aa (iV 0) ac)) (iCB aX (aa (iV 1) ac)))) (aK (iC (.bl false))) aO) (ah (eZ (gf (aa (iV 0) (aa (iV 1) ac))) (.tp [2,3]) dE) (aK (iC (.bl true)))))
def cC:Fn:=bi 4 2 eV
def cR:Ef:=(iOp bb (iV 1) (au cq (aa (iV 2) (aa (iV 0) (aa (iV 3) ac)))))
def fj:Sf:=(aY (aE kc (iV 5) (iC .non)) (ah (az (.nm 6) (iOp bb (iCB nJ (aa (ar (iLc 2 [2,4] (aC (iOp dIx (iOp dIx (iV 0) (iC (.int 0))) (iC (.int 1)))) (.tp [0,1]) aL cR)) ac)) (iOp kf (iOp bb (iC (.int 2)) (iV 5)) (iC (.int 1))))) (aY (dQ (aE dLt (iV 6) (iC (.int 0))) (aE dEq (iOp dEq (iV 6) (iC (.int 0))) (iOp dEq (iOp dIx (iOp dIx (iV 0) (iC (.int 1))) (iV 4)) (iC (.int 0))))) (aK (iC (.bl false))) aO)) aO)
def cM:Ef:=(iOp dNe (au jN (aa (iV 1) (aa (iV 2) (aa (iV 0) (aa (iOp dIx (iV 3) (iC (.int 1))) ac))))) (iC (.int 0)))
def ij:Sf:=(ah (aY (dQ (cV (cJ db (iCB n4 (aa (iV 0) (aa (iC (.ty "tuple")) ac))))) (dQ (aE dNe (iCB aX (aa (iV 0) ac)) (iC (.int 2))) (cV (cJ db (au eA (aa (iOp dIx (iV 0) (iC (.int 0))) (aa (iV 2) (aa (iV 3) ac)))))))) (aK (iC (.bl false))) aO) (ah (aY (dQ (cV (cJ db (au cC (aa (iOp dIx (iV 0) (iC (.int 1))) (aa (iV 1) ac))))) (cJ db (iCB zd (aa (ar (iLc 1 [1,2,0] (aC (iV 3)) (.nm 0) aL cM)) ac)))) (aK (iC (.bl false))) aO) (ah (eZ (cb (aa (iV 1) ac)) (.tp [4,5]) fj) (aK (iC (.bl true))))))
def dH:Fn:=bi 7 4 ij
def Bo:Sf:=(ah (az (.nm 5) (au gr (aa (iV 2) (aa (iV 3) ac)))) (ah (az (.nm 6) (iOp dIx (ar (bR (aa (iC (.str "both")) (aa (iC (.str "odd")) ac)))) (au aG (aa (iV 2) (aa (iC (.int 2)) ac))))) (ah (az (.nm 7) (au gB (aa (iV 4) (aa (iV 6) (aa (iV 5) ac))))) (aY (dQ (cV (cJ db (au dH (aa (iV 7) (aa (iV 4) (aa (iV 6) (aa (iV 5) ac))))))) (aE dNe (au gB (aa (iV 4) (aa (iV 6) (aa (iV 5) ac)))) (iV 7))) (aK (iC (.bl false))) aO))))
def qX:Sf:=(ah (az (.nm 2) (au dk (aa (iV 0) (aa (iV 1) ac)))) (ah (az (.nm 3) (au aG (aa (iV 2) (aa (iC (.int 4)) ac)))) (ah (aY (dS (aE dEq (au aG (aa (iV 2) (aa (iC (.int 8)) ac))) (iC (.int 7))) (aE dEq (iV 1) (iC (.int 0)))) (az (.nm 3) (iC (.int 4))) aO) (ah (az (.nm 4) (au bK (aa (iV 2) (aa (iV 3) ac)))) Bo))))
def BR:Sf:=(ah (eZ (bz (aa (iOp bh (iC (.int 1)) (iCB Dt (aa (iC (.int 5)) (aa (iCB aX (aa (iV 0) ac)) ac)))) ac)) (.nm 1) qX) (aK (iC (.bl true))))
def pq:Fn:=gy 8 1 BR
end Own
section
set_option maxHeartbeats 2000000
namespace Own
open PySem L2
def top (i:Nat):Stmt:=PySem.Challenge.pw_signpoly_k30_splits_told.main.body.getD i (.Pass ⟨0,0,0,0⟩)
def AY (s:Stmt):List Stmt:=match s with
 |.ClassDef _ _ _ b _ _ _ _ _ _ _=>b
 |_=>[]
abbrev eO:Stmt:=top 1
abbrev rd:Stmt:=top 2
abbrev dL:Stmt:=top 3
abbrev lN:Stmt:=top 4
abbrev i6:Stmt:=top 6
abbrev kX:Stmt:=top 7
abbrev cS:Stmt:=(AY (top 9)).getD 0 (.Pass ⟨0,0,0,0⟩)
abbrev fN:Stmt:=top 10
abbrev lv:Stmt:=top 11
abbrev gI:Stmt:=top 12
abbrev kY:Stmt:=top 13
abbrev gD:Stmt:=top 14
abbrev iA:Stmt:=top 15
abbrev qT:Stmt:=top 16
abbrev gz:Stmt:=top 17
abbrev nq:Stmt:=top 18
abbrev gA:Stmt:=top 19
abbrev iF:Stmt:=top 20
abbrev gT:Stmt:=top 21
abbrev lK:Stmt:=top 22
abbrev jU:Stmt:=top 24
abbrev i5:Stmt:=top 26
abbrev nZ:Stmt:=top 28
abbrev nr:Stmt:=top 29
abbrev eW:Stmt:=top 31
abbrev dR:Stmt:=top 32
abbrev ng:Stmt:=top 34
abbrev iW:Stmt:=top 35
abbrev lE:Stmt:=top 36
abbrev gL:Stmt:=top 37
abbrev j5:Stmt:=top 38
abbrev j0:Stmt:=top 40
abbrev iR:Stmt:=top 41
abbrev lc:Stmt:=top 42
abbrev dG:Stmt:=top 43
abbrev dw:Stmt:=top 44
abbrev gK:Stmt:=top 45
abbrev gJ:Stmt:=top 46
abbrev jR:Stmt:=top 47
abbrev gW:Stmt:=top 48
abbrev eJ:Stmt:=top 49
abbrev cG:Stmt:=top 50
abbrev dJ:Stmt:=top 51
abbrev ze:Stmt:=top 52
def mo:aw ["k","power","step"] ["k"] (ag eO):=⟨rfl,rfl,rfl,by decide +kernel,rfl,by decide +kernel,by decide +kernel⟩
def y7:aw ["row","k"] ["row","k"] (ag rd):=⟨rfl,rfl,rfl,by decide +kernel,rfl,by decide +kernel,by decide +kernel⟩
def lG:aw ["numbers","found","number","rest","over"] ["numbers"] (ag dL):=⟨rfl,rfl,rfl,by decide +kernel,rfl,by decide +kernel,by decide +kernel⟩
def uL:aw ["numbers","shared"] ["numbers"] (ag lN):=⟨rfl,rfl,rfl,by decide +kernel,rfl,by decide +kernel,by decide +kernel⟩
def qM:aw ["f"] ["f"] (ag i6):=⟨rfl,rfl,rfl,by decide +kernel,rfl,by decide +kernel,by decide +kernel⟩
def uR:aw ["f","row"] ["f","row"] (ag kX):=⟨rfl,rfl,rfl,by decide +kernel,rfl,by decide +kernel,by decide +kernel⟩
def oT:aw ["self","rows","bounds","gains"] ["self","rows","bounds","gains"] (ag cS):=⟨rfl,rfl,rfl,by decide +kernel,rfl,by decide +kernel,by decide +kernel⟩
def nL:aw ["places","tops","bottoms","least","place","mine","best"] ["places","tops","bottoms"] (ag fN):=⟨rfl,rfl,rfl,by decide +kernel,rfl,by decide +kernel,by decide +kernel⟩
def uZ:aw ["table"] ["table"] (ag lv):=⟨rfl,rfl,rfl,by decide +kernel,rfl,by decide +kernel,by decide +kernel⟩
def oV:aw ["table","name","column"] ["table","name"] (ag gI):=⟨rfl,rfl,rfl,by decide +kernel,rfl,by decide +kernel,by decide +kernel⟩
def tX:aw ["table","column","entries","places","name"] ["table","column"] (ag kY):=⟨rfl,rfl,rfl,by decide +kernel,rfl,by decide +kernel,by decide +kernel⟩
def oX:aw ["table","one","other","mine","best","name","numbers","more"] ["table","one","other"] (ag gD):=⟨rfl,rfl,rfl,by decide +kernel,rfl,by decide +kernel,by decide +kernel⟩
def qS:aw ["table","best","column","step"] ["table"] (ag iA):=⟨rfl,rfl,rfl,by decide +kernel,rfl,by decide +kernel,by decide +kernel⟩
def zn:aw ["line","turning","column","part","pivot","entry","told"] ["line","turning","column","part"] (ag qT):=⟨rfl,rfl,rfl,by decide +kernel,rfl,by decide +kernel,by decide +kernel⟩
def cI:aw ["table","place","column","turning","part","lines","name"] ["table","place","column"] (ag gz):=⟨rfl,rfl,rfl,by decide +kernel,rfl,by decide +kernel,by decide +kernel⟩
def xw:aw ["table","column","way","place","name"] ["table","column"] (ag nq):=⟨rfl,rfl,rfl,by decide +kernel,rfl,by decide +kernel,by decide +kernel⟩
def oY:aw ["table","amounts","place","name"] ["table"] (ag gA):=⟨rfl,rfl,rfl,by decide +kernel,rfl,by decide +kernel,by decide +kernel⟩
def re:aw ["table","prices","column","name"] ["table"] (ag iF):=⟨rfl,rfl,rfl,by decide +kernel,rfl,by decide +kernel,by decide +kernel⟩
def oU:aw ["table","amounts","prices","shared"] ["table"] (ag gT):=⟨rfl,rfl,rfl,by decide +kernel,rfl,by decide +kernel,by decide +kernel⟩
def gH:aw ["rows","bounds","gains","table","step"] ["rows","bounds","gains"] (ag lK):=⟨rfl,rfl,rfl,by decide +kernel,rfl,by decide +kernel,by decide +kernel⟩
def so:aw ["kind","term","row","many"] ["kind","term","row"] (ag jU):=⟨rfl,rfl,rfl,by decide +kernel,rfl,by decide +kernel,by decide +kernel⟩
def qU:aw ["kind","numbers"] ["kind","numbers"] (ag i5):=⟨rfl,rfl,rfl,by decide +kernel,rfl,by decide +kernel,by decide +kernel⟩
def xE:aw ["poly","number"] ["poly","number"] (ag nZ):=⟨rfl,rfl,rfl,by decide +kernel,rfl,by decide +kernel,by decide +kernel⟩
def xQ:aw ["poly"] ["poly"] (ag nr):=⟨rfl,rfl,rfl,by decide +kernel,rfl,by decide +kernel,by decide +kernel⟩
def mj:aw ["f","kind","term","row"] ["f","kind","term","row"] (ag eW):=⟨rfl,rfl,rfl,by decide +kernel,rfl,by decide +kernel,by decide +kernel⟩
def lC:aw ["f","kind","terms"] ["f","kind","terms"] (ag dR):=⟨rfl,rfl,rfl,by decide +kernel,rfl,by decide +kernel,by decide +kernel⟩
def xb:aw ["place","many"] ["place","many"] (ag ng):=⟨rfl,rfl,rfl,by decide +kernel,rfl,by decide +kernel,by decide +kernel⟩
def qC:aw ["numbers"] ["numbers"] (ag iW):=⟨rfl,rfl,rfl,by decide +kernel,rfl,by decide +kernel,by decide +kernel⟩
def uk:aw ["kind","terms","amounts","numbers","place","term"] ["kind","terms","amounts"] (ag lE):=⟨rfl,rfl,rfl,by decide +kernel,rfl,by decide +kernel,by decide +kernel⟩
def oO:aw ["f","numbers","weights","row","number"] ["f","numbers"] (ag gL):=⟨rfl,rfl,rfl,by decide +kernel,rfl,by decide +kernel,by decide +kernel⟩
def tE:aw ["f","kind","terms","values","many","earned","limits","most"] ["f","kind","terms"] (ag j5):=⟨rfl,rfl,rfl,by decide +kernel,rfl,by decide +kernel,by decide +kernel⟩
def tH:aw ["_law_script","_law_k","_law_cell","_law_great"] ["_law_script","_law_k"] (ag j0):=⟨rfl,rfl,rfl,by decide +kernel,rfl,by decide +kernel,by decide +kernel⟩
def rB:aw ["_law_pot_here","_law_many","_law_digit"] ["_law_pot_here","_law_many"] (ag iR):=⟨rfl,rfl,rfl,by decide +kernel,rfl,by decide +kernel,by decide +kernel⟩
def u2:aw ["_law_row"] ["_law_row"] (ag lc):=⟨rfl,rfl,rfl,by decide +kernel,rfl,by decide +kernel,by decide +kernel⟩
def li:aw ["_law_pot_here","_law_n","_law_way","_law_counts","_law_some","_law_menu"] ["_law_pot_here","_law_n"] (ag dG):=⟨rfl,rfl,rfl,by decide +kernel,rfl,by decide +kernel,by decide +kernel⟩
def kz:aw ["_law_n","_law_found","_law_k"] ["_law_n"] (ag dw):=⟨rfl,rfl,rfl,by decide +kernel,rfl,by decide +kernel,by decide +kernel⟩
def oI:aw ["_law_pot_here","_law_n","_law_way","_law_every","_law_size","_law_at"] ["_law_pot_here","_law_n"] (ag gK):=⟨rfl,rfl,rfl,by decide +kernel,rfl,by decide +kernel,by decide +kernel⟩
def o0:aw ["_law_kind","_law_term","_law_row","_law_many"] ["_law_kind","_law_term","_law_row"] (ag gJ):=⟨rfl,rfl,rfl,by decide +kernel,rfl,by decide +kernel,by decide +kernel⟩
def rC:aw ["_law_f","_law_kind","_law_term","_law_weights","_law_found","_law_row","_law_value_here"] ["_law_f","_law_kind","_law_term","_law_weights"] (ag jR):=⟨rfl,rfl,rfl,by decide +kernel,rfl,by decide +kernel,by decide +kernel⟩
def o8:aw ["_law_item"] ["_law_item"] (ag gW):=⟨rfl,rfl,rfl,by decide +kernel,rfl,by decide +kernel,by decide +kernel⟩
def mq:aw ["_law_item","_law_kind","_law_terms_here","_law_last","_law_part"] ["_law_item","_law_kind","_law_terms_here"] (ag eJ):=⟨rfl,rfl,rfl,by decide +kernel,rfl,by decide +kernel,by decide +kernel⟩
def jw:aw ["_law_item","_law_f","_law_weight","_law_value_here"] ["_law_item","_law_f"] (ag cG):=⟨rfl,rfl,rfl,by decide +kernel,rfl,by decide +kernel,by decide +kernel⟩
def lO:aw ["_law_item","_law_f","_law_kind","_law_terms_here","_law_row","_law_value_here","_law_here"] ["_law_item","_law_f","_law_kind","_law_terms_here"] (ag dJ):=⟨rfl,rfl,rfl,by decide +kernel,rfl,by decide +kernel,by decide +kernel⟩
def Dy:aw ["_law_script","_law_k","_law_pot_here","_law_n","_law_f","_law_terms_here","_law_kind","_law_found"] ["_law_script"] (ag ze):=⟨rfl,rfl,rfl,by decide +kernel,rfl,by decide +kernel,by decide +kernel⟩
set_option genSizeOf false in
set_option genInjectivity false in
structure Adr where
 f0:Addr
 g0:qau
 f1:Addr
 g1:qau
 f2:Addr
 g2:qau
 f3:Addr
 g3:qau
 f4:Addr
 g4:qau
 f5:Addr
 g5:qau
 f6:Addr
 g6:qau
 f7:Addr
 g7:qau
 f8:Addr
 g8:qau
 f9:Addr
 g9:qau
 f10:Addr
 g10:qau
 f11:Addr
 g11:qau
 f12:Addr
 g12:qau
 f13:Addr
 g13:qau
 f14:Addr
 g14:qau
 f15:Addr
 g15:qau
 f16:Addr
 g16:qau
 f17:Addr
 g17:qau
 f18:Addr
 g18:qau
 f19:Addr
 g19:qau
 f20:Addr
 g20:qau
 f21:Addr
 g21:qau
 f22:Addr
 g22:qau
 f23:Addr
 g23:qau
 f24:Addr
 g24:qau
 f25:Addr
 g25:qau
 f26:Addr
 g26:qau
 f27:Addr
 g27:qau
 f28:Addr
 g28:qau
 f29:Addr
 g29:qau
 f30:Addr
 g30:qau
 f31:Addr
 g31:qau
 f32:Addr
 g32:qau
 f33:Addr
 g33:qau
 f34:Addr
 g34:qau
 f35:Addr
 g35:qau
 f36:Addr
 g36:qau
 f37:Addr
 g37:qau
 f38:Addr
 g38:qau
 f39:Addr
 g39:qau
 f40:Addr
 g40:qau
 f41:Addr
 g41:qau
 f42:Addr
 g42:qau
 f43:Addr
 g43:qau
 ca_Table:Addr
structure Txt (K:qae) (mg:Str->Option Value) (t:Adr):Prop where
 cm_Table:mg "Table" = some (.ref t.ca_Table)
 F0:Fun K "power_of_two" "power_of_two" eO t.f0 t.g0
 m0:mg "power_of_two" = some (.ref t.f0)
 b0:aM K t.g0 ["k"] []
 F1:Fun K "on_in" "on_in" rd t.f1 t.g1
 m1:mg "on_in" = some (.ref t.f1)
 b1:aM K t.g1 ["row","k"] []
 F2:Fun K "greatest_part" "greatest_part" dL t.f2 t.g2
 m2:mg "greatest_part" = some (.ref t.f2)
 b2:aM K t.g2 ["numbers"] []
 F3:Fun K "lowered" "lowered" lN t.f3 t.g3
 m3:mg "lowered" = some (.ref t.f3)
 b3:aM K t.g3 ["numbers"] []
 F4:Fun K "told_rows" "told_rows" i6 t.f4 t.g4
 m4:mg "told_rows" = some (.ref t.f4)
 b4:aM K t.g4 ["f"] []
 F5:Fun K "sign_at" "sign_at" kX t.f5 t.g5
 m5:mg "sign_at" = some (.ref t.f5)
 b5:aM K t.g5 ["f","row"] []
 F6:Fun K "__init__" "Table.__init__" cS t.f6 t.g6
 b6:aM K t.g6 ["self","rows","bounds","gains"] []
 mk_Table:Mk K t.ca_Table t.f6
 cl_Table:Cls K t.ca_Table
 na_Table:∀ p∈cp,cw K t.ca_Table p.1
 F7:Fun K "least_ratio" "least_ratio" fN t.f7 t.g7
 m7:mg "least_ratio" = some (.ref t.f7)
 b7:aM K t.g7 ["places","tops","bottoms"] []
 F8:Fun K "weighed" "weighed" lv t.f8 t.g8
 m8:mg "weighed" = some (.ref t.f8)
 b8:aM K t.g8 ["table"] []
 F9:Fun K "numbers_by" "numbers_by" gI t.f9 t.g9
 m9:mg "numbers_by" = some (.ref t.f9)
 b9:aM K t.g9 ["table","name"] []
 F10:Fun K "leaving" "leaving" kY t.f10 t.g10
 m10:mg "leaving" = some (.ref t.f10)
 b10:aM K t.g10 ["table","column"] []
 F11:Fun K "gains_more" "gains_more" gD t.f11 t.g11
 m11:mg "gains_more" = some (.ref t.f11)
 b11:aM K t.g11 ["table","one","other"] []
 F12:Fun K "best_step" "best_step" iA t.f12 t.g12
 m12:mg "best_step" = some (.ref t.f12)
 b12:aM K t.g12 ["table"] []
 F13:Fun K "swept" "swept" qT t.f13 t.g13
 m13:mg "swept" = some (.ref t.f13)
 b13:aM K t.g13 ["line","turning","column","part"] []
 F14:Fun K "exchange" "exchange" gz t.f14 t.g14
 m14:mg "exchange" = some (.ref t.f14)
 b14:aM K t.g14 ["table","place","column"] []
 F15:Fun K "way_of" "way_of" nq t.f15 t.g15
 m15:mg "way_of" = some (.ref t.f15)
 b15:aM K t.g15 ["table","column"] []
 F16:Fun K "amounts_of" "amounts_of" gA t.f16 t.g16
 m16:mg "amounts_of" = some (.ref t.f16)
 b16:aM K t.g16 ["table"] []
 F17:Fun K "prices_of" "prices_of" iF t.f17 t.g17
 m17:mg "prices_of" = some (.ref t.f17)
 b17:aM K t.g17 ["table"] []
 F18:Fun K "found_most" "found_most" gT t.f18 t.g18
 m18:mg "found_most" = some (.ref t.f18)
 b18:aM K t.g18 ["table"] []
 F19:Fun K "most_of" "most_of" lK t.f19 t.g19
 m19:mg "most_of" = some (.ref t.f19)
 b19:aM K t.g19 ["rows","bounds","gains"] []
 F20:Fun K "value_of" "value_of" jU t.f20 t.g20
 m20:mg "value_of" = some (.ref t.f20)
 b20:aM K t.g20 ["kind","term","row"] []
 F21:Fun K "poly_from" "poly_from" i5 t.f21 t.g21
 m21:mg "poly_from" = some (.ref t.f21)
 b21:aM K t.g21 ["kind","numbers"] []
 F22:Fun K "parted" "parted" nZ t.f22 t.g22
 m22:mg "parted" = some (.ref t.f22)
 b22:aM K t.g22 ["poly","number"] []
 F23:Fun K "shrunk" "shrunk" nr t.f23 t.g23
 m23:mg "shrunk" = some (.ref t.f23)
 b23:aM K t.g23 ["poly"] []
 F24:Fun K "signed_value" "signed_value" eW t.f24 t.g24
 m24:mg "signed_value" = some (.ref t.f24)
 b24:aM K t.g24 ["f","kind","term","row"] []
 F25:Fun K "signed_values" "signed_values" dR t.f25 t.g25
 m25:mg "signed_values" = some (.ref t.f25)
 b25:aM K t.g25 ["f","kind","terms"] []
 F26:Fun K "one_at" "one_at" ng t.f26 t.g26
 m26:mg "one_at" = some (.ref t.f26)
 b26:aM K t.g26 ["place","many"] []
 F27:Fun K "both_ways" "both_ways" iW t.f27 t.g27
 m27:mg "both_ways" = some (.ref t.f27)
 b27:aM K t.g27 ["numbers"] []
 F28:Fun K "poly_by" "poly_by" lE t.f28 t.g28
 m28:mg "poly_by" = some (.ref t.f28)
 b28:aM K t.g28 ["kind","terms","amounts"] []
 F29:Fun K "weights_by" "weights_by" gL t.f29 t.g29
 m29:mg "weights_by" = some (.ref t.f29)
 b29:aM K t.g29 ["f","numbers"] []
 F30:Fun K "split_of" "split_of" j5 t.f30 t.g30
 m30:mg "split_of" = some (.ref t.f30)
 b30:aM K t.g30 ["f","kind","terms"] []
 F31:Fun K "_law_pot" "_law_pot" j0 t.f31 t.g31
 m31:mg "_law_pot" = some (.ref t.f31)
 b31:aM K t.g31 ["_law_script","_law_k"] []
 F32:Fun K "_law_pick" "_law_pick" iR t.f32 t.g32
 m32:mg "_law_pick" = some (.ref t.f32)
 b32:aM K t.g32 ["_law_pot_here","_law_many"] []
 F33:Fun K "_law_on" "_law_on" lc t.f33 t.g33
 m33:mg "_law_on" = some (.ref t.f33)
 b33:aM K t.g33 ["_law_row"] []
 F34:Fun K "_law_function" "_law_function" dG t.f34 t.g34
 m34:mg "_law_function" = some (.ref t.f34)
 b34:aM K t.g34 ["_law_pot_here","_law_n"] []
 F35:Fun K "_law_all_terms" "_law_all_terms" dw t.f35 t.g35
 m35:mg "_law_all_terms" = some (.ref t.f35)
 b35:aM K t.g35 ["_law_n"] []
 F36:Fun K "_law_terms" "_law_terms" gK t.f36 t.g36
 m36:mg "_law_terms" = some (.ref t.f36)
 b36:aM K t.g36 ["_law_pot_here","_law_n"] []
 F37:Fun K "_law_value" "_law_value" gJ t.f37 t.g37
 m37:mg "_law_value" = some (.ref t.f37)
 b37:aM K t.g37 ["_law_kind","_law_term","_law_row"] []
 F38:Fun K "_law_sum" "_law_sum" jR t.f38 t.g38
 m38:mg "_law_sum" = some (.ref t.f38)
 b38:aM K t.g38 ["_law_f","_law_kind","_law_term","_law_weights"] []
 F39:Fun K "_law_whole" "_law_whole" gW t.f39 t.g39
 m39:mg "_law_whole" = some (.ref t.f39)
 b39:aM K t.g39 ["_law_item"] []
 F40:Fun K "_law_is_poly" "_law_is_poly" eJ t.f40 t.g40
 m40:mg "_law_is_poly" = some (.ref t.f40)
 b40:aM K t.g40 ["_law_item","_law_kind","_law_terms_here"] []
 F41:Fun K "_law_are_weights" "_law_are_weights" cG t.f41 t.g41
 m41:mg "_law_are_weights" = some (.ref t.f41)
 b41:aM K t.g41 ["_law_item","_law_f"] []
 F42:Fun K "_law_is_split" "_law_is_split" dJ t.f42 t.g42
 m42:mg "_law_is_split" = some (.ref t.f42)
 b42:aM K t.g42 ["_law_item","_law_f","_law_kind","_law_terms_here"] []
 F43:Fun K "law" "law" ze t.f43 t.g43
 m43:mg "law" = some (.ref t.f43)
 b43:aM K t.g43 ["_law_script"] []
 z:∀ x∈(["abs","all","any","bool","enumerate","int","isinstance","len","list","min","range","sorted","str","sum","tuple","zip"]:List Str),mg x=none
abbrev TX (P:qaQ) (w:World) (base:Heap) (K:qae) (mg:Str->Option Value) (t:Adr):Prop:=Txt K mg t
def txz {P:qaQ}{w:World}{base:Heap}{K:qae}{mg:Str->Option Value}{t:Adr} (T:TX P w base K mg t) (x:Str) (h:x∈(["abs","all","any","bool","enumerate","int","isinstance","len","list","min","range","sorted","str","sum","tuple","zip"]:List Str)):mg x=none:=T.z x h
local macro_rules
|`(tactic|infer_instance)=>`(tactic|with_reducible first|exact qjA|exact qjz|exact qjy|exact qjx|exact qjw|exact qjv|exact qct|exact qju|exact qe6|exact qjt|exact qjs|exact qjr|exact qdm)
local macro_rules
| `(tactic|trivial)=>`(tactic|((conv in (occs:=*) ag _=>whnf);(conv in cz _=>whnf);intros;repeat' first
  |assumption
  |decide +kernel
  |exact rfl
  |exact Or.inl rfl
  |exact Or.inr rfl
  |exact Or.inr (Or.inl rfl)
  |exact Or.inr (Or.inr rfl)
  |(apply And.left;apply yN;(case hsw=>exact rfl))
  |(apply And.right;apply yN;(case hsw=>exact rfl))
  |apply zu
  |apply ym
  |apply wb
  |apply kU
  |apply bP
  |apply bI
  |apply aH
  |apply jS
  |apply iv
  |apply vX
  |apply vb
  |apply jX
  |apply Gb
  |apply ke
  |apply d8
  |apply t9
  |apply BZ
  |apply yx
  |apply C5
  |apply BJ
  |apply ii_rng2
  |apply Aw
  |apply xZ
  |apply ut
  |apply tY
  |apply EJ
  |apply yJ
  |apply mF
  |apply BF
  |apply Cj
  |apply mO
  |apply FJ
  |apply Bf
  |apply DY
  |apply yd
  |apply Az
  |apply Ds
  |apply yv
  |apply EN
  |apply C9
  |apply ue
  |apply Fh
  |apply mJ
  |apply rR
  |apply vw
  |apply AO
  |apply zR
  |apply BH
  |apply Ax
  |refine j6 rfl (by assumption) (by assumption) ?_ ?_ ?_ ?_ ?_ ?_
  |refine gi rfl (by assumption) (by assumption) ?_ ?_ ?_ ?_ ?_ ?_
  |refine ER (by infer_instance) ?_ ?_ ?_ ?_ ?_ ?_ ?_ ?_ ?_
  |refine Fg (by infer_instance) ?_ ?_ ?_ ?_ ?_ ?_ ?_ ?_ ?_
  |with_reducible first|apply qN|apply Ec|apply ET|apply BE|apply Cn|apply FL|apply Ew|apply EU|apply zo|apply FN|apply B8|apply Ci|apply Ee|apply Cp|apply FR|apply xj|apply vz|apply CC|apply Ch|apply DC|apply Db|apply Eb|apply D3|apply Eo|apply AI|apply CA|apply CM|apply lD|apply C8|apply Dj|apply DV|apply cl_Table|apply qK|apply zf
  |apply Di
  |apply xu
  |apply DJ
  |apply CB
  |apply Bw
  |apply DZ
  |apply DN
  |refine EV ?_ ?_ (by infer_instance) ?_ ?_
  |apply zE
  |apply Bh
  |apply jn
  |apply um
  |apply C1
  |exact txz ‹_› _ (by decide)
  |exact qgH
  |exact u9 _
  |exact λ_=>rfl
  |apply kP
  |apply vV
  |apply om
  |apply rj
  |apply zH
  |intro))
section
variable {P:qaQ}{w:World}{K:qae}{mg:Str->Option Value}{base:Heap}{t:Adr}
def mx (T:TX P w base K mg t):Cal P w K mg base "power_of_two" 1 eK:=bn T.F0 mo T.m0 T.b0 (by trivial)
def yT (T:TX P w base K mg t):Cal P w K mg base "on_in" 2 rA:=bn T.F1 y7 T.m1 T.b1 (by have:=mx T;trivial)
def dl (T:TX P w base K mg t):Cal P w K mg base "greatest_part" 1 br:=bn T.F2 lG T.m2 T.b2 (by trivial)
def no (T:TX P w base K mg t):Cal P w K mg base "lowered" 2 dg:=bn T.F3 uL T.m3 T.b3 (by have:=dl T;trivial)
def kh (T:TX P w base K mg t):Cal P w K mg base "told_rows" 1 cf:=bn T.F4 qM T.m4 T.b4 (by trivial)
def uD (T:TX P w base K mg t):Cal P w K mg base "sign_at" 1 fU:=bn T.F5 uR T.m5 T.b5 (by trivial)
def pd (T:TX P w base K mg t):ek P w K mg base CX0 1 t.f6 t.g6 ["self","rows","bounds","gains"] (AJ K 4 4 cp):=
 FK (N:=["self","rows","bounds","gains"]) (ps:=["self","rows","bounds","gains"]) (k:=0) (g:=cp) T.F6 oT (by decide) (λ_ _ _ _ _ _ a=>(i4 rfl (by first|exact Or.inl rfl|exact Or.inr (Or.inl rfl)|exact Or.inr (Or.inr rfl)) (pJ (lD rfl) rfl (T.z _ (by decide)) qdm (aH (iv 3) bI rfl) (by decide) (by decide) rfl rfl) (i4 rfl (by first|exact Or.inl rfl|exact Or.inr (Or.inl rfl)|exact Or.inr (Or.inr rfl)) (jn (yY (tU (ag cS).names ["self","rows","bounds","gains"] ["row","bound"] 2 [] rfl rfl rfl (by decide +kernel)) rfl (by decide) (xZ rfl (T.z _ (by decide)) (aH (iv 1) (aH (iv 2) bI rfl) rfl) rfl rfl rfl) (λ_ _ _ _ _=>(zH (om (kP (i:=0) (show qgb (α:=Str) ["row","bound"] by decide +kernel) rfl (by first|exact Or.inl rfl|exact Or.inr rfl)) (om (kP (i:=1) (show qgb (α:=Str) ["row","bound"] by decide +kernel) rfl (by first|exact Or.inl rfl|exact Or.inr rfl)) vV)) rfl rfl rfl rfl rfl)) (λ_ _ _ _ _=>mF) (λ_ _ _ _ _=>(vX (qN rfl) (jn (B6 (qK rfl) rfl (T.z _ (by decide)) qct (aH (iv 0) bI rfl) (by decide) (by decide) rfl rfl)) (jn (ue (aH (iv 1) bI rfl))))) (λ_=>rfl))) (i4 rfl (by first|exact Or.inl rfl|exact Or.inr (Or.inl rfl)|exact Or.inr (Or.inr rfl)) (vX (qN rfl) (jn (yY (tU (ag cS).names ["self","rows","bounds","gains"] ["gain"] 1 [] rfl rfl rfl (by decide +kernel)) rfl (by decide) (ut (iv 3) rfl) (λ_ _ _ _ _=>(rj (kP (i:=0) (show qgb (α:=Str) ["gain"] by decide +kernel) rfl (by first|exact Or.inl rfl|exact Or.inr rfl)))) (λ_ _ _ _ _=>mF) (λ_ _ _ _ _=>(yv (iv 0))) (λ_=>rfl))) (jn (ue (aH jS bI rfl)))) (i4 rfl (by first|exact Or.inl rfl|exact Or.inr (Or.inl rfl)|exact Or.inr (Or.inr rfl)) jS (i4 rfl (by first|exact Or.inl rfl|exact Or.inr (Or.inl rfl)|exact Or.inr (Or.inr rfl)) (um (zu rfl (T.z _ (by decide)) rfl (T.z _ (by decide)) (aH (pJ (lD rfl) rfl (T.z _ (by decide)) qdm (aH (iv 3) bI rfl) (by decide) (by decide) rfl rfl) bI rfl) rfl rfl)) (Al rfl (by first|exact Or.inl rfl|exact Or.inr (Or.inl rfl)|exact Or.inr (Or.inr rfl)) (um (ym rfl (T.z _ (by decide)) rfl (T.z _ (by decide)) (aH (pJ (lD rfl) rfl (T.z _ (by decide)) qdm (aH (iv 3) bI rfl) (by decide) (by decide) rfl rfl) (aH (vX (qN rfl) (pJ (lD rfl) rfl (T.z _ (by decide)) qdm (aH (iv 3) bI rfl) (by decide) (by decide) rfl rfl) (pJ (lD rfl) rfl (T.z _ (by decide)) qdm (aH (iv 1) bI rfl) (by decide) (by decide) rfl rfl)) bI rfl) rfl) rfl rfl rfl)) rfl rfl) (by intro z;cases z) rfl rfl) (by intro z;cases z) rfl rfl) (by intro z;cases z) rfl rfl) (by intro z;cases z) rfl rfl) (by intro z;cases z) rfl rfl))
def nv (T:TX P w base K mg t):Cal P w K mg base "least_ratio" 1 fO:=lR T.F7 nL T.m7 T.b7 (by trivial)
def n6 (T:TX P w base K mg t):Cal P w K mg base "weighed" 1 eh:=bn T.F8 uZ T.m8 T.b8 (by trivial)
def jH (T:TX P w base K mg t):Cal P w K mg base "numbers_by" 1 cO:=bn T.F9 oV T.m9 T.b9 (by trivial)
def uC (T:TX P w base K mg t):Cal P w K mg base "leaving" 2 jj:=bn T.F10 tX T.m10 T.b10 (by have:=n6 T;have:=nv T;have:=jH T;trivial)
def oK (T:TX P w base K mg t):Cal P w K mg base "gains_more" 2 cn:=bn T.F11 oX T.m11 T.b11 (by have:=n6 T;have:=jH T;trivial)
def kl (T:TX P w base K mg t):Cal P w K mg base "best_step" 3 bS:=bn T.F12 qS T.m12 T.b12 (by have:=uC T;have:=oK T;trivial)
def tT (T:TX P w base K mg t):Cal P w K mg base "swept" 1 jk:=lR T.F13 zn T.m13 T.b13 (by trivial)
def tF (T:TX P w base K mg t):Cal P w K mg base "exchange" 2 df:=lR T.F14 cI T.m14 T.b14 (λ_ _ _ _ _ _ a _ _ _=>(bP (jX (i:=3) cI.nd rfl (by first|exact Or.inl rfl|exact Or.inr rfl) (ke (d8 (iv 0) rfl rfl) (iv 1) rfl rfl) rfl (by first|exact .inl rfl|exact .inr rfl)) (bP (jX (i:=4) cI.nd rfl (by first|exact Or.inl rfl|exact Or.inr rfl) (d8 (iv 0) rfl rfl) rfl (by first|exact .inl rfl|exact .inr rfl)) (wF (il:=5) (ip:=1) (ic:=2) (it:=3) (ia:=4) cI.nd rfl rfl rfl rfl rfl (by first|exact Or.inl rfl|exact Or.inr rfl) (by first|exact Or.inl rfl|exact Or.inr (Or.inl rfl)|exact Or.inr (Or.inr rfl)) (by first|exact Or.inl rfl|exact Or.inr (Or.inl rfl)|exact Or.inr (Or.inr rfl)) (by first|exact Or.inl rfl|exact Or.inr (Or.inl rfl)|exact Or.inr (Or.inr rfl)) (by first|exact Or.inl rfl|exact Or.inr (Or.inl rfl)|exact Or.inr (Or.inr rfl)) (by first|exact Or.inl rfl|exact Or.inr (Or.inl rfl)|exact Or.inr (Or.inr rfl)) (by decide) (by decide) (by decide) (by decide) (by decide) (by decide) (by decide) (by decide) (by decide) (by decide) (by decide) (by decide) (by decide) (by decide) (Cq (i0:=5) cI.nd rfl (by first|exact Or.inl rfl|exact Or.inr rfl) (tU (ag gz).names ["table","place","column","turning","part","lines","name"] ["line","turning","column","part"] 1 [3,2,4] rfl rfl rfl (by decide +kernel)) rfl (by decide) (ut (d8 (iv 0) rfl rfl) rfl) (λ_ _ _ _ _=>(rj (kP (i:=0) (show qgb (α:=Str) ["line","turning","column","part"] by decide +kernel) rfl (by first|exact Or.inl rfl|exact Or.inr rfl)))) (λ_ _ _ _ _=>mF) (λ_ _ _ _ _=>(j6 rfl (tT T) a (by decide) rfl (aH (iv 0) (aH (iv 1) (aH (iv 2) (aH (iv 3) bI rfl) rfl) rfl) rfl) (by decide) rfl rfl)) rfl (by first|exact .inl rfl|exact .inr rfl) (λ_=>rfl)) (by exact rfl) (T.z _ (by decide)) (bP (mJ (iv 0) (j6 rfl (tT T) a (by decide) rfl (aH (d8 (iv 0) rfl rfl) (aH (iv 3) (aH (iv 2) (aH (iv 4) bI rfl) rfl) rfl) rfl) (by decide) rfl rfl) rfl rfl) (bP (mJ (iv 0) (iv 5) rfl rfl) (bP (mJ (iv 0) (ke (iv 3) (iv 2) rfl rfl) rfl rfl) (bP (jX (i:=6) cI.nd rfl (by first|exact Or.inl rfl|exact Or.inr rfl) (ke (d8 (iv 0) rfl rfl) (iv 2) rfl rfl) rfl (by first|exact .inl rfl|exact .inr rfl)) (bP (mO (d8 (iv 0) rfl rfl) (iv 2) (ke (d8 (iv 0) rfl rfl) (iv 1) rfl rfl) rfl rfl rfl) (kU (mO (d8 (iv 0) rfl rfl) (iv 1) (iv 6) rfl rfl rfl))))))) (by exact rfl) (by exact rfl) (by exact rfl) (by exact rfl) rfl))))
def xy (T:TX P w base K mg t):Cal P w K mg base "way_of" 3 kt:=lR T.F15 xw T.m15 T.b15 (by have:=no T;trivial)
def oM (T:TX P w base K mg t):Cal P w K mg base "amounts_of" 1 gx:=lR T.F16 oY T.m16 T.b16 (by trivial)
def rm (T:TX P w base K mg t):Cal P w K mg base "prices_of" 1 iw:=lR T.F17 re T.m17 T.b17 (by trivial)
def oJ (T:TX P w base K mg t):Cal P w K mg base "found_most" 2 gR:=bn T.F18 oU T.m18 T.b18 (by have:=oM T;have:=rm T;have:=dl T;trivial)
def uA (T:TX P w base K mg t):Cal P w K mg base "most_of" 4 jg:=bn T.F19 gH T.m19 T.b19 (λ_ _ _ _ _ _ a _ _ _=>(bP (jX (i:=3) gH.nd rfl (by first|exact Or.inl rfl|exact Or.inr rfl) (Ad (N:=["self","rows","bounds","gains"]) (ps:=["self","rows","bounds","gains"]) (k:=2) T.mk_Table (pd T) (by decide) a rfl T.cm_Table T.b6 T.cl_Table T.na_Table rfl (by decide) (aH (iv 0) (aH (iv 1) (aH (iv 2) bI rfl) rfl) rfl) (by decide) rfl rfl) rfl (by first|exact .inl rfl|exact .inr rfl)) (bP (jX (i:=4) gH.nd rfl (by first|exact Or.inl rfl|exact Or.inr rfl) (gi rfl (kl T) a (by decide) rfl (aH (iv 3) bI rfl) (by decide) rfl rfl) rfl (by first|exact .inl rfl|exact .inr rfl)) (bP (rR (2^8000) (t9 vz (iv 4) tY (u9 _)) (bP (BZ (t9 zo (ke (iv 4) jS rfl rfl) tY (u9 _)) (kU (vb (yx (aH yJ (aH (gi rfl (xy T) a (by decide) rfl (aH (iv 3) (aH (ke (iv 4) jS rfl rfl) bI rfl) rfl) (by decide) rfl rfl) bI rfl) rfl)))) wb) (bP (vw (j6 rfl (tF T) a (by decide) rfl (aH (iv 3) (aH (ke (iv 4) jS rfl rfl) (aH (ke (iv 4) jS rfl rfl) bI rfl) rfl) rfl) (by decide) rfl rfl) rfl) (kU (jX (i:=4) gH.nd rfl (by first|exact Or.inl rfl|exact Or.inr rfl) (gi rfl (kl T) a (by decide) rfl (aH (iv 3) bI rfl) (by decide) rfl rfl) rfl (by first|exact .inl rfl|exact .inr rfl))))) qgH) (kU (vb (gi rfl (oJ T) a (by decide) rfl (aH (iv 3) bI rfl) (by decide) rfl rfl)))))))
def sk (T:TX P w base K mg t):Cal P w K mg base "value_of" 3 jO:=bn T.F20 so T.m20 T.b20 (by have:=yT T;trivial)
def rs (T:TX P w base K mg t):Cal P w K mg base "poly_from" 1 iz:=bn T.F21 qU T.m21 T.b21 (by trivial)
def wQ (T:TX P w base K mg t):Cal P w K mg base "parted" 1 nG:=bn T.F22 xE T.m22 T.b22 (by trivial)
def xS (T:TX P w base K mg t):Cal P w K mg base "shrunk" 2 m6:=bn T.F23 xQ T.m23 T.b23 (by have:=wQ T;have:=dl T;trivial)
def ml (T:TX P w base K mg t):Cal P w K mg base "signed_value" 4 cT:=bn T.F24 mj T.m24 T.b24 (by have:=uD T;have:=sk T;trivial)
def lH (T:TX P w base K mg t):Cal P w K mg base "signed_values" 5 dP:=bn T.F25 lC T.m25 T.b25 (by have:=kh T;have:=ml T;trivial)
def wC (T:TX P w base K mg t):Cal P w K mg base "one_at" 1 kg:=bn T.F26 xb T.m26 T.b26 (by trivial)
def qv (T:TX P w base K mg t):Cal P w K mg base "both_ways" 1 iE:=bn T.F27 qC T.m27 T.b27 (by trivial)
def uK (T:TX P w base K mg t):Cal P w K mg base "poly_by" 3 jc:=lR T.F28 uk T.m28 T.b28 (by have:=xS T;have:=rs T;trivial)
def oP (T:TX P w base K mg t):Cal P w K mg base "weights_by" 2 dX:=lR T.F29 oO T.m29 T.b29 (by have:=kh T;trivial)
def sH (T:TX P w base K mg t):Cal P w K mg base "split_of" 6 gB:=bn T.F30 tE T.m30 T.b30 (by have:=lH T;have:=oP T;have:=qv T;have:=wC T;have:=uA T;have:=uK T;have:=no T;trivial)
def sj (T:TX P w base K mg t):Cal P w K mg base "_law_pot" 1 dk:=bn T.F31 tH T.m31 T.b31 (by trivial)
def gC (T:TX P w base K mg t):Cal P w K mg base "_law_pick" 1 aG:=bn T.F32 rB T.m32 T.b32 (by trivial)
def vj (T:TX P w base K mg t):Cal P w K mg base "_law_on" 1 gj:=bn T.F33 u2 T.m33 T.b33 (by trivial)
def k8 (T:TX P w base K mg t):Cal P w K mg base "_law_function" 2 bK:=bn T.F34 li T.m34 T.b34 (by have:=gC T;have:=vj T;trivial)
def ki (T:TX P w base K mg t):Cal P w K mg base "_law_all_terms" 1 dn:=bn T.F35 kz T.m35 T.b35 (by trivial)
def oW (T:TX P w base K mg t):Cal P w K mg base "_law_terms" 2 gr:=bn T.F36 oI T.m36 T.b36 (by have:=gC T;have:=ki T;trivial)
def jz (T:TX P w base K mg t):Cal P w K mg base "_law_value" 1 cq:=bn T.F37 o0 T.m37 T.b37 (by trivial)
def tP (T:TX P w base K mg t):Cal P w K mg base "_law_sum" 2 jN:=bn T.F38 rC T.m38 T.b38 (by have:=jz T;trivial)
def jI (T:TX P w base K mg t):Cal P w K mg base "_law_whole" 1 cQ:=bn T.F39 o8 T.m39 T.b39 (by trivial)
def my (T:TX P w base K mg t):Cal P w K mg base "_law_is_poly" 2 eA:=bn T.F40 mq T.m40 T.b40 (by have:=jI T;trivial)
def jq (T:TX P w base K mg t):Cal P w K mg base "_law_are_weights" 2 cC:=bn T.F41 jw T.m41 T.b41 (by have:=jI T;trivial)
def lI (T:TX P w base K mg t):Cal P w K mg base "_law_is_split" 3 dH:=bn T.F42 lO T.m42 T.b42 (by have:=my T;have:=jq T;have:=tP T;have:=jz T;trivial)
def Cu (T:TX P w base K mg t):ek P w K mg base CX0 7 t.f43 t.g43 ["_law_script"] (spI K pq):=Gd T.F43 Dy (by have:=sj T;have:=gC T;have:=k8 T;have:=oW T;have:=sH T;have:=lI T;trivial)
end
end Own
end
namespace L2
open PySem
end L2
namespace L2
def bZ:Nat->List (List Int)
 |0=>[[]]
 |n+1=>bZ n++(bZ n).map λt=>t++[(n:Int)]
def i8:∀ n,(bZ n).length=2^n
 |0=>rfl
 |n+1=>by rw[bZ,qaB,qah,i8 n,qgK];lia
def Trm (n:Nat) (t:List Int):Prop:=t.Pairwise (·<·)/\∀ k∈t,0<=k/\k<n
def Trm.mono {n m:Nat}{t:List Int} (h:Trm n t) (hn:n<=m):Trm m t:=⟨h.1,λk a=>⟨(h.2 k a).1,by have:=(h.2 k a).2;lia⟩⟩
def i7:∀ (n:Nat) {t:List Int},t∈bZ n->Trm n t
 |0,t,h=>by
  rw[bZ,qap]at h;subst h;exact⟨List.Pairwise.nil,λk c=>by cases c⟩
 |n+1,t,h=>by
  rcases qaY.mp h with h|h
  ·exact (i7 n h).mono (qc3 n)
  ·obtain⟨u,e,rfl⟩:=qaX.mp h
   have:=i7 n e
   refine⟨List.pairwise_append.mpr ⟨this.1,qgg _ _,λa d b hb=>?_⟩,λk c=>?_⟩
   ·rw[qap.mp hb];exact (this.2 a d).2
   ·rcases qaY.mp c with c|c
    ·exact⟨(this.2 k c).1,by have:=(this.2 k c).2;lia⟩
    ·rw[qap.mp c];lia
def vQ {n:Nat}{t:List Int} (h:Trm n t):t.length<=n:=by
 have b:∀ (t:List Int) (a:Int),t.Pairwise (·<·)->(∀ k∈t,a<=k/\k<n)->(t.length:Int)<=max 0 ((n:Int) - a):=by
  intro t
  induction t with
  |nil=>intro a _ _;simp;lia
  |cons x t e=>
   intro a d hm;have f:=hm x qaf
   have:=e (x+1) (qbi.mp d).2 λk c=>⟨(qbi.mp d).1 k c,(hm k (qal _ c)).2⟩
   rw[qam];push_cast;lia
 have:=b t 0 h.1 h.2
 lia
def onI (row k:Int):Int:=row / 2^k.toNat%2
def le (row:Int):List Int->Int
 |[]=>0
 |k::t=>onI row k+le row t
def kR (row:Int):∀ t:List Int,(t.map (onI row)).sum=le row t
 |[]=>rfl
 |k::t=>by rw[qaq,qci,kR row t];rfl
def gQ (u:D):Prop:=u=.non\/u=.int 0\/u=.int 1
def bo:Nat->List D->List Int
 |_,[]=>[]
 |i,.non::r=>bo (i+1) r
 |i,_::r=>(i:Int)::bo (i+1) r
def sgD:D->Int
 |.int v=>if v=1 then 1 else -1
 |_=>1
def lz:∀ (r:List D) (i:Nat) {j:Int},j∈bo i r->∃ m:Nat,j=((i+m:Nat):Int)/\m<r.length/\r[m]?≠some .non
 |[],i,j,h=>by cases h
 |d::r,i,j,h=>by
  have up:j∈bo (i+1) r->∃ m:Nat,j=((i+m:Nat):Int)/\m<(d::r).length/\(d::r)[m]?≠some .non:=λh=>by
   obtain⟨m,e,hm,hn⟩:=lz r (i+1) h;exact⟨m+1,by rw[e];congr 1;lia,by simpa using hm,by simpa using hn⟩
  cases d with
  |non=>exact up h
  |_=>
   rcases qaH.mp h with rfl|h
   ·exact⟨0,by simp,by simp,by simp⟩
   ·exact up h
def zw:D->Bool
 |.tup [_,v]=>!dB v
 |_=>false
def Ed:D->D
 |.tup [j,_]=>j
 |d=>d
def nQ:∀ (r:List D) (i:Nat),((cm i r).filter zw).map Ed=(bo i r).map D.int
 |[],i=>rfl
 |d::r,i=>by
  have a:=nQ r (i+1);have b:cm i (d::r)=.tup [.int (i:Int),d]::cm (i+1) r:=rfl;rw[b,qec];cases d<;>first
   |(rw[if_neg (show ¬ zw (.tup [.int (i:Int),.non])=true from (λh=>by cases h))];exact a)
   |(rw[if_pos (show zw (.tup [.int (i:Int),_])=true from rfl),qaq,a];rfl)
def pz:∀ (r:List D) (i:Nat),(bo i r).length<=r.length
 |[],i=>qar _
 |d::r,i=>by
  have a:=pz r (i+1);cases d<;>first
   |(show (bo (i+1) r).length<=r.length+1;lia)
   |(show (bo (i+1) r).length+1<=r.length+1;lia)
end L2
namespace L2
open PySem
abbrev Prt:=List Int×Int
def bf (p:Prt):D:=.tup [aj p.1,.int p.2]
def bU (kd:Str) (ps:List Prt):D:=.tup [.str kd,.tup (ps.map bf)]
def xm {ps:List Prt}{i:Nat}{d:D} (h:(ps.map bf)[i]?=some d):∃ p,ps[i]?=some p/\d=.tup [aj p.1,.int p.2]:=by
 rw[qaD,qad]at h;obtain⟨p,a,rfl⟩:=h;exact⟨p,a,rfl⟩
def ci:Nat->List Int->Nat
 |g,[]=>g
 |g,n::ns=>ci (qfk g n.natAbs) ns
def sN (n:Int):∀ (g:Nat) (ns:List Int),ci g (ns++[n])=qfk (ci g ns) n.natAbs
 |g,[]=>rfl
 |g,m::ns=>sN n _ ns
def dD:∀ (g:Nat) (ns:List Int),ci g ns∣g/\∀ n∈ns,ci g ns∣n.natAbs
 |g,[]=>⟨Nat.dvd_refl _,λ_ h=>by cases h⟩
 |g,m::ns=>by
  have a:=dD (qfk g m.natAbs) ns;refine⟨qiz a.1 (Nat.gcd_dvd_left _ _),λn hn=>?_⟩;rcases qaH.mp hn with rfl|hn
  ·exact qiz a.1 (Nat.gcd_dvd_right _ _)
  ·exact a.2 n hn
def x3 {ns:List Int}{n:Int} (hn:n∈ns) (b:n≠0):0<ci 0 ns/\ci 0 ns<=n.natAbs:=by
 have h:=(dD 0 ns).2 n hn;have a:0<n.natAbs:=by lia
 exact⟨Nat.pos_of_dvd_of_pos h a,Nat.le_of_dvd a h⟩
def ae {g:Sto->W->W->Option D}{a b:Ef}{env:Ev}{st s1 c:Sto}{x y:W}{d:D} (e:a env st=some (x,s1)) (hb:b env s1=some (y,c)) (hg:g c x y=some d):iOp g a b env st=some (.d d,c):=by
 simp only[iOp,e,hb,hg,qaa,qai]
def ay {g:Sto->W->W->Option D}{a b:Ef}{env:Ev}{st s1 c:Sto}{x y:W}{k:Bool} (d:a env st=some (x,s1)) (hb:b env s1=some (y,c)) (hg:g c x y=some (.bl k)):aE g a b env st=some (k,c):=by
 simp only[aE,d,hb,hg,qaa,jv,qai]
def mK {a b:Sf}{env e:Ev}{st s:Sto}{r:Fl} (c:a env st=some (.nx e s)) (hb:b e s=some r):ah a b env st=some r:=by
 simp only[ah,c,hb,qaa]
def wc {a b:Sf}{env:Ev}{st s:Sto}{w:W} (c:a env st=some (.rt w s)):ah a b env st=some (.rt w s):=by
 simp only[ah,c,qaa]
def aq {i:Nat}{f:Ef}{env:Ev}{st s:Sto}{w:W} (h:f env st=some (w,s)):az (.nm i) f env st=some (.nx (env.set i (some w)) s):=by
 simp only[az,h,qaa,cB,qai]
def ak {m:Fn}{a:Af}{env:Ev}{st s:Sto}{ws:List W}{r:W×Sto} (b:a env st=some (ws,s)) (hm:m ws s=some r):au m a env st=some r:=by
 simp only[au,b,hm,qaa]
def aV {g:Sto->List W->Option D}{a:Af}{env:Ev}{st s:Sto}{ws:List W}{d:D} (b:a env st=some (ws,s)) (hm:g s ws=some d):iCB g a env st=some (.d d,s):=by
 simp only[iCB,b,hm,qaa,qai]
def ab {a:Ef}{b:Af}{env:Ev}{st s1 c:Sto}{x:W}{y:List W} (d:a env st=some (x,s1)) (hb:b env s1=some (y,c)):aa a b env st=some (x::y,c):=by
 simp only[aa,d,hb,qaa,qai]
def bE {a:Lf}{g:Tg}{b:Sf}{env:Ev}{st s:Sto}{ds:List D}{r:Fl} (h:a env st=some (ds,s)) (c:cK g b ds env s=some r):eZ a g b env st=some r:=by
 simp only[eZ,h,c,qaa]
def aP {f:Ef}{env:Ev}{st s:Sto}{w:W} (h:f env st=some (w,s)):aK f env st=some (.rt w s):=by
 simp only[aK,h,qai]
def B7 {c:Tf}{a b:Sf}{env:Ev}{st s:Sto}{r:Option Fl} (h:c env st=some (true,s)) (d:a env s=r):aY c a b env st=r:=by
 simp only[aY,h,qaa,if_true,d]
def Cb {c:Tf}{a b:Sf}{env:Ev}{st s:Sto}{r:Option Fl} (h:c env st=some (false,s)) (hb:b env s=r):aY c a b env st=r:=by
 simp only[aY,h,qaa,qa0,if_false,hb]
def aZ {k:Nat}{js:List Nat}{a:Lf}{g:Tg}{tt:Tf}{te:Ef}{env:Ev}{st s b:Sto}{ds c:List D} (h:a env st=some (ds,s)) (e:ds.length<=1000000) (d:lcI g tt te (gq k js env) ds s=some (c,b)):iLc k js a g tt te env st=some (c,b):=by
 simp only[iLc,h,d,e,qaa,if_true]
def aD {a:Lf}{env:Ev}{st s:Sto}{ds:List D} (h:a env st=some (ds,s)):ar a env st=some (.d (.lst ds),s):=by
 simp only[ar,h,qai]
def aB {n k:Nat}{b:Sf}{ws:List W}{st s:Sto}{w:W} (a:ws.length=k) (h:b (ws.map some++qaz (n - k) none) st=some (.rt w s)):bi n k b ws st=some (w,s):=by
 simp only[bi,a,if_true,h,qaa]
def nk {n k:Nat}{b:Sf}{ws:List W}{st s:Sto}{x:D} (a:ws.length=k) (h:b (ws.map some++qaz (n - k) none) st=some (.rt (.d x) s)):gy n k b ws st=some (.d x,s.take st.length):=by
 simp only[gy,a,if_true,h,qaa,w6]
end L2
namespace Sx
abbrev Vec:=Nat->Int
def sumN:Nat->(Nat->Int)->Int
 |0,_=>0
 |n+1,f=>sumN n f+f n
def sumN_congr {n:Nat}{f g:Nat->Int} (h:∀ k,k<n->f k=g k):sumN n f=sumN n g:=by
 induction n with
 |zero=>rfl
 |succ n F=>rw[sumN,sumN,F λk I=>h k (by omega),h n (by omega)]
def sumN_add (n:Nat) (f g:Nat->Int):sumN n (λk=>f k+g k)=sumN n f+sumN n g:=by
 induction n with
 |zero=>rfl
 |succ n F=>rw[sumN,sumN,sumN,F];omega
def sumN_mul (n:Nat) (c:Int) (f:Nat->Int):sumN n (λk=>c*f k)=c*sumN n f:=by
 induction n with
 |zero=>simp[sumN]
 |succ n F=>rw[sumN,sumN,F,qcn]
def sumN_zero (n:Nat):sumN n (λ_=>0)=0:=by
 induction n with
 |zero=>rfl
 |succ n F=>rw[sumN,F];rfl
def sumN_single {n i:Nat} (o:i<n) {f:Nat->Int} (h:∀ k,k<n->k≠i->f k=0):sumN n f=f i:=by
 induction n with
 |zero=>omega
 |succ n F=>
  rw[sumN];by_cases e:i=n
  ·subst e
   rw[sumN_congr (g:=λ_=>0) λk I=>h k (by omega) (by omega),sumN_zero];omega
  ·rw[F (by omega) λk I D=>h k (by omega) D,h n (by omega) (by omega)];omega
def sumN_pair {n i j:Nat} (o:i<n) (R:j<n) (W:i≠j) {f:Nat->Int} (h:∀ k,k<n->k≠i->k≠j->f k=0):sumN n f=f i+f j:=by
 have e:sumN n f=sumN n (λk=>(if k=i then f i else 0)+(if k=j then f j else 0)):=by
  refine sumN_congr λk I=>?_;by_cases J:k=i
  ·subst J;rw[if_pos rfl,if_neg W];omega
  ·by_cases N:k=j
   ·subst N;rw[if_neg J,if_pos rfl];omega
   ·rw[if_neg J,if_neg N,h k I J N];rfl
 rw[e,sumN_add,sumN_single o λk _ D=>if_neg D,sumN_single R λk _ D=>if_neg D,if_pos rfl,if_pos rfl]
def skip (k j:Nat):Nat:=if j<k then j else j+1
def sg (k:Nat):Int:=if k%2=0 then 1 else -1
def sg_succ (k:Nat):sg (k+1)=- sg k:=by
 unfold sg;by_cases h:k%2=0
 ·rw[if_pos h,if_neg (by omega)]
 ·rw[if_neg h,if_pos (by omega)];rfl
def det:Nat->(Nat->Vec)->Int
 |0,_=>1
 |m+1,C=>sumN (m+1) λk=>sg k*C k 0*det m (λj t=>C (skip k j) (t+1))
def det_congr:∀ (m:Nat) {C E:Nat->Vec},(∀ k t,k<m->t<m->C k t=E k t)->det m C=det m E:=by
 intro m
 induction m with
 |zero=>intros;rfl
 |succ m F=>
  intro C E h;rw[det,det];refine sumN_congr λk I=>?_;rw[h k 0 I (by omega),F (C:=λj t=>C (skip k j) (t+1)) (E:=λj t=>E (skip k j) (t+1)) λj t R ht=>h (skip k j) (t+1) (by unfold skip;split<;>omega) (by omega)]
def upd (C:Nat->Vec) (i:Nat) (v:Vec):Nat->Vec:=λj=>if j=i then v else C j
def upd_same (C:Nat->Vec) (i:Nat) (v:Vec):upd C i v i=v:=if_pos rfl
def upd_ne {C:Nat->Vec}{i j:Nat}{v:Vec} (h:j≠i):upd C i v j=C j:=if_neg h
def upd_self (C:Nat->Vec) (i:Nat):upd C i (C i)=C:=by
 funext j
 by_cases h:j=i
 ·rw[h,upd_same]
 ·rw[upd_ne h]
def upd_upd (C:Nat->Vec) (i:Nat) (u v:Vec):upd (upd C i u) i v=upd C i v:=by
 funext j
 by_cases h:j=i
 ·rw[h,upd_same,upd_same]
 ·rw[upd_ne h,upd_ne h,upd_ne h]
def upd_comm {C:Nat->Vec}{i j:Nat}{u v:Vec} (h:i≠j):upd (upd C i u) j v=upd (upd C j v) i u:=by
 funext k
 by_cases J:k=i
 ·subst J;rw[upd_ne h,upd_same,upd_same]
 ·by_cases N:k=j
  ·subst N;rw[upd_same,upd_ne J,upd_same]
  ·rw[upd_ne N,upd_ne J,upd_ne J,upd_ne N]
def unskip (k i:Nat):Nat:=if i<k then i else i - 1
def skip_upd {C:Nat->Vec}{k i:Nat}{v:Vec} (h:k≠i):(λj t=>upd C i v (skip k j) (t+1))=upd (λj t=>C (skip k j) (t+1)) (unskip k i) (λt=>v (t+1)):=by
 funext j t
 unfold upd skip unskip;by_cases J:j<k<;>by_cases N:i<k<;>simp only[J,N,if_true,if_false]
 ·by_cases e:j=i
  ·rw[if_pos e,if_pos e]
  ·rw[if_neg e,if_neg e]
 ·rw[if_neg (by omega),if_neg (by omega)]
 ·rw[if_neg (by omega),if_neg (by omega)]
 ·by_cases e:j+1=i
  ·rw[if_pos e,if_pos (by omega)]
  ·rw[if_neg e,if_neg (by omega)]
def skip_self {C:Nat->Vec}{i:Nat}{v:Vec}:(λj t=>upd C i v (skip i j) (t+1))=λj t=>C (skip i j) (t+1):=by
 funext j t
 rw[upd_ne];unfold skip;split<;>omega
def det_add:∀ (m:Nat) (C:Nat->Vec) (i:Nat) (u v:Vec),i<m->det m (upd C i λt=>u t+v t)=det m (upd C i u)+det m (upd C i v):=by
 intro m
 induction m with
 |zero=>intros;omega
 |succ m F=>
  intro C i u v o;rw[det,det,det,<-sumN_add];refine sumN_congr λk I=>?_;by_cases e:k=i
  ·subst e
   rw[skip_self,skip_self,skip_self,upd_same,upd_same,upd_same,qcn,qee]
  ·rw[skip_upd e,skip_upd e,skip_upd e,upd_ne e,upd_ne e,upd_ne e,F _ _ (λt=>u (t+1)) (λt=>v (t+1)) (by unfold unskip;split<;>omega),qcn]
def det_mul:∀ (m:Nat) (C:Nat->Vec) (i:Nat) (c:Int) (u:Vec),i<m->det m (upd C i λt=>c*u t)=c*det m (upd C i u):=by
 intro m
 induction m with
 |zero=>intros;omega
 |succ m F=>
  intro C i c u o;rw[det,det,<-sumN_mul];refine sumN_congr λk I=>?_;by_cases e:k=i
  ·subst e
   rw[skip_self,skip_self,upd_same,upd_same];rw[show sg k*(c*u 0)=c*(sg k*u 0) by rw[qaW],qbn]
  ·rw[skip_upd e,skip_upd e,upd_ne e,upd_ne e,F _ _ c (λt=>u (t+1)) (by unfold unskip;split<;>omega),qaW]
def det_adj:∀ (m:Nat) (C:Nat->Vec) (i:Nat),i+1<m->C i=C (i+1)->det m C=0:=by
 intro m
 induction m with
 |zero=>intros;omega
 |succ m F=>
  intro C i o h;rw[det,sumN_pair (i:=i) (j:=i+1) (by omega) (by omega) (by omega) λk I J N=>?_]
  ·have e:(λj t=>C (skip i j) (t+1))=λj t=>C (skip (i+1) j) (t+1):=by
    funext j t
    by_cases e:j=i
    ·subst e
     have a1:skip j j=j+1:=by unfold skip;rw[if_neg (by omega)]
     have a2:skip (j+1) j=j:=by unfold skip;rw[if_pos (by omega)]
     rw[a1,a2,h]
    ·have:skip i j=skip (i+1) j:=by
      unfold skip;by_cases J:j<i
      ·rw[if_pos J,if_pos (by omega)]
      ·rw[if_neg J,if_neg (by omega)]
     rw[this]
   rw[e,h,sg_succ];rw[<-qee,<-qee];rw[show sg i+-sg i=0 by omega]
   simp
  ·have hz:det m (λj t=>C (skip k j) (t+1))=0:=by
    by_cases l:k<i
    ·refine F _ (i - 1) (by omega) ?_
     funext t
     have a1:skip k (i - 1)=i:=by unfold skip;rw[if_neg (by omega)];omega
     have a2:skip k (i - 1+1)=i+1:=by unfold skip;rw[if_neg (by omega)];omega
     rw[a1,a2,h]
    ·refine F _ i (by omega) ?_
     funext t
     have a1:skip k i=i:=by unfold skip;rw[if_pos (by omega)]
     have a2:skip k (i+1)=i+1:=by unfold skip;rw[if_pos (by omega)]
     rw[a1,a2,h]
   rw[hz,qa7]
def det_swap {m:Nat} (C:Nat->Vec) {i:Nat} (o:i+1<m):det m (upd (upd C i (C (i+1))) (i+1) (C i))=- det m C:=by
 have O:∀ u v:Vec,det m (upd (upd C i u) (i+1) v)+det m (upd (upd C i v) (i+1) u)=0:=λu v=>by
  have h0:det m (upd (upd C i λt=>u t+v t) (i+1) λt=>u t+v t)=0:=det_adj m _ i o (by rw[upd_ne (by omega),upd_same,upd_same]);have hu:det m (upd (upd C i u) (i+1) u)=0:=det_adj m _ i o (by rw[upd_ne (by omega),upd_same,upd_same]);have hv:det m (upd (upd C i v) (i+1) v)=0:=det_adj m _ i o (by rw[upd_ne (by omega),upd_same,upd_same]);rw[det_add m _ (i+1) u v o,upd_comm (by omega),upd_comm (v:=v) (by omega),det_add m _ i u v (by omega),det_add m _ i u v (by omega)]at h0;rw[<-upd_comm (C:=C) (i:=i) (j:=i+1) (u:=u) (v:=u) (by omega),<-upd_comm (C:=C) (i:=i) (j:=i+1) (u:=v) (v:=u) (by omega),<-upd_comm (C:=C) (i:=i) (j:=i+1) (u:=u) (v:=v) (by omega),<-upd_comm (C:=C) (i:=i) (j:=i+1) (u:=v) (v:=v) (by omega),hu,hv]at h0;omega
 have:=O (C i) (C (i+1))
 have e:upd (upd C i (C i)) (i+1) (C (i+1))=C:=by rw[upd_self,upd_self]
 rw[e]at this;omega
def det_same {m:Nat}:∀ (d:Nat) (C:Nat->Vec) (i j:Nat),j=i+d+1->j<m->C i=C j->det m C=0:=by
 intro d
 induction d with
 |zero=>intro C i j R hm h;subst R;exact det_adj m C i hm h
 |succ d F=>
  intro C i j R hm h;have hs:=det_swap (m:=m) C (i:=j - 1) (by omega);have e1:j - 1+1=j:=by omega
  rw[e1]at hs
  have:=F (upd (upd C (j - 1) (C j)) j (C (j - 1))) i (j - 1) (by omega) (by omega) (by rw[upd_ne (by omega),upd_ne (by omega),upd_ne (by omega),upd_same,h])
  rw[this]at hs;omega
def det_eq0 {m:Nat} (C:Nat->Vec) {i j:Nat} (o:i<m) (R:j<m) (W:i≠j) (h:C i=C j):det m C=0:=by
 rcases Nat.lt_or_gt_of_ne W with J|J
 ·exact det_same (j - i - 1) C i j (by omega) R h
 ·exact det_same (i - j - 1) C j i (by omega) o h.symm
def det_zero {m:Nat} (C:Nat->Vec) {i:Nat} (o:i<m):det m (upd C i λ_=>0)=0:=by
 have:=det_mul m C i 0 (λ_=>0) o
 simpa using this
def det_sum {m:Nat} (C:Nat->Vec) {i:Nat} (o:i<m) (x:Nat->Int) (V:Nat->Vec):∀ n,det m (upd C i λt=>sumN n λk=>x k*V k t)=sumN n λk=>x k*det m (upd C i (V k)):=by
 intro n
 induction n with
 |zero=>exact det_zero C o
 |succ n F=>
  have e:(λt=>sumN (n+1) λk=>x k*V k t)=λt=>(sumN n λk=>x k*V k t)+x n*V n t:=rfl;rw[e,det_add m C i _ _ o,F,det_mul m C i (x n) (V n) o];rfl
def cramer {m:Nat} (B:Nat->Vec) (a:Vec) (p:Int) (x:Nat->Int) (h:∀ t,p*a t=sumN m λk=>x k*B k t) {i:Nat} (o:i<m):p*det m (upd B i a)=x i*det m B:=by
 rw[<-det_mul m B i p a o];have e:(λt=>p*a t)=λt=>sumN m λk=>x k*B k t:=funext h;rw[e,det_sum B o x B m,sumN_single o λk I D=>?_,upd_self];rw[det_eq0 (upd B i (B k)) o I (qbC D) (by rw[upd_same,upd_ne D]),qa7]
def cramer2 {m:Nat} (B:Nat->Vec) (a b:Vec) (p:Int) (hp:p=det m B) (hp0:p≠0) (x y:Nat->Int) (hx:∀ t,p*a t=sumN m λk=>x k*B k t) (hy:∀ t,p*b t=sumN m λk=>y k*B k t) {i r:Nat} (o:i<m) (s:r<m) (q:i≠r) :
  p*det m (upd (upd B r a) i b)=x r*y i - x i*y r:=by
 have J:p*det m (upd (upd B r a) i b)=sumN m λk=>y k*det m (upd (upd B r a) i (B k)):=by
  rw[<-det_mul m _ i p b o];have e:(λt=>p*b t)=λt=>sumN m λk=>y k*B k t:=funext hy;rw[e,det_sum _ o y B m]
 rw[J,sumN_pair o s q λk I N h3=>?_]
 ·have e1:upd (upd B r a) i (B i)=upd B r a:=by
   have:(upd B r a) i=B i:=upd_ne q
   rw[<-this,upd_self]
  have e2:p*det m (upd B r a)=x r*p:=by rw[cramer B a p x hx s,<-hp]
  have e3:p*det m (upd (upd B r a) i (B r))=- (x i*p):=by
   have L:upd (upd B r a) i (B r)=upd (upd B i (B r)) r a:=upd_comm (qbC q);rw[L,<-det_mul m _ r p a s];have e:(λt=>p*a t)=λt=>sumN m λk=>x k*B k t:=funext hx;rw[e,det_sum _ s x B m,sumN_single o λk I D=>?_]
   ·-- columns i and r exchanged
    have hsw:det m (upd (upd B i (B r)) r (B i))=- det m B:=by
     have O:∀ u v:Vec,det m (upd (upd B i u) r v)+det m (upd (upd B i v) r u)=0:=λu v=>by
      have z:∀ w:Vec,det m (upd (upd B i w) r w)=0:=λw=>det_eq0 _ o s q (by rw[upd_ne q,upd_same,upd_same]);have h0:=z λt=>u t+v t;rw[det_add m _ r u v s,upd_comm q,upd_comm (v:=v) q,det_add m _ i u v o,det_add m _ i u v o]at h0;rw[<-upd_comm (C:=B) (i:=i) (j:=r) (u:=u) (v:=u) q,<-upd_comm (C:=B) (i:=i) (j:=r) (u:=v) (v:=u) q,<-upd_comm (C:=B) (i:=i) (j:=r) (u:=u) (v:=v) q,<-upd_comm (C:=B) (i:=i) (j:=r) (u:=v) (v:=v) q,z u,z v]at h0;omega
     have:=O (B i) (B r)
     rw[show upd (upd B i (B i)) r (B r)=B by rw[upd_self,upd_self]]at this;omega
    rw[hsw,<-hp,qfV]
   ·by_cases Q:k=r
    ·subst Q
     rw[det_eq0 _ o s q (by rw[upd_ne q,upd_same,upd_same]),qa7]
    ·rw[det_eq0 (upd (upd B i (B r)) r (B k)) s I (qbC Q) (by rw[upd_same,upd_ne Q,upd_ne D]),qa7]
  rw[e1]
  have:p*(y i*det m (upd B r a)+y r*det m (upd (upd B r a) i (B r)))=p*(x r*y i - x i*y r):=by
   rw[qcn,qaW,e2,qaW p (y r),e3,qcC,qfV];rw[show y i*(x r*p)=p*(x r*y i) by rw[qa1 (y i),qbm,qa1]];rw[show y r*(x i*p)=p*(x i*y r) by rw[qa1 (y r),qbn,qa1 p (y r),<-qbn,qa1 (x i*y r) p]];omega
  exact qdZ hp0 this
 ·rw[det_eq0 (upd (upd B r a) i (B k)) o I (qbC N) (by rw[upd_same,upd_ne N,upd_ne h3]),qa7]
def unit (k:Nat):Vec:=λt=>if t=k then 1 else 0
def det_unit:∀ m,det m unit=1:=by
 intro m
 induction m with
 |zero=>rfl
 |succ m F=>
  rw[det,sumN_single (i:=0) (by omega) λk I D=>by rw[show unit k 0=0 by unfold unit;rw[if_neg (by omega)]];simp];have e:(λj t=>unit (skip 0 j) (t+1))=unit:=by
   funext j t
   unfold unit skip;rw[if_neg (by omega:¬ j<0)];by_cases h:t=j
   ·rw[if_pos (by omega),if_pos h]
   ·rw[if_neg (by omega),if_neg h]
  rw[e,F];rfl
structure Pb where
 m:Nat
 n:Nat
 A:Nat->Vec
 b:Vec
 g:Nat->Int
structure Tb where
 p:Int
 kept:Nat->Nat
 free:Nat->Nat
 T:Nat->Nat->Int
 G:Nat->Int
variable (P:Pb)
def colV (S:Tb) (c:Nat):Vec:=if c<P.n then P.A (S.free c) else P.b
def gainC (S:Tb) (c:Nat):Int:=if c<P.n then P.g (S.free c) else 0
def basis (S:Tb):Nat->Vec:=λi=>P.A (S.kept i)
structure Good (S:Tb):Prop where
 pos:0<S.p
 dt:S.p=det P.m (basis P S)
 eq:∀ c,c<=P.n->∀ t,S.p*colV P S c t=sumN P.m λi=>S.T i c*P.A (S.kept i) t
 goal:∀ c,c<=P.n->S.G c=(sumN P.m λi=>P.g (S.kept i)*S.T i c) - S.p*gainC P S c
def piv (S:Tb) (r e:Nat):Tb where
 p:=S.T r e
 kept:=λi=>if i=r then S.free e else S.kept i
 free:=λc=>if c=e then S.kept r else S.free c
 T:=λi c=>if i=r then (if c=e then S.p else S.T r c) else (if c=e then - S.T i e else (S.T r e*S.T i c - S.T i e*S.T r c) / S.p)
 G:=λc=>if c=e then - S.G e else (S.T r e*S.G c - S.G e*S.T r c) / S.p
variable {P}
def Good.entry {S:Tb} (h:Good P S) {c i:Nat} (L:c<=P.n) (o:i<P.m):S.T i c=det P.m (upd (basis P S) i (colV P S c)):=by
 have:=cramer (basis P S) (colV P S c) S.p (λk=>S.T k c) (λt=>h.eq c L t) o
 rw[<-h.dt,qa1]at this;exact (qf4 (by have:=h.pos;omega) this).symm
def Good.whole {S:Tb} (h:Good P S) {r e c i:Nat} (M:e<=P.n) (L:c<=P.n) (o:i<P.m) (s:r<P.m) (q:i≠r):∃ d,S.T r e*S.T i c - S.T i e*S.T r c=S.p*d:=
 ⟨_,(cramer2 (basis P S) (colV P S e) (colV P S c) S.p h.dt (by have:=h.pos;omega) (λk=>S.T k e) (λk=>S.T k c) (λt=>h.eq e M t) (λt=>h.eq c L t) o s q).symm⟩
def ediv_of {p a d:Int} (hp:0<p) (h:a=p*d):p*(a / p)=a:=by
 rw[h,qgi _ (by omega)]
def piv_T {S:Tb} (h:Good P S) {r e c i:Nat} (M:e<=P.n) (L:c<=P.n) (o:i<P.m) (s:r<P.m) (q:i≠r) (H:c≠e):S.p*(piv S r e).T i c=S.T r e*S.T i c - S.T i e*S.T r c:=by
 obtain⟨d,hd⟩:=h.whole (c:=c) M L o s q;show S.p*(if i=r then _ else (if c=e then _ else _))=_;rw[if_neg q,if_neg H];exact ediv_of h.pos hd
def sumN_split {n r:Nat} (s:r<n) (f:Nat->Int):sumN n f=f r+sumN n (λk=>if k=r then 0 else f k):=by
 have e:sumN n f=sumN n (λk=>(if k=r then f r else 0)+(if k=r then 0 else f k)):=by
  refine sumN_congr λk I=>?_;by_cases h:k=r
  ·rw[if_pos h,if_pos h,h];omega
  ·rw[if_neg h,if_neg h];omega
 rw[e,sumN_add,sumN_single s λk _ D=>if_neg D,if_pos rfl]
def sumN_sub (n:Nat) (f g:Nat->Int):sumN n (λk=>f k - g k)=sumN n f - sumN n g:=by
 induction n with
 |zero=>rfl
 |succ n F=>rw[sumN,sumN,sumN,F];omega
def piv_eq {S:Tb} (h:Good P S) {r e:Nat} (M:e<P.n) (s:r<P.m):∀ c,c<=P.n->∀ t,(piv S r e).p*colV P (piv S r e) c t=sumN P.m λi=>(piv S r e).T i c*P.A ((piv S r e).kept i) t:=by
 intro c L t;have hp:=h.pos;have hE:=h.eq e (by omega) t;have hcE:colV P S e=P.A (S.free e):=if_pos M;rw[hcE,sumN_split s]at hE;have kr:(piv S r e).kept r=S.free e:=if_pos rfl;have kn:∀ i,i≠r->(piv S r e).kept i=S.kept i:=λi o=>if_neg o;rw[sumN_split s,kr];by_cases H:c=e
 ·subst H
  have c1:colV P (piv S r c) c=P.A (S.kept r):=by
   unfold colV;rw[if_pos M];show P.A (if c=c then _ else _)=_;rw[if_pos rfl]
  have t1:(piv S r c).T r c=S.p:=by show (if r=r then (if c=c then _ else _) else _)=_;rw[if_pos rfl,if_pos rfl]
  have t2:(sumN P.m λk=>if k=r then 0 else (piv S r c).T k c*P.A ((piv S r c).kept k) t)=- sumN P.m λk=>if k=r then 0 else S.T k c*P.A (S.kept k) t:=by
   have:(sumN P.m λk=>if k=r then 0 else (piv S r c).T k c*P.A ((piv S r c).kept k) t)=sumN P.m λk=>(-1)*(if k=r then 0 else S.T k c*P.A (S.kept k) t):=by
    refine sumN_congr λk I=>?_;by_cases l:k=r
    ·rw[if_pos l,if_pos l];rfl
    ·rw[if_neg l,if_neg l,kn k l]
     show (if k=r then _ else (if c=c then - S.T k c else _))*_=_;rw[if_neg l,if_pos rfl,qdv,qdv,qc4]
   rw[this,sumN_mul];omega
  rw[c1,t1,t2];show S.T r c*P.A (S.kept r) t=_;omega
 ·have c1:colV P (piv S r e) c=colV P S c:=by
   unfold colV;by_cases K:c<P.n
   ·rw[if_pos K,if_pos K];show P.A (if c=e then _ else _)=_;rw[if_neg H]
   ·rw[if_neg K,if_neg K]
  have t1:(piv S r e).T r c=S.T r c:=by show (if r=r then (if c=e then _ else _) else _)=_;rw[if_pos rfl,if_neg H]
  have hC:=h.eq c L t;rw[sumN_split s]at hC;rw[c1,t1];refine qdZ (a:=S.p) (by omega) ?_;have t2:S.p*(sumN P.m λk=>if k=r then 0 else (piv S r e).T k c*P.A ((piv S r e).kept k) t)=(sumN P.m λk=>S.T r e*(if k=r then 0 else S.T k c*P.A (S.kept k) t)) - sumN P.m λk=>S.T r c*(if k=r then 0 else S.T k e*P.A (S.kept k) t):=by
   rw[<-sumN_mul,<-sumN_sub];refine sumN_congr λk I=>?_;by_cases l:k=r
   ·rw[if_pos l,if_pos l,if_pos l];simp
   ·rw[if_neg l,if_neg l,if_neg l,kn k l,<-qbn,piv_T h (by omega) L I s l H,qfU]
    rw[qbn,qa1 (S.T k e),qbn]
  rw[qcn,t2,sumN_mul,sumN_mul];show S.p*(S.T r e*colV P S c t)=_;rw[qaW,hC,<-qbn S.p,qa1 S.p (S.T r c),qbn,hE,qcn,qcn];generalize (sumN P.m λk=>if k=r then 0 else S.T k c*P.A (S.kept k) t)=X;generalize (sumN P.m λk=>if k=r then 0 else S.T k e*P.A (S.kept k) t)=Y;rw[show S.T r e*(S.T r c*P.A (S.kept r) t)=S.T r c*(S.T r e*P.A (S.kept r) t) by rw[qaW]];omega
def piv_goal {S:Tb} (h:Good P S) {r e:Nat} (M:e<P.n) (s:r<P.m):∀ c,c<=P.n->(piv S r e).G c=(sumN P.m λi=>P.g ((piv S r e).kept i)*(piv S r e).T i c) - (piv S r e).p*gainC P (piv S r e) c:=by
 intro c L;have hp:=h.pos;have hE:=h.goal e (by omega);have gE:gainC P S e=P.g (S.free e):=if_pos M;rw[gE,sumN_split s]at hE;have kr:(piv S r e).kept r=S.free e:=if_pos rfl;have kn:∀ i,i≠r->(piv S r e).kept i=S.kept i:=λi o=>if_neg o;rw[sumN_split s,kr];by_cases H:c=e
 ·subst H
  have c1:gainC P (piv S r c) c=P.g (S.kept r):=by
   unfold gainC;rw[if_pos M];show P.g (if c=c then _ else _)=_;rw[if_pos rfl]
  have t1:(piv S r c).T r c=S.p:=by show (if r=r then (if c=c then _ else _) else _)=_;rw[if_pos rfl,if_pos rfl]
  have t2:(sumN P.m λk=>if k=r then 0 else P.g ((piv S r c).kept k)*(piv S r c).T k c)=- sumN P.m λk=>if k=r then 0 else P.g (S.kept k)*S.T k c:=by
   have:(sumN P.m λk=>if k=r then 0 else P.g ((piv S r c).kept k)*(piv S r c).T k c)=sumN P.m λk=>(-1)*(if k=r then 0 else P.g (S.kept k)*S.T k c):=by
    refine sumN_congr λk I=>?_;by_cases l:k=r
    ·rw[if_pos l,if_pos l];rfl
    ·rw[if_neg l,if_neg l,kn k l]
     show _*(if k=r then _ else (if c=c then - S.T k c else _))=_;rw[if_neg l,if_pos rfl,qfV,qdv,qc4]
   rw[this,sumN_mul];omega
  rw[c1,t1,t2];show (if c=c then - S.G c else _)=_ - S.T r c*_;rw[if_pos rfl,hE,qa1 (S.T r c),qa1 S.p];omega
 ·have c1:gainC P (piv S r e) c=gainC P S c:=by
   unfold gainC;by_cases K:c<P.n
   ·rw[if_pos K,if_pos K];show P.g (if c=e then _ else _)=_;rw[if_neg H]
   ·rw[if_neg K,if_neg K]
  have t1:(piv S r e).T r c=S.T r c:=by show (if r=r then (if c=e then _ else _) else _)=_;rw[if_pos rfl,if_neg H]
  have hC:=h.goal c L;rw[sumN_split s]at hC;rw[c1,t1];have t2:S.p*(sumN P.m λk=>if k=r then 0 else P.g ((piv S r e).kept k)*(piv S r e).T k c)=(sumN P.m λk=>S.T r e*(if k=r then 0 else P.g (S.kept k)*S.T k c)) - sumN P.m λk=>S.T r c*(if k=r then 0 else P.g (S.kept k)*S.T k e):=by
   rw[<-sumN_mul,<-sumN_sub];refine sumN_congr λk I=>?_;by_cases l:k=r
   ·rw[if_pos l,if_pos l,if_pos l];simp
   ·rw[if_neg l,if_neg l,if_neg l,kn k l,qaW,piv_T h (by omega) L I s l H,qcC]
    rw[qaW,qa1 (S.T k e),qaW (S.T r c)]
  rw[sumN_mul,sumN_mul]at t2;have O:S.T r e*S.G c - S.G e*S.T r c=S.p*(P.g (S.free e)*S.T r c+(sumN P.m λk=>if k=r then 0 else P.g ((piv S r e).kept k)*(piv S r e).T k c) - S.T r e*gainC P S c):=by
   rw[qcC,qcn,t2,hC,hE];generalize (sumN P.m λk=>if k=r then 0 else P.g (S.kept k)*S.T k c)=X;generalize (sumN P.m λk=>if k=r then 0 else P.g (S.kept k)*S.T k e)=Y;rw[qcC,qcn,qfU,qee];rw[show S.T r e*(P.g (S.kept r)*S.T r c)=P.g (S.kept r)*S.T r e*S.T r c by rw[qaW,qbn]];rw[show S.T r e*(S.p*gainC P S c)=S.p*(S.T r e*gainC P S c) by rw[qaW]];rw[show S.p*(P.g (S.free e)*S.T r c)=S.p*P.g (S.free e)*S.T r c by rw[qbn]];rw[qa1 Y];omega
  show (if c=e then _ else (S.T r e*S.G c - S.G e*S.T r c) / S.p)=_;rw[if_neg H,O,qgi _ (by omega)];rfl
def Good.piv {S:Tb} (h:Good P S) {r e:Nat} (M:e<P.n) (s:r<P.m) (hq:0<S.T r e):Good P (piv S r e):=by
 refine⟨hq,?_,piv_eq h M s,piv_goal h M s⟩;show S.T r e=_;rw[h.entry (by omega) s];refine congrArg _ ?_
 funext i
 unfold basis;by_cases o:i=r
 ·rw[o,upd_same]
  show colV P S e=P.A (if r=r then _ else _);rw[if_pos rfl];exact if_pos M
 ·rw[upd_ne o]
  show _=P.A (if i=r then _ else _);rw[if_neg o]
end Sx
namespace Sx
def lexP (M:Nat) (v:Nat->Int):Prop:=∃ j,j<M/\0<v j/\∀ l,l<j->v l=0
def lexP_congr {M:Nat}{v w:Nat->Int} (h:∀ s,s<M->v s=w s) (I:lexP M v):lexP M w:=by
 obtain⟨j,p,B,A⟩:=I;exact⟨j,p,by rw[<-h j p];exact B,λl C=>by rw[<-h l (by omega)];exact A l C⟩
def lexP_mul {M:Nat}{v:Nat->Int}{c:Int} (D:0<c) (I:lexP M v):lexP M λs=>c*v s:=by
 obtain⟨j,p,B,A⟩:=I;exact⟨j,p,qjX D B,λl C=>by show c*v l=0;rw[A l C,qa7]⟩
def lexP_unmul {M:Nat}{v:Nat->Int}{c:Int} (D:0<c) (I:lexP M λs=>c*v s):lexP M v:=by
 obtain⟨j,p,B,A⟩:=I;have h2':0<v j*c:=by rw[qa1];exact B
 refine⟨j,p,Int.pos_of_mul_pos_left h2' D,λl C=>?_⟩
 have:=A l C
 rcases qcN.mp this with h|h
 ·omega
 ·exact h
def lexP_add {M:Nat}{v w:Nat->Int} (I:lexP M v) (hw:lexP M w):lexP M λs=>v s+w s:=by
 obtain⟨j,p,B,A⟩:=I;obtain⟨k,k1,k2,k3⟩:=hw;rcases Nat.lt_trichotomy j k with h|h|h
 ·exact⟨j,p,by show 0<v j+w j;rw[k3 j h];omega,λl C=>by show v l+w l=0;rw[A l C,k3 l (by omega)];rfl⟩
 ·subst h
  exact⟨j,p,by show 0<v j+w j;omega,λl C=>by show v l+w l=0;rw[A l C,k3 l C];rfl⟩
 ·exact⟨k,k1,by show 0<v k+w k;rw[A k h];omega,λl C=>by show v l+w l=0;rw[A l (by omega),k3 l C];rfl⟩
def lexP_addn {M:Nat}{v w:Nat->Int}{c:Int} (D:0<=c) (I:lexP M v) (hw:lexP M w):lexP M λs=>v s+c*w s:=by
 rcases qht D with h|h
 ·exact lexP_add I (lexP_mul h hw)
 ·subst h
  exact lexP_congr (λs _=>by rw[qbW,qeD]) I
def lexP_not0 {M:Nat}{v:Nat->Int} (h:∀ s,s<M->v s=0):¬ lexP M v:=λ⟨j,p,B,_⟩=>by rw[h j p]at B;omega
def lexP_first {M:Nat}{v:Nat->Int} (hM:0<M) (h:lexP M v):0<=v 0:=by
 obtain⟨j,p,B,A⟩:=h;rcases Nat.eq_zero_or_pos j with e|e
 ·subst e;omega
 ·rw[A 0 e];exact qdw _
variable (P:Pb)
def XV (s:Nat):Vec:=if s=0 then P.b else unit (s - 1)
def LV (S:Tb) (i s:Nat):Int:=det P.m (upd (basis P S) i (XV P s))
def ZV (S:Tb) (s:Nat):Int:=sumN P.m λi=>P.g (S.kept i)*LV P S i s
structure Named (S:Tb):Prop where
 one:∀ r,r<P.m->P.A (P.n+r)=unit r
 all:∀ k,k<P.n+P.m->(∃ c,c<P.n/\S.free c=k)\/∃ i,i<P.m/\S.kept i=k
 bound:(∀ c,c<P.n->S.free c<P.n+P.m)/\∀ i,i<P.m->S.kept i<P.n+P.m
def Fe (S:Tb):Prop:=∀ i,i<P.m->lexP (P.m+1) (LV P S i)
variable {P}
def Good.rep_free {S:Tb} (h:Good P S) {c:Nat} (D:c<=P.n) (t:Nat):S.p*colV P S c t=sumN P.m λi=>det P.m (upd (basis P S) i (colV P S c))*P.A (S.kept i) t:=by
 rw[h.eq c D t];exact sumN_congr λi d=>by rw[h.entry D d]
def det_kept {S:Tb} (h:Good P S) {i j:Nat} (d:i<P.m) (K:j<P.m):det P.m (upd (basis P S) i (basis P S j))=if i=j then S.p else 0:=by
 by_cases e:i=j
 ·subst e;rw[upd_self,if_pos rfl,h.dt]
 ·rw[if_neg e]
  exact det_eq0 _ d K e (by rw[upd_same,upd_ne (qbC e)])
def Good.rep_kept {S:Tb} (h:Good P S) {j:Nat} (K:j<P.m) (t:Nat):S.p*P.A (S.kept j) t=sumN P.m λi=>det P.m (upd (basis P S) i (P.A (S.kept j)))*P.A (S.kept i) t:=by
 rw[sumN_single K λi d O=>?_]
 ·have:=det_kept h K K
  rw[if_pos rfl]at this;have e:det P.m (upd (basis P S) j (P.A (S.kept j)))=S.p:=this;rw[e]
 ·have:=det_kept h d K
  rw[if_neg O]at this;have e:det P.m (upd (basis P S) i (P.A (S.kept j)))=0:=this;rw[e,qbW]
def Good.rep {S:Tb} (h:Good P S) (hn:Named P S) {s:Nat} (J:s<P.m+1) (t:Nat):S.p*XV P s t=sumN P.m λi=>LV P S i s*P.A (S.kept i) t:=by
 unfold LV;by_cases h0:s=0
 ·subst h0
  have e:XV P 0=colV P S P.n:=by unfold XV colV;rw[if_pos rfl,if_neg (qa8 _)]
  rw[e];exact h.rep_free (qar _) t
 ·have e:XV P s=P.A (P.n+(s - 1)):=by unfold XV;rw[if_neg h0,hn.one (s - 1) (by omega)]
  rw[e];rcases hn.all (P.n+(s - 1)) (by omega) with⟨c,D,F⟩|⟨j,K,F⟩
  ·have H:P.A (P.n+(s - 1))=colV P S c:=by unfold colV;rw[if_pos D,F]
   rw[H];exact h.rep_free (by omega) t
  ·rw[<-F]
   exact h.rep_kept K t
def piv_basis {S:Tb}{r e:Nat} (q:e<P.n):basis P (piv S r e)=upd (basis P S) r (colV P S e):=by
 funext i
 unfold basis;by_cases d:i=r
 ·rw[d,upd_same]
  show P.A (if r=r then _ else _)=colV P S e;rw[if_pos rfl];exact (if_pos q).symm
 ·rw[upd_ne d]
  show P.A (if i=r then _ else _)=_;rw[if_neg d]
def LV_r {S:Tb}{r e s:Nat} (q:e<P.n):LV P (piv S r e) r s=LV P S r s:=by
 unfold LV;rw[piv_basis q,upd_upd]
def LV_i {S:Tb} (h:Good P S) (hn:Named P S) {r e s i:Nat} (q:e<P.n) (J:s<P.m+1) (d:i<P.m) (o:r<P.m) (n:i≠r):S.p*LV P (piv S r e) i s=S.T r e*LV P S i s - S.T i e*LV P S r s:=by
 unfold LV;rw[piv_basis q];exact cramer2 (basis P S) (colV P S e) (XV P s) S.p h.dt (by have:=h.pos;omega) (λk=>S.T k e) (λk=>LV P S k s) (λt=>h.eq e (by omega) t) (λt=>h.rep hn J t) d o n
def ZV_piv {S:Tb} (h:Good P S) (hn:Named P S) {r e s:Nat} (q:e<P.n) (J:s<P.m+1) (o:r<P.m):S.p*ZV P (piv S r e) s=S.T r e*ZV P S s - S.G e*LV P S r s:=by
 have hE:=h.goal e (by omega);have gE:gainC P S e=P.g (S.free e):=if_pos q;rw[gE,sumN_split o]at hE;unfold ZV;have kr:(piv S r e).kept r=S.free e:=if_pos rfl;have kn:∀ i,i≠r->(piv S r e).kept i=S.kept i:=λi d=>if_neg d;rw[sumN_split o,kr,LV_r q,qcn];have t2:S.p*(sumN P.m λk=>if k=r then 0 else P.g ((piv S r e).kept k)*LV P (piv S r e) k s)=(sumN P.m λk=>S.T r e*(if k=r then 0 else P.g (S.kept k)*LV P S k s)) - sumN P.m λk=>LV P S r s*(if k=r then 0 else P.g (S.kept k)*S.T k e):=by
  rw[<-sumN_mul,<-sumN_sub];refine sumN_congr λk F=>?_;by_cases u:k=r
  ·rw[if_pos u,if_pos u,if_pos u];simp
  ·rw[if_neg u,if_neg u,if_neg u,kn k u,qaW,LV_i h hn q J F o u,qcC]
   rw[qaW,qa1 (S.T k e),qaW (LV P S r s)]
 rw[t2,sumN_mul,sumN_mul,sumN_split o (λi=>P.g (S.kept i)*LV P S i s),hE];generalize (sumN P.m λk=>if k=r then 0 else P.g (S.kept k)*LV P S k s)=X;generalize (sumN P.m λk=>if k=r then 0 else P.g (S.kept k)*S.T k e)=Y;generalize LV P S r s=L;rw[qfU,qee,qcn];rw[show S.T r e*(P.g (S.kept r)*L)=P.g (S.kept r)*S.T r e*L by rw[qaW,qbn]];rw[show S.p*(P.g (S.free e)*L)=S.p*P.g (S.free e)*L by rw[qbn]];rw[qa1 Y];omega
def less (P:Pb) (S S':Tb):Prop:=lexP (P.m+1) λs=>S.p*ZV P S' s - S'.p*ZV P S s
def less_trans {S1 S2 S3:Tb} (p:0<S1.p) (B:0<S2.p) (A:0<S3.p) (a:less P S1 S2) (b:less P S2 S3):less P S1 S3:=by
 refine lexP_unmul B (lexP_congr (λs _=>?_) (lexP_add (lexP_mul p b) (lexP_mul A a)));generalize ZV P S1 s=x;generalize ZV P S2 s=y;generalize ZV P S3 s=z;rw[qcC,qcC,qcC];rw[show S1.p*(S3.p*y)=S3.p*(S1.p*y) by rw[qaW],show S1.p*(S2.p*z)=S2.p*(S1.p*z) by rw[qaW],show S3.p*(S2.p*x)=S2.p*(S3.p*x) by rw[qaW]];omega
def same_kept {S S':Tb} (h:Good P S) (h':Good P S') (e:∀ i,i<P.m->S.kept i=S'.kept i):S.p=S'.p/\∀ s,ZV P S s=ZV P S' s:=by
 have hb:∀ i,i<P.m->basis P S i=basis P S' i:=λi d=>by unfold basis;rw[e i d]
 have hL:∀ i s,i<P.m->LV P S i s=LV P S' i s:=λi s d=>by
  unfold LV;refine det_congr P.m λk t F _=>?_;by_cases R:k=i
  ·rw[R,upd_same,upd_same]
  ·rw[upd_ne R,upd_ne R,hb k F]
 refine⟨?_,λs=>?_⟩
 ·rw[h.dt,h'.dt]
  exact det_congr P.m λk t F _=>by rw[hb k F]
 ·unfold ZV
  exact sumN_congr λi d=>by rw[e i d,hL i s d]
def less_kept {S S':Tb} (h:Good P S) (h':Good P S') (l:less P S S'):¬ ∀ i,i<P.m->S.kept i=S'.kept i:=λe=>by
 obtain⟨G,H⟩:=same_kept h h' e;refine lexP_not0 (λs _=>?_) l;rw[G,H s];omega
def lines_unlike {S:Tb} (h:Good P S) (hA:∀ i,i<P.m->∀ t,P.m<=t->P.A (S.kept i) t=0) {i r:Nat} (d:i<P.m) (o:r<P.m) (n:i≠r) {a b:Int} (ha:0<a) (J:∀ s,s<P.m+1->a*LV P S i s=b*LV P S r s):False:=by
 have key:∀ k,k<P.m->det P.m (upd (basis P S) k (basis P S i))=sumN P.m λs=>basis P S i s*LV P S k (s+1):=λk F=>by
  have e:basis P S i=λt=>sumN P.m λs=>basis P S i s*unit s t:=by
   funext t
   by_cases ht:t<P.m
   ·rw[sumN_single ht λs _ O=>by unfold unit;rw[if_neg (qbC O),qa7]]
    unfold unit;rw[if_pos rfl,qc5]
   ·rw[sumN_congr (g:=λ_=>0) λs V=>by unfold unit;rw[if_neg (by omega),qa7],sumN_zero]
    exact hA i d t (by omega)
  have H:=det_sum (m:=P.m) (basis P S) F (λs=>basis P S i s) unit P.m;rw[<-e]at H;rw[H];refine sumN_congr λs V=>?_;unfold LV XV;rw[if_neg (by omega),qcF]
 have k1:=key i d;have k2:=key r o;rw[det_kept h d d,if_pos rfl]at k1;rw[det_kept h o d,if_neg (qbC n)]at k2
 have:a*S.p=b*0:=by
  rw[k1,k2,<-sumN_mul,<-sumN_mul];refine sumN_congr λs V=>?_;rw[qaW,J (s+1) (by omega),qaW]
 have:=qjX ha h.pos
 omega
def Named.piv {S:Tb} (hn:Named P S) {r e:Nat} (q:e<P.n) (o:r<P.m):Named P (piv S r e):=by
 refine⟨hn.one,λk F=>?_,λc D=>?_,λi d=>?_⟩
 ·rcases hn.all k F with⟨c,D,G⟩|⟨i,d,G⟩
  ·by_cases T:c=e
   ·subst T;exact .inr ⟨r,o,by show (if r=r then _ else _)=_;rw[if_pos rfl];exact G⟩
   ·exact .inl ⟨c,D,by show (if c=e then _ else _)=_;rw[if_neg T];exact G⟩
  ·by_cases n:i=r
   ·subst n;exact .inl ⟨e,q,by show (if e=e then _ else _)=_;rw[if_pos rfl];exact G⟩
   ·exact .inr ⟨i,d,by show (if i=r then _ else _)=_;rw[if_neg n];exact G⟩
 ·show (if c=e then _ else _)<_
  split
  ·exact hn.bound.2 r o
  ·exact hn.bound.1 c D
 ·show (if i=r then _ else _)<_
  split
  ·exact hn.bound.1 e q
  ·exact hn.bound.2 i d
def step {S:Tb} (h:Good P S) (hn:Named P S) (Q:Fe P S) {r e:Nat} (q:e<P.n) (o:r<P.m) (hq:0<S.T r e) (hg:S.G e<0)
  (W:∀ i,i<P.m->i≠r->0<S.T i e->lexP (P.m+1) λs=>S.T r e*LV P S i s - S.T i e*LV P S r s) :
  Good P (piv S r e)/\Named P (piv S r e)/\Fe P (piv S r e)/\less P S (piv S r e):=by
 refine⟨h.piv q o hq,hn.piv q o,λi d=>?_,?_⟩
 ·by_cases n:i=r
  ·subst n
   exact lexP_congr (λs _=>(LV_r q).symm) (Q i d)
  ·refine lexP_unmul h.pos (lexP_congr (λs J=>(LV_i h hn q J d o n).symm) ?_)
   by_cases ht:0<S.T i e
   ·exact W i d n ht
   ·refine lexP_congr (λs _=>?_) (lexP_addn (c:=- S.T i e) (by omega) (lexP_mul hq (Q i d)) (Q r o))
    show S.T r e*LV P S i s+- S.T i e*LV P S r s=_;rw[qdv];omega
 ·refine lexP_congr (λs J=>?_) (lexP_mul (c:=- S.G e) (by omega) (Q r o))
  show - S.G e*LV P S r s=S.p*ZV P (piv S r e) s - S.T r e*ZV P S s;rw[ZV_piv h hn q J o,qdv];omega
def filt_len (N:Nat):∀ l:List Nat,(l.filter λx=>decide (x=N)).length+(l.filter λx=>decide (x≠N)).length=l.length
 |[]=>rfl
 |x::l=>by
  have ih:=filt_len N l;by_cases h:x=N
  ·rw[qd8 (by simpa using h),qd9 (by simpa using h),qam,qam];omega
  ·rw[qd9 (by simpa using h),qd8 (by simpa using h),qam,qam];omega
def nodup_le:∀ (N:Nat) (l:List Nat),l.Nodup->(∀ x∈l,x<N)->l.length<=N:=by
 intro N
 induction N with
 |zero=>
  intro l _ h;cases l with
  |nil=>exact qar _
  |cons x l=>exact absurd (h x qaf) (by omega)
 |succ N ih=>
  intro l C h;have p:=ih (l.filter λx=>decide (x≠N)) (C.filter _) λx hx=>by
   have:=qcf.mp hx
   have B:=h x this.1;have A:x≠N:=by simpa using this.2
   omega
  have B:(l.filter λx=>decide (x=N)).length<=1:=by
   have hn:=C.filter λx=>decide (x=N);have E:∀ x∈l.filter (λx=>decide (x=N)),x=N:=λx hx=>by simpa using (qcf.mp hx).2
   match l.filter (λx=>decide (x=N)),hn,E with
   |[],_,_=>exact qch _
   |[x],_,_=>exact qar _
   |x::y::r,hn,E=>
    have G:=E x qaf;have H:=E y (qal _ qaf);exact absurd (G.trans H.symm) ((qbi.mp hn).1 y qaf)
  have A:=filt_len N l;omega
def code (b:Nat) (f:Nat->Nat):Nat->Nat
 |0=>0
 |m+1=>code b f m*b+f m
def code_lt {b:Nat}{f:Nat->Nat}:∀ {m:Nat},(∀ i,i<m->f i<b)->code b f m<b^m
 |0,_=>Nat.one_pos
 |m+1,h=>by
  have ih:=code_lt (m:=m) λi d=>h i (by omega);have p:=h m (by omega);rw[code,qgK]
  calc code b f m*b+f m<code b f m*b+b:=by omega
   _=(code b f m+1)*b:=by rw[qjW,qhe]
   _<=b^m*b:=qcv b ih
def code_inj {b:Nat}{f g:Nat->Nat}:∀ {m:Nat},(∀ i,i<m->f i<b)->(∀ i,i<m->g i<b)->code b f m=code b g m->∀ i,i<m->f i=g i
 |0,_,_,_,i,d=>absurd d (by omega)
 |m+1,Q,hg,e,i,d=>by
  rw[code,code]at e;have p:=Q m (by omega);have B:=hg m (by omega);have G:f m=g m:=by
   have:=congrArg (·%b) e
   simp only[Nat.mul_add_mod_self_right]at this;rw[qhN p,qhN B]at this;exact this
  have H:code b f m=code b g m:=by
   rw[G]at e;exact Nat.eq_of_mul_eq_mul_right (by omega:0<b) (by omega)
  by_cases him:i=m
  ·rw[him];exact G
  ·exact code_inj (m:=m) (λi d=>Q i (by omega)) (λi d=>hg i (by omega)) H i (by omega)
end Sx
namespace Sx
def leastR (tops bots:Nat->Int):List Nat->List Nat->List Nat
 |[],least=>least
 |p::ps,[]=>leastR tops bots ps [p]
 |p::ps,m::r=>if tops p*bots m > tops m*bots p then leastR tops bots ps (m::r) else if tops p*bots m<tops m*bots p then leastR tops bots ps [p] else leastR tops bots ps ((m::r)++[p])
structure Least (tops bots:Nat->Int) (ps out:List Nat):Prop where
 ne:ps≠[]->out≠[]
 sub:∀ x∈out,x∈ps
 nd:ps.Nodup->out.Nodup
 eq:∀ x∈out,∀ y∈out,tops x*bots y=tops y*bots x
 lt:∀ x∈out,∀ y∈ps,y∉out->tops x*bots y<tops y*bots x
def ratio_lt {a b c p q r:Int} (hp:0<p) (hq:0<q) (Y:0<r) (B:a*q<b*p) (I:b*r<=c*q):a*r<c*p:=by
 have A:a*q*r<b*p*r:=qdL B Y;have e2:b*r*p<=c*q*p:=qfu I (by omega);rw[qbm b p r]at A;have e3:a*r*q<c*p*q:=by rw[qbm a r q,qbm c p q];omega
 exact qdR e3 (by omega)
def leastR_ok {tops bots:Nat->Int}:∀ (ps done least:List Nat),(∀ x∈done++ps,0<bots x)->(done++ps).Nodup->Least tops bots done least->Least tops bots (done++ps) (leastR tops bots ps least):=by
 intro ps
 induction ps with
 |nil=>intro done least _ _ h;rw[qb3];cases least<;>exact h
 |cons p ps F=>
  intro done least hb n h;have hp:0<bots p:=hb p (qaw _ qaf);have hpd:p∉done:=λhm=>by
   rw[qcw]at n;exact n.2.2 p hm p qaf rfl
  have e:done++p::ps=(done++[p])++ps:=by simp
  have G:done.Nodup:=(qcw.mp n).1;rw[e]at hb n ⊢;cases least with
  |nil=>
   have hd:done=[]:=by
    cases done with
    |nil=>rfl
    |cons x d=>exact absurd rfl (h.ne (by simp))
   subst hd;rw[leastR];refine F _ _ hb n ⟨λ_=>by simp,λx f=>by simpa using f,λ_=>by simp,λx f y g=>?_,λx f y g hn=>absurd (by simpa using g) (by simpa using hn)⟩;rw[qap.mp f,qap.mp g]
  |cons m r=>
   have u:m∈m::r:=qaf;have Q:=h.sub m u;have hb0:0<bots m:=hb m (qa9 _ (qa9 _ Q));have z:∀ y∈done,0<bots y:=λy g=>hb y (qa9 _ (qa9 _ g));rw[leastR];by_cases c1:tops p*bots m > tops m*bots p
   ·rw[if_pos c1]
    refine F _ _ hb n ⟨λ_=>by simp,λx f=>qa9 _ (h.sub x f),λ_=>h.nd G,h.eq,λx f y g hn=>?_⟩;rcases qaY.mp g with g|g
    ·exact h.lt x f y g hn
    ·rw[qap.mp g]
     have E:=h.eq m u x f;have R:0<bots x:=z x (h.sub x f)
     -- x is as m,m is below p
     exact Int.lt_of_lt_of_le (by
      have A:tops x*bots m*bots p=tops m*bots p*bots x:=by rw[<-E,qbm]
      have e2:tops m*bots p*bots x<tops p*bots m*bots x:=qdL c1 R;have e3:tops x*bots p*bots m<tops p*bots x*bots m:=by rw[qbm,A,qbm (tops p)];exact e2
      exact qdR e3 (by omega)) (qdw _)
   ·rw[if_neg c1]
    by_cases c2:tops p*bots m<tops m*bots p
    ·rw[if_pos c2]
     refine F _ _ hb n ⟨λ_=>by simp,λx f=>by rw[qap.mp f];simp,λ_=>by simp,λx f y g=>by rw[qap.mp f,qap.mp g],λx f y g hn=>?_⟩;rw[qap.mp f];rcases qaY.mp g with g|g
     ·have V:=z y g
      have hle:tops m*bots y<=tops y*bots m:=by
       by_cases hm:y∈m::r
       ·exact Int.le_of_eq (h.eq m u y hm)
       ·exact qjF (h.lt m u y g hm)
      exact ratio_lt hp hb0 V c2 hle
     ·exact absurd (by simpa using g) (by simpa using hn)
    ·rw[if_neg c2]
     have K:tops p*bots m=tops m*bots p:=by omega
     have J:∀ x∈m::r,tops p*bots x=tops x*bots p:=λx f=>by
      have E:=h.eq m u x f;have R:0<bots x:=z x (h.sub x f);have A:tops p*bots x*bots m=tops x*bots p*bots m:=by
       rw[qbm,K,qbm,E,qbm]
      exact qf4 (by omega) A
     refine F _ _ hb n ⟨λ_=>by simp,λx f=>?_,λ_=>?_,λx f y g=>?_,λx f y g hn=>?_⟩
     ·rcases qaY.mp f with f|f
      ·exact qa9 _ (h.sub x f)
      ·exact qaw _ f
     ·rw[qcw]
      refine⟨h.nd G,by simp,λx f y g e=>?_⟩;rw[qap.mp g]at e;rw[e]at f;exact hpd (h.sub p f)
     ·rcases qaY.mp f with f|f<;>rcases qaY.mp g with g|g
      ·exact h.eq x f y g
      ·rw[qap.mp g];exact (J x f).symm
      ·rw[qap.mp f];exact J y g
      ·rw[qap.mp f,qap.mp g]
     ·have D:y∈done:=by
       rcases qaY.mp g with g|g
       ·exact g
       ·exact absurd (qaw _ g) hn
      have H:y∉m::r:=λhm=>hn (qa9 _ hm);rcases qaY.mp f with f|f
      ·exact h.lt x f y D H
      ·rw[qap.mp f]
       have w:=h.lt m u y D H;have V:=z y D;have A:tops p*bots y*bots m<tops y*bots p*bots m:=by
        rw[qbm,K,qbm (tops m),qbm (tops y)];exact qdL w hp
       exact qdR A (by omega)
def least_of {tops bots:Nat->Int}{ps:List Nat} (hb:∀ x∈ps,0<bots x) (n:ps.Nodup):Least tops bots ps (leastR tops bots ps []):=by
 have:=leastR_ok (tops:=tops) (bots:=bots) ps [] [] (by simpa using hb) (by simpa using n) ⟨λh=>absurd rfl h,λx f=>(nomatch f),λ_=>qcU,λx f=>(nomatch f),λx f=>(nomatch f)⟩
 simpa using this
def leaveL (W:Nat->Nat->Int) (bots:Nat->Int):List Nat->List Nat->List Nat
 |[],ps=>ps
 |s::ss,ps=>if ps.length<2 then ps else leaveL W bots ss (leastR (W s) bots ps [])
structure Lv (W:Nat->Nat->Int) (bots:Nat->Int) (C:List Nat) (s:Nat) (ps:List Nat):Prop where
 ne:ps≠[]
 nd:ps.Nodup
 sub:∀ x∈ps,x∈C
 eq:∀ x∈ps,∀ y∈ps,∀ l,l<s->bots x*W l y - bots y*W l x=0
 lt:∀ x∈ps,∀ y∈C,y∉ps->lexP s λl=>bots x*W l y - bots y*W l x
def lexP_mono {M N:Nat}{v:Nat->Int} (h:M<=N) (hv:lexP M v):lexP N v:=let ⟨j,B,I,o⟩:=hv;⟨j,by omega,I,o⟩
def Lv.step {W:Nat->Nat->Int}{bots:Nat->Int}{C ps:List Nat}{s:Nat} (hb:∀ x∈C,0<bots x) (h:Lv W bots C s ps):Lv W bots C (s+1) (leastR (W s) bots ps []):=by
 have L:=least_of (tops:=W s) (bots:=bots) (ps:=ps) (λx f=>hb x (h.sub x f)) h.nd;refine⟨L.ne h.ne,L.nd h.nd,λx f=>h.sub x (L.sub x f),λx f y g l w=>?_,λx f y g hn=>?_⟩
 ·rcases qeA l s with B|B
  ·exact h.eq x (L.sub x f) y (L.sub y g) l B
  ·have:l=s:=by omega
   subst this
   have:=L.eq y g x f
   rw[qa1 (bots x),qa1 (bots y),this];omega
 ·by_cases hm:y∈ps
  ·have w:=L.lt x f y hm hn
   refine⟨s,by omega,?_,λl hl'=>h.eq x (L.sub x f) y hm l hl'⟩;show 0<bots x*W s y - bots y*W s x;rw[qa1 (bots x),qa1 (bots y)];omega
  ·exact lexP_mono (by omega) (h.lt x (L.sub x f) y g hm)
def leaveL_ok {W:Nat->Nat->Int}{bots:Nat->Int}{C:List Nat} (hb:∀ x∈C,0<bots x):∀ (k s:Nat) (ps:List Nat),Lv W bots C s ps->∃ s',s<=s'/\s'<=s+k/\Lv W bots C s' (leaveL W bots ((qag k).map λj=>s+j) ps)/\(s'<s+k->(leaveL W bots ((qag k).map λj=>s+j) ps).length<2):=by
 intro k
 induction k with
 |zero=>intro s ps h;exact⟨s,qar _,qar _,h,λh=>absurd h (by omega)⟩
 |succ k F=>
  intro s ps h;have e:(qag (k+1)).map (λj=>s+j)=s::(qag k).map λj=>(s+1)+j:=by
   rw[qdk,qaq,qaR]
   congr 1
   refine qcg λj _=>?_;show s+(j+1)=_;omega
  rw[e,leaveL];by_cases w:ps.length<2
  ·rw[if_pos w]
   exact⟨s,qar _,by omega,h,λ_=>w⟩
  ·rw[if_neg w]
   obtain⟨s',B,I,o,X⟩:=F (s+1) _ (h.step hb);exact⟨s',by omega,by omega,o,λh=>X (by omega)⟩
variable {P:Pb}
def leaving_ok {S:Tb} (h:Good P S) (hA:∀ i,i<P.m->∀ t,P.m<=t->P.A (S.kept i) t=0) {e:Nat}{C:List Nat} (T:∀ i,i∈C↔i<P.m/\0<S.T i e) (hn:C.Nodup) (hne:C≠[]) :
  ∃ r,leaveL (λs i=>LV P S i s) (λi=>S.T i e) ((qag (P.m+1)).map λj=>0+j) C=[r]/\r<P.m/\0<S.T r e/\∀ i,i<P.m->i≠r->0<S.T i e->lexP (P.m+1) λs=>S.T r e*LV P S i s - S.T i e*LV P S r s:=by
 have hb:∀ x∈C,0<S.T x e:=λx f=>((T x).mp f).2;have h0:Lv (λs i=>LV P S i s) (λi=>S.T i e) C 0 C:=⟨hne,hn,λx f=>f,λx _ y _ l w=>absurd w (by omega),λx _ y g hm=>absurd g hm⟩;obtain⟨s',B,I,o,X⟩:=leaveL_ok hb (P.m+1) 0 C h0;generalize leaveL (λs i=>LV P S i s) (λi=>S.T i e) ((qag (P.m+1)).map λj=>0+j) C=out at o X;have O:out.length<2:=by
  rcases qeA out.length 2 with w|w
  ·exact w
  ·exfalso
   have hs:s'=P.m+1:=by
    rcases qeA s' (0+(P.m+1)) with hlt|hge
    ·exact absurd (X hlt) (by omega)
    ·omega
   match out,w,o with
   |x::y::r,_,o=>
    have f:=(T x).mp (o.sub x qaf);have g:=(T y).mp (o.sub y (qal _ qaf));have hxy:x≠y:=λe=>by
     have:=(qbi.mp o.nd).1 y qaf
     exact this e
    refine lines_unlike h hA g.1 f.1 (qbC hxy) (a:=S.T x e) (b:=S.T y e) f.2 λs hs'=>?_
    have:=o.eq x qaf y (qal _ qaf) s (by omega)
    omega
 match out,O,o with
 |[],_,o=>exact absurd rfl o.ne
 |[r],_,o=>
  have Y:=(T r).mp (o.sub r qaf);refine⟨r,rfl,Y.1,Y.2,λi hi hir hT=>?_⟩;exact lexP_mono (by omega) (o.lt r qaf i ((T i).mpr ⟨hi,hT⟩) (by simpa using hir))
end Sx
namespace Sx
variable {P:Pb}
def sumN_swap (n m:Nat) (f:Nat->Nat->Int):(sumN n λi=>sumN m λk=>f i k)=sumN m λk=>sumN n λi=>f i k:=by
 induction n with
 |zero=>rw[sumN];exact (sumN_zero m).symm
 |succ n L=>
  rw[sumN,L];rw[<-sumN_add];rfl
def sumN_nonneg {n:Nat}{f:Nat->Int} (h:∀ k,k<n->0<=f k):0<=sumN n f:=by
 induction n with
 |zero=>exact qdw _
 |succ n L=>rw[sumN];have:=L λk w=>h k (by omega);have:=h n (by omega);omega
def sumN_append (a b:Nat) (f:Nat->Int):sumN (a+b) f=sumN a f+sumN b λk=>f (a+k):=by
 induction b with
 |zero=>rw[sumN];simp
 |succ b L=>rw[<-Nat.add_assoc,sumN,L,sumN];omega
def sumN_right (n:Nat) (c:Int) (f:Nat->Int):sumN n (λk=>f k*c)=sumN n f*c:=by
 rw[qa1,<-sumN_mul];exact sumN_congr λk _=>qa1 _ _
def byName (P:Pb) (S:Tb) (y:Nat->Int) (k:Nat):Int:=sumN P.m λi=>if S.kept i=k then y i else 0
def byName_sum (S:Tb) (y:Nat->Int) {N:Nat} (hN:∀ i,i<P.m->S.kept i<N) (f:Nat->Int):(sumN N λk=>byName P S y k*f k)=sumN P.m λi=>y i*f (S.kept i):=by
 have e:(sumN N λk=>byName P S y k*f k)=sumN N λk=>sumN P.m λi=>(if S.kept i=k then y i else 0)*f k:=sumN_congr λk _=>(sumN_right _ _ _).symm;rw[e,sumN_swap];refine sumN_congr λi d=>?_;rw[sumN_single (hN i d) λk _ o=>by rw[if_neg (qbC o),qbW],if_pos rfl]
def byName_nonneg {S:Tb}{y:Nat->Int} (h:∀ i,i<P.m->0<=y i) (k:Nat):0<=byName P S y k:=sumN_nonneg λi d=>by split;exact h i d;exact qdw _
def byName_at {S:Tb}{y:Nat->Int} (M:∀ i j,i<P.m->j<P.m->S.kept i=S.kept j->i=j) {i:Nat} (d:i<P.m):byName P S y (S.kept i)=y i:=by
 unfold byName;rw[sumN_single d λj J o=>if_neg λe=>o (M j i J d e),if_pos rfl]
def byName_not {S:Tb}{y:Nat->Int}{k:Nat} (h:∀ i,i<P.m->S.kept i≠k):byName P S y k=0:=by
 unfold byName;rw[sumN_congr (g:=λ_=>0) λi d=>if_neg (h i d),sumN_zero]
def unit_sum {m:Nat}{v:Vec}{r:Nat} (z:r<m):(sumN m λk=>v k*unit k r)=v r:=by
 rw[sumN_single z λk _ o=>by unfold unit;rw[if_neg (qbC o),qa7]];unfold unit;rw[if_pos rfl,qc5]
def amounts_ok {S:Tb} (h:Good P S) (hn:Named P S) (hT:∀ i,i<P.m->0<=S.T i P.n) {r:Nat} (z:r<P.m):(sumN P.n λj=>byName P S (λi=>S.T i P.n) j*P.A j r)<=S.p*P.b r:=by
 have x:=h.eq P.n (qar _) r;have c1:colV P S P.n=P.b:=by unfold colV;rw[if_neg (qa8 _)]
 rw[c1]at x;have q:=byName_sum (P:=P) S (λi=>S.T i P.n) (N:=P.n+P.m) hn.bound.2 λk=>P.A k r;rw[<-x,sumN_append]at q;have H:(sumN P.m λk=>byName P S (λi=>S.T i P.n) (P.n+k)*P.A (P.n+k) r)=byName P S (λi=>S.T i P.n) (P.n+r):=by
  rw[sumN_congr (g:=λk=>byName P S (λi=>S.T i P.n) (P.n+k)*unit k r) λk w=>by rw[hn.one k w]];exact unit_sum (v:=λk=>byName P S (λi=>S.T i P.n) (P.n+k)) z
 have e4:=byName_nonneg (P:=P) (S:=S) (y:=λi=>S.T i P.n) hT (P.n+r);omega
def gains_amounts {S:Tb} (h:Good P S) (hn:Named P S) (hg:∀ r,r<P.m->P.g (P.n+r)=0):(sumN P.n λj=>byName P S (λi=>S.T i P.n) j*P.g j)=S.G P.n:=by
 have q:=byName_sum (P:=P) S (λi=>S.T i P.n) (N:=P.n+P.m) hn.bound.2 P.g;rw[sumN_append,sumN_congr (n:=P.m) (g:=λ_=>0) λk w=>by rw[hg k w,qa7],sumN_zero,qeD]at q;rw[q,h.goal P.n (qar _)]
 have:gainC P S P.n=0:=by unfold gainC;rw[if_neg (qa8 _)]
 rw[this,qa7,qft];exact sumN_congr λi _=>qa1 _ _
def det_by_units {S:Tb}{v:Vec} (V:∀ t,P.m<=t->v t=0) {i:Nat} (d:i<P.m):det P.m (upd (basis P S) i v)=sumN P.m λs=>v s*LV P S i (s+1):=by
 have e:v=λt=>sumN P.m λs=>v s*unit s t:=by
  funext t
  by_cases B:t<P.m
  ·exact (unit_sum (v:=v) B).symm
  ·rw[sumN_congr (g:=λ_=>0) λs hs'=>by unfold unit;rw[if_neg (by omega),qa7],sumN_zero]
   exact V t (by omega)
 have q:=det_sum (m:=P.m) (basis P S) d (λs=>v s) unit P.m;rw[<-e]at q;rw[q];refine sumN_congr λs hs'=>?_;unfold LV XV;rw[if_neg (by omega),qcF]
def prices_col {S:Tb}{v:Vec} (V:∀ t,P.m<=t->v t=0):(sumN P.m λr=>v r*ZV P S (r+1))=sumN P.m λi=>P.g (S.kept i)*det P.m (upd (basis P S) i v):=by
 have e:(sumN P.m λr=>v r*ZV P S (r+1))=sumN P.m λr=>sumN P.m λi=>P.g (S.kept i)*(v r*LV P S i (r+1)):=sumN_congr λr _=>by
  unfold ZV;rw[<-sumN_mul];exact sumN_congr λi _=>by rw[qaW]
 rw[e,sumN_swap];refine sumN_congr λi d=>?_;rw[sumN_mul,det_by_units V d]
def prices_ok {S:Tb} (h:Good P S) (hn:Named P S) (hA:∀ k,k<P.n+P.m->∀ t,P.m<=t->P.A k t=0) (O:∀ c,c<P.n->0<=S.G c) {j:Nat} (J:j<P.n):S.p*P.g j<=sumN P.m λr=>P.A j r*ZV P S (r+1):=by
 rw[prices_col (hA j (by omega))];rcases hn.all j (by omega) with⟨c,A,e⟩|⟨i,d,e⟩
 ·have x:=h.goal c (by omega)
  have g1:gainC P S c=P.g j:=by unfold gainC;rw[if_pos A,e]
  have c1:colV P S c=P.A j:=by unfold colV;rw[if_pos A,e]
  have q:(sumN P.m λi=>P.g (S.kept i)*det P.m (upd (basis P S) i (P.A j)))=sumN P.m λi=>P.g (S.kept i)*S.T i c:=sumN_congr λi d=>by rw[<-c1,<-h.entry (by omega) d]
  rw[g1]at x;rw[q]
  have:=O c A
  omega
 ·rw[sumN_single d λk w o=>?_]
  ·have:=det_kept h d d
   rw[if_pos rfl]at this;have q:det P.m (upd (basis P S) i (P.A j))=S.p:=by rw[<-e];exact this
   rw[q,e,qa1];exact qdw _
  ·have:=det_kept h w d
   rw[if_neg o]at this;have q:det P.m (upd (basis P S) k (P.A j))=0:=by rw[<-e];exact this
   rw[q,qa7]
def bounds_prices {S:Tb} (h:Good P S) (hb:∀ t,P.m<=t->P.b t=0):(sumN P.m λr=>P.b r*ZV P S (r+1))=S.G P.n:=by
 have c1:colV P S P.n=P.b:=by unfold colV;rw[if_neg (qa8 _)]
 have:gainC P S P.n=0:=by unfold gainC;rw[if_neg (qa8 _)]
 rw[prices_col hb,h.goal P.n (qar _),this,qa7,qft];exact sumN_congr λi d=>by rw[h.entry (qar _) d,c1]
def price_free {S:Tb} (h:Good P S) (hn:Named P S) (hg:∀ r,r<P.m->P.g (P.n+r)=0) {r c:Nat} (z:r<P.m) (A:c<P.n) (e:S.free c=P.n+r):ZV P S (r+1)=S.G c:=by
 have g1:gainC P S c=0:=by unfold gainC;rw[if_pos A,e,hg r z]
 have c1:colV P S c=unit r:=by unfold colV;rw[if_pos A,e,hn.one r z]
 rw[h.goal c (by omega),g1,qa7,qft];unfold ZV;refine sumN_congr λi d=>?_;rw[h.entry (by omega) d,c1];unfold LV XV;rw[if_neg (by omega),qcF]
def price_kept {S:Tb} (h:Good P S) (hn:Named P S) (hg:∀ r,r<P.m->P.g (P.n+r)=0) {r j:Nat} (z:r<P.m) (J:j<P.m) (e:S.kept j=P.n+r):ZV P S (r+1)=0:=by
 unfold ZV;rw[sumN_single J λk w o=>?_]
 ·rw[e,hg r z,qbW]
 ·have:=det_kept h w J
  rw[if_neg o]at this;have q:LV P S k (r+1)=0:=by
   unfold LV XV;rw[if_neg (by omega),qcF,<-hn.one r z,<-e];exact this
  rw[q,qa7]
def wayN (P:Pb) (S:Tb) (e k:Nat):Int:=byName P S (λi=>- S.T i e) k+if S.free e=k then S.p else 0
def way_sum {S:Tb} (hn:Named P S) {e:Nat} (D:e<P.n) (f:Nat->Int):(sumN (P.n+P.m) λk=>wayN P S e k*f k)=S.p*f (S.free e) - sumN P.m λi=>S.T i e*f (S.kept i):=by
 have x:=byName_sum (P:=P) S (λi=>- S.T i e) (N:=P.n+P.m) hn.bound.2 f;have q:(sumN (P.n+P.m) λk=>(if S.free e=k then S.p else 0)*f k)=S.p*f (S.free e):=by
  rw[sumN_single (hn.bound.1 e D) λk _ o=>by rw[if_neg (qbC o),qbW],if_pos rfl]
 have H:(sumN (P.n+P.m) λk=>wayN P S e k*f k)=sumN (P.n+P.m) λk=>byName P S (λi=>- S.T i e) k*f k+(if S.free e=k then S.p else 0)*f k:=sumN_congr λk _=>by unfold wayN;rw[qee]
 rw[H,sumN_add,x,q];have e4:(sumN P.m λi=>- S.T i e*f (S.kept i))=- sumN P.m λi=>S.T i e*f (S.kept i):=by
  have:(sumN P.m λi=>- S.T i e*f (S.kept i))=sumN P.m λi=>(-1)*(S.T i e*f (S.kept i)):=sumN_congr λi _=>by rw[qdv,qdv,qc4]
  rw[this,sumN_mul];omega
 rw[e4];omega
def way_nonneg {S:Tb} (h:Good P S) {e:Nat} (B:∀ i,i<P.m->S.T i e<=0) (k:Nat):0<=wayN P S e k:=by
 unfold wayN
 have:=byName_nonneg (P:=P) (S:=S) (y:=λi=>- S.T i e) (λi d=>by have:=B i d;show 0<=- S.T i e;omega) k
 have:=h.pos
 split<;>omega
def way_rows {S:Tb} (h:Good P S) (hn:Named P S) {e:Nat} (D:e<P.n) (B:∀ i,i<P.m->S.T i e<=0) {r:Nat} (z:r<P.m):(sumN P.n λk=>wayN P S e k*P.A k r)<=0:=by
 have x:=way_sum (S:=S) hn D λk=>P.A k r;have q:=h.eq e (by omega) r;have c1:colV P S e=P.A (S.free e):=by unfold colV;rw[if_pos D]
 rw[c1]at q;rw[q,Int.sub_self,sumN_append]at x;have H:(sumN P.m λk=>wayN P S e (P.n+k)*P.A (P.n+k) r)=wayN P S e (P.n+r):=by
  rw[sumN_congr (g:=λk=>wayN P S e (P.n+k)*unit k r) λk w=>by rw[hn.one k w]];exact unit_sum (v:=λk=>wayN P S e (P.n+k)) z
 have:=way_nonneg h B (P.n+r)
 omega
def way_gains {S:Tb} (h:Good P S) (hn:Named P S) (hg:∀ r,r<P.m->P.g (P.n+r)=0) {e:Nat} (D:e<P.n) (O:S.G e<0):0<sumN P.n λk=>wayN P S e k*P.g k:=by
 have x:=way_sum (S:=S) hn D P.g;rw[sumN_append,sumN_congr (n:=P.m) (g:=λ_=>0) λk w=>by rw[hg k w,qa7],sumN_zero,qeD]at x;have q:=h.goal e (by omega);have g1:gainC P S e=P.g (S.free e):=by unfold gainC;rw[if_pos D]
 rw[g1]at q;have H:(sumN P.m λi=>S.T i e*P.g (S.kept i))=sumN P.m λi=>P.g (S.kept i)*S.T i e:=sumN_congr λi _=>qa1 _ _;rw[x,H];omega
def tb0 (P:Pb) (T:Nat->Nat->Int) (G:Nat->Int):Tb:=⟨1,λi=>P.n+i,λc=>c,T,G⟩
def good0 {T:Nat->Nat->Int}{G:Nat->Int} (X:∀ r,r<P.m->P.A (P.n+r)=unit r) (hA:∀ k,k<P.n->∀ t,P.m<=t->P.A k t=0) (hb:∀ t,P.m<=t->P.b t=0) (hg:∀ r,r<P.m->P.g (P.n+r)=0)
  (hT:∀ i c,i<P.m->c<P.n->T i c=P.A c i) (hL:∀ i,i<P.m->T i P.n=P.b i) (O:∀ c,c<P.n->G c=- P.g c) (W:G P.n=0):Good P (tb0 P T G)/\Named P (tb0 P T G)/\((∀ t,t<P.m->0<=P.b t)->Fe P (tb0 P T G)):=by
 have C:∀ i,i<P.m->basis P (tb0 P T G) i=unit i:=λi d=>X i d;have F:det P.m (basis P (tb0 P T G))=1:=by
  rw[det_congr P.m (E:=unit) λk t w _=>by rw[C k w],det_unit]
 have Q:∀ c,c<=P.n->∀ t,(1:Int)*colV P (tb0 P T G) c t=sumN P.m λi=>T i c*P.A (P.n+i) t:=λc A t=>by
  rw[qc4,sumN_congr (g:=λi=>T i c*unit i t) λi d=>by rw[X i d]];have K:∀ t',P.m<=t'->colV P (tb0 P T G) c t'=0:=λt' I=>by
   unfold colV;by_cases p:c<P.n
   ·rw[if_pos p];exact hA c p t' I
   ·rw[if_neg p];exact hb t' I
  by_cases B:t<P.m
  ·rw[unit_sum (v:=λi=>T i c) B]
   unfold colV;by_cases p:c<P.n
   ·rw[if_pos p,hT t c B p];rfl
   ·have:c=P.n:=by omega
    subst this;rw[if_neg p,hL t B]
  ·rw[K t (by omega),sumN_congr (g:=λ_=>0) λi d=>by unfold unit;rw[if_neg (by omega),qa7],sumN_zero]
 have u:Good P (tb0 P T G):=by
  refine⟨by show (0:Int)<1;decide,F.symm,Q,λc A=>?_⟩;show G c=(sumN P.m λi=>P.g (P.n+i)*T i c) - 1*gainC P (tb0 P T G) c;rw[sumN_congr (g:=λ_=>0) λi d=>by rw[hg i d,qbW],sumN_zero];unfold gainC;by_cases p:c<P.n
  ·rw[if_pos p,O c p]
   show - P.g c=0 - 1*P.g c;omega
  ·have:c=P.n:=by omega
   subst this;rw[if_neg p,W];rfl
 refine⟨u,⟨X,λk w=>?_,λc A=>by show c<_;omega,λi d=>by show P.n+i<_;omega⟩,λhbn i d=>?_⟩
 ·by_cases R:k<P.n
  ·exact .inl ⟨k,R,rfl⟩
  ·exact .inr ⟨k - P.n,by omega,by show P.n+(k - P.n)=k;omega⟩
 ·have l0:LV P (tb0 P T G) i 0=P.b i:=by
   have e:=u.entry (c:=P.n) (qar _) d;have c1:colV P (tb0 P T G) P.n=P.b:=by unfold colV;rw[if_neg (qa8 _)]
   rw[c1]at e;unfold LV XV;rw[if_pos rfl,<-e];exact hL i d
  have ls:∀ s,s<P.m->LV P (tb0 P T G) i (s+1)=if i=s then 1 else 0:=λs hs=>by
   have:=det_kept u d hs
   unfold LV XV;rw[if_neg (by omega),qcF,<-C s hs];exact this
  have hb0:=hbn i d;rcases qht hb0 with Y|Y
  ·exact⟨0,by omega,by rw[l0];exact Y,λl hl=>absurd hl (by omega)⟩
  ·refine⟨i+1,by omega,by rw[ls i d,if_pos rfl];decide,λl hl=>?_⟩
   cases l with
   |zero=>rw[l0,<-Y]
   |succ l=>rw[ls l (by omega),if_neg (by omega)]
end Sx
set_option maxHeartbeats 1000000
namespace Own
open PySem L2
open Sx (Pb Tb Good Named Fe LV ZV piv lexP leastR leaveL sumN unit colV basis)
def nC {e:Ef}{z:Int}{m:Nat}{env:Ev}{st s:Sto} (a:e env st=some (.d (.int z),s)) (c:0<=z) (g:z<=1000) (hm:z.toNat=m):bz (aa e ac) env st=some (bF 0 m,s):=by
 have hb:-(2^62)<=z/\z<2^62:=⟨qfv (by decide) c,Int.lt_of_le_of_lt g (by decide)⟩;have f:=ab (b:=ac) a rfl;simp only[bz,f,qaa,hb,and_self,if_true,hm]
def bg {f:Ef}{env:Ev}{st s:Sto}{ds:List D} (h:f env st=some (.d (.lst ds),s)):aC f env st=some (ds,s):=by
 simp only[aC,h,qaa]
def bM {f:Ef}{env:Ev}{st s:Sto}{ds:List D} (h:f env st=some (.d (.tup ds),s)):aC f env st=some (ds,s):=by
 simp only[aC,h,qaa]
def mV {c:Tf}{a b:Ef}{env:Ev}{st s:Sto}{r:Option (W×Sto)} (h:c env st=some (true,s)) (d:a env s=r):fP c a b env st=r:=by
 simp only[fP,h,qaa,if_true,d]
def qy {c:Tf}{a b:Ef}{env:Ev}{st s:Sto}{r:Option (W×Sto)} (h:c env st=some (false,s)) (hb:b env s=r):fP c a b env st=r:=by
 simp only[fP,h,qaa,qa0,if_false,hb]
def Cd (s:Sto) (ns:List Int):nJ s [.d (.lst (ns.map D.int))]=some (.int ns.sum):=by
 show (aW (ns.map D.int)).map (λns=>D.int ns.sum)=_;rw[bD];rfl
def dU (s:Sto) (a b:Int):dEq s (.d (.int a)) (.d (.int b))=some (.bl (a==b)):=by
 show ((eqK (.fl (.int a)) (.fl (.int b))).map λk=>D.bl k)=_;rfl
def Fi (s:Sto) (a b:Str):dEq s (.d (.str a)) (.d (.str b))=some (.bl (a==b)):=by
 show ((eqK (.fl (.str a)) (.fl (.str b))).map λk=>D.bl k)=_;rfl
def fM (s:Sto) {a b:List D} (h:a.length+b.length<=1000000):bh s (.d (.lst a)) (.d (.lst b))=some (.lst (a++b)):=if_pos h
def zX (s:Sto) {a b:List D} (h:a.length+b.length<=1000000):bh s (.d (.tup a)) (.d (.tup b))=some (.tup (a++b)):=if_pos h
def mpI (n:Nat) (f:Nat->Int):List D:=(qag n).map λk=>D.int (f k)
def lnD (n:Nat) (T:Nat->Nat->Int) (i:Nat):D:=.lst (mpI (n+1) (T i))
def aN (m n:Nat) (T:Nat->Nat->Int):List D:=(qag m).map (lnD n T)
def nI (f:Nat->Nat):Nat->Int:=λk=>((f k:Nat):Int)
abbrev obN:List Str:=["amounts","lines","goal","part","free","kept"]
def obD (P:Pb) (S:Tb):D:=.ob obN [.int (P.n:Int),.lst (aN P.m P.n S.T),.lst (mpI (P.n+1) S.G),.int S.p,.lst (mpI P.n (nI S.free)),.lst (mpI P.m (nI S.kept))]
def aA (n:Nat) (f:Nat->Int):(mpI n f).length=n:=by unfold mpI;rw[qah,qat]
def cE (m n:Nat) (T:Nat->Nat->Int):(aN m n T).length=m:=by unfold aN;rw[qah,qat]
def bj {n:Nat}{f:Nat->Int}{k:Nat} (h:k<n):(mpI n f)[k]?=some (.int (f k)):=by
 unfold mpI;rw[qaD,qbh h];rfl
def nX {m n:Nat}{T:Nat->Nat->Int}{k:Nat} (h:k<m):(aN m n T)[k]?=some (lnD n T k):=by
 unfold aN;rw[qaD,qbh h];rfl
def bL {n:Nat}{f g:Nat->Int} (h:∀ k,k<n->f k=g k):mpI n f=mpI n g:=by
 unfold mpI;refine qcg λk a=>?_;rw[h k (qaU.mp a)]
def nn (n:Nat) (f:Nat->Int):mpI (n+1) f=mpI n f++[.int (f n)]:=by
 unfold mpI;rw[qer,qbR];rfl
def bQ (n:Nat) (f:Nat->Int):mpI n f=((qag n).map f).map D.int:=by unfold mpI;rw[qaR];rfl
def rG (n:Nat) (f:Nat->Int):(mpI n f).all dc=true:=by
 rw[qba];intro d hd;obtain⟨k,_,rfl⟩:=qaX.mp hd;rfl
def gw {n:Nat}{f:Nat->Int}{k:Nat}{x:Int}:(mpI n f).set k (.int x)=mpI n λj=>if j=k then x else f j:=by
 apply qbw;intro j;by_cases a:j<n
 ·rw[bj a]
  by_cases e:j=k
  ·subst e;rw[if_pos rfl,qbj (by rw[aA];exact a)]
  ·rw[if_neg e,qbx (qbC e),bj a]
 ·rw[qaJ (by rw[qb2,aA];lia),qaJ (by rw[aA];lia)]
def eY (st:Sto) {n:Nat}{f:Nat->Int}{k:Nat} (h:k<n):dIx st (.d (.lst (mpI n f))) (.d (.int (k:Int)))=some (.int (f k)):=bW (bj h)
def s0 (st:Sto) {m n:Nat}{T:Nat->Nat->Int}{k:Nat} (h:k<m):dIx st (.d (.lst (aN m n T))) (.d (.int (k:Int)))=some (lnD n T k):=bW (nX h)
def sP (st:Sto) {n:Nat}{T:Nat->Nat->Int}{i c:Nat} (h:c<=n):dIx st (.d (lnD n T i)) (.d (.int (c:Int)))=some (.int (T i c)):=eY st (by lia)
def vJ (st:Sto) {n:Nat}{T:Nat->Nat->Int}{i:Nat}:dIx st (.d (lnD n T i)) (.d (.int (-1)))=some (.int (T i n)):=by
 show atI (mpI (n+1) (T i)) (-1)=_;rw[nn];exact yS _ _
section
variable {P:Pb}{S:Tb}{a:Ef}{env:Ev}{st s:Sto}
def cj (h:a env st=some (.d (obD P S),s)):ao "amounts" a env st=some (.d (.int (P.n:Int)),s):=by simp only[ao,h,qaa,obD];rfl
def cP (h:a env st=some (.d (obD P S),s)):ao "lines" a env st=some (.d (.lst (aN P.m P.n S.T)),s):=by simp only[ao,h,qaa,obD];rfl
def mH (h:a env st=some (.d (obD P S),s)):ao "goal" a env st=some (.d (.lst (mpI (P.n+1) S.G)),s):=by simp only[ao,h,qaa,obD];rfl
def mB (h:a env st=some (.d (obD P S),s)):ao "part" a env st=some (.d (.int S.p),s):=by simp only[ao,h,qaa,obD];rfl
def mI (h:a env st=some (.d (obD P S),s)):ao "free" a env st=some (.d (.lst (mpI P.n (nI S.free))),s):=by simp only[ao,h,qaa,obD];rfl
def rg (h:a env st=some (.d (obD P S),s)):ao "kept" a env st=some (.d (.lst (mpI P.m (nI S.kept))),s):=by simp only[ao,h,qaa,obD];rfl
end
def ig {te:Ef}{l:Ev}{st:Sto}{g:Nat->D} (F:Nat->D):∀ {ks:List Nat},(∀ k∈ks,te (some (.d (g k))::l) st=some (.d (F k),st))->lcI (.nm 0) aL te (none::l) (ks.map g) st=some (ks.map F,st)
 |[],_=>rfl
 |k::ks,h=>by
  have b:=ig (te:=te) (l:=l) (st:=st) (g:=g) F (ks:=ks) λx a=>h x (qal _ a);have c:=h k qaf;rw[qaq,qaq];unfold lcI;rw[show cB (.nm 0) (.d (g k)) (none::l)=some (some (.d (g k))::l) from rfl,qaa,show aL (some (.d (g k))::l) st=some (true,st) from rfl,qaa,if_pos rfl,c,qaa,b];rfl
def Sm (z:Int):Prop:=z.natAbs<2^4000
def mulOk {a b:Int} (x y:Nat) (c:a.natAbs<2^x) (hb:b.natAbs<2^y) (h:x+y<=134217728):qbo a b:=
 qie (qgx.mpr c) (qgx.mpr hb) h
def CO {a b:Int}{x y:Nat} (c:a.natAbs<2^x) (hb:b.natAbs<2^y):(a*b).natAbs<2^(x+y):=by
 rw[qc1,qhd];exact Nat.mul_lt_mul'' c hb
def Sm.mulOk {a b:Int} (c:Sm a) (hb:Sm b):qbo a b:=Own.mulOk 4000 4000 c hb (by decide)
def cF (st:Sto) {a b:Int} (h:qbo a b):bb st (.d (.int a)) (.d (.int b))=some (.int (a*b)):=if_pos h
def Sm.log {a:Int} (h:Sm a):a.natAbs.log2<9000:=by
 by_cases b:a.natAbs=0
 ·rw[b];decide
 ·have:=(Nat.log2_lt b).mpr h
  lia
def qz (st:Sto) {a b:Int} (c:0<b) (h:Sm b):mm st (.d (.int a)) (.d (.int b))=some (.int (a / b)):=if_pos ⟨c,h.log⟩
end Own
set_option maxHeartbeats 1000000
namespace Own
open PySem L2
open Sx (Pb Tb Good Named Fe LV ZV piv lexP leastR leaveL sumN unit colV basis)
def fY {a b:Sf}{env:Ev}{st s:Sto}{w:W} (h:a env st=some (.rt w s)):ah a b env st=some (.rt w s):=by simp only[ah,h,qaa]
def ai {a b:Sf}{env e:Ev}{st s:Sto}{r:Option Fl} (h:a env st=some (.nx e s)) (hb:b e s=r):ah a b env st=r:=by simp only[ah,h,qaa,hb]
def dq {c:Tf}{a b:Sf}{env:Ev}{st s:Sto}{r:Option Fl} (h:c env st=some (true,s)) (d:a env s=r):aY c a b env st=r:=by simp only[aY,h,qaa,if_true,d]
def bA {c:Tf}{a b:Sf}{env:Ev}{st s:Sto}{r:Option Fl} (h:c env st=some (false,s)) (hb:b env s=r):aY c a b env st=r:=by simp only[aY,h,qaa,qa0,if_false,hb]
def GC {o a:Ef}{env:Ev}{st s1 e:Sto}{n:Nat}{d:D}{c ds:List D} (f:o env st=some (.h n,s1)) (j:a env s1=some (.d d,e)) (i:lg s1 n=some c) (hg:lg e n=some ds) (k:ds.length<1000000):kO (ny gM o (aa a ac)) env st=some (.nx env (e.set n (.l (ds++[d])))):=by
 have g:=ab (b:=ac) j rfl;simp only[kO,ny,f,g,i,hg,gM,k,if_true,qaa,qai]
def nO (st:Sto) (a b:C):(st++[a]).set st.length b=st++[b]:=by
 rw[List.set_append];simp
structure Okt (P:Pb) (S:Tb):Prop where
 good:Good P S
 named:Named P S
 m64:P.m<=100
 n64:P.n<=100
 sT:∀ i c,i<P.m->c<=P.n->Sm (S.T i c)
 sL:∀ i s,i<P.m->s<=P.m->Sm (LV P S i s)
 sG:∀ c,c<=P.n->Sm (S.G c)
 sp:Sm S.p
def psD (ps:List Nat):List D:=ps.map λk=>D.int ((k:Nat):Int)
def vA (ps:List Nat):(psD ps).length=ps.length:=by unfold psD;rw[qah]
def mC {n k:Nat}{b:Sf}{ws:List W}{st s:Sto}{h:Nat}{ds:List D} (a:ws.length=k) (hb:b (ws.map some++qaz (n - k) none) st=some (.rt (.h h) s)) (c:st.length<=h) (hd:lg s h=some ds):gy n k b ws st=some (.d (.lst ds),s.take st.length):=by
 simp only[gy,a,if_true,hb,qaa,w6,if_neg (qhC.mpr c),hd,qai]
def v4 {st u:Sto}{h:Nat}{c:C} (a:st.length<=h):(st++u).set h c=st++u.set (h - st.length) c:=by
 rw[qdx _ _ a]
def CK {s:Sto}{h:Nat}{ds es:List D} (hg:lg s h=some ds):lg (s.set h (.l es)) h=some es:=by
 have:=(qas.mp (vq hg)).1
 unfold lg;rw[qbj this]
def i9 (s:Sto) (ds:List D):lg (s++[.l ds]) s.length=some ds:=by unfold lg;simp
def Cc (s:Sto) {h:Nat}{ds:List D} (hg:lg s h=some ds):db s (.h h)=some (!ds.isEmpty):=by
 show (cx s (.h h)).map _=_;show (lg s h).map _=_;rw[hg];rfl
def EQ (s:Sto) {h:Nat}{d:D}{ds:List D} (hg:lg s h=some (d::ds)):dIx s (.h h) (.d (.int 0))=some d:=by
 show (lg s h).bind (λds=>atI ds 0)=_;rw[hg,qaa,yQ]
def zL (s:Sto) (a b:Int):dLt s (.d (.int a)) (.d (.int b))=some (.bl (decide (a<b))):=rfl
def CN (s:Sto) (a b:Int):dGt s (.d (.int a)) (.d (.int b))=some (.bl (decide (a > b))):=rfl
def FG (s:Sto) (a b:Int):dGe s (.d (.int a)) (.d (.int b))=some (.bl (decide (a>=b))):=rfl
section
variable {tops bots:Nat->Int}{m:Nat}{st:Sto}{x0:Option W}
def kH (H:∀ i,i<m->Sm (tops i)) (hb:∀ i,i<m->Sm (bots i)):∀ (ps least:List Nat) (u:Sto) (h:Nat) (N f c:Option W),(∀ x∈ps,x<m)->(∀ x∈least,x<m)->lg (st++u) h=some (psD least)->st.length<=h->least.length+ps.length<=1000->
  ∃ y h' q g j,cK (.nm 4) aU (psD ps) [x0,some (.d (.lst (mpI m tops))),some (.d (.lst (mpI m bots))),some (.h h),N,f,c] (st++u)=some (.nx [x0,some (.d (.lst (mpI m tops))),some (.d (.lst (mpI m bots))),some (.h h'),q,g,j] (st++y))/\
   lg (st++y) h'=some (psD (leastR tops bots ps least))/\st.length<=h'
 |[],least,u,h,N,f,c,_,_,hg,A,_=>⟨u,h,N,f,c,rfl,by rw[leastR];exact hg,A⟩
 |p::ps,least,u,h,N,f,c,S,T,hg,A,L=>by
  have t:p<m:=S p qaf;have F:∀ x∈ps,x<m:=λx D=>S x (qal _ D);rw[qam]at L;have R:∀ f c P,cB (.nm 4) (.d (.int ((p:Nat):Int))) [x0,some (.d (.lst (mpI m tops))),some (.d (.lst (mpI m bots))),some (.h P),N,f,c]=some [x0,some (.d (.lst (mpI m tops))),some (.d (.lst (mpI m bots))),some (.h P),some (.d (.int ((p:Nat):Int))),f,c]:=λ_ _ _=>rfl;have J:∀ (u:Sto) (h:Nat) (ls:List Nat) (f c:Option W),lg (st++u) h=some (psD ls)->st.length<=h->ls.length<1000->kO (ny gM (iV 3) (aa (iV 4) ac)) [x0,some (.d (.lst (mpI m tops))),some (.d (.lst (mpI m bots))),some (.h h),some (.d (.int ((p:Nat):Int))),f,c] (st++u)=some (.nx [x0,some (.d (.lst (mpI m tops))),some (.d (.lst (mpI m bots))),some (.h h),some (.d (.int ((p:Nat):Int))),f,c] (st++u.set (h - st.length) (.l (psD (ls++[p])))))/\lg (st++u.set (h - st.length) (.l (psD (ls++[p])))) h=some (psD (ls++[p])):=λu h ls f c hg A T=>by
   have e:=GC (o:=iV 3) (a:=iV 4) (env:=[x0,some (.d (.lst (mpI m tops))),some (.d (.lst (mpI m bots))),some (.h h),some (.d (.int ((p:Nat):Int))),f,c]) (st:=st++u) (n:=h) (d:=.int ((p:Nat):Int)) rfl rfl hg hg (by rw[vA];lia);have e2:psD ls++[.int ((p:Nat):Int)]=psD (ls++[p]):=by unfold psD;rw[qbR];rfl
   rw[e2,v4 A]at e;refine⟨e,?_⟩;rw[<-v4 A];exact CK hg
  cases least with
  |nil=>
   have O:cJ db (iV 3) [x0,some (.d (.lst (mpI m tops))),some (.d (.lst (mpI m bots))),some (.h h),some (.d (.int ((p:Nat):Int))),f,c] (st++u)=some (false,st++u):=by
    have:=Cc (st++u) hg
    simp only[cJ,show iV 3 [x0,some (.d (.lst (mpI m tops))),some (.d (.lst (mpI m bots))),some (.h h),some (.d (.int ((p:Nat):Int))),f,c] (st++u)=some (.h h,st++u) from rfl,qaa,this];rfl
   obtain⟨a1,a2⟩:=J u h [] f c hg A (by decide);obtain⟨y,h',q,g,j,E,G,i3⟩:=kH H hb ps [p] _ h (some (.d (.int ((p:Nat):Int)))) f c F (λx D=>by rw[qap.mp D];exact t) a2 A (by simp at L ⊢;lia);refine⟨y,h',q,g,j,?_,by rw[leastR];exact G,i3⟩;have v:aU [x0,some (.d (.lst (mpI m tops))),some (.d (.lst (mpI m bots))),some (.h h),some (.d (.int ((p:Nat):Int))),f,c] (st++u)=_:=ai (bA O rfl) a1;show cK (.nm 4) aU (.int ((p:Nat):Int)::psD ps) _ _=_;simp only[cK,R,qaa,v];exact E
  |cons w r=>
   have C:w<m:=T w qaf;have O:cJ db (iV 3) [x0,some (.d (.lst (mpI m tops))),some (.d (.lst (mpI m bots))),some (.h h),some (.d (.int ((p:Nat):Int))),f,c] (st++u)=some (true,st++u):=by
    have:=Cc (st++u) hg
    simp only[cJ,show iV 3 [x0,some (.d (.lst (mpI m tops))),some (.d (.lst (mpI m bots))),some (.h h),some (.d (.int ((p:Nat):Int))),f,c] (st++u)=some (.h h,st++u) from rfl,qaa,this];rfl
   have i0:∀ f c,iOp dIx (iV 3) (iC (.int 0)) [x0,some (.d (.lst (mpI m tops))),some (.d (.lst (mpI m bots))),some (.h h),some (.d (.int ((p:Nat):Int))),f,c] (st++u)=some (.d (.int ((w:Nat):Int)),st++u):=λ_ _=>ae rfl rfl (EQ (st++u) hg);have V:az (.nm 5) (iOp bb (iOp dIx (iV 1) (iV 4)) (iOp dIx (iV 2) (iOp dIx (iV 3) (iC (.int 0))))) [x0,some (.d (.lst (mpI m tops))),some (.d (.lst (mpI m bots))),some (.h h),some (.d (.int ((p:Nat):Int))),f,c] (st++u)=some (.nx [x0,some (.d (.lst (mpI m tops))),some (.d (.lst (mpI m bots))),some (.h h),some (.d (.int ((p:Nat):Int))),some (.d (.int (tops p*bots w))),c] (st++u)):=
    aq (ae (ae rfl rfl (eY _ t)) (ae rfl (i0 _ _) (eY _ C)) (cF _ (Sm.mulOk (H p t) (hb w C))))
   have s6:az (.nm 6) (iOp bb (iOp dIx (iV 1) (iOp dIx (iV 3) (iC (.int 0)))) (iOp dIx (iV 2) (iV 4))) [x0,some (.d (.lst (mpI m tops))),some (.d (.lst (mpI m bots))),some (.h h),some (.d (.int ((p:Nat):Int))),some (.d (.int (tops p*bots w))),c] (st++u)=some (.nx [x0,some (.d (.lst (mpI m tops))),some (.d (.lst (mpI m bots))),some (.h h),some (.d (.int ((p:Nat):Int))),some (.d (.int (tops p*bots w))),some (.d (.int (tops w*bots p)))] (st++u)):=
    aq (ae (ae rfl (i0 _ _) (eY _ C)) (ae rfl rfl (eY _ t)) (cF _ (Sm.mulOk (H w C) (hb p t))))
   generalize hM:tops p*bots w=M at *;generalize X:tops w*bots p=B at *;have Q:aE dGt (iV 5) (iV 6) [x0,some (.d (.lst (mpI m tops))),some (.d (.lst (mpI m bots))),some (.h h),some (.d (.int ((p:Nat):Int))),some (.d (.int M)),some (.d (.int B))] (st++u)=some (decide (M > B),st++u):=ay rfl rfl (CN _ _ _);have tl:aE dLt (iV 5) (iV 6) [x0,some (.d (.lst (mpI m tops))),some (.d (.lst (mpI m bots))),some (.h h),some (.d (.int ((p:Nat):Int))),some (.d (.int M)),some (.d (.int B))] (st++u)=some (decide (M<B),st++u):=ay rfl rfl (zL _ _ _);by_cases c1:M > B
   ·rw[decide_eq_true c1]at Q
    obtain⟨y,h',q,g,j,E,G,i3⟩:=kH H hb ps (w::r) u h (some (.d (.int ((p:Nat):Int)))) (some (.d (.int M))) (some (.d (.int B))) F T hg A (by lia);refine⟨y,h',q,g,j,?_,by rw[leastR,hM,X,if_pos c1];exact G,i3⟩;have v:aU [x0,some (.d (.lst (mpI m tops))),some (.d (.lst (mpI m bots))),some (.h h),some (.d (.int ((p:Nat):Int))),f,c] (st++u)=some (.ct [x0,some (.d (.lst (mpI m tops))),some (.d (.lst (mpI m bots))),some (.h h),some (.d (.int ((p:Nat):Int))),some (.d (.int M)),some (.d (.int B))] (st++u)):=by
     have K:aY (cJ db (iV 3)) (ah (az (.nm 5) (iOp bb (iOp dIx (iV 1) (iV 4)) (iOp dIx (iV 2) (iOp dIx (iV 3) (iC (.int 0)))))) (ah (az (.nm 6) (iOp bb (iOp dIx (iV 1) (iOp dIx (iV 3) (iC (.int 0)))) (iOp dIx (iV 2) (iV 4)))) (ah (aY (aE dGt (iV 5) (iV 6)) pV aO) (aY (aE dLt (iV 5) (iV 6)) (az (.nm 3) (dh (bR ac))) aO)))) aO [x0,some (.d (.lst (mpI m tops))),some (.d (.lst (mpI m bots))),some (.h h),some (.d (.int ((p:Nat):Int))),f,c] (st++u)=some (.ct [x0,some (.d (.lst (mpI m tops))),some (.d (.lst (mpI m bots))),some (.h h),some (.d (.int ((p:Nat):Int))),some (.d (.int M)),some (.d (.int B))] (st++u)):=by
      refine dq O (ai V (ai s6 ?_))
      have:=dq (a:=pV) (b:=aO) Q rfl
      simp only[ah,this];rfl
     show ah _ _ _ _=_;simp only[ah,K];rfl
    show cK (.nm 4) aU (.int ((p:Nat):Int)::psD ps) _ _=_;simp only[cK,R,qaa,v];exact E
   ·rw[decide_eq_false c1]at Q
    by_cases c2:M<B
    ·rw[decide_eq_true c2]at tl
     have hn:lg (st++(u++[.l []])) (st++u).length=some (psD []):=by rw[<-qcx];exact i9 _ _
     have I:st.length<=(st++u).length:=by rw[qaB];lia
     obtain⟨a1,a2⟩:=J (u++[.l []]) (st++u).length [] (some (.d (.int M))) (some (.d (.int B))) hn I (by decide);obtain⟨y,h',q,g,j,E,G,i3⟩:=kH H hb ps [p] _ (st++u).length (some (.d (.int ((p:Nat):Int)))) (some (.d (.int M))) (some (.d (.int B))) F (λx D=>by rw[qap.mp D];exact t) a2 I (by simp at L ⊢;lia);refine⟨y,h',q,g,j,?_,by rw[leastR,hM,X,if_neg c1,if_pos c2];exact G,i3⟩;have sn:az (.nm 3) (dh (bR ac)) [x0,some (.d (.lst (mpI m tops))),some (.d (.lst (mpI m bots))),some (.h h),some (.d (.int ((p:Nat):Int))),some (.d (.int M)),some (.d (.int B))] (st++u)=some (.nx [x0,some (.d (.lst (mpI m tops))),some (.d (.lst (mpI m bots))),some (.h (st++u).length),some (.d (.int ((p:Nat):Int))),some (.d (.int M)),some (.d (.int B))] (st++(u++[.l []]))):=by rw[<-qcx];rfl
     have v:aU [x0,some (.d (.lst (mpI m tops))),some (.d (.lst (mpI m bots))),some (.h h),some (.d (.int ((p:Nat):Int))),f,c] (st++u)=_:=ai (dq O (ai V (ai s6 (ai (bA Q rfl) (dq tl sn))))) a1;show cK (.nm 4) aU (.int ((p:Nat):Int)::psD ps) _ _=_;simp only[cK,R,qaa,v];exact E
    ·rw[decide_eq_false c2]at tl
     obtain⟨a1,a2⟩:=J u h (w::r) (some (.d (.int M))) (some (.d (.int B))) hg A (by rw[qam]at L ⊢;lia)
     obtain⟨y,h',q,g,j,E,G,i3⟩:=kH H hb ps ((w::r)++[p]) _ h (some (.d (.int ((p:Nat):Int)))) (some (.d (.int M))) (some (.d (.int B))) F (λx D=>by
      rcases qaY.mp D with z|z
      ·exact T x z
      ·rw[qap.mp z];exact t) a2 A (by rw[qaB,qcj];lia)
     refine⟨y,h',q,g,j,?_,by rw[leastR,hM,X,if_neg c1,if_neg c2];exact G,i3⟩;have v:aU [x0,some (.d (.lst (mpI m tops))),some (.d (.lst (mpI m bots))),some (.h h),some (.d (.int ((p:Nat):Int))),f,c] (st++u)=_:=ai (dq O (ai V (ai s6 (ai (bA Q rfl) (bA tl rfl))))) a1;show cK (.nm 4) aU (.int ((p:Nat):Int)::psD ps) _ _=_;simp only[cK,R,qaa,v];exact E
def FM (H:∀ i,i<m->Sm (tops i)) (hb:∀ i,i<m->Sm (bots i)) {ps:List Nat} (S:∀ x∈ps,x<m) (L:ps.length<=1000):fO [.d (.lst (psD ps)),.d (.lst (mpI m tops)),.d (.lst (mpI m bots))] st=some (.d (.lst (psD (leastR tops bots ps []))),st):=by
 obtain⟨y,h',q,g,j,E,G,i3⟩:=kH (st:=st) (x0:=some (.d (.lst (psD ps)))) H hb ps [] [.l []] st.length none none none S (λx D=>nomatch D) (i9 st []) (qar _) (by simpa using L)
 have Y:aC (iV 0) [some (.d (.lst (psD ps))),some (.d (.lst (mpI m tops))),some (.d (.lst (mpI m bots))),some (.h st.length),none,none,none] (st++[.l []])=some (psD ps,st++[.l []]):=rfl
 have:=mC (n:=7) (k:=3) (b:=jF) (ws:=[.d (.lst (psD ps)),.d (.lst (mpI m tops)),.d (.lst (mpI m bots))]) (st:=st) (h:=h') rfl (ai (s:=st++[.l []]) (e:=[some (.d (.lst (psD ps))),some (.d (.lst (mpI m tops))),some (.d (.lst (mpI m bots))),some (.h st.length),none,none,none]) rfl (ai (bE Y E) rfl)) i3 G
 rw[qdu]at this;exact this
end
end Own
set_option maxHeartbeats 1000000
namespace Own
open PySem L2
open Sx (Pb Tb Good Named Fe LV ZV piv lexP leastR leaveL sumN unit colV basis)
def vm (s:Sto) (i:Int):iL s (.d (.int i)) (.d .non)=some (.bl false):=rfl
def rn (s:Sto):iL s (.d .non) (.d .non)=some (.bl true):=rfl
def Ah (s:Sto) (l:List D):iL s (.d (.tup l)) (.d .non)=some (.bl false):=rfl
def bH (n:Nat):Nat->D
 |0=>.non
 |r+1=>.int (((n+r:Nat)):Int)
def xo (n m:Nat):D.non::bF (n:Int) m=(qag (m+1)).map (bH n):=by
 rw[qdk,qaq,qaR];show _=D.non::_;unfold bF
 congr 1
def kQ (st:Sto) (ds:List D):aX st [.d (.lst ds)]=some (.int (ds.length:Nat)):=rfl
def n5 {P:Pb}{S:Tb}{st:Sto} (h:Okt P S):eh [.d (obD P S)] st=some (.d (.lst ((qag (P.m+1)).map (bH P.n))),st):=by
 have hm:=h.m64;have hn:=h.n64;have a:iV 0 [some (.d (obD P S))] st=some (.d (obD P S),st):=rfl;have a1:=cj (P:=P) (S:=S) a;have a2:=cP (P:=P) (S:=S) a;refine aB (n:=1) (k:=1) (b:=pE) rfl (aP (ae (x:=.d (.lst [.non])) (y:=.d (.lst (bF (P.n:Int) P.m))) (s1:=st) rfl (aD ?_) ?_))
 ·show qq _ [some (.d (obD P S))] st=_
  have e:aa (ao "amounts" (iV 0)) (aa (iOp bh (ao "amounts" (iV 0)) (iCB aX (aa (ao "lines" (iV 0)) ac))) ac) [some (.d (obD P S))] st=some ([.d (.int (P.n:Int)),.d (.int ((P.n:Int)+(P.m:Int)))],st):=by
   refine ab a1 (ab (ae a1 (aV (ab a2 rfl) (kQ _ _)) ?_) rfl);rw[cE];rfl
  simp only[qq,e,qaa];rw[if_pos (by lia),show ((P.n:Int)+(P.m:Int) - (P.n:Int)).toNat=P.m by lia]
 ·rw[<-xo]
  exact fM st (by rw[cg];simp;lia)
def DO {n k:Nat}{f:Nat->Nat}:inD (.int (k:Int)) (mpI n (nI f))=decide (∃ c,c<n/\f c=k):=by
 rw[qb4];unfold inD mpI;rw[List.any_map,qfq,decide_eq_true_eq];constructor
 ·rintro⟨c,a,e⟩
  refine⟨c,qaU.mp a,?_⟩;have e:(((f c:Nat):Int)==(k:Int))=true:=e
  have:=beq_iff_eq.mp e
  lia
 ·rintro⟨c,a,e⟩
  refine⟨c,qaU.mpr a,?_⟩;show (((f c:Nat):Int)==(k:Int))=true;rw[e];exact beq_self_eq_true _
def CG {n k:Nat}{f:Nat->Nat} (h:∃ c,c<n/\f c=k):∃ c,c<n/\f c=k/\((qag n).map (nI f)).idxOf? (k:Int)=some c:=by
 obtain⟨c,d,e⟩:=h;cases q:((qag n).map (nI f)).idxOf? (k:Int) with
 |none=>
  have:=List.idxOf?_eq_none_iff.mp q
  exact absurd (qaX.mpr ⟨c,qaU.mpr d,by unfold nI;rw[e]⟩) this
 |some j=>
  obtain⟨b,a,_⟩:=qgh.mp q;rw[qah,qat]at b;refine⟨j,b,?_,rfl⟩;rw[qhH,qhg]at a;have a:((f j:Nat):Int)=(k:Int):=a;lia
def iy {P:Pb}{S:Tb} (h:Good P S) {i j:Nat} (d:i<P.m) (f:j<P.m) (e:S.kept i=S.kept j):i=j:=by
 rcases Nat.decEq i j with a|b
 ·exfalso
  have c:=Sx.det_eq0 (basis P S) d f a (by unfold basis;rw[e])
  have:=h.pos
  rw[h.dt,c]at this;exact absurd this (by decide)
 ·exact b
def B2 {P:Pb}{S:Tb}{st:Sto} (h:Okt P S) {s:Nat} (I:s<=P.m):cO [.d (obD P S),.d (bH P.n s)] st=some (.d (.lst (mpI P.m λi=>LV P S i s)),st):=by
 have hg:=h.good;have hm:=h.m64;have hn:=h.n64;cases s with
 |zero=>
  have e:mpI P.m (λi=>LV P S i 0)=mpI P.m λi=>S.T i P.n:=bL λi l=>by
   have e:=hg.entry (c:=P.n) (qar _) l;have c1:colV P S P.n=P.b:=by unfold Sx.colV;rw[if_neg (qa8 _)]
   rw[c1]at e;unfold LV Sx.XV;rw[if_pos rfl,<-e]
  rw[e];have a2:=cP (P:=P) (S:=S) (env:=[some (.d (obD P S)),some (.d .non),none]) (st:=st) (a:=iV 0) rfl;refine aB (n:=3) (k:=2) (b:=gO) rfl (fY (dq (s:=st) (ay (x:=.d .non) rfl rfl (rn st)) (aP (aD (aZ (bg a2) (by rw[cE];lia) ?_)))));exact ig (g:=lnD P.n S.T) (λi=>D.int (S.T i P.n)) λi _=>ae rfl rfl (vJ st)
 |succ r=>
  have w:r<P.m:=by lia
  have v:∀ o,iV 0 [some (.d (obD P S)),some (.d (.int ((P.n+r:Nat):Int))),o] st=some (.d (obD P S),st):=λ_=>rfl;have y:=mI (P:=P) (S:=S) (v none);have m:Sx.XV P (r+1)=unit r:=by unfold Sx.XV;rw[if_neg (by lia),qcF]
  have tI:aE dIn (iV 1) (ao "free" (iV 0)) [some (.d (obD P S)),some (.d (.int ((P.n+r:Nat):Int))),none] st=some (decide (∃ c,c<P.n/\S.free c=P.n+r),st):=by
   refine ay rfl y ?_;simp only[dIn,cx,dc,rG,qaa,and_self,if_true,DO]
  have F:aE iL (iV 1) (iC .non) [some (.d (obD P S)),some (.d (.int ((P.n+r:Nat):Int))),none] st=some (false,st):=ay rfl rfl (vm st _);refine aB (n:=3) (k:=2) (b:=gO) rfl (ai (bA F rfl) ?_);by_cases t:∃ c,c<P.n/\S.free c=P.n+r
  ·rw[decide_eq_true t]at tI
   obtain⟨c,E,G,p⟩:=CG t;have e:mpI P.m (λi=>LV P S i (r+1))=mpI P.m λi=>S.T i c:=bL λi l=>by
    have e:=hg.entry (c:=c) (by lia) l;have c1:colV P S c=unit r:=by unfold Sx.colV;rw[if_pos E,G,h.named.one r w]
    rw[c1]at e;unfold LV;rw[m,<-e]
   rw[e];have C:az (.nm 2) (zM (ao "free" (iV 0)) (aa (iV 1) ac)) [some (.d (obD P S)),some (.d (.int ((P.n+r:Nat):Int))),none] st=some (.nx [some (.d (obD P S)),some (.d (.int ((P.n+r:Nat):Int))),some (.d (.int (c:Int)))] st):=by
    refine aq ?_;have B:aW (mpI P.n (nI S.free))=some ((qag P.n).map (nI S.free)):=by rw[bQ];exact bD _
    simp only[zM,y,qaa,show aa (iV 1) ac [some (.d (obD P S)),some (.d (.int ((P.n+r:Nat):Int))),none] st=some ([.d (.int ((P.n+r:Nat):Int))],st) from rfl,B];rw[if_pos (by rw[qah,qat];lia),p];rfl
   have a2:=cP (P:=P) (S:=S) (v (some (.d (.int (c:Int)))));refine fY (dq tI (ai C (aP (aD (aZ (bg a2) (by rw[cE];lia) ?_)))));exact ig (g:=lnD P.n S.T) (λi=>D.int (S.T i c)) λi _=>ae rfl rfl (sP st (by lia))
  ·rw[decide_eq_false t]at tI
   obtain⟨j,A,u⟩:∃ j,j<P.m/\S.kept j=P.n+r:=(h.named.all (P.n+r) (by lia)).elim (λz=>absurd z t) id;have e:mpI P.m (λi=>LV P S i (r+1))=mpI P.m λi=>if S.kept i=P.n+r then S.p else 0:=bL λi l=>by
    have e:=Sx.det_kept hg l A;have c1:basis P S j=unit r:=by unfold Sx.basis;rw[u,h.named.one r w]
    rw[c1]at e;unfold LV;rw[m,e];by_cases f:i=j
    ·rw[if_pos f,if_pos (by rw[f];exact u)]
    ·rw[if_neg f,if_neg λz=>f (iy hg l A (z.trans u.symm))]
   rw[e];have a2:=rg (P:=P) (S:=S) (v none);refine ai (bA tI rfl) (aP (aD (aZ (bg a2) (by rw[aA];lia) ?_)));refine ig (g:=λi=>D.int (nI S.kept i)) (λi=>D.int (if S.kept i=P.n+r then S.p else 0)) λi _=>?_;have H:=mB (P:=P) (S:=S) (env:=[some (.d (.int (nI S.kept i))),some (.d (.int ((P.n+r:Nat):Int))),some (.d (obD P S))]) (st:=st) (a:=iV 2) rfl;have te:aE dEq (iV 0) (iV 1) [some (.d (.int (nI S.kept i))),some (.d (.int ((P.n+r:Nat):Int))),some (.d (obD P S))] st=some (decide (S.kept i=P.n+r),st):=by
    refine ay rfl rfl ?_;rw[dU]
    congr 2
    rw[qb4,beq_iff_eq,decide_eq_true_eq];unfold nI;lia
   by_cases q:S.kept i=P.n+r
   ·rw[decide_eq_true q]at te
    rw[if_pos q];exact mV te H
   ·rw[decide_eq_false q]at te
    rw[if_neg q];exact qy te rfl
def v5 (m:Nat) (f:Nat->Int):cm 0 (mpI m f)=(qag m).map λi=>D.tup [.int ((i:Nat):Int),.int (f i)]:=by
 apply qbw;intro i;rw[ef,qaD];by_cases a:i<m
 ·rw[bj a,qbh a,qaT];rfl
 ·rw[qaJ (by rw[aA];lia),qaJ (by rw[qat];lia)];rfl
def ud {tt:Tf}{te:Ef}{l:Ev}{st:Sto}{g:Nat->D×D} (p:Nat->Bool) (F:Nat->D):∀ {ks:List Nat},(∀ k∈ks,tt (some (.d (g k).1)::some (.d (g k).2)::l) st=some (p k,st)/\(p k=true->te (some (.d (g k).1)::some (.d (g k).2)::l) st=some (.d (F k),st)))->
  lcI (.tp [0,1]) tt te (none::none::l) (ks.map λk=>D.tup [(g k).1,(g k).2]) st=some ((ks.filter p).map F,st)
 |[],_=>rfl
 |k::ks,h=>by
  have a:=ud (tt:=tt) (te:=te) (l:=l) (st:=st) (g:=g) p F (ks:=ks) λx b=>h x (qal _ b);obtain⟨e,c⟩:=h k qaf;rw[qaq];unfold lcI;rw[show cB (.tp [0,1]) (.d (.tup [(g k).1,(g k).2])) (none::none::l)=some (some (.d (g k).1)::some (.d (g k).2)::l) from rfl,qaa,e,qaa];cases hp:p k with
  |true=>rw[if_pos rfl,c hp,qaa,a,qd8 hp];rfl
  |false=>rw[if_neg (show ¬ (false=true) by decide),a,qd9 (by rw[hp];decide)]
def ii (P:Pb) (S:Tb) (c:Nat):List Nat:=(qag P.m).filter λi=>decide (S.T i c > 0)
def hU (P:Pb) (S:Tb) (c:Nat):List Nat:=leaveL (λs i=>LV P S i s) (λi=>S.T i c) (qag (P.m+1)) (ii P S c)
def eG {tops bots:Nat->Int}{m:Nat}:∀ {ps least:List Nat},(∀ x∈ps,x<m)->(∀ x∈least,x<m)->(∀ x∈leastR tops bots ps least,x<m)/\(leastR tops bots ps least).length<=ps.length+least.length
 |[],least,_,h=>by rw[leastR];exact⟨h,by simp⟩
 |p::ps,[],d,_=>by
  rw[leastR]
  have:=eG (tops:=tops) (bots:=bots) (ps:=ps) (least:=[p]) (λx a=>d x (qal _ a)) λx a=>by rw[qap.mp a];exact d p qaf
  exact⟨this.1,by have:=this.2;simp at this ⊢;lia⟩
 |p::ps,f::r,d,e=>by
  have b:∀ x∈ps,x<m:=λx a=>d x (qal _ a);have c:=d p qaf;rw[leastR];split
  ·have:=eG (tops:=tops) (bots:=bots) b e
   exact⟨this.1,by have:=this.2;simp at this ⊢;lia⟩
  ·split
   ·have:=eG (tops:=tops) (bots:=bots) (ps:=ps) (least:=[p]) b λx a=>by rw[qap.mp a];exact c
    exact⟨this.1,by have:=this.2;simp at this ⊢;lia⟩
   ·have:=eG (tops:=tops) (bots:=bots) (ps:=ps) (least:=(f::r)++[p]) b λx a=>by
     rcases qaY.mp a with z|z
     ·exact e x z
     ·rw[qap.mp z];exact c
    exact⟨this.1,by have:=this.2;simp at this ⊢;lia⟩
section
variable {P:Pb}{S:Tb}{st:Sto}{c:Nat}
def wv (h:Okt P S) (y:c<=P.n):∀ (C ps:List Nat) (p:Option W),(∀ s∈C,s<=P.m)->(∀ x∈ps,x<P.m)->ps.length<=1000->
  ∃ q,cK (.nm 4) fC (C.map (bH P.n)) [some (.d (obD P S)),some (.d (.int (c:Int))),some (.d (.lst (mpI P.m λi=>S.T i c))),some (.d (.lst (psD ps))),p] st=some (.nx [some (.d (obD P S)),some (.d (.int (c:Int))),some (.d (.lst (mpI P.m λi=>S.T i c))),some (.d (.lst (psD (leaveL (λs i=>LV P S i s) (λi=>S.T i c) C ps)))),q] st)
 |[],ps,p,_,_,_=>⟨p,rfl⟩
 |s::C,ps,p,A,K,B=>by
  have f:cB (.nm 4) (.d (bH P.n s)) [some (.d (obD P S)),some (.d (.int (c:Int))),some (.d (.lst (mpI P.m λi=>S.T i c))),some (.d (.lst (psD ps))),p]=some [some (.d (obD P S)),some (.d (.int (c:Int))),some (.d (.lst (mpI P.m λi=>S.T i c))),some (.d (.lst (psD ps))),some (.d (bH P.n s))]:=rfl;have E:aE dLt (iCB aX (aa (iV 3) ac)) (iC (.int 2)) [some (.d (obD P S)),some (.d (.int (c:Int))),some (.d (.lst (mpI P.m λi=>S.T i c))),some (.d (.lst (psD ps))),some (.d (bH P.n s))] st=some (decide (ps.length<2),st):=by
   refine ay (aV (ws:=[.d (.lst (psD ps))]) rfl (kQ _ _)) rfl ?_;rw[vA,zL]
   congr 2
   rw[qb4,decide_eq_true_eq,decide_eq_true_eq];lia
  rw[qaq,leaveL];by_cases v:ps.length<2
  ·rw[decide_eq_true v]at E
   rw[if_pos v];refine⟨some (.d (bH P.n s)),?_⟩;have hb:fC [some (.d (obD P S)),some (.d (.int (c:Int))),some (.d (.lst (mpI P.m λi=>S.T i c))),some (.d (.lst (psD ps))),some (.d (bH P.n s))] st=some (.bk [some (.d (obD P S)),some (.d (.int (c:Int))),some (.d (.lst (mpI P.m λi=>S.T i c))),some (.d (.lst (psD ps))),some (.d (bH P.n s))] st):=by
    have:=dq (a:=ui) (b:=aO) E rfl
    show ah _ _ _ _=_;simp only[ah,this];rfl
   simp only[cK,f,qaa,hb]
  ·rw[decide_eq_false v]at E
   rw[if_neg v];have M:=B2 (st:=st) h (A s qaf);have O:=FM (st:=st) (tops:=λi=>LV P S i s) (bots:=λi=>S.T i c) (m:=P.m) (λi u=>h.sL i s u (A s qaf)) (λi u=>h.sT i c u y) K B;have o:=eG (tops:=λi=>LV P S i s) (bots:=λi=>S.T i c) (m:=P.m) (ps:=ps) (least:=[]) K (λx w=>nomatch w)
   obtain⟨q,Q⟩:=wv h y C (leastR (λi=>LV P S i s) (λi=>S.T i c) ps []) (some (.d (bH P.n s))) (λx w=>A x (qal _ w)) o.1 (by have:=o.2;simp at this;lia);refine⟨q,?_⟩;have hb:fC [some (.d (obD P S)),some (.d (.int (c:Int))),some (.d (.lst (mpI P.m λi=>S.T i c))),some (.d (.lst (psD ps))),some (.d (bH P.n s))] st=some (.nx [some (.d (obD P S)),some (.d (.int (c:Int))),some (.d (.lst (mpI P.m λi=>S.T i c))),some (.d (.lst (psD (leastR (λi=>LV P S i s) (λi=>S.T i c) ps [])))),some (.d (bH P.n s))] st):=
    ai (bA E rfl) (aq (ak (ab rfl (ab (ak (ws:=[.d (obD P S),.d (bH P.n s)]) rfl M) (ab rfl rfl))) O))
   simp only[cK,f,qaa,hb];exact Q
def uh (l:List Nat):D:=match l with
 |[]=>.non
 |r::_=>.int ((r:Nat):Int)
def uF (h:Okt P S) (y:c<=P.n):jj [.d (obD P S),.d (.int (c:Int))] st=some (.d (uh (hU P S c)),st):=by
 have hm:=h.m64;have a1:=cP (P:=P) (S:=S) (env:=[some (.d (obD P S)),some (.d (.int (c:Int))),none,none,none]) (st:=st) (a:=iV 0) rfl;have V:az (.nm 2) (ar (iLc 1 [1] (aC (ao "lines" (iV 0))) (.nm 0) aL mf)) [some (.d (obD P S)),some (.d (.int (c:Int))),none,none,none] st=some (.nx [some (.d (obD P S)),some (.d (.int (c:Int))),some (.d (.lst (mpI P.m λi=>S.T i c))),none,none] st):=
  aq (aD (aZ (bg a1) (by rw[cE];lia) (ig (g:=lnD P.n S.T) (λi=>D.int (S.T i c)) λi _=>ae rfl rfl (sP st y))))
 have J:cb (aa (iV 2) ac) [some (.d (obD P S)),some (.d (.int (c:Int))),some (.d (.lst (mpI P.m λi=>S.T i c))),none,none] st=some ((qag P.m).map λi=>D.tup [.int ((i:Nat):Int),.int (S.T i c)],st):=by
  rw[<-v5];rfl
 have N:az (.nm 3) (ar (iLc 2 [] (cb (aa (iV 2) ac)) (.tp [0,1]) lV lU)) [some (.d (obD P S)),some (.d (.int (c:Int))),some (.d (.lst (mpI P.m λi=>S.T i c))),none,none] st=some (.nx [some (.d (obD P S)),some (.d (.int (c:Int))),some (.d (.lst (mpI P.m λi=>S.T i c))),some (.d (.lst (psD (ii P S c)))),none] st):=
  aq (aD (aZ J (by rw[qah,qat];lia) (ud (g:=λi=>(D.int ((i:Nat):Int),.int (S.T i c))) (λi=>decide (S.T i c > 0)) (λi=>D.int ((i:Nat):Int)) λi _=>⟨ay rfl rfl (CN _ _ _),λ_=>rfl⟩)))
 have G:∀ x∈ii P S c,x<P.m:=λx w=>qaU.mp (qcf.mp w).1;have I:(ii P S c).length<=1000:=by
  have:(ii P S c).length<=(qag P.m).length:=qes ..
  rw[qat]at this;lia
 obtain⟨p,T⟩:=wv (st:=st) h y (qag (P.m+1)) (ii P S c) none (λs A=>by have:=qaU.mp A;lia) G I;have hw:=n5 (st:=st) h;have H:aC (au eh (aa (iV 0) ac)) [some (.d (obD P S)),some (.d (.int (c:Int))),some (.d (.lst (mpI P.m λi=>S.T i c))),some (.d (.lst (psD (ii P S c)))),none] st=some ((qag (P.m+1)).map (bH P.n),st):=bg (ak (ws:=[.d (obD P S)]) rfl hw);refine aB (n:=5) (k:=2) (b:=pM) rfl (ai V (ai N (ai (bE H T) (aP ?_))));show fP (cJ db (iV 3)) (iOp dIx (iV 3) (iC (.int 0))) (iC .non) [some (.d (obD P S)),some (.d (.int (c:Int))),some (.d (.lst (mpI P.m λi=>S.T i c))),some (.d (.lst (psD (hU P S c)))),p] st=_;cases hU P S c with
 |nil=>rfl
 |cons r l=>exact mV (s:=st) rfl (ae rfl rfl (show atI (.int ((r:Nat):Int)::psD l) 0=_ from yQ _ _))
def uG (B:∀ i,i<P.m->S.T i c<=0):hU P S c=[]:=by
 have:ii P S c=[]:=by
  unfold ii;rw[qgs];intro i u
  have:=B i (qaU.mp u)
  simp;lia
 unfold hU;rw[this,qdk,leaveL,if_pos (by decide)]
def uw (h:Okt P S) (hA:∀ i,i<P.m->∀ t,P.m<=t->P.A (S.kept i) t=0) (B:¬ ∀ i,i<P.m->S.T i c<=0) :
  ∃ r,hU P S c=[r]/\r<P.m/\0<S.T r c/\∀ i,i<P.m->i≠r->0<S.T i c->lexP (P.m+1) λs=>S.T r c*LV P S i s - S.T i c*LV P S r s:=by
 have L:∀ i,i∈ii P S c↔i<P.m/\0<S.T i c:=λi=>by
  unfold ii;rw[qcf,qaU,decide_eq_true_eq]
 have F:ii P S c≠[]:=λe=>B λi u=>by
  have:¬ (i<P.m/\0<S.T i c):=λz=>by
   have:=(L i).mpr z
   rw[e]at this;exact absurd this qbL
  lia
 obtain⟨r,R,v⟩:=Sx.leaving_ok h.good hA L (qiA qg0 List.nodup_range) F;refine⟨r,?_,v⟩;rw[<-R];unfold hU
 congr 1
 rw[show (λj=>0+j)=id by funext j;simp,qgW]
end
end Own
set_option maxHeartbeats 1000000
namespace Own
open PySem L2
open Sx (Pb Tb Good Named Fe LV ZV piv lexP leastR leaveL sumN unit colV basis)
def kG (s:Sto) (a b:D):dIx s (.d (.tup [a,b])) (.d (.int 0))=some a:=rfl
def jx (s:Sto) (a b:D):dIx s (.d (.tup [a,b])) (.d (.int 1))=some b:=rfl
def DQ {a:Af}{env:Ev}{st s:Sto}{ws:List W}{ds:List D} (c:a env st=some (ws,s)) (h:lP ws=some ds) (b:ds.length<=1000):bv a env st=some (.d (.tup ds),s):=by
 simp only[bv,c,qaa,h,b,if_true]
section
variable {P:Pb}{S:Tb}{st:Sto}
def BY (s:Sto) (a:Int):dNe s (.d (.int a)) (.d (.int 0))=some (.bl (!(a==0))):=rfl
def Sm.two {a b:Int} (ha:Sm a) (hb:Sm b):(a*b).natAbs<2^8000:=CO (x:=4000) (y:=4000) ha hb
def vB (h:Okt P S) {c1 g c2 f:Nat}{M B:Int} (o:g<P.m) (p:f<P.m) (hM:M.natAbs<2^8000) (hB:B.natAbs<2^8000):∀ (T:List Nat) (E v u:Option W),(∀ s∈T,s<=P.m)->
  (∃ b,cK (.nm 5) ck (T.map (bH P.n)) [some (.d (obD P S)),some (.d (.tup [.int (c1:Int),.int (g:Int)])),some (.d (.tup [.int (c2:Int),.int (f:Int)])),some (.d (.int M)),some (.d (.int B)),E,v,u] st=some (.rt (.d (.bl b)) st))\/
  ∃ e,cK (.nm 5) ck (T.map (bH P.n)) [some (.d (obD P S)),some (.d (.tup [.int (c1:Int),.int (g:Int)])),some (.d (.tup [.int (c2:Int),.int (f:Int)])),some (.d (.int M)),some (.d (.int B)),E,v,u] st=some (.nx e st)
 |[],E,v,u,_=>.inr ⟨_,rfl⟩
 |s::T,E,v,u,Y=>by
  have F:=Y s qaf;have e1:=B2 (st:=st) h F;have l:cB (.nm 5) (.d (bH P.n s)) [some (.d (obD P S)),some (.d (.tup [.int (c1:Int),.int (g:Int)])),some (.d (.tup [.int (c2:Int),.int (f:Int)])),some (.d (.int M)),some (.d (.int B)),E,v,u]=some [some (.d (obD P S)),some (.d (.tup [.int (c1:Int),.int (g:Int)])),some (.d (.tup [.int (c2:Int),.int (f:Int)])),some (.d (.int M)),some (.d (.int B)),some (.d (bH P.n s)),v,u]:=rfl;have s6:az (.nm 6) (au cO (aa (iV 0) (aa (iV 5) ac))) [some (.d (obD P S)),some (.d (.tup [.int (c1:Int),.int (g:Int)])),some (.d (.tup [.int (c2:Int),.int (f:Int)])),some (.d (.int M)),some (.d (.int B)),some (.d (bH P.n s)),v,u] st=some (.nx [some (.d (obD P S)),some (.d (.tup [.int (c1:Int),.int (g:Int)])),some (.d (.tup [.int (c2:Int),.int (f:Int)])),some (.d (.int M)),some (.d (.int B)),some (.d (bH P.n s)),some (.d (.lst (mpI P.m λi=>LV P S i s))),u] st):=aq (ak (ws:=[.d (obD P S),.d (bH P.n s)]) rfl e1);have m1:qbo B (LV P S f s):=mulOk 8000 4000 hB (h.sL f s p F) (by decide);have m2:qbo M (LV P S g s):=mulOk 8000 4000 hM (h.sL g s o F) (by decide);have s7:az (.nm 7) (iOp kf (iOp bb (iV 4) (iOp dIx (iV 6) (iOp dIx (iV 2) (iC (.int 1))))) (iOp bb (iV 3) (iOp dIx (iV 6) (iOp dIx (iV 1) (iC (.int 1)))))) [some (.d (obD P S)),some (.d (.tup [.int (c1:Int),.int (g:Int)])),some (.d (.tup [.int (c2:Int),.int (f:Int)])),some (.d (.int M)),some (.d (.int B)),some (.d (bH P.n s)),some (.d (.lst (mpI P.m λi=>LV P S i s))),u] st=some (.nx [some (.d (obD P S)),some (.d (.tup [.int (c1:Int),.int (g:Int)])),some (.d (.tup [.int (c2:Int),.int (f:Int)])),some (.d (.int M)),some (.d (.int B)),some (.d (bH P.n s)),some (.d (.lst (mpI P.m λi=>LV P S i s))),some (.d (.int (B*LV P S f s - M*LV P S g s)))] st):=
   aq (ae (ae rfl (ae rfl (ae rfl rfl (jx st _ _)) (eY st p)) (cF st m1)) (ae rfl (ae rfl (ae rfl rfl (jx st _ _)) (eY st o)) (cF st m2)) rfl)
  generalize B*LV P S f s - M*LV P S g s=Z at s7;have X:aE dNe (iV 7) (iC (.int 0)) [some (.d (obD P S)),some (.d (.tup [.int (c1:Int),.int (g:Int)])),some (.d (.tup [.int (c2:Int),.int (f:Int)])),some (.d (.int M)),some (.d (.int B)),some (.d (bH P.n s)),some (.d (.lst (mpI P.m λi=>LV P S i s))),some (.d (.int Z))] st=some (!(Z==0),st):=ay rfl rfl (BY st Z);rw[qaq];cases L:(Z==0) with
  |false=>
   rw[L]at X
   left
   refine⟨decide (Z > 0),?_⟩;have hb:ck [some (.d (obD P S)),some (.d (.tup [.int (c1:Int),.int (g:Int)])),some (.d (.tup [.int (c2:Int),.int (f:Int)])),some (.d (.int M)),some (.d (.int B)),some (.d (bH P.n s)),v,u] st=some (.rt (.d (.bl (decide (Z > 0)))) st):=ai s6 (ai s7 (dq X (aP (ae rfl rfl (CN st _ _)))));simp only[cK,l,qaa,hb]
  |true=>
   rw[L]at X;have hb:ck [some (.d (obD P S)),some (.d (.tup [.int (c1:Int),.int (g:Int)])),some (.d (.tup [.int (c2:Int),.int (f:Int)])),some (.d (.int M)),some (.d (.int B)),some (.d (bH P.n s)),v,u] st=some (.nx [some (.d (obD P S)),some (.d (.tup [.int (c1:Int),.int (g:Int)])),some (.d (.tup [.int (c2:Int),.int (f:Int)])),some (.d (.int M)),some (.d (.int B)),some (.d (bH P.n s)),some (.d (.lst (mpI P.m λi=>LV P S i s))),some (.d (.int Z))] st):=ai s6 (ai s7 (bA X rfl));have R:=vB h (c1:=c1) (c2:=c2) o p hM hB T (some (.d (bH P.n s))) (some (.d (.lst (mpI P.m λi=>LV P S i s)))) (some (.d (.int Z))) λx J=>Y x (qal _ J);simp only[cK,l,qaa,hb];exact R
def E1 (h:Okt P S) {c1 g c2 f:Nat} (hc1:c1<P.n) (o:g<P.m) (hc2:c2<P.n) (p:f<P.m):∃ b,cn [.d (obD P S),.d (.tup [.int (c1:Int),.int (g:Int)]),.d (.tup [.int (c2:Int),.int (f:Int)])] st=some (.d (.bl b),st):=by
 have K:∀ q o4 E v u,iV 0 [some (.d (obD P S)),some (.d (.tup [.int (c1:Int),.int (g:Int)])),some (.d (.tup [.int (c2:Int),.int (f:Int)])),q,o4,E,v,u] st=some (.d (obD P S),st):=λ_ _ _ _ _=>rfl;have w:az (.nm 3) (iOp bb (iOp dIx (ao "goal" (iV 0)) (iOp dIx (iV 1) (iC (.int 0)))) (iOp dIx (iOp dIx (ao "lines" (iV 0)) (iOp dIx (iV 2) (iC (.int 1)))) (iOp dIx (iV 2) (iC (.int 0))))) [some (.d (obD P S)),some (.d (.tup [.int (c1:Int),.int (g:Int)])),some (.d (.tup [.int (c2:Int),.int (f:Int)])),none,none,none,none,none] st=some (.nx [some (.d (obD P S)),some (.d (.tup [.int (c1:Int),.int (g:Int)])),some (.d (.tup [.int (c2:Int),.int (f:Int)])),some (.d (.int (S.G c1*S.T f c2))),none,none,none,none] st):=
  aq (ae (ae (mH (K _ _ _ _ _)) (ae rfl rfl (kG st _ _)) (eY st (by lia))) (ae (ae (cP (K _ _ _ _ _)) (ae rfl rfl (jx st _ _)) (s0 st p)) (ae rfl rfl (kG st _ _)) (sP st (by lia))) (cF st (Sm.mulOk (h.sG c1 (by lia)) (h.sT f c2 p (by lia)))))
 have s4:az (.nm 4) (iOp bb (iOp dIx (ao "goal" (iV 0)) (iOp dIx (iV 2) (iC (.int 0)))) (iOp dIx (iOp dIx (ao "lines" (iV 0)) (iOp dIx (iV 1) (iC (.int 1)))) (iOp dIx (iV 1) (iC (.int 0))))) [some (.d (obD P S)),some (.d (.tup [.int (c1:Int),.int (g:Int)])),some (.d (.tup [.int (c2:Int),.int (f:Int)])),some (.d (.int (S.G c1*S.T f c2))),none,none,none,none] st=some (.nx [some (.d (obD P S)),some (.d (.tup [.int (c1:Int),.int (g:Int)])),some (.d (.tup [.int (c2:Int),.int (f:Int)])),some (.d (.int (S.G c1*S.T f c2))),some (.d (.int (S.G c2*S.T g c1))),none,none,none] st):=
  aq (ae (ae (mH (K _ _ _ _ _)) (ae rfl rfl (kG st _ _)) (eY st (by lia))) (ae (ae (cP (K _ _ _ _ _)) (ae rfl rfl (jx st _ _)) (s0 st o)) (ae rfl rfl (kG st _ _)) (sP st (by lia))) (cF st (Sm.mulOk (h.sG c2 (by lia)) (h.sT g c1 o (by lia)))))
 have O:aC (au eh (aa (iV 0) ac)) [some (.d (obD P S)),some (.d (.tup [.int (c1:Int),.int (g:Int)])),some (.d (.tup [.int (c2:Int),.int (f:Int)])),some (.d (.int (S.G c1*S.T f c2))),some (.d (.int (S.G c2*S.T g c1))),none,none,none] st=some ((qag (P.m+1)).map (bH P.n),st):=bg (ak (ws:=[.d (obD P S)]) rfl (n5 h));rcases vB (st:=st) h (c1:=c1) (c2:=c2) o p (Sm.two (h.sG c1 (by lia)) (h.sT f c2 p (by lia))) (Sm.two (h.sG c2 (by lia)) (h.sT g c1 o (by lia))) (qag (P.m+1)) none none none (λs Y=>by have:=qaU.mp Y;lia) with⟨b,e⟩|⟨e,he⟩
 ·exact⟨b,aB (n:=8) (k:=3) (b:=gX) rfl (ai w (ai s4 (fY (bE O e))))⟩
 ·exact⟨false,aB (n:=8) (k:=3) (b:=gX) rfl (ai w (ai s4 (ai (bE O he) rfl)))⟩
def lA (P:Pb) (S:Tb) (x:D):Prop:=x=.non\/∃ c r,c<P.n/\S.G c<0/\hU P S c=[r]/\r<P.m/\0<S.T r c/\(∀ i,i<P.m->i≠r->0<S.T i c->lexP (P.m+1) λs=>S.T r c*LV P S i s - S.T i c*LV P S r s)/\x=.tup [.int (c:Int),.int (r:Int)]
def ql (h:Okt P S) (hA:∀ i,i<P.m->∀ t,P.m<=t->P.A (S.kept i) t=0):∀ (j k:Nat) (x:D) (H q:Option W),k+j=P.n->lA P S x->(x=.non->∀ c,c<k->0<=S.G c)->
  (∃ c,c<P.n/\S.G c<0/\(∀ i,i<P.m->S.T i c<=0)/\cK (.nm 2) ca ((qeM k j).map λc=>D.int ((c:Nat):Int)) [some (.d (obD P S)),some (.d x),H,q] st=some (.rt (.d (.tup [.int (c:Int),.non])) st))\/
  ∃ y o2' o3',lA P S y/\(y=.non->∀ c,c<P.n->0<=S.G c)/\cK (.nm 2) ca ((qeM k j).map λc=>D.int ((c:Nat):Int)) [some (.d (obD P S)),some (.d x),H,q] st=some (.nx [some (.d (obD P S)),some (.d y),o2',o3'] st)
 |0,k,x,H,q,hk,J,I=>.inr ⟨x,H,q,J,by rw[<-hk,qgM];exact I,rfl⟩
 |j+1,k,x,H,q,hk,J,I=>by
  have C:k<P.n:=by lia
  have l:cB (.nm 2) (.d (.int ((k:Nat):Int))) [some (.d (obD P S)),some (.d x),H,q]=some [some (.d (obD P S)),some (.d x),some (.d (.int ((k:Nat):Int))),q]:=rfl;have K:∀ a b d,iV 0 [some (.d (obD P S)),a,b,d] st=some (.d (obD P S),st):=λ_ _ _=>rfl;have G:aE dGe (iOp dIx (ao "goal" (iV 0)) (iV 2)) (iC (.int 0)) [some (.d (obD P S)),some (.d x),some (.d (.int ((k:Nat):Int))),q] st=some (decide (S.G k>=0),st):=ay (ae (mH (K _ _ _)) rfl (eY st (by lia))) rfl (FG st _ _)
  rw[qhE,qaq];by_cases hg:S.G k>=0
  ·rw[decide_eq_true hg]at G
   have hb:ca [some (.d (obD P S)),some (.d x),some (.d (.int ((k:Nat):Int))),q] st=some (.ct [some (.d (obD P S)),some (.d x),some (.d (.int ((k:Nat):Int))),q] st):=by
    have:=dq (a:=pV) (b:=aO) G rfl
    show ah _ _ _ _=_;simp only[ah,this];rfl
   have R:=ql h hA j (k+1) x (some (.d (.int ((k:Nat):Int)))) q (by lia) J λe c hc=>by
    by_cases z:c=k
    ·rw[z];exact hg
    ·exact I e c (by lia)
   simp only[cK,l,qaa,hb];exact R
  ·rw[decide_eq_false hg]at G
   have Q:S.G k<0:=by lia
   have el:=uF (st:=st) (c:=k) h (by lia);have w:az (.nm 3) (bv (aa (iV 2) (aa (au jj (aa (iV 0) (aa (iV 2) ac))) ac))) [some (.d (obD P S)),some (.d x),some (.d (.int ((k:Nat):Int))),q] st=some (.nx [some (.d (obD P S)),some (.d x),some (.d (.int ((k:Nat):Int))),some (.d (.tup [.int ((k:Nat):Int),uh (hU P S k)]))] st):=
    aq (DQ (ab rfl (ab (ak (ws:=[.d (obD P S),.d (.int ((k:Nat):Int))]) rfl el) rfl)) rfl (by show 2<=1000;decide))
   by_cases L:∀ i,i<P.m->S.T i k<=0
   ·rw[uG L]at w
    left
    refine⟨k,C,Q,L,?_⟩;have V:aE iL (iOp dIx (iV 3) (iC (.int 1))) (iC .non) [some (.d (obD P S)),some (.d x),some (.d (.int ((k:Nat):Int))),some (.d (.tup [.int ((k:Nat):Int),uh []]))] st=some (true,st):=ay (ae rfl rfl (jx st _ _)) rfl (rn st);have hb:ca [some (.d (obD P S)),some (.d x),some (.d (.int ((k:Nat):Int))),q] st=some (.rt (.d (.tup [.int ((k:Nat):Int),.non])) st):=ai (bA G rfl) (ai w (fY (dq V rfl)));simp only[cK,l,qaa,hb]
   ·obtain⟨r,l1,l2,l3,l4⟩:=uw h hA L
    rw[l1]at w;have V:aE iL (iOp dIx (iV 3) (iC (.int 1))) (iC .non) [some (.d (obD P S)),some (.d x),some (.d (.int ((k:Nat):Int))),some (.d (.tup [.int ((k:Nat):Int),.int ((r:Nat):Int)]))] st=some (false,st):=ay (ae rfl rfl (jx st _ _)) rfl (vm st _);have A:lA P S (.tup [.int ((k:Nat):Int),.int ((r:Nat):Int)]):=.inr ⟨k,r,C,Q,l1,l2,l3,l4,rfl⟩;have key:∃ y,lA P S y/\y≠.non/\ca [some (.d (obD P S)),some (.d x),some (.d (.int ((k:Nat):Int))),q] st=some (.nx [some (.d (obD P S)),some (.d y),some (.d (.int ((k:Nat):Int))),some (.d (.tup [.int ((k:Nat):Int),.int ((r:Nat):Int)]))] st):=by
     rcases J with rfl|⟨c,N,c1,c2,c3,c4,c5,c6,rfl⟩
     ·have t1:aE iL (iV 1) (iC .non) [some (.d (obD P S)),some (.d .non),some (.d (.int ((k:Nat):Int))),some (.d (.tup [.int ((k:Nat):Int),.int ((r:Nat):Int)]))] st=some (true,st):=ay rfl rfl (rn st)
      have t2:dQ (aE iL (iV 1) (iC .non)) (cJ db (au cn (aa (iV 0) (aa (iV 3) (aa (iV 1) ac))))) [some (.d (obD P S)),some (.d .non),some (.d (.int ((k:Nat):Int))),some (.d (.tup [.int ((k:Nat):Int),.int ((r:Nat):Int)]))] st=some (true,st):=by simp only[dQ,t1,qaa,if_true]
      exact⟨_,A,by simp,ai (bA G rfl) (ai w (ai (bA V rfl) (dq t2 rfl)))⟩
     ·obtain⟨b,eb⟩:=E1 (st:=st) h C l2 c1 c4
      have t1:aE iL (iV 1) (iC .non) [some (.d (obD P S)),some (.d (.tup [.int (c:Int),.int (N:Int)])),some (.d (.int ((k:Nat):Int))),some (.d (.tup [.int ((k:Nat):Int),.int ((r:Nat):Int)]))] st=some (false,st):=ay rfl rfl (Ah st _);have t3:au cn (aa (iV 0) (aa (iV 3) (aa (iV 1) ac))) [some (.d (obD P S)),some (.d (.tup [.int (c:Int),.int (N:Int)])),some (.d (.int ((k:Nat):Int))),some (.d (.tup [.int ((k:Nat):Int),.int ((r:Nat):Int)]))] st=some (.d (.bl b),st):=ak (ws:=[.d (obD P S),.d (.tup [.int ((k:Nat):Int),.int ((r:Nat):Int)]),.d (.tup [.int (c:Int),.int (N:Int)])]) rfl eb;have t2:dQ (aE iL (iV 1) (iC .non)) (cJ db (au cn (aa (iV 0) (aa (iV 3) (aa (iV 1) ac))))) [some (.d (obD P S)),some (.d (.tup [.int (c:Int),.int (N:Int)])),some (.d (.int ((k:Nat):Int))),some (.d (.tup [.int ((k:Nat):Int),.int ((r:Nat):Int)]))] st=some (b,st):=by simp only[dQ,t1,cJ,t3,qaa,qa0,if_false,db,qai]
      cases b with
      |true=>exact⟨_,A,by simp,ai (bA G rfl) (ai w (ai (bA V rfl) (dq t2 rfl)))⟩
      |false=>exact⟨_,.inr ⟨c,N,c1,c2,c3,c4,c5,c6,rfl⟩,by simp,ai (bA G rfl) (ai w (ai (bA V rfl) (bA t2 rfl)))⟩
    obtain⟨y,hy,hyn,hb⟩:=key;have R:=ql h hA j (k+1) y (some (.d (.int ((k:Nat):Int)))) (some (.d (.tup [.int ((k:Nat):Int),.int ((r:Nat):Int)]))) (by lia) hy λe=>absurd e hyn;simp only[cK,l,qaa,hb];exact R
def Eu (h:Okt P S) (hA:∀ i,i<P.m->∀ t,P.m<=t->P.A (S.kept i) t=0) :
  (∃ c,c<P.n/\S.G c<0/\(∀ i,i<P.m->S.T i c<=0)/\bS [.d (obD P S)] st=some (.d (.tup [.int (c:Int),.non]),st))\/
  ∃ y,lA P S y/\(y=.non->∀ c,c<P.n->0<=S.G c)/\bS [.d (obD P S)] st=some (.d y,st):=by
 have hn:=h.n64;have af:=mI (P:=P) (S:=S) (env:=[some (.d (obD P S)),some (.d .non),none,none]) (st:=st) (a:=iV 0) rfl;have hr:bz (aa (iCB aX (aa (ao "free" (iV 0)) ac)) ac) [some (.d (obD P S)),some (.d .non),none,none] st=some ((qeM 0 P.n).map λc=>D.int ((c:Nat):Int),st):=by
  have this:=nC (z:=(P.n:Int)) (m:=P.n) (aV (ab (b:=ac) af rfl) (show aX st [.d (.lst (mpI P.n (nI S.free)))]=some (.int (P.n:Int)) by rw[kQ,aA])) (by lia) (by lia) (by lia);have e2:bF 0 P.n=(qeM 0 P.n).map λc=>D.int ((c:Nat):Int):=by
   unfold bF;rw[qgP];exact qcg λk _=>by rw[qcd]
  rw[<-e2];exact this
 rcases ql (st:=st) h hA P.n 0 .non none none (by lia) (.inl rfl) (λ_ c hc=>absurd hc (by lia)) with⟨c,c1,c2,c3,e⟩|⟨y,H,q,y1,y2,e⟩
 ·exact .inl ⟨c,c1,c2,c3,aB (n:=4) (k:=1) (b:=iJ) rfl (ai (s:=st) (e:=[some (.d (obD P S)),some (.d .non),none,none]) rfl (fY (bE hr e)))⟩
 ·exact .inr ⟨y,y1,y2,aB (n:=4) (k:=1) (b:=iJ) rfl (ai (s:=st) (e:=[some (.d (obD P S)),some (.d .non),none,none]) rfl (ai (bE hr e) rfl))⟩
end
end Own
set_option maxHeartbeats 1000000
namespace Own
open PySem L2
open Sx (Pb Tb Good Named Fe LV ZV piv lexP leastR leaveL sumN unit colV basis)
def dA {n k:Nat} (h:k<n):ixN n (k:Int)=some k:=by
 unfold ixN;rw[if_pos (by lia),if_pos (by lia)];rfl
def DI (n:Nat) (f g:Nat->Int):ja (mpI n f) (mpI n g)=(qag n).map λc=>D.tup [.int (f c),.int (g c)]:=by
 apply qbw;intro i;rw[gk,qaD];by_cases a:i<n
 ·rw[bj a,bj a,qbh a];rfl
 ·rw[qaJ (l:=mpI n f) (by rw[aA];lia),qaJ (l:=qag n) (by rw[qat];lia)];rfl
def za {te:Ef}{l:Ev}{st:Sto}{g:Nat->D×D} (F:Nat->D) {ks:List Nat} (h:∀ k∈ks,te (some (.d (g k).1)::some (.d (g k).2)::l) st=some (.d (F k),st)) :
  lcI (.tp [0,1]) aL te (none::none::l) (ks.map λk=>D.tup [(g k).1,(g k).2]) st=some (ks.map F,st):=by
 have:=ud (tt:=aL) (te:=te) (l:=l) (st:=st) (g:=g) (λ_=>true) F (ks:=ks) λk a=>⟨rfl,λ_=>h k a⟩
 rw[this,qg1.mpr λ_ _=>rfl]
def sq {st:Sto}{n e:Nat}{f g:Nat->Int}{p:Int} (j:e<=n) (s:0<p) (sp:Sm p) (m:∀ c,c<=n->Sm (f c)) (sg:∀ c,c<=n->Sm (g c)) (hn:n<=1000) :
  jk [.d (.lst (mpI (n+1) f)),.d (.lst (mpI (n+1) g)),.d (.int (e:Int)),.d (.int p)] st=some (.d (.lst (mpI (n+1) λc=>if c=e then - f e else (g e*f c - f e*g c) / p)),st):=by
 have a:e<n+1:=by lia
 have x:gf (aa (iV 0) (aa (iV 1) ac)) [some (.d (.lst (mpI (n+1) f))),some (.d (.lst (mpI (n+1) g))),some (.d (.int (e:Int))),some (.d (.int p)),some (.d (.int (g e))),some (.d (.int (f e))),none] st=some ((qag (n+1)).map λc=>D.tup [.int (f c),.int (g c)],st):=by
  rw[<-DI];rfl
 have q:lcI (.tp [0,1]) aL lh [none,none,some (.d (.int (g e))),some (.d (.int (f e))),some (.d (.int p))] ((qag (n+1)).map λc=>D.tup [.int (f c),.int (g c)]) st=some (mpI (n+1) λc=>(g e*f c - f e*g c) / p,st):=by
  refine za (g:=λc=>(D.int (f c),.int (g c))) (λc=>D.int ((g e*f c - f e*g c) / p)) λc r=>?_;have i:c<=n:=by have:=qaU.mp r;lia
  exact ae (ae (ae rfl rfl (cF st (Sm.mulOk (sg e j) (m c i)))) (ae rfl rfl (cF st (Sm.mulOk (m e j) (sg c i)))) rfl) rfl (qz st s sp)
 have u:az (.nm 6) (dh (iLc 2 [4,5,3] (gf (aa (iV 0) (aa (iV 1) ac))) (.tp [0,1]) aL lh)) [some (.d (.lst (mpI (n+1) f))),some (.d (.lst (mpI (n+1) g))),some (.d (.int (e:Int))),some (.d (.int p)),some (.d (.int (g e))),some (.d (.int (f e))),none] st=some (.nx [some (.d (.lst (mpI (n+1) f))),some (.d (.lst (mpI (n+1) g))),some (.d (.int (e:Int))),some (.d (.int p)),some (.d (.int (g e))),some (.d (.int (f e))),some (.h st.length)] (st++[.l (mpI (n+1) λc=>(g e*f c - f e*g c) / p)])):=by
  refine aq ?_
  have:=aZ (k:=2) (js:=[4,5,3]) x (by rw[qah,qat];lia) q
  simp only[dh,this,qai]
 have t:bu (iV 6) (iV 2) (iUn ju (iV 5)) [some (.d (.lst (mpI (n+1) f))),some (.d (.lst (mpI (n+1) g))),some (.d (.int (e:Int))),some (.d (.int p)),some (.d (.int (g e))),some (.d (.int (f e))),some (.h st.length)] (st++[.l (mpI (n+1) λc=>(g e*f c - f e*g c) / p)])=some (.nx [some (.d (.lst (mpI (n+1) f))),some (.d (.lst (mpI (n+1) g))),some (.d (.int (e:Int))),some (.d (.int p)),some (.d (.int (g e))),some (.d (.int (f e))),some (.h st.length)] (st++[.l (mpI (n+1) λc=>if c=e then - f e else (g e*f c - f e*g c) / p)])):=by
  have w:fH (st++[.l (mpI (n+1) λc=>(g e*f c - f e*g c) / p)]) (.h st.length) (.d (.int (e:Int))) (.d (.int (- f e)))=some (st++[.l (mpI (n+1) λc=>if c=e then - f e else (g e*f c - f e*g c) / p)]):=by
   simp only[fH,i9,qaa,aA,dA a,qai,nO,gw]
  have v:iUn ju (iV 5) [some (.d (.lst (mpI (n+1) f))),some (.d (.lst (mpI (n+1) g))),some (.d (.int (e:Int))),some (.d (.int p)),some (.d (.int (g e))),some (.d (.int (f e))),some (.h st.length)] (st++[.l (mpI (n+1) λc=>(g e*f c - f e*g c) / p)])=some (.d (.int (- f e)),st++[.l (mpI (n+1) λc=>(g e*f c - f e*g c) / p)]):=rfl;have y:iV 6 [some (.d (.lst (mpI (n+1) f))),some (.d (.lst (mpI (n+1) g))),some (.d (.int (e:Int))),some (.d (.int p)),some (.d (.int (g e))),some (.d (.int (f e))),some (.h st.length)] (st++[.l (mpI (n+1) λc=>(g e*f c - f e*g c) / p)])=some (.h st.length,st++[.l (mpI (n+1) λc=>(g e*f c - f e*g c) / p)]):=rfl;have o:iV 2 [some (.d (.lst (mpI (n+1) f))),some (.d (.lst (mpI (n+1) g))),some (.d (.int (e:Int))),some (.d (.int p)),some (.d (.int (g e))),some (.d (.int (f e))),some (.h st.length)] (st++[.l (mpI (n+1) λc=>(g e*f c - f e*g c) / p)])=some (.d (.int (e:Int)),st++[.l (mpI (n+1) λc=>(g e*f c - f e*g c) / p)]):=rfl;simp only[bu,v,y,o,qaa,w,qai]
 have:=mC (n:=7) (k:=4) (b:=wx) (ws:=[.d (.lst (mpI (n+1) f)),.d (.lst (mpI (n+1) g)),.d (.int (e:Int)),.d (.int p)]) (st:=st) (h:=st.length) rfl (ai (aq (ae rfl rfl (eY st a))) (ai (aq (ae rfl rfl (eY st a))) (ai u (ai t rfl)))) (qar _) (i9 _ _)
 rw[qdu]at this;exact this
abbrev stG (st0:Sto) (fr kp:List D) (fs:List (Str×W)):Sto:=st0++[.l fr,.l kp,.o fs]
def fsO (n:Nat) (a:List D) (b:List D) (p:Int) (L:Nat):List (Str×W):=[("amounts",.d (.int (n:Int))),("lines",.d (.lst a)),("goal",.d (.lst b)),("part",.d (.int p)),("free",.h L),("kept",.h (L+1))]
section
variable {st0:Sto}{fr kp:List D}{fs:List (Str×W)}
def sg2:(stG st0 fr kp fs)[st0.length+2]?=some (.o fs):=by rw[qaP (by lia)];simp
def sg0:lg (stG st0 fr kp fs) st0.length=some fr:=by unfold lg;rw[qaP (by lia)];simp
def sg1:lg (stG st0 fr kp fs) (st0.length+1)=some kp:=by unfold lg;rw[qaP (by lia)];simp
def ss2 {c:List (Str×W)}:(stG st0 fr kp fs).set (st0.length+2) (.o c)=stG st0 fr kp c:=by rw[qdx _ _ (by lia)];simp
def ss0 {x:List D}:(stG st0 fr kp fs).set st0.length (.l x)=stG st0 x kp fs:=by rw[qdx _ _ (by lia)];simp
def ss1 {x:List D}:(stG st0 fr kp fs).set (st0.length+1) (.l x)=stG st0 fr x fs:=by rw[qdx _ _ (by lia)];simp
def lW {f:Str}{w:W}{a:Ef}{env:Ev} (h:a env (stG st0 fr kp fs)=some (.h (st0.length+2),stG st0 fr kp fs)) (b:fs.lookup f=some w):ao f a env (stG st0 fr kp fs)=some (w,stG st0 fr kp fs):=by
 simp only[ao,h,qaa,sg2,b,qai]
def qV {f:Str}{x:D}{o v:Ef}{env:Ev} (g:v env (stG st0 fr kp fs)=some (.d x,stG st0 fr kp fs)) (e:o env (stG st0 fr kp fs)=some (.h (st0.length+2),stG st0 fr kp fs)) (i:fs.length<1000) (b:(fs.lookup f).isSome=true):jB f o v env (stG st0 fr kp fs)=some (.nx env (stG st0 fr kp (lu f (.d x) fs))):=by
 simp only[jB,g,e,qaa,sg2,i,b,and_self,if_true,ss2]
end
section
variable {n L:Nat}{a b c e:List D}{p f:Int}
def Br:lu ("goal" : Str) (.d (.lst e)) (fsO n a b p L)=fsO n a e p L:=rfl
def y3:lu ("lines" : Str) (.d (.lst c)) (fsO n a b p L)=fsO n c b p L:=rfl
def Av:lu ("part" : Str) (.d (.int f)) (fsO n a b p L)=fsO n a b f L:=rfl
def rJ:(fsO n a b p L).lookup ("lines" : Str)=some (.d (.lst a)):=rfl
def Bn:(fsO n a b p L).lookup ("goal" : Str)=some (.d (.lst b)):=rfl
def Ak:(fsO n a b p L).lookup ("part" : Str)=some (.d (.int p)):=rfl
end
def stO (st0:Sto) (P:Pb) (S:Tb):Sto:=stG st0 (mpI P.n (nI S.free)) (mpI P.m (nI S.kept)) (fsO P.n (aN P.m P.n S.T) (mpI (P.n+1) S.G) S.p st0.length)
def yV {st0:Sto}{P:Pb}{S:Tb}{ws:List W}{ws':List W} (h:vwA (stO st0 P S) ws=some ws'):vwA (stO st0 P S) (.h (st0.length+2)::ws)=some (.d (obD P S)::ws'):=by
 have e:vwW (stO st0 P S) (.h (st0.length+2))=some (.d (obD P S)):=by
  unfold vwW stO;dsimp only;rw[sg2];dsimp only;rw[if_pos (by show 5<6;decide)]
  have:vwF (stG st0 (mpI P.n (nI S.free)) (mpI P.m (nI S.kept)) (fsO P.n (aN P.m P.n S.T) (mpI (P.n+1) S.G) S.p st0.length)) (fsO P.n (aN P.m P.n S.T) (mpI (P.n+1) S.G) S.p st0.length)=some [.int (P.n:Int),.lst (aN P.m P.n S.T),.lst (mpI (P.n+1) S.G),.int S.p,.lst (mpI P.n (nI S.free)),.lst (mpI P.m (nI S.kept))]:=by
   simp only[fsO,vwF,qai];rw[show lg (stG st0 (mpI P.n (nI S.free)) (mpI P.m (nI S.kept)) [("amounts",W.d (.int (P.n:Int))),("lines",.d (.lst (aN P.m P.n S.T))),("goal",.d (.lst (mpI (P.n+1) S.G))),("part",.d (.int S.p)),("free",.h st0.length),("kept",.h (st0.length+1))]) st0.length=some (mpI P.n (nI S.free)) from sg0,show lg (stG st0 (mpI P.n (nI S.free)) (mpI P.m (nI S.kept)) [("amounts",W.d (.int (P.n:Int))),("lines",.d (.lst (aN P.m P.n S.T))),("goal",.d (.lst (mpI (P.n+1) S.G))),("part",.d (.int S.p)),("free",.h st0.length),("kept",.h (st0.length+1))]) (st0.length+1)=some (mpI P.m (nI S.kept)) from sg1]
   rfl
  rw[this];rfl
 simp only[vwA,e,h,qaa,qai]
def wX {m n r:Nat}{F:Nat->Nat->Int}{g:Nat->Int}:((qag m).map λi=>D.lst (mpI (n+1) (F i))).set r (.lst (mpI (n+1) g))=aN m n λi=>if i=r then g else F i:=by
 apply qbw;intro i;by_cases a:i<m
 ·rw[nX a]
  by_cases e:i=r
  ·subst e
   rw[qbj (by rw[qah,qat];exact a)];unfold lnD;dsimp only;rw[if_pos rfl]
  ·rw[qbx (qbC e),qaD,qbh a]
   unfold lnD;dsimp only;rw[if_neg e];rfl
 ·rw[qaJ (by rw[qb2,qah,qat];lia),qaJ (by rw[cE];lia)]
def Bl {st0:Sto}{P:Pb}{S:Tb} (h:Okt P S) {r e:Nat} (y:r<P.m) (V:e<P.n):df [.h (st0.length+2),.d (.int (r:Int)),.d (.int (e:Int))] (stO st0 P S)=some (.d .non,stO st0 P (piv S r e)):=by
 have hm:=h.m64;have hn:=h.n64;have R:=h.good.pos
 -- turning,part
 generalize w:S.T=T at *;have fin:∀ (env:Ev) (s:Sto),jY [some (.h (st0.length+2)),some (.d (.int (r:Int))),some (.d (.int (e:Int))),none,none,none,none] (stO st0 P S)=some (.nx env s)->s.take (stO st0 P S).length=s->df [.h (st0.length+2),.d (.int (r:Int)),.d (.int (e:Int))] (stO st0 P S)=some (.d .non,s):=λenv s h1 h2=>by
  show (jY [some (.h (st0.length+2)),some (.d (.int (r:Int))),some (.d (.int (e:Int))),none,none,none,none] (stO st0 P S)).bind _=_;rw[h1];show some (W.d .non,s.take (stO st0 P S).length)=_;rw[h2]
 have m:∀ (a b c d g i:Option W) (s:Sto),iV 0 [some (.h (st0.length+2)),a,b,c,d,g,i] s=some (.h (st0.length+2),s):=λ_ _ _ _ _ _ _=>rfl;have s3:az (.nm 3) (iOp dIx (ao ("lines" : Str) (iV 0)) (iV 1)) [some (.h (st0.length+2)),some (.d (.int (r:Int))),some (.d (.int (e:Int))),none,none,none,none] (stO st0 P S)=some (.nx [some (.h (st0.length+2)),some (.d (.int (r:Int))),some (.d (.int (e:Int))),some (.d (.lst (mpI (P.n+1) (T r)))),none,none,none] (stO st0 P S)):=by
  refine aq (ae (lW (m _ _ _ _ _ _ _) rJ) rfl ?_);rw[w];exact s0 _ y
 have s4:az (.nm 4) (ao ("part" : Str) (iV 0)) [some (.h (st0.length+2)),some (.d (.int (r:Int))),some (.d (.int (e:Int))),some (.d (.lst (mpI (P.n+1) (T r)))),none,none,none] (stO st0 P S)=some (.nx [some (.h (st0.length+2)),some (.d (.int (r:Int))),some (.d (.int (e:Int))),some (.d (.lst (mpI (P.n+1) (T r)))),some (.d (.int S.p)),none,none] (stO st0 P S)):=aq (lW (m _ _ _ _ _ _ _) Ak)
 have sT:∀ i c,i<P.m->c<=P.n->Sm (T i c):=λi c t l=>by rw[<-w];exact h.sT i c t l
 have K:iLc 1 [3,2,4] (aC (ao ("lines" : Str) (iV 0))) (.nm 0) aL d5 [some (.h (st0.length+2)),some (.d (.int (r:Int))),some (.d (.int (e:Int))),some (.d (.lst (mpI (P.n+1) (T r)))),some (.d (.int S.p)),none,none] (stO st0 P S)=some ((qag P.m).map λi=>D.lst (mpI (P.n+1) λc=>if c=e then - T i e else (T r e*T i c - T i e*T r c) / S.p),stO st0 P S):=by
  have a1:=lW (f:=("lines" : Str)) (a:=iV 0) (st0:=st0) (fr:=mpI P.n (nI S.free)) (kp:=mpI P.m (nI S.kept)) (fs:=fsO P.n (aN P.m P.n S.T) (mpI (P.n+1) S.G) S.p st0.length) (m (some (.d (.int (r:Int)))) (some (.d (.int (e:Int)))) (some (.d (.lst (mpI (P.n+1) (T r))))) (some (.d (.int S.p))) none none _) rJ
  refine aZ (bg a1) (by rw[cE];lia) ?_;show lcI (.nm 0) aL d5 [none,some (.d (.lst (mpI (P.n+1) (T r)))),some (.d (.int (e:Int))),some (.d (.int S.p))] (aN P.m P.n S.T) (stO st0 P S)=_;rw[show aN P.m P.n S.T=(qag P.m).map (lnD P.n T) by rw[w];rfl];refine ig (g:=lnD P.n T) _ λi t=>?_;have C:=qaU.mp t;exact ak (ws:=[.d (lnD P.n T i),.d (.lst (mpI (P.n+1) (T r))),.d (.int (e:Int)),.d (.int S.p)]) rfl (sq (f:=T i) (g:=T r) (by lia) R h.sp (λc l=>sT i c C l) (λc l=>sT r c y l) (by lia))
 have X:i3 5 1 2 3 4 (iLc 1 [3,2,4] (aC (ao ("lines" : Str) (iV 0))) (.nm 0) aL d5) [some (.h (st0.length+2)),some (.d (.int (r:Int))),some (.d (.int (e:Int))),some (.d (.lst (mpI (P.n+1) (T r)))),some (.d (.int S.p)),none,none] (stO st0 P S)=some (.nx [some (.h (st0.length+2)),some (.d (.int (r:Int))),some (.d (.int (e:Int))),some (.d (.lst (mpI (P.n+1) (T r)))),some (.d (.int S.p)),some (.d (.lst (aN P.m P.n (piv S r e).T))),none] (stO st0 P S)):=by
  simp only[i3,K,qaa,qaF,qay];rw[qah,qat,dA y,aA,dA (by lia:e<P.n+1),qaa,qaa,if_pos ⟨by lia,by show 5<7;decide,rG _ _⟩,gw,wX];show some (Fl.nx [_,_,_,_,_,some (W.d (.lst (aN P.m P.n _))),none] _)=_
  have:(λi=>if i=r then (λj=>if j=e then S.p else T r j) else λc=>if c=e then - T i e else (T r e*T i c - T i e*T r c) / S.p)=(piv S r e).T:=by
   funext i c
   show _=if i=r then (if c=e then S.p else S.T r c) else (if c=e then - S.T i e else (S.T r e*S.T i c - S.T i e*S.T r c) / S.p);rw[w];by_cases t:i=r
   ·rw[if_pos t,if_pos t]
   ·rw[if_neg t,if_neg t]
  rw[this]
 have s6:jB ("goal" : Str) (iV 0) (au jk (aa (ao ("goal" : Str) (iV 0)) (aa (iV 3) (aa (iV 2) (aa (iV 4) ac))))) [some (.h (st0.length+2)),some (.d (.int (r:Int))),some (.d (.int (e:Int))),some (.d (.lst (mpI (P.n+1) (T r)))),some (.d (.int S.p)),some (.d (.lst (aN P.m P.n (piv S r e).T))),none] (stO st0 P S)=some (.nx [some (.h (st0.length+2)),some (.d (.int (r:Int))),some (.d (.int (e:Int))),some (.d (.lst (mpI (P.n+1) (T r)))),some (.d (.int S.p)),some (.d (.lst (aN P.m P.n (piv S r e).T))),none] (stG st0 (mpI P.n (nI S.free)) (mpI P.m (nI S.kept)) (fsO P.n (aN P.m P.n S.T) (mpI (P.n+1) (piv S r e).G) S.p st0.length))):=by
  have e0:(λc=>if c=e then - S.G e else (T r e*S.G c - S.G e*T r c) / S.p)=(piv S r e).G:=by
   funext c
   show _=if c=e then - S.G e else (S.T r e*S.G c - S.G e*S.T r c) / S.p;rw[w]
  have O:=sq (st:=stO st0 P S) (f:=S.G) (g:=T r) (n:=P.n) (e:=e) (by lia) R h.sp (λc l=>h.sG c l) (λc l=>sT r c y l) (by lia);rw[e0]at O;have a1:=lW (f:=("goal" : Str)) (a:=iV 0) (st0:=st0) (fr:=mpI P.n (nI S.free)) (kp:=mpI P.m (nI S.kept)) (fs:=fsO P.n (aN P.m P.n S.T) (mpI (P.n+1) S.G) S.p st0.length) (m (some (.d (.int (r:Int)))) (some (.d (.int (e:Int)))) (some (.d (.lst (mpI (P.n+1) (T r))))) (some (.d (.int S.p))) (some (.d (.lst (aN P.m P.n (piv S r e).T)))) none _) Bn
  have:=qV (f:=("goal" : Str)) (o:=iV 0) (v:=au jk (aa (ao ("goal" : Str) (iV 0)) (aa (iV 3) (aa (iV 2) (aa (iV 4) ac))))) (st0:=st0) (fr:=mpI P.n (nI S.free)) (kp:=mpI P.m (nI S.kept)) (fs:=fsO P.n (aN P.m P.n S.T) (mpI (P.n+1) S.G) S.p st0.length) (ak (ab a1 (ab rfl (ab rfl (ab rfl rfl)))) O) (m _ _ _ _ _ _ _) (by show 6<1000;decide) rfl
  rw[Br]at this;exact this
 have s7:jB ("lines" : Str) (iV 0) (iV 5) [some (.h (st0.length+2)),some (.d (.int (r:Int))),some (.d (.int (e:Int))),some (.d (.lst (mpI (P.n+1) (T r)))),some (.d (.int S.p)),some (.d (.lst (aN P.m P.n (piv S r e).T))),none] (stG st0 (mpI P.n (nI S.free)) (mpI P.m (nI S.kept)) (fsO P.n (aN P.m P.n S.T) (mpI (P.n+1) (piv S r e).G) S.p st0.length))=some (.nx [some (.h (st0.length+2)),some (.d (.int (r:Int))),some (.d (.int (e:Int))),some (.d (.lst (mpI (P.n+1) (T r)))),some (.d (.int S.p)),some (.d (.lst (aN P.m P.n (piv S r e).T))),none] (stG st0 (mpI P.n (nI S.free)) (mpI P.m (nI S.kept)) (fsO P.n (aN P.m P.n (piv S r e).T) (mpI (P.n+1) (piv S r e).G) S.p st0.length))):=by
  have:=qV (f:=("lines" : Str)) (o:=iV 0) (v:=iV 5) (x:=.lst (aN P.m P.n (piv S r e).T)) (env:=[some (.h (st0.length+2)),some (.d (.int (r:Int))),some (.d (.int (e:Int))),some (.d (.lst (mpI (P.n+1) (T r)))),some (.d (.int S.p)),some (.d (.lst (aN P.m P.n (piv S r e).T))),none]) (st0:=st0) (fr:=mpI P.n (nI S.free)) (kp:=mpI P.m (nI S.kept)) (fs:=fsO P.n (aN P.m P.n S.T) (mpI (P.n+1) (piv S r e).G) S.p st0.length) rfl rfl (by show 6<1000;decide) rfl
  rw[y3]at this;exact this
 have N:jB ("part" : Str) (iV 0) (iOp dIx (iV 3) (iV 2)) [some (.h (st0.length+2)),some (.d (.int (r:Int))),some (.d (.int (e:Int))),some (.d (.lst (mpI (P.n+1) (T r)))),some (.d (.int S.p)),some (.d (.lst (aN P.m P.n (piv S r e).T))),none] (stG st0 (mpI P.n (nI S.free)) (mpI P.m (nI S.kept)) (fsO P.n (aN P.m P.n (piv S r e).T) (mpI (P.n+1) (piv S r e).G) S.p st0.length))=some (.nx [some (.h (st0.length+2)),some (.d (.int (r:Int))),some (.d (.int (e:Int))),some (.d (.lst (mpI (P.n+1) (T r)))),some (.d (.int S.p)),some (.d (.lst (aN P.m P.n (piv S r e).T))),none] (stG st0 (mpI P.n (nI S.free)) (mpI P.m (nI S.kept)) (fsO P.n (aN P.m P.n (piv S r e).T) (mpI (P.n+1) (piv S r e).G) (piv S r e).p st0.length))):=by
  have Y:(piv S r e).p=T r e:=by show S.T r e=_;rw[w]
  have:=qV (f:=("part" : Str)) (o:=iV 0) (v:=iOp dIx (iV 3) (iV 2)) (x:=.int (T r e)) (env:=[some (.h (st0.length+2)),some (.d (.int (r:Int))),some (.d (.int (e:Int))),some (.d (.lst (mpI (P.n+1) (T r)))),some (.d (.int S.p)),some (.d (.lst (aN P.m P.n (piv S r e).T))),none]) (st0:=st0) (fr:=mpI P.n (nI S.free)) (kp:=mpI P.m (nI S.kept)) (fs:=fsO P.n (aN P.m P.n (piv S r e).T) (mpI (P.n+1) (piv S r e).G) S.p st0.length) (ae rfl rfl (eY _ (by lia))) rfl (by show 6<1000;decide) rfl
  rw[Av]at this;rw[Y];exact this
 generalize u:fsO P.n (aN P.m P.n (piv S r e).T) (mpI (P.n+1) (piv S r e).G) (piv S r e).p st0.length=FS at N;generalize hLN:W.d (.lst (aN P.m P.n (piv S r e).T))=LN at *;generalize hTR:W.d (.lst (mpI (P.n+1) (T r)))=TR at *;have z:∀ {fr kp:List D}{k:Nat}{d:D},fr[k]?=some d->dIx (stG st0 fr kp FS) (.h st0.length) (.d (.int (k:Int)))=some d:=λ{fr kp k d} E=>by
  show (lg (stG st0 fr kp FS) st0.length).bind (λds=>atI ds (k:Int))=_;rw[sg0,qaa,bW E]
 have A:∀ {fr kp:List D}{k:Nat}{d:D},kp[k]?=some d->dIx (stG st0 fr kp FS) (.h (st0.length+1)) (.d (.int (k:Int)))=some d:=λ{fr kp k d} E=>by
  show (lg (stG st0 fr kp FS) (st0.length+1)).bind (λds=>atI ds (k:Int))=_;rw[sg1,qaa,bW E]
 have M:FS.lookup ("free" : Str)=some (.h st0.length):=by rw[<-u];rfl
 have Q:FS.lookup ("kept" : Str)=some (.h (st0.length+1)):=by rw[<-u];rfl
 have s9:az (.nm 6) (iOp dIx (ao ("free" : Str) (iV 0)) (iV 2)) [some (.h (st0.length+2)),some (.d (.int (r:Int))),some (.d (.int (e:Int))),some TR,some (.d (.int S.p)),some LN,none] (stG st0 (mpI P.n (nI S.free)) (mpI P.m (nI S.kept)) FS)=some (.nx [some (.h (st0.length+2)),some (.d (.int (r:Int))),some (.d (.int (e:Int))),some TR,some (.d (.int S.p)),some LN,some (.d (.int (nI S.free e)))] (stG st0 (mpI P.n (nI S.free)) (mpI P.m (nI S.kept)) FS)):=aq (ae (lW (m _ _ _ _ _ _ _) M) rfl (z (bj V)))
 have L:bu (ao ("free" : Str) (iV 0)) (iV 2) (iOp dIx (ao ("kept" : Str) (iV 0)) (iV 1)) [some (.h (st0.length+2)),some (.d (.int (r:Int))),some (.d (.int (e:Int))),some TR,some (.d (.int S.p)),some LN,some (.d (.int (nI S.free e)))] (stG st0 (mpI P.n (nI S.free)) (mpI P.m (nI S.kept)) FS)=some (.nx [some (.h (st0.length+2)),some (.d (.int (r:Int))),some (.d (.int (e:Int))),some TR,some (.d (.int S.p)),some LN,some (.d (.int (nI S.free e)))] (stG st0 (mpI P.n (nI (piv S r e).free)) (mpI P.m (nI S.kept)) FS)):=by
  have H:iOp dIx (ao ("kept" : Str) (iV 0)) (iV 1) [some (.h (st0.length+2)),some (.d (.int (r:Int))),some (.d (.int (e:Int))),some TR,some (.d (.int S.p)),some LN,some (.d (.int (nI S.free e)))] (stG st0 (mpI P.n (nI S.free)) (mpI P.m (nI S.kept)) FS)=some (.d (.int (nI S.kept r)),stG st0 (mpI P.n (nI S.free)) (mpI P.m (nI S.kept)) FS):=ae (lW (m _ _ _ _ _ _ _) Q) rfl (A (bj y))
  have I:=lW (f:=("free" : Str)) (a:=iV 0) (st0:=st0) (fr:=mpI P.n (nI S.free)) (kp:=mpI P.m (nI S.kept)) (fs:=FS) (m (some (.d (.int (r:Int)))) (some (.d (.int (e:Int)))) (some TR) (some (.d (.int S.p))) (some LN) (some (.d (.int (nI S.free e)))) _) M
  have B:iV 2 [some (.h (st0.length+2)),some (.d (.int (r:Int))),some (.d (.int (e:Int))),some TR,some (.d (.int S.p)),some LN,some (.d (.int (nI S.free e)))] (stG st0 (mpI P.n (nI S.free)) (mpI P.m (nI S.kept)) FS)=some (.d (.int (e:Int)),stG st0 (mpI P.n (nI S.free)) (mpI P.m (nI S.kept)) FS):=rfl;have F:fH (stG st0 (mpI P.n (nI S.free)) (mpI P.m (nI S.kept)) FS) (.h st0.length) (.d (.int (e:Int))) (.d (.int (nI S.kept r)))=some (stG st0 (mpI P.n (nI (piv S r e).free)) (mpI P.m (nI S.kept)) FS):=by
   simp only[fH,sg0,qaa,aA,dA V,qai,ss0,gw]
   congr 3
   funext j
   show _=(((if j=e then S.kept r else S.free j:Nat)):Int);by_cases q:j=e
   ·rw[if_pos q,if_pos q];rfl
   ·rw[if_neg q,if_neg q];rfl
  simp only[bu,H,I,B,qaa,F,qai]
 have J:bu (ao ("kept" : Str) (iV 0)) (iV 1) (iV 6) [some (.h (st0.length+2)),some (.d (.int (r:Int))),some (.d (.int (e:Int))),some TR,some (.d (.int S.p)),some LN,some (.d (.int (nI S.free e)))] (stG st0 (mpI P.n (nI (piv S r e).free)) (mpI P.m (nI S.kept)) FS)=some (.nx [some (.h (st0.length+2)),some (.d (.int (r:Int))),some (.d (.int (e:Int))),some TR,some (.d (.int S.p)),some LN,some (.d (.int (nI S.free e)))] (stG st0 (mpI P.n (nI (piv S r e).free)) (mpI P.m (nI (piv S r e).kept)) FS)):=by
  have H:iV 6 [some (.h (st0.length+2)),some (.d (.int (r:Int))),some (.d (.int (e:Int))),some TR,some (.d (.int S.p)),some LN,some (.d (.int (nI S.free e)))] (stG st0 (mpI P.n (nI (piv S r e).free)) (mpI P.m (nI S.kept)) FS)=some (.d (.int (nI S.free e)),stG st0 (mpI P.n (nI (piv S r e).free)) (mpI P.m (nI S.kept)) FS):=rfl;have I:=lW (f:=("kept" : Str)) (a:=iV 0) (st0:=st0) (fr:=mpI P.n (nI (piv S r e).free)) (kp:=mpI P.m (nI S.kept)) (fs:=FS) (m (some (.d (.int (r:Int)))) (some (.d (.int (e:Int)))) (some TR) (some (.d (.int S.p))) (some LN) (some (.d (.int (nI S.free e)))) _) Q
  have B:iV 1 [some (.h (st0.length+2)),some (.d (.int (r:Int))),some (.d (.int (e:Int))),some TR,some (.d (.int S.p)),some LN,some (.d (.int (nI S.free e)))] (stG st0 (mpI P.n (nI (piv S r e).free)) (mpI P.m (nI S.kept)) FS)=some (.d (.int (r:Int)),stG st0 (mpI P.n (nI (piv S r e).free)) (mpI P.m (nI S.kept)) FS):=rfl;have F:fH (stG st0 (mpI P.n (nI (piv S r e).free)) (mpI P.m (nI S.kept)) FS) (.h (st0.length+1)) (.d (.int (r:Int))) (.d (.int (nI S.free e)))=some (stG st0 (mpI P.n (nI (piv S r e).free)) (mpI P.m (nI (piv S r e).kept)) FS):=by
   simp only[fH,sg1,qaa,aA,dA y,qai,ss1,gw]
   congr 3
   congr 1
   funext j
   show _=(((if j=r then S.free e else S.kept j:Nat)):Int);by_cases q:j=r
   ·rw[if_pos q,if_pos q];rfl
   ·rw[if_neg q,if_neg q];rfl
  simp only[bu,H,I,B,qaa,F,qai]
 have:=fin _ _ (ai s3 (ai s4 (ai X (ai s6 (ai s7 (ai N (ai s9 (ai L J)))))))) ?_
 ·rw[this,<-u];rfl
 ·refine qdj ?_
  unfold stO stG;rw[qaB,qaB];exact qar _
end Own
namespace Sx
def sumN_abs {n:Nat}{f:Nat->Int}{B:Nat} (h:∀ k,k<n->(f k).natAbs<=B):(sumN n f).natAbs<=n*B:=by
 induction n with
 |zero=>rw[sumN];omega
 |succ n q=>
  rw[sumN,qjW,qhe];have p:=q λk e=>h k (by omega);have w:=h n (by omega);have x:=Int.natAbs_add_le (sumN n f) (f n);omega
def sg_abs (k:Nat):(sg k).natAbs=1:=by unfold sg;split<;>rfl
def det_le {B X:Nat}:∀ (m:Nat) {C:Nat->Vec},m*B<=X->(∀ k t,k<m->t<m->(C k t).natAbs<=B)->(det m C).natAbs<=X^m
 |0,C,_,_=>by rw[det];exact qar _
 |m+1,C,u,h=>by
  rw[det];have hm:m*B<=X:=qa3 (qcv B (by omega)) u
  have:=sumN_abs (n:=m+1) (f:=λk=>sg k*C k 0*det m (λj t=>C (skip k j) (t+1))) (B:=B*X^m) λk e=>by
   have q:=det_le m (C:=λj t=>C (skip k j) (t+1)) hm λj t E d=>h _ _ (by unfold skip;split<;>omega) (by omega);rw[qc1,qc1,sg_abs,qhe];exact qcZ (h k 0 e (by omega)) q
  refine qa3 this ?_;rw[<-Nat.mul_assoc,qgK,qgL (X^m)];exact qcv _ u
structure Bd (P:Pb):Prop where
 m64:P.m<=64
 n64:P.n<=100
 A:∀ k,k<P.n+P.m->∀ t,t<P.m->(P.A k t).natAbs<=2^50
 b:∀ t,t<P.m->(P.b t).natAbs<=2^50
 g:∀ k,k<P.n+P.m->(P.g k).natAbs<=2^50
variable {P:Pb}
def Bd.det (h:Bd P) {C:Nat->Vec} (y:∀ k t,k<P.m->t<P.m->(C k t).natAbs<=2^50):(det P.m C).natAbs<=2^3584:=by
 have hm:=h.m64
 have p:=det_le (B:=2 ^ 50) (X:=2 ^ 56) P.m (C:=C) (by
  have:P.m*2^50<=64*2^50:=qcv _ hm
  exact qa3 this (by decide)) y
 refine qa3 p ?_;rw[<-qjV];exact qcu (by decide) (by omega)
def unit_le (r t:Nat):(unit r t).natAbs<=2^50:=by unfold unit;split<;>decide
def Bd.basis (h:Bd P) {S:Tb} (hn:Named P S) {v:Vec} (z:∀ t,t<P.m->(v t).natAbs<=2^50) (i k t:Nat) (e:k<P.m) (d:t<P.m):(upd (basis P S) i v k t).natAbs<=2^50:=by
 unfold upd;split
 ·exact z t d
 ·exact h.A _ (hn.bound.2 k e) t d
def Bd.T (h:Bd P) {S:Tb} (hg:Good P S) (hn:Named P S) {i c:Nat} (o:i<P.m) (l:c<=P.n):(S.T i c).natAbs<=2^3584:=by
 rw[hg.entry l o];refine h.det λk t e d=>h.basis hn (λt d=>?_) i k t e d;unfold colV;by_cases a:c<P.n
 ·rw[if_pos a];exact h.A _ (hn.bound.1 c a) t d
 ·rw[if_neg a];exact h.b t d
def Bd.L (h:Bd P) {S:Tb} (hn:Named P S) (i s:Nat):(LV P S i s).natAbs<=2^3584:=by
 refine h.det λk t e d=>h.basis hn (λt d=>?_) i k t e d;unfold XV;split
 ·exact h.b t d
 ·exact unit_le _ _
def Bd.p (h:Bd P) {S:Tb} (hg:Good P S) (hn:Named P S):S.p.natAbs<=2^3584:=by
 rw[hg.dt];exact h.det λk t e d=>h.A _ (hn.bound.2 k e) t d
def Bd.G (h:Bd P) {S:Tb} (hg:Good P S) (hn:Named P S) {c:Nat} (l:c<=P.n):(S.G c).natAbs<=65*(2^50*2^3584):=by
 rw[hg.goal c l];have p:=sumN_abs (n:=P.m) (f:=λi=>P.g (S.kept i)*S.T i c) (B:=2^50*2^3584) λi o=>by
  rw[qc1];exact qcZ (h.g _ (hn.bound.2 i o)) (h.T hg hn o l)
 have w:(S.p*gainC P S c).natAbs<=2^50*2^3584:=by
  rw[qc1,qgL];refine qcZ ?_ (h.p hg hn);unfold gainC;by_cases a:c<P.n
  ·rw[if_pos a];exact h.g _ (hn.bound.1 c a)
  ·rw[if_neg a];decide
 have x:=Int.natAbs_sub_le (sumN P.m λi=>P.g (S.kept i)*S.T i c) (S.p*gainC P S c);have D:P.m*(2^50*2^3584)<=64*(2^50*2^3584):=qcv _ h.m64;generalize 2^50*2^3584=Z at *;omega
end Sx
set_option maxHeartbeats 1000000
namespace Own
open PySem L2
open Sx (Pb Tb Good Named Fe LV ZV piv lexP leastR leaveL sumN unit colV basis)
def wj {a b:Nat} (h:a<b):2^a<2^b:=Nat.pow_lt_pow_right (by decide) h
def zq {z:Int} (h:z.natAbs<=2^3584):Sm z:=qbJ h (wj (by decide))
def DE {z:Int} (h:z.natAbs<=65*(2^50*2^3584)):Sm z:=by
 refine qbJ h ?_;refine qbJ (qcv (2^50*2^3584) (by decide:65<=2^7)) ?_;rw[<-qhd,<-qhd];exact wj (by decide)
def Dv {P:Pb}{S:Tb} (b:Sx.Bd P) (g:Good P S) (n:Named P S):Okt P S:=by
 have e:=b.m64;exact⟨g,n,by lia,b.n64,λi c d a=>zq (b.T g n d a),λi s _ _=>zq (b.L n i s),λc a=>DE (b.G g n a),zq (b.p g n)⟩
def B3 {c:Tf}{b:Sf}{m:Nat}{env:Ev}{st s:Sto} (h:c env st=some (false,s)):cu c b (m+1) env st=some (.nx env s):=by
 rw[cu,h];rfl
def z8 {c:Tf}{b:Sf}{m:Nat}{env e:Ev}{st s a:Sto}{r:Option Fl} (h:c env st=some (true,s)) (hb:b env s=some (.nx e a)) (d:cu c b m e a=r):cu c b (m+1) env st=r:=by
 rw[cu,h];show ((b env s).bind _)=_;rw[hb];exact d
def Gi {c:Tf}{b:Sf}{m:Nat}{env:Ev}{st s a:Sto}{w:W} (h:c env st=some (true,s)) (hb:b env s=some (.rt w a)):cu c b (m+1) env st=some (.rt w a):=by
 rw[cu,h];show ((b env s).bind _)=_;rw[hb];rfl
def lT {st:Sto}{a0 a2:Option W}:∀ (n a b:Nat) (o:Option W),b<n->∃ c,cu eM fg n [a0,some (.d (.int (a:Int))),a2,some (.d (.int (b:Int))),o] st=some (.nx [a0,some (.d (.int ((qfk a b:Nat):Int))),a2,some (.d (.int 0)),c] st)
 |0,a,b,o,h=>by lia
 |n+1,a,b,o,h=>by
  by_cases hb:b=0
  ·subst hb
   refine⟨o,?_⟩;rw[Nat.gcd_zero_right];exact B3 rfl
  ·have i:(!((b:Int)==(0:Int)))=true:=by simp;lia
   obtain⟨c,j⟩:=lT n b (a%b) (some (.d (.int ((a%b:Nat):Int)))) (by have:=Nat.mod_lt a (Nat.pos_of_ne_zero hb);lia);refine⟨c,?_⟩;have g:qfk a b=qfk b (a%b):=by rw[qjD a b,Nat.gcd_rec b a,qjD]
   have f:(0:Int)<(b:Int):=by lia
   have e:dO st (.d (.int (a:Int))) (.d (.int (b:Int)))=some (.int ((a%b:Nat):Int)):=by
    simp only[dO,f,if_true];rfl
   rw[g,<-j];exact z8 (s:=st) (ay rfl rfl ((BY st _).trans (by rw[i]))) (ai (aq (ae rfl rfl e)) rfl) rfl
def vS {st:Sto}{ns:List Int}{d0:D} (j:∀ (l:Ev) (s:Sto),aC (iV 0) (some (.d d0)::l) s=some (ns.map D.int,s)) (hn:∀ n∈ns,Sm n):br [.d d0] st=some (.d (.int ((ci 0 ns:Nat):Int)),st):=by
 obtain⟨m,w,o,⟨c,h,a,rfl⟩,rfl⟩:=bN (g:=.nm 2) (body:=fu) (ds:=ns.map D.int) (λi env s=>(∃ c h a,env=[some (.d d0),some (.d (.int ((ci 0 (ns.take i):Nat):Int))),c,h,a])/\s=st)
  (env:=[some (.d d0),some (.d (.int 0)),none,none,none]) (st:=st) ⟨⟨_,_,_,rfl⟩,rfl⟩ (λi d env s hd ⟨⟨c,h,a,e⟩,es⟩=>by
   subst e es;rw[qaD,qad]at hd;obtain⟨n,p,rfl⟩:=hd;obtain⟨r,f⟩:=qas.mp p;have hb:=hn n (qbT p);have u:vh s [.d (.int n)]=some (.int ((n.natAbs:Nat):Int)):=by
    show some (D.int (if n<0 then -n else n))=_;rw[show (if n<0 then -n else n)=((n.natAbs:Nat):Int) by split<;>lia]
   have v:ci 0 (ns.take (i+1))=qfk (ci 0 (ns.take i)) n.natAbs:=by
    rw[List.take_succ_eq_append_getElem r,f,sN]
   obtain⟨q,t⟩:=lT (st:=s) (a0:=some (.d d0)) (a2:=some (.d (.int n))) (2^8000) (ci 0 (ns.take i)) n.natAbs a (qez hb (wj (by decide)));refine⟨_,[some (.d d0),some (.d (.int ((ci 0 (ns.take (i+1)):Nat):Int))),some (.d (.int n)),some (.d (.int 0)),q],s,rfl,.inl ?_,⟨_,_,_,rfl⟩,rfl⟩;rw[v]
   exact ai (aq (aV (ab rfl rfl) u)) t)
 rw[qah,qea]at o;exact aB (n:=5) (k:=1) (b:=im) rfl (ai rfl (ai (bE (j _ _) o) rfl))
def mT {st:Sto}{ns:List Int} (hn:∀ n∈ns,Sm n):br [.d (.lst (ns.map D.int))] st=some (.d (.int ((ci 0 ns:Nat):Int)),st):=vS (λ_ _=>bg rfl) hn
def qx {te:Ef}{st:Sto}{ns:List Int}{g:Int} (b:0<g) (hg:Sm g) (a:te=iOp mm (iV 0) (iV 1)):lcI (.nm 0) aL te [none,some (.d (.int g))] (ns.map D.int) st=some ((ns.map λx=>x / g).map D.int,st):=by
 subst a;have h:=jo (g:=.nm 0) (te:=iOp mm (iV 0) (iV 1)) (env:=[none,some (.d (.int g))]) (st:=st) (λd=>match d with|.int x=>.int (x / g)|d=>d) (ds:=ns.map D.int) λd hd=>by
  obtain⟨y,c,rfl⟩:=qaX.mp hd;exact⟨_,rfl,ae rfl rfl (qz st b hg)⟩
 rw[h,qaR,qaR];rfl
def lm {ns:List Int}{x:Int} (a:x∈ns) (x0:x≠0) (b:Sm x):0<((ci 0 ns:Nat):Int)/\Sm ((ci 0 ns:Nat):Int):=by
 obtain⟨g0,g1⟩:=x3 a x0;refine⟨by lia,?_⟩;show ((ci 0 ns:Nat):Int).natAbs<_;rw[Int.natAbs_natCast];exact qbJ g1 b
def uj {st:Sto}{ns:List Int} (hb:∀ x∈ns,Sm x) (e:∃ x∈ns,x≠0) (j:ns.length<=1000):dg [.d (.lst (ns.map D.int))] st=some (.d (.tup ((ns.map λx=>x / ((ci 0 ns:Nat):Int)).map D.int)),st):=by
 obtain⟨x,c,x0⟩:=e;have h:=mT (st:=st) hb;obtain⟨g0,g1⟩:=lm c x0 (hb x c);generalize ((ci 0 ns:Nat):Int)=g at *;have f0:(g==(0:Int))=false:=by simp;lia
 have a:=qx (te:=fF) (st:=st) (ns:=ns) g0 g1 rfl;have f:(ns.map D.int).length<=1000000:=by rw[qah];lia
 generalize (ns.map λx=>x / g).map D.int=G at *;generalize ns.map D.int=N at *;exact aB (n:=2) (k:=1) (b:=jd) rfl (ai (aq (i:=1) (ak rfl h)) (ai (bA (ay rfl rfl (by rw[dU,f0])) rfl) (aP (aV (ab (aD (aZ (bg rfl) f a)) rfl) rfl))))
def acc (e:Nat->Nat) (y:Nat->Int) (i k:Nat):Int:=sumN i λj=>if e j=k then y j else 0
def rY (e:Nat->Nat) (y:Nat->Int) (i k:Nat):acc e y (i+1) k=acc e y i k+if e i=k then y i else 0:=rfl
def ow {e:Nat->Nat}{y:Nat->Int}{i k:Nat} (h:∀ j,j<i->e j≠k):acc e y i k=0:=by
 unfold acc;rw[Sx.sumN_congr (g:=λ_=>0) λj a=>if_neg (h j a),Sx.sumN_zero]
def qB {e:Nat->Nat}{y:Nat->Int}{d N i:Nat} (hd:d<=e i) (c:∀ j,j<i->e j≠e i):(mpI N λr=>acc e y i (d+r)).set (e i - d) (.int (y i))=mpI N λr=>acc e y (i+1) (d+r):=by
 rw[gw];refine bL λr _=>?_;rw[rY];by_cases b:r=e i - d
 ·rw[if_pos b,if_pos (by lia),ow λj a=>by have:=c j a;lia];lia
 ·rw[if_neg b,if_neg (by lia)];lia
def rW {e:Nat->Nat}{y:Nat->Int}{d N i:Nat} (h:∀ r,r<N->e i≠d+r):(mpI N λr=>acc e y i (d+r))=mpI N λr=>acc e y (i+1) (d+r):=by
 refine bL λr a=>?_;rw[rY,if_neg (h r a)];lia
def zh (n:Nat) (e:Nat->Nat) (y:Nat->Int) (d:Nat):(qaz n [D.int 0]).flatten=mpI n λr=>acc e y 0 (d+r):=by
 show _=(qag n).map λ_=>D.int 0
 induction n with
 |zero=>rfl
 |succ n a=>rw[qgO,qgZ,a,qer,qbR];rfl
def je {f:Ef}{env:Ev}{st:Sto}{n:Nat} (b:f env st=some (.d (.int (n:Int)),st)) (hn:n<=900) (e:Nat->Nat) (y:Nat->Int) (d:Nat):dh (tj nF (ar (bR (aa (iC (.int 0)) ac))) f) env st=some (.h st.length,st++[.l (mpI n λr=>acc e y 0 (d+r))]):=by
 have a:tj nF (ar (bR (aa (iC (.int 0)) ac))) f env st=some (mpI n λr=>acc e y 0 (d+r),st):=by
  show ((f env st).bind λq=>(nF q.2 (.d (.lst [.int 0])) q.1).map λl=>(l,q.2))=_;rw[b];show (nF st (.d (.lst [.int 0])) (.d (.int (n:Int)))).map (λl=>(l,st))=_;unfold nF;dsimp only;rw[if_pos ⟨by show 1<=1000;decide,by lia,by lia⟩,qbg,zh n e y d];rfl
 simp only[dh,a,qai]
end Own
set_option maxHeartbeats 1000000
namespace Own
open PySem L2
open Sx (Pb Tb Good Named Fe LV ZV piv lexP leastR leaveL sumN unit colV basis)
def sIx {o i v:Ef}{env:Ev}{st:Sto}{xs:List D}{k:Nat}{d:D} (e:v env (st++[.l xs])=some (.d d,st++[.l xs])) (a:o env (st++[.l xs])=some (.h st.length,st++[.l xs])) (b:i env (st++[.l xs])=some (.d (.int (k:Int)),st++[.l xs])) (c:k<xs.length):bu o i v env (st++[.l xs])=some (.nx env (st++[.l (xs.set k d)])):=by
 have f:fH (st++[.l xs]) (.h st.length) (.d (.int (k:Int))) (.d d)=some (st++[.l (xs.set k d)]):=by
  simp only[fH,i9,qaa,dA c,qai,nO]
 simp only[bu,e,a,b,qaa,f,qai]
def qA {a:Ef}{env:Ev}{st:Sto}{m:Nat}{f:Nat->Nat} (h:a env st=some (.d (.lst (mpI m (nI f))),st)):cb (aa a ac) env st=some ((qag m).map λi=>D.tup [.int ((i:Nat):Int),.int (nI f i)],st):=by
 have:=ab (b:=ac) h rfl
 rw[<-v5];simp only[cb,this,qaa]
def n8 {m:Nat}{g:Nat->D}{i:Nat}{d:D} (h:((qag m).map g)[i]?=some d):i<m/\d=g i:=by
 rw[qaD,qad]at h;obtain⟨k,c,rfl⟩:=h;obtain⟨b,a⟩:=qas.mp c;rw[qhg]at a;rw[qat]at b;exact⟨b,by rw[a]⟩
def jl:∀ ns:List Int,ua (ns.map D.int)=true
 |[]=>rfl
 |n::ns=>jl ns
def zt (n:Nat) (f:Nat->Int):okT (.tup (mpI n f))=true:=by
 rw[bQ];exact jl _
section
variable {P:Pb}{S:Tb}{st:Sto}
def FB (h:Okt P S):gx [.d (obD P S)] st=some (.d (.lst (mpI P.n λk=>acc S.kept (λi=>S.T i P.n) P.m k)),st):=by
 have hm:=h.m64;have hn:=h.n64;generalize K:(λi=>S.T i P.n)=y;have p:∀ (a b c:Option W) (s:Sto),iV 0 [some (.d (obD P S)),a,b,c] s=some (.d (obD P S),s):=λ_ _ _ _=>rfl;have s1:=je (st:=st) (cj (p none none none st)) (by lia) S.kept y 0;obtain⟨A,s2,B,⟨q,t,rfl⟩,rfl⟩:=bN (g:=.tp [2,3]) (body:=iM) (ds:=(qag P.m).map λi=>D.tup [.int ((i:Nat):Int),.int (nI S.kept i)])
  (λi env s=>(∃ q t,env=[some (.d (obD P S)),some (.h st.length),q,t])/\s=st++[.l (mpI P.n λr=>acc S.kept y i (0+r))])
  (env:=[some (.d (obD P S)),some (.h st.length),none,none]) (st:=st++[.l (mpI P.n λr=>acc S.kept y 0 (0+r))]) ⟨⟨_,_,rfl⟩,rfl⟩ (λi d env s hd ⟨⟨q,t,e⟩,es⟩=>by
   subst e es;obtain⟨m,rfl⟩:=n8 hd;refine⟨_,_,_,rfl,.inl ?_,⟨some (.d (.int ((i:Nat):Int))),some (.d (.int (nI S.kept i))),rfl⟩,rfl⟩;generalize v:(mpI P.n λr=>acc S.kept y i (0+r))=xs;have tl:aE dLt (iV 3) (ao ("amounts" : Str) (iV 0)) [some (.d (obD P S)),some (.h st.length),some (.d (.int ((i:Nat):Int))),some (.d (.int (nI S.kept i)))] (st++[.l xs])=some (decide (nI S.kept i<(P.n:Int)),st++[.l xs]):=ay rfl (cj (p _ _ _ _)) (zL _ _ _)
   by_cases u:S.kept i<P.n
   ·rw[decide_eq_true (by show ((S.kept i:Nat):Int)<_;lia)]at tl
    have J:iOp dIx (iOp dIx (ao ("lines" : Str) (iV 0)) (iV 2)) (iUn ju (iC (.int 1))) [some (.d (obD P S)),some (.h st.length),some (.d (.int ((i:Nat):Int))),some (.d (.int (nI S.kept i)))] (st++[.l xs])=some (.d (.int (y i)),st++[.l xs]):=by
     rw[<-K];exact ae (ae (cP (p _ _ _ _)) rfl (s0 _ m)) rfl (vJ _)
    have:=sIx (k:=S.kept i) J (o:=iV 1) (i:=iV 3) rfl rfl (by rw[<-v,aA];exact u)
    rw[<-v]at this ⊢ tl;rw[<-qB (d:=0) (N:=P.n) (e:=S.kept) (y:=y) (i:=i) (by lia) λj G e=>by have:=iy h.good (by lia) m e;lia];exact dq tl this
   ·rw[decide_eq_false (by show ¬ ((S.kept i:Nat):Int)<_;lia)]at tl
    rw[<-rW (d:=0) (N:=P.n) (e:=S.kept) (y:=y) (i:=i) λr H=>by lia,v]
    exact bA tl rfl)
 rw[qah,qat]at B
 have:=mC (n:=4) (k:=1) (b:=kL) (ws:=[.d (obD P S)]) (st:=st) (h:=st.length) rfl (ai (aq s1) (ai (bE (qA (rg (p _ _ _ _))) B) rfl)) (qar _) (i9 _ _)
 rw[qdu]at this;simp only[qaT]at this;exact this
def pr (P:Pb) (S:Tb) (i r:Nat):Int:=if ∃ c,c<i/\S.free c=P.n+r then ZV P S (r+1) else 0
def E7 (h:Okt P S) (hg:∀ r,r<P.m->P.g (P.n+r)=0):iw [.d (obD P S)] st=some (.d (.lst (mpI P.m λr=>ZV P S (r+1))),st):=by
 have hm:=h.m64;have hn:=h.n64;have p:∀ (a b c:Option W) (s:Sto),iV 0 [some (.d (obD P S)),a,b,c] s=some (.d (obD P S),s):=λ_ _ _ _=>rfl;have hz:(mpI P.m λr=>acc S.free S.G 0 (0+r))=mpI P.m λr=>pr P S 0 r:=bL λr _=>by
  unfold pr;rw[if_neg λ⟨c,R,_⟩=>by lia];rfl
 have M:iCB aX (aa (ao ("lines" : Str) (iV 0)) ac) [some (.d (obD P S)),none,none,none] st=some (.d (.int ((P.m:Nat):Int)),st):=by
  have:=aV (g:=aX) (ab (b:=ac) (cP (p none none none st)) rfl) (kQ _ _)
  rw[cE]at this;exact this
 have s1:=je (st:=st) M (by lia) S.free S.G 0;rw[hz]at s1;obtain⟨A,s2,B,⟨q,t,rfl⟩,rfl⟩:=bN (g:=.tp [2,3]) (body:=jy) (ds:=(qag P.n).map λi=>D.tup [.int ((i:Nat):Int),.int (nI S.free i)])
  (λi env s=>(∃ q t,env=[some (.d (obD P S)),some (.h st.length),q,t])/\s=st++[.l (mpI P.m λr=>pr P S i r)])
  (env:=[some (.d (obD P S)),some (.h st.length),none,none]) (st:=st++[.l (mpI P.m λr=>pr P S 0 r)]) ⟨⟨_,_,rfl⟩,rfl⟩ (λi d env s hd ⟨⟨q,t,e⟩,es⟩=>by
   subst e es;obtain⟨m,rfl⟩:=n8 hd;refine⟨_,_,_,rfl,.inl ?_,⟨some (.d (.int ((i:Nat):Int))),some (.d (.int (nI S.free i))),rfl⟩,rfl⟩;have hb:=h.named.bound.1 i m;generalize v:(mpI P.m λr=>pr P S i r)=xs;have tl:aE dGe (iV 3) (ao ("amounts" : Str) (iV 0)) [some (.d (obD P S)),some (.h st.length),some (.d (.int ((i:Nat):Int))),some (.d (.int (nI S.free i)))] (st++[.l xs])=some (decide (nI S.free i>=(P.n:Int)),st++[.l xs]):=ay rfl (cj (p _ _ _ _)) (FG _ _ _)
   by_cases u:P.n<=S.free i
   ·rw[decide_eq_true (by show ((S.free i:Nat):Int)>=_;lia)]at tl
    have ho:iOp kf (iV 3) (ao ("amounts" : Str) (iV 0)) [some (.d (obD P S)),some (.h st.length),some (.d (.int ((i:Nat):Int))),some (.d (.int (nI S.free i)))] (st++[.l xs])=some (.d (.int ((S.free i - P.n:Nat):Int)),st++[.l xs]):=by
     rw[show ((S.free i - P.n:Nat):Int)=nI S.free i - (P.n:Int) by show _=((S.free i:Nat):Int) - _;lia];exact ae rfl (cj (p _ _ _ _)) rfl
    have J:iOp dIx (ao ("goal" : Str) (iV 0)) (iV 2) [some (.d (obD P S)),some (.h st.length),some (.d (.int ((i:Nat):Int))),some (.d (.int (nI S.free i)))] (st++[.l xs])=some (.d (.int (S.G i)),st++[.l xs]):=ae (mH (p _ _ _ _)) rfl (eY _ (by lia))
    have:=sIx (k:=S.free i - P.n) J (o:=iV 1) (i:=iOp kf (iV 3) (ao ("amounts" : Str) (iV 0))) rfl ho (by rw[<-v,aA];lia)
    have F:xs.set (S.free i - P.n) (.int (S.G i))=mpI P.m λr=>pr P S (i+1) r:=by
     rw[<-v,gw];refine bL λr H=>?_;by_cases er:r=S.free i - P.n
     ·rw[if_pos er]
      unfold pr;rw[if_pos ⟨i,by lia,by lia⟩];exact (Sx.price_free h.good h.named hg H m (by lia)).symm
     ·rw[if_neg er]
      unfold pr;by_cases ex:∃ c,c<i/\S.free c=P.n+r
      ·rw[if_pos ex];obtain⟨c,L,w⟩:=ex;rw[if_pos ⟨c,by lia,w⟩]
      ·rw[if_neg ex,if_neg λ⟨c,L,w⟩=>ex ⟨c,by
        by_cases z:c=i
        ·subst z;lia
        ·lia,w⟩]
    rw[<-F];exact dq tl this
   ·rw[decide_eq_false (by show ¬ ((S.free i:Nat):Int)>=_;lia)]at tl
    have F:xs=mpI P.m λr=>pr P S (i+1) r:=by
     rw[<-v];refine bL λr H=>?_;unfold pr;by_cases ex:∃ c,c<i/\S.free c=P.n+r
     ·rw[if_pos ex];obtain⟨c,L,w⟩:=ex;rw[if_pos ⟨c,by lia,w⟩]
     ·rw[if_neg ex,if_neg λ⟨c,L,w⟩=>ex ⟨c,by
        by_cases z:c=i
        ·subst z;lia
        ·lia,w⟩]
    rw[<-F]
    exact bA tl rfl)
 rw[qah,qat]at B
 have:=mC (n:=4) (k:=1) (b:=lZ) (ws:=[.d (obD P S)]) (st:=st) (h:=st.length) rfl (ai (aq s1) (ai (bE (qA (mI (p _ _ _ _))) B) rfl)) (qar _) (i9 _ _)
 rw[qdu]at this
 rw[bL (f:=λr=>pr P S P.n r) (g:=λr=>ZV P S (r+1)) λr H=>by
  unfold pr;by_cases ex:∃ c,c<P.n/\S.free c=P.n+r
  ·rw[if_pos ex]
  ·rw[if_neg ex]
   rcases h.named.all (P.n+r) (by lia) with R|⟨j,G,e⟩
   ·exact absurd R ex
   ·exact (Sx.price_kept h.good h.named hg H G e).symm]at this
 exact this
def Gh (h:Okt P S) {e:Nat} (he:e<P.n) (ht:∀ i,i<P.m->S.T i e<=0) (hp:∃ k,k<P.n/\Sx.wayN P S e k≠0):∃ g:Int,0<g/\(∀ k,k<P.n->g∣Sx.wayN P S e k)/\kt [.d (obD P S),.d (.int (e:Int))] []=some (.d (.tup (mpI P.n λk=>Sx.wayN P S e k / g)),[]):=by
 have hm:=h.m64;have hn:=h.n64;have p:∀ (a b c d:Option W) (s:Sto),iV 0 [some (.d (obD P S)),a,b,c,d] s=some (.d (obD P S),s):=λ_ _ _ _ _=>rfl;have V:∀ i,i<P.m->S.kept i≠S.free e:=λi m e1=>by
  have L:=h.good.entry (c:=e) (by lia) m;have w:colV P S e=basis P S i:=by unfold colV basis;rw[if_pos he,e1]
  rw[w,Sx.upd_self,<-h.good.dt]at L
  have:=ht i m
  have:=h.good.pos
  lia
 generalize K:(λi=>- S.T i e)=y;have hw:∀ k,Sx.wayN P S e k=if k=S.free e then S.p else acc S.kept y P.m k:=λk=>by
  show Sx.byName P S (λi=>- S.T i e) k+(if S.free e=k then S.p else 0)=_;rw[K];by_cases u:k=S.free e
  ·rw[if_pos u,if_pos u.symm,Sx.byName_not λi m=>by rw[u];exact V i m];lia
  ·rw[if_neg u,if_neg (qbC u)]
   show acc S.kept y P.m k+0=_;lia
 have s1:=je (st:=[]) (cj (p (some (.d (.int (e:Int)))) none none none [])) (by lia) S.kept y 0;obtain⟨A,s2,B,⟨q,t,rfl⟩,rfl⟩:=bN (g:=.tp [3,4]) (body:=nU) (ds:=(qag P.m).map λi=>D.tup [.int ((i:Nat):Int),.int (nI S.kept i)])
  (λi env s=>(∃ q t,env=[some (.d (obD P S)),some (.d (.int (e:Int))),some (.h 0),q,t])/\s=[]++[.l (mpI P.n λr=>acc S.kept y i (0+r))])
  (env:=[some (.d (obD P S)),some (.d (.int (e:Int))),some (.h 0),none,none]) (st:=[]++[.l (mpI P.n λr=>acc S.kept y 0 (0+r))]) ⟨⟨_,_,rfl⟩,rfl⟩ (λi d env s hd ⟨⟨q,t,e0⟩,es⟩=>by
   subst e0 es;obtain⟨m,rfl⟩:=n8 hd;refine⟨_,_,_,rfl,.inl ?_,⟨some (.d (.int ((i:Nat):Int))),some (.d (.int (nI S.kept i))),rfl⟩,rfl⟩;generalize v:(mpI P.n λr=>acc S.kept y i (0+r))=xs;have tl:aE dLt (iV 4) (ao ("amounts" : Str) (iV 0)) [some (.d (obD P S)),some (.d (.int (e:Int))),some (.h 0),some (.d (.int ((i:Nat):Int))),some (.d (.int (nI S.kept i)))] ([]++[.l xs])=some (decide (nI S.kept i<(P.n:Int)),[]++[.l xs]):=ay rfl (cj (p _ _ _ _ _)) (zL _ _ _)
   by_cases u:S.kept i<P.n
   ·rw[decide_eq_true (by show ((S.kept i:Nat):Int)<_;lia)]at tl
    have J:iUn ju (iOp dIx (iOp dIx (ao ("lines" : Str) (iV 0)) (iV 3)) (iV 1)) [some (.d (obD P S)),some (.d (.int (e:Int))),some (.h 0),some (.d (.int ((i:Nat):Int))),some (.d (.int (nI S.kept i)))] ([]++[.l xs])=some (.d (.int (y i)),[]++[.l xs]):=by
     rw[<-K]
     have:=ae (g:=dIx) (ae (g:=dIx) (cP (p (some (.d (.int (e:Int)))) (some (.h 0)) (some (.d (.int ((i:Nat):Int)))) (some (.d (.int (nI S.kept i)))) ([]++[C.l xs]))) (b:=iV 3) rfl (s0 _ m)) (b:=iV 1) rfl (sP (c:=e) _ (by lia))
     simp only[iUn,this,qaa];rfl
    have:=sIx (st:=[]) (k:=S.kept i) J (o:=iV 2) (i:=iV 4) rfl rfl (by rw[<-v,aA];exact u)
    rw[<-v]at this ⊢ tl;rw[<-qB (d:=0) (N:=P.n) (e:=S.kept) (y:=y) (i:=i) (by lia) λj G e=>by have:=iy h.good (by lia) m e;lia];exact dq tl this
   ·rw[decide_eq_false (by show ¬ ((S.kept i:Nat):Int)<_;lia)]at tl
    rw[<-rW (d:=0) (N:=P.n) (e:=S.kept) (y:=y) (i:=i) λr H=>by lia,v]
    exact bA tl rfl)
 rw[qah,qat]at B;have s3:aY (aE dLt (iOp dIx (ao ("free" : Str) (iV 0)) (iV 1)) (ao ("amounts" : Str) (iV 0))) (bu (iV 2) (iOp dIx (ao ("free" : Str) (iV 0)) (iV 1)) (ao ("part" : Str) (iV 0))) aO [some (.d (obD P S)),some (.d (.int (e:Int))),some (.h 0),q,t] ([]++[.l (mpI P.n λr=>acc S.kept y P.m (0+r))])=some (.nx [some (.d (obD P S)),some (.d (.int (e:Int))),some (.h 0),q,t] ([]++[.l (mpI P.n λk=>Sx.wayN P S e k)])):=by
  have qf:∀ s,iOp dIx (ao ("free" : Str) (iV 0)) (iV 1) [some (.d (obD P S)),some (.d (.int (e:Int))),some (.h 0),q,t] s=some (.d (.int (nI S.free e)),s):=λs=>ae (mI (p _ _ _ _ _)) rfl (eY _ he)
  generalize v:(mpI P.n λr=>acc S.kept y P.m (0+r))=xs;have tl:aE dLt (iOp dIx (ao ("free" : Str) (iV 0)) (iV 1)) (ao ("amounts" : Str) (iV 0)) [some (.d (obD P S)),some (.d (.int (e:Int))),some (.h 0),q,t] ([]++[.l xs])=some (decide (nI S.free e<(P.n:Int)),[]++[.l xs]):=ay (qf _) (cj (p _ _ _ _ _)) (zL _ _ _)
  by_cases u:S.free e<P.n
  ·rw[decide_eq_true (by show ((S.free e:Nat):Int)<_;lia)]at tl
   have:=sIx (st:=[]) (k:=S.free e) (mB (p (some (.d (.int (e:Int)))) (some (.h 0)) q t ([]++[C.l xs]))) (o:=iV 2) (i:=iOp dIx (ao ("free" : Str) (iV 0)) (iV 1)) rfl (qf _) (by rw[<-v,aA];exact u)
   have F:xs.set (S.free e) (.int S.p)=mpI P.n λk=>Sx.wayN P S e k:=by
    rw[<-v,gw];refine bL λk _=>?_;rw[hw k,qaT]
   rw[F]at this;exact dq tl this
  ·rw[decide_eq_false (by show ¬ ((S.free e:Nat):Int)<_;lia)]at tl
   have F:xs=mpI P.n λk=>Sx.wayN P S e k:=by
    rw[<-v];refine bL λk hk'=>?_;rw[hw k,qaT,if_neg (by lia)]
   rw[<-F];exact bA tl rfl
 obtain⟨Y,E,I⟩:=hp;have O:∀ x∈(qag P.n).map (Sx.wayN P S e),Sm x:=λx hx=>by
  obtain⟨k,u,rfl⟩:=qaX.mp hx;rw[hw k];by_cases z:k=S.free e
  ·rw[if_pos z];exact h.sp
  ·rw[if_neg z]
   by_cases ex:∃ i,i<P.m/\S.kept i=k
   ·obtain⟨i,m,rfl⟩:=ex
    have:acc S.kept y P.m (S.kept i)=y i:=Sx.byName_at (λi j m G=>iy h.good m G) m
    rw[this,<-K];show (- S.T i e).natAbs<_;rw[qig];exact h.sT i e m (by lia)
   ·rw[ow λj G e=>ex ⟨j,G,e⟩]
    exact qeZ (by decide)
 have Q:=uj (st:=[]) O ⟨_,qaX.mpr ⟨Y,qaU.mpr E,rfl⟩,I⟩ (by rw[qah,qat];lia);obtain⟨g0,g1⟩:=lm (ns:=(qag P.n).map (Sx.wayN P S e)) (qaX.mpr ⟨Y,qaU.mpr E,rfl⟩) I (O _ (qaX.mpr ⟨Y,qaU.mpr E,rfl⟩));have gd:∀ k,k<P.n->((ci 0 ((qag P.n).map (Sx.wayN P S e)):Nat):Int)∣Sx.wayN P S e k:=λk u=>qcH.mpr ((dD 0 _).2 _ (qaX.mpr ⟨k,qaU.mpr u,rfl⟩));generalize hG:((ci 0 ((qag P.n).map (Sx.wayN P S e)):Nat):Int)=g at *;refine⟨g,g0,gd,?_⟩;rw[<-bQ,qaR,qaR]at Q;have R:dj dg (aa (iV 2) ac) [some (.d (obD P S)),some (.d (.int (e:Int))),some (.h 0),q,t] ([]++[.l (mpI P.n λk=>Sx.wayN P S e k)])=some (.d (.tup (mpI P.n λk=>Sx.wayN P S e k / g)),[]++[.l (mpI P.n λk=>Sx.wayN P S e k)]):=by
  have ha:aa (iV 2) ac [some (.d (obD P S)),some (.d (.int (e:Int))),some (.h 0),q,t] ([]++[.l (mpI P.n λk=>Sx.wayN P S e k)])=some ([.h 0],[]++[.l (mpI P.n λk=>Sx.wayN P S e k)]):=rfl;have X:vwA ([]++[.l (mpI P.n λk=>Sx.wayN P S e k)]) [.h 0]=some [.d (.lst (mpI P.n λk=>Sx.wayN P S e k))]:=rfl;have T:dg [.d (.lst (mpI P.n λk=>Sx.wayN P S e k))] []=some (.d (.tup (mpI P.n λk=>Sx.wayN P S e k / g)),[]):=Q;simp only[dj,ha,qaa,X,T];rw[if_pos];exact zt _ _
 have:=nk (n:=5) (k:=2) (b:=sA) (ws:=[.d (obD P S),.d (.int (e:Int))]) (st:=[]) rfl (ai (aq s1) (ai (bE (qA (rg (p _ _ _ _ _))) B) (ai s3 (aP R))))
 exact this
end
end Own
set_option maxHeartbeats 1000000
namespace Own
open PySem L2
open Sx (Pb Tb Good Named Fe LV ZV piv lexP leastR leaveL sumN unit colV basis)
def mZ {m:Fn}{a:Af}{env:Ev}{st:Sto}{ws vs:List W}{x:D} (c:a env st=some (ws,st)) (e:vwA st ws=some vs) (hm:m vs []=some (.d x,[])) (b:okT x=true):dj m a env st=some (.d x,st):=by
 simp only[dj,c,qaa,e,hm];rw[if_pos b]
structure Pd (P:Pb):Prop where
 bd:Sx.Bd P
 hA:∀ k,k<P.n+P.m->∀ t,P.m<=t->P.A k t=0
 hb:∀ t,P.m<=t->P.b t=0
 hg:∀ r,r<P.m->P.g (P.n+r)=0
section
variable {P:Pb}{S:Tb}
def Pd.okt (d:Pd P) (g:Good P S) (n:Named P S):Okt P S:=Dv d.bd g n
def Pd.kept (d:Pd P) (n:Named P S):∀ i,i<P.m->∀ t,P.m<=t->P.A (S.kept i) t=0:=λi u t E=>d.hA _ (n.bound.2 i u) t E
def Gy (g:Good P S) (f:Fe P S):∀ i,i<P.m->0<=S.T i P.n:=λi u=>by
 have h1:=Sx.lexP_first (by lia) (f i u);rw[g.entry (qar _) u]
 have:colV P S P.n=Sx.XV P 0:=by unfold colV Sx.XV;rw[if_neg (qa8 _),if_pos rfl]
 rw[this];exact h1
structure z7 (P:Pb) (p:Int) (am pr:Nat->Int):Prop where
 p1:1<=p
 am0:∀ k,k<P.n->0<=am k
 pr0:∀ r,r<P.m->0<=pr r
 rows:∀ r,r<P.m->(sumN P.n λj=>am j*P.A j r)<=p*P.b r
 cols:∀ j,j<P.n->p*P.g j<=sumN P.m λr=>P.A j r*pr r
 same:(sumN P.m λr=>P.b r*pr r)=sumN P.n λj=>am j*P.g j
 sp:Sm p
 sa:∀ k,k<P.n->Sm (am k)
 sr:∀ r,r<P.m->Sm (pr r)
structure on (P:Pb) (way:Nat->Int):Prop where
 w0:∀ k,k<P.n->0<=way k
 rows:∀ r,r<P.m->(sumN P.n λj=>way j*P.A j r)<=0
 gain:0<sumN P.n λj=>way j*P.g j
def mQ {g a:Int} (h:g∣a):g*(a / g)=a:=qdE h
def qe {n:Nat}{g:Int}{f h:Nat->Int} (hd:∀ k,k<n->g∣f k):g*(sumN n λk=>f k / g*h k)=sumN n λk=>f k*h k:=by
 rw[<-Sx.sumN_mul];refine Sx.sumN_congr λk m=>?_;rw[<-qbn,mQ (hd k m)]
def wf {n:Nat}{g:Int}{f h:Nat->Int} (hd:∀ k,k<n->g∣f k):g*(sumN n λk=>h k*(f k / g))=sumN n λk=>h k*f k:=by
 rw[<-Sx.sumN_mul];refine Sx.sumN_congr λk m=>?_;rw[qaW,mQ (hd k m)]
def Fj (h:Okt P S) (hg:∀ r,r<P.m->P.g (P.n+r)=0) (A:∀ c,c<P.n->0<=S.G c) {r:Nat} (l:r<P.m):Sm (ZV P S (r+1))/\0<=ZV P S (r+1):=by
 rcases h.named.all (P.n+r) (by lia) with⟨c,N,e⟩|⟨j,v,e⟩
 ·rw[Sx.price_free h.good h.named hg l N e];exact⟨h.sG c (by lia),A c N⟩
 ·rw[Sx.price_kept h.good h.named hg l v e];exact⟨qeZ (by decide),qdw _⟩
def EI (h:Okt P S) (k:Nat):Sm (acc S.kept (λi=>S.T i P.n) P.m k):=by
 by_cases ex:∃ i,i<P.m/\S.kept i=k
 ·obtain⟨i,u,rfl⟩:=ex
  have:acc S.kept (λi=>S.T i P.n) P.m (S.kept i)=S.T i P.n:=Sx.byName_at (λi j u v=>iy h.good u v) u
  rw[this];exact h.sT i P.n u (qar _)
 ·rw[ow λj v e=>ex ⟨j,v,e⟩]
  exact qeZ (by decide)
def ur {g a b:Int} (g0:0<g) (h:g*a<=g*b):a<=b:=Int.le_of_mul_le_mul_left h g0
def Sm.dv {a:Int} (h:Sm a) (q:Int):Sm (a / q):=qbJ (Int.natAbs_ediv_le_natAbs a q) h
def FY (d:Pd P) (g:Good P S) (n:Named P S) (f:Fe P S) (A:∀ c,c<P.n->0<=S.G c):∃ p am pr,z7 P p am pr/\gR [.d (obD P S)] []=some (.d (.tup [.str "most",.int p,.tup (mpI P.n am),.tup (mpI P.m pr)]),[]):=by
 have h:=d.okt g n;have hm:=h.m64;have hn:=h.n64;have T:=Gy g f;have Y:=FB (st:=[]) h;have e2:=E7 (st:=[]) h d.hg;have hg:=d.hg;have M1:=λr l=>Sx.amounts_ok g n T (r:=r) l;have M2:=Sx.gains_amounts g n d.hg;have M3:=λj v=>Sx.prices_ok g n d.hA A (j:=j) v;have M4:=Sx.bounds_prices g d.hb;have M5:∀ k,0<=acc S.kept (λi=>S.T i P.n) P.m k:=λk=>Sx.byName_nonneg (P:=P) (S:=S) (y:=λi=>S.T i P.n) T k;have M6:=EI h;have M7:=λr l=>Fj h d.hg A (r:=r) l;have M8:(λj=>Sx.byName P S (λi=>S.T i P.n) j)=acc S.kept (λi=>S.T i P.n) P.m:=rfl;have M9:∀ j,Sx.byName P S (λi=>S.T i P.n) j=acc S.kept (λi=>S.T i P.n) P.m j:=λ_=>rfl;simp only[M9]at M1 M2;generalize acc S.kept (λi=>S.T i P.n) P.m=am at *;generalize I:(λr=>ZV P S (r+1))=pr at *;have C:∀ r,ZV P S (r+1)=pr r:=λr=>by rw[<-I]
 simp only[C]at M3 M4 M7;have M:D.int S.p::(mpI P.n am++mpI P.m pr)=(S.p::((qag P.n).map am++(qag P.m).map pr)).map D.int:=by
  rw[qaq,qbR,bQ,bQ]
 have L:∀ x∈S.p::((qag P.n).map am++(qag P.m).map pr),Sm x:=λx o=>by
  rcases qaH.mp o with rfl|o
  ·exact h.sp
  ·rcases qaY.mp o with o|o
   ·obtain⟨k,_,rfl⟩:=qaX.mp o;exact M6 k
   ·obtain⟨k,m,rfl⟩:=qaX.mp o;exact (M7 k (qaU.mp m)).1
 have Q:=mT (st:=[]) L;have R:=g.pos;obtain⟨w,K⟩:=lm (ns:=S.p::((qag P.n).map am++(qag P.m).map pr)) qaf (by lia) h.sp;have B:∀ x∈S.p::((qag P.n).map am++(qag P.m).map pr),((ci 0 (S.p::((qag P.n).map am++(qag P.m).map pr)):Nat):Int)∣x:=λx o=>qcH.mpr ((dD 0 _).2 _ o);rw[<-M]at Q;generalize ((ci 0 (S.p::((qag P.n).map am++(qag P.m).map pr)):Nat):Int)=q at *;have dp:q∣S.p:=B _ qaf;have X:∀ k,k<P.n->q∣am k:=λk m=>B _ (qal _ (qa9 _ (qaX.mpr ⟨k,qaU.mpr m,rfl⟩)));have V:∀ k,k<P.m->q∣pr k:=λk m=>B _ (qal _ (qaw _ (qaX.mpr ⟨k,qaU.mpr m,rfl⟩)));refine⟨S.p / q,λk=>am k / q,λr=>pr r / q,⟨?_,λk _=>qdM (M5 k) (by lia),λr l=>qdM (M7 r l).2 (by lia),λr l=>?_,λj v=>?_,?_,h.sp.dv _,λk _=>(M6 k).dv _,λr l=>(M7 r l).1.dv _⟩,?_⟩
 ·have:=mQ dp
  rcases Int.lt_or_le (S.p / q) 1 with z|z
  ·have:q*(S.p / q)<=q*0:=qdD (by lia) (by lia)
   lia
  ·exact z
 ·refine ur w ?_
  rw[qe (h:=λj=>P.A j r) X,<-qbn,mQ dp];exact M1 r l
 ·refine ur w ?_
  rw[wf (h:=λr=>P.A j r) V,<-qbn,mQ dp];exact M3 j v
 ·refine qdZ (a:=q) (by lia) ?_
  rw[wf (h:=λr=>P.b r) V,qe (h:=λj=>P.g j) X,M4,M2]
 ·have F:∀ (a b c:Option W) (s:Sto),iV 0 [some (.d (obD P S)),a,b,c] s=some (.d (obD P S),s):=λ_ _ _ _=>rfl
  have ka:lcI (.nm 0) aL cN [none,some (.d (.int q))] (mpI P.n am) []=some (mpI P.n λk=>am k / q,[]):=by
   have:=qx (te:=cN) (st:=[]) (ns:=(qag P.n).map am) w K rfl
   rw[<-bQ,qaR,qaR]at this;exact this
  have kr:lcI (.nm 0) aL cL [none,some (.d (.int q))] (mpI P.m pr) []=some (mpI P.m λk=>pr k / q,[]):=by
   have:=qx (te:=cL) (st:=[]) (ns:=(qag P.m).map pr) w K rfl
   rw[<-bQ,qaR,qaR]at this;exact this
  have la:(mpI P.n am).length<=1000000:=by rw[aA];lia
  have lr:(mpI P.m pr).length<=1000000:=by rw[aA];lia
  have G:[D.int S.p].length+(mpI P.n am).length<=1000000:=by rw[aA];show 1+_<=_;lia
  have H:([D.int S.p]++mpI P.n am).length+(mpI P.m pr).length<=1000000:=by rw[qaB,aA,aA];show 1+_+_<=_;lia
  generalize mpI P.n am=AM at *;generalize mpI P.m pr=PR at *;generalize (mpI P.n λk=>am k / q)=AQ at *;generalize (mpI P.m λk=>pr k / q)=RQ at *;have s3:az (.nm 3) (au br (aa (iOp bh (iOp bh (ar (bR (aa (ao ("part" : Str) (iV 0)) ac))) (iV 1)) (iV 2)) ac)) [some (.d (obD P S)),some (.d (.lst AM)),some (.d (.lst PR)),none] []=some (.nx [some (.d (obD P S)),some (.d (.lst AM)),some (.d (.lst PR)),some (.d (.int q))] []):=by
   have hl:bR (aa (ao ("part" : Str) (iV 0)) ac) [some (.d (obD P S)),some (.d (.lst AM)),some (.d (.lst PR)),none] []=some ([.int S.p],[]):=by
    have:=ab (b:=ac) (mB (F (some (.d (.lst AM))) (some (.d (.lst PR))) none [])) rfl
    simp only[bR,this,qaa];rfl
   exact aq (ak (ab (ae (ae (aD hl) rfl (fM _ G)) rfl (fM _ H)) rfl) Q)
  have s4:bv (aa (iC (.str "most")) (aa (iOp mm (ao ("part" : Str) (iV 0)) (iV 3)) (aa (iCB c9 (aa (ar (iLc 1 [3] (aC (iV 1)) (.nm 0) aL cN)) ac)) (aa (iCB c9 (aa (ar (iLc 1 [3] (aC (iV 2)) (.nm 0) aL cL)) ac)) ac)))) [some (.d (obD P S)),some (.d (.lst AM)),some (.d (.lst PR)),some (.d (.int q))] []=some (.d (.tup [.str "most",.int (S.p / q),.tup AQ,.tup RQ]),[]):=
   DQ (ab rfl (ab (ae (mB (F _ _ _ _)) rfl (qz _ w K)) (ab (aV (ab (aD (aZ (bg rfl) la ka)) rfl) rfl) (ab (aV (ab (aD (aZ (bg rfl) lr kr)) rfl) rfl) rfl)))) rfl (by show 4<=1000;decide)
  exact aB (n:=4) (k:=1) (b:=kI) rfl (ai (aq (ak (ab (F _ _ _ _) rfl) Y)) (ai (aq (ak (ab (F _ _ _ _) rfl) e2)) (ai s3 (aP s4))))
def Gg (d:Pd P) (g:Good P S) (n:Named P S) {e:Nat} (J:e<P.n) (E:∀ i,i<P.m->S.T i e<=0) (A:S.G e<0):∃ way,on P way/\kt [.d (obD P S),.d (.int (e:Int))] []=some (.d (.tup (mpI P.n way)),[]):=by
 have h:=d.okt g n;have W1:=Sx.way_gains g n d.hg J A;have R:∃ k,k<P.n/\Sx.wayN P S e k≠0:=by
  by_cases z:∃ k,k<P.n/\Sx.wayN P S e k≠0
  ·exact z
  ·exfalso
   rw[Sx.sumN_congr (g:=λ_=>0) λk m=>by
    by_cases O:Sx.wayN P S e k=0
    ·rw[O,qbW]
    ·exact absurd ⟨k,m,O⟩ z,Sx.sumN_zero]at W1
   lia
 obtain⟨q,w,B,ew⟩:=Gh h J E R;refine⟨λk=>Sx.wayN P S e k / q,⟨λk _=>qdM (Sx.way_nonneg g E k) (by lia),λr l=>?_,?_⟩,ew⟩
 ·refine ur w ?_
  rw[qe (h:=λj=>P.A j r) B,qa7];exact Sx.way_rows g n J E l
 ·refine Int.lt_of_mul_lt_mul_left (a:=q) ?_ (by lia)
  rw[qe (h:=λj=>P.g j) B,qa7];exact W1
end
end Own
set_option maxHeartbeats 1000000
namespace Own
open PySem L2
open Sx (Pb Tb Good Named Fe LV ZV piv lexP leastR leaveL sumN unit colV basis)
def GT (n:Nat) (f:Nat->Int):okT (.tup [.str "beyond",.tup (mpI n f)])=true:=by
 simp only[okT,ua,bQ,jl,qin]
def EO (n m:Nat) (p:Int) (f g:Nat->Int):okT (.tup [.str "most",.int p,.tup (mpI n f),.tup (mpI m g)])=true:=by
 simp only[okT,ua,bQ,jl,qin]
def Fo (P:Pb) (S:Tb) (x:D):Prop:=(∃ c,c<P.n/\S.G c<0/\(∀ i,i<P.m->S.T i c<=0)/\x=.tup [.int (c:Int),.non])\/(lA P S x/\(x=.non->∀ c,c<P.n->0<=S.G c))
section
variable {P:Pb}{S:Tb}
def zK (d:Pd P) (g:Good P S) (n:Named P S):∃ x,Fo P S x/\okT x=true/\bS [.d (obD P S)] []=some (.d x,[]):=by
 rcases Eu (st:=[]) (d.okt g n) (d.kept n) with⟨c,l,hg,B,e⟩|⟨y,G,hn,e⟩
 ·exact⟨_,.inl ⟨c,l,hg,B,rfl⟩,rfl,e⟩
 ·refine⟨y,.inr ⟨G,hn⟩,?_,e⟩
  rcases G with rfl|⟨c,r,_,_,_,_,_,_,rfl⟩<;>rfl
def lJ {st0:Sto}{a b c o:Option W}{x:D} (e:bS [.d (obD P S)] []=some (.d x,[])) (p:okT x=true):dj bS (aa (iV 3) ac) [a,b,c,some (.h (st0.length+2)),o] (stO st0 P S)=some (.d x,stO st0 P S):=
 mZ (ws:=[.h (st0.length+2)]) rfl (yV (ws:=[]) (ws':=[]) rfl) e p
def oS (P:Pb) (f:Nat) (S:Tb) (x:D):Prop:=
 (∃ S' way,on P way/\∀ (st0:Sto) (a b c:Option W),cu gG fE f [a,b,c,some (.h (st0.length+2)),some (.d x)] (stO st0 P S)=some (.rt (.d (.tup [.str "beyond",.tup (mpI P.n way)])) (stO st0 P S')))\/
 ∃ S',Good P S'/\Named P S'/\Fe P S'/\(∀ c,c<P.n->0<=S'.G c)/\∀ (st0:Sto) (a b c:Option W),cu gG fE f [a,b,c,some (.h (st0.length+2)),some (.d x)] (stO st0 P S)=some (.nx [a,b,c,some (.h (st0.length+2)),some (.d .non)] (stO st0 P S'))
def vF (d:Pd P):∀ (f:Nat) (V:List Nat) (S:Tb) (x:D),Good P S->Named P S->Fe P S->Fo P S x->V.Nodup->(∀ v∈V,v<(P.n+P.m)^P.m)->(∀ v∈V,∃ S',Good P S'/\Named P S'/\Sx.code (P.n+P.m) S'.kept P.m=v/\Sx.less P S' S)->(P.n+P.m)^P.m<f+V.length->oS P f S x
 |0,V,S,x,_,_,_,_,A,hb,_,Y=>by
  have:=Sx.nodup_le _ V A hb
  lia
 |f+1,V,S,x,hg,hn,K,p,A,hb,J,Y=>by
  have h:=d.okt hg hn;rcases p with⟨c,l,C,B,rfl⟩|⟨p,F⟩
  ·obtain⟨way,E,ew⟩:=Gg d hg hn l B C
   refine .inl ⟨S,way,E,λst0 a b o=>?_⟩;refine Gi (s:=stO st0 P S) rfl (fY (dq (s:=stO st0 P S) rfl (aP (DQ (ws:=[.d (.str "beyond"),.d (.tup (mpI P.n way))]) (ab rfl (ab ?_ rfl)) rfl (by show 2<=1000;decide)))))
   refine mZ (ws:=[.h (st0.length+2),.d (.int (c:Int))]) (ab rfl (ab (ae rfl rfl (kG _ _ _)) rfl)) (yV (ws:=[.d (.int (c:Int))]) (ws':=[.d (.int (c:Int))]) rfl) ew ?_;exact zt _ _
  ·rcases p with rfl|⟨c,r,l,C,_,L,T,t,rfl⟩
   ·exact .inr ⟨S,hg,hn,K,F rfl,λst0 a b o=>B3 rfl⟩
   ·obtain⟨g2,H,f2,I⟩:=Sx.step hg hn K l L T C t
    obtain⟨y,sy,oy,N⟩:=zK d g2 H;have j:∀ {S':Tb},Named P S'->∀ i,i<P.m->S'.kept i<P.n+P.m:=λq i M=>q.bound.2 i M;have R:=vF d f (Sx.code (P.n+P.m) S.kept P.m::V) (piv S r c) y g2 H f2 sy
     (qce.mpr ⟨λhm=>by
       obtain⟨S',g',q,z,w⟩:=J _ hm
       exact Sx.less_kept g' hg w (Sx.code_inj (j q) (j hn) z),A⟩)
     (λv k=>by
       rcases qaH.mp k with rfl|k
       ·exact Sx.code_lt (j hn)
       ·exact hb v k)
     (λv k=>by
       rcases qaH.mp k with rfl|k
       ·exact⟨S,hg,hn,rfl,I⟩
       ·obtain⟨S',g',q,z,w⟩:=J v k
        exact⟨S',g',q,z,Sx.less_trans g'.pos hg.pos g2.pos w I⟩)
     (by rw[qam];lia)
    have u:∀ (st0:Sto) (a b o:Option W),fE [a,b,o,some (.h (st0.length+2)),some (.d (.tup [.int (c:Int),.int (r:Int)]))] (stO st0 P S)=some (.nx [a,b,o,some (.h (st0.length+2)),some (.d y)] (stO st0 P (piv S r c))):=λst0 a b o=>by
     have O:kO (au df (aa (iV 3) (aa (iOp dIx (iV 4) (iC (.int 1))) (aa (iOp dIx (iV 4) (iC (.int 0))) ac)))) [a,b,o,some (.h (st0.length+2)),some (.d (.tup [.int (c:Int),.int (r:Int)]))] (stO st0 P S)=some (.nx [a,b,o,some (.h (st0.length+2)),some (.d (.tup [.int (c:Int),.int (r:Int)]))] (stO st0 P (piv S r c))):=by
      have:=ak (m:=df) (a:=aa (iV 3) (aa (iOp dIx (iV 4) (iC (.int 1))) (aa (iOp dIx (iV 4) (iC (.int 0))) ac))) (env:=[a,b,o,some (.h (st0.length+2)),some (.d (.tup [.int (c:Int),.int (r:Int)]))]) (st:=stO st0 P S) (ab rfl (ab (ae rfl rfl (jx _ _ _)) (ab (ae rfl rfl (kG _ _ _)) rfl))) (Bl h L l)
      simp only[kO,this,qai]
     exact ai (bA (s:=stO st0 P S) rfl rfl) (ai O (aq (lJ N oy)))
    rcases R with⟨S',way,E,hw⟩|⟨S',gS,nS,X,Q,hw⟩
    ·exact .inl ⟨S',way,E,λst0 a b o=>z8 (s:=stO st0 P S) rfl (u st0 a b o) (hw st0 a b o)⟩
    ·exact .inr ⟨S',gS,nS,X,Q,λst0 a b o=>z8 (s:=stO st0 P S) rfl (u st0 a b o) (hw st0 a b o)⟩
end
def gN (m n:Nat) (R:Nat->Nat->Int) (b g:Nat->Int):Pb where
 m:=m
 n:=n
 A:=λk t=>if k<n then (if t<m then R t k else 0) else unit (k - n) t
 b:=λt=>if t<m then b t else 0
 g:=λk=>if k<n then g k else 0
def zU (m n:Nat) (R:Nat->Nat->Int) (b g:Nat->Int):Tb:=Sx.tb0 (gN m n R b g) (λi c=>if c<n then R i c else b i) (λc=>if c<n then - g c else 0)
def ik (m n:Nat) (R:Nat->Nat->Int):D:=.tup ((qag m).map λi=>D.tup (mpI n (R i)))
structure Inp (m n:Nat) (R:Nat->Nat->Int) (b g:Nat->Int):Prop where
 m64:m<=64
 n64:n<=100
 R:∀ i c,i<m->c<n->(R i c).natAbs<=2^50
 b:∀ i,i<m->(b i).natAbs<=2^50/\0<=b i
 g:∀ c,c<n->(g c).natAbs<=2^50
section
variable {m n:Nat}{R:Nat->Nat->Int}{b g:Nat->Int}
def BU (h:Inp m n R b g):Pd (gN m n R b g) where
 bd:={
  m64:=h.m64
  n64:=h.n64
  A:=λk _ t j=>by
   show (if k<n then (if t<m then R t k else 0) else unit (k - n) t).natAbs<=_;by_cases e:k<n
   ·rw[if_pos e,if_pos (show t<m from j)];exact h.R t k j e
   ·rw[if_neg e];exact Sx.unit_le _ _
  b:=λt j=>by
   show (if t<m then b t else 0).natAbs<=_;rw[if_pos (show t<m from j)];exact (h.b t j).1
  g:=λk _=>by
   show (if k<n then g k else 0).natAbs<=_;by_cases e:k<n
   ·rw[if_pos e];exact h.g k e
   ·rw[if_neg e];exact qch _ }
 hA:=λk e t j=>by
  have hk':k<n+m:=e;have ht':m<=t:=j;show (if k<n then (if t<m then R t k else 0) else unit (k - n) t)=0;by_cases F:k<n
  ·rw[if_pos F,if_neg (by lia)]
  ·rw[if_neg F];unfold unit;rw[if_neg (by lia)]
 hb:=λt j=>if_neg (qhC.mpr j)
 hg:=λr _=>if_neg (by show ¬ n+r<n;lia)
def AA (h:Inp m n R b g):Good (gN m n R b g) (zU m n R b g)/\Named (gN m n R b g) (zU m n R b g)/\Fe (gN m n R b g) (zU m n R b g):=by
 have d:=BU h
 have:=Sx.good0 (P:=gN m n R b g) (T:=λi c=>if c<n then R i c else b i) (G:=λc=>if c<n then - g c else 0)
  (λr _=>by
    funext t
    show (if n+r<n then _ else unit (n+r - n) t)=_
    rw[if_neg (by lia),qaN])
  (λk e=>d.hA k (by show k<n+m;have:k<n:=e;lia)) d.hb d.hg
  (λi c q w=>by
    show (if c<n then R i c else b i)=if c<n then (if i<m then R i c else 0) else _
    rw[if_pos (show c<n from w),if_pos (show c<n from w),if_pos (show i<m from q)])
  (λi q=>by
    show (if n<n then _ else b i)=if i<m then b i else 0
    rw[if_neg (qa8 _),if_pos (show i<m from q)])
  (λc w=>by
    show (if c<n then - g c else 0)=- (if c<n then g c else 0)
    rw[if_pos (show c<n from w),if_pos (show c<n from w)])
  (by show (if n<n then _ else (0:Int))=0;rw[if_neg (qa8 _)])
 refine⟨this.1,this.2.1,this.2.2 λt j=>?_⟩;show 0<=if t<m then b t else 0;rw[if_pos (show t<m from j)];exact (h.b t j).2
def vW (f:Nat->Int) (x:Int):mpI n f++[.int x]=mpI (n+1) λc=>if c<n then f c else x:=by
 rw[nn,if_neg (qa8 _)];rw[bL (n:=n) (g:=λc=>if c<n then f c else x) λk e=>by rw[if_pos e]]
def zW (lo:Nat) (m:Nat):bF (lo:Int) m=mpI m (nI λi=>lo+i):=by
 unfold bF mpI;refine qcg λk _=>?_;show D.int ((lo:Int)+(k:Int))=D.int (((lo+k:Nat)):Int);rw[qh2]
def EB {st0:Sto}{X L:Option W} (h:Inp m n R b g):pI 4 4 cp (aa (iV 0) (aa (iV 1) (aa (iV 2) ac))) [some (.d (ik m n R)),some (.d (.tup (mpI m b))),some (.d (.tup (mpI n g))),X,L] st0=some (.h (st0.length+2),stO st0 (gN m n R b g) (zU m n R b g)):=by
 have hm:=h.m64;have hn:=h.n64;have ev:∀ {o:Option W},[o,some (.d (ik m n R)),some (.d (.tup (mpI m b))),some (.d (.tup (mpI n g)))]=o::([W.d (ik m n R),.d (.tup (mpI m b)),.d (.tup (mpI n g))].map some++qaz (4 - 4) none):=rfl;generalize J:([none,some (.d (ik m n R)),some (.d (.tup (mpI m b))),some (.d (.tup (mpI n g)))]:Ev)=E;have v1:∀ s,iV 1 E s=some (.d (ik m n R),s):=λs=>by rw[<-J];rfl
 have v2:∀ s,iV 2 E s=some (.d (.tup (mpI m b)),s):=λs=>by rw[<-J];rfl
 have O:∀ s,iV 3 E s=some (.d (.tup (mpI n g)),s):=λs=>by rw[<-J];rfl
 have a:∀ s,iCB aX (aa (iV 3) ac) E s=some (.d (.int (n:Int)),s):=λs=>by
  have:=aV (g:=aX) (d:=.int ((mpI n g).length:Nat)) (ab (b:=ac) (O s) rfl) rfl
  rw[aA]at this;exact this
 have H:∀ s,iCB aX (aa (iV 1) ac) E s=some (.d (.int (m:Int)),s):=λs=>by
  have:=aV (g:=aX) (d:=.int (((qag m).map λi=>D.tup (mpI n (R i))).length:Nat)) (ab (b:=ac) (v1 s) rfl) rfl
  rw[qah,qat]at this;exact this
 have f2:ar (iLc 2 [] (gf (aa (iV 1) (aa (iV 2) ac))) (.tp [0,1]) aL iX) E st0=some (.d (.lst (aN m n λi c=>if c<n then R i c else b i)),st0):=by
  have hz:gf (aa (iV 1) (aa (iV 2) ac)) E st0=some ((qag m).map λi=>D.tup [.tup (mpI n (R i)),.int (b i)],st0):=by
   have z:ja ((qag m).map λi=>D.tup (mpI n (R i))) (mpI m b)=(qag m).map λi=>D.tup [.tup (mpI n (R i)),.int (b i)]:=by
    apply qbw;intro i;rw[gk,qaD,qaD];by_cases q:i<m
    ·rw[bj q,qbh q];rfl
    ·rw[qaJ (l:=qag m) (by rw[qat];lia)];rfl
   rw[<-z]
   have:=ab (v1 st0) (ab (b:=ac) (v2 st0) rfl)
   simp only[gf,this,qaa];rfl
  refine aD (aZ hz (by rw[qah,qat];lia) ?_);refine za (g:=λi=>(D.tup (mpI n (R i)),.int (b i))) (lnD n λi c=>if c<n then R i c else b i) λi q=>?_;unfold lnD;rw[<-vW (R i) (b i)];exact ae (aD (show iCL pP (aa (iV 0) ac) _ _=some (mpI n (R i),_) from rfl)) (aD (show bR (aa (iV 1) ac) _ _=some ([.int (b i)],_) from rfl)) (fM _ (by rw[aA];show _+1<=_;lia))
 have f3:iOp bh (ar (iLc 1 [] (aC (iV 3)) (.nm 0) aL iI)) (ar (bR (aa (iC (.int 0)) ac))) E st0=some (.d (.lst (mpI (n+1) λc=>if c<n then - g c else 0)),st0):=by
  rw[<-vW (λc=>- g c) 0];refine ae (aD (aZ (bM (O st0)) (by rw[aA];lia) (ig (g:=λk=>D.int (g k)) (λk=>D.int (- g k)) λk _=>rfl))) (aD (show bR (aa (iC (.int 0)) ac) E st0=some ([.int 0],st0) from rfl)) (fM _ ?_);rw[qah,qat];show _+1<=_;lia
 have f5:dh (xf (aa (iCB aX (aa (iV 3) ac)) ac)) E st0=some (.h st0.length,st0++[.l (mpI n (nI λc=>c))]):=by
  have:=ab (b:=ac) (a st0) rfl
  have z:xf (aa (iCB aX (aa (iV 3) ac)) ac) E st0=some (mpI n (nI λc=>c),st0):=by
   simp only[xf,this,qaa];rw[if_pos ⟨by lia,by lia⟩,qbg,show bF 0 n=bF ((0:Nat):Int) n from rfl,zW];simp only[qaT]
  simp only[dh,z,qai]
 have f6:dh (qq (aa (iCB aX (aa (iV 3) ac)) (aa (iOp bh (iCB aX (aa (iV 3) ac)) (iCB aX (aa (iV 1) ac))) ac))) E (st0++[.l (mpI n (nI λc=>c))])=some (.h (st0.length+1),st0++[.l (mpI n (nI λc=>c)),.l (mpI m (nI λi=>n+i))]):=by
  generalize hs:(st0++[C.l (mpI n (nI λc=>c))])=s1;have h2:iOp bh (iCB aX (aa (iV 3) ac)) (iCB aX (aa (iV 1) ac)) E s1=some (.d (.int ((n:Int)+(m:Int))),s1):=ae (a s1) (H s1) rfl
  have:=ab (a s1) (ab (b:=ac) h2 rfl)
  have z:qq (aa (iCB aX (aa (iV 3) ac)) (aa (iOp bh (iCB aX (aa (iV 3) ac)) (iCB aX (aa (iV 1) ac))) ac)) E s1=some (mpI m (nI λi=>n+i),s1):=by
   simp only[qq,this,qaa];rw[if_pos ⟨by lia,by lia,by lia,by lia⟩,show (((n:Int)+(m:Int)) - (n:Int)).toNat=m by lia,zW]
  simp only[dh,z,qai];rw[<-hs,qaB]
  simp
 have I:qQ cp E st0=some (fsO n (aN m n λi c=>if c<n then R i c else b i) (mpI (n+1) λc=>if c<n then - g c else 0) 1 st0.length,st0++[.l (mpI n (nI λc=>c)),.l (mpI m (nI λi=>n+i))]):=by
  unfold cp;simp only[qQ,a st0,f2,f3,f5,f6,qaa,qai,show iC (.int 1) E st0=some (.d (.int 1),st0) from rfl];rfl
 have ha:aa (iV 0) (aa (iV 1) (aa (iV 2) ac)) [some (.d (ik m n R)),some (.d (.tup (mpI m b))),some (.d (.tup (mpI n g))),X,L] st0=some ([.d (ik m n R),.d (.tup (mpI m b)),.d (.tup (mpI n g))],st0):=rfl;simp only[pI,ha,qaa];rw[if_pos (show [W.d (ik m n R),W.d (D.tup (mpI m b)),W.d (D.tup (mpI n g))].length+1=4 from rfl)];show (qQ cp [none,some (.d (ik m n R)),some (.d (.tup (mpI m b))),some (.d (.tup (mpI n g)))] st0).map _=_;rw[J,I,qai];show some (W.h (st0++[C.l (mpI n (nI λc=>c)),.l (mpI m (nI λi=>n+i))]).length,(st0++[C.l (mpI n (nI λc=>c)),.l (mpI m (nI λi=>n+i))])++[_])=_;rw[qaB,qcx];rfl
inductive Ar (P:Pb):D->Prop
 |most (p:Int) (am pr:Nat->Int):z7 P p am pr->Ar P (.tup [.str "most",.int p,.tup (mpI P.n am),.tup (mpI P.m pr)])
 |beyond (way:Nat->Int):on P way->Ar P (.tup [.str "beyond",.tup (mpI P.n way)])
def zy {m n:Nat} (hm:m<=64) (hn:n<=100):(n+m)^m<2^8000:=by
 have Q:(n+m)^m<=(2^8)^m:=Nat.pow_le_pow_left (by show n+m<=256;lia) m;rw[<-qjV]at Q;exact qbJ Q (wj (by lia))
def Be (h:Inp m n R b g):∃ x,Ar (gN m n R b g) x/\okT x=true/\∀ st:Sto,∃ u,jg [.d (ik m n R),.d (.tup (mpI m b)),.d (.tup (mpI n g))] st=some (.d x,st++u):=by
 have d:=BU h;obtain⟨g1,S,f1⟩:=AA h;obtain⟨y,sy,V,N⟩:=zK d g1 S;have hl:=vF d (2^8000) [] _ y g1 S f1 sy qcU (λv K=>nomatch K) (λv K=>nomatch K) (by rw[qa6,qgM];exact zy h.m64 h.n64)
 generalize hM:(ik m n R)=A at *;generalize hB:D.tup (mpI m b)=B at *;generalize hC:D.tup (mpI n g)=C at *;have M:∀ st0,az (.nm 3) (pI 4 4 cp (aa (iV 0) (aa (iV 1) (aa (iV 2) ac)))) [some (.d A),some (.d B),some (.d C),none,none] st0=some (.nx [some (.d A),some (.d B),some (.d C),some (.h (st0.length+2)),none] (stO st0 (gN m n R b g) (zU m n R b g))):=λst0=>by
  rw[<-hM,<-hB,<-hC];exact aq (EB h)
 rcases hl with⟨S',way,bw,hw⟩|⟨S',gS,nS,fS,hS,hw⟩
 ·refine⟨_,.beyond way bw,GT _ _,λst0=>⟨_,aB (n:=5) (k:=3) (b:=lq) rfl (ai (M st0) (ai (aq (lJ N V)) (fY (hw st0 _ _ _))))⟩⟩
 ·obtain⟨p,am,pr,mi,Y⟩:=FY d gS nS fS hS
  refine⟨_,.most p am pr mi,EO _ _ _ _ _,λst0=>⟨_,aB (n:=5) (k:=3) (b:=lq) rfl (ai (M st0) (ai (aq (lJ N V)) (ai (hw st0 _ _ _) (aP (mZ (ws:=[.h (st0.length+2)]) rfl (yV (ws:=[]) (ws':=[]) rfl) Y (EO _ _ _ _ _))))))⟩⟩
end
end Own
namespace Sx
def spR (N k:Nat) (V:Nat->Nat->Int) (r c:Nat):Int:=if r<N then (if c<k then - V r c else if c<k+k then V r (c - k) else if c - (k+k)=r then 1 else 0) else if c<k+k then 0 else if c - (k+k)=r - N then 1 else 0
def spB (N r:Nat):Int:=if r<N then 0 else 1
def spG (k c:Nat):Int:=if c<k+k then 0 else 1
section
variable {N k:Nat}{V:Nat->Nat->Int}{am pr:Nat->Int}{p:Int}
def sp_row {i:Nat} (l:i<N):(sumN (k+k+N) λj=>am j*spR N k V i j)=am (k+k+i) - sumN k λt=>(am t - am (k+t))*V i t:=by
 rw[sumN_append,sumN_append];have o:(sumN k λj=>am j*spR N k V i j)=sumN k λt=>(-1)*(am t*V i t):=sumN_congr λt v=>by
  unfold spR;rw[if_pos l,if_pos v,qfV];omega
 have u:(sumN k λj=>am (k+j)*spR N k V i (k+j))=sumN k λt=>am (k+t)*V i t:=sumN_congr λt v=>by
  unfold spR;rw[if_pos l,if_neg (by omega),if_pos (by omega),qaN]
 have E:(sumN N λj=>am (k+k+j)*spR N k V i (k+k+j))=am (k+k+i):=by
  rw[sumN_single l λj y m=>by unfold spR;rw[if_pos l,if_neg (by omega),if_neg (by omega),qaN,if_neg m,qa7]];unfold spR;rw[if_pos l,if_neg (by omega),if_neg (by omega),qaN,if_pos rfl,qc5]
 have K:(sumN k λt=>(am t - am (k+t))*V i t)=(sumN k λt=>am t*V i t) - sumN k λt=>am (k+t)*V i t:=by
  rw[<-sumN_sub];exact sumN_congr λt _=>qfU _ _ _
 rw[o,u,E,K,sumN_mul];omega
def sp_lim {i:Nat} (l:i<N):(sumN (k+k+N) λj=>am j*spR N k V (N+i) j)=am (k+k+i):=by
 rw[sumN_append];have o:(sumN (k+k) λj=>am j*spR N k V (N+i) j)=0:=by
  rw[sumN_congr (g:=λ_=>0) λj y=>by unfold spR;rw[if_neg (by omega),if_pos y,qa7],sumN_zero]
 have E:(sumN N λj=>am (k+k+j)*spR N k V (N+i) (k+k+j))=am (k+k+i):=by
  rw[sumN_single l λj y m=>by unfold spR;rw[if_neg (by omega),if_neg (by omega),qaN,qaN,if_neg m,qa7]];unfold spR;rw[if_neg (by omega),if_neg (by omega),qaN,qaN,if_pos rfl,qc5]
 rw[o,E,qcd]
def sp_colA {t:Nat} (v:t<k):(sumN (N+N) λr=>spR N k V r t*pr r)=- sumN N λi=>V i t*pr i:=by
 rw[sumN_append];have o:(sumN N λr=>spR N k V r t*pr r)=sumN N λi=>(-1)*(V i t*pr i):=sumN_congr λr s=>by
  unfold spR;rw[if_pos s,if_pos v,qdv];omega
 have u:(sumN N λr=>spR N k V (N+r) t*pr (N+r))=0:=by
  rw[sumN_congr (g:=λ_=>0) λj y=>by unfold spR;rw[if_neg (by omega),if_pos (by omega),qbW],sumN_zero]
 rw[o,u,sumN_mul];omega
def sp_colB {t:Nat} (v:t<k):(sumN (N+N) λr=>spR N k V r (k+t)*pr r)=sumN N λi=>V i t*pr i:=by
 rw[sumN_append];have o:(sumN N λr=>spR N k V r (k+t)*pr r)=sumN N λi=>V i t*pr i:=sumN_congr λr s=>by
  unfold spR;rw[if_pos s,if_neg (by omega),if_pos (by omega),qaN]
 have u:(sumN N λr=>spR N k V (N+r) (k+t)*pr (N+r))=0:=by
  rw[sumN_congr (g:=λ_=>0) λj y=>by unfold spR;rw[if_neg (by omega),if_pos (by omega),qbW],sumN_zero]
 rw[o,u,qeD]
def sp_colE {i:Nat} (l:i<N):(sumN (N+N) λr=>spR N k V r (k+k+i)*pr r)=pr i+pr (N+i):=by
 rw[sumN_append];have o:(sumN N λr=>spR N k V r (k+k+i)*pr r)=pr i:=by
  rw[sumN_single l λr s m=>by unfold spR;rw[if_pos s,if_neg (by omega),if_neg (by omega),qaN,if_neg (qbC m),qbW]];unfold spR;rw[if_pos l,if_neg (by omega),if_neg (by omega),qaN,if_pos rfl,qc4]
 have u:(sumN N λr=>spR N k V (N+r) (k+k+i)*pr (N+r))=pr (N+i):=by
  rw[sumN_single l λr s m=>by unfold spR;rw[if_neg (by omega),if_neg (by omega),qaN,qaN,if_neg (qbC m),qbW]];unfold spR;rw[if_neg (by omega),if_neg (by omega),qaN,qaN,if_pos rfl,qc4]
 rw[o,u]
def sum0 {n:Nat}{f:Nat->Int} (h:∀ i,i<n->0<=f i) (e:sumN n f=0):∀ i,i<n->f i=0:=by
 induction n with
 |zero=>exact λi l=>absurd l (qcM _)
 |succ n O=>
  have P:=sumN_nonneg (n:=n) λi l=>h i (by omega);have Q:=h n (by omega);rw[sumN]at e;intro i l;rcases Nat.lt_succ_iff_lt_or_eq.mp l with z|z
  ·exact O (λi l=>h i (by omega)) (by omega) i z
  ·rw[z];omega
def split_core (p1:1<=p) (am0:∀ j,j<k+k+N->0<=am j) (pr0:∀ r,r<N+N->0<=pr r) (rows:∀ r,r<N+N->(sumN (k+k+N) λj=>am j*spR N k V r j)<=p*spB N r)
  (cols:∀ j,j<k+k+N->p*spG k j<=sumN (N+N) λr=>spR N k V r j*pr r) (same:(sumN (N+N) λr=>spB N r*pr r)=sumN (k+k+N) λj=>am j*spG k j) :
  (∀ t,t<k->(sumN N λi=>V i t*pr i)=0)/\∀ i,i<N->0<=(sumN k λt=>(am t - am (k+t))*V i t)/\((sumN k λt=>(am t - am (k+t))*V i t)=0↔pr i≠0):=by
 have w:∀ t,t<k->(sumN N λi=>V i t*pr i)=0:=λt v=>by
  have a:=cols t (by omega);have b:=cols (k+t) (by omega);rw[sp_colA v]at a;rw[sp_colB v]at b;unfold spG at a b;rw[if_pos (by omega),qa7]at a b;omega
 have B:∀ i,i<N->am (k+k+i)<=sumN k λt=>(am t - am (k+t))*V i t:=λi l=>by
  have a:=rows i (by omega);rw[sp_row l]at a;unfold spB at a;rw[if_pos l,qa7]at a;omega
 have I:∀ i,i<N->am (k+k+i)<=p:=λi l=>by
  have a:=rows (N+i) (by omega);rw[sp_lim l]at a;unfold spB at a;rw[if_neg (by omega),qc5]at a;exact a
 have J:∀ i,i<N->p<=pr i+pr (N+i):=λi l=>by
  have a:=cols (k+k+i) (by omega);rw[sp_colE l]at a;unfold spG at a;rw[if_neg (by omega),qc5]at a;exact a
 have M:(sumN N λi=>pr (N+i))=sumN N λi=>am (k+k+i):=by
  have o:(sumN (N+N) λr=>spB N r*pr r)=sumN N λi=>pr (N+i):=by
   rw[sumN_append,sumN_congr (n:=N) (f:=λr=>spB N r*pr r) (g:=λ_=>0) λr s=>by unfold spB;rw[if_pos s,qbW],sumN_zero,qcd];exact sumN_congr λr _=>by unfold spB;rw[if_neg (by omega),qc4]
  have u:(sumN (k+k+N) λj=>am j*spG k j)=sumN N λi=>am (k+k+i):=by
   rw[sumN_append,sumN_congr (n:=k+k) (g:=λ_=>0) λr s=>by unfold spG;rw[if_pos s,qa7],sumN_zero,qcd];exact sumN_congr λr _=>by unfold spG;rw[if_neg (by omega),qc5]
  rw[<-o,<-u];exact same
 have x:∀ i,i<N->0<=am (k+k+i):=λi l=>am0 _ (by omega);have F:∀ i,i<N->0<=pr i:=λi l=>pr0 _ (by omega);have G:∀ i,i<N->0<=pr (N+i):=λi l=>pr0 _ (by omega);have A:∀ i,i<N->pr i*(sumN k λt=>(am t - am (k+t))*V i t)=0:=by
  refine sum0 (λi l=>qdY (F i l) (qfv (x i l) (B i l))) ?_;have o:(sumN N λi=>pr i*sumN k λt=>(am t - am (k+t))*V i t)=sumN N λi=>sumN k λt=>(am t - am (k+t))*(V i t*pr i):=sumN_congr λi _=>by
   rw[<-sumN_mul];exact sumN_congr λt _=>by rw[qa1 (pr i),qbn]
  rw[o,sumN_swap,sumN_congr (g:=λ_=>0) λt v=>by rw[sumN_mul,w t v,qa7],sumN_zero]
 have D:∀ i,i<N->pr i*am (k+k+i)=0:=λi l=>by
  have a:=qdD (B i l) (F i l);have b:=qdY (F i l) (x i l);rw[A i l]at a;omega
 have C:∀ i,i<N->pr (N+i)*(p - am (k+k+i))=0:=by
  refine sum0 (λi l=>qdY (G i l) (by have:=I i l;omega)) ?_;have a1:(sumN N λi=>am (k+k+i)*(pr (N+i) - p))=sumN N λi=>pr (N+i)*am (k+k+i) - p*am (k+k+i):=sumN_congr λi _=>by
   rw[qcC,qa1 (am _),qa1 (am _) p]
  have a2:0<=sumN N λi=>am (k+k+i)*(pr (N+i) - p):=sumN_nonneg λi l=>by
   have b:=qdD (J i l) (x i l);have c:=D i l;rw[qcn,qa1 (am _) (pr i),c]at b;rw[qcC];omega
  have a3:(sumN N λi=>pr (N+i)*(p - am (k+k+i)))=sumN N λi=>p*pr (N+i) - pr (N+i)*am (k+k+i):=sumN_congr λi _=>by
   rw[qcC,qa1 _ p]
  have a4:0<=sumN N λi=>pr (N+i)*(p - am (k+k+i)):=sumN_nonneg λi l=>qdY (G i l) (by have:=I i l;omega);rw[a1,sumN_sub,sumN_mul]at a2;rw[a3,sumN_sub,sumN_mul]at a4 ⊢;rw[M]at a4 ⊢;omega
 refine⟨w,λi l=>⟨qfv (x i l) (B i l),λL H=>?_,λH=>?_⟩⟩
 ·have a:=B i l
  have b:=x i l;have c:=C i l;have d:=J i l;rw[L]at a;rw[show am (k+k+i)=0 by omega,qft]at c;rcases qcN.mp c with q|q<;>omega
 ·rcases qcN.mp (A i l) with q|q
  ·exact absurd q H
  ·exact q
def split_most {way:Nat->Int} (w0:∀ j,j<k+k+N->0<=way j) (rows:∀ r,r<N+N->(sumN (k+k+N) λj=>way j*spR N k V r j)<=0) (gain:0<sumN (k+k+N) λj=>way j*spG k j):False:=by
 have u:(sumN (k+k+N) λj=>way j*spG k j)=0:=by
  rw[sumN_append,sumN_congr (n:=k+k) (g:=λ_=>0) λr s=>by unfold spG;rw[if_pos s,qa7],sumN_zero,qcd,sumN_congr (g:=λ_=>0) λi l=>?_,sumN_zero];have a:=rows (N+i) (by omega);rw[sp_lim l]at a;have b:=w0 (k+k+i) (by omega);rw[show way (k+k+i)=0 by omega,qbW]
 omega
end
end Sx
set_option maxHeartbeats 1000000
namespace Own
open PySem L2
open Sx (Pb Tb Good Named Fe LV ZV piv lexP leastR leaveL sumN unit colV basis)
def gY {a:Af}{env:Ev}{st s:Sto}{ws:List W}{ds:List D} (h:a env st=some (ws,s)) (hd:lP ws=some ds) (b:ds.length<=1000:=by decide):bv a env st=some (.d (.tup ds),s):=by
 simp only[bv,h,hd,b,qaa,if_true]
def FH (s:Sto) {a b:Int} (h:qbo a b):bb s (.d (.int a)) (.d (.int b))=some (.int (a*b)):=if_pos h
def zx (s:Sto) {a b:Int} (h:0<b):dO s (.d (.int a)) (.d (.int b))=some (.int (a%b)):=if_pos h
def De (s:Sto) {a b:Int} (h:0<b/\b<1073741824):kT s (.d (.int a)) (.d (.int b))=some (.int (a / b)):=if_pos h
def zZ {st:Sto}{k:Int} (c:0<=k) (r:k<=60):eK [.d (.int k)] st=some (.d (.int (2^k.toNat)),st):=by
 obtain⟨f,m,a,o,rfl,rfl⟩:=bN (g:=.nm 2) (body:=fV) (ds:=bF 0 k.toNat) (λi env s=>∃ o,env=[some (.d (.int k)),some (.d (.int (2^i))),o]/\s=st) (env:=[some (.d (.int k)),some (.d (.int 1)),none]) (st:=st)
  ⟨none,rfl,rfl⟩ (λi d env s hd ⟨o,e,es⟩=>by
   subst e es;obtain⟨rfl,l⟩:=gZ hd;have j:qbo (2^i:Int) 2:=dZ (by decide);have h:(2^i:Int)*2=2^(i+1):=by rw[Int.pow_succ]
   refine⟨_,[some (.d (.int k)),some (.d (.int (2^(i+1)))),some (.d (.int i))],s,rfl,.inl ?_,_,rfl,rfl⟩;generalize (2^i:Int)=p at j h;rw[<-h]
   exact aq (i:=1) (ae rfl rfl (FH _ j)))
 rw[cg]at a;generalize (2^k.toNat:Int)=q at a ⊢;exact aB (n:=3) (k:=1) (b:=iT) rfl (mK (aq (i:=1) (w:=.d (.int 1)) rfl) (mK (bE (nC rfl c (by lia) rfl) a) (aP rfl)))
def xz {j:Nat} (h:j<=20):(0:Int)<2^j/\(2:Int)^j<1073741824:=by
 have a:∀ m:Nat,m<=20->2^m<=2^20:=λm hm=>qcu (by decide) hm;have b:(2:Nat)^20=1048576:=by decide
 have d:=a j h;have c:((2^j:Nat):Int)=(2:Int)^j:=by push_cast;rfl
 have e:0<2^j:=qeZ (by decide);lia
def AH {st:Sto}{row k:Int} (a:0<=k) (c:k<=20):rA [.d (.int row),.d (.int k)] st=some (.d (.int (onI row k)),st):=by
 have h:=xz (j:=k.toNat) (by lia);have e:=zZ (st:=st) a (by lia);unfold onI;generalize (2^k.toNat:Int)=q at h e ⊢;exact aB (n:=2) (k:=2) (b:=we) rfl (aP (ae (ae rfl (ak rfl e) (De _ ⟨h.1,h.2⟩)) rfl (zx _ (by decide))))
def bB (b:Bool) (t:List Int) (row:Int):Int:=if b=true then (if le row t=(t.length:Int) then 1 else 0) else (if le row t%2=1 then -1 else 1)
def aF (b:Bool):Str:=if b=true then "both" else "odd"
def pU (b:Bool):(aF b==("both" : Str))=b:=by cases b<;>decide
def xT {st:Sto}{b:Bool}{t:List Int}{row:Int} (j:∀ k∈t,0<=k/\k<=20) (p:t.length<=1000):jO [.d (.str (aF b)),.d (aj t),.d (.int row)] st=some (.d (.int (bB b t row)),st):=by
 have e:lcI (.nm 0) aL d6 [none,some (.d (.int row))] (t.map D.int) st=some ((t.map D.int).map λd=>match d with|.int k=>.int (onI row k)|d=>d,st):=jo _ λd hd=>by
  obtain⟨k,l,rfl⟩:=qaX.mp hd;exact⟨_,rfl,ak rfl (AH (st:=st) (row:=row) (j k l).1 (j k l).2)⟩
 have o:((t.map D.int).map λd=>match d with|.int k=>.int (onI row k)|d=>d)=(t.map (onI row)).map D.int:=by rw[qaR,qaR];rfl
 rw[o]at e;have a:=Cd st (t.map (onI row));rw[kR]at a;have g:(t.map D.int).length<=1000000:=by rw[qah];lia
 have c:aX st [.d (aj t)]=some (.int (t.length:Int)):=by
  show some (D.int (((t.map D.int).length:Nat):Int))=_;rw[qah]
 have f:dEq st (.d (.str (aF b))) (.d (.str "both"))=some (.bl b):=by rw[Fi,pU]
 have m:bB b t row=if b=true then (if (le row t==(t.length:Int))=true then 1 else 0) else (if (le row t%2==(1:Int))=true then -1 else 1):=by simp only[bB,beq_iff_eq]
 rw[m];have first:∀ (tl:Sf) (r:Option Fl),tl [some (.d (.str (aF b))),some (.d (aj t)),some (.d (.int row)),some (.d (.int (le row t)))] st=r->ah (az (.nm 3) (iCB nJ (aa (ar (iLc 1 [2] (aC (iV 1)) (.nm 0) aL d6)) ac))) tl [some (.d (.str (aF b))),some (.d (aj t)),some (.d (.int row)),none] st=r:=λtl r h=>by
  have q:az (.nm 3) (iCB nJ (aa (ar (iLc 1 [2] (aC (iV 1)) (.nm 0) aL d6)) ac)) [some (.d (.str (aF b))),some (.d (aj t)),some (.d (.int row)),none] st=some (.nx [some (.d (.str (aF b))),some (.d (aj t)),some (.d (.int row)),some (.d (.int (le row t)))] st):=aq (i:=3) (aV (ab (aD (aZ (bM rfl) g e)) rfl) a);simp only[ah,q,qaa,h]
 generalize aF b=kd at *;generalize aj t=tt at *;cases b with
 |true=>
  cases hq:(le row t==(t.length:Int)) with
  |true=>exact aB (n:=4) (k:=3) (b:=eQ) rfl (first _ _ (wc (B7 (ay rfl rfl f) (aP (mV (ay rfl (aV rfl c) (by rw[dU,hq])) rfl)))))
  |false=>exact aB (n:=4) (k:=3) (b:=eQ) rfl (first _ _ (wc (B7 (ay rfl rfl f) (aP (qy (ay rfl (aV rfl c) (by rw[dU,hq])) rfl)))))
 |false=>
  cases hq:(le row t%2==(1:Int)) with
  |true=>exact aB (n:=4) (k:=3) (b:=eQ) rfl (first _ _ (mK (Cb (ay rfl rfl f) rfl) (aP (mV (ay (ae rfl rfl (zx _ (by decide))) rfl (by rw[dU,hq])) rfl))))
  |false=>exact aB (n:=4) (k:=3) (b:=eQ) rfl (first _ _ (mK (Cb (ay rfl rfl f) rfl) (aP (qy (ay (ae rfl rfl (zx _ (by decide))) rfl (by rw[dU,hq])) rfl))))
def qj {st:Sto}{fs:List D} (g:fs.length<=1000):cf [.d (.tup fs)] st=some (.d (.tup ((bo 0 fs).map D.int)),st):=by
 have a:lcI (.tp [0,1]) fR fT [none,none] (cm 0 fs) st=some (((cm 0 fs).filter zw).map Ed,st):=ko _ _ λd hd=>by
  obtain⟨i,b⟩:=qdy.mp hd;rw[ef]at b;obtain⟨e,f,rfl⟩:=qad.mp b;exact⟨_,rfl,by simp only[fR,zw,iV,iC,aE,kN,jv,kc,dB,qaa,qai,qay,qaF,qa5,qbk,qaT],λ_=>by simp only[fT,Ed,iV,kN,qai,qay,qa5,qbk,qaT]⟩
 rw[nQ]at a;have c:(cm 0 fs).length<=1000000:=by rw[lp];lia
 simp only[cf,l8,iV,ac,aa,iCB,ar,aK,iLc,cb,bi,gq,cx,c9,qaa,qai,qay,qaq,qbl,qam,qa6,qaS,qa4,qbc,qbd,qbA,if_true,qaT,lg,a,c]
def A0 {st:Sto}{fs:List D}{j:Nat}{d:D} (hd:fs[j]?=some d) (a:gQ d) (hn:d≠.non):fU [.d (.tup fs),.d (.int (j:Int))] st=some (.d (.int (sgD d)),st):=by
 have e:atI fs (j:Int)=some d:=bW hd;rcases a with rfl|rfl|rfl
 ·exact absurd rfl hn
 ·simp only[fU,lB,iV,iC,iOp,aE,iUn,fP,aK,bi,jv,cx,dIx,dEq,ie,eqK,eqD,ju,qaa,qai,qay,qaF,qaq,qbl,qam,qa6,qa4,qbc,qbd,qbS,qbA,if_true,if_false,qa0,qaT,lg,qck,e,sgD,show ((0:Int)==1)=false by decide,show ¬ (0:Int)=1 by decide]
 ·simp only[fU,lB,iV,iC,iOp,aE,iUn,fP,aK,bi,jv,cx,dIx,dEq,ie,eqK,eqD,ju,qaa,qai,qay,qaF,qaq,qbl,qam,qa6,qa4,qbc,qbd,qbS,qbA,if_true,qaT,lg,qck,e,sgD,show ((1:Int)==1)=true by decide]
def Ai {d:D}:sgD d=1\/sgD d=-1:=by
 unfold sgD;split
 ·split
  ·exact .inl rfl
  ·exact .inr rfl
 ·exact .inl rfl
def xv {st:Sto}{fs:List D}{j:Nat}{d:D}{b:Bool}{t:List Int} (hd:fs[j]?=some d) (f:gQ d) (hn:d≠.non) (e:∀ k∈t,0<=k/\k<=20) (c:t.length<=1000) :
  cT [.d (.tup fs),.d (.str (aF b)),.d (aj t),.d (.int (j:Int))] st=some (.d (.int (sgD d*bB b t j)),st):=by
 have g:=A0 (st:=st) hd f hn;have a:=xT (st:=st) (b:=b) (row:=j) e c;have i:qbo (sgD d) (bB b t j):=gU (by rcases Ai (d:=d) with h|h<;>(rw[h];decide));generalize aF b=kd at a ⊢;generalize aj t=tt at a ⊢;simp only[cT,iY,iV,iOp,ac,aa,au,aK,bi,bb,qaa,qai,qay,qaF,qaq,qbl,qam,qa6,qa4,qbc,qbd,qbS,qbA,if_true,qaT,qck,g,a,i]
end Own
set_option maxHeartbeats 1000000
namespace Own
open PySem L2
open Sx (Pb Tb Good Named Fe LV ZV piv lexP leastR leaveL sumN unit colV basis)
def jm {α b:Type} (a:α) (F:α->b) (l:List α):l.map F=(qag l.length).map λi=>F (l.getD i a):=by
 apply qbw;intro i;rw[qaD,qaD];by_cases h:i<l.length
 ·rw[qbh h,qao h,qai,qai,qaM,qao h];rfl
 ·rw[qaJ (by lia),qaJ (by rw[qat];lia)];rfl
def oh {n l:Nat}{f h g:Nat->Int} (c:∀ i,i<n->g i=f i) (b:∀ i,i<l->g (n+i)=h i):mpI n f++mpI l h=mpI (n+l) g:=by
 apply qbw;intro i;by_cases q:i<n
 ·rw[qaK (by rw[aA];exact q),bj q,bj (by lia),c i q]
 ·rw[qaP (by rw[aA];lia),aA]
  by_cases a:i<n+l
  ·rw[bj (by lia),bj a,<-b (i - n) (by lia),show n+(i - n)=i by lia]
  ·rw[qaJ (by rw[aA];lia),qaJ (by rw[aA];lia)]
def t8 (c:Int):∀ n,(qaz n [D.int c]).flatten=mpI n λ_=>c
 |0=>rfl
 |n+1=>by rw[nn,qgO,qgZ,t8 c n];rfl
def nB {α:Type}{te:Ef}{l:Ev}{st:Sto}{g:α->D} (F:α->D):∀ {ks:List α},(∀ k∈ks,te (some (.d (g k))::l) st=some (.d (F k),st))->lcI (.nm 0) aL te (none::l) (ks.map g) st=some (ks.map F,st)
 |[],_=>rfl
 |k::ks,h=>by
  have b:=nB (te:=te) (l:=l) (st:=st) (g:=g) F (ks:=ks) λx a=>h x (qal _ a);have c:=h k qaf;rw[qaq,qaq];unfold lcI;rw[show cB (.nm 0) (.d (g k)) (none::l)=some (some (.d (g k))::l) from rfl,qaa,show aL (some (.d (g k))::l) st=some (true,st) from rfl,qaa,if_pos rfl,c,qaa,b];rfl
def wt (F:Nat->D) (n:Nat):cm 0 ((qag n).map F)=(qag n).map λi:Nat=>D.tup [.int ((i:Nat):Int),F i]:=by
 apply qbw;intro i;rw[ef,qaD,qaD];by_cases a:i<n
 ·rw[qbh a,qai,qai,qai,qaT]
 ·rw[qaJ (l:=qag n) (by rw[qat];lia)];rfl
structure Spl (fs:List D) (ts:List (List Int)):Prop where
 fl:fs.length<=32
 fv:∀ d∈fs,gQ d
 tl:ts.length<=16
 tt:∀ t∈ts,(∀ k∈t,0<=k/\k<=20)/\t.length<=20
 nd:ts.Nodup
def nR (fs:List D):Nat:=(bo 0 fs).length
def jr (fs:List D) (i:Nat):Int:=(bo 0 fs).getD i 0
def spV (fs:List D) (b:Bool) (ts:List (List Int)) (i t:Nat):Int:=sgD (fs.getD (jr fs i).toNat .non)*bB b (ts.getD t []) (jr fs i)
def tsD (ts:List (List Int)):D:=.tup (ts.map aj)
section
variable {fs:List D}{b:Bool}{ts:List (List Int)}
def Spl.n (h:Spl fs ts):nR fs<=32:=qa3 (pz fs 0) h.fl
def u7 (h:Spl fs ts) {j:Int} (l:j∈bo 0 fs):∃ (m:Nat) (d:D),j=(m:Int)/\m<fs.length/\fs[m]?=some d/\gQ d/\d≠.non/\fs.getD j.toNat .non=d:=by
 obtain⟨m,e,hm,hn⟩:=lz fs 0 l;rw[qaT]at e;have hd:fs[m]?=some fs[m]:=qao hm;refine⟨m,fs[m],e,hm,hd,h.fv _ (qbU hm),λq=>hn (by rw[hd,q]),?_⟩;rw[e,qbg,qaM,hd];rfl
def sv {st:Sto} (h:Spl fs ts):dP [.d (.tup fs),.d (.str (aF b)),.d (tsD ts)] st=some (.d (.lst ((qag (nR fs)).map λi=>D.lst (mpI ts.length (spV fs b ts i)))),st):=by
 have r:=qj (st:=st) (fs:=fs) (by have:=h.fl;lia);have p:∀ j∈bo 0 fs,lcI (.nm 0) aL fz [none,some (.d (.tup fs)),some (.d (.str (aF b))),some (.d (.int j))] (ts.map aj) st=some (ts.map λt=>D.int (sgD (fs.getD j.toNat .non)*bB b t j),st):=λj l=>by
  obtain⟨m,d,rfl,hm,hd,u,hn,hg⟩:=u7 h l;refine nB (g:=aj) (λt=>D.int (sgD (fs.getD (m:Int).toNat .non)*bB b t (m:Int))) λt o=>?_;rw[hg];exact ak (ab rfl (ab rfl (ab rfl (ab rfl rfl)))) (xv hd u hn (h.tt t o).1 (by have:=(h.tt t o).2;lia))
 have a:lcI (.nm 0) aL fB [none,some (.d (tsD ts)),some (.d (.tup fs)),some (.d (.str (aF b)))] ((bo 0 fs).map D.int) st=some ((bo 0 fs).map λj=>D.lst (ts.map λt=>D.int (sgD (fs.getD j.toNat .non)*bB b t j)),st):=
  nB (g:=D.int) (λj=>D.lst (ts.map λt=>D.int (sgD (fs.getD j.toNat .non)*bB b t j))) λj l=>aD (aZ (bM rfl) (by rw[qah];have:=h.tl;lia) (p j l))
 have e:((bo 0 fs).map λj=>D.lst (ts.map λt=>D.int (sgD (fs.getD j.toNat .non)*bB b t j)))=(qag (nR fs)).map λi=>D.lst (mpI ts.length (spV fs b ts i)):=by
  rw[jm 0 (λj=>D.lst (ts.map λt=>D.int (sgD (fs.getD j.toNat .non)*bB b t j))) (bo 0 fs)];refine qcg λi _=>?_;rw[jm [] (λt=>D.int (sgD (fs.getD ((bo 0 fs).getD i 0).toNat .non)*bB b t ((bo 0 fs).getD i 0))) ts];rfl
 rw[e]at a;exact aB (n:=3) (k:=3) (b:=io) rfl (aP (aD (aZ (bM (ak rfl r)) (by rw[qah];have:=h.n;unfold nR at this;lia) a)))
def zj {st:Sto}{i N:Nat} (v:N<=100):kg [.d (.int (i:Int)),.d (.int (N:Int))] st=some (.d (.lst (mpI N λj=>if j=i then 1 else 0)),st):=by
 have s:bz (aa (iV 1) ac) [some (.d (.int (i:Int))),some (.d (.int (N:Int)))] st=some (bF 0 N,st):=nC (e:=iV 1) (z:=(N:Int)) rfl (by lia) (by lia) (by lia);have a:lcI (.nm 0) aL nA [none,some (.d (.int (i:Int)))] ((qag N).map λj:Nat=>D.int (0+((j:Nat):Int))) st=some (mpI N λj=>if j=i then 1 else 0,st):=
  ig (g:=λj:Nat=>D.int (0+((j:Nat):Int))) (λj=>D.int (if j=i then 1 else 0)) λj _=>by
   have c:aE dEq (iV 0) (iV 1) [some (.d (.int (0+((j:Nat):Int)))),some (.d (.int (i:Int)))] st=some (decide (j=i),st):=by
    have e:((0+((j:Nat):Int))==(i:Int))=decide (j=i):=by rw[qb4,beq_iff_eq,decide_eq_true_iff];lia
    refine ay rfl rfl ?_;rw[dU,e]
   by_cases q:j=i
   ·rw[if_pos q];rw[decide_eq_true q]at c;exact mV c rfl
   ·rw[if_neg q];rw[decide_eq_false q]at c;exact qy c rfl
 exact aB (n:=2) (k:=2) (b:=sY) rfl (aP (aD (aZ s (by unfold bF;rw[qah,qat];lia) a)))
def Ae {st:Sto}{k:Nat}{f:Nat->Int} (w:k<=100):iE [.d (.lst (mpI k f))] st=some (.d (.lst (mpI k f++mpI k λt=>- f t)),st):=by
 have a:lcI (.nm 0) aL jE [none] (mpI k f) st=some (mpI k λt=>- f t,st):=ig (g:=λt=>D.int (f t)) (λt=>D.int (- f t)) λt _=>rfl;exact aB (n:=1) (k:=1) (b:=l9) rfl (aP (ae (aD (show iCL pP (aa (iV 0) ac) [some (.d (.lst (mpI k f)))] st=some (mpI k f,st) from rfl)) (aD (aZ (bg rfl) (by rw[aA];lia) a)) (fM _ (by rw[aA,aA];lia))))
end
end Own
set_option maxHeartbeats 1000000
namespace Own
open PySem L2
open Sx (Pb Tb Good Named Fe LV ZV piv lexP leastR leaveL sumN unit colV basis)
def DL {α:Type} (F:Nat->α) (n l:Nat):(qag n).map F++(qag l).map (λi=>F (n+i))=(qag (n+l)).map F:=by
 apply qbw;intro i;by_cases q:i<n
 ·rw[qaK (by rw[qah,qat];exact q),qaD,qaD,qbh q,qbh (by lia)]
 ·rw[qaP (by rw[qah,qat];lia),qaD,qaD,qah,qat]
  by_cases a:i<n+l
  ·rw[qbh (by lia),qbh a,qai,qai,show n+(i - n)=i by lia]
  ·rw[qaJ (by rw[qat];lia),qaJ (by rw[qat];lia)];rfl
def j8 (s:Sto) (c:Int) {n:Nat} (hn:n<1000):bb s (.d (.tup [.int c])) (.d (.int (n:Int)))=some (.tup (mpI n λ_=>c)):=by
 show (if _ then some (D.tup (qaz (n:Int).toNat [D.int c]).flatten) else none)=_;rw[if_pos ⟨by simp,by show 1<=1000;decide,by lia,by lia⟩,qbg,t8]
def x4 (s:Sto) (c:Int) {n:Nat} (hn:n<1000):bb s (.d (.lst [.int c])) (.d (.int (n:Int)))=some (.lst (mpI n λ_=>c)):=by
 show (if _ then some (D.lst (qaz (n:Int).toNat [D.int c]).flatten) else none)=_;rw[if_pos ⟨by show 1<=1000;decide,by lia,by lia⟩,qbg,t8]
def Ca (s:Sto) (k:Nat):bb s (.d (.int 2)) (.d (.int (k:Int)))=some (.int ((k+k:Nat):Int)):=by
 rw[cF s (gU (by decide)),show (2:Int)*(k:Int)=((k+k:Nat):Int) by lia]
section
variable {fs:List D}{b:Bool}{ts:List (List Int)}{N k:Nat}{V:Nat->Nat->Int}
def wP {st:Sto} (y:N<=32) (v:k<=16):lcI (.tp [0,1]) aL j9 [none,none,some (.d (.int (N:Int)))] ((qag N).map λi:Nat=>D.tup [.int ((i:Nat):Int),.lst (mpI k (V i))]) st=some ((qag N).map λi=>D.lst (mpI (k+k+N) (Sx.spR N k V i)),st):=
 za (g:=λi:Nat=>(D.int ((i:Nat):Int),D.lst (mpI k (V i)))) (λi=>D.lst (mpI (k+k+N) (Sx.spR N k V i))) λi o=>by
  have q:=qaU.mp o;have G:lcI (.nm 0) aL ky [none] (mpI k (V i)) st=some (mpI k λt=>- V i t,st):=ig (g:=λt=>D.int (V i t)) (λt=>D.int (- V i t)) λt _=>rfl;have O:mpI k (λt=>- V i t)++mpI k (λt=>- - V i t)=mpI (k+k) (Sx.spR N k V i):=oh (λt s=>by unfold Sx.spR;rw[if_pos q,if_pos s]) (λt s=>by unfold Sx.spR;rw[if_pos q,if_neg (by lia),if_pos (by lia),qaN,Int.neg_neg]);have C:mpI (k+k) (Sx.spR N k V i)++mpI N (λj=>if j=i then 1 else 0)=mpI (k+k+N) (Sx.spR N k V i):=oh (λt s=>rfl) (λj a=>by unfold Sx.spR;rw[if_pos q,if_neg (by lia),if_neg (by lia),qaN]);have hw:=Ae (st:=st) (k:=k) (f:=λt=>- V i t) (by lia);rw[O]at hw;have B:=zj (st:=st) (i:=i) (N:=N) (by lia);rw[<-C];exact ae (ak (ab (aD (aZ (bg rfl) (by rw[aA];lia) G)) rfl) hw) (ak (ab rfl (ab rfl rfl)) B) (fM _ (by rw[aA,aA];lia))
def xh {st:Sto} (y:N<=32) (v:ts.length<=16):lcI (.nm 0) aL d7 [none,some (.d (tsD ts)),some (.d (.int (N:Int)))] (bF 0 N) st=some ((qag N).map λi=>D.lst (mpI (ts.length+ts.length+N) (Sx.spR N ts.length V (N+i))),st):=
 ig (g:=λj:Nat=>D.int (0+((j:Nat):Int))) (λi=>D.lst (mpI (ts.length+ts.length+N) (Sx.spR N ts.length V (N+i)))) λi o=>by
  have q:=qaU.mp o;have C:mpI (ts.length+ts.length) (λ_=>0)++mpI N (λj=>if j=i then 1 else 0)=mpI (ts.length+ts.length+N) (Sx.spR N ts.length V (N+i)):=oh (λt s=>by unfold Sx.spR;rw[if_neg (by lia),if_pos s]) (λj a=>by unfold Sx.spR;rw[if_neg (by lia),if_neg (by lia),qaN,qaN]);have B:=zj (st:=st) (i:=i) (N:=N) (by lia);have m:aX st [.d (tsD ts)]=some (.int (ts.length:Int)):=by
   show some (D.int ((ts.map aj).length:Nat))=_;rw[qah]
  rw[<-C,qcd];exact ae (ae (aD (show bR (aa (iC (.int 0)) ac) _ st=some ([.int 0],st) from rfl)) (ae rfl (aV (ab rfl rfl) m) (Ca st _)) (x4 st 0 (by lia))) (ak (ab rfl (ab rfl rfl)) B) (fM _ (by rw[aA,aA];lia))
def D6 (y:N<=32) (v:k<=16) (J:∀ i t,(V i t).natAbs<=1):Inp (N+N) (k+k+N) (Sx.spR N k V) (Sx.spB N) (Sx.spG k):=by
 have one:∀ {z:Int},z.natAbs<=1->z.natAbs<=2^50:=λh=>qa3 h (by decide);refine⟨by lia,by lia,λi c _ _=>one ?_,λi _=>⟨one ?_,?_⟩,λc _=>one ?_⟩
 ·unfold Sx.spR
  split
  ·split
   ·rw[qig];exact J _ _
   ·split
    ·exact J _ _
    ·split<;>decide
  ·split
   ·decide
   ·split<;>decide
 ·unfold Sx.spB;split<;>decide
 ·unfold Sx.spB;split<;>decide
 ·unfold Sx.spG;split<;>decide
structure FC (N k:Nat) (V:Nat->Nat->Int) (p:Int) (am pr:Nat->Int):Prop where
 bal:∀ t,t<k->(sumN N λi=>V i t*pr i)=0
 val:∀ i,i<N->0<=(sumN k λt=>(am t - am (k+t))*V i t)/\((sumN k λt=>(am t - am (k+t))*V i t)=0↔pr i≠0)
 sa:∀ j,j<k+k+N->Sm (am j)/\0<=am j
 sr:∀ i,i<N->Sm (pr i)/\0<=pr i
def FA {x:D} (M:Ar (gN (N+N) (k+k+N) (Sx.spR N k V) (Sx.spB N) (Sx.spG k)) x):∃ p am pr,FC N k V p am pr/\x=.tup [.str "most",.int p,.tup (mpI (k+k+N) am),.tup (mpI (N+N) pr)]:=by
 have F:∀ {r j:Nat},r<N+N->j<k+k+N->(gN (N+N) (k+k+N) (Sx.spR N k V) (Sx.spB N) (Sx.spG k)).A j r=Sx.spR N k V r j:=λl a=>by
  show (if _<k+k+N then (if _<N+N then _ else (0:Int)) else _)=_;rw[if_pos a,if_pos l]
 have H:∀ {r:Nat},r<N+N->(gN (N+N) (k+k+N) (Sx.spR N k V) (Sx.spB N) (Sx.spG k)).b r=Sx.spB N r:=λl=>if_pos l;have pg:∀ {j:Nat},j<k+k+N->(gN (N+N) (k+k+N) (Sx.spR N k V) (Sx.spB N) (Sx.spG k)).g j=Sx.spG k j:=λa=>if_pos a;cases M with
 |beyond way M=>
  exfalso
  refine Sx.split_most (N:=N) (k:=k) (V:=V) (way:=way) M.w0 (λr l=>?_) ?_
  ·have:=M.rows r l
   rw[Sx.sumN_congr (g:=λj=>way j*(gN (N+N) (k+k+N) (Sx.spR N k V) (Sx.spB N) (Sx.spG k)).A j r) λj a=>by rw[F l a]];exact this
  ·have:=M.gain
   rw[Sx.sumN_congr (n:=k+k+N) (g:=λj=>way j*(gN (N+N) (k+k+N) (Sx.spR N k V) (Sx.spB N) (Sx.spG k)).g j) λj a=>by rw[pg a]];exact this
 |most p am pr M=>
  have c:=Sx.split_core (N:=N) (k:=k) (V:=V) (am:=am) (pr:=pr) (p:=p) M.p1 M.am0 M.pr0 (λr l=>by
   have:=M.rows r l
   rw[H l]at this;rw[Sx.sumN_congr (g:=λj=>am j*(gN (N+N) (k+k+N) (Sx.spR N k V) (Sx.spB N) (Sx.spG k)).A j r) λj a=>by rw[F l a]];exact this) (λj a=>by
   have:=M.cols j a
   rw[pg a]at this;rw[Sx.sumN_congr (g:=λr=>(gN (N+N) (k+k+N) (Sx.spR N k V) (Sx.spB N) (Sx.spG k)).A j r*pr r) λr l=>by rw[F l a]];exact this) (by
   have:=M.same
   rw[Sx.sumN_congr (g:=λr=>(gN (N+N) (k+k+N) (Sx.spR N k V) (Sx.spB N) (Sx.spG k)).b r*pr r) λr l=>by rw[H l],Sx.sumN_congr (n:=k+k+N) (g:=λj=>am j*(gN (N+N) (k+k+N) (Sx.spR N k V) (Sx.spB N) (Sx.spG k)).g j) λj a=>by rw[pg a]]
   exact this)
  exact⟨p,am,pr,⟨c.1,c.2,λj a=>⟨M.sa j a,M.am0 j a⟩,λi o=>⟨M.sr i (show i<N+N by lia),M.pr0 i (show i<N+N by lia)⟩⟩,rfl⟩
def Dx (i t:Nat):(spV fs b ts i t).natAbs<=1:=by
 unfold spV;rw[qc1];have P:(sgD (fs.getD (jr fs i).toNat .non)).natAbs<=1:=by rcases Ai (d:=fs.getD (jr fs i).toNat .non) with h|h<;>rw[h]<;>decide
 have Q:(bB b (ts.getD t []) (jr fs i)).natAbs<=1:=by
  unfold bB;split<;>split<;>decide
 exact qa3 (qcZ P Q) (by decide)
def E5 (h:Spl fs ts) (y:0<nR fs):∃ p am pr,FC (nR fs) ts.length (spV fs b ts) p am pr/\∀ (st:Sto) (w:Option W),∃ u,
  ah (az (.nm 6) (ar (iLc 1 [2,4] (bz (aa (iV 4) ac)) (.nm 0) aL d7))) (az (.nm 7) (au jg (aa (iCB c9 (aa (ar (iLc 1 [] (aC (iOp bh (iV 5) (iV 6))) (.nm 0) aL gP)) ac)) (aa (iOp bh (iOp bb (bv (aa (iC (.int 0)) ac)) (iV 4)) (iOp bb (bv (aa (iC (.int 1)) ac)) (iV 4))) (aa (iOp bh (iOp bb (bv (aa (iC (.int 0)) ac)) (iOp bb (iC (.int 2)) (iCB aX (aa (iV 2) ac)))) (iOp bb (bv (aa (iC (.int 1)) ac)) (iV 4))) ac)))))
   [some (.d (.tup fs)),some (.d (.str (aF b))),some (.d (tsD ts)),some (.d (.lst ((qag (nR fs)).map λi=>D.lst (mpI ts.length (spV fs b ts i))))),some (.d (.int (nR fs:Int))),some (.d (.lst ((qag (nR fs)).map λi=>D.lst (mpI (ts.length+ts.length+nR fs) (Sx.spR (nR fs) ts.length (spV fs b ts) i))))),none,w] st
   = some (.nx [some (.d (.tup fs)),some (.d (.str (aF b))),some (.d (tsD ts)),some (.d (.lst ((qag (nR fs)).map λi=>D.lst (mpI ts.length (spV fs b ts i))))),some (.d (.int (nR fs:Int))),some (.d (.lst ((qag (nR fs)).map λi=>D.lst (mpI (ts.length+ts.length+nR fs) (Sx.spR (nR fs) ts.length (spV fs b ts) i))))),some (.d (.lst ((qag (nR fs)).map λi=>D.lst (mpI (ts.length+ts.length+nR fs) (Sx.spR (nR fs) ts.length (spV fs b ts) (nR fs+i)))))),some (.d (.tup [.str "most",.int p,.tup (mpI (ts.length+ts.length+nR fs) am),.tup (mpI (nR fs+nR fs) pr)]))] (st++u)):=by
 have hn:=h.n;have v:=h.tl;obtain⟨x,M,_,L⟩:=Be (D6 (N:=nR fs) (k:=ts.length) (V:=spV fs b ts) hn v Dx);obtain⟨p,am,pr,E,rfl⟩:=FA M;refine⟨p,am,pr,E,λst w=>?_⟩;obtain⟨u,e⟩:=L st;refine⟨u,?_⟩;have m:aX st [.d (tsD ts)]=some (.int (ts.length:Int)):=by
  show some (D.int ((ts.map aj).length:Nat))=_;rw[qah]
 have G:=xh (st:=st) (V:=spV fs b ts) (ts:=ts) hn v;have hb:mpI (nR fs) (λ_=>0)++mpI (nR fs) (λ_=>1)=mpI (nR fs+nR fs) (Sx.spB (nR fs)):=oh (λi o=>by unfold Sx.spB;rw[if_pos o]) (λi o=>by unfold Sx.spB;rw[if_neg (by lia)]);have hg:mpI (ts.length+ts.length) (λ_=>0)++mpI (nR fs) (λ_=>1)=mpI (ts.length+ts.length+nR fs) (Sx.spG ts.length):=oh (λi o=>by unfold Sx.spG;rw[if_pos o]) (λi o=>by unfold Sx.spG;rw[if_neg (by lia)]);have l:=DL (λr=>D.lst (mpI (ts.length+ts.length+nR fs) (Sx.spR (nR fs) ts.length (spV fs b ts) r))) (nR fs) (nR fs);have s:lcI (.nm 0) aL gP [none] ((qag (nR fs+nR fs)).map λr=>D.lst (mpI (ts.length+ts.length+nR fs) (Sx.spR (nR fs) ts.length (spV fs b ts) r))) st=some ((qag (nR fs+nR fs)).map λr=>D.tup (mpI (ts.length+ts.length+nR fs) (Sx.spR (nR fs) ts.length (spV fs b ts) r)),st):=
  ig (g:=λr=>D.lst (mpI (ts.length+ts.length+nR fs) (Sx.spR (nR fs) ts.length (spV fs b ts) r))) (λr=>D.tup (mpI (ts.length+ts.length+nR fs) (Sx.spR (nR fs) ts.length (spV fs b ts) r))) λr _=>rfl
 unfold ik at e;generalize nR fs=N at *;generalize ts.length=k at *;generalize spV fs b ts=V at *;generalize tsD ts=K at *;have R:az (.nm 6) (ar (iLc 1 [2,4] (bz (aa (iV 4) ac)) (.nm 0) aL d7)) [some (.d (.tup fs)),some (.d (.str (aF b))),some (.d K),some (.d (.lst ((qag N).map λi=>D.lst (mpI k (V i))))),some (.d (.int (N:Int))),some (.d (.lst ((qag N).map λi=>D.lst (mpI (k+k+N) (Sx.spR N k V i))))),none,w] st=some (.nx [some (.d (.tup fs)),some (.d (.str (aF b))),some (.d K),some (.d (.lst ((qag N).map λi=>D.lst (mpI k (V i))))),some (.d (.int (N:Int))),some (.d (.lst ((qag N).map λi=>D.lst (mpI (k+k+N) (Sx.spR N k V i))))),some (.d (.lst ((qag N).map λi=>D.lst (mpI (k+k+N) (Sx.spR N k V (N+i)))))),w] st):=
  aq (aD (aZ (nC (e:=iV 4) (z:=(N:Int)) rfl (by lia) (by lia) (by lia)) (by unfold bF;rw[qah,qat];lia) G))
 generalize ((qag N).map λi=>D.lst (mpI k (V i)))=L3 at *;generalize ((qag N).map λi=>D.lst (mpI (k+k+N) (Sx.spR N k V i)))=L5 at *;generalize ((qag N).map λi=>D.lst (mpI (k+k+N) (Sx.spR N k V (N+i))))=L6 at *;have I:L5.length+L6.length<=1000000:=by
  have:=congrArg qgY l
  rw[qaB,qah,qat]at this;lia
 refine ai R (aq (ak (ab (aV (ab (aD (aZ (bg (ae rfl rfl (fM _ I))) (by rw[qaB];exact I) ?_)) rfl) rfl) (ab (ae (ae rfl rfl (j8 st 0 (n:=N) (by lia))) (ae rfl rfl (j8 st 1 (n:=N) (by lia))) ((zX _ (by rw[aA,aA];lia)).trans (by rw[hb]))) (ab (ae (ae rfl (ae rfl (aV (ab rfl rfl) m) (Ca st _)) (j8 st 0 (n:=k+k) (by lia))) (ae rfl rfl (j8 st 1 (n:=N) (by lia))) ((zX _ (by rw[aA,aA];lia)).trans (by rw[hg]))) rfl))) e));rw[l];exact s
end
end Own
set_option maxHeartbeats 1000000
namespace Own
open PySem L2
open Sx (Pb Tb Good Named Fe LV ZV piv lexP leastR leaveL sumN unit colV basis)
def GU {ns:List Int} (h:∀ x∈ns,x=0):ci 0 ns=0:=by
 have d:∀ x∈ns,((ci 0 ns:Nat):Int)∣x:=λx a=>qcH.mpr ((dD 0 ns).2 x a)
 induction ns with
 |nil=>rfl
 |cons x ns c=>
  have a:=h x qaf;subst a;show ci (qfk 0 (0:Int).natAbs) ns=0;exact c (λy b=>h y (qal _ b)) (λy b=>qcH.mpr ((dD 0 ns).2 y b))
def AF {n:Nat}{f:Nat->Int} (r:∀ i,i<n->Sm (f i)) (hn:n<=1000):∃ (q:Int) (g:Nat->Int),0<q/\(∀ i,i<n->f i=q*g i)/\∀ st:Sto,dg [.d (.tup (mpI n f))] st=some (.d (.tup (mpI n g)),st):=by
 have hb:∀ x∈(qag n).map f,Sm x:=λx a=>by
  obtain⟨i,c,rfl⟩:=qaX.mp a;exact r i (qaU.mp c)
 have o:=λst=>vS (st:=st) (ns:=(qag n).map f) (d0:=.tup (mpI n f)) (λ_ _=>by rw[<-bQ];exact bM rfl) hb;by_cases m:∀ x∈(qag n).map f,x=0
 ·refine⟨1,f,by decide,λi _=>(qc4 _).symm,λst=>?_⟩
  have e:=o st;rw[GU m]at e;generalize mpI n f=L at *;exact aB (n:=2) (k:=1) (b:=jd) rfl (ai (aq (i:=1) (ak rfl e)) (fY (dq (s:=st) rfl rfl)))
 ·obtain⟨x,a,x0⟩:∃ x∈(qag n).map f,x≠0:=by
   by_cases q:∃ x∈(qag n).map f,x≠0
   ·exact q
   ·exact absurd (λx a=>qfo λh=>q ⟨x,a,h⟩) m
  obtain⟨g0,g1⟩:=lm a x0 (hb x a);have gd:∀ i,i<n->((ci 0 ((qag n).map f):Nat):Int)∣f i:=λi c=>qcH.mpr ((dD 0 _).2 _ (qaX.mpr ⟨i,qaU.mpr c,rfl⟩));generalize ((ci 0 ((qag n).map f):Nat):Int)=q at *;refine⟨q,λi=>f i / q,g0,λi c=>(qdE (gd i c)).symm,λst=>?_⟩;have f0:(q==(0:Int))=false:=by simp;lia
  have l:=qx (te:=fF) (st:=st) (ns:=(qag n).map f) g0 g1 rfl;rw[<-bQ,qaR,qaR]at l;have e:=o st;have p:(mpI n f).length<=1000000:=by rw[aA];lia
  have j:lcI (.nm 0) aL fF [none,some (.d (.int q))] (mpI n f) st=some (mpI n λi=>f i / q,st):=l;generalize (mpI n λi=>f i / q)=M at *;generalize mpI n f=L at *;exact aB (n:=2) (k:=1) (b:=jd) rfl (ai (aq (i:=1) (ak rfl e)) (ai (bA (s:=st) (ay rfl rfl (by rw[dU,f0])) rfl) (aP (aV (ab (aD (aZ (bM rfl) p j)) rfl) rfl))))
def rN (fs:List D) (i:Nat):Nat:=(jr fs i).toNat
section
variable {fs:List D}{b:Bool}{ts:List (List Int)}
def v7:∀ (r:List D) (i:Nat),(bo i r).Nodup
 |[],_=>qcU
 |d::r,i=>by
  have G:=v7 r (i+1);have A:∀ j∈bo (i+1) r,(i:Int)≠j:=λj u=>by
   obtain⟨m,e,_,_⟩:=lz r (i+1) u;lia
  have C:((i:Int)::bo (i+1) r).Nodup:=qce.mpr ⟨λhm=>A _ hm rfl,G⟩;cases d<;>first|exact G|exact C
def yI {i:Nat} (c:i<nR fs):jr fs i∈bo 0 fs:=by
 unfold jr;rw[qaM,qao c];exact qbU c
def pk (h:Spl fs ts) {i:Nat} (c:i<nR fs):jr fs i=(rN fs i:Int)/\rN fs i<fs.length:=by
 obtain⟨m,d,e,hm,_⟩:=u7 h (yI c);unfold rN;rw[e,qbg];exact⟨rfl,hm⟩
def uE (h:Spl fs ts) {i j:Nat} (c:i<nR fs) (u:j<nR fs) (e:rN fs i=rN fs j):i=j:=by
 have q:jr fs i=jr fs j:=by rw[(pk h c).1,(pk h u).1,e]
 unfold jr at q;rw[qaM,qaM,qao c,qao u]at q;exact (qdC (v7 fs 0)).mp q
def zA {st:Sto}{m:Nat}{y:Nat->Int} (h:Spl fs ts) (hm:m=nR fs\/m=0):dX [.d (.tup fs),.d (.tup (mpI m y))] st=some (.d (.tup (mpI fs.length λr=>acc (rN fs) y m r)),st):=by
 have M:=h.fl;have hn:=h.n;have L:m<=nR fs:=by lia
 have O:=qj (st:=st) (fs:=fs) (by lia);have w:iCB aX (aa (iV 0) ac) [some (.d (.tup fs)),some (.d (.tup (mpI m y))),none,none,none] st=some (.d (.int (fs.length:Int)),st):=aV (ab rfl rfl) rfl;have s1:=je (st:=st) w (by lia) (rN fs) y 0;have I:∀ (B p f:Option W) (s:Sto),cf [.d (.tup fs)] s=some (.d (.tup ((bo 0 fs).map D.int)),s)->gf (aa (au cf (aa (iV 0) ac)) (aa (iV 1) ac)) [some (.d (.tup fs)),some (.d (.tup (mpI m y))),B,p,f] s=some ((qag m).map λi=>D.tup [.int ((rN fs i:Nat):Int),.int (y i)],s):=λB p f s H=>by
  have q:ja ((bo 0 fs).map D.int) (mpI m y)=(qag m).map λi=>D.tup [.int ((rN fs i:Nat):Int),.int (y i)]:=by
   apply qbw;intro i;rw[gk,qaD,qaD];by_cases c:i<m
   ·rw[bj c,qbh c]
    have t:i<(bo 0 fs).length:=by have:nR fs=(bo 0 fs).length:=rfl;lia
    have e:=(pk h (show i<nR fs by lia)).1;unfold jr at e;rw[qaM,qao t]at e;rw[qao t,qai,qai,<-e];rfl
   ·rw[qaJ (l:=mpI m y) (by rw[aA];lia),qaJ (l:=qag m) (by rw[qat];lia)]
    cases (bo 0 fs)[i]?<;>rfl
  rw[<-q]
  have:=ab (ak (a:=aa (iV 0) ac) (env:=[some (.d (.tup fs)),some (.d (.tup (mpI m y))),B,p,f]) (st:=s) rfl H) (ab (a:=iV 1) (b:=ac) rfl rfl)
  simp only[gf,this,qaa];rfl
 obtain⟨E,P,F,⟨p,f,rfl⟩,rfl⟩:=bN (g:=.tp [3,4]) (body:=iQ) (ds:=(qag m).map λi=>D.tup [.int ((rN fs i:Nat):Int),.int (y i)])
  (λi env s=>(∃ p f,env=[some (.d (.tup fs)),some (.d (.tup (mpI m y))),some (.h st.length),p,f])/\s=st++[.l (mpI fs.length λr=>acc (rN fs) y i (0+r))])
  (env:=[some (.d (.tup fs)),some (.d (.tup (mpI m y))),some (.h st.length),none,none]) (st:=st++[.l (mpI fs.length λr=>acc (rN fs) y 0 (0+r))]) ⟨⟨_,_,rfl⟩,rfl⟩ (λi d env s hd ⟨⟨p,f,e⟩,es⟩=>by
   subst e es;obtain⟨c,rfl⟩:=n8 hd;have x:=(pk h (show i<nR fs by lia)).2;refine⟨_,_,_,rfl,.inl ?_,⟨some (.d (.int ((rN fs i:Nat):Int))),some (.d (.int (y i))),rfl⟩,rfl⟩
   have:=sIx (k:=rN fs i) (env:=[some (.d (.tup fs)),some (.d (.tup (mpI m y))),some (.h st.length),some (.d (.int ((rN fs i:Nat):Int))),some (.d (.int (y i)))]) (v:=iV 4) (d:=.int (y i)) (st:=st) (xs:=mpI fs.length λr=>acc (rN fs) y i (0+r)) rfl (o:=iV 2) (i:=iV 3) rfl rfl (by rw[aA];exact x)
   rw[<-qB (d:=0) (N:=fs.length) (e:=rN fs) (y:=y) (i:=i) (by lia) λj u e=>by have:=uE h (show j<nR fs by lia) (show i<nR fs by lia) e;lia]
   exact this)
 rw[qah,qat]at F;have z:=qj (st:=st++[.l (mpI fs.length λr=>acc (rN fs) y 0 (0+r))]) (fs:=fs) (by lia);have J:=i9 st (mpI fs.length λr=>acc (rN fs) y m (0+r));have K:iCB c9 (aa (iV 2) ac) [some (.d (.tup fs)),some (.d (.tup (mpI m y))),some (.h st.length),p,f] (st++[.l (mpI fs.length λr=>acc (rN fs) y m (0+r))])=some (.d (.tup (mpI fs.length λr=>acc (rN fs) y m (0+r))),st++[.l (mpI fs.length λr=>acc (rN fs) y m (0+r))]):=by
  refine aV (ab rfl rfl) ?_;show (lg (st++[.l (mpI fs.length λr=>acc (rN fs) y m (0+r))]) st.length).map _=_;rw[J];rfl
 have:=nk (n:=5) (k:=2) (b:=kB) (ws:=[.d (.tup fs),.d (.tup (mpI m y))]) (st:=st) rfl (ai (aq s1) (ai (bE (I _ _ _ _ z) F) (aP K)))
 rw[qdu]at this;simp only[qaT]at this;exact this
end
end Own
set_option maxHeartbeats 1000000
namespace Own
open PySem L2
open Sx (Pb Tb Good Named Fe LV ZV piv lexP leastR leaveL sumN unit colV basis)
def qP (k:List Int) (d:D) (r:List (List Int×D)) (t:List Int):vM ((k,d)::r) t=if k=t then some d else vM r t:=by
 unfold vM;by_cases e:k=t
 ·rw[qei (by simpa using e),if_pos e];rfl
 ·rw[qej (by simpa using e),if_neg e]
def A9 (a:List (List Int×D)) (k:List Int):(a.any λp=>decide (p.1=k))=decide (k∈a.map qcz):=by
 induction a with
 |nil=>rfl
 |cons p r b=>
  rw[qbZ,b,qaq];by_cases e:p.1=k
  ·simp[e]
  ·have:¬ k=p.1:=λz=>e z.symm
   simp[e,this]
def zQ (k:List Int) (d:D) (j:List Int):∀ a:List (List Int×D),k∉a.map qcz->vM (a++[(k,d)]) j=if j=k then some d else vM a j
 |[],_=>by
  show vM [(k,d)] j=_;rw[qP];by_cases e:k=j
  ·rw[if_pos e,if_pos e.symm]
  ·rw[if_neg e,if_neg (λz=>e z.symm)]
 |(c,d')::r,h=>by
  rw[qaq,qaH,not_or]at h;rw[qbc,qP,qP,zQ k d j r h.2];by_cases b:c=j
  ·rw[if_pos b,if_pos b,if_neg (λz=>h.1 (z.symm.trans b.symm))]
  ·rw[if_neg b,if_neg b]
def BA (s:Sto) (a:Int):dNe s (.d (.int a)) (.d (.int 0))=some (.bl (decide (a≠0))):=by
 show some (D.bl (!(a==0)))=_;by_cases h:a=0<;>simp[h]
def bm (ks:List (List Int)) (X:List Int->Int):List Prt:=(ks.filter λt=>decide (X t≠0)).map λt=>(t,X t)
def yg {st:Sto}{kd:Str}{n:Nat}{a:List (List Int×D)}{X:List Int->Int} (hm:mgt st n=some a) (j:a.length<64) (r:∀ t∈a.map qcz,vM a t=some (.int (X t))) :
  iz [.d (.str kd),.h n] st=some (.d (bU kd (bm (av (a.map qcz)) X)),st):=by
 have s:(av (a.map qcz)).length<=64:=by rw[(aR _).length_eq,qah];lia
 have i:∀ t∈av (a.map qcz),vM a t=some (.int (X t)):=λt f=>r t ((aR _).mem_iff.mp f);have m:∀ t∈av (a.map qcz),wJ (iV 1) (iV 0) [some (.d (aj t)),some (.h n)] st=some (.d (.int (X t)),st):=λt f=>by
  have c:aW (t.map D.int)=some t:=bD t;have q:=i t f;simp only[wJ,iV,aj,qay,qaF,qai,qaa,hm,c,q]
 have l:=ko (g:=.nm 0) (tt:=jA) (te:=jG) (env:=[none,some (.h n)]) (st:=st) (λd=>match d with|.tup ds=>(match aW ds with|some t=>decide (X t≠0)|none=>false)|_=>false) (λd=>match d with|.tup ds=>(match aW ds with|some t=>bf (t,X t)|none=>d)|d=>d) (ds:=(av (a.map qcz)).map aj) λd hd=>by
  obtain⟨t,f,rfl⟩:=qaX.mp hd;have c:aW (t.map D.int)=some t:=bD t;refine⟨_,rfl,?_,λ_=>?_⟩
  ·show _=some ((match aW (t.map D.int) with|some t=>decide (X t≠0)|none=>false),st)
   rw[c];exact ay (m t f) rfl (BA _ _)
  ·show _=some (W.d (match aW (t.map D.int) with|some t=>bf (t,X t)|none=>aj t),st)
   rw[c];exact gY (ab rfl (ab (m t f) rfl)) rfl (by show 2<=1000;decide)
 have e:((((av (a.map qcz)).map aj).filter (λd=>match d with|.tup ds=>(match aW ds with|some t=>decide (X t≠0)|none=>false)|_=>false)).map (λd=>match d with|.tup ds=>(match aW ds with|some t=>bf (t,X t)|none=>d)|d=>d))=(bm (av (a.map qcz)) X).map bf:=by
  unfold bm;rw[List.filter_map,qaR,qaR];have c:∀ t:List Int,aW (t.map D.int)=some t:=bD
  congr 1
  ·funext t
   show (match aW (t.map D.int) with|some t=>bf (t,X t)|none=>aj t)=bf (t,X t)
   rw[c]
  ·refine qhr λt _=>?_
   show (match aW (t.map D.int) with|some t=>decide (X t≠0)|none=>false)=_
   rw[c]
 rw[e]at l;have o:lQ (iV 1) [some (.d (.str kd)),some (.h n)] st=some ((av (a.map qcz)).map aj,st):=by
  simp only[lQ,iV,qay,qaF,qai,qaa,hm,j,if_true]
 have p:aC (ar (lQ (iV 1))) [some (.d (.str kd)),some (.h n)] st=some ((av (a.map qcz)).map aj,st):=by
  simp only[aC,ar,o,qai,qaa]
 have u:((av (a.map qcz)).map aj).length<=1000000:=by rw[qah];lia
 unfold bU;exact aB (n:=2) (k:=2) (b:=md) rfl (aP (gY (ab rfl (ab (aV (ab (aD (aZ p u l)) rfl) rfl) rfl)) rfl (by show 2<=1000;decide)))
def sZ (st:Sto) (a:List (List Int×D)):mgt (st++[.m a]) st.length=some a:=by
 unfold mgt;rw[qaP (qar _),qey];rfl
def qW {α:Type}{te:Ef}{l:Ev}{st:Sto}{g:α->D×D} (F:α->D):∀ {ks:List α},(∀ k∈ks,te (some (.d (g k).1)::some (.d (g k).2)::l) st=some (.d (F k),st))->
  lcI (.tp [0,1]) aL te (none::none::l) (ks.map λk=>D.tup [(g k).1,(g k).2]) st=some (ks.map F,st)
 |[],_=>rfl
 |k::ks,h=>by
  have b:=qW (te:=te) (l:=l) (st:=st) (g:=g) F (ks:=ks) λx a=>h x (qal _ a);have c:=h k qaf;rw[qaq,qaq];unfold lcI;rw[show cB (.tp [0,1]) (.d (.tup [(g k).1,(g k).2])) (none::none::l)=some (some (.d (g k).1)::some (.d (g k).2)::l) from rfl,qaa,show aL (some (.d (g k).1)::some (.d (g k).2)::l) st=some (true,st) from rfl,qaa,if_pos rfl,c,qaa,b];rfl
end Own
set_option maxHeartbeats 1000000
namespace Own
open PySem L2
open Sx (Pb Tb Good Named Fe LV ZV piv lexP leastR leaveL sumN unit colV basis)
def dvP (g:Int) (p:Prt):Prt:=(p.1,p.2 / g)
def xO {st:Sto}{kd:Str}{ps:List Prt}{g:Int} (f:ps.length<=1000) (hg:∀ p∈ps,0<g/\Sm g):nG [.d (bU kd ps),.d (.int g)] st=some (.d (bU kd (ps.map (dvP g))),st):=by
 have a:lcI (.tp [0,1]) aL oH [none,none,some (.d (.int g))] (ps.map bf) st=some ((ps.map (dvP g)).map bf,st):=by
  rw[qaR];exact qW (g:=λp:Prt=>(aj p.1,D.int p.2)) (bf ∘ dvP g) λp e=>gY (ab rfl (ab (ae rfl rfl (qz st (hg p e).1 (hg p e).2)) rfl)) rfl (by show 2<=1000;decide)
 have c:(ps.map bf).length<=1000000:=by rw[qah];lia
 unfold bU;generalize (ps.map (dvP g)).map bf=L at a ⊢;generalize ps.map bf=PP at a c ⊢;exact aB (n:=2) (k:=2) (b:=rP) rfl (aP (gY (ab (ae rfl rfl (kG _ _ _)) (ab (aV (ab (aD (aZ (bM (ae rfl rfl (jx _ _ _))) c a)) rfl) rfl) rfl)) rfl (by show 2<=1000;decide)))
def xK {st:Sto}{kd:Str}{ps:List Prt} (i:ps.length<=1000) (hn:∀ p∈ps,p.2≠0/\Sm p.2):m6 [.d (bU kd ps)] st=some (.d (bU kd (ps.map (dvP ((ci 0 (ps.map qdt):Nat):Int)))),st):=by
 have f:=mT (st:=st) (ns:=ps.map qdt) λn hm=>by
  obtain⟨p,c,rfl⟩:=qaX.mp hm;exact (hn p c).2
 have e:=xO (st:=st) (kd:=kd) (g:=((ci 0 (ps.map qdt):Nat):Int)) i λp c=>lm (qdI c) (hn p c).1 (hn p c).2;have a:lcI (.tp [0,1]) aL ot [none,none] (ps.map bf) st=some ((ps.map qdt).map D.int,st):=by
  rw[qaR];exact qW (g:=λp:Prt=>(aj p.1,D.int p.2)) (D.int ∘ qdt) λp c=>rfl
 have h:(ps.map bf).length<=1000000:=by rw[qah];lia
 generalize bU kd (ps.map (dvP ((ci 0 (ps.map qdt):Nat):Int)))=R at e ⊢;generalize ((ci 0 (ps.map qdt):Nat):Int)=g at f e;generalize (ps.map qdt).map D.int=L at f a;unfold bU at e ⊢;generalize ps.map bf=PP at a h e ⊢;exact aB (n:=1) (k:=1) (b:=rF) rfl (aP (ak (ab rfl (ab (ak (ab (aD (aZ (bM (ae rfl rfl (jx _ _ _))) h a)) rfl) f) rfl)) e))
def AS {ks:List (List Int)}{X:List Int->Int}{g:Int} (hd:∀ t∈ks,g∣X t):(bm ks X).map (dvP g)=bm ks λt=>X t / g:=by
 unfold bm;rw[qaR]
 have:(ks.filter λt=>decide (X t≠0))=ks.filter λt=>decide (X t / g≠0):=qhr λt a=>by
  have e:=qdE (hd t a);apply decide_eq_decide.mpr;refine not_congr ⟨λh=>by rw[h,Int.zero_ediv],λh=>by rw[<-e,h,qa7]⟩
 rw[this];rfl
def pkv (ts:List (List Int)) (x:Nat->Int) (i:Nat):List (List Int×D):=(qag i).map λj=>(ts.getD j [],.int (x j))
section
variable {ts:List (List Int)}{x:Nat->Int}
def tV (hn:ts.Nodup) {i j:Nat} (l:i<ts.length) (f:j<ts.length) (e:ts.getD i []=ts.getD j []):i=j:=by
 rw[qaM,qaM,qao l,qao f]at e;exact (qdC hn).mp e
def vR (i:Nat):(pkv ts x i).map qcz=(qag i).map λj=>ts.getD j []:=by unfold pkv;rw[qaR];rfl
def vT:(pkv ts x ts.length).map qcz=ts:=by
 have:=jm [] id ts
 rw[qgW]at this;rw[vR];exact this.symm
def yU (hn:ts.Nodup) {i:Nat} (l:i<ts.length):ts.getD i []∉(pkv ts x i).map qcz:=λh=>by
 rw[vR]at h;obtain⟨j,f,e⟩:=qaX.mp h;have N:=qaU.mp f
 have:=tV hn (show j<ts.length by lia) l e
 lia
def sI (i:Nat):pkv ts x (i+1)=pkv ts x i++[(ts.getD i [],.int (x i))]:=by unfold pkv;rw[qer,qbR];rfl
def BG (hn:ts.Nodup) {i:Nat} (l:i<ts.length):wH (pkv ts x i) (ts.getD i []) (.int (x i))=pkv ts x (i+1):=by
 have h:=yU (x:=x) hn l;rw[sI];unfold wH;rw[A9,if_neg (by rw[decide_eq_true_iff];exact h)]
def zI (hn:ts.Nodup):∀ {i j:Nat},i<=ts.length->j<i->vM (pkv ts x i) (ts.getD j [])=some (.int (x j))
 |0,_,_,f=>absurd f (qcM _)
 |i+1,j,l,f=>by
  rw[sI,zQ _ _ _ _ (yU hn (by lia))];by_cases e:j=i
  ·subst e;rw[if_pos rfl]
  ·rw[if_neg (λq=>e (tV hn (by lia) (by lia) q)),zI hn (by lia) (by lia)]
def fX (ts:List (List Int)) (x:Nat->Int) (t:List Int):Int:=match vM (pkv ts x ts.length) t with|some (.int z)=>z|_=>0
def A7 (hn:ts.Nodup) {j:Nat} (f:j<ts.length):fX ts x (ts.getD j [])=x j:=by
 unfold fX;rw[zI hn (qar _) f]
def ku {t:List Int} (h:t∈ts):∃ j,j<ts.length/\ts.getD j []=t:=by
 obtain⟨j,f,e⟩:=qcQ.mp h;exact⟨j,f,by rw[qaM,qao f];exact e⟩
def FZ {st:Sto}{m i:Nat}{am:Nat->Int}{a0:Option W} (hn:ts.Nodup) (L:ts.length<=16) (hm:ts.length+ts.length<=m) (l:i<ts.length) :
  fm [a0,some (.d (tsD ts)),some (.d (.tup (mpI m am))),some (.h st.length),some (.d (.int (i:Int))),some (.d (aj (ts.getD i [])))] (st++[.m (pkv ts (λj=>am j - am (ts.length+j)) i)])
  = some (.nx [a0,some (.d (tsD ts)),some (.d (.tup (mpI m am))),some (.h st.length),some (.d (.int (i:Int))),some (.d (aj (ts.getD i [])))] (st++[.m (pkv ts (λj=>am j - am (ts.length+j)) (i+1))])):=by
 have S:aW ((ts.getD i []).map D.int)=some (ts.getD i []):=bD _;have y:=sZ st (pkv ts (λj=>am j - am (ts.length+j)) i);have V:=BG (x:=λj=>am j - am (ts.length+j)) hn l;have R:=nO st (.m (pkv ts (λj=>am j - am (ts.length+j)) i)) (.m (pkv ts (λj=>am j - am (ts.length+j)) (i+1)));have hl:(pkv ts (λj=>am j - am (ts.length+j)) i).length<1000:=by unfold pkv;rw[qah,qat];lia
 have w:∀ s:Sto,aX s [.d (tsD ts)]=some (.int (ts.length:Int)):=λs=>by
  show some (D.int ((ts.map aj).length:Nat))=_;rw[qah]
 have ia:∀ s:Sto,dIx s (.d (.tup (mpI m am))) (.d (.int (i:Int)))=some (.int (am i)):=λs=>bW (bj (by lia));have ib:∀ s:Sto,dIx s (.d (.tup (mpI m am))) (.d (.int ((ts.length:Int)+(i:Int))))=some (.int (am (ts.length+i))):=λs=>by
  rw[<-qh2];exact bW (bj (by lia))
 generalize pkv ts (λj=>am j - am (ts.length+j)) i=K at *;generalize pkv ts (λj=>am j - am (ts.length+j)) (i+1)=K2 at *;generalize tsD ts=tD at *;generalize mpI m am=A at *;generalize ts.getD i []=t at *;have g2:=ae (g:=kf) (env:=[a0,some (.d tD),some (.d (.tup A)),some (.h st.length),some (.d (.int (i:Int))),some (.d (aj t))]) (st:=st++[.m K]) (ae (a:=iV 2) (b:=iV 4) rfl rfl (ia _)) (ae (a:=iV 2) (b:=iOp bh (iCB aX (aa (iV 1) ac)) (iV 4)) rfl (ae (aV (ab rfl rfl) (w _)) rfl rfl) (ib _)) rfl;simp only[aj]at g2 ⊢;simp only[fm,vC,g2,iV,qay,qaF,qai,qaa,S,y,hl,if_true,V,R]
def CD {b:Bool}{am:Nat->Int}{m:Nat} (hn:ts.Nodup) (L:ts.length<=16) (hm:ts.length+ts.length<=m) (M:∀ j,j<ts.length+ts.length->Sm (am j)/\0<=am j) :
  ∃ (q:Int) (X:List Int->Int),0<q/\(∀ j,j<ts.length->am j - am (ts.length+j)=q*X (ts.getD j []))/\∀ st:Sto,jc [.d (.str (aF b)),.d (tsD ts),.d (.tup (mpI m am))] st=some (.d (bU (aF b) (bm (av ts) X)),st):=by
 have E:∀ j,j<ts.length->fX ts (λj=>am j - am (ts.length+j)) (ts.getD j [])=am j - am (ts.length+j):=λj f=>A7 (x:=λj=>am j - am (ts.length+j)) hn f;have r:∀ p∈bm (av ts) (fX ts λj=>am j - am (ts.length+j)),p.2≠0/\Sm p.2:=λp u=>by
  unfold bm at u;obtain⟨t,v,rfl⟩:=qaX.mp u;obtain⟨N,Y⟩:=qcf.mp v;refine⟨of_decide_eq_true Y,?_⟩;obtain⟨j,f,rfl⟩:=ku ((aR _).mem_iff.mp N);show Sm (fX ts _ (ts.getD j []));rw[E j f];have a:=M j (by lia);have c:=M (ts.length+j) (by lia);unfold Sm at *;generalize (2:Nat)^4000=B at *;lia
 have I:(bm (av ts) (fX ts λj=>am j - am (ts.length+j))).length<=1000:=by
  unfold bm;rw[qah]
  have:=qes (λt=>decide (fX ts (λj=>am j - am (ts.length+j)) t≠0)) (av ts)
  rw[(aR _).length_eq]at this;lia
 have o:∀ st:Sto,jc [.d (.str (aF b)),.d (tsD ts),.d (.tup (mpI m am))] st=some (.d (bU (aF b) ((bm (av ts) (fX ts λj=>am j - am (ts.length+j))).map (dvP ((ci 0 ((bm (av ts) (fX ts λj=>am j - am (ts.length+j))).map qdt):Nat):Int)))),st):=λst=>by
  have P:=yg (st:=st++[.m (pkv ts (λj=>am j - am (ts.length+j)) ts.length)]) (kd:=aF b) (X:=fX ts λj=>am j - am (ts.length+j)) (sZ st _) (by unfold pkv;rw [qah,qat];lia) (λt v=>by
   rw[vT]at v;obtain⟨j,f,rfl⟩:=ku v;rw[E j f]
   exact zI (x:=λj=>am j - am (ts.length+j)) hn (qar _) f)
  rw[vT]at P;have F:=xK (st:=st++[.m (pkv ts (λj=>am j - am (ts.length+j)) ts.length)]) (kd:=aF b) I r;obtain⟨J,s2,y,⟨G,H,rfl⟩,rfl⟩:=bN (g:=.tp [4,5]) (body:=fm) (ds:=(qag ts.length).map λi:Nat=>D.tup [.int ((i:Nat):Int),aj (ts.getD i [])])
   (λi env s=>(∃ G H,env=[some (.d (.str (aF b))),some (.d (tsD ts)),some (.d (.tup (mpI m am))),some (.h st.length),G,H])/\s=st++[.m (pkv ts (λj=>am j - am (ts.length+j)) i)])
   (env:=[some (.d (.str (aF b))),some (.d (tsD ts)),some (.d (.tup (mpI m am))),some (.h st.length),none,none]) (st:=st++[.m (pkv ts (λj=>am j - am (ts.length+j)) 0)]) ⟨⟨_,_,rfl⟩,rfl⟩ (λi d env s hd ⟨⟨G,H,e⟩,es⟩=>by
    subst e es;obtain⟨l,rfl⟩:=n8 hd
    exact⟨_,_,_,rfl,.inl (FZ hn L hm l),⟨_,_,rfl⟩,rfl⟩)
  rw[qah,qat]at y;have Q:cb (aa (iV 1) ac) [some (.d (.str (aF b))),some (.d (tsD ts)),some (.d (.tup (mpI m am))),some (.h st.length),none,none] (st++[.m []])=some ((qag ts.length).map λi:Nat=>D.tup [.int ((i:Nat):Int),aj (ts.getD i [])],st++[.m []]):=by
   rw[<-wt (λi=>aj (ts.getD i [])),<-jm [] aj ts];rfl
  have s1:az (.nm 3) zr [some (.d (.str (aF b))),some (.d (tsD ts)),some (.d (.tup (mpI m am))),none,none,none] st=some (.nx [some (.d (.str (aF b))),some (.d (tsD ts)),some (.d (.tup (mpI m am))),some (.h st.length),none,none] (st++[C.m []])):=rfl;generalize bm (av ts) (fX ts λj=>am j - am (ts.length+j))=ps at *;generalize pkv ts (λj=>am j - am (ts.length+j)) ts.length=K at *
  have:=nk (n:=6) (k:=3) (b:=px) (ws:=[.d (.str (aF b)),.d (tsD ts),.d (.tup (mpI m am))]) (st:=st) rfl (ai s1 (ai (bE Q y) (aP (ak (ab (ak rfl P) rfl) F))))
  rw[qdu]at this;exact this
 by_cases O:bm (av ts) (fX ts λj=>am j - am (ts.length+j))=[]
 ·refine⟨1,fX ts λj=>am j - am (ts.length+j),by decide,λj f=>by rw[E j f,qc4],λst=>?_⟩
  rw[o st,O];rfl
 ·obtain⟨p,u⟩:=List.exists_mem_of_ne_nil _ O
  have g0:=(lm (qdI u) (r p u).1 (r p u).2).1;have hd:∀ t∈av ts,((ci 0 ((bm (av ts) (fX ts λj=>am j - am (ts.length+j))).map qdt):Nat):Int)∣fX ts (λj=>am j - am (ts.length+j)) t:=λt v=>by
   by_cases z:fX ts (λj=>am j - am (ts.length+j)) t=0
   ·rw[z];exact Int.dvd_zero _
   ·refine qcH.mpr ((dD 0 _).2 _ (qaX.mpr ⟨(t,fX ts (λj=>am j - am (ts.length+j)) t),?_,rfl⟩))
    unfold bm;exact qaX.mpr ⟨t,qcf.mpr ⟨v,decide_eq_true z⟩,rfl⟩
  have T:=AS hd;generalize ((ci 0 ((bm (av ts) (fX ts λj=>am j - am (ts.length+j))).map qdt):Nat):Int)=q at *;refine⟨q,λt=>fX ts (λj=>am j - am (ts.length+j)) t / q,g0,λj f=>?_,λst=>by rw[o st,T]⟩
  have:=hd (ts.getD j []) ((aR _).mem_iff.mpr (by rw[qaM,qao f];exact qbU f))
  show _=q*(fX ts (λj=>am j - am (ts.length+j)) (ts.getD j []) / q);rw[qdE this,E j f]
end
end Own
set_option maxHeartbeats 1000000
namespace Own
open PySem L2
open Sx (Pb Tb Good Named Fe LV ZV piv lexP leastR leaveL sumN unit colV basis)
def Ex (ds:List D) (k:Nat):kZ ds none (some (k:Int))=ds.take k:=by
 unfold kZ;rw[HT.sIx_nat,HT.sIx_none,qh0,qjB];rcases qjC k ds.length with h|h
 ·rw[qhZ h]
 ·rw[qhO h,qea,qdj h]
def A6 {n k:Nat}{f:Nat->Int} (h:k<=n):(mpI n f).take k=mpI k f:=by
 apply qbw;intro i;by_cases a:i<k
 ·rw[qd2 a,bj (by lia),bj a]
 ·rw[qaJ (by rw[qc0,aA];lia),qaJ (by rw[aA];lia)]
def Ep {a b c:Sf}{env e:Ev}{st s:Sto}{r:Option Fl} (h:ah a b env st=some (.nx e s)) (d:c e s=r):ah a (ah b c) env st=r:=by
 simp only[ah]at h ⊢;cases ha:a env st with
 |none=>rw[ha]at h;cases h
 |some x=>
  rw[ha,qaa]at h;rw[qaa];cases x with
  |nx f s1=>simp only at h ⊢;rw[h,qaa];exact d
  |_=>cases h
def zG {e:Nat->Nat}{y:Nat->Int}{m i:Nat} (a:i<m) (h:∀ j,j<m->e j=e i->j=i):acc e y m (e i)=y i:=by
 unfold acc;rw[Sx.sumN_single a λj b q=>if_neg λz=>q (h j b z),if_pos rfl]
structure AG (fs:List D) (b:Bool) (ts:List (List Int)) (X:List Int->Int) (w:Nat->Int):Prop where
 bal:∀ t,t<ts.length->(sumN (nR fs) λi=>spV fs b ts i t*w (rN fs i))=0
 val:∀ i,i<nR fs->0<=(sumN ts.length λt=>X (ts.getD t [])*spV fs b ts i t)/\((sumN ts.length λt=>X (ts.getD t [])*spV fs b ts i t)=0↔w (rN fs i)≠0)
 w0:∀ r,r<fs.length->0<=w r/\Sm (w r)
 wn:∀ r,r<fs.length->fs.getD r .non=.non->w r=0
 sX:∀ t∈ts,Sm (X t)
def B0 {q x y:Int} (a:0<q) (e:x=q*y) (h:Sm x):Sm y:=by
 unfold Sm at *;refine qbJ ?_ h;rw[e,qc1];exact Nat.le_mul_of_pos_left _ (by lia)
section
variable {fs:List D}{b:Bool}{ts:List (List Int)}
def DT (h:Spl fs ts) {r:Nat} (e:fs.getD r .non=.non) {i:Nat} (l:i<nR fs):rN fs i≠r:=λz=>by
 obtain⟨m,d,e1,_,_,_,hn,hg⟩:=u7 h (yI l);unfold rN at z;rw[z]at hg;exact hn (hg.symm.trans e)
def C6 (h:Spl fs ts) {y:Nat->Int} (hy:∀ i,i<nR fs->Sm (y i)/\0<=y i) (r:Nat):Sm (acc (rN fs) y (nR fs) r)/\0<=acc (rN fs) y (nR fs) r:=by
 by_cases q:∃ i,i<nR fs/\rN fs i=r
 ·obtain⟨i,l,rfl⟩:=q
  rw[zG l λj o z=>uE h o l z];exact hy i l
 ·rw[ow λj o z=>q ⟨j,o,z⟩]
  exact⟨qex _,qdw _⟩
def zN (h:Spl fs ts):∃ X w,AG fs b ts X w/\∀ st:Sto,∃ u,gB [.d (.tup fs),.d (.str (aF b)),.d (tsD ts)] st=some (.d (.tup [bU (aF b) (bm (av ts) X),.tup (mpI fs.length w)]),st++u):=by
 have C:∀ s:Sto,aX s [.d (.lst ((qag (nR fs)).map λi=>D.lst (mpI ts.length (spV fs b ts i))))]=some (.int (nR fs:Int)):=λs=>by
  show some (D.int (((qag (nR fs)).map λi=>D.lst (mpI ts.length (spV fs b ts i))).length:Nat))=_;rw[qah,qat]
 by_cases hN:nR fs=0
 ·refine⟨λ_=>0,λr=>acc (rN fs) (λ_=>0) 0 r,⟨λt _=>?_,λi l=>absurd l (by lia),λr _=>⟨qdw _,qex _⟩,λ_ _ _=>rfl,λ_ _=>qex _⟩,λst=>⟨[],?_⟩⟩
  ·rw[hN];rfl
  have O:=sv (st:=st) (b:=b) h;have hw:=zA (st:=st) (m:=0) (y:=λ_=>0) h (.inr rfl);have M:bm (av ts) (λ_=>0)=[]:=by
   unfold bm;rw[qgs.mpr λt _=>by simp];rfl
  have hl:_=some (D.int 0):=(C st).trans (by rw[hN];rfl);rw[M,qb3];generalize (mpI fs.length λr=>acc (rN fs) (λ_=>0) 0 r)=A at *;generalize ((qag (nR fs)).map λi=>D.lst (mpI ts.length (spV fs b ts i)))=L at *;generalize tsD ts=J at *;generalize aF b=kd at *;exact aB (n:=8) (k:=3) (b:=jZ) rfl (ai (aq (ak rfl O)) (ai (aq (aV (ab rfl rfl) hl)) (fY (dq (s:=st) rfl (aP (gY (ab (gY (ds:=[.str kd,.tup []]) rfl rfl (by show 2<=1000;decide)) (ab (ak (ab rfl (ab rfl rfl)) hw) rfl)) rfl (by show 2<=1000;decide)))))))
 ·obtain⟨p,am,pr,S,P⟩:=E5 (b:=b) h (by lia)
  have hn:=h.n;obtain⟨q,X,q0,hq,hp⟩:=CD (b:=b) (m:=ts.length+ts.length+nR fs) (am:=am) h.nd h.tl (by lia) λj o=>S.sa j (by lia);have E:=C6 h (y:=pr) λi l=>S.sr i l;obtain⟨W,w,H,x,I⟩:=AF (n:=fs.length) (f:=λr=>acc (rN fs) pr (nR fs) r) (λr _=>(E r).1) (by have:=h.fl;lia);have F:∀ i,i<nR fs->pr i=W*w (rN fs i):=λi l=>by
   rw[<-x _ (pk h l).2,zG l λj o z=>uE h o l z]
  refine⟨X,w,⟨λt G=>?_,λi l=>?_,λr K=>⟨?_,B0 H (x r K) (E r).1⟩,λr K e=>?_,λt G=>?_⟩,λst=>?_⟩
  ·have e:=S.bal t G
   rw[Sx.sumN_congr (g:=λi=>W*(spV fs b ts i t*w (rN fs i))) λi l=>by rw[F i l,qaW],Sx.sumN_mul]at e;exact (qcN.mp e).resolve_left (by lia)
  ·have e:=S.val i l
   rw[Sx.sumN_congr (g:=λt=>q*(X (ts.getD t [])*spV fs b ts i t)) λt G=>by rw[hq t G,qbn],Sx.sumN_mul,F i l]at e;generalize (sumN ts.length λt=>X (ts.getD t [])*spV fs b ts i t)=v at *;refine⟨?_,?_⟩
   ·have:=e.1
    by_cases z:0<=v
    ·exact z
    ·have:=qgc q0 (show v<0 by lia)
     lia
   ·have e2:=e.2
    rw[qcN,ne_eq,qcN]at e2;have n1:¬ q=0:=by lia
    have n2:¬ W=0:=by lia
    simpa [n1,n2] using e2
  ·have e:=(E r).2
   rw[x r K]at e;by_cases z:0<=w r
   ·exact z
   ·have:=qgc H (show w r<0 by lia)
    lia
  ·have:=x r K
   rw[ow λj o=>DT h e o]at this;exact (qcN.mp this.symm).resolve_left (by lia)
  ·obtain⟨j,o,rfl⟩:=ku G
   refine B0 q0 (hq j o) ?_;have a:=S.sa j (by lia);have c:=S.sa (ts.length+j) (by lia);unfold Sm at *;generalize (2:Nat)^4000=B at *;lia
  ·obtain⟨u,hu⟩:=P st none
   refine⟨u,?_⟩;have O:=sv (st:=st) (b:=b) h;have he:=wP (st:=st) (V:=spV fs b ts) (k:=ts.length) hn h.tl;have M:cb (aa (iV 3) ac) [some (.d (.tup fs)),some (.d (.str (aF b))),some (.d (tsD ts)),some (.d (.lst ((qag (nR fs)).map λi=>D.lst (mpI ts.length (spV fs b ts i))))),some (.d (.int (nR fs:Int))),none,none,none] st=some ((qag (nR fs)).map λi:Nat=>D.tup [.int ((i:Nat):Int),.lst (mpI ts.length (spV fs b ts i))],st):=by
    rw[<-wt (λi=>D.lst (mpI ts.length (spV fs b ts i)))];rfl
   have hl:=C st;have N:=hp (st++u);have T:=zA (st:=st++u) (m:=nR fs) (y:=pr) h (.inl rfl);have Y:=I (st++u);have sl:dSl (st++u) (.d (.tup (mpI (nR fs+nR fs) pr))) none (some (nR fs:Int))=some (.tup (mpI (nR fs) pr)):=by
    rw[<-A6 (n:=nR fs+nR fs) (k:=nR fs) (f:=pr) (by lia),<-Ex];rfl
   have f0:((nR fs:Int)==(0:Int))=false:=by simp;lia
   have hz:((qag (nR fs)).map λi:Nat=>D.tup [.int ((i:Nat):Int),.lst (mpI ts.length (spV fs b ts i))]).length<=1000000:=by rw[qah,qat];lia
   generalize (mpI fs.length λr=>acc (rN fs) pr (nR fs) r)=A at *;generalize mpI fs.length w=A2 at *;generalize mpI (nR fs) pr=A3 at *;generalize mpI (nR fs+nR fs) pr=A4 at *;generalize mpI (ts.length+ts.length+nR fs) am=A5 at *;generalize bU (aF b) (bm (av ts) X)=R at *;generalize ((qag (nR fs)).map λi=>D.lst (mpI (ts.length+ts.length+nR fs) (Sx.spR (nR fs) ts.length (spV fs b ts) i)))=L5 at *;generalize ((qag (nR fs)).map λi=>D.lst (mpI (ts.length+ts.length+nR fs) (Sx.spR (nR fs) ts.length (spV fs b ts) (nR fs+i))))=L6 at *;generalize ((qag (nR fs)).map λi:Nat=>D.tup [.int ((i:Nat):Int),.lst (mpI ts.length (spV fs b ts i))])=LE at *;generalize ((qag (nR fs)).map λi=>D.lst (mpI ts.length (spV fs b ts i)))=L at *;generalize tsD ts=J at *;generalize aF b=kd at *;have Q:iSl (iOp dIx (iV 7) (iC (.int 3))) iPn (iPs (iV 4)) [some (.d (.tup fs)),some (.d (.str kd)),some (.d J),some (.d (.lst L)),some (.d (.int (nR fs:Int))),some (.d (.lst L5)),some (.d (.lst L6)),some (.d (.tup [.str "most",.int p,.tup A5,.tup A4]))] (st++u)=some (.d (.tup A3),st++u):=by
    have x1:iOp dIx (iV 7) (iC (.int 3)) [some (.d (.tup fs)),some (.d (.str kd)),some (.d J),some (.d (.lst L)),some (.d (.int (nR fs:Int))),some (.d (.lst L5)),some (.d (.lst L6)),some (.d (.tup [.str "most",.int p,.tup A5,.tup A4]))] (st++u)=some (.d (.tup A4),st++u):=ae rfl rfl rfl
    have x2:iPs (iV 4) [some (.d (.tup fs)),some (.d (.str kd)),some (.d J),some (.d (.lst L)),some (.d (.int (nR fs:Int))),some (.d (.lst L5)),some (.d (.lst L6)),some (.d (.tup [.str "most",.int p,.tup A5,.tup A4]))] (st++u)=some (some (nR fs:Int),st++u):=rfl
    simp only[iSl,x1,x2,iPn,qaa,sl,qai]
   exact aB (n:=8) (k:=3) (b:=jZ) rfl (ai (aq (ak rfl O)) (ai (aq (aV (ab rfl rfl) hl)) (ai (bA (s:=st) (ay rfl rfl (by rw[dU,f0])) rfl) (ai (aq (aD (aZ M hz he))) (Ep hu (aP (gY (ab (ak (ab rfl (ab rfl (ab (ae rfl rfl rfl) rfl))) N) (ab (ak (ab (ak (ab rfl (ab Q rfl)) T) rfl) Y) rfl)) rfl (by show 2<=1000;decide))))))))
end
end Own
set_option maxHeartbeats 1000000
namespace Own
open PySem L2
open Sx (Pb Tb Good Named Fe LV ZV piv lexP leastR leaveL sumN unit colV basis)
def cU {st:Sto}{n:Nat}{m:Int} (h:de st n) (m0:0<m) (m1:m<=1000):∃ r a,0<=r/\r<m/\Stp n st a/\aG [.h n,.d (.int m)] st=some (.d (.int r),a):=by
 have hn:=h.lt;obtain⟨x,y,z,o,h⟩:=h;have m2:m<1073741824:=by lia
 have c:(x > 0/\z+1<=400->False)->∃ r a,0<=r/\r<m/\Stp n st a/\aG [.h n,.d (.int m)] st=some (.d (.int r),a):=λe=>by
  have j:0<=(y*48271+12345+(z+1))%2147483647:=qeC _ (by decide);have f:(y*48271+12345+(z+1))%2147483647<2147483647:=qdU _ (by decide);have k:qbo y 48271:=dZ (by decide);have g:∀ q,qbo ((y*48271+12345+(z+1))%2147483647) q:=λq=>gU (by lia);have hw:∃ w:Int,(y*48271+12345+(z+1))%2147483647=w:=⟨_,rfl⟩;obtain⟨w,hw⟩:=hw;rw[hw]at j f g;refine⟨w*(w%39373+7)%2147483629 / 64%m,st.set n (.l [.int x,.int w,.int (z+1)]),qeC _ (by lia),qdU _ m0,⟨⟨_,rfl⟩,_,_,_,o,kF hn⟩,?_⟩;by_cases b:x > 0
  ·have i:¬ z+1<=400:=λq=>e ⟨b,q⟩
   simp only[aG,fG,iV,iC,iOp,aE,dS,aO,ah,az,fH,bu,aK,aY,bi,cB,jv,cx,lsD,dIx,bh,bb,kT,dO,dLe,dGt,qaa,qai,qay,qaF,qa5,qbk,qaq,qbl,qam,qa6,qaS,qa4,qbc,qbd,qbS,qbA,if_true,if_false,qa0,yQ,Gk,Dl,Ge,Dm,qaT,and_self,decide_true,decide_false,lg,qck,h,b,i,m0,decide_false,and_self,kF hn,qfl,k,g,hw,show (0:Int)<2147483647 by decide,show (0:Int)<39373 by decide,show (0:Int)<2147483629 by decide,show (0:Int)<64 by decide,show (64:Int)<1073741824 by decide]
  ·simp only[aG,fG,iV,iC,iOp,aE,dS,aO,ah,az,fH,bu,aK,aY,bi,cB,jv,cx,lsD,dIx,bh,bb,kT,dO,dLe,dGt,qaa,qai,qay,qaF,qa5,qbk,qaq,qbl,qam,qa6,qaS,qa4,qbc,qbd,qbS,qbA,if_true,if_false,qa0,yQ,Gk,Dl,Ge,Dm,qaT,and_self,decide_false,lg,qck,h,b,m0,decide_false,and_self,kF hn,qfl,k,g,hw,show (0:Int)<2147483647 by decide,show (0:Int)<39373 by decide,show (0:Int)<2147483629 by decide,show (0:Int)<64 by decide,show (64:Int)<1073741824 by decide]
 by_cases p:x > 0/\z+1<=400
 ·obtain⟨b,i⟩:=p
  refine⟨x%m,st.set n (.l [.int (x / m),.int y,.int (z+1)]),qeC _ (by lia),qdU _ m0,⟨⟨_,rfl⟩,_,_,_,qdM o (by lia),kF hn⟩,?_⟩;simp only[aG,fG,iV,iC,iOp,aE,dS,aO,ah,az,fH,bu,aK,aY,bi,cB,jv,cx,lsD,dIx,bh,bb,kT,dO,dLe,dGt,qaa,qai,qay,qaF,qa5,qbk,qaq,qbl,qam,qa6,qaS,qa4,qbc,qbd,qbS,qbA,if_true,yQ,Dl,Gq,Dm,qaT,and_self,decide_true,lg,qck,h,b,i,m0,m2,decide_true,and_self,kF hn,qfl]
 ·exact c p
def FX (b:Bool):(0:Int)<=if b=true then 1 else 0:=by cases b<;>decide
def Ga (b:Bool):(if b=true then (1:Int) else 0)<2^64:=by cases b<;>decide
def EF (b:Bool):-(2^64)<(if b=true then (1:Int) else 0):=by cases b<;>decide
def Dw {st:Sto}{ns:List Int}{k:Nat} (t:k<=1000):∃ x y:Int,0<=x/\dk [.d (.scr ns),.d (.int k)] st=some (.h st.length,st++[.l [.int x,.int y,.int 0]]):=by
 have e:sB 10 18:=p18;have p:∀ q,qbo 5303 q:=λq=>gU (by decide);have k2:∀ q,qbo q 48271:=λq=>dZ (by decide);have r:∀ q,qbo q (k:Int):=λq=>dZ (by lia);have s:∀ (q:Int) (b:Bool),qbo q (if b=true then 1 else 0):=λq b=>dZ ⟨EF b,Ga b⟩;have i:∀ c:Int,(if (k:Int)<((ns.map D.int).length:Nat) then atI (ns.map D.int) (k:Int)=some (.int c) else c=0)->∃ x y:Int,0<=x/\dk [.d (.scr ns),.d (.int k)] st=some (.h st.length,st++[.l [.int x,.int y,.int 0]]):=λc j=>by
  have m:∃ a:Int,(if c<0 then -c else c)=a/\0<=a:=⟨_,rfl,by split<;>lia⟩;obtain⟨a,m,a0⟩:=m;obtain⟨g,hg⟩:∃ g,decide (a>=10^Int.toNat 18)=g:=⟨_,rfl⟩;refine⟨a*(if g=true then 1 else 0),(c%2147483629+5303*(k:Int)*k+17)*48271%2147483647,qdY a0 (FX _),?_⟩;by_cases f:(k:Int)<((ns.map D.int).length:Nat)
  ·rw[if_pos f]at j
   simp only[dk,jQ,iV,iC,iOp,aE,fP,ac,aa,iCB,bR,dh,ah,az,aK,bi,cB,lP,jv,cx,lsD,dIx,bh,bb,dO,yB,dLt,dGe,aX,vh,vg,qaa,qai,qay,qaF,qa5,qbk,qaq,qbl,qam,qa6,qaS,qa4,qbc,qbd,qbS,qbA,if_true,qaT,decide_true,lg,qck,f,j,m,hg,e,p,k2,s,r,show (0:Int)<2147483629 by decide,show (0:Int)<2147483647 by decide,show (3:Nat)<=1000 by decide]
  ·rw[if_neg f]at j
   subst j;have n:a=0:=by rw[<-m];rfl
   subst n;rw[<-hg];simp only[dk,jQ,iV,iC,iOp,aE,fP,ac,aa,iCB,bR,dh,ah,az,aK,bi,cB,lP,jv,cx,lsD,dIx,bh,bb,dO,yB,dLt,dGe,aX,vh,vg,qaa,qai,qay,qaF,qa5,qbk,qaq,qbl,qam,qa6,qaS,qa4,qbc,qbd,qbS,qbA,if_true,if_false,qa0,qaT,decide_false,lg,qjE,qck,f,e,p,k2,s,r,show (0:Int)<2147483629 by decide,show (0:Int)<2147483647 by decide,show (3:Nat)<=1000 by decide]
 by_cases f:(k:Int)<((ns.map D.int).length:Nat)
 ·have o:k<ns.length:=by rw[qah]at f;lia
  exact i ns[k] (by rw[if_pos f];exact bW (by rw[qaD,qao o];rfl))
 ·exact i 0 (by rw[if_neg f])
def rM {te:Ef}{st:Sto}{n:Nat}{a:Option W}{l:Ev} (Q:D->Prop) {ds:List D} (h:de st n) (e:∀ s d,d∈ds->de s n->∃ x s',Q x/\Stp n s s'/\te (some (.d d)::l) s=some (.d x,s')) :
  ∃ b c,b.length=ds.length/\(∀ u∈b,Q u)/\Stp n st c/\lcI (.nm 0) aL te (a::l) ds st=some (b,c):=by
 obtain⟨b,j,f,t2,p,r⟩:=kJ (g:=.nm 0) (tt:=aL) (te:=te) (env:=a::l) (ds:=ds)
  (λi k s=>Stp n st s/\k.length=i/\∀ u ∈ k,Q u) (st:=st) (ys0:=[]) ⟨Stp.refl h,rfl,(λ_ h=>nomatch h)⟩ (λi d k s hd ⟨p1,t,o⟩=>by
   obtain⟨x,j,m,t2,f⟩:=e s d (qbT hd) p1.hand
   exact⟨_,rfl,.inl ⟨s,x,j,rfl,f,p1.trans t2,by rw[qaB,t];rfl,λu q=>by
    rcases qaY.mp q with z|z
    ·exact o u z
    ·rw[qap.mp z];exact m⟩⟩)
 exact⟨b,j,by simpa using p,by simpa using r,t2,f⟩
def E3 {n:Int} (a:0<=n) (b:n<=6):∃ q:Int,(∀ s,u4 s (.d (.int 1)) (.d (.int n))=some (.int q))/\q.toNat=2^n.toNat/\(-(2^62)<=q/\q<2^62)/\2^n.toNat<=64:=by
 have h:n=0\/n=1\/n=2\/n=3\/n=4\/n=5\/n=6:=by lia
 rcases h with rfl|rfl|rfl|rfl|rfl|rfl|rfl
 ·exact⟨1,λs=>rfl,by decide,by decide,by decide⟩
 ·exact⟨2,λs=>rfl,by decide,by decide,by decide⟩
 ·exact⟨4,λs=>rfl,by decide,by decide,by decide⟩
 ·exact⟨8,λs=>rfl,by decide,by decide,by decide⟩
 ·exact⟨16,λs=>rfl,by decide,by decide,by decide⟩
 ·exact⟨32,λs=>rfl,by decide,by decide,by decide⟩
 ·exact⟨64,λs=>rfl,by decide,by decide,by decide⟩
def GS {x:Int} (h:0<=x):qbD x 1=x%2:=by
 unfold qbD;rw[decide_eq_true h,show decide ((0:Int)<=1)=true from rfl];show ((x.toNat&&&(1:Int).toNat:Nat):Int)=x%2;rw[show (1:Int).toNat=1 from rfl,Nat.and_one_is_mod];lia
def D9 {row k:Int} (h:0<=row):qbD (row / 2^k.toNat) 1=onI row k:=GS (qdM h (qjF (Int.pow_pos (by decide))))
def onS (r:Int):Int:=((qag 6).map λk:Nat=>qbD (r / 2^k) 1).sum
def BQ {st:Sto}{r:Int}:gj [.d (.int r)] st=some (.d (.int (onS r)),st):=by
 have a:lcI (.nm 0) aL iP [none,some (.d (.int r))] (bF 0 6) st=some ((bF 0 6).map λd=>match d with|.int k=>.int (qbD (r / 2^k.toNat) 1)|d=>d,st):=jo _ λd hd=>by
  obtain⟨i,c⟩:=qdy.mp hd;obtain⟨rfl,_⟩:=gZ c;exact⟨_,rfl,by simp only[iP,iV,iC,iOp,wS,uf,qaa,qai,qay,qaF,qa5,if_true,show (0:Int)<=(i:Int) by lia]⟩
 have f:((bF 0 6).map λd=>match d with|.int k=>.int (qbD (r / 2^k.toNat) 1)|d=>d)=((qag 6).map λk:Nat=>qbD (r / 2^k) 1).map D.int:=by
  unfold bF;rw[qaR,qaR];refine qcg λk _=>?_;show D.int (qbD (r / 2^((0:Int)+k).toNat) 1)=_;rw[qcd,qbg];rfl
 rw[f]at a;have b:aW (((qag 6).map λk:Nat=>qbD (r / 2^k) 1).map D.int)=some ((qag 6).map λk:Nat=>qbD (r / 2^k) 1):=bD _;have e:(bF 0 6).length<=1000000:=by rw[cg];decide
 unfold onS;generalize ((qag 6).map λk:Nat=>qbD (r / 2^k) 1)=L at a b ⊢;simp only[gj,pG,iC,ac,aa,iCB,ar,aK,iLc,bz,bi,gq,nJ,qaa,qai,qay,qaq,qbl,qam,qa6,qaS,qa4,qbc,qbd,qbA,if_true,qaT,and_self,show -(2^62)<=(6:Int)/\(6:Int)<2^62 by decide,show (6:Int).toNat=6 by decide,e,a,b]
def DU:∀ n,n<7->∀ m,m<2^n->0<=onS (m:Nat)/\onS (m:Nat)<=(n:Nat):=by decide +kernel
def wa {st:Sto}{b:Bool}{t:List Int}{row:Int} (i:0<=row) (h:∀ k∈t,0<=k/\k<=20) (n:t.length<=1000):cq [.d (.str (aF b)),.d (aj t),.d (.int row)] st=some (.d (.int (bB b t row)),st):=by
 have a:lcI (.nm 0) aL eB [none,some (.d (.int row))] (t.map D.int) st=some ((t.map D.int).map λd=>match d with|.int k=>.int (onI row k)|d=>d,st):=jo _ λd hd=>by
  obtain⟨k,j,rfl⟩:=qaX.mp hd;exact⟨_,rfl,by simp only[eB,iV,iC,iOp,wS,uf,qaa,qai,qay,qaF,qa5,if_true,(h k j).1,D9 i]⟩
 have m:((t.map D.int).map λd=>match d with|.int k=>.int (onI row k)|d=>d)=(t.map (onI row)).map D.int:=by rw[qaR,qaR];rfl
 rw[m]at a;have f:aW ((t.map (onI row)).map D.int)=some (t.map (onI row)):=bD _;have c:(t.map D.int).length<=1000000:=by rw[qah];lia
 have g:((t.map D.int).length:Int)=(t.length:Int):=by rw[qah]
 have k2:∀ q,qbo 2 q:=λq=>gU (by decide);have e:=pU b;have l:bB b t row=if b=true then (if (le row t==(t.length:Int))=true then 1 else 0) else 1 - 2*(le row t%2):=by
  unfold bB;simp only[beq_iff_eq];split
  ·rfl
  ·split<;>lia
 rw[l];generalize aF b=kd at e ⊢;cases b with
 |true=>cases hq:(le row t==(t.length:Int))<;>simp only[cq,hJ,aj,iV,iC,iOp,aE,fP,ac,aa,iCB,ar,ah,az,aK,iLc,aC,bi,cB,jv,gq,cx,kf,bb,dO,dEq,ie,eqK,eqD,aX,vg,nJ,qaa,qai,qay,qaF,qa5,qbk,qaq,qbl,qam,qa6,qaS,qa4,qbc,qbd,qbS,qbA,if_true,if_false,qa0,qaT,lg,qjE,qck,a,f,c,kR,e,g,hq]
 |false=>simp only[cq,hJ,aj,iV,iC,iOp,aE,fP,ac,aa,iCB,ar,ah,az,aK,iLc,aC,bi,cB,jv,gq,cx,kf,bb,dO,dEq,ie,eqK,eqD,aX,vg,nJ,qaa,qai,qay,qaF,qa5,qbk,qaq,qbl,qam,qa6,qaS,qa4,qbc,qbd,qbS,qbA,if_true,if_false,qa0,qaT,lg,qck,a,f,c,kR,e,k2,show (0:Int)<2 by decide]
def B9 {r:Int} (a:0<=r) (b:r<2):gQ (.int r):=by
 have:r=0\/r=1:=by lia
 rcases this with rfl|rfl
 ·exact .inr (.inl rfl)
 ·exact .inr (.inr rfl)
def BK (a:Int):D->D
 |.int k=>.int (onS (qbD k a)%2)
 |d=>d
def sF {st:Sto}{h:Nat}{n:Int} (V:de st h) (n0:0<=n) (n1:n<=6):∃ b A,b.length=2^n.toNat/\(∀ u∈b,gQ u)/\Stp h st A/\bK [.h h,.d (.int n)] st=some (.d (.tup b),A):=by
 obtain⟨q,c1,ct,p,c5⟩:=E3 n0 n1;have P:(bF 0 q.toNat).length<=1000000:=by rw[cg];lia
 obtain⟨way,s1,y0,y1,t1,J⟩:=cU V (m:=6) (by decide) (by decide);by_cases b3:way=3
 ·subst b3
  obtain⟨v,f,cl,cv,t2,K⟩:=rM (te:=cZ) (a:=none) (l:=[some (.h h)]) (ds:=bF 0 (n+1).toNat) gQ t1.hand (λs d _ y=>by
   obtain⟨r,s',Q,R,t,e⟩:=cU y (m:=2) (by decide) (by decide)
   exact⟨.int r,s',B9 Q R,t,by simp only[cZ,iV,iC,ac,aa,au,qaa,qai,qay,qaF,e]⟩)
  obtain⟨b,o,x,O,⟨rfl⟩,k⟩:∃ b o,b.length=(bF 0 q.toNat).length/\(∀ u∈b,gQ u)/\o=f/\lcI (.nm 0) aL ce [none,some (.d (.lst v))] (bF 0 q.toNat) f=some (b,o):=by
   obtain⟨b,o,k,y,hl,hv⟩:=kJ (g:=.nm 0) (tt:=aL) (te:=ce) (env:=[none,some (.d (.lst v))]) (ds:=bF 0 q.toNat)
    (λi M s=>s=f/\M.length=i/\∀ u ∈ M,gQ u) (st:=f) (ys0:=[]) ⟨rfl,rfl,(λ_ h=>nomatch h)⟩ (λi d M s hd ⟨es,p3,Y⟩=>by
     subst es;obtain⟨rfl,E⟩:=gZ hd;have X:=DU n.toNat (by lia) i (by lia);obtain⟨j,G⟩:=qed X.1;rw[cg]at cl;have B:j<v.length:=by lia
     have H:atI v (onS i)=some v[j]:=by rw[G];exact bW (qao B)
     have S:=BQ (st:=s) (r:=(i:Int));refine⟨_,rfl,.inl ⟨s,v[j],s,rfl,?_,rfl,by rw[qaB,p3];rfl,λu I=>?_⟩⟩
     ·generalize onS (i:Nat)=w at H S
      simp only[ce,iV,iOp,ac,aa,au,cx,dIx,qaa,qai,qay,qaF,qa5,lg,S,H]
     ·rcases qaY.mp I with z|z
      ·exact Y u z
      ·rw[qap.mp z];exact cv _ (qbU B))
   exact⟨b,o,by simpa using hl,by simpa using hv,y,k⟩
  rw[cg]at x;have hb:-(2^62)<=n+1/\n+1<2^62:=by lia
  have N:(bF 0 (n+1).toNat).length<=1000000:=by rw[cg];lia
  refine⟨b,f,by rw[x,ct],O,t1.trans t2,?_⟩;simp only[bK,cy,iV,iC,iOp,aE,ac,aa,iCB,au,bR,ar,aO,ah,az,aK,aY,iLc,bz,bi,cB,lP,jv,gq,cx,lsD,dIx,bh,dEq,ie,eqK,eqD,c9,qaa,qai,qay,qaF,qa5,qbk,qaq,qbl,qam,qa6,qaS,qa4,qbc,qbd,qbS,qbA,if_true,qaT,and_self,lg,qch,qhM,J,beq_self_eq_true,hb,N,K,c1,p,P,k]
 ·have f3:(way==(3:Int))=false:=by simp[b3]
  have q0:0<q:=by
   have:0<2^n.toNat:=qeZ (by decide)
   lia
  by_cases b4:way=4
  ·subst b4
   obtain⟨C,f,m0,m1,t2,K⟩:=cU t1.hand (m:=q) q0 (by lia);have k:lcI (.nm 0) aL cY [none,some (.d (.int C))] (bF 0 q.toNat) f=some ((bF 0 q.toNat).map (BK C),f):=jo _ λd hd=>by
    obtain⟨i,E⟩:=qdy.mp hd;obtain⟨rfl,_⟩:=gZ E;exact⟨_,rfl,by simp only[cY,BK,iV,iC,iOp,ac,aa,au,dO,uf,qaa,qai,qay,qaF,qa5,if_true,BQ,show (0:Int)<2 by decide]⟩
   refine⟨(bF 0 q.toNat).map (BK C),f,by rw[qah,cg,ct],λu I=>?_,t1.trans t2,?_⟩
   ·obtain⟨d,hd,rfl⟩:=qaX.mp I
    obtain⟨i,E⟩:=qdy.mp hd;obtain⟨rfl,_⟩:=gZ E;exact B9 (qeC _ (by decide)) (qdU _ (by decide))
   ·generalize ((bF 0 q.toNat).map (BK C))=L at k ⊢
    simp only[bK,cy,iV,iC,iOp,aE,ac,aa,iCB,au,bR,ar,aO,ah,az,aK,aY,iLc,bz,bi,cB,lP,jv,gq,cx,lsD,dIx,bh,dEq,ie,eqK,eqD,c9,qaa,qai,qay,qaF,qa5,qbk,qaq,qbl,qam,qa6,qaS,qa4,qbc,qbd,qbS,qbA,if_true,if_false,qa0,qaT,and_self,lg,qch,qhM,J,f3,beq_self_eq_true,c1,K,p,P,k]
  ·have f4:(way==(4:Int))=false:=by simp[b4]
   have hm:∃ c:List D,c≠[]/\c.length<=5/\(∀ u∈c,gQ u)/\atI [D.lst [.int 0,.int 1],.lst [.int 0,.int 1],.lst [.int 0,.int 1,.int 0,.int 1,.non],.lst [],.lst [],.lst [.non,.non,.int 0,.int 1]] way=some (.lst c):=by
    have F:gQ (.int 0):=.inr (.inl rfl);have v1:gQ (.int 1):=.inr (.inr rfl);have T:gQ .non:=.inl rfl
    have:way=0\/way=1\/way=2\/way=5:=by lia
    rcases this with rfl|rfl|rfl|rfl
    ·exact⟨_,by simp,by simp,by simp[F,v1],rfl⟩
    ·exact⟨_,by simp,by simp,by simp[F,v1],rfl⟩
    ·exact⟨_,by simp,by simp,by simp[F,v1,T],rfl⟩
    ·exact⟨_,by simp,by simp,by simp[F,v1,T],rfl⟩
   obtain⟨c,m0,m1,mv,W⟩:=hm;have mp:0<c.length:=qgX.mpr m0
   obtain⟨b,o,x,O,t3,k⟩:=rM (te:=c8) (a:=none) (l:=[some (.d (.lst c)),some (.h h)]) (ds:=bF 0 q.toNat) gQ t1.hand (λs d _ y=>by
    obtain⟨r,s',Q,R,t,e⟩:=cU y (m:=(c.length:Int)) (by lia) (by lia);obtain⟨j,rfl⟩:=qed Q;have G:j<c.length:=by lia
    have H:atI c (j:Int)=some c[j]:=bW (qao G)
    exact⟨c[j],s',mv _ (qbU G),t,by simp only[c8,iV,iOp,ac,aa,iCB,au,cx,dIx,aX,qaa,qai,qay,qaF,lg,e,H]⟩)
   rw[cg]at x;refine⟨b,o,by rw[x,ct],O,t1.trans t3,?_⟩;simp only[bK,cy,iV,iC,iOp,aE,ac,aa,iCB,au,bR,ar,aO,ah,az,aK,aY,iLc,bz,bi,cB,lP,jv,gq,cx,lsD,dIx,bh,dEq,ie,eqK,eqD,c9,qaa,qai,qay,qaF,qa5,qbk,qaq,qbl,qam,qa6,qaS,qa4,qbc,qbd,qbS,qbA,if_true,if_false,qa0,qaT,and_self,lg,J,f3,f4,W,c1,p,P,k,show (0:Nat)<=1000 by decide,show (2:Nat)<=1000 by decide,show (4:Nat)<=1000 by decide,show (5:Nat)<=1000 by decide,show (6:Nat)<=1000 by decide]
end Own
set_option maxHeartbeats 1000000
namespace Own
open PySem L2
open Sx (Pb Tb Good Named Fe LV ZV piv lexP leastR leaveL sumN unit colV basis)
def wM (ls:List (List Int)):vL (ls.map aj)=some ((av ls).map aj):=by
 cases ls with
 |nil=>rfl
 |cons t r=>
  show (eP ((t::r).map aj)).map _=_;rw[gv];rfl
def si {st:Sto}{n:Int} (q:0<=n) (y:n<=4):dn [.d (.int n)] st=some (.d (.lst ((av (bZ n.toNat)).map aj)),st):=by
 obtain⟨j,f,l,o,rfl,rfl⟩:=bN (g:=.nm 2) (body:=cD) (ds:=bF 0 n.toNat) (λi env s=>∃ o,env=[some (.d (.int n)),some (.d (.lst ((bZ i).map aj))),o]/\s=st) (env:=[some (.d (.int n)),some (.d (.lst [.tup []])),none]) (st:=st)
  ⟨none,rfl,rfl⟩ (λi d env s hd ⟨o,e,es⟩=>by
   subst e es;obtain⟨rfl,z⟩:=gZ hd;have m:(bZ i).length<=64:=by
    rw[i8];exact qa3 (qcu (by decide) (by lia:i<=6)) (by decide)
   have a:lcI (.nm 0) aL cH [none,some (.d (.int i))] ((bZ i).map aj) s=some (((bZ i).map aj).map λd=>match d with|.tup ds=>.tup (ds++[.int i])|d=>d,s):=jo _ λd hd=>by
    obtain⟨t,r,rfl⟩:=qaX.mp hd;have w:=vQ (i7 i r);have u:(t.map D.int).length+1<=1000000:=by rw[qah];lia
    exact⟨_,rfl,by simp only[cH,aj,iV,iOp,ac,aa,bv,lP,lsD,bh,qaa,qai,qay,qaF,qa5,qam,qa6,if_true,qaT,lg,u,show (1:Nat)<=1000 by decide]⟩
   have x:(((bZ i).map aj).map λd=>match d with|.tup ds=>.tup (ds++[.int i])|d=>d)=((bZ i).map λt=>t++[(i:Int)]).map aj:=by
    rw[qaR,qaR];refine qcg λt _=>?_;show D.tup (t.map D.int++[.int i])=D.tup ((t++[(i:Int)]).map D.int);rw[qbR];rfl
   rw[x]at a;have v:(bZ (i+1)).map aj=(bZ i).map aj++((bZ i).map λt=>t++[(i:Int)]).map aj:=by rw[bZ,qbR]
   have p:((bZ i).map aj).length<=1000000:=by rw[qah];lia
   have h:((bZ i).map aj).length+(((bZ i).map λt=>t++[(i:Int)]).map aj).length<=1000000:=by simp only[qah];lia
   refine⟨_,[some (.d (.int n)),some (.d (.lst ((bZ (i+1)).map aj))),some (.d (.int i))],s,rfl,.inl ?_,_,rfl,rfl⟩;rw[v];generalize ((bZ i).map λt=>t++[(i:Int)]).map aj=B at a h ⊢;generalize (bZ i).map aj=A at a p h ⊢
   simp only[cD,iV,iOp,ar,az,iLc,aC,cB,gq,lsD,bh,qaa,qai,qay,qaF,qa5,qbk,qaq,qbl,qaS,qa4,qbc,qbd,if_true,lg,a,p,h])
 rw[cg]at l;have m:((bZ n.toNat).map aj).length<64:=by
  rw[qah,i8];exact qbJ (qcu (by decide) (by lia:n.toNat<=4)) (by decide)
 have c:iCL qR (aa (iV 1) ac) [some (.d (.int n)),some (.d (.lst ((bZ n.toNat).map aj))),o] f=some ((av (bZ n.toNat)).map aj,f):=by
  show ((if ((bZ n.toNat).map aj).length<64 then vL ((bZ n.toNat).map aj) else none)).map (λd=>(d,f))=_;rw[if_pos m,wM];rfl
 generalize (av (bZ n.toNat)).map aj=B at *;generalize (bZ n.toNat).map aj=A at *;exact aB (n:=3) (k:=1) (b:=gn) rfl (ai (aq (aD (show bR (aa (bv ac) ac) [some (.d (.int n)),none,none] f=some ([.tup []],f) from rfl))) (ai (bE (nC (e:=iV 0) rfl q (by lia) rfl) l) (aP (aD c))))
def Gv (ds:List D) (k:Nat):kZ ds (some (k:Int)) none=ds.drop k:=by
 unfold kZ;rw[HT.sIx_nat,HT.sIx_none];rcases qjC k ds.length with h|h
 ·rw[qhZ h,qdj (by rw[qeb];lia)]
 ·rw[qhO h,qey,qf0,List.drop_eq_nil_of_le h]
def pQ {tt:Tf}{te:Ef}{st:Sto}{n:Nat}{a:Option W}{l:Ev}{A:List (List Int)} (h:de st n) (r:∀ t s,de s n->∃ b s',Stp n s s'/\tt (some (.d (aj t))::l) s=some (b,s')) (q:∀ d s,te (some (.d d)::l) s=some (.d d,s)) :
  ∃ (ls:List (List Int)) (j:Sto),ls.Sublist A/\Stp n st j/\lcI (.nm 0) tt te (a::l) (A.map aj) st=some (ls.map aj,j):=by
 obtain⟨x,u,k,ls,v,f,t2⟩:=kJ (g:=.nm 0) (tt:=tt) (te:=te) (env:=a::l) (ds:=A.map aj)
  (λi o s=>∃ ls,o=ls.map aj/\ls.Sublist (A.take i)/\Stp n st s) (st:=st) (ys0:=[]) ⟨[],rfl,qhF _,Stp.refl h⟩ (λi d o s hd ⟨ls,e,f,p⟩=>by
   subst e;rw[qaD]at hd;obtain⟨t,w,rfl⟩:=qad.mp hd;have c:A.take (i+1)=A.take i++[t]:=by rw[List.take_add_one,w];rfl
   obtain⟨b,s',m,k⟩:=r t s p.hand;refine⟨_,rfl,?_⟩;cases b with
   |true=>exact .inl ⟨s',aj t,s',k,q _ _,ls++[t],by rw[qbR];rfl,by rw[c];exact f.append (qf2 _),p.trans m⟩
   |false=>exact .inr ⟨s',k,ls,rfl,by rw[c];exact f.trans (List.sublist_append_left _ _),p.trans m⟩)
 rw[qah,qea]at f;exact⟨ls,u,f,t2,by rw[k];rw[<-v];rfl⟩
def yL {st:Sto}{h:Nat}{n:Int} (z:de st h) (I:0<=n) (G:n<=4):∃ (ts:List (List Int)) (i:Sto),ts.Sublist (av (bZ n.toNat))/\Stp h st i/\gr [.h h,.d (.int n)] st=some (.d (tsD ts),i):=by
 obtain⟨way,s1,L,K,t1,C⟩:=cU z (m:=5) (by decide) (by decide);have F:=si (st:=s1) I G;have E:(av (bZ n.toNat)).length<=16/\0<(av (bZ n.toNat)).length:=by
  rw[(aR _).length_eq,i8];exact⟨qa3 (qcu (by decide) (by lia:n.toNat<=4)) (by decide),qex _⟩
 generalize av (bZ n.toNat)=A at *;have x:(A.map aj).length<=1000000:=by rw[qah];lia
 have y:(A.map aj).length=A.length:=qah ..;have pre:∀ {r:Option Fl},ah (aY (aE dEq (iV 2) (iC (.int 0))) (ah (az (.nm 4) (au aG (aa (iV 0) (aa (iOp bh (iV 1) (iC (.int 1))) ac)))) (aK (iCB c9 (aa (ar (iLc 1 [4] (aC (iV 3)) (.nm 0) eI eF)) ac)))) aO) (ah (aY (aE dEq (iV 2) (iC (.int 1))) (aK (iCB c9 (aa (ar (iLc 1 [0] (aC (iV 3)) (.nm 0) eS eL)) ac))) aO) iO) [some (.h h),some (.d (.int n)),some (.d (.int way)),some (.d (.lst (A.map aj))),none,none] s1=r->bV ([W.h h,.d (.int n)].map some++qaz (6 - 2) none) st=r:=λ{r} J=>
  ai (aq (ak rfl C)) (ai (aq (ak rfl F)) J)
 have c:∀ (k:Int) (s:Sto),aE dEq (iV 2) (iC (.int k)) [some (.h h),some (.d (.int n)),some (.d (.int way)),some (.d (.lst (A.map aj))),none,none] s=some (way==k,s):=λk s=>ay rfl rfl (dU _ _ _);by_cases b0:way=0
 ·subst b0
  obtain⟨r,e,u,v,t2,g⟩:=cU t1.hand (m:=n+1) (by lia) (by lia);obtain⟨ls,p,f,o,q⟩:=pQ (tt:=eI) (te:=eF) (a:=none) (l:=[some (.d (.int r))]) (A:=A) t2.hand (λt s f=>⟨decide (((t.map D.int).length:Int)<=r),s,Stp.refl f,rfl⟩) (λd s=>rfl);refine⟨ls,p,f,t1.trans (t2.trans o),aB (n:=6) (k:=2) (b:=bV) rfl (pre (fY (dq (c 0 s1) (ai (aq (ak (ab rfl (ab rfl rfl)) g)) (aP (aV (ab (aD (aZ (bg rfl) x q)) rfl) rfl))))))⟩
 ·have f0:(way==(0:Int))=false:=by simp[b0]
  have j:=c 0 s1;rw[f0]at j;by_cases b1:way=1
  ·subst b1
   obtain⟨ls,p,f,o,q⟩:=pQ (tt:=eS) (te:=eL) (a:=none) (l:=[some (.h h)]) (A:=A) t1.hand (λt s f=>by
    obtain⟨r,e,u,v,t2,g⟩:=cU f (m:=2) (by decide) (by decide)
    exact⟨r==1,e,t2,ay (ak rfl g) rfl (dU _ _ _)⟩) (λd s=>rfl)
   exact⟨ls,p,f,t1.trans o,aB (n:=6) (k:=2) (b:=bV) rfl (pre (ai (bA j rfl) (fY (dq (c 1 s1) (aP (aV (ab (aD (aZ (bg rfl) x q)) rfl) rfl))))))⟩
  ·have f1:(way==(1:Int))=false:=by simp[b1]
   have c1:=c 1 s1;rw[f1]at c1;by_cases b2:way=2
   ·subst b2
    exact⟨[],s1,qhF _,t1,aB (n:=6) (k:=2) (b:=bV) rfl (pre (ai (bA j rfl) (ai (bA c1 rfl) (fY (dq (c 2 s1) rfl)))))⟩
   ·have f2:(way==(2:Int))=false:=by simp[b2]
    have c2:=c 2 s1;rw[f2]at c2;by_cases b3:way=3
    ·subst b3
     obtain⟨r,e,u,v,t2,g⟩:=cU t1.hand (m:=(((A.map aj).length:Nat):Int)) (by lia) (by lia);obtain⟨k,rfl⟩:=qed u;have sa:iSl (iV 3) iPn (iPs (iV 5)) [some (.h h),some (.d (.int n)),some (.d (.int 3)),some (.d (.lst (A.map aj))),none,some (.d (.int ((k:Nat):Int)))] e=some (.d (.lst ((A.map aj).take k)),e):=by
      rw[<-Ex];rfl
     have H:iSl (iV 3) (iPs (iOp bh (iV 5) (iC (.int 1)))) iPn [some (.h h),some (.d (.int n)),some (.d (.int 3)),some (.d (.lst (A.map aj))),none,some (.d (.int ((k:Nat):Int)))] e=some (.d (.lst ((A.map aj).drop (k+1))),e):=by
      rw[<-Gv,show (((k+1:Nat)):Int)=((k:Nat):Int)+1 by lia];rfl
     refine⟨A.eraseIdx k,e,List.eraseIdx_sublist _ _,t1.trans t2,?_⟩;have B:tsD (A.eraseIdx k)=.tup ((A.map aj).take k++(A.map aj).drop (k+1)):=by
      unfold tsD;rw[List.eraseIdx_eq_take_drop_succ,qbR,List.map_take,List.map_drop]
     rw[B];exact aB (n:=6) (k:=2) (b:=bV) rfl (pre (ai (bA j rfl) (ai (bA c1 rfl) (ai (bA c2 rfl) (fY (dq (c 3 s1) (ai (aq (ak (ab rfl (ab (aV (ab rfl rfl) rfl) rfl)) g)) (aP (aV (ab (ae sa H (fM _ (by rw[qc0,qeb];lia))) rfl) rfl)))))))))
    ·have f3:(way==(3:Int))=false:=by simp[b3]
     have w:=c 3 s1;rw[f3]at w;exact⟨A,s1,qf2 _,t1,aB (n:=6) (k:=2) (b:=bV) rfl (pre (ai (bA j rfl) (ai (bA c1 rfl) (ai (bA c2 rfl) (ai (bA w rfl) (aP (aV (ab rfl rfl) rfl)))))))⟩
end Own
set_option maxHeartbeats 1000000
namespace Own
open PySem L2
open Sx (Pb Tb Good Named Fe LV ZV piv lexP leastR leaveL sumN unit colV basis)
def oF {f:Tf}{env:Ev}{st s:Sto}{k:Bool} (h:f env st=some (k,s)):cV f env st=some (!k,s):=by
 simp only[cV,h,qai]
def fk {a b:Tf}{env:Ev}{st s s':Sto}{k:Bool} (c:a env st=some (false,s)) (hb:b env s=some (k,s')):dQ a b env st=some (k,s'):=by
 simp only[dQ,c,hb,qaa,qa0,if_false]
def qu {a b:Tf}{env:Ev}{st s:Sto} (c:a env st=some (false,s)):dS a b env st=some (false,s):=by
 simp only[dS,c,qaa,qa0,if_false]
def pX {a b:Tf}{env:Ev}{st s s':Sto}{k:Bool} (c:a env st=some (true,s)) (hb:b env s=some (k,s')):dS a b env st=some (k,s'):=by
 simp only[dS,c,hb,qaa,if_true]
def uy {f:Ef}{env:Ev}{st s:Sto}{k:Bool} (h:f env st=some (.d (.bl k),s)):cJ db f env st=some (k,s):=by
 simp only[cJ,h,qaa];rfl
def oE {st:Sto} (i:Int):cQ [.d (.int i)] st=some (.d (.bl true),st):=rfl
def GA {a:Af}{env:Ev}{st s:Sto}{bs:List Bool} (h:a env st=some ([.d (.lst (bs.map D.bl))],s)):iCB Cf a env st=some (.d (.bl (bs.all id)),s):=by
 refine aV h ?_;show (iB (bs.map D.bl)).map (λns=>D.bl (ns.all id))=_;rw[jW];rfl
def AT {a b:List Int} (h:leL a b) (c:a≠b):bq a b=true:=by
 cases e:bq a b with
 |true=>rfl
 |false=>exact absurd (iN a b e h) c
def xi {l:List (List Int)} (hn:l.Nodup):(av l).Pairwise λa b=>bq a b=true:=by
 have c:(av l).Nodup:=(aR l).nodup_iff.mpr hn;exact (dz l).imp₂ (λa b d c=>AT d c) c
def At {ks:List (List Int)}{X:List Int->Int} (h:ks.Pairwise λa b=>bq a b=true):(bm ks X).Pairwise λp q=>bq p.1 q.1=true:=by
 unfold bm;rw[qdn];exact h.sublist qg0
def rZ {ks:List (List Int)}{X:List Int->Int}{p:Prt} (h:p∈bm ks X):p.1∈ks/\p.2=X p.1/\p.2≠0:=by
 unfold bm at h;obtain⟨t,a,rfl⟩:=qaX.mp h;obtain⟨c,b⟩:=qcf.mp a;exact⟨c,rfl,of_decide_eq_true b⟩
def pj (ps:List Prt):Nat->D
 |0=>.non
 |i+1=>aj (ps.getD i ([],0)).1
def wK {st:Sto} (t:List Int):lcI (.nm 0) aL dm [none] (t.map D.int) st=some ((t.map λ_=>true).map D.bl,st):=by
 rw[qaR];exact nB (g:=D.int) (D.bl ∘ λ_=>true) λk _=>ak rfl (oE k)
def xA {st:Sto}{kd:Str}{ts:List (List Int)}{ps:List Prt} (H:ps.length<=1000) (E:ps.Pairwise λp q=>bq p.1 q.1=true) (hm:∀ p∈ps,p.1∈ts/\p.1.length<=1000/\p.2≠0):eA [.d (bU kd ps),.d (.str kd),.d (tsD ts)] st=some (.d (.bl true),st):=by
 obtain⟨v,f,B,⟨l,rfl⟩,rfl⟩:=bN (g:=.nm 4) (body:=ge) (ds:=ps.map bf) (λi env s=>(∃ l,env=[some (.d (bU kd ps)),some (.d (.str kd)),some (.d (tsD ts)),some (.d (pj ps i)),l])/\s=st)
  (env:=[some (.d (bU kd ps)),some (.d (.str kd)),some (.d (tsD ts)),some (.d .non),none]) (st:=st) ⟨⟨_,rfl⟩,rfl⟩ (λi d env s hd ⟨⟨l,e⟩,es⟩=>by
   subst e es;obtain⟨p,h,rfl⟩:=xm hd;obtain⟨m1,m2,m3⟩:=hm p (qbT h);have w:i<ps.length:=(qas.mp h).1;have t:pj ps (i+1)=aj p.1:=by
    show aj (ps.getD i ([],0)).1=_;rw[qaM,h];rfl
   have r:mD s (.d (aj p.1)) (.d (tsD ts))=some (.bl false):=by
    show (eP [aj p.1]).bind (λG=>(cx s (.d (tsD ts))).bind λds=>(eP ds).map λls=>D.bl (!decide (G.headD []∈ls)))=_;rw[show [aj p.1]=[p.1].map aj from rfl,gv,qaa,show cx s (.d (tsD ts))=some (ts.map aj) from rfl,qaa,gv];show some (D.bl (!decide (p.1∈ts)))=_;rw[decide_eq_true m1];rfl
   have m:dS (aE kc (iV 3) (iC .non)) (cV (aE uo (iV 3) (iOp dIx (iV 4) (iC (.int 0))))) [some (.d (bU kd ps)),some (.d (.str kd)),some (.d (tsD ts)),some (.d (pj ps i)),some (.d (.tup [aj p.1,.int p.2]))] s=some (false,s):=by
    cases i with
    |zero=>exact qu rfl
    |succ j=>
     have x:j<ps.length:=by lia
     have A:bq (ps.getD j ([],0)).1 p.1=true:=by
      have:=qf1.mp E j (j+1) x w (by lia)
      rw[qaM,qao x];rw[qao w,qew]at h;rw[<-h];exact this
     have u:uo s (.d (aj (ps.getD j ([],0)).1)) (.d (aj p.1))=some (.bl true):=by
      show (aW ((ps.getD j ([],0)).1.map D.int)).bind (λns=>(aW (p.1.map D.int)).map λF=>D.bl (bq ns F))=_;rw[bD,bD,qaa,qai,A]
     exact pX (s:=s) rfl (oF (k:=true) (ay rfl (ae rfl rfl (kG _ _ _)) u))
   have f0:(p.2==(0:Int))=false:=by simp[m3]
   have o:=wK (st:=s) p.1;have y:(p.1.map D.int).length<=1000000:=by rw[qah];lia
   have hb:(p.1.map λ_=>true).all id=true:=by simp
   have c:=GA (a:=aa (ar (iLc 1 [] (aC (iOp dIx (iV 4) (iC (.int 0)))) (.nm 0) aL dm)) ac) (env:=[some (.d (bU kd ps)),some (.d (.str kd)),some (.d (tsD ts)),some (.d (pj ps i)),some (.d (.tup [aj p.1,.int p.2]))]) (st:=s) (ab (aD (aZ (bM (ae rfl rfl (kG _ _ _))) y o)) rfl);rw[hb]at c;refine⟨_,[some (.d (bU kd ps)),some (.d (.str kd)),some (.d (tsD ts)),some (.d (aj p.1)),some (.d (.tup [aj p.1,.int p.2]))],s,rfl,.inl ?_,⟨_,by rw[t]⟩,rfl⟩;generalize pj ps i=pv at *;generalize bU kd ps=P at *;generalize tsD ts=T at *;generalize p.2=z at *
   exact ai (bA (s:=s) rfl rfl) (ai (bA (s:=s) (fk (oF (k:=true) (uy c)) (fk (ay (ae rfl rfl (kG _ _ _)) rfl r) (oF (k:=true) (uy (ak (ab (ae rfl rfl (jx _ _ _)) rfl) (oE z)))))) rfl) (ai (bA (s:=s) (fk (ay (ae rfl rfl (jx _ _ _)) rfl (by rw[dU,f0])) m) rfl) (aq (ae rfl rfl (kG _ _ _))))))
 have C:dNe f (.d (.str kd)) (.d (.str kd))=some (.bl false):=by
  show some (D.bl (!(kd==kd)))=_;rw[beq_self_eq_true];rfl
 have y:(ps.map bf).length<=1000000:=by rw[qah];lia
 generalize pj ps (ps.map bf).length=pv at *;unfold bU at *;generalize ps.map bf=PP at *;generalize tsD ts=T at *;exact aB (n:=5) (k:=3) (b:=iZ) rfl (ai (bA (s:=f) (fk (s:=f) rfl (fk (s:=f) rfl (fk (s:=f) rfl (ay (ae rfl rfl (kG _ _ _)) rfl C)))) rfl) (ai (bA (s:=f) rfl rfl) (ai (aq rfl) (ai (bE (bM (ae rfl rfl (jx _ _ _))) B) rfl))))
end Own
set_option maxHeartbeats 1000000
namespace Own
open PySem L2
open Sx (Pb Tb Good Named Fe LV ZV piv lexP leastR leaveL sumN unit colV basis)
def Ac {fs:List D}{w:Nat->Int}{i:Nat}{d:D} (h:(ja (mpI fs.length w) fs)[i]?=some d):i<fs.length/\d=.tup [.int (w i),fs.getD i .non]:=by
 rw[gk]at h;by_cases a:i<fs.length
 ·rw[bj a,qao a,qaa,qai,qew]at h
  exact⟨a,by rw[qaM,qao a,<-h];rfl⟩
 ·rw[qaJ (by rw[aA];lia)]at h
  cases h
def sM {fs:List D}{i:Nat}{d:D} (h:(cm 0 fs)[i]?=some d):i<fs.length/\d=.tup [.int ((i:Nat):Int),fs.getD i .non]:=by
 rw[ef]at h;by_cases a:i<fs.length
 ·rw[qao a,qai,qew,qaT]at h
  exact⟨a,by rw[qaM,qao a,<-h];rfl⟩
 ·rw[qaJ (by lia)]at h
  cases h
def tw:∀ (ds:List D) (k:Nat),(cm k ds).length=ds.length
 |[],_=>rfl
 |_::ds,k=>by rw[cm,qam,qam,tw ds]
def ltF (s:Sto) {a b:Int} (h:¬ a<b):dLt s (.d (.int a)) (.d (.int b))=some (.bl false):=by
 show some (D.bl (decide (a<b)))=_;rw[decide_eq_false h]
def gtF (s:Sto) {a b:Int} (h:¬ b<a):dGt s (.d (.int a)) (.d (.int b))=some (.bl false):=by
 show some (D.bl (decide (b<a)))=_;rw[decide_eq_false h]
def Fu (s:Sto) {d:D} (h:d≠.non):iL s (.d d) (.d .non)=some (.bl false):=by
 show some (D.bl (dB d))=_;cases d<;>first|rfl|exact absurd rfl h
def y8 (s:Sto) {d:D} (h:d≠.non):kc s (.d d) (.d .non)=some (.bl true):=by
 show some (D.bl (!dB d))=_;cases d<;>first|rfl|exact absurd rfl h
def u1 {st:Sto}{fs:List D}{w:Nat->Int} (p:fs.length<=1000) (o:∀ r,r<fs.length->0<=w r) (hn:∀ r,r<fs.length->fs.getD r .non=.non->w r=0):cC [.d (.tup (mpI fs.length w)),.d (.tup fs)] st=some (.d (.bl true),st):=by
 obtain⟨j,h,m,⟨c,f,rfl⟩,rfl⟩:=bN (g:=.tp [2,3]) (body:=dE) (ds:=ja (mpI fs.length w) fs) (λi env s=>(∃ c f,env=[some (.d (.tup (mpI fs.length w))),some (.d (.tup fs)),c,f])/\s=st)
  (env:=[some (.d (.tup (mpI fs.length w))),some (.d (.tup fs)),none,none]) (st:=st) ⟨⟨_,_,rfl⟩,rfl⟩ (λi d env s hd ⟨⟨c,f,e⟩,es⟩=>by
   subst e es;obtain⟨l,rfl⟩:=Ac hd;have w0:=o i l;have wn:=hn i l;refine⟨_,_,s,rfl,.inl ?_,⟨some (.d (.int (w i))),some (.d (fs.getD i .non)),rfl⟩,rfl⟩;generalize mpI fs.length w=A at *;generalize fs.getD i .non=v at *;refine bA (s:=s) (fk (s:=s) (oF (k:=true) (uy (ak rfl (oE (w i))))) (fk (s:=s) (ay rfl rfl (ltF _ (by lia))) ?_)) rfl;by_cases e:v=.non
   ·subst e
    exact pX (s:=s) rfl (ay rfl rfl (gtF _ (by rw[wn rfl];lia)))
   ·exact qu (ay rfl rfl (Fu _ e)))
 have a:dNe h (.d (.int ((mpI fs.length w).length:Nat))) (.d (.int (fs.length:Nat)))=some (.bl false):=by
  rw[aA];show some (D.bl (!(((fs.length:Nat):Int)==((fs.length:Nat):Int))))=_;rw[beq_self_eq_true];rfl
 generalize mpI fs.length w=A at *;exact aB (n:=4) (k:=2) (b:=eV) rfl (ai (bA (s:=h) (fk (s:=h) rfl (ay (aV (ab rfl rfl) rfl) (aV (ab rfl rfl) rfl) a)) rfl) (ai (bE rfl m) rfl))
def sR (fs:List D) (g:Nat->Int) (r:Nat):Int:=if dB (fs.getD r .non)=true then 0 else g r
def GE {d:D} (h:d≠.non):¬ dB d=true:=by
 cases d<;>first|exact absurd rfl h|exact Bool.noConfusion
def Fm (s:Sto) {d:D} (a:gQ d) (hn:d≠.non):∃ z:Int,d=.int z/\bb s (.d (.int 2)) (.d d)=some (.int (2*z))/\2*z - 1=sgD d:=by
 rcases a with rfl|rfl|rfl
 ·exact absurd rfl hn
 ·exact⟨0,rfl,cF s (gU (by decide)),rfl⟩
 ·exact⟨1,rfl,cF s (gU (by decide)),rfl⟩
def vP (b:Bool) (t:List Int) (row:Int):(bB b t row).natAbs<=1:=by
 unfold bB;split<;>split<;>decide
def Bv {st:Sto}{fs:List D}{b:Bool}{t:List Int}{w:Nat->Int} (F:fs.length<=1000) (y:∀ d∈fs,gQ d) (u:(∀ k∈t,0<=k/\k<=20)/\t.length<=20) :
  jN [.d (.tup fs),.d (.str (aF b)),.d (aj t),.d (.tup (mpI fs.length w))] st=some (.d (.int (sumN fs.length (sR fs λr=>w r*sgD (fs.getD r .non)*bB b t r))),st):=by
 obtain⟨m,G,o,⟨c,j,rfl⟩,rfl⟩:=bN (g:=.tp [5,6]) (body:=kK) (ds:=cm 0 fs) (λi env s=>(∃ c j,env=[some (.d (.tup fs)),some (.d (.str (aF b))),some (.d (aj t)),some (.d (.tup (mpI fs.length w))),some (.d (.int (sumN i (sR fs λr=>w r*sgD (fs.getD r .non)*bB b t r)))),c,j])/\s=st)
  (env:=[some (.d (.tup fs)),some (.d (.str (aF b))),some (.d (aj t)),some (.d (.tup (mpI fs.length w))),some (.d (.int 0)),none,none]) (st:=st) ⟨⟨_,_,rfl⟩,rfl⟩ (λi d env s hd ⟨⟨c,j,e⟩,es⟩=>by
   subst e es;obtain⟨f,rfl⟩:=sM hd;have es:sumN (i+1) (sR fs λr=>w r*sgD (fs.getD r .non)*bB b t r)=sumN i (sR fs λr=>w r*sgD (fs.getD r .non)*bB b t r)+sR fs (λr=>w r*sgD (fs.getD r .non)*bB b t r) i:=rfl;have l:gQ (fs.getD i .non):=by
    rw[qaM,qao f];exact y _ (qbU f)
   have x:dIx s (.d (.tup (mpI fs.length w))) (.d (.int (i:Int)))=some (.int (w i)):=bW (bj f);have a:=wa (st:=s) (b:=b) (t:=t) (row:=(i:Int)) (by lia) u.1 (by lia);refine⟨_,[some (.d (.tup fs)),some (.d (.str (aF b))),some (.d (aj t)),some (.d (.tup (mpI fs.length w))),some (.d (.int (sumN (i+1) (sR fs λr=>w r*sgD (fs.getD r .non)*bB b t r)))),some (.d (.int (i:Int))),some (.d (fs.getD i .non))],s,rfl,.inl ?_,⟨_,_,rfl⟩,rfl⟩;have E:sR fs (λr=>w r*sgD (fs.getD r .non)*bB b t r) i=if dB (fs.getD i .non)=true then 0 else w i*sgD (fs.getD i .non)*bB b t i:=rfl;rw[es,E];generalize sumN i (sR fs λr=>w r*sgD (fs.getD r .non)*bB b t r)=q at *;generalize aF b=kd at *;generalize mpI fs.length w=A at *;generalize aj t=T at *;have B:=vP b t (i:Int);generalize bB b t (i:Int)=v at *;generalize fs.getD i .non=d at *;by_cases e:d=.non
   ·subst e
    rw[if_pos (show dB D.non=true from rfl),qeD];exact bA (s:=s) rfl rfl
   ·rw[if_neg (GE e)]
    obtain⟨z,rfl,p,C⟩:=Fm s l e;have sg1:(sgD (.int z)).natAbs<=1:=by rcases Ai (d:=.int z) with h|h<;>rw[h]<;>decide
    rw[<-C]at sg1 ⊢
    exact dq (s:=s) (ay rfl rfl (y8 _ e)) (aq (ae rfl (ae (ae (ae rfl rfl x) (ae (ae rfl rfl p) rfl rfl) (cF s (dZ (by lia)))) (ak (ab rfl (ab rfl (ab rfl rfl))) a) (cF s (dZ (by lia)))) rfl)))
 rw[tw]at o;generalize aF b=kd at *;generalize mpI fs.length w=A at *;generalize aj t=T at *;exact aB (n:=7) (k:=4) (b:=nV) rfl (ai (aq rfl) (ai (bE rfl o) rfl))
end Own
set_option maxHeartbeats 1000000
namespace Own
open PySem L2
open Sx (Pb Tb Good Named Fe LV ZV piv lexP leastR leaveL sumN unit colV basis)
def ve (f:Nat->Int):∀ n,((qag n).map f).sum=sumN n f
 |0=>rfl
 |n+1=>by
  rw[qer,qbR,List.sum_append,ve f n];show _+(f n+0)=sumN n f+f n;lia
def yA {l m:List Int} (h:l.Perm m):l.sum=m.sum:=by
 induction h with
 |nil=>rfl
 |cons x _ c=>rw[qci,qci,c]
 |swap x y l=>rw[qci,qci,qci,qci];lia
 |trans _ _ a b=>exact a.trans b
def vN (X g:List Int->Int):∀ ks:List (List Int),((bm ks X).map λp=>p.2*g p.1).sum=(ks.map λt=>X t*g t).sum
 |[]=>rfl
 |t::ks=>by
  have a:=vN X g ks;unfold bm at a ⊢;rw[qec,qaq,qci];by_cases h:X t=0
  ·rw[if_neg (by simp[h]),a,h,qbW,qcd]
  ·rw[if_pos (by simp[h]),qaq,qaq,qci,a]
def yG (X g:List Int->Int) (ts:List (List Int)):((bm (av ts) X).map λp=>p.2*g p.1).sum=sumN ts.length λt=>X (ts.getD t [])*g (ts.getD t []):=by
 rw[vN,yA ((aR ts).map λt=>X t*g t),jm [] (λt=>X t*g t) ts,ve]
def se (g:Nat->Int):∀ (r:List D) (k:Nat),((bo k r).map λj=>g j.toNat).sum=sumN r.length λj=>if dB (r.getD j .non)=true then 0 else g (k+j)
 |[],k=>rfl
 |d::r,k=>by
  have c:=se g r (k+1);rw[qam,qgN r.length 1,Sx.sumN_append];have b:(sumN r.length λj=>if dB ((d::r).getD (1+j) .non)=true then 0 else g (k+(1+j)))=sumN r.length λj=>if dB (r.getD j .non)=true then 0 else g (k+1+j):=Sx.sumN_congr λj _=>by
   rw[qgN 1 j,qaF,show k+(j+1)=k+1+j by lia]
  have e:(sumN 1 λj=>if dB ((d::r).getD j .non)=true then 0 else g (k+j))=if dB d=true then 0 else g k:=by
   show (0:Int)+_=_;rw[qcd];rfl
  rw[b,e,<-c];have a:(((k:Int)::bo (k+1) r).map λj=>g j.toNat).sum=g k+((bo (k+1) r).map λj=>g j.toNat).sum:=by
   rw[qaq,qci,qbg]
  cases d<;>first|exact (qcd _).symm|exact a
def tL:∀ (r:List D) (k j:Nat),j<r.length->r.getD j .non≠.non->((k+j:Nat):Int)∈bo k r
 |[],_,_,h,_=>absurd h (qcM _)
 |d::r,k,0,_,hn=>by
  have:((k+0:Nat):Int)∈(k:Int)::bo (k+1) r:=qaf
  cases d<;>first|exact absurd rfl hn|exact this
 |d::r,k,j+1,h,hn=>by
  have a:=tL r (k+1) j (by rw[qam]at h;lia) (by rw[qaF]at hn;exact hn);rw[show k+1+j=k+(j+1) by lia]at a;cases d<;>first|exact a|exact qal _ a
section
variable {fs:List D}{b:Bool}{ts:List (List Int)}{X:List Int->Int}{w:Nat->Int}
def BD (h:Spl fs ts) (S:AG fs b ts X w) {t:List Int} (l:t∈ts):sumN fs.length (sR fs λr=>w r*sgD (fs.getD r .non)*bB b t r)=0:=by
 obtain⟨j,n,rfl⟩:=ku l;have e:=se (λr=>w r*sgD (fs.getD r .non)*bB b (ts.getD j []) r) fs 0;rw[jm 0 (λc:Int=>w c.toNat*sgD (fs.getD c.toNat .non)*bB b (ts.getD j []) (c.toNat:Nat)) (bo 0 fs),ve]at e;have k:sumN fs.length (sR fs λr=>w r*sgD (fs.getD r .non)*bB b (ts.getD j []) r)=sumN fs.length λr=>if dB (fs.getD r .non)=true then 0 else w (0+r)*sgD (fs.getD (0+r) .non)*bB b (ts.getD j []) ((0+r:Nat):Int):=Sx.sumN_congr λr _=>by rw[qaT];rfl
 rw[k,<-e];refine Eq.trans (Sx.sumN_congr λi a=>?_) (S.bal j n);have d:=(pk h a).1;show w (rN fs i)*sgD (fs.getD (rN fs i) .non)*bB b (ts.getD j []) (rN fs i)=sgD (fs.getD (rN fs i) .non)*bB b (ts.getD j []) (jr fs i)*w (rN fs i);rw[d,qbn,qa1]
def AB (h:Spl fs ts) (S:AG fs b ts X w) {r:Nat} (d:r<fs.length) (hn:fs.getD r .non≠.non):0<=(sumN ts.length λt=>X (ts.getD t [])*bB b (ts.getD t []) r)*sgD (fs.getD r .non)/\((sumN ts.length λt=>X (ts.getD t [])*bB b (ts.getD t []) r)*sgD (fs.getD r .non)=0↔w r≠0):=by
 have hm:=tL fs 0 r d hn;rw[qaT]at hm;obtain⟨i,a,e⟩:=qcQ.mp hm;have f:jr fs i=(r:Int):=by
  unfold jr;rw[qaM,qao a];exact e
 have m:rN fs i=r:=by unfold rN;rw[f,qbg]
 have v:=S.val i a;rw[m]at v;have g:(sumN ts.length λt=>X (ts.getD t [])*spV fs b ts i t)=(sumN ts.length λt=>X (ts.getD t [])*bB b (ts.getD t []) r)*sgD (fs.getD r .non):=by
  rw[<-Sx.sumN_right];refine Sx.sumN_congr λt _=>?_;unfold spV;rw[f,qbg,qa1 (sgD _),qbn]
 rw[g]at v;exact v
end
end Own
set_option maxHeartbeats 1000000
namespace Own
open PySem L2
open Sx (Pb Tb Good Named Fe LV ZV piv lexP leastR leaveL sumN unit colV basis)
def Gn {a:Af}{env:Ev}{st s:Sto}{bs:List Bool} (h:a env st=some ([.d (.lst (bs.map D.bl))],s)):iCB zd a env st=some (.d (.bl (bs.any id)),s):=by
 refine aV h ?_;show (iB (bs.map D.bl)).map (λns=>D.bl (ns.any id))=_;rw[jW];rfl
section
variable {fs:List D}{b:Bool}{ts:List (List Int)}{X:List Int->Int}{w:Nat->Int}
def mt (fs:List D) (b:Bool) (ts:List (List Int)) (X:List Int->Int) (w:Nat->Int):D:=.tup [bU (aF b) (bm (av ts) X),.tup (mpI fs.length w)]
def tW {st:Sto} (h:Spl fs ts) (S:AG fs b ts X w):dH [.d (mt fs b ts X w),.d (.tup fs),.d (.str (aF b)),.d (tsD ts)] st=some (.d (.bl true),st):=by
 have hfl:=h.fl;have htl:=h.tl;have hps:(bm (av ts) X).length<=16:=by
  unfold bm;rw[qah]
  have:=qes (λt=>decide (X t≠0)) (av ts)
  rw[(aR _).length_eq]at this;lia
 have c:∀ p∈bm (av ts) X,p.1∈ts/\p.2≠0:=λp f=>⟨(aR _).mem_iff.mp (rZ f).1,(rZ f).2.2⟩;have R:=xA (st:=st) (kd:=aF b) (ts:=ts) (ps:=bm (av ts) X) (by lia) (At (xi h.nd)) λp f=>⟨(c p f).1,by have:=(h.tt _ (c p f).1).2;lia,(c p f).2⟩;have W:=u1 (st:=st) (fs:=fs) (w:=w) (by lia) (λr hr=>(S.w0 r hr).1) S.wn;have o:lcI (.nm 0) aL cM [none,some (.d (.tup fs)),some (.d (.str (aF b))),some (.d (mt fs b ts X w))] (ts.map aj) st=some ((ts.map λ_=>false).map D.bl,st):=by
  rw[qaR];refine nB (g:=aj) (D.bl ∘ λ_=>false) λt y=>?_;have e:=Bv (st:=st) (fs:=fs) (b:=b) (w:=w) (by lia) h.fv (h.tt t y);rw[BD h S y]at e;unfold mt;exact ae (ak (ab rfl (ab rfl (ab rfl (ab (ae rfl rfl (jx _ _ _)) rfl)))) e) rfl rfl
 have hb:(ts.map λ_=>false).any id=false:=by simp
 obtain⟨M,l,Y,⟨C,K,B,rfl⟩,rfl⟩:=bN (g:=.tp [4,5]) (body:=fj) (ds:=cm 0 fs) (λi env s=>(∃ C K B,env=[some (.d (mt fs b ts X w)),some (.d (.tup fs)),some (.d (.str (aF b))),some (.d (tsD ts)),C,K,B])/\s=st)
  (env:=[some (.d (mt fs b ts X w)),some (.d (.tup fs)),some (.d (.str (aF b))),some (.d (tsD ts)),none,none,none]) (st:=st) ⟨⟨_,_,_,rfl⟩,rfl⟩ (λi d env s hd ⟨⟨C,K,B,e⟩,es⟩=>by
   subst e es;obtain⟨x,rfl⟩:=sM hd;have F:gQ (fs.getD i .non):=by
    rw[qaM,qao x];exact h.fv _ (qbU x)
   by_cases e:fs.getD i .non=.non
   ·refine⟨_,_,s,rfl,.inl ?_,⟨some (.d (.int (i:Int))),some (.d (fs.getD i .non)),B,rfl⟩,rfl⟩
    rw[e];exact bA (s:=s) rfl rfl
   ·have I:=AB h S x e
    have Q:dIx s (.d (.tup (mpI fs.length w))) (.d (.int (i:Int)))=some (.int (w i)):=bW (bj x);have G:lcI (.tp [0,1]) aL cR [none,none,some (.d (.str (aF b))),some (.d (.int (i:Int)))] ((bm (av ts) X).map bf) s=some (((bm (av ts) X).map λp=>p.2*bB b p.1 i).map D.int,s):=by
     rw[qaR];exact qW (g:=λp:Prt=>(aj p.1,D.int p.2)) (D.int ∘ λp:Prt=>p.2*bB b p.1 i) λp f=>by
      have y:=h.tt _ (c p f).1;have m:=wa (st:=s) (b:=b) (t:=p.1) (row:=(i:Int)) (by lia) y.1 (by lia);have hab:=vP b p.1 (i:Int);show cR _ s=some (.d (.int (p.2*bB b p.1 i)),s);generalize aF b=kd at *;generalize bB b p.1 (i:Int)=v at *;exact ae rfl (ak (ab rfl (ab rfl (ab rfl rfl))) m) (cF s (dZ (by lia)))
    have u:=yG X (λt=>bB b t i) ts;have N:=Cd s ((bm (av ts) X).map λp=>p.2*bB b p.1 i);rw[u]at N;have hz:((bm (av ts) X).map bf).length<=1000000:=by rw[qah];lia
    generalize (sumN ts.length λt=>X (ts.getD t [])*bB b (ts.getD t []) i)=V at *;obtain⟨z,ez,O,H⟩:=Fm s F e;have sg1:(sgD (fs.getD i .non)).natAbs<=1:=by rcases Ai (d:=fs.getD i .non) with q|q<;>rw[q]<;>decide
    rw[<-H]at sg1 I;refine⟨_,_,s,rfl,.inl ?_,⟨some (.d (.int (i:Int))),some (.d (fs.getD i .non)),some (.d (.int (V*(2*z - 1)))),rfl⟩,rfl⟩;have E:=y8 s e;unfold mt bU;generalize fs.getD i .non=d at *;generalize ((bm (av ts) X).map λp=>p.2*bB b p.1 i).map D.int=L at *;generalize (bm (av ts) X).map bf=PP at *;generalize mpI fs.length w=A at *;generalize tsD ts=T at *;generalize aF b=kd at *;have j:dEq s (.d (.bl (V*(2*z - 1)==0))) (.d (.bl (w i==0)))=some (.bl false):=by
     by_cases q:V*(2*z - 1)=0
     ·have:(w i==0)=false:=by simpa using I.2.mp q
      rw[this,show (V*(2*z - 1)==0)=true by simpa using q];rfl
     ·have hw:w i=0:=qfo λn=>q (I.2.mpr n)
      rw[hw,show (V*(2*z - 1)==0)=false by simpa using q];rfl
    subst ez
    exact dq (s:=s) (ay rfl rfl E) (ai (aq (ae (aV (ab (aD (aZ (bM (ae (ae rfl rfl (kG _ _ _)) rfl (jx _ _ _))) hz G)) rfl) N) (ae (ae rfl rfl O) rfl rfl) (cF s (dZ (by lia))))) (bA (s:=s) (fk (s:=s) (ay rfl rfl (ltF _ (by lia))) (ay (ae rfl rfl (dU _ _ _)) (ae (ae (ae rfl rfl (jx _ _ _)) rfl Q) rfl (dU _ _ _)) j)) rfl)))
 have J:(ts.map aj).length<=1000000:=by rw[qah];lia
 have hA:=Gn (a:=aa (ar (iLc 1 [1,2,0] (aC (iV 3)) (.nm 0) aL cM)) ac) (env:=[some (.d (mt fs b ts X w)),some (.d (.tup fs)),some (.d (.str (aF b))),some (.d (tsD ts)),none,none,none]) (st:=l) (ab (aD (aZ (bM rfl) J o)) rfl);rw[hb]at hA;unfold mt at *;generalize bU (aF b) (bm (av ts) X)=P at *;generalize mpI fs.length w=A at *;generalize tsD ts=T at *;generalize aF b=kd at *;exact aB (n:=7) (k:=4) (b:=ij) rfl (ai (bA (s:=l) (fk (s:=l) rfl (fk (s:=l) rfl (oF (k:=true) (uy (ak (ab (ae rfl rfl (kG _ _ _)) (ab rfl (ab rfl rfl))) R))))) rfl) (ai (bA (s:=l) (fk (s:=l) (oF (k:=true) (uy (ak (ab (ae rfl rfl (jx _ _ _)) (ab rfl rfl)) W))) (uy hA)) rfl) (ai (bE rfl Y) rfl)))
end
end Own
section
set_option maxHeartbeats 1000000
namespace Own
open PySem L2
open Sx (Pb Tb Good Named Fe LV ZV piv lexP leastR leaveL sumN unit colV basis)
def qk (k:Nat):∀ ns:List Int,(ns.map D.int).all (okD k)=true
 |[]=>rfl
 |n::ns=>by
  rw[qaq,qbz,qk k ns,qgj];cases k<;>rfl
def r8:∀ ps:List Prt,(ps.map bf).all (okD 58)=true
 |[]=>rfl
 |p::ps=>by
  rw[qaq,qbz,r8 ps,qgj];show ((p.1.map D.int).all (okD 56)&&(true&&true))=true;rw[qk];rfl
def tM:∀ ps:List Prt,dN (ps.map bf) (ps.map bf)=true
 |[]=>rfl
 |p::ps=>by
  show ((dN (p.1.map D.int) (p.1.map D.int)&&((p.2==p.2)&&true))&&dN (ps.map bf) (ps.map bf))=true;rw[tM ps,ji,decide_eq_true rfl,beq_self_eq_true];rfl
def yq {s:Sto}{fs:List D}{b:Bool}{ts:List (List Int)}{X:List Int->Int}{w:Nat->Int}:dNe s (.d (mt fs b ts X w)) (.d (mt fs b ts X w))=some (.bl false):=by
 unfold mt bU;have F:[D.tup [.str (aF b),.tup ((bm (av ts) X).map bf)],.tup (mpI fs.length w)].all (okD 60)=true:=by
  show ((true&&((((bm (av ts) X).map bf).all (okD 58))&&true))&&((mpI fs.length w).all (okD 59)&&true))=true;rw[r8,bQ,qk];rfl
 have h2:dN [D.tup [.str (aF b),.tup ((bm (av ts) X).map bf)],.tup (mpI fs.length w)] [D.tup [.str (aF b),.tup ((bm (av ts) X).map bf)],.tup (mpI fs.length w)]=true:=by
  show (((aF b==aF b)&&(dN ((bm (av ts) X).map bf) ((bm (av ts) X).map bf)&&true))&&(dN (mpI fs.length w) (mpI fs.length w)&&true))=true;rw[tM,bQ,ji,decide_eq_true rfl,beq_self_eq_true];rfl
 show ((if (false||false)=true then some (false&&false) else if [D.tup [.str (aF b),.tup ((bm (av ts) X).map bf)],.tup (mpI fs.length w)].all (okD 60)=true/\[D.tup [.str (aF b),.tup ((bm (av ts) X).map bf)],.tup (mpI fs.length w)].all (okD 60)=true then some (dN [D.tup [.str (aF b),.tup ((bm (av ts) X).map bf)],.tup (mpI fs.length w)] [D.tup [.str (aF b),.tup ((bm (av ts) X).map bf)],.tup (mpI fs.length w)]) else none)).map (λk=>D.bl (!k))=_;rw[if_neg (by decide),if_pos ⟨F,F⟩,h2];rfl
def jM:∀ n:Nat,(bZ n).Nodup
 |0=>by simp[bZ]
 |n+1=>by
  rw[bZ,qcw];refine⟨jM n,?_,?_⟩
  ·refine qiB _ (λa b O=>?_) (jM n)
   intro e;exact O (List.append_cancel_right e)
  ·intro a ha b hb e
   subst e;obtain⟨t,_,rfl⟩:=qaX.mp hb
   have:=(i7 n ha).2 (n:Int) (qaw _ (qap.mpr rfl))
   lia
def xq {fs:List D}{ts:List (List Int)}{n:Int} (Q:0<=n) (n1:n<=4) (fl:fs.length=2^n.toNat) (fv:∀ u∈fs,gQ u) (f:ts.Sublist (av (bZ n.toNat))):Spl fs ts:=by
 have h16:2^n.toNat<=16:=qa3 (qcu (by decide) (by lia:n.toNat<=4)) (by decide);refine⟨by lia,fv,?_,λt ht=>?_,((aR _).nodup_iff.mpr (jM _)).sublist f⟩
 ·have:=f.length_le
  rw[(aR _).length_eq,i8]at this;lia
 ·have hm:=i7 _ ((aR _).mem_iff.mp (f.subset ht))
  have hl:=vQ hm;exact⟨λk L=>by have:=hm.2 k L;lia,by lia⟩
def AE {st:Sto}{ns:List Int}{k:Nat}{a2 a3 a4 a5 a6 a7:Option W} (L:k<=1000):∃ b2 b3 b4 b5 b6 b7 M,qX [some (.d (.scr ns)),some (.d (.int k)),a2,a3,a4,a5,a6,a7] st=some (.nx [some (.d (.scr ns)),some (.d (.int k)),b2,b3,b4,b5,b6,b7] M):=by
 obtain⟨x,y,x0,e1⟩:=Dw (st:=st) (ns:=ns) L;have F:de (st++[.l [.int x,.int y,.int 0]]) st.length:=⟨x,y,0,x0,by simp⟩;generalize st++[C.l [.int x,.int y,.int 0]]=s1 at *;obtain⟨n,B,Q,n1,t2,J⟩:=cU F (m:=4) (by decide) (by decide);obtain⟨q,H,q0,q1,t3,e3⟩:=cU t2.hand (m:=8) (by decide) (by decide);have E:∃ c,dS (aE dEq (au aG (aa (iV 2) (aa (iC (.int 8)) ac))) (iC (.int 7))) (aE dEq (iV 1) (iC (.int 0))) [some (.d (.scr ns)),some (.d (.int k)),some (.h st.length),some (.d (.int n)),a4,a5,a6,a7] B=some (c,H):=by
  have p:aE dEq (au aG (aa (iV 2) (aa (iC (.int 8)) ac))) (iC (.int 7)) [some (.d (.scr ns)),some (.d (.int k)),some (.h st.length),some (.d (.int n)),a4,a5,a6,a7] B=some (q==7,H):=ay (ak rfl e3) rfl (dU _ _ _);cases hq:(q==(7:Int)) with
  |true=>rw[hq]at p;exact⟨_,pX p (ay rfl rfl (dU _ _ _))⟩
  |false=>rw[hq]at p;exact⟨_,qu p⟩
 obtain⟨c,E⟩:=E;obtain⟨m,m0,m1,hm⟩:∃ m:Int,0<=m/\m<=4/\aY (dS (aE dEq (au aG (aa (iV 2) (aa (iC (.int 8)) ac))) (iC (.int 7))) (aE dEq (iV 1) (iC (.int 0)))) (az (.nm 3) (iC (.int 4))) aO [some (.d (.scr ns)),some (.d (.int k)),some (.h st.length),some (.d (.int n)),a4,a5,a6,a7] B=some (.nx [some (.d (.scr ns)),some (.d (.int k)),some (.h st.length),some (.d (.int m)),a4,a5,a6,a7] H):=by
  cases c with
  |true=>exact⟨4,by decide,by decide,dq E rfl⟩
  |false=>exact⟨n,Q,by lia,bA E rfl⟩
 obtain⟨fs,s4,fl,fv,t4,Y⟩:=sF t3.hand m0 (by lia);obtain⟨ts,G,f,t5,K⟩:=yL t4.hand m0 m1;obtain⟨z,o,z0,z1,t6,e6⟩:=cU t5.hand (m:=2) (by decide) (by decide);have S:=xq m0 m1 fl fv f;obtain⟨b,hb⟩:∃ b:Bool,atI [D.str "both",.str "odd"] z=some (.str (aF b)):=by
  have:z=0\/z=1:=by lia
  rcases this with rfl|rfl
  ·exact⟨true,rfl⟩
  ·exact⟨false,rfl⟩
 obtain⟨X,w,R,A⟩:=zN (b:=b) S;obtain⟨u,e7⟩:=A o;obtain⟨v,e8⟩:=A (o++u);have V:=tW (st:=o++u) S R;have j:=yq (s:=o++u++v) (fs:=fs) (b:=b) (ts:=ts) (X:=X) (w:=w);have I:iOp dIx (ar (bR (aa (iC (.str "both")) (aa (iC (.str "odd")) ac)))) (au aG (aa (iV 2) (aa (iC (.int 2)) ac))) [some (.d (.scr ns)),some (.d (.int k)),some (.h st.length),some (.d (.int m)),some (.d (.tup fs)),some (.d (tsD ts)),a6,a7] G=some (.d (.str (aF b)),o):=ae rfl (ak rfl e6) hb
 unfold mt at V j;generalize (D.tup [bU (aF b) (bm (av ts) X),.tup (mpI fs.length w)])=Z at *;generalize tsD ts=T at *;generalize aF b=kd at *;exact⟨_,_,_,_,_,_,_,ai (aq (ak rfl e1)) (ai (aq (ak rfl J)) (ai hm (ai (aq (ak rfl Y)) (ai (aq (ak rfl K)) (ai (aq I) (ai (aq (ak rfl e7)) (bA (fk (oF (k:=true) (uy (ak rfl V))) (ay (ak rfl e8) rfl j)) rfl)))))))⟩
def yo (ns:List Int) (hl:ns.length<=63):∃ st,pq [.d (.scr ns)] []=some (.d (.bl true),st):=by
 obtain⟨r,N⟩:∃ r:Int,1+(if ((ns.map D.int).length:Int)<5 then ((ns.map D.int).length:Int) else 5)=r:=⟨_,rfl⟩;have hr9:r<=9:=by rw[<-N];split<;>lia
 obtain⟨P,B,J,b1,b2,b3,b4,b5,b6,b7,rfl⟩:=bN (g:=.nm 1) (body:=qX) (ds:=bF 0 r.toNat) (λi env s=>∃ b1 b2 b3 b4 b5 b6 b7,env=[some (.d (.scr ns)),b1,b2,b3,b4,b5,b6,b7]) (env:=[some (.d (.scr ns)),none,none,none,none,none,none,none]) (st:=[])
  ⟨_,_,_,_,_,_,_,rfl⟩ (λi d env s hd ⟨b1,b2,b3,b4,b5,b6,b7,e⟩=>by
   subst e;obtain⟨rfl,hi⟩:=gZ hd;obtain⟨c2,c3,c4,c5,c6,c7,G,K⟩:=AE (st:=s) (ns:=ns) (k:=i) (a2:=b2) (a3:=b3) (a4:=b4) (a5:=b5) (a6:=b6) (a7:=b7) (by lia)
   exact⟨_,_,G,rfl,.inl K,_,_,_,_,_,_,_,rfl⟩)
 have hb:-(2^62)<=r/\r<2^62:=by rw[<-N];split<;>lia
 refine⟨B.take 0,?_⟩;simp only[pq,BR,iV,iC,iOp,ac,aa,iCB,ah,aK,eZ,bz,gy,w6,cx,lsD,bh,aX,Dt,qaa,qai,qay,qaq,qbl,qam,qa6,qaS,qa4,qbc,qbd,qbA,if_true,qaT,and_self,lg,N,hb,J]
end Own
end
namespace Own
open PySem L2
def jP {a:List Value} (h:a.length=1):∃ a0,a=[a0]:=match a,h with|[a0],_=>⟨a0,rfl⟩
def kA {a:List Value} (h:a.length=2):∃ a0 a1,a=[a0,a1]:=match a,h with|[a0,a1],_=>⟨a0,a1,rfl⟩
def pe {a:List Value} (h:a.length=3):∃ a0 a1 a2,a=[a0,a1,a2]:=match a,h with|[a0,a1,a2],_=>⟨a0,a1,a2,rfl⟩
def zY {a:List Value} (h:a.length=4):∃ a0 a1 a2 a3,a=[a0,a1,a2,a3]:=match a,h with|[a0,a1,a2,a3],_=>⟨a0,a1,a2,a3,rfl⟩
def txt_mk {K:qae}{h:Heap}{mg:Str->Option Value} (X:K.In h) (G:h.Ns qaA mg)
  {f0:Addr}{g0:qau}
  (a0:qaI K qaA "power_of_two" = some (some (.ref f0))) (F0:Fun K "power_of_two" "power_of_two" eO f0 g0)
  {f1:Addr}{g1:qau}
  (a1:qaI K qaA "on_in" = some (some (.ref f1))) (F1:Fun K "on_in" "on_in" rd f1 g1)
  {f2:Addr}{g2:qau}
  (a2:qaI K qaA "greatest_part" = some (some (.ref f2))) (F2:Fun K "greatest_part" "greatest_part" dL f2 g2)
  {f3:Addr}{g3:qau}
  (a3:qaI K qaA "lowered" = some (some (.ref f3))) (F3:Fun K "lowered" "lowered" lN f3 g3)
  {f4:Addr}{g4:qau}
  (a4:qaI K qaA "told_rows" = some (some (.ref f4))) (F4:Fun K "told_rows" "told_rows" i6 f4 g4)
  {f5:Addr}{g5:qau}
  (a5:qaI K qaA "sign_at" = some (some (.ref f5))) (F5:Fun K "sign_at" "sign_at" kX f5 g5)
  {f6:Addr}{g6:qau}
  {ca_Table:Addr} (cm_Table:qaI K qaA "Table" = some (some (.ref ca_Table)))
  (a6:qbp K (.ref ca_Table) "__init__" = some (some (.ref f6))) (F6:Fun K "__init__" "Table.__init__" cS f6 g6)
  {f7:Addr}{g7:qau}
  (a7:qaI K qaA "least_ratio" = some (some (.ref f7))) (F7:Fun K "least_ratio" "least_ratio" fN f7 g7)
  {f8:Addr}{g8:qau}
  (a8:qaI K qaA "weighed" = some (some (.ref f8))) (F8:Fun K "weighed" "weighed" lv f8 g8)
  {f9:Addr}{g9:qau}
  (a9:qaI K qaA "numbers_by" = some (some (.ref f9))) (F9:Fun K "numbers_by" "numbers_by" gI f9 g9)
  {f10:Addr}{g10:qau}
  (a10:qaI K qaA "leaving" = some (some (.ref f10))) (F10:Fun K "leaving" "leaving" kY f10 g10)
  {f11:Addr}{g11:qau}
  (a11:qaI K qaA "gains_more" = some (some (.ref f11))) (F11:Fun K "gains_more" "gains_more" gD f11 g11)
  {f12:Addr}{g12:qau}
  (a12:qaI K qaA "best_step" = some (some (.ref f12))) (F12:Fun K "best_step" "best_step" iA f12 g12)
  {f13:Addr}{g13:qau}
  (a13:qaI K qaA "swept" = some (some (.ref f13))) (F13:Fun K "swept" "swept" qT f13 g13)
  {f14:Addr}{g14:qau}
  (a14:qaI K qaA "exchange" = some (some (.ref f14))) (F14:Fun K "exchange" "exchange" gz f14 g14)
  {f15:Addr}{g15:qau}
  (a15:qaI K qaA "way_of" = some (some (.ref f15))) (F15:Fun K "way_of" "way_of" nq f15 g15)
  {f16:Addr}{g16:qau}
  (a16:qaI K qaA "amounts_of" = some (some (.ref f16))) (F16:Fun K "amounts_of" "amounts_of" gA f16 g16)
  {f17:Addr}{g17:qau}
  (a17:qaI K qaA "prices_of" = some (some (.ref f17))) (F17:Fun K "prices_of" "prices_of" iF f17 g17)
  {f18:Addr}{g18:qau}
  (a18:qaI K qaA "found_most" = some (some (.ref f18))) (F18:Fun K "found_most" "found_most" gT f18 g18)
  {f19:Addr}{g19:qau}
  (a19:qaI K qaA "most_of" = some (some (.ref f19))) (F19:Fun K "most_of" "most_of" lK f19 g19)
  {f20:Addr}{g20:qau}
  (a20:qaI K qaA "value_of" = some (some (.ref f20))) (F20:Fun K "value_of" "value_of" jU f20 g20)
  {f21:Addr}{g21:qau}
  (a21:qaI K qaA "poly_from" = some (some (.ref f21))) (F21:Fun K "poly_from" "poly_from" i5 f21 g21)
  {f22:Addr}{g22:qau}
  (a22:qaI K qaA "parted" = some (some (.ref f22))) (F22:Fun K "parted" "parted" nZ f22 g22)
  {f23:Addr}{g23:qau}
  (a23:qaI K qaA "shrunk" = some (some (.ref f23))) (F23:Fun K "shrunk" "shrunk" nr f23 g23)
  {f24:Addr}{g24:qau}
  (a24:qaI K qaA "signed_value" = some (some (.ref f24))) (F24:Fun K "signed_value" "signed_value" eW f24 g24)
  {f25:Addr}{g25:qau}
  (a25:qaI K qaA "signed_values" = some (some (.ref f25))) (F25:Fun K "signed_values" "signed_values" dR f25 g25)
  {f26:Addr}{g26:qau}
  (a26:qaI K qaA "one_at" = some (some (.ref f26))) (F26:Fun K "one_at" "one_at" ng f26 g26)
  {f27:Addr}{g27:qau}
  (a27:qaI K qaA "both_ways" = some (some (.ref f27))) (F27:Fun K "both_ways" "both_ways" iW f27 g27)
  {f28:Addr}{g28:qau}
  (a28:qaI K qaA "poly_by" = some (some (.ref f28))) (F28:Fun K "poly_by" "poly_by" lE f28 g28)
  {f29:Addr}{g29:qau}
  (a29:qaI K qaA "weights_by" = some (some (.ref f29))) (F29:Fun K "weights_by" "weights_by" gL f29 g29)
  {f30:Addr}{g30:qau}
  (a30:qaI K qaA "split_of" = some (some (.ref f30))) (F30:Fun K "split_of" "split_of" j5 f30 g30)
  {f31:Addr}{g31:qau}
  (a31:qaI K qaA "_law_pot" = some (some (.ref f31))) (F31:Fun K "_law_pot" "_law_pot" j0 f31 g31)
  {f32:Addr}{g32:qau}
  (a32:qaI K qaA "_law_pick" = some (some (.ref f32))) (F32:Fun K "_law_pick" "_law_pick" iR f32 g32)
  {f33:Addr}{g33:qau}
  (a33:qaI K qaA "_law_on" = some (some (.ref f33))) (F33:Fun K "_law_on" "_law_on" lc f33 g33)
  {f34:Addr}{g34:qau}
  (a34:qaI K qaA "_law_function" = some (some (.ref f34))) (F34:Fun K "_law_function" "_law_function" dG f34 g34)
  {f35:Addr}{g35:qau}
  (a35:qaI K qaA "_law_all_terms" = some (some (.ref f35))) (F35:Fun K "_law_all_terms" "_law_all_terms" dw f35 g35)
  {f36:Addr}{g36:qau}
  (a36:qaI K qaA "_law_terms" = some (some (.ref f36))) (F36:Fun K "_law_terms" "_law_terms" gK f36 g36)
  {f37:Addr}{g37:qau}
  (a37:qaI K qaA "_law_value" = some (some (.ref f37))) (F37:Fun K "_law_value" "_law_value" gJ f37 g37)
  {f38:Addr}{g38:qau}
  (a38:qaI K qaA "_law_sum" = some (some (.ref f38))) (F38:Fun K "_law_sum" "_law_sum" jR f38 g38)
  {f39:Addr}{g39:qau}
  (a39:qaI K qaA "_law_whole" = some (some (.ref f39))) (F39:Fun K "_law_whole" "_law_whole" gW f39 g39)
  {f40:Addr}{g40:qau}
  (a40:qaI K qaA "_law_is_poly" = some (some (.ref f40))) (F40:Fun K "_law_is_poly" "_law_is_poly" eJ f40 g40)
  {f41:Addr}{g41:qau}
  (a41:qaI K qaA "_law_are_weights" = some (some (.ref f41))) (F41:Fun K "_law_are_weights" "_law_are_weights" cG f41 g41)
  {f42:Addr}{g42:qau}
  (a42:qaI K qaA "_law_is_split" = some (some (.ref f42))) (F42:Fun K "_law_is_split" "_law_is_split" dJ f42 g42)
  {f43:Addr}{g43:qau}
  (a43:qaI K qaA "law" = some (some (.ref f43))) (F43:Fun K "law" "law" ze f43 g43)
  (z:∀ x∈(["abs","all","any","bool","enumerate","int","isinstance","len","list","min","range","sorted","str","sum","tuple","zip"]:List Str),qaI K qaA x=some none)
  (mk0_Table:qfi K ca_Table=true)
  (mk2_Table:qhK K (.ref f6)=true)
  (mk3_Table:qcy K (.ref ca_Table)=true)
  (cl0_Table:qd1 K ca_Table Str.empty=true)
  (cl1_Table:qdP K ca_Table=true)
  (cl2_Table:qeW K ca_Table=true)
  (cl3_Table:qbp K (.ref ca_Table) "__setattr__" = some (some (.builtin "object.__setattr__")))
  (na0_Table:qbp K (.ref ca_Table) "amounts" = some none)
  (na1_Table:qbp K (.ref ca_Table) "lines" = some none)
  (na2_Table:qbp K (.ref ca_Table) "goal" = some none)
  (na3_Table:qbp K (.ref ca_Table) "part" = some none)
  (na4_Table:qbp K (.ref ca_Table) "free" = some none)
  (na5_Table:qbp K (.ref ca_Table) "kept" = some none)
  : ∃ t,Txt K mg t/\t.f43=f43:=by
 refine⟨⟨f0,g0,f1,g1,f2,g2,f3,g3,f4,g4,f5,g5,f6,g6,f7,g7,f8,g8,f9,g9,f10,g10,f11,g11,f12,g12,f13,g13,f14,g14,f15,g15,f16,g16,f17,g17,f18,g18,f19,g19,f20,g20,f21,g21,f22,g22,f23,g23,f24,g24,f25,g25,f26,g26,f27,g27,f28,g28,f29,g29,f30,g30,f31,g31,f32,g32,f33,g33,f34,g34,f35,g35,f36,g36,f37,g37,f38,g38,f39,g39,f40,g40,f41,g41,f42,g42,f43,g43,ca_Table⟩,⟨qaE X G cm_Table,F0,qaE X G a0,F0.binds λ_ _ _ _ _ _ b a=>(by obtain⟨_,rfl⟩:=jP a;rfl),F1,qaE X G a1,F1.binds λ_ _ _ _ _ _ b a=>(by obtain⟨_,_,rfl⟩:=kA a;rfl),F2,qaE X G a2,F2.binds λ_ _ _ _ _ _ b a=>(by obtain⟨_,rfl⟩:=jP a;rfl),F3,qaE X G a3,F3.binds λ_ _ _ _ _ _ b a=>(by obtain⟨_,rfl⟩:=jP a;rfl),F4,qaE X G a4,F4.binds λ_ _ _ _ _ _ b a=>(by obtain⟨_,rfl⟩:=jP a;rfl),F5,qaE X G a5,F5.binds λ_ _ _ _ _ _ b a=>(by obtain⟨_,_,rfl⟩:=kA a;rfl),F6,F6.binds λ_ _ _ _ _ _ b a=>(by obtain⟨_,_,_,_,rfl⟩:=zY a;rfl),⟨mk0_Table,a6,mk2_Table,mk3_Table⟩,⟨cl0_Table,cl1_Table,cl2_Table,cl3_Table⟩,qca.mpr ⟨na0_Table,qca.mpr ⟨na1_Table,qca.mpr ⟨na2_Table,qca.mpr ⟨na3_Table,qca.mpr ⟨na4_Table,qca.mpr ⟨na5_Table,λ_ h=>nomatch h⟩⟩⟩⟩⟩⟩,F7,qaE X G a7,F7.binds λ_ _ _ _ _ _ b a=>(by obtain⟨_,_,_,rfl⟩:=pe a;rfl),F8,qaE X G a8,F8.binds λ_ _ _ _ _ _ b a=>(by obtain⟨_,rfl⟩:=jP a;rfl),F9,qaE X G a9,F9.binds λ_ _ _ _ _ _ b a=>(by obtain⟨_,_,rfl⟩:=kA a;rfl),F10,qaE X G a10,F10.binds λ_ _ _ _ _ _ b a=>(by obtain⟨_,_,rfl⟩:=kA a;rfl),F11,qaE X G a11,F11.binds λ_ _ _ _ _ _ b a=>(by obtain⟨_,_,_,rfl⟩:=pe a;rfl),F12,qaE X G a12,F12.binds λ_ _ _ _ _ _ b a=>(by obtain⟨_,rfl⟩:=jP a;rfl),F13,qaE X G a13,F13.binds λ_ _ _ _ _ _ b a=>(by obtain⟨_,_,_,_,rfl⟩:=zY a;rfl),F14,qaE X G a14,F14.binds λ_ _ _ _ _ _ b a=>(by obtain⟨_,_,_,rfl⟩:=pe a;rfl),F15,qaE X G a15,F15.binds λ_ _ _ _ _ _ b a=>(by obtain⟨_,_,rfl⟩:=kA a;rfl),F16,qaE X G a16,F16.binds λ_ _ _ _ _ _ b a=>(by obtain⟨_,rfl⟩:=jP a;rfl),F17,qaE X G a17,F17.binds λ_ _ _ _ _ _ b a=>(by obtain⟨_,rfl⟩:=jP a;rfl),F18,qaE X G a18,F18.binds λ_ _ _ _ _ _ b a=>(by obtain⟨_,rfl⟩:=jP a;rfl),F19,qaE X G a19,F19.binds λ_ _ _ _ _ _ b a=>(by obtain⟨_,_,_,rfl⟩:=pe a;rfl),F20,qaE X G a20,F20.binds λ_ _ _ _ _ _ b a=>(by obtain⟨_,_,_,rfl⟩:=pe a;rfl),F21,qaE X G a21,F21.binds λ_ _ _ _ _ _ b a=>(by obtain⟨_,_,rfl⟩:=kA a;rfl),F22,qaE X G a22,F22.binds λ_ _ _ _ _ _ b a=>(by obtain⟨_,_,rfl⟩:=kA a;rfl),F23,qaE X G a23,F23.binds λ_ _ _ _ _ _ b a=>(by obtain⟨_,rfl⟩:=jP a;rfl),F24,qaE X G a24,F24.binds λ_ _ _ _ _ _ b a=>(by obtain⟨_,_,_,_,rfl⟩:=zY a;rfl),F25,qaE X G a25,F25.binds λ_ _ _ _ _ _ b a=>(by obtain⟨_,_,_,rfl⟩:=pe a;rfl),F26,qaE X G a26,F26.binds λ_ _ _ _ _ _ b a=>(by obtain⟨_,_,rfl⟩:=kA a;rfl),F27,qaE X G a27,F27.binds λ_ _ _ _ _ _ b a=>(by obtain⟨_,rfl⟩:=jP a;rfl),F28,qaE X G a28,F28.binds λ_ _ _ _ _ _ b a=>(by obtain⟨_,_,_,rfl⟩:=pe a;rfl),F29,qaE X G a29,F29.binds λ_ _ _ _ _ _ b a=>(by obtain⟨_,_,rfl⟩:=kA a;rfl),F30,qaE X G a30,F30.binds λ_ _ _ _ _ _ b a=>(by obtain⟨_,_,_,rfl⟩:=pe a;rfl),F31,qaE X G a31,F31.binds λ_ _ _ _ _ _ b a=>(by obtain⟨_,_,rfl⟩:=kA a;rfl),F32,qaE X G a32,F32.binds λ_ _ _ _ _ _ b a=>(by obtain⟨_,_,rfl⟩:=kA a;rfl),F33,qaE X G a33,F33.binds λ_ _ _ _ _ _ b a=>(by obtain⟨_,rfl⟩:=jP a;rfl),F34,qaE X G a34,F34.binds λ_ _ _ _ _ _ b a=>(by obtain⟨_,_,rfl⟩:=kA a;rfl),F35,qaE X G a35,F35.binds λ_ _ _ _ _ _ b a=>(by obtain⟨_,rfl⟩:=jP a;rfl),F36,qaE X G a36,F36.binds λ_ _ _ _ _ _ b a=>(by obtain⟨_,_,rfl⟩:=kA a;rfl),F37,qaE X G a37,F37.binds λ_ _ _ _ _ _ b a=>(by obtain⟨_,_,_,rfl⟩:=pe a;rfl),F38,qaE X G a38,F38.binds λ_ _ _ _ _ _ b a=>(by obtain⟨_,_,_,_,rfl⟩:=zY a;rfl),F39,qaE X G a39,F39.binds λ_ _ _ _ _ _ b a=>(by obtain⟨_,rfl⟩:=jP a;rfl),F40,qaE X G a40,F40.binds λ_ _ _ _ _ _ b a=>(by obtain⟨_,_,_,rfl⟩:=pe a;rfl),F41,qaE X G a41,F41.binds λ_ _ _ _ _ _ b a=>(by obtain⟨_,_,rfl⟩:=kA a;rfl),F42,qaE X G a42,F42.binds λ_ _ _ _ _ _ b a=>(by obtain⟨_,_,_,_,rfl⟩:=zY a;rfl),F43,qaE X G a43,F43.binds λ_ _ _ _ _ _ b a=>(by obtain⟨_,rfl⟩:=jP a;rfl),λx h=>PySem.W.mg_none_of X G (z x h)⟩,rfl⟩
def txt_ex {K:qae}{mg:Str->Option Value}{f:Addr} (h:∃ t,Txt K mg t/\t.f43=f):∃ t,Txt K mg t:=let ⟨t,a,_⟩:=h;⟨t,a⟩
def walk {l:qfj}{q:qaQ}{b:List Str}{XP:(Str->Option Value)->Heap->Prop}{YP:World->Heap->Prop}{d:DefRec}{K:Params->qae} (hn:l.most=some 63) (c:d.params.defaults=[])
  (j:∀ (w:World) (h:Heap),YP w h->(K w.params).In h)
  (F:∀ (w:World) (mg:Str->Option Value) (e:Addr) (h:Heap),(K w.params).In h->h.Ns qaA mg->mg d.name=some (.ref e)->
    ∃ fd:qau,(∀ (s:qak) (u:Value),qhj s fd ⟨[u],[]⟩ [("_law_script",u)])/\∀ base:Heap,(K w.params).In base->base.Ns qaA mg->ek l.prog w (K w.params) mg base CX0 7 e fd ["_law_script"] (spI (K w.params) pq)) :
  qhz q b XP YP l.row.toRowW d [] (λf vs=>qhb f vs):=
 L2.walk_of (n:=63) (k:=7) (x:="_law_script") (CX:=λ_=>CX0) (sp:=λw=>spI (K w.params) pq) hn (by decide) c ⟨rfl,by decide,by decide,rfl⟩ j F (λ_ _ a ns i g m=>BC g m (yo ns i)) λ_ _ _ _ _ z=>z
def law_mk {l:qfj}{w:World}{K:qae}{h:Heap}{mg:Str->Option Value}{b:Addr} (a:mg "law" = some (.ref b)) (T0:∃ t,Txt K mg t) :
  ∃ fd:qau,(∀ (s:qak) (v:Value),qhj s fd ⟨[v],[]⟩ [("_law_script",v)])/\∀ base:Heap,K.In base->base.Ns qaA mg->ek l.prog w K mg base CX0 7 b fd ["_law_script"] (spI K pq):=by
 obtain⟨t,T⟩:=T0;have e:=a.symm.trans T.m43;cases e;refine⟨t.g43,λs v=>?_,λbase _ _=>Cu T⟩;obtain⟨i,k,kV,d,j,g,f,ct,c,e,_⟩:=T.F43.ex;rw[e];exact .of_eq rfl
end Own
namespace PySem.W.Fast
theorem tw12950910950803359972:True:=⟨⟩
theorem tw1097658773670847209:True:=⟨⟩
theorem tw8095011355627128821:True:=⟨⟩
theorem tw19403425853278176:True:=⟨⟩
theorem tw18138783311317097665:True:=⟨⟩
theorem tw17631570961896763297:True:=⟨⟩
theorem tw16042770285518693018:True:=⟨⟩
theorem tw9018042397729392393:True:=⟨⟩
theorem tw10922784823090674905:True:=⟨⟩
theorem tw10389210244517064835:True:=⟨⟩
theorem tw9564020776872244633:True:=⟨⟩
theorem tw15096793052988999775:True:=⟨⟩
theorem tw17164295592156390607:True:=⟨⟩
theorem tw2581761057394711267:True:=⟨⟩
theorem tw12206584708040739168:True:=⟨⟩
theorem tw8302903374350573243:True:=⟨⟩
theorem tw3752703210004996557:True:=⟨⟩
theorem tw12869846138025862632:True:=⟨⟩
theorem tw4600881447838109879:True:=⟨⟩
theorem tw6813393858219856110:True:=⟨⟩
theorem tw1706017056109142122:True:=⟨⟩
theorem tw7972131076630477647:True:=⟨⟩
theorem tw8741835662838414647:True:=⟨⟩
theorem tw535055486580042103:True:=⟨⟩
theorem tw12130984053021426444:True:=⟨⟩
theorem tw8813296238246520696:True:=⟨⟩
theorem tw5042189702610404864:True:=⟨⟩
theorem tw1499442506229161240:True:=⟨⟩
theorem tw7092660070449077220:True:=⟨⟩
theorem tw5458512279759573449:True:=⟨⟩
theorem tw11561691686099169077:True:=⟨⟩
theorem tw14757220778907508256:True:=⟨⟩
theorem tw1409660425448868349:True:=⟨⟩
theorem tw16439112920613664750:True:=⟨⟩
theorem tw15092846169788556074:True:=⟨⟩
theorem tw14859045726621847229:True:=⟨⟩
theorem tw16425040556030356629:True:=⟨⟩
theorem tw5399377407475009480:True:=⟨⟩
theorem tw9182434729980400399:True:=⟨⟩
theorem tw2996396940933739563:True:=⟨⟩
theorem tw14518384312211354496:True:=⟨⟩
theorem tw16351243837627036821:True:=⟨⟩
theorem tw4448014971914712810:True:=⟨⟩
theorem tw7379355569839809694:True:=⟨⟩
theorem tw4021660989450025609:True:=⟨⟩
theorem tw1138659118912940116:True:=⟨⟩
theorem tw4890510111166210054:True:=⟨⟩
theorem tw5562916632682520056:True:=⟨⟩
theorem tw6532691052711574988:True:=⟨⟩
theorem tw6828754386796245993:True:=⟨⟩
theorem tw9127392239432148623:True:=⟨⟩
theorem tw9134785414466361993:True:=⟨⟩
theorem tw4881538938603881431:True:=⟨⟩
theorem tw5328510195112128918:True:=⟨⟩
theorem tw17306515863588334655:True:=⟨⟩
theorem tw8574071834416266342:True:=⟨⟩
theorem tw2979181269737931466:True:=⟨⟩
theorem tw17451754851299346389:True:=⟨⟩
theorem tw15743635882819234651:True:=⟨⟩
theorem tw9214802014963633776:True:=⟨⟩
theorem tw10687763011164553200:True:=⟨⟩
theorem tw10521331062641267478:True:=⟨⟩
theorem tw11731766451712810535:True:=⟨⟩
theorem tw8721388448018545932:True:=⟨⟩
theorem tw13669210867707123025:True:=⟨⟩
theorem tw15883229804891654157:True:=⟨⟩
theorem tw10936382562962493993:True:=⟨⟩
theorem tw12009133174742653259:True:=⟨⟩
theorem tw10094261010786382421:True:=⟨⟩
theorem tw17958431421242062158:True:=⟨⟩
theorem tw18009777937834308927:True:=⟨⟩
theorem tw11369610261394554602:True:=⟨⟩
theorem tw7619409650610749136:True:=⟨⟩
theorem tw13079796365553058655:True:=⟨⟩
theorem tw4808214436139838648:True:=⟨⟩
theorem tw4733290816571435306:True:=⟨⟩
theorem tw10277491148959070768:True:=⟨⟩
theorem tw8279814800730465033:True:=⟨⟩
theorem tw7145710410155618803:True:=⟨⟩
theorem tw17736293411074779969:True:=⟨⟩
theorem tw17541179920437271042:True:=⟨⟩
theorem tw7709634398618790287:True:=⟨⟩
theorem tw5415277360086903747:True:=⟨⟩
theorem tw4506851722187209973:True:=⟨⟩
theorem tw9622661428809081963:True:=⟨⟩
theorem tw7763161712778898241:True:=⟨⟩
theorem tw3295901209399172852:True:=⟨⟩
theorem tw7636881932892183949:True:=⟨⟩
theorem tw16116876286162319726:True:=⟨⟩
theorem tw3838311153400080646:True:=⟨⟩
theorem tw13093929285993132178:True:=⟨⟩
theorem tw400725518114110185:True:=⟨⟩
theorem tw16008164815838501042:True:=⟨⟩
theorem tw12760131976896325992:True:=⟨⟩
theorem tw11426542763424482027:True:=⟨⟩
theorem tw6855129155693142595:True:=⟨⟩
theorem tw4145738955392545728:True:=⟨⟩
theorem tw4624306871462415093:True:=⟨⟩
theorem tw10734855612894660967:True:=⟨⟩
theorem tw5666609290569123567:True:=⟨⟩
theorem tw11133169503483258670:True:=⟨⟩
theorem tw9665190570424847210:True:=⟨⟩
theorem tw10157817989525297459:True:=⟨⟩
theorem tw12653326714976424929:True:=⟨⟩
theorem tw713969011719761649:True:=⟨⟩
theorem tw6505552041962647801:True:=⟨⟩
theorem tw18043731603313451716:True:=⟨⟩
theorem tw6954278954545186697:True:=⟨⟩
theorem tw2596065322442345884:True:=⟨⟩
theorem tw215492404321371926:True:=⟨⟩
theorem tw13859679192958021845:True:=⟨⟩
theorem tw17836751289508003320:True:=⟨⟩
theorem tw8937090604749641673:True:=⟨⟩
theorem tw7821520540131552403:True:=⟨⟩
theorem tw10427316905007343300:True:=⟨⟩
theorem tw17984802313445252511:True:=⟨⟩
theorem tw17480941066711878949:True:=⟨⟩
theorem tw7293048544298336233:True:=⟨⟩
theorem tw12797095327255338185:True:=⟨⟩
theorem tw11752637226057819130:True:=⟨⟩
theorem tw17712870821921120262:True:=⟨⟩
theorem tw14380376067629503509:True:=⟨⟩
theorem tw2029002303544614795:True:=⟨⟩
theorem tw4764153189165245280:True:=⟨⟩
theorem tw18084512786309988977:True:=⟨⟩
theorem tw2855661644820686652:True:=⟨⟩
theorem tw15541128299652520290:True:=⟨⟩
theorem tw12626777336942455753:True:=⟨⟩
theorem tw2681681956701998024:True:=⟨⟩
theorem tw4657568348603275265:True:=⟨⟩
theorem tw7621828277281593047:True:=⟨⟩
theorem tw3318282160849201362:True:=⟨⟩
theorem tw14722106146611082636:True:=⟨⟩
theorem tw12113374596081802894:True:=⟨⟩
theorem tw808176572302959112:True:=⟨⟩
theorem tw67104184236948490:True:=⟨⟩
theorem tw8351224305313729286:True:=⟨⟩
theorem tw4840704908223357768:True:=⟨⟩
theorem tw3225081734423374519:True:=⟨⟩
theorem tw7939392198695594831:True:=⟨⟩
theorem tw5414108662935141058:True:=⟨⟩
theorem tw17642672881137243727:True:=⟨⟩
theorem tw2291836670519499141:True:=⟨⟩
theorem tw17989429174104711627:True:=⟨⟩
theorem tw8728446393981118282:True:=⟨⟩
theorem tw12825537531844275555:True:=⟨⟩
theorem tw12009029802930726580:True:=⟨⟩
theorem tw14593493786990531850:True:=⟨⟩
theorem tw4756226930894235800:True:=⟨⟩
theorem tw7739448931327912005:True:=⟨⟩
theorem tw10669450371615771922:True:=⟨⟩
theorem tw16317765580001907921:True:=⟨⟩
theorem tw14526021232665954347:True:=⟨⟩
theorem tw4712957128332365075:True:=⟨⟩
theorem tw17740239809118975446:True:=⟨⟩
theorem tw7875586957219947018:True:=⟨⟩
theorem tw7336593446703727314:True:=⟨⟩
theorem tw6703444119045364047:True:=⟨⟩
theorem tw8512877581926696041:True:=⟨⟩
theorem tw16133325005157564107:True:=⟨⟩
theorem tw8607324956566363291:True:=⟨⟩
theorem tw7034479653859832172:True:=⟨⟩
theorem tw9710128718832849893:True:=⟨⟩
theorem tw1777605721419027773:True:=⟨⟩
theorem tw4955214500997954820:True:=⟨⟩
theorem tw7647925230441726560:True:=⟨⟩
theorem tw13089913645394342288:True:=⟨⟩
theorem tw5534393480942883049:True:=⟨⟩
theorem tw12312908248005202184:True:=⟨⟩
theorem tw7289894904025822372:True:=⟨⟩
theorem tw12702995466018610622:True:=⟨⟩
theorem tw6193032310985905873:True:=⟨⟩
theorem tw2642597335426560315:True:=⟨⟩
theorem tw12012546909277467332:True:=⟨⟩
theorem tw1854736364498523264:True:=⟨⟩
end PySem.W.Fast
open PySem PySem.W PyProof.Rows
set_option maxRecDepth 100000 in
set_option maxHeartbeats 0 in
theorem PySem.Challenge.cw_signpoly_k30_splits_told_holds : PySem.Challenge.rw_signpoly_k30_splits_told.Holds := by
 w_on;o_law;k_head;(case hw=>w_witness2)
 k_fill
 refine Own.walk (l:=PySem.Challenge.rw_signpoly_k30_splits_told) rfl rfl (λw h Y=>PySem.W.kIn_of Y) ?F
 case F=>
  intro w mg b h KX G a;refine Own.law_mk (h:=h) a ?T
  case T=>
   refine' Own.txt_ex (Own.txt_mk KX G ?a0 ?F0 ?a1 ?F1 ?a2 ?F2 ?a3 ?F3 ?a4 ?F4 ?a5 ?F5 ?cm_Table ?a6 ?F6 ?a7 ?F7 ?a8 ?F8 ?a9 ?F9 ?a10 ?F10 ?a11 ?F11 ?a12 ?F12 ?a13 ?F13 ?a14 ?F14 ?a15 ?F15 ?a16 ?F16 ?a17 ?F17 ?a18 ?F18 ?a19 ?F19 ?a20 ?F20 ?a21 ?F21 ?a22 ?F22 ?a23 ?F23 ?a24 ?F24 ?a25 ?F25 ?a26 ?F26 ?a27 ?F27 ?a28 ?F28 ?a29 ?F29 ?a30 ?F30 ?a31 ?F31 ?a32 ?F32 ?a33 ?F33 ?a34 ?F34 ?a35 ?F35 ?a36 ?F36 ?a37 ?F37 ?a38 ?F38 ?a39 ?F39 ?a40 ?F40 ?a41 ?F41 ?a42 ?F42 ?a43 ?F43 ?z ?mk0_Table ?mk2_Table ?mk3_Table ?cl0_Table ?cl1_Table ?cl2_Table ?cl3_Table ?na0_Table ?na1_Table ?na2_Table ?na3_Table ?na4_Table ?na5_Table)
   case a0=>k_is
   case F0=>refine' L2.fun_mk ?l ?c ?k;(case l=>k_is);(case c=>k_is);case k=>k_is
   case a1=>k_is
   case F1=>refine' L2.fun_mk ?l ?c ?k;(case l=>k_is);(case c=>k_is);case k=>k_is
   case a2=>k_is
   case F2=>refine' L2.fun_mk ?l ?c ?k;(case l=>k_is);(case c=>k_is);case k=>k_is
   case a3=>k_is
   case F3=>refine' L2.fun_mk ?l ?c ?k;(case l=>k_is);(case c=>k_is);case k=>k_is
   case a4=>k_is
   case F4=>refine' L2.fun_mk ?l ?c ?k;(case l=>k_is);(case c=>k_is);case k=>k_is
   case a5=>k_is
   case F5=>refine' L2.fun_mk ?l ?c ?k;(case l=>k_is);(case c=>k_is);case k=>k_is
   case cm_Table=>k_is
   case a6=>k_is
   case F6=>refine' L2.fun_mk ?l ?c ?k;(case l=>k_is);(case c=>k_is);case k=>k_is
   case a7=>k_is
   case F7=>refine' L2.fun_mk ?l ?c ?k;(case l=>k_is);(case c=>k_is);case k=>k_is
   case a8=>k_is
   case F8=>refine' L2.fun_mk ?l ?c ?k;(case l=>k_is);(case c=>k_is);case k=>k_is
   case a9=>k_is
   case F9=>refine' L2.fun_mk ?l ?c ?k;(case l=>k_is);(case c=>k_is);case k=>k_is
   case a10=>k_is
   case F10=>refine' L2.fun_mk ?l ?c ?k;(case l=>k_is);(case c=>k_is);case k=>k_is
   case a11=>k_is
   case F11=>refine' L2.fun_mk ?l ?c ?k;(case l=>k_is);(case c=>k_is);case k=>k_is
   case a12=>k_is
   case F12=>refine' L2.fun_mk ?l ?c ?k;(case l=>k_is);(case c=>k_is);case k=>k_is
   case a13=>k_is
   case F13=>refine' L2.fun_mk ?l ?c ?k;(case l=>k_is);(case c=>k_is);case k=>k_is
   case a14=>k_is
   case F14=>refine' L2.fun_mk ?l ?c ?k;(case l=>k_is);(case c=>k_is);case k=>k_is
   case a15=>k_is
   case F15=>refine' L2.fun_mk ?l ?c ?k;(case l=>k_is);(case c=>k_is);case k=>k_is
   case a16=>k_is
   case F16=>refine' L2.fun_mk ?l ?c ?k;(case l=>k_is);(case c=>k_is);case k=>k_is
   case a17=>k_is
   case F17=>refine' L2.fun_mk ?l ?c ?k;(case l=>k_is);(case c=>k_is);case k=>k_is
   case a18=>k_is
   case F18=>refine' L2.fun_mk ?l ?c ?k;(case l=>k_is);(case c=>k_is);case k=>k_is
   case a19=>k_is
   case F19=>refine' L2.fun_mk ?l ?c ?k;(case l=>k_is);(case c=>k_is);case k=>k_is
   case a20=>k_is
   case F20=>refine' L2.fun_mk ?l ?c ?k;(case l=>k_is);(case c=>k_is);case k=>k_is
   case a21=>k_is
   case F21=>refine' L2.fun_mk ?l ?c ?k;(case l=>k_is);(case c=>k_is);case k=>k_is
   case a22=>k_is
   case F22=>refine' L2.fun_mk ?l ?c ?k;(case l=>k_is);(case c=>k_is);case k=>k_is
   case a23=>k_is
   case F23=>refine' L2.fun_mk ?l ?c ?k;(case l=>k_is);(case c=>k_is);case k=>k_is
   case a24=>k_is
   case F24=>refine' L2.fun_mk ?l ?c ?k;(case l=>k_is);(case c=>k_is);case k=>k_is
   case a25=>k_is
   case F25=>refine' L2.fun_mk ?l ?c ?k;(case l=>k_is);(case c=>k_is);case k=>k_is
   case a26=>k_is
   case F26=>refine' L2.fun_mk ?l ?c ?k;(case l=>k_is);(case c=>k_is);case k=>k_is
   case a27=>k_is
   case F27=>refine' L2.fun_mk ?l ?c ?k;(case l=>k_is);(case c=>k_is);case k=>k_is
   case a28=>k_is
   case F28=>refine' L2.fun_mk ?l ?c ?k;(case l=>k_is);(case c=>k_is);case k=>k_is
   case a29=>k_is
   case F29=>refine' L2.fun_mk ?l ?c ?k;(case l=>k_is);(case c=>k_is);case k=>k_is
   case a30=>k_is
   case F30=>refine' L2.fun_mk ?l ?c ?k;(case l=>k_is);(case c=>k_is);case k=>k_is
   case a31=>k_is
   case F31=>refine' L2.fun_mk ?l ?c ?k;(case l=>k_is);(case c=>k_is);case k=>k_is
   case a32=>k_is
   case F32=>refine' L2.fun_mk ?l ?c ?k;(case l=>k_is);(case c=>k_is);case k=>k_is
   case a33=>k_is
   case F33=>refine' L2.fun_mk ?l ?c ?k;(case l=>k_is);(case c=>k_is);case k=>k_is
   case a34=>k_is
   case F34=>refine' L2.fun_mk ?l ?c ?k;(case l=>k_is);(case c=>k_is);case k=>k_is
   case a35=>k_is
   case F35=>refine' L2.fun_mk ?l ?c ?k;(case l=>k_is);(case c=>k_is);case k=>k_is
   case a36=>k_is
   case F36=>refine' L2.fun_mk ?l ?c ?k;(case l=>k_is);(case c=>k_is);case k=>k_is
   case a37=>k_is
   case F37=>refine' L2.fun_mk ?l ?c ?k;(case l=>k_is);(case c=>k_is);case k=>k_is
   case a38=>k_is
   case F38=>refine' L2.fun_mk ?l ?c ?k;(case l=>k_is);(case c=>k_is);case k=>k_is
   case a39=>k_is
   case F39=>refine' L2.fun_mk ?l ?c ?k;(case l=>k_is);(case c=>k_is);case k=>k_is
   case a40=>k_is
   case F40=>refine' L2.fun_mk ?l ?c ?k;(case l=>k_is);(case c=>k_is);case k=>k_is
   case a41=>k_is
   case F41=>refine' L2.fun_mk ?l ?c ?k;(case l=>k_is);(case c=>k_is);case k=>k_is
   case a42=>k_is
   case F42=>refine' L2.fun_mk ?l ?c ?k;(case l=>k_is);(case c=>k_is);case k=>k_is
   case a43=>k_is
   case F43=>refine' L2.fun_mk ?l ?c ?k;(case l=>k_is);(case c=>k_is);case k=>k_is
   case z=>(iterate 16 (refine qca.2 ⟨by k_is,?_⟩));intro _ h;cases h
   case mk0_Table=>kernel_rfl
   case mk2_Table=>kernel_rfl
   case mk3_Table=>kernel_rfl
   case cl0_Table=>kernel_rfl
   case cl1_Table=>kernel_rfl
   case cl2_Table=>kernel_rfl
   case cl3_Table=>kernel_rfl
   case na0_Table=>kernel_rfl
   case na1_Table=>kernel_rfl
   case na2_Table=>kernel_rfl
   case na3_Table=>kernel_rfl
   case na4_Table=>kernel_rfl
   case na5_Table=>kernel_rfl
