import PyProof.Rows.All
import Wide.All
import OpenK.AllK
import Wide.FinOn
import Lean
import PyProof.EqAt
import PyProof.EqKinds
import PyProof.TupleCall
import PyProof.ListRange
import PyProof.NeKinds
import KE.KUnpack
import KE.KSortTup
import PyProof.ZipIter
import PyProof.Rows.CallKwBuiltin
import KE.KFind
import KE.KDictLaws
import KE.KDictList
import PyProof.SetKind
import PyProof.SetRoads
import PyProof.Rows.SetFrom
import PyProof.WalksMore
import PyProof.Rows.SortStr
import KE.KTupSum
import PySem.Challenge.RW_signpoly_k35_told_or_barred
set_option Elab.async false
set_option linter.all false
set_option maxRecDepth 100000
set_option genSizeOf false
noncomputable section
open And renaming right -> qgD, left -> qhi
open Array renaming getElem?_eq_getElem -> qbR, length_toList -> qc7, getElem?_eq_none -> qdm, getElem_toList -> qeB, perm_iff_toList_perm -> qfG, toList -> qgl, getElem?_toList -> qgm
open Bool renaming false_ne_true -> qaL, false_eq_true -> qa7, and_eq_true -> qba, not_eq_true -> qeg, eq_iff_iff -> qes, or_eq_true -> qhE, and_true -> qh9, and_self -> qia, true_or -> qiv
open Decidable renaming byContradiction -> qff
open False renaming elim -> qcw
open Int renaming mul_left_comm -> qaT, mul_comm -> qaZ, mul_zero -> qa3, toNat_natCast -> qbp, mul_right_comm -> qbs, mul_assoc -> qbt, zero_mul -> qbW, zero_add -> qch, mul_eq_zero -> qcm, reduceNeg -> qco, mul_add -> qcp, mul_sub -> qcD, le_refl -> qcE, ofNat_dvd_left -> qcK, natAbs_mul -> qc6, one_mul -> qda, mul_one -> qdb, eq_ofNat_of_zero_le -> qdk, neg_mul -> qdx, mul_nonneg -> qdB, mul_le_mul_of_nonneg_left -> qdF, mul_ediv_cancel' -> qdH, mul_lt_mul_of_pos_right -> qdL, ediv_nonneg -> qdM, lt_of_mul_lt_mul_right -> qdQ, fdiv_eq_ediv_of_nonneg -> qdR, lt_or_eq_of_le -> qdT, emod_lt_of_pos -> qdU, add_zero -> qdV, eq_of_mul_eq_mul_left -> qdZ, add_mul -> qef, emod_nonneg -> qeA, mul_le_mul_of_nonneg_right -> qfm, le_trans -> qfn, sub_mul -> qfO, mul_neg -> qfP, eq_of_mul_eq_mul_right -> qfX, mul_neg_of_pos_of_neg -> qf4, mul_ediv_cancel_left -> qga, sub_zero -> qgB, le_of_lt -> qgC, natAbs_neg -> qh3, reduceLT -> qjj, mul_pos -> qjC
open List renaming mem_cons_self -> qaf, length_map -> qag, mem_cons_of_mem -> qak, getElem?_eq_getElem -> qal, range -> qam, length_cons -> qan, mem_singleton -> qao, map_cons -> qar, getElem?_eq_some_iff -> qas, length_range -> qat, mem_append_right -> qau, getD_cons_zero -> qax, getElem?_map -> qay, length_append -> qaz, mem_cons -> qaA, getD_cons_succ -> qaB, getD_eq_getElem?_getD -> qaC, getElem?_eq_none -> qaD, getElem?_append_left -> qaE, replicate -> qaG, size_toArray -> qaI, getElem?_append_right -> qaK, mem_map -> qaM, map_map -> qaO, mem_range -> qaQ, mem_append -> qaS, mem_append_left -> qaX, all_eq_true -> qa2, replicate_zero -> qa4, replicate_succ -> qa5, set_cons_zero -> qa6, length_nil -> qa8, cons_append -> qbc, getElem?_range -> qbf, nil_append -> qbn, pairwise_cons -> qbo, getElem?_set_self -> qbq, set_cons_succ -> qbr, lookup_cons -> qbx, ext_getElem? -> qbz, map_nil -> qbA, getElem?_set_ne -> qbB, all_cons -> qbD, not_mem_nil -> qbJ, getElem_mem -> qbK, append_assoc -> qbM, map_append -> qbS, length_singleton -> qbU, append_nil -> qb0, mem_of_getElem? -> qb2, length_set -> qb6, any_cons -> qcf, nodup_cons -> qci, mem_filter -> qcj, map_congr_left -> qck, sum_cons -> qcn, nodup_append -> qcy, take_of_length_le -> qcG, length_replicate -> qcO, mem_iff_getElem -> qcS, forall_mem_cons -> qcT, nodup_nil -> qcW, getElem?_eq_none_iff -> qcX, drop_eq_getElem_cons -> qcY, length_take -> qc5, zip_cons_cons -> qdf, getElem?_replicate -> qdg, find?_cons -> qdh, range_succ_eq_map -> qdp, pairwise_map -> qdr, mapM_toArray -> qds, take_left -> qdw, mem_iff_getElem? -> qdy, length_filter_le -> qdz, take_length -> qdD, getElem_inj -> qdE, mem_map_of_mem -> qdJ, lookup -> qdK, getElem?_take_of_lt -> qd2, filter_cons_of_pos -> qd9, filter_cons_of_neg -> qea, length_drop -> qec, filter_cons -> qed, any_eq_true -> qee, find?_cons_of_pos -> qeh, find?_cons_of_neg -> qei, range_succ -> qep, range' -> qeH, filterMap_cons -> qeI, mem_filterMap -> qeX, any_eq_false -> qe5, set_set -> qfc, nil_sublist -> qfj, all_toArray -> qfk, of_mem_zip -> qfC, getD -> qfD, forIn_cons -> qfE, pairwise_iff_getElem -> qfV, sublist_append_left -> qf3, pairwise_singleton -> qf7, map -> qf8, idxOf?_eq_some_iff -> qf9, filter_eq_nil_iff -> qgk, all_map -> qgr, replicate_succ' -> qgz, range_eq_range' -> qgA, map_id -> qgJ, length_pos_iff -> qgK, length -> qgL, flatten_append -> qgM, filter_sublist -> qgN, filter_eq_self -> qgO, getElem_range -> qg4, take_add_one -> qhc, push_toArray -> qhd, flatten_cons -> qhe, filter_congr -> qhf, Nodup -> qhg, zipIdx_cons -> qht, isEmpty_iff -> qhu, getElem_map -> qhv, drop_length -> qhw, zipIdx_nil -> qhD, forIn_nil -> qhN, drop_zero -> qhO, perm_nil -> qh2, foldl -> qjB
open List.Pairwise renaming sublist -> qim, map -> qin
open List.Perm renaming refl -> qdi, eq_of_pairwise -> qfl
open List.Sublist renaming refl -> qdG
open Nat renaming le_refl -> qap, ne_of_lt -> qaF, add_sub_cancel_left -> qaH, zero_add -> qaR, lt_of_lt_of_le -> qaV, le_trans -> qaY, lt_irrefl -> qa9, lt_succ_of_lt -> qbe, reduceSub -> qbE, lt_of_le_of_lt -> qbQ, reduceAdd -> qb1, lt_succ_self -> qb3, pow_le_pow_right -> qce, ne_of_gt -> qcg, zero_le -> qcl, mul_le_mul_right -> qcx, le_succ -> qcB, add_sub_cancel -> qcI, not_lt_zero -> qcP, mul_le_mul -> qc4, le_add_right -> qc8, le_of_eq -> qdC, two_pow_pos -> qew, sub_self -> qex, lt_trans -> qey, le_of_lt -> qez, pow_pos -> qeS, lt_or_ge -> qfi, gcd -> qfN, testBit_lt_two_pow -> qgq, mul_comm -> qgx, add_comm -> qgy, pow_add -> qg3, not_lt -> qhs, succ_ne_self -> qhz, reduceLeDiff -> qhA, mod_eq_of_lt -> qhB, min_eq_right -> qhC, min_eq_left -> qhM, dvd_trans -> qil, sub_zero -> qjf, le_total -> qjg, gcd_comm -> qjh, add_zero -> qji, pow_mul -> qjy, one_mul -> qjz, add_mul -> qjA
open Ne renaming symm -> qbL
open Option renaming bind_some -> qaa, bind_eq_some_iff -> qab, map_eq_some_iff -> qad, map_some -> qah, isSome_iff_exists -> qcs, getD_none -> qg2
open Option.some renaming inj -> qaP, injEq -> qev
open Prod renaming fst -> qc3, snd -> qfy
open PyProof.Rows renaming boot_list -> qaU, boot_isinstance -> qaW, boot_sorted -> qa1, boot_tuple -> qbb, boot_bool -> qbd, boot_sum -> qbg, boot_str -> qbh, boot_min -> qbi, boot_int -> qbj, boot_any -> qbk, boot_all -> qbl, boot_abs -> qbm, wpS_bind -> qby, slot_tuple_getitem -> qbG, SortSt -> qbZ, wpS_pure -> qb9, callWith_type1 -> qca, IntsAre -> qcC, SortKind -> qdd, wpS_forRange -> qd6, lt_int -> qd8, envOfC -> qel, pendingOf -> qeN, boot_range -> qe4, KeyOrd -> qe6, AllBare -> qfh, seqObj -> qfu, wpS_modify -> qgE, wpS_get -> qgS, listUpdate_at -> qgX, failedOf -> qgY, subscriptTail_builtinR -> qg7, seqEpoch_at -> qhH, keyKind'_eq -> qhI, getElem?_mirror_all -> qhJ, entry_tuple_getitem -> qhK, wpS_mono -> qhS, oneType' -> qhU, keyKind' -> qhV, gallopOf -> qhW, args_tuple_getitem -> qhY, size_push' -> qif, Subscript_ -> qii, truthy_int -> qjc, envOfC -> qjd, callWith_builtin1 -> qje, sortedAll -> qjn, oneTypeOnly'_eq -> qjq, mirror -> qjr, getElem?_bubble -> qjt, entry_list_sort -> qju, slot_list_sort -> qjF, slicePart_none -> qjG, boot_enumerate -> qjK, args_list_sort -> qjL
open PyProof.Rows.KeyOrd renaming kle_refl -> qcJ, kle_of_klt -> qdl, kle_trans -> qdA, kle_antisymm -> qgs
open PyProof.Rows.SortSt renaming mk' -> qij
open PySem renaming wpAny_bind -> qac, Shared -> qaj, wpAny_pure -> qaq, sizeLine -> qaJ, Program -> qaN, Around -> qa0, boot_len -> qbu, mem_of_lookup -> qbw, starEach -> qbC, Spec -> qbF, binaryOp -> qbH, IntMulOk -> qbI, compareOp -> qbN, wpAny_callSpecial?_slot -> qbO, wpAny_call_entry -> qbV, foldedSetIterable -> qbX, assignEach -> qbY, NameKind -> qb4, FuncData -> qb5, wpAny_field -> qb7, mainGlobals -> qb8, bootBuiltins -> qcb, wpAny_mono -> qcq, sysModules -> qcr, wpAny_holding -> qct, swapsWith -> qcu, cellsFrom -> qcv, wpAny_typeNameOfWhole_keyiter -> qcL, wpAny_seqItems -> qcN, wpAny_setField_rec -> qcQ, wpAny_pyIter_tuple -> qcR, wpAny_passesOwn -> qcU, pushCells_keeps -> qcV, wpAny_truthy_bool -> qc0, wpAny_newObj_type -> qc1, call_meets -> qc2, sizeLine_eq -> qdj, attributeBase -> qdv, sliceBounds -> qdW, DictEntry -> qd0, wpAny_Call_Name_kw -> qd7, wpAny_rule -> qej, wpAny_pyIter_enum -> qek, wpAny_attempt -> qet, wpAny_ite_false -> qeK, wpAny_execs_nil -> qeL, pushCells -> qeM, getItem -> qeO, backTo -> qeP, wpAny_updateSeq_pair -> qeY, list_append -> qeZ, wpAny_setField -> qe3, codeAny -> qe7, Builtin -> qfg, wpAny_standAt -> qfp, wpAny_onRaise -> qfq, wpAny_newList -> qfr, swapsWithSole -> qfs, swappedStores -> qft, behindInMarks -> qfv, wpAny_pyIter_list -> qfH, wpAny_dictEntries -> qfI, typeIs_int -> qfJ, holding -> qfK, codeAny_mono -> qfR, assign -> qfS, Paired -> qfU, IsPart -> qfW, noFill_tuple_add -> qfZ, wpAny_dictEpoch -> qgc, tupleKind -> qgd, subscripted -> qge, rawInt -> qgf, letOwnedTupleGo -> qgg, keywordEach -> qgh, Within -> qgj, intBits_le_iff -> qgn, wpAny_binaryOp_repeat_ref -> qgt, wpAny_comprehension_free -> qgF, pyNext -> qgG, builtinsNs -> qgH, IsPair -> qgP, wpAny_pyNext_enum_itemD -> qgT, valueAt -> qgU, seq_tuple_add -> qgV, rangeSize_one -> qgW, compEnvC -> qgZ, callerA -> qg0, call -> qg1, IntMulOk -> qg5, BindsTo -> qg6, richCompare_meets_room -> qg8, codeAny_compStart_list -> qg9, wpAny_typeOf -> qhj, wpAny_isOneOf_keyiter -> qhk, seqIndex_neg -> qhl, concat_meets -> qhm, PassesOwn -> qhq, wpAny_letGo -> qhF, seqIndex_of -> qhG, Keyword -> qhP, tupleKind_room_in1 -> qhT, backToKw -> qhX, GenState -> qh5, wpAny_sequenceKey -> qib, wpAny_assign_Name -> qic, wpAny_Name -> qid, slot_list_getitem -> qie, wpAny_pyIter_zip -> qiw, wpAny_isInstance -> qix, wpAny_forIn_list -> qiy, wpAny_execs_cons -> qiz, standAt -> qjm, setItem -> qjo, pyIter -> qjp, isTrue -> qjs, codeAny_builtin -> qjv, Result -> qjw, wpAny_newTuple -> qjD, wpAny_fieldsOf -> qjE, recursionLimit -> qjH, isSubtype_stop -> qjI, firstArgMember -> qjJ
open PySem.Around renaming under -> qgb
open PySem.AutoSeq1 renaming sub_tuple_tuple -> qfA
open PySem.Builtin renaming bitAnd -> qcd
open PySem.Builtin.Dict renaming showsAll -> qfo
open PySem.Builtin.List renaming listTooLong -> qe2
open PySem.Builtin.Range renaming rangeFitsLong -> qeF, rangeSize -> qe1, small -> qiu
open PySem.Builtin.Slice renaming slicePlaces -> qcH, sliceAdjust -> qeU, slicePartIndex -> qis, sliceApplied -> qit
open PySem.Builtin.SmallTypes renaming nextOf -> qcA, ownedTupleHandOut -> qdN, ownedTupleIsFree -> qhh
open PySem.Builtin.Tuple renaming tupleCompareSizes -> qem, tupleItemsOf -> qeJ, tupleTooMany -> qir
open PySem.Calls renaming Name_function_global -> qfF, call_function_entry -> qfQ
open PySem.Code renaming isGuard -> qip, isFrame -> qiq, frames -> qjl
open PySem.Draws renaming list -> qjk
open PySem.Env renaming kindOf -> qkO
open PySem.F renaming slot_dict_keyiterator_next -> qbT, slot_tuple_iterator_next -> qcZ, slot_tuple_lt -> qdo, args_tuple_add_2 -> qdP, entry_tuple_add -> qdX, args_tuple_lt_2 -> qdY, slot_tuple_add -> qd3, entry_tuple_lt -> qd4, args_dict_keyiterator_next_1 -> qeo, slot_tuple_mul -> qer, entry_dict_keyiterator_next -> qeu, slot_zip_next -> qeD, slot_int_rmul -> qeE, args_list_append_2 -> qeT, entry_list_append -> qe0, slot_list_append -> qfd, args_tuple_mul_2 -> qfe, entry_tuple_mul -> qfz, slot_list_index -> qfL, plainAttrs_list -> qfM, slot_dict_iter -> qfT, args_tuple_iterator_next_1 -> qfY, entry_tuple_iterator_next -> qf5, args_zip_next_1 -> qhQ, args_int_rmul_2 -> qhR, slot_int_index -> qh6, entry_zip_next -> qh7, entry_int_rmul -> qh8, fills_int_mul -> qio
open PySem.Heap renaming get?_push_of_some -> qai, get?_push_size -> qav, lt_size -> qaw, size_push -> qbv, SameBut -> qdc, get?_update_other -> qdq, get?_push_ne -> qdt, get?_update_self -> qeq, get?_update_ne -> qgQ, ExtBut -> qgR, size_update -> qhx
open PySem.Heap.IsSliceOf renaming new -> qh4
open PySem.Heap.SameBut renaming update -> qdu
open PySem.IntMulOk renaming of_le -> qh0
open PySem.IsL renaming update -> qeR
open PySem.Obj renaming mapSeq -> qcF, data_mapFields -> qdS, isFreed_of_fields -> qgw, cls_mapFields -> qhr
open PySem.Paired renaming length -> qeG, snoc -> qh1
open PySem.PassesOwn renaming never -> qd5
open PySem.SeqAt renaming EqAt -> qdn, ne_of_list_tuple -> qf6, in_tupleAt -> qha, in_listAt -> qhn, RcNeAt -> qhZ, RcAt -> qja, list_indexAt -> qjx
open PySem.SeqAt.EqAt renaming of_refs -> qen, same -> qeW, str_int -> qf0, int_str -> qf1, int_int -> qf2, tuple_str -> qkk, tuple_none -> qkl, tuple_list -> qkm, tuple_int -> qkn, tuple_bool -> qko, str_tuple -> qkp, str_str -> qkq, str_none -> qkr, str_list -> qks, str_bool -> qkt, none_tuple -> qku, none_str -> qkv, none_list -> qkw, none_int -> qkx, none_bool -> qky, list_tuple -> qkz, list_str -> qkA, list_none -> qkB, list_int -> qkC, list_bool -> qkD, int_tuple -> qkE, int_none -> qkF, int_list -> qkG, int_bool -> qkH, bool_tuple -> qkI, bool_str -> qkJ, bool_none -> qkK, bool_list -> qkL, bool_int -> qkM, bool_bool -> qkN
open PySem.SeqAt.RcAt renaming tuples -> qeC, lists_lengths -> qe8, lists -> qgi, tuple_str -> qjM, tuple_none -> qjN, tuple_list -> qjO, tuple_int -> qjP, tuple_bool -> qjQ, str_tuple -> qjR, str_str -> qjS, str_none -> qjT, str_list -> qjU, str_int -> qjV, str_bool -> qjW, none_tuple -> qjX, none_str -> qjY, none_none -> qjZ, none_list -> qj0, none_int -> qj1, none_bool -> qj2, list_tuple -> qj3, list_str -> qj4, list_none -> qj5, list_int -> qj6, list_bool -> qj7, int_tuple -> qj8, int_str -> qj9, int_none -> qka, int_list -> qkb, int_int -> qkc, int_bool -> qkd, bool_tuple -> qke, bool_str -> qkf, bool_none -> qkg, bool_list -> qkh, bool_int -> qki, bool_bool -> qkj
open PySem.SeqAt.RcNeAt renaming tuples -> qfB, tuple_str -> qiA, tuple_none -> qiB, tuple_list -> qiC, tuple_int -> qiD, tuple_bool -> qiE, str_tuple -> qiF, str_str -> qiG, str_none -> qiH, str_list -> qiI, str_int -> qiJ, str_bool -> qiK, none_tuple -> qiL, none_str -> qiM, none_none -> qiN, none_list -> qiO, none_int -> qiP, none_bool -> qiQ, lists_lengths -> qiR, lists -> qiS, list_tuple -> qiT, list_str -> qiU, list_none -> qiV, list_int -> qiW, list_bool -> qiX, int_tuple -> qiY, int_str -> qiZ, int_none -> qi0, int_list -> qi1, int_int -> qi2, int_bool -> qi3, bool_tuple -> qi4, bool_str -> qi5, bool_none -> qi6, bool_list -> qi7, bool_int -> qi8, bool_bool -> qi9
open PySem.Value renaming isStrOf -> qhL, isInt -> qih
open PySem.W renaming Frag -> qae, kia_one -> qbP, findIn -> qcc, keepIn -> qcz, emptyDict -> qcM, instObj -> qc9, cellsFrom_some -> qde, fnOf -> qdI, hasDictIn -> qdO, plainGet -> qd1, nsIn -> qeb, plainOver -> qeQ, takerIn -> qe9, makesIn -> qfa, OpenLaw -> qfb, lookIn -> qfw, codeIn -> qfx, kitx_tuple -> qgo, callWith_K -> qgp, kitx_list -> qgu, kitx_dict -> qgv, handedIn -> qgI, kitOne -> qhb, mg_of -> qho, WalkO -> qhp, isFn -> qhy
open PySem.W.Looks renaming here -> qik
open PySem.W.WShape renaming has -> qig
open PySem.WalksT renaming enumerateD -> qeV
open PySem.Within renaming cons -> qjb
def U{α:Sort u}{a:α}:a=a:=rfl
def iFN{c:Prop}[d:Decidable c](h:¬c){α:Sort u}{t e:α}:ite c t e=e:=if_neg h
def iFP{c:Prop}[d:Decidable c](h:c){α:Sort u}{t e:α}:ite c t e=t:=if_pos h
namespace L2
open PySem PySem.Spec PyProof.Rows
abbrev Key:=Sum Int Str
def ow:Key->Value->Bool
 |.inl k,v=>qih k v
 |.inr x,v=>qhL x v
def FM (w:World):Key->Int
 |.inl k=>hashInt k
 |.inr x=>hashStr w x
def bG:∀ {k:Key}{v:Value},ow k v=true->(∃ i t,k=Sum.inl i/\v=Value.int i t)\/(∃ x t,k=Sum.inr x/\v=Value.str x t)
 |.inl i,v,h=>by
  obtain⟨t,e⟩:=Value.isInt_shape h;exact .inl ⟨i,t,U,e⟩
 |.inr x,v,h=>by
  obtain⟨t,e⟩:=Value.isStrOf_shape h;exact .inr ⟨x,t,U,e⟩
def wY (i:Int) (t:Tok):ow (.inl i) (.int i t)=true:=by simp[ow,qih]
def wZ (x:Str) (t:Tok):ow (.inr x) (.str x t)=true:=by simp[ow,qhL]
def Cy (a b:Int):decide ((Sum.inl a:Key)=Sum.inl b)=(a==b):=by
 by_cases e:a=b
 ·subst e;simp
 ·rw[decide_eq_false (λq=>e (Sum.inl.inj q))]
  exact (beq_eq_false_iff_ne.mpr e).symm
def CB (a b:Str):decide ((Sum.inr a:Key)=Sum.inr b)=decide (a=b):=by
 by_cases e:a=b
 ·simp
 ·rw[decide_eq_false (λq=>e (Sum.inr.inj q)),decide_eq_false e]
def Cz (a:Int) (b:Str):decide ((Sum.inl a:Key)=Sum.inr b)=false:=decide_eq_false (λq=>nomatch q)
def CA (a:Str) (b:Int):decide ((Sum.inr a:Key)=Sum.inl b)=false:=decide_eq_false (λq=>nomatch q)
def bY (prog:qaN) (w:World):PySem.KeyKind prog w Key where
 is:=ow
 hash:=FM w
 inj:=λv a b f hb=>by
  rcases bG f with⟨i,t,rfl,rfl⟩|⟨x,t,rfl,rfl⟩
  ·rcases bG hb with⟨j,u,rfl,e⟩|⟨y,u,rfl,e⟩
   ·injection e with c _;rw[c]
   ·exact nomatch e
  ·rcases bG hb with⟨j,u,rfl,e⟩|⟨y,u,rfl,e⟩
   ·exact nomatch e
   ·injection e with c _;rw[c]
 byValue:=λk v h=>by
  rcases bG h with⟨i,t,rfl,rfl⟩|⟨x,t,rfl,rfl⟩<;>rfl
 pyHash:=λd h=>by
  rcases bG d with⟨i,t,rfl,rfl⟩|⟨x,t,rfl,rfl⟩
  ·exact wpAny_pyHash_int h
  ·exact wpAny_pyHash_str h
 eqBool:=λg d h=>by
  rcases bG g with⟨i,t,rfl,rfl⟩|⟨x,t,rfl,rfl⟩
  ·rcases bG d with⟨j,u,rfl,rfl⟩|⟨y,u,rfl,rfl⟩
   ·rw[Cy]at h;exact wpAny_eqBool_int h
   ·rw[Cz]at h;exact qf1 i t y u _ _ _ _ h
  ·rcases bG d with⟨j,u,rfl,rfl⟩|⟨y,u,rfl,rfl⟩
   ·rw[CA]at h;exact qf0 x t j u _ _ _ _ h
   ·rw[CB]at h;exact wpAny_eqBool_str h
 «strs»:=λk x t v h=>by
  rcases bG h with⟨i,u,rfl,e⟩|⟨y,u,rfl,e⟩
  ·exact nomatch e
  ·injection e with c _
   subst c;cases v<;>rfl
def sh (prog:qaN) (w:World) (i:Int) (t:Tok):(bY prog w).is (.inl i) (.int i t)=true:=wY i t
def si (prog:qaN) (w:World) (x:Str) (t:Tok):(bY prog w).is (.inr x) (.str x t)=true:=wZ x t
inductive V where
 |non|bl (b:Bool)|int (i:Int)|str (x:Str)|byt (b:Array UInt8)|flt (b:UInt64)|ref (a:Addr)|ty (n:String)
 deriving DecidableEq
def aM:V->Value->Prop
 |.non,u=>u=Value.none
 |.bl b,u=>u=Value.bool b
 |.int i,u=>∃ t,u=Value.int i t
 |.str x,u=>∃ t,u=Value.str x t
 |.byt b,u=>∃ t,u=Value.bytes b t
 |.flt b,u=>∃ t,u=Value.float b t
 |.ref a,u=>u=Value.ref a
 |.ty n,u=>u=Value.type n
abbrev aG:List V->List Value->Prop:=qfU aM
def aG.length {xs:List V}{a:List Value} (r:aG xs a):xs.length=a.length:=qeG r
def aG.get:∀ {xs:List V}{a:List Value}{i:Nat}{x:V},aG xs a->xs[i]?=some x->∃ u,a[i]?=some u/\aM x u
 |_,_,_,_,.nil,e=>by simp at e
 |_,_,0,_,.cons r _,e=>by simp at e;subst e;exact⟨_,U,r⟩
 |_,_,i+1,x,.cons _ t,e=>by
  obtain⟨u,c,b⟩:=aG.get t (by simpa using e);exact⟨u,by simpa using c,b⟩
def aG.set {x:V}{u:Value} (r:aM x u):∀ {xs:List V}{a:List Value} (i:Nat),aG xs a->aG (xs.set i x) (a.set i u)
 |_,_,_,.nil=>.nil
 |_,_,0,.cons _ t=>.cons r t
 |_,_,i+1,.cons q t=>.cons q (aG.set r i t)
def aG.append:∀ {xs b:List V}{a ws:List Value},aG xs a->aG b ws->aG (xs++b) (a++ws)
 |_,_,_,_,.nil,s=>s
 |_,_,_,_,.cons r t,s=>.cons r (aG.append t s)
def aG.take:∀ {xs:List V}{a:List Value} (n:Nat),aG xs a->aG (xs.take n) (a.take n)
 |_,_,0,_=>.nil
 |_,_,_+1,.nil=>.nil
 |_,_,n+1,.cons r t=>.cons r (aG.take n t)
def aG.drop:∀ {xs:List V}{a:List Value} (n:Nat),aG xs a->aG (xs.drop n) (a.drop n)
 |_,_,0,r=>r
 |_,_,_+1,.nil=>.nil
 |_,_,n+1,.cons _ t=>aG.drop n t
def kX:Option V->Option Value->Prop
 |some v,some u=>aM v u
 |none,none=>True
 |_,_=>False
def KV {a:Type}:List (a×V)->List (a×Value)->Prop:=qfU λ(p:a×V) (q:a×Value)=>p.1=q.1/\aM p.2 q.2
def kV:Key->V
 |.inl i=>.int i
 |.inr x=>.str x
inductive HO where
 |lst (xs:List V)
 |tup (xs:List V)
 |dK (kvs:List (Key×V))|dT (kvs:List (List Key×V))
 |set (S:Int->Bool) (n:Nat)
 |ins (C dx:Addr) (fs:List (Str×V))
 |own (x:Addr)
 |xd (fs:List (Str×V))
 |met (f x:Addr)
 |rng (lo hi:Int)
 |frz (o:Obj) (u:HO)
 |tbl (ps:Array Value)
 |ext (φ:Heap->Prop)
abbrev Hp:=Addr->Option HO
def upd (H:Hp) (a:Addr) (o:HO):Hp:=λb=>if b=a then some o else H b
def upd_same {H:Hp}{a:Addr}{o:HO}:upd H a o a=some o:=by unfold upd;rw[iFP U]
def upd_ne {H:Hp}{a b:Addr}{o:HO} (h:b≠a):upd H a o b=H b:=by unfold upd;rw[iFN h]
def EC {H:Hp}{a b:Addr}{o u:HO} (h:H a=some o) (h':H b=some u) (d:o≠u):a≠b:=by
 intro e;subst e;rw[h]at h';exact d (qaP h')
def aI {H:Hp}{a b:Addr}{o:HO} (h:H a=some o) (h':H b=none):a≠b:=by
 intro e;subst e;rw[h]at h';cases h'
def eU (h:Heap) (a:Addr) (b:Array Value):Prop:=∃ o:Obj,h.get? a=some o/\o.cls=.type "tuple"/\(∃ n,o.data=.seq b n)/\o.dict=none
def eU.tup {h:Heap}{a:Addr}{b:Array Value} (x:eU h a b):IsTup h a b:=let ⟨o,e,c,n,_⟩:=x;⟨o,e,c,n⟩
def eU.new (h:Heap) (a:Array Value):eU (h.push { cls:=.type "tuple",data:=.seq a }) h.objs.size a:=⟨_,qav _ U,U,⟨_,U⟩,U⟩
section
variable (P:qaN) (w:World)
def cg (H:Hp) (h:Heap) (a:Addr):HO->Prop
 |.lst xs=>xs.length<=qaJ/\∃ (c:List Value) (n:Nat),aG xs c/\h.get? a=some { cls:=.type "list",data:=.seq c.toArray n }
 |.tup xs=>xs.length<=qaJ/\∃ c:List Value,aG xs c/\eU h a c.toArray
 |.dK b=>b.length<=qaJ/\(a==qcr)=false/\∃ i,KV b i/\h.DictOf (bY P w) a i
 |.dT b=>b.length<=qaJ/\(a==qcr)=false/\∃ xs:List (List Key×Addr×Value),
   qfU (λ(p:List Key×V) (q:List Key×Addr×Value)=>p.1=q.1/\H q.2.1=some (.tup (p.1.map kV))/\aM p.2 q.2.2) b xs/\
   ∃ o es k,h.get? a=some o/\o.ExactDict/\o.data=.dict es k/\es.toList=xs.map (entryOfKey (qgd (bY P w)))/\(xs.map (·.1)).Nodup
 |.set S n=>h.SetOf (intKind P w) a S n
 |.ins C e fs=>H e=some (.own a)/\fs.length<=1000/\e≠a/\h.get? a=some (qc9 C e)/\
   ∃ d,h.Ns1 e d/\(∀ f,kX (fs.lookup f) (d f))/\qgj d (fs.map (·.1))
 |.own _=>∃ o,h.get? a=some o
 |.xd fs=>∃ d,h.Ns1 a d/\∀ f,kX (fs.lookup f) (d f)
 |.rng lo hi=>∃ t u v,h.get? a=some { cls:=.type "range",data:=.fields #[.int lo t,.int hi u,.int 1 v] }
 |.frz o u=>h.get? a=some o/\cg H h a u
 |.tbl ps=>h.get? a=some { cls:=.none,data:=.fields ps }
 |.met f x=>h.get? a=some (PySem.W.methodObj (.ref f) (.ref x))
 |.ext φ=>φ h/\(∃ o,h.get? a=some o)/\∀ g j:Heap,φ g->(∀ o,g.get? a=some o->j.get? a=some o)->φ j
def HOk (H:Hp) (h:Heap):Prop:=∀ a o,H a=some o->cg P w H h a o
end
section
variable {P:qaN}{w:World}{H H':Hp}{h h':Heap}{a:Addr}{o:HO}
def cg.lt (x:cg P w H h a o):a<h.objs.size:=by
 cases o with
 |lst xs=>obtain⟨_,_,_,_,e⟩:=x;exact qaw e
 |tup xs=>obtain⟨_,_,_,p⟩:=x;exact p.tup.lt
 |dK l=>obtain⟨_,_,_,_,o,_,_,e,_⟩:=x;exact qaw e
 |dT l=>obtain⟨_,_,_,_,o,_,_,e,_⟩:=x;exact qaw e
 |set S n=>obtain⟨o,_,_,_,e,_⟩:=x;exact qaw e
 |ins C M fs=>obtain⟨_,_,_,e,_⟩:=x;exact qaw e
 |own y=>obtain⟨_,e⟩:=x;exact qaw e
 |xd fs=>obtain⟨_,⟨_,_,_,e,_⟩,_⟩:=x;exact qaw e
 |rng lo hi=>obtain⟨_,_,_,e⟩:=x;exact qaw e
 |frz ob u=>obtain⟨e,_⟩:=x;exact qaw e
 |tbl ps=>exact qaw (x)
 |met f y=>exact qaw (x)
 |ext φ=>obtain⟨_,⟨_,e⟩,_⟩:=x;exact qaw e
def qfU.mapP {α B:Type}{F G:α->B->Prop}:∀ {i:List α}{j:List B},qfU F i j->(∀ a b,F a b->G a b)->qfU G i j
 |_,_,.nil,_=>.nil
 |_,_,.cons r t,f=>.cons (f _ _ r) (qfU.mapP t f)
def cg.stay (x:cg P w H h a o) (k:∀ b u,(b=a\/H b=some (.own a))->h.get? b=some u->h'.get? b=some u)
  (J:∀ b,H b=some (.own a)->H' b=some (.own a)) (L:∀ b xs,H b=some (.tup xs)->H' b=some (.tup xs)):cg P w H' h' a o:=by
 induction o with
 |lst xs=>obtain⟨z,m,n,r,e⟩:=x;exact⟨z,m,n,r,k _ _ (.inl U) e⟩
 |tup xs=>obtain⟨z,m,r,ob,e,c⟩:=x;exact⟨z,m,r,ob,k _ _ (.inl U) e,c⟩
 |dK l=>obtain⟨z,y,I,r,ob,es,g,e,c⟩:=x;exact⟨z,y,I,r,ob,es,g,k _ _ (.inl U) e,c⟩
 |dT l=>
  obtain⟨z,y,xs,r,ob,es,g,e,c⟩:=x;exact⟨z,y,xs,qfU.mapP r λp q z=>⟨z.1,L _ _ z.2.1,z.2.2⟩,ob,es,g,k _ _ (.inl U) e,c⟩
 |set S n=>obtain⟨ob,es,g,t,e,c⟩:=x;exact⟨ob,es,g,t,k _ _ (.inl U) e,c⟩
 |ins C M fs=>
  obtain⟨d,z,ne,e,A,⟨s,es,g,K,c⟩,r⟩:=x;exact⟨J _ d,z,ne,k _ _ (.inl U) e,A,⟨s,es,g,k _ _ (.inr d) K,c⟩,r⟩
 |own y=>obtain⟨ob,e⟩:=x;exact⟨ob,k _ _ (.inl U) e⟩
 |xd fs=>obtain⟨A,⟨s,es,g,e,c⟩,r⟩:=x;exact⟨A,⟨s,es,g,k _ _ (.inl U) e,c⟩,r⟩
 |rng lo hi=>obtain⟨t,u,v,e⟩:=x;exact⟨t,u,v,k _ _ (.inl U) e⟩
 |frz ob u E=>obtain⟨e,q⟩:=x;exact⟨k _ _ (.inl U) e,E q⟩
 |tbl ps=>
  exact k a _ (.inl U) x
 |met f y=>
  exact k a _ (.inl U) x
 |ext φ=>obtain⟨p,⟨o,e⟩,st⟩:=x;exact⟨st _ _ p λo q=>k _ _ (.inl U) q,⟨o,k _ _ (.inl U) e⟩,st⟩
def HOk.lt (x:HOk P w H h) (e:H a=some o):a<h.objs.size:=(x a o e).lt
def HOk.fresh (x:HOk P w H h) (e:h.objs.size<=a):H a=none:=by
 cases q:H a with
 |none=>rfl
 |some u=>exact absurd (qaV (x.lt q) e) (qa9 _)
def HOk.kept (x:HOk P w H h) (k:∀ b u,h.get? b=some u->h'.get? b=some u):HOk P w H h':=λa o e=>
 (x a o e).stay (λb u _ q=>k b u q) (λ_ q=>q) λ_ _ q=>q
def HOk.laid (x:HOk P w H h) (k:∀ b u,h.get? b=some u->h'.get? b=some u) (D:h.objs.size<=a) (new:cg P w (upd H a o) h' a o):HOk P w (upd H a o) h':=λb u e=>by
 have hn:=x.fresh D;by_cases hb:b=a
 ·subst hb;rw[upd_same]at e;cases e;exact new
 ·rw[upd_ne hb]at e
  exact (x b u e).stay (λc v _ q=>k c v q) (λc q=>by rw[upd_ne (aI q hn)];exact q) λc xs q=>by rw[upd_ne (aI q hn)];exact q
end
def Rd (H:Hp) (a:Addr) (u:HO):Prop:=H a=some u\/∃ o,H a=some (.frz o u)
def Rd.of {H:Hp}{a:Addr}{u:HO} (h:H a=some u):Rd H a u:=.inl h
def Rd.ok {P:qaN}{w:World}{H:Hp}{h:Heap}{a:Addr}{u:HO} (r:Rd H a u) (x:HOk P w H h):cg P w H h a u:=by
 rcases r with r|⟨o,r⟩
 ·exact x a u r
 ·obtain⟨_,q⟩:=x a _ r
  exact q
def Mut:Option HO->Prop
 |some (.lst _)=>True
 |some (.dK _)=>True
 |some (.dT _)=>True
 |some (.set _ _)=>True
 |some (.ins _ _ _)=>True
 |some (.ext _)=>True
 |_=>False
section
variable {P:qaN}{w:World}{H:Hp}{h h':Heap}{x e:Addr}{i:HO}
def HOk.write (ok:HOk P w H h) (f:Mut (H x)) (m:e=x\/H e=some (.own x)) (k:∀ b u,b≠e->h.get? b=some u->h'.get? b=some u) (j:∃ u,h'.get? e=some u)
  (new:cg P w (upd H x i) h' x i):HOk P w (upd H x i) h':=λb u q=>by
 have d:∀ c y,H c=some (.own y)->c≠x:=λc y r z=>by subst z;rw[r]at f;exact f
 by_cases hb:b=x
 ·subst hb;rw[upd_same]at q;cases q;exact new
 ·rw[upd_ne hb]at q
  by_cases a:b=e
  ·have l:H b=some (.own x):=by
    rcases m with z|z
    ·exact absurd (a.trans z) hb
    ·rw[a];exact z
   rw[q]at l;cases l;obtain⟨v,n⟩:=j;exact⟨v,by rw[a];exact n⟩
  ·refine (ok b u q).stay (λc v g r=>k c v ?_ r) (λc r=>by rw[upd_ne (d c b r)];exact r) λc xs r=>by rw[upd_ne ((λc xs r z=>by subst z;rw[r]at f;exact f) c xs r)];exact r
   rcases g with rfl|g
   ·exact a
   ·rintro rfl
    rcases m with z|z
    ·exact d c b g z
    ·rw[g]at z;cases z;exact hb U
end
structure Un (fs ex:List Addr) (H H':Hp) (h h':Heap):Prop where
 keep:∀ b o,h.get? b=some o->H b=none->b∉fs->b∉ex->h'.get? b=some o
 slot:∀ b o,h.get? b=some o->H b=none->b∈fs->b∉ex->∃ sl,h'.get? b=some { o with slots:=sl }
 free:∀ b o,h.get? b=some o->H b=none->b∉ex->H' b=none
 there:∀ b o,h.get? b=some o->b∉ex->∃ o',h'.get? b=some o'
 tups:∀ b xs,H b=some (.tup xs)->H' b=some (.tup xs)
 frzs:∀ b o u,H b=some (.frz o u)->H' b=some (.frz o u)
 tbls:∀ b ps,H b=some (.tbl ps)->∃ more,H' b=some (.tbl (ps++more))
section
variable {fs m ex s:List Addr}{H H1 H2:Hp}{h i t h':Heap}{a x e:Addr}{o:HO}
def Un.any (u:Un fs ex H H1 h i) {b:Addr}{ob:Obj} (q:h.get? b=some ob) (n:H b=none) (d:b∉ex):∃ l,i.get? b=some { ob with slots:=l }:=by
 by_cases hb:b∈fs
 ·exact u.slot b ob q n hb d
 ·exact⟨ob.slots,u.keep b ob q n hb d⟩
def Un.kept (k:∀ b u,h.get? b=some u->h'.get? b=some u):Un fs ex H H h h':=
 ⟨λb ob q _ _ _=>k b ob q,λb ob q _ _ _=>⟨ob.slots,k b ob q⟩,λ_ _ _ n _=>n,λb ob q _=>⟨ob,k b ob q⟩,λ_ _ q=>q,λ_ _ _ q=>q,λ_ ps q=>⟨#[],by rw[q];simp⟩⟩
def Un.refl:Un fs ex H H h h:=Un.kept λ_ _ q=>q
def Un.laid (k:∀ b u,h.get? b=some u->h'.get? b=some u) (p:h.objs.size<=a) (hn:H a=none):Un fs ex H (upd H a o) h h' where
 keep:=λb u q _ _ _=>k b u q
 slot:=λb u q _ _ _=>⟨u.slots,k b u q⟩
 free:=λb u q n _=>by rw[upd_ne (qaF (qaV (qaw q) p))];exact n
 there:=λb u q _=>⟨u,k b u q⟩
 tups:=λb xs q=>by rw[upd_ne (aI q hn)];exact q
 frzs:=λb u xs q=>by rw[upd_ne (aI q hn)];exact q
 tbls:=λb ps q=>⟨#[],by rw[upd_ne (aI q hn),q];simp⟩
def Un.write (f:Mut (H x)) (j:e=x\/H e=some (.own x)) (k:∀ b u,b≠e->h.get? b=some u->h'.get? b=some u) (g:∃ u,h'.get? e=some u):Un fs ex H (upd H x o) h h':=by
 have d:∀ b,H b=none->b≠x:=λb n z=>by subst z;rw[n]at f;exact f
 have hb:∀ b,H b=none->b≠e:=λb n z=>by
  subst z;rcases j with r|r
  ·exact d b n r
  ·rw[n]at r;cases r
 have hm:∀ b u,H b=some u->¬ Mut (some u)->b≠x:=λb u q nm z=>by subst z;rw[q]at f;exact nm f
 refine⟨λb u q n _ _=>k b u (hb b n) q,λb u q n _ _=>⟨u.slots,k b u (hb b n) q⟩,λb u q n _=>by rw[upd_ne (d b n)];exact n,λb u q _=>?_,
  λb xs q=>by rw[upd_ne (hm b _ q λz=>z)];exact q,λb u xs q=>by rw[upd_ne (hm b _ q λz=>z)];exact q,λb ps q=>⟨#[],by rw[upd_ne (hm b _ q λz=>z),q];simp⟩⟩
 by_cases c:b=e
 ·subst c;exact g
 ·exact⟨u,k b u c q⟩
end
def trk (h:Heap) (H:Hp):List Addr:=(qam h.objs.size).filter λa=>(H a).isSome
def wO (h:Heap) (H:Hp):Heap:=PySem.W.hideAll h (trk h H)
def wP (h:Heap) (H:Hp):(wO h H).objs.size=h.objs.size:=PySem.W.hideAll_size _ _
def yh {h:Heap}{H:Hp}{b:Addr}{o:Obj} (e:h.get? b=some o) (n:H b=none):(wO h H).get? b=some o:=
 PySem.W.hideAll_get _ e λhm=>by
  have q:=(qcj.mp hm).2;rw[n]at q;simp at q
def Au {h:Heap}{H:Hp}{b:Addr}{o:Obj} (e:(wO h H).get? b=some o):h.get? b=some o/\H b=none:=by
 have a:=PySem.W.of_hideAll _ e;refine⟨a,?_⟩;cases q:H b with
 |none=>rfl
 |some x=>
  have z:(wO h H).get? b=none:=PySem.W.hideAll_none _ (qcj.mpr ⟨qaQ.mpr (qaw a),by simp[q]⟩);rw[z]at e;cases e
structure Mod (K:qae) (mg:Str->Option Value) (base:Heap):Prop where
 kin:K.In base
 glob:base.Ns qb8 mg
 blt:∃ mb,base.Ns qgH mb/\∀ x:Str,x≠"__name__"->mb x=qcb x
 nolimit:base.NoLimit
structure Cx where
 prog:qaN
 w:World
 K:qae
 mg:Str->Option Value
 base:Heap
 A:qa0
 N:List Str
 s₀:qaj
 H₀:Hp
 env:Env
 outer:List Env
 stack:List Env
 ex:List Addr
 fn:Str->Bool
 calm:Bool
 pn:List (Addr×Obj)
 xe:Value->qaj->Prop
def frs (l:List Env):List Addr:=l.filterMap (·.frame)
abbrev Cx.fs (X:Cx):List Addr:=frs X.outer
def Vis (a:Scope) (x:Str):Prop:=a.names.lookup x=some .local\/a.names.lookup x=some .cell\/a.names.lookup x=some .free
def Loc (a:Scope) (x:Str):Prop:=a.names.lookup x=some .local\/a.names.lookup x=some .cell
def Fx (env:Env) (h:Heap) (m:Str->Option Value) (x:Str) (u:Value):Prop:=
 (env.kindOf x=some .local/\m x=some u)\/((env.kindOf x=some .cell\/env.kindOf x=some .free)/\∃ c,env.cells.lookup x=some c/\h.IsCell c (some u))
structure Cx.Ok (X:Cx):Prop where
 mod:Mod X.K X.mg X.base
 kind:X.env.scope.kind=.function
 glob:X.env.globals=qb8
 blt:X.env.builtins=qgH
 above:X.s₀.heap.objs.size<=X.env.locals
 inj:∀ x y c,X.env.cells.lookup x=some c->X.env.cells.lookup y=some c->x=y
 has:∀ x,(X.env.kindOf x=some .cell\/X.env.kindOf x=some .free)->∃ c,X.env.cells.lookup x=some c
 cab:∀ x c,X.fn x=true->X.env.cells.lookup x=some c->X.s₀.heap.objs.size<=c
 hd:X.calm=true->X.A.handled=none
 frames:X.A.frames=some X.stack
 stk:X.stack=X.outer\/(X.stack=X.env::X.outer/\X.env.frame=some X.env.locals)
 exf:∀ b∈X.ex,b≠X.env.locals/\∀ x c,X.env.cells.lookup x=some c->c≠b
 bs:∀ b o,X.base.get? b=some o->X.s₀.heap.get? b=some o/\X.H₀ b=none
 bsz:X.base.objs.size<=X.s₀.heap.objs.size
 noex:∀ b o,X.base.get? b=some o->b∉X.ex
 exfs:∀ b∈X.ex,b∉X.fs
 funs:X.s₀.heap.FunFrames X.base X.outer
 frf:∀ b∈X.fs,X.H₀ b=none
structure Inv (X:Cx) (pins:List (Addr×Obj)) (σ:List (Option V)) (H:Hp) (s:qaj):Prop where
 ok:X.Ok
 os:s.os=X.s₀.os
 bare:qfh s.gens
 base:Un X.fs X.ex X.H₀ H X.s₀.heap s.heap
 loc:∃ m,s.heap.Ns X.env.locals m/\∀ (i:Nat) (x:Str) (v:V),X.N[i]?=some x->σ[i]?=some (some v)->Vis X.env.scope x->∃ u,aM v u/\Fx X.env s.heap m x u
 cell:∀ x c,X.env.cells.lookup x=some c->∃ v,s.heap.IsCell c v
 free:H X.env.locals=none
 freeC:∀ x c,X.env.cells.lookup x=some c->H c=none
 pin:∀ p∈X.pn++pins,s.heap.get? p.1=some p.2/\H p.1=none/\p.1≠X.env.locals/\p.1∉X.fs/\∀ v,p.2.data≠.cell v
 hok:HOk X.prog X.w H s.heap
 len:σ.length=X.N.length
section
variable {X:Cx}{f:List (Addr×Obj)}{g:List (Option V)}{H H':Hp}{s:qaj}{h':Heap}
def Cx.Ok.nofr (ok:X.Ok) {b:Addr}{o:Obj} (e:X.base.get? b=some o):b∉X.fs:=λhb=>by
 have:=(ok.funs.mem hb).1
 rw[e]at this;cases this
def Inv.bs (I:Inv X f g H s):∀ b o,X.base.get? b=some o->s.heap.get? b=some o/\H b=none:=λb o e=>
 ⟨I.base.keep b o (I.ok.bs b o e).1 (I.ok.bs b o e).2 (I.ok.nofr e) (I.ok.noex b o e),I.base.free b o (I.ok.bs b o e).1 (I.ok.bs b o e).2 (I.ok.noex b o e)⟩
def Inv.bk (I:Inv X f g H s):∀ b o,X.base.get? b=some o->s.heap.get? b=some o:=λb o e=>(I.bs b o e).1
def Inv.mod (I:Inv X f g H s):Mod X.K X.mg X.base:=I.ok.mod
def Inv.kIn (I:Inv X f g H s):X.K.In s.heap:=I.ok.mod.kin.keeps I.bk
def Inv.fr (I:Inv X f g H s):∃ m,Fr X.base X.env.locals s.heap m:=
 let ⟨m,hn,_⟩:=I.loc
 ⟨m,hn,I.bk,qaY I.ok.bsz I.ok.above⟩
def Inv.lt (I:Inv X f g H s):X.env.locals<s.heap.objs.size:=let ⟨_,hn,_⟩:=I.loc;hn.lt
def Inv.sz (I:Inv X f g H s):X.s₀.heap.objs.size<=s.heap.objs.size:=qaY I.ok.above (qez I.lt)
def Inv.nofs (I:Inv X f g H s) {a:Addr} (h:s.heap.objs.size<=a):a∉X.fs:=λhb=>by
 obtain⟨_,o,F,_⟩:=I.ok.funs.mem hb;exact absurd (qaV (qaw F) (qaY I.sz h)) (qa9 _)
def Inv.cne (I:Inv X f g H s):∀ x c,X.env.cells.lookup x=some c->c≠X.env.locals:=λx c e z=>by
 obtain⟨v,o,F,hd⟩:=I.cell x c e;obtain⟨m,⟨R,es,ep,P,hd',_⟩,_⟩:=I.loc;rw[z,P]at F;cases F;rw[hd']at hd;cases hd
def Inv.funs (I:Inv X f g H s):s.heap.FunFrames X.base X.outer:=by
 have all:∀ (l:List Env),(∀ b∈frs l,b∈X.fs)->X.s₀.heap.FunFrames X.base l->s.heap.FunFrames X.base l:=by
  intro l
  induction l with
  |nil=>intro _ _;trivial
  |cons env r ih=>
   intro G hl;obtain⟨hk,⟨L,o,W,hn,F,hd⟩,hr⟩:=hl;have T:=G L (by unfold frs;rw[qeI,W];exact qaf);obtain⟨sl,e⟩:=I.base.slot L o F (I.ok.frf L T) T λz=>I.ok.exfs L z T;exact⟨hk,⟨L,_,W,hn,e,hd⟩,ih (λb hb=>G b (by unfold frs;rw[qeI,W];exact qak _ hb)) hr⟩
 exact all X.outer (λ_ hb=>hb) I.ok.funs
def Inv.stack (I:Inv X f g H s):s.heap.FunFrames X.base X.stack:=by
 rcases I.ok.stk with e|⟨e,W⟩
 ·rw[e];exact I.funs
 ·rw[e]
  obtain⟨m,hn,_⟩:=I.loc;refine .cons (by rw[I.ok.kind];decide) W hn ?_ I.funs;exact Heap.get?_none_of_le (qaY I.ok.bsz I.ok.above)
def Inv.stkSub (I:Inv X f g H s):∀ b∈frs X.stack,b∈X.env.locals::X.fs:=λb hb=>by
 rcases I.ok.stk with e|⟨e,W⟩
 ·rw[e]at hb;exact qak _ hb
 ·rw[e]at hb
  unfold frs at hb;rw[qeI,W]at hb;exact hb
def Inv.stkFree (I:Inv X f g H s):∀ b∈frs X.stack,H b=none:=λb hb=>by
 rcases qaA.mp (I.stkSub b hb) with e|hb
 ·rw[e];exact I.free
 ·obtain⟨_,o,F,_⟩:=I.ok.funs.mem hb
  exact I.base.free b o F (I.ok.frf b hb) λz=>I.ok.exfs b z hb
def Inv.step {g':Array qh5}{t':Nat}{d':Drawn}{ch:List Addr} (I:Inv X f g H s)
  (J:∀ b∈ch,(b∈X.ex\/X.s₀.heap.objs.size<=b)/\b≠X.env.locals/\(∀ x c,X.env.cells.lookup x=some c->c≠b)/\∀ p∈X.pn++f,p.1≠b)
  (keep:∀ b o,b≠X.env.locals->b∉X.fs->b∉ch->s.heap.get? b=some o->H b=none->h'.get? b=some o)
  (slot:∀ b o,b≠X.env.locals->b∈X.fs->b∉ch->s.heap.get? b=some o->H b=none->∃ sl,h'.get? b=some { o with slots:=sl }) (free:∀ b o,b∉ch->s.heap.get? b=some o->H b=none->H' b=none)
  (there:∀ b o,b∉ch->s.heap.get? b=some o->∃ R,h'.get? b=some R)
  (tups:∀ b xs,H b=some (.tup xs)->H' b=some (.tup xs)) (frzs:∀ b o u,H b=some (.frz o u)->H' b=some (.frz o u)) (tbls:∀ b ps,H b=some (.tbl ps)->∃ more,H' b=some (.tbl (ps++more)))
  (ns:∀ m,s.heap.Ns X.env.locals m->h'.Ns X.env.locals m) (hok:HOk X.prog X.w H' h') (hg:qfh g') :
  Inv X f g H' { s with heap:=h',gens:=g',drawn:=d',toks:=t' }:=by
 have neL:∀ b o,X.s₀.heap.get? b=some o->b≠X.env.locals:=λb o e=>qaF (qaV (qaw e) I.ok.above);have neC:∀ b o,X.s₀.heap.get? b=some o->b∉X.ex->b∉ch:=λb o e C hb=>by
  rcases (J b hb).1 with z|z
  ·exact C z
  ·exact absurd (qaV (qaw e) z) (qa9 _)
 have cellK:∀ x c,X.env.cells.lookup x=some c->∀ v,s.heap.IsCell c v->h'.IsCell c v:=λx c e v ⟨o,F,hd⟩=>by
  have nch:=λz=>(J c z).2.2.1 x c e U;by_cases B:c∈X.fs
  ·obtain⟨sl,q⟩:=slot c o (I.cne x c e) B nch F (I.freeC x c e)
   exact⟨_,q,hd⟩
  ·exact⟨o,keep c o (I.cne x c e) B nch F (I.freeC x c e),hd⟩
 refine⟨I.ok,I.os,hg,⟨λb o e n hb C=>?_,λb o e n hb C=>?_,λb o e n C=>?_,λb o e C=>?_,λb xs e=>tups b xs (I.base.tups b xs e),λb o xs e=>frzs b o xs (I.base.frzs b o xs e),λb ps e=>?_⟩,?_,λx c e=>?_,?_,λx c e=>?_,λp S=>?_,hok,I.len⟩
 ·exact keep b o (neL b o e) hb (neC b o e C) (I.base.keep b o e n hb C) (I.base.free b o e n C)
 ·obtain⟨sl,D⟩:=I.base.slot b o e n hb C
  obtain⟨sl',K⟩:=slot b _ (neL b o e) hb (neC b o e C) D (I.base.free b o e n C);exact⟨sl',K⟩
 ·obtain⟨R,D⟩:=I.base.there b o e C
  exact free b R (neC b o e C) D (I.base.free b o e n C)
 ·obtain⟨R,D⟩:=I.base.there b o e C
  exact there b R (neC b o e C) D
 ·obtain⟨m1,D⟩:=I.base.tbls b ps e
  obtain⟨m2,K⟩:=tbls b _ D;exact⟨_,by rw[K,Array.append_assoc]⟩
 ·obtain⟨m,hn,hl⟩:=I.loc
  refine⟨m,ns m hn,λi x v D K e3=>?_⟩;obtain⟨u,r,l⟩:=hl i x v D K e3;refine⟨u,r,?_⟩;rcases l with l|⟨k,c,e,z⟩
  ·exact .inl l
  ·exact .inr ⟨k,c,e,cellK x c e _ z⟩
 ·obtain⟨v,z⟩:=I.cell x c e
  exact⟨v,cellK x c e v z⟩
 ·obtain⟨m,⟨o,_,_,F,_⟩,_⟩:=I.loc
  exact free _ o (λz=>(J _ z).2.1 U) F I.free
 ·obtain⟨v,o,F,hd⟩:=I.cell x c e
  exact free c o (λz=>(J c z).2.2.1 x c e U) F (I.freeC x c e)
 ·obtain⟨e,n,ne,nf,d⟩:=I.pin p S
  have nch:=λz=>(J p.1 z).2.2.2 p S U;exact⟨keep p.1 p.2 ne nf nch e n,free p.1 p.2 nch e n,ne,nf,d⟩
def Inv.un {t':Nat} (I:Inv X f g H s) (u:Un X.fs [] H H' s.heap h') (hok:HOk X.prog X.w H' h'):Inv X f g H' { s with heap:=h',toks:=t' }:=by
 obtain⟨m,⟨o,es,ep,F,r⟩,_⟩:=id I.loc;obtain⟨sl,T⟩:=u.any F I.free (by simp)
 exact I.step (ch:=[]) (λ_ z=>nomatch z) (λb o _ hb _ e n=>u.keep b o e n hb (by simp)) (λb o _ hb _ e n=>u.slot b o e n hb (by simp)) (λb o _ e n=>u.free b o e n (by simp)) (λb o _ e=>u.there b o e (by simp)) u.tups u.frzs u.tbls (λm' hm=>by
  obtain⟨R,es',ep',P,r'⟩:=hm;rw[F]at P;cases P
  exact⟨_,es',ep',T,r'⟩) hok I.bare
def Inv.call {g':Array qh5}{t':Nat}{d':Drawn}{ch:List Addr} (I:Inv X f g H s) (u:Un (frs X.stack) ch H H' s.heap h') (hok:HOk X.prog X.w H' h') (hg:qfh g')
  (J:∀ b∈ch,(b∈X.ex\/X.s₀.heap.objs.size<=b)/\b≠X.env.locals/\(∀ x c,X.env.cells.lookup x=some c->c≠b)/\∀ p∈X.pn++f,p.1≠b) :
  Inv X f g H' { s with heap:=h',gens:=g',drawn:=d',toks:=t' }:=by
 obtain⟨m,⟨o,es,ep,F,r⟩,_⟩:=id I.loc;obtain⟨sl,T⟩:=u.any F I.free λz=>(J _ z).2.1 U
 exact I.step J (λb o T hb B e n=>u.keep b o e n (λz=>(qaA.mp (I.stkSub b z)).elim T hb) B) (λb o _ _ B e n=>u.any e n B) (λb o B e n=>u.free b o e n B) (λb o B e=>u.there b o e B) u.tups u.frzs u.tbls (λm' hm=>by
  obtain⟨R,es',ep',P,r'⟩:=hm;rw[F]at P;cases P
  exact⟨_,es',ep',T,r'⟩) hok hg
def Inv.turned {t':Nat}{it:Addr} (I:Inv X f g H s) (k:∀ b o,b≠it->s.heap.get? b=some o->h'.get? b=some o) (hn:H it=none) (T:it≠X.env.locals)
  (h1:it∈X.ex\/X.s₀.heap.objs.size<=it) (h2:∀ x c,X.env.cells.lookup x=some c->c≠it) (h3:∀ p∈X.pn++f,p.1≠it):Inv X f g H { s with heap:=h',toks:=t' }:=by
 have nit:∀ b u,H b=some u->b≠it:=λb u e z=>by rw[z,hn]at e;cases e
 refine I.step (ch:=[it]) (λb hb=>?_) (λb o _ _ B e _=>k b o (λz=>B (by simp[z])) e) (λb o _ _ B e _=>⟨o.slots,k b o (λz=>B (by simp[z])) e⟩) (λ_ _ _ _ n=>n)
  (λb o B e=>⟨o,k b o (λz=>B (by simp[z])) e⟩) (λ_ _ e=>e) (λ_ _ _ e=>e) (λb ps e=>⟨#[],by rw[e];simp⟩) (λm hm=>?_) (λb u e=>?_) I.bare
 ·have e:=by simpa using hb
  subst e;exact⟨h1,T,h2,h3⟩
 ·obtain⟨o,es,ep,F,r⟩:=hm
  exact⟨o,es,ep,k _ o (qbL T) F,r⟩
 ·refine (I.hok b u e).stay (λc v B q=>k c v ?_ q) (λ_ q=>q) λ_ _ q=>q
  rcases B with z|z
  ·rw[z];exact nit b u e
  ·exact nit c _ z
def Inv.tok (I:Inv X f g H s) (t:Nat):Inv X f g H { s with toks:=t }:=I.un Un.refl I.hok
def Inv.kept {t':Nat} (I:Inv X f g H s) (k:∀ b u,s.heap.get? b=some u->h'.get? b=some u):Inv X f g H { s with heap:=h',toks:=t' }:=I.un (Un.kept k) (I.hok.kept k)
def Inv.laid {a:Addr}{o:HO}{t':Nat} (I:Inv X f g H s) (k:∀ b u,s.heap.get? b=some u->h'.get? b=some u) (S:s.heap.objs.size<=a) (new:cg X.prog X.w (upd H a o) h' a o) :
  Inv X f g (upd H a o) { s with heap:=h',toks:=t' }:=I.un (Un.laid k S (I.hok.fresh S)) (I.hok.laid k S new)
def Inv.write {x e:Addr}{o:HO}{t':Nat} (I:Inv X f g H s) (mu:Mut (H x)) (he:e=x\/H e=some (.own x)) (k:∀ b u,b≠e->s.heap.get? b=some u->h'.get? b=some u) (heo:∃ u,h'.get? e=some u)
  (new:cg X.prog X.w (upd H x o) h' x o):Inv X f g (upd H x o) { s with heap:=h',toks:=t' }:=I.un (Un.write mu he k heo) (I.hok.write mu he k heo new)
def Inv.weak {σ':List (Option V)} (I:Inv X f g H s) (hl:σ'.length=g.length) (w:∀ (i:Nat) v,σ'[i]?=some (some v)->g[i]?=some (some v)):Inv X f σ' H s:=
 ⟨I.ok,I.os,I.bare,I.base,let ⟨m,hn,hl'⟩:=I.loc;⟨m,hn,λi x v D K e3=>hl' i x v D (w i v K) e3⟩,I.cell,I.free,I.freeC,I.pin,I.hok,hl.trans I.len⟩
def Inv.pins_of {pins':List (Addr×Obj)} (I:Inv X f g H s) (h:∀ p∈pins',s.heap.get? p.1=some p.2/\H p.1=none/\p.1≠X.env.locals/\p.1∉X.fs/\∀ v,p.2.data≠.cell v):Inv X pins' g H s:=
 ⟨I.ok,I.os,I.bare,I.base,I.loc,I.cell,I.free,I.freeC,λp S=>(qaS.mp S).elim (λz=>I.pin p (qaX _ z)) (h p),I.hok,I.len⟩
def sk {N:List Str} (hN:N.Nodup) {i j:Nat}{x:Str} (a:N[i]?=some x) (b:N[j]?=some x):i=j:=by
 obtain⟨h1,D⟩:=qas.mp a;obtain⟨h2,K⟩:=qas.mp b;exact (qdE hN).mp (D.trans K.symm)
def xB {M:Model}{A:qa0}{E:Value->qaj->Prop}{i:Nat}{x:Str}{v:V}{u:Value}{Q:Unit->qaj->Prop} (I:Inv X f g H s) (hN:X.N.Nodup) (hi:X.N[i]?=some x) (C:Loc X.env.scope x) (r:aM v u)
  (h:∀ s',Inv X f (g.set i (some v)) H s'->(∃ a,qdc a s.heap s'.heap/\(a=X.env.locals\/X.env.cells.lookup x=some a))->Q () s') (W:X.fn x=true\/X.env.scope.names.lookup x=some .local:=by first|exact .inl U|exact .inr U|assumption):wpAny M A (storeName X.env x u) Q E s:=by
 obtain⟨m,hn,hl⟩:=id I.loc;have hcls:(X.env.scope.kind==.class||(X.env.scope.kind==.module&&X.env.locals != X.env.globals))=false:=by rw[I.ok.kind];rfl
 have hiσ:i<g.length:=by rw[I.len];exact (qas.mp hi).1
 have cne:=I.cne;have O:∀ {a:Addr}{h':Heap},(∃ o,s.heap.get? a=some o/\H a=none)->qdc a s.heap h'->HOk X.prog X.w H h':=λ{a h'} ha G b ob e=>by
  obtain⟨_,_,Y⟩:=ha;refine (I.hok b ob e).stay (λc w' B q=>(G.2 c ?_).trans q) (λ_ q=>q) λ_ _ q=>q
  rintro rfl
  rcases B with rfl|B
  ·rw[Y]at e;cases e
  ·rw[Y]at B;cases B
 rcases C with hk|hk
 ·refine wpAny_storeName_local hk hn (λh' hn' G=>?_) hcls
  obtain⟨oL,_,_,hoL,_⟩:=id hn;refine h _ ⟨I.ok,I.os,I.bare,⟨λb o e n hb C=>?_,λb o e n hb C=>?_,I.base.free,λb o e C=>?_,I.base.tups,I.base.frzs,I.base.tbls⟩,⟨_,hn',λj y v' D K e3=>?_⟩,λy c e=>?_,I.free,I.freeC,λp S=>?_,O ⟨oL,hoL,I.free⟩ G,by simpa using I.len⟩ ⟨_,G,.inl U⟩
  ·exact (G.2 b (qaF (qaV (qaw e) I.ok.above))).trans (I.base.keep b o e n hb C)
  ·obtain⟨sl,D⟩:=I.base.slot b o e n hb C
   exact⟨sl,(G.2 b (qaF (qaV (qaw e) I.ok.above))).trans D⟩
  ·obtain⟨R,D⟩:=I.base.there b o e C
   exact⟨R,(G.2 b (qaF (qaV (qaw e) I.ok.above))).trans D⟩
  ·by_cases hj:j=i
   ·subst hj
    rw[hi]at D;cases D;rw[qbq hiσ]at K;cases K;exact⟨u,r,.inl ⟨hk,by simp⟩⟩
   ·rw[qbB (qbL hj)]at K
    obtain⟨u',r',q⟩:=hl j y v' D K e3;refine⟨u',r',?_⟩;rcases q with⟨k,e⟩|⟨k,c,e,z⟩
    ·refine .inl ⟨k,?_⟩
     have:y≠x:=λe=>hj (sk hN D (e ▸ hi))
     simp[this,e]
    ·exact .inr ⟨k,c,e,z.sameBut G (cne y c e)⟩
  ·obtain⟨w',z⟩:=I.cell y c e
   exact⟨w',z.sameBut G (cne y c e)⟩
  ·obtain⟨e,n,ne,nf,d⟩:=I.pin p S
   exact⟨(G.2 p.1 ne).trans e,n,ne,nf,d⟩
 ·have hfn:X.fn x=true:=by
   rcases W with z|z
   ·exact z
   ·rw[z]at hk;cases hk
  obtain⟨c,B⟩:=I.ok.has x (.inl hk);obtain⟨w',z⟩:=I.cell x c B;refine wpAny_storeName_cell I.ok.kind hk B z (λh' hc' G=>?_);obtain⟨oc,hoc,hocd⟩:=id z;refine h { s with heap:=h' } ⟨I.ok,I.os,I.bare,⟨λb o e n hb C=>?_,λb o e n hb C=>?_,I.base.free,λb o e C=>?_,I.base.tups,I.base.frzs,I.base.tbls⟩,⟨m,hn.sameBut G (qbL (cne x c B)),λj y v' D K e3=>?_⟩,λy c' e=>?_,I.free,I.freeC,λp S=>?_,O ⟨oc,hoc,I.freeC x c B⟩ G,by simpa using I.len⟩ ⟨c,G,.inr B⟩
  ·exact (G.2 b (qaF (qaV (qaw e) (I.ok.cab x c hfn B)))).trans (I.base.keep b o e n hb C)
  ·obtain⟨sl,D⟩:=I.base.slot b o e n hb C
   exact⟨sl,(G.2 b (qaF (qaV (qaw e) (I.ok.cab x c hfn B)))).trans D⟩
  ·obtain⟨R,D⟩:=I.base.there b o e C
   exact⟨R,(G.2 b (qaF (qaV (qaw e) (I.ok.cab x c hfn B)))).trans D⟩
  ·by_cases hj:j=i
   ·subst hj
    rw[hi]at D;cases D;rw[qbq hiσ]at K;cases K;exact⟨u,r,.inr ⟨.inl hk,c,B,hc'⟩⟩
   ·rw[qbB (qbL hj)]at K
    obtain⟨u',r',q⟩:=hl j y v' D K e3;refine⟨u',r',?_⟩;rcases q with q|⟨k,c',e,z'⟩
    ·exact .inl q
    ·refine .inr ⟨k,c',e,z'.sameBut G ?_⟩
     rintro rfl
     exact hj (sk hN D (I.ok.inj _ _ _ e B ▸ hi))
  ·by_cases hcc:c'=c
   ·subst hcc;exact⟨_,hc'⟩
   ·obtain⟨w2,z2⟩:=I.cell y c' e
    exact⟨w2,z2.sameBut G hcc⟩
  ·obtain⟨e,n,ne,nf,d⟩:=I.pin p S
   refine⟨(G.2 p.1 ?_).trans e,n,ne,nf,d⟩;intro q;rw[q,hoc]at e;exact d w' (by rw[<-(qaP e)];exact hocd)
def ny {M:Model}{A:qa0}{E:Value->qaj->Prop}{i:Nat}{x:Str}{v:V}{u:Value}{Q:Unit->qaj->Prop} (I:Inv X f g H s) (hN:X.N.Nodup) (hi:X.N[i]?=some x) (C:Loc X.env.scope x) (r:aM v u)
  (h:∀ s',Inv X f (g.set i (some v)) H s'->Q () s') (W:X.fn x=true\/X.env.scope.names.lookup x=some .local:=by first|exact .inl U|exact .inr U|assumption):wpAny M A (storeName X.env x u) Q E s:=
 xB I hN hi C r (λs' I' _=>h s' I') W
def Inv.call' {s':qaj}{ch:List Addr} (I:Inv X f g H s) (F:s'.os=s.os) (u:Un (frs X.stack) ch H H' s.heap s'.heap) (hok:HOk X.prog X.w H' s'.heap) (hg:qfh s'.gens)
  (J:∀ b∈ch,(b∈X.ex\/X.s₀.heap.objs.size<=b)/\b≠X.env.locals/\(∀ x c,X.env.cells.lookup x=some c->c≠b)/\∀ p∈X.pn++f,p.1≠b):Inv X f g H' s':=by
 obtain⟨h',g',d',t',R⟩:=s';subst F;exact I.call u hok hg J
end
abbrev XK:=Value->Option Addr->Hp->Prop
abbrev St:=List (Option V)
abbrev VK:=V->Hp->Prop
abbrev TE:=St->Hp->VK->Prop
abbrev TT:=St->Hp->(Bool->Hp->Prop)->Prop
abbrev TA:=St->Hp->(List V->Hp->Prop)->Prop
structure nK where
 nx:St->Hp->Prop
 rt:VK
 bk:St->Hp->Prop:=λ_ _=>False
 ct:St->Hp->Prop:=λ_ _=>False
abbrev TS:=nK->St->Hp->Prop
def EP (X:Cx) (a:List (Addr×Obj)) (b:St) (Q:VK) (u:Value) (s':qaj):Prop:=∃ v H',Inv X a b H' s'/\aM v u/\Q v H'
def TP (X:Cx) (a:List (Addr×Obj)) (c:St) (Q:Bool->Hp->Prop) (b:Bool) (s':qaj):Prop:=∃ H',Inv X a c H' s'/\Q b H'
def AP (X:Cx) (a:List (Addr×Obj)) (d:St) (Q:List V->Hp->Prop) (c:List Value) (s':qaj):Prop:=∃ b H',Inv X a d H' s'/\aG b c/\Q b H'
def SP (X:Cx) (b:List (Addr×Obj)) (D:nK) (f:Flow) (s':qaj):Prop:=
 match f with
 |.next=>∃ a H',Inv X b a H' s'/\D.nx a H'
 |.brk=>∃ a H',Inv X b a H' s'/\D.bk a H'
 |.cont=>∃ a H',Inv X b a H' s'/\D.ct a H'
 |.ret u=>∃ v a H',Inv X b a H' s'/\aM v u/\D.rt v H'
def PE (X:Cx) (e:Expr) (t:TE):Prop:=
 ∀ (a:List (Addr×Obj)) (s:qaj) (b:St) (H:Hp) (Q:VK),Inv X a b H s->t b H Q->wpAny (model X.prog X.w) X.A (eval e X.env) (EP X a b Q) X.xe s
def PT (X:Cx) (e:Expr) (t:TT):Prop:=
 ∀ (a:List (Addr×Obj)) (s:qaj) (b:St) (H:Hp) (Q:Bool->Hp->Prop),Inv X a b H s->t b H Q->wpAny (model X.prog X.w) X.A (qjs e X.env (eval e X.env)) (TP X a b Q) X.xe s
def PW (X:Cx) (e:Expr) (t:TT):Prop:=
 ∀ (whole:Sem Value) (a:List (Addr×Obj)) (s:qaj) (b:St) (H:Hp) (Q:Bool->Hp->Prop),Inv X a b H s->t b H Q->wpAny (model X.prog X.w) X.A (qjs e X.env whole) (TP X a b Q) X.xe s
def PW.pt {X:Cx}{e:Expr}{t:TT} (h:PW X e t):PT X e t:=h _
def PA (X:Cx) (es:List Expr) (t:TA):Prop:=
 ∀ (pos:Pos) (a:List (Addr×Obj)) (s:qaj) (b:St) (H:Hp) (Q:List V->Hp->Prop),Inv X a b H s->t b H Q->wpAny (model X.prog X.w) X.A (spliced (qeP pos (qbC es X.env))) (AP X a b Q) X.xe s
def PS (X:Cx) (st:Stmt) (t:TS):Prop:=
 ∀ (a:List (Addr×Obj)) (s:qaj) (b:St) (H:Hp) (D:nK),Inv X a b H s->t D b H->wpAny (model X.prog X.w) X.A (exec st X.env) (SP X a D) X.xe s
def PSs (X:Cx) (st:List Stmt) (t:TS):Prop:=
 ∀ (a:List (Addr×Obj)) (s:qaj) (b:St) (H:Hp) (D:nK),Inv X a b H s->t D b H->wpAny (model X.prog X.w) X.A (execs st X.env) (SP X a D) X.xe s
def thn {α:Type}{t:Sem α}{Q Q':α->qaj->Prop}{M:Model}{A:qa0}{E:Value->qaj->Prop}{s:qaj} (h:wpAny M A t Q E s) (b:∀ a s,Q a s->Q' a s):wpAny M A t Q' E s:=qcq h b λ_ _ x=>x
section
variable {X:Cx}
def qP (i:Nat):TE:=λg H Q=>∃ v,g[i]?=some (some v)/\Q v H
def tC (v:V):TE:=λ_ H Q=>Q v H
def ie {i:Nat}{x:Str}{pos:Pos} (hN:X.N[i]?=some x) (B:Vis X.env.scope x) (hd:(x==("__debug__" : Str))=false:=by decide) (F:(x==("__classdict__" : Str))=false:=by decide):PE X (.Name x pos) (qP i):=by
 intro f s g H Q I h;obtain⟨v,e,h⟩:=h;obtain⟨m,hn,K⟩:=I.loc;obtain⟨u,r,l⟩:=K i x v hN e B;have fin:EP X f g Q u s:=⟨v,H,I,r,h⟩;rcases l with⟨A,hm⟩|⟨A,c,D,w⟩
 ·exact qid (wpAny_loadName_local I.ok.kind A hn hm fin) hd
 ·rcases A with A|A
  ·exact qid (wpAny_loadName_cell I.ok.kind A D w fin) hd
  ·exact qid (wpAny_loadName_free I.ok.kind A D w fin F) hd
def CZ {i j pos}:PE X (.Constant (.int i) j pos) (tC (.int i)):=λ_ _ _ H _ I h=>wpAny_Constant_int ⟨.int i,H,I.tok _,⟨_,U⟩,h⟩
def EO {b j pos}:PE X (.Constant (.bool b) j pos) (tC (.bl b)):=λ_ _ _ H _ I h=>Constant_bool ⟨.bl b,H,I,U,h⟩
def C1 {j pos}:PE X (.Constant .none j pos) (tC .non):=λ_ _ _ H _ I h=>Constant_none ⟨.non,H,I,U,h⟩
def C4 {x j pos}:PE X (.Constant (.str x) j pos) (tC (.str x)):=λ_ _ _ H _ I h=>Calls.Constant_str ⟨.str x,H,I.tok _,⟨_,U⟩,h⟩
def Gl (X:Cx) (x:Str):Prop:=X.env.kindOf x=some .globalImplicit
def vz {E:Value->qaj->Prop}{f:List (Addr×Obj)}{s:qaj}{g:St}{H:Hp}{x:Str}{u:Value}{pos:Pos}{Q:Value->qaj->Prop} (I:Inv X f g H s) (hg:Gl X x) (hm:X.mg x=some u) (h:Q u s)
  (hd:(x==("__debug__" : Str))=false:=by decide):wpAny (model X.prog X.w) X.A (eval (.Name x pos) X.env) Q E s:=
 qfF I.ok.kind hg (Calls.loadGlobal_global (by rw[I.ok.glob];exact I.mod.glob.keeps I.bk) hm h) hd
def je {E:Value->qaj->Prop}{f:List (Addr×Obj)}{s:qaj}{g:St}{H:Hp}{x:Str}{u:Value}{pos:Pos}{Q:Value->qaj->Prop} (I:Inv X f g H s) (hg:Gl X x) (hm:X.mg x=none) (B:qcb x=some u) (h:Q u s)
  (hn:x≠"__name__":=by decide) (hd:(x==("__debug__" : Str))=false:=by decide):wpAny (model X.prog X.w) X.A (eval (.Name x pos) X.env) Q E s:=by
 obtain⟨M,J,L⟩:=I.mod.blt;exact qfF I.ok.kind hg (Calls.loadGlobal_builtin (by rw[I.ok.glob];exact I.mod.glob.keeps I.bk) hm (by rw[I.ok.blt];exact J.keeps I.bk) ((L x hn).trans B) h) hd
def AD {x:Str}{v:V}{u:Value}{pos:Pos} (hg:Gl X x) (hm:X.mg x=none) (B:qcb x=some u) (r:aM v u) (hn:x≠"__name__":=by decide) (hd:(x==("__debug__" : Str))=false:=by decide):PE X (.Name x pos) (tC v):=
 λ_ _ _ H _ I h=>je I hg hm B ⟨v,H,I,r,h⟩ hn hd
variable {a b:Expr}{q z:TE}{pos:Pos}
variable {p y:TT}{k:List Expr}
def FY (t u:TT):TT:=λg H Q=>t g H λc H1=>if c=true then u g H1 Q else Q false H1
def tOr (t u:TT):TT:=λg H Q=>t g H λc H1=>if c=true then Q true H1 else u g H1 Q
def F5 (t:TT):TT:=λg H Q=>t g H λc H1=>Q (!c) H1
def AU (o:PT X a p):PW X (.BoolOp .And [a] pos) p:=by
 intro C f s g H Q I h;refine isTrue_and (thn (o f s g H Q I h) λc s1 e=>?_);cases c with
 |true=>exact isTrue_and_nil e
 |false=>exact e
def Dg (o:PT X a p):PW X (.BoolOp .Or [a] pos) p:=by
 intro C f s g H Q I h;refine isTrue_or (thn (o f s g H Q I h) λc s1 e=>?_);cases c with
 |false=>exact isTrue_or_nil e
 |true=>exact e
def zb (o:PT X a p) (hb:PW X (.BoolOp .And (b::k) pos) y):PW X (.BoolOp .And (a::b::k) pos) (FY p y):=by
 intro C f s g H Q I h;refine isTrue_and (thn (o f s g H _ I h) λc s1 ⟨H1,I1,n⟩=>?_);cases c with
 |true=>exact hb C f s1 g H1 Q I1 n
 |false=>exact⟨H1,I1,n⟩
def BI (o:PT X a p) (hb:PW X (.BoolOp .Or (b::k) pos) y):PW X (.BoolOp .Or (a::b::k) pos) (tOr p y):=by
 intro C f s g H Q I h;refine isTrue_or (thn (o f s g H _ I h) λc s1 ⟨H1,I1,n⟩=>?_);cases c with
 |true=>exact⟨H1,I1,n⟩
 |false=>exact hb C f s1 g H1 Q I1 n
def De (o:PT X a p):PT X (.UnaryOp .Not a pos) (F5 p):=by
 intro f s g H Q I h;exact isTrue_not (o f s g H _ I h)
def E9 (q z:TE):TE:=λg H Q=>q g H λx H1=>∃ c,x=.bl c/\if c=true then z g H1 Q else Q (.bl false) H1
def Fj (q:TE):TE:=λg H Q=>q g H λx H1=>∃ c,x=.bl c/\Q (.bl (!c)) H1
def C3 {op}{t:TE} (h:PE X a t):PE X (.BoolOp op [a] pos) t:=λf s g H Q I hw=>BoolOp_one (h f s g H Q I hw)
def yP (o:PE X a q) (hb:PE X (.BoolOp .And (b::k) pos) z):PE X (.BoolOp .And (a::b::k) pos) (E9 q z):=by
 intro f s g H Q I h;refine BoolOp_and (thn (o f s g H _ I h) λv s1 ⟨x,H1,I1,G,n⟩=>?_);obtain⟨c,rfl,n⟩:=n;cases G;refine qc0 ?_;cases c with
 |true=>exact hb f s1 g H1 Q I1 n
 |false=>exact⟨.bl false,H1,I1,U,n⟩
def C2 (o:PE X a q):PE X (.UnaryOp .Not a pos) (Fj q):=by
 intro f s g H Q I h;refine UnaryOp_ (thn (o f s g H _ I h) λv s1 ⟨x,H1,I1,G,n⟩=>?_);obtain⟨c,rfl,n⟩:=n;cases G;exact not_of (qc0 ⟨.bl _,H1,I1,U,n⟩)
def tIf (t:TT) (q z:TE):TE:=λg H Q=>t g H λc H1=>if c=true then q g H1 Q else z g H1 Q
def su {c:Expr} (D:PT X c p) (o:PE X a q) (hb:PE X b z):PE X (.IfExp c a b pos) (tIf p q z):=by
 intro f s g H Q I h;refine wpAny_IfExp (thn (D f s g H _ I h) λd s1 ⟨H1,I1,n⟩=>?_);cases d with
 |true=>exact o f s1 g H1 Q I1 n
 |false=>exact hb f s1 g H1 Q I1 n
end
def SqL (K:qae) (H:Hp) (a:Addr) (xs:List V):Prop:=
 Rd H a (.lst xs)\/
  ∃ (o:Obj) (b:Array Value) (n:Nat),K.lookup a=some o/\o.cls=.type "list"/\o.dict=none/\o.data=.seq b n/\b.size<=qaJ/\aG xs b.toList
def SqT (K:qae) (H:Hp) (a:Addr) (xs:List V):Prop:=
 H a=some (.tup xs)\/
  ∃ (o:Obj) (b:Array Value) (n:Nat),K.lookup a=some o/\o.cls=.type "tuple"/\o.data=.seq b n/\b.size<=qaJ/\aG xs b.toList/\o.dict=none
def Fz:Value->Option V
 |.none=>some .non
 |.bool b=>some (.bl b)
 |.int i _=>some (.int i)
 |.str x _=>some (.str x)
 |.bytes b _=>some (.byt b)
 |.float b _=>some (.flt b)
 |.ref a=>some (.ref a)
 |.type n=>some (.ty n)
 |_=>none
def aM.abs {x:V}{u:Value} (r:aM x u):Fz u=some x:=by
 cases x with
 |non=>cases r;rfl
 |bl _=>cases r;rfl
 |int _=>obtain⟨t,rfl⟩:=r;rfl
 |str _=>obtain⟨t,rfl⟩:=r;rfl
 |byt _=>obtain⟨t,rfl⟩:=r;rfl
 |flt _=>obtain⟨t,rfl⟩:=r;rfl
 |ref _=>cases r;rfl
 |ty _=>cases r;rfl
def aM.inj {x y:V}{u:Value} (r:aM x u) (q:aM y u):x=y:=qaP (r.abs.symm.trans q.abs)
def aG.inj:∀ {xs b:List V}{a:List Value},aG xs a->aG b a->xs=b
 |_,_,_,.nil,.nil=>rfl
 |_,_,_,.cons r t,.cons c t'=>by rw[r.inj c,aG.inj t t']
section
variable {X:Cx}{f:List (Addr×Obj)}{j:St}{H:Hp}{s:qaj}{a:Addr}{xs q:List V}
def SqL.of {K:qae} (h:H a=some (.lst xs)):SqL K H a xs:=.inl (.inl h)
def SqT.of {K:qae} (h:H a=some (.tup xs)):SqT K H a xs:=.inl h
def Inv.list (I:Inv X f j H s) (h:SqL X.K H a xs):∃ b:List Value,aG xs b/\PlainL s.heap a b.toArray/\xs.length<=qaJ:=by
 rcases h with h|⟨o,b,n,i,l,hd,t,v,r⟩
 ·obtain⟨z,b,n,r,e⟩:=h.ok I.hok
  exact⟨b,r,⟨_,n,e,U,U,U⟩,z⟩
 ·refine⟨b.toList,r,⟨o,n,I.kIn a o i,l,hd,by simpa using t⟩,?_⟩
  have e:=r.length;simp only[qc7]at e;lia
def Inv.tuple (I:Inv X f j H s) (h:SqT X.K H a xs):∃ b:List Value,aG xs b/\IsTup s.heap a b.toArray/\xs.length<=qaJ:=by
 rcases h with h|⟨o,b,n,i,l,t,v,r,_⟩
 ·obtain⟨z,b,r,p⟩:=(Rd.of h).ok I.hok
  exact⟨b,r,p.tup,z⟩
 ·refine⟨b.toList,r,⟨o,I.kIn a o i,l,n,by simpa using t⟩,?_⟩
  have e:=r.length;simp only[qc7]at e;lia
def Inv.tuple1 (I:Inv X f j H s) (h:SqT X.K H a xs):∃ o:Obj,s.heap.get? a=some o/\o.cls=.type "tuple"/\o.dict=none:=by
 rcases h with h|⟨o,b,n,i,l,t,v,r,hd⟩
 ·obtain⟨z,b,r,o,e,c,_,hd⟩:=(Rd.of h).ok I.hok
  exact⟨o,e,c,hd⟩
 ·exact⟨o,I.kIn a o i,l,hd⟩
def Inv.list_inj (I:Inv X f j H s) (h:SqL X.K H a xs) (h':SqL X.K H a q):xs=q:=by
 obtain⟨b,r,⟨o,n,e,_,_,d⟩,_⟩:=I.list h;obtain⟨g,u,⟨w,x,m,_,_,k⟩,_⟩:=I.list h';rw[e]at m;cases m;rw[d]at k;injection k with d1 _
 have:=by simpa using congrArg qgl d1
 subst this;exact r.inj u
def Inv.tuple_inj (I:Inv X f j H s) (h:SqT X.K H a xs) (h':SqT X.K H a q):xs=q:=by
 obtain⟨b,r,⟨o,e,_,n,d⟩,_⟩:=I.tuple h;obtain⟨g,u,⟨w,m,_,x,k⟩,_⟩:=I.tuple h';rw[e]at m;cases m;rw[d]at k;injection k with d1 _
 have:=by simpa using congrArg qgl d1
 subst this;exact r.inj u
end
abbrev Cx.wish (X:Cx) (E:Value->qaj->Prop):Cx:={ X with xe:=E }
abbrev Cx.nox (X:Cx):Cx:=X.wish λ_ _=>False
def Cx.Ok.wish {X:Cx} (ok:X.Ok) (E:Value->qaj->Prop):(X.wish E).Ok:=
 ⟨ok.mod,ok.kind,ok.glob,ok.blt,ok.above,ok.inj,ok.has,ok.cab,ok.hd,ok.frames,ok.stk,ok.exf,ok.bs,ok.bsz,ok.noex,ok.exfs,ok.funs,ok.frf⟩
def Cx.Ok.unwish {X:Cx}{E:Value->qaj->Prop} (ok:(X.wish E).Ok):X.Ok:=
 ⟨ok.mod,ok.kind,ok.glob,ok.blt,ok.above,ok.inj,ok.has,ok.cab,ok.hd,ok.frames,ok.stk,ok.exf,ok.bs,ok.bsz,ok.noex,ok.exfs,ok.funs,ok.frf⟩
section
variable {X:Cx}{a:List (Addr×Obj)}{c:St}{H:Hp}{s:qaj}{E:Value->qaj->Prop}
def Inv.wish (I:Inv X a c H s) (E:Value->qaj->Prop):Inv (X.wish E) a c H s:=⟨I.ok.wish E,I.os,I.bare,I.base,I.loc,I.cell,I.free,I.freeC,I.pin,I.hok,I.len⟩
def Inv.unwish (I:Inv (X.wish E) a c H s):Inv X a c H s:=⟨I.ok.unwish,I.os,I.bare,I.base,I.loc,I.cell,I.free,I.freeC,I.pin,I.hok,I.len⟩
def SP.unwish {D:nK}{f:Flow}{s':qaj} (h:SP (X.wish E) a D f s'):SP X a D f s':=by
 cases f with
 |next=>obtain⟨b,H',I,q⟩:=h;exact⟨b,H',I.unwish,q⟩
 |brk=>obtain⟨b,H',I,q⟩:=h;exact⟨b,H',I.unwish,q⟩
 |cont=>obtain⟨b,H',I,q⟩:=h;exact⟨b,H',I.unwish,q⟩
 |ret u=>obtain⟨v,b,H',I,r,q⟩:=h;exact⟨v,b,H',I.unwish,r,q⟩
def PSs.nox {st:List Stmt}{t:TS} (h:PSs X.nox st t):PSs X st t:=λa s c H D I hw=>
 qcq (h a s c H D (I.wish _) hw) (λ_ _ q=>q.unwish) λ_ _ z=>qcw z
end
section
variable {X:Cx}{st:Stmt}{j:List Stmt}{t u:TS}{e:Expr}{te:TE}{pos:Pos}
def Fi:TS:=λD i H=>D.nx i H
def F7 (t u:TS):TS:=λD i H=>t { D with nx:=u D } i H
def AQ:PSs X [] Fi:=λ_ _ i H _ I h=>qeL ⟨i,H,I,h⟩
def dm (n:PS X st t) (w:PSs X j u):PSs X (st::j) (F7 t u):=by
 intro g s i H D I h;refine qiz (thn (n g s i H { D with nx:=u D } I h) λf s1 q=>?_);cases f with
 |next=>
  obtain⟨l,H',I',q⟩:=q;exact w g s1 l H' D I' q
 |ret v=>exact q
 |brk=>exact q
 |cont=>exact q
def vU (n:PS X st t):PSs X [st] t:=by
 intro g s i H D I h;refine qiz (thn (n g s i H D I h) λf s1 q=>?_);cases f with
 |next=>exact qeL q
 |ret v=>exact q
 |brk=>exact q
 |cont=>exact q
def Dv:TS:=λD i H=>D.bk i H
def Fd:TS:=λD i H=>D.ct i H
def y4:PS X (.Break pos) Dv:=λ_ _ i H _ I h=>wpAny_Break ⟨i,H,I,h⟩
def sA:PS X (.Continue pos) Fd:=λ_ _ i H _ I h=>wpAny_Continue ⟨i,H,I,h⟩
def Inv.quiet {g:List (Addr×Obj)}{i:St}{H:Hp}{s:qaj} (I:Inv X g i H s):interactive X.env=false:=by simp[interactive,I.ok.kind]
def Fg (te:TE):TS:=λD i H=>te i H λ_ H1=>D.nx i H1
def AO (m:PE X e te) (z:qcu e none pos.line X.env=pure false:=by rfl):PS X (.Expr e pos) (Fg te):=by
 intro g s i H D I h;exact wpAny_Expr_any (thn (m g s i H _ I h) λv s1 ⟨x,H1,I1,p,k⟩=>⟨i,H1,I1,k⟩) I.quiet z
def F6 (te:TE):TS:=λD i H=>te i H D.rt
def Dc (m:PE X e te):PS X (.Return (some e) pos) (F6 te):=by
 intro g s i H D I h;exact wpAny_Return_some (thn (m g s i H _ I h) λv s1 ⟨x,H1,I1,p,k⟩=>⟨x,i,H1,I1,p,k⟩)
def F1 (c:TT) (t u:TS):TS:=λD i H=>c i H λb H1=>if b=true then t D i H1 else u D i H1
def BG {c:Expr}{a b:List Stmt}{r:TT} (A:PT X c r) (y:PSs X a t) (hb:PSs X b u):PS X (.If c a b pos) (F1 r t u):=by
 intro g s i H D I h;refine wpAny_If (thn (A g s i H _ I h) λd s1 ⟨H1,I1,k⟩=>?_);cases d with
 |true=>exact y g s1 i H1 D I1 k
 |false=>exact hb g s1 i H1 D I1 k
def Dx:TS:=λ_ _ _=>False
def fO {o:List Stmt}:PSs X o Dx:=λ_ _ _ _ _ _ h=>h.elim
end
abbrev TG:=V->St->Hp->(St->Hp->Prop)->Prop
abbrev TGs:=List V->St->Hp->(St->Hp->Prop)->Prop
def PG (X:Cx) (a:Expr) (t:TG):Prop:=
 ∀ (b:List (Addr×Obj)) (s:qaj) (d:St) (H:Hp) (v:V) (u:Value) (Q:St->Hp->Prop),Inv X b d H s->aM v u->t v d H Q->
  wpAny (model X.prog X.w) X.A (qfS a X.env u) (λ_ s'=>∃ c H',Inv X b c H' s'/\Q c H') X.xe s
def PGs (X:Cx) (f:List Expr) (t:TGs):Prop:=
 ∀ (a:List (Addr×Obj)) (s:qaj) (e:St) (H:Hp) (d:List V) (c:List Value) (Q:St->Hp->Prop),Inv X a e H s->aG d c->t d e H Q->
  wpAny (model X.prog X.w) X.A (assignInOrder ((qbY f X.env).map (·.2)) c) (λ_ s'=>∃ b H',Inv X a b H' s'/\Q b H') X.xe s
abbrev BY:=V->V->V->Hp->(Hp->Prop)->Prop
def DL (X:Cx) (t:BY):Prop:=
 ∀ (a:List (Addr×Obj)) (s:qaj) (b:St) (H:Hp) (o i v:V) (c iv u:Value) (Q:Hp->Prop),Inv X a b H s->aM o c->aM i iv->aM v u->t o i v H Q->
  wpAny (model X.prog X.w) X.A (qjo c iv u) (λ_ s'=>∃ H',Inv X a b H' s'/\Q H') X.xe s
section
variable {X:Cx}{pos:Pos}
def rE (i:Nat):TG:=λv d H Q=>Q (d.set i (some v)) H
def gq {i:Nat}{x:Str} (hN:X.N.Nodup) (hi:X.N[i]?=some x) (z:Loc X.env.scope x) (B:X.fn x=true\/X.env.scope.names.lookup x=some .local:=by first|exact .inl U|exact .inr U|assumption):PG X (.Name x pos) (rE i):=by
 intro c s d H v u Q I r h;exact qic (ny I hN hi z r (λs' I'=>⟨_,H,I',h⟩) B)
def FF:TGs:=λA d H Q=>A=[]/\Q d H
def D9 (t:TG) (u:TGs):TGs:=λA d H Q=>∃ v r,A=v::r/\t v d H λL H'=>u r L H' Q
def AH:PGs X [] FF:=by
 intro c s d H A P Q I r h;obtain⟨e,h⟩:=h;exact assignInOrder_nil ⟨d,H,I,h⟩
def yS {e:Expr}{es:List Expr}{t:TG}{u:TGs} (E:PG X e t) (h2:PGs X es u)
  (j:(qbY (e::es) X.env).map (·.2)=qfS e X.env::(qbY es X.env).map (·.2):=by rfl):PGs X (e::es) (D9 t u):=by
 intro c s d H A P Q I r h;obtain⟨v,vr,C,h⟩:=h;subst C;cases r with
 |cons r Y=>
  rw[j];refine assignInOrder_cons (thn (E c s d H _ _ _ I r h) λ_ s1 ⟨J,H1,I1,l⟩=>?_);exact h2 c s1 J H1 _ _ Q I1 Y l
def FH (K:qae) (n:Nat) (t:TGs):TG:=λv d H Q=>∃ a xs,v=.ref a/\SqT K H a xs/\xs.length=n/\t xs d H Q
def C7 {es:List Expr}{k:Nat}{t:TGs}{n:Nat} (V:X.calm=true) (h:PGs X es t)
  (hn:(qbY es X.env).length=n:=by rfl) (F:(qbY es X.env).findIdx? (·.1)=none:=by rfl):PG X (.Tuple es k pos) (FH X.K n t):=by
 intro c s d H v u Q I r hw;obtain⟨a,xs,C,hq,hl,hw⟩:=hw;subst C;cases r;obtain⟨R,N,ht,hz⟩:=I.tuple hq;refine assign_Tuple_tuple (I.ok.hd V) ht (by simp[hn,<-hl,N.length]) F λh' z=>?_;exact h c _ d H xs _ Q (I.kept λb o e=>z b o (qaF (qaw e)) e) (by simpa using N) hw
def FG (to ti:TE) (t:BY):TG:=λv d H Q=>to d H λo H1=>ti d H1 λi H2=>t o i v H2 λH3=>Q d H3
def ur {o i:Expr}{to ti:TE}{t:BY} (S:PE X o to) (hi:PE X i ti) (j:DL X t)
  (W:∀ v,qfS (.Subscript o i pos) X.env v=(do
    let p <-qfK [v] (eval o X.env)
    let iv <-qfK [v,p] (eval i X.env)
    qjm pos
    qfK [v,p,iv] (qjo p iv v)
    release [v,p,iv] []):=by intro _;rfl):PG X (.Subscript o i pos) (FG to ti t):=by
 intro c s d H v u Q I r h;rw[W];refine qac (qct (thn (S c s d H _ I h) λp s1 ⟨x,H1,I1,w,l⟩=>?_));refine qac (qct (thn (hi c s1 d H1 _ I1 l) λiv G ⟨y,H2,I2,T,q2⟩=>?_));refine qac (qfp (qac (qct (thn (j c G d H2 x y v p iv u _ I2 w T r q2) λ_ s3 ⟨H3,I3,O⟩=>?_))));exact wpAny_release ⟨d,H3,I3,O⟩
def Du (te:TE) (g:TG):TS:=λD d H=>te d H λx H1=>g x d H1 D.nx
def uw {m e:Expr}{te:TE}{g:TG} (M:PE X e te) (hg:PG X m g) (j:qfs [m] e pos.line X.env=pure false:=by rfl) (hw:qft [m] e X.env=pure none:=by rfl)
  (E:(qbY [m] X.env).map (·.2)=[qfS m X.env]:=by rfl):PS X (.Assign [m] e pos) (Du te g):=by
 intro c s d H D I h;refine wpAny_Assign_stores (thn (M c s d H _ I h) λv s1 ⟨x,H1,I1,w,l⟩=>?_) j hw;rw[E];exact thn (hg c s1 d H1 x v _ I1 w l) λ_ G q=>q
def Dd {i:Nat}{x:Str}{e:Expr}{te:TE}{f:Pos} (hN:X.N.Nodup) (hi:X.N[i]?=some x) (z:Loc X.env.scope x) (M:PE X e te) (j:qcu e (some (.Name x f)) pos.line X.env=pure false:=by rfl) (B:X.fn x=true\/X.env.scope.names.lookup x=some .local:=by first|exact .inl U|exact .inr U|assumption) :
  PS X (.Assign [.Name x f] e pos) (Du te (rE i)):=by
 intro c s d H D I h;refine wpAny_Assign_Name (thn (M c s d H _ I h) λv s1 ⟨y,H1,I1,w,l⟩=>?_) j;exact ny I1 hN hi z w (λG I2=>⟨_,H1,I2,l⟩) B
end
section
variable {X:Cx}{pos:Pos}
def Dy (c:TT) (k:TS):TS:=λD i H=>∃ W:Nat->St->Hp->Prop,(∃ m,W m i H)/\∀ m i H,W m i H->
 c i H λb H1=>if b=true then ∃ N:St->Hp->Prop,(∀ a H',N a H'->∃ j,j<m/\W j a H')/\k { D with nx:=N,ct:=N,bk:=D.nx } i H1 else D.nx i H1
def y8 {c:Expr}{body:List Stmt}{t:TT}{k:TS} (r:qhq (model X.prog X.w) X.A X.env X.xe) (x:PT X c t) (hb:PSs X body k):PS X (.While c body [] pos) (Dy t k):=by
 intro d s i H D I h;obtain⟨W,⟨m0,w0⟩,turn⟩:=h;refine wpAny_While (codeAny_whileLoop (λn s'=>∃ a H',Inv X d a H' s'/\W n a H') ?_ m0 ⟨i,H,I,w0⟩)
 rintro n s1 ⟨g,H1,I1,w⟩
 refine qcU r (thn (x d s1 g H1 _ I1 (turn n g H1 w)) λb u ⟨H2,I2,l⟩=>?_);cases b with
 |true=>
  obtain⟨N,hN,l⟩:=l;refine qcU r (thn (hb d u g H2 _ I2 l) λf y o=>?_);cases f with
  |next=>
   obtain⟨e,H3,I3,q⟩:=o;obtain⟨j,hm,p⟩:=hN e H3 q;exact⟨j,hm,e,H3,I3,p⟩
  |cont=>
   obtain⟨e,H3,I3,q⟩:=o;obtain⟨j,hm,p⟩:=hN e H3 q;exact⟨j,hm,e,H3,I3,p⟩
  |brk=>exact o
  |ret v=>exact o
 |false=>
  exact qeL ⟨g,H2,I2,l⟩
end
structure It where
 go:Nat->Hp->Prop
 yld:Nat->Hp->V->Hp->Prop
 stop:Nat->Hp->Prop
def iP (X:Cx) (a:List (Addr×Obj)) (H:Hp) (b:Addr):Prop:=
 H b=none/\b≠X.env.locals/\b∉X.fs/\(b∈X.ex\/X.s₀.heap.objs.size<=b)/\(∀ x c,X.env.cells.lookup x=some c->c≠b)/\∀ p∈X.pn++a,p.1≠b
def Inv.fpOk {X:Cx}{a:List (Addr×Obj)}{d:St}{H H':Hp}{s:qaj}{b:Addr} (I:Inv X a d H s) (hb:s.heap.objs.size<=b) (hn:H' b=none):iP X a H' b:=by
 refine⟨hn,qcg (qaV I.lt hb),I.nofs hb,.inr (qaY I.sz hb),λx c e z=>?_,λp f z=>?_⟩
 ·obtain⟨v,q⟩:=I.cell x c e
  exact absurd (qaV q.lt (by rw[z];exact hb)) (qa9 _)
 ·exact absurd (qaV (qaw (I.pin p f).1) (by rw[z];exact hb)) (qa9 _)
structure sZ (P:qaN) (w:World) (K:qae) (tg:Expr) (J:It) (fp:List Addr) (it:Addr) (tn:Nat->Heap->Prop):Prop where
 mem:it∈fp
 obj:∀ i h,tn i h->∀ b∈fp,∃ o,h.get? b=some o/\∀ v,o.data≠.cell v
 keep:∀ i h h',tn i h->(∀ b∈fp,∀ o,h.get? b=some o->h'.get? b=some o)->tn i h'
 item:∀ (X:Cx),X.prog=P->X.w=w->X.K=K->X.calm=true->∀ (i:Nat) (pins:List (Addr×Obj)) (s:qaj) (σ:St) (H:Hp) (E:Value->qaj->Prop),Inv X pins σ H s->(∀ b∈fp,iP X pins H b)->tn i s.heap->J.go i H->
  wpAny (model P w) X.A (qgG (.ref it)) (λr s1=>∃ u,r=some u/\
   wpAny (model P w) X.A (qgg tg (.ref it) u) (λ_ s2=>∃ x H',Inv X pins σ H' s2/\aM x u/\J.yld i H x H'/\tn (i+1) s2.heap/\∀ b∈fp,H' b=none) E s1) E s
 done:∀ (X:Cx),X.prog=P->X.w=w->X.K=K->X.calm=true->∀ (i:Nat) (pins:List (Addr×Obj)) (s:qaj) (σ:St) (H:Hp) (E:Value->qaj->Prop),Inv X pins σ H s->(∀ b∈fp,iP X pins H b)->tn i s.heap->J.stop i H->
  wpAny (model P w) X.A (qgG (.ref it)) (λr s1=>r=none/\Inv X pins σ H s1) E s
 self:∀ (A:qa0) (i:Nat) (s:qaj) (Q:Value->qaj->Prop) (E:Value->qaj->Prop),tn i s.heap->Q (.ref it) s->wpAny (model P w) A (qjp (.ref it)) Q E s
abbrev TI:=St->Hp->(It->Hp->Prop)->Prop
def PIE (X:Cx) (a:List (Addr×Obj)) (i:St) (h:Expr) (R:It->Hp->Prop) (c:Value) (g:qaj):Prop:=
 ∃ (d:Addr) (f:List Addr) (e:Nat->Heap->Prop) (J:It) (H':Hp),c=.ref d/\Inv X a i H' g/\sZ X.prog X.w X.K h J f d e/\e 0 g.heap/\(∀ b∈f,iP X a H' b)/\R J H'
def PI (X:Cx) (c iter:Expr) (d:TI):Prop:=
 ∀ (a:List (Addr×Obj)) (s:qaj) (b:St) (H:Hp) (R:It->Hp->Prop),Inv X a b H s->d b H R->
  wpAny (model X.prog X.w) X.A (eval iter X.env) (λv s1=>wpAny (model X.prog X.w) X.A (qjp v) (PIE X a b c R) X.xe s1) X.xe s
def yg {M:Model}{A:qa0}{E:Value->qaj->Prop}{s:qaj}{b:Expr}{c:Addr}{u:Value}{o:Obj}{n:String}{d:Array Value}{Q:Unit->qaj->Prop} (e:s.heap.get? c=some o) (f:o.cls=.type n) (hd:o.data=.fields d)
  (hn:["enumerate","zip","dict_itemiterator","dict_reverseitemiterator","odict_iterator","itertools.zip_longest","itertools.pairwise"].contains n=false) (a:Q () s):wpAny M A (qgg b (.ref c) u) Q E s:=by
 cases b<;>first
  |exact qaq a
  | (cases u<;>first
      |exact qaq a
      | (refine qac (wpAny_load e ?_)
         rw[f,hd];show wpAny M A (if _=true then _ else _) Q E s;rw[iFN (by intro h;rw[hn]at h;cases h)]
         exact qaq a))
def Itl (K:qae) (a:Addr):It:=
 ⟨λi H=>∃ xs x,SqL K H a xs/\xs[i]?=some x,λi H x H'=>H'=H/\∀ xs,SqL K H a xs->xs[i]?=some x,λi H=>∃ xs,SqL K H a xs/\xs.length<=i⟩
def Itt (K:qae) (a:Addr):It:=
 ⟨λi H=>∃ xs x,SqT K H a xs/\xs[i]?=some x,λi H x H'=>H'=H/\∀ xs,SqT K H a xs->xs[i]?=some x,λi H=>∃ xs,SqT K H a xs/\xs.length<=i⟩
def Itr (lo:Int) (n:Nat):It:=⟨λi _=>i<n,λi H x H'=>H'=H/\x=.int (lo+i),λi _=>n<=i⟩
def xF {P:qaN}{w:World}{K:qae}{M:Expr} (a f:Addr):sZ P w K M (Itl K a) [f] f (λi h=>h.IsListIter f a i) where
 mem:=by simp
 obj:=λi h st b hb=>by
  have e:=by simpa using hb
  subst e;obtain⟨o,e,c,d⟩:=st;exact⟨o,e,λv z=>by rw[d]at z;cases z⟩
 keep:=λi h h' st k=>st.at λo e=>k f (by simp) o e
 item:=by
  intro X q hw B G i g s T H E I l st hg;subst q hw B;obtain⟨xs,x,m,A⟩:=hg;obtain⟨t,n,p,Q⟩:=I.list m;obtain⟨u,L,N⟩:=n.get A;obtain⟨y,D,S,r,C,F⟩:=l f (by simp);refine wpAny_pyNext_list_item st p.isList (by simpa using L) λh' j R=>?_;obtain⟨o,e,c,d⟩:=id j;exact⟨u,U,yg e c d (by decide) ⟨x,H,(I.turned (λb o hb e=>(R.2 b hb).trans e) y D r C F),N,⟨U,λV J=>by rw[I.list_inj J m];exact A⟩,j,λb hb=>(l b hb).1⟩⟩
 done:=by
  intro X q hw B G i g s T H E I l st hg;subst q hw B;obtain⟨xs,m,A⟩:=hg;obtain⟨t,n,p,Q⟩:=I.list m;obtain⟨y,D,S,r,C,F⟩:=l f (by simp);have W:=n.length;exact wpAny_pyNext_list_end (I.ok.hd G) st p.isList (by simp;lia) λh' O=>⟨U,I.turned (λb o hb e=>O b o hb e) y D r C F⟩
 self:=λ_ _ _ _ _ st h=>wpAny_pyIter_listiter st h
def uG {P:qaN}{w:World}{K:qae}{M:Expr} (a f:Addr):sZ P w K M (Itt K a) [f] f (λi h=>h.IsTupleIter f a i) where
 mem:=by simp
 obj:=λi h st b hb=>by
  have e:=by simpa using hb
  subst e;obtain⟨o,e,c,d⟩:=st;exact⟨o,e,λv z=>by rw[d]at z;cases z⟩
 keep:=λi h h' st k=>st.at λo e=>k f (by simp) o e
 item:=by
  intro X q hw B G i g s T H E I l st hg;subst q hw B;obtain⟨xs,x,m,A⟩:=hg;obtain⟨t,n,p,Q⟩:=I.tuple m;obtain⟨u,L,N⟩:=n.get A;obtain⟨y,D,S,r,C,F⟩:=l f (by simp);refine wpAny_pyNext_tuple_item st (p) (by simpa using L) λh' j R=>?_;obtain⟨o,e,c,d⟩:=id j;exact⟨u,U,yg e c d (by decide) ⟨x,H,(I.turned (λb o hb e=>(R.2 b hb).trans e) y D r C F),N,⟨U,λV J=>by rw[I.tuple_inj J m];exact A⟩,j,λb hb=>(l b hb).1⟩⟩
 done:=by
  intro X q hw B G i g s T H E I l st hg;subst q hw B;obtain⟨xs,m,A⟩:=hg;obtain⟨t,n,p,Q⟩:=I.tuple m;obtain⟨y,D,S,r,C,F⟩:=l f (by simp);have W:=n.length;exact wpAny_pyNext_tuple_end (I.ok.hd G) st (p) (by simp;lia) λh' O=>⟨U,I.turned (λb o hb e=>O b o hb e) y D r C F⟩
 self:=λ_ _ _ _ _ st h=>wpAny_pyIter_tupleiter st h
def uF {P:qaN}{w:World}{K:qae}{u:Expr} (a:Addr) (lo:Int) (n:Nat):sZ P w K u (Itr lo n) [a] a (λi h=>IsRangeIter h a (lo+(i:Nat)*1) ((n:Int) - (i:Nat)) 1) where
 mem:=by simp
 obj:=λi h st b hb=>by
  have e:=by simpa using hb
  subst e
  exact⟨_,st,λv z=>by
   cases z⟩
 keep:=λi h h' st k=>k a (by simp) _ st
 item:=by
  intro X r hw C l i c s D H E I f st hg;obtain⟨j,p,B,g,m,q⟩:=f a (by simp);refine (Walks.range (I.ok.hd l) a lo 1 n).item i s _ _ hg st λv h' F y d x=>?_;obtain⟨t,rfl⟩:=y;refine⟨_,U,yg d U U (by decide) ⟨.int _,H,(I.turned (λb o hb e=>x b o (by simpa using hb) e) j p g m q),⟨t,?_⟩,⟨U,U⟩,d,λb hb=>(f b hb).1⟩⟩;rw[qdb]
 done:=by
  intro X r hw C l i c s D H E I f st hg;obtain⟨j,p,B,g,m,q⟩:=f a (by simp);exact wpAny_pyNext_range_end (I.ok.hd l) st (by have:n<=i:=hg;lia) λh' A=>⟨U,I.turned (λb o hb e=>A b o hb e) j p g m q⟩
 self:=λ_ _ _ _ _ st h=>wpAny_pyIter_rangeiter st h
section
variable {X:Cx}{M:Expr}
def Ec (K:qae) (tl:TE):TI:=λk H R=>tl k H λx H1=>∃ a,x=.ref a/\(∃ xs,SqL K H1 a xs)/\R (Itl K a) H1
def FJ (K:qae) (tl:TE):TI:=λk H R=>tl k H λx H1=>∃ a,x=.ref a/\(∃ xs,SqT K H1 a xs)/\R (Itt K a) H1
def AI {l:Expr}{tl:TE} (hl:PE X l tl):PI X M l (Ec X.K tl):=by
 intro c s k H R I h;refine thn (hl c s k H _ I h) λv s1 ⟨x,H1,I1,Q,O⟩=>?_;obtain⟨a,e,⟨xs,hq⟩,q⟩:=O;subst e;cases Q;obtain⟨its,rv,p,hz⟩:=I1.list hq;refine qfH p.isList ?_;refine⟨s1.heap.objs.size,_,_,_,H1,U,I1.kept λb o e=>qai _ e,xF a _,⟨_,qav _ U,U,U⟩,λb hb=>?_,q⟩;have e:=by simpa using hb
 subst e;exact I1.fpOk (qap _) (I1.hok.fresh (qap _))
def C8 {l:Expr}{tl:TE} (hl:PE X l tl):PI X M l (FJ X.K tl):=by
 intro c s k H R I h;refine thn (hl c s k H _ I h) λv s1 ⟨x,H1,I1,Q,O⟩=>?_;obtain⟨a,e,⟨xs,hq⟩,q⟩:=O;subst e;cases Q;obtain⟨its,rv,p,hz⟩:=I1.tuple hq;refine qcR (p) ?_;refine⟨s1.heap.objs.size,_,_,_,H1,U,I1.kept λb o e=>qai _ e,uG a _,⟨_,qav _ U,U,U⟩,λb hb=>?_,q⟩;have e:=by simpa using hb
 subst e;exact I1.fpOk (qap _) (I1.hok.fresh (qap _))
def ze {c:List (Addr×Obj)}{k:St}{H:Hp}{s:qaj}{R:It->Hp->Prop}{E:Value->qaj->Prop}{lo hi:Int}{t u v:Tok}{tk:Nat} (I:Inv X c k H s) (h1:-(2^62)<=lo) (h2:lo<2^62) (h3:-(2^62)<=hi) (h4:hi<2^62)
  (q:R (Itr lo (hi - lo).toNat) H):wpAny (model X.prog X.w) X.A (qjp (.ref s.heap.objs.size)) (PIE X c k M R) E { s with heap:=s.heap.push { cls:=.type "range",data:=.fields #[.int lo t,.int hi u,.int 1 v] },toks:=tk }:=by
 refine wpAny_pyIter_range (IsRange.new ..) (small_one h1 h2 h3 h4) ?_;have I1:Inv X c k H { s with heap:=s.heap.push { cls:=.type "range",data:=.fields #[.int lo t,.int hi u,.int 1 v] },toks:=tk }:=I.kept λb o e=>qai _ e
 refine⟨_,_,_,_,H,U,
  I1.kept λb o e=>qai _ e,uF _ lo (hi - lo).toNat,?_,λb hb=>?_,q⟩
 ·have e1:lo+((0:Nat))*1=lo:=by simp
  have e2:(((hi - lo).toNat)) - ((0:Nat))=qe1 lo hi 1:=by rw[qgW];split<;>lia
  rw[e1,e2];exact qav _ U
 ·have e:b=(s.heap.push { cls:=.type "range",data:=.fields #[.int lo t,.int hi u,.int 1 v] }).objs.size:=by simpa using hb
  subst e;exact I1.fpOk (qap _) (I1.hok.fresh (qap _))
def Ed (ta:TA):TI:=λk H R=>ta k H λvs H1=>∃ j:Int,vs=[.int j]/\-(2^62)<=j/\j<2^62/\R (Itr 0 j.toNat) H1
def xo {a:Expr}{ta:TA}{p pos:Pos} (hg:Gl X "range") (hm:X.mg "range" = none) (ha:PA X [a] ta) (hs:qbC [a] X.env=[(false,eval a X.env)]:=by rfl):PI X M (.Call (.Name "range" p) [a] [] pos) (Ed ta):=by
 intro c s k H R I h;refine Call_ (je I hg hm boot_range (qca (thn (ha pos c s k H _ I h) λus s1 ⟨vs,H1,I1,Q,O⟩=>?_) hs U));obtain⟨j,e,O,q2,q⟩:=O;subst e;cases Q with
 |cons r rr=>
  cases rr;obtain⟨t,rfl⟩:=r;exact call_range_1 (ze I1 (by lia) (by lia) O q2 (by simpa using q))
def F0 (Y:TI) (g:TG) (tb:TS):TS:=λD k H=>Y k H λJ H1=>∃ W:Nat->Nat->St->Hp->Prop,(∃ m,W 0 m k H1)/\∀ i m k H,W i m k H->
 (J.stop i H/\D.nx k H)\/(J.go i H/\∃ N:St->Hp->Prop,(∀ y H',N y H'->∃ m',m'<m/\W (i+1) m' y H')/\∀ x H',J.yld i H x H'->g x k H' λσ2 H2=>tb { D with nx:=N,ct:=N,bk:=D.nx } σ2 H2)
def m8 (A:List Addr) (h:Heap):List (Addr×Obj):=A.filterMap λb=>(h.get? b).map λo=>(b,o)
def cz {A:List Addr}{h:Heap}{b:Addr}{o:Obj} (hb:b∈A) (e:h.get? b=some o):(b,o)∈m8 A h:=qeX.mpr ⟨b,hb,by rw[e];rfl⟩
def xj {A:List Addr}{h:Heap}{p:Addr×Obj} (C:p∈m8 A h):p.1∈A/\h.get? p.1=some p.2:=by
 obtain⟨b,hb,e⟩:=qeX.mp C;cases q:h.get? b with
 |none=>rw[q]at e;cases e
 |some o=>
  rw[q]at e;have e':=qaP e;subst e';exact⟨hb,q⟩
def Inv.pinned {c:List (Addr×Obj)}{k:St}{H:Hp}{s:qaj}{A:List Addr} (I:Inv X c k H s) (hf:∀ b∈A,iP X c H b) (ho:∀ b∈A,∃ o,s.heap.get? b=some o/\∀ v,o.data≠.cell v):Inv X (c++m8 A s.heap) k H s:=
 I.pins_of λp C=>(qaS.mp C).elim (λz=>I.pin p (qau _ z)) λz=>by
  obtain⟨hb,e⟩:=xj z;obtain⟨f0,f1,f2,_⟩:=hf p.1 hb;obtain⟨o,e',d⟩:=ho p.1 hb;rw[e]at e';cases e';exact⟨e,f0,f1,f2,d⟩
def Inv.unpinned {c pl:List (Addr×Obj)}{k:St}{H:Hp}{s:qaj} (I:Inv X (c++pl) k H s):Inv X c k H s:=I.pins_of λp C=>I.pin p (qau _ (qaX _ C))
def Db {iter:Expr}{body:List Stmt}{Y:TI}{g:TG}{tb:TS}{pos:Pos} (C:qhq (model X.prog X.w) X.A X.env X.xe) (hc:X.calm=true) (hi:PI X M iter Y) (hg:PG X M g) (hb:PSs X body tb)
  (hs:∀ x,qbX iter X.env x=pure x:=by intro _;rfl):PS X (.For M iter body [] pos) (F0 Y g tb):=by
 intro c s k H D I h;refine wpAny_For (thn (hi c s k H _ I h) λv s1 h1=>thn h1 λitv s2 h2=>?_) hs;obtain⟨it,A,tn,J,H2,e,I2,T,st2,f2,W,⟨m0,w0⟩,turn⟩:=h2;subst e
 -- what stays true of the iterator's objects through the loop
 have F:∀ {H':Hp},(∀ b∈A,H' b=none)->∀ b∈A,iP X c H' b:=λhn b hb=>⟨hn b hb,(f2 b hb).2⟩;refine codeAny_forLoop_any (λn s'=>∃ i y H',Inv X c y H' s'/\tn i s'.heap/\(∀ b∈A,H' b=none)/\W i n y H') ?_ m0 ⟨0,k,H2,I2,st2,λb hb=>(f2 b hb).1,w0⟩
 rintro n s3 ⟨i,B,H3,I3,V,S,w3⟩
 rcases turn i n B H3 w3 with⟨stop,qn⟩|⟨go,N,hN,step⟩
 ·refine qcU C (thn (T.done X U U U hc i c s3 B H3 X.xe I3 (F S) V stop) λr s4 ⟨hr,I4⟩=>?_)
  subst hr;exact qeL ⟨B,H3,I4,qn⟩
 ·refine qcU C (thn (T.item X U U U hc i c s3 B H3 X.xe I3 (F S) V go) λr s4 ⟨u,hr,h4⟩=>?_)
  subst hr;refine qcU C (thn h4 λ_ s5 ⟨x,H5,I5,r5,y5,L,fr5⟩=>?_);refine qcU C (thn (hg _ s5 B H5 x u _ (I5.pinned (F fr5) (T.obj _ _ L)) r5 (step x H5 y5)) λ_ s6 ⟨σ6,H6,I6,q6⟩=>?_);refine qcU C (thn (hb _ s6 σ6 H6 _ I6 q6) λf s7 G=>?_);have again:∀ {w:St}{H7:Hp},Inv X _ w H7 s7->N w H7->∃ m,m<n/\∃ i y H',Inv X c y H' s7/\tn i s7.heap/\(∀ b∈A,H' b=none)/\W i m y H':=λ{w H7} I7 P=>by
   obtain⟨m',hm,w7⟩:=hN w H7 P;refine⟨m',hm,_,w,H7,I7.unpinned,T.keep _ _ _ L λb hb o e=>(I7.pin (b,o) (qau _ (qau _ (cz hb e)))).1,λb hb=>?_,w7⟩;obtain⟨o,e,d⟩:=T.obj _ _ L b hb;exact (I7.pin (b,o) (qau _ (qau _ (cz hb e)))).2.1
  cases f with
  |next=>obtain⟨w,H7,I7,P⟩:=G;exact again I7 P
  |cont=>obtain⟨w,H7,I7,P⟩:=G;exact again I7 P
  |brk=>obtain⟨w,H7,I7,G⟩:=G;exact⟨w,H7,I7.unpinned,G⟩
  |ret v=>obtain⟨x7,w,H7,I7,r7,G⟩:=G;exact⟨x7,w,H7,I7.unpinned,r7,G⟩
end
abbrev R2:=V->V->Hp->VK->Prop
def OpR (X:Cx) (f:Value->Value->Sem Value) (r:R2):Prop:=
 ∀ (a:List (Addr×Obj)) (s:qaj) (b:St) (H:Hp) (x y:V) (v u:Value) (Q:VK),Inv X a b H s->aM x v->aM y u->r x y H Q->
  wpAny (model X.prog X.w) X.A (f v u) (EP X a b Q) X.xe s
def UnR (X:Cx) (f:Value->Sem Value) (r:V->Hp->VK->Prop):Prop:=
 ∀ (a:List (Addr×Obj)) (s:qaj) (b:St) (H:Hp) (x:V) (v:Value) (Q:VK),Inv X a b H s->aM x v->r x H Q->
  wpAny (model X.prog X.w) X.A (f v) (EP X a b Q) X.xe s
def bI (X:Cx) (f:Value) (r:List V->Hp->VK->Prop):Prop:=
 ∀ (a:List (Addr×Obj)) (s:qaj) (c:St) (H:Hp) (xs:List V) (b:List Value) (Q:VK),Inv X a c H s->aG xs b->r xs H Q->
  wpAny (model X.prog X.w) X.A (call f b) (EP X a c Q) X.xe s
def Fy (X:Cx) (r:V->Hp->(Bool->Hp->Prop)->Prop):Prop:=
 ∀ (a:List (Addr×Obj)) (s:qaj) (b:St) (H:Hp) (x:V) (v:Value) (Q:Bool->Hp->Prop),Inv X a b H s->aM x v->r x H Q->
  wpAny (model X.prog X.w) X.A (truthy v) (TP X a b Q) X.xe s
def tOp (r:R2) (b c:TE):TE:=λa H Q=>b a H λx H1=>c a H1 λy H2=>r x y H2 Q
def tUn (r:V->Hp->VK->Prop) (a:TE):TE:=λb H Q=>a b H λx H1=>r x H1 Q
def rI (C:Int->Int->Prop) (g:Int->Int->V):R2:=λx y H Q=>∃ i j,x=.int i/\y=.int j/\C i j/\Q (g i j) H
def rI0 (g:Int->Int->V):R2:=λx y H Q=>∃ i j,x=.int i/\y=.int j/\Q (g i j) H
def rU (g:Int->V):V->Hp->VK->Prop:=λx H Q=>∃ i,x=.int i/\Q (g i) H
section
variable {X:Cx}{a b c:Expr}{p D O:TE}{pos:Pos}
def B5 (z:PE X a p) (hb:PE X b D) {d:List (Addr×Obj)}{s:qaj}{l:St}{H:Hp}{R:V->V->Hp->Prop} (I:Inv X d l H s)
  (h:p l H λx H1=>D l H1 λy H2=>R x y H2) {Q:Value->qaj->Prop}{f:Value->Value->Sem Value}
  (L:∀ v u o x y H2,Inv X d l H2 o->aM x v->aM y u->R x y H2->wpAny (model X.prog X.w) X.A (f v u) Q X.xe o) :
  wpAny (model X.prog X.w) X.A (eval a X.env) (λv w=>wpAny (model X.prog X.w) X.A (eval b X.env) (λu A=>wpAny (model X.prog X.w) X.A (f v u) Q X.xe A) X.xe w) X.xe s:=by
 refine thn (z d s l H _ I h) λv s1 ⟨x,H1,I1,G,K⟩=>?_;refine thn (hb d s1 l H1 _ I1 K) λu o ⟨y,H2,I2,M,N⟩=>?_;exact L v u o x y H2 I2 G M N
def BF {op:Operator}{r:R2} (J:OpR X (qbH op) r) (z:PE X a p) (hb:PE X b D):PE X (.BinOp a op b pos) (tOp r p D):=by
 intro d s l H Q I h;exact wpAny_BinOp (B5 z hb I h λv u o x y H2 I2 m n q=>J d o l H2 x y v u Q I2 m n q)
def ER {op:UnaryOp}{r:V->Hp->VK->Prop} (J:UnR X (unaryOp op) r) (z:PE X a p):PE X (.UnaryOp op a pos) (tUn r p):=by
 intro d s l H Q I h;exact UnaryOp_ (thn (z d s l H _ I h) λv s1 ⟨x,H1,I1,G,K⟩=>J d s1 l H1 x v Q I1 G K)
def opI {f:Value->Value->Sem Value}{C:Int->Int->Prop}{g:Int->Int->Int}
  (rule:∀ (i j:Int) (t u:Tok) (s:qaj) (Q:Value->qaj->Prop) (E:Value->qaj->Prop),C i j->Q (.int (g i j) s.toks) { s with toks:=s.toks+1 }->wpAny (model X.prog X.w) X.A (f (.int i t) (.int j u)) Q E s) :
  OpR X f (rI C λi j=>.int (g i j)):=by
 intro d s l H x y v u Q I m n h;obtain⟨i,j,rfl,rfl,e,q⟩:=h;obtain⟨t,rfl⟩:=m;obtain⟨t',rfl⟩:=n;exact rule i j t t' s _ _ e ⟨.int _,H,I.tok _,⟨_,U⟩,q⟩
def CL {f:Value->Value->Sem Value}{g:Int->Int->Int}
  (rule:∀ (i j:Int) (t u:Tok) (s:qaj) (Q:Value->qaj->Prop) (E:Value->qaj->Prop),Q (.int (g i j) s.toks) { s with toks:=s.toks+1 }->wpAny (model X.prog X.w) X.A (f (.int i t) (.int j u)) Q E s) :
  OpR X f (rI0 λi j=>.int (g i j)):=by
 intro d s l H x y v u Q I m n h;obtain⟨i,j,rfl,rfl,q⟩:=h;obtain⟨t,rfl⟩:=m;obtain⟨t',rfl⟩:=n;exact rule i j t t' s _ _ ⟨.int _,H,I.tok _,⟨_,U⟩,q⟩
def Aw {f:Value->Value->Sem Value}{g:Int->Int->Bool}
  (rule:∀ (i j:Int) (t u:Tok) (s:qaj) (Q:Value->qaj->Prop) (E:Value->qaj->Prop),Q (.bool (g i j)) s->wpAny (model X.prog X.w) X.A (f (.int i t) (.int j u)) Q E s) :
  OpR X f (rI0 λi j=>.bl (g i j)):=by
 intro d s l H x y v u Q I m n h;obtain⟨i,j,rfl,rfl,q⟩:=h;obtain⟨t,rfl⟩:=m;obtain⟨t',rfl⟩:=n;exact rule i j t t' s _ _ ⟨.bl _,H,I,U,q⟩
def Fv (i j:Int):Prop:=0<j/\j<1073741824
def sY (i j:Int):Prop:=0<=j/\j<=1000000/\i.natAbs<2^64
def zL (i j:Int):Prop:=(-(2^64)<i/\i<2^64)\/(-(2^64)<j/\j<2^64)
def zL.ok {i j:Int} (h:zL i j):qg5 i j:=by
 rcases h with⟨B,F⟩|⟨B,F⟩
 ·exact .of_left (intBits_le_64 B F)
 ·exact .of_right (intBits_le_64 B F)
def uH (k:Nat):(0:Int)<=2^k:=by
 exact Int.natCast_nonneg _
def CM:OpR X (qbH .Add) (rI0 λi j=>.int (i+j)):=CL λ_ _ _ _ _ _ _ q=>add_int q
def CV:OpR X (qbH .Sub) (rI0 λi j=>.int (i - j)):=CL λ_ _ _ _ _ _ _ q=>sub_int q
def Az:OpR X (qbH .FloorDiv) (rI Fv λi j=>.int (i / j)):=opI λi j _ _ _ _ _ e q=>by
 have B:=e.1;have F:=e.2;exact floordiv_int (by lia) (by rw[qdR i (by lia)];exact q) (.inl (PyProof.noPylong_small (by lia)))
def CQ:OpR X (qbH .Mod) (rI (λ_ j=>0<j) λi j=>.int (i%j)):=opI λi j _ _ _ _ _ e q=>by
 exact mod_int' (by lia) (by rw[Int.fmod_eq_emod_of_nonneg i (by lia)];exact q)
def CS:OpR X (qbH .Pow) (rI sY λi j=>.int (i^j.toNat)):=opI λ_ _ _ _ _ _ _ e q=>pow_int_small e.1 e.2.1 e.2.2 q
def CT:OpR X (qbH .LShift) (rI sY λi j=>.int (i*2^j.toNat)):=opI λ_ _ _ _ _ _ _ e q=>lshift_int_small e.1 e.2.1 e.2.2 q
def CU:OpR X (qbH .RShift) (rI (λ_ j=>0<=j) λi j=>.int (i / 2^j.toNat)):=opI λi j _ _ _ _ _ e q=>
 rshift_int e (by rw[qdR i (uH _)];exact q)
def CN:OpR X (qbH .BitAnd) (rI0 λi j=>.int (qcd i j)):=CL λ_ _ _ _ _ _ _ q=>and_int q
def unI {f:Value->Sem Value}{g:Int->Int}
  (rule:∀ (i:Int) (t:Tok) (s:qaj) (Q:Value->qaj->Prop) (E:Value->qaj->Prop),Q (.int (g i) s.toks) { s with toks:=s.toks+1 }->wpAny (model X.prog X.w) X.A (f (.int i t)) Q E s) :
  UnR X f (rU λi=>.int (g i)):=by
 intro d s l H x v Q I m h;obtain⟨i,rfl,q⟩:=h;obtain⟨t,rfl⟩:=m;exact rule i t s _ _ ⟨.int _,H,I.tok _,⟨_,U⟩,q⟩
def DC:UnR X (unaryOp .USub) (rU λi=>.int (-i)):=unI λ_ _ _ _ _ q=>neg_int q
end
section
variable {X:Cx}{a b c:Expr}{D M tc:TE}{pos:Pos}
def yd {d:List (Addr×Obj)}{f:St}{H:Hp}{s:qaj}{Q:VK}{k k':Bool} (I:Inv X d f H s) (q:Q (.bl k) H) (e:k=k'):EP X d f Q (.bool k') s:=by
 subst e;exact⟨.bl k,H,I,U,q⟩
def EM:OpR X (qbN .Lt) (rI0 λi j=>.bl (decide (i<j))):=Aw λ_ _ _ _ _ _ _ q=>lt_int q
def EL:OpR X (qbN .LtE) (rI0 λi j=>.bl (decide (i<=j))):=Aw λ_ _ _ _ _ _ _ q=>le_int q
def EK:OpR X (qbN .Gt) (rI0 λi j=>.bl (decide (j<i))):=Aw λ_ _ _ _ _ _ _ q=>gt_int q
def EJ:OpR X (qbN .GtE) (rI0 λi j=>.bl (decide (j<=i))):=Aw λ_ _ _ _ _ _ _ q=>ge_int q
def CO:OpR X (qbN .Is) (λx y H Q=>y=.non/\Q (.bl (decide (x=.non))) H):=by
 intro d s f H x y v u Q I l C h;obtain⟨rfl,q⟩:=h;cases C;refine is_none_gen (yd I q ?_);cases x<;>first
  |(rfl)
  |(obtain⟨t,rfl⟩:=l;rfl)
def AB:OpR X (qbN .IsNot) (λx y H Q=>y=.non/\Q (.bl (!decide (x=.non))) H):=by
 intro d s f H x y v u Q I l C h;obtain⟨rfl,q⟩:=h;cases C;refine isnot_none_gen (yd I q ?_);cases x<;>first
  |(rfl)
  |(obtain⟨t,rfl⟩:=l;rfl)
def AE {op:CmpOp}{r:R2} (R:OpR X (qbN op) r) (J:PE X a D) (hb:PE X b M) (hm:qfv op b=false):PE X (.Compare a [op] [b] pos) (tOp r D M):=by
 intro d s f H Q I h;exact wpAny_Compare1 (B5 J hb I h λv u S x y H2 I2 l C q=>R d S f H2 x y v u Q I2 l C q) hm
def Fm (t:TE):TT:=λf H Q=>t f H λx H'=>∃ k,x=.bl k/\Q k H'
def AR {op:CmpOp}{r:R2} (R:OpR X (qbN op) r) (J:PE X a D) (hb:PE X b M) (hm:qfv op b=false):PT X (.Compare a [op] [b] pos) (Fm (tOp r D M)):=by
 intro d s f H Q I h
 refine wpAny_isTrue_Compare1 (thn (J d s f H _ I h) λv s1 ⟨x,H1,I1,w,T⟩=>thn (hb d s1 f H1 _ I1 T) λu S ⟨y,H2,I2,G,q2⟩=>
  thn (R d S f H2 x y v u _ I2 w G q2) λc s3 ⟨z,H3,I3,W,k,e,q3⟩=>?_) hm
 subst e;cases W;exact qc0 ⟨H3,I3,q3⟩
def zP (K:qae) (x:V) (H:Hp) (k:Bool):Prop:=
 match x with
 |.non=>k=false
 |.bl b=>k=b
 |.int i=>k=(i != 0)
 |.str y=>y.length<=qaJ/\k=((y.length:Int) != 0)
 |.byt y=>y.size<=qaJ/\k=((y.size:Int) != 0)
 |.ref p=>(∃ xs,SqL K H p xs/\k=!xs.isEmpty)\/(∃ xs,SqT K H p xs/\k=!xs.isEmpty)\/∃ g,H p=some (.dK g)/\k=!g.isEmpty
 |_=>False
def tZ {Y:Type}{g:List (Y×V)}{E:List (Y×Value)} (r:KV g E):(!E.isEmpty)=!g.isEmpty:=by
 cases r<;>rfl
def mJ {xs:List V}{o:List Value} (r:aG xs o):(!o.toArray.isEmpty)=!xs.isEmpty:=by
 cases r<;>simp
def kA:(qaJ:Nat)<2^63:=by decide
def Dz:Fy X (λx H Q=>∃ k,zP X.K x H k/\Q k H):=by
 intro d s f H x v Q I l h;obtain⟨k,e,q⟩:=h;have hs:=qdj;cases x with
 |non=>
  cases l;subst e;exact truthy_none ⟨H,I,q⟩
 |bl b=>
  cases l;subst e;exact qc0 ⟨H,I,q⟩
 |int i=>
  obtain⟨t,rfl⟩:=l;subst e;exact PySem.P.truthy_int ⟨H,I,q⟩
 |str y=>
  obtain⟨t,rfl⟩:=l;obtain⟨hy,n⟩:y.length<=qaJ/\k=_:=e;subst n;exact PySem.P.truthy_str (by lia) ⟨H,I.tok _,q⟩
 |byt y=>
  obtain⟨t,rfl⟩:=l;obtain⟨hy,n⟩:y.size<=qaJ/\k=_:=e;subst n;exact PySem.W.truthy_bytes (by lia) ⟨H,I.tok _,q⟩
 |ref p=>
  cases l;have n:=e;rcases n with⟨xs,F,n⟩|⟨xs,F,n⟩|⟨g,F,n⟩
  ·subst n
   obtain⟨o,r,P,N⟩:=I.list F;have B:=r.length;exact wpAny_truthy_list P.isList (by simp only[qaI];lia) ⟨H,I.tok _,by rw[mJ r];exact q⟩
  ·subst n
   obtain⟨o,r,P,N⟩:=I.tuple F;have B:=r.length;exact truthy_tuple P (by simp only[qaI];lia) ⟨H,I.tok _,by rw[mJ r];exact q⟩
  ·subst n
   obtain⟨N,hS,E,r,m⟩:g.length<=qaJ/\(p==qcr)=false/\∃ E,KV g E/\s.heap.DictOf _ p E:=I.hok p _ F;have B:=qeG r;exact wpAny_truthy_dict hS m (by lia) ⟨H,I.tok _,by rw[tZ r];exact q⟩
 |_=>exact (show False from e).elim
def y9 (J:PE X a D) (he:∀ whole,qjs a X.env whole=(do let v <-whole;qjm a.pos;qfK [v] (truthy v))) :
  PT X a (λf H Q=>D f H λx H'=>∃ k,zP X.K x H' k/\Q k H'):=by
 intro d s f H Q I h;exact isTrue_plain (thn (J d s f H _ I h) λv s1 ⟨x,H1,I1,w,T⟩=>Dz d s1 f H1 x v Q I1 w T) (he _)
def uq:OpR X (qbH .Add) (λx y H Q=>∃ i j,x=.str i/\y=.str j/\i.length+j.length<=qaJ/\Q (.str (i++j)) H):=by
 intro d s f H x y v u Q I l C h;obtain⟨i,j,rfl,rfl,N,q⟩:=h;obtain⟨t,rfl⟩:=l;obtain⟨t',rfl⟩:=C;exact add_str (λt' tk=>⟨.str _,H,I.tok _,⟨_,U⟩,q⟩) N
def gC {x:V}{A:List Value} (r:aG [x] A):∃ u,A=[u]/\aM x u:=by
 cases r with
 |cons w G=>cases G;exact⟨_,U,w⟩
def Fp {x y:V}{A:List Value} (r:aG [x,y] A):∃ u O,A=[u,O]/\aM x u/\aM y O:=by
 cases r with
 |cons w G=>
  cases G with
  |cons W r4=>cases r4;exact⟨_,_,U,w,W⟩
def xV:bI X (.builtin "abs") (λxs H Q=>∃ i,xs=[.int i]/\Q (.int (if i<0 then -i else i)) H):=by
 intro d s f H xs A Q I r h;obtain⟨i,rfl,q⟩:=h;obtain⟨u,rfl,t,rfl⟩:=gC r;exact call_abs_int λu tk=>⟨.int _,H,I.tok _,⟨_,U⟩,q⟩
def wC (hc:X.calm=true):bI X (.builtin "min") (λxs H Q=>∃ i j,xs=[.int i,.int j]/\Q (.int (if j<i then j else i)) H):=by
 intro d s f H xs A Q I r h;obtain⟨i,j,rfl,q⟩:=h;obtain⟨u,O,rfl,⟨t,rfl⟩,⟨t',rfl⟩⟩:=Fp r;refine min_two_ints (I.ok.hd hc) λh' tk k=>⟨_,H,I.kept k,?_,q⟩;by_cases L:j<i
 ·rw[iFP L,iFP L];exact⟨_,U⟩
 ·rw[iFN L,iFN L];exact⟨_,U⟩
def oi:bI X (.type "int") (λxs H Q=>(∃ i,xs=[.int i]/\Q (.int i) H)\/∃ k,xs=[.bl k]/\Q (.int (if k then 1 else 0)) H):=by
 intro d s f H xs A Q I r h;rcases h with⟨i,rfl,q⟩|⟨k,rfl,q⟩
 ·obtain⟨u,rfl,t,rfl⟩:=gC r
  exact call_int_int ⟨.int i,H,I,⟨_,U⟩,q⟩
 ·obtain⟨u,rfl,w⟩:=gC r
  cases w;exact call_int_bool ⟨.int _,H,I.tok _,⟨_,U⟩,q⟩
end
structure wu (h:Heap) (x dx C:Addr) (mA:Str->Option Value):Prop where
 obj:h.get? x=some (qc9 C dx)
 ns:h.Ns1 dx mA
 ne:dx≠x
def xg {h:Heap}{d:Addr}{f:Str->Option Value} (n:h.Ns1 d f):∃ c,h.get? d=some c/\∀ name,qfw name c=some (f name):=by
 obtain⟨o,es,l,k,hd,i,_,hm⟩:=n;refine⟨o,k,λname=>?_⟩;have e:=hm name;unfold nsFind findBy at e;rw[<-Array.find?_toList]at e;unfold qfw;rw[hd];dsimp only;split
 ·rename_i y q
  rw[q]at e;exact congrArg some e
 ·rename_i q
  rw[q]at e;have a:es.toList.any (·.refKey)=false:=by
   rw[qe5];intro y g;obtain⟨z,t,b⟩:=i y (Array.mem_toList_iff.mp g);simp[DictEntry.refKey,b]
  have j:¬ es.toList.any (·.refKey)=true:=by rw[a];exact qaL
  rw[iFN j];exact congrArg some e
def wu.look {h:Heap}{x c C:Addr}{b:Str->Option Value} (I:wu h x c C b):∃ a,PySem.W.InstAt h x (qc9 C c) C (some a)/\∀ name,qfw name a=some (b name):=
 let ⟨a,ho,hl⟩:=xg I.ns
 ⟨a,⟨I.obj,U,U,ho⟩,hl⟩
section
variable {prog:qaN}{w:World}{A:qa0}{E:Value->qaj->Prop}{s:qaj}{K:qae}{x g C f:Addr}{e:Str->Option Value}{name:Str}{v:Value}
def z9 {a:Bool}{Q:Value->qaj->Prop} (X:K.In s.heap) (I:wu s.heap x g C e) (hg:qd1 K C name=true) (i:qdO K C=true)
  (G:qcc K (.ref C) name=some none) (L:e name=some v) (k:qgI v=true) (h:Q v { s with toks:=s.toks+1 }) :
  wpAny (model prog w) A (getAttr (.ref x) name a) Q E s:=by
 obtain⟨u,J,q⟩:=I.look;exact PySem.W.get_value X J (PySem.W.plainGet_of hg).1 (PySem.W.findObj_own i G U (by rw[q,L])) k h
def A9 {ns:List Str}{Q:Unit->qaj->Prop} (X:K.In s.heap) (I:wu s.heap x g C e)
  (D:qcc K (.ref C) "__setattr__" = some (some (.builtin "object.__setattr__"))) (B:qeQ K C=true) (H:qe9 K C name=some none) (i:qdO K C=true)
  (hw:qgj e ns) (t:ns.length<=qaJ)
  (h:∀ h',wu h' x g C (λy=>if y=name then some v else e y)->qdc g s.heap h'->Q () { s with heap:=h',toks:=s.toks+2 }) :
  wpAny (model prog w) A (setAttr (.ref x) name v) Q E s:=by
 obtain⟨u,J,q⟩:=I.look;refine PySem.W.set_plain X J D (PySem.W.osa_open X J B H λb=>?_);obtain⟨O,F,l⟩:=PySem.W.any_some i;refine qac (qaq (qac (qac (wpAny_loadPart I.obj (qac (qik (PySem.W.looks_clsIn X F) ?_))))));rw[l];refine qaq (qac (qaq (qac ?_)));refine wpAny_nsSet1 I.ns λh' d c=>?_;obtain⟨N,M,z,m,o,j⟩:=d.count (qjb name v hw);refine qac (wpAny_lookBehind m (by rw[o];exact pastItsLine_dict (qaY j (by rw[qan];lia))) ?_);exact qaq (h _ ⟨(c.2 _ (qbL I.ne)).trans I.obj,d,I.ne⟩ c)
def yC {R:qjw->qaj->Prop}{p:List Value}{n:List (Str×Value)} (X:K.In s.heap) (hm:qfa K C=true)
  (hi:qcc K (.ref C) "__init__" = some (some (.ref f))) (r:PySem.W.typeIn K (.ref f)=some (.type "function"))
  (h:qe7 (model prog w) (A.under (.builtin "type.__call__" ⟨.ref C::p,n⟩)) (.call (.ref f) ⟨.ref (s.heap.objs.size+1)::p,n⟩) (PySem.W.InitBack (s.heap.objs.size+1) R)
    { s with heap:=(s.heap.push qcM).push (qc9 C s.heap.objs.size) }) :
  qe7 (model prog w) A (.call (.ref C) ⟨p,n⟩) R s:=by
 exact PySem.W.make_core (PySem.W.makes_of X hm) (PySem.W.looks_findIn X hi) (λself=>PySem.W.bind_fn X self r) (.inl U) h
end
def fP (f:Str) (v:V):List (Str×V)->List (Str×V)
 |[]=>[(f,v)]
 |(g,x)::r=>if g=f then (g,v)::r else (g,x)::fP f v r
def kS (f g:Str) (v:V):∀ fs:List (Str×V),(fP f v fs).lookup g=if g=f then some v else fs.lookup g
 |[]=>by
  show qdK g [(f,v)]=_;by_cases h:g=f
  ·simp only[qdK,(beq_iff_eq.mpr h),iFP h]
  ·simp only[qdK,(beq_eq_false_iff_ne.mpr h),iFN h]
 |(k,x)::r=>by
  rw[show fP f v _=(if k=f then (k,v)::r else (k,x)::fP f v r) from U];by_cases a:k=f
  ·rw[iFP a]
   by_cases h:g=k
   ·simp only[qdK,(beq_iff_eq.mpr h),iFP (h.trans a)]
   ·simp only[qdK,(beq_eq_false_iff_ne.mpr h),iFN (λe:g=f=>h (e.trans a.symm))]
  ·rw[iFN a]
   by_cases h:g=k
   ·simp only[qdK,(beq_iff_eq.mpr h),iFN (λe=>a (h.symm.trans e))]
   ·simp only[qdK,(beq_eq_false_iff_ne.mpr h)]
    exact (kS f g v r)
def kz (f:Str) (v:V):∀ fs:List (Str×V),f∈(fP f v fs).map (·.1)/\∀ g,g∈fs.map (·.1)->g∈(fP f v fs).map (·.1)
 |[]=>⟨by simp[fP],λg h=>by simp at h⟩
 |(k,x)::r=>by
  obtain⟨b,c⟩:=kz f v r;rw[show fP f v _=(if k=f then (k,v)::r else (k,x)::fP f v r) from U];by_cases a:k=f
  ·subst a
   exact⟨by simp,λg h=>by simpa using h⟩
  ·rw[iFN a]
   refine⟨?_,λg h=>?_⟩
   ·exact qak _ b
   ·rcases qaA.mp h with e|e
    ·exact qaA.mpr (.inl e)
    ·exact qak _ (c g e)
def kQ (f:Str) (v:V):∀ fs:List (Str×V),(fP f v fs).length<=fs.length+1
 |[]=>by simp[fP]
 |(k,x)::r=>by
  have b:=kQ f v r;rw[show fP f v _=(if k=f then (k,v)::r else (k,x)::fP f v r) from U];by_cases a:k=f
  ·rw[iFP a,qan,qan];lia
  ·rw[iFN a,qan,qan];lia
def kX.some_of {v:V}{o:Option Value} (r:kX (some v) o):∃ u,o=some u/\aM v u:=by
 cases o with
 |none=>exact (r).elim
 |some u=>exact⟨u,U,r⟩
def wN {v:V}{u:Value} (r:aM v u):qgI u=true:=by
 cases v with
 |non=>cases (r);rfl
 |bl b=>cases (r);rfl
 |int i=>obtain⟨t,e⟩:=(r);cases e;rfl
 |str x=>obtain⟨t,e⟩:=(r);cases e;rfl
 |byt b=>obtain⟨t,e⟩:=(r);cases e;rfl
 |flt b=>obtain⟨t,e⟩:=(r);cases e;rfl
 |ref a=>cases (r);rfl
 |ty n=>cases (r);rfl
section
variable {P:qaN}{w:World}{H H':Hp}{h h':Heap}{a C c:Addr}{fs g:List (Str×V)}
def pO (hok:HOk P w H h) (e:H a=some (.ins C c fs)):∃ b,wu h a c C b/\(∀ f,kX (fs.lookup f) (b f))/\qgj b (fs.map (·.1))/\fs.length<=1000/\H c=some (.own a):=by
 obtain⟨d,z,ne,ob,b,n,r,q⟩:=(hok a _ e);exact⟨b,⟨ob,n,ne⟩,r,q,z,d⟩
end
structure Cls (K:qae) (C:Addr):Prop where
 pg:qd1 K C Str.empty=true
 hd:qdO K C=true
 po:qeQ K C=true
 sa:qcc K (.ref C) "__setattr__" = some (some (.builtin "object.__setattr__"))
def Cls.get {K:qae}{C:Addr} (c:Cls K C) (f:Str):qd1 K C f=true:=c.pg
def cp (K:qae) (C:Addr) (f:Str):Prop:=qcc K (.ref C) f=some none
def cp.taker {K:qae}{C:Addr}{f:Str} (n:cp K C f):qe9 K C f=some none:=by
 unfold qe9;rw[n];rfl
section
variable {X:Cx}{d:List (Addr×Obj)}{i:St}{H:Hp}{s:qaj}{a C k:Addr}{fs:List (Str×V)}{f:Str}{v:V}{A:qa0}{E:Value->qaj->Prop}
def tT {b:Bool}{Q:Value->qaj->Prop} (I:Inv X d i H s) (e:H a=some (.ins C k fs)) (c:Cls X.K C) (n:cp X.K C f) (l:fs.lookup f=some v)
  (h:∀ u s',Inv X d i H s'->aM v u->Q u s'):wpAny (model X.prog X.w) A (getAttr (.ref a) f b) Q E s:=by
 obtain⟨B,O,r,_,_,_⟩:=pO I.hok e;obtain⟨u,F,p⟩:=kX.some_of (by rw[<-l];exact r f);exact z9 I.kIn O (c.get f) c.hd n F (wN p) (h u _ (I.tok _) p)
def uB {y:V}{u:Value}{Q:Unit->qaj->Prop} (I:Inv X d i H s) (e:H a=some (.ins C k fs)) (c:Cls X.K C) (n:cp X.K C f) (N:fs.length<1000) (L:aM y u)
  (h:∀ s',Inv X d i (upd H a (.ins C k (fP f y fs))) s'->Q () s'):wpAny (model X.prog X.w) A (setAttr (.ref a) f u) Q E s:=by
 obtain⟨B,O,r,t,_,x⟩:=pO I.hok e;have J:(fs.map (·.1)).length<=qaJ:=by rw[qag,qdj];lia
 refine A9 I.kIn O c.sa c.po n.taker c.hd t J λh' O' K=>h _ ?_;refine I.write (by rw[e];exact True.intro) (.inr x) (λb q hb z=>(K.2 b hb).trans z) (let ⟨o,_,_,e',_⟩:=O'.ns;⟨o,e'⟩) ?_;refine⟨by rw[upd_ne O.ne];exact x,?_,O.ne,O'.obj,_,O'.ns,λg=>?_,λg hg=>?_⟩
 ·have:=kQ f y fs;lia
 ·rw[kS]
  by_cases q:g=f
  ·rw[iFP q,iFP q];exact L
  ·rw[iFN q,iFN q];exact r g
 ·by_cases q:g=f
  ·rw[q];exact (kz f y fs).1
  ·refine (kz f y fs).2 g (t g λz=>hg ?_)
   show (if g=f then some u else B g)=none;rw[iFN q];exact z
def Inv.made (I:Inv X d i H s):Inv X d i (upd (upd H s.heap.objs.size (.own (s.heap.objs.size+1))) (s.heap.objs.size+1) (.ins C s.heap.objs.size []))
  { s with heap:=(s.heap.push qcM).push (qc9 C s.heap.objs.size) }:=by
 have m:(s.heap.push qcM).get? s.heap.objs.size=some qcM:=qav s.heap U;have G:=by
  have:=qav (s.heap.push qcM) (o:=qc9 C s.heap.objs.size) U
  rwa [qbv]at this
 refine (I.laid (o:=.own _) (t':=s.toks) (λb u q=>qai _ q) (qap _) ⟨_,m⟩).laid (λb u q=>qai _ q) (qdC (qbv _ _)) ?_;have ne:s.heap.objs.size≠s.heap.objs.size+1:=qaF (qb3 _);refine⟨by rw[upd_ne ne,upd_same],qcl _,ne,G,_,(Heap.Ns1.of_empty ⟨qcM,_,_,m,U,(λe M=>absurd M (by simp)),λ_=>rfl⟩).at λo q=>qai _ q,λ_=>True.intro,λy D=>absurd U D⟩
def zR {prog:qaN}{w:World}{env:Env}{e:Expr}{f:Str}{pos:Pos}{s:qaj}{Q:Value->qaj->Prop} (hb:qdv e f env (eval e env)=eval e env)
  (h:wpAny (model prog w) A (eval e env) (λo j=>wpAny (model prog w) A (getAttr o f true) Q E j) E s):wpAny (model prog w) A (eval (.Attribute e f pos) env) Q E s:=
 Attribute_any_ h (by rw[arm_eval_Attribute,hb])
end
def FZ (K:qae) (b:TE) (f:Str):TE:=λc H Q=>b c H λx H1=>∃ a C d fs v,x=.ref a/\H1 a=some (.ins C d fs)/\Cls K C/\cp K C f/\fs.lookup f=some v/\Q v H1
def FW (K:qae) (d e:TE) (f:Str):TS:=λD b H=>e b H λy H1=>d b H1 λx H2=>∃ a C c fs,x=.ref a/\H2 a=some (.ins C c fs)/\Cls K C/\cp K C f/\fs.length<1000/\
 D.nx b (upd H2 a (.ins C c (fP f y fs)))
section
variable {X:Cx}{o e b:Expr}{f:Str}{pos g r:Pos}{j p:TE}
def CY (K:PE X e j) (hb:qdv e f X.env (eval e X.env)=eval e X.env):PE X (.Attribute e f pos) (FZ X.K j f):=by
 intro d s i H Q I h;refine zR hb (thn (K d s i H _ I h) λu s1 ⟨x,H1,I1,m,a,C,t,fs,v,ex,k,c,n,l,q⟩=>?_);subst ex;obtain rfl:u=Value.ref a:=m;exact tT I1 k c n l λM E I2 w=>⟨v,H1,I2,w,q⟩
def y7 (A:PE X o j) (G:PE X b p) (z:qcu b (some (.Attribute o f g)) pos.line X.env=pure false):PS X (.Assign [.Attribute o f g] b pos) (FW X.K j p f):=by
 intro d s i H D I h;refine plainObj_wpAny_Assign_Attribute (thn (G d s i H _ I h) λu s1 ⟨y,H1,I1,J,q⟩=>thn (A d s1 i H1 _ I1 q) λF E ⟨x,H2,I2,m,a,C,t,fs,ex,k,c,n,l,B⟩=>?_) z;subst ex;obtain rfl:F=Value.ref a:=m;exact uB I2 k c n l J λL I3=>⟨i,_,I3,B⟩
end
section
variable {X:Cx}{j:List (Addr×Obj)}{r:St}{H:Hp}{s:qaj}{A:qa0}{E:Value->qaj->Prop}{Q:Value->qaj->Prop}{c:Value}{b:Bool}
inductive kY (K:qae) (H:Hp):V->Value->Prop where
 |non:kY K H .non (.type "NoneType")
 |bl (x:Bool):kY K H (.bl x) (.type "bool")
 |int (i:Int):kY K H (.int i) (.type "int")
 |str (x:Str):kY K H (.str x) (.type "str")
 |flt (x:UInt64):kY K H (.flt x) (.type "float")
 |lst {a:Addr}{xs:List V} (e:H a=some (.lst xs)):kY K H (.ref a) (.type "list")
 |frz {a:Addr}{o:Obj}{xs:List V} (e:H a=some (.frz o (.lst xs))):kY K H (.ref a) (.type "list")
 |tup {a:Addr}{xs:List V} (e:H a=some (.tup xs)):kY K H (.ref a) (.type "tuple")
 |dK {a:Addr}{kvs:List (Key×V)} (e:H a=some (.dK kvs)):kY K H (.ref a) (.type "dict")
 |dT {a:Addr}{kvs:List (List Key×V)} (e:H a=some (.dT kvs)):kY K H (.ref a) (.type "dict")
 |ins {a C dx:Addr}{fs:List (Str×V)} (e:H a=some (.ins C dx fs)) (cl:Cls K C) (ha:qcc K (.ref C) "__class__" = some (some (.builtin "object.__class__")))
   (hn:PySem.W.specialIn K (.builtin "object.__class__") "__get__" = some (some (.builtin "getset_descriptor.__get__"))) (htk:PySem.W.takesIn K (.builtin "object.__class__")=some true)
   (hm:PySem.W.mroIn K C (.type "object")=some true):kY K H (.ref a) (.ref C)
def bU {x:V}{u t:Value} (I:Inv X j r H s) (d:aM x u) (ty:kY X.K H x t) (e:qhb X.K t c=some b) (h:∀ m,Q (.bool b) { s with toks:=m }) :
  wpAny (model X.prog X.w) A (call (.builtin "isinstance") [u,c]) Q E s:=by
 cases ty with
 |non=>cases (d);exact qbP PySem.W.kitx_none I.kIn True.intro e (λz=>nomatch z) h
 |bl y=>cases (d);exact qbP PySem.W.kitx_bool I.kIn True.intro e (λz=>nomatch z) h
 |int i=>obtain⟨t,q⟩:=(d);cases q;exact qbP PySem.W.kitx_int I.kIn True.intro e (λz=>nomatch z) h
 |str y=>obtain⟨t,q⟩:=(d);cases q;exact qbP PySem.W.kitx_str I.kIn True.intro e (λz=>nomatch z) h
 |flt y=>obtain⟨t,q⟩:=(d);cases q;exact qbP PySem.W.kitx_float I.kIn True.intro e (λz=>nomatch z) h
 |@lst a xs f=>
  cases (show u=Value.ref a from d);obtain⟨_,_,n,_,g⟩:=(I.hok a _ f);exact qbP qgu I.kIn ⟨_,g,U⟩ e (λz=>nomatch z) h
 |@frz a ob xs f=>
  cases (d);obtain⟨_,_,_,n,_,g⟩:=(I.hok a _ f);exact qbP qgu I.kIn ⟨_,g,U⟩ e (λz=>nomatch z) h
 |@tup a xs f=>
  cases (show u=Value.ref a from d);obtain⟨_,_,_,p⟩:=(I.hok a _ f);obtain⟨o,g,k,_⟩:=p;exact qbP qgo I.kIn ⟨o,g,k⟩ e (λz=>nomatch z) h
 |@dK a kvs f=>
  cases (show u=Value.ref a from d);obtain⟨_,_,w,_,p⟩:=(I.hok a _ f);obtain⟨o,es,l,g,k,_⟩:=p;exact qbP qgv I.kIn ⟨o,g,k.1⟩ e (λz=>nomatch z) h
 |@dT a kvs f=>
  cases (show u=Value.ref a from d);obtain⟨_,_,xs,_,o,es,l,g,k,_⟩:=(I.hok a _ f);exact qbP qgv I.kIn ⟨o,g,k.1⟩ e (λz=>nomatch z) h
 |@ins a C dx fs f cl ha hn htk hm=>
  cases (d);obtain⟨B,O,_⟩:=pO I.hok f;obtain⟨v,J,_⟩:=O.look;exact qbP (PySem.W.kitx_own (cl.get _) cl.hd ha hn htk hm) I.kIn J e (λz=>nomatch z) h
end
structure bo (k:Nat) (A:qa0):Prop where
 hd:A.handled=none
 dp:A.depth+3*k+5<qjH
 un:A.units+16*k+200<cLine
 gd:A.guards=some []
def bo.mono {j k:Nat}{A:qa0} (r:bo k A) (h:j<=k):bo j A:=⟨r.hd,by have:=r.dp;lia,by have:=r.un;lia,r.gd⟩
def bo.deeper {k:Nat}{A:qa0} (r:bo (k+1) A) (env:Env):bo k (A.deeper env):=
 ⟨r.hd,by have:=r.dp;show A.depth+1+3*k+5<_;lia,by have:=r.un;show A.units+3+16*k+200<_;lia,r.gd⟩
def uj {A:qa0}{C:Addr}{a:List Value}{b:List (Str×Value)}:(A.under (.builtin "type.__call__" ⟨.ref C::a,b⟩)).depth=A.depth+1:=by
 first|rfl|simp[qgb,Code.weight,Code.isCreation,qip,Code.isCaller,qjl,qiq,guardIds]
def uk {A:qa0}{C:Addr}{a:List Value}{b:List (Str×Value)}:(A.under (.builtin "type.__call__" ⟨.ref C::a,b⟩)).units=A.units+1:=by
 first|rfl|simp[qgb,Code.cUnits,qjl,qiq]
def bo.make {k:Nat}{A:qa0} (r:bo (k+1) A) (C:Addr) (a:List Value) (b:List (Str×Value)):bo k (A.under (.builtin "type.__call__" ⟨.ref C::a,b⟩)):=
 ⟨r.hd,by have:=r.dp;rw[uj];lia,by have:=r.un;rw[uk];lia,by
  unfold qgb
  simp[r.gd,pushGuards,Code.guards,qip,guardIds]⟩
def bo.depth {k:Nat}{A:qa0} (r:bo k A):A.depth<qjH:=by have:=r.dp;lia
def bo.units {k:Nat}{A:qa0} (r:bo k A):A.units+64<cLine:=by have:=r.un;lia
def bo.units0 {k:Nat}{A:qa0} (r:bo k A):A.units<cLine:=by have:=r.un;lia
def F4:TA:=λ_ H Q=>Q [] H
def Fc (b:TE) (c:TA):TA:=λa H Q=>b a H λx H1=>c a H1 λxs H2=>Q (x::xs) H2
section
variable {X:Cx}{e:Expr}{es:List Expr}{te:TE}{t:TA}{pos:Pos}
def qD:PA X [] F4:=λ_ _ _ _ H Q I h=>Calls.spliced_nil ⟨_,H,I,.nil,h⟩
def lP (g:PE X e te) (l:PA X es t) (m:qbC (e::es) X.env=(false,eval e X.env)::qbC es X.env:=by rfl):PA X (e::es) (Fc te t):=by
 intro pos a s c H Q I h;rw[m];refine Calls.spliced_cons (thn (g a s c H _ I h) λu s1 ⟨x,H1,I1,i,k⟩=>?_);exact thn (l pos a s1 c H1 _ I1 k) λd o ⟨xs,H2,I2,n,j⟩=>⟨_,H2,I2,.cons i n,j⟩
def F8 (t:TA):TE:=λc H Q=>t c H λxs H1=>xs.length<=qaJ/\∀ p,H1 p=none->Q (.ref p) (upd H1 p (.tup xs))
def F3 (t:TA):TE:=λc H Q=>t c H λxs H1=>xs.length<=qaJ/\∀ p,H1 p=none->Q (.ref p) (upd H1 p (.lst xs))
def C5 {x1} (h:PA X es t):PE X (.Tuple es x1 pos) (F8 t):=by
 intro a s c H Q I f;refine wpAny_Tuple_spliced (thn (h pos a s c H _ I f) λd s1 ⟨xs,H1,I1,r,z,q⟩=>⟨by rw[<-r.length];exact z,?_⟩);refine⟨.ref s1.heap.objs.size,_,I1.laid (λb u e=>qai _ e) (qap _) ?_,U,q _ (I1.hok.fresh (qap _))⟩;exact⟨z,d,r,eU.new _ _⟩
def C0 (h:PA X es t):PE X (.List es pos) (F3 t):=by
 intro a s c H Q I f;refine wpAny_List_spliced (thn (h pos a s c H _ I f) λd s1 ⟨xs,H1,I1,r,z,q⟩=>⟨by rw[<-r.length];exact z,?_⟩);refine⟨.ref s1.heap.objs.size,_,I1.laid (λb u e=>qai _ e) (qap _) ?_,U,q _ (I1.hok.fresh (qap _))⟩;exact⟨z,d,0,r,qav _ U⟩
end
abbrev Sp:=List V->Hp->VK->XK->Prop
abbrev CXT:=List Env->Hp->qaj->XK->Value->qaj->Prop
structure wt (P:qaN) (w:World) (K:qae) (mg:Str->Option Value) (base:Heap) (A:qa0) (outer:List Env) (s:qaj) (H:Hp):Prop where
 frames:A.frames=some outer
 mod:Mod K mg base
 bs:∀ b o,base.get? b=some o->s.heap.get? b=some o/\H b=none
 bsz:base.objs.size<=s.heap.objs.size
 funs:s.heap.FunFrames base outer
 frf:∀ b∈frs outer,H b=none
 hok:HOk P w H s.heap
 bare:qfh s.gens
def CE (outer:List Env) (P:qaN) (w:World) (H:Hp) (s:qaj) (Q:VK) (u:Value) (s':qaj):Prop:=
 ∃ v H',s'.os=s.os/\qfh s'.gens/\Un (frs outer) [] H H' s.heap s'.heap/\HOk P w H' s'.heap/\aM v u/\Q v H'
def CR (CX:CXT) (outer:List Env) (P:qaN) (w:World) (H:Hp) (s:qaj) (Q:VK) (E:XK) (r:qjw) (s':qaj):Prop:=
 match r with
 |.ok (.ret u)=>CE outer P w H s Q u s'
 |.ok _=>False
 |.error e=>CX outer H s E e s'
structure dG (P:qaN) (w:World) (K:qae) (mg:Str->Option Value) (base:Heap) (CX:CXT) (k:Nat) (f:Addr) (fd:qb5) (ps:List Str) (sp:Sp):Prop where
 len:∀ vs H Q E,sp vs H Q E->vs.length=ps.length
 run:∀ (A:qa0) (outer:List Env) (s:qaj) (H:Hp) (args:Args) (us:List Value) (vs:List V) (Q:VK) (E:XK),bo k A->wt P w K mg base A outer s H->qg6 s fd args (ps.zip us)->aG vs us->sp vs H Q E->
  qe7 (model P w) A (.call (.ref f) args) (CR CX outer P w H s Q E) s
def dG.mono {P:qaN}{w:World}{K:qae}{mg:Str->Option Value}{base:Heap}{CX:CXT}{j k:Nat}{f:Addr}{fd:qb5}{ps:List Str}{sp:Sp} (F:dG P w K mg base CX j f fd ps sp) (h:j<=k) :
  dG P w K mg base CX k f fd ps sp:=⟨F.len,λA outer s H args a b Q E c=>F.run A outer s H args a b Q E (c.mono h)⟩
def wt.make {P:qaN}{w:World}{K:qae}{mg:Str->Option Value}{base:Heap}{A:qa0}{outer:List Env}{s:qaj}{H:Hp} (e:wt P w K mg base A outer s H) (C:Addr) (a:List Value) (b:List (Str×Value)) :
  wt P w K mg base (A.under (.builtin "type.__call__" ⟨.ref C::a,b⟩)) outer s H:=⟨by first|exact e.frames|(simpa  using e.frames),e.mod,e.bs,e.bsz,e.funs,e.frf,e.hok,e.bare⟩
section
variable {X:Cx}{a:List (Addr×Obj)}{c:St}{H:Hp}{s s':qaj}
def Inv.env0 (I:Inv X a c H s):wt X.prog X.w X.K X.mg X.base X.A X.stack s H:=
 ⟨I.ok.frames,I.ok.mod,I.bs,qaY I.ok.bsz I.sz,I.stack,I.stkFree,I.hok,I.bare⟩
def Inv.after {Q:VK}{u:Value} (I:Inv X a c H s) (h:CE X.stack X.prog X.w H s Q u s'):EP X a c Q u s':=by
 obtain⟨v,H',os,bare,un,hok,r,q⟩:=h;obtain⟨f,g,d,t,e⟩:=s';obtain rfl:e=s.os:=os;exact⟨v,H',I.call un hok bare (λb z=>absurd z (by simp)),r,q⟩
end
def Fb (sp:Sp) (a:List V) (E:XK) (t:TA):TE:=λb H Q=>t b H λc H1=>sp (c++a) H1 Q E
def Fh (C:Addr) (sp:Sp) (b:List V) (E:XK) (t:TA):TE:=λc H Q=>t c H λd H1=>∀ x a,H1 x=none->H1 a=none->a≠x->
 sp (.ref x::(d++b)) (upd (upd H1 a (.own x)) x (.ins C a [])) (λv H2=>v=.non/\Q (.ref x) H2) E
def dh (K:qae) (fd:qb5) (ps:List Str) (ds:List Value):Prop:=
 ∀ (s:qaj) (a:List Value),K.In s.heap->(a++ds).length=ps.length->qg6 s fd ⟨a,[]⟩ (ps.zip (a++ds))
def dh.all {K:qae}{fd:qb5}{ps:List Str} (h:∀ a:List Value,a.length=ps.length->bindArgs fd ⟨a,[]⟩=pure (ps.zip a)):dh K fd ps []:=λs a _ b=>by
 rw[qb0]at b ⊢;exact .of_eq (h a b)
def lV (CX:CXT) (X:Cx) (E:XK):Prop:=∀ (a:List (Addr×Obj)) (b:St) (H:Hp) (s:qaj) (e:Value) (s':qaj),Inv X a b H s->CX X.stack H s E e s'->X.xe e s'
section
variable {X:Cx}{CX:CXT}{k:Nat}{f C:Addr}{fd:qb5}{ps:List Str}{sp:Sp}{b:List V}{ds:List Value}{E:XK}{x m:Str}{p pos J:Pos}{e o:Expr}{es:List Expr}{R:TE}{t:TA}
def Dl {a:List (Addr×Obj)}{g:St}{H:Hp}{s:qaj}{Q:VK}{d:List Value}{w:List V} (F:dG X.prog X.w X.K X.mg X.base CX k f fd ps sp) (y:bo k X.A) (hb:dh X.K fd ps ds) (hd:aG b ds) (n:lV CX X E)
  (I:Inv X a g H s) (r:aG w d) (h:sp (w++b) H Q E):wpAny (model X.prog X.w) X.A (call (.ref f) d) (EP X a g Q) X.xe s:=by
 have z:=r.append hd;have D:(d++ds).length=ps.length:=by rw[<-z.length];exact F.len _ _ _ _ h
 refine wpAny_call (qfR (F.run X.A X.stack s H _ _ _ Q E y I.env0 (hb s d I.kIn D) z h) λr s' i=>?_);cases r with
 |error e=>exact n a g H s e s' I i
 |ok fl=>
  cases fl with
  |ret u=>exact I.after i
  |next=>exact qcw i
  |brk=>exact qcw i
  |cont=>exact qcw i
def vP (F:dG X.prog X.w X.K X.mg X.base CX k f fd ps sp) (y:bo k X.A) (hg:Gl X x) (hm:X.mg x=some (.ref f)) (P:qcz X.K (.ref f)=true) (hb:dh X.K fd ps ds) (hd:aG b ds) (n:lV CX X E)
  (B:PA X (e::es) t) (j:(x==("__debug__" : Str))=false:=by decide) (G:qbC (e::es) X.env=(false,eval e X.env)::qbC es X.env:=by rfl) (l:(qeP pos (qbC es X.env)).any (·.1)=false:=by rfl) :
  PE X (.Call (.Name x p) (e::es) [] pos) (Fb sp b E t):=by
 intro a s g H Q I h;refine qd7 (vz I hg hm ?_ j);refine qgp I.ok.mod.kin P (thn (B pos a s g H _ I h) λd s1 ⟨w,H1,I1,r,q⟩=>⟨I1.kIn,?_⟩) G l;exact Dl F y hb hd n I1 r q
structure Mk (K:qae) (C f:Addr):Prop where
 makes:qfa K C=true
 init:qcc K (.ref C) "__init__" = some (some (.ref f))
 fn:qhy K (.ref f)=true
 kp:qcz K (.ref C)=true
def zp {a:List (Addr×Obj)}{g:St}{H:Hp}{s:qaj}{Q:VK}{d:List Value}{w:List V} (M:Mk X.K C f) (F:dG X.prog X.w X.K X.mg X.base CX k f fd ps sp) (y:bo (k+1) X.A) (hb:dh X.K fd ps ds) (hd:aG b ds)
  (n:lV CX X E) (I:Inv X a g H s) (r:aG w d)
  (h:∀ x A,H x=none->H A=none->A≠x->sp (.ref x::(w++b)) (upd (upd H A (.own x)) x (.ins C A [])) (λv H2=>v=.non/\Q (.ref x) H2) E) :
  wpAny (model X.prog X.w) X.A (call (.ref C) d) (EP X a g Q) X.xe s:=by
 have i:=h _ s.heap.objs.size (I.hok.fresh (qcB _)) (I.hok.fresh (qap _)) (qaF (qb3 _));have I2:=Inv.made (C:=C) I;have z:aG (V.ref (s.heap.objs.size+1)::_) _:=.cons U (r.append hd);have D:=by
  have e:=z.length;rw[F.len _ _ _ _ i]at e;exact e.symm
 refine wpAny_call (yC I.kIn M.makes M.init (beq_iff_eq.mp M.fn) (qfR (F.run _ X.stack _ _ _ _ _ _ E (y.make C d [])
  (I2.env0.make C d []) (hb _ _ I2.kIn D) z i) λr s' c=>?_))
 cases r with
 |error e=>exact n a g _ _ e s' I2 c
 |ok fl=>
  cases fl with
  |ret u=>
   obtain⟨v,H',I3,L,N,O⟩:=I2.after c;subst N;exact⟨L,⟨V.ref _,H',I3,U,O⟩⟩
  |next=>exact qcw c
  |brk=>exact qcw c
  |cont=>exact qcw c
def AG (M:Mk X.K C f) (F:dG X.prog X.w X.K X.mg X.base CX k f fd ps sp) (y:bo (k+1) X.A) (hg:Gl X x) (hm:X.mg x=some (.ref C)) (hb:dh X.K fd ps ds) (hd:aG b ds) (n:lV CX X E)
  (B:PA X (e::es) t) (j:(x==("__debug__" : Str))=false:=by decide) (G:qbC (e::es) X.env=(false,eval e X.env)::qbC es X.env:=by rfl) (l:(qeP pos (qbC es X.env)).any (·.1)=false:=by rfl) :
  PE X (.Call (.Name x p) (e::es) [] pos) (Fh C sp b E t):=by
 intro a s g H Q I h;refine qd7 (vz I hg hm ?_ j);refine qgp I.ok.mod.kin M.kp (thn (B pos a s g H _ I h) λd s1 ⟨w,H1,I1,r,q⟩=>⟨I1.kIn,?_⟩) G l;exact zp M F y hb hd n I1 r q
end
section
variable {X:Cx}{CX:CXT}{k:Nat}{f C:Addr}{fd:qb5}{ps d:List Str}{sp:Sp}{E:XK}{x m:Str}{p pos a b:Pos}{e o:Expr}{es:List Expr}{c:List qhP}{te h:TE}{t j:TA}{nm:Option Str}
variable {g:List Value->List Value->List Value}{i:List V->List V->List V}
end
structure ck (N P:List Str) (sc:Scope):Prop where
 kind:sc.kind=.function
 co:sc.isCoroutine=false
 gen:sc.isGenerator=false
 nd:N.Nodup
 pre:N.take P.length=P
 par:∀ x∈P,sc.names.lookup x=some .local\/sc.names.lookup x=some .cell
 nofree:∀ y∈sc.names,y.2≠.free
def oh {kindOf:Str->Option qb4}{x:Str}:∀ {binds:List (Str×Value)}{m:Str->Option Value},(∀ v,(x,v)∉binds)->bindL kindOf binds m x=m x
 |[],_,_=>rfl
 |(n,v)::r,m,h=>by
  unfold bindL;rw[oh λw hw=>h w (qak _ hw)];split
  ·have:x≠n:=by rintro rfl;exact h v qaf
   simp[this]
  ·rfl
def oa {kindOf:Str->Option qb4}{x:Str}:∀ {binds:List (Str×Value)}{m:Str->Option Value},(∀ v,(x,v)∉binds)->bindC kindOf binds m x=m x
 |[],_,_=>rfl
 |(n,v)::r,m,h=>by
  unfold bindC;rw[oa λw hw=>h w (qak _ hw)];split
  ·rfl
  ·have:x≠n:=by rintro rfl;exact h v qaf
   simp[this]
def og {kindOf:Str->Option qb4}{x:Str}{v:Value}:∀ {P:List Str}{a:List Value}{i:Nat}{m:Str->Option Value},P.Nodup->P[i]?=some x->a[i]?=some v->kindOf x=some .local->
  bindL kindOf (P.zip a) m x=some v
 |[],_,_,_,_,h,_,_=>by simp at h
 |_::_,[],_,_,_,_,h,_=>by simp at h
 |p::P,w::a,0,m,nd,b,c,d=>by
  simp at b c;subst b;subst c
  show bindL kindOf ((p,w)::P.zip a) m p=_;unfold bindL;rw[oh λv e=>(qci.mp nd).1 (qfC e).1,iFP d]
  simp
 |p::P,w::a,i+1,m,nd,b,c,d=>by
  unfold bindL;exact og (qci.mp nd).2 (by simpa using b) (by simpa using c) d
def n8 {kindOf:Str->Option qb4}{x:Str}{v:Value}:∀ {P:List Str}{a:List Value}{i:Nat}{m:Str->Option Value},P.Nodup->P[i]?=some x->a[i]?=some v->kindOf x≠some .local->
  bindC kindOf (P.zip a) m x=some v
 |[],_,_,_,_,h,_,_=>by simp at h
 |_::_,[],_,_,_,_,h,_=>by simp at h
 |p::P,w::a,0,m,nd,b,c,d=>by
  simp at b c;subst b;subst c
  show bindC kindOf ((p,w)::P.zip a) m p=_;unfold bindC;rw[oa λv e=>(qci.mp nd).1 (qfC e).1,iFN d]
  simp
 |p::P,w::a,i+1,m,nd,b,c,d=>by
  unfold bindC;exact n8 (qci.mp nd).2 (by simpa using b) (by simpa using c) d
def ij (N:List Str) (a:List V):St:=a.map some++qaG (N.length - a.length) none
def ft (CX:CXT) (P:qaN) (w:World) (K:qae) (mg:Str->Option Value) (base:Heap) (N:List Str) (b:Str) (a:Scope) (f:Addr) (d:Value) (A:qa0) (outer:List Env) (s:qaj) (H:Hp) (E:XK):Cx where
 prog:=P
 w:=w
 K:=K
 mg:=mg
 base:=base
 A:=A.deeper (qel b a s.heap.objs.size f d)
 N:=N
 s₀:=s
 H₀:=H
 env:=qel b a s.heap.objs.size f d
 outer:=outer
 stack:=qel b a s.heap.objs.size f d::outer
 ex:=[]
 calm:=true
 fn:=λ_=>true
 pn:=[]
 xe:=λe s'=>wpAny (model P w) (A.deeper (qel b a s.heap.objs.size f d)) (leaving (qel b a s.heap.objs.size f d) e) (λ_ c=>CX outer H s E e c) (λg c=>CX outer H s E g c) s'
def re {a:Scope}{n:Nat}{x:Str} (h:a.names.lookup x=some .cell):∃ c,(qcv n a.names []).lookup x=some c:=by
 exact qcs.mp (qde a.names n [] (.inl h))
def wU {CX:CXT}{P:qaN}{w:World}{K:qae}{mg:Str->Option Value}{base:Heap}{N ps:List Str}{g:Str}{d:Scope}{f:Addr}{C:Value}{A:qa0}{outer:List Env}{s s1:qaj}{H:Hp}{E:XK}{D:List Value}{m:List V}
  (S:ck N ps d) (hd:A.handled=none) (e0:wt P w K mg base A outer s H) (O:m.length=ps.length) (r:aG m D)
  (x:InCallC s s.heap.objs.size (bindL (qel g d s.heap.objs.size f C).kindOf (ps.zip D) λ_=>none) (qcv (s.heap.objs.size+1) d.names []) (bindC (qel g d s.heap.objs.size f C).kindOf (ps.zip D) λ_=>none) s1) :
  Inv (ft CX P w K mg base N g d f C A outer s H E) [] (ij N m) H s1:=by
 have J:ps.length<=N.length:=by have:=congrArg qgL S.pre;rw[qc5]at this;lia
 obtain⟨B,Q,rfl,G⟩:=x.done;have l:∀ b ,b∉(ft CX P w K mg base N g d f C A outer s H E).ex:=λb z=>absurd (show b∈([]) from z) (by simp)
 refine⟨⟨e0.mod,S.kind,U,U,qap _,λy z c B j=>?_,λy n=>?_,λy c _ h=>?_,λ_=>hd,Around.frames_deeper e0.frames,.inr ⟨U,U⟩,λb z=>absurd z (l b),e0.bs,e0.bsz,λb _ _=>l b,λb z=>absurd z (l b),e0.funs,e0.frf⟩,
  rfl,e0.bare,Un.kept G,⟨_,x.toInCall.ns,λi y v B j M=>?_⟩,λy c h=>⟨_,x.cell y c h⟩,e0.hok.fresh (qap _),λy c h=>?_,λp o=>absurd (show p∈([]) from o) (by simp),e0.hok.kept G,?_⟩
 ·exact name_of_addr x.apart (qbw B) (qbw j)
 ·rcases n with n|n
  ·exact re n
  ·exact absurd U (S.nofree _ (qbw n))
 ·exact qez (x.above y c (qbw h))
 ·have hi:i<m.length:=by
   unfold ij at j;by_cases hi:i<m.length
   ·exact hi
   ·rw[qaK (by simpa using hi)]at j
    rw[qdg]at j;split at j<;>cases j
  have L:m[i]?=some v:=by
   unfold ij at j;rw[qaE (by simpa using hi),qay]at j;cases e:m[i]? with
   |none=>rw[e]at j;cases j
   |some a=>rw[e]at j;cases j;rfl
  obtain⟨u,F,I⟩:=r.get L;have o:ps[i]?=some y:=by
   rw[<-S.pre,qd2 (by lia)];exact B
  have t:ps.Nodup:=by rw[<-S.pre];exact S.nd.sublist (List.take_sublist _ _)
  refine⟨u,I,?_⟩;rcases S.par y (qb2 o) with k|k
  ·exact .inl ⟨k,og t o F k⟩
  ·obtain⟨c,e⟩:=re k
   refine .inr ⟨.inl k,c,e,?_⟩;have q:=x.cell y c e;rw[n8 t o F (by show d.names.lookup y≠_;rw[k];decide)]at q;exact q
 ·exact e0.hok.fresh (qez (x.above y c (qbw h)))
 ·unfold ij
  show _=N.length;rw[qaz,qag,qcO];lia
def D6 {CX:CXT}{P:qaN}{w:World}{K:qae}{mg:Str->Option Value}{base:Heap}{k:Nat}{f:Addr}{name c:Str}{d:Arguments}{body:List Stmt}{a:Scope}{D kV p F g ct M:Value}{G I:Option Addr}
  {y:Array (Option Value)}{N ps:List Str}{sp:Sp} (W:K.lookup f=some ⟨M,I,.func (qdI name c d body a D kV p F G g ct),y⟩) (B:qfx K g c=true) (S:ck N ps a)
  (len:∀ j H Q E,sp j H Q E->j.length=ps.length)
  (i:∀ (A:qa0) (outer:List Env) (s:qaj) (H:Hp) (j:List V) (Q:VK) (E:XK),bo k (A.deeper (qel c a s.heap.objs.size f g))->sp j H Q E->
    ∃ t,PSs (ft CX P w K mg base N c a f g A outer s H E) body t/\t { nx:=λ_ H'=>Q .non H',rt:=Q } (ij N j) H) :
  dG P w K mg base CX (k+1) f (qdI name c d body a D kV p F G g ct) ps sp:=by
 refine⟨len,λA outer s H args X j Q E C e0 hb r m=>?_⟩;have KX:=e0.mod.kin.keeps λb o e=>(e0.bs b o e).1;refine codeAny_call_function C.depth (KX _ _ W) U S.co S.gen U (PySem.W.codeRec_of KX B) (hb _ _ _ _ ?_)
 refine wpAny_newFunctionEnv_cells S.kind (λ⟨n,v⟩ L=>by
  rcases S.par n (qfC L).1 with q|q
  ·exact .inl q
  ·exact .inr ⟨q,qde _ _ _ (.inl q)⟩) λenv T s1 x=>?_
 subst T;refine⟨(e0.mod.nolimit.keeps λb o e=>(e0.bs b o e).1).keeps x.toInCall.keep,codeAny_func ?_⟩;obtain⟨t,R,O⟩:=i A outer s H j Q E (C.deeper _) m;refine qcq (R [] s1 _ H _ (wU S C.hd e0 (len _ _ _ _ m) r x) O) (λfl s' l=>?_) λe s' l=>l;have fin:∀ {h:St}{H':Hp}{v:V}{u:Value},Inv (ft CX P w K mg base N c a f g A outer s H E) [] h H' s'->aM v u->Q v H'->CE outer P w H s Q u s':=
  λ{h H' v u} J z q=>⟨v,H',J.os,J.bare,J.base,J.hok,z,q⟩
 cases fl with
 |ret u=>
  obtain⟨v,h,H',J,z,q⟩:=l;exact fin J z q
 |next=>
  obtain⟨h,H',J,q⟩:=l;exact fin (v:=V.non) J U q
 |brk=>
  obtain⟨_,_,_,q⟩:=l;exact qcw q
 |cont=>
  obtain⟨_,_,_,q⟩:=l;exact qcw q
section
variable {X:Cx}{x:Str}{p pos:Pos}{e:Expr}{es:List Expr}{t:TA}{id T:String}{r:List V->Hp->VK->Prop}
def tCB (r:List V->Hp->VK->Prop) (t:TA):TE:=λc H Q=>t c H λf H1=>r f H1 Q
def m6 (n:bI X (.builtin id) r) (hg:Gl X x) (hm:X.mg x=none) (l:qcb x=some (.builtin id)) (i:PA X (e::es) t) (hn:x≠"__name__":=by decide) (d:(x==("__debug__" : Str))=false:=by decide)
  (m:qbC (e::es) X.env=(false,eval e X.env)::qbC es X.env:=by rfl) (b:(qeP pos (qbC es X.env)).any (·.1)=false:=by rfl):PE X (.Call (.Name x p) (e::es) [] pos) (tCB r t):=by
 intro a s c H Q I h;refine qd7 (je I hg hm l ?_ hn d);exact qje (thn (i pos a s c H _ I h) λg s1 ⟨f,H1,I1,j,k⟩=>n a s1 c H1 f g Q I1 j k) m b
def db (n:bI X (.type T) r) (hg:Gl X x) (hm:X.mg x=none) (l:qcb x=some (.type T)) (i:PA X (e::es) t) (hn:x≠"__name__":=by decide) (d:(x==("__debug__" : Str))=false:=by decide)
  (m:qbC (e::es) X.env=(false,eval e X.env)::qbC es X.env:=by rfl) (b:(qeP pos (qbC es X.env)).any (·.1)=false:=by rfl):PE X (.Call (.Name x p) (e::es) [] pos) (tCB r t):=by
 intro a s c H Q I h;refine qd7 (je I hg hm l ?_ hn d);exact qca (thn (i pos a s c H _ I h) λg s1 ⟨f,H1,I1,j,k⟩=>n a s1 c H1 f g Q I1 j k) m b
end
end L2
namespace HT
open PySem PyProof.Rows
def lexLt:List Int->List Int->Bool
 |[],[]=>false
 |[],_::_=>true
 |_::_,[]=>false
 |x::xs,y::a=>if x=y then lexLt xs a else decide (x<y)
def lexLt_cons (x y:Int) (xs a:List Int):lexLt (x::xs) (y::a)=if x=y then lexLt xs a else decide (x<y):=rfl
def nQ:lexLt [] []=false:=rfl
def mQ (y:Int) (a:List Int):lexLt [] (y::a)=true:=rfl
def mP (x:Int) (xs:List Int):lexLt (x::xs) []=false:=rfl
def yb (A:qa0) (s:qaj) (a:Int) (t:Tok) (c:Int) (u:Tok):∃ e,qdn A s (.int a t) (.int c u) e/\(e=true↔a=c):=
 ⟨_,qf2 a t c u,by simp⟩
def zi (A:qa0) (s:qaj) (a:Int) (t:Tok) (c:Int) (u:Tok) (prog:qaN) (w:World) (E:Value->qaj->Prop) (Q:Value->qaj->Prop) (h:Q (.bool (decide (a<c))) s) :
  wpAny (model prog w) A (richCompare .Lt (.int a t) (.int c u)) Q E s:=
 (qd8 h)
section
open PySem.SeqAt
open PySem.AutoSeq1 (wpAny_loadPart')
open PySem.MeetsSeq PySem.MeetsSeq2 PySem.MeetsSeq3
def nY (l b:Addr) (i f:Array Value) (n X:Nat) (Q L:Option Addr) (S M:Array (Option Value)) (ns H:List Int) (hi:qcC i.toList ns) (N:qcC f.toList H) :
  Meets (qfg.«tuple.__lt__» ⟨[.ref l,.ref b],[]⟩)
   (λ_ R s=>s.heap.get? l=some { cls:=.type "tuple",dict:=Q,data:=.seq i n,slots:=S }/\s.heap.get? b=some { cls:=.type "tuple",dict:=L,data:=.seq f X,slots:=M }/\
     R (.ok (.ret (.bool (lexLt ns H)))) s):=
 .of_wp λprog w A R s h=>by
  obtain⟨G,g,d,J,os⟩:=s;obtain⟨V,hb,h⟩:=h;have f2:=qfA;have z1:i.size=ns.length:=by rw[<-hi.length];simp
  have z2:f.size=H.length:=by rw[<-N.length];simp
  wp_walk using wpAny_loadPart' V,wpAny_loadPart' hb,qiy _ (λv b s'=>b.1=none/\s'=⟨G,g,d,J,os⟩/\∃ (I ws:List Value) (m k:List Int),v=I.zip ws/\
   qcC I m/\qcC ws k/\m.length+f.size=k.length+i.size/\R (.ok (.ret (.bool (lexLt m k)))) ⟨G,g,d,J,os⟩) _
  case turn=>
   rintro⟨y,x⟩ v b s' ⟨B,rfl,I,ws,m,k,p,D,o,j,z⟩
   cases D with
   |nil=>rw[List.zip_nil_left]at p;cases p
   |cons a t F=>
    cases o with
    |nil=>rw[List.zip_nil_right]at p;cases p
    |cons c u E=>
     rw[qdf]at p;injection p with K C;injection K with P T;subst P T;rw[lexLt_cons]at z;simp only[qan]at j;obtain⟨e,W,r⟩:=yb A.in1 ⟨G,g,d,J,os⟩ a t c u;refine qac (W prog w _ _ ?_);cases e with
     |true=>
      rw[iFP (r.mp U)]at z
      wp_walk
      exact⟨U,U,_,_,_,_,C,F,E,by lia,z⟩
     |false=>
      rw[iFN (λq=>absurd (r.mpr q) qaL)]at z
      wp_walk using (zi A.in1 ⟨G,g,d,J,os⟩ a t c u prog w)
      exact⟨_,U,by simpa using z⟩
  case fin=>
   rintro⟨Y,b2⟩ s' ⟨B,rfl,I,ws,m,k,p,D,o,j,z⟩
   simp only at B
   subst B;have O:lexLt m k=decide (i.size<f.size):=by
    cases D with
    |nil=>
     cases o with
     |nil=>
      simp only[qa8]at j;rw[nQ];exact (decide_eq_false (by lia)).symm
     |cons c u hw=>
      simp only[qa8,qan]at j;rw[mQ];exact (decide_eq_true (by lia)).symm
    |cons a t O=>
     cases o with
     |nil=>
      simp only[qa8,qan]at j;rw[mP];exact (decide_eq_false (by lia)).symm
     |cons c u hw=>
      rw[qdf]at p;cases p
   rw[O]at z
   wp_walk
   exact⟨_,U,by simpa [qem] using z⟩
  case h=>
   exact⟨U,U,i.toList,f.toList,ns,H,U,hi,N,by lia,h⟩
end
section
variable {prog:qaN}{w:World}{A:qa0}{E:Value->qaj->Prop}{s:qaj}
def lt_tupInts {l b:Addr}{a c:Array Value}{ns W:List Int}{Q:Value->qaj->Prop} (hl:IsTup s.heap l a) (hb:IsTup s.heap b c) (hi:qcC a.toList ns) (hj:qcC c.toList W)
  (Y:A.units<cLine) (h:Q (.bool (lexLt ns W)) s):wpAny (model prog w) A (qbN .Lt (.ref l) (.ref b)) Q E s:=by
 obtain⟨⟨cls,O,data,r⟩,D,S,n,hd⟩:=id hl;obtain⟨⟨N,y,data2,z⟩,f,G,R,F⟩:=id hb;subst S hd G F;exact qg8 (op:=.Lt) ⟨_,D,U⟩ ⟨_,f,U⟩ qdo qd4 (qdY _ _) (nY l b a c n R O y r z ns W hi hj)
  ⟨D,f,⟨(λx=>nomatch x),h⟩⟩ Y
def cat_tup {t b:Addr}{B ws:List Value}{Q:Value->qaj->Prop} (J:IsTup s.heap t B.toArray) (hb:IsTup s.heap b ws.toArray) (L:B≠[])
  (h1:ws=[]->Q (.ref t) s) (h2:ws≠[]->Q (.ref s.heap.objs.size) { s with heap:=s.heap.push { cls:=.type "tuple",data:=.seq (B++ws).toArray } })
  (K:B.length+ws.length<=qaJ):wpAny (model prog w) A (qbH .Add (.ref t) (.ref b)) Q E s:=by
 obtain⟨⟨cls,O,data,r⟩,D,S,n,hd⟩:=id J;obtain⟨⟨N,y,data2,z⟩,f,G,R,F⟩:=id hb;subst S hd G F;have e:B.toArray++ws.toArray=(B++ws).toArray:=by simp
 by_cases hw:ws=[]
 ·exact qhm ⟨_,D,U⟩ ⟨_,f,U⟩ qfZ qgV qd3 qdX (qdP _ _)
   (tuple_addW1 t b B.toArray ws.toArray n R O y r z (by simpa using L) (by simp[hw])) ⟨D,f,h1 hw⟩
 ·refine qhm ⟨_,D,U⟩ ⟨_,f,U⟩ qfZ qgV qd3 qdX (qdP _ _)
   (tuple_addW2 t b B.toArray ws.toArray n R O y r z (by simpa using L) (by simpa using hw) (by exact K)) ⟨D,f,?_⟩
  rw[e];exact h2 hw
def sIx (n d:Nat):Option Int->Nat
 |none=>d
 |some v=>if v<0 then (v+(n:Int)).toNat else min v.toNat n
def sIx_none (n d:Nat):sIx n d none=d:=rfl
def sIx_nat (n d k:Nat):sIx n d (some (k:Int))=min k n:=by
 show (if (k)<0 then ((k)+(n:Int)).toNat else min (k:Int).toNat n)=min k n;rw[iFN (by lia),qbp]
def FX (n d:Nat) (hd:d<=n) (o:Option Int):sIx n d o<=n:=by
 cases o with
 |none=>exact hd
 |some v=>
  show (if v<0 then (v+_).toNat else min v.toNat n)<=n;by_cases L:v<0
  ·lia
  ·rw[iFN L];exact Nat.min_le_right _ _
def uM (v:Int) (n d:Nat):(if v<0 then max (v+(n:Int)) 0 else min v (n:Int))=((sIx n d (some v):Nat):Int):=by
 show _=(((if v<0 then (v+_).toNat else min v.toNat n):Nat):Int);by_cases L:v<0
 ·lia
 ·lia
def tj (lo hi:Option Int) (n:Nat):qeU lo hi 1 (n:Int)=(((sIx n 0 lo:Nat):Int),((sIx n n hi:Nat):Int)):=by
 refine Prod.ext ?_ ?_
 ·cases lo with
  |none=>rfl
  |some v=>exact uM v n 0
 ·cases hi with
  |none=>rfl
  |some v=>exact uM v n n
def ut (i j:Nat):qcH (i:Int) (j:Int) 1=j - i:=by
 unfold qcH;split<;>lia
def nv {v:Value}{o:Option Int}{Q:Option Int->qaj->Prop} (p:qfW v o) (h:Q o s):wpAny (model prog w) A (qis v) Q E s:=by
 cases p with
 |none=>exact qjG h
 |int i t=>exact slicePart_int h
def fR {r:Addr}{H I:Value}{lo hi:Option Int}{n:Nat}{Q:Int×Int×Nat->qaj->Prop} (P:s.heap.IsSliceOf r H I .none) (X:qfW H lo) (T:qfW I hi)
  (h:Q (((sIx n 0 lo:Nat):Int),1,sIx n n hi - sIx n 0 lo) s):wpAny (model prog w) A (qit (.ref r) (pure (n:Int))) Q E s:=by
 obtain⟨os,g,M,u⟩:=id P;refine qac (qac (qb7 g u (x:=H) U (qac (qb7 g u (x:=I) U (qac (qb7 g u U (qaq ?_)))))));refine qac (qjG ?_);refine qac (nv X (qac (nv T (qac (qaq ?_)))));show wpAny _ _ (match qeU lo hi 1 _ with|(lo,hi)=>pure (lo,_,qcH lo hi 1)) _ _ s
 rw[tj lo hi n];show wpAny _ _ (pure (_,_,qcH _ _ 1)) _ _ s;rw[ut];exact qaq h
def yV (xs:Array Value) (i k:Nat):((qam k).filterMap λ(m:Nat)=>xs[((i:Int)+(m:Int)*1).toNat]?).toArray=((xs.toList.drop i).take k).toArray:=by
 have e:(λ(m:Nat)=>xs[((i)+(m:Int)*1).toNat]?)=λm=>xs[i+m]?:=by
  funext m
  have:((i)+(m:Int)*1).toNat=i+m:=by lia
  rw[this]
 rw[e]
 have:=pick_run xs i k
 rw[List.filterMap_map]at this;have e2:(_ ∘ λx=>i+x)=λm=>xs[i+m]?:=rfl;rw[e2]at this;rw[this]
def getItem_tuple_cut {t r:Addr}{a:Array Value}{H I:Value}{lo hi:Option Int}{Q:Value->qaj->Prop} (J:IsTup s.heap t a) (P:s.heap.IsSliceOf r H I .none) (X:qfW H lo) (T:qfW I hi)
  (hw:¬ (sIx a.size 0 lo=0/\sIx a.size a.size hi=a.size))
  (h:Q (.ref s.heap.objs.size) { s with heap:=s.heap.push { cls:=.type "tuple",data:=.seq ((a.toList.drop (sIx a.size 0 lo)).take (sIx a.size a.size hi - sIx a.size 0 lo)).toArray } })
  (K:a.size<=qaJ):wpAny (model prog w) A (qeO (.ref t) (.ref r)) Q E s:=by
 have C:=by
  show ((a.toList.drop (sIx a.size 0 lo)).take (sIx a.size a.size hi - sIx a.size 0 lo)).toArray.size<=qaJ;rw[qaI,qc5,qec,qc7];lia
 obtain⟨os,g,M,u⟩:=id P;unfold qeO
 try with_reducible refine qct ?_
 refine qac (qib J.typeIs (by decide) ?_)
 refine qac (qbO J.typeIs qbG
  (qbV qbG J.typeIs qhK ?_ (qhY _ _)))
 show wpAny _ _ (qeJ _ >>= _) _ _ s;refine qac (tupleItemsOf_ J ?_);refine qac (qhj ⟨os,g,M⟩ ?_);refine qac (fR P X T ?_);have V:¬ ((((sIx a.size 0 lo):Int)==0&&(1:Int)==1&&(sIx a.size a.size hi - sIx a.size 0 lo)==a.size)=true):=by
  intro q;exact hw ⟨by lia,by lia⟩
 show wpAny _ _ (if _=true then _ else _) _ _ s;rw[iFN V,yV]
 first
  |exact qac (qc1 (qaq ⟨_,rfl,qaq h⟩) C)
  |exact qac _
  |exact qac _
  |exact qac _
end
end HT
namespace L2
open PySem PySem.Spec PyProof.Rows
abbrev TO:=St->Hp->(Option Int->Hp->Prop)->Prop
def PO (X:Cx) (e:Option Expr) (t:TO):Prop:=
 ∀ (a:List (Addr×Obj)) (s:qaj) (b:St) (H:Hp) (Q:Option Int->Hp->Prop),Inv X a b H s->t b H Q->
  wpAny (model X.prog X.w) X.A (evalPart e X.env) (λu s'=>∃ o H',Inv X a b H' s'/\qfW u o/\Q o H') X.xe s
def Bh:TO:=λ_ H Q=>Q none H
def Fk (t:TE):TO:=λa H Q=>t a H λx H1=>∃ i,x=.int i/\Q (some i) H1
def d5 {ns:List Int}:∀ {a:List Value},aG (ns.map V.int) a->qcC a ns:=by
 induction ns with
 |nil=>intro a r;cases r;exact .nil
 |cons n ns d=>
  intro a r;cases r with
  |cons b c=>
   obtain⟨t,e⟩:=b;subst e;exact .cons n t (d c)
section
variable {X:Cx}{e:Expr}{te:TE}{lo hi:Option Expr}{tl G:TO}{pos D:Pos}
def AK:PO X none Bh:=by
 intro c s d H Q I h;exact qaq ⟨none,H,I,.none,h⟩
def AL (h:PE X e te):PO X (some e) (Fk te):=by
 intro c s d H Q I hw;refine thn (h c s d H _ I hw) λu s1 ⟨x,H1,I1,g,B⟩=>?_;obtain⟨i,rfl,q⟩:=B;obtain⟨t,rfl⟩:=g;exact⟨_,H1,I1,.int i t,q⟩
def SlR (X:Cx) (r:V->Option Int->Option Int->Hp->VK->Prop):Prop:=
 ∀ (c:List (Addr×Obj)) (s:qaj) (d:St) (H:Hp) (x:V) (v k o:Value) (lo hi:Option Int) (J:Addr) (Q:VK),Inv X c d H s->aM x v->s.heap.IsSliceOf J k o .none->qfW k lo->qfW o hi->r x lo hi H Q->
  ∃ T id,typeLookup (.type T) "__getitem__" = pure (some (.builtin id))/\s.TypeIs v T/\wpAny (model X.prog X.w) X.A (qeO v (.ref J)) (EP X c d Q) X.xe s
def tSl (r:V->Option Int->Option Int->Hp->VK->Prop) (te:TE) (tl G:TO):TE:=λd H Q=>te d H λx H1=>tl d H1 λl H2=>G d H2 λu H3=>r x l u H3 Q
def sv {r:V->Option Int->Option Int->Hp->VK->Prop} (hr:SlR X r) (he:PE X e te) (hl:PO X lo tl) (L:PO X hi G):PE X (.Subscript e (.Slice lo hi none D) pos) (tSl r te tl G):=by
 intro c s d H Q I h;refine qii (thn (he c s d H _ I h) λv s1 ⟨x,H1,I1,g,B⟩=>?_);refine wpAny_Slice (thn (hl c s1 d H1 _ I1 B) λk s2 ⟨l,H2,I2,Y,P⟩=>thn (L c s2 d H2 _ I2 P) λo N ⟨u,H3,I3,R,q3⟩=>?_);refine qaq ?_;obtain⟨T,id,hT,F,hg⟩:=hr c { N with heap:=N.heap.push { cls:=.type "slice",data:=.fields #[k,o,.none] } } d H3 x v k o l u N.heap.objs.size Q (I3.kept λb ob q=>qai _ q) g (qh4 ..) Y R q3
 exact tail_any F hT hg (by with_unfolding_all rfl)
def tH (xs:List V) (lo hi:Option Int):List V:=(xs.drop (HT.sIx xs.length 0 lo)).take (HT.sIx xs.length xs.length hi - HT.sIx xs.length 0 lo)
def kJ (xs:List V) (lo hi:Option Int):(tH xs lo hi).length<=xs.length:=by
 unfold tH;rw[qc5,qec];lia
def FV (K:qae):V->Option Int->Option Int->Hp->VK->Prop:=λx lo hi H Q=>∃ a xs,x=.ref a/\SqT K H a xs/\
 ¬ (HT.sIx xs.length 0 lo=0/\HT.sIx xs.length xs.length hi=xs.length)/\∀ p,H p=none->Q (.ref p) (upd H p (.tup (tH xs lo hi)))
def Dm:SlR X (FV X.K):=by
 intro c s d H x v k o lo hi J Q I E hs Y R h;obtain⟨a,xs,rfl,M,hw,q⟩:=h;cases E;obtain⟨j,r,F,C⟩:=I.tuple M;have f:j.toArray.size=xs.length:=by exact r.length.symm
 refine⟨"tuple",_,qbG.lookup,F.typeIs,?_⟩
 refine HT.getItem_tuple_cut F hs Y R (by rw[f];exact hw) ?_ (by rw[f];exact C);rw[f];refine⟨.ref s.heap.objs.size,_,I.laid (λb ob q=>qai _ q) (qap _) ?_,U,q _ (I.hok.fresh (qap _))⟩;exact⟨qaY (kJ xs lo hi) C,_,(r.drop _).take _,eU.new _ _⟩
def FT (K:qae):R2:=λx y H Q=>∃ a b ns W,x=.ref a/\y=.ref b/\SqT K H a (ns.map V.int)/\SqT K H b (W.map V.int)/\Q (.bl (HT.lexLt ns W)) H
def CP (L:X.A.units<cLine):OpR X (qbN .Lt) (FT X.K):=by
 intro c s d H x y v u Q I E S h;obtain⟨a,b,ns,W,rfl,rfl,O,hb,q⟩:=h;cases E;cases S;obtain⟨j,g,p1,_⟩:=I.tuple O;obtain⟨A,n,D,_⟩:=I.tuple hb;exact HT.lt_tupInts p1 D (d5 g) (d5 n) L ⟨.bl _,H,I,U,q⟩
def EX (K:qae):R2:=λx y H Q=>∃ a b xs m,x=.ref a/\y=.ref b/\SqT K H a xs/\SqT K H b m/\xs≠[]/\xs.length+m.length<=qaJ/\
 (m=[]->Q (.ref a) H)/\(m≠[]->∀ p,H p=none->Q (.ref p) (upd H p (.tup (xs++m))))
def aG.nil_iff {xs:List V}{us:List Value} (r:aG xs us):us=[]↔xs=[]:=by
 cases r with
 |nil=>simp
 |cons _ _=>simp
def Ay:OpR X (qbH .Add) (EX X.K):=by
 intro c s d H x y v u Q I E S h;obtain⟨a,b,xs,m,rfl,rfl,O,hb,M,C,B,P⟩:=h;cases E;cases S;obtain⟨j,g,p1,_⟩:=I.tuple O;obtain⟨A,n,D,_⟩:=I.tuple hb;refine HT.cat_tup p1 D (λz=>M (g.nil_iff.mp z)) (λz=>⟨.ref a,H,I,U,B (n.nil_iff.mp z)⟩) (λz=>?_) (by rw[<-g.length,<-n.length];exact C);refine⟨.ref s.heap.objs.size,_,I.laid (λb ob q=>qai _ q) (qap _) ?_,U,P (λw=>z (n.nil_iff.mpr w)) _ (I.hok.fresh (qap _))⟩;exact⟨by rw[qaz];exact C,_,g.append n,eU.new _ _⟩
end
def ixN (n:Nat) (i:Int):Option Nat:=if 0<=i then (if i<n then some i.toNat else none) else if -(n:Int)<=i then some (i+n).toNat else none
def atI {α:Type} (xs:List α) (i:Int):Option α:=(ixN xs.length i).bind λj=>xs[j]?
def pY {n:Nat}{i:Int}{j:Nat} (h:ixN n i=some j):seqIndex? i n=some j/\j<n/\-(n:Int)<=i/\i<n:=by
 unfold ixN at h;by_cases b:0<=i
 ·rw[iFP b]at h
  by_cases a:i<n
  ·rw[iFP a]at h
   exact⟨by rw[qhG b a,(qaP h)],by lia,by lia,a⟩
  ·rw[iFN a]at h;cases h
 ·rw[iFN b]at h
  by_cases a:-(n)<=i
  ·rw[iFP a]at h
   exact⟨by rw[qhl (by lia) a,(qaP h)],by lia,a,by lia⟩
  ·rw[iFN a]at h;cases h
def oP {α:Type}{xs:List α}{i:Int}{v:α} (h:atI xs i=some v):∃ j,seqIndex? i xs.length=some j/\xs[j]?=some v/\j<xs.length/\-(xs.length:Int)<=i/\i<xs.length:=by
 unfold atI at h;cases e:ixN xs.length i with
 |none=>rw[e]at h;cases h
 |some j=>
  rw[e]at h;obtain⟨d,b,c,a⟩:=pY e;exact⟨j,d,h,b,c,a⟩
def bN {α:Type}{xs:List α}{j:Nat}{v:α} (h:xs[j]?=some v):atI xs (j:Int)=some v:=by
 have a:=(qas.mp h).1;have e:ixN xs.length (j)=some j:=by
  unfold ixN;rw[iFP (by lia),iFP (by lia)];simp
 unfold atI;rw[e];exact h
def xO {α:Type} (xs:List α) (v:α):atI (xs++[v]) (-1)=some v:=by
 have a:(xs++[v]).length=xs.length+1:=by simp
 have e:ixN (xs++[v]).length (-1)=some xs.length:=by
  unfold ixN;rw[iFN (by decide),iFP (by lia)]
  congr 1
  lia
 unfold atI;rw[e]
 simp
def uI (b:Expr):Prop:=∀ o i,qge b false o i=operate [o,i] (qeO o i)
def IxR (X:Cx) (r:R2):Prop:=
 ∀ (c a:Expr) (b:List (Addr×Obj)) (s:qaj) (d:St) (H:Hp) (x y:V) (v u:Value) (Q:VK),Inv X b d H s->aM x v->aM y u->r x y H Q->
  qge a false v u=operate [v,u] (qeO v u)->wpAny (model X.prog X.w) X.A (subscriptTail c a v u) (EP X b d Q) X.xe s
def MtR (X:Cx) (id:String) (r:V->List V->Hp->VK->Prop):Prop:=
 ∀ (a:List (Addr×Obj)) (s:qaj) (c:St) (H:Hp) (x:V) (xs:List V) (v:Value) (b:List Value) (Q:VK),Inv X a c H s->aM x v->aG xs b->r x xs H Q->
  wpAny (model X.prog X.w) X.A (call (.builtin id) (v::b)) (EP X a c Q) X.xe s
section
variable {X:Cx}{a b:Expr}{ta tb:TE}{pos:Pos}
def IxR.or {r O:R2} (h:IxR X r) (h':IxR X O):IxR X (λx y H Q=>r x y H Q\/O x y H Q):=by
 intro L J g s B H x y v u Q I m P q R;rcases q with q|q
 ·exact h L J g s B H x y v u Q I m P q R
 ·exact h' L J g s B H x y v u Q I m P q R
def BE {r:R2} (hr:IxR X r) (ha:PE X a ta) (hb:PE X b tb) (R:uI b):PE X (.Subscript a b pos) (tOp r ta tb):=by
 intro g s B H Q I h;exact qii (B5 ha hb I h λv u s2 x y H2 I2 m P q=>hr a b g s2 B H2 x y v u Q I2 m P q (R _ _))
def EY (K:qae):R2:=λx y H Q=>∃ p xs i v,x=.ref p/\y=.int i/\SqL K H p xs/\atI xs i=some v/\Q v H
def E1 (K:qae):R2:=λx y H Q=>∃ p xs i v,x=.ref p/\y=.int i/\SqT K H p xs/\atI xs i=some v/\Q v H
def EZ:R2:=λx y H Q=>∃ z i c,x=.str z/\y=.int i/\z.length<=qaJ/\atI z.cps.toList i=some c/\Q (.str ⟨#[c]⟩) H
def Ah:IxR X (EY X.K):=by
 intro L J g s B H x y v u Q I m P h R;obtain⟨p,xs,i,z,rfl,rfl,C,he,q⟩:=h;cases m;obtain⟨t,rfl⟩:=P;obtain⟨d,r,D,M⟩:=I.list C;obtain⟨j,N,h2,h3,h4,h5⟩:=oP he;obtain⟨w,ew,rw'⟩:=r.get h2;have hl:=r.length;have hn:=kA;have fin:EP X g B Q w s:=⟨z,H,I,rw',q⟩;by_cases h0:0<=i
 ·have hj:=by
   rw[qhG h0 h5]at N;exact qaP N
  exact item_listR D.isList h0 (by lia) (by rw[hj];simpa using ew) fin R
 ·have hj:(i+(d.toArray.size)).toNat=j:=by
   rw[qhl (by lia) h4]at N;rw[qaI,<-hl];exact qaP N
  exact qg7 D.isList.typeIs qie.lookup
   (wpAny_getItem_list_neg D.isList (by lia) (by rw[qaI]<;>lia) (by lia) (by rw[hj];simpa using ew) ⟨U,fin⟩) R
def Cv:IxR X (E1 X.K):=by
 intro L J g s B H x y v u Q I m P h R;obtain⟨p,xs,i,z,rfl,rfl,C,he,q⟩:=h;cases m;obtain⟨t,rfl⟩:=P;obtain⟨d,r,D,M⟩:=I.tuple C;obtain⟨j,N,h2,h3,h4,h5⟩:=oP he;obtain⟨w,ew,rw'⟩:=r.get h2;have hn:=kA;exact qg7 D.typeIs slot_tuple_getitem.lookup
  (getItem_tuple D (by lia) (by lia) (by rw[qaI,<-r.length];exact N) (by simpa using ew) ⟨U,⟨z,H,I,rw',q⟩⟩) R
def Cu:IxR X EZ:=by
 intro L J g s B H x y v u Q I m P h R;obtain⟨z,i,c,rfl,rfl,M,he,q⟩:=h;obtain⟨t,rfl⟩:=m;obtain⟨t',rfl⟩:=P;obtain⟨j,N,h2,h3,h4,h5⟩:=oP he;have hl:z.cps.toList.length=z.length:=by simp[Str.length]
 rw[hl]at N h4 h5;have hn:=kA
 exact tail_any (typeIs_str s z t) slot_str_getitem.lookup (getItem_str (by
  rw[(decide_eq_false (by lia)),(decide_eq_false (by lia)),Bool.or_false]) (by rw[N];simpa using h2) ⟨.str _,H,I.tok _,⟨_,U⟩,q⟩) R
def rIx (K:qae):R2:=λx y H Q=>EY K x y H Q\/E1 K x y H Q\/EZ x y H Q
def t9:IxR X (rIx X.K):=Ah.or (Cv.or Cu)
def um (d:List Value) (n j:Nat) (u:Value):qcF (·.setIfInBounds j u) { cls:=.type "list",data:=.seq d.toArray n }={ cls:=.type "list",data:=.seq (d.set j u).toArray n }:=by
 simp[qcF]
def Inv.lst {g:List (Addr×Obj)}{B:St}{H:Hp}{s:qaj}{p:Addr}{xs:List V} (I:Inv X g B H s) (h:H p=some (.lst xs)) :
  ∃ (d:List Value) (n:Nat),aG xs d/\s.heap.get? p=some { cls:=.type "list",data:=.seq d.toArray n }/\xs.length<=qaJ:=by
 obtain⟨z,d,n,r,e⟩:=I.hok p _ h;exact⟨d,n,r,e,z⟩
def Inv.lstUpd {g:List (Addr×Obj)}{B:St}{H:Hp}{s:qaj}{p:Addr}{xs F:List V}{d W:List Value}{n n':Nat}{f:Obj->Obj} (I:Inv X g B H s) (h:H p=some (.lst xs))
  (ho:s.heap.get? p=some { cls:=.type "list",data:=.seq d.toArray n }) (hf:f { cls:=.type "list",data:=.seq d.toArray n }={ cls:=.type "list",data:=.seq W.toArray n' }) (r:aG F W) (M:F.length<=qaJ) (t:Nat) :
  Inv X g B (upd H p (.lst F)) { s with heap:=s.heap.update p f,toks:=t }:=by
 have e:(s.heap.update p f).get? p=some { cls:=.type "list",data:=.seq W.toArray n' }:=by
  rw[qeq f ho (by rw[hf]<;>rfl),hf]
 refine I.write (by rw[h];trivial) (.inl U) (λb u hb q=>(qdq _ _ (qbL hb)).trans q) ⟨_,e⟩ ?_;exact⟨M,W,n',r,e⟩
def E3:V->V->V->Hp->(Hp->Prop)->Prop:=λo i v H Q=>∃ p xs k j,o=.ref p/\i=.int k/\H p=some (.lst xs)/\ixN xs.length k=some j/\Q (upd H p (.lst (xs.set j v)))
def nu:DL X E3:=by
 intro g s B H o i v ov iv u Q I ro ri rv h;obtain⟨p,xs,k,j,rfl,rfl,hp,hj,q⟩:=h;cases ro;obtain⟨t,rfl⟩:=ri;obtain⟨d,n,r,ho,M⟩:=I.lst hp;obtain⟨N,h2,h3,h4⟩:=pY hj;have hl:=r.length;have hn:=kA;have I':=
  I.lstUpd hp ho (um d n j u) (r.set rv j) (by rw[qb6];exact M) s.toks
 by_cases h0:0<=k
 ·have hk:=by
   rw[qhG h0 h4]at N;exact qaP N
  exact PySem.W.ki_setAt ho h0 (by lia) (by rw[qaI,<-hl];exact h4) (by rw[hk];exact⟨_,I',q⟩)
 ·have hk:(k+(d.toArray.size)).toNat=j:=by
   rw[qhl (by lia) h3]at N;rw[qaI,<-hl];exact qaP N
  exact PySem.W.ki_setBack ho (by lia) (by rw[qaI,<-hl];exact h3) (by lia) (by rw[hk];exact⟨_,I',q⟩)
def qK (lo hi:Option Int) (n:Nat):(qdW lo hi none n).1=((HT.sIx n 0 lo:Nat):Int)/\(qdW lo hi none n).2.1=((HT.sIx n n hi:Nat):Int)/\(qdW lo hi none n).2.2=1:=by
 refine⟨?_,?_,U⟩
 ·cases lo with
  |none=>simp[qdW,HT.sIx]
  |some i=>
   simp only[qdW,HT.sIx,qg2,show (1:Int) > 0 by decide,if_true];by_cases h:i<0
   ·simp only[h,if_true]<;>lia
   ·simp only[h,if_false]<;>lia
 ·cases hi with
  |none=>simp[qdW,HT.sIx]
  |some i=>
   simp only[qdW,HT.sIx,qg2,show (1:Int) > 0 by decide,if_true];by_cases h:i<0
   ·simp only[h,if_true]<;>lia
   ·simp only[h,if_false]<;>lia
def nW (d:List Value) (lo hi:Option Int):slicePick d.toArray lo hi none=((d.drop (HT.sIx d.length 0 lo)).take (HT.sIx d.length d.length hi - HT.sIx d.length 0 lo)).toArray:=by
 obtain⟨N,h2,h3⟩:=qK lo hi d.toArray.size;unfold slicePick;rw[N,h2,h3];simp only[sliceRange_one,pick_run,qaI]<;>rfl
def FU (K:qae):V->Option Int->Option Int->Hp->VK->Prop:=λx lo hi H Q=>∃ a xs,x=.ref a/\SqL K H a xs/\∀ p,H p=none->Q (.ref p) (upd H p (.lst (tH xs lo hi)))
def Bb:SlR X (FU X.K):=by
 intro g s B H x v vl vu lo hi sl Q I m R D pu h;obtain⟨a,xs,rfl,hx,q⟩:=h;cases m;obtain⟨d,r,ht,M⟩:=I.list hx;have E:=r.length;refine⟨"list",_,qie.lookup,ht.isList.typeIs,?_⟩
 refine wpAny_getItem_list_slice ht.isList R D pu .none (by simp) ?_ (by rw[qaI]<;>lia);rw[nW,<-E];refine⟨.ref s.heap.objs.size,_,I.laid (λb ob q=>qai _ q) (qap _) ?_,U,q _ (I.hok.fresh (qap _))⟩;exact⟨qaY (kJ xs lo hi) M,_,0,(r.drop _).take _,qav _ U⟩
def eJ:V->Bool
 |.non=>true
 |.bl _=>true
 |.int _=>true
 |.str _=>true
 |_=>false
def eqV:V->V->Bool
 |.non,.non=>true
 |.bl a,.bl b=>a==b
 |.bl a,.int b=>(if a then 1 else 0)==b
 |.int a,.bl b=>a==(if b then 1 else 0)
 |.int a,.int b=>a==b
 |.str a,.str b=>a==b
 |_,_=>false
def tQ {A:qa0}{s:qaj}{y x:V}{u v:Value} (P:aM y u) (m:aM x v) (fy:eJ y=true) (fx:eJ x=true):qdn A s u v (eqV y x):=by
 cases y with
 |non=>
  cases P;cases x with
  |non=>cases m;exact qeW _
  |bl b=>cases m;exact qky b
  |int b=>obtain⟨t,rfl⟩:=m;exact qkx b t
  |str b=>obtain⟨t,rfl⟩:=m;exact qkv b t
  |_=>exact absurd (fx) qaL
 |bl a=>
  cases P;cases x with
  |non=>cases m;exact qkK a
  |bl b=>cases m;exact qkN a b
  |int b=>obtain⟨t,rfl⟩:=m;exact qkM a b t
  |str b=>obtain⟨t,rfl⟩:=m;exact qkJ a b t
  |_=>exact absurd (fx) qaL
 |int a=>
  obtain⟨t',rfl⟩:=P;cases x with
  |non=>cases m;exact qkF a t'
  |bl b=>cases m;exact qkH a t' b
  |int b=>obtain⟨t,rfl⟩:=m;exact qf2 a t' b t
  |str b=>obtain⟨t,rfl⟩:=m;exact qf1 a t' b t
  |_=>exact absurd (fx) qaL
 |str a=>
  obtain⟨t',rfl⟩:=P;cases x with
  |non=>cases m;exact qkr a t'
  |bl b=>cases m;exact qkt a t' b
  |int b=>obtain⟨t,rfl⟩:=m;exact qf0 a t' b t
  |str b=>obtain⟨t,rfl⟩:=m;exact qkq a t' b t
  |_=>exact absurd (fx) qaL
 |_=>exact absurd (fy) qaL
def eqU (x:V) (u:Value):Bool:=match u with
 |.none=>eqV .non x
 |.bool b=>eqV (.bl b) x
 |.int i _=>eqV (.int i) x
 |.str z _=>eqV (.str z) x
 |_=>false
def yc {x y:V}{u:Value} (r:aM y u) (f:eJ y=true):eqU x u=eqV y x:=by
 cases y with
 |non=>cases r;rfl
 |bl b=>cases r;rfl
 |int i=>obtain⟨t,rfl⟩:=r;rfl
 |str z=>obtain⟨t,rfl⟩:=r;rfl
 |_=>exact absurd (f) qaL
def oK {x:V}:∀ {xs:List V}{Y:List Value},aG xs Y->xs.all eJ=true->Y.any (eqU x)=xs.any λy=>eqV y x
 |_,_,.nil,_=>rfl
 |y::xs,u::Y,.cons r t,f=>by
  rw[qbD,qba]at f;rw[qcf,qcf,yc r f.1,oK t f.2]
def mW {A:qa0}{s:qaj}{x:V}{v:Value} (m:aM x v) (fx:eJ x=true):∀ {xs:List V}{Y:List Value},aG xs Y->xs.all eJ=true->∀ u∈Y,qdn A s u v (eqU x u)
 |_,_,.nil,_=>λu hu=>by cases hu
 |y::xs,u::Y,.cons r t,f=>λu' hu=>by
  rw[qbD,qba]at f;rcases qaA.mp hu with rfl|hu
  ·rw[yc r f.1];exact tQ r m f.1 fx
  ·exact mW m fx t f.2 u' hu
def inV (x:V) (xs:List V):Bool:=xs.any λy=>eqV y x
def rIn (K:qae) (neg:Bool):R2:=λx y H Q=>∃ p xs,y=.ref p/\(SqL K H p xs\/SqT K H p xs)/\eJ x=true/\xs.all eJ=true/\Q (.bl (if neg then !inV x xs else inV x xs)) H
def xk:OpR X (qbN .In) (rIn X.K false):=by
 intro g s B H x y v u Q I m P h;obtain⟨p,xs,rfl,C,fx,fs,q⟩:=h;cases P;rcases C with C|C
 ·obtain⟨d,r,D,M⟩:=I.list C
  refine qhn _ D.isList (λw hw=>mW m fx r fs w (by simpa using hw)) ⟨.bl _,H,I,U,?_⟩;rw[show d.toArray.any _=d.any (eqU x) by simp,oK r fs];exact q
 ·obtain⟨d,r,D,M⟩:=I.tuple C
  refine qha _ D (λw hw=>mW m fx r fs w (by simpa using hw)) ⟨.bl _,H,I,U,?_⟩;rw[show d.toArray.any _=d.any (eqU x) by simp,oK r fs];exact q
def oU:bI X (.builtin "len") (λxs H Q=>∃ p F,xs=[.ref p]/\(SqL X.K H p F\/SqT X.K H p F)/\Q (.int F.length) H):=by
 intro g s B H xs Y Q I r h;obtain⟨p,F,rfl,C,q⟩:=h;obtain⟨u,rfl,m⟩:=gC r;cases m;have hn:=kA;rcases C with C|C
 ·obtain⟨d,O,D,M⟩:=I.list C
  have E:=O.length;exact Calls.call_len_list D.isList (by simp only[qaI]<;>lia) ⟨.int F.length,H,I.tok _,⟨_,by rw[qaI,E]⟩,q⟩
 ·obtain⟨d,O,D,M⟩:=I.tuple C
  have E:=O.length;exact len_tuple D (by simp only[qaI]<;>lia) ⟨.int F.length,H,I.tok _,⟨_,by rw[qaI,E]⟩,q⟩
def oV:bI X (.builtin "len") (λxs H Q=>∃ z,xs=[.str z]/\z.length<=qaJ/\Q (.int z.length) H):=by
 intro g s B H xs Y Q I r h;obtain⟨z,rfl,M,q⟩:=h;obtain⟨u,rfl,t,rfl⟩:=gC r;have hn:=kA;exact len_str (by lia) ⟨.int z.length,H,I.tok _,⟨_,U⟩,q⟩
def oW:bI X (.type "list") (λxs H Q=>∃ p F,xs=[.ref p]/\(SqL X.K H p F\/SqT X.K H p F)/\∀ l,H l=none->Q (.ref l) (upd H l (.lst F))):=by
 intro g s B H xs Y Q I r h;obtain⟨p,F,rfl,C,q⟩:=h;obtain⟨u,rfl,m⟩:=gC r;cases m;have fin:∀ (d:List Value),aG F d->F.length<=qaJ->∀ (h':Heap) (c':Nat),_->
   h'.get? s.heap.objs.size=some { cls:=.type "list",dict:=none,data:=.seq d.toArray c',slots:=#[] }->EP X g B Q _ { s with heap:=h' }:=λd O M h' c' kp e=>
  ⟨.ref s.heap.objs.size,_,I.laid kp (qap _) (show cg X.prog X.w _ h' _ (.lst F) from ⟨M,d,c',O,e⟩),U,q _ (I.hok.fresh (qap _))⟩
 rcases C with C|C
 ·obtain⟨d,O,D,M⟩:=I.list C
  have E:=O.length;obtain⟨o,ho,hc,n,hd⟩:=D.isList;exact call_list_seq p (.inl U) ho hc hd (λh' c' kp e=>fin d O M h' c' kp e) (by simp only[qaI]<;>lia)
 ·obtain⟨d,O,D,M⟩:=I.tuple C
  have E:=O.length;obtain⟨o,ho,hc,n,hd⟩:=D;exact call_list_seq p (.inr U) ho hc hd (λh' c' kp e=>fin d O M h' c' kp e) (by simp only[qaI]<;>lia)
def nO:bI X (.type "tuple") (λxs H Q=>∃ p F,xs=[.ref p]/\((SqL X.K H p F/\∀ l,H l=none->Q (.ref l) (upd H l (.tup F)))\/(SqT X.K H p F/\Q (.ref p) H))):=by
 intro g s B H xs Y Q I r h;obtain⟨p,F,rfl,h⟩:=h;obtain⟨u,rfl,m⟩:=gC r;cases m;rcases h with⟨C,q⟩|⟨C,q⟩
 ·obtain⟨d,O,D,M⟩:=I.list C
  have E:=O.length;refine call_tuple_list D.isList (λh' kp=>?_) (by simp only[qaI]<;>lia);have I1:=I.kept (t':=s.toks) kp;exact⟨.ref h'.objs.size,_,(I1.laid (λb o e=>qai _ e) (qap _) (show cg X.prog X.w _ _ _ (.tup F) from ⟨M,d,O,eU.new _ _⟩)),U,q _ (I1.hok.fresh (qap _))⟩
 ·obtain⟨d,O,D,M⟩:=I.tuple C
  exact call_tuple_same D ⟨.ref p,H,I,U,q⟩
def tyV (K:qae) (T:String) (x:V) (H:Hp):Prop:=match x with
 |.str _=>T = "str"
 |.int _=>T = "int"
 |.ref p=>(T = "list"/\∃ xs,SqL K H p xs)\/(T = "tuple"/\((∃ o,K.lookup p=some o/\o.cls=.type "tuple"/\o.dict=none)\/∃ xs,SqT K H p xs))\/
   (T = "dict"/\((∃ kvs,H p=some (.dK kvs))\/∃ kvs,H p=some (.dT kvs)))\/(T = "set"/\∃ S n,H p=some (.set S n))
 |_=>False
def DB {g:List (Addr×Obj)}{B:St}{H:Hp}{s:qaj}{T:String}{x:V}{v:Value} (I:Inv X g B H s) (r:aM x v) (ty:tyV X.K T x H) :
  s.TypeIs v T/\∀ a,v=.ref a->∃ ob,s.heap.get? a=some ob/\ob.dict=none:=by
 cases x with
 |str z=>
  obtain⟨t,rfl⟩:=r;cases (ty);exact⟨typeIs_str s z t,λ_ e=>nomatch e⟩
 |int i=>
  obtain⟨t,rfl⟩:=r;cases (ty);exact⟨qfJ s i t,λ_ e=>nomatch e⟩
 |ref p=>
  cases r;rcases ty with⟨rfl,xs,C⟩|⟨rfl,ht⟩|⟨rfl,hk⟩|⟨rfl,S,n,hk⟩
  ·obtain⟨d,_,D,_⟩:=I.list C
   refine⟨D.isList.typeIs,λa e=>?_⟩;cases e;obtain⟨o,n,e,c,hd,_⟩:=D;exact⟨o,e,hd⟩
  ·have z:∃ o:Obj,s.heap.get? p=some o/\o.cls=.type "tuple"/\o.dict=none:=by
    rcases ht with⟨o,hk,hc,hd⟩|⟨xs,C⟩
    ·exact⟨o,I.kIn p o hk,hc,hd⟩
    ·exact I.tuple1 C
   obtain⟨o,e1,hc,hd⟩:=z;refine⟨⟨o,e1,hc⟩,λa e=>?_⟩;cases e;exact⟨o,e1,hd⟩
  ·have z:∃ o,s.heap.get? p=some o/\o.ExactDict:=by
    rcases hk with⟨kvs,hk⟩|⟨kvs,hk⟩
    ·obtain⟨_,_,_,_,o,_,_,e,ex,_⟩:=I.hok p _ hk
     exact⟨o,e,ex⟩
    ·obtain⟨_,_,_,_,o,_,_,e,ex,_⟩:=I.hok p _ hk
     exact⟨o,e,ex⟩
   obtain⟨o,e,ex⟩:=z;refine⟨⟨o,e,ex.1⟩,λa e2=>?_⟩;cases e2;exact⟨o,e,ex.2.1⟩
  ·obtain⟨o,_,_,_,e,ex,_⟩:=I.hok p _ hk
   refine⟨⟨o,e,ex.1⟩,λa e2=>?_⟩;cases e2;exact⟨o,e,ex.2.1⟩
 |_=>exact qcw ty
def tBM (K:qae) (T:String) (r:V->List V->Hp->VK->Prop) (to:TE) (t:TA):TE:=λB H Q=>to B H λx H1=>tyV K T x H1/\t B H1 λxs H2=>r x xs H2 Q
variable {o e:Expr}{es:List Expr}{to:TE}{t:TA}{name:Str}{apos G:Pos}{T id:String}{r:V->List V->Hp->VK->Prop}
def BD (pa:PlainAttrs T) (slot:Slot T name id) (hty:typeOf (.builtin id)=pure (.type "method_descriptor")) (hm:MtR X id r) (ho:PE X o to) (ha:PA X (e::es) t)
  (hbase:qdv o name X.env (eval o X.env)=eval o X.env:=by rfl)
  (hfew:((qeP G (qbC (e::es) X.env)).all (λx=>!x.1) && (qhX G (qgh [] X.env)).all (λx=>x.1.isSome)
    && decide ((e::es).length+([]:List qhP).length+(if ([]:List qhP).isEmpty then 0 else 1)<30))=true:=by rfl)
  (hline:(apos.endLine==G.line)=true:=by rfl) (R:qbC (e::es) X.env=(false,eval e X.env)::qbC es X.env:=by rfl) (hplain:(qeP G (qbC es X.env)).any (·.1)=false:=by rfl) :
  PE X (.Call (.Attribute o name apos) (e::es) [] G) (tBM X.K T r to t):=by
 intro g s B H Q I h;refine wpAny_Call_method_late hbase hfew hline U (thn (ho g s B H _ I h) λv s1 ⟨x,H1,I1,r1,ty,q1⟩=>?_);obtain⟨N,h2⟩:=DB I1 r1 ty;refine⟨T,id,pa,slot,hty,N,h2,?_⟩;have hA:=ha G g s1 B H1 _ I1 q1;rw[R]at hA ⊢;refine Calls.callWith_builtin (by show (false||(qeP G _).any _)=false;rw[hplain]<;>rfl) (Calls.evalArgs_plain ?_);exact thn hA λY s2 ⟨vs,H2,I2,r2,q2⟩=>hm g s2 B H2 x vs v Y Q I2 r1 r2 q2
end
def MtM (X:Cx) (id:String) (r:V->List V->Hp->VK->Prop):Prop:=
 ∀ (a:List (Addr×Obj)) (s:qaj) (c:St) (H:Hp) (x:V) (xs:List V) (v:Value) (b:List Value) (Q:VK),Inv X a c H s->aM x v->aG xs b->r x xs H Q->
  wpAny (model X.prog X.w) X.A (call (.builtin id) (v::b)) (EP X a c Q) X.xe s
def aG.one {x:V}{a:List Value} (h:aG [x] a):∃ u,a=[u]/\aM x u:=by
 cases h with
 |cons r t=>cases t;exact⟨_,U,r⟩
def aG.two {x y:V}{a:List Value} (h:aG [x,y] a):∃ u v,a=[u,v]/\aM x u/\aM y v:=by
 cases h with
 |cons r t=>cases t with
  |cons q t2=>cases t2;exact⟨_,_,U,r,q⟩
def aG.rep {xs:List V}{a:List Value} (h:aG xs a):∀ k:Nat,aG (qaG k xs).flatten (qaG k a).flatten
 |0=>.nil
 |k+1=>by
  exact aG.append h (aG.rep h k)
def ki (a:List Value):∀ (k:Nat) (acc:List Value),
  qjB (λd c=>d++c) acc.toArray (qaG k a.toArray)=(acc++(qaG k a).flatten).toArray
 |0,acc=>by simp
 |k+1,acc=>by
  have e:acc.toArray++a.toArray=(acc++a).toArray:=by simp
  have b:(acc++a)++(qaG k a).flatten=acc++(qaG (k+1) a).flatten:=by
   rw[qa5,qhe,qbM]
  rw[<-b,<-ki a k _,<-e,qa5,List.foldl_cons]
section
variable {X:Cx}{c:List (Addr×Obj)}{i:St}{H:Hp}{s:qaj}{l b:Addr}{xs g t:List V}
def Inv.lset {a d:List Value}{n:Nat}{f:Array Value->Array Value}{t':Nat} (I:Inv X c i H s) (j:H l=some (.lst xs))
  (e:s.heap.get? l=some { cls:=.type "list",data:=.seq a.toArray n }) (o:f a.toArray=d.toArray) (k:aG g d) (m:g.length<=qaJ) :
  Inv X c i (upd H l (.lst g)) { s with heap:=s.heap.update l (qcF f),toks:=t' }:=by
 have q:=qeR e f;rw[o]at q;refine I.write (by rw[j];exact trivial) (.inl U) (λv u hb p=>(qdq s.heap _ (qbL hb)).trans p) ⟨_,q⟩ ?_;exact⟨m,d,_,k,q⟩
def Inv.lnew {a:List Value}{t':Nat} (I:Inv X c i H s) (k:aG g a) (m:g.length<=qaJ) :
  Inv X c i (upd H s.heap.objs.size (.lst g)) { s with heap:=s.heap.push { cls:=.type "list",data:=.seq a.toArray },toks:=t' }:=
 I.laid (λ_ _ q=>qai _ q) (qap _) ⟨m,a,0,k,qav _ U⟩
def Inv.fresh (I:Inv X c i H s):H s.heap.objs.size=none:=I.hok.fresh (qap _)
def Inv.lstM (I:Inv X c i H s) (j:H l=some (.lst xs)):xs.length<=qaJ/\∃ (a:List Value) (n:Nat),aG xs a/\xs.length=a.length/\s.heap.get? l=some { cls:=.type "list",data:=.seq a.toArray n }:=by
 obtain⟨z,a,n,r,e⟩:=I.hok l _ j;exact⟨z,a,n,r,r.length,e⟩
def yG {n:Nat} (h:n<=qaJ):qe2 n=false:=by
 exact decide_eq_false (by lia)
end
section
variable {X:Cx}
def AX:V->List V->Hp->VK->Prop:=λx b H Q=>∃ l xs y,x=.ref l/\b=[y]/\H l=some (.lst xs)/\xs.length<qaJ/\Q .non (upd H l (.lst (xs++[y])))
def xi:MtM X "list.append" AX:=by
 intro d s o H x b v m Q I j g h;obtain⟨l,xs,y,rfl,rfl,c,t,q⟩:=h;cases j;obtain⟨u,rfl,i⟩:=g.one;obtain⟨z,a,n,r,p,e⟩:=I.lstM c;refine qc2 qfd ⟨_,e,U⟩ qe0 (qeT _ _) (qeZ l a.toArray n u (by rw[qaI];lia)) ⟨e,?_⟩;refine⟨.non,_,I.lset c e (by simp) (r.append (.cons i .nil)) ?_,U,q⟩;rw[qaz,qbU];lia
def qh {α:Type} (xs:List α) (k:Nat):(qaG k xs).flatten.length=k*xs.length:=by
 induction k with
 |zero=>simp
 |succ k f=>rw[qa5,qhe,qaz,f,Nat.succ_mul,qgy]
end
section
variable {prog:qaN}{w:World}{A:qa0}{E:Value->qaj->Prop}{s:qaj}
end
section
variable {X:Cx}
end
end L2
namespace Att
open PySem PySem.W PySem.Calls PyProof.Rows
def k9 {P:Params}{h:Heap}:∀ (ns:List Int) (c:List Value),WellAll P h c (ns.map WData.int)->qcC c ns:=by
 intro ns
 induction ns with
 |nil=>
  intro c w;cases w;exact .nil
 |cons n ns d=>
  intro c w;cases w with
  |cons a b=>
   cases a;exact .cons _ _ (d _ b)
def xv {l:OpenLaw}{n:Nat} (hn:l.most=some n) {P:Params}{h:Heap}{args:List WData}{c:List Value}
  (b:l.row.toRowW.claim.pre args=true) (i:WellAll P h c args) :
  ∃ a j ns,c=[Value.ref a]/\args=[WData.list (ns.map WData.int)]/\h.get? a=some { cls:=.type "list",data:=.seq j.toArray }/\qcC j ns/\ns.length<=n:=by
 obtain⟨d,r,rfl,o,s⟩:=hasAllW_cons ((pre_splitW b).1);obtain rfl:=hasAllW_nil s;obtain⟨xs,rfl,m⟩:=hasW_list o;obtain⟨ns,rfl⟩:=items_int m;have e:ns.length<=n:=by
  have g:=by
   have g:=(holds_andW ((pre_splitW b).2)).1;rw[hn]at g;exact g
  have k:=condW_of g (w_not (w_lt w_lit (w_len_list (w_arg U))))
  first
   |(exact absurd k _)
   |(simp at k;lia)
 cases i with
 |cons q w2=>
  cases w2;cases q with
  |list p f=>exact⟨_,_,ns,U,U,p,k9 ns _ f,e⟩
def xq (l:OpenLaw) (args:List WData):l.row.toRowW.claim.post args (.bool true) args=true:=
 postW_of
  (show qig [] _ .bool=true by first|rfl|decide|simp[qig,WShape.arms,WShape.armsAll])
  (w_eq_bool (w_res U) w_lit) U
def attach_call {l:OpenLaw}{n:Nat}{q:qaN}{c:List Str}{XP:(Str->Option Value)->Heap->Prop}{YP:World->Heap->Prop}{d:DefRec}
  (hn:l.most=some n) (v:d.params.defaults=[])
  (call:∀ (w:World) (s₀ b:qaj) (mg s:Str->Option Value) (i:Addr) (o:Obj) (x p e:Value) (a:Addr) (h:List Value) (ns:List Int),
    Ground q c [] XP w s₀ mg s b.heap->YP w b.heap->
    b.heap.get? i=some o->o.data=.func (docDef d.name d.params d.body d.scope x p e)->b.heap.CodeRec p d.name->mg d.name=some (.ref i)->
    b.heap.get? a=some { cls:=.type "list",data:=.seq h.toArray }->qcC h ns->ns.length<=n->b.gens=#[]->
    qe7 (model l.prog w) qg0 (.call (.ref i) ⟨[.ref a],[]⟩) (λr s'=>r=.ok (.ret (.bool true))/\OldK b.heap s'.heap/\s'.os=b.os/\qfh s'.gens) b) :
  WalkO q c XP YP l.row.toRowW d [] (λf h=>qg1 f h):=by
 intro w s₀ b mg s G Y i o x p e D kV E hd t B u hg args z as j A J y I;obtain rfl:D=.none:=Dflts.none B v;obtain rfl:kV=.none:=Dflts.noKw B;obtain⟨a,h,ns,rfl,rfl,k,g,m⟩:=xv hn j y;refine enter_call (qfR (call w s₀ b mg s i o x p e a h ns G Y E (fd_plain hd) t u k g m hg) λr s' F=>?_);obtain⟨rfl,K,H,C⟩:=F;exact⟨.inl ⟨_,_,_,U,λ_=>rfl,.bool true,xq l _,λ_=>⟨List.Pairwise.nil,λ_ hm=>(nomatch hm)⟩⟩,K,H,C⟩
section
variable {prog:qaN}{w:World}{A:qa0}{E:Value->qaj->Prop}{s:qaj}{K:Frag}
end
end Att
namespace L2
open PySem PySem.Spec PyProof.Rows
def oG:∀ {a:List Value}{ns:List Int},qcC a ns->aG (ns.map V.int) a
 |_,_,.nil=>.nil
 |_,_,.cons n t h=>.cons ⟨t,U⟩ (oG h)
def zN (H:Hp):Prop:=∀ b,H b=none\/∃ o xs,H b=some (.frz o (.lst xs))
def yu {P:qaN}{w:World}{K:qae}{mg C:Str->Option Value}{CX:CXT}{k:Nat}{I a:Addr}{fd:qb5}{x:Str}{sp:Sp}{c:qaj}{y:List Value}{ns:List Int}
  (KX:K.In c.heap) (hns:c.heap.Ns qb8 mg) (hb:c.heap.Ns qgH C) (E:∀ x:Str,x≠"__name__"->C x=qcb x) (p:c.heap.NoLimit) (hg:c.gens=#[])
  (B:c.heap.get? a=some { cls:=.type "list",data:=.seq y.toArray }) (hi:qcC y ns) (R:ns.length<=qaJ) (Y:bo k qg0)
  (F:∀ base:Heap,K.In base->base.Ns qb8 mg->dG P w K mg base CX k I fd [x] sp) (j:∀ (s:qaj) (u:Value),qg6 s fd ⟨[u],[]⟩ [(x,u)])
  (D:∀ H:Hp,zN H->SqL K H a (ns.map V.int)->sp [.ref a] H (λv _=>v=.bl true) λ_ _ _=>False)
  (M:∀ H e s',CX [] H c (λ_ _ _=>False) e s'->False) :
  qe7 (model P w) qg0 (.call (.ref I) ⟨[.ref a],[]⟩) (λr s'=>r=.ok (.ret (.bool true))/\OldK c.heap s'.heap/\s'.os=c.os/\qfh s'.gens) c:=by
 have N:=oG hi;have i:∀ H ,zN H->SqL K H a (ns.map V.int)->HOk P w H c.heap->(∀ b,H b≠none->b=a)->(H a≠none->K.lookup a=none)->
   qe7 (model P w) qg0 (.call (.ref I) ⟨[.ref a],[]⟩) (λr s'=>r=.ok (.ret (.bool true))/\OldK c.heap s'.heap/\s'.os=c.os/\qfh s'.gens) c:=by
  intro H O W hok hA X;have f:∀ {b:Addr}{o:Obj},c.heap.get? b=some o->H b=none->(wO c.heap H).get? b=some o:=λe n=>yh e n;have J:∀ {b:Addr}{o:Obj}{es:Array qd0}{A:Nat},c.heap.get? b=some o->o.data=.dict es A->H b=none:=λ{b o es A} e d=>by
   cases q:H b with
   |none=>rfl
   |some u=>
    have L:=hA b (by rw[q];simp);subst L;rw[B]at e;cases e;cases d
  have g:∀ {b:Addr}{m:Str->Option Value},c.heap.Ns b m->(wO c.heap H).Ns b m:=λ{b m} ⟨o,es,A,e,d,r⟩=>⟨o,es,A,f e (J e d),d,r⟩
  have l:=λb o e=>f (KX b o e) (by
   cases q:H b with
   |none=>rfl
   |some u=>
    have L:=hA b (by rw[q];simp);subst L
    rw[X (by rw[q];simp)]at e;cases e)
  refine qfR ((F _ l (g hns)).run qg0 [] c H ⟨[.ref a],[]⟩ [.ref a] [.ref a] _ _ Y ⟨U,⟨l,g hns,⟨C,g hb,E⟩,let ⟨mc,h1,h2⟩:=p;⟨mc,g h1,h2⟩⟩,λb o e=>Au e,qdC (wP _ _),trivial,λb hb=>absurd (show b∈([]) from hb) (by simp),hok,.of_eq hg⟩ (j c _) (.cons U .nil) (D H O W)) λr s' h=>?_;cases r with
  |error e=>exact (M H e s' h).elim
  |ok fl=>
   cases fl with
   |next=>exact qcw h
   |brk=>exact qcw h
   |cont=>exact qcw h
   |ret u=>
    obtain⟨v,H',os,bare,un,t,S,q⟩:=h;subst q;obtain rfl:u=Value.bool true:=S;refine⟨U,OldK.of_keep λb o e=>?_,os,bare⟩;cases q:H b with
    |none=>exact un.keep b o e q (by intro z;exact absurd (show b∈([]) from z) (by simp)) (by simp)
    |some u=>
     rcases O b with z|⟨ob,xs,z⟩
     ·rw[q]at z;cases z
     ·obtain⟨Q,_⟩:=hok b _ z
      obtain⟨T,_⟩:=t b _ (un.frzs b ob _ z);rw[e]at Q;cases Q;exact T
 cases hk:K.lookup a with
 |some o=>
  -- the script is one of the module's own objects
  have e:=KX a o hk;rw[B]at e;cases e;refine i _ (λ_=>.inl U) (.inr ⟨_,y.toArray,_,hk,U,U,U,by rw[qaI,hi.length];exact R,by simpa using N⟩) (λb u z=>by cases z) (λb z=>absurd U z) λz=>absurd U z
 |none=>
  refine i (λb=>if b=a then some _ else none) (λb=>?_) (.inl (.inr ⟨{ cls:=.type "list",data:=.seq y.toArray },iFP U⟩)) (λb u z=>?_) (λb z=>?_) λ_=>hk
  ·by_cases hb:b=a
   ·exact .inr ⟨_,_,iFP hb⟩
   ·exact .inl (iFN hb)
  ·by_cases hb:b=a
   ·have G:=(iFP hb).symm.trans z
    cases G;subst hb;exact⟨B,by rw[qag];exact R,y,_,N,B⟩
   ·have G:=(iFN hb).symm.trans z
    cases G
  ·by_cases hb:b=a
   ·exact hb
   ·exact absurd (iFN hb) z
def walk_of {l:qfb}{n k:Nat}{q:qaN}{c:List Str}{XP:(Str->Option Value)->Heap->Prop}{YP:World->Heap->Prop}{d:DefRec}{K:Params->qae}{CX:World->CXT}{sp:World->Sp}{x:Str}
  (hn:l.most=some n) (y:n<=qaJ) (t:d.params.defaults=[]) (L:bo k qg0)
  (J:∀ (w:World) (h:Heap),YP w h->(K w.params).In h)
  (F:∀ (w:World) (mg:Str->Option Value) (m:Addr) (h:Heap),(K w.params).In h->h.Ns qb8 mg->mg d.name=some (.ref m)->
    ∃ fd:qb5,(∀ (s:qaj) (u:Value),qg6 s fd ⟨[u],[]⟩ [(x,u)])/\
     ∀ base:Heap,(K w.params).In base->base.Ns qb8 mg->dG l.prog w (K w.params) mg base (CX w) k m fd [x] (sp w))
  (p:∀ (w:World) (H:Hp) (a:Addr) (ns:List Int),ns.length<=n->zN H->SqL (K w.params) H a (ns.map V.int)->sp w [.ref a] H (λv _=>v=.bl true) λ_ _ _=>False)
  (z:∀ (w:World) (H:Hp) (s:qaj) (e:Value) (s':qaj),CX w [] H s (λ_ _ _=>False) e s'->False) :
  qhp q c XP YP l.row.toRowW d [] (λf A=>qg1 f A):=by
 refine Att.attach_call hn t λw s₀ j mg M m o O P E a A ns G Y N hd C r i g b hg=>?_;have KX:=J w _ Y;obtain⟨fd,hb,D⟩:=F w mg m _ KX G.T.g r;exact yu KX G.T.g G.T.b G.T.builtins G.T.nolimit hg i g (qaY b y) L D hb (λH B I=>p w H a ns b B I) λH e s'=>z w H j e s'
def lm (s:Stmt):Arguments:=match s with
 |.FunctionDef _ a _ _ _ _ _ _ _ _=>a
 |_=>{ posonlyargs:=[],args:=[],vararg:=none,kwonlyargs:=[],kw_defaults:=[],kwarg:=none,defaults:=[] }
def aW (s:Stmt):List Stmt:=match s with
 |.FunctionDef _ _ b _ _ _ _ _ _ _=>b
 |_=>[]
def ao (s:Stmt):Scope:=match s with
 |.FunctionDef _ _ _ _ _ _ a _ _ _=>a
 |_=>{ kind:=.function,names:=[],isGenerator:=false,isCoroutine:=false }
abbrev CX0:CXT:=λ_ _ _ _ _ _=>False
abbrev E0:XK:=λ_ _ _=>False
def yO {X:Cx}:lV CX0 X E0:=λ_ _ _ _ _ _ _ h=>h.elim
structure Fun (K:qae) (x qual:Str) (st:Stmt) (f:Addr) (fd:qb5):Prop where
 ex:∃ (oc:Value) (od:Option Addr) (kV doc pm:Value) (an:Option Addr) (cdv ct:Value) (osl:Array (Option Value)),
  fd=qdI x qual (lm st) (aW st) (ao st) .none kV doc pm an cdv ct/\K.lookup f=some ⟨oc,od,.func fd,osl⟩/\qfx K cdv qual=true
 kp:qcz K (.ref f)=true
section
variable {P:qaN}{w:World}{K:qae}{mg:Str->Option Value}{base:Heap}
def Fun.ok {x a:Str}{st:Stmt}{f:Addr}{fd:qb5}{N ps:List Str}{k:Nat}{sp:Sp} (F:Fun K x a st f fd) (S:ck N ps (ao st)) (len:∀ j H Q E,sp j H Q E->j.length=ps.length)
  (m:∀ (b:Value) (A:qa0) (outer:List Env) (s:qaj) (H:Hp) (j:List V) (Q:VK) (E:XK),bo k (A.deeper (qel a (ao st) s.heap.objs.size f b))->sp j H Q E->
    ∃ t,PSs (ft CX0 P w K mg base N a (ao st) f b A outer s H E).nox (aW st) t/\t { nx:=λ_ H'=>Q .non H',rt:=Q } (ij N j) H):dG P w K mg base CX0 (k+1) f fd ps sp:=by
 obtain⟨p,o,kV,d,g,i,b,ct,e,rfl,v,n⟩:=F.ex;refine D6 v n S len λA outer s H j Q E y u=>?_;obtain⟨t,h,q⟩:=m b A outer s H j Q E y u;exact⟨t,h.nox,q⟩
def Fun.binds {x a:Str}{st:Stmt}{f:Addr}{fd:qb5}{ps:List Str} (F:Fun K x a st f fd)
  (h:∀ (kV d g:Value) (i:Option Addr) (b ct:Value) (r:List Value),r.length=ps.length->bindArgs (qdI x a (lm st) (aW st) (ao st) .none kV d g i b ct) ⟨r,[]⟩=pure (ps.zip r)):dh K fd ps []:=by
 obtain⟨p,o,kV,d,g,i,b,ct,e,rfl,v,n⟩:=F.ex;exact .all (h kV d g i b ct)
def fun_mk {x a:Str}{st:Stmt}{f:Addr}{p:Value}{o i:Option Addr}{e:Array (Option Value)}{kV d g b ct:Value} (l:K.lookup f=some ⟨p,o,.func (qdI x a (lm st) (aW st) (ao st) .none kV d g i b ct),e⟩)
  (c:qfx K b a=true) (k:qcz K (.ref f)=true):Fun K x a st f (qdI x a (lm st) (aW st) (ao st) .none kV d g i b ct):=⟨⟨p,o,kV,d,g,i,b,ct,e,U,l,c⟩,k⟩
end
def Bv {A:qa0}{k:Nat} (a:bo k A):A.units+1<cLine:=qbQ (Nat.add_le_add_left (by decide) _) a.units
def xy {n:Nat} (h:n<=1000):n<qaJ:=qbQ h (by decide)
section
variable {X:Cx}
def pv (i:Nat) {x:Str}{pos:Pos} (hN:X.N[i]?=some x:=by rfl) (b:Vis X.env.scope x:=by first|exact Or.inl U|exact Or.inr (Or.inl U)|exact Or.inr (Or.inr U)) (hd:(x==("__debug__" : Str))=false:=by decide)
  (a:(x==("__classdict__" : Str))=false:=by decide):PE X (.Name x pos) (qP i):=ie hN b hd a
end
def Cp {A B:Prop} (h:B):if false=true then A else B:=by
 exact h
def Cq {A B:Prop} (h:A):if true=true then A else B:=by
 exact h
def aO (H H':Hp):Prop:=∀ b o,H b=some o->H' b=some o
def aO.refl (H:Hp):aO H H:=λ_ _ h=>h
def aO.trans {H H1 H2:Hp} (a:aO H H1) (b:aO H1 H2):aO H H2:=λc o h=>b c o (a c o h)
def cq (a:List (Str×Addr)):List (Str×qb4)->List (Str×Addr)->List (Str×Addr)
 |[],acc=>acc
 |(n,k)::r,acc=>if k==.free then cq a r ((n,(a.lookup n).getD 0)::acc) else cq a r acc
def ja {env:Env} (f:Str×qb4->List (Str×Addr)->Sem (ForInStep (List (Str×Addr))))
  (d:∀ n k e,f (n,k) e=if k==.free then (do let c <-cellOf env n;pure (.yield ((n,c)::e))) else pure (.yield e)) :
  ∀ (names:List (Str×qb4)) (acc:List (Str×Addr)),(∀ x∈names,x.2=.free->∃ c,env.cells.lookup x.1=some c)->
   forIn names acc f=pure (cq env.cells names acc)
 |[],acc,_=>by rfl
 |(n,k)::r,acc,h=>by
  rw[qfE,d];unfold cq;by_cases a:(k==.free)=true
  ·obtain⟨c,i⟩:=h (n,k) qaf (beq_iff_eq.mp a)
   have b:=i;rw[iFP a,iFP a]
   have:cellOf env n=pure c:=by unfold cellOf;rw[b]
   rw[this,b];exact ja f d r _ λx g=>h x (qak _ g)
  ·rw[iFN a,iFN a]
   exact ja f d r _ λx g=>h x (qak _ g)
def iU {a:Scope}{env:Env} (h:∀ x∈a.names,x.2=.free->∃ c,env.cells.lookup x.1=some c) :
  closureFor a env=pure (cq env.cells a.names []):=by
 simp only[closureFor];rw[ja _ (λn k b=>by cases hk:k==NameKind.free<;>simp[hk]) a.names [] h]
 simp
def eW {a:List (Str×Addr)}:∀ (names:List (Str×qb4)) (acc:List (Str×Addr)) {x:Str}{c:Addr},(cq a names acc).lookup x=some c->
  acc.lookup x=some c\/((x,NameKind.free)∈names/\c=(a.lookup x).getD 0)
 |[],_,_,_,h=>.inl h
 |(n,k)::r,acc,x,c,h=>by
  unfold cq at h;by_cases b:(k==.free)=true
  ·rw[iFP b]at h
   rcases eW r _ h with q|⟨d,f⟩
   ·rw[qbx]at q
    cases hx:x==n with
    |true=>
     rw[hx]at q;have e:=beq_iff_eq.mp hx;subst e;exact .inr ⟨by rw[<-beq_iff_eq.mp b];exact qaf,(qaP q).symm⟩
    |false=>rw[hx]at q;exact .inl q
   ·exact .inr ⟨qak _ d,f⟩
  ·rw[iFN b]at h
   rcases eW r _ h with q|⟨d,f⟩
   ·exact .inl q
   ·exact .inr ⟨qak _ d,f⟩
def eF {a:List (Str×Addr)}{x:Str}:∀ (names:List (Str×qb4)) (acc:List (Str×Addr)),((x,NameKind.free)∈names\/(acc.lookup x).isSome=true)->((cq a names acc).lookup x).isSome=true
 |[],_,h=>h.elim (λz=>nomatch z) id
 |(n,k)::r,acc,h=>by
  unfold cq;by_cases b:(k==.free)=true
  ·rw[iFP b]
   refine eF r _ ?_;rcases h with h|h
   ·rcases qaA.mp h with e|h
    ·cases e
     exact .inr (by rw[qbx,beq_self_eq_true];rfl)
    ·exact .inl h
   ·refine .inr ?_
    rw[qbx];cases x==n
    ·exact h
    ·rfl
  ·rw[iFN b]
   refine eF r _ ?_;rcases h with h|h
   ·rcases qaA.mp h with e|h
    ·cases e;exact absurd U b
    ·exact .inl h
   ·exact .inr h
def cT:∀ (names:List (Str×qb4)) (n:Nat) (acc:List (Str×Addr)) {x:Str}{c:Addr},(qcv n names acc).lookup x=some c->acc.lookup x=some c\/((x,NameKind.cell)∈names/\n<=c)
 |[],_,_,_,_,h=>.inl h
 |(m,k)::r,n,acc,x,c,h=>by
  unfold qcv at h;by_cases d:(k==.cell)=true
  ·rw[iFP d]at h
   rcases cT r _ _ h with q|⟨a,b⟩
   ·rw[qbx]at q
    cases hx:x==m with
    |true=>
     rw[hx]at q;have e:=beq_iff_eq.mp hx;subst e;exact .inr ⟨by rw[<-beq_iff_eq.mp d];exact qaf,by rw[qaP q];exact qap _⟩
    |false=>rw[hx]at q;exact .inl q
   ·exact .inr ⟨qak _ a,Nat.le_of_succ_le b⟩
  ·rw[iFN d]at h
   rcases cT r _ _ h with q|⟨a,b⟩
   ·exact .inl q
   ·exact .inr ⟨qak _ a,b⟩
def nP:∀ (names:List (Str×qb4)) (n:Nat) (acc:List (Str×Addr)),(∀ p∈acc,p.2<n)->∀ {x y:Str}{c:Addr},(qcv n names acc).lookup x=some c->(qcv n names acc).lookup y=some c->n<=c->x=y:=by
 have g:∀ (names:List _) (n:Nat) (acc:List _) (lo:Nat),lo<=n->(∀ p∈acc,p.2<n)->(∀ p∈acc,∀ q∈acc,lo<=p.2->p.2=q.2->p.1=q.1)->
   ∀ p∈qcv n names acc,∀ q∈qcv n names acc,lo<=p.2->p.2=q.2->p.1=q.1:=by
  intro names
  induction names with
  |nil=>intro n acc lo _ _ h;exact h
  |cons z r i=>
   intro n acc lo f a h;obtain⟨m,k⟩:=z;unfold qcv;by_cases o:(k==.cell)=true
   ·rw[iFP o]
    refine i _ _ lo (Nat.le_succ_of_le f) (λp b=>?_) (λp b q d l e=>?_)
    ·rcases qaA.mp b with e|b
     ·rw[e];exact qb3 _
     ·exact qbe (a p b)
    ·rcases qaA.mp b with s|b<;>rcases qaA.mp d with j|d
     ·rw[s,j]
     ·rw[s]at e;exact absurd (a q d) (by rw[<-e];exact qa9 _)
     ·rw[j]at e;exact absurd (a p b) (by rw[e];exact qa9 _)
     ·exact h p b q d l e
   ·rw[iFN o]
    exact i _ _ lo f a h
 intro names n acc a x y c u t v;exact g names n acc n (qap _) a (λp b q d l _=>absurd (a p b) (qhs.mpr l)) _ (qbw u) _ (qbw t) v U
def dz:∀ (names:List (Str×qb4)) (h:Heap) (acc:List (Str×Addr)),(∀ p∈acc,∃ v,h.IsCell p.2 v)->∀ p∈qcv h.objs.size names acc,∃ v,(qeM h names).IsCell p.2 v
 |[],_,_,h=>h
 |(m,k)::r,h,acc,d=>by
  unfold qcv qeM;by_cases a:(k==.cell)=true
  ·rw[iFP a,iFP a]
   have:=dz r (h.push { cls:=.type "cell",data:=.cell none }) ((m,h.objs.size)::acc) (λp c=>by
    rcases qaA.mp c with e|c
    ·rw[e];exact⟨none,_,qav _ U,U⟩
    ·obtain⟨v,z⟩:=d p c
     exact⟨v,z.keeps λb o e=>qai _ e⟩)
   rwa [qbv]at this
  ·rw[iFN a,iFN a]
   exact dz r h acc d
def dP {names:List (Str×qb4)} (nd:(names.map (·.1)).Nodup):∀ {x:Str}{k:qb4},(x,k)∈names->names.lookup x=some k:=by
 induction names with
 |nil=>intro x k h;cases h
 |cons z r a=>
  intro x k h;obtain⟨m,b⟩:=z;rw[qar,qci]at nd;rw[qbx];rcases qaA.mp h with e|h
  ·cases e;rw[beq_self_eq_true]
  ·have:(x==m)=false:=beq_eq_false_iff_ne.mpr λe=>nd.1 (e ▸ qaM.mpr ⟨(x,k),by assumption,U⟩)
   rw[this];exact a nd.2 h
def cQ {env:Env}:∀ {names:List (Str×qb4)}{x:Str}{k:qb4},
  (names.map λ(n,k)=>if (k==NameKind.free&&env.scope.kind==.function&&env.kindOf n==some .cell) then (n,NameKind.cell) else (n,k)).lookup x=some k->
  ∃ a,names.lookup x=some a/\(k=a\/(a=.free/\k=.cell))
 |[],_,_,h=>by cases h
 |(n,a)::r,x,k,h=>by
  rw[qar]at h;dsimp only at h;rw[qbx];by_cases b:(a==NameKind.free&&env.scope.kind==.function&&env.kindOf n==some .cell)=true
  ·rw[iFP b,qbx]at h
   cases hx:x==n with
   |true=>
    rw[hx]at h;refine⟨a,U,.inr ⟨?_,(qaP h).symm⟩⟩;simp only[qba]at b;exact beq_iff_eq.mp b.1.1
   |false=>rw[hx]at h;exact cQ h
  ·rw[iFN b,qbx]at h
   cases hx:x==n with
   |true=>rw[hx]at h;exact⟨a,U,.inl (qaP h).symm⟩
   |false=>rw[hx]at h;exact cQ h
def gv {env:Env}:∀ {names:List (Str×qb4)}{x:Str},names.lookup x=some .free->
  (names.map λ(n,k)=>if (k==NameKind.free&&env.scope.kind==.function&&env.kindOf n==some .cell) then (n,NameKind.cell) else (n,k)).lookup x=some .free\/
  (names.map λ(n,k)=>if (k==NameKind.free&&env.scope.kind==.function&&env.kindOf n==some .cell) then (n,NameKind.cell) else (n,k)).lookup x=some .cell
 |[],_,h=>by cases h
 |(n,b)::r,x,h=>by
  rw[qar];dsimp only;rw[qbx]at h;by_cases a:(b==NameKind.free&&env.scope.kind==.function&&env.kindOf n==some .cell)=true
  ·rw[iFP a,qbx]
   cases hx:x==n with
   |true=>exact .inr U
   |false=>rw[hx]at h;exact gv h
  ·rw[iFN a,qbx]
   cases hx:x==n with
   |true=>rw[hx]at h;exact .inl h
   |false=>rw[hx]at h;exact gv h
def jS {M:Model}{A:qa0}{E:Value->qaj->Prop}{s:qaj}{a:Scope}{env:Env}{c:List (Str×Addr)}{Q:Env->qaj->Prop}
  (d:Q (newEnv a s.heap.objs.size env.globals (qcv (s.heap.objs.size+1) a.names c) env.qual none .none (some env) qgH)
    { s with heap:=qeM (s.heap.push { cls:=.type "dict",data:=.dict #[] }) a.names }) :
  wpAny M A (newFunctionEnv a env.globals c [] env.qual none .none (some env)) Q E s:=by
 refine qac (wpAny_alloc ?_);refine qac (wpAny_layCells _ (λname kind b=>by cases hkc:kind==NameKind.cell<;>simp[hkc]) _ _ _ _ ?_);rw[qbv ..];refine qac ?_;exact qaq (qaq d)
def di {prog:qaN}{w:World}{A:qa0}{R:qjw->qaj->Prop}{s:qaj}{q a iter:Expr}{y:List Expr}{o:Scope}{pos:Pos}{z acc:Value}{env:Env} (I:Nat->qaj->Prop)
  (turn:∀ n s,I n s->wpAny (model prog w) A (qgG z) (λr e=>match r with
    |none=>R (.ok .next) e
    | some v=>wpAny (model prog w) A (qgg a z v) (λ_ b=>wpAny (model prog w) A (qfS a env v) (λ_ g=>
      wpAny (model prog w) A (forIn y true λc r=>if r=true then do let ok <-qjs c env (eval c env);pure (ForInStep.yield ok) else pure (ForInStep.yield r)) (λok d=>
       if ok=true then wpAny (model prog w) A (eval q env) (λx f=>
        wpAny (model prog w) A (call (.builtin "list.append") [acc,x]) (λ_ j=>∃ m,m<n/\I m j) (λ_ _=>False) f) (λ_ _=>False) d
       else ∃ m,m<n/\I m d) (λ_ _=>False) g) (λ_ _=>False) b) (λ_ _=>False) e) (λ_ _=>False) s)
  (n:Nat) (h:I n s) :
  qe7 (model prog w) A (.compLoop (.ListComp q [⟨a,iter,y,0⟩] o pos) 0 z acc env) R s:=by
 refine codeAny_loop U I (λn s B=>?_) n h;refine wpAny_noted ?_;rw[compTurn_list];refine qac (qfp (qac (qcq (turn n s B) (λr e k=>?_) λ_ _ h'=>h'.elim)));cases r with
 |none=>exact qaq k
 |some v=>
  refine qac (qcq k (λ_ b l=>?_) λ_ _ h'=>h'.elim);refine qac (qcq l (λ_ g u=>qac (qcq u (λok d i=>?_) λ_ _ h'=>h'.elim)) λ_ _ h'=>h'.elim);cases ok with
  |false=>exact qaq ⟨U,i⟩
  |true=>
   exact qac (qac (qcq i (λx f t=>qac (qcq t (λ_ j p=>qaq (qaq ⟨U,p⟩)) λ_ _ h'=>h'.elim)) λ_ _ h'=>h'.elim))
def lcX (X:Cx) (a:Scope) (b:List (Str×Addr)) (Nc:List Str) (s:qaj) (H:Hp) (C:Addr) (c:List Addr):Cx where
 prog:=X.prog
 w:=X.w
 K:=X.K
 mg:=X.mg
 base:=X.base
 A:=X.A
 N:=Nc
 s₀:=s
 H₀:=H
 env:=qgZ a b C X.env
 outer:=X.stack
 stack:=X.stack
 ex:=c
 fn:=λx=>a.names.lookup x==some .cell
 calm:=X.calm
 pn:=[]
 xe:=λ_ _=>False
structure dH (X:Cx) (scope:Scope) (Nc:List Str) (emb:St->St):Prop where
 kind:scope.kind=.function
 nd:(scope.names.map (·.1)).Nodup
 nN:Nc.Nodup
 free:∀ x∈scope.names,x.2=.free->X.env.kindOf x.1=some .cell\/X.env.kindOf x.1=some .free
 len:∀ σ:St,σ.length=X.N.length->(emb σ).length=Nc.length
 emb:∀ σ:St,σ.length=X.N.length->∀ (i:Nat) (x:Str) (v:V),Nc[i]?=some x->(emb σ)[i]?=some (some v)->∃ j:Nat,X.N[j]?=some x/\σ[j]?=some (some v)/\scope.names.lookup x=some .free
section
variable {X:Cx}{D:List (Addr×Obj)}{W:St}{H:Hp}{s:qaj}{a:Scope}{Nc:List Str}{emb:St->St}
def dH.clos (S:dH X a Nc emb) (ok:X.Ok):∀ x∈a.names,x.2=.free->∃ c,X.env.cells.lookup x.1=some c:=λx w h=>ok.has x.1 (S.free x w h)
def rY (S:dH X a Nc emb) (I:Inv X D W H s) {V:List Addr} (R:∀ b∈V,iP X D H b) (hfo:∀ b∈V,∃ o,s.heap.get? b=some o) {lo:Obj} (hlo:∀ v,lo.data≠.cell v) (Y:lo.isFreed=false) :
  Inv (lcX X a (qcv (s.heap.objs.size+2) a.names (cq X.env.cells a.names [])) Nc s H (s.heap.objs.size+1) V) [(s.heap.objs.size,lo)] (emb W) H
   { s with heap:=qeM ((s.heap.push lo).push { cls:=.type "dict",data:=.dict #[] }) a.names }:=by
 have N:((s.heap.push lo).push { cls:=.type "dict",data:=.dict #[] }).objs.size=s.heap.objs.size+2:=by rw[qbv,qbv]
 have M:(s.heap.push lo).objs.size=s.heap.objs.size+1:=by rw[qbv]
 have G:∀ b o,s.heap.get? b=some o->(qeM ((s.heap.push lo).push { cls:=.type "dict",data:=.dict #[] }) a.names).get? b=some o:=λb o e=>
  qcV _ _ b o (qai _ (qai _ e))
 have has:=S.clos I.ok;have t:∀ {x:Str}{c:Addr},(cq X.env.cells a.names []).lookup x=some c->X.env.cells.lookup x=some c/\(x,NameKind.free)∈a.names:=λ{x c} h=>by
  rcases eW _ _ h with q|⟨J,L⟩
  ·cases q
  ·obtain⟨c',A⟩:=has _ J U
   have F:=A;rw[F]at L;exact⟨by rw[F,L];rfl,J⟩
 have d:∀ {x:Str}{c:Addr},(qcv (s.heap.objs.size+2) a.names _).lookup x=some c->
   _\/_:=λ{x c} h=>by
  rcases cT _ _ _ h with q|q
  ·exact .inl (t q)
  ·exact .inr q
 have l:∀ {x:Str}{c:Addr},X.env.cells.lookup x=some c->c<s.heap.objs.size:=λ{x c} h=>by
  obtain⟨v,z⟩:=I.cell x c h;exact z.lt
 have C:∀ b∈V,b<s.heap.objs.size:=λb hb=>by obtain⟨o,e⟩:=hfo b hb;exact qaw e
 have f:∀ p∈cq X.env.cells a.names [],∃ x,X.env.cells.lookup x=some p.2:=by
  have key:∀ (names:List _) (acc:List _),(∀ x∈names,x.2=.free->∃ c,X.env.cells.lookup x.1=some c)->(∀ p∈acc,∃ x,X.env.cells.lookup x=some p.2)->∀ p∈cq X.env.cells names acc,∃ x,X.env.cells.lookup x=some p.2:=by
   intro names
   induction names with
   |nil=>intro acc _ h;exact h
   |cons z r ih=>
    intro acc hn h;obtain⟨m,k⟩:=z;unfold cq;by_cases G:(k==.free)=true
    ·rw[iFP G]
     refine ih _ (λx w=>hn x (qak _ w)) λp g=>?_;rcases qaA.mp g with e|g
     ·obtain⟨c,hc⟩:=hn _ qaf (beq_iff_eq.mp G)
      exact⟨m,by rw[e,hc];rfl⟩
     ·exact h p g
    ·rw[iFN G]
     exact ih _ (λx w=>hn x (qak _ w)) h
  exact key _ _ has λp g=>nomatch g
 refine⟨⟨I.ok.mod,S.kind,I.ok.glob,I.ok.blt,qcB _,λx y c n B=>?_,λx w=>?_,λx c w h=>?_,I.ok.hd,I.ok.frames,.inl U,λb hb=>?_,I.bs,qaY I.ok.bsz I.sz,λb o e hb=>?_,λb hb=>?_,I.stack,I.stkFree⟩,
  rfl,I.bare,Un.kept G,⟨_,(Heap.Ns.new _ _).keeps (qcV _ _) |> λq=>by rw[M]at q;exact q,λi x v n B _=>?_⟩,λx c h=>?_,I.hok.fresh (qcB _),λx c h=>?_,λp g=>?_,I.hok.kept G,S.len W I.len⟩
 ·-- inj
  have O:=n;have Q:=B;rcases d O with⟨J,_⟩|⟨_,J⟩
  ·rcases d Q with⟨L,_⟩|⟨_,L⟩
   ·exact I.ok.inj x y c J L
   ·exact absurd (qaV (qbe (qbe (l J))) L) (qa9 _)
  ·refine nP a.names _ _ (λp g=>?_) O Q J
   obtain⟨z,hz⟩:=f p g;exact qbe (qbe (l hz))
 ·-- has
  have:∃ E,a.names.lookup x=some E/\(E=.cell\/E=.free):=by
   rcases w with q|q
   ·obtain⟨E,n,B⟩:=cQ q
    exact⟨E,n,B.elim (λe=>.inl e.symm) λe=>.inr e.1⟩
   ·obtain⟨E,n,B⟩:=cQ q
    exact⟨E,n,B.elim (λe=>.inr e.symm) λe=>by cases e.2⟩
  obtain⟨E,n,B⟩:=this;refine qcs.mp (qde a.names _ _ ?_);rcases B with rfl|rfl
  ·exact .inl n
  ·exact .inr (eF _ _ (.inl (qbw n)))
 ·-- cab
  rcases d h with⟨_,q⟩|⟨_,q⟩
  ·have:=dP S.nd q
   rw[(beq_iff_eq.mp w)]at this;cases this
  ·exact qaY (qc8 _ 2) q
 ·-- exf
  refine⟨qaF (qbe (C b hb)),λx c h=>?_⟩;rcases d h with⟨q,_⟩|⟨_,q⟩
  ·exact (R b hb).2.2.2.2.1 x c q
  ·intro e
   exact absurd (qaV (qbe (qbe (C b hb))) (e ▸ q)) (qa9 _)
 ·-- noex
  rcases (R b hb).2.2.2.1 with q|q
  ·exact I.ok.noex b o e q
  ·exact absurd (qaV (qaw (I.ok.bs b o e).1) q) (qa9 _)
 ·-- exfs
  intro hb2;rcases qaA.mp (I.stkSub b hb2) with q|q
  ·exact (R b hb).2.1 q
  ·exact (R b hb).2.2.1 q
 ·-- loc
  obtain⟨j,e1,e2,T⟩:=S.emb W I.len i x v n B;have P:=(S.free (x,.free) (qbw T) U);obtain⟨m,hn,hl⟩:=I.loc;obtain⟨u,ru,lk⟩:=hl j x v e1 e2 (.inr P);refine⟨u,ru,.inr ⟨?_,?_⟩⟩
  ·rcases gv T with q|q
   ·exact .inr q
   ·exact .inl q
  ·rcases lk with⟨z,_⟩|⟨_,c,hc,K⟩
   ·rcases P with q|q<;>(rw[z]at q;cases q)
   ·obtain⟨c',A⟩:=qcs.mp (qde a.names _ _ (.inr (eF _ _ (.inl (qbw T)))))
    rcases d A with⟨q,_⟩|⟨q,_⟩
    ·rw[hc]at q
     cases q;exact⟨c,A,K.keeps G⟩
    ·have:=dP S.nd q
     rw[T]at this;cases this
 ·-- cell
  exact (dz a.names _ (cq X.env.cells a.names []) (λp g=>by
   obtain⟨z,hz⟩:=f p g;obtain⟨v,q⟩:=I.cell z p.2 hz
   exact⟨v,q.keeps λb o e=>qai _ (qai _ e)⟩) (x,c) (by rw[N];exact qbw h))
 ·-- freeC
  rcases d h with⟨q,_⟩|⟨_,q⟩
  ·exact I.freeC x c q
  ·exact I.hok.fresh (qaY (qc8 _ 2) q)
 ·-- pin
  have hp':=by
   have:p∈([])++[(s.heap.objs.size,lo)]:=g
   simpa using this
  subst hp';refine⟨qcV _ _ _ _ (qai _ (qav _ Y)),I.hok.fresh (qap _),qaF (qb3 _),λhb=>?_,hlo⟩;rcases qaA.mp (I.stkSub _ hb) with q|q
  ·exact absurd I.lt (by rw[<-q];exact qa9 _)
  ·exact I.nofs (qap _) q
end
def PTs (X:Cx) (d:List Expr) (t:TT):Prop:=
 ∀ (a:List (Addr×Obj)) (s:qaj) (b:St) (H:Hp) (Q:Bool->Hp->Prop),Inv X a b H s->t b H Q->
  wpAny (model X.prog X.w) X.A (forIn d true λc r=>if r=true then do let ok <-qjs c X.env (eval c X.env);pure (ForInStep.yield ok) else pure (ForInStep.yield r)) (TP X a b Q) X.xe s
def F9:TT:=λ_ H Q=>Q true H
def AS {X:Cx}:PTs X [] F9:=λ_ _ _ H _ I h=>wpAny_tests_nil ⟨H,I,h⟩
def AT {X:Cx}{c:Expr}{t:TT} (d:PT X c t):PTs X [c] t:=λa s b H Q I h=>wpAny_tests_one (d a s b H Q I h)
def Sub (b a:St):Prop:=b.length=a.length/\∀ (i:Nat) (v:V),b[i]?=some (some v)->a[i]?=some (some v)
def DK (J:It) (c:St) (g:TG) (tt:TT) (te:TE) (H1:Hp) (Q:VK):Prop:=∃ W:Nat->Nat->List V->Hp->Prop,(∃ m,W 0 m [] H1)/\∀ i m e H,W i m e H->
 (J.stop i H/\∀ D,H D=none->Q (.ref D) (upd H D (.lst e)))\/
 (J.go i H/\e.length<qaJ/\∃ N:List V->Hp->Prop,(∀ d H',N d H'->∃ f,f<m/\W (i+1) f d H')/\∀ x H',J.yld i H x H'->g x c H' λa H2=>Sub c a/\tt a H2 λb H3=>if b=true then te a H3 λv H4=>N (e++[v]) H4 else N e H3)
def tLc (emb:St->St) (b:TI) (g:TG) (tt:TT) (te:TE):TE:=λa H Q=>b a H λJ H1=>DK J (emb a) g tt te H1 Q
section
variable {X:Cx}{j:Scope}{Nc:List Str}{emb:St->St}{elt iter tg:Expr}{ifs:List Expr}{pos:Pos}{wi:TI}{g:TG}{tt:TT}{te:TE}
def EQ (S:dH X j Nc emb) (hc:X.calm=true) (hi:PI X tg iter wi)
  (hg:∀ f s H C A,PG (lcX X j f Nc s H C A) tg g) (ht:∀ f s H C A,PTs (lcX X j f Nc s H C A) ifs tt) (he:∀ f s H C A,PE (lcX X j f Nc s H C A) elt te)
  (hs:∀ x,qbX iter X.env x=pure x:=by intro _;rfl):PE X (.ListComp elt [⟨tg,iter,ifs,0⟩] j pos) (tLc emb wi g tt te):=by
 intro pins s σ H Q I h;refine qgF U hs (iU (S.clos I.ok)) S.kind (λx Y hl=>dP S.nd (by rw[<-hl];exact Y)) ?_;refine thn (hi pins s σ H _ I h) λv s1 h1=>thn h1 λitv R h2=>?_;obtain⟨it,A,tn,J,H2,e,I2,T,V,f2,W,⟨m0,w0⟩,turn⟩:=h2;subst e;refine qc1 (jS ?_);rw[qbv ..];generalize hD:R.heap.objs.size=D;generalize hlo:({ cls:=.type "list",dict:=none,data:=.seq ([]:List Value).toArray }:Obj)=lo
 have fplt:∀ b∈A,b<R.heap.objs.size:=λb hb=>by obtain⟨o,e,_⟩:=T.obj _ _ V b hb;exact qaw e
 have I3:=rY (lo:=lo) S I2 f2 (λb hb=>by obtain⟨o,e,_⟩:=T.obj _ _ V b hb;exact⟨o,e⟩) (by rw[<-hlo];intro v z;cases z) (by rw[<-hlo];rfl);rw[hD]at I3;generalize hcells:qcv (D+2) j.names _=f at I3;generalize d:lcX X j f Nc R H2 (D+1) A=X' at I3;have K:∀ {H':Hp}{ps:List (Addr×Obj)},(∀ b∈A,H' b=none)->(∀ p∈ps,p.1=D)->∀ b∈A,iP X' ps H' b:=λ{H' ps} hn F b hb=>by
  have ok:=I3.ok;refine⟨hn b hb,?_,?_,.inl (by rw[<-d];exact hb),?_,λp E=>?_⟩
  ·exact (ok.exf b (by rw[<-d];exact hb)).1
  ·exact ok.exfs b (by rw[<-d];exact hb)
  ·exact (ok.exf b (by rw[<-d];exact hb)).2
  ·have hp':p∈([])++ps:=by rw[<-d]at E;exact E
   rw[(F p (by simpa using hp')),<-hD];exact qcg (fplt b hb)
 have Dex:D∈X'.ex\/X'.s₀.heap.objs.size<=D:=.inr (by rw[<-d,<-hD];exact qap _);have Dloc:D≠X'.env.locals:=by rw[<-d];exact qaF (qb3 _)
 have pD:=I3.pin (D,lo) (by rw[<-d];exact qau _ qaf);have Dcell:∀ x c,X'.env.cells.lookup x=some c->c≠D:=λx c hc' e=>by
  obtain⟨v,o,ho,hd⟩:=I3.cell x c hc';rw[e,pD.1]at ho;cases ho;exact pD.2.2.2.2 v hd
 -- the L
 have L:∀ s3:qaj,s3={ R with heap:=qeM ((R.heap.push lo).push { cls:=.type "dict",data:=.dict #[] }) j.names }->
   qe7 (model X.prog X.w) X.A (.compLoop (.ListComp elt [⟨tg,iter,ifs,0⟩] j pos) 0 (.ref it) (.ref D) (qgZ j f (D+1) X.env))
    (compPost (model X.prog X.w) X.A X.xe none (EP X pins σ Q) (.ref D) (D+1)) s3:=by
  rintro s3 rfl
  refine di (λn s'=>∃ i ys l k H',Inv X' [(D,{ cls:=.type "list",data:=.seq l.toArray k })] (emb σ) H' s'/\aG ys l/\tn i s'.heap/\(∀ b∈A,H' b=none)/\ys.length<=qaJ/\W i n ys H') ?_ m0
   ⟨0,[],[],0,H2,?_,.nil,?_,λb hb=>(f2 b hb).1,qcl _,w0⟩
  ·rintro n s4 ⟨i,ys,l,k,H4,I4,rv,st4,fr4,hlen,w4⟩
   have F:∀ p∈[(D,({ cls:=.type "list",data:=.seq l.toArray k }:Obj))],p.1=D:=λp E=>by
    have:=qao.mp E
    rw[this]
   rcases turn i n ys H4 w4 with⟨stop,qn⟩|⟨go,hlt,N,hN,step⟩
   ·-- the end
    have TD:=T.done X' (by rw[<-d];rfl) (by rw[<-d];rfl) (by rw[<-d];rfl) (by rw[<-d];exact hc) i _ s4 (emb σ) H4 (λ_ _=>False) I4 (K fr4 F) st4 stop;rw[show X'.A=X.A by rw[<-d];rfl]at TD;refine thn TD λr s5 ⟨hr,I5⟩=>?_;subst hr;obtain⟨m5,hn5,_⟩:=id I5.loc;have eC:X'.env.locals=D+1:=by rw[<-d];rfl
    rw[eC]at hn5;refine⟨m5,hn5,λh' M=>?_⟩;have pD5:=I5.pin (D,{ cls:=.type "list",data:=.seq l.toArray k }) (by rw[<-d];exact qau _ qaf)
    have neC:∀ b u,H4 b=some u->b≠D+1:=λb u e z=>by
     have:=I5.free
     rw[eC,<-z,e]at this;cases this
    have hD4:H4 D=none:=pD5.2.1;have un:=I5.base;have B:Un (frs X.stack) A H2 H4 R.heap s5.heap:=by rw[<-d]at un;exact un
    have w:∀ b o,R.heap.get? b=some o->b≠D/\b≠D+1:=λb o e=>by
     have q:=qaw e;rw[hD]at q;exact⟨qaF q,qaF (qbe q)⟩
    have h2D:H2 D=none:=by rw[<-hD];exact I2.fresh
    have hok':HOk X.prog X.w H4 h':=λb u e=>by
     have ob:cg X.prog X.w H4 s5.heap b u:=by have:=I5.hok b u e;rw[<-d]at this;exact this
     refine ob.stay (λc v hcv q=>(M.2 c ?_).trans q) (λ_ q=>q) λ_ _ q=>q;rcases hcv with z|z
     ·rw[z];exact neC b u e
     ·exact neC c _ z
    have hokD:HOk X.prog X.w (upd H4 D (.lst ys)) h':=λb u e=>by
     by_cases hb:b=D
     ·subst hb
      rw[upd_same]at e;cases e;exact⟨hlen,l,k,rv,(M.2 b (qaF (qb3 _))).trans pD5.1⟩
     ·rw[upd_ne hb]at e
      refine (hok' b u e).stay (λ_ _ _ q=>q) (λc q=>?_) λc z q=>?_
      all_goals first
       |(rw[upd_ne (aI q hD4)];exact q)
       |(rw[upd_ne (aI z hD4)];exact z)
    refine⟨.ref D,upd H4 D (.lst ys),?_,U,qn D hD4⟩;refine I2.call' (s':={ s5 with heap:=h' }) (ch:=A) ?_ ⟨λb o e nb hb Y=>?_,λb o e nb hb Y=>?_,λb o e nb Y=>?_,λb o e Y=>?_,λb xs e=>?_,λb o u e=>?_,λb ps e=>?_⟩ hokD I5.bare (λb hb=>?_)
    ·have:=I5.os
     rw[<-d]at this;exact this
    ·exact (M.2 b (w b o e).2).trans (B.keep b o e nb hb Y)
    ·obtain⟨sl,q⟩:=B.slot b o e nb hb Y
     exact⟨sl,(M.2 b (w b o e).2).trans q⟩
    ·rw[upd_ne (w b o e).1]
     exact B.free b o e nb Y
    ·obtain⟨o',q⟩:=B.there b o e Y
     exact⟨o',(M.2 b (w b o e).2).trans q⟩
    ·rw[upd_ne (aI e h2D)]
     exact B.tups b xs e
    ·rw[upd_ne (aI e h2D)]
     exact B.frzs b o u e
    ·obtain⟨m,q⟩:=B.tbls b ps e
     exact⟨m,by rw[upd_ne (aI e h2D)];exact q⟩
    ·obtain⟨q0,q1,q2,q3,q4,q5⟩:=f2 b hb
     exact⟨q3,q1,q4,q5⟩
   ·-- a turn
    have hA:X'.A=X.A:=by rw[<-d];rfl
    have hP:X'.prog=X.prog:=by rw[<-d];rfl
    have hw:X'.w=X.w:=by rw[<-d];rfl
    have hE:X'.env=qgZ j f (D+1) X.env:=by rw[<-d];rfl
    have hxe:X'.xe=λ_ _=>False:=by rw[<-d];rfl
    have TI':=T.item X' hP hw (by rw[<-d];rfl) (by rw[<-d];exact hc) i _ s4 (emb σ) H4 (λ_ _=>False) I4 (K fr4 F) st4 go;rw[hA]at TI';refine thn TI' λr s5 ⟨u,hr,h5⟩=>?_;subst hr;refine thn h5 λ_ s6 ⟨x,H6,I6,r6,y6,st6,fr6⟩=>?_;have I6':=I6.pinned (K fr6 F) (T.obj _ _ st6);have G:=hg f R H2 (D+1) A;have TT':=ht f R H2 (D+1) A;have EE:=he f R H2 (D+1) A;rw[d]at G TT' EE;have G':=G _ s6 (emb σ) H6 x u _ I6' r6 (step x H6 y6);rw[hA,hP,hw,hE,hxe]at G';refine thn G' λ_ s7 ⟨σ7,H7,I7,sb7,q7⟩=>?_;have T':=TT' _ s7 σ7 H7 _ I7 q7;rw[hA,hP,hw,hE,hxe]at T';refine thn T' λok s8 ⟨H8,I8,q8⟩=>?_
    -- what is pinned
    have t:∀ {σ9:St}{H9:Hp}{P:qaj},Inv X' ([(D,({ cls:=.type "list",data:=.seq l.toArray k }:Obj))]++m8 A s6.heap) σ9 H9 P->tn (i+1) P.heap/\∀ b∈A,H9 b=none:=λ{σ9 H9 P} I9=>
     ⟨T.keep _ _ _ st6 λb hb o e=>(I9.pin (b,o) (qau _ (qau _ (cz hb e)))).1,λb hb=>by
      obtain⟨o,e,_⟩:=T.obj _ _ st6 b hb
      exact (I9.pin (b,o) (qau _ (qau _ (cz hb e)))).2.1⟩
    cases ok with
    |false=>
     rw[iFN (by decide)]at q8;rw[iFN (by decide)];obtain⟨m',hm,w8⟩:=hN _ _ q8;exact⟨m',hm,i+1,ys,l,k,H8,I8.unpinned.weak sb7.1 sb7.2,rv,(t I8).1,(t I8).2,hlen,w8⟩
    |true=>
     rw[iFP U]at q8;rw[iFP U];have E':=EE _ s8 σ7 H8 _ I8 q8;rw[hA,hP,hw,hE,hxe]at E';refine thn E' λy P ⟨v9,H9,I9,r9,n9⟩=>?_;obtain⟨m',hm,w9⟩:=hN _ _ n9;have O:=I9.pin (D,{ cls:=.type "list",data:=.seq l.toArray k }) (qau _ (qaX _ qaf))
     have hl:=rv.length;have I9n:Inv X' [] σ7 H9 P:=I9.pins_of λp E=>nomatch E
     refine qc2 qfd ⟨_,O.1,U⟩ qe0 (qeT _ _) (qeZ D l.toArray k y (by rw[qaI];lia)) ⟨O.1,?_⟩;have up:∃ k':Nat,(P.heap.update D (qcF λxs=>xs.push y)).get? D=some { cls:=.type "list",data:=.seq (l++[y]).toArray k' }:=by
      have q:=qeR O.1 (λxs:Array Value=>xs.push y);simp only[qhd]at q;exact⟨_,q⟩
     obtain⟨k',up⟩:=up;have hoth:∀ b o,b≠D->P.heap.get? b=some o->(P.heap.update D (qcF λxs=>xs.push y)).get? b=some o:=λb o hb e=>(qdq P.heap _ (qbL hb)).trans e;have I10:=I9n.turned (t':=P.toks) hoth O.2.1 Dloc Dex Dcell (λp E=>absurd (show p∈([]:List (Addr×Obj)) by rw[<-d]at E;exact E) (by simp));refine⟨m',hm,i+1,ys++[v9],l++[y],k',H9,(I10.weak sb7.1 sb7.2).pins_of (λp E=>?_),rv.append (.cons r9 .nil),T.keep _ _ _ (t I9).1 (λb hb o e=>hoth b o (by rw[<-hD];exact qaF (fplt b hb)) e),(t I9).2,?_,w9⟩
     ·have:=qao.mp E
      subst this;exact⟨up,O.2.1,Dloc,(pD.2.2.2.1),λv z=>by cases z⟩
     ·rw[qaz,qbU]
      lia
  ·rw[<-hlo.symm]
   exact I3
  ·exact T.keep _ _ _ V λb hb o e=>qcV _ _ b o (qai _ (qai _ e))
 refine qg9 ?_ ?_
 ·exact L _ U
 ·refine T.self X.A 0 _ _ _ (T.keep _ _ _ V λb hb o e=>qcV _ _ b o (qai _ (qai _ e))) ?_
  exact L _ U
end
end L2
namespace L2
open PySem PySem.Spec PyProof.Rows
open PySem.AutoSeq1 (wpAny_loadPart')
section
variable {prog:qaN}{w:World}{A:qa0}{E:Value->qaj->Prop}{s:qaj}
def eO {d l:Addr}{i:Nat}{b}{x:Value}{Q:Value->qaj->Prop} (c:s.heap.IsTupleIter d l i)
  (y:s.heap.IsTuple l b) (z:b[i]?=some x)
  (q:∀ h',h'.IsTupleIter d l (i+1)->qdc d s.heap h'->Q x { s with heap:=h' }) :
  wpAny (model prog w) A (qcA (.ref d)) Q E s:=by
 obtain⟨o,f,B,hd⟩:=id c;obtain⟨D,j,_,F,g⟩:=y
 refine qac (qbO c.typeIs qcZ
  (qbV qcZ c.typeIs qf5 ?_ (qfY _)))
 show wpAny _ _ (field _ 0 >>= _) _ _ s;refine qac (qb7 f hd (x:=.ref l) U ?_);refine qac (qb7 f hd U ?_);refine qac (qcN j g ?_);simp only[qbp,z];refine qac (qe3 f hd (by simp) (qaq ⟨x,U,qaq (q _ ?_ (qdu ..))⟩))
 exact⟨_,qeq _ f (qgw (qdS hd _)),(qhr ..).trans B,by
  rw[qdS hd];simp[qgf]⟩
def fN {d l:Addr}{i:Nat}{b}{Q:Value->qaj->Prop} (p:A.handled=none)
  (c:s.heap.IsTupleIter d l i) (y:s.heap.IsTuple l b) (z:b[i]?=none)
  (t:∀ h' e,qgR d s.heap h'->(∃ o,h'.get? e=some o/\o.cls=.type "StopIteration")->E (.ref e) { s with heap:=h' }) :
  wpAny (model prog w) A (qcA (.ref d)) Q E s:=by
 obtain⟨o,f,B,hd⟩:=id c;obtain⟨D,j,_,F,g⟩:=y
 refine qac (qbO c.typeIs qcZ
  (qbV qcZ c.typeIs qf5 ?_ (qfY _)))
 show wpAny _ _ (field _ 0 >>= _) _ _ s;refine qac (qb7 f hd (x:=.ref l) U ?_);refine qac (qb7 f hd U ?_);refine qac (qcN j g ?_);simp only[qbp,z];refine qac (qej (qac (qe3 f hd (by simp) ?_)));refine qac ?_;refine qac (m:=qjJ _ _) (wpAny_of_eq (a:=Value.none) (by first|rfl|(rfl)) ?_)
 refine qc1 ?_ (by size_fits);refine qac (wpAny_handled ?_)
 first|rw[p]|rw[p]
 refine qac (qaq (wpAny_throw ?_));exact t _ _ (((qdu ..).extBut.push _).push _) ⟨_,qav _ U,U⟩
def gJ (p:A.handled=none) (d l:Addr) (u:l≠d) (b:Array Value) :
  Draws prog w A d [d,l] b.size (λi v=>b[i]?=some v) (λi h=>h.IsTupleIter d l i/\h.IsTuple l b) where
 live:=λ_ _ st=>let ⟨o,f,_⟩:=st.1;⟨o,f⟩
 frame:=λ_ _ _ st C=>⟨st.1.at λo e=>C d (by simp) o e,by
  obtain⟨o,e,r⟩:=st.2
  exact⟨o,C l (by simp) o e,r⟩⟩
 item:=λi s Q E hi st q=>by
  refine eO st.1 st.2 (x:=b[i]) (by simp[hi]) λh' n k=>?_;refine q _ h' s.toks (by simp[hi]) ⟨n,?_⟩ k;obtain⟨o,e,r⟩:=st.2;exact⟨o,(k.2 l u).trans e,r⟩
 done:=λs Q E st t=>fN p st.1 st.2 (by simp) t
end
def hU (l:Addr) (a:Array Value) (n:Nat) (dct:Option Addr) (i:Array (Option Value)) :
  Meets (qfg.«enumerate.__new__» ⟨[.type "enumerate",.ref l],[]⟩) (λ_ R s=>s.heap.get? l=some { cls:=.type "tuple",dict:=dct,data:=.seq a n,slots:=i }/\
   R (.ok (.ret (.ref (s.heap.push { cls:=.type "tuple_iterator",data:=.fields #[.ref l,.int 0 0] }).objs.size)))
    { s with heap:=(s.heap.push { cls:=.type "tuple_iterator",data:=.fields #[.ref l,.int 0 0] }).push { cls:=.type "enumerate",data:=.fields #[.none,.bool false,.ref s.heap.objs.size,qgf 0,.none,.none] } }):=
 .of_wp λprog w A R s h=>by
  obtain⟨k,g,d,j,os⟩:=s;obtain⟨b,h⟩:=h;have f:=sub_enumerate;have e:Heap.IsTuple _ l a:=⟨_,b,U,n,U⟩
  wp_walk using wpAny_loadPart' b
  refine wpAny_stack_any λst=>qaq ?_;split
  ·rename_i c _ _ _ _ _
   cases (c==Value.type "enumerate")
   ·wp_walk using wpAny_loadPart' b,qcR e
    exact⟨_,U,h⟩
   ·wp_walk using wpAny_loadPart' b,qcR e
    exact⟨_,U,h⟩
  ·wp_walk using wpAny_loadPart' b,qcR e
   exact⟨_,U,h⟩
def gI {prog:qaN}{w:World}{A:qa0}{E:Value->qaj->Prop}{s:qaj}{l:Addr}{a:Array Value}{Q:Value->qaj->Prop} (g:s.heap.IsTuple l a)
  (h:∀ h',IsEnum h' (s.heap.objs.size+1) s.heap.objs.size 0 .none->h'.IsTupleIter s.heap.objs.size l 0->h'.objs.size=s.heap.objs.size+2->
    (∀ b o,s.heap.get? b=some o->h'.get? b=some o)->Q (.ref (s.heap.objs.size+1)) { s with heap:=h' }) :
  wpAny (model prog w) A (call (.type "enumerate") [.ref l]) Q E s:=by
 obtain⟨⟨c,dct,dt,i⟩,j,f,n,hd⟩:=g;subst f hd;refine callType_new F.called_enumerate (by decide) (F.typeCall_enumerate_1 _) (F.newCall_enumerate_1 _) (λobj=>F.args_object_init_2 obj _) F.entry_enumerate_new
  (hU l a n dct i) ⟨j,?_⟩
 have d:(s.heap.push { cls:=.type "tuple_iterator",data:=.fields #[.ref l,.int 0 0] }).objs.size=s.heap.objs.size+1:=qbv ..
 rw[d];have e:=by
  have:=qav (s.heap.push { cls:=.type "tuple_iterator",data:=.fields #[.ref l,.int 0 0] })
   (o:={ cls:=.type "enumerate",data:=.fields #[.none,.bool false,.ref s.heap.objs.size,qgf 0,.none,.none] }) U
  rw[d]at this;exact this
 refine⟨⟨_,e,U⟩,h _ e ⟨_,qai _ (qav _ U),U,U⟩ (by rw[qbv,d]) λb o x=>qai _ (qai _ x)⟩
section
variable {X:Cx}{a:List (Addr×Obj)}{l:St}{H:Hp}{s:qaj}{h':Heap}{i:List Addr}
def iP.ch (g:∀ b∈i,iP X a H b):∀ b∈i,(b∈X.ex\/X.s₀.heap.objs.size<=b)/\b≠X.env.locals/\(∀ x c,X.env.cells.lookup x=some c->c≠b)/\∀ p∈X.pn++a,p.1≠b:=λb hb=>
 let ⟨_,f1,_,f3,f4,f5⟩:=g b hb
 ⟨f3,f1,f4,f5⟩
def Inv.turns {t':Nat} (I:Inv X a l H s) (g:∀ b∈i,iP X a H b) (k:∀ b o,b∉i->s.heap.get? b=some o->h'.get? b=some o):Inv X a l H { s with heap:=h',toks:=t' }:=by
 have f:∀ b u,H b=some u->b∉i:=λb u e z=>by have:=(g b z).1;rw[e]at this;cases this
 refine I.step (iP.ch g) (λb o _ _ d e _=>k b o d e) (λb o _ _ d e _=>⟨o.slots,k b o d e⟩) (λ_ _ _ _ n=>n)
  (λb o d e=>⟨o,k b o d e⟩) (λ_ _ e=>e) (λ_ _ _ e=>e) (λb ps e=>⟨#[],by rw[e];simp⟩) (λm hm=>?_) (λb u e=>?_) I.bare
 ·obtain⟨o,es,t,w,r⟩:=hm
  exact⟨o,es,t,k _ o (λz=>(g _ z).2.1 U) w,r⟩
 ·refine (I.hok b u e).stay (λc v d q=>k c v ?_ q) (λ_ q=>q) λ_ _ q=>q
  rcases d with z|z
  ·rw[z];exact f b u e
  ·exact f c _ z
def Inv.turnsT {t':Nat}{T:Addr}{xs:List V}{j:Array Value} (I:Inv X a l H s) (g:∀ b∈i,iP X a H b) (k:∀ b o,b∉i->s.heap.get? b=some o->h'.get? b=some o)
  (y:s.heap.objs.size<=T) (C:eU h' T j) (B:aG xs j.toList) (A:xs.length<=qaJ):Inv X a l (upd H T (.tup xs)) { s with heap:=h',toks:=t' }:=by
 have f:∀ b u,H b=some u->b∉i:=λb u e z=>by have:=(g b z).1;rw[e]at this;cases this
 have h:=I.hok.fresh y;refine I.step (iP.ch g) (λb o _ _ d e _=>k b o d e) (λb o _ _ d e _=>⟨o.slots,k b o d e⟩) (λb o _ e n=>by rw[upd_ne ((λb o e=>qaF (qaV (qaw e) y)) b o e)];exact n)
  (λb o d e=>⟨o,k b o d e⟩) (λb _ e=>by rw[upd_ne (aI e h)];exact e) (λb _ _ e=>by rw[upd_ne (aI e h)];exact e) (λb ps e=>⟨#[],by rw[upd_ne (aI e h),e];simp⟩) (λm hm=>?_) (λb u e=>?_) I.bare
 ·obtain⟨o,es,t,w,r⟩:=hm
  exact⟨o,es,t,k _ o (λz=>(g _ z).2.1 U) w,r⟩
 ·by_cases hb:b=T
  ·subst hb
   rw[upd_same]at e;cases e;refine⟨A,j.toList,B,?_⟩;simpa using C
  ·rw[upd_ne hb]at e
   refine (I.hok b u e).stay (λc v d q=>k c v ?_ q) (λc q=>?_) λc z q=>?_
   ·rcases d with z|z
    ·rw[z];exact f b u e
    ·exact f c _ z
   all_goals first
    |(rw[upd_ne (aI q h)];exact q)
    |(exact z)
end
def Ite (S:Hp->List V->Prop):It:=
 ⟨λi H=>∃ xs x,S H xs/\xs[i]?=some x,λi H x H'=>∃ T v,(∀ xs,S H xs->xs[i]?=some v)/\H T=none/\x=.ref T/\H'=upd H T (.tup [.int i,v]),λi H=>∃ xs,S H xs/\xs.length=i⟩
def uD {P:qaN}{w:World}{K:qae}{m:List Expr}{k:Nat}{pos:Pos} (a f e:Addr) (j:e≠f) (L:a≠e) (F:a≠f) :
  sZ P w K (.Tuple m k pos) (Ite λH xs=>SqL K H a xs) [e,f] e (λi h=>(∃ g,IsEnum h e f i g)/\h.IsListIter f a i) where
 mem:=by simp
 obj:=λi h st b hb=>by
  rcases qaA.mp hb with rfl|hb
  ·obtain⟨⟨g,q⟩,_⟩:=st
   exact⟨_,q,λv z=>by cases z⟩
  ·rw[qao.mp hb]
   obtain⟨_,o,e,c,d⟩:=st;exact⟨o,e,λv z=>by rw[d]at z;cases z⟩
 keep:=λi h h' st N=>⟨let ⟨g,q⟩:=st.1;⟨g,N e (by simp) _ q⟩,st.2.at λo q=>N f (by simp) o q⟩
 item:=by
  intro X V hw hK O i C s σ H E I M st hg;subst V hw hK;obtain⟨xs,x,Q,hx⟩:=hg;obtain⟨l,S,p,hz⟩:=I.list Q;obtain⟨u,hu,ru⟩:=S.get hx;have W:=qeV (qjk (prog:=X.prog) (w:=X.w) (A:=X.A.in1) (I.ok.hd O) f a F l.toArray) e j (by simp[j,qbL L]) (by simp);have hi:=by
   simpa using ((qas.mp hu).1)
  obtain⟨⟨ol,J⟩,n⟩:=st;refine qgT (qjk (A:=X.A.in1) (I.ok.hd O) f a F l.toArray) J ⟨n,p.isList⟩ hi j (by simp[j,qbL L]) λy h1 t R ho hs' ht hsz hk=>⟨_,U,?_⟩;have hm:(λ_ (T) (h)=>(∃ x,IsEnumOut h e f _ x T)/\_/\T≠e/\T≠f) i s.heap.objs.size h1:=⟨⟨_,ho⟩,hs',qcg (qaw J),qcg (let ⟨_,q,_⟩:=n;qaw q)⟩;have N:∀ b o,b∉[e,f]->s.heap.get? b=some o->h1.get? b=some o:=λb o hb q=>hk b o (λz=>hb (by simp[z])) (λz=>hb (by simp[z])) q;generalize eT:s.heap.objs.size=T at ht ho hm ⊢;have hT:=qdC eT;have r:∃ tk,tk=t+1:=⟨_,U⟩;obtain⟨tk,r⟩:=r;rw[<-r];have ey:=by
   have G:=by simpa using R
   rw[hu]at G;exact (qaP G).symm
  subst ey;refine W.go m k pos i T _ _ _ hm λh2 B D=>?_;have nT:=W.apart i T _ hm;refine⟨.ref T,_,?_,U,⟨T,x,λys R=>by rw[I.list_inj R Q];exact hx,I.hok.fresh hT,U,U⟩,⟨B.1,B.2.1⟩,λb hb=>?_⟩
  ·exact (I.turnsT M (λb o hb q=>D b o hb (N b o hb q)) hT ⟨_,D T _ nT ht,U,⟨_,U⟩,U⟩ (.cons ⟨t,U⟩ (.cons ru .nil)) (by show 2<=qaJ;decide))
  ·rw[upd_ne (show b≠T from λz=>nT (z ▸ hb))]
   exact (M b hb).1
 done:=by
  intro X V hw hK O i C s σ H E I M st hg;subst V hw hK;obtain⟨xs,Q,hx⟩:=hg;obtain⟨l,S,p,hz⟩:=I.list Q;have hl:=S.length;have Y:l.toArray[i]?=none:=by simp;lia
  obtain⟨⟨g,he⟩,hit⟩:=st
  -- the end at place i
  refine wpAny_pyNext_enum_end (I.ok.hd O) he hit p.isList Y λh' eb=>⟨U,?_⟩;exact I.turns M λb o hb q=>eb b o (by simp at hb;exact hb.2) q
 self:=λ_ _ _ _ _ st h=>let ⟨⟨_,he⟩,_⟩:=st;qek he h
def uE {P:qaN}{w:World}{K:qae}{m:List Expr}{k:Nat}{pos:Pos} (a g e:Addr) (f:e≠g) (B:a≠e) (r:a≠g) :
  sZ P w K (.Tuple m k pos) (Ite λH xs=>SqT K H a xs) [e,g] e (λi h=>(∃ l,IsEnum h e g i l)/\h.IsTupleIter g a i) where
 mem:=by simp
 obj:=λi h st b hb=>by
  rcases qaA.mp hb with rfl|hb
  ·obtain⟨⟨l,q⟩,_⟩:=st
   exact⟨_,q,λv z=>by cases z⟩
  ·rw[qao.mp hb]
   obtain⟨_,o,e,c,d⟩:=st;exact⟨o,e,λv z=>by rw[d]at z;cases z⟩
 keep:=λi h h' st C=>⟨let ⟨l,q⟩:=st.1;⟨l,C e (by simp) _ q⟩,st.2.at λo q=>C g (by simp) o q⟩
 item:=by
  intro X V hw hK O i G s σ H E I N st hg;subst V hw hK;obtain⟨xs,x,Q,hx⟩:=hg;obtain⟨j,S,p,hz⟩:=I.tuple Q;obtain⟨u,hu,ru⟩:=S.get hx;have W:=qeV (gJ (prog:=X.prog) (w:=X.w) (A:=X.A.in1) (I.ok.hd O) g a r j.toArray) e f (by simp[f,qbL B]) (by simp);have hi:=by
   simpa using ((qas.mp hu).1)
  obtain⟨⟨ol,M⟩,n⟩:=st;refine qgT (gJ (A:=X.A.in1) (I.ok.hd O) g a r j.toArray) M ⟨n,p⟩ hi f (by simp[f,qbL B]) λy h1 t R ho Y ht hsz hk=>⟨_,U,?_⟩;have hm:(λ_ (T) (h)=>(∃ x,IsEnumOut h e g _ x T)/\_/\T≠e/\T≠g) i s.heap.objs.size h1:=⟨⟨_,ho⟩,Y,qcg (qaw M),qcg (let ⟨_,q,_⟩:=n;qaw q)⟩;have C:∀ b o,b∉[e,g]->s.heap.get? b=some o->h1.get? b=some o:=λb o hb q=>hk b o (λz=>hb (by simp[z])) (λz=>hb (by simp[z])) q;generalize eT:s.heap.objs.size=T at ht ho hm ⊢;have hT:=qdC eT;have F:∃ tk,tk=t+1:=⟨_,U⟩;obtain⟨tk,F⟩:=F;have ey:=by
   have L:=by simpa using R
   rw[hu]at L;exact (qaP L).symm
  subst ey;refine W.go m k pos i T _ _ _ hm λh2 D J=>?_;have nT:=W.apart i T _ hm;refine⟨.ref T,_,?_,U,⟨T,x,λys R=>by rw[I.tuple_inj R Q];exact hx,I.hok.fresh hT,U,U⟩,⟨D.1,D.2.1⟩,λb hb=>?_⟩
  ·exact (I.turnsT N (λb o hb q=>J b o hb (C b o hb q)) hT ⟨_,J T _ nT ht,U,⟨_,U⟩,U⟩ (.cons ⟨t,U⟩ (.cons ru .nil)) (by show 2<=qaJ;decide))
  ·rw[upd_ne (show b≠T from λz=>nT (z ▸ hb))]
   exact (N b hb).1
 done:=by
  intro X V hw hK O i G s σ H E I N st hg;subst V hw hK;obtain⟨xs,Q,hx⟩:=hg;obtain⟨j,S,p,hz⟩:=I.tuple Q;have hl:=S.length;have hi:i=j.toArray.size:=by simp;lia
  subst hi;refine (qeV (gJ (A:=X.A.in1) (I.ok.hd O) g a r j.toArray) e f (by simp[f,qbL B]) (by simp)).done s _ _ ⟨st.1,st.2,p⟩ λh' tk C=>⟨U,I.turns N C⟩
 self:=λ_ _ _ _ _ st h=>let ⟨⟨_,he⟩,_⟩:=st;qek he h
section
variable {X:Cx}
def Cb (K:qae) (y:TA):TI:=λB H R=>y B H λO H1=>∃ a,O=[.ref a]/\(∃ xs,SqL K H1 a xs)/\R (Ite λH xs=>SqL K H a xs) H1
def yT {j:List Expr}{k:Nat}{f:Pos}{a:Expr}{y:TA}{p pos:Pos} (hg:Gl X "enumerate") (hm:X.mg "enumerate" = none) (ha:PA X [a] y) (Y:qbC [a] X.env=[(false,eval a X.env)]:=by rfl) :
  PI X (.Tuple j k f) (.Call (.Name "enumerate" p) [a] [] pos) (Cb X.K y):=by
 intro c s B H R I h;refine Call_ (je I hg hm qjK (qca (thn (ha pos c s B H _ I h) λC s1 ⟨O,H1,I1,T,q1⟩=>?_) Y U));obtain⟨l,e,⟨xs,F⟩,q⟩:=q1;subst e;cases T with
 |cons r x=>
  cases x;cases r;obtain⟨w,m,J,hz⟩:=I1.list F;refine call_enumerate_list J.isList λh' P D S E=>qek P ?_;have d:l<s1.heap.objs.size:=by obtain⟨_,_,e,_⟩:=J;exact qaw e
  refine⟨_,_,_,_,H1,U,I1.kept E,uD l s1.heap.objs.size _ (qhz _) (qaF (qbe d)) (qaF d),⟨⟨_,P⟩,D⟩,λb hb=>?_,q⟩;have g:s1.heap.objs.size<=b:=by
   rcases qaA.mp hb with e|hb
   ·rw[e];exact qcB _
   ·rw[qao.mp hb];exact qap _
  exact I1.fpOk g (I1.hok.fresh g)
def Cc (K:qae) (y:TA):TI:=λB H R=>y B H λO H1=>∃ a,O=[.ref a]/\(∃ xs,SqT K H1 a xs)/\R (Ite λH xs=>SqT K H a xs) H1
def yU {j:List Expr}{k:Nat}{f:Pos}{a:Expr}{y:TA}{p pos:Pos} (hg:Gl X "enumerate") (hm:X.mg "enumerate" = none) (ha:PA X [a] y) (Y:qbC [a] X.env=[(false,eval a X.env)]:=by rfl) :
  PI X (.Tuple j k f) (.Call (.Name "enumerate" p) [a] [] pos) (Cc X.K y):=by
 intro c s B H R I h;refine Call_ (je I hg hm qjK (qca (thn (ha pos c s B H _ I h) λC s1 ⟨O,H1,I1,T,q1⟩=>?_) Y U));obtain⟨l,e,⟨xs,F⟩,q⟩:=q1;subst e;cases T with
 |cons r x=>
  cases x;cases r;obtain⟨w,m,J,hz⟩:=I1.tuple F;refine gI J λh' P D S E=>qek P ?_;have d:l<s1.heap.objs.size:=by obtain⟨_,e,_⟩:=J;exact qaw e
  refine⟨_,_,_,_,H1,U,I1.kept E,uE l s1.heap.objs.size _ (qhz _) (qaF (qbe d)) (qaF d),⟨⟨_,P⟩,D⟩,λb hb=>?_,q⟩;have g:s1.heap.objs.size<=b:=by
   rcases qaA.mp hb with e|hb
   ·rw[e];exact qcB _
   ·rw[qao.mp hb];exact qap _
  exact I1.fpOk g (I1.hok.fresh g)
def nG {ns:List Int}:∀ {C:List Value},aG (ns.map V.int) C->∃ xs:Array (Int×Tok),C.toArray=intItems xs/\xs.toList.map (·.1)=ns:=by
 induction ns with
 |nil=>intro C r;cases r;exact⟨#[],by simp[intItems],U⟩
 |cons n ns ih=>
  intro C r;cases r with
  |cons r x=>
   obtain⟨t,rfl⟩:=r;obtain⟨xs,e,W⟩:=ih x;refine⟨#[(n,t)]++xs,?_,by simp[W]⟩;have e':=congrArg qgl e;simp[intItems]at e' ⊢;exact e'
def xX:bI X (.builtin "sum") (λxs H Q=>X.calm=true/\∃ (a:Addr) (ns:List Int),xs=[.ref a]/\SqL X.K H a (ns.map V.int)/\Q (.int ns.sum) H):=by
 intro c s B H xs C Q I m h;obtain⟨hc,a,ns,rfl,F,q⟩:=h;cases m with
 |cons r x=>
  cases x;cases r;obtain⟨w,m,p,hz⟩:=I.list F;obtain⟨ps,e1,W⟩:=nG m;have hl:=p.isList;rw[e1]at hl;refine sum_intListG (I.ok.hd hc) hl λh' tk t' E=>?_;refine⟨.int ns.sum,H,I.kept E,⟨t',?_⟩,q⟩;rw[preSum_eq,qcG (by simp),W]
def xW:bI X (.builtin "all") (λxs H Q=>X.calm=true/\∃ (a:Addr) (bs:List Bool),xs=[.ref a]/\SqL X.K H a (bs.map V.bl)/\Q (.bl (bs.all id)) H):=by
 intro c s B H xs C Q I m h;obtain⟨hc,a,bs,rfl,F,q⟩:=h;cases m with
 |cons r x=>
  cases x;cases r;obtain⟨w,m,p,hz⟩:=I.list F;have d:a<s.heap.objs.size:=by obtain⟨_,_,e,_⟩:=p;exact qaw e
  have M:=by have:=m.length;simpa using this.symm
  refine call_all_walk (qfH p.isList ?_);refine⟨s.heap.objs.size,_,_,_,_,_,λi=>(bs[i]?).getD true,U,Walks.list (A:=X.A.in1) (I.ok.hd hc) s.heap.objs.size a (qaF d) w.toArray,⟨⟨_,qav _ U,U,U⟩,p.isList.push _⟩,?_,λh' tk E=>?_⟩
  ·intro i v s' Q' E' hv hQ'
   have G:=by simpa using hv
   have hi:=(qas.mp G).1;obtain⟨b,hb⟩:∃ b,bs[i]?=some b:=⟨bs[i]'(by lia),by simp[show i<bs.length by lia]⟩
   have:(bs.map V.bl)[i]?=some (.bl b):=by rw[qay,hb];rfl
   obtain⟨u,hu,ru⟩:=m.get this;rw[G]at hu;cases hu;cases ru;have N:Q' ((bs[i]?).getD true) s':=hQ';rw[hb]at N;exact qc0 N
  ·refine⟨_,H,I.kept (λb o e=>E b o (λz=>absurd (qaw e) (by rw[qao.mp z];exact qa9 _)) (qai _ e)),?_,q⟩
   congr 1
   have:∀ n,n=bs.length->((qam n).all λi=>(bs[i]?).getD true)=bs.all id:=by
    intro n hn;rw[qes,qa2,qa2];constructor
    ·intro h b hb
     obtain⟨i,hi,e⟩:=qcS.mp hb
     have:=h i (qaQ.mpr (by lia))
     simp[hi,e]at this;exact this
    ·intro h i hi
     have hi':=qaQ.mp hi;have L:i<bs.length:=by lia
     simp[L];exact h _ (qbK _)
   exact this _ (by simpa using M)
end
def fz (k:Nat) (js:List Nat) (a:St):St:=qaG k none++js.map λj=>(a[j]?).getD none
def ub (a:Scope) (ns:List (Str×qb4)) (N Nc:List Str) (k:Nat) (js:List Nat):Bool:=
 decide ((a.names.map (·.1)).Nodup)&&decide Nc.Nodup&&decide (Nc.length=k+js.length) &&
 (a.names.all λx=>x.2 != .free||ns.lookup x.1==some .cell||ns.lookup x.1==some .free) &&
 ((qam js.length).all λi=>match Nc[k+i]?,js[i]? with|some x,some j=>N[j]?==some x&&a.names.lookup x==some .free|_,_=>false)
def rX {X:Cx}{a:Scope} (ns:List (Str×qb4)) (N Nc:List Str) (k:Nat) (js:List Nat) (hns:X.env.scope.names=ns) (hN:X.N=N) (n:a.kind=.function) (h:ub a ns N Nc k js=true):dH X a Nc (fz k js):=by
 unfold ub at h;simp only[qba,decide_eq_true_eq]at h;obtain⟨⟨⟨⟨g,s⟩,l⟩,p⟩,q⟩:=h;refine⟨n,g,s,λx r f=>?_,λd _=>?_,λd _ i x v m b=>?_⟩
 ·have:=qa2.mp p x r
  rw[f]at this;simp only[qhE,beq_iff_eq,bne_self_eq_false,qa7,false_or]at this;unfold qkO;rw[hns];exact this
 ·unfold fz
  rw[qaz,qcO,qag,l]
 ·unfold fz at b
  by_cases hi:i<k
  ·rw[qaE (by simpa using hi),qdg,iFP hi]at b
   cases b
  ·rw[qaK (by simpa using hi),qcO,qay]at b
   cases ej:js[i - k]? with
   |none=>rw[ej]at b;cases b
   |some j=>
    rw[ej]at b;have e:=(qas.mp ej).1
    have:=qa2.mp q _ (qaQ.mpr e)
    rw[show k+_=i by lia,m,ej]at this;simp only[qba,beq_iff_eq]at this;refine⟨j,by rw[hN];exact this.1,?_,this.2⟩;have c:(d[j]?).getD none=some v:=qaP b;cases eq:d[j]? with
    |none=>rw[eq]at c;cases c
    |some o=>rw[eq]at c;rw[show o=some v from c]
def zk (names ns:List (Str×qb4)):List (Str×qb4):=names.map λx=>if (x.2==NameKind.free&&ns.lookup x.1==some .cell) then (x.1,.cell) else x
def lT {X:Cx}{a:Scope}{b:List (Str×Addr)}{Nc:List Str}{s:qaj}{H:Hp}{C:Addr}{d:List Addr}{ns:List (Str×qb4)} (c:X.env.scope.kind=.function) (hns:X.env.scope.names=ns) :
  (lcX X a b Nc s H C d).env.scope.names=zk a.names ns:=by
 show (a.names.map _)=_
 congr 1
 funext x
 obtain⟨n,k⟩:=x;show (if _=true then (n,NameKind.cell) else (n,k))=_;unfold qkO;rw[c,hns,show (ScopeKind.function==ScopeKind.function)=true from U,qh9]
section
variable {a tl:St}{tt:TT}{te:TE}{H:Hp}{Q:VK}
end
section
variable {X:Cx}
def AA:OpR X (qbH .Mult) (rI qg5 λi j=>.int (i*j)):=opI λ_ _ _ _ _ _ _ a q=>mul_int q a
end
def aO.new {H:Hp}{p:Addr} (h:H p=none) (o:HO):aO H (upd H p o):=λb u q=>by rw[upd_ne (aI q h)];exact q
def iN {n:Nat} (h:n<=1000):n<=qaJ:=qez (xy h)
def p18:sY 10 18:=⟨by decide,by decide,by decide⟩
def zB (l:Addr) (a:Array Value) (n:Nat) (dct:Option Addr) (c:Array (Option Value)) (u:Tok) :
  Meets (qfg.«tuple.__mul__» ⟨[.ref l,.int 1 u],[]⟩) (λ_ R s=>s.heap.get? l=some { cls:=.type "tuple",dict:=dct,data:=.seq a n,slots:=c }/\R (.ok (.ret (.ref l))) s):=
 .of_wp λprog w A R s h=>by
  obtain⟨b,h⟩:=h
  wp_walk using wpAny_loadPart' b
  exact⟨_,U,h⟩
def xC (l:Addr) (a:Array Value) (n:Nat) (dct:Option Addr) (j:Array (Option Value)) (x:Int) (u:Tok) (m:2<=x) (o:x<1000) (d:a.isEmpty=false) (q:a.size<=1000)
  (f:((qaG x.toNat a).foldl (λb c=>b++c) #[]).size<=qaJ) :
  Meets (qfg.«tuple.__mul__» ⟨[.ref l,.int x u],[]⟩) (λ_ R s=>s.heap.get? l=some { cls:=.type "tuple",dict:=dct,data:=.seq a n,slots:=j }/\
   R (.ok (.ret (.ref s.heap.objs.size))) { s with heap:=s.heap.push { cls:=.type "tuple",data:=.seq ((qaG x.toNat a).foldl (λb c=>b++c) #[]) } }):=
 .of_wp λprog w A R s h=>by
  obtain⟨e,h⟩:=h;have c1:(x < -(2^63)||x>=2^63)=false:=by simp;lia
  have c2:(a.isEmpty||x==1)=false:=by rw[d];simp;lia
  have c3:(x<=0||a.isEmpty)=false:=by rw[d];simp;lia
  have i:(a.size:Int)*x<=1000000:=by
   have p:(a.size:Int)*x<=1000*x:=qfm (by lia) (by lia);lia
  have g:¬ ((a.size:Int)*x > (2^63 - 1) / 8):=by lia
  have k:qir ((a.size:Int)*x)=false:=by
   exact decide_eq_false (by have:(qaJ:Nat)=16777216:=rfl
                             lia)
  refine qeK (decide_eq_false (by rw[c1];exact qaL)) ?_
  wp_walk using wpAny_loadPart' e
  refine qeK (decide_eq_false (by rw[c2];exact qaL)) ?_;refine qeK (decide_eq_false (by rw[c3];exact qaL)) ?_;refine qeK (decide_eq_false g) ?_
  wp_walk using wpAny_loadPart' e
  exact⟨_,U,h⟩
def xD (l:Addr) (a:Array Value) (n:Nat) (dct:Option Addr) (c:Array (Option Value)) (u:Tok) (d:a.isEmpty=false) :
  Meets (qfg.«tuple.__mul__» ⟨[.ref l,.int 0 u],[]⟩) (λ_ R s=>s.heap.get? l=some { cls:=.type "tuple",dict:=dct,data:=.seq a n,slots:=c }/\R (.ok (.ret (.ref s.heap.objs.size))) { s with heap:=s.heap.push { cls:=.type "tuple",data:=.seq #[] } }):=
 .of_wp λprog w A R s h=>by
  obtain⟨b,h⟩:=h
  wp_walk using wpAny_loadPart' b
  exact⟨_,U,h⟩
def kB:fillsNumberSlot (.type "tuple") "mul" = pure false:=
 PySem.fillsNumberSlot_seq qer.lookup (by decide +kernel) F.slot_tuple_rmul.lookup (by decide +kernel)
def qH:seqRepeat? (.type "tuple")=pure (some (.builtin "tuple.__mul__")):=by
 rfl
def mG (a:Int) (t:Tok) (l:Addr) (b:Array Value) (n:Nat) (dct:Option Addr) (d:Array (Option Value)) :
  Meets (qfg.«int.__rmul__» ⟨[.int a t,.ref l],[]⟩) (λ_ R s=>s.heap.get? l=some { cls:=.type "tuple",dict:=dct,data:=.seq b n,slots:=d }/\R (.ok (.ret Value.notImplemented)) s):=
 .of_wp λprog w A R s h=>by obtain⟨c,h⟩:=h;wp_walk using wpAny_loadPart' c;exact⟨_,U,h⟩
section
variable {X:Cx}
def E2 (K:qae):R2:=λx y H Q=>∃ l k xs,x=.ref l/\y=.int k/\SqT K H l xs/\xs≠[]/\xs.length<=1000/\0<=k/\k<1000/\(k=1->Q (.ref l) H)/\
 (k≠1->∀ p,H p=none->Q (.ref p) (upd H p (.tup (qaG k.toNat xs).flatten)))
def AC:OpR X (qbH .Mult) (E2 X.K):=by
 intro A s P H x y v u Q I J G h;obtain⟨l,k,xs,rfl,rfl,E,i,w,M,L,F,C⟩:=h;cases J;obtain⟨t,rfl⟩:=G;obtain⟨a,z,p,O⟩:=I.tuple E;obtain⟨⟨c,dct,dt,j⟩,e,D,n,hd⟩:=p;subst D hd;have b:=z.length;refine qgt (by decide) ⟨_,e,U⟩ (λs'=>qfJ s' k t) kB qio qeE qH qh6.lookup
  (qc2 qeE (qfJ s k t) qh8 (qhR _ _) (mG k t l a.toArray n dct j) ⟨e,U,⟨_,e,U⟩,?_⟩)
 by_cases m:k=1
 ·subst m
  exact qc2 qer ⟨_,e,U⟩ qfz (qfe _ _) (zB l a.toArray n dct j t) ⟨e,.ref l,H,I,U,F U⟩
 ·have B:=by
   exact (ki a k.toNat [])
  have d:(qaG k.toNat xs).flatten.length<=qaJ:=by
   rw[qh]
   have:k.toNat*xs.length<=1000*1000:=qc4 (by lia) w
   have N:qaJ=16777216:=rfl;lia
  have g:(qaG k.toNat a).flatten.length<=qaJ:=by
   rw[qh]at d ⊢;rw[<-b];exact d
  have f:a.toArray.isEmpty=false:=by
   cases a with
   |nil=>cases xs with
    |nil=>exact absurd U i
    |cons _ _=>cases b
   |cons _ _=>rfl
  by_cases r:k=0
  ·subst r
   refine qc2 qer ⟨_,e,U⟩ qfz (qfe _ _) (xD l a.toArray n dct j t f) ⟨e,?_⟩;exact⟨.ref _,_,I.laid (o:=.tup []) (λ_ _ q=>qai _ q) (qap _) ⟨qcl _,_,.nil,⟨_,qav _ U,U,⟨0,U⟩,U⟩⟩,U,C m _ I.fresh⟩
  refine qc2 qer ⟨_,e,U⟩ qfz (qfe _ _) (xC l a.toArray n dct j k t (by lia) L ?_ (by rw[qaI];lia) (by rw[B];exact g)) ⟨e,?_⟩
  ·cases a with
   |nil=>cases xs with
    |nil=>exact absurd U i
    |cons _ _=>cases b
   |cons _ _=>rfl
  ·rw[B]
   refine⟨.ref _,_,I.laid (o:=.tup (qaG k.toNat xs).flatten) (λ_ _ q=>qai _ q) (qap _) ⟨d,_,z.rep k.toNat,⟨_,qav _ U,U,⟨0,U⟩,U⟩⟩,U,C m _ I.fresh⟩
end
section
variable {X:Cx}{K:qae}
def Eo (g:X.calm=true:=by rfl) (d:X.K=K:=by rfl):bI X (.builtin "sum") (λxs H Q=>∃ (a:Addr) (ns:List Int),xs=[.ref a]/\SqL K H a (ns.map V.int)/\Q (.int ns.sum) H):=by
 subst d;intro b s f H xs c Q I e h;exact xX b s f H xs c Q I e ⟨g,h⟩
def En (g:X.calm=true:=by rfl) (d:X.K=K:=by rfl):bI X (.builtin "all") (λxs H Q=>∃ (a:Addr) (bs:List Bool),xs=[.ref a]/\SqL K H a (bs.map V.bl)/\Q (.bl (bs.all id)) H):=by
 subst d;intro b s f H xs c Q I e h;exact xW b s f H xs c Q I e ⟨g,h⟩
end
section
variable {X:Cx}
end
def dg {n j:Nat} (h:j<n):ixN n (j:Int)=some j:=by
 unfold ixN;rw[iFP (by lia),iFP (by lia),qbp]
section
variable {X:Cx}{e:Expr}{ty:TE}{p1 h f j b a c:Pos}{d k g i:Nat}
end
section
variable {prog:qaN}{w:World}{A:qa0}{E:Value->qaj->Prop}{s:qaj}
end
section
variable {X:Cx}
def Ai:bI X (.type "range") (λxs H Q=>∃ j:Int,xs=[.int j]/\∀ p,H p=none->Q (.ref p) (upd H p (.rng 0 j))):=by
 intro a s e H xs d Q I c h;obtain⟨j,rfl,q⟩:=h;cases c with
 |cons r b=>
  cases b;obtain⟨t,rfl⟩:=r;exact call_range_1 ⟨.ref _,_,I.laid (o:=.rng 0 j) (λ_ _ q=>qai _ q) (qap _) ⟨_,_,_,qav _ U⟩,U,q _ I.fresh⟩
end
section
variable {prog:qaN}{w:World}{A:qa0}{E:Value->qaj->Prop}{s:qaj}
end
section
variable {X:Cx}{e:Expr}{te:TE}{p1 a b pos:Pos}{j:Nat}
end
def aG.at {xs:List V}{b:List Value} (r:aG xs b):∀ (j:Nat) (h:j<b.length) ,∃ h':j<xs.length,aM xs[j] b[j]:=by
 induction r with
 |nil=>intro j h;exact absurd h (qcP j)
 |cons a t e=>
  intro j h;cases j with
  |zero=>exact⟨Nat.zero_lt_succ _,a⟩
  |succ j=>
   obtain⟨c,d⟩:=e j _;exact⟨Nat.succ_lt_succ c,d⟩
def lX (e:Nat->Bool) (n:Nat):(qam (n+1)).all e=(e 0&&(qam n).all λj=>e (j+1)):=by
 rw[qdp,qbD,qgr];rfl
section
variable {X:Cx}{K:qae}{c:List (Addr×Obj)}{d:St}{H:Hp}{s:qaj}{A:qa0}{a b:Addr}{xs e:List V}
end
section
variable {X:Cx}{pos p1 c:Pos}{b a:Nat}
end
section
variable {K:qae}{H:Hp}
end
section
variable {X:Cx}{K:qae}
end
end L2
namespace HT
open PySem PySem.Spec PyProof.Rows L2
section
variable {prog:qaN}{w:World}{A:qa0}{E:Value->qaj->Prop}{s:qaj}
def getItem_tuple_all {t f:Addr}{a:Array Value}{g j:Value}{lo hi:Option Int}{Q:Value->qaj->Prop} (c:IsTup s.heap t a) (i:s.heap.IsSliceOf f g j .none) (k:qfW g lo) (l:qfW j hi)
  (hw:sIx a.size 0 lo=0/\sIx a.size a.size hi=a.size) (h:Q (.ref t) s):wpAny (model prog w) A (qeO (.ref t) (.ref f)) Q E s:=by
 obtain⟨os,d,e,m⟩:=id i;unfold qeO
 try with_reducible refine qct ?_
 refine qac (qib c.typeIs (by decide) ?_)
 refine qac (qbO c.typeIs qbG
  (qbV qbG c.typeIs qhK ?_ (qhY _ _)))
 show wpAny _ _ (qeJ _ >>= _) _ _ s;refine qac (tupleItemsOf_ c ?_);refine qac (qhj ⟨os,d,e⟩ ?_);refine qac (fR i k l ?_);have b:(((sIx a.size 0 lo):Int)==0&&(1:Int)==1&&(sIx a.size a.size hi - sIx a.size 0 lo)==a.size)=true:=by
  rw[hw.1,hw.2]
  simp
 show wpAny _ _ (if _=true then _ else _) _ _ s;rw[iFP b];refine qac (qac (qhj c.typeIs (qaq ?_)))
 first
  |exact qac (qej (qaq ⟨_,rfl,qaq h⟩))
  |exact qac _
  |exact qac _
  |exact qac _
end
end HT
namespace L2
open PySem PySem.Spec PyProof.Rows
def E4 (K:qae):V->Option Int->Option Int->Hp->VK->Prop:=λx lo hi H Q=>∃ a xs,x=.ref a/\SqT K H a xs/\
 ((¬ (HT.sIx xs.length 0 lo=0/\HT.sIx xs.length xs.length hi=xs.length)/\∀ p,H p=none->Q (.ref p) (upd H p (.tup (tH xs lo hi))))\/
   ((HT.sIx xs.length 0 lo=0/\HT.sIx xs.length xs.length hi=xs.length)/\Q (.ref a) H))
def Cw {X:Cx}{K:qae} (l:X.K=K:=by rfl):SlR X (E4 K):=by
 subst l;intro c s n H x v o p lo hi m Q I k j f g h;obtain⟨a,xs,rfl,i,h⟩:=h;rcases h with⟨hw,q⟩|⟨hw,q⟩
 ·exact Dm c s n H _ v o p lo hi m Q I k j f g ⟨a,xs,U,i,hw,q⟩
 ·cases k
  obtain⟨d,r,e,t⟩:=I.tuple i;have b:d.toArray.size=xs.length:=by exact r.length.symm
  refine⟨"tuple",_,qbG.lookup,e.typeIs,?_⟩
  exact HT.getItem_tuple_all e j f g (by rw[b];exact hw) ⟨.ref a,H,I,U,q⟩
section
variable {X:Cx}{j:Scope}{Nc:List Str}{emb:St->St}{elt iter tg:Expr}{ifs:List Expr}{pos:Pos}{wi:TI}{g:TG}{tt:TT}{te:TE}
def BH {i0:Nat}{x0:Str}{py spos:Pos} (hN0:X.N.Nodup) (hi0:X.N[i0]?=some x0) (hx0:Loc X.env.scope x0) (S:dH X j Nc emb) (hc:X.calm=true) (hi:PI X tg iter wi)
  (hg:∀ f s H C A,PG (lcX X j f Nc s H C A) tg g) (ht:∀ f s H C A,PTs (lcX X j f Nc s H C A) ifs tt) (he:∀ f s H C A,PE (lcX X j f Nc s H C A) elt te)
  (hsw:qcu (.ListComp elt [⟨tg,iter,ifs,0⟩] j pos) (some (.Name x0 py)) spos.line X.env=pure true:=by rfl)
  (hf0:X.fn x0=true\/X.env.scope.names.lookup x0=some .local:=by first|exact .inl U|exact .inr U|assumption)
  (hs:∀ x,qbX iter X.env x=pure x:=by intro _;rfl):PS X (.Assign [.Name x0 py] (.ListComp elt [⟨tg,iter,ifs,0⟩] j pos) spos) (Du (tLc emb wi g tt te) (rE i0)):=by
 intro B s σ H DD I h;rw[exec_Assign_Name_used _ _ _ _ hsw];refine qac (qfp (qac ?_));refine qac (qcq (qgF U hs (iU (S.clos I.ok)) S.kind (λx hx hl=>dP S.nd (by rw[<-hl];exact hx)) ?_) (λ_ s' hq=>qaq (qaq hq)) λ_ _ e=>e);refine thn (hi B s σ H _ I h) λv s1 h1=>thn h1 λitv V h2=>?_;obtain⟨it,A,tn,J,H2,e,I2,T,Y,f2,W,⟨m0,w0⟩,turn⟩:=h2;subst e;refine qc1 (jS ?_);rw[qbv ..];generalize hD:V.heap.objs.size=D;generalize hlo:({ cls:=.type "list",dict:=none,data:=.seq ([]:List Value).toArray }:Obj)=lo
 have fplt:∀ b∈A,b<V.heap.objs.size:=λb hb=>by obtain⟨o,e,_⟩:=T.obj _ _ Y b hb;exact qaw e
 have I3:=rY (lo:=lo) S I2 f2 (λb hb=>by obtain⟨o,e,_⟩:=T.obj _ _ Y b hb;exact⟨o,e⟩) (by rw[<-hlo];intro v z;cases z) (by rw[<-hlo];rfl);rw[hD]at I3;generalize hcells:qcv (D+2) j.names _=f at I3;generalize d:lcX X j f Nc V H2 (D+1) A=X' at I3;have O:∀ {H':Hp}{ps:List (Addr×Obj)},(∀ b∈A,H' b=none)->(∀ p∈ps,p.1=D)->∀ b∈A,iP X' ps H' b:=λ{H' ps} hn M b hb=>by
  have ok:=I3.ok;refine⟨hn b hb,?_,?_,.inl (by rw[<-d];exact hb),?_,λp L=>?_⟩
  ·exact (ok.exf b (by rw[<-d];exact hb)).1
  ·exact ok.exfs b (by rw[<-d];exact hb)
  ·exact (ok.exf b (by rw[<-d];exact hb)).2
  ·have hp':p∈([])++ps:=by rw[<-d]at L;exact L
   rw[(M p (by simpa using hp')),<-hD];exact qcg (fplt b hb)
 have Dex:D∈X'.ex\/X'.s₀.heap.objs.size<=D:=.inr (by rw[<-d,<-hD];exact qap _);have Dloc:D≠X'.env.locals:=by rw[<-d];exact qaF (qb3 _)
 have pD:=I3.pin (D,lo) (by rw[<-d];exact qau _ qaf);have Dcell:∀ x c,X'.env.cells.lookup x=some c->c≠D:=λx c hc' e=>by
  obtain⟨v,o,ho,hd⟩:=I3.cell x c hc';rw[e,pD.1]at ho;cases ho;exact pD.2.2.2.2 v hd
 -- the P
 have P:∀ s3:qaj,s3={ V with heap:=qeM ((V.heap.push lo).push { cls:=.type "dict",data:=.dict #[] }) j.names }->
   qe7 (model X.prog X.w) X.A (.compLoop (.ListComp elt [⟨tg,iter,ifs,0⟩] j pos) 0 (.ref it) (.ref D) (qgZ j f (D+1) X.env))
    (compPost (model X.prog X.w) X.A X.xe (some (qfS (.Name x0 py) X.env)) (λ_ s'=>SP X B DD .next s') (.ref D) (D+1)) s3:=by
  rintro s3 rfl
  refine di (λn s'=>∃ i K l k H',Inv X' [(D,{ cls:=.type "list",data:=.seq l.toArray k })] (emb σ) H' s'/\aG K l/\tn i s'.heap/\(∀ b∈A,H' b=none)/\K.length<=qaJ/\W i n K H') ?_ m0
   ⟨0,[],[],0,H2,?_,.nil,?_,λb hb=>(f2 b hb).1,qcl _,w0⟩
  ·rintro n s4 ⟨i,K,l,k,H4,I4,rv,st4,fr4,hlen,w4⟩
   have M:∀ p∈[(D,({ cls:=.type "list",data:=.seq l.toArray k }:Obj))],p.1=D:=λp L=>by
    have:=qao.mp L
    rw[this]
   rcases turn i n K H4 w4 with⟨stop,qn⟩|⟨go,hlt,N,hN,step⟩
   ·-- the end
    have TD:=T.done X' (by rw[<-d];rfl) (by rw[<-d];rfl) (by rw[<-d];rfl) (by rw[<-d];exact hc) i _ s4 (emb σ) H4 (λ_ _=>False) I4 (O fr4 M) st4 stop;rw[show X'.A=X.A by rw[<-d];rfl]at TD;refine thn TD λr s5 ⟨hr,I5⟩=>?_;subst hr;obtain⟨m5,hn5,_⟩:=id I5.loc;have eC:X'.env.locals=D+1:=by rw[<-d];rfl
    rw[eC]at hn5
    suffices inv5:∀ h',qdc (D+1) s5.heap h'->Inv X B σ (upd H4 D (.lst K)) { s5 with heap:=h' } by
     have I5X:Inv X B σ (upd H4 D (.lst K)) s5:=inv5 s5.heap ⟨U,λ_ _=>rfl⟩;have hD4':H4 D=none:=(I5.pin (D,{ cls:=.type "list",data:=.seq l.toArray k }) (by rw[<-d];exact qau _ qaf)).2.1
     have hC4:upd H4 D (.lst K) (D+1)=none:=by
      have:=I5.free
      rw[eC]at this;rw[upd_ne (qcg (qb3 D))];exact this
     have fpC:∀ b∈[D+1],iP X B (upd H4 D (.lst K)) b:=λb hb=>by
      have e:=qao.mp hb;subst e;exact I2.fpOk (by rw[hD];exact qcB D) hC4
     obtain⟨oC,esC,epC,getC,datC,relC⟩:=id hn5;have I5p:=I5X.pinned fpC λb hb=>by
      have e:=qao.mp hb;subst e;exact⟨oC,getC,λv z=>by rw[datC]at z;cases z⟩
     refine qic (ny I5p hN0 hi0 hx0 (v:=.ref D) U (λs6 I6=>?_) hf0);have pC:=(I6.pin (D+1,oC) (qau _ (qau _ (cz qaf getC)))).1;refine⟨m5,⟨oC,esC,epC,pC,datC,relC⟩,λh' F=>?_⟩;have I6u:=I6.unpinned;exact⟨_,_,I6u.turns (t':=s6.toks) fpC (λb o hb e=>(F.2 b (λz=>hb (by rw[z];exact qaf))).trans e),qn D hD4'⟩
    intro h' F;have pD5:=I5.pin (D,{ cls:=.type "list",data:=.seq l.toArray k }) (by rw[<-d];exact qau _ qaf)
    have neC:∀ b u,H4 b=some u->b≠D+1:=λb u e z=>by
     have:=I5.free
     rw[eC,<-z,e]at this;cases this
    have hD4:H4 D=none:=pD5.2.1;have un:=I5.base;have E:Un (frs X.stack) A H2 H4 V.heap s5.heap:=by rw[<-d]at un;exact un
    have w:∀ b o,V.heap.get? b=some o->b≠D/\b≠D+1:=λb o e=>by
     have q:=qaw e;rw[hD]at q;exact⟨qaF q,qaF (qbe q)⟩
    have h2D:H2 D=none:=by rw[<-hD];exact I2.fresh
    have hok':HOk X.prog X.w H4 h':=λb u e=>by
     have ob:cg X.prog X.w H4 s5.heap b u:=by have:=I5.hok b u e;rw[<-d]at this;exact this
     refine ob.stay (λc v hcv q=>(F.2 c ?_).trans q) (λ_ q=>q) λ_ _ q=>q;rcases hcv with z|z
     ·rw[z];exact neC b u e
     ·exact neC c _ z
    have hokD:HOk X.prog X.w (upd H4 D (.lst K)) h':=λb u e=>by
     by_cases hb:b=D
     ·subst hb
      rw[upd_same]at e;cases e;exact⟨hlen,l,k,rv,(F.2 b (qaF (qb3 _))).trans pD5.1⟩
     ·rw[upd_ne hb]at e
      refine (hok' b u e).stay (λ_ _ _ q=>q) (λc q=>?_) λc z q=>?_
      all_goals first
       |(rw[upd_ne (aI q hD4)];exact q)
       |(rw[upd_ne (aI z hD4)];exact z)
    refine I2.call' (s':={ s5 with heap:=h' }) (ch:=A) ?_ ⟨λb o e nb hb hx=>?_,λb o e nb hb hx=>?_,λb o e nb hx=>?_,λb o e hx=>?_,λb xs e=>?_,λb o u e=>?_,λb ps e=>?_⟩ hokD I5.bare (λb hb=>?_)
    ·have:=I5.os
     rw[<-d]at this;exact this
    ·exact (F.2 b (w b o e).2).trans (E.keep b o e nb hb hx)
    ·obtain⟨sl,q⟩:=E.slot b o e nb hb hx
     exact⟨sl,(F.2 b (w b o e).2).trans q⟩
    ·rw[upd_ne (w b o e).1]
     exact E.free b o e nb hx
    ·obtain⟨o',q⟩:=E.there b o e hx
     exact⟨o',(F.2 b (w b o e).2).trans q⟩
    ·rw[upd_ne (aI e h2D)]
     exact E.tups b xs e
    ·rw[upd_ne (aI e h2D)]
     exact E.frzs b o u e
    ·obtain⟨m,q⟩:=E.tbls b ps e
     exact⟨m,by rw[upd_ne (aI e h2D)];exact q⟩
    ·obtain⟨q0,q1,q2,q3,q4,q5⟩:=f2 b hb
     exact⟨q3,q1,q4,q5⟩
   ·-- a turn
    have hA:X'.A=X.A:=by rw[<-d];rfl
    have hP:X'.prog=X.prog:=by rw[<-d];rfl
    have hw:X'.w=X.w:=by rw[<-d];rfl
    have hE:X'.env=qgZ j f (D+1) X.env:=by rw[<-d];rfl
    have hxe:X'.xe=λ_ _=>False:=by rw[<-d];rfl
    have TI':=T.item X' hP hw (by rw[<-d];rfl) (by rw[<-d];exact hc) i _ s4 (emb σ) H4 (λ_ _=>False) I4 (O fr4 M) st4 go;rw[hA]at TI';refine thn TI' λr s5 ⟨u,hr,h5⟩=>?_;subst hr;refine thn h5 λ_ s6 ⟨x,H6,I6,r6,y6,st6,fr6⟩=>?_;have I6':=I6.pinned (O fr6 M) (T.obj _ _ st6);have G:=hg f V H2 (D+1) A;have TT':=ht f V H2 (D+1) A;have EE:=he f V H2 (D+1) A;rw[d]at G TT' EE;have G':=G _ s6 (emb σ) H6 x u _ I6' r6 (step x H6 y6);rw[hA,hP,hw,hE,hxe]at G';refine thn G' λ_ s7 ⟨σ7,H7,I7,sb7,q7⟩=>?_;have T':=TT' _ s7 σ7 H7 _ I7 q7;rw[hA,hP,hw,hE,hxe]at T';refine thn T' λok s8 ⟨H8,I8,q8⟩=>?_
    -- what is pinned
    have t:∀ {σ9:St}{H9:Hp}{R:qaj},Inv X' ([(D,({ cls:=.type "list",data:=.seq l.toArray k }:Obj))]++m8 A s6.heap) σ9 H9 R->tn (i+1) R.heap/\∀ b∈A,H9 b=none:=λ{σ9 H9 R} I9=>
     ⟨T.keep _ _ _ st6 λb hb o e=>(I9.pin (b,o) (qau _ (qau _ (cz hb e)))).1,λb hb=>by
      obtain⟨o,e,_⟩:=T.obj _ _ st6 b hb
      exact (I9.pin (b,o) (qau _ (qau _ (cz hb e)))).2.1⟩
    cases ok with
    |false=>
     rw[iFN (by decide)]at q8;rw[iFN (by decide)];obtain⟨m',hm,w8⟩:=hN _ _ q8;exact⟨m',hm,i+1,K,l,k,H8,I8.unpinned.weak sb7.1 sb7.2,rv,(t I8).1,(t I8).2,hlen,w8⟩
    |true=>
     rw[iFP U]at q8;rw[iFP U];have E':=EE _ s8 σ7 H8 _ I8 q8;rw[hA,hP,hw,hE,hxe]at E';refine thn E' λy R ⟨v9,H9,I9,r9,n9⟩=>?_;obtain⟨m',hm,w9⟩:=hN _ _ n9;have Q:=I9.pin (D,{ cls:=.type "list",data:=.seq l.toArray k }) (qau _ (qaX _ qaf))
     have hl:=rv.length;have I9n:Inv X' [] σ7 H9 R:=I9.pins_of λp L=>nomatch L
     refine qc2 qfd ⟨_,Q.1,U⟩ qe0 (qeT _ _) (qeZ D l.toArray k y (by rw[qaI];lia)) ⟨Q.1,?_⟩;have up:∃ k':Nat,(R.heap.update D (qcF λxs=>xs.push y)).get? D=some { cls:=.type "list",data:=.seq (l++[y]).toArray k' }:=by
      have q:=qeR Q.1 (λxs:Array Value=>xs.push y);simp only[qhd]at q;exact⟨_,q⟩
     obtain⟨k',up⟩:=up;have hoth:∀ b o,b≠D->R.heap.get? b=some o->(R.heap.update D (qcF λxs=>xs.push y)).get? b=some o:=λb o hb e=>(qdq R.heap _ (qbL hb)).trans e;have I10:=I9n.turned (t':=R.toks) hoth Q.2.1 Dloc Dex Dcell (λp L=>absurd (show p∈([]:List (Addr×Obj)) by rw[<-d]at L;exact L) (by simp));refine⟨m',hm,i+1,K++[v9],l++[y],k',H9,(I10.weak sb7.1 sb7.2).pins_of (λp L=>?_),rv.append (.cons r9 .nil),T.keep _ _ _ (t I9).1 (λb hb o e=>hoth b o (by rw[<-hD];exact qaF (fplt b hb)) e),(t I9).2,?_,w9⟩
     ·have:=qao.mp L
      subst this;exact⟨up,Q.2.1,Dloc,(pD.2.2.2.1),λv z=>by cases z⟩
     ·rw[qaz,qbU]
      lia
  ·rw[<-hlo.symm]
   exact I3
  ·exact T.keep _ _ _ Y λb hb o e=>qcV _ _ b o (qai _ (qai _ e))
 refine qg9 ?_ ?_
 ·exact P _ U
 ·refine T.self X.A 0 _ _ _ (T.keep _ _ _ Y λb hb o e=>qcV _ _ b o (qai _ (qai _ e))) ?_
  exact P _ U
end
def ax:Expr->Bool
 |.Starred _ _=>false
 |_=>true
def aP {e:Expr}{es:List Expr}{env:Env} (h:ax e=true):qbC (e::es) env=(false,eval e env)::qbC es env:=by
 cases e<;>first|(cases h;done)|rfl
def bq {pos:Pos}{env:Env}:∀ {es:List Expr},es.all ax=true->(qeP pos (qbC es env)).any (·.1)=false
 |[],_=>by simp[qbC,qeP]
 |e::es,h=>by
  rw[qbD,qba]at h;rw[aP h.1]
  have:=bq (pos:=pos) (env:=env) h.2
  unfold qeP at this ⊢;rw[qar,qcf,this];rfl
def sK {pos:Pos}{env:Env}{es:List Expr} (h:es.all ax=true) (a:es.length < 30):((qeP pos (qbC es env)).all (λx=>!x.1) && (qhX pos (qgh [] env)).all (λx=>x.1.isSome)
   && decide (es.length+([]:List qhP).length+(if ([]:List qhP).isEmpty then 0 else 1)<30))=true:=by
 have d:(qeP pos (qbC es env)).all (λx=>!x.1)=true:=by
  have:=bq (pos:=pos) (env:=env) h
  rw[qa2];intro x b;rw[qe5]at this;simpa using this x b
 have c:(qhX pos (qgh [] env)).all (λx=>x.1.isSome)=true:=by simp[qgh,qhX]
 rw[d,c];simpa using a
def ii {e:Expr}{env:Env} (h:ax e=true):qbC [e] env=[(false,eval e env)]:=by rw[aP h];rfl
def zw {e a:Expr}{env:Env} (h:ax e=true) (b:ax a=true):qbC [e,a] env=[(false,eval e env),(false,eval a env)]:=by rw[aP h,ii b]
def yY:Expr->Bool
 |.UnaryOp .Not _ _=>false
 |.BoolOp _ _ _=>false
 |.IfExp _ _ _ _=>false
 |.Compare _ _ _ _=>false
 |_=>true
def xE {a:Expr}{env:Env} (h:yY a=true):∀ whole,PySem.isTrue a env whole=(do let v <-whole;qjm a.pos;qfK [v] (truthy v)):=by
 intro whole;cases a with
 |UnaryOp op x p=>cases op<;>first|(cases h;done)|rfl
 |BoolOp _ _ _=>cases h
 |IfExp _ _ _ _=>cases h
 |Compare _ _ _ _=>cases h
 |_=>rfl
def lY {t:Expr}{a:List Expr}{env:Env} (h:ax t=true):qbY (t::a) env=(false,qfS t env)::qbY a env:=by
 cases t<;>first|(cases h;done)|rfl
def oM {env:Env}:∀ {a:List Expr},a.all ax=true->(qbY a env).length=a.length
 |[],_=>by simp[qbY]
 |t::a,h=>by
  rw[qbD,qba]at h;rw[lY h.1,qan,oM h.2,qan]
def lZ {env:Env}:∀ {a:List Expr},a.all ax=true->(qbY a env).findIdx? (·.1)=none
 |[],_=>by simp[qbY]
 |t::a,h=>by
  rw[qbD,qba]at h;rw[lY h.1,List.findIdx?_cons,lZ h.2];rfl
def uK {t:Expr}{a:List Expr}{env:Env} (h:ax t=true):(qbY (t::a) env).map (·.2)=qfS t env::(qbY a env).map (·.2):=by rw[lY h];rfl
def oN {t:Expr}{env:Env} (h:ax t=true):(qbY [t] env).map (·.2)=[qfS t env]:=by rw[uK h];simp[qbY]
def qE:Expr->Bool
 |.Slice _ _ _ _=>false
 |_=>true
def oO {o i:Expr}{pos:Pos}{env:Env} (h:qE i=true) (v:Value):qfS (.Subscript o i pos) env v=(do
   let ov <-qfK [v] (eval o env)
   let iv <-qfK [v,ov] (eval i env)
   qjm pos
   qfK [v,ov,iv] (qjo ov iv v)
   release [v,ov,iv] []):=by
 cases i<;>first|(cases h;done)|rfl
def rV {i:Expr} (h:qE i=true):uI i:=by
 intro o j;cases i<;>first|(cases h;done)|rfl
inductive D where
 |non|bl (b:Bool)|int (i:Int)|str (x:Str)|ty (n:String)|dct|scr (ns:List Int)|tup (ds:List D)|lst (ds:List D)|ob (ns:List Str) (ds:List D)
 deriving Inhabited
inductive W where
 |d (x:D)|h (n:Nat)
 deriving Inhabited
inductive C where
 |l (ds:List D)|n (ws:List W)|m (kvs:List (List Int×D))|k (kvs:List (Int×D))|o (fs:List (Str×W))
 deriving Inhabited
abbrev Sto:=List C
def lg (st:Sto) (n:Nat):Option (List D):=match st[n]? with
 |some (.l ds)=>some ds
 |_=>none
def gF (l:List Int):List Key:=l.map Sum.inl
abbrev Ev:=List (Option W)
def KLs (K:qae) (a:Addr) (xs:List V):Prop:=
 ∃ (o:Obj) (b:Array Value) (n:Nat),K.lookup a=some o/\o.cls=.type "list"/\o.dict=none/\o.data=.seq b n/\b.size<=qaJ/\aG xs b.toList
section
variable (K:qae) (H:Hp) (φ:List Addr)
mutual
def Rl:D->V->Prop
 |.non,v=>v=.non
 |.bl b,v=>v=.bl b
 |.int i,v=>v=.int i
 |.str x,v=>v=.str x
 |.ty n,v=>v=.ty n
 |.dct,v=>∃ a,v=.ref a/\a∉φ/\((∃ d,H a=some (.dK d))\/∃ d,H a=some (.dT d))
 |.scr ns,v=>∃ a,v=.ref a/\((∃ o,H a=some (.frz o (.lst (ns.map V.int))))\/KLs K a (ns.map V.int))
 |.tup ds,v=>∃ a vs,v=.ref a/\H a=some (.tup vs)/\Rls ds vs
 |.lst ds,v=>∃ a vs,v=.ref a/\a∉φ/\Rd H a (.lst vs)/\Rls ds vs
 |.ob ns ds,v=>∃ a Cl dx fs vs,v=.ref a/\a∉φ/\H a=some (.ins Cl dx fs)/\fs=ns.zip vs/\ns.length=vs.length/\5<ns.length/\Cls K Cl/\(∀ f∈ns,cp K Cl f)/\Rls ds vs
def Rls:List D->List V->Prop
 |[],vs=>vs=[]
 |d::ds,vs=>∃ v r,vs=v::r/\Rl d v/\Rls ds r
end
def Rw:W->V->Prop
 |.d x,v=>Rl K H φ x v
 |.h n,v=>∃ a,φ[n]?=some a/\v=.ref a
def Rws:List W->List V->Prop
 |[],vs=>vs=[]
 |d::ds,vs=>∃ v r,vs=v::r/\Rw K H φ d v/\Rws ds r
def Rkv:List (List Int×D)->List (List Key×V)->Prop
 |[],vs=>vs=[]
 |(k,d)::ds,vs=>∃ v r,vs=(gF k,v)::r/\Rl K H φ d v/\Rkv ds r
def Rkk:List (Int×D)->List (Key×V)->Prop
 |[],vs=>vs=[]
 |(k,d)::ds,vs=>∃ v r,vs=(Sum.inl k,v)::r/\Rl K H φ d v/\Rkk ds r
def Rfs:List (Str×W)->List (Str×V)->Prop
 |[],vs=>vs=[]
 |(k,d)::ds,vs=>∃ v r,vs=(k,v)::r/\Rw K H φ d v/\Rfs ds r
def Rc (k:Nat) (a:Addr):C->Prop
 |.l ds=>∃ vs,H a=some (.lst vs)/\Rls K H φ ds vs
 |.n ws=>∃ vs,H a=some (.lst vs)/\Rws K H φ ws vs/\∀ m,W.h m∈ws->m<k
 |.m e=>∃ vs,H a=some (.dT vs)/\Rkv K H φ e vs
 |.k e=>∃ vs,H a=some (.dK vs)/\Rkk K H φ e vs
 |.o fs=>∃ Cl dx vs,H a=some (.ins Cl dx vs)/\Rfs K H φ fs vs/\(∀ m,W.h m∈fs.map (·.2)->m<k)/\Cls K Cl/\∀ p∈fs,cp K Cl p.1
structure Sr (st:Sto):Prop where
 nd:φ.Nodup
 len:φ.length=st.length
 at_:∀ (n:Nat) a c,φ[n]?=some a->st[n]?=some c->Rc K H φ n a c
structure Er (env:Ev) (σ:St):Prop where
 len:env.length=σ.length
 at_:∀ (i:Nat) w,env[i]?=some (some w)->∃ v,σ[i]?=some (some v)/\Rw K H φ w v
end
structure Fw (φ φ':List Addr) (H H':Hp):Prop where
 ext:∃ ψ,φ'=φ++ψ/\∀ a∈ψ,H a=none
 keep:∀ b o,b∉φ->H b=some o->H' b=some o
 there:∀ b o,H b=some o->∃ o',H' b=some o'
section
variable {K:qae}{H H1 H2 H':Hp}{φ y A φ':List Addr}{st P:Sto}
def Fw.refl (φ:List Addr) (H:Hp):Fw φ φ H H:=⟨⟨[],by simp,by simp⟩,λ_ _ _ h=>h,λ_ o h=>⟨o,h⟩⟩
def Fw.trans (a:Fw φ y H H1) (b:Fw y A H1 H2):Fw φ A H H2:=by
 obtain⟨ψ,rfl,g⟩:=a.ext;obtain⟨O,rfl,j⟩:=b.ext;refine⟨⟨_,by rw[qbM],λc B=>?_⟩,λc o B h=>?_,λc o h=>?_⟩
 ·rcases qaS.mp B with z|z
  ·exact g c z
  ·cases q:H c with
   |none=>rfl
   |some o=>
    obtain⟨J,L⟩:=a.there c o q;rw[j c z]at L;cases L
 ·refine b.keep c o (λz=>?_) (a.keep c o B h)
  rcases qaS.mp z with z|z
  ·exact B z
  ·rw[g c z]at h;cases h
 ·obtain⟨J,q⟩:=a.there c o h
  exact b.there c J q
def Fw.same (s:aO H H'):Fw φ φ H H':=⟨⟨[],by simp,by simp⟩,λb o _ h=>s b o h,λb o h=>⟨o,s b o h⟩⟩
def Fw.new {p:Addr}{o:HO} (F:H p=none):Fw φ φ H (upd H p o):=.same (aO.new F o)
def Fw.get (f:Fw φ φ' H H') {n:Nat}{a:Addr} (h:φ[n]?=some a):φ'[n]?=some a:=by
 obtain⟨ψ,rfl,_⟩:=f.ext;rw[qaE (qas.mp h).1];exact h
def Fw.nin (f:Fw φ φ' H H') {a:Addr}{o:HO} (h:a∉φ) (q:H a=some o):a∉φ':=by
 obtain⟨ψ,rfl,e⟩:=f.ext;intro z;rcases qaS.mp z with z|z
 ·exact h z
 ·rw[e a z]at q;cases q
def EB:HO->Bool
 |.lst _=>true
 |.dT _=>true
 |.dK _=>true
 |.ins _ _ _=>true
 |_=>false
def Rc.ob {k:Nat}{a:Addr}{c:C} (h:Rc K H φ k a c):∃ o,H a=some o/\EB o=true:=by
 cases c with
 |l ds=>obtain⟨vs,q,_⟩:=h;exact⟨_,q,U⟩
 |n ds=>obtain⟨vs,q,_⟩:=h;exact⟨_,q,U⟩
 |m ds=>obtain⟨vs,q,_⟩:=h;exact⟨_,q,U⟩
 |k ds=>obtain⟨vs,q,_⟩:=h;exact⟨_,q,U⟩
 |o ds=>obtain⟨_,_,vs,q,_⟩:=h;exact⟨_,q,U⟩
def Sr.lst (S:Sr K H φ st) {a:Addr} (h:a∈φ):∃ o,H a=some o/\EB o=true:=by
 obtain⟨n,hn,e⟩:=qcS.mp h;have R:n<st.length:=by rw[<-S.len];exact hn
 exact (S.at_ n a st[n] (by rw[qal hn,e]) (by rw[qal R])).ob
def vA {st:Sto}{n:Nat}{ds:List D} (h:lg st n=some ds):st[n]?=some (.l ds):=by
 unfold lg at h;split at h
 ·rename_i q;cases h;exact q
 ·cases h
def Sr.atl (S:Sr K H φ st) (n:Nat) (a:Addr) (ds:List D) (g:φ[n]?=some a) (j:lg st n=some ds):∃ vs,H a=some (.lst vs)/\Rls K H φ ds vs:=S.at_ n a _ g (vA j)
def Sr.nin (S:Sr K H φ st) {a:Addr} (h:H a=none):a∉φ:=λz=>by
 obtain⟨vs,q,_⟩:=S.lst z;rw[q]at h;cases h
def Rd.nin (S:Sr K H φ st) {a:Addr}{vs:List V} (h:Rd H a (.tup vs)):a∉φ:=λz=>by
 obtain⟨ws,q,qm⟩:=S.lst z;rcases h with h|⟨o,h⟩<;>(rw[q]at h;cases h;cases qm)
def Rd.fw (f:Fw φ φ' H H') {a:Addr}{u:HO} (hn:a∉φ) (h:Rd H a u):Rd H' a u:=by
 rcases h with h|⟨o,h⟩
 ·exact .inl (f.keep _ _ hn h)
 ·exact .inr ⟨o,f.keep _ _ hn h⟩
def SqT.fw (S:Sr K H φ st) (f:Fw φ φ' H H') {a:Addr}{vs:List V} (h:SqT K H a vs):SqT K H' a vs:=by
 rcases h with h|h
 ·exact .inl (f.keep _ _ (Rd.nin S (.inl h)) h)
 ·exact .inr h
def Rd.some {a:Addr}{u:HO} (h:Rd H a u):∃ o,H a=some o:=by
 rcases h with h|⟨o,h⟩
 ·exact⟨_,h⟩
 ·exact⟨_,h⟩
mutual
def Rl.fw (S:Sr K H φ st) (f:Fw φ φ' H H'):∀ {d:D}{v:V},Rl K H φ d v->Rl K H' φ' d v
 |.non,_,h=>h
 |.bl _,_,h=>h
 |.int _,_,h=>h
 |.str _,_,h=>h
 |.ty _,_,h=>h
 |.dct,_,h=>by
  obtain⟨a,rfl,hn,h⟩:=h;rcases h with⟨d,h⟩|⟨d,h⟩
  ·exact⟨a,U,f.nin hn h,.inl ⟨d,f.keep _ _ hn h⟩⟩
  ·exact⟨a,U,f.nin hn h,.inr ⟨d,f.keep _ _ hn h⟩⟩
 |.scr ns,_,h=>by
  obtain⟨a,rfl,h⟩:=h;refine⟨a,U,?_⟩;rcases h with⟨o,h⟩|h
  ·refine .inl ⟨o,f.keep _ _ (λz=>?_) h⟩
   obtain⟨ws,q,qm⟩:=S.lst z;rw[q]at h;cases h;cases qm
  ·exact .inr h
 |.tup ds,_,h=>by
  obtain⟨a,vs,rfl,h1,h2⟩:=h;exact⟨a,vs,U,f.keep _ _ (Rd.nin S (.inl h1)) h1,Rls.fw S f h2⟩
 |.lst ds,_,h=>by
  obtain⟨a,vs,rfl,h0,h1,h2⟩:=h;obtain⟨o,e⟩:=h1.some;exact⟨a,vs,U,f.nin h0 e,h1.fw f h0,Rls.fw S f h2⟩
 |.ob ns ds,_,h=>by
  obtain⟨a,Cl,dx,fs,vs,rfl,h0,h1,h2,h3,h4,h5,h7,h6⟩:=h;exact⟨a,Cl,dx,fs,vs,U,f.nin h0 h1,f.keep _ _ h0 h1,h2,h3,h4,h5,h7,Rls.fw S f h6⟩
def Rls.fw (S:Sr K H φ st) (f:Fw φ φ' H H'):∀ {ds:List D}{vs:List V},Rls K H φ ds vs->Rls K H' φ' ds vs
 |[],_,h=>h
 |d::ds,_,h=>by
  obtain⟨v,r,rfl,h1,h2⟩:=h;exact⟨v,r,U,Rl.fw S f h1,Rls.fw S f h2⟩
end
def Rw.fw (S:Sr K H φ st) (f:Fw φ φ' H H') {w:W}{v:V} (h:Rw K H φ w v):Rw K H' φ' w v:=by
 cases w with
 |d x=>exact Rl.fw S f h
 |h n=>obtain⟨a,e,rfl⟩:=h;exact⟨a,f.get e,U⟩
def Rws.fw (S:Sr K H φ st) (f:Fw φ φ' H H'):∀ {ws:List W}{vs:List V},Rws K H φ ws vs->Rws K H' φ' ws vs
 |[],_,h=>h
 |d::ds,_,h=>by
  obtain⟨v,r,rfl,h1,h2⟩:=h;exact⟨v,r,U,h1.fw S f,Rws.fw S f h2⟩
def Er.fw (S:Sr K H φ st) (f:Fw φ φ' H H') {env:Ev}{N:St} (h:Er K H φ env N):Er K H' φ' env N:=
 ⟨h.len,λi w e=>let ⟨v,g,r⟩:=h.at_ i w e;⟨v,g,r.fw S f⟩⟩
def Rkv.fw (S:Sr K H φ st) (f:Fw φ φ' H H'):∀ {ds:List (List Int×D)}{vs:List (List Key×V)},Rkv K H φ ds vs->Rkv K H' φ' ds vs
 |[],_,h=>h
 |(k,d)::ds,_,h=>by
  obtain⟨v,r,rfl,h1,h2⟩:=h;exact⟨v,r,U,Rl.fw S f h1,Rkv.fw S f h2⟩
def Rkk.fw (S:Sr K H φ st) (f:Fw φ φ' H H'):∀ {ds:List (Int×D)}{vs:List (Key×V)},Rkk K H φ ds vs->Rkk K H' φ' ds vs
 |[],_,h=>h
 |(k,d)::ds,_,h=>by
  obtain⟨v,r,rfl,h1,h2⟩:=h;exact⟨v,r,U,Rl.fw S f h1,Rkk.fw S f h2⟩
def Rfs.fw (S:Sr K H φ st) (f:Fw φ φ' H H'):∀ {ds:List (Str×W)}{vs:List (Str×V)},Rfs K H φ ds vs->Rfs K H' φ' ds vs
 |[],_,h=>h
 |(k,d)::ds,_,h=>by
  obtain⟨v,r,rfl,h1,h2⟩:=h;exact⟨v,r,U,h1.fw S f,Rfs.fw S f h2⟩
def Rc.fw (S:Sr K H φ st) (f:Fw φ φ' H H') {k:Nat}{a:Addr}{c:C} (e:∀ o,H a=some o->H' a=some o) (h:Rc K H φ k a c):Rc K H' φ' k a c:=by
 cases c with
 |l ds=>obtain⟨vs,q,r⟩:=h;exact⟨vs,e _ q,r.fw S f⟩
 |n ds=>obtain⟨vs,q,r,b⟩:=h;exact⟨vs,e _ q,r.fw S f,b⟩
 |m ds=>obtain⟨vs,q,r⟩:=h;exact⟨vs,e _ q,r.fw S f⟩
 |k ds=>obtain⟨vs,q,r⟩:=h;exact⟨vs,e _ q,r.fw S f⟩
 |o ds=>obtain⟨Cl,dx,vs,q,r,b⟩:=h;exact⟨Cl,dx,vs,e _ q,r.fw S f,b⟩
def Sr.same (S:Sr K H φ st) (s:aO H H'):Sr K H' φ st:=
 ⟨S.nd,S.len,λn a c g j=>(S.at_ n a c g j).fw S (Fw.same s) λo h=>s _ _ h⟩
def Sr.new (S:Sr K H φ st) {p:Addr}{o:HO} (F:H p=none):Sr K (upd H p o) φ st:=S.same (aO.new F o)
def Rls.length:∀ {ds:List D}{vs:List V},Rls K H φ ds vs->ds.length=vs.length
 |[],_,h=>by cases h;rfl
 |d::ds,_,h=>by
  obtain⟨v,r,rfl,h1,h2⟩:=h;rw[qan,qan,Rls.length h2]
def Rws.length:∀ {ds:List W}{vs:List V},Rws K H φ ds vs->ds.length=vs.length
 |[],_,h=>by cases h;rfl
 |d::ds,_,h=>by
  obtain⟨v,r,rfl,h1,h2⟩:=h;rw[qan,qan,Rws.length h2]
def Rls.append:∀ {ds es:List D}{vs I:List V},Rls K H φ ds vs->Rls K H φ es I->Rls K H φ (ds++es) (vs++I)
 |[],_,_,_,h,h'=>by cases h;exact h'
 |d::ds,_,_,_,h,h'=>by
  obtain⟨v,r,rfl,h1,h2⟩:=h;exact⟨v,_,U,h1,Rls.append h2 h'⟩
def Rls.get:∀ {ds:List D}{vs:List V},Rls K H φ ds vs->∀ {i:Nat}{d:D},ds[i]?=some d->∃ v,vs[i]?=some v/\Rl K H φ d v
 |[],_,h,i,d,e=>by simp at e
 |d::ds,_,h,i,e,q=>by
  obtain⟨v,r,rfl,h1,h2⟩:=h;cases i with
  |zero=>simp at q;subst q;exact⟨v,U,h1⟩
  |succ i=>simpa using Rls.get h2 (by simpa using q)
def Rls.take:∀ {ds:List D}{vs:List V} (n:Nat),Rls K H φ ds vs->Rls K H φ (ds.take n) (vs.take n)
 |_,_,0,_=>by exact U
 |[],_,n+1,h=>by cases h;exact U
 |d::ds,_,n+1,h=>by
  obtain⟨v,r,rfl,h1,h2⟩:=h;exact⟨v,_,U,h1,Rls.take n h2⟩
def Rls.drop:∀ {ds:List D}{vs:List V} (n:Nat),Rls K H φ ds vs->Rls K H φ (ds.drop n) (vs.drop n)
 |_,_,0,h=>h
 |[],_,n+1,h=>by cases h;exact U
 |d::ds,_,n+1,h=>by
  obtain⟨v,r,rfl,h1,h2⟩:=h;exact Rls.drop n h2
def Rls.set:∀ {ds:List D}{vs:List V} (n:Nat) {d:D}{v:V},Rls K H φ ds vs->Rl K H φ d v->Rls K H φ (ds.set n d) (vs.set n v)
 |[],_,_,_,_,h,_=>by cases h;exact U
 |e::ds,_,0,d,v,h,hd=>by
  obtain⟨u,r,rfl,h1,h2⟩:=h;exact⟨v,r,U,hd,h2⟩
 |e::ds,_,n+1,d,v,h,hd=>by
  obtain⟨u,r,rfl,h1,h2⟩:=h;exact⟨u,_,U,h1,Rls.set n h2 hd⟩
def Rls.rep {ds:List D}{vs:List V} (h:Rls K H φ ds vs):∀ k:Nat,Rls K H φ (qaG k ds).flatten (qaG k vs).flatten
 |0=>rfl
 |k+1=>by exact h.append (Rls.rep h k)
def Rls.ints:∀ {ns:List Int}{vs:List V},Rls K H φ (ns.map D.int) vs->vs=ns.map V.int
 |[],_,h=>h
 |n::ns,_,h=>by
  obtain⟨v,r,rfl,h1,h2⟩:=h;rw[h1,Rls.ints h2];rfl
def Rls.bools:∀ {ns:List Bool}{vs:List V},Rls K H φ (ns.map D.bl) vs->vs=ns.map V.bl
 |[],_,h=>h
 |n::ns,_,h=>by
  obtain⟨v,r,rfl,h1,h2⟩:=h;rw[h1,Rls.bools h2];rfl
def Rls.of_ints:∀ (ns:List Int),Rls K H φ (ns.map D.int) (ns.map V.int)
 |[]=>rfl
 |n::ns=>⟨_,_,U,U,Rls.of_ints ns⟩
def Rl.less {ψ:List Addr}:∀ {d:D}{v:V},Rl K H (φ++ψ) d v->Rl K H φ d v:=by
 intro d v;refine (?_:∀ v,Rl K H _ d v->Rl K H φ d v) v;refine D.rec (motive_2:=λds=>∀ vs,Rls K H (φ++ψ) ds vs->Rls K H φ ds vs) ?_ ?_ ?_ ?_ ?_ ?_ ?_ ?_ ?_ ?_ ?_ ?_ d
 ·exact λv h=>h
 ·exact λb v h=>h
 ·exact λb v h=>h
 ·exact λb v h=>h
 ·exact λb v h=>h
 ·rintro v ⟨a,e,hn,h⟩;exact⟨a,e,λz=>hn (qaX _ z),h⟩
 ·exact λns v h=>h
 ·rintro ds t v ⟨a,vs,rfl,h1,h2⟩;exact⟨a,vs,U,h1,t vs h2⟩
 ·rintro ds t v ⟨a,vs,rfl,h0,h1,h2⟩;exact⟨a,vs,U,λz=>h0 (qaX _ z),h1,t vs h2⟩
 ·rintro ns ds t v ⟨a,Cl,dx,fs,vs,rfl,h0,h1,h2,h3,h4,h5,h7,h6⟩;exact⟨a,Cl,dx,fs,vs,U,λz=>h0 (qaX _ z),h1,h2,h3,h4,h5,h7,t vs h6⟩
 ·exact λvs h=>h
 ·rintro d ds E G vs ⟨v,r,rfl,h1,h2⟩;exact⟨v,r,U,E v h1,G r h2⟩
def Rls.less {ψ:List Addr}:∀ {ds:List D}{vs:List V},Rls K H (φ++ψ) ds vs->Rls K H φ ds vs
 |[],_,h=>h
 |d::ds,_,h=>by
  obtain⟨v,r,rfl,h1,h2⟩:=h;exact⟨v,r,U,Rl.less h1,Rls.less h2⟩
def Rkv.less {ψ:List Addr}:∀ {ds:List (List Int×D)}{vs:List (List Key×V)},Rkv K H (φ++ψ) ds vs->Rkv K H φ ds vs
 |[],_,h=>h
 |(k,d)::ds,_,h=>by
  obtain⟨v,r,rfl,h1,h2⟩:=h;exact⟨v,r,U,Rl.less h1,Rkv.less h2⟩
def Rkk.less {ψ:List Addr}:∀ {ds:List (Int×D)}{vs:List (Key×V)},Rkk K H (φ++ψ) ds vs->Rkk K H φ ds vs
 |[],_,h=>h
 |(k,d)::ds,_,h=>by
  obtain⟨v,r,rfl,h1,h2⟩:=h;exact⟨v,r,U,Rl.less h1,Rkk.less h2⟩
def Rws.less {ψ:List Addr}:∀ {ds:List W}{vs:List V},(∀ m,W.h m∈ds->m<φ.length)->Rws K H (φ++ψ) ds vs->Rws K H φ ds vs
 |[],_,_,h=>h
 |d::ds,_,hm,h=>by
  obtain⟨v,r,rfl,h1,h2⟩:=h;refine⟨v,r,U,?_,Rws.less (λm z=>hm m (qak _ z)) h2⟩;cases d with
  |d x=>exact Rl.less h1
  |h m=>
   obtain⟨a,e,rfl⟩:=h1;rw[qaE (hm m qaf)]at e;exact⟨a,e,U⟩
def Rfs.less {ψ:List Addr}:∀ {ds:List (Str×W)}{vs:List (Str×V)},(∀ m,W.h m∈ds.map (·.2)->m<φ.length)->Rfs K H (φ++ψ) ds vs->Rfs K H φ ds vs
 |[],_,_,h=>h
 |(k,d)::ds,_,hm,h=>by
  obtain⟨v,r,rfl,h1,h2⟩:=h;refine⟨v,r,U,?_,Rfs.less (λm z=>hm m (qak _ z)) h2⟩;cases d with
  |d x=>exact Rl.less h1
  |h m=>
   obtain⟨a,e,rfl⟩:=h1;rw[qaE (hm m qaf)]at e;exact⟨a,e,U⟩
def Rc.less {ψ:List Addr}{k:Nat}{a:Addr}{c:C} (M:k<φ.length) (h:Rc K H (φ++ψ) k a c):Rc K H φ k a c:=by
 cases c with
 |l ds=>obtain⟨vs,q,r⟩:=h;exact⟨vs,q,r.less⟩
 |n ds=>obtain⟨vs,q,r,b⟩:=h;exact⟨vs,q,r.less λm z=>qey (b m z) M,b⟩
 |m ds=>obtain⟨vs,q,r⟩:=h;exact⟨vs,q,r.less⟩
 |k ds=>obtain⟨vs,q,r⟩:=h;exact⟨vs,q,r.less⟩
 |o ds=>obtain⟨Cl,dx,vs,q,r,b,c⟩:=h;exact⟨Cl,dx,vs,q,r.less λm z=>qey (b m z) M,b,c⟩
def Sr.less {ψ:List Addr} (S:Sr K H (φ++ψ) st):Sr K H φ (st.take φ.length):=by
 have Q:=S.len;rw[qaz]at Q;refine⟨(qcy.mp S.nd).1,by rw[qc5];lia,λn a ds g j=>?_⟩;have hn:=(qas.mp g).1;rw[qd2 hn]at j;exact (S.at_ n a ds (by rw[qaE hn];exact g) j).less hn
end
abbrev Ef:=Ev->Sto->Option (W×Sto)
abbrev Af:=Ev->Sto->Option (List W×Sto)
abbrev Tf:=Ev->Sto->Option (Bool×Sto)
abbrev Lf:=Ev->Sto->Option (List D×Sto)
abbrev Fn:=List W->Sto->Option (W×Sto)
section
variable (K:qae)
def tI (env:Ev) (st:Sto) (r:W×Sto):TE:=λh H Q=>∃ φ,Er K H φ env h/\Sr K H φ st/\∀ v H' b,Fw φ b H H'->Sr K H' b r.2->Rw K H' b r.1 v->Q v H'
def tIA (env:Ev) (st:Sto) (r:List W×Sto):TA:=λh H Q=>∃ φ,Er K H φ env h/\Sr K H φ st/\∀ c H' b,Fw φ b H H'->Sr K H' b r.2->Rws K H' b r.1 c->Q c H'
def tIT (env:Ev) (st:Sto) (r:Bool×Sto):TT:=λh H Q=>∃ φ,Er K H φ env h/\Sr K H φ st/\∀ H' b,Fw φ b H H'->Sr K H' b r.2->Q r.1 H'
def tIL (env:Ev) (st:Sto) (r:List D×Sto):TE:=λh H Q=>∃ φ,Er K H φ env h/\Sr K H φ st/\∀ a c H1 b,Fw φ b H H1->Sr K H1 b r.2->H1 a=none->Rls K H1 b r.1 c->Q (.ref a) (upd H1 a (.lst c))
structure IE (X:Cx) (e:Expr) (f:Ef):Prop where
 run:∀ env st r,f env st=some r->PE X e (tI K env st r)
structure IA (X:Cx) (es:List Expr) (f:Af):Prop where
 run:∀ env st r,f env st=some r->PA X es (tIA K env st r)
structure IT (X:Cx) (e:Expr) (f:Tf):Prop where
 run:∀ env st r,f env st=some r->PT X e (tIT K env st r)
structure ITW (X:Cx) (e:Expr) (f:Tf):Prop where
 run:∀ env st r,f env st=some r->PW X e (tIT K env st r)
structure IL (X:Cx) (e:Expr) (f:Lf):Prop where
 run:∀ env st r,f env st=some r->PE X e (tIL K env st r)
def rD (st:Sto) (x y:W) (d:D):R2:=λj k H Q=>∃ φ,Sr K H φ st/\Rw K H φ x j/\Rw K H φ y k/\∀ v H',aO H H'->Rl K H' φ d v->Q v H'
structure OpD (X:Cx) (f:Value->Value->Sem Value) (g:Sto->W->W->Option D):Prop where
 run:∀ st x y d,g st x y=some d->OpR X f (rD K st x y d)
def rCD (st:Sto) (ws:List W) (d:D):List V->Hp->VK->Prop:=λc H Q=>∃ φ,Sr K H φ st/\Rws K H φ ws c/\∀ v H',aO H H'->Rl K H' φ d v->Q v H'
structure fq (X:Cx) (f:Value) (g:Sto->List W->Option D):Prop where
 run:∀ st ws d,g st ws=some d->bI X f (rCD K st ws d)
def rCL (st:Sto) (ws:List W) (ds:List D):List V->Hp->VK->Prop:=λc H Q=>∃ φ,Sr K H φ st/\Rws K H φ ws c/\∀ a i H1,aO H H1->H1 a=none->Rls K H1 φ ds i->Q (.ref a) (upd H1 a (.lst i))
structure nZ (X:Cx) (f:Value) (g:Sto->List W->Option (List D)):Prop where
 run:∀ st ws d,g st ws=some d->bI X f (rCL K st ws d)
end
def iV (i:Nat):Ef
 |env,st=>(env.getD i none).map λw=>(w,st)
def iC (d:D):Ef
 |_,st=>some (.d d,st)
def iOp (g:Sto->W->W->Option D) (a b:Ef):Ef
 |env,st=>(a env st).bind λx=>(b env x.2).bind λy=>(g y.2 x.1 y.1).map λd=>(.d d,y.2)
def iQ:D->Option Bool
 |.bl b=>some b
 |_=>none
def blW:W->Option Bool
 |.d (.bl b)=>some b
 |_=>none
def aB (g:Sto->W->W->Option D) (a b:Ef):Tf
 |env,st=>(a env st).bind λx=>(b env x.2).bind λy=>(g y.2 x.1 y.1).bind λd=>(iQ d).map λk=>(k,y.2)
def iUn (g:W->Option D) (a:Ef):Ef
 |env,st=>(a env st).bind λx=>(g x.1).map λd=>(.d d,x.2)
def yj (a:Ef):Ef
 |env,st=>(a env st).bind λx=>(blW x.1).map λk=>(.d (.bl (!k)),x.2)
def om (a b:Ef):Ef
 |env,st=>(a env st).bind λx=>(blW x.1).bind λk=>if k=true then b env x.2 else some (.d (.bl false),x.2)
def eZ (c:Tf) (a b:Ef):Ef
 |env,st=>(c env st).bind λr=>if r.1=true then a env r.2 else b env r.2
def dC (c:Tf):Tf
 |env,st=>(c env st).map λr=>(!r.1,r.2)
def cC (a b:Tf):Tf
 |env,st=>(a env st).bind λr=>if r.1=true then b env r.2 else some (false,r.2)
def cS (a b:Tf):Tf
 |env,st=>(a env st).bind λr=>if r.1=true then some (true,r.2) else b env r.2
def cL (g:Sto->W->Option Bool) (a:Ef):Tf
 |env,st=>(a env st).bind λx=>(g x.2 x.1).map λk=>(k,x.2)
def ac:Af
 |_,st=>some ([],st)
def aa (a:Ef) (r:Af):Af
 |env,st=>(a env st).bind λx=>(r env x.2).map λy=>(x.1::y.1,y.2)
def iCB (g:Sto->List W->Option D) (a:Af):Ef
 |env,st=>(a env st).bind λr=>(g r.2 r.1).map λd=>(.d d,r.2)
def iCL (g:Sto->List W->Option (List D)) (a:Af):Lf
 |env,st=>(a env st).bind λr=>(g r.2 r.1).map λd=>(d,r.2)
def ap (m:Fn) (a:Af):Ef
 |env,st=>(a env st).bind λr=>m r.1 r.2
def kf:List W->Option (List D)
 |[]=>some []
 |.d x::ws=>(kf ws).map λr=>x::r
 |.h _::_=>none
def bh (a:Af):Ef
 |env,st=>(a env st).bind λr=>(kf r.1).bind λds=>if ds.length<=1000 then some (.d (.tup ds),r.2) else none
def bM (a:Af):Lf
 |env,st=>(a env st).bind λr=>(kf r.1).bind λds=>if ds.length<=1000 then some (ds,r.2) else none
def aq (a:Lf):Ef
 |env,st=>(a env st).map λr=>(.d (.lst r.1),r.2)
def cX (a:Lf):Ef
 |env,st=>(a env st).map λr=>(.h r.2.length,r.2++[.l r.1])
section
variable {K:qae}{X:Cx}{e a b c:Expr}{es:List Expr}{pos:Pos}{f fa fb fc:Ef}
def PE.imp {t t':TE} (h:PE X e t) (m:∀ G H Q,t' G H Q->t G H Q):PE X e t':=λO s G H Q I q=>h O s G H Q I (m G H Q q)
def PT.imp {t t':TT} (h:PT X e t) (m:∀ G H Q,t' G H Q->t G H Q):PT X e t':=λO s G H Q I q=>h O s G H Q I (m G H Q q)
def PW.imp {t t':TT} (h:PW X e t) (m:∀ G H Q,t' G H Q->t G H Q):PW X e t':=λwh O s G H Q I q=>h wh O s G H Q I (m G H Q q)
def PA.imp {t t':TA} (h:PA X es t) (m:∀ G H Q,t' G H Q->t G H Q):PA X es t':=λpos O s G H Q I q=>h pos O s G H Q I (m G H Q q)
def OpR.imp {g:Value->Value->Sem Value}{r r':R2} (h:OpR X g r) (m:∀ x y H Q,r' x y H Q->r x y H Q):OpR X g r':=λO s G H x y v u Q I rx ry q=>h O s G H x y v u Q I rx ry (m _ _ _ _ q)
def bI.imp {g:Value}{r r':List V->Hp->VK->Prop} (h:bI X g r) (m:∀ xs H Q,r' xs H Q->r xs H Q):bI X g r':=λO s G H xs us Q I rx q=>h O s G H xs us Q I rx (m _ _ _ q)
def m7:PE X e (λ_ _ _=>False):=λ_ _ _ _ _ _ q=>q.elim
def sC:PW X e (λ_ _ _=>False):=λ_ _ _ _ _ _ _ q=>q.elim
def Cf {i:Nat}{x:Str}{t:TE} (h:PE X (.Name x pos) (qP i)):IE K X (.Name x pos) (iV i):=by
 refine⟨λenv st r A=>?_⟩;obtain⟨w,hw,rfl⟩:=qad.mp A;refine h.imp ?_
 rintro G H Q ⟨φ,E,B,q⟩
 have hi:env[i]?=some (some w):=by
  rw[qfD]at hw;cases q:env[i]? with
  |none=>rw[q]at hw;cases hw
  |some o=>rw[q]at hw;rw[show o=some w from hw]
 obtain⟨v,e1,r⟩:=E.at_ i w hi;exact⟨v,e1,q v H φ (Fw.refl φ H) B r⟩
def iv (i:Nat) {x:Str} (hN:X.N[i]?=some x:=by rfl) (hv:Vis X.env.scope x:=by first|exact Or.inl U|exact Or.inr (Or.inl U)|exact Or.inr (Or.inr U)) (hd:(x==("__debug__" : Str))=false:=by decide)
  (hcd:(x==("__classdict__" : Str))=false:=by decide):IE K X (.Name x pos) (iV i):=Cf (t:=qP i) (ie hN hv hd hcd)
def yk {d:D}{v:V} (h:PE X e (tC v)) (r:∀ H φ,Rl K H φ d v):IE K X e (iC d):=by
 refine⟨λenv st r A=>?_⟩;cases A;refine h.imp ?_
 rintro G H Q ⟨φ,E,B,q⟩
 exact q v H φ (Fw.refl φ H) B (r H φ)
def ko {i j}:IE K X (.Constant (.int i) j pos) (iC (.int i)):=yk CZ λ_ _=>rfl
def u5 {i j}:IE K X (.Constant (.bool i) j pos) (iC (.bl i)):=yk EO λ_ _=>rfl
def pG {j}:IE K X (.Constant .none j pos) (iC .non):=yk C1 λ_ _=>rfl
def pJ {x j}:IE K X (.Constant (.str x) j pos) (iC (.str x)):=yk C4 λ_ _=>rfl
def qO {env:Ev}{st:Sto}{x y:W×Sto}{d:D}{G:St}{H:Hp}{Q:VK} (h:tI K env st (.d d,y.2) G H Q):tOp (rD K y.2 x.1 y.1 d) (tI K env st x) (tI K env x.2 y) G H Q:=by
 obtain⟨φ,E,B,q⟩:=h;refine⟨φ,E,B,λv H1 z J s1 M=>⟨z,E.fw B J,s1,λu H2 P Y s2 w2=>⟨P,s2,M.fw s1 Y,w2,λv3 H3 f3 w3=>?_⟩⟩⟩;exact q v3 H3 P ((J.trans Y).trans (Fw.same f3)) (s2.same f3) w3
def mz {op:Operator}{g:Sto->W->W->Option D} (ho:OpD K X (qbH op) g) (N:IE K X a fa) (hb:IE K X b fb):IE K X (.BinOp a op b pos) (iOp g fa fb):=by
 refine⟨λenv st r A=>?_⟩;simp only[iOp,qab,qad]at A;obtain⟨x,R,y,hy,d,hd,rfl⟩:=A;exact (BF (ho.run _ _ _ _ hd) (N.run _ _ _ R) (hb.run _ _ _ hy)).imp λG H Q h=>qO h
def pB {op:CmpOp}{g:Sto->W->W->Option D} (ho:OpD K X (qbN op) g) (N:IE K X a fa) (hb:IE K X b fb) (hm:qfv op b=false):IE K X (.Compare a [op] [b] pos) (iOp g fa fb):=by
 refine⟨λenv st r A=>?_⟩;simp only[iOp,qab,qad]at A;obtain⟨x,R,y,hy,d,hd,rfl⟩:=A;exact (AE (ho.run _ _ _ _ hd) (N.run _ _ _ R) (hb.run _ _ _ hy) hm).imp λG H Q h=>qO h
def wy {d:D}{k:Bool} (h:iQ d=some k):d=.bl k:=by
 cases d<;>first|(cases h;done)|(injection h with h;subst h;rfl)
def q9 {d:W}{k:Bool} (h:blW d=some k):d=.d (.bl k):=by
 cases d with
 |h n=>cases h
 |d x=>cases x<;>first|(cases h;done)|(injection h with h;subst h;rfl)
def pU {op:CmpOp}{g:Sto->W->W->Option D} (ho:OpD K X (qbN op) g) (N:IE K X a fa) (hb:IE K X b fb) (hm:qfv op b=false):IT K X (.Compare a [op] [b] pos) (aB g fa fb):=by
 refine⟨λenv st r A=>?_⟩;simp only[aB,qab,qad]at A;obtain⟨x,R,y,hy,d,hd,k,hk,rfl⟩:=A;cases wy hk;refine (AR (ho.run _ _ _ _ hd) (N.run _ _ _ R) (hb.run _ _ _ hy) hm).imp λG H Q h=>?_;obtain⟨φ,E,B,q⟩:=h;refine qO ⟨φ,E,B,λv H1 z J s1 M=>⟨k,M,q H1 z J s1⟩⟩
def iR:W->Option D
 |.d (.int i)=>some (.int (-i))
 |_=>none
def my (N:IE K X a fa):IE K X (.UnaryOp .USub a pos) (iUn iR fa):=by
 refine⟨λenv st r A=>?_⟩;simp only[iUn,qab,qad]at A;obtain⟨⟨x,s1⟩,R,d,hd,rfl⟩:=A;cases x with
 |h n=>cases hd
 |d x=>
  cases x with
  |int i=>
   cases hd;refine (ER DC (N.run _ _ _ R)).imp ?_
   rintro G H Q ⟨φ,E,B,q⟩
   exact⟨φ,E,B,λv H1 z J s1 M=>⟨i,M,q _ H1 z J s1 U⟩⟩
  |_=>cases hd
def pH (N:IE K X a fa):IE K X (.UnaryOp .Not a pos) (yj fa):=by
 refine⟨λenv st r A=>?_⟩;simp only[yj,qab,qad]at A;obtain⟨x,R,k,hk,rfl⟩:=A;refine (C2 (N.run _ _ _ R)).imp ?_
 rintro G H Q ⟨φ,E,B,q⟩
 exact⟨φ,E,B,λv H1 z J s1 M=>⟨k,by rw[(q9 hk)]at M;exact M,q _ H1 z J s1 U⟩⟩
def pI {op} (h:IE K X a fa):IE K X (.BoolOp op [a] pos) fa:=⟨λenv st r A=>C3 (h.run env st r A)⟩
def pz {rest:List Expr} (N:IE K X a fa) (hb:IE K X (.BoolOp .And (b::rest) pos) fb):IE K X (.BoolOp .And (a::b::rest) pos) (om fa fb):=by
 refine⟨λenv st r A=>?_⟩;simp only[om,qab]at A;obtain⟨x,R,k,hk,A⟩:=A;have e:=q9 hk;cases k with
 |false=>
  cases A;refine (yP (N.run _ _ _ R) m7).imp ?_
  rintro G H Q ⟨φ,E,B,q⟩
  refine⟨φ,E,B,λv H1 z J s1 M=>⟨false,by rw[e]at M;exact M,?_⟩⟩;exact q _ H1 z J s1 U
 |true=>
  refine (yP (N.run _ _ _ R) (hb.run _ _ _ A)).imp ?_
  rintro G H Q ⟨φ,E,B,q⟩
  refine⟨φ,E,B,λv H1 z J s1 M=>⟨true,by rw[e]at M;exact M,?_⟩⟩;exact⟨z,E.fw B J,s1,λu H2 P Y s2 w2=>q u H2 P (J.trans Y) s2 w2⟩
variable {ta tb:Tf}
def pV (N:IT K X a ta):IT K X (.UnaryOp .Not a pos) (dC ta):=by
 refine⟨λenv st r A=>?_⟩;simp only[dC,qad]at A;obtain⟨x,R,rfl⟩:=A;refine (De (N.run _ _ _ R)).imp ?_
 rintro G H Q ⟨φ,E,B,q⟩
 exact⟨φ,E,B,λH1 z J s1=>q H1 z J s1⟩
def Cr (h:ITW K X a ta):IT K X a ta:=⟨λenv st r A=>(h.run env st r A).pt⟩
def jI (h:IT K X a ta):ITW K X (.BoolOp .And [a] pos) ta:=⟨λenv st r A=>AU (h.run env st r A)⟩
def lJ (h:IT K X a ta):ITW K X (.BoolOp .Or [a] pos) ta:=⟨λenv st r A=>Dg (h.run env st r A)⟩
def lI {rest:List Expr} (N:IT K X a ta) (hb:ITW K X (.BoolOp .And (b::rest) pos) tb):ITW K X (.BoolOp .And (a::b::rest) pos) (cC ta tb):=by
 refine⟨λenv st r A=>?_⟩;simp only[cC,qab]at A;obtain⟨⟨k,s1⟩,R,A⟩:=A;cases k with
 |false=>
  cases A;refine (zb (N.run _ _ _ R) sC).imp ?_
  rintro G H Q ⟨φ,E,B,q⟩
  refine⟨φ,E,B,λH1 z J s1=>?_⟩;exact q H1 z J s1
 |true=>
  refine (zb (N.run _ _ _ R) (hb.run _ _ _ A)).imp ?_
  rintro G H Q ⟨φ,E,B,q⟩
  refine⟨φ,E,B,λH1 z J s1=>?_⟩;exact⟨z,E.fw B J,s1,λH2 P Y s2=>q H2 P (J.trans Y) s2⟩
def pX {rest:List Expr} (N:IT K X a ta) (hb:ITW K X (.BoolOp .Or (b::rest) pos) tb):ITW K X (.BoolOp .Or (a::b::rest) pos) (cS ta tb):=by
 refine⟨λenv st r A=>?_⟩;simp only[cS,qab]at A;obtain⟨⟨k,s1⟩,R,A⟩:=A;cases k with
 |true=>
  cases A;refine (BI (N.run _ _ _ R) sC).imp ?_
  rintro G H Q ⟨φ,E,B,q⟩
  refine⟨φ,E,B,λH1 z J s1=>?_⟩;exact q H1 z J s1
 |false=>
  refine (BI (N.run _ _ _ R) (hb.run _ _ _ A)).imp ?_
  rintro G H Q ⟨φ,E,B,q⟩
  refine⟨φ,E,B,λH1 z J s1=>?_⟩;exact⟨z,E.fw B J,s1,λH2 P Y s2=>q H2 P (J.trans Y) s2⟩
def u7 {tc:Tf} (hc:IT K X c tc) (N:IE K X a fa) (hb:IE K X b fb):IE K X (.IfExp c a b pos) (eZ tc fa fb):=by
 refine⟨λenv st r A=>?_⟩;simp only[eZ,qab]at A;obtain⟨⟨k,s1⟩,R,A⟩:=A;cases k with
 |true=>
  refine (su (hc.run _ _ _ R) (N.run _ _ _ A) m7).imp ?_
  rintro G H Q ⟨φ,E,B,q⟩
  refine⟨φ,E,B,λH1 z J s1=>?_⟩;exact⟨z,E.fw B J,s1,λu H2 P Y s2 w2=>q u H2 P (J.trans Y) s2 w2⟩
 |false=>
  refine (su (hc.run _ _ _ R) m7 (hb.run _ _ _ A)).imp ?_
  rintro G H Q ⟨φ,E,B,q⟩
  refine⟨φ,E,B,λH1 z J s1=>?_⟩;exact⟨z,E.fw B J,s1,λu H2 P Y s2 w2=>q u H2 P (J.trans Y) s2 w2⟩
def cf (st:Sto):W->Option (List D)
 |.d (.tup ds)=>some ds
 |.d (.lst ds)=>some ds
 |.d (.scr ns)=>some (ns.map D.int)
 |.h n=>lg st n
 |_=>none
def sI {st:Sto}{H:Hp}{φ:List Addr}{w:W}{v:V}{ds:List D} (S:Sr K H φ st) (r:Rw K H φ w v) (e:cf st w=some ds):∃ a L,v=.ref a/\(SqL K H a L\/H a=some (.tup L))/\Rls K H φ ds L:=by
 cases w with
 |h n=>
  obtain⟨a,ea,rfl⟩:=r;obtain⟨L,q,rl⟩:=S.atl n a ds ea e;exact⟨a,L,U,.inl (SqL.of q),rl⟩
 |d x=>
  cases x with
  |tup es=>cases e;obtain⟨a,L,rfl,h1,h2⟩:=r;exact⟨a,L,U,.inr h1,h2⟩
  |lst es=>cases e;obtain⟨a,L,rfl,h0,h1,h2⟩:=r;exact⟨a,L,U,.inl (.inl h1),h2⟩
  |scr ns=>
   cases e;obtain⟨a,rfl,h⟩:=r;refine⟨a,_,U,.inl ?_,Rls.of_ints ns⟩;rcases h with⟨o,h⟩|h
   ·exact .inl (.inr ⟨o,h⟩)
   ·exact .inr h
  |_=>cases e
def gx {st:Sto}{H:Hp}{φ:List Addr}{w:W}{v:V}{ds:List D} (S:Sr K H φ st) (r:Rw K H φ w v) (e:cf st w=some ds):∃ a L,v=.ref a/\(SqL K H a L\/SqT K H a L)/\Rls K H φ ds L:=by
 obtain⟨a,L,h0,h1,h2⟩:=sI S r e;exact⟨a,L,h0,h1.imp id SqT.of,h2⟩
def dc (st:Sto):W->Option Bool
 |.d .non=>some false
 |.d (.bl b)=>some b
 |.d (.int i)=>some (i != 0)
 |w=>(cf st w).map λds=>!ds.isEmpty
def Bk {st:Sto}{H:Hp}{φ:List Addr}{w:W}{v:V}{k:Bool} (S:Sr K H φ st) (r:Rw K H φ w v) (e:dc st w=some k):zP K v H k:=by
 have seq:∀ ds,cf st w=some ds->k=!ds.isEmpty->zP K v H k:=λds h hk=>by
  obtain⟨a,L,rfl,h1,h2⟩:=gx S r h;have e':k=!L.isEmpty:=by
   rw[hk];cases ds<;>cases L<;>first|rfl|cases h2.length
  rcases h1 with h1|h1
  ·exact .inl ⟨L,h1,e'⟩
  ·exact .inr (.inl ⟨L,h1,e'⟩)
 cases w with
 |h n=>
  obtain⟨ds,h1,h2⟩:=qad.mp e;exact seq ds h1 h2.symm
 |d x=>
  cases x with
  |non=>subst r;cases e;exact U
  |bl b=>subst r;cases e;exact U
  |int i=>subst r;cases e;exact U
  |tup ds=>exact seq ds U (qaP e).symm
  |lst ds=>exact seq ds U (qaP e).symm
  |scr ds=>exact seq _ U (qaP e).symm
  |_=>cases e
def pW (N:IE K X a fa) (he:yY a=true:=by rfl) (hK:X.K=K:=by rfl):IT K X a (cL dc fa):=by
 subst hK;refine⟨λenv st r A=>?_⟩;simp only[cL,qab,qad]at A;obtain⟨x,R,k,hk,rfl⟩:=A;refine (y9 (N.run _ _ _ R) (xE he)).imp ?_
 rintro G H Q ⟨φ,E,B,q⟩
 exact⟨φ,E,B,λv H1 z J s1 M=>⟨k,Bk s1 M hk,q H1 z J s1⟩⟩
variable {af:Af}
def cc:IA K X [] ac:=by
 refine⟨λenv st r A=>?_⟩;cases A;refine qD.imp ?_
 rintro G H Q ⟨φ,E,B,q⟩
 exact q [] H φ (Fw.refl φ H) B U
def bx (N:IE K X e fa) (A:IA K X es af) (hs:ax e=true:=by rfl):IA K X (e::es) (aa fa af):=by
 refine⟨λenv st r h=>?_⟩;simp only[aa,qab,qad]at h;obtain⟨x,R,y,hy,rfl⟩:=h;refine (lP (N.run _ _ _ R) (A.run _ _ _ hy) (aP hs)).imp ?_
 rintro G H Q ⟨φ,E,B,q⟩
 refine⟨φ,E,B,λv H1 z J s1 M=>⟨z,E.fw B J,s1,λu H2 P Y s2 w2=>?_⟩⟩;exact q _ H2 P (J.trans Y) s2 ⟨v,u,U,M.fw s1 Y,w2⟩
def oq {x:Str}{id:String}{p:Pos}{g:Sto->List W->Option D} (hc:fq K X (.builtin id) g) (hg:Gl X x) (hm:X.mg x=none) (hv:qcb x=some (.builtin id)) (N:IA K X (e::es) af)
  (hn:x≠"__name__":=by decide) (hdb:(x==("__debug__" : Str))=false:=by decide) (hs:ax e=true:=by rfl) (hp:es.all ax=true:=by rfl) :
  IE K X (.Call (.Name x p) (e::es) [] pos) (iCB g af):=by
 refine⟨λenv st r A=>?_⟩;simp only[iCB,qab,qad]at A;obtain⟨y,hy,d,hd,rfl⟩:=A;refine (m6 (hc.run _ _ _ hd) hg hm hv (N.run _ _ _ hy) hn hdb (aP hs) (bq hp)).imp ?_
 rintro G H Q ⟨φ,E,B,q⟩
 exact⟨φ,E,B,λv H1 z J s1 M=>⟨z,s1,M,λu H2 Y w2=>q u H2 z (J.trans (Fw.same Y)) (s1.same Y) w2⟩⟩
def Ee {x:Str}{T:String}{p:Pos}{g:Sto->List W->Option D} (hc:fq K X (.type T) g) (hg:Gl X x) (hm:X.mg x=none) (hv:qcb x=some (.type T)) (N:IA K X (e::es) af)
  (hn:x≠"__name__":=by decide) (hdb:(x==("__debug__" : Str))=false:=by decide) (hs:ax e=true:=by rfl) (hp:es.all ax=true:=by rfl) :
  IE K X (.Call (.Name x p) (e::es) [] pos) (iCB g af):=by
 refine⟨λenv st r A=>?_⟩;simp only[iCB,qab,qad]at A;obtain⟨y,hy,d,hd,rfl⟩:=A;refine (db (hc.run _ _ _ hd) hg hm hv (N.run _ _ _ hy) hn hdb (aP hs) (bq hp)).imp ?_
 rintro G H Q ⟨φ,E,B,q⟩
 exact⟨φ,E,B,λv H1 z J s1 M=>⟨z,s1,M,λu H2 Y w2=>q u H2 z (J.trans (Fw.same Y)) (s1.same Y) w2⟩⟩
def Eg {x:Str}{id:String}{p:Pos}{g:Sto->List W->Option (List D)} (hc:nZ K X (.builtin id) g) (hg:Gl X x) (hm:X.mg x=none) (hv:qcb x=some (.builtin id)) (N:IA K X (e::es) af)
  (hn:x≠"__name__":=by decide) (hdb:(x==("__debug__" : Str))=false:=by decide) (hs:ax e=true:=by rfl) (hp:es.all ax=true:=by rfl) :
  IL K X (.Call (.Name x p) (e::es) [] pos) (iCL g af):=by
 refine⟨λenv st r A=>?_⟩;simp only[iCL,qab,qad]at A;obtain⟨y,hy,d,hd,rfl⟩:=A;refine (m6 (hc.run _ _ _ hd) hg hm hv (N.run _ _ _ hy) hn hdb (aP hs) (bq hp)).imp ?_
 rintro G H Q ⟨φ,E,B,q⟩
 exact⟨φ,E,B,λv H1 z J s1 M=>⟨z,s1,M,λa us H2 Y n2 w2=>q a us H2 z (J.trans (Fw.same Y)) (s1.same Y) n2 w2⟩⟩
def Bx {x:Str}{T:String}{p:Pos}{g:Sto->List W->Option (List D)} (hc:nZ K X (.type T) g) (hg:Gl X x) (hm:X.mg x=none) (hv:qcb x=some (.type T)) (N:IA K X (e::es) af)
  (hn:x≠"__name__":=by decide) (hdb:(x==("__debug__" : Str))=false:=by decide) (hs:ax e=true:=by rfl) (hp:es.all ax=true:=by rfl) :
  IL K X (.Call (.Name x p) (e::es) [] pos) (iCL g af):=by
 refine⟨λenv st r A=>?_⟩;simp only[iCL,qab,qad]at A;obtain⟨y,hy,d,hd,rfl⟩:=A;refine (db (hc.run _ _ _ hd) hg hm hv (N.run _ _ _ hy) hn hdb (aP hs) (bq hp)).imp ?_
 rintro G H Q ⟨φ,E,B,q⟩
 exact⟨φ,E,B,λv H1 z J s1 M=>⟨z,s1,M,λa us H2 Y n2 w2=>q a us H2 z (J.trans (Fw.same Y)) (s1.same Y) n2 w2⟩⟩
def md {H:Hp}{φ:List Addr}:∀ {ws:List W}{L:List V}{ds:List D},kf ws=some ds->Rws K H φ ws L->Rls K H φ ds L
 |[],_,_,e,h=>by cases e;exact h
 |.d x::ws,_,_,e,h=>by
  obtain⟨v,r,rfl,h1,h2⟩:=h;obtain⟨es,e1,rfl⟩:=qad.mp e;exact⟨v,r,U,h1,md e1 h2⟩
 |.h n::ws,_,_,e,h=>by cases e
def pK {x1} (h:IA K X es af):IE K X (.Tuple es x1 pos) (bh af):=by
 refine⟨λenv st r A=>?_⟩;simp only[bh,qab]at A;obtain⟨y,hy,ds,hd,A⟩:=A;split at A
 ·cases A
  rename_i hl;refine (C5 (h.run _ _ _ hy)).imp ?_
  rintro G H Q ⟨φ,E,B,q⟩
  refine⟨φ,E,B,λL H1 z J s1 M=>?_⟩;have w:=md hd M;refine⟨by rw[<-w.length];exact iN hl,λp hp=>?_⟩;exact q _ _ z (J.trans (Fw.new hp)) (s1.new hp) ⟨p,L,U,upd_same,w.fw s1 (Fw.new hp)⟩
 ·cases A
def kq (h:IA K X es af):IL K X (.List es pos) (bM af):=by
 refine⟨λenv st r A=>?_⟩;simp only[bM,qab]at A;obtain⟨y,hy,ds,hd,A⟩:=A;split at A
 ·cases A
  rename_i hl;refine (C0 (h.run _ _ _ hy)).imp ?_
  rintro G H Q ⟨φ,E,B,q⟩
  refine⟨φ,E,B,λL H1 z J s1 M=>?_⟩;have w:=md hd M;exact⟨by rw[<-w.length];exact iN hl,λp hp=>q p L H1 z J s1 hp w⟩
 ·cases A
def dM {lf:Lf} (h:IL K X e lf):IE K X e (aq lf):=by
 refine⟨λenv st r A=>?_⟩;simp only[aq,qad]at A;obtain⟨y,hy,rfl⟩:=A;refine (h.run _ _ _ hy).imp ?_
 rintro G H Q ⟨φ,E,B,q⟩
 refine⟨φ,E,B,λa L H1 z J s1 n1 M=>?_⟩;exact q _ _ z (J.trans (Fw.new n1)) (s1.new n1) ⟨a,L,U,s1.nin n1,.inl upd_same,M.fw s1 (Fw.new n1)⟩
def Sr.moreC {H:Hp}{φ:List Addr}{st:Sto}{a:Addr}{o:HO}{c:C} (S:Sr K H φ st) (n:H a=none) (w:Rc K (upd H a o) (φ++[a]) φ.length a c):Sr K (upd H a o) (φ++[a]) (st++[c]):=by
 refine⟨?_,by rw[qaz,qaz,S.len];rfl,λi b es e1 e2=>?_⟩
 ·rw[qcy]
  refine⟨S.nd,by simp,λx R y hy e=>?_⟩;rw[qao.mp hy]at e;rw[e]at R;exact S.nin n R
 ·by_cases hi:i<φ.length
  ·rw[qaE hi]at e1
   rw[qaE (by rw[<-S.len];exact hi)]at e2;exact (S.at_ i b es e1 e2).fw S ⟨⟨_,U,λb hb=>by rw[qao.mp hb];exact n⟩,λb o _ h=>aO.new n _ b o h,λb o h=>⟨o,aO.new n _ b o h⟩⟩ λo h=>aO.new n _ _ _ h
  ·have e:i=φ.length:=by
    have:=(qas.mp e1).1
    simp at this
    lia
   subst e;rw[qaK (qap _)]at e1;rw[S.len,qaK (qap _)]at e2
   simp at e1 e2
   subst e1 e2;exact w
def Fw.moreO {H:Hp}{φ:List Addr}{a:Addr}{o:HO} (n:H a=none):Fw φ (φ++[a]) H (upd H a o):=
 ⟨⟨_,U,λb hb=>by rw[qao.mp hb];exact n⟩,λb o _ h=>aO.new n _ b o h,λb o h=>⟨o,aO.new n _ b o h⟩⟩
def Fw.more {H:Hp}{φ:List Addr}{a:Addr}{L:List V} (n:H a=none):Fw φ (φ++[a]) H (upd H a (.lst L)):=Fw.moreO n
def Sr.more {H:Hp}{φ:List Addr}{st:Sto}{a:Addr}{L:List V}{ds:List D} (S:Sr K H φ st) (n:H a=none) (w:Rls K H φ ds L):Sr K (upd H a (.lst L)) (φ++[a]) (st++[.l ds]):=
 S.moreC n ⟨L,upd_same,w.fw S (Fw.moreO n)⟩
def kt {lf:Lf} (h:IL K X e lf):IE K X e (cX lf):=by
 refine⟨λenv st r A=>?_⟩;simp only[cX,qad]at A;obtain⟨y,hy,rfl⟩:=A;refine (h.run _ _ _ hy).imp ?_
 rintro G H Q ⟨φ,E,B,q⟩
 refine⟨φ,E,B,λa L H1 z J s1 n1 M=>?_⟩;exact q _ _ _ (J.trans (Fw.more n1)) (s1.more n1 M) ⟨a,by rw[<-s1.len];simp,U⟩
def spI (K:qae) (m:Fn):Sp:=λL H Q _=>∃ φ st ws r,m ws st=some r/\Rws K H φ ws L/\Sr K H φ st/\∀ v H' φ',Fw φ φ' H H'->Sr K H' φ' r.2->Rw K H' φ' r.1 v->Q v H'
def Ab {x:Str}{k j:Nat}{ff:Addr}{fd:qb5}{ps:List Str}{m:Fn}{p:Pos} (F:dG X.prog X.w X.K X.mg X.base CX0 j ff fd ps (spI K m)) (hjk:j<=k) (A:bo k X.A) (hg:Gl X x) (hm:X.mg x=some (.ref ff)) (hk:qcz X.K (.ref ff)=true) (hb:dh X.K fd ps [])
  (N:IA K X (e::es) af) (hdb:(x==("__debug__" : Str))=false:=by decide) (hs:ax e=true:=by rfl) (hp:es.all ax=true:=by rfl) :
  IE K X (.Call (.Name x p) (e::es) [] pos) (ap m af):=by
 refine⟨λenv st r h=>?_⟩;simp only[ap,qab]at h;obtain⟨y,hy,h⟩:=h;refine (vP (F.mono hjk) A hg hm hk hb .nil yO (N.run _ _ _ hy) hdb (aP hs) (bq hp)).imp ?_
 rintro G H Q ⟨φ,E,B,q⟩
 refine⟨φ,E,B,λL H1 z J s1 M=>?_⟩;show spI K m _ H1 Q E0;rw[qb0];exact⟨z,_,_,r,h,M,s1,λv H2 P Y s2 w2=>q v H2 P (J.trans Y) s2 w2⟩
end
inductive Fl where
 |nx (env:Ev) (st:Sto)|rt (w:W) (st:Sto)|bk (env:Ev) (st:Sto)|ct (env:Ev) (st:Sto)
abbrev Sf:=Ev->Sto->Option Fl
def xJ (K:qae) (φ:List Addr) (H:Hp) (D:nK):Fl->Prop
 |.nx e s=>∀ b H' a,Fw φ a H H'->Er K H' a e b->Sr K H' a s->D.nx b H'
 |.rt w s=>∀ v H' a,Fw φ a H H'->Sr K H' a s->Rw K H' a w v->D.rt v H'
 |.bk e s=>∀ b H' a,Fw φ a H H'->Er K H' a e b->Sr K H' a s->D.bk b H'
 |.ct e s=>∀ b H' a,Fw φ a H H'->Er K H' a e b->Sr K H' a s->D.ct b H'
def xJ.fw {K:qae}{φ d:List Addr}{H H1:Hp}{D:nK}{r:Fl} (h:xJ K φ H D r) (f:Fw φ d H H1):xJ K d H1 D r:=by
 cases r with
 |nx e s=>exact λb H' a c=>h b H' a (f.trans c)
 |rt w s=>exact λv H' a c=>h v H' a (f.trans c)
 |bk e s=>exact λb H' a c=>h b H' a (f.trans c)
 |ct e s=>exact λb H' a c=>h b H' a (f.trans c)
def tS (K:qae) (env:Ev) (st:Sto) (r:Fl):TS:=λD a H=>∃ φ,Er K H φ env a/\Sr K H φ st/\xJ K φ H D r
structure IS (K:qae) (X:Cx) (s:Stmt) (g:Sf):Prop where
 run:∀ env st r,g env st=some r->PS X s (tS K env st r)
structure ISs (K:qae) (X:Cx) (s:List Stmt) (g:Sf):Prop where
 run:∀ env st r,g env st=some r->PSs X s (tS K env st r)
inductive Tg where
 |nm (i:Nat)|tp (is:List Nat)|tq (i:Nat) (is:List Nat)
def rJ:Tg->List Nat
 |.nm i=>[i]
 |.tp is=>is
 |.tq i is=>i::is
def nq:List Nat->List D->Ev->Ev
 |i::is,d::ds,env=>nq is ds (env.set i (some (.d d)))
 |_,_,env=>env
def cA:Tg->W->Ev->Option Ev
 |.nm i,w,env=>some (env.set i (some w))
 |.tp is,.d (.tup ds),env=>if is.length=ds.length then some (nq is ds env) else none
 |.tp is,.d (.lst ds),env=>if is.length=ds.length then some (nq is ds env) else none
 |.tq i is,.d (.tup [d,.tup ds]),env=>if is.length=ds.length then some (nq is ds (env.set i (some (.d d)))) else none
 |_,_,_=>none
def zO (is:List Nat) (b a:St):Prop:=a.length=b.length/\∀ j,j∉is->a[j]?=b[j]?
def tG (K:qae) (g:Tg):TG:=λv c H Q=>∃ φ st env w a,Er K H φ env c/\Sr K H φ st/\Rw K H φ w v/\cA g w env=some a/\∀ b,Er K H φ a b->zO (rJ g) c b->Q b H
def tGs (K:qae) (is:List Nat):TGs:=λc b H Q=>∃ φ st env ds,Er K H φ env b/\Sr K H φ st/\Rls K H φ ds c/\is.length=ds.length/\∀ a,Er K H φ (nq is ds env) a->zO is b a->Q a H
def aH:Sf
 |env,st=>some (.nx env st)
def ae (a b:Sf):Sf
 |env,st=>(a env st).bind λr=>match r with
 |.nx e s=>b e s
 |r=>some r
def az (g:Tg) (f:Ef):Sf
 |env,st=>(f env st).bind λr=>(cA g r.1 env).map λe=>.nx e r.2
def eP (st:Sto) (o i v:W):Option Sto:=match o,i,v with
 |.h n,.d (.int k),.d x=>(lg st n).bind λds=>(ixN ds.length k).map λj=>st.set n (.l (ds.set j x))
 |_,_,_=>none
def bj (o i v:Ef):Sf
 |env,st=>(v env st).bind λb=>(o env b.2).bind λc=>(i env c.2).bind λa=>(eP a.2 c.1 a.1 b.1).map λs=>.nx env s
def aD (f:Ef):Sf
 |env,st=>(f env st).map λr=>.rt r.1 r.2
def jy (f:Ef):Sf
 |env,st=>(f env st).map λr=>.nx env r.2
def aT (c:Tf) (a b:Sf):Sf
 |env,st=>(c env st).bind λr=>if r.1=true then a env r.2 else b env r.2
def tU:Sf
 |env,st=>some (.bk env st)
def on:Sf
 |env,st=>some (.ct env st)
def cw (g:Tg) (body:Sf):List D->Ev->Sto->Option Fl
 |[],env,st=>some (.nx env st)
 |d::ds,env,st=>(cA g (.d d) env).bind λe=>(body e st).bind λr=>match r with
  |.nx e s=>cw g body ds e s
  |.ct e s=>cw g body ds e s
  |.bk e s=>some (.nx e s)
  |.rt w s=>some (.rt w s)
def eD (a:Lf) (g:Tg) (body:Sf):Sf
 |env,st=>(a env st).bind λr=>cw g body r.1 env r.2
def cB (c:Tf) (body:Sf):Nat->Ev->Sto->Option Fl
 |0,_,_=>none
 |n+1,env,st=>(c env st).bind λk=>if k.1=true then (body env k.2).bind λr=>match r with
   |.nx e s=>cB c body n e s
   |.ct e s=>cB c body n e s
   |.bk e s=>some (.nx e s)
   |.rt w s=>some (.rt w s)
  else some (.nx env k.2)
def lcI (g:Tg) (tt:Tf) (te:Ef) (env:Ev):List D->Sto->Option (List D×Sto)
 |[],st=>some ([],st)
 |d::ds,st=>(cA g (.d d) env).bind λe=>(tt e st).bind λb=>if b.1=true then (te e b.2).bind λx=>(kf [x.1]).bind λa=>(lcI g tt te env ds x.2).map λr=>(a++r.1,r.2)
   else lcI g tt te env ds b.2
def jw (k:Nat) (js:List Nat) (env:Ev):Ev:=qaG k none++js.map λj=>env.getD j none
def iLc (k:Nat) (js:List Nat) (a:Lf) (g:Tg) (tt:Tf) (te:Ef):Lf
 |env,st=>(a env st).bind λr=>if r.1.length<=1000000 then lcI g tt te (jw k js env) r.1 r.2 else none
def aK:Tf
 |_,st=>some (true,st)
def aC (f:Ef):Lf
 |env,st=>(f env st).bind λr=>match r.1 with
 |.d (.tup ds)=>some (ds,r.2)
 |.d (.lst ds)=>some (ds,r.2)
 |_=>none
def bK (lo:Int) (n:Nat):List D:=(qam n).map λk:Nat=>D.int (lo+k)
def bB (a:Af):Lf
 |env,st=>(a env st).bind λr=>match r.1 with
 |[.d (.int j)]=>if -(2^62)<=j/\j<2^62 then some (bK 0 j.toNat,r.2) else none
 |_=>none
def ci:Nat->List D->List D
 |_,[]=>[]
 |k,d::ds=>.tup [.int k,d]::ci (k+1) ds
def bQ (a:Af):Lf
 |env,st=>(a env st).bind λr=>match r.1 with
 |[.d (.tup ds)]=>some (ci 0 ds,r.2)
 |[.d (.lst ds)]=>some (ci 0 ds,r.2)
 |_=>none
section
variable {K:qae}{X:Cx}{pos:Pos}
def PS.imp {s:Stmt}{t t':TS} (h:PS X s t) (m:∀ D A H,t' D A H->t D A H):PS X s t':=λB s A H D I q=>h B s A H D I (m D A H q)
def PSs.imp {s:List Stmt}{t t':TS} (h:PSs X s t) (m:∀ D A H,t' D A H->t D A H):PSs X s t':=λB s A H D I q=>h B s A H D I (m D A H q)
def Er.set {H:Hp}{φ:List Addr}{env:Ev}{A:St} (h:Er K H φ env A) (i:Nat) {w:W}{v:V} (r:Rw K H φ w v):Er K H φ (env.set i (some w)) (A.set i (some v)):=by
 refine⟨by rw[qb6,qb6,h.len],λj w' e=>?_⟩;by_cases hj:i=j
 ·subst hj
  have hi:=by
   have:=(qas.mp e).1
   rwa [qb6]at this
  rw[qbq hi]at e;cases e;exact⟨v,by rw[qbq (by rw[<-h.len];exact hi)],r⟩
 ·rw[qbB hj]at e
  obtain⟨v',N,r1⟩:=h.at_ j w' e;exact⟨v',by rw[qbB hj];exact N,r1⟩
def zx (i:Nat) (A:St) (v:Option V):zO [i] A (A.set i v):=⟨by rw[qb6],λj hj=>by rw[qbB (by rintro rfl;simp at hj)]⟩
def jB {i:Nat}{x:Str} (h:PG X (.Name x pos) (rE i)):PG X (.Name x pos) (tG K (.nm i)):=by
 intro B s A H v u Q I P q;obtain⟨φ,st,env,w,env',E,G,r,e,q⟩:=q;cases e;exact h B s A H v u Q I P (q _ (E.set i r) (zx i A _))
def jC:PGs X [] (tGs K []):=by
 intro B s A H Y us Q I P q;obtain⟨φ,st,env,ds,E,G,r,e,q⟩:=q;cases ds with
 |nil=>cases r;exact AH B s A H [] us Q I P ⟨U,q A E ⟨U,λ_ _=>rfl⟩⟩
 |cons _ _=>cases e
def fG {i:Nat}{is:List Nat}{x:Str}{es:List Expr} (h1:PG X (.Name x pos) (rE i)) (h2:PGs X es (tGs K is)):PGs X (.Name x pos::es) (tGs K (i::is)):=by
 intro B s A H Y us Q I P q;obtain⟨φ,st,env,ds,E,G,r,e,q⟩:=q;cases ds with
 |nil=>cases e
 |cons d ds=>
  obtain⟨v,vr,rfl,r1,r2⟩:=r;refine yS h1 h2 (uK U) B s A H _ us Q I P ⟨v,vr,U,φ,st,_,ds,E.set i (w:=.d d) r1,G,r2,by simpa using e,λσ' O s'=>q σ' O ?_⟩;refine⟨by rw[s'.1,qb6],λj hj=>?_⟩;rw[s'.2 j (λz=>hj (qak _ z)),qbB (by rintro rfl;exact hj qaf)]
def FE (K:qae) (n:Nat) (t:TGs):TG:=λv A H Q=>∃ a xs,v=.ref a/\SqL K H a xs/\xs.length=n/\t xs A H Q
def C6 {es:List Expr}{k:Nat}{t:TGs}{n:Nat} (hc:X.calm=true) (h:PGs X es t) (hn:(qbY es X.env).length=n) (hst:(qbY es X.env).findIdx? (·.1)=none):PG X (.Tuple es k pos) (FE X.K n t):=by
 intro B s A H v u Q I r hw;obtain⟨a,xs,N,hq,T,hw⟩:=hw;subst N;cases r;obtain⟨its,P,p,hz⟩:=I.list hq;refine qac (qfp ?_);unfold unpack;rw[show (qbY es X.env).length=its.toArray.size by simp[hn,<-T,P.length],hst];refine qac (qct (PySem.W.kun_itemsOf (I.ok.hd hc) p.isList λh' hx=>?_));exact h B _ A H xs _ Q (I.kept λb o e=>hx b o (qaF (qaw e)) e) (by simpa using P) hw
def mB {es:List Expr}{k n:Nat}{is:List Nat} (h:PGs X es (tGs K is)) (hes:es.all ax=true:=by rfl) (hn:es.length=n:=by rfl) (hi:is.length=n:=by rfl) (hc:X.calm=true:=by rfl) (hK:X.K=K:=by rfl):PG X (.Tuple es k pos) (tG K (.tp is)):=by
 intro B s A H v u Q I P q;obtain⟨φ,st,env,w,env',E,G,r,e,q⟩:=q;cases w with
 |h n=>cases e
 |d x=>
  cases x with
  |tup ds=>
   have O:(if is.length=ds.length then some _ else none)=some env':=e;by_cases T:is.length=ds.length
   ·rw[iFP T]at O
    cases O;obtain⟨a,Y,rfl,hq,F⟩:=r;exact C7 hc h ((oM hes).trans hn) (lZ hes) B s A H _ u Q I P ⟨a,Y,U,(SqT.of hq),by rw[<-F.length,<-T,hi],φ,st,env,ds,E,G,F,T,q⟩
   ·rw[iFN T]at O
    cases O
  |lst ds=>
   have O:(if is.length=ds.length then some _ else none)=some env':=e;by_cases T:is.length=ds.length
   ·rw[iFP T]at O
    cases O;obtain⟨a,Y,rfl,_,hq,F⟩:=r;exact C6 hc h ((oM hes).trans hn) (lZ hes) B s A H _ u Q I P ⟨a,Y,U,.inl hq,by rw[<-F.length,<-T,hi],φ,st,env,ds,E,G,F,T,q⟩
   ·rw[iFN T]at O
    cases O
  |_=>cases e
variable {s:Stmt}{ss rest:List Stmt}{e a b c:Expr}{ga gb:Sf}{f fa fb fc:Ef}
def lF:ISs K X [] aH:=by
 refine⟨λenv st r F=>?_⟩;cases F;exact AQ.imp λD A H ⟨φ,E,G,q⟩=>q A H φ (Fw.refl φ H) E G
def lG (h:IS K X s ga):ISs K X [s] ga:=⟨λenv st r F=>vU (h.run env st r F)⟩
def jH (h1:IS K X s ga) (h2:ISs K X rest gb):ISs K X (s::rest) (ae ga gb):=by
 refine⟨λenv st r F=>?_⟩;simp only[ae,qab]at F;obtain⟨r1,N,F⟩:=F;cases r1 with
 |nx e s1=>
  refine (dm (h1.run _ _ _ N) (h2.run _ _ _ F)).imp ?_
  rintro D A H ⟨φ,E,G,q⟩
  exact⟨φ,E,G,λσ' H' φ' f' O s'=>⟨φ',O,s',q.fw f'⟩⟩
 |rt w s1=>
  cases F;exact (dm (h1.run _ _ _ N) fO).imp λD A H ⟨φ,E,G,q⟩=>⟨φ,E,G,q⟩
 |bk w s1=>
  cases F;exact (dm (h1.run _ _ _ N) fO).imp λD A H ⟨φ,E,G,q⟩=>⟨φ,E,G,q⟩
 |ct w s1=>
  cases F;exact (dm (h1.run _ _ _ N) fO).imp λD A H ⟨φ,E,G,q⟩=>⟨φ,E,G,q⟩
def pS {i:Nat}{x:Str}{pos':Pos} (hN:X.N.Nodup) (hi:X.N[i]?=some x) (hx:Loc X.env.scope x) (he:IE K X e f) (hs:qcu e (some (.Name x pos')) pos.line X.env=pure false:=by rfl) (hf:X.fn x=true\/X.env.scope.names.lookup x=some .local:=by first|exact .inl U|exact .inr U|assumption) :
  IS K X (.Assign [.Name x pos'] e pos) (az (.nm i) f):=by
 refine⟨λenv st r F=>?_⟩;simp only[az,cA,qab,qad]at F;obtain⟨y,hy,O,ee,rfl⟩:=F;cases ee;refine (Dd hN hi hx (he.run _ _ _ hy) hs hf).imp ?_
 rintro D A H ⟨φ,E,G,q⟩
 exact⟨φ,E,G,λv H1 L M s1 w1=>q _ H1 L M ((E.fw G M).set i w1) s1⟩
def Sr.putC {H:Hp}{φ:List Addr}{st:Sto}{n:Nat}{a:Addr}{o:HO}{c:C} (S:Sr K H φ st) (hn:φ[n]?=some a) (w:Fw φ φ H (upd H a o)->Rc K (upd H a o) φ n a c) :
  Fw φ φ H (upd H a o)/\Sr K (upd H a o) φ (st.set n c):=by
 have f:Fw φ φ H (upd H a o):=⟨⟨[],by simp,by simp⟩,λb o hb h=>by rw[upd_ne (λz=>hb (by rw[z];exact (qb2 hn)))];exact h,λb o h=>by
  by_cases z:b=a
  ·subst z;exact⟨_,upd_same⟩
  ·exact⟨o,by rw[upd_ne z];exact h⟩⟩
 refine⟨f,S.nd,by rw[qb6];exact S.len,λm b es N e2=>?_⟩;by_cases hm:n=m
 ·subst hm
  rw[N]at hn;cases hn;have T:n<st.length:=by rw[<-S.len];exact (qas.mp N).1
  rw[qbq T]at e2;cases e2;exact w f
 ·rw[qbB hm]at e2
  have hne:b≠a:=by
   rintro rfl
   obtain⟨h1,h1'⟩:=qas.mp hn;obtain⟨h2,h2'⟩:=qas.mp N;exact hm ((qdE S.nd).mp (h1'.trans h2'.symm))
  exact (S.at_ m b es N e2).fw S f λo h=>by rw[upd_ne hne];exact h
def Sr.put {H:Hp}{φ:List Addr}{st:Sto}{n:Nat}{a:Addr}{Y:List V}{ds:List D} (S:Sr K H φ st) (hn:φ[n]?=some a) (w:Rls K H φ ds Y) :
  Fw φ φ H (upd H a (.lst Y))/\Sr K (upd H a (.lst Y)) φ (st.set n (.l ds)):=S.putC hn λf=>⟨Y,upd_same,w.fw S f⟩
def uA {st s':Sto}{o i v:W} (h:eP st o i v=some s'):∃ n k x ds j,o=.h n/\i=.d (.int k)/\v=.d x/\lg st n=some ds/\ixN ds.length k=some j/\s'=st.set n (.l (ds.set j x)):=by
 unfold eP at h;split at h
 ·obtain⟨ds,N,h⟩:=qab.mp h
  obtain⟨j,e2,h⟩:=qad.mp h;exact⟨_,_,_,ds,j,U,U,U,N,e2,h.symm⟩
 ·cases h
def jF {tpos:Pos} (ho:IE K X a fa) (hi:IE K X b fb) (hv:IE K X e f) (hb:qE b=true:=by rfl) (hs:qfs [.Subscript a b tpos] e pos.line X.env=pure false:=by rfl) (hw:qft [.Subscript a b tpos] e X.env=pure none:=by rfl) :
  IS K X (.Assign [.Subscript a b tpos] e pos) (bj fa fb f):=by
 refine⟨λenv st r F=>?_⟩;simp only[bj,qab,qad]at F;obtain⟨P,ev,ro,eo,ri,ei,s',es,rfl⟩:=F;refine (uw (hv.run _ _ _ ev) (ur (ho.run _ _ _ eo) (hi.run _ _ _ ei) nu (oO hb)) hs hw (oN U)).imp ?_
 rintro D A H ⟨φ,E,G,q⟩
 refine⟨φ,E,G,λv H1 L M s1 w1=>⟨L,E.fw G M,s1,λo H2 φ2 f2 s2 w2=>⟨φ2,(E.fw G M).fw s1 f2,s2,λi H3 φ3 f3 s3 w3=>?_⟩⟩⟩;obtain⟨ro1,ro2⟩:=ro;obtain⟨rv1,rv2⟩:=P;obtain⟨ri1,ri2⟩:=ri;obtain⟨n,k,x,ds,j,rfl,rfl,rfl,eds,ej,rfl⟩:=uA es;obtain⟨p,ep,rfl⟩:=(w2.fw s2 f3);obtain⟨Y,hp,rl⟩:=s3.atl n p ds ep eds;subst w3;obtain⟨f4,s4⟩:=s3.put ep (Rls.set j rl ((w1.fw s1 f2).fw s2 f3));refine⟨p,Y,k,j,U,U,hp,by rw[<-rl.length];exact ej,?_⟩;exact q _ _ φ3 (((M.trans f2).trans f3).trans f4) ((((E.fw G M).fw s1 f2).fw s2 f3).fw s3 f4) s4
def pR (h:IE K X e f):IS K X (.Return (some e) pos) (aD f):=by
 refine⟨λenv st r F=>?_⟩;simp only[aD,qad]at F;obtain⟨y,hy,rfl⟩:=F;exact (Dc (h.run _ _ _ hy)).imp λD A H ⟨φ,E,G,q⟩=>⟨φ,E,G,q⟩
def lB (h:IE K X e f) (hs:qcu e none pos.line X.env=pure false:=by rfl):IS K X (.Expr e pos) (jy f):=by
 refine⟨λenv st r F=>?_⟩;simp only[jy,qad]at F;obtain⟨y,hy,rfl⟩:=F;exact (AO (h.run _ _ _ hy) hs).imp λD A H ⟨φ,E,G,q⟩=>⟨φ,E,G,λv H1 L M s1 w1=>q A H1 L M (E.fw G M) s1⟩
def vh {tc:Tf}{sa sb:List Stmt} (hc:IT K X c tc) (ha:ISs K X sa ga) (hb:ISs K X sb gb):IS K X (.If c sa sb pos) (aT tc ga gb):=by
 refine⟨λenv st r F=>?_⟩;simp only[aT,qab]at F;obtain⟨⟨k,s1⟩,hx,F⟩:=F;cases k with
 |true=>
  refine (BG (hc.run _ _ _ hx) (ha.run _ _ _ F) fO).imp ?_
  rintro D A H ⟨φ,E,G,q⟩
  refine⟨φ,E,G,λH1 L M s1=>Cq ?_⟩;exact⟨L,E.fw G M,s1,q.fw M⟩
 |false=>
  refine (BG (hc.run _ _ _ hx) fO (hb.run _ _ _ F)).imp ?_
  rintro D A H ⟨φ,E,G,q⟩
  refine⟨φ,E,G,λH1 L M s1=>Cp ?_⟩;exact⟨L,E.fw G M,s1,q.fw M⟩
def jE:IS K X (.Break pos) tU:=by
 refine⟨λenv st r F=>?_⟩;cases F;exact y4.imp λD A H ⟨φ,E,G,q⟩=>q A H φ (Fw.refl φ H) E G
def lA:IS K X (.Continue pos) on:=by
 refine⟨λenv st r F=>?_⟩;cases F;exact sA.imp λD A H ⟨φ,E,G,q⟩=>q A H φ (Fw.refl φ H) E G
def Fa (K:qae) (g:Sf):TS:=λD A H=>∃ env st r,g env st=some r/\tS K env st r D A H
def BQ (K:qae) (f:Ef):TE:=λA H Q=>∃ env st r,f env st=some r/\tI K env st r A H Q
def zz (K:qae) (f:Tf):TT:=λA H Q=>∃ env st r,f env st=some r/\tIT K env st r A H Q
def ISs.any (h:ISs K X ss ga):PSs X ss (Fa K ga):=λB s A H D I ⟨env,st,r,e,q⟩=>h.run env st r e B s A H D I q
def IE.any (h:IE K X e f):PE X e (BQ K f):=λB s A H D I ⟨env,st,r,e,q⟩=>h.run env st r e B s A H D I q
def IT.any {tf:Tf} (h:IT K X e tf):PT X e (zz K tf):=λB s A H D I ⟨env,st,r,e,q⟩=>h.run env st r e B s A H D I q
def Yl (K:qae) (φ0:List Addr) (H0:Hp) (J:It) (ds:List D):Prop:=∀ (H:Hp) (φ:List Addr) (st:Sto) (i:Nat),Fw φ0 φ H0 H->Sr K H φ st->
 (∀ d,ds[i]?=some d->J.go i H/\∀ x H',J.yld i H x H'->aO H H'/\Rl K H' φ d x)/\(ds.length=i->J.stop i H)
def tII (K:qae) (env:Ev) (st:Sto) (r:List D×Sto):TI:=λA H R=>∃ φ,Er K H φ env A/\Sr K H φ st/\∀ J H' φ',Fw φ φ' H H'->Sr K H' φ' r.2->Yl K φ' H' J r.1->R J H'
structure II (K:qae) (X:Cx) (tg iter:Expr) (f:Lf):Prop where
 run:∀ env st r,f env st=some r->PI X tg iter (tII K env st r)
def PI.imp {tg iter:Expr}{t t':TI} (h:PI X tg iter t) (m:∀ A H R,t' A H R->t A H R):PI X tg iter t':=λB s A H R I q=>h B s A H R I (m A H R q)
variable {tg:Expr}
end
section
variable {K:qae}{X:Cx}{pos:Pos}{tg e a b:Expr}{f:Ef}{af:Af}
def mC (h:IE K X e f) (hK:X.K=K:=by rfl):II K X tg e (aC f):=by
 subst hK;refine⟨λenv st r B=>?_⟩;simp only[aC,qab]at B;obtain⟨⟨w,s1⟩,hy,B⟩:=B;dsimp only at B;split at B
 ·rename_i ds
  cases B;refine (C8 (h.run _ _ _ hy)).imp ?_
  rintro G H R ⟨φ,W,N,q⟩
  refine⟨φ,W,N,λv H1 E f1 s1 w1=>?_⟩;obtain⟨a,P,rfl,hq,B⟩:=w1;refine⟨a,U,⟨P,(SqT.of hq)⟩,q _ H1 E f1 s1 λH2 u O i f2 s2=>?_⟩;have hq2:=(SqT.of hq).fw s1 f2;have hr2:=B.fw s1 f2;refine⟨λd hd=>?_,λhi=>⟨P,hq2,by rw[<-hr2.length];exact qdC hi⟩⟩;obtain⟨v,ev,rv⟩:=hr2.get hd;refine⟨⟨P,v,hq2,ev⟩,λx H' y=>?_⟩;obtain⟨rfl,y⟩:=y
  have:=y P hq2
  rw[ev]at this;cases this;exact⟨aO.refl _,rv⟩
 ·rename_i ds
  cases B;refine (AI (h.run _ _ _ hy)).imp ?_
  rintro G H R ⟨φ,W,N,q⟩
  refine⟨φ,W,N,λv H1 E f1 s1 w1=>?_⟩;obtain⟨a,P,rfl,h0,hq,B⟩:=w1;refine⟨a,U,⟨P,.inl hq⟩,q _ H1 E f1 s1 λH2 u O i f2 s2=>?_⟩;have hq2:SqL X.K H2 a P:=.inl (hq.fw f2 h0);have hr2:=B.fw s1 f2;refine⟨λd hd=>?_,λhi=>⟨P,hq2,by rw[<-hr2.length];exact qdC hi⟩⟩;obtain⟨v,ev,rv⟩:=hr2.get hd;refine⟨⟨P,v,hq2,ev⟩,λx H' y=>?_⟩;obtain⟨rfl,y⟩:=y
  have:=y P hq2
  rw[ev]at this;cases this;exact⟨aO.refl _,rv⟩
 all_goals cases B
def sH (lo:Int) (n i:Nat):(bK lo n)[i]?=if i<n then some (.int (lo+i)) else none:=by
 unfold bK;rw[qay];by_cases h:i<n
 ·rw[qbf h,iFP h];rfl
 ·rw[qaD (by simpa using h),iFN h];rfl
def cj (lo:Int) (n:Nat):(bK lo n).length=n:=by unfold bK;rw[qag,qat]
def DG (lo:Int) (n:Nat) {φ:List Addr}{H:Hp}:Yl K φ H (Itr lo n) (bK lo n):=by
 intro H2 u O i f2 s2;refine⟨λd hd=>?_,λhi=>by rw[cj]at hi;exact qdC hi⟩;rw[sH]at hd;by_cases h:i<n
 ·rw[iFP h]at hd
  cases hd;refine⟨h,λx H' y=>?_⟩;obtain⟨rfl,rfl⟩:=y;exact⟨aO.refl _,U⟩
 ·rw[iFN h]at hd;cases hd
def lw {p:Pos} (hg:Gl X "range") (hm:X.mg "range" = none) (ha:IA K X [a] af) (hs:ax a=true:=by rfl):II K X tg (.Call (.Name "range" p) [a] [] pos) (bB af):=by
 refine⟨λenv st r B=>?_⟩;simp only[bB,qab]at B;obtain⟨⟨ws,s1⟩,hy,B⟩:=B;dsimp only at B;split at B
 case h_2=>cases B
 rename_i j;have L:(if -(2^62)<=j/\j<2^62 then some (bK 0 j.toNat,s1) else none)=some r:=B;by_cases hj:-(2^62)<=j/\j<2^62
 ·rw[iFP hj]at L
  cases L;refine (xo hg hm (ha.run _ _ _ hy) (ii hs)).imp ?_
  rintro G H R ⟨φ,W,N,q⟩
  refine⟨φ,W,N,λP H1 E f1 s1 w1=>?_⟩;obtain⟨v,r,rfl,r1,rfl⟩:=w1;exact⟨j,by rw[show v=.int j from r1],hj.1,hj.2,q _ H1 E f1 s1 (DG 0 _)⟩
 ·rw[iFN hj]at L;cases L
def dQ:∀ (ds:List D) (k i:Nat),(ci k ds)[i]?=(ds[i]?).map λd=>D.tup [.int ((k+i:Nat):Int),d]
 |[],k,i=>by simp[ci]
 |d::ds,k,0=>by simp[ci]
 |d::ds,k,i+1=>by
  have:=dQ ds (k+1) i
  rw[show k+1+i=k+(i+1) by lia]at this;simpa [ci] using this
def kh:∀ (ds:List D) (k:Nat),(ci k ds).length=ds.length
 |[],_=>rfl
 |d::ds,k=>by rw[ci,qan,qan,kh ds]
def wp {S:Hp->List V->Prop}{ds:List D}{P:List V}{φ:List Addr}{H:Hp} (N:∀ H' Y,Fw φ Y H H'->S H' P) (B:∀ H' Y,Fw φ Y H H'->Rls K H' Y ds P):Yl K φ H (Ite S) (ci 0 ds):=by
 intro H2 u O i f2 s2;have q2:=N H2 u f2;have r2:=B H2 u f2;refine⟨λd hd=>?_,λhi=>⟨P,q2,by rw[<-r2.length,<-kh ds 0];exact hi⟩⟩;rw[dQ,qad]at hd;obtain⟨d',hd',rfl⟩:=hd;obtain⟨v,ev,rv⟩:=r2.get hd';refine⟨⟨P,v,q2,ev⟩,λx H' y=>?_⟩;obtain⟨T,v',y1,hT,rfl,rfl⟩:=y
 have:=y1 P q2
 rw[ev]at this;cases this;refine⟨aO.new hT _,T,_,U,upd_same,_,_,U,?_,_,_,U,rv.fw s2 (Fw.new hT),U⟩;show V.int _=V.int _;rw[qaR]
def lv {elts:List Expr}{k:Nat}{tpos p:Pos} (hg:Gl X "enumerate") (hm:X.mg "enumerate" = none) (ha:IA K X [a] af) (hs:ax a=true:=by rfl) (hK:X.K=K:=by rfl) :
  II K X (.Tuple elts k tpos) (.Call (.Name "enumerate" p) [a] [] pos) (bQ af):=by
 subst hK;refine⟨λenv st r B=>?_⟩;simp only[bQ,qab]at B;obtain⟨⟨ws,s1⟩,hy,B⟩:=B;dsimp only at B;split at B
 ·rename_i ds
  cases B;refine (yU hg hm (ha.run _ _ _ hy) (ii hs)).imp ?_
  rintro G H R ⟨φ,W,N,q⟩
  refine⟨φ,W,N,λP H1 E f1 s1 w1=>?_⟩;obtain⟨v,r,rfl,⟨a,us,rfl,hq,B⟩,rfl⟩:=w1;exact⟨a,U,⟨us,(SqT.of hq)⟩,q _ H1 E f1 s1 (wp (λH' Y f=>(SqT.of hq).fw s1 f) λH' Y f=>B.fw s1 f)⟩
 ·rename_i ds
  cases B;refine (yT hg hm (ha.run _ _ _ hy) (ii hs)).imp ?_
  rintro G H R ⟨φ,W,N,q⟩
  refine⟨φ,W,N,λP H1 E f1 s1 w1=>?_⟩;obtain⟨v,r,rfl,⟨a,us,rfl,h0,hq,B⟩,rfl⟩:=w1;exact⟨a,U,⟨us,.inl hq⟩,q _ H1 E f1 s1 (wp (λH' Y f=>.inl (hq.fw f h0)) λH' Y f=>B.fw s1 f)⟩
 all_goals cases B
def pQ {iter:Expr}{body:List Stmt}{fi:Lf}{g:Tg}{gb:Sf} (hi:II K X tg iter fi) (hg:PG X tg (tG K g)) (hb:ISs K X body gb) (hp:qhq (model X.prog X.w) X.A X.env X.xe) (hc:X.calm=true:=by rfl)
  (hs:∀ x,qbX iter X.env x=pure x:=by intro _;rfl):IS K X (.For tg iter body [] pos) (eD fi g gb):=by
 refine⟨λenv st r B=>?_⟩;simp only[eD,qab]at B;obtain⟨⟨ds,s1⟩,hy,B⟩:=B;refine (Db hp hc (hi.run _ _ _ hy) hg hb.any hs).imp ?_
 rintro D G H ⟨φ,W,N,q⟩
 refine⟨φ,W,N,λJ H1 E f1 S1 yl=>?_⟩;refine⟨λi m G H=>m=ds.length - i/\i<=ds.length/\∃ env st u,Fw E u H1 H/\Er K H u env G/\Sr K H u st/\cw g gb (ds.drop i) env st=some r,⟨ds.length,by simp,qcl _,env,s1,E,Fw.refl _ _,W.fw N f1,S1,B⟩,?_⟩
 rintro i m G H2 ⟨rfl,hi,env2,O,u,f2,e2,S2,h2⟩
 obtain⟨y1,y2⟩:=yl H2 u O i f2 S2;by_cases hlt:i<ds.length
 ·obtain⟨go,yld⟩:=y1 ds[i] (qal hlt)
  rw[qcY hlt]at h2;simp only[cw,qab]at h2;obtain⟨e3,he3,r3,hr3,h3⟩:=h2;refine .inr ⟨go,λσ' H'=>i+1<=ds.length/\∃ env st u,Fw E u H1 H'/\Er K H' u env σ'/\Sr K H' u st/\cw g gb _ env st=some r,λσ' H' ⟨hn,p'⟩=>⟨_,by lia,U,hn,p'⟩,λx H' y=>?_⟩;obtain⟨sm,rx⟩:=yld x H' y;have S3:=S2.same sm;have f3:=f2.trans (Fw.same sm);refine⟨u,O,env2,.d ds[i],e3,e2.fw S2 (Fw.same sm),S3,rx,he3,λσ' e' _=>?_⟩;refine⟨e3,O,r3,hr3,u,e',S3,?_⟩;cases r3 with
  |nx e4 s4=>exact λσ4 H4 F f4 e4' M=>⟨hlt,e4,s4,F,f3.trans f4,e4',M,h3⟩
  |ct e4 s4=>exact λσ4 H4 F f4 e4' M=>⟨hlt,e4,s4,F,f3.trans f4,e4',M,h3⟩
  |bk e4 s4=>
   cases h3;exact λσ4 H4 F f4 e4' M=>q σ4 H4 F (f1.trans (f3.trans f4)) e4' M
  |rt w s4=>
   cases h3;exact λv H4 F f4 M w4=>q v H4 F (f1.trans (f3.trans f4)) M w4
 ·have hi':i=ds.length:=by lia
  subst hi';rw[qhw]at h2;cases h2;exact .inl ⟨y2 U,q G H2 u (f1.trans f2) e2 S2⟩
def tW (n:Nat) (c:Tf) (b:Sf):Sf
 |env,st=>cB c b n env st
def jG {c:Expr}{body:List Stmt}{tc:Tf}{gb:Sf} (n:Nat) (hc:IT K X c tc) (hb:ISs K X body gb) (hp:qhq (model X.prog X.w) X.A X.env X.xe):IS K X (.While c body [] pos) (tW n tc gb):=by
 refine⟨λenv st r B=>?_⟩;refine (y8 hp hc.any hb.any).imp ?_
 rintro D G H ⟨φ,W,N,q⟩
 refine⟨λm G H'=>∃ env st u,Fw φ u H H'/\Er K H' u env G/\Sr K H' u st/\cB tc gb m env st=some r,⟨n,env,st,φ,Fw.refl _ _,W,N,B⟩,?_⟩
 rintro m G H2 ⟨env2,O,u,f2,e2,S2,h2⟩
 cases m with
 |zero=>cases h2
 |succ m=>
  simp only[cB,qab]at h2;obtain⟨⟨k,s3⟩,hk,h2⟩:=h2;refine⟨env2,O,_,hk,u,e2,S2,λH3 φ3 f3 S3=>?_⟩;cases k with
  |false=>
   cases h2;exact Cp (q G H3 φ3 (f2.trans f3) (e2.fw S2 f3) S3)
  |true=>
   simp only[if_true,qab]at h2;obtain⟨r3,hr3,h3⟩:=h2;refine Cq ⟨_,λσ' H' p'=>⟨m,qb3 _,p'⟩,?_⟩;refine⟨env2,s3,r3,hr3,φ3,e2.fw S2 f3,S3,?_⟩;have f3':=f2.trans f3;cases r3 with
   |nx e4 s4=>exact λσ4 H4 F f4 e4' M=>⟨e4,s4,F,f3'.trans f4,e4',M,h3⟩
   |ct e4 s4=>exact λσ4 H4 F f4 e4' M=>⟨e4,s4,F,f3'.trans f4,e4',M,h3⟩
   |bk e4 s4=>
    cases h3;exact λσ4 H4 F f4 e4' M=>q σ4 H4 F (f3'.trans f4) e4' M
   |rt w s4=>
    cases h3;exact λv H4 F f4 M w4=>q v H4 F (f3'.trans f4) M w4
structure ITs (K:qae) (X:Cx) (ifs:List Expr) (t:Tf):Prop where
 run:PTs X ifs (zz K t)
def iD:ITs K X [] aK:=by
 refine⟨λpins s G H Q I ⟨env,st,r,e,φ,W,N,q⟩=>?_⟩;cases e;exact AS pins s G H Q I (q H φ (Fw.refl φ H) N)
def lH {c:Expr}{t:Tf} (h:IT K X c t):ITs K X [c] t:=⟨AT h.any⟩
def Er.emb {H:Hp}{φ:List Addr}{env:Ev}{G:St} (h:Er K H φ env G) (k:Nat) (js:List Nat):Er K H φ (jw k js env) (fz k js G):=by
 refine⟨by unfold jw fz;simp,λi w e=>?_⟩;unfold jw at e;unfold fz;by_cases hi:i<k
 ·rw[qaE (by simpa using hi),qdg,iFP hi]at e
  cases e
 ·rw[qaK (by simpa using hi),qcO,qay,qad]at e
  obtain⟨j,ej,e⟩:=e;have ej2:env[j]?=some (some w):=by
   rw[qfD]at e;cases q:env[j]? with
   |none=>rw[q]at e;cases e
   |some o=>rw[q]at e;rw[show o=some w from e]
  obtain⟨v,ev,rv⟩:=h.at_ j w ej2;refine⟨v,?_,rv⟩;rw[qaK (by simpa using hi),qcO,qay,ej];show some ((G[j]?).getD none)=_;rw[ev];rfl
def Sub.stay {k:Nat}{js is:List Nat}{G σ':St} (h:zO is (fz k js G) σ') (hi:∀ j∈is,j<k):Sub (fz k js G) σ':=by
 refine⟨h.1.symm,λj v e=>?_⟩;by_cases hj:j∈is
 ·have:=hi j hj
  unfold fz at e;rw[qaE (by simpa using this),qdg,iFP this]at e;cases e
 ·rw[h.2 j hj];exact e
def ud {k:Nat}{js:List Nat}{g:Tg}{tt:Tf}{te:Ef}{env:Ev}{st s1:Sto}{ds:List D}{r:List D×Sto} (hgi:∀ j∈rJ g,j<k) (hdl:ds.length<=1000000) (L:lcI g tt te (jw k js env) ds s1=some r) :
  ∀ G H Q,tIL K env st r G H Q->tLc (fz k js) (tII K env st (ds,s1)) (tG K g) (zz K tt) (BQ K te) G H Q:=by
 rintro G H Q ⟨φ,W,N,q⟩
 refine⟨φ,W,N,λJ H1 E f1 S1 yl=>?_⟩;refine⟨λi m ys H2=>m=ds.length - i/\i<=ds.length/\∃ st u es r2,Fw E u H1 H2/\Sr K H2 u st/\Rls K H2 u es ys/\es.length<=i/\lcI g tt te _ (ds.drop i) st=some r2/\r=(es++r2.1,r2.2),⟨ds.length,by simp,qcl _,s1,E,[],r,Fw.refl _ _,S1,U,qap _,L,U⟩,?_⟩
 rintro i m ys H2 ⟨rfl,hi,O,u,es,r2,f2,S2,rl2,hle,h2,rfl⟩
 obtain⟨y1,y2⟩:=yl H2 u O i f2 S2;by_cases hlt:i<ds.length
 ·obtain⟨go,yld⟩:=y1 ds[i] (qal hlt)
  rw[qcY hlt]at h2;simp only[lcI,qab]at h2;obtain⟨e3,he3,⟨kb,s3⟩,hb3,h3⟩:=h2;have hz:ys.length<qaJ:=by
   rw[<-rl2.length]
   have:=qdj
   lia
  refine .inr ⟨go,hz,λys' H'=>i+1<=ds.length/\∃ st u es' r2',Fw E u H1 H'/\Sr K H' u st/\Rls K H' u es' ys'/\es'.length<=i+1/\lcI g tt te _ _ st=some r2'/\(es++r2.1,r2.2)=(es'++r2'.1,r2'.2),λys' H' ⟨hn,p'⟩=>⟨_,by lia,U,hn,p'⟩,λx H' y=>?_⟩;obtain⟨sm,rx⟩:=yld x H' y;have S3:=S2.same sm;have f3:=f2.trans (Fw.same sm);refine⟨u,O,_,.d ds[i],e3,((W.fw N f1).emb k js).fw S1 f3,S3,rx,he3,λσ' e' stay=>⟨Sub.stay stay hgi,?_⟩⟩;refine⟨e3,O,_,hb3,u,e',S3,λH4 F f4 S4=>?_⟩;cases kb with
  |false=>
   exact Cp ⟨hlt,s3,F,es,r2,f3.trans f4,S4,(rl2.fw S2 (Fw.same sm)).fw S3 f4,by lia,h3,U⟩
  |true=>
   simp only[if_true,qab,qad]at h3;obtain⟨x5,hx5,zs,hzs,r5,hr5,rfl⟩:=h3;refine Cq ⟨e3,s3,x5,hx5,F,e'.fw S3 f4,S4,λv H5 φ5 f5 S5 w5=>?_⟩;obtain⟨x5,s5⟩:=x5;cases x5 with
   |h n=>cases hzs
   |d z=>
    cases hzs;refine⟨hlt,s5,φ5,es++[z],r5,(f3.trans f4).trans f5,S5,(((rl2.fw S2 (Fw.same sm)).fw S3 f4).fw S4 f5).append ⟨v,_,U,w5,U⟩,by simp;lia,hr5,?_⟩
    simp
 ·have hi':i=ds.length:=by lia
  subst hi';rw[qhw]at h2;cases h2;refine .inl ⟨y2 U,λDn hD=>?_⟩
  have:=q Dn ys H2 u (f1.trans f2) S2 hD
  exact this (by simpa using rl2)
def yn {A:Scope}{Nc:List Str}{k:Nat}{js:List Nat}{elt iter:Expr}{ifs:List Expr}{fi:Lf}{g:Tg}{tt:Tf}{te:Ef}
  (S:dH X A Nc (fz k js)) (hc:X.calm=true) (hgi:∀ j∈rJ g,j<k) (hi:II K X tg iter fi)
  (hg:∀ l s H C fp,PG (lcX X A l Nc s H C fp) tg (tG K g)) (ht:∀ l s H C fp,ITs K (lcX X A l Nc s H C fp) ifs tt) (he:∀ l s H C fp,IE K (lcX X A l Nc s H C fp) elt te)
  (hs:∀ x,qbX iter X.env x=pure x:=by intro _;rfl):IL K X (.ListComp elt [⟨tg,iter,ifs,0⟩] A pos) (iLc k js fi g tt te):=by
 refine⟨λenv st r B=>?_⟩;simp only[iLc,qab]at B;obtain⟨⟨ds,s1⟩,hy,B⟩:=B;have L:=B;by_cases hdn:¬ ds.length<=1000000
 ·rw[iFN hdn]at L;cases L
 have hdl:ds.length<=1000000:=by lia
 rw[iFP hdl]at L;refine (EQ S hc (hi.run _ _ _ hy) hg (λl s H C fp=>(ht l s H C fp).run) (λl s H C fp=>(he l s H C fp).any) hs).imp (ud hgi hdl L)
def Ej {A:Scope}{Nc:List Str}{k:Nat}{js:List Nat}{elt iter:Expr}{ifs:List Expr}{fi:Lf}{g:Tg}{tt:Tf}{te:Ef}{i0:Nat}{x0:Str}{py spos:Pos}
  (hN0:X.N.Nodup) (hi0:X.N[i0]?=some x0) (hx0:Loc X.env.scope x0) (S:dH X A Nc (fz k js)) (hc:X.calm=true) (hgi:∀ j∈rJ g,j<k) (hi:II K X tg iter fi)
  (hg:∀ l s H C fp,PG (lcX X A l Nc s H C fp) tg (tG K g)) (ht:∀ l s H C fp,ITs K (lcX X A l Nc s H C fp) ifs tt) (he:∀ l s H C fp,IE K (lcX X A l Nc s H C fp) elt te)
  (hsw:qcu (.ListComp elt [⟨tg,iter,ifs,0⟩] A pos) (some (.Name x0 py)) spos.line X.env=pure true:=by rfl)
  (hf0:X.fn x0=true\/X.env.scope.names.lookup x0=some .local:=by first|exact .inl U|exact .inr U|assumption)
  (hs:∀ x,qbX iter X.env x=pure x:=by intro _;rfl):IS K X (.Assign [.Name x0 py] (.ListComp elt [⟨tg,iter,ifs,0⟩] A pos) spos) (az (.nm i0) (aq (iLc k js fi g tt te)))/\
   IS K X (.Assign [.Name x0 py] (.ListComp elt [⟨tg,iter,ifs,0⟩] A pos) spos) (az (.nm i0) (cX (iLc k js fi g tt te))):=by
 have key:∀ env st r0 r,iLc k js fi g tt te env st=some r->(∀ G φ H (D:nK),Er K H φ env G->Sr K H φ st->xJ K φ H D r0->∀ a P H1 Y,Fw φ Y H H1->Sr K H1 Y r.2->H1 a=none->Rls K H1 Y r.1 P->D.nx (G.set i0 (some (.ref a))) (upd H1 a (.lst P)))->
   PS X (.Assign [.Name x0 py] (.ListComp elt [⟨tg,iter,ifs,0⟩] A pos) spos) (tS K env st r0):=by
  intro env st r0 r B h;simp only[iLc,qab]at B;obtain⟨⟨ds,s1⟩,hy,B⟩:=B;have L:=B;by_cases hdn:¬ ds.length<=1000000
  ·rw[iFN hdn]at L;cases L
  have hdl:ds.length<=1000000:=by lia
  rw[iFP hdl]at L;refine (BH hN0 hi0 hx0 S hc (hi.run _ _ _ hy) hg (λl s H C fp=>(ht l s H C fp).run) (λl s H C fp=>(he l s H C fp).any) hsw hf0 hs).imp ?_
  rintro D G H ⟨φ,W,N,q⟩
  exact ud hgi hdl L G H _ ⟨φ,W,N,h G φ H D W N q⟩
 constructor
 ·refine⟨λenv st r B=>?_⟩
  simp only[az,aq,cA,qab,qad]at B;obtain⟨y,⟨r2,hy,rfl⟩,e',ee,rfl⟩:=B;cases ee;refine key _ _ _ _ hy λG φ H D W N q a P H1 E f1 s1 n1 w1=>?_;exact q _ _ E (f1.trans (Fw.new n1)) ((((W.fw N f1).fw s1 (Fw.new n1))).set i0 ⟨a,P,U,s1.nin n1,.inl upd_same,w1.fw s1 (Fw.new n1)⟩) (s1.new n1)
 ·refine⟨λenv st r B=>?_⟩
  simp only[az,cX,cA,qab,qad]at B;obtain⟨y,⟨r2,hy,rfl⟩,e',ee,rfl⟩:=B;cases ee;refine key _ _ _ _ hy λG φ H D W N q a P H1 E f1 s1 n1 w1=>?_;exact q _ _ _ (f1.trans (Fw.more n1)) (((W.fw N f1).fw s1 (Fw.more n1)).set i0 ⟨a,by rw[<-s1.len];simp,U⟩) (s1.more n1 w1)
end
def bb (n k:Nat) (b:Sf):Fn
 |ws,st=>if ws.length=k then (b (ws.map some++qaG (n - k) none) st).bind λr=>match r with
 |.nx _ s=>some (.d .non,s)
 |.rt w s=>some (w,s)
 |_=>none
 else none
def wL (n:Nat) (w:W) (s:Sto):Option (W×Sto):=match w with
 |.d x=>some (.d x,s.take n)
 |.h m=>if m<n then some (.h m,s.take n) else (lg s m).map λds=>(.d (.lst ds),s.take n)
def fQ (n k:Nat) (b:Sf):Fn
 |ws,st=>if ws.length=k then (b (ws.map some++qaG (n - k) none) st).bind λr=>match r with
 |.nx _ s=>some (.d .non,s.take st.length)
 |.rt w s=>wL st.length w s
 |_=>none
 else none
section
variable {P:qaN}{w:World}{K:qae}{mg:Str->Option Value}{base:Heap}
def mo {H:Hp}{φ:List Addr}{N:List Str}{k:Nat}:∀ {ws:List W}{o:List V},Rws K H φ ws o->ws.length=k->Er K H φ (ws.map some++qaG (N.length - k) none) (ij N o):=by
 intro ws o r hk;have n:=r.length;refine⟨by unfold ij;simp;lia,λi x e=>?_⟩;unfold ij;by_cases hi:i<ws.length
 ·rw[qaE (by simpa using hi),qay,qad]at e
  obtain⟨y,G,e⟩:=e
  have:∃ v,o[i]?=some v/\Rw K H φ y v:=by
   clear hk n hi e
   induction ws generalizing o i with
   |nil=>simp at G
   |cons w ws ih=>
    obtain⟨v,r',rfl,r1,r2⟩:=r;cases i with
    |zero=>simp at G;subst G;exact⟨v,U,r1⟩
    |succ i=>simpa using ih r2 i (by simpa using G)
  obtain⟨v,X,T⟩:=this;cases e;refine⟨v,?_,T⟩;rw[qaE (by rw[qag,<-n];exact hi),qay,X];rfl
 ·rw[qaK (by simpa using hi)]at e
  have:=qb2 e
  have:=(List.mem_replicate.mp this).2
  cases this
def FD {x g:Str}{st:Stmt}{f:Addr}{fd:qb5}{N ps:List Str}{k:Nat}{b:Sf} (F:Fun K x g st f fd) (S:ck N ps (ao st))
  (hb:∀ (j:Value) (A:qa0) (outer:List Env) (s:qaj) (H:Hp) (E:XK),bo k (A.deeper (qel g (ao st) s.heap.objs.size f j))->ISs K (ft CX0 P w K mg base N g (ao st) f j A outer s H E).nox (aW st) b) :
  dG P w K mg base CX0 (k+1) f fd ps (spI K (bb N.length ps.length b)):=by
 refine F.ok S (λo H Q E h=>?_) λj A outer s H o Q E R h=>?_
 ·obtain⟨φ,st,ws,r,e,rw,_⟩:=h
  rw[bb]at e;by_cases n:ws.length=ps.length
  ·rw[<-rw.length,n]
  ·rw[iFN n]at e;cases e
 ·obtain⟨φ,t,ws,r,e,rw,S',q⟩:=h
  rw[bb]at e;by_cases n:ws.length=ps.length
  ·rw[iFP n]at e
   obtain⟨fl,J,p⟩:=qab.mp e;refine⟨_,(hb j A outer s H E R).run _ _ _ J,φ,mo rw n,S',?_⟩;cases fl with
   |nx e s=>cases p;exact λO H' c l e' s'=>q .non H' c l s' U
   |rt w s=>cases p;exact λv H' c l s' C=>q v H' c l s' C
   |bk e s=>cases p
   |ct e s=>cases p
  ·rw[iFN n]at e;cases e
def Fw.less {φ c:List Addr}{H H':Hp} (f:Fw φ c H H'):Fw φ φ H H':=⟨⟨[],by simp,by simp⟩,f.keep,f.there⟩
def D7 {x g:Str}{st:Stmt}{f:Addr}{fd:qb5}{N ps:List Str}{k:Nat}{b:Sf} (F:Fun K x g st f fd) (S:ck N ps (ao st))
  (hb:∀ (j:Value) (A:qa0) (outer:List Env) (s:qaj) (H:Hp) (E:XK),bo k (A.deeper (qel g (ao st) s.heap.objs.size f j))->ISs K (ft CX0 P w K mg base N g (ao st) f j A outer s H E).nox (aW st) b) :
  dG P w K mg base CX0 (k+1) f fd ps (spI K (fQ N.length ps.length b)):=by
 refine F.ok S (λo H Q E h=>?_) λj A outer s H o Q E R h=>?_
 ·obtain⟨φ,st,ws,r,e,rw,_⟩:=h
  rw[fQ]at e;by_cases n:ws.length=ps.length
  ·rw[<-rw.length,n]
  ·rw[iFN n]at e;cases e
 ·obtain⟨φ,t,ws,r,e,rw,S',q⟩:=h
  rw[fQ]at e;by_cases n:ws.length=ps.length
  ·rw[iFP n]at e
   obtain⟨fl,J,p⟩:=qab.mp e;refine⟨_,(hb j A outer s H E R).run _ _ _ J,φ,mo rw n,S',?_⟩;have less:∀ {H':Hp}{c:List Addr}{s':Sto},Fw φ c H H'->Sr K H' c s'->Sr K H' φ (s'.take t.length):=λ{H' c s'} l S2=>by
    obtain⟨ψ,rfl,_⟩:=l.ext;rw[<-S'.len];exact S2.less
   cases fl with
   |nx e s=>cases p;exact λO H' c l e' s'=>q .non H' φ l.less (less l s') U
   |rt w s=>
    intro v H' c l s' C;have B:wL t.length w s=some r:=p;obtain⟨ψ,u,_⟩:=l.ext;cases w with
    |d x=>
     cases B;subst u;exact q v H' φ l.less (less l s') (Rl.less C)
    |h m=>
     obtain⟨a,D,rfl⟩:=C;unfold wL at B;by_cases hm:m<t.length
     ·have e4:=by
       have:=B
       simp only[hm,if_true]at this;exact this
      cases e4;subst u;rw[qaE (by rw[S'.len];exact hm)]at D;exact q _ H' φ l.less (less l s') ⟨a,D,U⟩
     ·simp only[hm,if_false]at B
      obtain⟨ds,I,rfl⟩:=qad.mp B;obtain⟨o,hv,rl⟩:=s'.atl m a ds D I;have hn:a∉φ:=λz=>by
       obtain⟨i,hi,ei⟩:=qcS.mp z;have Y:c[i]?=some a:=by subst u;rw[qaE hi,qal hi,ei]
       obtain⟨h2,M⟩:=qas.mp Y;obtain⟨h3,L⟩:=qas.mp D
       have:=(qdE s'.nd).mp (M.trans L.symm)
       rw[S'.len]at hi;lia
      subst u;exact q _ H' φ l.less (less l s') ⟨a,o,U,hn,.inl hv,rl.less⟩
   |bk e s=>cases p
   |ct e s=>cases p
  ·rw[iFN n]at e;cases e
end
def cK:D->Bool
 |.non=>true
 |.bl _=>true
 |.int _=>true
 |.str _=>true
 |_=>false
def vOf:D->V
 |.bl b=>.bl b
 |.int i=>.int i
 |.str x=>.str x
 |_=>.non
mutual
def eqD:D->D->Bool
 |.non,.non=>true
 |.bl a,.bl b=>a==b
 |.bl a,.int b=>(if a then 1 else 0)==b
 |.int a,.bl b=>a==(if b then 1 else 0)
 |.int a,.int b=>a==b
 |.str a,.str b=>a==b
 |.tup as,.tup bs=>dq as bs
 |.lst as,.lst bs=>dq as bs
 |_,_=>false
def dq:List D->List D->Bool
 |[],[]=>true
 |a::as,b::bs=>eqD a b&&dq as bs
 |_,_=>false
end
def okD:Nat->D->Bool
 |_,.non=>true
 |_,.bl _=>true
 |_,.int _=>true
 |_,.str _=>true
 |n+1,.tup ds=>ds.all (okD n)
 |n+1,.lst ds=>ds.all (okD n)
 |_,_=>false
def lsD (st:Sto):W->Option (List D)
 |.d (.lst ds)=>some ds
 |.h n=>lg st n
 |_=>none
def be (st:Sto) (x y:W):Option D:=match x,y with
 |.d (.int i),.d (.int j)=>some (.int (i+j))
 |.d (.tup a),.d (.tup b)=>if a.length+b.length<=1000000 then some (.tup (a++b)) else none
 |.d (.str a),.d (.str b)=>if a.length+b.length<=1000000 then some (.str (a++b)) else none
 |x,y=>(lsD st x).bind λa=>(lsD st y).bind λb=>if a.length+b.length<=1000000 then some (.lst (a++b)) else none
def kc (_:Sto):W->W->Option D
 |.d (.int i),.d (.int j)=>some (.int (i - j))
 |_,_=>none
instance (a b:Int):Decidable (qg5 a b):=by unfold qg5;infer_instance
def aX (_:Sto):W->W->Option D
 |.d (.int i),.d (.int j)=>if qg5 i j then some (.int (i*j)) else none
 |.d (.tup a),.d (.int k)=>if a≠[]/\a.length<=1000/\0<=k/\k<1000 then some (.tup (qaG k.toNat a).flatten) else none
 |.d (.lst a),.d (.int k)=>if a.length<=1000/\-1000<=k/\k<1000 then some (.lst (qaG k.toNat a).flatten) else none
 |_,_=>none
def kK (_:Sto):W->W->Option D
 |.d (.int i),.d (.int j)=>if 0<j/\j<1073741824 then some (.int (i / j)) else none
 |_,_=>none
def dI (_:Sto):W->W->Option D
 |.d (.int i),.d (.int j)=>if 0<j then some (.int (i%j)) else none
 |_,_=>none
instance (i j:Int):Decidable (sY i j):=by unfold sY;infer_instance
def z5 (_:Sto):W->W->Option D
 |.d (.int i),.d (.int j)=>if sY i j then some (.int (i^j.toNat)) else none
 |_,_=>none
def wF (_:Sto):W->W->Option D
 |.d (.int i),.d (.int j)=>if sY i j then some (.int (i*2^j.toNat)) else none
 |_,_=>none
def xY (_:Sto):W->W->Option D
 |.d (.int i),.d (.int j)=>if 0<=j then some (.int (i / 2^j.toNat)) else none
 |_,_=>none
def dLt (_:Sto):W->W->Option D
 |.d (.int i),.d (.int j)=>some (.bl (decide (i<j)))
 |_,_=>none
def dLe (_:Sto):W->W->Option D
 |.d (.int i),.d (.int j)=>some (.bl (decide (i<=j)))
 |_,_=>none
def dGt (_:Sto):W->W->Option D
 |.d (.int i),.d (.int j)=>some (.bl (decide (j<i)))
 |_,_=>none
def dGe (_:Sto):W->W->Option D
 |.d (.int i),.d (.int j)=>some (.bl (decide (j<=i)))
 |_,_=>none
def dD:D->Bool
 |.non=>true
 |_=>false
def jb (_:Sto):W->W->Option D
 |.d x,.d .non=>some (.bl (dD x))
 |_,_=>none
def jt (_:Sto):W->W->Option D
 |.d x,.d .non=>some (.bl (!dD x))
 |_,_=>none
def inD (x:D) (ds:List D):Bool:=ds.any λy=>eqD y x
def dIn (st:Sto) (x y:W):Option D:=match x with
 |.d x=>(cf st y).bind λds=>if cK x=true/\ds.all cK=true then some (.bl (inD x ds)) else none
 |_=>none
section
variable {K:qae}{X:Cx}
def iM {H:Hp}{φ:List Addr}{d:D}{v:V} (h:cK d=true) (r:Rl K H φ d v):v=vOf d/\eJ v=true:=by
 cases d with
 |non=>cases (r);exact⟨U,U⟩
 |bl b=>cases (r);exact⟨U,U⟩
 |int b=>cases (r);exact⟨U,U⟩
 |str b=>cases (r);exact⟨U,U⟩
 |_=>cases h
def pw {a b:D} (I:cK a=true) (hb:cK b=true):eqV (vOf a) (vOf b)=eqD a b:=by
 cases a<;>cases b<;>first|rfl|(cases I;done)|(cases hb)|(done)
def sF {H:Hp}{φ:List Addr}:∀ {ds:List D}{m:List V},ds.all cK=true->Rls K H φ ds m->m=ds.map vOf/\m.all eJ=true
 |[],_,_,h=>by cases h;exact⟨U,U⟩
 |d::ds,_,h,r=>by
  rw[qbD,qba]at h;obtain⟨v,M,rfl,k,l⟩:=r;obtain⟨s,t⟩:=iM h.1 k;obtain⟨u,w⟩:=sF h.2 l;exact⟨by rw[s,u];rfl,by rw[qbD,t,w];rfl⟩
def vf {x:D} (z:cK x=true):∀ {ds:List D},ds.all cK=true->inV (vOf x) (ds.map vOf)=inD x ds
 |[],_=>rfl
 |d::ds,h=>by
  rw[qbD,qba]at h;have A:=vf z h.2;unfold inV inD at A ⊢;rw[qar,qcf,qcf,A,pw h.1 z]
def CH {f:Value->Value->Sem Value}{g:Sto->W->W->Option D} (h:∀ st x y d,g st x y=some d->∃ i j,x=.d (.int i)/\y=.d (.int j)/\OpR X f (λo n H Q=>o=.int i/\n=.int j/\Q (vOf d) H)/\cK d=true):OpD K X f g:=by
 refine⟨λst x y d hd=>?_⟩;obtain⟨i,j,rfl,rfl,E,B⟩:=h st x y d hd;refine E.imp ?_
 rintro o n H Q ⟨φ,S,k,l,q⟩
 refine⟨k,l,q _ H (aO.refl H) ?_⟩;cases d<;>first|rfl|cases B
def w2 {x y:W}{d:D}{F:Int->Int->Option D} (h:(match x,y with|.d (.int i),.d (.int j)=>F i j|_,_=>none)=some d):∃ i j,x=.d (.int i)/\y=.d (.int j)/\F i j=some d:=by
 split at h
 ·exact⟨_,_,U,U,h⟩
 ·cases h
def ifS {c:Prop} [Decidable c] {a d:D} (h:(if c then some a else none)=some d):c/\a=d:=by
 split at h
 ·rename_i q
  exact⟨q,qaP h⟩
 ·cases h
def gB {f:Value->Value->Sem Value}{g:Sto->W->W->Option D}{F:Int->Int->Option D} (e:∀ st x y,g st x y=match x,y with|.d (.int i),.d (.int j)=>F i j|_,_=>none) (h:∀ i j d,F i j=some d->OpR X f (λo n H Q=>o=.int i/\n=.int j/\Q (vOf d) H)/\cK d=true):OpD K X f g:=CH λst x y d hd=>by
 rw[e]at hd;obtain⟨i,j,rfl,rfl,hd⟩:=w2 hd;exact⟨i,j,U,U,h i j d hd⟩
def qz:OpD K X (qbH .Sub) kc:=gB (λ_ _ _=>rfl) λi j d h=>by cases h;exact⟨CV.imp λ_ _ _ _ q=>⟨i,j,q⟩,U⟩
def so:OpD K X (qbN .Lt) dLt:=gB (λ_ _ _=>rfl) λi j d h=>by cases h;exact⟨EM.imp λ_ _ _ _ q=>⟨i,j,q⟩,U⟩
def vL:OpD K X (qbN .LtE) dLe:=gB (λ_ _ _=>rfl) λi j d h=>by cases h;exact⟨EL.imp λ_ _ _ _ q=>⟨i,j,q⟩,U⟩
def vJ:OpD K X (qbN .Gt) dGt:=gB (λ_ _ _=>rfl) λi j d h=>by cases h;exact⟨EK.imp λ_ _ _ _ q=>⟨i,j,q⟩,U⟩
def vI:OpD K X (qbN .GtE) dGe:=gB (λ_ _ _=>rfl) λi j d h=>by cases h;exact⟨EJ.imp λ_ _ _ _ q=>⟨i,j,q⟩,U⟩
def lM:OpD K X (qbH .FloorDiv) kK:=gB (λ_ _ _=>rfl) λi j d h=>by obtain⟨c,rfl⟩:=ifS h;exact⟨Az.imp λ_ _ _ _ q=>⟨i,j,q.1,q.2.1,c,q.2.2⟩,U⟩
def qu:OpD K X (qbH .Mod) dI:=gB (λ_ _ _=>rfl) λi j d h=>by obtain⟨c,rfl⟩:=ifS h;exact⟨CQ.imp λ_ _ _ _ q=>⟨i,j,q.1,q.2.1,c,q.2.2⟩,U⟩
def qw:OpD K X (qbH .Pow) z5:=gB (λ_ _ _=>rfl) λi j d h=>by obtain⟨c,rfl⟩:=ifS h;exact⟨CS.imp λ_ _ _ _ q=>⟨i,j,q.1,q.2.1,c,q.2.2⟩,U⟩
def qx:OpD K X (qbH .LShift) wF:=gB (λ_ _ _=>rfl) λi j d h=>by obtain⟨c,rfl⟩:=ifS h;exact⟨CT.imp λ_ _ _ _ q=>⟨i,j,q.1,q.2.1,c,q.2.2⟩,U⟩
def qy:OpD K X (qbH .RShift) xY:=gB (λ_ _ _=>rfl) λi j d h=>by obtain⟨c,rfl⟩:=ifS h;exact⟨CU.imp λ_ _ _ _ q=>⟨i,j,q.1,q.2.1,c,q.2.2⟩,U⟩
def zn {H:Hp}{φ:List Addr}{d:D}{v:V} (r:Rl K H φ d v):decide (v=.non)=dD d:=by
 cases d with
 |non=>cases (r);rfl
 |bl b=>cases (r);rfl
 |int b=>cases (r);rfl
 |str b=>cases (r);rfl
 |ty b=>cases (r);rfl
 |dct=>obtain⟨a,rfl,_⟩:=r;rfl
 |scr ns=>obtain⟨a,rfl,_⟩:=r;rfl
 |tup ds=>obtain⟨a,m,rfl,_⟩:=r;rfl
 |lst ds=>obtain⟨a,m,rfl,_⟩:=r;rfl
 |ob ns ds=>obtain⟨a,_,_,_,m,rfl,_⟩:=r;rfl
def qr:OpD K X (qbN .Is) jb:=by
 refine⟨λst x y d h=>?_⟩
 match x,y,h with
 |.d x,.d .non,h=>
  cases h;refine CO.imp ?_
  rintro o n H Q ⟨φ,S,k,l,q⟩
  refine⟨l,q _ H (aO.refl H) ?_⟩;rw[zn k];rfl
def lN:OpD K X (qbN .IsNot) jt:=by
 refine⟨λst x y d h=>?_⟩
 match x,y,h with
 |.d x,.d .non,h=>
  cases h;refine AB.imp ?_
  rintro o n H Q ⟨φ,S,k,l,q⟩
  refine⟨l,q _ H (aO.refl H) ?_⟩;rw[zn k];rfl
def vK (J:X.K=K:=by rfl):OpD K X (qbN .In) dIn:=by
 subst J;refine⟨λst x y d h=>?_⟩
 match x,h with
 |.d x,h=>
  simp only[dIn,qab]at h;obtain⟨ds,G,h⟩:=h;split at h
  ·rename_i p
   cases h;refine xk.imp ?_
   rintro o n H Q ⟨φ,S,k,l,q⟩
   obtain⟨a,m,rfl,C,L⟩:=gx S l G;obtain⟨s,t⟩:=iM p.1 k;obtain⟨u,w⟩:=sF p.2 L;refine⟨a,m,U,C,t,w,q _ H (aO.refl H) ?_⟩;rw[s,u,vf p.1 p.2];rfl
  ·cases h
end
section
variable {K:qae}{X:Cx}
def Ax:OpR X (qbH .Add) (λx y H Q=>∃ l b xs zs,x=.ref l/\y=.ref b/\Rd H l (.lst xs)/\Rd H b (.lst zs)/\xs.length+zs.length<=qaJ/\∀ p,H p=none->Q (.ref p) (upd H p (.lst (xs++zs)))):=by
 intro G s M H x y v u Q I rx ry h;obtain⟨l,b,xs,zs,rfl,rfl,hH,hB,hz,q⟩:=h;cases rx;cases ry;obtain⟨z,A,n,r,e⟩:=hH.ok I.hok;obtain⟨z2,N,n2,J,e2⟩:=hB.ok I.hok;have L:=r.length;have hl2:=J.length;refine PySem.P.add_list e e2 ?_ (by rw[qaI,qaI];lia);have ea:A.toArray++N.toArray=(A++N).toArray:=by simp
 rw[ea];exact⟨.ref _,_,I.lnew (r.append J) (by rw[qaz];lia),U,q _ I.fresh⟩
def yM:OpR X (qbH .Add) (λx y H Q=>∃ a b xs ys,x=.ref a/\y=.ref b/\SqT X.K H a xs/\SqT X.K H b ys/\xs.length+ys.length<=qaJ/\
  (xs=[]->Q (.ref b) H)/\(ys=[]->Q (.ref a) H)/\∀ p,H p=none->Q (.ref p) (upd H p (.tup (xs++ys)))):=by
 intro G s M H x y v u Q I rx ry h;obtain⟨a,b,xs,ys,rfl,rfl,ha,hb,hz,q0,q1,q2⟩:=h;by_cases hx:xs=[]
 ·cases rx
  cases ry;obtain⟨A,O,p1,_⟩:=I.tuple ha;obtain⟨N,J,p2,_⟩:=I.tuple hb;obtain⟨⟨cls,dd,data,sl⟩,ho,hc,n,hd⟩:=id p1;obtain⟨⟨cls2,dd2,data2,sl2⟩,ho2,hc2,n2,hd2⟩:=id p2;subst hc hd hc2 hd2;exact qhm ⟨_,ho,U⟩ ⟨_,ho2,U⟩ qfZ qgV qd3 qdX (qdP _ _)
   (tuple_addW0 a b A.toArray N.toArray n n2 dd dd2 sl sl2 (by simp[O.nil_iff.mpr hx])) ⟨ho,ho2,.ref b,H,I,U,q0 hx⟩
 ·exact Ay G s M H _ _ v u Q I rx ry ⟨a,b,xs,ys,U,U,ha,hb,hx,hz,q1,λ_ p E=>q2 p E⟩
def qj {st:Sto}{H:Hp}{φ:List Addr}{w:W}{v:V}{ds:List D} (S:Sr K H φ st) (r:Rw K H φ w v) (e:lsD st w=some ds):∃ a g,v=.ref a/\Rd H a (.lst g)/\Rls K H φ ds g:=by
 cases w with
 |h n=>
  obtain⟨a,ea,rfl⟩:=r;obtain⟨g,q,rl⟩:=S.atl n a ds ea e;exact⟨a,g,U,.inl q,rl⟩
 |d x=>
  cases x with
  |lst es=>cases e;obtain⟨a,g,rfl,h0,C,B⟩:=r;exact⟨a,g,U,C,B⟩
  |_=>cases e
def mil:(1000000:Nat)<=qaJ:=by decide
def jj (hK:X.K=K:=by rfl):OpD K X (qbH .Add) be:=by
 subst hK;refine⟨λst x y d h=>?_⟩;have P:(lsD st x).bind (λa=>(lsD st y).bind λb=>if a.length+b.length<=1000000 then some (.lst (a++b)) else none)=some d->OpR X _ (rD X.K st x y d):=λh=>by
  simp only[qab]at h;obtain⟨as,ha,bs,hb,h⟩:=h;split at h
  ·rename_i L
   cases h;refine Ax.imp ?_
   rintro vx vy H Q ⟨φ,S,O,J,q⟩
   obtain⟨a,Y,rfl,C,B⟩:=qj S O ha;obtain⟨b,g,rfl,h3,h4⟩:=qj S J hb;refine⟨a,b,Y,g,U,U,C,h3,by rw[<-B.length,<-h4.length];exact qaY L mil,λp E=>q _ _ (aO.new E _) ?_⟩;exact⟨p,_,U,S.nin E,.inl upd_same,(B.append h4).fw S (Fw.new E)⟩
  ·cases h
 match x,y,h with
 |.d (.int i),.d (.int j),h=>
  cases h;refine CM.imp ?_
  rintro vx vy H Q ⟨φ,S,O,J,q⟩
  exact⟨i,j,O,J,q _ H (aO.refl H) U⟩
 |.d (.tup as),.d (.tup bs),h=>
  simp only[be]at h;split at h
  ·rename_i L
   cases h;refine yM.imp ?_
   rintro vx vy H Q ⟨φ,S,⟨a,Y,rfl,C,B⟩,⟨b,g,rfl,h3,h4⟩,q⟩
   refine⟨a,b,Y,g,U,U,(SqT.of C),(SqT.of h3),by rw[<-B.length,<-h4.length];exact qaY L mil,λe=>?_,λe=>?_,λp E=>?_⟩
   ·subst e
    have:as=[]:=by cases as with|nil=>rfl|cons _ _=>cases B.length
    subst this;exact q _ H (aO.refl H) ⟨b,g,U,h3,h4⟩
   ·subst e
    have:bs=[]:=by cases bs with|nil=>rfl|cons _ _=>cases h4.length
    subst this;exact q _ H (aO.refl H) ⟨a,Y,U,C,by rw[qb0];exact B⟩
   ·exact q _ _ (aO.new E _) ⟨p,_,U,upd_same,(B.append h4).fw S (Fw.new E)⟩
  ·cases h
 |.d (.str as),.d (.str bs),h=>
  simp only[be]at h;split at h
  ·rename_i L
   cases h;refine uq.imp ?_
   rintro vx vy H Q ⟨φ,S,O,J,q⟩
   exact⟨as,bs,O,J,qaY L mil,q _ H (aO.refl H) U⟩
  ·cases h
 |.d (.lst as),y,h=>exact P (by cases y with|h n=>exact h|d y=>cases y<;>exact h)
 |.h n,y,h=>exact P (by cases y with|h n=>exact h|d y=>cases y<;>exact h)
def vO:OpR X (qbH .Mult) (λx y H Q=>∃ l k xs,x=.ref l/\y=.int k/\Rd H l (.lst xs)/\-(2 ^ 63)<=k/\k < 2 ^ 63/\xs.length*k.toNat<=qaJ/\
 ∀ p,H p=none->Q (.ref p) (upd H p (.lst (qaG k.toNat xs).flatten))):=by
 intro G s M H x y v u Q I rx ry h;obtain⟨l,k,xs,rfl,rfl,hH,C,B,hz,q⟩:=h;cases rx;obtain⟨t,rfl⟩:=ry;obtain⟨z,A,n,r,e⟩:=hH.ok I.hok;have hlen:A.toArray.size*k.toNat<=qaJ:=by rw[qaI,<-r.length];exact hz
 have hcap:¬ A.toArray.size*k.toNat > (2^63 - 1) / 8:=by
  have:(qaJ)<=(2^63 - 1) / 8:=by decide
  lia
 have hfit:¬ (!Builtin.List.listFitsIndex k)=true:=by
  rw[fitsIndex_both C B];exact qaL
 have hlong:¬ qe2 (A.toArray.size*k.toNat)=true:=by
  rw[yG hlen];exact qaL
 have hnew:qjB (λx1 x2=>x1++x2) #[] (qaG (if A.toArray.isEmpty=true then 0 else k.toNat) A.toArray)=(qaG k.toNat A).flatten.toArray:=by
  have f0:=λm=>by
   have:=ki A m []
   rw[qbn]at this;exact this
  rw[f0];cases A with
  |nil=>simp
  |cons a r'=>rw[iFN (by simp)]
 refine qgt (by decide) ⟨_,e,U⟩ (λs'=>qfJ s' k t) noFill_list_mul qio qeE repeat_list qh6.lookup
  (qc2 qeE (qfJ s k t) qh8 (qhR _ _) (int___rmul___int_list k t l A.toArray n)
    ⟨e,U,⟨_,e,U⟩,qc2 F.slot_list_mul ⟨_,e,U⟩ F.entry_list_mul (F.args_list_mul_2 _ _) (AutoListH.list___mul___list_int_3 l A.toArray n k t hfit hcap hlong) ⟨e,?_⟩⟩)
 rw[hnew];exact⟨.ref _,_,I.lnew (r.rep k.toNat) (by rw[qh,qgx];exact hz),U,q _ I.fresh⟩
def qv (hK:X.K=K:=by rfl):OpD K X (qbH .Mult) aX:=by
 refine⟨λst x y d h=>?_⟩
 match x,y,h with
 |.d (.int i),.d (.int j),h=>
  simp only[aX]at h;split at h
  ·rename_i L
   cases h;refine AA.imp ?_
   rintro vx vy H Q ⟨φ,S,O,J,q⟩
   exact⟨i,j,O,J,L,q _ H (aO.refl H) U⟩
  ·cases h
 |.d (.tup as),.d (.int k),h=>
  simp only[aX]at h;split at h
  ·rename_i L
   cases h;refine AC.imp ?_
   rintro vx vy H Q ⟨φ,S,⟨a,Y,rfl,C,B⟩,J,q⟩
   have hne:Y≠[]:=by rintro rfl;cases as with|nil=>exact L.1 U|cons _ _=>cases B.length
   refine⟨a,k,Y,U,J,(SqT.of C),hne,by rw[<-B.length];exact L.2.1,L.2.2.1,L.2.2.2,λe=>?_,λ_ p E=>?_⟩
   ·subst e
    exact q _ H (aO.refl H) ⟨a,Y,U,C,by simpa using B⟩
   ·exact q _ _ (aO.new E _) ⟨p,_,U,upd_same,(B.rep _).fw S (Fw.new E)⟩
  ·cases h
 |.d (.lst as),.d (.int k),h=>
  simp only[aX]at h;split at h
  ·rename_i L
   cases h;refine vO.imp ?_
   rintro vx vy H Q ⟨φ,S,⟨a,Y,rfl,h0,C,B⟩,J,q⟩
   refine⟨a,k,Y,U,J,C,by lia,by lia,?_,λp E=>?_⟩
   ·rw[<-B.length]
    have:as.length*k.toNat<=1000*1000:=qc4 L.1 (by lia)
    exact qaY this mil
   ·exact q _ _ (aO.new E _) ⟨p,_,U,S.nin E,.inl upd_same,(B.rep _).fw S (Fw.new E)⟩
  ·cases h
def dIx (st:Sto) (x y:W):Option D:=match x,y with
 |.d (.str z),.d (.int i)=>if z.length<=1000000 then (atI z.cps.toList i).map λc=>.str ⟨#[c]⟩ else none
 |x,.d (.int i)=>(cf st x).bind λds=>atI ds i
 |_,_=>none
def B3 {H:Hp}{φ:List Addr}{ds:List D}{g:List V}{i:Int}{d:D} (r:Rls K H φ ds g) (e:atI ds i=some d):∃ v,atI g i=some v/\Rl K H φ d v:=by
 unfold atI at e ⊢;rw[<-r.length];obtain⟨j,e1,e2⟩:=qab.mp e;obtain⟨v,ev,rv⟩:=r.get e2;exact⟨v,by rw[e1];exact ev,rv⟩
def IxR.imp {r r':R2} (h:IxR X r) (m:∀ x y H Q,r' x y H Q->r x y H Q):IxR X r':=λvalue slice G s M H x y v u Q I rx ry q hs=>h value slice G s M H x y v u Q I rx ry (m _ _ _ _ q) hs
def Ft (st:Sto) (x y:W) (d:D) (h:dIx st x y=some d) (hK:X.K=K):IxR X (rD K st x y d):=by
 subst hK
 match y,h with
 |.d (.int i),h=>
  have seq:(cf st x).bind _=some d->IxR X (rD X.K st x (.d (.int i)) d):=λh=>by
   obtain⟨ds,e1,e2⟩:=qab.mp h;refine t9.imp ?_
   rintro vx vy H Q ⟨φ,S,O,J,q⟩
   obtain⟨a,g,rfl,C,B⟩:=gx S O e1;obtain⟨v,ev,rv⟩:=B3 B e2;rcases C with C|C
   ·exact .inl ⟨a,g,i,v,U,J,C,ev,q _ H (aO.refl H) rv⟩
   ·exact .inr (.inl ⟨a,g,i,v,U,J,C,ev,q _ H (aO.refl H) rv⟩)
  match x,h with
  |.d (.str z),h=>
   simp only[dIx]at h;split at h
   ·rename_i L
    obtain⟨c,e1,rfl⟩:=qad.mp h;refine t9.imp ?_
    rintro vx vy H Q ⟨φ,S,O,J,q⟩
    exact .inr (.inr ⟨z,i,c,O,J,qaY L mil,e1,q _ H (aO.refl H) U⟩)
   ·cases h
  |.d (.tup z),h=>exact seq h
  |.d (.lst z),h=>exact seq h
  |.d (.scr z),h=>exact seq h
  |.h z,h=>exact seq h
 |.d .non,h=>cases x with|h n=>cases h|d x=>cases x<;>cases h
 |.d (.ob _ _),h=>cases x with|h n=>cases h|d x=>cases x<;>cases h
 |.d (.bl _),h=>cases x with|h n=>cases h|d x=>cases x<;>cases h
 |.d (.str _),h=>cases x with|h n=>cases h|d x=>cases x<;>cases h
 |.d (.ty _),h=>cases x with|h n=>cases h|d x=>cases x<;>cases h
 |.d (.scr _),h=>cases x with|h n=>cases h|d x=>cases x<;>cases h
 |.d .dct,h=>cases x with|h n=>cases h|d x=>cases x<;>cases h
 |.d (.tup _),h=>cases x with|h n=>cases h|d x=>cases x<;>cases h
 |.d (.lst _),h=>cases x with|h n=>cases h|d x=>cases x<;>cases h
 |.h _,h=>cases x with|h n=>cases h|d x=>cases x<;>cases h
variable {e a b:Expr}{pos p2:Pos}{f fa fb:Ef}
def u8 (ha:IE K X a fa) (hb:IE K X b fb) (hs:qE b=true:=by rfl) (hK:X.K=K:=by rfl):IE K X (.Subscript a b pos) (iOp dIx fa fb):=by
 refine⟨λenv st r hr=>?_⟩;simp only[iOp,qab,qad]at hr;obtain⟨x,hx,y,hy,d,hd,rfl⟩:=hr;exact (BE (Ft _ _ _ _ hd hK) (ha.run _ _ _ hx) (hb.run _ _ _ hy) (rV hs)).imp λM H Q h=>qO h
abbrev Pf:=Ev->Sto->Option (Option Int×Sto)
def iPn:Pf
 |_,st=>some (none,st)
def Eh:W->Option Int
 |.d (.int i)=>some i
 |_=>none
def wS {w:W}{i:Int} (h:Eh w=some i):w=.d (.int i):=by
 cases w with
 |h n=>cases h
 |d x=>cases x<;>first|(cases h;done)|(injection h with h;subst h;rfl)
def iPs (f:Ef):Pf
 |env,st=>(f env st).bind λr=>(Eh r.1).map λi=>(some i,r.2)
def tIO (K:qae) (env:Ev) (st:Sto) (r:Option Int×Sto):TO:=λM H Q=>∃ φ,Er K H φ env M/\Sr K H φ st/\∀ H' φ',Fw φ φ' H H'->Sr K H' φ' r.2->Q r.1 H'
structure IO (K:qae) (X:Cx) (e:Option Expr) (f:Pf):Prop where
 run:∀ env st r,f env st=some r->PO X e (tIO K env st r)
def PO.imp {e:Option Expr}{t t':TO} (h:PO X e t) (m:∀ M H Q,t' M H Q->t M H Q):PO X e t':=λG s M H Q I q=>h G s M H Q I (m M H Q q)
def ly:IO K X none iPn:=by
 refine⟨λenv st r hr=>?_⟩;cases hr;exact AK.imp λM H Q ⟨φ,hE,T,q⟩=>q H φ (Fw.refl φ H) T
def lz (h:IE K X e f):IO K X (some e) (iPs f):=by
 refine⟨λenv st r hr=>?_⟩;simp only[iPs,qab,qad]at hr;obtain⟨⟨x,s1⟩,hx,i,hi,rfl⟩:=hr;cases wS hi;refine (AL (h.run _ _ _ hx)).imp ?_
 rintro M H Q ⟨φ,hE,T,q⟩
 exact⟨φ,hE,T,λv H1 R f1 s1 w1=>⟨i,w1,q H1 R f1 s1⟩⟩
def j9 (xs:List D) (lo hi:Option Int):List D:=(xs.drop (HT.sIx xs.length 0 lo)).take (HT.sIx xs.length xs.length hi - HT.sIx xs.length 0 lo)
def uO {H:Hp}{φ:List Addr}{ds:List D}{g:List V} (r:Rls K H φ ds g) (lo hi:Option Int):Rls K H φ (j9 ds lo hi) (tH g lo hi):=by
 unfold j9 tH;rw[r.length];exact (r.drop _).take _
def dSl (st:Sto) (x:W) (lo hi:Option Int):Option D:=match x with
 |.d (.tup ds)=>some (.tup (j9 ds lo hi))
 |.d (.lst ds)=>some (.lst (j9 ds lo hi))
 |.h n=>(lg st n).map λds=>.lst (j9 ds lo hi)
 |.d (.scr ns)=>some (.lst (j9 (ns.map D.int) lo hi))
 |_=>none
def iSl (f:Ef) (lo hi:Pf):Ef
 |env,st=>(f env st).bind λx=>(lo env x.2).bind λl=>(hi env l.2).bind λu=>(dSl u.2 x.1 l.1 u.1).map λd=>(.d d,u.2)
def u9 {lo hi:Option Expr}{fl fh:Pf} (h:IE K X e f) (L:IO K X lo fl) (hh:IO K X hi fh) (hK:X.K=K:=by rfl):IE K X (.Subscript e (.Slice lo hi none p2) pos) (iSl f fl fh):=by
 subst hK;refine⟨λenv st r hr=>?_⟩;simp only[iSl,qab,qad]at hr;obtain⟨⟨x,s1⟩,hx,l,hl',u,hu',d,hd,rfl⟩:=hr;have list:(∀ {H:Hp}{φ:List Addr}{v:V},Sr X.K H φ u.2->Rw X.K H φ x v->∃ a g ds,v=.ref a/\SqL X.K H a g/\Rls X.K H φ ds g/\d=.lst (j9 ds l.1 u.1))->PE X (.Subscript e (.Slice lo hi none p2) pos) (tI X.K env st (.d d,u.2)):=λhq=>by
  refine (sv Bb (h.run _ _ _ hx) (L.run _ _ _ hl') (hh.run _ _ _ hu')).imp ?_
  rintro M H Q ⟨φ,hE,T,q⟩
  refine⟨φ,hE,T,λv H1 R f1 s1 w1=>⟨R,hE.fw T f1,s1,λH2 φ2 f2 s2=>⟨φ2,(hE.fw T f1).fw s1 f2,s2,λH3 φ3 f3 s3=>?_⟩⟩⟩;obtain⟨a,g,ds,rfl,C,B,rfl⟩:=hq s3 ((w1.fw s1 f2).fw s2 f3);refine⟨a,g,U,C,λp E=>q _ _ φ3 (((f1.trans f2).trans f3).trans (Fw.new E)) (s3.new E) ?_⟩;exact⟨p,_,U,s3.nin E,.inl upd_same,(uO B _ _).fw s3 (Fw.new E)⟩
 match x,hd with
 |.d (.tup ds),hd=>
  cases hd;refine (sv (Cw U) (h.run _ _ _ hx) (L.run _ _ _ hl') (hh.run _ _ _ hu')).imp ?_
  rintro M H Q ⟨φ,hE,T,q⟩
  refine⟨φ,hE,T,λv H1 R f1 s1 w1=>⟨R,hE.fw T f1,s1,λH2 φ2 f2 s2=>⟨φ2,(hE.fw T f1).fw s1 f2,s2,λH3 φ3 f3 s3=>?_⟩⟩⟩;obtain⟨a,g,rfl,C,B⟩:=(w1.fw s1 f2).fw s2 f3;refine⟨a,g,U,(SqT.of C),?_⟩;by_cases hc:HT.sIx g.length 0 l.1=0/\HT.sIx g.length g.length u.1=g.length
  ·refine .inr ⟨hc,q _ _ φ3 ((f1.trans f2).trans f3) s3 ⟨a,g,U,C,?_⟩⟩
   have e:j9 ds l.1 u.1=ds:=by
    unfold j9;rw[B.length,hc.1,hc.2,qhO,qjf,<-B.length,qdD]
   rw[e];exact B
  ·exact .inl ⟨hc,λp E=>q _ _ φ3 (((f1.trans f2).trans f3).trans (Fw.new E)) (s3.new E) ⟨p,_,U,upd_same,(uO B _ _).fw s3 (Fw.new E)⟩⟩
 |.d (.lst ds),hd=>
  cases hd;refine list λ{H φ v} S w=>?_;obtain⟨a,g,rfl,h0,C,B⟩:=w;exact⟨a,g,ds,U,.inl C,B,U⟩
 |.d (.scr ns),hd=>
  cases hd;refine list λ{H φ v} S w=>?_;obtain⟨a,rfl,h⟩:=w;refine⟨a,_,_,U,?_,Rls.of_ints ns,U⟩;rcases h with⟨o,h⟩|h
  ·exact .inl (.inr ⟨o,h⟩)
  ·exact .inr h
 |.h n,hd=>
  obtain⟨ds,e1,rfl⟩:=qad.mp hd;refine list λ{H φ v} S w=>?_;obtain⟨a,ea,rfl⟩:=w;obtain⟨g,q,rl⟩:=S.atl n a ds ea e1;exact⟨a,g,ds,U,SqL.of q,rl,U⟩
end
section
variable {K:qae}{X:Cx}{T:List (Addr×Obj)}{σ:St}{H:Hp}{s:qaj}{φ:List Addr}{st:Sto}
def dY:∀ (xs P:List D),((qam (min xs.length P.length)).all (λj=>eqD (xs.getD j .non) (P.getD j .non))&&xs.length==P.length)=dq xs P
 |[],[]=>rfl
 |[],y::P=>by simp[dq]
 |x::xs,[]=>by simp[dq]
 |x::xs,y::P=>by
  show ((qam (min (xs.length+1) (P.length+1))).all _&&(xs.length+1==P.length+1))=(eqD x y&&dq xs P);rw[show min _ _=min xs.length P.length+1 by lia,lX,<-dY xs P];have e:(xs.length+1==P.length+1)=(xs.length==P.length):=by simp
  rw[e,Bool.and_assoc];rfl
def iY {xs P:List D} (h:xs.length=P.length):(qam xs.length).all (λj=>eqD (xs.getD j .non) (P.getD j .non))=dq xs P:=by
 rw[<-dY xs P,<-h,Nat.min_self];simp
def rA:∀ {xs P:List D},xs.length≠P.length->dq xs P=false
 |[],[],h=>absurd U h
 |[],_::_,_=>rfl
 |_::_,[],_=>rfl
 |x::xs,y::P,h=>by
  show (eqD x y&&dq xs P)=false;rw[rA (by intro e;apply h;rw[qan,qan,e]),Bool.and_false]
def A1 (I:Inv X T σ H s) {a:Addr}{E ws:List V} (h:Rd H a (.lst E)) (h':Rd H a (.lst ws)):E=ws:=I.list_inj (.inl h) (.inl h')
def uV (I:Inv X T σ H s):∀ (n:Nat) {d e:D}{v:V},Rl X.K H φ d v->Rl X.K H φ e v->okD n d=true->okD n e=true->eqD d e=true:=by
 intro n
 induction n with
 |zero=>
  intro d e v m l N F;cases d<;>first|(cases N;done)|skip
  all_goals (cases e<;>first|(cases F;done)|skip)
  all_goals (first|rfl|(cases m.symm.trans l;done)|(cases m.symm.trans l;simp[eqD]))
 |succ n ih=>
  have lists:∀ {ds es:List D}{E:List V},Rls X.K H φ ds E->Rls X.K H φ es E->(∀ d∈ds,okD n d=true)->(∀ d∈es,okD n d=true)->dq ds es=true:=by
   intro ds
   induction ds with
   |nil=>
    intro es E m l _ _;cases m;cases es with
    |nil=>rfl
    |cons e es=>obtain⟨_,_,q,_⟩:=l;cases q
   |cons d ds ihd=>
    intro es E m l N F;obtain⟨v,r,rfl,a1,a2⟩:=m;cases es with
    |nil=>cases l
    |cons e es=>
     obtain⟨v',r',q,b1,b2⟩:=l;cases q;show (eqD d e&&dq ds es)=true;rw[ih a1 b1 (N d qaf) (F e qaf),ihd a2 b2 (λx hx=>N x (qak _ hx)) (λx hx=>F x (qak _ hx))];rfl
  intro d e v m l N F;cases d with
  |tup ds=>
   obtain⟨a,E,rfl,O,M⟩:=m;cases e with
   |tup es=>
    obtain⟨b,J,q,p,B⟩:=l;cases q;rw[I.tuple_inj (SqT.of p) (SqT.of O)]at B;exact lists M B (qa2.mp N) (qa2.mp F)
   |lst es=>
    obtain⟨b,J,q,_,p,B⟩:=l;cases q;obtain⟨_,_,p1,_⟩:=I.tuple (SqT.of O);obtain⟨_,_,f,_⟩:=I.list (.inl p);exact absurd U (qf6 f.isList p1)
   |_=>first|(cases F;done)|(cases l)
  |lst ds=>
   obtain⟨a,E,rfl,h0,O,M⟩:=m;cases e with
   |lst es=>
    obtain⟨b,J,q,_,p,B⟩:=l;cases q;rw[A1 I p O]at B;exact lists M B (qa2.mp N) (qa2.mp F)
   |tup es=>
    obtain⟨b,J,q,p,B⟩:=l;cases q;obtain⟨_,_,p1,_⟩:=I.tuple (SqT.of p);obtain⟨_,_,f,_⟩:=I.list (.inl O);exact absurd U (qf6 f.isList p1)
   |_=>first|(cases F;done)|(cases l)
  |non=>cases e<;>first|rfl|(cases F;done)|(cases m.symm.trans l)|(cases m;obtain⟨_,_,q,_⟩:=l;cases q)
  |bl b=>cases e<;>first|(cases F;done)|(cases m.symm.trans l;simp[eqD])|(cases m.symm.trans l)|(cases m;obtain⟨_,_,q,_⟩:=l;cases q)
  |int b=>cases e<;>first|(cases F;done)|(cases m.symm.trans l;simp[eqD])|(cases m.symm.trans l)|(cases m;obtain⟨_,_,q,_⟩:=l;cases q)
  |str b=>cases e<;>first|(cases F;done)|(cases m.symm.trans l;simp[eqD])|(cases m.symm.trans l)|(cases m;obtain⟨_,_,q,_⟩:=l;cases q)
  |ty b=>cases N
  |scr b=>cases N
  |dct=>cases N
  |ob _ _=>cases N
def dS {ds:List D}{E:List V}{J:List Value} (r:Rls K H φ ds E) (Y:aG E J):∀ (j:Nat) (h:j<J.length),∃ v,Rl K H φ (ds.getD j .non) v/\aM v J[j]/\ds.getD j .non∈ds:=by
 intro j h;obtain⟨h',q⟩:=Y.at j h;have hd:j<ds.length:=by rw[r.length];exact h'
 have e:=qal hd;obtain⟨v,ev,rl⟩:=r.get e;rw[qal h']at ev;cases ev;refine⟨_,?_,q,?_⟩
 ·rw[qfD,e];exact rl
 ·rw[qfD,e];exact qbK hd
def ya (I:Inv X T σ H s):∀ (n:Nat) {A:qa0}{d e:D}{v u:V}{vv uu:Value},Rl X.K H φ d v->Rl X.K H φ e u->aM v vv->aM u uu->okD n d=true->okD n e=true->A.units+n<cLine->qdn A s vv uu (eqD d e):=by
 have flat:∀ {A:qa0}{d e:D}{v u:V}{vv uu:Value},cK d=true->cK e=true->Rl X.K H φ d v->Rl X.K H φ e u->aM v vv->aM u uu->qdn A s vv uu (eqD d e):=by
  intro A d e v u vv uu f1 f2 m l q1 L;obtain⟨R,g1⟩:=iM f1 m;obtain⟨e2,g2⟩:=iM f2 l;rw[<-pw f1 f2,<-R,<-e2];exact tQ q1 L g1 g2
 intro n
 induction n with
 |zero=>
  intro A d e v u vv uu m l q1 L N F hu;refine flat ?_ ?_ m l q1 L
  ·cases d<;>first|rfl|cases N
  ·cases e<;>first|rfl|cases F
 |succ n ih=>
  intro A d e v u vv uu m l q1 L N F hu;have c:A.units<cLine:=by lia
  have hu1:A.in1.units+n<cLine:=by show A.units+1+n<cLine;lia
  cases d with
  |tup ds=>
   obtain⟨a,E,rfl,O,M⟩:=m;cases q1;obtain⟨G,Y,p1,_⟩:=I.tuple (SqT.of O);cases e with
   |tup es=>
    obtain⟨b,J,rfl,p,B⟩:=id l;cases L;by_cases hab:a=b
    ·subst hab
     rw[uV I (n+1) (d:=.tup ds) ⟨a,E,U,O,M⟩ l N F];exact qeW _
    ·obtain⟨g,o,f,_⟩:=I.tuple (SqT.of p)
     have z:=qeC (A:=A) p1 f c λj g1 g2=>by
      obtain⟨v1,k1,k2,k3⟩:=dS M Y j (by simpa using g1);obtain⟨v2,k4,k5,k6⟩:=dS B o j (by simpa using g2);exact ih k1 k4 (by simpa using k2) (by simpa using k5) (qa2.mp N _ k3) (qa2.mp F _ k6) hu1
     have R:G.toArray.size=ds.length:=by simp[<-Y.length,M.length]
     have e2:g.toArray.size=es.length:=by simp[<-o.length,B.length]
     rw[R,e2,dY]at z;exact qen hab z
   |lst es=>
    obtain⟨b,J,rfl,_,p,B⟩:=id l;cases L;obtain⟨g,o,f,_⟩:=I.list (.inl p);exact qkm p1 f.isList c
   |non=>cases l;cases L;exact qkl p1 c
   |bl x=>cases l;cases L;exact qko x p1 c
   |int x=>cases l;obtain⟨t,rfl⟩:=L;exact qkn x t p1 c
   |str x=>cases l;obtain⟨t,rfl⟩:=L;exact qkk x t p1 c
   |ty _=>cases F
   |scr _=>cases F
   |dct=>cases F
   |ob _ _=>cases F
  |lst ds=>
   obtain⟨a,E,rfl,h0,O,M⟩:=m;cases q1;obtain⟨G,Y,p1,_⟩:=I.list (.inl O);cases e with
   |lst es=>
    obtain⟨b,J,rfl,_,p,B⟩:=id l;cases L;by_cases hab:a=b
    ·subst hab
     rw[uV I (n+1) (d:=.lst ds) ⟨a,E,U,h0,O,M⟩ l N F];exact qeW _
    ·obtain⟨g,o,f,_⟩:=I.list (.inl p)
     have R:G.toArray.size=ds.length:=by simp[<-Y.length,M.length]
     have e2:g.toArray.size=es.length:=by simp[<-o.length,B.length]
     by_cases hl:ds.length=es.length
     ·have z:=qgi (A:=A) p1.isList f.isList (by rw[R,e2,hl]) c λj g1 g2=>by
       obtain⟨v1,k1,k2,k3⟩:=dS M Y j (by simpa using g1);obtain⟨v2,k4,k5,k6⟩:=dS B o j (by simpa using g2);exact ih k1 k4 (by simpa using k2) (by simpa using k5) (qa2.mp N _ k3) (qa2.mp F _ k6) hu1
      rw[R,iY hl]at z;exact qen hab z
     ·show qdn A s _ _ (dq ds es)
      rw[rA hl];exact qen hab (qe8 (A:=A) p1.isList f.isList (by rw[R,e2];simpa using hl) c)
   |tup es=>
    obtain⟨b,J,rfl,p,B⟩:=id l;cases L;obtain⟨g,o,f,_⟩:=I.tuple (SqT.of p);exact qkz p1.isList f c
   |non=>cases l;cases L;exact qkB p1.isList c
   |bl x=>cases l;cases L;exact qkD x p1.isList c
   |int x=>cases l;obtain⟨t,rfl⟩:=L;exact qkC x t p1.isList c
   |str x=>cases l;obtain⟨t,rfl⟩:=L;exact qkA x t p1.isList c
   |ty _=>cases F
   |scr _=>cases F
   |dct=>cases F
   |ob _ _=>cases F
  |non=>
   cases m;cases q1;cases e with
   |tup es=>obtain⟨b,J,rfl,p,B⟩:=l;cases L;obtain⟨_,_,f,_⟩:=I.tuple (SqT.of p);exact qku f c
   |lst es=>obtain⟨b,J,rfl,_,p,B⟩:=l;cases L;obtain⟨_,_,f,_⟩:=I.list (.inl p);exact qkw f.isList c
   |_=>first|(cases F;done)|exact flat U U (d:=.non) U l (v:=.non) U L
  |bl x=>
   cases m;cases q1;cases e with
   |tup es=>obtain⟨b,J,rfl,p,B⟩:=l;cases L;obtain⟨_,_,f,_⟩:=I.tuple (SqT.of p);exact qkI x f c
   |lst es=>obtain⟨b,J,rfl,_,p,B⟩:=l;cases L;obtain⟨_,_,f,_⟩:=I.list (.inl p);exact qkL x f.isList c
   |_=>first|(cases F;done)|exact flat U U (d:=.bl x) U l (v:=.bl x) U L
  |int x=>
   cases m;obtain⟨t1,rfl⟩:=q1;cases e with
   |tup es=>obtain⟨b,J,rfl,p,B⟩:=l;cases L;obtain⟨_,_,f,_⟩:=I.tuple (SqT.of p);exact qkE x t1 f c
   |lst es=>obtain⟨b,J,rfl,_,p,B⟩:=l;cases L;obtain⟨_,_,f,_⟩:=I.list (.inl p);exact qkG x t1 f.isList c
   |_=>first|(cases F;done)|exact flat U U (d:=.int x) U l (v:=.int x) ⟨t1,U⟩ L
  |str x=>
   cases m;obtain⟨t1,rfl⟩:=q1;cases e with
   |tup es=>obtain⟨b,J,rfl,p,B⟩:=l;cases L;obtain⟨_,_,f,_⟩:=I.tuple (SqT.of p);exact qkp x t1 f c
   |lst es=>obtain⟨b,J,rfl,_,p,B⟩:=l;cases L;obtain⟨_,_,f,_⟩:=I.list (.inl p);exact qks x t1 f.isList c
   |_=>first|(cases F;done)|exact flat U U (d:=.str x) U l (v:=.str x) ⟨t1,U⟩ L
  |ty _=>cases N
  |scr _=>cases N
  |dct=>cases N
  |ob _ _=>cases N
def Di {A:qa0}{y x:V}{u v:Value} (ry:aM y u) (C:aM x v) (fy:eJ y=true) (fx:eJ x=true):qja A s u v (eqV y x):=by
 cases y with
 |non=>
  cases ry;cases x with
  |non=>cases C;exact qjZ
  |bl b=>cases C;exact qj2 b
  |int b=>obtain⟨t,rfl⟩:=C;exact qj1 b t
  |str b=>obtain⟨t,rfl⟩:=C;exact qjY b t
  |_=>cases fx
 |bl a=>
  cases ry;cases x with
  |non=>cases C;exact qkg a
  |bl b=>cases C;exact qkj a b
  |int b=>obtain⟨t,rfl⟩:=C;exact qki a b t
  |str b=>obtain⟨t,rfl⟩:=C;exact qkf a b t
  |_=>cases fx
 |int a=>
  obtain⟨t',rfl⟩:=ry;cases x with
  |non=>cases C;exact qka a t'
  |bl b=>cases C;exact qkd a t' b
  |int b=>obtain⟨t,rfl⟩:=C;exact qkc a t' b t
  |str b=>obtain⟨t,rfl⟩:=C;exact qj9 a t' b t
  |_=>cases fx
 |str a=>
  obtain⟨t',rfl⟩:=ry;cases x with
  |non=>cases C;exact qjT a t'
  |bl b=>cases C;exact qjW a t' b
  |int b=>obtain⟨t,rfl⟩:=C;exact qjV a t' b t
  |str b=>obtain⟨t,rfl⟩:=C;exact qjS a t' b t
  |_=>cases fx
 |_=>cases fy
def zj {A:qa0}{y x:V}{u v:Value} (ry:aM y u) (C:aM x v) (fy:eJ y=true) (fx:eJ x=true):qhZ A s u v (!eqV y x):=by
 cases y with
 |non=>
  cases ry;cases x with
  |non=>cases C;exact qiN
  |bl b=>cases C;exact qiQ b
  |int b=>obtain⟨t,rfl⟩:=C;exact qiP b t
  |str b=>obtain⟨t,rfl⟩:=C;exact qiM b t
  |_=>cases fx
 |bl a=>
  cases ry;cases x with
  |non=>cases C;exact qi6 a
  |bl b=>cases C;exact qi9 a b
  |int b=>obtain⟨t,rfl⟩:=C;exact qi8 a b t
  |str b=>obtain⟨t,rfl⟩:=C;exact qi5 a b t
  |_=>cases fx
 |int a=>
  obtain⟨t',rfl⟩:=ry;cases x with
  |non=>cases C;exact qi0 a t'
  |bl b=>cases C;exact qi3 a t' b
  |int b=>obtain⟨t,rfl⟩:=C;exact qi2 a t' b t
  |str b=>obtain⟨t,rfl⟩:=C;exact qiZ a t' b t
  |_=>cases fx
 |str a=>
  obtain⟨t',rfl⟩:=ry;cases x with
  |non=>cases C;exact qiH a t'
  |bl b=>cases C;exact qiK a t' b
  |int b=>obtain⟨t,rfl⟩:=C;exact qiJ a t' b t
  |str b=>obtain⟨t,rfl⟩:=C;exact qiG a t' b t
  |_=>cases fx
 |_=>cases fy
inductive Kin where
 |fl (d:D)|tp (ds:List D)|ls (ds:List D)
def gz (st:Sto):W->Option Kin
 |.d (.tup ds)=>some (.tp ds)
 |.d (.lst ds)=>some (.ls ds)
 |.h n=>(lg st n).map .ls
 |.d .non=>some (.fl .non)
 |.d (.bl b)=>some (.fl (.bl b))
 |.d (.int i)=>some (.fl (.int i))
 |.d (.str x)=>some (.fl (.str x))
 |_=>none
def eqK:Kin->Kin->Option Bool
 |.fl a,.fl b=>some (eqD a b)
 |.tp as,.tp bs=>if (as.isEmpty||bs.isEmpty)=true then some (as.isEmpty&&bs.isEmpty) else if as.all (okD 60)=true/\bs.all (okD 60)=true then some (dq as bs) else none
 |.ls as,.ls bs=>if as.length=bs.length then (if as.all (okD 60)=true/\bs.all (okD 60)=true then some (dq as bs) else none) else some false
 |.fl _,.tp _=>some false
 |.tp _,.fl _=>some false
 |.fl _,.ls _=>some false
 |.ls _,.fl _=>some false
 |.tp _,.ls _=>some false
 |.ls _,.tp _=>some false
def dEq (st:Sto) (x y:W):Option D:=(gz st x).bind λa=>(gz st y).bind λb=>(eqK a b).map λk=>.bl k
def dNe (st:Sto) (x y:W):Option D:=(gz st x).bind λa=>(gz st y).bind λb=>(eqK a b).map λk=>.bl (!k)
def BW (K:qae) (H:Hp) (φ:List Addr):Kin->V->Prop
 |.fl d,v=>cK d=true/\Rl K H φ d v
 |.tp ds,v=>∃ a E,v=.ref a/\SqT K H a E/\Rls K H φ ds E
 |.ls ds,v=>∃ a E,v=.ref a/\Rd H a (.lst E)/\Rls K H φ ds E
def lK {w:W}{v:V}{k:Kin} (S:Sr K H φ st) (r:Rw K H φ w v) (e:gz st w=some k):BW K H φ k v:=by
 cases w with
 |h n=>
  obtain⟨a,ea,rfl⟩:=r;obtain⟨ds,R,rfl⟩:=qad.mp e;obtain⟨E,q,rl⟩:=S.atl n a ds ea R;exact⟨a,E,U,.inl q,rl⟩
 |d x=>
  cases x with
  |tup es=>cases e;obtain⟨a,E,rfl,O,M⟩:=r;exact⟨a,E,U,SqT.of O,M⟩
  |lst es=>cases e;obtain⟨a,E,rfl,h0,O,M⟩:=r;exact⟨a,E,U,O,M⟩
  |non=>cases e;exact⟨U,r⟩
  |bl b=>cases e;exact⟨U,r⟩
  |int b=>cases e;exact⟨U,r⟩
  |str b=>cases e;exact⟨U,r⟩
  |_=>cases e
def Ci {A:qa0}{k:Nat} (hr:bo k A):A.in1.units+60<cLine:=by
 have:=hr.un
 lia
def zh {k:Nat} (hr:bo k X.A) (I:Inv X T σ H s) {a b:Kin}{v u:V}{vv uu:Value}{r:Bool} (ra:BW X.K H φ a v) (rb:BW X.K H φ b u) (qa:aM v vv) (qb:aM u uu) (e:eqK a b=some r) :
  qja X.A s vv uu r/\qhZ X.A s vv uu (!r):=by
 have c:=hr.units0;have items:∀ {ds es:List D}{E J:List V}{G g:List Value},Rls X.K H φ ds E->Rls X.K H φ es J->aG E G->aG J g->ds.all (okD 60)=true->es.all (okD 60)=true->
   ∀ j (g1:j<G.toArray.size) (g2:j<g.toArray.size),qdn X.A.in1 s G.toArray[j] g.toArray[j] (eqD (ds.getD j .non) (es.getD j .non)):=by
  intro ds es E J G g M B Y o N F j g1 g2;obtain⟨v1,k1,k2,k3⟩:=dS M Y j (by simpa using g1);obtain⟨v2,k4,k5,k6⟩:=dS B o j (by simpa using g2);exact ya I 60 k1 k4 (by simpa using k2) (by simpa using k5) (qa2.mp N _ k3) (qa2.mp F _ k6) (Ci hr)
 match a,b,e with
 |.fl d,.fl d',e=>
  cases e;obtain⟨f1,m⟩:=ra;obtain⟨f2,l⟩:=rb;obtain⟨R,g1⟩:=iM f1 m;obtain⟨e2,g2⟩:=iM f2 l;rw[<-pw f1 f2,<-R,<-e2];exact⟨Di qa qb g1 g2,zj qa qb g1 g2⟩
 |.tp ds,.tp es,e=>
  simp only[eqK]at e;obtain⟨a,E,rfl,O,M⟩:=ra;obtain⟨b,J,rfl,p,B⟩:=rb;cases qa;cases qb;obtain⟨G,Y,p1,_⟩:=I.tuple O;obtain⟨g,o,f,_⟩:=I.tuple p;have R:G.toArray.size=ds.length:=by simp[<-Y.length,M.length]
  have e2:g.toArray.size=es.length:=by simp[<-o.length,B.length]
  split at e
  ·rename_i hc
   cases e;have hv:∀ j (g1:j<G.toArray.size) (g2:j<g.toArray.size),qdn X.A.in1 s G.toArray[j] g.toArray[j] (eqD (ds.getD j .non) (es.getD j .non)):=λj g1 g2=>by
    rw[R]at g1;rw[e2]at g2;rw[qhE]at hc;rcases hc with hc|hc
    ·rw[qhu.mp hc]at g1;exact absurd g1 (qcP _)
    ·rw[qhu.mp hc]at g2;exact absurd g2 (qcP _)
   have z:=qeC (A:=X.A) p1 f c hv;have z':=qfB (A:=X.A) p1 f c hv;rw[R,e2,dY]at z z';have e3:dq ds es=(ds.isEmpty&&es.isEmpty):=by
    cases ds with
    |nil=>cases es<;>rfl
    |cons _ _=>cases es with
     |nil=>rfl
     |cons _ _=>cases hc
   rw[e3]at z z';exact⟨z,z'⟩
  ·split at e
   ·rename_i hc
    cases e;have z:=qeC (A:=X.A) p1 f c (items M B Y o hc.1 hc.2);have z':=qfB (A:=X.A) p1 f c (items M B Y o hc.1 hc.2);rw[R,e2,dY]at z z';exact⟨z,z'⟩
   ·cases e
 |.ls ds,.ls es,e=>
  simp only[eqK]at e;obtain⟨a,E,rfl,O,M⟩:=ra;obtain⟨b,J,rfl,p,B⟩:=rb;cases qa;cases qb;obtain⟨G,Y,p1,_⟩:=I.list (.inl O);obtain⟨g,o,f,_⟩:=I.list (.inl p);have R:G.toArray.size=ds.length:=by simp[<-Y.length,M.length]
  have e2:g.toArray.size=es.length:=by simp[<-o.length,B.length]
  split at e
  ·rename_i hl
   split at e
   ·rename_i hc
    cases e;have z:=qgi (A:=X.A) p1.isList f.isList (by rw[R,e2,hl]) c (items M B Y o hc.1 hc.2);have z':=qiS (A:=X.A) p1.isList f.isList (by rw[R,e2,hl]) c (items M B Y o hc.1 hc.2);rw[R,iY hl]at z z';exact⟨z,z'⟩
   ·cases e
  ·rename_i hl
   cases e;have z':=qiR (A:=X.A) p1.isList f.isList (by rw[R,e2];simpa using hl) c;exact⟨(qe8 (A:=X.A) p1.isList f.isList (by rw[R,e2];simpa using hl) c),z'⟩
 |.fl d,.tp es,e=>
  cases e;obtain⟨f1,m⟩:=ra;obtain⟨b,J,rfl,p,B⟩:=rb;cases qb;obtain⟨g,o,f,_⟩:=I.tuple p;cases d with
  |non=>cases m;cases qa;exact⟨qjX f c,qiL f c⟩
  |bl x=>cases m;cases qa;exact⟨qke x f c,qi4 x f c⟩
  |int x=>cases m;obtain⟨t,rfl⟩:=qa;exact⟨qj8 x t f c,qiY x t f c⟩
  |str x=>cases m;obtain⟨t,rfl⟩:=qa;exact⟨qjR x t f c,qiF x t f c⟩
  |_=>cases f1
 |.tp es,.fl d,e=>
  cases e;obtain⟨f1,m⟩:=rb;obtain⟨b,J,rfl,p,B⟩:=ra;cases qa;obtain⟨g,o,f,_⟩:=I.tuple p;cases d with
  |non=>cases m;cases qb;exact⟨qjN f c,qiB f c⟩
  |bl x=>cases m;cases qb;exact⟨qjQ x f c,qiE x f c⟩
  |int x=>cases m;obtain⟨t,rfl⟩:=qb;exact⟨qjP x t f c,qiD x t f c⟩
  |str x=>cases m;obtain⟨t,rfl⟩:=qb;exact⟨qjM x t f c,qiA x t f c⟩
  |_=>cases f1
 |.fl d,.ls es,e=>
  cases e;obtain⟨f1,m⟩:=ra;obtain⟨b,J,rfl,p,B⟩:=rb;cases qb;obtain⟨g,o,f,_⟩:=I.list (.inl p);replace f:=f.isList;cases d with
  |non=>cases m;cases qa;exact⟨qj0 f c,qiO f c⟩
  |bl x=>cases m;cases qa;exact⟨qkh x f c,qi7 x f c⟩
  |int x=>cases m;obtain⟨t,rfl⟩:=qa;exact⟨qkb x t f c,qi1 x t f c⟩
  |str x=>cases m;obtain⟨t,rfl⟩:=qa;exact⟨qjU x t f c,qiI x t f c⟩
  |_=>cases f1
 |.ls es,.fl d,e=>
  cases e;obtain⟨f1,m⟩:=rb;obtain⟨b,J,rfl,p,B⟩:=ra;cases qa;obtain⟨g,o,f,_⟩:=I.list (.inl p);replace f:=f.isList;cases d with
  |non=>cases m;cases qb;exact⟨qj5 f c,qiV f c⟩
  |bl x=>cases m;cases qb;exact⟨qj7 x f c,qiX x f c⟩
  |int x=>cases m;obtain⟨t,rfl⟩:=qb;exact⟨qj6 x t f c,qiW x t f c⟩
  |str x=>cases m;obtain⟨t,rfl⟩:=qb;exact⟨qj4 x t f c,qiU x t f c⟩
  |_=>cases f1
 |.tp ds,.ls es,e=>
  cases e;obtain⟨a,E,rfl,O,M⟩:=ra;obtain⟨b,J,rfl,p,B⟩:=rb;cases qa;cases qb;obtain⟨G,Y,p1,_⟩:=I.tuple O;obtain⟨g,o,f,_⟩:=I.list (.inl p);exact⟨qjO p1 f.isList c,qiC p1 f.isList c⟩
 |.ls ds,.tp es,e=>
  cases e;obtain⟨a,E,rfl,O,M⟩:=ra;obtain⟨b,J,rfl,p,B⟩:=rb;cases qa;cases qb;obtain⟨G,Y,p1,_⟩:=I.list (.inl O);obtain⟨g,o,f,_⟩:=I.tuple p;exact⟨qj3 p1.isList f c,qiT p1.isList f c⟩
def vH {k:Nat} (hr:bo k X.A) (hK:X.K=K:=by rfl):OpD K X (qbN .Eq) dEq:=by
 subst hK;refine⟨λst x y d h=>?_⟩;simp only[dEq,qab,qad]at h;obtain⟨a,ha,b,hb,r,e,rfl⟩:=h;intro T s σ H vx vy v u Q I C ry q;obtain⟨φ,S,m,l,q⟩:=q;exact (zh hr I (lK S m ha) (lK S l hb) C ry e).1 _ _ _ _ ⟨.bl r,H,I,U,q _ H (aO.refl H) U⟩
def vN {k:Nat} (hr:bo k X.A) (hK:X.K=K:=by rfl):OpD K X (qbN .NotEq) dNe:=by
 subst hK;refine⟨λst x y d h=>?_⟩;simp only[dNe,qab,qad]at h;obtain⟨a,ha,b,hb,r,e,rfl⟩:=h;intro T s σ H vx vy v u Q I C ry q;obtain⟨φ,S,m,l,q⟩:=q;exact (zh hr I (lK S m ha) (lK S l hb) C ry e).2 _ _ _ _ ⟨.bl _,H,I,U,q _ H (aO.refl H) U⟩
end
section
variable {K:qae}{X:Cx}
def aU:List D->Option (List Int)
 |[]=>some []
 |.int i::ds=>(aU ds).map λr=>i::r
 |_=>none
def bu:∀ {ds:List D}{ns:List Int},aU ds=some ns->ds=ns.map D.int
 |[],_,h=>by cases h;rfl
 |.int i::ds,_,h=>by
  obtain⟨r,e,rfl⟩:=qad.mp h;rw[bu e];rfl
 |.non::_,_,h=>by cases h
 |.bl _::_,_,h=>by cases h
 |.str _::_,_,h=>by cases h
 |.ty _::_,_,h=>by cases h
 |.dct::_,_,h=>by cases h
 |.scr _::_,_,h=>by cases h
 |.tup _::_,_,h=>by cases h
 |.lst _::_,_,h=>by cases h
def bf:∀ (ns:List Int),aU (ns.map D.int)=some ns
 |[]=>rfl
 |n::ns=>by rw[qar,aU,bf ns];rfl
def j7:List D->Option (List Bool)
 |[]=>some []
 |.bl i::ds=>(j7 ds).map λr=>i::r
 |_=>none
def kI:∀ {ds:List D}{ns:List Bool},j7 ds=some ns->ds=ns.map D.bl
 |[],_,h=>by cases h;rfl
 |.bl i::ds,_,h=>by
  obtain⟨r,e,rfl⟩:=qad.mp h;rw[kI e];rfl
 |.non::_,_,h=>by cases h
 |.int _::_,_,h=>by cases h
 |.str _::_,_,h=>by cases h
 |.ty _::_,_,h=>by cases h
 |.dct::_,_,h=>by cases h
 |.scr _::_,_,h=>by cases h
 |.tup _::_,_,h=>by cases h
 |.lst _::_,_,h=>by cases h
def l8:∀ (ns:List Bool),j7 (ns.map D.bl)=some ns
 |[]=>rfl
 |n::ns=>by rw[qar,j7,l8 ns];rfl
def aV (st:Sto):List W->Option D
 |[.d (.str x)]=>if x.length<=1000000 then some (.int x.length) else none
 |[w]=>(cf st w).map λds=>.int ds.length
 |_=>none
def tJ (_:Sto):List W->Option D
 |[.d (.int i)]=>some (.int (if i<0 then -i else i))
 |_=>none
def B7 (_:Sto):List W->Option D
 |[.d (.int i),.d (.int j)]=>some (.int (if j<i then j else i))
 |_=>none
def tM (_:Sto):List W->Option D
 |[.d (.int i)]=>some (.int i)
 |[.d (.bl k)]=>some (.int (if k then 1 else 0))
 |_=>none
def ma (_:Sto):List W->Option D
 |[.d (.lst ds)]=>(aU ds).map λns=>.int ns.sum
 |_=>none
def zY (_:Sto):List W->Option D
 |[.d (.lst ds)]=>(j7 ds).map λns=>.bl (ns.all id)
 |_=>none
def cU (st:Sto):List W->Option D
 |[w]=>(cf st w).map λds=>.tup ds
 |_=>none
def vq (st:Sto):List W->Option (List D)
 |[w]=>cf st w
 |_=>none
def DA (st:Sto):W->Option String
 |.d .non=>some "NoneType"
 |.d (.bl _)=>some "bool"
 |.d (.int _)=>some "int"
 |.d (.str _)=>some "str"
 |.d (.tup _)=>some "tuple"
 |.d (.lst _)=>some "list"
 |.d .dct=>some "dict"
 |.h n=>(lg st n).map λ_=>"list"
 |_=>none
def Cn (t c:String):Option Bool:=
 if c = "int" then some (t=="int" || t=="bool")
 else if c = "bool"\/c = "str"\/c = "tuple"\/c = "list" then some (t==c)
 else none
def k8 (st:Sto):List W->Option D
 |[w,.d (.ty c)]=>(DA st w).bind λt=>(Cn t c).map λb=>.bl b
 |_=>none
def fY (O:X.K=K:=by rfl):fq K X (.builtin "len") aV:=by
 subst O;refine⟨λst ws d h=>?_⟩;have Y:∀ w,(cf st w).map (λds=>D.int ds.length)=some d->bI X _ (rCD X.K st [w] d):=λw h=>by
  obtain⟨ds,e,rfl⟩:=qad.mp h;refine oU.imp ?_
  rintro G H Q ⟨φ,S,⟨v,r,rfl,A,rfl⟩,q⟩
  obtain⟨a,E,rfl,m,P⟩:=gx S A e;exact⟨a,E,U,m,q _ H (aO.refl H) (by rw[<-P.length];rfl)⟩
 cases ws with
 |nil=>cases h
 |cons w tl=>
  cases tl with
  |cons _ _=>
   cases w with
   |h n=>cases h
   |d x=>cases x<;>cases h
  |nil=>
   cases w with
   |h n=>exact Y _ h
   |d x=>
    cases x with
    |str x=>
     simp only[aV]at h;split at h
     ·rename_i hl
      cases h;refine oV.imp ?_
      rintro G H Q ⟨φ,S,⟨v,r,rfl,A,rfl⟩,q⟩
      exact⟨x,by rw[A],qaY hl mil,q _ H (aO.refl H) U⟩
     ·cases h
    |tup ds=>exact Y _ h
    |lst ds=>exact Y _ h
    |scr ds=>exact Y _ h
    |_=>cases h
def oY:fq K X (.builtin "abs") tJ:=by
 refine⟨λst ws d h=>?_⟩
 match ws,h with
 |[.d (.int i)],h=>
  cases h;refine xV.imp ?_
  rintro G H Q ⟨φ,S,⟨v,r,rfl,A,rfl⟩,q⟩
  exact⟨i,by rw[A],q _ H (aO.refl H) U⟩
def pd (T:X.calm=true:=by rfl):fq K X (.builtin "min") B7:=by
 refine⟨λst ws d h=>?_⟩
 match ws,h with
 |[.d (.int i),.d (.int j)],h=>
  cases h;refine (wC T).imp ?_
  rintro G H Q ⟨φ,S,⟨v,r,rfl,A,u,r',rfl,r2,rfl⟩,q⟩
  exact⟨i,j,by rw[A,r2],q _ H (aO.refl H) U⟩
def o8:fq K X (.type "int") tM:=by
 refine⟨λst ws d h=>?_⟩
 match ws,h with
 |[.d (.int i)],h=>
  cases h;refine oi.imp ?_
  rintro G H Q ⟨φ,S,⟨v,r,rfl,A,rfl⟩,q⟩
  exact .inl ⟨i,by rw[A],q _ H (aO.refl H) U⟩
 |[.d (.bl i)],h=>
  cases h;refine oi.imp ?_
  rintro G H Q ⟨φ,S,⟨v,r,rfl,A,rfl⟩,q⟩
  exact .inr ⟨i,by rw[A],q _ H (aO.refl H) U⟩
def pe (T:X.calm=true:=by rfl) (O:X.K=K:=by rfl):fq K X (.builtin "sum") ma:=by
 refine⟨λst ws d h=>?_⟩
 match ws,h with
 |[.d (.lst ds)],h=>
  obtain⟨ns,e,rfl⟩:=qad.mp h;cases bu e;refine (Eo T U).imp ?_
  rintro G H Q ⟨φ,S,⟨v,r,rfl,⟨a,E,rfl,h0,m,P⟩,rfl⟩,q⟩
  cases P.ints;exact⟨a,ns,U,.inl m,q _ H (aO.refl H) U⟩
def oZ (T:X.calm=true:=by rfl) (O:X.K=K:=by rfl):fq K X (.builtin "all") zY:=by
 refine⟨λst ws d h=>?_⟩
 match ws,h with
 |[.d (.lst ds)],h=>
  obtain⟨ns,e,rfl⟩:=qad.mp h;cases kI e;refine (En T U).imp ?_
  rintro G H Q ⟨φ,S,⟨v,r,rfl,⟨a,E,rfl,h0,m,P⟩,rfl⟩,q⟩
  cases P.bools;exact⟨a,ns,U,.inl m,q _ H (aO.refl H) U⟩
def pf (O:X.K=K:=by rfl):fq K X (.type "tuple") cU:=by
 subst O;refine⟨λst ws d h=>?_⟩
 match ws,h with
 |[w],h=>
  obtain⟨ds,e,rfl⟩:=qad.mp h;refine nO.imp ?_
  rintro G H Q ⟨φ,S,⟨v,r,rfl,A,rfl⟩,q⟩
  obtain⟨a,E,rfl,m,P⟩:=sI S A e;refine⟨a,E,U,?_⟩;rcases m with m|m
  ·exact .inl ⟨m,λl hl=>q _ _ (aO.new hl _) ⟨l,E,U,upd_same,P.fw S (Fw.new hl)⟩⟩
  ·exact .inr ⟨SqT.of m,q _ H (aO.refl H) ⟨a,E,U,m,P⟩⟩
def iu (O:X.K=K:=by rfl):nZ K X (.type "list") vq:=by
 subst O;refine⟨λst ws d h=>?_⟩
 match ws,h with
 |[w],h=>
  refine oW.imp ?_
  rintro G H Q ⟨φ,S,⟨v,r,rfl,A,rfl⟩,q⟩
  obtain⟨a,E,rfl,m,P⟩:=gx S A h;exact⟨a,E,U,m,λl hl=>q l E H (aO.refl H) hl P⟩
def fg {t c:String}{b:Bool} (N:t = "NoneType"\/t = "bool"\/t = "int"\/t = "str"\/t = "tuple"\/t = "list"\/t = "dict") (h:Cn t c=some b):qhb K (.type t) (.type c)=some b:=by
 unfold Cn at h;split at h
 ·rename_i T
  subst T;rcases N with rfl|rfl|rfl|rfl|rfl|rfl|rfl<;>(cases h;rfl)
 ·split at h
  ·rename_i _ T
   rcases T with rfl|rfl|rfl|rfl<;>rcases N with rfl|rfl|rfl|rfl|rfl|rfl|rfl<;>(cases h;rfl)
  ·cases h
def o9 (O:X.K=K:=by rfl):fq K X (.builtin "isinstance") k8:=by
 subst O;refine⟨λst ws d h=>?_⟩;unfold k8 at h;split at h
 case h_2=>cases h
 rename_i w c;simp only[k8,qab,qad]at h;obtain⟨t,N,b,hb,rfl⟩:=h;intro pins s σ H xs E Q I rv q;obtain⟨φ,S,⟨v,r,rfl,A,u,r',rfl,r2,rfl⟩,q⟩:=q;cases (show u=.ty c from r2);obtain⟨vv,uu,rfl,B,rv2⟩:=rv.two;cases rv2;have fin:∀ tk,EP X pins σ Q (.bool b) { s with toks:=tk }:=λtk=>⟨.bl b,H,I.tok tk,U,q _ H (aO.refl H) U⟩;cases w with
 |h n=>
  obtain⟨a,ea,rfl⟩:=A;obtain⟨ds,eds,rfl⟩:=qad.mp N;obtain⟨G,hv,_⟩:=S.atl n a ds ea eds;exact bU I B (.lst hv) (fg (by simp) hb) fin
 |d x=>
  cases x with
  |non=>cases N;cases A;exact bU I B .non (fg (by simp) hb) fin
  |ob _ _=>cases N
  |bl x=>cases N;cases A;exact bU I B (.bl x) (fg (by simp) hb) fin
  |int x=>cases N;cases A;exact bU I B (.int x) (fg (by simp) hb) fin
  |str x=>cases N;cases A;exact bU I B (.str x) (fg (by simp) hb) fin
  |lst ds=>
   cases N;obtain⟨a,G,rfl,h0,m,P⟩:=A;rcases m with m|⟨o,m⟩
   ·exact bU I B (.lst m) (fg (by simp) hb) fin
   ·exact bU I B (.frz m) (fg (by simp) hb) fin
  |tup ds=>
   cases N;obtain⟨a,G,rfl,m,P⟩:=A;cases B;obtain⟨its,_,p,_⟩:=I.tuple (SqT.of m);obtain⟨o,e1,e2,_⟩:=p;exact qbP qgo I.kIn ⟨o,e1,e2⟩ (fg (by simp) hb) (λz=>nomatch z) fin
  |dct=>
   cases N;obtain⟨a,rfl,_,m⟩:=A;rcases m with⟨d,m⟩|⟨d,m⟩
   ·exact bU I B (.dK m) (fg (by simp) hb) fin
   ·exact bU I B (.dT m) (fg (by simp) hb) fin
  |ty x=>cases N
  |scr x=>cases N
variable {e a b:Expr}{es:List Expr}{pos:Pos}{f fa fb:Ef}{af:Af}
def vb {x:Str}{c:String} (hg:Gl X x) (hm:X.mg x=none) (hv:qcb x=some (.type c)) (hn:x≠"__name__":=by decide) (hd:(x==("__debug__" : Str))=false:=by decide):IE K X (.Name x pos) (iC (.ty c)):=
 yk (v:=.ty c) (AD hg hm hv U hn hd) λ_ _=>rfl
def mx (g:List D->List W->Option (D×List D)) (o:Ef) (a:Af):Ef
 |env,st=>(o env st).bind λx=>(a env x.2).bind λr=>match x.1 with
 |.h n=>(lg x.2 n).bind λ_=>(lg r.2 n).bind λds=>(g ds r.1).map λy=>(.d y.1,r.2.set n (.l y.2))
 |_=>none
def gf (ds:List D):List W->Option (D×List D)
 |[.d x]=>if ds.length<1000000 then some (.non,ds++[x]) else none
 |_=>none
def Cg {name:Str}{id:String}{C:Pos}{rr:V->List V->Hp->VK->Prop}{g:List D->List W->Option (D×List D)} (slot:Slot "list" name id) (hty:typeOf (.builtin id)=pure (.type "method_descriptor")) (hm:MtR X id rr)
  (hg:∀ (H:Hp) (φ:List Addr) (st:Sto) (n:Nat) (ad:Addr) (ds:List D) (G:List V) (ws:List W) (E:List V) (y:D×List D) (Q:VK),Sr K H φ st->φ[n]?=some ad->lg st n=some ds->H ad=some (.lst G)->Rls K H φ ds G->Rws K H φ ws E->g ds ws=some y->
    (∀ v vs',Rl K H φ y.1 v->Rls K H φ y.2 vs'->(∀ b,v≠.ref b)->Q v (upd H ad (.lst vs')))->rr (.ref ad) E H Q)
  (hfl:∀ ds ws y,g ds ws=some y->cK y.1=true)
  (ho:IE K X a fa) (ha:IA K X (e::es) af) (M:qdv a name X.env (eval a X.env)=eval a X.env:=by rfl)
  (F:(e::es).all ax=true:=by rfl) (L:(e::es).length<30:=by decide) (J:(C.endLine==pos.line)=true:=by rfl) (O:X.K=K:=by rfl) :
  IE K X (.Call (.Attribute a name C) (e::es) [] pos) (mx g fa af):=by
 have R:=by rw[qbD,qba]at F;exact F
 refine⟨λenv st r hr=>?_⟩;simp only[mx,qab]at hr;obtain⟨⟨x,s1⟩,hx,⟨ws,s2⟩,hw,hr⟩:=hr;cases x with
 |d x=>cases hr
 |h n=>
  simp only[qab,qad]at hr;obtain⟨ds1,hds1,ds,hds,y,hy,rfl⟩:=hr;refine (BD qfM slot hty hm (ho.run _ _ _ hx) (ha.run _ _ _ hw) M (sK F L) J (aP R.1) (bq R.2)).imp ?_
  rintro σ H Q ⟨φ,hE,hS,q⟩
  refine⟨φ,hE,hS,λv H1 φ1 f1 S1 w1=>?_⟩;obtain⟨ad,ea,rfl⟩:=w1;obtain⟨vs1,hv1,_⟩:=S1.atl n ad _ ea hds1;refine⟨.inl ⟨U,vs1,SqL.of hv1⟩,φ1,hE.fw hS f1,S1,λE H2 φ2 f2 S2 w2=>?_⟩;have ea2:=f2.get ea;obtain⟨vs2,hv2,rl2⟩:=S2.atl n ad ds ea2 hds;refine hg H2 φ2 s2 n ad ds vs2 ws E y _ S2 ea2 hds hv2 rl2 w2 hy λv vs' A r2 hb=>?_;obtain⟨f3,S3⟩:=S2.put ea2 r2;exact q v _ φ2 ((f1.trans f2).trans f3) S3 (A.fw S2 f3)
def iy {C:Pos} (ho:IE K X a fa) (ha:IA K X (e::es) af) (M:qdv a "append" X.env (eval a X.env)=eval a X.env:=by rfl)
  (F:(e::es).all ax=true:=by rfl) (L:(e::es).length<30:=by decide) (J:(C.endLine==pos.line)=true:=by rfl) (O:X.K=K:=by rfl) :
  IE K X (.Call (.Attribute a "append" C) (e::es) [] pos) (mx gf fa af):=by
 refine Cg PySem.F.slot_list_append PySem.F.type_list_append xi (λH φ st n ad ds G ws E y Q S ea eds hv rl rw hy q=>?_) (λds ws y h=>?_) ho ha M F L J O
 ·match ws,hy with
  |[.d x],hy=>
   simp only[gf]at hy;split at hy
   ·rename_i hl
    cases hy;obtain⟨v,r,rfl,A,rfl⟩:=rw;exact⟨ad,G,v,U,U,hv,by rw[<-rl.length];exact qaV hl mil,q _ _ U (rl.append ⟨v,_,U,A,U⟩) (λb z=>nomatch z)⟩
   ·cases hy
 ·match ws,h with
  |[.d x],h=>
   simp only[gf]at h;split at h
   ·cases h;rfl
   ·cases h
end
section
variable {K:qae}{X:Cx}{e a b:Expr}{es:List Expr}{pos:Pos}{f G I:Ef}{af:Af}
def rL (K:qae) (st:Sto) (x y:W) (ds:List D):R2:=λJ F H Q=>∃ φ,Sr K H φ st/\Rw K H φ x J/\Rw K H φ y F/\∀ p i,H p=none->Rls K H φ ds i->Q (.ref p) (upd H p (.lst i))
structure OpL (K:qae) (X:Cx) (f:Value->Value->Sem Value) (g:Sto->W->W->Option (List D)):Prop where
 run:∀ st x y d,g st x y=some d->OpR X f (rL K st x y d)
def rH (g:Sto->W->W->Option (List D)) (a b:Ef):Lf
 |env,st=>(a env st).bind λx=>(b env x.2).bind λy=>(g y.2 x.1 y.1).map λd=>(d,y.2)
def ve {op:Operator}{g:Sto->W->W->Option (List D)} (ho:OpL K X (qbH op) g) (ha:IE K X a G) (hb:IE K X b I):IL K X (.BinOp a op b pos) (rH g G I):=by
 refine⟨λenv st r P=>?_⟩;simp only[rH,qab,qad]at P;obtain⟨x,hx,y,R,d,hd,rfl⟩:=P;refine (BF (ho.run _ _ _ _ hd) (ha.run _ _ _ hx) (hb.run _ _ _ R)).imp ?_
 rintro σ H Q ⟨φ,M,B,q⟩
 exact⟨φ,M,B,λv H1 C O s1 w1=>⟨C,M.fw B O,s1,λu H2 w N L w2=>⟨w,L,w1.fw s1 N,w2,λp i E r=>q p i H2 w (O.trans N) L E r⟩⟩⟩
def mM (_:Sto):W->W->Option (List D)
 |.d (.lst a),.d (.int k)=>if a.length<=1000/\-1000<=k/\k<1000 then some (qaG k.toNat a).flatten else none
 |_,_=>none
def qB:OpL K X (qbH .Mult) mM:=by
 refine⟨λst x y d h=>?_⟩
 match x,y,h with
 |.d (.lst as),.d (.int k),h=>
  simp only[mM]at h;split at h
  ·rename_i hl
   cases h;refine vO.imp ?_
   rintro J F H Q ⟨φ,S,⟨a,i,rfl,h0,s,l⟩,r2,q⟩
   refine⟨a,k,i,U,r2,s,by lia,by lia,?_,λp E=>q p _ E (l.rep _)⟩;rw[<-l.length]
   have:as.length*k.toNat<=1000*1000:=qc4 hl.1 (by lia)
   exact qaY this mil
  ·cases h
def tX (x:Int):List Int->List Int
 |[]=>[x]
 |y::c=>if x<=y then x::y::c else y::tX x c
def pT:List Int->List Int
 |[]=>[]
 |x::xs=>tX x (pT xs)
def ku (x:Int):∀ c,(tX x c).Perm (x::c)
 |[]=>qdi _
 |y::c=>by
  unfold tX;split
  ·exact qdi _
  ·exact (List.Perm.cons y (ku x c)).trans (List.Perm.swap x y c)
def kP:∀ xs,(pT xs).Perm xs
 |[]=>qdi _
 |x::xs=>(ku x _).trans (List.Perm.cons x (kP xs))
def kN (x:Int):∀ {c:List Int},c.Pairwise (·<=·)->(tX x c).Pairwise (·<=·)
 |[],_=>by simp[tX]
 |y::c,h=>by
  unfold tX;split
  ·rename_i A
   refine qbo.mpr ⟨λz j=>?_,h⟩;rcases qaA.mp j with rfl|j
   ·exact A
   ·exact qfn A ((qbo.mp h).1 z j)
  ·refine qbo.mpr ⟨λz j=>?_,kN x (qbo.mp h).2⟩
   rcases qaA.mp ((ku x c).mem_iff.mp j) with rfl|j
   ·lia
   ·exact (qbo.mp h).1 z j
def iZ:∀ xs,(pT xs).Pairwise (·<=·)
 |[]=>List.Pairwise.nil
 |x::xs=>kN x (iZ xs)
def sJ {xs c:List Int} (p:xs.Perm c) (s:xs.Pairwise (·<=·)) (l:c.Pairwise (·<=·)):xs=c:=
 qfl (λa b _ _ s l=>Int.le_antisymm s l) s l p
def jW:∀ {ns:List Int}{i:List Value},qcC i ns->aG (ns.map V.int) i
 |_,_,.nil=>.nil
 |_,_,.cons n t h=>.cons ⟨t,U⟩ (jW h)
def Bc {H:Hp}{ad:Addr}{ns:List Int}{m:Fn} (Y:zN H) (B:SqL K H ad (ns.map V.int)) (h:∃ st,m [.d (.scr ns)] []=some (.d (.bl true),st)):spI K m [.ref ad] H (λv _=>v=.bl true) λ_ _ _=>False:=by
 obtain⟨st,h⟩:=h;refine⟨_,_,_,_,h,⟨_,_,U,⟨ad,U,?_⟩,U⟩,⟨qcW,U,λn a ds e=>by simp at e⟩,λv H' T _ _ r=>r⟩;rcases B with (h|h)|h
 ·rcases Y ad with z|⟨o,xs,z⟩
  ·rw[h]at z;cases z
  ·rw[h]at z;cases z
 ·exact .inl h
 ·exact .inr h
end
end L2
namespace L2
open PySem
def bF {g:Tg}{body:Sf}:∀ {ds:List D} (Pv:Nat->Ev->Sto->Prop) {env:Ev}{st:Sto},Pv 0 env st->
  (∀ i d env st,ds[i]?=some d->Pv i env st->∃ h f e,cA g (.d d) env=some h/\(body h st=some (.nx f e)\/body h st=some (.ct f e))/\Pv (i+1) f e)->
  ∃ a b,cw g body ds env st=some (.nx a b)/\Pv ds.length a b
 |[],Pv,env,st,j,_=>⟨env,st,U,j⟩
 |d::ds,Pv,env,st,j,k=>by
  obtain⟨h,f,e,o,c,l⟩:=k 0 d env st U j;obtain⟨r,s',m,n⟩:=bF _ l λi q a b hd p=>k (i+1) q a b (by simpa using hd) p;refine⟨r,s',?_,n⟩;unfold cw;rw[o,qaa];rcases c with c|c<;>(rw[c];exact m)
def f9 {g:Tg}{tt:Tf}{te:Ef}{env:Ev}:∀ {ds:List D} (Pv:Nat->List D->Sto->Prop) {st:Sto}{ys0:List D},Pv 0 ys0 st->
  (∀ i d b st,ds[i]?=some d->Pv i b st->∃ e,cA g (.d d) env=some e/\((∃ s1 x j,tt e st=some (true,s1)/\te e s1=some (.d x,j)/\Pv (i+1) (b++[x]) j)\/∃ s1,tt e st=some (false,s1)/\Pv (i+1) b s1))->
  ∃ b a,lcI g tt te env ds st=some (b,a)/\Pv ds.length (ys0++b) a
 |[],Pv,st,ys0,h,_=>⟨_,st,U,by rw[qb0];exact h⟩
 |d::ds,Pv,st,ys0,h,o=>by
  obtain⟨e,q,f⟩:=o 0 d ys0 st U h;rcases f with⟨s1,x,j,f,r,k⟩|⟨s1,f,k⟩
  ·obtain⟨b,s',l,m⟩:=f9 _ k λi n c a hd p=>o (i+1) n c a (by simpa using hd) p
   refine⟨_,s',?_,by simpa using m⟩;unfold lcI;rw[q,qaa,f,qaa,r,qaa,l];rfl
  ·obtain⟨b,s',l,m⟩:=f9 _ k λi n c a hd p=>o (i+1) n c a (by simpa using hd) p
   refine⟨b,s',?_,by simpa using m⟩;unfold lcI;rw[q,qaa,f,qaa,iFN qaL,l]
def jL {g:Tg}{tt:Tf}{te:Ef}{env:Ev}{st:Sto} (p:D->Bool) (F:D->D):∀ {ds:List D},(∀ d∈ds,∃ a,cA g (.d d) env=some a/\tt a st=some (p d,st)/\(p d=true->te a st=some (.d (F d),st)))->
  lcI g tt te env ds st=some ((ds.filter p).map F,st)
 |[],_=>rfl
 |d::ds,h=>by
  obtain⟨a,e,i,c⟩:=h d qaf;have b:=jL p F λx f=>h x (qak _ f);unfold lcI;rw[e,qaa,i,qaa];cases hp:p d with
  |true=>rw[c hp,qaa,b,qed,hp];rfl
  |false=>rw[b,qed,hp];rfl
def iE {g:Tg}{te:Ef}{env:Ev}{st:Sto} (F:D->D) {ds:List D} (h:∀ d∈ds,∃ a,cA g (.d d) env=some a/\te a st=some (.d (F d),st)):lcI g aK te env ds st=some (ds.map F,st):=by
 have:=jL (tt:=aK) _ F λd hd=>by
  obtain⟨a,b,c⟩:=h d hd;exact⟨a,b,U,λ_=>c⟩
 rw[this,qgO.mpr λ_ _=>rfl]
def cn (st:Sto) (n:Nat):Prop:=∃ x y z:Int,0<=x/\st[n]?=some (.l [.int x,.int y,.int z])
def Stp (n:Nat) (st a:Sto):Prop:=(∃ v,a=st.set n v)/\cn a n
def cn.lt {st:Sto}{n:Nat} (h:cn st n):n<st.length:=by
 obtain⟨x,y,z,_,e⟩:=h;exact (qas.mp e).1
def Stp.refl {st:Sto}{n:Nat} (h:cn st n):Stp n st st:=by
 exact⟨⟨_,(List.set_getElem_self (h.lt)).symm⟩,h⟩
def Stp.trans {n:Nat}{a b c:Sto} (h:Stp n a b) (h':Stp n b c):Stp n a c:=by
 obtain⟨⟨v,rfl⟩,_⟩:=h;obtain⟨⟨u,rfl⟩,q⟩:=h';exact⟨⟨u,by rw[qfc]⟩,q⟩
def Stp.hand {n:Nat}{a b:Sto} (h:Stp n a b):cn b n:=h.2
def gm {a b:Int} (h:-(2^64)<a/\a<2^64):qbI a b:=zL.ok (.inl h)
def dO {a b:Int} (h:-(2^64)<b/\b<2^64):qbI a b:=zL.ok (.inr h)
def jx {st:Sto}{n:Nat}{v:C} (h:n<st.length):(st.set n v)[n]?=some v:=qbq h
def xN {α:Type} (a:α) (l:List α):atI (a::l) 0=some a:=bN U
def DR {α:Type} (a b:α) (l:List α):atI (a::b::l) 1=some b:=bN U
def B2 {α:Type} (a b c:α) (l:List α):atI (a::b::c::l) 2=some c:=bN U
def FL (n:Nat):ixN (n+1) 0=some 0:=dg (by lia)
def El (n:Nat):ixN (n+2) 1=some 1:=dg (by lia)
def Cs (n:Nat):ixN (n+3) 2=some 2:=dg (by lia)
def gw {n i:Nat}{d:D} (h:(bK 0 n)[i]?=some d):d=.int (i:Int)/\i<n:=by
 rw[sH]at h;by_cases hi:i<n
 ·rw[iFP hi]at h
  cases h;exact⟨by rw[qch],hi⟩
 ·rw[iFN hi]at h;cases h
end L2
namespace L2
open PySem PySem.Spec PyProof.Rows
def DX:Nat->Nat->StateT qbZ Sem (Option Nat):=sortPriv% PySem.Builtin.countRun
def B4:Nat->Nat->Nat->StateT qbZ Sem Bool:=sortPriv% PySem.Builtin.binarySort
def Cm (prog:qaN) (w:World) (A:qa0) (s:qaj) (a:qdd) (O:qe6) (rk:Keyed->O.α) (S:Keyed->Prop):Prop:=
 ∀ x y,S x->S y->∀ (Q:Bool->qaj->Prop) (E:Value->qaj->Prop),Q (O.blt (rk x) (rk y)) s->wpAny (model prog w) A (keyLt' a x.1 y.1) Q E s
section
variable {prog:qaN}{w:World}{A:qa0}{E:Value->qaj->Prop}{s:qaj}{κ:qdd}{O:qe6}{rk:Keyed->O.α}{S:Keyed->Prop}
def Fq (z:Cm prog w A s κ O rk S) {x y:Keyed}{st:qbZ}{Q:Option Bool->qbZ->Prop} (r:kindOf st=κ) (F:S x) (D:S y) (h:Q (some (O.blt (rk x) (rk y))) st) :
  wpS (model prog w) A E s (lt' x y) Q st:=by
 rw[lt'_eq];refine qby (qgS ?_);rw[r];exact qby (wpS_lift (qet (z x y F D _ _ ⟨U,qb9 h⟩)))
def kW {c:Prop} [Decidable c] {M:Model}{A':qa0}{E':Value->qaj->Prop}{s':qaj}{α:Type}{a b:StateT qbZ Sem α}{Q:α->qbZ->Prop}{st:qbZ} (h:c) (k:wpS M A' E' s' a Q st):wpS M A' E' s' (if c then a else b) Q st:=by rw[iFP h];exact k
def oH {c:Prop} [Decidable c] {M:Model}{A':qa0}{E':Value->qaj->Prop}{s':qaj}{α:Type}{a b:StateT qbZ Sem α}{Q:α->qbZ->Prop}{st:qbZ} (h:¬ c) (k:wpS M A' E' s' b Q st):wpS M A' E' s' (if c then a else b) Q st:=by rw[iFN h];exact k
def wm {f:Array Keyed}{i:Nat}{x:Keyed}{st:qbZ}{Q:Keyed->qbZ->Prop} (hi:f[i]?=some x) (h:Q x st):wpS (model prog w) A E s (elem' f i) Q st:=by
 rw[elem'_eq,hi];exact qb9 h
def wo {t:String}{st:qbZ}{Q:Unit->qbZ->Prop} (h:Q () st):wpS (model prog w) A E s (liftM (rule t):StateT qbZ Sem Unit) Q st:=wpS_lift (qej ⟨U,h⟩)
def kyd (f:Array Keyed) (i:Nat):Keyed:=(f[i]?).getD (.none,.none)
def mK {f:Array Keyed}{i:Nat} (h:i<f.size):f[i]?=some (kyd f i):=by
 unfold kyd;simp[h]
def fH {a b:Array Keyed}{i j:Nat} (h:a[i]?=b[j]?):kyd a i=kyd b j:=by
 unfold kyd;rw[h]
def Bp (z:Cm prog w A s κ O rk S) {i j:Nat}{st:qbZ}{Q:Option Bool->qbZ->Prop} (r:kindOf st=κ) (hi:i<(arrOf st).size) (l:j<(arrOf st).size) (F:S (kyd (arrOf st) i)) (D:S (kyd (arrOf st) j))
  (h:Q (some (O.blt (rk (kyd (arrOf st) i)) (rk (kyd (arrOf st) j)))) st):wpS (model prog w) A E s (ltAt' i j) Q st:=by
 refine qby (qgS ?_);exact qby (wm (mK hi) (qby (wm (mK l) (Fq z r F D h))))
structure SB (κ:qdd) (a0:Array Keyed) (lo:Nat) (p0:Array (Nat×Nat×Nat)) (g0:Nat) (st:qbZ):Prop where
 perm:(arrOf st).Perm a0
 pre:∀ k,k<lo->(arrOf st)[k]?=a0[k]?
 kind:kindOf st=κ
 fail:qgY st=none
 pend:qeN st=p0
 gal:qhW st=g0
variable {a0:Array Keyed}{lo:Nat}{p0:Array (Nat×Nat×Nat)}{g0:Nat}{st:qbZ}
def SB.size (h:SB κ a0 lo p0 g0 st):(arrOf st).size=a0.size:=h.perm.size_eq
def SB.mem (h:SB κ a0 lo p0 g0 st) (C:∀ x∈a0.toList,S x) {i:Nat} (hi:i<a0.size):S (kyd (arrOf st) i):=by
 have m:i<(arrOf st).size:=by rw[h.size];exact hi
 refine C _ ((qfG.mp h.perm).mem_iff.mp ?_);have e:=mK m;rw[qbR m]at e;rw[<-qaP e];exact Array.getElem_mem_toList m
def SB.set (h:SB κ a0 lo p0 g0 st) {xs:Array Keyed} (J:xs.Perm (arrOf st)) (B:∀ k,k<lo->xs[k]?=(arrOf st)[k]?):SB κ a0 lo p0 g0 (setArr st xs):=
 ⟨J.trans h.perm,λk r=>(B k r).trans (h.pre k r),h.kind,h.fail,h.pend,h.gal⟩
def wl (z:Cm prog w A s κ O rk S) (C:∀ x∈a0.toList,S x) (p:SB κ a0 lo p0 g0 st) {i j:Nat}{Q:Option Bool->qbZ->Prop} (hi:i<a0.size) (l:j<a0.size)
  (h:Q (some (O.blt (rk (kyd (arrOf st) i)) (rk (kyd (arrOf st) j)))) st):wpS (model prog w) A E s (ltAt' i j) Q st:=
 Bp z p.kind (by rw[p.size];exact hi) (by rw[p.size];exact l) (p.mem C hi) (p.mem C l) h
def Up (rk:Keyed->O.α) (f:Array Keyed) (lo n:Nat):Prop:=∀ i j,lo<=i->i<=j->j<lo+n->O.kle (rk (kyd f i)) (rk (kyd f j))
def iO (rk:Keyed->O.α) (f:Array Keyed) (lo n:Nat):Prop:=∀ i j,lo<=i->i<=j->j<lo+n->O.kle (rk (kyd f j)) (rk (kyd f i))
def jd {xs:Array Keyed}{i j:Nat} (l:j<=xs.size) (k:Nat):kyd (qjr xs i j ((j - i) / 2)) k=if i<=k/\k<j then kyd xs (i+j - 1 - k) else kyd xs k:=by
 have e:=qhJ (i:=i) l k;by_cases q:i<=k/\k<j
 ·rw[iFP q]at e ⊢;exact fH e
 ·rw[iFN q]at e ⊢;exact fH e
def mL {xs:Array Keyed}{g d:Nat} (K:g<xs.size) (hd:d<=g) (k:Nat) :
  kyd (bubble xs g d) k=if k=g - d then kyd xs g else if g - d<k/\k<=g then kyd xs (k - 1) else kyd xs k:=by
 have e:=qjt K d hd k;by_cases q:k=g - d
 ·rw[iFP q]at e ⊢;exact fH e
 ·rw[iFN q]at e ⊢
  by_cases I:g - d<k/\k<=g
  ·rw[iFP I]at e ⊢;exact fH e
  ·rw[iFN I]at e ⊢;exact fH e
def SB.rev (p:SB κ a0 lo p0 g0 st) {i j:Nat} (hi:lo<=i) (l:j<=a0.size):SB κ a0 lo p0 g0 (setArr st (qjr (arrOf st) i j ((j - i) / 2))):=
 p.set (mirror_perm _ _ _ _) λk r=>by
  rw[qhJ (by rw[p.size];exact l),iFN (by lia)]
def ig {xs:Array Keyed}{i j:Nat} (l:j<=xs.size) (H:∀ k,i<=k->k<j->rk (kyd xs k)=rk (kyd xs (j - 1))) (k:Nat):rk (kyd (qjr xs i j ((j - i) / 2)) k)=rk (kyd xs k):=by
 rw[jd l];split
 ·rw[H _ (by lia) (by lia),H k (by lia) (by lia)]
 ·rfl
def qT {i j:Nat}{Q:Unit->qbZ->Prop} (h:Q () (setArr st (qjr (arrOf st) i j ((j - i) / 2)))):wpS (model prog w) A E s (reverseSlice' i j) Q st:=by
 exact qgE h
def Up.more {f:Array Keyed}{n:Nat} (h:Up rk f lo n) (q:1<=n) (B:O.kle (rk (kyd f (lo+n - 1))) (rk (kyd f (lo+n)))):Up rk f lo (n+1):=by
 intro i j hi o l;by_cases v:j<lo+n
 ·exact h i j hi o v
 ·have u:j=lo+n:=by lia
  subst u;by_cases m:i=lo+n
  ·subst m;exact qcJ _
  ·exact qdA (h i _ hi (by lia) (by lia)) B
def iO.more {f:Array Keyed}{n:Nat} (h:iO rk f lo n) (q:1<=n) (B:O.kle (rk (kyd f (lo+n))) (rk (kyd f (lo+n - 1)))):iO rk f lo (n+1):=by
 intro i j hi o l;by_cases v:j<lo+n
 ·exact h i j hi o v
 ·have u:j=lo+n:=by lia
  subst u;by_cases m:i=lo+n
  ·subst m;exact qcJ _
  ·exact qdA B (h i _ hi (by lia) (by lia))
def Up.one {f:Array Keyed}:Up rk f lo 1:=λi j hi o l=>by
 have:i=j:=by lia
 subst this;exact qcJ _
def iO.congr {xs G:Array Keyed}{n:Nat} (h:iO rk xs lo n) (e:∀ k,rk (kyd G k)=rk (kyd xs k)):iO rk G lo n:=λi j hi o l=>by
 rw[e,e];exact h i j hi o l
end
section
variable {prog:qaN}{w:World}{A:qa0}{E:Value->qaj->Prop}{s:qaj}{C:qdd}{O:qe6}{rk:Keyed->O.α}{S:Keyed->Prop}
variable {a0:Array Keyed}{lo:Nat}{K:Array (Nat×Nat×Nat)}{J:Nat}{st:qbZ}
def zH {o b:Nat}{f:Nat->Option (Option Nat)×Nat->StateT qbZ Sem (ForInStep (Option (Option Nat)×Nat))}{Q:Option (Option Nat)×Nat->qbZ->Prop}
  (hf:∀ x n (Q':ForInStep (Option (Option Nat)×Nat)->qbZ->Prop),1<=n->n < b->(O.blt (rk (kyd (arrOf st) (lo+n))) (rk (kyd (arrOf st) (lo+n - 1)))=true->Q' (.done (none,n)) st)->
    (O.blt (rk (kyd (arrOf st) (lo+n))) (rk (kyd (arrOf st) (lo+n - 1)))=false->Q' (.yield (none,n+1)) st)->wpS (model prog w) A E s (f x (none,n)) Q' st)
  (N:1<=o) (hn:o<=b) (T:Up rk (arrOf st) lo o)
  (h:∀ n,o<=n->n<=b->Up rk (arrOf st) lo n->(n=b\/O.klt (rk (kyd (arrOf st) (lo+n))) (rk (kyd (arrOf st) (lo+n - 1))))->Q (none,n) st):wpS (model prog w) A E s (forIn [o:b] (none,o) f) Q st:=by
 refine qd6 (I:=λx c a=>a=st/\c=(none,x)/\Up rk _ lo x) ?_ ?_ ⟨U,U,T⟩
 ·rintro x c a hx Y ⟨rfl,rfl,y⟩
  exact hf x x _ (by lia) Y (λl=>h x hx (by lia) y (.inr l)) λl=>⟨U,U,y.more (by lia) l⟩
 ·rintro c a ⟨rfl,rfl,y⟩
  rw[show max o b=b by lia]at y ⊢;exact h b hn (qap _) y (.inl U)
def Eqs (rk:Keyed->O.α) (H:Array Keyed) (lo m q:Nat):Prop:=q+1<=m/\∀ i,lo+m - (q+1)<=i->i<lo+m->rk (kyd H i)=rk (kyd H (lo+m - 1))
def Bo {o b:Nat}{f:Nat->Option (Option Nat)×Nat×Nat->StateT qbZ Sem (ForInStep (Option (Option Nat)×Nat×Nat))}{Q:Option (Option Nat)×Nat×Nat->qbZ->Prop}
  (hf:∀ x n q a (Q':ForInStep (Option (Option Nat)×Nat×Nat)->qbZ->Prop),1<=n->n < b->SB C a0 lo K J a->
    (O.blt (rk (kyd (arrOf a) (lo+n))) (rk (kyd (arrOf a) (lo+n - 1)))=true->0<q->Q' (.yield (none,n+1,0)) (setArr a (qjr (arrOf a) (lo+n - (q+1)) (lo+n) ((lo+n - (lo+n - (q+1))) / 2))))->
    (O.blt (rk (kyd (arrOf a) (lo+n))) (rk (kyd (arrOf a) (lo+n - 1)))=true->q=0->Q' (.yield (none,n+1,0)) a)->
    (O.blt (rk (kyd (arrOf a) (lo+n - 1))) (rk (kyd (arrOf a) (lo+n)))=true->Q' (.done (none,n,q)) a)->
    (O.blt (rk (kyd (arrOf a) (lo+n))) (rk (kyd (arrOf a) (lo+n - 1)))=false->O.blt (rk (kyd (arrOf a) (lo+n - 1))) (rk (kyd (arrOf a) (lo+n)))=false->Q' (.yield (none,n+1,q+1)) a)->
    wpS (model prog w) A E s (f x (none,n,q)) Q' a)
  (N:1<=o) (hn:o<=b) (hz:lo+b<=a0.size) (t:SB C a0 lo K J st) (hd:iO rk (arrOf st) lo o)
  (h:∀ n q a,o<=n->n<=b->SB C a0 lo K J a->iO rk (arrOf a) lo n->Eqs rk (arrOf a) lo n q->Q (none,n,q) a):wpS (model prog w) A E s (forIn [o:b] (none,o,0) f) Q st:=by
 have one:∀ (H:Array Keyed) m,1<=m->Eqs rk H lo m 0:=λH m hm=>⟨by lia,λi N h2=>by rw[show i=lo+m - 1 by lia]⟩;refine qd6 (I:=λx c a=>∃ q,c=(none,x,q)/\SB C a0 lo K J a/\iO rk (arrOf a) lo x/\Eqs rk (arrOf a) lo x q) ?_ ?_ ⟨0,U,t,hd,one _ _ N⟩
 ·rintro x c a hx Y ⟨q,rfl,e,y,G⟩
  have B:lo+x<=(arrOf a).size:=by rw[e.size];lia
  refine hf x x q a _ (by lia) Y e (λl L=>?_) (λl L=>?_) (λl=>h x q a hx (by lia) e y G) λl R=>?_
  ·exact⟨0,U,e.rev (by have:=G.1;lia) (by lia),iO.congr (y.more (by lia) (qdl l)) (ig (rk:=rk) (xs:=arrOf a) (j:=lo+x) B G.2),one _ _ (by lia)⟩
  ·exact⟨0,U,e,y.more (by lia) (qdl l),one _ _ (by lia)⟩
  ·have eq:=qgs R l
   refine⟨_,U,e,y.more (by lia) (by rw[eq];exact qcJ _),by have:=G.1;lia,λi N h2=>?_⟩;rw[show lo+_ - 1=lo+x by lia,eq];by_cases hi:i=lo+x
   ·rw[hi,eq]
   ·exact G.2 i (by lia) (by lia)
 ·rintro c a ⟨q,rfl,e,y,G⟩
  rw[show max o b=b by lia]at y G ⊢;exact h b q a hn (qap _) e y G
def DF {m b:Nat}{f:Nat->Option (Option Nat)×Nat->StateT qbZ Sem (ForInStep (Option (Option Nat)×Nat))}{k:Option (Option Nat)×Nat->StateT qbZ Sem (Option Nat)}{Q:Option Nat->qbZ->Prop}
  (t:SB C a0 lo K J st) (hd:iO rk (arrOf st) lo m) (N:1<=m) (hm:m<=b) (hz:lo+b<=a0.size)
  (hf:∀ x n (Q':ForInStep (Option (Option Nat)×Nat)->qbZ->Prop) d,SB C a0 lo K J d->1<=n->n < b->(O.blt (rk (kyd (arrOf d) (lo+n))) (rk (kyd (arrOf d) (lo+n - 1)))=true->Q' (.done (none,n)) d)->
    (O.blt (rk (kyd (arrOf d) (lo+n))) (rk (kyd (arrOf d) (lo+n - 1)))=false->Q' (.yield (none,n+1)) d)->wpS (model prog w) A E s (f x (none,n)) Q' d)
  (hk:∀ n d,SB C a0 lo K J d->1<=n->n<=b->Up rk (arrOf d) lo n->wpS (model prog w) A E s (k (none,n)) Q d) :
  wpS (model prog w) A E s (do reverseSlice' lo (lo+m);let r <-forIn [m:b] (none,m) f;k r) Q st:=by
 refine qby (qT ?_);have v:=t.rev (j:=lo+m) (qap _) (by lia);refine qby (zH (λx n Q' u z hy F=>hf x n Q' _ v u z hy F) N hm ?_ λn' V D hu' _=>hk n' _ v (by lia) D hu');intro i j hi hij hj;have hs3:lo+m<=(arrOf st).size:=by rw[t.size];lia
 rw[jd hs3,jd hs3,iFP (by lia),iFP (by lia)];exact hd _ _ (by lia) (by lia) (by lia)
set_option maxHeartbeats 1000000 in
def Bn (hC:Cm prog w A s C O rk S) (hS:∀ x∈a0.toList,S x) {b:Nat}{Q:Option Nat->qbZ->Prop} (t:SB C a0 lo K J st) (N:1<=b) (hz:lo+b<=a0.size)
  (h:∀ m a,SB C a0 lo K J a->1<=m->m<=b->Up rk (arrOf a) lo m->Q (some m) a):wpS (model prog w) A E s (DX lo b) Q st:=by
 have asc:∀ a (_:SB C a0 lo K J a) n (Q':Option Bool->qbZ->Prop),1<=n->n<b->Q' _ a->
   wpS (model prog w) A E s (ltAt' (lo+n) (lo+n - 1)) Q' a:=λa e n Q' N h2 L=>wl hC hS e (by lia) (by lia) L
 refine qby (zH (rk:=rk) (lo:=lo) (λx n Q' u z hy F=>?_) (qap 1) N Up.one λn u z T W=>?_)
 ·refine qby (asc st t n _ u z ?_)
  cases l:O.blt (rk (kyd (arrOf st) (lo+n))) _ with
  |true=>exact qb9 (hy l)
  |false=>exact qb9 (F l)
 dsimp only;by_cases hnn:n=b
 ·refine kW (by simpa using hnn) ?_
  exact qb9 (h n st t u z T)
 refine oH (by simpa using hnn) ?_;have M:=W.resolve_left hnn;have hn3:n+1<=b:=by lia
 have B:lo+n<=(arrOf st).size:=by rw[t.size];lia
 by_cases hgt:n > 1
 case' pos=>
  refine kW hgt ?_;refine qby (wl hC hS t (by lia) (by lia) ?_);by_cases g:O.blt (rk (kyd (arrOf st) lo)) (rk (kyd (arrOf st) (lo+n - 1)))=true
  ·rw[g];exact qb9 (h n st t u z T)
  rw[qeg]at g;rw[g];have p:=λk hk1 hk2=>
   qgs (T k (lo+n - 1) hk1 (by lia) (by lia)) (qdA g (T lo k (by lia) hk1 hk2))
  refine qby (qT ?_);have P:=t.rev (i:=lo) (j:=lo+n) (qap _) (by lia);have hd:=by
   refine iO.congr (xs:=arrOf st) (iO.more (λi j hi hij hj=>?_) (by lia) (qdl M)) (ig B p);rw[p i hi (by lia),p j (by lia) hj];exact qcJ _
  clear T M g p t B W
 case' neg=>
  refine oH hgt ?_;have P:=t;have hd:iO rk (arrOf st) lo (n+1):=by
   refine iO.more (λi j hi hij hj=>?_) (by lia) (qdl M);rw[show i=j by lia];exact qcJ _
  clear T M t B W
  revert P hd
  generalize st=st2;intro P hd
 all_goals
  refine qby (wo ?_);refine qby (Bo (λx m q a Q' hm1 X e c1 c2 c3 c4=>?_) (by lia) hn3 hz P hd λm q a hm1 X e hd' G=>?_)
  ·refine qby (asc a e m _ hm1 X ?_)
   cases l:O.blt (rk (kyd (arrOf a) (lo+m))) _ with
   |true=>
    dsimp only;refine kW U ?_;by_cases L:q > 0
    ·rw[iFP L];exact qby (qT (qb9 (c1 l L)))
    ·rw[iFN L];exact qb9 (c2 l (by lia))
   |false=>
    dsimp only;refine qby (wl hC hS e (by lia) (by lia) ?_);cases R:O.blt _ (rk (kyd (arrOf a) (lo+m))) with
    |true=>exact qb9 (c3 R)
    |false=>exact qb9 (c4 l R)
  have hsz':lo+m<=(arrOf a).size:=by rw[e.size];lia
  dsimp only;by_cases L:q > 0
  case' pos=>
   refine kW L ?_;refine qby (qT ?_);have hB3:=e.rev (i:=lo+m - (q+1)) (j:=lo+m) (by have:=G.1;lia) (by lia);have hd3:=iO.congr hd' (ig hsz' G.2)
  case' neg=>
   refine oH L ?_;have hB3:=e;have hd3:=hd'
  all_goals
   refine DF hB3 hd3 (by lia) X hz (λx n' Q' d v V D hy F=>?_) λn' d v a1 a2 a3=>qb9 (h n' d v a1 a2 a3);refine qby (asc d v n' _ V D ?_);cases l:O.blt (rk (kyd (arrOf d) (lo+n'))) _ with
   |true=>exact qb9 (hy l)
   |false=>exact qb9 (F l)
end
section
variable {prog:qaN}{w:World}{A:qa0}{E:Value->qaj->Prop}{s:qaj}{u:qdd}{O:qe6}{rk:Keyed->O.α}{S:Keyed->Prop}
variable {a0:Array Keyed}{lo:Nat}{C:Array (Nat×Nat×Nat)}{B:Nat}{st:qbZ}
set_option maxHeartbeats 1000000 in
def zI (K:Cm prog w A s u O rk S) (M:∀ x∈a0.toList,S x) {n ok:Nat}{Q:Bool->qbZ->Prop} (P:SB u a0 lo C B st) (t:1<=ok) (hok:ok<=n) (V:lo+n<=a0.size) (G:Up rk (arrOf st) lo ok)
  (h:∀ a,SB u a0 lo C B a->Up rk (arrOf a) lo n->Q true a):wpS (model prog w) A E s (B4 lo n ok) Q st:=by
 refine qby (qhS (qd6 (I:=λk c a=>c=(none,())/\SB u a0 lo C B a/\Up rk (arrOf a) lo (min k n)) (Q:=λc a=>c=(none,())/\SB u a0 lo C B a/\Up rk (arrOf a) lo n) ?_ ?_ ?_) ?_)
 ·rintro k c a R J ⟨rfl,d,o⟩
  dsimp only
  refine qby (qhS (qd6 (I:=λx c b=>b=a/\∃ l r,c=(none,l,r)/\l<=r/\r<=k/\r - l<=k - x/\(∀ i,i < l->O.kle (rk (kyd (arrOf a) (lo+i))) (rk (kyd (arrOf a) (lo+k))))/\
    ∀ i,r<=i->i<k->O.klt (rk (kyd (arrOf a) (lo+k))) (rk (kyd (arrOf a) (lo+i))))
   (Q:=λc b=>b=a/\∃ l r,c=(none,l,r)/\l<=k/\(∀ i,i<l->O.kle (rk (kyd (arrOf a) (lo+i))) (rk (kyd (arrOf a) (lo+k))))/\∀ i,l<=i->i<k->O.klt (rk (kyd (arrOf a) (lo+k))) (rk (kyd (arrOf a) (lo+i)))) ?_ ?_ ?_) ?_)
  ·rintro x c b _ N ⟨rfl,l,r,rfl,D,q,hm,g,f⟩
   dsimp only;by_cases y:l>=r
   ·refine kW y ?_
    have e:l=r:=by lia
    subst e;exact qb9 ⟨U,l,l,U,q,g,f⟩
   ·refine oH y ?_
    refine qby (wl K M d (by lia) (by lia) ?_);cases hl:O.blt (rk (kyd (arrOf b) (lo+k))) _ with
    |true=>exact qb9 ⟨U,l,(l+r) / 2,U,by lia,by lia,by lia,g,λi t F=>KeyOrd.klt_of_klt_of_kle hl (o _ _ (by lia) (by lia) (by lia))⟩
    |false=>exact qb9 ⟨U,(l+r) / 2+1,r,U,by lia,by lia,by lia,λi t=>qdA (o (lo+i) (lo+(l+r) / 2) (by lia) (by lia) (by lia)) hl,f⟩
  ·rintro c b ⟨rfl,l,r,rfl,D,q,hm,g,f⟩
   have e:l=r:=by lia
   subst e;exact⟨U,l,l,U,q,g,f⟩
  ·exact⟨U,0,k,U,by lia,by lia,by lia,λi hi=>by lia,λi t F=>by lia⟩
  ·rintro c b ⟨rfl,l,r,rfl,L,g,f⟩
   dsimp only;refine qby (m:=moveDown' (lo+k) (lo+l)) ?_;rw[moveDown'_eq];have p:lo+k<(arrOf b).size:=by rw[d.size];lia
   refine qgE (qb9 ⟨U,d.set (bubble_perm _ _ _) λi hi=>?_,?_⟩)
   ·rw[qjt p _ (by lia),iFN (by lia),iFN (by lia)]
   ·intro i j hi H T
    rw[mL p (by lia),mL p (by lia),show lo+k - (lo+k - (lo+l))=lo+l by lia];have v:∀ i,lo<=i->i<lo+l->O.kle (rk (kyd (arrOf b) i)) (rk (kyd (arrOf b) (lo+k))):=λi t F=>by
     have:=g (i - lo) (by lia);rwa [show lo+(i - lo)=i by lia]at this
    have z:∀ i,lo+l<=i->i<lo+k->O.klt (rk (kyd (arrOf b) (lo+k))) (rk (kyd (arrOf b) i)):=λi t F=>by
     have:=f (i - lo) (by lia) (by lia);rwa [show lo+(i - lo)=i by lia]at this
    repeat' split
    all_goals first
     |(exfalso;lia)
     |exact qcJ _
     |exact v _ (by lia) (by lia)
     |exact qdl (z _ (by lia) (by lia))
     |exact o _ _ (by lia) (by lia) (by lia)
 ·rintro c a ⟨rfl,d,o⟩
  rw[show min (max (max ok 1) n) n=n by lia]at o;exact⟨U,d,o⟩
 ·rw[show max ok 1=ok by lia,show min ok n=ok by lia]
  exact⟨U,P,G⟩
 ·rintro c a ⟨rfl,d,o⟩
  exact qb9 (h a d o)
end
section
variable {O:qe6}{rk:Keyed->O.α}
variable {a b c:Array Keyed}{f e:Nat}
variable {na d:Nat}
end
section
variable {prog:qaN}{w:World}{A:qa0}{E:Value->qaj->Prop}{s:qaj}{c:qdd}{O:qe6}{rk:Keyed->O.α}{S:Keyed->Prop}{st:qbZ}{a b:Array Keyed}
end
section
variable {prog:qaN}{w:World}{A:qa0}{E:Value->qaj->Prop}{s:qaj}{e:qdd}{O:qe6}{rk:Keyed->O.α}{S:Keyed->Prop}{st:qbZ}{a b c:Array Keyed}{na d:Nat}
end
section
variable {prog:qaN}{w:World}{A:qa0}{E:Value->qaj->Prop}{s:qaj}{n:qdd}{O:qe6}{rk:Keyed->O.α}{S:Keyed->Prop}{st:qbZ}{k:Array Keyed}{l m:Nat}
def Fo {a:Array Keyed} (h:Up rk a 0 a.size):a.toList.Pairwise λx y=>O.kle (rk x) (rk y):=by
 rw[qfV];intro i j hi f g;have b:=by simpa using hi
 have c:=by simpa using f
 have q:=h i j (qcl _) (by lia) (by lia);have e:=mK b;have d:=mK c;rw[qbR b]at e;rw[qbR c]at d;rw[<-qaP e,<-qaP d]at q;simpa using q
end
section
variable {prog:qaN}{w:World}{A:qa0}{E:Value->qaj->Prop}{s:qaj}{κ:qdd}{O:qe6}{rk:Keyed->O.α}{S:Keyed->Prop}{st:qbZ}{a0:Array Keyed}
structure BX (κ:qdd) (O:qe6) (rk:Keyed->O.α) (a0:Array Keyed) (n1:Nat) (st:qbZ):Prop where
 perm:(arrOf st).Perm a0
 kind:kindOf st=κ
 fail:qgY st=none
 pend:qeN st=#[(0,n1,0)]
 up:Up rk (arrOf st) 0 n1
def Ez {n:Nat} (B:2<=n) (l:n<64):minRun' n n 0=n:=by
 obtain⟨f,rfl⟩:∃ f,n=f+1:=⟨n - 1,by lia⟩;rw[minRun'_succ,iFP (by lia)]
set_option maxHeartbeats 2000000 in
def Bq (v:Cm prog w A s κ O rk S) {Q:Unit->qbZ->Prop} (F:kindOf st=κ) (C:qgY st=none) (G:qeN st=#[]) (q:arrOf st=a0) (z:∀ x∈a0.toList,S x) (B:2<=a0.size) (l:a0.size<64)
  (h:∀ a,(arrOf a).toList.Perm a0.toList->(arrOf a).toList.Pairwise (λx y=>O.kle (rk x) (rk y))->qgY a=none->Q () a):wpS (model prog w) A E s sortRuns' Q st:=by
 obtain⟨k,p,K⟩:∃ k,(sortPriv% PySem.Builtin.minRun) a0.size a0.size 0=k/\k=a0.size:=⟨_,U,Ez B l⟩;refine qby (qgS ?_);have L:(arrOf st).size=a0.size:=by rw[q]
 dsimp only;rw[L,p]
 refine qby (qhS (qd6 (I:=λx c a=>(x=0/\c=(none,0)/\SB κ a0 0 #[] (qhW st) a)\/(c=(none,a0.size)/\BX κ O rk a0 a0.size a/\1<=x))
  (Q:=λc a=>c.1=none/\BX κ O rk a0 a0.size a) ?_ ?_ ?_) ?_)
 ·rintro x c a _ J H
  rcases H with⟨rfl,rfl,M⟩|⟨rfl,g,o⟩
  ·refine oH (by lia) ?_
   refine qby (Bn v z M (by lia) (by lia) λm b i D m2 u=>?_);have put:∀ n d,SB κ a0 0 #[] (qhW st) d->Up rk _ 0 n->n=a0.size->
     BX κ O rk a0 a0.size (qij _ _ ((qeN d).push (0,n,0)) (qhW d) _):=λn d e t hn=>
    ⟨e.perm,e.kind,e.fail,by rw[e.pend,hn];rfl,by rw[<-hn];exact t⟩
   by_cases j:m<k
   ·refine kW j ?_
    refine qby (wo (qby (zI v z i D (by lia) (by lia) u λd e t=>?_)));have hn:min (a0.size - 0) k=a0.size:=by lia
    refine qby (qgS ?_);have hb:(qeN d).back?=none:=by rw[e.pend];rfl
    rw[hb];exact qby (qgE (qb9 (.inr ⟨by rw[qaR,hn],(put _ d e t hn),by lia⟩)))
   ·refine oH j ?_
    have hn:m=a0.size:=by lia
    refine qby (qgS ?_);have hb:(qeN b).back?=none:=by rw[i.pend];rfl
    rw[hb];exact qby (qgE (qb9 (.inr ⟨by rw[qaR,hn],(put m b i u hn),by lia⟩)))
  ·refine kW (qap _) ?_
   exact qb9 ⟨U,g⟩
 ·rintro c a (⟨J,_⟩|⟨rfl,g,o⟩)
  ·lia
  ·exact⟨U,g⟩
 ·exact .inl ⟨U,U,by rw[q],λ_ _=>by rw[q],F,C,G,U⟩
 ·rintro⟨c1,c2⟩ a ⟨rfl,g⟩
  refine qby (qhS (qd6 (I:=λy c b=>c=(none,())/\b=a) (Q:=λc b=>c=(none,())/\b=a) ?_ ?_ ?_) ?_)
  ·rintro y c b _ N ⟨rfl,rfl⟩
   refine qby (qgS ?_);have r:(qeN b).size<=1:=by rw[g.pend];exact qap 1
   refine kW r ?_;exact qb9 ⟨U,U⟩
  ·rintro c b ⟨rfl,rfl⟩
   exact⟨U,U⟩
  ·exact⟨U,U⟩
  ·rintro c b ⟨rfl,rfl⟩
   exact qb9 (h _ (qfG.mp g.perm) (Fo (by rw[g.perm.size_eq];exact g.up)) g.fail)
end
end L2
namespace L2
open PySem PySem.Spec PyProof.Rows PySem.SeqAt
open MeetsSeq MeetsSeq2 MeetsSeq3 SeqRoads2
open AutoSeq1 (wpAny_loadPart')
def nL (A:qa0) (s:qaj) (y x:Value) (b:Bool):Prop:=∀ (prog:qaN) (w:World) (E:Value->qaj->Prop) (Q:Value->qaj->Prop),Q (.bool b) s->wpAny (model prog w) A (richCompare .Lt y x) Q E s
def mR (e l:Nat->Bool) (fin:Bool):Nat->Nat->Bool
 |0,_=>fin
 |k+1,i=>if e i=true then mR e l fin k (i+1) else l i
def nD (p q:Addr) (a c:Array Value) (n S:Nat) (M D:Option Addr) (N E:Array (Option Value)) (e l:Nat->Bool) :
  Meets (qfg.«tuple.__lt__» ⟨[.ref p,.ref q],[]⟩)
   (λA R s=>(s.heap.get? p=some ⟨.type "tuple",M,.seq a n,N⟩/\s.heap.get? q=some ⟨.type "tuple",D,.seq c S,E⟩)/\
     (∀ j (H:j<a.size) (L:j<c.size),EqAt A.in1 s a[j] c[j] (e j)/\(e j=false->nL A.in1 s a[j] c[j] (l j)))/\
     R (.ok (.ret (.bool (mR e l (decide (a.size<c.size)) (min a.size c.size) 0)))) s):=
 .of_wp λprog w A R s h=>by
  obtain⟨C,g,d,F,os⟩:=s;obtain⟨⟨H,L⟩,K,h⟩:=h;have V:=qfA;have G:(a.toList.zip c.toList).length=min a.size c.size:=by simp
  wp_walk using wpAny_loadPart' H,wpAny_loadPart' L,qiy _ (λm b s'=>b.1=none/\s'=⟨C,g,d,F,os⟩/\∃ i,i<=min a.size c.size/\m=(a.toList.zip c.toList).drop i/\
   R (.ok (.ret (.bool (mR e l (decide (a.size<c.size)) (min a.size c.size - i) i)))) ⟨C,g,d,F,os⟩) _
  case turn=>
   rintro⟨y,x⟩ m b s' ⟨o,rfl,i,hi,r,B⟩
   have z:i<(a.toList.zip c.toList).length:=by
    rcases qfi i (a.toList.zip c.toList).length with h'|h'
    ·exact h'
    ·rw[List.drop_of_length_le h']at r;cases r
   rw[G]at z;have I:i<a.size:=by lia
   have J:i<c.size:=by lia
   rw[qcY (by rw[G];exact z)]at r;injection r with v t;have u:y=a[i]:=by have:=congrArg qc3 v;simpa using this
   have Q:x=c[i]:=by have:=congrArg qfy v;simpa using this
   subst u Q;obtain⟨k,O⟩:∃ k,min a.size c.size - i=k+1:=⟨min a.size c.size - i - 1,by lia⟩;rw[O]at B;have f:R (.ok (.ret (.bool (if e i=true then mR e l (decide (a.size<c.size)) k (i+1) else l i)))) ⟨C,g,d,F,os⟩:=B;refine qac ((K i I J).1 prog w _ _ ?_);cases u:e i with
   |true=>
    rw[u,iFP U]at f
    wp_walk
    exact⟨U,U,i+1,by lia,t,by rw[show min a.size c.size - (i+1)=k by lia];exact f⟩
   |false=>
    rw[u,iFN (by simp)]at f;simp only[Bool.not_false,if_true];refine qac (qej ?_);refine qac ((K i I J).2 u prog w _ _ ?_)
    wp_walk
    exact⟨_,U,f⟩
  case fin=>
   rintro⟨T,W⟩ s' ⟨o,rfl,i,hi,r,B⟩
   simp only at o
   subst o;have P:min a.size c.size<=i:=by
    rcases qfi i (a.toList.zip c.toList).length with h'|h'
    ·rw[qcY h']at r;cases r
    ·rw[G]at h';exact h'
   rw[show min a.size c.size - i=0 by lia]at B
   wp_walk
   exact⟨_,U,by simpa [qem,mR] using B⟩
  case h=>exact⟨U,U,0,qcl _,U,h⟩
section
variable {A:qa0}{s:qaj}{p q:Addr}{a b:Array Value}{e l:Nat->Bool}
def nL.tuples (r:s.heap.IsTuple p a) (hb:s.heap.IsTuple q b) (y:A.units<cLine) (t:∀ j (B:j<a.size) (C:j<b.size),EqAt A.in1 s a[j] b[j] (e j)/\(e j=false->nL A.in1 s a[j] b[j] (l j))) :
  nL A s (.ref p) (.ref q) (mR e l (decide (a.size<b.size)) (min a.size b.size) 0):=λprog w E Q h=>by
 obtain⟨⟨cls,o,data,v⟩,k,z,n,hd⟩:=id r;obtain⟨⟨m,d,data2,f⟩,c,g,u,i⟩:=id hb;subst z hd g i;exact qg8 ⟨_,k,U⟩ ⟨_,c,U⟩ qdo qd4 (qdY _ _) (nD p q a b n u o d v f e l)
  ⟨⟨k,c⟩,t,(λx=>nomatch x),h⟩ y
end
end L2
namespace L2
open PySem PySem.Spec PyProof.Rows PySem.SeqAt PySem.W
def br:List Int->List Int->Bool
 |[],[]=>false
 |[],_::_=>true
 |_::_,[]=>false
 |a::as,b::bs=>if a=b then br as bs else decide (a<b)
def rZ:∀ a,br a a=false
 |[]=>rfl
 |a::as=>by unfold br;rw[iFP U];exact rZ as
def gW:∀ a b,br a b=false->br b a=false->a=b
 |[],[],_,_=>rfl
 |[],_::_,h,_=>by cases h
 |_::_,[],_,h=>by cases h
 |a::as,b::bs,h,h'=>by
  unfold br at h h';by_cases e:a=b
  ·subst e
   rw[iFP U]at h h';rw[gW as bs h h']
  ·lia
def qi:∀ a b c,br a b=true->br b c=true->br a c=true
 |[],[],_,h,_=>by cases h
 |[],_::_,[],_,h=>by cases h
 |[],_::_,_::_,_,_=>rfl
 |_::_,[],_,h,_=>by cases h
 |_::_,_::_,[],_,h=>by cases h
 |a::as,b::bs,c::f,h,h'=>by
  unfold br at h h' ⊢;by_cases e:a=b
  ·subst e
   rw[iFP U]at h;by_cases d:a=c
   ·subst d;rw[iFP U]at h' ⊢;exact qi as bs f h h'
   ·rw[iFN d]at h' ⊢;exact h'
  ·rw[iFN e,decide_eq_true_iff]at h
   by_cases d:b=c
   ·subst d;rw[iFN e,decide_eq_true_iff];exact h
   ·lia
def yz:∀ a b c,br a c=true->br a b=true\/br b c=true
 |a,b,c,h=>by
  by_cases e:br a b=true
  ·exact .inl e
  ·rw[qeg]at e
   by_cases d:br b a=true
   ·exact .inr (qi b a c d h)
   ·rw[qeg]at d
    rw[gW a b e d]at h;exact .inr h
def OI:qe6:=⟨List Int,br,rZ,qi,yz,gW⟩
def TuI (h:Heap) (v:Value) (l:List Int):Prop:=∃ a b,v=.ref a/\h.IsTuple a b/\qcC b.toList l
def ce:Value->Int
 |.int n _=>n
 |_=>0
def tuI (h:Heap):Value->List Int
 |.ref a=>match h.get? a with
  |some o=>match o.data with
   |.seq b _=>b.toList.map ce
   |_=>[]
  |none=>[]
 |_=>[]
def mI:∀ {a:List Value}{l:List Int},qcC a l->a.map ce=l
 |_,_,.nil=>rfl
 |_,_,.cons n t h=>by rw[qar,mI h];rfl
def d6:∀ {a:List Value}{l:List Int},qcC a l->a.length=l.length
 |_,_,.nil=>rfl
 |_,_,.cons n t h=>by rw[qan,qan,d6 h]
def iA:∀ {a:List Value}{l:List Int},qcC a l->∀ (j:Nat) (h:j<a.length),∃ t,a[j]=.int (l.getD j 0) t
 |_,_,.nil,j,h=>absurd h (qcP j)
 |_,_,.cons n t b,0,h=>⟨t,U⟩
 |_,_,.cons n t b,j+1,h=>by
  obtain⟨t',e⟩:=iA b j _;exact⟨t',by simpa using e⟩
def TuI.is {h:Heap}{v:Value}{l:List Int} (t:TuI h v l):tuI h v=l:=by
 obtain⟨a,b,rfl,⟨o,c,d,n,hd⟩,hi⟩:=t;simp only[tuI,c,hd];exact mI hi
def TuI.fit {h h':Heap}{v:Value}{l:List Int} (t:TuI h v l) (e:∀ b o,h.get? b=some o->h'.get? b=some o):TuI h' v l:=by
 obtain⟨a,c,rfl,⟨o,d,r⟩,hi⟩:=t;exact⟨a,c,U,⟨o,e _ _ d,r⟩,hi⟩
def mS:∀ (l m:List Int) (i:Nat) (e f:Nat->Bool),(∀ j,j<l.length->j<m.length->e (i+j)=decide (l.getD j 0=m.getD j 0)/\f (i+j)=decide (l.getD j 0<m.getD j 0))->
  mR e f (decide (l.length<m.length)) (min l.length m.length) i=br l m
 |[],[],i,e,f,_=>by simp[mR,br]
 |[],b::m,i,e,f,_=>by simp[mR,br]
 |a::l,[],i,e,f,_=>by simp[mR,br]
 |a::l,b::m,i,e,f,h=>by
  have c:=h 0 (by simp) (by simp);rw[qan,qan,show min _ _=min l.length m.length+1 by lia];have k:decide (l.length+1<m.length+1)=decide (l.length<m.length):=by simp
  rw[k];show (if e i=true then mR e f _ _ _ else f i)=if a=b then br l m else decide _;rw[qji]at c;rw[c.1,c.2];by_cases q:a=b
  ·subst q
   simp only[qax,decide_true,if_true];exact mS l m _ e f λj g d=>by
    have:=h (j+1) (by simpa using g) (by simpa using d)
    rw[show i+1+j=i+(j+1) by lia];simpa using this
  ·simp[q]
section
variable {prog:qaN}{w:World}{A:qa0}{E:Value->qaj->Prop}{s:qaj}{x y:Value}{l m:List Int}
def nL.ints {a b:Int}{t u:Tok}:nL A s (.int a t) (.int b u) (decide (a<b)):=λprog w E Q h=>qd8 h
def EqAt.ints {a b:Int}{t u:Tok}:EqAt A s (.int a t) (.int b u) (decide (a=b)):=by
 exact (tQ (A:=A) (s:=s) (y:=.int a) (x:=.int b) ⟨t,U⟩ ⟨u,U⟩ U U)
def TuI.lt (B:TuI s.heap x l) (ty:TuI s.heap y m) (L:A.units<cLine):nL A s x y (br l m):=by
 obtain⟨a,d,rfl,D,k⟩:=B;obtain⟨b,f,rfl,K,g⟩:=ty;have C:d.size=l.length:=by exact d6 k
 have F:f.size=m.length:=by exact d6 g
 have z:=nL.tuples D K L λj W X=>by
  obtain⟨t,I⟩:=iA k j _;obtain⟨t',H⟩:=iA g j _;rw[qeB]at I H;rw[I,H];exact⟨EqAt.ints,λ_=>nL.ints⟩
 rw[C,F,mS l m 0 _ _ λj D K=>by rw[qaR];exact⟨U,U⟩]at z;exact z
def TuI.one (B:TuI s.heap x l) (ty:TuI s.heap y m) (L:A.units<cLine) {Q:Bool->qaj->Prop} (h:Q (br l m) s) (b:Bool):wpAny (model prog w) A (oneLt' b x y) Q E s:=by
 cases b with
 |false=>exact kat_one _ _ (B.lt ty L _ _ _ _ h)
 |true=>
  refine qac (wpAny_cRoomFor L ?_);obtain⟨a,d,rfl,D,k⟩:=id B;obtain⟨c,f,rfl,K,g⟩:=id ty;obtain⟨⟨cls,S,data,T⟩,G,O,n,hd⟩:=id D;obtain⟨⟨P,M,data2,N⟩,v,J,R,q⟩:=id K;subst O hd J q;have C:d.size=l.length:=by exact d6 k
  have F:f.size=m.length:=by exact d6 g
  refine qac (wpAny_callSpecialIfBound?_slot ⟨_,G,U⟩ qdo (qc2 qdo ⟨_,G,U⟩ qd4 (qdY _ _)
   (nD a c d f n R S M T N (λj=>decide (l.getD j 0=m.getD j 0)) λj=>decide (l.getD j 0<m.getD j 0)) ⟨⟨G,v⟩,λj W X=>?_,?_⟩))
  ·obtain⟨t,I⟩:=iA k j _
   obtain⟨t',H⟩:=iA g j _;rw[qeB]at I H;rw[I,H];exact⟨EqAt.ints,λ_=>nL.ints⟩
  ·rw[C,F,mS l m 0 _ _ λj D K=>by rw[qaR];exact⟨U,U⟩]
   exact qc0 h
def yA {Q:Bool->qaj->Prop}{fin:Bool}:∀ {d f:List Value}{l m:List Int} (i:Nat),qcC d l->qcC f m->(fin=decide (l.length<m.length))->Q (br l m) s->KatLex prog w A true fin Q (d.zip f) i s
 |_,_,_,_,i,.nil,.nil,p,h=>kat_nil (by rw[p];exact h)
 |_,_,_,_,i,.nil,.cons n t r,p,h=>kat_nil (by rw[p];simpa [br] using h)
 |_,_,_,_,i,.cons n t r,.nil,p,h=>kat_nil (by rw[p];simpa [br] using h)
 |_,_,_,_,i,.cons a t r,.cons b u V,p,h=>by
  refine kat_cons (EqAt.ints prog w _ _ ?_);unfold br at h;by_cases e:a=b
  ·subst e
   rw[iFP U]at h;rw[decide_eq_true U];exact kat_yes (yA _ r V (by rw[p];simp) h)
  ·rw[iFN e]at h
   rw[decide_eq_false e];refine kat_no ?_;cases (true&&i==0) with
   |true=>exact oneLt_int h
   |false=>exact kat_one _ _ (qd8 h)
def TuI.tups (B:TuI s.heap x l) (ty:TuI s.heap y m) {Q:Bool->qaj->Prop} (h:Q (br l m) s):wpAny (model prog w) A (keyLt' (tuples' true) x y) Q E s:=by
 obtain⟨a,d,rfl,⟨o,G,O,n,hd⟩,k⟩:=B;obtain⟨c,f,rfl,⟨Y,v,J,R,q⟩,g⟩:=ty;have C:d.size=l.length:=by exact d6 k
 have F:f.size=m.length:=by exact d6 g
 exact kat_lt G hd v q (yA 0 k g (by rw[C,F]) h)
end
section
variable {prog:qaN}{w:World}{A:qa0}{E:Value->qaj->Prop}{s:qaj}{O:qe6}{rk:Keyed->O.α}{S:Keyed->Prop}{c:List Value}
def sW:∀ (c:List Value),c.zip c=c.map λv=>(v,v)
 |[]=>rfl
 |v::c=>by rw[qdf,sW c];rfl
def Df {α I:Type}{f:α->I}{R:I->I->Prop}:∀ {c:List α},c.toArray.size<2->(c.map f).Pairwise R
 |[],_=>List.Pairwise.nil
 |[v],_=>qf7 _ _
 |_::_::_,h=>absurd h (by simp)
set_option maxHeartbeats 1000000 in
def oz {a:Addr}{n:Nat}{P:PySem.Fin->qaj->Prop} (D:s.heap.get? a=some (qfu "list" c.toArray n)) (z:c.length<64)
  (m:∀ h',(∀ b o,b≠a->s.heap.get? b=some o->h'.get? b=some o)->∃ r,(2<=c.length->∀ (Q':qdd->qaj->Prop) E',Q' r { s with heap:=h' }->wpAny (model prog w) A (qhV c.toArray) Q' E' { s with heap:=h' })/\Cm prog w A { s with heap:=h' } r O rk S)
  (M:∀ v∈c,S (v,v))
  (h:∀ d:List Value,d.Perm c->d.Pairwise (λx y=>O.kle (rk (x,x)) (rk (y,y)))->P (.done (.ret .none)) { s with heap:=sortedHeap s.heap a c d.toArray }) :
  wpAny (model prog w) A (qfg.«list.sort» ⟨[.ref a],[]⟩) P E s:=by
 rw[list_sort_plain];have H:c.toArray.size=c.length:=by simp
 refine qac (listItems_at D U ?_);refine qac (qgX D U ?_ (by rw[H,qdj];lia));obtain⟨V,B⟩:∃ V,(s.heap.update a (qcF λ_=>#[])).get? a=some (qfu "list" #[] V):=⟨_,get?_update_seq D (λ_=>#[])⟩
 refine qac (qhH B U ?_);refine qac (qjD ?_ (by rw[qdj];show c.toArray.toList.length<=_;simp;lia));refine qac (qfr ?_);refine qct ?_;have W:(s.heap.update a (qcF λ_=>(#[]:Array Value))).objs.size=s.heap.objs.size:=qhx ..;have i:∀ b o,b<s.heap.objs.size->(s.heap.update a (qcF λ_=>(#[]:Array Value))).get? b=some o->
   (((s.heap.update a (qcF λ_=>#[])).push (qfu "tuple" c.toArray 0)).push (qfu "list" #[] 0)).get? b=some o:=λb o hb q=>by
  rw[qdt _ _ _ (qaF (by rw[qif,W];exact qbe hb)),qdt _ _ _ (qaF (by rw[W];exact hb))];exact q
 have k:=i a _ (qaw D) B;obtain⟨r,J,hC⟩:=m _ λb o hb q=>
  i b o (qaw q) (by rw[qgQ _ _ _ _ hb];exact q)
 have pt:(c.toArray.zip c.toArray).toList=c.map λv=>(v,v):=by rw[<-sW];simp
 have fin:∀ g:qbZ,(arrOf g).toList.Perm (c.map λv=>(v,v))->(arrOf g).toList.Pairwise (λx y=>O.kle (rk x) (rk y))->∃ d:List Value,d.length=c.length/\(arrOf g).map (·.2)=d.toArray/\P (.done (.ret .none)) { s with heap:=sortedHeap s.heap a c d.toArray }:=λg C p=>by
  refine⟨(arrOf g).toList.map (·.2),by rw[qag,C.length_eq,qag],by apply Array.toList_inj.mp;simp,h _ ?_ ?_⟩
  ·have:=C.map (·.2)
   rw[qaO]at this;have e:(c.map ((λx=>x.2) ∘ λv=>((v,v):Keyed)))=c:=by rw[show ((λx:Keyed=>x.2) ∘ λv=>((v,v):Keyed))=id from U,qgJ]
   rw[e]at this;exact this
  ·rw[qdr]
   refine p.imp_of_mem λ{x y} F Y q=>?_;have dx:x=(x.2,x.2):=by obtain⟨v,_,rfl⟩:=qaM.mp (C.mem_iff.mp F);rfl
   have dy:y=(y.2,y.2):=by obtain⟨v,_,rfl⟩:=qaM.mp (C.mem_iff.mp Y);rfl
   rw[<-dx,<-dy];exact q
 dsimp only;by_cases p:c.toArray.size<2
 ·rw[iFP p,iFP p]
  refine qac (qaq ?_);rw[StateT.run_pure];refine qac (qaq ?_);dsimp only;obtain⟨d,q0,N,L⟩:=fin (qij general' (c.toArray.zip c.toArray) #[] 7 none) (by rw[pt]) (by rw[pt];exact Df p);refine qac (qhH k U ?_);rw[N];refine qac (qgX k U ?_);simp only[bne_self_eq_false,qa7,if_false];exact qaq L
 ·rw[iFN p,iFN p]
  refine qac (J (by lia) _ _ ?_)
  refine qac (qcq (Bq hC (a0:=c.toArray.zip c.toArray) (Q:=λ_ g=>(arrOf g).toList.Perm (c.map λv=>(v,v))/\(arrOf g).toList.Pairwise (λx y=>O.kle (rk x) (rk y))/\qgY g=none)
   rfl U U U (λx F=>?_) (by simp;lia) (by simp;lia) λg t a2 K=>⟨by rw[<-pt];exact t,a2,K⟩) ?_ λ_ _ e=>e)
  ·rw[pt]at F
   obtain⟨v,hv,rfl⟩:=qaM.mp F;exact M v hv
  rintro⟨⟨⟩,g⟩ s' ⟨rfl,t,a2,K⟩
  dsimp only;obtain⟨d,q0,N,L⟩:=fin g t a2;refine qac (qhH k U ?_);rw[N];refine qac (qgX k U ?_);rw[K];simp only[bne_self_eq_false,qa7,if_false];exact qaq L
def nw {l:Addr}{Q:Value->qaj->Prop} (hl:s.heap.IsList l c.toArray) (z:c.length<64)
  (m:∀ h',(∀ b o,s.heap.get? b=some o->h'.get? b=some o)->∃ r,(2<=c.length->∀ (Q':qdd->qaj->Prop) E',Q' r { s with heap:=h' }->wpAny (model prog w) A.in1.in1 (qhV c.toArray) Q' E' { s with heap:=h' })/\Cm prog w A.in1.in1 { s with heap:=h' } r O rk S)
  (M:∀ v∈c,S (v,v))
  (h:∀ d:List Value,d.Perm c->d.Pairwise (λx y=>O.kle (rk (x,x)) (rk (y,y)))->Q (.ref (s.heap.objs.size+1)) { s with heap:=qjn s.heap c d.toArray }) :
  wpAny (model prog w) A (call (.builtin "sorted") [.ref l]) Q E s:=by
 refine qfQ kind_sorted plain_sorted entry_sorted (args_sorted1 _) ?_;refine qac (qaq ?_);refine qac (collect_list hl ?_ (by rw[qdj];lia));refine qac (qfr ?_ (by rw[qdj];lia));have G:((s.heap.push (qfu "list" #[] 0)).update s.heap.objs.size (qcF (·++c.toArray))).objs.size=s.heap.objs.size+1:=by rw[qhx,qif]
 generalize T:((s.heap.push _).update s.heap.objs.size _)=X at G ⊢;have u:(X.push (qfu "list" c.toArray 0)).get? (s.heap.objs.size+1)=some (qfu "list" c.toArray 0):=by
  rw[<-G];exact qav _ U
 have keep:∀ b o,s.heap.get? b=some o->b≠s.heap.objs.size+1/\(X.push (qfu "list" c.toArray 0)).get? b=some o:=λb o q=>by
  have j:=qaw q;refine⟨qaF (qbe j),?_⟩;rw[qdt _ _ _ (qaF (by rw[G];exact qbe j)),<-T,qgQ _ _ _ _ (qaF j),qdt _ _ _ (qaF j)];exact q
 rw[G];refine qac (qct (qbV qjF ⟨_,u,U⟩ qju (oz u z (λh' hk=>m h' λb o q=>hk b o (keep b o q).1 (keep b o q).2) M λd t a2=>⟨_,U,?_⟩) (qjL _)));refine qaq ⟨_,U,?_⟩
 have:=h d t a2
 unfold qjn at this;rw[T]at this;exact this
end
def mq (h:Heap):Value->Option Value
 |.ref a=>match h.get? a with
  |some o=>match o.data with
   |.seq b _=>b[0]?
   |_=>none
  |none=>none
 |_=>none
def TuI.fst {h:Heap}{v:Value}{l:List Int} (t:TuI h v l):mq h v=none\/∃ n t,mq h v=some (.int n t):=by
 obtain⟨a,b,rfl,⟨o,c,f,n,hd⟩,hi⟩:=t;simp only[mq,c,hd];by_cases d:0<b.size
 ·obtain⟨t,e⟩:=iA hi 0 _
  exact .inr ⟨_,t,by rw[qbR d];rw[qeB]at e;rw[e]⟩
 ·exact .inl (qdm (by lia))
section
variable {prog:qaN}{w:World}{A:qa0}{E:Value->qaj->Prop}{s:qaj}
def wf {v:Value}{l:List Int} (t:TuI s.heap v l) {Q:Value->qaj->Prop} (h:Q (.type "tuple") s):wpAny (model prog w) A (typeOf v) Q E s:=by
 obtain⟨a,D,rfl,⟨o,z,I,n,hd⟩,hi⟩:=t;refine Looks.here ((Looks.ld z).andThen .now) ?_;rw[I];exact h
def wM {v:Value}{l:List Int} (t:TuI s.heap v l) {Q:Option Value->qaj->Prop} (h:Q (mq s.heap v) s):wpAny (model prog w) A (firstOfTuple' v) Q E s:=by
 refine qac (wf t ?_);obtain⟨a,D,rfl,⟨o,z,I,n,hd⟩,hi⟩:=t;simp only[mq,z,hd]at h;exact qac (listItems_at z hd (qaq h))
def f8:∀ {b:List Value}{Q:List (Option Value)->qaj->Prop},(∀ v∈b,∃ l,TuI s.heap v l)->Q (b.map (mq s.heap)) s->wpAny (model prog w) A (b.mapM firstOfTuple') Q E s
 |[],_,_,h=>by exact qaq h
 |v::b,Q,t,h=>by
  rw[List.mapM_cons];obtain⟨l,F⟩:=t v qaf;refine qac (wM F (qac (f8 (λu i=>t u (qak _ i)) (qaq h))))
def tF {x y:Value}{l m:List Int} (d:TuI s.heap x l) (c:TuI s.heap y m) {Q:Bool->qaj->Prop} (h:Q (OI.blt (tuI s.heap x) (tuI s.heap y)) s):Q (br l m) s:=by
 have h':=h;rw[d.is,c.is]at h';exact h'
def rW {b:List Value} (t:∀ v∈b,∃ l,TuI s.heap v l) (i:A.units<cLine):∃ H,(2<=b.length->∀ (Q':qdd->qaj->Prop) E',Q' H s->wpAny (model prog w) A (qhV b.toArray) Q' E' s)/\
  Cm prog w A s H OI (λp=>tuI s.heap p.1) (λp=>∃ l,TuI s.heap p.1 l):=by
 by_cases c1:(b.map (mq s.heap)).toArray.all (·.isSome)=true
 ·refine⟨_,λC Q' E' k=>?_,λx y ⟨l,d⟩ ⟨m,c⟩ Q E h=>d.tups c (tF d c h)⟩
  rw[qhI,qds];refine qac (qac (f8 t (qaq ?_)));rw[iFP c1];refine qac (qej ?_);have J:∀ v∈(b.map (mq s.heap)).filterMap id,∃ n t,v=.int n t:=λv B=>by
   obtain⟨o,z,e⟩:=qeX.mp B;obtain⟨u,i,rfl⟩:=qaM.mp z;obtain⟨l,L⟩:=t u i;rcases L.fst with q|⟨n,t',q⟩
   ·rw[q]at e;cases e
   ·rw[q]at e;exact⟨n,t',(qaP e).symm⟩
  have M:∃ f fr,(b.map (mq s.heap)).filterMap id=f::fr:=by
   match b,C,c1 with
   |v::b,_,c1=>
    simp only[qar,qfk,qbD,qba]at c1;obtain⟨u,i⟩:=qcs.mp c1.1;exact⟨u,_,by rw[qar,i];rfl⟩
  obtain⟨f,fr,e⟩:=M;have K:(b.map (mq s.heap)).toArray.filterMap id=(f::fr).toArray:=by rw[<-e];simp
  rw[K,qjq,qds];refine qac (qac (qac (kas_mapM (r:=.type "int") _ (λv B Q'' j=>?_) (qaq ?_))))
  ·rw[<-e]at B
   obtain⟨n,t',rfl⟩:=J v B;exact qaq j
  ·have G:(qf8 (λ_=>Value.type "int") (f::fr)).toArray[0]?=some (.type "int"):=by simp
   rw[G];have g:((qf8 (λ_=>Value.type "int") (f::fr)).toArray.all λx=>x==.type "int")=true:=by
    simp only[qfk,qgr,qa2];intro _ _;rfl
   simp only[g,if_true];exact qaq (qaq k)
 ·by_cases c2:((b.map (mq s.heap)).toArray[0]?.bind id).isSome=true
  ·refine⟨general',λC Q' E' k=>?_,λx y ⟨l,d⟩ ⟨m,c⟩ Q E h=>d.one c i (tF d c h) false⟩
   rw[qhI,qds];refine qac (qac (f8 t (qaq ?_)));rw[iFN c1,iFP c2];exact qaq k
  ·refine⟨qhU,λC Q' E' k=>?_,λx y ⟨l,d⟩ ⟨m,c⟩ Q E h=>d.one c i (tF d c h) true⟩
   rw[qhI,qds];refine qac (qac (f8 t (qaq ?_)));rw[iFN c1,iFN c2,qjq,qds];refine qac (qac (qac (kas_mapM (r:=.type "tuple") _ (λv B Q'' j=>?_) (qaq ?_))))
   ·obtain⟨l,F⟩:=t v B
    exact wf F j
   ·obtain⟨v,b,rfl⟩:∃ v r,b=v::r:=by
     match b,C with
     |v::r,_=>exact⟨v,r,U⟩
    have G:(qf8 (λ_=>Value.type "tuple") (v::b)).toArray[0]?=some (.type "tuple"):=by simp
    rw[G];have g:((qf8 (λ_=>Value.type "tuple") (v::b)).toArray.all λx=>x==.type "tuple")=true:=by
     simp only[qfk,qgr,qa2];intro _ _;rfl
    simp only[g,if_true];exact qaq (qaq k)
def yt {b:List Value}{ns:List Int} (t:qcC b ns):(2<=b.length->∀ (Q':qdd->qaj->Prop) E',Q' qhU s->wpAny (model prog w) A (qhV b.toArray) Q' E' s)/\
  Cm prog w A s qhU OI (λp=>[ce p.1]) (λp=>∃ n t,p.1=.int n t):=by
 refine⟨λC Q' E' k=>?_,λx y ⟨n,t,d⟩ ⟨m,u,c⟩ Q E h=>?_⟩
 ·match b,C,t with
  |v1::N::r,_,t=>rw[keyKind_ints t];exact qaq k
 ·rw[d,c]
  refine oneLt_int ?_;have e:OI.blt [ce x.1] [ce y.1]=decide (n<m):=by
   rw[d,c];show (if n=m then br [] [] else decide (n<m))=_;by_cases q:n=m
   ·subst q;simp[br]
   ·rw[iFN q]
  rw[e]at h;exact h
end
def tY (x:List Int):List (List Int)->List (List Int)
 |[]=>[x]
 |y::a=>if br y x=true then y::tY x a else x::y::a
def ar:List (List Int)->List (List Int)
 |[]=>[]
 |x::xs=>tY x (ar xs)
def kx (x:List Int):∀ a,(tY x a).Perm (x::a)
 |[]=>qdi _
 |y::a=>by
  unfold tY;split
  ·exact (List.Perm.cons y (kx x a)).trans (List.Perm.swap x y a)
  ·exact qdi _
def aE:∀ xs,(ar xs).Perm xs
 |[]=>qdi _
 |x::xs=>(kx x _).trans (List.Perm.cons x (aE xs))
def leL (a b:List Int):Prop:=br b a=false
def w6 {a b c:List Int} (h:leL a b) (h':leL b c):leL a c:=qdA (O:=OI) h h'
def yx {a b:List Int} (h:leL a b) (h':leL b a):a=b:=gW a b h' h
def kO (x:List Int):∀ {c:List (List Int)},c.Pairwise leL->(tY x c).Pairwise leL
 |[],_=>by simp[tY]
 |y::c,h=>by
  unfold tY;split
  ·rename_i a
   refine qbo.mpr ⟨λz b=>?_,kO x (qbo.mp h).2⟩;rcases qaA.mp ((kx x c).mem_iff.mp b) with rfl|b
   ·exact KeyOrd.klt_asymm (O:=OI) a
   ·exact (qbo.mp h).1 z b
  ·rename_i a
   rw[qeg]at a;refine qbo.mpr ⟨λz b=>?_,h⟩;rcases qaA.mp b with rfl|b
   ·exact a
   ·exact w6 a ((qbo.mp h).1 z b)
def df:∀ xs,(ar xs).Pairwise leL
 |[]=>List.Pairwise.nil
 |x::xs=>kO x (df xs)
def jV {xs d:List (List Int)} (p:xs.Perm d) (e:xs.Pairwise leL) (c:d.Pairwise leL):xs=d:=
 qfl (λa b _ _ e c=>yx e c) e c p
def cR:List D->Option (List (List Int))
 |[]=>some []
 |.tup l::ds=>(aU l).bind λns=>(cR ds).map λr=>ns::r
 |_=>none
def aj (l:List Int):D:=.tup (l.map D.int)
def cD:∀ {ds:List D}{ls:List (List Int)},cR ds=some ls->ds=ls.map aj
 |[],_,h=>by cases h;rfl
 |.tup l::ds,_,h=>by
  simp only[cR,qab,qad]at h;obtain⟨ns,b,r,a,rfl⟩:=h;rw[cD a,bu b];rfl
 |.non::_,_,h=>by cases h
 |.bl _::_,_,h=>by cases h
 |.int _::_,_,h=>by cases h
 |.str _::_,_,h=>by cases h
 |.ty _::_,_,h=>by cases h
 |.dct::_,_,h=>by cases h
 |.scr _::_,_,h=>by cases h
 |.lst _::_,_,h=>by cases h
def de:∀ (ls:List (List Int)),cR (ls.map aj)=some ls
 |[]=>rfl
 |l::ls=>by
  have:aU (l.map D.int)=some l:=by
   induction l with
   |nil=>rfl
   |cons a l b=>simp[aU,b]
  simp only[qar,aj,cR,this,qaa];rw[de ls];rfl
def v4 (ds:List D):Option (List D):=match aU ds with
 |some ns=>some ((pT ns).map D.int)
 |none=>(cR ds).map λls=>(ar ls).map aj
def pZ (st:Sto):List W->Option (List D)
 |[w]=>(lsD st w).bind λds=>if ds.length<64 then v4 ds else none
 |_=>none
section
variable {K:qae}{X:Cx}{g:List (Addr×Obj)}{T:St}{H:Hp}{s:qaj}{φ:List Addr}
def toV:Value->V
 |.ref a=>.ref a
 |_=>.non
def A6 {l:List Int}{v:V}{u:Value} (I:Inv X g T H s) (r:Rl X.K H φ (aj l) v) (q:aM v u):TuI s.heap u l/\v=toV u/\aM (toV u) u:=by
 obtain⟨a,R,rfl,D,C⟩:=r;obtain⟨z,Y,p,_⟩:=I.tuple (SqT.of D);have e:=C.ints;subst e;subst q;exact⟨⟨a,z.toArray,U,p,by simpa using d5 Y⟩,U,U⟩
def jT (I:Inv X g T H s):∀ {ls:List (List Int)}{R:List V}{f:List Value},Rls X.K H φ (ls.map aj) R->aG R f->
  f.map (tuI s.heap)=ls/\∀ u∈f,TuI s.heap u (tuI s.heap u)/\Rl X.K H φ (aj (tuI s.heap u)) (toV u)/\aM (toV u) u
 |[],_,f,h,q=>by cases h;cases q;exact⟨U,λu j=>by cases j⟩
 |l::ls,_,f,h,q=>by
  obtain⟨v,r,rfl,D,C⟩:=h;cases q with
  |cons q1 q2=>
   obtain⟨t,e,e'⟩:=A6 I D q1;obtain⟨i1,i2⟩:=jT I C q2;refine⟨by rw[qar,i1,t.is],λx A=>?_⟩;rcases qaA.mp A with rfl|A
   ·rw[t.is,<-e];exact⟨t,D,q1⟩
   ·exact i2 x A
def nk:∀ {f:List Value},(∀ u∈f,TuI s.heap u (tuI s.heap u)/\Rl K H φ (aj (tuI s.heap u)) (toV u)/\aM (toV u) u)->Rls K H φ (f.map λu=>aj (tuI s.heap u)) (f.map toV)/\aG (f.map toV) f
 |[],_=>⟨U,.nil⟩
 |u::f,h=>by
  have D:=h u qaf;have C:=nk λx A=>h x (qak _ A);exact⟨⟨_,_,U,D.2.1,C.1⟩,.cons D.2.2 C.2⟩
def mH:∀ {f:List Value}{l:List Int},qcC f l->∀ u∈f,∃ n t,u=.int n t
 |_,_,.nil,u,j=>by cases j
 |_,_,.cons n t h,u,j=>by
  rcases qaA.mp j with rfl|j
  ·exact⟨n,t,U⟩
  ·exact mH h u j
def ot:∀ {f:List Value},(∀ u∈f,∃ n t,u=.int n t)->qcC f (f.map ce)
 |[],_=>.nil
 |u::f,h=>by
  obtain⟨n,t,rfl⟩:=h u qaf;exact .cons n t (ot λx A=>h x (qak _ A))
def jp {k:Nat} (hr:bo k X.A) (hK:X.K=K:=by rfl):nZ K X (.builtin "sorted") pZ:=by
 subst hK;refine⟨λst ws d h=>?_⟩
 match ws,h with
 |[w],h=>
  simp only[pZ,qab]at h;obtain⟨ds,e1,h⟩:=h;split at h
  ·intro g s T H xs f Q I Y q
   obtain⟨φ,S,⟨v,r,rfl,r1,rfl⟩,q⟩:=q;obtain⟨a,R,rfl,D,C⟩:=qj S r1 e1;obtain⟨u,rfl,ru⟩:=gC Y;cases ru;obtain⟨z,J,pl,hz⟩:=I.list (.inl D);have i:z.length<64:=by
    have:=J.length
    have:=C.length
    lia
   have hun:X.A.in1.in1.units<cLine:=by
    have:=hr.un
    lia
   have hn:=I.hok.fresh (qcB _);have M:∀ (c:List Value) (F:List V),aG F c->c.length<64->Inv X g T _ { s with heap:=qjn s.heap z c.toArray }:=λc F B ho=>by
    obtain⟨ep,he⟩:=sortedAll_at s.heap z c.toArray;refine I.laid (o:=.lst F) (λb o q=>sortedAll_old q) (qcB _) ⟨?_,c,ep,B,by simpa  using he⟩;rw[B.length];exact iN (by lia)
   unfold v4 at h;cases hi:aU ds with
   |some ns=>
    rw[hi]at h;cases h;cases bu hi;cases C.ints;have P:=d5 J;refine nw pl.isList i (λh' _=>⟨qhU,yt P⟩) (λv B=>mH P v B) λc G a2=>?_;have hp:=by
     have:=G.map ce
     rw[mI P]at this;exact this
    have hs:(c.map ce).Pairwise (·<=·):=by
     rw[qdr];refine a2.imp λ{x y} q=>?_;have q':br [ce y] [ce x]=false:=q;by_cases e:ce y=ce x
     ·lia
     ·have:br [ce y] [ce x]=decide (ce y<ce x):=by show (if _ then _ else _)=_;rw[iFN e]
      lia
    have B:=jW (ot (λu j=>mH P u (G.mem_iff.mp j)));rw[(sJ (hp.trans (kP ns).symm) hs (iZ ns))]at B;exact⟨.ref _,_,M c _ B (by rw[G.length_eq];exact i),U,q _ _ H (aO.refl H) hn (Rls.of_ints _)⟩
   |none=>
    rw[hi]at h;obtain⟨ls,hls,rfl⟩:=qad.mp h;cases cD hls;obtain⟨m1,m2⟩:=jT I C J;refine nw (O:=OI) (rk:=λp=>tuI s.heap p.1) (S:=λp=>∃ l,TuI s.heap p.1 l) pl.isList i (λh' N=>?_) (λv B=>⟨_,(m2 v B).1⟩) λc G a2=>?_
    ·obtain⟨κ,k1,k2⟩:=rW (s:={ s with heap:=h' }) (λv B=>⟨_,(m2 v B).1.fit N⟩) hun
     refine⟨κ,k1,λx y ⟨l,A⟩ ⟨m,W⟩ Q E hq=>k2 x y ⟨l,A.fit N⟩ ⟨m,W.fit N⟩ Q E ?_⟩;have L:Q (br (tuI s.heap x.1) (tuI s.heap y.1)) { s with heap:=h' }:=hq;show Q (br (tuI h' x.1) (tuI h' y.1)) { s with heap:=h' };rw[(A.fit N).is,(W.fit N).is];rw[A.is,W.is]at L;exact L
    ·obtain⟨b1,b2⟩:=nk (λu j=>m2 u (G.mem_iff.mp j))
     have hp:=by
      have:=G.map (tuI s.heap)
      rw[m1]at this;exact this
     have hs:(c.map (tuI s.heap)).Pairwise leL:=by
      rw[qdr];exact a2.imp λ{x y} q=>q
     have e2:(c.map λu=>aj (tuI s.heap u))=(ar ls).map aj:=by rw[<-(jV (hp.trans (aE ls).symm) hs (df ls)),qaO];rfl
     rw[e2]at b1;exact⟨.ref _,_,M c _ b2 (by rw[G.length_eq];exact i),U,q _ _ H (aO.refl H) hn b1⟩
  ·cases h
end
end L2
namespace L2
open PySem PySem.Spec PyProof.Rows
def zZ (st:Sto) (x y:W):Option D:=match x with
 |.d x=>(cR [x]).bind λa=>(cf st y).bind λds=>(cR ds).map λls=>.bl (decide (a.headD []∈ls))
 |_=>none
def lj (st:Sto) (x y:W):Option D:=match x with
 |.d x=>(cR [x]).bind λa=>(cf st y).bind λds=>(cR ds).map λls=>.bl (!decide (a.headD []∈ls))
 |_=>none
def ix:∀ a b:List Int,dq (a.map D.int) (b.map D.int)=decide (a=b)
 |[],[]=>rfl
 |[],_::_=>rfl
 |_::_,[]=>rfl
 |x::a,y::b=>by
  show (x==y&&dq _ _)=_;rw[ix a b,qes];simp
def wK (a b:List Int):eqD (aj a) (aj b)=decide (a=b):=ix a b
def uJ {α:Type} (f:α->List Int) (l:List Int):∀ a:List α,a.any (λu=>decide (f u=l))=decide (l∈a.map f)
 |[]=>by rw[List.any_nil,decide_eq_false (λh=>nomatch h)]
 |u::a=>by
  rw[qcf,uJ f l a,qar];by_cases h:f u=l
  ·rw[decide_eq_true h,qiv,decide_eq_true (by rw[h];exact qaf)]
  ·rw[decide_eq_false h,Bool.false_or]
   by_cases b:l∈a.map f
   ·rw[decide_eq_true b,decide_eq_true (qak _ b)]
   ·rw[decide_eq_false b,decide_eq_false λq=>by
     rcases qaA.mp q with q|q
     ·exact h q.symm
     ·exact b q]
def oB (l:List Int):okD 60 (aj l)=true:=by
 show (l.map D.int).all _=true;rw[qa2];intro d hd;obtain⟨i,_,rfl⟩:=qaM.mp hd;rfl
section
variable {K:qae}{X:Cx}
def pM {g:List (Addr×Obj)}{J:St}{H:Hp}{s:qaj}{φ:List Addr}{k:Nat} (o:bo k X.A) (I:Inv X g J H s) {l:List Int}{ls:List (List Int)}{x:V}{v:Value}{xs:List V}{A:List Value} (m:Rl X.K H φ (aj l) x) (P:aM x v) (t:Rls X.K H φ (ls.map aj) xs) (O:aG xs A) :
  (∀ u∈A,qdn X.A.in1 s u v (decide (tuI s.heap u=l)))/\A.any (λu=>decide (tuI s.heap u=l))=decide (l∈ls):=by
 obtain⟨e,h⟩:=jT I t O;refine⟨λu L=>?_,?_⟩
 ·obtain⟨_,a,b⟩:=h u L
  rw[<-wK];exact ya I 60 a m b P (oB _) (oB _) (by have:=o.units;lia)
 ·rw[<-e]
  exact uJ _ _ _
def qq {k:Nat} (o:bo k X.A) (G:X.K=K:=by rfl):OpD K X (qbN .In) zZ:=by
 subst G;refine⟨λst x y d h=>?_⟩
 match x,h with
 |.d x,h=>
  simp only[zZ,qab,qad]at h;obtain⟨E,B,ds,C,ls,D,rfl⟩:=h;intro g s J H N M v u Q I z F q;obtain⟨φ,S,m,t,q⟩:=q;obtain⟨a,R,rfl,f,r⟩:=gx S t C;cases F;have ex:=cD B
  match E,ex with
  |[l],ex=>
   cases ex;rw[cD D]at r;rcases f with f|f
   ·obtain⟨c,i,p,_⟩:=I.list f
    obtain⟨j,n⟩:=pM o I m z r i;refine qhn _ p.isList (λw hw=>j w (by simpa using hw)) ⟨.bl _,H,I,U,q _ H (aO.refl H) ?_⟩;rw[show c.toArray.any _=c.any (λu=>decide (tuI s.heap u=l)) by simp,n];rfl
   ·obtain⟨c,i,p,_⟩:=I.tuple f
    obtain⟨j,n⟩:=pM o I m z r i;refine qha _ p (λw hw=>j w (by simpa using hw)) ⟨.bl _,H,I,U,q _ H (aO.refl H) ?_⟩;rw[show c.toArray.any _=c.any (λu=>decide (tuI s.heap u=l)) by simp,n];rfl
def iJ {k:Nat} (o:bo k X.A) (G:X.K=K:=by rfl):OpD K X (qbN .NotIn) lj:=by
 subst G;refine⟨λst x y d h=>?_⟩
 match x,h with
 |.d x,h=>
  simp only[lj,qab,qad]at h;obtain⟨E,B,ds,C,ls,D,rfl⟩:=h;intro g s J H N M v u Q I z F q;obtain⟨φ,S,m,t,q⟩:=q;obtain⟨a,R,rfl,f,r⟩:=gx S t C;cases F;have ex:=cD B
  match E,ex with
  |[l],ex=>
   cases ex;rw[cD D]at r;rcases f with f|f
   ·obtain⟨c,i,p,_⟩:=I.list f
    obtain⟨j,n⟩:=pM o I m z r i;refine SeqAt.notIn_listAt _ p.isList (λw hw=>j w (by simpa using hw)) ⟨.bl _,H,I,U,q _ H (aO.refl H) ?_⟩;rw[show c.toArray.any _=c.any (λu=>decide (tuI s.heap u=l)) by simp,n];rfl
   ·obtain⟨c,i,p,_⟩:=I.tuple f
    obtain⟨j,n⟩:=pM o I m z r i;refine SeqAt.notIn_tupleAt _ p (λw hw=>j w (by simpa using hw)) ⟨.bl _,H,I,U,q _ H (aO.refl H) ?_⟩;rw[show c.toArray.any _=c.any (λu=>decide (tuI s.heap u=l)) by simp,n];rfl
end
end L2
namespace L2
open PySem PySem.Spec PyProof.Rows
open PySem.AutoSeq1 (wpAny_loadPart')
def SIt (k:Bool) (h:Heap) (a l:Addr) (i:Nat):Prop:=match k with
 |true=>h.IsTupleIter a l i
 |false=>h.IsListIter a l i
def SIs (k:Bool) (h:Heap) (l:Addr) (xs:Array Value):Prop:=match k with
 |true=>h.IsTuple l xs
 |false=>h.IsList l xs
def SIt.to {k:Bool}{h h':Heap}{b l:Addr}{i:Nat} (a:SIt k h b l i) (f:∀ o,h.get? b=some o->h'.get? b=some o):SIt k h' b l i:=by
 cases k with
 |true=>exact Heap.IsTupleIter.at a f
 |false=>exact Heap.IsListIter.at a f
def SIs.to {k:Bool}{h h':Heap}{l:Addr}{xs:Array Value} (a:SIs k h l xs) (f:∀ o,h.get? l=some o->h'.get? l=some o):SIs k h' l xs:=by
 cases k with
 |true=>obtain⟨o,e,r⟩:=a;exact⟨o,f o e,r⟩
 |false=>exact Heap.IsList.at a f
def SIt.live {k:Bool}{h:Heap}{b l:Addr}{i:Nat} (a:SIt k h b l i):∃ o c,h.get? b=some o/\o.data=.fields c:=by
 cases k with
 |true=>obtain⟨o,e,_,d⟩:=a;exact⟨o,_,e,d⟩
 |false=>obtain⟨o,e,_,d⟩:=a;exact⟨o,_,e,d⟩
section
variable {prog:qaN}{w:World}{A:qa0}{E:Value->qaj->Prop}{s:qaj}{k k2:Bool}
def ql {J l:Addr}{i:Nat}{xs:Array Value}{x:Value}{Q:Value->qaj->Prop} (v:SIt k s.heap J l i) (hl:SIs k s.heap l xs) (C:xs[i]?=some x)
  (T:∀ h',SIt k h' J l (i+1)->qdc J s.heap h'->Q x { s with heap:=h' }):wpAny (model prog w) A (qcA (.ref J)) Q E s:=by
 cases k with
 |true=>exact eO v hl C T
 |false=>exact wpAny_nextOf_list_item v hl C T
def yJ {J l:Addr}{i:Nat}{xs:Array Value}{Q:Value->qaj->Prop} (X:A.handled=none) (v:SIt k s.heap J l i) (hl:SIs k s.heap l xs) (C:xs[i]?=none)
  (hE:∀ h' e,qgR J s.heap h'->(∃ o,h'.get? e=some o/\o.cls=.type "StopIteration")->E (.ref e) { s with heap:=h' }):wpAny (model prog w) A (qcA (.ref J)) Q E s:=by
 cases k with
 |true=>exact fN X v hl C hE
 |false=>exact wpAny_nextOf_list_end X v hl C hE
variable {z TI TO i1 i2 l1 l2:Addr}{n:Nat}{xs ys:Array Value}{a b:Value}
structure ZSt (k k2:Bool) (z TI TO i1 i2 l1 l2:Addr) (f0:Value) (n:Nat) (h:Heap):Prop where
 z:IsZip h z TI TO f0
 ti:qgP h TI (.ref i1) (.ref i2)
 to:∃ a b,qgP h TO a b
 t1:SIt k h i1 l1 n
 t2:SIt k2 h i2 l2 n
set_option maxHeartbeats 1000000 in
def zK {x y:Value}{Q:Option Value->qaj->Prop} (D:ZipApart z TI TO i1 i2 l1 l2) (hs:ZSt k k2 z TI TO i1 i2 l1 l2 .none n s.heap) (H:SIs k s.heap l1 xs) (S:SIs k2 s.heap l2 ys) (C:xs[n]?=some x) (hy:ys[n]?=some y)
  (T:∀ h',ZSt k k2 z TI TO i1 i2 l1 l2 (qgf s.heap.objs.size) (n+1) h'->qgP h' s.heap.objs.size x y->h'.objs.size=s.heap.objs.size+1->
    (∀ c o,c≠z->c≠TO->c≠i1->c≠i2->s.heap.get? c=some o->h'.get? c=some o)->Q (some (.ref s.heap.objs.size)) { s with heap:=h' }) :
  wpAny (model prog w) A (qgG (.ref z)) Q E s:=by
 obtain⟨t,G,⟨a,b,O⟩,h1,h2⟩:=hs;have hT:s.TypeIs (.ref z) "zip":=⟨_,t,U⟩
 unfold qgG;refine qac (qet (qbO (name:=Str.ofString "__next__") hT qeD (qbV qeD hT qh7 ?_ (qhQ _))))
 show wpAny _ _ (field (.ref z) 2 >>= _) _ _ _;refine qac (qb7 t U (x:=.bool false) U ?_);show wpAny _ _ (field (.ref z) 3 >>= _) _ _ _;refine qac (qb7 t U (x:=.ref TI) U (qac (qcN G U ?_)));refine qac ?_;unfold qhh;refine qac (qb7 t U (x:=.none) U (qaq ?_));simp only[if_true];refine qac (qej (qac (qb7 t U (x:=.ref TO) U ?_)));refine qac (qcQ t (by simp) λg1 r s1=>?_);replace r:IsZip g1 z TI TO .ellipsis:=r;refine qac ?_;simp only[qht,qhD,qfE,qhN];have f:=s1.extBut;refine qac (qac (qfq ?_));refine qac (ql (h1.to λo q=>f _ o D.i1z q) (H.to λo q=>f _ o D.l1z q) C λg2 h12 R=>qaq ?_);have B:=R.extBut;have d:qgP g2 TO a b:=B _ _ D.TOi1 (f _ _ D.TOz O);refine qac (qcN d U (qac (qeY d λg3 m P=>?_)));replace m:qgP g3 TO x b:=m;have F:=P.extBut;refine qac (qhF (qaq ?_));refine qac (qac (qfq ?_));refine qac (ql (h2.to λo q=>F _ o D.TOi2.symm (B _ o D.i12.symm (f _ o D.i2z q))) (S.to λo q=>F _ o D.l2TO (B _ o D.l2i1 (f _ o D.l2z q))) hy λg4 h24 s4=>qaq ?_);have e4:=s4.extBut;have K:qgP g4 TO x b:=e4 _ _ D.TOi2 m;refine qac (qcN K U (qac (qeY K λg p s5=>?_)));replace p:qgP g TO x y:=p;have e5:=s5.extBut;refine qac (qhF (qaq (qaq ?_)));refine qac (qcN p U (qac (qjD ?_)));have V:g.objs.size=s.heap.objs.size:=by rw[s5.1,s4.1,P.1,R.1,s1.1]
 have hz5:IsZip g z TI TO .ellipsis:=e5 _ _ D.TOz.symm (e4 _ _ D.i2z.symm (F _ _ D.TOz.symm (B _ _ D.i1z.symm r)));have kp:∀ c o,c≠z->c≠TO->c≠i1->c≠i2->s.heap.get? c=some o->g.get? c=some o:=λc o c1 c2 c3 c4 e=>e5 _ _ c2 (e4 _ _ c4 (F _ _ c2 (B _ _ c3 (f _ _ c1 e))));have h25:SIt k2 g i2 l2 (n+1):=h24.to λo q=>e5 _ o D.TOi2.symm q;have L:z<g.objs.size:=qaw hz5;show wpAny _ _ (qdN (.ref z) (.ref g.objs.size) >>= _) _ _ _;refine qac ?_;unfold qdN;have hz6:IsZip (g.push { cls:=.type "tuple",data:=.seq #[x,y] }) z TI TO .ellipsis:=qai _ hz5
 refine qac (qcQ hz6 (by simp) λg7 N s7=>?_);replace N:IsZip g7 z TI TO (qgf g.objs.size):=N;refine qcQ N (by simp) λg8 I s8=>?_;replace I:IsZip g8 z TI TO (qgf g.objs.size):=I;have up:∀ c o,c≠z->g.get? c=some o->g8.get? c=some o:=λc o c1 e=>s8.extBut _ _ c1 (s7.extBut _ _ c1 (qai _ e));have W:qgP g8 g.objs.size x y:=s8.extBut _ _ (qcg L) (s7.extBut _ _ (qcg L) (qav _ U));have hz9:g8.objs.size=g.objs.size+1:=by rw[s8.1,s7.1,qbv]
 rw[V]at I W hz9;refine qaq ⟨_,U,qaq ?_⟩;show Q (some (.ref g.objs.size)) _;rw[V];exact T g8 ⟨I,up _ _ D.TIz (kp _ _ D.TIz D.TITO D.TIi1 D.TIi2 G),⟨_,_,up _ _ D.TOz p⟩,(h12.to λo q=>e5 _ o D.TOi1.symm (e4 _ o D.i12 (F _ o D.TOi1.symm q))).to λo q=>up _ o D.i1z q,h25.to λo q=>up _ o D.i2z q⟩ W hz9 λc o c1 c2 c3 c4 e=>up c o c1 (kp c o c1 c2 c3 c4 e)
set_option maxHeartbeats 1000000 in
def Bs {Q:Option Value->qaj->Prop} (X:A.in1.handled=none) (D:ZipApart z TI TO i1 i2 l1 l2) (hs:ZSt k k2 z TI TO i1 i2 l1 l2 .none n s.heap) (H:SIs k s.heap l1 xs) (S:SIs k2 s.heap l2 ys) (hend:xs[n]?=none\/ys[n]?=none)
  (T:∀ h',(∀ c o,c≠z->c≠TO->c≠i1->c≠i2->s.heap.get? c=some o->h'.get? c=some o)->Q none { s with heap:=h' }):wpAny (model prog w) A (qgG (.ref z)) Q E s:=by
 obtain⟨t,G,⟨a,b,O⟩,h1,h2⟩:=hs;have hT:s.TypeIs (.ref z) "zip":=⟨_,t,U⟩
 have fin:∀ (h':Heap) (e:Addr),_->(∃ o,h'.get? e=some o/\o.cls=.type "StopIteration")->
   wpAny (model prog w) A (do if (<-isInstance (.ref e) _) then pure none else throw (.ref e)) Q E { s with heap:=h' }:=λh' e hk ⟨o,ho,hc⟩=>
  qac (qix ⟨o,ho,hc⟩ qjI (qaq (T _ hk)))
 refine qac (qet (qbO hT qeD (qbV qeD hT qh7 ?_ (qhQ _))));show wpAny _ _ (field (.ref z) 2 >>= _) _ _ _;refine qac (qb7 t U (x:=.bool false) U ?_);refine qac (qb7 t U U (qac (qcN G U ?_)));refine qac ?_;refine qac (qb7 t U U (qaq ?_));refine qac (qej (qac (qb7 t U U ?_)));refine qac (qcQ t (by simp) λg1 r s1=>?_);refine qac ?_;simp only[qht,qhD,qfE,qhN];have f:=s1.extBut;refine qac (qac (qfq ?_));cases C:xs[n]? with
 |none=>
  refine qac (yJ X (h1.to λo q=>f _ o D.i1z q) (H.to λo q=>f _ o D.l1z q) C λg2 e R he=>?_);obtain⟨oe,j,u⟩:=he;have hz2:IsZip g2 z TI TO .ellipsis:=R _ _ D.i1z.symm r;have M:e≠z:=λx=>by subst x;rw[hz2]at j;cases j;simp at u
  exact qcQ hz2 (by simp) λg3 _ P=>fin g3 e (λc o c1 _ c3 _ x=>P.extBut _ _ c1 (R _ _ c3 (f _ _ c1 x))) ⟨oe,P.extBut _ _ M j,u⟩
 |some x=>
  have hy:ys[n]?=none:=by rcases hend with h|h;rw[C]at h;cases h;exact h
  refine qac (ql (h1.to λo q=>f _ o D.i1z q) (H.to λo q=>f _ o D.l1z q) C λg2 h12 R=>qaq ?_);have B:=R.extBut;have d:=B _ _ D.TOi1 (f _ _ D.TOz O);refine qac (qcN d U (qac (qeY d λg3 m P=>?_)));have F:=P.extBut;refine qac (qhF (qaq ?_));refine qac (qac (qfq ?_));refine qac (yJ X (h2.to λo q=>F _ o D.TOi2.symm (B _ o D.i12.symm (f _ o D.i2z q))) (S.to λo q=>F _ o D.l2TO (B _ o D.l2i1 (f _ o D.l2z q))) hy λg4 e s4 he=>?_);obtain⟨oe,j,u⟩:=he;have Y:IsZip g4 z TI TO .ellipsis:=s4 _ _ D.i2z.symm (F _ _ D.TOz.symm (B _ _ D.i1z.symm r));have M:e≠z:=λx=>by subst x;rw[Y]at j;cases j;simp at u
  exact qcQ Y (by simp) λg _ s5=>fin g e (λc o c1 c2 c3 c4 x=>s5.extBut _ _ c1 (s4 _ _ c4 (F _ _ c2 (B _ _ c3 (f _ _ c1 x))))) ⟨oe,s5.extBut _ _ M j,u⟩
end
def Ek (k:Bool):Value:=if k=true then .type "tuple_iterator" else .type "list_iterator"
def rO (k:Bool) (l:Addr):Obj:={ cls:=Ek k,data:=.fields #[.ref l,.int 0 0] }
abbrev zH1 (k:Bool) (h:Heap) (a:Addr):Heap:=h.push (rO k a)
abbrev zH2 (k k2:Bool) (h:Heap) (a b:Addr):Heap:=(zH1 k h a).push (rO k2 b)
abbrev zH3 (k k2:Bool) (h:Heap) (a b:Addr):Heap:=(zH2 k k2 h a b).push { cls:=.type "tuple",data:=.seq #[.ref h.objs.size,.ref (zH1 k h a).objs.size] }
abbrev zH4 (k k2:Bool) (h:Heap) (a b:Addr):Heap:=(zH3 k k2 h a b).push { cls:=.type "tuple",data:=.seq #[.none,.none] }
abbrev zH5 (k k2:Bool) (h:Heap) (a b:Addr):Heap:=(zH4 k k2 h a b).push { cls:=.type "zip",data:=.fields #[.none,.bool false,.bool false,.ref (zH2 k k2 h a b).objs.size,.ref (zH3 k k2 h a b).objs.size] }
section
variable {prog:qaN}{w:World}{A:qa0}{E:Value->qaj->Prop}{s:qaj}{k k2:Bool}
def rQ {l:Addr}{xs:Array Value}{Q:Value->qaj->Prop} (B:SIs k s.heap l xs) (h:Q (.ref s.heap.objs.size) { s with heap:=s.heap.push (rO k l) }):wpAny (model prog w) A (qjp (.ref l)) Q E s:=by
 cases k with
 |true=>exact qcR B h
 |false=>exact qfH B h
def nU (a b:Addr) (xs j:Array Value) (k k2:Bool) :
  Meets (qfg.«zip.__new__» ⟨[.type "zip",.ref a,.ref b],[]⟩) (λ_ R s=>SIs k s.heap a xs/\SIs k2 s.heap b j/\R (.ok (.ret (.ref (zH4 k k2 s.heap a b).objs.size))) { s with heap:=zH5 k k2 s.heap a b }):=
 .of_wp λprog w A R s h=>by
  obtain⟨G,g,d,I,os⟩:=s;obtain⟨f,i,h⟩:=h;have D:=sub_zip;have n:SIs k2 (Shared.heap ⟨G.push (rO k a),g,d,I,os⟩) b j:=i.to λo q=>qai _ q
  wp_walk using rQ f,rQ n
  exact⟨_,U,h⟩
def rP (k:Bool) {h:Heap}{u l:Addr} (e:h.get? u=some (rO k l)):SIt k h u l 0:=by
 cases k with
 |true=>exact⟨_,e,U,U⟩
 |false=>exact⟨_,e,U,U⟩
def oX {a b:Addr}{xs j:Array Value}{Q:Value->qaj->Prop} (f:SIs k s.heap a xs) (i:SIs k2 s.heap b j)
  (h:∀ h',ZSt k k2 (s.heap.objs.size+4) (s.heap.objs.size+2) (s.heap.objs.size+3) s.heap.objs.size (s.heap.objs.size+1) a b .none 0 h'->
    (∀ c o,s.heap.get? c=some o->h'.get? c=some o)->Q (.ref (s.heap.objs.size+4)) { s with heap:=h' }) :
  wpAny (model prog w) A (call (.type "zip") [.ref a,.ref b]) Q E s:=by
 refine callType_new F.called_zip (by decide) (F.typeCall_zip_2 _ _) (F.newCall_zip_2 _ _) (λobj=>F.args_object_init_3 obj _ _) F.entry_zip_new (nU a b xs j k k2) ⟨f,i,?_⟩;have p:(zH1 k s.heap a).objs.size=s.heap.objs.size+1:=qbv ..;have r:(zH2 k k2 s.heap a b).objs.size=s.heap.objs.size+2:=by rw[qbv,p]
 have t:(zH3 k k2 s.heap a b).objs.size=s.heap.objs.size+3:=by rw[qbv,r]
 have C:(zH4 k k2 s.heap a b).objs.size=s.heap.objs.size+4:=by rw[qbv,t]
 have up:∀ {h:Heap}{H:Obj}{c:Addr}{o:Obj},h.get? c=some o->(h.push H).get? c=some o:=λe=>qai _ e;have m:(zH5 k k2 s.heap a b).get? (zH4 k k2 s.heap a b).objs.size=some _:=qav _ U;have v:(zH5 k k2 s.heap a b).get? (zH3 k k2 s.heap a b).objs.size=some _:=up (qav _ U);have z:(zH5 k k2 s.heap a b).get? (zH2 k k2 s.heap a b).objs.size=some _:=up (up (qav _ U));have y:(zH5 k k2 s.heap a b).get? (zH1 k s.heap a).objs.size=some _:=up (up (up (qav _ U)));rw[r,t,C]at m;rw[p,r]at z;rw[t]at v;rw[p]at y;rw[C];exact⟨⟨_,m,U⟩,h _ ⟨m,z,⟨_,_,v⟩,rP k (up (up (up (up (qav _ U))))),rP k2 y⟩ λc o x=>up (up (up (up (up x))))⟩
end
def SqK (k:Bool) (K:qae) (H:Hp) (a:Addr) (xs:List V):Prop:=match k with
 |true=>SqT K H a xs
 |false=>SqL K H a xs
def Itz (S1 S2:Hp->List V->Prop):It:=
 ⟨λi H=>∃ xs a x y,S1 H xs/\S2 H a/\xs[i]?=some x/\a[i]?=some y,λi H x H'=>∃ T v u,(∀ xs,S1 H xs->xs[i]?=some v)/\(∀ a,S2 H a->a[i]?=some u)/\H T=none/\x=.ref T/\H'=upd H T (.tup [v,u]),
  λi H=>∃ xs a,S1 H xs/\S2 H a/\(xs[i]?=none\/a[i]?=none)⟩
def Inv.seqK {X:Cx}{c:List (Addr×Obj)}{d:St}{H:Hp}{s:qaj}{k:Bool}{a:Addr}{xs:List V} (I:Inv X c d H s) (h:SqK k X.K H a xs):∃ b:List Value,aG xs b/\SIs k s.heap a b.toArray:=by
 cases k with
 |true=>obtain⟨b,r,p,_⟩:=I.tuple h;exact⟨b,r,p⟩
 |false=>obtain⟨b,r,p,_⟩:=I.list h;exact⟨b,r,p.isList⟩
def Inv.seqK_inj {X:Cx}{b:List (Addr×Obj)}{d:St}{H:Hp}{s:qaj}{k:Bool}{a:Addr}{xs c:List V} (I:Inv X b d H s) (h:SqK k X.K H a xs) (h':SqK k X.K H a c):xs=c:=by
 cases k with
 |true=>exact I.tuple_inj h h'
 |false=>exact I.list_inj h h'
def zC {P:qaN}{w:World}{K:qae}{A:List Expr}{kk:Nat}{pos:Pos}{k k2:Bool}{z TI TO t r O J:Addr} (D:ZipApart z TI TO t r O J) :
  sZ P w K (.Tuple A kk pos) (Itz (λH xs=>SqK k K H O xs) λH xs=>SqK k2 K H J xs) [z,TI,TO,t,r] z (λi h=>ZSt k k2 z TI TO t r O J .none i h) where
 mem:=by simp
 obj:=λi h st b hb=>by
  simp only[qaA,qbJ,or_false]at hb;rcases hb with rfl|rfl|rfl|rfl|rfl
  ·exact⟨_,st.z,λv z=>by cases z⟩
  ·exact⟨_,st.ti,λv z=>by cases z⟩
  ·obtain⟨a,b,e⟩:=st.to;exact⟨_,e,λv z=>by cases z⟩
  ·obtain⟨o,N,e,d⟩:=st.t1.live;exact⟨o,e,λv z=>by rw[d]at z;cases z⟩
  ·obtain⟨o,N,e,d⟩:=st.t2.live;exact⟨o,e,λv z=>by rw[d]at z;cases z⟩
 keep:=λi h h' st kp=>by
  obtain⟨a,b,e⟩:=st.to;exact⟨kp z (by simp) _ st.z,kp TI (by simp) _ st.ti,⟨a,b,kp TO (by simp) _ e⟩,st.t1.to λo q=>kp t (by simp) o q,st.t2.to λo q=>kp r (by simp) o q⟩
 item:=by
  intro X C hw M V i n s σ H E I B st hg;subst C hw M;obtain⟨xs,ys,x,y,g,f,S,R⟩:=hg;obtain⟨us,j,p1⟩:=I.seqK g;obtain⟨N,l,Q⟩:=I.seqK f;obtain⟨u,hu,ru⟩:=j.get S;obtain⟨v,hv,Y⟩:=l.get R;refine zK D st p1 Q (by simpa using hu) (by simpa using hv) λh1 c hT W kp=>⟨_,U,?_⟩;refine wpAny_letOwnedTupleGo_zip c.z λh2 G s2=>?_;have m:=s2.extBut;obtain⟨c1,c2,F⟩:=c.to;have T:∀ b∈[z,TI,TO,t,r],b≠s.heap.objs.size:=λb hb e=>by
   obtain⟨o,ho,_⟩:=(show ∃ o,s.heap.get? b=some o/\True by
    simp only[qaA,qbJ,or_false]at hb;obtain⟨a',b',e'⟩:=st.to;obtain⟨o1,_,q1,_⟩:=st.t1.live;obtain⟨o2,_,q2,_⟩:=st.t2.live;rcases hb with rfl|rfl|rfl|rfl|rfl
    ·exact⟨_,st.z,trivial⟩
    ·exact⟨_,st.ti,trivial⟩
    ·exact⟨_,e',trivial⟩
    ·exact⟨_,q1,trivial⟩
    ·exact⟨_,q2,trivial⟩)
   have:=qaw ho
   rw[e]at this;exact qa9 _ this
  refine⟨.ref s.heap.objs.size,_,?_,U,⟨s.heap.objs.size,x,y,λzs L=>by rw[I.seqK_inj L g];exact S,λzs L=>by rw[I.seqK_inj L f];exact R,I.hok.fresh (qap _),U,U⟩,?_,λb hb=>?_⟩
  ·have I2:=I.turnsT (h':=h2) (t':=s.toks) B (λb o hb q=>by
    simp only[qaA,qbJ,or_false,not_or]at hb
    exact m b o hb.1 (kp b o hb.1 hb.2.2.1 hb.2.2.2.1 hb.2.2.2.2 q)) (qap _) ⟨_,m _ _ (qbL (T z (by simp))) hT,U,⟨_,U⟩,U⟩ (.cons ru (.cons Y .nil)) (by show 2<=qaJ;decide)
   exact I2
  ·exact⟨G,m _ _ D.TIz c.ti,⟨c1,c2,m _ _ D.TOz F⟩,c.t1.to λo q=>m _ o D.i1z q,c.t2.to λo q=>m _ o D.i2z q⟩
  ·rw[upd_ne (T b hb)];exact (B b hb).1
 done:=by
  intro X C hw M V i n s σ H E I B st hg;subst C hw M;obtain⟨xs,ys,g,f,p⟩:=hg;obtain⟨us,j,p1⟩:=I.seqK g;obtain⟨N,l,Q⟩:=I.seqK f;have hl1:=j.length;have hl2:=l.length
  refine Bs (I.ok.hd V) D st p1 Q (by
   rcases p with h|h
   ·rw[qcX]at h;simp;lia
   ·rw[qcX]at h;simp;lia) λh' kp=>⟨U,I.turns B λb o hb q=>?_⟩
  simp only[qaA,qbJ,or_false,not_or]at hb;exact kp b o hb.1 hb.2.2.1 hb.2.2.2.1 hb.2.2.2.2 q
 self:=λ_ _ _ _ _ st h=>qiw st.z h
def FK (K:qae) (k k2:Bool) (c:TA):L2.TI:=λd H R=>c d H λe H1=>∃ a b,e=[.ref a,.ref b]/\(∃ xs,SqK k K H1 a xs)/\(∃ xs,SqK k2 K H1 b xs)/\R (Itz (λH xs=>SqK k K H a xs) λH xs=>SqK k2 K H b xs) H1
def C9 {X:Cx}{j:List Expr}{D:Nat}{f:Pos}{a b:Expr}{w:TA}{p pos:Pos}{k k2:Bool} (hg:Gl X "zip") (hm:X.mg "zip" = none) (F:PA X [a,b] w) (E:qbC [a,b] X.env=[(false,eval a X.env),(false,eval b X.env)]:=by rfl) (g:qbC [b] X.env=[(false,eval b X.env)]:=by rfl) :
  PI X (.Tuple j D f) (.Call (.Name "zip" p) [a,b] [] pos) (FK X.K k k2 w):=by
 intro d s L H R I h;refine Call_ (je I hg hm boot_zip (qca (thn (F pos d s L H _ I h) λn s1 ⟨K,H1,I1,B,J⟩=>?_) (by rw[E,g]) (by rw[g];rfl)));obtain⟨l,m,e,⟨xs,G⟩,⟨M,o⟩,q⟩:=J;subst e;cases B with
 |cons r t=>
  cases t with
  |cons A t=>
   cases t;cases r;cases A;obtain⟨n,y,p1⟩:=I1.seqK G;obtain⟨K,z,x⟩:=I1.seqK o;have lt:∀ {k:Bool}{l:Addr}{n:Array Value},SIs k s1.heap l n->l<s1.heap.objs.size:=λ{k l n} v=>by
    cases k with
    |true=>obtain⟨_,u,_⟩:=v;exact qaw u
    |false=>obtain⟨_,u,_⟩:=v;exact qaw u
   refine oX p1 x λh' c C=>qiw c.z ?_;refine⟨_,_,_,_,H1,U,I1.kept C,zC (zipApart_new (lt p1) (lt x)),c,λb hb=>?_,q⟩;have i:s1.heap.objs.size<=b:=by
    simp only[qaA,qbJ,or_false]at hb;rcases hb with rfl|rfl|rfl|rfl|rfl
    ·exact qc8 _ 4
    ·exact qc8 _ 2
    ·exact qc8 _ 3
    ·exact qap _
    ·exact qc8 _ 1
   exact I1.fpOk i (I1.hok.fresh i)
def iq:List D->List D->List D
 |d::ds,e::es=>.tup [d,e]::iq ds es
 |_,_=>[]
def Ds:W->Option (Bool×List D)
 |.d (.tup ds)=>some (true,ds)
 |.d (.lst ds)=>some (false,ds)
 |_=>none
def fF (c:Af):Lf
 |env,st=>(c env st).bind λr=>match r.1 with
  |[x,y]=>(Ds x).bind λa=>(Ds y).map λb=>(iq a.2 b.2,r.2)
  |_=>none
def fU:∀ (ds es:List D) (i:Nat),(iq ds es)[i]?=(ds[i]?).bind λd=>(es[i]?).map λe=>D.tup [d,e]
 |[],es,i=>by simp[iq]
 |d::ds,[],i=>by cases i<;>simp[iq]
 |d::ds,e::es,0=>by simp[iq]
 |d::ds,e::es,i+1=>by simpa [iq] using fU ds es i
def sU:∀ (ds es:List D),(iq ds es).length=min ds.length es.length
 |[],es=>by simp[iq]
 |d::ds,[]=>by simp[iq]
 |d::ds,e::es=>by simp[iq,sU ds es]
section
variable {K:qae}{X:Cx}{a b:Expr}{pos:Pos}{af:Af}
def v5 {st:Sto}{H:Hp}{φ:List Addr}{w:W}{v:V}{p:Bool×List D} (r:Rw K H φ w v) (e:Ds w=some p) (S:Sr K H φ st):∃ a l,v=.ref a/\SqK p.1 K H a l/\(∀ H' c,Fw φ c H H'->SqK p.1 K H' a l)/\Rls K H φ p.2 l:=by
 cases w with
 |h n=>cases e
 |d x=>
  cases x with
  |tup ds=>
   cases e;obtain⟨a,j,rfl,o,g⟩:=r;exact⟨a,j,U,(SqT.of o),λH' c f=>(SqT.of o).fw S f,g⟩
  |lst ds=>
   cases e;obtain⟨a,j,rfl,h0,o,g⟩:=r;exact⟨a,j,U,.inl o,λH' c f=>.inl (o.fw f h0),g⟩
  |_=>cases e
def DH {S1 S2:Hp->List V->Prop}{ds es:List D}{l j:List V}{φ:List Addr}{H:Hp} (h1:∀ H' c,Fw φ c H H'->S1 H' l) (h2:∀ H' c,Fw φ c H H'->S2 H' j) (r1:∀ H' c,Fw φ c H H'->Rls K H' c ds l) (r2:∀ H' c,Fw φ c H H'->Rls K H' c es j) :
  Yl K φ H (Itz S1 S2) (iq ds es):=by
 intro H2 m st2 i C s2;have P:=h1 H2 m C;have N:=h2 H2 m C;have B:=r1 H2 m C;have w2:=r2 H2 m C;refine⟨λd hd=>?_,λhi=>⟨l,j,P,N,?_⟩⟩
 ·rw[fU,qab]at hd
  obtain⟨d1,Y,hd⟩:=hd;obtain⟨d2,L,rfl⟩:=qad.mp hd;obtain⟨v,ev,rv⟩:=B.get Y;obtain⟨u,eu,ru⟩:=w2.get L;refine⟨⟨l,j,v,u,P,N,ev,eu⟩,λx H' y=>?_⟩;obtain⟨T,v',u',y1,y2,G,rfl,rfl⟩:=y;have z1:=y1 l P;have z2:=y2 j N;rw[ev]at z1;rw[eu]at z2;cases z1;cases z2;exact⟨aO.new G _,T,_,U,upd_same,_,_,U,rv.fw s2 (Fw.new G),_,_,U,ru.fw s2 (Fw.new G),U⟩
 ·rw[sU]at hi
  have l1:=B.length;have l2:=w2.length;rw[qcX,qcX];lia
def mD {A:List Expr}{k:Nat}{t p:Pos} (hg:Gl X "zip") (hm:X.mg "zip" = none) (ha:IA K X [a,b] af) (hs:ax a=true:=by rfl) (z:ax b=true:=by rfl) (hK:X.K=K:=by rfl) :
  II K X (.Tuple A k t) (.Call (.Name "zip" p) [a,b] [] pos) (fF af):=by
 subst hK;refine⟨λenv st r g=>?_⟩;simp only[fF,qab]at g;obtain⟨⟨ws,s1⟩,hy,g⟩:=g;dsimp only at g;split at g
 case h_2=>cases g
 rename_i x y;simp only[qab,qad]at g;obtain⟨p1,Q,p2,F,rfl⟩:=g;refine (C9 (k:=p1.1) (k2:=p2.1) hg hm (ha.run _ _ _ hy) (zw hs z) (ii z)).imp ?_
 rintro σ H R ⟨φ,hE,hS,q⟩
 refine⟨φ,hE,hS,λl H1 J f1 s1 B=>?_⟩;obtain⟨v,r,rfl,rx,v2,r',rfl,ry,rfl⟩:=B;obtain⟨a,j,rfl,o,E,g⟩:=v5 rx Q s1;obtain⟨b,I,rfl,M,s,O⟩:=v5 ry F s1;exact⟨a,b,U,⟨j,o⟩,⟨I,M⟩,q _ H1 J f1 s1 (DH E s (λH' c f=>g.fw s1 f) λH' c f=>O.fw s1 f)⟩
end
section
variable {prog:qaN}{w:World}{A:qa0}{s:qaj}{I l S:Addr}{a:Array Value}{ns:List Int}{b:List (Str×Value)}{R:qjw->qaj->Prop}
variable {E:Value->qaj->Prop}
end
section
variable {K:qae}{X:Cx}{e a b:Expr}{es:List Expr}{pos:Pos}{f d g:Ef}{c:Af}
end
section
variable {K:qae}{X:Cx}
def tL (_:Sto):W->W->Option D
 |.d (.int i),.d (.int j)=>some (.int (qcd i j))
 |_,_=>none
def qo:OpD K X (qbH .BitAnd) tL:=gB (λ_ _ _=>rfl) λi j d h=>by cases h;exact⟨CN.imp λ_ _ _ _ q=>⟨i,j,q⟩,U⟩
end
section
variable {K:qae}{X:Cx}{pos:Pos}{a b:Expr}{c:Af}
end
section
variable {K:qae}{X:Cx}{pos:Pos}{e a b c:Expr}{es:List Expr}{f g h:Ef}{d:Af}
end
def au (f:Str) (a:Ef):Ef
 |env,st=>(a env st).bind λx=>match x.1 with
 |.d (.ob ns ds)=>((ns.zip ds).lookup f).map λd=>(.d d,x.2)
 | .h n=>(match x.2[n]? with
  |some (.o fs)=>(fs.lookup f).map λw=>(w,x.2)
  |_=>none)
 |_=>none
section
variable {K:qae}{H:Hp}{φ:List Addr}
def sV {f:Str}{d:D}:∀ {ns:List Str}{ds:List D}{b:List V},Rls K H φ ds b->(ns.zip ds).lookup f=some d->∃ v,(ns.zip b).lookup f=some v/\Rl K H φ d v/\f∈ns
 |[],ds,b,r,h=>by cases h
 |n::ns,[],b,r,h=>by cases h
 |n::ns,x::ds,b,r,h=>by
  obtain⟨v,k,rfl,j,c⟩:=r;rw[qdf,qbx]at h ⊢;by_cases e:(f==n)=true
  ·rw[e]at h ⊢
   cases h;exact⟨v,U,j,by rw[beq_iff_eq.mp e];exact qaf⟩
  ·rw[show (f==n)=false by simpa using e]at h ⊢
   obtain⟨l,o,s,q⟩:=sV c h;exact⟨l,o,s,qak _ q⟩
def Rfs.look {f:Str}{w:W}:∀ {fs:List (Str×W)}{b:List (Str×V)},Rfs K H φ fs b->fs.lookup f=some w->∃ v,b.lookup f=some v/\Rw K H φ w v/\∃ p∈fs,p.1=f
 |[],b,r,h=>by cases h
 |(n,x)::fs,b,r,h=>by
  obtain⟨v,k,rfl,j,c⟩:=r;rw[qbx]at h ⊢;by_cases e:(f==n)=true
  ·rw[e]at h ⊢
   cases h;exact⟨v,U,j,_,qaf,(beq_iff_eq.mp e).symm⟩
  ·rw[show (f==n)=false by simpa using e]at h ⊢
   obtain⟨l,o,s,p,t,q⟩:=Rfs.look c h;exact⟨l,o,s,p,qak _ t,q⟩
def Rfs.length:∀ {fs:List (Str×W)}{b:List (Str×V)},Rfs K H φ fs b->fs.length=b.length
 |[],b,r=>by cases r;rfl
 |(n,x)::fs,b,r=>by
  obtain⟨v,k,rfl,j,c⟩:=r;rw[qan,qan,Rfs.length c]
def Rfs.mem {m:Nat}:∀ {fs:List (Str×W)}{b:List (Str×V)},Rfs K H φ fs b->W.h m∈fs.map (·.2)->m<φ.length
 |[],_,_,hm=>nomatch hm
 |(n,x)::fs,_,r,hm=>by
  obtain⟨v,k,rfl,j,c⟩:=r;rcases qaA.mp hm with z|z
  ·subst z
   obtain⟨a,e,_⟩:=j;exact (qas.mp e).1
  ·exact Rfs.mem c z
def m9 (f:Str) (w:W):List (Str×W)->List (Str×W)
 |[]=>[(f,w)]
 |(g,x)::r=>if g=f then (g,w)::r else (g,x)::m9 f w r
def Rfs.put {f:Str}{w:W}{v:V} (i:Rw K H φ w v):∀ {fs:List (Str×W)}{b:List (Str×V)},Rfs K H φ fs b->Rfs K H φ (m9 f w fs) (fP f v b)
 |[],_,r=>by cases r;exact⟨v,_,U,i,U⟩
 |(g,x)::fs,_,r=>by
  obtain⟨l,k,rfl,j,c⟩:=r;unfold m9 fP;by_cases e:g=f
  ·rw[iFP e,iFP e];exact⟨v,k,U,i,c⟩
  ·rw[iFN e,iFN e];exact⟨l,_,U,j,Rfs.put i c⟩
def ng {f:Str}{w:W}:∀ {fs:List (Str×W)}{p:Str×W},p∈m9 f w fs->p∈fs\/p=(f,w)
 |[],p,h=>.inr (qao.mp h)
 |(g,x)::fs,p,h=>by
  unfold m9 at h;by_cases e:g=f
  ·rw[iFP e]at h
   rcases qaA.mp h with z|z
   ·rw[e]at z;exact .inr z
   ·exact .inl (qak _ z)
  ·rw[iFN e]at h
   rcases qaA.mp h with z|z
   ·exact .inl (z ▸ qaf)
   ·rcases ng z with z|z
    ·exact .inl (qak _ z)
    ·exact .inr z
def sB {f:Str}{v:V}:∀ {b:List (Str×V)},f∉b.map (·.1)->fP f v b=b++[(f,v)]
 |[],_=>rfl
 |(g,x)::b,h=>by
  unfold fP;rw[iFN (by intro e;exact h (e ▸ qaf)),sB λz=>h (qak _ z)];rfl
def Rfs.keys:∀ {fs:List (Str×W)}{b:List (Str×V)},Rfs K H φ fs b->b.map (·.1)=fs.map (·.1)
 |[],b,r=>by cases r;rfl
 |(n,x)::fs,b,r=>by
  obtain⟨v,k,rfl,j,c⟩:=r;rw[qar,qar,Rfs.keys c]
def Rfs.snoc {f:Str}{w:W}{v:V} (i:Rw K H φ w v):∀ {fs:List (Str×W)}{b:List (Str×V)},Rfs K H φ fs b->Rfs K H φ (fs++[(f,w)]) (b++[(f,v)])
 |[],_,r=>by cases r;exact⟨v,_,U,i,U⟩
 |(g,x)::fs,_,r=>by
  obtain⟨l,k,rfl,j,c⟩:=r;exact⟨l,_,U,j,Rfs.snoc i c⟩
end
section
variable {K:qae}{X:Cx}{pos j:Pos}{e o:Expr}{O fb:Ef}{f:Str}
def lq (h:IE K X e O) (hb:qdv e f X.env (eval e X.env)=eval e X.env:=by rfl) (hK:X.K=K:=by rfl):IE K X (.Attribute e f pos) (au f O):=by
 subst hK;refine⟨λenv st r b=>?_⟩;simp only[au,qab]at b;obtain⟨⟨x,s1⟩,hx,b⟩:=b;refine (CY (h.run _ _ _ hx) hb).imp ?_
 rintro σ H Q ⟨φ,G,I,q⟩
 refine⟨φ,G,I,λv H1 i A s P=>?_⟩;cases x with
 |d x=>
  cases x with
  |ob ns ds=>
   obtain⟨d,hd,rfl⟩:=qad.mp b;obtain⟨a,Cl,k,fs,J,rfl,h0,C,rfl,W,E,y,h6,h7⟩:=P;obtain⟨u,R,S,hf⟩:=sV h7 hd;exact⟨a,Cl,k,_,u,U,C,y,h6 f hf,R,q u H1 i A s S⟩
  |_=>cases b
 |h n=>
  dsimp only at b;split at b
  ·rename_i fs l
   obtain⟨w,hw,rfl⟩:=qad.mp b;obtain⟨a,N,rfl⟩:=P;obtain⟨Cl,k,J,C,L,W,E,y⟩:=s.at_ n a _ N l;obtain⟨u,R,S,p,T,rfl⟩:=L.look hw;exact⟨a,Cl,k,J,u,U,C,E,y p T,R,q u H1 i A s S⟩
  ·cases b
def kM (f:Str) (o v:Ef):Sf
 |env,st=>(v env st).bind λM=>(o env M.2).bind λB=>match B.1,M.1 with
 | .h n,.d x=>(match B.2[n]? with
  |some (.o fs)=>if fs.length<1000/\(fs.lookup f).isSome=true then some (.nx env (B.2.set n (.o (m9 f (.d x) fs)))) else none
  |_=>none)
 |_,_=>none
def lD (ho:IE K X o O) (hv:IE K X e fb) (hs:qcu e (some (.Attribute o f j)) pos.line X.env=pure false:=by rfl) (hK:X.K=K:=by rfl):IS K X (.Assign [.Attribute o f j] e pos) (kM f O fb):=by
 subst hK;refine⟨λenv st r b=>?_⟩;simp only[kM,qab]at b;obtain⟨⟨M,s1⟩,ev,⟨B,F⟩,eo,b⟩:=b;cases B with
 |d x=>cases b
 |h n=>
  cases M with
  |h m=>cases b
  |d x=>
   dsimp only at b;split at b
   case h_2=>cases b
   rename_i fs l;split at b
   case isFalse=>cases b
   rename_i hc;cases b;refine (y7 (ho.run _ _ _ eo) (hv.run _ _ _ ev) hs).imp ?_
   rintro D σ H ⟨φ,G,I,q⟩
   refine⟨φ,G,I,λv H1 i A s1 P=>⟨i,G.fw I A,s1,λu H2 V f2 F w2=>?_⟩⟩;obtain⟨a,N,rfl⟩:=w2;obtain⟨Cl,k,J,C,L,W,E,y⟩:=F.at_ n a _ N l;obtain⟨w0,hw0⟩:=qcs.mp hc.2;obtain⟨u0,hu0,ru0,p,T,Y⟩:=L.look hw0;have na:=Y ▸ y p T;refine⟨a,Cl,k,J,U,C,E,na,by rw[<-L.length];exact hc.1,?_⟩
   obtain⟨f3,s3⟩:=F.putC (o:=.ins Cl k (fP f v J)) (c:=.o (m9 f (.d x) fs)) N λg=>⟨Cl,k,_,upd_same,(Rfs.put (P.fw s1 f2) L).fw F g,(λm hm=>by
    obtain⟨p',t,e'⟩:=qaM.mp hm;rcases ng t with z|z
    ·exact W m (e' ▸ qdJ (f:=(·.2)) z)
    ·rw[z]at e';cases e'),E,(λp' t=>by
    rcases ng t with z|z
    ·exact y p' z
    ·rw[z];exact na)⟩
   exact q σ _ V ((A.trans f2).trans f3) (((G.fw I A).fw s1 f2).fw F f3) s3
end
section
variable {K:qae}{X:Cx}{pos:Pos}{a e:Expr}{T:Ef}{af:Af}
def yi (o:Ef) (a:Af):Ef
 |env,st=>(o env st).bind λx=>(a env x.2).bind λr=>match x.1,r.1 with
 |.d (.lst ds),[.d (.int k)]=>(aU ds).bind λns=>if ns.length<=1000 then (ns.idxOf? k).map λj=>(.d (.int (j:Nat)),r.2) else none
 |_,_=>none
def FR (X:Cx):V->List V->Hp->VK->Prop:=λx xs H Q=>∃ (p:Addr) (ns:List Int) (k:Int) (j:Nat),x=.ref p/\xs=[.int k]/\SqL X.K H p (ns.map V.int)/\ns.length<=1000/\ns.idxOf? k=some j/\Q (.int (j:Nat)) H
def Cd:∀ {ns:List Int}{k:Int}{j:Nat},ns.idxOf? k=some j->j<ns.length/\ns[j]?=some k/\∀ i,i<j->ns[i]?≠some k:=by
 intro ns k j h;obtain⟨S,h3,h4⟩:=(qf9.mp h);refine⟨S,by rw[qal S,h3],λi hi z=>?_⟩;rw[qal (qey hi S)]at z;exact h4 i hi (qaP z)
def CD:MtR X "list.index" (FR X):=by
 intro W s σ H x xs v us Q I rx rv h;obtain⟨p,ns,k,j,rfl,rfl,F,hl,R,q⟩:=h;cases rx;obtain⟨u,rfl,ru⟩:=rv.one;obtain⟨t,rfl⟩:=ru;obtain⟨g,r,pl,hz⟩:=I.list F;obtain⟨j1,j2,j3⟩:=Cd R;have A:g.length=ns.length:=by rw[<-r.length,qag]
 have at_:∀ (i:Nat) (hi:i<g.length),∃ t,∃ hn:i<ns.length,g[i]=.int ns[i] t:=λi hi=>by
  obtain⟨h',Y⟩:=r.at i hi;have hn:i<ns.length:=by rw[<-A];exact hi
  rw[(qhv ..)]at Y;obtain⟨t,e'⟩:=Y;exact⟨t,hn,e'⟩
 obtain⟨⟨c,dd,dt,sl⟩,eo,hc,n,hd⟩:=pl.isList;subst hc hd;have D:j<g.length:=by rw[A];exact j1
 refine qc2 qfL ⟨_,eo,U⟩ PySem.F.entry_list_index (PySem.F.args_list_index_2 _ _) (qjx p g.toArray n dd sl _ _ j (by simpa using D) (by lia) ?_ (λm hm J=>?_)) ⟨eo,λy hy=>(eq_isInt k t (d5 r) y (by simpa using hy)).at _ _,?_⟩
 ·obtain⟨t',hn,e⟩:=at_ j D
  rw[qal hn]at j2
  have:g.toArray[j]'(by simpa using D)=.int k t':=by simpa [qaP j2] using e
  rw[this];simp[isInt]
 ·have M:=by simpa using hm
  obtain⟨t',hn,e⟩:=at_ m M
  have:g.toArray[m]'hm=.int ns[m] t':=by simpa using e
  rw[this]
  have:=j3 m J
  rw[qal hn]at this;have O:ns[m]≠k:=λz=>this (by rw[z]);simp[isInt,O]
 ·exact⟨.int _,H,I.kept λb o e=>e,⟨_,U⟩,q⟩
def pE {w:Pos} (ho:IE K X a T) (ha:IA K X [e] af) (E:qdv a "index" X.env (eval a X.env)=eval a X.env:=by rfl)
  (l:[e].all ax=true:=by rfl) (B:(w.endLine==pos.line)=true:=by rfl) (hK:X.K=K:=by rfl) :
  IE K X (.Call (.Attribute a "index" w) [e] [] pos) (yi T af):=by
 subst hK;have C:ax e=true:=by rw[qbD,qba]at l;exact l.1
 refine⟨λenv st r f=>?_⟩;simp only[yi,qab]at f;obtain⟨⟨x,s1⟩,hx,⟨ws,s2⟩,hw,f⟩:=f;dsimp only at f;split at f
 case h_2=>cases f
 rename_i ds k;simp only[qab]at f;obtain⟨ns,hns,f⟩:=f;split at f
 case isFalse=>cases f
 rename_i hl;obtain⟨j,R,rfl⟩:=qad.mp f;have L:=bu hns;subst L;refine (BD qfM qfL PySem.F.type_list_index CD (ho.run _ _ _ hx) (ha.run _ _ _ hw) E (sK l (by show 1<30;decide)) B (aP C) (bq U)).imp ?_
 rintro σ H Q ⟨φ,hE,hS,q⟩
 refine⟨φ,hE,hS,λv H1 N f1 S1 w1=>?_⟩;obtain⟨p,vs,rfl,h0,F,G⟩:=w1;have ev:=Rls.ints G;subst ev;refine⟨.inl ⟨U,_,.inl F⟩,N,hE.fw hS f1,S1,λus H2 P f2 S2 w2=>?_⟩;obtain⟨y,us',rfl,ry,rfl⟩:=w2;cases (show y=.int k from ry);exact⟨p,ns,k,j,U,U,.inl (F.fw f2 h0),hl,R,q _ H2 P (f1.trans f2) S2 U⟩
end
section
variable {K:qae}{H:Hp}{φ ψ:List Addr}{x Cl L:Addr}{xs:List (Str×V)}{o:HO}
def Rl.chx (t:H x=some (.ins Cl L xs)) (A:xs.length<=5) (j:∀ a∈ψ,a=x):∀ {d:D}{v:V},Rl K H φ d v->Rl K (upd H x o) (φ++ψ) d v:=by
 have ne:∀ {a:Addr}{u:HO},H a=some u->(∀ C d f,u≠.ins C d f)->a≠x:=λ{a u} h q z=>by
  subst z;rw[t]at h;cases h;exact q _ _ _ U
 have nin:∀ {a:Addr},a≠x->a∉φ->a∉φ++ψ:=λ{a} n h z=>by
  rcases qaS.mp z with z|z
  ·exact h z
  ·exact n (j a z)
 intro d v;refine (?_:∀ v,Rl K H φ d v->Rl K _ _ d v) v;refine D.rec (motive_2:=λds=>∀ g,Rls K H φ ds g->Rls K (upd H x o) (φ++ψ) ds g) ?_ ?_ ?_ ?_ ?_ ?_ ?_ ?_ ?_ ?_ ?_ ?_ d
 ·exact λv h=>h
 ·exact λb v h=>h
 ·exact λb v h=>h
 ·exact λb v h=>h
 ·exact λb v h=>h
 ·rintro v ⟨a,e,hn,h⟩
  rcases h with⟨d,h⟩|⟨d,h⟩
  ·have n:=ne h (by intros;simp)
   exact⟨a,e,nin n hn,.inl ⟨d,by rw[upd_ne n];exact h⟩⟩
  ·have n:=ne h (by intros;simp)
   exact⟨a,e,nin n hn,.inr ⟨d,by rw[upd_ne n];exact h⟩⟩
 ·rintro ns v ⟨a,e,h⟩
  rcases h with⟨ob,h⟩|h
  ·exact⟨a,e,.inl ⟨ob,by rw[upd_ne (ne h (by intros;simp))];exact h⟩⟩
  ·exact⟨a,e,.inr h⟩
 ·rintro ds B v ⟨a,g,rfl,p,s⟩
  exact⟨a,g,U,by rw[upd_ne (ne p (by intros;simp))];exact p,B g s⟩
 ·rintro ds B v ⟨a,g,rfl,F,p,s⟩
  rcases p with p|⟨ob,p⟩
  ·have n:=ne p (by intros;simp)
   exact⟨a,g,U,nin n F,.inl (by rw[upd_ne n];exact p),B g s⟩
  ·have n:=ne p (by intros;simp)
   exact⟨a,g,U,nin n F,.inr ⟨ob,by rw[upd_ne n];exact p⟩,B g s⟩
 ·rintro ns ds B v ⟨a,C',I,fs,g,rfl,F,p,s,P,N,O,Q,S⟩
  have n:a≠x:=λz=>by
   subst z;rw[t]at p;cases p;rw[s,List.length_zip]at A;lia
  exact⟨a,C',I,fs,g,U,nin n F,by rw[upd_ne n];exact p,s,P,N,O,Q,B g S⟩
 ·exact λg h=>h
 ·rintro d ds G J g ⟨v,r,rfl,p,s⟩;exact⟨v,r,U,G v p,J r s⟩
variable (t:H x=some (.ins Cl L xs)) (A:xs.length<=5) (j:∀ a∈ψ,a=x)
include t A j
def Rls.chx:∀ {ds:List D}{g:List V},Rls K H φ ds g->Rls K (upd H x o) (φ++ψ) ds g
 |[],_,h=>h
 |d::ds,_,h=>by
  obtain⟨v,r,rfl,p,s⟩:=h;exact⟨v,r,U,Rl.chx t A j p,Rls.chx s⟩
def Rw.chx {w:W}{v:V} (h:Rw K H φ w v):Rw K (upd H x o) (φ++ψ) w v:=by
 cases w with
 |d y=>exact Rl.chx t A j h
 |h n=>
  obtain⟨a,e,rfl⟩:=h;exact⟨a,by rw[qaE (qas.mp e).1];exact e,U⟩
def Rws.chx:∀ {ds:List W}{g:List V},Rws K H φ ds g->Rws K (upd H x o) (φ++ψ) ds g
 |[],_,h=>h
 |d::ds,_,h=>by
  obtain⟨v,r,rfl,p,s⟩:=h;exact⟨v,r,U,Rw.chx t A j p,Rws.chx s⟩
def Rkv.chx:∀ {ds:List (List Int×D)}{g:List (List Key×V)},Rkv K H φ ds g->Rkv K (upd H x o) (φ++ψ) ds g
 |[],_,h=>h
 |(k,d)::ds,_,h=>by
  obtain⟨v,r,rfl,p,s⟩:=h;exact⟨v,r,U,Rl.chx t A j p,Rkv.chx s⟩
def Rkk.chx:∀ {ds:List (Int×D)}{g:List (Key×V)},Rkk K H φ ds g->Rkk K (upd H x o) (φ++ψ) ds g
 |[],_,h=>h
 |(k,d)::ds,_,h=>by
  obtain⟨v,r,rfl,p,s⟩:=h;exact⟨v,r,U,Rl.chx t A j p,Rkk.chx s⟩
def Rfs.chx:∀ {ds:List (Str×W)}{g:List (Str×V)},Rfs K H φ ds g->Rfs K (upd H x o) (φ++ψ) ds g
 |[],_,h=>h
 |(k,d)::ds,_,h=>by
  obtain⟨v,r,rfl,p,s⟩:=h;exact⟨v,r,U,Rw.chx t A j p,Rfs.chx s⟩
def Rc.chx {k:Nat}{a:Addr}{c:C} (E:a≠x) (h:Rc K H φ k a c):Rc K (upd H x o) (φ++ψ) k a c:=by
 cases c with
 |l ds=>obtain⟨g,q,r⟩:=h;exact⟨g,by rw[upd_ne E];exact q,Rls.chx t A j r⟩
 |n ds=>obtain⟨g,q,r,b⟩:=h;exact⟨g,by rw[upd_ne E];exact q,Rws.chx t A j r,b⟩
 |m ds=>obtain⟨g,q,r⟩:=h;exact⟨g,by rw[upd_ne E];exact q,Rkv.chx t A j r⟩
 |k ds=>obtain⟨g,q,r⟩:=h;exact⟨g,by rw[upd_ne E];exact q,Rkk.chx t A j r⟩
 |o ds=>obtain⟨C',R,g,q,r,b⟩:=h;exact⟨C',R,g,by rw[upd_ne E];exact q,Rfs.chx t A j r,b⟩
def Er.chx {env:Ev}{M:St} (h:Er K H φ env M):Er K (upd H x o) (φ++ψ) env M:=
 ⟨h.len,λi w e=>let ⟨v,e1,r⟩:=h.at_ i w e;⟨v,e1,Rw.chx t A j r⟩⟩
end
section
variable {K:qae}{H:Hp}{φ:List Addr}{x Cl j:Addr}{xs:List (Str×V)}{o:HO}{st:Sto}
def Sr.chx0 (S:Sr K H φ st) (i:H x=some (.ins Cl j xs)) (g:xs.length<=5) (hn:x∉φ):Sr K (upd H x o) φ st:=by
 refine⟨S.nd,S.len,λn a c d e=>?_⟩
 have:=Rc.chx (o:=o) (ψ:=[]) i g (λa z=>nomatch z) (λz=>hn (z ▸ qb2 d)) (S.at_ n a c d e)
 rw[(qb0 _)]at this;exact this
def Sr.chx1 (S:Sr K H φ st) (i:H x=some (.ins Cl j xs)) (g:xs.length<=5) (hn:x∉φ) {c:C} (p:Rc K (upd H x o) (φ++[x]) st.length x c):Sr K (upd H x o) (φ++[x]) (st++[c]):=by
 refine⟨qcy.mpr ⟨S.nd,qci.mpr ⟨qbJ,qcW⟩,λa l b hb z=>by rw[qao.mp hb]at z;exact hn (z ▸ l)⟩,by rw[qaz,qaz,S.len];rfl,λn a k d e=>?_⟩;by_cases h:n<φ.length
 ·rw[qaE h]at d
  rw[qaE (by rw[<-S.len];exact h)]at e;exact Rc.chx i g (λa z=>qao.mp z) (λz=>hn (z ▸ qb2 d)) (S.at_ n a k d e)
 ·have m:=(qas.mp d).1
  rw[qaz,qbU]at m;have f:n=φ.length:=by lia
  subst f;rw[qaK (qap _),qex]at d;rw[S.len,qaK (qap _),qex]at e;cases d;cases e;rw[S.len];exact p
end
def pN:List (Str×Ef)->Ev->Sto->Option (List (Str×W)×Sto)
 |[],_,st=>some ([],st)
 |(f,g)::r,env,st=>(g env st).bind λx=>(pN r env x.2).map λy=>((f,x.1)::y.1,y.2)
structure FwX (x:Addr) (φ φ':List Addr) (H H':Hp):Prop where
 ext:∃ ψ,φ'=φ++ψ/\∀ a∈ψ,H a=none\/a=x
 keep:∀ b o,b∉φ->b≠x->H b=some o->H' b=some o
 there:∀ b o,H b=some o->∃ o',H' b=some o'
def FwX.pre {x:Addr}{φ a i:List Addr}{H H1 H2:Hp}{o m:HO} (r:H x=some m) (hn:x∉a) (f:Fw φ a H H1) (g:FwX x a i (upd H1 x o) H2):FwX x φ i H H2:=by
 obtain⟨ψ,rfl,l⟩:=f.ext;obtain⟨n,rfl,p⟩:=g.ext;have k:∀ b u,H b=some u->∃ d,upd H1 x o b=some d:=λb u h=>by
  by_cases z:b=x
  ·exact⟨o,by rw[z,upd_same]⟩
  ·obtain⟨d,h'⟩:=f.there b u h
   exact⟨d,by rw[upd_ne z];exact h'⟩
 refine⟨⟨_,by rw[qbM],λc j=>?_⟩,λc u j e h=>?_,λc u h=>?_⟩
 ·rcases qaS.mp j with z|z
  ·exact .inl (l c z)
  ·rcases p c z with q|q
   ·left
    cases q':H c with
    |none=>rfl
    |some u=>
     obtain⟨d,h'⟩:=k c u q';rw[q]at h';cases h'
   ·exact .inr q
 ·refine g.keep c u (λz=>?_) e (by rw[upd_ne e];exact f.keep c u j h)
  rcases qaS.mp z with z|z
  ·exact j z
  ·rw[l c z]at h;cases h
 ·obtain⟨d,h'⟩:=k c u h
  exact g.there c d h'
def F2 (K:qae) (g:List (Str×Ef)) (env:Ev) (st:Sto) (y:List (Str×W)×Sto):TS:=λD b H=>∃ φ x Cl c xs fs,Er K H φ env b/\Sr K H φ st/\b[0]?=some (some (.ref x))/\x∉φ/\H x=some (.ins Cl c xs)/\Rfs K H φ fs xs/\
 Cls K Cl/\(∀ p∈fs,cp K Cl p.1)/\(∀ p∈g,cp K Cl p.1)/\fs.length+g.length=6/\(∀ p∈g,p.1∉fs.map (·.1))/\(g.map (·.1)).Nodup/\
 ∀ H' a,FwX x φ a H H'->Sr K H' a (y.2++[.o (fs++y.1)])->a[y.2.length]?=some x->D.nx b H'
structure INI (K:qae) (X:Cx) (ss:List Stmt) (g:List (Str×Ef)):Prop where
 run:∀ env st y,pN g env st=some y->PSs X ss (F2 K g env st y)
section
variable {K:qae}{X:Cx}{e:Expr}{F:Ef}{f:Str}{ss:List Stmt}{g:List (Str×Ef)}{pos c p1:Pos}
def rM {env:Ev}{st:Sto}{w:W}{s1:Sto} (Q:X.N[0]?=some ("self" : Str)) (O:Vis X.env.scope "self") (R:IE K X e F) (M:F env st=some (w,s1)) (P:X.K=K)
  (N:qcu e (some (.Attribute (.Name "self" p1) f c)) pos.line X.env=pure false) :
  PS X (.Assign [.Attribute (.Name "self" p1) f c] e pos) (λD L H=>∃ φ x Cl j xs,Er K H φ env L/\Sr K H φ st/\L[0]?=some (some (.ref x))/\x ∉ φ/\H x=some (.ins Cl j xs)/\Cls K Cl/\cp K Cl f/\xs.length<=5/\f ∉ xs.map (·.1)/\
   ∀ v H1 d,Fw φ d H H1->Sr K H1 d s1->Rw K H1 d w v->x∉d->H1 x=some (.ins Cl j xs)->D.nx L (upd H1 x (.ins Cl j (xs++[(f,v)])))):=by
 subst P;refine (y7 (ie Q O) (R.run _ _ _ M) N).imp ?_
 rintro D L H ⟨φ,x,Cl,j,xs,J,A,G,E,s,r,C,Y,B,q⟩
 refine⟨φ,J,A,λv H1 d l k I=>⟨_,G,x,Cl,j,xs,U,l.keep _ _ E s,r,C,by lia,?_⟩⟩;rw[sB B];exact q v H1 d l k I (l.nin E s) (l.keep _ _ E s)
def Ad (Q:X.N[0]?=some ("self" : Str)) (O:Vis X.env.scope "self") (R:IE K X e F) (P:X.K=K:=by rfl)
  (N:qcu e (some (.Attribute (.Name "self" p1) f c)) pos.line X.env=pure false:=by rfl):INI K X [.Assign [.Attribute (.Name "self" p1) f c] e pos] [(f,F)]:=by
 refine⟨λenv st y n=>?_⟩;simp only[pN,qab,qah]at n;obtain⟨⟨w,s1⟩,M,n⟩:=n;cases n;refine (vU (rM Q O R M P N)).imp ?_
 rintro D L H ⟨φ,x,Cl,j,xs,fs,J,A,G,E,s,r,C,Y,B,T,V,t,q⟩
 have hl:xs.length=5:=by rw[<-r.length];simpa using T
 have nf:f∉xs.map (·.1):=by rw[r.keys];exact V _ qaf
 refine⟨φ,x,Cl,j,xs,J,A,G,E,s,C,B _ qaf,by lia,nf,λv H1 d l k I hn i=>?_⟩;have r1:=r.fw A l;have w2:=Rw.chx (o:=.ins Cl j (xs++[(f,v)])) i (by lia) (λa z=>qao.mp z) I
 refine q _ _ ?_ (k.chx1 i (by lia) hn ⟨Cl,j,_,upd_same,Rfs.snoc w2 (Rfs.chx (o:=.ins Cl j (xs++[(f,v)])) (ψ:=[x]) i (by lia) (λa z=>qao.mp z) r1),λm hm=>by rw [<-k.len];exact (Rfs.snoc (f:=f) I r1).mem hm,C,λp u=>by
  rcases qaS.mp u with z|z
  ·exact Y p z
  ·rw[qao.mp z];exact B _ qaf⟩) (by rw[<-k.len,qaK (qap _),qex];rfl)
 refine FwX.pre s hn l ⟨⟨_,U,λa z=>.inr (qao.mp z)⟩,λb o _ _ h=>h,λb o h=>⟨o,h⟩⟩
def gP (Q:X.N[0]?=some ("self" : Str)) (O:Vis X.env.scope "self") (R:IE K X e F) (hr:INI K X ss g) (hg:g≠[]:=by intro z;cases z) (P:X.K=K:=by rfl)
  (N:qcu e (some (.Attribute (.Name "self" p1) f c)) pos.line X.env=pure false:=by rfl):INI K X (.Assign [.Attribute (.Name "self" p1) f c] e pos::ss) ((f,F)::g):=by
 refine⟨λenv st y n=>?_⟩;simp only[pN,qab]at n;obtain⟨⟨w,s1⟩,M,n⟩:=n;obtain⟨y',hy',rfl⟩:=qad.mp n;refine (dm (rM Q O R M P N) (hr.run _ _ _ hy')).imp ?_
 rintro D L H ⟨φ,x,Cl,j,xs,fs,J,A,G,E,s,r,C,Y,B,T,V,t,q⟩
 have hg1:=qgK.mpr hg;have hl:xs.length<=4:=by rw[<-r.length];rw[qan]at T;lia
 have nf:f∉xs.map (·.1):=by rw[r.keys];exact V _ qaf
 refine⟨φ,x,Cl,j,xs,J,A,G,E,s,C,B _ qaf,by lia,nf,λv H1 d l k I hn i=>?_⟩;have r2:=Rfs.chx (o:=.ins Cl j (xs++[(f,v)])) (ψ:=[]) i (by lia) (λa z=>nomatch z) (r.fw A l)
 have w2:=Rw.chx (o:=.ins Cl j (xs++[(f,v)])) (ψ:=[]) i (by lia) (λa z=>nomatch z) I
 have S:=Er.chx (o:=.ins Cl j (xs++[(f,v)])) (ψ:=[]) i (by lia) (λa z=>nomatch z) (J.fw A l)
 rw[(qb0 _)]at r2 w2 S;rw[qar,qci]at t;refine⟨d,x,Cl,j,_,_,S,k.chx0 i (by lia) hn,G,hn,upd_same,Rfs.snoc w2 r2,C,λp u=>?_,λp u=>B p (qak _ u),by rw[qaz,qbU];rw[qan]at T;lia,λp u z=>?_,t.2,λH' φ' fx S' ex=>?_⟩
 ·rcases qaS.mp u with z|z
  ·exact Y p z
  ·rw[qao.mp z];exact B _ qaf
 ·rw[qbS]at z
  rcases qaS.mp z with z|z
  ·exact V p (qak _ u) z
  ·rw[qar,qbA,qao]at z
   exact t.1 (z ▸ qdJ u)
 ·rw[qbM]at S'
  exact q H' φ' (FwX.pre s hn l fx) S' ex
end
def Be (K:qae) (n:Nat) (ps:Nat) (g:List (Str×Ef)):Sp:=λd H Q _=>∃ φ st ws y x c Cl a H1,d=.ref x::a/\ws.length+1=ps/\pN g (none::(ws.map some++qaG (n - ps) none)) st=some y/\Rws K H1 φ ws a/\Sr K H1 φ st/\H1 x=none/\H1 c=none/\c≠x/\
 H=upd (upd H1 c (.own x)) x (.ins Cl c [])/\Cls K Cl/\(∀ p∈g,cp K Cl p.1)/\g.length=6/\(g.map (·.1)).Nodup/\∀ H' b,Fw φ b H1 H'->Sr K H' b (y.2++[.o y.1])->b[y.2.length]?=some x->Q .non H'
def D5 {P:qaN}{w:World}{K:qae}{mg:Str->Option Value}{base:Heap}{x c:Str}{st:Stmt}{f:Addr}{fd:qb5}{N ps:List Str}{k:Nat}{g:List (Str×Ef)} (F:Fun K x c st f fd) (S:ck N ps (ao st)) (hN:ps.length<=N.length)
  (hb:∀ (j:Value) (A:qa0) (outer:List Env) (s:qaj) (H:Hp) (E:XK),bo k (A.deeper (qel c (ao st) s.heap.objs.size f j))->INI K (ft CX0 P w K mg base N c (ao st) f j A outer s H E).nox (aW st) g) :
  dG P w K mg base CX0 (k+1) f fd ps (Be K N.length ps.length g):=by
 refine F.ok S (λW H Q E h=>?_) λj A outer s H W Q E X h=>?_
 ·obtain⟨φ,st,ws,y,x,n,Cl,l,H1,rfl,C,e,rw,_⟩:=h
  rw[qan,<-rw.length,C]
 ·obtain⟨φ,O,ws,y,x,n,Cl,l,H1,rfl,C,e,rw,S',r,hd,m,rfl,T,hA,Y,D,q⟩:=h
  refine⟨_,(hb j A outer s _ E X).run _ _ _ e,φ,x,Cl,n,_,[],?_,?_,?_,?_,upd_same,U,T,λp R=>(nomatch R),hA,by simpa using Y,λp _ z=>(nomatch z),D,λH' u B S2 ex=>?_⟩
  ·have t:aO H1 (upd (upd H1 n (.own x)) x (.ins Cl n [])):=(aO.new hd _).trans (aO.new (by rw[upd_ne (qbL m)];exact r) _)
   have J:=mo (N:=N) (ws:=.d .non::ws) ⟨_,l,U,U,(rw.fw S' (Fw.same t))⟩ (by exact C);refine⟨?_,λi w I=>?_⟩
   ·have:=J.len
    unfold ij at this ⊢
    simp at this ⊢
    lia
   ·cases i with
    |zero=>cases I
    |succ i=>
     obtain⟨v,G,L⟩:=J.at_ (i+1) w I;refine⟨v,?_,L⟩;unfold ij at G ⊢;simpa using G
  ·exact S'.same ((aO.new hd _).trans (aO.new (by rw[upd_ne (qbL m)];exact r) _))
  ·rfl
  ·exact S'.nin r
  ·refine q H' u ?_ S2 ex
   obtain⟨ψ,rfl,M⟩:=B.ext;have t:aO H1 (upd (upd H1 n (.own x)) x (.ins Cl n [])):=(aO.new hd _).trans (aO.new (by rw[upd_ne (qbL m)];exact r) _);refine⟨⟨ψ,U,λa V=>?_⟩,λb o hb h=>?_,λb o h=>B.there b o (t b o h)⟩
   ·rcases M a V with z|z
    ·cases q':H1 a with
     |none=>rfl
     |some o=>rw[t a o q']at z;cases z
    ·rw[z];exact r
   ·exact B.keep b o hb (λz=>by rw[z,r]at h;cases h) (t b o h)
def oo (n ps:Nat) (g:List (Str×Ef)) (a:Af):Ef
 |env,st=>(a env st).bind λr=>if r.1.length+1=ps then (pN g (none::(r.1.map some++qaG (n - ps) none)) r.2).map λy=>(.h y.2.length,y.2++[.o y.1]) else none
def Ac {K:qae}{X:Cx}{x:Str}{k j:Nat}{l Cl:Addr}{fd:qb5}{N ps:List Str}{g:List (Str×Ef)}{p pos:Pos}{e:Expr}{es:List Expr}{m:Af} (M:Mk X.K Cl l) (F:dG X.prog X.w X.K X.mg X.base CX0 j l fd ps (Be K N.length ps.length g)) (a:j<=k) (L:bo (k+1) X.A) (hg:Gl X x) (hm:X.mg x=some (.ref Cl)) (hb:dh X.K fd ps [])
  (w:Cls K Cl) (hA:∀ p∈g,cp K Cl p.1) (O:g.length=6) (i:(g.map (·.1)).Nodup)
  (A:IA K X (e::es) m) (c:(x==("__debug__" : Str))=false:=by decide) (v:ax e=true:=by rfl) (t:es.all ax=true:=by rfl) :
  IE K X (.Call (.Name x p) (e::es) [] pos) (oo N.length ps.length g m):=by
 refine⟨λenv st r h=>?_⟩;simp only[oo,qab]at h;obtain⟨y,n,h⟩:=h;split at h
 case isFalse=>cases h
 rename_i D;obtain⟨z,E,rfl⟩:=qad.mp h;refine (AG M (F.mono a) L hg hm hb .nil yO (A.run _ _ _ n) c (aP v) (bq t)).imp ?_
 rintro P H Q ⟨φ,C,B,q⟩
 refine⟨φ,C,B,λI H1 d J s1 s=>λx o u hd f=>?_⟩;rw[qb0];refine⟨d,_,_,z,x,o,Cl,I,H1,U,D,E,s,s1,u,hd,f,U,w,hA,O,i,λH' b G S2 ex=>⟨U,?_⟩⟩;exact q _ H' b (J.trans G) S2 ⟨x,ex,U⟩
def vwF (st:Sto):List (Str×W)->Option (List D)
 |[]=>some []
 |(_,.d x)::r=>(vwF st r).map λy=>x::y
 |(_,.h m)::r=>(lg st m).bind λds=>(vwF st r).map λy=>.lst ds::y
def vwW (st:Sto):W->Option W
 |.d x=>some (.d x)
 |.h n=>match st[n]? with
  |some (.o fs)=>if 5<fs.length then (vwF st fs).map λds=>.d (.ob (fs.map (·.1)) ds) else none
  |some (.l ds)=>some (.d (.lst ds))
  |_=>none
def vwA (st:Sto):List W->Option (List W)
 |[]=>some []
 |w::ws=>(vwW st w).bind λx=>(vwA st ws).map λy=>x::y
mutual
def okT:D->Bool
 |.non=>true
 |.bl _=>true
 |.int _=>true
 |.str _=>true
 |.tup ds=>uo ds
 |_=>false
def uo:List D->Bool
 |[]=>true
 |d::ds=>okT d&&uo ds
end
section
variable {K:qae}{H:Hp}{φ φ':List Addr}
mutual
def Rl.any:∀ {d:D}{v:V},okT d=true->Rl K H φ d v->Rl K H φ' d v
 |.non,_,_,h=>h
 |.bl _,_,_,h=>h
 |.int _,_,_,h=>h
 |.str _,_,_,h=>h
 |.tup ds,_,o,h=>by
  obtain⟨a,vs,rfl,h1,h2⟩:=h;exact⟨a,vs,U,h1,Rls.any (by rw[okT]at o;exact o) h2⟩
 |.ty _,_,o,_=>by rw[okT]at o<;>first|cases o|(intros;simp)
 |.dct,_,o,_=>by rw[okT]at o<;>first|cases o|(intros;simp)
 |.scr _,_,o,_=>by rw[okT]at o<;>first|cases o|(intros;simp)
 |.lst _,_,o,_=>by rw[okT]at o<;>first|cases o|(intros;simp)
 |.ob _ _,_,o,_=>by rw[okT]at o<;>first|cases o|(intros;simp)
def Rls.any:∀ {ds:List D}{vs:List V},uo ds=true->Rls K H φ ds vs->Rls K H φ' ds vs
 |[],_,_,h=>h
 |d::ds,_,o,h=>by
  rw[uo,qba]at o;obtain⟨v,r,rfl,h1,h2⟩:=h;exact⟨v,r,U,Rl.any o.1 h1,Rls.any o.2 h2⟩
end
def Rl.bare {d:D}{v:V} (h:Rl K H φ d v):Rl K H [] d v:=Rl.less h
def Rls.bare {d:List D}{v:List V} (h:Rls K H φ d v):Rls K H [] d v:=Rls.less h
def oI:∀ {fs:List (Str×W)}{vs:List (Str×V)},Rfs K H φ fs vs->vs=(fs.map (·.1)).zip (vs.map (·.2))
 |[],vs,r=>by cases r;rfl
 |(n,x)::fs,vs,r=>by
  obtain⟨v,t,rfl,g,j⟩:=r;rw[qar,qar,qdf,<-oI j]
def qR {st:Sto} (S:Sr K H φ st):∀ {fs:List (Str×W)}{vs:List (Str×V)}{ds:List D},Rfs K H φ fs vs->vwF st fs=some ds->Rls K H [] ds (vs.map (·.2))
 |[],vs,ds,r,h=>by cases r;cases h;rfl
 |(n,.d x)::fs,vs,ds,r,h=>by
  obtain⟨v,t,rfl,g,j⟩:=r;obtain⟨y,k,rfl⟩:=qad.mp h;exact⟨v,_,U,Rl.bare g,qR S j k⟩
 |(n,.h m)::fs,vs,ds,r,h=>by
  obtain⟨v,t,rfl,g,j⟩:=r;obtain⟨es,u,h⟩:=qab.mp h;obtain⟨y,k,rfl⟩:=qad.mp h;obtain⟨a,l,rfl⟩:=g;obtain⟨s,B,E⟩:=S.atl m a es l u;exact⟨_,_,U,⟨a,s,U,qbJ,.inl B,Rls.bare E⟩,qR S j k⟩
def wk {st:Sto} (S:Sr K H φ st):∀ {ws:List W}{vs:List V}{c:List W},Rws K H φ ws vs->vwA st ws=some c->Rws K H [] c vs
 |[],vs,c,r,h=>by cases h;exact r
 |w::ws,vs,c,r,h=>by
  obtain⟨v,t,rfl,g,j⟩:=r;obtain⟨x,e,h⟩:=qab.mp h;obtain⟨y,k,rfl⟩:=qad.mp h;refine⟨v,t,U,?_,wk S j k⟩;cases w with
  |d z=>cases e;exact Rl.bare g
  |h n=>
   unfold vwW at e;dsimp only at e;split at e
   ·rename_i fs C
    split at e
    ·rename_i I
     obtain⟨ds,i,rfl⟩:=qad.mp e;obtain⟨a,l,rfl⟩:=g;obtain⟨Cl,G,s,q,A,b,L,hA⟩:=S.at_ n a _ l C;refine⟨a,Cl,G,s,_,U,qbJ,q,oI A,by rw[qag,qag,A.length],by rw[qag];exact I,L,λf F=>?_,qR S A i⟩;obtain⟨p,J,rfl⟩:=qaM.mp F;exact hA p J
    ·cases e
   ·rename_i ds i
    cases e;obtain⟨a,l,rfl⟩:=g;obtain⟨s,B,E⟩:=S.at_ n a _ l i;exact⟨a,s,U,qbJ,.inl B,Rls.bare E⟩
   ·cases e
end
def cW (m:Fn) (a:Af):Ef
 |env,st=>(a env st).bind λr=>(vwA r.2 r.1).bind λws=>(m ws []).bind λy=>match y.1 with
 |.d x=>if okT x=true then some (.d x,r.2) else none
 |_=>none
def ym {K:qae}{X:Cx}{e:Expr}{es:List Expr}{pos:Pos}{u:Af}{x:Str}{k j:Nat}{l:Addr}{fd:qb5}{ps:List Str}{m:Fn}{p:Pos} (F:dG X.prog X.w X.K X.mg X.base CX0 j l fd ps (spI K m)) (f:j<=k) (S:bo k X.A) (hg:Gl X x) (hm:X.mg x=some (.ref l)) (D:qcz X.K (.ref l)=true) (hb:dh X.K fd ps [])
  (L:IA K X (e::es) u) (i:(x==("__debug__" : Str))=false:=by decide) (I:ax e=true:=by rfl) (E:es.all ax=true:=by rfl) :
  IE K X (.Call (.Name x p) (e::es) [] pos) (cW m u):=by
 refine⟨λenv st r h=>?_⟩;simp only[cW,qab]at h;obtain⟨y,A,ws,g,⟨w,T⟩,O,h⟩:=h;cases w with
 |h n=>cases h
 |d z=>
  dsimp only at h;split at h
  case isFalse=>cases h
  rename_i hok;cases h;refine (vP (F.mono f) S hg hm D hb .nil yO (L.run _ _ _ A) i (aP I) (bq E)).imp ?_
  rintro W H Q ⟨φ,N,M,q⟩
  refine⟨φ,N,M,λV H1 s R s1 C=>?_⟩;show spI K m _ H1 Q E0;rw[qb0];refine⟨_,_,ws,_,O,wk s1 C g,⟨qcW,U,λn a c B _=>by cases B⟩,λv H2 G P J w2=>?_⟩;have t:=λb o h=>P.keep b o qbJ h;exact q v H2 s (R.trans (Fw.same t)) (s1.same t) (Rl.any hok w2)
def Rls.flat {K:qae}{H H':Hp}{φ c:List Addr}:∀ {ds:List D}{e:List V},ds.all cK=true->Rls K H φ ds e->Rls K H' c ds e
 |[],_,_,h=>h
 |d::ds,_,o,h=>by
  rw[qbD,qba]at o;obtain⟨v,r,rfl,a,f⟩:=h;refine⟨v,r,U,?_,Rls.flat o.2 f⟩;cases d with
  |non=>exact a
  |bl b=>exact a
  |int b=>exact a
  |str b=>exact a
  |_=>exact absurd o.1 (by simp[cK])
def i3 (e k h g f:Nat) (fl:Lf):Sf
 |env,st=>(fl env st).bind λr=>match env.getD k none,env.getD h none,env.getD g none,env.getD f none with
 |some (.d (.int p)),some (.d (.int c)),some (.d (.lst b)),some (.d a)=>(ixN r.1.length p).bind λj=>(ixN b.length c).bind λi=>if b.length<=1000000/\e<env.length/\b.all cK=true then some (.nx (env.set e (some (.d (.lst (r.1.set j (.lst (b.set i a))))))) r.2) else none
 |_,_,_,_=>none
def lp {env:Ev}{i:Nat}{w:W} (h:env.getD i none=some w):env[i]?=some (some w):=by
 rw[qfD]at h;cases q:env[i]? with
 |none=>rw[q]at h;cases h
 |some o=>rw[q]at h;rw[show o=some w from h]
def Ag {α:Type}{xs:List α}{i:Int}{j:Nat}{v:α} (h:ixN xs.length i=some j) (a:xs[j]?=some v):atI xs i=some v:=by
 unfold atI;rw[h];exact a
def Ct {n:Nat}{i:Int}{j:Nat} (h:ixN n i=some j):j<n:=(pY h).2.1
structure ISL (K:qae) (X:Cx) (s:Stmt) (i0:Nat) (fl:Lf):Prop where
 run:∀ env st r,fl env st=some r->PS X s (λD σ H=>∃ φ,Er K H φ env σ/\Sr K H φ st/\∀ a vs H1 φ',Fw φ φ' H H1->Sr K H1 φ' r.2->H1 a=none->Rls K H1 φ' r.1 vs->D.nx (σ.set i0 (some (.ref a))) (upd H1 a (.lst vs)))
def Co {K:qae}{X:Cx}{pos:Pos}{m:Expr}{b:Scope}{Nc:List Str}{k:Nat}{js:List Nat}{h iter:Expr}{f:List Expr}{A:Lf}{g:Tg}{tt:Tf}{te:Ef}{z:Nat}{i:Str}{y e:Pos}
  (t:X.N.Nodup) (p:X.N[z]?=some i) (u:Loc X.env.scope i) (S:dH X b Nc (fz k js)) (F:X.calm=true) (o:∀ j∈rJ g,j<k) (hi:II K X m iter A)
  (hg:∀ a s H C c,PG (lcX X b a Nc s H C c) m (tG K g)) (G:∀ a s H C c,ITs K (lcX X b a Nc s H C c) f tt) (L:∀ a s H C c,IE K (lcX X b a Nc s H C c) h te)
  (hsw:qcu (.ListComp h [⟨m,iter,f,0⟩] b pos) (some (.Name i y)) e.line X.env=pure true:=by rfl)
  (w:X.fn i=true\/X.env.scope.names.lookup i=some .local:=by first|exact .inl U|exact .inr U|assumption)
  (E:∀ x,qbX iter X.env x=pure x:=by intro _;rfl):ISL K X (.Assign [.Name i y] (.ListComp h [⟨m,iter,f,0⟩] b pos) e) z (iLc k js A g tt te):=by
 refine⟨λenv st r n=>?_⟩;simp only[iLc,qab]at n;obtain⟨⟨ds,s1⟩,B,n⟩:=n;have d:=n;by_cases v:¬ ds.length<=1000000
 ·rw[iFN v]at d;cases d
 have l:ds.length<=1000000:=by lia
 rw[iFP l]at d;refine (BH t p u S F (hi.run _ _ _ B) hg (λa s H C c=>(G a s H C c).run) (λa s H C c=>(L a s H C c).any) hsw w E).imp ?_
 rintro D M H ⟨φ,J,I,q⟩
 exact ud o l d M H _ ⟨φ,J,I,q⟩
section
variable {K:qae}{X:Cx}{Y:Stmt}{m t F E G:Str}{l ip ic R S:Nat}{comp:Expr}{fl:Lf}{ss:List Stmt}{gb:Sf}{p1 p2 p3 p4 p5 p6 p7 p8 p9 q1 q2 q3 q4 q5 q6 q7:Pos}
def iB (hN:X.N.Nodup) (nl:X.N[l]?=some m) (np:X.N[ip]?=some t) (nc:X.N[ic]?=some F) (nt:X.N[R]?=some E) (na:X.N[S]?=some G)
  (ll:Loc X.env.scope m) (vl:Vis X.env.scope m) (vp:Vis X.env.scope t) (vc:Vis X.env.scope F) (vt:Vis X.env.scope E) (va:Vis X.env.scope G) (d1:l≠ip) (d2:l≠ic) (d3:l≠R) (d4:l≠S)
  (bl:(m==("__debug__" : Str))=false) (bp:(t==("__debug__" : Str))=false) (bc:(F==("__debug__" : Str))=false) (bt:(E==("__debug__" : Str))=false) (ba:(G==("__debug__" : Str))=false)
  (el:(m==("__classdict__" : Str))=false) (ep:(t==("__classdict__" : Str))=false) (ec:(F==("__classdict__" : Str))=false) (et:(E==("__classdict__" : Str))=false) (ea:(G==("__classdict__" : Str))=false)
  (O:ISL K X Y l fl) (hgL:Gl X "list") (hmL:X.mg "list" = none) (P:ISs K X ss gb)
  (hs2:qfs [.Subscript (.Name m p3) (.Name t p4) p5] (.Call (.Name "list" p6) [.Name E p7] [] p8) p9.line X.env=pure false) (hw2:qft [.Subscript (.Name m p3) (.Name t p4) p5] (.Call (.Name "list" p6) [.Name E p7] [] p8) X.env=pure none)
  (hs3:qfs [.Subscript (.Subscript (.Name m q1) (.Name t q2) q3) (.Name F q4) q5] (.Name G q6) q7.line X.env=pure false) (hw3:qft [.Subscript (.Subscript (.Name m q1) (.Name t q2) q3) (.Name F q4) q5] (.Name G q6) X.env=pure none) (hK:X.K=K) :
  ISs K X (Y::.Assign [.Subscript (.Name m p3) (.Name t p4) p5] (.Call (.Name "list" p6) [.Name E p7] [] p8) p9::.Assign [.Subscript (.Subscript (.Name m q1) (.Name t q2) q3) (.Name F q4) q5] (.Name G q6) q7::ss) (ae (i3 l ip ic R S fl) gb):=by
 subst hK;refine⟨λenv st r hr=>?_⟩;simp only[ae,i3,qab]at hr;obtain⟨r1,⟨⟨ds,s1⟩,hfl,g⟩,hr⟩:=hr;split at g
 case h_2=>cases g
 rename_i p c ts a hp hc ht ha';simp only[qab]at g;obtain⟨j,hj,i,hi,g⟩:=g;split at g
 case isFalse=>cases g
 rename_i hz;cases g;have pl:∀ {q:Pos},PE X (.Name m q) (qP l):=λ{q}=>ie nl vl bl el;have pp:∀ {q:Pos},PE X (.Name t q) (qP ip):=λ{q}=>ie np vp bp ep;have pc:∀ {q:Pos},PE X (.Name F q) (qP ic):=λ{q}=>ie nc vc bc ec;have pt:∀ {q:Pos},PE X (.Name E q) (qP R):=λ{q}=>ie nt vt bt et;have pa:∀ {q:Pos},PE X (.Name G q) (qP S):=λ{q}=>ie na va ba ea
 refine (dm (O.run _ _ _ hfl) (dm (uw (db ((iu (K:=X.K) U).run s1 [.d (.lst ts)] ts U) hgL hmL qaU (lP pt qD) (by decide) (by decide)) (ur pl pp nu (oO U)) hs2 hw2 (oN U))
  (dm (uw pa (ur (BE t9 pl pp (rV U)) pc nu (oO U)) hs3 hw3 (oN U)) (P.run _ _ _ hr)))).imp ?_
 rintro D σ H ⟨φ,hE,hS,q⟩
 refine⟨φ,hE,hS,λy W H1 x f1 S1 C rl=>?_⟩;have n:=hE.fw hS f1;obtain⟨vp',gp,rp⟩:=n.at_ ip _ (lp hp);obtain⟨vc',gc,rc⟩:=n.at_ ic _ (lp hc);obtain⟨vt',gt,rt⟩:=n.at_ R _ (lp ht);obtain⟨N,ga,ra⟩:=n.at_ S _ (lp ha');subst rp rc;have f:∀ {k:Nat}{u:V}{v:V},l≠k->σ[k]?=some _->(σ.set l (some v))[k]?=some (some u):=λ{k u v} h e=>by rw[qbB h];exact e
 -- the list's line
 refine⟨_,f d3 gt,x,S1.new C,⟨vt',_,U,?_,U⟩,λbl L H2 sm J ru=>?_⟩
 ·exact (Rl.fw S1 (Fw.new C) rt)
 have I:=sm _ _ upd_same;have A:=aI I J;have s:=rl.length.symm;have T:(σ.set l (some (.ref y)))[l]?=some (some (.ref y)):=by
  rw[qbq];rw[<-hE.len];exact hz.2.1
 refine⟨_,T,_,f d1 gp,y,W,p,j,U,U,by rw[upd_ne A];exact I,by rw[s];exact hj,?_⟩;have hjl:j<W.length:=by rw[s];exact Ct hj
 refine⟨_,f d4 ga,_,T,_,f d1 gp,.inl ⟨y,_,p,.ref bl,U,U,SqL.of upd_same,Ag (j:=j) (by rw[qb6,s];exact hj) (by rw[qbq hjl]),?_⟩⟩;refine⟨_,f d2 gc,bl,L,c,i,U,U,by rw[upd_ne (qbL A),upd_same],by rw[ru.length.symm];exact hi,?_⟩;have M:aO H1 (upd (upd (upd H2 bl (.lst L)) y (.lst (W.set j (.ref bl)))) bl (.lst (L.set i N))):=λb o h=>by
  have e1:b≠y:=λz=>by rw[z,C]at h;cases h
  have Q:=sm b o (by rw[upd_ne e1];exact h);have e2:b≠bl:=λz=>by rw[z,J]at Q;cases Q
  rw[upd_ne e2,upd_ne e1,upd_ne e2];exact Q
 dsimp only;generalize hH:upd (upd (upd H2 bl (.lst L)) y (.lst (W.set j (.ref bl)))) bl (.lst (L.set i N))=H5 at M ⊢;have ha5:H5 y=some (.lst (W.set j (.ref bl))):=by rw[<-hH,upd_ne A,upd_same]
 have hb5:H5 bl=some (.lst (L.set i N)):=by rw[<-hH,upd_same]
 have B:Fw x x H1 H5:=Fw.same M;have ru5:Rls X.K H5 x ts L:=Rls.flat hz.2.2 ru;refine⟨x,(n.fw S1 B).set l (w:=.d (.lst (ds.set j (.lst (ts.set i a))))) ?_,S1.same M,?_⟩
 ·exact⟨y,_,U,(S1.nin C),.inl ha5,Rls.set j (rl.fw S1 B) ⟨bl,_,U,(λz=>by
  obtain⟨o,ho,_⟩:=S1.lst z
  have:bl≠y:=qbL A
  have Q:H2 bl=some o:=sm bl o (by rw[upd_ne this];exact ho)
  rw[J]at Q;cases Q),.inl hb5,Rls.set i ru5 (Rl.fw S1 B ra)⟩⟩
 ·exact q.fw (f1.trans B)
end
section
variable {K:qae}{X:Cx}
def DJ (_ j:Int):Prop:=0<j/\j.natAbs.log2<9000
def yN:OpR X (qbH .FloorDiv) (rI DJ λi j=>.int (i / j)):=opI λi j _ _ _ _ _ C q=>by
 obtain⟨h0,h1⟩:=C;exact floordiv_int (by lia) (by rw[qdR i (by lia)];exact q) (.inl (PyProof.noPylong_of_log2 h1))
def ph (_:Sto):W->W->Option D
 |.d (.int i),.d (.int j)=>if 0<j/\j.natAbs.log2<9000 then some (.int (i / j)) else none
 |_,_=>none
def qp:OpD K X (qbH .FloorDiv) ph:=gB (λ_ _ _=>rfl) λi j d h=>by obtain⟨c,rfl⟩:=ifS h;exact⟨yN.imp λ_ _ _ _ q=>⟨i,j,q.1,q.2.1,c,q.2.2⟩,U⟩
def yr:bI X (.type "range") (λxs H Q=>∃ i j:Int,xs=[.int i,.int j]/\∀ p,H p=none->Q (.ref p) (upd H p (.rng i j))):=by
 intro F s σ H xs us Q I N h;obtain⟨i,j,rfl,q⟩:=h;cases N with
 |cons r G=>
  cases G with
  |cons r' G=>
   cases G;obtain⟨t,rfl⟩:=r;obtain⟨t',rfl⟩:=r';exact call_range_2 ⟨.ref _,_,I.laid (o:=.rng i j) (λ_ _ q=>qai _ q) (qap _) ⟨_,_,_,qav _ U⟩,U,q _ I.fresh⟩
def yp {acc:Array Value}{lo:Int}{n:Nat} (h:ItemsOf (λi v=>∃ t,v=Value.int (lo+(i:Int)*1) t) acc n):aG ((qam n).map λk:Nat=>V.int (lo+k)) acc.toList:=by
 obtain⟨hz,hi⟩:=h;have key:∀ (l:List Value) (k:Nat),(∀ j v,l[j]?=some v->∃ t,v=Value.int (lo+((k+j:Nat))) t)->aG ((qeH k l.length).map λk:Nat=>V.int (lo+k)) l:=by
  intro l
  induction l with
  |nil=>intro k _;exact .nil
  |cons x l ih=>
   intro k h;obtain⟨t,e⟩:=h 0 x U;refine .cons ⟨t,e⟩ (ih _ λj v hv=>?_);obtain⟨t,e⟩:=h (j+1) v (by simpa using hv);exact⟨t,by rw[e,show k+_=k+1+j by lia]⟩
 have:=key acc.toList 0 λj v hv=>by
  obtain⟨t,e⟩:=hi j v (by simpa using hv);exact⟨t,by rw[e,qdb,qaR]⟩
 rw[qgA];rw[qc7,hz]at this;exact this
def vk (C:X.calm=true:=by rfl):bI X (.type "list") (λxs H Q=>∃ (p:Addr) (lo:Int) (n:Nat),xs=[.ref p]/\H p=some (.rng lo (lo+(n:Int)))/\n<=1000/\-1000000<=lo/\lo<=1000000/\∀ l,H l=none->Q (.ref l) (upd H l (.lst ((qam n).map λk:Nat=>V.int (lo+k))))):=by
 intro F s σ H xs us Q I N h;obtain⟨p,lo,n,rfl,A,hn,l1,l2,q⟩:=h;cases N with
 |cons r G=>
  cases G;cases r;obtain⟨t,u,v,e⟩:=I.hok p _ A;refine call_list_range (I.ok.hd C) e ?_ (n:=n) ?_ (by lia) λh' tk acc c kp e' J=>?_
  ·have fl:∀ z ,-2000000<=z->z<=2000000->qeF z=true:=λz h1 h2=>by
    unfold qeF;simp only[qba,decide_eq_true_eq];omega
   have M:qe1 lo (lo+(n)) 1=(n):=by rw[qgW];split<;>lia
   unfold qiu;rw[M];simp[fl lo (by lia) (by lia),fl (lo+(n)) (by lia) (by lia),fl 1 _ _,fl (n) _ (by lia)]
  ·rw[qgW];split<;>lia
  ·exact⟨.ref s.heap.objs.size,_,I.laid kp (qap _) (show cg X.prog X.w _ h' _ (.lst _) from ⟨by rw[qag,qat];exact iN hn,acc.toList,c,yp J,by simpa using e'⟩),U,q _ (I.hok.fresh (qap _))⟩
def wQ (a:Af):Lf
 |env,st=>(a env st).bind λr=>match r.1 with
 |[.d (.int j)]=>if 0<=j/\j<=1000 then some (bK 0 j.toNat,r.2) else none
 |_=>none
def px (a:Af):Lf
 |env,st=>(a env st).bind λr=>match r.1 with
 |[.d (.int i),.d (.int j)]=>if 0<=j - i/\j - i<=1000/\-1000000<=i/\i<=1000000 then some (bK i (j - i).toNat,r.2) else none
 |_=>none
def Rls.rng {H:Hp}{φ:List Addr} (lo:Int) (n:Nat):Rls K H φ (bK lo n) ((qam n).map λk:Nat=>V.int (lo+k)):=by
 have:bK lo n=((qam n).map λk:Nat=>lo+(k)).map D.int:=by rw[qaO];rfl
 rw[this,show ((qam n).map λk=>V.int _)=((qam n).map λk=>lo+_).map V.int by rw[qaO];rfl];exact Rls.of_ints _
variable {a b:Expr}{L:Af}{p1 p2 p3 p4:Pos}
def mE (m:Gl X "list") (E:X.mg "list" = none) (g:Gl X "range") (B:X.mg "range" = none) (T:IA K X [a] L) (C:X.calm=true:=by rfl) (R:ax a=true:=by rfl) :
  IL K X (.Call (.Name "list" p1) [.Call (.Name "range" p2) [a] [] p3] [] p4) (wQ L):=by
 refine⟨λenv st r f=>?_⟩;simp only[wQ,qab]at f;obtain⟨⟨ws,s1⟩,hw,f⟩:=f;dsimp only at f;split at f
 case h_2=>cases f
 rename_i j;split at f
 case isFalse=>cases f
 rename_i hj;cases f;refine (db (vk C) m E qaU (lP (db Ai g B qe4 (T.run _ _ _ hw) (by decide) (by decide) (aP R) (bq U)) qD (aP U)) (by decide) (by decide) (aP U) (bq U)).imp ?_
 rintro σ H Q ⟨φ,hE,Y,q⟩
 refine⟨φ,hE,Y,λvs H1 y f1 w O=>?_⟩;obtain⟨v,r,rfl,P,rfl⟩:=O;subst P;refine⟨j,U,λp A=>⟨p,0,j.toNat,U,?_,by lia,by lia,by lia,λl hl=>?_⟩⟩
 ·rw[upd_same,qch,Int.toNat_of_nonneg hj.1]
 ·exact q l _ _ y (f1.trans (Fw.new A)) (w.new A) hl (Rls.rng 0 j.toNat)
def mF (m:Gl X "list") (E:X.mg "list" = none) (g:Gl X "range") (B:X.mg "range" = none) (T:IA K X [a,b] L) (C:X.calm=true:=by rfl) (R:ax a=true:=by rfl) (S:ax b=true:=by rfl) :
  IL K X (.Call (.Name "list" p1) [.Call (.Name "range" p2) [a,b] [] p3] [] p4) (px L):=by
 refine⟨λenv st r f=>?_⟩;simp only[px,qab]at f;obtain⟨⟨ws,s1⟩,hw,f⟩:=f;dsimp only at f;split at f
 case h_2=>cases f
 rename_i i j;split at f
 case isFalse=>cases f
 cases f;refine (db (vk C) m E qaU (lP (db yr g B qe4 (T.run _ _ _ hw) (by decide) (by decide) (aP R) (bq (by rw[qbD,S];rfl))) qD (aP U)) (by decide) (by decide) (aP U) (bq U)).imp ?_
 rintro σ H Q ⟨φ,hE,Y,q⟩
 refine⟨φ,hE,Y,λvs H1 y f1 w O=>?_⟩;obtain⟨v,r,rfl,P,u,r',rfl,r2,rfl⟩:=O;subst P r2;refine⟨i,j,U,λp A=>⟨p,i,(j - i).toNat,U,?_,by lia,by lia,by lia,λl hl=>?_⟩⟩
 ·rw[upd_same,show i+_=j by lia]
 ·exact q l _ _ y (f1.trans (Fw.new A)) (w.new A) hl (Rls.rng i (j - i).toNat)
end
def B6 (_:Sto):List W->Option D
 |[.d (.tup ds)]=>(aU ds).map λns=>.bl (ns.any λn=>decide (n≠0))
 |_=>none
section
variable {K:qae}{X:Cx}
def wz:bI X (.builtin "any") (λxs H Q=>X.calm=true/\∃ (a:Addr) (ns:List Int),xs=[.ref a]/\H a=some (.tup (ns.map V.int))/\Q (.bl (ns.any λn=>decide (n≠0))) H):=by
 intro C s W H xs E Q I k h;obtain⟨m,a,bs,rfl,L,q⟩:=h;obtain⟨O,rfl,w⟩:=gC k;cases w;obtain⟨z,l,k,p⟩:=(I.hok a _ L);have pt:=p.tup;have f:=by have:=k.length;simpa using this.symm
 refine call_any_walk (qcR pt ?_);refine⟨s.heap.objs.size,_,_,_,_,_,λi=>decide ((bs[i]?).getD 0≠0),U,Walks.tuple (A:=X.A.in1) (I.ok.hd m) s.heap.objs.size a (qaF (let ⟨_,e,_⟩:=p;qaw e)) l.toArray,⟨⟨_,qav _ U,U,U⟩,pt.push _⟩,?_,λh' T G=>?_⟩
 ·intro i v s' Q' E' M y
  have c:=by simpa using M
  have hi:=(qas.mp c).1;obtain⟨b,hb⟩:∃ b,bs[i]?=some b:=⟨bs[i]'(by lia),by simp[show i<bs.length by lia]⟩
  have:(bs.map V.int)[i]?=some (.int b):=by rw[qay,hb];rfl
  obtain⟨u,B,F⟩:=k.get this;rw[c]at B;cases B;obtain⟨t,rfl⟩:=F;have g:Q' (decide _) s':=y;rw[hb]at g;refine qjc ?_;have e:(b != 0)=decide (b≠0):=by
   by_cases h:b=0
   ·subst h;rfl
   ·rw[decide_eq_true h];simpa using h
  rw[e];exact g
 ·refine⟨_,H,I.kept (λb o e=>G b o (λz=>absurd (qaw e) (by rw[qao.mp z];exact qa9 _)) (qai _ e)),?_,q⟩
  congr 1
  have:∀ n,n=bs.length->((qam n).any λi=>decide ((bs[i]?).getD 0≠0))=bs.any λn=>decide (n≠0):=by
   intro n hn;subst hn;apply qes.mpr;rw[qee,qee];constructor
   ·rintro⟨i,hi,h⟩
    have j:=qaQ.mp hi;refine⟨_,qbK j,?_⟩;rw[qal j]at h;exact h
   ·rintro⟨x,J,h⟩
    obtain⟨i,hi,rfl⟩:=List.getElem_of_mem J;refine⟨i,qaQ.mpr hi,?_⟩;rw[qal hi];exact h
  exact this _ (by simpa using f)
def o0 (m:X.calm=true:=by rfl) (P:X.K=K:=by rfl):fq K X (.builtin "any") B6:=by
 refine⟨λst ws d h=>?_⟩
 match ws,h with
 |[.d (.tup ds)],h=>
  obtain⟨ns,e,rfl⟩:=qad.mp h;cases bu e;refine bI.imp wz ?_
  rintro R H Q ⟨φ,S,⟨v,r,rfl,⟨a,E,rfl,D,N⟩,rfl⟩,q⟩
  cases N.ints;exact⟨m,a,ns,U,D,q _ H (aO.refl H) U⟩
end
section
variable {K:qae}{X:Cx}
end
structure Cal (P:qaN) (w:World) (K:qae) (mg:Str->Option Value) (base:Heap) (x:Str) (j:Nat) (m:Fn):Prop where
 ex:∃ ff fd ps,dG P w K mg base CX0 j ff fd ps (spI K m)/\mg x=some (.ref ff)/\qcz K (.ref ff)=true/\dh K fd ps []
section
variable {P:qaN}{w:World}{K:qae}{mg:Str->Option Value}{base:Heap}{x a:Str}{st:Stmt}{f:Addr}{fd:qb5}{N ps:List Str}{k j:Nat}{b:Sf}{m:Fn}
def uW (F:Fun K x a st f fd) (S:ck N ps (ao st))
  (hb:∀ (d:Value) (A:qa0) (outer:List Env) (s:qaj) (H:Hp) (E:XK),bo k (A.deeper (qel a (ao st) s.heap.objs.size f d))->(ft CX0 P w K mg base N a (ao st) f d A outer s H E).nox.N=N->(ft CX0 P w K mg base N a (ao st) f d A outer s H E).nox.env.scope.names=(ao st).names->N.Nodup->ISs K (ft CX0 P w K mg base N a (ao st) f d A outer s H E).nox (aW st) b) :
  dG P w K mg base CX0 (k+1) f fd ps (spI K (fQ N.length ps.length b)):=D7 F S λc A o s H E r=>hb c A o s H E r U U S.nd
def DY (F:Fun K x a st f fd) (S:ck N ps (ao st)) (hm:mg x=some (.ref f)) (i:dh K fd ps [])
  (hb:∀ (d:Value) (A:qa0) (outer:List Env) (s:qaj) (H:Hp) (E:XK),bo k (A.deeper (qel a (ao st) s.heap.objs.size f d))->(ft CX0 P w K mg base N a (ao st) f d A outer s H E).nox.N=N->(ft CX0 P w K mg base N a (ao st) f d A outer s H E).nox.env.scope.names=(ao st).names->N.Nodup->ISs K (ft CX0 P w K mg base N a (ao st) f d A outer s H E).nox (aW st) b) :
  Cal P w K mg base x (k+1) (bb N.length ps.length b):=⟨_,_,_,FD F S λc A o s H E r=>hb c A o s H E r U U S.nd,hm,F.kp,i⟩
def DZ (F:Fun K x a st f fd) (S:ck N ps (ao st)) (hm:mg x=some (.ref f)) (i:dh K fd ps [])
  (hb:∀ (d:Value) (A:qa0) (outer:List Env) (s:qaj) (H:Hp) (E:XK),bo k (A.deeper (qel a (ao st) s.heap.objs.size f d))->(ft CX0 P w K mg base N a (ao st) f d A outer s H E).nox.N=N->(ft CX0 P w K mg base N a (ao st) f d A outer s H E).nox.env.scope.names=(ao st).names->N.Nodup->ISs K (ft CX0 P w K mg base N a (ao st) f d A outer s H E).nox (aW st) b) :
  Cal P w K mg base x (k+1) (fQ N.length ps.length b):=⟨_,_,_,D7 F S λc A o s H E r=>hb c A o s H E r U U S.nd,hm,F.kp,i⟩
variable {X:Cx}{e:Expr}{es:List Expr}{pos p:Pos}{q:Af}
def jz (B:X.K=K) (C:Cal X.prog X.w X.K X.mg X.base x j m) (I:bo k X.A) (t:j<=k) (hg:Gl X x) (l:IA K X (e::es) q) (h:(x==("__debug__" : Str))=false) (n:ax e=true) (i:es.all ax=true) :
  IE K X (.Call (.Name x p) (e::es) [] pos) (ap m q):=by
 subst B;obtain⟨_,_,_,F,hm,G,hb⟩:=C.ex;exact Ab F t I hg hm G hb l h n i
def iz (B:X.K=K) (C:Cal X.prog X.w X.K X.mg X.base x j m) (I:bo k X.A) (t:j<=k) (hg:Gl X x) (l:IA K X (e::es) q) (h:(x==("__debug__" : Str))=false) (n:ax e=true) (i:es.all ax=true) :
  IE K X (.Call (.Name x p) (e::es) [] pos) (cW m q):=by
 subst B;obtain⟨_,_,_,F,hm,G,hb⟩:=C.ex;exact ym F t I hg hm G hb l h n i
def u6 {v:Value}{g:Sto->List W->Option D} (y:qcb x=some v) (z:fq K X v g) (hg:Gl X x) (hm:X.mg x=none) (l:IA K X (e::es) q)
  (hn:x≠"__name__") (h:(x==("__debug__" : Str))=false) (n:ax e=true) (i:es.all ax=true) (u:(match v with|.builtin _=>true|.type _=>true|_=>false)=true):IE K X (.Call (.Name x p) (e::es) [] pos) (iCB g q):=by
 cases v<;>first|exact oq z hg hm y l hn h n i|exact Ee z hg hm y l hn h n i|cases u
def vd {v:Value}{g:Sto->List W->Option (List D)} (y:qcb x=some v) (z:nZ K X v g) (hg:Gl X x) (hm:X.mg x=none) (l:IA K X (e::es) q)
  (hn:x≠"__name__") (h:(x==("__debug__" : Str))=false) (n:ax e=true) (i:es.all ax=true) (u:(match v with|.builtin _=>true|.type _=>true|_=>false)=true):IL K X (.Call (.Name x p) (e::es) [] pos) (iCL g q):=by
 cases v<;>first|exact Eg z hg hm y l hn h n i|exact Bx z hg hm y l hn h n i|cases u
end
def tgN:Expr->List Str
 |.Name x _=>[x]
 |.Tuple es _ _=>es.flatMap λe=>match e with
  |.Name x _=>[x]
  |.Tuple es _ _=>es.flatMap λe=>match e with
   |.Name x _=>[x]
   |_=>[]
  |_=>[]
 |_=>[]
def lcN (a:Expr) (js:List Nat) (N:List Str):List Str:=tgN a++js.map λj=>N.getD j ""
def qe {a:Scope}{ns:List (Str×qb4)}{N Nc:List Str}{k:Nat}{js:List Nat} (h:ub a ns N Nc k js=true):Nc.Nodup:=by
 unfold ub at h;simp only[qba,decide_eq_true_eq]at h;exact h.1.1.1.2
section
variable {K:qae}{X:Cx}{e:Expr}{pos:Pos}{a:Scope}{k:Nat}{js:List Nat}{i iter:Expr}{f:List Expr}{p:Lf}{g:Tg}{tt:Tf}{te:Ef}{ns:List (Str×qb4)}{N:List Str}
def pL (hns:X.env.scope.names=ns) (hN:X.N=N) (h:ub a ns N (lcN e js N) k js=true) (t:a.kind=.function) (y:X.calm=true) (o:X.env.scope.kind=.function) (m:∀ j∈rJ g,j<k) (hi:II K X e iter p)
  (hg:∀ b s H C d,(lcX X a b (lcN e js N) s H C d).N.Nodup->PG (lcX X a b (lcN e js N) s H C d) e (tG K g)) (z:∀ b s H C d,(lcX X a b (lcN e js N) s H C d).env.scope.names=zk a.names ns->(lcX X a b (lcN e js N) s H C d).N=lcN e js N->ITs K (lcX X a b (lcN e js N) s H C d) f tt)
  (B:∀ b s H C d,(lcX X a b (lcN e js N) s H C d).env.scope.names=zk a.names ns->(lcX X a b (lcN e js N) s H C d).N=lcN e js N->IE K (lcX X a b (lcN e js N) s H C d) i te) (w:∀ x,qbX iter X.env x=pure x) :
  IL K X (.ListComp i [⟨e,iter,f,0⟩] a pos) (iLc k js p g tt te):=
 yn (rX ns N _ k js hns hN t h) y m hi (λc s H C d=>hg c s H C d (qe h)) (λc s H C d=>z c s H C d (lT o hns) U) (λc s H C d=>B c s H C d (lT o hns) U) w
variable {r:Nat}{n:Str}{q l:Pos}
def gQ (hns:X.env.scope.names=ns) (hN:X.N=N) (h:ub a ns N (lcN e js N) k js=true) (v:X.N.Nodup) (u:X.N[r]?=some n) (A:Loc X.env.scope n) (t:a.kind=.function) (y:X.calm=true) (o:X.env.scope.kind=.function) (m:∀ j∈rJ g,j<k) (hi:II K X e iter p)
  (hg:∀ b s H C d,(lcX X a b (lcN e js N) s H C d).N.Nodup->PG (lcX X a b (lcN e js N) s H C d) e (tG K g)) (z:∀ b s H C d,(lcX X a b (lcN e js N) s H C d).env.scope.names=zk a.names ns->(lcX X a b (lcN e js N) s H C d).N=lcN e js N->ITs K (lcX X a b (lcN e js N) s H C d) f tt)
  (B:∀ b s H C d,(lcX X a b (lcN e js N) s H C d).env.scope.names=zk a.names ns->(lcX X a b (lcN e js N) s H C d).N=lcN e js N->IE K (lcX X a b (lcN e js N) s H C d) i te)
  (hsw:qcu (.ListComp i [⟨e,iter,f,0⟩] a pos) (some (.Name n q)) l.line X.env=pure true) (D:X.fn n=true\/X.env.scope.names.lookup n=some .local) (w:∀ x,qbX iter X.env x=pure x) :
  IS K X (.Assign [.Name n q] (.ListComp i [⟨e,iter,f,0⟩] a pos) l) (az (.nm r) (aq (iLc k js p g tt te)))/\
   IS K X (.Assign [.Name n q] (.ListComp i [⟨e,iter,f,0⟩] a pos) l) (az (.nm r) (cX (iLc k js p g tt te))):=
 Ej v u A (rX ns N _ k js hns hN t h) y m hi (λc s H C d=>hg c s H C d (qe h)) (λc s H C d=>z c s H C d (lT o hns) U) (λc s H C d=>B c s H C d (lT o hns) U) hsw D w
end
def vi {K:qae}{X:Cx}{o:BoolOp}{es:List Expr}{pos:Pos}{a:Tf} (h:ITW K X (.BoolOp o es pos) a):IT K X (.BoolOp o es pos) a:=Cr h
def ad {a b:Prop} (h:a) (g:a->b):a/\b:=⟨h,g h⟩
def lE {K:qae}{X:Cx}{pos:Pos}{d:Expr}{a:Scope}{k:Nat}{js:List Nat}{l iter:Expr}{i:List Expr}{v:Lf}{g:Tg}{tt:Tf}{te:Ef}{u:Nat}{m:Str}{t f:Pos}{ns:List (Str×qb4)}{N:List Str}
  (hns:X.env.scope.names=ns) (hN:X.N=N) (h:ub a ns N (lcN d js N) k js=true) (p:X.N.Nodup) (o:X.N[u]?=some m) (q:Loc X.env.scope m) (w:a.kind=.function) (z:X.calm=true) (n:∀ j∈rJ g,j<k) (hi:II K X d iter v)
  (hg:∀ b s H C e,(lcX X a b (lcN d js N) s H C e).N.Nodup->PG (lcX X a b (lcN d js N) s H C e) d (tG K g)) (A:∀ b s H C e,ITs K (lcX X a b (lcN d js N) s H C e) i tt) (B:∀ b s H C e,IE K (lcX X a b (lcN d js N) s H C e) l te)
  (hsw:qcu (.ListComp l [⟨d,iter,i,0⟩] a pos) (some (.Name m t)) f.line X.env=pure true) (r:X.fn m=true\/X.env.scope.names.lookup m=some .local) (y:∀ x,qbX iter X.env x=pure x) :
  ISL K X (.Assign [.Name m t] (.ListComp l [⟨d,iter,i,0⟩] a pos) f) u (iLc k js v g tt te):=
 Co p o q (rX ns N _ k js hns hN w h) z n hi (λc s H C e=>hg c s H C e (qe h)) A B hsw r y
def jA {K:qae}{X:Cx}{x:Str}{k j:Nat}{d Cl:Addr}{fd:qb5}{N ps:List Str}{g:List (Str×Ef)}{p pos:Pos}{e:Expr}{es:List Expr}{f:Af} (hm:X.mg x=some (.ref Cl)) (M:Mk X.K Cl d) (F:dG X.prog X.w X.K X.mg X.base CX0 j d fd ps (Be K N.length ps.length g)) (l:bo (k+1) X.A) (a:j<=k) (hg:Gl X x) (hb:dh X.K fd ps [])
  (o:Cls K Cl) (hA:∀ p∈g,cp K Cl p.1) (i:g.length=6) (b:(g.map (·.1)).Nodup)
  (h:IA K X (e::es) f) (c:(x==("__debug__" : Str))=false) (n:ax e=true) (m:es.all ax=true) :
  IE K X (.Call (.Name x p) (e::es) [] pos) (oo N.length ps.length g f):=Ac M F a l hg hm hb o hA i b h c n m
section
variable {c:Type} [DecidableEq c]
def gG (a:List (c×V)) (k:c):Option V:=(a.find? λd=>decide (d.1=k)).map (·.2)
def kC (a:List (c×V)) (k:c) (v:V):List (c×V):=
 if (a.any λd=>decide (d.1=k))=true then a.map (λd=>if d.1=k then (d.1,v) else d) else a++[(k,v)]
def nF {p:c×V}{r:List (c×V)}{k:c} (e:p.1=k):gG (p::r) k=some p.2:=by simp[gG,qdh,e]
def nE {p:c×V}{r:List (c×V)}{k:c} (e:¬ p.1=k):gG (p::r) k=gG r k:=by simp[gG,qdh,e]
def sS (k:c):∀ a:List (c×V),(a.any λd=>decide (d.1=k))=(gG a k).isSome
 |[]=>rfl
 |p::r=>by
  rw[qcf];by_cases e:p.1=k
  ·simp only[nF e,decide_eq_true e,qiv,Option.isSome_some]
  ·rw[nE e,decide_eq_false e];exact sS k r
def kR (a:List (c×V)) (k:c) (v:V):(kC a k v).length<=a.length+1:=by
 unfold kC;split
 ·rw[qag];lia
 ·rw[qaz,qan,qa8];lia
def kX.isSome_eq {o:Option V}{u:Option Value} (r:kX o u):o.isSome=u.isSome:=by
 cases o with
 |none=>cases u with
  |none=>rfl
  |some _=>exact (r).elim
 |some _=>cases u with
  |none=>exact (r).elim
  |some _=>rfl
def KV.val {a:List (c×V)}{f:List (c×Value)} (r:KV a f) (k:c):kX (gG a k) (qgU f k):=by
 induction r with
 |nil=>exact True.intro
 |@cons p q ps l h t i=>
  obtain⟨g,m⟩:=h;by_cases e:p.1=k
  ·have n:=g.symm.trans e
   have b:qgU (q::l) k=some q.2:=by simp[qgU,qdh,n]
   rw[nF e,b];exact m
  ·have n:¬ q.1=k:=λz=>e (g.trans z)
   have b:qgU (q::l) k=qgU l k:=by simp[qgU,qdh,n]
   rw[nE e,b];exact i
def KV.any {a:List (c×V)}{f:List (c×Value)} (r:KV a f) (k:c):(a.any λd=>decide (d.1=k))=f.any λd=>decide (d.1=k):=by
 induction r with
 |nil=>rfl
 |cons h t i=>rw[qcf,qcf,i,h.1]
def KV.repl {a:List (c×V)}{f:List (c×Value)} (r:KV a f) (k:c) {y:V}{u:Value} (j:aM y u) :
  KV (a.map λd=>if d.1=k then (d.1,y) else d) (f.map λd=>if d.1=k then (d.1,u) else d):=by
 induction r with
 |nil=>exact .nil
 |@cons p q ps l h t i=>
  rw[qar,qar];refine .cons ?_ i;obtain⟨g,m⟩:=h;by_cases e:p.1=k
  ·rw[iFP e,iFP (g.symm.trans e)];exact⟨g,j⟩
  ·rw[iFN e,iFN (λz=>e (g.trans z))];exact⟨g,m⟩
def KV.put {a:List (c×V)}{f:List (c×Value)} (r:KV a f) (k:c) {y:V}{u:Value} (j:aM y u):KV (kC a k y) (stored f k u):=by
 unfold kC stored;rw[r.any k];by_cases e:(f.any λd=>decide (d.1=k))=true
 ·rw[iFP e,iFP e];exact r.repl k j
 ·rw[iFN e,iFN e];exact qh1 r ⟨U,j⟩
def KV.length {a:List (c×V)}{f:List (c×Value)} (r:KV a f):a.length=f.length:=qeG r
end
def yq {P:qaN}{w:World}{k:Key}{u:Value} (r:aM (kV k) u):(bY P w).is k u=true:=by
 cases k with
 |inl i=>obtain⟨t,e⟩:=(r);subst e;exact sh P w i t
 |inr x=>obtain⟨t,e⟩:=(r);subst e;exact si P w x t
def ou {P:qaN}{w:World}:∀ {a:List Key}{b:List Value},aG (a.map kV) b->ItemsAre (bY P w) a b
 |[],_,r=>by cases r;exact .nil
 |k::a,_,r=>by
  cases r with
  |cons h t=>exact .cons (yq h) (ou t)
abbrev KT (H:Hp):List (List Key×V)->List (List Key×Addr×Value)->Prop:=qfU λp q=>p.1=q.1/\H q.2.1=some (.tup (p.1.map kV))/\aM p.2 q.2.2
def KT.val {H:Hp}{a:List (List Key×V)}{xs:List (List Key×Addr×Value)} (r:KT H a xs) (k:List Key):kX (gG a k) ((atKey xs k).map (·.2)):=by
 induction r with
 |nil=>exact True.intro
 |@cons p q ps c h t g=>
  obtain⟨d,_,f⟩:=h;by_cases e:p.1=k
  ·have b:atKey (q::c) k=some q.2:=by simp[atKey,qdh,(d.symm.trans e)]
   rw[nF e,b];exact f
  ·have i:¬ q.1=k:=λz=>e (d.trans z)
   have b:atKey (q::c) k=atKey c k:=by simp[atKey,qdh,i]
   rw[nE e,b];exact g
def KT.repl {H:Hp}{a:List (List Key×V)}{xs:List (List Key×Addr×Value)} (r:KT H a xs) (k:List Key) {y:V}{u:Value} (f:aM y u) :
  KT H (a.map λc=>if c.1=k then (c.1,y) else c) (xs.map (putAt k u)):=by
 induction r with
 |nil=>exact .nil
 |@cons p q ps j h t g=>
  rw[qar];refine .cons ?_ g;obtain⟨b,d,i⟩:=h;unfold putAt;by_cases e:p.1=k
  ·rw[iFP e,iFP (b.symm.trans e)];exact⟨b,d,f⟩
  ·rw[iFN e,iFN (λz=>e (b.trans z))];exact⟨b,d,i⟩
def KT.put {H:Hp}{a:List (List Key×V)}{xs:List (List Key×Addr×Value)} (r:KT H a xs) (k:List Key) {b:Addr}{y:V}{u:Value} (hb:H b=some (.tup (k.map kV))) (c:aM y u) :
  KT H (kC a k y) (storedH xs k b u):=by
 have e:(a.any λd=>decide (d.1=k))=(atKey xs k).isSome:=by
  rw[sS,(r.val k).isSome_eq,Option.isSome_map]
 unfold kC storedH;rw[e];by_cases q:(atKey xs k).isSome=true
 ·rw[iFP q,iFP q];exact r.repl k c
 ·rw[iFN q,iFN q];exact qh1 r ⟨U,hb,c⟩
def KT.keeps {H H':Hp}{a:List (List Key×V)}{xs:List (List Key×Addr×Value)} (r:KT H a xs) (d:∀ b c,H b=some (.tup c)->H' b=some (.tup c)):KT H' a xs:=
 qfU.mapP r λ_ _ z=>⟨z.1,d _ _ z.2.1,z.2.2⟩
section
variable {P:qaN}{w:World}{H:Hp}{h:Heap}{a:Addr}
def BN {u:HO} (ok:HOk P w H h) (e:Rd H a u):cg P w H h a u:=e.ok ok
def x6 {b:List (Key×V)} (ok:HOk P w H h) (e:Rd H a (.dK b)):b.length<=qaJ/\(a==qcr)=false/\∃ d,KV b d/\h.DictOf (bY P w) a d:=
 BN ok e
def D1 {b:List (Key×V)} (ok:HOk P w H h) (e:H a=some (.dK b)):b.length<=qaJ/\(a==qcr)=false/\∃ d,KV b d/\h.DictOf (bY P w) a d:=x6 ok (.inl e)
def ua {k:List Key} (ok:HOk P w H h) (e:H a=some (.tup (k.map kV))):(qgd (bY P w)).is h k a:=by
 obtain⟨_,f,r,o,i,j,⟨n,g⟩,_⟩:=(ok a _ e);exact⟨o,f.toArray,n,i,j,g,by simpa using ou r⟩
def x9 {b:List (List Key×V)} (ok:HOk P w H h) (e:Rd H a (.dT b)):b.length<=qaJ/\(a==qcr)=false/\
  ∃ xs,KT H b xs/\h.DictOfH (qgd (bY P w)) a xs:=by
 obtain⟨z,y,xs,r,o,es,v,i,j,g,B,C⟩:=(BN ok e);refine⟨z,y,xs,r,o,es,v,i,j,g,B,λx c=>?_,C⟩;have all:∀ {l:List _}{m:List _},KT H l m->∀ x∈m,(qgd (bY P w)).is h x.1 x.2.1:=by
  intro l m q
  induction q with
  |nil=>intro x c;exact nomatch c
  |@cons p q ps D s t A=>
   intro x c;rcases qaA.mp c with e|c
   ·subst e
    exact ua ok (by rw[<-s.1];exact s.2.1)
   ·exact A x c
 exact all r x c
def Bu {b:List (List Key×V)} (ok:HOk P w H h) (e:H a=some (.dT b)):b.length<=qaJ/\(a==qcr)=false/\
  ∃ xs,KT H b xs/\h.DictOfH (qgd (bY P w)) a xs:=x9 ok (.inl e)
end
def wq (H:Hp) (a:Addr) (y:V) (r:Option V):Prop:=
 (∃ c k,Rd H a (.dK c)/\y=kV k/\r=gG c k)\/∃ c k b,Rd H a (.dT c)/\y=.ref b/\H b=some (.tup (k.map kV))/\r=gG c k
def xI (H:Hp) (a:Addr) (y v:V) (H':Hp):Prop:=
 (∃ c k,H a=some (.dK c)/\y=kV k/\c.length<qaJ/\H'=upd H a (.dK (kC c k v)))\/
 ∃ c k b,H a=some (.dT c)/\y=.ref b/\H b=some (.tup (k.map kV))/\c.length<qaJ/\H'=upd H a (.dT (kC c k v))
def wq.t {H:Hp}{a b:Addr}{c:List (List Key×V)}{k:List Key} (e:H a=some (.dT c)) (d:H b=some (.tup (k.map kV))):wq H a (.ref b) (gG c k):=.inr ⟨c,k,b,.inl e,U,d,U⟩
def xI.t {H:Hp}{a b:Addr}{c:List (List Key×V)}{k:List Key}{v:V} (e:H a=some (.dT c)) (f:H b=some (.tup (k.map kV))) (d:c.length<qaJ) :
  xI H a (.ref b) v (upd H a (.dT (kC c k v))):=.inr ⟨c,k,b,e,U,f,d,U⟩
section
variable {X:Cx}{d:List (Addr×Obj)}{x:St}{H:Hp}{s:qaj}{a:Addr}{y v:V}{u r:Value}{o:Option V}{A:qa0}{E:Value->qaj->Prop}
def Inv.big (I:Inv X d x H s):qcr<s.heap.objs.size:=by
 exact qey (by decide) ((I.mod.glob.keeps I.bk).lt)
def wG {Q:Value->qaj->Prop} (L:A.units+1<cLine) (I:Inv X d x H s) (g:wq H a y (some v)) (F:aM y u) (h:∀ B s',Inv X d x H s'->aM v B->Q B s') :
  wpAny (model X.prog X.w) A (qeO (.ref a) u) Q E s:=by
 rcases g with⟨i,k,e,t,l⟩|⟨i,k,b,e,t,J,l⟩
 ·subst t
  obtain⟨z,hd,C,f,j⟩:=x6 I.hok e;obtain⟨B,hw,n⟩:=kX.some_of (by rw[l];exact f.val k);exact wpAny_getItem_of (yq F) j.mapOf hw (h B _ (I.tok _) n)
 ·subst t
  cases (F);obtain⟨z,hd,xs,f,j⟩:=x9 I.hok e;obtain⟨B,hw,n⟩:=kX.some_of (by rw[l];exact f.val k);obtain⟨p,hp,K⟩:=qad.mp hw;refine wpAny_getItem_heap (qhT L) (ua I.hok J) j hp ?_;rw[K];exact h B _ (I.tok _) n
def uP {h':Heap}{t':Nat}{ob:HO} (I:Inv X d x H s) (T:Mut (H a)) (D:qdc a s.heap h') (he:∃ q,h'.get? a=some q) (new:cg X.prog X.w (upd H a ob) h' a ob) :
  Inv X d x (upd H a ob) { s with heap:=h',toks:=t' }:=
 I.write T (.inl U) (λb q hb z=>(D.2 b hb).trans z) he new
def B8 {P:qaN}{w:World}{H':Hp}{h':Heap}{i:List (Key×V)}{C:List (Key×Value)} (z:i.length<=qaJ) (hd:(a==qcr)=false) (f:KV i C) (j:h'.DictOf (bY P w) a C) :
  cg P w H' h' a (.dK i):=⟨z,hd,C,f,j⟩
def wH {H':Hp}{Q:Unit->qaj->Prop} (L:A.units+1<cLine) (I:Inv X d x H s) (g:xI H a y v H') (F:aM y u) (O:aM v r) (h:∀ s',Inv X d x H' s'->Q () s') :
  wpAny (model X.prog X.w) A (qjo (.ref a) u r) Q E s:=by
 rcases g with⟨i,k,e,t,l,N⟩|⟨i,k,b,e,t,J,l,N⟩
 ·subst t N
  obtain⟨z,hd,C,f,j⟩:=D1 I.hok e;have hz:C.length<=qaJ:=by rw[<-f.length];exact z
  have M:(kC i k v).length<=qaJ:=by have:=kR i k v;lia
  refine wpAny_setItem_pairs (yq F) j λh' m D=>h _ ?_;exact uP I (by rw[e];exact True.intro) D (let ⟨q,_,_,G,_⟩:=m;⟨q,G⟩) (B8 M hd (f.put k O) m)
 ·subst t N
  cases (F);obtain⟨z,hd,xs,f,j⟩:=Bu I.hok e;have hz:xs.length<=qaJ:=by rw[<-qeG f];exact z
  have M:(kC i k v).length<=qaJ:=by have:=kR i k v;lia
  refine wpAny_setItem_heap (qhT L) (ua I.hok J) j λh' m D=>h _ ?_;obtain⟨q,es,S,G,h2,h3,W,_,Y⟩:=m;refine uP I (by rw[e];exact True.intro) D ⟨q,G⟩ ⟨M,hd,_,(f.put k J O).keeps λc ys R=>?_,q,es,S,G,h2,h3,W,Y⟩;rw[upd_ne (EC R e (λz=>nomatch z))]
  exact R
end
section
variable {X:Cx}{b:List (Addr×Obj)}{d:St}{H:Hp}{s:qaj}{a:Addr}{c:List (Key×V)}{k:Key}{u:Value}{A:qa0}{E:Value->qaj->Prop}
end
def BV (i:Expr):Prop:=∀ a iv,qge i false a iv=operate [a,iv] (qeO a iv)
def Bg {prog:qaN}{w:World}{A:qa0}{E:Value->qaj->Prop}{s:qaj}{env:Env}{b a:Expr}{pos:Pos}{T id:String}{Q:Value->qaj->Prop}
  (l:typeLookup (.type T) "__getitem__" = pure (some (.builtin id))) (m:BV a)
  (h:wpAny (model prog w) A (eval b env) (λo f=>wpAny (model prog w) A (eval a env) (λi c=>c.TypeIs o T/\wpAny (model prog w) A (qeO o i) Q E c) E f) E s) :
  wpAny (model prog w) A (eval (.Subscript b a pos) env) Q E s:=by
 refine qii (qcq h (λo f j=>qcq j (λi c d=>?_) λ_ _ x=>x) λ_ _ x=>x);obtain⟨k,d⟩:=d;refine qac ?_;refine qac (wpAny_specialOf k l ?_);have fin:wpAny (model prog w) A (qge a false o i) (λr e=>wpAny (model prog w) A (letTemporaryGo b o r >>= λ_=>pure r) Q E e) E c:=by
  rw[m o i];exact wpAny_operating (qcq d (λr e g=>qac (wpAny_letTemporaryGo (qaq g))) λ_ _ x=>x)
 first
  |exact qaq (qac fin)
  |exact qac _
  |exact qac fin
def rh {X:Cx}{c:List (Addr×Obj)}{h:St}{H:Hp}{s:qaj}{a:Addr}{y:V}{o:Option V} (I:Inv X c h H s) (g:wq H a y o):s.TypeIs (.ref a) "dict":=by
 rcases g with⟨d,k,e,_,_⟩|⟨d,k,b,e,_,_,_⟩
 ·obtain⟨_,_,i,_,f⟩:=x6 I.hok e
  exact f.typeIs
 ·obtain⟨_,_,xs,_,f⟩:=x9 I.hok e
  exact f.typeIs
def Ff (c ty:TE):TE:=λb H Q=>c b H λx H1=>ty b H1 λy H2=>∃ a v,x=.ref a/\wq H2 a y (some v)/\Q v H2
def E5 (c ty d:TE):TS:=λD b H=>d b H λv H1=>c b H1 λx H2=>ty b H2 λy H3=>∃ a H4,x=.ref a/\xI H3 a y v H4/\D.nx b H4
section
variable {X:Cx}{o i e c:Expr}{pos d A:Pos}{j ty z:TE}
def AF (k:X.A.units+1<cLine) (l:PE X o j) (hi:PE X i ty) (m:BV i):PE X (.Subscript o i pos) (Ff j ty):=by
 intro b s f H Q I h;refine Bg PySem.F.slot_dict_getitem.lookup m (thn (l b s f H _ I h) λu s1 ⟨x,H1,I1,w,p⟩=>thn (hi b s1 f H1 _ I1 p) λiv B ⟨y,H2,I2,t,a,v,ex,g,n⟩=>?_);subst ex;obtain rfl:u=Value.ref a:=w;exact⟨rh I2 g,wG k I2 g t λJ F I3 q=>⟨v,H2,I3,q,n⟩⟩
def AN (k:X.A.units+1<cLine) (l:PE X o j) (hi:PE X i ty) (G:PE X c z) (m:qcu c (some (.Subscript o i d)) pos.line X.env=pure false) :
  PS X (.Assign [.Subscript o i d] c pos) (E5 j ty z):=by
 intro b s f H D I h;refine wpAny_Assign_Subscript (thn (G b s f H _ I h) λr s1 ⟨v,H1,I1,C,p⟩=>thn (l b s1 f H1 _ I1 p) λu B ⟨x,H2,I2,w,n⟩=>thn (hi b B f H2 _ I2 n) λiv F ⟨y,H3,I3,t,a,H4,ex,g,E⟩=>?_) m;subst ex;obtain rfl:u=Value.ref a:=w;exact wH k I3 g t C λK I4=>⟨f,H4,I4,E⟩
end
def x8 {P:qaN}{w:World}{H:Hp} (h:Heap) (hb:qcr<h.objs.size):cg P w H (h.push { cls:=.type "dict",data:=.dict #[] }) h.objs.size (.dT []):=
 ⟨qcl _,beq_eq_false_iff_ne.mpr (qbL (qaF hb)),_,.nil,_,_,0,qav _ U,⟨U,U,U⟩,U,U,qcW⟩
def Dw:TE:=λ_ H Q=>∀ p,H p=none->Q (.ref p) (upd H p (.dT []))
section
variable {X:Cx}{pos:Pos}
def yQ:PE X (.Dict [] [] pos) Dw:=λa s b H Q I h=>
 wpAny_Dict_empty ⟨.ref s.heap.objs.size,_,I.laid (λ_ _ q=>qai _ q) (qap _) (x8 s.heap I.big),U,h _ (I.hok.fresh (qap _))⟩
end
section
variable {X:Cx}{b:List (Addr×Obj)}{c:St}{H:Hp}{s:qaj}{a:Addr}{y d:V}{u r:Value}{o:Option V}{A:qa0}{E:Value->qaj->Prop}
end
section
variable {X:Cx}{o e f:Expr}{a b:Pos}{c ty d:TE}
end
section
variable {X:Cx}{b:List (Addr×Obj)}{d:St}{H:Hp}{s:qaj}{a:Addr}{c:List (Key×V)}{A:qa0}{E:Value->qaj->Prop}
end
section
variable {X:Cx}{b:List (Addr×Obj)}{c:St}{H:Hp}{s:qaj}{a:Addr}{y:V}{u:Value}{A:qa0}{E:Value->qaj->Prop}
end
section
variable {prog:qaN}{w:World}{A:qa0}{E:Value->qaj->Prop}{s:qaj}{b:Type} [DecidableEq b] {c:KeyKind prog w b}{a:Addr}{d:List (b×Value)}
end
section
variable {X:Cx}{b:List (Addr×Obj)}{d:St}{H:Hp}{s:qaj}{a:Addr}{c:List (Key×V)}{k:Key}{u r:Value}{A:qa0}{E:Value->qaj->Prop}{z:V}
end
section
variable {K:qae}{X:Cx}{pos:Pos}{e a b o f:Expr}{h i d c g:Ef}
end
section
variable {K:qae}{X:Cx}
end
section
variable {b:Bool}{t:SetTable}{m d k:Nat}
end
section
variable {prog:qaN}{w:World}{A:qa0}{E:Value->qaj->Prop}{s:qaj}{a:Addr}{m d k:Nat}
end
section
variable {prog:qaN}{w:World}{A:qa0}{E:Value->qaj->Prop}{s:qaj}{a b:Addr}{m d c i:Nat}{f:Nat->Tok}
end
section
variable {prog:qaN}{w:World}{A:qa0}{E:Value->qaj->Prop}{s:qaj}{a b:Addr}{m d c i:Nat}{f:Nat->Tok}
end
section
variable {prog:qaN}{w:World}{A:qa0}{E:Value->qaj->Prop}{s:qaj}
end
section
variable {prog:qaN}{w:World}{A:qa0}{R:qjw->qaj->Prop}{I:Addr}{a b:List Addr}{G:Array qh5->Array qh5->Prop}{P:Nat->Value->Prop}{St:Nat->qaj->Prop}
end
section
variable {prog:qaN}{w:World}{A:qa0}{E:Value->qaj->Prop}{s:qaj}
end
section
variable {prog:qaN}{w:World}{A:qa0}{E:Value->qaj->Prop}{s:qaj}{a r o:Addr}{m b m2 d k c:Nat}{f:Nat->Tok}
end
section
variable {prog:qaN}{w:World}{A:qa0}{E:Value->qaj->Prop}{s:qaj}{a b r o:Addr}{m c m2 d k e:Nat}{f:Nat->Tok}
end
section
variable {prog:qaN}{w:World}{A:qa0}{E:Value->qaj->Prop}{s:qaj}{a b r o:Addr}{m c m2 d k e:Nat}{f:Nat->Tok}
end
section
variable {prog:qaN}{w:World}{A:qa0}{E:Value->qaj->Prop}{s:qaj}{a:Addr}{m d b:Nat}{f:Nat->Tok}
end
section
variable {K:qae}{X:Cx}{pos p:Pos}{e a b:Expr}{c:Ef}{d f:Xf}
end
def jk (h:Heap) (d:Addr) (es:Array qd0) (a:Nat):Prop:=∃ o,h.get? d=some o/\o.ExactDict/\o.data=.dict es a
def jk.at' {h h':Heap}{d:Addr}{es:Array qd0}{a:Nat} (x:jk h d es a) (e:∀ o,h.get? d=some o->h'.get? d=some o):jk h' d es a:=let ⟨o,ho,r⟩:=x;⟨o,e o ho,r⟩
def jk.type {s:qaj}{d:Addr}{es:Array qd0}{a:Nat} (x:jk s.heap d es a):s.TypeIs (.ref d) "dict":=let ⟨o,ho,hc,_⟩:=x;⟨o,ho,hc.1⟩
def jk.lt {h:Heap}{d:Addr}{es:Array qd0}{a:Nat} (x:jk h d es a):d<h.objs.size:=let ⟨o,ho,_⟩:=x;qaw ho
section
variable {prog:qaN}{w:World}{A:qa0}{E:Value->qaj->Prop}{s:qaj}{d n:Addr}{es:Array qd0}{i f:Nat}
def zf {Q:Value->qaj->Prop} (hd:(d==qcr)=false) (hm:jk s.heap d es f)
  (j:Q (.ref s.heap.objs.size) { s with heap:=s.heap.push { cls:=.type "dict_keyiterator",data:=.fields #[.ref d,.int 0 0,.int es.size 0,.int f 0] } }) :
  wpAny (model prog w) A (qjp (.ref d)) Q E s:=by
 have B:=hm.type;obtain⟨o,p,F,r⟩:=id hm;refine wpAny_pyIter_slot B qfT (qbV qfT B PySem.F.entry_dict_iter ?_ (PySem.F.args_dict_iter_1 _));refine qac ?_;refine qac (wpAny_notOrdered_dict B ?_);refine qaq ?_;show wpAny _ _ (qfo d >>= _) _ _ s;unfold qfo;rw[iFN (by rw[hd];exact qaL)];refine qac (qaq ?_);refine qac (qfI p r ?_);refine qac (qgc p r ?_);refine qac (qc1 (qaq ⟨_,U,"dict_keyiterator",_,⟨_,qav _ U,U⟩,qbT.lookup,?_⟩))
 simpa [qgf] using j
def zg {Q:Option Value->qaj->Prop} (c:s.heap.IsKeyIter n d i es.size f) (hm:jk s.heap d es f) (u:i<es.size)
  (j:∀ h',h'.IsKeyIter n d (i+1) es.size f->qdc n s.heap h'->Q (some es[i].key) { s with heap:=h' }) :
  wpAny (model prog w) A (qgG (.ref n)) Q E s:=by
 obtain⟨o,p,F,hd⟩:=id c;obtain⟨G,k,z,l⟩:=id hm
 refine qac (qet (qbO c.typeIs qbT
  (qbV qbT c.typeIs qeu ?_ (qeo _))))
 refine qac (qaq ?_);refine qac ?_;refine qac ?_
 first|refine qac (qcL c.typeIs (qaq ?_))|refine qac _
 refine qac (qjE p hd ?_);refine qac (qaq ?_);refine qac (qfI k l ?_);rw[iFN (by simp)];refine qac (qaq ?_);refine qac (qgc k l ?_);rw[iFN (by simp)];refine qaq ?_;simp only[show ¬ (_<0) from by lia,if_false,qbp,qbR u];refine qac ?_
 first|refine qac (qcL c.typeIs (qaq ?_))|refine qac _
 refine qac (qhk c.typeIs ?_);show wpAny _ _ (setField _ 1 _ >>= _) _ _ s;refine qac (qe3 p hd (by simp) ?_);have g:(s.heap.update n (Obj.mapFields (·.setIfInBounds 1 (qgf ((i)+1))))).IsKeyIter n d (i+1) es.size f:=
  ⟨_,qeq _ p (qgw (qdS hd _)),(qhr ..).trans F,by rw[qdS hd];simp[qgf]⟩
 refine qac (qct ?_);refine qac (qhk g.typeIs ?_);exact qaq (qaq ⟨_,U,qaq (j _ g (qdu ..))⟩)
def A0 {Q:Option Value->qaj->Prop} (t:A.handled=none) (c:s.heap.IsKeyIter n d es.size es.size f) (hm:jk s.heap d es f)
  (j:∀ h',qgR n s.heap h'->Q none { s with heap:=h' }):wpAny (model prog w) A (qgG (.ref n)) Q E s:=by
 obtain⟨o,p,F,hd⟩:=id c;obtain⟨G,k,z,l⟩:=id hm
 refine qac (qet (qbO c.typeIs qbT
  (qbV qbT c.typeIs qeu ?_ (qeo _))))
 refine qac (qaq ?_);refine qac ?_;refine qac ?_
 first|refine qac (qcL c.typeIs (qaq ?_))|refine qac _
 refine qac (qjE p hd ?_);refine qac (qaq ?_);refine qac (qfI k l ?_);rw[iFN (by simp)];refine qac (qaq ?_);refine qac (qgc k l ?_);rw[iFN (by simp)];refine qaq ?_;simp only[show ¬ (_<0) from by lia,if_false,qbp,qdm (qap _)];refine qac ?_
 first|refine qac (qcL c.typeIs (qaq ?_))|refine qac _
 show wpAny _ _ (setField _ 0 .none >>= _) _ _ s;refine qac (qe3 p hd (by simp) ?_);refine qac ?_;refine qac (m:=qjJ _ _) (wpAny_of_eq (a:=Value.none) (by first|rfl|(rfl)) ?_)
 refine qc1 ?_ (by size_fits);refine qac (wpAny_handled ?_);rw[t];refine qac (qaq (wpAny_throw ?_));refine qac (qix ⟨_,qav _ U,U⟩ qjI ?_);exact qaq (j _ (((qdu ..).extBut.push _).push _))
def xG (t:A.handled=none) (I d:Addr) (D:d≠I) (es:Array qd0) (f:Nat) :
  Walks prog w A I [I,d] [I] es.size (λi v=>∃ e,es[i]?=some e/\v=e.key) (λi h=>h.IsKeyIter I d i es.size f/\jk h d es f) where
 sub:=λb hb=>by simp at hb;simp[hb]
 frame:=λ_ _ _ st y=>⟨st.1.at λo e=>y I (by simp) o e,st.2.at' λo e=>y d (by simp) o e⟩
 item:=λi s Q E hi st j=>by
  refine zg st.1 st.2 hi λh' g x=>?_;exact j _ h' s.toks ⟨_,by simp[hi],U⟩ ⟨g,st.2.at' λo q=>x.extBut d o D q⟩ λb o hb q=>x.extBut b o (λh=>hb (by simp[h])) q
 done:=λs Q E st j=>A0 t st.1 st.2 λh' C=>j h' s.toks λb o hb e=>C b o (λh=>hb (by simp[h])) e
 self:=λ_ _ _ _ st j=>wpAny_pyIter_keyiter st.1 j
def Bf (prog:qaN) (w:World) (d:Addr) (es:Array qd0) (f:Nat) (lo:(d==qcr)=false):PySem.W.KdlSrc prog w "dict" d d es.size (λi v=>∃ e,es[i]?=some e/\v=e.key) (λh=>jk h d es f) where
 type:=λs S=>S.type
 there:=λh S=>⟨S.lt,S.lt⟩
 keep:=λh h' S y=>S.at' λo e=>y d (.inl U) o e
 notList:=by decide
 notTuple:=by decide
 hint:=λA E s Q S h=>PySem.W.kdl_hint_dict S.type h
 iter:=λA s t S=>⟨_,_,λE Q h=>zf lo S h,xG t s.heap.objs.size d (qaF S.lt) es f,
  ⟨⟨_,qav _ U,U,U⟩,S.at' λo e=>qai _ e⟩⟩
end
section
variable {prog:qaN}{w:World}{A:qa0}{E:Value->qaj->Prop}{s:qaj}{d:Addr}{es:Array qd0}{z:Nat}
def rg {Q:List Value->qaj->Prop} (lo:(d==qcr)=false) (S:jk s.heap d es z) (J:A.handled=none) (hn:es.size<=qaJ)
  (h:∀ h' j,(∀ b o,s.heap.get? b=some o->h'.get? b=some o)->s.heap.objs.size<h'.objs.size->Q (es.toList.map (·.key)) { s with heap:=h',toks:=j }) :
  wpAny (model prog w) A (collect (.ref d)) Q E s:=by
 have k:=S.lt;refine qac (wpAny_runValue (qjv entry_proto_collect' ?_));refine qac (qfr (qaq ⟨Code.quiet_builtin _ (by decide +kernel),qjv entry_list_iadd' ?_⟩))
 refine PySem.W.kdl_extend (R:=λr s'=>match r with
   | .ok (.ret v)=>wpAny _ A (match v with
     |.ref a=>do
      let o <-load a
      match o.data with
      |.seq xs _=>pure xs.toList
      |_=>unsupported "internal:collect"
     |_=>unsupported "internal:collect") Q E s'
   |.ok _=>False
   |.error e=>E e s') (Bf prog w d es z lo) J (S.at' λo e=>qai _ e) s.heap.objs.size (qcg k) (qcg k) _ 0 (qav _ U) (λh' j acc c C T W=>?_) hn
 refine qac (wpAny_load T ?_);show wpAny _ _ (pure acc.toList) Q E _;have e:acc.toList=es.toList.map (·.key):=by
  apply qbz;intro i;rw[qay,qgm,qgm];by_cases hi:i<acc.size
  ·obtain⟨e,P,D⟩:=W.2 i acc[i] (qbR hi)
   rw[P,qbR hi,D];rfl
  ·rw[qdm (by lia),qdm (by rw[<-W.1];lia)];rfl
 rw[e];refine qaq (h h' j (λb o q=>?_) (qaw T));exact C b o (qaF (qaw q)) (qai _ q)
def uC {Q:Value->qaj->Prop}{F:List Value} (lo:(d==qcr)=false) (S:jk s.heap d es z) (J:A.in1.handled=none) (B:es.toList.map (·.key)=F) (N:F.length<64) (X:A.in1.in1.units<cLine)
  (t:∀ v∈F,∃ l,TuI s.heap v l)
  (h:∀ (h':Heap) (j:Nat) (p:Addr) (z:Nat) (g:List Value),(∀ b o,s.heap.get? b=some o->h'.get? b=some o)->s.heap.objs.size<=p->h'.get? p=some (qfu "list" g.toArray z)->g.Perm F->g.Pairwise (λx y=>OI.kle (tuI s.heap x) (tuI s.heap y))->Q (.ref p) { s with heap:=h',toks:=j }) :
  wpAny (model prog w) A (call (.builtin "sorted") [.ref d]) Q E s:=by
 refine qfQ kind_sorted plain_sorted entry_sorted (args_sorted1 _) ?_;refine qac (qaq ?_);have H:es.size<=qaJ:=by
  have:=congrArg qgL B
  rw[qag,qc7]at this;rw[qdj];lia
 refine qac (rg lo S J H λG j C k=>?_);rw[B];refine qac (qfr ?_ (by rw[qdj];lia));have n:(G.push _).get? G.objs.size=some (qfu "list" F.toArray 0):=qav _ U
 refine qac (qct (qbV qjF ⟨_,n,U⟩ qju (oz (O:=OI) (rk:=λp=>tuI s.heap p.1) (S:=λp=>∃ l,TuI s.heap p.1 l) (s:={ s with heap:=G.push _,toks:=j }) n N (λh' K=>?_) (λv D=>t v D) λg a1 a2=>⟨_,U,?_⟩) (qjL _)))
 ·have f:=λb o q=>K b o (qaF (qaw (C b o q))) (qai _ (C b o q))
  obtain⟨Y,k1,k2⟩:=rW (s:={ s with heap:=h',toks:=j }) (λv D=>let ⟨l,tl⟩:=t v D;⟨l,tl.fit f⟩) X;refine⟨Y,k1,λx y ⟨l,M⟩ ⟨m,I⟩ Q E hq=>k2 x y ⟨l,M.fit f⟩ ⟨m,I.fit f⟩ Q E ?_⟩;have u:Q (br (tuI s.heap x.1) (tuI s.heap y.1)) { s with heap:=h',toks:=j }:=hq;show Q (br (tuI h' x.1) (tuI h' y.1)) { s with heap:=h',toks:=j };rw[(M.fit f).is,(I.fit f).is];rw[M.is,I.is]at u;exact u
 ·refine qaq ⟨_,U,?_⟩
  obtain⟨L,P⟩:=sortedHeap_at n;refine h _ j G.objs.size L g (λb o q=>?_) (qez k) P a1 (a2.imp λ{x y} q=>q);have V:=C b o q;have hb:=qaw V;rw[sortedHeap_old (qaF hb) (by rw[qif];exact qbe hb),qdt _ _ _ (qaF hb)];exact V
end
def mgt (st:Sto) (n:Nat):Option (List (List Int×D)):=match st[n]? with
 |some (.m a)=>some a
 |_=>none
def vM (a:List (List Int×D)) (k:List Int):Option D:=(a.find? λp=>decide (p.1=k)).map (·.2)
def za (a:List (List Int×D)) (k:List Int) (d:D):List (List Int×D):=if (a.any λp=>decide (p.1=k))=true then a.map λp=>if p.1=k then (p.1,d) else p else a++[(k,d)]
def Bw:Ef
 |_,st=>some (.h st.length,st++[.m []])
def wR (o k:Ef):Ef
 |env,st=>(o env st).bind λx=>(k env x.2).bind λy=>match x.1,y.1 with
 |.h n,.d (.tup ds)=>(mgt y.2 n).bind λa=>(aU ds).bind λl=>(vM a l).map λd=>(.d d,y.2)
 |_,_=>none
def uZ (o k v:Ef):Sf
 |env,st=>(v env st).bind λz=>(o env z.2).bind λx=>(k env x.2).bind λy=>match x.1,y.1,z.1 with
 |.h n,.d (.tup ds),.d d=>(mgt y.2 n).bind λa=>(aU ds).bind λl=>if a.length<1000 then some (.nx env (y.2.set n (.m (za a l d)))) else none
 |_,_,_=>none
def kl (a:Ef):Lf
 |env,st=>(a env st).bind λx=>match x.1 with
 |.h n=>(mgt x.2 n).bind λb=>if b.length<64 then some ((ar (b.map (·.1))).map aj,x.2) else none
 |_=>none
section
variable {K:qae}{X:Cx}{pos:Pos}{e a b o f:Expr}{fe fa fb fo ff:Ef}
def yD {st:Sto}{n:Nat}{j:List (List Int×D)} (h:mgt st n=some j):st[n]?=some (.m j):=by
 unfold mgt at h;split at h
 ·rename_i q;cases h;exact q
 ·cases h
def Sr.atm {H:Hp}{φ:List Addr}{st:Sto} (S:Sr K H φ st) {n:Nat}{p:Addr}{j:List (List Int×D)} (e1:φ[n]?=some p) (M:mgt st n=some j):∃ w,H p=some (.dT w)/\Rkv K H φ j w:=S.at_ n p _ e1 (yD M)
def Rkv.length {H:Hp}{φ:List Addr}:∀ {ds:List (List Int×D)}{w:List (List Key×V)},Rkv K H φ ds w->ds.length=w.length
 |[],_,h=>by cases h;rfl
 |(k,d)::ds,_,h=>by
  obtain⟨v,r,rfl,B,A⟩:=h;rw[qan,qan,Rkv.length A]
def jJ:∀ {a b:List Int},gF a=gF b->a=b
 |[],[],_=>rfl
 |[],_::_,h=>by cases h
 |_::_,[],h=>by cases h
 |x::a,y::b,h=>by
  injection h with B A;injection B with B;rw[B,jJ A]
def vm (l:List Int):(gF l).map kV=l.map V.int:=by
 unfold gF;rw[qaO];rfl
def Rkv.val {H:Hp}{φ:List Addr}{i:List Int}:∀ {ds:List (List Int×D)}{w:List (List Key×V)},Rkv K H φ ds w->(∀ d,vM ds i=some d->∃ v,gG w (gF i)=some v/\Rl K H φ d v)/\(vM ds i=none->gG w (gF i)=none)
 |[],_,h=>by cases h;exact⟨(λd e=>nomatch e),λ_=>rfl⟩
 |(k,d)::ds,_,h=>by
  obtain⟨v,r,rfl,B,A⟩:=h;by_cases e:k=i
  ·subst e
   have e1:vM ((k,d)::ds) k=some d:=by unfold vM;rw[qeh (by simp)];rfl
   have M:gG ((gF k,v)::r) (gF k)=some v:=by unfold gG;rw[qeh (by simp)];rfl
   rw[e1,M];exact⟨λd' q=>⟨v,U,by cases q;exact B⟩,λq=>nomatch q⟩
  ·have e1:vM ((k,d)::ds) i=vM ds i:=by unfold vM;rw[qei (by simpa using e)]
   have M:gG ((gF k,v)::r) (gF i)=gG r (gF i):=by unfold gG;rw[qei (by simpa using λz=>e (jJ z))]
   rw[e1,M];exact (Rkv.val A)
def Rkv.any {H:Hp}{φ:List Addr}{i:List Int}:∀ {ds:List (List Int×D)}{w:List (List Key×V)},Rkv K H φ ds w->(w.any λp=>decide (p.1=gF i))=ds.any λp=>decide (p.1=i)
 |[],_,h=>by cases h;rfl
 |(k,d)::ds,_,h=>by
  obtain⟨v,r,rfl,B,A⟩:=h;rw[qcf,Rkv.any A]
  congr 1
  exact decide_eq_decide.mpr ⟨λz=>jJ z,λz=>congrArg gF z⟩
def Rkv.repl {H:Hp}{φ:List Addr}{i:List Int}{x:D}{y:V} (N:Rl K H φ x y):∀ {ds:List (List Int×D)}{w:List (List Key×V)},Rkv K H φ ds w->Rkv K H φ (ds.map λp=>if p.1=i then (p.1,x) else p) (w.map λp=>if p.1=gF i then (p.1,y) else p)
 |[],_,h=>by cases h;exact U
 |(k,d)::ds,_,h=>by
  obtain⟨v,r,rfl,B,A⟩:=h;rw[qar,qar];by_cases e:k=i
  ·rw[iFP e,iFP (by rw[e])]
   exact⟨y,_,U,N,Rkv.repl N A⟩
  ·rw[iFN e,iFN (λz=>e (jJ z))]
   exact⟨v,_,U,B,Rkv.repl N A⟩
def Rkv.snoc {H:Hp}{φ:List Addr}:∀ {ds:List (List Int×D)}{w:List (List Key×V)}{k:List Int}{d:D}{v:V},Rkv K H φ ds w->Rl K H φ d v->Rkv K H φ (ds++[(k,d)]) (w++[(gF k,v)])
 |[],_,_,_,_,h,hd=>by cases h;exact⟨_,_,U,hd,U⟩
 |(k,d)::ds,_,_,_,_,h,hd=>by
  obtain⟨v,r,rfl,B,A⟩:=h;exact⟨v,_,U,B,Rkv.snoc A hd⟩
def Rkv.put {H:Hp}{φ:List Addr}{ds:List (List Int×D)}{w:List (List Key×V)}{k:List Int}{d:D}{v:V} (h:Rkv K H φ ds w) (hd:Rl K H φ d v):Rkv K H φ (za ds k d) (kC w (gF k) v):=by
 unfold za kC;rw[h.any];split
 ·exact h.repl hd
 ·exact h.snoc hd
def we {H:Hp}{φ:List Addr}{ds:List D}{l:List Int}{v:V} (hl:aU ds=some l) (r:Rl K H φ (.tup ds) v):∃ p,v=.ref p/\H p=some (.tup ((gF l).map kV)):=by
 obtain⟨p,w,rfl,B,A⟩:=r;cases bu hl;cases A.ints;rw[vm];exact⟨p,U,B⟩
def lu:IE K X (.Dict [] [] pos) Bw:=by
 refine⟨λenv st r g=>?_⟩;cases g;refine yQ.imp ?_
 rintro σ H Q ⟨φ,L,F,q⟩
 exact λp R=>q _ _ _ (Fw.moreO R) (F.moreC R ⟨_,upd_same,U⟩) ⟨p,by rw[<-F.len];simp,U⟩
def pF {k:Nat} (G:bo k X.A) (ha:IE K X a fa) (hb:IE K X b fb) (hs:BV b):IE K X (.Subscript a b pos) (wR fa fb):=by
 refine⟨λenv st r g=>?_⟩;simp only[wR,qab]at g;obtain⟨⟨x,s1⟩,N,⟨y,s2⟩,hy,g⟩:=g;dsimp only at g;split at g
 next n ds=>
  simp only[qab,qad]at g;obtain⟨j,hk,l,hl,d,hd,rfl⟩:=g;refine (AF (Bv G) (ha.run _ _ _ N) (hb.run _ _ _ hy) hs).imp ?_
  rintro σ H Q ⟨φ,L,F,q⟩
  refine⟨φ,L,F,λv H1 E O S1 w1=>⟨E,L.fw F O,S1,λu H2 φ2 f2 S2 w2=>?_⟩⟩;obtain⟨p,ep,rfl⟩:=w1.fw S1 f2;obtain⟨w,hv,T⟩:=S2.atm ep hk;obtain⟨v2,M,r2⟩:=T.val.1 d hd;obtain⟨b',rfl,Y⟩:=we hl w2;refine⟨p,v2,U,?_,q _ H2 φ2 (O.trans f2) S2 r2⟩;rw[<-M];exact wq.t hv Y
 ·cases g
def lC {k:Nat}{P:Pos} (G:bo k X.A) (ho:IE K X a fa) (hi:IE K X b fb) (hv:IE K X e fe) (hs:qcu e (some (.Subscript a b P)) pos.line X.env=pure false:=by rfl) :
  IS K X (.Assign [.Subscript a b P] e pos) (uZ fa fb fe):=by
 refine⟨λenv st r g=>?_⟩;simp only[uZ,qab]at g;obtain⟨⟨z,s1⟩,hz,⟨x,s2⟩,N,⟨y,s3⟩,hy,g⟩:=g;dsimp only at g;split at g
 next n ds d=>
  simp only[qab]at g;obtain⟨j,hk,l,hl,g⟩:=g;split at g
  ·rename_i J
   cases g;refine (AN (Bv G) (ho.run _ _ _ N) (hi.run _ _ _ hy) (hv.run _ _ _ hz) hs).imp ?_
   rintro D σ H ⟨φ,L,F,q⟩
   refine⟨φ,L,F,λv H1 E O S1 w1=>⟨E,L.fw F O,S1,λu H2 φ2 f2 S2 w2=>⟨φ2,(L.fw F O).fw S1 f2,S2,λt H3 φ3 f3 S3 w3=>?_⟩⟩⟩;obtain⟨p,ep,rfl⟩:=w2.fw S2 f3;obtain⟨w,R,T⟩:=S3.atm ep hk;obtain⟨b',rfl,Y⟩:=we hl w3;obtain⟨f4,S4⟩:=S3.putC (c:=.m _) ep λf=>⟨_,upd_same,(T.put (Rl.fw S2 f3 (Rl.fw S1 f2 w1))).fw S3 f⟩;refine⟨p,_,U,xI.t R Y (by rw[<-T.length];exact qaV J (by decide)),?_⟩;exact q _ _ φ3 (((O.trans f2).trans f3).trans f4) (((((L.fw F O).fw S1 f2).fw S2 f3)).fw S3 f4) S4
  ·cases g
 ·cases g
def vo {H:Hp}{φ:List Addr}:∀ {j:List (List Int×D)}{w:List (List Key×V)}{xs:List (List Key×Addr×Value)},Rkv K H φ j w->KT H w xs->
  Rls K H φ ((j.map (·.1)).map aj) (xs.map λx=>V.ref x.2.1)/\aG (xs.map λx=>V.ref x.2.1) (xs.map λx=>Value.ref x.2.1)
 |[],_,_,h,t=>by cases h;cases t;exact⟨U,.nil⟩
 |(k,d)::j,_,_,h,t=>by
  obtain⟨v,r,rfl,B,A⟩:=h;cases t with
  |cons q t=>
   rename_i x xs;obtain⟨i1,i2⟩:=vo A t;have e:H x.2.1=some (.tup (k.map V.int)):=by rw[<-vm];exact q.2.1
   exact⟨⟨_,_,U,⟨_,_,U,e,Rls.of_ints k⟩,i1⟩,.cons U i2⟩
def jD {k:Nat}{p:Pos} (G:bo k X.A) (hg:Gl X "sorted") (hm:X.mg "sorted" = none) (ha:IE K X a fa) (hc:X.calm=true:=by rfl) (hs:ax a=true:=by rfl) (hK:X.K=K:=by rfl):IL K X (.Call (.Name "sorted" p) [a] [] pos) (kl fa):=by
 subst hK;refine⟨λenv st r g=>?_⟩;simp only[kl,qab]at g;obtain⟨⟨x,s1⟩,N,g⟩:=g;dsimp only at g;split at g
 case h_2=>cases g
 rename_i n;simp only[qab]at g;obtain⟨j,hk,g⟩:=g;split at g
 ·rename_i hl
  cases g;have hA:=(bx (K:=X.K) (X:=X) ha cc hs).run env st ([.h n],s1) (by simp only[aa,ac,N,qaa,qah]);have hC:bI X (.builtin "sorted") (λxs H Q=>∃ φ q,Sr X.K H φ s1/\φ[n]?=some q/\xs=[.ref q]/\∀ l us,H l=none->Rls X.K H φ ((ar (j.map (·.1))).map aj) us->Q (.ref l) (upd H l (.lst us))):=by
   intro pins s σ H xs us Q I rv q;obtain⟨φ,ad,S,ead,rfl,q⟩:=q;obtain⟨u,rfl,ru⟩:=gC rv;cases ru;obtain⟨w,hv,T⟩:=S.atm ead hk;obtain⟨z',hd,xs,rel,o,es,ep,g1,g2,g3,g4,g5,g6⟩:=Bu I.hok hv;obtain⟨b1,b2⟩:=vo T rel;have J:xs.length<64:=by
    have e1:=rel.length;have M:=T.length;lia
   have hkeys:es.toList.map (·.key)=xs.map λx=>Value.ref x.2.1:=by rw[g4,qaO];rfl
   obtain⟨m1,m2⟩:=jT I b1 b2;have hun:X.A.in1.in1.units<cLine:=by
    have:=G.un
    show X.A.units+1+1<cLine;lia
   refine uC hd ⟨o,g1,g2,g3⟩ (I.ok.hd hc) hkeys (by rw[qag];exact J) hun (λv hv=>⟨_,(m2 v hv).1⟩) λh' tk p ep' C hkeep R he a1 a2=>?_;have hn:H p=none:=I.hok.fresh R;have ho:=λu hu=>m2 u (a1.mem_iff.mp hu);obtain⟨c1,c2⟩:=nk (K:=X.K) (H:=H) (φ:=φ) ho;have hpm:(C.map (tuI s.heap)).Perm (j.map (·.1)):=by
    have:=a1.map (tuI s.heap)
    rw[m1]at this;exact this
   have hsrt:(C.map (tuI s.heap)).Pairwise leL:=by
    rw[qdr];exact a2.imp λ{x y} q=>q
   have e:C.map (tuI s.heap)=ar (j.map (·.1)):=jV (hpm.trans (aE _).symm) hsrt (df _);have M:(C.map λu=>aj (tuI s.heap u))=(ar (j.map (·.1))).map aj:=by rw[<-e,qaO];rfl
   rw[M]at c1;have hlay:Inv X pins σ (upd H p (.lst (C.map toV))) { s with heap:=h',toks:=tk }:=by
    refine I.laid (t':=tk) (a:=p) (o:=.lst (C.map toV)) hkeep R ⟨?_,C,ep',c2,by simpa [qfu] using he⟩;rw[qag,a1.length_eq,qag];exact iN (by lia)
   exact⟨.ref p,_,hlay,U,q p _ hn c1⟩
  refine (m6 hC hg hm qa1 hA (by decide) (by decide) (aP hs) (bq (es:=[]) U)).imp ?_
  rintro σ H Q ⟨φ,L,F,q⟩
  refine⟨φ,L,F,λw H1 E O S1 w1=>?_⟩;obtain⟨v,r,rfl,⟨ad,ead,rfl⟩,rfl⟩:=w1;exact⟨E,ad,S1,ead,U,λl us hl' hr'=>q l _ H1 E O S1 hl' hr'⟩
 ·cases g
def tO (st:Sto):W->W->Option D
 |.d (.tup a),.d (.tup b)=>(aU a).bind λns=>(aU b).map λms=>.bl (br ns ms)
 |x,y=>dLt st x y
def r8:∀ (a b:List Int),HT.lexLt a b=br a b
 |[],[]=>rfl
 |[],_::_=>rfl
 |_::_,[]=>rfl
 |x::a,y::b=>by rw[HT.lexLt_cons,br,r8 a b]
def qt {k:Nat} (g:bo k X.A) (hK:X.K=K:=by rfl):OpD K X (qbN .Lt) tO:=by
 refine⟨λst x y d h=>?_⟩;by_cases ht:∃ a b,x=.d (.tup a)/\y=.d (.tup b)
 ·obtain⟨a,b,rfl,rfl⟩:=ht
  simp only[tO,qab,qad]at h;obtain⟨ns,B,ms,A,rfl⟩:=h;have hu:X.A.units<cLine:=by have:=g.un;lia
  refine (CP hu).imp ?_
  rintro vx vy H Q ⟨φ,S,⟨p,w,rfl,g1,g2⟩,⟨p2,vs2,rfl,g3,g4⟩,q⟩
  cases bu B;cases bu A;cases g2.ints;cases g4.ints;refine⟨p,p2,ns,ms,U,U,SqT.of g1,SqT.of g3,?_⟩;rw[r8];exact q _ H (aO.refl H) U
 ·have e:tO st x y=dLt st x y:=by
   unfold tO;split
   ·rename_i a b
    exact absurd ⟨a,b,U,U⟩ ht
   ·rfl
  rw[e]at h;exact so.run st x y d h
end
end L2
namespace L2
open PySem PySem.Spec PyProof.Rows PySem.SeqAt PySem.W
def qL:List D->Option (List Str)
 |[]=>some []
 |.str x::ds=>(qL ds).map λr=>x::r
 |_=>none
def kU:∀ {ds:List D}{a:List Str},qL ds=some a->ds=a.map D.str
 |[],_,h=>by cases h;rfl
 |.str x::ds,_,h=>by
  simp only[qL,qad]at h;obtain⟨r,e,rfl⟩:=h;rw[kU e];rfl
 |.non::_,_,h=>by cases h
 |.bl _::_,_,h=>by cases h
 |.int _::_,_,h=>by cases h
 |.tup _::_,_,h=>by cases h
 |.ty _::_,_,h=>by cases h
 |.dct::_,_,h=>by cases h
 |.scr _::_,_,h=>by cases h
 |.lst _::_,_,h=>by cases h
 |.ob _ _::_,_,h=>by cases h
def bpS:List Bool->List Str:=qf8 λb=>if b then "poly" else "bar"
def qI:List Bool->Bool
 |[]=>true
 |b::r=>(!b||r.all id)&&qI r
def zl:∀ (r:List Bool) (b:Bool),risingS (if b then "poly" else "bar") (bpS r)=true->(!b||r.all id)=true/\qI r=true
 |[],b,_=>by cases b<;>exact⟨U,U⟩
 |c::r,b,h=>by
  have h':(!_&&risingS _ _)=true:=h;rw[qba]at h';obtain⟨a,d⟩:=zl r c h'.2;refine⟨?_,by show (_&&qI r)=true;rw[a,d];rfl⟩;cases b with
  |false=>rfl
  |true=>
   cases c with
   |true=>exact a
   |false=>exact absurd (h'.1) (by decide +kernel)
def zm:∀ r:List Bool,sortedS (bpS r)=true->qI r=true
 |[],_=>rfl
 |b::r,h=>by
  obtain⟨c,a⟩:=zl r b h;show (_&&qI r)=true;rw[c,a];rfl
def sE:∀ {r q:List Bool},qI r=true->qI q=true->r.Perm q->r=q
 |[],q,_,_,h=>(qh2.mp h.symm).symm
 |b::r,[],_,_,h=>by cases qh2.mp h
 |b::r,c::q,d,a,h=>by
  rw[qI,qba]at d a;have e:b=c:=by
   cases b with
   |true=>
    cases c with
    |true=>rfl
    |false=>
     have:=h.symm.mem_iff.mp (qaf)
     rcases qaA.mp this with e|e
     ·cases e
     ·cases (qa2.mp (d.1) false e)
   |false=>
    cases c with
    |false=>rfl
    |true=>
     have:=h.mem_iff.mp (qaf)
     rcases qaA.mp this with e|e
     ·cases e
     ·cases (qa2.mp (a.1) false e)
  subst e;rw[sE d.2 a.2 (List.Perm.cons_inv h)]
def tE:List Str->Option (List Bool)
 |[]=>some []
 |x::r=>if x = "poly" then (tE r).map λb=>true::b else if x = "bar" then (tE r).map λb=>false::b else none
def ir:∀ {a:List Str}{r:List Bool},tE a=some r->a=bpS r
 |[],_,h=>by cases h;rfl
 |x::a,_,h=>by
  unfold tE at h;split at h
  ·rename_i e
   obtain⟨r,b,rfl⟩:=qad.mp h;rw[ir b,e];rfl
  ·split at h
   ·rename_i e
    obtain⟨r,b,rfl⟩:=qad.mp h;rw[ir b,e];rfl
   ·cases h
def rd:∀ {b:List Str},(∀ x∈b,x = "poly"\/x = "bar")->∃ r,tE b=some r
 |[],_=>⟨_,U⟩
 |x::b,h=>by
  obtain⟨r,e⟩:=rd λy c=>h y (qak _ c);unfold tE;rcases h x qaf with a|a
  ·rw[iFP a,e];exact⟨_,U⟩
  ·rw[iFN (by rw[a];decide),iFP a,e];exact⟨_,U⟩
def xT {r:List Bool}{a:List Str} (h:a.Perm (bpS r)):∃ q,a=bpS q/\q.Perm r:=by
 obtain⟨q,e⟩:=rd λx g=>by
  have:=h.mem_iff.mp g
  obtain⟨b,_,rfl⟩:=qaM.mp this;cases b
  ·exact .inr U
  ·exact .inl U
 have d:=ir e;subst d;refine⟨q,U,?_⟩
 have:=h.map λx:Str=>decide (x = "poly")
 have f:∀ r ,(bpS r).map (λx:Str=>decide (x = "poly"))=r:=λr=>by
  induction r with
  |nil=>rfl
  |cons b r c=>
   show decide _::(bpS r).map _=_;rw[c];cases b<;>rfl
 rw[f,f]at this;exact this
def qc (st:Sto):List W->Option (List D)
 |[w]=>(lsD st w).bind λds=>((qL ds).bind tE).bind λr=>if ds.length<64/\qI r=true then some ds else none
 |_=>none
section
variable {K:qae}{X:Cx}{H:Hp}{φ:List Addr}
def Rls.strs:∀ {ns:List Str}{x:List V},Rls K H φ (ns.map D.str) x->x=ns.map V.str
 |[],_,h=>h
 |n::ns,_,h=>by
  obtain⟨v,r,rfl,k,j⟩:=h;rw[k,Rls.strs j];rfl
def Rls.of_strs:∀ (ns:List Str),Rls K H φ (ns.map D.str) (ns.map V.str)
 |[]=>rfl
 |n::ns=>⟨_,_,U,U,Rls.of_strs ns⟩
def nA:∀ {ns:List Str}{c:List Value},aG (ns.map V.str) c->StrsAre c ns
 |[],c,r=>by cases r;exact .nil
 |n::ns,c,r=>by
  cases r with
  |cons m M=>
   obtain⟨t,rfl⟩:=m;exact .cons n t (nA M)
def jX:∀ {ns:List Str}{c:List Value},StrsAre c ns->aG (ns.map V.str) c
 |_,_,.nil=>.nil
 |_,_,.cons n t h=>.cons ⟨t,U⟩ (jX h)
def jq (hK:X.K=K:=by rfl):nZ K X (.builtin "sorted") qc:=by
 refine⟨λst ws d h=>?_⟩
 match ws,h with
 |[w],h=>
  simp only[qc,qab]at h;obtain⟨ds,B,r,⟨W,F,L⟩,h⟩:=h;split at h
  ·rename_i O
   cases h;intro y s σ H xs c Q I A q;obtain⟨φ,S,⟨v,Y,rfl,m,rfl⟩,q⟩:=q;obtain⟨a,x,rfl,k,j⟩:=qj S m B;obtain⟨u,rfl,E⟩:=gC A;cases E;obtain⟨g,e,T,hz⟩:=I.list (.inl k);have i:g.length<64:=by
    have:=e.length
    have:=j.length
    lia
   cases kU F;cases j.strs;refine sorted_strs T.isList (nA e) i λf P C a2 J=>?_;obtain rfl:=ir L;obtain⟨N,rfl,G⟩:=xT a2;obtain rfl:=sE (zm N J) O.2 G;have p:=jX C;have ho:f.toList.length<64:=by
    have:=p.length
    have:=e.length
    lia
   obtain⟨z,R⟩:=sortedAll_at s.heap g f;have l:=by
    refine I.laid (t':=s.toks) (o:=.lst _) (λb o q=>sortedAll_old q) (qcB _) ⟨?_,f.toList,z,p,by simpa  using R⟩;rw[p.length];exact iN (by lia)
   exact⟨.ref _,_,l,U,q _ _ H (aO.refl H) (I.hok.fresh (qcB _)) (Rls.of_strs _)⟩
  ·cases h
end
end L2
namespace L2
open PySem PySem.Spec PyProof.Rows PySem.W
def xZ (_:Sto):List W->Option D
 |[.d (.tup ds)]=>(aU ds).map λns=>.int ns.sum
 |_=>none
section
variable {K:qae}{X:Cx}
def wD:bI X (.builtin "sum") (λxs H Q=>X.calm=true/\∃ (a:Addr) (ns:List Int),xs=[.ref a]/\H a=some (.tup (ns.map V.int))/\Q (.int ns.sum) H):=by
 intro b s j H xs i Q I c h;obtain⟨g,a,ns,rfl,l,q⟩:=h;obtain⟨y,rfl,f⟩:=gC c;cases f;obtain⟨z,k,c,p⟩:=(I.hok a _ l);have pt:=p.tup;obtain⟨ps,m,o⟩:=nG c;rw[m]at pt;refine ktm_sumG (I.ok.hd g) pt λh' x t' n=>?_;refine⟨.int ns.sum,H,I.kept n,⟨t',?_⟩,q⟩;rw[preSum_eq,qcG (by simp),o]
def li (g:X.calm=true:=by rfl) (w:X.K=K:=by rfl):fq K X (.builtin "sum") xZ:=by
 refine⟨λst ws d h=>?_⟩
 match ws,h with
 |[.d (.tup ds)],h=>
  obtain⟨ns,e,rfl⟩:=qad.mp h;cases bu e;intro b s j H xs i Q I c q;obtain⟨φ,S,⟨v,r,rfl,⟨a,i,rfl,t,u⟩,rfl⟩,q⟩:=q;cases u.ints;exact wD b s j H _ _ Q I c ⟨g,a,ns,U,t,q _ H (aO.refl H) U⟩
end
end L2
@[reducible]def Z(x:L2.D):Option L2.W:=some (.d x)
namespace Own
open PySem L2
def fK:Sf:=(az (.nm 1) (iOp aX (iV 1) (iC (.int 2))))
def l7:Sf:=(ae (az (.nm 1) (iC (.int 1))) (ae (eD (bB (aa (iV 0) ac)) (.nm 2) fK) (aD (iV 1))))
def ek:Fn:=bb 3 1 l7
def zS:Sf:=(aD (iOp dI (iOp kK (iV 0) (ap ek (aa (iV 1) ac))) (iC (.int 2))))
def qk:Fn:=bb 2 2 zS
def eB:Tf:=(aB dNe (iV 3) (iC (.int 0)))
def eQ:Sf:=(ae (az (.nm 4) (iOp dI (iV 1) (iV 3))) (ae (az (.nm 1) (iV 3)) (az (.nm 3) (iV 4))))
def eK:Sf:=(ae (az (.nm 3) (iCB tJ (aa (iV 2) ac))) (tW (2^8000) eB eQ))
def kZ:Sf:=(ae (az (.nm 1) (iC (.int 0))) (ae (eD (aC (iV 0)) (.nm 2) eK) (aD (iV 1))))
def bm:Fn:=bb 5 1 kZ
def rq:Ef:=(iOp ph (iV 0) (iV 1))
def wv:Sf:=(ae (az (.nm 1) (ap bm (aa (iV 0) ac))) (ae (aT (aB dEq (iV 1) (iC (.int 0))) (aD (iCB cU (aa (iV 0) ac))) aH) (aD (iCB cU (aa (aq (iLc 1 [1] (aC (iV 0)) (.nm 0) aK rq)) ac)))))
def cZ:Fn:=bb 2 1 wv
def eY:Ef:=(iV 0)
def fm:Tf:=(aB jt (iV 1) (iC .non))
def kH:Sf:=(aD (iCB cU (aa (aq (iLc 2 [] (bQ (aa (iV 0) ac)) (.tp [0,1]) fm eY)) ac)))
def bS:Fn:=bb 1 1 kH
def j5:Sf:=(aD (eZ (aB dEq (iOp dIx (iV 0) (iV 1)) (iC (.int 1))) (iC (.int 1)) (iUn iR (iC (.int 1)))))
def fM:Fn:=bb 2 2 j5
def gN:Ef:=(iOp be (aq (iCL vq (aa (iV 0) ac))) (aq (bM (aa (iV 1) ac))))
def gO:Ef:=(iUn iR (iV 0))
def bT:List (Str×Ef):=[("amounts",(iCB aV (aa (iV 3) ac))),("lines",(aq (iLc 2 [] (fF (aa (iV 1) (aa (iV 2) ac))) (.tp [0,1]) aK gN))),("goal",(iOp be (aq (iLc 1 [] (aC (iV 3)) (.nm 0) aK gO)) (aq (bM (aa (iC (.int 0)) ac))))),("part",(iC (.int 1))),("free",(cX (wQ (aa (iCB aV (aa (iV 3) ac)) ac)))),("kept",(cX (px (aa (iCB aV (aa (iV 3) ac)) (aa (iOp be (iCB aV (aa (iV 3) ac)) (iCB aV (aa (iV 1) ac))) ac)))))]
def aQ:Sf:=(ae (aT (cL dc (iV 3)) (ae (az (.nm 5) (iOp aX (iOp dIx (iV 1) (iV 4)) (iOp dIx (iV 2) (iOp dIx (iV 3) (iC (.int 0)))))) (ae (az (.nm 6) (iOp aX (iOp dIx (iV 1) (iOp dIx (iV 3) (iC (.int 0)))) (iOp dIx (iV 2) (iV 4)))) (ae (aT (aB dGt (iV 5) (iV 6)) on aH) (aT (aB dLt (iV 5) (iV 6)) (az (.nm 3) (cX (bM ac))) aH)))) aH) (jy (mx gf (iV 3) (aa (iV 4) ac))))
def iS:Sf:=(ae (az (.nm 3) (cX (bM ac))) (ae (eD (aC (iV 0)) (.nm 4) aQ) (aD (iV 3))))
def fk:Fn:=fQ 7 3 iS
def wx:Sf:=(aD (iOp be (aq (bM (aa (iC .non) ac))) (aq (px (aa (au "amounts" (iV 0)) (aa (iOp be (au "amounts" (iV 0)) (iCB aV (aa (au "lines" (iV 0)) ac))) ac))))))
def dR:Fn:=bb 1 1 wx
def mf:Ef:=(eZ (aB dEq (iV 0) (iV 1)) (au "part" (iV 2)) (iC (.int 0)))
def mh:Ef:=(iOp dIx (iV 0) (iV 1))
def mj:Ef:=(iOp dIx (iV 0) (iUn iR (iC (.int 1))))
def fX:Sf:=(ae (aT (aB jb (iV 1) (iC .non)) (aD (aq (iLc 1 [] (aC (au "lines" (iV 0))) (.nm 0) aK mj))) aH) (ae (aT (aB dIn (iV 1) (au "free" (iV 0))) (ae (az (.nm 2) (yi (au "free" (iV 0)) (aa (iV 1) ac))) (aD (aq (iLc 1 [2] (aC (au "lines" (iV 0))) (.nm 0) aK mh)))) aH) (aD (aq (iLc 1 [1,0] (aC (au "kept" (iV 0))) (.nm 0) aK mf)))))
def cN:Fn:=bb 3 2 fX
def eL:Sf:=(ae (aT (aB dLt (iCB aV (aa (iV 3) ac)) (iC (.int 2))) tU aH) (az (.nm 3) (ap fk (aa (iV 3) (aa (ap cN (aa (iV 0) (aa (iV 4) ac))) (aa (iV 2) ac))))))
def rm:Ef:=(iV 0)
def sO:Tf:=(aB dGt (iV 1) (iC (.int 0)))
def rn:Ef:=(iOp dIx (iV 0) (iV 1))
def n5:Sf:=(ae (az (.nm 2) (aq (iLc 1 [1] (aC (au "lines" (iV 0))) (.nm 0) aK rn))) (ae (az (.nm 3) (aq (iLc 2 [] (bQ (aa (iV 2) ac)) (.tp [0,1]) sO rm))) (ae (eD (aC (ap dR (aa (iV 0) ac))) (.nm 4) eL) (aD (eZ (cL dc (iV 3)) (iOp dIx (iV 3) (iC (.int 0))) (iC .non))))))
def iF:Fn:=bb 5 2 n5
def bR:Sf:=(ae (az (.nm 6) (ap cN (aa (iV 0) (aa (iV 5) ac)))) (ae (az (.nm 7) (iOp kc (iOp aX (iV 4) (iOp dIx (iV 6) (iOp dIx (iV 2) (iC (.int 1))))) (iOp aX (iV 3) (iOp dIx (iV 6) (iOp dIx (iV 1) (iC (.int 1))))))) (aT (aB dNe (iV 7) (iC (.int 0))) (aD (iOp dGt (iV 7) (iC (.int 0)))) aH)))
def oS:Sf:=(ae (az (.nm 3) (iOp aX (iOp dIx (au "goal" (iV 0)) (iOp dIx (iV 1) (iC (.int 0)))) (iOp dIx (iOp dIx (au "lines" (iV 0)) (iOp dIx (iV 2) (iC (.int 1)))) (iOp dIx (iV 2) (iC (.int 0)))))) (ae (az (.nm 4) (iOp aX (iOp dIx (au "goal" (iV 0)) (iOp dIx (iV 2) (iC (.int 0)))) (iOp dIx (iOp dIx (au "lines" (iV 0)) (iOp dIx (iV 1) (iC (.int 1)))) (iOp dIx (iV 1) (iC (.int 0)))))) (ae (eD (aC (ap dR (aa (iV 0) ac))) (.nm 5) bR) (aD (iC (.bl false))))))
def bX:Fn:=bb 8 3 oS
def bL:Sf:=(ae (aT (aB dGe (iOp dIx (au "goal" (iV 0)) (iV 2)) (iC (.int 0))) on aH) (ae (az (.nm 3) (bh (aa (iV 2) (aa (ap iF (aa (iV 0) (aa (iV 2) ac))) ac)))) (ae (aT (aB jb (iOp dIx (iV 3) (iC (.int 1))) (iC .non)) (aD (iV 3)) aH) (aT (cS (aB jb (iV 1) (iC .non)) (cL dc (ap bX (aa (iV 0) (aa (iV 3) (aa (iV 1) ac)))))) (az (.nm 1) (iV 3)) aH))))
def qW:Sf:=(ae (az (.nm 1) (iC .non)) (ae (eD (bB (aa (iCB aV (aa (au "free" (iV 0)) ac)) ac)) (.nm 2) bL) (aD (iV 1))))
def bJ:Fn:=bb 4 1 qW
def kg:Ef:=(iOp ph (iOp kc (iOp aX (iV 2) (iV 0)) (iOp aX (iV 3) (iV 1))) (iV 4))
def uL:Sf:=(ae (az (.nm 4) (iOp dIx (iV 1) (iV 2))) (ae (az (.nm 5) (iOp dIx (iV 0) (iV 2))) (ae (az (.nm 6) (cX (iLc 2 [4,5,3] (fF (aa (iV 0) (aa (iV 1) ac))) (.tp [0,1]) aK kg))) (ae (bj (iV 6) (iV 2) (iUn iR (iV 5))) (aD (iV 6))))))
def jO:Fn:=fQ 7 4 uL
def dJ:Ef:=(ap jO (aa (iV 0) (aa (iV 1) (aa (iV 2) (aa (iV 3) ac)))))
def i8:Sf:=(ae (az (.nm 3) (iOp dIx (au "lines" (iV 0)) (iV 1))) (ae (az (.nm 4) (au "part" (iV 0))) (ae (i3 5 1 2 3 4 (iLc 1 [3,2,4] (aC (au "lines" (iV 0))) (.nm 0) aK dJ)) (ae (kM "goal" (iV 0) (ap jO (aa (au "goal" (iV 0)) (aa (iV 3) (aa (iV 2) (aa (iV 4) ac)))))) (ae (kM "lines" (iV 0) (iV 5)) (ae (kM "part" (iV 0) (iOp dIx (iV 3) (iV 2))) (ae (az (.nm 6) (iOp dIx (au "free" (iV 0)) (iV 2))) (ae (bj (au "free" (iV 0)) (iV 2) (iOp dIx (au "kept" (iV 0)) (iV 1))) (bj (au "kept" (iV 0)) (iV 1) (iV 6))))))))))
def eh:Fn:=fQ 7 3 i8
def mN:Sf:=(aT (aB dLt (iV 4) (au "amounts" (iV 0))) (bj (iV 2) (iV 4) (iUn iR (iOp dIx (iOp dIx (au "lines" (iV 0)) (iV 3)) (iV 1)))) aH)
def qZ:Sf:=(ae (az (.nm 2) (cX (rH mM (aq (bM (aa (iC (.int 0)) ac))) (au "amounts" (iV 0))))) (ae (eD (bQ (aa (au "kept" (iV 0)) ac)) (.tp [3,4]) mN) (ae (aT (aB dLt (iOp dIx (au "free" (iV 0)) (iV 1)) (au "amounts" (iV 0))) (bj (iV 2) (iOp dIx (au "free" (iV 0)) (iV 1)) (au "part" (iV 0))) aH) (aD (cW cZ (aa (iV 2) ac))))))
def jP:Fn:=fQ 5 2 qZ
def gT:Sf:=(aT (aB dLt (iV 3) (au "amounts" (iV 0))) (bj (iV 1) (iV 3) (iOp dIx (iOp dIx (au "lines" (iV 0)) (iV 2)) (iUn iR (iC (.int 1))))) aH)
def jm:Sf:=(ae (az (.nm 1) (cX (rH mM (aq (bM (aa (iC (.int 0)) ac))) (au "amounts" (iV 0))))) (ae (eD (bQ (aa (au "kept" (iV 0)) ac)) (.tp [2,3]) gT) (aD (iV 1))))
def gh:Fn:=fQ 4 1 jm
def i4:Sf:=(aT (aB dGe (iV 3) (au "amounts" (iV 0))) (bj (iV 1) (iOp kc (iV 3) (au "amounts" (iV 0))) (iOp dIx (au "goal" (iV 0)) (iV 2))) aH)
def kG:Sf:=(ae (az (.nm 1) (cX (rH mM (aq (bM (aa (iC (.int 0)) ac))) (iCB aV (aa (au "lines" (iV 0)) ac))))) (ae (eD (bQ (aa (au "free" (iV 0)) ac)) (.tp [2,3]) i4) (aD (iV 1))))
def g9:Fn:=fQ 4 1 kG
def dW:Ef:=(iOp ph (iV 0) (iV 1))
def dX:Ef:=(iOp ph (iV 0) (iV 1))
def jn:Sf:=(ae (az (.nm 1) (ap gh (aa (iV 0) ac))) (ae (az (.nm 2) (ap g9 (aa (iV 0) ac))) (ae (az (.nm 3) (ap bm (aa (iOp be (iOp be (aq (bM (aa (au "part" (iV 0)) ac))) (iV 1)) (iV 2)) ac))) (aD (bh (aa (iC (.str "most")) (aa (iOp ph (au "part" (iV 0)) (iV 3)) (aa (iCB cU (aa (aq (iLc 1 [3] (aC (iV 1)) (.nm 0) aK dX)) ac)) (aa (iCB cU (aa (aq (iLc 1 [3] (aC (iV 2)) (.nm 0) aK dW)) ac)) ac)))))))))
def gj:Fn:=bb 4 1 jn
def gy:Tf:=(aB jt (iV 4) (iC .non))
def eS:Sf:=(ae (aT (aB jb (iOp dIx (iV 4) (iC (.int 1))) (iC .non)) (aD (bh (aa (iC (.str "beyond")) (aa (cW jP (aa (iV 3) (aa (iOp dIx (iV 4) (iC (.int 0))) ac))) ac)))) aH) (ae (jy (ap eh (aa (iV 3) (aa (iOp dIx (iV 4) (iC (.int 1))) (aa (iOp dIx (iV 4) (iC (.int 0))) ac))))) (az (.nm 4) (cW bJ (aa (iV 3) ac)))))
def ww:Sf:=(ae (az (.nm 3) (oo 4 4 bT (aa (iV 0) (aa (iV 1) (aa (iV 2) ac))))) (ae (az (.nm 4) (cW bJ (aa (iV 3) ac))) (ae (tW (2^8000) gy eS) (aD (cW gj (aa (iV 3) ac))))))
def iG:Fn:=bb 5 3 ww
def dL:Ef:=(ap qk (aa (iV 1) (aa (iV 0) ac)))
def tB:Sf:=(ae (az (.nm 3) (iCB ma (aa (aq (iLc 1 [2] (aC (iV 1)) (.nm 0) aK dL)) ac))) (ae (aT (aB dEq (iV 0) (iC (.str "both"))) (aD (eZ (aB dEq (iV 3) (iCB aV (aa (iV 1) ac))) (iC (.int 1)) (iC (.int 0)))) aH) (aD (eZ (aB dEq (iOp dI (iV 3) (iC (.int 2))) (iC (.int 1))) (iUn iR (iC (.int 1))) (iC (.int 1))))))
def ji:Fn:=bb 4 3 tB
def iX:Ef:=(bh (aa (iV 0) (aa (wR (iV 1) (iV 0)) ac)))
def i6:Tf:=(aB dNe (wR (iV 1) (iV 0)) (iC (.int 0)))
def qY:Sf:=(aD (bh (aa (iV 0) (aa (iCB cU (aa (aq (iLc 1 [1] (aC (aq (kl (iV 1)))) (.nm 0) i6 iX)) ac)) ac))))
def gZ:Fn:=bb 2 2 qY
def ml:Ef:=(bh (aa (iV 0) (aa (iOp ph (iV 1) (iV 2)) ac)))
def xQ:Sf:=(aD (bh (aa (iOp dIx (iV 0) (iC (.int 0))) (aa (iCB cU (aa (aq (iLc 2 [1] (aC (iOp dIx (iV 0) (iC (.int 1)))) (.tp [0,1]) aK ml)) ac)) ac))))
def mU:Fn:=bb 2 2 xQ
def mm:Ef:=(iV 1)
def xR:Sf:=(aD (ap mU (aa (iV 0) (aa (ap bm (aa (aq (iLc 2 [] (aC (iOp dIx (iV 0) (iC (.int 1)))) (.tp [0,1]) aK mm)) ac)) ac))))
def mV:Fn:=bb 1 1 xR
def gH:Sf:=(aD (iOp aX (ap fM (aa (iV 0) (aa (iV 3) ac))) (ap ji (aa (iV 1) (aa (iV 2) (aa (iV 3) ac))))))
def cO:Fn:=bb 4 4 gH
def eG:Ef:=(ap cO (aa (iV 1) (aa (iV 2) (aa (iV 0) (aa (iV 3) ac)))))
def eI:Ef:=(aq (iLc 1 [2,3,0] (aC (iV 1)) (.nm 0) aK eG))
def k7:Sf:=(aD (aq (iLc 1 [2,0,1] (aC (ap bS (aa (iV 0) ac))) (.nm 0) aK eI)))
def dw:Fn:=bb 3 3 k7
def tP:Ef:=(eZ (aB dEq (iV 0) (iV 1)) (iC (.int 1)) (iC (.int 0)))
def xP:Sf:=(aD (aq (iLc 1 [0] (bB (aa (iV 1) ac)) (.nm 0) aK tP)))
def jN:Fn:=bb 2 2 xP
def iW:Ef:=(iUn iR (iV 0))
def qX:Sf:=(aD (iOp be (aq (iCL vq (aa (iV 0) ac))) (aq (iLc 1 [] (aC (iV 0)) (.nm 0) aK iW))))
def gY:Fn:=bb 1 1 qX
def eM:Sf:=(uZ (iV 3) (iV 5) (iOp kc (iOp dIx (iV 2) (iV 4)) (iOp dIx (iV 2) (iOp be (iCB aV (aa (iV 1) ac)) (iV 4)))))
def n6:Sf:=(ae (az (.nm 3) Bw) (ae (eD (bQ (aa (iV 1) ac)) (.tp [4,5]) eM) (aD (ap mV (aa (ap gZ (aa (iV 0) (aa (iV 3) ac))) ac)))))
def iH:Fn:=fQ 6 3 n6
def gU:Sf:=(bj (iV 2) (iV 3) (iV 4))
def jo:Sf:=(ae (az (.nm 2) (cX (rH mM (aq (bM (aa (iC (.int 0)) ac))) (iCB aV (aa (iV 0) ac))))) (ae (eD (fF (aa (ap bS (aa (iV 0) ac)) (aa (iV 1) ac))) (.tp [3,4]) gU) (aD (iCB cU (aa (iV 2) ac)))))
def dN:Fn:=fQ 5 2 jo
def fZ:Ef:=(iCB cU (aa (iV 0) ac))
def f7:Ef:=(iOp be (iOp aX (aq (bM (aa (iC (.int 0)) ac))) (iOp aX (iC (.int 2)) (iCB aV (aa (iV 1) ac)))) (ap jN (aa (iV 0) (aa (iV 2) ac))))
def qG:Sf:=(ae (az (.nm 6) (aq (iLc 1 [2,4] (bB (aa (iV 4) ac)) (.nm 0) aK f7))) (ae (az (.nm 7) (ap iG (aa (iCB cU (aa (aq (iLc 1 [] (aC (iOp be (iV 5) (iV 6))) (.nm 0) aK fZ)) ac)) (aa (iOp be (iOp aX (bh (aa (iC (.int 0)) ac)) (iV 4)) (iOp aX (bh (aa (iC (.int 1)) ac)) (iV 4))) (aa (iOp be (iOp aX (bh (aa (iC (.int 0)) ac)) (iOp aX (iC (.int 2)) (iCB aV (aa (iV 2) ac)))) (iOp aX (bh (aa (iC (.int 1)) ac)) (iV 4))) ac))))) (aD (bh (aa (ap iH (aa (iV 1) (aa (iV 2) (aa (iOp dIx (iV 7) (iC (.int 2))) ac)))) (aa (ap cZ (aa (ap dN (aa (iV 0) (aa (iSl (iOp dIx (iV 7) (iC (.int 3))) iPn (iPs (iV 4))) ac))) ac)) ac))))))
def pk:Ef:=(iUn iR (iV 0))
def jv:Ef:=(iOp be (ap gY (aa (aq (iLc 1 [] (aC (iV 1)) (.nm 0) aK pk)) ac)) (ap jN (aa (iV 0) (aa (iV 2) ac))))
def i9:Sf:=(ae (az (.nm 3) (ap dw (aa (iV 0) (aa (iV 1) (aa (iV 2) ac))))) (ae (az (.nm 4) (iCB aV (aa (iV 3) ac))) (ae (aT (aB dEq (iV 4) (iC (.int 0))) (aD (bh (aa (bh (aa (iV 1) (aa (bh ac) ac))) (aa (ap dN (aa (iV 0) (aa (bh ac) ac))) ac)))) aH) (ae (az (.nm 5) (aq (iLc 2 [4] (bQ (aa (iV 3) ac)) (.tp [0,1]) aK jv))) qG))))
def jh:Fn:=bb 8 3 i9
def xS:Sf:=(ae (az (.nm 3) (ap jh (aa (iV 0) (aa (iV 1) (aa (iV 2) ac))))) (ae (aT (cL dc (iCB B6 (aa (iOp dIx (iV 3) (iC (.int 1))) ac))) (aD (bh (aa (iC (.str "bar")) (aa (iOp dIx (iV 3) (iC (.int 1))) ac)))) aH) (aD (bh (aa (iC (.str "poly")) (aa (iOp dIx (iV 3) (iC (.int 0))) ac))))))
def hJ:Fn:=bb 4 3 xS
def i7:Sf:=(ae (az (.nm 2) (eZ (aB dLt (iV 1) (iCB aV (aa (iV 0) ac))) (iOp dIx (iV 0) (iV 1)) (iC (.int 0)))) (ae (az (.nm 3) (iOp aX (iCB tJ (aa (iV 2) ac)) (iCB tM (aa (iOp dGe (iCB tJ (aa (iV 2) ac)) (iOp z5 (iC (.int 10)) (iC (.int 18)))) ac)))) (aD (cX (bM (aa (iV 3) (aa (iOp dI (iOp aX (iOp be (iOp be (iOp dI (iV 2) (iC (.int 2147483629))) (iOp aX (iOp aX (iC (.int 5303)) (iV 1)) (iV 1))) (iC (.int 17))) (iC (.int 48271))) (iC (.int 2147483647))) (aa (iC (.int 0)) ac))))))))
def cY:Fn:=bb 4 2 i7
def eE:Sf:=(ae (bj (iV 0) (iC (.int 2)) (iOp be (iOp dIx (iV 0) (iC (.int 2))) (iC (.int 1)))) (ae (aT (cC (aB dGt (iOp dIx (iV 0) (iC (.int 0))) (iC (.int 0))) (aB dLe (iOp dIx (iV 0) (iC (.int 2))) (iC (.int 400)))) (ae (az (.nm 2) (iOp dI (iOp dIx (iV 0) (iC (.int 0))) (iV 1))) (ae (bj (iV 0) (iC (.int 0)) (iOp kK (iOp dIx (iV 0) (iC (.int 0))) (iV 1))) (aD (iV 2)))) aH) (ae (bj (iV 0) (iC (.int 1)) (iOp dI (iOp be (iOp be (iOp aX (iOp dIx (iV 0) (iC (.int 1))) (iC (.int 48271))) (iC (.int 12345))) (iOp dIx (iV 0) (iC (.int 2)))) (iC (.int 2147483647)))) (aD (iOp dI (iOp kK (iOp dI (iOp aX (iOp dIx (iV 0) (iC (.int 1))) (iOp be (iOp dI (iOp dIx (iV 0) (iC (.int 1))) (iC (.int 39373))) (iC (.int 7)))) (iC (.int 2147483629))) (iC (.int 64))) (iV 1))))))
def aF:Fn:=bb 3 2 eE
def gK:Ef:=(iOp tL (iOp xY (iV 1) (iV 0)) (iC (.int 1)))
def n4:Sf:=(aD (iCB ma (aa (aq (iLc 1 [0] (bB (aa (iC (.int 6)) ac)) (.nm 0) aK gK)) ac)))
def fL:Fn:=bb 1 1 n4
def cH:Ef:=(iOp dIx (iV 1) (ap aF (aa (iV 2) (aa (iCB aV (aa (iV 1) ac)) ac))))
def cI:Ef:=(iOp dI (ap fL (aa (iOp tL (iV 0) (iV 1)) ac)) (iC (.int 2)))
def bO:Ef:=(iOp dIx (iV 1) (ap fL (aa (iV 0) ac)))
def cJ:Ef:=(ap aF (aa (iV 1) (aa (iC (.int 2)) ac)))
def cm:Sf:=(ae (az (.nm 2) (ap aF (aa (iV 0) (aa (iC (.int 6)) ac)))) (ae (aT (aB dEq (iV 2) (iC (.int 3))) (ae (az (.nm 3) (aq (iLc 1 [0] (bB (aa (iOp be (iV 1) (iC (.int 1))) ac)) (.nm 0) aK cJ))) (aD (iCB cU (aa (aq (iLc 1 [3] (bB (aa (iOp wF (iC (.int 1)) (iV 1)) ac)) (.nm 0) aK bO)) ac)))) aH) (ae (aT (aB dEq (iV 2) (iC (.int 4))) (ae (az (.nm 4) (ap aF (aa (iV 0) (aa (iOp wF (iC (.int 1)) (iV 1)) ac)))) (aD (iCB cU (aa (aq (iLc 1 [4] (bB (aa (iOp wF (iC (.int 1)) (iV 1)) ac)) (.nm 0) aK cI)) ac)))) aH) (ae (az (.nm 5) (iOp dIx (aq (bM (aa (aq (bM (aa (iC (.int 0)) (aa (iC (.int 1)) ac)))) (aa (aq (bM (aa (iC (.int 0)) (aa (iC (.int 1)) ac)))) (aa (aq (bM (aa (iC (.int 0)) (aa (iC (.int 1)) (aa (iC (.int 0)) (aa (iC (.int 1)) (aa (iC .non) ac))))))) (aa (aq (bM ac)) (aa (aq (bM ac)) (aa (aq (bM (aa (iC .non) (aa (iC .non) (aa (iC (.int 0)) (aa (iC (.int 1)) ac)))))) ac)))))))) (iV 2))) (aD (iCB cU (aa (aq (iLc 1 [5,0] (bB (aa (iOp wF (iC (.int 1)) (iV 1)) ac)) (.nm 0) aK cH)) ac)))))))
def bD:Fn:=bb 6 2 cm
def cu:Ef:=(iOp be (iV 0) (bh (aa (iV 1) ac)))
def cx:Sf:=(az (.nm 1) (iOp be (iV 1) (aq (iLc 1 [2] (aC (iV 1)) (.nm 0) aK cu))))
def j0:Sf:=(ae (az (.nm 1) (aq (bM (aa (bh ac) ac)))) (ae (eD (bB (aa (iV 0) ac)) (.nm 2) cx) (aD (aq (iCL pZ (aa (iV 1) ac))))))
def bV:Fn:=bb 3 1 j0
def nj:Sf:=(ae (aT (aB dEq (iV 2) (iC (.int 2))) (aD (bh ac)) aH) (ae (aT (aB dEq (iV 2) (iC (.int 3))) (ae (az (.nm 5) (ap aF (aa (iV 0) (aa (iCB aV (aa (iV 3) ac)) ac)))) (aD (iCB cU (aa (iOp be (iSl (iV 3) iPn (iPs (iV 5))) (iSl (iV 3) (iPs (iOp be (iV 5) (iC (.int 1)))) iPn)) ac)))) aH) (aD (iCB cU (aa (iV 3) ac)))))
def gL:Ef:=(iV 0)
def ik:Tf:=(aB dEq (ap aF (aa (iV 1) (aa (iC (.int 2)) ac))) (iC (.int 1)))
def gM:Ef:=(iV 0)
def im:Tf:=(aB dLe (iCB aV (aa (iV 0) ac)) (iV 1))
def jl:Sf:=(ae (az (.nm 2) (ap aF (aa (iV 0) (aa (iC (.int 5)) ac)))) (ae (az (.nm 3) (ap bV (aa (iV 1) ac))) (ae (aT (aB dEq (iV 2) (iC (.int 0))) (ae (az (.nm 4) (ap aF (aa (iV 0) (aa (iOp be (iV 1) (iC (.int 1))) ac)))) (aD (iCB cU (aa (aq (iLc 1 [4] (aC (iV 3)) (.nm 0) im gM)) ac)))) aH) (ae (aT (aB dEq (iV 2) (iC (.int 1))) (aD (iCB cU (aa (aq (iLc 1 [0] (aC (iV 3)) (.nm 0) ik gL)) ac))) aH) nj))))
def gg:Fn:=bb 6 2 jl
def dU:Ef:=(iOp tL (iOp xY (iV 1) (iV 0)) (iC (.int 1)))
def fW:Sf:=(ae (az (.nm 3) (iCB ma (aa (aq (iLc 1 [2] (aC (iV 1)) (.nm 0) aK dU)) ac))) (aD (eZ (aB dEq (iV 0) (iC (.str "both"))) (iCB tM (aa (iOp dEq (iV 3) (iCB aV (aa (iV 1) ac))) ac)) (iOp kc (iC (.int 1)) (iOp aX (iC (.int 2)) (iOp dI (iV 3) (iC (.int 2))))))))
def bW:Fn:=bb 4 3 fW
def jK:Sf:=(aT (aB jt (iV 6) (iC .non)) (az (.nm 4) (iOp be (iV 4) (iOp aX (iOp aX (iOp dIx (iV 3) (iV 5)) (iOp kc (iOp aX (iC (.int 2)) (iV 6)) (iC (.int 1)))) (ap bW (aa (iV 1) (aa (iV 2) (aa (iV 5) ac))))))) aH)
def tm:Sf:=(ae (az (.nm 4) (iC (.int 0))) (ae (eD (bQ (aa (iV 0) ac)) (.tp [5,6]) jK) (aD (iV 4))))
def jf:Fn:=bb 7 4 tm
def oR:Sf:=(aD (om (iCB k8 (aa (iV 0) (aa (iC (.ty "int")) ac))) (yj (iCB k8 (aa (iV 0) (aa (iC (.ty "bool")) ac))))))
def cM:Fn:=bb 1 1 oR
def cV:Ef:=(ap cM (aa (iV 0) ac))
def fI:Sf:=(ae (aT (cS (dC (cL dc (iCB k8 (aa (iV 4) (aa (iC (.ty "tuple")) ac))))) (cS (aB dNe (iCB aV (aa (iV 4) ac)) (iC (.int 2))) (dC (cL dc (iCB k8 (aa (iOp dIx (iV 4) (iC (.int 0))) (aa (iC (.ty "tuple")) ac))))))) (aD (iC (.bl false))) aH) (ae (aT (cS (dC (cL dc (iCB zY (aa (aq (iLc 1 [] (aC (iOp dIx (iV 4) (iC (.int 0)))) (.nm 0) aK cV)) ac)))) (cS (aB lj (iOp dIx (iV 4) (iC (.int 0))) (iV 2)) (dC (cL dc (ap cM (aa (iOp dIx (iV 4) (iC (.int 1))) ac)))))) (aD (iC (.bl false))) aH) (ae (aT (cS (aB dEq (iOp dIx (iV 4) (iC (.int 1))) (iC (.int 0))) (cC (aB jt (iV 3) (iC .non)) (dC (aB tO (iV 3) (iOp dIx (iV 4) (iC (.int 0))))))) (aD (iC (.bl false))) aH) (az (.nm 3) (iOp dIx (iV 4) (iC (.int 0)))))))
def l5:Sf:=(ae (aT (cS (dC (cL dc (iCB k8 (aa (iV 0) (aa (iC (.ty "tuple")) ac))))) (cS (aB dNe (iCB aV (aa (iV 0) ac)) (iC (.int 2))) (cS (dC (cL dc (iCB k8 (aa (iOp dIx (iV 0) (iC (.int 0))) (aa (iC (.ty "str")) ac))))) (aB dNe (iOp dIx (iV 0) (iC (.int 0))) (iV 1))))) (aD (iC (.bl false))) aH) (ae (aT (dC (cL dc (iCB k8 (aa (iOp dIx (iV 0) (iC (.int 1))) (aa (iC (.ty "tuple")) ac))))) (aD (iC (.bl false))) aH) (ae (az (.nm 3) (iC .non)) (ae (eD (aC (iOp dIx (iV 0) (iC (.int 1)))) (.nm 4) fI) (aD (iC (.bl true)))))))
def d9:Fn:=bb 5 3 l5
def dn:Ef:=(iOp dEq (ap jf (aa (iV 1) (aa (iV 2) (aa (iV 0) (aa (iV 3) ac))))) (iC (.int 0)))
def du:Sf:=(aT (cS (dC (cL dc (ap cM (aa (iV 4) ac)))) (cS (aB dLt (iV 4) (iC (.int 0))) (cC (aB jb (iV 5) (iC .non)) (aB dGt (iV 4) (iC (.int 0)))))) (aD (iC (.bl false))) aH)
def nM:Sf:=(ae (aT (cS (dC (cL dc (iCB k8 (aa (iV 0) (aa (iC (.ty "tuple")) ac))))) (aB dNe (iCB aV (aa (iV 0) ac)) (iCB aV (aa (iV 1) ac)))) (aD (iC (.bl false))) aH) (ae (eD (fF (aa (iV 0) (aa (iV 1) ac))) (.tp [4,5]) du) (aD (om (iOp dGt (iCB xZ (aa (iV 0) ac)) (iC (.int 0))) (iCB zY (aa (aq (iLc 1 [1,2,0] (aC (iV 3)) (.nm 0) aK dn)) ac))))))
def fj:Fn:=bb 6 4 nM
def fu:Ef:=(iOp aX (iV 1) (ap bW (aa (iOp dIx (iV 2) (iC (.int 0))) (aa (iV 0) (aa (iV 3) ac)))))
def fJ:Sf:=(aT (aB jt (iV 3) (iC .non)) (ae (az (.nm 4) (iCB ma (aa (aq (iLc 2 [0,2] (aC (iOp dIx (iV 0) (iC (.int 1)))) (.tp [0,1]) aK fu)) ac))) (aT (aB dLe (iOp aX (iV 4) (iOp kc (iOp aX (iC (.int 2)) (iV 3)) (iC (.int 1)))) (iC (.int 0))) (aD (iC (.bl false))) aH)) aH)
def l6:Sf:=(ae (eD (bQ (aa (iV 1) ac)) (.tp [2,3]) fJ) (aD (iC (.bl true))))
def ef:Fn:=bb 5 2 l6
def tw:Sf:=(ae (az (.nm 3) (ap hJ (aa (iV 0) (aa (iV 1) (aa (iV 2) ac))))) (ae (aT (cS (dC (cL dc (iCB k8 (aa (iV 3) (aa (iC (.ty "tuple")) ac))))) (aB dNe (iCB aV (aa (iV 3) ac)) (iC (.int 2)))) (aD (iC (.str "none"))) aH) (ae (aT (cC (aB dLt (iCB aV (aa (iV 0) ac)) (iC (.int 16))) (aB dNe (ap hJ (aa (iV 0) (aa (iV 1) (aa (iV 2) ac)))) (iV 3))) (aD (iC (.str "none"))) aH) (ae (aT (cC (aB dEq (iOp dIx (iV 3) (iC (.int 0))) (iC (.str "poly"))) (cC (cL dc (ap d9 (aa (iOp dIx (iV 3) (iC (.int 1))) (aa (iV 1) (aa (iV 2) ac))))) (cL dc (ap ef (aa (iOp dIx (iV 3) (iC (.int 1))) (aa (iV 0) ac)))))) (aD (iC (.str "poly"))) aH) (ae (aT (cC (aB dEq (iOp dIx (iV 3) (iC (.int 0))) (iC (.str "bar"))) (cL dc (ap fj (aa (iOp dIx (iV 3) (iC (.int 1))) (aa (iV 0) (aa (iV 1) (aa (iV 2) ac))))))) (aD (iC (.str "bar"))) aH) (aD (iC (.str "none"))))))))
def jg:Fn:=bb 4 3 tw
def uQ:Ef:=(ap jg (aa (iV 1) (aa (iV 2) (aa (iV 0) ac))))
def uR:Ef:=(iV 0)
def v8:Tf:=(cS (aB zZ (iV 0) (iV 1)) (aB dEq (ap aF (aa (iV 2) (aa (iC (.int 3)) ac))) (iC (.int 0))))
def AY:Sf:=(ae (az (.nm 9) (iCB cU (aa (aq (iLc 1 [6,2] (aC (iV 7)) (.nm 0) v8 uR)) ac))) (ae (az (.nm 10) (aq (iLc 1 [4,5] (aC (bh (aa (iV 8) (aa (iV 6) (aa (iV 9) (aa (iV 7) ac)))))) (.nm 0) aK uQ))) (aT (cS (aB dIn (iC (.str "none")) (iV 10)) (cS (aB dNe (iV 10) (aq (iCL qc (aa (iV 10) ac)))) (aB dNe (iOp dIx (iV 10) (iC (.int 3))) (iC (.str "poly"))))) (aD (iC (.bl false))) aH)))
def uS:Ef:=(iV 0)
def wa:Tf:=(aB dGt (ap aF (aa (iV 1) (aa (iC (.int 3)) ac))) (iC (.int 0)))
def AZ:Sf:=(ae (az (.nm 5) (iOp dIx (aq (bM (aa (iC (.str "both")) (aa (iC (.str "odd")) ac)))) (ap aF (aa (iV 2) (aa (iC (.int 2)) ac))))) (ae (az (.nm 6) (ap gg (aa (iV 2) (aa (iV 3) ac)))) (ae (az (.nm 7) (iCB cU (aa (ap bV (aa (iV 3) ac)) ac))) (ae (az (.nm 8) (iCB cU (aa (aq (iLc 1 [2] (aC (iV 6)) (.nm 0) wa uS)) ac))) AY))))
def vw:Sf:=(ae (az (.nm 2) (ap cY (aa (iV 0) (aa (iV 1) ac)))) (ae (az (.nm 3) (ap aF (aa (iV 2) (aa (iC (.int 4)) ac)))) (ae (aT (cC (aB dEq (ap aF (aa (iV 2) (aa (iC (.int 8)) ac))) (iC (.int 7))) (aB dEq (iV 1) (iC (.int 0)))) (az (.nm 3) (iC (.int 4))) aH) (ae (az (.nm 4) (ap bD (aa (iV 2) (aa (iV 3) ac)))) AZ))))
def Bt:Sf:=(ae (eD (bB (aa (iOp be (iC (.int 1)) (iCB B7 (aa (iC (.int 4)) (aa (iCB aV (aa (iV 0) ac)) ac)))) ac)) (.nm 1) vw) (aD (iC (.bl true))))
def oA:Fn:=fQ 11 1 Bt
end Own
section
set_option maxHeartbeats 0
namespace Own
open PySem L2
def top (i:Nat):Stmt:=PySem.Challenge.pw_signpoly_k35_told_or_barred.main.body.getD i (.Pass ⟨0,0,0,0⟩)
def zX (s:Stmt):List Stmt:=match s with
 |.ClassDef _ _ _ b _ _ _ _ _ _ _=>b
 |_=>[]
abbrev ca:Stmt:=(zX (top 9)).getD 0 (.Pass ⟨0,0,0,0⟩)
def nV:ck ["self","rows","bounds","gains"] ["self","rows","bounds","gains"] (ao ca):=⟨U,U,U,by decide +kernel,U,by decide +kernel,by decide +kernel⟩
abbrev rT (x:Str) (i:Nat) (N:List Str) (k:Nat):Str×Nat×List Str×Nat:=(x,i,N,k)
def tbl:List (Str×Nat×List Str×Nat):=[rT "power_of_two" 1 ["k","power","step"] 1,rT "on_in" 2 ["row","k"] 2,rT "greatest_part" 3 ["numbers","found","number","rest","over"] 1,rT "lowered" 4 ["numbers","shared"] 1,rT "told_rows" 6 ["f"] 1,rT "sign_at" 7 ["f","row"] 2,rT "least_ratio" 10 ["places","tops","bottoms","least","place","mine","best"] 3,rT "weighed" 11 ["table"] 1,rT "numbers_by" 12 ["table","name","column"] 2,rT "leaving" 13 ["table","column","entries","places","name"] 2,rT "gains_more" 14 ["table","one","other","mine","best","name","numbers","more"] 3,rT "best_step" 15 ["table","best","column","step"] 1,rT "swept" 16 ["line","turning","column","part","pivot","entry","told"] 4,rT "exchange" 17 ["table","place","column","turning","part","lines","name"] 3,rT "way_of" 18 ["table","column","way","place","name"] 2,rT "amounts_of" 19 ["table","amounts","place","name"] 1,rT "prices_of" 20 ["table","prices","column","name"] 1,rT "found_most" 21 ["table","amounts","prices","shared"] 1,rT "most_of" 22 ["rows","bounds","gains","table","step"] 3,rT "value_of" 24 ["kind","term","row","many"] 3,rT "poly_from" 26 ["kind","numbers"] 2,rT "parted" 28 ["poly","number"] 2,rT "shrunk" 29 ["poly"] 1,rT "signed_value" 31 ["f","kind","term","row"] 4,rT "signed_values" 32 ["f","kind","terms"] 3,rT "one_at" 34 ["place","many"] 2,rT "both_ways" 35 ["numbers"] 1,rT "poly_by" 36 ["kind","terms","amounts","numbers","place","term"] 3,rT "weights_by" 37 ["f","numbers","weights","row","number"] 2,rT "split_of" 38 ["f","kind","terms","values","many","earned","limits","most"] 3,rT "solved" 39 ["f","kind","terms","split"] 3,rT "_law_pot" 41 ["_law_script","_law_k","_law_cell","_law_great"] 2,rT "_law_pick" 42 ["_law_pot_here","_law_many","_law_digit"] 2,rT "_law_on" 43 ["_law_row"] 1,rT "_law_function" 44 ["_law_pot_here","_law_n","_law_way_here","_law_counts","_law_some","_law_menu"] 2,rT "_law_all_terms" 45 ["_law_n","_law_found","_law_k"] 1,rT "_law_terms" 46 ["_law_pot_here","_law_n","_law_way_here","_law_every","_law_size","_law_at"] 2,rT "_law_value" 47 ["_law_kind","_law_term","_law_row","_law_many"] 3,rT "_law_sum" 48 ["_law_f","_law_kind","_law_term","_law_weights","_law_found","_law_row","_law_value_here"] 4,rT "_law_whole" 49 ["_law_item"] 1,rT "_law_is_poly" 50 ["_law_item","_law_kind","_law_terms_here","_law_last","_law_part"] 3,rT "_law_is_bar" 51 ["_law_item","_law_f","_law_kind","_law_terms_here","_law_weight","_law_value_here"] 4,rT "_law_is_told" 52 ["_law_poly","_law_f","_law_row","_law_value_here","_law_here"] 2,rT "_law_way" 53 ["_law_f","_law_kind","_law_terms_here","_law_found"] 3,rT "law" 54 ["_law_script","_law_k","_law_pot_here","_law_n","_law_f","_law_kind","_law_terms_here","_law_every","_law_fewer","_law_more","_law_ways"] 1]
def tR (i:Nat):Str×Nat×List Str×Nat:=tbl.getD i ("",0,[],0)
def tN (i:Nat):Str:=(tR i).1
def tS (i:Nat):Stmt:=top (tR i).2.1
def tV (i:Nat):List Str:=(tR i).2.2.1
def tK (i:Nat):Nat:=(tR i).2.2.2
def scs:∀ p∈tbl,ck p.2.2.1 (p.2.2.1.take p.2.2.2) (ao (top p.2.1)):=by
 iterate 45 refine qcT.2 ⟨⟨U,U,U,by decide +kernel,U,by decide +kernel,by decide +kernel⟩,?_⟩
 exact λ_ h=>nomatch h
structure Txt (K:qae) (mg:Str->Option Value):Prop where
 F:∀ p∈tbl,∃ f g,Fun K p.1 p.1 (top p.2.1) f g/\mg p.1=some (.ref f)/\dh K g (p.2.2.1.take p.2.2.2) []
 z:∀ x∈(["abs","all","any","bool","enumerate","int","isinstance","len","list","min","range","sorted","str","sum","tuple","zip"]:List Str),mg x=none
 c:∃ a f g,mg "Table" = some (.ref a)/\Fun K "__init__" "Table.__init__" ca f g/\dh K g ["self","rows","bounds","gains"] []/\Mk K a f/\Cls K a/\∀ p∈bT,cp K a p.1
section
variable {P:qaN}{w:World}{K:qae}{mg:Str->Option Value}{base:Heap}
def Bj {i:Nat} (h:i<45):tR i∈tbl:=by
 unfold tR;rw[qaC,qal (show i<tbl.length from h)];exact qbK _
abbrev Bd (P:qaN) (w:World) (K:qae) (mg:Str->Option Value) (base:Heap) (k i:Nat) (b:Sf):Prop:=∀ (f:Addr) (d:Value) (A:qa0) (outer:List Env) (s:qaj) (H:Hp) (E:XK),bo k (A.deeper (qjd (tN i) (ao (tS i)) s.heap.objs.size f d))->(ft CX0 P w K mg base (tV i) (tN i) (ao (tS i)) f d A outer s H E).nox.N=tV i->(ft CX0 P w K mg base (tV i) (tN i) (ao (tS i)) f d A outer s H E).nox.env.scope.names=(ao (tS i)).names->(tV i).Nodup->ISs K (ft CX0 P w K mg base (tV i) (tN i) (ao (tS i)) f d A outer s H E).nox (aW (tS i)) b
abbrev Ck (P:qaN) (w:World) (K:qae) (mg:Str->Option Value) (base:Heap) (i j:Nat) (m:Fn):Prop:=Cal P w K mg base (tN i) j m
def zV {i k:Nat}{b:Sf} (T:Txt K mg) (hi:i<45) (hb:Bd P w K mg base k i b):Ck P w K mg base i (k+1) (bb (tV i).length ((tV i).take (tK i)).length b):=by
 obtain⟨f,g,F,m,B⟩:=T.F (tR i) (Bj hi);exact DY F (scs _ (Bj hi)) m B (hb f)
def zW {i k:Nat}{b:Sf} (T:Txt K mg) (hi:i<45) (hb:Bd P w K mg base k i b):Ck P w K mg base i (k+1) (fQ (tV i).length ((tV i).take (tK i)).length b):=by
 obtain⟨f,g,F,m,B⟩:=T.F (tR i) (Bj hi);exact DZ F (scs _ (Bj hi)) m B (hb f)
def lO {f:Addr}{g:qb5} (T:Txt K mg) (F:Fun K "__init__" "Table.__init__" ca f g):dG P w K mg base CX0 1 f g ["self","rows","bounds","gains"] (Be K ["self","rows","bounds","gains"].length ["self","rows","bounds","gains"].length bT):=
 D5 (N:=["self","rows","bounds","gains"]) (ps:=["self","rows","bounds","gains"]) (k:=0) (g:=bT) F nV (by decide) (λ_ _ _ _ _ _ hr=>(gP U (by first|exact Or.inl U|exact Or.inr (Or.inl U)|exact Or.inr (Or.inr U)) (oq (fY U) U (T.z _ (by decide)) qbu (bx (iv 3) cc U) (by decide) (by decide) U U) (gP U (by first|exact Or.inl U|exact Or.inr (Or.inl U)|exact Or.inr (Or.inr U)) (dM (yn (rX (ao ca).names ["self","rows","bounds","gains"] ["row","bound"] 2 [] U U U (by decide +kernel)) U (by decide) (mD U (T.z _ (by decide)) (bx (iv 1) (bx (iv 2) cc U) U) U U U) (λ_ _ _ _ _=>(mB (fG (gq (i:=0) (show qhg (α:=Str) ["row","bound"] by decide +kernel) U (by first|exact Or.inl U|exact Or.inr U)) (fG (gq (i:=1) (show qhg (α:=Str) ["row","bound"] by decide +kernel) U (by first|exact Or.inl U|exact Or.inr U)) jC)) U U U U U)) (λ_ _ _ _ _=>iD) (λ_ _ _ _ _=>(mz (jj U) (dM (Bx (iu U) U (T.z _ (by decide)) qaU (bx (iv 0) cc U) (by decide) (by decide) U U)) (dM (kq (bx (iv 1) cc U))))) (λ_=>rfl))) (gP U (by first|exact Or.inl U|exact Or.inr (Or.inl U)|exact Or.inr (Or.inr U)) (mz (jj U) (dM (yn (rX (ao ca).names ["self","rows","bounds","gains"] ["gain"] 1 [] U U U (by decide +kernel)) U (by decide) (mC (iv 3) U) (λ_ _ _ _ _=>(jB (gq (i:=0) (show qhg (α:=Str) ["gain"] by decide +kernel) U (by first|exact Or.inl U|exact Or.inr U)))) (λ_ _ _ _ _=>iD) (λ_ _ _ _ _=>(my (iv 0))) (λ_=>rfl))) (dM (kq (bx ko cc U)))) (gP U (by first|exact Or.inl U|exact Or.inr (Or.inl U)|exact Or.inr (Or.inr U)) ko (gP U (by first|exact Or.inl U|exact Or.inr (Or.inl U)|exact Or.inr (Or.inr U)) (kt (mE U (T.z _ (by decide)) U (T.z _ (by decide)) (bx (oq (fY U) U (T.z _ (by decide)) qbu (bx (iv 3) cc U) (by decide) (by decide) U U) cc U) U U)) (Ad U (by first|exact Or.inl U|exact Or.inr (Or.inl U)|exact Or.inr (Or.inr U)) (kt (mF U (T.z _ (by decide)) U (T.z _ (by decide)) (bx (oq (fY U) U (T.z _ (by decide)) qbu (bx (iv 3) cc U) (by decide) (by decide) U U) (bx (mz (jj U) (oq (fY U) U (T.z _ (by decide)) qbu (bx (iv 3) cc U) (by decide) (by decide) U U) (oq (fY U) U (T.z _ (by decide)) qbu (bx (iv 1) cc U) (by decide) (by decide) U U)) cc U) U) U U U)) U U) (by intro z;cases z) U U) (by intro z;cases z) U U) (by intro z;cases z) U U) (by intro z;cases z) U U) (by intro z;cases z) U U))
def scL:ck ["_law_script","_law_k","_law_pot_here","_law_n","_law_f","_law_kind","_law_terms_here","_law_every","_law_fewer","_law_more","_law_ways"] ["_law_script"] (ao (top 54)):=scs (rT "law" 54 ["_law_script","_law_k","_law_pot_here","_law_n","_law_f","_law_kind","_law_terms_here","_law_every","_law_fewer","_law_more","_law_ways"] 1) (by decide +kernel)
def CI (T:Txt K mg):Ck P w K mg base 0 1 ek/\Ck P w K mg base 1 2 qk/\Ck P w K mg base 2 1 bm/\Ck P w K mg base 3 2 cZ/\Ck P w K mg base 4 1 bS/\Ck P w K mg base 5 1 fM/\Ck P w K mg base 6 1 fk/\Ck P w K mg base 7 1 dR/\Ck P w K mg base 8 1 cN/\Ck P w K mg base 9 2 iF/\Ck P w K mg base 10 2 bX/\Ck P w K mg base 11 3 bJ/\Ck P w K mg base 12 1 jO:=by
 obtain⟨a,C,M,c1,c2,c3,v,q,r⟩:=T.c;have D:=lO (P:=P) (w:=w) (base:=base) T c2
 repeat' first
  |assumption
  |exact rfl
  |decide
  |exact Or.inl rfl
  |exact Or.inr rfl
  |exact Or.inr (Or.inl rfl)
  |exact Or.inr (Or.inr rfl)
  |apply lF
  |apply lG
  |apply iB
  |apply jH
  |apply mE
  |apply mF
  |apply cc
  |apply bx
  |apply ko
  |apply iv
  |apply mz
  |apply pR
  |(apply qhi;apply gQ;(case hsw=>exact U);(case hns=>assumption);(case hN=>assumption);(case h=>decide +kernel))
  |(apply qgD;apply gQ;(case hsw=>exact U);(case hns=>assumption);(case hN=>assumption);(case h=>decide +kernel))
  |apply pS
  |apply u9
  |apply u8
  |apply lq
  |apply pU
  |apply vh
  |apply pK
  |(apply pL;(case hns=>assumption);(case hN=>assumption);(case h=>decide +kernel))
  |apply lw
  |apply lv
  |apply mD
  |apply mC
  |apply pG
  |apply u5
  |apply pJ
  |apply iD
  |apply lH
  |apply pQ
  |apply jF
  |apply vi
  |apply lJ
  |apply pX
  |apply jI
  |apply lI
  |apply pV
  |apply my
  |apply u7
  |apply pB
  |apply kq
  |apply ve
  |apply lD
  |apply jG
  |apply lB
  |apply lA
  |apply jE
  |apply lz
  |apply ly
  |(apply lE;(case hns=>assumption);(case hN=>assumption);(case h=>decide +kernel))
  |apply jA (N:=["self","rows","bounds","gains"]) (ps:=["self","rows","bounds","gains"])
  |refine jz rfl (by assumption) (by assumption) ?_ ?_ ?_ ?_ ?_ ?_
  |refine iz rfl (by assumption) (by assumption) ?_ ?_ ?_ ?_ ?_ ?_
  |refine u6 (by with_reducible first|exact qbm|exact qbl|exact qbk|exact qbd|exact qbj|exact qaW|exact qaU|exact qbi|exact qa1|exact qbh|exact qbg|exact qbb|exact qbu) ?_ ?_ ?_ ?_ ?_ ?_ ?_ ?_ ?_
  |refine vd (by with_reducible first|exact qbm|exact qbl|exact qbk|exact qbd|exact qbj|exact qaW|exact qaU|exact qbi|exact qa1|exact qbh|exact qbg|exact qbb|exact qbu) ?_ ?_ ?_ ?_ ?_ ?_ ?_ ?_ ?_
  |apply pz
  |apply iy
  |apply pE
  |apply pF
  |apply lu
  |apply pH
  |apply pI
  |refine vb ?_ ?_ (by with_reducible first|exact qbm|exact qbl|exact qbk|exact qbd|exact qbj|exact qaW|exact qaU|exact qbi|exact qa1|exact qbh|exact qbg|exact qbb|exact qbu) ?_ ?_
  |apply jD
  |apply lC
  |apply dM
  |apply kt
  |apply pW
  |exact T.z _ (by decide)
  |exact qd5
  |exact nomark _
  |exact λ_=>rfl
  |with_reducible first|apply jj|apply qo|apply vH|apply lM|apply qp|apply vI|apply vJ|apply vK|apply qq|apply qr|apply vL|apply so|apply qt|apply qu|apply qv|apply vN|apply iJ|apply lN|apply qw|apply qx|apply qy|apply qz|apply qB|apply oY|apply oZ|apply o0|apply o8|apply o9|apply fY|apply pd|apply pe|apply pf|apply iu|apply jp|apply li|apply jq
  |apply gq
  |apply jC
  |apply fG
  |apply jB
  |apply mB
  |apply ad
  |(apply zV T;(case hi=>decide);unfold Bd;(conv in (occs:=*) tV _=>whnf);(conv in (occs:=*) ao _=>whnf);(conv in aW _=>whnf);intros)
  |(apply zW T;(case hi=>decide);unfold Bd;(conv in (occs:=*) tV _=>whnf);(conv in (occs:=*) ao _=>whnf);(conv in aW _=>whnf);intros)
  |(refine uW (by assumption) scL ?_;(conv in aW _=>whnf);intros)
  |intro
def EH (T:Txt K mg):Ck P w K mg base 13 2 eh/\Ck P w K mg base 14 3 jP/\Ck P w K mg base 15 1 gh/\Ck P w K mg base 16 1 g9/\Ck P w K mg base 17 2 gj/\Ck P w K mg base 18 4 iG/\Ck P w K mg base 19 3 ji/\Ck P w K mg base 20 1 gZ/\Ck P w K mg base 21 1 mU/\Ck P w K mg base 22 2 mV/\Ck P w K mg base 23 4 cO/\Ck P w K mg base 24 5 dw/\Ck P w K mg base 25 1 jN:=by
 obtain⟨h0,W,h2,h3,Y,h5,h6,h7,X,h9,l,n,e⟩:=CI (P:=P) (w:=w) (base:=base) T;obtain⟨a,C,M,c1,c2,c3,v,q,r⟩:=T.c;have D:=lO (P:=P) (w:=w) (base:=base) T c2
 repeat' first
  |assumption
  |exact rfl
  |decide
  |exact Or.inl rfl
  |exact Or.inr rfl
  |exact Or.inr (Or.inl rfl)
  |exact Or.inr (Or.inr rfl)
  |apply lF
  |apply lG
  |apply iB
  |apply jH
  |apply mE
  |apply mF
  |apply cc
  |apply bx
  |apply ko
  |apply iv
  |apply mz
  |apply pR
  |(apply qhi;apply gQ;(case hsw=>exact U);(case hns=>assumption);(case hN=>assumption);(case h=>decide +kernel))
  |(apply qgD;apply gQ;(case hsw=>exact U);(case hns=>assumption);(case hN=>assumption);(case h=>decide +kernel))
  |apply pS
  |apply u9
  |apply u8
  |apply lq
  |apply pU
  |apply vh
  |apply pK
  |(apply pL;(case hns=>assumption);(case hN=>assumption);(case h=>decide +kernel))
  |apply lw
  |apply lv
  |apply mD
  |apply mC
  |apply pG
  |apply u5
  |apply pJ
  |apply iD
  |apply lH
  |apply pQ
  |apply jF
  |apply vi
  |apply lJ
  |apply pX
  |apply jI
  |apply lI
  |apply pV
  |apply my
  |apply u7
  |apply pB
  |apply kq
  |apply ve
  |apply lD
  |apply jG
  |apply lB
  |apply lA
  |apply jE
  |apply lz
  |apply ly
  |(apply lE;(case hns=>assumption);(case hN=>assumption);(case h=>decide +kernel))
  |apply jA (N:=["self","rows","bounds","gains"]) (ps:=["self","rows","bounds","gains"])
  |refine jz rfl (by assumption) (by assumption) ?_ ?_ ?_ ?_ ?_ ?_
  |refine iz rfl (by assumption) (by assumption) ?_ ?_ ?_ ?_ ?_ ?_
  |refine u6 (by with_reducible first|exact qbm|exact qbl|exact qbk|exact qbd|exact qbj|exact qaW|exact qaU|exact qbi|exact qa1|exact qbh|exact qbg|exact qbb|exact qbu) ?_ ?_ ?_ ?_ ?_ ?_ ?_ ?_ ?_
  |refine vd (by with_reducible first|exact qbm|exact qbl|exact qbk|exact qbd|exact qbj|exact qaW|exact qaU|exact qbi|exact qa1|exact qbh|exact qbg|exact qbb|exact qbu) ?_ ?_ ?_ ?_ ?_ ?_ ?_ ?_ ?_
  |apply pz
  |apply iy
  |apply pE
  |apply pF
  |apply lu
  |apply pH
  |apply pI
  |refine vb ?_ ?_ (by with_reducible first|exact qbm|exact qbl|exact qbk|exact qbd|exact qbj|exact qaW|exact qaU|exact qbi|exact qa1|exact qbh|exact qbg|exact qbb|exact qbu) ?_ ?_
  |apply jD
  |apply lC
  |apply dM
  |apply kt
  |apply pW
  |exact T.z _ (by decide)
  |exact qd5
  |exact nomark _
  |exact λ_=>rfl
  |with_reducible first|apply jj|apply qo|apply vH|apply lM|apply qp|apply vI|apply vJ|apply vK|apply qq|apply qr|apply vL|apply so|apply qt|apply qu|apply qv|apply vN|apply iJ|apply lN|apply qw|apply qx|apply qy|apply qz|apply qB|apply oY|apply oZ|apply o0|apply o8|apply o9|apply fY|apply pd|apply pe|apply pf|apply iu|apply jp|apply li|apply jq
  |apply gq
  |apply jC
  |apply fG
  |apply jB
  |apply mB
  |apply ad
  |(apply zV T;(case hi=>decide);unfold Bd;(conv in (occs:=*) tV _=>whnf);(conv in (occs:=*) ao _=>whnf);(conv in aW _=>whnf);intros)
  |(apply zW T;(case hi=>decide);unfold Bd;(conv in (occs:=*) tV _=>whnf);(conv in (occs:=*) ao _=>whnf);(conv in aW _=>whnf);intros)
  |(refine uW (by assumption) scL ?_;(conv in aW _=>whnf);intros)
  |intro
def FO (T:Txt K mg):Ck P w K mg base 26 1 gY/\Ck P w K mg base 27 3 iH/\Ck P w K mg base 28 2 dN/\Ck P w K mg base 29 6 jh/\Ck P w K mg base 30 7 hJ/\Ck P w K mg base 31 1 cY/\Ck P w K mg base 32 1 aF/\Ck P w K mg base 33 1 fL/\Ck P w K mg base 34 2 bD/\Ck P w K mg base 35 1 bV/\Ck P w K mg base 36 2 gg/\Ck P w K mg base 37 1 bW/\Ck P w K mg base 38 2 jf:=by
 obtain⟨h0,W,h2,h3,Y,h5,h6,h7,X,h9,l,n,e⟩:=CI (P:=P) (w:=w) (base:=base) T;obtain⟨G,y,t,L,I,u,O,V,J,Q,o,S,R⟩:=EH (P:=P) (w:=w) (base:=base) T;obtain⟨a,C,M,c1,c2,c3,v,q,r⟩:=T.c;have D:=lO (P:=P) (w:=w) (base:=base) T c2
 repeat' first
  |assumption
  |exact rfl
  |decide
  |exact Or.inl rfl
  |exact Or.inr rfl
  |exact Or.inr (Or.inl rfl)
  |exact Or.inr (Or.inr rfl)
  |apply lF
  |apply lG
  |apply iB
  |apply jH
  |apply mE
  |apply mF
  |apply cc
  |apply bx
  |apply ko
  |apply iv
  |apply mz
  |apply pR
  |(apply qhi;apply gQ;(case hsw=>exact U);(case hns=>assumption);(case hN=>assumption);(case h=>decide +kernel))
  |(apply qgD;apply gQ;(case hsw=>exact U);(case hns=>assumption);(case hN=>assumption);(case h=>decide +kernel))
  |apply pS
  |apply u9
  |apply u8
  |apply lq
  |apply pU
  |apply vh
  |apply pK
  |(apply pL;(case hns=>assumption);(case hN=>assumption);(case h=>decide +kernel))
  |apply lw
  |apply lv
  |apply mD
  |apply mC
  |apply pG
  |apply u5
  |apply pJ
  |apply iD
  |apply lH
  |apply pQ
  |apply jF
  |apply vi
  |apply lJ
  |apply pX
  |apply jI
  |apply lI
  |apply pV
  |apply my
  |apply u7
  |apply pB
  |apply kq
  |apply ve
  |apply lD
  |apply jG
  |apply lB
  |apply lA
  |apply jE
  |apply lz
  |apply ly
  |(apply lE;(case hns=>assumption);(case hN=>assumption);(case h=>decide +kernel))
  |apply jA (N:=["self","rows","bounds","gains"]) (ps:=["self","rows","bounds","gains"])
  |refine jz rfl (by assumption) (by assumption) ?_ ?_ ?_ ?_ ?_ ?_
  |refine iz rfl (by assumption) (by assumption) ?_ ?_ ?_ ?_ ?_ ?_
  |refine u6 (by with_reducible first|exact qbm|exact qbl|exact qbk|exact qbd|exact qbj|exact qaW|exact qaU|exact qbi|exact qa1|exact qbh|exact qbg|exact qbb|exact qbu) ?_ ?_ ?_ ?_ ?_ ?_ ?_ ?_ ?_
  |refine vd (by with_reducible first|exact qbm|exact qbl|exact qbk|exact qbd|exact qbj|exact qaW|exact qaU|exact qbi|exact qa1|exact qbh|exact qbg|exact qbb|exact qbu) ?_ ?_ ?_ ?_ ?_ ?_ ?_ ?_ ?_
  |apply pz
  |apply iy
  |apply pE
  |apply pF
  |apply lu
  |apply pH
  |apply pI
  |refine vb ?_ ?_ (by with_reducible first|exact qbm|exact qbl|exact qbk|exact qbd|exact qbj|exact qaW|exact qaU|exact qbi|exact qa1|exact qbh|exact qbg|exact qbb|exact qbu) ?_ ?_
  |apply jD
  |apply lC
  |apply dM
  |apply kt
  |apply pW
  |exact T.z _ (by decide)
  |exact qd5
  |exact nomark _
  |exact λ_=>rfl
  |with_reducible first|apply jj|apply qo|apply vH|apply lM|apply qp|apply vI|apply vJ|apply vK|apply qq|apply qr|apply vL|apply so|apply qt|apply qu|apply qv|apply vN|apply iJ|apply lN|apply qw|apply qx|apply qy|apply qz|apply qB|apply oY|apply oZ|apply o0|apply o8|apply o9|apply fY|apply pd|apply pe|apply pf|apply iu|apply jp|apply li|apply jq
  |apply gq
  |apply jC
  |apply fG
  |apply jB
  |apply mB
  |apply ad
  |(apply zV T;(case hi=>decide);unfold Bd;(conv in (occs:=*) tV _=>whnf);(conv in (occs:=*) ao _=>whnf);(conv in aW _=>whnf);intros)
  |(apply zW T;(case hi=>decide);unfold Bd;(conv in (occs:=*) tV _=>whnf);(conv in (occs:=*) ao _=>whnf);(conv in aW _=>whnf);intros)
  |(refine uW (by assumption) scL ?_;(conv in aW _=>whnf);intros)
  |intro
def FP (T:Txt K mg):Ck P w K mg base 39 1 cM/\Ck P w K mg base 40 2 d9/\Ck P w K mg base 41 3 fj/\Ck P w K mg base 42 2 ef/\Ck P w K mg base 43 8 jg/\∀ f g,Fun K "law" "law" (top 54) f g->dG P w K mg base CX0 9 f g ["_law_script"] (spI K oA):=by
 obtain⟨h0,W,h2,h3,Y,h5,h6,h7,X,h9,l,n,e⟩:=CI (P:=P) (w:=w) (base:=base) T;obtain⟨G,y,t,L,I,u,O,V,J,Q,o,S,R⟩:=EH (P:=P) (w:=w) (base:=base) T;obtain⟨h26,h27,h28,h29,h30,h31,h32,h33,h34,h35,h36,h37,h38⟩:=FO (P:=P) (w:=w) (base:=base) T;obtain⟨a,C,M,c1,c2,c3,v,q,r⟩:=T.c;have D:=lO (P:=P) (w:=w) (base:=base) T c2
 repeat' first
  |assumption
  |exact rfl
  |decide
  |exact Or.inl rfl
  |exact Or.inr rfl
  |exact Or.inr (Or.inl rfl)
  |exact Or.inr (Or.inr rfl)
  |apply lF
  |apply lG
  |apply iB
  |apply jH
  |apply mE
  |apply mF
  |apply cc
  |apply bx
  |apply ko
  |apply iv
  |apply mz
  |apply pR
  |(apply qhi;apply gQ;(case hsw=>exact U);(case hns=>assumption);(case hN=>assumption);(case h=>decide +kernel))
  |(apply qgD;apply gQ;(case hsw=>exact U);(case hns=>assumption);(case hN=>assumption);(case h=>decide +kernel))
  |apply pS
  |apply u9
  |apply u8
  |apply lq
  |apply pU
  |apply vh
  |apply pK
  |(apply pL;(case hns=>assumption);(case hN=>assumption);(case h=>decide +kernel))
  |apply lw
  |apply lv
  |apply mD
  |apply mC
  |apply pG
  |apply u5
  |apply pJ
  |apply iD
  |apply lH
  |apply pQ
  |apply jF
  |apply vi
  |apply lJ
  |apply pX
  |apply jI
  |apply lI
  |apply pV
  |apply my
  |apply u7
  |apply pB
  |apply kq
  |apply ve
  |apply lD
  |apply jG
  |apply lB
  |apply lA
  |apply jE
  |apply lz
  |apply ly
  |(apply lE;(case hns=>assumption);(case hN=>assumption);(case h=>decide +kernel))
  |apply jA (N:=["self","rows","bounds","gains"]) (ps:=["self","rows","bounds","gains"])
  |refine jz rfl (by assumption) (by assumption) ?_ ?_ ?_ ?_ ?_ ?_
  |refine iz rfl (by assumption) (by assumption) ?_ ?_ ?_ ?_ ?_ ?_
  |refine u6 (by with_reducible first|exact qbm|exact qbl|exact qbk|exact qbd|exact qbj|exact qaW|exact qaU|exact qbi|exact qa1|exact qbh|exact qbg|exact qbb|exact qbu) ?_ ?_ ?_ ?_ ?_ ?_ ?_ ?_ ?_
  |refine vd (by with_reducible first|exact qbm|exact qbl|exact qbk|exact qbd|exact qbj|exact qaW|exact qaU|exact qbi|exact qa1|exact qbh|exact qbg|exact qbb|exact qbu) ?_ ?_ ?_ ?_ ?_ ?_ ?_ ?_ ?_
  |apply pz
  |apply iy
  |apply pE
  |apply pF
  |apply lu
  |apply pH
  |apply pI
  |refine vb ?_ ?_ (by with_reducible first|exact qbm|exact qbl|exact qbk|exact qbd|exact qbj|exact qaW|exact qaU|exact qbi|exact qa1|exact qbh|exact qbg|exact qbb|exact qbu) ?_ ?_
  |apply jD
  |apply lC
  |apply dM
  |apply kt
  |apply pW
  |exact T.z _ (by decide)
  |exact qd5
  |exact nomark _
  |exact λ_=>rfl
  |with_reducible first|apply jj|apply qo|apply vH|apply lM|apply qp|apply vI|apply vJ|apply vK|apply qq|apply qr|apply vL|apply so|apply qt|apply qu|apply qv|apply vN|apply iJ|apply lN|apply qw|apply qx|apply qy|apply qz|apply qB|apply oY|apply oZ|apply o0|apply o8|apply o9|apply fY|apply pd|apply pe|apply pf|apply iu|apply jp|apply li|apply jq
  |apply gq
  |apply jC
  |apply fG
  |apply jB
  |apply mB
  |apply ad
  |(apply zV T;(case hi=>decide);unfold Bd;(conv in (occs:=*) tV _=>whnf);(conv in (occs:=*) ao _=>whnf);(conv in aW _=>whnf);intros)
  |(apply zW T;(case hi=>decide);unfold Bd;(conv in (occs:=*) tV _=>whnf);(conv in (occs:=*) ao _=>whnf);(conv in aW _=>whnf);intros)
  |(refine uW (by assumption) scL ?_;(conv in aW _=>whnf);intros)
  |intro
end
end Own
end
namespace L2
open PySem
def bA:Nat->List (List Int)
 |0=>[[]]
 |n+1=>bA n++(bA n).map λt=>t++[(n:Int)]
def fC:∀ n,(bA n).length=2^n
 |0=>rfl
 |n+1=>by rw[bA,qaz,qag,fC n];lia
def Trm (n:Nat) (t:List Int):Prop:=t.Pairwise (·<·)/\∀ k∈t,0<=k/\k<n
def Trm.mono {n m:Nat}{t:List Int} (h:Trm n t) (hn:n<=m):Trm m t:=⟨h.1,λk a=>⟨(h.2 k a).1,by have:=(h.2 k a).2;lia⟩⟩
def fD:∀ (n:Nat) {t:List Int},t∈bA n->Trm n t
 |0,t,h=>by
  rw[bA,qao]at h;subst h;exact⟨List.Pairwise.nil,λk c=>by cases c⟩
 |n+1,t,h=>by
  rcases qaS.mp h with h|h
  ·exact (fD n h).mono (qcB n)
  ·obtain⟨u,d,rfl⟩:=qaM.mp h
   have:=fD n d
   refine⟨List.pairwise_append.mpr ⟨this.1,qf7 _ _,λa e b hb=>?_⟩,λk c=>?_⟩
   ·rw[qao.mp hb];exact (this.2 a e).2
   ·rcases qaS.mp c with c|c
    ·exact⟨(this.2 k c).1,by have:=(this.2 k c).2;lia⟩
    ·rw[qao.mp c];lia
def wd {n:Nat}{t:List Int} (h:Trm n t):t.length<=n:=by
 have b:∀ (t:List Int) (a:Int),t.Pairwise (·<·)->(∀ k∈t,a<=k/\k<n)->(t.length)<=max 0 ((n) - a):=by
  intro t
  induction t with
  |nil=>intro a _ _;simp;lia
  |cons x t e=>
   intro a c hm;have f:=hm x qaf
   have:=e _ (qbo.mp c).2 λk d=>⟨(qbo.mp c).1 k d,(hm k (qak _ d)).2⟩
   rw[qan];lia
 have:=b t 0 h.1 h.2
 lia
def onI (row k:Int):Int:=row / 2^k.toNat%2
def cG (row:Int):List Int->Int
 |[]=>0
 |k::t=>onI row k+cG row t
def EI (row k:Int):onI row k=0\/onI row k=1:=by unfold onI;lia
def jr (row:Int):∀ t:List Int,(t.map (onI row)).sum=cG row t
 |[]=>rfl
 |k::t=>by rw[qar,qcn,jr row t];rfl
def fV (u:D):Prop:=u=.non\/u=.int 0\/u=.int 1
def bH:Nat->List D->List Int
 |_,[]=>[]
 |i,.non::r=>bH (i+1) r
 |i,_::r=>(i:Int)::bH (i+1) r
def sgD:D->Int
 |.int v=>if v=1 then 1 else -1
 |_=>1
def kD:∀ (r:List D) (i:Nat) {j:Int},j∈bH i r->∃ m:Nat,j=((i+m:Nat):Int)/\m<r.length/\r[m]?≠some .non
 |[],i,j,h=>by cases h
 |d::r,i,j,h=>by
  have up:j∈bH _ r->∃ m:Nat,j=((i+m))/\m<(d::r).length/\(d::r)[m]?≠some .non:=λh=>by
   obtain⟨m,e,hm,hn⟩:=kD r (i+1) h;exact⟨m+1,by lia,by simpa using hm,by simpa using hn⟩
  cases d with
  |non=>exact up h
  |_=>
   rcases qaA.mp h with rfl|h
   ·exact⟨0,by simp,by simp,by simp⟩
   ·exact up h
def A7:D->Bool
 |.tup [_,v]=>!dD v
 |_=>false
def Dk:D->D
 |.tup [j,_]=>j
 |d=>d
def nB:∀ (r:List D) (i:Nat),((ci i r).filter A7).map Dk=(bH i r).map D.int
 |[],i=>rfl
 |d::r,i=>by
  have a:=nB r (i+1);have e0:ci i (d::r)=.tup [.int _,d]::ci _ r:=rfl;rw[e0,qed];cases d<;>first
   |(exact a)
   |(rw[iFP (show A7 _=true from rfl),qar,a];rfl)
def oF:∀ (r:List D) (i:Nat),(bH i r).length<=r.length
 |[],i=>qap _
 |d::r,i=>by
  have a:=oF r (i+1);cases d<;>first
   |(show (bH _ r).length<=r.length+1;lia)
   |(show (bH _ r).length+1<=r.length+1;lia)
abbrev Prt:=List Int×Int
def cb (p:Prt):D:=.tup [aj p.1,.int p.2]
def cP (kd:Str) (ps:List Prt):D:=.tup [.str kd,.tup (ps.map cb)]
def xn {ps:List Prt}{i:Nat}{d:D} (h:(ps.map cb)[i]?=some d):∃ p,ps[i]?=some p/\d=.tup [aj p.1,.int p.2]:=by
 rw[qay,qad]at h;obtain⟨p,a,rfl⟩:=h;exact⟨p,a,U⟩
def dj:Nat->List Int->Nat
 |g,[]=>g
 |g,n::ns=>dj (qfN g n.natAbs) ns
def rF (n:Int):∀ (g:Nat) (ns:List Int),dj g (ns++[n])=qfN (dj g ns) n.natAbs
 |g,[]=>rfl
 |g,m::ns=>rF n _ ns
def dk:∀ (g:Nat) (ns:List Int),dj g ns∣g/\∀ n∈ns,dj g ns∣n.natAbs
 |g,[]=>⟨Nat.dvd_refl _,λ_ h=>by cases h⟩
 |g,m::ns=>by
  have a:=dk (qfN g m.natAbs) ns;refine⟨qil a.1 (Nat.gcd_dvd_left _ _),λn hn=>?_⟩;rcases qaA.mp hn with rfl|hn
  ·exact qil a.1 (Nat.gcd_dvd_right _ _)
  ·exact a.2 n hn
def yf {ns:List Int}{n:Int} (hn:n∈ns) (b:n≠0):0<dj 0 ns/\dj 0 ns<=n.natAbs:=by
 have h:=(dk 0 ns).2 n hn;have a:0<n.natAbs:=by lia
 exact⟨Nat.pos_of_dvd_of_pos h a,Nat.le_of_dvd a h⟩
def ag {g:Sto->W->W->Option D}{a b:Ef}{env:Ev}{st s1 c:Sto}{x y:W}{d:D} (e:a env st=some (x,s1)) (hb:b env s1=some (y,c)) (hg:g c x y=some d):iOp g a b env st=some (.d d,c):=by
 simp only[iOp,e,hb,hg,qaa,qah]
def av {g:Sto->W->W->Option D}{a b:Ef}{env:Ev}{st s1 c:Sto}{x y:W}{k:Bool} (d:a env st=some (x,s1)) (hb:b env s1=some (y,c)) (hg:g c x y=some (.bl k)):aB g a b env st=some (k,c):=by
 simp only[aB,d,hb,hg,qaa,iQ,qah]
def lS {a b:Sf}{env e:Ev}{st s:Sto}{r:Fl} (c:a env st=some (.nx e s)) (hb:b e s=some r):ae a b env st=some r:=by
 simp only[ae,c,hb,qaa]
def vX {a b:Sf}{env:Ev}{st s:Sto}{w:W} (c:a env st=some (.rt w s)):ae a b env st=some (.rt w s):=by
 simp only[ae,c,qaa]
def ak {i:Nat}{f:Ef}{env:Ev}{st s:Sto}{w:W} (h:f env st=some (w,s)):az (.nm i) f env st=some (.nx (env.set i (some w)) s):=by
 simp only[az,h,qaa,cA,qah]
def ai {m:Fn}{a:Af}{env:Ev}{st s:Sto}{ws:List W}{r:W×Sto} (b:a env st=some (ws,s)) (hm:m ws s=some r):ap m a env st=some r:=by
 simp only[ap,b,hm,qaa]
def aL {g:Sto->List W->Option D}{a:Af}{env:Ev}{st s:Sto}{ws:List W}{d:D} (b:a env st=some (ws,s)) (hm:g s ws=some d):iCB g a env st=some (.d d,s):=by
 simp only[iCB,b,hm,qaa,qah]
def ab {a:Ef}{b:Af}{env:Ev}{st s1 c:Sto}{x:W}{y:List W} (d:a env st=some (x,s1)) (hb:b env s1=some (y,c)):aa a b env st=some (x::y,c):=by
 simp only[aa,d,hb,qaa,qah]
def bz {a:Lf}{g:Tg}{b:Sf}{env:Ev}{st s:Sto}{ds:List D}{r:Fl} (h:a env st=some (ds,s)) (c:cw g b ds env s=some r):eD a g b env st=some r:=by
 simp only[eD,h,c,qaa]
def aJ {f:Ef}{env:Ev}{st s:Sto}{w:W} (h:f env st=some (w,s)):aD f env st=some (.rt w s):=by
 simp only[aD,h,qah]
def BK {c:Tf}{a b:Sf}{env:Ev}{st s:Sto}{r:Option Fl} (h:c env st=some (true,s)) (d:a env s=r):aT c a b env st=r:=by
 simp only[aT,h,qaa,if_true,d]
def BJ {c:Tf}{a b:Sf}{env:Ev}{st s:Sto}{r:Option Fl} (h:c env st=some (false,s)) (hb:b env s=r):aT c a b env st=r:=by
 simp only[aT,h,qaa,qa7,if_false,hb]
def aS {k:Nat}{js:List Nat}{a:Lf}{g:Tg}{tt:Tf}{te:Ef}{env:Ev}{st s c:Sto}{ds b:List D} (h:a env st=some (ds,s)) (d:ds.length<=1000000) (e:lcI g tt te (jw k js env) ds s=some (b,c)):iLc k js a g tt te env st=some (b,c):=by
 simp only[iLc,h,e,d,qaa,if_true]
def ay {a:Lf}{env:Ev}{st s:Sto}{ds:List D} (h:a env st=some (ds,s)):aq a env st=some (.d (.lst ds),s):=by
 simp only[aq,h,qah]
def aw {n k:Nat}{b:Sf}{ws:List W}{st s:Sto}{w:W} (a:ws.length=k) (h:b (ws.map some++qaG (n - k) none) st=some (.rt w s)):bb n k b ws st=some (w,s):=by
 simp only[bb,a,if_true,h,qaa]
def ni {n k:Nat}{b:Sf}{ws:List W}{st s:Sto}{x:D} (a:ws.length=k) (h:b (ws.map some++qaG (n - k) none) st=some (.rt (.d x) s)):fQ n k b ws st=some (.d x,s.take st.length):=by
 simp only[fQ,a,if_true,h,qaa,wL]
end L2
namespace Sx
abbrev Vec:=Nat->Int
def sumN:Nat->(Nat->Int)->Int
 |0,_=>0
 |n+1,f=>sumN n f+f n
def sumN_congr {n:Nat}{f g:Nat->Int} (h:∀ k,k<n->f k=g k):sumN n f=sumN n g:=by
 induction n with
 |zero=>rfl
 |succ n F=>rw[sumN,sumN,F λk H=>h k (by omega),h n (by omega)]
def sumN_add (n:Nat) (f g:Nat->Int):sumN n (λk=>f k+g k)=sumN n f+sumN n g:=by
 induction n with
 |zero=>rfl
 |succ n F=>rw[sumN,sumN,sumN];omega
def sumN_mul (n:Nat) (c:Int) (f:Nat->Int):sumN n (λk=>c*f k)=c*sumN n f:=by
 induction n with
 |zero=>simp[sumN]
 |succ n F=>rw[sumN,sumN,F,qcp]
def sumN_zero (n:Nat):sumN n (λ_=>0)=0:=by
 induction n with
 |zero=>rfl
 |succ n F=>rw[sumN,F];rfl
def sumN_single {n i:Nat} (hi:i<n) {f:Nat->Int} (h:∀ k,k<n->k≠i->f k=0):sumN n f=f i:=by
 induction n with
 |zero=>omega
 |succ n F=>
  rw[sumN];by_cases e:i=n
  ·subst e
   rw[sumN_congr λk H=>h k (by omega) (by omega),sumN_zero];omega
  ·rw[F (by omega) λk H s=>h k (by omega) s,h n (by omega) (by omega)];omega
def sumN_pair {n i j:Nat} (hi:i<n) (O:j<n) (W:i≠j) {f:Nat->Int} (h:∀ k,k<n->k≠i->k≠j->f k=0):sumN n f=f i+f j:=by
 have e:sumN n f=sumN n (λk=>(if k=i then f i else 0)+(if k=j then f j else 0)):=by
  refine sumN_congr λk H=>?_;by_cases J:k=i
  ·subst J;omega
  ·by_cases L:k=j
   ·subst L;omega
   ·rw[iFN J,iFN L,h k H J L];rfl
 rw[e,sumN_add,sumN_single hi λk _ s=>iFN s,sumN_single O λk _ s=>iFN s,iFP U,iFP U]
def skip (k j:Nat):Nat:=if j<k then j else j+1
def sg (k:Nat):Int:=if k%2=0 then 1 else -1
def sg_succ (k:Nat):sg (k+1)=- sg k:=by
 unfold sg;by_cases h:k%2=0
 ·rw[iFP h,iFN (by omega)]
 ·rw[iFN h,iFP (by omega)];rfl
def det:Nat->(Nat->Vec)->Int
 |0,_=>1
 |m+1,C=>sumN (m+1) λk=>sg k*C k 0*det m (λj t=>C (skip k j) (t+1))
def det_congr:∀ (m:Nat) {C E:Nat->Vec},(∀ k t,k<m->t<m->C k t=E k t)->det m C=det m E:=by
 intro m
 induction m with
 |zero=>intros;rfl
 |succ m F=>
  intro C E h;refine sumN_congr λk H=>?_;rw[h k 0 H (by omega),F λj t O ht=>h _ _ (by unfold skip;split<;>omega) (by omega)]
def upd (C:Nat->Vec) (i:Nat) (v:Vec):Nat->Vec:=λj=>if j=i then v else C j
def upd_same (C:Nat->Vec) (i:Nat) (v:Vec):upd C i v i=v:=iFP U
def upd_ne {C:Nat->Vec}{i j:Nat}{v:Vec} (h:j≠i):upd C i v j=C j:=iFN h
def upd_self (C:Nat->Vec) (i:Nat):upd C i (C i)=C:=by
 funext j
 by_cases h:j=i
 ·rw[h,upd_same]
 ·rw[upd_ne h]
def upd_upd (C:Nat->Vec) (i:Nat) (u v:Vec):upd (upd C i u) i v=upd C i v:=by
 funext j
 by_cases h:j=i
 ·rw[h,upd_same,upd_same]
 ·rw[upd_ne h,upd_ne h,upd_ne h]
def upd_comm {C:Nat->Vec}{i j:Nat}{u v:Vec} (h:i≠j):upd (upd C i u) j v=upd (upd C j v) i u:=by
 funext k
 by_cases J:k=i
 ·subst J;rw[upd_ne h,upd_same,upd_same]
 ·by_cases L:k=j
  ·subst L;rw[upd_same,upd_ne J,upd_same]
  ·rw[upd_ne L,upd_ne J,upd_ne J,upd_ne L]
def unskip (k i:Nat):Nat:=if i<k then i else i - 1
def skip_upd {C:Nat->Vec}{k i:Nat}{v:Vec} (h:k≠i):(λj t=>upd C i v (skip k j) (t+1))=upd (λj t=>C (skip k j) (t+1)) (unskip k i) (λt=>v (t+1)):=by
 funext j t
 unfold upd skip unskip;by_cases J:j<k<;>by_cases L:i<k<;>simp only[J,L,if_true,if_false]
 ·by_cases e:j=i
  ·rw[iFP e,iFP e]
  ·rw[iFN e,iFN e]
 ·rw[iFN (by omega),iFN (by omega)]
 ·rw[iFN (by omega),iFN (by omega)]
 ·by_cases e:j+1=i
  ·rw[iFP e,iFP (by omega)]
  ·rw[iFN e,iFN (by omega)]
def skip_self {C:Nat->Vec}{i:Nat}{v:Vec}:(λj t=>upd C i v (skip i j) (t+1))=λj t=>C (skip i j) (t+1):=by
 funext j t
 rw[upd_ne];unfold skip;split<;>omega
def det_add:∀ (m:Nat) (C:Nat->Vec) (i:Nat) (u v:Vec),i<m->det m (upd C i λt=>u t+v t)=det m (upd C i u)+det m (upd C i v):=by
 intro m
 induction m with
 |zero=>omega
 |succ m F=>
  intro C i u v hi;rw[det,det,det,<-sumN_add];refine sumN_congr λk H=>?_;by_cases e:k=i
  ·subst e
   rw[skip_self,skip_self,skip_self,upd_same,upd_same,upd_same,qcp,qef]
  ·rw[skip_upd e,skip_upd e,skip_upd e,upd_ne e,upd_ne e,upd_ne e,F _ _ _ _ (by unfold unskip;split<;>omega),qcp]
def det_mul:∀ (m:Nat) (C:Nat->Vec) (i:Nat) (c:Int) (u:Vec),i<m->det m (upd C i λt=>c*u t)=c*det m (upd C i u):=by
 intro m
 induction m with
 |zero=>omega
 |succ m F=>
  intro C i c u hi;rw[det,det,<-sumN_mul];refine sumN_congr λk H=>?_;by_cases e:k=i
  ·subst e
   rw[skip_self,skip_self,upd_same,upd_same];rw[show sg k*_=c*_ by rw[qaT],qbt]
  ·rw[skip_upd e,skip_upd e,upd_ne e,upd_ne e,F _ _ c _ (by unfold unskip;split<;>omega),qaT]
def det_adj:∀ (m:Nat) (C:Nat->Vec) (i:Nat),i+1<m->C i=C (i+1)->det m C=0:=by
 intro m
 induction m with
 |zero=>omega
 |succ m F=>
  intro C i hi h;rw[det,sumN_pair (i:=i) (by omega) (by omega) (by omega) λk H J L=>?_]
  ·have e:(λj t=>C (skip i j) (t+1))=λj t=>C (skip (i+1) j) (t+1):=by
    funext j t
    by_cases e:j=i
    ·subst e
     have X:skip j j=j+1:=by unfold skip;rw[iFN (by omega)]
     have a2:skip (j+1) j=j:=by unfold skip;rw[iFP (by omega)]
     rw[X,a2,h]
    ·have:skip i j=skip (i+1) j:=by
      unfold skip;by_cases J:j<i
      ·rw[iFP J,iFP (by omega)]
      ·rw[iFN J,iFN (by omega)]
     rw[this]
   rw[e,h,sg_succ];rw[<-qef,<-qef];rw[show sg i+-sg i=0 by omega]
   simp
  ·have hz:det m (λj t=>C (skip k j) (t+1))=0:=by
    by_cases l:k<i
    ·refine F _ (i - 1) (by omega) ?_
     funext t
     have X:skip k (i - 1)=i:=by unfold skip;rw[iFN (by omega)];omega
     have a2:skip k (i - 1+1)=i+1:=by unfold skip;rw[iFN (by omega)];omega
     rw[X,a2,h]
    ·refine F _ i (by omega) ?_
     funext t
     have X:skip k i=i:=by unfold skip;rw[iFP (by omega)]
     have a2:skip k (i+1)=i+1:=by unfold skip;rw[iFP (by omega)]
     rw[X,a2,h]
   rw[hz,qa3]
def det_swap {m:Nat} (C:Nat->Vec) {i:Nat} (hi:i+1<m):det m (upd (upd C i (C (i+1))) (i+1) (C i))=- det m C:=by
 have Q:∀ u v ,det m (upd (upd C i u) (i+1) v)+det m (upd (upd C i v) (i+1) u)=0:=λu v=>by
  have h0:det m (upd (upd C i λt=>u t+v t) (i+1) λt=>u t+v t)=0:=det_adj m _ i hi (by rw[upd_ne (by omega),upd_same,upd_same]);have hv:det m (upd (upd C i v) (i+1) v)=0:=det_adj m _ i hi (by rw[upd_ne (by omega),upd_same,upd_same]);rw[det_add m _ _ u v hi,upd_comm (by omega),upd_comm (v:=v) (by omega),det_add m _ i u v (by omega),det_add m _ i u v (by omega)]at h0;rw[<-upd_comm (by omega),<-upd_comm (u:=v) (by omega),<-upd_comm (i:=i) (by omega),<-upd_comm (u:=v) (v:=v) (by omega),(det_adj m _ i hi (by rw[upd_ne (by omega),upd_same,upd_same]))]at h0;omega
 have:=Q (C i) (C (i+1))
 have e:upd (upd C i (C i)) (i+1) (C (i+1))=C:=by rw[upd_self,upd_self]
 rw[e]at this;omega
def det_same {m:Nat}:∀ (d:Nat) (C:Nat->Vec) (i j:Nat),j=i+d+1->j<m->C i=C j->det m C=0:=by
 intro d
 induction d with
 |zero=>intro C i j O hm h;subst O;exact det_adj m C i hm h
 |succ d F=>
  intro C i j O hm h;have hs:=det_swap (m:=m) C (i:=j - 1) (by omega);have e1:j - 1+1=j:=by omega
  rw[e1]at hs
  have:=F (upd (upd C (j - 1) _) j (C (j - 1))) i (j - 1) (by omega) (by omega) (by rw[upd_ne (by omega),upd_ne (by omega),upd_ne (by omega),upd_same,h])
  omega
def det_eq0 {m:Nat} (C:Nat->Vec) {i j:Nat} (hi:i<m) (O:j<m) (W:i≠j) (h:C i=C j):det m C=0:=by
 rcases Nat.lt_or_gt_of_ne W with J|J
 ·exact det_same (j - i - 1) C i j (by omega) O h
 ·exact det_same (i - j - 1) C j i (by omega) hi h.symm
def det_zero {m:Nat} (C:Nat->Vec) {i:Nat} (hi:i<m):det m (upd C i λ_=>0)=0:=by
 simpa using (det_mul m C i 0 (λ_=>0) hi)
def det_sum {m:Nat} (C:Nat->Vec) {i:Nat} (hi:i<m) (x:Nat->Int) (V:Nat->Vec):∀ n,det m (upd C i λt=>sumN n λk=>x k*V k t)=sumN n λk=>x k*det m (upd C i (V k)):=by
 intro n
 induction n with
 |zero=>exact det_zero C hi
 |succ n F=>
  have e:(λt=>sumN (n+1) λk=>x k*V k t)=λt=>_+x n*V n t:=rfl;rw[e,det_add m C i _ _ hi,F,det_mul m C i _ _ hi];rfl
def cramer {m:Nat} (B:Nat->Vec) (a:Vec) (p:Int) (x:Nat->Int) (h:∀ t,p*a t=sumN m λk=>x k*B k t) {i:Nat} (hi:i<m):p*det m (upd B i a)=x i*det m B:=by
 rw[<-det_mul m B i p a hi];rw[(funext h),det_sum B hi x B m,sumN_single hi λk H s=>?_,upd_self];rw[det_eq0 _ hi H (qbL s) (by rw[upd_same,upd_ne s]),qa3]
def cramer2 {m:Nat} (B:Nat->Vec) (a b:Vec) (p:Int) (hp:p=det m B) (hp0:p≠0) (x y:Nat->Int) (hx:∀ t,p*a t=sumN m λk=>x k*B k t) (hy:∀ t,p*b t=sumN m λk=>y k*B k t) {i r:Nat} (hi:i<m) (q:r<m) (o:i≠r) :
  p*det m (upd (upd B r a) i b)=x r*y i - x i*y r:=by
 have J:p*det m (upd (upd B r a) i b)=sumN m λk=>y k*det m (upd (upd B r a) i (B k)):=by
  rw[<-det_mul m _ i p b hi];rw[(funext hy),det_sum _ hi y B m]
 rw[J,sumN_pair hi q o λk H L h3=>?_]
 ·have e1:upd (upd B r a) i (B i)=upd B r a:=by
   have:(upd B r a) i=B i:=upd_ne o
   rw[<-this,upd_self]
  have e2:p*det m (upd B r a)=x r*p:=by rw[cramer B a p x hx q,<-hp]
  have e3:p*det m (upd (upd B r a) i (B r))=- (x i*p):=by
   rw[(upd_comm (qbL o)),<-det_mul m _ r p a q];rw[(funext hx),det_sum _ q x B m,sumN_single hi λk H s=>?_]
   ·-- columns i and r exchanged
    have hsw:det m (upd (upd B i (B r)) r (B i))=- det m B:=by
     have:=(λu v=>by
      have z:∀ w ,det m (upd (upd B i w) r w)=0:=λw=>det_eq0 _ hi q o (by rw[upd_ne o,upd_same,upd_same]);have h0:=z λt=>u t+v t;rw[det_add m _ r u v q,upd_comm o,upd_comm o,det_add m _ i u v hi,det_add m _ i u v hi]at h0;rw[<-upd_comm o,<-upd_comm o,<-upd_comm o,<-upd_comm o,z u,z v]at h0
      omega) (B i) (B r)
     rw[show upd _ r (B r)=B by rw[upd_self,upd_self]]at this;omega
    rw[hsw,<-hp,qfP]
   ·by_cases N:k=r
    ·subst N
     rw[det_eq0 _ hi q o (by rw[upd_ne o,upd_same,upd_same]),qa3]
    ·rw[det_eq0 _ q H (qbL N) (by rw[upd_same,upd_ne N,upd_ne s]),qa3]
  rw[e1]
  have:p*(y i*det m (upd B r a)+y r*det m (upd (upd B r a) i (B r)))=p*(x r*y i - x i*y r):=by
   rw[qcp,qaT,e2,qaT p _,e3,qcD,qfP];rw[show y i*_=p*_ by rw[qaZ _,qbs,qaZ]];rw[show y r*_=p*(x i*y r) by rw[qaZ _,qbt,qaZ p _,<-qbt,qaZ _ p]];omega
  exact qdZ hp0 this
 ·rw[det_eq0 _ hi H (qbL L) (by rw[upd_same,upd_ne L,upd_ne h3]),qa3]
def unit (k:Nat):Vec:=λt=>if t=k then 1 else 0
def det_unit:∀ m,det m unit=1:=by
 intro m
 induction m with
 |zero=>rfl
 |succ m F=>
  rw[det,sumN_single (i:=0) (by omega) λk H s=>by rw[show unit k 0=0 by unfold unit;rw[iFN (by omega)]];simp];have e:(λj t=>unit (skip 0 j) (t+1))=unit:=by
   funext j t
   unfold unit skip;rw[iFN (by omega:¬ j<0)];by_cases h:t=j
   ·rw[iFP (by omega),iFP h]
   ·rw[iFN (by omega),iFN h]
  rw[e,F];rfl
structure Pb where
 m:Nat
 n:Nat
 A:Nat->Vec
 b:Vec
 g:Nat->Int
structure Tb where
 p:Int
 kept:Nat->Nat
 free:Nat->Nat
 T:Nat->Nat->Int
 G:Nat->Int
variable (P:Pb)
def colV (S:Tb) (c:Nat):Vec:=if c<P.n then P.A (S.free c) else P.b
def gainC (S:Tb) (c:Nat):Int:=if c<P.n then P.g (S.free c) else 0
def basis (S:Tb):Nat->Vec:=λi=>P.A (S.kept i)
structure Good (S:Tb):Prop where
 pos:0<S.p
 dt:S.p=det P.m (basis P S)
 eq:∀ c,c<=P.n->∀ t,S.p*colV P S c t=sumN P.m λi=>S.T i c*P.A (S.kept i) t
 goal:∀ c,c<=P.n->S.G c=(sumN P.m λi=>P.g (S.kept i)*S.T i c) - S.p*gainC P S c
def piv (S:Tb) (r e:Nat):Tb where
 p:=S.T r e
 kept:=λi=>if i=r then S.free e else S.kept i
 free:=λc=>if c=e then S.kept r else S.free c
 T:=λi c=>if i=r then (if c=e then S.p else S.T r c) else (if c=e then - S.T i e else (S.T r e*S.T i c - S.T i e*S.T r c) / S.p)
 G:=λc=>if c=e then - S.G e else (S.T r e*S.G c - S.G e*S.T r c) / S.p
variable {P}
def Good.entry {S:Tb} (h:Good P S) {c i:Nat} (M:c<=P.n) (hi:i<P.m):S.T i c=det P.m (upd (basis P S) i (colV P S c)):=by
 have:=cramer (basis P S) _ S.p _ (λt=>h.eq c M t) hi
 rw[<-h.dt,qaZ]at this;exact (qfX (by have:=h.pos;omega) this).symm
def Good.whole {S:Tb} (h:Good P S) {r e c i:Nat} (K:e<=P.n) (M:c<=P.n) (hi:i<P.m) (q:r<P.m) (o:i≠r):∃ d,S.T r e*S.T i c - S.T i e*S.T r c=S.p*d:=
 ⟨_,(cramer2 _ _ _ S.p h.dt (by have:=h.pos;omega) _ _ (λt=>h.eq e K t) (λt=>h.eq c M t) hi q o).symm⟩
def ediv_of {p a d:Int} (hp:0<p) (h:a=p*d):p*(a / p)=a:=by
 rw[h,qga _ (by omega)]
def piv_T {S:Tb} (h:Good P S) {r e c i:Nat} (K:e<=P.n) (M:c<=P.n) (hi:i<P.m) (q:r<P.m) (o:i≠r) (D:c≠e):S.p*(piv S r e).T i c=S.T r e*S.T i c - S.T i e*S.T r c:=by
 obtain⟨d,hd⟩:=h.whole K M hi q o;show S.p*(if i=r then _ else _)=_;rw[iFN o,iFN D];exact ediv_of h.pos hd
def sumN_split {n r:Nat} (q:r<n) (f:Nat->Int):sumN n f=f r+sumN n (λk=>if k=r then 0 else f k):=by
 have e:sumN n f=sumN n (λk=>(if k=r then f r else 0)+(if k=r then 0 else f k)):=by
  refine sumN_congr λk H=>?_;by_cases h:k=r
  ·rw[h];omega
  ·omega
 rw[e,sumN_add,sumN_single q λk _ s=>iFN s,iFP U]
def sumN_sub (n:Nat) (f g:Nat->Int):sumN n (λk=>f k - g k)=sumN n f - sumN n g:=by
 induction n with
 |zero=>rfl
 |succ n F=>rw[sumN,sumN,sumN];omega
def piv_eq {S:Tb} (h:Good P S) {r e:Nat} (K:e<P.n) (q:r<P.m):∀ c,c<=P.n->∀ t,(piv S r e).p*colV P (piv S r e) c t=sumN P.m λi=>(piv S r e).T i c*P.A ((piv S r e).kept i) t:=by
 intro c M t;have hp:=h.pos;have R:=h.eq e (by omega) t;have hcE:colV P S e=P.A _:=iFP K;rw[hcE,sumN_split q]at R;have kr:(piv S r e).kept r=S.free e:=iFP U;have kn:∀ i,i≠r->(piv S r e).kept i=S.kept i:=λi hi=>iFN hi;rw[sumN_split q,kr];by_cases D:c=e
 ·subst D
  have c1:colV P (piv S r c) c=P.A (S.kept r):=by
   unfold colV;rw[iFP K];show P.A (if c=c then _ else _)=_;rw[iFP U]
  have t1:(piv S r c).T r c=S.p:=by show (if r=r then _ else _)=_;rw[iFP U,iFP U]
  have t2:(sumN P.m λk=>if k=r then 0 else (piv S r c).T k c*P.A ((piv S r c).kept k) t)=- sumN P.m λk=>if k=r then 0 else S.T k c*P.A (S.kept k) t:=by
   have:(sumN P.m λk=>if k=r then 0 else (piv S r c).T k c*P.A ((piv S r c).kept k) t)=sumN P.m λk=>(-1)*(if k=r then 0 else S.T k c*P.A (S.kept k) t):=by
    refine sumN_congr λk H=>?_;by_cases l:k=r
    ·rw[iFP l,iFP l];rfl
    ·rw[iFN l,iFN l,kn k l]
     show (if k=r then _ else _)*_=_;rw[iFN l,iFP U,qdx,qdx,qda]
   rw[this,sumN_mul];omega
  rw[c1,t1];show S.T r c*P.A _ t=_;omega
 ·have c1:colV P (piv S r e) c=colV P S c:=by
   unfold colV;by_cases I:c<P.n
   ·rw[iFP I,iFP I];show P.A (if c=e then _ else _)=_;rw[iFN D]
   ·rw[iFN I,iFN I]
  have t1:(piv S r e).T r c=S.T r c:=by show (if r=r then _ else _)=_;rw[iFP U,iFN D]
  have hC:=h.eq c M t;rw[sumN_split q]at hC;rw[c1,t1];refine qdZ (a:=S.p) (by omega) ?_;have t2:S.p*(sumN P.m λk=>if k=r then 0 else (piv S r e).T k c*P.A ((piv S r e).kept k) t)=(sumN P.m λk=>S.T r e*(if k=r then 0 else S.T k c*P.A (S.kept k) t)) - sumN P.m λk=>S.T r c*(if k=r then 0 else S.T k e*P.A (S.kept k) t):=by
   rw[<-sumN_mul,<-sumN_sub];refine sumN_congr λk H=>?_;by_cases l:k=r
   ·rw[iFP l,iFP l,iFP l];simp
   ·rw[iFN l,iFN l,iFN l,kn k l,<-qbt,piv_T h (by omega) M H q l D,qfO]
    rw[qbt,qaZ (S.T k e),qbt]
  rw[qcp,t2,sumN_mul,sumN_mul];show S.p*(S.T r e*colV P S c t)=_;rw[qaT,hC,<-qbt S.p,qaZ S.p _,qbt,R,qcp,qcp];rw[show S.T r e*_=S.T r c*_ by rw[qaT]];omega
def piv_goal {S:Tb} (h:Good P S) {r e:Nat} (K:e<P.n) (q:r<P.m):∀ c,c<=P.n->(piv S r e).G c=(sumN P.m λi=>P.g ((piv S r e).kept i)*(piv S r e).T i c) - (piv S r e).p*gainC P (piv S r e) c:=by
 intro c M;have hp:=h.pos;have R:=h.goal e (by omega);have gE:gainC P S e=P.g _:=iFP K;rw[gE,sumN_split q]at R;have kr:(piv S r e).kept r=S.free e:=iFP U;have kn:∀ i,i≠r->(piv S r e).kept i=S.kept i:=λi hi=>iFN hi;rw[sumN_split q,kr];by_cases D:c=e
 ·subst D
  have c1:gainC P (piv S r c) c=P.g (S.kept r):=by
   unfold gainC;rw[iFP K];show P.g (if c=c then _ else _)=_;rw[iFP U]
  have t1:(piv S r c).T r c=S.p:=by show (if r=r then _ else _)=_;rw[iFP U,iFP U]
  have t2:(sumN P.m λk=>if k=r then 0 else P.g ((piv S r c).kept k)*(piv S r c).T k c)=- sumN P.m λk=>if k=r then 0 else P.g (S.kept k)*S.T k c:=by
   have:(sumN P.m λk=>if k=r then 0 else P.g ((piv S r c).kept k)*(piv S r c).T k c)=sumN P.m λk=>(-1)*(if k=r then 0 else P.g (S.kept k)*S.T k c):=by
    refine sumN_congr λk H=>?_;by_cases l:k=r
    ·rw[iFP l,iFP l];rfl
    ·rw[iFN l,iFN l,kn k l]
     show _*(if k=r then _ else _)=_;rw[iFN l,iFP U,qfP,qdx,qda]
   rw[this,sumN_mul];omega
  rw[c1,t1];show (if c=c then - S.G c else _)=_ - S.T r c*_;rw[iFP U,R,qaZ _,qaZ S.p];omega
 ·have c1:gainC P (piv S r e) c=gainC P S c:=by
   unfold gainC;by_cases I:c<P.n
   ·rw[iFP I,iFP I];show P.g (if c=e then _ else _)=_;rw[iFN D]
   ·rw[iFN I,iFN I]
  have t1:(piv S r e).T r c=S.T r c:=by show (if r=r then _ else _)=_;rw[iFP U,iFN D]
  have hC:=h.goal c M;rw[sumN_split q]at hC;rw[c1,t1];have t2:S.p*(sumN P.m λk=>if k=r then 0 else P.g ((piv S r e).kept k)*(piv S r e).T k c)=(sumN P.m λk=>S.T r e*(if k=r then 0 else P.g (S.kept k)*S.T k c)) - sumN P.m λk=>S.T r c*(if k=r then 0 else P.g (S.kept k)*S.T k e):=by
   rw[<-sumN_mul,<-sumN_sub];refine sumN_congr λk H=>?_;by_cases l:k=r
   ·rw[iFP l,iFP l,iFP l];simp
   ·rw[iFN l,iFN l,iFN l,kn k l,qaT,piv_T h (by omega) M H q l D,qcD]
    rw[qaT,qaZ (S.T k e),qaT (S.T r c)]
  rw[sumN_mul,sumN_mul]at t2;have Q:S.T r e*S.G c - S.G e*S.T r c=S.p*(P.g (S.free e)*S.T r c+(sumN P.m λk=>if k=r then 0 else P.g ((piv S r e).kept k)*(piv S r e).T k c) - S.T r e*gainC P S c):=by
   rw[qcD,qcp,t2,hC,R];generalize (sumN P.m λk=>if k=r then 0 else P.g _*S.T k e)=Y;rw[qcD,qcp,qfO,qef];rw[show S.T r e*_=P.g _*S.T r e*S.T r c by rw[qaT,qbt]];rw[show S.T r e*(S.p*gainC P S c)=S.p*_ by rw[qaT]];rw[show S.p*(P.g _*S.T r c)=S.p*P.g _*S.T r c by rw[qbt]];rw[qaZ Y];omega
  show (if c=e then _ else _ / S.p)=_;rw[iFN D,Q,qga _ (by omega)];rfl
def Good.piv {S:Tb} (h:Good P S) {r e:Nat} (K:e<P.n) (q:r<P.m) (hq:0<S.T r e):Good P (piv S r e):=by
 refine⟨hq,?_,piv_eq h K q,piv_goal h K q⟩;show S.T r e=_;rw[h.entry (by omega) q];refine congrArg _ ?_
 funext i
 unfold basis;by_cases hi:i=r
 ·rw[hi,upd_same]
  show colV P S e=P.A (if r=r then _ else _);rw[iFP U];exact iFP K
 ·rw[upd_ne hi]
  show _=P.A (if i=r then _ else _);rw[iFN hi]
def lexP (M:Nat) (v:Nat->Int):Prop:=∃ j,j<M/\0<v j/\∀ l,l<j->v l=0
def lexP_congr {M:Nat}{v w:Nat->Int} (h:∀ s,s<M->v s=w s) (F:lexP M v):lexP M w:=by
 obtain⟨j,q,A,u⟩:=F;exact⟨j,q,by rw[<-h j q];exact A,λl z=>by rw[<-h l (by omega)];exact u l z⟩
def lexP_mul {M:Nat}{v:Nat->Int}{c:Int} (C:0<c) (F:lexP M v):lexP M λs=>c*v s:=by
 obtain⟨j,q,A,u⟩:=F;exact⟨j,q,qjC C A,λl z=>by show c*v l=0;rw[u l z,qa3]⟩
def lexP_unmul {M:Nat}{v:Nat->Int}{c:Int} (C:0<c) (F:lexP M λs=>c*v s):lexP M v:=by
 obtain⟨j,q,A,u⟩:=F;have h2':0<v j*c:=by rw[qaZ];exact A
 refine⟨j,q,Int.pos_of_mul_pos_left h2' C,λl z=>?_⟩
 have:=u l z
 rcases qcm.mp this with h|h
 ·omega
 ·exact h
def lexP_add {M:Nat}{v w:Nat->Int} (F:lexP M v) (hw:lexP M w):lexP M λs=>v s+w s:=by
 obtain⟨j,q,A,u⟩:=F;obtain⟨k,W,k2,X⟩:=hw;rcases Nat.lt_trichotomy j k with h|h|h
 ·exact⟨j,q,by show 0<v j+w j;rw[X j h];omega,λl z=>by show v l+w l=0;rw[u l z,X l (by omega)];rfl⟩
 ·subst h
  exact⟨j,q,by show 0<v j+w j;omega,λl z=>by show v l+w l=0;rw[u l z,X l z];rfl⟩
 ·exact⟨k,W,by show 0<v k+w k;rw[u k h];omega,λl z=>by show v l+w l=0;rw[u l (by omega),X l z];rfl⟩
def lexP_addn {M:Nat}{v w:Nat->Int}{c:Int} (C:0<=c) (F:lexP M v) (hw:lexP M w):lexP M λs=>v s+c*w s:=by
 rcases qdT C with h|h
 ·exact lexP_add F (lexP_mul h hw)
 ·subst h
  exact lexP_congr (λs _=>by rw[qbW,qdV]) F
def lexP_not0 {M:Nat}{v:Nat->Int} (h:∀ s,s<M->v s=0):¬ lexP M v:=λ⟨j,q,A,_⟩=>by rw[h j q]at A;omega
def lexP_first {M:Nat}{v:Nat->Int} (hM:0<M) (h:lexP M v):0<=v 0:=by
 obtain⟨j,q,A,u⟩:=h;rcases Nat.eq_zero_or_pos j with e|e
 ·subst e;omega
 ·rw[u 0 e];exact qcE _
variable (P:Pb)
def XV (s:Nat):Vec:=if s=0 then P.b else unit (s - 1)
def LV (S:Tb) (i s:Nat):Int:=det P.m (upd (basis P S) i (XV P s))
def ZV (S:Tb) (s:Nat):Int:=sumN P.m λi=>P.g (S.kept i)*LV P S i s
structure Named (S:Tb):Prop where
 one:∀ r,r<P.m->P.A (P.n+r)=unit r
 all:∀ k,k<P.n+P.m->(∃ c,c<P.n/\S.free c=k)\/∃ i,i<P.m/\S.kept i=k
 bound:(∀ c,c<P.n->S.free c<P.n+P.m)/\∀ i,i<P.m->S.kept i<P.n+P.m
def Fe (S:Tb):Prop:=∀ i,i<P.m->lexP (P.m+1) (LV P S i)
variable {P}
def Good.rep_free {S:Tb} (h:Good P S) {c:Nat} (C:c<=P.n) (t:Nat):S.p*colV P S c t=sumN P.m λi=>det P.m (upd (basis P S) i (colV P S c))*P.A (S.kept i) t:=by
 rw[h.eq c C t];exact sumN_congr λi hi=>by rw[h.entry C hi]
def det_kept {S:Tb} (h:Good P S) {i j:Nat} (hi:i<P.m) (I:j<P.m):det P.m (upd (basis P S) i (basis P S j))=if i=j then S.p else 0:=by
 by_cases e:i=j
 ·subst e;rw[upd_self,iFP U,h.dt]
 ·rw[iFN e]
  exact det_eq0 _ hi I e (by rw[upd_same,upd_ne (qbL e)])
def Good.rep_kept {S:Tb} (h:Good P S) {j:Nat} (I:j<P.m) (t:Nat):S.p*P.A (S.kept j) t=sumN P.m λi=>det P.m (upd (basis P S) i (P.A (S.kept j)))*P.A (S.kept i) t:=by
 rw[sumN_single I λi hi O=>?_]
 ·have:=det_kept h I I
  rw[iFP U]at this;have e:det P.m (upd _ j (P.A _))=S.p:=this;rw[e]
 ·have:=det_kept h hi I
  rw[iFN O]at this;have e:det P.m (upd _ i (P.A _))=0:=this;rw[e,qbW]
def Good.rep {S:Tb} (h:Good P S) (hn:Named P S) {s:Nat} (E:s<P.m+1) (t:Nat):S.p*XV P s t=sumN P.m λi=>LV P S i s*P.A (S.kept i) t:=by
 unfold LV;by_cases h0:s=0
 ·subst h0
  have e:XV P 0=colV P S P.n:=by unfold XV colV;rw[iFP U,iFN (qa9 _)]
  rw[e];exact h.rep_free (qap _) t
 ·have e:XV P s=P.A (P.n+(s - 1)):=by unfold XV;rw[iFN h0,hn.one _ (by omega)]
  rw[e];rcases hn.all (P.n+(s - 1)) (by omega) with⟨c,C,D⟩|⟨j,I,D⟩
  ·have H:P.A (P.n+(s - 1))=colV P S c:=by unfold colV;rw[iFP C,D]
   rw[H];exact h.rep_free (by omega) t
  ·rw[<-D]
   exact h.rep_kept I t
def piv_basis {S:Tb}{r e:Nat} (o:e<P.n):basis P (piv S r e)=upd (basis P S) r (colV P S e):=by
 funext i
 unfold basis;by_cases hi:i=r
 ·rw[hi,upd_same]
  show P.A (if r=r then _ else _)=colV P S e;rw[iFP U];exact (iFP o).symm
 ·rw[upd_ne hi]
  show P.A (if i=r then _ else _)=_;rw[iFN hi]
def LV_r {S:Tb}{r e s:Nat} (o:e<P.n):LV P (piv S r e) r s=LV P S r s:=by
 unfold LV;rw[piv_basis o,upd_upd]
def LV_i {S:Tb} (h:Good P S) (hn:Named P S) {r e s i:Nat} (o:e<P.n) (E:s<P.m+1) (hi:i<P.m) (n:r<P.m) (d:i≠r):S.p*LV P (piv S r e) i s=S.T r e*LV P S i s - S.T i e*LV P S r s:=by
 unfold LV;rw[piv_basis o];exact cramer2 _ _ _ S.p h.dt (by have:=h.pos;omega) _ _ (λt=>h.eq e (by omega) t) (λt=>h.rep hn E t) hi n d
def ZV_piv {S:Tb} (h:Good P S) (hn:Named P S) {r e s:Nat} (o:e<P.n) (E:s<P.m+1) (n:r<P.m):S.p*ZV P (piv S r e) s=S.T r e*ZV P S s - S.G e*LV P S r s:=by
 have hE:=h.goal e (by omega);have gE:gainC P S e=P.g _:=iFP o;rw[gE,sumN_split n]at hE;unfold ZV;have kr:(piv S r e).kept r=S.free e:=iFP U;have kn:∀ i,i≠r->(piv S r e).kept i=S.kept i:=λi hi=>iFN hi;rw[sumN_split n,kr,LV_r o,qcp];have t2:S.p*(sumN P.m λk=>if k=r then 0 else P.g ((piv S r e).kept k)*LV P (piv S r e) k s)=(sumN P.m λk=>S.T r e*(if k=r then 0 else P.g (S.kept k)*LV P S k s)) - sumN P.m λk=>LV P S r s*(if k=r then 0 else P.g (S.kept k)*S.T k e):=by
  rw[<-sumN_mul,<-sumN_sub];refine sumN_congr λk D=>?_;by_cases p:k=r
  ·rw[iFP p,iFP p,iFP p];simp
  ·rw[iFN p,iFN p,iFN p,kn k p,qaT,LV_i h hn o E D n p,qcD]
   rw[qaT,qaZ (S.T k e),qaT (LV P S r s)]
 rw[t2,sumN_mul,sumN_mul,sumN_split n (λi=>P.g _*LV P S i s),hE];generalize (sumN P.m λk=>if k=r then 0 else P.g _*S.T k e)=Y;generalize LV P S r s=L;rw[qfO,qef,qcp];rw[show S.T r e*(P.g _*L)=P.g _*S.T r e*L by rw[qaT,qbt]];rw[show S.p*_=S.p*P.g _*L by rw[qbt]];rw[qaZ Y];omega
def less (P:Pb) (S S':Tb):Prop:=lexP (P.m+1) λs=>S.p*ZV P S' s - S'.p*ZV P S s
def less_trans {S1 S2 S3:Tb} (q:0<S1.p) (A:0<S2.p) (u:0<S3.p) (a:less P S1 S2) (b:less P S2 S3):less P S1 S3:=by
 refine lexP_unmul A (lexP_congr (λs _=>?_) (lexP_add (lexP_mul q b) (lexP_mul u a)));generalize ZV P S1 s=x;generalize ZV P S2 s=y;rw[qcD,qcD,qcD];rw[show S1.p*(S3.p*y)=S3.p*_ by rw[qaT],show S1.p*_=S2.p*_ by rw[qaT],show S3.p*(S2.p*x)=S2.p*_ by rw[qaT]];omega
def same_kept {S S':Tb} (h:Good P S) (h':Good P S') (e:∀ i,i<P.m->S.kept i=S'.kept i):S.p=S'.p/\∀ s,ZV P S s=ZV P S' s:=by
 have hb:∀ i,i<P.m->basis P S i=basis P S' i:=λi hi=>by unfold basis;rw[e i hi]
 have hL:∀ i s,i<P.m->LV P S i s=LV P S' i s:=λi s hi=>by
  refine det_congr P.m λk t D _=>?_;by_cases K:k=i
  ·rw[K,upd_same,upd_same]
  ·rw[upd_ne K,upd_ne K,hb k D]
 refine⟨?_,λs=>?_⟩
 ·rw[h.dt,h'.dt]
  exact det_congr P.m λk t D _=>by rw[hb k D]
 ·exact sumN_congr λi hi=>by rw[e i hi,hL i s hi]
def less_kept {S S':Tb} (h:Good P S) (h':Good P S') (l:less P S S'):¬ ∀ i,i<P.m->S.kept i=S'.kept i:=λe=>by
 obtain⟨G,H⟩:=same_kept h h' e;refine lexP_not0 (λs _=>?_) l;rw[G,H s];omega
def lines_unlike {S:Tb} (h:Good P S) (hA:∀ i,i<P.m->∀ t,P.m<=t->P.A (S.kept i) t=0) {i r:Nat} (hi:i<P.m) (n:r<P.m) (d:i≠r) {a b:Int} (ha:0<a) (E:∀ s,s<P.m+1->a*LV P S i s=b*LV P S r s):False:=by
 have V:∀ k,k<P.m->det P.m _=sumN P.m λs=>basis P S i s*LV P S k (s+1):=λk D=>by
  have e:basis P S i=λt=>sumN P.m λs=>basis P S i s*unit s t:=by
   funext t
   by_cases ht:t<P.m
   ·rw[sumN_single ht λs _ O=>by unfold unit;rw[iFN (qbL O),qa3]]
    unfold unit;rw[iFP U,qdb]
   ·rw[sumN_congr λs T=>by unfold unit;rw[iFN (by omega),qa3],sumN_zero]
    exact hA i hi t (by omega)
  have H:=det_sum (basis P S) D (λs=>basis P S i s) unit P.m;rw[<-e]at H;rw[H];refine sumN_congr λs T=>?_;unfold LV XV;rw[iFN (by omega),qcI]
 have W:=V i hi;have k2:=V r n;rw[det_kept h hi hi,iFP U]at W;rw[det_kept h n hi,iFN (qbL d)]at k2
 have:a*S.p=b*0:=by
  rw[W,k2,<-sumN_mul,<-sumN_mul];refine sumN_congr λs T=>?_;rw[qaT,E _ (by omega),qaT]
 have:=qjC ha h.pos
 omega
def Named.piv {S:Tb} (hn:Named P S) {r e:Nat} (o:e<P.n) (n:r<P.m):Named P (piv S r e):=by
 refine⟨hn.one,λk D=>?_,λc C=>?_,λi hi=>?_⟩
 ·rcases hn.all k D with⟨c,C,G⟩|⟨i,hi,G⟩
  ·by_cases Q:c=e
   ·subst Q;exact .inr ⟨r,n,by show (if r=r then _ else _)=_;rw[iFP U];exact G⟩
   ·exact .inl ⟨c,C,by show (if c=e then _ else _)=_;rw[iFN Q];exact G⟩
  ·by_cases d:i=r
   ·subst d;exact .inl ⟨e,o,by show (if e=e then _ else _)=_;rw[iFP U];exact G⟩
   ·exact .inr ⟨i,hi,by show (if i=r then _ else _)=_;rw[iFN d];exact G⟩
 ·show (if c=e then _ else _)<_
  split
  ·exact hn.bound.2 r n
  ·exact hn.bound.1 c C
 ·show (if i=r then _ else _)<_
  split
  ·exact hn.bound.1 e o
  ·exact hn.bound.2 i hi
def step {S:Tb} (h:Good P S) (hn:Named P S) (J:Fe P S) {r e:Nat} (o:e<P.n) (n:r<P.m) (hq:0<S.T r e) (hg:S.G e<0)
  (R:∀ i,i<P.m->i≠r->0<S.T i e->lexP (P.m+1) λs=>S.T r e*LV P S i s - S.T i e*LV P S r s) :
  Good P (piv S r e)/\Named P (piv S r e)/\Fe P (piv S r e)/\less P S (piv S r e):=by
 refine⟨h.piv o n hq,hn.piv o n,λi hi=>?_,?_⟩
 ·by_cases d:i=r
  ·subst d
   exact lexP_congr (λs _=>(LV_r o).symm) (J i hi)
  ·refine lexP_unmul h.pos (lexP_congr (λs E=>(LV_i h hn o E hi n d).symm) ?_)
   by_cases ht:0<S.T i e
   ·exact R i hi d ht
   ·refine lexP_congr (λs _=>?_) (lexP_addn (c:=- S.T i e) (by omega) (lexP_mul hq (J i hi)) (J r n))
    rw[qdx];omega
 ·refine lexP_congr (λs E=>?_) (lexP_mul (c:=- S.G e) (by omega) (J r n))
  show - S.G e*LV P S r s=S.p*ZV P _ s - S.T r e*ZV P S s;rw[ZV_piv h hn o E n,qdx];omega
def filt_len (N:Nat):∀ l:List Nat,(l.filter λx=>decide (x=N)).length+(l.filter λx=>decide (x≠N)).length=l.length
 |[]=>rfl
 |x::l=>by
  have ih:=filt_len N l;by_cases h:x=N
  ·rw[qd9 (by simpa using h),qea (by simpa using h),qan,qan];omega
  ·rw[qea (by simpa using h),qd9 (by simpa using h),qan,qan];omega
def nodup_le:∀ (N:Nat) (l:List Nat),l.Nodup->(∀ x∈l,x<N)->l.length<=N:=by
 intro N
 induction N with
 |zero=>
  intro l _ h;cases l with
  |nil=>exact qap _
  |cons x l=>exact absurd (h x qaf) (by omega)
 |succ N ih=>
  intro l z h;have q:=ih (l.filter λx=>decide (x≠N)) (z.filter _) λx hx=>by
   have:=qcj.mp hx
   have A:=h x this.1;have u:=by simpa using this.2
   omega
  have A:(l.filter λx=>decide (x=N)).length<=1:=by
   have hn:=z.filter λx=>decide (x=N);have B:∀ x∈l.filter (λx=>decide (x=N)),x=N:=λx hx=>by simpa using (qcj.mp hx).2
   match l.filter _,hn,B with
   |[],_,_=>exact qcl _
   |[x],_,_=>exact qap _
   |x::y::r,hn,B=>
    exact absurd ((B x qaf).trans (B y (qak _ qaf)).symm) ((qbo.mp hn).1 y qaf)
  have u:=filt_len N l;omega
def code (b:Nat) (f:Nat->Nat):Nat->Nat
 |0=>0
 |m+1=>code b f m*b+f m
def code_lt {b:Nat}{f:Nat->Nat}:∀ {m:Nat},(∀ i,i<m->f i<b)->code b f m<b^m
 |0,_=>Nat.one_pos
 |m+1,h=>by
  have q:=h m (by omega)
  calc code b f m*b+f m<code b f m*b+b:=by omega
   _=(code b f m+1)*b:=by rw[qjA,qjz]
   _<=b^m*b:=qcx b (code_lt λi hi=>h i (by omega))
def code_inj {b:Nat}{f g:Nat->Nat}:∀ {m:Nat},(∀ i,i<m->f i<b)->(∀ i,i<m->g i<b)->code b f m=code b g m->∀ i,i<m->f i=g i
 |0,_,_,_,i,hi=>absurd hi (by omega)
 |m+1,J,hg,e,i,hi=>by
  rw[code,code]at e;have A:=hg m (by omega);have G:=by
   have:=congrArg (·%b) e
   simp only[Nat.mul_add_mod_self_right]at this;rw[qhB (J m (by omega)),qhB A]at this;exact this
  have H:code b f m=code b g m:=by
   exact Nat.eq_of_mul_eq_mul_right (by omega:0<b) (by omega)
  by_cases him:i=m
  ·rw[him];exact G
  ·exact code_inj (λi hi=>J i (by omega)) (λi hi=>hg i (by omega)) H i (by omega)
def leastR (tops bots:Nat->Int):List Nat->List Nat->List Nat
 |[],least=>least
 |p::ps,[]=>leastR tops bots ps [p]
 |p::ps,m::r=>if tops p*bots m > tops m*bots p then leastR tops bots ps (m::r) else if tops p*bots m<tops m*bots p then leastR tops bots ps [p] else leastR tops bots ps ((m::r)++[p])
structure Least (tops bots:Nat->Int) (ps out:List Nat):Prop where
 ne:ps≠[]->out≠[]
 sub:∀ x∈out,x∈ps
 nd:ps.Nodup->out.Nodup
 eq:∀ x∈out,∀ y∈out,tops x*bots y=tops y*bots x
 lt:∀ x∈out,∀ y∈ps,y∉out->tops x*bots y<tops y*bots x
def ratio_lt {a b c p q r:Int} (Y:0<p) (hq:0<q) (Q:0<r) (A:a*q<b*p) (O:b*r<=c*q):a*r<c*p:=by
 have z:=qdL A Q;have e2:b*r*p<=c*q*p:=qfm O (by omega);rw[qbs b p r]at z;have e3:a*r*q<c*p*q:=by rw[qbs a r q,qbs c p q];omega
 exact qdQ e3 (by omega)
def leastR_ok {tops bots:Nat->Int}:∀ (ps done least:List Nat),(∀ x∈done++ps,0<bots x)->(done++ps).Nodup->Least tops bots done least->Least tops bots (done++ps) (leastR tops bots ps least):=by
 intro ps
 induction ps with
 |nil=>intro done least _ _ h;rw[qb0];cases least<;>exact h
 |cons p ps B=>
  intro done least hb n h;have Y:=hb p (qau _ qaf);have hpd:=λhm=>by
   rw[qcy]at n;exact n.2.2 p hm p qaf U
  have e:done++p::ps=(done++[p])++ps:=by simp
  have K:=(qcy.mp n).1;rw[e]at hb n ⊢;cases least with
  |nil=>
   have hd:done=[]:=by
    cases done with
    |nil=>rfl
    |cons x d=>exact absurd U (h.ne (by simp))
   subst hd;refine B _ _ hb n ⟨λ_=>by simp,λx f=>by simpa using f,λ_=>by simp,λx f y g=>?_,λx f y g hn=>absurd (by simpa using g) (by simpa using hn)⟩;rw[qao.mp f,qao.mp g]
  |cons m r=>
   have u:m∈m::r:=qaf;have X:=hb m (qaX _ (qaX _ (h.sub m u)));have E:=λy g=>hb y (qaX _ (qaX _ g));rw[leastR];by_cases c1:tops p*bots m > tops m*bots p
   ·rw[iFP c1]
    refine B _ _ hb n ⟨λ_=>by simp,λx f=>qaX _ (h.sub x f),λ_=>h.nd K,h.eq,λx f y g hn=>?_⟩;rcases qaS.mp g with g|g
    ·exact h.lt x f y g hn
    ·rw[qao.mp g]
     exact Int.lt_of_lt_of_le (by
      have z:tops x*bots m*bots p=tops m*bots p*bots x:=by rw[<-(h.eq m u x f),qbs]
      have e3:tops x*bots p*bots m<tops p*bots x*bots m:=by rw[qbs,z,qbs (tops p)];exact (qdL c1 (E x (h.sub x f)))
      exact qdQ e3 (by omega)) (qcE _)
   ·rw[iFN c1]
    by_cases c2:tops p*bots m<tops m*bots p
    ·rw[iFP c2]
     refine B _ _ hb n ⟨λ_=>by simp,λx f=>by rw[qao.mp f];simp,λ_=>by simp,λx f y g=>by rw[qao.mp f,qao.mp g],λx f y g hn=>?_⟩;rw[qao.mp f];rcases qaS.mp g with g|g
     ·have hle:tops m*bots y<=tops y*bots m:=by
       by_cases hm:y∈m::r
       ·exact Int.le_of_eq (h.eq m u y hm)
       ·exact qgC (h.lt m u y g hm)
      exact ratio_lt Y X (E y g) c2 hle
     ·exact absurd (by simpa using g) (by simpa using hn)
    ·rw[iFN c2]
     have H:tops p*bots m=tops m*bots p:=by omega
     have I:=λx f=>by
      have z:tops p*bots x*bots m=tops x*bots p*bots m:=by
       rw[qbs,H,qbs,(h.eq m u x f),qbs]
      exact qfX (by omega) z
     refine B _ _ hb n ⟨λ_=>by simp,λx f=>?_,λ_=>?_,λx f y g=>?_,λx f y g hn=>?_⟩
     ·rcases qaS.mp f with f|f
      ·exact qaX _ (h.sub x f)
      ·exact qau _ f
     ·rw[qcy]
      refine⟨h.nd K,by simp,λx f y g e=>?_⟩;rw[qao.mp g]at e;rw[e]at f;exact hpd (h.sub p f)
     ·rcases qaS.mp f with f|f<;>rcases qaS.mp g with g|g
      ·exact h.eq x f y g
      ·rw[qao.mp g];exact (I x f).symm
      ·rw[qao.mp f];exact I y g
      ·rw[qao.mp f,qao.mp g]
     ·have D:y∈done:=by
       rcases qaS.mp g with g|g
       ·exact g
       ·exact absurd (qau _ g) hn
      have J:=λhm=>hn (qaX _ hm);rcases qaS.mp f with f|f
      ·exact h.lt x f y D J
      ·rw[qao.mp f]
       have z:tops p*bots y*bots m<tops y*bots p*bots m:=by
        rw[qbs,H,qbs _,qbs (tops y)];exact qdL (h.lt m u y D J) Y
       exact qdQ z (by omega)
def least_of {tops bots:Nat->Int}{ps:List Nat} (hb:∀ x∈ps,0<bots x) (n:ps.Nodup):Least tops bots ps (leastR tops bots ps []):=by
 simpa using (leastR_ok ps [] [] (by simpa using hb) (by simpa using n) ⟨λh=>absurd U h,λx f=>(nomatch f),λ_=>qcW,λx f=>(nomatch f),λx f=>(nomatch f)⟩)
def leaveL (W:Nat->Nat->Int) (bots:Nat->Int):List Nat->List Nat->List Nat
 |[],ps=>ps
 |s::ss,ps=>if ps.length<2 then ps else leaveL W bots ss (leastR (W s) bots ps [])
structure Lv (W:Nat->Nat->Int) (bots:Nat->Int) (C:List Nat) (s:Nat) (ps:List Nat):Prop where
 ne:ps≠[]
 nd:ps.Nodup
 sub:∀ x∈ps,x∈C
 eq:∀ x∈ps,∀ y∈ps,∀ l,l<s->bots x*W l y - bots y*W l x=0
 lt:∀ x∈ps,∀ y∈C,y∉ps->lexP s λl=>bots x*W l y - bots y*W l x
def lexP_mono {M N:Nat}{v:Nat->Int} (h:M<=N) (hv:lexP M v):lexP N v:=let ⟨j,A,O,o⟩:=hv;⟨j,by omega,O,o⟩
def Lv.step {W:Nat->Nat->Int}{bots:Nat->Int}{C ps:List Nat}{s:Nat} (hb:∀ x∈C,0<bots x) (h:Lv W bots C s ps):Lv W bots C (s+1) (leastR (W s) bots ps []):=by
 have L:=least_of (tops:=W s) (λx f=>hb x (h.sub x f)) h.nd;refine⟨L.ne h.ne,L.nd h.nd,λx f=>h.sub x (L.sub x f),λx f y g l w=>?_,λx f y g hn=>?_⟩
 ·rcases qfi l s with A|A
  ·exact h.eq x (L.sub x f) y (L.sub y g) l A
  ·have:l=s:=by omega
   subst this
   have:=L.eq y g x f
   rw[qaZ _,qaZ (bots y)];omega
 ·by_cases hm:y∈ps
  ·have w:=L.lt x f y hm hn
   refine⟨s,by omega,?_,λl R=>h.eq x (L.sub x f) y hm l R⟩;show 0<bots x*W s y - bots y*W s x;rw[qaZ _,qaZ (bots y)];omega
  ·exact lexP_mono (by omega) (h.lt x (L.sub x f) y g hm)
def leaveL_ok {W:Nat->Nat->Int}{bots:Nat->Int}{C:List Nat} (hb:∀ x∈C,0<bots x):∀ (k s:Nat) (ps:List Nat),Lv W bots C s ps->∃ s',s<=s'/\s'<=s+k/\Lv W bots C s' (leaveL W bots ((qam k).map λj=>s+j) ps)/\(s'<s+k->(leaveL W bots ((qam k).map λj=>s+j) ps).length<2):=by
 intro k
 induction k with
 |zero=>intro s ps h;exact⟨s,qap _,qap _,h,λh=>absurd h (by omega)⟩
 |succ k B=>
  intro s ps h;have e:(qam (k+1)).map (λj=>s+j)=s::(qam k).map λj=>(s+1)+j:=by
   rw[qdp,qar,qaO]
   congr 1
   refine qck λj _=>?_;show s+_=_;omega
  rw[e,leaveL];by_cases w:ps.length<2
  ·rw[iFP w]
   exact⟨s,qap _,by omega,h,λ_=>w⟩
  ·rw[iFN w]
   obtain⟨s',A,O,o,T⟩:=B _ _ (h.step hb);exact⟨s',by omega,by omega,o,λh=>T (by omega)⟩
variable {P:Pb}
def leaving_ok {S:Tb} (h:Good P S) (hA:∀ i,i<P.m->∀ t,P.m<=t->P.A (S.kept i) t=0) {e:Nat}{C:List Nat} (G:∀ i,i∈C↔i<P.m/\0<S.T i e) (hn:C.Nodup) (V:C≠[]) :
  ∃ r,leaveL (λs i=>LV P S i s) (λi=>S.T i e) ((qam (P.m+1)).map λj=>0+j) C=[r]/\r<P.m/\0<S.T r e/\∀ i,i<P.m->i≠r->0<S.T i e->lexP (P.m+1) λs=>S.T r e*LV P S i s - S.T i e*LV P S r s:=by
 obtain⟨s',A,O,o,T⟩:=leaveL_ok (λx f=>((G x).mp f).2) _ 0 C ⟨V,hn,λx f=>f,λx _ y _ l w=>absurd w (by omega),λx _ y g hm=>absurd g hm⟩;generalize leaveL _ _ _ C=out at o T;have F:out.length<2:=by
  rcases qfi out.length 2 with w|w
  ·exact w
  ·exfalso
   match out,w,o with
   |x::y::r,_,o=>
    have f:=(G x).mp (o.sub x qaf)
    refine lines_unlike h hA ((G y).mp (o.sub y (qak _ qaf))).1 f.1 (qbL (λe=>by
     have:=(qbo.mp o.nd).1 y qaf
     exact this e)) (b:=S.T y e) f.2 λs hs'=>?_
    have:=o.eq x qaf y (qak _ qaf) s (by omega)
    omega
 match out,F,o with
 |[],_,o=>exact absurd U o.ne
 |[r],_,o=>
  have Q:=(G r).mp (o.sub r qaf);refine⟨r,U,Q.1,Q.2,λi hi hir hT=>?_⟩;exact lexP_mono (by omega) (o.lt r qaf i ((G i).mpr ⟨hi,hT⟩) (by simpa using hir))
variable {P:Pb}
def sumN_swap (n m:Nat) (f:Nat->Nat->Int):(sumN n λi=>sumN m λk=>f i k)=sumN m λk=>sumN n λi=>f i k:=by
 induction n with
 |zero=>exact (sumN_zero m).symm
 |succ n J=>
  rw[sumN,J];rw[<-sumN_add];rfl
def sumN_nonneg {n:Nat}{f:Nat->Int} (h:∀ k,k<n->0<=f k):0<=sumN n f:=by
 induction n with
 |zero=>exact qcE _
 |succ n J=>rw[sumN];have:=J λk q=>h k (by omega);have:=h n (by omega);omega
def sumN_append (a b:Nat) (f:Nat->Int):sumN (a+b) f=sumN a f+sumN b λk=>f (a+k):=by
 induction b with
 |zero=>rw[sumN];simp
 |succ b J=>rw[<-Nat.add_assoc,sumN,sumN];omega
def sumN_right (n:Nat) (c:Int) (f:Nat->Int):sumN n (λk=>f k*c)=sumN n f*c:=by
 rw[qaZ,<-sumN_mul];exact sumN_congr λk _=>qaZ _ _
def byName (P:Pb) (S:Tb) (y:Nat->Int) (k:Nat):Int:=sumN P.m λi=>if S.kept i=k then y i else 0
def byName_sum (S:Tb) (y:Nat->Int) {N:Nat} (hN:∀ i,i<P.m->S.kept i<N) (f:Nat->Int):(sumN N λk=>byName P S y k*f k)=sumN P.m λi=>y i*f (S.kept i):=by
 have e:(sumN N λk=>byName P S y k*f k)=sumN N λk=>sumN P.m λi=>_*f k:=sumN_congr λk _=>(sumN_right _ _ _).symm;rw[e,sumN_swap];refine sumN_congr λi hi=>?_;rw[sumN_single (hN i hi) λk _ g=>by rw[iFN (qbL g),qbW],iFP U]
def byName_nonneg {S:Tb}{y:Nat->Int} (h:∀ i,i<P.m->0<=y i) (k:Nat):0<=byName P S y k:=sumN_nonneg λi hi=>by split;exact h i hi;exact qcE _
def byName_at {S:Tb}{y:Nat->Int} (E:∀ i j,i<P.m->j<P.m->S.kept i=S.kept j->i=j) {i:Nat} (hi:i<P.m):byName P S y (S.kept i)=y i:=by
 unfold byName;rw[sumN_single hi λj H g=>iFN λe=>g (E j i H hi e),iFP U]
def byName_not {S:Tb}{y:Nat->Int}{k:Nat} (h:∀ i,i<P.m->S.kept i≠k):byName P S y k=0:=by
 unfold byName;rw[sumN_congr λi hi=>iFN (h i hi),sumN_zero]
def unit_sum {m:Nat}{v:Vec}{r:Nat} (u:r<m):(sumN m λk=>v k*unit k r)=v r:=by
 rw[sumN_single u λk _ g=>by unfold unit;rw[iFN (qbL g),qa3]];unfold unit;rw[iFP U,qdb]
def amounts_ok {S:Tb} (h:Good P S) (hn:Named P S) (M:∀ i,i<P.m->0<=S.T i P.n) {r:Nat} (u:r<P.m):(sumN P.n λj=>byName P S (λi=>S.T i P.n) j*P.A j r)<=S.p*P.b r:=by
 have z:=h.eq P.n (qap _) r;have c1:colV P S P.n=P.b:=by unfold colV;rw[iFN (qa9 _)]
 rw[c1]at z;have o:=byName_sum S (λi=>S.T i P.n) hn.bound.2 λk=>P.A k r;rw[sumN_append]at o;have e3:(sumN P.m λk=>byName P S (λi=>S.T i P.n) (P.n+k)*P.A (P.n+k) r)=byName P S (λi=>S.T i P.n) (P.n+r):=by
  rw[sumN_congr λk q=>by rw[hn.one k q]];exact unit_sum u
 have e4:=byName_nonneg (S:=S) M (P.n+r);omega
def gains_amounts {S:Tb} (h:Good P S) (hn:Named P S) (hg:∀ r,r<P.m->P.g (P.n+r)=0):(sumN P.n λj=>byName P S (λi=>S.T i P.n) j*P.g j)=S.G P.n:=by
 have o:=byName_sum S (λi=>S.T i P.n) hn.bound.2 P.g;rw[sumN_append,sumN_congr (n:=P.m) λk q=>by rw[hg k q,qa3],sumN_zero,qdV]at o;rw[o,h.goal P.n (qap _)]
 have:gainC P S P.n=0:=by unfold gainC;rw[iFN (qa9 _)]
 rw[this,qa3,qgB];exact sumN_congr λi _=>qaZ _ _
def det_by_units {S:Tb}{v:Vec} (W:∀ t,P.m<=t->v t=0) {i:Nat} (hi:i<P.m):det P.m (upd (basis P S) i v)=sumN P.m λs=>v s*LV P S i (s+1):=by
 have e:=by
  funext t
  by_cases x:t<P.m
  ·exact (unit_sum (v:=v) x).symm
  ·rw[sumN_congr λs R=>by unfold unit;rw[iFN (by omega),qa3],sumN_zero]
   exact W t (by omega)
 have o:=det_sum (basis P S) hi (λs=>v s) unit P.m;rw[<-e]at o;rw[o];refine sumN_congr λs R=>?_;unfold LV XV;rw[iFN (by omega),qcI]
def prices_col {S:Tb}{v:Vec} (W:∀ t,P.m<=t->v t=0):(sumN P.m λr=>v r*ZV P S (r+1))=sumN P.m λi=>P.g (S.kept i)*det P.m (upd (basis P S) i v):=by
 have e:(sumN P.m λr=>v r*ZV P S (r+1))=sumN P.m λr=>sumN P.m λi=>P.g _*_:=sumN_congr λr _=>by
  unfold ZV;rw[<-sumN_mul];exact sumN_congr λi _=>by rw[qaT]
 rw[e,sumN_swap];refine sumN_congr λi hi=>?_;rw[sumN_mul,det_by_units W hi]
def prices_ok {S:Tb} (h:Good P S) (hn:Named P S) (hA:∀ k,k<P.n+P.m->∀ t,P.m<=t->P.A k t=0) (K:∀ c,c<P.n->0<=S.G c) {j:Nat} (H:j<P.n):S.p*P.g j<=sumN P.m λr=>P.A j r*ZV P S (r+1):=by
 rw[prices_col (hA j (by omega))];rcases hn.all j (by omega) with⟨c,w,e⟩|⟨i,hi,e⟩
 ·have z:=h.goal c (by omega)
  have F:gainC P S c=P.g j:=by unfold gainC;rw[iFP w,e]
  have c1:colV P S c=P.A j:=by unfold colV;rw[iFP w,e]
  rw[F]at z;rw[(sumN_congr λi hi=>by rw[<-c1,<-h.entry (by omega) hi])]
  have:=K c w
  omega
 ·rw[sumN_single hi λk q g=>?_]
  ·have:=det_kept h hi hi
   rw[iFP U]at this;have o:det P.m (upd (basis P S) i (P.A j))=S.p:=by rw[<-e];exact this
   rw[o,e,qaZ];exact qcE _
  ·have:=det_kept h q hi
   rw[iFN g]at this;have o:det P.m (upd (basis P S) k (P.A j))=0:=by rw[<-e];exact this
   rw[o,qa3]
def bounds_prices {S:Tb} (h:Good P S) (hb:∀ t,P.m<=t->P.b t=0):(sumN P.m λr=>P.b r*ZV P S (r+1))=S.G P.n:=by
 have c1:colV P S P.n=P.b:=by unfold colV;rw[iFN (qa9 _)]
 have:gainC P S P.n=0:=by unfold gainC;rw[iFN (qa9 _)]
 rw[prices_col hb,h.goal P.n (qap _),this,qa3,qgB];exact sumN_congr λi hi=>by rw[h.entry (qap _) hi,c1]
def price_free {S:Tb} (h:Good P S) (hn:Named P S) (hg:∀ r,r<P.m->P.g (P.n+r)=0) {r c:Nat} (u:r<P.m) (w:c<P.n) (e:S.free c=P.n+r):ZV P S (r+1)=S.G c:=by
 have F:gainC P S c=0:=by unfold gainC;rw[iFP w,e,hg r u]
 have c1:colV P S c=unit r:=by unfold colV;rw[iFP w,e,hn.one r u]
 rw[h.goal c (by omega),F,qa3,qgB];refine sumN_congr λi hi=>?_;rw[h.entry (by omega) hi,c1];unfold LV XV;rw[iFN (by omega),qcI]
def price_kept {S:Tb} (h:Good P S) (hn:Named P S) (hg:∀ r,r<P.m->P.g (P.n+r)=0) {r j:Nat} (u:r<P.m) (H:j<P.m) (e:S.kept j=P.n+r):ZV P S (r+1)=0:=by
 unfold ZV;rw[sumN_single H λk q g=>?_]
 ·rw[e,hg r u,qbW]
 ·have:=det_kept h q H
  rw[iFN g]at this;have o:LV P S k (r+1)=0:=by
   unfold LV XV;rw[qcI,<-hn.one r u,<-e];exact this
  rw[o,qa3]
def wayN (P:Pb) (S:Tb) (e k:Nat):Int:=byName P S (λi=>- S.T i e) k+if S.free e=k then S.p else 0
def way_sum {S:Tb} (hn:Named P S) {e:Nat} (B:e<P.n) (f:Nat->Int):(sumN (P.n+P.m) λk=>wayN P S e k*f k)=S.p*f (S.free e) - sumN P.m λi=>S.T i e*f (S.kept i):=by
 have o:(sumN (P.n+P.m) λk=>(if S.free e=k then S.p else 0)*f k)=S.p*f (S.free e):=by
  rw[sumN_single (hn.bound.1 e B) λk _ g=>by rw[iFN (qbL g),qbW],iFP U]
 rw[(sumN_congr λk _=>by unfold wayN;rw[qef]),sumN_add,(byName_sum S _ hn.bound.2 f)];have e4:(sumN P.m λi=>- S.T i e*f (S.kept i))=- sumN P.m λi=>S.T i e*f (S.kept i):=by
  have:(sumN P.m λi=>- S.T i e*f (S.kept i))=sumN P.m λi=>(-1)*_:=sumN_congr λi _=>by rw[qdx,qdx,qda]
  rw[this,sumN_mul];omega
 omega
def way_nonneg {S:Tb} (h:Good P S) {e:Nat} (x:∀ i,i<P.m->S.T i e<=0) (k:Nat):0<=wayN P S e k:=by
 unfold wayN
 have:=byName_nonneg (S:=S) (λi hi=>by have:=x i hi;show 0<=- S.T i e;omega) k
 have:=h.pos
 split<;>omega
def way_rows {S:Tb} (h:Good P S) (hn:Named P S) {e:Nat} (B:e<P.n) (x:∀ i,i<P.m->S.T i e<=0) {r:Nat} (u:r<P.m):(sumN P.n λk=>wayN P S e k*P.A k r)<=0:=by
 have z:=way_sum hn B λk=>P.A k r;have o:=h.eq e (by omega) r;have c1:colV P S e=P.A (S.free e):=by unfold colV;rw[iFP B]
 rw[c1]at o;rw[sumN_append]at z;have e3:(sumN P.m λk=>wayN P S e (P.n+k)*P.A (P.n+k) r)=wayN P S e (P.n+r):=by
  rw[sumN_congr λk q=>by rw[hn.one k q]];exact unit_sum u
 have:=way_nonneg h x (P.n+r)
 omega
def way_gains {S:Tb} (h:Good P S) (hn:Named P S) (hg:∀ r,r<P.m->P.g (P.n+r)=0) {e:Nat} (B:e<P.n) (K:S.G e<0):0<sumN P.n λk=>wayN P S e k*P.g k:=by
 have z:=way_sum hn B P.g;rw[sumN_append,sumN_congr (n:=P.m) λk q=>by rw[hg k q,qa3],sumN_zero,qdV]at z;have o:=h.goal e (by omega);have F:gainC P S e=P.g (S.free e):=by unfold gainC;rw[iFP B]
 rw[F]at o;rw[z,(sumN_congr λi _=>qaZ _ _)];omega
def tb0 (P:Pb) (T:Nat->Nat->Int) (G:Nat->Int):Tb:=⟨1,λi=>P.n+i,λc=>c,T,G⟩
def good0 {T:Nat->Nat->Int}{G:Nat->Int} (O:∀ r,r<P.m->P.A (P.n+r)=unit r) (hA:∀ k,k<P.n->∀ t,P.m<=t->P.A k t=0) (hb:∀ t,P.m<=t->P.b t=0) (hg:∀ r,r<P.m->P.g (P.n+r)=0)
  (M:∀ i c,i<P.m->c<P.n->T i c=P.A c i) (hL:∀ i,i<P.m->T i P.n=P.b i) (K:∀ c,c<P.n->G c=- P.g c) (X:G P.n=0):Good P (tb0 P T G)/\Named P (tb0 P T G)/\((∀ t,t<P.m->0<=P.b t)->Fe P (tb0 P T G)):=by
 have A:∀ i,i<P.m->basis P (tb0 P T G) i=unit i:=λi hi=>O i hi;have C:det P.m (basis P (tb0 P T G))=1:=by
  rw[det_congr P.m λk t q _=>by rw[A k q],det_unit]
 have Y:∀ c,c<=P.n->∀ t,_*colV P (tb0 P T G) c t=sumN P.m λi=>T i c*P.A _ t:=λc w t=>by
  rw[qda,sumN_congr λi hi=>by rw[O i hi]];have I:∀ t',P.m<=t'->colV P (tb0 P T G) c t'=0:=λt' D=>by
   unfold colV;by_cases d:c<P.n
   ·rw[iFP d];exact hA c d t' D
   ·rw[iFN d];exact hb t' D
  by_cases x:t<P.m
  ·rw[unit_sum x]
   unfold colV;by_cases d:c<P.n
   ·rw[iFP d,M t c x d];rfl
   ·have:c=P.n:=by omega
    subst this;rw[iFN d,hL t x]
  ·rw[I t (by omega),sumN_congr λi hi=>by unfold unit;rw[iFN (by omega),qa3],sumN_zero]
 have p:Good P (tb0 P T G):=by
  refine⟨by show _<1;decide,C.symm,Y,λc w=>?_⟩;show G c=(sumN P.m λi=>P.g (P.n+i)*T i c) - 1*gainC P _ c;rw[sumN_congr λi hi=>by rw[hg i hi,qbW],sumN_zero];unfold gainC;by_cases d:c<P.n
  ·rw[iFP d,K c d]
   show - P.g c=0 - 1*P.g c;omega
  ·have:c=P.n:=by omega
   subst this;rw[iFN d,X];rfl
 refine⟨p,⟨O,λk q=>?_,λc w=>by show c<_;omega,λi hi=>by show P.n+i<_;omega⟩,λL i hi=>?_⟩
 ·by_cases Q:k<P.n
  ·exact .inl ⟨k,Q,U⟩
  ·exact .inr ⟨k - P.n,by omega,by show P.n+_=k;omega⟩
 ·have l0:LV P (tb0 P T G) i 0=P.b i:=by
   have e:=p.entry (qap _) hi;have c1:colV P (tb0 P T G) P.n=P.b:=by unfold colV;rw[iFN (qa9 _)]
   rw[c1]at e;unfold LV XV;rw[iFP U,<-e];exact hL i hi
  have ls:∀ s,s<P.m->LV P _ i _=if i=s then 1 else 0:=λs hs=>by
   have:=det_kept p hi hs
   unfold LV XV;rw[qcI,<-A s hs];exact this
  rcases qdT (L i hi) with V|V
  ·exact⟨0,by omega,by rw[l0];exact V,λl hl=>absurd hl (by omega)⟩
  ·refine⟨i+1,by omega,by rw[ls i hi,iFP U];decide,λl hl=>?_⟩
   cases l with
   |zero=>rw[l0,<-V]
   |succ l=>rw[ls l (by omega),iFN (by omega)]
end Sx
set_option maxHeartbeats 1000000
namespace Own
open PySem L2
open Sx (Pb Tb Good Named Fe LV ZV piv lexP leastR leaveL sumN unit colV basis)
def no {e:Ef}{z:Int}{m:Nat}{env:Ev}{st s:Sto} (a:e env st=some (.d (.int z),s)) (c:0<=z) (f:z<=1000) (hm:z.toNat=m):bB (aa e ac) env st=some (bK 0 m,s):=by
 have hb:-(2^62)<=z/\z<2^62:=⟨qfn (by decide) c,Int.lt_of_le_of_lt f (by decide)⟩;simp only[bB,(ab (b:=ac) a U),qaa,hb,and_self,if_true,hm]
def aZ {f:Ef}{env:Ev}{st s:Sto}{ds:List D} (h:f env st=some (.d (.lst ds),s)):aC f env st=some (ds,s):=by
 simp only[aC,h,qaa,cf,qah]
def bg {f:Ef}{env:Ev}{st s:Sto}{ds:List D} (h:f env st=some (.d (.tup ds),s)):aC f env st=some (ds,s):=by
 simp only[aC,h,qaa,cf,qah]
def nh {c:Tf}{a b:Ef}{env:Ev}{st s:Sto}{r:Option (W×Sto)} (h:c env st=some (true,s)) (d:a env s=r):eZ c a b env st=r:=by
 simp only[eZ,h,qaa,if_true,d]
def qF {c:Tf}{a b:Ef}{env:Ev}{st s:Sto}{r:Option (W×Sto)} (h:c env st=some (false,s)) (hb:b env s=r):eZ c a b env st=r:=by
 simp only[eZ,h,qaa,qa7,if_false,hb]
def BP (s:Sto) (ns:List Int):ma s [.d (.lst (ns.map D.int))]=some (.int ns.sum):=by
 show (aU _).map _=_;rw[bf];rfl
def dZ (s:Sto) (a b:Int):dEq s (.d (.int a)) (.d (.int b))=some (.bl (a==b)):=by
 rfl
def D3 (s:Sto) (a b:Str):dEq s (.d (.str a)) (.d (.str b))=some (.bl (a==b)):=by
 rfl
def eV (s:Sto) {a b:List D} (h:a.length+b.length<=1000000):be s (.d (.lst a)) (.d (.lst b))=some (.lst (a++b)):=iFP h
def xM (s:Sto) {a b:List D} (h:a.length+b.length<=1000000):be s (.d (.tup a)) (.d (.tup b))=some (.tup (a++b)):=iFP h
def mpI (n:Nat) (f:Nat->Int):List D:=(qam n).map λk=>D.int (f k)
def lnD (n:Nat) (T:Nat->Nat->Int) (i:Nat):D:=.lst (mpI (n+1) (T i))
def aR (m n:Nat) (T:Nat->Nat->Int):List D:=(qam m).map (lnD n T)
def nI (f:Nat->Nat):Nat->Int:=λk=>((f k:Nat):Int)
abbrev obN:List Str:=["amounts","lines","goal","part","free","kept"]
def obD (P:Pb) (S:Tb):D:=.ob obN [.int (P.n:Int),.lst (aR P.m P.n S.T),.lst (mpI (P.n+1) S.G),.int S.p,.lst (mpI P.n (nI S.free)),.lst (mpI P.m (nI S.kept))]
def aA (n:Nat) (f:Nat->Int):(mpI n f).length=n:=by unfold mpI;rw[qag,qat]
def cy (m n:Nat) (T:Nat->Nat->Int):(aR m n T).length=m:=by unfold aR;rw[qag,qat]
def bi {n:Nat}{f:Nat->Int}{k:Nat} (h:k<n):(mpI n f)[k]?=some (.int (f k)):=by
 unfold mpI;rw[qay,qbf h];rfl
def mT {m n:Nat}{T:Nat->Nat->Int}{k:Nat} (h:k<m):(aR m n T)[k]?=some (lnD n T k):=by
 unfold aR;rw[qay,qbf h];rfl
def bE {n:Nat}{f g:Nat->Int} (h:∀ k,k<n->f k=g k):mpI n f=mpI n g:=by
 refine qck λk a=>?_;rw[h k (qaQ.mp a)]
def mY (n:Nat) (f:Nat->Int):mpI (n+1) f=mpI n f++[.int (f n)]:=by
 unfold mpI;rw[qep,qbS];rfl
def bv (n:Nat) (f:Nat->Int):mpI n f=((qam n).map f).map D.int:=by rw[qaO];rfl
def sj (n:Nat) (f:Nat->Int):(mpI n f).all cK=true:=by
 rw[qa2];intro d hd;obtain⟨k,_,rfl⟩:=qaM.mp hd;rfl
def gk {n:Nat}{f:Nat->Int}{k:Nat}{x:Int}:(mpI n f).set k (.int x)=mpI n λj=>if j=k then x else f j:=by
 apply qbz;intro j;by_cases a:j<n
 ·rw[bi a]
  by_cases e:j=k
  ·subst e;rw[iFP U,qbq (by rw[aA];exact a)]
  ·rw[iFN e,qbB (qbL e),bi a]
 ·rw[qaD (by rw[qb6,aA];lia),qaD (by rw[aA];lia)]
def d7 (st:Sto) {n:Nat}{f:Nat->Int}{k:Nat} (h:k<n):dIx st (.d (.lst (mpI n f))) (.d (.int (k:Int)))=some (.int (f k)):=bN (bi h)
def rS (st:Sto) {m n:Nat}{T:Nat->Nat->Int}{k:Nat} (h:k<m):dIx st (.d (.lst (aR m n T))) (.d (.int (k:Int)))=some (lnD n T k):=bN (mT h)
def rR (st:Sto) {n:Nat}{T:Nat->Nat->Int}{i c:Nat} (h:c<=n):dIx st (.d (lnD n T i)) (.d (.int (c:Int)))=some (.int (T i c)):=d7 st (by lia)
def vj (st:Sto) {n:Nat}{T:Nat->Nat->Int}{i:Nat}:dIx st (.d (lnD n T i)) (.d (.int (-1)))=some (.int (T i n)):=by
 show atI _ _=_;rw[mY];exact xO _ _
section
variable {P:Pb}{S:Tb}{a:Ef}{env:Ev}{st s:Sto}
def bP (h:a env st=some (.d (obD P S),s)):au "amounts" a env st=some (.d (.int (P.n:Int)),s):=by simp only[au,h,qaa,obD];rfl
def cF (h:a env st=some (.d (obD P S),s)):au "lines" a env st=some (.d (.lst (aR P.m P.n S.T)),s):=by simp only[au,h,qaa,obD];rfl
def lc (h:a env st=some (.d (obD P S),s)):au "goal" a env st=some (.d (.lst (mpI (P.n+1) S.G)),s):=by simp only[au,h,qaa,obD];rfl
def lh (h:a env st=some (.d (obD P S),s)):au "part" a env st=some (.d (.int S.p),s):=by simp only[au,h,qaa,obD];rfl
def lb (h:a env st=some (.d (obD P S),s)):au "free" a env st=some (.d (.lst (mpI P.n (nI S.free))),s):=by simp only[au,h,qaa,obD];rfl
def oQ (h:a env st=some (.d (obD P S),s)):au "kept" a env st=some (.d (.lst (mpI P.m (nI S.kept))),s):=by simp only[au,h,qaa,obD];rfl
end
def gA {te:Ef}{l:Ev}{st:Sto}{g:Nat->D} (F:Nat->D):∀ {a:List Nat},(∀ k∈a,te (Z (g k)::l) st=some (.d (F k),st))->lcI (.nm 0) aK te (none::l) (a.map g) st=some (a.map F,st)
 |[],_=>rfl
 |k::a,h=>by
  rw[qar];unfold lcI;rw[show cA _ _ _=some (some _::l) from U,qaa,show aK _ st=some (true,st) from U,qaa,(h k qaf),qaa,(gA F λx b=>h x (qak _ b))];rfl
def Sm (z:Int):Prop:=z.natAbs<2^4000
def mulOk {a b:Int} (x y:Nat) (c:a.natAbs<2^x) (hb:b.natAbs<2^y) (h:x+y<=134217728):qbI a b:=
 qh0 (qgn.mpr c) (qgn.mpr hb) h
def CF {a b:Int}{x y:Nat} (c:a.natAbs<2^x) (hb:b.natAbs<2^y):(a*b).natAbs<2^(x+y):=by
 rw[qc6,qg3];exact Nat.mul_lt_mul'' c hb
def Sm.mulOk {a b:Int} (c:Sm a) (hb:Sm b):qbI a b:=Own.mulOk 4000 4000 c hb (by decide)
def cr (st:Sto) {a b:Int} (h:qbI a b):aX st (.d (.int a)) (.d (.int b))=some (.int (a*b)):=iFP h
def Sm.log {a:Int} (h:Sm a):a.natAbs.log2<9000:=by
 by_cases b:a.natAbs=0
 ·rw[b];decide
 ·have:=(Nat.log2_lt b).mpr h
  lia
def pi (st:Sto) {a b:Int} (c:0<b) (h:Sm b):ph st (.d (.int a)) (.d (.int b))=some (.int (a / b)):=iFP ⟨c,h.log⟩
end Own
set_option maxHeartbeats 1000000
namespace Own
open PySem L2
open Sx (Pb Tb Good Named Fe LV ZV piv lexP leastR leaveL sumN unit colV basis)
def dF {a b:Sf}{env:Ev}{st s:Sto}{w:W} (h:a env st=some (.rt w s)):ae a b env st=some (.rt w s):=by simp only[ae,h,qaa]
def ah {a b:Sf}{env e:Ev}{st s:Sto}{r:Option Fl} (h:a env st=some (.nx e s)) (hb:b e s=r):ae a b env st=r:=by simp only[ae,h,qaa,hb]
def cE {c:Tf}{a b:Sf}{env:Ev}{st s:Sto}{r:Option Fl} (h:c env st=some (true,s)) (d:a env s=r):aT c a b env st=r:=by simp only[aT,h,qaa,if_true,d]
def bn {c:Tf}{a b:Sf}{env:Ev}{st s:Sto}{r:Option Fl} (h:c env st=some (false,s)) (hb:b env s=r):aT c a b env st=r:=by simp only[aT,h,qaa,qa7,if_false,hb]
def FQ {o a:Ef}{env:Ev}{st s1 c:Sto}{n:Nat}{d:D}{e ds:List D} (i:o env st=some (.h n,s1)) (f:a env s1=some (.d d,c)) (g:lg s1 n=some e) (hg:lg c n=some ds) (j:ds.length<1000000):jy (mx gf o (aa a ac)) env st=some (.nx env (c.set n (.l (ds++[d])))):=by
 simp only[jy,mx,i,(ab (b:=ac) f U),g,hg,gf,j,if_true,qaa,qah]
def nr (st:Sto) (a b:C):(st++[a]).set st.length b=st++[b]:=by
 simp
structure Okt (P:Pb) (S:Tb):Prop where
 good:Good P S
 named:Named P S
 m64:P.m<=100
 n64:P.n<=100
 sT:∀ i c,i<P.m->c<=P.n->Sm (S.T i c)
 sL:∀ i s,i<P.m->s<=P.m->Sm (LV P S i s)
 sG:∀ c,c<=P.n->Sm (S.G c)
 sp:Sm S.p
def psD (ps:List Nat):List D:=ps.map λk=>D.int ((k:Nat):Int)
def vT (ps:List Nat):(psD ps).length=ps.length:=by unfold psD;rw[qag]
def lR {n k:Nat}{b:Sf}{ws:List W}{st s:Sto}{h:Nat}{ds:List D} (a:ws.length=k) (hb:b (ws.map some++qaG (n - k) none) st=some (.rt (.h h) s)) (c:st.length<=h) (hd:lg s h=some ds):fQ n k b ws st=some (.d (.lst ds),s.take st.length):=by
 simp only[fQ,a,if_true,hb,qaa,wL,iFN (qhs.mpr c),hd,qah]
def vZ {st u:Sto}{h:Nat}{c:C} (a:st.length<=h):(st++u).set h c=st++u.set (h - st.length) c:=by
 rw[List.set_append_right _ _ a]
def CC {s:Sto}{h:Nat}{ds es:List D} (hg:lg s h=some ds):lg (s.set h (.l es)) h=some es:=by
 have:=(qas.mp (vA hg)).1
 unfold lg;rw[qbq this]
def gX (s:Sto) (ds:List D):lg (s++[.l ds]) s.length=some ds:=by unfold lg;simp
def BR (s:Sto) {h:Nat}{ds:List D} (hg:lg s h=some ds):dc s (.h h)=some (!ds.isEmpty):=by
 show (lg s h).map _=_;rw[hg];rfl
def Em (s:Sto) {h:Nat}{d:D}{ds:List D} (hg:lg s h=some (d::ds)):dIx s (.h h) (.d (.int 0))=some d:=by
 show (lg s h).bind _=_;rw[hg,qaa,xN]
def yB (s:Sto) (a b:Int):dLt s (.d (.int a)) (.d (.int b))=some (.bl (decide (a<b))):=rfl
def Ca (s:Sto) (a b:Int):dGt s (.d (.int a)) (.d (.int b))=some (.bl (decide (a > b))):=rfl
def Ea (s:Sto) (a b:Int):dGe s (.d (.int a)) (.d (.int b))=some (.bl (decide (a>=b))):=rfl
section
variable {tops bots:Nat->Int}{m:Nat}{st:Sto}{f:Option W}
def jM (H:∀ i,i<m->Sm (tops i)) (hb:∀ i,i<m->Sm (bots i)):∀ (ps least:List Nat) (u:Sto) (h:Nat) (L g c:Option W),(∀ x∈ps,x<m)->(∀ x∈least,x<m)->lg (st++u) h=some (psD least)->st.length<=h->least.length+ps.length<=1000->
  ∃ w h' j k q,cw (.nm 4) aQ (psD ps) [f,Z (.lst (mpI m tops)),Z (.lst (mpI m bots)),some (.h h),L,g,c] (st++u)=some (.nx [f,Z (.lst (mpI m tops)),Z (.lst (mpI m bots)),some (.h h'),j,k,q] (st++w))/\
   lg (st++w) h'=some (psD (leastR tops bots ps least))/\st.length<=h'
 |[],least,u,h,L,g,c,_,_,hg,y,_=>⟨u,h,L,g,c,U,by rw[leastR];exact hg,y⟩
 |p::ps,least,u,h,L,g,c,R,T,hg,y,K=>by
  have t:p<m:=R p qaf;have D:∀ x∈ps,x<m:=λx A=>R x (qak _ A);rw[qan]at K;have S:∀ g c P,cA (.nm 4) (.d (.int ((p:Nat):Int))) [f,Z (.lst (mpI m tops)),Z (.lst (mpI m bots)),some (.h P),L,g,c]=some [f,Z (.lst (mpI m tops)),Z (.lst (mpI m bots)),some (.h P),Z (.int ((p:Nat):Int)),g,c]:=λ_ _ _=>rfl;have I:∀ (u:Sto) (h:Nat) (ls:List Nat) (g c:Option W),lg (st++u) h=some (psD ls)->st.length<=h->ls.length<1000->jy (mx gf (iV 3) (aa (iV 4) ac)) [f,Z (.lst (mpI m tops)),Z (.lst (mpI m bots)),some (.h h),Z (.int ((p:Nat):Int)),g,c] (st++u)=some _/\lg (st++u.set (h - st.length) (.l (psD (ls++[p])))) h=some (psD (ls++[p])):=λu h ls g c hg y T=>by
   have e:=FQ (o:=iV 3) (a:=iV 4) (env:=[f,Z (.lst (mpI m tops)),Z (.lst (mpI m bots)),some (.h h),Z (.int ((p:Nat):Int)),g,c]) (st:=st++u) (n:=h) (d:=.int ((p:Nat):Int)) U U hg hg (by rw[vT];lia);have e2:psD ls++[.int ((p:Nat):Int)]=psD (ls++[p]):=by unfold psD;rw[qbS];rfl
   rw[e2,vZ y]at e;refine⟨e,?_⟩;rw[<-vZ y];exact CC hg
  cases least with
  |nil=>
   have Q:cL dc (iV 3) [f,Z (.lst (mpI m tops)),Z (.lst (mpI m bots)),some (.h h),Z (.int ((p:Nat):Int)),g,c] (st++u)=some (false,st++u):=by
    have:=BR (st++u) hg
    simp only[cL,show iV 3 [f,Z (.lst (mpI m tops)),Z (.lst (mpI m bots)),some (.h h),Z (.int ((p:Nat):Int)),g,c] (st++u)=some (.h h,st++u) from U,qaa,this];rfl
   obtain⟨N,a2⟩:=I u h [] g c hg y (by decide);obtain⟨w,h',j,k,q,E,C,i3⟩:=jM H hb ps [p] _ h (Z (.int ((p:Nat):Int))) g c D (λx A=>by rw[qao.mp A];exact t) a2 y (by simp at K ⊢;lia);refine⟨w,h',j,k,q,?_,by rw[leastR];exact C,i3⟩;have s:aQ [f,Z (.lst (mpI m tops)),Z (.lst (mpI m bots)),some (.h h),Z (.int ((p:Nat):Int)),g,c] (st++u)=_:=ah (bn Q U) N;show cw (.nm 4) aQ (.int ((p:Nat):Int)::psD ps) _ _=_;simp only[cw,S,qaa,s];exact E
  |cons v r=>
   have F:v<m:=T v qaf;have Q:cL dc (iV 3) [f,Z (.lst (mpI m tops)),Z (.lst (mpI m bots)),some (.h h),Z (.int ((p:Nat):Int)),g,c] (st++u)=some (true,st++u):=by
    have:=BR (st++u) hg
    simp only[cL,show iV 3 [f,Z (.lst (mpI m tops)),Z (.lst (mpI m bots)),some (.h h),Z (.int ((p:Nat):Int)),g,c] (st++u)=some (.h h,st++u) from U,qaa,this];rfl
   have i0:∀ g c,iOp dIx (iV 3) (iC (.int 0)) [f,Z (.lst (mpI m tops)),Z (.lst (mpI m bots)),some (.h h),Z (.int ((p:Nat):Int)),g,c] (st++u)=some (.d (.int ((v:Nat):Int)),st++u):=λ_ _=>ag U U (Em (st++u) hg);have X:az (.nm 5) (iOp aX (iOp dIx (iV 1) (iV 4)) (iOp dIx (iV 2) (iOp dIx (iV 3) (iC (.int 0))))) [f,Z (.lst (mpI m tops)),Z (.lst (mpI m bots)),some (.h h),Z (.int ((p:Nat):Int)),g,c] (st++u)=some _:=
    ak (ag (ag U U (d7 _ t)) (ag U (i0 _ _) (d7 _ F)) (cr _ (Sm.mulOk (H p t) (hb v F))))
   have V:az (.nm 6) (iOp aX (iOp dIx (iV 1) (iOp dIx (iV 3) (iC (.int 0)))) (iOp dIx (iV 2) (iV 4))) [f,Z (.lst (mpI m tops)),Z (.lst (mpI m bots)),some (.h h),Z (.int ((p:Nat):Int)),Z (.int (tops p*bots v)),c] (st++u)=some (.nx [f,Z (.lst (mpI m tops)),Z (.lst (mpI m bots)),some (.h h),Z (.int ((p:Nat):Int)),Z (.int (tops p*bots v)),Z (.int (tops v*bots p))] (st++u)):=
    ak (ag (ag U (i0 _ _) (d7 _ F)) (ag U U (d7 _ t)) (cr _ (Sm.mulOk (H v F) (hb p t))))
   generalize Y:tops p*bots v=M at *;generalize hB:tops v*bots p=B at *;have O:aB dGt (iV 5) (iV 6) [f,Z (.lst (mpI m tops)),Z (.lst (mpI m bots)),some (.h h),Z (.int ((p:Nat):Int)),Z (.int M),Z (.int B)] (st++u)=some (decide (M > B),st++u):=av U U (Ca _ _ _);have tl:aB dLt (iV 5) (iV 6) [f,Z (.lst (mpI m tops)),Z (.lst (mpI m bots)),some (.h h),Z (.int ((p:Nat):Int)),Z (.int M),Z (.int B)] (st++u)=some (decide (M<B),st++u):=av U U (yB _ _ _);by_cases c1:M > B
   ·rw[decide_eq_true c1]at O
    obtain⟨w,h',j,k,q,E,C,i3⟩:=jM H hb ps (v::r) u h (Z (.int ((p:Nat):Int))) (Z (.int M)) (Z (.int B)) D T hg y (by lia);refine⟨w,h',j,k,q,?_,by rw[leastR,Y,hB,iFP c1];exact C,i3⟩;have s:aQ [f,Z (.lst (mpI m tops)),Z (.lst (mpI m bots)),some (.h h),Z (.int ((p:Nat):Int)),g,c] (st++u)=some (.ct [f,Z (.lst (mpI m tops)),Z (.lst (mpI m bots)),some (.h h),Z (.int ((p:Nat):Int)),Z (.int M),Z (.int B)] (st++u)):=by
     have J:aT (cL dc (iV 3)) (ae (az (.nm 5) (iOp aX (iOp dIx (iV 1) (iV 4)) (iOp dIx (iV 2) (iOp dIx (iV 3) (iC (.int 0)))))) (ae (az (.nm 6) (iOp aX (iOp dIx (iV 1) (iOp dIx (iV 3) (iC (.int 0)))) (iOp dIx (iV 2) (iV 4)))) (ae (aT (aB dGt (iV 5) (iV 6)) on aH) (aT (aB dLt (iV 5) (iV 6)) (az (.nm 3) (cX (bM ac))) aH)))) aH [f,Z (.lst (mpI m tops)),Z (.lst (mpI m bots)),some (.h h),Z (.int ((p:Nat):Int)),g,c] (st++u)=some (.ct [f,Z (.lst (mpI m tops)),Z (.lst (mpI m bots)),some (.h h),Z (.int ((p:Nat):Int)),Z (.int M),Z (.int B)] (st++u)):=by
      refine cE Q (ah X (ah V ?_))
      have:=cE (a:=on) (b:=aH) O U
      simp only[ae,this];rfl
     show ae _ _ _ _=_;simp only[ae,J];rfl
    show cw (.nm 4) aQ (.int ((p:Nat):Int)::psD ps) _ _=_;simp only[cw,S,qaa,s];exact E
   ·rw[decide_eq_false c1]at O
    by_cases c2:M<B
    ·rw[decide_eq_true c2]at tl
     have hn:lg (st++(u++[.l []])) (st++u).length=some (psD []):=by rw[<-qbM];exact gX _ _
     have G:st.length<=(st++u).length:=by rw[qaz];lia
     obtain⟨N,a2⟩:=I (u++[.l []]) (st++u).length [] (Z (.int M)) (Z (.int B)) hn G (by decide);obtain⟨w,h',j,k,q,E,C,i3⟩:=jM H hb ps [p] _ (st++u).length (Z (.int ((p:Nat):Int))) (Z (.int M)) (Z (.int B)) D (λx A=>by rw[qao.mp A];exact t) a2 G (by simp at K ⊢;lia);refine⟨w,h',j,k,q,?_,by rw[leastR,Y,hB,iFN c1,iFP c2];exact C,i3⟩;have sn:az (.nm 3) (cX (bM ac)) [f,Z (.lst (mpI m tops)),Z (.lst (mpI m bots)),some (.h h),Z (.int ((p:Nat):Int)),Z (.int M),Z (.int B)] (st++u)=some (.nx [f,Z (.lst (mpI m tops)),Z (.lst (mpI m bots)),some (.h (st++u).length),Z (.int ((p:Nat):Int)),Z (.int M),Z (.int B)] (st++(u++[.l []]))):=by rw[<-qbM];rfl
     have s:aQ [f,Z (.lst (mpI m tops)),Z (.lst (mpI m bots)),some (.h h),Z (.int ((p:Nat):Int)),g,c] (st++u)=_:=ah (cE Q (ah X (ah V (ah (bn O U) (cE tl sn))))) N;show cw (.nm 4) aQ (.int ((p:Nat):Int)::psD ps) _ _=_;simp only[cw,S,qaa,s];exact E
    ·rw[decide_eq_false c2]at tl
     obtain⟨N,a2⟩:=I u h (v::r) (Z (.int M)) (Z (.int B)) hg y (by rw[qan]at K ⊢;lia)
     obtain⟨w,h',j,k,q,E,C,i3⟩:=jM H hb ps ((v::r)++[p]) _ h (Z (.int ((p:Nat):Int))) (Z (.int M)) (Z (.int B)) D (λx A=>by
      rcases qaS.mp A with z|z
      ·exact T x z
      ·rw[qao.mp z];exact t) a2 y (by rw[qaz,qbU];lia)
     refine⟨w,h',j,k,q,?_,by rw[leastR,Y,hB,iFN c1,iFN c2];exact C,i3⟩;have s:aQ [f,Z (.lst (mpI m tops)),Z (.lst (mpI m bots)),some (.h h),Z (.int ((p:Nat):Int)),g,c] (st++u)=_:=ah (cE Q (ah X (ah V (ah (bn O U) (bn tl U))))) N;show cw (.nm 4) aQ (.int ((p:Nat):Int)::psD ps) _ _=_;simp only[cw,S,qaa,s];exact E
def Ex (H:∀ i,i<m->Sm (tops i)) (hb:∀ i,i<m->Sm (bots i)) {ps:List Nat} (R:∀ x∈ps,x<m) (K:ps.length<=1000):fk [.d (.lst (psD ps)),.d (.lst (mpI m tops)),.d (.lst (mpI m bots))] st=some (.d (.lst (psD (leastR tops bots ps []))),st):=by
 obtain⟨w,h',j,k,q,E,C,i3⟩:=jM H hb ps [] [.l []] st.length none none none R (λx A=>nomatch A) (gX st []) (qap _) (by simpa using K)
 have:=lR (n:=7) (b:=iS) (ws:=[.d (.lst _),.d _,.d _]) U (ah U (ah (bz U E) U)) i3 C
 rw[qdw]at this;exact this
end
end Own
set_option maxHeartbeats 1000000
namespace Own
open PySem L2
open Sx (Pb Tb Good Named Fe LV ZV piv lexP leastR leaveL sumN unit colV basis)
def vg (s:Sto) (i:Int):jb s (.d (.int i)) (.d .non)=some (.bl false):=rfl
def pP (s:Sto):jb s (.d .non) (.d .non)=some (.bl true):=rfl
def Ae (s:Sto) (l:List D):jb s (.d (.tup l)) (.d .non)=some (.bl false):=rfl
def eA (n:Nat):Nat->D
 |0=>.non
 |r+1=>.int (((n+r:Nat)):Int)
def xu (n m:Nat):D.non::bK (n:Int) m=(qam (m+1)).map (eA n):=by
 rw[qdp,qar,qaO]
 congr 1
def ju (st:Sto) (ds:List D):aV st [.d (.lst ds)]=some (.int (ds.length:Nat)):=rfl
def nH {P:Pb}{S:Tb}{st:Sto} (h:Okt P S):dR [.d (obD P S)] st=some (.d (.lst ((qam (P.m+1)).map (eA P.n))),st):=by
 have hm:=h.m64;have hn:=h.n64;have a:iV 0 [some _] st=some (.d (obD P S),st):=rfl;have b:=bP a;refine aw U (aJ (ag (x:=.d (.lst [.non])) (y:=.d (.lst (bK (P.n) P.m))) (s1:=st) U (ay ?_) ?_))
 ·show px _ [some _] st=_
  have e:aa (au "amounts" (iV 0)) (aa (iOp be (au "amounts" (iV 0)) (iCB aV (aa (au "lines" (iV 0)) ac))) ac) [Z (obD P S)] st=some ([.d (.int (P.n)),.d (.int ((P.n)+(P.m)))],st):=by
   refine ab b (ab (ag b (aL (ab (cF a) U) (ju _ _)) ?_) U);rw[cy];rfl
  simp only[px,e,qaa];rw[iFP (by lia),show (_+_ - (P.n:Int)).toNat=P.m by lia]
 ·rw[<-xu]
  exact eV st (by rw[cj];simp;lia)
def Cj {n k:Nat}{f:Nat->Nat}:inD (.int (k:Int)) (mpI n (nI f))=decide (∃ c,c<n/\f c=k):=by
 rw[qes];unfold inD mpI;rw[List.any_map,qee,decide_eq_true_eq];constructor
 ·rintro⟨c,a,e⟩
  refine⟨c,qaQ.mp a,?_⟩;have e:(((f c):Int)==_)=true:=e;lia
 ·rintro⟨c,a,e⟩
  refine⟨c,qaQ.mpr a,?_⟩;show (((f c):Int)==_)=true;rw[e];exact beq_self_eq_true _
def Ce {n k:Nat}{f:Nat->Nat} (h:∃ c,c<n/\f c=k):∃ c,c<n/\f c=k/\((qam n).map (nI f)).idxOf? (k:Int)=some c:=by
 obtain⟨c,d,e⟩:=h;cases q:((qam n).map (nI f)).idxOf? _ with
 |none=>
  have:=List.idxOf?_eq_none_iff.mp q
  exact absurd (qaM.mpr ⟨c,qaQ.mpr d,by unfold nI;rw[e]⟩) this
 |some j=>
  obtain⟨b,a,_⟩:=qf9.mp q;rw[qag,qat]at b;refine⟨j,b,?_,U⟩;rw[qhv,qg4]at a;have a:((f j):Int)=_:=a;lia
def gR {P:Pb}{S:Tb} (h:Good P S) {i j:Nat} (hi:i<P.m) (c:j<P.m) (e:S.kept i=S.kept j):i=j:=by
 rcases Nat.decEq i j with a|b
 ·have:=h.pos
  rw[h.dt,(Sx.det_eq0 _ hi c a (by unfold basis;rw[e]))]at this;exact absurd this (by decide)
 ·exact b
def Bz {P:Pb}{S:Tb}{st:Sto} (h:Okt P S) {s:Nat} (E:s<=P.m):cN [.d (obD P S),.d (eA P.n s)] st=some (.d (.lst (mpI P.m λi=>LV P S i s)),st):=by
 have hg:=h.good;have hm:=h.m64;have hn:=h.n64;cases s with
 |zero=>
  have e:mpI P.m (λi=>LV P S i 0)=mpI P.m λi=>S.T i P.n:=bE λi hi=>by
   have e:=hg.entry (qap _) hi;have c1:colV P S P.n=P.b:=by unfold Sx.colV;rw[iFN (qa9 _)]
   rw[c1]at e;unfold LV Sx.XV;rw[iFP U,<-e]
  rw[e];refine aw (n:=3) (k:=2) (b:=fX) U (dF (cE (s:=st) (av (x:=.d .non) U U (pP st)) (aJ (ay (aS (aZ (cF (P:=P) (S:=S) (st:=st) (a:=iV 0) U)) (by rw[cy];lia) ?_)))));exact gA _ λi _=>ag U U (vj st)
 |succ r=>
  have w:r<P.m:=by lia
  have t:∀ o,iV 0 [some _,Z (.int ((P.n+r:Nat))),o] st=some (.d (obD P S),st):=λ_=>rfl;have v:=lb (t none);have l:Sx.XV P (r+1)=unit r:=by unfold Sx.XV;rw[iFN (by lia),qcI]
  have tI:aB dIn (iV 1) (au "free" (iV 0)) [Z (obD P S),Z (.int ((P.n+r:Nat))),none] st=some (decide (∃ c,c<P.n/\S.free c=P.n+r),st):=by
   refine av U v ?_;simp only[dIn,cf,cK,sj,qaa,and_self,if_true,Cj]
  refine aw (n:=3) (k:=2) (b:=fX) U (ah (bn (av U U (vg st _)) U) ?_);by_cases m:∃ c,c<P.n/\S.free c=P.n+r
  ·rw[decide_eq_true m]at tI
   obtain⟨c,y,C,g⟩:=Ce m;have e:mpI P.m (λi=>LV P S i _)=mpI P.m λi=>S.T i c:=bE λi hi=>by
    have e:=hg.entry (c:=c) (by lia) hi;have c1:colV P S c=unit r:=by unfold Sx.colV;rw[iFP y,C,h.named.one r w]
    rw[c1]at e;unfold LV;rw[l,<-e]
   rw[e];have A:az (.nm 2) (yi (au "free" (iV 0)) (aa (iV 1) ac)) [Z (obD P S),Z (.int ((P.n+r:Nat))),none] st=some (.nx [Z (obD P S),Z (.int ((P.n+r:Nat))),Z (.int (c))] st):=by
    refine ak ?_;have B:aU (mpI P.n (nI S.free))=some ((qam P.n).map (nI S.free)):=by rw[bv];exact bf _
    simp only[yi,v,qaa,show aa (iV 1) ac [some _,some _,none] st=some ([.d _],st) from U,B];rw[iFP (by rw[qag,qat];lia),g];rfl
   refine dF (cE tI (ah A (aJ (ay (aS (aZ (cF (P:=P) (S:=S) (t _))) (by rw[cy];lia) ?_)))));exact gA _ λi _=>ag U U (rR st (by lia))
  ·rw[decide_eq_false m]at tI
   obtain⟨j,u,q⟩:∃ j,j<P.m/\S.kept j=P.n+r:=(h.named.all _ (by lia)).elim (λz=>absurd z m) id;have e:mpI P.m (λi=>LV P S i _)=mpI P.m λi=>if S.kept i=P.n+r then S.p else 0:=bE λi hi=>by
    have e:=Sx.det_kept hg hi u;have c1:basis P S j=unit r:=by unfold Sx.basis;rw[q,h.named.one r w]
    rw[c1]at e;unfold LV;rw[l,e];by_cases f:i=j
    ·rw[iFP f,iFP (by rw[f];exact q)]
    ·rw[iFN f,iFN λz=>f (gR hg hi u (z.trans q.symm))]
   rw[e];refine ah (bn tI U) (aJ (ay (aS (aZ (oQ (P:=P) (S:=S) (t none))) (by rw[aA];lia) ?_)));refine gA (λi=>D.int _) λi _=>?_;have te:aB dEq (iV 0) (iV 1) [Z (.int (nI S.kept i)),Z (.int ((P.n+r:Nat):Int)),Z (obD P S)] st=some (decide (S.kept i=P.n+r),st):=by
    refine av U U ?_;rw[dZ]
    congr 2
    unfold nI;lia
   by_cases p:S.kept i=P.n+r
   ·rw[decide_eq_true p]at te
    rw[iFP p];exact nh te (lh (P:=P) (S:=S) (st:=st) (a:=iV 2) U)
   ·rw[decide_eq_false p]at te
    rw[iFN p];exact qF te U
def uT (m:Nat) (f:Nat->Int):ci 0 (mpI m f)=(qam m).map λi=>D.tup [.int ((i:Nat):Int),.int (f i)]:=by
 apply qbz;intro i;rw[dQ,qay];by_cases hi:i<m
 ·rw[bi hi,qbf hi,qaR];rfl
 ·rw[qaD (by rw[aA];lia),qaD (by rw[qat];lia)];rfl
def uc {tt:Tf}{te:Ef}{l:Ev}{st:Sto}{g:Nat->D×D} (p:Nat->Bool) (F:Nat->D):∀ {a:List Nat},(∀ k∈a,tt (Z (g k).1::some (.d (g k).2)::l) st=some (p k,st)/\(p k=true->te (Z (g k).1::some (.d (g k).2)::l) st=some (.d (F k),st)))->
  lcI (.tp [0,1]) tt te (none::none::l) (a.map λk=>D.tup [(g k).1,(g k).2]) st=some ((a.filter p).map F,st)
 |[],_=>rfl
 |k::a,h=>by
  have b:=uc p F λx e=>h x (qak _ e);obtain⟨c,f⟩:=h k qaf;rw[qar];unfold lcI;rw[show cA _ _ _=some (some _::some _::l) from U,qaa,c,qaa];cases hp:p k with
  |true=>rw[f hp,qaa,b,qd9 hp];rfl
  |false=>rw[iFN (show ¬ (false=true) by decide),b,qea (by rw[hp];decide)]
def iT (P:Pb) (S:Tb) (c:Nat):List Nat:=(qam P.m).filter λi=>decide (S.T i c > 0)
def ge (P:Pb) (S:Tb) (c:Nat):List Nat:=leaveL (λs i=>LV P S i s) (λi=>S.T i c) (qam (P.m+1)) (iT P S c)
def d8 {tops bots:Nat->Int}{m:Nat}:∀ {ps least:List Nat},(∀ x∈ps,x<m)->(∀ x∈least,x<m)->(∀ x∈leastR tops bots ps least,x<m)/\(leastR tops bots ps least).length<=ps.length+least.length
 |[],least,_,h=>by rw[leastR];exact⟨h,by simp⟩
 |p::ps,[],d,_=>by
  rw[leastR]
  have:=d8 (tops:=tops) (bots:=bots) (λx a=>d x (qak _ a)) λx a=>by rw[qao.mp a];exact d p qaf
  exact⟨this.1,by simp at this ⊢;lia⟩
 |p::ps,f::r,d,e=>by
  have b:=λx a=>d x (qak _ a);have c:=d p qaf;rw[leastR];split
  ·have:=d8 (tops:=tops) (bots:=bots) b e
   exact⟨this.1,by simp at this ⊢;lia⟩
  ·split
   ·have:=d8 (tops:=tops) (bots:=bots) b λx a=>by rw[qao.mp a];exact c
    exact⟨this.1,by simp at this ⊢;lia⟩
   ·have:=d8 (tops:=tops) (bots:=bots) b λx a=>by
     rcases qaS.mp a with z|z
     ·exact e x z
     ·rw[qao.mp z];exact c
    exact⟨this.1,by simp at this ⊢;lia⟩
section
variable {P:Pb}{S:Tb}{st:Sto}{c:Nat}
def vB (h:Okt P S) (y:c<=P.n):∀ (u ps:List Nat) (o:Option W),(∀ s∈u,s<=P.m)->(∀ x∈ps,x<P.m)->ps.length<=1000->
  ∃ p,cw (.nm 4) eL (u.map (eA P.n)) [Z (obD P S),Z (.int (c:Int)),Z (.lst (mpI P.m λi=>S.T i c)),Z (.lst (psD ps)),o] st=some (.nx [Z (obD P S),Z (.int (c:Int)),Z (.lst (mpI P.m λi=>S.T i c)),Z (.lst (psD (leaveL (λs i=>LV P S i s) (λi=>S.T i c) u ps))),p] st)
 |[],ps,o,_,_,_=>⟨o,U⟩
 |s::u,ps,o,w,H,A=>by
  have f:cA (.nm 4) _ [some _,some _,some _,some _,o]=some [Z (obD P S),Z (.int (c)),Z (.lst (mpI P.m λi=>S.T i c)),Z (.lst (psD ps)),Z (eA P.n s)]:=rfl;have B:aB dLt (iCB aV (aa (iV 3) ac)) (iC (.int 2)) [Z (obD P S),Z (.int (c)),Z (.lst (mpI P.m λi=>S.T i c)),Z (.lst (psD ps)),Z (eA P.n s)] st=some (decide (ps.length<2),st):=by
   refine av (aL U (ju _ _)) U ?_;rw[vT,yB]
   congr 2
   lia
  rw[qar,leaveL];by_cases q:ps.length<2
  ·rw[decide_eq_true q]at B
   rw[iFP q];refine⟨some (.d (eA P.n s)),?_⟩;have hb:eL [Z (obD P S),Z (.int (c)),Z (.lst (mpI P.m λi=>S.T i c)),Z (.lst (psD ps)),Z (eA P.n s)] st=some (.bk [Z (obD P S),Z (.int (c)),Z (.lst (mpI P.m λi=>S.T i c)),Z (.lst (psD ps)),Z (eA P.n s)] st):=by
    have:=cE (a:=tU) (b:=aH) B U
    show ae _ _ _ _=_;simp only[ae,this];rfl
   simp only[cw,f,qaa,hb]
  ·rw[decide_eq_false q]at B
   rw[iFN q];have m:=d8 (tops:=λi=>LV P S i s) (bots:=λi=>S.T i c) (least:=[]) H (λx v=>nomatch v)
   obtain⟨p,L⟩:=vB h y u _ _ (λx v=>w x (qak _ v)) m.1 (by have:=m.2;simp at this;lia);refine⟨p,?_⟩;have hb:eL [some _,some _,some _,some _,some _] st=some _:=
    ah (bn B U) (ak (ai (ab U (ab (ai U (Bz h (w s qaf))) (ab U U))) (Ex (λi hi=>h.sL i s hi (w s qaf)) (λi hi=>h.sT i c hi y) H A)))
   simp only[cw,f,qaa,hb];exact L
def yy (l:List Nat):D:=match l with
 |[]=>.non
 |r::_=>.int ((r:Nat):Int)
def uh (h:Okt P S) (y:c<=P.n):iF [.d (obD P S),.d (.int (c:Int))] st=some (.d (yy (ge P S c)),st):=by
 have hm:=h.m64;have F:bQ (aa (iV 2) ac) [Z (obD P S),Z (.int (c)),Z (.lst (mpI P.m λi=>S.T i c)),none,none] st=some ((qam P.m).map λi=>D.tup [.int ((i:Nat)),.int (S.T i c)],st):=by
  rw[<-uT];rfl
 have G:∀ x∈iT P S c,x<P.m:=λx v=>qaQ.mp (qcj.mp v).1;have E:(iT P S c).length<=1000:=by
  have:(iT P S c).length<=(qam P.m).length:=qdz ..
  rw[qat]at this;lia
 obtain⟨o,K⟩:=vB (st:=st) h y (qam (P.m+1)) (iT P S c) none (λs w=>by have:=qaQ.mp w;lia) G E;have hw:=nH (st:=st) h;have C:aC (ap dR (aa (iV 0) ac)) [Z (obD P S),Z (.int (c:Int)),Z (.lst (mpI P.m λi=>S.T i c)),Z (.lst (psD (iT P S c))),none] st=some ((qam (P.m+1)).map (eA P.n),st):=aZ (ai (ws:=[.d (obD P S)]) U hw);refine aw (n:=5) (k:=2) (b:=n5) U (ah (ak (ay (aS (aZ (cF (P:=P) (S:=S) (env:=[some _,Z (.int (c)),none,none,none]) (st:=st) (a:=iV 0) U)) (by rw[cy];lia) (gA _ λi _=>ag U U (rR st y))))) (ah (ak (ay (aS F (by rw[qag,qat];lia) (uc (g:=λi=>(D.int ((i:Nat):Int),.int (S.T i c))) (λi=>decide (S.T i c > 0)) (λi=>D.int ((i:Nat):Int)) λi _=>⟨av U U (Ca _ _ _),λ_=>rfl⟩)))) (ah (bz C K) (aJ ?_))));show eZ _ _ _ [some _,some _,some _,Z (.lst (psD (ge P S c))),o] st=_;cases ge P S c with
 |nil=>rfl
 |cons r l=>exact nh U (ag U U (xN _ _))
def uf (A:∀ i,i<P.m->S.T i c<=0):ge P S c=[]:=by
 have:iT P S c=[]:=by
  unfold iT;rw[qgk];intro i hi
  have:=A i (qaQ.mp hi)
  lia
 unfold ge;rw[this,qdp,leaveL,iFP (by decide)]
def ug (h:Okt P S) (hA:∀ i,i<P.m->∀ t,P.m<=t->P.A (S.kept i) t=0) (A:¬ ∀ i,i<P.m->S.T i c<=0) :
  ∃ r,ge P S c=[r]/\r<P.m/\0<S.T r c/\∀ i,i<P.m->i≠r->0<S.T i c->lexP (P.m+1) λs=>S.T r c*LV P S i s - S.T i c*LV P S r s:=by
 have I:∀ i,i∈iT P S c↔i<P.m/\0<S.T i c:=λi=>by
  unfold iT;rw[qcj,qaQ,decide_eq_true_eq]
 obtain⟨r,J,q⟩:=Sx.leaving_ok h.good hA I (qim qgN List.nodup_range) (λe=>A λi hi=>by
  have:¬ _:=λz=>by
   have:=(I i).mpr z
   rw[e]at this;exact absurd this qbJ
  lia)
 refine⟨r,?_,q⟩;rw[<-J];unfold ge;rw[show (λj=>0+j)=id by funext j;simp,qgJ]
end
end Own
set_option maxHeartbeats 1000000
namespace Own
open PySem L2
open Sx (Pb Tb Good Named Fe LV ZV piv lexP leastR leaveL sumN unit colV basis)
def ky (s:Sto) (a b:D):dIx s (.d (.tup [a,b])) (.d (.int 0))=some a:=rfl
def gD (s:Sto) (a b:D):dIx s (.d (.tup [a,b])) (.d (.int 1))=some b:=rfl
def Dh {a:Af}{env:Ev}{st s:Sto}{ws:List W}{ds:List D} (c:a env st=some (ws,s)) (h:kf ws=some ds) (b:ds.length<=1000):bh a env st=some (.d (.tup ds),s):=by
 simp only[bh,c,qaa,h,qah,b,if_true]
section
variable {P:Pb}{S:Tb}{st:Sto}
def BA (s:Sto) (a:Int):dNe s (.d (.int a)) (.d (.int 0))=some (.bl (!(a==0))):=rfl
def Sm.two {a b:Int} (ha:Sm a) (hb:Sm b):(a*b).natAbs<2^8000:=CF (y:=4000) ha hb
def uX (h:Okt P S) {c1 o c2 g:Nat}{M B:Int} (m:o<P.m) (l:g<P.m) (hM:M.natAbs<2^8000) (hB:B.natAbs<2^8000):∀ (L:List Nat) (G q p:Option W),(∀ s∈L,s<=P.m)->
  (∃ b,cw (.nm 5) bR (L.map (eA P.n)) [Z (obD P S),Z (.tup [.int (c1:Int),.int (o:Int)]),Z (.tup [.int (c2:Int),.int (g:Int)]),Z (.int M),Z (.int B),G,q,p] st=some (.rt (.d (.bl b)) st))\/
  ∃ e,cw (.nm 5) bR (L.map (eA P.n)) [Z (obD P S),Z (.tup [.int (c1:Int),.int (o:Int)]),Z (.tup [.int (c2:Int),.int (g:Int)]),Z (.int M),Z (.int B),G,q,p] st=some (.nx e st)
 |[],G,q,p,_=>.inr ⟨_,U⟩
 |s::L,G,q,p,Q=>by
  have C:=Q s qaf;have f:cA (.nm 5) _ [some _,some _,some _,some _,some _,G,q,p]=some [Z (obD P S),Z (.tup [.int (c1),.int (o)]),Z (.tup [.int (c2),.int (g)]),Z (.int M),Z (.int B),Z (eA P.n s),q,p]:=rfl;have s6:az (.nm 6) (ap cN (aa (iV 0) (aa (iV 5) ac))) [some _,Z (.tup [.int (c1),.int (o)]),Z (.tup [.int (c2),.int (g)]),Z (.int M),Z (.int B),some _,q,p] st=some _:=ak (ai U (Bz h C));have R:az (.nm 7) (iOp kc (iOp aX (iV 4) (iOp dIx (iV 6) (iOp dIx (iV 2) (iC _)))) (iOp aX (iV 3) (iOp dIx (iV 6) (iOp dIx (iV 1) (iC _))))) [Z (obD P S),Z (.tup [.int (c1),.int _]),Z (.tup [.int (c2),.int _]),some _,some _,Z (eA P.n s),Z (.lst (mpI P.m λi=>LV P S i s)),p] st=some _:=
   ak (ag (ag U (ag U (ag U U (gD st _ _)) (d7 st l)) (cr st (mulOk 8000 4000 hB (h.sL g s l C) (by decide)))) (ag U (ag U (ag U U (gD st _ _)) (d7 st m)) (cr st (mulOk 8000 4000 hM (h.sL o s m C) (by decide)))) U)
  generalize B*LV P S g s - M*LV P S o s=Zq at R;have O:aB dNe (iV 7) (iC _) [Z (obD P S),Z (.tup [.int (c1),.int (o)]),Z (.tup [.int (c2),.int (g)]),Z (.int M),Z (.int B),Z (eA P.n s),Z (.lst (mpI P.m λi=>LV P S i s)),some _] st=some (!_,st):=av U U (BA st Zq);rw[qar];cases J:(Zq==0) with
  |false=>
   rw[J]at O
   left
   refine⟨decide (Zq > 0),?_⟩;have hb:bR [some _,some _,some _,some _,some _,some _,q,p] st=some _:=ah s6 (ah R (cE O (aJ (ag U U (Ca st _ _)))));simp only[cw,f,qaa,hb]
  |true=>
   rw[J]at O;have hb:bR [some _,some _,some _,some _,some _,some _,q,p] st=some _:=ah s6 (ah R (bn O U));simp only[cw,f,qaa,hb];exact (uX h m l hM hB L _ _ _ λx I=>Q x (qak _ I))
def Eb (h:Okt P S) {c1 o c2 g:Nat} (hc1:c1<P.n) (m:o<P.m) (hc2:c2<P.n) (l:g<P.m):∃ b,bX [.d (obD P S),.d (.tup [.int (c1:Int),.int (o:Int)]),.d (.tup [.int (c2:Int),.int (g:Int)])] st=some (.d (.bl b),st):=by
 have H:∀ n o4 G q p,iV 0 [some _,Z (.tup [.int (c1),.int (o)]),Z (.tup [.int (c2),.int (g)]),n,o4,G,q,p] st=some (.d (obD P S),st):=λ_ _ _ _ _=>rfl;have u:az (.nm 3) (iOp aX (iOp dIx _ (iOp dIx (iV 1) (iC _))) (iOp dIx (iOp dIx _ (iOp dIx (iV 2) (iC _))) (iOp dIx (iV 2) (iC _)))) [some _,some _,some _,none,none,none,none,none] st=some _:=
  ak (ag (ag (lc (H _ _ _ _ _)) (ag U U (ky st _ _)) (d7 st (by lia))) (ag (ag (cF (H _ _ _ _ _)) (ag U U (gD st _ _)) (rS st l)) (ag U U (ky st _ _)) (rR st (by lia))) (cr st (Sm.mulOk (h.sG c1 (by lia)) (h.sT g c2 l (by lia)))))
 have s4:az (.nm 4) (iOp aX (iOp dIx _ (iOp dIx (iV 2) (iC _))) (iOp dIx (iOp dIx _ (iOp dIx (iV 1) (iC _))) (iOp dIx (iV 1) (iC _)))) [some _,some _,some _,Z (.int (S.G c1*S.T g c2)),none,none,none,none] st=some _:=
  ak (ag (ag (lc (H _ _ _ _ _)) (ag U U (ky st _ _)) (d7 st (by lia))) (ag (ag (cF (H _ _ _ _ _)) (ag U U (gD st _ _)) (rS st m)) (ag U U (ky st _ _)) (rR st (by lia))) (cr st (Sm.mulOk (h.sG c2 (by lia)) (h.sT o c1 m (by lia)))))
 have N:aC (ap dR (aa (iV 0) ac)) [some _,Z (.tup [.int (c1),.int (o)]),Z (.tup [.int (c2),.int (g)]),Z (.int (S.G c1*S.T g c2)),Z (.int (S.G c2*S.T o c1)),none,none,none] st=some ((qam _).map _,st):=aZ (ai U (nH h));rcases uX h m l (Sm.two (h.sG c1 (by lia)) (h.sT g c2 l (by lia))) (Sm.two (h.sG c2 (by lia)) (h.sT o c1 m (by lia))) (qam (P.m+1)) none none none (λs Q=>by have:=qaQ.mp Q;lia) with⟨b,e⟩|⟨e,he⟩
 ·exact⟨b,aw U (ah u (ah s4 (dF (bz N e))))⟩
 ·exact⟨false,aw U (ah u (ah s4 (ah (bz N he) U)))⟩
def jY (P:Pb) (S:Tb) (x:D):Prop:=x=.non\/∃ c r,c<P.n/\S.G c<0/\ge P S c=[r]/\r<P.m/\0<S.T r c/\(∀ i,i<P.m->i≠r->0<S.T i c->lexP (P.m+1) λs=>S.T r c*LV P S i s - S.T i c*LV P S r s)/\x=.tup [.int (c:Int),.int (r:Int)]
def oT (h:Okt P S) (hA:∀ i,i<P.m->∀ t,P.m<=t->P.A (S.kept i) t=0):∀ (j k:Nat) (x:D) (E n:Option W),k+j=P.n->jY P S x->(x=.non->∀ c,c<k->0<=S.G c)->
  (∃ c,c<P.n/\S.G c<0/\(∀ i,i<P.m->S.T i c<=0)/\cw (.nm 2) bL ((qeH k j).map λc=>D.int ((c:Nat):Int)) [Z (obD P S),Z x,E,n] st=some (.rt (.d (.tup [.int (c:Int),.non])) st))\/
  ∃ y o2' T,jY P S y/\(y=.non->∀ c,c<P.n->0<=S.G c)/\cw (.nm 2) bL ((qeH k j).map λc=>D.int ((c:Nat):Int)) [Z (obD P S),Z x,E,n] st=some (.nx [Z (obD P S),Z y,o2',T] st)
 |0,k,x,E,n,hk,I,F=>.inr ⟨x,E,n,I,by rw[<-hk];exact F,U⟩
 |j+1,k,x,E,n,hk,I,F=>by
  have w:k<P.n:=by lia
  have f:cA (.nm 2) _ [some _,Z x,E,n]=some [Z (obD P S),Z x,Z (.int ((k:Nat):Int)),n]:=rfl;have H:∀ a b d,iV 0 [some _,a,b,d] st=some (.d (obD P S),st):=λ_ _ _=>rfl;have A:aB dGe (iOp dIx _ (iV 2)) (iC (.int 0)) [some _,Z x,some _,n] st=some (decide (S.G k>=0),st):=av (ag (lc (H _ _ _)) U (d7 st (by lia))) U (Ea st _ _);rw[List.range'_succ,qar];by_cases hg:S.G k>=0
  ·rw[decide_eq_true hg]at A
   have hb:bL [Z (obD P S),Z x,Z (.int ((k:Nat):Int)),n] st=some (.ct [Z (obD P S),Z x,Z (.int ((k:Nat):Int)),n] st):=by
    have:=cE (a:=on) (b:=aH) A U
    show ae _ _ _ _=_;simp only[ae,this];rfl
   simp only[cw,f,qaa,hb]
   exact (oT h hA j (k+1) x (Z (.int ((k:Nat):Int))) n (by lia) I λe c hc=>by
    by_cases z:c=k
    ·rw[z];exact hg
    ·exact F e c (by lia))
  ·rw[decide_eq_false hg]at A
   have K:S.G k<0:=by lia
   have u:az (.nm 3) (bh (aa (iV 2) (aa (ap iF (aa (iV 0) (aa (iV 2) ac))) ac))) [Z (obD P S),Z x,Z (.int ((k:Nat):Int)),n] st=some (.nx [Z (obD P S),Z x,Z (.int ((k:Nat):Int)),Z (.tup [.int ((k:Nat):Int),yy (ge P S k)])] st):=
    ak (Dh (ab U (ab (ai (ws:=[.d (obD P S),.d (.int ((k:Nat):Int))]) U (uh (st:=st) (c:=k) h (by lia))) U)) U (by show 2<=1000;decide))
   by_cases J:∀ i,i<P.m->S.T i k<=0
   ·rw[uf J]at u
    left
    refine⟨k,w,K,J,?_⟩;have hb:bL [Z (obD P S),Z x,Z (.int ((k:Nat):Int)),n] st=some (.rt (.d (.tup [.int ((k:Nat):Int),.non])) st):=ah (bn A U) (ah u (dF (cE (av (ag U U (gD st _ _)) U (pP st)) U)));simp only[cw,f,qaa,hb]
   ·obtain⟨r,l1,l2,l3,l4⟩:=ug h hA J
    rw[l1]at u;have X:aB jb (iOp dIx (iV 3) (iC (.int 1))) (iC .non) [Z (obD P S),Z x,Z (.int ((k:Nat):Int)),Z (.tup [.int ((k:Nat):Int),.int ((r:Nat):Int)])] st=some (false,st):=av (ag U U (gD st _ _)) U (vg st _);have v:jY P S _:=.inr ⟨k,r,w,K,l1,l2,l3,l4,U⟩;have Y:∃ y,jY P S y/\y≠.non/\bL [Z (obD P S),Z x,Z (.int ((k:Nat):Int)),n] st=some (.nx [Z (obD P S),Z y,Z (.int ((k:Nat):Int)),Z (.tup [.int ((k:Nat):Int),.int ((r:Nat):Int)])] st):=by
     rcases I with rfl|⟨c,V,c1,c2,c3,c4,c5,c6,rfl⟩
     ·have t1:aB jb (iV 1) (iC .non) [Z (obD P S),Z .non,Z (.int ((k:Nat):Int)),Z (.tup [.int ((k:Nat):Int),.int ((r:Nat):Int)])] st=some (true,st):=av U U (pP st)
      have t2:cS (aB jb (iV 1) (iC .non)) (cL dc (ap bX (aa (iV 0) (aa (iV 3) (aa (iV 1) ac))))) [Z (obD P S),Z .non,Z (.int ((k:Nat):Int)),Z (.tup [.int ((k:Nat):Int),.int ((r:Nat):Int)])] st=some (true,st):=by simp only[cS,t1,qaa,if_true]
      exact⟨_,v,by simp,ah (bn A U) (ah u (ah (bn X U) (cE t2 U)))⟩
     ·obtain⟨b,eb⟩:=Eb h w l2 c1 c4
      have t1:aB jb (iV 1) (iC .non) [Z (obD P S),Z (.tup [.int (c:Int),.int (V:Int)]),Z (.int ((k:Nat):Int)),Z (.tup [.int ((k:Nat):Int),.int ((r:Nat):Int)])] st=some (false,st):=av U U (Ae st _);have t3:ap bX (aa (iV 0) (aa (iV 3) (aa (iV 1) ac))) [some _,some _,Z (.int ((k:Nat):Int)),some _] st=some (.d (.bl b),st):=ai U eb;have t2:cS (aB jb (iV 1) (iC .non)) (cL dc (ap bX (aa (iV 0) (aa (iV 3) (aa (iV 1) ac))))) [Z (obD P S),Z (.tup [.int (c:Int),.int (V:Int)]),Z (.int ((k:Nat):Int)),Z (.tup [.int ((k:Nat):Int),.int ((r:Nat):Int)])] st=some (b,st):=by simp only[cS,t1,cL,t3,qaa,qa7,if_false,dc,qah]
      cases b with
      |true=>exact⟨_,v,by simp,ah (bn A U) (ah u (ah (bn X U) (cE t2 U)))⟩
      |false=>exact⟨_,.inr ⟨c,V,c1,c2,c3,c4,c5,c6,U⟩,by simp,ah (bn A U) (ah u (ah (bn X U) (bn t2 U)))⟩
    obtain⟨y,hy,hyn,hb⟩:=Y;simp only[cw,f,qaa,hb];exact (oT h hA j (k+1) y (Z (.int ((k:Nat):Int))) (Z (.tup [.int ((k:Nat):Int),.int ((r:Nat):Int)])) (by lia) hy λe=>absurd e hyn)
def DV (h:Okt P S) (hA:∀ i,i<P.m->∀ t,P.m<=t->P.A (S.kept i) t=0) :
  (∃ c,c<P.n/\S.G c<0/\(∀ i,i<P.m->S.T i c<=0)/\bJ [.d (obD P S)] st=some (.d (.tup [.int (c:Int),.non]),st))\/
  ∃ y,jY P S y/\(y=.non->∀ c,c<P.n->0<=S.G c)/\bJ [.d (obD P S)] st=some (.d y,st):=by
 have hn:=h.n64;have hr:bB (aa (iCB aV (aa (au "free" (iV 0)) ac)) ac) [Z (obD P S),Z .non,none,none] st=some ((qeH 0 P.n).map λc=>D.int ((c:Nat)),st):=by
  have e2:bK 0 P.n=(qeH 0 P.n).map λc=>D.int ((c:Nat)):=by
   unfold bK;rw[qgA];exact qck λk _=>by rw[qch]
  rw[<-e2];exact (no (aL (ab (lb U) U) (show aV st [.d _]=some _ by rw[ju,aA])) (by lia) (by lia) (by lia))
 rcases oT h hA P.n 0 .non none none (by lia) (.inl rfl) (λ_ c hc=>absurd hc (by lia)) with⟨c,c1,c2,c3,e⟩|⟨y,E,n,y1,y2,e⟩
 ·exact .inl ⟨c,c1,c2,c3,aw U (ah U (dF (bz hr e)))⟩
 ·exact .inr ⟨y,y1,y2,aw U (ah U (ah (bz hr e) U))⟩
end
end Own
set_option maxHeartbeats 1000000
namespace Own
open PySem L2
open Sx (Pb Tb Good Named Fe LV ZV piv lexP leastR leaveL sumN unit colV basis)
def dg {n k:Nat} (h:k<n):ixN n (k:Int)=some k:=by
 unfold ixN;rw[iFP (by lia),iFP (by lia)];rfl
def DI (n:Nat) (f g:Nat->Int):iq (mpI n f) (mpI n g)=(qam n).map λc=>D.tup [.int (f c),.int (g c)]:=by
 apply qbz;intro i;rw[fU,qay];by_cases hi:i<n
 ·rw[bi hi,bi hi,qbf hi];rfl
 ·rw[qaD (by rw[aA];lia),qaD (l:=qam n) (by rw[qat];lia)];rfl
def yw {te:Ef}{l:Ev}{st:Sto}{g:Nat->D×D} (F:Nat->D) {a:List Nat} (h:∀ k∈a,te (Z (g k).1::some (.d (g k).2)::l) st=some (.d (F k),st)) :
  lcI (.tp [0,1]) aK te (none::none::l) (a.map λk=>D.tup [(g k).1,(g k).2]) st=some (a.map F,st):=by
 have:=uc (tt:=aK) _ F λk b=>⟨U,λ_=>h k b⟩
 rw[this,qgO.mpr λ_ _=>rfl]
def sN {st:Sto}{n e:Nat}{f g:Nat->Int}{p:Int} (m:e<=n) (t:0<p) (sp:Sm p) (j:∀ c,c<=n->Sm (f c)) (sg:∀ c,c<=n->Sm (g c)) (hn:n<=1000) :
  jO [.d (.lst (mpI (n+1) f)),.d (.lst (mpI (n+1) g)),.d (.int (e:Int)),.d (.int p)] st=some (.d (.lst (mpI (n+1) λc=>if c=e then - f e else (g e*f c - f e*g c) / p)),st):=by
 have a:e<n+1:=by lia
 have y:fF (aa (iV 0) (aa (iV 1) ac)) [Z (.lst (mpI (n+1) f)),Z (.lst (mpI (n+1) g)),Z (.int (e:Int)),Z (.int p),Z (.int (g e)),Z (.int (f e)),none] st=some ((qam (n+1)).map λc=>D.tup [.int (f c),.int (g c)],st):=by
  rw[<-DI];rfl
 have r:lcI (.tp [0,1]) aK kg [none,none,Z (.int (g e)),Z (.int (f e)),Z (.int p)] ((qam (n+1)).map λc=>D.tup [.int (f c),.int (g c)]) st=some (mpI (n+1) λc=>(g e*f c - f e*g c) / p,st):=by
  refine yw (g:=λc=>(D.int (f c),.int (g c))) _ λc x=>?_;have i:c<=n:=by have:=qaQ.mp x;lia
  exact ag (ag (ag U U (cr st (Sm.mulOk (sg e m) (j c i)))) (ag U U (cr st (Sm.mulOk (j e m) (sg c i)))) U) U (pi st t sp)
 have s:az (.nm 6) (cX (iLc 2 [4,5,3] (fF (aa (iV 0) (aa (iV 1) ac))) (.tp [0,1]) aK kg)) [Z (.lst (mpI (n+1) f)),Z (.lst (mpI (n+1) g)),Z (.int (e:Int)),Z (.int p),Z (.int (g e)),Z (.int (f e)),none] st=some (.nx [Z (.lst (mpI (n+1) f)),Z (.lst (mpI (n+1) g)),Z (.int (e:Int)),Z (.int p),Z (.int (g e)),Z (.int (f e)),some (.h st.length)] (st++[.l (mpI (n+1) λc=>(g e*f c - f e*g c) / p)])):=by
  refine ak ?_
  have:=aS (k:=2) (js:=[4,5,3]) y (by rw[qag,qat];lia) r
  simp only[cX,this,qah]
 have o:bj (iV 6) (iV 2) (iUn iR (iV 5)) [Z (.lst (mpI (n+1) f)),Z (.lst (mpI (n+1) g)),Z (.int (e:Int)),Z (.int p),Z (.int (g e)),Z (.int (f e)),some (.h st.length)] (st++[.l (mpI (n+1) λc=>(g e*f c - f e*g c) / p)])=some (.nx [Z (.lst (mpI (n+1) f)),Z (.lst (mpI (n+1) g)),Z (.int (e:Int)),Z (.int p),Z (.int (g e)),Z (.int (f e)),some (.h st.length)] (st++[.l (mpI (n+1) λc=>if c=e then - f e else (g e*f c - f e*g c) / p)])):=by
  have w:eP (st++[.l (mpI (n+1) λc=>(g e*f c - f e*g c) / p)]) (.h st.length) (.d (.int (e:Int))) (.d (.int (- f e)))=some (st++[.l (mpI (n+1) λc=>if c=e then - f e else (g e*f c - f e*g c) / p)]):=by
   simp only[eP,gX,qaa,aA,dg a,qah,nr,gk]
  have v:iUn iR (iV 5) [Z (.lst (mpI (n+1) f)),Z (.lst (mpI (n+1) g)),Z (.int (e:Int)),Z (.int p),Z (.int (g e)),Z (.int (f e)),some (.h st.length)] _=some (.d (.int (- f e)),st++[.l (mpI (n+1) λc=>(g e*f c - f e*g c) / p)]):=rfl;have u:iV 6 [Z (.lst (mpI (n+1) f)),Z (.lst (mpI (n+1) g)),Z (.int (e:Int)),Z (.int p),Z (.int (g e)),Z (.int (f e)),some (.h st.length)] _=some (.h st.length,st++[.l (mpI (n+1) λc=>(g e*f c - f e*g c) / p)]):=rfl;have q:iV 2 [Z (.lst (mpI (n+1) f)),Z (.lst (mpI (n+1) g)),Z (.int (e:Int)),Z (.int p),Z (.int (g e)),Z (.int (f e)),some (.h st.length)] _=some (.d (.int (e:Int)),st++[.l (mpI (n+1) λc=>(g e*f c - f e*g c) / p)]):=rfl;simp only[bj,v,u,q,qaa,w,qah]
 have:=lR (n:=7) (k:=4) (b:=uL) (ws:=[.d (.lst (mpI (n+1) f)),.d (.lst (mpI (n+1) g)),.d (.int (e:Int)),.d (.int p)]) (st:=st) (h:=st.length) U (ah (ak (ag U U (d7 st a))) (ah (ak (ag U U (d7 st a))) (ah s (ah o U)))) (qap _) (gX _ _)
 rw[qdw]at this;exact this
abbrev stG (st0:Sto) (fr kp:List D) (fs:List (Str×W)):Sto:=st0++[.l fr,.l kp,.o fs]
def fsO (n:Nat) (b:List D) (a:List D) (p:Int) (L:Nat):List (Str×W):=[("amounts",.d (.int (n:Int))),("lines",.d (.lst b)),("goal",.d (.lst a)),("part",.d (.int p)),("free",.h L),("kept",.h (L+1))]
section
variable {st0:Sto}{fr kp:List D}{fs:List (Str×W)}
def sg2:(stG st0 fr kp fs)[st0.length+2]?=some (.o fs):=by rw[qaK (by lia)];simp
def sg0:lg (stG st0 fr kp fs) st0.length=some fr:=by unfold lg;rw[qaK (by lia)];simp
def sg1:lg (stG st0 fr kp fs) (st0.length+1)=some kp:=by unfold lg;rw[qaK (by lia)];simp
def ss2 {c:List (Str×W)}:(stG st0 fr kp fs).set (st0.length+2) (.o c)=stG st0 fr kp c:=by simp
def ss0 {x:List D}:(stG st0 fr kp fs).set st0.length (.l x)=stG st0 x kp fs:=by simp
def ss1 {x:List D}:(stG st0 fr kp fs).set (st0.length+1) (.l x)=stG st0 fr x fs:=by simp
def kF {f:Str}{w:W}{a:Ef}{env:Ev} (h:a env (stG st0 fr kp fs)=some (.h (st0.length+2),stG st0 fr kp fs)) (b:fs.lookup f=some w):au f a env (stG st0 fr kp fs)=some (w,stG st0 fr kp fs):=by
 simp only[au,h,qaa,sg2,b,qah]
def qJ {f:Str}{x:D}{o v:Ef}{env:Ev} (e:v env (stG st0 fr kp fs)=some (.d x,stG st0 fr kp fs)) (g:o env (stG st0 fr kp fs)=some (.h (st0.length+2),stG st0 fr kp fs)) (i:fs.length<1000) (b:(fs.lookup f).isSome=true):kM f o v env (stG st0 fr kp fs)=some (.nx env (stG st0 fr kp (m9 f (.d x) fs))):=by
 simp only[kM,e,g,qaa,sg2,i,b,and_self,if_true,ss2]
end
section
variable {n L:Nat}{a b e c:List D}{p f:Int}
def AV:m9 ("goal" : Str) (.d (.lst c)) (fsO n a b p L)=fsO n a c p L:=rfl
def zc:m9 ("lines" : Str) (.d (.lst e)) (fsO n a b p L)=fsO n e b p L:=rfl
def AW:m9 ("part" : Str) (.d (.int f)) (fsO n a b p L)=fsO n a b f L:=rfl
def sd:(fsO n a b p L).lookup ("lines" : Str)=some (.d (.lst a)):=rfl
def Al:(fsO n a b p L).lookup ("goal" : Str)=some (.d (.lst b)):=rfl
def Am:(fsO n a b p L).lookup ("part" : Str)=some (.d (.int p)):=rfl
end
def stO (st0:Sto) (P:Pb) (S:Tb):Sto:=stG st0 (mpI P.n (nI S.free)) (mpI P.m (nI S.kept)) (fsO P.n (aR P.m P.n S.T) (mpI (P.n+1) S.G) S.p st0.length)
def zF {st0:Sto}{P:Pb}{S:Tb}{ws:List W}{a:List W} (h:vwA (stO st0 P S) ws=some a):vwA (stO st0 P S) (.h (st0.length+2)::ws)=some (.d (obD P S)::a):=by
 have e:vwW (stO st0 P S) (.h (st0.length+2))=some (.d (obD P S)):=by
  unfold vwW stO;dsimp only;rw[sg2];dsimp only
  have:vwF (stG st0 (mpI P.n (nI S.free)) (mpI P.m (nI S.kept)) (fsO P.n (aR P.m P.n S.T) (mpI (P.n+1) S.G) S.p st0.length)) (fsO P.n (aR P.m P.n S.T) (mpI (P.n+1) S.G) S.p st0.length)=some [.int (P.n),.lst (aR P.m P.n S.T),.lst (mpI (P.n+1) S.G),.int S.p,.lst (mpI P.n (nI S.free)),.lst (mpI P.m (nI S.kept))]:=by
   simp only[fsO,vwF,qah,qaa];rw[sg0,sg1];rfl
  rw[this];rfl
 simp only[vwA,e,h,qaa,qah]
def xf {m n r:Nat}{F:Nat->Nat->Int}{g:Nat->Int}:((qam m).map λi=>D.lst (mpI (n+1) (F i))).set r (.lst (mpI (n+1) g))=aR m n λi=>if i=r then g else F i:=by
 apply qbz;intro i;by_cases hi:i<m
 ·rw[mT hi]
  by_cases e:i=r
  ·subst e
   rw[qbq (by rw[qag,qat];exact hi)];unfold lnD;dsimp only;rw[iFP U]
  ·rw[qbB (qbL e),qay,qbf hi]
   unfold lnD;dsimp only;rw[iFN e];rfl
 ·rw[qaD (by rw[qb6,qag,qat];lia),qaD (by rw[cy];lia)]
def z7 {st0:Sto}{P:Pb}{S:Tb} (h:Okt P S) {r e:Nat} (w:r<P.m) (O:e<P.n):eh [.h (st0.length+2),.d (.int (r:Int)),.d (.int (e:Int))] (stO st0 P S)=some (.d .non,stO st0 P (piv S r e)):=by
 have hm:=h.m64;have hn:=h.n64;have L:=h.good.pos
 -- turning,part
 generalize u:S.T=T at *;have fin:∀ (env:Ev) (s:Sto),i8 [some _,some _,some _,none,none,none,none] _=some (.nx env s)->s.take (stO st0 P S).length=s->eh [.h (st0.length+2),.d (.int (r)),.d (.int (e))] _=some (.d .non,s):=λenv s X h2=>by
  show (i8 [some _,some _,some _,none,none,none,none] _).bind _=_;rw[X];show some (W.d .non,s.take (stO st0 P S).length)=_;rw[h2]
 have l:∀ (a b c d g i:Option W) (s:Sto),iV 0 [some _,a,b,c,d,g,i] s=some (.h (st0.length+2),s):=λ_ _ _ _ _ _ _=>rfl;have s3:az (.nm 3) (iOp dIx (au ("lines") (iV 0)) (iV 1)) [some (.h (st0.length+2)),some (.d (.int (r))),some (.d (.int (e))),none,none,none,none] (stO st0 P S)=some (.nx [some (.h (st0.length+2)),some (.d (.int (r))),some (.d (.int (e))),some (.d (.lst (mpI (P.n+1) (T r)))),none,none,none] (stO st0 P S)):=by
  refine ak (ag (kF (l _ _ _ _ _ _ _) sd) U ?_);rw[u];exact rS _ w
 have sT:∀ i c,i<P.m->c<=P.n->Sm (T i c):=λi c hi m=>by rw[<-u];exact h.sT i c hi m
 have J:iLc 1 [3,2,4] (aC (au ("lines" : Str) (iV 0))) (.nm 0) aK dJ [some (.h (st0.length+2)),some (.d (.int (r:Int))),some (.d (.int (e:Int))),some (.d (.lst (mpI (P.n+1) (T r)))),some (.d (.int S.p)),none,none] (stO st0 P S)=some ((qam P.m).map λi=>D.lst (mpI (P.n+1) λc=>if c=e then - T i e else (T r e*T i c - T i e*T r c) / S.p),stO st0 P S):=by
  refine aS (aZ (kF (f:=("lines" : Str)) (a:=iV 0) (st0:=st0) (fr:=mpI P.n (nI S.free)) (kp:=mpI P.m (nI S.kept)) (fs:=fsO P.n (aR P.m P.n S.T) (mpI (P.n+1) S.G) S.p st0.length) (l (some (.d (.int (r:Int)))) (some (.d (.int (e:Int)))) (some (.d (.lst (mpI (P.n+1) (T r))))) (some (.d (.int S.p))) none none _) sd)) (by rw[cy];lia) ?_
  show lcI (.nm 0) aK dJ [none,some (.d (.lst (mpI (P.n+1) (T r)))),some (.d (.int (e:Int))),some (.d (.int S.p))] (aR P.m P.n S.T) (stO st0 P S)=_;rw[show aR P.m P.n S.T=(qam P.m).map (lnD P.n T) by rw[u];rfl];refine gA (g:=lnD P.n T) _ λi hi=>?_;exact ai (ws:=[.d (lnD P.n T i),.d (.lst (mpI (P.n+1) (T r))),.d (.int (e:Int)),.d (.int S.p)]) U (sN (f:=T i) (g:=T r) (by lia) L h.sp (λc m=>sT i c (qaQ.mp hi) m) (λc m=>sT r c w m) (by lia))
 have s5:i3 5 1 2 3 4 (iLc 1 [3,2,4] (aC (au ("lines" : Str) (iV 0))) (.nm 0) aK dJ) [some (.h (st0.length+2)),some (.d (.int (r:Int))),some (.d (.int (e:Int))),some (.d (.lst (mpI (P.n+1) (T r)))),some (.d (.int S.p)),none,none] (stO st0 P S)=some (.nx [some (.h (st0.length+2)),some (.d (.int (r:Int))),some (.d (.int (e:Int))),some (.d (.lst (mpI (P.n+1) (T r)))),some (.d (.int S.p)),some (.d (.lst (aR P.m P.n (piv S r e).T))),none] (stO st0 P S)):=by
  simp only[i3,J,qaa,qaB,qax];rw[qag,qat,dg w,aA,dg (by lia:e<P.n+1),qaa,qaa,iFP ⟨by lia,by show 5<7;decide,sj _ _⟩,gk,xf];show some (Fl.nx [_,_,_,_,_,some (W.d (.lst (aR P.m P.n _))),none] _)=_
  have:(λi=>if i=r then (λj=>if j=e then S.p else T r j) else λc=>if c=e then - T i e else (T r e*T i c - T i e*T r c) / S.p)=(piv S r e).T:=by
   funext i c
   show _=if i=r then (if c=e then S.p else S.T r c) else _;rw[u];by_cases hi:i=r
   ·rw[iFP hi,iFP hi]
   ·rw[iFN hi,iFN hi]
  rw[this]
 have Y:=by
  have e0:=by
   funext c
   show _=if c=e then - S.G e else (S.T r e*S.G c - S.G e*S.T r c) / S.p;rw[u]
  have K:=sN (st:=stO st0 P S) (f:=S.G) (g:=T r) (n:=P.n) (e:=e) (by lia) L h.sp (λc m=>h.sG c m) (λc m=>sT r c w m) (by lia);rw[e0]at K
  have:=qJ (f:=("goal" : Str)) (o:=iV 0) (v:=ap jO (aa (au ("goal" : Str) (iV 0)) (aa (iV 3) (aa (iV 2) (aa (iV 4) ac))))) (st0:=st0) (fr:=mpI P.n (nI S.free)) (kp:=mpI P.m (nI S.kept)) (fs:=fsO P.n (aR P.m P.n S.T) (mpI (P.n+1) S.G) S.p st0.length) (ai (ab (kF (f:=("goal" : Str)) (a:=iV 0) (st0:=st0) (fr:=mpI P.n (nI S.free)) (kp:=mpI P.m (nI S.kept)) (fs:=fsO P.n (aR P.m P.n S.T) (mpI (P.n+1) S.G) S.p st0.length) (l (some (.d (.int (r:Int)))) (some (.d (.int (e:Int)))) (some (.d (.lst (mpI (P.n+1) (T r))))) (some (.d (.int S.p))) (some (.d (.lst (aR P.m P.n (piv S r e).T)))) none _) Al) (ab U (ab U (ab U U)))) K) (l _ _ _ _ _ _ _) (by show 6<1000;decide) U
  rw[AV]at this;exact this
 have V:=by
  have:=qJ (f:=("lines" : Str)) (o:=iV 0) (v:=iV 5) (x:=.lst (aR P.m P.n (piv S r e).T)) (env:=[some (.h (st0.length+2)),some (.d (.int (r:Int))),some (.d (.int (e:Int))),some (.d (.lst (mpI (P.n+1) (T r)))),some (.d (.int S.p)),some (.d (.lst (aR P.m P.n (piv S r e).T))),none]) (st0:=st0) (fr:=mpI P.n (nI S.free)) (kp:=mpI P.m (nI S.kept)) (fs:=fsO P.n (aR P.m P.n S.T) (mpI (P.n+1) (piv S r e).G) S.p st0.length) U U (by show 6<1000;decide) U
  rw[zc]at this;exact this
 have N:kM ("part" : Str) (iV 0) (iOp dIx (iV 3) (iV 2)) [some (.h (st0.length+2)),some (.d (.int (r:Int))),some (.d (.int (e:Int))),some (.d (.lst (mpI (P.n+1) (T r)))),some (.d (.int S.p)),some (.d (.lst (aR P.m P.n (piv S r e).T))),none] (stG st0 (mpI P.n (nI S.free)) (mpI P.m (nI S.kept)) (fsO P.n (aR P.m P.n (piv S r e).T) (mpI (P.n+1) (piv S r e).G) S.p st0.length))=some (.nx [some (.h (st0.length+2)),some (.d (.int (r:Int))),some (.d (.int (e:Int))),some (.d (.lst (mpI (P.n+1) (T r)))),some (.d (.int S.p)),some (.d (.lst (aR P.m P.n (piv S r e).T))),none] (stG st0 (mpI P.n (nI S.free)) (mpI P.m (nI S.kept)) (fsO P.n (aR P.m P.n (piv S r e).T) (mpI (P.n+1) (piv S r e).G) (piv S r e).p st0.length))):=by
  have R:(piv S r e).p=T r e:=by show S.T r e=_;rw[u]
  have:=qJ (f:=("part" : Str)) (o:=iV 0) (v:=iOp dIx (iV 3) (iV 2)) (x:=.int (T r e)) (env:=[some (.h (st0.length+2)),some (.d (.int (r:Int))),some (.d (.int (e:Int))),some (.d (.lst (mpI (P.n+1) (T r)))),some (.d (.int S.p)),some (.d (.lst (aR P.m P.n (piv S r e).T))),none]) (st0:=st0) (fr:=mpI P.n (nI S.free)) (kp:=mpI P.m (nI S.kept)) (fs:=fsO P.n (aR P.m P.n (piv S r e).T) (mpI (P.n+1) (piv S r e).G) S.p st0.length) (ag U U (d7 _ (by lia))) U (by show 6<1000;decide) U
  rw[AW]at this;rw[R];exact this
 generalize t:fsO P.n (aR P.m P.n (piv S r e).T) (mpI (P.n+1) (piv S r e).G) (piv S r e).p st0.length=FS at N;generalize hLN:W.d (.lst (aR P.m P.n (piv S r e).T))=LN at *;generalize hTR:W.d (.lst (mpI (P.n+1) (T r)))=TR at *;have z:∀ {fr kp:List D}{k:Nat}{d:D},fr[k]?=some d->dIx (stG st0 fr kp FS) (.h st0.length) (.d (.int (k:Int)))=some d:=λ{fr kp k d} C=>by
  show (lg (stG st0 fr kp FS) st0.length).bind (λds=>atI ds (k:Int))=_;rw[sg0,qaa,bN C]
 have y:∀ {fr kp:List D}{k:Nat}{d:D},kp[k]?=some d->dIx (stG st0 fr kp FS) (.h (st0.length+1)) (.d (.int (k:Int)))=some d:=λ{fr kp k d} C=>by
  show (lg (stG st0 fr kp FS) (st0.length+1)).bind (λds=>atI ds (k:Int))=_;rw[sg1,qaa,bN C]
 have M:FS.lookup ("free" : Str)=some (.h st0.length):=by rw[<-t];rfl
 have Q:FS.lookup ("kept" : Str)=some (.h (st0.length+1)):=by rw[<-t];rfl
 have I:bj (au ("free" : Str) (iV 0)) (iV 2) (iOp dIx (au ("kept" : Str) (iV 0)) (iV 1)) [some (.h (st0.length+2)),some (.d (.int (r:Int))),some (.d (.int (e:Int))),some TR,some (.d (.int S.p)),some LN,some (.d (.int (nI S.free e)))] (stG st0 (mpI P.n (nI S.free)) (mpI P.m (nI S.kept)) FS)=some (.nx [some (.h (st0.length+2)),some (.d (.int (r:Int))),some (.d (.int (e:Int))),some TR,some (.d (.int S.p)),some LN,some (.d (.int (nI S.free e)))] (stG st0 (mpI P.n (nI (piv S r e).free)) (mpI P.m (nI S.kept)) FS)):=by
  have H:iOp dIx (au ("kept" : Str) (iV 0)) (iV 1) [some (.h (st0.length+2)),some (.d (.int (r:Int))),some (.d (.int (e:Int))),some TR,some (.d (.int S.p)),some LN,some (.d (.int (nI S.free e)))] (stG st0 (mpI P.n (nI S.free)) (mpI P.m (nI S.kept)) FS)=some (.d (.int (nI S.kept r)),stG st0 (mpI P.n (nI S.free)) (mpI P.m (nI S.kept)) FS):=ag (kF (l _ _ _ _ _ _ _) Q) U (y (bi w))
  have F:=kF (f:=("free" : Str)) (a:=iV 0) (st0:=st0) (fr:=mpI P.n (nI S.free)) (kp:=mpI P.m (nI S.kept)) (fs:=FS) (l (some (.d (.int (r:Int)))) (some (.d (.int (e:Int)))) (some TR) (some (.d (.int S.p))) (some LN) (some (.d (.int (nI S.free e)))) _) M
  have A:iV 2 [some (.h (st0.length+2)),some (.d (.int (r:Int))),some (.d (.int (e:Int))),some TR,some (.d (.int S.p)),some LN,some (.d (.int (nI S.free e)))] (stG st0 (mpI P.n (nI S.free)) (mpI P.m (nI S.kept)) FS)=some (.d (.int (e:Int)),stG st0 (mpI P.n (nI S.free)) (mpI P.m (nI S.kept)) FS):=rfl;have E:eP (stG st0 (mpI P.n (nI S.free)) (mpI P.m (nI S.kept)) FS) (.h st0.length) (.d (.int (e:Int))) (.d (.int (nI S.kept r)))=some (stG st0 (mpI P.n (nI (piv S r e).free)) (mpI P.m (nI S.kept)) FS):=by
   simp only[eP,sg0,qaa,aA,dg O,qah,ss0,gk]
   congr 3
   funext j
   show _=(((if j=e then S.kept r else S.free j:Nat)):Int);by_cases q:j=e
   ·rw[iFP q,iFP q];rfl
   ·rw[iFN q,iFN q];rfl
  simp only[bj,H,F,A,qaa,E,qah]
 have B:bj (au ("kept" : Str) (iV 0)) (iV 1) (iV 6) [some (.h (st0.length+2)),some (.d (.int (r:Int))),some (.d (.int (e:Int))),some TR,some (.d (.int S.p)),some LN,some (.d (.int (nI S.free e)))] (stG st0 (mpI P.n (nI (piv S r e).free)) (mpI P.m (nI S.kept)) FS)=some (.nx [some (.h (st0.length+2)),some (.d (.int (r:Int))),some (.d (.int (e:Int))),some TR,some (.d (.int S.p)),some LN,some (.d (.int (nI S.free e)))] (stG st0 (mpI P.n (nI (piv S r e).free)) (mpI P.m (nI (piv S r e).kept)) FS)):=by
  have H:iV 6 [some (.h (st0.length+2)),some (.d (.int (r:Int))),some (.d (.int (e:Int))),some TR,some (.d (.int S.p)),some LN,some (.d (.int (nI S.free e)))] (stG st0 (mpI P.n (nI (piv S r e).free)) (mpI P.m (nI S.kept)) FS)=some (.d (.int (nI S.free e)),stG st0 (mpI P.n (nI (piv S r e).free)) (mpI P.m (nI S.kept)) FS):=rfl;have F:=kF (f:=("kept" : Str)) (a:=iV 0) (st0:=st0) (fr:=mpI P.n (nI (piv S r e).free)) (kp:=mpI P.m (nI S.kept)) (fs:=FS) (l (some (.d (.int (r:Int)))) (some (.d (.int (e:Int)))) (some TR) (some (.d (.int S.p))) (some LN) (some (.d (.int (nI S.free e)))) _) Q
  have A:iV 1 [some (.h (st0.length+2)),some (.d (.int (r:Int))),some (.d (.int (e:Int))),some TR,some (.d (.int S.p)),some LN,some (.d (.int (nI S.free e)))] (stG st0 (mpI P.n (nI (piv S r e).free)) (mpI P.m (nI S.kept)) FS)=some (.d (.int (r:Int)),stG st0 (mpI P.n (nI (piv S r e).free)) (mpI P.m (nI S.kept)) FS):=rfl;have E:eP (stG st0 (mpI P.n (nI (piv S r e).free)) (mpI P.m (nI S.kept)) FS) (.h (st0.length+1)) (.d (.int (r:Int))) (.d (.int (nI S.free e)))=some (stG st0 (mpI P.n (nI (piv S r e).free)) (mpI P.m (nI (piv S r e).kept)) FS):=by
   simp only[eP,sg1,qaa,aA,dg w,qah,ss1,gk]
   congr 3
   congr 1
   funext j
   show _=(((if j=r then S.free e else S.kept j:Nat)):Int);by_cases q:j=r
   ·rw[iFP q,iFP q];rfl
   ·rw[iFN q,iFN q];rfl
  simp only[bj,H,F,A,qaa,E,qah]
 have:=fin _ _ (ah s3 (ah (ak (kF (l _ _ _ _ _ _ _) Am)) (ah s5 (ah Y (ah V (ah N (ah (ak (ag (kF (l _ _ _ _ _ _ _) M) U (z (bi O)))) (ah I B)))))))) ?_
 ·rw[this,<-t];rfl
 ·refine qcG ?_
  unfold stO stG;rw[qaz,qaz];exact qap _
end Own
namespace Sx
def sumN_abs {n:Nat}{f:Nat->Int}{B:Nat} (h:∀ k,k<n->(f k).natAbs<=B):(sumN n f).natAbs<=n*B:=by
 induction n with
 |zero=>rw[sumN];omega
 |succ n q=>
  rw[sumN,qjA];have w:=q λk e=>h k (by omega);have p:=h n (by omega);omega
def sg_abs (k:Nat):(sg k).natAbs=1:=by unfold sg;split<;>rfl
def det_le {B X:Nat}:∀ (m:Nat) {C:Nat->Vec},m*B<=X->(∀ k t,k<m->t<m->(C k t).natAbs<=B)->(det m C).natAbs<=X^m
 |0,C,_,_=>by exact qap _
 |m+1,C,o,h=>by
  have:=sumN_abs (f:=λk=>sg k*C k 0*det m _) λk e=>by
   rw[qc6,qc6,sg_abs,qjz];exact qc4 (h k 0 e (by omega)) (det_le m (C:=λj t=>C (skip k j) (t+1)) (qaY (qcx B (by omega)) o) λj t y d=>h _ _ (by unfold skip;split<;>omega) (by omega))
  refine qaY this ?_;rw[<-Nat.mul_assoc,Nat.pow_succ,qgx (X^m)];exact qcx _ o
structure Bd (P:Pb):Prop where
 m64:P.m<=64
 n64:P.n<=100
 A:∀ k,k<P.n+P.m->∀ t,t<P.m->(P.A k t).natAbs<=2^50
 b:∀ t,t<P.m->(P.b t).natAbs<=2^50
 g:∀ k,k<P.n+P.m->(P.g k).natAbs<=2^50
variable {P:Pb}
def Bd.det (h:Bd P) {C:Nat->Vec} (x:∀ k t,k<P.m->t<P.m->(C k t).natAbs<=2^50):(det P.m C).natAbs<=2^3584:=by
 have hm:=h.m64
 refine qaY (det_le (X:=2 ^ 56) P.m (by
  have:P.m*2^50<=64*2^50:=qcx _ hm
  exact qaY this (by decide)) x) ?_
 rw[<-qjy];exact qce (by decide) (by omega)
def unit_le (r t:Nat):(unit r t).natAbs<=2^50:=by unfold unit;split<;>decide
def Bd.basis (h:Bd P) {S:Tb} (hn:Named P S) {v:Vec} (u:∀ t,t<P.m->(v t).natAbs<=2^50) (i k t:Nat) (e:k<P.m) (d:t<P.m):(upd (basis P S) i v k t).natAbs<=2^50:=by
 unfold upd;split
 ·exact u t d
 ·exact h.A _ (hn.bound.2 k e) t d
def Bd.T (h:Bd P) {S:Tb} (hg:Good P S) (hn:Named P S) {i c:Nat} (hi:i<P.m) (l:c<=P.n):(S.T i c).natAbs<=2^3584:=by
 rw[hg.entry l hi];refine h.det λk t e d=>h.basis hn (λt d=>?_) i k t e d;unfold colV;by_cases a:c<P.n
 ·rw[iFP a];exact h.A _ (hn.bound.1 c a) t d
 ·rw[iFN a];exact h.b t d
def Bd.L (h:Bd P) {S:Tb} (hn:Named P S) (i s:Nat):(LV P S i s).natAbs<=2^3584:=by
 refine h.det λk t e d=>h.basis hn (λt d=>?_) i k t e d;unfold XV;split
 ·exact h.b t d
 ·exact unit_le _ _
def Bd.p (h:Bd P) {S:Tb} (hg:Good P S) (hn:Named P S):S.p.natAbs<=2^3584:=by
 rw[hg.dt];exact h.det λk t e d=>h.A _ (hn.bound.2 k e) t d
def Bd.G (h:Bd P) {S:Tb} (hg:Good P S) (hn:Named P S) {c:Nat} (l:c<=P.n):(S.G c).natAbs<=65*(2^50*2^3584):=by
 rw[hg.goal c l];have w:=sumN_abs λi hi=>by
  rw[qc6];exact qc4 (h.g _ (hn.bound.2 i hi)) (h.T hg hn hi l)
 have p:(S.p*gainC P S c).natAbs<=2^50*2^3584:=by
  rw[qc6,qgx];refine qc4 ?_ (h.p hg hn);unfold gainC;by_cases a:c<P.n
  ·rw[iFP a];exact h.g _ (hn.bound.1 c a)
  ·rw[iFN a];decide
 have z:P.m*_<=64*(2^50*2^3584):=qcx _ h.m64;omega
end Sx
set_option maxHeartbeats 1000000
namespace Own
open PySem L2
open Sx (Pb Tb Good Named Fe LV ZV piv lexP leastR leaveL sumN unit colV basis)
def vV {a b:Nat} (h:a<b):2^a<2^b:=Nat.pow_lt_pow_right (by decide) h
def zu {z:Int} (h:z.natAbs<=2^3584):Sm z:=qbQ h (vV (by decide))
def Do {z:Int} (h:z.natAbs<=65*(2^50*2^3584)):Sm z:=by
 refine qbQ h ?_;refine qbQ (qcx _ (by decide:65<=2^7)) ?_;rw[<-qg3,<-qg3];exact vV (by decide)
def CJ {P:Pb}{S:Tb} (b:Sx.Bd P) (g:Good P S) (n:Named P S):Okt P S:=by
 have d:=b.m64;exact⟨g,n,by lia,b.n64,λi c hi a=>zu (b.T g n hi a),λi s _ _=>zu (b.L n i s),λc a=>Do (b.G g n a),zu (b.p g n)⟩
def BM {c:Tf}{b:Sf}{m:Nat}{env:Ev}{st s:Sto} (h:c env st=some (false,s)):cB c b (m+1) env st=some (.nx env s):=by
 rw[cB,h];rfl
def zd {c:Tf}{b:Sf}{m:Nat}{env e:Ev}{st s a:Sto}{r:Option Fl} (h:c env st=some (true,s)) (hb:b env s=some (.nx e a)) (d:cB c b m e a=r):cB c b (m+1) env st=r:=by
 rw[cB,h];show ((b env s).bind _)=_;rw[hb];exact d
def EW {c:Tf}{b:Sf}{m:Nat}{env:Ev}{st s a:Sto}{w:W} (h:c env st=some (true,s)) (hb:b env s=some (.rt w a)):cB c b (m+1) env st=some (.rt w a):=by
 rw[cB,h];show ((b env s).bind _)=_;rw[hb];rfl
def kL {st:Sto}{a0 a2:Option W}:∀ (n a b:Nat) (o:Option W),b<n->∃ c,cB eB eQ n [a0,Z (.int (a:Int)),a2,Z (.int (b:Int)),o] st=some (.nx [a0,Z (.int ((qfN a b:Nat):Int)),a2,Z (.int 0),c] st)
 |0,a,b,o,h=>by lia
 |n+1,a,b,o,h=>by
  by_cases hb:b=0
  ·subst hb
   refine⟨o,?_⟩;rw[Nat.gcd_zero_right];exact BM U
  ·have e:(!((b)==(0:Int)))=true:=by lia
   obtain⟨c,f⟩:=kL n b (a%b) _ (by have:=Nat.mod_lt a (Nat.pos_of_ne_zero hb);lia);refine⟨c,?_⟩;have i:qfN a b=qfN b (a%b):=by rw[qjh a b,Nat.gcd_rec b a,qjh]
   have g:(0)<(b:Int):=by lia
   have j:dI st (.d (.int (a))) (.d (.int (b)))=some (.int ((a%b:Nat))):=by
    simp only[dI,g,if_true];rfl
   rw[i,<-f];exact zd (av U U ((BA st _).trans (by rw[e]))) (ah (ak (ag U U j)) U) U
def uY {st:Sto}{ns:List Int}{d0:D} (f:∀ (l:Ev) (s:Sto),aC (iV 0) (Z d0::l) s=some (ns.map D.int,s)) (hn:∀ n∈ns,Sm n):bm [.d d0] st=some (.d (.int ((dj 0 ns:Nat):Int)),st):=by
 obtain⟨m,t,j,⟨c,h,a,rfl⟩,rfl⟩:=bF (g:=.nm 2) (body:=eK) (λi env s=>(∃ c h a,env=[Z d0,Z (.int ((dj 0 (ns.take i)))),c,h,a])/\s=st)
  ⟨⟨_,_,_,U⟩,U⟩ (λi d env s hd ⟨⟨c,h,a,e⟩,es⟩=>by
   subst e es;rw[qay,qad]at hd;obtain⟨n,k,rfl⟩:=hd;obtain⟨hi,b⟩:=qas.mp k;have q:tJ s [.d (.int n)]=some (.int ((n.natAbs))):=by
    show some _=_;rw[show (if n<0 then -n else n)=((n.natAbs)) by split<;>lia]
   have r:dj 0 (ns.take (i+1))=qfN (dj 0 (ns.take i)) n.natAbs:=by
    rw[List.take_succ_eq_append_getElem hi,b,rF]
   obtain⟨o,p⟩:=kL (st:=s) (a0:=some (.d d0)) (a2:=some (.d (.int n))) (2^8000) (dj 0 (ns.take i)) n.natAbs a (qey (hn n (qb2 k)) (vV (by decide)));refine⟨_,[some _,some _,Z (.int n),Z (.int 0),o],s,U,.inl ?_,⟨_,_,_,U⟩,U⟩;rw[r]
   exact ah (ak (aL (ab U U) q)) p)
 rw[qag,qdD]at j;exact aw U (ah U (ah (bz (f _ _) j) U))
def mw {st:Sto}{ns:List Int} (hn:∀ n∈ns,Sm n):bm [.d (.lst (ns.map D.int))] st=some (.d (.int ((dj 0 ns:Nat):Int)),st):=uY (λ_ _=>aZ U) hn
def pj {te:Ef}{st:Sto}{ns:List Int}{g:Int} (a:0<g) (hg:Sm g) (b:te=iOp ph (iV 0) (iV 1)):lcI (.nm 0) aK te [none,Z (.int g)] (ns.map D.int) st=some ((ns.map λx=>x / g).map D.int,st):=by
 subst b
 rw [(iE (λd=>match d with | .int x=>.int (x / g) | d=>d) λd hd=>by
  obtain⟨y,c,rfl⟩:=qaM.mp hd
  exact⟨_,U,ag U U (pi st a hg)⟩),qaO,qaO];rfl
def kj {ns:List Int}{x:Int} (c:x∈ns) (b:x≠0) (d:Sm x):0<((dj 0 ns:Nat):Int)/\Sm ((dj 0 ns:Nat):Int):=by
 obtain⟨e,a⟩:=yf c b;refine⟨by lia,?_⟩;exact qbQ a d
def ui {st:Sto}{ns:List Int} (hb:∀ x∈ns,Sm x) (i:∃ x∈ns,x≠0) (k:ns.length<=1000):cZ [.d (.lst (ns.map D.int))] st=some (.d (.tup ((ns.map λx=>x / ((dj 0 ns:Nat):Int)).map D.int)),st):=by
 obtain⟨x,a,f⟩:=i;have h:=mw (st:=st) hb;obtain⟨b,c⟩:=kj a f (hb x a);generalize ((dj 0 ns):Int)=g at *;have e:(g==(0))=false:=by lia
 have j:(ns.map D.int).length<=1000000:=by rw[qag];lia
 exact aw U (ah (ak (ai U h)) (ah (bn (av U U (by rw[dZ,e])) U) (aJ (aL (ab (ay (aS (aZ U) j (pj b c U))) U) U))))
def acc (e:Nat->Nat) (y:Nat->Int) (i k:Nat):Int:=sumN i λj=>if e j=k then y j else 0
def qV (e:Nat->Nat) (y:Nat->Int) (i k:Nat):acc e y (i+1) k=acc e y i k+if e i=k then y i else 0:=rfl
def lW {e:Nat->Nat}{y:Nat->Int}{i k:Nat} (h:∀ j,j<i->e j≠k):acc e y i k=0:=by
 unfold acc;rw[Sx.sumN_congr λj a=>iFN (h j a),Sx.sumN_zero]
def oJ {e:Nat->Nat}{y:Nat->Int}{d N i:Nat} (hd:d<=e i) (b:∀ j,j<i->e j≠e i):(mpI N λr=>acc e y i (d+r)).set (e i - d) (.int (y i))=mpI N λr=>acc e y (i+1) (d+r):=by
 rw[gk];refine bE λr _=>?_;rw[qV];by_cases c:r=e i - d
 ·rw[lW λj a=>by have:=b j a;lia];lia
 ·lia
def qU {e:Nat->Nat}{y:Nat->Int}{d N i:Nat} (h:∀ r,r<N->e i≠d+r):(mpI N λr=>acc e y i (d+r))=mpI N λr=>acc e y (i+1) (d+r):=by
 refine bE λr a=>?_;rw[qV,iFN (h r a)];lia
def zJ (n:Nat) (e:Nat->Nat) (y:Nat->Int) (d:Nat):(qaG n [D.int 0]).flatten=mpI n λr=>acc e y 0 (d+r):=by
 show _=(qam n).map λ_=>D.int 0
 induction n with
 |zero=>rfl
 |succ n a=>rw[qgz,qgM,a,qep,qbS];rfl
def iI {f:Ef}{env:Ev}{st:Sto}{n:Nat} (a:f env st=some (.d (.int (n:Int)),st)) (hn:n<=900) (e:Nat->Nat) (y:Nat->Int) (d:Nat):cX (rH mM (aq (bM (aa (iC (.int 0)) ac))) f) env st=some (.h st.length,st++[.l (mpI n λr=>acc e y 0 (d+r))]):=by
 have b:rH mM (aq (bM (aa (iC (.int 0)) ac))) f env st=some (mpI n λr=>acc e y 0 (d+r),st):=by
  show ((f env st).bind λq=>(mM q.2 (.d (.lst [.int 0])) q.1).map λl=>(l,q.2))=_;rw[a];show (mM st _ _).map _=_;unfold mM;dsimp only;rw[iFP ⟨by decide,by lia,by lia⟩,qbp,zJ n e y d];rfl
 simp only[cX,b,qah]
end Own
set_option maxHeartbeats 1000000
namespace Own
open PySem L2
open Sx (Pb Tb Good Named Fe LV ZV piv lexP leastR leaveL sumN unit colV basis)
def sIx {o i v:Ef}{env:Ev}{st:Sto}{xs:List D}{k:Nat}{d:D} (c:v env (st++[.l xs])=some (.d d,st++[.l xs])) (a:o env (st++[.l xs])=some (.h st.length,st++[.l xs])) (hi:i env (st++[.l xs])=some (.d (.int (k:Int)),st++[.l xs])) (e:k<xs.length):bj o i v env (st++[.l xs])=some (.nx env (st++[.l (xs.set k d)])):=by
 have b:eP (st++[.l xs]) (.h st.length) (.d (.int (k))) (.d d)=some (st++[.l (xs.set k d)]):=by
  simp only[eP,gX,qaa,dg e,qah,nr]
 simp only[bj,c,a,hi,qaa,b,qah]
def pq {a:Ef}{env:Ev}{st:Sto}{m:Nat}{f:Nat->Nat} (h:a env st=some (.d (.lst (mpI m (nI f))),st)):bQ (aa a ac) env st=some ((qam m).map λi=>D.tup [.int ((i:Nat):Int),.int (nI f i)],st):=by
 have:=ab (b:=ac) h U
 rw[<-uT];simp only[bQ,this,qaa]
def mX {m:Nat}{g:Nat->D}{i:Nat}{d:D} (h:((qam m).map g)[i]?=some d):i<m/\d=g i:=by
 rw[qay,qad]at h;obtain⟨k,b,rfl⟩:=h;obtain⟨hi,a⟩:=qas.mp b;rw[qg4]at a;rw[qat]at hi;exact⟨hi,by rw[a]⟩
def iK:∀ ns:List Int,uo (ns.map D.int)=true
 |[]=>rfl
 |n::ns=>iK ns
def yK (n:Nat) (f:Nat->Int):okT (.tup (mpI n f))=true:=by
 rw[bv];exact iK _
section
variable {P:Pb}{S:Tb}{st:Sto}
def DO (h:Okt P S):gh [.d (obD P S)] st=some (.d (.lst (mpI P.n λk=>acc S.kept (λi=>S.T i P.n) P.m k)),st):=by
 have hn:=h.n64;generalize H:(λi=>S.T i P.n)=y;have m:∀ (a b c:Option W) (s:Sto),iV 0 [some _,a,b,c] s=some (.d (obD P S),s):=λ_ _ _ _=>rfl;obtain⟨A,s2,w,⟨p,q,rfl⟩,rfl⟩:=bF (g:=.tp [2,3]) (body:=gT) (ds:=(qam P.m).map λi=>D.tup [.int _,.int (nI S.kept i)])
  (λi env s=>(∃ p q,env=[Z (obD P S),some (.h st.length),p,q])/\s=st++[.l (mpI P.n λr=>acc S.kept y i (0+r))])
  ⟨⟨_,_,U⟩,U⟩ (λi d env s hd ⟨⟨p,q,e⟩,es⟩=>by
   subst e es;obtain⟨hi,rfl⟩:=mX hd;refine⟨_,_,_,U,.inl ?_,⟨some (.d (.int ((i:Nat):Int))),Z (.int (nI S.kept i)),U⟩,U⟩;generalize u:(mpI P.n λr=>acc S.kept y i (0+r))=xs;have tl:aB dLt (iV 3) _ [Z (obD P S),some (.h st.length),Z (.int ((i:Nat):Int)),Z (.int (nI S.kept i))] (st++[.l xs])=some (decide _,st++[.l xs]):=av U (bP (m _ _ _ _)) (yB _ _ _);by_cases t:S.kept i<P.n
   ·rw[decide_eq_true (by show ((S.kept i:Nat):Int)<_;lia)]at tl
    have O:iOp dIx (iOp dIx (au ("lines" : Str) (iV 0)) (iV 2)) (iUn iR (iC (.int 1))) [Z (obD P S),some (.h st.length),Z (.int ((i:Nat):Int)),Z (.int (nI S.kept i))] (st++[.l xs])=some (.d (.int (y i)),st++[.l xs]):=by
     rw[<-H];exact ag (ag (cF (m _ _ _ _)) U (rS _ hi)) U (vj _)
    have:=sIx (k:=S.kept i) O (o:=iV 1) (i:=iV 3) U U (by rw[<-u,aA];exact t)
    rw[<-u]at this ⊢ tl;rw[<-oJ (d:=0) (N:=P.n) (e:=S.kept) (y:=y) (i:=i) (by lia) λj E e=>by have:=gR h.good (by lia) hi e;lia];exact cE tl this
   ·rw[decide_eq_false (by show ¬ ((S.kept i:Nat):Int)<_;lia)]at tl
    rw[<-qU (d:=0) (N:=P.n) (e:=S.kept) (y:=y) (i:=i) λr G=>by lia,u]
    exact bn tl U)
 rw[qag,qat]at w
 have:=lR (n:=4) (k:=1) (b:=jm) (ws:=[.d (obD P S)]) (st:=st) (h:=st.length) U (ah (ak (iI (st:=st) (bP (m none none none st)) (by lia) S.kept y 0)) (ah (bz (pq (oQ (m _ _ _ _))) w) U)) (qap _) (gX _ _)
 rw[qdw]at this;simp only[qaR]at this;exact this
def pr (P:Pb) (S:Tb) (i r:Nat):Int:=if ∃ c,c<i/\S.free c=P.n+r then ZV P S (r+1) else 0
def ES (h:Okt P S) (hg:∀ r,r<P.m->P.g (P.n+r)=0):g9 [.d (obD P S)] st=some (.d (.lst (mpI P.m λr=>ZV P S (r+1))),st):=by
 have hm:=h.m64;have hn:=h.n64;have m:∀ (a b c:Option W) (s:Sto),iV 0 [Z (obD P S),a,b,c] s=some (.d (obD P S),s):=λ_ _ _ _=>rfl;have hz:(mpI P.m λr=>acc S.free S.G 0 (0+r))=mpI P.m λr=>pr P S 0 r:=bE λr _=>by
  unfold pr;rw[iFN λ⟨c,Q,_⟩=>by lia];rfl
 have L:=by
  have:=aL (g:=aV) (ab (b:=ac) (cF (m none none none st)) U) (ju _ _)
  rw[cy]at this;exact this
 have s1:=iI (st:=st) L (by lia) S.free S.G 0;rw[hz]at s1;obtain⟨A,s2,w,⟨p,q,rfl⟩,rfl⟩:=bF (g:=.tp [2,3]) (body:=i4) (ds:=(qam P.n).map λi=>D.tup [.int ((i:Nat):Int),.int (nI S.free i)])
  (λi env s=>(∃ p q,env=[Z (obD P S),some (.h st.length),p,q])/\s=st++[.l (mpI P.m λr=>pr P S i r)])
  ⟨⟨_,_,U⟩,U⟩ (λi d env s hd ⟨⟨p,q,e⟩,es⟩=>by
   subst e es;obtain⟨hi,rfl⟩:=mX hd;refine⟨_,_,_,U,.inl ?_,⟨some (.d (.int ((i:Nat):Int))),Z (.int (nI S.free i)),U⟩,U⟩;have hb:=h.named.bound.1 i hi;generalize u:(mpI P.m λr=>pr P S i r)=xs;have tl:aB dGe (iV 3) (au ("amounts" : Str) (iV 0)) [Z (obD P S),some (.h st.length),Z (.int ((i:Nat):Int)),Z (.int (nI S.free i))] (st++[.l xs])=some (decide (nI S.free i>=(P.n:Int)),st++[.l xs]):=av U (bP (m _ _ _ _)) (Ea _ _ _)
   by_cases t:P.n<=S.free i
   ·rw[decide_eq_true (by show ((S.free i:Nat):Int)>=_;lia)]at tl
    have ho:iOp kc (iV 3) (au ("amounts" : Str) (iV 0)) [Z (obD P S),some (.h st.length),Z (.int ((i:Nat):Int)),Z (.int (nI S.free i))] (st++[.l xs])=some (.d (.int ((S.free i - P.n:Nat):Int)),st++[.l xs]):=by
     rw[show ((S.free i - P.n:Nat):Int)=nI S.free i - (P.n:Int) by show _=((S.free i:Nat):Int) - _;lia];exact ag U (bP (m _ _ _ _)) U
    have O:iOp dIx (au ("goal" : Str) (iV 0)) (iV 2) [Z (obD P S),some (.h st.length),Z (.int ((i:Nat):Int)),Z (.int (nI S.free i))] (st++[.l xs])=some (.d (.int (S.G i)),st++[.l xs]):=ag (lc (m _ _ _ _)) U (d7 _ (by lia))
    have:=sIx (k:=S.free i - P.n) O (o:=iV 1) U ho (by rw[<-u,aA];lia)
    have B:xs.set (S.free i - P.n) (.int (S.G i))=mpI P.m λr=>pr P S (i+1) r:=by
     rw[<-u,gk];refine bE λr G=>?_;by_cases er:r=S.free i - P.n
     ·rw[iFP er]
      unfold pr;rw[iFP ⟨i,by lia,by lia⟩];exact (Sx.price_free h.good h.named hg G hi (by lia)).symm
     ·rw[iFN er]
      unfold pr;by_cases ex:∃ c,c<i/\S.free c=P.n+r
      ·rw[iFP ex];obtain⟨c,I,v⟩:=ex;rw[iFP ⟨c,by lia,v⟩]
      ·rw[iFN ex,iFN λ⟨c,I,v⟩=>ex ⟨c,by
        by_cases z:c=i
        ·subst z;lia
        ·lia,v⟩]
    rw[<-B];exact cE tl this
   ·rw[decide_eq_false (by show ¬ ((S.free i:Nat):Int)>=_;lia)]at tl
    have B:xs=mpI P.m λr=>pr P S (i+1) r:=by
     rw[<-u];refine bE λr G=>?_;unfold pr;by_cases ex:∃ c,c<i/\S.free c=P.n+r
     ·rw[iFP ex];obtain⟨c,I,v⟩:=ex;rw[iFP ⟨c,by lia,v⟩]
     ·rw[iFN ex,iFN λ⟨c,I,v⟩=>ex ⟨c,by
        by_cases z:c=i
        ·subst z;lia
        ·lia,v⟩]
    rw[<-B]
    exact bn tl U)
 rw[qag,qat]at w
 have:=lR (n:=4) (k:=1) (b:=kG) (ws:=[.d (obD P S)]) (st:=st) (h:=st.length) U (ah (ak s1) (ah (bz (pq (lb (m _ _ _ _))) w) U)) (qap _) (gX _ _)
 rw[qdw]at this
 rw[bE (f:=λr=>pr P S P.n r) (g:=λr=>ZV P S (r+1)) λr G=>by
  unfold pr;by_cases ex:∃ c,c<P.n/\S.free c=P.n+r
  ·rw[iFP ex]
  ·rw[iFN ex]
   rcases h.named.all (P.n+r) (by lia) with Q|⟨j,E,e⟩
   ·exact absurd Q ex
   ·exact (Sx.price_kept h.good h.named hg G E e).symm]at this
 exact this
def Fs (h:Okt P S) {e:Nat} (he:e<P.n) (ht:∀ i,i<P.m->S.T i e<=0) (hp:∃ k,k<P.n/\Sx.wayN P S e k≠0):∃ g:Int,0<g/\(∀ k,k<P.n->g∣Sx.wayN P S e k)/\jP [.d (obD P S),.d (.int (e:Int))] []=some (.d (.tup (mpI P.n λk=>Sx.wayN P S e k / g)),[]):=by
 have hm:=h.m64;have hn:=h.n64;have m:∀ (a b c d:Option W) (s:Sto),iV 0 [Z (obD P S),a,b,c,d] s=some (.d (obD P S),s):=λ_ _ _ _ _=>rfl;have R:∀ i,i<P.m->S.kept i≠S.free e:=λi hi e1=>by
  have I:=h.good.entry (c:=e) (by lia) hi;have v:colV P S e=basis P S i:=by unfold colV basis;rw[iFP he,e1]
  rw[v,Sx.upd_self,<-h.good.dt]at I
  have:=ht i hi
  have:=h.good.pos
  lia
 generalize H:(λi=>- S.T i e)=y;have hw:∀ k,Sx.wayN P S e k=if k=S.free e then S.p else acc S.kept y P.m k:=λk=>by
  show Sx.byName P S (λi=>- S.T i e) k+_=_;rw[H];by_cases t:k=S.free e
  ·rw[iFP t,iFP t.symm,Sx.byName_not λi hi=>by rw[t];exact R i hi];lia
  ·rw[iFN t,iFN (qbL t)]
   show acc S.kept y P.m k+0=_;lia
 obtain⟨A,s2,w,⟨p,q,rfl⟩,rfl⟩:=bF (g:=.tp [3,4]) (body:=mN) (ds:=(qam P.m).map λi=>D.tup [.int ((i:Nat):Int),.int (nI S.kept i)])
  (λi env s=>(∃ p q,env=[Z (obD P S),Z (.int (e:Int)),some (.h 0),p,q])/\s=[]++[.l (mpI P.n λr=>acc S.kept y i (0+r))])
  (env:=[Z (obD P S),Z (.int (e:Int)),some (.h 0),none,none]) (st:=[]++[.l (mpI P.n λr=>acc S.kept y 0 (0+r))]) ⟨⟨_,_,U⟩,U⟩ (λi d env s hd ⟨⟨p,q,e0⟩,es⟩=>by
   subst e0 es;obtain⟨hi,rfl⟩:=mX hd;refine⟨_,_,_,U,.inl ?_,⟨some (.d (.int ((i:Nat):Int))),Z (.int (nI S.kept i)),U⟩,U⟩;generalize u:(mpI P.n λr=>acc S.kept y i (0+r))=xs;have tl:aB dLt (iV 4) (au ("amounts" : Str) (iV 0)) [Z (obD P S),Z (.int (e:Int)),some (.h 0),Z (.int ((i:Nat):Int)),Z (.int (nI S.kept i))] ([]++[.l xs])=some (decide (nI S.kept i<(P.n:Int)),[]++[.l xs]):=av U (bP (m _ _ _ _ _)) (yB _ _ _)
   by_cases t:S.kept i<P.n
   ·rw[decide_eq_true (by show ((S.kept i:Nat):Int)<_;lia)]at tl
    have O:iUn iR (iOp dIx (iOp dIx (au ("lines" : Str) (iV 0)) (iV 3)) (iV 1)) [Z (obD P S),Z (.int (e:Int)),some (.h 0),Z (.int ((i:Nat):Int)),Z (.int (nI S.kept i))] ([]++[.l xs])=some (.d (.int (y i)),[]++[.l xs]):=by
     rw[<-H]
     have:=ag (g:=dIx) (ag (g:=dIx) (cF (m (Z (.int (e:Int))) (some (.h 0)) (Z (.int ((i:Nat):Int))) (Z (.int (nI S.kept i))) ([]++[C.l xs]))) (b:=iV 3) U (rS _ hi)) (b:=iV 1) U (rR (c:=e) _ (by lia))
     simp only[iUn,this,qaa];rfl
    have:=sIx (st:=[]) (k:=S.kept i) O (o:=iV 2) (i:=iV 4) U U (by rw[<-u,aA];exact t)
    rw[<-u]at this ⊢ tl;rw[<-oJ (d:=0) (N:=P.n) (e:=S.kept) (y:=y) (i:=i) (by lia) λj E e=>by have:=gR h.good (by lia) hi e;lia];exact cE tl this
   ·rw[decide_eq_false (by show ¬ ((S.kept i:Nat):Int)<_;lia)]at tl
    rw[<-qU (d:=0) (N:=P.n) (e:=S.kept) (y:=y) (i:=i) λr G=>by lia,u]
    exact bn tl U)
 rw[qag,qat]at w;have s3:aT (aB dLt (iOp dIx (au ("free" : Str) (iV 0)) (iV 1)) (au ("amounts" : Str) (iV 0))) (bj (iV 2) (iOp dIx (au ("free" : Str) (iV 0)) (iV 1)) (au ("part" : Str) (iV 0))) aH [Z (obD P S),Z (.int (e:Int)),some (.h 0),p,q] ([]++[.l (mpI P.n λr=>acc S.kept y P.m (0+r))])=some (.nx [Z (obD P S),Z (.int (e:Int)),some (.h 0),p,q] ([]++[.l (mpI P.n λk=>Sx.wayN P S e k)])):=by
  have Y:∀ s,iOp dIx (au ("free" : Str) (iV 0)) (iV 1) [Z (obD P S),Z (.int (e:Int)),some (.h 0),p,q] s=some (.d (.int (nI S.free e)),s):=λs=>ag (lb (m _ _ _ _ _)) U (d7 _ he)
  generalize u:(mpI P.n λr=>acc S.kept y P.m (0+r))=xs;have tl:aB dLt (iOp dIx (au ("free" : Str) (iV 0)) (iV 1)) (au ("amounts" : Str) (iV 0)) [Z (obD P S),Z (.int (e:Int)),some (.h 0),p,q] ([]++[.l xs])=some (decide (nI S.free e<(P.n:Int)),[]++[.l xs]):=av (Y _) (bP (m _ _ _ _ _)) (yB _ _ _)
  by_cases t:S.free e<P.n
  ·rw[decide_eq_true (by show ((S.free e:Nat):Int)<_;lia)]at tl
   have:=sIx (st:=[]) (k:=S.free e) (lh (m (Z (.int (e:Int))) (some (.h 0)) p q ([]++[C.l xs]))) (o:=iV 2) (i:=iOp dIx (au ("free" : Str) (iV 0)) (iV 1)) U (Y _) (by rw[<-u,aA];exact t)
   have B:xs.set (S.free e) (.int S.p)=mpI P.n λk=>Sx.wayN P S e k:=by
    rw[<-u,gk];refine bE λk _=>?_;rw[hw k,qaR]
   rw[B]at this;exact cE tl this
  ·rw[decide_eq_false (by show ¬ ((S.free e:Nat):Int)<_;lia)]at tl
   have B:xs=mpI P.n λk=>Sx.wayN P S e k:=by
    rw[<-u];refine bE λk hk'=>?_;rw[hw k,qaR,iFN (by lia)]
   rw[<-B];exact bn tl U
 obtain⟨T,F,J⟩:=hp;have K:∀ x∈(qam P.n).map (Sx.wayN P S e),Sm x:=λx hx=>by
  obtain⟨k,t,rfl⟩:=qaM.mp hx;rw[hw k];by_cases z:k=S.free e
  ·rw[iFP z];exact h.sp
  ·rw[iFN z]
   by_cases ex:∃ i,i<P.m/\S.kept i=k
   ·obtain⟨i,hi,rfl⟩:=ex
    have:acc S.kept y P.m (S.kept i)=y i:=Sx.byName_at (λi j hi E=>gR h.good hi E) hi
    rw[this,<-H];show (- S.T i e).natAbs<_;rw[qh3];exact h.sT i e hi (by lia)
   ·rw[lW λj E e=>ex ⟨j,E,e⟩]
    exact qeS (by decide)
 have M:=ui (st:=[]) K ⟨_,qaM.mpr ⟨T,qaQ.mpr F,U⟩,J⟩ (by rw[qag,qat];lia);obtain⟨g0,g1⟩:=kj (ns:=(qam P.n).map (Sx.wayN P S e)) (qaM.mpr ⟨T,qaQ.mpr F,U⟩) J (K _ (qaM.mpr ⟨T,qaQ.mpr F,U⟩));have gd:∀ k,k<P.n->((dj 0 ((qam P.n).map (Sx.wayN P S e)):Nat):Int)∣Sx.wayN P S e k:=λk t=>qcK.mpr ((dk 0 _).2 _ (qaM.mpr ⟨k,qaQ.mpr t,U⟩));generalize hG:((dj 0 ((qam P.n).map (Sx.wayN P S e)):Nat):Int)=g at *;refine⟨g,g0,gd,?_⟩;rw[<-bv,qaO,qaO]at M;have Q:cW cZ (aa (iV 2) ac) [Z (obD P S),Z (.int (e:Int)),some (.h 0),p,q] ([]++[.l (mpI P.n λk=>Sx.wayN P S e k)])=some (.d (.tup (mpI P.n λk=>Sx.wayN P S e k / g)),[]++[.l (mpI P.n λk=>Sx.wayN P S e k)]):=by
  have ha:aa (iV 2) ac [Z (obD P S),Z (.int (e:Int)),some (.h 0),p,q] ([]++[.l (mpI P.n λk=>Sx.wayN P S e k)])=some ([.h 0],[]++[.l (mpI P.n λk=>Sx.wayN P S e k)]):=rfl;have X:vwA ([]++[.l (mpI P.n λk=>Sx.wayN P S e k)]) [.h 0]=some [.d (.lst (mpI P.n λk=>Sx.wayN P S e k))]:=rfl;have V:cZ [.d (.lst (mpI P.n λk=>Sx.wayN P S e k))] []=some (.d (.tup (mpI P.n λk=>Sx.wayN P S e k / g)),[]):=M;simp only[cW,ha,qaa,X,V];rw[iFP];exact yK _ _
 have:=ni (n:=5) (k:=2) (b:=qZ) (ws:=[.d (obD P S),.d (.int (e:Int))]) (st:=[]) U (ah (ak (iI (st:=[]) (bP (m (Z (.int (e:Int))) none none none [])) (by lia) S.kept y 0)) (ah (bz (pq (oQ (m _ _ _ _ _))) w) (ah s3 (aJ Q))))
 exact this
end
end Own
set_option maxHeartbeats 1000000
namespace Own
open PySem L2
open Sx (Pb Tb Good Named Fe LV ZV piv lexP leastR leaveL sumN unit colV basis)
def l9 {m:Fn}{a:Af}{env:Ev}{st:Sto}{ws b:List W}{x:D} (f:a env st=some (ws,st)) (e:vwA st ws=some b) (hm:m b []=some (.d x,[])) (c:okT x=true):cW m a env st=some (.d x,st):=by
 simp only[cW,f,qaa,e,hm];rw[iFP c]
structure Pd (P:Pb):Prop where
 bd:Sx.Bd P
 hA:∀ k,k<P.n+P.m->∀ t,P.m<=t->P.A k t=0
 hb:∀ t,P.m<=t->P.b t=0
 hg:∀ r,r<P.m->P.g (P.n+r)=0
section
variable {P:Pb}{S:Tb}
def Pd.okt (d:Pd P) (g:Good P S) (n:Named P S):Okt P S:=CJ d.bd g n
def Pd.kept (d:Pd P) (n:Named P S):∀ i,i<P.m->∀ t,P.m<=t->P.A (S.kept i) t=0:=λi hi t B=>d.hA _ (n.bound.2 i hi) t B
def FC (g:Good P S) (f:Fe P S):∀ i,i<P.m->0<=S.T i P.n:=λi hi=>by
 rw[g.entry (qap _) hi]
 have:colV P S P.n=Sx.XV P 0:=by unfold colV Sx.XV;rw[iFN (qa9 _),iFP U]
 rw[this];exact (Sx.lexP_first (by lia) (f i hi))
structure xK (P:Pb) (p:Int) (am pr:Nat->Int):Prop where
 p1:1<=p
 am0:∀ k,k<P.n->0<=am k
 pr0:∀ r,r<P.m->0<=pr r
 rows:∀ r,r<P.m->(sumN P.n λj=>am j*P.A j r)<=p*P.b r
 cols:∀ j,j<P.n->p*P.g j<=sumN P.m λr=>P.A j r*pr r
 same:(sumN P.m λr=>P.b r*pr r)=sumN P.n λj=>am j*P.g j
 sp:Sm p
 sa:∀ k,k<P.n->Sm (am k)
 sr:∀ r,r<P.m->Sm (pr r)
structure lU (P:Pb) (way:Nat->Int):Prop where
 w0:∀ k,k<P.n->0<=way k
 rows:∀ r,r<P.m->(sumN P.n λj=>way j*P.A j r)<=0
 gain:0<sumN P.n λj=>way j*P.g j
def me {g a:Int} (h:g∣a):g*(a / g)=a:=qdH h
def qM {n:Nat}{g:Int}{f h:Nat->Int} (hd:∀ k,k<n->g∣f k):g*(sumN n λk=>f k / g*h k)=sumN n λk=>f k*h k:=by
 rw[<-Sx.sumN_mul];refine Sx.sumN_congr λk m=>?_;rw[<-qbt,me (hd k m)]
def v7 {n:Nat}{g:Int}{f h:Nat->Int} (hd:∀ k,k<n->g∣f k):g*(sumN n λk=>h k*(f k / g))=sumN n λk=>h k*f k:=by
 rw[<-Sx.sumN_mul];refine Sx.sumN_congr λk m=>?_;rw[qaT,me (hd k m)]
def Fu (h:Okt P S) (hg:∀ r,r<P.m->P.g (P.n+r)=0) (y:∀ c,c<P.n->0<=S.G c) {r:Nat} (l:r<P.m):Sm (ZV P S (r+1))/\0<=ZV P S (r+1):=by
 rcases h.named.all (P.n+r) (by lia) with⟨c,Q,e⟩|⟨j,u,e⟩
 ·rw[Sx.price_free h.good h.named hg l Q e];exact⟨h.sG c (by lia),y c Q⟩
 ·rw[Sx.price_kept h.good h.named hg l u e];exact⟨qeS (by decide),qcE _⟩
def DP (h:Okt P S) (k:Nat):Sm (acc S.kept (λi=>S.T i P.n) P.m k):=by
 by_cases ex:∃ i,i<P.m/\S.kept i=k
 ·obtain⟨i,hi,rfl⟩:=ex
  have:acc S.kept (λi=>S.T i P.n) P.m _=S.T i P.n:=Sx.byName_at (λi j hi u=>gR h.good hi u) hi
  rw[this];exact h.sT i P.n hi (qap _)
 ·rw[lW λj u e=>ex ⟨j,u,e⟩]
  exact qeS (by decide)
def ue {g a b:Int} (T:0<g) (h:g*a<=g*b):a<=b:=Int.le_of_mul_le_mul_left h T
def Sm.dv {a:Int} (h:Sm a) (q:Int):Sm (a / q):=qbQ (Int.natAbs_ediv_le_natAbs a q) h
def D4 (d:Pd P) (g:Good P S) (n:Named P S) (f:Fe P S) (y:∀ c,c<P.n->0<=S.G c):∃ p am pr,xK P p am pr/\gj [.d (obD P S)] []=some (.d (.tup [.str "most",.int p,.tup (mpI P.n am),.tup (mpI P.m pr)]),[]):=by
 have h:=d.okt g n;have hm:=h.m64;have hn:=h.n64;have K:=FC g f;have V:=DO (st:=[]) h;have e2:=ES (st:=[]) h d.hg;have hg:=d.hg;have M1:=λr l=>Sx.amounts_ok g n K (r:=r) l;have M2:=Sx.gains_amounts g n d.hg;have M3:=λj u=>Sx.prices_ok g n d.hA y (j:=j) u;have M4:=Sx.bounds_prices g d.hb;have M5:∀ k,0<=acc S.kept (λi=>S.T i P.n) P.m k:=λk=>Sx.byName_nonneg (P:=P) (S:=S) K k;have M6:=DP h;have M7:=λr l=>Fu h d.hg y (r:=r) l;have M9:∀ j,Sx.byName P S (λi=>S.T i P.n) j=acc S.kept (λi=>S.T i P.n) P.m j:=λ_=>rfl;simp only[M9]at M1 M2;generalize acc S.kept (λi=>S.T i P.n) P.m=am at *;generalize I:(λr=>ZV P S (r+1))=pr at *;have A:∀ r,ZV P S (r+1)=pr r:=λr=>by rw[<-I]
 simp only[A]at M3 M4 M7;have hns:D.int S.p::(mpI P.n am++mpI P.m pr)=(S.p::((qam P.n).map am++(qam P.m).map pr)).map D.int:=by
  rw[qar,qbS,bv,bv]
 have F:∀ x∈S.p::((qam P.n).map am++(qam P.m).map pr),Sm x:=λx o=>by
  rcases qaA.mp o with rfl|o
  ·exact h.sp
  ·rcases qaS.mp o with o|o
   ·obtain⟨k,_,rfl⟩:=qaM.mp o;exact M6 k
   ·obtain⟨k,m,rfl⟩:=qaM.mp o;exact (M7 k (qaQ.mp m)).1
 have O:=mw (st:=[]) F;have N:=g.pos;obtain⟨v,G⟩:=kj qaf (by lia) h.sp;have w:∀ x∈S.p::((qam P.n).map am++(qam P.m).map pr),_∣x:=λx o=>qcK.mpr ((dk 0 _).2 _ o);rw[<-hns]at O;generalize ((dj 0 _:Nat):Int)=q at *;have dp:q∣S.p:=w _ qaf;have R:=λk m=>w _ (qak _ (qaX _ (qaM.mpr ⟨k,qaQ.mpr m,U⟩)));have M:=λk m=>w _ (qak _ (qau _ (qaM.mpr ⟨k,qaQ.mpr m,U⟩)));refine⟨S.p / q,λk=>am k / q,λr=>pr r / q,⟨?_,λk _=>qdM (M5 k) (by lia),λr l=>qdM (M7 r l).2 (by lia),λr l=>?_,λj u=>?_,?_,h.sp.dv _,λk _=>(M6 k).dv _,λr l=>(M7 r l).1.dv _⟩,?_⟩
 ·have:=me dp
  rcases Int.lt_or_le (S.p / q) 1 with z|z
  ·have:q*(S.p / q)<=q*0:=qdF (by lia) (by lia)
   lia
  ·exact z
 ·refine ue v ?_
  rw[qM (h:=λj=>P.A j r) R,<-qbt,me dp];exact M1 r l
 ·refine ue v ?_
  rw[v7 (h:=λr=>P.A j r) M,<-qbt,me dp];exact M3 j u
 ·refine qdZ (a:=q) (by lia) ?_
  rw[v7 (h:=λr=>P.b r) M,qM (h:=λj=>P.g j) R,M4,M2]
 ·have C:∀ (a b c:Option W) (s:Sto),iV 0 [Z (obD P S),a,b,c] s=some (.d (obD P S),s):=λ_ _ _ _=>rfl
  have X:lcI (.nm 0) aK dX [none,Z (.int q)] (mpI P.n am) []=some (mpI P.n λk=>am k / q,[]):=by
   have:=pj (te:=dX) (st:=[]) (ns:=(qam P.n).map am) v G U
   rw[<-bv,qaO,qaO]at this;exact this
  have Y:lcI (.nm 0) aK dW [none,Z (.int q)] (mpI P.m pr) []=some (mpI P.m λk=>pr k / q,[]):=by
   have:=pj (te:=dW) (st:=[]) (ns:=(qam P.m).map pr) v G U
   rw[<-bv,qaO,qaO]at this;exact this
  have la:(mpI P.n am).length<=1000000:=by rw[aA];lia
  have lr:(mpI P.m pr).length<=1000000:=by rw[aA];lia
  have E:[D.int S.p].length+(mpI P.n am).length<=1000000:=by rw[aA];show 1+_<=_;lia
  have H:([D.int S.p]++mpI P.n am).length+(mpI P.m pr).length<=1000000:=by rw[qaz,aA,aA];show 1+_+_<=_;lia
  generalize mpI P.n am=AM at *;generalize mpI P.m pr=PR at *;have s3:az (.nm 3) (ap bm (aa (iOp be (iOp be (aq (bM (aa (au ("part" : Str) (iV 0)) ac))) (iV 1)) (iV 2)) ac)) [Z (obD P S),Z (.lst AM),Z (.lst PR),none] []=some (.nx [Z (obD P S),Z (.lst AM),Z (.lst PR),Z (.int q)] []):=by
   have hl:bM (aa (au ("part" : Str) (iV 0)) ac) [Z (obD P S),Z (.lst AM),Z (.lst PR),none] []=some ([.int S.p],[]):=by
    have:=ab (b:=ac) (lh (C (Z (.lst AM)) (Z (.lst PR)) none [])) U
    rfl
   exact ak (ai (ab (ag (ag (ay hl) U (eV _ E)) U (eV _ H)) U) O)
  exact aw (n:=4) (k:=1) (b:=jn) U (ah (ak (ai (ab (C _ _ _ _) U) V)) (ah (ak (ai (ab (C _ _ _ _) U) e2)) (ah s3 (aJ (Dh (ab U (ab (ag (lh (C _ _ _ _)) U (pi _ v G)) (ab (aL (ab (ay (aS (aZ U) la X)) U) U) (ab (aL (ab (ay (aS (aZ U) lr Y)) U) U) U)))) U (by show 4<=1000;decide))))))
def DW (d:Pd P) (g:Good P S) (n:Named P S) {e:Nat} (J:e<P.n) (B:∀ i,i<P.m->S.T i e<=0) (y:S.G e<0):∃ way,lU P way/\jP [.d (obD P S),.d (.int (e:Int))] []=some (.d (.tup (mpI P.n way)),[]):=by
 have W1:=Sx.way_gains g n d.hg J y;have N:∃ k,k<P.n/\Sx.wayN P S e k≠0:=by
  by_cases z:∃ k,k<P.n/\Sx.wayN P S e k≠0
  ·exact z
  ·rw[Sx.sumN_congr λk m=>by
    by_cases L:Sx.wayN P S e k=0
    ·rw[L,qbW]
    ·exact absurd ⟨k,m,L⟩ z,Sx.sumN_zero]at W1
   lia
 obtain⟨q,v,w,ew⟩:=Fs (d.okt g n) J B N;refine⟨_,⟨λk _=>qdM (Sx.way_nonneg g B k) (by lia),λr l=>?_,?_⟩,ew⟩
 ·refine ue v ?_
  rw[qM w,qa3];exact Sx.way_rows g n J B l
 ·refine Int.lt_of_mul_lt_mul_left (a:=q) ?_ (by lia)
  rw[qM w,qa3];exact W1
end
end Own
set_option maxHeartbeats 1000000
namespace Own
open PySem L2
open Sx (Pb Tb Good Named Fe LV ZV piv lexP leastR leaveL sumN unit colV basis)
def FN (n:Nat) (f:Nat->Int):okT (.tup [.str "beyond",.tup (mpI n f)])=true:=by
 simp only[okT,uo,bv,iK,qia]
def EG (n m:Nat) (p:Int) (f g:Nat->Int):okT (.tup [.str "most",.int p,.tup (mpI n f),.tup (mpI m g)])=true:=by
 simp only[okT,uo,bv,iK,qia]
def DN (P:Pb) (S:Tb) (x:D):Prop:=(∃ c,c<P.n/\S.G c<0/\(∀ i,i<P.m->S.T i c<=0)/\x=.tup [.int (c:Int),.non])\/(jY P S x/\(x=.non->∀ c,c<P.n->0<=S.G c))
section
variable {P:Pb}{S:Tb}
def zy (d:Pd P) (g:Good P S) (n:Named P S):∃ x,DN P S x/\okT x=true/\bJ [.d (obD P S)] []=some (.d x,[]):=by
 rcases DV (d.okt g n) (d.kept n) with⟨c,m,hg,A,e⟩|⟨y,H,hn,e⟩
 ·exact⟨_,.inl ⟨c,m,hg,A,U⟩,U,e⟩
 ·refine⟨y,.inr ⟨H,hn⟩,?_,e⟩
  rcases H with rfl|⟨c,r,_,_,_,_,_,_,rfl⟩<;>rfl
def j6 {st0:Sto}{a b c o:Option W}{x:D} (e:bJ [.d (obD P S)] []=some (.d x,[])) (s:okT x=true):cW bJ (aa (iV 3) ac) [a,b,c,some (.h (st0.length+2)),o] (stO st0 P S)=some (.d x,stO st0 P S):=
 l9 U (zF U) e s
def nK (P:Pb) (f:Nat) (S:Tb) (x:D):Prop:=
 (∃ S' k,lU P k/\∀ (st0:Sto) (a b c:Option W),cB gy eS f [a,b,c,some (.h (st0.length+2)),Z x] (stO st0 P S)=some (.rt (.d (.tup [.str "beyond",.tup (mpI P.n k)])) (stO st0 P S')))\/
 ∃ S',Good P S'/\Named P S'/\Fe P S'/\(∀ c,c<P.n->0<=S'.G c)/\∀ (st0:Sto) (a b c:Option W),cB gy eS f [a,b,c,some (.h (st0.length+2)),Z x] (stO st0 P S)=some (.nx [a,b,c,some (.h (st0.length+2)),Z .non] (stO st0 P S'))
def vD (d:Pd P):∀ (f:Nat) (V:List Nat) (S:Tb) (x:D),Good P S->Named P S->Fe P S->DN P S x->V.Nodup->(∀ v∈V,v<(P.n+P.m)^P.m)->(∀ v∈V,∃ S',Good P S'/\Named P S'/\Sx.code (P.n+P.m) S'.kept P.m=v/\Sx.less P S' S)->(P.n+P.m)^P.m<f+V.length->nK P f S x
 |0,V,S,x,_,_,_,_,z,hb,_,N=>by
  have:=Sx.nodup_le _ V z hb
  lia
 |f+1,V,S,x,hg,hn,I,s,z,hb,K,N=>by
  have h:=d.okt hg hn;rcases s with⟨c,m,F,A,rfl⟩|⟨s,B⟩
  ·obtain⟨k,G,ew⟩:=DW d hg hn m A F
   refine .inl ⟨S,k,G,λst0 a b o=>?_⟩;refine EW U (dF (cE U (aJ (Dh (ws:=[.d _,.d _]) (ab U (ab ?_ U)) U (by show 2<=1000;decide)))));refine l9 (ab U (ab (ag U U (ky _ _ _)) U)) (zF U) ew ?_;exact yK _ _
  ·rcases s with rfl|⟨c,r,m,F,_,M,Q,q,rfl⟩
   ·exact .inr ⟨S,hg,hn,I,B U,λst0 a b o=>BM U⟩
   ·obtain⟨w,L,f2,J⟩:=Sx.step hg hn I m M Q F q
    obtain⟨y,Y,R,ey⟩:=zy d w L;have j:∀ {S':Tb},Named P S'->∀ i,i<P.m->S'.kept i<P.n+P.m:=λp i hi=>p.bound.2 i hi;have t:∀ (st0:Sto) (a b o:Option W),eS [a,b,o,some _,some _] _=some _:=λst0 a b o=>by
     have ed:jy (ap eh (aa (iV 3) (aa (iOp dIx (iV 4) (iC (.int 1))) (aa (iOp dIx (iV 4) (iC (.int 0))) ac)))) [a,b,o,some (.h (st0.length+2)),Z (.tup [.int (c),.int (r)])] (stO st0 P S)=some (.nx [a,b,o,some (.h (st0.length+2)),Z (.tup [.int (c),.int (r)])] (stO st0 P (piv S r c))):=by
      have:=ai (a:=aa (iV 3) (aa (iOp dIx (iV 4) (iC _)) (aa (iOp dIx (iV 4) (iC _)) ac))) (env:=[a,b,o,some _,some _]) (st:=stO st0 P S) (ab U (ab (ag U U (gD _ _ _)) (ab (ag U U (ky _ _ _)) U))) (z7 h M m)
      simp only[jy,this,qah]
     exact ah (bn U U) (ah ed (ak (j6 ey R)))
    rcases (vD d f _ _ y w L f2 Y
     (qci.mpr ⟨λhm=>by
       obtain⟨S',u,p,C,E⟩:=K _ hm
       exact Sx.less_kept u hg E (Sx.code_inj (j p) (j hn) C),z⟩)
     (λv l=>by
       rcases qaA.mp l with rfl|l
       ·exact Sx.code_lt (j hn)
       ·exact hb v l)
     (λv l=>by
       rcases qaA.mp l with rfl|l
       ·exact⟨S,hg,hn,U,J⟩
       ·obtain⟨S',u,p,C,E⟩:=K v l
        exact⟨S',u,p,C,Sx.less_trans u.pos hg.pos w.pos E J⟩)
     (by rw[qan];lia)) with⟨S',k,G,hw⟩|⟨S',gS,T,O,X,hw⟩
    ·exact .inl ⟨S',k,G,λst0 a b o=>zd U (t st0 a b o) (hw st0 a b o)⟩
    ·exact .inr ⟨S',gS,T,O,X,λst0 a b o=>zd U (t st0 a b o) (hw st0 a b o)⟩
end
def hW (m n:Nat) (R:Nat->Nat->Int) (b g:Nat->Int):Pb where
 m:=m
 n:=n
 A:=λk t=>if k<n then (if t<m then R t k else 0) else unit (k - n) t
 b:=λt=>if t<m then b t else 0
 g:=λk=>if k<n then g k else 0
def Bi (m n:Nat) (R:Nat->Nat->Int) (b g:Nat->Int):Tb:=Sx.tb0 (hW m n R b g) (λi c=>if c<n then R i c else b i) (λc=>if c<n then - g c else 0)
def kT (m n:Nat) (R:Nat->Nat->Int):D:=.tup ((qam m).map λi=>D.tup (mpI n (R i)))
structure Inp (m n:Nat) (R:Nat->Nat->Int) (b g:Nat->Int):Prop where
 m64:m<=64
 n64:n<=100
 R:∀ i c,i<m->c<n->(R i c).natAbs<=2^50
 b:∀ i,i<m->(b i).natAbs<=2^50/\0<=b i
 g:∀ c,c<n->(g c).natAbs<=2^50
section
variable {m n:Nat}{R:Nat->Nat->Int}{b g:Nat->Int}
def BC (h:Inp m n R b g):Pd (hW m n R b g) where
 bd:={
  m64:=h.m64
  n64:=h.n64
  A:=λk _ t j=>by
   show (if k<n then _ else unit _ t).natAbs<=_;by_cases e:k<n
   ·rw[iFP e,iFP (show t<m from j)];exact h.R t k j e
   ·rw[iFN e];exact Sx.unit_le _ _
  b:=λt j=>by
   show (if t<m then b t else 0).natAbs<=_;rw[iFP (show t<m from j)];exact (h.b t j).1
  g:=λk _=>by
   show (if k<n then g k else 0).natAbs<=_;by_cases e:k<n
   ·rw[iFP e];exact h.g k e
   ·rw[iFN e];exact qcl _ }
 hA:=λk e t j=>by
  have hk':k<n+m:=e;have T:m<=t:=j;show (if k<n then _ else unit _ t)=0;by_cases q:k<n
  ·rw[iFP q,iFN (by lia)]
  ·rw[iFN q];unfold unit;rw[iFN (by lia)]
 hb:=λt j=>iFN (qhs.mpr j)
 hg:=λr _=>iFN (by show ¬ n+r<n;lia)
def Aa (h:Inp m n R b g):Good (hW m n R b g) (Bi m n R b g)/\Named (hW m n R b g) (Bi m n R b g)/\Fe (hW m n R b g) (Bi m n R b g):=by
 have d:=BC h
 have:=Sx.good0
  (λr _=>by
    funext t
    show (if n+r<n then _ else unit (n+r - n) t)=_
    rw[iFN (by lia),qaH])
  (λk e=>d.hA k (by lia)) d.hb d.hg
  (λi c hi z=>by
    show (if c<n then R i c else b i)=if c<n then _ else _
    rw[iFP (show c<n from z),iFP (show c<n from z),iFP (show i<m from hi)])
  (λi hi=>by
    show (if n<n then _ else b i)=if i<m then b i else 0
    rw[iFN (qa9 _),iFP (show i<m from hi)])
  (λc z=>by
    show (if c<n then - g c else 0)=- (if c<n then g c else 0)
    rw[iFP (show c<n from z),iFP (show c<n from z)])
  (by show (if n<n then _ else _)=0;rw[iFN (qa9 _)])
 refine⟨this.1,this.2.1,this.2.2 λt j=>?_⟩;show 0<=if t<m then b t else 0;rw[iFP (show t<m from j)];exact (h.b t j).2
def vF (f:Nat->Int) (x:Int):mpI n f++[.int x]=mpI (n+1) λc=>if c<n then f c else x:=by
 rw[mY,iFN (qa9 _)];rw[bE (g:=λc=>if c<n then f c else x) λk e=>by rw[iFP e]]
def zo (lo:Nat) (m:Nat):bK (lo:Int) m=mpI m (nI λi=>lo+i):=by
 refine qck λk _=>?_;show D.int _=D.int (((lo+k:Nat)));rw[Int.natCast_add]
def Ey {st0:Sto}{O J:Option W} (h:Inp m n R b g):oo 4 4 bT (aa (iV 0) (aa (iV 1) (aa (iV 2) ac))) [some (.d (kT m n R)),some (.d (.tup (mpI m b))),some (.d (.tup (mpI n g))),O,J] st0=some (.h (st0.length+2),stO st0 (hW m n R b g) (Bi m n R b g)):=by
 have hm:=h.m64;have hn:=h.n64;generalize G:([none,some (.d (kT m n R)),some (.d (.tup (mpI m b))),some (.d (.tup (mpI n g)))]:Ev)=E;have v1:∀ s,iV 1 E s=some (.d (kT m n R),s):=λs=>by rw[<-G];rfl
 have X:∀ s,iV 2 E s=some (.d (.tup (mpI m b)),s):=λs=>by rw[<-G];rfl
 have Q:∀ s,iV 3 E s=some (.d (.tup (mpI n g)),s):=λs=>by rw[<-G];rfl
 have a:∀ s,iCB aV (aa (iV 3) ac) E s=some (.d (.int (n:Int)),s):=λs=>by
  have:=aL (g:=aV) (d:=.int ((mpI n g).length:Nat)) (ab (b:=ac) (Q s) U) U
  rw[aA]at this;exact this
 have F:∀ s,iCB aV (aa (iV 1) ac) E s=some (.d (.int (m:Int)),s):=λs=>by
  have:=aL (g:=aV) (d:=.int (((qam m).map λi=>D.tup (mpI n (R i))).length:Nat)) (ab (b:=ac) (v1 s) U) U
  rw[qag,qat]at this;exact this
 have f2:aq (iLc 2 [] (fF (aa (iV 1) (aa (iV 2) ac))) (.tp [0,1]) aK gN) E st0=some (.d (.lst (aR m n λi c=>if c<n then R i c else b i)),st0):=by
  have hz:fF (aa (iV 1) (aa (iV 2) ac)) E st0=some ((qam m).map λi=>D.tup [.tup (mpI n (R i)),.int (b i)],st0):=by
   have o:iq ((qam m).map λi=>D.tup (mpI n (R i))) (mpI m b)=(qam m).map λi=>D.tup [.tup (mpI n (R i)),.int (b i)]:=by
    apply qbz;intro i;rw[fU,qay,qay];by_cases hi:i<m
    ·rw[bi hi,qbf hi];rfl
    ·rw[qaD (l:=qam m) (by rw[qat];lia)];rfl
   rw[<-o]
   have:=ab (v1 st0) (ab (b:=ac) (X st0) U)
   simp only[fF,this,qaa];rfl
  refine ay (aS hz (by rw[qag,qat];lia) ?_);refine yw (g:=λi=>(D.tup (mpI n (R i)),.int (b i))) (lnD n λi c=>if c<n then R i c else b i) λi hi=>?_;unfold lnD;rw[<-vF (R i) (b i)];exact ag (ay (show iCL vq (aa (iV 0) ac) _ _=some (mpI n (R i),_) from U)) (ay (show bM (aa (iV 1) ac) _ _=some ([.int (b i)],_) from U)) (eV _ (by rw[aA];show _+1<=_;lia))
 have Y:iOp be (aq (iLc 1 [] (aC (iV 3)) (.nm 0) aK gO)) (aq (bM (aa (iC (.int 0)) ac))) E st0=some (.d (.lst (mpI (n+1) λc=>if c<n then - g c else 0)),st0):=by
  rw[<-vF (λc=>- g c) 0];refine ag (ay (aS (bg (Q st0)) (by rw[aA];lia) (gA (g:=λk=>D.int (g k)) (λk=>D.int (- g k)) λk _=>rfl))) (ay (show bM (aa (iC (.int 0)) ac) E st0=some ([.int 0],st0) from U)) (eV _ ?_);rw[qag,qat];show _+1<=_;lia
 have f5:cX (wQ (aa (iCB aV (aa (iV 3) ac)) ac)) E st0=some (.h st0.length,st0++[.l (mpI n (nI λc=>c))]):=by
  have:=ab (b:=ac) (a st0) U
  have o:wQ (aa (iCB aV (aa (iV 3) ac)) ac) E st0=some (mpI n (nI λc=>c),st0):=by
   simp only[wQ,this,qaa];rw[iFP ⟨by lia,by lia⟩,qbp,show bK 0 n=bK ((0:Nat):Int) n from U,zo];simp only[qaR]
  simp only[cX,o,qah]
 have f6:cX (px (aa (iCB aV (aa (iV 3) ac)) (aa (iOp be (iCB aV (aa (iV 3) ac)) (iCB aV (aa (iV 1) ac))) ac))) E (st0++[.l (mpI n (nI λc=>c))])=some (.h (st0.length+1),st0++[.l (mpI n (nI λc=>c)),.l (mpI m (nI λi=>n+i))]):=by
  generalize hs:(st0++[C.l (mpI n (nI λc=>c))])=s1;have h2:iOp be (iCB aV (aa (iV 3) ac)) (iCB aV (aa (iV 1) ac)) E s1=some (.d (.int ((n:Int)+(m:Int))),s1):=ag (a s1) (F s1) U
  have:=ab (a s1) (ab (b:=ac) h2 U)
  have o:px (aa (iCB aV (aa (iV 3) ac)) (aa (iOp be (iCB aV (aa (iV 3) ac)) (iCB aV (aa (iV 1) ac))) ac)) E s1=some (mpI m (nI λi=>n+i),s1):=by
   simp only[px,this,qaa];rw[iFP ⟨by lia,by lia,by lia,by lia⟩,show (((n:Int)+(m:Int)) - (n:Int)).toNat=m by lia,zo]
  simp only[cX,o,qah];rw[<-hs,qaz]
  simp
 have w:pN bT E st0=some (fsO n (aR m n λi c=>if c<n then R i c else b i) (mpI (n+1) λc=>if c<n then - g c else 0) 1 st0.length,st0++[.l (mpI n (nI λc=>c)),.l (mpI m (nI λi=>n+i))]):=by
  unfold bT;simp only[pN,a st0,f2,Y,f5,f6,qaa,qah,show iC (.int 1) E st0=some (.d (.int 1),st0) from U];rfl
 have ha:aa (iV 0) (aa (iV 1) (aa (iV 2) ac)) [some (.d (kT m n R)),some (.d (.tup (mpI m b))),some (.d (.tup (mpI n g))),O,J] st0=some ([.d (kT m n R),.d (.tup (mpI m b)),.d (.tup (mpI n g))],st0):=rfl;simp only[oo,ha,qaa];show (pN bT [none,some (.d (kT m n R)),some (.d (.tup (mpI m b))),some (.d (.tup (mpI n g)))] st0).map _=_;rw[G,w,qah];rw[qaz,qbM];rfl
inductive zM (P:Pb):D->Prop
 |most (p:Int) (am pr:Nat->Int):xK P p am pr->zM P (.tup [.str "most",.int p,.tup (mpI P.n am),.tup (mpI P.m pr)])
 |beyond (way:Nat->Int):lU P way->zM P (.tup [.str "beyond",.tup (mpI P.n way)])
def yZ {m n:Nat} (hm:m<=64) (hn:n<=100):(n+m)^m<2^8000:=by
 have K:(n+m)^m<=(2^8)^m:=Nat.pow_le_pow_left (by lia) m;rw[<-qjy]at K;exact qbQ K (vV (by lia))
def Ap (h:Inp m n R b g):∃ x,zM (hW m n R b g) x/\okT x=true/\∀ st:Sto,∃ u,iG [.d (kT m n R),.d (.tup (mpI m b)),.d (.tup (mpI n g))] st=some (.d x,st++u):=by
 have d:=BC h;obtain⟨M,I,f1⟩:=Aa h;obtain⟨y,sy,L,S⟩:=zy d M I;generalize hM:(kT m n R)=A at *;generalize hB:D.tup _=B at *;generalize hC:D.tup (mpI n g)=C at *;have N:∀ st0,az (.nm 3) _ [Z A,Z B,Z C,none,none] st0=some _:=λst0=>by
  rw[<-hM,<-hB,<-hC];exact ak (Ey h)
 rcases (vD d _ [] _ y M I f1 sy qcW (λv H=>nomatch H) (λv H=>nomatch H) (by rw[qa8,qji];exact yZ h.m64 h.n64)) with⟨S',way,bw,hw⟩|⟨S',gS,nS,V,hS,hw⟩
 ·refine⟨_,.beyond way bw,FN _ _,λst0=>⟨_,aw U (ah (N st0) (ah (ak (j6 S L)) (dF (hw st0 _ _ _))))⟩⟩
 ·obtain⟨p,am,pr,mi,em⟩:=D4 d gS nS V hS
  refine⟨_,.most p am pr mi,EG _ _ _ _ _,λst0=>⟨_,aw U (ah (N st0) (ah (ak (j6 S L)) (ah (hw st0 _ _ _) (aJ (l9 U (zF U) em (EG _ _ _ _ _))))))⟩⟩
end
end Own
namespace Sx
def spR (N k:Nat) (V:Nat->Nat->Int) (r c:Nat):Int:=if r<N then (if c<k then - V r c else if c<k+k then V r (c - k) else if c - (k+k)=r then 1 else 0) else if c<k+k then 0 else if c - (k+k)=r - N then 1 else 0
def spB (N r:Nat):Int:=if r<N then 0 else 1
def spG (k c:Nat):Int:=if c<k+k then 0 else 1
section
variable {N k:Nat}{V:Nat->Nat->Int}{am pr:Nat->Int}{p:Int}
def sp_row {i:Nat} (hi:i<N):(sumN (k+k+N) λj=>am j*spR N k V i j)=am (k+k+i) - sumN k λt=>(am t - am (k+t))*V i t:=by
 rw[sumN_append,sumN_append];have m:(sumN k λj=>am j*spR N k V i j)=sumN k λt=>(-1)*(am t*V i t):=sumN_congr λt o=>by
  unfold spR;rw[iFP hi,iFP o,qfP];omega
 have u:(sumN k λj=>am _*spR N k V i (k+j))=sumN k λt=>am (k+t)*V i t:=sumN_congr λt o=>by
  unfold spR;rw[iFP hi,iFN (by omega),iFP (by omega),qaH]
 have F:(sumN N λj=>am (k+k+j)*spR N k V i (k+k+j))=am (k+k+i):=by
  rw[sumN_single hi λj v c=>by unfold spR;rw[iFP hi,iFN (by omega),iFN (by omega),qaH,iFN c,qa3]];unfold spR;rw[iFP hi,iFN (by omega),iFN (by omega),qaH,iFP U,qdb]
 have M:(sumN k λt=>(am t - am (k+t))*V i t)=(sumN k λt=>am t*V i t) - sumN k λt=>am (k+t)*V i t:=by
  rw[<-sumN_sub];exact sumN_congr λt _=>qfO _ _ _
 rw[m,sumN_mul];omega
def sp_lim {i:Nat} (hi:i<N):(sumN (k+k+N) λj=>am j*spR N k V (N+i) j)=am (k+k+i):=by
 rw[sumN_append];have m:(sumN (k+k) λj=>am j*spR N k V (N+i) j)=0:=by
  rw[sumN_congr λj v=>by unfold spR;rw[iFN (by omega),iFP v,qa3],sumN_zero]
 have F:(sumN N λj=>am (k+k+j)*spR N k V (N+i) (k+k+j))=am (k+k+i):=by
  rw[sumN_single hi λj v c=>by unfold spR;rw[iFN (by omega),iFN (by omega),qaH,qaH,iFN c,qa3]];unfold spR;rw[iFN (by omega),iFN (by omega),qaH,qaH,iFP U,qdb]
 rw[m,F,qch]
def sp_colA {t:Nat} (o:t<k):(sumN (N+N) λr=>spR N k V r t*pr r)=- sumN N λi=>V i t*pr i:=by
 rw[sumN_append];have m:(sumN N λr=>spR N k V r t*pr r)=sumN N λi=>(-1)*(V i t*pr i):=sumN_congr λr g=>by
  unfold spR;rw[iFP g,iFP o,qdx];omega
 have u:(sumN N λr=>spR N k V (N+r) t*pr (N+r))=0:=by
  rw[sumN_congr λj v=>by unfold spR;rw[iFN (by omega),iFP (by omega),qbW],sumN_zero]
 rw[m,sumN_mul];omega
def sp_colB {t:Nat} (o:t<k):(sumN (N+N) λr=>spR N k V r (k+t)*pr r)=sumN N λi=>V i t*pr i:=by
 rw[sumN_append];have u:(sumN N λr=>spR N k V (N+r) (k+t)*pr (N+r))=0:=by
  rw[sumN_congr λj v=>by unfold spR;rw[iFN (by omega),iFP (by omega),qbW],sumN_zero]
 rw [(sumN_congr λr g=>by
  unfold spR;rw[iFP g,iFN (by omega),iFP (by omega),qaH]),u,qdV]
def sp_colE {i:Nat} (hi:i<N):(sumN (N+N) λr=>spR N k V r (k+k+i)*pr r)=pr i+pr (N+i):=by
 rw[sumN_append];have m:(sumN N λr=>spR N k V r (k+k+i)*pr r)=pr i:=by
  rw[sumN_single hi λr g c=>by unfold spR;rw[iFP g,iFN (by omega),iFN (by omega),qaH,iFN (qbL c),qbW]];unfold spR;rw[iFP hi,iFN (by omega),iFN (by omega),qaH,iFP U,qda]
 have u:(sumN N λr=>spR N k V (N+r) (k+k+i)*pr (N+r))=pr (N+i):=by
  rw[sumN_single hi λr g c=>by unfold spR;rw[iFN (by omega),iFN (by omega),qaH,qaH,iFN (qbL c),qbW]];unfold spR;rw[iFN (by omega),iFN (by omega),qaH,qaH,iFP U,qda]
 rw[m,u]
def sum0 {n:Nat}{f:Nat->Int} (h:∀ i,i<n->0<=f i) (e:sumN n f=0):∀ i,i<n->f i=0:=by
 induction n with
 |zero=>exact λi hi=>absurd hi (qcP _)
 |succ n J=>
  have K:=sumN_nonneg (n:=n) λi hi=>h i (by omega);have O:=h n (by omega);rw[sumN]at e;intro i hi;rcases Nat.lt_succ_iff_lt_or_eq.mp hi with z|z
  ·exact J (λi hi=>h i (by omega)) (by omega) i z
  ·rw[z];omega
def split_core (p1:1<=p) (am0:∀ j,j<k+k+N->0<=am j) (pr0:∀ r,r<N+N->0<=pr r) (rows:∀ r,r<N+N->(sumN (k+k+N) λj=>am j*spR N k V r j)<=p*spB N r)
  (cols:∀ j,j<k+k+N->p*spG k j<=sumN (N+N) λr=>spR N k V r j*pr r) (same:(sumN (N+N) λr=>spB N r*pr r)=sumN (k+k+N) λj=>am j*spG k j) :
  (∀ t,t<k->(sumN N λi=>V i t*pr i)=0)/\∀ i,i<N->0<=(sumN k λt=>(am t - am (k+t))*V i t)/\((sumN k λt=>(am t - am (k+t))*V i t)=0↔pr i≠0):=by
 have s:∀ t,t<k->(sumN N λi=>V i t*pr i)=0:=λt o=>by
  have a:=cols t (by omega);have b:=cols (k+t) (by omega);rw[sp_colA o]at a;rw[sp_colB o]at b;unfold spG at a b;rw[iFP (by omega)]at a b;omega
 have x:∀ i,i<N->am (k+k+i)<=sumN k λt=>(am t - am (k+t))*V i t:=λi hi=>by
  have a:=rows i (by omega);rw[sp_row hi]at a;unfold spB at a;rw[iFP hi]at a;omega
 have E:∀ i,i<N->am _<=p:=λi hi=>by
  have a:=rows (N+i) (by omega);rw[sp_lim hi]at a;unfold spB at a;rw[iFN (by omega),qdb]at a;exact a
 have H:∀ i,i<N->p<=pr i+pr _:=λi hi=>by
  have a:=cols (k+k+i) (by omega);rw[sp_colE hi]at a;unfold spG at a;rw[iFN (by omega),qdb]at a;exact a
 have I:(sumN N λi=>pr (N+i))=sumN N λi=>am (k+k+i):=by
  have m:(sumN (N+N) λr=>spB N r*pr r)=sumN N λi=>pr (N+i):=by
   rw[sumN_append,sumN_congr λr g=>by unfold spB;rw[iFP g,qbW],sumN_zero,qch];exact sumN_congr λr _=>by unfold spB;rw[iFN (by omega),qda]
  have u:(sumN (k+k+N) λj=>am j*spG k j)=sumN N λi=>am (k+k+i):=by
   rw[sumN_append,sumN_congr λr g=>by unfold spG;rw[iFP g,qa3],sumN_zero,qch];exact sumN_congr λr _=>by unfold spG;rw[iFN (by omega),qdb]
  rw[<-m,<-u];exact same
 have e0:∀ i,i<N->0<=am (k+k+i):=λi hi=>am0 _ (by omega);have B:∀ i,i<N->0<=pr i:=λi hi=>pr0 _ (by omega);have G:∀ i,i<N->0<=pr (N+i):=λi hi=>pr0 _ (by omega);have w:=by
  refine sum0 (λi hi=>qdB (B i hi) (qfn (e0 i hi) (x i hi))) ?_;have m:(sumN N λi=>pr i*sumN k λt=>_*V i t)=sumN N λi=>sumN k λt=>(am t - am (k+t))*_:=sumN_congr λi _=>by
   rw[<-sumN_mul];exact sumN_congr λt _=>by rw[qaZ _,qbt]
  rw[m,sumN_swap,sumN_congr λt o=>by rw[sumN_mul,s t o,qa3],sumN_zero]
 have y:∀ i,i<N->pr i*am (k+k+i)=0:=λi hi=>by
  have a:=qdF (x i hi) (B i hi);have b:=qdB (B i hi) (e0 i hi);rw[w i hi]at a;omega
 have A:∀ i,i<N->pr (N+i)*(p - am (k+k+i))=0:=by
  refine sum0 (λi hi=>qdB (G i hi) (by have:=E i hi;omega)) ?_;have a2:0<=sumN N λi=>am (k+k+i)*(pr (N+i) - p):=sumN_nonneg λi hi=>by
   have b:=qdF (H i hi) (e0 i hi);rw[qcp,qaZ (am _) (pr i),(y i hi)]at b;rw[qcD];omega
  have D:0<=sumN N λi=>pr (N+i)*(p - am (k+k+i)):=sumN_nonneg λi hi=>qdB (G i hi) (by have:=E i hi;omega)
  rw [(sumN_congr λi _=>by
   rw[qcD,qaZ (am _),qaZ (am _) p]),sumN_sub,sumN_mul]at a2
  rw [(sumN_congr λi _=>by
   rw[qcD,qaZ _ p]),sumN_sub,sumN_mul]at D ⊢
  rw[I]at D ⊢;omega
 refine⟨s,λi hi=>⟨qfn (e0 i hi) (x i hi),λL C=>?_,λC=>?_⟩⟩
 ·have a:=x i hi
  have d:=H i hi;rcases qcm.mp (A i hi) with q|q<;>omega
 ·rcases qcm.mp (w i hi) with q|q
  ·exact absurd q C
  ·exact q
def split_most {l:Nat->Int} (w0:∀ j,j<k+k+N->0<=l j) (rows:∀ r,r<N+N->(sumN (k+k+N) λj=>l j*spR N k V r j)<=0) (gain:0<sumN (k+k+N) λj=>l j*spG k j):False:=by
 have u:(sumN (k+k+N) λj=>l j*spG k j)=0:=by
  rw[sumN_append,sumN_congr λr g=>by unfold spG;rw[iFP g,qa3],sumN_zero,qch,sumN_congr λi hi=>?_,sumN_zero];have a:=rows (N+i) (by omega);rw[sp_lim hi]at a;have b:=w0 (k+k+i) (by omega);rw[show l _=0 by omega,qbW]
 omega
end
end Sx
set_option maxHeartbeats 1000000
namespace Own
open PySem L2
open Sx (Pb Tb Good Named Fe LV ZV piv lexP leastR leaveL sumN unit colV basis)
def gu {a:Af}{env:Ev}{st s:Sto}{ws:List W}{ds:List D} (h:a env st=some (ws,s)) (hd:kf ws=some ds) (b:ds.length<=1000:=by decide):bh a env st=some (.d (.tup ds),s):=by
 simp only[bh,h,hd,b,qaa,if_true]
def EA (s:Sto) {a b:Int} (h:qbI a b):aX s (.d (.int a)) (.d (.int b))=some (.int (a*b)):=iFP h
def yE (s:Sto) {a b:Int} (h:0<b):dI s (.d (.int a)) (.d (.int b))=some (.int (a%b)):=iFP h
def B9 (s:Sto) {a b:Int} (h:0<b/\b<1073741824):kK s (.d (.int a)) (.d (.int b))=some (.int (a / b)):=iFP h
def y3 {st:Sto}{k:Int} (a:0<=k) (h:k<=60):ek [.d (.int k)] st=some (.d (.int (2^k.toNat)),st):=by
 obtain⟨c,f,b,o,rfl,rfl⟩:=bF (g:=.nm 2) (body:=fK) (λi env s=>∃ o,env=[Z (.int k),Z (.int (2^i)),o]/\s=st)
  ⟨none,U,U⟩ (λi d env s hd ⟨o,e,es⟩=>by
   subst e es;obtain⟨rfl,hi⟩:=gw hd;refine⟨_,[some _,some _,Z (.int i)],s,U,.inl ?_,_,U,U⟩
   exact ak (ag U U (EA _ (dO (by decide)))))
 rw[cj]at b;exact aw U (lS (ak U) (lS (bz (no U a (by lia) U) b) (aJ U)))
def xr {j:Nat} (h:j<=20):(0:Int)<2^j/\(2:Int)^j<1073741824:=by
 have a:∀ m ,m<=20->2^m<=2^20:=λm hm=>qce (by decide) hm;have c:=a j h;have b:0<2^j:=qeS (by decide);lia
def Av {st:Sto}{row k:Int} (a:0<=k) (b:k<=20):qk [.d (.int row),.d (.int k)] st=some (.d (.int (onI row k)),st):=by
 have h:=xr (j:=k.toNat) (by lia);exact aw U (aJ (ag (ag U (ai U (y3 a (by lia))) (B9 _ ⟨h.1,h.2⟩)) U (yE _ (by decide))))
def aY (b:Bool) (t:List Int) (row:Int):Int:=if b=true then (if cG row t=(t.length:Int) then 1 else 0) else (if cG row t%2=1 then -1 else 1)
def aN (b:Bool):Str:=if b=true then "both" else "odd"
def ox (b:Bool):(aN b==("both" : Str))=b:=by cases b<;>decide
def zE {st:Sto}{b:Bool}{t:List Int}{row:Int} (j:∀ k∈t,0<=k/\k<=20) (n:t.length<=1000):ji [.d (.str (aN b)),.d (aj t),.d (.int row)] st=some (.d (.int (aY b t row)),st):=by
 have a:lcI (.nm 0) aK dL [none,some _] _ st=some ((t.map D.int).map λd=>match d with|.int k=>.int (onI row k)|d=>d,st):=iE _ λd hd=>by
  obtain⟨k,i,rfl⟩:=qaM.mp hd;exact⟨_,U,ai U (Av (j k i).1 (j k i).2)⟩
 have l:((t.map D.int).map λd=>match d with|.int k=>.int (onI row k)|d=>d)=(t.map (onI row)).map D.int:=by rw[qaO,qaO];rfl
 rw[l]at a;have c:=BP st (t.map (onI row));rw[jr]at c;have g:(t.map D.int).length<=1000000:=by rw[qag];lia
 have e:aV st [.d (aj t)]=some (.int (t.length)):=by
  show some (D.int _)=_;rw[qag]
 have f:dEq st (.d (.str (aN b))) (.d (.str "both"))=some (.bl b):=by rw[D3,ox]
 have m:aY b t row=if b=true then (if (cG row t==(t.length))=true then 1 else 0) else (if (cG row t%2==(1))=true then -1 else 1):=by simp only[aY,beq_iff_eq]
 rw[m];have first:∀ (tl:Sf) (r:Option Fl),tl [Z (.str (aN b)),Z (aj t),Z (.int row),Z (.int (cG row t))] st=r->ae (az (.nm 3) (iCB ma (aa (aq (iLc 1 [2] (aC (iV 1)) (.nm 0) aK dL)) ac))) tl [Z (.str (aN b)),Z (aj t),Z (.int row),none] st=r:=λtl r h=>by
  have q:az (.nm 3) (iCB ma (aa (aq (iLc 1 [2] (aC (iV 1)) _ aK dL)) ac)) [some _,some _,some _,none] st=some (.nx [Z (.str (aN b)),Z (aj t),some _,some _] st):=ak (aL (ab (ay (aS (bg U) g a)) U) c);simp only[ae,q,qaa,h]
 generalize aN b=kd at *;cases b with
 |true=>
  cases hq:(cG row t==_) with
  |true=>exact aw U (first _ _ (vX (BK (av U U f) (aJ (nh (av U (aL U e) (by rw[dZ,hq])) U)))))
  |false=>exact aw U (first _ _ (vX (BK (av U U f) (aJ (qF (av U (aL U e) (by rw[dZ,hq])) U)))))
 |false=>
  cases hq:(cG row t%2==_) with
  |true=>exact aw U (first _ _ (lS (BJ (av U U f) U) (aJ (nh (av (ag U U (yE _ (by decide))) U (by rw[dZ,hq])) U))))
  |false=>exact aw U (first _ _ (lS (BJ (av U U f) U) (aJ (qF (av (ag U U (yE _ (by decide))) U (by rw[dZ,hq])) U))))
def wc {st:Sto}{fs:List D} (c:fs.length<=1000):bS [.d (.tup fs)] st=some (.d (.tup ((bH 0 fs).map D.int)),st):=by
 have a:lcI (.tp [0,1]) fm eY [none,none] (ci 0 fs) st=some (((ci 0 fs).filter A7).map Dk,st):=jL _ _ λd hd=>by
  obtain⟨i,hi⟩:=qdy.mp hd;rw[dQ]at hi;obtain⟨e,f,rfl⟩:=qad.mp hi;exact⟨_,U,by simp only[fm,A7,iV,iC,aB,nq,iQ,jt,dD,qaa,qah,qax,qaB,qa6,qbr,qaR],λ_=>by simp only[eY,Dk,iV,nq,qah,qax,qa6,qbr,qaR]⟩
 rw[nB]at a;have b:(ci 0 fs).length<=1000000:=by rw[kh];lia
 simp only[bS,kH,iV,ac,aa,iCB,aq,aD,iLc,bQ,bb,jw,cf,cU,qaa,qah,qax,qar,qbA,qan,qa8,qa5,qa4,qbc,qbn,qbE,if_true,qaR,lg,a,b]
def Ba {st:Sto}{fs:List D}{j:Nat}{d:D} (hd:fs[j]?=some d) (a:fV d) (hn:d≠.non):fM [.d (.tup fs),.d (.int (j:Int))] st=some (.d (.int (sgD d)),st):=by
 have e:atI fs (j:Int)=some d:=bN hd;rcases a with rfl|rfl|rfl
 ·exact absurd U hn
 ·simp only[fM,j5,iV,iC,iOp,aB,iUn,eZ,aD,bb,iQ,cf,dIx,dEq,gz,eqK,eqD,iR,qaa,qah,qax,qaB,qar,qbA,qan,qa8,qa4,qbc,qbn,qb1,qbE,if_true,if_false,qa7,qaR,lg,qco,e,sgD,show ((0:Int)==1)=false by decide,show ¬ (0:Int)=1 by decide]
 ·simp only[fM,j5,iV,iC,iOp,aB,iUn,eZ,aD,bb,iQ,cf,dIx,dEq,gz,eqK,eqD,iR,qaa,qah,qax,qaB,qar,qbA,qan,qa8,qa4,qbc,qbn,qb1,qbE,if_true,qaR,lg,qco,e,sgD,show ((1:Int)==1)=true by decide]
def zr {d:D}:sgD d=1\/sgD d=-1:=by
 unfold sgD;split
 ·split
  ·exact .inl U
  ·exact .inr U
 ·exact .inl U
def xx {st:Sto}{fs:List D}{j:Nat}{d:D}{b:Bool}{t:List Int} (hd:fs[j]?=some d) (g:fV d) (hn:d≠.non) (f:∀ k∈t,0<=k/\k<=20) (i:t.length<=1000) :
  cO [.d (.tup fs),.d (.str (aN b)),.d (aj t),.d (.int (j:Int))] st=some (.d (.int (sgD d*aY b t j)),st):=by
 have e:=Ba (st:=st) hd g hn;have a:=zE (st:=st) (b:=b) (row:=j) f i;have c:qbI (sgD d) (aY b t j):=gm (by rcases zr (d:=d) with h|h<;>(rw[h];decide));generalize aN b=kd at a ⊢;generalize aj t=tt at a ⊢;simp only[cO,gH,iV,iOp,ac,aa,ap,aD,bb,aX,qaa,qah,qax,qaB,qar,qbA,qan,qa8,qa4,qbc,qbn,qb1,qbE,if_true,qaR,qco,e,a,c]
end Own
set_option maxHeartbeats 1000000
namespace Own
open PySem L2
open Sx (Pb Tb Good Named Fe LV ZV piv lexP leastR leaveL sumN unit colV basis)
def iL {α b:Type} (a:α) (F:α->b) (l:List α):l.map F=(qam l.length).map λi=>F (l.getD i a):=by
 apply qbz;intro i;rw[qay,qay];by_cases h:i<l.length
 ·rw[qbf h,qal h,qah,qah,qaC,qal h];rfl
 ·rw[qaD (by lia),qaD (by rw[qat];lia)];rfl
def mZ {n l:Nat}{f h g:Nat->Int} (c:∀ i,i<n->g i=f i) (a:∀ i,i<l->g (n+i)=h i):mpI n f++mpI l h=mpI (n+l) g:=by
 apply qbz;intro i;by_cases q:i<n
 ·rw[qaE (by rw[aA];exact q),bi q,bi (by lia),c i q]
 ·rw[qaK (by rw[aA];lia),aA]
  by_cases b:i<n+l
  ·rw[bi (by lia),bi b,<-a _ (by lia),show n+_=i by lia]
  ·rw[qaD (by rw[aA];lia),qaD (by rw[aA];lia)]
def ux (c:Int):∀ n,(qaG n [D.int c]).flatten=mpI n λ_=>c
 |0=>rfl
 |n+1=>by rw[mY,qgz,qgM,ux c n];rfl
def mO {α:Type}{te:Ef}{l:Ev}{st:Sto}{g:α->D} (F:α->D):∀ {a:List α},(∀ k∈a,te (Z (g k)::l) st=some (.d (F k),st))->lcI (.nm 0) aK te (none::l) (a.map g) st=some (a.map F,st)
 |[],_=>rfl
 |k::a,h=>by
  rw[qar];unfold lcI;rw[show cA _ _ _=some (some _::l) from U,qaa,show aK _ st=some (true,st) from U,qaa,(h k qaf),qaa,(mO F λx b=>h x (qak _ b))];rfl
def uU (F:Nat->D) (n:Nat):ci 0 ((qam n).map F)=(qam n).map λi:Nat=>D.tup [.int ((i:Nat):Int),F i]:=by
 apply qbz;intro i;rw[dQ,qay,qay];by_cases hi:i<n
 ·rw[qbf hi,qah,qah,qah,qaR]
 ·rw[qaD (by rw[qat];lia)];rfl
structure Spl (fs:List D) (ts:List (List Int)):Prop where
 fl:fs.length<=32
 fv:∀ d∈fs,fV d
 tl:ts.length<=16
 tt:∀ t∈ts,(∀ k∈t,0<=k/\k<=20)/\t.length<=20
 nd:ts.Nodup
def nR (fs:List D):Nat:=(bH 0 fs).length
def jU (fs:List D) (i:Nat):Int:=(bH 0 fs).getD i 0
def spV (fs:List D) (b:Bool) (a:List (List Int)) (i t:Nat):Int:=sgD (fs.getD (jU fs i).toNat .non)*aY b (a.getD t []) (jU fs i)
def tsD (a:List (List Int)):D:=.tup (a.map aj)
section
variable {fs:List D}{b:Bool}{a:List (List Int)}
def Spl.n (h:Spl fs a):nR fs<=32:=qaY (oF fs 0) h.fl
def uz (h:Spl fs a) {j:Int} (l:j∈bH 0 fs):∃ (m:Nat) (d:D),j=(m:Int)/\m<fs.length/\fs[m]?=some d/\fV d/\d≠.non/\fs.getD j.toNat .non=d:=by
 obtain⟨m,e,hm,hn⟩:=kD fs 0 l;rw[qaR]at e;have hd:=qal hm;refine⟨m,_,e,hm,hd,h.fv _ (qbK hm),λq=>hn (by rw[hd,q]),?_⟩;rw[e,qbp,qaC,hd];rfl
def sM {st:Sto} (h:Spl fs a):dw [.d (.tup fs),.d (.str (aN b)),.d (tsD a)] st=some (.d (.lst ((qam (nR fs)).map λi=>D.lst (mpI a.length (spV fs b a i)))),st):=by
 have p:∀ j∈bH 0 fs,lcI _ aK eG [none,some _,some _,Z _] _ st=some (a.map λt=>D.int (sgD (fs.getD j.toNat .non)*aY b t j),st):=λj l=>by
  obtain⟨m,d,rfl,hm,hd,r,hn,hg⟩:=uz h l;refine mO (g:=aj) _ λt n=>?_;rw[hg];exact ai (ab U (ab U (ab U (ab U U)))) (xx hd r hn (h.tt t n).1 (by have:=(h.tt t n).2;lia))
 have o:lcI _ aK eI [none,some _,some _,some _] _ st=some ((bH 0 fs).map λj=>D.lst _,st):=
  mO _ λj l=>ay (aS (bg U) (by rw[qag];have:=h.tl;lia) (p j l))
 have e:((bH 0 fs).map λj=>D.lst (a.map λt=>D.int (sgD (fs.getD j.toNat .non)*aY b t j)))=(qam (nR fs)).map λi=>D.lst (mpI a.length (spV fs b a i)):=by
  rw[iL 0 _ _];refine qck λi _=>?_;rw[iL [] _ a];rfl
 rw[e]at o;exact aw U (aJ (ay (aS (bg (ai U (wc (by have:=h.fl;lia)))) (by rw[qag];have:=h.n;unfold nR at this;lia) o)))
def yL {st:Sto}{i N:Nat} (hN:N<=100):jN [.d (.int (i:Int)),.d (.int (N:Int))] st=some (.d (.lst (mpI N λj=>if j=i then 1 else 0)),st):=by
 exact aw U (aJ (ay (aS (no U (by lia) (by lia) (by lia)) (by unfold bK;rw [qag,qat];lia) (gA (λj=>D.int _) λj _=>by
   have c:aB dEq (iV 0) (iV 1) [Z (.int (0+((j)))),Z (.int (i))] st=some (decide (j=i),st):=by
    have e:((0+((j)))==(i:Int))=decide (j=i):=by lia
    refine av U U ?_;rw[dZ,e]
   by_cases q:j=i
   ·rw[iFP q];rw[decide_eq_true q]at c;exact nh c U
   ·rw[iFN q];rw[decide_eq_false q]at c;exact qF c U))))
def Bm {st:Sto}{k:Nat}{f:Nat->Int} (s:k<=100):gY [.d (.lst (mpI k f))] st=some (.d (.lst (mpI k f++mpI k λt=>- f t)),st):=by
 have o:lcI _ aK iW [none] (mpI k f) st=some (mpI k λt=>- f t,st):=gA _ λt _=>rfl;exact aw U (aJ (ag (ay (U)) (ay (aS (aZ U) (by rw[aA];lia) o)) (eV _ (by rw[aA,aA];lia))))
end
end Own
set_option maxHeartbeats 1000000
namespace Own
open PySem L2
open Sx (Pb Tb Good Named Fe LV ZV piv lexP leastR leaveL sumN unit colV basis)
def Dj {α:Type} (F:Nat->α) (n l:Nat):(qam n).map F++(qam l).map (λi=>F (n+i))=(qam (n+l)).map F:=by
 apply qbz;intro i;by_cases q:i<n
 ·rw[qaE (by rw[qag,qat];exact q),qay,qay,qbf q,qbf (by lia)]
 ·rw[qaK (by rw[qag,qat];lia),qay,qay,qag,qat]
  by_cases a:i<n+l
  ·rw[qbf (by lia),qbf a,qah,qah,show n+_=i by lia]
  ·rw[qaD (by rw[qat];lia),qaD (by rw[qat];lia)];rfl
def jR (s:Sto) (c:Int) {n:Nat} (hn:n<1000):aX s (.d (.tup [.int c])) (.d (.int (n:Int)))=some (.tup (mpI n λ_=>c)):=by
 show (if _ then some _ else none)=_;rw[iFP ⟨by simp,by show 1<=1000;decide,by lia,by lia⟩,qbp,ux]
def yF (s:Sto) (c:Int) {n:Nat} (hn:n<1000):aX s (.d (.lst [.int c])) (.d (.int (n:Int)))=some (.lst (mpI n λ_=>c)):=by
 show (if _ then some _ else none)=_;rw[iFP ⟨by show 1<=1000;decide,by lia,by lia⟩,qbp,ux]
def BS (s:Sto) (k:Nat):aX s (.d (.int 2)) (.d (.int (k:Int)))=some (.int ((k+k:Nat):Int)):=by
 rw[cr s (gm (by decide)),show _*_=((k+k:Nat):Int) by lia]
section
variable {fs:List D}{b:Bool}{a:List (List Int)}{N k:Nat}{V:Nat->Nat->Int}
def wJ {st:Sto} (hN:N<=32) (w:k<=16):lcI (.tp [0,1]) aK jv [none,none,Z (.int (N:Int))] ((qam N).map λi:Nat=>D.tup [.int ((i:Nat):Int),.lst (mpI k (V i))]) st=some ((qam N).map λi=>D.lst (mpI (k+k+N) (Sx.spR N k V i)),st):=
 yw (g:=λi=>(D.int _,D.lst _)) _ λi hi=>by
  have s:=qaQ.mp hi;have H:mpI k _++mpI k (λt=>- - V i t)=mpI _ (Sx.spR N k V i):=mZ (λt q=>by unfold Sx.spR;rw[iFP s,iFP q]) (λt q=>by unfold Sx.spR;rw[iFP s,iFN (by lia),iFP (by lia),qaH,Int.neg_neg]);have hw:=Bm (st:=st) (k:=k) (f:=λt=>- V i t) (by lia);rw[H]at hw;rw[<-(mZ (λt q=>rfl) (λj l=>by unfold Sx.spR;rw[iFP s,iFN (by lia),iFN (by lia),qaH]))];exact ag (ai (ab (ay (aS (aZ U) (by rw[aA];lia) (gA _ λt _=>rfl))) U) hw) (ai (ab U (ab U U)) (yL (st:=st) (i:=i) (N:=N) (by lia))) (eV _ (by rw[aA,aA];lia))
def xb {st:Sto} (hN:N<=32) (w:a.length<=16):lcI (.nm 0) aK f7 [none,Z (tsD a),Z (.int (N:Int))] (bK 0 N) st=some ((qam N).map λi=>D.lst (mpI (a.length+a.length+N) (Sx.spR N a.length V (N+i))),st):=
 gA _ λi hi=>by
  have o:aV st [.d (tsD a)]=some (.int (a.length)):=by
   show some (D.int _)=_;rw[qag]
  rw[<-(mZ (λt q=>by unfold Sx.spR;rw[iFN (by lia),iFP q]) (λj l=>by unfold Sx.spR;rw[iFN (by lia),iFN (by lia),qaH,qaH])),qch];exact ag (ag (ay (U)) (ag U (aL (ab U U) o) (BS st _)) (yF st 0 (by lia))) (ai (ab U (ab U U)) (yL (by lia))) (eV _ (by rw[aA,aA];lia))
def Dq (hN:N<=32) (w:k<=16) (F:∀ i t,(V i t).natAbs<=1):Inp (N+N) (k+k+N) (Sx.spR N k V) (Sx.spB N) (Sx.spG k):=by
 have one:∀ {z:Int},z.natAbs<=1->z.natAbs<=2^50:=λh=>qaY h (by decide);refine⟨by lia,by lia,λi c _ _=>one ?_,λi _=>⟨one ?_,?_⟩,λc _=>one ?_⟩
 ·unfold Sx.spR
  split
  ·split
   ·rw[qh3];exact F _ _
   ·split
    ·exact F _ _
    ·split<;>decide
  ·split
   ·decide
   ·split<;>decide
 ·unfold Sx.spB;split<;>decide
 ·unfold Sx.spB;split<;>decide
 ·unfold Sx.spG;split<;>decide
structure DM (N k:Nat) (V:Nat->Nat->Int) (p:Int) (am pr:Nat->Int):Prop where
 bal:∀ t,t<k->(sumN N λi=>V i t*pr i)=0
 val:∀ i,i<N->0<=(sumN k λt=>(am t - am (k+t))*V i t)/\((sumN k λt=>(am t - am (k+t))*V i t)=0↔pr i≠0)
 sa:∀ j,j<k+k+N->Sm (am j)/\0<=am j
 sr:∀ i,i<N->Sm (pr i)/\0<=pr i
def E8 {x:D} (M:zM (hW (N+N) (k+k+N) (Sx.spR N k V) (Sx.spB N) (Sx.spG k)) x):∃ p am pr,DM N k V p am pr/\x=.tup [.str "most",.int p,.tup (mpI (k+k+N) am),.tup (mpI (N+N) pr)]:=by
 have B:∀ {r j:Nat},r<N+N->j<k+k+N->(hW _ _ _ (Sx.spB N) (Sx.spG k)).A j r=Sx.spR N k V r j:=λm l=>by
  show (if _<k+k+N then _ else _)=_;rw[iFP l,iFP m]
 have E:∀ {r:Nat},r<N+N->(hW _ (k+k+N) (Sx.spR N k V) _ (Sx.spG k)).b r=Sx.spB N r:=λm=>iFP m;have pg:∀ {j:Nat},j<k+k+N->(hW (N+N) _ (Sx.spR N k V) (Sx.spB N) _).g j=Sx.spG k j:=λl=>iFP l;cases M with
 |beyond v M=>
  exfalso
  refine Sx.split_most (V:=V) M.w0 (λr m=>?_) ?_
  ·have:=M.rows r m
   rw[Sx.sumN_congr (g:=λj=>v j*(hW _ _ _ _ _).A j r) λj l=>by rw[B m l]];exact this
  ·have:=M.gain
   rw[Sx.sumN_congr (g:=λj=>v j*(hW _ _ _ _ _).g j) λj l=>by rw[pg l]];exact this
 |most p am pr M=>
  have c:=Sx.split_core M.p1 M.am0 M.pr0 (λr m=>by
   have:=M.rows r m
   rw[E m]at this;rw[Sx.sumN_congr (g:=λj=>am j*(hW _ _ _ _ _).A j r) λj l=>by rw[B m l]];exact this) (λj l=>by
   have:=M.cols j l
   rw[pg l]at this;rw[Sx.sumN_congr (g:=λr=>(hW _ _ _ _ _).A j r*pr r) λr m=>by rw[B m l]];exact this) (by
   have:=M.same
   rw[Sx.sumN_congr (g:=λr=>(hW _ _ _ _ _).b r*pr r) λr m=>by rw[E m],Sx.sumN_congr (n:=k+k+N) (g:=λj=>am j*(hW _ _ _ _ _).g j) λj l=>by rw[pg l]]
   exact this)
  exact⟨p,am,pr,⟨c.1,c.2,λj l=>⟨M.sa j l,M.am0 j l⟩,λi hi=>⟨M.sr i (show i<N+N by lia),M.pr0 i (show i<N+N by lia)⟩⟩,U⟩
def Dp (i t:Nat):(spV fs b a i t).natAbs<=1:=by
 unfold spV;rw[qc6];have I:(sgD (fs.getD (jU fs i).toNat .non)).natAbs<=1:=by rcases zr with h|h<;>rw[h]<;>decide
 have L:(aY b (a.getD t []) (jU fs i)).natAbs<=1:=by
  unfold aY;split<;>split<;>decide
 exact qaY (qc4 I L) (by decide)
def Ew (h:Spl fs a) (hN:0<nR fs):∃ p am pr,DM (nR fs) a.length (spV fs b a) p am pr/\∀ (st:Sto) (G:Option W),∃ u,
  ae (az (.nm 6) (aq (iLc 1 [2,4] (bB (aa (iV 4) ac)) (.nm 0) aK f7))) (az (.nm 7) (ap iG (aa (iCB cU (aa (aq (iLc 1 [] (aC (iOp be (iV 5) (iV 6))) (.nm 0) aK fZ)) ac)) (aa (iOp be (iOp aX (bh (aa (iC (.int 0)) ac)) (iV 4)) (iOp aX (bh (aa (iC (.int 1)) ac)) (iV 4))) (aa (iOp be (iOp aX (bh (aa (iC (.int 0)) ac)) (iOp aX (iC (.int 2)) (iCB aV (aa (iV 2) ac)))) (iOp aX (bh (aa (iC (.int 1)) ac)) (iV 4))) ac)))))
   [Z (.tup fs),Z (.str (aN b)),Z (tsD a),Z (.lst ((qam (nR fs)).map λi=>D.lst (mpI a.length (spV fs b a i)))),Z (.int (nR fs:Int)),Z (.lst ((qam (nR fs)).map λi=>D.lst (mpI (a.length+a.length+nR fs) (Sx.spR (nR fs) a.length (spV fs b a) i)))),none,G] st
   = some (.nx [Z (.tup fs),Z (.str (aN b)),Z (tsD a),Z (.lst ((qam (nR fs)).map λi=>D.lst (mpI a.length (spV fs b a i)))),Z (.int (nR fs:Int)),Z (.lst ((qam (nR fs)).map λi=>D.lst (mpI (a.length+a.length+nR fs) (Sx.spR (nR fs) a.length (spV fs b a) i)))),Z (.lst ((qam (nR fs)).map λi=>D.lst (mpI (a.length+a.length+nR fs) (Sx.spR (nR fs) a.length (spV fs b a) (nR fs+i))))),Z (.tup [.str "most",.int p,.tup (mpI (a.length+a.length+nR fs) am),.tup (mpI (nR fs+nR fs) pr)])] (st++u)):=by
 have hn:=h.n;have w:=h.tl;obtain⟨x,M,_,J⟩:=Ap (Dq hn w Dp);obtain⟨p,am,pr,y,rfl⟩:=E8 M;refine⟨p,am,pr,y,λst G=>?_⟩;obtain⟨u,e⟩:=J st;refine⟨u,?_⟩;have o:aV st [.d (tsD a)]=some (.int (a.length)):=by
  show some (D.int _)=_;rw[qag]
 have K:=xb (st:=st) (V:=spV fs b a) hn w;have hb:mpI _ _++mpI (nR fs) _=mpI _ (Sx.spB (nR fs)):=mZ (λi hi=>by unfold Sx.spB;rw[iFP hi]) (λi hi=>by unfold Sx.spB;rw[iFN (by lia)]);have hg:mpI _ _++mpI (nR fs) _=mpI _ (Sx.spG a.length):=mZ (λi hi=>by unfold Sx.spG;rw[iFP hi]) (λi hi=>by unfold Sx.spG;rw[iFN (by lia)]);have m:=Dj (λr=>D.lst (mpI (a.length+a.length+nR fs) (Sx.spR (nR fs) a.length (spV fs b a) r))) (nR fs) (nR fs);have q:lcI _ aK fZ [none] _ st=some ((qam (nR fs+nR fs)).map λr=>D.tup _,st):=
  gA (g:=λr=>D.lst (mpI (a.length+a.length+nR fs) (Sx.spR (nR fs) a.length (spV fs b a) r))) _ λr _=>rfl
 generalize nR fs=N at *;generalize a.length=k at *;generalize spV fs b a=V at *;generalize ((qam N).map λi=>D.lst (mpI (k+k+N) (Sx.spR N k V i)))=L5 at *;generalize ((qam N).map λi=>D.lst _)=L6 at *;have C:L5.length+L6.length<=1000000:=by
  have:=congrArg qgL m
  rw[qaz,qag,qat]at this;lia
 refine ah (ak (ay (aS (no (e:=iV 4) (z:=(N:Int)) U (by lia) (by lia) (by lia)) (by unfold bK;rw[qag,qat];lia) K))) (ak (ai (ab (aL (ab (ay (aS (aZ (ag U U (eV _ C))) (by rw[qaz];exact C) ?_)) U) U) (ab (ag (ag U U (jR st 0 (by lia))) (ag U U (jR st 1 (by lia))) ((xM _ (by rw[aA,aA];lia)).trans (by rw[hb]))) (ab (ag (ag U (ag U (aL (ab U U) o) (BS st _)) (jR st 0 (by lia))) (ag U U (jR st 1 (by lia))) ((xM _ (by rw[aA,aA];lia)).trans (by rw[hg]))) U))) e));rw[m];exact q
end
end Own
set_option maxHeartbeats 1000000
namespace Own
open PySem L2
open Sx (Pb Tb Good Named Fe LV ZV piv lexP leastR leaveL sumN unit colV basis)
def FI {ns:List Int} (h:∀ x∈ns,x=0):dj 0 ns=0:=by
 have d:=λx a=>qcK.mpr ((dk 0 ns).2 x a)
 induction ns with
 |nil=>rfl
 |cons x ns c=>
  have a:=h x qaf;subst a;exact c (λy b=>h y (qak _ b)) (λy b=>qcK.mpr ((dk 0 ns).2 y b))
def An {n:Nat}{f:Nat->Int} (r:∀ i,i<n->Sm (f i)) (hn:n<=1000):∃ (q:Int) (g:Nat->Int),0<q/\(∀ i,i<n->f i=q*g i)/\∀ st:Sto,cZ [.d (.tup (mpI n f))] st=some (.d (.tup (mpI n g)),st):=by
 have hb:∀ x∈(qam n).map f,Sm x:=λx a=>by
  obtain⟨i,hi,rfl⟩:=qaM.mp a;exact r i (qaQ.mp hi)
 have j:=λst=>uY (st:=st) (λ_ _=>by rw[<-bv];exact bg U) hb;by_cases k:∀ x∈(qam n).map f,x=0
 ·refine⟨1,f,by decide,λi _=>(qda _).symm,λst=>?_⟩
  have e:=j st;rw[FI k]at e;exact aw U (ah (ak (ai U e)) (dF (cE U U)))
 ·obtain⟨x,a,o⟩:∃ x∈(qam n).map f,x≠0:=by
   by_cases q:∃ x∈(qam n).map f,x≠0
   ·exact q
   ·exact absurd (λx a=>qff λh=>q ⟨x,a,h⟩) k
  obtain⟨c,l⟩:=kj a o (hb x a);have gd:∀ i,i<n->_∣f i:=λi hi=>qcK.mpr ((dk 0 _).2 _ (qaM.mpr ⟨i,qaQ.mpr hi,U⟩));generalize ((dj 0 _):Int)=q at *;refine⟨q,_,c,λi hi=>(qdH (gd i hi)).symm,λst=>?_⟩;have m:(q==(0))=false:=by lia
  have b:=pj (st:=st) (ns:=(qam n).map f) c l U;rw[<-bv,qaO,qaO]at b;have p:(mpI n f).length<=1000000:=by rw[aA];lia
  exact aw U (ah (ak (ai U (j st))) (ah (bn (av U U (by rw[dZ,m])) U) (aJ (aL (ab (ay (aS (bg U) p b)) U) U))))
def rN (fs:List D) (i:Nat):Nat:=(jU fs i).toNat
section
variable {fs:List D}{b:Bool}{w:List (List Int)}
def wb:∀ (r:List D) (i:Nat),(bH i r).Nodup
 |[],_=>qcW
 |d::r,i=>by
  have A:=wb r (i+1);have x:∀ j∈bH _ r,(i)≠j:=λj p=>by
   obtain⟨m,e,_,_⟩:=kD r (i+1) p;lia
  cases d<;>first|exact A|exact (qci.mpr ⟨λhm=>x _ hm U,A⟩)
def zq {i:Nat} (hi:i<nR fs):jU fs i∈bH 0 fs:=by
 unfold jU;rw[qaC,qal hi];exact qbK hi
def oE (h:Spl fs w) {i:Nat} (hi:i<nR fs):jU fs i=(rN fs i:Int)/\rN fs i<fs.length:=by
 obtain⟨m,d,e,hm,_⟩:=uz h (zq hi);unfold rN;rw[e];exact⟨U,hm⟩
def uy (h:Spl fs w) {i j:Nat} (hi:i<nR fs) (p:j<nR fs) (e:rN fs i=rN fs j):i=j:=by
 have t:jU fs i=jU fs j:=by rw[(oE h hi).1,(oE h p).1,e]
 unfold jU at t;rw[qaC,qaC,qal hi,qal p]at t;exact (qdE (wb fs 0)).mp t
def zG {st:Sto}{m:Nat}{y:Nat->Int} (h:Spl fs w) (hm:m=nR fs\/m=0):dN [.d (.tup fs),.d (.tup (mpI m y))] st=some (.d (.tup (mpI fs.length λr=>acc (rN fs) y m r)),st):=by
 have F:=h.fl;have E:∀ (u f c:Option W) (s:Sto),bS [.d (.tup fs)] s=some (.d (.tup ((bH 0 fs).map D.int)),s)->fF (aa (ap bS (aa (iV 0) ac)) (aa (iV 1) ac)) [Z (.tup fs),Z (.tup (mpI m y)),u,f,c] s=some ((qam m).map λi=>D.tup [.int ((rN fs i:Nat):Int),.int (y i)],s):=λu f c s H=>by
  have t:iq ((bH 0 fs).map D.int) (mpI m y)=(qam m).map λi=>D.tup [.int ((rN fs i:Nat):Int),.int (y i)]:=by
   apply qbz;intro i;rw[fU,qay,qay];by_cases hi:i<m
   ·rw[bi hi,qbf hi]
    have q:i<(bH 0 fs).length:=by have:nR fs=(bH 0 fs).length:=rfl;lia
    have e:=(oE h (show i<nR fs by lia)).1;unfold jU at e;rw[qaC,qal q]at e;rw[qal q,qah,qah,<-e];rfl
   ·rw[qaD (l:=mpI m y) (by rw[aA];lia),qaD (l:=qam m) (by rw[qat];lia)]
    cases (bH 0 fs)[i]?<;>rfl
  rw[<-t]
  have:=ab (ai (a:=aa (iV 0) ac) (env:=[Z (.tup fs),Z (.tup (mpI m y)),u,f,c]) (st:=s) U H) (ab (a:=iV 1) (b:=ac) U U)
  simp only[fF,this,qaa];rfl
 obtain⟨C,I,B,⟨f,c,rfl⟩,rfl⟩:=bF (g:=.tp [3,4]) (body:=gU) (ds:=(qam m).map λi=>D.tup [.int ((rN fs i:Nat):Int),.int (y i)])
  (λi env s=>(∃ f c,env=[Z (.tup fs),Z (.tup (mpI m y)),some (.h st.length),f,c])/\s=st++[.l (mpI fs.length λr=>acc (rN fs) y i (0+r))])
  ⟨⟨_,_,U⟩,U⟩ (λi d env s hd ⟨⟨f,c,e⟩,es⟩=>by
   subst e es;obtain⟨hi,rfl⟩:=mX hd;refine⟨_,_,_,U,.inl ?_,⟨some (.d (.int ((rN fs i:Nat):Int))),Z (.int (y i)),U⟩,U⟩
   have:=sIx (k:=rN fs i) (env:=[Z (.tup fs),Z (.tup (mpI m y)),some (.h st.length),Z (.int ((rN fs i:Nat):Int)),Z (.int (y i))]) (v:=iV 4) (d:=.int (y i)) (st:=st) (xs:=mpI fs.length λr=>acc (rN fs) y i (0+r)) U (o:=iV 2) (i:=iV 3) U U (by rw[aA];exact ((oE h (show i<nR fs by lia)).2))
   rw[<-oJ (d:=0) (N:=fs.length) (e:=rN fs) (y:=y) (i:=i) (by lia) λj p e=>by have:=uy h (show j<nR fs by lia) (show i<nR fs by lia) e;lia]
   exact this)
 rw[qag,qat]at B;have z:=wc (st:=st++[.l (mpI fs.length λr=>acc (rN fs) y 0 (0+r))]) (fs:=fs) (by lia);have G:iCB cU (aa (iV 2) ac) [Z (.tup fs),Z (.tup (mpI m y)),some (.h st.length),f,c] (st++[.l (mpI fs.length λr=>acc (rN fs) y m (0+r))])=some (.d (.tup (mpI fs.length λr=>acc (rN fs) y m (0+r))),st++[.l (mpI fs.length λr=>acc (rN fs) y m (0+r))]):=by
  refine aL (ab U U) ?_;show (lg (st++[.l (mpI fs.length λr=>acc (rN fs) y m (0+r))]) st.length).map _=_;rw[(gX st (mpI fs.length λr=>acc (rN fs) y m (0+r)))];rfl
 have:=ni (n:=5) (k:=2) (b:=jo) (ws:=[.d (.tup fs),.d (.tup (mpI m y))]) (st:=st) U (ah (ak (iI (st:=st) (aL (ab U U) U) (by lia) _ y 0)) (ah (bz (E _ _ _ _ z) B) (aJ G)))
 rw[qdw]at this;simp only[qaR]at this;exact this
end
end Own
set_option maxHeartbeats 1000000
namespace Own
open PySem L2
open Sx (Pb Tb Good Named Fe LV ZV piv lexP leastR leaveL sumN unit colV basis)
def qQ (k:List Int) (d:D) (r:List (List Int×D)) (t:List Int):vM ((k,d)::r) t=if k=t then some d else vM r t:=by
 unfold vM;by_cases e:k=t
 ·rw[qeh (by simpa using e),iFP e];rfl
 ·rw[qei (by simpa using e),iFN e]
def zQ (a:List (List Int×D)) (k:List Int):(a.any λp=>decide (p.1=k))=decide (k∈a.map qc3):=by
 induction a with
 |nil=>rfl
 |cons p r b=>
  rw[qcf,b];by_cases e:p.1=k
  ·simp[e]
  ·have:¬ k=p.1:=λz=>e z.symm
   simp[e,this]
def zD (k:List Int) (d:D) (j:List Int):∀ a:List (List Int×D),k∉a.map qc3->vM (a++[(k,d)]) j=if j=k then some d else vM a j
 |[],_=>by
  show vM [(k,d)] j=_;rw[qQ];by_cases e:k=j
  ·rw[iFP e,iFP e.symm]
  ·rw[iFN e,iFN (λz=>e z.symm)]
 |(c,f)::r,h=>by
  rw[qar,qaA,not_or]at h;rw[qbc,qQ,qQ,zD k d j r h.2];by_cases b:c=j
  ·rw[iFP b,iFP b,iFN (λz=>h.1 (z.symm.trans b.symm))]
  ·rw[iFN b,iFN b]
def z6 (s:Sto) (a:Int):dNe s (.d (.int a)) (.d (.int 0))=some (.bl (decide (a≠0))):=by
 show some (D.bl (!(a==0)))=_;by_cases h:a=0<;>simp[h]
def bC (a:List (List Int)) (X:List Int->Int):List Prt:=(a.filter λt=>decide (X t≠0)).map λt=>(t,X t)
def ye {st:Sto}{kd:Str}{n:Nat}{a:List (List Int×D)}{X:List Int->Int} (hm:mgt st n=some a) (f:a.length<64) (p:∀ t∈a.map qc3,vM a t=some (.int (X t))) :
  gZ [.d (.str kd),.h n] st=some (.d (cP kd (bC (ar (a.map qc3)) X)),st):=by
 have m:(ar (a.map qc3)).length<=64:=by rw[(aE _).length_eq,qag];lia
 have j:∀ t∈ar _,wR (iV 1) (iV 0) [Z (aj t),some (.h n)] st=some (.d (.int (X t)),st):=λt b=>by
  have o:=(λt b=>p t ((aE _).mem_iff.mp b)) t b;simp only[wR,iV,aj,qax,qaB,qah,qaa,hm,(bf t),o]
 have c:=jL (g:=.nm 0) (tt:=i6) (te:=iX) (env:=[none,some _]) (λd=>match d with|.tup ds=>(match aU ds with|some t=>decide (X t≠0)|none=>false)|_=>false) (λd=>match d with|.tup ds=>(match aU ds with|some t=>cb (t,X t)|none=>d)|d=>d) (ds:=(ar _).map aj) λd hd=>by
  obtain⟨t,b,rfl⟩:=qaM.mp hd;have i:=bf t;refine⟨_,U,?_,λ_=>?_⟩
  ·show _=some ((match aU _ with|some t=>decide _|none=>false),st)
   rw[i];exact av (j t b) U (z6 _ _)
  ·show _=some (W.d (match aU _ with|some t=>cb (t,X t)|none=>aj t),st)
   rw[i];exact gu (ab U (ab (j t b) U)) U (by show 2<=1000;decide)
 have e:((((ar (a.map qc3)).map aj).filter (λd=>match d with|.tup ds=>(match aU ds with|some t=>decide (X t≠0)|none=>false)|_=>false)).map (λd=>match d with|.tup ds=>(match aU ds with|some t=>cb (t,X t)|none=>d)|d=>d))=(bC (ar (a.map qc3)) X).map cb:=by
  unfold bC;rw[List.filter_map,qaO,qaO];have i:=bf
  congr 1
  ·funext t
   show (match aU _ with|some t=>cb (t,X t)|none=>aj t)=cb (t,X t)
   rw[i]
  ·refine qhf λt _=>?_
   show (match aU _ with|some t=>decide _|none=>false)=_
   rw[i]
 rw[e]at c;have k:kl (iV 1) [Z (.str kd),some (.h n)] st=some ((ar (a.map qc3)).map aj,st):=by
  simp only[kl,iV,qax,qaB,qah,qaa,hm,f,if_true]
 have l:aC (aq (kl (iV 1))) [Z (.str kd),some (.h n)] st=some ((ar (a.map qc3)).map aj,st):=by
  simp only[aC,aq,k,qah,qaa]
 have q:((ar (a.map qc3)).map aj).length<=1000000:=by rw[qag];lia
 exact aw U (aJ (gu (ab U (ab (aL (ab (ay (aS l q c)) U) U) U)) U (by show 2<=1000;decide)))
def se (st:Sto) (a:List (List Int×D)):mgt (st++[.m a]) st.length=some a:=by
 unfold mgt;rw[qaK (qap _),qex];rfl
def qg {α:Type}{te:Ef}{l:Ev}{st:Sto}{g:α->D×D} (F:α->D):∀ {a:List α},(∀ k∈a,te (Z (g k).1::some (.d (g k).2)::l) st=some (.d (F k),st))->
  lcI (.tp [0,1]) aK te (none::none::l) (a.map λk=>D.tup [(g k).1,(g k).2]) st=some (a.map F,st)
 |[],_=>rfl
 |k::a,h=>by
  rw[qar];unfold lcI;rw[show cA _ _ _=some (some _::some _::l) from U,qaa,show aK _ st=some (true,st) from U,qaa,(h k qaf),qaa,(qg F λx b=>h x (qak _ b))];rfl
end Own
set_option maxHeartbeats 1000000
namespace Own
open PySem L2
open Sx (Pb Tb Good Named Fe LV ZV piv lexP leastR leaveL sumN unit colV basis)
def dvP (g:Int) (p:Prt):Prt:=(p.1,p.2 / g)
def xm {st:Sto}{kd:Str}{ps:List Prt}{g:Int} (e:ps.length<=1000) (hg:∀ p∈ps,0<g/\Sm g):mU [.d (cP kd ps),.d (.int g)] st=some (.d (cP kd (ps.map (dvP g))),st):=by
 have a:lcI (.tp [0,1]) aK ml [none,none,Z (.int g)] (ps.map cb) st=some ((ps.map (dvP g)).map cb,st):=by
  rw[qaO];exact qg (g:=λp:Prt=>(aj p.1,D.int p.2)) _ λp b=>gu (ab U (ab (ag U U (pi st (hg p b).1 (hg p b).2)) U)) U (by show 2<=1000;decide)
 have c:(ps.map cb).length<=1000000:=by rw[qag];lia
 exact aw U (aJ (gu (ab (ag U U (ky _ _ _)) (ab (aL (ab (ay (aS (bg (ag U U (gD _ _ _))) c a)) U) U) U)) U (by show 2<=1000;decide)))
def xw {st:Sto}{kd:Str}{ps:List Prt} (c:ps.length<=1000) (hn:∀ p∈ps,p.2≠0/\Sm p.2):mV [.d (cP kd ps)] st=some (.d (cP kd (ps.map (dvP ((dj 0 (ps.map qfy):Nat):Int)))),st):=by
 have b:lcI (.tp [0,1]) aK mm [none,none] (ps.map cb) st=some ((ps.map qfy).map D.int,st):=by
  rw[qaO];exact qg (g:=λp:Prt=>(aj p.1,D.int p.2)) _ λp a=>rfl
 have e:(ps.map cb).length<=1000000:=by rw[qag];lia
 exact aw U (aJ (ai (ab U (ab (ai (ab (ay (aS (bg (ag U U (gD _ _ _))) e b)) U) (mw (st:=st) λn hm=>by
  obtain⟨p,a,rfl⟩:=qaM.mp hm
  exact (hn p a).2)) U)) (xm (st:=st) (kd:=kd) c λp a=>kj (qdJ a) (hn p a).1 (hn p a).2)))
def Ar {a:List (List Int)}{X:List Int->Int}{g:Int} (hd:∀ t∈a,g∣X t):(bC a X).map (dvP g)=bC a λt=>X t / g:=by
 unfold bC;rw[qaO]
 have:(a.filter λt=>decide (X t≠0))=a.filter λt=>decide (X t / g≠0):=qhf λt b=>by
  apply decide_eq_decide.mpr;refine not_congr ⟨λh=>by rw[h,Int.zero_ediv],λh=>by rw[<-(qdH (hd t b)),h,qa3]⟩
 rw[this];rfl
def pkv (a:List (List Int)) (x:Nat->Int) (i:Nat):List (List Int×D):=(qam i).map λj=>(a.getD j [],.int (x j))
section
variable {f:List (List Int)}{x:Nat->Int}
def rG (hn:f.Nodup) {i j:Nat} (hi:i<f.length) (l:j<f.length) (e:f.getD i []=f.getD j []):i=j:=by
 rw[qaC,qaC,qal hi,qal l]at e;exact (qdE hn).mp e
def vR (i:Nat):(pkv f x i).map qc3=(qam i).map λj=>f.getD j []:=by unfold pkv;rw[qaO];rfl
def vQ:(pkv f x f.length).map qc3=f:=by
 have:=iL [] id f
 rw[qgJ]at this;rw[vR];exact this.symm
def yW (hn:f.Nodup) {i:Nat} (hi:i<f.length):f.getD i []∉(pkv f x i).map qc3:=λh=>by
 rw[vR]at h;obtain⟨j,l,e⟩:=qaM.mp h;have J:=qaQ.mp l
 have:=rG hn (show j<f.length by lia) hi e
 lia
def sw (i:Nat):pkv f x (i+1)=pkv f x i++[(f.getD i [],.int (x i))]:=by unfold pkv;rw[qep,qbS];rfl
def AJ (hn:f.Nodup) {i:Nat} (hi:i<f.length):za (pkv f x i) (f.getD i []) (.int (x i))=pkv f x (i+1):=by
 rw[sw];unfold za;rw[zQ,iFN (by rw[decide_eq_true_iff];exact (yW hn hi))]
def yX (hn:f.Nodup):∀ {i j:Nat},i<=f.length->j<i->vM (pkv f x i) (f.getD j [])=some (.int (x j))
 |0,_,_,l=>absurd l (qcP _)
 |i+1,j,hi,l=>by
  rw[sw,zD _ _ _ _ (yW hn (by lia))];by_cases e:j=i
  ·subst e;rw[iFP U]
  ·rw[iFN (λq=>e (rG hn (by lia) (by lia) q)),yX hn (by lia) (by lia)]
def gn (f:List (List Int)) (x:Nat->Int) (t:List Int):Int:=match vM (pkv f x f.length) t with|some (.int z)=>z|_=>0
def At (hn:f.Nodup) {j:Nat} (l:j<f.length):gn f x (f.getD j [])=x j:=by
 unfold gn;rw[yX hn (qap _) l]
def jQ {t:List Int} (h:t∈f):∃ j,j<f.length/\f.getD j []=t:=by
 obtain⟨j,l,e⟩:=qcS.mp h;exact⟨j,l,by rw[qaC,qal l];exact e⟩
def EN {st:Sto}{m i:Nat}{am:Nat->Int}{a0:Option W} (hn:f.Nodup) (M:f.length<=16) (hm:f.length+f.length<=m) (hi:i<f.length) :
  eM [a0,Z (tsD f),Z (.tup (mpI m am)),some (.h st.length),Z (.int (i:Int)),Z (aj (f.getD i []))] (st++[.m (pkv f (λj=>am j - am (f.length+j)) i)])
  = some (.nx [a0,Z (tsD f),Z (.tup (mpI m am)),some (.h st.length),Z (.int (i:Int)),Z (aj (f.getD i []))] (st++[.m (pkv f (λj=>am j - am (f.length+j)) (i+1))])):=by
 have y:=se st (pkv f (λj=>am j - am (f.length+j)) i);have S:=AJ (x:=λj=>am j - am (f.length+j)) hn hi;have e4:=nr st (.m (pkv f (λj=>am j - am (f.length+j)) i)) (.m (pkv f (λj=>am j - am (f.length+j)) (i+1)));have V:(pkv f (λj=>am j - am (f.length+j)) i).length<1000:=by unfold pkv;rw[qag,qat];lia
 have w:∀ s ,aV s [.d (tsD f)]=some _:=λs=>by
  show some (D.int _)=_;rw[qag]
 have R:∀ s ,dIx s (.d (.tup (mpI m am))) (.d (.int (i)))=some _:=λs=>bN (bi (by lia));have T:∀ s ,dIx s (.d (.tup (mpI m am))) (.d (.int ((f.length)+(i))))=some _:=λs=>by
  exact bN (bi (by lia))
 generalize pkv f _ i=K at *;generalize tsD f=tD at *;generalize mpI m am=A at *;generalize f.getD i []=t at *;have L:=ag (g:=kc) (env:=[a0,some _,some _,some (.h st.length),some _,Z (aj t)]) (st:=st++[.m K]) (ag (a:=iV 2) (b:=iV 4) U U (R _)) (ag (a:=iV 2) (b:=iOp be (iCB aV (aa (iV 1) ac)) (iV 4)) U (ag (aL (ab U U) (w _)) U U) (T _)) U;simp only[aj]at L ⊢;simp only[eM,uZ,L,iV,qax,qaB,qah,qaa,(bf _),y,V,if_true,S,e4]
def CW {b:Bool}{am:Nat->Int}{m:Nat} (hn:f.Nodup) (M:f.length<=16) (hm:f.length+f.length<=m) (N:∀ j,j<f.length+f.length->Sm (am j)/\0<=am j) :
  ∃ (q:Int) (X:List Int->Int),0<q/\(∀ j,j<f.length->am j - am (f.length+j)=q*X (f.getD j []))/\∀ st:Sto,iH [.d (.str (aN b)),.d (tsD f),.d (.tup (mpI m am))] st=some (.d (cP (aN b) (bC (ar f) X)),st):=by
 have C:∀ j,j<f.length->gn f (λj=>am j - am (f.length+j)) (f.getD j [])=am j - am (f.length+j):=λj l=>At (x:=λj=>am j - am (f.length+j)) hn l;have r:∀ p∈bC (ar f) (gn f λj=>am j - am (f.length+j)),p.2≠0/\Sm p.2:=λp u=>by
  unfold bC at u;obtain⟨t,v,rfl⟩:=qaM.mp u;obtain⟨J,h2⟩:=qcj.mp v;refine⟨of_decide_eq_true h2,?_⟩;obtain⟨j,l,rfl⟩:=jQ ((aE _).mem_iff.mp J);show Sm (gn f _ (f.getD j []));rw[C j l];have a:=N j (by lia);have c:=N (f.length+j) (by lia);unfold Sm at *;generalize (2:Nat)^4000=B at *;lia
 have F:(bC (ar f) (gn f λj=>am j - am (f.length+j))).length<=1000:=by
  unfold bC;rw[qag]
  have:=qdz (λt=>decide (gn f (λj=>am j - am (f.length+j)) t≠0)) (ar f)
  rw[(aE _).length_eq]at this;lia
 have o:∀ st:Sto,iH [.d (.str (aN b)),.d (tsD f),.d (.tup (mpI m am))] st=some (.d (cP (aN b) ((bC (ar f) (gn f λj=>am j - am (f.length+j))).map (dvP ((dj 0 ((bC (ar f) (gn f λj=>am j - am (f.length+j))).map qfy):Nat):Int)))),st):=λst=>by
  have I:=ye (st:=st++[.m (pkv f (λj=>am j - am (f.length+j)) f.length)]) (kd:=aN b) (X:=gn f λj=>am j - am (f.length+j)) (se st _) (by unfold pkv;rw [qag,qat];lia) (λt v=>by
   rw[vQ]at v;obtain⟨j,l,rfl⟩:=jQ v;rw[C j l]
   exact yX (x:=λj=>am j - am (f.length+j)) hn (qap _) l)
  rw[vQ]at I;have H:=xw (st:=st++[.m (pkv f (λj=>am j - am (f.length+j)) f.length)]) (kd:=aN b) F r;obtain⟨O,s2,y,⟨E,G,rfl⟩,rfl⟩:=bF (g:=.tp [4,5]) (body:=eM) (ds:=(qam f.length).map λi:Nat=>D.tup [.int ((i:Nat):Int),aj (f.getD i [])])
   (λi env s=>(∃ E G,env=[Z (.str (aN b)),Z (tsD f),Z (.tup (mpI m am)),some (.h st.length),E,G])/\s=st++[.m (pkv f (λj=>am j - am (f.length+j)) i)])
   (env:=[Z (.str (aN b)),Z (tsD f),Z (.tup (mpI m am)),some (.h st.length),none,none]) ⟨⟨_,_,U⟩,U⟩ (λi d env s hd ⟨⟨E,G,e⟩,es⟩=>by
    subst e es;obtain⟨hi,rfl⟩:=mX hd
    exact⟨_,_,_,U,.inl (EN hn M hm hi),⟨_,_,U⟩,U⟩)
  rw[qag,qat]at y;have Y:bQ (aa (iV 1) ac) [Z (.str (aN b)),Z (tsD f),Z (.tup (mpI m am)),some (.h st.length),none,none] (st++[.m []])=some ((qam f.length).map λi:Nat=>D.tup [.int ((i:Nat):Int),aj (f.getD i [])],st++[.m []]):=by
   rw[<-uU (λi=>aj (f.getD i [])),<-iL [] aj f];rfl
  generalize bC (ar f) (gn f λj=>am j - am (f.length+j))=ps at *;generalize pkv f (λj=>am j - am (f.length+j)) f.length=K at *
  have:=ni (n:=6) (k:=3) (b:=n6) (ws:=[.d (.str (aN b)),.d (tsD f),.d (.tup (mpI m am))]) (st:=st) U (ah U (ah (bz Y y) (aJ (ai (ab (ai U I) U) H))))
  rw[qdw]at this;exact this
 by_cases P:bC (ar f) (gn f λj=>am j - am (f.length+j))=[]
 ·refine⟨1,gn f λj=>am j - am (f.length+j),by decide,λj l=>by rw[C j l,qda],λst=>?_⟩
  rw[o st,P];rfl
 ·obtain⟨p,u⟩:=List.exists_mem_of_ne_nil _ P
  have Q:=(kj (qdJ u) (r p u).1 (r p u).2).1;have hd:∀ t∈ar f,((dj 0 ((bC (ar f) (gn f λj=>am j - am (f.length+j))).map qfy):Nat):Int)∣gn f (λj=>am j - am (f.length+j)) t:=λt v=>by
   by_cases z:gn f (λj=>am j - am (f.length+j)) t=0
   ·rw[z];exact Int.dvd_zero _
   ·refine qcK.mpr ((dk 0 _).2 _ (qaM.mpr ⟨(t,gn f (λj=>am j - am (f.length+j)) t),?_,U⟩))
    unfold bC;exact qaM.mpr ⟨t,qcj.mpr ⟨v,decide_eq_true z⟩,U⟩
  generalize ((dj 0 ((bC (ar f) (gn f λj=>am j - am (f.length+j))).map qfy):Nat):Int)=q at *;refine⟨q,λt=>gn f (λj=>am j - am (f.length+j)) t / q,Q,λj l=>?_,λst=>by rw[o st,(Ar hd)]⟩
  have:=hd (f.getD j []) ((aE _).mem_iff.mpr (by rw[qaC,qal l];exact qbK l))
  rw[qdH this,C j l]
end
end Own
set_option maxHeartbeats 1000000
namespace Own
open PySem L2
open Sx (Pb Tb Good Named Fe LV ZV piv lexP leastR leaveL sumN unit colV basis)
def D0 (ds:List D) (k:Nat):j9 ds none (some (k:Int))=ds.take k:=by
 unfold j9;rw[HT.sIx_nat,HT.sIx_none,qhO,qjf];rcases qjg k ds.length with h|h
 ·rw[qhM h]
 ·rw[qhC h,qdD,qcG h]
def Aq {n k:Nat}{f:Nat->Int} (h:k<=n):(mpI n f).take k=mpI k f:=by
 apply qbz;intro i;by_cases hi:i<k
 ·rw[qd2 hi,bi (by lia),bi hi]
 ·rw[qaD (by rw[qc5];lia),qaD (by rw[aA];lia)]
def EV {a b c:Sf}{env e:Ev}{st s:Sto}{r:Option Fl} (h:ae a b env st=some (.nx e s)) (d:c e s=r):ae a (ae b c) env st=r:=by
 simp only[ae]at h ⊢;cases ha:a env st with
 |none=>rw[ha]at h;cases h
 |some x=>
  rw[ha,qaa]at h;rw[qaa];cases x with
  |nx f s1=>simp only at h ⊢;rw[h];exact d
  |_=>cases h
def xL {e:Nat->Nat}{y:Nat->Int}{m i:Nat} (hi:i<m) (h:∀ j,j<m->e j=e i->j=i):acc e y m (e i)=y i:=by
 unfold acc;rw[Sx.sumN_single hi λj a q=>iFN λz=>q (h j a z),iFP U]
structure jZ (fs:List D) (b:Bool) (ts:List (List Int)) (X:List Int->Int) (w:Nat->Int):Prop where
 bal:∀ t,t<ts.length->(sumN (nR fs) λi=>spV fs b ts i t*w (rN fs i))=0
 val:∀ i,i<nR fs->0<=(sumN ts.length λt=>X (ts.getD t [])*spV fs b ts i t)/\((sumN ts.length λt=>X (ts.getD t [])*spV fs b ts i t)=0↔w (rN fs i)≠0)
 w0:∀ r,r<fs.length->0<=w r/\Sm (w r)
 wn:∀ r,r<fs.length->fs.getD r .non=.non->w r=0
 sX:∀ t∈ts,Sm (X t)
def BO {q x y:Int} (a:0<q) (e:x=q*y) (h:Sm x):Sm y:=by
 refine qbQ ?_ h;rw[e,qc6];exact Nat.le_mul_of_pos_left _ (by lia)
section
variable {fs:List D}{b:Bool}{g:List (List Int)}
def Dr (h:Spl fs g) {r:Nat} (e:fs.getD r .non=.non) {i:Nat} (hi:i<nR fs):rN fs i≠r:=λz=>by
 obtain⟨m,d,e1,_,_,_,hn,hg⟩:=uz h (zq hi);unfold rN at z;rw[z]at hg;exact hn (hg.symm.trans e)
def BZ (h:Spl fs g) {y:Nat->Int} (hy:∀ i,i<nR fs->Sm (y i)/\0<=y i) (r:Nat):Sm (acc (rN fs) y (nR fs) r)/\0<=acc (rN fs) y (nR fs) r:=by
 by_cases q:∃ i,i<nR fs/\rN fs i=r
 ·obtain⟨i,hi,rfl⟩:=q
  rw[xL hi λj l z=>uy h l hi z];exact hy i hi
 ·rw[lW λj l z=>q ⟨j,l,z⟩]
  exact⟨qew _,qcE _⟩
def zv (h:Spl fs g):∃ X w,jZ fs b g X w/\∀ st:Sto,∃ u,jh [.d (.tup fs),.d (.str (aN b)),.d (tsD g)] st=some (.d (.tup [cP (aN b) (bC (ar g) X),.tup (mpI fs.length w)]),st++u):=by
 have x:∀ s:Sto,aV s [.d (.lst ((qam (nR fs)).map λi=>D.lst (mpI g.length (spV fs b g i))))]=some (.int (nR fs:Int)):=λs=>by
  show some (D.int _)=_;rw[qag,qat]
 by_cases hN:nR fs=0
 ·refine⟨λ_=>0,λr=>acc (rN fs) (λ_=>0) 0 r,⟨λt _=>?_,λi hi=>absurd hi (by lia),λr _=>⟨qcE _,qew _⟩,λ_ _ _=>rfl,λ_ _=>qew _⟩,λst=>⟨[],?_⟩⟩
  ·rw[hN];rfl
  have O:=sM (st:=st) (b:=b) h;have hw:=zG (st:=st) (m:=0) (y:=λ_=>0) h (.inr U);have Q:bC (ar g) (λ_=>0)=[]:=by
   unfold bC;rw[qgk.mpr λt _=>by simp];rfl
  have P:_=some (D.int 0):=(x st).trans (by rw[hN];rfl);rw[Q,qb0];generalize tsD g=I at *;generalize aN b=kd at *;exact aw (n:=8) (k:=3) (b:=i9) U (ah (ak (ai U O)) (ah (ak (aL (ab U U) P)) (dF (cE (s:=st) U (aJ (gu (ab (gu (ds:=[.str kd,.tup []]) U U (by show 2<=1000;decide)) (ab (ai (ab U (ab U U)) hw) U)) U (by show 2<=1000;decide)))))))
 ·obtain⟨p,am,pr,S,M⟩:=Ew (b:=b) h (by lia)
  have hn:=h.n;obtain⟨q,X,W,hq,hp⟩:=CW (b:=b) (m:=g.length+g.length+nR fs) (am:=am) h.nd h.tl (by lia) λj l=>S.sa j (by lia);have C:=BZ h (y:=pr) λi hi=>S.sr i hi;obtain⟨q2,w,E,o,H⟩:=An (n:=fs.length) (f:=λr=>acc (rN fs) pr (nR fs) r) (λr _=>(C r).1) (by have:=h.fl;lia);have G:∀ i,i<nR fs->pr i=q2*w (rN fs i):=λi hi=>by
   rw[<-o _ (oE h hi).2,xL hi λj l z=>uy h l hi z]
  refine⟨X,w,⟨λt F=>?_,λi hi=>?_,λr J=>⟨?_,BO E (o r J) (C r).1⟩,λr J e=>?_,λt F=>?_⟩,λst=>?_⟩
  ·have e:=S.bal t F
   rw[Sx.sumN_congr λi hi=>by rw[G i hi,qaT],Sx.sumN_mul]at e;exact (qcm.mp e).resolve_left (by lia)
  ·have e:=S.val i hi
   rw[Sx.sumN_congr λt F=>by rw[hq t F,qbt],Sx.sumN_mul,G i hi]at e;generalize (sumN g.length λt=>X (g.getD t [])*spV fs b g i t)=v at *;refine⟨?_,?_⟩
   ·have:=e.1
    by_cases z:0<=v
    ·exact z
    ·have:=qf4 W (show v<0 by lia)
     lia
   ·have Y:=e.2
    rw[qcm,ne_eq,qcm]at Y;have n1:¬ q=0:=by lia
    have n2:¬ q2=0:=by lia
    simpa [n1,n2] using Y
  ·have e:=(C r).2
   rw[o r J]at e;by_cases z:0<=w r
   ·exact z
   ·have:=qf4 E (show w r<0 by lia)
    lia
  ·have:=o r J
   rw[lW λj l=>Dr h e l]at this;exact (qcm.mp this.symm).resolve_left (by lia)
  ·obtain⟨j,l,rfl⟩:=jQ F
   refine BO W (hq j l) ?_;have a:=S.sa j (by lia);have c:=S.sa (g.length+j) (by lia);unfold Sm at *;generalize (2:Nat)^4000=B at *;lia
  ·obtain⟨u,hu⟩:=M st none
   refine⟨u,?_⟩;have O:=sM (st:=st) (b:=b) h;have he:=wJ (st:=st) (V:=spV fs b g) (k:=g.length) hn h.tl;have Q:bQ (aa (iV 3) ac) [Z (.tup fs),Z (.str (aN b)),Z (tsD g),Z (.lst ((qam (nR fs)).map λi=>D.lst (mpI g.length (spV fs b g i)))),Z (.int (nR fs:Int)),none,none,none] st=some ((qam (nR fs)).map λi:Nat=>D.tup [.int ((i:Nat):Int),.lst (mpI g.length (spV fs b g i))],st):=by
    rw[<-uU _];rfl
   have P:=x st;have K:=zG (st:=st++u) (m:=nR fs) (y:=pr) h (.inl U);have N:=H (st++u);have sl:dSl (st++u) (.d (.tup (mpI (nR fs+nR fs) pr))) none (some (nR fs:Int))=some (.tup (mpI (nR fs) pr)):=by
    rw[<-Aq (n:=nR fs+nR fs) (k:=nR fs) (f:=pr) (by lia),<-D0];rfl
   have f0:((nR fs:Int)==(0:Int))=false:=by simp;lia
   have hz:((qam (nR fs)).map λi:Nat=>D.tup [.int ((i:Nat):Int),.lst (mpI g.length (spV fs b g i))]).length<=1000000:=by rw[qag,qat];lia
   generalize (mpI fs.length λr=>acc (rN fs) pr (nR fs) r)=A at *;generalize mpI fs.length w=A2 at *;generalize mpI (nR fs) pr=A3 at *;generalize mpI (nR fs+nR fs) pr=A4 at *;generalize mpI (g.length+g.length+nR fs) am=A5 at *;generalize cP (aN b) (bC (ar g) X)=R at *;generalize ((qam (nR fs)).map λi=>D.lst (mpI (g.length+g.length+nR fs) (Sx.spR (nR fs) g.length (spV fs b g) i)))=L5 at *;generalize ((qam (nR fs)).map λi=>D.lst (mpI (g.length+g.length+nR fs) (Sx.spR (nR fs) g.length (spV fs b g) (nR fs+i))))=L6 at *;generalize ((qam (nR fs)).map λi:Nat=>D.tup [.int ((i:Nat):Int),.lst (mpI g.length (spV fs b g i))])=LE at *;generalize ((qam (nR fs)).map λi=>D.lst (mpI g.length (spV fs b g i)))=L at *;generalize tsD g=I at *;generalize aN b=kd at *;have T:iSl (iOp dIx (iV 7) (iC (.int 3))) iPn (iPs (iV 4)) [Z (.tup fs),Z (.str kd),Z I,Z (.lst L),Z (.int (nR fs:Int)),Z (.lst L5),Z (.lst L6),Z (.tup [.str "most",.int p,.tup A5,.tup A4])] (st++u)=some (.d (.tup A3),st++u):=by
    have x1:iOp dIx (iV 7) (iC (.int 3)) [Z (.tup fs),Z (.str kd),Z I,Z (.lst L),Z (.int (nR fs:Int)),Z (.lst L5),Z (.lst L6),Z (.tup [.str "most",.int p,.tup A5,.tup A4])] (st++u)=some (.d (.tup A4),st++u):=ag U U U
    have x2:iPs (iV 4) [Z (.tup fs),Z (.str kd),Z I,Z (.lst L),Z (.int (nR fs:Int)),Z (.lst L5),Z (.lst L6),Z (.tup [.str "most",.int p,.tup A5,.tup A4])] (st++u)=some (some (nR fs:Int),st++u):=rfl
    simp only[iSl,x1,x2,iPn,qaa,sl,qah]
   exact aw (n:=8) (k:=3) (b:=i9) U (ah (ak (ai U O)) (ah (ak (aL (ab U U) P)) (ah (bn (s:=st) (av U U (by rw[dZ,f0])) U) (ah (ak (ay (aS Q hz he))) (EV hu (aJ (gu (ab (ai (ab U (ab U (ab (ag U U U) U))) (hp (st++u))) (ab (ai (ab (ai (ab U (ab T U)) K) U) N) U)) U (by show 2<=1000;decide))))))))
end
end Own
set_option maxHeartbeats 1000000
namespace Own
open PySem L2
open Sx (Pb Tb Good Named Fe LV ZV piv lexP leastR leaveL sumN unit colV basis)
def bZ {st:Sto}{n:Nat}{m:Int} (h:cn st n) (m0:0<m) (p:m<=1000):∃ r a,0<=r/\r<m/\Stp n st a/\aF [.h n,.d (.int m)] st=some (.d (.int r),a):=by
 have hn:=h.lt;obtain⟨x,y,z,j,h⟩:=h;have m2:m<1073741824:=by lia
 by_cases k:x > 0/\z+1<=400
 ·obtain⟨b,i⟩:=k
  refine⟨x%m,st.set n (.l [.int (x / m),.int y,.int (z+1)]),qeA _ (by lia),qdU _ m0,⟨⟨_,U⟩,_,_,_,qdM j (by lia),jx hn⟩,?_⟩;simp only[aF,eE,iV,iC,iOp,aB,cC,aH,ae,az,eP,bj,aD,aT,bb,cA,iQ,cf,lsD,dIx,be,aX,kK,dI,dLe,dGt,qaa,qah,qax,qaB,qa6,qbr,qar,qbA,qan,qa8,qa5,qa4,qbc,qbn,qb1,qbE,if_true,xN,B2,FL,Cs,qaR,and_self,decide_true,lg,qco,h,b,i,m0,m2,decide_true,and_self,jx hn,qfc]
 ·exact (λf=>by
  have c:0<=(y*48271+12345+(z+1))%2147483647:=qeA _ (by decide);have g:(y*48271+12345+(z+1))%2147483647<2147483647:=qdU _ (by decide);have o:qbI y 48271:=dO (by decide);have e:∀ q,qbI ((y*48271+12345+(z+1))%2147483647) q:=λq=>gm (by lia);have hw:∃ w:Int,(y*48271+12345+(z+1))%2147483647=w:=⟨_,U⟩;obtain⟨w,hw⟩:=hw;rw[hw]at c g e;refine⟨w*(w%39373+7)%2147483629 / 64%m,st.set n (.l [.int x,.int w,.int (z+1)]),qeA _ (by lia),qdU _ m0,⟨⟨_,U⟩,_,_,_,j,jx hn⟩,?_⟩;by_cases b:x > 0
  ·have i:¬ z+1<=400:=λq=>f ⟨b,q⟩
   simp only[aF,eE,iV,iC,iOp,aB,cC,aH,ae,az,eP,bj,aD,aT,bb,cA,iQ,cf,lsD,dIx,be,aX,kK,dI,dLe,dGt,qaa,qah,qax,qaB,qa6,qbr,qar,qbA,qan,qa8,qa5,qa4,qbc,qbn,qb1,qbE,if_true,if_false,qa7,xN,DR,B2,El,Cs,qaR,and_self,decide_true,decide_false,lg,qco,h,b,i,m0,decide_false,and_self,jx hn,qfc,o,e,hw,show (0:Int)<2147483647 by decide,show (0:Int)<39373 by decide,show (0:Int)<2147483629 by decide,show (0:Int)<64 by decide,show (64:Int)<1073741824 by decide]
  ·simp only[aF,eE,iV,iC,iOp,aB,cC,aH,ae,az,eP,bj,aD,aT,bb,cA,iQ,cf,lsD,dIx,be,aX,kK,dI,dLe,dGt,qaa,qah,qax,qaB,qa6,qbr,qar,qbA,qan,qa8,qa5,qa4,qbc,qbn,qb1,qbE,if_true,if_false,qa7,xN,DR,B2,El,Cs,qaR,and_self,decide_false,lg,qco,h,b,m0,decide_false,and_self,jx hn,qfc,o,e,hw,show (0:Int)<2147483647 by decide,show (0:Int)<39373 by decide,show (0:Int)<2147483629 by decide,show (0:Int)<64 by decide,show (64:Int)<1073741824 by decide]) k
def DU (b:Bool):(0:Int)<=if b=true then 1 else 0:=by cases b<;>decide
def DS (b:Bool):(if b=true then (1:Int) else 0)<2^64:=by cases b<;>decide
def DT (b:Bool):-(2^64)<(if b=true then (1:Int) else 0):=by cases b<;>decide
def Da {st:Sto}{ns:List Int}{k:Nat} (t:k<=1000):∃ x y:Int,0<=x/\cY [.d (.scr ns),.d (.int k)] st=some (.h st.length,st++[.l [.int x,.int y,.int 0]]):=by
 have f:=p18;have s:∀ q,qbI 5303 q:=λq=>gm (by decide);have k2:∀ q,qbI q 48271:=λq=>dO (by decide);have p:∀ q,qbI q (k):=λq=>dO (by lia);have r:∀ (q:Int) (b:Bool),qbI q _:=λq b=>dO ⟨DT b,DS b⟩;have i:∀ c ,(if _<_ then atI (ns.map D.int) (k)=some (.int c) else c=0)->∃ x y:Int,0<=x/\cY [.d (.scr ns),.d (.int k)] st=some (.h st.length,st++[.l [.int x,.int y,.int 0]]):=λc m=>by
  have j:∃ a:Int,(if c<0 then -c else c)=a/\0<=a:=⟨_,U,by split<;>lia⟩;obtain⟨a,j,a0⟩:=j;obtain⟨g,hg⟩:∃ g,decide (a>=10^Int.toNat 18)=g:=⟨_,U⟩;refine⟨a*(if g=true then 1 else 0),(c%2147483629+5303*(k)*k+17)*48271%2147483647,qdB a0 (DU _),?_⟩;by_cases e:(k:Int)<((ns.map D.int).length)
  ·rw[iFP e]at m
   simp only[cY,i7,iV,iC,iOp,aB,eZ,ac,aa,iCB,bM,cX,ae,az,aD,bb,cA,kf,iQ,cf,lsD,dIx,be,aX,dI,z5,dLt,dGe,aV,tJ,tM,qaa,qah,qax,qaB,qa6,qbr,qar,qbA,qan,qa8,qa5,qa4,qbc,qbn,qb1,qbE,if_true,qaR,decide_true,lg,qco,e,m,j,hg,f,s,k2,r,p,show (0:Int)<2147483629 by decide,show (0:Int)<2147483647 by decide,show (3)<=1000 by decide]
  ·rw[iFN e]at m
   subst m;have o:a=0:=by rw[<-j];rfl
   subst o;rw[<-hg];simp only[cY,i7,iV,iC,iOp,aB,eZ,ac,aa,iCB,bM,cX,ae,az,aD,bb,cA,kf,iQ,cf,lsD,dIx,be,aX,dI,z5,dLt,dGe,aV,tJ,tM,qaa,qah,qax,qaB,qa6,qbr,qar,qbA,qan,qa8,qa5,qa4,qbc,qbn,qb1,qbE,if_true,if_false,qa7,qaR,decide_false,lg,qjj,qco,e,f,s,k2,r,p,show (0)<2147483629 by decide,show (0)<2147483647 by decide,show (3)<=1000 by decide]
 by_cases e:(k:Int)<((ns.map D.int).length)
 ·have n:k<ns.length:=by rw[qag]at e;lia
  exact i ns[k] (by rw[iFP e];exact bN (by rw[qay,qal n];rfl))
 ·exact i 0 (by rw[iFN e])
def rj {te:Ef}{st:Sto}{n:Nat}{a:Option W}{l:Ev} (Q:D->Prop) {ds:List D} (h:cn st n) (e:∀ s d,d∈ds->cn s n->∃ x s',Q x/\Stp n s s'/\te (Z d::l) s=some (.d x,s')) :
  ∃ b c,b.length=ds.length/\(∀ u∈b,Q u)/\Stp n st c/\lcI (.nm 0) aK te (a::l) ds st=some (b,c):=by
 obtain⟨b,k,j,t2,r,o⟩:=f9 (g:=.nm 0) (tt:=aK) (env:=a::l)
  (λi f s=>Stp n st s/\f.length=i/\∀ u ∈ f,Q u) (ys0:=[]) ⟨Stp.refl h,U,(λ_ h=>nomatch h)⟩ (λi d f s hd ⟨p1,m,q⟩=>by
   obtain⟨x,k,t,t2,j⟩:=e s d (qb2 hd) p1.hand
   exact⟨_,U,.inl ⟨s,x,k,U,j,p1.trans t2,by rw[qaz,m];rfl,λu p=>by
    rcases qaS.mp p with z|z
    ·exact q u z
    ·rw[qao.mp z];exact t⟩⟩)
 exact⟨b,k,by simpa using r,by simpa using o,t2,j⟩
def E7 {n:Int} (b:0<=n) (a:n<=6):∃ q:Int,(∀ s,wF s (.d (.int 1)) (.d (.int n))=some (.int q))/\q.toNat=2^n.toNat/\(-(2^62)<=q/\q<2^62)/\2^n.toNat<=64:=by
 have h:n=0\/n=1\/n=2\/n=3\/n=4\/n=5\/n=6:=by lia
 rcases h with rfl|rfl|rfl|rfl|rfl|rfl|rfl
 ·exact⟨1,λs=>rfl,by decide,by decide,by decide⟩
 ·exact⟨2,λs=>rfl,by decide,by decide,by decide⟩
 ·exact⟨4,λs=>rfl,by decide,by decide,by decide⟩
 ·exact⟨8,λs=>rfl,by decide,by decide,by decide⟩
 ·exact⟨16,λs=>rfl,by decide,by decide,by decide⟩
 ·exact⟨32,λs=>rfl,by decide,by decide,by decide⟩
 ·exact⟨64,λs=>rfl,by decide,by decide,by decide⟩
def FA {x:Int} (h:0<=x):qcd x 1=x%2:=by
 unfold qcd;rw[show (1:Int).toNat=1 from U,Nat.and_one_is_mod];lia
def B1 {row k:Int} (h:0<=row):qcd (row / 2^k.toNat) 1=onI row k:=FA (qdM h (qgC (Int.pow_pos (by decide))))
def onS (r:Int):Int:=((qam 6).map λk:Nat=>qcd (r / 2^k) 1).sum
def BB {st:Sto}{r:Int}:fL [.d (.int r)] st=some (.d (.int (onS r)),st):=by
 have a:lcI (.nm 0) aK gK [none,some (.d (.int r))] _ st=some ((bK 0 6).map λd=>match d with|.int k=>.int (qcd (r / 2^k.toNat) 1)|d=>d,st):=iE _ λd hd=>by
  obtain⟨i,hi⟩:=qdy.mp hd;obtain⟨rfl,_⟩:=gw hi;exact⟨_,U,by simp only[gK,iV,iC,iOp,xY,tL,qaa,qah,qax,qaB,qa6,if_true,show (0)<=(i:Int) by lia]⟩
 have c:((bK 0 6).map λd=>match d with|.int k=>.int (qcd (r / 2^k.toNat) 1)|d=>d)=((qam 6).map λk=>qcd (r / 2^k) 1).map D.int:=by
  unfold bK;rw[qaO,qaO];refine qck λk _=>?_;show D.int _=_;rw[qch];rfl
 rw[c]at a;have b:(bK 0 6).length<=1000000:=by decide
 unfold onS;simp only[fL,n4,iC,ac,aa,iCB,aq,aD,iLc,bB,bb,jw,ma,qaa,qah,qax,qar,qbA,qan,qa8,qa5,qa4,qbc,qbn,qbE,if_true,qaR,and_self,show -(2^62)<=(6)/\(6:Int)<2^62 by decide,show (6:Int).toNat=6 by decide,b,a,(bf _)]
def CK:∀ n,n<7->∀ m,m<2^n->0<=onS (m:Nat)/\onS (m:Nat)<=(n:Nat):=by decide +kernel
def vC {st:Sto}{b:Bool}{t:List Int}{row:Int} (g:0<=row) (l:∀ k∈t,0<=k/\k<=20) (n:t.length<=1000):bW [.d (.str (aN b)),.d (aj t),.d (.int row)] st=some (.d (.int (aY b t row)),st):=by
 have a:lcI (.nm 0) aK dU [none,some (.d (.int row))] _ st=some ((t.map D.int).map λd=>match d with|.int k=>.int (onI row k)|d=>d,st):=iE _ λd hd=>by
  obtain⟨k,h,rfl⟩:=qaM.mp hd;exact⟨_,U,by simp only[dU,iV,iC,iOp,xY,tL,qaa,qah,qax,qaB,qa6,if_true,(l k h).1,B1 g]⟩
 have j:((t.map D.int).map λd=>match d with|.int k=>.int (onI row k)|d=>d)=(t.map (onI row)).map D.int:=by rw[qaO,qaO];rfl
 rw[j]at a;have f:aU _=some (t.map (onI row)):=bf _;have c:(t.map D.int).length<=1000000:=by rw[qag];lia
 have i:((t.map D.int).length)=(t.length:Int):=by rw[qag]
 have k2:∀ q,qbI 2 q:=λq=>gm (by decide);have e:=ox b;have m:aY b t row=if b=true then (if (cG row t==(t.length))=true then 1 else 0) else 1 - 2*(cG row t%2):=by
  unfold aY;simp only[beq_iff_eq];split
  ·rfl
  ·split<;>lia
 rw[m];cases b with
 |true=>cases hq:(cG row t==_)<;>simp only[bW,fW,aj,iV,iC,iOp,aB,eZ,ac,aa,iCB,aq,ae,az,aD,iLc,aC,bb,cA,iQ,jw,cf,kc,aX,dI,dEq,gz,eqK,eqD,aV,tM,ma,qaa,qah,qax,qaB,qa6,qbr,qar,qbA,qan,qa8,qa5,qa4,qbc,qbn,qb1,qbE,if_true,if_false,qa7,qaR,lg,qjj,qco,a,f,c,jr,e,i,hq]
 |false=>simp only[bW,fW,aj,iV,iC,iOp,aB,eZ,ac,aa,iCB,aq,ae,az,aD,iLc,aC,bb,cA,iQ,jw,cf,kc,aX,dI,dEq,gz,eqK,eqD,aV,tM,ma,qaa,qah,qax,qaB,qa6,qbr,qar,qbA,qan,qa8,qa5,qa4,qbc,qbn,qb1,qbE,if_true,if_false,qa7,qaR,lg,qco,a,f,c,jr,e,k2,show (0:Int)<2 by decide]
def BU {r:Int} (a:0<=r) (b:r<2):fV (.int r):=by
 have:r=0\/r=1:=by lia
 rcases this with rfl|rfl
 ·exact .inr (.inl U)
 ·exact .inr (.inr U)
def B0 (a:Int):D->D
 |.int k=>.int (onS (qcd k a)%2)
 |d=>d
def rC {st:Sto}{h:Nat}{n:Int} (hh:cn st h) (Y:0<=n) (n1:n<=6):∃ c y,c.length=2^n.toNat/\(∀ u∈c,fV u)/\Stp h st y/\bD [.h h,.d (.int n)] st=some (.d (.tup c),y):=by
 obtain⟨q,c1,ct,v,c5⟩:=E7 Y n1;have N:(bK 0 q.toNat).length<=1000000:=by rw[cj];lia
 obtain⟨b,s1,y0,y1,t1,G⟩:=bZ hh (m:=6) (by decide) (by decide);by_cases T:b=3
 ·subst T
  obtain⟨x,k,cl,cv,t2,K⟩:=rj (te:=cJ) (a:=none) (l:=[some (.h h)]) (ds:=bK 0 (n+1).toNat) fV t1.hand (λs d _ A=>by
   obtain⟨r,s',I,R,t,e⟩:=bZ A (m:=2) (by decide) (by decide)
   exact⟨.int r,s',BU I R,t,by simp only[cJ,iV,iC,ac,aa,ap,qaa,qah,qax,qaB,e]⟩)
  obtain⟨c,p,B,O,⟨rfl⟩,o⟩:∃ c p,c.length=(bK 0 q.toNat).length/\(∀ u∈c,fV u)/\p=k/\lcI (.nm 0) aK bO [none,Z (.lst x)] (bK 0 q.toNat) k=some (c,p):=by
   obtain⟨c,p,o,A,hl,hv⟩:=f9 (g:=.nm 0) (tt:=aK) (te:=bO) (env:=[none,Z (.lst x)]) (ds:=bK 0 q.toNat)
    (λi J s=>s=k/\J.length=i/\∀ u ∈ J,fV u) (st:=k) (ys0:=[]) ⟨U,U,(λ_ h=>nomatch h)⟩ (λi d J s hd ⟨es,p3,p4⟩=>by
     subst es;obtain⟨rfl,hi⟩:=gw hd;have ho:=CK n.toNat (by lia) i (by lia);obtain⟨j,F⟩:=qdk ho.1;rw[cj]at cl;have C:j<x.length:=by lia
     have P:atI x (onS i)=some x[j]:=by rw[F];exact bN (qal C)
     have W:=BB (st:=s) (r:=(i:Int));refine⟨_,U,.inl ⟨s,x[j],s,U,?_,U,by rw[qaz,p3];rfl,λu H=>?_⟩⟩
     ·generalize onS (i:Nat)=w at P W
      simp only[bO,iV,iOp,ac,aa,ap,cf,dIx,qaa,qah,qax,qaB,qa6,lg,W,P]
     ·rcases qaS.mp H with z|z
      ·exact p4 u z
      ·rw[qao.mp z];exact cv _ (qbK C))
   exact⟨c,p,by simpa using hl,by simpa using hv,A,o⟩
  rw[cj]at B;have hb:-(2^62)<=n+1/\n+1<2^62:=by lia
  have M:(bK 0 (n+1).toNat).length<=1000000:=by rw[cj];lia
  refine⟨c,k,by rw[B,ct],O,t1.trans t2,?_⟩;simp only[bD,cm,iV,iC,iOp,aB,ac,aa,iCB,ap,bM,aq,aH,ae,az,aD,aT,iLc,bB,bb,cA,kf,iQ,jw,cf,lsD,dIx,be,dEq,gz,eqK,eqD,cU,qaa,qah,qax,qaB,qa6,qbr,qar,qbA,qan,qa8,qa5,qa4,qbc,qbn,qb1,qbE,if_true,qaR,and_self,lg,qcl,qhA,G,beq_self_eq_true,hb,M,K,c1,v,N,o]
 ·have Q:(b==(3:Int))=false:=by simp[T]
  have q0:0<q:=by
   have:0<2^n.toNat:=qeS (by decide)
   lia
  by_cases S:b=4
  ·subst S
   obtain⟨L,k,m0,X,t2,K⟩:=bZ t1.hand (m:=q) q0 (by lia);have o:lcI (.nm 0) aK cI [none,Z (.int L)] (bK 0 q.toNat) k=some ((bK 0 q.toNat).map (B0 L),k):=iE _ λd hd=>by
    obtain⟨i,hi⟩:=qdy.mp hd;obtain⟨rfl,_⟩:=gw hi;exact⟨_,U,by simp only[cI,B0,iV,iC,iOp,ac,aa,ap,dI,tL,qaa,qah,qax,qaB,qa6,if_true,BB,show (0:Int)<2 by decide]⟩
   refine⟨(bK 0 q.toNat).map (B0 L),k,by rw[qag,cj,ct],λu H=>?_,t1.trans t2,?_⟩
   ·obtain⟨d,hd,rfl⟩:=qaM.mp H
    obtain⟨i,hi⟩:=qdy.mp hd;obtain⟨rfl,_⟩:=gw hi;exact BU (qeA _ (by decide)) (qdU _ (by decide))
   ·simp only[bD,cm,iV,iC,iOp,aB,ac,aa,iCB,ap,bM,aq,aH,ae,az,aD,aT,iLc,bB,bb,cA,kf,iQ,jw,cf,lsD,dIx,be,dEq,gz,eqK,eqD,cU,qaa,qah,qax,qaB,qa6,qbr,qar,qbA,qan,qa8,qa5,qa4,qbc,qbn,qb1,qbE,if_true,if_false,qa7,qaR,and_self,lg,qcl,qhA,G,Q,beq_self_eq_true,c1,K,v,N,o]
  ·have f4:(b==(4:Int))=false:=by simp[S]
   have hm:∃ f:List D,f≠[]/\f.length<=5/\(∀ u∈f,fV u)/\atI [D.lst [.int 0,.int 1],.lst [.int 0,.int 1],.lst [.int 0,.int 1,.int 0,.int 1,.non],.lst [],.lst [],.lst [.non,.non,.int 0,.int 1]] b=some (.lst f):=by
    have E:fV (.int 0):=.inr (.inl U);have v1:fV (.int 1):=.inr (.inr U);have V:fV .non:=.inl U
    have:b=0\/b=1\/b=2\/b=5:=by lia
    rcases this with rfl|rfl|rfl|rfl
    ·exact⟨_,by simp,by simp,by simp[E,v1],U⟩
    ·exact⟨_,by simp,by simp,by simp[E,v1],U⟩
    ·exact⟨_,by simp,by simp,by simp[E,v1,V],U⟩
    ·exact⟨_,by simp,by simp,by simp[E,v1,V],U⟩
   obtain⟨f,m0,X,mv,em⟩:=hm;have mp:0<f.length:=qgK.mpr m0
   obtain⟨c,p,B,O,t3,o⟩:=rj (te:=cH) (a:=none) (l:=[Z (.lst f),some (.h h)]) (ds:=bK 0 q.toNat) fV t1.hand (λs d _ A=>by
    obtain⟨r,s',I,R,t,e⟩:=bZ A (m:=(f.length:Int)) (by lia) (by lia);obtain⟨j,rfl⟩:=qdk I;have F:j<f.length:=by lia
    exact⟨f[j],s',mv _ (qbK F),t,by simp only[cH,iV,iOp,ac,aa,iCB,ap,cf,dIx,aV,qaa,qah,qax,qaB,lg,e,(bN (qal F))]⟩)
   rw[cj]at B;refine⟨c,p,by rw[B,ct],O,t1.trans t3,?_⟩;simp only[bD,cm,iV,iC,iOp,aB,ac,aa,iCB,ap,bM,aq,aH,ae,az,aD,aT,iLc,bB,bb,cA,kf,iQ,jw,cf,lsD,dIx,be,dEq,gz,eqK,eqD,cU,qaa,qah,qax,qaB,qa6,qbr,qar,qbA,qan,qa8,qa5,qa4,qbc,qbn,qb1,qbE,if_true,if_false,qa7,qaR,and_self,lg,G,Q,f4,em,c1,v,N,o,show (0:Nat)<=1000 by decide,show (2:Nat)<=1000 by decide,show (4:Nat)<=1000 by decide,show (5:Nat)<=1000 by decide,show (6:Nat)<=1000 by decide]
end Own
set_option maxHeartbeats 1000000
namespace Own
open PySem L2
open Sx (Pb Tb Good Named Fe LV ZV piv lexP leastR leaveL sumN unit colV basis)
def xA (ls:List (List Int)):v4 (ls.map aj)=some ((ar ls).map aj):=by
 cases ls with
 |nil=>rfl
 |cons t r=>
  show (cR _).map _=_;rw[de];rfl
def kE {st:Sto}{n:Int} (m:0<=n) (w:n<=4):bV [.d (.int n)] st=some (.d (.lst ((ar (bA n.toNat)).map aj)),st):=by
 obtain⟨j,c,f,o,rfl,rfl⟩:=bF (g:=.nm 2) (body:=cx) (ds:=bK 0 n.toNat) (λi env s=>∃ o,env=[Z (.int n),Z (.lst ((bA i).map aj)),o]/\s=st)
  ⟨none,U,U⟩ (λi d env s hd ⟨o,e,es⟩=>by
   subst e es;obtain⟨rfl,hi⟩:=gw hd;have h:(bA i).length<=64:=by
    rw[fC];exact qaY (qce (by decide) (by lia:i<=6)) (by decide)
   have b:lcI (.nm 0) aK cu [none,some (.d (.int i))] _ s=some (((bA i).map aj).map λd=>match d with|.tup ds=>.tup (ds++[.int i])|d=>d,s):=iE _ λd hd=>by
    obtain⟨t,r,rfl⟩:=qaM.mp hd;have l:=wd (fD i r);have q:(t.map D.int).length+1<=1000000:=by rw[qag];lia
    exact⟨_,U,by simp only[cu,aj,iV,iOp,ac,aa,bh,kf,lsD,be,qaa,qah,qax,qaB,qa6,qan,qa8,if_true,qaR,lg,q,show (1)<=1000 by decide]⟩
   have p:(((bA i).map aj).map λd=>match d with|.tup ds=>.tup (ds++[.int i])|d=>d)=((bA i).map λt=>t++[(i:Int)]).map aj:=by
    rw[qaO,qaO];refine qck λt _=>?_;show D.tup _=D.tup _;rw[qbS];rfl
   rw[p]at b;have v:(bA (i+1)).map aj=(bA i).map aj++((bA i).map λt=>t++[(i:Int)]).map aj:=by rw[bA,qbS]
   have u:((bA i).map aj).length<=1000000:=by rw[qag];lia
   have k:((bA i).map aj).length+(((bA i).map λt=>t++[(i:Int)]).map aj).length<=1000000:=by simp only[qag];lia
   refine⟨_,[some _,some _,Z (.int i)],s,U,.inl ?_,_,U,U⟩;rw[v]
   simp only[cx,iV,iOp,aq,az,iLc,aC,cA,jw,lsD,be,qaa,qah,qax,qaB,qa6,qbr,qar,qbA,qa5,qa4,qbc,qbn,if_true,lg,b,u,k])
 rw[cj]at f;have h:((bA n.toNat).map aj).length<64:=by
  rw[qag,fC];exact qbQ (qce (by decide) (by lia:n.toNat<=4)) (by decide)
 have a:iCL pZ (aa (iV 1) ac) [Z (.int n),Z (.lst ((bA n.toNat).map aj)),o] c=some ((ar (bA n.toNat)).map aj,c):=by
  show ((if ((bA n.toNat).map aj).length<64 then v4 _ else none)).map (λd=>(d,c))=_;rw[iFP h,xA];rfl
 exact aw U (ah (ak (ay (U))) (ah (bz (no U m (by lia) U) f) (aJ (ay a))))
def FB (ds:List D) (k:Nat):j9 ds (some (k:Int)) none=ds.drop k:=by
 unfold j9;rw[HT.sIx_nat,HT.sIx_none];rcases qjg k ds.length with h|h
 ·rw[qhM h,qcG (by rw[qec];lia)]
 ·rw[qhC h,qex,List.take_zero,List.drop_eq_nil_of_le h]
def ke {tt:Tf}{te:Ef}{st:Sto}{n:Nat}{a:Option W}{l:Ev}{A:List (List Int)} (h:cn st n) (r:∀ t s,cn s n->∃ b s',Stp n s s'/\tt (Z (aj t)::l) s=some (b,s')) (u:∀ d s,te (Z d::l) s=some (.d d,s)) :
  ∃ (ls:List (List Int)) (c:Sto),ls.Sublist A/\Stp n st c/\lcI (.nm 0) tt te (a::l) (A.map aj) st=some (ls.map aj,c):=by
 obtain⟨x,q,k,ls,v,j,t2⟩:=f9 (g:=.nm 0) (env:=a::l)
  (λi m s=>∃ ls,m=ls.map aj/\ls.Sublist (A.take i)/\Stp n st s) ⟨[],U,qfj _,Stp.refl h⟩ (λi d m s hd ⟨ls,e,j,p⟩=>by
   subst e;rw[qay]at hd;obtain⟨t,w,rfl⟩:=qad.mp hd;have f:A.take (i+1)=A.take i++[t]:=by rw[qhc,w];rfl
   obtain⟨b,s',o,k⟩:=r t s p.hand;refine⟨_,U,?_⟩;cases b with
   |true=>exact .inl ⟨s',_,s',k,u _ _,ls++[t],by rw[qbS];rfl,by rw[f];exact j.append (qdG _),p.trans o⟩
   |false=>exact .inr ⟨s',k,ls,U,by rw[f];exact j.trans (qf3 _ _),p.trans o⟩)
 rw[qag,qdD]at j;exact⟨ls,q,j,t2,by rw[k];rw[<-v];rfl⟩
def zA {st:Sto}{h:Nat}{n:Int} (E:cn st h) (D:0<=n) (H:n<=4):∃ (z:List (List Int)) (g:Sto),z.Sublist (ar (bA n.toNat))/\Stp h st g/\gg [.h h,.d (.int n)] st=some (.d (tsD z),g):=by
 obtain⟨a,s1,R,Q,t1,G⟩:=bZ E (m:=5) (by decide) (by decide);have F:=kE (st:=s1) D H;have K:(ar (bA n.toNat)).length<=16/\0<(ar (bA n.toNat)).length:=by
  rw[(aE _).length_eq,fC];exact⟨qaY (qce (by decide) (by lia:n.toNat<=4)) (by decide),qew _⟩
 generalize ar _=A at *;have B:(A.map aj).length<=1000000:=by rw[qag];lia
 have u:(A.map aj).length=A.length:=qag ..;have pre:∀ {r:Option Fl},ae _ _ [some (.h h),some _,some _,some _,none,none] s1=r->jl ([W.h h,.d _].map some++qaG (6 - 2) none) st=r:=λ{r} P=>
  ah (ak (ai U G)) (ah (ak (ai U F)) P)
 have c:∀ (k:Int) (s:Sto),aB dEq (iV 2) (iC _) [some (.h h),Z (.int n),some _,Z (.lst (A.map aj)),none,none] s=some (a==k,s):=λk s=>av U U (dZ _ _ _);by_cases x:a=0
 ·subst x
  obtain⟨r,b,o,w,t2,f⟩:=bZ t1.hand (m:=n+1) (by lia) (by lia);obtain⟨ls,q,e,j,p⟩:=ke (tt:=im) (te:=gM) (l:=[Z (.int r)]) t2.hand (λt s e=>⟨_,s,Stp.refl e,U⟩) (λd s=>rfl);refine⟨ls,q,e,t1.trans (t2.trans j),aw U (pre (dF (cE (c 0 s1) (ah (ak (ai (ab U (ab U U)) f)) (aJ (aL (ab (ay (aS (aZ U) B p)) U) U))))))⟩
 ·have L:(a==(0:Int))=false:=by simp[x]
  have i:=c 0 s1;rw[L]at i;by_cases v:a=1
  ·subst v
   obtain⟨ls,q,e,j,p⟩:=ke (tt:=ik) (te:=gL) (l:=[some (.h h)]) t1.hand (λt s e=>by
    obtain⟨r,b,o,w,t2,f⟩:=bZ e (m:=2) (by decide) (by decide)
    exact⟨r==1,b,t2,av (ai U f) U (dZ _ _ _)⟩) (λd s=>rfl)
   exact⟨ls,q,e,t1.trans j,aw U (pre (ah (bn i U) (dF (cE (c 1 s1) (aJ (aL (ab (ay (aS (aZ U) B p)) U) U))))))⟩
  ·have O:(a==(1:Int))=false:=by simp[v]
   have c1:=c 1 s1;rw[O]at c1;by_cases C:a=2
   ·subst C
    exact⟨[],s1,qfj _,t1,aw U (pre (ah (bn i U) (ah (bn c1 U) (dF (cE (c 2 s1) U)))))⟩
   ·have N:(a==(2:Int))=false:=by simp[C]
    have c2:=c 2 s1;rw[N]at c2;by_cases y:a=3
    ·subst y
     obtain⟨r,b,o,w,t2,f⟩:=bZ t1.hand (m:=(((A.map aj).length:Nat):Int)) (by lia) (by lia);obtain⟨k,rfl⟩:=qdk o;have sa:iSl (iV 3) iPn (iPs (iV 5)) [some (.h h),Z (.int n),Z (.int 3),Z (.lst (A.map aj)),none,Z (.int ((k:Nat):Int))] b=some (.d (.lst ((A.map aj).take k)),b):=by
      rw[<-D0];rfl
     have M:iSl (iV 3) (iPs (iOp be (iV 5) (iC (.int 1)))) iPn [some (.h h),Z (.int n),Z (.int 3),Z (.lst (A.map aj)),none,Z (.int ((k:Nat):Int))] b=some (.d (.lst ((A.map aj).drop (k+1))),b):=by
      rw[<-FB];rfl
     refine⟨A.eraseIdx k,b,List.eraseIdx_sublist _ _,t1.trans t2,?_⟩;have I:tsD (A.eraseIdx k)=.tup ((A.map aj).take k++(A.map aj).drop (k+1)):=by
      unfold tsD;rw[List.eraseIdx_eq_take_drop_succ,qbS,List.map_take,List.map_drop]
     rw[I];exact aw U (pre (ah (bn i U) (ah (bn c1 U) (ah (bn c2 U) (dF (cE (c 3 s1) (ah (ak (ai (ab U (ab (aL (ab U U) U) U)) f)) (aJ (aL (ab (ag sa M (eV _ (by rw[qc5,qec];lia))) U) U)))))))))
    ·have J:(a==(3:Int))=false:=by simp[y]
     have c3:=c 3 s1;rw[J]at c3;exact⟨A,s1,qdG _,t1,aw U (pre (ah (bn i U) (ah (bn c1 U) (ah (bn c2 U) (ah (bn c3 U) (aJ (aL (ab U U) U)))))))⟩
end Own
set_option maxHeartbeats 1000000
namespace Own
open PySem L2
open Sx (Pb Tb Good Named Fe LV ZV piv lexP leastR leaveL sumN unit colV basis)
def vW {f:Tf}{env:Ev}{st s:Sto}{k:Bool} (h:f env st=some (k,s)):dC f env st=some (!k,s):=by
 simp only[dC,h,qaa,qah]
def i5 {a b:Tf}{env:Ev}{st s s':Sto}{k:Bool} (c:a env st=some (false,s)) (hb:b env s=some (k,s')):cS a b env st=some (k,s'):=by
 simp only[cS,c,hb,qaa,qa7,if_false]
def lQ {a b:Tf}{env:Ev}{st s:Sto} (c:a env st=some (false,s)):cC a b env st=some (false,s):=by
 simp only[cC,c,qaa,qa7,if_false]
def gr {a b:Tf}{env:Ev}{st s s':Sto}{k:Bool} (c:a env st=some (true,s)) (hb:b env s=some (k,s')):cC a b env st=some (k,s'):=by
 simp only[cC,c,hb,qaa,if_true]
def sD {f:Ef}{env:Ev}{st s:Sto}{k:Bool} (h:f env st=some (.d (.bl k),s)):cL dc f env st=some (k,s):=by
 simp only[cL,h,qaa];rfl
def nJ {st:Sto} (i:Int):cM [.d (.int i)] st=some (.d (.bl true),st):=rfl
def ET {a:Af}{env:Ev}{st s:Sto}{bs:List Bool} (h:a env st=some ([.d (.lst (bs.map D.bl))],s)):iCB zY a env st=some (.d (.bl (bs.all id)),s):=by
 refine aL h ?_;show (j7 _).map _=_;rw[l8];rfl
def Ak {a b:List Int} (h:leL a b) (c:a≠b):br a b=true:=by
 cases e:br a b with
 |true=>rfl
 |false=>exact absurd (gW a b e h) c
def wV {l:List (List Int)} (hn:l.Nodup):(ar l).Pairwise λa b=>br a b=true:=by
 have c:=(aE l).nodup_iff.mpr hn;exact (df l).imp₂ (λa b d c=>Ak d c) c
def As {c:List (List Int)}{X:List Int->Int} (h:c.Pairwise λa b=>br a b=true):(bC c X).Pairwise λp q=>br p.1 q.1=true:=by
 unfold bC;rw[qdr];exact h.sublist qgN
def m4 {a:List (List Int)}{X:List Int->Int}{p:Prt} (h:p∈bC a X):p.1∈a/\p.2=X p.1/\p.2≠0:=by
 obtain⟨t,d,rfl⟩:=qaM.mp h;obtain⟨c,b⟩:=qcj.mp d;exact⟨c,U,of_decide_eq_true b⟩
def vS (ps:List Prt):Nat->D
 |0=>.non
 |i+1=>aj (ps.getD i ([],0)).1
def xh {st:Sto} (t:List Int):lcI (.nm 0) aK cV [none] (t.map D.int) st=some ((t.map λ_=>true).map D.bl,st):=by
 rw[qaO];exact mO _ λk _=>ai U (nJ k)
def wW {st:Sto}{kd:Str}{c:List (List Int)}{ps:List Prt} (C:ps.length<=1000) (x:ps.Pairwise λp q=>br p.1 q.1=true) (hm:∀ p∈ps,p.1∈c/\p.1.length<=1000/\p.2≠0):d9 [.d (cP kd ps),.d (.str kd),.d (tsD c)] st=some (.d (.bl true),st):=by
 obtain⟨t,h,v,⟨k,rfl⟩,rfl⟩:=bF (g:=.nm 4) (body:=fI) (ds:=ps.map cb) (λi env s=>(∃ k,env=[Z (cP kd ps),Z (.str kd),Z (tsD c),Z (vS ps i),k])/\s=st)
  ⟨⟨_,U⟩,U⟩ (λi d env s hd ⟨⟨k,e⟩,es⟩=>by
   subst e es;obtain⟨p,f,rfl⟩:=xn hd;obtain⟨u,m2,m3⟩:=hm p (qb2 f);have hi:=(qas.mp f).1;have o:vS ps (i+1)=aj p.1:=by
    show aj (ps.getD i ([],0)).1=_;rw[qaC,f];rfl
   have l:lj s (.d (aj p.1)) (.d (tsD c))=some (.bl false):=by
    show (cR [aj p.1]).bind _=_;rw[show [aj p.1]=[p.1].map aj from U,de,qaa,show cf s _=some _ from U,qaa,de];show some (D.bl (!decide (p.1∈c)))=_;rw[decide_eq_true u];rfl
   have m:cC (aB jt (iV 3) (iC .non)) (dC (aB tO (iV 3) (iOp dIx (iV 4) (iC (.int 0))))) [Z (cP kd ps),Z (.str kd),Z (tsD c),Z (vS ps i),Z (.tup [aj p.1,.int p.2])] s=some (false,s):=by
    cases i with
    |zero=>exact lQ U
    |succ j=>
     have r:j<ps.length:=by lia
     have A:br (ps.getD j ([],0)).1 p.1=true:=by
      have:=qfV.mp x j _ r hi (by lia)
      rw[qaC,qal r];rw[qal hi,qev]at f;rw[<-f];exact this
     have n:tO s (.d (aj (ps.getD j ([],0)).1)) (.d (aj p.1))=some (.bl true):=by
      show (aU _).bind _=_;rw[bf,bf,qaa,qah,A]
     exact gr U (vW (av U (ag U U (ky _ _ _)) n))
   have y:(p.2==(0))=false:=by simp[m3]
   have B:(p.1.map D.int).length<=1000000:=by rw[qag];lia
   have hb:(p.1.map λ_=>true).all id=true:=by simp
   have b:=ET (a:=aa (aq (iLc 1 [] (aC (iOp dIx (iV 4) (iC _))) _ aK cV)) ac) (env:=[Z (cP kd ps),Z (.str kd),Z (tsD c),Z (vS ps i),Z (.tup [aj p.1,.int p.2])]) (ab (ay (aS (bg (ag U U (ky _ _ _))) B (xh (st:=s) p.1))) U);rw[hb]at b;refine⟨_,[some _,some _,some _,some _,Z (.tup [aj p.1,.int p.2])],s,U,.inl ?_,⟨_,by rw[o]⟩,U⟩;generalize p.2=z at *
   exact ah (bn (s:=s) U U) (ah (bn (i5 (vW (sD b)) (i5 (av (ag U U (ky _ _ _)) U l) (vW (sD (ai (ab (ag U U (gD _ _ _)) U) (nJ z)))))) U) (ah (bn (i5 (av (ag U U (gD _ _ _)) U (by rw[dZ,y])) m) U) (ak (ag U U (ky _ _ _))))))
 have w:dNe h (.d (.str kd)) (.d (.str kd))=some (.bl false):=by
  show some (D.bl (!(kd==kd)))=_;rw[beq_self_eq_true];rfl
 exact aw U (ah (bn (i5 (s:=h) U (i5 (s:=h) U (i5 (s:=h) U (av (ag U U (ky _ _ _)) U w)))) U) (ah (bn (s:=h) U U) (ah (ak U) (ah (bz (bg (ag U U (gD _ _ _))) v) U))))
end Own
set_option maxHeartbeats 1000000
namespace Own
open PySem L2
open Sx (Pb Tb Good Named Fe LV ZV piv lexP leastR leaveL sumN unit colV basis)
def Br {fs:List D}{w:Nat->Int}{i:Nat}{d:D} (h:(iq (mpI fs.length w) fs)[i]?=some d):i<fs.length/\d=.tup [.int (w i),fs.getD i .non]:=by
 rw[fU]at h;by_cases hi:i<fs.length
 ·rw[bi hi,qal hi,qaa,qah,qev]at h
  exact⟨hi,by rw[qaC,qal hi,<-h];rfl⟩
 ·rw[qaD (by rw[aA];lia)]at h
  cases h
def rs {fs:List D}{i:Nat}{d:D} (h:(ci 0 fs)[i]?=some d):i<fs.length/\d=.tup [.int ((i:Nat):Int),fs.getD i .non]:=by
 rw[dQ]at h;by_cases hi:i<fs.length
 ·rw[qal hi,qah,qev,qaR]at h
  exact⟨hi,by rw[qaC,qal hi,<-h];rfl⟩
 ·rw[qaD (by lia)]at h
  cases h
def rz:∀ (ds:List D) (k:Nat),(ci k ds).length=ds.length
 |[],_=>rfl
 |_::ds,k=>by rw[ci,qan,qan,rz ds]
def ltF (s:Sto) {a b:Int} (h:¬ a<b):dLt s (.d (.int a)) (.d (.int b))=some (.bl false):=by
 show some _=_;rw[decide_eq_false h]
def gtF (s:Sto) {a b:Int} (h:¬ b<a):dGt s (.d (.int a)) (.d (.int b))=some (.bl false):=by
 show some _=_;rw[decide_eq_false h]
def Ei (s:Sto) {d:D} (h:d≠.non):jb s (.d d) (.d .non)=some (.bl false):=by
 cases d<;>first|rfl|exact absurd U h
def yH (s:Sto) {d:D} (h:d≠.non):jt s (.d d) (.d .non)=some (.bl true):=by
 cases d<;>first|rfl|exact absurd U h
def zT {st:Sto}{fs:List D}{w:Nat->Int}{a2 c:Option W} (h:∀ r,r<fs.length->0<=w r) (hn:∀ r,r<fs.length->fs.getD r .non=.non->w r=0):∃ l k,cw (.tp [4,5]) du (iq (mpI fs.length w) fs) [Z (.tup (mpI fs.length w)),Z (.tup fs),a2,c,none,none] st=some (.nx [Z (.tup (mpI fs.length w)),Z (.tup fs),a2,c,l,k] st):=by
 obtain⟨f,m,j,⟨a,b,rfl⟩,rfl⟩:=bF (g:=.tp [4,5]) (body:=du) (λi env s=>(∃ a b,env=[Z (.tup (mpI fs.length w)),Z (.tup fs),a2,c,a,b])/\s=st)
  ⟨⟨_,_,U⟩,U⟩ (λi d env s hd ⟨⟨a,b,e⟩,es⟩=>by
   subst e es;obtain⟨hi,rfl⟩:=Br hd;have w0:=h i hi;have wn:=hn i hi;refine⟨_,_,s,U,.inl ?_,⟨some (.d (.int (w i))),Z (fs.getD i .non),U⟩,U⟩;generalize fs.getD i .non=v at *;refine bn (i5 (vW (sD (ai U (nJ _)))) (i5 (s:=s) (av U U (ltF _ (by lia))) ?_)) U;by_cases e:v=.non
   ·subst e
    exact gr U (av U U (gtF _ (by lia)))
   ·exact lQ (av U U (Ei _ e)))
 exact⟨a,b,j⟩
def sR (fs:List D) (g:Nat->Int) (r:Nat):Int:=if dD (fs.getD r .non)=true then 0 else g r
def ED {d:D} (h:d≠.non):¬ dD d=true:=by
 cases d<;>first|exact absurd U h|exact Bool.noConfusion
def E6 (s:Sto) {d:D} (a:fV d) (hn:d≠.non):∃ z:Int,d=.int z/\aX s (.d (.int 2)) (.d d)=some (.int (2*z))/\2*z - 1=sgD d:=by
 rcases a with rfl|rfl|rfl
 ·exact absurd U hn
 ·exact⟨0,U,cr s (gm (by decide)),U⟩
 ·exact⟨1,U,cr s (gm (by decide)),U⟩
def wg (b:Bool) (t:List Int) (row:Int):(aY b t row).natAbs<=1:=by
 unfold aY;split<;>split<;>decide
def Ao {st:Sto}{fs:List D}{b:Bool}{t:List Int}{w:Nat->Int} (x:fs.length<=1000) (q:∀ d∈fs,fV d) (p:(∀ k∈t,0<=k/\k<=20)/\t.length<=20) :
  jf [.d (.tup fs),.d (.str (aN b)),.d (aj t),.d (.tup (mpI fs.length w))] st=some (.d (.int (sumN fs.length (sR fs λr=>w r*sgD (fs.getD r .non)*aY b t r))),st):=by
 obtain⟨l,v,j,⟨f,c,rfl⟩,rfl⟩:=bF (g:=.tp [5,6]) (body:=jK) (λi env s=>(∃ f c,env=[Z (.tup fs),Z (.str (aN b)),Z (aj t),Z (.tup (mpI fs.length w)),Z (.int (sumN i (sR fs λr=>w r*sgD (fs.getD r .non)*aY b t r))),f,c])/\s=st)
  ⟨⟨_,_,U⟩,U⟩ (λi d env s hd ⟨⟨f,c,e⟩,es⟩=>by
   subst e es;obtain⟨hi,rfl⟩:=rs hd;have es:sumN (i+1) _=sumN i _+sR fs (λr=>w r*sgD (fs.getD r .non)*aY b t r) i:=rfl;have a:fV (fs.getD i .non):=by
    rw[qaC,qal hi];exact q _ (qbK hi)
   refine⟨_,[some _,some _,some _,some _,some _,Z (.int (i)),Z (fs.getD i .non)],s,U,.inl ?_,⟨_,_,U⟩,U⟩;have m:sR fs (λr=>w r*sgD (fs.getD r .non)*aY b t r) i=if dD _=true then 0 else w i*sgD _*aY b t i:=rfl;rw[es,m];have n:=wg b t (i);generalize fs.getD i .non=d at *;by_cases e:d=.non
   ·subst e
    rw[iFP (show dD D.non=true from U),qdV];exact bn U U
   ·obtain⟨z,rfl,u,o⟩:=E6 s a e
    have sg1:(sgD (.int z)).natAbs<=1:=by rcases zr with h|h<;>rw[h]<;>decide
    rw[<-o]at sg1 ⊢
    exact cE (av U U (yH _ e)) (ak (ag U (ag (ag (ag U U (bN (bi hi))) (ag (ag U U u) U U) (cr s (dO (by lia)))) (ai (ab U (ab U (ab U U))) (vC (by lia) p.1 (by lia))) (cr s (dO (by lia)))) U)))
 rw[rz]at j;exact aw U (ah (ak U) (ah (bz U j) U))
end Own
set_option maxHeartbeats 1000000
namespace Own
open PySem L2
open Sx (Pb Tb Good Named Fe LV ZV piv lexP leastR leaveL sumN unit colV basis)
def qN (f:Nat->Int):∀ n,((qam n).map f).sum=sumN n f
 |0=>rfl
 |n+1=>by
  rw[qep,qbS,List.sum_append,qN f n];show _+(f n+0)=sumN n f+f n;lia
def yR {l m:List Int} (h:l.Perm m):l.sum=m.sum:=by
 induction h with
 |nil=>rfl
 |cons x _ c=>rw[qcn,qcn,c]
 |swap x y l=>rw[qcn,qcn,qcn,qcn];lia
 |trans _ _ a b=>exact a.trans b
def vG (X g:List Int->Int):∀ a:List (List Int),((bC a X).map λp=>p.2*g p.1).sum=(a.map λt=>X t*g t).sum
 |[]=>rfl
 |t::a=>by
  have b:=vG X g a;unfold bC at b ⊢;rw[qed,qar,qcn];by_cases h:X t=0
  ·rw[iFN (by simp[h]),b,h,qbW,qch]
  ·rw[iFP (by simp[h]),qar,qar,qcn,b]
def yI (X g:List Int->Int) (a:List (List Int)):((bC (ar a) X).map λp=>p.2*g p.1).sum=sumN a.length λt=>X (a.getD t [])*g (a.getD t []):=by
 rw[vG,yR ((aE a).map λt=>X t*g t),iL [] _ a,qN]
def sQ (g:Nat->Int):∀ (r:List D) (k:Nat),((bH k r).map λj=>g j.toNat).sum=sumN r.length λj=>if dD (r.getD j .non)=true then 0 else g (k+j)
 |[],k=>rfl
 |d::r,k=>by
  rw[qan,qgy r.length 1,Sx.sumN_append];have b:(sumN r.length λj=>if dD ((d::r).getD (1+j) .non)=true then 0 else g (k+(1+j)))=sumN r.length λj=>if dD _=true then 0 else g _:=Sx.sumN_congr λj _=>by
   rw[qgy 1 j,qaB,show k+_=k+1+j by lia]
  have c:(sumN 1 λj=>if dD ((d::r).getD j .non)=true then 0 else g (k+j))=if dD d=true then 0 else g k:=by
   show (0)+_=_;rw[qch];rfl
  rw[b,c,<-(sQ g r _)];have a:(((k:Int)::bH (k+1) r).map λj=>g j.toNat).sum=g k+((bH (k+1) r).map λj=>g j.toNat).sum:=by
   rw[qar,qcn,qbp]
  cases d<;>first|exact (qch _).symm|exact a
def sP:∀ (r:List D) (k j:Nat),j<r.length->r.getD j .non≠.non->((k+j:Nat):Int)∈bH k r
 |[],_,_,h,_=>absurd h (qcP _)
 |d::r,k,0,_,hn=>by
  have:_∈(k:Int)::bH (k+1) r:=qaf
  cases d<;>first|exact absurd U hn|exact this
 |d::r,k,j+1,h,hn=>by
  have a:=sP r (k+1) j (by rw[qan]at h;lia) (by exact hn);rw[show k+1+j=k+(j+1) by lia]at a;cases d<;>first|exact a|exact qak _ a
section
variable {fs:List D}{b:Bool}{a:List (List Int)}{X:List Int->Int}{w:Nat->Int}
def vY (h:Spl fs a) (S:jZ fs b a X w) {t:List Int} (g:t∈a):sumN fs.length (sR fs λr=>w r*sgD (fs.getD r .non)*aY b t r)=0:=by
 obtain⟨j,d,rfl⟩:=jQ g;have e:=sQ (λr=>w r*sgD (fs.getD r .non)*aY b (a.getD j []) r) fs 0;rw[iL 0 _ _,qN]at e;have k:sumN fs.length (sR fs λr=>w r*sgD _*aY b _ r)=sumN fs.length λr=>if dD _=true then 0 else w (0+r)*sgD (fs.getD (0+r) .non)*aY b (a.getD j []) ((0+r:Nat)):=Sx.sumN_congr λr _=>by rw[qaR];rfl
 rw[k,<-e];refine Eq.trans (Sx.sumN_congr λi hi=>?_) (S.bal j d);show w (rN fs i)*sgD (fs.getD (rN fs i) .non)*aY b _ (rN fs i)=sgD (fs.getD (rN fs i) .non)*aY b _ _*w _;rw[((oE h hi).1),qbt,qaZ]
def A8 (h:Spl fs a) (S:jZ fs b a X w) {r:Nat} (l:r<fs.length) (hn:fs.getD r .non≠.non):0<=(sumN a.length λt=>X (a.getD t [])*aY b (a.getD t []) r)*sgD (fs.getD r .non)/\((sumN a.length λt=>X (a.getD t [])*aY b (a.getD t []) r)*sgD (fs.getD r .non)=0↔w r≠0):=by
 have hm:=sP fs 0 r l hn;rw[qaR]at hm;obtain⟨i,hi,e⟩:=qcS.mp hm;have c:jU fs i=(r):=by
  unfold jU;rw[qaC,qal hi];exact e
 have m:rN fs i=r:=by unfold rN;rw[c,qbp]
 have v:=S.val i hi;rw[m]at v;have f:(sumN a.length λt=>X (a.getD t [])*spV fs b a i t)=(sumN a.length λt=>X (a.getD t [])*aY b (a.getD t []) r)*sgD (fs.getD r .non):=by
  rw[<-Sx.sumN_right];refine Sx.sumN_congr λt _=>?_;unfold spV;rw[c,qbp,qaZ (sgD _),qbt]
 rw[f]at v;exact v
end
end Own
set_option maxHeartbeats 1000000
namespace Own
open PySem L2
open Sx (Pb Tb Good Named Fe LV ZV piv lexP leastR leaveL sumN unit colV basis)
def j8 (row k:Int):∀ t:List Int,cG row (t++[k])=cG row t+onI row k
 |[]=>by show onI row k+0=0+onI row k;lia
 |j::t=>by
  show onI row j+cG row (t++[k])=onI row j+cG row t+onI row k;rw[j8 row k t];lia
def uN (row:Int):∀ t:List Int,0<=cG row t/\cG row t<=(t.length:Int)
 |[]=>⟨qcE _,qcE _⟩
 |j::t=>by
  have:=uN row t
  have e:cG row (j::t)=onI row j+cG row t:=rfl;rw[e,qan];rcases EI row j with q|q<;>rw[q]<;>lia
def Bl {b:Bool}{t:List Int}{k row:Int} (h:onI row k=0):aY b (t++[k]) row=if b=true then 0 else aY b t row:=by
 unfold aY;rw[j8,h,qaz,qbU]
 have:=uN row t
 cases b with
 |true=>rw[iFP U,iFP U,iFN (by lia)]
 |false=>rw[iFN qaL,iFN qaL,iFN qaL,qdV]
def DE {b:Bool}{t:List Int}{k row:Int} (h:onI row k=1):aY b (t++[k]) row=if b=true then aY b t row else - aY b t row:=by
 unfold aY;rw[j8,qaz,qbU];cases b with
 |true=>
  rw[iFP U,iFP U,iFP U];by_cases q:cG row t=(t.length)
  ·rw[iFP q,iFP (by lia)]
  ·rw[iFN q,iFN (by lia)]
 |false=>
  rw[iFN qaL,iFN qaL,iFN qaL];by_cases q:cG row t%2=1
  ·rw[iFP q,iFN (by lia)];rfl
  ·rw[iFN q,iFP (by lia)]
def qC (r k:Nat):onI (r:Int) (k:Int)=if r.testBit k=true then 1 else 0:=by
 unfold onI;rw[qbp,Nat.testBit_eq_decide_div_mod_eq];by_cases q:r / 2^k%2=1
 ·lia
 ·lia
def oj {r q:Int}:∀ {t:List Int},(∀ k∈t,onI r k=onI q k)->cG r t=cG q t
 |[],_=>rfl
 |k::t,h=>by
  show onI r k+cG r t=onI q k+cG q t;rw[h k qaf,oj λj a=>h j (qak _ a)]
def wj {b:Bool}{n r:Nat}{t:List Int} (h:t∈bA n):aY b t ((2^n+r:Nat):Int)=aY b t (r:Int):=by
 have e:cG ((2^n+r:Nat)) t=cG (r) t:=oj λk a=>by
  have hb:=(fD n h).2 k a;obtain⟨i,rfl⟩:=qdk (show 0<=k by lia);rw[qC,qC,Nat.testBit_two_pow_add_gt (by lia)]
 unfold aY;rw[e]
def rK (b:Bool):∀ (n:Nat) (v:Nat->Int),(∀ t∈bA n,sumN (2^n) (λr=>v r*aY b t r)=0)->∀ r,r<2^n->v r=0
 |0,v,h,r,j=>by
  have:=h [] (by simp[bA])
  have e:sumN (2^0) (λr=>v r*aY b [] r)=v 0:=by
   show 0+v 0*aY b [] _=v 0;cases b<;>simp[aY,cG]
  rw[e]at this
  have:r=0:=by lia
  subst this;assumption
 |n+1,v,h,r,j=>by
  have i:2^(n+1)=2^n+2^n:=by lia
  have lo:=λt a=>by
   have:=h t (by exact qaX _ a)
   rw[i,Sx.sumN_append,Sx.sumN_congr (f:=λk=>v (2^n+k)*aY b t _) λk _=>by rw[wj a]]at this;exact this
  have hi:∀ t∈bA n,(if b=true then 0 else sumN (2^n) (λr=>v r*aY b t r))+(if b=true then sumN _ (λr=>v (2^n+r)*aY b t r) else - sumN (2^n) (λr=>v (2^n+r)*aY b t r))=0:=λt a=>by
   have:=h _ (by exact qau _ (qaM.mpr ⟨t,a,U⟩))
   rw[i,Sx.sumN_append,Sx.sumN_congr (f:=λk=>v (2^n+k)*aY b _ _) (g:=λk=>if b=true then v (2^n+k)*aY b t k else -1*(v (2^n+k)*aY b t k)) λk d=>by
     rw[DE (by rw[qC,Nat.testBit_two_pow_add_eq,qgq d];rfl),wj a];cases b
     ·lia
     ·rw[iFP U,iFP U],
    Sx.sumN_congr (g:=λk=>if b=true then 0 else v k*aY b t k) λk d=>by
     rw[Bl (by rw[qC,qgq d];rfl)];cases b
     ·rw[iFN qaL,iFN qaL]
     ·rw[iFP U,iFP U,qa3]]at this
   cases b
   ·simp only[qa7,if_false,Sx.sumN_mul]at this ⊢
    lia
   ·simp only[if_true,Sx.sumN_zero]at this ⊢
    exact this
  have c:(∀ r,r<2^n->v (2^n+r)=0)/\∀ r,r<2^n->v r=0:=by
   cases b with
   |true=>
    exact⟨(rK true n _ λt a=>by have:=hi t a;lia),(rK true n v λt a=>by have:=hi t a;have:=lo t a;lia)⟩
   |false=>
    exact⟨(rK false n _ λt a=>by have:=hi t a;have:=lo t a;lia),(rK false n v λt a=>by have:=hi t a;have:=lo t a;lia)⟩
  by_cases q:r<2^n
  ·exact c.2 r q
  ·have:=c.1 (r - 2^n) (by lia)
   rw[show 2^n+_=r by lia]at this;exact this
end Own
set_option maxHeartbeats 1000000
namespace Own
open PySem L2
open Sx (Pb Tb Good Named Fe LV ZV piv lexP leastR leaveL sumN unit colV basis)
def EU {a b:Ef}{env:Ev}{st s s':Sto}{x:W} (c:a env st=some (.d (.bl true),s)) (hb:b env s=some (x,s')):om a b env st=some (x,s'):=by
 simp only[om,c,hb,qaa,blW,if_true]
def leF (s:Sto) {a b:Int} (h:¬ a<=b):dLe s (.d (.int a)) (.d (.int b))=some (.bl false):=by
 show some _=_;rw[decide_eq_false h]
def sum0:∀ {n:Nat}{f:Nat->Int},(∀ k,k<n->0<=f k)->sumN n f=0->∀ k,k<n->f k=0
 |0,_,_,_,k,a=>absurd a (by lia)
 |n+1,f,h,e,k,a=>by
  have g:sumN n f+f n=0:=e;have d:=Sx.sumN_nonneg (n:=n) λj b=>h j (by lia);have c:=h n (by lia);by_cases q:k=n
  ·lia
  ·exact sum0 (n:=n) (λj b=>h j (by lia)) (by lia) k (by lia)
def Dt (s:Sto) (n:Nat) (w:Nat->Int):xZ s [.d (.tup (mpI n w))]=some (.int (sumN n w)):=by
 rw[<-qN,bv];show (aU _).map _=_;rw[bf];rfl
section
variable {fs:List D}{b:Bool}{ts:List (List Int)}{X:List Int->Int}{w v:Nat->Int}
structure Brd (fs:List D) (b:Bool) (ts:List (List Int)) (w:Nat->Int):Prop where
 nn:∀ r,r<fs.length->0<=w r
 un:∀ r,r<fs.length->fs.getD r .non=.non->w r=0
 bl:∀ t∈ts,sumN fs.length (sR fs λr=>w r*sgD (fs.getD r .non)*aY b t r)=0
def xU (h:Spl fs ts) (S:jZ fs b ts X w):Brd fs b ts w:=⟨λr c=>(S.w0 r c).1,S.wn,λt f=>vY h S f⟩
def nC (h:Spl fs ts) (S:jZ fs b ts X w) (hw:∀ r,r<fs.length->w r=0) {r:Nat} (c:r<fs.length) (hn:fs.getD r .non≠.non):0<(sumN ts.length λt=>X (ts.getD t [])*aY b (ts.getD t []) r)*sgD (fs.getD r .non):=by
 have q:=A8 h S c hn;rcases qdT q.1 with z|z
 ·exact z
 ·exact absurd (hw r c) (q.2.mp z.symm)
def D2 (h:Spl fs ts) (S:jZ fs b ts X w) (hw:∀ r,r<fs.length->w r=0) (B:Brd fs b ts v):∀ r,r<fs.length->v r=0:=by
 have e:sumN fs.length (sR fs λr=>v r*((sumN ts.length λt=>X (ts.getD t [])*aY b (ts.getD t []) r)*sgD (fs.getD r .non)))=0:=by
  have N:∀ r,r<fs.length->sR fs (λr=>v r*((sumN ts.length λt=>X (ts.getD t [])*aY b (ts.getD t []) r)*sgD (fs.getD r .non))) r=sumN ts.length λt=>X (ts.getD t [])*sR fs (λr=>v r*sgD (fs.getD r .non)*aY b (ts.getD t []) r) r:=λr _=>by
   unfold sR;by_cases q:dD (fs.getD r .non)=true
   ·rw[iFP q,Sx.sumN_congr λt _=>by rw[iFP q,qa3],Sx.sumN_zero]
   ·rw[iFN q]
    show v r*_=_;rw[<-Sx.sumN_right,<-Sx.sumN_mul]
    grind
  rw[Sx.sumN_congr N,Sx.sumN_swap,Sx.sumN_congr λt f=>?_,Sx.sumN_zero];rw[Sx.sumN_mul,B.bl _ (by rw[qaC,qal f];exact qbK f),qa3]
 intro r c;by_cases q:fs.getD r .non=.non
 ·exact B.un r c q
 ·have:=(sum0 (λr c=>by
  unfold sR;split
  ·exact qcE _
  ·rename_i q
   exact qdB (B.nn r c) (qgC (nC h S hw c λe=>q (by rw[e];rfl)))) e) r c
  unfold sR at this;rw[iFN (ED q)]at this;rcases qcm.mp this with y|y
  ·exact y
  ·exact absurd y (Int.ne_of_gt (nC h S hw c q))
def D8 {n:Nat} (R:fs.length=2^n) (O:∀ t∈bA n,t∈ts) (B:Brd fs b ts v):∀ r,r<fs.length->v r=0:=by
 intro r c;by_cases q:fs.getD r .non=.non
 ·exact B.un r c q
 ·have:=(rK b n (sR fs λr=>v r*sgD _) λt f=>by
  rw[<-B.bl t (O t f),R];refine Sx.sumN_congr λr _=>?_;unfold sR;split
  ·rw[qbW]
  ·rfl) r (by lia)
  unfold sR at this;rw[iFN (ED q)]at this;rcases qcm.mp this with y|y
  ·exact y
  ·rcases zr with k|k<;>rw[k]at y<;>cases y
def yo {st:Sto} (h:Spl fs ts) (S:jZ fs b ts X w) (G:¬ ∀ r,r<fs.length->w r=0):fj [.d (.tup (mpI fs.length w)),.d (.tup fs),.d (.str (aN b)),.d (tsD ts)] st=some (.d (.bl true),st):=by
 have W:=h.fl;have I:=h.tl;have l:lcI (.nm 0) aK dn [none,Z (.tup fs),Z (.str (aN b)),Z (.tup (mpI fs.length w))] (ts.map aj) st=some ((ts.map λ_=>true).map D.bl,st):=by
  rw[qaO];refine mO _ λt f=>?_;have e:=Ao (st:=st) (b:=b) (w:=w) (by lia) h.fv (h.tt t f);rw[vY h S f]at e;exact ag (ai (ab U (ab U (ab U (ab U U)))) e) U U
 have hb:(ts.map λ_=>true).all id=true:=by simp
 have o:0<sumN fs.length w:=by
  rcases qdT (Sx.sumN_nonneg λr c=>(S.w0 r c).1) with q|q
  ·exact q
  ·exact absurd (sum0 (λr c=>(S.w0 r c).1) q.symm) G
 obtain⟨j,u,E⟩:=zT (st:=st) (λr c=>(S.w0 r c).1) S.wn;have m:dNe st (.d (.int ((mpI fs.length w).length))) (.d (.int (fs.length)))=some (.bl false):=by
  rw[aA];show some (D.bl (!(_==_)))=_;rw[beq_self_eq_true];rfl
 have A:dGt st (.d (.int (sumN fs.length w))) (.d (.int 0))=some (.bl true):=by
  show some _=_;rw[decide_eq_true o]
 have F:(ts.map aj).length<=1000000:=by rw[qag];lia
 have hA:=ET (a:=aa (aq (iLc 1 [1,2,0] (aC (iV 3)) _ aK dn)) ac) (env:=[some _,some _,some _,some _,j,u]) (ab (ay (aS (bg U) F l)) U);rw[hb]at hA;exact aw U (ah (bn (i5 (s:=st) U (av (aL (ab U U) U) (aL (ab U U) U) m)) U) (ah (bz U E) (aJ (EU (ag (aL (ab U U) (Dt st fs.length w)) U A) hA))))
def wX {st:Sto} (h:Spl fs ts) (S:jZ fs b ts X w) (hw:∀ r,r<fs.length->w r=0):ef [.d (cP (aN b) (bC (ar ts) X)),.d (.tup fs)] st=some (.d (.bl true),st):=by
 have I:=h.tl;have Q:(bC (ar ts) X).length<=16:=by
  unfold bC;rw[qag]
  have:=qdz (λt=>decide (X t≠0)) (ar ts)
  rw[(aE _).length_eq]at this;lia
 obtain⟨L,Y,E,⟨j,u,x,rfl⟩,rfl⟩:=bF (g:=.tp [2,3]) (body:=fJ) (λi env s=>(∃ j u x,env=[Z (cP (aN b) (bC (ar ts) X)),Z (.tup fs),j,u,x])/\s=st)
  ⟨⟨_,_,_,U⟩,U⟩ (λi d env s hd ⟨⟨j,u,x,e⟩,es⟩=>by
   subst e es;obtain⟨hi,rfl⟩:=rs hd;have J:fV (fs.getD i .non):=by
    rw[qaC,qal hi];exact h.fv _ (qbK hi)
   by_cases e:fs.getD i .non=.non
   ·refine⟨_,_,s,U,.inl ?_,⟨some (.d (.int (i))),Z (fs.getD i .non),x,U⟩,U⟩
    rw[e];exact bn U U
   ·have hv:=nC h S hw hi e
    have H:lcI (.tp [0,1]) aK fu [none,none,Z (cP (aN b) (bC (ar ts) X)),Z (.int (i))] ((bC (ar ts) X).map cb) s=some (((bC (ar ts) X).map λp=>p.2*aY b p.1 i).map D.int,s):=by
     rw[qaO];exact qg (g:=λp:Prt=>(aj p.1,D.int p.2)) _ λp C=>by
      have f:=h.tt _ ((λp C=>(aE _).mem_iff.mp (m4 C).1) p C);have P:=wg b p.1 (i);exact ag U (ai (ab (ag U U (ky _ _ _)) (ab U (ab U U))) (vC (by lia) f.1 (by lia))) (cr s (dO (by lia)))
    have K:=BP s ((bC (ar ts) X).map λp=>p.2*aY b p.1 i);rw[(yI X (λt=>aY b t i) ts)]at K;have G:((bC (ar ts) X).map cb).length<=1000000:=by rw[qag];lia
    generalize (sumN ts.length λt=>X _*aY b _ i)=V at *;obtain⟨z,ez,T,M⟩:=E6 s J e;have sg1:(sgD (fs.getD i .non)).natAbs<=1:=by rcases zr with q|q<;>rw[q]<;>decide
    refine⟨_,_,s,U,.inl ?_,⟨some (.d (.int (i))),Z (fs.getD i .non),Z (.int V),U⟩,U⟩
    exact cE (av U U (yH s e)) (ah (ak (aL (ab (ay (aS (bg (ag U U (gD _ _ _))) G H)) U) K)) (bn (av (ag U (ag (ag U U T) U U) (cr s (dO (by lia)))) U (leF _ (by lia))) U)))
 exact aw U (ah (bz U E) U)
end
end Own
set_option maxHeartbeats 1000000
namespace Own
open PySem L2
open Sx (Pb Tb Good Named Fe LV ZV piv lexP leastR leaveL sumN unit colV basis)
def qA (k:Nat):∀ ns:List Int,(ns.map D.int).all (okD k)=true
 |[]=>rfl
 |n::ns=>by
  rw[qar,qbD,qA k ns];cases k<;>rfl
def sq:∀ ps:List Prt,(ps.map cb).all (okD 58)=true
 |[]=>rfl
 |p::ps=>by
  rw[qar,qbD,sq ps,qh9];show ((p.1.map D.int).all _&&_)=true;rw[qA];rfl
def rB:∀ ps:List Prt,dq (ps.map cb) (ps.map cb)=true
 |[]=>rfl
 |p::ps=>by
  show ((dq _ _&&((p.2==p.2)&&true))&&dq _ _)=true;rw[rB ps,ix,decide_eq_true U,beq_self_eq_true];rfl
section
variable {fs:List D}{b:Bool}{a:List (List Int)}{X:List Int->Int}{w:Nat->Int}
def nzW (n:Nat) (w:Nat->Int):Bool:=((qam n).map w).any λx=>decide (x≠0)
def EF {n:Nat} (h:nzW n w=false):∀ r,r<n->w r=0:=λr o=>by
 unfold nzW at h;rw[qe5]at h
 have:=h _ (qaM.mpr ⟨r,qaQ.mpr o,U⟩)
 exact qff λq=>this (decide_eq_true q)
def CG {n:Nat} (h:nzW n w=true):¬ ∀ r,r<n->w r=0:=λz=>by
 obtain⟨x,G,q⟩:=qee.mp h;obtain⟨r,o,rfl⟩:=qaM.mp G;exact of_decide_eq_true q (z r (qaQ.mp o))
def DQ (s:Sto) (n:Nat) (w:Nat->Int):B6 s [.d (.tup (mpI n w))]=some (.bl (nzW n w)):=by
 rw[bv];show (aU _).map _=_;rw[bf];rfl
def nX (fs:List D) (b:Bool) (a:List (List Int)) (X:List Int->Int) (w:Nat->Int):D:=if nzW fs.length w=true then .tup [.str "bar",.tup (mpI fs.length w)] else .tup [.str "poly",cP (aN b) (bC (ar a) X)]
def xz (h:Spl fs a):∃ X w,jZ fs b a X w/\∀ st:Sto,∃ u,hJ [.d (.tup fs),.d (.str (aN b)),.d (tsD a)] st=some (.d (nX fs b a X w),st++u):=by
 obtain⟨X,w,S,k⟩:=zv h;refine⟨X,w,S,λst=>?_⟩;obtain⟨u,e⟩:=k st;refine⟨u,?_⟩;have A:=DQ (st++u) fs.length w;unfold nX;generalize nzW fs.length w=z at *;cases z with
 |true=>
  exact aw U (ah (ak (ai U e)) (dF (cE (sD (aL (ab (ag U U (gD _ _ _)) U) A)) U)))
 |false=>
  exact aw U (ah (ak (ai U e)) (ah (bn (sD (aL (ab (ag U U (gD _ _ _)) U) A)) U) U))
def io (z:Bool):Str:=if z then "poly" else "bar"
def zt {s:Sto}:dNe s (.d (nX fs b a X w)) (.d (nX fs b a X w))=some (.bl false):=by
 unfold nX;split
 ·have g:=by
   show (true&&((mpI fs.length w).all (okD 59)&&true))=true;rw[bv,qA];rfl
  have y:dq [D.str "bar",.tup (mpI fs.length w)] [D.str "bar",.tup (mpI fs.length w)]=true:=by
   show (_&&(dq _ _&&true))=true;rw[bv,ix,decide_eq_true U];rfl
  show ((if (false||false)=true then some (false&&false) else if [D.str "bar",.tup _].all _=true/\[D.str "bar",.tup _].all _=true then some _ else none)).map _=_
  rw[iFN (by decide),iFP ⟨g,g⟩,y];rfl
 ·unfold cP
  have g:=by
   show (true&&((true&&(((bC (ar a) X).map cb).all (okD 58)&&true))&&true))=true;rw[sq];rfl
  have y:dq [D.str "poly",.tup [.str (aN b),.tup ((bC (ar a) X).map cb)]] [D.str "poly",.tup [.str (aN b),.tup ((bC (ar a) X).map cb)]]=true:=by
   show ((("poly" : Str)=="poly")&&(((aN b==aN b)&&(dq _ _&&true))&&true))=true
   rw[rB,beq_self_eq_true,beq_self_eq_true];rfl
  show ((if (false||false)=true then some (false&&false) else if [D.str "poly",.tup [.str _,.tup _]].all _=true/\[D.str "poly",.tup [.str _,.tup _]].all _=true then some _ else none)).map _=_
  rw[iFN (by decide),iFP ⟨g,g⟩,y];rfl
def qS (h:Spl fs a):∃ X w,jZ fs b a X w/\∀ st:Sto,∃ u,jg [.d (.tup fs),.d (.str (aN b)),.d (tsD a)] st=some (.d (.str (io (!nzW fs.length w))),st++u):=by
 obtain⟨X,w,S,k⟩:=xz h;refine⟨X,w,S,λst=>?_⟩;obtain⟨u,j⟩:=k st;have B:=h.tl;obtain⟨v,l⟩:∃ v,aT (cC _ (aB dNe (ap hJ (aa (iV 0) (aa (iV 1) (aa (iV 2) ac)))) (iV 3))) (aD (iC (.str "none"))) aH [some _,some _,some _,some _] _=some _:=by
  have q:aB dLt (iCB aV (aa (iV 0) ac)) (iC (.int 16)) [Z (.tup fs),Z (.str (aN b)),Z (tsD a),Z (nX fs b a X w)] _=some (decide _,st++u):=rfl;cases z:decide ((fs.length:Int)<16) with
  |true=>
   rw[z]at q;obtain⟨v,C⟩:=k (st++u);exact⟨v,bn (gr q (av (ai U C) U (zt))) U⟩
  |false=>
   rw[z]at q;exact⟨_,by rw[qb0];exact bn (lQ q) U⟩
 refine⟨u++v,?_⟩;rw[<-qbM];have E:(bC (ar a) X).length<=16:=by
  unfold bC;rw[qag]
  have:=qdz (λt=>decide (X t≠0)) (ar a)
  rw[(aE _).length_eq]at this;lia
 have c:∀ p∈bC _ X,p.1∈a/\p.2≠0:=λp f=>⟨(aE _).mem_iff.mp (m4 f).1,(m4 f).2.2⟩;have F:=wW (st:=st++u++v) (kd:=aN b) (by lia) (As (wV h.nd)) λp f=>⟨(c p f).1,by have:=(h.tt _ (c p f).1).2;lia,(c p f).2⟩;cases z:nzW fs.length w with
 |true=>
  have m:=yo (st:=st++u++v) h S (CG z);have es:nX fs b a X w=.tup [.str "bar",.tup (mpI fs.length w)]:=by unfold nX;rw[iFP z]
  rw[es]at j l;generalize st++u++v=i at *;generalize st++u=s1 at *;exact aw U (ah (ak (ai U j)) (ah (bn (s:=s1) U U) (ah l (ah (bn (s:=i) U U) (dF (cE (gr (s:=i) U (sD (ai (ab (ag U U (gD _ _ _)) (ab U (ab U (ab U U)))) m))) U))))))
 |false=>
  have m:=wX (st:=st++u++v) h S (EF z);have es:nX fs b a X w=.tup [.str "poly",cP (aN b) (bC (ar a) X)]:=by unfold nX;rw[z,iFN qaL]
  rw[es]at j l;generalize st++u++v=i at *;generalize st++u=s1 at *;exact aw U (ah (ak (ai U j)) (ah (bn (s:=s1) U U) (ah l (dF (cE (gr (s:=i) U (gr (sD (ai (ab (ag U U (gD _ _ _)) (ab U (ab U U))) F)) (sD (ai (ab (ag U U (gD _ _ _)) (ab U U)) m)))) U)))))
end
end Own
section
set_option maxHeartbeats 1000000
namespace Own
open PySem L2
open Sx (Pb Tb Good Named Fe LV ZV piv lexP leastR leaveL sumN unit colV basis)
def jc:∀ n:Nat,(bA n).Nodup
 |0=>by simp[bA]
 |n+1=>by
  rw[bA,qcy];refine⟨jc n,?_,?_⟩
  ·refine qin _ (λa b hab=>?_) (jc n)
   intro e;exact hab (List.append_cancel_right e)
  ·intro a ha b hb e
   subst e;obtain⟨t,_,rfl⟩:=qaM.mp hb
   have:=(fD n ha).2 _ (qau _ (qao.mpr U))
   lia
def iw {fs:List D}{j:List (List Int)}{n:Int} (n0:0<=n) (n1:n<=4) (fl:fs.length=2^n.toNat) (fv:∀ u∈fs,fV u) (f:j.Sublist (ar (bA n.toNat))):Spl fs j:=by
 have h16:2^n.toNat<=16:=qaY (qce (by decide) (by lia:n.toNat<=4)) (by decide);refine⟨by lia,fv,?_,λt w=>?_,((aE _).nodup_iff.mpr (jc _)).sublist f⟩
 ·have:=f.length_le
  rw[(aE _).length_eq,fC]at this;lia
 ·have hm:=fD _ ((aE _).mem_iff.mp (f.subset w))
  have hl:=wd hm;exact⟨λk hk=>by have:=hm.2 k hk;lia,by lia⟩
section
variable {fs:List D}{b:Bool}{A B:List (List Int)}{XA XB:List Int->Int}{wA G:Nat->Int}
def vE (hA:Spl fs A) (SA:jZ fs b A XA wA) (O:Spl fs B) (SB:jZ fs b B XB G) (sub:∀ t∈A,t∈B) (z:nzW fs.length wA=false):nzW fs.length G=false:=by
 cases q:nzW fs.length G with
 |false=>rfl
 |true=>
  have R:=xU O SB;exact absurd (D2 hA SA (EF z) ⟨R.nn,R.un,λt w=>R.bl t (sub t w)⟩) (CG q)
def z8 (O:Spl fs B) (SB:jZ fs b B XB G) {n:Nat} (hl:fs.length=2^n) (sub:∀ t∈bA n,t∈B):nzW fs.length G=false:=by
 cases q:nzW fs.length G with
 |false=>rfl
 |true=>exact absurd (D8 hl sub (xU O SB)) (CG q)
end
def wI {tt:Tf}{te:Ef}{st:Sto}{n:Nat}{a:Option W}{l:Ev}{A B:List (List Int)} (h:cn st n) (w:∀ t s,cn s n->∃ b s',Stp n s s'/\tt (Z (aj t)::l) s=some (b,s')) (O:∀ t s,t∈B->tt (Z (aj t)::l) s=some (true,s)) (he:∀ d s,te (Z d::l) s=some (.d d,s)) :
  ∃ (ls:List (List Int)) (J:Sto),ls.Sublist A/\(∀ t∈A,t∈B->t∈ls)/\Stp n st J/\lcI (.nm 0) tt te (a::l) (A.map aj) st=some (ls.map aj,J):=by
 obtain⟨us,F,I,ls,o,f,K,t2⟩:=f9 (g:=.nm 0) (env:=a::l)
  (λi ys s=>∃ ls,ys=ls.map aj/\ls.Sublist (A.take i)/\(∀ t ∈ A.take i,t ∈ B->t ∈ ls)/\Stp n st s) ⟨[],U,qfj _,(λt w=>absurd w (by exact qbJ)),Stp.refl h⟩ (λi d ys s hd ⟨ls,e,f,K,p⟩=>by
   subst e;rw[qay]at hd;obtain⟨t,P,rfl⟩:=qad.mp hd;have H:A.take (i+1)=A.take i++[t]:=by rw[qhc,P];rfl
   obtain⟨b,s',p2,I⟩:=w t s p.hand;refine⟨_,U,?_⟩;cases b with
   |true=>
    refine .inl ⟨s',_,s',I,he _ _,ls++[t],by rw[qbS];rfl,by rw[H];exact f.append (qdG _),λu o hb=>?_,p.trans p2⟩;rw[H]at o;rcases qaS.mp o with o|o
    ·exact qaX _ (K u o hb)
    ·exact qau _ o
   |false=>
    refine .inr ⟨s',I,ls,U,by rw[H];exact f.trans (qf3 _ _),λu o hb=>?_,p.trans p2⟩;rw[H]at o;rcases qaS.mp o with o|o
    ·exact K u o hb
    ·have:=O u s hb
     rw[qao.mp o,I]at this
     cases this)
 rw[qag,qdD]at f K;exact⟨ls,F,f,K,t2,by rw[I];rw[<-o];rfl⟩
def lc4 {te:Ef}{l:Ev}{a:Option W}{d1 d2 d3 d4 x1 x2 x3 x4:D}{s0 s1 F L s4:Sto} (P:te (Z d1::l) s0=some (.d x1,s1)) (h2:te (Z d2::l) s1=some (.d x2,F)) (h3:te (Z d3::l) F=some (.d x3,L)) (h4:te (Z d4::l) L=some (.d x4,s4)) :
  lcI (.nm 0) aK te (a::l) [d1,d2,d3,d4] s0=some ([x1,x2,x3,x4],s4):=by
 obtain⟨us,s',e,o,f⟩:=f9 (g:=.nm 0) (tt:=aK) (env:=a::l) (ds:=[d1,d2,d3,d4]) (λi ys s=>ys=[x1,x2,x3,x4].take i/\s=[s0,s1,F,L,s4].getD i s0) (st:=s0) ⟨U,U⟩ (λi d ys s hd ⟨e,es⟩=>by
  subst e es
  match i,hd with
  |0,hd=>cases hd;exact⟨_,U,.inl ⟨_,_,_,U,P,U,U⟩⟩
  |1,hd=>cases hd;exact⟨_,U,.inl ⟨_,_,_,U,h2,U,U⟩⟩
  |2,hd=>cases hd;exact⟨_,U,.inl ⟨_,_,_,U,h3,U,U⟩⟩
  |3,hd=>cases hd;exact⟨_,U,.inl ⟨_,_,_,U,h4,U,U⟩⟩
  |i+4,hd=>cases hd)
 rw[e];have hu':us=[x1,x2,x3,x4]:=o;have hs':s'=s4:=f;rw[hu',hs']
def BL {a b:Tf}{env:Ev}{st s:Sto} (ha:a env st=some (true,s)):cS a b env st=some (true,s):=by
 simp only[cS,ha,qaa,if_true]
def By (s:Sto) (t:List Int) (j:List (List Int)):zZ s (.d (aj t)) (.d (tsD j))=some (.bl (decide (t∈j))):=by
 show (cR ([t].map aj)).bind (λlx=>(some _).bind λds=>(cR ds).map λls=>D.bl _)=_;rw[de,qaa,qaa,de];rfl
def xH {p q r:Bool} (P:p=true->q=true) (h2:q=true->r=true) (s:Sto) {e0:Ev} (he:e0.length=10) :
  aT (cS (aB dIn (iC (.str "none")) (iV 10)) (cS (aB dNe (iV 10) (aq (iCL qc (aa (iV 10) ac)))) (aB dNe (iOp dIx (iV 10) (iC (.int 3))) (iC (.str "poly"))))) (aD (iC (.bl false))) aH (e0++[Z (.lst [.str (io p),.str (io q),.str (io r),.str (io true)])]) s=some (.nx (e0++[Z (.lst [.str (io p),.str (io q),.str (io r),.str (io true)])]) s):=by
 match e0,he with
 |[a0,a1,a2,a3,X,a5,S,Q,Y,T],_=>
  cases p with
  |true=>
   cases P U;cases h2 U;rfl
  |false=>
   cases q with
   |true=>cases h2 U;rfl
   |false=>cases r<;>rfl
def zU {st:Sto}{ns:List Int}{k:Nat}{a2 a3 X a5 S Q Y T C:Option W} (hk:k<=1000):∃ b2 b3 b4 b5 b6 b7 b8 b9 E J,vw [Z (.scr ns),Z (.int k),a2,a3,X,a5,S,Q,Y,T,C] st=some (.nx [Z (.scr ns),Z (.int k),b2,b3,b4,b5,b6,b7,b8,b9,E] J):=by
 obtain⟨x,y,x0,e1⟩:=Da (st:=st) hk;have P:cn (st++[.l [.int x,.int y,.int 0]]) st.length:=⟨x,y,0,x0,by simp⟩;obtain⟨n,F,n0,n1,t2,I⟩:=bZ P (m:=4) (by decide) (by decide);obtain⟨q,L,q0,q1,t3,e3⟩:=bZ t2.hand (m:=8) (by decide) (by decide);have hc:∃ c,cC (aB dEq (ap aF (aa (iV 2) (aa (iC (.int 8)) ac))) (iC (.int 7))) (aB dEq (iV 1) (iC (.int 0))) [Z (.scr ns),Z (.int k),some (.h st.length),Z (.int n),X,a5,S,Q,Y,T,C] F=some (c,L):=by
  have p:aB dEq (ap aF (aa (iV 2) (aa (iC _) ac))) (iC _) [Z (.scr ns),Z (.int k),some _,Z (.int n),X,a5,S,Q,Y,T,C] F=some (q==7,L):=av (ai U e3) U (dZ _ _ _);cases K:(q==_) with
  |true=>rw[K]at p;exact⟨_,gr p (av U U (dZ _ _ _))⟩
  |false=>rw[K]at p;exact⟨_,lQ p⟩
 obtain⟨c,hc⟩:=hc;obtain⟨m,m0,V,hm⟩:∃ m:Int,0<=m/\m<=4/\aT _ (az (.nm 3) (iC _)) aH [some _,some _,some _,some _,X,a5,S,Q,Y,T,C] F=some (.nx [some _,some _,some _,Z (.int m),X,a5,S,Q,Y,T,C] L):=by
  cases c with
  |true=>exact⟨4,by decide,by decide,cE hc U⟩
  |false=>exact⟨n,n0,by lia,bn hc U⟩
 obtain⟨fs,s4,fl,fv,t4,e4⟩:=rC t3.hand m0 (by lia);obtain⟨z,s5,z0,z1,t5,e5⟩:=bZ t4.hand (m:=2) (by decide) (by decide);obtain⟨j,s6,f,t6,e6⟩:=zA t5.hand m0 V;obtain⟨b,hb⟩:∃ b:Bool,atI [D.str "both",.str "odd"] z=some (.str (aN b)):=by
  have:z=0\/z=1:=by lia
  rcases this with rfl|rfl
  ·exact⟨true,U⟩
  ·exact⟨false,U⟩
 have e7:=kE (st:=s6) m0 V;have hE:(ar (bA m.toNat)).length<=16:=by
  rw[(aE _).length_eq,fC];exact qaY (qce (by decide) (by lia:m.toNat<=4)) (by decide)
 obtain⟨A,s7,hA,t7,e8⟩:=ke (tt:=wa) (te:=uS) (a:=none) (l:=[some (.h st.length)]) (A:=j) t6.hand (λt s f=>by
  obtain⟨r,s',r0,r1,t',e'⟩:=bZ f (m:=3) (by decide) (by decide)
  exact⟨decide (r > 0),s',t',av (ai U e') U U⟩) (λd s=>rfl)
 obtain⟨B,N,O,hBs,t8,e9⟩:=wI (tt:=v8) (te:=uR) (a:=none) (l:=[Z (tsD j),some (.h st.length)]) (A:=ar (bA m.toNat)) (B:=j) t7.hand (λt s f=>by
  have v:=By s t j;by_cases q:t∈j
  ·rw[decide_eq_true q]at v
   exact⟨true,s,Stp.refl f,BL (av U U v)⟩
  ·rw[decide_eq_false q]at v
   obtain⟨r,s',r0,r1,t',e'⟩:=bZ f (m:=3) (by decide) (by decide)
   exact⟨r==0,s',t',i5 (av U U v) (av (ai U e') U (dZ _ _ _))⟩)
  (λt s q=>by
    have v:=By s t j;rw[decide_eq_true q]at v
    exact BL (av U U v)) (λd s=>rfl)
 have SA:=iw m0 V fl fv (hA.trans f);have ST:=iw m0 V fl fv f;have SB:=iw m0 V fl fv O;have SE:=iw m0 V fl fv (qdG (ar (bA m.toNat)));obtain⟨XA,wA,RA,fA⟩:=qS (b:=b) SA;obtain⟨XT,wT,RT,fT⟩:=qS (b:=b) ST;obtain⟨XB,G,RB,fB⟩:=qS (b:=b) SB;obtain⟨XE,wE,RE,fE⟩:=qS (b:=b) SE;have z1:=vE SA RA ST RT λt w=>hA.subset w;have z3:=z8 SE RE fl λt w=>(aE _).mem_iff.mpr w;obtain⟨u,e10⟩:∃ u,lcI (.nm 0) aK uQ [none,Z (.tup fs),Z (.str (aN b))] [tsD A,tsD j,tsD B,tsD (ar (bA m.toNat))] N=some ([.str (io (!nzW fs.length wA)),.str (io (!nzW fs.length wT)),.str (io (!nzW fs.length G)),.str (io true)],N++u):=by
  rw[z3]at fE;obtain⟨u1,f1⟩:=fA N;obtain⟨u2,f2⟩:=fT (N++u1);obtain⟨u3,f3⟩:=fB (N++u1++u2);obtain⟨u4,f4⟩:=fE (N++u1++u2++u3);refine⟨u1++(u2++(u3++u4)),?_⟩;rw[<-qbM,<-qbM,<-qbM];generalize tsD A=dA at *;generalize tsD j=dT at *;generalize tsD B=dB at *;generalize tsD (ar (bA m.toNat))=dE at *;generalize aN b=kd at *;exact lc4 (ai U f1) (ai U f2) (ai U f3) (ai U f4)
 have g1:(!nzW fs.length wA)=true->(!nzW fs.length wT)=true:=λh=>by rw[z1 (by simpa using h)];rfl
 have g2:(!nzW fs.length wT)=true->(!nzW fs.length G)=true:=λh=>by rw[(vE ST RT SB RB λt w=>hBs t (f.subset w) w) (by simpa using h)];rfl
 have hz1:(j.map aj).length<=1000000:=by rw[qag];have:=ST.tl;lia
 have hz2:((ar (bA m.toNat)).map aj).length<=1000000:=by rw[qag];lia
 have fin:=xH g1 g2 (N++u) (e0:=[Z (.scr ns),Z (.int k),some (.h st.length),Z (.int m),Z (.tup fs),Z (.str (aN b)),Z (tsD j),Z (tsD (ar (bA m.toNat))),Z (tsD A),Z (tsD B)]) U;have M:[tsD A,tsD j,tsD B,tsD (ar (bA m.toNat))].length<=1000000:=by show 4<=1000000;decide
 unfold tsD at *;generalize [D.str (io (!nzW fs.length wA)),.str (io (!nzW fs.length wT)),.str (io (!nzW fs.length G)),.str (io true)]=W4 at *;generalize A.map aj=dA at *;generalize j.map aj=dT at *;generalize B.map aj=dB at *;generalize (ar (bA m.toNat)).map aj=dE at *;generalize aN b=kd at *;exact⟨_,_,_,_,_,_,_,_,_,_,ah (ak (ai U e1)) (ah (ak (ai U I)) (ah hm (ah (ak (ai U e4)) (ah (ak (ag U (ai U e5) hb)) (ah (ak (ai U e6)) (ah (ak (aL (ab (ai U e7) U) U)) (ah (ak (aL (ab (ay (aS (bg U) hz1 e8)) U) U)) (ah (ak (aL (ab (ay (aS (bg U) hz2 e9)) U) U)) (ah (ak (ay (aS (bg U) M e10))) fin)))))))))⟩
def yv (ns:List Int) (hl:ns.length<=63):∃ st,oA [.d (.scr ns)] []=some (.d (.bl true),st):=by
 obtain⟨r,hr⟩:∃ r:Int,1+(if ((ns.map D.int).length:Int)<4 then ((ns.map D.int).length:Int) else 4)=r:=⟨_,U⟩;obtain⟨env',F,I,b1,b2,b3,b4,b5,b6,b7,b8,b9,E,rfl⟩:=bF (g:=.nm 1) (ds:=bK 0 r.toNat) (λi env s=>∃ b1 b2 b3 b4 b5 b6 b7 b8 b9 E,env=[some _,b1,b2,b3,b4,b5,b6,b7,b8,b9,E]) (env:=[Z (.scr ns),none,none,none,none,none,none,none,none,none,none]) (st:=[])
  ⟨_,_,_,_,_,_,_,_,_,_,U⟩ (λi d env s hd ⟨b1,b2,b3,b4,b5,b6,b7,b8,b9,E,e⟩=>by
   subst e;obtain⟨rfl,hi⟩:=gw hd;obtain⟨c2,c3,c4,c5,c6,c7,c8,c9,c10,s5,e5⟩:=zU (k:=i) (by lia)
   exact⟨_,_,s5,U,.inl e5,_,_,_,_,_,_,_,_,_,_,U⟩)
 have hb:-(2^62)<=r/\r<2^62:=by rw[<-hr];split<;>lia
 refine⟨F.take 0,?_⟩;simp only[oA,Bt,iV,iC,iOp,ac,aa,iCB,ae,aD,eD,bB,fQ,wL,cf,lsD,be,aV,B7,qaa,qah,qax,qar,qbA,qan,qa8,qa5,qa4,qbc,qbn,qbE,if_true,qaR,and_self,lg,hr,hb,I]
end Own
end
namespace Own
open PySem L2
def Aj {b:List Value}{n:Nat} (h:b.length=n+1):∃ a r,b=a::r/\r.length=n:=by
 cases b with
 |nil=>cases h
 |cons a r=>exact⟨a,r,U,Nat.succ.inj h⟩
def Ep {b:List Value} (h:b.length=1):∃ a0,b=[a0]:=by
 obtain⟨a,r,rfl,g⟩:=Aj h;exact⟨a,by rw[List.length_eq_zero_iff.1 g]⟩
def Es {c:List Value} (h:c.length=2):∃ a0 a,c=[a0,a]:=by
 obtain⟨b,r,rfl,g⟩:=Aj h;obtain⟨a,rfl⟩:=Ep g;exact⟨b,a,U⟩
def Et {c:List Value} (h:c.length=3):∃ a0 a a2,c=[a0,a,a2]:=by
 obtain⟨b,r,rfl,g⟩:=Aj h;obtain⟨a,a2,rfl⟩:=Es g;exact⟨b,a,a2,U⟩
def Eu {d:List Value} (h:d.length=4):∃ a0 c a2 a,d=[a0,c,a2,a]:=by
 obtain⟨b,r,rfl,g⟩:=Aj h;obtain⟨c,a2,a,rfl⟩:=Et g;exact⟨b,c,a2,a,U⟩
def bnd {K:qae}:∀ p∈tbl,∀ f g,Fun K p.1 p.1 (top p.2.1) f g->dh K g (p.2.2.1.take p.2.2.2) []:=by
 iterate 45 refine qcT.2 ⟨λf g F=>F.binds λ_ _ _ _ _ _ b a=>(by first|(obtain⟨_,rfl⟩:=Ep a;rfl)|(obtain⟨_,_,rfl⟩:=Es a;rfl)|(obtain⟨_,_,_,rfl⟩:=Et a;rfl)|(obtain⟨_,_,_,_,rfl⟩:=Eu a;rfl)),?_⟩
 exact λ_ h=>nomatch h
def fa_mk {K:qae}{x:Str}{i k:Nat}{N:List Str}{f:Addr}{g:qb5} (a:qeb K qb8 x=some (some (.ref f))) (b:Fun K x x (top i) f g):∃ f g,qeb K qb8 (rT x i N k).1=some (some (.ref f))/\Fun K (rT x i N k).1 (rT x i N k).1 (top (rT x i N k).2.1) f g:=⟨f,g,a,b⟩
def txt_mk {K:qae}{h:Heap}{mg:Str->Option Value} (X:K.In h) (G:h.Ns qb8 mg) (F:∀ p∈tbl,∃ f g,qeb K qb8 p.1=some (some (.ref f))/\Fun K p.1 p.1 (top p.2.1) f g)
  (z:∀ x∈(["abs","all","any","bool","enumerate","int","isinstance","len","list","min","range","sorted","str","sum","tuple","zip"]:List Str),qeb K qb8 x=some none)
  {a c:Addr}{e:qb5} (c1:qeb K qb8 "Table" = some (some (.ref a))) (c2:qcc K (.ref a) "__init__" = some (some (.ref c))) (c3:Fun K "__init__" "Table.__init__" ca c e)
  (m0:qfa K a=true) (m2:qhy K (.ref c)=true) (m3:qcz K (.ref a)=true) (d0:qd1 K a Str.empty=true) (d1:qdO K a=true) (d2:qeQ K a=true) (d3:qcc K (.ref a) "__setattr__" = some (some (.builtin "object.__setattr__")))
  (na:∀ p∈bT,qcc K (.ref a) p.1=some none)
  : Txt K mg:=
 ⟨λp d=>let ⟨f,g,a,b⟩:=F p d;⟨f,g,b,qho X G a,bnd p d f g b⟩,λx h=>PySem.W.mg_none_of X G (z x h),a,c,e,qho X G c1,c3,c3.binds λ_ _ _ _ _ _ j i=>(by obtain⟨_,_,_,_,rfl⟩:=Eu i;rfl),⟨m0,c2,m2,m3⟩,⟨d0,d1,d2,d3⟩,na⟩
def walk {l:qfb}{q:qaN}{b:List Str}{XP:(Str->Option Value)->Heap->Prop}{YP:World->Heap->Prop}{d:DefRec}{K:Params->qae} (hn:l.most=some 63) (c:d.params.defaults=[])
  (j:∀ (w:World) (h:Heap),YP w h->(K w.params).In h)
  (F:∀ (w:World) (mg:Str->Option Value) (e:Addr) (h:Heap),(K w.params).In h->h.Ns qb8 mg->mg d.name=some (.ref e)->
    ∃ fd:qb5,(∀ (s:qaj) (u:Value),qg6 s fd ⟨[u],[]⟩ [("_law_script",u)])/\∀ base:Heap,(K w.params).In base->base.Ns qb8 mg->dG l.prog w (K w.params) mg base CX0 9 e fd ["_law_script"] (spI (K w.params) oA)) :
  qhp q b XP YP l.row.toRowW d [] (λf g=>qg1 f g):=
 L2.walk_of (n:=63) (k:=9) (x:="_law_script") (CX:=λ_=>CX0) (sp:=λw=>spI (K w.params) oA) hn (by decide) c ⟨U,by decide,by decide,U⟩ j F (λ_ _ a ns o i m=>Bc i m (yv ns o)) λ_ _ _ _ _ z=>z
def law_mk {l:qfb}{w:World}{K:qae}{h:Heap}{mg:Str->Option Value}{b:Addr} (a:mg "law" = some (.ref b)) (T:Txt K mg) :
  ∃ fd:qb5,(∀ (s:qaj) (v:Value),qg6 s fd ⟨[v],[]⟩ [("_law_script",v)])/\∀ base:Heap,K.In base->base.Ns qb8 mg->dG l.prog w K mg base CX0 9 b fd ["_law_script"] (spI K oA):=by
 obtain⟨f,g,F,m,_⟩:=T.F (rT "law" 54 ["_law_script","_law_k","_law_pot_here","_law_n","_law_f","_law_kind","_law_terms_here","_law_every","_law_fewer","_law_more","_law_ways"] 1) (by decide +kernel)
 have e:=a.symm.trans m;cases e
 refine⟨g,λs v=>?_,λbase _ _=>by
  have q:=FP (P:=l.prog) (w:=w) (base:=base) T
  iterate 5 replace q:=q.2
  exact q _ _ F⟩
 obtain⟨n,j,kV,d,k,o,i,ct,c,e,_⟩:=F.ex;rw[e];exact .of_eq U
end Own
namespace PySem.W.Fast
theorem tw370083125533238960:True:=⟨⟩
theorem tw11056582199964857866:True:=⟨⟩
theorem tw1627139542783036056:True:=⟨⟩
theorem tw9558874695426828469:True:=⟨⟩
theorem tw18005099005768740049:True:=⟨⟩
theorem tw14385513695821688889:True:=⟨⟩
theorem tw745084539546000504:True:=⟨⟩
theorem tw16366713666715232327:True:=⟨⟩
theorem tw1289605703745422598:True:=⟨⟩
theorem tw17793536628229630897:True:=⟨⟩
theorem tw12062450338428304061:True:=⟨⟩
theorem tw5604638784334383134:True:=⟨⟩
theorem tw468373438319499314:True:=⟨⟩
theorem tw9653197572940845735:True:=⟨⟩
theorem tw10651117380713346723:True:=⟨⟩
theorem tw13051946590356288079:True:=⟨⟩
theorem tw15395207118616795608:True:=⟨⟩
theorem tw9734287867016579672:True:=⟨⟩
theorem tw4331263930776932180:True:=⟨⟩
theorem tw10347066927073089817:True:=⟨⟩
theorem tw8248727886634876371:True:=⟨⟩
theorem tw11665242380026744168:True:=⟨⟩
theorem tw10780727741645399144:True:=⟨⟩
theorem tw11713043389582732868:True:=⟨⟩
theorem tw9709341004165016864:True:=⟨⟩
theorem tw3422528284672637863:True:=⟨⟩
theorem tw17608225049992473799:True:=⟨⟩
theorem tw16883260050823724878:True:=⟨⟩
theorem tw14707764079695873435:True:=⟨⟩
theorem tw11769930565497431213:True:=⟨⟩
theorem tw2636077797391779035:True:=⟨⟩
theorem tw1169826473903635719:True:=⟨⟩
theorem tw3078063494947710858:True:=⟨⟩
theorem tw3483993621704367199:True:=⟨⟩
theorem tw328366160308979922:True:=⟨⟩
theorem tw18214666540961739627:True:=⟨⟩
theorem tw5826347382852901213:True:=⟨⟩
theorem tw13681297179401623733:True:=⟨⟩
theorem tw9970454583104615271:True:=⟨⟩
theorem tw16525611593272246603:True:=⟨⟩
theorem tw5471977361121401389:True:=⟨⟩
theorem tw10390416521887757083:True:=⟨⟩
theorem tw13346074827710807666:True:=⟨⟩
theorem tw10132164554616301925:True:=⟨⟩
theorem tw10937514784903815197:True:=⟨⟩
theorem tw15169477698539884166:True:=⟨⟩
theorem tw11825668161267377565:True:=⟨⟩
theorem tw3576805582718862966:True:=⟨⟩
theorem tw10764181715420214070:True:=⟨⟩
theorem tw1857117730940694082:True:=⟨⟩
theorem tw14199484302778121752:True:=⟨⟩
theorem tw6309342151915841640:True:=⟨⟩
theorem tw16928931182791206458:True:=⟨⟩
theorem tw16174697668288726390:True:=⟨⟩
theorem tw7107987401035191485:True:=⟨⟩
theorem tw14318912473688598119:True:=⟨⟩
theorem tw5252699039049606892:True:=⟨⟩
theorem tw6230032012846102192:True:=⟨⟩
theorem tw1782094167624247637:True:=⟨⟩
theorem tw15565931516242534046:True:=⟨⟩
theorem tw6714874778592591915:True:=⟨⟩
theorem tw12433463153050032294:True:=⟨⟩
theorem tw11364591169988115973:True:=⟨⟩
theorem tw16786724051797561316:True:=⟨⟩
theorem tw1665027763108501357:True:=⟨⟩
theorem tw2236064996644527256:True:=⟨⟩
theorem tw12556029847839860725:True:=⟨⟩
theorem tw16944964211372190404:True:=⟨⟩
theorem tw176948385998142886:True:=⟨⟩
theorem tw12512708737731743999:True:=⟨⟩
theorem tw4152748352156898469:True:=⟨⟩
theorem tw6648462129994248066:True:=⟨⟩
theorem tw18138803490521131743:True:=⟨⟩
theorem tw9955725777182783747:True:=⟨⟩
theorem tw9850080205796870237:True:=⟨⟩
theorem tw4772239353161290706:True:=⟨⟩
theorem tw16247950636815028270:True:=⟨⟩
theorem tw4444346638459920649:True:=⟨⟩
theorem tw2951183010792355984:True:=⟨⟩
theorem tw13420213765526035174:True:=⟨⟩
theorem tw3332208055644709324:True:=⟨⟩
theorem tw8433705399842842318:True:=⟨⟩
theorem tw13142854892931701210:True:=⟨⟩
theorem tw1968979746366068820:True:=⟨⟩
theorem tw16472870025561136258:True:=⟨⟩
theorem tw11371156005171054897:True:=⟨⟩
theorem tw14978812285554833331:True:=⟨⟩
theorem tw5404509840952113231:True:=⟨⟩
theorem tw5191813377975783755:True:=⟨⟩
theorem tw8078682582089079627:True:=⟨⟩
theorem tw11740835790241426664:True:=⟨⟩
theorem tw16163827206771890388:True:=⟨⟩
theorem tw14476789681430511896:True:=⟨⟩
theorem tw11744019636461597335:True:=⟨⟩
theorem tw9508420903615574064:True:=⟨⟩
theorem tw249321044188393471:True:=⟨⟩
theorem tw5316340692018710918:True:=⟨⟩
theorem tw17305374630237403188:True:=⟨⟩
theorem tw3910531838427756454:True:=⟨⟩
theorem tw14887829655379653140:True:=⟨⟩
theorem tw15750086403362377193:True:=⟨⟩
theorem tw18415819394115077099:True:=⟨⟩
theorem tw12171777900985324155:True:=⟨⟩
theorem tw1772713335615672659:True:=⟨⟩
theorem tw10199995153518649044:True:=⟨⟩
theorem tw18054696954136499436:True:=⟨⟩
theorem tw17459492224241822967:True:=⟨⟩
theorem tw13041567115768484836:True:=⟨⟩
theorem tw6637135539513939334:True:=⟨⟩
theorem tw14670844038575329887:True:=⟨⟩
theorem tw10748799596751567054:True:=⟨⟩
theorem tw17350246881561692642:True:=⟨⟩
theorem tw8603811530504686702:True:=⟨⟩
theorem tw15462438369524060040:True:=⟨⟩
theorem tw7345312722728953546:True:=⟨⟩
theorem tw16951353490994938357:True:=⟨⟩
theorem tw12530540554310829009:True:=⟨⟩
theorem tw1161811535729471873:True:=⟨⟩
theorem tw1844933065402814566:True:=⟨⟩
theorem tw2342356863665322406:True:=⟨⟩
theorem tw16468423863491997872:True:=⟨⟩
theorem tw15107941572226940483:True:=⟨⟩
theorem tw4997804878369841040:True:=⟨⟩
theorem tw12219324237935359545:True:=⟨⟩
theorem tw10942183929490207528:True:=⟨⟩
theorem tw6420231106777056829:True:=⟨⟩
theorem tw4734339320005321388:True:=⟨⟩
theorem tw12967901672205375957:True:=⟨⟩
theorem tw5901563842759088990:True:=⟨⟩
theorem tw17124535935250710064:True:=⟨⟩
theorem tw1204271621195139027:True:=⟨⟩
theorem tw8031754262681030788:True:=⟨⟩
theorem tw7308246280062419647:True:=⟨⟩
theorem tw2861293685949764786:True:=⟨⟩
theorem tw12437397629589293817:True:=⟨⟩
theorem tw5002562525297893216:True:=⟨⟩
theorem tw18234825045858165520:True:=⟨⟩
theorem tw8748771333960676822:True:=⟨⟩
theorem tw18082361602129521650:True:=⟨⟩
theorem tw3184774833860341760:True:=⟨⟩
theorem tw12147186159819888661:True:=⟨⟩
theorem tw3785314828254698654:True:=⟨⟩
theorem tw16949797706573498103:True:=⟨⟩
theorem tw7437276476658797951:True:=⟨⟩
theorem tw15248333546418808765:True:=⟨⟩
theorem tw7666543183956010455:True:=⟨⟩
theorem tw9517570302232550655:True:=⟨⟩
theorem tw7355651846257939787:True:=⟨⟩
theorem tw15456262582589465976:True:=⟨⟩
theorem tw18331354168516219418:True:=⟨⟩
theorem tw503800469112122033:True:=⟨⟩
theorem tw6498268351947987513:True:=⟨⟩
theorem tw12374802062337762364:True:=⟨⟩
theorem tw13230275390317341580:True:=⟨⟩
theorem tw6314023903048650994:True:=⟨⟩
theorem tw13220336452198313380:True:=⟨⟩
theorem tw2162851814658971940:True:=⟨⟩
theorem tw4442013002053591289:True:=⟨⟩
theorem tw9946728577437322148:True:=⟨⟩
theorem tw5993780758369865063:True:=⟨⟩
theorem tw4918487506367138153:True:=⟨⟩
theorem tw11153545560816399741:True:=⟨⟩
theorem tw14471764389796993434:True:=⟨⟩
theorem tw3860414513058127215:True:=⟨⟩
theorem tw7891187269682780319:True:=⟨⟩
theorem tw9768755272599013687:True:=⟨⟩
theorem tw10223256121781156046:True:=⟨⟩
theorem tw8189618820478959669:True:=⟨⟩
theorem tw1243066124495890223:True:=⟨⟩
theorem tw5456410863236793485:True:=⟨⟩
theorem tw8565675347213032697:True:=⟨⟩
theorem tw17244109279109190351:True:=⟨⟩
theorem tw4495224836536034628:True:=⟨⟩
theorem tw12664603061475157803:True:=⟨⟩
theorem tw6163819843495466630:True:=⟨⟩
theorem tw17452399511954836966:True:=⟨⟩
theorem tw17392547808671231723:True:=⟨⟩
theorem tw8838237186855886872:True:=⟨⟩
theorem tw3256018321572737490:True:=⟨⟩
theorem tw2687928205531959455:True:=⟨⟩
theorem tw9827117110531487264:True:=⟨⟩
theorem tw16024721049380276891:True:=⟨⟩
theorem tw3338551937734396596:True:=⟨⟩
theorem tw15612672989176129374:True:=⟨⟩
theorem tw9323309090109283795:True:=⟨⟩
theorem tw15488935277497478749:True:=⟨⟩
theorem tw4881352230493389083:True:=⟨⟩
theorem tw14176055016612669395:True:=⟨⟩
theorem tw5995659937027909031:True:=⟨⟩
theorem tw8003127754893240425:True:=⟨⟩
theorem tw4586532206498630331:True:=⟨⟩
theorem tw1117693239659472110:True:=⟨⟩
theorem tw1281219955826861565:True:=⟨⟩
theorem tw12434568834539214497:True:=⟨⟩
theorem tw12272570134123651924:True:=⟨⟩
theorem tw16543955672824340319:True:=⟨⟩
theorem tw17298026517025686396:True:=⟨⟩
theorem tw7518976862900266744:True:=⟨⟩
theorem tw4464282301539455398:True:=⟨⟩
theorem tw8831113674900762589:True:=⟨⟩
theorem tw11665518295575643890:True:=⟨⟩
theorem tw10614563532063589892:True:=⟨⟩
theorem tw9650657640317480974:True:=⟨⟩
theorem tw8542378638258141827:True:=⟨⟩
theorem tw16111269346847052481:True:=⟨⟩
theorem tw15636137250562669286:True:=⟨⟩
theorem tw16223547312390072303:True:=⟨⟩
theorem tw8094591438676480050:True:=⟨⟩
theorem tw2213109719656232338:True:=⟨⟩
theorem tw11174532432575747297:True:=⟨⟩
theorem tw5043789848219018604:True:=⟨⟩
theorem tw11815922008415765324:True:=⟨⟩
theorem tw18108460414330260936:True:=⟨⟩
theorem tw17821433627550046359:True:=⟨⟩
theorem tw15782965804948572135:True:=⟨⟩
theorem tw11942466682998099992:True:=⟨⟩
theorem tw14375132218876517452:True:=⟨⟩
theorem tw3512493751809528110:True:=⟨⟩
theorem tw5493705708135079048:True:=⟨⟩
theorem tw9382258761150343550:True:=⟨⟩
theorem tw15748434085361279590:True:=⟨⟩
theorem tw5010761344429368069:True:=⟨⟩
theorem tw3388608721301827800:True:=⟨⟩
theorem tw578703075944562816:True:=⟨⟩
theorem tw9243656142057784450:True:=⟨⟩
theorem tw9668597645871275838:True:=⟨⟩
theorem tw7255764452954292787:True:=⟨⟩
theorem tw5938768769525940429:True:=⟨⟩
theorem tw10866617815476903029:True:=⟨⟩
theorem tw10335815674787634503:True:=⟨⟩
theorem tw16535670462649824889:True:=⟨⟩
theorem tw11220409945727951686:True:=⟨⟩
theorem tw306566309305050891:True:=⟨⟩
theorem tw8893788203326435407:True:=⟨⟩
theorem tw13525734025167668087:True:=⟨⟩
theorem tw14339934386953833358:True:=⟨⟩
theorem tw17864698475121104463:True:=⟨⟩
theorem tw11147834123165724561:True:=⟨⟩
theorem tw7220788108024814517:True:=⟨⟩
theorem tw16234125048506502079:True:=⟨⟩
theorem tw13148776282144961283:True:=⟨⟩
theorem tw12132329908492620253:True:=⟨⟩
theorem tw2032687779755058734:True:=⟨⟩
theorem tw9245345826039857243:True:=⟨⟩
theorem tw939815429455243936:True:=⟨⟩
theorem tw15038406870318579943:True:=⟨⟩
theorem tw14506736964648569193:True:=⟨⟩
theorem tw15963926271439859546:True:=⟨⟩
theorem tw6242249935226535004:True:=⟨⟩
theorem tw15736932298616155029:True:=⟨⟩
theorem tw17780882100753523375:True:=⟨⟩
theorem tw5647469452553342718:True:=⟨⟩
theorem tw9356910532875114262:True:=⟨⟩
theorem tw17110544383833206452:True:=⟨⟩
theorem tw3505414269330299357:True:=⟨⟩
theorem tw14156573871370169478:True:=⟨⟩
theorem tw3605778206075332850:True:=⟨⟩
theorem tw16980610242546198142:True:=⟨⟩
theorem tw1284540728723431201:True:=⟨⟩
theorem tw14173622966979148314:True:=⟨⟩
theorem tw8544111436545310063:True:=⟨⟩
theorem tw17395487912309927526:True:=⟨⟩
theorem tw1161188950398259547:True:=⟨⟩
theorem tw7576674661791126339:True:=⟨⟩
theorem tw4349062763196414457:True:=⟨⟩
end PySem.W.Fast
open PySem PySem.W PyProof.Rows
set_option maxRecDepth 100000 in
set_option maxHeartbeats 0 in
theorem PySem.Challenge.cw_signpoly_k35_told_or_barred_holds : PySem.Challenge.rw_signpoly_k35_told_or_barred.Holds := by
 w_on;o_law;k_head;(case hw=>w_witness2)
 k_fill
 refine Own.walk (l:=PySem.Challenge.rw_signpoly_k35_told_or_barred) rfl rfl (λw h Y=>PySem.W.kIn_of Y) ?F
 case F=>
  intro w mg d h KX G a;refine Own.law_mk (h:=h) a ?T
  case T=>
   refine' Own.txt_mk KX G ?F ?z ?c1 ?c2 ?c3 ?m0 ?m2 ?m3 ?d0 ?d1 ?d2 ?d3 ?na
   case F=>(iterate 45 (refine' qcT.2 ⟨Own.fa_mk ?e ?b,?_⟩;(case e=>k_is);(case b=>(refine' L2.fun_mk ?l ?c ?k;(case l=>k_is);(case c=>k_is);case k=>k_is))));intro _ h;cases h
   case z=>(iterate 16 (refine qcT.2 ⟨by k_is,?_⟩));intro _ h;cases h
   case c1=>k_is
   case c2=>k_is
   case c3=>refine' L2.fun_mk ?l ?c ?k;(case l=>k_is);(case c=>k_is);case k=>k_is
   case m0=>kernel_rfl
   case m2=>kernel_rfl
   case m3=>kernel_rfl
   case d0=>kernel_rfl
   case d1=>kernel_rfl
   case d2=>kernel_rfl
   case d3=>kernel_rfl
   case na=>(iterate 6 (refine qcT.2 ⟨by kernel_rfl,?_⟩));intro _ h;cases h
